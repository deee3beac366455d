import PyProof.Rows.All
import Wide.All
import OpenK.AllK
import Wide.FinOn
import Lean
import PyProof.EqAt
import PyProof.EqKinds
import PyProof.TupleCall
import PySem.Challenge.RW_halvecut_k54_the_middle
set_option compiler.extract_closed false
set_option Elab.async false
set_option linter.all false set_option autoImplicit true set_option relaxedAutoImplicit true
set_option maxRecDepth 100000
abbrev yaa:=PySem.Value->PySem.Shared->Prop
abbrev yab:=List (PySem.Addr×PySem.Obj)
abbrev yac:=PySem.W.Frag
abbrev yad:=List PySem.Value
abbrev yae:=List PySem.Addr
abbrev yaf:=List Int
abbrev yag:=List Nat
abbrev yah:=List PySem.Str
abbrev yai:=List PySem.Expr
abbrev yaj:=Nat->Option PySem.Addr
abbrev yak:=Bool->PySem.Addr->Prop
abbrev yal:=List PySem.Stmt
abbrev yam:=PySem.Str->Option PySem.Value
abbrev yan:=Option PySem.Value
abbrev yao:=Array PySem.Value
abbrev yap:=Array Nat
abbrev yaq:=Option Int
def JX:=@PySem.wpAny_bind
def J6:=@List.length_map
def JT:=@if_neg
def JU:=@if_pos
def K0:=@List.mem_cons_of_mem
def Kr:=@List.mem_cons
def LH:=@List.getElem?_eq_getElem
def KR:=@List.mem_append
def Ki:=@PySem.wpAny_pure
def KH:=@List.mem_map
def LX:=@Array.getElem?_toList
def KO:=@Nat.le_refl
def Kd:=@PyProof.Rows.wpS_bind
def LO:=@List.length_append
def LQ:=@List.mem_singleton
def Mv:=@PySem.Heap.get?_push_of_some
def K5:=@List.map_cons
def MZ:=@List.getElem?_eq_some_iff
def Lq:=@Int.mul_nonneg
def K7:=@Int.le_of_lt
def Kx:=@PyProof.Rows.wpS_pure
def MO:=@List.mem_append_right
def Nq:=@List.getD_eq_getElem?_getD
def NM:=@List.getElem?_append_right
def MC:=@List.mem_cons_self
def LC:=@PySem.Heap.lt_size
def MD:=@List.size_toArray
def Mb:=@decide_eq_true
def MV:=@Nat.lt_of_lt_of_le
def LZ:=@Nat.le_trans
def M9:=@List.getElem?_map
def OV:=@List.getElem?_append_left
def Nd:=@of_decide_eq_true
def NS:=@List.mem_of_getElem?
def MW:=@Option.some.inj
def Oa:=@List.getElem?_set_ne
def Ob:=@List.mem_append_left
def NU:=@Array.length_toList
def Mw:=@Int.mul_comm
def Nt:=@List.append_assoc
def Na:=@List.map_append
def Mf:=@Int.le_refl
def Nu:=@List.cons_append
def NV:=@List.pairwise_cons
def OL:=@List.take_append_drop
def Pf:=@Int.mul_neg_of_neg_of_pos
def Ms:=@Int.neg_mul
def Mx:=@Nat.zero_le
def Ou:=@PySem.Heap.get?_push_size
def PN:=@Array.getElem?_eq_getElem
def OM:=@Bool.false_eq_true
def Ov:=@Bool.false_ne_true
def NW:=@List.length_take
def MX:=@List.map_map
def Pg:=@List.take_of_length_le
def P6:=@Int.mul_neg_of_pos_of_neg
def Oc:=@List.length_cons
def Od:=@Nat.mod_eq_of_lt
def Oe:=@List.nil_append
def Rx:=@Int.nonneg_of_mul_nonneg_right
def Nf:=@Nat.ne_of_lt
def ON:=@List.length_drop
def Ox:=@Int.mul_eq_zero
def QO:=@List.pairwise_iff_getElem
def Su:=@Int.mul_nonpos_of_nonpos_of_nonneg
def OW:=@List.cons.injEq
def Pa:=@List.append_nil
def ME:=@Prod.ext
def P7:=@List.length_reverse
def Of:=@Int.add_zero
def Ph:=@List.getElem_map
def Pc:=@List.mem_filter
def Qs:=@List.pairwise_append
def Pj:=@Nat.lt_succ_self
def P8:=@List.length_range'
def OO:=@PySem.wpAny_holding
def Qt:=@List.filter_eq_self
def RP:=@List.drop_eq_getElem_cons
def PO:=@List.not_mem_nil
def Og:=@Int.mul_pos
def NO:=@Int.not_le
def Ry:=@List.getElem?_set_self
def QP:=@List.length_dropLast
def NP:=@PySem.wpAny_mono
def OP:=@Nat.succ_pos
def QQ:=@List.getElem_of_mem
def Sv:=@Array.getElem?_eq_some_iff
def P9:=@List.getElem_mem
def UG:=@Int.mul_nonneg_of_nonpos_of_nonpos
def OX:=@Int.zero_mul
def Qu:=@PySem.wpAny_setState_of
def OY:=@PyProof.Rows.wpS_forRange
def To:=@List.eq_nil_of_length_eq_zero
def Rz:=@Array.toList_extract
def Sw:=@Int.mul_pos_of_neg_of_neg
def RQ:=@Option.map_eq_some_iff
def Qa:=@Nat.min_eq_left
def Pk:=@Prod.mk.injEq
def Qb:=@decide_eq_false
def Qv:=@List.mem_reverse
def Pm:=@Nat.pow_succ
def Pn:=@Nat.zero_add
def RA:=@PySem.wpAny_Call_Name_kw
def QR:=@List.lookup_cons
def Tp:=@List.sublist_append_right
def Qc:=@Int.lt_irrefl
def UH:=@List.dropLast_concat_getLast
def Po:=@Int.one_mul
def QS:=@List.nodup_cons
def RB:=@Bool.and_eq_true
def Sx:=@List.mem_of_mem_drop
def Sy:=@List.mem_of_mem_take
def RC:=@Nat.succ_lt_succ
def Qe:=@Int.mul_zero
def Qw:=@Nat.lt_irrefl
def Tq:=@PySem.Heap.get?_update_other
def Ts:=@List.singleton_sublist
def Sz:=@Array.toList_append
def Oy:=@PyProof.Rows.wpS_mono
def Pp:=@Int.not_lt
def Tt:=@PySem.Heap.get?_update_self
def Tu:=@Int.natAbs_dvd_natAbs
def Vs:=@List.getLast?_eq_some_getLast
def RS:=@List.mem_flatMap
def QT:=@List.sum_cons
def UI:=@Nat.add_sub_cancel_left
def SA:=@Int.lt_trichotomy
def XH:=@Int.mul_nonpos_of_nonneg_of_nonpos
def SD:=@List.mem_range'_1
def Tv:=@List.map_congr_left
def RD:=@List.map_nil
def QU:=@Nat.le_of_lt
def Vt:=@Array.perm_iff_toList_perm
def Vu:=@Classical.byContradiction
def Vv:=@List.extract_eq_take_drop
def Vw:=@List.getLastD_eq_getLast?
def SE:=@Bool.eq_iff_iff
def SF:=@Int.mul_ne_zero
def SG:=@List.find?_cons
def Qx:=@Nat.not_lt
def Tw:=@Array.toList_push
def Tx:=@List.reverse_cons
def Tz:=@Nat.lt_of_succ_lt
def XI:=@List.drop_append_of_le_length
def Vx:=@List.filter_cons_of_neg
def Vy:=@List.filter_cons_of_pos
def Vz:=@List.getElem?_replicate
def UJ:=@PySem.Heap.SameBut.update
def UK:=@List.reverse_append
def TB:=@Int.dvd_mul_left
def TC:=@List.take_length
def QV:=@Nat.mod_lt
def RT:=@Int.dvd_refl
def UL:=@List.append_of_mem
def UM:=@List.getElem?_drop
def RU:=@Nat.le_of_eq
def UN:=@Nat.lt_of_le_of_lt
def VA:=@Int.eq_of_sub_eq_zero
def VB:=@List.pairwise_reverse
def TF:=@PySem.codeAny_builtin
def TG:=@PySem.wpAny_passesOwn
def UO:=@List.take_sublist
def UP:=@Nat.add_mod_right
def UQ:=@PySem.wpAny_newObj_type
def UR:=@PySem.wpAny_truthy_bool
def XJ:=@List.getLast?_eq_none_iff
def VC:=@Nat.pow_le_pow_right
def RE:=@PyProof.Rows.wpS_modify
def RV:=@Int.neg_neg
def XM:=@List.filterMap_cons_some
def US:=@Nat.le_of_not_lt
def VD:=@List.filterMap_cons
def VE:=@List.length_pos_iff
def TH:=@Nat.le_of_dvd
def UT:=@Int.dvd_coe_gcd
def UU:=@Int.le_antisymm
def VF:=@List.getElem?_take
def UW:=@List.length_set
def VG:=@List.mem_filterMap
def UX:=@PySem.wpAny_execs_nil
def XN:=@Array.getElem?_eq_none
def XO:=@Int.fmod_nonneg_of_pos
def XQ:=@List.getElem?_dropLast
def YI:=@Int.mul_le_mul_of_nonneg_left
def VH:=@List.pairwise_map
def VI:=@Nat.lt_succ_of_lt
def VJ:=@Nat.lt_trichotomy
def UY:=@List.Perm.refl
def XR:=@List.length_filter_le
def XS:=@List.length_singleton
def TJ:=@Nat.sub_self
def VL:=@Int.gcd_mul_left
def XT:=@Int.le_of_neg_le_neg
def VM:=@List.all_eq_true
def VN:=@PySem.wpAny_askSetting
def VO:=@PySem.wpAny_call_entry
def YJ:=@Array.toList_setIfInBounds
def UZ:=@Int.dvd_trans
def YK:=@Int.fdiv_eq_ediv_of_nonneg
def U0:=@Int.mul_assoc
def XU:=@List.getD_cons_zero
def VP:=@Int.mul_dvd_mul
def YL:=@List.getLast?_eq_getElem?
def XW:=@Array.append_assoc
def U1:=@Int.zero_add
def XX:=@List.filter_append
def VQ:=@Int.natAbs_mul
def VR:=@List.drop_drop
def VS:=@List.drop_zero
namespace L2
open PySem PySem.Spec PyProof.Rows
abbrev Key:=Sum Int Str
def mr:Key->Value->Bool
 |.inl k,v=>Value.isInt k v
 |.inr x,v=>Value.isStrOf x v
def Jw(w:World):Key->Int
 |.inl k=>hashInt k
 |.inr x=>hashStr w x
def bI:∀{k:Key} {v:Value},mr k v=true->(∃i t,k=Sum.inl i/\v=Value.int i t)∨(∃x t,k=Sum.inr x/\v=Value.str x t)
 |.inl i,v,h=>by obtain⟨t,e⟩:=Value.isInt_shape (k:=i) (v:=v) h;exact .inl ⟨i,t,rfl,e⟩
 |.inr x,v,h=>by obtain⟨t,e⟩:=Value.isStrOf_shape (x:=x) (v:=v) h;exact .inr ⟨x,t,rfl,e⟩
def Au(i:Int)(t:Tok):mr (.inl i) (.int i t)=true:=by simp[mr,Value.isInt]
def Av(x:Str)(t:Tok):mr (.inr x) (.str x t)=true:=by simp[mr,Value.isStrOf]
def Hj(a b:Int):decide ((Sum.inl a:Key)=Sum.inl b)=(a==b):=by
 by_cases e:a=b
 ·subst e;simp
 ·have h:¬(Sum.inl a:Key)=Sum.inl b:=fun q=>e (Sum.inl.inj q)
  rw[Qb h];exact(beq_eq_false_iff_ne.mpr e).symm
def Hm(a b:Str):decide ((Sum.inr a:Key)=Sum.inr b)=decide (a=b):=by
 by_cases e:a=b
 ·subst e;simp
 ·have h:¬(Sum.inr a:Key)=Sum.inr b:=fun q=>e (Sum.inr.inj q)
  rw[Qb h,Qb e]
def Hk(a:Int)(b:Str):decide ((Sum.inl a:Key)=Sum.inr b)=false:=Qb (fun q=>nomatch q)
def Hl(a:Str)(b:Int):decide ((Sum.inr a:Key)=Sum.inl b)=false:=Qb (fun q=>nomatch q)
def bG(prog:Program)(w:World):PySem.KeyKind prog w Key where
 is:=mr
 hash:=Jw w
 inj:=fun v a b ha hb=>by
  rcases bI ha with⟨i,t,rfl,rfl⟩| ⟨x,t,rfl,rfl⟩
  ·rcases bI hb with⟨j,u,rfl,e⟩| ⟨y,u,rfl,e⟩
   ·injection e with e1 _;rw[e1]
   ·exact nomatch e
  ·rcases bI hb with⟨j,u,rfl,e⟩| ⟨y,u,rfl,e⟩
   ·exact nomatch e
   ·injection e with e1 _;rw[e1]
 byValue:=fun k v h=>by
  rcases bI h with⟨i,t,rfl,rfl⟩| ⟨x,t,rfl,rfl⟩<;>rfl
 pyHash:=fun hv h=>by
  rcases bI hv with⟨i,t,rfl,rfl⟩| ⟨x,t,rfl,rfl⟩
  ·exact wpAny_pyHash_int h
  ·exact wpAny_pyHash_str h
 eqBool:=fun hu hv h=>by
  rcases bI hu with⟨i,t,rfl,rfl⟩| ⟨x,t,rfl,rfl⟩
  ·rcases bI hv with⟨j,u,rfl,rfl⟩| ⟨y,u,rfl,rfl⟩
   ·rw[Hj]at h;exact wpAny_eqBool_int h
   ·rw[Hk]at h;exact SeqAt.EqAt.int_str i t y u _ _ _ _ h
  ·rcases bI hv with⟨j,u,rfl,rfl⟩| ⟨y,u,rfl,rfl⟩
   ·rw[Hl]at h;exact SeqAt.EqAt.str_int x t j u _ _ _ _ h
   ·rw[Hm]at h;exact wpAny_eqBool_str h
 «strs»:=fun k x t v h=>by
  rcases bI h with⟨i,u,rfl,e⟩| ⟨y,u,rfl,e⟩
  ·exact nomatch e
  ·injection e with e1 _;subst e1;cases v<;>rfl
def wy(prog:Program)(w:World)(i:Int)(t:Tok):(bG prog w).is (.inl i) (.int i t)=true:=Au i t
def wz(prog:Program)(w:World)(x:Str)(t:Tok):(bG prog w).is (.inr x) (.str x t)=true:=Av x t
inductive V where
 |Kt|bl (b:Bool)|int (i:Int)|str (x:Str)|QW (b:Array UInt8)|VT (b:UInt64)|ref (a:Addr)|ty (n:String)
 deriving DecidableEq
abbrev yar:=List V
def RelV:V->Value->Prop
 |.Kt,u=>u=Value.none
 |.bl b,u=>u=Value.bool b
 |.int i,u=>∃t,u=Value.int i t
 |.str x,u=>∃t,u=Value.str x t
 |.QW b,u=>∃t,u=Value.bytes b t
 |.VT b,u=>∃t,u=Value.float b t
 |.ref a,u=>u=Value.ref a
 |.ty n,u=>u=Value.type n
abbrev Vals:yar->yad->Prop:=Paired RelV
theorem Vals.length(r:Vals xs us):xs.length=us.length:=Paired.length r
theorem Vals.get:∀{xs:yar} {us:yad} {i:Nat} {x:V},Vals xs us->xs[i]?=some x->∃u,us[i]?=some u/\RelV x u
 |_,_,_,_,.nil,e=>by simp at e
 |_,_,0,_,.cons r _,e=>by simp at e;subst e;exact⟨_,rfl,r⟩
 |_,_,i+1,x,.cons _ t,e=>by obtain⟨u,h1,h2⟩:=Vals.get (i:=i) (x:=x) t (by simpa using e);exact⟨u,by simpa using h1,h2⟩
theorem Vals.set(r:RelV x u):∀{xs:yar} {us:yad} (i:Nat),Vals xs us->Vals (xs.set i x) (us.set i u)
 |_,_,_,.nil=>.nil
 |_,_,0,.cons _ t=>.cons r t
 |_,_,i+1,.cons q t=>.cons q (Vals.set r i t)
theorem Vals.append:∀{xs ys:yar} {us ws:yad},Vals xs us->Vals ys ws->Vals (xs++ys) (us++ws)
 |_,_,_,_,.nil,s=>s
 |_,_,_,_,.cons r t,s=>.cons r (Vals.append t s)
theorem Vals.take:∀{xs:yar} {us:yad} (n:Nat),Vals xs us->Vals (xs.take n) (us.take n)
 |_,_,0,_=>.nil
 |_,_,_+1,.nil=>.nil
 |_,_,n+1,.cons r t=>.cons r (Vals.take n t)
theorem Vals.drop:∀{xs:yar} {us:yad} (n:Nat),Vals xs us->Vals (xs.drop n) (us.drop n)
 |_,_,0,r=>r
 |_,_,_+1,.nil=>.nil
 |_,_,n+1,.cons _ t=>Vals.drop n t
def jb:Option V->yan->Prop
 |some v,some u=>RelV v u
 |none,none=>True
 |_,_=>False
def KV{κ:Type}:List (κ×V)->List (κ×Value)->Prop:=Paired fun(p:κ×V) (q:κ×Value)=>p.1=q.1/\RelV p.2 q.2
def kV:Key->V
 |.inl i=>.int i
 |.inr x=>.str x
inductive HO where
 |lst (xs:yar)
 |tup (xs:yar)
 |dK (kvs:List (Key×V))|dT (kvs:List (List Key×V))
 |set (S:Int->Bool) (n:Nat)
 |ins (C dx:Addr) (fs:List (Str×V))
 |own (x:Addr)
 |xd (fs:List (Str×V))
 |met (f x:Addr)
 |XZ (lo hi:Int)
 |frz (o:Obj) (u:HO)
 |OZ (ps:yao)
 |ext (φ:Heap->Prop)
abbrev Hp:=Addr->Option HO
def upd(H:Hp)(a:Addr)(o:HO):Hp:=fun b=>if b=a then some o else H b
def aO:upd H a o a=some o:=by unfold upd;rw[JU rfl]
def aw{a b:Addr}(h:b≠a):upd H a o b=H b:=by unfold upd;rw[JT h]
def j5{H:Hp}{o u:HO}(h:H a=some o)(h':H b=some u)(d:o≠u):a≠b:=by intro e;subst e;rw[h]at h';exact d (MW h')
def bf{H:Hp}{o:HO}(h:H a=some o)(h':H b=none):a≠b:=by intro e;subst e;rw[h]at h';cases h'
section
variable(P:Program)(w:World)
def bu(H:Hp)(h:Heap)(a:Addr):HO->Prop
 |.lst xs=>xs.length<=sizeLine/\∃(JZ:yad) (n:Nat),Vals xs JZ/\h.get? a=some {cls:=.type "list", data:=.seq JZ.toArray n}
 |.tup xs=>xs.length<=sizeLine/\∃JZ:yad,Vals xs JZ/\IsTup h a JZ.toArray
 |.dK kvs=>kvs.length<=sizeLine/\(a==sysModules)=false/\∃vs,KV kvs vs/\h.DictOf (bG P w) a vs
 |.dT kvs=>kvs.length<=sizeLine/\(a==sysModules)=false/\∃xs:List (List Key×Addr×Value),
   Paired (fun(p:List Key×V) (q:List Key×Addr×Value)=>p.1=q.1/\H q.2.1=some (.tup (p.1.map kV))/\RelV p.2 q.2.2) kvs xs ∧
   ∃ o es ep,h.get? a=some o/\o.ExactDict/\o.data=.dict es ep/\es.toList=xs.map (entryOfKey (tupleKind (bG P w)))/\(xs.map (·.1)).Nodup
 |.set S n=>h.SetOf (intKind P w) a S n
 |.ins C dx fs=>H dx=some (.own a)/\fs.length<=1000/\dx≠a/\h.get? a=some (PySem.W.instObj C dx) ∧
   ∃ mA,h.Ns1 dx mA/\(∀f,jb (fs.lookup f) (mA f))/\PySem.Within mA (fs.map (·.1))
 |.own _=>∃o,h.get? a=some o
 |.xd fs=>∃mA,h.Ns1 a mA/\∀f,jb (fs.lookup f) (mA f)
 |.XZ lo hi=>∃t u v,h.get? a=some {cls:=.type "range", data:=.fields #[.int lo t,.int hi u,.int 1 v]}
 |.frz o u=>h.get? a=some o/\bu H h a u
 |.OZ ps=>h.get? a=some {cls:=.none,data:=.fields ps}
 |.met f x=>h.get? a=some (PySem.W.methodObj (.ref f) (.ref x))
 |.ext φ=>φ h/\(∃o,h.get? a=some o)/\∀h1 h2:Heap,φ h1->(∀o,h1.get? a=some o->h2.get? a=some o)->φ h2
def Md(H:Hp)(h:Heap):Prop:=∀a o,H a=some o->bu P w H h a o
end
section
variable{P:Program}{w:World}{H H':Hp}{h h':Heap}{a:Addr}{o:HO}
theorem bu.lt(x:bu P w H h a o):a<h.objs.size:=by
 cases o with
 |lst xs=>obtain⟨_,_,_,_,e⟩:=x;exact LC e
 |tup xs=>obtain⟨_,_,_,p⟩:=x;exact p.lt
 |dK kvs=>obtain⟨_,_,_,_,o,_,_,e,_⟩:=x;exact LC e
 |dT kvs=>obtain⟨_,_,_,_,o,_,_,e,_⟩:=x;exact LC e
 |set S n=>obtain⟨o,_,_,_,e,_⟩:=x;exact LC e
 |ins C dx fs=>obtain⟨_,_,_,e,_⟩:=x;exact LC e
 |own y=>obtain⟨_,e⟩:=x;exact LC e
 |xd fs=>obtain⟨_,⟨_,_,_,e,_⟩,_⟩:=x;exact LC e
 |XZ lo hi=>obtain⟨_,_,_,e⟩:=x;exact LC e
 |frz ob u=>obtain⟨e,_⟩:=x;exact LC e
 |OZ ps=>exact LC (show h.get? a=some _ from x)
 |met f y=>exact LC (show h.get? a=some _ from x)
 |ext φ=>obtain⟨_,⟨_,e⟩,_⟩:=x;exact LC e
theorem Paired.TL{α β:Type}{F G:α->β->Prop}:∀{VU:List α} {VW:List β},Paired F VU VW->(∀a b,F a b->G a b)->Paired G VU VW
 |_,_,.nil,_=>.nil
 |_,_,.cons r t,f=>.cons (f _ _ r) (Paired.TL t f)
def bu.O0(x:bu P w H h a o)(k:∀b u,(b=a∨H b=some (.own a))->h.get? b=some u->h'.get? b=some u)
  (ho:∀b,H b=some (.own a)->H' b=some (.own a)) (ht:∀b xs,H b=some (.tup xs)->H' b=some (.tup xs)):bu P w H' h' a o:=by
 induction o with
 |lst xs=>obtain⟨z,JZ,n,r,e⟩:=x;exact⟨z,JZ,n,r,k _ _ (.inl rfl) e⟩
 |tup xs=>obtain⟨z,JZ,r,ob,e,c⟩:=x;exact⟨z,JZ,r,ob,k _ _ (.inl rfl) e,c⟩
 |dK kvs=>obtain⟨z,y,vs,r,ob,es,ep,e,c⟩:=x;exact⟨z,y,vs,r,ob,es,ep,k _ _ (.inl rfl) e,c⟩
 |dT kvs =>
  obtain⟨z,y,xs,r,ob,es,ep,e,c⟩:=x;exact⟨z,y,xs,Paired.TL r fun p q z=>⟨z.1,ht _ _ z.2.1,z.2.2⟩,ob,es,ep,k _ _ (.inl rfl) e,c⟩
 |set S n=>obtain⟨ob,es,ep,t,e,c⟩:=x;exact⟨ob,es,ep,t,k _ _ (.inl rfl) e,c⟩
 |ins C dx fs =>
  obtain⟨d,z,ne,e,mA,⟨od,es,ep,e2,c⟩,r⟩:=x;exact⟨ho _ d,z,ne,k _ _ (.inl rfl) e,mA,⟨od,es,ep,k _ _ (.inr d) e2,c⟩,r⟩
 |own y=>obtain⟨ob,e⟩:=x;exact⟨ob,k _ _ (.inl rfl) e⟩
 |xd fs=>obtain⟨mA,⟨od,es,ep,e,c⟩,r⟩:=x;exact⟨mA,⟨od,es,ep,k _ _ (.inl rfl) e,c⟩,r⟩
 |XZ lo hi=>obtain⟨t,u,v,e⟩:=x;exact⟨t,u,v,k _ _ (.inl rfl) e⟩
 |frz ob u ih=>obtain⟨e,q⟩:=x;exact⟨k _ _ (.inl rfl) e,ih q⟩
 |OZ ps =>
  have e:h.get? a=some {cls:=.none,data:=.fields ps}:=x;show h'.get? a=some {cls:=.none,data:=.fields ps};exact k a _ (.inl rfl) e
 |met f y =>
  have e:h.get? a=some (PySem.W.methodObj (.ref f) (.ref y)):=x;show h'.get? a=some (PySem.W.methodObj (.ref f) (.ref y));exact k a _ (.inl rfl) e
 |ext φ=>obtain⟨p,⟨o,e⟩,st⟩:=x;exact⟨st _ _ p fun o q=>k _ _ (.inl rfl) q,⟨o,k _ _ (.inl rfl) e⟩,st⟩
theorem Md.lt(x:Md P w H h)(e:H a=some o):a<h.objs.size:=(x a o e).lt
def Md.fresh(x:Md P w H h)(e:h.objs.size<=a):H a=none:=by
 cases q:H a with
 |none=>rfl
 |some u=>exact absurd (MV (x.lt q) e) (Qw _)
def Md.kept(x:Md P w H h)(k:∀b u,h.get? b=some u->h'.get? b=some u):Md P w H h':=fun a o e =>
 (x a o e).O0 (fun b u _ q=>k b u q) (fun _ q=>q) fun _ _ q=>q
def Md.laid(x:Md P w H h)(k:∀b u,h.get? b=some u->h'.get? b=some u)(hp:h.objs.size<=a)(new:bu P w (upd H a o) h' a o):Md P w (upd H a o) h':=fun b u e=>by
 have hn:=x.fresh hp;by_cases hb:b=a
 ·subst hb;rw[aO]at e;cases e;exact new
 ·rw[aw hb]at e;exact(x b u e).O0 (fun c v _ q=>k c v q) (fun c q=>by rw[aw (bf q hn)];exact q) fun c xs q=>by rw[aw (bf q hn)];exact q
end
def Rd(H:Hp)(a:Addr)(u:HO):Prop:=H a=some u∨∃ o,H a=some (.frz o u)
def Rd.ok(r:Rd H a u)(x:Md P w H h):bu P w H h a u:=by
 rcases r with r|⟨o,r⟩
 ·exact x a u r
 ·obtain⟨_,q⟩:=x a _ r;exact q
def VX:Option HO->Prop
 |some (.lst _)=>True
 |some (.dK _)=>True
 |some (.dT _)=>True
 |some (.set _ _)=>True
 |some (.ins _ _ _)=>True
 |some (.ext _)=>True
 |_=>False
section
variable{P:Program}{w:World}{H:Hp}{h h':Heap}{x e:Addr}{o':HO}
def Md.write(ok:Md P w H h)(mu:VX (H x))(he:e=x∨H e=some (.own x))(k:∀b u,b≠e->h.get? b=some u->h'.get? b=some u)(U3:∃u,h'.get? e=some u)
  (new:bu P w (upd H x o') h' x o'):Md P w (upd H x o') h':=fun b u q=>by
 have VY:∀c y,H c=some (.own y)->c≠x:=fun c y r z=>by subst z;rw[r]at mu;exact mu
 have YM:∀c xs,H c=some (.tup xs)->c≠x:=fun c xs r z=>by subst z;rw[r]at mu;exact mu
 by_cases hb:b=x
 ·subst hb;rw[aO]at q;cases q;exact new
 ·rw[aw hb]at q;by_cases TM:b=e
  ·have q':H b=some (.own x):=by
    rcases he with z|z
    ·exact absurd (TM.trans z) hb
    ·rw[TM];exact z
   rw[q]at q';cases q';obtain⟨v,hv⟩:=U3;exact⟨v,by rw[TM];exact hv⟩
  ·refine(ok b u q).O0 (fun c v hc r=>k c v ?_ r) (fun c r=>by rw[aw (VY c b r)];exact r) fun c xs r=>by rw[aw (YM c xs r)];exact r
   rcases hc with rfl|hc
   ·exact TM
   ·rintro rfl;rcases he with z|z
    ·exact VY c b hc z
    ·rw[hc]at z;cases z;exact hb rfl
end
structure Un(fs ex:yae)(H H':Hp)(h h':Heap):Prop where
 keep:∀b o,h.get? b=some o->H b=none->b∉fs->b∉ex->h'.get? b=some o
 slot:∀b o,h.get? b=some o->H b=none->b∈fs->b∉ex->∃sl,h'.get? b=some {o with slots:=sl}
 free:∀b o,h.get? b=some o->H b=none->b∉ex->H' b=none
 there:∀b o,h.get? b=some o->b∉ex->∃o',h'.get? b=some o'
 Nv:∀b xs,H b=some (.tup xs)->H' b=some (.tup xs)
 Ng:∀b o u,H b=some (.frz o u)->H' b=some (.frz o u)
 Nw:∀b ps,H b=some (.OZ ps)->∃more,H' b=some (.OZ (ps++more))
section
variable{fs fs' ex ex':yae}{H H1 H2:Hp}{h h1 h2 h':Heap}{a x e:Addr}{o:HO}
def Un.any(u:Un fs ex H H1 h h1){ob:Obj}(q:h.get? b=some ob)(n:H b=none)(hx:b∉ex):∃sl,h1.get? b=some {ob with slots:=sl}:=by
 by_cases hb:b∈fs
 ·exact u.slot b ob q n hb hx
 ·exact⟨ob.slots,u.keep b ob q n hb hx⟩
def Un.kept(k:∀b u,h.get? b=some u->h'.get? b=some u):Un fs ex H H h h' :=
 ⟨fun b ob q _ _ _=>k b ob q,fun b ob q _ _ _=>⟨ob.slots,k b ob q⟩,fun _ _ _ n _=>n,fun b ob q _=>⟨ob,k b ob q⟩,fun _ _ q=>q,fun _ _ _ q=>q,fun _ ps q=>⟨#[],by rw[q];simp⟩⟩
def Un.refl:Un fs ex H H h h:=Un.kept fun _ _ q=>q
def Un.laid(k:∀b u,h.get? b=some u->h'.get? b=some u)(hp:h.objs.size<=a)(hn:H a=none):Un fs ex H (upd H a o) h h' where
 keep:=fun b u q _ _ _=>k b u q
 slot:=fun b u q _ _ _=>⟨u.slots,k b u q⟩
 free:=fun b u q n _=>by rw[aw (Nf (MV (LC q) hp))];exact n
 there:=fun b u q _=>⟨u,k b u q⟩
 Nv:=fun b xs q=>by rw[aw (bf q hn)];exact q
 Ng:=fun b u xs q=>by rw[aw (bf q hn)];exact q
 Nw:=fun b ps q=>⟨#[],by rw[aw (bf q hn),q];simp⟩
def Un.write(mu:VX (H x))(he:e=x∨H e=some (.own x))(k:∀b u,b≠e->h.get? b=some u->h'.get? b=some u)(U3:∃u,h'.get? e=some u):Un fs ex H (upd H x o) h h':=by
 have hx:∀b,H b=none->b≠x:=fun b n z=>by subst z;rw[n]at mu;exact mu
 have hb:∀b,H b=none->b≠e:=fun b n z=>by
  subst z;rcases he with r|r
  ·exact hx b n r
  ·rw[n]at r;cases r
 have hm:∀b u,H b=some u->¬VX (some u)->b≠x:=fun b u q nm z=>by subst z;rw[q]at mu;exact nm mu
 refine⟨fun b u q n _ _=>k b u (hb b n) q,fun b u q n _ _=>⟨u.slots,k b u (hb b n) q⟩,fun b u q n _=>by rw[aw (hx b n)];exact n,fun b u q _=>?_,
  fun b xs q=>by rw[aw (hm b _ q fun z=>z)];exact q,fun b u xs q=>by rw[aw (hm b _ q fun z=>z)];exact q,fun b ps q=>⟨#[],by rw[aw (hm b _ q fun z=>z),q];simp⟩⟩
 by_cases TM:b=e
 ·subst TM;exact U3
 ·exact⟨u,k b u TM q⟩
end
def trk(h:Heap)(H:Hp):yae:=(List.range h.objs.size).filter fun a=>(H a).isSome
def j1(h:Heap)(H:Hp):Heap:=PySem.W.hideAll h (trk h H)
def Ai(h:Heap)(H:Hp):(j1 h H).objs.size=h.objs.size:=PySem.W.hideAll_size _ _
def Cb{h:Heap}{H:Hp}{o:Obj}(e:h.get? b=some o)(n:H b=none):(j1 h H).get? b=some o :=
 PySem.W.hideAll_get _ e fun hm=>by have q:(H b).isSome=true:=(Pc.mp hm).2;rw[n]at q;simp at q
def E1{o:Obj}(e:(j1 h H).get? b=some o):h.get? b=some o/\H b=none:=by
 have e':h.get? b=some o:=PySem.W.of_hideAll (trk h H) e;refine⟨e',?_⟩;cases q:H b with
 |none=>rfl
 |some x =>
  have hm:b∈trk h H:=Pc.mpr ⟨List.mem_range.mpr (LC e'),by simp[q]⟩;have z:(j1 h H).get? b=none:=PySem.W.hideAll_none (trk h H) hm;rw[z]at e;cases e
def Eb(g h:Heap)(L:Addr):yab:=(List.range h.objs.size).filterMap fun a=>if a=L∨(g.get? a).isSome=true then none else(h.get? a).map fun o=>(a,o)
def rest(g h:Heap)(L d:Addr):yab:=(Eb g h L).filter fun p=>decide (p.1≠d)
structure Mod(K:yac)(mg:yam)(base:Heap):Prop where
 Nm:K.In base
 glob:base.Ns mainGlobals mg
 blt:∃mb,base.Ns builtinsNs mb/\∀x:Str,x ≠ "__name__" -> mb x=bootBuiltins x
 nolimit:base.NoLimit
structure Cx where
 prog:Program
 w:World
 K:yac
 mg:yam
 base:Heap
 A:Around
 N:yah
 J9:Shared
 KY:Hp
 env:Env
 outer:List Env
 stack:List Env
 ex:yae
 fn:Str->Bool
 calm:Bool
 pn:yab
 xe:yaa
def NQ(l:List Env):yae:=l.filterMap (·.frame)
abbrev Cx.fs(X:Cx):yae:=NQ X.outer
def QX(sc:Scope)(x:Str):Prop:=sc.names.lookup x=some .local∨sc.names.lookup x=some .cell∨sc.names.lookup x=some .free
def Loc(sc:Scope)(x:Str):Prop:=sc.names.lookup x=some .local∨sc.names.lookup x=some .cell
def Look(env:Env)(h:Heap)(m:yam)(x:Str)(u:Value):Prop :=
 (env.kindOf x=some .local/\m x=some u)∨((env.kindOf x=some .cell∨env.kindOf x=some .free)/\∃c,env.cells.lookup x=some c/\h.IsCell c (some u))
structure Cx.Ok(X:Cx):Prop where
 mod:Mod X.K X.mg X.base
 kind:X.env.scope.kind=.function
 glob:X.env.globals=mainGlobals
 blt:X.env.builtins=builtinsNs
 above:X.J9.heap.objs.size<=X.env.locals
 inj:∀x y c,X.env.cells.lookup x=some c->X.env.cells.lookup y=some c->x=y
 has:∀x,(X.env.kindOf x=some .cell∨X.env.kindOf x=some .free)->∃c,X.env.cells.lookup x=some c
 Qy:∀x c,X.fn x=true->X.env.cells.lookup x=some c->X.J9.heap.objs.size<=c
 hd:X.calm=true->X.A.handled=none
 frames:X.A.frames=some X.stack
 VZ:X.stack=X.outer∨(X.stack=X.env::X.outer/\X.env.frame=some X.env.locals)
 YN:∀b∈X.ex,b≠X.env.locals/\∀x c,X.env.cells.lookup x=some c->c≠b
 bs:∀b o,X.base.get? b=some o->X.J9.heap.get? b=some o/\X.KY b=none
 SH:X.base.objs.size<=X.J9.heap.objs.size
 Qf:∀b o,X.base.get? b=some o->b∉X.ex
 QY:∀b∈X.ex,b∉X.fs
 M3:X.J9.heap.FunFrames X.base X.outer
 SJ:∀b∈X.fs,X.KY b=none
structure Inv(X:Cx)(pins:yab)(σ:List (Option V))(H:Hp)(s:Shared):Prop where
 ok:X.Ok
 os:s.os=X.J9.os
 bare:AllBare s.gens
 base:Un X.fs X.ex X.KY H X.J9.heap s.heap
 loc:∃m,s.heap.Ns X.env.locals m/\∀(i:Nat) (x:Str) (v:V),X.N[i]?=some x->σ[i]?=some (some v)->QX X.env.scope x->∃u,RelV v u/\Look X.env s.heap m x u
 cell:∀x c,X.env.cells.lookup x=some c->∃v,s.heap.IsCell c v
 free:H X.env.locals=none
 LK:∀x c,X.env.cells.lookup x=some c->H c=none
 pin:∀p∈X.pn++pins,s.heap.get? p.1=some p.2/\H p.1=none/\p.1≠X.env.locals/\p.1∉X.fs/\∀v,p.2.data ≠ .cell v
 Ku:Md X.prog X.w H s.heap
 len:σ.length=X.N.length
section
variable{X:Cx}{pins:yab}{σ:List (Option V)}{H H':Hp}{s:Shared}{h':Heap}
def Cx.Ok.YO(ok:X.Ok){o:Obj}(e:X.base.get? b=some o):b∉X.fs:=fun hb=>by have:=(ok.M3.mem hb).1;rw[e]at this;cases this
theorem Inv.bs(I:Inv X pins σ H s):∀b o,X.base.get? b=some o->s.heap.get? b=some o/\H b=none:=fun b o e =>
 ⟨I.base.keep b o (I.ok.bs b o e).1 (I.ok.bs b o e).2 (I.ok.YO e) (I.ok.Qf b o e),I.base.free b o (I.ok.bs b o e).1 (I.ok.bs b o e).2 (I.ok.Qf b o e)⟩
def Inv.bk(I:Inv X pins σ H s):∀b o,X.base.get? b=some o->s.heap.get? b=some o:=fun b o e=>(I.bs b o e).1
theorem Inv.mod(I:Inv X pins σ H s):Mod X.K X.mg X.base:=I.ok.mod
def Inv.NX(I:Inv X pins σ H s):X.K.In s.heap:=I.ok.mod.Nm.keeps I.bk
theorem Inv.lt(I:Inv X pins σ H s):X.env.locals<s.heap.objs.size:=let ⟨_,hn,_⟩:=I.loc;hn.lt
def Inv.sz(I:Inv X pins σ H s):X.J9.heap.objs.size<=s.heap.objs.size:=LZ I.ok.above (QU I.lt)
def Inv.YQ(I:Inv X pins σ H s){a:Addr}(h:s.heap.objs.size<=a):a∉X.fs:=fun hb=>by obtain⟨_,o,ho,_⟩:=I.ok.M3.mem hb;exact absurd (MV (LC ho) (LZ I.sz h)) (Qw _)
def Inv.RW(I:Inv X pins σ H s):∀x c,X.env.cells.lookup x=some c->c≠X.env.locals:=fun x c e z=>by obtain⟨v,o,ho,hd⟩:=I.cell x c e;obtain⟨m,⟨o',es,ep,Nx,Pd,_⟩,_⟩:=I.loc;rw[z,Nx]at ho;cases ho;rw[Pd]at hd;cases hd
theorem Inv.M3(I:Inv X pins σ H s):s.heap.FunFrames X.base X.outer:=by
 have all:∀(l:List Env),(∀b∈NQ l,b∈X.fs)->X.J9.heap.FunFrames X.base l->s.heap.FunFrames X.base l:=by
  intro l
  induction l with
  |nil=>intro _ _;trivial
  |cons env r ih =>
   intro hs hl;obtain⟨hk,⟨L,o,hf,hn,ho,hd⟩,hr⟩:=hl;have hL:L∈X.fs:=hs L (by unfold NQ;rw[VD,hf];exact MC);obtain⟨sl,e⟩:=I.base.slot L o ho (I.ok.SJ L hL) hL fun z=>I.ok.QY L z hL
   exact⟨hk,⟨L,_,hf,hn,e,hd⟩,ih (fun b hb=>hs b (by unfold NQ;rw[VD,hf];exact K0 _ hb)) hr⟩
 exact all X.outer (fun _ hb=>hb) I.ok.M3
theorem Inv.stack(I:Inv X pins σ H s):s.heap.FunFrames X.base X.stack:=by
 rcases I.ok.VZ with e|⟨e,hf⟩
 ·rw[e];exact I.M3
 ·rw[e];obtain⟨m,hn,_⟩:=I.loc;refine .cons (by rw[I.ok.kind];decide) hf hn ?_ I.M3;exact Heap.get?_none_of_le (LZ I.ok.SH I.ok.above)
def Inv.Ny(I:Inv X pins σ H s):∀b∈NQ X.stack,b∈X.env.locals::X.fs:=fun b hb=>by
 rcases I.ok.VZ with e|⟨e,hf⟩
 ·rw[e]at hb;exact K0 _ hb
 ·rw[e]at hb;unfold NQ at hb;rw[VD,hf]at hb;exact hb
def Inv.Oz(I:Inv X pins σ H s):∀b∈NQ X.stack,H b=none:=fun b hb=>by
 rcases Kr.mp (I.Ny b hb)with e|hb
 ·rw[e];exact I.free
 ·obtain⟨_,o,ho,_⟩:=I.ok.M3.mem hb;exact I.base.free b o ho (I.ok.SJ b hb) fun z=>I.ok.QY b z hb
def Inv.step{t':Nat}{d':Drawn}{ch:yae}(I:Inv X pins σ H s)
  (Qz:∀b∈ch,(b∈X.ex∨X.J9.heap.objs.size<=b)/\b≠X.env.locals/\(∀x c,X.env.cells.lookup x=some c->c≠b)/\∀p∈X.pn++pins,p.1≠b)
  (keep:∀b o,b≠X.env.locals->b∉X.fs->b∉ch->s.heap.get? b=some o->H b=none->h'.get? b=some o)
  (slot:∀b o,b≠X.env.locals->b∈X.fs->b∉ch->s.heap.get? b=some o->H b=none->∃sl,h'.get? b=some {o with slots:=sl}) (free:∀b o,b∉ch->s.heap.get? b=some o->H b=none->H' b=none)
  (there:∀b o,b∉ch->s.heap.get? b=some o->∃o',h'.get? b=some o')
  (Nv:∀b xs,H b=some (.tup xs)->H' b=some (.tup xs)) (Ng:∀b o u,H b=some (.frz o u)->H' b=some (.frz o u)) (Nw:∀b ps,H b=some (.OZ ps)->∃more,H' b=some (.OZ (ps++more)))
  (ns:∀m,s.heap.Ns X.env.locals m->h'.Ns X.env.locals m) (Ku:Md X.prog X.w H' h') (hg:AllBare g') :
  Inv X pins σ H' {s with heap:=h',gens:=g',drawn:=d',toks:=t'}:=by
 have U4:∀b o,X.J9.heap.get? b=some o->b≠X.env.locals:=fun b o e=>Nf (MV (LC e) I.ok.above)
 have X0:∀b o,X.J9.heap.get? b=some o->b∉X.ex->b∉ch:=fun b o e hx hb=>by
  rcases(Qz b hb).1 with z|z
  ·exact hx z
  ·exact absurd (MV (LC e) z) (Qw _)
 have cellK:∀x c,X.env.cells.lookup x=some c->∀v,s.heap.IsCell c v->h'.IsCell c v:=fun x c e v ⟨o,ho,hd⟩=>by
  have V0:c∉ch:=fun z=>(Qz c z).2.2.1 x c e rfl
  by_cases hc:c∈X.fs
  ·obtain⟨sl,q⟩:=slot c o (I.RW x c e) hc V0 ho (I.LK x c e);exact⟨_,q,hd⟩
  ·exact⟨o,keep c o (I.RW x c e) hc V0 ho (I.LK x c e),hd⟩
 refine⟨I.ok,I.os,hg,⟨fun b o e n hb hx=>?_,fun b o e n hb hx=>?_,fun b o e n hx=>?_,fun b o e hx=>?_,fun b xs e=>Nv b xs (I.base.Nv b xs e),fun b o xs e=>Ng b o xs (I.base.Ng b o xs e),fun b ps e=>?_⟩,?_,fun x c e=>?_,?_,fun x c e=>?_,fun p hp=>?_,Ku,I.len⟩
 ·exact keep b o (U4 b o e) hb (X0 b o e hx) (I.base.keep b o e n hb hx) (I.base.free b o e n hx)
 ·obtain⟨sl,e1⟩:=I.base.slot b o e n hb hx;obtain⟨YR,e2⟩:=slot b _ (U4 b o e) hb (X0 b o e hx) e1 (I.base.free b o e n hx);exact⟨YR,e2⟩
 ·obtain⟨o',e1⟩:=I.base.there b o e hx;exact free b o' (X0 b o e hx) e1 (I.base.free b o e n hx)
 ·obtain⟨o',e1⟩:=I.base.there b o e hx;exact there b o' (X0 b o e hx) e1
 ·obtain⟨m1,e1⟩:=I.base.Nw b ps e;obtain⟨m2,e2⟩:=Nw b _ e1;exact⟨m1++m2,by rw[e2,XW]⟩
 ·obtain⟨m,hn,hl⟩:=I.loc;refine⟨m,ns m hn,fun i x v e1 e2 e3=>?_⟩;obtain⟨u,r,l⟩:=hl i x v e1 e2 e3;refine⟨u,r,?_⟩;rcases l with l|⟨k,c,e,z⟩
  ·exact .inl l
  ·exact .inr ⟨k,c,e,cellK x c e _ z⟩
 ·obtain⟨v,z⟩:=I.cell x c e;exact⟨v,cellK x c e v z⟩
 ·obtain⟨m,⟨o,_,_,ho,_⟩,_⟩:=I.loc;exact free _ o (fun z=>(Qz _ z).2.1 rfl) ho I.free
 ·obtain⟨v,o,ho,hd⟩:=I.cell x c e;exact free c o (fun z=>(Qz c z).2.2.1 x c e rfl) ho (I.LK x c e)
 ·obtain⟨e,n,ne,nf,d⟩:=I.pin p hp;have V0:p.1∉ch:=fun z=>(Qz p.1 z).2.2.2 p hp rfl
  exact⟨keep p.1 p.2 ne nf V0 e n,free p.1 p.2 V0 e n,ne,nf,d⟩
def Inv.un{t':Nat}(I:Inv X pins σ H s)(u:Un X.fs [] H H' s.heap h')(Ku:Md X.prog X.w H' h'):Inv X pins σ H' {s with heap:=h',toks:=t'}:=by
 obtain⟨m,⟨o,es,ep,ho,r⟩,_⟩:=id I.loc;obtain⟨sl,hL⟩:=u.any ho I.free (by simp);exact I.step (g':=s.gens) (d':=s.drawn) (ch:=[]) (fun _ z=>nomatch z) (fun b o _ hb _ e n=>u.keep b o e n hb (by simp)) (fun b o _ hb _ e n=>u.slot b o e n hb (by simp)) (fun b o _ e n=>u.free b o e n (by simp)) (fun b o _ e=>u.there b o e (by simp)) u.Nv u.Ng u.Nw (fun m' hm=>by obtain⟨o',OQ,YS,Nx,r'⟩:=hm;rw[ho]at Nx;cases Nx;exact⟨_,OQ,YS,hL,r'⟩) Ku I.bare
def Inv.call{t':Nat}{d':Drawn}(I:Inv X pins σ H s)(u:Un (NQ X.stack) ch H H' s.heap h')(Ku:Md X.prog X.w H' h')(hg:AllBare g')
  (Qz:∀b∈ch,(b∈X.ex∨X.J9.heap.objs.size<=b)/\b≠X.env.locals/\(∀x c,X.env.cells.lookup x=some c->c≠b)/\∀p∈X.pn++pins,p.1≠b) :
  Inv X pins σ H' {s with heap:=h',gens:=g',drawn:=d',toks:=t'}:=by
 obtain⟨m,⟨o,es,ep,ho,r⟩,_⟩:=id I.loc;obtain⟨sl,hL⟩:=u.any ho I.free fun z=>(Qz _ z).2.1 rfl
 exact I.step (ch:=ch) Qz (fun b o hL hb hc e n=>u.keep b o e n (fun z=>(Kr.mp (I.Ny b z)).elim hL hb) hc) (fun b o _ _ hc e n=>u.any e n hc) (fun b o hc e n=>u.free b o e n hc) (fun b o hc e=>u.there b o e hc) u.Nv u.Ng u.Nw (fun m' hm=>by obtain⟨o',OQ,YS,Nx,r'⟩:=hm;rw[ho]at Nx;cases Nx;exact⟨_,OQ,YS,hL,r'⟩) Ku hg
def Inv.turned{t':Nat}{it:Addr}(I:Inv X pins σ H s)(k:∀b o,b≠it->s.heap.get? b=some o->h'.get? b=some o)(hn:H it=none)(hL:it≠X.env.locals)
  (h1:it∈X.ex∨X.J9.heap.objs.size<=it) (h2:∀x c,X.env.cells.lookup x=some c->c≠it) (h3:∀p∈X.pn++pins,p.1≠it):Inv X pins σ H {s with heap:=h',toks:=t'}:=by
 have nit:∀b u,H b=some u->b≠it:=fun b u e z=>by rw[z,hn]at e;cases e
 refine I.step (g':=s.gens) (d':=s.drawn) (ch:=[it]) (fun b hb=>?_) (fun b o _ _ hc e _=>k b o (fun z=>hc (by simp[z])) e) (fun b o _ _ hc e _=>⟨o.slots,k b o (fun z=>hc (by simp[z])) e⟩) (fun _ _ _ _ n=>n)
  (fun b o hc e=>⟨o,k b o (fun z=>hc (by simp[z])) e⟩) (fun _ _ e=>e) (fun _ _ _ e=>e) (fun b ps e=>⟨#[],by rw[e];simp⟩) (fun m hm=>?_) (fun b u e=>?_) I.bare
 ·have e:b=it:=by simpa using hb
  subst e;exact⟨h1,hL,h2,h3⟩
 ·obtain⟨o,es,ep,ho,r⟩:=hm;exact⟨o,es,ep,k _ o (Ne.symm hL) ho,r⟩
 ·refine(I.Ku b u e).O0 (fun c v hc q=>k c v ?_ q) (fun _ q=>q) fun _ _ q=>q
  rcases hc with z|z
  ·rw[z];exact nit b u e
  ·exact nit c _ z
def Inv.tok(I:Inv X pins σ H s)(t:Nat):Inv X pins σ H {s with toks:=t}:=I.un (h':=s.heap) (t':=t) Un.refl I.Ku
theorem Inv.kept{t':Nat}(I:Inv X pins σ H s)(k:∀b u,s.heap.get? b=some u->h'.get? b=some u):Inv X pins σ H {s with heap:=h',toks:=t'}:=I.un (Un.kept k) (I.Ku.kept k)
theorem Inv.laid{a:Addr}{t':Nat}(I:Inv X pins σ H s)(k:∀b u,s.heap.get? b=some u->h'.get? b=some u)(hp:s.heap.objs.size<=a)(new:bu X.prog X.w (upd H a o) h' a o) :
  Inv X pins σ (upd H a o) {s with heap:=h',toks:=t'}:=I.un (Un.laid k hp (I.Ku.fresh hp)) (I.Ku.laid k hp new)
theorem Inv.write{e:Addr}{t':Nat}(I:Inv X pins σ H s)(mu:VX (H x))(he:e=x∨H e=some (.own x))(k:∀b u,b≠e->s.heap.get? b=some u->h'.get? b=some u)(U3:∃u,h'.get? e=some u)
  (new:bu X.prog X.w (upd H x o) h' x o):Inv X pins σ (upd H x o) {s with heap:=h',toks:=t'}:=I.un (Un.write mu he k U3) (I.Ku.write mu he k U3 new)
def Inv.PQ{SK:yab}(I:Inv X pins σ H s)(h:∀p∈SK,s.heap.get? p.1=some p.2/\H p.1=none/\p.1≠X.env.locals/\p.1∉X.fs/\∀v,p.2.data ≠ .cell v):Inv X SK σ H s :=
 ⟨I.ok,I.os,I.bare,I.base,I.loc,I.cell,I.free,I.LK,fun p hp=>(KR.mp hp).elim (fun z=>I.pin p (Ob _ z)) (h p),I.Ku,I.len⟩
def nG{N:yah}(hN:N.Nodup){i j:Nat}{x:Str}(a:N[i]?=some x)(b:N[j]?=some x):i=j:=by obtain⟨h1,e1⟩:=MZ.mp a;obtain⟨h2,e2⟩:=MZ.mp b;exact(List.getElem_inj hN).mp (e1.trans e2.symm)
def sI{i:Nat}{x:Str}{Q:Unit->Shared->Prop}(I:Inv X pins σ H s)(hN:X.N.Nodup)(hi:X.N[i]?=some x)(hx:Loc X.env.scope x)(r:RelV v u)
  (h:∀s',Inv X pins (σ.set i (some v)) H s'->(∃a,Heap.SameBut a s.heap s'.heap/\(a=X.env.locals∨X.env.cells.lookup x=some a))->Q () s') (hf:X.fn x=true∨X.env.scope.names.lookup x=some .local:=by first|exact .inl rfl|exact .inr rfl|assumption):wpAny M A (storeName X.env x u) Q E s:=by
 obtain⟨m,hn,hl⟩:=id I.loc;have YT:(X.env.scope.kind==.class || (X.env.scope.kind==.module && X.env.locals != X.env.globals))=false:=by rw[I.ok.kind];rfl
 have V1:i<σ.length:=by rw[I.len];exact(MZ.mp hi).1
 have RW:=I.RW;have tracked:∀{a:Addr} {h':Heap},(∃o,s.heap.get? a=some o/\H a=none)->Heap.SameBut a s.heap h'->Md X.prog X.w H h':=fun {a h'} ha hs b ob e=>by
  obtain⟨_,_,SM⟩:=ha;refine(I.Ku b ob e).O0 (fun c w' hc q=>(hs.2 c ?_).trans q) (fun _ q=>q) fun _ _ q=>q
  rintro rfl;rcases hc with rfl|hc
  ·rw[SM]at e;cases e
  ·rw[SM]at hc;cases hc
 rcases hx with hk|hk
 ·refine wpAny_storeName_local hk hn (fun h' YU hs=>?_) YT;obtain⟨oL,_,_,X1,_⟩:=id hn;refine h _ ⟨I.ok,I.os,I.bare,⟨fun b o e n hb hx=>?_,fun b o e n hb hx=>?_,I.base.free,fun b o e hx=>?_,I.base.Nv,I.base.Ng,I.base.Nw⟩,⟨_,YU,fun j y v' e1 e2 e3=>?_⟩,fun y c e=>?_,I.free,I.LK,fun p hp=>?_,tracked ⟨oL,X1,I.free⟩ hs,by simpa using I.len⟩ ⟨_,hs,.inl rfl⟩
  ·exact(hs.2 b (Nf (MV (LC e) I.ok.above))).trans (I.base.keep b o e n hb hx)
  ·obtain⟨sl,e1⟩:=I.base.slot b o e n hb hx;exact⟨sl,(hs.2 b (Nf (MV (LC e) I.ok.above))).trans e1⟩
  ·obtain⟨o',e1⟩:=I.base.there b o e hx;exact⟨o',(hs.2 b (Nf (MV (LC e) I.ok.above))).trans e1⟩
  ·by_cases hj:j=i
   ·subst hj;rw[hi]at e1;cases e1;rw[Ry V1]at e2;cases e2;exact⟨u,r,.inl ⟨hk,by simp⟩⟩
   ·rw[Oa (Ne.symm hj)]at e2;obtain⟨u',r',q⟩:=hl j y v' e1 e2 e3;refine⟨u',r',?_⟩;rcases q with⟨k,e⟩| ⟨k,c,e,z⟩
    ·refine .inl ⟨k,?_⟩;have:y≠x:=fun e=>hj (nG hN e1 (e ▸ hi))
     simp[this,e]
    ·exact .inr ⟨k,c,e,z.sameBut hs (RW y c e)⟩
  ·obtain⟨w',z⟩:=I.cell y c e;exact⟨w',z.sameBut hs (RW y c e)⟩
  ·obtain⟨e,n,ne,nf,d⟩:=I.pin p hp;exact⟨(hs.2 p.1 ne).trans e,n,ne,nf,d⟩
 ·have YV:X.fn x=true:=by
   rcases hf with z|z
   ·exact z
   ·rw[z]at hk;cases hk
  obtain⟨c,hc⟩:=I.ok.has x (.inl hk);obtain⟨w',z⟩:=I.cell x c hc;refine wpAny_storeName_cell I.ok.kind hk hc z (fun h' PR hs=>?_);obtain⟨oc,hoc,YW⟩:=id z;refine h {s with heap:=h'} ⟨I.ok,I.os,I.bare,⟨fun b o e n hb hx=>?_,fun b o e n hb hx=>?_,I.base.free,fun b o e hx=>?_,I.base.Nv,I.base.Ng,I.base.Nw⟩,⟨m,hn.sameBut hs (Ne.symm (RW x c hc)),fun j y v' e1 e2 e3=>?_⟩,fun y c' e=>?_,I.free,I.LK,fun p hp=>?_,tracked ⟨oc,hoc,I.LK x c hc⟩ hs,by simpa using I.len⟩ ⟨c,hs,.inr hc⟩
  ·exact(hs.2 b (Nf (MV (LC e) (I.ok.Qy x c YV hc)))).trans (I.base.keep b o e n hb hx)
  ·obtain⟨sl,e1⟩:=I.base.slot b o e n hb hx;exact⟨sl,(hs.2 b (Nf (MV (LC e) (I.ok.Qy x c YV hc)))).trans e1⟩
  ·obtain⟨o',e1⟩:=I.base.there b o e hx;exact⟨o',(hs.2 b (Nf (MV (LC e) (I.ok.Qy x c YV hc)))).trans e1⟩
  ·by_cases hj:j=i
   ·subst hj;rw[hi]at e1;cases e1;rw[Ry V1]at e2;cases e2;exact⟨u,r,.inr ⟨.inl hk,c,hc,PR⟩⟩
   ·rw[Oa (Ne.symm hj)]at e2;obtain⟨u',r',q⟩:=hl j y v' e1 e2 e3;refine⟨u',r',?_⟩;rcases q with q|⟨k,c',e,z'⟩
    ·exact .inl q
    ·refine .inr ⟨k,c',e,z'.sameBut hs ?_⟩;rintro rfl;exact hj (nG hN e1 (I.ok.inj _ _ _ e hc ▸ hi))
  ·by_cases Nz:c'=c
   ·subst Nz;exact⟨_,PR⟩
   ·obtain⟨w2,z2⟩:=I.cell y c' e;exact⟨w2,z2.sameBut hs Nz⟩
  ·obtain⟨e,n,ne,nf,d⟩:=I.pin p hp;refine⟨(hs.2 p.1 ?_).trans e,n,ne,nf,d⟩;intro q;rw[q,hoc]at e;have q':oc=p.2:=MW e;exact d w' (by rw[<- q'];exact YW)
def eS{i:Nat}{x:Str}{Q:Unit->Shared->Prop}(I:Inv X pins σ H s)(hN:X.N.Nodup)(hi:X.N[i]?=some x)(hx:Loc X.env.scope x)(r:RelV v u)
  (h:∀s',Inv X pins (σ.set i (some v)) H s'->Q () s') (hf:X.fn x=true∨X.env.scope.names.lookup x=some .local:=by first|exact .inl rfl|exact .inr rfl|assumption):wpAny M A (storeName X.env x u) Q E s :=
 sI I hN hi hx r (fun s' I' _=>h s' I') hf
def Inv.O1{s':Shared}(I:Inv X pins σ H s)(ho:s'.os=s.os)(u:Un (NQ X.stack) ch H H' s.heap s'.heap)(Ku:Md X.prog X.w H' s'.heap)(hg:AllBare s'.gens)
  (Qz:∀b∈ch,(b∈X.ex∨X.J9.heap.objs.size<=b)/\b≠X.env.locals/\(∀x c,X.env.cells.lookup x=some c->c≠b)/\∀p∈X.pn++pins,p.1≠b):Inv X pins σ H' s':=by
 obtain⟨h',g',d',t',o'⟩:=s';have e:o'=s.os:=ho;subst e;exact I.call (g':=g') (t':=t') (d':=d') u Ku hg Qz
end
abbrev XK:=Value->Option Addr->Hp->Prop
abbrev St:=List (Option V)
abbrev VK:=V->Hp->Prop
abbrev TE:=St->Hp->VK->Prop
abbrev TT:=St->Hp->(Bool->Hp->Prop)->Prop
abbrev TA:=St->Hp->(yar->Hp->Prop)->Prop
structure Ends where
 nx:St->Hp->Prop
 rt:VK
 bk:St->Hp->Prop:=fun _ _=>False
 ct:St->Hp->Prop:=fun _ _=>False
abbrev TS:=Ends->St->Hp->Prop
def EP(X:Cx)(pins:yab)(σ:St)(Q:VK)(u:Value)(s':Shared):Prop:=∃v H',Inv X pins σ H' s'/\RelV v u/\Q v H'
def AP(X:Cx)(pins:yab)(σ:St)(Q:yar->Hp->Prop)(us:yad)(s':Shared):Prop:=∃vs H',Inv X pins σ H' s'/\Vals vs us/\Q vs H'
def SP(X:Cx)(pins:yab)(D:Ends)(f:Flow)(s':Shared):Prop :=
 match f with
 |.next=>∃Ky H',Inv X pins Ky H' s'/\D.nx Ky H'
 |.brk=>∃Ky H',Inv X pins Ky H' s'/\D.bk Ky H'
 |.cont=>∃Ky H',Inv X pins Ky H' s'/\D.ct Ky H'
 |.ret u=>∃v Ky H',Inv X pins Ky H' s'/\RelV v u/\D.rt v H'
def PE(X:Cx)(e:Expr)(t:TE):Prop :=
 ∀ (pins:yab) (s:Shared) (σ:St) (H:Hp) (Q:VK),Inv X pins σ H s->t σ H Q->wpAny (model X.prog X.w) X.A (eval e X.env) (EP X pins σ Q) X.xe s
def PA(X:Cx)(es:yai)(t:TA):Prop :=
 ∀ (pos:Pos) (pins:yab) (s:Shared) (σ:St) (H:Hp) (Q:yar->Hp->Prop),Inv X pins σ H s->t σ H Q->wpAny (model X.prog X.w) X.A (spliced (backTo pos (starEach es X.env))) (AP X pins σ Q) X.xe s
def PS(X:Cx)(st:Stmt)(t:TS):Prop :=
 ∀ (pins:yab) (s:Shared) (σ:St) (H:Hp) (D:Ends),Inv X pins σ H s->t D σ H->wpAny (model X.prog X.w) X.A (exec st X.env) (SP X pins D) X.xe s
def PSs(X:Cx)(st:yal)(t:TS):Prop :=
 ∀ (pins:yab) (s:Shared) (σ:St) (H:Hp) (D:Ends),Inv X pins σ H s->t D σ H->wpAny (model X.prog X.w) X.A (execs st X.env) (SP X pins D) X.xe s
def J0{α:Type}{t:Sem α}{Q Q':α->Shared->Prop}{M:Model}{A:Around}{E:yaa}{s:Shared}(h:wpAny M A t Q E s)(hQ:∀a s,Q a s->Q' a s):wpAny M A t Q' E s:=NP h hQ fun _ _ x=>x
section
variable{X:Cx}
def Ii(i:Nat):TE:=fun σ H Q=>∃v,σ[i]?=some (some v)/\Q v H
def tC(v:V):TE:=fun _ H Q=>Q v H
def gC {i:Nat} {x:Str} (hN:X.N[i]?=some x) (hv:QX X.env.scope x) (hd:(x==("__debug__" : Str))=false:=by decide) (Nb:(x==("__classdict__" : Str))=false:=by decide):PE X (.Name x pos) (Ii i):=by
 intro pins s σ H Q I h;obtain⟨v,e,h⟩:=h;obtain⟨m,hn,hl⟩:=I.loc;obtain⟨u,r,l⟩:=hl i x v hN e hv;have fin:EP X pins σ Q u s:=⟨v,H,I,r,h⟩;rcases l with⟨hk,hm⟩| ⟨hk,c,hc,SN⟩
 ·exact wpAny_Name (wpAny_loadName_local I.ok.kind hk hn hm fin) hd
 ·rcases hk with hk|hk
  ·exact wpAny_Name (wpAny_loadName_cell I.ok.kind hk hc SN fin) hd
  ·exact wpAny_Name (wpAny_loadName_free I.ok.kind hk hc SN fin Nb) hd
def HK{i j pos}:PE X (.Constant (.int i) j pos) (tC (.int i)):=fun _ _ _ H _ I h=>wpAny_Constant_int ⟨.int i,H,I.tok _,⟨_,rfl⟩,h⟩
def IW{b j pos}:PE X (.Constant (.bool b) j pos) (tC (.bl b)):=fun _ _ _ H _ I h=>Constant_bool ⟨.bl b,H,I,rfl,h⟩
def HL{j pos}:PE X (.Constant .none j pos) (tC .Kt):=fun _ _ _ H _ I h=>Constant_none ⟨.Kt,H,I,rfl,h⟩
def HM{x j pos}:PE X (.Constant (.str x) j pos) (tC (.str x)):=fun _ _ _ H _ I h=>Calls.Constant_str ⟨.str x,H,I.tok _,⟨_,rfl⟩,h⟩
def Gl(X:Cx)(x:Str):Prop:=X.env.kindOf x=some .globalImplicit
def iw{u:Value}{Q:yaa}(I:Inv X pins σ H s)(hg:Gl X x)(hm:X.mg x=some u)(h:Q u s)
  (hd:(x==("__debug__" : Str))=false:=by decide):wpAny (model X.prog X.w) X.A (eval (.Name x pos) X.env) Q E s :=
 Calls.Name_function_global I.ok.kind hg (Calls.loadGlobal_global (by rw[I.ok.glob];exact I.mod.glob.keeps I.bk) hm h) hd
def dQ{u:Value}{Q:yaa}(I:Inv X pins σ H s)(hg:Gl X x)(hm:X.mg x=none)(hv:bootBuiltins x=some u)(h:Q u s)
  (hn:x ≠ "__name__" := by decide) (hd:(x==("__debug__" : Str))=false:=by decide):wpAny (model X.prog X.w) X.A (eval (.Name x pos) X.env) Q E s:=by
 obtain⟨mb,h1,h2⟩:=I.mod.blt;exact Calls.Name_function_global I.ok.kind hg (Calls.loadGlobal_builtin (by rw[I.ok.glob];exact I.mod.glob.keeps I.bk) hm (by rw[I.ok.blt];exact h1.keeps I.bk) ((h2 x hn).trans hv) h) hd
def qV {u:Value} (hg:Gl X x) (hm:X.mg x=some u) (r:RelV v u) (hd:(x==("__debug__" : Str))=false:=by decide):PE X (.Name x pos) (tC v) :=
 fun _ _ _ H _ I h=>iw I hg hm ⟨v,H,I,r,h⟩ hd
def xv {u:Value} (hg:Gl X x) (hm:X.mg x=none) (hv:bootBuiltins x=some u) (r:RelV v u) (hn:x ≠ "__name__" := by decide) (hd:(x==("__debug__" : Str))=false:=by decide):PE X (.Name x pos) (tC v) :=
 fun _ _ _ H _ I h=>dQ I hg hm hv ⟨v,H,I,r,h⟩ hn hd
variable{a b:Expr}{ta tb:TE}{pos:Pos}
def u3(b:Expr){op:CmpOp}(h:op ≠ .In)(h2:op ≠ .NotIn):behindInMarks op b=false:=by
 have e1:(op==CmpOp.In)=false:=by cases op<;>first|rfl|exact absurd rfl h
 have e2:(op==CmpOp.NotIn)=false:=by cases op<;>first|rfl|exact absurd rfl h2
 cases b<;>simp[behindInMarks,e1,e2]
variable{tA V2:TT}{rest:yai}
end
def SqL(K:yac)(H:Hp)(a:Addr)(xs:yar):Prop :=
 Rd H a (.lst xs) ∨
  ∃ (o:Obj) (JZ:yao) (n:Nat),K.lookup a=some o/\o.cls=.type "list" /\ o.dict=none/\o.data=.seq JZ n/\JZ.size<=sizeLine/\Vals xs JZ.toList
def Le(K:yac)(H:Hp)(a:Addr)(xs:yar):Prop :=
 Rd H a (.tup xs) ∨
  ∃ (o:Obj) (JZ:yao) (n:Nat),K.lookup a=some o/\o.cls=.type "tuple" /\ o.data=.seq JZ n/\JZ.size<=sizeLine/\Vals xs JZ.toList
def Js:Value->Option V
 |.none=>some .Kt
 |.bool b=>some (.bl b)
 |.int i _=>some (.int i)
 |.str x _=>some (.str x)
 |.bytes b _=>some (.QW b)
 |.float b _=>some (.VT b)
 |.ref a=>some (.ref a)
 |.type n=>some (.ty n)
 |_=>none
def RelV.abs(r:RelV x u):Js u=some x:=by
 cases x with
 |Kt=>cases r;rfl
 |bl _=>cases r;rfl
 |int _=>obtain⟨t,rfl⟩:=r;rfl
 |str _=>obtain⟨t,rfl⟩:=r;rfl
 |QW _=>obtain⟨t,rfl⟩:=r;rfl
 |VT _=>obtain⟨t,rfl⟩:=r;rfl
 |ref _=>cases r;rfl
 |ty _=>cases r;rfl
theorem RelV.inj(r:RelV x u)(q:RelV y u):x=y:=MW (r.abs.symm.trans q.abs)
theorem Vals.inj:∀{xs ys:yar} {us:yad},Vals xs us->Vals ys us->xs=ys
 |_,_,_,.nil,.nil=>rfl
 |_,_,_,.cons r t,.cons r' t'=>by rw[r.inj r',Vals.inj t t']
section
variable{X:Cx}{pins:yab}{σ:St}{H:Hp}{s:Shared}{a:Addr}{xs ys:yar}
def SqL.of{K:yac}(h:H a=some (.lst xs)):SqL K H a xs:=.inl (.inl h)
def Le.of{K:yac}(h:H a=some (.tup xs)):Le K H a xs:=.inl (.inl h)
def Inv.list(I:Inv X pins σ H s)(h:SqL X.K H a xs):∃JZ:yad,Vals xs JZ/\PlainL s.heap a JZ.toArray/\xs.length<=sizeLine:=by
 rcases h with h|⟨o,JZ,n,hk,hc,hd,hs,hz,r⟩
 ·obtain⟨z,JZ,n,r,e⟩:=h.ok I.Ku;exact⟨JZ,r,⟨_,n,e,rfl,rfl,rfl⟩,z⟩
 ·refine⟨JZ.toList,r,⟨o,n,I.NX a o hk,hc,hd,by simpa using hs⟩,?_⟩;have e:=r.length;simp only[NU]at e
  lia
def Inv.tuple(I:Inv X pins σ H s)(h:Le X.K H a xs):∃JZ:yad,Vals xs JZ/\IsTup s.heap a JZ.toArray/\xs.length<=sizeLine:=by
 rcases h with h|⟨o,JZ,n,hk,hc,hs,hz,r⟩
 ·obtain⟨z,JZ,r,p⟩:=h.ok I.Ku;exact⟨JZ,r,p,z⟩
 ·refine⟨JZ.toList,r,⟨o,I.NX a o hk,hc,n,by simpa using hs⟩,?_⟩;have e:=r.length;simp only[NU]at e
  lia
def Inv.QZ(I:Inv X pins σ H s)(h:SqL X.K H a xs)(h':SqL X.K H a ys):xs=ys:=by
 obtain⟨JZ,r,⟨o,n,e,_,_,d⟩,_⟩:=I.list h;obtain⟨its',r',⟨o',n',e',_,_,d'⟩,_⟩:=I.list h';rw[e]at e';cases e';rw[d]at d';injection d' with d1 _;have:JZ=its':=by simpa using congrArg Array.toList d1
 subst this;exact r.inj r'
end
abbrev Cx.wish(X:Cx)(E:yaa):Cx:={X with xe:=E}
abbrev Cx.U5(X:Cx):Cx:=X.wish fun _ _=>False
theorem Cx.Ok.wish{X:Cx}(ok:X.Ok)(E:yaa):(X.wish E).Ok :=
 ⟨ok.mod,ok.kind,ok.glob,ok.blt,ok.above,ok.inj,ok.has,ok.Qy,ok.hd,ok.frames,ok.VZ,ok.YN,ok.bs,ok.SH,ok.Qf,ok.QY,ok.M3,ok.SJ⟩
def Cx.Ok.Lw{X:Cx}(ok:(X.wish E).Ok):X.Ok :=
 ⟨ok.mod,ok.kind,ok.glob,ok.blt,ok.above,ok.inj,ok.has,ok.Qy,ok.hd,ok.frames,ok.VZ,ok.YN,ok.bs,ok.SH,ok.Qf,ok.QY,ok.M3,ok.SJ⟩
section
variable{X:Cx}{pins:yab}{σ:St}{H:Hp}{s:Shared}{E:yaa}
theorem Inv.wish(I:Inv X pins σ H s)(E:yaa):Inv (X.wish E) pins σ H s:=⟨I.ok.wish E,I.os,I.bare,I.base,I.loc,I.cell,I.free,I.LK,I.pin,I.Ku,I.len⟩
theorem Inv.Lw(I:Inv (X.wish E) pins σ H s):Inv X pins σ H s:=⟨I.ok.Lw,I.os,I.bare,I.base,I.loc,I.cell,I.free,I.LK,I.pin,I.Ku,I.len⟩
end
section
variable{X:Cx}{st:Stmt}{rest:yal}{t u:TS}{e:Expr}{te:TE}{pos:Pos}
def Inv.quiet(I:Inv X pins σ H s):interactive X.env=false:=by simp[interactive,I.ok.kind]
def Jh(te:TE):TS:=fun D σ H=>te σ H fun _ H1=>D.nx σ H1
def qW(he:PE X e te)(hs:swapsWith e none pos.line X.env=pure false:=by rfl):PS X (.Expr e pos) (Jh te):=by intro pins s σ H D I h;exact wpAny_Expr_any (J0 (he pins s σ H _ I h) fun v s1 K1=>(by obtain⟨x,H1,I1,r1,q1⟩:=K1;exact⟨σ,H1,I1,q1⟩)) I.quiet hs
end
abbrev Jr:=V->V->V->Hp->(Hp->Prop)->Prop
def Jp(X:Cx)(t:Jr):Prop :=
 ∀ (pins:yab) (s:Shared) (σ:St) (H:Hp) (o i v:V) (ov iv u:Value) (Q:Hp->Prop),Inv X pins σ H s->RelV o ov->RelV i iv->RelV v u->t o i v H Q →
  wpAny (model X.prog X.w) X.A (setItem ov iv u) (fun _ s'=>∃H',Inv X pins σ H' s'/\Q H') X.xe s
section
variable{X:Cx}{pos:Pos}
def JM(i j:Nat)(ta:TA):TS:=fun D σ H=>ta σ H fun vs H1=>∃v w,vs=[v,w]/\D.nx ((σ.set i (some v)).set j (some w)) H1
def HS{i j:Nat}{x y:Str}{a b:Expr}{ta:TA}{px py pt:Pos}{kt k2 TN}(hc:X.calm=true)(hN:X.N.Nodup)(hi:X.N[i]?=some x)(hj:X.N[j]?=some y)(My:i≠j)
  (hx:X.env.scope.names.lookup x=some .local) (hy:X.env.scope.names.lookup y=some .local) (ha:PA X [a,b] ta)
  (hw:swappedStores [.Tuple [.Name x px,.Name y py] kt pt] (.Tuple [a,b] k2 TN) X.env=pure (some [x,y]))
  (hs:swapsWithSole [.Tuple [.Name x px,.Name y py] kt pt] (.Tuple [a,b] k2 TN) pos.line X.env=pure false:=by rfl) :
  PS X (.Assign [.Tuple [.Name x px,.Name y py] kt pt] (.Tuple [a,b] k2 TN) pos) (JM i j ta):=by
 intro pins s σ H D I h;rw[exec_Assign_arm];refine JX (wpAny_standAt ?_);rw[hs];refine JX (Ki ?_);rw[JT (by decide)];refine JX (Tuple_ (J0 (ha _ pins s σ H _ I h) fun us s1 J5=>?_));obtain⟨vs,H1,I1,r1,q1⟩:=J5;obtain⟨v,w,e1,q1⟩:=q1;subst e1;obtain⟨u1,u2,rfl,rv,Qg⟩:∃u1 u2,us=[u1,u2]/\RelV v u1/\RelV w u2:=by
  cases r1 with
  |cons p q =>
   cases q with
   |cons p' q' =>
    cases q';exact⟨_,_,rfl,p,p'⟩
 refine UQ ?_ (by show 2<=sizeLine;decide);have I2:Inv X pins σ H1 {s1 with heap:=s1.heap.push {cls:=.type "tuple", data:=.seq [u1,u2].toArray} }:=I1.kept (t':=s1.toks) fun b o e=>Mv _ e
 rw[hw];refine JX (Ki ?_);show wpAny (model X.prog X.w) X.A (do rule "assign.swapped-stores"; let items←unpackItems (.ref s1.heap.objs.size) 2 none;assignInOrder [fun v=>bindName X.env y v,fun v=>bindName X.env x v] items.reverse;pure Flow.next) _ _ _;refine JX (wpAny_rule (JX (unpackItems_tuple (items:=#[u1,u2]) (I.ok.hd hc) (IsTup.new s1.heap _) fun h' NY=>?_)));have I3:=I2.kept (h':=h') (t':=s1.toks) fun b o e=>NY b o (Nf (LC e)) e
 show wpAny _ _ (assignInOrder [fun v=>bindName X.env y v,fun v=>bindName X.env x v] [u2,u1] >>= fun _=>pure Flow.next) _ _ _;refine JX (assignInOrder_cons (wpAny_bindName (eS I3 hN hj (.inl hy) Qg (fun s2 I4=>?_) (.inr hy))));refine assignInOrder_cons (wpAny_bindName (eS I4 hN hi (.inl hx) rv (fun s3 I5=>assignInOrder_nil (Ki ?_)) (.inr hx)));rw[List.set_comm _ _ (Ne.symm My)]at I5;exact⟨_,H1,I5,q1⟩
end
structure It where
 go:Nat->Hp->Prop
 yld:Nat->Hp->V->Hp->Prop
 stop:Nat->Hp->Prop
def eE(X:Cx)(pins:yab)(H:Hp)(b:Addr):Prop :=
 H b=none/\b≠X.env.locals/\b∉X.fs/\(b∈X.ex∨X.J9.heap.objs.size<=b)/\(∀x c,X.env.cells.lookup x=some c->c≠b)/\∀p∈X.pn++pins,p.1≠b
def Inv.V3{H':Hp}{b:Addr}(I:Inv X pins σ H s)(hb:s.heap.objs.size<=b)(hn:H' b=none):eE X pins H' b:=by
 refine⟨hn,Nat.ne_of_gt (MV I.lt hb),I.YQ hb,.inr (LZ I.sz hb),fun x c e z=>?_,fun p hp z=>?_⟩
 ·obtain⟨v,q⟩:=I.cell x c e;exact absurd (MV q.lt (by rw[z];exact hb)) (Qw _)
 ·exact absurd (MV (LC (I.pin p hp).1) (by rw[z];exact hb)) (Qw _)
structure Turn(P:Program)(w:World)(K:yac)(tg:Expr)(J:It)(fp:yae)(it:Addr)(tn:Nat->Heap->Prop):Prop where
 mem:it∈fp
 obj:∀i h,tn i h->∀b∈fp,∃o,h.get? b=some o/\∀v,o.data ≠ .cell v
 keep:∀i h h',tn i h->(∀b∈fp,∀o,h.get? b=some o->h'.get? b=some o)->tn i h'
 item:∀(X:Cx),X.prog=P->X.w=w->X.K=K->X.calm=true->∀(i:Nat) (pins:yab) (s:Shared) (σ:St) (H:Hp) (E:yaa),Inv X pins σ H s->(∀b∈fp,eE X pins H b)->tn i s.heap->J.go i H →
  wpAny (model P w) X.A (pyNext (.ref it)) (fun r s1=>∃u,r=some u ∧
   wpAny (model P w) X.A (letOwnedTupleGo tg (.ref it) u) (fun _ s2=>∃x H',Inv X pins σ H' s2/\RelV x u/\J.yld i H x H'/\tn (i+1) s2.heap/\∀b∈fp,H' b=none) E s1) E s
 done:∀(X:Cx),X.prog=P->X.w=w->X.K=K->X.calm=true->∀(i:Nat) (pins:yab) (s:Shared) (σ:St) (H:Hp) (E:yaa),Inv X pins σ H s->(∀b∈fp,eE X pins H b)->tn i s.heap->J.stop i H →
  wpAny (model P w) X.A (pyNext (.ref it)) (fun r s1=>r=none/\Inv X pins σ H s1) E s
 self:∀(A:Around) (i:Nat) (s:Shared) (Q:yaa) (E:yaa),tn i s.heap->Q (.ref it) s->wpAny (model P w) A (pyIter (.ref it)) Q E s
abbrev TI:=St->Hp->(It->Hp->Prop)->Prop
def PIE(X:Cx)(pins:yab)(σ:St)(tg:Expr)(R:It->Hp->Prop)(Q0:Value)(s2:Shared):Prop :=
 ∃ (it:Addr) (fp:yae) (tn:Nat->Heap->Prop) (J:It) (H':Hp),Q0=.ref it/\Inv X pins σ H' s2/\Turn X.prog X.w X.K tg J fp it tn/\tn 0 s2.heap/\(∀b∈fp,eE X pins H' b)/\R J H'
def PI(X:Cx)(tg iter:Expr)(wi:TI):Prop :=
 ∀ (pins:yab) (s:Shared) (σ:St) (H:Hp) (R:It->Hp->Prop),Inv X pins σ H s->wi σ H R →
  wpAny (model X.prog X.w) X.A (eval iter X.env) (fun v s1=>wpAny (model X.prog X.w) X.A (pyIter v) (PIE X pins σ tg R) X.xe s1) X.xe s
def DK {s : Shared} {o : Obj} {Q : Unit -> Shared -> Prop} (ho : s.heap.get? it = some o) (hc : o.cls = .type n) (hd : o.data = .fields vs)
    (hn : ["enumerate", "zip", "dict_itemiterator", "dict_reverseitemiterator", "odict_iterator", "itertools.zip_longest", "itertools.pairwise"].contains n = false) (hQ : Q () s) : wpAny M A (letOwnedTupleGo tg (.ref it) u) Q E s := by
  unfold letOwnedTupleGo;cases tg <;> first
    | exact Ki hQ
    | (cases u <;> first
        | exact Ki hQ
        | (refine JX (wpAny_load ho ?_)
           rw [hc, hd];show wpAny M A (if (["enumerate", "zip", "dict_itemiterator", "dict_reverseitemiterator", "odict_iterator", "itertools.zip_longest", "itertools.pairwise"].contains n && vs[0]? == some (rawInt _)) = true then _ else _) Q E s;rw [JT (by intro h; rw [hn, Bool.false_and] at h; cases h)];exact Ki hQ))
def Itl(K:yac)(a:Addr):It :=
 ⟨fun i H=>∃xs x,SqL K H a xs/\xs[i]?=some x,fun i H x H'=>H'=H/\∀xs,SqL K H a xs->xs[i]?=some x,fun i H=>∃xs,SqL K H a xs/\xs.length<=i⟩
def Bn{P:Program}{w:World}{K:yac}{tg:Expr}(a it:Addr):Turn P w K tg (Itl K a) [it] it (fun i h=>h.IsListIter it a i) where
 mem:=by simp
 obj:=fun i h st b hb=>by
  have e:b=it:=by simpa using hb
  subst e;obtain⟨o,e,c,d⟩:=st;exact⟨o,e,fun v z=>by rw[d]at z;cases z⟩
 keep:=fun i h h' st k=>st.at fun o e=>k it (by simp) o e
 item:=by
  intro X hP hw hK hc i pins s σ H E I hf st hg;subst hP hw hK;obtain⟨xs,x,hq,hx⟩:=hg;obtain⟨JZ,rv,p,hz⟩:=I.list hq;obtain⟨u,hu,ru⟩:=rv.get hx;obtain⟨f0,f1,f2,f3,f4,f5⟩:=hf it (by simp);refine wpAny_pyNext_list_item st p.isList (x:=u) (by simpa using hu) fun h' st' sb=>?_
  have I1:Inv X pins σ H {s with heap:=h'}:=I.turned (t':=s.toks) (fun b o hb e=>(sb.2 b hb).trans e) f0 f1 f3 f4 f5;obtain⟨o,e,c,d⟩:=id st';exact⟨u,rfl,DK (s:={s with heap:=h'}) e c d (by decide) ⟨x,H,I1,ru,⟨rfl,fun ys hy=>by rw[I.QZ hy hq];exact hx⟩,st',fun b hb=>(hf b hb).1⟩⟩
 done:=by intro X hP hw hK hc i pins s σ H E I hf st hg;subst hP hw hK;obtain⟨xs,hq,hx⟩:=hg;obtain⟨JZ,rv,p,hz⟩:=I.list hq;obtain⟨f0,f1,f2,f3,f4,f5⟩:=hf it (by simp);have hl:=rv.length;exact wpAny_pyNext_list_end (I.ok.hd hc) st p.isList (by simp;lia) fun h' eb=>⟨rfl,I.turned (t':=s.toks) (fun b o hb e=>eb b o hb e) f0 f1 f3 f4 f5⟩
 self:=fun _ _ _ _ _ st h=>wpAny_pyIter_listiter st h
section
variable{X:Cx}{tg:Expr}
def IJ(K:yac)(tl:TE):TI:=fun σ H R=>tl σ H fun x H1=>∃a,x=.ref a/\(∃xs,SqL K H1 a xs)/\R (Itl K a) H1
def Fj{l:Expr}{tl:TE}(hl:PE X l tl):PI X tg l (IJ X.K tl):=by
 intro pins s σ H R I h;refine J0 (hl pins s σ H _ I h) fun v s1 J5=>?_
 obtain⟨x,H1,I1,r1,q1⟩:=J5;obtain⟨a,e,⟨xs,hq⟩,q⟩:=q1;subst e;cases r1;obtain⟨JZ,rv,p,hz⟩:=I1.list hq;refine wpAny_pyIter_list p.isList ?_;refine⟨s1.heap.objs.size,[s1.heap.objs.size],_,_,H1,rfl,I1.kept (t':=s1.toks) fun b o e=>Mv _ e,Bn a _,⟨_,Ou _ rfl,rfl,rfl⟩,fun b hb=>?_,q⟩;have e:b=s1.heap.objs.size:=by simpa using hb
 subst e;exact I1.V3 (KO _) (I1.Ku.fresh (KO _))
def pK(fp:yae)(h:Heap):yab:=fp.filterMap fun b=>(h.get? b).map fun o=>(b,o)
def gZ{fp:yae}{h:Heap}{b:Addr}{o:Obj}(hb:b∈fp)(e:h.get? b=some o):(b,o)∈pK fp h:=VG.mpr ⟨b,hb,by rw[e];rfl⟩
def AF{p:Addr×Obj}(hp:p∈pK fp h):p.1∈fp/\h.get? p.1=some p.2:=by
 obtain⟨b,hb,e⟩:=VG.mp hp;cases q:h.get? b with
 |none=>rw[q]at e;cases e
 |some o =>
  rw[q]at e;have e':(b,o)=p:=MW e;subst e';exact⟨hb,q⟩
def Inv.pinned{fp:yae}(I:Inv X pins σ H s)(hf:∀b∈fp,eE X pins H b)(ho:∀b∈fp,∃o,s.heap.get? b=some o/\∀v,o.data ≠ .cell v):Inv X (pins++pK fp s.heap) σ H s :=
 I.PQ fun p hp=>(KR.mp hp).elim (fun z=>I.pin p (MO _ z)) fun z=>by obtain⟨hb,e⟩:=AF z;obtain⟨f0,f1,f2,_⟩:=hf p.1 hb;obtain⟨o,e',d⟩:=ho p.1 hb;rw[e]at e';cases e';exact⟨e,f0,f1,f2,d⟩
def Inv.Mg{pins pl:yab}(I:Inv X (pins++pl) σ H s):Inv X pins σ H s:=I.PQ fun p hp=>I.pin p (MO _ (Ob _ hp))
end
abbrev R2:=V->V->Hp->VK->Prop
def Oh(X:Cx)(f:Value->Value->Sem Value)(r:R2):Prop :=
 ∀ (pins:yab) (s:Shared) (σ:St) (H:Hp) (x y:V) (v u:Value) (Q:VK),Inv X pins σ H s->RelV x v->RelV y u->r x y H Q →
  wpAny (model X.prog X.w) X.A (f v u) (EP X pins σ Q) X.xe s
def YX(X:Cx)(f:Value->Sem Value)(r:V->Hp->VK->Prop):Prop :=
 ∀ (pins:yab) (s:Shared) (σ:St) (H:Hp) (x:V) (v:Value) (Q:VK),Inv X pins σ H s->RelV x v->r x H Q →
  wpAny (model X.prog X.w) X.A (f v) (EP X pins σ Q) X.xe s
def jP(X:Cx)(f:Value)(r:yar->Hp->VK->Prop):Prop :=
 ∀ (pins:yab) (s:Shared) (σ:St) (H:Hp) (xs:yar) (us:yad) (Q:VK),Inv X pins σ H s->Vals xs us->r xs H Q →
  wpAny (model X.prog X.w) X.A (call f us) (EP X pins σ Q) X.xe s
def rI(C:Int->Int->Prop)(g:Int->Int->V):R2:=fun x y H Q=>∃i j,x=.int i/\y=.int j/\C i j/\Q (g i j) H
def RF(g:Int->Int->V):R2:=fun x y H Q=>∃i j,x=.int i/\y=.int j/\Q (g i j) H
def rU(g:Int->V):V->Hp->VK->Prop:=fun x H Q=>∃i,x=.int i/\Q (g i) H
section
variable{X:Cx}{a b c:Expr}{ta tb tc:TE}{pos:Pos}
def X2{f:Value->Value->Sem Value}{C:Int->Int->Prop}{g:Int->Int->Int}
  (rule:∀(i j:Int) (t u:Tok) (s:Shared) (Q:yaa) (E:yaa),C i j->Q (.int (g i j) s.toks) {s with toks:=s.toks+1}->wpAny (model X.prog X.w) X.A (f (.int i t) (.int j u)) Q E s) :
  Oh X f (rI C fun i j=>.int (g i j)):=by
 intro pins s σ H x y v u Q I rx ry h;obtain⟨i,j,rfl,rfl,hc,q⟩:=h;obtain⟨t,rfl⟩:=rx;obtain⟨t',rfl⟩:=ry;exact rule i j t t' s _ _ hc ⟨.int (g i j),H,I.tok _,⟨_,rfl⟩,q⟩
def HC{f:Value->Value->Sem Value}{g:Int->Int->Int}
  (rule:∀(i j:Int) (t u:Tok) (s:Shared) (Q:yaa) (E:yaa),Q (.int (g i j) s.toks) {s with toks:=s.toks+1}->wpAny (model X.prog X.w) X.A (f (.int i t) (.int j u)) Q E s) :
  Oh X f (RF fun i j=>.int (g i j)):=by
 intro pins s σ H x y v u Q I rx ry h;obtain⟨i,j,rfl,rfl,q⟩:=h;obtain⟨t,rfl⟩:=rx;obtain⟨t',rfl⟩:=ry;exact rule i j t t' s _ _ ⟨.int (g i j),H,I.tok _,⟨_,rfl⟩,q⟩
def yQ{f:Value->Value->Sem Value}{g:Int->Int->Bool}
  (rule:∀(i j:Int) (t u:Tok) (s:Shared) (Q:yaa) (E:yaa),Q (.bool (g i j)) s->wpAny (model X.prog X.w) X.A (f (.int i t) (.int j u)) Q E s) :
  Oh X f (RF fun i j=>.bl (g i j)):=by
 intro pins s σ H x y v u Q I rx ry h;obtain⟨i,j,rfl,rfl,q⟩:=h;obtain⟨t,rfl⟩:=rx;obtain⟨t',rfl⟩:=ry;exact rule i j t t' s _ _ ⟨.bl (g i j),H,I,rfl,q⟩
def Bw(i j:Int):Prop:=0<=j/\j<=1000000/\i.natAbs<2 ^ 64
def HD:Oh X (binaryOp .Add) (RF fun i j=>.int (i+j)):=HC fun _ _ _ _ _ _ _ q=>add_int q
def HG:Oh X (binaryOp .Sub) (RF fun i j=>.int (i - j)):=HC fun _ _ _ _ _ _ _ q=>sub_int q
def Fe:Oh X (binaryOp .Mod) (rI (fun _ j=>j≠0) fun i j=>.int (i.fmod j)):=X2 fun _ _ _ _ _ _ _ hc q=>mod_int' hc q
def HF:Oh X (binaryOp .Pow) (rI Bw fun i j=>.int (i ^ j.toNat)):=X2 fun _ _ _ _ _ _ _ hc q=>pow_int_small hc.1 hc.2.1 hc.2.2 q
def unI{f:Value->Sem Value}{g:Int->Int}
  (rule:∀(i:Int) (t:Tok) (s:Shared) (Q:yaa) (E:yaa),Q (.int (g i) s.toks) {s with toks:=s.toks+1}->wpAny (model X.prog X.w) X.A (f (.int i t)) Q E s) :
  YX X f (rU fun i=>.int (g i)):=by
 intro pins s σ H x v Q I rx h;obtain⟨i,rfl,q⟩:=h;obtain⟨t,rfl⟩:=rx;exact rule i t s _ _ ⟨.int (g i),H,I.tok _,⟨_,rfl⟩,q⟩
def Ik:YX X (unaryOp .USub) (rU fun i=>.int (-i)):=unI fun _ _ _ _ _ q=>neg_int q
end
def rn:V->V->Bool
 |.Kt,.Kt=>true|.Kt,.int _=>true|.int _,.Kt=>true|.Kt,.bl _=>true|.bl _,.Kt=>true|.Kt,.str _=>true|.str _,.Kt=>true
 |.int _,.int _=>true|.bl _,.bl _=>true|.str _,.str _=>true|.QW _,.QW _=>true
 |.int _,.str _=>true|.str _,.int _=>true|.bl _,.str _=>true|.str _,.bl _=>true
 |_,_=>false
def rEq:R2:=fun x y H Q=>rn x y=true/\Q (.bl (decide (x=y))) H
def rNe:R2:=fun x y H Q=>rn x y=true/\Q (.bl (!decide (x=y))) H
def l5:decide (V.int i=V.int j)=(i==j):=by rw[SE];simp
def zV:decide (V.bl i=V.bl j)=(i==j):=by rw[SE];simp
def xb:decide (V.str i=V.str j)=(i==j):=by rw[SE];simp
def w9:decide (V.QW i=V.QW j)=(i.toList==j.toList):=by rw[SE];cases i;cases j;simp
section
variable{X:Cx}{a b c:Expr}{ta tb tc:TE}{pos:Pos}
def aU{Q:VK}{k':Bool}(I:Inv X pins σ H s)(q:Q (.bl k) H)(e:k=k'):EP X pins σ Q (.bool k') s:=by subst e;exact⟨.bl k,H,I,rfl,q⟩
def IP:Oh X (compareOp .Eq) rEq:=by
 intro pins s σ H x y v u Q I rx ry h;obtain⟨hs,q⟩:=h;cases x with
 |Kt =>
  cases rx;cases y with
  |Kt=>cases ry;exact PySem.EqNone.eq_none_none (aU I q (by simp))
  |bl j=>cases ry;exact PySem.EqNone.eq_none_bool (aU I q (by simp))
  |int j=>obtain⟨t',rfl⟩:=ry;exact PySem.EqNone.eq_none_int (aU I q (by simp))
  |str j=>obtain⟨t',rfl⟩:=ry;exact PySem.EqNone.eq_none_str (aU I q (by simp))
  |_=>exact absurd (show false=true from hs) Ov
 |bl i =>
  cases rx;cases y with
  |Kt=>cases ry;exact PySem.EqNone.eq_bool_none (aU I q (by simp))
  |bl j=>cases ry;exact eq_bool (aU I q zV)
  |str j=>obtain⟨t',rfl⟩:=ry;exact PySem.EqMixed.eq_bool_str (aU I q (by simp))
  |_=>exact absurd (show false=true from hs) Ov
 |int i =>
  obtain⟨t,rfl⟩:=rx;cases y with
  |Kt=>cases ry;exact PySem.EqNone.eq_int_none (aU I q (by simp))
  |int j=>obtain⟨t',rfl⟩:=ry;exact eq_int (aU I q l5)
  |str j=>obtain⟨t',rfl⟩:=ry;exact PySem.EqMixed.eq_int_str (aU I q (by simp))
  |_=>exact absurd (show false=true from hs) Ov
 |str i =>
  obtain⟨t,rfl⟩:=rx;cases y with
  |Kt=>cases ry;exact PySem.EqNone.eq_str_none (aU I q (by simp))
  |bl j=>cases ry;exact PySem.EqMixed.eq_str_bool (aU I q (by simp))
  |int j=>obtain⟨t',rfl⟩:=ry;exact PySem.EqMixed.eq_str_int (aU I q (by simp))
  |str j=>obtain⟨t',rfl⟩:=ry;exact eq_str (aU I q xb)
  |_=>exact absurd (show false=true from hs) Ov
 |QW i =>
  obtain⟨t,rfl⟩:=rx;cases y with
  |QW j=>obtain⟨t',rfl⟩:=ry;exact PySem.W.eq_bytes (aU I q w9)
  |_=>exact absurd (show false=true from hs) Ov
 |_=>cases y<;>exact absurd (show false=true from hs) Ov
def IV:Oh X (compareOp .NotEq) rNe:=by
 intro pins s σ H x y v u Q I rx ry h;obtain⟨hs,q⟩:=h;cases x with
 |Kt =>
  cases rx;cases y with
  |Kt=>cases ry;exact PySem.EqNone.ne_none_none (aU I q (by simp))
  |bl j=>cases ry;exact PySem.EqNone.ne_none_bool (aU I q (by simp))
  |int j=>obtain⟨t',rfl⟩:=ry;exact PySem.EqNone.ne_none_int (aU I q (by simp))
  |str j=>obtain⟨t',rfl⟩:=ry;exact PySem.EqNone.ne_none_str (aU I q (by simp))
  |_=>exact absurd (show false=true from hs) Ov
 |bl i =>
  cases rx;cases y with
  |Kt=>cases ry;exact PySem.EqNone.ne_bool_none (aU I q (by simp))
  |bl j=>cases ry;exact ne_bool (aU I q (congrArg not zV))
  |str j=>obtain⟨t',rfl⟩:=ry;exact PySem.EqMixed.ne_bool_str (aU I q (by simp))
  |_=>exact absurd (show false=true from hs) Ov
 |int i =>
  obtain⟨t,rfl⟩:=rx;cases y with
  |Kt=>cases ry;exact PySem.EqNone.ne_int_none (aU I q (by simp))
  |int j=>obtain⟨t',rfl⟩:=ry;exact ne_int (aU I q (congrArg not l5))
  |str j=>obtain⟨t',rfl⟩:=ry;exact PySem.EqMixed.ne_int_str (aU I q (by simp))
  |_=>exact absurd (show false=true from hs) Ov
 |str i =>
  obtain⟨t,rfl⟩:=rx;cases y with
  |Kt=>cases ry;exact PySem.EqNone.ne_str_none (aU I q (by simp))
  |bl j=>cases ry;exact PySem.EqMixed.ne_str_bool (aU I q (by simp))
  |int j=>obtain⟨t',rfl⟩:=ry;exact PySem.EqMixed.ne_str_int (aU I q (by simp))
  |str j=>obtain⟨t',rfl⟩:=ry;exact ne_str (aU I q (congrArg not xb))
  |_=>exact absurd (show false=true from hs) Ov
 |QW i =>
  obtain⟨t,rfl⟩:=rx;cases y with
  |QW j=>obtain⟨t',rfl⟩:=ry;exact PySem.W.ne_bytes (aU I q (congrArg not w9))
  |_=>exact absurd (show false=true from hs) Ov
 |_=>cases y<;>exact absurd (show false=true from hs) Ov
def IU:Oh X (compareOp .Lt) (RF fun i j=>.bl (decide (i<j))):=yQ fun _ _ _ _ _ _ _ q=>lt_int q
def IT:Oh X (compareOp .LtE) (RF fun i j=>.bl (decide (i<=j))):=yQ fun _ _ _ _ _ _ _ q=>le_int q
def IS:Oh X (compareOp .Gt) (RF fun i j=>.bl (decide (j<i))):=yQ fun _ _ _ _ _ _ _ q=>gt_int q
def IQ:Oh X (compareOp .GtE) (RF fun i j=>.bl (decide (j<=i))):=yQ fun _ _ _ _ _ _ _ q=>ge_int q
def HE:Oh X (compareOp .Is) (fun x y H Q=>y=.Kt/\Q (.bl (decide (x=.Kt))) H):=by
 intro pins s σ H x y v u Q I rx ry h;obtain⟨rfl,q⟩:=h;cases ry;refine is_none_gen (aU I q ?_);cases x<;>first
  |(cases rx;rfl)
  |(obtain⟨t,rfl⟩:=rx;rfl)
def ph:(sizeLine:Nat)<2 ^ 63:=by rw[sizeLine_eq];decide
def vals1{x:V}(r:Vals [x] us):∃u,us=[u]/\RelV x u:=by
 cases r with
 |cons r1 r2=>cases r2;exact⟨_,rfl,r1⟩
def vals2{x y:V}(r:Vals [x,y] us):∃u w',us=[u,w']/\RelV x u/\RelV y w':=by
 cases r with
 |cons r1 r2 =>
  cases r2 with
  |cons r3 r4=>cases r4;exact⟨_,_,rfl,r1,r3⟩
def BM:jP X (.builtin "abs") (fun xs H Q=>∃i,xs=[.int i]/\Q (.int (if i<0 then -i else i)) H):=by intro pins s σ H xs us Q I r h;obtain⟨i,rfl,q⟩:=h;obtain⟨u,rfl,t,rfl⟩:=vals1 r;exact call_abs_int fun u tk=>⟨.int (if i<0 then -i else i),H,I.tok _,⟨_,rfl⟩,q⟩
def zH (hc:X.calm=true):jP X (.builtin "min") (fun xs H Q=>∃i j,xs=[.int i,.int j]/\Q (.int (if j<i then j else i)) H):=by
 intro pins s σ H xs us Q I r h;obtain⟨i,j,rfl,q⟩:=h;obtain⟨u,w',rfl,⟨t,rfl⟩,⟨t',rfl⟩⟩:=vals2 r;refine min_two_ints (I.ok.hd hc) fun h' tk k=>⟨_,H,I.kept k,?_,q⟩
 by_cases hj:j<i
 ·rw[JU hj,JU hj];exact⟨_,rfl⟩
 ·rw[JT hj,JT hj];exact⟨_,rfl⟩
def zG:jP X (.type "int") (fun xs H Q=>(∃i,xs=[.int i]/\Q (.int i) H)∨∃ k,xs=[.bl k]/\Q (.int (if k then 1 else 0)) H):=by
 intro pins s σ H xs us Q I r h;rcases h with⟨i,rfl,q⟩| ⟨k,rfl,q⟩
 ·obtain⟨u,rfl,t,rfl⟩:=vals1 r;exact call_int_int ⟨.int i,H,I,⟨_,rfl⟩,q⟩
 ·obtain⟨u,rfl,r1⟩:=vals1 r;cases r1;exact call_int_bool ⟨.int (if k then 1 else 0),H,I.tok _,⟨_,rfl⟩,q⟩
end
structure BA(h:Heap)(x dx C:Addr)(mA:yam):Prop where
 obj:h.get? x=some (PySem.W.instObj C dx)
 ns:h.Ns1 dx mA
 ne:dx≠x
def Aw{h:Heap}(n:h.Ns1 dx mA):∃od,h.get? dx=some od/\∀name,PySem.W.lookIn name od=some (mA name):=by
 obtain⟨o,es,ep,ho,hd,hk,_,hm⟩:=n;refine⟨o,ho,fun name=>?_⟩;have e:=hm name;unfold nsFind findBy at e;rw[<- Array.find?_toList]at e;unfold PySem.W.lookIn;rw[hd];dsimp only;split
 ·rename_i y q;rw[q]at e;exact congrArg some e
 ·rename_i q;rw[q]at e;have a:es.toList.any (·.refKey)=false:=by
   rw[List.any_eq_false];intro y hy;obtain⟨z,t,Qh⟩:=hk y (Array.mem_toList_iff.mp hy);simp[DictEntry.refKey,Qh]
  have a':¬es.toList.any (·.refKey)=true:=by rw[a];exact Ov
  rw[JT a'];exact congrArg some e
def BA.look(I:BA h x dx C mA):∃od,PySem.W.InstAt h x (PySem.W.instObj C dx) C (some od)/\∀name,PySem.W.lookIn name od=some (mA name) :=
 let ⟨od,ho,hl⟩:=Aw I.ns
 ⟨od,⟨I.obj,rfl,rfl,ho⟩,hl⟩
def jb.some_of{v:V}(r:jb (some v) o):∃u,o=some u/\RelV v u:=by
 cases o with
 |none=>exact(show False from r).elim
 |some u=>exact⟨u,rfl,r⟩
structure Lf(K:yac)(C:Addr):Prop where
 pg:PySem.W.plainGet K C Str.empty=true
 hd:PySem.W.hasDictIn K C=true
 po:PySem.W.plainOver K C=true
 sa:PySem.W.findIn K (.ref C) "__setattr__" = some (some (.builtin "object.__setattr__"))
structure Con(K:yac)(C:Addr)(f:Str)(v:V)(u:Value):Prop where
 at_:PySem.W.findIn K (.ref C) f=some (some u)
 rel:RelV v u
 get:PySem.W.specialIn K u "__get__" = some none
 cp:PySem.W.copiedNames.contains f=false
structure Meth(K:yac)(C:Addr)(m:Str)(f:Addr):Prop where
 at_:PySem.W.findIn K (.ref C) m=some (some (.ref f))
 fn:PySem.W.isFn K (.ref f)=true
 kp:PySem.W.keepIn K (.ref f)=true
def F0(X:Cx)(op:Operator)(rd:V->V->Hp->VK->Prop):Prop :=
 ∀ (pins:yab) (s:Shared) (σ:St) (H:Hp) (x y:V) (u v:Value) (Q:VK),Inv X pins σ H s->RelV x u->RelV y v->rd x y H Q->wpAny (model X.prog X.w) X.A (inplaceOp op u v) (EP X pins σ Q) X.xe s
section
variable{X:Cx}{o e value:Expr}{f:Str}{pos pos' tpos:Pos}{ta tv:TE}
def JE:V->V->Hp->VK->Prop:=fun x y H Q=>∃i j,x=.int i/\y=.int j/\Q (.int (i+j)) H
def Hc:F0 X .Add JE:=by rintro pins s σ H x y u v Q I rx ry ⟨i,j,rfl,rfl,q⟩;obtain⟨t,rfl⟩:=(show∃t,u=Value.int i t from rx);obtain⟨t',rfl⟩:=(show∃t',v=Value.int j t' from ry);exact PyProof.Rows.iadd_int ⟨.int (i+j),H,I.tok _,⟨_,rfl⟩,q⟩
end
section
variable{X:Cx}{pins:yab}{σ:St}{H:Hp}{s:Shared}{A:Around}{E:yaa}{Q:yaa}{c:Value}{b:Bool}
inductive iC (K:yac) (H:Hp):V->Value->Prop where
 |Kt:iC K H .Kt (.type "NoneType")
 |bl (x:Bool):iC K H (.bl x) (.type "bool")
 |int (i:Int):iC K H (.int i) (.type "int")
 |str (x:Str):iC K H (.str x) (.type "str")
 |VT (x:UInt64):iC K H (.VT x) (.type "float")
 |lst {a:Addr} {xs:yar} (e:H a=some (.lst xs)):iC K H (.ref a) (.type "list")
 |frz {a:Addr} {o:Obj} {xs:yar} (e:H a=some (.frz o (.lst xs))):iC K H (.ref a) (.type "list")
 |tup {a:Addr} {xs:yar} (e:H a=some (.tup xs)):iC K H (.ref a) (.type "tuple")
 |dK {a:Addr} {kvs:List (Key×V)} (e:H a=some (.dK kvs)):iC K H (.ref a) (.type "dict")
 |dT {a:Addr} {kvs:List (List Key×V)} (e:H a=some (.dT kvs)):iC K H (.ref a) (.type "dict")
 |ins {a C dx:Addr} {fs:List (Str×V)} (e:H a=some (.ins C dx fs)) (cl:Lf K C) (ha:PySem.W.findIn K (.ref C) "__class__" = some (some (.builtin "object.__class__")))
   (hn:PySem.W.specialIn K (.builtin "object.__class__") "__get__" = some (some (.builtin "getset_descriptor.__get__"))) (htk:PySem.W.takesIn K (.builtin "object.__class__")=some true)
   (hm:PySem.W.mroIn K C (.type "object")=some true):iC K H (.ref a) (.ref C)
end
structure bB(k:Nat)(A:Around):Prop where
 hd:A.handled=none
 dp:A.depth+3*k+5<recursionLimit
 un:A.units+16*k+200<cLine
def bB.mono{j:Nat}(r:bB k A)(h:j<=k):bB j A:=⟨r.hd,by have:=r.dp;lia,by have:=r.un;lia⟩
theorem bB.deeper{k:Nat}(r:bB (k+1) A)(env:Env):bB k (A.deeper env) :=
 ⟨r.hd,by have:=r.dp;show A.depth+1+3*k+5<_;lia,by have:=r.un;show A.units+3+16*k+200<_;lia⟩
theorem bB.depth(r:bB k A):A.depth<recursionLimit:=by have:=r.dp;lia
theorem bB.units(r:bB k A):A.units+64<cLine:=by have:=r.un;lia
def De:TA:=fun _ H Q=>Q [] H
def p8(ta:TE)(tr:TA):TA:=fun σ H Q=>ta σ H fun x H1=>tr σ H1 fun xs H2=>Q (x::xs) H2
section
variable{X:Cx}{e:Expr}{es:yai}{te:TE}{t:TA}{pos:Pos}
def lr:PA X [] De:=fun _ _ _ _ H Q I h=>Calls.spliced_nil ⟨[],H,I,.nil,h⟩
def fH(ha:PE X e te)(hr:PA X es t)(hs:starEach (e::es) X.env=(false,eval e X.env)::starEach es X.env:=by rfl):PA X (e::es) (p8 te t):=by intro pos pins s σ H Q I h;rw[hs];show wpAny _ _ (spliced ((false,eval e X.env)::backTo pos (starEach es X.env))) _ _ s;refine Calls.spliced_cons (J0 (ha pins s σ H _ I h) fun u s1 J5=>?_);obtain⟨x,H1,I1,r1,q1⟩:=J5;exact J0 (hr pos pins s1 σ H1 _ I1 q1) fun us s2 K1=>(by obtain⟨xs,H2,I2,r2,q2⟩:=K1;exact⟨x::xs,H2,I2,.cons r1 r2,q2⟩)
end
abbrev Sp:=yar->Hp->VK->XK->Prop
abbrev CXT:=List Env->Hp->Shared->XK->yaa
structure xP(P:Program)(w:World)(K:yac)(mg:yam)(base:Heap)(A:Around)(outer:List Env)(s:Shared)(H:Hp):Prop where
 frames:A.frames=some outer
 mod:Mod K mg base
 bs:∀b o,base.get? b=some o->s.heap.get? b=some o/\H b=none
 SH:base.objs.size<=s.heap.objs.size
 M3:s.heap.FunFrames base outer
 SJ:∀b∈NQ outer,H b=none
 Ku:Md P w H s.heap
 bare:AllBare s.gens
def CE(outer:List Env)(P:Program)(w:World)(H:Hp)(s:Shared)(Q:VK)(u:Value)(s':Shared):Prop :=
 ∃ v H',s'.os=s.os/\AllBare s'.gens/\Un (NQ outer) [] H H' s.heap s'.heap/\Md P w H' s'.heap/\RelV v u/\Q v H'
def CR(CX:CXT)(outer:List Env)(P:Program)(w:World)(H:Hp)(s:Shared)(Q:VK)(E:XK)(r:Result)(s':Shared):Prop :=
 match r with
 |.ok (.ret u)=>CE outer P w H s Q u s'
 |.ok _=>False
 |.error e=>CX outer H s E e s'
structure aI(P:Program)(w:World)(K:yac)(mg:yam)(base:Heap)(CX:CXT)(k:Nat)(f:Addr)(fd:FuncData)(ps:yah)(sp:Sp):Prop where
 len:∀vs H Q E,sp vs H Q E->vs.length=ps.length
 run:∀(A:Around) (outer:List Env) (s:Shared) (H:Hp) (args:Args) (us:yad) (vs:yar) (Q:VK) (E:XK),bB k A->xP P w K mg base A outer s H->BindsTo s fd args (ps.zip us)->Vals vs us->sp vs H Q E →
  codeAny (model P w) A (.call (.ref f) args) (CR CX outer P w H s Q E) s
section
variable{X:Cx}{pins:yab}{σ:St}{H:Hp}{s s':Shared}
def Inv.V4(I:Inv X pins σ H s):xP X.prog X.w X.K X.mg X.base X.A X.stack s H :=
 ⟨I.ok.frames,I.ok.mod,I.bs,LZ I.ok.SH I.sz,I.stack,I.Oz,I.Ku,I.bare⟩
def Inv.after(I:Inv X pins σ H s)(h:CE X.stack X.prog X.w H s Q u s'):EP X pins σ Q u s':=by obtain⟨v,H',os,bare,un,Ku,r,q⟩:=h;obtain⟨hh,g,d,t,os'⟩:=s';obtain rfl:os'=s.os:=os;exact⟨v,H',I.call (h':=hh) (g':=g) (d':=d) (t':=t) (ch:=[]) un Ku bare (fun b z=>absurd z (by simp)),r,q⟩
end
def Binds(K:yac)(fd:FuncData)(ps:yah)(ds:yad):Prop :=
 ∀ (s:Shared) (us:yad),K.In s.heap->(us++ds).length=ps.length->BindsTo s fd ⟨us,[]⟩ (ps.zip (us++ds))
def Binds.all{K:yac}{fd:FuncData}{ps:yah}(h:∀us:yad,us.length=ps.length->bindArgs fd ⟨us,[]⟩=pure (ps.zip us)):Binds K fd ps []:=fun s us _ hl=>by rw[Pa]at hl ⊢;exact .of_eq (h us hl)
def Passes(CX:CXT)(X:Cx)(E:XK):Prop:=∀(pins:yab) (σ:St) (H:Hp) (s:Shared) (e:Value) (s':Shared),Inv X pins σ H s->CX X.stack H s E e s'->X.xe e s'
section
variable{X:Cx}{CX:CXT}{k:Nat}{f C:Addr}{fd:FuncData}{ps:yah}{sp:Sp}{X3:yar}{ds:yad}{E:XK}{x m:Str}{p pos apos:Pos}{e o:Expr}{es:yai}{ta:TE}{t:TA}
def HZ(F:aI X.prog X.w X.K X.mg X.base CX k f fd ps sp)(hr:bB k X.A)(hb:Binds X.K fd ps ds)(hd:Vals X3 ds)(hx:Passes CX X E)
  (I:Inv X pins σ H s) (r:Vals vs us) (h:sp (vs++X3) H Q E):wpAny (model X.prog X.w) X.A (call (.ref f) us) (EP X pins σ Q) X.xe s:=by
 have r2:Vals (vs++X3) (us++ds):=r.append hd;have hl:(us++ds).length=ps.length:=by rw[<- r2.length];exact F.len _ _ _ _ h
 refine wpAny_call (codeAny_mono (F.run X.A X.stack s H ⟨us,[]⟩ (us++ds) (vs++X3) Q E hr I.V4 (hb s us I.NX hl) r2 h) fun r s' hq=>?_);cases r with
 |error e=>exact hx pins σ H s e s' I hq
 |ok fl =>
  cases fl with
  |ret u=>exact I.after hq
  |next=>exact False.elim hq
  |brk=>exact False.elim hq
  |cont=>exact False.elim hq
structure Mk(K:yac)(C f:Addr):Prop where
 makes:PySem.W.makesIn K C=true
 init:PySem.W.findIn K (.ref C) "__init__" = some (some (.ref f))
 fn:PySem.W.isFn K (.ref f)=true
 kp:PySem.W.keepIn K (.ref C)=true
end
section
variable{X:Cx}{CX:CXT}{k:Nat}{f C:Addr}{fd:FuncData}{ps ks:yah}{sp:Sp}{E:XK}{x m:Str}{p pos apos kpos:Pos}{e o:Expr}{es:yai}{KP:List Keyword}{te ta:TE}{t tk:TA}{nm:Option Str}
structure zw(K:yac)(fd:FuncData)(ps ks:yah)(g:yad->yad->yad)(gV:yar->yar->yar):Prop where
 to:∀(s:Shared) (us ws:yad),K.In s.heap->(g us ws).length=ps.length->BindsTo s fd ⟨us,ks.zip ws⟩ (ps.zip (g us ws))
 rel:∀{vs:yar} {us:yad} {zs:yar} {ws:yad},Vals vs us->Vals zs ws->Vals (gV vs zs) (g us ws)
variable{g:yad->yad->yad}{gV:yar->yar->yar}
end
structure ax(N P:yah)(sc:Scope):Prop where
 kind:sc.kind=.function
 co:sc.isCoroutine=false
 gen:sc.isGenerator=false
 nd:N.Nodup
 pre:N.take P.length=P
 par:∀x∈P,sc.names.lookup x=some .local∨sc.names.lookup x=some .cell
 TP:∀y∈sc.names,y.2 ≠ .free
theorem rQ{kindOf:Str->Option NameKind}{x:Str}:∀{binds:List (Str×Value)} {m:yam},(∀v,(x,v)∉binds)->bindL kindOf binds m x=m x
 |[],_,_=>rfl
 |(n,v)::r,m,h=>by
  unfold bindL;rw[rQ fun w hw=>h w (K0 _ hw)];split
  ·have:x≠n:=by rintro rfl;exact h v MC
   simp[this]
  ·rfl
theorem rO{kindOf:Str->Option NameKind}{x:Str}:∀{binds:List (Str×Value)} {m:yam},(∀v,(x,v)∉binds)->bindC kindOf binds m x=m x
 |[],_,_=>rfl
 |(n,v)::r,m,h=>by
  unfold bindC;rw[rO fun w hw=>h w (K0 _ hw)];split
  ·rfl
  ·have:x≠n:=by rintro rfl;exact h v MC
   simp[this]
theorem rP{kindOf:Str->Option NameKind}{x:Str}{v:Value}:∀{P:yah} {vs:yad} {i:Nat} {m:yam},P.Nodup->P[i]?=some x->vs[i]?=some v->kindOf x=some .local →
  bindL kindOf (P.zip vs) m x=some v
 |[],_,_,_,_,h,_,_=>by simp at h
 |_::_,[],_,_,_,_,h,_=>by simp at h
 |p::P,w::vs,0,m,nd,h1,h2,hk=>by simp at h1 h2;subst h1;subst h2;show bindL kindOf ((p,w)::P.zip vs) m p=_;unfold bindL;rw[rQ fun v hv=>(QS.mp nd).1 (List.of_mem_zip hv).1,JU hk];simp
 |p::P,w::vs,i+1,m,nd,h1,h2,hk=>by show bindL kindOf ((p,w)::P.zip vs) m x=_;unfold bindL;exact rP (i:=i) (QS.mp nd).2 (by simpa using h1) (by simpa using h2) hk
theorem rN{kindOf:Str->Option NameKind}{x:Str}{v:Value}:∀{P:yah} {vs:yad} {i:Nat} {m:yam},P.Nodup->P[i]?=some x->vs[i]?=some v->kindOf x≠some .local →
  bindC kindOf (P.zip vs) m x=some v
 |[],_,_,_,_,h,_,_=>by simp at h
 |_::_,[],_,_,_,_,h,_=>by simp at h
 |p::P,w::vs,0,m,nd,h1,h2,hk=>by simp at h1 h2;subst h1;subst h2;show bindC kindOf ((p,w)::P.zip vs) m p=_;unfold bindC;rw[rO fun v hv=>(QS.mp nd).1 (List.of_mem_zip hv).1,JT hk];simp
 |p::P,w::vs,i+1,m,nd,h1,h2,hk=>by show bindC kindOf ((p,w)::P.zip vs) m x=_;unfold bindC;exact rN (i:=i) (QS.mp nd).2 (by simpa using h1) (by simpa using h2) hk
def start(N:yah)(vs:yar):St:=vs.map some++List.replicate (N.length - vs.length) none
def cE(CX:CXT)(P:Program)(w:World)(K:yac)(mg:yam)(base:Heap)(N:yah)(qual:Str)(scope:Scope)(f:Addr)(cd:Value)(A:Around)(outer:List Env)(s:Shared)(H:Hp)(E:XK):Cx where
 prog:=P
 w:=w
 K:=K
 mg:=mg
 base:=base
 A:=A.deeper (envOfC qual scope s.heap.objs.size f cd)
 N:=N
 J9:=s
 KY:=H
 env:=envOfC qual scope s.heap.objs.size f cd
 outer:=outer
 stack:=envOfC qual scope s.heap.objs.size f cd::outer
 ex:=[]
 calm:=true
 fn:=fun _=>true
 pn:=[]
 xe:=fun e s'=>wpAny (model P w) (A.deeper (envOfC qual scope s.heap.objs.size f cd)) (leaving (envOfC qual scope s.heap.objs.size f cd) e) (fun _ V5=>CX outer H s E e V5) (fun e' V5=>CX outer H s E e' V5) s'
def uf{sc:Scope}(h:sc.names.lookup x=some .cell):∃c,(cellsFrom n sc.names []).lookup x=some c:=by have q:=PySem.W.cellsFrom_some sc.names n [] (.inl h);exact Option.isSome_iff_exists.mp q
def Al{CX:CXT}{P:Program}{w:World}{K:yac}{mg:yam}{base:Heap}{N ps:yah}{qual:Str}{scope:Scope}{f:Addr}{cd:Value}{A:Around}{outer:List Env}{s s1:Shared}{H:Hp}{E:XK}{us:yad}{vs:yar}
  (S:ax N ps scope) (hd:A.handled=none) (e0:xP P w K mg base A outer s H) (hl:vs.length=ps.length) (r:Vals vs us)
  (x:InCallC s s.heap.objs.size (bindL (envOfC qual scope s.heap.objs.size f cd).kindOf (ps.zip us) fun _=>none) (cellsFrom (s.heap.objs.size+1) scope.names []) (bindC (envOfC qual scope s.heap.objs.size f cd).kindOf (ps.zip us) fun _=>none) s1) :
  Inv (cE CX P w K mg base N qual scope f cd A outer s H E) [] (start N vs) H s1:=by
 have Lr:ps.length<=N.length:=by have:=congrArg List.length S.pre;rw[NW]at this;lia
 obtain⟨h1,tk,rfl,hk⟩:=x.done;have V6:∀b:Addr,b∉(cE CX P w K mg base N qual scope f cd A outer s H E).ex:=fun b z=>absurd (show b∈([]:yae)from z) (by simp)
 refine⟨⟨e0.mod,S.kind,rfl,rfl,KO _,fun y z c h1 h2=>?_,fun y hy=>?_,fun y c _ h=>?_,fun _=>hd,Around.frames_deeper e0.frames,.inr ⟨rfl,rfl⟩,fun b z=>absurd z (V6 b),e0.bs,e0.SH,fun b _ _=>V6 b,fun b z=>absurd z (V6 b),e0.M3,e0.SJ⟩,
  rfl,e0.bare,Un.kept hk,⟨_,x.toInCall.ns,fun i y v h1 h2 h3=>?_⟩,fun y c h=>⟨_,x.cell y c h⟩,e0.Ku.fresh (KO _),fun y c h=>?_,fun p hp=>absurd (show p∈([]:yab)from hp) (by simp),e0.Ku.kept hk,?_⟩
 ·exact name_of_addr x.apart (PySem.mem_of_lookup h1) (PySem.mem_of_lookup h2)
 ·have hy:scope.names.lookup y=some .cell∨scope.names.lookup y=some .free:=hy;rcases hy with hy|hy
  ·exact uf hy
  ·exact absurd rfl (S.TP _ (PySem.mem_of_lookup hy))
 ·exact QU (x.above y c (PySem.mem_of_lookup h))
 ·have hi:i<vs.length:=by
   unfold start at h2;by_cases hi:i<vs.length
   ·exact hi
   ·rw[NM (by simpa using hi)]at h2;rw[Vz]at h2;split at h2<;>cases h2
  have ha:vs[i]?=some v:=by
   unfold start at h2;rw[OV (by simpa using hi),M9]at h2;cases e:vs[i]? with
   |none=>rw[e]at h2;cases h2
   |some a=>rw[e]at h2;cases h2;rfl
  obtain⟨u,hu,rv⟩:=r.get ha;have hp:ps[i]?=some y:=by rw[<- S.pre,List.getElem?_take_of_lt (by lia)];exact h1
  have ndP:ps.Nodup:=by rw[<- S.pre];exact S.nd.sublist (UO _ _)
  refine⟨u,rv,?_⟩;rcases S.par y (NS hp)with k|k
  ·exact .inl ⟨k,rP ndP hp hu k⟩
  ·obtain⟨c,e⟩:=uf (n:=s.heap.objs.size+1) k;refine .inr ⟨.inl k,c,e,?_⟩;have q:=x.cell y c e;rw[rN ndP hp hu (by show scope.names.lookup y≠_;rw[k];decide)]at q;exact q
 ·exact e0.Ku.fresh (QU (x.above y c (PySem.mem_of_lookup h)))
 ·unfold start;show _=N.length;rw[LO,J6,List.length_replicate]
  lia
def IE {CX : CXT} {P : Program} {w : World} {K : yac} {mg : yam} {base : Heap} {k : Nat} {f : Addr} {name qual : Str} {params : Arguments} {body : yal} {scope : Scope} {dV kV doc pm Ks ct oc : Value} {an od : Option Addr}
  {RX : Array (yan)} {N ps : yah} {sp : Sp} (lk : K.lookup f = some ⟨oc, od, .func (PySem.W.fnOf name qual params body scope dV kV doc pm an Ks ct), RX⟩) (Nb : PySem.W.codeIn K Ks qual = true) (S : ax N ps scope)
  (len : ∀ vs H Q E, sp vs H Q E -> vs.length = ps.length)
  (NA : ∀ (A : Around) (outer : List Env) (s : Shared) (H : Hp) (vs : yar) (Q : VK) (E : XK), bB k (A.deeper (envOfC qual scope s.heap.objs.size f Ks)) -> sp vs H Q E →
   ∃ t, PSs (cE CX P w K mg base N qual scope f Ks A outer s H E) body t /\ t { nx := fun _ H' => Q .Kt H', rt := Q } (start N vs) H) :
  aI P w K mg base CX (k + 1) f (PySem.W.fnOf name qual params body scope dV kV doc pm an Ks ct) ps sp := by
 refine ⟨len, fun A outer s H args us vs Q E hr e0 hb r Q1 => ?_⟩;have hl := len _ _ _ _ Q1;have KX : K.In s.heap := e0.mod.Nm.keeps fun b o e => (e0.bs b o e).1
 have lim : s.heap.NoLimit := e0.mod.nolimit.keeps fun b o e => (e0.bs b o e).1
 have V7 : ∀ y ∈ ps.zip us, scope.names.lookup y.1 = some .local ∨ (scope.names.lookup y.1 = some .cell /\ ((cellsFrom (s.heap.objs.size + 1) scope.names []).lookup y.1).isSome = true) := fun ⟨n, v⟩ hy => by
  rcases S.par n (List.of_mem_zip hy).1 with q | q
  ·exact .inl q
  ·exact .inr ⟨q, PySem.W.cellsFrom_some _ _ _ (.inl q)⟩
 refine codeAny_call_function hr.depth (KX _ _ lk) rfl S.co S.gen rfl (PySem.W.codeRec_of KX Nb) (hb _ _ _ _ ?_);refine wpAny_newFunctionEnv_cells S.kind V7 fun env he s1 x => ?_
 subst he;refine ⟨lim.keeps x.toInCall.keep, codeAny_func ?_⟩;obtain ⟨t, ht, hq⟩ := NA A outer s H vs Q E (hr.deeper _) Q1;have I : Inv (cE CX P w K mg base N qual scope f Ks A outer s H E) [] (start N vs) H s1 := Al S hr.hd e0 hl r x;refine NP (ht [] s1 (start N vs) H _ I hq) (fun fl s' hs => ?_) fun e s' hs => hs
 have fin : ∀ {Ky : St} {H' : Hp} {v : V} {u : Value}, Inv (cE CX P w K mg base N qual scope f Ks A outer s H E) [] Ky H' s' -> RelV v u -> Q v H' -> CE outer P w H s Q u s' :=
  fun {Ky H' v u} J rv q => ⟨v, H', J.os, J.bare, J.base, J.Ku, rv, q⟩
 cases fl with
 | ret u =>
  obtain ⟨v, Ky, H', J, rv, q⟩ := hs;exact fin J rv q
 | next =>
  obtain ⟨Ky, H', J, q⟩ := hs;exact fin (v := V.Kt) (u := Value.none) J rfl q
 | brk =>
  obtain ⟨_, _, _, q⟩ := hs;exact False.elim q
 | cont =>
  obtain ⟨_, _, _, q⟩ := hs;exact False.elim q
section
variable{X:Cx}{x:Str}{p pos:Pos}{e:Expr}{es:yai}{t:TA}{id T:String}{r:yar->Hp->VK->Prop}
def tCB(r:yar->Hp->VK->Prop)(t:TA):TE:=fun σ H Q=>t σ H fun vs H1=>r vs H1 Q
def AO (hc:jP X (.type T) r) (hg:Gl X x) (hm:X.mg x=none) (hv:bootBuiltins x=some (.type T)) (ha:PA X (e::es) t) (hn:x ≠ "__name__" := by decide) (NB:(x==("__debug__" : Str))=false:=by decide)
  (he:starEach (e::es) X.env=(false,eval e X.env)::starEach es X.env:=by rfl) (Lr:(backTo pos (starEach es X.env)).any (·.1)=false:=by rfl):PE X (.Call (.Name x p) (e::es) [] pos) (tCB r t):=by
 intro pins s σ H Q I h;refine RA (dQ I hg hm hv ?_ hn NB);exact PyProof.Rows.callWith_type1 (J0 (ha pos pins s σ H _ I h) fun us s1 K1=>(by obtain⟨vs,H1,I1,r1,q1⟩:=K1;exact hc pins s1 σ H1 vs us Q I1 r1 q1)) he Lr
end
end L2
namespace HT
open PySem PyProof.Rows
def lexLt:yaf->yaf->Bool
 |[],[]=>false
 |[],_::_=>true
 |_::_,[]=>false
 |x::xs,y::ys=>if x=y then lexLt xs ys else decide (x<y)
section
open PySem.SeqAt
open PySem.AutoSeq1 (wpAny_loadPart')
open PySem.MeetsSeq PySem.MeetsSeq2 PySem.MeetsSeq3
end
section
variable{prog:Program}{w:World}{A:Around}{E:yaa}{s:Shared}
def Mz(n d:Nat):yaq->Nat
 |none=>d
 |some v=>if v<0 then(v+(n:Int)).toNat else min v.toNat n
theorem C4(n d:Nat):Mz n d none=d:=rfl
def jL(n d k:Nat):Mz n d (some (k:Int))=min k n:=by show(if(k:Int)<0 then((k:Int)+(n:Int)).toNat else min (k:Int).toNat n)=min k n;rw[JT (by lia),Int.toNat_natCast]
end
end HT
namespace L2
open PySem PySem.Spec PyProof.Rows
abbrev TO:=St->Hp->(yaq->Hp->Prop)->Prop
def intsAre_of{ns:yaf}:∀{us:yad},Vals (ns.map V.int) us->IntsAre us ns:=by
 induction ns with
 |nil=>intro us r;rw[RD]at r;cases r;exact .nil
 |cons n ns ih =>
  intro us r;rw[K5]at r;cases r with
  |cons r1 r2 =>
   obtain⟨t,e⟩:=r1;subst e;exact .cons n t (ih r2)
section
variable{X:Cx}{e:Expr}{te:TE}{lo hi:Option Expr}{tl th:TO}{pos p2:Pos}
def qy(xs:yar)(lo hi:yaq):yar:=(xs.drop (HT.Mz xs.length 0 lo)).take (HT.Mz xs.length xs.length hi - HT.Mz xs.length 0 lo)
def wg(xs:yar)(lo hi:yaq):(qy xs lo hi).length<=xs.length:=by
 unfold qy;rw[NW,ON]
 lia
end
def ixN(n:Nat)(i:Int):Option Nat:=if 0<=i then(if i<n then some i.toNat else none)else if -(n:Int)<=i then some (i+n).toNat else none
def Me{α:Type}(xs:List α)(i:Int):Option α:=(ixN xs.length i).bind fun j=>xs[j]?
def xj{j:Nat}(h:ixN n i=some j):seqIndex? i n=some j/\j<n/\-(n:Int)<=i/\i<n:=by
 unfold ixN at h;by_cases h0:0<=i
 ·rw[JU h0]at h;by_cases h1:i<n
  ·rw[JU h1]at h;have e:i.toNat=j:=MW h;exact⟨by rw[seqIndex_of h0 h1,e],by lia,by lia,h1⟩
  ·rw[JT h1]at h;cases h
 ·rw[JT h0]at h;by_cases h1:-(n:Int)<=i
  ·rw[JU h1]at h;have e:(i+n).toNat=j:=MW h;exact⟨by rw[seqIndex_neg (by lia) h1,e],by lia,h1,by lia⟩
  ·rw[JT h1]at h;cases h
def wZ{α:Type}{xs:List α}{i:Int}{v:α}(h:Me xs i=some v):∃j,seqIndex? i xs.length=some j/\xs[j]?=some v/\j<xs.length/\-(xs.length:Int)<=i/\i<xs.length:=by
 unfold Me at h;cases e:ixN xs.length i with
 |none=>rw[e]at h;cases h
 |some j =>
  rw[e]at h;obtain⟨h1,h2,h3,h4⟩:=xj e;exact⟨j,h1,h,h2,h3,h4⟩
def di{α:Type}{xs:List α}{j:Nat}{v:α}(h:xs[j]?=some v):Me xs (j:Int)=some v:=by
 have hj:j<xs.length:=(MZ.mp h).1;have e:ixN xs.length (j:Int)=some j:=by unfold ixN;rw[JU (by lia),JU (by lia)];simp
 unfold Me;rw[e];exact h
def BH{α:Type}(xs:List α)(v:α):Me (xs++[v]) (-1)=some v:=by
 have hl:(xs++[v]).length=xs.length+1:=by simp
 have e:ixN (xs++[v]).length (-1)=some xs.length:=by
  unfold ixN;rw[hl,JT (by decide),JU (by lia)];congr 1
  lia
 unfold Me;rw[e];show(xs++[v])[xs.length]?=some v;simp
def Ea(b:Expr):Prop:=∀o i,subscripted b false o i=operate [o,i] (getItem o i)
def IxR(X:Cx)(r:R2):Prop :=
 ∀ (value slice:Expr) (pins:yab) (s:Shared) (σ:St) (H:Hp) (x y:V) (v u:Value) (Q:VK),Inv X pins σ H s->RelV x v->RelV y u->r x y H Q →
  subscripted slice false v u=operate [v,u] (getItem v u)->wpAny (model X.prog X.w) X.A (subscriptTail value slice v u) (EP X pins σ Q) X.xe s
def MtR(X:Cx)(id:String)(r:V->yar->Hp->VK->Prop):Prop :=
 ∀ (pins:yab) (s:Shared) (σ:St) (H:Hp) (x:V) (xs:yar) (v:Value) (us:yad) (Q:VK),Inv X pins σ H s->RelV x v->Vals xs us->r x xs H Q →
  wpAny (model X.prog X.w) X.A (call (.builtin id) (v::us)) (EP X pins σ Q) X.xe s
section
variable{X:Cx}{a b:Expr}{ta tb:TE}{pos:Pos}
def JF(K:yac):R2:=fun x y H Q=>∃p xs i v,x=.ref p/\y=.int i/\SqL K H p xs/\Me xs i=some v/\Q v H
def JG(K:yac):R2:=fun x y H Q=>∃p xs i v,x=.ref p/\y=.int i/\Le K H p xs/\Me xs i=some v/\Q v H
def EL:IxR X (JF X.K):=by
 intro value slice pins s σ H x y v u Q I rx ry h hs;obtain⟨p,xs,i,z,rfl,rfl,hq,he,q⟩:=h;cases rx;obtain⟨t,rfl⟩:=ry;obtain⟨JZ,r,pl,hz⟩:=I.list hq;obtain⟨j,h1,h2,h3,h4,h5⟩:=wZ he;obtain⟨w,ew,Qg⟩:=r.get h2;have hl:=r.length;have hn:=ph;have fin:EP X pins σ Q w s:=⟨z,H,I,Qg,q⟩;by_cases h0:0<=i
 ·have hj:i.toNat=j:=by
   rw[seqIndex_of h0 h5]at h1;exact MW h1
  exact item_listR pl.isList h0 (by lia) (by rw[hj];simpa using ew) fin hs
 ·have hj:(i+(JZ.toArray.size:Int)).toNat=j:=by
   rw[seqIndex_neg (by lia) h4]at h1;rw[MD,<- hl];exact MW h1
  exact subscriptTail_builtinR (x:=w) pl.isList.typeIs slot_list_getitem.lookup
   (wpAny_getItem_list_neg (Q:=fun r s'=>r=w/\EP X pins σ Q r s') pl.isList (by lia) (by rw[MD]<;>lia) (by lia) (by rw[hj];simpa using ew) ⟨rfl,fin⟩) hs
def Hi:IxR X (JG X.K):=by
 intro value slice pins s σ H x y v u Q I rx ry h hs;obtain⟨p,xs,i,z,rfl,rfl,hq,he,q⟩:=h;cases rx;obtain⟨t,rfl⟩:=ry;obtain⟨JZ,r,pl,hz⟩:=I.tuple hq;obtain⟨j,h1,h2,h3,h4,h5⟩:=wZ he;obtain⟨w,ew,Qg⟩:=r.get h2;have hl:=r.length;have hn:=ph;have fin:EP X pins σ Q w s:=⟨z,H,I,Qg,q⟩;exact subscriptTail_builtinR (x:=w) pl.typeIs slot_tuple_getitem.lookup
  (getItem_tuple (j:=j) (Q:=fun r s'=>r=w/\EP X pins σ Q r s') pl (by lia) (by lia) (by rw[MD,<- hl];exact h1) (by simpa using ew) ⟨rfl,fin⟩) hs
def yD (JZ:yad) (n j:Nat) (u:Value):Obj.mapSeq (·.setIfInBounds j u) {cls:=.type "list", data:=.seq JZ.toArray n}={cls:=.type "list", data:=.seq (JZ.set j u).toArray n}:=by simp[Obj.mapSeq]
theorem Inv.lst(I:Inv X pins σ H s)(h:H p=some (.lst xs)) :
  ∃ (JZ:yad) (n:Nat),Vals xs JZ/\s.heap.get? p=some {cls:=.type "list", data:=.seq JZ.toArray n}/\xs.length<=sizeLine:=by
 obtain⟨z,JZ,n,r,e⟩:=I.Ku p _ h;exact⟨JZ,n,r,e,z⟩
def Inv.TQ{JZ its':yad}{f:Obj->Obj}(I:Inv X pins σ H s)(h:H p=some (.lst xs))
  (ho:s.heap.get? p=some {cls:=.type "list", data:=.seq JZ.toArray n}) (hf:f {cls:=.type "list", data:=.seq JZ.toArray n}={cls:=.type "list", data:=.seq its'.toArray n'}) (r:Vals ys its') (hz:ys.length<=sizeLine) (t:Nat) :
  Inv X pins σ (upd H p (.lst ys)) {s with heap:=s.heap.update p f,toks:=t}:=by
 have e:(s.heap.update p f).get? p=some {cls:=.type "list", data:=.seq its'.toArray n'}:=by rw[Tt f ho (by rw[hf]<;>rfl),hf]
 refine I.write (x:=p) (e:=p) (by rw[h];trivial) (.inl rfl) (fun b u hb q=>(Tq _ _ (Ne.symm hb)).trans q) ⟨_,e⟩ ?_;exact⟨hz,its',n',r,e⟩
def Jc:V->V->V->Hp->(Hp->Prop)->Prop:=fun o i v H Q=>∃p xs k j,o=.ref p/\i=.int k/\H p=some (.lst xs)/\ixN xs.length k=some j/\Q (upd H p (.lst (xs.set j v)))
def set_list:Jp X Jc:=by
 intro pins s σ H o i v ov iv u Q I ro ri rv h;obtain⟨p,xs,k,j,rfl,rfl,hp,hj,q⟩:=h;cases ro;obtain⟨t,rfl⟩:=ri;obtain⟨JZ,n,r,ho,hz⟩:=I.lst hp;obtain⟨h1,h2,h3,h4⟩:=xj hj;have hl:=r.length;have hn:=ph;have I':Inv X pins σ (upd H p (.lst (xs.set j v))) {s with heap:=s.heap.update p (Obj.mapSeq (·.setIfInBounds j u))} :=
  I.TQ hp ho (yD JZ n j u) (r.set rv j) (by rw[UW];exact hz) s.toks
 by_cases h0:0<=k
 ·have hk:k.toNat=j:=by
   rw[seqIndex_of h0 h4]at h1;exact MW h1
  exact PySem.W.ki_setAt ho h0 (by lia) (by rw[MD,<- hl];exact h4) (by rw[hk];exact⟨_,I',q⟩)
 ·have hk:(k+(JZ.toArray.size:Int)).toNat=j:=by
   rw[seqIndex_neg (by lia) h3]at h1;rw[MD,<- hl];exact MW h1
  exact PySem.W.ki_setBack ho (by lia) (by rw[MD,<- hl];exact h3) (by lia) (by rw[hk];exact⟨_,I',q⟩)
def vK(lo hi:yaq)(n:Nat):(sliceBounds lo hi none n).1=((HT.Mz n 0 lo:Nat):Int)/\(sliceBounds lo hi none n).2.1=((HT.Mz n n hi:Nat):Int)/\(sliceBounds lo hi none n).2.2=1:=by
 refine⟨?_,?_,rfl⟩
 ·cases lo with
  |none=>simp[sliceBounds,HT.Mz]
  |some i =>
   simp only[sliceBounds,HT.Mz,Option.getD_none,show(1:Int) > 0 by decide,if_true];by_cases h:i<0
   ·simp only[h,if_true]<;>lia
   ·simp only[h,if_false]<;>lia
 ·cases hi with
  |none=>simp[sliceBounds,HT.Mz]
  |some i =>
   simp only[sliceBounds,HT.Mz,Option.getD_none,show(1:Int) > 0 by decide,if_true];by_cases h:i<0
   ·simp only[h,if_true]<;>lia
   ·simp only[h,if_false]<;>lia
def tB(JZ:yad)(lo hi:yaq):slicePick JZ.toArray lo hi none=((JZ.drop (HT.Mz JZ.length 0 lo)).take (HT.Mz JZ.length JZ.length hi - HT.Mz JZ.length 0 lo)).toArray:=by obtain⟨h1,h2,h3⟩:=vK lo hi JZ.toArray.size;unfold slicePick;rw[h1,h2,h3];simp only[sliceRange_one,pick_run,MD]<;>rfl
def uc:jP X (.builtin "len") (fun xs H Q=>∃p ys,xs=[.ref p]/\(SqL X.K H p ys∨Le X.K H p ys)/\Q (.int ys.length) H):=by
 intro pins s σ H xs us Q I r h;obtain⟨p,ys,rfl,hq,q⟩:=h;obtain⟨u,rfl,rx⟩:=vals1 r;cases rx;have hn:=ph;rcases hq with hq|hq
 ·obtain⟨JZ,r',pl,hz⟩:=I.list hq;have hlen:=r'.length;exact Calls.call_len_list pl.isList (by simp only[MD]<;>lia) ⟨.int ys.length,H,I.tok _,⟨s.toks+1,by rw[MD,hlen]⟩,q⟩
 ·obtain⟨JZ,r',pl,hz⟩:=I.tuple hq;have hlen:=r'.length;exact len_tuple pl (by simp only[MD]<;>lia) ⟨.int ys.length,H,I.tok _,⟨s.toks+1,by rw[MD,hlen]⟩,q⟩
def ud:jP X (.type "list") (fun xs H Q=>∃p ys,xs=[.ref p]/\(SqL X.K H p ys∨Le X.K H p ys)/\∀l,H l=none->Q (.ref l) (upd H l (.lst ys))):=by
 intro pins s σ H xs us Q I r h;obtain⟨p,ys,rfl,hq,q⟩:=h;obtain⟨u,rfl,rx⟩:=vals1 r;cases rx;have fin:∀(JZ:yad),Vals ys JZ->ys.length<=sizeLine->∀(h':Heap) (c':Nat),(∀b o',s.heap.get? b=some o'->h'.get? b=some o') →
   h'.get? s.heap.objs.size=some {cls:=.type "list", dict:=none,data:=.seq JZ.toArray c',slots:=#[]}->EP X pins σ Q (.ref s.heap.objs.size) {s with heap:=h'}:=fun JZ r' hz h' c' kp e =>
  ⟨.ref s.heap.objs.size,_,I.laid (t':=s.toks) kp (KO _) (show bu X.prog X.w _ h' _ (.lst ys)from⟨hz,JZ,c',r',e⟩),rfl,q _ (I.Ku.fresh (KO _))⟩
 rcases hq with hq|hq
 ·obtain⟨JZ,r',pl,hz⟩:=I.list hq;have hlen:=r'.length;obtain⟨o,ho,hc,n,hd⟩:=pl.isList;exact call_list_seq p (.inl rfl) ho hc hd (fun h' c' kp e=>fin JZ r' hz h' c' kp e) (by simp only[MD]<;>lia)
 ·obtain⟨JZ,r',pl,hz⟩:=I.tuple hq;have hlen:=r'.length;obtain⟨o,ho,hc,n,hd⟩:=pl;exact call_list_seq p (.inr rfl) ho hc hd (fun h' c' kp e=>fin JZ r' hz h' c' kp e) (by simp only[MD]<;>lia)
def RG(K:yac)(T:String)(x:V)(H:Hp):Prop:=match x with
 |.str _=>T = "str"
 |.int _=>T = "int"
 |.ref p=>(T = "list" /\∃xs,SqL K H p xs)∨(T = "tuple" /\∃o,K.lookup p=some o/\o.cls=.type "tuple" /\ o.dict=none) ∨
   (T = "dict" /\ ((∃kvs,H p=some (.dK kvs))∨∃ kvs,H p=some (.dT kvs)))∨(T = "set" /\∃S n,H p=some (.set S n))
 |_=>False
def Bo(I:Inv X pins σ H s)(r:RelV x v)(ty:RG X.K T x H) :
  s.TypeIs v T/\∀a,v=.ref a->∃ob,s.heap.get? a=some ob/\ob.dict=none:=by
 cases x with
 |str z =>
  obtain⟨t,rfl⟩:=r;cases(show T = "str" from ty);exact⟨typeIs_str s z t,fun _ e=>nomatch e⟩
 |int i =>
  obtain⟨t,rfl⟩:=r;cases(show T = "int" from ty);exact⟨typeIs_int s i t,fun _ e=>nomatch e⟩
 |ref p =>
  cases r;rcases ty with⟨rfl,xs,hq⟩| ⟨rfl,o,hk,hc,hd⟩| ⟨rfl,hk⟩| ⟨rfl,S,n,hk⟩
  ·obtain⟨JZ,_,pl,_⟩:=I.list hq;refine⟨pl.isList.typeIs,fun a e=>?_⟩;cases e;obtain⟨o,n,e,c,hd,_⟩:=pl;exact⟨o,e,hd⟩
  ·refine⟨⟨o,I.NX p o hk,hc⟩,fun a e=>?_⟩;cases e;exact⟨o,I.NX _ o hk,hd⟩
  ·have z:∃o,s.heap.get? p=some o/\o.ExactDict:=by
    rcases hk with⟨kvs,hk⟩| ⟨kvs,hk⟩
    ·obtain⟨_,_,_,_,o,_,_,e,ex,_⟩:=I.Ku p _ hk;exact⟨o,e,ex⟩
    ·obtain⟨_,_,_,_,o,_,_,e,ex,_⟩:=I.Ku p _ hk;exact⟨o,e,ex⟩
   obtain⟨o,e,ex⟩:=z;refine⟨⟨o,e,ex.1⟩,fun a e2=>?_⟩;cases e2;exact⟨o,e,ex.2.1⟩
  ·obtain⟨o,_,_,_,e,ex,_⟩:=I.Ku p _ hk;refine⟨⟨o,e,ex.1⟩,fun a e2=>?_⟩;cases e2;exact⟨o,e,ex.2.1⟩
 |_=>exact False.elim ty
def JL(K:yac)(T:String)(r:V->yar->Hp->VK->Prop)(to:TE):TE:=fun σ H Q=>to σ H fun x H1=>RG K T x H1/\r x [] H1 Q
def tBM(K:yac)(T:String)(r:V->yar->Hp->VK->Prop)(to:TE)(t:TA):TE:=fun σ H Q=>to σ H fun x H1=>RG K T x H1/\t σ H1 fun xs H2=>r x xs H2 Q
variable{o e:Expr}{es:yai}{to:TE}{t:TA}{name:Str}{apos Ko:Pos}{T id:String}{r:V->yar->Hp->VK->Prop}
def HJ (pa:PlainAttrs T) (slot:Slot T name id) (V8:typeOf (.builtin id)=pure (.type "method_descriptor")) (hm:MtR X id r) (ho:PE X o to)
  (Mh:attributeBase o name X.env (eval o X.env)=eval o X.env:=by rfl) (Mi:(apos.endLine==Ko.line)=true:=by rfl):PE X (.Call (.Attribute o name apos) [] [] Ko) (JL X.K T r to):=by
 intro pins s σ H Q I h;refine wpAny_Call_method0_late Mh Mi (J0 (ho pins s σ H _ I h) fun v s1 J5=>?_);obtain⟨x,H1,I1,r1,ty,q1⟩:=J5;obtain⟨h1,h2⟩:=Bo I1 r1 ty;exact⟨T,id,pa,slot,V8,h1,h2,Calls.callWith_builtin rfl (PySem.evalArgs_none (hm pins s1 σ H1 x [] v [] Q I1 r1 .nil q1))⟩
def DR (pa : PlainAttrs T) (slot : Slot T name id) (V8 : typeOf (.builtin id) = pure (.type "method_descriptor")) (hm : MtR X id r) (ho : PE X o to) (ha : PA X (e :: es) t)
  (Mh : attributeBase o name X.env (eval o X.env) = eval o X.env := by rfl)
  (Q2 : ((backTo Ko (starEach (e :: es) X.env)).all (fun x => !x.1) && (backToKw Ko (keywordEach [] X.env)).all (fun x => x.1.isSome)
   && decide ((e :: es).length + ([] : List Keyword).length + (if ([] : List Keyword).isEmpty then 0 else 1) < 30)) = true := by rfl)
  (Mi : (apos.endLine == Ko.line) = true := by rfl) (hs : starEach (e :: es) X.env = (false, eval e X.env) :: starEach es X.env := by rfl) (NC : (backTo Ko (starEach es X.env)).any (·.1) = false := by rfl) :
  PE X (.Call (.Attribute o name apos) (e :: es) [] Ko) (tBM X.K T r to t) := by
 intro pins s σ H Q I h;refine wpAny_Call_method_late Mh Q2 Mi rfl (J0 (ho pins s σ H _ I h) fun v s1 J5 => ?_);obtain ⟨x, H1, I1, r1, ty, q1⟩ := J5;obtain ⟨h1, h2⟩ := Bo I1 r1 ty;refine ⟨T, id, pa, slot, V8, h1, h2, ?_⟩;have hA := ha Ko pins s1 σ H1 _ I1 q1;rw [hs] at hA ⊢;refine Calls.callWith_builtin (by show (false || (backTo Ko (starEach es X.env)).any (·.1)) = false; rw [NC] <;> rfl) (Calls.evalArgs_plain ?_);exact J0 hA fun us s2 K1 => (by obtain ⟨vs, H2, I2, r2, q2⟩ := K1; exact hm pins s2 σ H2 x vs v us Q I2 r1 r2 q2)
end
def MtM(X:Cx)(id:String)(r:V->yar->Hp->VK->Prop):Prop :=
 ∀ (pins:yab) (s:Shared) (σ:St) (H:Hp) (x:V) (xs:yar) (v:Value) (us:yad) (Q:VK),Inv X pins σ H s->RelV x v->Vals xs us->r x xs H Q →
  wpAny (model X.prog X.w) X.A (call (.builtin id) (v::us)) (EP X pins σ Q) X.xe s
def Vals.one:∀{x:V} {us:yad},Vals [x] us->∃u,us=[u]/\RelV x u
 |_,_,.cons r .nil=>⟨_,rfl,r⟩
def Vals.zero:∀{us:yad},Vals [] us->us=[]
 |_,.nil=>rfl
theorem Vals.dropLast(h:Vals xs us):Vals xs.dropLast us.dropLast:=by
 induction h with
 |nil=>exact .nil
 |cons r t ih =>
  cases t with
  |nil=>exact .nil
  |cons q t'=>exact .cons r ih
def yt{α:Type}(l:List α):l.eraseIdx (l.length - 1)=l.dropLast:=by
 induction l with
 |nil=>rfl
 |cons a r ih =>
  cases r with
  |nil=>rfl
  |cons b r =>
   have e:(a::b::r).length - 1=((b::r).length - 1)+1:=by
    have h1:(a::b::r).length=r.length+2:=rfl;have h2:(b::r).length=r.length+1:=rfl
    lia
   rw[e,List.eraseIdx_cons_succ,ih]
   all_goals rfl
section
variable{X:Cx}{pins:yab}{σ:St}{H:Hp}{s:Shared}{l b:Addr}{xs ys zs:yar}
def Inv.TR{JZ its':yad}{f:yao->yao}{t':Nat}(I:Inv X pins σ H s)(hH:H l=some (.lst xs))
  (e:s.heap.get? l=some {cls:=.type "list", data:=.seq JZ.toArray n}) (hf:f JZ.toArray=its'.toArray) (hv:Vals ys its') (hz:ys.length<=sizeLine) :
  Inv X pins σ (upd H l (.lst ys)) {s with heap:=s.heap.update l (Obj.mapSeq f),toks:=t'}:=by
 have q:=PySem.IsL.update e f;rw[hf]at q;refine I.write (x:=l) (e:=l) (by rw[hH];exact trivial) (.inl rfl) (fun b' u hb hu=>(Tq s.heap (Obj.mapSeq f) (Ne.symm hb)).trans hu) ⟨_,q⟩ ?_;exact⟨hz,its',_,hv,q⟩
def Inv.RY (I:Inv X pins σ H s) (hH:H l=some (.lst xs)):xs.length<=sizeLine/\∃(JZ:yad) (n:Nat),Vals xs JZ/\xs.length=JZ.length/\s.heap.get? l=some {cls:=.type "list", data:=.seq JZ.toArray n}:=by obtain⟨z,JZ,n,r,e⟩:=I.Ku l _ hH;exact⟨z,JZ,n,r,r.length,e⟩
def Cy{n:Nat}(h:n<=sizeLine):Builtin.List.listTooLong n=false:=by unfold Builtin.List.listTooLong;exact Qb (by lia)
end
section
variable{X:Cx}
def Fs:V->yar->Hp->VK->Prop:=fun x vs H Q=>∃l xs y,x=.ref l/\vs=[y]/\H l=some (.lst xs)/\xs.length<sizeLine/\Q .Kt (upd H l (.lst (xs++[y])))
def sv:MtM X "list.append" Fs:=by
 intro pins s σ H x vs v us Q I rx rv h;obtain⟨l,xs,y,rfl,rfl,hH,hz,q⟩:=h;cases rx;obtain⟨u,rfl,ru⟩:=rv.one;obtain⟨z,JZ,n,r,hl,e⟩:=I.RY hH;refine call_meets F.slot_list_append ⟨_,e,rfl⟩ F.entry_list_append (F.args_list_append_2 _ _) (PySem.list_append l JZ.toArray n u (by rw[MD];lia)) ⟨e,?_⟩;refine⟨.Kt,_,I.TR (its':=JZ++[u]) hH e (by simp) (r.append (.cons ru .nil)) ?_,rfl,q⟩;rw[LO,XS]
 lia
def Ft:V->yar->Hp->VK->Prop:=fun x vs H Q=>∃l b xs zs,x=.ref l/\vs=[.ref b]/\H l=some (.lst xs)/\H b=some (.lst zs)/\xs.length+zs.length<=sizeLine/\Q .Kt (upd H l (.lst (xs++zs)))
def AA:MtM X "list.extend" Ft:=by
 intro pins s σ H x vs v us Q I rx rv h;obtain⟨l,b,xs,zs,rfl,rfl,hH,hB,hz,q⟩:=h;cases rx;obtain⟨u,rfl,ru⟩:=rv.one;cases ru;obtain⟨z,JZ,n,r,hl,e⟩:=I.RY hH;obtain⟨z2,RZ,n2,r2,hl2,e2⟩:=I.RY hB;have hsz:JZ.toArray.size+RZ.toArray.size<=sizeLine:=by rw[MD,MD];lia
 have V9:¬(!JZ.toArray.isEmpty && Builtin.List.listTooLong (JZ.toArray.size+RZ.toArray.size))=true:=by rw[Cy hsz,Bool.and_false];exact Ov
 refine call_meets F.slot_list_extend ⟨_,e,rfl⟩ F.entry_list_extend (F.args_list_extend_2 _ _)
  (AutoSeq1.list_extend_list_list_0 l JZ.toArray n b RZ.toArray n2 V9 (by rw[MD];lia) (by lia)) ⟨e,e2,?_⟩
 refine⟨.Kt,_,I.TR (its':=JZ++RZ) hH e (by simp) (r.append r2) ?_,rfl,q⟩;rw[LO]
 lia
def JH:V->yar->Hp->VK->Prop:=fun x vs H Q=>∃l xs y,x=.ref l/\vs=[]/\H l=some (.lst xs)/\xs[xs.length - 1]?=some y/\Q y (upd H l (.lst xs.dropLast))
def Hs:MtM X "list.pop" JH:=by
 intro pins s σ H x vs v us Q I rx rv h;obtain⟨l,xs,y,rfl,rfl,hH,hy,q⟩:=h;cases rx;have hus:=rv.zero;subst hus;obtain⟨z,JZ,n,r,hl,e⟩:=I.RY hH;obtain⟨u,hu,ru⟩:=r.get hy;have Qi:JZ.toArray[JZ.toArray.size - 1]?=some u:=by show JZ.toArray[JZ.length - 1]?=some u;rw[<- LX,<- hl];exact hu
 refine call_meets F.slot_list_pop ⟨_,e,rfl⟩ F.entry_list_pop (F.args_list_pop_1 _) (MeetsSeq.list_pop_last l JZ.toArray n u Qi (by rw[MD];lia)) ⟨e,?_⟩;refine⟨y,_,I.TR (its':=JZ.dropLast) hH e ?_ r.dropLast ?_,ru,q⟩
 ·show JZ.toArray.eraseIdxIfInBounds (JZ.toArray.size - 1)=JZ.dropLast.toArray;rw[MD,List.eraseIdxIfInBounds_toArray,yt]
 ·rw[QP]
  lia
end
section
variable{prog:Program}{w:World}{A:Around}{E:yaa}{s:Shared}
set_option maxRecDepth 100000 in
end
end L2
namespace Att
open PySem PySem.W PySem.Calls PyProof.Rows
def o6:∀(ns:yaf) (vs:yad),WellAll P h vs (ns.map WData.int)->IntsAre vs ns:=by
 intro ns
 induction ns with
 |nil =>
  intro vs w;rw[RD]at w;cases w;exact .nil
 |cons n ns ih =>
  intro vs w;rw[K5]at w;cases w with
  |cons a b =>
   cases a;exact .cons _ _ (ih _ b)
def A7{l:OpenLaw}{n:Nat}(hn:l.most=some n)
  (R0:l.row.toRowW.claim.pre args=true) (YY:WellAll P h vals args) :
  ∃ a vs ns,vals=[Value.ref a]/\args=[WData.list (ns.map WData.int)]/\h.get? a=some {cls:=.type "list", data:=.seq vs.toArray}/\IntsAre vs ns/\ns.length<=n:=by
 have YZ:WShape.hasAll [] args [.list .int]=true:=(pre_splitW R0).1;have hc:l.pre.holds [] {args:=args}=true:=(pre_splitW R0).2;obtain⟨d,r,rfl,h1,h2⟩:=hasAllW_cons YZ;obtain rfl:=hasAllW_nil h2;obtain⟨xs,rfl,h3⟩:=hasW_list h1;obtain⟨ns,rfl⟩:=items_int h3;have hlen:ns.length<=n:=by
  unfold OpenLaw.pre at hc;have h4:(WTm.not (.lt (.lit (.int (n:Int))) (.len (.arg 0)))).holds [] {args:=[.list (ns.map .int)]}=true:=by have h4:=(holds_andW hc).1;rw[hn]at h4;exact h4
  have h5:=condW_of h4 (w_not (w_lt w_lit (w_len_list (w_arg rfl))));rw[J6]at h5;refine US fun q=>?_
  have q':(n:Int)<((ns.length:Nat):Int):=by lia
  first
   |(rw[Mb q']at h5;exact absurd h5 (by decide))
   |(simp at h5;lia)
 cases YY with
 |cons w1 w2 =>
  cases w2;cases w1 with
  |list ho LR=>exact⟨_,_,ns,rfl,rfl,ho,o6 ns _ LR,hlen⟩
def AV(l:OpenLaw)(args:List WData):l.row.toRowW.claim.post args (.bool true) args=true :=
 postW_of (r:=l.row.toRowW) (X:=(true==true))
  (show WShape.has [] (.bool true) .bool=true by first|rfl|decide|simp[WShape.has,WShape.arms,WShape.armsAll])
  (show(WTm.eq .res (.lit (.bool true))).value [] {args:=args,res:=some (.bool true),after:=args}=some (.bool (true==true))from w_eq_bool (w_res rfl) w_lit) rfl
def vX {l : OpenLaw} {n : Nat} {YP : World -> Heap -> Prop} {d : DefRec}
  (hn : l.most = some n) (Wa : d.params.defaults = [])
  (call : ∀ (w : World) (J9 J1 : Shared) (mg mb : yam) (fa : Addr) (o : Obj) (pm cd doc : Value) (a : Addr) (vs : yad) (ns : yaf),
   Ground q loose [] XP w J9 mg mb J1.heap -> YP w J1.heap →
   J1.heap.get? fa = some o -> o.data = .func (docDef d.name d.params d.body d.scope pm cd doc) -> J1.heap.CodeRec cd d.name -> mg d.name = some (.ref fa) →
   J1.heap.get? a = some { cls := .type "list", data := .seq vs.toArray } -> IntsAre vs ns -> ns.length <= n -> J1.gens = #[] →
   codeAny (model l.prog w) callerA (.call (.ref fa) ⟨[.ref a], []⟩) (fun r s' => r = .ok (.ret (.bool true)) /\ OldK J1.heap s'.heap /\ s'.os = J1.os /\ AllBare s'.gens) J1) :
  WalkO q loose XP YP l.row.toRowW d [] (fun f vs => PySem.call f vs) := by
 intro w J9 J1 mg mb G Y fa o pm cd doc dV kV ho hd Nb hD Wb hg args vals as R0 hlay hrd YY O2;obtain rfl : dV = .none := Dflts.none hD Wa;obtain rfl : kV = .none := Dflts.noKw hD;obtain ⟨a, vs, ns, rfl, rfl, TU, hints, hlen⟩ := A7 hn R0 YY;refine enter_call (codeAny_mono (call w J9 J1 mg mb fa o pm cd doc a vs ns G Y ho (fd_plain hd) Nb Wb TU hints hlen hg) fun r s' hq => ?_);obtain ⟨rfl, h2, h3, h4⟩ := hq;exact ⟨.inl ⟨.bool true, .bool true, [], rfl, fun _ => rfl, .bool true, AV l _, fun _ => ⟨List.Pairwise.nil, fun _ hm => (nomatch hm)⟩⟩, h2, h3, h4⟩
section
variable{prog:Program}{w:World}{A:Around}{E:yaa}{s:Shared}{K:Frag}
def ledger(h:Heap)(L d:Addr):yab:=(List.range h.objs.size).filterMap fun a=>if a=L∨a=d then none else(h.get? a).map fun o=>(a,o)
end
end Att
namespace L2
open PySem PySem.Spec PyProof.Rows
theorem i8:∀{vs:yad} {ns:yaf},IntsAre vs ns->Vals (ns.map V.int) vs
 |_,_,.nil=>.nil
 |_,_,.cons n t h=>.cons ⟨t,rfl⟩ (i8 h)
def BB(H:Hp):Prop:=∀b,H b=none∨∃ o xs,H b=some (.frz o (.lst xs))
def Cn{K:yac}{x:Str}{J1:Shared}{vs:yad}
  (KX:K.In J1.heap) (SO:J1.heap.Ns mainGlobals mg) (hb:J1.heap.Ns builtinsNs mb) (hbb:∀x:Str,x ≠ "__name__" -> mb x=bootBuiltins x) (Y0:J1.heap.NoLimit) (hg:J1.gens=#[])
  (ha:J1.heap.get? a=some {cls:=.type "list", data:=.seq vs.toArray}) (hi:IntsAre vs ns) (hl:ns.length<=sizeLine) (hr:bB k callerA)
  (F:∀base:Heap,K.In base->base.Ns mainGlobals mg->aI P w K mg base CX k fa fd [x] sp) (Wc:∀(s:Shared) (u:Value),BindsTo s fd ⟨[u],[]⟩ [(x,u)])
  (Q1:∀H:Hp,BB H->SqL K H a (ns.map V.int)->sp [.ref a] H (fun v _=>v=.bl true) fun _ _ _=>False)
  (Y1:∀H e s',CX [] H J1 (fun _ _ _=>False) e s'->False) :
  codeAny (model P w) callerA (.call (.ref fa) ⟨[.ref a],[]⟩) (fun r s'=>r=.ok (.ret (.bool true))/\OldK J1.heap s'.heap/\s'.os=J1.os/\AllBare s'.gens) J1:=by
 have rv:=i8 hi;have Y2:=hi.length;have core:∀H:Hp,BB H->SqL K H a (ns.map V.int)->Md P w H J1.heap->(∀b,H b≠none->b=a)->(H a≠none->K.lookup a=none) →
   codeAny (model P w) callerA (.call (.ref fa) ⟨[.ref a],[]⟩) (fun r s'=>r=.ok (.ret (.bool true))/\OldK J1.heap s'.heap/\s'.os=J1.os/\AllBare s'.gens) J1:=by
  intro H hO hS Ku hA hK;have PT:∀{b:Addr} {o:Obj},J1.heap.get? b=some o->H b=none->(j1 J1.heap H).get? b=some o:=fun e n=>Cb e n
  have V6:∀{b:Addr} {o:Obj} {es:Array DictEntry} {ep:Nat},J1.heap.get? b=some o->o.data=.dict es ep->H b=none:=fun {b o es ep} e d=>by
   cases q:H b with
   |none=>rfl
   |some u =>
    have e':b=a:=hA b (by rw[q];simp);subst e';rw[ha]at e;cases e;have d':Data.seq vs.toArray _=Data.dict es ep:=d;cases d'
  have X4:∀{b:Addr} {m:yam},J1.heap.Ns b m->(j1 J1.heap H).Ns b m:=fun {b m} K1=>(by obtain⟨o,es,ep,e,d,r⟩:=K1;exact⟨o,es,ep,PT e (V6 e d),d,r⟩)
  have hKb:K.In (j1 J1.heap H):=fun b o e=>PT (KX b o e) (by
   cases q:H b with
   |none=>rfl
   |some u =>
    have e':b=a:=hA b (by rw[q];simp);subst e';rw[hK (by rw[q];simp)]at e;cases e)
  have hM:Mod K mg (j1 J1.heap H):=⟨hKb,X4 SO,⟨mb,X4 hb,hbb⟩,let ⟨mc,h1,h2⟩:=Y0;⟨mc,X4 h1,h2⟩⟩;have e0:xP P w K mg (j1 J1.heap H) callerA [] J1 H:=⟨rfl,hM,fun b o e=>E1 e,RU (Ai _ _),trivial,fun b hb=>absurd (show b∈([]:yae)from hb) (by simp),Ku,.of_eq hg⟩;refine codeAny_mono ((F _ hKb (X4 SO)).run callerA [] J1 H ⟨[.ref a],[]⟩ [.ref a] [.ref a] _ _ hr e0 (Wc J1 (.ref a)) (.cons rfl .nil) (Q1 H hO hS)) fun r s' h=>?_
  cases r with
  |error e=>exact(Y1 H e s' h).elim
  |ok fl =>
   cases fl with
   |next=>exact False.elim h
   |brk=>exact False.elim h
   |cont=>exact False.elim h
   |ret u =>
    obtain⟨v,H',os,bare,un,Y3,r',q⟩:=h;have q':v=.bl true:=q;subst q';obtain rfl:u=Value.bool true:=r';refine⟨rfl,OldK.of_keep fun b o e=>?_,os,bare⟩;cases q:H b with
    |none=>exact un.keep b o e q (by intro z;exact absurd (show b∈([]:yae)from z) (by simp)) (by simp)
    |some u =>
     rcases hO b with z|⟨ob,xs,z⟩
     ·rw[q]at z;cases z
     ·have z2:=un.Ng b ob _ z;obtain⟨e1,_⟩:=Ku b _ z;obtain⟨e2,_⟩:=Y3 b _ z2;rw[e]at e1;cases e1;exact e2
 cases hk:K.lookup a with
 |some o =>
  have e:=KX a o hk;rw[ha]at e;cases e;refine core (fun _=>none) (fun _=>.inl rfl) (.inr ⟨_,vs.toArray,_,hk,rfl,rfl,rfl,by rw[MD,Y2];exact hl,by simpa using rv⟩) (fun b u z=>by have z':(none:Option HO)=some u:=z;cases z') (fun b z=>absurd rfl z) fun z=>absurd rfl z
 |none =>
  refine core (fun b=>if b=a then some (.frz {cls:=.type "list", data:=.seq vs.toArray} (.lst (ns.map V.int)))else none) (fun b=>?_) (.inl (.inr ⟨{cls:=.type "list", data:=.seq vs.toArray},JU rfl⟩)) (fun b u z=>?_) (fun b z=>?_) fun _=>hk
  ·by_cases hb:b=a
   ·exact .inr ⟨_,_,JU hb⟩
   ·exact .inl (JT hb)
  ·by_cases hb:b=a
   ·have z':=(JU hb).symm.trans z;cases z';subst hb;exact⟨ha,by rw[J6];exact hl,vs,_,rv,ha⟩
   ·have z':=(JT hb).symm.trans z;cases z'
  ·by_cases hb:b=a
   ·exact hb
   ·exact absurd (JT hb) z
def FQ {l : PySem.W.OpenLaw} {n : Nat} {YP : World -> Heap -> Prop} {d : DefRec} {K : Params -> yac} {CX : World -> CXT} {sp : World -> Sp} {x : Str}
  (hn : l.most = some n) (hn2 : n <= sizeLine) (Wa : d.params.defaults = []) (hr : bB k callerA)
  (hY : ∀ (w : World) (h : Heap), YP w h -> (K w.params).In h)
  (F : ∀ (w : World) (mg : yam) (fa : Addr) (h : Heap), (K w.params).In h -> h.Ns mainGlobals mg -> mg d.name = some (.ref fa) →
   ∃ fd : FuncData, (∀ (s : Shared) (u : Value), BindsTo s fd ⟨[u], []⟩ [(x, u)]) ∧
    ∀ base : Heap, (K w.params).In base -> base.Ns mainGlobals mg -> aI l.prog w (K w.params) mg base (CX w) k fa fd [x] (sp w))
  (Q1 : ∀ (w : World) (H : Hp) (a : Addr) (ns : yaf), ns.length <= n -> BB H -> SqL (K w.params) H a (ns.map V.int) -> sp w [.ref a] H (fun v _ => v = .bl true) fun _ _ _ => False)
  (Y1 : ∀ (w : World) (H : Hp) (s : Shared) (e : Value) (s' : Shared), CX w [] H s (fun _ _ _ => False) e s' -> False) :
  PySem.W.WalkO q loose XP YP l.row.toRowW d [] (fun f vs => PySem.call f vs) := by
 refine Att.vX hn Wa fun w J9 J1 mg mb fa o pm cd doc a vs ns G Y ho hd Nb Wb TU hints hlen hg => ?_
 have KX := hY w _ Y;obtain ⟨fd, hb, hF⟩ := F w mg fa _ KX G.T.g Wb;exact Cn KX G.T.g G.T.b G.T.builtins G.T.nolimit hg TU hints (LZ hlen hn2) hr hF hb (fun H hO hS => Q1 w H a ns hlen hO hS) fun H e s' => Y1 w H J1 e s'
def cw(s:Stmt):Arguments:=match s with
 |.FunctionDef _ a _ _ _ _ _ _ _ _=>a
 |_=>{posonlyargs:=[],args:=[],vararg:=none,kwonlyargs:=[],kw_defaults:=[],kwarg:=none,defaults:=[]}
def bL(s:Stmt):yal:=match s with
 |.FunctionDef _ _ b _ _ _ _ _ _ _=>b
 |_=>[]
def aj(s:Stmt):Scope:=match s with
 |.FunctionDef _ _ _ _ _ _ sc _ _ _=>sc
 |_=>{kind:=.function,names:=[],isGenerator:=false,isCoroutine:=false}
abbrev E0:XK:=fun _ _ _=>False
structure Fun(K:yac)(x qual:Str)(st:Stmt)(f:Addr)(fd:FuncData):Prop where
 ex:∃(oc:Value) (od:Option Addr) (kV doc pm:Value) (an:Option Addr) (Ks ct:Value) (RX:Array (yan)),
  fd=PySem.W.fnOf x qual (cw st) (bL st) (aj st) .none kV doc pm an Ks ct/\K.lookup f=some ⟨oc,od,.func fd,RX⟩/\PySem.W.codeIn K Ks qual=true
 kp:PySem.W.keepIn K (.ref f)=true
def tL(hr:bB k A):A.units+1<cLine:=UN (Nat.add_le_add_left (by decide:1<=64) _) hr.units
section
variable{X:Cx}
def pv (i:Nat) {x:Str} (hN:X.N[i]?=some x:=by rfl) (hv:QX X.env.scope x:=by first|exact Or.inl rfl|exact Or.inr (Or.inl rfl)|exact Or.inr (Or.inr rfl)) (hd:(x==("__debug__" : Str))=false:=by decide)
  (Nb:(x==("__classdict__" : Str))=false:=by decide):PE X (.Name x pos) (Ii i):=gC hN hv hd Nb
end
def aq(H H':Hp):Prop:=∀b o,H b=some o->H' b=some o
def aq.refl(H:Hp):aq H H:=fun _ _ h=>h
def aq.trans(a:aq H H1)(b:aq H1 H2):aq H H2:=fun c o h=>b c o (a c o h)
def aq.free(e:aq H H')(h:H' l=Option.none):H l=Option.none:=by
 cases q:H l with
 |none=>rfl
 |some o =>
  rw[e l o q]at h;cases h
def aq.seq{K:yac}{H H':Hp}{a:Addr}{xs:yar}(e:aq H H')(h:SqL K H a xs):SqL K H' a xs:=by
 rcases h with(h|⟨o,h⟩)|h
 ·exact .inl (.inl (e _ _ h))
 ·exact .inl (.inr ⟨o,e _ _ h⟩)
 ·exact .inr h
end L2
set_option maxHeartbeats 4000000
namespace L2
open PySem PySem.Spec PyProof.Rows
section
variable{κ:Type} [DecidableEq κ]
def cD(kvs:List (κ×V))(k:κ):Option V:=(kvs.find? fun kv=>decide (kv.1=k)).map (·.2)
def putK(kvs:List (κ×V))(k:κ)(v:V):List (κ×V) :=
 if(kvs.any fun kv=>decide (kv.1=k))=true then kvs.map (fun kv=>if kv.1=k then(kv.1,v)else kv)else kvs++[(k,v)]
theorem Dj:cD ([]:List (κ×V)) k=none:=rfl
def kG{p:κ×V}{r:List (κ×V)}{k:κ}(e:p.1=k):cD (p::r) k=some p.2:=by simp[cD,SG,e]
def kF{p:κ×V}{r:List (κ×V)}{k:κ}(e:¬p.1=k):cD (p::r) k=cD r k:=by simp[cD,SG,e]
theorem iT(k:κ):∀kvs:List (κ×V),(kvs.any fun kv=>decide (kv.1=k))=(cD kvs k).isSome
 |[]=>rfl
 |p::r=>by
  rw[List.any_cons];by_cases e:p.1=k
  ·simp only[kG e,Mb e,Bool.true_or,Option.isSome_some]
  ·rw[kF e,Qb e,Bool.false_or];exact iT k r
def mU(kvs:List (κ×V))(k:κ)(v:V):(putK kvs k v).length<=kvs.length+1:=by
 unfold putK;split
 ·rw[J6];lia
 ·rw[LO,Oc,List.length_nil];lia
def CV{kvs:List (κ×V)}{k:κ}(v:V)(h:cD kvs k=none):putK kvs k v=kvs++[(k,v)]:=by unfold putK;rw[iT,h];exact JT (by decide)
def jb.Qj(r:jb o u):o.isSome=u.isSome:=by
 cases o with
 |none=>cases u with
  |none=>rfl
  |some _=>exact(show False from r).elim
 |some _=>cases u with
  |none=>exact(show False from r).elim
  |some _=>rfl
def KV.val(r:KV kvs vs)(k:κ):jb (cD kvs k) (valueAt vs k):=by
 unfold KV at r
 induction r with
 |nil=>exact True.intro
 |@cons p q ps qs h t ih =>
  obtain⟨h1,h2⟩:=h;by_cases e:p.1=k
  ·have e':q.1=k:=h1.symm.trans e;have b:valueAt (q::qs) k=some q.2:=by simp[valueAt,SG,e']
   rw[kG e,b];exact h2
  ·have e':¬q.1=k:=fun z=>e (h1.trans z)
   have b:valueAt (q::qs) k=valueAt qs k:=by simp[valueAt,SG,e']
   rw[kF e,b];exact ih
theorem KV.any(r:KV kvs vs)(k:κ):(kvs.any fun kv=>decide (kv.1=k))=vs.any fun kv=>decide (kv.1=k):=by
 unfold KV at r
 induction r with
 |nil=>rfl
 |cons h t ih=>rw[List.any_cons,List.any_cons,ih,h.1]
def KV.TV(r:KV kvs vs)(k:κ)(ry:RelV y u) :
  KV (kvs.map fun kv=>if kv.1=k then(kv.1,y)else kv) (vs.map fun kv=>if kv.1=k then(kv.1,u)else kv):=by
 unfold KV at r ⊢
 induction r with
 |nil=>exact .nil
 |@cons p q ps qs h t ih =>
  rw[K5,K5];refine .cons ?_ ih;obtain⟨h1,h2⟩:=h;by_cases e:p.1=k
  ·rw[JU e,JU (h1.symm.trans e)];exact⟨h1,ry⟩
  ·rw[JT e,JT (fun z=>e (h1.trans z))];exact⟨h1,h2⟩
def KV.put(r:KV kvs vs)(k:κ)(ry:RelV y u):KV (putK kvs k y) (stored vs k u):=by
 unfold putK stored;rw[r.any k];by_cases e:(vs.any fun kv=>decide (kv.1=k))=true
 ·rw[JU e,JU e];exact r.TV k ry
 ·rw[JT e,JT e];exact Paired.snoc r ⟨rfl,ry⟩
theorem KV.length(r:KV kvs vs):kvs.length=vs.length:=Paired.length r
end
def tM(r:RelV (kV k) u):(bG P w).is k u=true:=by
 cases k with
 |inl i=>obtain⟨t,e⟩:=(show∃t,u=Value.int i t from r);subst e;exact wy P w i t
 |inr x=>obtain⟨t,e⟩:=(show∃t,u=Value.str x t from r);subst e;exact wz P w x t
theorem sj:∀{ks:List Key} {us:yad},Vals (ks.map kV) us->ItemsAre (bG P w) ks us
 |[],_,r=>by rw[RD]at r;cases r;exact .nil
 |k::ks,_,r=>by
  rw[K5]at r;cases r with
  |cons h t=>exact .cons (tM h) (sj t)
abbrev KT(H:Hp):List (List Key×V)->List (List Key×Addr×Value)->Prop:=Paired fun p q=>p.1=q.1/\H q.2.1=some (.tup (p.1.map kV))/\RelV p.2 q.2.2
def KT.val(r:KT H kvs xs)(k:List Key):jb (cD kvs k) ((atKey xs k).map (·.2)):=by
 induction r with
 |nil=>exact True.intro
 |@cons p q ps qs h t ih =>
  obtain⟨h1,_,h2⟩:=h;by_cases e:p.1=k
  ·have e':q.1=k:=h1.symm.trans e;have b:atKey (q::qs) k=some q.2:=by simp[atKey,SG,e']
   rw[kG e,b];exact h2
  ·have e':¬q.1=k:=fun z=>e (h1.trans z)
   have b:atKey (q::qs) k=atKey qs k:=by simp[atKey,SG,e']
   rw[kF e,b];exact ih
def KT.TV(r:KT H kvs xs)(k:List Key)(ry:RelV y u) :
  KT H (kvs.map fun kv=>if kv.1=k then(kv.1,y)else kv) (xs.map (putAt k u)):=by
 induction r with
 |nil=>exact .nil
 |@cons p q ps qs h t ih =>
  rw[K5,K5];refine .cons ?_ ih;obtain⟨h1,h2,h3⟩:=h;unfold putAt;by_cases e:p.1=k
  ·rw[JU e,JU (h1.symm.trans e)];exact⟨h1,h2,ry⟩
  ·rw[JT e,JT (fun z=>e (h1.trans z))];exact⟨h1,h2,h3⟩
def KT.put(r:KT H kvs xs)(k:List Key)(hb:H b=some (.tup (k.map kV)))(ry:RelV y u) :
  KT H (putK kvs k y) (storedH xs k b u):=by
 have e:(kvs.any fun kv=>decide (kv.1=k))=(atKey xs k).isSome:=by rw[iT,(r.val k).Qj,Option.isSome_map]
 unfold putK storedH;rw[e];by_cases q:(atKey xs k).isSome=true
 ·rw[JU q,JU q];exact r.TV k ry
 ·rw[JT q,JT q];exact Paired.snoc r ⟨rfl,hb,ry⟩
def KT.keeps{H':Hp}(r:KT H kvs xs)(ht:∀b ys,H b=some (.tup ys)->H' b=some (.tup ys)):KT H' kvs xs :=
 Paired.TL r fun _ _ z=>⟨z.1,ht _ _ z.2.1,z.2.2⟩
section
variable{P:Program}{w:World}{H:Hp}{h:Heap}{a:Addr}
def DU(ok:Md P w H h)(e:Rd H a u):bu P w H h a u:=e.ok ok
def yq(ok:Md P w H h)(e:Rd H a (.dK kvs)):kvs.length<=sizeLine/\(a==sysModules)=false/\∃vs,KV kvs vs/\h.DictOf (bG P w) a vs :=
 show bu P w H h a (.dK kvs)from DU ok e
def DH(ok:Md P w H h)(e:H a=some (.dK kvs)):kvs.length<=sizeLine/\(a==sysModules)=false/\∃vs,KV kvs vs/\h.DictOf (bG P w) a vs:=yq ok (.inl e)
def uT{ks:List Key}(ok:Md P w H h)(e:H a=some (.tup (ks.map kV))):(tupleKind (bG P w)).is h ks a:=by obtain⟨_,JZ,r,o,h1,h2,n,h3⟩:=(show bu P w H h a (.tup (ks.map kV))from ok a _ e);exact⟨o,JZ.toArray,n,h1,h2,h3,by simpa using sj r⟩
def yr(ok:Md P w H h)(e:Rd H a (.dT kvs)):kvs.length<=sizeLine/\(a==sysModules)=false ∧
  ∃ xs,KT H kvs xs/\h.DictOfH (tupleKind (bG P w)) a xs:=by
 obtain⟨z,y,xs,r,o,es,ep,h1,h2,h3,h4,h5⟩:=(show bu P w H h a (.dT kvs)from DU ok e);refine⟨z,y,xs,r,o,es,ep,h1,h2,h3,h4,fun x hx=>?_,h5⟩;have all:∀{l:List (List Key×V)} {m:List (List Key×Addr×Value)},KT H l m->∀x∈m,(tupleKind (bG P w)).is h x.1 x.2.1:=by
  intro l m q
  induction q with
  |nil=>intro x hx;exact nomatch hx
  |@cons p q ps qs hq t ih =>
   intro x hx;rcases Kr.mp hx with e|hx
   ·subst e;exact uT ok (by rw[<- hq.1];exact hq.2.1)
   ·exact ih x hx
 exact all r x hx
def IA(ok:Md P w H h)(e:H a=some (.dT kvs)):kvs.length<=sizeLine/\(a==sysModules)=false ∧
  ∃ xs,KT H kvs xs/\h.DictOfH (tupleKind (bG P w)) a xs:=yr ok (.inl e)
end
def kQ(H:Hp)(a:Addr)(y:V)(r:Option V):Prop :=
 (∃kvs k,Rd H a (.dK kvs)/\y=kV k/\r=cD kvs k)∨∃ kvs k b,Rd H a (.dT kvs)/\y=.ref b/\H b=some (.tup (k.map kV))/\r=cD kvs k
def tT(H:Hp)(a:Addr)(y v:V)(H':Hp):Prop :=
 (∃kvs k,H a=some (.dK kvs)/\y=kV k/\kvs.length<sizeLine/\H'=upd H a (.dK (putK kvs k v))) ∨
 ∃ kvs k b,H a=some (.dT kvs)/\y=.ref b/\H b=some (.tup (k.map kV))/\kvs.length<sizeLine/\H'=upd H a (.dT (putK kvs k v))
theorem kQ.k{H:Hp}{a:Addr}{kvs:List (Key×V)}{k:Key}(e:H a=some (.dK kvs)):kQ H a (kV k) (cD kvs k):=.inl ⟨kvs,k,.inl e,rfl,rfl⟩
theorem tT.k{H:Hp}{a:Addr}{kvs:List (Key×V)}{k:Key}{v:V}(e:H a=some (.dK kvs))(hl:kvs.length<sizeLine):tT H a (kV k) v (upd H a (.dK (putK kvs k v))):=.inl ⟨kvs,k,e,rfl,hl,rfl⟩
section
variable{X:Cx}{pins:yab}{σ:St}{H:Hp}{s:Shared}{a:Addr}{y v:V}{u r:Value}{o:Option V}{A:Around}{E:yaa}
def Inv.big(I:Inv X pins σ H s):sysModules<s.heap.objs.size:=by have h:mainGlobals<s.heap.objs.size:=(I.mod.glob.keeps I.bk).lt;exact Nat.lt_trans (by decide) h
def rS{Q:yaa}(hu:A.units+1<cLine)(I:Inv X pins σ H s)(g:kQ H a y (some v))(ry:RelV y u)(h:∀w' s',Inv X pins σ H s'->RelV v w'->Q w' s') :
  wpAny (model X.prog X.w) A (getItem (.ref a) u) Q E s:=by
 rcases g with⟨kvs,k,e,ey,l⟩| ⟨kvs,k,b,e,ey,eb,l⟩
 ·subst ey;obtain⟨z,hd,vs,rel,dd⟩:=yq I.Ku e;obtain⟨w',hw,Qg⟩:=jb.some_of (v:=v) (o:=valueAt vs k) (by rw[l];exact rel.val k);exact wpAny_getItem_of (tM ry) dd.mapOf hw (h w' _ (I.tok _) Qg)
 ·subst ey;cases(show u=Value.ref b from ry);obtain⟨z,hd,xs,rel,dd⟩:=yr I.Ku e;obtain⟨w',hw,Qg⟩:=jb.some_of (v:=v) (o:=(atKey xs k).map (·.2)) (by rw[l];exact rel.val k);obtain⟨p,hp,X5⟩:=RQ.mp hw;refine wpAny_getItem_heap (tupleKind_room_in1 hu) (uT I.Ku eb) dd hp ?_;rw[X5];exact h w' _ (I.tok _) Qg
def qz{t':Nat}(I:Inv X pins σ H s)(mu:VX (H a))(hs:Heap.SameBut a s.heap h')(he:∃q,h'.get? a=some q)(new:bu X.prog X.w (upd H a ob) h' a ob) :
  Inv X pins σ (upd H a ob) {s with heap:=h',toks:=t'} :=
 I.write (x:=a) (e:=a) mu (.inl rfl) (fun b q hb z=>(hs.2 b hb).trans z) he new
def zX{h':Heap}{kvs:List (Key×V)}(z:kvs.length<=sizeLine)(hd:(a==sysModules)=false)(rel:KV kvs vs)(dd:h'.DictOf (bG P w) a vs) :
  bu P w H' h' a (.dK kvs):=⟨z,hd,vs,rel,dd⟩
def zS{Q:Unit->Shared->Prop}(hu:A.units+1<cLine)(I:Inv X pins σ H s)(g:tT H a y v H')(ry:RelV y u)(rv:RelV v r)(h:∀s',Inv X pins σ H' s'->Q () s') :
  wpAny (model X.prog X.w) A (setItem (.ref a) u r) Q E s:=by
 rcases g with⟨kvs,k,e,ey,l,eH⟩| ⟨kvs,k,b,e,ey,eb,l,eH⟩
 ·subst ey eH;obtain⟨z,hd,vs,rel,dd⟩:=DH I.Ku e;have hz:vs.length<=sizeLine:=by rw[<- rel.length];exact z
  have hl:(putK kvs k v).length<=sizeLine:=by have:=mU kvs k v;lia
  refine wpAny_setItem_pairs (hsz:=hz) (tM ry) dd fun h' TX hs=>h _ ?_
  have he:∃q,h'.get? a=some q:=let ⟨q,_,_,hq,_⟩:=TX;⟨q,hq⟩;exact qz I (by rw[e];exact True.intro) hs he (zX hl hd (rel.put k rv) TX)
 ·subst ey eH;cases(show u=Value.ref b from ry);obtain⟨z,hd,xs,rel,dd⟩:=IA I.Ku e;have hz:xs.length<=sizeLine:=by rw[<- Paired.length rel];exact z
  have hl:(putK kvs k v).length<=sizeLine:=by have:=mU kvs k v;lia
  refine wpAny_setItem_heap (hsz:=hz) (tupleKind_room_in1 hu) (uT I.Ku eb) dd fun h' TX hs=>h _ ?_
  obtain⟨q,es,ep,hq,h2,h3,h4,_,h5⟩:=TX;refine qz I (by rw[e];exact True.intro) hs ⟨q,hq⟩ ⟨hl,hd,_,(rel.put k eb rv).keeps fun c ys ec=>?_,q,es,ep,hq,h2,h3,h4,h5⟩;rw[aw (j5 ec e (fun z=>nomatch z))];exact ec
end
def Bz(i:Expr):Prop:=∀ov iv,subscripted i false ov iv=operate [ov,iv] (getItem ov iv)
def FJ{prog:Program}{w:World}{A:Around}{E:yaa}{s:Shared}{env:Env}{value slice:Expr}{pos:Pos}{T id:String}{Q:yaa}
  (hl:typeLookup (.type T) "__getitem__" = pure (some (.builtin id))) (hs:Bz slice)
  (h:wpAny (model prog w) A (eval value env) (fun o J1=>wpAny (model prog w) A (eval slice env) (fun i J2=>J2.TypeIs o T/\wpAny (model prog w) A (getItem o i) Q E J2) E J1) E s) :
  wpAny (model prog w) A (eval (.Subscript value slice pos) env) Q E s:=by
 refine Subscript_ (NP h (fun o J1 Nh=>NP Nh (fun i J2 Pq=>?_) fun _ _ x=>x) fun _ _ x=>x);obtain⟨hT,Pq⟩:=Pq;unfold subscriptTail;refine JX ?_;rw[getitemInPython_of_ne hT.not_modules];refine JX (wpAny_specialOf hT hl ?_);have fin:wpAny (model prog w) A (subscripted slice false o i) (fun r M4=>wpAny (model prog w) A (letTemporaryGo value o r >>= fun _=>pure r) Q E M4) E J2:=by rw[hs o i];exact wpAny_operating (NP Pq (fun r M4 Y4=>JX (wpAny_letTemporaryGo (Ki Y4))) fun _ _ x=>x)
 first
  |exact Ki (JX fin)
  |exact JX (Ki (JX fin))
  |exact JX fin
def wj (I:Inv X pins σ H s) (g:kQ H a y o):s.TypeIs (.ref a) "dict" := by
 rcases g with⟨kvs,k,e,_,_⟩| ⟨kvs,k,b,e,_,_,_⟩
 ·obtain⟨_,_,vs,_,dd⟩:=yq I.Ku e;exact dd.typeIs
 ·obtain⟨_,_,xs,_,dd⟩:=yr I.Ku e;exact dd.typeIs
def Jg(td ty:TE):TE:=fun σ H Q=>td σ H fun x H1=>ty σ H1 fun y H2=>∃a v,x=.ref a/\kQ H2 a y (some v)/\Q v H2
def Jd(td ty tv:TE)(rd:V->V->Hp->VK->Prop):TS:=fun D σ H=>td σ H fun x H1=>ty σ H1 fun y H2=>∃a v,x=.ref a/\kQ H2 a y (some v) ∧
 tv σ H2 fun y2 H3=>rd v y2 H3 fun z H4=>∃H5,tT H4 a y z H5/\D.nx σ H5
section
variable{X:Cx}{o i e value:Expr}{pos pos' tpos:Pos}{td ty tv:TE}
def Fi(hu:X.A.units+1<cLine)(ho:PE X o td)(hi:PE X i ty)(hs:Bz i):PE X (.Subscript o i pos) (Jg td ty):=by intro pins s σ H Q I h;refine FJ PySem.F.slot_dict_getitem.lookup hs (J0 (ho pins s σ H _ I h) fun u s1 ⟨x,H1,I1,rx,q1⟩=>J0 (hi pins s1 σ H1 _ I1 q1) fun iv s2 J5=>?_);obtain⟨y,H2,I2,ry,a,v,ex,g,q2⟩:=J5;subst ex;obtain rfl:u=Value.ref a:=rx;exact⟨wj I2 g,rS hu I2 g ry fun w' s3 I3 Qg=>⟨v,H2,I3,Qg,q2⟩⟩
def Fp(hu:X.A.units+1<cLine)(ho:PE X o td)(hi:PE X i ty)(hv:PE X value tv)(hop:F0 X op rd)
  (ha:∀ov iv new,augStore i ov iv new=(do holding [new,ov,iv] (setItem ov iv new);release [new,ov,iv] [];pure .next)):PS X (.AugAssign (.Subscript o i tpos) op value pos) (Jd td ty tv rd):=by
 intro pins s σ H D I h;refine wpAny_AugAssign_SubscriptAny (J0 (ho pins s σ H _ I h) fun u s1 ⟨x,H1,I1,rx,q1⟩=>J0 (hi pins s1 σ H1 _ I1 q1) fun iv s2 J5=>?_) ha;obtain⟨y,H2,I2,ry,a,v,ex,g,q2⟩:=J5;subst ex;obtain rfl:u=Value.ref a:=rx;refine rS hu I2 g ry fun w' s3 I3 Qg=>J0 (hv pins s3 σ H2 _ I3 q2) fun w2 s4 ⟨y2,H3,I4,ry2,q3⟩=>J0 (hop pins s4 σ H3 v y2 w' w2 _ I4 Qg ry2 q3) fun w3 s5 J5=>?_
 obtain⟨z,H4,I5,rz,H5,g5,q4⟩:=J5;exact zS hu I5 g5 ry rz fun s6 I6=>⟨σ,H5,I6,q4⟩
end
def BY (h:Heap) (hb:sysModules<h.objs.size):bu P w H (h.push {cls:=.type "dict", data:=.dict #[]}) h.objs.size (.dK []) :=
 ⟨Mx _,beq_eq_false_iff_ne.mpr (Ne.symm (Nf hb)),[],.nil,Heap.DictOf.new h⟩
abbrev VV:List (V×V)->List (Value×Value)->Prop:=Paired fun p q=>RelV p.1 q.1/\RelV p.2 q.2
def pC(kvs more:List (Key×V)):List (Key×V):=more.foldl (fun acc kv=>putK acc kv.1 kv.2) kvs
def KV.merge:∀{more:List (Key×V)} {rs:List (Key×Value)} {kvs:List (Key×V)} {vs:List (Key×Value)},KV more rs->KV kvs vs->KV (pC kvs more) (merged vs rs):=by
 intro more rs kvs vs r;unfold KV at r
 induction r generalizing kvs vs with
 |nil=>intro q;exact q
 |@cons p q ps qs h t ih =>
  intro r0;have e:KV (putK kvs p.1 p.2) (stored vs q.1 q.2):=by have:=r0.put p.1 h.2;rw[<- h.1];exact this
  exact ih e
theorem oD:∀{kvs:List (Key×V)} {ws:List (Value×Value)},VV (kvs.map fun kv=>(kV kv.1,kv.2)) ws->∃rs,Carries (bG P w) ws rs/\KV kvs rs
 |[],_,r=>by rw[RD]at r;cases r;exact⟨[],True.intro,.nil⟩
 |p::kvs,_,r=>by
  rw[K5]at r;cases r with
  |@cons a b as bs h t =>
   obtain⟨rs,c,q⟩:=oD (P:=P) (w:=w) t;obtain⟨b1,b2⟩:=b;exact⟨(p.1,b2)::rs,⟨tM h.1,rfl,c⟩,.cons ⟨rfl,h.2⟩ q⟩
structure M1(X:Cx)(o:Expr)(m:Str)(apos:Pos)(e:Expr)(Ko:Pos):Prop where
 base:attributeBase o m X.env (eval o X.env)=eval o X.env
 few:((backTo Ko (starEach [e] X.env)).all (fun x=>!x.1) && (backToKw Ko (keywordEach [] X.env)).all (fun x=>x.1.isSome)
  && decide (([e]:yai).length+([]:List Keyword).length+(if([]:List Keyword).isEmpty then 0 else 1)<30))=true
 line:(apos.endLine==Ko.line)=true
 trees:backTo Ko (starEach [e] X.env)=[(false,eval e X.env)]
structure M2(X:Cx)(o:Expr)(m:Str)(apos:Pos)(e f:Expr)(Ko:Pos):Prop where
 base:attributeBase o m X.env (eval o X.env)=eval o X.env
 few:((backTo Ko (starEach [e,f] X.env)).all (fun x=>!x.1) && (backToKw Ko (keywordEach [] X.env)).all (fun x=>x.1.isSome)
  && decide (([e,f]:yai).length+([]:List Keyword).length+(if([]:List Keyword).isEmpty then 0 else 1)<30))=true
 line:(apos.endLine==Ko.line)=true
 trees:backTo Ko (starEach [e,f] X.env)=[(false,eval e X.env),(false,eval f X.env)]
end L2
namespace PM
def uO(a b:Int):Int.gcd b (a.fmod b)=Int.gcd a b:=by
 have h:=Int.fmod_add_mul_fdiv a b;have h':a=a.fmod b+a.fdiv b*b:=by rw[Mw];exact h.symm
 rw[Int.gcd_comm a b]
 conv=>rhs;rw[h']
 rw[Int.gcd_add_mul_right_right]
def rZ(a:Int){b:Int}(hb:b≠0):(a.fmod b).natAbs<b.natAbs:=by
 by_cases h:0<b
 ·have h1:=Int.fmod_lt_of_pos a h;have h2:=XO a h
  lia
 ·have h1:b<0:=by lia
  have e:a.fmod b=-((-a).fmod (-b)):=by
   have:=Int.neg_fmod_neg (a:=a) (b:=b)
   lia
  have h2:=Int.fmod_lt_of_pos (-a) (b:=-b) (by lia);have h3:=XO (-a) (b:=-b) (by lia)
  lia
def g3(x y z:Int):Nat:=Int.gcd (Int.gcd x y:Int) z
def jY(x y z:Int):(g3 x y z:Int)∣x:=UZ (Int.gcd_dvd_left _ _) (Int.gcd_dvd_left _ _)
def jZ(x y z:Int):(g3 x y z:Int)∣y:=UZ (Int.gcd_dvd_left _ _) (Int.gcd_dvd_right _ _)
def j0(x y z:Int):(g3 x y z:Int)∣z:=Int.gcd_dvd_right _ _
def GR{x y z d:Int}(h1:d∣x)(h2:d∣y)(h3:d∣z):d∣(g3 x y z:Int):=UT (UT h1 h2) h3
def qJ:g3 x y z=0↔x=0/\y=0/\z=0:=by
 unfold g3;rw[Int.gcd_eq_zero_iff];constructor
 ·rintro⟨h,h3⟩;have h':Int.gcd x y=0:=by lia
  obtain⟨h1,h2⟩:=Int.gcd_eq_zero_iff.mp h';exact⟨h1,h2,h3⟩
 ·rintro⟨h1,h2,h3⟩;subst h1 h2 h3;simp
def Lm(x y z l:Int):Int:=if l<0 then -(g3 x y z:Int)else(g3 x y z:Int)
def oR{x y z:Int}(h:¬(x=0/\y=0/\z=0)):Lm x y z l≠0:=by
 have:g3 x y z≠0:=fun e=>h (qJ.mp e)
 unfold Lm;split<;>lia
def qH(x y z l:Int):(Lm x y z l).natAbs=g3 x y z:=by unfold Lm;split<;>lia
def l9{x y z t:Int}(h:(g3 x y z:Int)∣t):Lm x y z l∣t:=by
 unfold Lm;split
 ·exact Int.neg_dvd.mpr h
 ·exact h
def bT{x y z t:Int}(h:(g3 x y z:Int)∣t):t.fdiv (Lm x y z l)*Lm x y z l=t:=by have h':=l9 (l:=l) h;rw[Int.fdiv_eq_ediv_of_dvd h'];exact Int.ediv_mul_cancel h'
def A0{x y z:Int}(h:¬(x=0/\y=0/\z=0)):g3 (x.fdiv (Lm x y z l)) (y.fdiv (Lm x y z l)) (z.fdiv (Lm x y z l))=1:=by
 have e1:=bT (l:=l) (jY x y z);have e2:=bT (l:=l) (jZ x y z);have e3:=bT (l:=l) (j0 x y z);have hn:=oR (l:=l) h;have We:=qH x y z l;generalize x.fdiv (Lm x y z l)=a at e1 ⊢;generalize y.fdiv (Lm x y z l)=b at e2 ⊢;generalize z.fdiv (Lm x y z l)=c at e3 ⊢;generalize Lm x y z l=g at *;have hd:(g3 a b c:Int)*g∣(g3 x y z:Int):=by
  refine GR ?_ ?_ ?_
  ·rw[<- e1];exact VP (jY a b c) (RT _)
  ·rw[<- e2];exact VP (jZ a b c) (RT _)
  ·rw[<- e3];exact VP (j0 a b c) (RT _)
 have hd2:g3 a b c*g.natAbs∣g.natAbs:=by rw[We];have:=Tu.mpr hd;rw[VQ]at this;simpa [We]using this
 have hp:0<g.natAbs:=by lia
 have:=TH hp hd2;have h0:g3 a b c≠0:=by
  intro e;rw[e]at hd2;simp at hd2
  lia
 rcases Nat.lt_or_ge (g3 a b c) 2 with h2|h2
 ·lia
 ·have:2*g.natAbs<=g3 a b c*g.natAbs:=Nat.mul_le_mul_right _ h2
  lia
def qZ{x y z l:Int}(hl:l≠0)(hd:(g3 x y z:Int)∣l)(h:¬(x=0/\y=0/\z=0)):0<l.fdiv (Lm x y z l):=by
 have e:=bT (l:=l) hd;have hg:g3 x y z≠0:=fun e=>h (qJ.mp e)
 have hs:(l<0/\Lm x y z l<0)∨(0<l/\0<Lm x y z l):=by
  unfold Lm;split
  ·left;omega
  ·right;omega
 generalize l.fdiv (Lm x y z l)=a at e ⊢;generalize Lm x y z l=g at *;rcases SA a 0 with ha|ha|ha
 ·exfalso;rcases hs with⟨h1,h2⟩| ⟨h1,h2⟩
  ·have:=Sw ha h2;omega
  ·have:=Pf ha h2;omega
 ·subst ha;simp at e;omega
 ·exact ha
def mT{t g:Int}(hg:g≠0)(h:g∣t):(t.fdiv g).natAbs<=t.natAbs:=by
 rw[Int.fdiv_eq_ediv_of_dvd h];have e:=Int.ediv_mul_cancel h;have:(t / g).natAbs*g.natAbs=t.natAbs:=by rw[<- VQ,e]
 have hp:0<g.natAbs:=by lia
 rw[<- this];exact Nat.le_mul_of_pos_right _ hp
def sd(a:Int):Int.gcd a 0=a.natAbs:=by simp
def ED(a b:Int):Int.gcd ((a.natAbs:Nat):Int) ((b.natAbs:Nat):Int)=Int.gcd a b:=by unfold Int.gcd;simp
end PM
namespace PX
open PySem PySem.W PySem.Spec PySem.Calls PyProof.Rows PySem.Builtin.ObjectAttr PySem.Builtin.Getset_descriptor
def ExcAt(e c:Addr)(h:Heap):Prop:=∃o vs,h.get? e=some o/\o.cls=.ref c/\o.data=.fields vs
def ExcAt.ty(p:ExcAt e c h):Looks M h (typeOf (.ref e)) (.ref c):=by obtain⟨o,vs,h1,h2,_⟩:=p;exact h2 ▸ (Looks.ld h1).andThen .now
def B7(K:Frag)(c:Addr):Bool :=
 (clsIn K c).isSome && findIn K (.ref c) "__getattribute__" == some (some (.builtin "BaseException.__getattribute__"))
 && findIn K (.ref c) "__getattr__" == some none && findIn K (.ref c) "__class__" == some (some (.builtin "object.__class__"))
 && specialIn K (.builtin "object.__class__") "__get__" == some (some (.builtin "getset_descriptor.__get__"))
 && takesIn K (.builtin "object.__class__")==some true
 && mroIn K c (.type "object")==some true && mroIn K c (.type "BaseException")==some true
 && kitOne K (.ref c) (.type "int")==some false && kitOne K (.ref c) (.type "bool")==some false && kitOne K (.ref c) (.type "tuple")==some false
 && kitOne K (.ref c) (.type "list")==some false && kitOne K (.ref c) (.type "str")==some false
structure xW(K:Frag)(c:Addr):Prop where
 pg:plainGet K c "__class__" = true
 hd:hasDictIn K c=true
 at_:findIn K (.ref c) "__class__" = some (some (.builtin "object.__class__"))
 get:specialIn K (.builtin "object.__class__") "__get__" = some (some (.builtin "getset_descriptor.__get__"))
 takes:takesIn K (.builtin "object.__class__")=some true
 obj:mroIn K c (.type "object")=some true
 not:∀T,(T = "int" ∨ T = "bool" ∨ T = "tuple" ∨ T = "list" ∨ T = "str")->kitOne K (.ref c) (.type T)=some false
structure et(K:Frag)(c:Addr):Prop where
 cls:(clsIn K c).isSome=true
 ga:findIn K (.ref c) "__getattribute__" = some (some (.builtin "BaseException.__getattribute__"))
 hook:findIn K (.ref c) "__getattr__" = some none
 at_:findIn K (.ref c) "__class__" = some (some (.builtin "object.__class__"))
 get:specialIn K (.builtin "object.__class__") "__get__" = some (some (.builtin "getset_descriptor.__get__"))
 takes:takesIn K (.builtin "object.__class__")=some true
 obj:mroIn K c (.type "object")=some true
 exc:mroIn K c (.type "BaseException")=some true
 not:∀T,(T = "int" ∨ T = "bool" ∨ T = "tuple" ∨ T = "list" ∨ T = "str")->kitOne K (.ref c) (.type T)=some false
def et.of{K:Frag}{c:Addr}(h:B7 K c=true):et K c:=by
 unfold B7 at h;simp only[RB,beq_iff_eq]at h;obtain⟨⟨⟨⟨⟨⟨⟨⟨⟨⟨⟨⟨h1,h2⟩,h3⟩,h4⟩,h5⟩,h6⟩,h7⟩,h8⟩,h9⟩,h10⟩,h11⟩,h12⟩,h13⟩:=h;exact⟨h1,h2,h3,h4,h5,h6,h7,h8,fun T hT=>by rcases hT with e|e|e|e|e<;>subst e<;>assumption⟩
section
variable{prog:Program}{w:World}{A:Around}{E:yaa}{s:Shared}{K:Frag}{e c:Addr}
def Jl {R:Result->Shared->Prop} {tp:Value} (X:K.In s.heap) (p:ExcAt e c s.heap) (hm:mroIn K c (.type "object")=some true) (hq:R (.ok (.ret (.ref c))) s) :
  codeAny (model prog w) A (.call (.builtin "getset_descriptor.__get__") ⟨[.builtin "object.__class__", .ref e,tp],[]⟩) R s:=by
 obtain⟨h,g,dr,t,os⟩:=s;have La:=p.ty (M:=model prog w);have Lb:=looks_mroIn (M:=model prog w) X hm;refine codeAny_call_builtin (KF.slot_gs.plain) KF.entry_gs (KF.slot_gs.check _ _ _ _ _ _ _ _ KF.type_class (KF.args_gs _ _ _) ?_);unfold Builtin.«getset_descriptor.__get__» descrGet;rw[dga_obj];refine JX (Ki ?_);unfold descrGetter descrCheckInstance descrNameAndClass isInstance;simp only[KF.owner_class]
 repeat lk
 refine⟨Code.quiet_builtin _ (by decide +kernel),TF KF.entry_class ?_⟩;unfold Builtin.«object.__class__» shownTypeOf
 repeat lk
 exact hq
def Ip (k:et K c) (X:K.In h):Looks M h (find (.ref e) (.ref c) "__class__") (.bind (.builtin "getset_descriptor.__get__") (.builtin "object.__class__")):=by have La:=looks_findIn (M:=M) X k.at_;have Lb:Looks M h (getOf (some (.builtin "object.__class__"))) (some (.builtin "getset_descriptor.__get__")):=looks_specialIn X k.get;have Lc:=looks_takesIn (M:=M) X k.takes;refine La.andThen (Lb.andThen ?_);exact(show Looks M h (dataDescriptor? (some (.builtin "object.__class__")) (some (.builtin "getset_descriptor.__get__"))) (some (.builtin "getset_descriptor.__get__", .builtin "object.__class__"))from Lc.andThen .now).andThen (Looks.tag .now)
def FU{tk:Tok}{Q:Fin->Shared->Prop}(k:et K c)(X:K.In s.heap)(p:ExcAt e c s.heap)(hq:Q (.done (.ret (.ref c))) s) :
  wpAny (model prog w) A (Builtin.«object.__getattribute__» ⟨[.ref e,.str "__class__" tk],[]⟩) Q E s:=by
 obtain⟨h,g,dr,t,os⟩:=s;have La:=p.ty (M:=model prog w);have Lb:=Ip (M:=model prog w) (e:=e) k X;refine JX (Ki ?_);refine JX (Ki ?_);refine JX (La.at (JX (Lb.at ?_)));show wpAny _ _ (bindTo _ _ _ _) _ _ _;unfold bindTo
 repeat (first|with_reducible refine JX ?_|with_reducible refine OO ?_)
 refine wpAny_call (Jl X p k.obj ?_);exact Ki hq
def FT{nv:Value}{Q:Unit->Shared->Prop}(k:et K c)(X:K.In s.heap)(p:ExcAt e c s.heap)(hq:Q () s) :
  wpAny M A (checkBuiltinCall "BaseException.__getattribute__" ⟨[.ref e,nv],[]⟩) Q E s:=by
 obtain⟨h,g,dr,t,os⟩:=s;have hk:builtinKind "BaseException.__getattribute__" = some .slot:=by decide +kernel
 have Q1:splitId "BaseException.__getattribute__" = some ("BaseException", "__getattribute__"):=by decide +kernel
 have ha:=F.args_bexc_ga (.ref e) nv;have La:=p.ty (M:=M);have Lb:=looks_mroIn (M:=M) X k.exc;have Li:Looks M h (isInstance (.ref e) (.type "BaseException")) true:=La.andThen Lb;simp only[checkBuiltinCall,hk,Q1];refine JX (Li.at ?_)
 repeat (first|wp_step)
 exact hq
def x_call{tk:Tok}{R:Result->Shared->Prop}(k:et K c)(X:K.In s.heap)(p:ExcAt e c s.heap)(hq:R (.ok (.ret (.ref c))) s) :
  codeAny (model prog w) A (.call (.builtin "BaseException.__getattribute__") ⟨[.ref e,.str "__class__" tk],[]⟩) R s :=
 codeAny_call_builtin F.excAttr_ValueError.ga.plain F.entry_bexc_ga (FT k X p (FU k X p hq))
def Im{Q:yan->Shared->Prop}(k:et K c)(X:K.In s.heap)(p:ExcAt e c s.heap)(hq:Q (some (.ref c)) {s with toks:=s.toks+1}) :
  wpAny (model prog w) A (getAttr? (.ref e) "__class__") Q E s:=by
 obtain⟨h,g,dr,t,os⟩:=s;have La:=p.ty (M:=model prog w);have Lb:=looks_findIn (M:=model prog w) X k.ga;have Lc:=looks_findIn (M:=model prog w) X k.hook;have f3:=F.excAttr_ValueError.ga.bind (.ref e);unfold getAttr? getAttrBy? getAttrBy;refine JX (wpAny_mkText (JX (wpAny_attempt (OO (JX (La.at (JX (Lb.at ?_))))))));have LY:(Value.builtin "BaseException.__getattribute__" == Value.builtin "object.__getattribute__")=false:=by decide +kernel
 simp only[onTheHeap,Bool.true_and,LY,OM,if_false];unfold getAttrByItsOwn hookBefore;simp only[onTheHeap,if_true];refine JX (Lc.at ?_);refine JX (wpAny_attempt (OO ?_));unfold callGetattribute boundAndCalled;simp only[Bool.false_and,OM,if_false];refine JX (wpAny_of_eq f3 ?_);refine wpAny_call (x_call k X p ?_);refine Ki (a:=Value.ref c) ?_;exact Ki hq
def Cm(k:et K c):KitX K (.ref e) (.ref c) (ExcAt e c) where
 ty:=fun _ _ _ p=>p.ty
 it:=fun _ _ X _=>by
  have h:=k.cls;unfold clsIn at h;split at h
  ·rename_i c' d' cd' YR ho;intro A' Q' E' s' kk q;unfold isType loadHead;exact JX (wpAny_loadPart (kk _ _ (X _ _ ho)) (Ki q))
  ·cases h
 ne:=fun h tp dd JZ n sl X htp=>by
  have h:=k.cls;refine Bool.eq_false_iff.mpr fun q=>?_
  have z:c=tp:=Value.ref.inj (beq_iff_eq.mp q);subst z;unfold clsIn at h;split at h
  ·rename_i c' d' cd' YR ho;cases(X _ _ ho).symm.trans htp
  ·cases h
 ca:=fun X p kk=>Im k X p kk
end
end PX
namespace PD
open PySem PySem.Spec PyProof.Rows L2 PX
abbrev St:=L2.St
def NT:HO->Prop
 |.OZ _=>False
 |_=>True
def Jx:Str := "lightest.<locals>.<lambda>"
def FV(c:Addr):Heap->Prop:=fun h=>h.CodeRec (.ref c) Jx
def dW(H:Hp):Prop:=∀P ps,H P=some (.OZ ps)->TriplesOk ps.toList/\∀pos cv,codeAmong pos ps.toList=some cv->∃c,cv=.ref c/\H c=some (.ext (FV c))
def tabOf(K:yac):Option Addr :=
 match PySem.W.nsIn K mainGlobals "lightest" with
 |some (some (.ref f))=>(match K.lookup f with
  |some ⟨_,_,.func fd,_⟩=>(match fd.code with
   |.ref c=>(match K.lookup c with
    |some ⟨_,_,.fields vs,_⟩=>(match(vs[11]?:yan)with
     |some (.ref P)=>if(K.lookup P).isNone=true then some P else none
     |_=>none)
    |_=>none)
   |_=>none)
  |_=>none)
 |_=>none
structure aq(H H':Hp):Prop where
 kp:∀b o,H b=some o->NT o->H' b=some o
 tb:∀b ps,H b=some (.OZ ps)->∃more,H' b=some (.OZ (ps++more))
 ok:dW H->dW H'
def aq.app(e:aq H H')(b:Addr)(o:HO)(h:H b=some o)(nt:NT o:=by first|exact True.intro|assumption):H' b=some o:=e.kp b o h nt
instance {H H':Hp}:CoeFun (aq H H') (fun _=>∀(b:Addr) (o:HO),H b=some o->(nt:NT o:=by first|exact True.intro|assumption)->H' b=some o):=⟨@aq.app H H'⟩
def aq.refl(H:Hp):aq H H:=⟨fun _ _ h _=>h,fun _ ps h=>⟨#[],by rw[h];simp⟩,id⟩
def aq.trans(a:aq H H1)(b:aq H1 H2):aq H H2:=⟨fun c o h n=>b.kp c o (a.kp c o h n) n,fun c ps h=>by obtain⟨m1,e1⟩:=a.tb c ps h;obtain⟨m2,e2⟩:=b.tb c _ e1;exact⟨m1++m2,by rw[e2,XW]⟩,fun h=>b.ok (a.ok h)⟩
def aq.ex(e:aq H H'){o:HO}(h:H b=some o):∃o',H' b=some o':=by
 by_cases n:NT o
 ·exact⟨o,e.kp b o h n⟩
 ·cases o with
  |OZ ps =>
   obtain⟨m,q⟩:=e.tb b ps h;exact⟨_,q⟩
  |_=>exact absurd True.intro n
def aq.free(e:aq H H')(h:H' l=Option.none):H l=Option.none:=by
 cases q:H l with
 |none=>rfl
 |some o =>
  obtain⟨o',z⟩:=e.ex q;rw[h]at z;cases z
def aq.seq{K:yac}{H H':Hp}{a:Addr}{xs:yar}(e:aq H H')(h:SqL K H a xs):SqL K H' a xs:=by
 rcases h with(h|⟨o,h⟩)|h
 ·exact .inl (.inl (e _ _ h))
 ·exact .inl (.inr ⟨o,e _ _ h⟩)
 ·exact .inr h
theorem dW.upd{H:Hp}(n:NT o)(hp:H p=none∨∃ u,H p=some u/\(∀φ,u ≠ .ext φ)/\NT u)(h:dW H):dW (upd H p o):=by
 intro P ps e;have LY:P≠p:=fun z=>by subst z;rw[aO]at e;cases e;exact n
 rw[aw LY]at e;obtain⟨h1,h2⟩:=h P ps e;refine⟨h1,fun pos cv q=>?_⟩;obtain⟨c,e1,e2⟩:=h2 pos cv q;refine⟨c,e1,?_⟩;rw[aw fun z=>?_]
 ·exact e2
 ·subst z;rcases hp with hp|⟨u,hp,hu,_⟩
  ·rw[hp]at e2;cases e2
  ·rw[hp]at e2;cases e2;exact hu _ rfl
structure jc(K:yac)(H:Hp):Prop where
 ok:dW H
 at':∀P,tabOf K=some P->∃ps,H P=some (.OZ ps)
def jc.same{K:yac}{H H':Hp}(h:jc K H)(e:aq H H'):jc K H':=⟨e.ok h.ok,fun P q=>by obtain⟨ps,z⟩:=h.at' P q;obtain⟨m,z⟩:=e.tb P ps z;exact⟨_,z⟩⟩
theorem jc.upd{K:yac}{H:Hp}{p:Addr}{o:HO}(h:jc K H)(n:NT o)(hp:H p=none∨∃ u,H p=some u/\(∀φ,u ≠ .ext φ)/\NT u):jc K (upd H p o):=⟨dW.upd n hp h.ok,fun P q=>by
 obtain⟨ps,z⟩:=h.at' P q;refine⟨ps,?_⟩;rw[aw fun e=>?_]
 ·exact z
 ·subst e;rcases hp with hp|⟨u,hp,_,hu⟩
  ·rw[hp]at z;cases z
  ·rw[hp]at z;cases z;exact hu⟩
inductive D where
 |Kt|bl (b:Bool)|int (i:Int)|str (x:Str)|tup (ds:List D)|lst (t:Bool) (ds:List D)|exc (c:Addr)|obj (C:Addr) (ns:yah) (ds:List D)|OA|NZ (ks:yaf) (ds:List D)
abbrev yas:=List D
def RH:HO->Prop
 |.ext _=>True|.ins _ _ _=>True|.frz _ (.dK _)=>True|_=>False
def RH.nt(h:RH o):NT o:=by cases o<;>first|exact True.intro|exact h.elim
def MQ(K:yac)(H:Hp)(t:Bool)(a:Addr)(vs:yar):Prop:=SqL K H a vs/\(t=true->H a=some (.lst vs)/\K.lookup a=none)
def MQ.same{K:yac}{H H':Hp}{t:Bool}{a:Addr}{vs:yar}(e:aq H H')(q:MQ K H t a vs):MQ K H' t a vs:=⟨e.seq q.1,fun z=>⟨e _ _ (q.2 z).1,(q.2 z).2⟩⟩
def MQ.any{K:yac}{H:Hp}{a:Addr}{vs:yar}(q:SqL K H a vs):MQ K H false a vs:=⟨q,fun z=>by cases z⟩
def MQ.new{K:yac}{H:Hp}(q:H a=some (.lst vs))(k:K.lookup a=none):MQ K H t a vs:=⟨SqL.of q,fun _=>⟨q,k⟩⟩
def Le(_:yac)(H:Hp)(a:Addr)(xs:yar):Prop:=H a=some (.tup xs)
def Le.w{K:yac}{H:Hp}{a:Addr}{xs:yar}(h:Le K H a xs):L2.Le K H a xs:=.inl (.inl h)
def Le.of{K:yac}{H:Hp}{a:Addr}{xs:yar}(h:H a=some (.tup xs)):Le K H a xs:=h
mutual
def Den(K:yac)(P:yak)(H:Hp):D->V->Prop
 |.Kt,v=>v=.Kt
 |.bl b,v=>v=.bl b
 |.int i,v=>v=.int i
 |.str x,v=>v=.str x
 |.tup ds,v=>∃a vs,v=.ref a/\Le K H a vs/\af K P H ds vs
 |.lst t ds,v=>∃a vs,v=.ref a/\¬P t a/\MQ K H t a vs/\af K P H ds vs
 |.exc c,v=>∃e,v=.ref e/\H e=some (.ext (ExcAt e c))/\et K c
 |.OA,v=>∃a,v=.ref a/\H a=some (.ext (PySem.W.KitAt a "dict"))
 |.obj C ns ds,v=>∃a dx vs,v=.ref a/\H a=some (.ins C dx (ns.zip vs))/\vs.length=ns.length/\xW K C/\af K P H ds vs
 |.NZ ks ds,v=>∃a o KP vs,v=.ref a/\H a=some (.frz o (.dK KP))/\KP=(ks.map Sum.inl).zip vs/\vs.length=ks.length/\af K P H ds vs
def af(K:yac)(P:yak)(H:Hp):yas->yar->Prop
 |[],vs=>vs=[]
 |d::ds,vs=>∃v r,vs=v::r/\Den K P H d v/\af K P H ds r
end
section
variable{K:yac}{P P':yak}{H H':Hp}
mutual
theorem Den.map(hT:∀a vs,Le K H a vs->Le K H' a vs)(hL:∀t a vs,¬P t a->MQ K H t a vs->¬P' t a/\MQ K H' t a vs)(hX:∀a o,RH o->H a=some o->H' a=some o):∀(d:D) (v:V),Den K P H d v->Den K P' H' d v
 |.Kt,_,h=>by simpa only[Den]using h
 |.bl _,_,h=>by simpa only[Den]using h
 |.int _,_,h=>by simpa only[Den]using h
 |.str _,_,h=>by simpa only[Den]using h
 |.tup ds,_,h=>by simp only[Den]at h ⊢;obtain⟨a,vs,e,q,r⟩:=h;exact⟨a,vs,e,hT a vs q,af.map hT hL hX ds vs r⟩
 |.lst t ds,_,h=>by simp only[Den]at h ⊢;obtain⟨a,vs,e,p,q,r⟩:=h;exact⟨a,vs,e,(hL t a vs p q).1,(hL t a vs p q).2,af.map hT hL hX ds vs r⟩
 |.exc c,_,h=>by simp only[Den]at h ⊢;obtain⟨a,e,q,k⟩:=h;exact⟨a,e,hX a _ True.intro q,k⟩
 |.obj C ns ds,_,h=>by simp only[Den]at h ⊢;obtain⟨a,dx,vs,e,q,l,k,r⟩:=h;exact⟨a,dx,vs,e,hX a _ True.intro q,l,k,af.map hT hL hX ds vs r⟩
 |.OA,_,h=>by simp only[Den]at h ⊢;obtain⟨a,e,q⟩:=h;exact⟨a,e,hX a _ True.intro q⟩
 |.NZ ks ds,_,h=>by simp only[Den]at h ⊢;obtain⟨a,o,KP,vs,e,q,l,k,r⟩:=h;exact⟨a,o,KP,vs,e,hX a _ True.intro q,l,k,af.map hT hL hX ds vs r⟩
theorem af.map(hT:∀a vs,Le K H a vs->Le K H' a vs)(hL:∀t a vs,¬P t a->MQ K H t a vs->¬P' t a/\MQ K H' t a vs)(hX:∀a o,RH o->H a=some o->H' a=some o):∀(ds:yas) (vs:yar),af K P H ds vs->af K P' H' ds vs
 |[],_,h=>by simpa only[af]using h
 |d::ds,_,h=>by simp only[af]at h ⊢;obtain⟨v,r,e,h1,h2⟩:=h;exact⟨v,r,e,Den.map hT hL hX d v h1,af.map hT hL hX ds r h2⟩
end
end
def Le.same{K:yac}{H H':Hp}{a:Addr}{xs:yar}(e:aq H H')(h:Le K H a xs):Le K H' a xs:=e _ _ h
section
variable{K:yac}{P:yak}{H H':Hp}
theorem Den.same(e:aq H H')(h:Den K P H d v):Den K P H' d v:=Den.map (fun _ _ q=>Le.same e q) (fun _ _ _ p q=>⟨p,q.same e⟩) (fun a _ n q=>e.kp a _ q n.nt) d v h
theorem af.same(e:aq H H')(h:af K P H ds vs):af K P H' ds vs:=af.map (fun _ _ q=>Le.same e q) (fun _ _ _ p q=>⟨p,q.same e⟩) (fun a _ n q=>e.kp a _ q n.nt) ds vs h
def Den.Kw{P':yak}(e:∀t a,P' t a->P t a)(h:Den K P H d v):Den K P' H d v:=Den.map (fun _ _ q=>q) (fun _ _ _ p q=>⟨fun z=>p (e _ _ z),q⟩) (fun _ _ _ q=>q) d v h
def af.Kw{P':yak}(e:∀t a,P' t a->P t a)(h:af K P H ds vs):af K P' H ds vs:=af.map (fun _ _ q=>q) (fun _ _ _ p q=>⟨fun z=>p (e _ _ z),q⟩) (fun _ _ _ q=>q) ds vs h
theorem af.len:∀{ds:yas} {vs:yar},af K P H ds vs->vs.length=ds.length
 |[],_,h=>by simp only[af]at h;subst h;rfl
 |d::ds,_,h=>by simp only[af]at h;obtain⟨v,r,rfl,_,h2⟩:=h;simp[af.len h2]
theorem af.get:∀{ds:yas} {vs:yar} {i:Nat} {d:D},af K P H ds vs->ds[i]?=some d->∃v,vs[i]?=some v/\Den K P H d v
 |[],_,_,_,_,e=>by simp at e
 |d::ds,_,0,_,h,e=>by simp only[af]at h;obtain⟨v,r,rfl,h1,_⟩:=h;simp at e;subst e;exact⟨v,rfl,h1⟩
 |d::ds,_,i+1,x,h,e=>by simp only[af]at h;obtain⟨v,r,rfl,_,h2⟩:=h;obtain⟨u,e1,e2⟩:=af.get (i:=i) (d:=x) h2 (by simpa using e);exact⟨u,by simpa using e1,e2⟩
theorem af.bR:∀{ds:yas} {vs:yar} {i:Nat} {v:V},af K P H ds vs->vs[i]?=some v->∃d,ds[i]?=some d/\Den K P H d v
 |[],_,_,_,h,e=>by simp only[af]at h;subst h;simp at e
 |d::ds,_,0,_,h,e=>by simp only[af]at h;obtain⟨v,r,rfl,h1,_⟩:=h;simp at e;subst e;exact⟨d,rfl,h1⟩
 |d::ds,_,i+1,x,h,e=>by simp only[af]at h;obtain⟨v,r,rfl,_,h2⟩:=h;obtain⟨u,e1,e2⟩:=af.bR (i:=i) (v:=x) h2 (by simpa using e);exact⟨u,by simpa using e1,e2⟩
theorem af.append:∀{ds es:yas} {vs us:yar},af K P H ds vs->af K P H es us->af K P H (ds++es) (vs++us)
 |[],_,_,_,h,h'=>by simp only[af]at h;subst h;exact h'
 |d::ds,_,_,_,h,h'=>by simp only[af]at h;obtain⟨v,r,rfl,h1,h2⟩:=h;simp only[Nu,af];exact⟨v,_,rfl,h1,af.append h2 h'⟩
def af.one(h:Den K P H d v):af K P H [d] [v]:=by simp only[af];exact⟨v,[],rfl,h,rfl⟩
def af.nil:af K P H [] []:=by simp only[af]
def af.cons(h:Den K P H d v)(h':af K P H ds vs):af K P H (d::ds) (v::vs):=by simp only[af];exact⟨v,vs,rfl,h,h'⟩
def Den.K3(h:Den K P H (.int i) v):v=.int i:=by simpa only[Den]using h
def Den.Q3(h:Den K P H (.bl b) v):v=.bl b:=by simpa only[Den]using h
def Den.R3(h:Den K P H .Kt v):v=.Kt:=by simpa only[Den]using h
def Den.R4(h:Den K P H (.str x) v):v=.str x:=by simpa only[Den]using h
theorem Den.int(i:Int):Den K P H (.int i) (.int i):=by simp only[Den]
theorem Den.bl(b:Bool):Den K P H (.bl b) (.bl b):=by simp only[Den]
theorem Den.Kt:Den K P H .Kt .Kt:=by simp only[Den]
theorem Den.str(x:Str):Den K P H (.str x) (.str x):=by simp only[Den]
def Den.N1(h:Den K P H (.tup ds) v):∃a vs,v=.ref a/\Le K H a vs/\af K P H ds vs:=by simpa only[Den]using h
def Den.SQ(h:Den K P H (.lst t ds) v):∃a vs,v=.ref a/\¬P t a/\MQ K H t a vs/\af K P H ds vs:=by simpa only[Den]using h
def Den.MR(h:Den K P H (.lst t ds) v):∃a vs,v=.ref a/\¬P t a/\SqL K H a vs/\af K P H ds vs:=by obtain⟨a,vs,h1,h2,h3,h4⟩:=h.SQ;exact⟨a,vs,h1,h2,h3.1,h4⟩
def Den.Wf (h:Den K P H .OA v):∃a,v=.ref a/\H a=some (.ext (PySem.W.KitAt a "dict")):=by simpa only[Den]using h
theorem Den.OA (h:H a=some (.ext (PySem.W.KitAt a "dict"))):Den K P H .OA (.ref a):=by simp only[Den];exact⟨a,rfl,h⟩
def Den.TY(h:Den K P H (.obj C ns ds) v):∃a dx vs,v=.ref a/\H a=some (.ins C dx (ns.zip vs))/\vs.length=ns.length/\xW K C/\af K P H ds vs:=by simpa only[Den]using h
theorem Den.obj{ns:yah}(h:H a=some (.ins C dx (ns.zip vs)))(l:vs.length=ns.length)(k:xW K C)(d:af K P H ds vs):Den K P H (.obj C ns ds) (.ref a):=by simp only[Den];exact⟨a,dx,vs,rfl,h,l,k,d⟩
def Den.Wg(h:Den K P H (.NZ ks ds) v):∃a o KP vs,v=.ref a/\H a=some (.frz o (.dK KP))/\KP=(ks.map Sum.inl).zip vs/\vs.length=ks.length/\af K P H ds vs:=by simpa only[Den]using h
theorem Den.NZ{ks:yaf}(h:H a=some (.frz o (.dK ((ks.map Sum.inl).zip vs))))(l:vs.length=ks.length)(d:af K P H ds vs):Den K P H (.NZ ks ds) (.ref a):=by simp only[Den];exact⟨a,o,_,vs,rfl,h,rfl,l,d⟩
def Den.TZ(h:Den K P H (.exc c) v):∃e,v=.ref e/\H e=some (.ext (ExcAt e c))/\et K c:=by simpa only[Den]using h
theorem Den.exc(h:H e=some (.ext (ExcAt e c)))(k:et K c):Den K P H (.exc c) (.ref e):=by simp only[Den];exact⟨e,rfl,h,k⟩
theorem Den.tup(h:Le K H a vs)(h':af K P H ds vs):Den K P H (.tup ds) (.ref a):=by simp only[Den];exact⟨a,vs,rfl,h,h'⟩
theorem Den.lst(p:¬P t a)(h:MQ K H t a vs)(h':af K P H ds vs):Den K P H (.lst t ds) (.ref a):=by simp only[Den];exact⟨a,vs,rfl,p,h,h'⟩
end
inductive LI where
 |own (ds:yas)|val (d:D)
inductive OS where
 |lst (ds:yas)|dk (kvs:List (Key×D))|dt (kvs:List (List Key×D))|ll (xs:List LI)
inductive Sl where
 |val (d:D)
 |ob (x:OS)
abbrev Sl.own(ds:yas):Sl:=.ob (.lst ds)
def aH(K:yac)(P:yak)(H:Hp)(B:yaj):Nat->List LI->yar->Prop
 |_,[],vs=>vs=[]
 |k,.own ds::r,vs=>∃b us u,vs=.ref b::u/\B k=some b/\H b=some (.lst us)/\af K P H ds us/\aH K P H B (k+1) r u
 |k,.val d::r,vs=>∃v u,vs=v::u/\Den K P H d v/\aH K P H B (k+1) r u
theorem aH.map{K:yac}{P P':yak}{H H':Hp}{B B':yaj}(hd:∀ds vs,af K P H ds vs->af K P' H' ds vs)(hB:∀k b,B k=some b->B' k=some b/\∀us,H b=some (.lst us)->H' b=some (.lst us)):∀{k:Nat} {xs:List LI} {vs:yar},aH K P H B k xs vs->aH K P' H' B' k xs vs
 |_,[],_,h=>by simpa only[aH]using h
 |k,.own ds::r,_,h=>by simp only[aH]at h ⊢;obtain⟨b,us,u,e,h1,h2,h3,h4⟩:=h;exact⟨b,us,u,e,(hB k b h1).1,(hB k b h1).2 us h2,hd ds us h3,aH.map hd hB h4⟩
 |k,.val d::r,_,h=>by simp only[aH]at h ⊢;obtain⟨v,u,e,h1,h2⟩:=h;have h3:=hd [d] [v] (af.one h1);simp only[af]at h3;obtain⟨v',r',e',h4,_⟩:=h3;cases e';exact⟨v,u,e,h4,aH.map hd hB h2⟩
theorem aH.len{K:yac}{P:yak}{H:Hp}{B:yaj}:∀{k:Nat} {xs:List LI} {vs:yar},aH K P H B k xs vs->vs.length=xs.length
 |_,[],_,h=>by simp only[aH]at h;subst h;rfl
 |k,.own ds::r,_,h=>by simp only[aH]at h;obtain⟨b,us,u,rfl,_,_,_,h4⟩:=h;simp[aH.len h4]
 |k,.val d::r,_,h=>by simp only[aH]at h;obtain⟨v,u,rfl,_,h2⟩:=h;simp[aH.len h2]
inductive cu (K:yac) (P:yak) (H:Hp) (B:yaj):OS->HO->Prop where
 |lst {ds:yas} {vs:yar} (h:af K P H ds vs):cu K P H B (.lst ds) (.lst vs)
 |ll {xs:List LI} {vs:yar} (h:aH K P H B 0 xs vs):cu K P H B (.ll xs) (.lst vs)
 |dk {kvs:List (Key×D)} {KP:List (Key×V)} (e:KP.map (·.1)=kvs.map (·.1)) (h:af K P H (kvs.map (·.2)) (KP.map (·.2))):cu K P H B (.dk kvs) (.dK KP)
 |dt {kvs:List (List Key×D)} {KP:List (List Key×V)} (e:KP.map (·.1)=kvs.map (·.1)) (h:af K P H (kvs.map (·.2)) (KP.map (·.2))):cu K P H B (.dt kvs) (.dT KP)
def iA:HO->Prop
 |.lst _=>True|.dK _=>True|.dT _=>True|_=>False
def iA.nt(h:iA o):NT o:=by cases o<;>first|exact True.intro|exact h.elim
def iA.sol(h:iA o):¬RH o:=by cases o<;>first|exact h.elim|exact fun z=>z
def iA.ne(h:iA o):∀φ,o ≠ .ext φ:=fun _ e=>by subst e;exact h
section
variable{K:yac}{P P':yak}{H H':Hp}{B B':yaj}{x:OS}{o:HO}
theorem cu.map(k:∀ds vs,af K P H ds vs->af K P' H' ds vs)(hB:∀k b,B k=some b->B' k=some b/\∀us,H b=some (.lst us)->H' b=some (.lst us))(h:cu K P H B x o):cu K P' H' B' x o:=by
 cases h with
 |lst h=>exact .lst (k _ _ h)
 |ll h=>exact .ll (h.map k hB)
 |dk e h=>exact .dk e (k _ _ h)
 |dt e h=>exact .dt e (k _ _ h)
theorem cu.same(e:aq H H')(h:cu K P H B x o):cu K P H' B x o:=h.map (fun _ _ z=>z.same e) fun _ _ q=>⟨q,fun _ z=>e _ _ z⟩
theorem cu.Kw(e:∀t a,P' t a->P t a)(hB:∀k b,B k=some b->B' k=some b)(h:cu K P H B x o):cu K P' H B' x o:=h.map (fun _ _ z=>z.Kw e) fun k b q=>⟨hB k b q,fun _ z=>z⟩
def cu.Qk(h:cu K P H B x o):iA o:=by cases h<;>exact True.intro
def cu.MR(h:cu K P H B (.lst ds) o):∃vs,o=.lst vs/\af K P H ds vs:=by
 cases h with
 |lst h=>exact⟨_,rfl,h⟩
end
abbrev Ro:=List (Option Sl)
structure Own where
 B:Addr->Prop
 O:yaj
 S:Addr->Prop
def Own.bad(W:Own)(t:Bool)(a:Addr):Prop:=W.B a∨(∃i,W.O i=some a)∨(t=true/\W.S a)
def Own.drop(W:Own)(i:Nat):Own:=⟨W.B,fun j=>if j=i then none else W.O j,W.S⟩
def Own.put(W:Own)(i:Nat)(a:Addr):Own:=⟨W.B,fun j=>if j=i then some a else W.O j,W.S⟩
def Own.KS{W:Own}(h:(W.drop i).bad t a):W.bad t a:=by
 rcases h with h|⟨j,h⟩| h
 ·exact .inl h
 ·have h':(if j=i then none else W.O j)=some a:=h;by_cases e:j=i
  ·rw[JU e]at h';cases h'
  ·rw[JT e]at h';exact .inr (.inl ⟨j,h'⟩)
 ·exact .inr (.inr h)
def Own.Pt{W:Own}(h:W.bad false a):W.bad t a:=by
 rcases h with h|h|⟨h,_⟩
 ·exact .inl h
 ·exact .inr (.inl h)
 ·cases h
def T1(n i k:Nat):Nat:=n*(k+1)+i
def qh{n j:Nat}(h:j<n):T1 n i k≠j:=fun e=>by
 unfold T1 at e;rw[Nat.mul_add]at e
 lia
abbrev Own.sub(W:Own)(n i:Nat)(k:Nat):Option Addr:=W.O (T1 n i k)
def Own.ND{W:Own}{n i:Nat}(h:i<n)(k:Nat)(b:Addr)(e:W.sub n j k=some b):(W.drop i).sub n j k=some b:=by show(if T1 n j k=i then none else W.O (T1 n j k))=_;rw[JT (qh h)];exact e
structure Rel(X:Cx)(W:Own)(H:Hp)(σ:St)(ρ:Ro):Prop where
 val:∀(i:Nat) (d:D),ρ[i]?=some (some (Sl.val d))->∃v,σ[i]?=some (some v)/\Den X.K W.bad H d v
 own:∀(i:Nat) (x:OS),ρ[i]?=some (some (Sl.ob x))->∃a o,W.O i=some a/\σ[i]?=some (some (.ref a))/\H a=some o/\cu X.K W.bad H (W.sub σ.length i) x o
 inj:∀i j a,W.O i=some a->W.O j=some a->i=j
 kn:∀i a,W.O i=some a->X.K.lookup a=none/\(¬W.B a/\¬W.S a)/\∃o,H a=some o/\iA o
 ke:∀i a,W.O i=some a->X.KY a=none
 bt:∀a,W.B a->∃o,H a=some o
 st:∀a,W.S a->∃o,H a=some o
 ent:aq X.KY H
 tab:jc X.K H
theorem Rel.same(r:Rel X W H σ ρ)(e:aq H H'):Rel X W H' σ ρ where
 val:=fun i d h=>let ⟨v,h1,h2⟩:=r.val i d h;⟨v,h1,h2.same e⟩
 own:=fun i ds h=>let ⟨a,vs,h1,h2,h3,h4⟩:=r.own i ds h;⟨a,vs,h1,h2,e.kp _ _ h3 h4.Qk.nt,h4.same e⟩
 inj:=r.inj
 kn:=fun i a h=>let ⟨h1,h2,o,h3,h4⟩:=r.kn i a h;⟨h1,h2,o,e.kp _ _ h3 h4.nt,h4⟩
 ke:=r.ke
 bt:=fun a h=>let ⟨_,q⟩:=r.bt a h;e.ex q
 st:=fun a h=>let ⟨_,q⟩:=r.st a h;e.ex q
 ent:=r.ent.trans e
 tab:=r.tab.same e
def Rel.Pu(r:Rel X W H σ ρ)(i:Nat)(ds:yas)(h:ρ[i]?=some (some (Sl.own ds))):∃a vs,W.O i=some a/\σ[i]?=some (some (.ref a))/\H a=some (.lst vs)/\af X.K W.bad H ds vs:=by obtain⟨a,o,h1,h2,h3,h4⟩:=r.own i _ h;obtain⟨vs,e,h5⟩:=h4.MR;subst e;exact⟨a,vs,h1,h2,h3,h5⟩
def Rel.tracked(r:Rel X W H σ ρ)(t:Bool)(a:Addr)(h:W.bad t a):∃o,H a=some o:=by
 rcases h with h|⟨i,h⟩| ⟨_,h⟩
 ·exact r.bt a h
 ·obtain⟨_,_,o,q,_⟩:=r.kn i a h;exact⟨_,q⟩
 ·exact r.st a h
def Rel.fresh(r:Rel X W H σ ρ)(h:H p=none):¬W.bad t p:=fun z=>by obtain⟨o,q⟩:=r.tracked t p z;rw[h]at q;cases q
structure KI(W:Own)(H:Hp)(W':Own)(H':Hp):Prop where
 B:W'.B=W.B
 S:W'.S=W.S
 kp:∀b o,(∀i,W.O i≠some b)->H b=some o->NT o->H' b=some o
 new:∀i a,W'.O i=some a->(∃j,W.O j=some a)∨H a=none
 tb:∀b ps,H b=some (.OZ ps)->∃more,H' b=some (.OZ (ps++more))
 ok:dW H->dW H'
def KI.keep(f:KI W H W' H')(b:Addr)(o:HO)(h:∀i,W.O i≠some b)(q:H b=some o)(nt:NT o:=by first|exact True.intro|assumption):H' b=some o:=f.kp b o h q nt
def KI.ex(f:KI W H W' H'){b:Addr}{o:HO}(h:∀i,W.O i≠some b)(q:H b=some o):∃o',H' b=some o':=by
 by_cases n:NT o
 ·exact⟨o,f.kp b o h q n⟩
 ·cases o with
  |OZ ps =>
   obtain⟨m,e⟩:=f.tb b ps q;exact⟨_,e⟩
  |_=>exact absurd True.intro n
def KI.refl(W:Own)(H:Hp):KI W H W H:=⟨rfl,rfl,fun _ _ _ h _=>h,fun i _ h=>.inl ⟨i,h⟩,fun _ ps h=>⟨#[],by rw[h];simp⟩,id⟩
theorem KI.trans(a:KI W H W1 H1)(b:KI W1 H1 W2 H2):KI W H W2 H2:=by
 refine⟨b.B.trans a.B,b.S.trans a.S,fun x o n h t=>b.kp x o (fun i z=>?_) (a.kp x o n h t) t,fun i x h=>?_,fun c ps h=>?_,fun h=>b.ok (a.ok h)⟩
 ·rcases a.new i x z with⟨j,q⟩| q
  ·exact n j q
  ·rw[h]at q;cases q
 ·rcases b.new i x h with⟨j,q⟩| q
  ·exact a.new j x q
  ·by_cases z:∃j,W.O j=some x
   ·exact .inl z
   ·refine .inr ?_;cases e:H x with
    |none=>rfl
    |some o =>
     obtain⟨o',this⟩:=a.ex (fun i w=>z ⟨i,w⟩) e;rw[this]at q;cases q
 ·obtain⟨m1,e1⟩:=a.tb c ps h;obtain⟨m2,e2⟩:=b.tb c _ e1;exact⟨m1++m2,by rw[e2,XW]⟩
def KI.same(e:aq H H'):KI W H W H':=⟨rfl,rfl,fun _ _ _ h n=>e.kp _ _ h n,fun i _ h=>.inl ⟨i,h⟩,e.tb,e.ok⟩
def aq.ins(e:aq KY H){o:HO}(h0:KY a=none)(ha:H a=some o)(hm:iA o)(hn:NT o'):aq KY (upd H a o') :=
 ⟨fun b u h n=>by rw[aw (bf h h0)];exact e.kp b u h n,fun b ps h=>by rw[aw (bf h h0)];exact e.tb b ps h,fun h=>dW.upd hn (.inr ⟨o,ha,hm.ne,hm.nt⟩) (e.ok h)⟩
theorem KI.upd{W:Own}{H:Hp}{a:Addr}{o:HO}(oa:W.O i=some a)(ha:H a=some o)(hm:iA o)(hn:NT o'):KI W H W (upd H a o') :=
 ⟨rfl,rfl,fun b u n h _=>by rw[aw fun e=>n i (by rw[e];exact oa)];exact h,fun j _ h=>.inl ⟨j,h⟩,fun b ps h=>⟨#[],by rw[aw (fun e=>by subst e;rw[ha]at h;cases h;exact hm),h];simp⟩,dW.upd hn (.inr ⟨o,ha,hm.ne,hm.nt⟩)⟩
structure lU where
 nx:Ro->Prop
 rt:D->Prop
 bk:Ro->Prop:=fun _=>False
 ct:Ro->Prop:=fun _=>False
abbrev DE:=Ro->(D->Prop)->Prop
abbrev DT:=Ro->(Bool->Prop)->Prop
abbrev DA:=Ro->(yas->Prop)->Prop
abbrev DS:=lU->Ro->Prop
def DP(X:Cx)(pins:yab)(σ:St)(W:Own)(H:Hp)(Q:D->Prop)(u:Value)(s':Shared):Prop :=
 ∃ v H' d,Inv X pins σ H' s'/\RelV v u/\aq H H'/\Den X.K W.bad H' d v/\Q d
def Y5(X:Cx)(pins:yab)(σ:St)(H:Hp)(Q:Bool->Prop)(b:Bool)(s':Shared):Prop :=
 ∃ H',Inv X pins σ H' s'/\aq H H'/\Q b
def DAP(X:Cx)(pins:yab)(σ:St)(W:Own)(H:Hp)(Q:yas->Prop)(us:yad)(s':Shared):Prop :=
 ∃ vs H' ds,Inv X pins σ H' s'/\Vals vs us/\aq H H'/\af X.K W.bad H' ds vs/\Q ds
def RI(X:Cx)(pins:yab)(W:Own)(H:Hp)(E:lU)(f:Flow)(s':Shared):Prop :=
 ∃ W' Ky H',Inv X pins Ky H' s'/\KI W H W' H' ∧
 match f with
 |.next=>∃JY,Rel X W' H' Ky JY/\E.nx JY
 |.brk=>∃JY,Rel X W' H' Ky JY/\E.bk JY
 |.cont=>∃JY,Rel X W' H' Ky JY/\E.ct JY
 |.ret u=>∃v d,RelV v u/\Den X.K W'.bad H' d v/\E.rt d
def Kn(X:Cx)(e:Expr)(t:DE):Prop :=
 ∀ (pins:yab) (s:Shared) (σ:St) (H:Hp) (W:Own) (ρ:Ro) (Q:D->Prop),Inv X pins σ H s->Rel X W H σ ρ->t ρ Q →
  wpAny (model X.prog X.w) X.A (eval e X.env) (DP X pins σ W H Q) X.xe s
def O3(X:Cx)(e:Expr)(t:DT):Prop :=
 ∀ (pins:yab) (s:Shared) (σ:St) (H:Hp) (W:Own) (ρ:Ro) (Q:Bool->Prop),Inv X pins σ H s->Rel X W H σ ρ->t ρ Q →
  wpAny (model X.prog X.w) X.A (isTrue e X.env (eval e X.env)) (Y5 X pins σ H Q) X.xe s
def OB(X:Cx)(e:Expr)(t:DT):Prop :=
 ∀ (whole:Sem Value) (pins:yab) (s:Shared) (σ:St) (H:Hp) (W:Own) (ρ:Ro) (Q:Bool->Prop),Inv X pins σ H s->Rel X W H σ ρ->t ρ Q →
  wpAny (model X.prog X.w) X.A (isTrue e X.env whole) (Y5 X pins σ H Q) X.xe s
def OB.pt(h:OB X e t):O3 X e t:=h _
def OC(X:Cx)(es:yai)(t:DA):Prop :=
 ∀ (pos:Pos) (pins:yab) (s:Shared) (σ:St) (H:Hp) (W:Own) (ρ:Ro) (Q:yas->Prop),Inv X pins σ H s->Rel X W H σ ρ->t ρ Q →
  wpAny (model X.prog X.w) X.A (spliced (backTo pos (starEach es X.env))) (DAP X pins σ W H Q) X.xe s
def MS(X:Cx)(st:Stmt)(t:DS):Prop :=
 ∀ (pins:yab) (s:Shared) (σ:St) (H:Hp) (W:Own) (ρ:Ro) (E:lU),Inv X pins σ H s->Rel X W H σ ρ->t E ρ →
  wpAny (model X.prog X.w) X.A (exec st X.env) (RI X pins W H E) X.xe s
def cf(X:Cx)(st:yal)(t:DS):Prop :=
 ∀ (pins:yab) (s:Shared) (σ:St) (H:Hp) (W:Own) (ρ:Ro) (E:lU),Inv X pins σ H s->Rel X W H σ ρ->t E ρ →
  wpAny (model X.prog X.w) X.A (execs st X.env) (RI X pins W H E) X.xe s
def yz(X:Cx)(t:DE):TE:=fun σ H Q=>∃W ρ Qd,Rel X W H σ ρ/\t ρ Qd/\∀v H' d,aq H H'->Den X.K W.bad H' d v->Qd d->Q v H'
def IK(X:Cx)(t:DS):TS:=fun D σ H=>∃W ρ Ed,Rel X W H σ ρ/\t Ed ρ ∧
 (∀W' Ky H' JY,KI W H W' H'->Rel X W' H' Ky JY->Ed.nx JY->D.nx Ky H') ∧
 (∀W' H' v d,KI W H W' H'->Den X.K W'.bad H' d v->Ed.rt d->D.rt v H') ∧
 (∀W' Ky H' JY,KI W H W' H'->Rel X W' H' Ky JY->Ed.bk JY->D.bk Ky H') ∧
 (∀W' Ky H' JY,KI W H W' H'->Rel X W' H' Ky JY->Ed.ct JY->D.ct Ky H')
section
variable{X:Cx}
def Kn.pe(h:Kn X e t):PE X e (yz X t):=by intro pins s σ H Q I q;obtain⟨W,ρ,Qd,r,ht,k⟩:=q;exact J0 (h pins s σ H W ρ Qd I r ht) fun u s1 K1=>(by obtain⟨v,H',d,I1,rv,e1,hd,qd⟩:=K1;exact⟨v,H',I1,rv,k v H' d e1 hd qd⟩)
def cf.ps{st:yal}{t:DS}(h:cf X st t):PSs X st (IK X t):=by
 intro pins s σ H D I q;obtain⟨W,ρ,Ed,r,ht,k1,k2,k3,k4⟩:=q;refine J0 (h pins s σ H W ρ Ed I r ht) fun f s1 J5=>?_
 obtain⟨W',Ky,H',I1,fw,q⟩:=J5;cases f with
 |next=>obtain⟨JY,r',q'⟩:=q;exact⟨Ky,H',I1,k1 W' Ky H' JY fw r' q'⟩
 |brk=>obtain⟨JY,r',q'⟩:=q;exact⟨Ky,H',I1,k3 W' Ky H' JY fw r' q'⟩
 |cont=>obtain⟨JY,r',q'⟩:=q;exact⟨Ky,H',I1,k4 W' Ky H' JY fw r' q'⟩
 |ret u=>obtain⟨v,d,rv,hd,q'⟩:=q;exact⟨v,Ky,H',I1,rv,k2 W' H' v d fw hd q'⟩
def Kn.of{t:DE}(h:PE X e te)(k:∀σ H W ρ Q,Rel X W H σ ρ->t ρ Q->te σ H fun v H'=>aq H H'/\∃d,Den X.K W.bad H' d v/\Q d):Kn X e t:=by intro pins s σ H W ρ Q I r ht;exact J0 (h pins s σ H _ I (k σ H W ρ Q r ht)) fun u s1 K1=>(by obtain⟨v,H',I1,rv,e1,d,hd,q⟩:=K1;exact⟨v,H',d,I1,rv,e1,hd,q⟩)
end
section
variable{X:Cx}{a b c:Expr}{ta tb:DE}{pos:Pos}
def je(i:Nat):DE:=fun ρ Q=>match ρ[i]? with
 |some (some (.val d))=>Q d
 |_=>False
def Eh(h:je i ρ Q):∃d,ρ[i]?=some (some (.val d))/\Q d:=by
 unfold je at h;split at h
 ·rename_i d e;exact⟨d,e,h⟩
 ·exact h.elim
def dC(d:D):DE:=fun _ Q=>Q d
def dv (i:Nat) {x:Str} {pos:Pos} (hN:X.N[i]?=some x:=by rfl) (hv:QX X.env.scope x:=by first|exact Or.inl rfl|exact Or.inr (Or.inl rfl)|exact Or.inr (Or.inr rfl)) (hd:(x==("__debug__" : Str))=false:=by decide)
  (Nb:(x==("__classdict__" : Str))=false:=by decide):Kn X (.Name x pos) (je i) :=
 Kn.of (gC hN hv hd Nb) fun σ H W ρ Q r ht=>by obtain⟨d,e,q⟩:=Eh ht;obtain⟨v,e1,e2⟩:=r.val i d e;exact⟨v,e1,aq.refl H,d,e2,q⟩
def aa{i j pos}:Kn X (.Constant (.int i) j pos) (dC (.int i)):=Kn.of HK fun _ H _ _ _ _ q=>⟨aq.refl H,_,Den.int i,q⟩
def oM{i j pos}:Kn X (.Constant (.bool i) j pos) (dC (.bl i)):=Kn.of IW fun _ H _ _ _ _ q=>⟨aq.refl H,_,Den.bl i,q⟩
def jA{j pos}:Kn X (.Constant .none j pos) (dC .Kt):=Kn.of HL fun _ H _ _ _ _ q=>⟨aq.refl H,_,Den.Kt,q⟩
def GJ{x j pos}:Kn X (.Constant (.str x) j pos) (dC (.str x)):=Kn.of HM fun _ H _ _ _ _ q=>⟨aq.refl H,_,Den.str x,q⟩
abbrev RD2:=D->D->(D->Prop)->Prop
def LD(X:Cx)(f:Value->Value->Sem Value)(r:RD2):Prop :=
 ∀ (pins:yab) (s:Shared) (σ:St) (H:Hp) (W:Own) (x y:D) (v u:V) (vv uu:Value) (Q:D->Prop),Inv X pins σ H s->(∀t a,W.bad t a->∃o,H a=some o)->RelV v vv->RelV u uu->Den X.K W.bad H x v->Den X.K W.bad H y u->r x y Q →
  wpAny (model X.prog X.w) X.A (f vv uu) (DP X pins σ W H Q) X.xe s
def U6(r:RD2)(ta tb:DE):DE:=fun ρ Q=>ta ρ fun x=>tb ρ fun y=>r x y Q
def ya(ha:Kn X a ta)(hb:Kn X b tb){pins:yab}{s:Shared}{σ:St}{H:Hp}{W:Own}{ρ:Ro}{R:D->D->Prop}(I:Inv X pins σ H s)(r:Rel X W H σ ρ)(h:ta ρ fun x=>tb ρ fun y=>R x y)
  {α:Type} {Q:α->Shared->Prop} {f:Value->Value->Sem α}
  (hf:∀vv uu s2 v u x y H2,Inv X pins σ H2 s2->aq H H2->RelV v vv->RelV u uu->Den X.K W.bad H2 x v->Den X.K W.bad H2 y u->R x y->wpAny (model X.prog X.w) X.A (f vv uu) Q X.xe s2) :
  wpAny (model X.prog X.w) X.A (eval a X.env) (fun v J1=>wpAny (model X.prog X.w) X.A (eval b X.env) (fun u J2=>wpAny (model X.prog X.w) X.A (f v u) Q X.xe J2) X.xe J1) X.xe s:=by
 refine J0 (ha pins s σ H W ρ _ I r h) fun vv s1 J5=>?_
 obtain⟨v,H1,x,I1,rv,e1,hx,q1⟩:=J5;refine J0 (hb pins s1 σ H1 W ρ _ I1 (r.same e1) q1) fun uu s2 J5=>?_
 obtain⟨u,H2,y,I2,ru,e2,hy,q2⟩:=J5;exact hf vv uu s2 v u x y H2 I2 (e1.trans e2) rv ru (hx.same e2) hy q2
def DP.up(e:aq H H1)(h:DP X pins σ W H1 Q u s'):DP X pins σ W H Q u s':=by obtain⟨v,H',d,I,r,e1,hd,q⟩:=h;exact⟨v,H',d,I,r,e.trans e1,hd,q⟩
def ai{op:Operator}{r:RD2}(ho:LD X (binaryOp op) r)(ha:Kn X a ta)(hb:Kn X b tb):Kn X (.BinOp a op b pos) (U6 r ta tb):=by intro pins s σ H W ρ Q I rr h;refine wpAny_BinOp (ya ha hb I rr h fun vv uu s2 v u x y H2 I2 e rv ru hx hy q=>?_);exact J0 (ho pins s2 σ H2 W x y v u vv uu Q I2 (rr.same e).tracked rv ru hx hy q) fun _ _ z=>z.up e
def Iz{rd:D->(D->Prop)->Prop}(ho:YX X (unaryOp op) r)(ha:Kn X a ta)
  (k:∀P H d v Q,Den X.K P H d v->rd d Q->r v H fun v' H'=>aq H H'/\∃d',Den X.K P H' d' v'/\Q d'):Kn X (.UnaryOp op a pos) (fun ρ Q=>ta ρ fun x=>rd x Q):=by
 intro pins s σ H W ρ Q I rr h;refine UnaryOp_ (J0 (ha pins s σ H W ρ _ I rr h) fun vv s1 J5=>?_);obtain⟨v,H1,x,I1,rv,e1,hx,q1⟩:=J5;exact J0 (ho pins s1 σ H1 v vv _ I1 rv (k _ H1 x v Q hx q1)) fun u s2 K1=>(by obtain⟨w',H2,I2,r2,e2,d,hd,q2⟩:=K1;exact⟨w',H2,d,I2,r2,e1.trans e2,hd,q2⟩)
def uz(ta:DE):DE:=fun ρ Q=>ta ρ fun x=>∃i,x=.int i/\Q (.int (-i))
def bU(ha:Kn X a ta):Kn X (.UnaryOp .USub a pos) (uz ta) :=
 Iz (rd:=fun x Q=>∃i,x=.int i/\Q (.int (-i))) Ik ha fun P H d v Q hd ⟨i,e,q⟩=>by subst e;exact⟨i,hd.K3,aq.refl H,_,Den.int _,q⟩
def LD.of{rd:RD2}(h:Oh X f r)(k:∀P H x y v u Q,Den X.K P H x v->Den X.K P H y u->rd x y Q->r v u H fun v' H'=>aq H H'/\∃d',Den X.K P H' d' v'/\Q d'):LD X f rd:=by intro pins s σ H W x y v u vv uu Q I _ rv ru hx hy q;exact J0 (h pins s σ H v u vv uu _ I rv ru (k _ H x y v u Q hx hy q)) fun _ s2 K1=>(by obtain⟨w',H2,I2,r2,e2,d,hd,q2⟩:=K1;exact⟨w',H2,d,I2,r2,e2,hd,q2⟩)
def SR(C:Int->Int->Prop)(g:Int->Int->D):RD2:=fun x y Q=>match x,y with
 |.int i,.int j=>C i j/\Q (g i j)
 |_,_=>False
def fb(g:Int->Int->D):RD2:=fun x y Q=>match x,y with
 |.int i,.int j=>Q (g i j)
 |_,_=>False
def HV(h:SR C g x y Q):∃i j,x=.int i/\y=.int j/\C i j/\Q (g i j):=by
 unfold SR at h;split at h
 ·exact⟨_,_,rfl,rfl,h⟩
 ·exact h.elim
def mC(h:fb g x y Q):∃i j,x=.int i/\y=.int j/\Q (g i j):=by
 unfold fb at h;split at h
 ·exact⟨_,_,rfl,rfl,h⟩
 ·exact h.elim
def LD.X6{g:Int->Int->Int}(h:Oh X f (rI C fun i j=>.int (g i j))):LD X f (SR C fun i j=>.int (g i j)) :=
 LD.of h fun P H x y v u Q hx hy z=>by obtain⟨i,j,e1,e2,hc,q⟩:=HV z;subst e1 e2;exact⟨i,j,hx.K3,hy.K3,hc,aq.refl H,_,Den.int _,q⟩
def LD.Wh{g:Int->Int->Int}(h:Oh X f (RF fun i j=>.int (g i j))):LD X f (fb fun i j=>.int (g i j)) :=
 LD.of h fun P H x y v u Q hx hy z=>by obtain⟨i,j,e1,e2,q⟩:=mC z;subst e1 e2;exact⟨i,j,hx.K3,hy.K3,aq.refl H,_,Den.int _,q⟩
def LD.R5{g:Int->Int->Bool}(h:Oh X f (RF fun i j=>.bl (g i j))):LD X f (fb fun i j=>.bl (g i j)) :=
 LD.of h fun P H x y v u Q hx hy z=>by obtain⟨i,j,e1,e2,q⟩:=mC z;subst e1 e2;exact⟨i,j,hx.K3,hy.K3,aq.refl H,_,Den.bl _,q⟩
def Hv:LD X (binaryOp .Add) (fb fun i j=>.int (i+j)):=LD.Wh HD
def aX:LD X (binaryOp .Sub) (fb fun i j=>.int (i - j)):=LD.Wh HG
def dA:LD X (compareOp .Lt) (fb fun i j=>.bl (decide (i<j))):=LD.R5 IU
def DQ:LD X (compareOp .LtE) (fb fun i j=>.bl (decide (i<=j))):=LD.R5 IT
def pF:LD X (compareOp .Gt) (fb fun i j=>.bl (decide (j<i))):=LD.R5 IS
def IM:LD X (compareOp .GtE) (fb fun i j=>.bl (decide (j<=i))):=LD.R5 IQ
def Bd(n:Nat)(x:Int):Prop:=x.natAbs<2 ^ n
def Bd.mono{n:Nat}(h:Bd m x)(l:m<=n):Bd n x:=MV h (VC (by decide) l)
def Bd.mul(h:Bd m x)(h':Bd n y):Bd (m+n) (x*y):=by unfold Bd at *;rw[VQ,Nat.pow_add];exact Nat.mul_lt_mul'' h h'
def Bd.add(h:Bd m x)(h':Bd m y):Bd (m+1) (x+y):=by
 unfold Bd at *;rw[Pm];have:=Int.natAbs_add_le x y
 lia
def Bd.sub(h:Bd m x)(h':Bd m y):Bd (m+1) (x - y):=by
 unfold Bd at *;rw[Pm];have:=Int.natAbs_sub_le x y
 lia
def Bd.neg(h:Bd m x):Bd m (-x):=by unfold Bd at *;rw[Int.natAbs_neg];exact h
def Bd.bits(h:Bd n x):Builtin.Int.intBits x<=n:=by
 unfold Bd at h;unfold Builtin.Int.intBits;split
 ·exact Mx _
 ·rename_i hz;have hp:x.natAbs≠0:=by
   intro e;apply hz;have:x=0:=Int.natAbs_eq_zero.mp e;simp[this]
  have:=(Nat.log2_lt hp).mpr h
  lia
def CM(i j:Int):Prop:=Bd 64 i∨Bd 64 j∨(Bd 100000 i/\Bd 100000 j)
def CM.ok(h:CM i j):IntMulOk i j:=by
 rcases h with h|h|⟨h,h'⟩
 ·exact .of_left h.bits
 ·exact .of_right h.bits
 ·exact .of_bits (LZ h.bits (by decide)) (LZ h'.bits (by decide))
def Fg:Oh X (binaryOp .Mult) (rI CM fun i j=>.int (i*j)):=X2 fun _ _ _ _ _ _ _ hc q=>mul_int q hc.ok
def aE:LD X (binaryOp .Mult) (SR CM fun i j=>.int (i*j)):=LD.X6 Fg
def CD(_:Int)(j:Int):Prop:=j≠0/\Bd 8000 j
def CD.Y6(h:CD i j):Builtin.divisionGoesByPylong i j=false:=by
 refine PyProof.noPylong_of_log2 ?_;have hz:j.natAbs≠0:=fun e=>h.1 (Int.natAbs_eq_zero.mp e)
 have:=(Nat.log2_lt hz).mpr h.2
 lia
def CP:Oh X (binaryOp .FloorDiv) (rI CD fun i j=>.int (i.fdiv j)):=X2 fun _ _ _ _ _ _ _ hc q=>floordiv_int hc.1 q (.inl hc.Y6)
def b6:LD X (binaryOp .FloorDiv) (SR CD fun i j=>.int (i.fdiv j)):=LD.X6 CP
def bA:LD X (binaryOp .Mod) (SR (fun _ j=>j≠0) fun i j=>.int (i.fmod j)):=LD.X6 Fe
def pH:LD X (binaryOp .Pow) (SR Bw fun i j=>.int (i ^ j.toNat)):=LD.X6 HF
def dB(t:DE):DT:=fun ρ Q=>t ρ fun x=>∃k,x=.bl k/\Q k
def cT{op:CmpOp}{r:RD2}(ho:LD X (compareOp op) r)(ha:Kn X a ta)(hb:Kn X b tb)(hm:behindInMarks op b=false:=by first|exact u3 _ (by decide) (by decide)|rfl):Kn X (.Compare a [op] [b] pos) (U6 r ta tb):=by intro pins s σ H W ρ Q I rr h;refine wpAny_Compare1 (ya ha hb I rr h fun vv uu s2 v u x y H2 I2 e rv ru hx hy q=>?_) hm;exact J0 (ho pins s2 σ H2 W x y v u vv uu Q I2 (rr.same e).tracked rv ru hx hy q) fun _ _ z=>z.up e
def aK(ho:LD X (compareOp op) r)(ha:Kn X a ta)(hb:Kn X b tb)(hm:behindInMarks op b=false:=by first|exact u3 _ (by decide) (by decide)|rfl):O3 X (.Compare a [op] [b] pos) (dB (U6 r ta tb)):=by
 intro pins s σ H W ρ Q I rr h;refine wpAny_isTrue_Compare1 (J0 (ha pins s σ H W ρ _ I rr h) fun vv s1 ⟨v,H1,x,I1,rv,e1,hx,q1⟩=>J0 (hb pins s1 σ H1 W ρ _ I1 (rr.same e1) q1) fun uu s2 ⟨u,H2,y,I2,ru,e2,hy,q2⟩=>
  J0 (ho pins s2 σ H2 W x y v u vv uu _ I2 ((rr.same e1).same e2).tracked rv ru (hx.same e2) hy q2) fun c s3 ⟨z,H3,d,I3,r3,e3,hd,k,ek,q3⟩=>?_) hm
 subst ek;have hz:=hd.Q3;subst hz;cases r3;exact UR ⟨H3,I3,e1.trans (e2.trans e3),q3⟩
def dP(h:Kn X e t)(he:∀whole,isTrue e X.env whole=(do let v←whole;standAt e.pos;holding [v] (truthy v)):=by intro _;rfl):O3 X e (dB t):=by intro pins s σ H W ρ Q I rr hw;refine isTrue_plain (J0 (h pins s σ H W ρ _ I rr hw) fun vv s1 J5=>?_) (he _);obtain⟨v,H1,x,I1,rv,e1,hx,k,ek,q⟩:=J5;subst ek;have hz:=hx.Q3;subst hz;cases rv;exact UR ⟨H1,I1,e1,q⟩
variable{tA V2:DT}{rest:yai}
def Gm(t u:DT):DT:=fun ρ Q=>t ρ fun c=>if c=true then u ρ Q else Q false
def dOr(t u:DT):DT:=fun ρ Q=>t ρ fun c=>if c=true then Q true else u ρ Q
def Gx(t:DT):DT:=fun ρ Q=>t ρ fun c=>Q (!c)
def xf(ha:O3 X a tA):OB X (.BoolOp .And [a] pos) tA:=by
 intro wh pins s σ H W ρ Q I rr h;refine isTrue_and (J0 (ha pins s σ H W ρ Q I rr h) fun c s1 e=>?_);cases c with
 |true=>exact isTrue_and_nil e
 |false=>exact e
def gA(ha:O3 X a tA):OB X (.BoolOp .Or [a] pos) tA:=by
 intro wh pins s σ H W ρ Q I rr h;refine isTrue_or (J0 (ha pins s σ H W ρ Q I rr h) fun c s1 e=>?_);cases c with
 |false=>exact isTrue_or_nil e
 |true=>exact e
def Aa(ha:O3 X a tA)(hb:OB X (.BoolOp .And (b::rest) pos) V2):OB X (.BoolOp .And (a::b::rest) pos) (Gm tA V2):=by
 intro wh pins s σ H W ρ Q I rr h;refine isTrue_and (J0 (ha pins s σ H W ρ _ I rr h) fun c s1 J5=>?_);obtain⟨H1,I1,e1,q1⟩:=J5;cases c with
 |true=>exact J0 (hb wh pins s1 σ H1 W ρ Q I1 (rr.same e1) q1) fun _ _ K1=>(by obtain⟨H2,I2,e2,q2⟩:=K1;exact⟨H2,I2,e1.trans e2,q2⟩)
 |false=>exact⟨H1,I1,e1,q1⟩
def dX(ha:O3 X a tA)(hb:OB X (.BoolOp .Or (b::rest) pos) V2):OB X (.BoolOp .Or (a::b::rest) pos) (dOr tA V2):=by
 intro wh pins s σ H W ρ Q I rr h;refine isTrue_or (J0 (ha pins s σ H W ρ _ I rr h) fun c s1 J5=>?_);obtain⟨H1,I1,e1,q1⟩:=J5;cases c with
 |true=>exact⟨H1,I1,e1,q1⟩
 |false=>exact J0 (hb wh pins s1 σ H1 W ρ Q I1 (rr.same e1) q1) fun _ _ K1=>(by obtain⟨H2,I2,e2,q2⟩:=K1;exact⟨H2,I2,e1.trans e2,q2⟩)
def gz(ha:O3 X a tA):O3 X (.UnaryOp .Not a pos) (Gx tA):=by intro pins s σ H W ρ Q I rr h;exact isTrue_not (ha pins s σ H W ρ (fun c=>Q (!c)) I rr h)
def Dw(ta tb:DE):DE:=fun ρ Q=>ta ρ fun x=>∃c,x=.bl c/\if c=true then tb ρ Q else Q (.bl false)
def DB(ta:DE):DE:=fun ρ Q=>ta ρ fun x=>∃c,x=.bl c/\Q (.bl (!c))
def oN{op}(h:Kn X a t):Kn X (.BoolOp op [a] pos) t:=fun pins s σ H W ρ Q I rr hw=>BoolOp_one (h pins s σ H W ρ Q I rr hw)
def oK(ha:Kn X a ta)(hb:Kn X (.BoolOp .And (b::rest) pos) tb):Kn X (.BoolOp .And (a::b::rest) pos) (Dw ta tb):=by
 intro pins s σ H W ρ Q I rr h;refine BoolOp_and (J0 (ha pins s σ H W ρ _ I rr h) fun vv s1 J5=>?_);obtain⟨v,H1,x,I1,rv,e1,hx,c,ec,q1⟩:=J5;subst ec;have hz:=hx.Q3;subst hz;cases rv;refine UR ?_;cases c with
 |true=>exact J0 (hb pins s1 σ H1 W ρ Q I1 (rr.same e1) q1) fun _ _ z=>z.up e1
 |false=>exact⟨.bl false,H1,_,I1,rfl,e1,Den.bl _,q1⟩
def uG(ha:Kn X a ta):Kn X (.UnaryOp .Not a pos) (DB ta):=by intro pins s σ H W ρ Q I rr h;refine UnaryOp_ (J0 (ha pins s σ H W ρ _ I rr h) fun vv s1 J5=>?_);obtain⟨v,H1,x,I1,rv,e1,hx,c,ec,q1⟩:=J5;subst ec;have hz:=hx.Q3;subst hz;cases rv;exact not_of (UR ⟨.bl (!c),H1,_,I1,rfl,e1,Den.bl _,q1⟩)
def dIf(t:DT)(ta tb:DE):DE:=fun ρ Q=>t ρ fun c=>if c=true then ta ρ Q else tb ρ Q
def uF(hc:O3 X c tA)(ha:Kn X a ta)(hb:Kn X b tb):Kn X (.IfExp c a b pos) (dIf tA ta tb):=by
 intro pins s σ H W ρ Q I rr h;refine wpAny_IfExp (J0 (hc pins s σ H W ρ _ I rr h) fun d s1 J5=>?_);obtain⟨H1,I1,e1,q1⟩:=J5;cases d with
 |true=>exact J0 (ha pins s1 σ H1 W ρ Q I1 (rr.same e1) q1) fun _ _ z=>z.up e1
 |false=>exact J0 (hb pins s1 σ H1 W ρ Q I1 (rr.same e1) q1) fun _ _ z=>z.up e1
def qY:RD2:=fun x y Q=>match x,y with
 |.tup ds,.int i=>∃d,Me ds i=some d/\Q d
 |.lst _ ds,.int i=>∃d,Me ds i=some d/\Q d
 |_,_=>False
def Fu(h:qY x y Q):∃ds i d,(x=.tup ds∨∃ t,x=.lst t ds)/\y=.int i/\Me ds i=some d/\Q d:=by
 unfold qY at h;split at h
 ·obtain⟨d,h⟩:=h;exact⟨_,_,d,.inl rfl,rfl,h⟩
 ·obtain⟨d,h⟩:=h;exact⟨_,_,d,.inr ⟨_,rfl⟩,rfl,h⟩
 ·exact h.elim
def ub{K:yac}{P:yak}{H:Hp}{ds:yas}{vs:yar}{i:Int}{d:D}(h:af K P H ds vs)(e:Me ds i=some d):∃v,Me vs i=some v/\Den K P H d v:=by
 unfold Me at e ⊢;rw[h.len];cases q:ixN ds.length i with
 |none=>rw[q]at e;cases e
 |some j =>
  rw[q]at e;exact h.get e
def ak(ha:Kn X a ta)(hb:Kn X b tb)(hs:Ea b:=by intro _ _;rfl):Kn X (.Subscript a b pos) (U6 qY ta tb):=by
 intro pins s σ H W ρ Q I rr h;refine Subscript_ (ya ha hb I rr h fun vv uu s2 v u x y H2 I2 e rv ru hx hy q=>?_)
 replace q:=Fu q
 obtain⟨ds,i,d,ex,ey,ei,q⟩:=q;subst ey;have hu:=hy.K3;subst hu;have fin:∀(v':V),Den X.K W.bad H2 d v'->aq H2 H2/\∃d',Den X.K W.bad H2 d' v'/\Q d':=fun v' hd=>⟨aq.refl _,d,hd,q⟩
 rcases ex with ex|⟨tg,ex⟩
 ·subst ex;obtain⟨p,vs,ev,hq,hd⟩:=hx.N1;subst ev;obtain⟨v',e1,e2⟩:=ub hd ei;exact J0 (Hi a b pins s2 σ H2 _ _ vv uu (fun v' H'=>aq H2 H'/\∃d',Den X.K W.bad H' d' v'/\Q d') I2 rv ru ⟨p,vs,i,v',rfl,rfl,hq.w,e1,fin v' e2⟩ (hs _ _))
   fun _ s3 K1=>(by obtain⟨w',H3,I3,r3,e3,d',Pd,q'⟩:=K1;exact⟨w',H3,d',I3,r3,e.trans e3,Pd,q'⟩)
 ·subst ex;obtain⟨p,vs,ev,_,hq,hd⟩:=hx.MR;subst ev;obtain⟨v',e1,e2⟩:=ub hd ei;exact J0 (EL a b pins s2 σ H2 _ _ vv uu (fun v' H'=>aq H2 H'/\∃d',Den X.K W.bad H' d' v'/\Q d') I2 rv ru ⟨p,vs,i,v',rfl,rfl,hq,e1,fin v' e2⟩ (hs _ _))
   fun _ s3 K1=>(by obtain⟨w',H3,I3,r3,e3,d',Pd,q'⟩:=K1;exact⟨w',H3,d',I3,r3,e.trans e3,Pd,q'⟩)
end
section
variable{X:Cx}{e:Expr}{es:yai}{te:DE}{t:DA}{pos:Pos}
def uA:DA:=fun _ Q=>Q []
def oI(ta:DE)(tr:DA):DA:=fun ρ Q=>ta ρ fun x=>tr ρ fun xs=>Q (x::xs)
def ag:OC X [] uA:=fun _ _ _ _ H W ρ Q I _ h=>Calls.spliced_nil ⟨[],H,[],I,.nil,aq.refl H,af.nil,h⟩
def ae(ha:Kn X e te)(hr:OC X es t)(hs:starEach (e::es) X.env=(false,eval e X.env)::starEach es X.env:=by rfl):OC X (e::es) (oI te t):=by intro pos pins s σ H W ρ Q I rr h;rw[hs];show wpAny _ _ (spliced ((false,eval e X.env)::backTo pos (starEach es X.env))) _ _ s;refine Calls.spliced_cons (J0 (ha pins s σ H W ρ _ I rr h) fun u s1 J5=>?_);obtain⟨v,H1,x,I1,r1,e1,hx,q1⟩:=J5;exact J0 (hr pos pins s1 σ H1 W ρ _ I1 (rr.same e1) q1) fun us s2 K1=>(by obtain⟨vs,H2,xs,I2,r2,e2,X7,q2⟩:=K1;exact⟨v::vs,H2,x::xs,I2,.cons r1 r2,e1.trans e2,af.cons (hx.same e2) X7,q2⟩)
theorem aq.upd{H:Hp}(h:H p=none)(n:NT o:=by exact True.intro):aq H (upd H p o):=⟨fun b u e _=>by rw[aw (bf e h)];exact e,fun b ps e=>⟨#[],by rw[aw (bf e h),e];simp⟩,dW.upd n (.inl h)⟩
def GF(t:DA):DE:=fun ρ Q=>t ρ fun ds=>ds.length<=sizeLine/\Q (.tup ds)
def BS(t:DA):DE:=fun ρ Q=>t ρ fun ds=>ds.length<=sizeLine/\Q (.lst true ds)
def bO{x1}(h:OC X es t):Kn X (.Tuple es x1 pos) (GF t):=by intro pins s σ H W ρ Q I rr hq;refine wpAny_Tuple_spliced (J0 (h pos pins s σ H W ρ _ I rr hq) fun us s1 J5=>?_);obtain⟨vs,H1,ds,I1,r,e1,hd,z,q⟩:=J5;rw[<- hd.len]at z;refine⟨by rw[<- r.length];exact z,?_⟩;have hf:H1 s1.heap.objs.size=none:=I1.Ku.fresh (KO _);refine⟨.ref s1.heap.objs.size,L2.upd H1 s1.heap.objs.size (.tup vs),_,I1.laid (t':=s1.toks) (fun b u e=>Mv _ e) (KO _) ⟨z,us,r,⟨_,Ou _ rfl,rfl,_,rfl⟩⟩,rfl,e1.trans (aq.upd hf),Den.tup (Le.of aO) (hd.same (aq.upd hf)),q⟩
def Inv.Mj(I:Inv X pins σ H s):X.K.lookup s.heap.objs.size=none:=by
 cases e:X.K.lookup s.heap.objs.size with
 |none=>rfl
 |some o=>exact absurd (LC (I.NX _ _ e)) (Qw _)
def iD(h:OC X es t):Kn X (.List es pos) (BS t):=by
 intro pins s σ H W ρ Q I rr hq;refine wpAny_List_spliced (J0 (h pos pins s σ H W ρ _ I rr hq) fun us s1 J5=>?_);obtain⟨vs,H1,ds,I1,r,e1,hd,z,q⟩:=J5;rw[<- hd.len]at z;refine⟨by rw[<- r.length];exact z,?_⟩;have hf:H1 s1.heap.objs.size=none:=I1.Ku.fresh (KO _);exact⟨.ref s1.heap.objs.size,L2.upd H1 s1.heap.objs.size (.lst vs),_,I1.laid (t':=s1.toks) (fun b u e=>Mv _ e) (KO _) ⟨z,us,0,r,Ou _ rfl⟩,rfl,e1.trans (aq.upd hf),
  Den.lst ((rr.same e1).fresh hf) (.new aO (Inv.Mj I1)) (hd.same (aq.upd hf)),q⟩
end
abbrev DSp:=yas->(D->Prop)->(Value->Prop)->Prop
def aJ(K:yac)(sp:DSp):Sp:=fun vs H Q E=>∃(P:Addr->Prop) (ds:yas) (Qd:D->Prop) (Ed:Value->Prop),jc K H/\(∀a,P a->∃o,H a=some o)/\af K (fun t a=>t=true∨P a) H ds vs/\sp ds Qd Ed ∧
 (∀d v H',aq H H'->Den K (fun t a=>P a∨(t=true/\∃o,H a=some o)) H' d v->Qd d->Q v H')/\∀c a H',aq H H'->Ed c->E c a H'
mutual
def aT:D->D
 |.tup ds=>.tup (aY ds)
 |.lst _ ds=>.lst false (aY ds)
 |.obj C ns ds=>.obj C ns (aY ds)
 |.OA=>.OA
 |.NZ ks ds=>.NZ ks (aY ds)
 |.Kt=>.Kt|.bl b=>.bl b|.int i=>.int i|.str x=>.str x|.exc c=>.exc c
def aY:yas->yas
 |[]=>[]
 |d::ds=>aT d::aY ds
end
section
variable{K:yac}{P:yak}{P':Addr->Prop}{H:Hp}
mutual
theorem Den.aT(h:∀t a,P' a->P t a):∀(d:D) (v:V),Den K P H d v->Den K (fun t a=>t=true∨P' a) H (PD.aT d) v
 |.Kt,_,q=>by simpa only[Den,PD.aT]using q
 |.bl _,_,q=>by simpa only[Den,PD.aT]using q
 |.int _,_,q=>by simpa only[Den,PD.aT]using q
 |.str _,_,q=>by simpa only[Den,PD.aT]using q
 |.exc _,_,q=>by simpa only[Den,PD.aT]using q
 |.tup ds,_,q=>by simp only[Den,PD.aT]at q ⊢;obtain⟨a,vs,e,q1,q2⟩:=q;exact⟨a,vs,e,q1,af.aT h ds vs q2⟩
 |.obj C ns ds,_,q=>by simp only[Den,PD.aT]at q ⊢;obtain⟨a,dx,vs,e,q1,l,k,q2⟩:=q;exact⟨a,dx,vs,e,q1,l,k,af.aT h ds vs q2⟩
 |.OA,_,q=>by simpa only[Den,PD.aT]using q
 |.NZ ks ds,_,q=>by simp only[Den,PD.aT]at q ⊢;obtain⟨a,o,KP,vs,e,q1,l,k,q2⟩:=q;exact⟨a,o,KP,vs,e,q1,l,k,af.aT h ds vs q2⟩
 |.lst t ds,_,q=>by simp only[Den,PD.aT]at q ⊢;obtain⟨a,vs,e,p,q1,q2⟩:=q;exact⟨a,vs,e,fun z=>z.elim (fun z=>by cases z) fun z=>p (h t a z),.any q1.1,af.aT h ds vs q2⟩
theorem af.aT(h:∀t a,P' a->P t a):∀(ds:yas) (vs:yar),af K P H ds vs->af K (fun t a=>t=true∨P' a) H (PD.aY ds) vs
 |[],_,q=>by simpa only[af,PD.aY]using q
 |d::ds,_,q=>by simp only[af,PD.aY]at q ⊢;obtain⟨v,r,e,h1,h2⟩:=q;exact⟨v,r,e,Den.aT h d v h1,af.aT h ds r h2⟩
end
end
def Den.back{K:yac}{W:Own}{H H':Hp}{d:D}{v:V}(tr:∀t a,W.bad t a->∃o,H a=some o)(h:Den K (fun t a=>W.bad false a∨(t=true/\∃o,H a=some o)) H' d v):Den K W.bad H' d v :=
 h.Kw fun t a z=>by
  cases t with
  |false=>exact .inl z
  |true=>exact .inr ⟨rfl,tr true a z⟩
section
variable{X:Cx}{CX:CXT}{k:Nat}{f:Addr}{fd:FuncData}{ps:yah}{sp:DSp}{x:Str}{p pos:Pos}{e:Expr}{es:yai}{t:DA}
def lW(sp:DSp)(dds:yas)(t:DA):DE:=fun ρ Q=>t ρ fun ds=>sp (aY ds++dds) Q fun _=>False
def nu:D->V
 |.Kt=>.Kt|.bl b=>.bl b|.int i=>.int i|.str x=>.str x|_=>.Kt
def tP:D->Prop
 |.tup _=>False|.lst _ _=>False|.exc _=>False|.obj _ _ _=>False|.OA=>False|.NZ _ _=>False|_=>True
theorem af.rn{K:yac}{P:yak}{H:Hp}:∀{dds:yas},(∀d∈dds,tP d)->af K P H dds (dds.map nu)
 |[],_=>af.nil
 |d::r,h=>by
  refine af.cons ?_ (af.rn fun x hx=>h x (K0 _ hx));have:=h d MC;cases d with
  |Kt=>exact Den.Kt
  |bl b=>exact Den.bl b
  |int i=>exact Den.int i
  |str x=>exact Den.str x
  |tup _=>exact this.elim
  |lst _ _=>exact this.elim
  |exc _=>exact this.elim
  |obj _ _ _=>exact this.elim
  |OA=>exact this.elim
  |NZ _ _=>exact this.elim
def DW {dds : yas} (F : aI X.prog X.w X.K X.mg X.base CX k f fd ps (aJ X.K sp)) (hr : bB k X.A) (hb : Binds X.K fd ps dsv) (hd : Vals (dds.map nu) dsv) (hs : ∀ d ∈ dds, tP d) (hx : Passes CX X E0)
 (I : Inv X pins σ H s) (rr : Rel X W H σ ρ) (r : Vals vs us) (LJ : af X.K W.bad H ds vs)
  (q : sp (aY ds ++ dds) Q fun _ => False) : wpAny (model X.prog X.w) X.A (call (.ref f) us) (DP X pins σ W H Q) X.xe s := by
 refine J0 (HZ (Q := fun v H' => aq H H' /\ ∃ d, Den X.K W.bad H' d v /\ Q d) F hr hb hd hx I r ⟨W.bad false, aY ds ++ dds, Q, fun _ => False, rr.tab, rr.tracked false, (af.aT (fun _ _ => Own.Pt) ds vs LJ).append (af.rn hs), q, fun d v H' e h1 h2 => ⟨e, d, Den.back rr.tracked h1, h2⟩, fun _ _ _ _ z => z.elim⟩)
  fun u s2 K1 => (by obtain ⟨v, H2, I2, r2, e2, d, h1, h2⟩ := K1; exact ⟨v, H2, d, I2, r2, e2, h1, h2⟩)
def uD{dds:yas}(F:aI X.prog X.w X.K X.mg X.base CX k f fd ps (aJ X.K sp))(hr:bB k X.A)(hg:Gl X x)(hm:X.mg x=some (.ref f))(hk:PySem.W.keepIn X.K (.ref f)=true)(hb:Binds X.K fd ps dsv)(hd:Vals (dds.map nu) dsv)(hs:∀d∈dds,tP d)(hx:Passes CX X E0)
  (ha:OC X (e::es) t) (NB:(x==("__debug__" : Str))=false:=by decide) (he:starEach (e::es) X.env=(false,eval e X.env)::starEach es X.env:=by rfl) (Lr:(backTo pos (starEach es X.env)).any (·.1)=false:=by rfl) :
  Kn X (.Call (.Name x p) (e::es) [] pos) (lW sp dds t):=by
 intro pins s σ H W ρ Q I rr h;refine RA (iw I hg hm ?_ NB);refine PySem.W.callWith_K (h₀:=X.base) I.ok.mod.Nm hk (J0 (ha pos pins s σ H W ρ _ I rr h) fun us s1 ⟨vs,H1,ds,I1,r,e1,LJ,q⟩=>⟨I1.NX,?_⟩) he Lr;exact J0 (DW F hr hb hd hs hx I1 (rr.same e1) r LJ q) fun _ _ z=>z.up e1
def Y7(r:yas->(D->Prop)->Prop)(t:DA):DE:=fun ρ Q=>t ρ fun ds=>r ds Q
def dg(X:Cx)(f:Value)(r:yas->(D->Prop)->Prop):Prop :=
 ∀ (pins:yab) (s:Shared) (σ:St) (H:Hp) (W:Own) (ds:yas) (vs:yar) (us:yad) (Q:D->Prop),Inv X pins σ H s->(∀t a,W.bad t a->∃o,H a=some o)->Vals vs us->af X.K W.bad H ds vs->r ds Q →
  wpAny (model X.prog X.w) X.A (call f us) (DP X pins σ W H Q) X.xe s
def dg.of{f:Value}{rd:yas->(D->Prop)->Prop}(h:jP X f r)(k:∀P H ds vs Q,(∀t a,P t a->∃o,H a=some o)->af X.K P H ds vs->rd ds Q->r vs H fun v' H'=>aq H H'/\∃d',Den X.K P H' d' v'/\Q d'):dg X f rd:=by intro pins s σ H W ds vs us Q I tr r hd q;exact J0 (h pins s σ H vs us _ I r (k _ H ds vs Q tr hd q)) fun _ s2 K1=>(by obtain⟨w',H2,I2,r2,e2,d,hd,q2⟩:=K1;exact⟨w',H2,d,I2,r2,e2,hd,q2⟩)
variable{id T:String}{r:yas->(D->Prop)->Prop}
def br (hc:dg X (.builtin id) r) (hg:Gl X x) (hm:X.mg x=none) (hv:bootBuiltins x=some (.builtin id)) (ha:OC X (e::es) t) (hn:x ≠ "__name__" := by decide) (NB:(x==("__debug__" : Str))=false:=by decide)
  (MT:starEach (e::es) X.env=(false,eval e X.env)::starEach es X.env:=by rfl) (Lr:(backTo pos (starEach es X.env)).any (·.1)=false:=by rfl) :
  Kn X (.Call (.Name x p) (e::es) [] pos) (Y7 r t):=by
 intro pins s σ H W ρ Q I rr h;refine RA (dQ I hg hm hv ?_ hn NB);exact PyProof.Rows.callWith_builtin1 (J0 (ha pos pins s σ H W ρ _ I rr h) fun us s1 K1=>(by obtain⟨vs,H1,ds,I1,rv,e1,hd,q⟩:=K1;exact J0 (hc pins s1 σ H1 W ds vs us Q I1 (rr.same e1).tracked rv hd q) fun _ _ z=>z.up e1)) MT Lr
def gw (hc:dg X (.type T) r) (hg:Gl X x) (hm:X.mg x=none) (hv:bootBuiltins x=some (.type T)) (ha:OC X (e::es) t) (hn:x ≠ "__name__" := by decide) (NB:(x==("__debug__" : Str))=false:=by decide)
  (MT:starEach (e::es) X.env=(false,eval e X.env)::starEach es X.env:=by rfl) (Lr:(backTo pos (starEach es X.env)).any (·.1)=false:=by rfl) :
  Kn X (.Call (.Name x p) (e::es) [] pos) (Y7 r t):=by
 intro pins s σ H W ρ Q I rr h;refine RA (dQ I hg hm hv ?_ hn NB);exact PyProof.Rows.callWith_type1 (J0 (ha pos pins s σ H W ρ _ I rr h) fun us s1 K1=>(by obtain⟨vs,H1,ds,I1,rv,e1,hd,q⟩:=K1;exact J0 (hc pins s1 σ H1 W ds vs us Q I1 (rr.same e1).tracked rv hd q) fun _ _ z=>z.up e1)) MT Lr
end
mutual
def LG:D->PyData
 |.Kt=>.none
 |.bl b=>.bool b
 |.int i=>.int i
 |.str x=>.str x
 |.tup ds=>.tuple (bW ds)
 |.lst _ ds=>.list (bW ds)
 |.exc _=>.none
 |.obj _ _ _=>.none
 |.NZ _ _=>.none
 |.OA=>.none
def bW:yas->List PyData
 |[]=>[]
 |d::ds=>LG d::bW ds
end
mutual
def OR:D->Bool
 |.tup ds=>j6 ds
 |.lst _ ds=>j6 ds
 |.exc _=>false
 |.obj _ _ _=>false
 |.NZ _ _=>false
 |.OA=>false
 |_=>true
def j6:yas->Bool
 |[]=>true
 |d::ds=>OR d && j6 ds
end
def eqD(x y:D):Bool:=PyData.eqv (LG x) (LG y)
def okD(x:D):Prop:=OR x=true/\SeqAt.shaped (LG x)=true
section
variable{X:Cx}{pins:yab}{σ:St}{H:Hp}{s:Shared}{P:yak}
mutual
theorem cU(I:Inv X pins σ H s):∀(d:D) (v:V) (u:Value),Den X.K P H d v->RelV v u->OR d=true->∃as,Reads s.heap u (LG d) as
 |.Kt,_,_,h,r,_=>by have e:=h.R3;subst e;cases r;rw[LG];exact⟨_,.none⟩
 |.bl b,_,_,h,r,_=>by have e:=h.Q3;subst e;cases r;rw[LG];exact⟨_,.bool b⟩
 |.int i,_,_,h,r,_=>by have e:=h.K3;subst e;obtain⟨t,rfl⟩:=r;rw[LG];exact⟨_,.int i t⟩
 |.str x,_,_,h,r,_=>by have e:=h.R4;subst e;obtain⟨t,rfl⟩:=r;rw[LG];exact⟨_,.str x t⟩
 |.tup ds,_,_,h,r,pl=>by rw[OR]at pl;obtain⟨a,vs,e,hq,hd⟩:=h.N1;subst e;cases r;obtain⟨JZ,rv,⟨o,h1,h2,n,h3⟩,_⟩:=I.tuple hq.w;obtain⟨as,q⟩:=jV I ds vs JZ hd rv pl;rw[LG];exact⟨as,reads_tuple_at h1 h2 h3 (by simpa using q)⟩
 |.lst _ ds,_,_,h,r,pl=>by rw[OR]at pl;obtain⟨a,vs,e,_,hq,hd⟩:=h.MR;subst e;cases r;obtain⟨JZ,rv,⟨o,n,h1,h2,_,h3⟩,_⟩:=I.list hq;obtain⟨as,q⟩:=jV I ds vs JZ hd rv pl;rw[LG];exact⟨_,reads_list_at h1 h2 h3 (by simpa using q)⟩
 |.exc _,_,_,_,_,pl=>by rw[OR]at pl;cases pl
 |.obj _ _ _,_,_,_,_,pl=>by rw[OR]at pl;cases pl
 |.NZ _ _,_,_,_,_,pl=>by rw[OR]at pl;cases pl
 |.OA,_,_,_,_,pl=>by rw[OR]at pl;cases pl
theorem jV(I:Inv X pins σ H s):∀(ds:yas) (vs:yar) (us:yad),af X.K P H ds vs->Vals vs us->j6 ds=true->∃as,ReadsAll s.heap us (bW ds) as
 |[],_,_,h,r,_=>by simp only[af]at h;subst h;cases r;rw[bW];exact⟨_,.nil⟩
 |d::ds,_,_,h,r,pl=>by
  rw[j6,RB]at pl;simp only[af]at h;obtain⟨v,r',rfl,h1,h2⟩:=h;cases r with
  |cons ra rb =>
   obtain⟨as,q⟩:=cU I d v _ h1 ra pl.1;obtain⟨bs,q'⟩:=jV I ds _ _ h2 rb pl.2;rw[bW];exact⟨_,.cons q q'⟩
end
def HU:RD2:=fun x y Q=>okD x/\okD y/\Q (.bl (eqD x y))
def HW:RD2:=fun x y Q=>okD x/\okD y/\Q (.bl (!eqD x y))
def yG(hu:X.A.units+64<cLine):LD X (compareOp .Eq) HU:=by intro pins s σ H W x y v u vv uu Q I _ rv ru hx hy q;obtain⟨h1,h2,q⟩:=q;obtain⟨as,ra⟩:=cU I x v vv hx rv h1.1;obtain⟨bs,rb⟩:=cU I y u uu hy ru h2.1;exact eq_dataH ra rb h1.2 h2.2 hu ⟨.bl _,H,_,I,rfl,aq.refl H,Den.bl _,q⟩
def yH(hu:X.A.units+64<cLine):LD X (compareOp .NotEq) HW:=by intro pins s σ H W x y v u vv uu Q I _ rv ru hx hy q;obtain⟨h1,h2,q⟩:=q;obtain⟨as,ra⟩:=cU I x v vv hx rv h1.1;obtain⟨bs,rb⟩:=cU I y u uu hy ru h2.1;exact ne_dataH ra rb h1.2 h2.2 hu ⟨.bl _,H,_,I,rfl,aq.refl H,Den.bl _,q⟩
def bP:LD X (compareOp .Eq) (fb fun i j=>.bl (decide (i=j))):=LD.of IP fun P H x y v u Q hx hy z=>by obtain⟨i,j,e1,e2,q⟩:=mC z;subst e1 e2;have a:=hx.K3;have b:=hy.K3;subst a b;refine⟨rfl,aq.refl H,_,Den.bl _,?_⟩;rw[show decide (V.int i=V.int j)=decide (i=j)from by rw[l5];rfl];exact q
def lh:LD X (compareOp .NotEq) (fb fun i j=>.bl (!decide (i=j))):=LD.of IV fun P H x y v u Q hx hy z=>by obtain⟨i,j,e1,e2,q⟩:=mC z;subst e1 e2;have a:=hx.K3;have b:=hy.K3;subst a b;refine⟨rfl,aq.refl H,_,Den.bl _,?_⟩;rw[show decide (V.int i=V.int j)=decide (i=j)from by rw[l5];rfl];exact q
def j4:D->Bool
 |.Kt=>true
 |_=>false
def zW{K:yac}{d:D}{v:V}(h:Den K P H d v):decide (v=.Kt)=j4 d:=by
 cases d with
 |Kt=>have:=h.R3;subst this;rfl
 |bl b=>have:=h.Q3;subst this;rfl
 |int b=>have:=h.K3;subst this;rfl
 |str b=>have:=h.R4;subst this;rfl
 |tup ds=>obtain⟨a,vs,e,_⟩:=h.N1;subst e;rfl
 |lst _ ds=>obtain⟨a,vs,e,_⟩:=h.MR;subst e;rfl
 |exc c=>obtain⟨a,e,_⟩:=h.TZ;subst e;rfl
 |obj C ns ds=>obtain⟨a,dx,vs,e,_⟩:=h.TY;subst e;rfl
 |OA=>obtain⟨a,e,_⟩:=h.Wf;subst e;rfl
 |NZ ks ds=>obtain⟨a,_,_,vs,e,_⟩:=h.Wg;subst e;rfl
def pG:LD X (compareOp .Is) (fun x y Q=>y=.Kt/\Q (.bl (j4 x))):=LD.of HE fun P H x y v u Q hx hy ⟨e,q⟩=>by subst e;refine⟨hy.R3,aq.refl H,_,Den.bl _,?_⟩;rw[zW hx];exact q
end
section
variable{X:Cx}
def ue:dg X (.builtin "abs") (fun ds Q=>∃i:Int,ds=[.int i]/\Q (.int (i.natAbs:Int))):=dg.of BM fun P H ds vs Q _ hd ⟨i,e,q⟩=>by
 subst e;obtain⟨v,r,rfl,h1,h2⟩:∃v r,vs=v::r/\Den X.K P H (.int i) v/\af X.K P H [] r:=by simpa only[af]using hd
 have e1:=h1.K3;have e2:r=[]:=by simpa only[af]using h2
 subst e1 e2;refine⟨i,rfl,aq.refl H,_,Den.int _,?_⟩;have:(if i<0 then -i else i)=(i.natAbs:Int):=by split<;>lia
 rw[this];exact q
def yo{K:yac}{P:yak}{H:Hp}{x y:D}{vs:yar}(h:af K P H [x,y] vs):∃v u,vs=[v,u]/\Den K P H x v/\Den K P H y u:=by simp only[af]at h;obtain⟨v,r,e,h1,u,r',e',h2,e''⟩:=h;subst e' e'' e;exact⟨v,u,rfl,h1,h2⟩
def l6{K:yac}{P:yak}{H:Hp}{x:D}{vs:yar}(h:af K P H [x] vs):∃v,vs=[v]/\Den K P H x v:=by simp only[af]at h;obtain⟨v,r,e,h1,e'⟩:=h;subst e' e;exact⟨v,rfl,h1⟩
def zJ (hc:X.calm=true):dg X (.builtin "min") (fun ds Q=>∃i j:Int,ds=[.int i,.int j]/\Q (.int (min i j))):=dg.of (zH hc) fun P H ds vs Q _ hd ⟨i,j,e,q⟩=>by
 subst e;obtain⟨v,u,rfl,h1,h2⟩:=yo hd;have e1:=h1.K3;have e2:=h2.K3;subst e1 e2;refine⟨i,j,rfl,aq.refl H,_,Den.int _,?_⟩;have:(if j<i then j else i)=min i j:=by split<;>lia
 rw[this];exact q
def eX:dg X (.builtin "len") (fun ds Q=>∃xs,((∃t,ds=[.lst t xs])∨ds=[.tup xs])/\Q (.int (xs.length:Int))):=dg.of uc fun P H ds vs Q _ hd ⟨xs,e,q⟩=>by
 rcases e with⟨tg,e⟩| e
 ·subst e;obtain⟨v,rfl,h1⟩:=l6 hd;obtain⟨a,ws,e,_,hq,hw⟩:=h1.MR;subst e;refine⟨a,ws,rfl,.inl hq,aq.refl H,_,Den.int _,?_⟩;rw[hw.len];exact q
 ·subst e;obtain⟨v,rfl,h1⟩:=l6 hd;obtain⟨a,ws,e,hq,hw⟩:=h1.N1;subst e;refine⟨a,ws,rfl,.inr hq.w,aq.refl H,_,Den.int _,?_⟩;rw[hw.len];exact q
def kS:dg X (.type "int") (fun ds Q=>(∃i:Int,ds=[.int i]/\Q (.int i))∨∃ k:Bool,ds=[.bl k]/\Q (.int (if k then 1 else 0))):=dg.of zG fun P H ds vs Q _ hd h=>by
 rcases h with⟨i,e,q⟩| ⟨k,e,q⟩
 ·subst e;obtain⟨v,rfl,h1⟩:=l6 hd;have e1:=h1.K3;subst e1;exact .inl ⟨i,rfl,aq.refl H,_,Den.int _,q⟩
 ·subst e;obtain⟨v,rfl,h1⟩:=l6 hd;have e1:=h1.Q3;subst e1;exact .inr ⟨k,rfl,aq.refl H,_,Den.int _,q⟩
def Ql:D->String
 |.Kt => "NoneType" | .bl _ => "bool" | .int _ => "int" | .str _ => "str" | .tup _ => "tuple" | .lst _ _ => "list" | .exc _ => "object" | .obj _ _ _ => "object" | .OA => "dict" | .NZ _ _ => "dict"
def RG:D->Value
 |.exc c=>.ref c
 |.obj C _ _=>.ref C
 |d=>.type (Ql d)
variable{e:Expr}{te:DE}{p p' pos:Pos}{T:String}{x:Str}
def EG(x:bu P w H h a (.ins C dx fs)):∃od,PySem.W.InstAt h a (PySem.W.instObj C dx) C (some od):=by obtain⟨d,z,ne,ob,mA,n,r,q⟩:=x;obtain⟨od,hI,_⟩:=BA.look ⟨ob,n,ne⟩;exact⟨od,hI⟩
def uS{Q:yaa}{b:Bool}(I:Inv X pins σ H s)(h:Den X.K P H d v)(r:RelV v u)
  (e:PySem.W.kitOne X.K (RG d) c=some b) (q:∀tk,Q (.bool b) {s with toks:=tk}):wpAny (model X.prog X.w) A (call (.builtin "isinstance") [u,c]) Q E s:=by
 cases d with
 |Kt=>have z:=h.R3;subst z;cases r;exact PySem.W.kia_one PySem.W.kitx_none I.NX True.intro e (fun z=>nomatch z) q
 |bl y=>have z:=h.Q3;subst z;cases r;exact PySem.W.kia_one PySem.W.kitx_bool I.NX True.intro e (fun z=>nomatch z) q
 |int i=>have z:=h.K3;subst z;obtain⟨t,rfl⟩:=r;exact PySem.W.kia_one PySem.W.kitx_int I.NX True.intro e (fun z=>nomatch z) q
 |str y=>have z:=h.R4;subst z;obtain⟨t,rfl⟩:=r;exact PySem.W.kia_one PySem.W.kitx_str I.NX True.intro e (fun z=>nomatch z) q
 |tup ds =>
  obtain⟨a,vs,z,hq,_⟩:=h.N1;subst z;cases r;obtain⟨JZ,rv,⟨o,h1,h2,n,h3⟩,_⟩:=I.tuple hq.w;exact PySem.W.kia_one PySem.W.kitx_tuple I.NX ⟨o,h1,h2⟩ e (fun z=>nomatch z) q
 |lst _ ds =>
  obtain⟨a,vs,z,_,hq,_⟩:=h.MR;subst z;cases r;obtain⟨JZ,rv,⟨o,n,h1,h2,_,h3⟩,_⟩:=I.list hq;exact PySem.W.kia_one PySem.W.kitx_list I.NX ⟨o,h1,h2⟩ e (fun z=>nomatch z) q
 |exc c' =>
  obtain⟨a,z,hq,k⟩:=h.TZ;subst z;cases r;exact PySem.W.kia_one (Cm k) I.NX (I.Ku a _ hq).1 e (fun z=>nomatch z) q
 |obj C ns ds =>
  obtain⟨a,dx,vs,z,hq,_,k,_⟩:=h.TY;subst z;cases r;obtain⟨od,hI⟩:=EG (I.Ku a _ hq);exact PySem.W.kia_one (PySem.W.kitx_own k.pg k.hd k.at_ k.get k.takes k.obj) I.NX hI e (fun z=>nomatch z) q
 |OA =>
  obtain⟨a,z,hq⟩:=h.Wf;subst z;cases r;exact PySem.W.kia_one PySem.W.kitx_dict I.NX (I.Ku a _ hq).1 e (fun z=>nomatch z) q
 |NZ ks ds =>
  obtain⟨a,o,KP,vs,z,hq,_⟩:=h.Wg;subst z;cases r;obtain⟨_,_,_,_,_,q',_,_,Q4,hx,_⟩:=I.Ku a _ hq;exact PySem.W.kia_one PySem.W.kitx_dict I.NX ⟨q',Q4,hx.1⟩ e (fun z=>nomatch z) q
def wo(K:yac)(S T:String):PySem.W.kitOne K (.type S) (.type T)=if S=T then some true else if PySem.W.kitMeta T=true then(fastBuiltinMro S).map (·.contains (.type T))else none:=by
 unfold PySem.W.kitOne PySem.W.kitCls PySem.W.subIn;by_cases h:S=T
 ·subst h;simp
 ·have:(Value.type S==Value.type T)=false:=by
   rw[beq_eq_false_iff_ne];intro e;injection e with e;exact h e
  rw[this,JT Ov,JT h]
def R6 (T:String) (d:D):Bool:=Ql d==T || (Ql d == "bool" && T == "int")
def kit_ans (K:yac) (d:D) (hk:∀c,d=.exc c->et K c) (ho:∀C ns ds,d=.obj C ns ds->xW K C) (hT:T = "int" ∨ T = "bool" ∨ T = "tuple" ∨ T = "list" ∨ T = "str"):PySem.W.kitOne K (RG d) (.type T)=some (R6 T d):=by
 by_cases hx:∃c,d=.exc c
 ·obtain⟨c,rfl⟩:=hx;show PySem.W.kitOne K (.ref c) (.type T)=_;rw[(hk c rfl).not T hT];show _=some ("object" == T || ("object" == "bool" && T == "int"));rcases hT with e|e|e|e|e<;>subst e<;>decide +kernel
 by_cases hy:∃C ns ds,d=.obj C ns ds
 ·obtain⟨C,ns,ds,rfl⟩:=hy;show PySem.W.kitOne K (.ref C) (.type T)=_;rw[(ho C ns ds rfl).not T hT];show _=some ("object" == T || ("object" == "bool" && T == "int"));rcases hT with e|e|e|e|e<;>subst e<;>decide +kernel
 have hv:RG d=.type (Ql d):=by cases d<;>first|rfl|exact absurd ⟨_,rfl⟩ hx|exact absurd ⟨_,_,_,rfl⟩ hy
 rw[hv,wo];unfold R6;have hS:Ql d = "NoneType" ∨ Ql d = "bool" ∨ Ql d = "int" ∨ Ql d = "str" ∨ Ql d = "tuple" ∨ Ql d = "list" ∨ Ql d = "dict" := by cases d<;>first|exact absurd ⟨_,rfl⟩ hx|exact absurd ⟨_,_,_,rfl⟩ hy|simp[Ql]
 generalize Ql d=S at hS ⊢;rcases hT with e|e|e|e|e<;>subst e<;>rcases hS with e|e|e|e|e|e|e<;>subst e<;>decide +kernel
def dIs(T:String)(te:DE):DE:=fun ρ Q=>te ρ fun d=>Q (.bl (R6 T d))
def kY (hg:Gl X "isinstance") (hm:X.mg "isinstance" = none) (hgT:Gl X x) (hmT:X.mg x=none) (hv:bootBuiltins x=some (.type T)) (hT:T = "int" ∨ T = "bool" ∨ T = "tuple" ∨ T = "list" ∨ T = "str") (he:Kn X e te)
  (hn:x ≠ "__name__" := by decide) (NB:(x==("__debug__" : Str))=false:=by decide)
  (MT:starEach [e,.Name x p'] X.env=(false,eval e X.env)::starEach [.Name x p'] X.env:=by rfl) (Qm:starEach [.Name x p'] X.env=(false,eval (.Name x p') X.env)::starEach [] X.env:=by rfl) (T4:(backTo pos (starEach [.Name x p'] X.env)).any (·.1)=false:=by rfl) :
  Kn X (.Call (.Name "isinstance" p) [e,.Name x p'] [] pos) (dIs T te):=by
 intro pins s σ H W ρ Q I rr h;have Wi:PA X [e,.Name x p'] (p8 (yz X te) (p8 (tC (.ty T)) De)):=fH he.pe (fH (xv hgT hmT hv rfl hn NB) lr Qm) MT;refine RA (dQ I hg hm boot_isinstance ?_ (by decide) (by decide));refine PyProof.Rows.callWith_builtin1 (J0 (Wi pos pins s σ H (fun vs H1=>∃v d,vs=[v,.ty T]/\aq H H1/\Den X.K W.bad H1 d v/\Q (.bl (R6 T d))) I ⟨W,ρ,_,rr,h,fun v H1 d e1 hd q1=>⟨v,d,rfl,e1,hd,q1⟩⟩) fun us s1 J5=>?_) MT T4;obtain⟨vs,H1,I1,rv,v,d,ev,e1,hd,q1⟩:=J5;subst ev;cases rv with
 |cons r1 rr =>
  cases rr with
  |cons r2 rr =>
   cases rr;cases(show _=Value.type T from r2);exact uS I1 hd r1 (kit_ans X.K d (fun c z=>by subst z;exact hd.TZ.choose_spec.2.2) (fun C ns ds z=>by subst z;obtain⟨_,_,_,_,_,_,k,_⟩:=hd.TY;exact k) hT) fun tk=>⟨.bl _,H1,_,I1.tok tk,rfl,e1,Den.bl _,q1⟩
end
section
variable{X:Cx}{pos:Pos}
def RI.up(g:KI W0 H0 W H)(h:RI X pins W H E f s'):RI X pins W0 H0 E f s':=by obtain⟨W',Ky,H',I,fw,q⟩:=h;exact⟨W',Ky,H',I,g.trans fw,q⟩
variable{st:Stmt}{rest:yal}{t u:DS}{e:Expr}{te:DE}
def Dz:DS:=fun E ρ=>E.nx ρ
def kT(t u:DS):DS:=fun E ρ=>t {E with nx:=u E} ρ
def aQ:cf X [] Dz:=fun _ _ σ H W ρ E I r h=>UX ⟨W,σ,H,I,KI.refl W H,ρ,r,h⟩
def ah(h1:MS X st t)(h2:cf X rest u):cf X (st::rest) (kT t u):=by
 intro pins s σ H W ρ E I r h;refine wpAny_execs_cons (J0 (h1 pins s σ H W ρ {E with nx:=u E} I r h) fun f s1 J5=>?_);obtain⟨W',Ky,H',I',fw,q⟩:=J5;cases f with
 |next =>
  obtain⟨JY,r',q⟩:=q;exact J0 (h2 pins s1 Ky H' W' JY E I' r' q) fun _ _ z=>z.up fw
 |ret v=>exact⟨W',Ky,H',I',fw,q⟩
 |brk=>exact⟨W',Ky,H',I',fw,q⟩
 |cont=>exact⟨W',Ky,H',I',fw,q⟩
def ao(h1:MS X st t):cf X [st] t:=by
 intro pins s σ H W ρ E I r h;refine wpAny_execs_cons (J0 (h1 pins s σ H W ρ E I r h) fun f s1 q=>?_);cases f with
 |next=>exact UX q
 |ret v=>exact q
 |brk=>exact q
 |cont=>exact q
def GA(te:DE):DS:=fun E ρ=>te ρ E.rt
def ay(he:Kn X e te):MS X (.Return (some e) pos) (GA te):=by intro pins s σ H W ρ E I r h;exact wpAny_Return_some (J0 (he pins s σ H W ρ _ I r h) fun u s1 K1=>(by obtain⟨v,H1,d,I1,r1,e1,hd,q1⟩:=K1;exact⟨W,σ,H1,I1,KI.same e1,v,d,r1,hd,q1⟩))
def Gu(c:DT)(t u:DS):DS:=fun E ρ=>c ρ fun b=>if b=true then t E ρ else u E ρ
def bg(hc:O3 X c tc)(ha:cf X a t)(hb:cf X b u):MS X (.If c a b pos) (Gu tc t u):=by
 intro pins s σ H W ρ E I r h;refine wpAny_If (J0 (hc pins s σ H W ρ _ I r h) fun d s1 J5=>?_);obtain⟨H1,I1,e1,q1⟩:=J5;cases d with
 |true=>exact J0 (ha pins s1 σ H1 W ρ E I1 (r.same e1) q1) fun _ _ z=>z.up (KI.same e1)
 |false=>exact J0 (hb pins s1 σ H1 W ρ E I1 (r.same e1) q1) fun _ _ z=>z.up (KI.same e1)
def Rel.put{X:Cx}{i:Nat}(r:Rel X W H σ ρ)(hi:i<σ.length)(hd:Den X.K W.bad H d v):Rel X (W.drop i) H (σ.set i (some v)) (ρ.set i (some (.val d))) where
 val:=fun j x h=>by
  by_cases hj:j=i
  ·subst hj;refine⟨v,by simp[hi],?_⟩;by_cases hl:j<ρ.length
   ·rw[Ry hl]at h;cases h;exact hd.Kw fun _ _=>Own.KS
   ·rw[List.getElem?_eq_none (by simpa using hl)]at h;cases h
  ·rw[Oa (Ne.symm hj)]at h;obtain⟨w,h1,h2⟩:=r.val j x h;exact⟨w,by rw[Oa (Ne.symm hj)];exact h1,h2.Kw fun _ _=>Own.KS⟩
 own:=fun j x h=>by
  by_cases hj:j=i
  ·subst hj;by_cases hl:j<ρ.length
   ·rw[Ry hl]at h;cases h
   ·rw[List.getElem?_eq_none (by simpa using hl)]at h;cases h
  ·rw[Oa (Ne.symm hj)]at h;obtain⟨a,vs,h1,h2,h3,h4⟩:=r.own j x h;exact⟨a,vs,by show(if j=i then none else W.O j)=_;rw[JT hj];exact h1,by rw[Oa (Ne.symm hj)];exact h2,h3,by rw[UW];exact h4.Kw (fun _ _=>Own.KS) (Own.ND hi)⟩
 inj:=fun j k a h1 h2=>by
  have Ln:(if j=i then none else W.O j)=some a:=h1;have MY:(if k=i then none else W.O k)=some a:=h2;by_cases e1:j=i
  ·rw[JU e1]at Ln;cases Ln
  ·by_cases e2:k=i
   ·rw[JU e2]at MY;cases MY
   ·rw[JT e1]at Ln;rw[JT e2]at MY;exact r.inj j k a Ln MY
 kn:=fun j a h1=>by
  have Ln:(if j=i then none else W.O j)=some a:=h1;by_cases e1:j=i
  ·rw[JU e1]at Ln;cases Ln
  ·rw[JT e1]at Ln;exact r.kn j a Ln
 ke:=fun j a h1=>by
  have Ln:(if j=i then none else W.O j)=some a:=h1;by_cases e1:j=i
  ·rw[JU e1]at Ln;cases Ln
  ·rw[JT e1]at Ln;exact r.ke j a Ln
 bt:=r.bt
 st:=r.st
 ent:=r.ent
 tab:=r.tab
theorem KI.drop(W:Own)(H:Hp)(i:Nat):KI W H (W.drop i) H:=⟨rfl,rfl,fun _ _ _ h _=>h,fun j a h=>by
 have h':(if j=i then none else W.O j)=some a:=h;by_cases e1:j=i
 ·rw[JU e1]at h';cases h'
 ·rw[JT e1]at h';exact .inl ⟨j,h'⟩,fun _ ps h=>⟨#[],by rw[h];simp⟩,id⟩
def Inv.Q5{i:Nat}{x:Str}(I:Inv X pins σ H s)(hi:X.N[i]?=some x):i<σ.length:=by rw[I.len];exact(MZ.mp hi).1
def BU(i:Nat)(te:DE):DS:=fun E ρ=>te ρ fun d=>E.nx (ρ.set i (some (.val d)))
def az{x:Str}(i:Nat)(hN:X.N.Nodup)(he:Kn X e te)(hi:X.N[i]?=some x:=by rfl)(hx:Loc X.env.scope x:=by first|exact Or.inl rfl|exact Or.inr rfl)(hs:swapsWith e (some (.Name x pos')) pos.line X.env=pure false:=by rfl)
  (hf:X.fn x=true∨X.env.scope.names.lookup x=some .local:=by first|exact .inl rfl|exact .inr rfl|assumption):MS X (.Assign [.Name x pos'] e pos) (BU i te):=by
 intro pins s σ H W ρ E I r h;refine wpAny_Assign_Name (J0 (he pins s σ H W ρ _ I r h) fun u s1 J5=>?_) hs;obtain⟨v,H1,d,I1,r1,e1,hd,q1⟩:=J5;exact eS I1 hN hi hx r1 (fun s2 I2=>⟨W.drop i,_,H1,I2,(KI.same e1).trans (KI.drop W H1 i),_,(r.same e1).put (Inv.Q5 I1 hi) hd,q1⟩) hf
def MS.of{t:DS}(h:PS X st ts)(k:∀σ H W ρ E,Rel X W H σ ρ->σ.length=X.N.length->t E ρ->ts ⟨(fun Ky H'=>∃W' JY,KI W H W' H'/\Rel X W' H' Ky JY/\E.nx JY),(fun v H'=>∃W' d,KI W H W' H'/\Den X.K W'.bad H' d v/\E.rt d),
   (fun Ky H'=>∃W' JY,KI W H W' H'/\Rel X W' H' Ky JY/\E.bk JY),(fun Ky H'=>∃W' JY,KI W H W' H'/\Rel X W' H' Ky JY/\E.ct JY)⟩ σ H):MS X st t:=by
 intro pins s σ H W ρ E I r ht;refine J0 (h pins s σ H _ I (k σ H W ρ E r I.len ht)) fun f s1 q=>?_
 cases f with
 |next=>obtain⟨Ky,H',I',W',JY,fw,r',q⟩:=q;exact⟨W',Ky,H',I',fw,JY,r',q⟩
 |brk=>obtain⟨Ky,H',I',W',JY,fw,r',q⟩:=q;exact⟨W',Ky,H',I',fw,JY,r',q⟩
 |cont=>obtain⟨Ky,H',I',W',JY,fw,r',q⟩:=q;exact⟨W',Ky,H',I',fw,JY,r',q⟩
 |ret u=>obtain⟨v,Ky,H',I',rv,W',d,fw,hd,q⟩:=q;exact⟨W',Ky,H',I',fw,v,d,rv,hd,q⟩
def GI(c:DT)(tb:DS):DS:=fun E ρ=>∃W:Nat->Ro->Prop,(∃m,W m ρ)/\∀m ρ,W m ρ->c ρ fun b=>if b=true then tb {E with nx:=fun JY=>∃m',m'<m/\W m' JY,ct:=fun JY=>∃m',m'<m/\W m' JY,bk:=E.nx} ρ else E.nx ρ
def nq(hp:PassesOwn (model X.prog X.w) X.A X.env X.xe)(hc:O3 X c tc)(hb:cf X body tb):MS X (.While c body [] pos) (GI tc tb):=by
 intro pins s σ H W ρ E I r h;obtain⟨Wd,⟨m0,w0⟩,turn⟩:=h;refine wpAny_While (codeAny_whileLoop (fun n s'=>∃W' Ky H' JY,Inv X pins Ky H' s'/\KI W H W' H'/\Rel X W' H' Ky JY/\Wd n JY) ?_ m0 ⟨W,σ,H,ρ,I,KI.refl W H,r,w0⟩);rintro n s1 ⟨W1,Wj,H1,Nn,I1,fw1,r1,w1⟩;refine TG hp (J0 (hc pins s1 Wj H1 W1 Nn _ I1 r1 (turn n Nn w1)) fun b s2 J5=>?_);obtain⟨H2,I2,e2,q2⟩:=J5;have Wk:=fw1.trans (KI.same (W:=W1) e2);cases b with
 |true =>
  rw[JU rfl]at q2;rw[JU rfl];refine TG hp (J0 (hb pins s2 Wj H2 W1 Nn _ I2 (r1.same e2) q2) fun f s3 q3=>?_);obtain⟨W3,QA,H3,I3,RJ,q3⟩:=q3;cases f with
  |next =>
   obtain⟨Qn,r3,m',hm,w3⟩:=q3;exact⟨m',hm,W3,QA,H3,Qn,I3,Wk.trans RJ,r3,w3⟩
  |cont =>
   obtain⟨Qn,r3,m',hm,w3⟩:=q3;exact⟨m',hm,W3,QA,H3,Qn,I3,Wk.trans RJ,r3,w3⟩
  |brk=>exact⟨W3,QA,H3,I3,Wk.trans RJ,q3⟩
  |ret v=>exact⟨W3,QA,H3,I3,Wk.trans RJ,q3⟩
 |false =>
  rw[JT Ov]at q2;rw[JT Ov];exact UX ⟨W1,Wj,H2,I2,Wk,Nn,r1.same e2,q2⟩
def G5{X:Cx}(r:Rel X W H σ ρ)(f:KI W H W' H')(a:Addr)(o:HO)(n:RH o)(q:H a=some o):H' a=some o :=
 f.kp a _ (fun i z=>by obtain⟨_,_,o',q',m⟩:=r.kn i a z;rw[q]at q';cases q';exact m.sol n) q n.nt
def G4{X:Cx}(r:Rel X W H σ ρ)(f:KI W H W' H')(a:Addr)(vs:yar)(q:Le X.K H a vs):Le X.K H' a vs:=by
 exact f.keep a _ (fun i e=>by obtain⟨_,_,o',q',m⟩:=r.kn i a e;have q2:H a=some (.tup vs):=q;rw[q']at q2;cases q2;exact m) q
def G3{X:Cx}(r':Rel X W' H' Ky JY)(f:KI W H W' H')(t:Bool)(a:Addr)(vs:yar)(p:¬W.bad t a)(q:MQ X.K H t a vs):¬W'.bad t a/\MQ X.K H' t a vs:=by
 have no:∀i,W.O i≠some a:=fun i e=>p (.inr (.inl ⟨i,e⟩))
 refine⟨fun b=>?_,?_,fun z=>⟨f.keep a _ no (q.2 z).1,(q.2 z).2⟩⟩
 ·rcases b with b|⟨i,b⟩| ⟨e,b⟩
  ·rw[f.B]at b;exact p (.inl b)
  ·rcases f.new i a b with⟨j,z⟩| z
   ·exact no j z
   ·rcases q.1 with(q|⟨o,q⟩)|⟨o,JZ,n,q,_⟩
    ·rw[z]at q;cases q
    ·rw[z]at q;cases q
    ·rw[(r'.kn i a b).1]at q;cases q
  ·rw[f.S]at b;exact p (.inr (.inr ⟨e,b⟩))
 ·rcases q.1 with(q|⟨o,q⟩)|q
  ·exact .inl (.inl (f.keep a _ no q))
  ·exact .inl (.inr ⟨o,f.keep a _ no q⟩)
  ·exact .inr q
def Den.fwd{X:Cx}(r:Rel X W H σ ρ)(r':Rel X W' H' Ky JY)(f:KI W H W' H')(h:Den X.K W.bad H d v):Den X.K W'.bad H' d v :=
 Den.map (G4 r f) (G3 r' f) (G5 r f) d v h
abbrev DG:=D->Ro->(Ro->Prop)->Prop
def SU(X:Cx)(target:Expr)(g:DG):Prop :=
 ∀ (pins:yab) (s:Shared) (σ:St) (H:Hp) (W:Own) (ρ:Ro) (d:D) (v:V) (u:Value) (Q:Ro->Prop),Inv X pins σ H s->Rel X W H σ ρ->RelV v u->Den X.K W.bad H d v->g d ρ Q →
  wpAny (model X.prog X.w) X.A (assign target X.env u) (fun _ s'=>∃W' Ky H' JY,Inv X pins Ky H' s'/\KI W H W' H'/\Rel X W' H' Ky JY/\Q JY) X.xe s
abbrev R7:=yas->Ro->(Ro->Prop)->Prop
def tZ(X:Cx)(ts:yai)(t:R7):Prop :=
 ∀ (pins:yab) (s:Shared) (σ:St) (H:Hp) (W:Own) (ρ:Ro) (ds:yas) (vs:yar) (us:yad) (Q:Ro->Prop),Inv X pins σ H s->Rel X W H σ ρ->Vals vs us->af X.K W.bad H ds vs->t ds ρ Q →
  wpAny (model X.prog X.w) X.A (assignInOrder ((assignEach ts X.env).map (·.2)) us) (fun _ s'=>∃W' Ky H' JY,Inv X pins Ky H' s'/\KI W H W' H'/\Rel X W' H' Ky JY/\Q JY) X.xe s
theorem af.fwd{X:Cx}(r:Rel X W H σ ρ)(r':Rel X W' H' Ky JY)(f:KI W H W' H'):∀{ds:yas} {vs:yar},af X.K W.bad H ds vs->af X.K W'.bad H' ds vs
 |[],_,h=>by simpa only[af]using h
 |d::ds,_,h=>by simp only[af]at h ⊢;obtain⟨v,q,e,h1,h2⟩:=h;exact⟨v,q,e,Den.fwd r r' f h1,af.fwd r r' f h2⟩
def oW(i:Nat):DG:=fun d ρ Q=>Q (ρ.set i (some (.val d)))
def bw{x:Str}(i:Nat)(hN:X.N.Nodup)(hi:X.N[i]?=some x:=by rfl)(hx:Loc X.env.scope x:=by first|exact Or.inl rfl|exact Or.inr rfl)
  (hf:X.fn x=true∨X.env.scope.names.lookup x=some .local:=by first|exact .inl rfl|exact .inr rfl|assumption):SU X (.Name x pos) (oW i):=by
 intro pins s σ H W ρ d v u Q I r rv hd h;exact wpAny_assign_Name (eS I hN hi hx rv (fun s' I'=>⟨W.drop i,_,H,_,I',KI.drop W H i,r.put (Inv.Q5 I hi) hd,h⟩) hf)
def mi:R7:=fun ds ρ Q=>ds=[]/\Q ρ
def cA(g:DG)(u:R7):R7:=fun ds ρ Q=>∃d r,ds=d::r/\g d ρ fun JY=>u r JY Q
def xh:tZ X [] mi:=by intro pins s σ H W ρ ds vs us Q I r rv hd h;obtain⟨e,h⟩:=h;subst e;simp only[af]at hd;subst hd;cases rv;exact assignInOrder_nil ⟨W,σ,H,ρ,I,KI.refl W H,r,h⟩
def eG{e:Expr}{u:R7}(h1:SU X e g)(h2:tZ X es u)(hs:(assignEach (e::es) X.env).map (·.2)=assign e X.env::(assignEach es X.env).map (·.2):=by rfl):tZ X (e::es) (cA g u):=by
 intro pins s σ H W ρ ds vs us Q I r rv hd h;obtain⟨d,dr,e1,h⟩:=h;subst e1;simp only[af]at hd;obtain⟨v,vr,e2,R8,hd2⟩:=hd;subst e2;cases rv with
 |cons ra rb =>
  rw[hs];refine assignInOrder_cons (J0 (h1 pins s σ H W ρ d v _ _ I r ra R8 h) fun _ s1 J5=>?_);obtain⟨W1,Wj,H1,Nn,I1,f1,r1,q1⟩:=J5;exact J0 (h2 pins s1 Wj H1 W1 Nn dr vr _ Q I1 r1 rb (af.fwd r r1 f1 hd2) q1) fun _ s2 K1=>(by obtain⟨W2,U7,H2,Ml,I2,f2,r2,q2⟩:=K1;exact⟨W2,U7,H2,Ml,I2,f1.trans f2,r2,q2⟩)
def uR{h:Heap}(hl:h.IsList l items)(hs:Heap.SameBut it h h')(LY:l≠it):h'.IsList l items:=by obtain⟨o,ho,r⟩:=hl;exact⟨o,(hs.2 l LY).trans ho,r⟩
theorem rX{it l:Addr}(LY:l≠it):∀(n i:Nat) (s:Shared) (Q:yad->Shared->Prop),s.heap.IsListIter it l i->s.heap.IsList l items->i+n<=items.size →
  (∀h',h'.IsListIter it l (i+n)->Heap.SameBut it s.heap h'->Q ((items.toList.drop i).take n) {s with heap:=h'})->wpAny (model prog w) A (draw (.ref it) n) Q E s
 |0,i,s,Q,hit,_,_,hQ=>by show wpAny _ _ (pure []) Q E s;exact Ki (by simpa using hQ s.heap hit (Heap.SameBut.refl ..))
 |n+1,i,s,Q,hit,hl,hle,hQ=>by
  have Mc:i<items.size:=by lia
  show wpAny _ _ (pyNext (.ref it) >>= _) Q E s;refine JX (wpAny_pyNext_list_item hit hl (x:=items[i]) (by simp[Mc]) fun Nh Pw O4=>?_);refine JX (OO (rX LY n (i+1) _ _ Pw (uR hl O4 LY) (by lia) fun Pq T5 Wl=>Ki ?_));have hd:items.toList.drop i=items[i]::items.toList.drop (i+1):=by simp[RP,Mc]
  have:=hQ Pq (by rw[show i+(n+1)=i+1+n by lia];exact T5) (O4.trans Wl);rw[hd,List.take_succ_cons]at this;exact this
def n5{A:Around}{s:Shared}{Q:yad->Shared->Prop}(hh:A.handled=none)(hl:s.heap.IsList l items)
  (hQ:∀h',Heap.ExtBut s.heap.objs.size s.heap h'->Q items.toList {s with heap:=h'}):wpAny (model prog w) A (unpackItems (.ref l) items.size none) Q E s:=by
 have Mc:l≠s.heap.objs.size:=by obtain⟨o,ho,_⟩:=hl;exact Nf (LC ho)
 unfold unpackItems;refine JX ?_
 ·unfold notIterableAtAll;refine JX (wpAny_specialOf hl.typeIs F.slot_list_iter.lookup ?_);refine Ki ?_;simp only[OM,if_false];refine JX (OO (wpAny_pyIter_list hl ?_));have hl0:(s.heap.push {cls:=.type "list_iterator", data:=.fields #[.ref l,rawInt 0]}).IsList l items:=by
   obtain⟨o,ho,r⟩:=hl;exact⟨o,Mv _ ho,r⟩
  refine JX (OO (rX Mc items.size 0 _ _ ⟨_,Ou _ rfl,rfl,rfl⟩ hl0 (by lia) fun Nh Pw O4=>?_));have LR:List.take items.size (List.drop 0 items.toList)=items.toList:=by rw[VS];exact Pg (by simp)
  rw[LR];rw[JT (by simp)];have Wm:Nh.IsList l items:=uR hl0 O4 Mc;refine JX (OO (wpAny_pyNext_list_end hh Pw Wm (by simp) fun Pq Wn=>?_));simp only[Option.isSome_none,OM,if_false];refine Ki (hQ Pq fun b o hb e=>Wn b o hb (O4.extBut b o hb (Mv _ e)))
def mj(n:Nat)(t:R7):DG:=fun d ρ Q=>∃ds,(d=.tup ds∨∃ t,d=.lst t ds)/\ds.length=n/\t ds ρ Q
def Ag{t:R7}{n:Nat}(hc:X.calm=true)(h:tZ X es t)(hn:(assignEach es X.env).length=n:=by rfl)(MT:(assignEach es X.env).findIdx? (·.1)=none:=by rfl):SU X (.Tuple es k pos) (mj n t):=by
 intro pins s σ H W ρ d v u Q I r rv hd hw;obtain⟨ds,ed,hl,hw⟩:=hw;rcases ed with ed|⟨tg,ed⟩
 ·subst ed;obtain⟨a,vs,e1,hq,LJ⟩:=hd.N1;subst e1;cases rv;obtain⟨JZ,Wo,ht,hz⟩:=I.tuple hq.w;refine assign_Tuple_tuple (I.ok.hd hc) ht (by simp[hn,<- hl,<- Wo.length,LJ.len]) MT fun h' hx=>?_
  have I1:Inv X pins σ H {s with heap:=h'}:=I.kept (t':=s.toks) fun b o e=>hx b o (Nf (LC e)) e
  exact h pins _ σ H W ρ ds vs _ Q I1 r (by simpa using Wo) LJ hw
 ·subst ed;obtain⟨a,vs,e1,_,hq,LJ⟩:=hd.MR;subst e1;cases rv;obtain⟨JZ,Wo,ht,hz⟩:=I.list hq;rw[assign_Tuple];refine JX (wpAny_standAt ?_);unfold unpack;rw[MT,show(assignEach es X.env).length=JZ.toArray.size by simp[hn,<- hl,<- Wo.length,LJ.len]];refine JX (OO (n5 (I.ok.hd hc) ht.isList fun h' hx=>?_));have I1:Inv X pins σ H {s with heap:=h'}:=I.kept (t':=s.toks) fun b o e=>hx b o (Nf (LC e)) e
  exact h pins _ σ H W ρ ds vs _ Q I1 r (by simpa using Wo) LJ hw
def YD(K:yac)(W:Own)(H:Hp)(J:It)(ds:yas):Prop:=∀(P':yak) (H':Hp),(∀a vs,Le K H a vs->Le K H' a vs)->(∀t a vs,¬W.bad t a->MQ K H t a vs->¬P' t a/\MQ K H' t a vs)->(∀a o,RH o->H a=some o->H' a=some o)->∀i,(i<ds.length->J.go i H')/\(∀x H3,J.yld i H' x H3->i<ds.length->aq H' H3/\∃d,ds[i]?=some d/\Den K P' H3 d x)/\(ds.length<=i->J.stop i H')
def RK(X:Cx)(tg iter:Expr)(wi:DA):Prop :=
 ∀ (pins:yab) (s:Shared) (σ:St) (H:Hp) (W:Own) (ρ:Ro) (R:yas->Prop),Inv X pins σ H s->Rel X W H σ ρ->wi ρ R →
  wpAny (model X.prog X.w) X.A (eval iter X.env) (fun v s1=>wpAny (model X.prog X.w) X.A (pyIter v) (fun Q0 s2=>∃(it:Addr) (fp:yae) (tn:Nat->Heap->Prop) (J:It) (H':Hp) (ds:yas),Q0=.ref it/\Inv X pins σ H' s2/\aq H H' ∧
   Turn X.prog X.w X.K tg J fp it tn/\tn 0 s2.heap/\(∀b∈fp,eE X pins H' b)/\YD X.K W H' J ds/\R ds) X.xe s1) X.xe s
def RK.of{wd:DA}(h:PI X tg iter wi)(k:∀σ H W ρ R,Rel X W H σ ρ->wd ρ R->wi σ H fun J H'=>aq H H'/\∃ds,YD X.K W H' J ds/\R ds):RK X tg iter wd:=by
 intro pins s σ H W ρ R I r hw;refine J0 (h pins s σ H _ I (k σ H W ρ R r hw)) fun v s1 h1=>J0 h1 fun Q0 s2 h2=>?_
 obtain⟨it,fp,tn,J,H',e,I2,T,st,f2,e2,ds,y,q⟩:=h2;exact⟨it,fp,tn,J,H',ds,e,I2,e2,T,st,f2,y,q⟩
def Dy(ti:DE):DA:=fun ρ R=>ti ρ fun d=>∃t ds,d=.lst t ds/\R ds
def bc(h:Kn X iter ti):RK X tg iter (Dy ti):=by
 refine RK.of (Fj h.pe) fun σ H W ρ R r hw=>⟨W,ρ,_,r,hw,fun v H1 d e1 hd q=>?_⟩
 obtain⟨tg',ds,rfl,q⟩:=q;obtain⟨a,vs,rfl,na,hq,LJ⟩:=hd.SQ;refine⟨a,rfl,⟨vs,hq.1⟩,e1,ds,?_,q⟩;intro P' H' hT hL hX i;have Q4:SqL X.K H' a vs:=(hL _ a vs na hq).2.1;have hl:=LJ.len;refine⟨fun hi=>?_,fun x H3 y hi=>?_,fun hi=>⟨vs,Q4,by lia⟩⟩
 ·obtain⟨v,hv,_⟩:=LJ.get (i:=i) (d:=ds[i]) (by simp[hi]);exact⟨vs,v,Q4,hv⟩
 ·obtain⟨e3,y⟩:=y;subst e3;obtain⟨d,h1,h2⟩:=LJ.bR (y vs Q4);exact⟨aq.refl _,d,h1,Den.map hT hL hX d _ h2⟩
def gL(lo step:Int)(n:Nat):yas:=(List.range n).map fun(i:Nat)=>D.int (lo+i*step)
def C3(lo step:Int)(n:Nat):(gL lo step n).length=n:=by simp[gL]
def C2{lo step:Int}{n i:Nat}(h:i<n):(gL lo step n)[i]?=some (D.int (lo+i*step)):=by simp[gL,h]
def F1(lo c:Int)(n:Nat):It:=⟨fun i _=>i<n,fun i H x H'=>H'=H/\x=.int (lo+i*c),fun i _=>n<=i⟩
def Dq(K:yac)(W:Own)(H:Hp)(lo c:Int)(n:Nat):YD K W H (F1 lo c n) (gL lo c n):=fun P' H' _ _ _ i=>by rw[C3];refine⟨fun h=>h,fun x H3 y hi=>?_,fun h=>h⟩;obtain⟨e,ex⟩:=y;subst e ex;exact⟨aq.refl _,_,C2 hi,Den.int _⟩
def wV{P:Program}{w:World}{K:yac}{tg:Expr}(it:Addr)(lo c:Int)(n:Nat):Turn P w K tg (F1 lo c n) [it] it (fun i h=>IsRangeIter h it (lo+(i:Nat)*c) ((n:Int) - (i:Nat)) c) where
 mem:=by simp
 obj:=fun i h st b hb=>by
  have e:b=it:=by simpa using hb
  subst e;exact⟨_,st,fun v z=>by have z':Data.fields _=Data.cell v:=z;cases z'⟩
 keep:=fun i h h' st k=>k it (by simp) _ st
 item:=by
  intro X hP hw hK hc i pins s σ H E I hf st hg;subst hP hw hK;obtain⟨f0,f1,f2,f3,f4,f5⟩:=hf it (by simp);have W:=Walks.range (prog:=X.prog) (w:=X.w) (I.ok.hd hc) it lo c n;refine W.item i s _ _ hg st fun v h' tk hv st' kk=>?_
  obtain⟨t,rfl⟩:=hv;have I1:Inv X pins σ H {s with heap:=h',toks:=tk}:=I.turned (fun b o hb e=>kk b o (by simpa using hb) e) f0 f1 f3 f4 f5;exact⟨_,rfl,DK (s:={s with heap:=h',toks:=tk}) (n := "range_iterator") st' rfl rfl (by decide) ⟨.int (lo+i*c),H,I1,⟨t,rfl⟩,⟨rfl,rfl⟩,st',fun b hb=>(hf b hb).1⟩⟩
 done:=by intro X hP hw hK hc i pins s σ H E I hf st hg;subst hP hw hK;obtain⟨f0,f1,f2,f3,f4,f5⟩:=hf it (by simp);exact wpAny_pyNext_range_end (I.ok.hd hc) st (by have:n<=i:=hg;lia) fun h' eb=>⟨rfl,I.turned (t':=s.toks) (fun b o hb e=>eb b o hb e) f0 f1 f3 f4 f5⟩
 self:=fun _ _ _ _ _ st h=>wpAny_pyIter_rangeiter st h
def iI(lo hi c:Int):Nat:=(Builtin.Range.rangeSize lo hi c).toNat
def A9{a b c:Int}(ha:-(2 ^ 40)<=a)(QB:a<2 ^ 40)(hb:-(2 ^ 40)<=b)(U8:b<2 ^ 40)(hc:0<c)(PR:c<2 ^ 20):Builtin.Range.small a b c=true/\0<=Builtin.Range.rangeSize a b c:=by
 have hd:a<b->0<=(b - a - 1) / c/\(b - a - 1) / c<=b - a - 1:=fun h=>⟨Int.ediv_nonneg (by lia) (by lia),Int.ediv_le_self _ (by lia)⟩
 have hm:a<b->(b - a - 1) / c*c<=b - a - 1:=fun h=>Int.ediv_mul_le _ (by lia)
 unfold Builtin.Range.small Builtin.Range.rangeSize;rw[JU (show c > 0 from hc)];by_cases h:a<b
 ·obtain⟨h1,h2⟩:=hd h;have h3:=hm h;rw[JU h];generalize (b - a - 1) / c=q at h1 h2 h3 ⊢;have h4:0<=q*c:=Lq h1 (by lia);simp only[Builtin.Range.rangeFitsLong,RB,Bool.or_eq_true,decide_eq_true_eq,beq_iff_eq];have e:(q+1 - 1)*c=q*c:=by rw[Int.add_sub_cancel]
  have e':(q+1)*c=q*c+c:=by rw[Int.add_mul,Po]
  constructor
  ·rw[JU (show c > 0 from hc)];simp only[RB,decide_eq_true_eq]
   lia
  ·lia
 ·rw[JT h];simp only[Builtin.Range.rangeFitsLong,RB,Bool.or_eq_true,decide_eq_true_eq,beq_iff_eq];constructor
  ·simp;lia
  ·exact Mf _
def sD {R : yas -> Prop} {lo hi c : Int} {t u : Tok} {tk : Nat} (I : Inv X pins σ H s) (h1 : -(2 ^ 40) <= lo) (h2 : lo < 2 ^ 40) (h3 : -(2 ^ 40) <= hi) (h4 : hi < 2 ^ 40) (h5 : 0 < c) (h6 : c < 2 ^ 20)
  (q : R (gL lo c (iI lo hi c))) : wpAny (model X.prog X.w) X.A (pyIter (.ref s.heap.objs.size)) (fun Q0 s2 => ∃ (it : Addr) (fp : yae) (tn : Nat -> Heap -> Prop) (J : It) (H' : Hp) (ds : yas), Q0 = .ref it /\ Inv X pins σ H' s2 /\ aq H H' ∧
   Turn X.prog X.w X.K tg J fp it tn /\ tn 0 s2.heap /\ (∀ b ∈ fp, eE X pins H' b) /\ YD X.K W H' J ds /\ R ds) E { s with heap := s.heap.push { cls := .type "range", data := .fields #[.int lo t, .int hi u, .int c v] }, toks := tk } := by
 obtain ⟨sm, nn⟩ := A9 h1 h2 h3 h4 h5 h6;refine wpAny_pyIter_range (IsRange.new ..) sm ?_;have I1 : Inv X pins σ H { s with heap := s.heap.push { cls := .type "range", data := .fields #[.int lo t, .int hi u, .int c v] }, toks := tk } := I.kept fun b o e => Mv _ e
 refine ⟨(s.heap.push { cls := .type "range", data := .fields #[.int lo t, .int hi u, .int c v] }).objs.size, [(s.heap.push { cls := .type "range", data := .fields #[.int lo t, .int hi u, .int c v] }).objs.size], _, _, H, _, rfl,
  I1.kept (t' := tk) fun b o e => Mv _ e, aq.refl H, wV _ lo c (iI lo hi c), ?_, fun b hb => ?_, Dq _ _ _ _ _ _, q⟩
 ·have e1 : lo + ((0 : Nat) : Int) * c = lo := by simp
  have e2 : ((iI lo hi c : Nat) : Int) - ((0 : Nat) : Int) = Builtin.Range.rangeSize lo hi c := by unfold iI; lia
  show IsRangeIter _ _ (lo + ((0 : Nat) : Int) * c) (((iI lo hi c : Nat) : Int) - ((0 : Nat) : Int)) c;rw [e1, e2];exact Ou _ rfl
 ·have e : b = (s.heap.push { cls := .type "range", data := .fields #[.int lo t, .int hi u, .int c v] }).objs.size := by simpa using hb
  subst e;exact I1.V3 (KO _) (I1.Ku.fresh (KO _))
def Y8(i:Int):Prop:=-(2 ^ 40)<=i/\i<2 ^ 40
def yn(ta:DA):DA:=fun ρ R=>ta ρ fun ds=>∃i j:Int,ds=[.int i,.int j]/\Y8 i/\Y8 j/\R (gL i 1 (iI i j 1))
def DC(ta:DA):DA:=fun ρ R=>ta ρ fun ds=>∃j:Int,ds=[.int j]/\Y8 j/\R (gL 0 1 (iI 0 j 1))
def Ak {a b:Expr} {p pos:Pos} (hg:Gl X "range") (hm:X.mg "range" = none) (ha:OC X [a,b] ta) (hs:starEach [a,b] X.env=(false,eval a X.env)::starEach [b] X.env:=by rfl) (Y9:(backTo pos (starEach [b] X.env)).any (·.1)=false:=by rfl) :
  RK X tg (.Call (.Name "range" p) [a,b] [] pos) (yn ta):=by
 intro pins s σ H W ρ R I r h;refine Call_ (dQ I hg hm boot_range (PyProof.Rows.callWith_type1 (J0 (ha pos pins s σ H W ρ _ I r h) fun us s1 J5=>?_) hs Y9));obtain⟨vs,H1,ds,I1,r1,e1,hd,q1⟩:=J5;obtain⟨i,j,e,⟨a1,a2⟩,⟨b1,b2⟩,q⟩:=q1;subst e;obtain⟨v1,u1,rfl,d1,d2⟩:=yo hd;have z1:=d1.K3;have z2:=d2.K3;subst z1 z2;cases r1 with
 |cons ra rr =>
  cases rr with
  |cons rb rr =>
   cases rr;obtain⟨t,rfl⟩:=ra;obtain⟨t',rfl⟩:=rb;refine call_range_2 ?_;exact J0 (sD (W:=W) (R:=R) I1 a1 a2 b1 b2 (by decide) (by decide) q) fun Q0 s2 K1=>(by obtain⟨it,fp,tn,J,H',ds,x1,x2,x3,x4,x5,x6,x7,x8⟩:=K1;exact⟨it,fp,tn,J,H',ds,x1,x2,e1.trans x3,x4,x5,x6,x7,x8⟩)
def iW {a:Expr} {p pos:Pos} (hg:Gl X "range") (hm:X.mg "range" = none) (ha:OC X [a] ta) (hs:starEach [a] X.env=(false,eval a X.env)::starEach [] X.env:=by rfl) (Y9:(backTo pos (starEach [] X.env)).any (·.1)=false:=by rfl) :
  RK X tg (.Call (.Name "range" p) [a] [] pos) (DC ta):=by
 intro pins s σ H W ρ R I r h;refine Call_ (dQ I hg hm boot_range (PyProof.Rows.callWith_type1 (J0 (ha pos pins s σ H W ρ _ I r h) fun us s1 J5=>?_) hs Y9));obtain⟨vs,H1,ds,I1,r1,e1,hd,q1⟩:=J5;obtain⟨j,e,⟨b1,b2⟩,q⟩:=q1;subst e;obtain⟨v1,rfl,d1⟩:=l6 hd;have z1:=d1.K3;subst z1;cases r1 with
 |cons ra rr =>
  cases rr;obtain⟨t,rfl⟩:=ra;refine call_range_1 ?_;exact J0 (sD (W:=W) (R:=R) I1 (by decide) (by decide) b1 b2 (by decide) (by decide) q) fun Q0 s2 K1=>(by obtain⟨it,fp,tn,J,H',ds,x1,x2,x3,x4,x5,x6,x7,x8⟩:=K1;exact⟨it,fp,tn,J,H',ds,x1,x2,e1.trans x3,x4,x5,x6,x7,x8⟩)
def uy(wi:DA)(g:DG)(tb:DS):DS:=fun E ρ=>wi ρ fun ds=>∃Pv:Nat->Ro->Prop,Pv 0 ρ ∧
 (∀j x JY,ds[j]?=some x->Pv j JY->g x JY fun Ml=>tb {E with nx:=Pv (j+1),ct:=Pv (j+1),bk:=E.nx} Ml)/\∀JY,Pv ds.length JY->E.nx JY
def cK(hp:PassesOwn (model X.prog X.w) X.A X.env X.xe)(hc:X.calm=true)(hi:RK X tg iter wi)(hg:SU X tg g)(hb:cf X body tb)
  (hs:∀x,foldedSetIterable iter X.env x=pure x:=by intro _;rfl):MS X (.For tg iter body [] pos) (uy wi g tb):=by
 intro pins s σ H W ρ E I r h;refine wpAny_For (J0 (hi pins s σ H W ρ _ I r h) fun v s1 h1=>J0 h1 fun Q0 s2 h2=>?_) hs;obtain⟨it,fp,tn,J,H2,ds,e,I2,e2,T,Kb,f2,yd,Pv,p0,turn,pd⟩:=h2;subst e;have r2:=r.same e2;have T6:∀{H':Hp},(∀b∈fp,H' b=none)->∀b∈fp,eE X pins H' b:=fun hn b hb=>⟨hn b hb,(f2 b hb).2⟩
 refine codeAny_forLoop_any (fun n s'=>∃i W' Ky H' JY,n=ds.length - i/\i<=ds.length/\Inv X pins Ky H' s'/\tn i s'.heap/\(∀b∈fp,H' b=none)/\KI W H2 W' H'/\Rel X W' H' Ky JY/\Pv i JY) ?_ ds.length ⟨0,W,σ,H2,ρ,by simp,Mx _,I2,Kb,fun b hb=>(f2 b hb).1,KI.refl W H2,r2,p0⟩;rintro n s3 ⟨i,W3,QA,H3,Qn,en,hle,I3,Ni,Wq,RJ,r3,p3⟩;obtain⟨yg,yy,ys⟩:=yd W3.bad H3 (G4 r2 RJ) (G3 r3 RJ) (G5 r2 RJ) i;by_cases Mc:i<ds.length
 ·refine TG hp (J0 (T.item X rfl rfl rfl hc i pins s3 QA H3 X.xe I3 (T6 Wq) Ni (yg Mc)) fun rr s4 ⟨u,hr,h4⟩=>?_);subst hr;refine TG hp (J0 h4 fun _ s5 J5=>?_);obtain⟨x,H5,I5,r5,y5,SV,Za⟩:=J5;obtain⟨e5,d,hd,Nj⟩:=yy x H5 y5 Mc;have Zb:=I5.pinned (T6 Za) (T.obj _ _ SV);have SX:=r3.same e5;refine TG hp (J0 (hg _ s5 QA H5 W3 Qn d x u _ Zb SX r5 Nj (turn i d Qn hd p3)) fun _ s6 J5=>?_);obtain⟨W6,Wr,H6,Ws,I6,f6,r6,q6⟩:=J5;refine TG hp (J0 (hb _ s6 Wr H6 W6 Ws _ I6 r6 q6) fun f s7 q7=>?_);obtain⟨W7,T7,H7,I7,f7,q7⟩:=q7;have fw7:KI W H2 W7 H7:=RJ.trans ((KI.same e5).trans (f6.trans f7));have Wt:KI W H W7 H7:=(KI.same e2).trans fw7;have again:∀{SY:Ro},Rel X W7 H7 T7 SY->Pv (i+1) SY->∃m,m<n/\∃i W' Ky H' JY,m=ds.length - i/\i<=ds.length/\Inv X pins Ky H' s7/\tn i s7.heap/\(∀b∈fp,H' b=none)/\KI W H2 W' H'/\Rel X W' H' Ky JY/\Pv i JY:=fun {SY} r7 p7=>by
   refine⟨ds.length - (i+1),by lia,i+1,W7,T7,H7,SY,rfl,Mc,I7.Mg,T.keep _ _ _ SV fun b hb o e=>(I7.pin (b,o) (MO _ (MO _ (gZ hb e)))).1,fun b hb=>?_,fw7,r7,p7⟩;obtain⟨o,e,d⟩:=T.obj _ _ SV b hb;exact(I7.pin (b,o) (MO _ (MO _ (gZ hb e)))).2.1
  cases f with
  |next=>obtain⟨SY,r7,n7⟩:=q7;exact again r7 n7
  |cont=>obtain⟨SY,r7,n7⟩:=q7;exact again r7 n7
  |brk=>obtain⟨SY,r7,q7⟩:=q7;exact⟨W7,T7,H7,I7.Mg,Wt,SY,r7,q7⟩
  |ret v=>obtain⟨x7,d7,r7,h7,q7⟩:=q7;exact⟨W7,T7,H7,I7.Mg,Wt,x7,d7,r7,h7,q7⟩
 ·have e:i=ds.length:=by lia
  refine TG hp (J0 (T.done X rfl rfl rfl hc i pins s3 QA H3 X.xe I3 (T6 Wq) Ni (ys (by lia))) fun rr s4 J5=>?_);obtain⟨hr,I4⟩:=J5;subst hr;subst e;exact UX ⟨W3,QA,H3,I4,(KI.same e2).trans RJ,Qn,r3,pd Qn p3⟩
def Gz(i j:Nat)(ta:DA):DS:=fun E ρ=>ta ρ fun ds=>∃d e,ds=[d,e]/\E.nx ((ρ.set i (some (.val d))).set j (some (.val e)))
def GN{x y:Str}{a b:Expr}{kt k2 TN}(i j:Nat)(hc:X.calm=true)(hN:X.N.Nodup)(My:i≠j)(ha:OC X [a,b] ta)(hi:X.N[i]?=some x:=by rfl)(hj:X.N[j]?=some y:=by rfl)
  (hx:X.env.scope.names.lookup x=some .local:=by rfl) (hy:X.env.scope.names.lookup y=some .local:=by rfl)
  (hw:swappedStores [.Tuple [.Name x px,.Name y py] kt pt] (.Tuple [a,b] k2 TN) X.env=pure (some [x,y]):=by rfl)
  (hs:swapsWithSole [.Tuple [.Name x px,.Name y py] kt pt] (.Tuple [a,b] k2 TN) pos.line X.env=pure false:=by rfl) :
  MS X (.Assign [.Tuple [.Name x px,.Name y py] kt pt] (.Tuple [a,b] k2 TN) pos) (Gz i j ta):=by
 have Wi:PA X [a,b] (fun σ H Q=>∃W ρ Qd,Rel X W H σ ρ/\ta ρ Qd/\∀vs H' ds,aq H H'->af X.K W.bad H' ds vs->Qd ds->Q vs H'):=by intro pos pins s σ H Q I q;obtain⟨W,ρ,Qd,r,ht,k⟩:=q;exact J0 (ha pos pins s σ H W ρ Qd I r ht) fun us s1 K1=>(by obtain⟨vs,H',ds,I1,rv,e1,hd,qd⟩:=K1;exact⟨vs,H',I1,rv,k vs H' ds e1 hd qd⟩)
 refine MS.of (HS hc hN hi hj My hx hy Wi hw hs) fun σ H W ρ E r hl h=>?_
 refine⟨W,ρ,_,r,h,fun vs H' ds e1 hd q=>?_⟩;obtain⟨d,e,rfl,q⟩:=q;obtain⟨v,u,rfl,h1,h2⟩:=yo hd;have Q5:i<σ.length:=by rw[hl];exact(MZ.mp hi).1
 have jlt:j<(σ.set i (some v)).length:=by rw[UW,hl];exact(MZ.mp hj).1
 have r1:=(r.same e1).put Q5 h1;exact⟨v,u,rfl,_,_,(KI.same e1).trans ((KI.drop W H' i).trans (KI.drop _ H' j)),r1.put jlt (h2.Kw fun _ _=>Own.KS),q⟩
end
def cC(N:yah)(ds:yas):Ro:=ds.map (fun d=>some (.val d))++List.replicate (N.length - ds.length) none
theorem Rel.start{X:Cx}{P:Addr->Prop}{H:Hp}(hP:∀a,P a->∃o,H a=some o)(h:af X.K (fun t a=>t=true∨P a) H ds vs)(hH:X.KY=H)(hT:jc X.K H):Rel X ⟨P,fun _=>none,fun a=>∃o,H a=some o⟩ H (start N vs) (cC N ds) where
 val:=fun i d e=>by
  unfold cC at e;have hl:=h.len;by_cases hi:i<ds.length
  ·rw[OV (by simpa using hi),M9]at e;cases q:ds[i]? with
   |none=>rw[q]at e;cases e
   |some d' =>
    rw[q]at e;have e':d'=d:=by simpa using e
    subst e';obtain⟨v,h1,h2⟩:=h.get q;refine⟨v,?_,h2.Kw fun tg a z=>?_⟩
    ·unfold L2.start;rw[OV (by simpa [hl]using hi),M9,h1];rfl
    ·rcases z with z|⟨j,z⟩| ⟨z,_⟩
     ·exact .inr z
     ·cases z
     ·exact .inl z
  ·rw[NM (by simpa using hi),Vz]at e;split at e<;>cases e
 own:=fun i d e=>by
  unfold cC at e;by_cases hi:i<ds.length
  ·rw[OV (by simpa using hi),M9]at e;cases q:ds[i]? with
   |none=>rw[q]at e;cases e
   |some d'=>rw[q]at e;cases e
  ·rw[NM (by simpa using hi),Vz]at e;split at e<;>cases e
 inj:=fun i j a h _=>by cases h
 kn:=fun i a h=>by cases h
 ke:=fun i a h=>by cases h
 bt:=hP
 st:=fun _ z=>z
 ent:=by rw[hH];exact aq.refl H
 tab:=hT
def bu.there(x:bu P w H h a o):∃u,h.get? a=some u:=by
 cases o with
 |lst xs=>obtain⟨_,_,_,_,e⟩:=x;exact⟨_,e⟩
 |tup xs=>obtain⟨_,_,_,ob,e,_⟩:=x;exact⟨ob,e⟩
 |dK kvs=>obtain⟨_,_,_,_,ob,_,_,e,_⟩:=x;exact⟨ob,e⟩
 |dT kvs=>obtain⟨_,_,_,_,ob,_,_,e,_⟩:=x;exact⟨ob,e⟩
 |set S n=>obtain⟨ob,_,_,_,e,_⟩:=x;exact⟨ob,e⟩
 |ins C dx fs=>obtain⟨_,_,_,e,_⟩:=x;exact⟨_,e⟩
 |own y=>exact x
 |xd fs=>obtain⟨_,⟨ob,_,_,e,_⟩,_⟩:=x;exact⟨ob,e⟩
 |XZ lo hi=>obtain⟨_,_,_,e⟩:=x;exact⟨_,e⟩
 |frz ob u=>obtain⟨e,_⟩:=x;exact⟨ob,e⟩
 |OZ ps=>exact⟨_,x⟩
 |met f y=>exact⟨_,x⟩
 |ext φ=>obtain⟨_,e,_⟩:=x;exact e
def Md.Wu {h' : Heap} (x : Md P w H h) (k : ∀ b u, (∃ o, H b = some o) -> h.get? b = some u -> h'.get? b = some u) : Md P w H h' := fun a o e =>
 (x a o e).O0 (fun b u hb q => k b u (by
  rcases hb with z | z
  ·subst z; exact ⟨o, e⟩
  ·exact ⟨_, z⟩) q) (fun _ q => q) fun _ _ q => q
structure Fl(P:Program)(w:World)(l:List Env)(h₀:Heap)(KY H:Hp)(B h:Heap):Prop where
 un:Un (NQ l) [] KY H h₀ h
 Ku:Md P w H h
 fr:∀b∈NQ l,KY b=none/\∃o,h₀.get? b=some o/\∀vs,o.data ≠ .fields vs
 U9:∀b o,h.get? b=some o->((∃u,H b=some u)∨∃ o',h₀.get? b=some o')->b∉NQ l->B.get? b=some o
section
variable{P:Program}{w:World}{l:List Env}{h₀:Heap}{KY H:Hp}{B h h':Heap}
theorem Fl.free(F:Fl P w l h₀ KY H B h){b:Addr}(hb:b∈NQ l):H b=none:=by obtain⟨n,o,e,_⟩:=F.fr b hb;exact F.un.free b o e n (by simp)
def Fl.step(F:Fl P w l h₀ KY H B h)(st:B.StaysIn h')(sl:h.UpToSlots h'):Fl P w l h₀ KY H B h':=by
 have fr1:∀b o,b∈NQ l->h₀.get? b=some o->∃s',h'.get? b=some {o with slots:=s'}:=fun b o hb e=>by obtain⟨n,o',e',hd⟩:=F.fr b hb;rw[e]at e';cases e';obtain⟨s1,e1⟩:=F.un.slot b o e n hb (by simp);obtain⟨s2,e2⟩:=sl b _ e1 hd;exact⟨s2,e2⟩
 have kp:∀b o,h.get? b=some o->((∃u,H b=some u)∨∃ o',h₀.get? b=some o')->b∉NQ l->h'.get? b=some o:=fun b o e c n=>st b o (F.U9 b o e c n)
 refine⟨⟨fun b o e n hb hx=>kp b o (F.un.keep b o e n hb hx) (.inr ⟨o,e⟩) hb,fun b o e n hb hx=>fr1 b o hb e,F.un.free,fun b o e hx=>?_,F.un.Nv,F.un.Ng,F.un.Nw⟩,PD.Md.Wu F.Ku (fun b u hu e=>kp b u e (.inl hu) fun z=>?_),F.fr,fun b o e c n=>?_⟩
 ·by_cases hb:b∈NQ l
  ·obtain⟨s2,e2⟩:=fr1 b o hb e;exact⟨_,e2⟩
  ·obtain⟨o',e1⟩:=F.un.there b o e hx;exact⟨o',kp b o' e1 (.inr ⟨o,e⟩) hb⟩
 ·obtain⟨o,q⟩:=hu;rw[F.free z]at q;cases q
 ·have:∃o1,h.get? b=some o1:=by
   rcases c with⟨u,c⟩| ⟨o',c⟩
   ·exact PD.bu.there (F.Ku b u c)
   ·exact F.un.there b o' c (by simp)
  obtain⟨o1,e1⟩:=this;have q:=kp b o1 e1 c n;rw[e]at q;cases q;exact F.U9 b o e1 c n
end
def CX1(P:Program)(w:World):CXT:=fun outer H s E e s'=>∃(ea c:Addr) (H':Hp) (B:Heap) (a0:Value),e=.ref ea/\s'.os=s.os/\AllBare s'.gens/\Fl P w outer s.heap H H' B s'.heap/\aq H H'/\H' ea=none/\s.heap.get? ea=none ∧
 Heap.FlyingW B outer ea (.ref c) a0 s'.heap/\E (.ref c) none H'
def yS:Passes (CX1 P w) X E0:=fun _ _ _ _ _ _ _ h=>by obtain⟨_,_,_,_,_,_,_,_,_,_,_,_,_,z⟩:=h;exact z.elim
def MadeX(X:Cx)(Ed:Value->Prop):Prop:=∀(pins:yab) (σ:St) (H:Hp) (W:Own) (ρ:Ro) (s:Shared) (e c:Addr) (vs:yad) (h':Heap),Inv X pins σ H s->Rel X W H σ ρ->Heap.MadeExcOf s.heap h' e (.ref c) vs->Ed (.ref c)->X.xe (.ref e) {s with heap:=h'}
def dh(X:Cx)(Ed:Value->Prop):Prop:=∀(pins:yab) (σ:St) (H:Hp) (W:Own) (ρ:Ro) (s:Shared) (e:Value) (s':Shared),Inv X pins σ H s->Rel X W H σ ρ->CX1 X.prog X.w X.stack H s (fun c _ _=>Ed c) e s'->X.xe e s'
section
variable{P:Program}{w:World}{K:yac}{mg:yam}{base:Heap}{N:yah}{qual:Str}{sc:Scope}{f:Addr}{cd:Value}{A:Around}{outer:List Env}{J9:Shared}{KY:Hp}{E:XK}
def uh{B:Heap}(I:Inv (cE (CX1 P w) P w K mg base N qual sc f cd A outer J9 KY E) pins σ H s)(hS:aq KY H)(hn:H e=none)(RL:J9.heap.get? e=none)
  (U9:∀b o,s.heap.get? b=some o->((∃u,H b=some u)∨∃ o',J9.heap.get? b=some o')->b∉NQ (envOfC qual sc J9.heap.objs.size f cd::outer)->B.get? b=some o)
  (fl:Heap.FlyingW B outer e (.ref c) a0 h') (sl:s.heap.UpToSlots h') (hE:E (.ref c) none H):CX1 P w outer KY J9 E (.ref e) {s with heap:=h'}:=by
 have nf:∀b,((∃u,H b=some u)∨∃ o',J9.heap.get? b=some o')->b∉NQ outer->b∉NQ (envOfC qual sc J9.heap.objs.size f cd::outer):=fun b c n z=>by
  rcases c with⟨u,c⟩| ⟨o',c⟩
  ·have:=I.Oz b z;rw[c]at this;cases this
  ·rcases Kr.mp (I.Ny b z)with q|q
   ·have h1:=LC c;have h2:J9.heap.objs.size<=b:=by rw[q];exact I.ok.above
    exact absurd (MV h1 h2) (Qw _)
   ·exact n q
 have F:Fl P w outer J9.heap KY H B s.heap:=⟨I.base,I.Ku,fun b hb=>⟨I.ok.SJ b hb,by obtain⟨_,o,e,d⟩:=I.ok.M3.mem hb;exact⟨o,e,d⟩⟩,fun b o e c n=>U9 b o e c (nf b c n)⟩
 exact⟨e,c,H,B,a0,rfl,I.os,I.bare,F.step fl.1 sl,hS,hn,RL,fl,hE⟩
def IL{Ed:Value->Prop}(hE:∀c a H',aq KY H'->Ed c->E c a H'):MadeX (cE (CX1 P w) P w K mg base N qual sc f cd A outer J9 KY E) Ed:=by
 intro pins σ H W ρ s e c vs h' I r hx hd;show wpAny (model P w) (A.deeper (envOfC qual sc J9.heap.objs.size f cd)) (leaving (envOfC qual sc J9.heap.objs.size f cd) (.ref e)) _ _ _;refine wpAny_leaves_madeW (base:=PySem.W.hideAll s.heap (NQ (envOfC qual sc J9.heap.objs.size f cd::outer))) (h:=s.heap) (outer:=outer) I.ok.frames rfl (fun b o q=>PySem.W.of_hideAll _ q)
  (PySem.W.funFrames_hide I.stack fun env he b hb=>VG.mpr ⟨env,he,hb⟩) hx fun Wv t x1 _ _ x4=>?_
 have ne:∀{h1:Heap},(∀b o,h1.get? b=some o->∃o',s.heap.get? b=some o')->h1.get? e=none:=fun {h1} k=>by
  cases q:h1.get? e with
  |none=>rfl
  |some o =>
   obtain⟨o',q'⟩:=k e o q;rw[hx.new]at q';cases q'
 refine uh (s:=s) (h':=Wv) I r.ent ?_ (ne fun b o q=>I.base.there b o q (by intro z;cases z)) (fun b o q _ n=>PySem.W.hideAll_get _ q n) x1 (fun b o q d=>?_) (hE _ _ _ r.ent hd)
 ·cases q:H e with
  |none=>rfl
  |some u =>
   obtain⟨o,z⟩:=PD.bu.there (I.Ku e u q);rw[hx.new]at z;cases z
 ·exact x4 b o (hx.keeps b o q) d
def Fh{Ed:Value->Prop}(hE:∀c a H',aq KY H'->Ed c->E c a H'):dh (cE (CX1 P w) P w K mg base N qual sc f cd A outer J9 KY E) Ed:=by
 intro pins σ H W ρ s e s' I r hx;obtain⟨ea,c,H',B,a0,rfl,os,bare,F,sm,hn,RL,fl,hd⟩:=hx;show wpAny (model P w) (A.deeper (envOfC qual sc J9.heap.objs.size f cd)) (leaving (envOfC qual sc J9.heap.objs.size f cd) (.ref ea)) _ _ _;refine wpAny_leaves_onW (outer:=outer) I.ok.frames rfl fl fun Wv x1 x2=>?_
 have I':=I.O1 os F.un F.Ku bare (by intro b z;cases z);refine uh (s:=s') (h':=Wv) I' (r.ent.trans sm) hn ?_ (fun b o q z n=>F.U9 b o q (z.elim .inl fun K1=>(by obtain⟨o',z⟩:=K1;exact .inr (I.base.there b o' z (by intro q;cases q)))) n) x1 x2 (hE _ _ _ (r.ent.trans sm) hd);cases q:J9.heap.get? ea with
 |none=>rfl
 |some o =>
  obtain⟨o',q'⟩:=I.base.there ea o q (by intro z;cases z);rw[RL]at q';cases q'
end
section
variable{X:Cx}{k:Nat}{f:Addr}{fd:FuncData}{ps:yah}{sp:DSp}{x:Str}{p pos:Pos}{e:Expr}{es:yai}{t:DA}
def HY {dds : yas} {XE : yaa} (F : aI X.prog X.w X.K X.mg X.base (CX1 X.prog X.w) k f fd ps (aJ X.K sp)) (hr : bB k X.A) (hb : Binds X.K fd ps dsv) (hd : Vals (dds.map nu) dsv) (hs : ∀ d ∈ dds, tP d)
 (I : Inv X pins σ H s) (rr : Rel X W H σ ρ) (r : Vals vs us) (LJ : af X.K W.bad H ds vs)
  (q : sp (aY ds ++ dds) Q Ed) (hx : ∀ e s', CX1 X.prog X.w X.stack H s (fun c _ _ => Ed c) e s' -> XE e s') : wpAny (model X.prog X.w) X.A (call (.ref f) us) (DP X pins σ W H Q) XE s := by
 have r2 : Vals (vs ++ dds.map nu) (us ++ dsv) := r.append hd;have Q1 : aJ X.K sp (vs ++ dds.map nu) H (fun v H' => aq H H' /\ ∃ d, Den X.K W.bad H' d v /\ Q d) (fun c _ _ => Ed c) :=
  ⟨W.bad false, aY ds ++ dds, Q, Ed, rr.tab, rr.tracked false, (af.aT (fun _ _ => Own.Pt) ds vs LJ).append (af.rn hs), q, fun d v H' e h1 h2 => ⟨e, d, Den.back rr.tracked h1, h2⟩, fun _ _ _ _ z => z⟩
 have hl : (us ++ dsv).length = ps.length := by rw [<- r2.length]; exact F.len _ _ _ _ Q1
 refine wpAny_call (codeAny_mono (F.run X.A X.stack s H ⟨us, []⟩ (us ++ dsv) (vs ++ dds.map nu) _ _ hr I.V4 (hb s us I.NX hl) r2 Q1) fun res s' hq => ?_);cases res with
 | error er => exact hx er s' hq
 | ok fl =>
  cases fl with
  | ret u =>
   obtain ⟨v, H2, I2, r2, e2, d, h1, h2⟩ := I.after hq;exact ⟨v, H2, d, I2, r2, e2, h1, h2⟩
  | next => exact False.elim hq
  | brk => exact False.elim hq
  | cont => exact False.elim hq
end
def Eu{K:yac}(X:K.In h)(q:PySem.W.excIn K C bmB newId=true):∃tl N nm qn bs hd sn sub ab col dd k0 k1 k2 k3 k5 mN,
  h.get? C=some (excClassObj nm qn C N bs tl hd sn sub ab col dd k0 k1 k2 k3 k5 newId)/\h.Ns N mN/\mN "__init__" = none/\OwnTail h bmB tl:=by
 unfold PySem.W.excIn at q;split at q
 next dd cd sl ho =>
  split at q
  next C' tl k0 k1 k2 k3 n k5 hm hs =>
   simp only[RB,beq_iff_eq,Bool.not_eq_true']at q;obtain⟨⟨⟨⟨⟨e1,e2⟩,Ww⟩,ht⟩,Ku⟩,X8⟩:=q;subst e1 e2;cases cd with
   |mk nm bs mro ns qn hd sn sub ab col del =>
    simp only at hm Ww Ku X8;subst hm Ww;have Wx:sl=#[k0,k1,k2,k3,some (.builtin n),k5]:=by apply Array.ext';rw[hs]
    subst Wx;exact⟨tl,ns,nm,qn,bs,hd,sn,sub,ab,col,dd,k0,k1,k2,k3,k5,_,X _ _ ho,.of_isNs (PySem.W.isNs_of_in X Ku),PySem.W.nsMap_none_of_in X Ku X8,PySem.W.tail_of_in X ht⟩
  next=>cases q
 next=>cases q
abbrev zf:yad:=[.type "ValueError", .type "Exception", .type "BaseException", .type "object"]
section
variable{X:Cx}{pos:Pos}
def B5 {e:Expr} {es:yai} (pm:MadeX X Ed) (hg:Gl X x) (hm:X.mg x=some (.ref C)) (q:PySem.W.excIn X.K C zf "ValueError.__new__" = true) (hc:X.calm=true) (ha:OC X (e::es) t)
  (he:starEach (e::es) X.env=(false,eval e X.env)::starEach es X.env:=by rfl) (Lr:(backTo Ko (starEach es X.env)).any (·.1)=false:=by rfl) (NB:(x==("__debug__" : Str))=false:=by decide) :
  MS X (.Raise (some (.Call (.Name x np) (e::es) [] Ko)) none pos) (fun _ ρ=>t ρ fun ds=>ds.length<=sizeLine/\Ed (.ref C)):=by
 intro pins s σ H W ρ E I r h;obtain⟨tl,N,nm,qn,bs,hd,sn,sub,ab,col,dd,k0,k1,k2,k3,k5,mN,hC,hN,X8,T⟩:=Eu I.ok.mod.Nm q;have FB:=PySem.F.excBase_ValueError;refine wpAny_Raise_call_subT (C:=C) (nm:=nm) (q:=qn) (N:=N) (bs:=bs) (bm:=tl) (hdct:=hd) (sn:=sn) (sub:=sub) (ab:=ab) (col:=col) (dd:=dd) (k0:=k0) (k1:=k1) (k2:=k2) (k3:=k3) (k5:=k5) FB (mN:=mN) (T.hasType FB.hasBase) (I.ok.hd hc)
  (by rw[he];show(false || (backTo Ko (starEach es X.env)).any (·.1))=false;rw[Lr];rfl) X8 (iw I hg hm ⟨rfl,?_⟩ NB)
 have hz:=ha Ko pins s σ H W ρ _ I r h;rw[he]at hz ⊢;refine Calls.evalArgs_plain (J0 hz fun us s1 J5=>?_);obtain⟨vs,H1,ds,I1,rv,e1,LJ,z,hE⟩:=J5;exact⟨rfl,by rw[<- LJ.len,rv.length]at z;exact z,I1.bk _ _ hC,hN.keeps I1.bk,T.keeps I1.bk,fun h' ea hm=>pm pins σ H1 W ρ s1 ea C us h' I1 (r.same e1) hm hE⟩
def nk{st:Stmt}:MS X st (fun _ _=>False):=fun _ _ _ _ _ _ _ _ _ h=>h.elim
theorem Rel.wish(r:Rel X W H σ ρ)(E:yaa):Rel (X.wish E) W H σ ρ:=⟨r.val,r.own,r.inj,r.kn,r.ke,r.bt,r.st,r.ent,r.tab⟩
def Rel.Lw(r:Rel (X.wish E) W H σ ρ):Rel X W H σ ρ:=⟨r.val,r.own,r.inj,r.kn,r.ke,r.bt,r.st,r.ent,r.tab⟩
theorem RI.Lw(h:RI (X.wish XE) pins W H E f s'):RI X pins W H E f s':=by
 obtain⟨W',Ky,H',I,fw,q⟩:=h;refine⟨W',Ky,H',I.Lw,fw,?_⟩;cases f with
 |next=>obtain⟨JY,r,q⟩:=q;exact⟨JY,r.Lw,q⟩
 |brk=>obtain⟨JY,r,q⟩:=q;exact⟨JY,r.Lw,q⟩
 |cont=>obtain⟨JY,r,q⟩:=q;exact⟨JY,r.Lw,q⟩
 |ret u=>exact q
theorem cf.U5{st:yal}{t:DS}(h:cf X.U5 st t):cf X st t:=fun pins s σ H W ρ E I r hw =>
 NP (h pins s σ H W ρ E (I.wish _) (r.wish _) hw) (fun _ _ q=>q.Lw) fun _ _ z=>False.elim z
abbrev Cx.markX(X:Cx)(e:Value):Cx:={X with A:=X.A.mark (some e),calm:=false,xe:=fun _ _=>False}
def Inv.marked(I:Inv X pins σ H s)(e:Value):Inv (Cx.markX X e) pins σ H s :=
 have ok:=I.ok
 ⟨⟨ok.mod,ok.kind,ok.glob,ok.blt,ok.above,ok.inj,ok.has,ok.Qy,(fun z=>by cases z),ok.frames,ok.VZ,ok.YN,ok.bs,ok.SH,ok.Qf,ok.QY,ok.M3,ok.SJ⟩,I.os,I.bare,I.base,I.loc,I.cell,I.free,I.LK,I.pin,I.Ku,I.len⟩
def Inv.unmark(J:Inv (Cx.markX X e) pins σ H s)(ok:X.Ok):Inv X pins σ H s :=
 ⟨ok,J.os,J.bare,J.base,J.loc,J.cell,J.free,J.LK,J.pin,J.Ku,J.len⟩
def Rel.marked(r:Rel X W H σ ρ)(e:Value):Rel (Cx.markX X e) W H σ ρ:=⟨r.val,r.own,r.inj,r.kn,r.ke,r.bt,r.st,r.ent,r.tab⟩
def Rel.unmark(r:Rel (Cx.markX X e) W H σ ρ):Rel X W H σ ρ:=⟨r.val,r.own,r.inj,r.kn,r.ke,r.bt,r.st,r.ent,r.tab⟩
def Inv.Wz(I:Inv X pins σ H s)(hn:H e=none)(h0:X.J9.heap.get? e=none)(hL:e≠X.env.locals)(hc:∀x c,X.env.cells.lookup x=some c->c≠e)(hp:∀p∈X.pn++pins,p.1≠e)
  (new:bu X.prog X.w (L2.upd H e o) s.heap e o):Inv X pins σ (L2.upd H e o) s:=by
 refine⟨I.ok,I.os,I.bare,⟨I.base.keep,I.base.slot,fun b u q n x=>?_,I.base.there,fun b xs q=>?_,fun b u xs q=>?_,fun b ps q=>?_⟩,I.loc,I.cell,by rw[aw (Ne.symm hL)];exact I.free,fun x c q=>by rw[aw (hc x c q)];exact I.LK x c q,fun p q=>?_,fun b u q=>?_,I.len⟩
 ·rw[aw (fun z=>by rw[z,h0]at q;cases q)];exact I.base.free b u q n x
 ·have:=I.base.Nv b xs q;rw[aw (bf this hn)];exact this
 ·have:=I.base.Ng b u xs q;rw[aw (bf this hn)];exact this
 ·obtain⟨more,this⟩:=I.base.Nw b ps q;exact⟨more,by rw[aw (bf this hn)];exact this⟩
 ·obtain⟨p1,p2,p3⟩:=I.pin p q;exact⟨p1,by rw[aw (hp p q)];exact p2,p3⟩
 ·by_cases hb:b=e
  ·subst hb;rw[aO]at q;cases q;exact new
  ·rw[aw hb]at q;exact(I.Ku b u q).O0 (fun c v _ z=>z) (fun c z=>by rw[aw (bf z hn)];exact z) fun c xs z=>by rw[aw (bf z hn)];exact z
def AB{i:Nat}{n:Str}{Q:Unit->Shared->Prop}(I:Inv X pins σ H s)(hN:X.N.Nodup)(hi:X.N[i]?=some n)(hk:X.env.scope.names.lookup n=some .local)
  (h:∀s',Inv X pins (σ.set i none) H s'->Q () s'):wpAny M A (do bindName X.env n .none;unbindBehindTheSuite X.env n pos) Q E s:=by
 obtain⟨m,hn,hl⟩:=id I.loc;refine wpAny_nameGoes_keeps hk hn (by rw[I.ok.kind];rfl) fun h' v YU hs=>h _ ?_
 have U4:∀b o,X.J9.heap.get? b=some o->b≠X.env.locals:=fun b o e=>Nf (MV (LC e) I.ok.above)
 refine⟨I.ok,I.os,I.bare,⟨fun b o e z hb hx=>(hs.2 b (U4 b o e)).trans (I.base.keep b o e z hb hx),fun b o e z hb hx=>?_,I.base.free,fun b o e hx=>?_,I.base.Nv,I.base.Ng,I.base.Nw⟩,⟨_,YU,fun j y v' e1 e2 e3=>?_⟩,fun y c e=>?_,I.free,I.LK,fun p hp=>?_,fun b ob e=>?_,by simpa using I.len⟩
 ·obtain⟨sl,e1⟩:=I.base.slot b o e z hb hx;exact⟨sl,(hs.2 b (U4 b o e)).trans e1⟩
 ·obtain⟨o',e1⟩:=I.base.there b o e hx;exact⟨o',(hs.2 b (U4 b o e)).trans e1⟩
 ·by_cases hj:j=i
  ·subst hj;rw[List.getElem?_set]at e2;simp at e2
  ·rw[Oa (Ne.symm hj)]at e2;obtain⟨u',r',q⟩:=hl j y v' e1 e2 e3;refine⟨u',r',?_⟩;rcases q with⟨k,e⟩| ⟨k,c,e,z⟩
   ·refine .inl ⟨k,?_⟩;have:y≠n:=fun e=>hj (nG hN e1 (e ▸ hi))
    simp[this,e]
   ·exact .inr ⟨k,c,e,z.sameBut hs (I.RW y c e)⟩
 ·obtain⟨w',z⟩:=I.cell y c e;exact⟨w',z.sameBut hs (I.RW y c e)⟩
 ·obtain⟨e,z,ne,nf,d⟩:=I.pin p hp;exact⟨(hs.2 p.1 ne).trans e,z,ne,nf,d⟩
 ·refine(I.Ku b ob e).O0 (fun c w' hc q=>(hs.2 c ?_).trans q) (fun _ q=>q) fun _ _ q=>q
  intro z;rcases hc with hc|hc
  ·rw[<- hc,z,I.free]at e;cases e
  ·rw[z,I.free]at hc;cases hc
def Rel.unset{i:Nat}(r:Rel X W H σ ρ)(hi:i<σ.length):Rel X (W.drop i) H (σ.set i none) (ρ.set i none):=by
 have at_:∀{j:Nat} {x:Sl},(ρ.set i none)[j]?=some (some x)->j≠i/\ρ[j]?=some (some x):=fun {j x} h=>by
  by_cases hj:j=i
  ·subst hj;rw[List.getElem?_set]at h;simp at h
  ·rw[Oa (Ne.symm hj)]at h;exact⟨hj,h⟩
 have dr:∀{j:Nat} {a:Addr},(W.drop i).O j=some a->j≠i/\W.O j=some a:=fun {j a} h=>by
  have h':(if j=i then none else W.O j)=some a:=h;by_cases e1:j=i
  ·rw[JU e1]at h';cases h'
  ·rw[JT e1]at h';exact⟨e1,h'⟩
 refine⟨fun j d h=>?_,fun j ds h=>?_,fun j k a h1 h2=>r.inj j k a (dr h1).2 (dr h2).2,fun j a h=>r.kn j a (dr h).2,fun j a h=>r.ke j a (dr h).2,r.bt,r.st,r.ent,r.tab⟩
 ·obtain⟨hj,h⟩:=at_ h;obtain⟨v,h1,h2⟩:=r.val j d h;exact⟨v,by rw[Oa (Ne.symm hj)];exact h1,h2.Kw fun _ _=>Own.KS⟩
 ·obtain⟨hj,h⟩:=at_ h;obtain⟨a,vs,h1,h2,h3,h4⟩:=r.own j ds h;exact⟨a,vs,by show(if j=i then none else W.O j)=_;rw[JT hj];exact h1,by rw[Oa (Ne.symm hj)];exact h2,h3,by rw[UW];exact h4.Kw (fun _ _=>Own.KS) (Own.ND hi)⟩
def BW(K:yac)(C:Addr)(i:Nat)(sp:DSp)(t:DA)(su:DS):DS:=fun E ρ=>t ρ fun ds=>sp (aY ds) (fun _=>E.nx ρ) fun cv=>∃c,cv=.ref c/\et K c/\PySem.W.exmOne K (.ref c) (.ref C)=some true ∧
 su ⟨fun JY=>E.nx (JY.set i none),E.rt,fun JY=>E.bk (JY.set i none),fun JY=>E.ct (JY.set i none)⟩ (ρ.set i (some (.val (.exc c))))
def GP{n:Str}{ep:Pos}{e:Expr}{es:yai}{Q6:Stmt}{O5:yal}(i:Nat)(F:aI X.prog X.w X.K X.mg X.base (CX1 X.prog X.w) k f fd ps (aJ X.K sp))(hr:bB k X.A)(hm:X.mg g=some (.ref f))(hk:PySem.W.keepIn X.K (.ref f)=true)(hb:Binds X.K fd ps [])
  (hN:X.N.Nodup) (Zc:X.mg x=some (.ref C)) (ha:OC X.U5 (e::es) t) (Zd:∀v,cf (Cx.markX X v) (Q6::O5) su) (Ze:Gl X g:=by rfl) (Zf:Gl X x:=by rfl) (hi:X.N[i]?=some n:=by rfl) (R9:X.env.scope.names.lookup n=some .local:=by rfl)
  (hex:X.ex=[]:=by rfl) (MT:X.stack=X.env::X.outer:=by rfl) (Zg:X.env.frame=some X.env.locals:=by rfl) (NB:(g==("__debug__" : Str))=false:=by decide) (Zh:(x==("__debug__" : Str))=false:=by decide) (he:starEach (e::es) X.env=(false,eval e X.env)::starEach es X.env:=by rfl) (Lr:(backTo cp (starEach es X.env)).any (·.1)=false:=by rfl)
  (hs:swapsWith (.Call (.Name g p) (e::es) [] cp) none ep.line X.env=pure false:=by rfl) :
  MS X (.Try [.Expr (.Call (.Name g p) (e::es) [] cp) ep] [.ExceptHandler (some (.Name x np)) (some n) (Q6::O5) hp] [] [] pos) (BW X.K C i sp t su):=by
 intro pins s σ H W ρ E I rr h;refine wpAny_Try_except (wpAny_execs_cons (wpAny_Expr_any (RA (iw I Ze hm ?_ NB)) I.quiet hs));refine PySem.W.callWith_K (h₀:=X.base) I.ok.mod.Nm hk (NP (ha cp pins s σ H W ρ _ (I.wish _) (rr.wish _) h) (fun us s1 ⟨vs,H1,ds,I1,r,e1,LJ,q⟩=>⟨I1.Lw.NX,?_⟩) fun _ _ z=>False.elim z) he Lr;have I1:=I1.Lw;have Zi:=rr.same e1;have ist:i<σ.length:=Inv.Q5 I hi;refine NP (HY (dds:=[]) (dsv:=[]) F hr hb .nil (by simp) I1 Zi r LJ (by rw[Pa];exact q) fun er s' hx=>?_) (fun u s2 K1=>(by obtain⟨v,H2,d,I2,r2,e2,hd2,q2⟩:=K1;exact UX (UX ⟨W,σ,H2,I2,KI.same (e1.trans e2),ρ,Zi.same e2,q2⟩))) fun _ _ z=>z
 obtain⟨ea,c,H',B,a0,rfl,os,bare,Ff,sm,hn,RL,fl,c',PR,xk,exm,Zj⟩:=hx;cases PR;have fr':X.A.frames=some (X.env::X.outer):=by rw[<- MT];exact I.ok.frames
 rw[MT]at fl;refine wpAny_looks_onW fr' Zg fl fun h4 x4 u4=>wpAny_landsW x4 fun h5 x5 u5=>?_
 have F5:=(Ff.step x4.1 u4).step x5.1 u5;have I5:Inv X pins σ H' {s' with heap:=h5}:=I1.O1 os F5.un F5.Ku bare (by intro b z;cases z);have Zk:∀{h':Heap},Heap.FlyingW B (X.env::X.outer) ea (.ref c) a0 h'->ExcAt ea c h':=fun {h'} x=>by obtain⟨oe,ws,q1,q2,q3,_⟩:=x.first;exact⟨oe,ws,q1,q2,q3⟩
 refine wpAny_handleBy_cons (codeAny_handlers_test (iw (Inv.marked I5 (.ref ea)) Zf Zc ?_ Zh)) (by intro q;cases q);refine(PySem.W.exm_one I5.NX (ExcAt.ty (Zk x5)) exm).here ?_;refine codeAny_handlers_suite_as (lands_againW x5 fun h6 x6 u6=>?_);have F6:=F5.step x6.1 u6;have I6:Inv X pins σ H' {s' with heap:=h6}:=I1.O1 os F6.un F6.Ku bare (by intro b z;cases z);have I7:Inv X pins σ (L2.upd H' ea (.ext (ExcAt ea c))) {s' with heap:=h6}:=by
  refine Inv.Wz I6 hn ?_ ?_ (fun y c' q z=>?_) (fun p hp z=>?_) ⟨Zk x6,?_,fun h1 h2 q z=>?_⟩
  ·cases q:X.J9.heap.get? ea with
   |none=>rfl
   |some o =>
    by_cases hx:ea∈X.ex
    ·rw[hex]at hx;cases hx
    ·obtain⟨o',q'⟩:=I1.base.there ea o q hx;rw[RL]at q';cases q'
  ·intro z;obtain⟨m,⟨o,_,_,q,_⟩,_⟩:=I1.loc;rw[<- z,RL]at q;cases q
  ·obtain⟨w',o,z',_⟩:=I1.cell y c' q;rw[z,RL]at z';cases z'
  ·have:=(I1.pin p hp).1;rw[z,RL]at this;cases this
  ·obtain⟨oe,ws,q1,_⟩:=Zk x6;exact⟨oe,q1⟩
  ·obtain⟨oe,ws,q1,q2,q3⟩:=q;exact⟨oe,ws,z _ q1,q2,q3⟩
 have smu:aq H' (L2.upd H' ea (.ext (ExcAt ea c))):=aq.upd hn;refine eS (X:=Cx.markX X (.ref ea)) (v:=.ref ea) (Inv.marked I7 (.ref ea)) hN hi (.inl R9) rfl (fun s7 J7=>?_) (.inr R9);have WA:Rel X (W.drop i) (L2.upd H' ea (.ext (ExcAt ea c))) (σ.set i (some (.ref ea))) (ρ.set i (some (.val (.exc c)))):=((Zi.same sm).same smu).put ist (Den.exc aO xk);refine NP (Zd (.ref ea) pins s7 _ _ _ _ _ J7 (Rel.marked WA _) Zj) (fun fw s8 q8=>?_) fun _ _ z=>False.elim z
 obtain⟨W8,σ8,H8,J8,f8,q8⟩:=q8;have ff:KI W H (W8.drop i) H8:=(KI.same ((e1.trans sm).trans smu)).trans ((KI.drop W _ i).trans (f8.trans (KI.drop W8 H8 i)));refine AB (Inv.unmark J8 I.ok) hN hi R9 fun s9 I9=>⟨W8.drop i,_,H8,I9,ff,?_⟩
 cases fw with
 |next=>obtain⟨ρ8,r8,n8⟩:=q8;exact⟨_,(Rel.unmark r8).unset (Inv.Q5 (Inv.unmark J8 I.ok) hi),n8⟩
 |brk=>obtain⟨ρ8,r8,n8⟩:=q8;exact⟨_,(Rel.unmark r8).unset (Inv.Q5 (Inv.unmark J8 I.ok) hi),n8⟩
 |cont=>obtain⟨ρ8,r8,n8⟩:=q8;exact⟨_,(Rel.unmark r8).unset (Inv.Q5 (Inv.unmark J8 I.ok) hi),n8⟩
 |ret v=>obtain⟨x8,d8,r8,h8,n8⟩:=q8;exact⟨x8,d8,r8,h8.Kw fun _ _=>Own.KS,n8⟩
def Gv(K:yac)(c:Value)(te:DE):DE:=fun ρ Q=>te ρ fun d=>∃b,PySem.W.kitOne K (RG d) c=some b/\Q (.bl b)
def gU {p:Pos} {c:Value} (hg:Gl X "isinstance") (hm:X.mg "isinstance" = none) (hx:PE X (.Name x p') (tC cv)) (rc:∀u,RelV cv u->u=c) (he:Kn X e te)
  (MT:starEach [e,.Name x p'] X.env=(false,eval e X.env)::starEach [.Name x p'] X.env:=by rfl) (Qm:starEach [.Name x p'] X.env=(false,eval (.Name x p') X.env)::starEach [] X.env:=by rfl) (T4:(backTo pos (starEach [.Name x p'] X.env)).any (·.1)=false:=by rfl) :
  Kn X (.Call (.Name "isinstance" p) [e,.Name x p'] [] pos) (Gv X.K c te):=by
 intro pins s σ H W ρ Q I rr h;have Wi:PA X [e,.Name x p'] (p8 (yz X te) (p8 (tC cv) De)):=fH he.pe (fH hx lr Qm) MT;refine RA (dQ I hg hm boot_isinstance ?_ (by decide) (by decide));refine PyProof.Rows.callWith_builtin1 (J0 (Wi pos pins s σ H (fun vs H1=>∃v d,vs=[v,cv]/\aq H H1/\Den X.K W.bad H1 d v/\∃b,PySem.W.kitOne X.K (RG d) c=some b/\Q (.bl b)) I ⟨W,ρ,_,rr,h,fun v H1 d e1 hd q1=>⟨v,d,rfl,e1,hd,q1⟩⟩) fun us s1 J5=>?_) MT T4;obtain⟨vs,H1,I1,rv,v,d,ev,e1,hd,b,kb,q1⟩:=J5;subst ev;cases rv with
 |cons r1 rr =>
  cases rr with
  |cons r2 rr =>
   cases rr;have:=rc _ r2;subst this;exact uS I1 hd r1 kb fun tk=>⟨.bl _,H1,_,I1.tok tk,rfl,e1,Den.bl _,q1⟩
end
def xO(base:Heap)(l:List Env)(e:Addr)(cls a0:Value)(h:Heap):Prop:=base.StaysIn h/\base.get? e=none/\h.FunFrames base l/\∃fl,h.TracedAtW base e cls a0 fl
section
variable{M:Model}{A:Around}{E:yaa}{s:Shared}{base:Heap}{l outer:List Env}{env:Env}{e L:Addr}{cls a0:Value}
def EY{Q:Unit->Shared->Prop}(Zm:A.frames=some (env::outer))(hf:env.frame=some L)(R:xO base (env::outer) e cls a0 s.heap)
  (h:∀h',xO base (env::outer) e cls a0 h'->s.heap.UpToSlots h'->Q () {s with heap:=h'}):wpAny M A (noteFrame (.ref e) env) Q E s:=by
 obtain⟨k1,k2,k3,fl,oe,vs,T,oT,ts,g1,g2,g3,g4,g5,g6,g7,g8,g9⟩:=id R;by_cases hfl:(fl==rawInt L)=true
 ·have efl:fl=rawInt L:=by simpa using hfl
  subst efl;exact wpAny_noteFrame_againW (base:=base) (cls:=cls) (a0:=a0) hf ⟨oe,vs,T,oT,ts,g1,g2,g3,g4,g5,g6,g7,g8,g9⟩ (h _ R (Heap.UpToSlots.refl _))
 ·obtain⟨ec,g0⟩:=g2;subst ec;unfold noteFrame;simp only[hf];refine JX (wpAny_field g1 g3 g4 ?_);rw[JU (by simp)];refine JX (wpAny_field g7 g8 g9 ?_);rw[JT hfl];refine JX (wpAny_setField g7 g8 (Sv.mp g9).1 ?_);have Px:∀b,b≠T->(s.heap.update T (Obj.mapFields (·.setIfInBounds 3 Value.none))).get? b=s.heap.get? b:=fun b hb=>Tq _ _ (Ne.symm hb)
  have WC:∀b o,s.heap.get? b=some o->(∀vs,o.data ≠ .fields vs)->b≠T:=fun b o hb hn q=>by rw[q,g7]at hb;cases hb;exact hn ts g8
  refine wpAny_entryW (base:=base) Zm (k3.of_keeps fun b o hb hn=>⟨o,(Px b (WC b o hb hn)).trans hb,rfl⟩) hf ((Px e (Ne.symm g6)).trans g1) (fun b o hb=>(Px b fun q=>by rw[q,g5]at hb;cases hb).trans (k1 b o hb)) k2 g3 (Sv.mp g4).1 g0 fun h' hN=>?_
  obtain⟨n1,n2,n3,n4⟩:=hN;exact h h' ⟨n1,k2,n2,_,n3⟩ fun b o hb hn=>n4 b o ((Px b (WC b o hb hn)).trans hb) hn
def Co{Q:Unit->Shared->Prop}(Zm:A.frames=some (env::outer))(hf:env.frame=some L)(R:xO base (env::outer) e cls a0 s.heap)
  (h:∀h',Heap.FlyingW base outer e cls a0 h'->s.heap.UpToSlots h'->Q () {s with heap:=h'}):wpAny M A (leaving env (.ref e)) Q E s:=by
 unfold leaving;refine JX (EY Zm hf R fun h1 R1 s1=>?_);obtain⟨k1,k2,k3,fl,k4⟩:=R1;refine wpAny_setFlight_noneW (base:=base) k1 k3 k4 fun h2 m1 m2 m3 m4=>?_
 obtain⟨_,_,m2⟩:=m2;exact h h2 ⟨m1,k2,m2,m3⟩ (s1.trans fun b o hb hn=>⟨o.slots,m4 b o hb hn⟩)
end
def xV(X:Cx)(Ed:Value->Prop):Prop:=∀(pins:yab) (σ:St) (H:Hp) (W:Own) (ρ:Ro) (s s':Shared) (ea c:Addr) (H':Hp) (B:Heap) (a0:Value),Inv X pins σ H s->Rel X W H σ ρ->s'.os=s.os->AllBare s'.gens->Fl X.prog X.w X.stack s.heap H H' B s'.heap->aq H H'->H' ea=none->s.heap.get? ea=none →
 xO B X.stack ea (.ref c) a0 s'.heap->Ed (.ref c)->X.xe (.ref ea) s'
section
variable{P:Program}{w:World}{K:yac}{mg:yam}{base:Heap}{N:yah}{qual:Str}{sc:Scope}{f:Addr}{cd:Value}{A:Around}{outer:List Env}{J9:Shared}{KY:Hp}{E:XK}
def II{Ed:Value->Prop}(hE:∀c a H',aq KY H'->Ed c->E c a H'):xV (cE (CX1 P w) P w K mg base N qual sc f cd A outer J9 KY E) Ed:=by
 intro pins σ H W ρ s s' ea c H' B a0 I r os bare F sm hn RL R hd;show wpAny (model P w) (A.deeper (envOfC qual sc J9.heap.objs.size f cd)) (leaving (envOfC qual sc J9.heap.objs.size f cd) (.ref ea)) _ _ _;refine Co (outer:=outer) I.ok.frames rfl R fun Wv x1 x2=>?_
 have I':=I.O1 os F.un F.Ku bare (by intro b z;cases z);refine uh (s:=s') (h':=Wv) I' (r.ent.trans sm) hn ?_ (fun b o q z n=>F.U9 b o q (z.elim .inl fun K1=>(by obtain⟨o',z⟩:=K1;exact .inr (I.base.there b o' z (by intro q;cases q)))) n) x1 x2 (hE _ _ _ (r.ent.trans sm) hd);cases q:J9.heap.get? ea with
 |none=>rfl
 |some o =>
  obtain⟨o',q'⟩:=I.base.there ea o q (by intro z;cases z);rw[RL]at q';cases q'
end
section
variable{P:Program}{w:World}{K:yac}{mg:yam}{base:Heap}
structure av(K:yac)(x qual:Str)(st:Stmt)(f:Addr)(fd:FuncData):Prop where
 ex:∃(oc:Value) (od:Option Addr) (dV kV doc pm:Value) (an:Option Addr) (Ks ct:Value) (RX:Array (yan)),
  fd=PySem.W.fnOf x qual (cw st) (bL st) (aj st) dV kV doc pm an Ks ct/\K.lookup f=some ⟨oc,od,.func fd,RX⟩/\PySem.W.codeIn K Ks qual=true
 kp:PySem.W.keepIn K (.ref f)=true
def av.okC {x qual : Str} {st : Stmt} {f : Addr} {fd : FuncData} {N ps : yah} {k : Nat} {sp : DSp} (F : av K x qual st f fd) (S : ax N ps (aj st)) (len : ∀ ds Q E, sp ds Q E -> ds.length = ps.length)
  (NA : ∀ (Ks : Value), fd.code = Ks -> ∀ (A : Around) (outer : List Env) (s : Shared) (H : Hp) (E : XK) (Ed : Value -> Prop), bB k (A.deeper (envOfC qual (aj st) s.heap.objs.size f Ks)) -> MadeX (cE (CX1 P w) P w K mg base N qual (aj st) f Ks A outer s H E) Ed -> dh (cE (CX1 P w) P w K mg base N qual (aj st) f Ks A outer s H E) Ed -> xV (cE (CX1 P w) P w K mg base N qual (aj st) f Ks A outer s H E) Ed →
   ∃ t, cf (cE (CX1 P w) P w K mg base N qual (aj st) f Ks A outer s H E) (bL st) t /\ ∀ ds Q, sp ds Q Ed -> t { nx := fun _ => Q .Kt, rt := Q } (cC N ds)) : aI P w K mg base (CX1 P w) (k + 1) f fd ps (aJ K sp) := by
 obtain ⟨oc, od, dV, kV, doc, pm, an, Ks, ct, RX, rfl, lk, Nb⟩ := F.ex;refine IE lk Nb S (fun vs H Q E h => ?_) fun A outer s H vs Q E hr h => ?_
 ·obtain ⟨_, ds, _, _, _, _, hd, hs, _⟩ := h;rw [hd.len];exact len ds _ _ hs
 ·obtain ⟨Pb, ds, Qd, Ed, hT, hP, hd, hs, kq, ke⟩ := h;obtain ⟨t, ht, k⟩ := NA Ks rfl A outer s H E Ed hr (IL ke) (Fh ke) (II ke);refine ⟨_, ht.ps, ⟨Pb, fun _ => none, fun a => ∃ o, H a = some o⟩, _, _, Rel.start hP hd rfl hT, k ds Qd hs, fun W' Ky H' JY f r q => ?_, fun W' H' v d f Pd q => ?_, fun _ _ _ _ _ _ q => q, fun _ _ _ _ _ _ q => q⟩
  ·exact kq .Kt .Kt H' ⟨fun b o e n => f.kp b o (fun i z => by cases z) e n, f.tb, f.ok⟩ Den.Kt q
  ·refine kq d v H' ⟨fun b o e n => f.kp b o (fun i z => by cases z) e n, f.tb, f.ok⟩ (Pd.Kw fun t a z => ?_) q;rcases z with z | z
   ·exact .inl (by rw [f.B]; exact z)
   ·exact .inr (.inr ⟨z.1, by rw [f.S]; exact z.2⟩)
def av.okX {x qual : Str} {st : Stmt} {f : Addr} {fd : FuncData} {N ps : yah} {k : Nat} {sp : DSp} (F : av K x qual st f fd) (S : ax N ps (aj st)) (len : ∀ ds Q E, sp ds Q E -> ds.length = ps.length)
  (NA : ∀ (Ks : Value) (A : Around) (outer : List Env) (s : Shared) (H : Hp) (E : XK) (Ed : Value -> Prop), bB k (A.deeper (envOfC qual (aj st) s.heap.objs.size f Ks)) -> MadeX (cE (CX1 P w) P w K mg base N qual (aj st) f Ks A outer s H E) Ed -> dh (cE (CX1 P w) P w K mg base N qual (aj st) f Ks A outer s H E) Ed -> xV (cE (CX1 P w) P w K mg base N qual (aj st) f Ks A outer s H E) Ed →
   ∃ t, cf (cE (CX1 P w) P w K mg base N qual (aj st) f Ks A outer s H E) (bL st) t /\ ∀ ds Q, sp ds Q Ed -> t { nx := fun _ => Q .Kt, rt := Q } (cC N ds)) : aI P w K mg base (CX1 P w) (k + 1) f fd ps (aJ K sp) := av.okC F S len fun Ks _ => NA Ks
def av.okN {x qual : Str} {st : Stmt} {f : Addr} {fd : FuncData} {N ps : yah} {k : Nat} {sp : DSp} (F : av K x qual st f fd) (S : ax N ps (aj st)) (len : ∀ ds Q E, sp ds Q E -> ds.length = ps.length)
  (NA : ∀ (Ks : Value) (A : Around) (outer : List Env) (s : Shared) (H : Hp) (E : XK), bB k (A.deeper (envOfC qual (aj st) s.heap.objs.size f Ks)) →
   ∃ t, cf (cE (CX1 P w) P w K mg base N qual (aj st) f Ks A outer s H E).U5 (bL st) t /\ ∀ ds Q Ed, sp ds Q Ed -> t { nx := fun _ => Q .Kt, rt := Q } (cC N ds)) : aI P w K mg base (CX1 P w) (k + 1) f fd ps (aJ K sp) :=
 av.okX F S len fun Ks A outer s H E Ed hr _ _ _ => by obtain ⟨t, ht, k⟩ := NA Ks A outer s H E hr;exact ⟨t, ht.U5, fun ds Q h => k ds Q Ed h⟩
def mh{x qual:Str}{st:Stmt}{f:Addr}{oc:Value}{od an:Option Addr}{RX:Array (yan)}{dV kV doc pm Ks ct:Value}(l:K.lookup f=some ⟨oc,od,.func (PySem.W.fnOf x qual (cw st) (bL st) (aj st) dV kV doc pm an Ks ct),RX⟩)
  (c:PySem.W.codeIn K Ks qual=true) (k:PySem.W.keepIn K (.ref f)=true):av K x qual st f (PySem.W.fnOf x qual (cw st) (bL st) (aj st) dV kV doc pm an Ks ct):=⟨⟨oc,od,dV,kV,doc,pm,an,Ks,ct,RX,rfl,l,c⟩,k⟩
end
open PySem PySem.Spec PyProof.Rows L2
def Ls(P:Program)(w:World)(K:yac)(mg:yam)(base:Heap)(x:Str)(k:Nat)(ps:yah)(sp:DSp):Prop :=
 ∃ f fd,aI P w K mg base (CX1 P w) k f fd ps (aJ K sp)/\mg x=some (.ref f)/\PySem.W.keepIn K (.ref f)=true/\Binds K fd ps []
section
variable{X:Cx}{k:Nat}{ps:yah}{sp:DSp}{x:Str}{p pos:Pos}{e:Expr}{es:yai}{t:DA}
def Ei (h:Ls X.prog X.w X.K X.mg X.base x k ps sp) (hr:bB k X.A) (ha:OC X (e::es) t) (hg:Gl X x:=by rfl) (NB:(x==("__debug__" : Str))=false:=by decide)
  (he:starEach (e::es) X.env=(false,eval e X.env)::starEach es X.env:=by rfl) (Lr:(backTo pos (starEach es X.env)).any (·.1)=false:=by rfl):Kn X (.Call (.Name x p) (e::es) [] pos) (lW sp [] t):=by
 obtain⟨f,fd,F,hm,hk,hb⟩:=h;exact uD (dds:=[]) (dsv:=[]) F hr hg hm hk hb .nil (by simp) yS ha NB he Lr
def au (h:Ls X.prog X.w X.K X.mg X.base x k ps sp) (hr:bB n X.A) (ha:OC X (e::es) t) (hk:k<=n:=by decide) (hg:Gl X x:=by rfl) (NB:(x==("__debug__" : Str))=false:=by decide)
  (he:starEach (e::es) X.env=(false,eval e X.env)::starEach es X.env:=by rfl) (Lr:(backTo pos (starEach es X.env)).any (·.1)=false:=by rfl):Kn X (.Call (.Name x p) (e::es) [] pos) (lW sp [] t):=Ei h (hr.mono hk) ha hg NB he Lr
def Em{n:Str}{ep:Pos}{Q6:Stmt}{O5:yal}(i:Nat)(h:Ls X.prog X.w X.K X.mg X.base x k ps sp)(hr:bB k X.A)(hN:X.N.Nodup)(Zc:X.mg y=some (.ref C))(ha:OC X.U5 (e::es) t)(Zd:∀v,cf (Cx.markX X v) (Q6::O5) su)
  (Ze:Gl X x:=by rfl) (Zf:Gl X y:=by rfl) (hi:X.N[i]?=some n:=by rfl) (R9:X.env.scope.names.lookup n=some .local:=by rfl)
  (hex:X.ex=[]:=by rfl) (MT:X.stack=X.env::X.outer:=by rfl) (Zg:X.env.frame=some X.env.locals:=by rfl) (NB:(x==("__debug__" : Str))=false:=by decide) (Zh:(y==("__debug__" : Str))=false:=by decide) (he:starEach (e::es) X.env=(false,eval e X.env)::starEach es X.env:=by rfl) (Lr:(backTo cp (starEach es X.env)).any (·.1)=false:=by rfl)
  (hs:swapsWith (.Call (.Name x p) (e::es) [] cp) none ep.line X.env=pure false:=by rfl) :
  MS X (.Try [.Expr (.Call (.Name x p) (e::es) [] cp) ep] [.ExceptHandler (some (.Name y np)) (some n) (Q6::O5) hp] [] [] pos) (BW X.K C i sp t su):=by
 obtain⟨f,fd,F,hm,hk,hb⟩:=h;exact GP i F hr hm hk hb hN Zc ha Zd Ze Zf hi R9 hex MT Zg NB Zh he Lr hs
end
theorem Gk{CX:CXT}{P:Program}{w:World}{K:yac}{mg:yam}{base:Heap}{N:yah}{qual:Str}{sc:Scope}{f:Addr}{cd:Value}{A:Around}{outer:List Env}{s:Shared}{H:Hp}{E:XK}:(cE CX P w K mg base N qual sc f cd A outer s H E).K=K:=rfl
theorem FO(c:Addr):RG (.exc c)=.ref c:=rfl
theorem Am(c:Addr):j4 (.exc c)=false:=rfl
def X9{K:yac}{t c:Value}{b:Bool}(h:PySem.W.kitOne K t c=some b)(R:Bool->Prop):(∃b',PySem.W.kitOne K t c=some b'/\R b')=R b:=by
 apply propext;constructor
 ·rintro⟨b',e,q⟩;rw[h]at e;cases e;exact q
 ·intro q;exact⟨b,h,q⟩
def Zn(R:D->(D->Prop)->Prop):DSp:=fun ds Q _=>∃a,ds=[a]/\R a Q
def LL(R:D->D->(D->Prop)->Prop):DSp:=fun ds Q _=>∃a b,ds=[a,b]/\R a b Q
def pY:DSp:=fun ds Q _=>∃ns:yaf,ds=[.lst false (ns.map .int)]/\ns.length<=63/\Q (.bl true)
theorem rV{K:yac}{P:yak}{H:Hp}:∀ns:yaf,af K P H (ns.map D.int) (ns.map V.int)
 |[]=>af.nil
 |n::r=>af.cons (Den.int n) (rV r)
def Ho{K:yac}{H:Hp}{a:Addr}{ns:yaf}(hl:ns.length<=63)(hS:SqL K H a (ns.map V.int))(hT:jc K H):aJ K pY [.ref a] H (fun v _=>v=.bl true) fun _ _ _=>False :=
 ⟨fun _=>False,[.lst false (ns.map D.int)],fun d=>d=.bl true,fun _=>False,hT,fun _ z=>z.elim,af.one (Den.lst (fun z=>z.elim (fun z=>by cases z) id) (.any hS) (rV ns)),⟨ns,rfl,hl,rfl⟩,fun d v H' _ hd e=>by subst e;exact hd.Q3,fun _ _ _ _ z=>z.elim⟩
def walk {l : PySem.W.OpenLaw} {q : Program} {loose : yah} {XP : (yam) -> Heap -> Prop} {YP : World -> Heap -> Prop} {d : DefRec} {K : Params -> yac} {k : Nat} {x : Str} (hn : l.most = some 63) (Wa : d.params.defaults = []) (hr : bB k callerA)
  (hY : ∀ (w : World) (h : Heap), YP w h -> (K w.params).In h) (hT : ∀ w : World, tabOf (K w.params) = none)
  (F : ∀ (w : World) (mg : yam) (fa : Addr) (h : Heap), (K w.params).In h -> h.Ns mainGlobals mg -> mg d.name = some (.ref fa) →
   ∃ fd : FuncData, (∀ (s : Shared) (u : Value), BindsTo s fd ⟨[u], []⟩ [(x, u)]) /\ ∀ base : Heap, (K w.params).In base -> base.Ns mainGlobals mg -> aI l.prog w (K w.params) mg base (CX1 l.prog w) k fa fd [x] (aJ (K w.params) pY)) :
  PySem.W.WalkO q loose XP YP l.row.toRowW d [] (fun f vs => PySem.call f vs) :=
 L2.FQ (n := 63) (k := k) (x := x) (CX := fun w => CX1 l.prog w) (sp := fun w => aJ (K w.params) pY) hn (by decide) Wa hr hY F (fun w _ a ns hl hO hS => Ho hl hS ⟨fun P ps e => (by rcases hO P with z | ⟨o, xs, z⟩ <;> rw [z] at e <;> cases e), fun P e => (by rw [hT w] at e; cases e)⟩) fun _ _ _ _ _ z => by obtain ⟨_, _, _, _, _, _, _, _, _, _, _, _, _, q⟩ := z; exact q.elim
def Sa{α:Type}(a:α)(r:List α):Me (a::r) 0=some a:=di (j:=0) rfl
def at1{α:Type}(a b:α)(r:List α):Me (a::b::r) 1=some b:=di (j:=1) rfl
def at2{α:Type}(a b c:α)(r:List α):Me (a::b::c::r) 2=some c:=di (j:=2) rfl
def at3{α:Type}(a b c d:α)(r:List α):Me (a::b::c::d::r) 3=some d:=di (j:=3) rfl
theorem CW(ds:yas)(i:Int)(Q:D->Prop):qY (.tup ds) (.int i) Q=∃d,Me ds i=some d/\Q d:=rfl
theorem vt(t:Bool)(ds:yas)(i:Int)(Q:D->Prop):qY (.lst t ds) (.int i) Q=∃d,Me ds i=some d/\Q d:=rfl
theorem cc(i:Int):aT (.int i)=.int i:=rfl
theorem Dh(b:Bool):aT (.bl b)=.bl b:=rfl
theorem sM:aT .Kt=.Kt:=rfl
theorem Br(x:Str):aT (.str x)=.str x:=rfl
theorem Bp(c:Addr):aT (.exc c)=.exc c:=rfl
theorem da(ds:yas):aT (.tup ds)=.tup (aY ds):=rfl
theorem Bq(t:Bool)(ds:yas):aT (.lst t ds)=.lst false (aY ds):=rfl
theorem cJ:aY []=[]:=rfl
theorem cg(d:D)(ds:yas):aY (d::ds)=aT d::aY ds:=rfl
theorem cI{α:Type}(f:α->D)(h:∀x,aT (f x)=f x):∀xs:List α,aY (xs.map f)=xs.map f
 |[]=>by rw[RD,aY]
 |x::r=>by rw[K5,aY,h,cI f h r]
def wW(ns:yaf):aY (ns.map D.int)=ns.map D.int:=cI _ cc ns
theorem qX(C:Int->Int->Prop)(g:Int->Int->D)(i j:Int)(Q:D->Prop):SR C g (.int i) (.int j) Q=(C i j/\Q (g i j)):=rfl
theorem fJ(g:Int->Int->D)(i j:Int)(Q:D->Prop):fb g (.int i) (.int j) Q=Q (g i j):=rfl
theorem GG(d:D)(r:Ro)(Q:D->Prop):je 0 (some (.val d)::r) Q=Q d:=rfl
theorem GH(n:Nat)(x:Option Sl)(r:Ro)(Q:D->Prop):je (n+1) (x::r) Q=je n r Q:=rfl
theorem Je(x y:Option Sl)(r:Ro):List.set (x::r) 0 y=y::r:=rfl
theorem Jf(n:Nat)(x y:Option Sl)(r:Ro):List.set (x::r) (n+1) y=x::List.set r n y:=rfl
def IB(k:Bool)(R:Bool->Prop):(∃c,(D.bl k)=.bl c/\R c)=R k:=by
 apply propext;constructor
 ·rintro⟨c,e,q⟩;cases e;exact q
 ·intro q;exact⟨k,rfl,q⟩
def GW(k:Int)(R:Int->Prop):(∃c,(D.int k)=.int c/\R c)=R k:=by
 apply propext;constructor
 ·rintro⟨c,e,q⟩;cases e;exact q
 ·intro q;exact⟨k,rfl,q⟩
def Et{α:Type}(k:α)(R:α->Prop):(∃c,some k=some c/\R c)=R k:=by
 apply propext;constructor
 ·rintro⟨c,e,q⟩;cases e;exact q
 ·intro q;exact⟨k,rfl,q⟩
def QC(a b c:D):([a,b,c]:yas).length<=sizeLine:=by rw[sizeLine_eq];show 3<=16777216;decide
def Ya(a b:D):([a,b]:yas).length<=sizeLine:=by rw[sizeLine_eq];show 2<=16777216;decide
def S1(a:D):([a]:yas).length<=sizeLine:=by rw[sizeLine_eq];show 1<=16777216;decide
def sz4(a b c d:D):([a,b,c,d]:yas).length<=sizeLine:=by rw[sizeLine_eq];show 4<=16777216;decide
def ES(t:Bool)(xs:yas)(R:yas->Prop):(∃ys,((∃t',[D.lst t xs]=[.lst t' ys]) ∨ [D.lst t xs]=[.tup ys])/\R ys)=R xs:=by
 apply propext;constructor
 ·rintro⟨c,e,q⟩;rcases e with⟨_,e⟩| e
  ·cases e;exact q
  ·cases e
 ·intro q;exact⟨xs,.inl ⟨t,rfl⟩,q⟩
def ET(xs:yas)(R:yas->Prop):(∃ys,((∃t',[D.tup xs]=[.lst t' ys]) ∨ [D.tup xs]=[.tup ys])/\R ys)=R xs:=by
 apply propext;constructor
 ·rintro⟨c,e,q⟩;rcases e with⟨_,e⟩| e
  ·cases e
  ·cases e;exact q
 ·intro q;exact⟨xs,.inr rfl,q⟩
def HI(a b:D)(R:D->D->Prop):(∃d e,[a,b]=[d,e]/\R d e)=R a b:=by
 apply propext;constructor
 ·rintro⟨_,_,e,q⟩;cases e;exact q
 ·intro q;exact⟨a,b,rfl,q⟩
def EK (ds:yas):R6 "tuple" (.tup ds)=true:=by
 show(("tuple" : String) == "tuple" || (("tuple" : String) == "bool" && ("tuple" : String) == "int"))=true;decide
def EJ (t:Bool) (ds:yas):R6 "list" (.lst t ds)=true:=by
 show(("list" : String) == "list" || (("list" : String) == "bool" && ("list" : String) == "int"))=true;decide
def As (ds:yas):R6 "list" (.tup ds)=false:=by
 show(("tuple" : String) == "list" || (("tuple" : String) == "bool" && ("list" : String) == "int"))=false;decide
def EI (i:Int):R6 "int" (.int i)=true:=by
 show(("int" : String) == "int" || (("int" : String) == "bool" && ("int" : String) == "int"))=true;decide
def yw (i:Int):R6 "bool" (.int i)=false:=by
 show(("int" : String) == "bool" || (("int" : String) == "bool" && ("bool" : String) == "int"))=false;decide
theorem Aq:j4 .Kt=true:=rfl
theorem Ar(ds:yas):j4 (.tup ds)=false:=rfl
theorem Ao(t:Bool)(ds:yas):j4 (.lst t ds)=false:=rfl
theorem An(i:Int):j4 (.int i)=false:=rfl
def E3(i:Int):okD (.int i):=by unfold okD;rw[LG,OR]<;>first|exact⟨rfl,rfl⟩| (intros;contradiction)
def E4:okD .Kt:=by unfold okD;rw[LG,OR]<;>first|exact⟨rfl,rfl⟩| (intros;contradiction)
def Hx(a b c:Int):okD (.tup [.int a,.int b,.int c]):=by unfold okD;simp only[LG,bW,OR,j6];exact⟨rfl,rfl⟩
def Ac(a b c x y z:Int):eqD (.tup [.int a,.int b,.int c]) (.tup [.int x,.int y,.int z])=(decide (a=x) && (decide (b=y) && decide (c=z))):=by unfold eqD;simp only[LG,bW,PyData.eqv,PyData.eqvAll,Bool.and_true];rfl
abbrev T3(a b c:Int):D:=.tup [.int a,.int b,.int c]
def CD.lit{n:Int}(h:n≠0/\n.natAbs<2 ^ 64:=by decide):CD i n:=⟨h.1,MV h.2 (VC (by decide) (by decide))⟩
def Fy(a b:Int)(R:Int->Int->Prop):(∃i j:Int,[D.int a,D.int b]=[.int i,.int j]/\R i j)=R a b:=by
 apply propext;constructor
 ·rintro⟨_,_,e,q⟩;cases e;exact q
 ·intro q;exact⟨a,b,rfl,q⟩
def Fx(a:Int)(R:Int->Prop):(∃i:Int,[D.int a]=[.int i]/\R i)=R a:=by
 apply propext;constructor
 ·rintro⟨_,e,q⟩;cases e;exact q
 ·intro q;exact⟨a,rfl,q⟩
def BG{ns:yaf}{k:Int}(h0:0<=k)(h1:k<ns.length):Me (ns.map D.int) k=some (.int (ns.getD k.toNat 0)):=by
 have e:k=((k.toNat:Nat):Int):=by lia
 have hl:k.toNat<ns.length:=by lia
 have q:Me (ns.map D.int) ((k.toNat:Nat):Int)=some (.int (ns.getD k.toNat 0)):=di (by simp[M9,LH hl,Nq]);rw[<- e]at q;exact q
def wx{xs ys:yaf}(h:xs.map D.int=ys.map D.int):xs=ys:=by
 induction xs generalizing ys with
 |nil=>cases ys with
  |nil=>rfl
  |cons y r=>simp at h
 |cons x r ih=>cases ys with
  |nil=>simp at h
  |cons y q =>
   simp only[K5,OW,D.int.injEq]at h;rw[h.1,ih h.2]
def yu(n:Nat)(t:R7)(ds:yas)(h:ds.length=n)(ρ:Ro)(Q:Ro->Prop):mj n t (.tup ds) ρ Q=t ds ρ Q:=by
 apply propext;unfold mj;constructor
 ·rintro⟨QD,e,_,h⟩;rcases e with e|⟨_,e⟩
  ·cases e;exact h
  ·cases e
 ·intro q;exact⟨ds,.inl rfl,h,q⟩
def Zo(g:DG)(u:R7)(x:D)(r:yas)(ρ:Ro)(Q:Ro->Prop):cA g u (x::r) ρ Q=g x ρ fun JY=>u r JY Q:=by
 apply propext;unfold cA;constructor
 ·rintro⟨d,r',e,h⟩;cases e;exact h
 ·intro h;exact⟨x,r,rfl,h⟩
def Zp(ρ:Ro)(Q:Ro->Prop):mi [] ρ Q=Q ρ:=by apply propext;unfold mi;simp
def G8(g1 g2 g3 g4:DG)(a b c d:D)(ρ:Ro)(Q:Ro->Prop):mj 4 (cA g1 (cA g2 (cA g3 (cA g4 mi)))) (.tup [a,b,c,d]) ρ Q=g1 a ρ fun Nn=>g2 b Nn fun Ml=>g3 c Ml fun Qn=>g4 d Qn Q:=by
 (first|rw[yu 2 _ _ rfl]|rw[yu 4 _ _ rfl]);simp only[Zo,Zp]
section
variable{X:Cx}{pos:Pos}
def Rel.WD{i:Nat}{o:HO}(r:Rel X W H σ ρ)(hi:i<σ.length)(sm:aq H H')(hp:H p=none)(hk:X.K.lookup p=none)(h':H' p=some o)(hd:cu X.K (fun t b=>W.bad t b∨b=p) H' (W.sub σ.length i) x o) :
  Rel X ((W.drop i).put i p) H' (σ.set i (some (.ref p))) (ρ.set i (some (.ob x)))/\KI W H ((W.drop i).put i p) H':=by
 have hO:∀j a,((W.drop i).put i p).O j=some a->(j=i/\a=p)∨(j≠i/\W.O j=some a):=fun j a h=>by
  have h1:(if j=i then some p else(if j=i then none else W.O j))=some a:=h;by_cases e:j=i
  ·rw[JU e]at h1;cases h1;exact .inl ⟨e,rfl⟩
  ·rw[JT e,JT e]at h1;exact .inr ⟨e,h1⟩
 have hOi:((W.drop i).put i p).O i=some p:=by show(if i=i then some p else _)=_;rw[JU rfl]
 have hOj:∀j,j≠i->((W.drop i).put i p).O j=W.O j:=fun j n=>by show(if j=i then some p else(if j=i then none else W.O j))=_;rw[JT n,JT n]
 have hS:∀j k b,W.sub σ.length j k=some b->((W.drop i).put i p).sub σ.length j k=some b:=fun j k b e=>(hOj _ (qh hi)).trans e
 have OD:∀t a,((W.drop i).put i p).bad t a->W.bad t a∨a=p:=fun t a z=>by
  rcases z with z|⟨j,z⟩| z
  ·exact .inl (.inl z)
  ·rcases hO j a z with⟨_,q⟩| ⟨_,q⟩
   ·exact .inr q
   ·exact .inl (.inr (.inl ⟨j,q⟩))
  ·exact .inl (.inr (.inr z))
 have nb:∀{t:Bool} {a:Addr} {ws:yar},MQ X.K H t a ws->a≠p:=fun {t a ws} q z=>by
  subst z;rcases q.1 with(q|⟨o,q⟩)|⟨o,JZ,n,q,_⟩
  ·rw[hp]at q;cases q
  ·rw[hp]at q;cases q
  ·rw[hk]at q;cases q
 have up:∀(d:D) (v:V),Den X.K W.bad H d v->Den X.K ((W.drop i).put i p).bad H' d v:=Den.map (fun _ _ q=>Le.same sm q) (fun t a ws n q=>⟨fun z=>(OD t a z).elim n (nb q),q.same sm⟩) (fun a _ n q=>sm.kp a _ q n.nt);have ups:∀(ds:yas) (vs':yar),af X.K W.bad H ds vs'->af X.K ((W.drop i).put i p).bad H' ds vs':=af.map (fun _ _ q=>Le.same sm q) (fun t a ws n q=>⟨fun z=>(OD t a z).elim n (nb q),q.same sm⟩) (fun a _ n q=>sm.kp a _ q n.nt);refine⟨⟨fun j d h=>?_,fun j x h=>?_,fun j k a h1 h2=>?_,fun j a h1=>?_,fun j a h1=>?_,fun a h=>let ⟨_,q⟩:=r.bt a h;sm.ex q,fun a h=>let ⟨_,q⟩:=r.st a h;sm.ex q,r.ent.trans sm,r.tab.same sm⟩,rfl,rfl,fun b o _ q n=>sm.kp b o q n,fun j a h=>?_,sm.tb,sm.ok⟩
 ·by_cases hj:j=i
  ·subst hj;rw[List.getElem?_set]at h;split at h
   ·split at h<;>cases h
   ·lia
  ·rw[Oa (Ne.symm hj)]at h;obtain⟨w,h1,h2⟩:=r.val j d h;exact⟨w,by rw[Oa (Ne.symm hj)];exact h1,up d w h2⟩
 ·by_cases hj:j=i
  ·subst hj;rw[List.getElem?_set]at h;split at h
   ·split at h
    ·cases h;exact⟨p,_,hOi,by simp[hi],h',by rw[UW];exact hd.Kw (fun t a z=>OD t a z) (hS _)⟩
    ·cases h
   ·lia
  ·rw[Oa (Ne.symm hj)]at h;obtain⟨a,ws,h1,h2,h3,h4⟩:=r.own j x h;exact⟨a,ws,(hOj j hj).trans h1,by rw[Oa (Ne.symm hj)];exact h2,sm.kp _ _ h3 h4.Qk.nt,by rw[UW];exact h4.map ups fun k b q=>⟨hS j k b q,fun _ z=>sm _ _ z⟩⟩
 ·rcases hO j a h1 with⟨e1,q1⟩| ⟨e1,q1⟩<;>rcases hO k a h2 with⟨e2,q2⟩| ⟨e2,q2⟩
  ·rw[e1,e2]
  ·subst q1;obtain⟨_,_,ws,q,_⟩:=r.kn k _ q2;rw[hp]at q;cases q
  ·subst q2;obtain⟨_,_,ws,q,_⟩:=r.kn j _ q1;rw[hp]at q;cases q
  ·exact r.inj j k a q1 q2
 ·rcases hO j a h1 with⟨e1,q1⟩| ⟨e1,q1⟩
  ·subst q1;exact⟨hk,⟨fun z=>(by obtain⟨o,q⟩:=r.bt _ z;rw[hp]at q;cases q),fun z=>(by obtain⟨o,q⟩:=r.st _ z;rw[hp]at q;cases q)⟩,_,h',hd.Qk⟩
  ·obtain⟨a1,a2,ws,a3,a4⟩:=r.kn j a q1;exact⟨a1,a2,ws,sm.kp _ _ a3 a4.nt,a4⟩
 ·rcases hO j a h1 with⟨e1,q1⟩| ⟨e1,q1⟩
  ·subst q1;exact r.ent.free hp
  ·exact r.ke j a q1
 ·rcases hO j a h with⟨e1,q1⟩| ⟨e1,q1⟩
  ·subst q1;exact .inr hp
  ·exact .inl ⟨j,q1⟩
def Rel.Sb{i:Nat}(r:Rel X W H σ ρ)(hi:i<σ.length)(sm:aq H H')(hp:H p=none)(hk:X.K.lookup p=none)(h':H' p=some (.lst vs))(hd:af X.K (fun t b=>W.bad t b∨b=p) H' ds vs) :
  Rel X ((W.drop i).put i p) H' (σ.set i (some (.ref p))) (ρ.set i (some (.own ds)))/\KI W H ((W.drop i).put i p) H':=r.WD hi sm hp hk h' (.lst hd)
def af.apart{K:yac}{H:Hp}(n:H a=none)(k:K.lookup a=none)(h:af K P H ds us)(nt:NT o:=by exact True.intro):af K (fun t b=>P t b∨b=a) (L2.upd H a o) ds us :=
 af.map (fun _ _ q=>Le.same (aq.upd n nt) q) (fun t b ws p q=>⟨(fun z=>z.elim p fun z=>by
  subst z;rcases q.1 with(q|⟨o,q⟩)|⟨o,JZ,m,q,_⟩
  ·rw[n]at q;cases q
  ·rw[n]at q;cases q
  ·rw[k]at q;cases q),q.same (aq.upd n nt)⟩) (fun b _ m q=>(aq.upd n nt).kp b _ q m.nt) ds us h
def Rel.WE{i:Nat}{a:Addr}{o:HO}(r:Rel X W H σ ρ)(eo:ρ[i]?=some (some (.ob x)))(oa:W.O i=some a)(sa:σ[i]?=some (some (.ref a)))(ha:H a=some o)(hm:iA o)(hd:cu X.K W.bad H (W.sub σ.length i) x' o') :
  Rel X W (L2.upd H a o') σ (ρ.set i (some (.ob x')))/\KI W H W (L2.upd H a o'):=by
 have Zq:∀t,W.bad t a:=fun _=>.inr (.inl ⟨i,oa⟩)
 have T8:∀b ws,Le X.K H b ws->Le X.K (L2.upd H a o') b ws:=fun b ws q=>by show L2.upd _ _ _ _=_;rw[aw (j5 q ha (by intro z;subst z;exact hm))];exact q
 have T9:∀t b ws,¬W.bad t b->MQ X.K H t b ws->¬W.bad t b/\MQ X.K (L2.upd H a o') t b ws:=fun t b ws n q=>by
  have LY:b≠a:=fun e=>n (e ▸ Zq t)
  refine⟨n,?_,fun z=>⟨by rw[aw LY];exact(q.2 z).1,(q.2 z).2⟩⟩;rcases q.1 with(q|⟨u,q⟩)|q
  ·exact .inl (.inl (by rw[aw LY];exact q))
  ·exact .inl (.inr ⟨u,by rw[aw LY];exact q⟩)
  ·exact .inr q
 have Ua:∀b u,RH u->H b=some u->L2.upd H a o' b=some u:=fun b u n q=>by rw[aw (j5 q ha (by intro z;subst z;exact hm.sol n))];exact q
 have OE:i<ρ.length:=(MZ.mp eo).1;have il:i<σ.length:=(MZ.mp sa).1;have hSb:∀j k b,W.sub σ.length j k=some b->W.sub σ.length j k=some b/\∀us,H b=some (.lst us)->L2.upd H a o' b=some (.lst us):=fun j k b q=>⟨q,fun us z=>by rw[aw (fun e=>qh il (r.inj _ _ a (by rw[<- e];exact q) oa))];exact z⟩
 have tr:∀b u,H b=some u->∃u',L2.upd H a o' b=some u':=fun b u q=>by
  by_cases S4:b=a
  ·subst S4;exact⟨_,aO⟩
  ·exact⟨u,by rw[aw S4];exact q⟩
 refine⟨⟨fun j d h=>?_,fun j y h=>?_,r.inj,fun j b hb=>?_,r.ke,fun b hb=>let ⟨u,q⟩:=r.bt b hb;tr b u q,fun b hb=>let ⟨u,q⟩:=r.st b hb;tr b u q,r.ent.ins (r.ke i a oa) ha hm hd.Qk.nt,r.tab.upd hd.Qk.nt (.inr ⟨o,ha,hm.ne,hm.nt⟩)⟩,KI.upd oa ha hm hd.Qk.nt⟩
 ·by_cases hj:j=i
  ·subst hj;rw[Ry OE]at h;cases h
  ·rw[Oa (Ne.symm hj)]at h;obtain⟨w,h1,h2⟩:=r.val j d h;exact⟨w,h1,Den.map T8 T9 Ua d w h2⟩
 ·by_cases hj:j=i
  ·subst hj;rw[Ry OE]at h;cases h;exact⟨a,o',oa,sa,aO,hd.map (af.map T8 T9 Ua) (hSb _)⟩
  ·rw[Oa (Ne.symm hj)]at h;obtain⟨b,ws,h1,h2,h3,h4⟩:=r.own j y h;have LY:b≠a:=fun e=>hj (r.inj j i a (by rw[<- e];exact h1) oa)
   exact⟨b,ws,h1,h2,by rw[aw LY];exact h3,h4.map (af.map T8 T9 Ua) (hSb _)⟩
 ·obtain⟨k1,k2,ws,k3,k4⟩:=r.kn j b hb;refine⟨k1,k2,?_⟩;by_cases S4:b=a
  ·subst S4;exact⟨_,aO,hd.Qk⟩
  ·exact⟨ws,by rw[aw S4];exact k3,k4⟩
def Rel.Qk{i:Nat}{a:Addr}(r:Rel X W H σ ρ)(eo:ρ[i]?=some (some (.own ds)))(oa:W.O i=some a)(sa:σ[i]?=some (some (.ref a)))(ha:H a=some (.lst vs))(hd:af X.K W.bad H QD vs') :
  Rel X W (L2.upd H a (.lst vs')) σ (ρ.set i (some (.own QD)))/\KI W H W (L2.upd H a (.lst vs')):=r.WE eo oa sa ha True.intro (.lst hd)
variable{es:yai}{t:DA}
def Gy(i:Nat)(t:DA):DS:=fun E ρ=>t ρ fun ds=>ds.length<=sizeLine/\E.nx (ρ.set i (some (.own ds)))
def iF{x:Str}(i:Nat)(hN:X.N.Nodup)(h:OC X es t)(hi:X.N[i]?=some x:=by rfl)(hx:Loc X.env.scope x:=by first|exact Or.inl rfl|exact Or.inr rfl)
  (hs:swapsWith (.List es WG) (some (.Name x pos')) pos.line X.env=pure false:=by rfl) (hf:X.fn x=true∨X.env.scope.names.lookup x=some .local:=by first|exact .inl rfl|exact .inr rfl|assumption) :
  MS X (.Assign [.Name x pos'] (.List es WG) pos) (Gy i t):=by
 intro pins s σ H W ρ E I r hq;refine wpAny_Assign_Name (wpAny_List_spliced (J0 (h WG pins s σ H W ρ _ I r hq) fun us s1 J5=>?_)) hs;obtain⟨vs,H1,ds,I1,rv,e1,hd,z,q⟩:=J5;rw[<- hd.len]at z;refine⟨by rw[<- rv.length];exact z,?_⟩;have Zr:H1 s1.heap.objs.size=none:=I1.Ku.fresh (KO _);have I2:=I1.laid (o:=.lst vs) (t':=s1.toks) (fun b u e=>Mv _ e) (KO _) ⟨z,us,0,rv,Ou _ rfl⟩;have rp:=(r.same e1).Sb (Inv.Q5 I1 hi) (aq.upd (o:=.lst vs) Zr) Zr (Inv.Mj I1) aO (af.apart Zr (Inv.Mj I1) hd);exact eS (v:=.ref s1.heap.objs.size) I2 hN hi hx rfl (fun s2 I3=>⟨_,_,_,I3,(KI.same e1).trans rp.2,_,rp.1,q⟩) hf
def w6(i:Nat)(te:DE):DS:=fun E ρ=>∃ds,ρ[i]?=some (some (.own ds))/\te ρ fun d=>ds.length<sizeLine/\E.nx (ρ.set i (some (.own (ds++[d]))))
def cY{x:Str}{apos:Pos}(i:Nat)(he:Kn X e te)(hi:X.N[i]?=some x:=by rfl)(hv:QX X.env.scope x:=by first|exact Or.inl rfl|exact Or.inr (Or.inl rfl)|exact Or.inr (Or.inr rfl))
  (hd:(x==("__debug__" : Str))=false:=by decide) (Nb:(x==("__classdict__" : Str))=false:=by decide)
  (Mh:attributeBase (.Name x px) "append" X.env (eval (.Name x px) X.env)=eval (.Name x px) X.env:=by rfl)
  (Q2:((backTo Ko (starEach [e] X.env)).all (fun x=>!x.1) && (backToKw Ko (keywordEach [] X.env)).all (fun x=>x.1.isSome) && decide ([e].length+([]:List Keyword).length+(if([]:List Keyword).isEmpty then 0 else 1)<30))=true:=by rfl)
  (Mi:(apos.endLine==Ko.line)=true:=by rfl) (MT:starEach [e] X.env=(false,eval e X.env)::starEach [] X.env:=by rfl) (NC:(backTo Ko (starEach [] X.env)).any (·.1)=false:=by rfl)
  (hs:swapsWith (.Call (.Attribute (.Name x px) "append" apos) [e] [] Ko) none pos.line X.env=pure false:=by rfl) :
  MS X (.Expr (.Call (.Attribute (.Name x px) "append" apos) [e] [] Ko) pos) (w6 i te):=by
 have P0:=qW (pos:=pos) (DR PySem.F.plainAttrs_list PySem.F.slot_list_append PySem.F.type_list_append sv (gC hi hv hd Nb) (fH he.pe lr MT) Mh Q2 Mi MT NC) hs;refine MS.of P0 fun σ H W ρ E r hl h=>?_
 obtain⟨ds,eo,h⟩:=h;obtain⟨a,vs,oa,sa,ha,LJ⟩:=r.Pu i ds eo;refine⟨.ref a,sa,.inl ⟨rfl,_,SqL.of ha⟩,W,ρ,_,r,h,fun v H' d e1 Pd q=>?_⟩;obtain⟨z,q⟩:=q;have QB:=e1 _ _ ha;have r':=r.same e1;have Py:=LJ.same e1;refine⟨a,vs,v,rfl,rfl,QB,by rw[Py.len];exact z,?_⟩;obtain⟨r2,f2⟩:=r'.Qk (vs':=vs++[v]) eo oa sa QB (Py.append (af.one Pd));exact⟨W,_,(KI.same e1).trans f2,r2,q⟩
def Rel.freeze{X:Cx}{i:Nat}(r:Rel X W H σ ρ)(e:ρ[i]?=some (some (.own ds))):Rel X (W.drop i) H σ (ρ.set i (some (.val (.lst true ds)))):=by
 obtain⟨a,vs,oa,sa,ha,LJ⟩:=r.Pu i ds e;have il:i<σ.length:=(MZ.mp sa).1;have OE:i<ρ.length:=(MZ.mp e).1;have nb:¬(W.drop i).bad true a:=fun z=>by
  rcases z with z|⟨j,z⟩| ⟨_,z⟩
  rotate_right
  ·exact(r.kn i a oa).2.1.2 z
  ·exact(r.kn i a oa).2.1.1 z
  ·have z':(if j=i then none else W.O j)=some a:=z;by_cases ej:j=i
   ·rw[JU ej]at z';cases z'
   ·rw[JT ej]at z';exact ej (r.inj j i a z' oa)
 have hd:Den X.K (W.drop i).bad H (.lst true ds) (.ref a):=Den.lst nb (.new ha (r.kn i a oa).1) (LJ.Kw fun _ _=>Own.KS);refine⟨fun j x h=>?_,fun j x h=>?_,fun j k b h1 h2=>?_,fun j b h1=>?_,fun j b h1=>?_,r.bt,r.st,r.ent,r.tab⟩
 ·by_cases hj:j=i
  ·subst hj;rw[Ry OE]at h;cases h;exact⟨.ref a,sa,hd⟩
  ·rw[Oa (Ne.symm hj)]at h;obtain⟨w,h1,h2⟩:=r.val j x h;exact⟨w,h1,h2.Kw fun _ _=>Own.KS⟩
 ·by_cases hj:j=i
  ·subst hj;rw[Ry OE]at h;cases h
  ·rw[Oa (Ne.symm hj)]at h;obtain⟨b,ws,h1,h2,h3,h4⟩:=r.own j x h;exact⟨b,ws,by show(if j=i then none else W.O j)=_;rw[JT hj];exact h1,h2,h3,h4.Kw (fun _ _=>Own.KS) (Own.ND il)⟩
 ·have Ln:(if j=i then none else W.O j)=some b:=h1;have MY:(if k=i then none else W.O k)=some b:=h2;by_cases e1:j=i
  ·rw[JU e1]at Ln;cases Ln
  ·by_cases e2:k=i
   ·rw[JU e2]at MY;cases MY
   ·rw[JT e1]at Ln;rw[JT e2]at MY;exact r.inj j k b Ln MY
 ·have Ln:(if j=i then none else W.O j)=some b:=h1;by_cases e1:j=i
  ·rw[JU e1]at Ln;cases Ln
  ·rw[JT e1]at Ln;exact r.kn j b Ln
 ·have Ln:(if j=i then none else W.O j)=some b:=h1;by_cases e1:j=i
  ·rw[JU e1]at Ln;cases Ln
  ·rw[JT e1]at Ln;exact r.ke j b Ln
def w8(i:Nat)(t:DS):DS:=fun E ρ=>∃ds,ρ[i]?=some (some (.own ds))/\t E (ρ.set i (some (.val (.lst true ds))))
def cF{t:DS}(i:Nat)(h:cf X sts t):cf X sts (w8 i t):=by intro pins s σ H W ρ E I r hq;obtain⟨ds,e,hq⟩:=hq;exact J0 (h pins s σ H (W.drop i) _ E I (r.freeze e) hq) fun _ _ z=>z.up (KI.drop W H i)
end
def dM(env:Env)(ns:yah):List (Str×Addr):=ns.filterMap fun n=>(env.cells.lookup n).map fun c=>(n,c)
theorem jU:∀{ns:yah} {x:Str} {c:Addr},(dM env ns).lookup x=some c->env.cells.lookup x=some c
 |[],_,_,h=>by cases h
 |n::r,x,c,h=>by
  unfold dM at h;rw[VD]at h;cases e:env.cells.lookup n with
  |none =>
   rw[e]at h;exact jU (ns:=r) h
  |some c' =>
   rw[e]at h;have h':List.lookup x ((n,c')::dM env r)=some c:=h;rw[QR]at h';cases q:x==n with
   |true =>
    rw[q]at h';have ex:x=n:=by simpa using q
    subst ex;rw[e];exact h'
   |false =>
    rw[q]at h';exact jU (ns:=r) h'
theorem nj{env:Env}:∀{ns:yah} {x:Str} {c:Addr},x∈ns->env.cells.lookup x=some c->(dM env ns).lookup x=some c
 |[],_,_,h,_=>by cases h
 |n::r,x,c,h,e=>by
  unfold dM;rw[VD];by_cases ex:x=n
  ·subst ex;rw[e];show List.lookup x ((x,c)::_)=some c;simp[QR]
  ·have h':x∈r:=by
    rcases Kr.mp h with z|z
    ·exact absurd z ex
    ·exact z
   have ih:=nj (ns:=r) h' e;cases q:env.cells.lookup n with
   |none=>exact ih
   |some c' =>
    show List.lookup x ((n,c')::dM env r)=some c;rw[QR];have:(x==n)=false:=by simpa using ex
    rw[this];exact ih
structure Ub(osc sc:Scope)(xs ns:yah):Prop where
 kind:sc.kind=.function
 Q7:∀y∈sc.names,y.2 ≠ .cell
 names:∀y∈sc.names,y.2=.local->sc.names.lookup y.1=some .local
 tgt:∀x∈xs,sc.names.lookup x=some .local
 free:∀y∈sc.names,y.2=.free->y.1∈ns/\osc.names.lookup y.1=some .cell
 cells:∀n∈ns,sc.names.lookup n=some .free/\osc.names.lookup n=some .cell
 nd:(xs++ns).Nodup
def aW(X:Cx)(sc:Scope)(ns xs:yah)(C:Addr)(J2:Shared)(Kz:Hp)(fp:yae)(XE:yaa):Cx :=
 {X with N:=xs++ns,J9:=J2,KY:=Kz,env:=compEnvC sc (dM X.env ns) C X.env,outer:=X.stack,stack:=X.stack,ex:=fp,fn:=fun _=>false,pn:=[],xe:=XE}
theorem jI{env:Env}(hk:env.scope.kind=.function):∀{names:List (Str×NameKind)} {n:Str},names.lookup n=some .free->env.kindOf n=some .cell →
  (names.map fun(n,k)=>if(k==NameKind.free && env.scope.kind==.function && env.kindOf n==some .cell)then(n,NameKind.cell)else(n,k)).lookup n=some .cell
 |[],_,h,_=>by simp at h
 |(m,k)::r,n,h,hc=>by
  have ih:=@jI env hk r n;show List.lookup n ((if(k==NameKind.free && env.scope.kind==.function && env.kindOf m==some .cell)=true then(m,NameKind.cell)else(m,k))::_)=_;cases hx:n==m with
  |true =>
   simp only[QR,hx]at h;cases h;have e:n=m:=by simpa using hx
   subst e;rw[hk,hc];simp[QR]
  |false =>
   simp only[QR,hx]at h;by_cases Nz:(k==NameKind.free && env.scope.kind==.function && env.kindOf m==some .cell)=true
   ·rw[JU Nz];simp only[QR,hx];exact ih h hc
   ·rw[JT Nz];simp only[QR,hx];exact ih h hc
theorem jo{env:Env}:∀{names:List (Str×NameKind)} {n:Str} {k:NameKind},
  (names.map fun(n,k)=>if(k==NameKind.free && env.scope.kind==.function && env.kindOf n==some .cell)then(n,NameKind.cell)else(n,k)).lookup n=some k->(k=.cell∨k=.free) →
  (∃y∈names,y.1=n/\y.2=.free)∨∃ y∈names,y.1=n/\y.2=.cell
 |[],_,_,h,_=>by simp at h
 |(m,j)::r,n,k,h,hk=>by
  have h':List.lookup n ((if(j==NameKind.free && env.scope.kind==.function && env.kindOf m==some .cell)=true then(m,NameKind.cell)else(m,j))::(r.map fun(n,k)=>if(k==NameKind.free && env.scope.kind==.function && env.kindOf n==some .cell)then(n,NameKind.cell)else(n,k)))=some k:=h;have up:((∃y∈r,y.1=n/\y.2=.free)∨∃ y∈r,y.1=n/\y.2=.cell)->((∃y∈(m,j)::r,y.1=n/\y.2=.free)∨∃ y∈(m,j)::r,y.1=n/\y.2=.cell):=fun z=>by
   rcases z with⟨y,hy,q⟩| ⟨y,hy,q⟩
   ·exact .inl ⟨y,K0 _ hy,q⟩
   ·exact .inr ⟨y,K0 _ hy,q⟩
  cases hx:n==m with
  |true =>
   have e:n=m:=by simpa using hx
   subst e;by_cases Nz:(j==NameKind.free && env.scope.kind==.function && env.kindOf n==some .cell)=true
   ·have:j=.free:=by
     simp only[RB]at Nz;exact beq_iff_eq.mp Nz.1.1
    exact .inl ⟨(n,j),MC,rfl,this⟩
   ·rw[JT Nz]at h';simp only[QR,hx]at h';cases h';rcases hk with hk|hk
    ·exact .inr ⟨(n,j),MC,rfl,hk⟩
    ·exact .inl ⟨(n,j),MC,rfl,hk⟩
  |false =>
   by_cases Nz:(j==NameKind.free && env.scope.kind==.function && env.kindOf m==some .cell)=true
   ·rw[JU Nz]at h';simp only[QR,hx]at h';exact up (jo h' hk)
   ·rw[JT Nz]at h';simp only[QR,hx]at h';exact up (jo h' hk)
def bR(ρ:Ro)(j:Nat):Option Sl:=match ρ[j]? with
 |some (some (.val d))=>some (.val d)
 |_=>none
def jh(σ:St)(j:Nat):Option V:=match σ[j]? with
 |some (some v)=>some v
 |_=>none
section
variable{X:Cx}{pins:yab}{σ:St}{H:Hp}{s:Shared}{sc:Scope}{ns:yah}{js:yag}{xs:yah}{fp:yae}
def Inv.comp{J1:Shared}{Q8:Hp}{C:Addr}(I:Inv X pins σ H s)(S:Ub X.env.scope sc xs ns)(hj:js.length=ns.length/\∀(i:Nat) (j:Nat) (n:Str),js[i]?=some j->ns[i]?=some n->X.N[j]?=some n)(RM:∀b∈fp,eE X pins H b)(WH:∀b∈fp,∃o,s.heap.get? b=some o)(hC:s.heap.objs.size<=C)
  (hos:J1.os=s.os) (hg:AllBare J1.gens) (hk:∀b o,s.heap.get? b=some o->J1.heap.get? b=some o) (SO:J1.heap.Ns C fun _=>none) (WI:Q8 C=none) (hs:aq H Q8) (WJ:∀b o,s.heap.get? b=some o->H b=none->Q8 b=none) (Ku:Md X.prog X.w Q8 J1.heap) :
  Inv (aW X sc ns xs C s H fp XE) [] (List.replicate xs.length none++js.map (jh σ)) Q8 J1:=by
 have kd:X.env.scope.kind=.function:=I.ok.kind;have Qy:∀y c,(dM X.env ns).lookup y=some c->X.env.cells.lookup y=some c:=fun y c e=>jU e
 have WK:∀y c,(dM X.env ns).lookup y=some c->∃v,s.heap.IsCell c v:=fun y c e=>I.cell y c (Qy y c e)
 refine⟨⟨I.ok.mod,S.kind,I.ok.glob,I.ok.blt,hC,fun y z c h1 h2=>I.ok.inj y z c (Qy y c h1) (Qy z c h2),fun y hy=>?_,fun y c h _=>(by cases h),I.ok.hd,I.ok.frames,.inl rfl,fun b hb=>?_,I.bs,LZ I.ok.SH I.sz,fun b o e hb=>?_,fun b hb z=>?_,I.stack,I.Oz⟩,
  hos,hg,⟨fun b o e n _ _=>hk b o e,fun b o e n _ _=>⟨o.slots,hk b o e⟩,fun b o e n _=>WJ b o e n,fun b o e _=>⟨o,hk b o e⟩,fun b xs e=>hs b _ e,fun b o u e=>hs b _ e,fun b ps e=>hs.tb b ps e⟩,⟨_,SO,fun i y v h1 h2 h3=>?_⟩,fun y c e=>?_,WI,fun y c e=>?_,fun p hp=>absurd (show p∈([]:yab)from hp) (by simp),Ku,?_⟩
 ·-- every cell of the block is one of the Zs
  have Qi:∃k,((relabel sc X.env).names.lookup y=some k)/\(k=.cell∨k=.free):=by
   rcases hy with hy|hy
   ·exact⟨_,hy,.inl rfl⟩
   ·exact⟨_,hy,.inr rfl⟩
  obtain⟨k,h1,h2⟩:=Qi;rcases jo (env:=X.env) h1 h2 with⟨z,hz,e1,e2⟩| ⟨z,hz,e1,e2⟩
  ·obtain⟨m1,m2⟩:=S.free z hz e2;subst e1;obtain⟨c,hc⟩:=I.ok.has z.1 (.inl m2);exact⟨c,nj m1 hc⟩
  ·exact absurd e2 (S.Q7 z hz)
 ·refine⟨fun z=>?_,fun y c e z=>?_⟩
  ·have z':b=C:=z;obtain⟨o,ho⟩:=WH b hb;have Mc:=LC ho;rw[z']at Mc;exact absurd (MV Mc hC) (Qw _)
  ·exact(RM b hb).2.2.2.2.1 y c (Qy y c e) z
 ·obtain⟨f0,f1,f2,f3,f4,f5⟩:=RM b hb;rcases f3 with f3|f3
  ·exact I.ok.Qf b o e f3
  ·exact absurd (MV (LC (I.ok.bs b o e).1) f3) (Qw _)
 ·obtain⟨f0,f1,f2,f3,f4,f5⟩:=RM b hb;rcases Kr.mp (I.Ny b z)with e|e
  ·exact f1 e
  ·exact f2 e
 ·by_cases hi:i<xs.length
  ·rw[OV (by simpa using hi),Vz,JU hi]at h2;cases h2
  ·have Ln:ns[i - xs.length]?=some y:=by
    have h1:(xs++ns)[i]?=some y:=h1;rw[NM (by lia)]at h1;exact h1
   have MY:(js.map (jh σ))[i - xs.length]?=some (some v):=by rw[NM (by simpa using hi)]at h2;simpa using h2
   generalize i - xs.length=i at Ln MY;rw[M9]at MY;cases e:js[i]? with
   |none=>rw[e]at MY;cases MY
   |some j =>
    rw[e]at MY;have h4:jh σ j=some v:=MW MY;have h5:σ[j]?=some (some v):=by
     unfold jh at h4;split at h4
     ·rename_i u q;cases h4;exact q
     ·cases h4
    have hN:=hj.2 i j y e Ln;have mem:y∈ns:=NS Ln;obtain⟨c1,c2⟩:=S.cells y mem;obtain⟨m,hm,hl⟩:=I.loc;obtain⟨u,ru,lk⟩:=hl j y v hN h5 (.inr (.inl c2));refine⟨u,ru,?_⟩;rcases lk with⟨k1,_⟩| ⟨_,c,e1,o,ho,hd⟩
    ·have k1':X.env.scope.names.lookup y=some .local:=k1;rw[c2]at k1';cases k1'
    ·exact .inr ⟨.inl (jI kd c1 c2),c,nj mem e1,o,hk c o ho,hd⟩
 ·obtain⟨v,z⟩:=WK y c e;obtain⟨o,ho,hd⟩:=z;exact⟨v,o,hk c o ho,hd⟩
 ·obtain⟨v,o,ho,hd⟩:=WK y c e;exact WJ c o ho (I.LK y c (Qy y c e))
 ·show(List.replicate xs.length none++js.map (jh σ)).length=(xs++ns).length;simp[hj.1]
def Uc(X:Cx)(ifs:yai)(t:DT):Prop :=
 ∀ (pins:yab) (s:Shared) (σ:St) (H:Hp) (W:Own) (ρ:Ro) (Q:Bool->Prop),Inv X pins σ H s->Rel X W H σ ρ->t ρ Q →
  wpAny (model X.prog X.w) X.A (forIn ifs true fun c r=>if r=true then do let ok←isTrue c X.env (eval c X.env);pure (ForInStep.yield ok)else pure (ForInStep.yield r)) (Y5 X pins σ H Q) X.xe s
def ux:DT:=fun _ Q=>Q true
def dU{X:Cx}:Uc X [] ux:=fun _ s σ H W ρ Q I r h=>wpAny_tests_nil ⟨H,I,aq.refl H,h⟩
def p9{X:Cx}(h:O3 X c t):Uc X [c] t:=fun pins s σ H W ρ Q I r q=>wpAny_tests_one (h pins s σ H W ρ Q I r q)
def nc(n:Nat)(Va ρ:Ro):Prop:=∃r0:Ro,r0.length=n/\ρ=r0++Va
def zM {s : Shared} {R : Result -> Shared -> Prop} {iter : Expr} {acc : Value} (I : Nat -> Shared -> Prop)
  (turn : ∀ n s, I n s -> wpAny (model prog w) A (pyNext it) (fun r J1 => match r with
   | none => R (.ok .next) J1
   | some v => wpAny (model prog w) A (letOwnedTupleGo target it v) (fun _ Zt => wpAny (model prog w) A (assign target env v) (fun _ J2 =>
     wpAny (model prog w) A (forIn ifs true fun c r => if r = true then do let ok ← isTrue c env (eval c env); pure (ForInStep.yield ok) else pure (ForInStep.yield r)) (fun ok M4 => if ok = true then wpAny (model prog w) A (eval elt env) (fun x Q9 =>
       wpAny (model prog w) A (call (.builtin "list.append") [acc, x]) (fun _ Zu => ∃ m, m < n /\ I m Zu) (notedBy (model prog w) A env fun e z => R (.error e) z) Q9) (notedBy (model prog w) A env fun e z => R (.error e) z) M4
      else ∃ m, m < n /\ I m M4) (notedBy (model prog w) A env fun e z => R (.error e) z) J2) (notedBy (model prog w) A env fun e z => R (.error e) z) Zt) (notedBy (model prog w) A env fun e z => R (.error e) z) J1) (notedBy (model prog w) A env fun e z => R (.error e) z) s)
  (n : Nat) (h : I n s) : codeAny (model prog w) A (.compLoop (.ListComp elt [⟨target, iter, ifs, 0⟩] scope pos) 0 it acc env) R s := by
 refine codeAny_loop rfl I (fun m z hI => ?_) n h;show wpAny _ A ((compTurn (.ListComp elt [⟨target, iter, ifs, 0⟩] scope pos) 0 it acc env).onRaise (fun e => do noteFrame e env; theTreesLotGoes e)) _ _ z;refine wpAny_noted ?_;rw [compTurn_list];refine JX (wpAny_standAt (JX (NP (turn m z hI) (fun r z1 g1 => ?_) fun _ _ q => q)));cases r with
 | none => exact Ki g1
 | some v =>
  refine JX (NP g1 (fun _ z2 g2 => ?_) fun _ _ q => q);refine JX (NP g2 (fun _ z3 g3 => JX (NP g3 (fun ok z4 g4 => ?_) fun _ _ q => q)) fun _ _ q => q);cases ok with
  | false => exact Ki ⟨rfl, g4⟩
  | true => exact JX (JX (NP g4 (fun y z5 g5 => JX (NP g5 (fun _ z6 g6 => Ki (Ki ⟨rfl, g6⟩)) fun _ _ q => q)) fun _ _ q => q))
def Rel.Zv{X:Cx}{H:Hp}{σ:St}(r:Rel X W H σ ρ)(hB:W.B a)(ha:H a=some (.lst vs))(h0:X.KY a=none) :
  Rel X W (L2.upd H a (.lst vs')) σ ρ/\∀ds us,af X.K W.bad H ds us->af X.K W.bad (L2.upd H a (.lst vs')) ds us:=by
 have T8:∀b ws,Le X.K H b ws->Le X.K (L2.upd H a (.lst vs')) b ws:=fun b ws q=>by show L2.upd _ _ _ _=_;rw[aw (j5 q ha (by intro z;cases z))];exact q
 have T9:∀t b ws,¬W.bad t b->MQ X.K H t b ws->¬W.bad t b/\MQ X.K (L2.upd H a (.lst vs')) t b ws:=fun t b ws n q=>by
  have LY:b≠a:=fun e=>n (.inl (e ▸ hB))
  refine⟨n,?_,fun z=>⟨by rw[aw LY];exact(q.2 z).1,(q.2 z).2⟩⟩;rcases q.1 with(q|⟨o,q⟩)|q
  ·exact .inl (.inl (by rw[aw LY];exact q))
  ·exact .inl (.inr ⟨o,by rw[aw LY];exact q⟩)
  ·exact .inr q
 have Ua:∀b u,RH u->H b=some u->L2.upd H a (.lst vs') b=some u:=fun b u n q=>by rw[aw (j5 q ha (by intro z;subst z;exact n))];exact q
 have tr:∀b o,H b=some o->∃o',L2.upd H a (.lst vs') b=some o':=fun b o q=>by
  by_cases S4:b=a
  ·subst S4;exact⟨_,aO⟩
  ·exact⟨o,by rw[aw S4];exact q⟩
 refine⟨⟨fun j d h=>?_,fun j y h=>?_,r.inj,fun j b hb=>?_,r.ke,fun b hb=>let ⟨o,q⟩:=r.bt b hb;tr b o q,fun b hb=>let ⟨o,q⟩:=r.st b hb;tr b o q,r.ent.ins h0 ha True.intro True.intro,r.tab.upd True.intro (.inr ⟨_,ha,(fun _ z=>by cases z),True.intro⟩)⟩,af.map T8 T9 Ua⟩
 ·obtain⟨v,h1,h2⟩:=r.val j d h;exact⟨v,h1,Den.map T8 T9 Ua d v h2⟩
 ·obtain⟨b,o,h1,h2,h3,h4⟩:=r.own j y h;exact⟨b,o,h1,h2,by rw[aw (fun e=>(r.kn j b h1).2.1.1 (by rw[e];exact hB))];exact h3,h4.map (af.map T8 T9 Ua) fun k c q=>⟨q,fun us z=>by rw[aw (fun e=>(r.kn _ c q).2.1.1 (by rw[e];exact hB))];exact z⟩⟩
 ·obtain⟨k1,k2,o,k3,k4⟩:=r.kn j b hb;exact⟨k1,k2,o,by rw[aw (fun e=>k2.1 (by rw[e];exact hB))];exact k3,k4⟩
def dw(X:Cx)(sc:Scope)(ns:yah)(RR:Value->Addr->Result->Shared->Prop)(D C:Addr):yaa:=notedBy (model X.prog X.w) X.A (compEnvC sc (dM X.env ns) C X.env) fun e V5=>RR (.ref D) C (.error e) V5
def dh.no{X:Cx}:dh X fun _=>False:=fun _ _ _ _ _ _ _ _ _ _ h=>by obtain⟨_,_,_,_,_,_,_,_,_,_,_,_,_,z⟩:=h;exact z.elim
end
abbrev DM:=Ro->(LI->Prop)->Prop
def Jn(K:yac)(P:yak)(H H':Hp):LI->V->Prop
 |.own ds,v=>∃a vs,v=.ref a/\H a=none/\K.lookup a=none/\H' a=some (.lst vs)/\af K (fun t b=>P t b∨b=a) H' ds vs
 |.val d,v=>Den K P H' d v
def PEM(X:Cx)(e:Expr)(t:DM):Prop :=
 ∀ (pins:yab) (s:Shared) (σ:St) (H:Hp) (W:Own) (ρ:Ro) (Q:LI->Prop),Inv X pins σ H s->Rel X W H σ ρ->t ρ Q →
  wpAny (model X.prog X.w) X.A (eval e X.env) (fun u s'=>∃v H' li,Inv X pins σ H' s'/\RelV v u/\aq H H'/\Jn X.K W.bad H H' li v/\Q li) X.xe s
structure gG(K:yac)(H:Hp)(D:Addr)(n:Nat)(bs:yaj):Prop where
 ok:∀k b,bs k=some b->k<n/\H b=none/\K.lookup b=none/\b≠D
 inj:∀k l b,bs k=some b->bs l=some b->k=l
def gG.nil{K:yac}{H:Hp}{D:Addr}{n:Nat}:gG K H D n fun _=>none:=⟨fun _ _ h=>(by cases h),fun _ _ _ h=>(by cases h)⟩
def gG.up{K:yac}{H:Hp}{D:Addr}{n m:Nat}{bs:yaj}(h:gG K H D n bs)(l:n<=m):gG K H D m bs:=⟨fun k b q=>let ⟨a,r⟩:=h.ok k b q;⟨MV a l,r⟩,h.inj⟩
def gG.put{K:yac}{H:Hp}{D a:Addr}{out:List LI}{x:LI}{bs:yaj}(h:gG K H D out.length bs)(n:H a=none)(k:K.lookup a=none)(nd:a≠D)(new:∀k,bs k=some a->False) :
  gG K H D (out++[x]).length fun k=>if k=out.length then some a else bs k:=⟨fun l b q=>by
  rw[LO,XS];by_cases e:l=out.length
  ·rw[JU e]at q;cases q;exact⟨by lia,n,k,nd⟩
  ·rw[JT e]at q;obtain⟨a1,a2⟩:=h.ok l b q;exact⟨by lia,a2⟩,fun l m b q1 q2=>by
  by_cases e1:l=out.length
  ·by_cases e2:m=out.length
   ·rw[e1,e2]
   ·rw[JU e1]at q1;rw[JT e2]at q2;cases q1;exact(new m q2).elim
  ·by_cases e2:m=out.length
   ·rw[JT e1]at q1;rw[JU e2]at q2;cases q2;exact(new l q1).elim
   ·rw[JT e1]at q1;rw[JT e2]at q2;exact h.inj l m b q1 q2⟩
section
variable{K:yac}{P:yak}{H:Hp}{B:yaj}
theorem aH.NG(h1:Den K P H d v):∀{k:Nat} {xs:List LI} {vs:yar},aH K P H B k xs vs->aH K P H B k (xs++[.val d]) (vs++[v])
 |k,[],_,h=>by simp only[aH]at h;subst h;simp only[Oe,aH];exact⟨v,[],rfl,h1,rfl⟩
 |k,.own ds::r,_,h=>by simp only[aH]at h;obtain⟨b,us,u,rfl,q1,q2,q3,q4⟩:=h;simp only[Nu,aH];exact⟨b,us,_,rfl,q1,q2,q3,aH.NG h1 q4⟩
 |k,.val e::r,_,h=>by simp only[aH]at h;obtain⟨w,u,rfl,q1,q2⟩:=h;simp only[Nu,aH];exact⟨w,_,rfl,q1,aH.NG h1 q2⟩
theorem aH.NH{a:Addr}:∀{k:Nat} {xs:List LI} {vs:yar},aH K P H B k xs vs->B (k+xs.length)=some a->H a=some (.lst ws)->af K P H ds ws->aH K P H B k (xs++[.own ds]) (vs++[.ref a])
 |k,[],_,h,hb,ha,hd=>by simp only[aH]at h;subst h;simp only[Oe,aH];exact⟨a,ws,[],rfl,by simpa using hb,ha,hd,rfl⟩
 |k,.own es::r,_,h,hb,ha,hd=>by simp only[aH]at h;obtain⟨b,us,u,rfl,q1,q2,q3,q4⟩:=h;simp only[Nu,aH];exact⟨b,us,_,rfl,q1,q2,q3,aH.NH q4 (by rw[<- hb];congr 1;simp;lia) ha hd⟩
 |k,.val e::r,_,h,hb,ha,hd=>by simp only[aH]at h;obtain⟨w,u,rfl,q1,q2⟩:=h;simp only[Nu,aH];exact⟨w,_,rfl,q1,aH.NH q2 (by rw[<- hb];congr 1;simp;lia) ha hd⟩
end
section
variable{X:Cx}
def Rel.ban{o:HO}(r:Rel X W H σ ρ)(sm:aq H H')(hp:H p=none)(hk:X.K.lookup p=none)(h':H' p=some o) :
  Rel X ⟨fun b=>W.B b∨b=p,W.O,W.S⟩ H' σ ρ/\∀ds vs,af X.K W.bad H ds vs->af X.K (Own.bad ⟨fun b=>W.B b∨b=p,W.O,W.S⟩) H' ds vs:=by
 have OD:∀t a,Own.bad ⟨fun b=>W.B b∨b=p,W.O,W.S⟩ t a->W.bad t a∨a=p:=fun t a z=>by
  rcases z with(z|z)|z|z
  ·exact .inl (.inl z)
  ·exact .inr z
  ·exact .inl (.inr (.inl z))
  ·exact .inl (.inr (.inr z))
 have nb:∀{t:Bool} {a:Addr} {ws:yar},MQ X.K H t a ws->a≠p:=fun {t a ws} q z=>by
  subst z;rcases q.1 with(q|⟨o,q⟩)|⟨o,JZ,n,q,_⟩
  ·rw[hp]at q;cases q
  ·rw[hp]at q;cases q
  ·rw[hk]at q;cases q
 have up:∀(d:D) (v:V),Den X.K W.bad H d v->Den X.K (Own.bad ⟨fun b=>W.B b∨b=p,W.O,W.S⟩) H' d v:=Den.map (fun _ _ q=>Le.same sm q) (fun t a ws n q=>⟨fun z=>(OD t a z).elim n (nb q),q.same sm⟩) (fun a _ n q=>sm.kp a _ q n.nt);have ups:∀(ds:yas) (vs':yar),af X.K W.bad H ds vs'->af X.K (Own.bad ⟨fun b=>W.B b∨b=p,W.O,W.S⟩) H' ds vs':=af.map (fun _ _ q=>Le.same sm q) (fun t a ws n q=>⟨fun z=>(OD t a z).elim n (nb q),q.same sm⟩) (fun a _ n q=>sm.kp a _ q n.nt);refine⟨⟨fun j d h=>?_,fun j x h=>?_,r.inj,fun j a h1=>?_,r.ke,fun a h=>?_,fun a h=>let ⟨_,q⟩:=r.st a h;sm.ex q,r.ent.trans sm,r.tab.same sm⟩,ups⟩
 ·obtain⟨w,h1,h2⟩:=r.val j d h;exact⟨w,h1,up d w h2⟩
 ·obtain⟨a,ws,h1,h2,h3,h4⟩:=r.own j x h;exact⟨a,ws,h1,h2,sm.kp _ _ h3 h4.Qk.nt,h4.map ups fun l b q=>⟨q,fun _ z=>sm _ _ z⟩⟩
 ·obtain⟨a1,⟨n1,n2⟩,ws,a3,a4⟩:=r.kn j a h1;exact⟨a1,⟨fun z=>z.elim n1 fun e=>(by subst e;rw[hp]at a3;cases a3),n2⟩,ws,sm.kp _ _ a3 a4.nt,a4⟩
 ·rcases h with h|h
  ·obtain⟨_,q⟩:=r.bt a h;exact sm.ex q
  ·exact⟨o,h ▸ h'⟩
end
section
variable{X:Cx}{pins:yab}{σ:St}{H:Hp}{s:Shared}{sc:Scope}{ns:yah}{js:yag}{xs:yah}{fp:yae}
def we {elt iter tg : Expr} {ifs : yai} {pos : Pos} {g : DG} {te : DM} {tc : DT} {W : Own} {ρ : Ro} {J : It} {it : Addr} {tn : Nat -> Heap -> Prop} {ds : yas} {E : yaa} {RR : Value -> Addr -> Result -> Shared -> Prop} (hc : X.calm = true) (S : Ub X.env.scope sc xs ns)
  (hj : js.length = ns.length /\ ∀ (i : Nat) (j : Nat) (n : Str), js[i]? = some j -> ns[i]? = some n -> X.N[j]? = some n)
  {Ed : Value -> Prop} (he : ∀ (C : Addr) (J2 : Shared) (Kz : Hp) (fp : yae) (XE : yaa), dh (aW X sc ns xs C J2 Kz fp XE) Ed -> PEM (aW X sc ns xs C J2 Kz fp XE) elt te) (ht : ∀ (C : Addr) (J2 : Shared) (Kz : Hp) (fp : yae) (XE : yaa), dh (aW X sc ns xs C J2 Kz fp XE) Ed -> Uc (aW X sc ns xs C J2 Kz fp XE) ifs tc)
  (hx : ∀ D C : Addr, dh (aW X sc ns xs C s H fp (dw X sc ns RR D C)) Ed) (I : Inv X pins σ H s) (r : Rel X W H σ ρ) (hg : ∀ (C : Addr) (J2 : Shared) (Kz : Hp) (fp : yae) (XE : yaa), SU (aW X sc ns xs C J2 Kz fp XE) tg g) (T : Turn X.prog X.w X.K tg J fp it tn) (st : tn 0 s.heap) (RM : ∀ b ∈ fp, eE X pins H b) (yd : YD X.K W H J ds) (hz : ds.length <= sizeLine)
  (Pv : Nat -> List LI -> Prop) (p0 : Pv 0 []) (step : ∀ j d out Nn, ds[j]? = some d -> Pv j out -> nc xs.length (js.map (bR ρ)) Nn -> g d Nn fun Ml => nc xs.length (js.map (bR ρ)) Ml /\ tc Ml fun b => if b = true then te Ml (fun e => Pv (j + 1) (out ++ [e])) else Pv (j + 1) out)
  (Zw : ∀ (D C : Addr) (s' : Shared) (H' : Hp) (m' : yam) (out : List LI) (bs : yaj), Inv X pins σ H' s' -> aq H H' -> s'.heap.Ns C m' -> H' C = none -> C ≠ X.env.locals -> X.J9.heap.objs.size <= C -> (∀ y c, X.env.cells.lookup y = some c -> c ≠ C) -> (∀ p ∈ X.pn ++ pins, p.1 ≠ C) →
   (H D = none /\ X.K.lookup D = none /\ ∃ vs, H' D = some (.lst vs) /\ gG X.K H D out.length bs /\ (∀ k b, bs k = some b -> ∃ us, H' b = some (.lst us)) /\ aH X.K (fun t b => W.bad t b ∨ b = D ∨ ∃ k, bs k = some b) H' bs 0 out vs) -> Pv ds.length out -> RR (.ref D) C (.ok .next) s') :
  wpAny (model X.prog X.w) X.A (newList []) (fun acc M4 => wpAny (model X.prog X.w) X.A (newFunctionEnv sc X.env.globals (dM X.env ns) [] X.env.qual none .none (some X.env)) (fun Ra Q9 =>
   codeAny (model X.prog X.w) X.A (.compStart (.ListComp elt [⟨tg, iter, ifs, 0⟩] sc pos) 0 (.ref it) acc { Ra with scope := relabel sc X.env }) (RR acc Ra.locals) Q9) E M4) E s := by
 refine UQ (wpAny_newFunctionEnv S.Q7 (by intro y hy; simp at hy) (fun Nh Pz OF => ?_) S.kind);dsimp only at Pz OF ⊢;generalize Sd : s.heap.push { cls := .type "list", dict := none, data := .seq ([] : yad).toArray } = HP at Pz OF ⊢;have hC : HP.objs.size = s.heap.objs.size + 1 := by rw [<- Sd, Heap.size_push]
 have Zx : s.heap.objs.size ≠ HP.objs.size := by rw [hC]; exact Nf (Pj _)
 have PC : s.heap.objs.size <= HP.objs.size := by rw [hC]; exact Nat.le_succ _
 have below : ∀ b, b < s.heap.objs.size -> b ≠ HP.objs.size := fun b hb => by rw [hC]; exact Nf (VI hb)
 have old : ∀ b o, s.heap.get? b = some o -> Nh.get? b = some o := fun b o e => OF.extBut b o (below b (LC e)) (Mv _ (Sd ▸ Mv _ e))
 have Se : Nh.get? s.heap.objs.size = some { cls := .type "list", data := .seq ([] : yad).toArray } := OF.extBut _ _ Zx (Mv _ (Sd ▸ Ou _ rfl));generalize eD : s.heap.objs.size = D at Zx Se;generalize eC : HP.objs.size = C at *;have S5 : H D = none := by rw [<- eD]; exact I.Ku.fresh (KO _)
 have hKD : X.K.lookup D = none := by rw [<- eD]; exact Inv.Mj I
 have hCf : H C = none := I.Ku.fresh PC;have WH : ∀ b ∈ fp, ∃ o, s.heap.get? b = some o := fun b hb => let ⟨o, e, _⟩ := T.obj 0 s.heap st b hb; ⟨o, e⟩
 have Zy : s.heap.objs.size <= D := RU eD;have okk : Md X.prog X.w (L2.upd H D (.lst [])) Nh := I.Ku.laid old Zy ⟨Mx _, [], 0, .nil, Se⟩;have Zz : ∀ o, L2.upd H D o C = none := fun o => by rw [aw (Ne.symm Zx)]; exact hCf
 have I1 : Inv (aW X sc ns xs C s H fp (dw X sc ns RR D C)) [] (List.replicate xs.length none ++ js.map (jh σ)) (L2.upd H D (.lst [])) { s with heap := Nh, toks := s.toks + ([] : List (Str × Value)).length } :=
  Inv.comp I S hj RM WH PC rfl I.bare old Pz (Zz _) (aq.upd S5) (fun b o e n => by rw [aw (fun z => absurd (LC e) (by rw [z]; exact Qx.mpr Zy))]; exact n) okk
 have nl : ∀ {a : Addr} {ws : yar}, SqL X.K H a ws -> a ≠ D := fun {a ws} q z => by
  subst z;rcases q with (q | ⟨o, q⟩) | ⟨o, JZ, n, q, _⟩
  ·rw [S5] at q; cases q
  ·rw [S5] at q; cases q
  ·rw [hKD] at q; cases q
 let W' : Own := ⟨fun a => W.bad false a ∨ a = D, fun _ => none, W.S⟩
 have OD : ∀ t a, W'.bad t a ↔ (W.bad t a ∨ a = D) := fun t a => ⟨fun z => by
  rcases z with (z | z) | ⟨_, q⟩ | ⟨z1, z2⟩
  ·exact .inl (Own.Pt z)
  ·exact .inr z
  ·cases q
  ·exact .inl (.inr (.inr ⟨z1, z2⟩)), fun z => by
  rcases z with z | z
  ·rcases z with z | z | z
   ·exact .inl (.inl (.inl z))
   ·exact .inl (.inl (.inr (.inl z)))
   ·exact .inr (.inr z)
  ·exact .inl (.inr z)⟩
 have hT : ∀ {H' : Hp}, aq H H' -> ∀ a vs, Le X.K H a vs -> Le X.K H' a vs := fun sm a vs q => Le.same sm q
 have hL : ∀ {H' : Hp}, aq H H' -> ∀ t a vs, ¬ W.bad t a -> MQ X.K H t a vs -> ¬ W'.bad t a /\ MQ X.K H' t a vs := fun sm t a vs n q => ⟨fun z => ((OD t a).mp z).elim n (nl q.1), q.same sm⟩
 have ZA : Rel (aW X sc ns xs C s H fp (dw X sc ns RR D C)) W' (L2.upd H D (.lst [])) (List.replicate xs.length none ++ js.map (jh σ)) (List.replicate xs.length none ++ js.map (bR ρ)) := by
  have sm : aq H (L2.upd H D (.lst [])) := aq.upd S5;have at_ : ∀ {i : Nat} {z : Sl}, (List.replicate xs.length none ++ js.map (bR ρ))[i]? = some (some z) -> ¬ i < xs.length /\ (js.map (bR ρ))[i - xs.length]? = some (some z) := fun {i z} h => by
   by_cases hi : i < xs.length
   ·rw [OV (by simpa using hi), Vz, JU hi] at h;cases h
   ·rw [NM (by simpa using hi)] at h;exact ⟨hi, by simpa using h⟩
  refine ⟨fun i d h => ?_, fun i x h => ?_, fun i j a h _ => (by cases h), fun i a h => (by cases h), fun i a h => (by cases h), fun a h => ?_, fun a h => ?_, sm, r.tab.same sm⟩
  ·obtain ⟨hi, h'⟩ := at_ h;rw [M9] at h';cases e : js[i - xs.length]? with
   | none => rw [e] at h'; cases h'
   | some j =>
    rw [e] at h';have h4 : bR ρ j = some (.val d) := MW h';have h5 : ρ[j]? = some (some (.val d)) := by
     unfold bR at h4;split at h4
     ·rename_i u q;cases h4;exact q
     ·cases h4
    obtain ⟨v, e1, e2⟩ := r.val j d h5;refine ⟨v, ?_, Den.map (hT sm) (hL sm) (fun a _ n q => sm.kp a _ q n.nt) d v e2⟩;rw [NM (by simpa using hi)];show (js.map (jh σ))[i - (List.replicate xs.length (none : Option V)).length]? = some (some v);rw [List.length_replicate, M9, e];show some (jh σ j) = some (some v);unfold jh;rw [e1]
  ·obtain ⟨hi, h'⟩ := at_ h;rw [M9] at h';cases e : js[i - xs.length]? with
   | none => rw [e] at h'; cases h'
   | some j =>
    rw [e] at h';have h4 : bR ρ j = some (.ob x) := MW h';unfold bR at h4;split at h4 <;> cases h4
  ·rcases h with h | h
   ·obtain ⟨o, q⟩ := r.tracked false a h;exact sm.ex q
   ·rw [h]; exact ⟨_, aO⟩
  ·obtain ⟨o, q⟩ := r.st a h;exact sm.ex q
 have Rb : ∀ {H' : Hp}, (∀ b ∈ fp, H' b = none) -> ∀ b ∈ fp, eE (aW X sc ns xs C s H fp (dw X sc ns RR D C)) [] H' b := fun hn b hb => by
  obtain ⟨f0, f1, f2, f3, f4, f5⟩ := RM b hb;obtain ⟨o, ho⟩ := WH b hb;refine ⟨hn b hb, fun z => ?_, fun z => ?_, .inl hb, fun y c e z => f4 y c (jU e) z, fun p hp => absurd (show p ∈ ([] : yab) from hp) (by simp)⟩
  ·have z' : b = C := z;have Mc := LC ho;rw [z'] at Mc;exact absurd (MV Mc PC) (Qw _)
  ·rcases Kr.mp (I.Ny b z) with e | e
   ·exact f1 e
   ·exact f2 e
 have Qz : ∀ b ∈ fp, (b ∈ X.ex ∨ X.J9.heap.objs.size <= b) /\ b ≠ X.env.locals /\ (∀ x c, X.env.cells.lookup x = some c -> c ≠ b) /\ ∀ p ∈ X.pn ++ pins, p.1 ≠ b := fun b hb => by obtain ⟨f0, f1, f2, f3, f4, f5⟩ := RM b hb;exact ⟨f3, f1, f4, f5⟩
 have BD0 : W'.B D := .inr rfl;have loop : ∀ M4 : Shared, M4 = { s with heap := Nh, toks := s.toks + ([] : List (Str × Value)).length } →
   codeAny (model X.prog X.w) X.A (.compLoop (.ListComp elt [⟨tg, iter, ifs, 0⟩] sc pos) 0 (.ref it) (.ref D) (compEnvC sc (dM X.env ns) C X.env)) (RR (.ref D) C) M4 := by
  rintro M4 rfl;refine zM (fun n s' => ∃ (i : Nat) (W2 : Own) (U7 : St) (Ml : Ro) (H' : Hp) (out : List LI) (vs : yar) (bs : yaj), n = ds.length - i /\ i <= ds.length /\ Inv (aW X sc ns xs C s H fp (dw X sc ns RR D C)) [] U7 H' s' /\ tn i s'.heap /\ (∀ b ∈ fp, H' b = none) ∧
   H' D = some (.lst vs) /\ (W2.B = (fun a => W'.B a ∨ ∃ k, bs k = some a) /\ W2.S = W'.S) /\ gG X.K H D out.length bs /\ (∀ k b, bs k = some b -> ∃ us, H' b = some (.lst us)) /\ aH X.K W2.bad H' bs 0 out vs /\ aq H H' /\ Rel (aW X sc ns xs C s H fp (dw X sc ns RR D C)) W2 H' U7 Ml /\ nc xs.length (js.map (bR ρ)) Ml /\ Pv i out /\ out.length <= i) ?_ ds.length
   ⟨0, W', _, _, _, [], [], fun _ => none, by simp, Mx _, I1, T.keep 0 s.heap Nh st (fun b hb o e => old b o e), fun b hb => ?_, aO, ⟨by funext a; simp, rfl⟩, gG.nil, (fun _ _ h => by cases h), by simp only [aH], aq.upd S5, ZA, ⟨_, by simp, rfl⟩, p0, KO _⟩
  rotate_left
  ·obtain ⟨o, ho⟩ := WH b hb;rw [aw (fun z => absurd (LC ho) (by rw [z]; exact Qx.mpr Zy))];exact (RM b hb).1
  rintro n s3 ⟨i, W2, U7, Ml, H3, out, vs, bs, en, hle, I3, Ni, Wq, hD3, RN, Ud, hls, WL, WM, rl3, ZC, p3, ol⟩;have nb2 : ∀ {W3 : Own} {H' : Hp} {QA : St} {Qn : Ro}, (W3.B = (fun a => W'.B a ∨ ∃ k, bs k = some a) /\ W3.S = W'.S) -> Rel (aW X sc ns xs C s H fp (dw X sc ns RR D C)) W3 H' QA Qn -> aq H H' -> ∀ t a vs, ¬ W.bad t a -> MQ X.K H t a vs -> ¬ W3.bad t a /\ MQ X.K H' t a vs := fun {W3 H' QA Qn} hw rl sm t a vs n q => by
   refine ⟨fun z => ?_, q.same sm⟩;rcases z with z | ⟨k, z⟩ | ⟨z1, z2⟩
   ·rw [hw.1] at z;rcases z with z | ⟨k, z⟩
    ·exact (hL sm t a vs n q).1 (.inl z)
    ·obtain ⟨_, h0, kk, _⟩ := Ud.ok k a z;rcases q.1 with (q1 | ⟨o, q1⟩) | ⟨o, JZ, m, q1, _⟩
     ·rw [h0] at q1; cases q1
     ·rw [h0] at q1; cases q1
     ·rw [kk] at q1; cases q1
   ·have h0 : H a = none := rl.ke k a z;rcases q.1 with (q1 | ⟨o, q1⟩) | ⟨o, JZ, m, q1, _⟩
    ·rw [h0] at q1; cases q1
    ·rw [h0] at q1; cases q1
    ·have kk : X.K.lookup a = none := (rl.kn k a z).1;rw [kk] at q1; cases q1
   ·rw [hw.2] at z2;exact (hL sm t a vs n q).1 (.inr (.inr ⟨z1, z2⟩))
  obtain ⟨yg, yy, ys⟩ := yd W2.bad H3 (hT WM) (nb2 RN rl3 WM) (fun a _ n q => WM.kp a _ q n.nt) i;by_cases Mc : i < ds.length
  ·refine J0 (T.item (aW X sc ns xs C s H fp (dw X sc ns RR D C)) rfl rfl rfl hc i [] s3 _ H3 _ I3 (Rb Wq) Ni (yg Mc)) fun rr s4 ⟨u, hr, h4⟩ => ?_
   subst hr;refine J0 h4 fun _ s5 J5 => ?_
   obtain ⟨x5, H5, I5, r5, y5, SV, Za⟩ := J5;obtain ⟨e5, d, hd, Nj⟩ := yy x5 H5 y5 Mc;have Zb := I5.pinned (Rb Za) (T.obj _ _ SV);have SX := rl3.same e5;have ZD : aq H H5 := WM.trans e5;refine NP (hg C s H fp _ _ s5 U7 H5 W2 Ml d x5 u _ Zb SX r5 Nj (step i d out Ml hd p3 ZC)) (fun _ s6 J5 => ?_) (fun _ _ z => z);obtain ⟨W6, Wr, H6, Ws, I6, f6, WN, WO, q6⟩ := J5;have WQ : W6.B = (fun a => W'.B a ∨ ∃ k, bs k = some a) /\ W6.S = W'.S := ⟨f6.B.trans RN.1, f6.S.trans RN.2⟩;have ZE : aq H H6 := ⟨fun b o e n => f6.kp b o (fun k z => by have h0 : H b = none := SX.ke k b z; rw [e] at h0; cases h0) (ZD.kp b o e n) n, (fun b ps e => by obtain ⟨m1, e1⟩ := ZD.tb b ps e; obtain ⟨m2, e2⟩ := f6.tb b _ e1; exact ⟨m1 ++ m2, by rw [e2, XW]⟩), fun h => f6.ok (ZD.ok h)⟩;have BD : W'.B D := .inr rfl;have ZF : H6 D = some (.lst vs) := f6.keep D _ (fun k z => (SX.kn k D z).2.1.1 (by rw [RN.1]; exact .inl BD)) (e5 _ _ hD3);have ZG : aH X.K W2.bad H5 bs 0 out vs := WL.map (fun _ _ z => z.same e5) fun _ _ q => ⟨q, fun _ z => e5 _ _ z⟩
   have Ue : ∀ k b, bs k = some b -> ∃ us, H6 b = some (.lst us) := fun k b q => let ⟨us, z⟩ := hls k b q; ⟨us, f6.keep b _ (fun l y => (SX.kn l b y).2.1.1 (by rw [RN.1]; exact .inr ⟨k, q⟩)) (e5 _ _ z)⟩
   have WR : aH X.K W6.bad H6 bs 0 out vs := ZG.map (fun _ _ z => af.fwd SX WN f6 z) fun k b q => ⟨q, fun us z => f6.keep b _ (fun l y => (SX.kn l b y).2.1.1 (by rw [RN.1]; exact .inr ⟨k, q⟩)) z⟩
   have S6 : ∀ {T7 : St} {H7 : Hp} {s7 : Shared}, Inv (aW X sc ns xs C s H fp (dw X sc ns RR D C)) ([] ++ pK fp s5.heap) T7 H7 s7 -> tn (i + 1) s7.heap /\ ∀ b ∈ fp, H7 b = none := fun {T7 H7 s7} I7 => by refine ⟨T.keep _ _ _ SV fun b hb o e => (I7.pin (b, o) (MO _ (MO _ (gZ hb e)))).1, fun b hb => ?_⟩;obtain ⟨o, e, _⟩ := T.obj _ _ SV b hb;exact (I7.pin (b, o) (MO _ (MO _ (gZ hb e)))).2.1
   refine NP (ht C s H fp _ (hx D C) _ s6 _ H6 W6 _ _ I6 WN q6) (fun b s7 J5 => ?_) (fun _ _ z => z);obtain ⟨H7, I7, e7, q7⟩ := J5;cases b with
   | false =>
    rw [JT Ov] at q7;rw [JT Ov];obtain ⟨t7, f7⟩ := S6 I7;exact ⟨ds.length - (i + 1), by lia, i + 1, W6, Wr, Ws, H7, out, vs, bs, rfl, Mc, I7.Mg, t7, f7, e7 _ _ ZF, WQ, Ud, (fun k b q => let ⟨us, z⟩ := Ue k b q; ⟨us, e7 _ _ z⟩), WR.map (fun _ _ z => z.same e7) (fun _ _ q => ⟨q, fun _ z => e7 _ _ z⟩), ZE.trans e7, WN.same e7, WO, q7, by lia⟩
   | true =>
    rw [JU rfl] at q7;rw [JU rfl];refine NP (he C s H fp _ (hx D C) _ s7 _ H7 W6 _ _ I7 (WN.same e7) q7) (fun u8 s8 J5 => ?_) (fun _ _ z => z);obtain ⟨v8, H8, e8, I8, r8, Vb, hd8, q8⟩ := J5;have Sf := e7.trans Vb;have ZH := Sf _ _ ZF;have WA := WN.same e7;have Ug : aH X.K W6.bad H7 bs 0 out vs := WR.map (fun _ _ z => z.same e7) fun _ _ q => ⟨q, fun _ z => e7 _ _ z⟩
    have smH : aq H H8 := ZE.trans Sf;obtain ⟨W8, Vd, hW8, Uh, ZI, rl8, ZJ, WS⟩ : ∃ (W8 : Own) (Vd : yaj), (W8.B = (fun a => W'.B a ∨ ∃ k, Vd k = some a) /\ W8.S = W'.S) /\ gG X.K H D (out ++ [e8]).length Vd /\ (∀ k b, Vd k = some b -> ∃ us, H8 b = some (.lst us)) /\ Rel (aW X sc ns xs C s H fp (dw X sc ns RR D C)) W8 H8 Wr Ws /\ aH X.K W8.bad H8 Vd 0 (out ++ [e8]) (vs ++ [v8]) /\ vs.length = out.length := by
     have ln := Ug.len;cases e8 with
     | val d =>
      refine ⟨W6, bs, WQ, Ud.up (by simp), (fun k b q => let ⟨us, z⟩ := Ue k b q; ⟨us, Sf _ _ z⟩), WA.same Vb, ?_, ln⟩;exact (Ug.map (fun _ _ z => z.same Vb) fun _ _ q => ⟨q, fun _ z => Vb _ _ z⟩).NG hd8
     | own QD =>
      obtain ⟨a, ws, rfl, na, ka, ha, Py⟩ := hd8;obtain ⟨rb, db⟩ := WA.ban Vb na ka ha;have nH : H a = none := (ZE.trans e7).free na;have nD : a ≠ D := fun z => by rw [z, e7 _ _ ZF] at na; cases na
      refine ⟨⟨fun b => W6.B b ∨ b = a, W6.O, W6.S⟩, fun k => if k = out.length then some a else bs k, ⟨?_, WQ.2⟩, Ud.put nH ka nD (fun k z => ?_), (fun k b q => ?_), rb, ?_, ln⟩
      ·funext b
       show (W6.B b ∨ b = a) = _;rw [WQ.1];refine propext ⟨fun z => ?_, fun z => ?_⟩
       ·rcases z with (z | ⟨k, z⟩) | z
        ·exact .inl z
        ·exact .inr ⟨k, by show (if k = out.length then some a else bs k) = some b; rw [JT (Nf (Ud.ok k b z).1)]; exact z⟩
        ·exact .inr ⟨out.length, by show (if out.length = out.length then some a else bs out.length) = some b; rw [JU rfl, z]⟩
       ·rcases z with z | ⟨k, z⟩
        ·exact .inl (.inl z)
        ·have z : (if k = out.length then some a else bs k) = some b := z;by_cases ek : k = out.length
         ·rw [JU ek] at z; cases z; exact .inr rfl
         ·rw [JT ek] at z; exact .inl (.inr ⟨k, z⟩)
      ·obtain ⟨o, hu⟩ := WA.bt a (by rw [WQ.1]; exact .inr ⟨k, z⟩);rw [hu] at na; cases na
      ·have q : (if k = out.length then some a else bs k) = some b := q;by_cases ek : k = out.length
       ·rw [JU ek] at q; cases q; exact ⟨_, ha⟩
       ·rw [JT ek] at q;obtain ⟨us, z⟩ := Ue k b q;exact ⟨us, Sf _ _ z⟩
      ·refine aH.NH (Ug.map (B' := fun k => if k = out.length then some a else bs k) (fun ds vs z => db ds vs z) fun k b q => ⟨by show (if k = out.length then some a else bs k) = some b; rw [JT (Nf (Ud.ok k b q).1)]; exact q, fun _ z => Vb _ _ z⟩) (by simp) ha (Py.Kw fun t b z => ?_);rcases z with (z | z) | z | z
       ·exact .inl (.inl z)
       ·exact .inr z
       ·exact .inl (.inr (.inl z))
       ·exact .inl (.inr (.inr z))
    have BD8 : W8.B D := by rw [hW8.1]; exact .inl BD
    refine NP (sv (X := aW X sc ns xs C s H fp (dw X sc ns RR D C)) _ s8 _ H8 (.ref D) [v8] (.ref D) [u8] (fun _ H' => H' = L2.upd H8 D (.lst (vs ++ [v8]))) I8 rfl (.cons r8 .nil) ⟨D, vs, v8, rfl, rfl, ZH, by rw [WS]; lia, rfl⟩) (fun _ s9 J5 => ?_) (fun _ _ z => z);obtain ⟨v9, H9, I9, _, eH⟩ := J5;subst eH;obtain ⟨t9, f9⟩ := S6 I9;obtain ⟨rl9, dn9⟩ := rl8.Zv (vs' := vs ++ [v8]) BD8 ZH S5;exact ⟨ds.length - (i + 1), by lia, i + 1, W8, Wr, Ws, _, out ++ [e8], vs ++ [v8], Vd, rfl, Mc, I9.Mg, t9, f9, aO, hW8, Uh, (fun k b q => let ⟨us, z⟩ := ZI k b q; ⟨us, by rw [aw (Uh.ok k b q).2.2.2]; exact z⟩), ZJ.map dn9 (fun k b q => ⟨q, fun us z => by rw [aw (Uh.ok k b q).2.2.2]; exact z⟩), smH.ins S5 ZH True.intro True.intro, rl9, WO, q8, by rw [LO, XS]; lia⟩
  ·have e : i = ds.length := by lia
   refine J0 (T.done (aW X sc ns xs C s H fp (dw X sc ns RR D C)) rfl rfl rfl hc i [] s3 _ H3 _ I3 (Rb Wq) Ni (ys (by lia))) fun rr s4 J5 => ?_
   obtain ⟨hr, I4⟩ := J5;subst hr;subst e;have Io : Inv X pins σ H3 s4 := I.O1 I4.os I4.base I4.Ku I4.bare Qz;obtain ⟨m, hm, _⟩ := I4.loc;exact Zw D C s4 H3 m out bs Io WM hm I4.free (fun z => absurd I.lt (by rw [<- z]; exact Qx.mpr PC)) (LZ I.sz PC) (fun y c e z => by
    obtain ⟨v, q⟩ := I.cell y c e;exact absurd q.lt (by rw [z]; exact Qx.mpr PC)) (fun p hp z => absurd (LC (I.pin p hp).1) (by rw [z]; exact Qx.mpr PC))
    ⟨S5, hKD, _, hD3, Ud, hls, WL.map (fun _ _ z => z.Kw fun t a z => (by
     rcases z with z | z
     ·rcases (OD t a).mpr (.inl z) with q | ⟨k, q⟩ | q
      ·exact .inl (by rw [RN.1]; exact .inl q)
      ·cases q
      ·exact .inr (.inr ⟨q.1, by rw [RN.2]; exact q.2⟩)
     ·rcases z with z | z
      ·exact .inl (by rw [RN.1]; exact .inl (z ▸ BD0))
      ·exact .inl (by rw [RN.1]; exact .inr z))) fun _ _ q => ⟨q, fun _ z => z⟩⟩ p3
 exact codeAny_compStart_list (loop _ rfl) (T.self _ 0 _ _ _ (T.keep 0 s.heap Nh st (fun b hb o e => old b o e)) (loop _ rfl))
end
theorem aH.vals{K:yac}{P:yak}{H:Hp}{B:yaj}:∀{ds:yas} {k:Nat} {vs:yar},aH K P H B k (ds.map .val) vs->af K P H ds vs
 |[],_,_,h=>by simp only[RD,aH]at h;subst h;exact af.nil
 |d::r,_,_,h=>by simp only[K5,aH]at h;obtain⟨v,u,rfl,h1,h2⟩:=h;exact af.cons h1 h2.vals
def GS(h:Kn X e te):PEM X e fun ρ Q=>te ρ fun d=>Q (.val d):=fun pins s σ H W ρ Q I r t=>NP (h pins s σ H W ρ _ I r t) (fun _ _ K1=>(by obtain⟨v,H',d,a,b,c,q,z⟩:=K1;exact⟨v,H',.val d,a,b,c,q,z⟩)) fun _ _ z=>z
section
variable{X:Cx}{pins:yab}{σ:St}{H:Hp}{s:Shared}{sc:Scope}{ns:yah}{js:yag}{xs:yah}{fp:yae}
def oG {elt iter tg : Expr} {ifs : yai} {pos : Pos} {g : DG} {te : DE} {tc : DT} {W : Own} {ρ : Ro} {J : It} {it : Addr} {tn : Nat -> Heap -> Prop} {ds : yas} {E : yaa} {RR : Value -> Addr -> Result -> Shared -> Prop} (hc : X.calm = true) (S : Ub X.env.scope sc xs ns)
  (hj : js.length = ns.length /\ ∀ (i : Nat) (j : Nat) (n : Str), js[i]? = some j -> ns[i]? = some n -> X.N[j]? = some n)
  {Ed : Value -> Prop} (he : ∀ (C : Addr) (J2 : Shared) (Kz : Hp) (fp : yae) (XE : yaa), dh (aW X sc ns xs C J2 Kz fp XE) Ed -> Kn (aW X sc ns xs C J2 Kz fp XE) elt te) (ht : ∀ (C : Addr) (J2 : Shared) (Kz : Hp) (fp : yae) (XE : yaa), dh (aW X sc ns xs C J2 Kz fp XE) Ed -> Uc (aW X sc ns xs C J2 Kz fp XE) ifs tc)
  (hx : ∀ D C : Addr, dh (aW X sc ns xs C s H fp (dw X sc ns RR D C)) Ed) (I : Inv X pins σ H s) (r : Rel X W H σ ρ) (hg : ∀ (C : Addr) (J2 : Shared) (Kz : Hp) (fp : yae) (XE : yaa), SU (aW X sc ns xs C J2 Kz fp XE) tg g) (T : Turn X.prog X.w X.K tg J fp it tn) (st : tn 0 s.heap) (RM : ∀ b ∈ fp, eE X pins H b) (yd : YD X.K W H J ds) (hz : ds.length <= sizeLine)
  (Pv : Nat -> yas -> Prop) (p0 : Pv 0 []) (step : ∀ j d out Nn, ds[j]? = some d -> Pv j out -> nc xs.length (js.map (bR ρ)) Nn -> g d Nn fun Ml => nc xs.length (js.map (bR ρ)) Ml /\ tc Ml fun b => if b = true then te Ml (fun e => Pv (j + 1) (out ++ [e])) else Pv (j + 1) out)
  (Zw : ∀ (D C : Addr) (s' : Shared) (H' : Hp) (m' : yam) (out : List PD.D), Inv X pins σ H' s' -> aq H H' -> s'.heap.Ns C m' -> H' C = none -> C ≠ X.env.locals -> X.J9.heap.objs.size <= C -> (∀ y c, X.env.cells.lookup y = some c -> c ≠ C) -> (∀ p ∈ X.pn ++ pins, p.1 ≠ C) →
   (H D = none /\ X.K.lookup D = none /\ ∃ vs, H' D = some (.lst vs) /\ af X.K (fun t b => W.bad t b ∨ b = D) H' out vs) -> Pv ds.length out -> RR (.ref D) C (.ok .next) s') :
  wpAny (model X.prog X.w) X.A (newList []) (fun acc M4 => wpAny (model X.prog X.w) X.A (newFunctionEnv sc X.env.globals (dM X.env ns) [] X.env.qual none .none (some X.env)) (fun Ra Q9 =>
   codeAny (model X.prog X.w) X.A (.compStart (.ListComp elt [⟨tg, iter, ifs, 0⟩] sc pos) 0 (.ref it) acc { Ra with scope := relabel sc X.env }) (RR acc Ra.locals) Q9) E M4) E s := by
 have e : ∀ k l, (∃ q, l.map LI.val = q.map LI.val /\ Pv k q) = Pv k l := fun k l => propext ⟨fun K1 => (by obtain ⟨q, a, b⟩ := K1; exact (List.map_inj_right (fun _ _ => LI.val.inj)).mp a ▸ b), fun b => ⟨l, rfl, b⟩⟩
 refine we (te := fun ρ Q => te ρ fun d => Q (.val d)) hc S hj (fun C J2 Kz fp XE p => GS (he C J2 Kz fp XE p)) ht hx I r hg T st RM yd hz (fun k o => ∃ q, o = q.map LI.val /\ Pv k q) ⟨[], rfl, p0⟩ ?_ ?_
 ·rintro j d _ Nn hd ⟨q, rfl, hp⟩ cr;have e2 : ∀ x, q.map LI.val ++ [LI.val x] = (q ++ [x]).map LI.val := fun x => by rw [Na]; rfl
  simp only [e2, e];exact step j d q Nn hd hp cr
 ·rintro D C s' H' m' _ bs I' sm a1 a2 a3 a4 a5 a6 ⟨h1, h2, vs, h3, _, _, h4⟩ ⟨q, rfl, hp⟩;exact Zw D C s' H' m' q I' sm a1 a2 a3 a4 a5 a6 ⟨h1, h2, vs, h3, h4.vals.Kw fun t b z => z.elim .inl fun z => .inr (.inl z)⟩ hp
def uP{X:Cx}{sc:Scope}{ns:yah}{x:Str}{fp:yae}(S:Ub X.env.scope sc [x] ns):SU (aW X sc ns [x] C J2 Kz fp XE) (.Name x px) (oW 0) :=
 have tl:(compEnvC sc (dM X.env ns) C X.env).scope.names.lookup x=some .local:=lookup_relabel_local (S.tgt x (by simp))
 bw (X:=aW X sc ns [x] C J2 Kz fp XE) 0 S.nd rfl (.inl tl) (.inr tl)
def DY{ds:yas}{Pv:Nat->yas->Prop}{tc:DT}{te:DE}{Va:Ro}(step:∀j d out,ds[j]?=some d->Pv j out->tc (some (.val d)::Va) fun b=>if b=true then te (some (.val d)::Va) (fun e=>Pv (j+1) (out++[e]))else Pv (j+1) out) :
  ∀ j d out Nn,ds[j]?=some d->Pv j out->nc 1 Va Nn->oW 0 d Nn fun Ml=>nc 1 Va Ml/\tc Ml fun b=>if b=true then te Ml (fun e=>Pv (j+1) (out++[e]))else Pv (j+1) out:=by
 rintro j d out Nn hd hp ⟨r0,hl,rfl⟩
 match r0,hl with
 |[a],_=>exact⟨⟨[some (.val d)],rfl,rfl⟩,step j d out hd hp⟩
def oH(wi:DA)(js:yag)(tc:DT)(te:DE):DE:=fun ρ Q=>wi ρ fun ds=>ds.length<=sizeLine/\∃Pv:Nat->yas->Prop,Pv 0 [] ∧
 (∀j d out,ds[j]?=some d->Pv j out->tc (some (.val d)::js.map (bR ρ)) fun b=>if b=true then te (some (.val d)::js.map (bR ρ)) (fun e=>Pv (j+1) (out++[e]))else Pv (j+1) out)/\∀out,Pv ds.length out->Q (.lst true out)
def bC(N:yah)(ns:yah)(js:yag):Prop:=js.length=ns.length/\∀(i:Nat) (j:Nat) (n:Str),js[i]?=some j->ns[i]?=some n->N[j]?=some n
def bC.nil:bC N [] []:=⟨rfl,fun i j n h=>by simp at h⟩
def bC.cons{ns:yah}{js:yag}{n:Str}(j:Nat)(h:bC N ns js)(e:N[j]?=some n:=by rfl):bC N (n::ns) (j::js):=⟨by simp[h.1],fun i j' m h1 h2=>by
 cases i with
 |zero=>simp at h1 h2;subst h1 h2;exact e
 |succ i=>exact h.2 i j' m (by simpa using h1) (by simpa using h2)⟩
variable{elt iter:Expr}{ifs:yai}{px pos:Pos}{te:DE}{tc:DT}{wi:DA}{x:Str}
def b5(hc:X.calm=true)(S:Ub X.env.scope sc [x] ns)(hj:bC X.N ns js)(hi:RK X (.Name x px) iter wi)(ht:∀(C:Addr) (J2:Shared) (Kz:Hp) (fp:yae) (XE:yaa),Uc (aW X sc ns [x] C J2 Kz fp XE) ifs tc)
  (he:∀(C:Addr) (J2:Shared) (Kz:Hp) (fp:yae) (XE:yaa),Kn (aW X sc ns [x] C J2 Kz fp XE) elt te) (Rc:closureFor sc X.env=pure (dM X.env ns):=by rfl) (hs:∀x,foldedSetIterable iter X.env x=pure x:=by intro _;rfl) :
  Kn X (.ListComp elt [⟨.Name x px,iter,ifs,0⟩] sc pos) (oH wi js tc te):=by
 intro pins s σ H W ρ Q I r h;rw[eval_ListComp];refine wpAny_comprehension_free (use:=none) rfl hs Rc S.kind S.names (J0 (hi pins s σ H W ρ _ I r h) fun v s1 h1=>J0 h1 fun Q0 s2 h2=>?_);obtain⟨it,fp,tn,J,H2,ds,e,I2,e2,T,Kb,f2,yd,hz,Pv,p0,step,fin⟩:=h2;subst e;refine oG (RR:=fun acc C=>compPost (model X.prog X.w) X.A X.xe none (DP X pins σ W H Q) acc C) hc S hj (Ed:=fun _=>False) (fun C J2 Kz fp XE _=>he C J2 Kz fp XE) (fun C J2 Kz fp XE _=>ht C J2 Kz fp XE) (fun _ _=>dh.no) I2 (r.same e2) (fun C J2 Kz fp XE=>uP S) T Kb f2 yd hz Pv p0 (DY step) ?_;intro D C s' H' m' out I' sm SO WI Yb ZK Yc ZL ⟨hn,hk,vs,hD,LJ⟩ pv;have Nj:Den X.K W.bad H' (.lst true out) (.ref D):=Den.lst ((r.same e2).fresh hn) (.new hD hk) (LJ.Kw fun _ _ z=>.inl z);refine⟨m',SO,fun h' Ui=>?_⟩;exact⟨.ref D,H',_,I'.turned (t':=s'.toks) (fun b o hb e=>(Ui.2 b hb).trans e) WI Yb (.inr ZK) Yc ZL,rfl,e2.trans sm,Nj,fin out pv⟩
def oP{y:Str}{WT:Pos}(i:Nat)(hN:X.N.Nodup)(hc:X.calm=true)(S:Ub X.env.scope sc [x] ns)(hj:bC X.N ns js)(hi:RK X (.Name x px) iter wi)(ht:∀(C:Addr) (J2:Shared) (Kz:Hp) (fp:yae) (XE:yaa),Uc (aW X sc ns [x] C J2 Kz fp XE) ifs tc)
  (he:∀(C:Addr) (J2:Shared) (Kz:Hp) (fp:yae) (XE:yaa),Kn (aW X sc ns [x] C J2 Kz fp XE) elt te) (hy:X.N[i]?=some y:=by rfl) (hly:X.env.scope.names.lookup y=some .local:=by rfl) (Rc:closureFor sc X.env=pure (dM X.env ns):=by rfl) (hs:∀x,foldedSetIterable iter X.env x=pure x:=by intro _;rfl)
  (hsw:swapsWith (.ListComp elt [⟨.Name x px,iter,ifs,0⟩] sc pos) (some (.Name y py)) WT.line X.env=pure true:=by rfl) :
  MS X (.Assign [.Name y py] (.ListComp elt [⟨.Name x px,iter,ifs,0⟩] sc pos) WT) (BU i (oH wi js tc te)):=by
 intro pins s σ H W ρ E I r h;rw[exec_Assign_Name_used _ _ _ _ hsw];refine JX (wpAny_standAt (JX ?_));show wpAny _ X.A (do let _←comprehension (.ListComp elt [⟨.Name x px,iter,ifs,0⟩] sc pos) sc X.env _ (newList []) false (eval iter X.env) (some (assign (.Name y py) X.env))) _ _ s;refine JX (NP (wpAny_comprehension_free (use:=some (assign (.Name y py) X.env)) (Q:=fun _ s'=>RI X pins W H E .next s') rfl hs Rc S.kind S.names
  (J0 (hi pins s σ H W ρ _ I r h) fun v s1 h1=>J0 h1 fun Q0 s2 h2=>?_)) (fun _ s' hq=>Ki (Ki hq)) fun _ _ e=>e)
 obtain⟨it,fp,tn,J,H2,ds,e,I2,e2,T,Kb,f2,yd,hz,Pv,p0,step,fin⟩:=h2;subst e;refine oG (RR:=fun acc C=>compPost (model X.prog X.w) X.A X.xe (some (assign (.Name y py) X.env)) (fun _ s'=>RI X pins W H E .next s') acc C) hc S hj (Ed:=fun _=>False) (fun C J2 Kz fp XE _=>he C J2 Kz fp XE) (fun C J2 Kz fp XE _=>ht C J2 Kz fp XE) (fun _ _=>dh.no) I2 (r.same e2) (fun C J2 Kz fp XE=>uP S) T Kb f2 yd hz Pv p0 (DY step) ?_;intro D C s' H' m' out I' sm SO WI Yb ZK Yc ZL ⟨hn,hk,vs,hD,LJ⟩ pv;have Nj:Den X.K W.bad H' (.lst true out) (.ref D):=Den.lst ((r.same e2).fresh hn) (.new hD hk) (LJ.Kw fun _ _ z=>.inl z);have rr:=(r.same e2).same sm;show wpAny _ X.A (assign (.Name y py) X.env (.ref D)) _ _ _;refine wpAny_assign_Name (sI (v:=.ref D) I' hN hy (.inl hly) rfl (fun s3 I3 J5=>?_) (.inr hly));obtain⟨a,Ui,ha⟩:=J5;have LY:C≠a:=by
  rcases ha with z|z
  ·rw[z];exact Yb
  ·exact fun q=>Yc y a z q.symm
 refine⟨m',SO.sameBut Ui LY,fun h' ZM=>?_⟩;refine⟨W.drop i,_,H',I3.turned (t':=s3.toks) (fun b o hb e=>(ZM.2 b hb).trans e) WI Yb (.inr ZK) Yc ZL,(KI.same (e2.trans sm)).trans (KI.drop W H' i),_,rr.put (Inv.Q5 I' hy) Nj,fin out pv⟩
end
def Gh(osc sc:Scope)(xs ns:yah):Bool :=
 decide (sc.kind=.function) && (sc.names.all fun y=>decide (y.2 ≠ .cell)) && (sc.names.all fun y=>decide (y.2=.local->sc.names.lookup y.1=some .local)) && (xs.all fun x=>decide (sc.names.lookup x=some .local)) &&
 (sc.names.all fun y=>decide (y.2=.free->y.1∈ns/\osc.names.lookup y.1=some .cell)) && (ns.all fun n=>decide (sc.names.lookup n=some .free/\osc.names.lookup n=some .cell)) && decide (xs++ns).Nodup
def bK(h:Gh osc sc xs ns=true):Ub osc sc xs ns:=by unfold Gh at h;simp only[RB]at h;obtain⟨⟨⟨⟨⟨⟨h1,h2⟩,h3⟩,h4⟩,h5⟩,h6⟩,h7⟩:=h;exact⟨Nd h1,fun y hy=>Nd (VM.mp h2 y hy),fun y hy=>Nd (VM.mp h3 y hy),fun x hx=>Nd (VM.mp h4 x hx),fun y hy=>Nd (VM.mp h5 y hy),fun n hn=>Nd (VM.mp h6 n hn),Nd h7⟩
inductive ZN:yai->yah->Prop where
 |nil:ZN [] []
 |cons {x:Str} {p:Pos} {es:yai} {xs:yah} (h:ZN es xs):ZN (.Name x p::es) (x::xs)
def He(k:Bool)(R:Int->Prop)(S:Bool->Prop):((∃i:Int,[D.bl k]=[.int i]/\R i)∨∃ j:Bool,[D.bl k]=[.bl j]/\S j)=S k:=by
 apply propext;constructor
 ·rintro(⟨_,e,_⟩| ⟨_,e,q⟩)
  ·cases e
  ·cases e;exact q
 ·intro q;exact .inr ⟨k,rfl,q⟩
def Hw(b:Bool):okD (.bl b):=by unfold okD;rw[LG,OR]<;>first|exact⟨rfl,rfl⟩| (intros;contradiction)
def CF(i:Int):okD (.int i)=True:=eq_true (E3 i)
def E2(b:Bool):okD (.bl b)=True:=eq_true (Hw b)
def CG:okD .Kt=True:=eq_true E4
def E5(a b c:Int):okD (.tup [.int a,.int b,.int c])=True:=eq_true (Hx a b c)
def me(i j:Int):eqD (.int i) (.int j)=decide (i=j):=by unfold eqD;rw[LG,LG];rfl
def Ab(i j:Bool):eqD (.bl i) (.bl j)=decide (i=j):=by unfold eqD;rw[LG,LG];cases i<;>cases j<;>rfl
def Hh(t:Bool)(xs:yas)(R:yas->Prop):(∃t' ds,D.lst t xs=.lst t' ds/\R ds)=R xs:=by
 apply propext;constructor
 ·rintro⟨_,_,e,q⟩;cases e;exact q
 ·intro q;exact⟨t,xs,rfl,q⟩
def Ew(ds:yas)(r:Ro)(R:yas->Prop):(∃QD,(some (Sl.own ds)::r)[0]?=some (some (Sl.own QD))/\R QD)=R ds:=by
 apply propext;constructor
 ·rintro⟨_,e,q⟩;have e':some (some (Sl.own ds))=some (some (Sl.own _)):=e;cases e';exact q
 ·intro q;exact⟨ds,rfl,q⟩
theorem Ex(n:Nat)(x:Option Sl)(r:Ro)(R:yas->Prop):(∃QD,(x::r)[n+1]?=some (some (Sl.own QD))/\R QD)=(∃QD,r[n]?=some (some (Sl.own QD))/\R QD):=rfl
theorem G9(d:D)(r:Ro):bR (some (.val d)::r) 0=some (.val d):=rfl
theorem Hb(r:Ro):bR (none::r) 0=none:=rfl
theorem Ha(n:Nat)(x:Option Sl)(r:Ro):bR (x::r) (n+1)=bR r n:=rfl
def lV{t g:Int}(hg:g≠0)(hd:g∣t)(h:Bd n t):Bd n (t.fdiv g):=UN (PM.mT hg hd) h
def zD{x y z:Int}(h:¬(x=0/\y=0/\z=0))(hx:Bd n x)(hy:Bd n y)(hz:Bd n z):Bd n (PM.Lm x y z l):=by
 unfold Bd at *;rw[PM.qH];have d1:=Tu.mpr (PM.jY x y z);have d2:=Tu.mpr (PM.jZ x y z);have d3:=Tu.mpr (PM.j0 x y z);simp only[Int.natAbs_natCast]at d1 d2 d3;by_cases h1:x=0
 ·by_cases h2:y=0
  ·have h3:z≠0:=fun e=>h ⟨h1,h2,e⟩
   have:=TH (by lia) d3
   lia
  ·have:=TH (by lia) d2
   lia
 ·have:=TH (by lia) d1
  lia
def eF(ha:Bd 200 a)(hb:Bd 200 b)(hc:Bd 200 c)(hd:Bd 200 d):Bd 1000 (a*b - c*d):=((ha.mul hb).sub (hc.mul hd)).mono (by decide)
def sg(n:Int):Int:=if 0<n then 1 else if n<0 then -1 else 0
def rk(a0 a1 a2 b0 b1 b2:Int):Int:=if sg (a1*b0 - b1*a0)=0 then sg (a2*b0 - b2*a0)else sg (a1*b0 - b1*a0)
def sw(a0 a1 a2 b0 b1 b2 c0 c1 c2:Int):Int:=a0*(b1*c2 - c1*b2)+b0*(c1*a2 - a1*c2)+c0*(a1*b2 - b1*a2)
structure Pl(n:Nat)(a b c:Int):Prop where
 pos:0<a
 low:PM.g3 a b c=1
 b0:Bd n a
 b1:Bd n b
 b2:Bd n c
def gW{d k x y z:Int}(h1:d∣k*x)(h2:d∣k*y)(h3:d∣k*z)(hg:PM.g3 x y z=1):d∣k:=by
 have e1:d∣(Int.gcd (k*x) (k*y):Int):=UT h1 h2;rw[VL]at e1;have e2:d∣k*(Int.gcd x y:Int):=by
  have:((k.natAbs*Int.gcd x y:Nat):Int)∣k*(Int.gcd x y:Int):=by rw[Int.natCast_mul];exact VP (Int.natAbs_dvd.mpr (RT _)) (RT _)
  exact UZ e1 this
 have e3:d∣(Int.gcd (k*(Int.gcd x y:Int)) (k*z):Int):=UT e2 h3;rw[VL]at e3;have e4:Int.gcd (Int.gcd x y:Int) z=1:=hg;rw[e4,Nat.mul_one]at e3;exact UZ e3 (Int.natAbs_dvd.mpr (RT _))
def HN(b x y:Int):D:=T3 (b.fdiv (PM.Lm b x y b)) (x.fdiv (PM.Lm b x y b)) (y.fdiv (PM.Lm b x y b))
structure JN(d:D)(b x y:Int):Prop where
 ex:∃p q r,d=T3 p q r/\Bd 4000 p/\Bd 4000 q/\Bd 4000 r/\0<p/\p*x=b*q/\p*y=b*r/\PM.g3 p q r=1
end PD
namespace PZ
open PySem PySem.Spec PyProof.Rows
def WU:Bool->Heap->Addr->Addr->Nat->Prop
 |true,h,it,a,i=>h.IsListIter it a i
 |false,h,it,a,i=>h.IsTupleIter it a i
structure Ap(z TI TO i1 i2:Addr):Prop where
 a1:TI≠z
 a2:TO≠z
 a3:i1≠z
 a4:i2≠z
 a5:TI≠TO
 a6:TI≠i1
 a7:TI≠i2
 a8:TO≠i1
 a9:TO≠i2
 b1:i1≠i2
structure Out(z TO i1 i2 l:Addr):Prop where
 c1:l≠z
 c2:l≠TO
 c3:l≠i1
 c4:l≠i2
structure ZSt(k1 k2:Bool)(z TI TO i1 i2 l1 l2:Addr)(i:Nat)(h:Heap):Prop where
 z:IsZip h z TI TO .none
 ti:IsPair h TI (.ref i1) (.ref i2)
 to:∃a b,IsPair h TO a b
 s1:WU k1 h i1 l1 i
 s2:WU k2 h i2 l2 i
end PZ
namespace PD
open PySem PySem.Spec PyProof.Rows L2 PZ
def Dc:D->Option (Bool×yas)
 |.lst _ ds=>some (true,ds)
 |.tup ds=>some (false,ds)
 |_=>none
open PySem PySem.Spec PyProof.Rows L2
def OG(X:Cx)(e:Expr)(t:DA):Prop :=
 ∀ (pins:yab) (s:Shared) (σ:St) (H:Hp) (W:Own) (ρ:Ro) (Q:yas->Prop),Inv X pins σ H s->Rel X W H σ ρ->t ρ Q →
  wpAny (model X.prog X.w) X.A (eval e X.env) (fun u s'=>∃a vs H' ds,u=.ref a/\Inv X pins σ H' s'/\aq H H'/\H a=none/\X.K.lookup a=none/\H' a=some (.lst vs)/\af X.K (fun t b=>W.bad t b∨b=a) H' ds vs/\Q ds) X.xe s
def Gw(t:DA):DE:=fun ρ Q=>t ρ fun ds=>Q (.lst true ds)
section
variable{X:Cx}{e:Expr}{t:DA}{pos:Pos}
def OG.QE(h:OG X e t):Kn X e (Gw t):=by
 intro pins s σ H W ρ Q I r hw;refine J0 (h pins s σ H W ρ _ I r hw) fun u s1 J5=>?_
 obtain⟨a,vs,H',ds,e,I1,sm,n,k,ha,hd,q⟩:=J5;subst e;exact⟨.ref a,H',_,I1,rfl,sm,Den.lst (r.fresh n) (.new ha k) (hd.Kw fun _ _ z=>.inl z),q⟩
def OG.of(h:PE X e te)(k:∀σ H W ρ Q,Rel X W H σ ρ->t ρ Q->te σ H fun v H'=>∃a vs ds H1,v=.ref a/\aq H H1/\H1 a=none/\H'=L2.upd H1 a (.lst vs)/\af X.K W.bad H1 ds vs/\Q ds)(hK:∀pins σ H s a vs,Inv X pins σ H s->H a=some (.lst vs)->X.K.lookup a=none):OG X e t:=by
 intro pins s σ H W ρ Q I r hw;refine J0 (h pins s σ H _ I (k σ H W ρ Q r hw)) fun u s1 J5=>?_
 obtain⟨v,H',I1,rv,a,vs,ds,H1,e,sm,n,eH,hd,q⟩:=J5;subst e eH;cases rv;exact⟨a,vs,_,ds,rfl,I1,sm.trans (aq.upd n),sm.free n,hK _ _ _ _ a vs I1 aO,aO,af.apart n (hK _ _ _ _ a vs I1 aO) hd,q⟩
def Inv.kno{o:HO}(I:Inv X pins σ H s)(h:H a=some o):X.K.lookup a=none:=by
 cases e:X.K.lookup a with
 |none=>rfl
 |some ob =>
  have:=(I.bs a ob (I.ok.mod.Nm a ob e)).2;rw[h]at this;cases this
def Iy(i:Nat)(t:DA):DS:=fun E ρ=>t ρ fun ds=>E.nx (ρ.set i (some (.own ds)))
end
mutual
def JD:D->Bool
 |.tup ds=>pE ds
 |.obj _ _ ds=>pE ds
 |.NZ _ ds=>pE ds
 |.lst _ _=>false
 |_=>true
def pE:yas->Bool
 |[]=>true
 |d::ds=>JD d && pE ds
end
mutual
def jS:D->Bool
 |.tup ds=>jT ds
 |.obj _ _ ds=>jT ds
 |.NZ _ ds=>jT ds
 |.lst t ds=>t && jT ds
 |_=>true
def jT:yas->Bool
 |[]=>true
 |d::ds=>jS d && jT ds
end
section
variable{K:yac}{P P':yak}{H:Hp}
mutual
theorem Den.O6(k:∀a,P' true a->P true a):∀(d:D) (v:V),jS d=true->Den K P H d v->Den K P' H d v
 |.Kt,_,_,h=>by simpa only[Den]using h
 |.bl _,_,_,h=>by simpa only[Den]using h
 |.int _,_,_,h=>by simpa only[Den]using h
 |.str _,_,_,h=>by simpa only[Den]using h
 |.exc _,_,_,h=>by simpa only[Den]using h
 |.obj C ns ds,_,n,h=>by rw[jS]at n;simp only[Den]at h ⊢;obtain⟨a,dx,vs,e,q,l,kk,r⟩:=h;exact⟨a,dx,vs,e,q,l,kk,af.O6 k ds vs n r⟩
 |.OA,_,_,h=>by simpa only[Den]using h
 |.NZ ks ds,_,n,h=>by rw[jS]at n;simp only[Den]at h ⊢;obtain⟨a,o,KP,vs,e,q,l,kk,r⟩:=h;exact⟨a,o,KP,vs,e,q,l,kk,af.O6 k ds vs n r⟩
 |.lst t ds,_,n,h=>by rw[jS,RB]at n;obtain⟨n1,n2⟩:=n;subst n1;simp only[Den]at h ⊢;obtain⟨a,vs,e,p,q,r⟩:=h;exact⟨a,vs,e,fun z=>p (k a z),q,af.O6 k ds vs n2 r⟩
 |.tup ds,_,n,h=>by rw[jS]at n;simp only[Den]at h ⊢;obtain⟨a,vs,e,q,r⟩:=h;exact⟨a,vs,e,q,af.O6 k ds vs n r⟩
theorem af.O6(k:∀a,P' true a->P true a):∀(ds:yas) (vs:yar),jT ds=true->af K P H ds vs->af K P' H ds vs
 |[],_,_,h=>by simpa only[af]using h
 |d::ds,_,n,h=>by rw[jT,RB]at n;simp only[af]at h ⊢;obtain⟨v,r,e,h1,h2⟩:=h;exact⟨v,r,e,Den.O6 k d v n.1 h1,af.O6 k ds r n.2 h2⟩
end
end
def Own.soft(W:Own)(i:Nat)(a:Addr):Own:=⟨W.B,fun j=>if j=i then none else W.O j,fun b=>W.S b∨b=a⟩
section
variable{X:Cx}
theorem Rel.soft{i:Nat}(r:Rel X W H σ ρ)(e:ρ[i]?=some (some (.own ds))):∃a,W.O i=some a/\Rel X (W.soft i a) H σ (ρ.set i (some (.val (.lst false ds))))/\∀b,W.bad true b->(W.soft i a).bad true b:=by
 obtain⟨a,vs,oa,sa,ha,LJ⟩:=r.Pu i ds e;have OE:i<ρ.length:=(MZ.mp e).1;have hO:∀j b,(W.soft i a).O j=some b->j≠i/\W.O j=some b:=fun j b h=>by
  have h1:(if j=i then none else W.O j)=some b:=h;by_cases z:j=i
  ·rw[JU z]at h1;cases h1
  ·rw[JT z]at h1;exact⟨z,h1⟩
 have low:∀t b,(W.soft i a).bad t b->W.bad t b:=fun t b z=>by
  rcases z with z|⟨j,z⟩| ⟨z1,z2⟩
  ·exact .inl z
  ·exact .inr (.inl ⟨j,(hO j b z).2⟩)
  ·rcases z2 with z2|z2
   ·exact .inr (.inr ⟨z1,z2⟩)
   ·subst z2;exact .inr (.inl ⟨i,oa⟩)
 have nb:¬(W.soft i a).bad false a:=fun z=>by
  rcases z with z|⟨j,z⟩| ⟨z1,_⟩
  ·exact(r.kn i a oa).2.1.1 z
  ·exact(hO j a z).1 (r.inj j i a (hO j a z).2 oa)
  ·cases z1
 refine⟨a,oa,⟨fun j d h=>?_,fun j x h=>?_,fun j k b h1 h2=>r.inj j k b (hO j b h1).2 (hO k b h2).2,fun j b h=>?_,fun j b h=>r.ke j b (hO j b h).2,r.bt,fun b h=>?_,r.ent,r.tab⟩,fun b z=>?_⟩
 ·by_cases hj:j=i
  ·subst hj;rw[Ry OE]at h;cases h;exact⟨.ref a,sa,Den.lst nb (.any (SqL.of ha)) (LJ.Kw low)⟩
  ·rw[Oa (Ne.symm hj)]at h;obtain⟨w,h1,h2⟩:=r.val j d h;exact⟨w,h1,h2.Kw low⟩
 ·by_cases hj:j=i
  ·subst hj;rw[Ry OE]at h;cases h
  ·rw[Oa (Ne.symm hj)]at h;obtain⟨b,ws,h1,h2,h3,h4⟩:=r.own j x h;exact⟨b,ws,by show(if j=i then none else W.O j)=_;rw[JT hj];exact h1,h2,h3,h4.Kw low fun k c q=>(by show(if T1 σ.length j k=i then none else W.O (T1 σ.length j k))=_;rw[JT (qh (MZ.mp sa).1)];exact q)⟩
 ·obtain⟨k1,⟨k2,k3⟩,k4⟩:=r.kn j b (hO j b h).2;refine⟨k1,⟨k2,fun z=>z.elim k3 fun z=>?_⟩,k4⟩;subst z;exact(hO j b h).1 (r.inj j i b (hO j b h).2 oa)
 ·rcases h with h|h
  ·exact r.st b h
  ·subst h;exact⟨_,ha⟩
 ·rcases z with z|⟨j,z⟩| ⟨_,z⟩
  ·exact .inl z
  ·by_cases hj:j=i
   ·subst hj;rw[oa]at z;cases z;exact .inr (.inr ⟨rfl,.inr rfl⟩)
   ·exact .inr (.inl ⟨j,by show(if j=i then none else W.O j)=_;rw[JT hj];exact z⟩)
  ·exact .inr (.inr ⟨rfl,.inl z⟩)
variable{e:Expr}{te:DE}{tt:DT}{ta:DA}
def DF(i:Nat)(t:DE):DE:=fun ρ Q=>∃ds,ρ[i]?=some (some (.own ds))/\t (ρ.set i (some (.val (.lst false ds)))) fun d=>jS d=true/\Q d
def zR(i:Nat)(t:DT):DT:=fun ρ Q=>∃ds,ρ[i]?=some (some (.own ds))/\t (ρ.set i (some (.val (.lst false ds)))) Q
def Ej(i:Nat)(h:Kn X e te):Kn X e (DF i te):=by intro pins s σ H W ρ Q I r hw;obtain⟨ds,eo,hw⟩:=hw;obtain⟨a,oa,r',up⟩:=r.soft eo;exact J0 (h pins s σ H _ _ _ I r' hw) fun u s1 K1=>(by obtain⟨v,H',d,I1,rv,e1,hd,al,q⟩:=K1;exact⟨v,H',d,I1,rv,e1,Den.O6 up d v al hd,q⟩)
def En(i:Nat)(h:O3 X e tt):O3 X e (zR i tt):=by intro pins s σ H W ρ Q I r hw;obtain⟨ds,eo,hw⟩:=hw;obtain⟨a,oa,r',up⟩:=r.soft eo;exact h pins s σ H _ _ _ I r' hw
end
section
variable{X:Cx}{pos:Pos}
theorem af.set{K:yac}{P:yak}{H:Hp}{d:D}{v:V}(hd:Den K P H d v):∀{ds:yas} {vs:yar} (j:Nat),af K P H ds vs->af K P H (ds.set j d) (vs.set j v)
 |[],_,_,h=>by simp only[af]at h;subst h;exact af.nil
 |x::r,_,0,h=>by simp only[af]at h;obtain⟨u,w,rfl,h1,h2⟩:=h;exact af.cons hd h2
 |x::r,_,j+1,h=>by simp only[af]at h;obtain⟨u,w,rfl,h1,h2⟩:=h;exact af.cons h1 (af.set hd j h2)
theorem af.take{K:yac}{P:yak}{H:Hp}:∀{ds:yas} {vs:yar} (n:Nat),af K P H ds vs->af K P H (ds.take n) (vs.take n)
 |_,_,0,_=>by simp only[List.take_zero];exact af.nil
 |[],_,_+1,h=>by simp only[af]at h;subst h;exact af.nil
 |x::r,_,n+1,h=>by simp only[af]at h;obtain⟨u,w,rfl,h1,h2⟩:=h;exact af.cons h1 (af.take n h2)
theorem af.drop{K:yac}{P:yak}{H:Hp}:∀{ds:yas} {vs:yar} (n:Nat),af K P H ds vs->af K P H (ds.drop n) (vs.drop n)
 |_,_,0,h=>by simpa only[VS]using h
 |[],_,_+1,h=>by simp only[af]at h;subst h;exact af.nil
 |x::r,_,n+1,h=>by simp only[af]at h;obtain⟨u,w,rfl,h1,h2⟩:=h;exact af.drop n h2
theorem af.rev{K:yac}{P:yak}{H:Hp}:∀{ds:yas} {vs:yar},af K P H ds vs->af K P H ds.reverse vs.reverse
 |[],_,h=>by simp only[af]at h;subst h;exact af.nil
 |x::r,_,h=>by simp only[af]at h;obtain⟨u,w,rfl,h1,h2⟩:=h;rw[Tx,Tx];exact(af.rev h2).append (af.one h1)
def zQ(i:Nat)(tk te:DE):DS:=fun E ρ=>∃ds,ρ[i]?=some (some (.own ds))/\te ρ fun d=>tk ρ fun k=>∃n j,k=.int n/\ixN ds.length n=some j/\E.nx (ρ.set i (some (.own (ds.set j d))))
def B4 {x : Str} (i : Nat) (hk : Kn X k tk) (he : Kn X e te) (hi : X.N[i]? = some x := by rfl) (hv : QX X.env.scope x := by first | exact Or.inl rfl | exact Or.inr (Or.inl rfl) | exact Or.inr (Or.inr rfl))
  (hd : (x == ("__debug__" : Str)) = false := by decide) (Nb : (x == ("__classdict__" : Str)) = false := by decide)
  (ha : ∀ v, assign (.Subscript (.Name x px) k tp) X.env v = (do
   let ov ← holding [v] (eval (.Name x px) X.env)
   let iv ← holding [v, ov] (eval k X.env)
   standAt tp
   holding [v, ov, iv] (setItem ov iv v)
   release [v, ov, iv] []) := by intro _; rfl)
  (hs : swapsWithSole [.Subscript (.Name x px) k tp] e pos.line X.env = pure false := by rfl) (hw : swappedStores [.Subscript (.Name x px) k tp] e X.env = pure none := by rfl)
  (h1 : (assignEach [.Subscript (.Name x px) k tp] X.env).map (·.2) = [assign (.Subscript (.Name x px) k tp) X.env] := by rfl) : MS X (.Assign [.Subscript (.Name x px) k tp] e pos) (zQ i tk te) := by
 intro pins s σ H W ρ E I r h;obtain ⟨ds, eo, h⟩ := h;refine wpAny_Assign_stores (J0 (he pins s σ H W ρ _ I r h) fun u s1 J5 => ?_) hs hw;obtain ⟨v, H1, d, I1, r1, e1, R8, q1⟩ := J5;rw [h1];show wpAny _ _ (assign (.Subscript (.Name x px) k tp) X.env u) _ _ _;rw [ha];have rr := r.same e1;obtain ⟨a, _, oa, sa, _, _⟩ := rr.Pu i ds eo;refine JX (OO (J0 (gC hi hv hd Nb pins s1 σ H1 (fun o H' => H' = H1 /\ o = .ref a) I1 ⟨.ref a, sa, rfl, rfl⟩) fun ov s2 J5 => ?_));obtain ⟨o, H2, I2, ro, eH, so⟩ := J5;subst eH so;refine JX (OO (J0 (hk pins s2 σ H2 W ρ _ I2 rr q1) fun iv s3 J5 => ?_));obtain ⟨kv, H3, kd, I3, r3, e3, hd3, q3⟩ := J5;obtain ⟨n, j, ek, hj, q⟩ := q3;subst ek;have hz := hd3.K3;subst hz;have r4 := rr.same e3;obtain ⟨a', vs, oa', sa', QB, LJ⟩ := r4.Pu i ds eo;rw [oa] at oa';cases oa';refine JX (wpAny_standAt (JX (OO (J0 (set_list pins s3 σ H3 (.ref a) (.int n) v ov iv u (fun H' => H' = L2.upd H3 a (.lst (vs.set j v))) I3 ro r3 r1 ⟨a, vs, n, j, rfl, rfl, QB, by rw [LJ.len]; exact hj, rfl⟩) fun _ s4 J5 => ?_))));obtain ⟨H4, I4, e4⟩ := J5;subst e4;obtain ⟨r5, f5⟩ := r4.Qk eo oa sa QB (af.set (R8.same e3) j LJ);exact wpAny_release ⟨W, σ, _, I4, (KI.same (e1.trans e3)).trans f5, _, r5, q⟩
def yj(i:Nat)(C:yas->Prop)(f:yas->yas):DS:=fun E ρ=>∃ds,ρ[i]?=some (some (.own ds))/\C ds/\E.nx (ρ.set i (some (.own (f ds))))
def B3 {x name:Str} {id:String} {px apos Ko:Pos} {rm:V->yar->Hp->VK->Prop} {C:yas->Prop} {f:yas->yas} (g:yar->yar) (i:Nat) (slot:Slot "list" name id) (V8:typeOf (.builtin id)=pure (.type "method_descriptor")) (hm:MtM X id rm)
  (hr:∀(a:Addr) (vs:yar) (ds:yas) (H:Hp) (Q:VK),H a=some (.lst vs)->vs.length=ds.length->C ds->(∀v,Q v (L2.upd H a (.lst (g vs))))->rm (.ref a) [] H Q) (hg:∀(K:yac) (P:yak) (H:Hp) (ds:yas) (vs:yar),af K P H ds vs->af K P H (f ds) (g vs))
  (hi:X.N[i]?=some x:=by rfl) (hv:QX X.env.scope x:=by first|exact Or.inl rfl|exact Or.inr (Or.inl rfl)|exact Or.inr (Or.inr rfl)) (hd:(x==("__debug__" : Str))=false:=by decide) (Nb:(x==("__classdict__" : Str))=false:=by decide)
  (Mh:attributeBase (.Name x px) name X.env (eval (.Name x px) X.env)=eval (.Name x px) X.env:=by rfl) (Mi:(apos.endLine==Ko.line)=true:=by rfl)
  (hs:swapsWith (.Call (.Attribute (.Name x px) name apos) [] [] Ko) none pos.line X.env=pure false:=by rfl):MS X (.Expr (.Call (.Attribute (.Name x px) name apos) [] [] Ko) pos) (yj i C f):=by
 have P0:=qW (pos:=pos) (HJ PySem.F.plainAttrs_list slot V8 hm (gC hi hv hd Nb) Mh Mi) hs;refine MS.of P0 fun σ H W ρ E r hl h=>?_
 obtain⟨ds,eo,hc,h⟩:=h;obtain⟨a,vs,oa,sa,ha,LJ⟩:=r.Pu i ds eo;obtain⟨r',f'⟩:=r.Qk eo oa sa ha (hg _ _ _ ds vs LJ);exact⟨.ref a,sa,.inl ⟨rfl,_,SqL.of ha⟩,hr a vs ds H _ ha LJ.len hc fun v=>⟨W,_,f',r',h⟩⟩
theorem af.dropLast{K:yac}{P:yak}{H:Hp}{ds:yas}{vs:yar}(h:af K P H ds vs):af K P H ds.dropLast vs.dropLast:=by rw[List.dropLast_eq_take,List.dropLast_eq_take,h.len];exact h.take _
def GO {x:Str} {px apos Ko:Pos} (i:Nat) (hi:X.N[i]?=some x:=by rfl) (hv:QX X.env.scope x:=by first|exact Or.inl rfl|exact Or.inr (Or.inl rfl)|exact Or.inr (Or.inr rfl)) (hd:(x==("__debug__" : Str))=false:=by decide) (Nb:(x==("__classdict__" : Str))=false:=by decide)
  (Mh:attributeBase (.Name x px) "pop" X.env (eval (.Name x px) X.env)=eval (.Name x px) X.env:=by rfl) (Mi:(apos.endLine==Ko.line)=true:=by rfl)
  (hs:swapsWith (.Call (.Attribute (.Name x px) "pop" apos) [] [] Ko) none pos.line X.env=pure false:=by rfl):MS X (.Expr (.Call (.Attribute (.Name x px) "pop" apos) [] [] Ko) pos) (yj i (fun ds=>0<ds.length) List.dropLast) :=
 B3 List.dropLast i PySem.F.slot_list_pop PySem.F.type_list_pop Hs (fun a vs ds H Q ha hl hc q=>by
  have hp:vs.length - 1<vs.length:=by lia
  exact⟨a,vs,vs[vs.length - 1],rfl,rfl,ha,by simp[hp],q _⟩) (fun _ _ _ _ _ h=>h.dropLast) hi hv hd Nb Mh Mi hs
variable{e:Expr}{te:DE}{p:Pos}
def DD(te:DE):DA:=fun ρ Q=>te ρ fun d=>∃k ds,Dc d=some (k,ds)/\Q ds
def uH{K:yac}{P:yak}{H:Hp}{d:D}{v:V}{k:Bool}{ds:yas}(h:Den K P H d v)(e:Dc d=some (k,ds)):∃a vs,v=.ref a/\(SqL K H a vs∨Le K H a vs)/\af K P H ds vs:=by
 cases d with
 |lst t es =>
  cases e;obtain⟨a,vs,e1,p,q,hd⟩:=h.MR;exact⟨a,vs,e1,.inl q,hd⟩
 |tup es =>
  cases e;obtain⟨a,vs,e1,q,hd⟩:=h.N1;exact⟨a,vs,e1,.inr q,hd⟩
 |Kt=>cases e
 |bl _=>cases e
 |int _=>cases e
 |str _=>cases e
 |exc _=>cases e
 |obj _ _ _=>cases e
 |OA=>cases e
 |NZ _ _=>cases e
def Ek (hg:Gl X "list") (hm:X.mg "list" = none) (he:Kn X e te) (MT:starEach [e] X.env=(false,eval e X.env)::starEach [] X.env:=by rfl) (Lr:(backTo pos (starEach [] X.env)).any (·.1)=false:=by rfl):OG X (.Call (.Name "list" p) [e] [] pos) (DD te):=by
 refine OG.of (AO ud hg hm boot_list (fH he.pe lr MT) (by decide) (by decide) MT Lr) (fun σ H W ρ Q r h=>?_) fun _ _ _ _ _ _ I h=>Inv.kno I h
 refine⟨W,ρ,_,r,h,fun v H' d e1 hd q=>?_⟩;obtain⟨k,ds,es,q⟩:=q;obtain⟨a,vs,ev,hq,LJ⟩:=uH hd es;subst ev;exact⟨a,vs,rfl,hq.imp id Le.w,fun l hl=>⟨l,vs,ds,H',rfl,e1,hl,rfl,LJ,q⟩⟩
theorem iE{K:yac}{P:yak}{H:Hp}:∀{ns:yaf} {vs:yar},af K P H (ns.map D.int) vs->vs=ns.map V.int
 |[],_,h=>by simpa only[RD,af]using h
 |n::r,_,h=>by simp only[K5,af]at h;obtain⟨v,w,rfl,h1,h2⟩:=h;rw[h1.K3,iE h2];rfl
def zK (hc:X.calm=true):dg X (.builtin "sum") (fun ds Q=>∃(t:Bool) (ns:yaf),ds=[.lst t (ns.map D.int)]/\Q (.int ns.sum)):=by
 intro pins s σ H W ds vs us Q I tr r hd q;obtain⟨t,ns,e,q⟩:=q;subst e;obtain⟨v,rfl,h1⟩:=l6 hd;obtain⟨a,ws,ev,_,hq,hw⟩:=h1.MR;subst ev;cases r with
 |cons r1 rr =>
  cases rr;cases r1;obtain⟨JZ,rv,pl,_⟩:=I.list hq;rw[iE hw]at rv;have ia:=intsAre_of rv;obtain⟨xs,ex⟩:=ia.allInts.items;have hl:s.heap.IsList a (intItems xs):=by rw[<- ex];exact pl.isList
  refine sum_intListG (I.ok.hd hc) hl fun h' tk t' kp=>?_
  have es:preSum (numAt xs) xs.size=ns.sum:=by rw[preSum_eq,Pg (by simp),<- nums_intItems,<- ex,show JZ.toArray.toList=JZ from rfl,ia.numsOf]
  rw[es];exact⟨.int ns.sum,H,_,I.kept kp,⟨_,rfl⟩,aq.refl H,Den.int _,q⟩
theorem Vals.rev:∀{xs:yar} {us:yad},Vals xs us->Vals xs.reverse us.reverse
 |_,_,.nil=>.nil
 |_,_,.cons r t=>by rw[Tx,Tx];exact(Vals.rev t).append (.cons r .nil)
def cutD(xs:yas)(lo hi:yaq):yas:=(xs.drop (HT.Mz xs.length 0 lo)).take (HT.Mz xs.length xs.length hi - HT.Mz xs.length 0 lo)
def af.cut{K:yac}{P:yak}{H:Hp}{ds:yas}{vs:yar}(lo hi:yaq)(h:af K P H ds vs):af K P H (cutD ds lo hi) (qy vs lo hi):=by unfold cutD qy;rw[h.len];exact(h.drop _).take _
abbrev DO:=Ro->(yaq->Prop)->Prop
def S7(X:Cx)(e:Option Expr)(t:DO):Prop :=
 ∀ (pins:yab) (s:Shared) (σ:St) (H:Hp) (W:Own) (ρ:Ro) (Q:yaq->Prop),Inv X pins σ H s->Rel X W H σ ρ->t ρ Q →
  wpAny (model X.prog X.w) X.A (evalPart e X.env) (fun u s'=>∃o H',Inv X pins σ H' s'/\IsPart u o/\aq H H'/\Q o) X.xe s
def dm:DO:=fun _ Q=>Q none
def oJ(te:DE):DO:=fun ρ Q=>te ρ fun d=>∃i,d=.int i/\Q (some i)
def cL:S7 X none dm:=by intro pins s σ H W ρ Q I r h;rw[evalPart_none];exact Ki ⟨none,H,I,.none,aq.refl H,h⟩
def cM(he:Kn X e te):S7 X (some e) (oJ te):=by
 intro pins s σ H W ρ Q I r h;rw[evalPart_some];refine J0 (he pins s σ H W ρ _ I r h) fun u s1 J5=>?_
 obtain⟨v,H1,d,I1,rv,e1,hd,i,ed,q⟩:=J5;subst ed;have z:=hd.K3;subst z;obtain⟨t,rfl⟩:=rv;exact⟨some i,H1,I1,.int i t,e1,q⟩
variable{lo hi st:Option Expr}{tl th ts:DO}{p2:Pos}
def vL {R : D -> yaq -> yaq -> yaq -> Prop} (he : Kn X e te) (hl : S7 X lo tl) (hh : S7 X hi th) (ht : S7 X st ts) (I : Inv X pins σ H s) (r : Rel X W H σ ρ)
  (h : te ρ fun d => tl ρ fun l => th ρ fun u => ts ρ fun k => R d l u k)
  (hk : ∀ (v : V) (vv vl vu vk : Value) (l u k : yaq) (d : D) (sl : Addr) (H' : Hp) (s' : Shared), Inv X pins σ H' s' -> aq H H' -> RelV v vv -> Den X.K W.bad H' d v -> s'.heap.IsSliceOf sl vl vu vk -> IsPart vl l -> IsPart vu u -> IsPart vk k -> R d l u k →
   ∃ T id, typeLookup (.type T) "__getitem__" = pure (some (.builtin id)) /\ s'.TypeIs vv T /\ wpAny (model X.prog X.w) X.A (getItem vv (.ref sl)) Q X.xe s')
  (WV : ∀ vv sl, ∃ ops, subscripted (.Slice lo hi st p2) false vv sl = operate ops (getItem vv sl)) : wpAny (model X.prog X.w) X.A (eval (.Subscript e (.Slice lo hi st p2) pos) X.env) Q X.xe s := by
 refine Subscript_ (J0 (he pins s σ H W ρ _ I r h) fun vv s1 J5 => ?_);obtain ⟨v, H1, d, I1, rv, e1, hd, q1⟩ := J5;have r1 := r.same e1;refine wpAny_Slice (J0 (hl pins s1 σ H1 W ρ _ I1 r1 q1) fun vl s2 ⟨l, H2, I2, pl, e2, q2⟩ => J0 (hh pins s2 σ H2 W ρ _ I2 (r1.same e2) q2) fun vu s3 ⟨u, H3, I3, pu, e3, q3⟩ => J0 (ht pins s3 σ H3 W ρ _ I3 ((r1.same e2).same e3) q3) fun vk s4 J5 => ?_);obtain ⟨k, H4, I4, pk, e4, q4⟩ := J5;have I5 : Inv X pins σ H4 { s4 with heap := s4.heap.push { cls := .type "slice", data := .fields #[vl, vu, vk] } } := I4.kept (t' := s4.toks) fun b ob q => Mv _ q
 obtain ⟨T, id, hT, ht', hg⟩ := hk v vv vl vu vk l u k d s4.heap.objs.size H4 _ I5 (e1.trans (e2.trans (e3.trans e4))) rv (hd.same (e2.trans (e3.trans e4))) (Heap.IsSliceOf.new ..) pl pu pk q4;show wpAny (model X.prog X.w) X.A (subscriptTail e (.Slice lo hi st p2) vv (.ref s4.heap.objs.size)) Q X.xe _;obtain ⟨ops, ho⟩ := WV vv (.ref s4.heap.objs.size);exact tail_any (ops := ops) ht' hT hg ho
def GC(te:DE)(tl th:DO):DA:=fun ρ Q=>te ρ fun d=>tl ρ fun l=>th ρ fun u=>∃t ds,d=.lst t ds/\Q (cutD ds l u)
def mW(f:yar->yar)(g:yas->yas)(I:Inv X pins σ H' s)(r:Rel X W H' σ ρ)(sm:aq H H')(rv:RelV v vv)(hd:Den X.K W.bad H' (.lst tg ds) v)(hs:s.heap.IsSliceOf sl vl vu vk)(pl:IsPart vl l)(pu:IsPart vu u)(pk:IsPart vk k)(k0:k≠some 0)
  (hp:∀JZ:yad,∃g':yad->yad,slicePick JZ.toArray l u k=(g' JZ).toArray/\∀vs,Vals vs JZ->Vals (f vs) (g' JZ)/\(f vs).length<=vs.length) (hg:∀vs,af X.K W.bad H' ds vs->af X.K W.bad H' (g ds) (f vs)) {Q:yas->Prop} (q:Q (g ds)) :
  ∃ T id,typeLookup (.type T) "__getitem__" = pure (some (.builtin id))/\s.TypeIs vv T/\wpAny (model X.prog X.w) X.A (getItem vv (.ref sl)) (fun uu s'=>∃a vs Yd ds,uu=.ref a/\Inv X pins σ Yd s'/\aq H Yd/\H a=none/\X.K.lookup a=none/\Yd a=some (.lst vs)/\af X.K (fun t b=>W.bad t b∨b=a) Yd ds vs/\Q ds) X.xe s:=by
 obtain⟨a,vs,ev,_,hq,LJ⟩:=hd.MR;subst ev;cases rv;obtain⟨JZ,rr,ht,hz⟩:=I.list hq;have hlen:=rr.length;refine⟨"list", _,slot_list_getitem.lookup,ht.isList.typeIs,?_⟩;refine wpAny_getItem_list_slice ht.isList hs pl pu pk k0 ?_ (by rw[MD]<;>lia);obtain⟨g',e,hv⟩:=hp JZ;rw[e];obtain⟨rv',OE⟩:=hv vs rr;have hf:H' s.heap.objs.size=none:=I.Ku.fresh (KO _);refine⟨s.heap.objs.size,f vs,_,g ds,rfl,I.laid (t':=s.toks) (o:=.lst (f vs)) (fun b ob q=>Mv _ q) (KO _) ⟨LZ OE hz,_,0,rv',Ou _ rfl⟩,sm.trans (aq.upd hf),sm.free hf,Inv.Mj I,aO,af.apart hf (Inv.Mj I) (hg vs LJ),q⟩
def cW(he:Kn X e te)(hl:S7 X lo tl)(hh:S7 X hi th):OG X (.Subscript e (.Slice lo hi none p2) pos) (GC te tl th):=by
 intro pins s σ H W ρ Q I r h;refine vL (st:=none) (ts:=dm) (R:=fun d l u k=>k=none/\∃t ds,d=.lst t ds/\Q (cutD ds l u)) he hl hh cL I r ?_ ?_ (fun _ _=>⟨_,rfl⟩)
 ·have e1:(fun d=>tl ρ fun l=>th ρ fun u=>dm ρ fun k=>k=none/\∃t ds,d=D.lst t ds/\Q (cutD ds l u))=fun d=>tl ρ fun l=>th ρ fun u=>∃t ds,d=D.lst t ds/\Q (cutD ds l u):=by
   funext d
   congr 1
   funext l
   congr 1
   funext u
   exact propext ⟨fun z=>z.2,fun z=>⟨rfl,z⟩⟩
  rw[e1];exact h
 ·intro v vv vl vu vk l u k d sl H' s' I' sm rv hd hs pl pu pk hR;obtain⟨ek,t,ds,ed,q⟩:=hR;subst ek ed;exact mW (fun vs=>qy vs l u) (fun ds=>cutD ds l u) I' (r.same sm) sm rv hd hs pl pu pk (by simp) (fun JZ=>⟨fun JZ=>(JZ.drop (HT.Mz JZ.length 0 l)).take (HT.Mz JZ.length JZ.length u - HT.Mz JZ.length 0 l),tB JZ l u,fun vs rr=>⟨by unfold qy;rw[rr.length];exact(rr.drop _).take _,wg vs l u⟩⟩) (fun vs LJ=>LJ.cut l u) q
def GB(te:DE):DA:=fun ρ Q=>te ρ fun d=>∃t ds,d=.lst t ds/\Q ds.reverse
def GK(he:Kn X e te):OG X (.Subscript e (.Slice none none (some (.UnaryOp .USub (.Constant (.int 1) j pc) pu)) p2) pos) (GB te):=by
 intro pins s σ H W ρ Q I r h;refine vL (ts:=oJ (uz (dC (.int 1)))) (tl:=dm) (th:=dm) (R:=fun d l u k=>l=none/\u=none/\k=some (-1)/\∃t ds,d=.lst t ds/\Q ds.reverse) he cL cL (cM (bU aa)) I r ?_ ?_ (fun _ _=>⟨_,rfl⟩)
 ·have e1:(fun d=>dm ρ fun l=>dm ρ fun u=>oJ (uz (dC (.int 1))) ρ fun k=>l=none/\u=none/\k=some (-1)/\∃t ds,d=D.lst t ds/\Q ds.reverse)=fun d=>∃t ds,d=D.lst t ds/\Q ds.reverse:=by
   funext d
   apply propext;simp only[dm,oJ,uz,dC,true_and];constructor
   ·rintro⟨i,e1,i',e2,e3,z⟩;exact z
   ·intro z;exact⟨1,rfl,-1,rfl,rfl,z⟩
  rw[e1];exact h
 ·intro v vv vl vu vk l u k d sl H' s' I' sm rv hd hs pl pu pk hR;obtain⟨e1,e2,e3,t,ds,ed,q⟩:=hR;subst e1 e2 e3 ed;exact mW List.reverse List.reverse I' (r.same sm) sm rv hd hs pl pu pk (by decide) (fun JZ=>⟨List.reverse,PySem.W.krv_pick JZ.toArray,fun vs rr=>⟨Vals.rev rr,by rw[P7];exact KO _⟩⟩) (fun vs LJ=>LJ.rev) q
end
section
variable{prog:Program}{w:World}{A:Around}{E:yaa}{s:Shared}{p q:Addr}{us ws:yad}{Q:yaa}
def Jt(hp:s.heap.IsList p us.toArray)(hq:s.heap.IsList q ws.toArray)(hz:us.length+ws.length<=sizeLine)
  (h:Q (.ref s.heap.objs.size) {s with heap:=s.heap.push {cls:=.type "list", data:=.seq (us++ws).toArray} }):wpAny (model prog w) A (binaryOp .Add (.ref p) (.ref q)) Q E s:=by
 obtain⟨⟨c1,k1,x1,y1⟩,g1,g2,n1,g3⟩:=id hp;obtain⟨⟨c2,k2,x2,y2⟩,f1,f2,n2,f3⟩:=id hq;simp only at g2 g3 f2 f3;subst g2 g3 f2 f3;refine concat_meets ⟨_,g1,rfl⟩ ⟨_,f1,rfl⟩ noFill_list_add seq_list_add PySem.F.slot_list_add PySem.F.entry_list_add (PySem.F.args_list_add_2 _ _) (list_addW p q us.toArray ws.toArray n1 n2 k1 k2 y1 y2 (by simpa using hz)) ⟨g1,f1,?_⟩;rw[show us.toArray++ws.toArray=(us++ws).toArray by simp];exact h
def Ju(hp:IsTup s.heap p us.toArray)(hq:IsTup s.heap q ws.toArray)(hz:us.length+ws.length<=sizeLine)(h0:us=[]->Q (.ref q) s)(h1:ws=[]->Q (.ref p) s)
  (h:Q (.ref s.heap.objs.size) {s with heap:=s.heap.push {cls:=.type "tuple", data:=.seq (us++ws).toArray} }):wpAny (model prog w) A (binaryOp .Add (.ref p) (.ref q)) Q E s:=by
 obtain⟨⟨c1,k1,x1,y1⟩,g1,g2,n1,g3⟩:=id hp;obtain⟨⟨c2,k2,x2,y2⟩,f1,f2,n2,f3⟩:=id hq;simp only at g2 g3 f2 f3;subst g2 g3 f2 f3;by_cases hv:us=[]
 ·exact concat_meets ⟨_,g1,rfl⟩ ⟨_,f1,rfl⟩ noFill_tuple_add seq_tuple_add PySem.F.slot_tuple_add PySem.F.entry_tuple_add (PySem.F.args_tuple_add_2 _ _) (tuple_addW0 p q us.toArray ws.toArray n1 n2 k1 k2 y1 y2 (by simp[hv])) ⟨g1,f1,h0 hv⟩
 ·by_cases hw:ws=[]
  ·exact concat_meets ⟨_,g1,rfl⟩ ⟨_,f1,rfl⟩ noFill_tuple_add seq_tuple_add PySem.F.slot_tuple_add PySem.F.entry_tuple_add (PySem.F.args_tuple_add_2 _ _) (tuple_addW1 p q us.toArray ws.toArray n1 n2 k1 k2 y1 y2 (by simpa using hv) (by simp[hw])) ⟨g1,f1,h1 hw⟩
  ·refine concat_meets ⟨_,g1,rfl⟩ ⟨_,f1,rfl⟩ noFill_tuple_add seq_tuple_add PySem.F.slot_tuple_add PySem.F.entry_tuple_add (PySem.F.args_tuple_add_2 _ _) (tuple_addW2 p q us.toArray ws.toArray n1 n2 k1 k2 y1 y2 (by simpa using hv) (by simpa using hw) (by simpa using hz)) ⟨g1,f1,?_⟩;rw[show us.toArray++ws.toArray=(us++ws).toArray by simp];exact h
end
section
variable{X:Cx}{pos:Pos}
def tO:RD2:=fun x y Q=>match x,y with
 |.int i,.int j=>Q (.int (i+j))
 |.tup xs,.tup ys=>xs.length+ys.length<=sizeLine/\Q (.tup (xs++ys))
 |.lst _ xs,.lst _ ys=>xs.length+ys.length<=sizeLine/\Q (.lst true (xs++ys))
 |_,_=>False
theorem zA(i j:Int)(Q:D->Prop):tO (.int i) (.int j) Q=Q (.int (i+j)):=rfl
theorem zB(t u:Bool)(xs ys:yas)(Q:D->Prop):tO (.lst t xs) (.lst u ys) Q=(xs.length+ys.length<=sizeLine/\Q (.lst true (xs++ys))):=rfl
def EX{W:Own}{H:Hp}{t:Bool}(tr:∀t a,W.bad t a->∃o,H a=some o)(h:H a=none):¬W.bad t a:=fun z=>by obtain⟨o,q⟩:=tr _ _ z;rw[h]at q;cases q
def aS:LD X (binaryOp .Add) tO:=by
 intro pins s σ H W x y v u vv uu Q I tr rv ru hx hy q;cases x<;>cases y<;>first|exact q.elim|skip
 ·exact Hv pins s σ H W _ _ v u vv uu Q I tr rv ru hx hy q
 ·rename_i xs ys;obtain⟨p,vs,e1,ZO,R8⟩:=hx.N1;obtain⟨p',vs',e2,ZP,hd2⟩:=hy.N1;subst e1 e2;cases rv;cases ru;obtain⟨JZ,r1,t1,_⟩:=I.tuple ZO.w;obtain⟨its',r2,t2,_⟩:=I.tuple ZP.w;obtain⟨hz,q⟩:=q;have l1:=R8.len;have l2:=hd2.len;have m1:=r1.length;have m2:=r2.length;have Oi:JZ.length+its'.length<=sizeLine:=by lia
  have hf:H s.heap.objs.size=none:=I.Ku.fresh (KO _);refine Ju t1 t2 Oi (fun e=>?_) (fun e=>?_) ?_
  ·subst e;have:vs=[]:=To (by simpa using m1);subst this;have:xs=[]:=To (by simpa using l1.symm);subst this;exact⟨.ref p',H,_,I,rfl,aq.refl H,hy,q⟩
  ·subst e;have:vs'=[]:=To (by simpa using m2);subst this;have:ys=[]:=To (by simpa using l2.symm);subst this;rw[Pa]at q;exact⟨.ref p,H,_,I,rfl,aq.refl H,hx,q⟩
  ·exact⟨.ref s.heap.objs.size,L2.upd H s.heap.objs.size (.tup (vs++vs')),_,I.laid (t':=s.toks) (fun b u e=>Mv _ e) (KO _) ⟨by rw[LO];lia,JZ++its',r1.append r2,⟨_,Ou _ rfl,rfl,_,rfl⟩⟩,rfl,aq.upd hf,Den.tup (Le.of aO) ((R8.append hd2).same (aq.upd hf)),q⟩
 ·obtain⟨p,vs,e1,_,ZO,R8⟩:=hx.MR;obtain⟨p',vs',e2,_,ZP,hd2⟩:=hy.MR;subst e1 e2;cases rv;cases ru;obtain⟨JZ,r1,t1,_⟩:=I.list ZO;obtain⟨its',r2,t2,_⟩:=I.list ZP;obtain⟨hz,q⟩:=q;have l1:=R8.len;have l2:=hd2.len;have m1:=r1.length;have m2:=r2.length;have hf:H s.heap.objs.size=none:=I.Ku.fresh (KO _);refine Jt t1.isList t2.isList (by lia) ?_;exact⟨.ref s.heap.objs.size,L2.upd H s.heap.objs.size (.lst (vs++vs')),_,I.laid (t':=s.toks) (fun b u e=>Mv _ e) (KO _) ⟨by rw[LO];lia,JZ++its',0,r1.append r2,Ou _ rfl⟩,rfl,aq.upd hf,Den.lst (EX tr hf) (.new aO (Inv.Mj I)) ((R8.append hd2).same (aq.upd hf)),q⟩
def Ye(x:D):Prop:=okD x/\(LG x).depth<64
def Fv:RD2:=fun x y Q=>Ye x/\okD y/\∃ys,(y=.tup ys∨∃ t,y=.lst t ys)/\Q (.bl (!ys.any fun z=>eqD z x))
theorem t8(x:D):∀ys:yas,(bW ys).any (fun y=>PyData.eqv y (LG x))=ys.any fun z=>eqD z x
 |[]=>by rw[bW];rfl
 |y::r=>by rw[bW,List.any_cons,List.any_cons,t8 x r];rfl
def xi{A:Around}{d:PyData}(hd:d.depth<64)(hu:A.units+64<cLine):A.units+1+min (PyData.depthAll xs) d.depth<cLine:=by
 have:min (PyData.depthAll xs) d.depth<=d.depth:=Nat.min_le_right _ _
 lia
def CC(hu:X.A.units+64<cLine):LD X (compareOp .NotIn) Fv:=by
 intro pins s σ H W x y v u vv uu Q I _ rv ru hx hy q;obtain⟨h1,h2,ys,e,q⟩:=q;obtain⟨as,ra⟩:=cU I x v vv hx rv h1.1.1;obtain⟨bs,rb⟩:=cU I y u uu hy ru h2.1;have fin:DP X pins σ W H Q (.bool (!(bW ys).any fun y=>PyData.eqv y (LG x))) s:=by rw[t8];exact⟨.bl _,H,_,I,rfl,aq.refl H,Den.bl _,q⟩
 rcases e with e|⟨t,e⟩
 ·subst e;have sh:=h2.2;rw[LG]at rb sh;exact SeqAt.notIn_tuple_reads rb ra (SeqAt.canLay_of_shaped sh) (SeqAt.canLay_of_shaped h1.1.2) (xi h1.2 hu) fin
 ·subst e;have sh:=h2.2;rw[LG]at rb sh;exact SeqAt.notIn_list_reads rb ra (SeqAt.canLay_of_shaped sh) (SeqAt.canLay_of_shaped h1.1.2) (xi h1.2 hu) fin
end
def kwG{α:Type}(us ws:List α):List α:=match ws with
 |[w]=>us++[w]
 |_=>[]
def EM(r:Vals vs us)(rz:Vals zs ws):Vals (kwG vs zs) (kwG us ws):=by
 cases rz with
 |nil=>exact .nil
 |cons a b =>
  cases b with
  |nil=>exact r.append (.cons a .nil)
  |cons c d=>exact .nil
def nh(P:Program)(w:World)(K:yac)(mg:yam)(base:Heap)(x:Str)(k:Nat)(ps:yah)(kn:Str)(sp:DSp):Prop :=
 ∃ f fd,aI P w K mg base (CX1 P w) k f fd ps (aJ K sp)/\mg x=some (.ref f)/\PySem.W.keepIn K (.ref f)=true/\Binds K fd ps []/\Binds K fd ps [.none]/\zw K fd ps [kn] kwG kwG
def PKD(X:Cx)(KP:List Keyword)(t:DA):Prop :=
 ∀ (pos:Pos) (pins:yab) (s:Shared) (σ:St) (H:Hp) (W:Own) (ρ:Ro) (Q:yas->Prop),Inv X pins σ H s->Rel X W H σ ρ->t ρ Q →
  wpAny (model X.prog X.w) X.A (evalAll ((backToKw pos (keywordEach KP X.env)).map (·.2))) (DAP X pins σ W H Q) X.xe s
section
variable{X:Cx}{k:Nat}{ps:yah}{kn:Str}{sp:DSp}{x:Str}{p pos kpos:Pos}{e:Expr}{es:yai}{t tk:DA}{te:DE}{nm:Option Str}{KP:List Keyword}
def iV (h:nh X.prog X.w X.K X.mg X.base x k ps kn sp) (hr:bB k X.A) (ha:OC X (e::es) t) (hg:Gl X x:=by rfl) (NB:(x==("__debug__" : Str))=false:=by decide)
  (he:starEach (e::es) X.env=(false,eval e X.env)::starEach es X.env:=by rfl) (Lr:(backTo pos (starEach es X.env)).any (·.1)=false:=by rfl):Kn X (.Call (.Name x p) (e::es) [] pos) (lW sp [.Kt] t):=by
 obtain⟨f,fd,F,hm,hk,_,hb,_⟩:=h;exact uD (dds:=[.Kt]) (dsv:=[.none]) F hr hg hm hk hb (.cons rfl .nil) (by intro d hd;simp at hd;subst hd;exact True.intro) yS ha NB he Lr
def Gn(sp:DSp)(t:DA):DA:=fun ρ Q=>t ρ fun ds=>sp (aY ds) (fun d=>∃ys,d=.lst true ys/\pE ys=true/\Q ys) fun _=>False
end
def k9:Key->D
 |.inl i=>.int i
 |.inr x=>.str x
section
variable{κ:Type} [DecidableEq κ] {K:yac}{P:yak}{H:Hp}
def dZ(kvs:List (κ×D))(k:κ):Option D:=(kvs.find? fun kv=>decide (kv.1=k)).map (·.2)
def putD(kvs:List (κ×D))(k:κ)(d:D):List (κ×D):=if(dZ kvs k).isSome=true then kvs.map (fun kv=>if kv.1=k then(kv.1,d)else kv)else kvs++[(k,d)]
def yC(p:κ×D)(r:List (κ×D))(k:κ):dZ (p::r) k=if p.1=k then some p.2 else dZ r k:=by
 unfold dZ;rw[SG];by_cases e:p.1=k
 ·rw[JU e,Mb e];rfl
 ·rw[JT e,Qb e]
theorem nE:∀{kvs:List (κ×D)} {KP:List (κ×V)} {k:κ},KP.map (·.1)=kvs.map (·.1)->af K P H (kvs.map (·.2)) (KP.map (·.2))->match dZ kvs k with|some d=>∃v,cD KP k=some v/\Den K P H d v|none=>cD KP k=none
 |[],KP,k,e,_=>by
  have:KP=[]:=by simpa using e
  subst this;exact Dj
 |p::r,[],k,e,_=>by simp at e
 |p::r,q::s,k,e,h=>by
  simp only[K5,OW]at e;simp only[K5,af]at h;obtain⟨v,u,e1,h1,h2⟩:=h;simp only[OW]at e1;obtain⟨e1,e2⟩:=e1;subst e2;rw[yC];by_cases z:p.1=k
  ·rw[JU z,kG (e.1.trans z)];exact⟨v,by rw[e1],h1⟩
  ·rw[JT z,kF (fun y=>z (e.1.symm.trans y))];exact nE e.2 h2
def qK{kvs:List (κ×D)}{KP:List (κ×V)}{d:D}(e:KP.map (·.1)=kvs.map (·.1))(h:af K P H (kvs.map (·.2)) (KP.map (·.2)))(l:dZ kvs k=some d):∃v,cD KP k=some v/\Den K P H d v:=by have:=nE (k:=k) e h;rw[l]at this;exact this
def Cw{kvs:List (κ×D)}{KP:List (κ×V)}(e:KP.map (·.1)=kvs.map (·.1))(h:af K P H (kvs.map (·.2)) (KP.map (·.2)))(l:dZ kvs k=none):cD KP k=none:=by have:=nE (k:=k) e h;rw[l]at this;exact this
def Dd{kvs:List (κ×D)}{KP:List (κ×V)}(e:KP.map (·.1)=kvs.map (·.1))(h:af K P H (kvs.map (·.2)) (KP.map (·.2))):(cD KP k).isSome=(dZ kvs k).isSome:=by
 cases l:dZ kvs k with
 |none=>rw[Cw e h l];rfl
 |some d =>
  obtain⟨v,q,_⟩:=qK e h l;rw[q];rfl
theorem vw:∀{kvs:List (κ×D)} {KP:List (κ×V)} {k:κ} {d:D} {v:V},KP.map (·.1)=kvs.map (·.1)->af K P H (kvs.map (·.2)) (KP.map (·.2))->Den K P H d v →
  (KP.map fun kv=>if kv.1=k then(kv.1,v)else kv).map (·.1)=(kvs.map fun kv=>if kv.1=k then(kv.1,d)else kv).map (·.1)/\af K P H ((kvs.map fun kv=>if kv.1=k then(kv.1,d)else kv).map (·.2)) ((KP.map fun kv=>if kv.1=k then(kv.1,v)else kv).map (·.2))
 |[],KP,k,d,v,e,_,_=>by
  have:KP=[]:=by simpa using e
  subst this;exact⟨rfl,af.nil⟩
 |p::r,[],k,d,v,e,_,_=>by simp at e
 |p::r,q::s,k,d,v,e,h,hd=>by
  simp only[K5,OW]at e;simp only[K5,af]at h;obtain⟨v',u,e1,h1,h2⟩:=h;simp only[OW]at e1;obtain⟨e1,e2⟩:=e1;subst e2;obtain⟨i1,i2⟩:=vw (k:=k) e.2 h2 hd;rw[K5,K5,K5,K5,K5,K5];by_cases z:p.1=k
  ·rw[JU z,JU (e.1.trans z)];exact⟨by rw[i1,e.1],af.cons hd i2⟩
  ·rw[JT z,JT (fun y=>z (e.1.symm.trans y))];exact⟨by rw[i1,e.1],af.cons (by rw[e1];exact h1) i2⟩
def Fq{kvs:List (κ×D)}{KP:List (κ×V)}(e:KP.map (·.1)=kvs.map (·.1))(h:af K P H (kvs.map (·.2)) (KP.map (·.2)))(hd:Den K P H d v) :
  (putK KP k v).map (·.1)=(putD kvs k d).map (·.1)/\af K P H ((putD kvs k d).map (·.2)) ((putK KP k v).map (·.2)):=by
 unfold putK putD;rw[iT,Dd e h];by_cases z:(dZ kvs k).isSome=true
 ·rw[JU z,JU z];exact vw e h hd
 ·rw[JT z,JT z,Na,Na,Na,Na,e];exact⟨rfl,h.append (af.one hd)⟩
end
def qD{K:yac}{P:yak}{H:Hp}{k:Key}{v:V}(h:Den K P H (k9 k) v):v=kV k:=by
 cases k with
 |inl i=>exact h.K3
 |inr x=>exact h.R4
theorem rW{K:yac}{P:yak}{H:Hp}:∀{ks:List Key} {vs:yar},af K P H (ks.map k9) vs->vs=ks.map kV
 |[],_,h=>by simpa only[RD,af]using h
 |k::r,_,h=>by simp only[K5,af]at h;obtain⟨v,u,e,h1,h2⟩:=h;rw[e,qD h1,rW h2];rfl
theorem vh:∀(ks:List Key) (ps:List (V×V)),ps.map (·.1)=ks.map kV->ps=(ks.zip (ps.map (·.2))).map fun kv=>(kV kv.1,kv.2)
 |[],ps,e=>by
  have:ps=[]:=by simpa using e
  subst this;rfl
 |k::r,[],e=>by simp at e
 |k::r,p::q,e=>by simp only[K5,OW]at e;rw[K5,List.zip_cons_cons,K5,<- vh r q e.2,<- e.1]
def Az{more:List (Key×V)}:∀{kvs:List (Key×V)},(kvs.map (·.1)++more.map (·.1)).Nodup->pC kvs more=kvs++more:=by
 induction more with
 |nil=>intro kvs _;show kvs=kvs++[];rw[Pa]
 |cons p r ih =>
  intro kvs h;show pC (putK kvs p.1 p.2) r=_;have hn:cD kvs p.1=none:=by
   cases q:cD kvs p.1 with
   |none=>rfl
   |some x =>
    have ha:(kvs.any fun kv=>decide (kv.1=p.1))=true:=by rw[iT,q];rfl
    obtain⟨kv,hm,he⟩:=List.any_eq_true.mp ha;have:=(List.nodup_append.mp h).2.2 kv.1 (List.mem_map_of_mem hm) p.1 (by simp);exact absurd (Nd he) this
  rw[CV p.2 hn,ih (by rw[Na];simpa using h)];simp
def WW(X:Cx)(pos:Pos)(keys:List (Option Expr))(values:yai)(t:Ro->(List (D×D)->Prop)->Prop):Prop :=
 ∀ (pins:yab) (s:Shared) (σ:St) (H:Hp) (W:Own) (ρ:Ro) (Q:List (D×D)->Prop),Inv X pins σ H s->Rel X W H σ ρ->t ρ Q →
  wpAny (model X.prog X.w) X.A (evalPairs (pairTrees keys values X.env pos)) (fun vs s'=>∃ps H' ds,Inv X pins σ H' s'/\VV ps vs/\aq H H'/\af X.K W.bad H' (ds.map (·.1)) (ps.map (·.1))/\af X.K W.bad H' (ds.map (·.2)) (ps.map (·.2))/\Q ds) X.xe s
section
variable{X:Cx}{pos:Pos}
def DI:Ro->(List (D×D)->Prop)->Prop:=fun _ Q=>Q []
def zY(tk tv:DE)(t:Ro->(List (D×D)->Prop)->Prop):Ro->(List (D×D)->Prop)->Prop:=fun ρ Q=>tk ρ fun k=>tv ρ fun v=>t ρ fun r=>Q ((k,v)::r)
def GL:WW X pos [] [] DI:=fun pins s σ H W ρ Q I r h=>pairTrees_nil_walk ⟨[],H,[],I,.nil,aq.refl H,af.nil,af.nil,h⟩
def qF(hk:Kn X k tk)(hv:Kn X v tv)(hr:WW X pos ks vs t):WW X pos (some k::ks) (v::vs) (zY tk tv t):=by
 intro pins s σ H W ρ Q I r h;refine pairTrees_cons_walk (J0 (hk pins s σ H W ρ _ I r h) fun u s1 ⟨x,H1,dx,I1,rx,e1,hx,q1⟩=>J0 (hv pins s1 σ H1 W ρ _ I1 (r.same e1) q1) fun w2 s2 ⟨y,H2,dy,I2,ry,e2,hy,q2⟩=>
  J0 (hr pins s2 σ H2 W ρ _ I2 ((r.same e1).same e2) q2) fun ws s3 ⟨ps,H3,ds,I3,rel,e3,h1,h2,q3⟩=>?_)
 exact⟨(x,y)::ps,H3,(dx,dy)::ds,I3,.cons ⟨rx,ry⟩ rel,e1.trans (e2.trans e3),af.cons (hx.same (e2.trans e3)) h1,af.cons (hy.same e3) h2,q3⟩
def af.Uj{K:yac}{H:Hp}{o:HO}(n:H a=some o)(m:(∀xs,o ≠ .lst xs)/\(∀xs,o ≠ .tup xs)/\(∀b u,o ≠ .frz b u)/\¬RH o)(k:K.lookup a=none)(h:af K P H ds us):af K (fun t b=>P t b∨b=a) (L2.upd H a o') ds us:=by
 have hT:∀b ws,Le K H b ws->Le K (L2.upd H a o') b ws:=fun b ws q=>by show L2.upd _ _ _ _=_;rw[aw (j5 q n fun z=>m.2.1 _ z.symm)];exact q
 refine af.map hT (fun t b ws p q=>?_) (fun b u v q=>by rw[aw (j5 q n fun z=>m.2.2.2 (z ▸ v))];exact q) ds us h;have LY:b≠a:=fun z=>by
  subst z;rcases q.1 with(q|⟨u,q⟩)|⟨u,JZ,j,q,_⟩
  ·rw[n]at q;exact m.1 _ (MW q)
  ·rw[n]at q;exact m.2.2.1 _ _ (MW q)
  ·rw[k]at q;cases q
 refine⟨fun z=>z.elim p LY,?_,fun z=>⟨by rw[aw LY];exact(q.2 z).1,(q.2 z).2⟩⟩;rcases q.1 with(q|⟨u,q⟩)|q
 ·exact .inl (.inl (by rw[aw LY];exact q))
 ·exact .inl (.inr ⟨u,by rw[aw LY];exact q⟩)
 ·exact .inr q
def zP(i:Nat)(t:Ro->(List (D×D)->Prop)->Prop):DS:=fun E ρ=>t ρ fun ps=>∃kvs:List (Key×D),ps=kvs.map (fun kv=>(k9 kv.1,kv.2))/\kvs.length<=15/\(kvs.map (·.1)).Nodup/\E.nx (ρ.set i (some (.ob (.dk kvs))))
def BZ{x:Str}{pos' Uk:Pos}{keys:List (Option Expr)}{values:yai}{t:Ro->(List (D×D)->Prop)->Prop}(i:Nat)(hN:X.N.Nodup)(h:WW X Uk keys values t)(hi:X.N[i]?=some x:=by rfl)(LR:keys.all (·.isSome)=true:=by rfl)(hl:keys.length=values.length:=by rfl)(h0:keys ≠ []:=by simp)
  (h15:keys.length<=15:=by decide) (hx:Loc X.env.scope x:=by first|exact Or.inl rfl|exact Or.inr rfl) (hs:swapsWith (.Dict keys values Uk) (some (.Name x pos')) pos.line X.env=pure false:=by rfl)
  (hf:X.fn x=true∨X.env.scope.names.lookup x=some .local:=by first|exact .inl rfl|exact .inr rfl|assumption):MS X (.Assign [.Name x pos'] (.Dict keys values Uk) pos) (zP i t):=by
 intro pins s σ H W ρ E I r hq;have hn:=I.Ku.fresh (KO s.heap.objs.size);have R9:=Inv.Mj I;have I1:=I.laid (a:=s.heap.objs.size) (o:=.dK []) (h':=s.heap.push {cls:=.type "dict", data:=.dict #[]}) (t':=s.toks) (fun _ _ q=>Mv _ q) (KO _) (BY s.heap I.big);refine wpAny_Assign_Name (wpAny_Dict_walk (knd:=bG X.prog X.w) LR hl h0 h15 (J0 (h pins _ σ _ W ρ _ I1 (r.same (aq.upd hn)) hq) fun ws s2 J5=>?_)) hs;obtain⟨ps,H2,ds,I2,rel,sm,d1,d2,kvs,ek,lk,nd,q⟩:=J5;subst ek;have e:=sm _ _ (aO (H:=H) (a:=s.heap.objs.size) (o:=.dK []));have Ve:ps.map (·.1)=(kvs.map (·.1)).map kV:=rW (by
  have:(kvs.map fun kv=>(k9 kv.1,kv.2)).map (·.1)=(kvs.map (·.1)).map k9:=by simp[MX,Function.comp_def]
  rw[this]at d1;exact d1)
 have d2':af X.K W.bad H2 (kvs.map (·.2)) (ps.map (·.2)):=by
  have:(kvs.map fun kv=>(k9 kv.1,kv.2)).map (·.2)=kvs.map (·.2):=by simp[MX,Function.comp_def]
  rw[this]at d2;exact d2
 have hlen:(kvs.map (·.1)).length=(ps.map (·.2)).length:=by have:=d2'.len;simp at this;simp[this]
 have ep:=vh _ ps Ve;generalize hkw:(kvs.map (·.1)).zip (ps.map (·.2))=KP at ep;have f1:KP.map (·.1)=kvs.map (·.1):=by rw[<- hkw,List.map_fst_zip (RU hlen)]
 have f2:KP.map (·.2)=ps.map (·.2):=by rw[<- hkw,List.map_snd_zip (RU hlen.symm)]
 rw[ep]at rel;obtain⟨rs,c,rk⟩:=oD (P:=X.prog) (w:=X.w) rel;obtain⟨z,hd,vs0,r0,dd⟩:=DH I2.Ku e;cases r0;refine⟨rs,c,dd,fun h' TX Ui=>?_⟩;have lkw:KP.length=kvs.length:=by have:=congrArg List.length f1;simpa using this
 have hm:pC [] KP=KP:=by rw[Az (by rw[f1];simpa using nd)];rfl
 have hz:KP.length<=sizeLine:=by rw[lkw,sizeLine_eq];lia
 have he:∃q,h'.get? s.heap.objs.size=some q:=let ⟨q,_,_,hq,_⟩:=TX;⟨q,hq⟩;have I3:=qz (t':=s2.toks+ws.length) I2 (by rw[e];exact True.intro) Ui he (zX (kvs:=KP) hz hd (by rw[<- hm];exact rk.merge .nil) TX);have rp:=r.WD (x:=.dk kvs) (Inv.Q5 I2 hi) (H':=L2.upd H2 s.heap.objs.size (.dK KP)) (((aq.upd hn).trans sm).ins hn e True.intro True.intro) hn R9 aO
  (.dk f1 (by rw[f2];exact af.Uj e ⟨(fun _ z=>by cases z),(fun _ z=>by cases z),(fun _ _ z=>by cases z),fun z=>z⟩ R9 d2'))
 exact eS (v:=.ref s.heap.objs.size) I3 hN hi hx rfl (fun s3 I4=>⟨_,_,_,I4,rp.2,_,rp.1,q⟩) hf
def Rel.WX(r:Rel X W H σ ρ){i:Nat}(h:ρ[i]?=some (some (.ob (.dk kvs)))):∃a KP,W.O i=some a/\σ[i]?=some (some (.ref a))/\H a=some (.dK KP)/\KP.map (·.1)=kvs.map (·.1)/\af X.K W.bad H (kvs.map (·.2)) (KP.map (·.2)):=by
 obtain⟨a,o,h1,h2,h3,h4⟩:=r.own i _ h;cases h4 with
 |dk e h5=>exact⟨a,_,h1,h2,h3,e,h5⟩
def Gr(i:Nat)(tb:DE):DE:=fun ρ Q=>∃kvs,ρ[i]?=some (some (.ob (.dk kvs)))/\tb ρ fun k=>∃key d,k=k9 key/\dZ kvs key=some d/\Q d
def uE {x:Str} (i:Nat) (hu:X.A.units+1<cLine) (hb:Kn X b tb) (hN:X.N[i]?=some x:=by rfl) (hv:QX X.env.scope x:=by first|exact Or.inl rfl|exact Or.inr (Or.inl rfl)|exact Or.inr (Or.inr rfl)) (hd:(x==("__debug__" : Str))=false:=by decide)
  (Nb:(x==("__classdict__" : Str))=false:=by decide) (hs:Bz b:=by intro _ _;rfl):Kn X (.Subscript (.Name x px) b pos) (Gr i tb):=by
 refine Kn.of (Fi hu (gC hN hv hd Nb) hb.pe hs) fun σ H W ρ Q r h=>?_
 obtain⟨kvs,eo,h⟩:=h;obtain⟨a,KP,oa,sa,ha,e,Nj⟩:=r.WX eo;refine⟨.ref a,sa,W,ρ,_,r,h,fun v H1 d e1 hd q=>?_⟩;obtain⟨key,d',rfl,l,q⟩:=q;obtain⟨v',l',ZQ⟩:=qK e Nj l;have:=qD hd;subst this;refine⟨a,v',rfl,?_,e1,d',ZQ.same e1,q⟩;rw[<- l'];exact kQ.k (e1 _ _ ha)
def Dx(i:Nat)(tk te:DE):DS:=fun E ρ=>∃kvs,ρ[i]?=some (some (.ob (.dk kvs)))/\tk ρ fun k=>∃key n,k=k9 key/\dZ kvs key=some (.int n)/\te ρ fun d=>∃m,d=.int m/\kvs.length<sizeLine/\E.nx (ρ.set i (some (.ob (.dk (putD kvs key (.int (n+m)))))))
def El {x:Str} (i:Nat) (hu:X.A.units+1<cLine) (hb:Kn X b tb) (he:Kn X e te) (hN:X.N[i]?=some x:=by rfl) (hv:QX X.env.scope x:=by first|exact Or.inl rfl|exact Or.inr (Or.inl rfl)|exact Or.inr (Or.inr rfl)) (hd:(x==("__debug__" : Str))=false:=by decide)
  (Nb:(x==("__classdict__" : Str))=false:=by decide) (ha:∀ov iv new,augStore b ov iv new=(do holding [new,ov,iv] (setItem ov iv new);release [new,ov,iv] [];pure .next):=by intros;rfl):MS X (.AugAssign (.Subscript (.Name x px) b tpos) .Add e pos) (Dx i tb te):=by
 refine MS.of (Fp hu (gC hN hv hd Nb) hb.pe he.pe Hc ha) fun σ H W ρ E r hl h=>?_
 obtain⟨kvs,eo,h⟩:=h;obtain⟨a,KP,oa,sa,ha,ek,Nj⟩:=r.WX eo;refine⟨.ref a,sa,W,ρ,_,r,h,fun v H1 d e1 hd q=>?_⟩;obtain⟨key,n,rfl,l,q⟩:=q;obtain⟨v',l',ZQ⟩:=qK ek Nj l;have z1:=qD hd;have z2:=ZQ.K3;subst z1 z2;refine⟨a,_,rfl,by rw[<- l'];exact kQ.k (e1 _ _ ha),W,ρ,_,r.same e1,q,fun v2 H2 d2 e2 hd2 q2=>?_⟩;obtain⟨m,rfl,hz,q2⟩:=q2;have z3:=hd2.K3;subst z3;have lz:KP.length<sizeLine:=by have:=congrArg List.length ek;simp at this;lia
 have ha2:=e2 _ _ (e1 _ _ ha);obtain⟨p1,p2⟩:=Fq (k:=key) ek (Nj.same (e1.trans e2)) (Den.int (n+m));obtain⟨r2,f2⟩:=((r.same e1).same e2).WE eo oa sa ha2 True.intro (.dk p1 p2);exact⟨n,m,rfl,rfl,_,tT.k ha2 lz,W,_,(KI.same (e1.trans e2)).trans f2,r2,q2⟩
end
def GX(kvs:List (Key×D))(r:Ro)(R:List (Key×D)->Prop):(∃ys,(some (Sl.ob (.dk kvs))::r)[0]?=some (some (Sl.ob (.dk ys)))/\R ys)=R kvs:=by
 apply propext;constructor
 ·rintro⟨_,e,q⟩;have e':some (some (Sl.ob (.dk kvs)))=some (some (Sl.ob (.dk _))):=e;cases e';exact q
 ·intro q;exact⟨kvs,rfl,q⟩
theorem GY(n:Nat)(x:Option Sl)(r:Ro)(R:List (Key×D)->Prop):(∃ys,(x::r)[n+1]?=some (some (Sl.ob (.dk ys)))/\R ys)=(∃ys,r[n]?=some (some (Sl.ob (.dk ys)))/\R ys):=rfl
def FE(t:Bool)(xs:yas)(R:yas->Prop):(∃k ds,Dc (.lst t xs)=some (k,ds)/\R ds)=R xs:=by
 apply propext;constructor
 ·rintro⟨_,_,e,q⟩;cases e;exact q
 ·intro q;exact⟨_,_,rfl,q⟩
def BC(b:Int):jS (.int b)=true:=by rw[jS]<;>(intros;contradiction)
def F3{ds:yas}{k:Int}{Q:D->Prop}(h0:0<=k)(h1:k<ds.length)(h:∀d∈ds,Q d):∃d,Me ds k=some d/\Q d:=by
 have e:k=((k.toNat:Nat):Int):=by lia
 have hl:k.toNat<ds.length:=by lia
 refine⟨ds[k.toNat],?_,h _ (P9 hl)⟩;have q:Me ds ((k.toNat:Nat):Int)=some ds[k.toNat]:=di (by simp);rw[<- e]at q;exact q
def comp_map{α:Type}{wi:DA}{js:yag}{tc:DT}{te:DE}{Q:D->Prop}(xs:List α)(f:α->D)(c:α->Bool)(g:α->D)(hw:∀R:yas->Prop,R (xs.map f)->wi ρ R)(hz:xs.length<=sizeLine)
  (hc:∀x∈xs,∀K:Bool->Prop,K (c x)->tc (some (.val (f x))::js.map (bR ρ)) K) (he:∀x∈xs,c x=true->∀K:D->Prop,K (g x)->te (some (.val (f x))::js.map (bR ρ)) K) (q:Q (.lst true ((xs.filter c).map g))):oH wi js tc te ρ Q:=by
 refine hw _ ⟨by rw[J6];exact hz,fun j out=>out=((xs.take j).filter c).map g,by simp,fun j d out hd ho=>?_,fun out ho=>?_⟩
 ·rw[M9]at hd;cases ex:xs[j]? with
  |none=>rw[ex]at hd;cases hd
  |some x =>
   rw[ex]at hd;cases hd;have hm:x∈xs:=NS ex;have ht:xs.take (j+1)=xs.take j++[x]:=by rw[List.take_succ,ex];rfl
   refine hc x hm _ ?_;by_cases z:c x=true
   ·rw[JU z];refine he x hm z _ ?_;show _=List.map g (List.filter c (List.take (j+1) xs));rw[ht,ho,XX,Na];simp[z]
   ·rw[JT z];show _=List.map g (List.filter c (List.take (j+1) xs));rw[ht,ho,XX];simp[z]
 ·rw[J6,Pg (KO _)]at ho;rw[ho];exact q
def eU{α:Type}{wi:DA}{g:DG}{tb:DS}{E:lU}(xs:List α)(f:α->D)(Pv:List α->Ro->Prop)(hw:∀R:yas->Prop,R (xs.map f)->wi ρ R)(p0:Pv [] ρ)
  (turn:∀(done:List α) (x:α) (JY:Ro),x∈xs->done.length<xs.length->Pv done JY->g (f x) JY fun Ml=>tb {E with nx:=Pv (done++[x]),ct:=Pv (done++[x]),bk:=E.nx} Ml) (fin:∀JY,Pv xs JY->E.nx JY):uy wi g tb E ρ:=by
 refine hw _ ⟨fun j=>Pv (xs.take j),by simpa using p0,fun j d JY hd hp=>?_,fun JY hp=>fin JY (by rw[J6,Pg (KO _)]at hp;exact hp)⟩;rw[M9]at hd;cases ex:xs[j]? with
 |none=>rw[ex]at hd;cases hd
 |some x =>
  rw[ex]at hd;cases hd;have hj:=(MZ.mp ex).1;have ht:xs.take (j+1)=xs.take j++[x]:=by rw[List.take_succ,ex];rfl
  show g (f x) JY fun Ml=>tb {E with nx:=Pv (xs.take (j+1)),ct:=Pv (xs.take (j+1)),bk:=E.nx} Ml
  rw[ht];exact turn (xs.take j) x JY (NS ex) (by rw[NW];lia) hp
structure MP(n:Nat)(d:D):Prop where
 pl:OR d=true
 lay:(LG d).canLay0=true
 dp:(LG d).depth<=n
structure iB(n:Nat)(ds:yas):Prop where
 pl:j6 ds=true
 lay:PyData.canLayAll0 (bW ds)=true
 dp:PyData.depthAll (bW ds)<=n
def MP.ok(h:MP n d)(hn:n<=64:=by decide):okD d:=⟨h.pl,by unfold SeqAt.shaped;rw[h.lay,Mb (LZ h.dp hn)];rfl⟩
theorem MP.Ye(h:MP n d)(hn:n<64:=by decide):Ye d:=⟨h.ok (QU hn),UN h.dp hn⟩
theorem MP.int(n:Nat)(i:Int):MP n (.int i):=⟨by rw[OR]<;>(intros;contradiction),by rw[LG,PyData.canLay0],by rw[LG,PyData.depth];exact Mx _⟩
theorem MP.Kt(n:Nat):MP n .Kt:=⟨by rw[OR]<;>(intros;contradiction),by rw[LG,PyData.canLay0],by rw[LG,PyData.depth];exact Mx _⟩
def iB.nil(n:Nat):iB n []:=⟨by rw[j6],by rw[bW,PyData.canLayAll0],by rw[bW,PyData.depthAll];exact Mx _⟩
def iB.cons(h:MP n d)(h':iB n ds):iB n (d::ds):=⟨by rw[j6,h.pl,h'.pl];rfl,by rw[bW,PyData.canLayAll0,h.lay,h'.lay];rfl,by rw[bW,PyData.depthAll];exact Nat.max_le.mpr ⟨h.dp,h'.dp⟩⟩
theorem iB.of:∀{ds:yas},(∀d∈ds,MP n d)->iB n ds
 |[],_=>.nil n
 |d::r,h=>.cons (h d MC) (iB.of fun x hx=>h x (K0 _ hx))
theorem MP.tup(h:iB n ds):MP (n+1) (.tup ds):=⟨by rw[OR];exact h.pl,by rw[LG,PyData.canLay0];exact h.lay,by rw[LG,PyData.depth];exact Nat.succ_le_succ h.dp⟩
theorem MP.lst(h:iB n ds):MP (n+1) (.lst t ds):=⟨by rw[OR];exact h.pl,by rw[LG,PyData.canLay0];exact h.lay,by rw[LG,PyData.depth];exact Nat.succ_le_succ h.dp⟩
theorem MP.map{α:Type}{f:α->D}{xs:List α}(h:∀x,MP n (f x)):MP (n+1) (.lst t (xs.map f)):=MP.lst (iB.of fun d hd=>by obtain⟨x,_,rfl⟩:=KH.mp hd;exact h x)
def jg(xs ys:yas):Bool:=PyData.eqvAll (bW xs) (bW ys)
def Ep(t u:Bool)(xs ys:yas):eqD (.lst t xs) (.lst u ys)=jg xs ys:=by unfold eqD jg;rw[LG,LG,PyData.eqv]
def xg(xs ys:yas):eqD (.tup xs) (.tup ys)=jg xs ys:=by unfold eqD jg;rw[LG,LG,PyData.eqv]
def uK:jg [] []=true:=by unfold jg;rw[bW,PyData.eqvAll]
def k6(x y:D)(xs ys:yas):jg (x::xs) (y::ys)=(eqD x y && jg xs ys):=by unfold jg eqD;rw[bW,bW,PyData.eqvAll]
def Es(x y:Str):eqD (.str x) (.str y)=(x==y):=by unfold eqD;rw[LG,LG,PyData.eqv]
def Er:eqD .Kt .Kt=true:=by unfold eqD;rw[LG,PyData.eqv]
mutual
theorem iG:∀d:D,eqD d d=true
 |.Kt=>Er
 |.bl b=>by rw[Ab];simp
 |.int i=>by rw[me];simp
 |.str x=>by rw[Es];simp
 |.exc _=>by unfold eqD;rw[LG,PyData.eqv]
 |.obj _ _ _=>by unfold eqD;rw[LG,PyData.eqv]
 |.OA=>by unfold eqD;rw[LG,PyData.eqv]
 |.NZ _ _=>by unfold eqD;rw[LG,PyData.eqv]
 |.tup ds=>by rw[xg];exact k7 ds
 |.lst t ds=>by rw[Ep];exact k7 ds
theorem k7:∀ds:yas,jg ds ds=true
 |[]=>uK
 |d::r=>by rw[k6,iG d,k7 r];rfl
end
section
variable{X:Cx}{a b c:Expr}{ta tb tc:DE}{pos:Pos}
def zO(r r':RD2)(ta tb tc:DE):DE:=fun ρ Q=>ta ρ fun x=>tb ρ fun y=>r x y fun z=>∃k,z=.bl k/\if k=true then tc ρ fun u=>r' y u Q else Q (.bl false)
variable{e:Expr}{te:DE}{lo hi:Option Expr}{tl th:DO}{p2:Pos}
def oC{K:yac}{ps:yah}(h:∀(s:Shared) (us:yad),K.In s.heap->us.length=ps.length->BindsTo s fd ⟨us,[]⟩ (ps.zip us)):Binds K fd ps []:=fun s us Nm hl=>by rw[Pa]at hl ⊢;exact h s us Nm hl
def oA{K:yac}{ps:yah}(n:Nat)(hp:ps.length=n+1)(h:∀(s:Shared) (us:yad),K.In s.heap->us.length=n->BindsTo s fd ⟨us,[]⟩ (ps.zip (us++[.none]))):Binds K fd ps [.none]:=fun s us Nm hl=>h s us Nm (by rw[LO,hp]at hl;simpa using hl)
def o7{K:yac}{ps:yah}{kn:Str}(n:Nat)(hp:ps.length=n+1)(h:∀(s:Shared) (us:yad) (w:Value),K.In s.heap->us.length=n->BindsTo s fd ⟨us,[(kn,w)]⟩ (ps.zip (us++[w]))):zw K fd ps [kn] kwG kwG:=⟨fun s us ws Nm hl=>by
 cases ws with
 |nil =>
  have OE:0=ps.length:=hl
  lia
 |cons w r =>
  cases r with
  |nil =>
   have OE:(us++[w]).length=ps.length:=hl;rw[LO,hp]at OE;exact h s us w Nm (by simpa using OE)
  |cons _ _ =>
   have OE:0=ps.length:=hl
   lia,EM⟩
end
section
variable{X:Cx}{pos:Pos}
def PFL(X:Cx)(i:Nat)(es:yai)(t:Ro->(List (yas)->Prop)->Prop):Prop :=
 ∀ (pos:Pos) (pins:yab) (s:Shared) (σ:St) (H:Hp) (W:Own) (ρ:Ro) (k:Nat) (Q:List (yas)->Prop),Inv X pins σ H s->Rel X W H σ ρ->i<σ.length->ρ[i]?=some none->t ρ Q →
  wpAny (model X.prog X.w) X.A (spliced (backTo pos (starEach es X.env))) (fun us s'=>∃vs H' W' xss,Inv X pins σ H' s'/\Vals vs us/\aq H H'/\Rel X W' H' σ ρ/\KI W H W' H'/\aH X.K W'.bad H' (W'.sub σ.length i) k (xss.map LI.own) vs/\(∀l,l<k->W'.sub σ.length i l=W.sub σ.length i l)/\Q xss) X.xe s
variable{e:Expr}{te:DE}{tt:DT}{ta:DA}
end
section
variable{X:Cx}{pins:yab}{σ:St}{H:Hp}
structure JO(X:Cx)(pins:yab)(H:Hp)(s:Shared)(l f S I:Addr)(fo:Obj)(j:Nat)(vb:Value)(k:Int):Prop where
 fo:s.heap.get? f=some fo
 ff:eE X pins H f
 so:∃tb n,s.heap.get? S=some (seqObj "list" #[vb,.int k tb] n)
 sf:eE X pins H S
 io:s.heap.IsListIter I l j
 jf:eE X pins H I
 fS:f≠S
 fI:f≠I
 SI:S≠I
 lI:l≠I
end
section
variable{X:Cx}{pos:Pos}
def w7(i:Nat)(te:DE):DS:=fun E ρ=>∃ds,ρ[i]?=some (some (.own ds))/\te ρ fun d=>∃xs,d=.lst true xs/\ds.length+xs.length<=sizeLine/\E.nx (ρ.set i (some (.own (ds++xs))))
def zZ{x:Str}{apos:Pos}(i:Nat)(he:Kn X e te)(hi:X.N[i]?=some x:=by rfl)(hv:QX X.env.scope x:=by first|exact Or.inl rfl|exact Or.inr (Or.inl rfl)|exact Or.inr (Or.inr rfl))
  (hd:(x==("__debug__" : Str))=false:=by decide) (Nb:(x==("__classdict__" : Str))=false:=by decide)
  (Mh:attributeBase (.Name x px) "extend" X.env (eval (.Name x px) X.env)=eval (.Name x px) X.env:=by rfl)
  (Q2:((backTo Ko (starEach [e] X.env)).all (fun x=>!x.1) && (backToKw Ko (keywordEach [] X.env)).all (fun x=>x.1.isSome) && decide ([e].length+([]:List Keyword).length+(if([]:List Keyword).isEmpty then 0 else 1)<30))=true:=by rfl)
  (Mi:(apos.endLine==Ko.line)=true:=by rfl) (MT:starEach [e] X.env=(false,eval e X.env)::starEach [] X.env:=by rfl) (NC:(backTo Ko (starEach [] X.env)).any (·.1)=false:=by rfl)
  (hs:swapsWith (.Call (.Attribute (.Name x px) "extend" apos) [e] [] Ko) none pos.line X.env=pure false:=by rfl) :
  MS X (.Expr (.Call (.Attribute (.Name x px) "extend" apos) [e] [] Ko) pos) (w7 i te):=by
 have P0:=qW (pos:=pos) (DR PySem.F.plainAttrs_list PySem.F.slot_list_extend PySem.F.type_list_extend AA (gC hi hv hd Nb) (fH he.pe lr MT) Mh Q2 Mi MT NC) hs;refine MS.of P0 fun σ H W ρ E r hl h=>?_
 obtain⟨ds,eo,h⟩:=h;obtain⟨a,vs,oa,sa,ha,LJ⟩:=r.Pu i ds eo;refine⟨.ref a,sa,.inl ⟨rfl,_,SqL.of ha⟩,W,ρ,_,r,h,fun v H' d e1 Pd q=>?_⟩;obtain⟨xs,rfl,z,q⟩:=q;obtain⟨b,us,rfl,_,hb,X7⟩:∃b us,v=.ref b/\¬W.bad true b/\MQ X.K H' true b us/\af X.K W.bad H' xs us:=by simpa only[Den]using Pd
 have QB:=e1 _ _ ha;have r':=r.same e1;have Py:=LJ.same e1;refine⟨a,b,vs,us,rfl,rfl,QB,(hb.2 rfl).1,by rw[Py.len,X7.len];exact z,?_⟩;obtain⟨r2,f2⟩:=r'.Qk (vs':=vs++us) eo oa sa QB (Py.append X7);exact⟨W,_,(KI.same e1).trans f2,r2,q⟩
def PEK(X:Cx)(e:Expr)(t:DE):Prop :=
 ∀ (pins:yab) (s:Shared) (σ:St) (H:Hp) (W:Own) (ρ:Ro) (Q:D->Prop),Inv X pins σ H s->Rel X W H σ ρ->t ρ Q →
  wpAny (model X.prog X.w) X.A (eval e X.env) (fun u s'=>∃b vs H' ds,u=.ref b/\Inv X pins σ H' s'/\aq H H'/\H' b=some (.tup vs)/\af X.K W.bad H' ds vs/\Q (.tup ds)) X.xe s
end
def IC(ys:yas)(R:yas->Prop):(∃xs,D.lst true ys=.lst true xs/\R xs)=R ys:=by
 apply propext;constructor
 ·rintro⟨xs,e,q⟩;cases e;exact q
 ·intro q;exact⟨ys,rfl,q⟩
def jX{α:Type}{wi:DA}{g:DG}{tb:DS}{E:lU}(xs:List α)(f:α->D)(Pv:Nat->Ro->Prop)(hw:∀R:yas->Prop,R (xs.map f)->wi ρ R)(p0:Pv 0 ρ)
  (turn:∀(j:Nat) (x:α) (JY:Ro),xs[j]?=some x->Pv j JY->g (f x) JY fun Ml=>tb {E with nx:=Pv (j+1),ct:=Pv (j+1),bk:=E.nx} Ml) (fin:∀JY,Pv xs.length JY->E.nx JY):uy wi g tb E ρ:=by
 refine hw _ ⟨Pv,p0,fun j d JY hd hp=>?_,fun JY hp=>fin JY (by rw[J6]at hp;exact hp)⟩;rw[M9]at hd;cases ex:xs[j]? with
 |none=>rw[ex]at hd;cases hd
 |some x =>
  rw[ex]at hd;cases hd;exact turn j x JY ex hp
inductive Yf (K:yac) (P:yak) (H:Hp):List (yas×D)->List (Value×Value)->Prop
 |nil:Yf K P H [] []
 |cons {b:Addr} {vs:yar} {ks:yas} {d:D} {x:V} {u:Value} {ds:List (yas×D)} {ws:List (Value×Value)} (hb:H b=some (.tup vs)) (hk:af K P H ks vs) (hd:Den K P H d x) (r:RelV x u) (t:Yf K P H ds ws):Yf K P H ((ks,d)::ds) ((.ref b,u)::ws)
def PPK(X:Cx)(pos:Pos)(keys:List (Option Expr))(values:yai)(t:Ro->(List (yas×D)->Prop)->Prop):Prop :=
 ∀ (pins:yab) (s:Shared) (σ:St) (H:Hp) (W:Own) (ρ:Ro) (Q:List (yas×D)->Prop),Inv X pins σ H s->Rel X W H σ ρ->t ρ Q →
  wpAny (model X.prog X.w) X.A (evalPairs (pairTrees keys values X.env pos)) (fun ws s'=>∃H' ds,Inv X pins σ H' s'/\aq H H'/\Yf X.K W.bad H' ds ws/\Q ds) X.xe s
section
variable{X:Cx}{pos:Pos}
inductive ZR (H:Hp):List (List Key×Int)->List (Value×Value)->Prop
 |nil:ZR H [] []
 |cons {b:Addr} {k:List Key} {n:Int} {u:Value} {ds:List (List Key×Int)} {ws:List (Value×Value)} (hb:H b=some (.tup (k.map kV))) (r:RelV (.int n) u) (t:ZR H ds ws):ZR H ((k,n)::ds) ((.ref b,u)::ws)
end
end PD
namespace PZ
open PySem PySem.Spec PyProof.Rows
abbrev Dr (h:Heap) (T:Addr) (a b c:Value):Prop:=h.get? T=some {cls:=.type "tuple", data:=.seq #[a,b,c]}
structure Ap3(z TI TO i1 i2 i3:Addr):Prop where
 a1:TI≠z
 a2:TO≠z
 a3:i1≠z
 a4:i2≠z
 a5:i3≠z
 b1:TI≠TO
 b2:TI≠i1
 b3:TI≠i2
 b4:TI≠i3
 c1:TO≠i1
 c2:TO≠i2
 c3:TO≠i3
 d1:i1≠i2
 d2:i1≠i3
 d3:i2≠i3
structure JP(z TO i1 i2 i3 l:Addr):Prop where
 c1:l≠z
 c2:l≠TO
 c3:l≠i1
 c4:l≠i2
 c5:l≠i3
structure JR(z TI TO i1 i2 i3 l1 l2 l3:Addr)(i:Nat)(h:Heap):Prop where
 z:IsZip h z TI TO .none
 ti:Dr h TI (.ref i1) (.ref i2) (.ref i3)
 to:∃a b c,Dr h TO a b c
 s1:WU true h i1 l1 i
 s2:WU true h i2 l2 i
 s3:WU true h i3 l3 i
end PZ
namespace PD
open PySem PySem.Spec PyProof.Rows L2 PZ
section
variable{X:Cx}
def Nk(xs ys zs:yas):yas:=List.zipWith (fun f z=>f z) (List.zipWith (fun x y z=>D.tup [x,y,z]) xs ys) zs
end
end PD
namespace ST
open PySem PySem.SetTable
def S:Nat->Nat
 |0=>0
 |n+1=>5*S n+1
theorem ow:∀n,5 ^ n=4*S n+1
 |0=>rfl
 |n+1=>by rw[Pm,ow n];show _=4*(5*S n+1)+1;lia
theorem xX(m:Nat):∀n,S (n+m)=5 ^ m*S n+S m
 |0=>by simp[S]
 |n+1=>by rw[show n+1+m=(n+m)+1 by lia];show 5*S (n+m)+1=5 ^ m*(5*S n+1)+S m;rw[xX m n,ow m];grind
theorem Ds:∀k,∃o,S (2 ^ k)=2 ^ k*(2*o+1)
 |0=>⟨0,rfl⟩
 |k+1=>by obtain⟨o,e⟩:=Ds k;refine⟨o+(2*o+1)*(2 ^ k*(2*o+1)),?_⟩;rw[show 2 ^ (k+1)=2 ^ k+2 ^ k by rw[Pm];lia,xX,ow,e];grind
theorem round:∀(k x e:Nat),e<2 ^ k->∃n,n<2 ^ k/\(5 ^ n*x+S n) % 2 ^ k=e
 |0,x,e,h=>⟨0,by decide,by lia⟩
 |k+1,x,e,h=>by
  obtain⟨n,hn,q⟩:=round k x (e % 2 ^ k) (QV _ (Nat.two_pow_pos k));obtain⟨o,eo⟩:=Ds k;have hp:=Nat.two_pow_pos k;have h2:2 ^ (k+1)=2*2 ^ k:=by rw[Pm];lia
  generalize hv:5 ^ n*x+S n=v at q;have NR:5 ^ (n+2 ^ k)*x+S (n+2 ^ k)=v+2 ^ k+2 ^ (k+1)*(o+2*(2*o+1)*v):=by rw[xX,Nat.pow_add,ow (2 ^ k),eo,h2,<- hv];grind
  generalize 2 ^ k=p at *;rw[h2]at h ⊢;by_cases z:v % (2*p)=e
  ·exact⟨n,by lia,by rw[hv];exact z⟩
  ·refine⟨n+p,by lia,?_⟩;rw[NR,h2,Nat.add_mul_mod_self_left];have a1:v % (2*p) % p=v % p:=Nat.mod_mul_left_mod v 2 p;have l1:v % (2*p)<2*p:=QV _ (by lia);rw[Nat.add_mod,Od (show p<2*p by lia)];generalize v % (2*p)=u at *;have eu:u=u % p∨u=u % p+p:=by
    by_cases c:u<p
    ·left;rw[Od c]
    ·right
     have:u % p=u - p:=by rw[Nat.mod_eq_sub_mod (by lia),Od (by lia)]
     lia
   have ee:e=e % p∨e=e % p+p:=by
    by_cases c:e<p
    ·left;rw[Od c]
    ·right
     have:e % p=e - p:=by rw[Nat.mod_eq_sub_mod (by lia),Od (by lia)]
     lia
   have lt:e % p<p:=QV _ hp;rcases eu with eu|eu<;>rcases ee with ee|ee
   ·lia
   ·rw[Od (by lia)];lia
   ·rw[Nat.mod_eq_sub_mod (by lia),Od (by lia)];lia
   ·lia
def runs(mask:Nat):Nat->Nat->Nat->yag
 |0,_,_=>[]
 |c+1,i,pt=>List.range' i (runEnd mask i+1 - i)++runs mask c (leap mask i pt).1 (leap mask i pt).2
theorem lD(mask c i pt:Nat):runs mask (c+1) i pt=List.range' i (runEnd mask i+1 - i)++runs mask c (leap mask i pt).1 (leap mask i pt).2:=rfl
def bQ(mask:Nat)(h:Int):yag:=runs mask (turns mask) (bits h % (mask+1)) (bits h)
def gD{mask i:Nat}(h:i<=mask):i<=runEnd mask i/\runEnd mask i<=mask/\runEnd mask i<=i+9:=by unfold runEnd;split<;>lia
def mv(mask i pt:Nat):(leap mask i pt).1<=mask:=by
 have:(leap mask i pt).1<mask+1:=QV _ (OP _)
 lia
theorem xB{mask:Nat}:∀{c i pt:Nat},i<=mask->∀x∈runs mask c i pt,x<=mask
 |0,_,_,_,x,h=>by cases h
 |c+1,i,pt,hi,x,h=>by
  rcases KR.mp h with z|z
  ·rw[SD]at z;have:=gD hi
   lia
  ·exact xB (mv _ _ _) x z
theorem vB{mask:Nat}:∀{c i pt:Nat},i<=mask->(runs mask c i pt).length<=10*c
 |0,_,_,_=>KO _
 |c+1,i,pt,hi=>by
  have ih:=vB (c:=c) (pt:=(leap mask i pt).2) (mv mask i pt);have:=gD hi;unfold runs;rw[LO,P8]
  lia
def b8(mask:Nat):Nat->Nat×Nat->Nat×Nat
 |0,p=>p
 |n+1,p=>b8 mask n (leap mask p.1 p.2)
theorem pO{mask:Nat}:∀{n c i pt:Nat},∀x∈runs mask c (b8 mask n (i,pt)).1 (b8 mask n (i,pt)).2,x∈runs mask (n+c) i pt
 |0,c,i,pt,x,h=>by rw[Pn];exact h
 |n+1,c,i,pt,x,h=>by have:=pO (n:=n) (c:=c) (i:=(leap mask i pt).1) (pt:=(leap mask i pt).2) x h;rw[show n+1+c=(n+c)+1 by lia];exact MO _ this
def A4{mask c i:Nat}(h:i<=mask):i∈runs mask (c+1) i pt:=by
 refine Ob _ ?_;rw[SD];have:=gD h
 lia
theorem uX(mask:Nat):∀(n:Nat) (p:Nat×Nat),(b8 mask n p).2=p.2 / 32 ^ n
 |0,p=>by simp[b8]
 |n+1,p=>by show(b8 mask n (leap mask p.1 p.2)).2=_;rw[uX mask n];show p.2 / 32 / 32 ^ n=_;rw[Nat.div_div_eq_div_mul,Pm,Nat.mul_comm]
theorem o9{mask k:Nat}(hk:mask+1=2 ^ k):∀(n i:Nat),i<=mask->(b8 mask n (i,0)).1=(5 ^ n*i+S n) % 2 ^ k
 |0,i,h=>by show i=_;rw[Nat.pow_zero,Nat.one_mul];show i=(i+0) % 2 ^ k;rw[Nat.add_zero,Od (by lia)]
 |n+1,i,h=>by
  have e:leap mask i 0=((i*5+1) % (mask+1),0):=by unfold leap;simp
  show(b8 mask n (leap mask i 0)).1=_;rw[e,o9 hk n _ (by have:=QV (i*5+1) (show 0<mask+1 by lia);lia),hk];have a:(5 ^ n*((i*5+1) % 2 ^ k)+S n) % 2 ^ k=(5 ^ n*(i*5+1)+S n) % 2 ^ k:=by rw[Nat.add_mod,Nat.mul_mod,Nat.mod_mod,<- Nat.mul_mod,<- Nat.add_mod]
  rw[a,Pm];congr 1;show _=5 ^ n*5*i+(5*S n+1);have:=ow n;rw[this];grind
theorem sk(mask:Nat):∀(m n:Nat) (p:Nat×Nat),b8 mask (m+n) p=b8 mask n (b8 mask m p)
 |0,n,p=>by rw[Pn];rfl
 |m+1,n,p=>by rw[show m+1+n=(m+n)+1 by lia];exact sk mask m n _
theorem uW(mask:Nat):∀(n:Nat) (p:Nat×Nat),p.1<=mask->(b8 mask n p).1<=mask
 |0,_,h=>h
 |n+1,p,_=>uW mask n _ (mv _ _ _)
def cover{mask k:Nat}(hk:mask+1=2 ^ k)(h:Int){e:Nat}(he:e<=mask):e∈bQ mask h:=by
 have hb:bits h<2 ^ 64:=by
  unfold bits;have:=Int.emod_lt_of_pos h (show(0:Int)<2 ^ 64 by decide);have:=Int.emod_nonneg h (show(2 ^ 64:Int)≠0 by decide)
  lia
 have hi:bits h % (mask+1)<=mask:=by have:=QV (bits h) (show 0<mask+1 by lia);lia
 generalize hp:(bits h % (mask+1),bits h)=p;have p1:p.1<=mask:=by rw[<- hp];exact hi
 have z:(b8 mask 13 p).2=0:=by rw[uX,<- hp];exact Nat.div_eq_of_lt (MV hb (by decide))
 have q1:=uW mask 13 p p1;obtain⟨n,hn,en⟩:=round k (b8 mask 13 p).1 e (by lia);have ee:(b8 mask (13+n) p).1=e:=by rw[sk];have:b8 mask 13 p=((b8 mask 13 p).1,0):=ME rfl z;rw[this,o9 hk n _ q1];exact en
 have:=pO (mask:=mask) (n:=13+n) (c:=(mask - n)+2) (i:=bits h % (mask+1)) (pt:=bits h) e (by have S8:(bits h % (mask+1),bits h)=p:=hp;rw[S8,ee];exact A4 he)
 unfold bQ turns;rw[show mask+15=13+n+(mask - n+2)by lia];exact this
def gH(xs:yap):Prop:=∀a b:Nat,a<b->b<xs.size->xs.getD a 0<xs.getD b 0
theorem ni{j:Nat}(hr:gH xs):∀(fuel lo hi:Nat),lo<=hi->hi<=xs.size->hi - lo<=fuel->(∀a,a<lo->xs.getD a 0<j)->(∀a,hi<=a->a<xs.size->j<=xs.getD a 0) →
  (below.go xs j fuel lo hi<=xs.size)/\(∀a,a<below.go xs j fuel lo hi->xs.getD a 0<j)/\∀a,below.go xs j fuel lo hi<=a->a<xs.size->j<=xs.getD a 0
 |0,lo,hi,h1,h2,h3,h4,h5=>by
  have:lo=hi:=by lia
  subst this;exact⟨h2,h4,h5⟩
 |fuel+1,lo,hi,h1,h2,h3,h4,h5=>by
  unfold below.go;by_cases Mc:lo<hi
  ·rw[JU Mc];have hm:(lo+hi) / 2<hi/\lo<=(lo+hi) / 2:=by lia
   have hg:xs.getD ((lo+hi) / 2) j=xs.getD ((lo+hi) / 2) 0:=by
    have:(lo+hi) / 2<xs.size:=by lia
    simp[Array.getD,this]
   simp only[hg];split
   ·rename_i z;refine ni hr fuel _ hi (by lia) h2 (by lia) (fun a ha=>?_) h5;by_cases e:a=(lo+hi) / 2
    ·rw[e];exact z
    ·exact Nat.lt_trans (hr a ((lo+hi) / 2) (by lia) (by lia)) z
   ·rename_i z;refine ni hr fuel lo _ (by lia) (by lia) (by lia) h4 fun a ha hs=>?_
    by_cases e:a=(lo+hi) / 2
    ·rw[e];lia
    ·have:=hr ((lo+hi) / 2) a (by lia) hs
     lia
  ·rw[JT Mc];have:lo=hi:=by lia
   subst this;exact⟨h2,h4,h5⟩
def gT(hr:gH xs)(j:Nat):below xs j<=xs.size/\(∀a,a<below xs j->xs.getD a 0<j)/\∀a,below xs j<=a->a<xs.size->j<=xs.getD a 0 :=
 ni hr xs.size 0 xs.size (Mx _) (KO _) (by lia) (fun a h=>absurd h (Nat.not_lt_zero _)) fun a h h'=>by lia
def cN{xs:yap}{a x:Nat}(h:xs[a]?=some x):xs.getD a 0=x/\a<xs.size:=by obtain⟨l,e⟩:=Sv.mp h;exact⟨by simp[Array.getD,l,e],l⟩
def oY{xs:yap}{a:Nat}(h:a<xs.size):xs[a]?=some (xs.getD a 0):=by simp[Array.getD,h]
def below_at(hr:gH xs){a j:Nat}(h:xs[a]?=some j):below xs j=a:=by
 obtain⟨e,l⟩:=cN h;obtain⟨b1,b2,b3⟩:=gT hr j;have h1:¬a<below xs j:=fun z=>by have:=b2 a z;lia
 have h2:¬below xs j<a:=fun z=>by
  have:=b3 (below xs j) (KO _) (by lia);have:=hr _ a z l
  lia
 lia
def sH{t:SetTable}(hr:gH t.place){a j:Nat}(h:t.place[a]?=some j):t.slot j=.live a:=by unfold SetTable.slot;rw[below_at hr h];simp[h]
def y6{t:SetTable}(hr:gH t.place)(hd:t.dummies=#[]){j:Nat}(h:j∉t.place.toList):t.slot j=.empty:=by
 have n:¬((t.place[below t.place j]?==some j)=true):=fun z=>by
  have e:t.place[below t.place j]?=some j:=by simpa using z
  exact h (by obtain⟨l,q⟩:=Sv.mp e;rw[<- q];exact Array.getElem_mem_toList l)
 unfold SetTable.slot;simp only[n,hd];have:has #[] j=false:=by unfold has;simp
 simp[this]
def ahead(mask:Nat)(c:Nat)(p:Probe):yag:=List.range' p.j (p.more+1)++runs mask c (leap mask p.i p.perturb).1 (leap mask p.i p.perturb).2
def vW(t:SetTable)(h:Int):∃c,bQ t.mask h=ahead t.mask c (t.probeStart h):=by
 refine⟨t.mask+14,?_⟩;unfold bQ ahead turns probeStart;show runs t.mask ((t.mask+14)+1) _ _=_;rw[lD];have hi:bits h % (t.mask+1)<=t.mask:=by have:=QV (bits h) (show 0<t.mask+1 by lia);lia
 have:=gD hi;simp only;rw[show runEnd t.mask (bits h % (t.mask+1))+1 - bits h % (t.mask+1)=runEnd t.mask (bits h % (t.mask+1)) - bits h % (t.mask+1)+1 by lia]
def xY(t:SetTable){x:Nat}{r:yag}(e:ahead t.mask c p=x::r):p.j=x/\(r=[]∨∃ c',r=ahead t.mask c' (t.advance p)):=by
 unfold ahead at e;rw[List.range'_succ,Nu]at e;obtain⟨e1,e2⟩:=List.cons.inj e;refine⟨e1,?_⟩;unfold SetTable.advance;by_cases hm:p.more > 0
 ·right
  refine⟨c,?_⟩;rw[JU hm,<- e2];unfold ahead;simp only;rw[show p.more - 1+1=p.more by lia]
 ·have m0:p.more=0:=by lia
  rw[m0]at e2;simp only[List.range'_zero,Oe]at e2;cases c with
  |zero=>left;rw[<- e2];rfl
  |succ c =>
   right
   refine⟨c,?_⟩;rw[JT hm,<- e2];have hl:=mv t.mask p.i p.perturb;have:=gD hl;unfold ahead;rw[lD];simp only;rw[show runEnd t.mask (leap t.mask p.i p.perturb).1+1 - (leap t.mask p.i p.perturb).1=runEnd t.mask (leap t.mask p.i p.perturb).1 - (leap t.mask p.i p.perturb).1+1 by lia]
theorem vo{t:SetTable}(hr:gH t.place)(hd:t.dummies=#[])(hashAt:Nat->Int)(h:Int):∀(l:yag) (fuel c:Nat) (p:Probe),ahead t.mask c p=l->l.length<=fuel->(∃x∈l,x∉t.place.toList)->p.dummy=none →
  (∃pre j post,l=pre++j::post/\(∀x∈pre,∃a,t.place[a]?=some x/\hashAt a≠h)/\j∉t.place.toList/\probe.go t hashAt h fuel p=some (.empty j none)) ∨
  ∃ pre j post a q c',l=pre++j::post/\(∀x∈pre,∃a,t.place[a]?=some x/\hashAt a≠h)/\t.place[a]?=some j/\hashAt a=h/\post=ahead t.mask c' q/\q.dummy=none/\probe.go t hashAt h fuel p=some (.candidate j a q)
 |[],_,_,_,_,_,hx,_=>by obtain⟨x,hx,_⟩:=hx;cases hx
 |x::r,0,_,_,_,hl,_,_=>by simp at hl
 |x::r,fuel+1,c,p,e,hl,hx,Yg=>by
  obtain⟨ej,er⟩:=xY t e;subst ej;unfold probe.go;by_cases Sg:p.j∈t.place.toList
  ·obtain⟨a,ZS,ea⟩:=QQ Sg;have ha:t.place[a]?=some p.j:=by
    rw[<- LX,LH ZS,ea]
   rw[sH hr ha];have NY:∃x∈r,x∉t.place.toList:=by
    obtain⟨y,hy,ny⟩:=hx;rcases Kr.mp hy with z|z
    ·subst z;exact absurd Sg ny
    ·exact⟨y,z,ny⟩
   have er':∃c',r=ahead t.mask c' (t.advance p):=by
    rcases er with z|z
    ·obtain⟨y,hy,_⟩:=NY;rw[z]at hy;cases hy
    ·exact z
   have hda:(t.advance p).dummy=none:=by unfold SetTable.advance;split<;>exact Yg
   obtain⟨c',ec⟩:=er';simp only;by_cases hh:hashAt a=h
   ·right
    rw[JU (by simpa using hh)];exact⟨[],p.j,r,a,t.advance p,c',rfl,by simp,ha,hh,ec,hda,rfl⟩
   ·rw[JT (by simpa using hh)];have good:∃a,t.place[a]?=some p.j/\hashAt a≠h:=⟨a,ha,hh⟩;rcases vo hr hd hashAt h r fuel c' (t.advance p) ec.symm (by simp at hl;lia) NY hda with⟨pre,j,post,e1,e2,e3,e4⟩| ⟨pre,j,post,b,q,c2,e1,e2,e3,e4,e5,e6,e7⟩
    ·left
     refine⟨p.j::pre,j,post,by rw[e1];rfl,fun y hy=>?_,e3,e4⟩;rcases Kr.mp hy with z|z
     ·rw[z];exact good
     ·exact e2 y z
    ·right
     refine⟨p.j::pre,j,post,b,q,c2,by rw[e1];rfl,fun y hy=>?_,e3,e4,e5,e6,e7⟩;rcases Kr.mp hy with z|z
     ·rw[z];exact good
     ·exact e2 y z
  ·left
   rw[y6 hr hd Sg];exact⟨[],p.j,r,rfl,by simp,Sg,by simp[Yg]⟩
structure Tab(t:SetTable)(hs:yaf):Prop where
 k:∃k,t.mask+1=2 ^ (k+1)
 rise:gH t.place
 le:∀x∈t.place.toList,x<=t.mask
 Yh:t.dummies=#[]
 len:t.place.size=hs.length
 room:t.place.size<=t.mask
 reach:∀(a x:Nat) (h:Int),t.place[a]?=some x->hs[a]?=some h->∃pre post,bQ t.mask h=pre++x::post/\∀y∈pre,y∈t.place.toList
theorem Tab.fits(T:Tab t hs):t.fits hs.length=true:=by
 unfold SetTable.fits SetTable.fill;rw[T.Yh];simp[T.len];have:=T.len;have:=T.room
 lia
def Tab.stays(T:Tab t hs):t.gaveWay=false:=by
 obtain⟨k,e⟩:=T.k;unfold SetTable.gaveWay;rw[Pm]at e;have:t.mask % 2=1:=by lia
 rw[this];rfl
def C1(hr:gH xs){a b x y:Nat}(ha:xs[a]?=some x)(hb:xs[b]?=some y)(h:x<y):a<b:=by
 obtain⟨e1,l1⟩:=cN ha;obtain⟨e2,l2⟩:=cN hb;rcases VJ a b with z|z|z
 ·exact z
 ·subst z;lia
 ·have:=hr b a z l1
  lia
def xq{xs:yap}{x:Nat}(h:x∈xs.toList):∃a:Nat,xs[a]?=some x:=by obtain⟨a,ZS,ea⟩:=QQ h;exact⟨a,by rw[<- LX,LH ZS,ea]⟩
def get_mem{xs:yap}{a x:Nat}(h:xs[a]?=some x):x∈xs.toList:=by obtain⟨l,q⟩:=Sv.mp h;rw[<- q];exact Array.getElem_mem_toList l
def EA(hr:gH xs){mask:Nat}(hs:xs.size<=mask):∃e,e<=mask/\e∉xs.toList:=by
 refine Vu fun no=>?_
 have all:∀e,e<=mask->e∈xs.toList:=fun e he=>Vu fun n=>no ⟨e,he,n⟩
 have up:∀j,j<=mask->∃a,xs[a]?=some j/\j<=a:=by
  intro j
  induction j with
  |zero=>intro h;obtain⟨a,ha⟩:=xq (all 0 h);exact⟨a,ha,Mx _⟩
  |succ j ih =>
   intro h;obtain⟨a,ha,hja⟩:=ih (by lia);obtain⟨b,hb⟩:=xq (all (j+1) h);have:=C1 hr ha hb (by lia);exact⟨b,hb,by lia⟩
 obtain⟨a,ha,hm⟩:=up mask (KO _);have:=(cN ha).2
 lia
def Tab.empty(T:Tab t hs)(h:Int):∃x∈bQ t.mask h,x∉t.place.toList:=by obtain⟨e,he,ne⟩:=EA T.rise T.room;obtain⟨k,hk⟩:=T.k;exact⟨e,cover hk h he,ne⟩
def qg(mask:Nat)(h:Int):(bQ mask h).length<=10*turns mask:=vB (by have:=QV (bits h) (show 0<mask+1 by lia);lia)
def lR(mask:Nat)(h:Int):∀x∈bQ mask h,x<=mask:=xB (by have:=QV (bits h) (show 0<mask+1 by lia);lia)
def j3{α:Type}(xs:Array α)(p:Nat)(x:α):(insertAt xs p x).toList=xs.toList.take p++x::xs.toList.drop p:=by unfold insertAt;simp;exact Pg (by rw[ON,NU];exact KO _)
def get_ins{α:Type}{l:List α}{p:Nat}(hp:p<=l.length)(x:α)(a:Nat):(l.take p++x::l.drop p)[a]?=if a<p then l[a]? else if a=p then some x else l[a - 1]?:=by
 by_cases h:a<p
 ·rw[JU h,OV (by rw[NW];lia),VF,JU h]
 ·rw[JT h,NM (by rw[NW];lia),NW,Qa hp];by_cases e:a=p
  ·rw[JU e,e,TJ];rfl
  ·rw[JT e,show a - p=(a - p - 1)+1 by lia,List.getElem?_cons_succ,UM,show p+(a - p - 1)=a - 1 by lia]
theorem Tab.put(T:Tab t hs){j:Nat}{pre post:yag}(hj:j∉t.place.toList)(hv:bQ t.mask h=pre++j::post)(hp:∀y∈pre,y∈t.place.toList)(WY:t.place.size+1<=t.mask) :
  Tab (t.put j).1 (hs.take (t.put j).2++h::hs.drop (t.put j).2)/\(t.put j).2<=hs.length/\(t.put j).1.mask=t.mask/\(t.put j).1.place.size=t.place.size+1:=by
 have e1:(t.put j).1.place=insertAt t.place (below t.place j) j:=rfl;have e2:(t.put j).2=below t.place j:=rfl;have e3:(t.put j).1.mask=t.mask:=rfl;have e4:(t.put j).1.dummies=#[]:=by
  show(if has t.dummies j then _ else t.dummies)=_;rw[T.Yh];have:has #[] j=false:=by unfold has;simp
  rw[this];rfl
 obtain⟨b1,b2,b3⟩:=gT T.rise j;have bp:below t.place j<=t.place.toList.length:=by rw[NU];exact b1
 have bh:below t.place j<=hs.length:=by rw[<- T.len];exact b1
 have gl:∀a,(t.put j).1.place[a]?=if a<below t.place j then t.place[a]? else if a=below t.place j then some j else t.place[a - 1]?:=fun a=>by rw[e1,<- LX,j3,get_ins bp,LX,LX]
 have sz:(t.put j).1.place.size=t.place.size+1:=by
  rw[e1,<- NU,j3,LO,NW,Oc,ON,NU]
  lia
 have mem:∀x,x∈(t.put j).1.place.toList↔x=j∨x∈t.place.toList:=fun x=>by
  rw[e1,j3,KR,Kr];constructor
  ·rintro(z|z|z)
   ·exact .inr (Sy z)
   ·exact .inl z
   ·exact .inr (Sx z)
  ·rintro(z|z)
   ·exact .inr (.inl z)
   ·rw[<- OL (below t.place j) t.place.toList]at z;rcases KR.mp z with q|q
    ·exact .inl q
    ·exact .inr (.inr q)
 refine⟨⟨T.k,?_,?_,e4,?_,by rw[sz];exact WY,?_⟩,bh,e3,sz⟩
 ·intro a b Vf hb;rw[sz]at hb;have ga:=oY (xs:=(t.put j).1.place) (a:=a) (by rw[sz];lia);have gb:=oY (xs:=(t.put j).1.place) (a:=b) (by rw[sz];exact hb);rw[gl a]at ga;rw[gl b]at gb;have jn:∀c,c<t.place.size->t.place.getD c 0≠j:=fun c hc e=>hj (by rw[<- e];exact get_mem (oY hc))
  by_cases a1:a<below t.place j
  ·rw[JU a1]at ga;obtain⟨ea,la⟩:=cN ga;have:=b2 a a1;by_cases c1:b<below t.place j
   ·rw[JU c1]at gb;obtain⟨eb,lb⟩:=cN gb;have:=T.rise a b Vf lb
    lia
   ·rw[JT c1]at gb;by_cases c2:b=below t.place j
    ·rw[JU c2]at gb;have:=MW gb
     lia
    ·rw[JT c2]at gb;obtain⟨eb,lb⟩:=cN gb;have:=T.rise a (b - 1) (by lia) lb
     lia
  ·rw[JT a1]at ga;have c1:¬b<below t.place j:=by lia
   have c2:¬b=below t.place j:=by lia
   rw[JT c1,JT c2]at gb;obtain⟨eb,lb⟩:=cN gb;by_cases a2:a=below t.place j
   ·rw[JU a2]at ga;have:=MW ga;have:=b3 (b - 1) (by lia) lb;have:=jn (b - 1) lb
    lia
   ·rw[JT a2]at ga;obtain⟨ea,la⟩:=cN ga;have:=T.rise (a - 1) (b - 1) (by lia) lb
    lia
 ·intro x hx;rcases(mem x).mp hx with z|z
  ·subst z;exact lR t.mask h x (by rw[hv];simp)
  ·exact T.le x z
 ·rw[sz,e2,LO,NW,Oc,ON,<- T.len]
  lia
 ·intro a x h' hx hh;rw[gl a]at hx;rw[e2,get_ins bh]at hh;have up:∀{l:yag},(∀y∈l,y∈t.place.toList)->∀y∈l,y∈(t.put j).1.place.toList:=fun hl y hy=>(mem y).mpr (.inr (hl y hy))
  by_cases a1:a<below t.place j
  ·rw[JU a1]at hx hh;obtain⟨p1,p2,q1,q2⟩:=T.reach a x h' hx hh;exact⟨p1,p2,q1,up q2⟩
  ·rw[JT a1]at hx hh;by_cases a2:a=below t.place j
   ·rw[JU a2]at hx hh;cases hx;cases hh;exact⟨pre,post,hv,up hp⟩
   ·rw[JT a2]at hx hh;obtain⟨p1,p2,q1,q2⟩:=T.reach (a - 1) x h' hx hh;exact⟨p1,p2,q1,up q2⟩
theorem r9(mask:Nat)(owner:Array (Option Nat)):∀(fuel i pt:Nat),layClean.free mask owner fuel i pt=(runs mask fuel i pt).find? fun y=>(owner.getD y (some 0)).isNone
 |0,_,_=>rfl
 |fuel+1,i,pt=>by
  rw[lD,List.find?_append,List.range'_eq_map_range,List.find?_map];unfold layClean.free;have ih:=r9 mask owner fuel (leap mask i pt).1 (leap mask i pt).2;have ef:((fun y=>(owner.getD y (some 0)).isNone)∘fun x=>i+x)=fun k=>(owner.getD (i+k) (some 0)).isNone:=rfl
  rw[ef];cases(List.range (runEnd mask i+1 - i)).find? fun k=>(owner.getD (i+k) (some 0)).isNone with
  |some k=>rfl
  |none=>exact ih
structure Ow(mask:Nat)(hs:yaf)(owner:Array (Option Nat)):Prop where
 size:owner.size=mask+1
 cnt:(owner.toList.filter Option.isSome).length=hs.length
 at_:∀(i:Nat) (h:Int),hs[i]?=some h->∃j:Nat,owner[j]?=some (some i)/\∃pre post,bQ mask h=pre++j::post/\∀y∈pre,∃q,owner[y]?=some (some q)
 lt:∀j i:Nat,owner[j]?=some (some i)->i<hs.length
 inj:∀j j' i:Nat,owner[j]?=some (some i)->owner[j']?=some (some i)->j=j'
theorem oV{α:Type}{p:α->Bool}:∀{l:List α} {x:α},l.find? p=some x->∃pre post,l=pre++x::post/\p x=true/\∀y∈pre,p y=false
 |[],_,h=>by cases h
 |a::r,x,h=>by
  rw[SG]at h;cases pa:p a with
  |true=>rw[pa]at h;cases h;exact⟨[],r,rfl,pa,by simp⟩
  |false =>
   rw[pa]at h;obtain⟨pre,post,e,q1,q2⟩:=oV h;refine⟨a::pre,post,by rw[e];rfl,q1,fun y hy=>?_⟩;rcases Kr.mp hy with z|z
   ·rw[z];exact pa
   ·exact q2 y z
theorem oU{α:Type}{p:α->Bool}:∀{l:List α} {j:Nat} {a b:α},l[j]?=some a->p a=false->p b=true->((l.set j b).filter p).length=(l.filter p).length+1
 |[],_,_,_,h,_,_=>by simp at h
 |x::r,0,a,b,h,ha,hb=>by simp at h;subst h;rw[List.set_cons_zero,Vy hb,Vx (by simp[ha]),Oc]
 |x::r,j+1,a,b,h,ha,hb=>by
  have ih:=oU (l:=r) (j:=j) (by simpa using h) ha hb;rw[List.set_cons_succ];by_cases c:p x=true
  ·rw[Vy c,Vy c,Oc,Oc,ih]
  ·rw[Vx c,Vx c,ih]
def Ow.step{mask k:Nat}(hk:mask+1=2 ^ k){hs:yaf}{owner:Array (Option Nat)}(O:Ow mask hs owner)(hn:hs.length<=mask)(h:Int) :
  ∃ j,layClean.free mask owner (turns mask) (bits h % (mask+1)) (bits h)=some j/\Ow mask (hs++[h]) (owner.setIfInBounds j (some hs.length)):=by
 have ex:∃e:Nat,e<=mask/\owner[e]?=some none:=by
  refine Vu fun no=>?_
  have all:∀x∈owner.toList,Option.isSome x=true:=fun x hx=>by
   obtain⟨e,le,ee⟩:=QQ hx;rw[NU,O.size]at le;cases x with
   |some _=>rfl
   |none=>exact absurd ⟨e,by lia,by rw[<- LX,LH (by rw[NU,O.size];exact le),ee]⟩ no
  have:=O.cnt;rw[Qt.mpr all,NU,O.size]at this
  lia
 have emp:∀y,y<=mask->((owner.getD y (some 0)).isNone=true↔owner[y]?=some none):=fun y hy=>by
  have l:y<owner.size:=by rw[O.size];lia
  rw[PN l];simp[Array.getD,l]
 obtain⟨e,he,ee⟩:=ex;have fs:((bQ mask h).find? fun y=>(owner.getD y (some 0)).isNone).isSome=true:=by rw[List.find?_isSome];exact⟨e,cover hk h he,(emp e he).mpr ee⟩
 obtain⟨j,fj⟩:=Option.isSome_iff_exists.mp fs;obtain⟨pre,post,ev,pj,pp⟩:=oV fj;have jm:j<=mask:=lR mask h j (by rw[ev];simp);have oj:=(emp j jm).mp pj;have jl:j<owner.size:=by rw[O.size];lia
 refine⟨j,by rw[r9];exact fj,?_⟩;have gs:∀y:Nat,(owner.setIfInBounds j (some hs.length))[y]?=if j=y then some (some hs.length)else owner[y]?:=fun y=>by
  rw[Array.getElem?_setIfInBounds];by_cases c:j=y
  ·rw[JU c,JU c,JU jl]
  ·rw[JT c,JT c]
 have keep:∀(y q:Nat),owner[y]?=some (some q)->(owner.setIfInBounds j (some hs.length))[y]?=some (some q):=fun y q hy=>by rw[gs,JT (fun c=>by subst c;rw[oj]at hy;cases hy)];exact hy
 refine⟨by rw[Array.size_setIfInBounds];exact O.size,?_,?_,?_,?_⟩
 ·rw[YJ,oU (a:=none) (by rw[LX];exact oj) rfl rfl,O.cnt,LO];rfl
 ·intro i h' hi;by_cases c:i<hs.length
  ·rw[OV c]at hi;obtain⟨j',o',p1,p2,q1,q2⟩:=O.at_ i h' hi;exact⟨j',keep _ _ o',p1,p2,q1,fun y hy=>let ⟨q,z⟩:=q2 y hy;⟨q,keep _ _ z⟩⟩
  ·rw[NM (by lia)]at hi;have ei:i=hs.length:=by
    have:=(MZ.mp hi).1;simp at this
    lia
   subst ei;simp at hi;subst hi;refine⟨j,by rw[gs,JU rfl],pre,post,ev,fun y hy=>?_⟩;have ym:y<=mask:=lR mask h y (by rw[ev];simp[hy]);have ny:=pp y hy;have yl:y<owner.size:=by rw[O.size];lia
   cases oy:owner[y]with
   |none =>
    have:=(emp y ym).mpr (by rw[PN yl,oy]);rw[this]at ny;cases ny
   |some q=>exact⟨q,keep y q (by rw[PN yl,oy])⟩
 ·intro y i hy;rw[gs]at hy;rw[LO];by_cases c:j=y
  ·rw[JU c]at hy;cases hy;simp
  ·rw[JT c]at hy;have:=O.lt y i hy;simp
   lia
 ·intro y y' i hy Qi;rw[gs]at hy Qi;by_cases c:j=y<;>by_cases c':j=y'
  ·lia
  ·rw[JU c]at hy;rw[JT c']at Qi;cases hy;have:=O.lt y' _ Qi
   lia
  ·rw[JT c]at hy;rw[JU c']at Qi;cases Qi;have:=O.lt y _ hy
   lia
  ·rw[JT c]at hy;rw[JT c']at Qi;exact O.inj y y' i hy Qi
theorem uV{mask k:Nat}(hk:mask+1=2 ^ k):∀(rest hs:yaf) (owner:Array (Option Nat)),Ow mask hs owner->hs.length+rest.length<=mask+1 →
  ∃ Rf,rest.foldl (fun(acc:Option (Array (Option Nat)×Nat)) h=>do
   let (owner,k)←acc
   let j←layClean.free mask owner (turns mask) (bits h % (mask+1)) (bits h)
   pure (owner.setIfInBounds j (some k),k+1)) (some (owner,hs.length))=some (Rf,(hs++rest).length)/\Ow mask (hs++rest) Rf
 |[],hs,owner,O,_=>⟨owner,by simp,by rw[Pa];exact O⟩
 |h::r,hs,owner,O,hl=>by
  rw[Oc]at hl;obtain⟨j,fj,O'⟩:=O.step hk (by lia) h;obtain⟨o',e',Q⟩:=uV hk r (hs++[h]) _ O' (by rw[LO];simp;lia);refine⟨o',?_,by rw[Nt]at Q;exact Q⟩;rw[List.foldl_cons];have:(do
   let (owner,k)←(some (owner,hs.length):Option (Array (Option Nat)×Nat))
   let j←layClean.free mask owner (turns mask) (bits h % (mask+1)) (bits h)
   pure (owner.setIfInBounds j (some k),k+1))=some (owner.setIfInBounds j (some hs.length),(hs++[h]).length):=by
   show(layClean.free mask owner (turns mask) (bits h % (mask+1)) (bits h) >>= _)=_;rw[fj];simp
  rw[this,e'];simp
def wu{mask k:Nat}(hk:mask+1=2 ^ k)(hashes:Array Int)(hl:hashes.size<=mask+1):∃owner,layClean mask hashes=some owner/\Ow mask hashes.toList owner:=by
 have O:Ow mask [] (Array.replicate (mask+1) none):=by
  refine⟨by simp,by simp,by simp,fun j i h=>?_,fun j j' i h _=>?_⟩
  ·rw[Array.getElem?_replicate]at h;split at h<;>cases h
  ·rw[Array.getElem?_replicate]at h;split at h<;>cases h
 obtain⟨o,e,Q⟩:=uV hk hashes.toList [] _ O (by rw[NU];simp;lia);refine⟨o,?_,by simpa using Q⟩;unfold layClean;rw[<- Array.foldl_toList];show Option.map _ (List.foldl _ (some (Array.replicate (mask+1) none,([]:yaf).length)) _)=_;rw[e];rfl
def live(mask:Nat)(owner:Array (Option Nat)):List (Nat×Nat):=(List.range (mask+1)).filterMap fun j=>(owner.getD j none).map (j,·)
def fG{mask:Nat}{hs:yaf}{owner:Array (Option Nat)}(O:Ow mask hs owner){j i:Nat}:(j,i)∈live mask owner↔owner[j]?=some (some i):=by
 unfold live;rw[VG];constructor
 ·rintro⟨y,hy,e⟩;rw[List.mem_range]at hy;obtain⟨q,e1,e2⟩:=RQ.mp e;cases e2;have l:j<owner.size:=by rw[O.size];exact hy
  rw[PN l,<- e1];simp[Array.getD,l]
 ·intro h;obtain⟨l,e⟩:=Sv.mp h;refine⟨j,by rw[List.mem_range,<- O.size];exact l,?_⟩;rw[show owner.getD j none=some i by simp[Array.getD,l,e]];rfl
def nC(mask:Nat)(owner:Array (Option Nat)):(live mask owner).map (·.1)=(List.range (mask+1)).filter fun j=>(owner.getD j none).isSome:=by
 unfold live
 induction List.range (mask+1)with
 |nil=>rfl
 |cons a r ih =>
  cases e:owner.getD a none with
  |none=>rw[List.filterMap_cons_none (by rw[e];rfl),Vx (by simp[e]),ih]
  |some q=>rw[XM (by rw[e];rfl),Vy (by simp[e]),K5,ih]
def Cq{mask:Nat}{hs:yaf}{owner:Array (Option Nat)}(O:Ow mask hs owner):(live mask owner).length=hs.length:=by
 have e1:(live mask owner).length=((live mask owner).map (·.1)).length:=by simp
 have e2:owner.toList=(List.range (mask+1)).map fun j=>owner.getD j none:=by
  apply List.ext_getElem?;intro j;rw[M9,LX];by_cases c:j<mask+1
  ·have l:j<owner.size:=by rw[O.size];exact c
   rw[List.getElem?_range c,PN l];simp[Array.getD,l]
  ·rw[List.getElem?_eq_none (by rw[List.length_range];lia),XN (by rw[O.size];lia)];rfl
 rw[e1,nC,<- O.cnt,e2,List.filter_map,J6];rfl
def sr(mask:Nat)(owner:Array (Option Nat)):((live mask owner).map (·.1)).Pairwise (·<·):=by rw[nC];exact List.Pairwise.filter _ List.pairwise_lt_range
def Fw{l:yag}(h:l.Pairwise (·<·)):gH l.toArray:=by
 intro a b Vf hb;have U8:b<l.length:=by simpa using hb
 have:=QO.mp h a b (by lia) U8 Vf;simp[Array.getD,show a<l.length by lia,U8];exact this
def EN{mask k:Nat}(hk:mask+1=2 ^ (k+1))(finger moves:Nat)(led plain:Bool){V:Type}(es:Array (Int×V))(hl:es.size<=mask) :
  ∃ t order,laid mask finger moves led plain (es.map (·.1))=some (t,order)/\t.mask=mask/\t.led=led/\t.plain=plain ∧
   ∃ OQ:List (Int×V),(order.filterMap (es[·]?)).toList=OQ/\OQ.length=es.size/\Tab t (OQ.map (·.1))/\t.place.size=es.size ∧
    (∀(a:Nat) (e:Int×V),OQ[a]?=some e->∃i:Nat,order[a]?=some i/\es[i]?=some e)/\(∀i:Nat,i<es.size->∃a:Nat,order[a]?=some i)/\∀(a b i:Nat),order[a]?=some i->order[b]?=some i->a=b:=by
 obtain⟨owner,eo,O⟩:=wu hk (es.map (·.1)) (by rw[Array.size_map];lia);have Wx:(es.map (·.1)).toList.length=es.size:=by simp
 refine⟨{mask,place:=((live mask owner).map (·.1)).toArray,dummies:=#[],finger,led,moves,plain},((live mask owner).map (·.2)).toArray,by unfold laid;rw[eo];rfl,rfl,rfl,rfl,?_⟩;have ll:=Cq O;rw[Wx]at ll;have lt:∀p∈live mask owner,p.2<es.size:=fun p hp=>by have:=O.lt p.1 p.2 ((fG O).mp hp);rw[Wx]at this;exact this
 have ZU:∀l:List (Nat×Nat),(∀p∈l,p.2<es.size)->(((l.map (·.2)).filterMap fun i=>es[i]?).map some)=l.map fun p=>es[p.2]?:=fun l hl=>by
  induction l with
  |nil=>rfl
  |cons p r ih =>
   have lp:=hl p (by simp);rw[K5,XM (PN lp),K5,K5,ih fun q hq=>hl q (by simp[hq]),PN lp]
 have ge:∀a:Nat,((((live mask owner).map (·.2)).filterMap fun i=>es[i]?)[a]?).map some=((live mask owner)[a]?).map fun p=>es[p.2]?:=fun a=>by have:=congrArg (fun l=>l[a]?) (ZU _ lt);simp only[M9]at this;exact this
 refine⟨((live mask owner).map (·.2)).filterMap fun i=>es[i]?,by simp,?_,?_,?_,?_,?_,?_⟩
 ·have:=congrArg List.length (ZU _ lt);rw[J6,J6]at this;rw[this,ll]
 ·refine⟨⟨k,hk⟩,Fw (sr mask owner),?_,rfl,?_,?_,?_⟩
  ·intro x hx;have NY:x∈(live mask owner).map (·.1):=by simpa using hx
   rw[nC,Pc,List.mem_range]at NY;show x<=mask
   lia
  ·have:=congrArg List.length (ZU _ lt);rw[J6,J6]at this;show((live mask owner).map (·.1)).toArray.size=_;rw[MD,J6,J6,this]
  ·show((live mask owner).map (·.1)).toArray.size<=mask;rw[MD,J6,ll];exact hl
  ·intro a x h hx hh;have NY:((live mask owner).map (·.1))[a]?=some x:=by simpa using hx
   rw[M9]at NY;obtain⟨p,ep,e1⟩:=RQ.mp NY;have g:=ge a;rw[ep]at g;have lp:=lt p (NS ep);rw[M9]at hh;obtain⟨e,ee,eh⟩:=RQ.mp hh;rw[ee,Option.map_some,Option.map_some,PN lp]at g;have ge':=MW (MW g);obtain⟨j',o',pre,post,ev,q⟩:=O.at_ p.2 h (by rw[<- eh,ge',<- LX]at *;rw[LX,Array.getElem?_map,PN lp];rfl)
   have oj:=(fG O).mp (show(p.1,p.2)∈live mask owner from NS ep);have:=O.inj j' p.1 p.2 o' oj;subst this;subst e1;refine⟨pre,post,ev,fun y hy=>?_⟩;obtain⟨z,hz⟩:=q y hy;show y∈((live mask owner).map (·.1)).toArray.toList;simp only[KH];exact⟨(y,z),(fG O).mpr hz,rfl⟩
 ·show((live mask owner).map (·.1)).toArray.size=_;rw[MD,J6,ll]
 ·intro a e he;have g:=ge a;rw[he]at g;cases ep:(live mask owner)[a]? with
  |none=>rw[ep]at g;cases g
  |some p =>
   rw[ep]at g;exact⟨p.2,by simp[ep],(MW g).symm⟩
 ·intro i hi;obtain⟨h,hh⟩:∃h,(es.map (·.1)).toList[i]?=some h:=⟨_,LH (by rw[Wx];exact hi)⟩;obtain⟨j,oj,_⟩:=O.at_ i h hh;obtain⟨a,la,ea⟩:=QQ ((fG O).mpr oj);exact⟨a,by simp[LH la,ea]⟩
 ·intro a b i ha hb;have QB:((live mask owner).map (·.2))[a]?=some i:=by simpa using ha
  have U8:((live mask owner).map (·.2))[b]?=some i:=by simpa using hb
  rw[M9]at QB U8;obtain⟨p,ep,e1⟩:=RQ.mp QB;obtain⟨q,eq,e2⟩:=RQ.mp U8;have o1:=(fG O).mp (show(p.1,p.2)∈live mask owner from NS ep);have o2:=(fG O).mp (show(q.1,q.2)∈live mask owner from NS eq);have ej:=O.inj p.1 q.1 i (by rw[<- e1];exact o1) (by rw[<- e2];exact o2);have r:=sr mask owner;have la:=(MZ.mp ep);have lb:=(MZ.mp eq);obtain⟨la1,la2⟩:=la;obtain⟨lb1,lb2⟩:=lb;rcases VJ a b with z|z|z
  ·have:=QO.mp r a b (by rw[J6];exact la1) (by rw[J6];exact lb1) z;rw[Ph,Ph,la2,lb2]at this
   lia
  ·exact z
  ·have:=QO.mp r b a (by rw[J6];exact lb1) (by rw[J6];exact la1) z;rw[Ph,Ph,la2,lb2]at this
   lia
theorem t5:∀(fuel size n:Nat),n<size*2 ^ fuel->∃m,sizeAbove.go n fuel size=size*2 ^ m/\n<size*2 ^ m
 |0,size,n,h=>⟨0,by simp[sizeAbove.go],h⟩
 |fuel+1,size,n,h=>by
  unfold sizeAbove.go;by_cases c:size<=n
  ·rw[JU c];obtain⟨m,e1,e2⟩:=t5 fuel (size*2) n (by rw[Pm]at h;rw[Nat.mul_assoc,Nat.mul_comm 2];exact h);refine⟨m+1,?_,?_⟩
   ·rw[e1,Pm,Nat.mul_assoc,Nat.mul_comm 2]
   ·rw[Pm,Nat.mul_comm (2 ^ m),<- Nat.mul_assoc];exact e2
  ·rw[JT c];exact⟨0,by simp,by simp;lia⟩
def above{n:Nat}(h:n<2 ^ 60):∃k,sizeAbove n - 1+1=2 ^ (k+1)/\n<=sizeAbove n - 1:=by
 obtain⟨m,e1,e2⟩:=t5 64 8 n (MV h (by decide));have e:sizeAbove n=8*2 ^ m:=e1;have hp:=Nat.two_pow_pos m;refine⟨m+2,?_,by lia⟩;rw[e,show 2 ^ (m+2+1)=8*2 ^ m by rw[Pm,Pm,Pm];lia]
 lia
end ST
namespace SW
open PySem PySem.SetTable ST
section
variable{prog:Program}{w:World}{A:Around}{E:yaa}{s:Shared}
abbrev TK(prog:Program)(w:World):HeapKind prog w (yaf):=tupleKind (intKind prog w)
theorem items_int:∀{ks:yaf} {vs:yad},ItemsAre (intKind prog w) ks vs->∀v∈vs,∃n t,v=Value.int n t
 |_,_,.nil,v,h=>by cases h
 |_,_,.cons h t,v,hv=>by
  rcases Kr.mp hv with z|z
  ·subst z;obtain⟨t,e⟩:=Value.isInt_shape h;exact⟨_,t,e⟩
  ·exact items_int t v z
def EZ(d:Nat)(n:Int)(t:Tok):ofAClassStatement d (.int n t)=pure false:=by cases d<;>rfl
def sC{Q:Bool->Shared->Prop}(hk:(TK prog w).is s.heap k b)(hQ:Q false s):wpAny (model prog w) A (ofAClassStatement 8 (.ref b)) Q E s:=by
 obtain⟨o,items,n,ho,hc,hd,hi⟩:=hk;unfold ofAClassStatement;refine JX (wpAny_typeOf (T := "tuple") ⟨o,ho,hc⟩ ?_);dsimp only;rw[JU (by decide)];refine JX (Ki ?_);rw[JT (by decide)];refine JX (wpAny_seqItems ho hd ?_);dsimp only;refine JX ?_;rw[<- Array.forIn_toList];refine wpAny_forIn_list _ (fun rest r s'=>r.1=none/\s'=s/\∀v∈rest,∃n t,v=Value.int n t) _ ?_ ?_ _ _ ⟨rfl,rfl,items_int hi⟩
 ·rintro v rest r s' ⟨hr,rfl,LR⟩;obtain⟨m,t,rfl⟩:=LR v MC;rw[EZ];refine JX (Ki ?_);simp only[OM,if_false];exact Ki ⟨rfl,rfl,fun u QF=>LR u (K0 _ QF)⟩
 ·rintro⟨r1,r2⟩ s' ⟨hr,rfl,_⟩;simp only at hr;subst hr;exact Ki hQ
def EF(d:Nat)(n:Int)(t:Tok):hashByValue d (.int n t)=pure true:=by cases d<;>rfl
def Ah{Q:Bool->Shared->Prop}(hk:(TK prog w).is s.heap k b)(hQ:Q true s):wpAny (model prog w) A (hashByValue 8 (.ref b)) Q E s:=by
 obtain⟨o,items,n,ho,hc,hd,hi⟩:=hk;unfold hashByValue;refine JX (wpAny_specialOf (T := "tuple") ⟨o,ho,hc⟩ F.slot_tuple_hash.lookup ?_);show wpAny _ _ (seqItems? (.ref b) >>= _) _ _ s;refine JX (wpAny_seqItems ho hd ?_);dsimp only[Option.getD_some];refine JX ?_;rw[<- Array.forIn_toList];refine wpAny_forIn_list _ (fun rest r s'=>r.1=none/\s'=s/\∀v∈rest,∃n t,v=Value.int n t) _ ?_ ?_ _ _ ⟨rfl,rfl,items_int hi⟩
 ·rintro v rest r s' ⟨hr,rfl,LR⟩;obtain⟨m,t,rfl⟩:=LR v MC;rw[EF];refine JX (Ki ?_);simp only[Bool.not_true,OM,if_false];exact Ki ⟨rfl,rfl,fun u QF=>LR u (K0 _ QF)⟩
 ·rintro⟨r1,r2⟩ s' ⟨hr,rfl,_⟩;simp only at hr;subst hr;exact Ki hQ
def y4{vs:yad}{Q:Bool->Shared->Prop}(hk:(TK prog w).is s.heap k b)(hv:∀v∈vs,∃k' c,v=Value.ref c/\(TK prog w).is s.heap k' c)(hQ:Q false s) :
  wpAny (model prog w) A (searchCouldBeSeen (.ref b) vs) Q E s:=by
 unfold searchCouldBeSeen;refine JX (wpAny_forIn_list _ (fun rest r s'=>r.1=none/\s'=s/\∀v∈rest,∃k' c,v=Value.ref c/\(TK prog w).is s.heap k' c) _ ?_ ?_ _ _ ⟨rfl,rfl,hv⟩)
 ·rintro v rest r s' ⟨hr,rfl,LR⟩;have S9:∀u∈rest,∃k' c,u=Value.ref c/\(TK prog w).is s'.heap k' c:=fun u hu=>LR u (K0 _ hu)
  obtain⟨k',c,rfl,hc⟩:=LR v MC;dsimp only;by_cases WZ:((b==c) || (carriedByValue (.ref b) && carriedByValue (.ref c)))=true
  ·rw[JU WZ];exact Ki ⟨rfl,rfl,S9⟩
  ·rw[JT WZ];refine JX ((TK prog w).quiet hk ?_);simp only[Bool.not_true,OM,if_false];refine JX ((TK prog w).quiet hc ?_);simp only[Bool.not_true,OM,if_false];refine JX (sC hk ?_);simp only[OM,if_false];refine JX (sC hc ?_);simp only[OM,if_false];exact Ki ⟨rfl,rfl,S9⟩
 ·rintro⟨r1,r2⟩ s' ⟨hr,rfl,_⟩;simp only at hr;subst hr;exact Ki hQ
theorem mZ{o:Obj}{xs:List (yaf×Addr)}{Q:SetFound->Shared->Prop}(hu:A.units<cLine)(hk:(TK prog w).is s.heap k b)
  (ho:s.heap.get? a=some o) (hd:o.data=.set es ep t) (he:es.toList=xs.map fun x=>((TK prog w).hash x.1,Value.ref x.2)) (Rg:∀x∈xs,(TK prog w).is s.heap x.1 x.2) (T:Tab t (xs.map fun x=>(TK prog w).hash x.1))
  (Sg:k∈xs.map (·.1)->Q (.there none) s) (Yi:k∉xs.map (·.1)->∀j pre post,bQ t.mask ((TK prog w).hash k)=pre++j::post->(∀y∈pre,y∈t.place.toList)->j∉t.place.toList->Q (.free j false) s) :
  ∀ (fuel:Nat) (l done:yag) (c:Nat) (st:Option Probe),ahead t.mask c (st.getD (t.probeStart ((TK prog w).hash k)))=l->bQ t.mask ((TK prog w).hash k)=done++l →
   (∀y∈done,∃(i:Nat) (x:yaf×Addr),t.place[i]?=some y/\xs[i]?=some x/\x.1≠k)->l.length<fuel->(st.getD (t.probeStart ((TK prog w).hash k))).dummy=none->wpAny (model prog w) A (setSearchFrom a (.ref b) ((TK prog w).hash k) true fuel st) Q E s
 |0,_,_,_,_,_,_,_,hf,_=>absurd hf (Nat.not_lt_zero _)
 |fuel+1,l,done,c,st,e1,e2,ZV,hf,Yg=>by
  have sz:es.size=xs.length:=by rw[<- NU,he,J6]
  have fits:t.fits es.size=true:=by have:=T.fits;rw[J6]at this;rw[sz];exact this
  have psz:t.place.size=xs.length:=by have:=T.len;rw[J6]at this;exact this
  have entry:∀(i:Nat) (x:yaf×Addr),xs[i]?=some x->es[i]?=some ((TK prog w).hash x.1,Value.ref x.2):=fun i x hx=>by rw[<- LX,he,M9,hx];rfl
  have ofPlace:∀i y:Nat,t.place[i]?=some y->∃x,xs[i]?=some x:=fun i y hy=>by have:=(cN hy).2;exact⟨xs[i]'(by lia),LH (by lia)⟩
  have hat:∀(i:Nat) (x:yaf×Addr),xs[i]?=some x->(es[i]?.map (·.1)).getD 0=(TK prog w).hash x.1:=fun i x hx=>by rw[entry i x hx];rfl
  have dpl:∀y∈done,y∈t.place.toList:=fun y hy=>let ⟨i,_,h1,_⟩:=ZV y hy;get_mem h1
  have emp:∃x∈l,x∉t.place.toList:=by
   obtain⟨x,hx,nx⟩:=T.empty ((TK prog w).hash k);rw[e2]at hx;rcases KR.mp hx with z|z
   ·exact absurd (dpl x z) nx
   ·exact⟨x,z,nx⟩
  have ll:l.length<=10*turns t.mask:=by
   have:=qg t.mask ((TK prog w).hash k);rw[e2,LO]at this
   lia
  unfold setSearchFrom;refine JX (Qu ho hd fits ?_);dsimp only;rw[T.stays];simp only[OM,if_false];generalize hm:t.probe _ ((TK prog w).hash k) (st.getD (t.probeStart ((TK prog w).hash k)))=m;rcases vo T.rise T.Yh (fun i=>(es[i]?.map (·.1)).getD 0) ((TK prog w).hash k) l (10*turns t.mask) c _ e1 ll emp Yg with⟨pre,j,post,q1,q2,q3,q4⟩| ⟨pre,j,post,i,q,c',q1,q2,q3,q4,q5,q6,q7⟩
  ·have em:m=some (.empty j none):=hm.symm.trans q4;subst em;dsimp only;have hv:bQ t.mask ((TK prog w).hash k)=(done++pre)++j::post:=by rw[e2,q1,Nt]
   have W4:∀y∈done++pre,y∈t.place.toList:=fun y hy=>by
    rcases KR.mp hy with z|z
    ·exact dpl y z
    ·obtain⟨i,h1,_⟩:=q2 y z;exact get_mem h1
   refine Ki (Yi (fun ZW=>?_) j _ post hv W4 q3);obtain⟨x,hx,ek⟩:=KH.mp ZW;obtain⟨i0,li,ei⟩:=QQ hx;have gx:xs[i0]?=some x:=by rw[LH li,ei]
   have ZX:=oY (xs:=t.place) (a:=i0) (by lia);obtain⟨Si,post0,v0,p0⟩:=T.reach i0 _ ((TK prog w).hash k) ZX (by rw[M9,gx,<- ek];rfl);have x0:t.place.getD i0 0∈done++pre:=by
    have hz:Si.length<(done++pre).length:=by
     refine Vu fun nl=>?_
     have g1:(bQ t.mask ((TK prog w).hash k))[(done++pre).length]?=some j:=by rw[hv,NM (KO _),TJ];rfl
     rw[v0]at g1;by_cases c1:(done++pre).length<Si.length
     ·rw[OV c1]at g1;exact q3 (p0 j (NS g1))
     ·have c2:(done++pre).length=Si.length:=by lia
      rw[c2,NM (KO _),TJ]at g1;have:t.place.getD i0 0=j:=MW g1;exact q3 (by rw[<- this];exact get_mem ZX)
    have g2:(bQ t.mask ((TK prog w).hash k))[Si.length]?=some (t.place.getD i0 0):=by rw[v0,NM (KO _),TJ];rfl
    rw[hv,OV hz]at g2;exact NS g2
   have same:∀i':Nat,t.place[i']?=some (t.place.getD i0 0)->i'=i0:=fun i' h'=>(below_at T.rise h').symm.trans (below_at T.rise ZX)
   rcases KR.mp x0 with z|z
   ·obtain⟨i',x',h1,h2,h3⟩:=ZV _ z;have:=same i' h1;subst this;rw[gx]at h2;cases h2;exact h3 ek
   ·obtain⟨i',h1,h2⟩:=q2 _ z;have:=same i' h1;subst this;exact h2 (by rw[hat i' x gx,ek])
  ·have em:m=some (.candidate j i q):=hm.symm.trans q7;subst em;dsimp only;obtain⟨x,gx⟩:=ofPlace i j q3;have hx:=Rg x (NS gx);have stored:∀v∈(es.filter (·.1==(TK prog w).hash k)).toList.map (·.2),∃k' c,v=Value.ref c/\(TK prog w).is s.heap k' c:=fun v hv=>by
    obtain⟨e,he',rfl⟩:=KH.mp hv;have he2:e∈es.toList:=by have:=Array.mem_toList_iff.mp he';exact Array.mem_toList_iff.mpr (Array.mem_filter.mp this).1
    rw[he]at he2;obtain⟨y,hy,rfl⟩:=KH.mp he2;exact⟨y.1,y.2,rfl,Rg y hy⟩
   have go:wpAny (model prog w) A (do
     let some (_,y):=es[i]?|unsupported "internal:set-entry"
     let equal←holding [y] (eqBool y (.ref b))
     let (OQ,_,t')←setState a
     if true && equal then return SetFound.there none
     let some same:=t'.sameMemory t.moves t.mask|unsupported "set.changed-during-lookup:is-the-new-block-at-the-old-address"
     let W5←match(if same then t'.slot j else .empty)with
      |.live i'=>match OQ[i']? with
       |some (_,y')=>do pure (if←isSame y' y then some i' else none)
       |none=>pure none
      |_=>pure none
     match W5 with
     |none=>rule "set.search.anew"; setSearchFrom a (.ref b) ((TK prog w).hash k) true fuel none
     |some i'=>if equal then return .there (some i')else setSearchFrom a (.ref b) ((TK prog w).hash k) true fuel (some q)) Q E s:=by
    rw[entry i x gx];dsimp only;refine JX (OO ((TK prog w).eqBool hu hx hk ?_));refine JX (Qu ho hd fits ?_);dsimp only;by_cases ek:x.1=k
    ·rw[JU (by simp[ek])];exact Ki (Sg (KH.mpr ⟨x,NS gx,ek⟩))
    ·rw[JT (by simp[ek])];have sm:t.sameMemory t.moves t.mask=some true:=by unfold SetTable.sameMemory;simp
     rw[sm];dsimp only;rw[JU rfl,sH T.rise q3];dsimp only;rw[entry i x gx];dsimp only;refine JX (wpAny_isSame_ref_self ?_);simp only[if_true];refine JX (Ki ?_);dsimp only;rw[JT (by simp[ek])];refine mZ hu hk ho hd he Rg T Sg Yi fuel post (done++pre++[j]) c' (some q) q5.symm (by rw[e2,q1];simp) (fun y hy=>?_) (by rw[q1,LO,Oc]at hf;lia) q6;rcases KR.mp hy with z|z
     ·rcases KR.mp z with z|z
      ·exact ZV y z
      ·obtain⟨i',h1,h2⟩:=q2 y z;obtain⟨x',gx'⟩:=ofPlace i' y h1;exact⟨i',x',h1,gx',fun ek'=>h2 (by rw[hat i' x' gx',ek'])⟩
     ·simp at z;subst z;exact⟨i,x,q3,gx,ek⟩
   by_cases W9:t.led=true
   ·rw[JT (by simp[W9])];exact go
   ·rw[JU (by simp[W9])];refine JX (y4 hk stored ?_);simp only[OM,if_false];exact go
theorem t6:∀(fuel size n:Nat),sizeAbove.go n fuel size<=max size (2*n)
 |0,size,n=>by unfold sizeAbove.go;lia
 |fuel+1,size,n=>by
  unfold sizeAbove.go;split
  ·have:=t6 fuel (size*2) n
   lia
  ·lia
structure gI(prog:Program)(w:World)(h:Heap)(a:Addr)(xs:List (yaf×Addr)):Prop where
 ex:∃o es ep t,h.get? a=some o/\o.ExactSet/\o.data=.set es ep t/\es.toList=xs.map (fun x=>((TK prog w).hash x.1,Value.ref x.2))/\Tab t (xs.map fun x=>(TK prog w).hash x.1)/\(t.plain=true/\t.led=!w.params.followText "set-order")/\t.place.size*5<t.mask*3/\t.mask<=8191
 Yj:∀x∈xs,(TK prog w).is h x.1 x.2
 nd:(xs.map (·.1)).Nodup
def iX {o:Obj} (hk:(TK prog w).is h k b) (ho:h.get? a=some o) (hc:o.cls=.type "set") (hs:Heap.SameBut a h h'):(TK prog w).is h' k b:=by
 obtain⟨o',items,n,Nx,PR,hd,hi⟩:=hk;have ne:b≠a:=fun e=>by subst e;rw[ho]at Nx;cases Nx;rw[hc]at PR;injection PR with z;exact absurd z (by decide)
 exact⟨o',items,n,hs.extBut b o' ne Nx,PR,hd,hi⟩
def CY{xs:List (yaf×Addr)}{o:Obj}{wanted:Nat}{Q:Unit->Shared->Prop}(ho:s.heap.get? a=some o)(hex:o.ExactSet)(hd:o.data=.set es ep t)(he:es.toList=xs.map fun x=>((TK prog w).hash x.1,Value.ref x.2))
  (T:Tab t (xs.map fun x=>(TK prog w).hash x.1)) (Lr:t.plain=true/\t.led=!w.params.followText "set-order") (Rg:∀x∈xs,(TK prog w).is s.heap x.1 x.2) (nd:(xs.map (·.1)).Nodup) (hw:wanted=4*xs.length) (hn:0<xs.length) (hl:xs.length<=1000)
  (hQ:∀h' ys,Heap.SameBut a s.heap h'->gI prog w h' a ys->ys.length=xs.length->(∀y,y∈ys↔y∈xs)->Q () {s with heap:=h'}):wpAny (model prog w) A (setRelay a wanted) Q E s:=by
 have sz:es.size=xs.length:=by rw[<- NU,he,J6]
 have fits:t.fits es.size=true:=by have:=T.fits;rw[J6]at this;rw[sz];exact this
 obtain⟨k,ek,eb⟩:=above (n:=wanted) (by lia);have up:sizeAbove wanted<=max 8 (2*wanted):=t6 64 8 wanted;generalize hzs:(xs.map fun x=>((TK prog w).hash x.1,x)).toArray=zs;have zz:zs.size=xs.length:=by rw[<- hzs];simp
 have zg:∀i:Nat,zs[i]?=xs[i]?.map fun x=>((TK prog w).hash x.1,x):=fun i=>by rw[<- hzs];simp
 have eg:∀i:Nat,es[i]?=xs[i]?.map fun x=>((TK prog w).hash x.1,Value.ref x.2):=fun i=>by rw[<- LX,he,M9]
 have em:es.map (·.1)=zs.map (·.1):=by apply Array.ext_getElem?;intro i;rw[Array.getElem?_map,Array.getElem?_map,zg,eg];cases xs[i]?<;>rfl
 obtain⟨t',order,el,m1,m2,m3,OQ,f1,f2,T',f3,f4,f5,f6⟩:=EN ek t.finger (t.movedTo (sizeAbove wanted - 1)) t.led t.plain zs (by lia);have er:t.relaid (es.map (·.1)) wanted=some (t',order):=by unfold SetTable.relaid;rw[em];exact el
 generalize Xa:OQ.map (·.2)=ys;have fo:∀l:yag,(l.filterMap fun i=>es[i]?)=(l.filterMap fun i=>zs[i]?).map fun z=>(z.1,Value.ref z.2.2):=fun l=>by
  induction l with
  |nil=>rfl
  |cons i r ih =>
   cases e:xs[i]? with
   |none=>rw[List.filterMap_cons_none (by rw[eg,e];rfl),List.filterMap_cons_none (by rw[zg,e];rfl),ih]
   |some x=>rw[XM (by rw[eg,e];rfl),XM (by rw[zg,e];rfl),K5,ih]
 have f1':order.toList.filterMap (fun i=>zs[i]?)=OQ:=by rw[<- f1];simp
 have Rh:∀z∈OQ,z=((TK prog w).hash z.2.1,z.2)/\z.2∈xs:=fun z hz=>by obtain⟨q,lq,eq⟩:=QQ hz;obtain⟨i,_,hi⟩:=f4 q z (by rw[LH lq,eq]);rw[zg]at hi;obtain⟨x,ex,e⟩:=RQ.mp hi;subst e;exact⟨rfl,NS ex⟩
 have new:(order.filterMap fun i=>es[i]?).toList=ys.map fun x=>((TK prog w).hash x.1,Value.ref x.2):=by
  have:(order.filterMap fun i=>es[i]?).toList=order.toList.filterMap fun i=>es[i]?:=by simp
  rw[this,fo,f1',<- Xa,MX];apply Tv;intro z hz;obtain⟨e,_⟩:=Rh z hz;show(z.1,Value.ref z.2.2)=((TK prog w).hash z.2.1,Value.ref z.2.2);rw[show z.1=(TK prog w).hash z.2.1 from congrArg (·.1) e]
 have YZ:OQ.map (·.1)=ys.map fun x=>(TK prog w).hash x.1:=by rw[<- Xa,MX];apply Tv;intro z hz;obtain⟨e,_⟩:=Rh z hz;exact congrArg (·.1) e
 have yl:ys.length=xs.length:=by rw[<- Xa,J6,f2,zz]
 have ym:∀y,y∈ys↔y∈xs:=fun y=>by
  rw[<- Xa];constructor
  ·intro hy;obtain⟨z,hz,rfl⟩:=KH.mp hy;exact(Rh z hz).2
  ·intro hy;obtain⟨i,li,ei⟩:=QQ hy;obtain⟨q,hq⟩:=f5 i (by rw[zz];exact li);have hz:((TK prog w).hash y.1,y)∈OQ:=by
    rw[<- f1',VG];refine⟨i,?_,by rw[zg,LH li,ei];rfl⟩;rw[<- LX]at hq;exact NS hq
   exact KH.mpr ⟨_,hz,rfl⟩
 have ynd:(ys.map (·.1)).Nodup:=by
  rw[<- Xa,MX];refine QO.mpr fun p q lp lq ZY e=>?_
  rw[J6]at lp lq;simp only[Ph,Function.comp]at e;obtain⟨i,oi,gi⟩:=f4 p OQ[p] (LH lp);obtain⟨i',oi',gi'⟩:=f4 q OQ[q] (LH lq);rw[zg]at gi gi';obtain⟨x,ex,e1⟩:=RQ.mp gi;obtain⟨x',ex',e1'⟩:=RQ.mp gi';rw[<- e1,<- e1']at e;have e2:x.1=x'.1:=e;obtain⟨l1,l2⟩:=MZ.mp ex;obtain⟨l1',l2'⟩:=MZ.mp ex';have ii:i=i':=by
   rcases VJ i i' with z|z|z
   ·have:=QO.mp nd i i' (by rw[J6];exact l1) (by rw[J6];exact l1') z;rw[Ph,Ph,l2,l2']at this;exact absurd e2 this
   ·exact z
   ·have:=QO.mp nd i' i (by rw[J6];exact l1') (by rw[J6];exact l1) z;rw[Ph,Ph,l2,l2']at this;exact absurd e2.symm this
  subst ii;have:=f6 p q i oi oi'
  lia
 unfold setRelay;refine JX (Qu ho hd fits ?_);dsimp only;rw[JT (by rw[sizeLine_eq];lia),er];have nsz:(order.filterMap fun i=>es[i]?).size=es.size:=by rw[<- NU,new,J6,yl,sz]
 refine JX ?_;show wpAny _ _ (if((order.filterMap fun i=>es[i]?).size != es.size)=true then _ else pure (order.filterMap (fun i=>es[i]?),t')) _ _ _;rw[JT (by rw[nsz];simp)];refine Ki ?_;refine wpAny_storeSet_of ho hd ?_ (by rw[nsz,sz,sizeLine_eq];lia);have hg:(s.heap.update a (Obj.putSet (order.filterMap fun i=>es[i]?) t')).get? a=some {o with data:=.set (order.filterMap fun i=>es[i]?) (ep+1) t'}:=by have:=Tt (Obj.putSet (order.filterMap fun i=>es[i]?) t') ho (by rw[putSet_of _ _ hd];rfl);rw[putSet_of _ _ hd]at this;exact this
 rw[YZ]at T';refine hQ _ ys (UJ ..) ⟨⟨_,_,ep+1,t',hg,hex,rfl,new,T',⟨by rw[m3];exact Lr.1,by rw[m2];exact Lr.2⟩,by rw[m1,f3,zz];lia,by rw[m1];lia⟩,fun y hy=>iX (Rg y ((ym y).mp hy)) ho hex.1 (UJ ..),ynd⟩ yl ym
def F2{Q:Bool->Shared->Prop}(hu:A.units<cLine)(S:gI prog w s.heap a xs)(hk:(TK prog w).is s.heap k b)(hl:xs.length<1000)
  (hQ:∀h' ys b',Heap.SameBut a s.heap h'->gI prog w h' a ys->ys.length<=xs.length+1->(∀k',k'∈ys.map (·.1)↔k'∈xs.map (·.1)∨k'=k)->(∀y∈ys,y∈xs∨y=(k,b))->Q b' {s with heap:=h',toks:=s.toks+(TK prog w).draws k}) :
  wpAny (model prog w) A (setAdd a (.ref b)) Q E s:=by
 unfold setAdd;refine OO (JX ((TK prog w).pyHash hu hk ?_));generalize hs':({s with toks:=s.toks+(TK prog w).draws k}:Shared)=s';have hh:s'.heap=s.heap:=by rw[<- hs']
 obtain⟨⟨o,es,ep,t,ho,hex,hd,he,T,Lr,O2,hma⟩,Rg,nd⟩:=S;rw[<- hh]at ho hk;have Ul:∀x∈xs,(TK prog w).is s'.heap x.1 x.2:=by rw[hh];exact Rg
 have sz:es.size=xs.length:=by rw[<- NU,he,J6]
 have fits:t.fits es.size=true:=by have:=T.fits;rw[J6]at this;rw[sz];exact this
 have psz:t.place.size=xs.length:=by have:=T.len;rw[J6]at this;exact this
 have back:∀(h':Heap) (b':Bool),Q b' {s with heap:=h',toks:=s.toks+(TK prog w).draws k}->Q b' {s' with heap:=h'}:=fun h' b' q=>by rw[<- hs'];exact q
 unfold setAddHashed;refine OO ?_;unfold setAddHashedIn;refine JX (Qu ho hd fits ?_);dsimp only;rw[JT (by unfold byScan;simp[Value.scannable])];obtain⟨c,ec⟩:=vW t ((TK prog w).hash k);have vl:=qg t.mask ((TK prog w).hash k);unfold setSearch;refine JX (mZ hu hk ho hd he Ul T (fun Sg=>?_) (fun Yi j pre post hv hp hj=>?_) 100000 _ [] c none ec.symm (by simp) (by simp) (by unfold turns at vl;lia) rfl)
 ·dsimp only;refine Ki ?_;have e:s'={s' with heap:=s'.heap}:=by cases s';rfl
  rw[e];refine back _ _ (hQ s'.heap xs _ (by rw[hh];exact Heap.SameBut.refl a s.heap) ⟨⟨o,es,ep,t,ho,hex,hd,he,T,Lr,O2,hma⟩,Ul,nd⟩ (by lia) (fun k'=>⟨.inl,fun z=>z.elim id fun z=>by subst z;exact Sg⟩) fun y hy=>.inl hy)
 ·dsimp only;refine JX (Qu ho hd fits ?_);dsimp only;obtain⟨T',pl,pm,ps⟩:=T.put hj hv hp (by lia);rw[J6]at pl;have W4:(t.put j).1.plain=true:=Lr.1;have ZY:(t.put j).1.plain=true/\(t.put j).1.led=!w.params.followText "set-order" := Lr;rw[W4];simp only[if_true];refine JX (Ah hk ?_);simp only[if_true];generalize X5:(t.put j).2=p at *;generalize ht2:(t.put j).1=t2 at *;have ZZ:(insertAt es p ((TK prog w).hash k,Value.ref b)).toList=(xs.take p++(k,b)::xs.drop p).map fun x=>((TK prog w).hash x.1,Value.ref x.2):=by
   rw[j3,he,Na,K5,List.map_take,List.map_drop]
  have hlen:(xs.take p++(k,b)::xs.drop p).length=xs.length+1:=by
   rw[LO,NW,Oc,ON]
   lia
  have Z0:(insertAt es p ((TK prog w).hash k,Value.ref b)).size=xs.length+1:=by rw[<- NU,ZZ,J6,hlen]
  have mem:∀y,y∈xs.take p++(k,b)::xs.drop p↔y=(k,b)∨y∈xs:=fun y=>by
   rw[KR,Kr];constructor
   ·rintro(z|z|z)
    ·exact .inr (Sy z)
    ·exact .inl z
    ·exact .inr (Sx z)
   ·rintro(z|z)
    ·exact .inr (.inl z)
    ·rw[<- OL p xs]at z;rcases KR.mp z with q|q
     ·exact .inl q
     ·exact .inr (.inr q)
  have Yk:((xs.take p++(k,b)::xs.drop p).map (·.1)).Nodup:=by
   rw[Na,K5];have n0:=nd;have h0:=Yi;rw[<- OL p xs,Na]at n0 h0;rw[List.nodup_append]at n0 ⊢;obtain⟨n1,n2,n3⟩:=n0;rw[KR,not_or]at h0;refine⟨n1,QS.mpr ⟨h0.2,n2⟩,fun x hx y hy=>?_⟩;rcases Kr.mp hy with z|z
   ·intro e;subst e;subst z;exact h0.1 hx
   ·exact n3 x hx y z
  have Ri:∀zs:List (yaf×Addr),(∀y,y∈zs↔y∈xs.take p++(k,b)::xs.drop p)->∀k',k'∈zs.map (·.1)↔k'∈xs.map (·.1)∨k'=k:=fun zs hz k'=>by
   constructor
   ·intro h1;obtain⟨y,hy,e⟩:=KH.mp h1;rcases(mem y).mp ((hz y).mp hy)with q|q
    ·subst q;exact .inr e.symm
    ·exact .inl (KH.mpr ⟨y,q,e⟩)
   ·rintro(h1|h1)
    ·obtain⟨y,hy,e⟩:=KH.mp h1;exact KH.mpr ⟨y,(hz y).mpr ((mem y).mpr (.inr hy)),e⟩
    ·subst h1;exact KH.mpr ⟨(k',b),(hz _).mpr ((mem _).mpr (.inl rfl)),rfl⟩
  refine JX (wpAny_storeSet_of ho hd ?_ (by rw[Z0,sizeLine_eq];lia));have hg:(s'.heap.update a (Obj.putSet (insertAt es p ((TK prog w).hash k,Value.ref b)) t2)).get? a=some {o with data:=.set (insertAt es p ((TK prog w).hash k,Value.ref b)) (ep+1) t2}:=by have:=Tt (Obj.putSet (insertAt es p ((TK prog w).hash k,Value.ref b)) t2) ho (by rw[putSet_of _ _ hd];rfl);rw[putSet_of _ _ hd]at this;exact this
  have sb:=UJ s'.heap a (Obj.putSet (insertAt es p ((TK prog w).hash k,Value.ref b)) t2);generalize hh2:s'.heap.update a (Obj.putSet (insertAt es p ((TK prog w).hash k,Value.ref b)) t2)=h2 at hg sb ⊢;have T2:Tab t2 ((xs.take p++(k,b)::xs.drop p).map fun x=>(TK prog w).hash x.1):=by rw[Na,K5,List.map_take,List.map_drop];exact T'
  have is2:∀x∈xs.take p++(k,b)::xs.drop p,(TK prog w).is h2 x.1 x.2:=fun x hx=>by
   rcases(mem x).mp hx with z|z
   ·subst z;exact iX hk ho hex.1 sb
   ·exact iX (Ul x z) ho hex.1 sb
  by_cases tf:t2.tooFull=true
  ·rw[JU (by simp[tf])];refine JX (CY (s:={s' with heap:=h2}) (xs:=xs.take p++(k,b)::xs.drop p) hg hex rfl ZZ T2 ZY is2 Yk ?_ (by lia) (by lia) fun h3 ys sb3 S3 yl ym=>?_)
   ·rw[hlen,sz];unfold SetTable.grown;rw[JT (by lia)]
    lia
   ·refine Ki (back h3 true (hQ h3 ys true (by rw[<- hh];exact sb.trans sb3) S3 ?_ (Ri ys ym) fun y hy=>?_))
    ·lia
    ·rcases(mem y).mp ((ym y).mp hy)with q|q
     ·exact .inr q
     ·exact .inl q
  ·rw[JT (by simp[tf])];refine Ki (back h2 true (hQ h2 _ true (by rw[<- hh];exact sb) ⟨⟨_,_,ep+1,t2,hg,hex,rfl,ZZ,T2,ZY,?_,by rw[pm];exact hma⟩,is2,Yk⟩ (by lia) (Ri _ fun _=>Iff.rfl) fun y hy=>?_))
   ·have Z1:t2.tooFull=false:=by simpa using tf
    unfold SetTable.tooFull SetTable.fill at Z1;rw[T2.Yh]at Z1;simp at Z1
    lia
   ·rcases(mem y).mp hy with q|q
    ·exact .inr q
    ·exact .inl q
end
def rY:entryFor table "set.update.loop" = some Builtin.«set.update.loop»:=entryFor_of_tree (by kernel_rfl)
def lx:plainId "set.update.loop" = true:=by decide +kernel
section
variable{prog:Program}{w:World}{A:Around}{E:yaa}{s:Shared}
def jF{h':Heap}(hk:(TK prog w).is h k b)(e:∀o,h.get? b=some o->h'.get? b=some o):(TK prog w).is h' k b:=by obtain⟨o',items,n,Nx,r⟩:=hk;exact⟨o',items,n,e o' Nx,r⟩
def key_ne {o:Obj} (hk:(TK prog w).is h k b) (ho:h.get? a=some o) (hc:o.cls=.type T) (hT:T ≠ "tuple"):b≠a:=fun e=>by subst e;obtain⟨o',items,n,Nx,PR,_⟩:=hk;rw[ho]at Nx;cases Nx;rw[hc]at PR;injection PR with z;exact hT z
def gI.ext{h':Heap}(S:gI prog w h a xs)(e:∀o,h.get? a=some o->h'.get? a=some o)(hk:∀x∈xs,(TK prog w).is h' x.1 x.2):gI prog w h' a xs:=by obtain⟨⟨o,es,ep,t,ho,r⟩,_,nd⟩:=S;exact⟨⟨o,es,ep,t,e o ho,r⟩,hk,nd⟩
def EW {a I l : Addr} {items : yao} {R : Result -> Shared -> Prop} (hh : A.handled = none) (hu : A.in1.units < cLine) (Z2 : a ≠ I) (hal : a ≠ l) (hlI : l ≠ I) (hn : items.size <= 900) (ks : Nat -> yaf) :
  ∀ (m i : Nat) (s : Shared) (xs : List (yaf × Addr)), items.size - i = m -> i <= items.size -> (s.heap.IsListIter I l i /\ s.heap.IsList l items) -> gI prog w s.heap a xs -> xs.length <= i →
   (∀ (j : Nat) (v : Value), items[j]? = some v -> ∃ c, v = .ref c /\ (TK prog w).is s.heap (ks j) c) -> (∀ k, k ∈ xs.map (·.1) ↔ ∃ j, j < i /\ k = ks j) -> (∀ x ∈ xs, ∃ j, j < i /\ items[j]? = some (.ref x.2)) →
   (∀ h' tk ys, (∀ b o, b ≠ a -> b ≠ I -> s.heap.get? b = some o -> h'.get? b = some o) -> gI prog w h' a ys -> ys.length <= items.size -> (∀ k, k ∈ ys.map (·.1) ↔ ∃ j, j < items.size /\ k = ks j) -> (∀ x ∈ ys, ∃ j, j < items.size /\ items[j]? = some (.ref x.2)) →
    R (.ok (.ret .none)) { s with heap := h', toks := tk }) -> codeAny (model prog w) A (.builtin "set.update.loop" ⟨[.ref a, .ref I], []⟩) R s := by
 have W := Walks.list (prog := prog) (w := w) (A := A.in1) (show A.in1.handled = none from hh) I l hlI items;intro m
 induction m with
 | zero =>
  intro i s xs hm hi st S hx hk Um Z3 hR;have e : i = items.size := by lia
  subst e;refine TF rY ?_;rw [Around.under_plainId lx _];show wpAny _ A.in1 (pyNext (.ref I) >>= _) _ _ s;refine JX (W.done s _ _ st fun h' tk kp => ?_);obtain ⟨⟨o, ho, hc, _⟩, _⟩ := st;have Sj : ∀ b o, b ≠ I -> s.heap.get? b = some o -> h'.get? b = some o := fun b o hb e => kp b o (by simpa using hb) e
  refine Ki (hR h' tk xs (fun b o _ hb e => Sj b o hb e) (S.ext (fun o e => Sj a o Z2 e) fun x NY => ?_) hx Um Z3);exact jF (S.Yj x NY) fun o' e => Sj _ o' (key_ne (S.Yj x NY) ho hc (by decide)) e
 | succ m ih =>
  intro i s xs hm hi st S hx hk Um Z3 hR;have Mc : i < items.size := by lia
  refine TF rY ?_;rw [Around.under_plainId lx _];show wpAny _ A.in1 (pyNext (.ref I) >>= _) _ _ s;refine JX (W.item i s _ _ Mc st fun v h' tk hv st' kp => ?_);obtain ⟨⟨o, ho, hc, _⟩, _⟩ := id st;have Sj : ∀ b o, b ≠ I -> s.heap.get? b = some o -> h'.get? b = some o := fun b o hb e => kp b o (by simpa using hb) e
  have up : ∀ {k : yaf} {c : Addr}, (TK prog w).is s.heap k c -> (TK prog w).is h' k c := fun q => jF q fun o' e => Sj _ o' (key_ne q ho hc (by decide)) e
  have S' : gI prog w h' a xs := S.ext (fun o e => Sj a o Z2 e) fun x NY => up (S.Yj x NY)
  obtain ⟨c, rfl, hkc⟩ := hk i v hv;show wpAny _ A.in1 (holding [.ref c] (setAdd a (.ref c)) >>= _) _ _ _;refine JX (OO (F2 (s := { s with heap := h', toks := tk }) hu S' (up hkc) (by lia) fun h2 ys b' sb S2 yl km ym => ?_));obtain ⟨⟨o2, _, _, _, Sk, hex2, _⟩, _, _⟩ := id S';have Sm : ∀ {k : yaf} {c : Addr}, (TK prog w).is h' k c -> (TK prog w).is h2 k c := fun q => iX q Sk hex2.1 sb
  have Kb : h2.IsListIter I l (i + 1) /\ h2.IsList l items := W.frame _ _ _ st' fun b hb o e => by
   refine sb.extBut b o (fun q => ?_) e;subst q;simp only [Kr, PO, or_false] at hb;rcases hb with z | z
   ·exact Z2 z
   ·exact hal z
  refine Ki ⟨plainId_quiet lx _, ih (i + 1) _ ys (by lia) Mc Kb S2 (by lia) (fun j v hj => ?_) (fun k => ?_) (fun x NY => ?_) fun h3 tk3 zs kp3 S3 zl zk zi => ?_⟩
  ·obtain ⟨c', e, q⟩ := hk j v hj;exact ⟨c', e, Sm (up q)⟩
  ·rw [km k, Um k];constructor
   ·rintro (⟨j, hj, e⟩ | e)
    ·exact ⟨j, by lia, e⟩
    ·exact ⟨i, by lia, e⟩
   ·rintro ⟨j, hj, e⟩;by_cases z : j < i
    ·exact .inl ⟨j, z, e⟩
    ·have : j = i := by lia
     subst this;exact .inr e
  ·rcases ym x NY with z | z
   ·obtain ⟨j, hj, e⟩ := Z3 x z;exact ⟨j, by lia, e⟩
   ·subst z;exact ⟨i, by lia, hv⟩
  ·exact hR h3 tk3 zs (fun b o h1 MY e => kp3 b o h1 MY (sb.extBut b o h1 (Sj b o MY e))) S3 zl zk zi
end
def tI (a:Value):checkTypeCall "set" ⟨[a],[]⟩=pure ():=by kernel_rfl
def uZ (a:Value):checkBuiltinCall "set.__new__" ⟨[.type "set", a],[]⟩=pure ():=by kernel_rfl
section
variable{prog:Program}{w:World}{A:Around}{E:yaa}{s:Shared}
def sV(a:Value){Q₁:yaa}
  (h:∀led:Bool,led=(!w.params.followText "set-order")->Q₁ (.ref s.heap.objs.size) {s with heap:=s.heap.push {cls:=.type "set", dict:=none,data:=.set #[] 0 (.fresh 0 0 led)} }) :
  codeAny (model prog w) A (.call (.builtin "set.__new__") ⟨[.type "set", a],[]⟩) (wants Q₁ E) s:=by
 refine codeAny_of_tree ?_;show wpAny _ A.in1 (do checkBuiltinCall "set.__new__" ⟨[.type "set", a],[]⟩;again (.builtin "set.__new__" ⟨[.type "set", a],[]⟩)) _ _ s;refine JX (wpAny_of_eq (uZ a) (Ki ⟨plainId_quiet F.plain_set_new _,TF F.entry_set_new ?_⟩));rw[Around.under_plainId F.plain_set_new _];unfold Builtin.«set.__new__» Builtin.Frozenset.newClass;have Z4:=sub_set_self;obtain⟨hp,g,d,tk,os⟩:=s;dsimp only;wp_walk;refine VN (Ki ?_);dsimp only;simp only[newObj];refine JX (wpAny_alloc (Ki ?_));exact Ki (h _ rfl)
def vZ {x:Value} {Q:Unit->Shared->Prop} (hT:s.TypeIs self "set") (hQ:Q () s):wpAny M A (checkBuiltinCall "set.__init__" ⟨[self,x],[]⟩) Q E s:=by
 simp only[checkBuiltinCall,kind_set_init,split_set_init,sig_set_init];refine JX (wpAny_isInstance hT sub_set_self ?_);simp only[Bool.not_true,OM,if_false];unfold Bind.checkArgs;dsimp only;refine JX (m:=Bind.printed "set" true _ _) (PyProof.Rows.printed_name (by decide) ?_);refine JX (m:=Bind.printed "*" false _ _) (PyProof.Rows.printed_star (self:=self) rfl hT fun short=>?_);have hrn:(Manifest.Receiver.self==Manifest.Receiver.none)=false:=by decide
 rw[show(if(Manifest.Receiver.self==Manifest.Receiver.none)=true then[self,x].length else[self,x].length - 1)=1 by simp[hrn]];simp only[RD];rw[show Bind.check ⟨.positional,"set", "*", .self,[⟨"iterable", .posOnly,false⟩]⟩ "set" short 1 []=pure ()by(simp[Bind.check,Bind.checkCount,Bind.isPositional];intro z;exact absurd z (by decide))];exact Ki hQ
set_option maxHeartbeats 1000000 in
def zI {x:Value} {Q:yaa} (h:∀led:Bool,led=(!w.params.followText "set-order")->wpAny (model prog w) A.in1.in1 (Builtin.«set.__init__» ⟨[.ref s.heap.objs.size,x],[]⟩)
   (fun fin s'=>match fin with|.done f=>wants (fun r J2=>r=.none/\Q (.ref s.heap.objs.size) J2) E (.ok f) s'|.again c'=>c'.quiet=true/\codeAny (model prog w) A.in1 c' (wants (fun r J2=>r=.none/\Q (.ref s.heap.objs.size) J2) E) s')
   (fun e s'=>wants (fun r J2=>r=.none/\Q (.ref s.heap.objs.size) J2) E (.error e) s') {s with heap:=s.heap.push {cls:=.type "set", dict:=none,data:=.set #[] 0 (.fresh 0 0 led)} }) :
  wpAny (model prog w) A (call (.type "set") [x]) Q E s:=by
 obtain⟨c,tl,hmro⟩:=F.called_set.mro;have hmade:=F.called_set.made;have Z4:=F.called_set.sub;refine wpAny_call (codeAny_of_tree ?_);show wpAny _ _ (callAny (.type "set") _) _ _ _;refine Ki ⟨Code.quiet_builtin _ (by decide +kernel),TF F.entry_type_call ?_⟩;rw[Around.under_plain (weight_type_call_type "set" [x] []) rfl];have h1:=F.called_set.notType;have h2:=F.called_set.canCreate;have hct:=tI x
 repeat (any_goals (first|assumption|wp_step))
 refine codeAny_mono (sV (E:=E) x (Q₁:=fun obj J1=>∃led:Bool,led=(!w.params.followText "set-order")/\obj=.ref s.heap.objs.size/\J1={s with heap:=s.heap.push {cls:=.type "set", dict:=none,data:=.set #[] 0 (.fresh 0 0 led)} }) fun led hle=>⟨led,hle,rfl,rfl⟩) fun r J1 hr=>?_
 cases r with
 |error e=>exact hr
 |ok fl =>
  cases fl with
  |ret obj =>
   obtain⟨led,hle,rfl,rfl⟩:=hr;have hT:Shared.TypeIs {s with heap:=s.heap.push {cls:=.type "set", dict:=none,data:=.set #[] 0 (.fresh 0 0 led)} } (.ref s.heap.objs.size) "set" := ⟨_,Ou _ rfl,rfl⟩;have hli:=F.called_set.init.lookup;have hbi:=F.called_set.init.bind (.ref s.heap.objs.size)
   repeat (any_goals (first|assumption|wp_step))
   refine codeAny_mono (codeAny_call_builtin (R:=wants (fun r J2=>r=.none/\Q (.ref s.heap.objs.size) J2) E) F.called_set.init.plain F.entry_set_init (vZ hT (h led hle))) fun Z5 J2 Rj=>?_
   cases Z5 with
   |error e=>exact Rj
   |ok Xb =>
    cases Xb with
    |ret r =>
     obtain⟨rfl,hq⟩:=Rj
     repeat (any_goals (first|assumption|wp_step))
    |_=>exact Rj.elim
  |_=>exact hr.elim
def EB (led:Bool) (hle:led=!w.params.followText "set-order"):gI prog w (s.heap.push {cls:=.type "set", dict:=none,data:=.set #[] 0 (.fresh 0 0 led)}) s.heap.objs.size []:=by refine⟨⟨_,#[],0,_,Ou _ rfl,⟨rfl,rfl,rfl⟩,rfl,rfl,?_,⟨rfl,hle⟩,by show 0*5<7*3;decide,by show 7<=8191;decide⟩,by simp,by simp⟩;refine⟨⟨2,rfl⟩,fun a b _ hb=>absurd hb (Nat.not_lt_zero _),(fun x hx=>by cases hx),rfl,rfl,Mx _,fun a x h hx=>?_⟩;have:(#[]:yap)[a]?=some x:=hx;simp at this
def Ih:isSubtype (.type "list") (.type "set")=pure false:=by rw[isSubtype_type];kernel_rfl
def Ig:isSubtype (.type "list") (.type "frozenset")=pure false:=by rw[isSubtype_type];kernel_rfl
def call_set_list {Q : yaa} (hh : A.handled = none) (hu : A.in1.in1.in1.units < cLine) (hl : s.heap.IsList l items) (hn : items.size <= 900) (ks : Nat -> yaf)
  (hk : ∀ (j : Nat) (v : Value), items[j]? = some v -> ∃ c, v = .ref c /\ (TK prog w).is s.heap (ks j) c)
  (hQ : ∀ h' tk ys, (∀ b o, s.heap.get? b = some o -> h'.get? b = some o) -> gI prog w h' s.heap.objs.size ys -> ys.length <= items.size -> (∀ k, k ∈ ys.map (·.1) ↔ ∃ j, j < items.size /\ k = ks j) -> (∀ x ∈ ys, ∃ j, j < items.size /\ items[j]? = some (.ref x.2)) →
   Q (.ref s.heap.objs.size) { s with heap := h', toks := tk }) : wpAny (model prog w) A (call (.type "set") [.ref l]) Q E s := by
 refine zI fun led hle => ?_
 have hS : (s.heap.push { cls := .type "set", dict := none, data := .set #[] 0 (.fresh 0 0 led) }).get? s.heap.objs.size = some { cls := .type "set", dict := none, data := .set #[] 0 (.fresh 0 0 led) } := Ou _ rfl;have hT : Shared.TypeIs { s with heap := s.heap.push { cls := .type "set", dict := none, data := .set #[] 0 (.fresh 0 0 led) } } (.ref s.heap.objs.size) "set" := ⟨_, hS, rfl⟩;have ll : l < s.heap.objs.size := by obtain ⟨o, ho, _⟩ := hl; exact LC ho
 have Vg : Shared.TypeIs { s with heap := s.heap.push { cls := .type "set", dict := none, data := .set #[] 0 (.fresh 0 0 led) } } (.ref l) "list" := by obtain ⟨o, ho, hc, _⟩ := hl;exact ⟨o, Mv _ ho, hc⟩
 have S0 := EB (prog := prog) (w := w) (s := s) led hle;have hl1 : (s.heap.push { cls := .type "set", dict := none, data := .set #[] 0 (.fresh 0 0 led) }).IsList l items := hl.push _;have S1 : (s.heap.push { cls := .type "set", dict := none, data := .set #[] 0 (.fresh 0 0 led) }).objs.size = s.heap.objs.size + 1 := Heap.size_push ..;have kp1 : ∀ b o, s.heap.get? b = some o -> (s.heap.push { cls := .type "set", dict := none, data := .set #[] 0 (.fresh 0 0 led) }).get? b = some o := fun b o e => Mv _ e
 unfold Builtin.«set.__init__» noKeywords
 wp_walk
 refine wpAny_of_eq Ih ?_;show wpAny _ _ (isInstance (.ref l) (.type "frozenset")) _ _ _;refine wpAny_isInstance Vg Ig ?_;simp only [OM, if_false];refine JX (wpAny_typeOf Vg ?_);rw [JT (by decide)];generalize s.heap.push { cls := .type "set", dict := none, data := .set #[] 0 (.fresh 0 0 led) } = h1 at *;refine JX (wpAny_pyIter_list hl1 ?_);refine JX (wpAny_runValue ?_);have ne1 : s.heap.objs.size ≠ h1.objs.size := by lia
 refine EW (A := A.in1.in1) (I := h1.objs.size) (l := l) (items := items) hh hu ne1 (Nat.ne_of_gt ll) (Nf (by rw [S1]; exact VI ll)) hn ks items.size 0 { s with heap := h1.push { cls := .type "list_iterator", data := .fields #[.ref l, .int 0 0] } } [] (by lia) (Mx _) ⟨⟨_, Ou _ rfl, rfl, rfl⟩, hl1.push _⟩ (S0.ext (fun o e => Mv _ e) (by simp)) (KO _) (fun j v hj => ?_) (by simp) (by simp) fun h' tk ys kp S yl yk yi => ?_
 ·obtain ⟨c, e, q⟩ := hk j v hj;exact ⟨c, e, jF q fun o e => Mv _ (kp1 c o e)⟩
 ·refine Ki (Ki ⟨rfl, hQ h' tk ys (fun b o e => ?_) S yl yk yi⟩);have lb : b < s.heap.objs.size := LC e;exact kp b o (Nf lb) (Nf (by rw [S1]; exact VI lb)) (Mv _ (kp1 b o e))
end
theorem oS{α:Type}:∀(l:List α) (i:Nat) (h:i<l.length),(l[i]::l.eraseIdx i).Perm l
 |[],_,h=>absurd h (Nat.not_lt_zero _)
 |x::l,0,_=>UY _
 |x::l,i+1,h=>by have r:=oS l i (by simpa using h);show(l[i]'(by simpa using h)::x::l.eraseIdx i).Perm (x::l);exact(List.Perm.swap x _ _).trans (List.Perm.cons x r)
theorem xw{α:Type}(next:Nat->Nat):∀(fuel k:Nat) (left:List α) (out:Array α),left.length=fuel->(pickOrder.go next fuel k left out).toList.Perm (out.toList++left)
 |0,k,left,out,e=>by have:left=[]:=List.length_eq_zero_iff.mp e;subst this;simp[pickOrder.go]
 |fuel+1,k,left,out,e=>by
  have hp:0<left.length:=by lia
  have hm:next k % left.length<left.length:=QV _ hp;unfold pickOrder.go;rw[LH hm];dsimp only;have r:=xw next fuel (k+1) (left.eraseIdx (next k % left.length)) (out.push left[next k % left.length]) (by rw[List.length_eraseIdx,JU hm];lia);refine r.trans ?_;rw[Tw,Nt];exact(List.perm_append_left_iff _).mpr (oS left _ hm)
def AQ{α:Type}(next:Nat->Nat)(xs:Array α):(pickOrder next xs).toList.Perm xs.toList:=by have:=xw next xs.size 0 xs.toList #[] (by simp);simpa [pickOrder]using this
def x9(hr:gH xs):below xs 0=0:=by
 obtain⟨h1,h2,h3⟩:=gT hr 0;rcases Nat.eq_zero_or_pos (below xs 0)with z|z
 ·exact z
 ·have:=h2 0 z;lia
def xZ(hr:gH xs){a j:Nat}(h:xs[a]?=some j):below xs (j+1)=a+1:=by
 obtain⟨h1,h2,h3⟩:=gT hr (j+1);obtain⟨la,ea⟩:=Sv.mp h;have ga:xs.getD a 0=j:=by simp[Array.getD,la,ea]
 rcases VJ (below xs (j+1)) (a+1)with z|z|z
 ·have:=h3 a (by lia) la
  lia
 ·exact z
 ·have q:=h2 (a+1) z;have lb:a+1<xs.size:=by lia
  have:=hr a (a+1) (by lia) lb
  lia
def vg:Manifest.owners.lookup (String.ofList ['r','o','t','a','r','e','t','i','_','t','e','s'].reverse)=some Manifest.sig_set_iterator:=by kernel_rfl
def cB:Slot "set_iterator" "__next__" "set_iterator.__next__" :=
 .of (owner := "set_iterator") (n := "__next__") (by rw[typeLookup_type,builtinLookup_eq_fast];kernel_rfl) (by decide +kernel) (by decide +kernel) (by decide +kernel) (.inl (by decide +kernel)) (by rw[isSubtype_type];kernel_rfl)
def lM:Slot "set_iterator" "__iter__" "set_iterator.__iter__" :=
 .of (owner := "set_iterator") (n := "__iter__") (by rw[typeLookup_type,builtinLookup_eq_fast];kernel_rfl) (by decide +kernel) (by decide +kernel) (by decide +kernel) (.inl (by decide +kernel)) (by rw[isSubtype_type];kernel_rfl)
def kL:entryFor table "set_iterator.__next__" = some Builtin.«set_iterator.__next__»:=entryFor_of_tree (by kernel_rfl)
def sW:entryFor table "set_iterator.__iter__" = some Builtin.«dict_keyiterator.__iter__»:=entryFor_alias (id' := "dict_keyiterator.__iter__") (by kernel_rfl) rfl (by decide +kernel) (by kernel_rfl)
def uJ:entryFor table "set.__iter__" = some Builtin.«frozenset.__iter__»:=entryFor_alias (id' := "frozenset.__iter__") (by kernel_rfl) rfl (by decide +kernel) (by kernel_rfl)
def kR (a:Value):argsOk "set_iterator.__next__" ⟨[a],[]⟩:=by unfold argsOk;rw[signature?_of (id := "set_iterator.__next__") (n:=['_','_','t','x','e','n','_','_']) (o:=['r','o','t','a','r','e','t','i','_','t','e','s']) (by kernel_rfl) vg];kernel_rfl
def ua (a:Value):argsOk "set_iterator.__iter__" ⟨[a],[]⟩:=by unfold argsOk;rw[signature?_of (id := "set_iterator.__iter__") (n:=['_','_','r','e','t','i','_','_']) (o:=['r','o','t','a','r','e','t','i','_','t','e','s']) (by kernel_rfl) vg];kernel_rfl
def de (w:World) (a:Addr) (es:Array (Int×Value)) (ep:Nat):Array (Int×Value):=if w.params.followText "set-order" = true then pickOrder (w.params.setOrder a ep) es else es
def m9(w:World)(a:Addr)(es:Array (Int×Value))(ep:Nat):(de w a es ep).toList.Perm es.toList:=by
 unfold de;split
 ·exact AQ _ _
 ·exact UY _
def jz(w:World)(a:Addr)(es:Array (Int×Value))(ep:Nat):(de w a es ep).size=es.size:=by have:=(m9 w a es ep).length_eq;simpa using this
def qt(w:World)(h:Heap)(I a:Addr)(t:SetTable)(n ep i:Nat):Prop :=
 ∃ o slot,h.get? I=some o/\o.cls=.type "set_iterator" /\ o.data=.fields #[.int (slot:Nat) 0,.int (i:Nat) 0,.ref a,.int (n:Nat) 0,.int (ep:Nat) 0]/\(w.params.followText "set-order" = false->below t.place slot=i)
section
variable{prog:Program}{w:World}{A:Around}{E:yaa}{s:Shared}
def rA (x:qt w s.heap I a t n ep i):s.TypeIs (.ref I) "set_iterator" := by obtain⟨o,_,ho,hc,_⟩:=x;exact⟨o,ho,hc⟩
def pU{a:Addr}{o:Obj}{es:Array (Int×Value)}{ep slot i:Nat}{t:SetTable}{hs:yaf}{Q:Option (Value×Nat)->Shared->Prop}(ho:s.heap.get? a=some o)(hd:o.data=.set es ep t)(T:Tab t hs)(he:hs.length=es.size)
  (Lr:t.plain=true/\t.led=!w.params.followText "set-order") (hb:w.params.followText "set-order" = false->below t.place slot=i)
  (hQ:∀z,(de w a es ep)[i]?.map (·.2)=z.map (·.1)->(∀p,z=some p->w.params.followText "set-order" = false->below t.place p.2=i+1)->Q z s):wpAny (model prog w) A (setNext a slot i ep) Q E s:=by
 have fits:t.fits es.size=true:=by rw[<- he];exact T.fits
 unfold setNext;refine JX (Qu ho hd fits ?_);dsimp only;unfold setsByText;refine JX (JX (VN (Ki ?_)));show wpAny _ _ (if w.params.followText "set-order" = true then _ else _) _ _ _;by_cases hf:w.params.followText "set-order" = true
 ·rw[JU hf];simp only[bne_self_eq_false,OM,if_false];unfold setWalk setsByText;refine JX (JX (Qu ho hd fits ?_));dsimp only;refine JX (JX (VN (Ki ?_)));show wpAny _ _ (if w.params.followText "set-order" = true then _ else _) _ _ _;rw[JU hf];refine JX (VN (Ki ?_));show wpAny _ _ (pure _) _ _ _;refine Ki (hQ _ ?_ ?_)
  ·unfold de;rw[JU hf];show _=Option.map _ (Option.map _ (pickOrder (w.params.setOrder a ep) es)[i]?);cases(pickOrder (w.params.setOrder a ep) es)[i]?<;>rfl
  ·intro p _ h;rw[hf]at h;cases h
 ·have Xc:w.params.followText "set-order" = false:=by simpa using hf
  rw[JT hf];split
  ·rename_i h;have h':(!t.plain && decide (es.size > 1))=true:=h;rw[Lr.1]at h';simp at h'
  ·refine JX ?_;show wpAny _ _ (if(!t.led && !es.isEmpty)=true then unsupported "set:maker-not-led" else pure ()) _ _ _;rw[JT (by rw[Lr.2,Xc];simp)];refine Ki (Ki (hQ _ ?_ ?_))
   ·unfold de;rw[JT hf,hb Xc];cases e:es[i]? with
    |none=>rfl
    |some z =>
     have li:i<es.size:=(Sv.mp e).1;have e2:t.place[i]?=some (t.place[i]'(by rw[T.len,he];exact li)):=PN _;rw[e2];rfl
   ·intro p hp _;rw[hb Xc]at hp;split at hp
    ·rename_i j e;cases hp;exact xZ T.rise e
    ·cases hp
def FF{o:Obj}{x:Int×Value}{Q:yan->Shared->Prop}(ho:s.heap.get? a=some o)(hd:o.data=.set es ep t)(T:Tab t hs)(he:hs.length=es.size)
  (Lr:t.plain=true/\t.led=!w.params.followText "set-order") (st:qt w s.heap I a t es.size ep i) (hx:(de w a es ep)[i]?=some x)
  (hQ:∀h',qt w h' I a t es.size ep (i+1)->Heap.SameBut I s.heap h'->Q (some x.2) {s with heap:=h'}):wpAny (model prog w) A (pyNext (.ref I)) Q E s:=by
 obtain⟨oi,slot,Vh,hci,Uo,hb⟩:=id st;have hT:=rA st;have fits:t.fits es.size=true:=by rw[<- he];exact T.fits
 unfold pyNext;refine JX (wpAny_attempt (wpAny_callSpecial?_slot (name:=Str.ofString "__next__") hT cB (VO cB hT kL ?_ (kR _))));unfold Builtin.«set_iterator.__next__»;refine JX (m:=slotArgs "__next__" 0 ⟨[.ref I],[]⟩) (Ki ?_);dsimp only;refine JX (wpAny_fieldsOf Vh Uo ?_);dsimp only;unfold setEntries;refine JX (JX (Qu ho hd fits (Ki ?_)));dsimp only;rw[JT (by simp)];simp only[Int.toNat_natCast];refine JX (pU ho hd T he Lr hb fun z hz hn=>?_);rw[hx]at hz;cases z with
 |none=>cases hz
 |some p =>
  obtain⟨v,nx⟩:=p;have ev:x.2=v:=MW hz;subst ev;dsimp only;refine JX (wpAny_setField Vh Uo (by simp) ?_);have h1:=Tt (Obj.mapFields (·.setIfInBounds 0 (rawInt (nx:Nat)))) Vh (Obj.isFreed_of_fields (Obj.data_mapFields Uo _));have d1:=Obj.data_mapFields Uo (·.setIfInBounds 0 (rawInt (nx:Nat)));refine JX (wpAny_setField h1 d1 (by simp) ?_);refine Ki ⟨_,rfl,Ki (hQ _ ⟨_,nx,Tt _ h1 (Obj.isFreed_of_fields (Obj.data_mapFields d1 _)),(Obj.cls_mapFields ..).trans ((Obj.cls_mapFields ..).trans hci),?_,hn _ rfl⟩ ((UJ ..).trans (UJ ..)))⟩;rw[Obj.data_mapFields d1];simp[rawInt]
def Ic{o:Obj}{Q:yan->Shared->Prop}(hh:A.handled=none)(ho:s.heap.get? a=some o)(hd:o.data=.set es ep t)(T:Tab t hs)(he:hs.length=es.size)
  (Lr:t.plain=true/\t.led=!w.params.followText "set-order") (st:qt w s.heap I a t es.size ep i) (hx:(de w a es ep)[i]?=none)
  (hQ:∀h',Heap.ExtBut I s.heap h'->Q none {s with heap:=h'}):wpAny (model prog w) A (pyNext (.ref I)) Q E s:=by
 obtain⟨oi,slot,Vh,hci,Uo,hb⟩:=id st;have hT:=rA st;have fits:t.fits es.size=true:=by rw[<- he];exact T.fits
 unfold pyNext;refine JX (wpAny_attempt (wpAny_callSpecial?_slot (name:=Str.ofString "__next__") hT cB (VO cB hT kL ?_ (kR _))));unfold Builtin.«set_iterator.__next__»;refine JX (m:=slotArgs "__next__" 0 ⟨[.ref I],[]⟩) (Ki ?_);dsimp only;refine JX (wpAny_fieldsOf Vh Uo ?_);dsimp only;unfold setEntries;refine JX (JX (Qu ho hd fits (Ki ?_)));dsimp only;rw[JT (by simp)];simp only[Int.toNat_natCast];refine JX (pU ho hd T he Lr hb fun z hz hn=>?_);rw[hx]at hz;cases z with
 |some p=>cases hz
 |none =>
  dsimp only;refine JX (wpAny_setField Vh Uo (by simp) ?_);show wpAny _ _ (newExc (.type "StopIteration") [] >>= _) _ _ _;refine JX ?_;simp only[newExc,newTuple];refine JX (UQ ?_ (by size_fits));refine JX (m:=firstArgMember _ _) (wpAny_of_eq (a:=Value.none) (by first|rfl|(simp only[firstArgMember];rfl)) ?_);refine UQ ?_ (by size_fits);simp only[raiseNew];refine JX (wpAny_handled ?_);rw[show A.in1.handled=none from hh];refine JX (Ki (wpAny_throw ?_));refine JX (wpAny_isInstance (T := "StopIteration") (b:=true) ⟨_,Ou _ rfl,rfl⟩ isSubtype_stop ?_);exact Ki (hQ _ (((UJ ..).extBut.push _).push _))
def FG{Q:yaa}(st:qt w s.heap I a t n ep i)(h:Q (.ref I) s):wpAny (model prog w) A (pyIter (.ref I)) Q E s:=by have hT:=rA st;refine wpAny_pyIter_slot hT lM (VO lM hT sW ?_ (ua _));show wpAny _ _ (ret (.ref I)) _ _ s;exact Ki ⟨_,rfl,"set_iterator", _,hT,cB.lookup,h⟩
def Bt (hh:A.handled=none) (I a:Addr) (LY:a≠I) {o:Obj} (hd:o.data=.set es ep t) (T:Tab t hs) (he:hs.length=es.size) (Lr:t.plain=true/\t.led=!w.params.followText "set-order") :
  Walks prog w A I [I,a] [I] es.size (fun i v=>∃x,(de w a es ep)[i]?=some x/\x.2=v) (fun i h=>qt w h I a t es.size ep i/\h.get? a=some o) where
 sub:=fun b hb=>by simp at hb;simp[hb]
 frame:=fun _ _ _ st hk=>⟨by obtain⟨⟨o,sl,ho,r⟩,_⟩:=st;exact⟨o,sl,hk I (by simp) o ho,r⟩,hk a (by simp) o st.2⟩
 item:=fun i s Q E hi st hQ=>by
  have lw:i<(de w a es ep).size:=by rw[jz];exact hi
  refine FF st.2 hd T he Lr st.1 (PN lw) fun h' st' sb=>?_
  exact hQ _ h' s.toks ⟨_,PN lw,rfl⟩ ⟨st',sb.extBut a o LY st.2⟩ fun b o hb e=>sb.extBut b o (fun h=>hb (by simp[h])) e
 done:=fun s Q E st hQ=>Ic hh st.2 hd T he Lr st.1 (by rw[XN];rw[jz];exact KO _) fun h' sb=>hQ h' s.toks fun b o hb e=>sb b o (fun h=>hb (by simp[h])) e
 self:=fun _ _ _ _ st hQ=>FG st.1 hQ
def Cj {o:Obj} {Q:yaa} (ho:s.heap.get? a=some o) (hc:o.cls=.type "set") (hd:o.data=.set es ep t) (T:Tab t hs) (he:hs.length=es.size) (Lr:t.plain=true)
  (hQ:Q (.ref s.heap.objs.size) {s with heap:=s.heap.push {cls:=.type "set_iterator", data:=.fields #[.int 0 0,.int 0 0,.ref a,.int (es.size:Nat) 0,.int (ep:Nat) 0]} }):wpAny (model prog w) A (pyIter (.ref a)) Q E s:=by
 have hT:s.TypeIs (.ref a) "set" := ⟨o,ho,hc⟩;have fits:t.fits es.size=true:=by rw[<- he];exact T.fits
 refine wpAny_pyIter_slot hT F.slot_set_iter (VO F.slot_set_iter hT uJ ?_ (F.args_set_iter_1 _));unfold Builtin.«frozenset.__iter__»;refine JX (m:=Builtin.Frozenset.slot0 "__iter__" ⟨[.ref a],[]⟩) (Ki ?_);unfold Builtin.Frozenset.sizeOf setEntries setDrawn setEpoch setsByText;refine JX (JX (JX (Qu ho hd fits (Ki (Ki ?_)))));refine JX (JX (Qu ho hd fits ?_));dsimp only;refine JX (JX (VN (Ki (Ki ?_))));split
 ·rename_i h;have h':(!(w.params.followText "set-order") && (!t.plain && decide (es.size > 1)))=true:=h;rw[Lr]at h';simp at h'
 ·refine JX (Ki ?_);refine JX (JX (Qu ho hd fits (Ki ?_)));unfold newFields;refine JX (UQ ?_ (by size_fits));exact Ki ⟨_,rfl,"set_iterator", _,⟨_,Ou _ rfl,rfl⟩,cB.lookup,hQ⟩
def wc {o:Obj} {Q:yad->Shared->Prop} (hh:A.handled=none) (ho:s.heap.get? a=some o) (hc:o.cls=.type "set") (hd:o.data=.set es ep t) (T:Tab t hs) (he:hs.length=es.size) (Lr:t.plain=true/\t.led=!w.params.followText "set-order") (hn:es.size<=1000)
  (hQ:∀s' (acc:yad),(∀b o,s.heap.get? b=some o->s'.heap.get? b=some o)->s'.gens=s.gens->s'.drawn=s.drawn->s'.os=s.os->s.heap.objs.size<=s'.heap.objs.size->acc=(de w a es ep).toList.map (·.2)->Q acc s'):wpAny (model prog w) A (collect (.ref a)) Q E s:=by
 unfold collect;have la:a<s.heap.objs.size:=LC ho;refine JX (wpAny_runValue (TF F.entry_proto_collect ?_));rw[Around.under_plainId F.plain_proto_collect _];show wpAny _ A.in1 (newList [] >>= fun l=>again (.builtin "list.__iadd__" ⟨[l,.ref a],[]⟩)) _ _ s;refine JX (UQ ?_);refine Ki ⟨plainId_quiet F.plain_list_iadd _,TF F.entry_list_iadd ?_⟩;rw[Around.under_plainId F.plain_list_iadd _];show wpAny _ A.in1 (Builtin.List.listExtendWith (.ref s.heap.objs.size) (.ref a) (.ref s.heap.objs.size)) _ _ _;generalize hH:s.heap.push {cls:=.type "list", data:=.seq ([]:yad).toArray}=H;have hHs:H.objs.size=s.heap.objs.size+1:=by rw[<- hH,Heap.size_push]
 have Ta:H.get? a=some o:=hH ▸ Mv _ ho;have hT:Shared.TypeIs {s with heap:=H} (.ref a) "set" := ⟨o,Ta,hc⟩;unfold Builtin.List.listExtendWith;refine JX (wpAny_typeOf hT ?_);have h1:Builtin.List.listSameRef (.ref s.heap.objs.size) (.ref a)=false:=by have:s.heap.objs.size≠a:=Nat.ne_of_gt la;simp[Builtin.List.listSameRef,this]
 have h2:(Value.type "set" == Value.type "list")=false:=by decide
 have h3:(Value.type "set" == Value.type "tuple")=false:=by decide
 simp only[h1,h2,h3,Bool.or_false,OM,if_false];refine JX (Cj Ta hc hd T he Lr.1 ?_);generalize Sd:H.push {cls:=.type "set_iterator", data:=.fields #[.int 0 0,.int 0 0,.ref a,.int (es.size:Nat) 0,.int (ep:Nat) 0]}=H2;have Vg:Shared.TypeIs {s with heap:=H2} (.ref a) "set" := ⟨o,Sd ▸ Mv _ Ta,hc⟩;refine JX (OO ?_);unfold Builtin.List.listLengthHint;refine JX (wpAny_specialOf Vg F.slot_set_len.lookup ?_)
 wp_delta
 refine JX (wpAny_isInstance (T := "set") (b:=true) Vg (by rw[isSubtype_type];kernel_rfl) ?_);show wpAny _ A.in1 (typeOf (Value.ref a) >>= _) _ _ _;refine JX (wpAny_typeOf Vg ?_);refine Ki ?_;rw[JU (by decide)];show wpAny _ A.in1 (rule "list.extend.makes-room" >>= fun _=>Builtin.List.listTouch (.ref s.heap.objs.size) >>= fun _ =>
  again (.builtin "list.extend.loop" ⟨[.ref s.heap.objs.size,.ref H.objs.size,.ref s.heap.objs.size],[]⟩)) _ _ _
 refine JX (wpAny_rule ?_);refine JX ?_;show wpAny _ A.in1 (updateSeq s.heap.objs.size (·.push .none) >>= fun _=>updateSeq s.heap.objs.size (·.pop)) _ _ _;have hS:H2.get? s.heap.objs.size=some {cls:=.type "list", data:=.seq ([]:yad).toArray}:=Sd ▸ Mv _ (hH ▸ Ou _ rfl);refine JX (wpAny_updateSeq hS rfl ?_);have Tb:=Tt (Obj.mapSeq (·.push Value.none)) hS rfl;refine wpAny_updateSeq (hz:=by seq_fits) Tb rfl ?_;have Xd:=Tt (Obj.mapSeq (·.pop)) Tb rfl;have Px:∀b o,b≠s.heap.objs.size->H2.get? b=some o->((H2.update s.heap.objs.size (Obj.mapSeq (·.push Value.none))).update s.heap.objs.size (Obj.mapSeq (·.pop))).get? b=some o :=
  fun b o hb e=>(Tq _ _ (Ne.symm hb)).trans ((Tq _ _ (Ne.symm hb)).trans e)
 have hI:H2.get? H.objs.size=some {cls:=.type "set_iterator", data:=.fields #[.int 0 0,.int 0 0,.ref a,.int (es.size:Nat) 0,.int (ep:Nat) 0]}:=Sd ▸ Ou _ rfl;have nSI:H.objs.size≠s.heap.objs.size:=by lia
 have naI:a≠H.objs.size:=Nf (by rw[hHs];exact VI la);have hSf:s.heap.objs.size ∉ [H.objs.size,a]:=fun hm=>by
  rcases Kr.mp hm with z|z
  ·exact nSI z.symm
  ·exact absurd (LQ.mp z) (Nat.ne_of_gt la)
 have W:=Bt (prog:=prog) (w:=w) (A:=A.in1) hh H.objs.size a naI hd T he Lr;refine Ki ⟨plainId_quiet F.plain_extend_loop _,codeAny_extend_loopS W.toS (by rw[sizeLine_eq];lia) _ hSf _ es.size 0 _ _ _ rfl (Mx _)
  ⟨⟨_,0,Px _ _ nSI hI,rfl,rfl,fun _=>x9 T.rise⟩,Px _ _ (Nf la) (Sd ▸ Mv _ Ta)⟩ Xd (ItemsOf.nil _) fun s' Xe c' hm hS' Se=>?_⟩
 show wpAny _ A (load s.heap.objs.size >>= _) _ _ s';refine JX (wpAny_load hS' ?_);have big:∀b o,s.heap.get? b=some o->s'.heap.get? b=some o:=fun b ob e=>by
  have lb:=LC e;refine hm.heap b ob (fun hb=>?_) (Px _ _ (Nf lb) (Sd ▸ Mv _ (hH ▸ Mv _ e)));rcases Kr.mp hb with z|z
  ·exact absurd lb (z ▸ Qw _)
  ·rw[LQ.mp z,hHs]at lb;exact absurd lb (Qx.mpr (Nat.le_succ _))
 refine Ki (hQ s' Xe.toList big hm.gens hm.drawn hm.os (QU (LC hS')) ?_);obtain⟨q1,q2⟩:=Se;apply List.ext_getElem?;intro j;rw[LX,M9,LX];by_cases lj:j<es.size
 ·have l1:j<Xe.size:=by lia
  obtain⟨x,ex,ev⟩:=q2 j _ (PN l1);rw[PN l1,ex];simp[ev]
 ·rw[XN (by lia),XN (by rw[jz];lia)];rfl
end
end SW
namespace SS
open PySem PySem.W PyProof.Rows
def good{α:Type}(r:Nat->Nat)(n:Nat)(G:α->Prop):KasT α->Prop
 |.ret a=>G a
 |.ask i j k=>i<n/\j<n/\good r n G (k (decide (r i<r j)))
section
variable{r:Nat->Nat}{n:Nat}
def v(r:Nat->Nat)(p:yap)(k:Nat):Nat:=r (p.getD k 0)
def S(r:Nat->Nat)(p:yap)(k:Nat):Prop:=∀i j,i<=j->j<k->v r p i<=v r p j
def D(r:Nat->Nat)(p:yap)(k:Nat):Prop:=∀i j,i<=j->j<k->v r p j<=v r p i
structure Ok(n:Nat)(p:yap):Prop where
 perm:p.Perm (List.toArray (List.range n))
end
end SS
namespace SW
open PySem PySem.SetTable ST PySem.W PyProof.Rows
def lexLt:yaf->yaf->Bool
 |_,[]=>false
 |[],_::_=>true
 |a::x,b::y=>if a=b then lexLt x y else decide (a<b)
theorem lg:∀x,lexLt x x=false
 |[]=>rfl
 |a::x=>by unfold lexLt;rw[JU rfl];exact lg x
theorem mV:∀x y z,lexLt x y=true->lexLt y z=true->lexLt x z=true
 |_,[],_,h,_=>by unfold lexLt at h;cases h
 |_,_::_,[],_,h=>by unfold lexLt at h;cases h
 |[],_::_,_::_,_,_=>rfl
 |a::x,b::y,c::z,h1,h2=>by
  unfold lexLt at h1 h2 ⊢;split at h1<;>split at h2
  ·rename_i e1 e2;rw[JU (e1.trans e2)];exact mV x y z h1 h2
  ·rename_i e1 e2;subst e1;rw[JT e2];exact h2
  ·rename_i e1 e2;subst e2;rw[JT e1];exact h1
  ·have q1:a<b:=by simpa using h1
   have q2:b<c:=by simpa using h2
   rw[JT (by lia)];simp
   lia
theorem ji:∀x y,lexLt x y=false->x=y∨lexLt y x=true
 |[],[],_=>.inl rfl
 |[],_::_,h=>by unfold lexLt at h;cases h
 |_::_,[],_=>.inr rfl
 |a::x,b::y,h=>by
  unfold lexLt at h ⊢;split at h
  ·rename_i e;subst e;rw[JU rfl];rcases ji x y h with z|z
   ·exact .inl (by rw[z])
   ·exact .inr z
  ·rename_i e;have q:¬a<b:=by simpa using h
   right
   rw[JT (fun z=>e z.symm)];simp
   lia
theorem um{α:Type}(p q:α->Bool):∀l:List α,(∀z∈l,p z=true->q z=true)->(∃z∈l,p z=false/\q z=true)->l.countP p<l.countP q
 |[],_,⟨_,h,_⟩=>by cases h
 |x::l,h,⟨z,hz,e1,e2⟩=>by
  rw[List.countP_cons,List.countP_cons];have le:l.countP p<=l.countP q:=List.countP_mono_left fun z hz=>h z (K0 _ hz)
  rcases Kr.mp hz with y|y
  ·subst y;rw[e1,e2];simp
   lia
  ·have ih:=um p q l (fun z hz=>h z (K0 _ hz)) ⟨z,y,e1,e2⟩;by_cases px:p x=true
   ·have:=h x MC px;simp[px,this]
    lia
   ·have px':p x=false:=by simpa using px
    rw[px'];cases q x with
    |true=>simp;lia
    |false=>simpa using ih
def rank(K:List (yaf))(x:yaf):Nat:=K.countP fun y=>lexLt y x
def xy{K:List (yaf)}{x y:yaf}(hx:x∈K)(hy:y∈K):decide (rank K x<rank K y)=lexLt x y:=by
 have up:∀a b,a∈K->lexLt a b=true->rank K a<rank K b:=fun a b ha h=>um _ _ K (fun z _ hz=>mV z a b hz h) ⟨a,ha,lg a,h⟩
 cases e:lexLt x y with
 |true=>simpa using up x y hx e
 |false =>
  rcases ji x y e with z|z
  ·subst z;simp
  ·have:=up y x hy z;simp
   lia
section
variable{prog:Program}{w:World}{A:Around}{E:yaa}{s:Shared}
def Hq{fin:Bool}{Q:Bool->Shared->Prop}:∀{k k':yaf} {us vs:yad} (i:Nat),PySem.ItemsAre (intKind prog w) k us->PySem.ItemsAre (intKind prog w) k' vs->fin=decide (k.length<k'.length)->Q (lexLt k k') s->KatLex prog w A b fin Q (us.zip vs) i s:=by
 intro k k' us vs i h
 induction h generalizing k' vs i with
 |nil =>
  intro h' ef q;refine kat_nil ?_;cases h' with
  |nil=>rw[ef];exact q
  |cons _ _=>rw[ef];exact q
 |@cons a u x us h1 t1 ih =>
  intro h' ef q;cases h' with
  |nil=>refine kat_nil ?_;rw[ef];exact q
  |@cons c u' y vs h2 t2 =>
   obtain⟨t,rfl⟩:=Value.isInt_shape h1;obtain⟨t',rfl⟩:=Value.isInt_shape h2;refine kat_cons (wpAny_eqBool_int ?_);by_cases e:a=c
   ·subst e;rw[show(a==a)=true by simp];refine kat_yes (ih (i+1) t2 ?_ ?_)
    ·rw[ef];simp
    ·unfold lexLt at q;rw[JU rfl]at q;exact q
   ·rw[show(a==c)=false by simp[e]];unfold lexLt at q;rw[JT e]at q;refine kat_no ?_;cases(b && i==0)with
    |true=>exact oneLt_int q
    |false=>exact kat_one _ _ (PySem.P.lt_int q)
def zL{Q:Bool->Shared->Prop}(hx:(TK prog w).is s.heap k x)(hy:(TK prog w).is s.heap k' y)(q:Q (lexLt k k') s):wpAny (model prog w) A (keyLt' (tuples' b) (.ref x) (.ref y)) Q E s:=by
 obtain⟨o,items,n,ho,hc,hd,hi⟩:=hx;obtain⟨o',Up,n',Nx,PR,Pd,Yl⟩:=hy;have len:∀{k:yaf} {us:yad},PySem.ItemsAre (intKind prog w) k us->k.length=us.length:=fun h=>by
  induction h with
  |nil=>rfl
  |cons _ _ ih=>simp[ih]
 refine kat_lt ho hd Nx Pd (Hq 0 hi Yl ?_ q);rw[len hi,len Yl,NU,NU]
theorem xK:∀{cs:yae} (K:Nat->yaf) (off:Nat),(∀(j:Nat) (c:Addr),cs[j]?=some c->(TK prog w).is s.heap (K (off+j)) c/\K (off+j) ≠ [])->∃fs,KatTups s.heap (cs.map Value.ref) fs/\fs.length=cs.length/\∀v∈fs,∃n t,v=Value.int n t
 |[],_,_,_=>⟨[],KatTups.nil,rfl,fun _ h=>by cases h⟩
 |c::cs,K,off,h=>by
  obtain⟨fs,t,l,hi⟩:=xK (cs:=cs) K (off+1) fun j c hj=>by have:=h (j+1) c hj;rw[show off+(j+1)=off+1+j by lia]at this;exact this
  obtain⟨⟨o,items,n,ho,hc,hd,hit⟩,ne⟩:=h 0 c rfl;rw[Nat.add_zero]at hit ne;generalize K off=k0 at hit ne;generalize hL:items.toList=L at hit;cases hit with
  |nil=>exact absurd rfl ne
  |@cons a u x us h1 t1 =>
   obtain⟨tk,rfl⟩:=Value.isInt_shape h1;refine⟨.int a tk::fs,KatTups.cons ho hc hd ?_ t,by simp[l],fun v hv=>?_⟩
   ·rw[<- LX,hL];rfl
   ·rcases Kr.mp hv with z|z
    ·exact⟨a,tk,z⟩
    ·exact hi v z
def wk{cs:yae}{K:Nat->yaf}{Q:SortKind->Shared->Prop}(LY:0<cs.length)(h:∀(j:Nat) (c:Addr),cs[j]?=some c->(TK prog w).is s.heap (K j) c/\K j ≠ [])(q:Q (tuples' true) s):wpAny (model prog w) A (keyKind' (cs.map Value.ref).toArray) Q E s:=by
 obtain⟨fs,t,l,hi⟩:=xK (s:=s) (cs:=cs) K 0 fun j c hj=>by rw[Pn];exact h j c hj
 refine kat_kind (T:=.type "int") t (by lia) (fun v hv=>?_) (by decide) q;obtain⟨n,tk,rfl⟩:=hi v hv;exact Looks.of_pure rfl
def vj{α β:Type}{f:α->β}{l m:List β}(h:l.Perm m):∀xs:List α,m=xs.map f->∃zs:List α,zs.Perm xs/\l=zs.map f:=by
 induction h with
 |nil=>intro xs e;exact⟨xs,UY _,e⟩
 |cons a _ ih =>
  intro xs e;cases xs with
  |nil=>cases e
  |cons x xs =>
   rw[K5]at e;injection e with e1 e2;obtain⟨zs,p,q⟩:=ih xs e2;exact⟨x::zs,p.cons x,by rw[K5,q,e1]⟩
 |swap a b l =>
  intro xs e
  match xs,e with
  |[],e=>cases e
  |[_],e=>simp at e
  |x::y::xs,e =>
   simp only[K5,OW]at e;obtain⟨e1,e2,e3⟩:=e;exact⟨y::x::xs,List.Perm.swap x y xs,by simp only[K5];rw[e1,e2,e3]⟩
 |trans _ _ Ym Vi =>
  intro xs e;obtain⟨zs,p,q⟩:=Vi xs e;obtain⟨zs',p',q'⟩:=Ym zs q;exact⟨zs',p'.trans p,q'⟩
end
end SW
namespace TS
open PySem PyProof.Rows
def gal:Bool->Keyed->Array Keyed->Nat->Nat->Nat->StateT SortSt Sem (Option Nat):=sortPriv% PySem.Builtin.gallop
def mLo:Array Keyed->Array Keyed->StateT SortSt Sem (Array Keyed):=sortPriv% PySem.Builtin.mergeLo
def mHi:Array Keyed->Array Keyed->StateT SortSt Sem (Array Keyed):=sortPriv% PySem.Builtin.mergeHi
def C5:Nat->StateT SortSt Sem Unit:=sortPriv% PySem.Builtin.setMinGallop
structure QG(M:Model)(A:Around)(E:yaa)(s:Shared)(r:Keyed->Nat)(Mem:Keyed->Prop)(k0:SortKind):Prop where
 lt:∀(x y:Keyed) (st:SortSt) (Q:Option Bool->SortSt->Prop),Mem x->Mem y->kindOf st=k0->Q (some (decide (r x<r y))) st->wpS M A E s (lt' x y) Q st
def Jo(B:Nat->Bool)(n:Nat):Prop:=∀i j,i<=j->j<n->B j=true->B i=true
structure Cut(B:Nat->Bool)(n k:Nat):Prop where
 le:k<=n
 lo:∀i,i<k->B i=true
 hi:∀i,k<=i->i<n->B i=false
section
variable{M:Model}{A:Around}{E:yaa}{s:Shared}{r:Keyed->Nat}{Mem:Keyed->Prop}{k0:SortKind}
def aV{arr:Array Keyed}{i:Nat}{x:Keyed}{Q:Keyed->SortSt->Prop}{st:SortSt}(h:arr[i]?=some x)(q:Q x st):wpS M A E s (elem' arr i) Q st:=by rw[elem'_eq,h];exact Kx q
def wpS_ltAt{st:SortSt}{i j:Nat}{x y:Keyed}{Q:Option Bool->SortSt->Prop}(C:QG M A E s r Mem k0)(hk:kindOf st=k0)(hi:(arrOf st)[i]?=some x)(hj:(arrOf st)[j]?=some y)(mx:Mem x)(my:Mem y)
  (h:Q (some (decide (r x<r y))) st):wpS M A E s (ltAt' i j) Q st:=by
 rw[ltAt'_eq];refine Kd (wpS_get ?_);show wpS _ _ _ _ (do let x←elem' (arrOf st) i;let y←elem' (arrOf st) j;lt' x y) Q st;exact Kd (aV hi (Kd (aV hj (C.lt x y st Q mx my hk h))))
def OT(r:Keyed->Nat)(left:Bool)(key x:Keyed):Bool:=if left=true then decide (r x<r key)else !decide (r key<r x)
def Ae{arr:Array Keyed}{base n hint:Nat}{st:SortSt}{B:Nat->Bool}{Q:Option Nat->SortSt->Prop}(C:QG M A E s r Mem k0)(hk:kindOf st=k0)(hh:hint<n)(mk:Mem key)
  (hB:∀i,i<n->∃x,arr[base+i]?=some x/\Mem x/\OT r left key x=B i) (mono:Jo B n) (h:∀k,Cut B n k->Q (some k) st):wpS M A E s (gal left key arr base n hint) Q st:=by
 have Yn:∀(i:Nat) (R:Option Bool->SortSt->Prop),i<n->R (some (B i)) st->wpS M A E s (do
   let x←elem' arr (base+i)
   if left=true then lt' x key else do
    let z←lt' key x
    pure (Option.map (fun x=>!x) z)) R st:=fun i R hi q=>by
  obtain⟨x,hx,mx,e⟩:=hB i hi;refine Kd (aV hx ?_);unfold OT at e;cases left with
  |true =>
   rw[JU rfl]at e ⊢;exact C.lt x key st R mx mk hk (by rw[e];exact q)
  |false =>
   rw[JT (by simp)]at e ⊢;exact Kd (C.lt key x st _ mk mx hk (Kx (by rw[<- e]at q;exact q)))
 refine Kd (Yn hint _ hh ?_);cases hb:B hint
 case' true =>
  refine Kd (Oy (OY (I:=fun x z st'=>st'=st/\∃l u,z=(none,l,u)/\hint+l<n/\B (hint+l)=true/\l<u/\x+1<=u)
   (Q:=fun z st'=>st'=st/\∃l u,z=(none,l,u)/\hint+l<n/\B (hint+l)=true/\l<u/\(n - hint<=u∨B (hint+u)=false)) ?_ ?_ ⟨rfl,0,1,rfl,hh,hb,by decide,by decide⟩) ?_)
  ·rintro x z st' _ hx ⟨rfl,l,u,rfl,a1,a2,a3,a4⟩;dsimp only;split
   ·rename_i c;exact Kx ⟨rfl,l,u,rfl,a1,a2,a3,.inl c⟩
   ·rename_i c;refine Kd (Yn (hint+u) _ (by lia) ?_);dsimp only;cases hc:B (hint+u)with
    |false =>
     rw[JU (by rfl)];exact Kx ⟨rfl,l,u,rfl,a1,a2,a3,.inr hc⟩
    |true =>
     rw[JT (by simp)];exact Kx ⟨rfl,_,_,rfl,by lia,hc,by lia,by lia⟩
  ·rintro z st' ⟨rfl,l,u,rfl,a1,a2,a3,a4⟩;exact⟨rfl,l,u,rfl,a1,a2,a3,.inl (by lia)⟩
  rintro z st' ⟨e0,l,u,rfl,a1,a2,a3,a4⟩;rw[e0];dsimp only;have h1:hint+min u (n - hint)<=n:=by lia
  have h2:∀i,i<hint+l+1->i<n->B i=true:=fun i hi hn=>mono i (hint+l) (by lia) a1 a2
  have h3:∀i,hint+min u (n - hint)<=i->i<n->B i=false:=fun i hi hn=>by
   rcases a4 with c|c
   ·lia
   ·cases hc:B i with
    |false=>rfl
    |true=>rw[mono _ i (by lia) hn hc]at c;cases c
  have h4:hint+l+1<=hint+min u (n - hint):=by lia
  clear a1 a2 a3 a4;generalize hint+l+1=lo at h2 h4 ⊢;generalize hint+min u (n - hint)=hi at h1 h3 h4 ⊢
 case' false =>
  refine Kd (Oy (OY (I:=fun x z st'=>st'=st/\∃l u,z=(none,l,u)/\l<=hint/\B (hint - l)=false/\l<u/\x+1<=u)
   (Q:=fun z st'=>st'=st/\∃l u,z=(none,l,u)/\l<=hint/\B (hint - l)=false/\l<u/\(hint+1<=u∨(u<=hint/\B (hint - u)=true))) ?_ ?_ ⟨rfl,0,1,rfl,by lia,hb,by decide,by decide⟩) ?_)
  ·rintro x z st' _ hx ⟨rfl,l,u,rfl,a1,a2,a3,a4⟩;dsimp only;split
   ·rename_i c;exact Kx ⟨rfl,l,u,rfl,a1,a2,a3,.inl c⟩
   ·rename_i c;refine Kd (Yn (hint - u) _ (by lia) ?_);dsimp only;cases hc:B (hint - u)with
    |true =>
     rw[JU rfl];exact Kx ⟨rfl,l,u,rfl,a1,a2,a3,.inr ⟨by lia,hc⟩⟩
    |false =>
     rw[JT (by simp)];exact Kx ⟨rfl,_,_,rfl,by lia,hc,by lia,by lia⟩
  ·rintro z st' ⟨rfl,l,u,rfl,a1,a2,a3,a4⟩;exact⟨rfl,l,u,rfl,a1,a2,a3,.inl (by lia)⟩
  rintro z st' ⟨e0,l,u,rfl,a1,a2,a3,a4⟩;rw[e0];dsimp only;have h1:hint - l<=n:=by lia
  have h2:∀i,i<hint+1 - min u (hint+1)->i<n->B i=true:=fun i hi hn=>by
   rcases a4 with c|⟨c,d⟩
   ·lia
   ·exact mono i (hint - u) (by lia) (by lia) d
  have h3:∀i,hint - l<=i->i<n->B i=false:=fun i hi hn=>by
   cases hc:B i with
   |false=>rfl
   |true=>rw[mono _ i (by lia) hn hc]at a2;cases a2
  have h4:hint+1 - min u (hint+1)<=hint - l:=by lia
  clear a1 a2 a3 a4;generalize hint+1 - min u (hint+1)=lo at h2 h4 ⊢;generalize hint - l=hi at h1 h3 h4 ⊢
 all_goals
  refine Kd (Oy (OY (I:=fun x z st'=>st'=st/\∃l u,z=(none,l,u)/\u<=n/\(∀i,i<l->i<n->B i=true)/\(∀i,u<=i->i<n->B i=false)/\l<=u/\u - l<=n - x)
   (Q:=fun z st'=>st'=st/\∃l u,z=(none,l,u)/\Cut B n u) ?_ ?_ ⟨rfl,lo,hi,rfl,h1,h2,h3,h4,by lia⟩) ?_)
  ·rintro x z st' _ hx ⟨rfl,l,u,rfl,a1,a2,a3,a4,a5⟩;dsimp only;split
   ·exact Kx ⟨rfl,l,u,rfl,a1,fun i hi=>a2 i (by lia) (by lia),a3⟩
   ·refine Kd (Yn (l+(u - l) / 2) _ (by lia) ?_);dsimp only;cases hb:B (l+(u - l) / 2)with
    |true =>
     rw[JU rfl];exact Kx ⟨rfl,_,_,rfl,a1,fun i hi hn=>mono i (l+(u - l) / 2) (by lia) (by lia) hb,a3,by lia,by lia⟩
    |false =>
     rw[JT (by simp)];refine Kx ⟨rfl,_,_,rfl,by lia,a2,fun i hi hn=>?_,by lia,by lia⟩;cases hc:B i with
     |false=>rfl
     |true=>rw[mono _ i hi hn hc]at hb;cases hb
  ·rintro z st' ⟨rfl,l,u,rfl,a1,a2,a3,a4,a5⟩;exact⟨rfl,l,u,rfl,a1,fun i hi=>a2 i (by lia) (by lia),a3⟩
  ·rintro z st' ⟨rfl,l,u,rfl,c⟩;exact Kx (h _ c)
def fF{arr:Array Keyed}{base n hint:Nat}{st:SortSt}{Q:Option Nat->SortSt->Prop}(C:QG M A E s r Mem k0)(hk:kindOf st=k0)(hh:hint<n)(mk:Mem key){g:List Keyed}
  (hg:g.length=n) (ha:∀i,i<n->arr[base+i]?=g[i]?) (hm:∀x∈g,Mem x) (hs:g.Pairwise fun x y=>r x<=r y)
  (h:∀k,k<=n->(∀x∈g.take k,OT r left key x=true)->(∀x∈g.drop k,OT r left key x=false)->Q (some k) st):wpS M A E s (gal left key arr base n hint) Q st:=by
 have get:∀i,i<n->∃x,g[i]?=some x/\x∈g:=fun i hi=>⟨g[i]'(by lia),LH (by lia),P9 _⟩
 refine Ae (B:=fun i=>match g[i]? with|some x=>OT r left key x|none=>false) C hk hh mk (fun i hi=>?_) (fun i j My hj hb=>?_) fun k c=>h k c.le (fun x hx=>?_) fun x hx=>?_
 ·obtain⟨x,e,m⟩:=get i hi;exact⟨x,by rw[ha i hi];exact e,hm x m,by rw[e]⟩
 ·dsimp only at hb ⊢;obtain⟨x,e,_⟩:=get i (by lia);obtain⟨y,f,_⟩:=get j hj;rw[e];rw[f]at hb;dsimp only at hb ⊢;by_cases c:i=j
  ·subst c;rw[e]at f;cases f;exact hb
  ·have lt:r x<=r y:=by
    obtain⟨h1,rfl⟩:=MZ.mp e;obtain⟨h2,rfl⟩:=MZ.mp f;exact QO.mp hs i j h1 h2 (by lia)
   unfold OT at hb ⊢;cases left with
   |true =>
    rw[JU rfl]at hb ⊢;have:=Nd hb;exact Mb (by lia)
   |false =>
    rw[JT (by simp)]at hb ⊢;have:¬r key<r y:=by simpa using hb
    simp
    lia
 ·obtain⟨i,hi,e⟩:=List.mem_take_iff_getElem.mp hx;have:=c.lo i (by lia);rw[LH (by lia)]at this;rw[<- e];exact this
 ·obtain⟨i,hi⟩:=List.mem_iff_getElem?.mp hx;rw[UM]at hi;obtain⟨h1,_⟩:=MZ.mp hi;have:=c.hi (k+i) (by lia) (by lia);rw[hi]at this;exact this
end
structure MI(R:Keyed->Keyed->Prop)(T o a b:List Keyed):Prop where
 p:(o++(a++b)).Perm T
 so:o.Pairwise R
 sa:a.Pairwise R
 sb:b.Pairwise R
 oa:∀x∈o,∀y∈a,R x y
 ob:∀x∈o,∀y∈b,R x y
section
variable{R:Keyed->Keyed->Prop}{T o a b:List Keyed}
def MI.left{a1 a2:List Keyed}(h:MI R T o (a1++a2) b)(q:∀x∈a1,∀y∈b,R x y):MI R T (o++a1) a2 b where
 p:=by have:=h.p;rw[Nt]at this;rw[Nt];exact this
 so:=Qs.mpr ⟨h.so,(Qs.mp h.sa).1,fun x hx y hy=>h.oa x hx y (Ob _ hy)⟩
 sa:=(Qs.mp h.sa).2.1
 sb:=h.sb
 oa:=fun x hx y hy=>by
  rcases KR.mp hx with c|c
  ·exact h.oa x c y (MO _ hy)
  ·exact(Qs.mp h.sa).2.2 x c y hy
 ob:=fun x hx y hy=>by
  rcases KR.mp hx with c|c
  ·exact h.ob x c y hy
  ·exact q x c y hy
def MI.swap(h:MI R T o a b):MI R T o b a:=⟨(List.Perm.append_left _ List.perm_append_comm).trans h.p,h.so,h.sb,h.sa,h.ob,h.oa⟩
def MI.right{b1 b2:List Keyed}(h:MI R T o a (b1++b2))(q:∀y∈b1,∀x∈a,R y x):MI R T (o++b1) a b2:=(h.swap.left q).swap
def MI.last(h:MI R T o a b)(q:∀y∈b,∀x∈a,R y x):(o++b++a).Pairwise R/\(o++b++a).Perm T:=by
 have h':MI R T o a (b++[]):=by rw[Pa];exact h
 have m:=h'.right q;refine⟨Qs.mpr ⟨m.so,m.sa,m.oa⟩,?_⟩;have:=m.p;rw[Pa]at this;exact this
def MI.done(h:MI R T o a b)(q:a=[]∨b=[]):(o++a++b).Pairwise R/\(o++a++b).Perm T:=h.swap.last fun x hx y hy=>by
 rcases q with q|q
 ·rw[q]at hx;cases hx
 ·rw[q]at hy;cases hy
def MI.start(h:a.Pairwise R)(h':b.Pairwise R):MI R (a++b) [] a b:=⟨UY _,.nil,h,h',fun _ z=>(by cases z),fun _ z=>(by cases z)⟩
end
structure bF(st st':SortSt):Prop where
 k:kindOf st'=kindOf st
 a:arrOf st'=arrOf st
 p:pendingOf st'=pendingOf st
 f:failedOf st'=failedOf st
def bF.refl(st:SortSt):bF st st:=⟨rfl,rfl,rfl,rfl⟩
section
variable{M:Model}{A:Around}{E:yaa}{s:Shared}
def kJ{st Vj:SortSt}{Q:Unit->SortSt->Prop}(h:bF Vj st)(q:∀st',bF Vj st'->Q () st'):wpS M A E s (C5 g) Q st:=by show wpS M A E s (modify fun st=>SortSt.mk' (kindOf st) (arrOf st) (pendingOf st) g (failedOf st)) Q st;exact RE (q _ ⟨h.k,h.a,h.p,h.f⟩)
end
section
variable{M:Model}{A:Around}{E:yaa}{s:Shared}{r:Keyed->Nat}{Mem:Keyed->Prop}{k0:SortKind}
def aC{σ α:Type}{c:Prop} [Decidable c] {x y:StateT σ Sem α}{Q:α->σ->Prop}{st:σ}(h1:c->wpS M A E s x Q st)(h2:¬c->wpS M A E s y Q st):wpS M A E s (if c then x else y) Q st:=by
 by_cases h:c
 ·rw[JU h];exact h1 h
 ·rw[JT h];exact h2 h
def cX{l:List Keyed}{i:Nat}(h:i<l.length):∃x,l[i]?=some x/\l.drop i=x::l.drop (i+1)/\x∈l:=⟨l[i],LH h,RP h,P9 h⟩
def jE{l:List Keyed}{x:Keyed}(hs:(l.drop i).Pairwise fun x y=>r x<=r y)(e:l.drop i=x::l.drop (i+1)):∀y∈l.drop i,r x<=r y:=fun y hy=>by
 rw[e]at hs hy;rcases Kr.mp hy with c|c
 ·rw[c];exact KO _
 ·exact(NV.mp hs).1 y c
section
variable{R:Keyed->Keyed->Prop}{T X:List Keyed}{a o:Array Keyed}{i:Nat}
def MI.pA{w:Keyed}(h:MI R T o.toList (a.toList.drop i) X)(e:a.toList.drop i=w::a.toList.drop (i+1))(q:∀y∈X,R w y):MI R T (o.push w).toList (a.toList.drop (i+1)) X:=by rw[e]at h;rw[Tw];exact h.left (a1:=[w]) fun z hz x hx=>by rw[LQ.mp hz];exact q x hx
def MI.pB{w:Keyed}(h:MI R T o.toList X (a.toList.drop i))(e:a.toList.drop i=w::a.toList.drop (i+1))(q:∀y∈X,R w y):MI R T (o.push w).toList X (a.toList.drop (i+1)):=(h.swap.pA e q).swap
def MI.eA(h:MI R T o.toList (a.toList.drop i) X)(k:Nat)(q:∀x∈(a.toList.drop i).take k,∀y∈X,R x y):MI R T (o++a.extract i (i+k)).toList (a.toList.drop (i+k)) X:=by
 have e:a.toList.drop i=(a.toList.drop i).take k++a.toList.drop (i+k):=by rw[<- VR,OL]
 have t:(a.extract i (i+k)).toList=(a.toList.drop i).take k:=by rw[Rz,Vv,UI]
 rw[Sz,t];rw[e]at h;exact h.left q
def MI.eB(h:MI R T o.toList X (a.toList.drop i))(k:Nat)(q:∀x∈(a.toList.drop i).take k,∀y∈X,R x y):MI R T (o++a.extract i (i+k)).toList X (a.toList.drop (i+k)):=(h.swap.eA k q).swap
end
structure Mid(r:Keyed->Nat)(a b:Array Keyed)(o:Array Keyed)(i j:Nat):Prop where
 m:MI (fun x y=>r x<=r y) (a.toList++b.toList) o.toList (a.toList.drop i) (b.toList.drop j)
 hi:i+1<a.size
 hj:j<b.size
def Mid.sz(h:Mid r a b o i j):i+j<a.size+b.size:=by have:=h.hi;have:=h.hj;lia
def Res(r:Keyed->Nat)(T:List Keyed)(z:Array Keyed):Prop:=z.toList.Pairwise (fun x y=>r x<=r y)/\z.toList.Perm T
def Cu{a b:Array Keyed}{st:SortSt}{Q:Array Keyed->SortSt->Prop}(C:QG M A E s r Mem k0)(hk:kindOf st=k0)(ma:∀x∈a.toList,Mem x)(mb:∀x∈b.toList,Mem x)(sa:a.toList.Pairwise fun x y=>r x<=r y)(sb:b.toList.Pairwise fun x y=>r x<=r y)
  (a0:0<a.size) (b0:0<b.size) (Rk:∀x,a.toList.drop (a.size - 1)=[x]->∀y∈b.toList,r y<=r x) (PF:∀y,b[0]?=some y->∀x∈a.toList,r y<=r x)
  (h:∀z st',Res r (a.toList++b.toList) z->bF st st'->Q z st'):wpS M A E s (mLo a b) Q st:=by
 have la:a.toList.length=a.size:=rfl;have lb:b.toList.length=b.size:=rfl;have fin:∀(o:Array Keyed) (i j:Nat),MI (fun x y=>r x<=r y) (a.toList++b.toList) o.toList (a.toList.drop i) (b.toList.drop j)->(a.size<=i∨b.size<=j)->Res r (a.toList++b.toList) (o++a.extract i a.size++b.extract j b.size):=fun o i j m q=>by have:=m.done (q.imp (fun q=>List.drop_eq_nil_of_le (by lia)) fun q=>List.drop_eq_nil_of_le (by lia));unfold Res;rw[Sz,Sz,Rz,Rz,Vv,Vv,Pg (by rw[ON];lia),Pg (by rw[ON];lia)];exact this
 have lst:∀(o:Array Keyed) (i j:Nat),MI (fun x y=>r x<=r y) (a.toList++b.toList) o.toList (a.toList.drop i) (b.toList.drop j)->i+1=a.size->Res r (a.toList++b.toList) (o++b.extract j b.size++a.extract i a.size):=fun o i j m q=>by
  obtain⟨x,_,e,_⟩:=cX (l:=a.toList) (i:=i) (by lia);rw[show a.toList.drop (i+1)=[]from List.drop_eq_nil_of_le (by lia)]at e;have:=m.last fun y hy z hz=>by rw[e,LQ]at hz;rw[hz];exact Rk x (by rw[show a.size - 1=i by lia];exact e) y (Sx hy)
  unfold Res;rw[Sz,Sz,Rz,Rz,Vv,Vv,Pg (by rw[ON];lia),Pg (by rw[ON];lia)];exact this
 obtain⟨y0,Tc,Vk,Z6⟩:=cX (l:=b.toList) (i:=0) b0;have g0:b[0]?=some y0:=by rw[<- LX];exact Tc
 have m0:MI (fun x y=>r x<=r y) (a.toList++b.toList) (#[y0]:Array Keyed).toList (a.toList.drop 0) (b.toList.drop 1):=by
  have m:=MI.start sa sb;rw[show b.toList=[y0]++b.toList.drop 1 from Vk]at m;have:=m.right fun y hy x hx=>by rw[LQ.mp hy];exact PF y0 g0 x hx
  rw[<- show b.toList=[y0]++b.toList.drop 1 from Vk]at this;exact this
 refine Kd (wpS_lift (wpAny_rule ⟨rfl,?_⟩));refine Kd (aV g0 ?_);refine aC (fun c=>Kx (h _ _ (fin _ 0 1 m0 (.inr (by have:=beq_iff_eq.mp c;lia))) (bF.refl _))) fun c1=>?_
 refine aC (fun c=>Kx (h _ _ (lst _ 0 1 m0 (beq_iff_eq.mp c)) (bF.refl _))) fun c2=>?_
 have c1':1≠b.size:=fun e=>c1 (beq_iff_eq.mpr e)
 have Uq:0+1≠a.size:=fun e=>c2 (beq_iff_eq.mpr e)
 have Ur:Mid r a b #[y0] 0 1:=⟨m0,by lia,by lia⟩;refine Kd (wpS_get ?_);refine Kd (Oy (OY (I:=fun x z st'=>bF st st'/\∃o i j g,z=(none,o,i,j,g)/\Mid r a b o i j/\x<=i+j) (Q:=fun z st'=>bF st st'/\∃w q,z=(some w,q)/\Res r (a.toList++b.toList) w) ?_ ?_ ⟨bF.refl _,_,_,_,_,rfl,Ur,by lia⟩) ?_)
 ·rintro x z Yo _ hx ⟨L1,o,i,j,g,rfl,md,hp⟩;refine Kd (Oy (OY (I:=fun x z st'=>bF st st'/\∃o i' j' u v,z=(none,o,i',j',u,v)/\Mid r a b o i' j'/\i+j+x<=i'+j') (Q:=fun z st'=>bF st st'/\((∃w q,z=(some w,q)/\Res r (a.toList++b.toList) w)∨∃ o i' j' u v,z=(none,o,i',j',u,v)/\Mid r a b o i' j'/\i+j+1<=i'+j')) ?_ ?_ ⟨L1,o,i,j,_,_,rfl,md,by lia⟩) ?_)
  ·clear md hp hx;rintro x z Kb _ hx ⟨L2,o,i',j',u,v,rfl,md,hp⟩;obtain⟨y,hy,ey,my⟩:=cX (l:=b.toList) (i:=j') md.hj;obtain⟨w,hw,ew,mw⟩:=cX (l:=a.toList) (i:=i') (by have:=md.hi;lia);rw[LX]at hy hw;refine Kd (aV hy (Kd (aV hw (Kd (C.lt _ _ _ _ (mb y my) (ma w mw) (L2.k.trans hk) ?_)))));have hb:=jE md.m.sb ey;have Sn:=jE md.m.sa ew;refine aC (fun c=>?_) fun c=>?_
   ·have c':=Nd c;refine Kd (aV hy ?_);have m':MI (fun x y=>r x<=r y) (a.toList++b.toList) (o.push y).toList (a.toList.drop i') (b.toList.drop (j'+1)):=by
     have m:=md.m;rw[ey]at m;rw[Tw];exact m.right (b1:=[y]) fun z hz x hx=>by rw[LQ.mp hz];exact LZ (QU c') (Sn x hx)
    refine aC (fun c2=>Kx ⟨L2,.inl ⟨_,_,rfl,fin _ _ _ m' (.inr (by have:=beq_iff_eq.mp c2;lia))⟩⟩) fun c2=>?_
    ·have Uq:j'+1≠b.size:=fun e=>c2 (beq_iff_eq.mpr e)
     have N2:Mid r a b (o.push y) i' (j'+1):=⟨m',md.hi,by have:=md.hj;lia⟩;exact aC (fun _=>Kx ⟨L2,.inr ⟨o.push y,i',j'+1,_,_,rfl,N2,by lia⟩⟩) fun _=>Kx ⟨L2,o.push y,i',j'+1,_,_,rfl,N2,by lia⟩
   ·have c':¬r y<r w:=fun e=>c (Mb e)
    refine Kd (aV hw ?_);have m':MI (fun x y=>r x<=r y) (a.toList++b.toList) (o.push w).toList (a.toList.drop (i'+1)) (b.toList.drop j'):=by have m:=md.m;rw[ew]at m;rw[Tw];exact m.left (a1:=[w]) fun z hz x hx=>by rw[LQ.mp hz];exact LZ (Qx.mp c') (hb x hx)
    refine aC (fun c2=>Kx ⟨L2,.inl ⟨_,_,rfl,lst _ _ _ m' (beq_iff_eq.mp c2)⟩⟩) fun c2=>?_
    ·have Uq:i'+1+1≠a.size:=fun e=>c2 (beq_iff_eq.mpr e)
     have N2:Mid r a b (o.push w) (i'+1) j':=⟨m',by have:=md.hi;lia,md.hj⟩;exact aC (fun _=>Kx ⟨L2,.inr ⟨o.push w,i'+1,j',_,_,rfl,N2,by lia⟩⟩) fun _=>Kx ⟨L2,o.push w,i'+1,j',_,_,rfl,N2,by lia⟩
  ·rintro z Kb ⟨L2,o,i',j',u,v,rfl,md,hp⟩;have:=md.sz
   lia
  ·rintro z Kb ⟨L2,(⟨w,q,rfl,hr⟩| ⟨o',i',j',u,v,rfl,N2,S8⟩)⟩
   ·exact Kx ⟨L2,_,_,rfl,hr⟩
   ·refine Kd (wpS_lift (wpAny_rule ⟨rfl,?_⟩));refine Kd (Oy (OY (I:=fun x z st'=>bF st st'/\∃o NI NJ g u v,z=(none,o,NI,NJ,g,u,v)/\Mid r a b o NI NJ/\i'+j'+x<=NI+NJ) (Q:=fun z st'=>bF st st'/\((∃w q,z=(some w,q)/\Res r (a.toList++b.toList) w)∨∃ o NI NJ g u v,z=(none,o,NI,NJ,g,u,v)/\Mid r a b o NI NJ/\i'+j'<=NI+NJ)) ?_ ?_ ⟨L2,o',i',j',_,_,_,rfl,N2,by lia⟩) ?_)
    ·clear N2 S8;rintro x z Ni _ hx3 ⟨L3,o,i2,j2,g2,u2,v2,rfl,md,X5⟩;obtain⟨y,hy,ey,my⟩:=cX (l:=b.toList) (i:=j2) md.hj;rw[LX]at hy;have both:∀g3:Nat,wpS M A E s (C5 g3) (fun _ Lk=>bF st Lk) Ni:=fun g3=>kJ L3 fun Lk L4=>L4
     have hb:=jE md.m.sb ey;have Us:=md.hi;have Xf:=md.hj;refine aC (fun _=>?_) fun _=>?_
     all_goals
      refine Kd (Oy (both _) fun _ Lk L4=>?_);refine Kd (aV hy (Kd (fF C (L4.k.trans hk) (show 0<a.size - i2 by lia) (mb y my) (g:=a.toList.drop i2) (by rw[ON];rfl) (fun n hn=>by rw[UM,LX]) (fun x hx=>ma x (Sx hx)) md.m.sa fun k Ve O2 QH=>?_)));have So:k<=a.size - i2:=Ve;have lo:∀x∈(a.toList.drop i2).take k,r x<=r y:=fun x hx=>by have:=O2 x hx;simpa [OT]using this
      have up:∀x∈a.toList.drop (i2+k),r y<=r x:=fun x hx=>by
       rw[<- VR]at hx;have:=QH x hx;simp[OT]at this
       lia
      refine aC (fun ck=>?_) fun ck=>?_
      case' refine_1 =>
       have hm:=md.m.eA k fun x hx z hz=>LZ (lo x hx) (hb z hz)
       have Sq:=up;have hle:i2<=i2+k:=by lia
       refine aC (fun c3=>Kx ⟨L4,.inl ⟨_,_,rfl,lst _ _ _ hm (beq_iff_eq.mp c3)⟩⟩) fun c3=>?_
       refine aC (fun c4=>Kx ⟨L4,.inl ⟨_,_,rfl,fin _ _ _ hm (.inl (RU (beq_iff_eq.mp c4).symm))⟩⟩) fun c4=>?_
       have h3:i2+k+1<a.size:=by
        have:i2+k+1≠a.size:=fun e=>c3 (beq_iff_eq.mpr e)
        have:i2+k≠a.size:=fun e=>c4 (beq_iff_eq.mpr e)
        lia
      case' refine_2 =>
       have Ut:k=0:=by lia
       subst Ut;have hm:=md.m;have Sq:=up;have hle:i2<=i2+0:=by lia
       have h3:i2+0+1<a.size:=Us
      all_goals
       refine Kd (aV hy ?_);have m1:=hm.pB ey Sq;refine aC (fun c=>Kx ⟨L4,.inl ⟨_,_,rfl,fin _ _ _ m1 (.inr (RU (beq_iff_eq.mp c).symm))⟩⟩) fun c=>?_
       have c':j2+1≠b.size:=fun e=>c (beq_iff_eq.mpr e)
       obtain⟨w,hw,ew,mw⟩:=cX (l:=a.toList) (Tz h3);rw[LX]at hw;refine Kd (aV hw (Kd (fF C (L4.k.trans hk) (show 0<b.size - (j2+1)by lia) (ma w mw) (g:=b.toList.drop (j2+1)) (by rw[ON];rfl) (fun n hn=>by rw[UM,LX]) (fun x hx=>mb x (Sx hx)) m1.sb fun k2 Xg Rl Rm=>?_)));have Sn:=jE m1.sa ew;have Uu:k2<=b.size - (j2+1):=Xg;have Uv:∀x∈(b.toList.drop (j2+1)).take k2,r x<=r w:=fun x hx=>by
        have:=Rl x hx;simp[OT]at this
        lia
       have Sm:∀x∈b.toList.drop (j2+1+k2),r w<=r x:=fun x hx=>by rw[<- VR]at hx;have:=Rm x hx;simpa [OT]using this
       refine aC (fun Yp=>?_) fun Yp=>?_
       case' refine_1 =>
        have QI:=m1.eB k2 fun x hx z hz=>LZ (Uv x hx) (Sn z hz)
        refine aC (fun c5=>Kx ⟨L4,.inl ⟨_,_,rfl,fin _ _ _ QI (.inr (RU (beq_iff_eq.mp c5).symm))⟩⟩) fun c5=>?_
        have Xh:j2+1+k2<b.size:=by
         have:j2+1+k2≠b.size:=fun e=>c5 (beq_iff_eq.mpr e)
         lia
       case' refine_2 =>
        have Ut:k2=0:=by lia
        subst Ut;have QI:=m1;have Xh:j2+1+0<b.size:=by lia
       all_goals
        refine Kd (aV hw ?_);have m3:=QI.pA ew Sm;refine aC (fun c6=>Kx ⟨L4,.inl ⟨_,_,rfl,lst _ _ _ m3 (beq_iff_eq.mp c6)⟩⟩) fun c6=>?_
        have Xi:Mid r a b _ _ _:=⟨m3,Nat.lt_of_le_of_ne h3 fun e=>c6 (beq_iff_eq.mpr e),Xh⟩;exact aC (fun _=>Kx ⟨L4,.inr ⟨_,_,_,_,_,_,rfl,Xi,by(try dsimp only);lia⟩⟩) fun _=>Kx ⟨L4,_,_,_,_,_,_,rfl,Xi,by(try dsimp only);lia⟩
    ·rintro z Ni ⟨L3,o,NI,NJ,g,u,v,rfl,md,hp⟩;exact⟨L3,.inr ⟨o,NI,NJ,_,_,_,rfl,md,by lia⟩⟩
    ·rintro z Ni ⟨L3,(⟨w,q,rfl,hr⟩| ⟨o',NI,NJ,g,u,v,rfl,N2,S8⟩)⟩
     ·exact Kx ⟨L3,_,_,rfl,hr⟩
     ·exact Kd (kJ L3 fun Lk L4=>Kx ⟨L4,o',NI,NJ,_,rfl,N2,by lia⟩)
 ·rintro z st' ⟨L,o,i,j,g,rfl,md,hp⟩;have:=md.sz
  lia
 ·rintro z st' ⟨L,w,q,rfl,hr⟩;exact Kx (h _ _ hr L)
def fW{l:List Keyed}{n:Nat}(h0:0<n)(h:n<=l.length):∃x,l[n - 1]?=some x/\(l.take n).reverse=x::(l.take (n - 1)).reverse/\x∈l:=by obtain⟨m,rfl⟩:∃m,n=m+1:=⟨n - 1,by lia⟩;refine⟨l[m]'(by lia),LH (by lia),?_,P9 _⟩;rw[List.take_succ_eq_append_getElem (by lia),UK];rfl
def jD{l:List Keyed}{x:Keyed}(hs:((l.take n).reverse).Pairwise fun x y=>r y<=r x)(e:(l.take n).reverse=x::(l.take (n - 1)).reverse):∀y∈(l.take n).reverse,r y<=r x:=fun y hy=>by
 rw[e]at hs hy;rcases Kr.mp hy with c|c
 ·rw[c];exact KO _
 ·exact(NV.mp hs).1 y c
def ze{l:List Keyed}(h:l.reverse.Pairwise fun x y=>r y<=r x):l.Pairwise fun x y=>r x<=r y:=VB.mp h
def qE{l:List Keyed}(h:l.Pairwise fun x y=>r x<=r y):l.reverse.Pairwise fun x y=>r y<=r x:=VB.mpr h
section
variable{R:Keyed->Keyed->Prop}{T X:List Keyed}{a o:Array Keyed}{n:Nat}
def MI.qA{w:Keyed}(h:MI R T o.toList (a.toList.take n).reverse X)(e:(a.toList.take n).reverse=w::(a.toList.take (n - 1)).reverse)(q:∀y∈X,R w y):MI R T (o.push w).toList (a.toList.take (n - 1)).reverse X:=by rw[e]at h;rw[Tw];exact h.left (a1:=[w]) fun z hz x hx=>by rw[LQ.mp hz];exact q x hx
def MI.qB{w:Keyed}(h:MI R T o.toList X (a.toList.take n).reverse)(e:(a.toList.take n).reverse=w::(a.toList.take (n - 1)).reverse)(q:∀y∈X,R w y):MI R T (o.push w).toList X (a.toList.take (n - 1)).reverse:=(h.swap.qA e q).swap
def MI.fA(h:MI R T o.toList (a.toList.take n).reverse X){k:Nat}(hk:k<=n)(q:∀x∈(a.toList.take n).drop k,∀y∈X,R x y):MI R T (o++(a.extract k n).reverse).toList (a.toList.take k).reverse X:=by
 have e:(a.toList.take n).reverse=((a.toList.take n).drop k).reverse++(a.toList.take k).reverse:=by rw[<- UK];congr 1;have:=OL k (a.toList.take n);rw[List.take_take,Qa hk]at this;exact this.symm
 have t:(a.extract k n).reverse.toList=((a.toList.take n).drop k).reverse:=by rw[Array.toList_reverse,Rz,List.extract_eq_drop_take,List.drop_take]
 rw[Sz,t];rw[e]at h;exact h.left fun x hx=>q x (Qv.mp hx)
def MI.fB(h:MI R T o.toList X (a.toList.take n).reverse){k:Nat}(hk:k<=n)(q:∀x∈(a.toList.take n).drop k,∀y∈X,R x y):MI R T (o++(a.extract k n).reverse).toList X (a.toList.take k).reverse:=(h.swap.fA hk q).swap
end
structure Mir(r:Keyed->Nat)(a b:Array Keyed)(o:Array Keyed)(i j:Nat):Prop where
 m:MI (fun x y=>r y<=r x) (a.toList++b.toList) o.toList (a.toList.take i).reverse (b.toList.take j).reverse
 h0:0<i
 hi:i<=a.size
 h1:1<j
 hj:j<=b.size
def Ct{a b:Array Keyed}{st:SortSt}{Q:Array Keyed->SortSt->Prop}(C:QG M A E s r Mem k0)(hk:kindOf st=k0)(ma:∀x∈a.toList,Mem x)(mb:∀x∈b.toList,Mem x)(sa:a.toList.Pairwise fun x y=>r x<=r y)(sb:b.toList.Pairwise fun x y=>r x<=r y)
  (a0:0<a.size) (b0:0<b.size) (Rk:∀x,a[a.size - 1]?=some x->∀y∈b.toList,r y<=r x) (PF:∀y,b.toList.take 1=[y]->∀x∈a.toList,r y<=r x)
  (h:∀z st',Res r (a.toList++b.toList) z->bF st st'->Q z st'):wpS M A E s (mHi a b) Q st:=by
 have la:a.toList.length=a.size:=rfl;have lb:b.toList.length=b.size:=rfl;have Xj:∀(o:Array Keyed) (i j:Nat),MI (fun x y=>r y<=r x) (a.toList++b.toList) o.toList (a.toList.take i).reverse (b.toList.take j).reverse->(∀x∈a.toList.take i,∀y∈b.toList.take j,r y<=r x)->Res r (a.toList++b.toList) (b.extract 0 j++a.extract 0 i++o.reverse):=fun o i j m q=>by
  obtain⟨p1,p2⟩:=m.swap.last fun x hx y hy=>q x (Qv.mp hx) y (Qv.mp hy)
  have e:(o.toList++(a.toList.take i).reverse++(b.toList.take j).reverse)=(b.extract 0 j++a.extract 0 i++o.reverse).toList.reverse:=by rw[Sz,Sz,Rz,Rz,Array.toList_reverse,List.extract_eq_drop_take,List.extract_eq_drop_take,VS,VS,UK,UK,List.reverse_reverse,Nt,Nat.sub_zero,Nat.sub_zero]
  rw[e]at p1 p2;exact⟨ze p1,(List.reverse_perm _).symm.trans p2⟩
 have fin:∀(o:Array Keyed) (i j:Nat),MI (fun x y=>r y<=r x) (a.toList++b.toList) o.toList (a.toList.take i).reverse (b.toList.take j).reverse->(i=0∨j=0)->Res r (a.toList++b.toList) (a.extract 0 i++b.extract 0 j++o.reverse):=fun o i j m q=>by
  have:=Xj o i j m fun x hx y hy=>by
   rcases q with q|q
   ·rw[q]at hx;simp at hx
   ·rw[q]at hy;simp at hy
  have e:a.extract 0 i++b.extract 0 j=b.extract 0 j++a.extract 0 i:=by
   rcases q with q|q<;>subst q<;>simp
  rw[e];exact this
 have Sr:∀(o:Array Keyed) (i j:Nat),MI (fun x y=>r y<=r x) (a.toList++b.toList) o.toList (a.toList.take i).reverse (b.toList.take j).reverse->j=1->Res r (a.toList++b.toList) (b.extract 0 j++a.extract 0 i++o.reverse):=fun o i j m q=>Xj o i j m fun x hx y hy=>by
  subst q;obtain⟨z,hz,e,_⟩:=cX (l:=b.toList) (i:=0) b0;have e1:b.toList.take 1=[z]:=by have e2:b.toList=z::b.toList.drop 1:=e;rw[e2];rfl
  rw[e1,LQ]at hy;rw[hy];exact PF z e1 x (Sy hx)
 obtain⟨y0,Tc,Vk,Z6⟩:=fW (l:=a.toList) a0 (KO _);have g0:a[a.size - 1]?=some y0:=by rw[<- LX];exact Tc
 have m0:MI (fun x y=>r y<=r x) (a.toList++b.toList) (#[y0]:Array Keyed).toList (a.toList.take (a.size - 1)).reverse (b.toList.take b.size).reverse:=by
  have m:MI (fun x y=>r y<=r x) (a.toList++b.toList) (#[]:Array Keyed).toList (a.toList.take a.size).reverse (b.toList.take b.size).reverse:=by rw[Pg (RU la),Pg (RU lb)];exact⟨(List.reverse_perm _).append (List.reverse_perm _),.nil,qE sa,qE sb,fun _ z=>(by cases z),fun _ z=>(by cases z)⟩
  exact m.qA Vk fun y hy=>Rk y0 g0 y (Sy (Qv.mp hy))
 refine Kd (wpS_lift (wpAny_rule ⟨rfl,?_⟩));refine Kd (aV g0 ?_);refine aC (fun c=>Kx (h _ _ (fin _ _ _ m0 (.inl (beq_iff_eq.mp c))) (bF.refl _))) fun c1=>?_
 refine aC (fun c=>Kx (h _ _ (Sr _ _ _ m0 (beq_iff_eq.mp c)) (bF.refl _))) fun c2=>?_
 have c1':a.size - 1≠0:=fun e=>c1 (beq_iff_eq.mpr e)
 have Uq:b.size≠1:=fun e=>c2 (beq_iff_eq.mpr e)
 have Ur:Mir r a b #[y0] (a.size - 1) b.size:=⟨m0,by lia,by lia,by lia,by lia⟩;refine Kd (wpS_get ?_);refine Kd (Oy (OY (a:=0) (I:=fun x z st'=>bF st st'/\∃o i j g,z=(none,i,j,o,g)/\Mir r a b o i j/\x+i+j<=a.size+b.size) (Q:=fun z st'=>bF st st'/\∃w q,z=(some w,q)/\Res r (a.toList++b.toList) w) ?_ ?_ ⟨bF.refl _,#[y0],a.size - 1,b.size,_,rfl,Ur,by lia⟩) ?_)
 ·rintro x z Yo _ hx ⟨L1,o,i,j,g,rfl,md,hp⟩;refine Kd (Oy (OY (I:=fun x z st'=>bF st st'/\∃o i' j' u v,z=(none,i',j',o,u,v)/\Mir r a b o i' j'/\x+i'+j'<=i+j) (Q:=fun z st'=>bF st st'/\((∃w q,z=(some w,q)/\Res r (a.toList++b.toList) w)∨∃ o i' j' u v,z=(none,i',j',o,u,v)/\Mir r a b o i' j'/\1+i'+j'<=i+j)) ?_ ?_ ⟨L1,o,i,j,_,_,rfl,md,by lia⟩) ?_)
  ·clear md hp hx;rintro x z Kb _ hx ⟨L2,o,i',j',u,v,rfl,md,hp⟩;have Us:=md.hi;have Xf:=md.hj;have Yq:=md.h0;have hj1:=md.h1;obtain⟨y,hy,ey,my⟩:=fW (l:=b.toList) (n:=j') (by lia) Xf;obtain⟨w,hw,ew,mw⟩:=fW (l:=a.toList) (n:=i') Yq Us;rw[LX]at hy hw;refine Kd (aV hy (Kd (aV hw (Kd (C.lt _ _ _ _ (mb y my) (ma w mw) (L2.k.trans hk) ?_)))));have hb:=jD md.m.sb ey;have Sn:=jD md.m.sa ew;refine aC (fun c=>?_) fun c=>?_
   ·have c':=Nd c;refine Kd (aV hw ?_);have m':=md.m.qA ew fun x hx=>LZ (hb x hx) (QU c')
    refine aC (fun c2=>Kx ⟨L2,.inl ⟨_,_,rfl,fin _ _ _ m' (.inl (beq_iff_eq.mp c2))⟩⟩) fun c2=>?_
    have Uq:i' - 1≠0:=fun e=>c2 (beq_iff_eq.mpr e)
    have N2:Mir r a b (o.push w) (i' - 1) j':=⟨m',by lia,by lia,hj1,Xf⟩;exact aC (fun _=>Kx ⟨L2,.inr ⟨o.push w,i' - 1,j',_,_,rfl,N2,by lia⟩⟩) fun _=>Kx ⟨L2,o.push w,i' - 1,j',_,_,rfl,N2,by lia⟩
   ·have c':¬r y<r w:=fun e=>c (Mb e)
    refine Kd (aV hy ?_);have m':=md.m.qB ey fun x hx=>LZ (Sn x hx) (Qx.mp c')
    refine aC (fun c2=>Kx ⟨L2,.inl ⟨_,_,rfl,Sr _ _ _ m' (beq_iff_eq.mp c2)⟩⟩) fun c2=>?_
    have Uq:j' - 1≠1:=fun e=>c2 (beq_iff_eq.mpr e)
    have N2:Mir r a b (o.push y) i' (j' - 1):=⟨m',Yq,Us,by lia,by lia⟩;exact aC (fun _=>Kx ⟨L2,.inr ⟨o.push y,i',j' - 1,_,_,rfl,N2,by lia⟩⟩) fun _=>Kx ⟨L2,o.push y,i',j' - 1,_,_,rfl,N2,by lia⟩
  ·rintro z Kb ⟨L2,o,i',j',u,v,rfl,md,hp⟩;have:=md.h0
   lia
  ·rintro z Kb ⟨L2,(⟨w,q,rfl,hr⟩| ⟨o',i',j',u,v,rfl,N2,S8⟩)⟩
   ·exact Kx ⟨L2,_,_,rfl,hr⟩
   ·refine Kd (wpS_lift (wpAny_rule ⟨rfl,?_⟩));refine Kd (Oy (OY (I:=fun x z st'=>bF st st'/\∃o NI NJ g u v,z=(none,NI,NJ,o,g,u,v)/\Mir r a b o NI NJ/\x+NI+NJ<=i'+j') (Q:=fun z st'=>bF st st'/\((∃w q,z=(some w,q)/\Res r (a.toList++b.toList) w)∨∃ o NI NJ g u v,z=(none,NI,NJ,o,g,u,v)/\Mir r a b o NI NJ/\NI+NJ<=i'+j')) ?_ ?_ ⟨L2,o',i',j',_,_,_,rfl,N2,by lia⟩) ?_)
    ·clear N2 S8;rintro x z Ni _ hx3 ⟨L3,o,i2,j2,g2,u2,v2,rfl,md,X5⟩;have Us:=md.hi;have Xf:=md.hj;have Yq:=md.h0;have hj1:=md.h1;obtain⟨y,hy,ey,my⟩:=fW (l:=b.toList) (n:=j2) (by lia) Xf;rw[LX]at hy;have both:∀g3:Nat,wpS M A E s (C5 g3) (fun _ Lk=>bF st Lk) Ni:=fun g3=>kJ L3 fun Lk L4=>L4
     have hb:=jD md.m.sb ey;refine aC (fun _=>?_) fun _=>?_
     all_goals
      refine Kd (Oy (both _) fun _ Lk L4=>?_);refine Kd (aV hy (Kd (fF C (L4.k.trans hk) (show i2 - 1<i2 by lia) (mb y my) (g:=a.toList.take i2) (by rw[NW];exact Qa Us) (fun n hn=>by rw[VF,JU hn,LX,Pn]) (fun x hx=>ma x (Sy hx)) (ze md.m.sa) fun k Ve O2 QH=>?_)));have So:k<=i2:=Ve;have lo:∀x∈a.toList.take k,r x<=r y:=fun x hx=>by have:=O2 x (by rw[List.take_take,Qa So];exact hx);simpa [OT]using this
      have up:∀x∈(a.toList.take i2).drop k,r y<=r x:=fun x hx=>by
       have:=QH x hx;simp[OT]at this
       lia
      refine aC (fun ck=>?_) fun ck=>?_
      case' refine_1 =>
       have hm:=md.m.fA So fun x hx z hz=>LZ (hb z hz) (up x hx)
       refine aC (fun c3=>Kx ⟨L4,.inl ⟨_,_,rfl,fin _ _ _ hm (.inl (beq_iff_eq.mp c3))⟩⟩) fun c3=>?_
       have h3:0<k:=by
        have:k≠0:=fun e=>c3 (beq_iff_eq.mpr e)
        lia
       have hle:k<=i2:=So;have Sq:∀x∈(a.toList.take k).reverse,r x<=r y:=fun x hx=>lo x (Qv.mp hx)
      case' refine_2 =>
       have Ut:k=i2:=by
        have:¬(i2 - k > 0):=ck
        lia
       subst Ut;have hm:=md.m;have h3:0<k:=Yq;have hle:k<=k:=KO _;have Sq:∀x∈(a.toList.take k).reverse,r x<=r y:=fun x hx=>lo x (Qv.mp hx)
      all_goals
       refine Kd (aV hy ?_);have m1:=hm.qB ey Sq;refine aC (fun c=>Kx ⟨L4,.inl ⟨_,_,rfl,Sr _ _ _ m1 (beq_iff_eq.mp c)⟩⟩) fun c=>?_
       have c':j2 - 1≠1:=fun e=>c (beq_iff_eq.mpr e)
       obtain⟨w,hw,ew,mw⟩:=fW (l:=a.toList) h3 (LZ hle Us);rw[LX]at hw;refine Kd (aV hw (Kd (fF C (L4.k.trans hk) (show j2 - 1 - 1<j2 - 1 by lia) (ma w mw) (g:=b.toList.take (j2 - 1)) (by rw[NW];exact Qa (by lia)) (fun n hn=>by rw[VF,JU hn,LX,Pn]) (fun x hx=>mb x (Sy hx)) (ze m1.sb) fun k2 Xg Rl Rm=>?_)));have Sn:=jD m1.sa ew;have Uu:k2<=j2 - 1:=Xg;have Uv:∀x∈(b.toList.take k2).reverse,r x<=r w:=fun x hx=>by
        have:=Rl x (by rw[List.take_take,Qa Uu];exact Qv.mp hx);simp[OT]at this
        lia
       have Sm:∀x∈(b.toList.take (j2 - 1)).drop k2,r w<=r x:=fun x hx=>by have:=Rm x hx;simpa [OT]using this
       refine aC (fun Yp=>?_) fun Yp=>?_
       case' refine_1 =>
        have QI:=m1.fB Uu fun x hx z hz=>LZ (Sn z hz) (Sm x hx)
        refine aC (fun c5=>Kx ⟨L4,.inl ⟨_,_,rfl,Sr _ _ _ QI (beq_iff_eq.mp c5)⟩⟩) fun c5=>?_
        refine aC (fun c5=>Kx ⟨L4,.inl ⟨_,_,rfl,fin _ _ _ QI (.inr (beq_iff_eq.mp c5))⟩⟩) fun c7=>?_
        have Xh:1<k2:=by
         have:k2≠1:=fun e=>c5 (beq_iff_eq.mpr e)
         have:k2≠0:=fun e=>c7 (beq_iff_eq.mpr e)
         lia
        have hj4:k2<=b.size:=by lia
        have hj5:k2+1<=j2:=by lia
       case' refine_2 =>
        have Ut:k2=j2 - 1:=by
         have:¬(j2 - 1 - k2 > 0):=Yp
         lia
        rw[Ut]at Uv;have QI:=m1;have Xh:1<j2 - 1:=by lia
        have hj4:j2 - 1<=b.size:=by lia
        have hj5:j2 - 1+1<=j2:=by lia
       all_goals
        refine Kd (aV hw ?_);have m3:=QI.qA ew Uv;refine aC (fun c6=>Kx ⟨L4,.inl ⟨_,_,rfl,fin _ _ _ m3 (.inl (beq_iff_eq.mp c6))⟩⟩) fun c6=>?_
        have Xi:Mir r a b _ _ _:=⟨m3,Nat.pos_of_ne_zero fun e=>c6 (beq_iff_eq.mpr e),by lia,Xh,hj4⟩;exact aC (fun _=>Kx ⟨L4,.inr ⟨_,_,_,_,_,_,rfl,Xi,by(try dsimp only);lia⟩⟩) fun _=>Kx ⟨L4,_,_,_,_,_,_,rfl,Xi,by(try dsimp only);lia⟩
    ·rintro z Ni ⟨L3,o,NI,NJ,g,u,v,rfl,md,hp⟩;exact⟨L3,.inr ⟨o,NI,NJ,_,_,_,rfl,md,by lia⟩⟩
    ·rintro z Ni ⟨L3,(⟨w,q,rfl,hr⟩| ⟨o',NI,NJ,g,u,v,rfl,N2,S8⟩)⟩
     ·exact Kx ⟨L3,_,_,rfl,hr⟩
     ·exact Kd (kJ L3 fun Lk L4=>Kx ⟨L4,o',NI,NJ,_,rfl,N2,by lia⟩)
 ·rintro z st' ⟨L,o,i,j,g,rfl,md,hp⟩;have:=md.h0
  lia
 ·rintro z st' ⟨L,w,q,rfl,hr⟩;exact Kx (h _ _ hr L)
end
def rk(r:Keyed->Nat)(xs:Array Keyed)(i:Nat):Nat:=match xs[i]? with
 |some p=>r p
 |none=>0
def Seg(r:Keyed->Nat)(xs:Array Keyed)(lo hi:Nat):Prop:=∀i j,lo<=i->i<=j->j<hi->rk r xs i<=rk r xs j
section
variable{r:Keyed->Nat}{xs:Array Keyed}{P W S:List Keyed}
def pM(e:xs.toList=P++(W++S)){i:Nat}(hi:i<W.length):rk r xs (P.length+i)=r W[i]:=by unfold rk;rw[<- LX,e,NM (by lia),UI,OV hi,LH hi]
def wM(e:xs.toList=P++(W++S))(h:W.Pairwise fun x y=>r x<=r y):Seg r xs P.length (P.length+W.length):=fun i j h1 h2 h3=>by
 obtain⟨k,rfl⟩:∃k,i=P.length+k:=⟨i - P.length,by lia⟩;obtain⟨l,rfl⟩:∃l,j=P.length+l:=⟨j - P.length,by lia⟩;rw[pM e (by lia),pM e (by lia)];by_cases c:k=l
 ·subst c;exact KO _
 ·exact QO.mp h k l (by lia) (by lia) (by lia)
def jk(e:xs.toList=P++(W++S))(h:Seg r xs P.length (P.length+W.length)):W.Pairwise fun x y=>r x<=r y:=QO.mpr fun i j h1 h2 My=>by have:=h (P.length+i) (P.length+j) (by lia) (by lia) (by lia);rw[pM e h1,pM e h2]at this;exact this
def Gi(xs:Array Keyed){lo n:Nat}(h:lo+n<=xs.size):∃P W S,xs.toList=P++(W++S)/\P.length=lo/\W.length=n:=by
 refine⟨xs.toList.take lo,(xs.toList.drop lo).take n,(xs.toList.drop lo).drop n,by rw[OL,OL],?_,?_⟩
 ·rw[NW];exact Qa (by show lo<=xs.size;lia)
 ·rw[NW,ON];exact Qa (by show n<=xs.size - lo;lia)
theorem uN(base:Nat):∀(m:List Keyed) (k:Nat) (xs:Array Keyed) (P W S:List Keyed),xs.toList=P++(W++S)->P.length=base+k->W.length=m.length →
  ((m.zipIdx k).foldl (fun a (x:Keyed×Nat)=>match x with|(p,j)=>a.setIfInBounds (base+j) p) xs).toList=P++(m++S)
 |[],k,xs,P,W,S,e,hp,hw=>by have:W=[]:=To hw;rw[this]at e;exact e
 |p::m,k,xs,P,[],S,e,hp,hw=>by cases hw
 |p::m,k,xs,P,w::W,S,e,hp,hw=>by
  rw[List.zipIdx_cons,List.foldl_cons];rw[uN base m (k+1) _ (P++[p]) W S ?_ (by rw[LO,hp];rfl) (by simpa using hw)]
  ·simp
  ·show(xs.setIfInBounds (base+k) p).toList=_;rw[YJ,e,<- hp,List.set_append_right _ _ (KO _),TJ];simp
end
section
variable{M:Model}{A:Around}{E:yaa}{s:Shared}{r:Keyed->Nat}{Mem:Keyed->Prop}{k0:SortKind}
def FR{σ:Type}{st st':σ}{Q:PUnit->σ->Prop}(h:Q ⟨⟩ st'):wpS M A E s (set st':StateT σ Sem PUnit) Q st:=by unfold wpS;rw[StateT.run_set];exact Ki ⟨rfl,h⟩
def Cs{st:SortSt}{i sa na p sb nb p2:Nat}{Q:Bool->SortSt->Prop}(C:QG M A E s r Mem k0)(hk:kindOf st=k0)(hf:failedOf st=none)(ma:∀x∈(arrOf st).toList,Mem x)(h1:(pendingOf st)[i]?=some (sa,na,p))(h2:(pendingOf st)[i+1]?=some (sb,nb,p2))
  {P X Y S:List Keyed} (e:(arrOf st).toList=P++(X++(Y++S))) (lP:P.length=sa) (lX:X.length=na) (lY:Y.length=nb) (Ui:sb=sa+na) (n0:0<na) (m0:0<nb) (sX:X.Pairwise fun x y=>r x<=r y) (sY:Y.Pairwise fun x y=>r x<=r y)
  (h:∀(st':SortSt) (Z:List Keyed),kindOf st'=k0->failedOf st'=none->pendingOf st'=((pendingOf st).setIfInBounds i (sa,na+nb,p)).eraseIdxIfInBounds (i+1)->(arrOf st').toList=P++(Z++S)->Z.Perm (X++Y)->Z.Pairwise (fun x y=>r x<=r y)->Q true st'):wpS M A E s (mergeAt' i) Q st:=by
 subst Ui;have gX:∀n,n<na->(arrOf st)[sa+n]?=X[n]?:=fun n hn=>by rw[<- LX,e,NM (by lia),show sa+n - P.length=n by lia,OV (by lia)]
 have gY:∀n,n<nb->(arrOf st)[sa+na+n]?=Y[n]?:=fun n hn=>by rw[<- LX,e,NM (by lia),NM (by lia),show sa+na+n - P.length - X.length=n by lia,OV (by lia)]
 have mX:∀x∈X,Mem x:=fun x hx=>ma x (by rw[e];simp[hx])
 have mY:∀x∈Y,Mem x:=fun x hx=>ma x (by rw[e];simp[hx])
 obtain⟨y0,Tc,Vk,Z6⟩:=cX (l:=Y) (i:=0) (by lia);obtain⟨xl,hxl,exl,mxl⟩:=fW (l:=X) (n:=na) n0 (by lia);have Xk:∀y∈Y,r y0<=r y:=jE (l:=Y) (i:=0) sY Vk;have lel:∀x∈X,r x<=r xl:=fun x hx=>jD (l:=X) (n:=na) (qE (by rw[Pg (by lia)];exact sX)) exl x (Qv.mpr (by rw[Pg (by lia)];exact hx))
 have same:∀(st':SortSt),kindOf st'=k0->failedOf st'=none->pendingOf st'=((pendingOf st).setIfInBounds i (sa,na+nb,p)).eraseIdxIfInBounds (i+1)->arrOf st'=arrOf st->(∀x∈X,∀y∈Y,r x<=r y)->Q true st':=fun st' a1 a2 a3 a4 q =>
  h st' (X++Y) a1 a2 a3 (by rw[a4,e,Nt]) (UY _) (Qs.mpr ⟨sX,sY,q⟩)
 refine Kd (wpS_get ?_);show wpS M A E s (match((pendingOf st)[i]?,(pendingOf st)[i+1]?)with|_=>_) Q st;simp only[h1,h2];refine Kd (FR ?_);have k1:kindOf (SortSt.mk' (kindOf st) (arrOf st) (((pendingOf st).setIfInBounds i (sa,na+nb,p)).eraseIdxIfInBounds (i+1)) (gallopOf st) (failedOf st))=k0:=hk;have f1:failedOf (SortSt.mk' (kindOf st) (arrOf st) (((pendingOf st).setIfInBounds i (sa,na+nb,p)).eraseIdxIfInBounds (i+1)) (gallopOf st) (failedOf st))=none:=hf;refine Kd (aV (x:=y0) (by have:=gY 0 m0;rw[Nat.add_zero]at this;rw[this];exact Tc) ?_);refine Kd (fF C k1 n0 (mY y0 Z6) (g:=X) lX gX mX sX fun k Ve O2 QH=>?_);have lo:∀x∈X.take k,r x<=r y0:=fun x hx=>by have:=O2 x hx;simpa [OT]using this
 have up:∀x∈X.drop k,r y0<=r x:=fun x hx=>by
  have:=QH x hx;simp[OT]at this
  lia
 refine aC (fun c=>Kx (same _ k1 f1 rfl rfl fun x hx y hy=>?_)) fun c=>?_
 ·have c':na - k=0:=beq_iff_eq.mp c;have NY:x∈X.take k:=by rw[Pg (by lia)];exact hx
  exact LZ (lo x NY) (Xk y hy)
 have c':na - k≠0:=fun z=>c (beq_iff_eq.mpr z)
 refine Kd (aV (x:=xl) (by show(arrOf st)[sa+k+(na - k) - 1]?=_;rw[show sa+k+(na - k) - 1=sa+(na - 1)by lia,gX _ (by lia)];exact hxl) ?_);refine Kd (fF C k1 (show nb - 1<nb by lia) (mX xl mxl) (g:=Y) lY gY mY sY fun k2 Xg Rl Rm=>?_);have Uv:∀y∈Y.take k2,r y<=r xl:=fun x hx=>by
  have:=Rl x hx;simp[OT]at this
  lia
 have Sm:∀y∈Y.drop k2,r xl<=r y:=fun x hx=>by have:=Rm x hx;simpa [OT]using this
 refine aC (fun c=>Kx (same _ k1 f1 rfl rfl fun x hx y hy=>?_)) fun c2=>?_
 ·have c':k2=0:=beq_iff_eq.mp c;rw[c']at Sm;exact LZ (lel x hx) (Sm y hy)
 have Uq:k2≠0:=fun z=>c2 (beq_iff_eq.mpr z)
 have ex:((arrOf st).extract (sa+k) (sa+na)).toList=X.drop k:=by rw[Rz,List.extract_eq_drop_take,e,<- lP,<- VR,XI (KO _),List.drop_length,Oe,XI (by lia),show P.length+na - (P.length+k)=(X.drop k).length by rw[ON];lia];exact List.take_left
 have ey:((arrOf st).extract (sa+na) (sa+na+k2)).toList=Y.take k2:=by rw[Rz,List.extract_eq_drop_take,e,<- lP,<- lX,<- VR,XI (KO _),List.drop_length,Oe,XI (KO _),List.drop_length,Oe,UI,List.take_append_of_le_length (by lia)]
 have fin:∀(z:Array Keyed) (Kb:SortSt),Res r (X.drop k++Y.take k2) z->bF (SortSt.mk' (kindOf st) (arrOf st) (((pendingOf st).setIfInBounds i (sa,na+nb,p)).eraseIdxIfInBounds (i+1)) (gallopOf st) (failedOf st)) Kb->wpS M A E s (do
   modify fun st=>setArr st (z.toList.zipIdx.foldl (fun a (x:Keyed×Nat)=>match x with|(p,j)=>a.setIfInBounds (sa+k+j) p) (arrOf st))
   let y←get
   pure (failedOf y).isNone) Q Kb:=fun z Kb ⟨z1,z2⟩ L=>by
  refine Kd (RE (Kd (wpS_get (Kx ?_))));show Q (failedOf Kb).isNone _;rw[L.f,f1];refine h _ (X.take k++(z.toList++Y.drop k2)) (L.k.trans k1) (L.f.trans f1) L.p ?_ ?_ ?_
  ·show(z.toList.zipIdx.foldl _ (arrOf Kb)).toList=_;rw[uN (sa+k) z.toList 0 (arrOf Kb) (P++X.take k) (X.drop k++Y.take k2) (Y.drop k2++S) ?_ ?_ ?_]
   ·simp only[Nt]
   ·rw[show arrOf Kb=arrOf st from L.a,e];have t1:=OL k X;have t2:=OL k2 Y
    conv=>lhs;rw[<- t1,<- t2]
    simp only[Nt]
   ·rw[LO,NW,lP,Qa (by lia)];rfl
   ·exact z2.length_eq.symm
  ·have t1:=OL k X;have t2:=OL k2 Y;have:(X.take k++(z.toList++Y.drop k2)).Perm (X.take k++((X.drop k++Y.take k2)++Y.drop k2)):=List.Perm.append_left _ (List.Perm.append_right _ z2);refine this.trans (List.Perm.of_eq ?_)
   conv=>rhs;rw[<- t1,<- t2]
   simp only[Nt]
  ·have in1:∀x∈X.take k,∀y∈Y,r x<=r y:=fun x hx y hy=>LZ (lo x hx) (Xk y hy)
   have inX:∀x∈X.take k,∀y∈X.drop k,r x<=r y:=by have:=sX;rw[<- OL k X]at this;exact(Qs.mp this).2.2
   have inY:∀x∈Y.take k2,∀y∈Y.drop k2,r x<=r y:=by have:=sY;rw[<- OL k2 Y]at this;exact(Qs.mp this).2.2
   refine Qs.mpr ⟨sX.sublist (UO _ _),Qs.mpr ⟨z1,sY.sublist (List.drop_sublist _ _),fun x hx y hy=>?_⟩,fun x hx y hy=>?_⟩
   ·rcases KR.mp (z2.mem_iff.mp hx)with q|q
    ·exact LZ (lel x (Sx q)) (Sm y hy)
    ·exact inY x q y hy
   ·rcases KR.mp hy with q|q
    ·rcases KR.mp (z2.mem_iff.mp q)with q|q
     ·exact inX x hx y q
     ·exact in1 x hx y (Sy q)
    ·exact in1 x hx y (Sx q)
 have sx':((arrOf st).extract (sa+k) (sa+na)).toList.Pairwise fun x y=>r x<=r y:=by rw[ex];exact sX.sublist (List.drop_sublist _ _)
 have sy':((arrOf st).extract (sa+na) (sa+na+k2)).toList.Pairwise fun x y=>r x<=r y:=by rw[ey];exact sY.sublist (UO _ _)
 have mx':∀x∈((arrOf st).extract (sa+k) (sa+na)).toList,Mem x:=by rw[ex];exact fun x hx=>mX x (Sx hx)
 have my':∀x∈((arrOf st).extract (sa+na) (sa+na+k2)).toList,Mem x:=by rw[ey];exact fun x hx=>mY x (Sy hx)
 have zx:((arrOf st).extract (sa+k) (sa+na)).size=na - k:=by rw[<- NU,ex,ON,lX]
 have zy:((arrOf st).extract (sa+na) (sa+na+k2)).size=k2:=by rw[<- NU,ey,NW,lY];exact Qa Xg
 have px:0<((arrOf st).extract (sa+k) (sa+na)).size:=by rw[zx];lia
 have py:0<((arrOf st).extract (sa+na) (sa+na+k2)).size:=by rw[zy];lia
 have hl:∀x,(X.drop k)[na - k - 1]?=some x->x=xl:=fun x hx=>by rw[UM,show k+(na - k - 1)=na - 1 by lia,hxl]at hx;cases hx;rfl
 have hf0:∀y,(Y.take k2)[0]?=some y->y=y0:=fun y hy=>by rw[VF,JU (by lia),Tc]at hy;cases hy;rfl
 refine aC (fun c3=>?_) fun c3=>?_
 ·refine Kd (Cu C k1 mx' my' sx' sy' px py ?_ ?_ fun z Kb hz L=>fin z Kb (by rw[ex,ey]at hz;exact hz) L)
  ·intro x hx y hy;rw[ey]at hy;rw[ex,zx]at hx;rw[hl x (by rw[<- Nat.add_zero (na - k - 1),<- UM,hx];rfl)];exact Uv y hy
  ·intro y hy x hx;rw[ex]at hx;rw[<- LX,ey]at hy;rw[hf0 y hy];exact up x hx
 ·refine Kd (Ct C k1 mx' my' sx' sy' px py ?_ ?_ fun z Kb hz L=>fin z Kb (by rw[ex,ey]at hz;exact hz) L)
  ·intro x hx y hy;rw[ey]at hy;rw[<- LX,ex,zx]at hx;rw[hl x hx];exact Uv y hy
  ·intro y hy x hx;rw[ex]at hx;rw[ey]at hy;rw[hf0 y (by
    have:((Y.take k2).take 1)[0]?=some y:=by rw[hy];rfl
    rw[VF,JU (by decide)]at this;exact this)]
   exact up x hx
end
section
variable{r:Keyed->Nat}
def eJ{xs ys:Array Keyed}{i j:Nat}(h:xs[i]?=ys[j]?):rk r xs i=rk r ys j:=by unfold rk;rw[h]
def lC{xs:Array Keyed}{j:Nat}(hj:j<=xs.size)(k:Nat):rk r (mirror xs i j ((j - i) / 2)) k=if i<=k/\k<j then rk r xs (i+j - 1 - k)else rk r xs k:=by
 have e:=getElem?_mirror_all (i:=i) hj k;by_cases h1:i<=k/\k<j
 ·rw[JU h1]at e ⊢;exact eJ e
 ·rw[JT h1]at e ⊢;exact eJ e
def fc{xs:Array Keyed}{i j:Nat}(hj:j<=xs.size)(heq:∀k,i<=k->k<j->rk r xs k=rk r xs (j - 1))(k:Nat):rk r (mirror xs i j ((j - i) / 2)) k=rk r xs k:=by
 rw[lC hj];split
 ·rw[heq _ (by lia) (by lia),heq k (by lia) (by lia)]
 ·rfl
def sG{xs:Array Keyed}{src d:Nat}(hs:src<xs.size)(hd:d<=src)(k:Nat):rk r (bubble xs src d) k=if k=src - d then rk r xs src else if src - d<k/\k<=src then rk r xs (k - 1)else rk r xs k:=by
 have e:=getElem?_bubble hs d hd k;by_cases h1:k=src - d
 ·rw[JU h1]at e ⊢;exact eJ e
 ·rw[JT h1]at e ⊢;by_cases h2:src - d<k/\k<=src
  ·rw[JU h2]at e ⊢;exact eJ e
  ·rw[JT h2]at e ⊢;exact eJ e
def Dn(r:Keyed->Nat)(xs:Array Keyed)(lo hi:Nat):Prop:=∀i j,lo<=i->i<=j->j<hi->rk r xs j<=rk r xs i
end
structure Nr(lo:Nat)(st st':SortSt):Prop where
 k:kindOf st'=kindOf st
 f:failedOf st'=failedOf st
 p:pendingOf st'=pendingOf st
 a:(arrOf st').Perm (arrOf st)
 fr:∀i,i<lo->(arrOf st')[i]?=(arrOf st)[i]?
theorem Nr.refl(lo:Nat)(st:SortSt):Nr lo st st:=⟨rfl,rfl,rfl,Array.Perm.refl _,fun _ _=>rfl⟩
theorem Nr.size{lo:Nat}{st st':SortSt}(h:Nr lo st st'):(arrOf st').size=(arrOf st).size:=h.a.size_eq
theorem Nr.trans{lo:Nat}{st st' Kb:SortSt}(h:Nr lo st st')(g:Nr lo st' Kb):Nr lo st Kb:=⟨g.k.trans h.k,g.f.trans h.f,g.p.trans h.p,g.a.trans h.a,fun i hi=>(g.fr i hi).trans (h.fr i hi)⟩
def Nr.Yr{lo i j:Nat}{st st':SortSt}(h:Nr lo st st')(hi:lo<=i)(hj:j<=(arrOf st).size):Nr lo st (setArr st' (mirror (arrOf st') i j ((j - i) / 2))):=⟨h.k,h.f,h.p,(mirror_perm _ _ _ _).trans h.a,fun k hk=>by show(mirror (arrOf st') i j ((j - i) / 2))[k]?=_;rw[getElem?_mirror_all (by rw[h.size];exact hj),JT (by lia)];exact h.fr k hk⟩
section
variable{M:Model}{A:Around}{E:yaa}{s:Shared}{r:Keyed->Nat}{Mem:Keyed->Prop}{k0:SortKind}
def iz{st:SortSt}{i j:Nat}{Q:Option Bool->SortSt->Prop}(C:QG M A E s r Mem k0)(hk:kindOf st=k0)(hm:∀x∈(arrOf st).toList,Mem x)(hi:i<(arrOf st).size)(hj:j<(arrOf st).size)(h:Q (some (decide (rk r (arrOf st) i<rk r (arrOf st) j))) st):wpS M A E s (ltAt' i j) Q st:=by have gi:(arrOf st)[i]?=some (arrOf st)[i]:=getElem?_pos _ i hi;have gj:(arrOf st)[j]?=some (arrOf st)[j]:=getElem?_pos _ j hj;refine wpS_ltAt C hk gi gj (hm _ (by simp)) (hm _ (by simp)) ?_;unfold rk at h;rw[gi,gj]at h;exact h
def Nr.mem{lo:Nat}{st st':SortSt}(h:Nr lo st st')(hm:∀x∈(arrOf st).toList,Mem x):∀x∈(arrOf st').toList,Mem x:=fun x hx=>hm x ((Vt.mp h.a).mem_iff.mp hx)
def zN{st:SortSt}{lo Nl:Nat}{Q:Option Nat->SortSt->Prop}(C:QG M A E s r Mem k0)(hk:kindOf st=k0)(hm:∀x∈(arrOf st).toList,Mem x)(hs:lo+Nl=(arrOf st).size)(h1:1<=Nl)
  (h:∀m st',1<=m->m<=Nl->Nr lo st st'->Seg r (arrOf st') lo (lo+m)->Q (some m) st'):wpS M A E s (countRun' lo Nl) Q st:=by
 refine Kd (Oy (OY (a:=1) (b:=Nl) (I:=fun x z st'=>st'=st/\z=(none,x)/\1<=x/\Seg r (arrOf st) lo (lo+x)) (Q:=fun z st'=>st'=st/\∃n,z=(none,n)/\1<=n/\n<=Nl/\Seg r (arrOf st) lo (lo+n)/\(n=Nl∨rk r (arrOf st) (lo+n)<rk r (arrOf st) (lo+n - 1))) ?_ ?_ ⟨rfl,rfl,KO _,fun i j a b c=>by rw[show i=j by lia];exact KO _⟩) ?_)
 ·rintro x z st' hx1 hx ⟨rfl,rfl,_,sg⟩;refine Kd (iz C hk hm (by show lo+x<_;lia) (by show lo+x - 1<_;lia) ?_);refine aC (fun c=>Kx ⟨rfl,x,rfl,hx1,by lia,sg,.inr (Nd c)⟩) fun c=>Kx ⟨rfl,rfl,by lia,fun i j a b d=>?_⟩
  have c':¬rk r (arrOf st') (lo+x)<rk r (arrOf st') (lo+x - 1):=fun e=>c (Mb e)
  by_cases e:j=lo+x
  ·subst e;by_cases e2:i=lo+x
   ·subst e2;exact KO _
   ·exact LZ (sg i (lo+x - 1) a (by lia) (by lia)) (Qx.mp c')
  ·exact sg i j a b (by lia)
 ·rintro z st' ⟨rfl,rfl,hx,sg⟩;exact⟨rfl,_,rfl,hx,by lia,sg,.inl (by lia)⟩
 ·rintro z st' ⟨rfl,n,rfl,n1,n2,sg,last⟩;refine aC (fun _=>Kx (h n st' n1 n2 (Nr.refl _ _) sg)) fun c=>?_
  have c':n≠Nl:=fun e=>c (beq_iff_eq.mpr e)
  have last:rk r (arrOf st') (lo+n)<rk r (arrOf st') (lo+n - 1):=last.resolve_left c';refine aC (fun n3=>Kd (iz C hk hm (by lia) (by show lo+n - 1<_;lia) (aC (fun _=>Kx (h n st' n1 n2 (Nr.refl _ _) sg)) fun Z7=>?_))) fun n3=>?_
  case' refine_1 =>
   have rose':¬rk r (arrOf st') lo<rk r (arrOf st') (lo+n - 1):=fun e=>Z7 (Mb e)
   have eqs:∀k,lo<=k->k<lo+n->rk r (arrOf st') k=rk r (arrOf st') (lo+n - 1):=fun k a b=>by
    have:=sg lo k (KO _) a b;have:=sg k (lo+n - 1) a (by lia) (by lia)
    lia
   have rkm:=fc (r:=r) (xs:=arrOf st') (i:=lo) (j:=lo+n) (by lia) eqs;refine Kd (RE ?_);have N:Nr lo st' (setArr st' (mirror (arrOf st') lo (lo+n) ((lo+n - lo) / 2))):=(Nr.refl lo st').Yr (KO _) (by lia);have dn:Dn r (arrOf (setArr st' (mirror (arrOf st') lo (lo+n) ((lo+n - lo) / 2)))) lo (lo+(n+1)):=fun i j a b c=>by
    show rk r (mirror (arrOf st') lo (lo+n) ((lo+n - lo) / 2)) j<=rk r (mirror (arrOf st') lo (lo+n) ((lo+n - lo) / 2)) i;rw[rkm,rkm];by_cases ej:j=lo+n
    ·by_cases ei:i=lo+n
     ·rw[ei,ej];exact KO _
     ·rw[eqs i a (by lia),ej];lia
    ·rw[eqs i a (by lia),eqs j (by lia) (by lia)];exact KO _
  case' refine_2 =>
   have N:=Nr.refl lo st';have en:n=1:=by lia
   have dn:Dn r (arrOf st') lo (lo+(n+1)):=fun i j a b c=>by
    subst en;by_cases ej:j=lo+1
    ·by_cases ei:i=lo+1
     ·rw[ei,ej];exact KO _
     ·rw[show i=lo by lia,ej];rw[Nat.add_sub_cancel]at last
      lia
    ·rw[show i=j by lia];exact KO _
  all_goals
   refine Kd (wpS_lift (wpAny_rule ⟨rfl,?_⟩));refine Kd (Oy (OY (a:=n+1) (b:=Nl) (I:=fun x z Kb=>Nr lo st' Kb/\∃q,z=(none,x,q)/\n+1<=x/\q+1<=x/\Dn r (arrOf Kb) lo (lo+x)/\∀i,lo+x - (q+1)<=i->i<lo+x->rk r (arrOf Kb) i=rk r (arrOf Kb) (lo+x - 1)) (Q:=fun z Kb=>Nr lo st' Kb/\∃x q,z=(none,x,q)/\n+1<=x/\x<=Nl/\q+1<=x/\Dn r (arrOf Kb) lo (lo+x)/\∀i,lo+x - (q+1)<=i->i<lo+x->rk r (arrOf Kb) i=rk r (arrOf Kb) (lo+x - 1)) ?_ ?_ ⟨N,0,rfl,KO _,by lia,dn,fun i a b=>by rw[show i=lo+(n+1) - 1 by lia]⟩) ?_)
   ·clear N dn;rintro x z Kb hx1 hx ⟨N,q,rfl,x1,q1,dn,eq⟩;have sz:=N.size;refine Kd (iz C (N.k.trans hk) (N.mem hm) (by show lo+x<_;lia) (by show lo+x - 1<_;lia) ?_);refine aC (fun c=>?_) fun c=>?_
    ·have c':=Nd c;have ext:∀xs:Array Keyed,(∀k,rk r xs k=rk r (arrOf Kb) k)->Dn r xs lo (lo+(x+1)):=fun xs e i j a b d=>by
      rw[e,e];by_cases ej:j=lo+x
      ·by_cases ei:i=lo+x
       ·rw[ei,ej];exact KO _
       ·have c2:rk r (arrOf Kb) (lo+x)<rk r (arrOf Kb) (lo+x - 1):=c';rw[ej];exact LZ (QU c2) (dn i (lo+x - 1) a (by lia) (by lia))
      ·exact dn i j a b (by lia)
     refine aC (fun _=>Kd (RE (Kx ⟨N.Yr (by show lo<=lo+x - (q+1);lia) (by show lo+x<=_;lia),0,rfl,by lia,by lia,ext _ (fc (by show lo+x<=(arrOf Kb).size;lia) eq),fun i a b=>?_⟩))) fun _=>Kx ⟨N,0,rfl,by lia,by lia,ext _ fun _=>rfl,fun i a b=>?_⟩
     ·rw[show i=lo+(x+1) - 1 by lia]
     ·rw[show i=lo+(x+1) - 1 by lia]
    ·have c':¬rk r (arrOf Kb) (lo+x)<rk r (arrOf Kb) (lo+x - 1):=fun e=>c (Mb e)
     refine Kd (iz C (N.k.trans hk) (N.mem hm) (by show lo+x - 1<_;lia) (by show lo+x<_;lia) ?_);refine aC (fun d=>Kx ⟨N,x,q,rfl,x1,by lia,q1,dn,eq⟩) fun d=>?_
     have d':¬rk r (arrOf Kb) (lo+x - 1)<rk r (arrOf Kb) (lo+x):=fun e=>d (Mb e)
     have e0:rk r (arrOf Kb) (lo+x)=rk r (arrOf Kb) (lo+x - 1):=by lia
     refine Kx ⟨N,q+1,rfl,by lia,by lia,fun i j a b e=>?_,fun i a b=>?_⟩
     ·by_cases ej:j=lo+x
      ·by_cases ei:i=lo+x
       ·rw[ei,ej];exact KO _
       ·rw[ej,e0];exact dn i (lo+x - 1) a (by lia) (by lia)
      ·exact dn i j a b (by lia)
     ·rw[show lo+(x+1) - 1=lo+x by lia,e0];by_cases ei:i=lo+x
      ·rw[ei,e0]
      ·exact eq i (by lia) (by lia)
   ·rintro z Kb ⟨N,q,rfl,x1,q1,dn,eq⟩;exact⟨N,_,q,rfl,x1,by lia,q1,dn,eq⟩
   ·clear N dn;rintro z Kb ⟨N,x,q,rfl,x1,x2,q1,dn,eq⟩;have sz:=N.size;have asc:∀Ni:SortSt,Nr lo st' Ni->Dn r (arrOf Ni) lo (lo+x)->∀i j,lo<=i->i<=j->j<lo+x->rk r (mirror (arrOf Ni) lo (lo+x) ((lo+x - lo) / 2)) i<=rk r (mirror (arrOf Ni) lo (lo+x) ((lo+x - lo) / 2)) j:=fun Ni N3 Ys i j a b c=>by
     rw[lC (by rw[N3.size];lia),lC (by rw[N3.size];lia),JU ⟨a,by lia⟩,JU ⟨by lia,c⟩];exact Ys _ _ (by lia) (by lia) (by lia)
    refine aC (fun q3=>Kd (RE ?_)) fun q3=>?_
    case' refine_1 =>
     have N3:=N.Yr (i:=lo+x - (q+1)) (j:=lo+x) (by lia) (by lia);have Ys:Dn r (mirror (arrOf Kb) (lo+x - (q+1)) (lo+x) ((lo+x - (lo+x - (q+1))) / 2)) lo (lo+x):=fun i j a b c=>by rw[fc (by lia) eq,fc (by lia) eq];exact dn i j a b c
    case' refine_2 =>
     have N3:=N;have Ys:=dn
    all_goals
     refine Kd (RE ?_);have N4:=N3.Yr (i:=lo) (j:=lo+x) (KO _) (by lia);have Rn:=asc _ N3 Ys;refine Kd (Oy (OY (a:=x) (b:=Nl) (I:=fun y z Lk=>Nr lo st' Lk/\z=(none,y)/\x<=y/\Seg r (arrOf Lk) lo (lo+y)) (Q:=fun z Lk=>Nr lo st' Lk/\∃y,z=(none,y)/\x<=y/\y<=Nl/\Seg r (arrOf Lk) lo (lo+y)) ?_ ?_ ⟨N4,rfl,KO _,Rn⟩) ?_)
     ·rintro y z Lk Yt hy ⟨N5,rfl,_,Uw⟩;have sz5:=N5.size;refine Kd (iz C (N5.k.trans hk) (N5.mem hm) (by show lo+y<_;lia) (by show lo+y - 1<_;lia) ?_);refine aC (fun c=>Kx ⟨N5,y,rfl,Yt,by lia,Uw⟩) fun c=>Kx ⟨N5,rfl,by lia,fun i j a b d=>?_⟩
      have c':¬rk r (arrOf Lk) (lo+y)<rk r (arrOf Lk) (lo+y - 1):=fun e=>c (Mb e)
      by_cases e:j=lo+y
      ·subst e;by_cases e2:i=lo+y
       ·subst e2;exact KO _
       ·exact LZ (Uw i (lo+y - 1) a (by lia) (by lia)) (Qx.mp c')
      ·exact Uw i j a b (by lia)
     ·rintro z Lk ⟨N5,rfl,hy,Uw⟩;exact⟨N5,_,rfl,hy,by lia,Uw⟩
     ·rintro z Lk ⟨N5,y,rfl,hy,Z8,Uw⟩;exact Kx (h y Lk (by lia) Z8 N5 Uw)
def BK{st:SortSt}{lo n ok:Nat}{Q:Bool->SortSt->Prop}(C:QG M A E s r Mem k0)(hk:kindOf st=k0)(hm:∀x∈(arrOf st).toList,Mem x)(hn:lo+n<=(arrOf st).size)(Ku:ok<=n)(h0:Seg r (arrOf st) lo (lo+ok))
  (h:∀st',Nr lo st st'->Seg r (arrOf st') lo (lo+n)->Q true st'):wpS M A E s (binarySort' lo n ok) Q st:=by
 refine Kd (Oy (OY (I:=fun k c st'=>c=(none,())/\Nr lo st st'/\Seg r (arrOf st') lo (lo+min k n)) (Q:=fun c st'=>c=(none,())/\Nr lo st st'/\Seg r (arrOf st') lo (lo+n)) ?step ?fin ?init) ?post)
 case post =>
  rintro c st' ⟨rfl,N,sg⟩;exact Kx (h st' N sg)
 case init =>
  refine⟨rfl,Nr.refl _ _,fun i j a b c=>?_⟩;by_cases h1:ok=0
  ·rw[show i=j by lia];exact KO _
  ·exact h0 i j a b (by lia)
 case fin =>
  rintro c st' ⟨hc,N,sg⟩;exact⟨hc,N,by rw[show min (max (max ok 1) n) n=n by lia]at sg;exact sg⟩
 case step =>
  rintro k c st' hak R9 ⟨rfl,N,sg⟩;have sz:=N.size;rw[show min k n=k by lia]at sg;refine Kd (Oy (OY (a:=0) (b:=k) (I:=fun x c Kb=>Kb=st'/\∃l u,c=(none,l,u)/\l<=u/\u<=k/\u - l<=k - x/\(∀i,i<l->rk r (arrOf st') (lo+i)<=rk r (arrOf st') (lo+k))/\(∀i,u<=i->i<k->rk r (arrOf st') (lo+k)<rk r (arrOf st') (lo+i)))
   (Q:=fun c Kb=>Kb=st'/\∃l u,c=(none,l,u)/\l<=k/\(∀i,i<l->rk r (arrOf st') (lo+i)<=rk r (arrOf st') (lo+k))/\(∀i,l<=i->i<k->rk r (arrOf st') (lo+k)<rk r (arrOf st') (lo+i))) ?Xl ?Z9 ⟨rfl,0,k,rfl,by lia,by lia,by lia,fun i hi=>by lia,fun i h1 h2=>by lia⟩) ?Xm)
  case Z9 =>
   rintro c Kb ⟨rfl,l,u,rfl,hlr,hrk,Td,O2,QH⟩;have:l=u:=by lia
   subst this;exact⟨rfl,l,l,rfl,hrk,O2,QH⟩
  case Xl =>
   rintro x c Kb _ hxk ⟨rfl,l,u,rfl,hlr,hrk,Td,O2,QH⟩;refine aC (fun Sq=>?_) fun Sq=>?_
   ·have hge':l≥u:=Sq;have:l=u:=by lia
    subst this;exact Kx ⟨rfl,l,l,rfl,hrk,O2,QH⟩
   ·have hge':¬l≥u:=Sq;refine Kd (iz C (N.k.trans hk) (N.mem hm) (by lia) (by show lo+(l+u) / 2<_;lia) ?_);refine aC (fun Rp=>?_) fun Rp=>?_
    ·have OE:rk r (arrOf Kb) (lo+k)<rk r (arrOf Kb) (lo+(l+u) / 2):=Nd Rp;refine Kx ⟨rfl,l,(l+u) / 2,rfl,by lia,by lia,by lia,O2,fun i h1 h2=>?_⟩;exact MV OE (sg _ _ (by lia) (by lia) (by lia))
    ·have OE:¬rk r (arrOf Kb) (lo+k)<rk r (arrOf Kb) (lo+(l+u) / 2):=fun e=>Rp (Mb e)
     refine Kx ⟨rfl,(l+u) / 2+1,u,rfl,by lia,by lia,by lia,fun i h1=>?_,QH⟩;exact LZ (sg (lo+i) (lo+(l+u) / 2) (by lia) (by lia) (by lia)) (Qx.mp OE)
  case Xm =>
   rintro c Kb ⟨rfl,l,u,rfl,hlk,O2,QH⟩;have Um:lo+k<(arrOf Kb).size:=by lia
   refine Kd (RE (Kx ⟨rfl,⟨N.k,N.f,N.p,(bubble_perm _ _ _).trans N.a,fun i hi=>?_⟩,fun i j a b c=>?_⟩))
   ·show(bubble (arrOf Kb) (lo+k) (lo+k - (lo+l)))[i]?=_;rw[getElem?_bubble Um _ (by lia),JT (by lia),JT (by lia)];exact N.fr i hi
   ·show rk r (bubble (arrOf Kb) (lo+k) (lo+k - (lo+l))) i<=rk r (bubble (arrOf Kb) (lo+k) (lo+k - (lo+l))) j;have hl2:∀i,lo<=i->i<lo+l->rk r (arrOf Kb) i<=rk r (arrOf Kb) (lo+k):=fun i a b=>by
     have:=O2 (i - lo) (by lia);rw[show lo+(i - lo)=i by lia]at this;exact this
    have hh2:∀i,lo+l<=i->i<lo+k->rk r (arrOf Kb) (lo+k)<rk r (arrOf Kb) i:=fun i a b=>by have:=QH (i - lo) (by lia) (by lia);rw[show lo+(i - lo)=i by lia]at this;exact this
    rw[sG Um (by lia),sG Um (by lia),show lo+k - (lo+k - (lo+l))=lo+l by lia]
    repeat' split
    all_goals first
     |(exfalso;lia)
     |exact KO _
     |exact hl2 _ (by lia) (by lia)
     |exact QU (hh2 _ (by lia) (by lia))
     |exact sg _ _ (by lia) (by lia) (by lia)
end
def Chain:List (Nat×Nat×Nat)->Nat->Nat->Prop
 |[],s,e=>s=e
 |q::ps,s,e=>q.1=s/\0<q.2.1/\Chain ps (s+q.2.1) e
theorem Chain.len:∀{ps:List (Nat×Nat×Nat)} {s e:Nat},Chain ps s e->s+ps.length<=e
 |[],s,e,h=>by have h':s=e:=h;simp[h']
 |q::ps,s,e,h=>by
  obtain⟨_,h2,h3⟩:=h;have:=Chain.len h3;simp only[Oc]
  lia
theorem Chain.app:∀{ps qs:List (Nat×Nat×Nat)} {s e:Nat},Chain (ps++qs) s e↔∃ m,Chain ps s m/\Chain qs m e
 |[],qs,s,e=>⟨fun h=>⟨s,rfl,h⟩,fun⟨m,h1,h2⟩=>by have:s=m:=h1;rw[this];exact h2⟩
 |q::ps,qs,s,e=>by
  constructor
  ·rintro⟨a,b,c⟩;obtain⟨m,h1,h2⟩:=Chain.app.mp c;exact⟨m,⟨a,b,h1⟩,h2⟩
  ·rintro⟨m,⟨a,b,c⟩,h2⟩;exact⟨a,b,Chain.app.mpr ⟨m,c,h2⟩⟩
theorem Chain.Yu:∀{ps:List (Nat×Nat×Nat)} {s e:Nat},Chain ps s e->∀q∈ps,s<=q.1/\q.1+q.2.1<=e
 |[],_,_,_,q,h=>by cases h
 |p::ps,s,e,h,q,hq=>by
  obtain⟨a,b,c⟩:=h;have l:=Chain.len c;rcases Kr.mp hq with z|z
  ·rw[z];lia
  ·have:=Chain.Yu c q z
   lia
theorem rR{f:Nat×Nat×Nat->Nat×Nat×Nat}(hf:∀q,(f q).1=q.1/\(f q).2.1=q.2.1):∀{ps:List (Nat×Nat×Nat)} {s e:Nat} (i:Nat),Chain ps s e->Chain (ps.modify i f) s e
 |[],s,e,i,h=>by rw[List.modify_nil];exact h
 |q::ps,s,e,0,⟨a,b,c⟩=>by rw[List.modify_cons,JU rfl];exact⟨(hf q).1.trans a,by rw[(hf q).2];exact b,by rw[(hf q).2];exact c⟩
 |q::ps,s,e,i+1,⟨a,b,c⟩=>by rw[List.modify_succ_cons];exact⟨a,b,rR hf i c⟩
theorem xr{f:Nat×Nat×Nat->Nat×Nat×Nat}(hf:∀q,(f q).1=q.1/\(f q).2.1=q.2.1):∀{ps:List (Nat×Nat×Nat)} (i:Nat) {q:Nat×Nat×Nat},q∈ps.modify i f->∃q'∈ps,q.1=q'.1/\q.2.1=q'.2.1
 |[],i,q,h=>by rw[List.modify_nil]at h;cases h
 |p::ps,0,q,h=>by
  rw[List.modify_cons,JU rfl]at h;rcases Kr.mp h with z|z
  ·exact⟨p,by simp,by rw[z];exact(hf p).1,by rw[z];exact(hf p).2⟩
  ·exact⟨q,by simp[z],rfl,rfl⟩
 |p::ps,i+1,q,h=>by
  rw[List.modify_succ_cons]at h;rcases Kr.mp h with z|z
  ·exact⟨p,by simp,by rw[z],by rw[z]⟩
  ·obtain⟨q',m,e⟩:=xr hf i z;exact⟨q',K0 _ m,e⟩
def Cr{ps:List (Nat×Nat×Nat)}{q:Nat×Nat×Nat}(h:q∈ps.modify i f)(hf:∀q,(f q).1=q.1/\(f q).2.1=q.2.1):∃q'∈ps,q.1=q'.1/\q.2.1=q'.2.1:=xr hf i h
section
variable{M:Model}{A:Around}{E:yaa}{s:Shared}{r:Keyed->Nat}{Mem:Keyed->Prop}{k0:SortKind}
structure PI(r:Keyed->Nat)(st st':SortSt)(lo:Nat):Prop where
 k:kindOf st'=kindOf st
 f:failedOf st'=failedOf st
 a:(arrOf st').Perm (arrOf st)
 ch:Chain (pendingOf st').toList 0 lo
 sg:∀q∈(pendingOf st').toList,Seg r (arrOf st') q.1 (q.1+q.2.1)
theorem PI.size{st st':SortSt}{lo:Nat}(h:PI r st st' lo):(arrOf st').size=(arrOf st).size:=h.a.size_eq
def PI.mem{st st':SortSt}{lo:Nat}(h:PI r st st' lo)(hm:∀x∈(arrOf st).toList,Mem x):∀x∈(arrOf st').toList,Mem x:=fun x hx=>hm x ((Vt.mp h.a).mem_iff.mp hx)
def kx{xs ys:Array Keyed}{lo hi:Nat}(h:Seg r xs lo hi)(e:∀i,lo<=i->i<hi->ys[i]?=xs[i]?):Seg r ys lo hi:=fun i j a b c=>by rw[eJ (e i a (by lia)),eJ (e j (by lia) c)];exact h i j a b c
def Ie{α:Type}{l:List α}{i:Nat}(h:i+1<l.length):∃as x y bs,l=as++(x::y::bs)/\as.length=i/\l[i]?=some x/\l[i+1]?=some y:=by refine⟨l.take i,l[i],l[i+1],l.drop (i+2),?_,by rw[NW];lia,LH (by lia),LH h⟩;have e1:l.drop i=l[i]::l.drop (i+1):=RP (by lia);have e2:l.drop (i+1)=l[i+1]::l.drop (i+2):=RP h;rw[<- e2,<- e1,OL]
def xF{st st':SortSt}{lo i:Nat}{Q:Bool->SortSt->Prop}(C:QG M A E s r Mem k0)(hk:kindOf st=k0)(hf:failedOf st=none)(hm:∀x∈(arrOf st).toList,Mem x)(O2:lo<=(arrOf st).size)(I:PI r st st' lo)(hi:i+1<(pendingOf st').size)
  (h:∀Kb,PI r st Kb lo->(pendingOf Kb).size+1=(pendingOf st').size->(∀i,lo<=i->(arrOf Kb)[i]?=(arrOf st')[i]?)->Q true Kb):wpS M A E s (mergeAt' i) Q st':=by
 obtain⟨as,x,y,bs,el,la,gx,gy⟩:=Ie (l:=(pendingOf st').toList) hi;have ch:=I.ch;rw[el]at ch;obtain⟨m,c1,⟨x1,x2,⟨y1,y2,c2⟩⟩⟩:=Chain.app.mp ch;have l2:=c2.len;have sz:=I.size;obtain⟨P,XY,S,e,lP,lXY⟩:=Gi (arrOf st') (lo:=m) (n:=x.2.1+y.2.1) (by lia);obtain⟨X,Y,exy,lX,lY⟩:∃X Y,XY=X++Y/\X.length=x.2.1/\Y.length=y.2.1:=⟨XY.take x.2.1,XY.drop x.2.1,(OL _ _).symm,by rw[NW];lia,by rw[ON];lia⟩;subst exy;have sx:=I.sg x (by rw[el];simp);have sy:=I.sg y (by rw[el];simp);have e1:(arrOf st').toList=P++(X++(Y++S)):=by rw[e,Nt]
 have e2:(arrOf st').toList=(P++X)++(Y++S):=by rw[e1,Nt]
 have sX:X.Pairwise fun x y=>r x<=r y:=jk e1 (by rw[lP,lX,<- x1];exact sx)
 have sY:Y.Pairwise fun x y=>r x<=r y:=jk e2 (by rw[LO,lP,lX,lY,<- y1];exact sy)
 refine Cs C (I.k.trans hk) (I.f.trans hf) (I.mem hm) (sa:=x.1) (na:=x.2.1) (p:=x.2.2) (sb:=y.1) (nb:=y.2.1) (p2:=y.2.2) (by rw[<- LX];exact gx) (by rw[<- LX];exact gy) e1 (by lia) lX lY (by lia) x2 y2 sX sY fun Kb Z a1 a2 a3 a4 a5 a6=>?_
 have pe:(pendingOf Kb).toList=as++((x.1,x.2.1+y.2.1,x.2.2)::bs):=by rw[a3,Array.toList_eraseIdxIfInBounds,YJ,el,<- la,List.set_append_right _ _ (KO _),TJ,List.set_cons_zero,List.eraseIdx_append_of_length_le (by lia),UI];rfl
 have lZ:Z.length=x.2.1+y.2.1:=by rw[a5.length_eq,LO,lX,lY]
 have outL:∀i,i<m->(arrOf Kb)[i]?=(arrOf st')[i]?:=fun i hi=>by rw[<- LX,<- LX,a4,e,OV (by lia),OV (by lia)]
 have Xn:∀i,m+(x.2.1+y.2.1)<=i->(arrOf Kb)[i]?=(arrOf st')[i]?:=fun i hi=>by rw[<- LX,<- LX,a4,e,NM (by lia),NM (by lia),NM (by lia),NM (by lia),lZ,lXY]
 refine h Kb ⟨a1.trans hk.symm,a2.trans hf.symm,?_,?_,fun q hq=>?_⟩ ?_ fun i hi=>Xn i (by lia)
 ·refine Array.Perm.trans (Vt.mpr ?_) I.a;rw[a4,e];exact List.Perm.append_left _ (List.Perm.append_right _ a5)
 ·rw[pe];exact Chain.app.mpr ⟨m,c1,x1,by show 0<x.2.1+y.2.1;lia,by show Chain bs (m+(x.2.1+y.2.1)) lo;rw[<- Nat.add_assoc];exact c2⟩
 ·rw[pe]at hq;rcases KR.mp hq with z|z
  ·have:=c1.Yu q z;exact kx (I.sg q (by rw[el];exact Ob _ z)) fun i a b=>outL i (by lia)
  ·rcases Kr.mp z with z|z
   ·rw[z];show Seg r (arrOf Kb) x.1 (x.1+(x.2.1+y.2.1));have:=wM (r:=r) a4 a6;rw[lP,lZ]at this;rw[x1];exact this
   ·have:=c2.Yu q z;exact kx (I.sg q (by rw[el];exact MO _ (K0 _ (K0 _ z)))) fun i a b=>Xn i (by lia)
 ·have z1:(pendingOf Kb).toList.length=(pendingOf Kb).size:=rfl;have z2:(pendingOf st').toList.length=(pendingOf st').size:=rfl;rw[<- z1,<- z2,pe,el];simp only[LO,Oc]
  lia
def Bc{st:SortSt}{Q:Unit->SortSt->Prop}(C:QG M A E s r Mem k0)(hk:kindOf st=k0)(hf:failedOf st=none)(hp:pendingOf st=#[])(hm:∀x∈(arrOf st).toList,Mem x)(n1:1<=(arrOf st).size)
  (h:∀st',(arrOf st').Perm (arrOf st)->failedOf st'=none->Seg r (arrOf st') 0 (arrOf st).size->Q () st'):wpS M A E s sortRuns' Q st:=by
 have I0:PI r st st 0:=⟨rfl,rfl,Array.Perm.refl _,by rw[hp];exact rfl,fun q hq=>by rw[hp]at hq;cases hq⟩;refine Kd (wpS_get ?_);refine Kd (Oy (OY (a:=0) (b:=(arrOf st).size) (I:=fun x z st'=>∃lo,z=(none,lo)/\lo<=(arrOf st).size/\(x<=lo∨(arrOf st).size<=lo)/\PI r st st' lo) (Q:=fun z st'=>z=(none,(arrOf st).size)/\PI r st st' (arrOf st).size) ?_ ?_ ⟨0,rfl,Mx _,.inl (KO _),I0⟩) ?_)
 ·rintro x z Yo _ hx ⟨lo,rfl,O2,hx2,I⟩;have sz:=I.size;refine aC (fun c=>?_) fun c=>?_
  ·have c':lo≥(arrOf st).size:=c;have e:lo=(arrOf st).size:=by lia
   subst e;exact Kx ⟨rfl,I⟩
  have c':¬lo≥(arrOf st).size:=c;refine Kd (zN C (I.k.trans hk) (I.mem hm) (show lo+((arrOf st).size - lo)=(arrOf Yo).size by lia) (show 1<=(arrOf st).size - lo by lia) fun m Kb m1 m2 N sg=>?_);have m2':m<=(arrOf st).size - lo:=m2;have Ya:=N.size;have keep:∀{Ni:SortSt},Nr lo Yo Ni->PI r st Ni lo:=fun {Ni} N3=>⟨N3.k.trans I.k,N3.f.trans I.f,N3.a.trans I.a,by rw[N3.p];exact I.ch,fun q hq=>by rw[N3.p]at hq;have:=I.ch.Yu q hq;exact kx (I.sg q hq) fun i a b=>N3.fr i (by lia)⟩
  refine aC (fun cm=>?_) fun cm=>?_
  case' refine_1 =>
   refine Kd (wpS_lift (wpAny_rule ⟨rfl,?_⟩));refine Kd (BK C ((N.k.trans I.k).trans hk) (fun x hx=>I.mem hm x ((Vt.mp N.a).mem_iff.mp hx)) (lo:=lo) (n:=min ((arrOf st).size - lo) (minRun' (arrOf st).size (arrOf st).size 0)) (ok:=m) (by lia) ?_ sg fun Ni N3 Ux=>?_)
   case' refine_1.refine_1 =>
    have cm':m<minRun' (arrOf st).size (arrOf st).size 0:=cm
    lia
   refine aC (fun z=>absurd z (by decide)) fun _=>?_
   have NN:=N.trans N3;obtain⟨n,hn⟩:∃n,n=min ((arrOf st).size - lo) (minRun' (arrOf st).size (arrOf st).size 0):=⟨_,rfl⟩;rw[<- hn]at Ux;have n0:0<n:=by
    have cm':m<minRun' (arrOf st).size (arrOf st).size 0:=cm
    lia
   have nn:lo+n<=(arrOf st).size:=by lia
  case' refine_2 =>
   have NN:=N;obtain⟨n,hn⟩:∃n,n=m:=⟨_,rfl⟩;have Ux:=sg;rw[<- hn]at Ux;have n0:0<n:=by lia
   have nn:lo+n<=(arrOf st).size:=by lia
  all_goals
   have I3:=keep NN;have psh:∀Lk:SortSt,PI r st Lk lo->Seg r (arrOf Lk) lo (lo+n)->PI r st (setPending Lk ((pendingOf Lk).push (lo,n,0))) (lo+n):=fun Lk I4 Rn=>⟨I4.k,I4.f,I4.a,by
    show Chain ((pendingOf Lk).push (lo,n,0)).toList 0 (lo+n);rw[Tw];exact Chain.app.mpr ⟨lo,I4.ch,rfl,n0,rfl⟩,fun q hq=>by
    have Q4:q∈((pendingOf Lk).push (lo,n,0)).toList:=hq;rw[Tw]at Q4;rcases KR.mp Q4 with z|z
    ·exact I4.sg q z
    ·rw[LQ.mp z];exact Rn⟩
   have Te:∀e,n=e->∀Lk:SortSt,PI r st Lk lo->Seg r (arrOf Lk) lo (lo+n)->∃Xo,((none,lo+e):Option Unit×Nat)=(none,Xo)/\Xo<=(arrOf st).size/\(x+1<=Xo∨(arrOf st).size<=Xo)/\PI r st (setPending Lk ((pendingOf Lk).push (lo,e,0))) Xo:=fun e he Lk I4 Rn=>by subst he;exact⟨lo+n,rfl,nn,by lia,psh Lk I4 Rn⟩
   refine Kd (wpS_get ?_);dsimp only;split
   ·refine Kd (Oy (OY (a:=0) (b:=(arrOf st).size) (I:=fun x z Lk=>z=(none,())/\PI r st Lk lo/\Seg r (arrOf Lk) lo (lo+n)) (Q:=fun z Lk=>z=(none,())/\PI r st Lk lo/\Seg r (arrOf Lk) lo (lo+n)) ?_ (fun _ _ z=>z) ⟨rfl,I3,Ux⟩) ?_)
    ·rintro x z Lk _ hx ⟨rfl,I4,Rn⟩;refine Kd (wpS_get ?_);split
     ·rename_i heq;have hp:(pendingOf Lk).size > 1:=by
       by_cases c:(pendingOf Lk).size > 1
       ·exact c
       ·rw[JT c]at heq;cases heq
      refine aC (fun _=>Kx ⟨rfl,I4,Rn⟩) fun _=>Kd (xF C hk hf hm (by lia) I4 (show(pendingOf Lk).size - 2+1<(pendingOf Lk).size by lia) fun SV I5 _ fr=>?_)
      exact aC (fun z=>absurd z (by decide)) fun _=>Kx ⟨rfl,I5,kx Rn fun i a b=>fr i a⟩
     ·exact Kx ⟨rfl,I4,Rn⟩
    ·rintro z Lk ⟨rfl,I4,Rn⟩;refine Kd (RE ?_);refine Kd (RE (Kx (Te _ hn _ ?_ ?_)))
     ·exact⟨I4.k,I4.f,I4.a,by
       show Chain ((pendingOf Lk).modify _ _).toList 0 lo;rw[Array.toList_modify];refine rR ?_ _ I4.ch;exact fun _=>⟨rfl,rfl⟩,fun q hq=>by
       have Q4:q∈((pendingOf Lk).modify _ _).toList:=hq;rw[Array.toList_modify]at Q4;obtain⟨q',m',e1,e2⟩:=Cr Q4 fun _=>⟨rfl,rfl⟩
       rw[e1,e2];exact I4.sg q' m'⟩
     ·exact Rn
   ·exact Kd (RE (Kx (Te _ hn _ I3 Ux)))
 ·rintro z st' ⟨lo,rfl,h1,h2,I⟩;have e:lo=(arrOf st).size:=by lia
  rw[e]at I;exact⟨by rw[e],I⟩
 ·rintro z st' ⟨rfl,I⟩;have sz:=I.size;have pl:=I.ch.len;have Yv:(pendingOf st').size<=(arrOf st).size:=by rw[Pn]at pl;exact pl
  refine Kd (Oy (OY (a:=0) (b:=(arrOf st).size) (I:=fun x z Kb=>z=(none,())/\PI r st Kb (arrOf st).size/\((pendingOf Kb).size<=1∨(pendingOf Kb).size+x<=(arrOf st).size)) (Q:=fun z Kb=>z=(none,())/\PI r st Kb (arrOf st).size/\(pendingOf Kb).size<=1) ?_ ?_ ⟨rfl,I,.inr Yv⟩) ?_)
  ·rintro x z Kb _ hx ⟨rfl,I2,h2⟩;refine Kd (wpS_get ?_);refine aC (fun c=>Kx ⟨rfl,I2,c⟩) fun c=>?_
   have c':¬(pendingOf Kb).size<=1:=c;have ix:∀(c:Prop) [Decidable c],(if c then(pendingOf Kb).size - 2 - 1 else(pendingOf Kb).size - 2)+1<(pendingOf Kb).size:=fun c _=>by split<;>lia
   refine Kd (xF C hk hf hm (KO _) I2 (ix _) fun Ni I3 h3 _=>?_);refine aC (fun z=>absurd z (by decide)) fun _=>Kx ⟨rfl,I3,by lia⟩
  ·rintro z Kb ⟨rfl,I2,h2⟩;exact⟨rfl,I2,by lia⟩
  ·rintro z Kb ⟨rfl,I2,h2⟩;refine Kx (h Kb I2.a (I2.f.trans hf) ?_);have z1:(pendingOf Kb).toList.length=(pendingOf Kb).size:=rfl;have ch:=I2.ch;have sg:=I2.sg;generalize (pendingOf Kb).toList=ps at *;rcases ps with _|⟨q,_|⟨q2,ps⟩⟩
   ·have:0=(arrOf st).size:=ch
    lia
   ·obtain⟨a,b,c⟩:=ch;have c':0+q.2.1=(arrOf st).size:=c;have:=sg q (by simp);rw[a,c']at this;exact this
   ·simp only[Oc]at z1
    lia
end
end TS
namespace SW
open PySem PyProof.Rows
section
variable{prog:Program}{w:World}{A:Around}{E:yaa}{s:Shared}
def Ck(a:(TK prog w).is h k c)(b:(TK prog w).is h k' c):k=k':=by obtain⟨o,items,n,ho,hc,hd,hi⟩:=a;obtain⟨o',Up,n',Nx,PR,Pd,Yl⟩:=b;rw[ho]at Nx;cases Nx;rw[hd]at Pd;cases Pd;exact PySem.ItemsAre.inj hi Yl
def Ax {zs : List (yaf × Addr)} {P : PySem.Fin -> Shared -> Prop} (ho : s.heap.get? a = some (seqObj "list" ((zs.map (·.2)).map Value.ref).toArray n)) (hz : zs.length <= sizeLine)
  (h : ∀ z ∈ zs, (TK prog w).is s.heap z.1 z.2 /\ z.1 ≠ [])
  (hP : ∀ h' (ys : List (yaf × Addr)) c2, ys.Perm zs -> ys.Pairwise (fun x y => lexLt y.1 x.1 = false) -> (∀ b o, b ≠ a -> s.heap.get? b = some o -> h'.get? b = some o) →
   h'.get? a = some (seqObj "list" ((ys.map (·.2)).map Value.ref).toArray c2) -> P (.done (.ret .none)) { s with heap := h' }) : wpAny (model prog w) A (Builtin.«list.sort» ⟨[.ref a], []⟩) P E s := by
 have ha : a < s.heap.objs.size := LC ho;have lv : ((zs.map (·.2)).map Value.ref).length = zs.length := by rw [J6, J6]
 obtain ⟨e1, Ta⟩ : ∃ e1, (s.heap.update a (Obj.mapSeq fun _ => (#[] : yao))).get? a = some (seqObj "list" #[] e1) := ⟨_, get?_update_seq ho fun _ => #[]⟩;rw [list_sort_plain];refine JX (listItems_at ho rfl ?_);refine JX (listUpdate_at ho rfl ?_ (by rw [MD, lv]; exact hz) (Mx _));refine JX (seqEpoch_at Ta rfl ?_);refine JX (wpAny_newTuple ?_ (by show ((zs.map (·.2)).map Value.ref).length <= _; rw [lv]; exact hz));refine JX (wpAny_newList ?_ (Mx _));refine OO ?_;show wpAny (model prog w) A _ P E { s with heap := ((s.heap.update a (Obj.mapSeq fun _ => (#[] : yao))).push (seqObj "tuple" ((zs.map (·.2)).map Value.ref).toArray 0)).push (seqObj "list" #[] 0) };have Sk : (((s.heap.update a (Obj.mapSeq fun _ => (#[] : yao))).push (seqObj "tuple" ((zs.map (·.2)).map Value.ref).toArray 0)).push (seqObj "list" #[] 0)).get? a = some (seqObj "list" #[] e1) := Mv _ (Mv _ Ta);have Px : ∀ b o, b ≠ a -> s.heap.get? b = some o -> (((s.heap.update a (Obj.mapSeq fun _ => (#[] : yao))).push (seqObj "tuple" ((zs.map (·.2)).map Value.ref).toArray 0)).push (seqObj "list" #[] 0)).get? b = some o := fun b o hb e =>
  Mv _ (Mv _ ((Tq _ _ (Ne.symm hb)).trans e))
 generalize ((s.heap.update a (Obj.mapSeq fun _ => (#[] : yao))).push (seqObj "tuple" ((zs.map (·.2)).map Value.ref).toArray 0)).push (seqObj "list" #[] 0) = H at Sk Px ⊢;have fin : ∀ (ys : List (yaf × Addr)) (out : yao), ys.Perm zs -> ys.Pairwise (fun x y => lexLt y.1 x.1 = false) -> out = ((ys.map (·.2)).map Value.ref).toArray -> P (.done (.ret .none)) { s with heap := H.update a (Obj.mapSeq fun _ => out) } := fun ys out O S e => by subst e;obtain ⟨c2, hc2⟩ : ∃ c2, (H.update a (Obj.mapSeq fun _ => ((ys.map (·.2)).map Value.ref).toArray)).get? a = some (seqObj "list" ((ys.map (·.2)).map Value.ref).toArray c2) := ⟨_, get?_update_seq Sk fun _ => ((ys.map (·.2)).map Value.ref).toArray⟩;exact hP _ ys c2 O S (fun b o hb e => (Tq _ _ (Ne.symm hb)).trans (Px b o hb e)) hc2
 have pe : (((zs.map (·.2)).map Value.ref).toArray.zip ((zs.map (·.2)).map Value.ref).toArray).toList = zs.map fun z => (Value.ref z.2, Value.ref z.2) := by
  rw [Array.toList_zip];show ((zs.map (·.2)).map Value.ref).zip ((zs.map (·.2)).map Value.ref) = _;clear fin Px Sk Ta hP h ho lv hz
  induction zs with
  | nil => rfl
  | cons z zs ih => simp only [K5, List.zip_cons_cons]; rw [ih]
 dsimp only;by_cases hn : ((zs.map (·.2)).map Value.ref).toArray.size < 2
 ·rw [JU hn, JU hn];refine JX (Ki ?_);rw [StateT.run_pure];refine JX (Ki ?_);dsimp only;refine JX (seqEpoch_at Sk rfl ?_);have oe : (((zs.map (·.2)).map Value.ref).toArray.zip ((zs.map (·.2)).map Value.ref).toArray).map (·.2) = ((zs.map (·.2)).map Value.ref).toArray := by
   apply Array.toList_inj.mp;rw [Array.toList_map, pe, MX, MX];rfl
  refine JX (listUpdate_at Sk rfl ?_ (hsz2 := by rw [oe, MD, lv]; exact Nat.le_succ_of_le hz));simp only [bne_self_eq_false, OM, if_false];refine Ki (fin zs _ (UY _) ?_ oe);rw [MD, lv] at hn
  match zs, hn with
  | [], _ => exact .nil
  | [_], _ => exact List.pairwise_singleton _ _
 ·rw [JT hn, JT hn];rw [MD, lv] at hn;have hH : ∀ z ∈ zs, (TK prog w).is H z.1 z.2 /\ z.1 ≠ [] := fun z Oi => by
   obtain ⟨q1, q2⟩ := h z Oi;exact ⟨jF q1 fun o e => Px z.2 o (key_ne q1 ho rfl (by decide)) e, q2⟩
  have gj : ∀ (j : Nat) (c : Addr), (zs.map (·.2))[j]? = some c -> ∃ z ∈ zs, zs[j]? = some z /\ z.2 = c := fun j c hj => by
   rw [M9] at hj;cases e : zs[j]? with
   | none => rw [e] at hj; cases hj
   | some z => rw [e] at hj; cases hj; exact ⟨z, NS e, rfl, rfl⟩
  refine JX (wk (s := { s with heap := H }) (cs := zs.map (·.2)) (K := fun j => (zs.getD j ([], 0)).1) (by rw [J6]; lia) (fun j c hj => by obtain ⟨z, Oi, e, rfl⟩ := gj j c hj;rw [Nq, e];exact hH z Oi) ?_)
  let key : Keyed -> yaf := fun p => by
   classical
   exact if q : ∃ z ∈ zs, p.1 = Value.ref z.2 then (Classical.choose q).1 else []
  have Qh : ∀ z ∈ zs, ∀ v, key (Value.ref z.2, v) = z.1 := fun z Oi v => by
   have q : ∃ z' ∈ zs, (Value.ref z.2 : Value) = Value.ref z'.2 := ⟨z, Oi, rfl⟩;show (if q : ∃ z' ∈ zs, (Value.ref z.2 : Value) = Value.ref z'.2 then (Classical.choose q).1 else []) = z.1;rw [dif_pos q];obtain ⟨m, e⟩ := Classical.choose_spec q;have e' : z.2 = (Classical.choose q).2 := by injection e
   have k1 := (hH _ m).1;rw [<- e'] at k1;exact Ck k1 (hH z Oi).1
  have C : TS.QG (model prog w) A E { s with heap := H } (fun p => rank (zs.map (·.1)) (key p)) (fun p => ∃ z ∈ zs, p = (Value.ref z.2, Value.ref z.2)) (tuples' true) := ⟨fun x y st Q ⟨z, Vl, ex⟩ ⟨z', Xp, ey⟩ hk q => by subst ex ey;rw [lt'_eq];refine Kd (wpS_get ?_);rw [hk];refine Kd (wpS_lift (wpAny_attempt (zL (hH z Vl).1 (hH z' Xp).1 ⟨rfl, ?_⟩)));refine Kx ?_;rw [Qh z Vl, Qh z' Xp, xy (KH.mpr ⟨z, Vl, rfl⟩) (KH.mpr ⟨z', Xp, rfl⟩)] at q;exact q⟩
  refine JX (NP (TS.Bc (Q := fun _ st' => ∃ ys : List (yaf × Addr), ys.Perm zs /\ ys.Pairwise (fun x y => lexLt y.1 x.1 = false) /\ failedOf st' = none /\ (arrOf st').toList = ys.map fun z => (Value.ref z.2, Value.ref z.2)) C rfl rfl rfl ?_ ?_ ?_) ?_ fun _ _ e => e)
  ·intro x hx;have NY : x ∈ (((zs.map (·.2)).map Value.ref).toArray.zip ((zs.map (·.2)).map Value.ref).toArray).toList := hx;rw [pe] at NY;obtain ⟨z, Oi, rfl⟩ := KH.mp NY;exact ⟨z, Oi, rfl⟩
  ·show 1 <= (((zs.map (·.2)).map Value.ref).toArray.zip ((zs.map (·.2)).map Value.ref).toArray).size;rw [<- NU, pe, J6]
   lia
  ·intro st' pm hf sg;have pl := Vt.mp pm;have Yv : (arrOf st').toList.Perm (((zs.map (·.2)).map Value.ref).toArray.zip ((zs.map (·.2)).map Value.ref).toArray).toList := pl;rw [pe] at Yv;obtain ⟨ys, py, ey⟩ := vj Yv zs rfl;refine ⟨ys, py, ?_, hf, ey⟩;have len : (arrOf st').toList.length = ys.length := by rw [ey, J6]
   have sg2 : ((arrOf st').toList).Pairwise fun x y => rank (zs.map (·.1)) (key x) <= rank (zs.map (·.1)) (key y) := TS.jk (xs := arrOf st') (P := []) (S := []) (by simp) (by have : (arrOf st').toList.length = (((zs.map (·.2)).map Value.ref).toArray.zip ((zs.map (·.2)).map Value.ref).toArray).size := pm.size_eq;rw [this];show TS.Seg _ (arrOf st') 0 (0 + _);rw [Pn];exact sg)
   rw [ey, VH] at sg2;refine sg2.imp_of_mem fun {x y} hx hy q => ?_
   have mx := py.mem_iff.mp hx;have my := py.mem_iff.mp hy;rw [Qh x mx, Qh y my] at q;rw [<- xy (KH.mpr ⟨y, my, rfl⟩) (KH.mpr ⟨x, mx, rfl⟩)];exact Qb (Qx.mpr q)
  ·rintro ⟨⟨⟩, st'⟩ s' ⟨rfl, ys, py, sy, hf, ey⟩;dsimp only;have hout : (arrOf st').map (·.2) = ((ys.map (·.2)).map Value.ref).toArray := by
    apply Array.toList_inj.mp;rw [Array.toList_map, ey, MX, MX];rfl
   rw [hout];refine JX (seqEpoch_at Sk rfl ?_);refine JX (listUpdate_at Sk rfl ?_ (Mx _) (by rw [MD, J6, J6, py.length_eq]; exact Nat.le_succ_of_le hz));have Xc : failedOf st' = none := hf;rw [Xc];simp only [bne_self_eq_false, OM, if_false];exact Ki (fin ys _ py sy rfl)
end
open PySem PySem.SetTable ST PySem.W PyProof.Rows
section
variable{prog:Program}{w:World}{A:Around}{E:yaa}{s:Shared}
def Jm(prog:Program)(w:World)(A:Around)(s:Shared)(v:Value)(xs:List (yaf×Addr)):Prop:=∀(R:yad->Shared->Prop) (E:yaa),(∀s1 (zs:List (yaf×Addr)),zs.Perm xs->(∀b o,s.heap.get? b=some o->s1.heap.get? b=some o)->s1.gens=s.gens->s1.drawn=s.drawn->s1.os=s.os->s.heap.objs.size<=s1.heap.objs.size->R ((zs.map (·.2)).map Value.ref) s1)->wpAny (model prog w) A (collect v) R E s
def Be {Q : yaa} (hcol : Jm prog w A.in1 s v xs) (hn : xs.length <= 900) (Rg : ∀ x ∈ xs, (TK prog w).is s.heap x.1 x.2 /\ x.1 ≠ [])
  (hQ : ∀ s' (D : Addr) (ys : List (yaf × Addr)) c, (∀ b o, s.heap.get? b = some o -> s'.heap.get? b = some o) -> s'.gens = s.gens -> s'.drawn = s.drawn -> s'.os = s.os -> s.heap.objs.size <= D -> ys.Perm xs -> ys.Pairwise (fun x y => lexLt y.1 x.1 = false) →
   s'.heap.get? D = some (seqObj "list" (ys.map fun y => Value.ref y.2).toArray c) -> Q (.ref D) s') : wpAny (model prog w) A (call (.builtin "sorted") [v]) Q E s := by
 refine Calls.call_function_entry kind_sorted plain_sorted entry_sorted (args_sorted1 _) ?_;unfold Builtin.«sorted»;refine JX (m := checkCount "sorted" 1 1 _) (Ki ?_);refine JX (hcol _ _ fun s1 zs pz kp g1 g2 g3 le => ?_);have lz : zs.length = xs.length := pz.length_eq;have sl : 900 <= sizeLine := by rw [sizeLine_eq]; decide
 refine JX (wpAny_newList ?_ (by rw [J6, J6]; lia));have X1 : (s1.heap.push (seqObj "list" ((zs.map (·.2)).map Value.ref).toArray 0)).get? s1.heap.objs.size = some (seqObj "list" ((zs.map (·.2)).map Value.ref).toArray 0) := Ou _ rfl;have kp2 : ∀ b o, s.heap.get? b = some o -> (s1.heap.push (seqObj "list" ((zs.map (·.2)).map Value.ref).toArray 0)).get? b = some o := fun b o e => Mv _ (kp b o e)
 show wpAny _ _ _ _ _ { s1 with heap := s1.heap.push (seqObj "list" ((zs.map (·.2)).map Value.ref).toArray 0) };refine JX (OO (VO slot_list_sort ⟨_, X1, rfl⟩ entry_list_sort ?body (args_list_sort _)))
 case body =>
  refine Ax (s := { s1 with heap := s1.heap.push (seqObj "list" ((zs.map (·.2)).map Value.ref).toArray 0) }) X1 (by lia) (fun z hz => ?_) fun h' ys c2 py sy Px hD => ?_
  ·have := Rg z (pz.mem_iff.mp hz);exact ⟨jF this.1 fun o e => kp2 _ o e, this.2⟩
  ·refine ⟨_, rfl, Ki ⟨_, rfl, hQ _ s1.heap.objs.size ys c2 (fun b o e => ?_) g1 g2 g3 le (py.trans pz) sy ?_⟩⟩
   ·exact Px b o (Nf (MV (LC e) le)) (kp2 b o e)
   ·rw [MX] at hD;exact hD
def wN {Q : yaa} (hh : A.handled = none) (X : gI prog w s.heap a xs) (hn : xs.length <= 900) (LY : ∀ x ∈ xs, x.1 ≠ [])
  (hQ : ∀ s' (D : Addr) (ys : List (yaf × Addr)) c, (∀ b o, s.heap.get? b = some o -> s'.heap.get? b = some o) -> s'.gens = s.gens -> s'.drawn = s.drawn -> s'.os = s.os -> s.heap.objs.size <= D -> ys.Perm xs -> ys.Pairwise (fun x y => lexLt x.1 y.1 = true) →
   s'.heap.get? D = some (seqObj "list" (ys.map fun y => Value.ref y.2).toArray c) -> Q (.ref D) s') : wpAny (model prog w) A (call (.builtin "sorted") [.ref a]) Q E s := by
 obtain ⟨⟨o, es, ep, t, ho, hex, hd, he, T, Lr, _, _⟩, Rg, nd⟩ := X;have sz : es.size = xs.length := by rw [<- NU, he, J6]
 refine Be (xs := xs) (fun R E' k => ?_) hn (fun x hx => ⟨Rg x hx, LY x hx⟩) fun s' D ys c a1 a2 a3 a4 a5 py sy hD => hQ s' D ys c a1 a2 a3 a4 a5 py ?_ hD
 ·refine wc (show A.in1.handled = none from hh) ho hex.1 hd T (by rw [J6, sz]) Lr (by lia) fun s1 acc kp g1 g2 g3 le ea => ?_
  obtain ⟨zs, pz, ez⟩ := vj (m9 w a es ep) xs he;have ea' : acc = (zs.map (·.2)).map Value.ref := by rw [ea, ez, MX, MX]; rfl
  rw [ea'];exact k s1 zs pz kp g1 g2 g3 le
 ·have Yk : (ys.map (·.1)).Nodup := (py.map (·.1)).nodup_iff.mpr nd;have nd3 : ys.Pairwise fun x y => x.1 ≠ y.1 := VH.mp Yk
  refine (sy.and nd3).imp fun {x y} J5 => ?_
  obtain ⟨q1, q2⟩ := J5;rcases ji _ _ q1 with e | e
  ·exact absurd e.symm q2
  ·exact e
end
end SW
namespace PD
open PySem PySem.Spec PyProof.Rows L2
section
variable{X:Cx}{pos:Pos}
def boot_sorted:bootBuiltins "sorted" = some (.builtin "sorted"):=by kernel_rfl
def boot_set:bootBuiltins "set" = some (.type "set"):=by kernel_rfl
theorem o5:∀{ns:yaf} {us:yad},Vals (ns.map V.int) us->PySem.ItemsAre (intKind prog w) ns us
 |[],us,r=>by rw[RD]at r;cases r;exact .nil
 |n::ns,us,r=>by
  rw[K5]at r;cases r with
  |cons h t =>
   obtain⟨tk,rfl⟩:=h;exact .cons (by simp[intKind,Value.isInt]) (o5 t)
def xm{k:yaf}(I:Inv X pins σ H s)(h:Le X.K H a (k.map V.int)):(SW.TK X.prog X.w).is s.heap k a:=by obtain⟨JZ,r,⟨o,e,hc,n,hd⟩,_⟩:=I.tuple h.w;exact⟨o,JZ.toArray,n,e,hc,hd,by simpa using o5 r⟩
def Aj(hr:bB k A):A.in1.in1.in1.units<cLine:=UN (Nat.add_le_add_left (by decide:3<=64) _) hr.units
def tupI(k:yaf):D:=.tup (k.map D.int)
def Jj{K:yac}{P:yak}{H:Hp}{k:yaf}{v:V}(h:Den K P H (tupI k) v):∃a,v=.ref a/\Le K H a (k.map V.int):=by obtain⟨a,vs,e,q,hd⟩:=h.N1;rw[iE hd]at q;exact⟨a,e,q⟩
def t4(ys ks:List (yaf)):Prop:=ys.Pairwise (fun x y=>SW.lexLt x y=true)/\∀k,k∈ys↔k∈ks
def BV(te:DE):DA:=fun ρ Q=>te ρ fun d=>∃t ks,d=.lst t (ks.map tupI)/\ks.length<=900/\(∀k∈ks,k ≠ [])/\∀ys,t4 ys ks->Q (ys.map tupI)
def oO {e:Expr} {te:DE} {p p2 Qo:Pos} (hc:X.calm=true) (hu:X.A.in1.in1.in1.units<cLine) (hg:Gl X "sorted") (hm:X.mg "sorted" = none) (hg2:Gl X "set") (QI:X.mg "set" = none) (he:Kn X e te)
  (MT:starEach [.Call (.Name "set" p2) [e] [] Qo] X.env=(false,eval (.Call (.Name "set" p2) [e] [] Qo) X.env)::starEach [] X.env:=by rfl) (Lr:(backTo pos (starEach [] X.env)).any (·.1)=false:=by rfl)
  (Qm:starEach [e] X.env=(false,eval e X.env)::starEach [] X.env:=by rfl) (hpl2:(backTo Qo (starEach [] X.env)).any (·.1)=false:=by rfl) :
  OG X (.Call (.Name "sorted" p) [.Call (.Name "set" p2) [e] [] Qo] [] pos) (BV te):=by
 intro pins s σ H W ρ Q I r h;refine RA (dQ I hg hm boot_sorted ?_ (by decide) (by decide));refine PyProof.Rows.callWith_builtin1 ?_ MT Lr;rw[MT];show wpAny _ _ (spliced ((false,eval (.Call (.Name "set" p2) [e] [] Qo) X.env)::backTo pos (starEach [] X.env))) _ _ s;refine Calls.spliced_cons ?_;refine RA (dQ I hg2 QI boot_set ?_ (by decide) (by decide));refine PyProof.Rows.callWith_type1 ?_ Qm hpl2;rw[Qm];show wpAny _ _ (spliced ((false,eval e X.env)::backTo Qo (starEach [] X.env))) _ _ s;refine Calls.spliced_cons (J0 (he pins s σ H W ρ _ I r h) fun u s1 J5=>?_);obtain⟨v,H1,d,I1,rv,e1,hd,t,ks,ed,lk,LY,q⟩:=J5;subst ed;obtain⟨l,vs,ev,_,hq,hw⟩:=hd.MR;subst ev;cases rv;refine Ki ?_;obtain⟨JZ,rv,pl,_⟩:=I1.list hq;have hh:=I1.ok.hd hc;have lvs:vs.length=ks.length:=by rw[hw.len,J6]
 have lit:JZ.length=ks.length:=by rw[<- rv.length,lvs]
 have at_:∀(j:Nat) (k:yaf),ks[j]?=some k->∃c:Addr,JZ[j]?=some (Value.ref c)/\Le X.K H1 c (k.map V.int):=fun j k hk=>by obtain⟨v,ev,hv⟩:=hw.get (i:=j) (d:=tupI k) (by rw[M9,hk];rfl);obtain⟨c,rfl,hc⟩:=Jj hv;obtain⟨u,eu,ru⟩:=rv.get ev;cases ru;exact⟨c,eu,hc⟩
 refine SW.call_set_list hh hu pl.isList (by rw[MD];lia) (fun j=>ks.getD j []) (fun j v hj=>?_) fun h2 tk2 ys kp S yl yk yi=>?_
 ·have Qp:JZ[j]?=some v:=by simpa using hj
  have lj:j<ks.length:=by rw[<- lit];exact(MZ.mp Qp).1
  obtain⟨c,ec,Nz⟩:=at_ j ks[j] (LH lj);rw[Qp]at ec;cases ec;rw[show ks.getD j []=ks[j]by simp[lj]];exact⟨c,rfl,xm I1 Nz⟩
 ·have I2:L2.Inv X pins σ H1 {s1 with heap:=h2,toks:=tk2}:=I1.kept kp;refine Ki ?_;rw[MD]at yl yk yi;have Xq:∀k,k∈ys.map (·.1)↔k∈ks:=fun k=>by
   rw[yk k];constructor
   ·rintro⟨j,lj,e⟩;rw[lit]at lj;rw[e,show ks.getD j []=ks[j]by simp[lj]];exact P9 lj
   ·intro hk;obtain⟨j,lj,e⟩:=QQ hk;exact⟨j,by rw[lit];exact lj,by rw[<- e];simp[lj]⟩
  have den:∀y∈ys,Le X.K H1 y.2 (y.1.map V.int):=fun y hy=>by
   obtain⟨j,lj,ej⟩:=yi y hy;have ej':JZ[j]?=some (.ref y.2):=by simpa using ej
   rw[lit]at lj;obtain⟨c,ec,Nz⟩:=at_ j ks[j] (LH lj);rw[ej']at ec;cases ec;have k1:=xm I2 Nz;rw[(SW.TK X.prog X.w).inj (S.Yj y hy) k1];exact Nz
  refine SW.wN (s:={s1 with heap:=h2,toks:=tk2}) hh S (by lia) (fun y hy=>LY _ ((Xq _).mp (KH.mpr ⟨y,hy,rfl⟩))) fun s' D zs c Sj g1 g2 g3 le pz sz hD=>?_
  have lz:zs.length=ys.length:=pz.length_eq;have es:s'={s1 with heap:=s'.heap,toks:=s'.toks}:=by cases s';dsimp only at g1 g2 g3 ⊢;subst g1 g2 g3;rfl
  have hz:s1.heap.objs.size<=D:=by obtain⟨_,_,_,_,ho,_⟩:=S.ex;exact QU (MV (LC ho) le)
  have nD:H1 D=none:=I1.Ku.fresh hz;have I3:L2.Inv X pins σ (L2.upd H1 D (.lst (zs.map fun z=>V.ref z.2))) s':=by
   rw[es];refine I1.laid (fun b u e=>Sj b u (kp b u e)) hz ⟨by rw[J6,sizeLine_eq];lia,zs.map fun z=>Value.ref z.2,c,?_,hD⟩;clear pz sz hD lz
   induction zs with
   |nil=>exact .nil
   |cons z zs ih=>exact .cons rfl ih
  have dz:af X.K W.bad H1 ((zs.map (·.1)).map tupI) (zs.map fun z=>V.ref z.2):=by
   have LR:∀z∈zs,Le X.K H1 z.2 (z.1.map V.int):=fun z hz=>den z (pz.mem_iff.mp hz)
   clear pz sz hD lz I3
   induction zs with
   |nil=>exact rfl
   |cons z zs ih =>
    refine af.cons (Den.tup (LR z MC) ?_) (ih fun z hz=>LR z (K0 _ hz));show af X.K W.bad H1 (z.1.map PD.D.int) (z.1.map V.int);generalize z.1=k
    induction k with
    |nil=>exact rfl
    |cons n k Vi=>exact af.cons (Den.int n) Vi
  have kn:=Inv.kno I3 aO;refine⟨D,_,_,_,rfl,I3,e1.trans (aq.upd nD),e1.free nD,kn,aO,af.apart nD kn dz,q _ ⟨?_,fun k=>?_⟩⟩
  ·exact VH.mpr sz
  ·rw[(pz.map (·.1)).mem_iff];exact Xq k
end
end PD
namespace HT
open PySem PyProof.Rows
section
open PySem.SeqAt
open PySem.AutoSeq1 (wpAny_loadPart')
open PySem.MeetsSeq PySem.MeetsSeq2 PySem.MeetsSeq3
end
end HT
namespace PD
open PySem PySem.Spec PyProof.Rows L2
def G7(g1 g2 g3:DG)(a b c:D)(ρ:Ro)(Q:Ro->Prop):mj 3 (cA g1 (cA g2 (cA g3 mi))) (.tup [a,b,c]) ρ Q=g1 a ρ fun Nn=>g2 b Nn fun Ml=>g3 c Ml Q:=by rw[yu 3 _ _ rfl];simp only[Zo,Zp]
end PD
namespace SW
open PySem PySem.SetTable ST PySem.W PyProof.Rows
section
variable{prog:Program}{w:World}{A:Around}{E:yaa}{s:Shared}
structure JQ(prog:Program)(w:World)(h:Heap)(a:Addr)(xs:List (Int×Tok)):Prop where
 ex:∃o es ep t,h.get? a=some o/\o.ExactSet/\o.data=.set es ep t/\es.toList=xs.map (fun x=>((intKind prog w).hash x.1,Value.int x.1 x.2))/\Tab t (xs.map fun x=>(intKind prog w).hash x.1)/\(t.plain=true/\t.led=!w.params.followText "set-order")/\7<=t.mask
 nd:(xs.map (·.1)).Nodup
end
end SW
namespace PD
open PySem PySem.Spec PyProof.Rows L2
section
variable{X:Cx}{pos:Pos}
theorem i8:∀{out:yad} {ms:yaf},IntsAre out ms->Vals (ms.map V.int) out
 |_,_,.nil=>.nil
 |_,_,.cons n t r=>.cons ⟨t,rfl⟩ (i8 r)
end
def FL(K:yac)(x:Str)(st:Stmt):Prop:=∃(f:Addr) (oc:Value) (od:Option Addr) (kV dc pm:Value) (an:Option Addr) (cd ct:Value) (sl:Array (yan)),
 PySem.W.nsIn K mainGlobals x=some (some (.ref f))/\K.lookup f=some ⟨oc,od,.func (PySem.W.fnOf x x (cw st) (bL st) (aj st) .none kV dc pm an cd ct),sl⟩/\PySem.W.codeIn K cd x=true/\PySem.W.keepIn K (.ref f)=true
def FL.mk{K:yac}{x:Str}{st:Stmt}{f:Addr}{oc:Value}{od:Option Addr}{kV dc pm:Value}{an:Option Addr}{cd ct:Value}{sl:Array (yan)}(a:PySem.W.nsIn K mainGlobals x=some (some (.ref f)))
  (b:K.lookup f=some ⟨oc,od,.func (PySem.W.fnOf x x (cw st) (bL st) (aj st) .none kV dc pm an cd ct),sl⟩) (c:PySem.W.codeIn K cd x=true) (d:PySem.W.keepIn K (.ref f)=true):FL K x st:=⟨f,oc,od,kV,dc,pm,an,cd,ct,sl,a,b,c,d⟩
def Jy{α:Type}:∀{us:List α},us.length=1->∃a,us=[a]
 |[a],_=>⟨a,rfl⟩
def Jz{α:Type}:∀{us:List α},us.length=2->∃a b,us=[a,b]
 |[a,b],_=>⟨a,b,rfl⟩
def JA{α:Type}:∀{us:List α},us.length=3->∃a b c,us=[a,b,c]
 |[a,b,c],_=>⟨a,b,c,rfl⟩
def JB{α:Type}:∀{us:List α},us.length=4->∃a b c d,us=[a,b,c,d]
 |[a,b,c,d],_=>⟨a,b,c,d,rfl⟩
def JC{α:Type}:∀{us:List α},us.length=5->∃a b c d e,us=[a,b,c,d,e]
 |[a,b,c,d,e],_=>⟨a,b,c,d,e,rfl⟩
def FL.has {K : yac} {x : Str} {st : Stmt} {h : Heap} {mg : yam} {k : Nat} {ps : yah} {sp : DSp} (e : FL K x st) (P : Program) (w : World) (base : Heap) (X : K.In h) (G : h.Ns mainGlobals mg)
  (ok : ∀ {f : Addr} {fd : FuncData}, av K x x st f fd -> aI P w K mg base (CX1 P w) k f fd ps (aJ K sp))
  (hb : ∀ (kV dc pm : Value) (an : Option Addr) (cd ct : Value) (us : yad), us.length = ps.length -> bindArgs (PySem.W.fnOf x x (cw st) (bL st) (aj st) .none kV dc pm an cd ct) ⟨us, []⟩ = pure (ps.zip us) := by
   intro _ _ _ _ _ _ us hl
   first
    | (obtain ⟨a, e⟩ := Jy hl; subst e; rfl)
    | (obtain ⟨a, b, e⟩ := Jz hl; subst e; rfl)
    | (obtain ⟨a, b, c, e⟩ := JA hl; subst e; rfl)
    | (obtain ⟨a, b, c, d, e⟩ := JB hl; subst e; rfl)
    | (obtain ⟨a, b, c, d, e', e⟩ := JC hl; subst e; rfl)
    | (cases To hl; rfl)) : Ls P w K mg base x k ps sp := by
 obtain ⟨f, oc, od, kV, dc, pm, an, cd, ct, sl, a, b, c, d⟩ := e;exact ⟨f, _, ok (mh b c d), PySem.W.mg_of X G a, d, .all fun us hl => hb kV dc pm an cd ct us hl⟩
end PD
namespace HT
open PySem PyProof.Rows
section
open PySem.SeqAt
open PySem.AutoSeq1 (wpAny_loadPart')
open PySem.MeetsSeq PySem.MeetsSeq2 PySem.MeetsSeq3
end
end HT
namespace PD
open PySem PySem.Spec PyProof.Rows L2
section
variable{X:Cx}
structure Told(K:yac)(H:Hp)(b c t0:Addr)(k0:Int)(us ws qs:yar):Prop where
 hb:H b=some (.lst (.int k0::us))
 hc:H c=some (.lst (.ref t0::ws))
 ht:H t0=some (.tup (.ref b::qs))
 kb:K.lookup b=none
 kc:K.lookup c=none
 kt:K.lookup t0=none
end
end PD
namespace PZ
open PySem PySem.Spec PyProof.Rows
structure ZT(h:Heap)(xs ys:yao)(B:Addr)(as:yae):Prop where
 nd:as.Nodup
 ab:∀a∈as,B<=a
 pr:∀(j:Nat) (a:Addr),as[j]?=some a->∃x y,xs[j]?=some x/\ys[j]?=some y/\IsPair h a x y
end PZ
namespace PD
open PySem PySem.Spec PyProof.Rows L2
section
variable{X:Cx}{a b c:Expr}{ta tb tc:DE}{pos:Pos}
def B6(ho:LD X (compareOp op) r)(Nx:LD X (compareOp op') r')(ha:Kn X a ta)(hb:Kn X b tb)(hc:Kn X c tc)(hm:lastMarks [op,op'] [b,c]=false:=by with_unfolding_all rfl):O3 X (.Compare a [op,op'] [b,c] pos) (dB (zO r r' ta tb tc)):=by
 intro pins s σ H W ρ Q I rr h;refine isTrue_chain (J0 (ha pins s σ H W ρ _ I rr h) fun v s1 ⟨vx,H1,x,I1,r1,e1,hx,q1⟩=>test_link (J0 (hb pins s1 σ H1 W ρ _ I1 (rr.same e1) q1) fun u s2 ⟨vy,H2,y,I2,r2,e2,hy,q2⟩=>
  J0 (ho pins s2 σ H2 W x y vx vy v u _ I2 ((rr.same e1).same e2).tracked r1 r2 (hx.same e2) hy q2) fun d s3 ⟨vz,H3,z,I3,r3,e3,hz,k,ek,q3⟩=>?_)) hm
 subst ek;have ez:=hz.Q3;subst ez;cases r3;refine UR ?_;have rr3:=((rr.same e1).same e2).same e3;cases k with
 |false =>
  obtain⟨k,ek,q3⟩:=q3;cases ek;exact ite_ff ⟨H3,I3,e1.trans (e2.trans e3),q3⟩
 |true =>
  refine ite_tt (test_last (J0 (hc pins s3 σ H3 W ρ _ I3 rr3 q3) fun w' s4 ⟨vu,H4,du,I4,r4,e4,hu,q4⟩=>J0 (Nx pins s4 σ H4 W y du vy vu u w' _ I4 (rr3.same e4).tracked r2 r4 (hy.same (e3.trans e4)) hu q4) fun d s5 J5=>?_));obtain⟨vz,H5,z,I5,r5,e5,hz,k,ek,q5⟩:=J5;subst ek;have ez:=hz.Q3;subst ez;cases r5;exact UR ⟨H5,I5,e1.trans (e2.trans (e3.trans (e4.trans e5))),q5⟩
def zU (h:Ls X.prog X.w X.K X.mg X.base x k ps sp) (hr:bB n X.A) (hk:k<=n:=by decide) (hg:Gl X x:=by rfl) (NB:(x==("__debug__" : Str))=false:=by decide):Kn X (.Call (.Name x p) [] [] pos) (lW sp [] uA):=by obtain⟨f,fd,F,hm,hkp,hb⟩:=h;intro pins s σ H W ρ Q I rr h;refine RA (iw I hg hm ?_ NB);refine PySem.W.callWith_K0 I.NX hkp ?_;exact DW (dds:=[]) (dsv:=[]) (ds:=[]) (vs:=[]) F (hr.mono hk) hb .nil (by simp) yS I rr .nil .nil h
end
end PD
namespace LW
open PySem PySem.Spec PyProof.Rows L2 PD
seal PD.cf PD.MS PD.Kn PD.O3 PD.OB PD.OC PD.RK PD.SU PD.tZ PD.Uc PD.OG PD.PKD PD.WW PD.S7 PD.PFL PD.PPK PD.PEK
local macro_rules | `(tactic| walk_at "sc") => `(tactic| exact ⟨rfl, rfl, rfl, by decide +kernel, rfl, by decide +kernel, by decide +kernel⟩)
def top(i:Nat):Stmt:=PySem.Challenge.pw_halvecut_k54_the_middle.main.body.getD i (.Pass ⟨0,0,0,0⟩)
abbrev vF:Stmt:=top 8
abbrev eK:Stmt:=top 9
abbrev lJ:Stmt:=top 10
abbrev mH:Stmt:=top 11
abbrev rh:Stmt:=top 13
abbrev vE:Stmt:=top 14
abbrev kg:Stmt:=top 15
abbrev lE:Stmt:=top 16
abbrev vC:Stmt:=top 17
abbrev rf:Stmt:=top 19
abbrev kj:Stmt:=top 20
abbrev vD:Stmt:=top 21
abbrev rg:Stmt:=top 22
abbrev lK:Stmt:=top 24
abbrev ik:Stmt:=top 25
abbrev gk:Stmt:=top 26
abbrev fN:Stmt:=top 27
abbrev eW:Stmt:=top 28
abbrev q9:Stmt:=top 30
abbrev pP:Stmt:=top 31
abbrev fM:Stmt:=top 33
abbrev c9:Stmt:=top 34
abbrev jt:Stmt:=top 35
abbrev ig:Stmt:=top 36
abbrev fq:Stmt:=top 37
abbrev ft:Stmt:=top 39
abbrev i5:Stmt:=top 40
abbrev nO:Stmt:=top 41
abbrev yX:Stmt:=top 42
abbrev c8:Stmt:=top 44
abbrev ki:Stmt:=top 45
abbrev gM:Stmt:=top 46
abbrev pQ:Stmt:=top 47
abbrev lF:Stmt:=top 48
abbrev fu:Stmt:=top 49
abbrev nQ:Stmt:=top 50
abbrev nP:Stmt:=top 51
abbrev jr:Stmt:=top 53
abbrev gN:Stmt:=top 54
abbrev gO:Stmt:=top 55
abbrev lH:Stmt:=top 56
abbrev kh:Stmt:=top 57
abbrev jq:Stmt:=top 58
abbrev fL:Stmt:=top 59
abbrev gP:Stmt:=top 60
abbrev gh:Stmt:=top 61
def FD:ax ["number"] ["number"] (aj vF):=by walk_at "sc"
def cq:ax ["one", "other", "rest"] ["one", "other"] (aj eK):=by walk_at "sc"
def kr:ax ["triple", "lead", "divisor"] ["triple", "lead"] (aj lJ):=by walk_at "sc"
def eN:ax ["count", "size", "found", "length", "longer", "pick", "first"] ["count", "size"] (aj mH):=by walk_at "sc"
def C9:ax ["gauge", "place"] ["gauge", "place"] (aj rh):=by walk_at "sc"
def FC:ax ["gauge", "place"] ["gauge", "place"] (aj vE):=by walk_at "sc"
def wH:ax ["gauge"] ["gauge"] (aj kg):=by walk_at "sc"
def yY:ax ["one", "other"] ["one", "other"] (aj lE):=by walk_at "sc"
def xD:ax ["one", "other", "gauge"] ["one", "other"] (aj vC):=by walk_at "sc"
def C6:ax ["by", "x", "y"] ["by", "x", "y"] (aj rf):=by walk_at "sc"
def wJ:ax ["spot"] ["spot"] (aj kj):=by walk_at "sc"
def xE:ax ["one", "other", "across"] ["one", "other"] (aj vD):=by walk_at "sc"
def C7:ax ["one", "two", "three"] ["one", "two", "three"] (aj rg):=by walk_at "sc"
def y3:ax ["dot"] ["dot"] (aj lK):=by walk_at "sc"
def wL:ax ["dots"] ["dots"] (aj ik):=by walk_at "sc"
def vH:ax ["dots", "colour"] ["dots", "colour"] (aj gk):=by walk_at "sc"
def C8:ax ["dots", "colour"] ["dots", "colour"] (aj fN):=by walk_at "sc"
def ku:ax ["dots", "gauge", "colour", "weights", "dot"] ["dots", "gauge", "colour"] (aj eW):=by walk_at "sc"
def nS:ax ["places", "kept", "each"] ["places"] (aj q9):=by walk_at "sc"
def xC:ax ["spots", "places"] ["spots"] (aj pP):=by walk_at "sc"
def pT:ax ["dots", "pair"] ["dots", "pair"] (aj fM):=by walk_at "sc"
def kM:ax ["dots", "pairs"] ["dots"] (aj c9):=by walk_at "sc"
def vI:ax ["dots", "pair"] ["dots", "pair"] (aj jt):=by walk_at "sc"
def wK:ax ["dots", "lines"] ["dots", "lines"] (aj ig):=by walk_at "sc"
def tw:ax ["dots"] ["dots"] (aj fq):=by walk_at "sc"
def eO:ax ["one", "other", "gauge", "here", "there"] ["one", "other", "gauge"] (aj ft):=by walk_at "sc"
def fv:ax ["corners", "gauge", "kept", "index", "one", "other"] ["corners", "gauge"] (aj i5):=by walk_at "sc"
def lL:ax ["corners", "gauges", "gauge"] ["corners", "gauges"] (aj nO):=by walk_at "sc"
def pS:ax ["corners", "first", "index"] ["corners"] (aj yX):=by walk_at "sc"
def tu:ax ["dots"] ["dots"] (aj c8):=by walk_at "sc"
def wI:ax ["gauge"] ["gauge"] (aj ki):=by walk_at "sc"
def fO:ax ["dots", "found", "row"] ["dots"] (aj gM):=by walk_at "sc"
def FA:ax ["planes", "weight"] ["planes", "weight"] (aj pQ):=by walk_at "sc"
def yZ:ax ["dots"] ["dots"] (aj lF):=by walk_at "sc"
def iM:ax ["dots", "planes", "least", "weight"] ["dots", "planes", "least"] (aj fu):=by walk_at "sc"
def A6:ax ["dots", "least"] ["dots", "least"] (aj nQ):=by walk_at "sc"
def A5:ax ["dots"] ["dots"] (aj nP):=by walk_at "sc"
def vG:ax ["_law_found"] ["_law_found"] (aj jr):=by walk_at "sc"
def rj:ax ["_law_script", "_law_k"] ["_law_script", "_law_k"] (aj gN):=by walk_at "sc"
def dH:ax ["_law_one", "_law_other", "_law_here", "_law_there"] ["_law_one", "_law_other"] (aj gO):=by walk_at "sc"
def ba:ax ["_law_cell", "_law_kind", "_law_heavy", "_law_number", "_law_x", "_law_y", "_law_weight"] ["_law_cell", "_law_kind", "_law_heavy"] (aj lH):=by walk_at "sc"
def cO:ax ["_law_script", "_law_start", "_law_most", "_law_first", "_law_kind", "_law_heavy", "_law_dots_here", "_law_cell"] ["_law_script", "_law_start", "_law_most"] (aj kh):=by walk_at "sc"
def aG:ax ["_law_dots_here", "_law_here", "_law_found", "_law_ways", "_law_least", "_law_way", "_law_x", "_law_y", "_law_colour", "_law_weight", "_law_right", "_law_up", "_law_sums", "_law_lighter_sum", "_law_turn", "_law_along", "_law_at"] ["_law_dots_here", "_law_here"] (aj jq):=by walk_at "sc"
def pR:ax ["_law_found"] ["_law_found"] (aj fL):=by walk_at "sc"
def dI:ax ["_law_caught", "error"] [] (aj gP):=by walk_at "sc"
def iL:ax ["_law_script", "_law_most", "_law_dots_here", "_law_whole_weight", "_law_handed", "_law_found"] ["_law_script"] (aj gh):=by walk_at "sc"
structure Lf where
 PlaneError:Addr
 NoPlace:Addr
 NoLine:Addr
 TooFew:Addr
 TooMany:Addr
 NoSuch:Addr
structure Lx(K:yac)(mg:yam)(κ:Lf):Prop where
 KU:mg "PlaneError" = some (.ref κ.PlaneError)
 L0:mg "NoPlace" = some (.ref κ.NoPlace)
 Mt:mg "NoLine" = some (.ref κ.NoLine)
 Lu:mg "TooFew" = some (.ref κ.TooFew)
 Ly:mg "TooMany" = some (.ref κ.TooMany)
 LS:mg "NoSuch" = some (.ref κ.NoSuch)
 Lz:PySem.W.excIn K κ.TooFew zf "ValueError.__new__" = true
 LU:PX.et K κ.TooFew
 Kf:PySem.W.kitOne K (.ref κ.TooFew) (.ref κ.PlaneError)=some true
 KA:PySem.W.kitOne K (.ref κ.TooFew) (.ref κ.NoPlace)=some false
 KJ:PySem.W.kitOne K (.ref κ.TooFew) (.ref κ.NoLine)=some false
 Kj:PySem.W.kitOne K (.ref κ.TooFew) (.ref κ.TooFew)=some true
 Ke:PySem.W.kitOne K (.ref κ.TooFew) (.ref κ.TooMany)=some false
 Kk:PySem.W.kitOne K (.ref κ.TooFew) (.ref κ.NoSuch)=some false
 J3:PySem.W.kitOne K (.ref κ.TooFew) (.type "ValueError")=some true
 J4:PySem.W.exmOne K (.ref κ.TooFew) (.ref κ.PlaneError)=some true
 KL:PySem.W.exmOne K (.ref κ.TooFew) (.ref κ.TooFew)=some true
def sg(n:Int):Int:=if 0<n then 1 else if n<0 then -1 else 0
def rk(a0 a1 a2 b0 b1 b2:Int):Int:=if sg (a1*b0 - b1*a0)=0 then sg (a2*b0 - b2*a0)else sg (a1*b0 - b1*a0)
def sw(a0 a1 a2 b0 b1 b2 c0 c1 c2:Int):Int:=a0*(b1*c2 - c1*b2)+b0*(c1*a2 - a1*c2)+c0*(a1*b2 - b1*a2)
def lV{t g:Int}(hg:g≠0)(hd:g∣t)(h:Bd n t):Bd n (t.fdiv g):=UN (PM.mT hg hd) h
structure Pl(n:Nat)(a b c:Int):Prop where
 pos:0<a
 low:PM.g3 a b c=1
 b0:Bd n a
 b1:Bd n b
 b2:Bd n c
def gW{d k x y z:Int}(h1:d∣k*x)(h2:d∣k*y)(h3:d∣k*z)(hg:PM.g3 x y z=1):d∣k:=by
 have e1:d∣(Int.gcd (k*x) (k*y):Int):=UT h1 h2;rw[VL]at e1;have e2:d∣k*(Int.gcd x y:Int):=by
  have:((k.natAbs*Int.gcd x y:Nat):Int)∣k*(Int.gcd x y:Int):=by rw[Int.natCast_mul];exact VP (Int.natAbs_dvd.mpr (RT _)) (RT _)
  exact UZ e1 this
 have e3:d∣(Int.gcd (k*(Int.gcd x y:Int)) (k*z):Int):=UT e2 h3;rw[VL]at e3;have e4:Int.gcd (Int.gcd x y:Int) z=1:=hg;rw[e4,Nat.mul_one]at e3;exact UZ e3 (Int.natAbs_dvd.mpr (RT _))
abbrev Sp:=Int×Int
abbrev yat:=List Sp
def Oj(p:Sp):D:=.tup [.int p.1,.int p.2]
def FH(h:Oj p=Oj q):p=q:=by unfold Oj at h;simp only[D.tup.injEq,OW,D.int.injEq,and_true]at h;exact ME h.1 h.2
theorem gF{α:Type}{f:α->D}(hf:∀{p q},f p=f q->p=q):∀{ps qs:List α},ps.map f=qs.map f->ps=qs
 |[],[],_=>rfl
 |[],_::_,h=>by simp at h
 |_::_,[],h=>by simp at h
 |p::ps,q::qs,h=>by simp only[K5,OW]at h;rw[hf h.1,gF hf h.2]
def FI{ps qs:yat}(h:ps.map Oj=qs.map Oj):ps=qs:=gF FH h
def vP(p:Sp):aT (Oj p)=Oj p:=by unfold Oj;simp only[da,cg,cJ,cc]
def zd(ps:yat):aY (ps.map Oj)=ps.map Oj:=cI Oj vP ps
def Mm(p:Sp):D:=.tup [.int 1,.int p.1,.int p.2]
def Fm(h:Mm p=Mm q):p=q:=by unfold Mm at h;simp only[D.tup.injEq,OW,D.int.injEq,and_true,true_and]at h;exact ME h.1 h.2
def Fn{ps qs:yat}(h:ps.map Mm=qs.map Mm):ps=qs:=gF Fm h
def n6(p:Sp):aT (Mm p)=Mm p:=by unfold Mm;simp only[da,cg,cJ,cc]
def qa(ps:yat):aY (ps.map Mm)=ps.map Mm:=cI Mm n6 ps
def cr(a b e:Sp):Int:=sw 1 a.1 a.2 1 b.1 b.2 1 e.1 e.2
def bN:yat->Sp->yat
 |b::a::r,e=>if cr a b e<=0 then bN (a::r) e else b::a::r
 |l,_=>l
def bj:yat->yat->yat
 |acc,[]=>acc
 |acc,e::es=>bj (e::bN acc e) es
theorem mS(x:Sp):∀(acc done:yat),bj acc (done++[x])=x::bN (bj acc done) x
 |acc,[]=>rfl
 |acc,e::es=>by show bj (e::bN acc e) (es++[x])=_;rw[mS x _ es];rfl
theorem nM:∀(st:yat) (e:Sp),∃pre,st=pre++bN st e
 |[],e=>⟨[],rfl⟩
 |[b],e=>⟨[],rfl⟩
 |b::a::r,e=>by
  unfold bN;split
  ·obtain⟨pre,q⟩:=nM (a::r) e;exact⟨b::pre,by rw[Nu,<- q]⟩
  ·exact⟨[],rfl⟩
def CT(st:yat)(e:Sp):(bN st e).length<=st.length:=by
 obtain⟨pre,q⟩:=nM st e;have:=congrArg List.length q;rw[LO]at this
 lia
def zC{α:Type}(xs:List α)(u v:α):Me (xs++[u]++[v]) (-2)=some u:=by have:=di (xs:=xs++[u]++[v]) (j:=xs.length) (v:=u) (by simp);unfold Me at this ⊢;rw[show ixN (xs++[u]++[v]).length (-2)=some xs.length by unfold ixN;simp;lia];simp
def fm{a b:Int}(hb:0<b):0<=a.fmod b/\a.fmod b<b:=⟨XO a hb,Int.fmod_lt_of_pos a hb⟩
def p12:((10:Int) ^ (12:Int).toNat)=1000000000000:=by decide
def yf:Bw 10 12:=⟨by decide,by decide,by decide⟩
def QJ(p:Sp):yaf:=[p.1,p.2]
def DX(ps:yat):ps.map Oj=(ps.map QJ).map PD.tupI:=by rw[MX];rfl
def bY(ys ps:yat):Prop:=ys.Pairwise (fun p q=>p.1<q.1∨(p.1=q.1/\p.2<q.2))/\∀p,p∈ys↔p∈ps
def AY{ps:yat}(h:PD.t4 zs (ps.map QJ)):∃ys:yat,zs=ys.map QJ/\bY ys ps:=by
 obtain⟨h1,h2⟩:=h;have LR:∀z∈zs,∃p:Sp,z=QJ p:=fun z hz=>by obtain⟨p,_,e⟩:=KH.mp ((h2 z).mp hz);exact⟨p,e.symm⟩
 have ex:∃ys:yat,zs=ys.map QJ:=by
  clear h1 h2
  induction zs with
  |nil=>exact⟨[],rfl⟩
  |cons z zs ih =>
   obtain⟨p,e⟩:=LR z MC;obtain⟨ys,e2⟩:=ih fun z hz=>LR z (K0 _ hz)
   exact⟨p::ys,by rw[e,e2];rfl⟩
 obtain⟨ys,rfl⟩:=ex;have inj:∀{p q:Sp},QJ p=QJ q->p=q:=fun {p q} e=>by unfold QJ at e;simp only[OW,and_true]at e;exact ME e.1 e.2
 refine⟨ys,rfl,?_,fun p=>?_⟩
 ·refine(VH.mp h1).imp fun {p q} e=>?_
  unfold QJ SW.lexLt at e;split at e
  ·rename_i e1;unfold SW.lexLt at e;split at e
   ·cases e
   ·exact .inr ⟨e1,by simpa using e⟩
  ·exact .inl (by simpa using e)
 ·constructor
  ·intro hp;obtain⟨q,hq,e⟩:=KH.mp ((h2 (QJ p)).mp (KH.mpr ⟨p,hp,rfl⟩));rw[<- inj e];exact hq
  ·intro hp;obtain⟨q,hq,e⟩:=KH.mp ((h2 (QJ p)).mpr (KH.mpr ⟨p,hp,rfl⟩));rw[<- inj e];exact hq
def ur(xs:yas):PD.cutD xs none (some (-1))=xs.dropLast:=by
 unfold PD.cutD;rw[List.dropLast_eq_take];have e0:HT.Mz xs.length 0 none=0:=rfl;have e1:HT.Mz xs.length xs.length (some (-1))=xs.length - 1:=by
  unfold HT.Mz;cases xs with
  |nil=>rfl
  |cons x xs=>simp;lia
 rw[e0,e1];simp
theorem eI:∀(acc ps:yat),(bj acc ps).length<=acc.length+ps.length
 |acc,[]=>KO _
 |acc,e::es=>by
  have:=eI (e::bN acc e) es;have h2:=CT acc e;show(bj (e::bN acc e) es).length<=_;simp at this ⊢
  lia
theorem AD:∀{ys ps:yat},ys.Nodup->(∀p∈ys,p∈ps)->ys.length<=ps.length
 |[],_,_,_=>Mx _
 |y::ys,ps,nd,h=>by
  obtain⟨n1,n2⟩:=QS.mp nd;have m:=h y MC;have r:=AD (ps:=ps.erase y) n2 fun p hp=>(List.mem_erase_of_ne (fun e=>by subst e;exact n1 hp)).mpr (h p (K0 _ hp))
  rw[List.length_erase_of_mem m]at r;have:0<ps.length:=List.length_pos_of_mem m;rw[Oc]
  lia
def nN(h:bY ys ps):ys.length<=ps.length:=by
 have nd:ys.Nodup:=h.1.imp fun {p q} c e=>by subst e;lia
 exact AD nd fun p hp=>(h.2 p).mp hp
def aF(ys:yat):yat:=(bj [] ys).reverse
def aP(ys:yat):yat:=if ys.length<2 then ys else(aF ys).dropLast++(aF ys.reverse).dropLast
def uk{α:Type}{wi:DA}{js:yag}{te:DE}{Q:D->Prop}{P:List α->Prop}(f g:α->D)(hw:∀R:yas->Prop,(∀ys,P ys->R (ys.map f))->wi ρ R)(hz:∀ys,P ys->ys.length<=sizeLine)
  (he:∀ys,P ys->∀x∈ys,∀K:D->Prop,K (g x)->te (some (.val (f x))::js.map (bR ρ)) K) (q:∀ys,P ys->Q (.lst true (ys.map g))):oH wi js ux te ρ Q:=by
 refine hw _ fun ys hy=>?_
 have:=PD.comp_map (wi:=fun _ R=>R (ys.map f)) (js:=js) (tc:=ux) (te:=te) (ρ:=ρ) (Q:=Q) ys f (fun _=>true) g (fun R h=>h) (hz ys hy) (fun x hx K k=>k) (fun x hx _ K k=>he ys hy x hx K k) (by rw[Qt.mpr (fun _ _=>rfl)];exact q ys hy);exact this
structure SB(p:Sp):Prop where
 x:Bd 60 p.1
 y:Bd 60 p.2
def jj(p q:Sp):Prop:=p.1<q.1∨(p.1=q.1/\p.2<q.2)
def bH(a b e:Sp):cr a b e=(b.1 - a.1)*(e.2 - a.2) - (b.2 - a.2)*(e.1 - a.1):=by unfold cr sw;grind
def fA(A B:Int)(p:Sp):Int:=A*p.1+B*p.2
def cx(a b c d:Sp):Int:=(b.1 - a.1)*(d.2 - c.2) - (b.2 - a.2)*(d.1 - c.1)
def yh(A B:Int)(a b c d e g:Sp):cx a b e g*(fA A B d - fA A B c)=cx c d e g*(fA A B b - fA A B a)+cx a b c d*(fA A B g - fA A B e):=by unfold cx fA;grind
def HQ{x y:Int}(h:0<x*y)(hy:0<y):0<x:=by
 by_cases c:0<x
 ·exact c
 ·have:=Lq (show 0<=-x by lia) (K7 hy);rw[Ms]at this
  lia
def Hu{x y:Int}(h:0<=x*y)(hy:0<y):0<=x:=by
 by_cases c:0<=x
 ·exact c
 ·have:=Og (show 0 < -x by lia) hy;rw[Ms]at this
  lia
def Dv(h1:fA A B a<fA A B b)(h2:fA A B c<fA A B d)(h3:fA A B e<fA A B g)(p:0<cx a b c d)(q:0<=cx c d e g):0<cx a b e g:=by have i:=yh A B a b c d e g;have u:=Lq q (show 0<=fA A B b - fA A B a by lia);have v:=Og p (show 0<fA A B g - fA A B e by lia);exact HQ (y:=fA A B d - fA A B c) (by lia) (by lia)
def Du(h1:fA A B a<fA A B b)(h2:fA A B c<fA A B d)(h3:fA A B e<fA A B g)(p:0<=cx a b c d)(q:0<cx c d e g):0<cx a b e g:=by have i:=yh A B a b c d e g;have u:=Og q (show 0<fA A B b - fA A B a by lia);have v:=Lq p (show 0<=fA A B g - fA A B e by lia);exact HQ (y:=fA A B d - fA A B c) (by lia) (by lia)
def Iw(h1:fA A B a<fA A B b)(h2:fA A B c<fA A B d)(h3:fA A B e<fA A B g)(p:0<=cx a b c d)(q:0<=cx c d e g):0<=cx a b e g:=by have i:=yh A B a b c d e g;have u:=Lq q (show 0<=fA A B b - fA A B a by lia);have v:=Lq p (show 0<=fA A B g - fA A B e by lia);exact Hu (y:=fA A B d - fA A B c) (by lia) (by lia)
def cx1(a b e:Sp):cr a b e=cx a b a e:=by rw[bH];rfl
def cx2(a b e:Sp):cr a b e=cx a b b e:=by rw[bH];unfold cx;grind
def cx3(a b e:Sp):cr a b e=cx a e b e:=by rw[bH];unfold cx;grind
def cx4(a b e:Sp):cr a b e=cx e a a b:=by rw[bH];unfold cx;grind
def cx5(a b e:Sp):cr a b e=cx e b a b:=by rw[bH];unfold cx;grind
def Eg(a b c d:Sp):cx a b c d=- cx c d a b:=by unfold cx;grind
def Gd(a b:Sp):cr a b a=0:=by rw[bH];grind
def Ge(a b:Sp):cr a b b=0:=by rw[bH];grind
structure Tf(A B:Int)(st done:yat):Prop where
 e2:∀b a r,(b::a::r) <:+ st->∀p∈done,0<=cr a b p
 e3:∀c b a r,(c::b::a::r) <:+ st->0<cr a b c
 ord:st.Pairwise fun b a=>fA A B a<fA A B b
 mem:∀p∈st,p∈done
 top:∀b r,st=b::r->∀p∈done,fA A B p<=fA A B b
 bot:done ≠ []->∃pre a,st=pre++[a]/\∀p∈done,fA A B a<=fA A B p
def zb{b a:Sp}{r st:yat}(h:b::a::r <:+ st)(o:st.Pairwise R):R b a:=by obtain⟨pre,rfl⟩:=h;exact(NV.mp (Qs.mp o).2.1).1 a MC
theorem AU(I:Tf A B Vj done)(hx:∀p∈done,fA A B p<fA A B x):∀(st:yat),st <:+ Vj->(∀b r,st=b::r->∀p∈done,fA A B b<fA A B p->0<=cr b x p) →
  (∀b a r,bN st x=b::a::r->0<cr a b x)/\(∀b r,bN st x=b::r->∀p∈done,fA A B b<fA A B p->0<=cr b x p)
 |[],_,h=>⟨fun b a r e=>(by cases e),fun b r e=>(by cases e)⟩
 |[b],_,h=>⟨fun b a r e=>(by cases e),h⟩
 |b::a::r,s,h=>by
  unfold bN;split
  ·rename_i c;refine AU I hx (a::r) (List.IsSuffix.trans (List.suffix_cons _ _) s) fun b' r' e p hp lt=>?_
   cases e;have o:=zb s I.ord;have e2:=I.e2 b a r s p hp;have xa:=hx a (I.mem a (s.subset (by simp)));rw[cx1]at e2 c ⊢;rw[Eg]at c;exact Iw xa o lt (by lia) e2
  ·rename_i c;refine⟨fun b' a' r' e=>?_,h⟩;cases e
   lia
theorem far(I:Tf A B Vj done)(hx:∀p∈done,fA A B p<fA A B x):∀(st:yat),st <:+ Vj->(∀b a r,st=b::a::r->0<cr a b x)->∀b a r,b::a::r <:+ st->0<cr a b x
 |[],_,_=>fun b a r e=>by have:=e.length_le;simp at this
 |b::st,s,h=>fun b1 a1 r1 e=>by
  rcases List.suffix_cons_iff.mp e with q|q
  ·exact h _ _ _ q.symm
  ·refine far I hx st (List.IsSuffix.trans (List.suffix_cons _ _) s) (fun a a0 r e'=>?_) b1 a1 r1 q;subst e';have h1:=h _ _ _ rfl;have h2:=I.e3 _ _ _ _ s;have o1:=zb s I.ord;have o2:=zb (List.IsSuffix.trans (List.suffix_cons _ _) s) I.ord;have xa:=hx a (I.mem a (s.subset (by simp)));rw[cx2]at h2 ⊢;rw[cx1]at h1;exact Dv o2 o1 xa h2 (K7 h1)
theorem xx:∀{st:yat},st ≠ []->bN st x ≠ []
 |[],h=>absurd rfl h
 |[b],_=>by simp[bN]
 |b::a::r,_=>by
  unfold bN;split
  ·exact xx (by simp)
  ·simp
def Ci{A B:Int}{st done:yat}{x:Sp}(I:Tf A B st done)(hx:∀p∈done,fA A B p<fA A B x)(inj:∀p∈done,∀q∈done,fA A B p=fA A B q->p=q)(hn:done=[]->st=[]):Tf A B (x::bN st x) (done++[x]):=by
 have s:bN st x <:+ st:=by obtain⟨pre,q⟩:=nM st x;exact⟨pre,q.symm⟩
 obtain⟨P1,P2⟩:=AU I hx st (List.suffix_refl _) fun b r e p hp lt=>absurd (I.top b r e p hp) (by lia)
 have F:=far I hx _ s P1;refine⟨fun b a r e p hp=>?_,fun c b a r e=>?_,?_,fun p hp=>?_,fun b r e p hp=>?_,fun _=>?_⟩
 ·rcases List.suffix_cons_iff.mp e with q|q
  ·injection q with q1 q2;subst q1;rcases KR.mp hp with hp|hp
   ·rcases SA (fA A B p) (fA A B a)with c|c|c
    ·rcases r with _|⟨a0,r⟩
     ·obtain⟨pre,a',e1,h1⟩:=I.bot (List.ne_nil_of_mem hp);rw[<- q2]at s;obtain⟨pre2,e2⟩:=s;rw[e1]at e2;have:=List.append_inj_right' e2 (by simp);simp at this;have:=h1 p hp
      subst_vars
      lia
     ·have h1:=P1 _ _ _ q2.symm;rw[<- q2]at s;have h2:=I.e2 _ _ _ s p hp;have o:=zb s I.ord;have xa:=hx a (I.mem a (s.subset (by simp)));rw[cx2]at h1;rw[cx5]at h2;rw[cx4];exact K7 (Du c o xa h2 h1)
    ·rw[inj p hp a (I.mem a (s.subset (by rw[<- q2];simp))) c,Gd];exact Mf _
    ·exact P2 _ _ q2.symm p hp c
   ·rw[LQ.mp hp,Ge];exact Mf _
  ·rcases KR.mp hp with hp|hp
   ·exact I.e2 _ _ _ (q.trans s) p hp
   ·rw[LQ.mp hp];exact K7 (F _ _ _ q)
 ·rcases List.suffix_cons_iff.mp e with q|q
  ·injection q with q1 q2;subst q1;exact P1 _ _ _ q2.symm
  ·exact I.e3 _ _ _ _ (q.trans s)
 ·exact NV.mpr ⟨fun a ha=>hx a (I.mem a (s.subset ha)),I.ord.sublist s.sublist⟩
 ·rcases Kr.mp hp with q|q
  ·rw[q];simp
  ·exact Ob _ (I.mem p (s.subset q))
 ·injection e with e1 e2;subst e1;rcases KR.mp hp with q|q
  ·exact K7 (hx p q)
  ·rw[LQ.mp q];exact Mf _
 ·by_cases d0:done=[]
  ·rw[hn d0,d0];exact⟨[],x,rfl,fun p hp=>by simp at hp;rw[hp];exact Mf _⟩
  ·obtain⟨pre,a,e1,h1⟩:=I.bot d0;obtain⟨pre2,e2⟩:=s;have ne:bN st x ≠ []:=xx (by rw[e1];simp);obtain⟨Uy,a3,e3⟩:∃Uy a3,bN st x=Uy++[a3]:=⟨_,_,(UH ne).symm⟩;have:a3=a:=by
    rw[e3,e1,<- Nt]at e2;have:=List.append_inj_right' e2 (by simp);simpa using this
   subst this;refine⟨x::Uy,a3,by rw[e3];rfl,fun p hp=>?_⟩;rcases KR.mp hp with q|q
   ·exact h1 p q
   ·rw[LQ.mp q];exact K7 (hx a3 (I.mem a3 (by rw[e1];simp)))
theorem si:∀(es st done:yat),Tf A B st done->(done=[]->st=[])->(done++es).Pairwise (fun p q=>fA A B p<fA A B q)->Tf A B (bj st es) (done++es)
 |[],st,done,I,_,_=>by rw[Pa];exact I
 |x::es,st,done,I,hn,o=>by
  obtain⟨o1,o2,o3⟩:=Qs.mp o;have inj:∀(l:yat),l.Pairwise (fun p q=>fA A B p<fA A B q)->∀p∈l,∀q∈l,fA A B p=fA A B q->p=q:=by
   intro l
   induction l with
   |nil=>intro _ p hp;cases hp
   |cons y l ih =>
    intro o p hp q hq e;obtain⟨u,v⟩:=NV.mp o;rcases Kr.mp hp with a|a<;>rcases Kr.mp hq with b|b
    ·rw[a,b]
    ·have:=u q b;rw[a]at e;lia
    ·have:=u p a;rw[b]at e;lia
    ·exact ih v p a q b e
  have:=si es (x::bN st x) (done++[x]) (Ci I (fun p hp=>o3 p hp x MC) (inj done o1) hn) (by simp) (by rw[Nt];exact o);rw[Nt]at this;exact this
def EH(A B:Int):Tf A B [] []:=⟨fun b a r e=>by have:=e.length_le;simp at this,fun c b a r e=>by have:=e.length_le;simp at this,.nil,fun p hp=>hp,fun b r e=>(by cases e),fun h=>absurd rfl h⟩
def Hf{ys:yat}(o:ys.Pairwise fun p q=>fA A B p<fA A B q):Tf A B (bj [] ys) ys:=by have:=si ys [] [] (EH A B) (fun _=>rfl) (by simpa using o);simpa using this
structure Way(A B:Int)(ps:yat)(n:Nat)(l:Nat->Sp):Prop where
 two:2<=n
 Lo:∀i,i+1<n->∀p∈ps,0<=cr (l i) (l (i+1)) p
 OH:∀i,i+2<n->0<cr (l i) (l (i+1)) (l (i+2))
 rise:∀i j,i<j->j<n->fA A B (l i)<fA A B (l j)
 mem:∀i,i<n->l i∈ps
 lo:∀p∈ps,fA A B (l 0)<=fA A B p
 hi:∀p∈ps,fA A B p<=fA A B (l (n - 1))
def bE(A B:Int)(p:Sp):fA (-A) (-B) p=- fA A B p:=by unfold fA;grind
def Df{n m:Nat}(L:Way A B ps (n+2) l)(U:Way (-A) (-B) ps (m+2) u)(hm:l (n+1)=u 0)(h:0<n+m):0<cr (l n) (l (n+1)) (u 1):=by
 have ol:=L.rise n (n+1) (Pj _) (Pj _);have ou:=U.rise 0 1 Nat.one_pos (RC (OP _));rw[bE,bE,Int.neg_lt_neg_iff]at ou;rw[hm]at ol ⊢;have g:cr (l n) (u 0) (u 1)=cx (u 1) (u 0) (l n) (u 0):=by rw[bH];unfold cx;grind
 rw[g];cases n with
 |succ a =>
  have b:=L.OH a (Pj _);have o:=L.rise a (a+2) (Nat.lt_add_of_pos_right (by decide)) (Pj _);have e:=U.Lo 0 (RC (OP _)) (l a) (L.mem a (Nat.lt_add_of_pos_right (k:=3) (by decide)));have Td:l (a+2)=u 0:=hm;rw[Td]at o b;have e':cr (u 0) (u 1) (l a)=cx (u 1) (u 0) (l a) (u 0):=by rw[bH];unfold cx;grind
  rw[e']at e;rw[cx3]at b;exact Du (A:=A) (B:=B) ou o ol e b
 |zero =>
  cases m with
  |zero=>exact absurd h (Qw _)
  |succ m =>
   have b:=U.OH 0 (RC (RC (OP _)));have o:=U.rise 0 2 (by decide) (RC (RC (OP _)));rw[bE,bE,Int.neg_lt_neg_iff]at o;have e:=L.Lo 0 (Pj _) (u 2) (U.mem 2 (RC (RC (OP _))));have Td:l (0+1)=u 0:=hm;rw[Td]at e;have e':cr (l 0) (u 0) (u 2)=cx (u 2) (u 0) (l 0) (u 0):=by rw[bH];unfold cx;grind
   have b':cr (u 0) (u 1) (u 2)=cx (u 1) (u 0) (u 2) (u 0):=by rw[bH];unfold cx;grind
   rw[e']at e;have b2:0<cx (u 1) (u 0) (u 2) (u 0):=by rw[<- b'];exact b
   exact Dv (A:=A) (B:=B) ou o ol b2 e
def xA{n m:Nat}{h:Nat->Sp}(L:Way A B ps (n+2) l)(U:Way (-A) (-B) ps (m+2) u)(eM:l (n+1)=u 0)(e0:u (m+1)=l 0)(h3:0<n+m)
  (hl:∀k,k<n+2->h k=l k) (hu:∀j,j<m+1->h (n+1+j)=u j):(∀k,k<n+m+2->∀p∈ps,0<=cr (h ((k+(n+m+2) - 1) % (n+m+2))) (h k) p)/\0<cr (h 0) (h 1) (h 2):=by
 refine⟨fun k hk p hp=>?_,?_⟩
 ·cases k with
  |zero =>
   have e:(0+(n+m+2) - 1) % (n+m+2)=n+1+m:=by rw[Pn];show(n+m+1) % (n+m+2)=_;rw[Od (Pj _),Nat.add_right_comm]
   rw[e,hu m (Pj _),hl 0 (OP _),<- e0];exact U.Lo m (Pj _) p hp
  |succ k =>
   have e:(k+1+(n+m+2) - 1) % (n+m+2)=k:=by rw[Nat.add_right_comm];show(k+(n+m+2)) % (n+m+2)=k;rw[UP,Od (Tz hk)]
   rw[e];by_cases c:k+1<n+2
   ·rw[hl k (Tz c),hl (k+1) c];exact L.Lo k c p hp
   ·obtain⟨j,rfl⟩:=Nat.le.dest (Nat.le_of_succ_le_succ (US c));have hj:j+1<m+1:=by lia
    rw[hu j (Tz hj),Nat.add_assoc,hu (j+1) hj];exact U.Lo j (VI hj) p hp
 ·cases n with
  |succ a =>
   have z:2<a+1+2:=RC (RC (OP _));rw[hl 0 (OP _),hl 1 (Tz z),hl 2 z];exact L.OH 0 z
  |zero =>
   have z:1<m+1:=by lia
   rw[hl 0 (by decide),hl 1 (by decide),show h 2=u 1 from hu 1 z];exact Df L U eM h3
def qk{ys:yat}(o:ys.Pairwise fun p q=>fA A B p<fA A B q)(h2:2<=ys.length):Way A B ys (aF ys).length fun i=>(aF ys).getD i (0,0):=by
 have I:=Hf o;obtain⟨pre,a,e1,h1⟩:=I.bot (by intro e;rw[e]at h2;simp at h2);have len:2<=(aF ys).length:=by
  unfold aF;rw[P7,e1];rcases pre with _|⟨b,pre⟩
  ·exfalso;have t:=I.top a [] (by simpa using e1);rcases ys with _|⟨y1,_|⟨y2,r⟩⟩
   ·simp at h2
   ·simp at h2
   ·have q:=(NV.mp o).1 y2 (by simp);have q1:=h1 y1 (by simp);have q2:=t y2 (by simp)
    lia
  ·simp
 have Zn:∀i,i<(aF ys).length->(aF ys)[i]?=some ((aF ys).getD i (0,0)):=fun i hi=>by rw[Nq,LH hi];rfl
 have Rq:bj [] ys=(aF ys).reverse:=by unfold aF;rw[List.reverse_reverse]
 refine⟨len,fun i hi p hp=>?_,fun i hi=>?_,fun i j My hj=>?_,fun i hi=>?_,fun p hp=>?_,fun p hp=>?_⟩
 ·refine I.e2 _ _ ((aF ys).take i).reverse ⟨((aF ys).drop (i+2)).reverse,?_⟩ p hp;rw[Rq];have q:=OL i (aF ys);rw[RP (show i<(aF ys).length by lia),RP hi]at q;have q2:=congrArg List.reverse q;simp only[Nq,LH (show i<(aF ys).length by lia),LH hi,Option.getD_some];simpa only[UK,Tx,Nt,Nu,Oe]using q2
 ·refine I.e3 _ _ _ ((aF ys).take i).reverse ⟨((aF ys).drop (i+3)).reverse,?_⟩;rw[Rq];have q:=OL i (aF ys);rw[RP (show i<(aF ys).length by lia),RP (show i+1<(aF ys).length by lia),RP hi]at q;have q2:=congrArg List.reverse q;simp only[Nq,LH (show i<(aF ys).length by lia),LH (show i+1<(aF ys).length by lia),LH hi,Option.getD_some];simpa only[UK,Tx,Nt,Nu,Oe]using q2
 ·have o':(aF ys).Pairwise fun a b=>fA A B a<fA A B b:=by
   unfold aF;exact VB.mpr I.ord
  have:=(QO.mp o') i j (by lia) hj My;simp only[Nq,LH (show i<(aF ys).length by lia),LH hj,Option.getD_some];exact this
 ·refine I.mem _ ?_;rw[Rq,Qv];exact NS (Zn i hi)
 ·have:(aF ys).getD 0 (0,0)=a:=by unfold aF;rw[e1];simp
  show fA A B ((aF ys).getD 0 (0,0))<=_;rw[this];exact h1 p hp
 ·have e:=Zn ((aF ys).length - 1) (by lia);generalize (aF ys).getD ((aF ys).length - 1) (0,0)=b at e ⊢;refine I.top b (bj [] ys).tail ?_ p hp;rw[<- YL]at e;unfold aF at e;rw[List.getLast?_reverse]at e;cases hc:bj [] ys with
  |nil=>rw[hc]at e;simp at e
  |cons x r=>rw[hc]at e;simp at e;rw[e];rfl
theorem uL:∀{l:yat},l.Pairwise (fun p q=>fA A B p<fA A B q)->∀p∈l,∀q∈l,fA A B p=fA A B q->p=q
 |[],_,p,hp=>by cases hp
 |y::l,o,p,hp=>fun q hq e=>by
  obtain⟨u,v⟩:=NV.mp o;rcases Kr.mp hp with a|a<;>rcases Kr.mp hq with b|b
  ·rw[a,b]
  ·have:=u q b;rw[a]at e;lia
  ·have:=u p a;rw[b]at e;lia
  ·exact uL v p a q b e
def Way.to{ps qs:yat}(h:∀p,p∈qs↔p∈ps)(W:Way A B ps n l):Way A B qs n l :=
 ⟨W.two,fun i hi p hp=>W.Lo i hi p ((h p).mp hp),W.OH,W.rise,fun i hi=>(h _).mpr (W.mem i hi),fun p hp=>W.lo p ((h p).mp hp),fun p hp=>W.hi p ((h p).mp hp)⟩
theorem BJ:∀ys:yat,∃M:Int,0<M/\∀p∈ys,-M<p.2/\p.2<M
 |[]=>⟨1,by decide,fun p hp=>by cases hp⟩
 |y::ys=>by
  obtain⟨M,h0,h⟩:=BJ ys;refine⟨M+y.2.natAbs+1,by lia,fun p hp=>?_⟩;rcases Kr.mp hp with q|q
  ·rw[q];lia
  ·have:=h p q;lia
def pf{M:Int}{p q:Sp}(h0:0<M)(hp:-M<p.2/\p.2<M)(hq:-M<q.2/\q.2<M)(h:jj p q):fA (2*M) 1 p<fA (2*M) 1 q:=by
 unfold fA;rcases h with h|⟨h1,h2⟩
 ·have:=YI (show p.1+1<=q.1 by lia) (show 0<=2*M by lia);rw[Int.mul_add]at this
  lia
 ·rw[h1];lia
def bD(hs:yat)(k:Nat):Sp:=hs.getD ((k+hs.length - 1) % hs.length) (0,0)
structure jQ(hs ps:yat):Prop where
 mem:∀p∈hs,p∈ps
 len:hs.length<=2*ps.length
 PU:ps ≠ []->∃a r,hs=a::r/\∀p∈ps,¬jj p a
 one:∀a,hs=[a]->∀p∈ps,p=a
 two:∀a b,hs=[a,b]->a≠b/\∀p∈ps,cr a b p=0/\¬jj b p
 Lo:2<hs.length->∀k,k<hs.length->∀p∈ps,0<=cr (bD hs k) (hs.getD k (0,0)) p
 OH:2<hs.length->0<cr (hs.getD 0 (0,0)) (hs.getD 1 (0,0)) (hs.getD 2 (0,0))
def se(h:bY ys ps):jQ (aP ys) ps:=by
 have yl:=nN h;obtain⟨o,hm⟩:=h;unfold aP;by_cases c:ys.length<2
 ·rw[JU c];refine⟨fun p hp=>(hm p).mp hp,by lia,fun e=>?_,fun a e p hp=>?_,fun a b e=>?_,fun q=>absurd q (by lia),fun q=>absurd q (by lia)⟩
  ·rcases ys with _|⟨y,_|⟨z,r⟩⟩
   ·cases ps with
    |nil=>exact absurd rfl e
    |cons y r=>have:=(hm y).mpr MC;cases this
   ·refine⟨y,[],rfl,fun p hp=>?_⟩;have:=(hm p).mpr hp;rw[LQ.mp this];exact fun q=>q.elim (Qc _) fun q=>Qc _ q.2
   ·exact absurd c (by simp)
  ·have:=(hm p).mpr hp;rw[e]at this;exact LQ.mp this
  ·rw[e]at c;simp at c
 ·rw[JT c];obtain⟨M,M0,hM⟩:=BJ ys;have oF:ys.Pairwise fun p q=>fA (2*M) 1 p<fA (2*M) 1 q:=by
   refine List.Pairwise.imp_of_mem ?_ o;intro p q hp hq h;exact pf M0 (hM p hp) (hM q hq) h
  have oB:ys.reverse.Pairwise fun p q=>fA (-(2*M)) (-1) p<fA (-(2*M)) (-1) q:=by refine VB.mpr (oF.imp ?_);intro p q h;rw[bE,bE];exact Int.neg_lt_neg h
  have L:=(qk oF (US c)).to (qs:=ps) fun p=>(hm p).symm
  have U:=(qk oB (by rw[P7];exact US c)).to (qs:=ps) fun p=>by rw[Qv];exact(hm p).symm
  have ll:(aF ys).length<=ys.length:=by have:=eI [] ys;unfold aF;rw[P7];simpa using this
  have lu:(aF ys.reverse).length<=ys.length:=by have:=eI [] ys.reverse;unfold aF;rw[P7];simpa using this
  generalize aF ys=l at L ll ⊢;generalize aF ys.reverse=u at U lu ⊢;have inj:∀p∈ps,∀q∈ps,fA (2*M) 1 p=fA (2*M) 1 q->p=q:=fun p hp q hq e=>uL oF p ((hm p).mpr hp) q ((hm q).mpr hq) e
  have nl:∀p∈ps,∀q∈ps,fA (2*M) 1 p<=fA (2*M) 1 q->¬jj q p:=fun p hp q hq e x =>
   Int.not_le_of_gt (pf M0 (hM q ((hm q).mpr hq)) (hM p ((hm p).mpr hp)) x) e
  generalize 2*M=A at L U inj nl;clear oF oB hM M0 o hm;obtain⟨n,hn⟩:∃n,l.length=n+2:=⟨l.length - 2,by have:=L.two;lia⟩;obtain⟨m,hm⟩:∃m,u.length=m+2:=⟨u.length - 2,by have:=U.two;lia⟩;have hl:(l.dropLast++u.dropLast).length=n+m+2:=by
   rw[LO,QP,QP,hn,hm];show n+1+(m+1)=_
   lia
  have memD:∀{w:yat} {x:Sp},x∈w.dropLast->x∈w:=fun {w x} hx=>(List.dropLast_sublist w).subset hx
  have gm:∀{w:yat} {i:Nat} (hi:i<w.length),w.getD i (0,0)=w[i]:=fun {w i} hi=>by rw[Nq,LH hi];rfl
  rw[hn]at L;rw[hm]at U;have eM:l.getD (n+1) (0,0)=u.getD 0 (0,0):=by have m1:=L.mem (n+1) (Pj _);have m2:=U.mem 0 (OP _);have a1:=L.hi _ m2;have a2:=U.lo _ m1;rw[bE,bE]at a2;exact inj _ m1 _ m2 (UU (XT a2) a1)
  have e0:u.getD (m+1) (0,0)=l.getD 0 (0,0):=by have m1:=L.mem 0 (OP _);have m2:=U.mem (m+1) (Pj _);have a1:=L.lo _ m2;have a2:=U.hi _ m1;rw[bE,bE]at a2;exact inj _ m2 _ m1 (UU (XT a2) a1)
  have gu:∀j,j<m+1->(l.dropLast++u.dropLast).getD (n+1+j) (0,0)=u.getD j (0,0):=fun j hj=>by
   have ld:l.dropLast.length=n+1:=by rw[QP,hn];rfl
   rw[Nq,Nq,NM (by rw[ld];exact Nat.le_add_right _ _),ld,UI,XQ,hm,JU (show j<m+2 - 1 from hj)]
  have gl:∀k,k<n+2->(l.dropLast++u.dropLast).getD k (0,0)=l.getD k (0,0):=fun k hk=>by
   rcases Nat.lt_or_eq_of_le (Nat.le_of_lt_succ hk)with z|z
   ·rw[Nq,Nq,OV (by rw[QP,hn];exact z),XQ,hn,JU (show k<n+2 - 1 from z)]
   ·rw[z,eM];exact gu 0 (OP _)
  have a0:=gl 0 (OP _);refine⟨fun p hp=>?_,by rw[hl];lia,fun e=>?_,fun a e=>?_,fun a b e=>?_,fun q=>?_,fun q=>?_⟩
  ·rcases KR.mp hp with z|z
   ·obtain⟨i,hi,e⟩:=List.mem_iff_getElem.mp (memD z);rw[<- e,<- gm hi];exact L.mem i (by rw[<- hn];exact hi)
   ·obtain⟨i,hi,e⟩:=List.mem_iff_getElem.mp (memD z);rw[<- e,<- gm hi];exact U.mem i (by rw[<- hm];exact hi)
  ·cases hh:l.dropLast++u.dropLast with
   |nil=>rw[hh]at hl;exact absurd hl (by simp)
   |cons a r =>
    rw[hh]at a0;refine⟨a,r,rfl,fun p hp=>?_⟩;rw[show a=l.getD 0 (0,0)from a0];exact nl _ (L.mem 0 (OP _)) p hp (L.lo p hp)
  ·rw[e]at hl;simp at hl
  ·have nm:n=0/\m=0:=by rw[e]at hl;simp at hl;lia
   obtain⟨rfl,rfl⟩:=nm;have g1:=gl 1 (by decide);rw[e]at a0 g1;have Qq:a=l.getD 0 (0,0):=a0;have PG:b=l.getD 1 (0,0):=g1;have eM':l.getD 1 (0,0)=u.getD 0 (0,0):=eM;have e0':u.getD 1 (0,0)=l.getD 0 (0,0):=e0;refine⟨fun ab=>?_,fun p hp=>?_⟩
   ·have:=L.rise 0 1 (by decide) (by decide);rw[<- Qq,<- PG,ab]at this;exact Qc _ this
   ·have x1:=L.Lo 0 (by decide) p hp;have x2:=U.Lo 0 (by decide) p hp;have x3:=L.hi p hp;have x1':0<=cr a b p:=by rw[Qq,PG];exact x1
    have x2':0<=cr b a p:=by rw[PG,eM',Qq,<- e0'];exact x2
    have x3':fA A 1 p<=fA A 1 b:=by rw[PG];exact x3
    have an:cr b a p=- cr a b p:=by rw[bH,bH];grind
    refine⟨by lia,nl p hp b ?_ x3'⟩;rw[PG];exact L.mem 1 (by decide)
  ·intro k hk p hp;rw[hl]at hk q;have R:=(xA L U eM e0 (by lia) gl gu).1 k hk p hp;unfold bD;rw[hl];exact R
  ·rw[hl]at q;exact(xA L U eM e0 (by lia) gl gu).2
def BF{α:Type}(xs:List α)(j b:Nat)(hj:j<xs.length)(hb:b<=xs.length):Me xs ((j:Int) - (b:Int))=xs[(j+xs.length - b) % xs.length]?:=by
 unfold Me ixN;by_cases c:b<=j
 ·rw[JU (by lia),JU (by lia),show j+xs.length - b=j - b+xs.length by lia,UP,Od (by lia)];show xs[((j:Int) - (b:Int)).toNat]?=_;congr 1
  lia
 ·rw[JT (by lia),JU (by lia),Od (by lia)];show xs[((j:Int) - (b:Int)+(xs.length:Int)).toNat]?=_;congr 1
  lia
def DV(lo hi:Int):iI lo hi 1=(hi - lo).toNat:=by
 unfold iI Builtin.Range.rangeSize;rw[JU (by decide)];by_cases h:lo<hi
 ·rw[JU h,Int.ediv_one]
  lia
 ·rw[JT h]
  lia
def yW(n:Nat):gL 0 1 (iI 0 (n:Int) 1)=(List.range' 0 n).map fun(k:Nat)=>D.int (k:Int):=by unfold gL;rw[DV,show((n:Int) - 0).toNat=n by lia,List.range'_eq_map_range,MX];apply Tv;intro k _;simp
def eZ(pk:yag):Nat:=match pk.getLast? with
 |none=>0
 |some l=>l+1
def NR(n:Nat)(pk:yag):List (yag):=(List.range' (eZ pk) (n - eZ pk)).map fun k=>pk++[k]
def Ol(n:Nat):Nat->List (yag)
 |0=>[[]]
 |j+1=>(Ol n j).flatMap (NR n)
def Om(pk:yag):D:=.lst true (pk.map fun(k:Nat)=>D.int (k:Int))
theorem xn:∀{j:Nat} {pk:yag},pk∈Ol n j->pk.length=j/\∀k∈pk,k<n
 |0,pk,h=>by simp only[Ol,LQ]at h;subst h;simp
 |j+1,pk,h=>by
  simp only[Ol,RS]at h;obtain⟨q,hq,h⟩:=h;obtain⟨h1,h2⟩:=xn hq;unfold NR at h;obtain⟨k,hk,rfl⟩:=KH.mp h;rw[SD]at hk;refine⟨by simp[h1],fun x hx=>?_⟩;rcases KR.mp hx with z|z
  ·exact h2 x z
  ·simp at z;subst z;lia
theorem mz(n:Nat):∀j:Nat,(Ol n j).length<=n ^ j
 |0=>by simp[Ol]
 |j+1=>by
  have ih:=mz n j;simp only[Ol];have:∀l:List (yag),(l.flatMap (NR n)).length<=l.length*n:=by
   intro l
   induction l with
   |nil=>simp
   |cons a r ih =>
    rw[List.flatMap_cons,LO,Oc,Nat.add_mul];have:(NR n a).length<=n:=by unfold NR;rw[J6,P8];lia
    lia
  refine LZ (this _) ?_;rw[Pm];exact Nat.mul_le_mul_right _ ih
def Fz(a b:Nat):gL (a:Int) 1 (iI a b 1)=(List.range' a (b - a)).map fun(k:Nat)=>D.int (k:Int):=by unfold gL;rw[DV,show((b:Int) - (a:Int)).toNat=b - a by lia,List.range'_eq_map_range,MX];apply Tv;intro k _;simp
theorem uM(n:Nat):∀l:List (yag),(l.flatMap (NR n)).length<=l.length*n
 |[]=>by simp
 |a::r=>by
  rw[List.flatMap_cons,LO,Oc,Nat.add_mul];have:=uM n r;have:(NR n a).length<=n:=by unfold NR;rw[J6,P8];lia
  lia
def Ec{pk:yag}(h:pk ≠ []){Q:D->Prop}(q:Q (.int ((eZ pk:Nat) - 1:Int))):∃d,Me (pk.map fun(k:Nat)=>D.int (k:Int)) (-1)=some d/\Q d:=by
 obtain⟨r,l,rfl⟩:∃r l,pk=r++[l]:=⟨pk.dropLast,pk.getLast h,(UH h).symm⟩;refine⟨.int l,?_,?_⟩
 ·unfold Me ixN;rw[J6,LO];have e:(-1+((r.length:Int)+1)).toNat=r.length:=by lia
  have l:(1:Int)<=(r.length:Int)+1:=by lia
  simp[e,l]
 ·have:((eZ (r++[l]):Nat):Int) - 1=l:=by
   unfold eZ;simp
  rw[<- this];exact q
abbrev Tr:=Int×Int×Int
abbrev yau:=List Tr
def tn(a b:Sp):Int:=a.1*b.2 - b.1*a.2
def JW(a b:Sp):Int:=a.1*b.1+a.2*b.2
def Kc(h:Tr)(p:Sp):Sp:=(h.1*p.1 - 1*h.2.1,h.1*p.2 - 1*h.2.2)
def JS(g h:Tr):Int:=g.1*h.1+g.2.1*h.2.1+g.2.2*h.2.2
def dO(a b:Sp):Tr:=(a.1*b.2 - b.1*a.2,a.2*1 - b.2*1,1*b.1 - 1*a.1)
def b7(a w:Sp):Tr:=(-(w.1*a.1+w.2*a.2),w.1*1,w.2*1)
def K8(a:Sp):Sp:=(-a.1,-a.2)
def K4(a:Sp):Sp:=(-a.2,a.1)
def aM(a b:Sp):Sp:=if a=b then(1,0)else(1*b.1 - 1*a.1,1*b.2 - 1*a.2)
def gr(a b:Sp):yau:=[b7 a (aM a b),b7 b (K8 (aM a b)),b7 a (K4 (aM a b)),b7 a (K8 (K4 (aM a b)))]
def bb(hs:yat):yau:=if hs.length<3 then gr (hs.getD 0 (0,0)) (hs.getD (hs.length - 1) (0,0))else(List.range' 0 hs.length).map fun k=>dO (bD hs k) (hs.getD k (0,0))
def ql(a:Sp):Prop:=a=(0,0)
def qo(a b:Sp):Prop:=tn a b=0/\JW a b<0
def Bv(a b e:Sp):Prop:=(0<tn b e/\0<tn e a/\0<tn a b)∨(tn b e<0/\tn e a<0/\tn a b<0)
def bM(a b:Sp):tn a b=- tn b a:=by unfold tn;grind
def jO(a:Sp):tn a a=0:=by unfold tn;grind
def uI(a b:Sp):JW a b=JW b a:=by unfold JW;grind
def Tg(a:Int):0<=a*a:=by
 rcases Int.le_total 0 a with h|h
 ·exact Lq h h
 ·have:=Lq (show 0<=-a by lia) (show 0<=-a by lia);have e:-a*-a=a*a:=by grind
  lia
def fE{w:Sp}(h:w≠(0,0)):0<JW w w:=by
 obtain⟨a,b⟩:=w;unfold JW;dsimp only;have h1:=Tg a;have h2:=Tg b;by_cases ha:a=0
 ·by_cases hb:b=0
  ·subst ha hb;exact absurd rfl h
  ·have:b*b≠0:=SF hb hb;omega
 ·have:a*a≠0:=SF ha ha;omega
def qw{b c:Sp}{y z:Int}(hy:0<y)(hz:0<z)(e1:y*b.1+z*c.1=0)(e2:y*b.2+z*c.2=0):ql b∨qo b c:=by
 by_cases hb:b=(0,0)
 ·exact .inl hb
 ·right
  have p:=fE hb;have t:z*tn b c=0:=by
   have:z*tn b c=b.1*(y*b.2+z*c.2) - b.2*(y*b.1+z*c.1):=by unfold tn;grind
   rw[this,e1,e2];simp
  have d:z*JW b c=- (y*JW b b):=by
   have:z*JW b c+y*JW b b=b.1*(y*b.1+z*c.1)+b.2*(y*b.2+z*c.2):=by unfold JW;grind
   rw[e1,e2]at this;simp at this
   lia
  have yy:=Og hy p;refine⟨?_,?_⟩
  ·rcases Ox.mp t with q|q<;>lia
  ·by_cases q:JW b c<0
   ·exact q
   ·have:=Lq (K7 hz) (show 0<=JW b c by lia)
    lia
def F7(a b c:Sp):tn b c*a.1+tn c a*b.1+tn a b*c.1=0/\tn b c*a.2+tn c a*b.2+tn a b*c.2=0:=by unfold tn;constructor<;>grind
def nK{c:Sp}{z:Int}(hz:0<z)(e1:z*c.1=0)(e2:z*c.2=0):ql c:=by
 rcases Ox.mp e1 with q|q
 ·lia
 ·rcases Ox.mp e2 with r|r
  ·lia
  ·exact ME q r
def Ee(hx:0<=tn b c)(hy:0<=tn c a)(hz:0<=tn a b)(hs:0<tn b c+tn c a+tn a b) :
  ql a∨ql b∨ql c∨qo a b∨qo b c∨qo c a∨Bv a b c:=by
 obtain⟨e1,e2⟩:=F7 a b c;by_cases x0:tn b c=0
 ·rw[x0,OX]at e1 e2;by_cases y0:tn c a=0
  ·rw[y0,OX]at e1 e2;exact .inr (.inr (.inl (nK (z:=tn a b) (by lia) (by lia) (by lia))))
  ·by_cases z0:tn a b=0
   ·rw[z0,OX]at e1 e2;exact .inr (.inl (nK (z:=tn c a) (by lia) (by lia) (by lia)))
   ·rcases qw (b:=b) (c:=c) (y:=tn c a) (z:=tn a b) (by lia) (by lia) (by lia) (by lia)with q|q
    ·exact .inr (.inl q)
    ·exact .inr (.inr (.inr (.inr (.inl q))))
 ·by_cases y0:tn c a=0
  ·rw[y0,OX]at e1 e2;by_cases z0:tn a b=0
   ·rw[z0,OX]at e1 e2;exact .inl (nK (z:=tn b c) (by lia) (by lia) (by lia))
   ·rcases qw (b:=c) (c:=a) (y:=tn a b) (z:=tn b c) (by lia) (by lia) (by lia) (by lia)with q|q
    ·exact .inr (.inr (.inl q))
    ·exact .inr (.inr (.inr (.inr (.inr (.inl q)))))
  ·by_cases z0:tn a b=0
   ·rw[z0,OX]at e1 e2;rcases qw (b:=a) (c:=b) (y:=tn b c) (z:=tn c a) (by lia) (by lia) (by lia) (by lia)with q|q
    ·exact .inl q
    ·exact .inr (.inr (.inr (.inl q)))
   ·exact .inr (.inr (.inr (.inr (.inr (.inr (.inl ⟨by lia,by lia,by lia⟩))))))
def qp(h:Tr)(ps:yat):Prop:=(∃p∈ps,ql (Kc h p))∨(∃p∈ps,∃q∈ps,qo (Kc h p) (Kc h q))∨∃ p∈ps,∃q∈ps,∃r∈ps,Bv (Kc h p) (Kc h q) (Kc h r)
def BI{ps:yat}{p q r:Sp}(hp:p∈ps)(hq:q∈ps)(hr:r∈ps)(hx:0<=tn (Kc h q) (Kc h r))(hy:0<=tn (Kc h r) (Kc h p))(hz:0<=tn (Kc h p) (Kc h q))(hs:0<tn (Kc h q) (Kc h r)+tn (Kc h r) (Kc h p)+tn (Kc h p) (Kc h q)):qp h ps:=by
 rcases Ee hx hy hz hs with c|c|c|c|c|c|c
 ·exact .inl ⟨_,hp,c⟩
 ·exact .inl ⟨_,hq,c⟩
 ·exact .inl ⟨_,hr,c⟩
 ·exact .inr (.inl ⟨_,hp,_,hq,c⟩)
 ·exact .inr (.inl ⟨_,hq,_,hr,c⟩)
 ·exact .inr (.inl ⟨_,hr,_,hp,c⟩)
 ·exact .inr (.inr ⟨_,hp,_,hq,_,hr,c⟩)
def Ca(h:Tr)(a b:Sp):tn (Kc h a) (Kc h b)=h.1*JS (dO a b) h:=by unfold tn Kc JS dO;grind
def EE(h:Tr)(a w:Sp):JS (b7 a w) h=- JW w (Kc h a):=by unfold JS b7 JW Kc;grind
def Ij(h:Tr)(a b c:Sp):tn (Kc h b) (Kc h c)+tn (Kc h c) (Kc h a)+tn (Kc h a) (Kc h b)=h.1*(h.1*cr a b c):=by rw[bH];unfold tn Kc;grind
def Hn(u v w:Sp):JW u v*JW u w+tn u v*tn u w=JW u u*JW v w:=by unfold JW tn;grind
def rK{u:Sp}(hu:u≠(0,0))(h1:JW u v=0)(h2:tn u v=0):v=(0,0):=by
 have p:=fE hu;have l:=Hn u v v;rw[h1,h2]at l;simp only[OX,Of]at l;by_cases c:v=(0,0)
 ·exact c
 ·have:=Og p (fE c)
  lia
def Bi{ps:yat}{a b:Sp}(am:a∈ps)(bm:b∈ps)(PV:∀g∈gr a b,0<=JS g h):qp h ps:=by
 unfold gr at PV;have o1:=PV _ (MC);have o2:=PV _ (K0 _ MC);have o3:=PV _ (K0 _ (K0 _ MC));have o4:=PV _ (K0 _ (K0 _ (K0 _ MC)));clear PV;rw[EE]at o1 o2 o3 o4;have ne:aM a b≠(0,0):=by
  unfold aM;split
  ·decide
  ·rename_i n;intro e;rw[Pk,Po,Po,Po,Po]at e;exact n (ME (VA e.1).symm (VA e.2).symm)
 have d2:JW (K8 (aM a b)) (Kc h b)=- JW (aM a b) (Kc h b):=by unfold JW K8;grind
 have d3:JW (K4 (aM a b)) (Kc h a)=tn (aM a b) (Kc h a):=by unfold JW K4 tn;grind
 have d4:JW (K8 (K4 (aM a b))) (Kc h a)=- tn (aM a b) (Kc h a):=by unfold JW K8 K4 tn;grind
 rw[d2,RV]at o2;rw[d3]at o3;rw[d4,RV]at o4;have t0:tn (aM a b) (Kc h a)=0:=UU (Int.neg_nonneg.mp o3) o4;have o1':JW (aM a b) (Kc h a)<=0:=Int.neg_nonneg.mp o1;clear o1 o3 o4 d2 d3 d4;by_cases e:a=b
 ·subst e;exact .inl ⟨a,am,rK ne (UU o1' o2) t0⟩
 ·have ew:Kc h b=((Kc h a).1+h.1*(aM a b).1,(Kc h a).2+h.1*(aM a b).2):=by
   unfold aM;rw[JT e];unfold Kc;dsimp only;rw[Pk];constructor<;>grind
  have tb:tn (aM a b) (Kc h b)=0:=by
   rw[ew];have:tn (aM a b) ((Kc h a).1+h.1*(aM a b).1,(Kc h a).2+h.1*(aM a b).2)=tn (aM a b) (Kc h a):=by unfold tn;dsimp only;grind
   rw[this,t0]
  have tab:tn (Kc h a) (Kc h b)=0:=by
   rw[ew];have:tn (Kc h a) ((Kc h a).1+h.1*(aM a b).1,(Kc h a).2+h.1*(aM a b).2)=- (h.1*tn (aM a b) (Kc h a)):=by unfold tn;dsimp only;grind
   rw[this,t0,Qe,Int.neg_zero]
  have l:=Hn (aM a b) (Kc h a) (Kc h b);rw[tb,Qe,Of]at l;by_cases z1:JW (aM a b) (Kc h a)=0
  ·exact .inl ⟨a,am,rK ne z1 t0⟩
  ·by_cases z2:JW (aM a b) (Kc h b)=0
   ·exact .inl ⟨b,bm,rK ne z2 tb⟩
   ·have neg:=Pf (Int.lt_iff_le_and_ne.mpr ⟨o1',z1⟩) (Int.lt_iff_le_and_ne.mpr ⟨o2,Ne.symm z2⟩);refine .inr (.inl ⟨a,am,b,bm,tab,?_⟩);rw[l]at neg;by_cases q:JW (Kc h a) (Kc h b)<0
    ·exact q
    ·exact absurd neg (Pp.mpr (Lq (K7 (fE ne)) (Pp.mp q)))
def B8{h:Tr}{ps:yat}{c:Nat->Sp}{N:Nat}(h0:0<h.1)(cm:∀i,i<N->c i∈ps)(Lo:∀i,i+1<N->0<=tn (Kc h (c i)) (Kc h (c (i+1))))(OH:0<cr (c 0) (c 1) (c 2)) :
  ∀ d i,N=i+d+3->0<=tn (Kc h (c (i+d+2))) (Kc h (c 0))->0<=tn (Kc h (c 0)) (Kc h (c (i+1)))->(i=0∨0<tn (Kc h (c 0)) (Kc h (c (i+1))))->qp h ps:=by
 have Nk:∀i,i+2<N->0<=tn (Kc h (c (i+2))) (Kc h (c 0))->0<=tn (Kc h (c 0)) (Kc h (c (i+1)))->(i=0∨0<tn (Kc h (c 0)) (Kc h (c (i+1))))->qp h ps:=fun i hi hy hz hp=>by
  have hx:=Lo (i+1) hi;refine BI (cm 0 (UN (Mx _) hi)) (cm (i+1) (Tz hi)) (cm (i+2) hi) hx hy hz ?_;rcases hp with q|q
  ·subst q;rw[Ij];exact Og h0 (Og h0 OH)
  ·exact Int.add_pos_of_nonneg_of_pos (Int.add_nonneg hx hy) q
 intro d
 induction d with
 |zero =>
  intro i hN hy hz hp;exact Nk i (by rw[hN];exact Pj _) hy hz hp
 |succ d ih =>
  intro i hN hy hz hp;have hi:i+2<N:=by rw[hN];lia
  by_cases z:0<tn (Kc h (c 0)) (Kc h (c (i+2)))
  ·have e1:i+1+d+2=i+(d+1)+2:=by lia
   exact ih (i+1) (by rw[hN];lia) (by rw[e1];exact hy) (K7 z) (.inr z)
  ·refine Nk i hi ?_ hz hp;rw[bM];exact Int.neg_nonneg_of_nonpos (Pp.mp z)
def AM{h:Tr}(g:jQ hs ps)(hn:ps ≠ [])(h0:0<h.1)(PV:∀b∈bb hs,0<=JS b h):qp h ps:=by
 obtain⟨a0,r0,eh,_⟩:=g.PU hn;have l0:0<hs.length:=by rw[eh];exact OP _
 have gm:∀i,i<hs.length->hs.getD i (0,0)∈ps:=fun i hi=>by rw[Nq,LH hi];exact g.mem _ (P9 _)
 unfold bb at PV;by_cases c:hs.length<3
 ·rw[JU c]at PV;exact Bi (gm 0 l0) (gm (hs.length - 1) (Nat.sub_lt l0 Nat.one_pos)) PV
 ·rw[JT c]at PV;obtain⟨d,hd⟩:∃d,hs.length=0+d+3:=⟨hs.length - 3,by lia⟩;have Lo:∀k,k<hs.length->0<=tn (Kc h (bD hs k)) (Kc h (hs.getD k (0,0))):=fun k hk=>by
   rw[Ca];exact Lq (K7 h0) (PV _ (KH.mpr ⟨k,SD.mpr ⟨Mx _,by rw[Pn];exact hk⟩,rfl⟩))
  have pz:bD hs 0=hs.getD (0+d+2) (0,0):=by unfold bD;rw[Pn,hd];show hs.getD ((0+d+2) % (0+d+3)) _=_;rw[Od (Pj _)]
  have ps_:∀k,k+1<hs.length->bD hs (k+1)=hs.getD k (0,0):=fun k hk=>by unfold bD;rw[Nat.add_right_comm];show hs.getD ((k+hs.length) % hs.length) _=_;rw[UP,Od (Tz hk)]
  have ed:∀i,i+1<hs.length->0<=tn (Kc h (hs.getD i (0,0))) (Kc h (hs.getD (i+1) (0,0))):=fun i hi=>by have:=Lo (i+1) hi;rw[ps_ i hi]at this;exact this
  have e0:=Lo 0 l0;rw[pz]at e0;exact B8 (c:=fun i=>hs.getD i (0,0)) h0 gm ed (g.OH (by rw[hd];lia)) d 0 hd e0 (ed 0 (by rw[hd];lia)) (.inl rfl)
def rM{u v x y:Int}(e:u*y=v*x)(h1:0<u∨(u=0/\0<v))(h2:0<x∨(x=0/\0<=y)):0<=u*x+v*y:=by
 rcases h1 with h1|⟨h1,Ln⟩
 ·have e2:(u*x+v*y)*u=(u*u+v*v)*x:=by grind
  refine Hu (y:=u) ?_ h1;rw[e2];refine Lq (Int.add_nonneg (Tg u) (Tg v)) ?_;rcases h2 with q|q
  ·exact K7 q
  ·rw[q.1];exact Mf _
 ·subst h1;rw[OX]at e ⊢;rw[U1];rcases Ox.mp e.symm with q|q
  ·exact absurd Ln (by rw[q];exact Qc _)
  ·rcases h2 with r|r
   ·exact absurd r (by rw[q];exact Qc _)
   ·exact Lq (K7 Ln) r.2
def qM(h:¬jj q p):0<q.1 - p.1∨(q.1 - p.1=0/\0<=q.2 - p.2):=by
 unfold jj at h
 lia
def Dg{a b:Sp}{g:Tr}(ne:a≠b)(Vf:¬jj b a)(hap:¬jj p a)(hpb:¬jj b p)(h0:cr a b p=0)(hg:g∈gr a b):0<=JS g (1,p.1,p.2):=by
 have key:∀w a:Sp,JS (b7 a w) (1,p.1,p.2)=w.1*(p.1 - a.1)+w.2*(p.2 - a.2):=fun w a=>by unfold JS b7;grind
 rw[bH]at h0;have c0:(b.1 - a.1)*(p.2 - a.2)=(b.2 - a.2)*(p.1 - a.1):=VA h0;have c1:(b.1 - a.1)*(b.2 - p.2)=(b.2 - a.2)*(b.1 - p.1):=by grind
 have al:0<b.1 - a.1∨(b.1 - a.1=0/\0<b.2 - a.2):=by
  rcases qM Vf with q|⟨q,r⟩
  ·exact .inl q
  ·refine .inr ⟨q,?_⟩;have:b.2 - a.2≠0:=fun z=>ne (ME (VA q).symm (VA z).symm)
   exact Int.lt_iff_le_and_ne.mpr ⟨r,Ne.symm this⟩
 have d1:=rM c0 al (qM hap);have d2:=rM c1 al (qM hpb);clear al Vf hap hpb;unfold gr aM at hg;rw[JT ne]at hg;simp only[Kr,PO,or_false]at hg;rcases hg with q|q|q|q<;>rw[q,key]<;>simp only[K8,K4,Po]
 ·exact d1
 ·have:-(b.1 - a.1)*(p.1 - b.1)+-(b.2 - a.2)*(p.2 - b.2)=(b.1 - a.1)*(b.1 - p.1)+(b.2 - a.2)*(b.2 - p.2):=by grind
  rw[this];exact d2
 ·rw[Ms,c0,Int.add_left_neg];exact Mf _
 ·rw[RV,Ms,c0,Int.add_right_neg];exact Mf _
def vY(g:jQ hs ps)(hn:ps ≠ []){b:Tr}(hb:b∈bb hs){p:Sp}(hp:p∈ps):0<=JS b (1,p.1,p.2):=by
 obtain⟨a0,r0,eh,Xr⟩:=g.PU hn;unfold bb at hb;by_cases c:hs.length<3
 ·rw[JU c]at hb;rcases r0 with _|⟨b0,_|⟨z,r⟩⟩
  ·have e:=g.one a0 eh p hp;subst e;rw[eh]at hb;have key:∀w:Sp,JS (b7 p w) (1,p.1,p.2)=0:=fun w=>by unfold JS b7;grind
   unfold gr at hb;simp only[XU,XS,TJ,Kr,PO,or_false]at hb;rcases hb with q|q|q|q<;>rw[q,key]<;>exact Mf _
  ·have e:=g.two a0 b0 eh;rw[eh]at hb;exact Dg e.1 (Xr b0 (g.mem b0 (by rw[eh];simp))) (Xr p hp) (e.2 p hp).2 (e.2 p hp).1 hb
  ·rw[eh]at c;exact absurd c (by simp)
 ·rw[JT c]at hb;obtain⟨k,hk,e⟩:=KH.mp hb;have Th:k<hs.length:=by
   have:=(SD.mp hk).2;rw[Pn]at this;exact this
  have ev:JS b (1,p.1,p.2)=cr (bD hs k) (hs.getD k (0,0)) p:=by rw[<- e,bH];unfold JS dO;grind
  rw[ev];exact g.Lo (by lia) k Th p hp
def HH(h:tn a b=0):JW b b*a.1+(-(JW a b))*b.1=0/\JW b b*a.2+(-(JW a b))*b.2=0:=by
 have e1:JW b b*a.1+(-(JW a b))*b.1=b.2*tn a b:=by unfold JW tn;grind
 have e2:JW b b*a.2+(-(JW a b))*b.2=- (b.1*tn a b):=by unfold JW tn;grind
 rw[e1,e2,h];simp
def Kg(g:Tr):D:=T3 g.1 g.2.1 g.2.2
def xH(h:Kg p=Kg q):p=q:=by unfold Kg T3 at h;simp only[D.tup.injEq,OW,D.int.injEq,and_true]at h;exact ME h.1 (ME h.2.1 h.2.2)
def FK{ps qs:yau}(h:ps.map Kg=qs.map Kg):ps=qs:=gF xH h
def eT(p:Tr):aT (Kg p)=Kg p:=by unfold Kg T3;simp only[da,cg,cJ,cc]
def qb(ps:yau):aY (ps.map Kg)=ps.map Kg:=cI Kg eT ps
structure WB(n:Nat)(w:Sp):Prop where
 x:Bd n w.1
 y:Bd n w.2
structure PB(n:Nat)(h:Tr):Prop where
 b0:0<h.1
 b:Bd 100 h.1
 x:Bd n h.2.1
 y:Bd n h.2.2
def Vm(hx:Bd n x)(hy:Bd m y)(hn:n<=1000:=by decide)(hm:m<=1000:=by decide):CM x y:=.inr (.inr ⟨hx.mono (LZ hn (by decide)),hy.mono (LZ hm (by decide))⟩)
def ye(hs:yat):(bb hs).length<=hs.length+4:=by
 unfold bb gr;split
 ·simp
 ·rw[J6,P8];lia
def eQ{s1 s2:DS}{ρ:Ro}(P:Ro->Prop)(h2:∀JY,P JY->s2 E JY)(h1:∀K:Ro->Prop,(∀JY,P JY->K JY)->s1 {E with nx:=K} ρ):kT s1 s2 E ρ:=h1 _ h2
def Kv(a b:Tr):Tr:=(a.2.1*b.2.2 - a.2.2*b.2.1,a.2.2*b.1 - a.1*b.2.2,a.1*b.2.1 - a.2.1*b.1)
def Lg(a b c:Tr):Int:=JS (Kv a b) c
def dq(a b c:Tr):Lg a b c=Lg b c a:=by unfold Lg JS Kv;grind
def nr(a b c:Tr):Lg a b c=- Lg b a c:=by unfold Lg JS Kv;grind
def z7(a c:Tr):Lg a a c=0:=by unfold Lg JS Kv;grind
def l7(a b:Tr):Lg a b a=0:=by unfold Lg JS Kv;grind
def l8(a b:Tr):Lg a b b=0:=by unfold Lg JS Kv;grind
structure Ti(q a b:Tr)(m s t:Int):Prop where
 m0:0<m
 s0:0<s
 t0:0<t
 e1:m*q.1=s*a.1+t*b.1
 e2:m*q.2.1=s*a.2.1+t*b.2.1
 e3:m*q.2.2=s*a.2.2+t*b.2.2
def Ti.gv(C:Ti q a b m s t)(g:Tr):m*JS g q=s*JS g a+t*JS g b:=by have h1:=C.e1;have h2:=C.e2;have h3:=C.e3;unfold JS;grind
def Ti.Vn(C:Ti q a b m s t)(ha:0<=JS g a)(hb:0<=JS g b):0<=JS g q:=by
 have h:=C.gv g;have h1:=Lq (K7 C.s0) ha;have h2:=Lq (K7 C.t0) hb;have:0<=m*JS g q:=by lia
 exact Rx this C.m0
def Ti.zero(C:Ti q a b m s t)(ha:JS g a=0)(hb:JS g b=0):JS g q=0:=by
 have h:=C.gv g;rw[ha,hb]at h;have h':m*JS g q=0:=by lia
 rcases Ox.mp h' with z|z
 ·have:=C.m0;lia
 ·exact z
def aD(g:Tr)(qf:Tr->Tr->Tr):Tr->yau->yau
 |_,[]=>[]
 |p,c::r=>(if JS g p*JS g c<0 then[qf p c]else[])++((if 0<=JS g c then[c]else[])++aD g qf c r)
def QK(g:Tr)(qf:Tr->Tr->Tr):Prop:=∀p c:Tr,0<p.1->0<c.1->JS g p*JS g c<0->(∃m s t,Ti (qf p c) p c m s t)/\JS g (qf p c)=0
theorem og(B:QK g qf):∀(l:yau) (p:Tr),(∀x∈p::l,0<x.1)->(∀x∈p::l,0<=JS d x)->∀y∈aD g qf p l,0<=JS d y
 |[],_,_,_=>fun y hy=>by cases hy
 |c::r,p,h1,hd=>fun y hy=>by
  unfold aD at hy;rcases KR.mp hy with q|q
  ·split at q
   ·rename_i lt;rw[LQ.mp q];obtain⟨⟨m,s,t,C⟩,_⟩:=B p c (h1 p (by simp)) (h1 c (by simp)) lt;exact C.Vn (hd p (by simp)) (hd c (by simp))
   ·cases q
  ·rcases KR.mp q with q|q
   ·split at q
    ·rw[LQ.mp q];exact hd c (by simp)
    ·cases q
   ·exact og B r c (fun x hx=>h1 x (K0 _ hx)) (fun x hx=>hd x (K0 _ hx)) y q
theorem oh(B:QK g qf):∀(l:yau) (p:Tr),(∀x∈p::l,0<x.1)->∀y∈aD g qf p l,0<y.1
 |[],_,_=>fun y hy=>by cases hy
 |c::r,p,h1=>fun y hy=>by
  unfold aD at hy;rcases KR.mp hy with q|q
  ·split at q
   ·rename_i lt;rw[LQ.mp q];obtain⟨⟨m,s,t,C⟩,_⟩:=B p c (h1 p (by simp)) (h1 c (by simp)) lt;have a1:=Og C.s0 (h1 p (by simp));have a2:=Og C.t0 (h1 c (by simp));have:=C.e1;have hm:0<m*(qf p c).1:=by lia
    exact NO.mp fun z=>by have:=XH (K7 C.m0) z;lia
   ·cases q
  ·rcases KR.mp q with q|q
   ·split at q
    ·rw[LQ.mp q];exact h1 c (by simp)
    ·cases q
   ·exact oh B r c (fun x hx=>h1 x (K0 _ hx)) y q
theorem fX(g:Tr)(qf:Tr->Tr->Tr):∀(a:yau) (p c:Tr) (b:yau),aD g qf p (a++c::b)=aD g qf p (a++[c])++aD g qf c b
 |[],p,c,b=>by simp only[Oe,aD,Pa,Nt]
 |x::a,p,c,b=>by simp only[Nu,aD,fX g qf a x c b,Nt]
theorem sP(B:QK g qf):∀(l:yau) (p:Tr),(∀x∈p::l,0<x.1)->∀y∈aD g qf p l,0<=JS g y
 |[],_,_=>fun y hy=>by cases hy
 |c::r,p,h1=>fun y hy=>by
  unfold aD at hy;rcases KR.mp hy with q|q
  ·split at q
   ·rename_i lt;rw[LQ.mp q,(B p c (h1 p (by simp)) (h1 c (by simp)) lt).2];exact Mf _
   ·cases q
  ·rcases KR.mp q with q|q
   ·split at q
    ·rename_i le;rw[LQ.mp q];exact le
    ·cases q
   ·exact sP B r c (fun x hx=>h1 x (K0 _ hx)) y q
theorem lS:∀(l:yau) (p:Tr) {x:Tr},x∈l->0<=JS g x->x∈aD g qf p l
 |[],_,_,h,_=>by cases h
 |c::r,p,x,h,hx=>by
  unfold aD;rcases Kr.mp h with rfl|h
  ·rw[JU hx];simp
  ·exact MO _ (MO _ (lS r c h hx))
theorem kI(B:QK g qf):∀(l:yau) (p z:Tr),(∀x∈p::l,0<x.1)->0<z.1->JS g p*JS g z<0->∃y∈aD g qf p (l++[z]),JS g y=0/\∀d:Tr,(∀x∈p::(l++[z]),0<=JS d x)->0<=JS d y
 |[],p,z,h1,hz,lt=>by obtain⟨⟨m,s,t,C⟩,e⟩:=B p z (h1 p (by simp)) hz lt;refine⟨qf p z,?_,e,fun d hd=>C.Vn (hd p (by simp)) (hd z (by simp))⟩;rw[Oe];unfold aD;rw[JU lt];simp
 |c::r,p,z,h1,hz,lt=>by
  rcases SA (JS g p*JS g c) 0 with q|q|q
  ·obtain⟨⟨m,s,t,C⟩,e⟩:=B p c (h1 p (by simp)) (h1 c (by simp)) q;refine⟨qf p c,?_,e,fun d hd=>C.Vn (hd p (by simp)) (hd c (by simp))⟩;rw[Nu];unfold aD;rw[JU q];simp
  ·have hp:JS g p≠0:=fun e=>by rw[e,OX]at lt;exact Qc _ lt
   have hc:JS g c=0:=(Ox.mp q).resolve_left hp;exact⟨c,lS _ _ (by simp) (by lia),hc,fun d hd=>hd c (by simp)⟩
  ·have lt2:JS g c*JS g z<0:=by
    rcases Int.lt_or_gt_of_ne (show JS g p≠0 from fun e=>by rw[e,OX]at lt;exact Qc _ lt)with a|a
    ·have b:0<JS g z:=NO.mp fun b=>NO.mpr lt (UG (K7 a) b)
     have d:JS g c<0:=NO.mp fun d=>NO.mpr q (Su (K7 a) d)
     exact Pf d b
    ·have b:JS g z<0:=NO.mp fun b=>NO.mpr lt (Lq (K7 a) b)
     have d:0<JS g c:=NO.mp fun d=>NO.mpr q (XH (K7 a) d)
     exact P6 d b
   obtain⟨y,hy,e,hd⟩:=kI B r c z (fun x hx=>h1 x (K0 _ hx)) hz lt2;refine⟨y,?_,e,fun d k=>hd d fun x hx=>k x (K0 _ hx)⟩;rw[Nu];unfold aD;exact MO _ (MO _ hy)
def OU(l:yau):Prop:=∀x y z,List.Sublist [x,y,z] l->0<=Lg x y z
def OU.sub{k:yau}(h:OU l)(s:k.Sublist l):OU k:=fun x y z q=>h x y z (q.trans s)
def jd:yau->Prop
 |[]=>True
 |p::r=>r.Pairwise (fun a b=>0<=Lg p a b)/\jd r
theorem OU.p:∀{l:yau},OU l->jd l
 |[],_=>True.intro
 |p::r,h=>⟨List.pairwise_iff_forall_sublist.mpr fun {a b} s=>h p a b (s.cons_cons p),OU.p (h.sub (List.sublist_cons_self p r))⟩
theorem jd.t:∀{l:yau},jd l->OU l
 |[],_,_,_,_,s=>by cases s
 |p::r,h,x,y,z,s=>by
  cases s with
  |cons _ s=>exact jd.t h.2 x y z s
  |cons_cons _ s=>exact List.pairwise_iff_forall_sublist.mp h.1 s
theorem i9(B:QK g qf):∀(l:yau) (p:Tr),(∀x∈p::l,0<x.1)->(p::l).Pairwise (fun a b=>0<=Lg d a b)->(p::aD g qf p l).Pairwise (fun a b=>0<=Lg d a b)
 |[],_,_,h=>h
 |c::r,p,h1,h=>by
  have Ln:∀x∈c::r,0<x.1:=fun x hx=>h1 x (K0 _ hx)
  obtain⟨hp,hc⟩:=NV.mp h;have ih:=i9 B r c Ln hc;obtain⟨Ym,Vi⟩:=NV.mp ih;have hw:∀w∈aD g qf c r,0<=Lg d p w:=og B r c Ln (d:=Kv d p) hp;have Nz:0<=Lg d p c:=hp c (by simp);unfold aD;by_cases lt:JS g p*JS g c<0
  ·rw[JU lt];obtain⟨⟨m,s,t,C⟩,e⟩:=B p c (h1 p (by simp)) (h1 c (by simp)) lt;have pq:0<=Lg d p (qf p c):=C.Vn (g:=Kv d p) (by show 0<=Lg d p p;rw[l8];exact Mf _) Nz;have qx:∀x,0<=Lg d p x->0<=Lg d c x->0<=Lg d (qf p c) x:=fun x a b=>by
    rw[dq,dq]at a b ⊢;exact C.Vn (g:=Kv x d) a b
   have qc:0<=Lg d (qf p c) c:=qx c Nz (by rw[l8];exact Mf _);by_cases le:0<=JS g c
   ·rw[JU le];refine NV.mpr ⟨fun a ha=>?_,NV.mpr ⟨fun a ha=>?_,?_⟩⟩
    ·simp only[Nu,Oe,Kr]at ha;rcases ha with rfl|rfl|ha
     ·exact pq
     ·exact Nz
     ·exact hw a ha
    ·rcases Kr.mp (show a∈c::aD g qf c r from ha)with e|ha
     ·rw[e];exact qc
     ·exact qx a (hw a ha) (Ym a ha)
    ·exact ih
   ·rw[JT le];refine NV.mpr ⟨fun a ha=>?_,NV.mpr ⟨fun a ha=>?_,?_⟩⟩
    ·simp only[Nu,Oe,Kr]at ha;rcases ha with rfl|ha
     ·exact pq
     ·exact hw a ha
    ·simp only[Oe]at ha;exact qx a (hw a ha) (Ym a ha)
    ·exact Vi
  ·rw[JT lt];by_cases le:0<=JS g c
   ·rw[JU le];refine NV.mpr ⟨fun a ha=>?_,ih⟩;simp only[Nu,Oe,Kr]at ha;rcases ha with rfl|ha
    ·exact Nz
    ·exact hw a ha
   ·rw[JT le];exact NV.mpr ⟨hw,Vi⟩
theorem vQ(B:QK g qf):∀(l:yau) (p:Tr),(∀x∈p::l,0<x.1)->jd (p::l)->jd (p::aD g qf p l)
 |[],_,_,h=>h
 |c::r,p,h1,h=>by
  have Ln:∀x∈c::r,0<x.1:=fun x hx=>h1 x (K0 _ hx)
  have ih:=vQ B r c Ln h.2;have hp:(p::c::r).Pairwise fun a b=>0<=Lg p a b:=NV.mpr ⟨fun a _=>by rw[z7];exact Mf _,h.1⟩
  have pw:=(NV.mp (i9 (d:=p) B (c::r) p h1 hp)).2;refine⟨pw,?_⟩;have hcr:(c::r).Pairwise fun a b=>0<=Lg p a b:=h.1
  have p1:=i9 (d:=p) B r c Ln hcr;have hc:(c::r).Pairwise fun a b=>0<=Lg c a b:=NV.mpr ⟨fun a _=>by rw[z7];exact Mf _,h.2.1⟩
  have p2:=i9 (d:=c) B r c Ln hc;unfold aD;by_cases lt:JS g p*JS g c<0
  ·rw[JU lt];obtain⟨⟨m,s,t,C⟩,e⟩:=B p c (h1 p (by simp)) (h1 c (by simp)) lt;have pq:(c::aD g qf c r).Pairwise fun a b=>0<=Lg (qf p c) a b:=by
    refine List.Pairwise.imp ?_ (List.pairwise_and_iff.mpr ⟨p1,p2⟩);intro a b ⟨x,y⟩;rw[dq]at x y ⊢;exact C.Vn (g:=Kv a b) x y
   by_cases le:0<=JS g c
   ·rw[JU le];exact⟨pq,ih⟩
   ·rw[JT le];exact⟨(NV.mp pq).2,ih.2⟩
  ·rw[JT lt];by_cases le:0<=JS g c
   ·rw[JU le];exact ih
   ·rw[JT le];exact ih.2
def Bl{l:yau}{a:Tr}(h:OU (l++[a])):OU (a::(l++[a])):=fun x y z s=>by
 cases s with
 |cons _ s=>exact h x y z s
 |cons_cons _ s =>
  obtain⟨k1,k2,e,s1,s2⟩:=List.sublist_append_iff.mp s;rcases k2 with _|⟨w,k2⟩
  ·rw[Pa]at e;subst e;have:=h y z a (by
    have:[y,z,a]=[y,z]++[a]:=rfl;rw[this];exact s1.append (List.Sublist.refl _))
   rw[dq];exact this
  ·have hk:k2=[]:=by
    have:=s2.length_le;simp at this;exact this
   subst hk;have hw:w=a:=LQ.mp (s2.subset (by simp));subst hw;rcases k1 with _|⟨u,_|⟨v,k1⟩⟩
   ·cases e
   ·cases e;rw[l7];exact Mf _
   ·exact absurd (congrArg List.length e) (by simp)
def Rr(l:yau)(X:Tr):Prop:=∀h:Tr,(∀p∈l,0<=JS h p)->0<=JS h X
def KN(g u v:Tr):Tr:=(JS g v*u.1 - JS g u*v.1,JS g v*u.2.1 - JS g u*v.2.1,JS g v*u.2.2 - JS g u*v.2.2)
def Bu(g u v h:Tr):JS h (KN g u v)=JS g v*JS h u - JS g u*JS h v:=by unfold KN JS;grind
def AN(e1:JS g y=0)(e2:Lg u v y=0):JS h y*(KN g u v).1=y.1*JS h (KN g u v):=by unfold Lg JS Kv at e2;unfold KN JS at *;dsimp only at *;grind
def FN(e1:JS g y1=0)(e2:JS g y2=0)(d1:Lg u v y1<=0)(d2:0<=Lg u v y2)(p1:0<y1.1)(p2:0<y2.1)(h1:0<=JS h y1)(h2:0<=JS h y2):0<=JS h (KN g u v)*(KN g u v).1:=by
 by_cases z:Lg u v y1=0
 ·have k:=AN (h:=h) e1 z;have sq:0<=(KN g u v).1*(KN g u v).1:=Tg _;have:0<=y1.1*(JS h (KN g u v)*(KN g u v).1):=by
   have:y1.1*(JS h (KN g u v)*(KN g u v).1)=JS h y1*((KN g u v).1*(KN g u v).1):=by rw[<- U0,<- k,U0]
   rw[this];exact Lq h1 sq
  exact Rx this p1
 ·have lt:Lg u v y1<0:=by lia
  generalize ha:Lg u v y1=a at *;generalize hb:Lg u v y2=b at *
  let y:Tr:=(b*y1.1 - a*y2.1,b*y1.2.1 - a*y2.2.1,b*y1.2.2 - a*y2.2.2)
  have Vo:∀f:Tr,JS f y=b*JS f y1 - a*JS f y2:=fun f=>by show JS f (b*y1.1 - a*y2.1,b*y1.2.1 - a*y2.2.1,b*y1.2.2 - a*y2.2.2)=_;unfold JS;grind
  have k:=AN (h:=h) (u:=u) (v:=v) (y:=y) (g:=g) (by rw[Vo,e1,e2];simp) (by
   show JS (Kv u v) y=0;rw[Vo];show b*Lg u v y1 - a*Lg u v y2=0;rw[ha,hb,Mw]
   lia)
  rw[Vo]at k;have y0:0<y.1:=by
   show 0<b*y1.1 - a*y2.1;have:=Lq d2 (K7 p1);have:=Pf lt p2
   lia
  have n:0<=b*JS h y1 - a*JS h y2:=by
   have:=Lq d2 h1;have:=Su (K7 lt) h2
   lia
  have sq:0<=(KN g u v).1*(KN g u v).1:=Tg _;have:0<=y.1*(JS h (KN g u v)*(KN g u v).1):=by
   have:y.1*(JS h (KN g u v)*(KN g u v).1)=(b*JS h y1 - a*JS h y2)*((KN g u v).1*(KN g u v).1):=by rw[<- U0,<- k,U0]
   rw[this];exact Lq n sq
  exact Rx this y0
def uv(B:QK g qf){A C D:yau}{u v z:Tr}(hz:A++u::(C++v::D)=(A++u::(C++v::D)).dropLast++[z])(Nk:OU (A++u::(C++v::D)))(pos:∀x∈A++u::(C++v::D),0<x.1)
  (lt:JS g u*JS g v<0) (hh:∀y∈aD g qf z (A++u::(C++v::D)),0<=JS h y):0<=JS h (KN g u v)*(KN g u v).1:=by
 have hu:0<u.1:=pos u (by simp);have hv:0<v.1:=pos v (by simp);have hC:∀x∈C,0<x.1:=fun x hx=>pos x (by simp[hx])
 have hA:∀x∈A,0<x.1:=fun x hx=>pos x (by simp[hx])
 have hD:∀x∈D,0<x.1:=fun x hx=>pos x (by simp[hx])
 have zp:0<z.1:=pos z (by rw[hz];simp);have w1:aD g qf z (A++u::(C++v::D))=aD g qf z (A++[u])++(aD g qf u (C++[v])++aD g qf v D):=by rw[fX g qf A z u,fX g qf C u v]
 obtain⟨y1,m1,e1,d1⟩:=kI B C u v (fun x hx=>by
  rcases Kr.mp hx with rfl|hx
  ·exact hu
  ·exact hC x hx) hv lt
 have p1:0<y1.1:=oh B (C++[v]) u (fun x hx=>by
  simp only[Kr,KR,PO,or_false]at hx;rcases hx with rfl|hx|rfl
  ·exact hu
  ·exact hC x hx
  ·exact hv) y1 m1
 have s1:Lg u v y1<=0:=by
  have:=d1 (Kv v u) fun x hx=>by
   show 0<=Lg v u x;simp only[Kr,KR,PO,or_false]at hx;rcases hx with rfl|hx|rfl
   ·rw[l8];exact Mf _
   ·have t:=Nk u x v (by
     have a:List.Sublist [u,x,v] (u::(C++v::D)):=by refine List.Sublist.cons_cons u ?_;have:[x,v]=[x]++[v]:=rfl;rw[this];exact(Ts.mpr hx).append (Ts.mpr (by simp))
     exact a.trans (Tp _ _))
    rw[dq,dq]at t;exact t
   ·rw[l7];exact Mf _
  have q:0<=Lg v u y1:=this;rw[nr]
  lia
 have dn:∀x∈v::D++(A++[u]),0<=Lg u v x:=fun x hx=>by
  simp only[Kr,KR,PO,or_false,Nu]at hx;rcases hx with rfl|hx|hx|rfl
  ·rw[l8];exact Mf _
  ·exact Nk u v x (by
    have a:List.Sublist [u,v,x] (u::(C++v::D)):=by refine List.Sublist.cons_cons u ?_;exact(List.Sublist.cons_cons v (Ts.mpr hx)).trans (Tp _ _)
    exact a.trans (Tp _ _))
  ·have t:=Nk x u v (by
    have:[x,u,v]=[x]++[u,v]:=rfl;rw[this];refine(Ts.mpr hx).append (List.Sublist.cons_cons u ?_);exact(Ts.mpr (by simp)).trans (Tp _ _))
   rw[dq]at t;exact t
  ·rw[l7];exact Mf _
 obtain⟨y2,m2,e2,d2⟩:=kI B (D++A) v u (fun x hx=>by
  simp only[Kr,KR]at hx;rcases hx with rfl|hx|hx
  ·exact hv
  ·exact hD x hx
  ·exact hA x hx) hu (by rw[Mw];exact lt)
 have p2:0<y2.1:=oh B (D++A++[u]) v (fun x hx=>by
  simp only[Kr,KR,PO,or_false]at hx;rcases hx with rfl|(hx|hx)|rfl
  ·exact hv
  ·exact hD x hx
  ·exact hA x hx
  ·exact hu) y2 m2
 have s2:0<=Lg u v y2:=d2 (Kv u v) fun x hx=>dn x (by
  simp only[Kr,KR,PO,or_false,Nu]at hx ⊢;rcases hx with hx|(hx|hx)|hx
  ·exact .inl hx
  ·exact .inr (.inl hx)
  ·exact .inr (.inr (.inl hx))
  ·exact .inr (.inr (.inr hx)))
 have k1:0<=JS h y1:=hh y1 (by rw[w1];exact MO _ (Ob _ m1));have k2:0<=JS h y2:=by
  apply hh y2;rw[w1];have:∃D',v::D=D'++[z]:=by
   have hn:v::D ≠ []:=by simp
   refine⟨(v::D).dropLast,?_⟩;have e:(A++u::(C++v::D)).getLast?=some z:=by rw[hz];simp
   have e2:(A++u::(C++v::D)).getLast?=(v::D).getLast?:=by
    have:A++u::(C++v::D)=(A++u::C)++(v::D):=by simp
    rw[this,List.getLast?_append,Vs hn];rfl
   rw[e2,Vs hn]at e;have e3:=(UH hn).symm;rw[MW e]at e3;exact e3
  obtain⟨D',hD'⟩:=this;rcases D' with _|⟨w,D'⟩
  ·cases hD';rw[Oe]at m2;exact Ob _ m2
  ·rw[Nu]at hD';cases hD';have e:D'++[z]++A++[u]=D'++z::(A++[u]):=by simp
   rw[e,fX]at m2;rcases KR.mp m2 with q|q
   ·exact MO _ (MO _ q)
   ·exact Ob _ q
 exact FN e1 e2 s1 s2 p1 p2 k1 k2
def Bg{l:yau}{a b:Tr}(ha:a∈l)(hb:b∈l)(ne:a≠b):(∃A C D,l=A++a::(C++b::D))∨∃ A C D,l=A++b::(C++a::D):=by
 obtain⟨A,R,rfl⟩:=UL ha;rcases KR.mp hb with q|q
 ·obtain⟨A',R',rfl⟩:=UL q;exact .inr ⟨A',R',R,by simp⟩
 ·rcases Kr.mp q with q|q
  ·exact absurd q.symm ne
  ·obtain⟨A',R',rfl⟩:=UL q;exact .inl ⟨A,A',R',rfl⟩
theorem nF(g h:Tr):∀l:yau,(∃n∈l,JS g n<0/\JS h n<0)->∃n∈l,JS g n<0/\JS h n<0/\∀m∈l,JS g m<0->JS g n*JS h m<=JS h n*JS g m
 |[],⟨_,hn,_⟩=>by cases hn
 |x::r,hex=>by
  by_cases hr:∃n∈r,JS g n<0/\JS h n<0
  ·obtain⟨n,hn,n1,n2,nm⟩:=nF g h r hr;by_cases c:JS g x<0/\¬(JS g n*JS h x<=JS h n*JS g x)
   ·obtain⟨c1,c2⟩:=c;have Uq:=NO.mp c2;have hx:JS h x<0:=by
     have:0<JS h n*JS g x:=Sw n2 c1;exact NO.mp fun z=>by
      have:=Su (K7 n1) z
      lia
    refine⟨x,by simp,c1,hx,fun m hm gm=>?_⟩;rcases Kr.mp hm with rfl|hm
    ·rw[Mw];exact Mf _
    ·have k:=nm m hm gm;have a:0<=(-JS g x)*(JS h n*JS g m - JS g n*JS h m):=Lq (by lia) (by lia);have b:0<=(-JS g m)*(JS g n*JS h x - JS h n*JS g x):=Lq (by lia) (by lia);have e:(-JS g x)*(JS h n*JS g m - JS g n*JS h m)+(-JS g m)*(JS g n*JS h x - JS h n*JS g x)=(-JS g n)*(JS h x*JS g m - JS g x*JS h m):=by grind
     have:0<=(-JS g n)*(JS h x*JS g m - JS g x*JS h m):=by lia
     have:=Rx this (by lia)
     lia
   ·refine⟨n,K0 _ hn,n1,n2,fun m hm gm=>?_⟩;rcases Kr.mp hm with rfl|hm
    ·exact Decidable.byContradiction fun z=>c ⟨gm,z⟩
    ·exact nm m hm gm
  ·obtain⟨n,hn,n1,n2⟩:=hex;rcases Kr.mp hn with rfl|hn
   ·refine⟨n,by simp,n1,n2,fun m hm gm=>?_⟩;rcases Kr.mp hm with rfl|hm
    ·rw[Mw];exact Mf _
    ·have:0<=JS h m:=Pp.mp fun z=>hr ⟨m,hm,gm,z⟩
     have a:=Su (K7 n1) this;have b:=Sw n2 gm
     lia
   ·exact absurd ⟨n,hn,n1,n2⟩ hr
def Dm(B:QK g qf){l:yau}{z:Tr}(hz:l=l.dropLast++[z])(Nk:OU l)(pos:∀x∈l,0<x.1)(hX:Rr l X)(gX:0<=JS g X):Rr (aD g qf z l) X:=fun h hh=>by
 have kp:∀p∈l,0<=JS g p->0<=JS h p:=fun p hp q=>hh p (lS l z hp q)
 by_cases hb:∃n∈l,JS g n<0/\JS h n<0
 ·obtain⟨n,hn,n1,n2,nm⟩:=nF g h l hb
  let k:Tr:=(JS h n*g.1 - JS g n*h.1,JS h n*g.2.1 - JS g n*h.2.1,JS h n*g.2.2 - JS g n*h.2.2)
  have Vo:∀p:Tr,JS k p=JS h n*JS g p - JS g n*JS h p:=fun p=>by show JS (JS h n*g.1 - JS g n*h.1,JS h n*g.2.1 - JS g n*h.2.1,JS h n*g.2.2 - JS g n*h.2.2) p=_;generalize JS h n=a;generalize JS g n=b;unfold JS;grind
  have kn:∀p∈l,0<=JS k p:=fun p hp=>by
   rw[Vo];rcases SA (JS g p) 0 with q|q|q
   ·have:=nm p hp q
    lia
   ·rw[q,Qe];have:=Su (K7 n1) (kp p hp (by lia))
    lia
   ·have ne:p≠n:=fun e=>by rw[e]at q;lia
    have np:=pos n hn;have pp:=pos p hp;rcases Bg hp hn ne with⟨A,C,D,rfl⟩| ⟨A,C,D,rfl⟩
    ·have r:=uv B hz Nk pos (P6 q n1) hh;rw[Bu]at r;have w0:(KN g p n).1<0:=by
      show JS g n*p.1 - JS g p*n.1<0;have:=Pf n1 pp;have:=Og q np
      lia
     have r2:JS g n*JS h p - JS g p*JS h n<=0:=Pp.mp fun z=>by
      have:=P6 z w0
      lia
     rw[Mw (JS h n)]
     lia
    ·have r:=uv B hz Nk pos (Pf n1 q) hh;rw[Bu]at r;have w0:0<(KN g n p).1:=by
      show 0<JS g p*n.1 - JS g n*p.1;have:=Pf n1 pp;have:=Og q np
      lia
     have r2:0<=JS g p*JS h n - JS g n*JS h p:=Pp.mp fun z=>by
      have:=Pf z w0
      lia
     rw[Mw (JS h n)];exact r2
  have kX:=hX k kn;rw[Vo]at kX;have a:=Su (K7 n2) gX;exact Pp.mp fun z=>by
   have:=Sw n1 z
   lia
 ·refine hX h fun p hp=>?_
  by_cases q:0<=JS g p
  ·exact kp p hp q
  ·exact Pp.mp fun z=>hb ⟨p,hp,by lia,z⟩
def N6(R:Tr->Tr->Prop):yau->Prop
 |[]=>True
 |[_]=>True
 |a::b::r=>R a b/\N6 R (b::r)
def N6.tail{a:Tr}:∀{l:yau},N6 R (a::l)->N6 R l
 |[],_=>True.intro
 |_::_,h=>h.2
theorem iu:∀(l:yau) (x:Tr) (k:yau),N6 R (l++x::k)↔N6 R (l++[x])/\N6 R (x::k)
 |[],x,k=>by simp[N6]
 |[a],x,k=>by simp[N6]
 |a::b::l,x,k=>by have:=iu (R:=R) (b::l) x k;simp only[Nu,N6]at this ⊢;rw[this,and_assoc]
def Sh(G:Tr->Prop)(a b:Tr):Prop:=∃e,G e/\JS e a=0/\JS e b=0
theorem kH(B:QK g qf){G:Tr->Prop}(hg:G g):∀(l:yau) (p x:Tr),(∀y∈p::l,0<y.1)->((x=p/\0<=JS g p)∨(JS g x=0/\JS g p<0))->N6 (Sh G) (p::l)->N6 (Sh G) (x::aD g qf p l)
 |[],_,_,_,_,_=>True.intro
 |c::r,p,x,h1,hx,h=>by
  have Ln:∀y∈c::r,0<y.1:=fun y hy=>h1 y (K0 _ hy)
  obtain⟨⟨e,ge,ep,ec⟩,hr⟩:=h;have ih:=fun x hx=>kH B hg r c x Ln hx hr
  unfold aD;by_cases lt:JS g p*JS g c<0
  ·rw[JU lt];obtain⟨⟨m,s,t,C⟩,eq⟩:=B p c (h1 p (by simp)) (h1 c (by simp)) lt;have Xs:JS e (qf p c)=0:=C.zero ep ec;by_cases le:0<=JS g c
   ·rw[JU le];refine⟨?_,⟨e,ge,Xs,ec⟩,ih c (.inl ⟨rfl,le⟩)⟩;rcases hx with⟨rfl,_⟩| ⟨hx,_⟩
    ·exact⟨e,ge,ep,Xs⟩
    ·exact⟨g,hg,hx,eq⟩
   ·rw[JT le];refine⟨?_,ih _ (.inr ⟨eq,by lia⟩)⟩;rcases hx with⟨rfl,_⟩| ⟨hx,_⟩
    ·exact⟨e,ge,ep,Xs⟩
    ·exact⟨g,hg,hx,eq⟩
  ·rw[JT lt];by_cases le:0<=JS g c
   ·rw[JU le];refine⟨?_,ih c (.inl ⟨rfl,le⟩)⟩;rcases hx with⟨rfl,_⟩| ⟨hx,hp⟩
    ·exact⟨e,ge,ep,ec⟩
    ·have:JS g c=0:=by
      rcases Int.lt_or_eq_of_le le with q|q
      ·exact absurd (Pf hp q) lt
      ·exact q.symm
     exact⟨g,hg,hx,this⟩
   ·rw[JT le];refine ih x ?_;rcases hx with⟨rfl,hp⟩| ⟨hx,_⟩
    ·right
     refine⟨?_,by lia⟩;rcases Int.lt_or_eq_of_le hp with q|q
     ·exact absurd (P6 q (by lia)) lt
     ·exact q.symm
    ·exact .inr ⟨hx,by lia⟩
theorem sO(B:QK g qf){G:Tr->Prop}(hg:G g):∀(l:yau) (p:Tr),(∀y∈p::l,0<y.1)->N6 (Sh G) (p::l)->N6 (Sh G) (aD g qf p l)
 |[],_,_,_=>True.intro
 |c::r,p,h1,h=>by
  by_cases hp:0<=JS g p
  ·exact(kH B hg (c::r) p p h1 (.inl ⟨rfl,hp⟩) h).tail
  have Ln:∀y∈c::r,0<y.1:=fun y hy=>h1 y (K0 _ hy)
  obtain⟨⟨e,ge,ep,ec⟩,hr⟩:=h;unfold aD;by_cases lt:JS g p*JS g c<0
  ·rw[JU lt];obtain⟨⟨m,s,t,C⟩,eq⟩:=B p c (h1 p (by simp)) (h1 c (by simp)) lt;have Xs:JS e (qf p c)=0:=C.zero ep ec;by_cases le:0<=JS g c
   ·rw[JU le];exact⟨⟨e,ge,Xs,ec⟩,kH B hg r c c Ln (.inl ⟨rfl,le⟩) hr⟩
   ·exact absurd (Sw (NO.mp hp) (NO.mp le)) (by lia)
  ·rw[JT lt];by_cases le:0<=JS g c
   ·rw[JU le];exact kH B hg r c c Ln (.inl ⟨rfl,le⟩) hr
   ·rw[JT le];exact sO B hg r c Ln hr
def Vp(R:Tr->Tr->Prop)(l:yau):Prop:=∀k z,l=k++[z]->N6 R (z::l)
def Dl(B:QK g qf){G:Tr->Prop}(hg:G g){l:yau}{z:Tr}(hz:l=l.dropLast++[z])(pos:∀y∈l,0<y.1)(h:Vp (Sh G) l):Vp (Sh G) (aD g qf z l):=fun k y ek=>by
 have c1:=h _ z hz;have c2:N6 (Sh G) (z::(l++l)):=by
  have e:z::(l++l)=(z::l.dropLast)++(z::l):=by
   rw[Nu];congr 1
   conv=>lhs;arg 1;rw[hz]
   simp
  rw[e,iu];refine⟨?_,c1⟩;rw[Nu,<- hz];exact c1
 have zl:z∈l:=by rw[hz];simp
 have c3:=sO B hg (l++l) z (fun y hy=>by
  simp only[Kr,KR,or_self]at hy;rcases hy with rfl|hy
  ·exact pos y zl
  ·exact pos y hy) c2
 have e:aD g qf z (l++l)=aD g qf z l++aD g qf z l:=by
  have a:l++l=l.dropLast++z::l:=by
   conv=>lhs;arg 1;rw[hz]
   simp
  rw[a,fX,<- hz]
 rw[e]at c3;have e2:aD g qf z l++aD g qf z l=k++y::aD g qf z l:=by
  conv=>lhs;arg 1;rw[ek]
  simp
 rw[e2,iu]at c3;exact c3.2
def NK:yau->yau->yau
 |_,[]=>[]
 |seen,x::r=>if x∈seen then NK seen r else x::NK (seen++[x]) r
theorem l4:∀(l seen:yau),(NK seen l).Sublist l
 |[],_=>List.Sublist.slnil
 |x::r,seen=>by
  unfold NK;split
  ·exact(l4 r seen).cons x
  ·exact(l4 r _).cons_cons x
theorem qC:∀(l seen:yau) {x:Tr},x∈l->x∈seen∨x∈NK seen l
 |[],_,_,h=>by cases h
 |y::r,seen,x,h=>by
  unfold NK;rcases Kr.mp h with rfl|h
  ·split
   ·rename_i q;exact .inl q
   ·exact .inr (by simp)
  ·split
   ·exact qC r seen h
   ·rcases qC r (seen++[y]) h with q|q
    ·rcases KR.mp q with q|q
     ·exact .inl q
     ·rw[LQ.mp q];exact .inr (by simp)
    ·exact .inr (K0 _ q)
theorem rT:∀(l seen:yau),l.Nodup->(∀x∈l,x∉seen)->NK seen l=l
 |[],_,_,_=>rfl
 |x::r,seen,h,hs=>by
  obtain⟨a,b⟩:=QS.mp h;unfold NK;rw[JT (hs x (by simp)),rT r (seen++[x]) b fun y hy q=>by
   rcases KR.mp q with q|q
   ·exact hs y (K0 _ hy) q
   ·exact a (by rw[<- LQ.mp q];exact hy)]
theorem kW:∀(l seen:yau) (v:Tr) (k:yau),v∈seen∨v∈l->NK seen (l++v::k)=NK seen (l++k)
 |[],seen,v,k,h=>by
  rw[Oe,Oe]
  conv=>lhs;unfold NK
  rw[JU (h.resolve_right (by simp))]
 |x::r,seen,v,k,h=>by
  rw[Nu,Nu];unfold NK;split
  ·rename_i q;refine kW r seen v k ?_;rcases h with h|h
   ·exact .inl h
   ·rcases Kr.mp h with rfl|h
    ·exact .inl q
    ·exact .inr h
  ·congr 1;refine kW r _ v k ?_;rcases h with h|h
   ·exact .inl (Ob _ h)
   ·rcases Kr.mp h with rfl|h
    ·exact .inl (by simp)
    ·exact .inr h
theorem m7:∀l:yau,¬l.Nodup->∃A v C,l=A++v::C/\v∈A
 |[],h=>absurd List.nodup_nil h
 |x::r,h=>by
  by_cases hx:x∈r
  ·obtain⟨A,C,rfl⟩:=UL hx;exact⟨x::A,x,C,rfl,by simp⟩
  ·obtain⟨A,v,C,e,hv⟩:=m7 r fun q=>h (QS.mpr ⟨hx,q⟩)
   exact⟨x::A,v,C,by rw[e];rfl,K0 _ hv⟩
def EV(ea:JS e a=0)(ev:JS e v=0)(hd:Lg v a b=0)(hw:Kv v a≠(0,0,0)):JS e b=0:=by
 have h1:JS e b*(Kv v a).1=0:=by unfold Lg JS Kv at *;dsimp only at *;grind
 have h2:JS e b*(Kv v a).2.1=0:=by unfold Lg JS Kv at *;dsimp only at *;grind
 have h3:JS e b*(Kv v a).2.2=0:=by unfold Lg JS Kv at *;dsimp only at *;grind
 refine Decidable.byContradiction fun z=>hw ?_
 have a1:=(Ox.mp h1).resolve_left z;have a2:=(Ox.mp h2).resolve_left z;have a3:=(Ox.mp h3).resolve_left z;generalize Kv v a=w at a1 a2 a3;obtain⟨x,y,t⟩:=w
 simp_all
structure Pr(p:Tr):Prop where
 pos:0<p.1
 low:PM.g3 p.1 p.2.1 p.2.2=1
def uo(hv:Pr v)(ha:Pr a)(h:Kv v a=(0,0,0)):v=a:=by
 unfold Kv at h;simp only[Pk]at h;obtain⟨h1,h2,h3⟩:=h;have q1:v.2.1*a.1=a.2.1*v.1:=by have:=Mw v.1 a.2.1;lia
 have q2:v.2.2*a.1=a.2.2*v.1:=by have:=Mw v.1 a.2.2;lia
 have d1:v.1∣a.1:=gW (d:=v.1) (k:=a.1) (x:=v.1) (y:=v.2.1) (z:=v.2.2) (TB _ _) (by rw[Mw,q1];exact TB _ _) (by rw[Mw,q2];exact TB _ _) hv.low;have d2:a.1∣v.1:=gW (d:=a.1) (k:=v.1) (x:=a.1) (y:=a.2.1) (z:=a.2.2) (TB _ _) (by rw[Mw,<- q1];exact TB _ _) (by rw[Mw,<- q2];exact TB _ _) ha.low;have pa:=ha.pos;have pv:=hv.pos;have e:v.1=a.1:=by
  have l1:=Int.le_of_dvd pa d1;have l2:=Int.le_of_dvd pv d2
  lia
 obtain⟨v1,v2,v3⟩:=v;obtain⟨a1,a2,a3⟩:=a;dsimp only at *;subst e;rw[Int.eq_of_mul_eq_mul_right (by lia) q1,Int.eq_of_mul_eq_mul_right (by lia) q2]
theorem zT:∀(n:Nat) (l:yau),l.length<=n->OU l->(∀p∈l,Pr p)->Vp (Sh G) l->Vp (Sh G) (NK [] l)
 |n,l,hn,Nk,pr,cy=>by
  by_cases nd:l.Nodup
  ·rw[rT l [] nd (by simp)];exact cy
  obtain⟨A,v,C,rfl,hv⟩:=m7 l nd;rw[kW A [] v C (.inr hv)];cases n with
  |zero=>simp at hn
  |succ n =>
  have sub:(A++C).Sublist (A++v::C):=(List.Sublist.refl A).append (List.sublist_cons_self v C);refine zT n (A++C) (by simp at hn ⊢;lia) (Nk.sub sub) (fun p hp=>pr p (sub.subset hp)) ?_;obtain⟨A1,A2,rfl⟩:=UL hv;obtain⟨K,a,hK⟩:∃K a,A1++v::A2=K++[a]:=⟨_,_,(UH (by simp:A1++v::A2 ≠ [])).symm⟩;have am:a=v∨∃ A3,A2=A3++[a]:=by
   rcases List.eq_nil_or_concat A2 with rfl|⟨A3,w,rfl⟩
   ·left
    have:=congrArg List.getLast? hK;simp at this;exact this.symm
   ·right
    have e:A1++v::A3.concat w=(A1++v::A3)++[w]:=by simp
    rw[e]at hK;have:=(List.append_inj' hK rfl).2;cases this;exact⟨A3,by simp⟩
  have pv:Pr v:=pr v (by simp);have pa:Pr a:=pr a (by rw[hK];simp)
  have glue:∀b,Sh G a v->Sh G v b->(a≠v->Lg v a b=0)->Sh G a b:=fun b s1 s2 hd=>by
   by_cases q:a=v
   ·rw[q];exact s2
   ·obtain⟨e,ge,ea,ev⟩:=s1;exact⟨e,ge,ea,EV ea ev (hd q) fun z=>q (uo pv pa z).symm⟩
  rw[hK];rw[hK]at cy Nk;rcases C with _|⟨b,C⟩
  ·have c:=cy (K++[a]) v (by simp);intro k z ek;rw[Pa]at ek ⊢;have ez:a=z:=by
    have:=congrArg List.getLast? ek;simp at this;exact this
   subst ez;have c':N6 (Sh G) ((v::K)++a::[v]):=by simpa using c
   rw[iu]at c';obtain⟨c1,c2,_⟩:=c';rcases hA:K++[a]with _|⟨b,R⟩
   ·simp at hA
   ·have c3:N6 (Sh G) (v::b::R):=by
     rw[<- hA];exact c1
    refine⟨glue b c2 c3.1 fun ne=>?_,c3.2⟩;obtain⟨A3,rfl⟩:=am.resolve_left ne;rcases A1 with _|⟨b',A1⟩
    ·rw[<- hK]at hA;cases hA;rw[l7]
    ·rw[<- hK]at hA;cases hA;have t1:=Nk b v a (by
      rw[<- hK];refine List.Sublist.trans ?_ (List.sublist_append_left _ _);refine List.Sublist.cons_cons b ?_;refine List.Sublist.trans ?_ (Tp _ _);refine List.Sublist.cons_cons v ?_;exact Tp _ _)
     have t2:=Nk b a v (by rw[<- hK];refine List.Sublist.cons_cons b ?_;have:[a,v]=[a]++[v]:=rfl;rw[this];refine List.Sublist.append ?_ (List.Sublist.refl _);exact Ts.mpr (by simp))
     rw[dq]at t1;rw[dq,nr]at t2
     lia
  ·intro k z ek;have c:=cy (((K++[a])++v::b::C).dropLast) z (by
    have e2:(K++[a]++v::b::C).getLast?=some z:=by
     have h1:(K++[a]++b::C).getLast?=some z:=by rw[ek];simp
     have h2:(K++[a]++b::C).getLast?=(b::C).getLast?:=by rw[List.getLast?_append,Vs (by simp:b::C ≠ [])];rfl
     have h3:(K++[a]++v::b::C)=(K++[a]++[v])++b::C:=by simp
     rw[h3,List.getLast?_append,<- h2,h1];rfl
    have hn:K++[a]++v::b::C ≠ []:=by simp
    rw[Vs hn]at e2;have e3:=(UH hn).symm;rw[MW e2]at e3;exact e3)
   have c':N6 (Sh G) ((z::K)++a::(v::b::C)):=by simpa using c
   rw[iu]at c';obtain⟨c1,c2,c3,c4⟩:=c';have:z::(K++[a]++b::C)=(z::K)++a::(b::C):=by simp
   rw[this,iu];refine⟨c1,glue b c2 c3 fun ne=>?_,c4⟩;obtain⟨A3,rfl⟩:=am.resolve_left ne;have t1:=Nk v a b (by
    rw[<- hK];have:A1++v::(A3++[a])++v::b::C=(A1++(v::A3))++(a::(v::(b::C))):=by simp
    rw[this];have:[v,a,b]=[v]++[a,b]:=rfl;rw[this];refine List.Sublist.append (Ts.mpr (by simp)) (List.Sublist.cons_cons a ?_);exact List.Sublist.cons _ (List.Sublist.cons_cons b (List.nil_sublist _)))
   have t2:=Nk a v b (by
    have:K++[a]++v::b::C=K++(a::v::b::C):=by simp
    rw[this];refine List.Sublist.trans ?_ (Tp _ _);exact List.Sublist.cons_cons a (List.Sublist.cons_cons v (List.Sublist.cons_cons b (List.nil_sublist _))))
   rw[nr]at t2
   lia
def PW(w:Tr):Tr:=(w.1.fdiv (PM.Lm w.1 w.2.1 w.2.2 w.1),w.2.1.fdiv (PM.Lm w.1 w.2.1 w.2.2 w.1),w.2.2.fdiv (PM.Lm w.1 w.2.1 w.2.2 w.1))
def bZ(g p c:Tr):Tr:=PW (KN g p c)
def AR{w:Tr}(h:w.1≠0):Pr (PW w):=⟨PM.qZ h (PM.jY _ _ _) fun z=>h z.1,PM.A0 fun z=>h z.1⟩
def HR{w:Tr}(hq:Pr q)(h1:w.1*q.2.1=q.1*w.2.1)(h2:w.1*q.2.2=q.1*w.2.2):∃m,w.1=m*q.1/\w.2.1=m*q.2.1/\w.2.2=m*q.2.2:=by
 obtain⟨m,hm⟩:q.1∣w.1:=gW (d:=q.1) (k:=w.1) (x:=q.1) (y:=q.2.1) (z:=q.2.2) (TB _ _) (by rw[h1];exact Int.dvd_mul_right _ _) (by rw[h2];exact Int.dvd_mul_right _ _) hq.low;have p:=hq.pos;refine⟨m,by rw[hm,Mw],?_,?_⟩
 ·rw[hm,U0]at h1;exact(Int.eq_of_mul_eq_mul_left (by lia) h1).symm
 ·rw[hm,U0]at h2;exact(Int.eq_of_mul_eq_mul_left (by lia) h2).symm
def vR{p c:Tr}(hp:0<p.1)(hc:0<c.1)(lt:JS g p*JS g c<0):(JS g p<0/\0<JS g c/\0<(KN g p c).1)∨(0<JS g p/\JS g c<0/\(KN g p c).1<0):=by
 rcases Int.lt_or_gt_of_ne (show JS g p≠0 from fun e=>by rw[e,OX]at lt;exact Qc _ lt)with a|a
 ·left
  have b:0<JS g c:=NO.mp fun b=>NO.mpr lt (UG (K7 a) b)
  refine⟨a,b,?_⟩;show 0<JS g c*p.1 - JS g p*c.1;have:=Og b hp;have:=Pf a hc
  lia
 ·right
  have b:JS g c<0:=NO.mp fun b=>NO.mpr lt (Lq (K7 a) b)
  refine⟨a,b,?_⟩;show JS g c*p.1 - JS g p*c.1<0;have:=Pf b hp;have:=Og a hc
  lia
def zF(g:Tr):QK g (bZ g):=fun p c hp hc lt=>by
 have k:=vR hp hc lt;have e1:=PM.bT (l:=(KN g p c).1) (PM.jY (KN g p c).1 (KN g p c).2.1 (KN g p c).2.2);have e2:=PM.bT (l:=(KN g p c).1) (PM.jZ (KN g p c).1 (KN g p c).2.1 (KN g p c).2.2);have e3:=PM.bT (l:=(KN g p c).1) (PM.j0 (KN g p c).1 (KN g p c).2.1 (KN g p c).2.2);have LY:(KN g p c).1≠0:=by rcases k with⟨_,_,q⟩| ⟨_,_,q⟩<;>lia
 have hg:PM.g3 (KN g p c).1 (KN g p c).2.1 (KN g p c).2.2≠0:=fun z=>LY (PM.qJ.mp z).1
 have C:∃m s t,Ti (bZ g p c) p c m s t/\s*JS g p+t*JS g c=0:=by
  rcases k with⟨a,b,q⟩| ⟨a,b,q⟩
  ·have hd:PM.Lm (KN g p c).1 (KN g p c).2.1 (KN g p c).2.2 (KN g p c).1=(PM.g3 (KN g p c).1 (KN g p c).2.1 (KN g p c).2.2:Int):=by
    unfold PM.Lm;rw[JT (by lia)]
   refine⟨PM.g3 (KN g p c).1 (KN g p c).2.1 (KN g p c).2.2,JS g c,-JS g p,⟨by lia,b,by lia,?_,?_,?_⟩,by rw[Ms,Mw];lia⟩
   ·show _*((KN g p c).1.fdiv _)=_;rw[<- hd,Mw,e1,Ms];rfl
   ·show _*((KN g p c).2.1.fdiv _)=_;rw[<- hd,Mw,e2,Ms];rfl
   ·show _*((KN g p c).2.2.fdiv _)=_;rw[<- hd,Mw,e3,Ms];rfl
  ·have hd:-PM.Lm (KN g p c).1 (KN g p c).2.1 (KN g p c).2.2 (KN g p c).1=(PM.g3 (KN g p c).1 (KN g p c).2.1 (KN g p c).2.2:Int):=by
    unfold PM.Lm;rw[JU (by lia),RV]
   refine⟨PM.g3 (KN g p c).1 (KN g p c).2.1 (KN g p c).2.2,-JS g c,JS g p,⟨by lia,by lia,a,?_,?_,?_⟩,by rw[Ms,Mw];lia⟩
   ·show _*((KN g p c).1.fdiv _)=_;rw[<- hd,Ms,Mw,e1,Ms];show -(JS g c*p.1 - JS g p*c.1)=_
    lia
   ·show _*((KN g p c).2.1.fdiv _)=_;rw[<- hd,Ms,Mw,e2,Ms];show -(JS g c*p.2.1 - JS g p*c.2.1)=_
    lia
   ·show _*((KN g p c).2.2.fdiv _)=_;rw[<- hd,Ms,Mw,e3,Ms];show -(JS g c*p.2.2 - JS g p*c.2.2)=_
    lia
 obtain⟨m,s,t,C,z⟩:=C;refine⟨⟨m,s,t,C⟩,?_⟩;have:=C.gv g;rw[z]at this;exact(Ox.mp this).resolve_left (by have:=C.m0;lia)
def Gb{p c:Tr}(hp:0<p.1)(hc:0<c.1)(lt:JS g p*JS g c<0):Pr (bZ g p c):=AR (by rcases vR hp hc lt with⟨_,_,q⟩| ⟨_,_,q⟩<;>lia)
def Gg{e:Tr}(he:e≠(0,0,0))(ep:JS e p=0)(gp:JS g p≠0):Kv e g≠(0,0,0):=fun z=>he (by
 unfold Kv at z;simp only[Pk]at z;obtain⟨z1,z2,z3⟩:=z;have h1:e.1*JS g p=0:=by unfold JS at *;grind
 have h2:e.2.1*JS g p=0:=by unfold JS at *;grind
 have h3:e.2.2*JS g p=0:=by unfold JS at *;grind
 have a1:=(Ox.mp h1).resolve_right gp;have a2:=(Ox.mp h2).resolve_right gp;have a3:=(Ox.mp h3).resolve_right gp;obtain⟨x,y,t⟩:=e
 simp_all)
def AK(hq:Pr q)(e1:JS e q=0)(e2:JS g q=0)(hw:Kv e g≠(0,0,0)):∃m,m≠0/\(Kv e g).1=m*q.1/\(Kv e g).2.1=m*q.2.1/\(Kv e g).2.2=m*q.2.2:=by obtain⟨m,h1,h2,h3⟩:=HR (w:=Kv e g) hq (by unfold JS at *;unfold Kv;grind) (by unfold JS at *;unfold Kv;grind);refine⟨m,fun z=>hw ?_,h1,h2,h3⟩;rw[z,OX]at h1 h2 h3;exact ME h1 (ME h2 h3)
def AL(hq:Pr q)(e1:JS e q=0)(e2:JS g q=0)(hw:Kv e g≠(0,0,0)):q=PW (Kv e g):=by
 obtain⟨m,m0,h1,h2,h3⟩:=AK hq e1 e2 hw;have w0:(Kv e g).1≠0:=by rw[h1];exact SF m0 (by have:=hq.pos;lia)
 have hp:=AR w0;have r1:=PM.bT (l:=(Kv e g).1) (PM.jY (Kv e g).1 (Kv e g).2.1 (Kv e g).2.2);have r2:=PM.bT (l:=(Kv e g).1) (PM.jZ (Kv e g).1 (Kv e g).2.1 (Kv e g).2.2);have r3:=PM.bT (l:=(Kv e g).1) (PM.j0 (Kv e g).1 (Kv e g).2.1 (Kv e g).2.2);have dn:PM.Lm (Kv e g).1 (Kv e g).2.1 (Kv e g).2.2 (Kv e g).1≠0:=PM.oR fun z=>w0 z.1
 apply uo hq hp;have r1':(PW (Kv e g)).1*PM.Lm (Kv e g).1 (Kv e g).2.1 (Kv e g).2.2 (Kv e g).1=m*q.1:=by rw[<- h1];exact r1
 have r2':(PW (Kv e g)).2.1*PM.Lm (Kv e g).1 (Kv e g).2.1 (Kv e g).2.2 (Kv e g).1=m*q.2.1:=by rw[<- h2];exact r2
 have r3':(PW (Kv e g)).2.2*PM.Lm (Kv e g).1 (Kv e g).2.1 (Kv e g).2.2 (Kv e g).1=m*q.2.2:=by rw[<- h3];exact r3
 generalize PM.Lm (Kv e g).1 (Kv e g).2.1 (Kv e g).2.2 (Kv e g).1=d at *;generalize PW (Kv e g)=p at *;unfold Kv;have k:∀a b a' b':Int,a*d=m*a'->b*d=m*b'->a'*b - b'*a=0:=fun a b a' b' h h'=>by
  have:m*d*(a'*b - b'*a)=0:=by grind
  exact(Ox.mp this).resolve_left (SF m0 dn)
 rw[k _ _ _ _ r2' r3',k _ _ _ _ r3' r1',k _ _ _ _ r1' r2']
def dj(g:Tr)(l:yau):yau:=match l.getLast? with
 |none=>[]
 |some z=>NK [] (aD g (bZ g) z l)
structure Rt(n:Nat)(e:Tr):Prop where
 ne:e≠(0,0,0)
 c:Bd (2*n+2) e.1
 a:Bd (n+1) e.2.1
 b:Bd (n+1) e.2.2
structure CB(n:Nat)(p:Tr):Prop where
 b:Bd (2*n+3) p.1
 x:Bd (3*n+4) p.2.1
 y:Bd (3*n+4) p.2.2
structure Vq(n:Nat)(Gs Z l:yau):Prop where
 Nk:OU l
 pr:∀p∈l,Pr p
 cb:∀p∈l,CB n p
 cyc:Vp (Sh (·∈Gs)) l
 mem:∀p∈l,p∈Z
 len:l.length<=Z.length
def Iv{k:Nat}(ha:Bd n a)(hb:Bd m b)(hc:Bd m c)(hd:Bd n d)(hk:n+m+1=k):Bd k (a*b - c*d):=by subst hk;have h1:=ha.mul hb;have h2:=hc.mul hd;rw[Nat.add_comm m n]at h2;exact h1.sub h2
def jB{m q w:Int}(hm:m≠0)(e:w=m*q)(h:Bd n w):Bd n q:=by
 unfold Bd at *;rw[e,VQ]at h;have:q.natAbs<=m.natAbs*q.natAbs:=Nat.le_mul_of_pos_left _ (by lia)
 lia
theorem qj:∀(l:yau) (p:Tr) {y:Tr},y∈aD g (bZ g) p l->y∈l∨∃ a b,a∈p::l/\b∈l/\List.Sublist [a,b] (p::l)/\JS g a*JS g b<0/\y=bZ g a b/\∀R:Tr->Tr->Prop,N6 R (p::l)->R a b
 |[],_,_,h=>by cases h
 |c::r,p,y,h=>by
  unfold aD at h;rcases KR.mp h with q|q
  ·split at q
   ·rename_i lt;exact .inr ⟨p,c,by simp,by simp,List.Sublist.cons_cons p (List.Sublist.cons_cons c (List.nil_sublist _)),lt,LQ.mp q,fun R hR=>hR.1⟩
   ·cases q
  ·rcases KR.mp q with q|q
   ·split at q
    ·rw[LQ.mp q];exact .inl (by simp)
    ·cases q
   ·rcases qj r c q with q|⟨a,b,h1,h2,h3,h4,h5,h6⟩
    ·exact .inl (K0 _ q)
    ·exact .inr ⟨a,b,K0 _ h1,K0 _ h2,h3.cons p,h4,h5,fun R hR=>h6 R hR.2⟩
theorem uB:∀(l seen:yau),(NK seen l).Nodup/\∀x∈NK seen l,x∉seen
 |[],_=>⟨List.nodup_nil,fun _ h=>(by cases h)⟩
 |x::r,seen=>by
  unfold NK;split
  ·exact uB r seen
  ·rename_i q;obtain⟨a,b⟩:=uB r (seen++[x]);refine⟨QS.mpr ⟨fun h=>b x h (by simp),a⟩,fun y hy=>?_⟩;rcases Kr.mp hy with rfl|hy
   ·exact q
   ·exact fun z=>b y hy (Ob _ z)
def uU{l:yau}{z:Tr}(h:l.getLast?=some z):l=l.dropLast++[z]:=by
 have hn:l ≠ []:=fun e=>by rw[e]at h;cases h
 rw[Vs hn]at h;have:=(UH hn).symm;rw[MW h]at this;exact this
theorem u7:∀{l Z:yau},l.Nodup->(∀x∈l,x∈Z)->l.length<=Z.length
 |[],_,_,_=>Mx _
 |x::r,Z,h,hm=>by
  obtain⟨a,b⟩:=QS.mp h;obtain⟨A,C,rfl⟩:=UL (hm x (by simp));have:=u7 (l:=r) (Z:=A++C) b fun y hy=>by
   have:=hm y (K0 _ hy);simp only[KR,Kr]at this ⊢;rcases this with q|q|q
   ·exact .inl q
   ·rw[q]at hy;exact absurd hy a
   ·exact .inr q
  simp at this ⊢
  lia
def BN{Gs Z:yau}{g:Tr}(hG:∀e∈Gs,Rt n e)(hg:g∈Gs)(hZ:∀e∈Gs,PW (Kv e g)∈Z)(C:Vq n Gs Z l):Vq n Gs Z (dj g l):=by
 unfold dj;cases hl:l.getLast? with
 |none=>exact⟨fun _ _ _ s=>(by cases s),fun _ h=>(by cases h),fun _ h=>(by cases h),fun k z e=>(by simp at e),fun _ h=>(by cases h),Mx _⟩
 |some z =>
  have hz:=uU hl;have pos:∀x∈l,0<x.1:=fun x hx=>(C.pr x hx).pos
  have zl:z∈l:=by rw[hz];simp
  have pos':∀x∈z::l,0<x.1:=fun x hx=>by
   rcases Kr.mp hx with rfl|hx
   ·exact pos x zl
   ·exact pos x hx
  have B:=zF g;have tri0:OU (z::l):=by have:=Bl (l:=l.dropLast) (a:=z) (by rw[<- hz];exact C.Nk);rw[<- hz]at this;exact this
  have Xt:OU (aD g (bZ g) z l):=jd.t (vQ B l z pos' tri0.p).2;have cy:=Dl B (G:=(·∈Gs)) hg hz pos C.cyc;have Xu:∀y∈aD g (bZ g) z l,Pr y/\CB n y/\y∈Z:=fun y hy=>by
   rcases qj l z hy with q|⟨a,b,ha,hb,_,lt,rfl,hR⟩
   ·exact⟨C.pr y q,C.cb y q,C.mem y q⟩
   ·have pa:=pos' a ha;have pb:=pos b hb;have pq:=Gb pa pb lt;obtain⟨e,he,ea,eb⟩:=hR _ (C.cyc _ z hz);obtain⟨⟨m,s,t,K⟩,gq⟩:=B a b pa pb lt;have eq:=K.zero ea eb;have hw:=Gg (hG e he).ne ea (show JS g a≠0 from fun z=>by rw[z,OX]at lt;exact Qc _ lt);refine⟨pq,?_,?_⟩
    ·obtain⟨m,m0,h1,h2,h3⟩:=AK pq eq gq hw;have E:=hG e he;have H:=hG g hg;exact⟨jB m0 h1 (Iv (k:=2*n+3) E.a H.b E.b H.a (by lia)),jB m0 h2 (Bd.mono ((E.b.mul H.c).sub (Nat.add_comm _ _ ▸ E.c.mul H.b)) (by lia)),jB m0 h3 (Bd.mono ((E.c.mul H.a).sub (Nat.add_comm _ _ ▸ E.a.mul H.c)) (by lia))⟩
    ·rw[AL pq eq gq hw];exact hZ e he
  have sub:=l4 (aD g (bZ g) z l) [];exact⟨Xt.sub sub,fun p hp=>(Xu p (sub.subset hp)).1,fun p hp=>(Xu p (sub.subset hp)).2.1,zT _ _ (KO _) Xt (fun p hp=>(Xu p hp).1) cy,fun p hp=>(Xu p (sub.subset hp)).2.2,u7 (uB _ _).1 fun p hp=>(Xu p (sub.subset hp)).2.2⟩
def oE(Nk:OU l)(pr:∀p∈l,Pr p):(∀X,Rr l X->0<=JS g X->Rr (dj g l) X)/\(∀y∈dj g l,0<=JS g y)/\∀d,(∀p∈l,0<=JS d p)->∀y∈dj g l,0<=JS d y:=by
 unfold dj;cases hl:l.getLast? with
 |none =>
  have e:=XJ.mp hl;subst e;exact⟨fun X h _=>h,fun _ h=>(by cases h),fun _ _ _ h=>by cases h⟩
 |some z =>
  have hz:=uU hl;have pos:∀x∈l,0<x.1:=fun x hx=>(pr x hx).pos
  have zl:z∈l:=by rw[hz];simp
  have pos':∀x∈z::l,0<x.1:=fun x hx=>by
   rcases Kr.mp hx with rfl|hx
   ·exact pos x zl
   ·exact pos x hx
  have B:=zF g;have sub:=l4 (aD g (bZ g) z l) [];refine⟨fun X hX gX h hh=>Dm B hz Nk pos hX gX h fun p hp=>?_,fun y hy=>sP B l z pos' y (sub.subset hy),fun d hd y hy=>og B l z pos' (fun x hx=>?_) y (sub.subset hy)⟩
  ·exact hh p ((qC _ [] hp).resolve_left (by simp))
  ·rcases Kr.mp hx with rfl|hx
   ·exact hd x zl
   ·exact hd x hx
def bq(gs l:yau):yau:=gs.foldl (fun l g=>dj g l) l
def Hd(h:Rr l X)(hX:0<X.1):l ≠ []:=fun e=>by
 subst e;have:=h (-1,0,0) (fun _ q=>by cases q);unfold JS at this;dsimp only at this
 lia
def sT(p:Sp):Tr:=(1,p.1,p.2)
def GQ(a b c:Sp):Lg (sT a) (sT b) (sT c)=cr a b c:=by rw[bH];unfold Lg sT JS Kv;grind
def tS{A B:Int}{x y z:Sp}(hy:0<A*y.1+B*y.2)(hx:0<=A*x.1+B*x.2)(hz:0<=A*z.1+B*z.2)(h1:0<=tn x y)(h2:0<=tn y z):0<=tn x z:=by
 have e:(A*y.1+B*y.2)*tn x z=(A*z.1+B*z.2)*tn x y+(A*x.1+B*x.2)*tn y z:=by unfold tn;grind
 have a1:=Lq hz h1;have a2:=Lq hx h2;exact Rx (a:=A*y.1+B*y.2) (by rw[e];lia) hy
def sb(a b:Sp):Sp:=(a.1 - b.1,a.2 - b.2)
def eY(a b c:Sp):cr a b c=tn (sb b a) (sb c a):=by rw[bH];unfold tn sb;grind
def dY(A B:Int)(a b:Sp):A*(sb a b).1+B*(sb a b).2=fA A B a - fA A B b:=by unfold sb fA;grind
def xM(L:Way A B ps n l){i j k:Nat}(My:i<j)(Uz:j<k)(hk:k<n):0<=cr (l i) (l j) (l k):=by
 have e1:=L.Lo j (by lia) (l i) (L.mem i (by lia));have e2:=L.Lo j (by lia) (l k) (L.mem k hk);have r1:=L.rise i j My (by lia);have r2:=L.rise j (j+1) (by lia) (by lia);have r3:=L.rise j k Uz hk;have:=tS (A:=A) (B:=B) (x:=sb (l j) (l i)) (y:=sb (l (j+1)) (l j)) (z:=sb (l k) (l j)) (by rw[dY];lia) (by rw[dY];lia) (by rw[dY];lia) (by
  rw[bH]at e1;unfold tn sb;dsimp only;have:(l j).1*1=(l j).1:=by lia
  grind) (by rw[<- eY];exact e2)
 rw[eY];have e:tn (sb (l j) (l i)) (sb (l k) (l i))=tn (sb (l j) (l i)) (sb (l k) (l j)):=by unfold tn sb;grind
 rw[e];exact this
def xN{m:Nat}(L:Way A B ps n l)(U:Way (-A) (-B) ps (m+2) u)(e0:u (m+1)=l 0){i j k:Nat}(My:i<j)(hj:j<n)(hk:k<m+2):0<=cr (l i) (l j) (u k):=by
 have up:=U.mem k hk;have rij:=L.rise i j My hj;by_cases c1:fA A B (u k)<=fA A B (l i)
 ·have e1:=L.Lo i (by lia) (u k) up;have e2:=L.Lo i (by lia) (l j) (L.mem j hj);have r:=L.rise i (i+1) (by lia) (by lia);have:=tS (A:=A) (B:=B) (x:=sb (l i) (u k)) (y:=sb (l (i+1)) (l i)) (z:=sb (l j) (l i)) (by rw[dY];lia) (by rw[dY];lia) (by rw[dY];lia) (by
   rw[eY]at e1;have:tn (sb (l i) (u k)) (sb (l (i+1)) (l i))=tn (sb (l (i+1)) (l i)) (sb (u k) (l i)):=by unfold tn sb;grind
   rw[this];exact e1) (by rw[<- eY];exact e2)
  rw[eY];have e:tn (sb (l j) (l i)) (sb (u k) (l i))=tn (sb (l i) (u k)) (sb (l j) (l i)):=by unfold tn sb;grind
  rw[e];exact this
 ·by_cases c2:fA A B (l j)<=fA A B (u k)
  ·obtain⟨j',rfl⟩:∃j',j=j'+1:=⟨j - 1,by lia⟩;have e1:=L.Lo j' hj (u k) up;have e2:=L.Lo j' hj (l i) (L.mem i (by lia));have r:=L.rise j' (j'+1) (by lia) hj;have:=tS (A:=A) (B:=B) (x:=sb (l (j'+1)) (l i)) (y:=sb (l (j'+1)) (l j')) (z:=sb (u k) (l (j'+1))) (by rw[dY];lia) (by rw[dY];lia) (by rw[dY];lia) (by
    rw[eY]at e2;have:tn (sb (l (j'+1)) (l i)) (sb (l (j'+1)) (l j'))=tn (sb (l (j'+1)) (l j')) (sb (l i) (l j')):=by unfold tn sb;grind
    rw[this];exact e2) (by
    rw[eY]at e1;have:tn (sb (l (j'+1)) (l j')) (sb (u k) (l (j'+1)))=tn (sb (l (j'+1)) (l j')) (sb (u k) (l j')):=by unfold tn sb;grind
    rw[this];exact e1)
   rw[eY];have e:tn (sb (l (j'+1)) (l i)) (sb (u k) (l i))=tn (sb (l (j'+1)) (l i)) (sb (u k) (l (j'+1))):=by unfold tn sb;grind
   rw[e];exact this
  ·have km:k<m+1:=by
    rcases Nat.lt_or_eq_of_le (Nat.le_of_lt_succ hk)with q|q
    ·exact q
    ·exfalso;rw[q,e0]at c1;exact c1 (L.lo _ (L.mem i (by lia)))
   have e1:=U.Lo k (by lia) (l i) (L.mem i (by lia));have e2:=U.Lo k (by lia) (l j) (L.mem j hj);have r:=U.rise k (k+1) (by lia) (by lia);rw[bE,bE]at r;have:=tS (A:=A) (B:=B) (x:=sb (l j) (u k)) (y:=sb (u k) (u (k+1))) (z:=sb (u k) (l i)) (by rw[dY];lia) (by rw[dY];lia) (by rw[dY];lia) (by
    rw[eY]at e2;have:tn (sb (l j) (u k)) (sb (u k) (u (k+1)))=tn (sb (u (k+1)) (u k)) (sb (l j) (u k)):=by unfold tn sb;grind
    rw[this];exact e2) (by
    rw[eY]at e1;have:tn (sb (u k) (u (k+1))) (sb (u k) (l i))=tn (sb (u (k+1)) (u k)) (sb (l i) (u k)):=by unfold tn sb;grind
    rw[this];exact e1)
   rw[eY];have e:tn (sb (l j) (l i)) (sb (u k) (l i))=tn (sb (l j) (u k)) (sb (u k) (l i)):=by unfold tn sb;grind
   rw[e];exact this
def Gf(a b c:Sp):cr a b c=cr b c a:=by rw[bH,bH];grind
def CZ{n m:Nat}{h:Nat->Sp}(L:Way A B ps (n+2) l)(U:Way (-A) (-B) ps (m+2) u)(eM:l (n+1)=u 0)(e0:u (m+1)=l 0)
  (hl:∀k,k<n+2->h k=l k) (hu:∀j,j<m+1->h (n+1+j)=u j) {i j k:Nat} (My:i<j) (Uz:j<k) (hk:k<n+m+2):0<=cr (h i) (h j) (h k):=by
 have U2:Way A B ps (n+2) l:=L;have L':Way (-(-A)) (-(-B)) ps (n+2) l:=by rw[RV,RV];exact L
 have QF:∀k,n+1<=k->k<n+m+2->h k=u (k - (n+1)):=fun k h1 h2=>by
  have:=hu (k - (n+1)) (by lia);rw[<- this];congr 1
  lia
 by_cases ci:i<n+2
 ·by_cases cj:j<n+2
  ·by_cases ck:k<n+2
   ·rw[hl i ci,hl j cj,hl k ck];exact xM L My Uz ck
   ·rw[hl i ci,hl j cj,QF k (by lia) hk];exact xN L U e0 My cj (by lia)
  ·rw[hl i ci,QF j (by lia) (by lia),QF k (by lia) hk,Gf];exact xN U L' eM (by lia) (by lia) ci
 ·rw[QF i (by lia) (by lia),QF j (by lia) (by lia),QF k (by lia) hk];exact xM U (by lia) (by lia) (by lia)
theorem xJ:∀{l:yau},(∀i j k (My:i<j) (Uz:j<k) (hk:k<l.length),0<=Lg (l[i]'(by lia)) (l[j]'(by lia)) (l[k]'hk))->jd l
 |[],_=>True.intro
 |p::r,h=>⟨QO.mpr fun i j hi hj q=>h 0 (i+1) (j+1) (by lia) (by lia) (by simp;lia),xJ fun i j k My Uz hk=>h (i+1) (j+1) (k+1) (by lia) (by lia) (by simp;lia)⟩
def uQ(h:bY ys ps):OU ((aP ys).map sT)/\(1<(aP ys).length->∀k,k<(aP ys).length->bD (aP ys) k≠(aP ys).getD k (0,0)):=by
 have yl:=nN h;obtain⟨o,hm⟩:=h;unfold aP;by_cases c:ys.length<2
 ·rw[JU c];refine⟨fun x y z s=>?_,fun q=>absurd q (by lia)⟩;have:=s.length_le;simp at this
  lia
 rw[JT c];obtain⟨M,M0,hM⟩:=BJ ys;have oF:ys.Pairwise fun p q=>fA (2*M) 1 p<fA (2*M) 1 q:=by refine List.Pairwise.imp_of_mem ?_ o;intro p q hp hq h;exact pf M0 (hM p hp) (hM q hq) h
 have oB:ys.reverse.Pairwise fun p q=>fA (-(2*M)) (-1) p<fA (-(2*M)) (-1) q:=by refine VB.mpr (oF.imp ?_);intro p q h;rw[bE,bE];exact Int.neg_lt_neg h
 have L:=(qk oF (US c)).to (qs:=ps) fun p=>(hm p).symm
 have U:=(qk oB (by rw[P7];exact US c)).to (qs:=ps) fun p=>by rw[Qv];exact(hm p).symm
 have ll:(aF ys).length<=ys.length:=by have:=eI [] ys;unfold aF;rw[P7];simpa using this
 have lu:(aF ys.reverse).length<=ys.length:=by have:=eI [] ys.reverse;unfold aF;rw[P7];simpa using this
 generalize aF ys=l at L ll ⊢;generalize aF ys.reverse=u at U lu ⊢;have inj:∀p∈ps,∀q∈ps,fA (2*M) 1 p=fA (2*M) 1 q->p=q:=fun p hp q hq e=>uL oF p ((hm p).mpr hp) q ((hm q).mpr hq) e
 have nl:∀p∈ps,∀q∈ps,fA (2*M) 1 p<=fA (2*M) 1 q->¬jj q p:=fun p hp q hq e x =>
  Int.not_le_of_gt (pf M0 (hM q ((hm q).mpr hq)) (hM p ((hm p).mpr hp)) x) e
 generalize 2*M=A at L U inj nl;clear oF oB hM M0 o hm;obtain⟨n,hn⟩:∃n,l.length=n+2:=⟨l.length - 2,by have:=L.two;lia⟩;obtain⟨m,hm⟩:∃m,u.length=m+2:=⟨u.length - 2,by have:=U.two;lia⟩;have hl:(l.dropLast++u.dropLast).length=n+m+2:=by
  rw[LO,QP,QP,hn,hm];show n+1+(m+1)=_
  lia
 have memD:∀{w:yat} {x:Sp},x∈w.dropLast->x∈w:=fun {w x} hx=>(List.dropLast_sublist w).subset hx
 have gm:∀{w:yat} {i:Nat} (hi:i<w.length),w.getD i (0,0)=w[i]:=fun {w i} hi=>by rw[Nq,LH hi];rfl
 rw[hn]at L;rw[hm]at U;have eM:l.getD (n+1) (0,0)=u.getD 0 (0,0):=by have m1:=L.mem (n+1) (Pj _);have m2:=U.mem 0 (OP _);have a1:=L.hi _ m2;have a2:=U.lo _ m1;rw[bE,bE]at a2;exact inj _ m1 _ m2 (UU (XT a2) a1)
 have e0:u.getD (m+1) (0,0)=l.getD 0 (0,0):=by have m1:=L.mem 0 (OP _);have m2:=U.mem (m+1) (Pj _);have a1:=L.lo _ m2;have a2:=U.hi _ m1;rw[bE,bE]at a2;exact inj _ m2 _ m1 (UU (XT a2) a1)
 have gu:∀j,j<m+1->(l.dropLast++u.dropLast).getD (n+1+j) (0,0)=u.getD j (0,0):=fun j hj=>by
  have ld:l.dropLast.length=n+1:=by rw[QP,hn];rfl
  rw[Nq,Nq,NM (by rw[ld];exact Nat.le_add_right _ _),ld,UI,XQ,hm,JU (show j<m+2 - 1 from hj)]
 have gl:∀k,k<n+2->(l.dropLast++u.dropLast).getD k (0,0)=l.getD k (0,0):=fun k hk=>by
  rcases Nat.lt_or_eq_of_le (Nat.le_of_lt_succ hk)with z|z
  ·rw[Nq,Nq,OV (by rw[QP,hn];exact z),XQ,hn,JU (show k<n+2 - 1 from z)]
  ·rw[z,eM];exact gu 0 (OP _)
 constructor
 rotate_left
 ·intro _ k hk e;rw[hl]at hk;unfold bD at e;rw[hl]at e;have gu':∀k,n+1<=k->k<n+m+2->(l.dropLast++u.dropLast).getD k (0,0)=u.getD (k - (n+1)) (0,0):=fun k h1 h2=>by
   have:=gu (k - (n+1)) (by lia);rw[<- this];congr 1
   lia
  cases k with
  |zero =>
   have e1:(0+(n+m+2) - 1) % (n+m+2)=n+m+1:=by rw[Od (by lia)];lia
   rw[e1,gu' _ (by lia) (by lia),gl 0 (by lia),<- e0]at e;have:=U.rise (n+m+1 - (n+1)) (m+1) (by lia) (by lia);rw[e]at this;exact Qc _ this
  |succ k =>
   have e1:(k+1+(n+m+2) - 1) % (n+m+2)=k:=by
    have:k+1+(n+m+2) - 1=k+(n+m+2):=by lia
    rw[this,UP,Od (by lia)]
   rw[e1]at e;by_cases q:k+1<n+2
   ·rw[gl k (by lia),gl (k+1) q]at e;have:=L.rise k (k+1) (by lia) q;rw[e]at this;exact Qc _ this
   ·rw[gu' k (by lia) (by lia),gu' (k+1) (by lia) hk]at e;have:=U.rise (k - (n+1)) (k+1 - (n+1)) (by lia) (by lia);rw[e]at this;exact Qc _ this
 apply jd.t;apply xJ;intro i j k My Uz hk;rw[J6,hl]at hk;have R:=CZ L U eM e0 gl gu My Uz hk;rw[gm (by rw[hl];lia),gm (by rw[hl];lia),gm (by rw[hl];lia)]at R;rw[Ph,Ph,Ph,GQ];exact R
def IX(p:Sp):Pr (sT p):=⟨by show(0:Int)<1;decide,by show PM.g3 1 p.1 p.2=1;unfold PM.g3;rw[Int.one_gcd];exact Int.one_gcd⟩
def ml(h X:Tr)(p:Sp):X.1*JS h (sT p) - JS h X=h.2.1*(Kc X p).1+h.2.2*(Kc X p).2:=by unfold JS sT Kc;grind
def Cg{X:Tr}(h0:0<X.1)(B:qp X hs):Rr (hs.map sT) X:=fun h hh=>by
 have hp:∀p∈hs,0<=X.1*JS h (sT p):=fun p hp=>Lq (K7 h0) (hh _ (KH.mpr ⟨p,hp,rfl⟩))
 have two:∀p∈hs,∀q∈hs,∀s t:Int,0<s->0<t->s*(Kc X p).1+t*(Kc X q).1=0->s*(Kc X p).2+t*(Kc X q).2=0->0<=JS h X:=fun p pm q qm s t s0 t0 e1 e2=>by
  have g1:=ml h X p;have g2:=ml h X q;have a1:=Lq (K7 s0) (hp p pm);have a2:=Lq (K7 t0) (hp q qm);have e:(s+t)*JS h X=s*(X.1*JS h (sT p))+t*(X.1*JS h (sT q)):=by grind
  exact Rx (a:=s+t) (by rw[e];lia) (by lia)
 have three:∀p∈hs,∀q∈hs,∀r∈hs,∀s t w:Int,0<s->0<t->0<w->s*(Kc X p).1+t*(Kc X q).1+w*(Kc X r).1=0->s*(Kc X p).2+t*(Kc X q).2+w*(Kc X r).2=0->0<=JS h X:=fun p pm q qm r rm s t w s0 t0 w0 e1 e2=>by
  have g1:=ml h X p;have g2:=ml h X q;have g3:=ml h X r;have a1:=Lq (K7 s0) (hp p pm);have a2:=Lq (K7 t0) (hp q qm);have a3:=Lq (K7 w0) (hp r rm);have e:(s+t+w)*JS h X=s*(X.1*JS h (sT p))+t*(X.1*JS h (sT q))+w*(X.1*JS h (sT r)):=by grind
  exact Rx (a:=s+t+w) (by rw[e];lia) (by lia)
 rcases B with⟨p,pm,b⟩| ⟨p,pm,q,qm,b⟩| ⟨p,pm,q,qm,r,rm,b⟩
 ·have g:=ml h X p;have b':Kc X p=(0,0):=b;rw[b',Qe,Qe]at g;have:=hp p pm
  lia
 ·obtain⟨o1,o2⟩:=HH b.1;have nz:Kc X q≠(0,0):=fun e=>by have:=b.2;rw[e]at this;unfold JW at this;simp at this
  exact two p pm q qm _ _ (fE nz) (by have:=b.2;lia) o1 o2
 ·obtain⟨o1,o2⟩:=F7 (Kc X p) (Kc X q) (Kc X r);rcases b with⟨b1,b2,b3⟩| ⟨b1,b2,b3⟩
  ·exact three p pm q qm r rm _ _ _ b1 b2 b3 o1 o2
  ·exact three p pm q qm r rm (-tn (Kc X q) (Kc X r)) (-tn (Kc X r) (Kc X p)) (-tn (Kc X p) (Kc X q)) (by lia) (by lia) (by lia) (by rw[Ms,Ms,Ms];lia) (by rw[Ms,Ms,Ms];lia)
def yv(g:jQ hs ps)(hn:ps ≠ []):jQ hs hs:=by refine⟨fun _ h=>h,by lia,fun _=>?_,fun a e p hp=>g.one a e p (g.mem p hp),fun a b e=>⟨(g.two a b e).1,fun p hp=>(g.two a b e).2 p (g.mem p hp)⟩,fun q k hk p hp=>g.Lo q k hk p (g.mem p hp),g.OH⟩;obtain⟨a,r,e,hl⟩:=g.PU hn;exact⟨a,r,e,fun p hp=>hl p (g.mem p hp)⟩
def mq(g:jQ hs ps)(hn:ps ≠ []):hs ≠ []:=by obtain⟨a,r,e,_⟩:=g.PU hn;rw[e];simp
def Cf{X:Tr}(g:jQ hs ps)(hn:ps ≠ [])(h0:0<X.1)(PV:∀b∈bb hs,0<=JS b X):Rr (hs.map sT) X :=
 Cg h0 (AM (yv g hn) (mq g hn) h0 PV)
def BQ(a b:Sp):JS (dO a b) (sT a)=0/\JS (dO a b) (sT b)=0:=by constructor<;>(unfold JS dO sT;grind)
def qI(a w:Sp):JS (b7 a w) (sT a)=0:=by unfold JS b7 sT;grind
theorem ug{R:Tr->Tr->Prop}:∀{l:yau},(∀i (h:i+1<l.length),R (l[i]'(by lia)) l[i+1])->N6 R l
 |[],_=>True.intro
 |[_],_=>True.intro
 |a::b::r,h=>⟨h 0 (by simp),ug fun i hi=>h (i+1) (by simp at hi ⊢;lia)⟩
def Ce{hs:yat}{Gs:yau}(hn:hs ≠ [])(hG:∀b∈bb hs,b∈Gs):Vp (Sh (·∈Gs)) (hs.map sT):=fun k z ek=>by
 by_cases c:hs.length<3
 ·have eb:bb hs=gr (hs.getD 0 (0,0)) (hs.getD (hs.length - 1) (0,0)):=by unfold bb;rw[JU c]
  have am:∃e∈Gs,∀p∈hs,JS e (sT p)=0:=by
   refine⟨b7 (hs.getD 0 (0,0)) (K4 (aM (hs.getD 0 (0,0)) (hs.getD (hs.length - 1) (0,0)))),hG _ (by rw[eb];unfold gr;simp),fun p hp=>?_⟩;rcases hs with _|⟨a,_|⟨b,_|⟨d,r⟩⟩⟩
   ·exact absurd rfl hn
   ·rw[LQ.mp hp];exact qI _ _
   ·simp only[Kr,PO,or_false]at hp;rcases hp with rfl|rfl
    ·exact qI _ _
    ·show JS (b7 a (K4 (aM a p))) (sT p)=0;unfold aM;split
     ·rename_i e;rw[<- e];exact qI _ _
     ·unfold JS b7 sT K4;grind
   ·simp at c;lia
  obtain⟨e,he,hp⟩:=am;have all:∀x∈hs.map sT,JS e x=0:=fun x hx=>by obtain⟨p,pm,rfl⟩:=KH.mp hx;exact hp p pm
  have zm:z∈hs.map sT:=by rw[ek];simp
  have Xv:∀x∈z::hs.map sT,JS e x=0:=fun x hx=>by
   rcases Kr.mp hx with rfl|hx
   ·exact all x zm
   ·exact all x hx
  exact ug fun i hi=>⟨e,he,Xv _ (P9 _),Xv _ (P9 _)⟩
 ·have eb:bb hs=(List.range' 0 hs.length).map fun k=>dO (bD hs k) (hs.getD k (0,0)):=by unfold bb;rw[JT c]
  have gm:∀{i:Nat} (hi:i<hs.length),hs.getD i (0,0)=hs[i]:=fun {i} hi=>by rw[Nq,LH hi];rfl
  have on:∀i (hi:i<hs.length),Sh (·∈Gs) (sT (bD hs i)) (sT hs[i]):=fun i hi=>by obtain⟨o1,o2⟩:=BQ (bD hs i) (hs.getD i (0,0));refine⟨_,hG (dO (bD hs i) (hs.getD i (0,0))) (by rw[eb];exact KH.mpr ⟨i,by simp[hi],rfl⟩),o1,?_⟩;rw[<- gm hi];exact o2
  have ez:z=sT (bD hs 0):=by
   have e1:(hs.map sT).getLast?=some z:=by rw[ek];simp
   rw[List.getLast?_map,YL]at e1;unfold bD;have:(0+hs.length - 1) % hs.length=hs.length - 1:=by rw[Pn];exact Od (by lia)
   rw[this,gm (by lia)];rw[LH (by lia)]at e1;exact(MW e1).symm
  refine ug fun i hi=>?_
  cases i with
  |zero =>
   show Sh _ z ((hs.map sT)[0]'_);rw[ez,Ph];exact on 0 (by lia)
  |succ i =>
   show Sh _ ((hs.map sT)[i]'_) ((hs.map sT)[i+1]'_);rw[Ph,Ph];simp at hi;have:=on (i+1) (by lia);unfold bD at this;have e:(i+1+hs.length - 1) % hs.length=i:=by
    have:i+1+hs.length - 1=i+hs.length:=by lia
    rw[this,UP];exact Od (by lia)
   rw[e,gm (by lia)]at this;exact this
def BE(ha:WB n a)(hb:WB n b):WB (n+1) (aM a b)/\aM a b≠(0,0):=by
 unfold aM;split
 ·exact⟨⟨by unfold Bd;have:=VC (n:=2) (by decide) (show 1<=n+1 by lia);lia,by unfold Bd;exact Nat.pow_pos (by decide)⟩,by simp⟩
 ·rename_i ne;refine⟨⟨?_,?_⟩,fun z=>ne ?_⟩
  ·show Bd _ (1*b.1 - 1*a.1);rw[Po,Po];exact hb.x.sub ha.x
  ·show Bd _ (1*b.2 - 1*a.2);rw[Po,Po];exact hb.y.sub ha.y
  ·simp only[Pk]at z;exact ME (by lia) (by lia)
def mf(ha:WB n a)(hw:WB (n+1) w)(h0:w≠(0,0)):Rt n (b7 a w):=by
 unfold b7;refine⟨fun z=>h0 ?_,?_,?_,?_⟩
 ·simp only[Pk]at z;exact ME (by lia) (by lia)
 ·exact Bd.mono (Bd.neg ((hw.x.mul ha.x).add (hw.y.mul ha.y))) (by lia)
 ·show Bd _ (w.1*1);rw[Int.mul_one];exact hw.x
 ·show Bd _ (w.2*1);rw[Int.mul_one];exact hw.y
def CU{hs:yat}(hn:hs ≠ [])(k:Nat):bD hs k∈hs:=by unfold bD;have:(k+hs.length - 1) % hs.length<hs.length:=QV _ (VE.mpr hn);rw[Nq,LH this];exact P9 _
def getD_mem{hs:yat}{k:Nat}(h:k<hs.length):hs.getD k (0,0)∈hs:=by rw[Nq,LH h];exact P9 _
def zE{hs:yat}(hn:hs ≠ [])(nd:1<hs.length->∀k,k<hs.length->bD hs k≠hs.getD k (0,0))(hb:∀p∈hs,WB n p):∀b∈bb hs,Rt n b:=fun b Vr=>by
 unfold bb at Vr;split at Vr
 ·rename_i c;have l0:0<hs.length:=VE.mpr hn;have wa:=hb _ (getD_mem (hs:=hs) (k:=0) l0);have wb:=hb _ (getD_mem (hs:=hs) (k:=hs.length - 1) (by lia));obtain⟨w1,w2⟩:=BE wa wb;generalize hs.getD 0 (0,0)=a at *;generalize hs.getD (hs.length - 1) (0,0)=d at *;unfold gr at Vr;simp only[Kr,PO,or_false]at Vr;generalize aM a d=w at *;have bk:WB (n+1) (K8 w)/\K8 w≠(0,0):=⟨⟨w1.x.neg,w1.y.neg⟩,fun z=>w2 (by
   unfold K8 at z;simp only[Pk]at z;exact ME (by lia) (by lia))⟩
  have lf:WB (n+1) (K4 w)/\K4 w≠(0,0):=⟨⟨w1.y.neg,w1.x⟩,fun z=>w2 (by unfold K4 at z;simp only[Pk]at z;exact ME (by lia) (by lia))⟩
  have bl:WB (n+1) (K8 (K4 w))/\K8 (K4 w)≠(0,0):=⟨⟨lf.1.x.neg,lf.1.y.neg⟩,fun z=>lf.2 (by generalize K4 w=v at *;unfold K8 at z;simp only[Pk]at z;exact ME (by lia) (by lia))⟩
  rcases Vr with rfl|rfl|rfl|rfl
  ·exact mf wa w1 w2
  ·exact mf wb bk.1 bk.2
  ·exact mf wa lf.1 lf.2
  ·exact mf wa bl.1 bl.2
 ·rename_i c;obtain⟨k,hk,rfl⟩:=KH.mp Vr;have Th:k<hs.length:=by simp at hk;exact hk
  have ne:=nd (by lia) k Th;have wa:=hb _ (CU hn k);have wb:=hb _ (getD_mem Th);generalize bD hs k=a at *;generalize hs.getD k (0,0)=d at *;unfold dO;refine⟨fun z=>ne ?_,?_,?_,?_⟩
  ·simp only[Pk]at z;exact ME (by lia) (by lia)
  ·exact Bd.mono ((wa.x.mul wb.y).sub (wb.x.mul wa.y)) (by lia)
  ·show Bd _ (a.2*1 - d.2*1);rw[Int.mul_one,Int.mul_one];exact wa.y.sub wb.y
  ·show Bd _ (1*d.1 - 1*a.1);rw[Po,Po];exact wb.x.sub wa.x
def Cc{Gs Z:yau}(h:bY ys ps)(hn:ps ≠ [])(hb:∀p∈ps,WB n p)(hG:∀b∈bb (aP ys),b∈Gs)(hZ:∀p∈aP ys,sT p∈Z)(hL:(aP ys).length<=Z.length):Vq n Gs Z ((aP ys).map sT):=by
 have g:=se h;have w:∀p∈aP ys,WB n p:=fun p hp=>hb p (g.mem p hp)
 refine⟨(uQ h).1,fun p hp=>?_,fun p hp=>?_,Ce (mq g hn) hG,fun p hp=>?_,by rw[J6];exact hL⟩
 ·obtain⟨q,_,rfl⟩:=KH.mp hp;exact IX q
 ·obtain⟨q,qm,rfl⟩:=KH.mp hp;refine⟨?_,(w q qm).x.mono (by lia),(w q qm).y.mono (by lia)⟩;show Bd _ 1;unfold Bd;exact MV (show 1<2 ^ 1 by decide) (VC (by decide) (by lia))
 ·obtain⟨q,qm,rfl⟩:=KH.mp hp;exact hZ q qm
def Bs(g:Tr)(qf:Tr->Tr->Tr)(z:Tr)(l:yau)(c:Tr):aD g qf z (l++[c])=aD g qf z l++((if JS g (l.getLastD z)*JS g c<0 then[qf (l.getLastD z) c]else[])++(if 0<=JS g c then[c]else[])):=by
 rcases List.eq_nil_or_concat l with rfl|⟨k,p,rfl⟩
 ·simp only[Oe,aD,Pa,List.getLastD_nil];rfl
 ·rw[List.concat_eq_append,Nt];show aD g qf z (k++p::[c])=_;rw[fX];congr 1;simp only[aD,Pa];rw[List.getLastD_concat]
theorem n9(g:Tr)(qf:Tr->Tr->Tr):∀(l:yau) (z:Tr),(aD g qf z l).length<=2*l.length
 |[],_=>KO _
 |c::r,z=>by unfold aD;have:=n9 g qf r c;rw[LO,LO,Oc];split<;>split<;>simp<;>lia
theorem kU:∀(l s s':yau),(∀x,x∈s↔x∈s')->NK s l=NK s' l
 |[],_,_,_=>rfl
 |x::r,s,s',h=>by
  unfold NK;by_cases q:x∈s
  ·rw[JU q,JU ((h x).mp q)];exact kU r s s' h
  ·rw[JT q,JT fun z=>q ((h x).mpr z)];congr 1;exact kU r _ _ fun y=>by simp[h y]
theorem uC(z:Tr):∀(l pre:yau),((List.range' pre.length l.length).filter fun k=>!((pre++l).take k).any fun y=>decide (y=(pre++l).getD k z)).map (fun k=>(pre++l).getD k z)=NK pre l
 |[],pre=>rfl
 |x::r,pre=>by
  have ih:=uC z r (pre++[x]);have e:pre++[x]++r=pre++x::r:=by simp
  rw[e]at ih;have hx:(pre++x::r).getD pre.length z=x:=by simp[Nq]
  have ht:(pre++x::r).take pre.length=pre:=by simp
  rw[Oc,List.range'_succ,List.filter_cons,hx,ht];have ha:(pre.any fun y=>decide (y=x))=decide (x∈pre):=by rw[SE];simp
  rw[ha];have hl:(pre++[x]).length=pre.length+1:=by simp
  rw[hl]at ih;unfold NK;by_cases q:x∈pre
  ·rw[JU q,JT (by simp[q]),ih];exact kU r _ _ fun y=>by simp only[KR,LQ];exact⟨fun h=>h.elim id fun e=>e ▸ q,.inl⟩
  ·rw[JT q,JU (by simp[q]),K5,hx,ih]
def Ia(a b:Int):(sg a*sg b<0)↔a*b<0:=by
 unfold sg;rcases SA a 0 with ha|ha|ha
 ·rw[JT (by lia),JU ha];rcases SA b 0 with hb|hb|hb
  ·rw[JT (by lia),JU hb];have:=Sw ha hb;constructor<;>intro<;>lia
  ·subst hb;simp
  ·rw[JU hb];have:=Pf ha hb;constructor<;>intro<;>lia
 ·subst ha;simp
 ·rw[JU ha];rcases SA b 0 with hb|hb|hb
  ·rw[JT (by lia),JU hb];have:=P6 ha hb;constructor<;>intro<;>lia
  ·subst hb;simp
  ·rw[JU hb];have:=Og ha hb;constructor<;>intro<;>lia
def Ib(a:Int):(0<=sg a)↔0<=a:=by
 unfold sg;split
 ·constructor<;>intro<;>lia
 ·split<;>(constructor<;>intro<;>lia)
def GV(p q:Tr):eqD (Kg p) (Kg q)=decide (p=q):=by unfold Kg;rw[Ac];obtain⟨a,b,c⟩:=p;obtain⟨d,e,f⟩:=q;rw[SE];simp
def mB(p:Tr):MP 1 (Kg p):=MP.tup (.cons (.int _ _) (.cons (.int _ _) (.cons (.int _ _) (.nil _))))
def plk(a b c d:Sp):tn a b*tn c d=tn a c*tn b d - tn a d*tn b c:=by unfold tn;grind
theorem jW(t:Sp):∀V:yat,(∃v∈V,0<tn t v)->∃v∈V,0<tn t v/\∀w∈V,0<tn t w->0<=tn v w
 |[],h=>by obtain⟨v,hv,_⟩:=h;cases hv
 |x::V,h=>by
  by_cases hV:∃v∈V,0<tn t v
  ·obtain⟨v,vm,hv,hw⟩:=jW t V hV;by_cases hx:0<tn t x/\tn v x<0
   ·refine⟨x,MC,hx.1,fun w Xw ht=>?_⟩;rcases Kr.mp Xw with e|wm
    ·rw[e,jO];exact Mf _
    ·have k:=plk t v x w;have a1:=Lq (K7 hx.1) (hw w wm ht);have a2:=Og ht (show 0 < - tn v x by lia);rw[Int.mul_neg]at a2;exact Rx (by rw[k];lia) hv
   ·refine⟨v,K0 _ vm,hv,fun w Xw ht=>?_⟩;rcases Kr.mp Xw with e|wm
    ·subst e;exact Pp.mp fun z=>hx ⟨ht,z⟩
    ·exact hw w wm ht
  ·obtain⟨v,vm,hv⟩:=h;rcases Kr.mp vm with e|vm
   ·subst e;refine⟨v,MC,hv,fun w Xw ht=>?_⟩;rcases Kr.mp Xw with e|wm
    ·rw[e,jO];exact Mf _
    ·exact absurd ⟨w,wm,ht⟩ hV
   ·exact absurd ⟨v,vm,hv⟩ hV
theorem zc{α:Type}(f:α->Int):∀V:List α,∃M:Int,0<M/\∀v∈V,f v<=M
 |[]=>⟨1,by decide,fun v hv=>by cases hv⟩
 |x::V=>by
  obtain⟨M,h0,hM⟩:=zc f V;refine⟨M+(f x).toNat,by lia,fun v hv=>?_⟩;rcases Kr.mp hv with e|vm
  ·subst e;lia
  ·have:=hM v vm;lia
def sq_pos{t:Sp}(ht:t≠(0,0)):0<JW t t:=by
 obtain⟨a,b⟩:=t;show 0<a*a+b*b;have h1:0<=a*a:=by rcases Int.le_total 0 a with h|h;exact Lq h h;exact UG h h
 have h2:0<=b*b:=by rcases Int.le_total 0 b with h|h;exact Lq h h;exact UG h h
 by_cases ha:a=0
 ·have hb:b≠0:=fun e=>ht (by rw[ha,e])
  have:=SF hb hb;omega
 ·have:=SF ha ha;omega
def GZ{t:Sp}(ht:t≠(0,0))(V:yat)(hV:∀d:Sp,(∀v∈V,0<=JW v d)->0<=JW t d):(∃v∈V,tn t v=0/\0<JW t v)∨∃ v∈V,∃w∈V,tn t v<0/\0<tn t w/\0<tn v w:=by
 refine Vu fun no=>?_
 have n1:∀v∈V,tn t v=0->JW t v<=0:=fun v hv h=>Pp.mp fun z=>no (.inl ⟨v,hv,h,z⟩)
 have sq:=sq_pos ht;by_cases L:∃v∈V,0<tn t v
 ·obtain⟨w,wm,hw,ext⟩:=jW t V L;have a:=hV (-w.2,w.1) fun v hv=>by
   have e:JW v (-w.2,w.1)=tn w v:=by unfold JW tn;grind
   rw[e];rcases SA (tn t v) 0 with c|c|c
   ·refine Pp.mp fun z=>no (.inr ⟨v,hv,w,wm,c,hw,?_⟩)
    rw[bM];lia
   ·have k:JW t t*tn w v=JW t v*tn w t+tn t v*JW w t:=by unfold JW tn;grind
    rw[c,OX,Of]at k;have q:=UG (n1 v hv c) (show tn w t<=0 by rw[bM];lia);rw[<- k]at q;exact Rx q sq
   ·exact ext v hv c
  have e:JW t (-w.2,w.1)=tn w t:=by unfold JW tn;grind
  rw[e,bM]at a
  lia
 ·obtain⟨M,M0,hM⟩:=zc (fun v=>JW v t) V;have a:=hV (M*t.2 - t.1,- (M*t.1) - t.2) fun v hv=>by
   have e:JW v (M*t.2 - t.1,- (M*t.1) - t.2)=M*(- tn t v) - JW v t:=by unfold JW tn;grind
   rw[e];have h:=Pp.mp fun z=>L ⟨v,hv,z⟩
   by_cases c:tn t v=0
   ·have:=n1 v hv c;rw[uI]at this;rw[c];lia
   ·have b:M*1<=M*(- tn t v):=YI (by lia) (K7 M0);have:=hM v hv
    lia
  have e:JW t (M*t.2 - t.1,- (M*t.1) - t.2)=- JW t t:=by unfold JW;grind
  lia
def vc(g:Tr):Sp:=(g.2.1,g.2.2)
def IH(g:Tr)(N d1 d2:Int)(p:Tr):JS g (N*p.1,N*p.2.1+d1,N*p.2.2+d2)=N*JS g p+JW (vc g) (d1,d2):=by unfold JS JW vc;grind
def F4{gs C:yau}(hC:C ≠ [])(pos:∀p∈C,0<p.1)(hg:∀p∈C,JS g p<0)(ov:∀h∈gs,∀p∈C,0<=JS h p)
  (sp:∀X:Tr,0<X.1->(∀h∈gs,0<=JS h X)->Rr C X) (gv:vc g≠(0,0)) :
  ∃ p:Tr,0<p.1/\JS g p<0/\((∃h∈gs,JS h p=0/\qo (vc h) (vc g))∨∃ h∈gs,∃k∈gs,JS h p=0/\JS k p=0/\Bv (vc h) (vc k) (vc g)):=by
 obtain⟨c0,hc0⟩:=List.exists_mem_of_ne_nil C hC;have h0:∀p:Tr,JS (-1,0,0) p=- p.1:=fun p=>by unfold JS;grind
 obtain⟨p,pm,gp,_,best⟩:=nF g (-1,0,0) C ⟨c0,hc0,hg c0 hc0,by rw[h0];have:=pos c0 hc0;lia⟩;have pp:=pos p pm;refine⟨p,pp,gp,?_⟩;have ht:(- g.2.1,- g.2.2)≠((0,0):Sp):=fun e=>gv (by have e1:=congrArg Prod.fst e;have e2:=congrArg Prod.snd e;dsimp only at e1 e2;unfold vc;rw[show g.2.1=0 by lia,show g.2.2=0 by lia])
 have key:=GZ ht ((gs.filter fun h=>decide (JS h p=0)).map vc) fun d hd=>by
  obtain⟨N,N0,hN⟩:=zc (fun h=>- JW (vc h) d) gs;have hX:∀h∈gs,0<=JS h (N*p.1,N*p.2.1+d.1,N*p.2.2+d.2):=fun h hm=>by
   rw[IH];by_cases c:JS h p=0
   ·rw[c,Qe,U1];exact hd _ (KH.mpr ⟨h,Pc.mpr ⟨hm,Mb c⟩,rfl⟩)
   ·have b:N*1<=N*JS h p:=YI (by have:=ov h hm p pm;lia) (K7 N0);have:=hN h hm;show 0<=N*JS h p+JW (vc h) d
    lia
  have I:=sp _ (Og N0 pp) hX (JS g p - p.1*g.1,- (p.1*g.2.1),- (p.1*g.2.2)) fun y hy=>by
   have b:=best y hy (hg y hy);rw[h0,h0]at b;have e:JS (JS g p - p.1*g.1,- (p.1*g.2.1),- (p.1*g.2.2)) y=JS g p*y.1 - p.1*JS g y:=by unfold JS;grind
   rw[e];rw[Int.mul_neg,Ms]at b
   lia
  have e:JS (JS g p - p.1*g.1,- (p.1*g.2.1),- (p.1*g.2.2)) (N*p.1,N*p.2.1+d.1,N*p.2.2+d.2)=p.1*JW (- g.2.1,- g.2.2) d:=by unfold JS JW;grind
  rw[e]at I;exact Rx I pp
 have mem:∀v∈(gs.filter fun h=>decide (JS h p=0)).map vc,∃h∈gs,JS h p=0/\vc h=v:=fun v hv=>by obtain⟨h,hm,e⟩:=KH.mp hv;obtain⟨a,b⟩:=Pc.mp hm;exact⟨h,a,Nd b,e⟩
 have t1:∀v:Sp,tn (- g.2.1,- g.2.2) v=- tn (vc g) v:=fun v=>by unfold tn vc;grind
 have t2:∀v:Sp,JW (- g.2.1,- g.2.2) v=- JW (vc g) v:=fun v=>by unfold JW vc;grind
 rcases key with⟨v,vm,a,b⟩| ⟨v,vm,w,wm,a,b,c⟩
 ·obtain⟨h,hm,hp,rfl⟩:=mem v vm;rw[t1]at a;rw[t2]at b;exact .inl ⟨h,hm,hp,by rw[bM];lia,by rw[uI];lia⟩
 ·obtain⟨h,hm,hp,rfl⟩:=mem v vm;obtain⟨k,km,kp,rfl⟩:=mem w wm;rw[t1]at a b;refine .inr ⟨h,hm,k,km,hp,kp,.inl ⟨?_,?_,c⟩⟩
  ·rw[bM];exact b
  ·lia
theorem ui{Gs Z:yau}(hG:∀e∈Gs,Rt n e)(hZ:∀e∈Gs,∀g∈Gs,PW (Kv e g)∈Z):∀(gs l:yau),(∀g∈gs,g∈Gs)->Vq n Gs Z l →
  Vq n Gs Z (bq gs l)/\(∀X,Rr l X->(∀g∈gs,0<=JS g X)->Rr (bq gs l) X)/\(∀g∈gs,∀y∈bq gs l,0<=JS g y)/\∀d,(∀p∈l,0<=JS d p)->∀y∈bq gs l,0<=JS d y
 |[],l,_,C=>⟨C,fun _ I _=>I,fun _ h=>(by cases h),fun _ h=>h⟩
 |g::gs,l,h,C=>by
  obtain⟨f1,f2,f3⟩:=oE (g:=g) C.Nk C.pr;obtain⟨a,b,c,d⟩:=ui hG hZ gs (dj g l) (fun x hx=>h x (K0 _ hx)) (BN hG (h g (by simp)) (fun e he=>hZ e he g (h g (by simp))) C);refine⟨a,fun X I hX=>b X (f1 X I (hX g (by simp))) fun x hx=>hX x (K0 _ hx),fun x hx y hy=>?_,fun e he=>d e (f3 e he)⟩;rcases Kr.mp hx with rfl|hx
  ·exact d x f2 y hy
  ·exact c x hx y hy
theorem w5:∀gs:yau,bq gs []=[]
 |[]=>rfl
 |g::gs=>w5 gs
def w4(a b l:yau):bq (a++b) l=bq b (bq a l):=List.foldl_append
def BP{G:yau}{j:Nat}(h:bq (G.take i) F=[])(My:i<=j):bq (G.take j) F=[]:=by
 have e:G.take j=G.take i++(G.drop i).take (j - i):=by rw[<- List.take_add,Nat.add_sub_cancel' My]
 rw[e,w4,h,w5]
theorem uj{G F:yau}(hF:F ≠ []):∀n,bq (G.take n) F=[]->∃last,last<n/\(∀j,j<=last->bq (G.take j) F ≠ [])/\bq (G.take (last+1)) F=[]
 |0,h=>absurd h hF
 |n+1,h=>by
  by_cases c:bq (G.take n) F=[]
  ·obtain⟨k,hk,a,b⟩:=uj hF n c;exact⟨k,by lia,a,b⟩
  ·exact⟨n,by lia,fun j hj z=>c (BP z hj),h⟩
def BO{G:yau}{k:Nat}{g:Tr}(h:G[k]?=some g):bq (G.take (k+1)) F=dj g (bq (G.take k) F):=by rw[List.take_add_one,h,w4];rfl
abbrev Dt:=Int×Int×Int×Int
def Kh(p:Dt):D:=.tup [.int p.1,.int p.2.1,.int p.2.2.1,.int p.2.2.2]
def xc(h:Kh p=Kh q):p=q:=by unfold Kh at h;simp only[D.tup.injEq,OW,D.int.injEq,and_true]at h;obtain⟨h1,h2,h3,h4⟩:=h;exact ME h1 (ME h2 (ME h3 h4))
theorem map_inj{α:Type}{f:α->D}(hf:∀{p q},f p=f q->p=q):∀{ps qs:List α},ps.map f=qs.map f->ps=qs
 |[],[],_=>rfl
 |[],_::_,h=>by simp at h
 |_::_,[],h=>by simp at h
 |p::ps,q::qs,h=>by simp only[K5,OW]at h;rw[hf h.1,map_inj hf h.2]
def Eo{ps qs:List Dt}(h:ps.map Kh=qs.map Kh):ps=qs:=map_inj xc h
def sJ(p:Dt):aT (Kh p)=Kh p:=by unfold Kh;simp only[da,cg,cJ,cc]
def m8(ps:List Dt):aY (ps.map Kh)=ps.map Kh:=cI Kh sJ ps
def E6(p:Dt):MP 1 (Kh p):=MP.tup (.cons (.int _ _) (.cons (.int _ _) (.cons (.int _ _) (.cons (.int _ _) (.nil _)))))
structure GD(p:Dt):Prop where
 x:Bd 60 p.1
 y:Bd 60 p.2.1
 c0:0<=p.2.2.1
 c2:p.2.2.1<=2
def oo(col:D)(cs:Int->Bool):Prop:=(col=.Kt/\cs=fun _=>true)∨∃ k:Int,col=.int k/\cs=fun c=>decide (c=k)
def oo.unt(h:oo col cs):aT col=col:=by
 rcases h with⟨rfl,_⟩| ⟨k,rfl,_⟩
 ·exact sM
 ·exact cc _
def gv(g0 g1 g2:Int)(p:Dt):Int:=g0+g1*p.1+g2*p.2.1
def w3(g0 g1 g2 s:Int)(ps:List Dt):Int:=(ps.map fun p=>if sg (gv g0 g1 g2 p)=s then p.2.2.2 else 0).sum
def wt(cs:Int->Bool)(g0 g1 g2 s:Int)(ps:List Dt):Int:=w3 g0 g1 g2 s (ps.filter fun p=>cs p.2.2.1)
def QL(cs:Int->Bool)(ps:List Dt):Int:=((ps.filter fun p=>cs p.2.2.1).map fun p=>p.2.2.2).sum
def FP(g0 g1 g2 s:Int)(ps:List Dt)(p:Dt):w3 g0 g1 g2 s (ps++[p])=w3 g0 g1 g2 s ps+if sg (gv g0 g1 g2 p)=s then p.2.2.2 else 0:=by unfold w3;rw[Na,List.sum_append];simp
def Ux(n:Int):sg n=-1∨sg n=0∨sg n=1:=by
 unfold sg;split
 ·exact .inr (.inr rfl)
 ·split
  ·exact .inl rfl
  ·exact .inr (.inl rfl)
def uq{α:Type}(xs:List α)(lo hi:yaq):List α:=(xs.drop (HT.Mz xs.length 0 lo)).take (HT.Mz xs.length xs.length hi - HT.Mz xs.length 0 lo)
def BR{α:Type}(f:α->D)(xs:List α)(lo hi:yaq):PD.cutD (xs.map f) lo hi=(uq xs lo hi).map f:=by unfold PD.cutD uq;rw[J6,List.map_take,List.map_drop]
theorem IY(a b c x:D):putD (κ:=Key) [(.inl (-1),a),(.inl 0,b),(.inl 1,c)] (.inl (-1)) x=[(.inl (-1),x),(.inl 0,b),(.inl 1,c)]:=rfl
theorem IZ(a b c x:D):putD (κ:=Key) [(.inl (-1),a),(.inl 0,b),(.inl 1,c)] (.inl 0) x=[(.inl (-1),a),(.inl 0,x),(.inl 1,c)]:=rfl
theorem Ja(a b c x:D):putD (κ:=Key) [(.inl (-1),a),(.inl 0,b),(.inl 1,c)] (.inl 1) x=[(.inl (-1),a),(.inl 0,b),(.inl 1,x)]:=rfl
def zD{x y z:Int}(h:¬(x=0/\y=0/\z=0))(hx:Bd n x)(hy:Bd n y)(hz:Bd n z):Bd n (PM.Lm x y z l):=by
 unfold Bd at *;rw[PM.qH];have d1:=Tu.mpr (PM.jY x y z);have d2:=Tu.mpr (PM.jZ x y z);have d3:=Tu.mpr (PM.j0 x y z);simp only[Int.natAbs_natCast]at d1 d2 d3;by_cases h1:x=0
 ·by_cases h2:y=0
  ·have h3:z≠0:=fun e=>h ⟨h1,h2,e⟩
   have:=TH (by lia) d3
   lia
  ·have:=TH (by lia) d2
   lia
 ·have:=TH (by lia) d1
  lia
def eF(ha:Bd 200 a)(hb:Bd 200 b)(hc:Bd 200 c)(hd:Bd 200 d):Bd 1000 (a*b - c*d):=((ha.mul hb).sub (hc.mul hd)).mono (by decide)
def wq(f:Dt->Bool):List Dt->Int
 |[]=>0
 |p::r=>(if f p=true then p.2.2.2 else 0)+wq f r
def Pos(qs:List Dt):Prop:=∀p∈qs,0<p.2.2.2
theorem om{f g:Dt->Bool}:∀{qs:List Dt},(∀p∈qs,f p=g p)->wq f qs=wq g qs
 |[],_=>rfl
 |p::r,h=>by unfold wq;rw[h p MC,om fun q hq=>h q (K0 _ hq)]
structure Or(lt:Dt->Dt->Bool):Prop where
 ir:∀p,lt p p=false
 tr:∀p q r,lt p q=true->lt q r=true->lt p r=true
 nt:∀p q r,lt p q=true->lt r q=false->lt p r=true
abbrev Vc:=Int×Int
def hh(d:Vc)(z:Dt):Int:=d.1*z.2.1 - d.2*z.1
def tq(p q z:Dt):Int:=(q.1 - p.1)*(z.2.1 - p.2.1) - (q.2.1 - p.2.1)*(z.1 - p.1)
def LL(p:Dt):Int×Int:=(p.1,p.2.1)
def RO(n:Nat):List (Nat×Nat):=(List.range' 0 n).flatMap fun i=>(List.range' (i+1) (n - (i+1))).map fun k=>(i,k)
def N7(ij:Nat×Nat):D:=.tup [.int ij.1,.int ij.2]
def Fo(h:N7 a=N7 b):a=b:=by unfold N7 at h;simp only[D.tup.injEq,OW,D.int.injEq,and_true]at h;obtain⟨h1,h2⟩:=h;exact ME (by lia) (by lia)
def Di(a:Nat×Nat):aT (N7 a)=N7 a:=by unfold N7;simp only[da,cg,cJ,cc]
def prO:Option (Nat×Nat)->D
 |none=>.Kt
 |some ij=>N7 ij
def Cp(n:Nat):Ol n 2=(RO n).map fun ij=>[ij.1,ij.2]:=by
 have e1:Ol n 1=(List.range' 0 n).map fun i=>[i]:=by simp[Ol,NR,eZ]
 have e2:Ol n 2=(Ol n 1).flatMap (NR n):=rfl;rw[e2,e1,List.flatMap_map,RO,List.map_flatMap];congr 1
 funext i
 rw[MX];rfl
def xt{i j:Nat}:(i,j)∈RO n↔i<j/\j<n:=by
 unfold RO;simp only[RS,KH,SD,Pk];constructor
 ·rintro⟨a,ha,k,hk,rfl,rfl⟩;lia
 ·intro h;exact⟨i,by lia,j,by lia,rfl,rfl⟩
def gp(ps:List Dt)(i:Nat):Dt:=ps.getD i (0,0,0,0)
def oZ{ps:List Dt}{i:Nat}(h:i<ps.length):ps[i]?=some (gp ps i):=by unfold gp;simp[h]
def jC{ps:List Dt}{i:Nat}(h:i<ps.length):gp ps i∈ps:=NS (oZ h)
def tK{ps:List Dt}{i:Nat}(h:i<ps.length){Q:D->Prop}(q:Q (Kh (gp ps i))):∃d,Me (ps.map Kh) (i:Int)=some d/\Q d:=by refine⟨_,?_,q⟩;unfold Me ixN;rw[J6,JU (by lia),JU (by lia)];simp[oZ h]
def inc(a b:Int)(p:Dt):Bool:=decide (p.2.2.1=a) || decide (p.2.2.1=b)
def kp(p:Dt):List Key:=[.inl p.1,.inl p.2.1]
def GU(a b c d:Int):eqD (.tup [.int a,.int b]) (.tup [.int c,.int d])=decide (a=c/\b=d):=by rw[xg,k6,k6,uK,me,me];by_cases h:a=c<;>by_cases h':b=d<;>simp[h,h']
def u9(a b:Int):MP 1 (.tup [.int a,.int b]):=MP.tup (.cons (.int _ _) (.cons (.int _ _) (.nil _)))
def Ht(p q:Dt):(!eqD (.tup [.int p.1,.int p.2.1]) (.tup [.int q.1,.int q.2.1]))=decide (LL p≠LL q):=by rw[GU];unfold LL;by_cases h:p.1=q.1<;>by_cases h':p.2.1=q.2.1<;>simp[h,h']
def hv(p:Dt):Dt:=(p.1,p.2.1,p.2.2.1,9*p.2.2.2)
def qf(f h:Dt->Int)(a b:Int)(ps:List Dt):Int:=wq (fun z=>decide (sg (f z)=a) && decide (sg (h z)=b)) ps
def Tj(ps:List Dt):List (Nat×Nat):=(RO ps.length).filter fun ij=>decide (LL (gp ps ij.1)≠LL (gp ps ij.2))
def jG{ij:Nat×Nat}:ij∈Tj ps↔ij.1<ij.2/\ij.2<ps.length/\LL (gp ps ij.1)≠LL (gp ps ij.2):=by
 unfold Tj;rw[Pc,decide_eq_true_eq];have:=xt (n:=ps.length) (i:=ij.1) (j:=ij.2);constructor
 ·rintro⟨a,b⟩;exact⟨(this.mp a).1,(this.mp a).2,b⟩
 ·rintro⟨a,b,c⟩;exact⟨this.mpr ⟨a,b⟩,c⟩
def G7(g1 g2 g3:DG)(a b c:D)(ρ:Ro)(Q:Ro->Prop):mj 3 (cA g1 (cA g2 (cA g3 mi))) (.tup [a,b,c]) ρ Q=g1 a ρ fun Nn=>g2 b Nn fun Ml=>g3 c Ml Q:=by rw[yu 3 _ _ rfl];simp only[Zo,Zp]
def Hy(ij:Nat×Nat):MP 1 (N7 ij):=u9 _ _
def ld(c1 c2:Int):Int:=if c1=0 then c2 else c1
def yV(x y z:Int):Tr:=(x.fdiv (PM.Lm x y z (ld y z)),y.fdiv (PM.Lm x y z (ld y z)),z.fdiv (PM.Lm x y z (ld y z)))
def QM(p q:Dt):Tr:=yV (p.1*q.2.1 - q.1*p.2.1) (p.2.1*1 - q.2.1*1) (1*q.1 - 1*p.1)
structure NF(g:Tr):Prop where
 sgn:0<g.2.1∨(g.2.1=0/\0<g.2.2)
 one:PM.g3 g.1 g.2.1 g.2.2=1
structure LF(g:Tr)(p q:Dt):Prop where
 b0:Bd 1000 g.1
 b1:Bd 1000 g.2.1
 b2:Bd 1000 g.2.2
 nf:NF g
 ex:∃m:Int,m≠0/\∀z,gv g.1 g.2.1 g.2.2 z*m=tq p q z
def ID(g:Int):Int.fdiv 0 g=0:=by simp
def tN(hp:GD p)(hq:GD q)(ne:LL p≠LL q):LF (QM p q) p q:=by
 have hz:¬(p.2.1*1 - q.2.1*1=0/\1*q.1 - 1*p.1=0):=fun K1=>(by obtain⟨e1,e2⟩:=K1;exact ne (by unfold LL;rw[Pk];lia))
 have one:Bd 200 1:=Bd.mono (m:=2) (by unfold Bd;decide) (by decide);have B0:=eF (hp.x.mono (show 60<=200 by decide)) (hq.y.mono (show 60<=200 by decide)) (hq.x.mono (show 60<=200 by decide)) (hp.y.mono (show 60<=200 by decide));have B1:=eF (hp.y.mono (show 60<=200 by decide)) one (hq.y.mono (show 60<=200 by decide)) one;have B2:=eF one (hq.x.mono (show 60<=200 by decide)) one (hp.x.mono (show 60<=200 by decide));have hex:∀z:Dt,(p.1*q.2.1 - q.1*p.2.1)+(p.2.1*1 - q.2.1*1)*z.1+(1*q.1 - 1*p.1)*z.2.1=tq p q z:=fun z=>by unfold tq;grind
 unfold QM yV;generalize p.1*q.2.1 - q.1*p.2.1=x at *;generalize p.2.1*1 - q.2.1*1=y at *;generalize 1*q.1 - 1*p.1=w at *;have Oi:¬(x=0/\y=0/\w=0):=fun z=>hz z.2
 have dn:∀l,PM.Lm x y w l≠0:=fun l=>PM.oR Oi
 refine⟨lV (dn _) (PM.l9 (PM.jY _ _ _)) B0,lV (dn _) (PM.l9 (PM.jZ _ _ _)) B1,lV (dn _) (PM.l9 (PM.j0 _ _ _)) B2,⟨?_,PM.A0 Oi⟩,PM.Lm x y w (ld y w),dn _,fun z=>?_⟩
 ·by_cases hy:y=0
  ·have hzz:w≠0:=fun e=>hz ⟨hy,e⟩
   right
   unfold ld;rw[JU hy];exact⟨by show y.fdiv _=0;rw[hy];exact ID _,PM.qZ hzz (PM.j0 _ _ _) Oi⟩
  ·left
   unfold ld;rw[JT hy];exact PM.qZ hy (PM.jZ _ _ _) Oi
 ·have e1:=PM.bT (l:=ld y w) (PM.jY x y w);have e2:=PM.bT (l:=ld y w) (PM.jZ x y w);have e3:=PM.bT (l:=ld y w) (PM.j0 x y w);rw[<- hex z];unfold gv;dsimp only;rw[Int.add_mul,Int.add_mul,e1,Int.mul_right_comm,e2,Int.mul_right_comm,e3]
def B9(k x y z:Int):PM.g3 (k*x) (k*y) (k*z)=k.natAbs*PM.g3 x y z:=by unfold PM.g3;rw[VL];have e:((k.natAbs*Int.gcd x y:Nat):Int)=(k.natAbs:Int)*(Int.gcd x y:Int):=Int.natCast_mul _ _;rw[e];unfold Int.gcd;simp only[VQ,Int.natAbs_natCast];exact Nat.gcd_mul_left _ _ _
structure Mp where
 (a b c d e f:Int)
def qO(ps:List Dt):yau:=(Tj ps).map fun ij=>QM (gp ps ij.1) (gp ps ij.2)
def wl(ps:List Dt)(g:Tr)(s:Int):Int:=wt (fun _=>true) g.1 g.2.1 g.2.2 s ps
def qL(p q:Tr):Prop:=p.1<q.1∨(p.1=q.1/\(p.2.1<q.2.1∨(p.2.1=q.2.1/\p.2.2<q.2.2)))
def bJ(ys ls:yau):Prop:=ys.Pairwise qL/\∀g,g∈ys↔g∈ls
def bJ.nd(h:bJ ys ls):ys.Nodup:=h.1.imp fun {p q} r e=>by subst e;unfold qL at r;lia
theorem xu:∀{ys ps:yau},ys.Nodup->(∀p∈ys,p∈ps)->ys.length<=ps.length
 |[],_,_,_=>Mx _
 |y::ys,ps,nd,h=>by
  obtain⟨n1,n2⟩:=QS.mp nd;have m:=h y MC;have r:=xu (ps:=ps.erase y) n2 fun p hp=>(List.mem_erase_of_ne (fun e=>by subst e;exact n1 hp)).mpr (h p (K0 _ hp))
  rw[List.length_erase_of_mem m]at r;have:0<ps.length:=List.length_pos_of_mem m;rw[Oc]
  lia
def Qr(g:Tr):yaf:=[g.1,g.2.1,g.2.2]
def D0(ls:yau):(ls.map Qr).map PD.tupI=ls.map Kg:=by rw[MX];rfl
def okP(o:Option (Nat×Nat)):MP 1 (prO o):=by
 cases o with
 |none=>exact MP.Kt 1
 |some ij=>exact Hy ij
def vA(ps:List Dt)(g:Tr):D:=.tup [Kg g,.int (wl ps g (-1)),.int (wl ps g 0),.int (wl ps g 1)]
def EU(e:SW.lexLt (Qr g) (Qr h)=true):qL g h:=by
 unfold Qr SW.lexLt at e;unfold qL;split at e
 ·rename_i e1;unfold SW.lexLt at e;split at e
  ·rename_i e2;unfold SW.lexLt at e;split at e
   ·cases e
   ·exact .inr ⟨e1,.inr ⟨e2,by simpa using e⟩⟩
  ·exact .inr ⟨e1,.inl (by simpa using e)⟩
 ·exact .inl (by simpa using e)
def xI(e:Qr g=Qr h):g=h:=by unfold Qr at e;simp only[OW,and_true]at e;exact ME e.1 (ME e.2.1 e.2.2)
theorem AG:∀{zs:List (yaf)},(∀z∈zs,∃g:Tr,z=Qr g)->∃ys:yau,zs=ys.map Qr
 |[],_=>⟨[],rfl⟩
 |z::zs,h=>by
  obtain⟨g,e⟩:=h z MC;obtain⟨ys,e2⟩:=AG fun z hz=>h z (K0 _ hz)
  exact⟨g::ys,by rw[e,e2];rfl⟩
def AZ{ls:yau}(h:PD.t4 zs (ls.map Qr)):∃ys:yau,zs=ys.map Qr/\bJ ys ls:=by
 obtain⟨h1,h2⟩:=h;obtain⟨ys,rfl⟩:=AG fun z hz=>by obtain⟨p,_,e⟩:=KH.mp ((h2 z).mp hz);exact⟨p,e.symm⟩
 refine⟨ys,rfl,(VH.mp h1).imp fun {p q} e=>EU e,fun g=>?_⟩;have:=h2 (Qr g);constructor
 ·intro hg;obtain⟨x,hx,e⟩:=KH.mp (this.mp (KH.mpr ⟨g,hg,rfl⟩));rw[<- xI e];exact hx
 ·intro hg;obtain⟨x,hx,e⟩:=KH.mp (this.mpr (KH.mpr ⟨g,hg,rfl⟩));rw[<- xI e];exact hx
def iY(h:bJ ys ls):ys.length<=ls.length:=by have nd:=h.nd;exact xu nd fun g hg=>(h.2 g).mp hg
def xo(ps:List Dt):(qO ps).length<=ps.length*ps.length:=by unfold qO Tj;rw[J6];refine LZ (XR _ _) ?_;have e:=mz ps.length 2;rw[Cp,J6]at e;rw[Nat.pow_two]at e;exact e
abbrev Wy:=Int×Int
def Ji(a b:Wy):tn a (K8 b)=- tn a b:=by unfold tn K8;grind
def iS(a b:Wy):tn (K8 a) b=- tn a b:=by unfold tn K8;grind
def Bj(a b c:Wy):tn (a.1+b.1,a.2+b.2) c=tn a c+tn b c:=by unfold tn;grind
def xG(w p n o:Wy):tn w n*tn p o=tn w p*tn n o+tn w o*tn p n:=by unfold tn;grind
def DZ{w:Wy}(h:w≠(0,0)):0<tn w (K4 w):=by
 unfold tn K4;obtain⟨a,b⟩:=w;dsimp only;have e:a*a - -b*b=a*a+b*b:=by grind
 rw[e];have h1:=Tg a;have h2:=Tg b;by_cases ha:a=0
 ·by_cases hb:b=0
  ·subst ha hb;exact absurd rfl h
  ·have:b*b≠0:=SF hb hb;omega
 ·have:a*a≠0:=SF ha ha;omega
def iH(w n o:Wy):Wy:=if 0<tn w o/\0<tn o n then o else n
def Ru(w:Wy)(ws:List Wy):Wy:=ws.foldl (iH w) (K4 w)
theorem DN:∀(ws done:List Wy) (n:Wy),0<tn w n->(∀o∈done,0<tn w o->tn o n<=0)->0<tn w (ws.foldl (iH w) n)/\∀o∈done++ws,0<tn w o->tn o (ws.foldl (iH w) n)<=0
 |[],done,n,h1,h2=>⟨h1,fun o ho=>h2 o (by rw[Pa]at ho;exact ho)⟩
 |o::ws,done,n,h1,h2=>by
  have key:0<tn w (iH w n o)/\∀p∈done++[o],0<tn w p->tn p (iH w n o)<=0:=by
   unfold iH;by_cases c:0<tn w o/\0<tn o n
   ·rw[JU c];refine⟨c.1,fun p hp hw=>?_⟩;rcases KR.mp hp with hp|hp
    ·have a1:=h2 p hp hw;have a2:=xG w p n o;have a3:tn n o<0:=by have:=bM n o;lia
     have a4:tn w p*tn n o<0:=P6 hw a3;have a5:tn w o*tn p n<=0:=XH (K7 c.1) a1;by_cases z:tn p o<=0
     ·exact z
     ·have:=Og h1 (show 0<tn p o by lia)
      lia
    ·rw[LQ]at hp;subst hp;rw[jO];exact Mf _
   ·rw[JT c];refine⟨h1,fun p hp hw=>?_⟩;rcases KR.mp hp with hp|hp
    ·exact h2 p hp hw
    ·rw[LQ]at hp;subst hp;by_cases z:tn p n<=0
     ·exact z
     ·exact absurd ⟨hw,by lia⟩ c
  have:=DN ws (done++[o]) (iH w n o) key.1 key.2;rw[Nt]at this;exact this
def yE{w:Wy}(h:w≠(0,0)):0<tn w (Ru w ws)/\∀o∈ws,0<tn w o->tn o (Ru w ws)<=0:=by exact DN ws [] (K4 w) (DZ h) (by simp)
def Pe(w:Wy)(ws:List Wy):Wy:=(w.1+(Ru w ws).1,w.2+(Ru w ws).2)
def KC(h:Tr)(p:Dt):Wy:=(h.1*p.1 - h.2.1,h.1*p.2.1 - h.2.2)
def PY(h:Tr)(ps:List Dt):List Wy:=(ps.map (KC h)).filter fun w=>decide (w≠(0,0))
def LP(h:Tr)(ps:List Dt):List Wy:=PY h ps++(PY h ps).map K8
def qe{w:Wy}(hw:w∈PY h ps):w≠(0,0):=by have:=(Pc.mp hw).2;exact Nd this
def F9{w:Wy}(h:w≠(0,0)):K8 w≠(0,0):=fun e=>h (by
 unfold K8 at e;obtain⟨a,b⟩:=w;simp only[Pk]at e ⊢
 lia)
def fC{w:Wy}(hw:w∈LP h ps):w≠(0,0):=by
 rcases KR.mp hw with z|z
 ·exact qe z
 ·obtain⟨v,hv,rfl⟩:=KH.mp z;exact F9 (qe hv)
def F8(w:Wy):K8 (K8 w)=w:=by unfold K8;obtain⟨a,b⟩:=w;simp
def qi{ps:List Dt}{p:Dt}(hp:p∈ps)(hw:KC h p≠(0,0)):KC h p∈LP h ps/\K8 (KC h p)∈LP h ps:=by have:KC h p∈PY h ps:=Pc.mpr ⟨KH.mpr ⟨p,hp,rfl⟩,Mb hw⟩;exact⟨Ob _ this,MO _ (KH.mpr ⟨_,this,rfl⟩)⟩
def Ez{w:Wy}{p:Dt}(hw:w∈LP h ps)(hp:p∈ps)(hf:0<=tn (Pe w (LP h ps)) (KC h p)):0<=tn w (KC h p):=by
 obtain⟨n1,n2⟩:=yE (ws:=LP h ps) (fC hw);unfold Pe at hf;rw[Bj]at hf;by_cases z:0<=tn w (KC h p)
 ·exact z
 ·exfalso;have ne:KC h p≠(0,0):=fun e=>by rw[e]at z;unfold tn at z;simp at z
  have b1:=(qi hp ne).2;have b2:=n2 _ b1 (by rw[Ji];lia);rw[iS]at b2;have:=bM (Ru w (LP h ps)) (KC h p)
  lia
def Oo(g:Tr)(ps:List Dt):Int:=(ps.map fun p=>if 0<=gv g.1 g.2.1 g.2.2 p then p.2.2.2 else 0).sum
def P4(h:Tr)(f:Wy):Tr:=(-((K4 f).1*h.2.1+(K4 f).2*h.2.2),(K4 f).1*h.1,(K4 f).2*h.1)
def IF(h:Tr)(f:Wy)(p:Dt):gv (P4 h f).1 (P4 h f).2.1 (P4 h f).2.2 p=tn f (KC h p):=by unfold gv P4 K4 tn KC;dsimp only;grind
def Jb{ps:List Dt} [DecidablePred P] [DecidablePred Q]:(∀p∈ps,0<=p.2.2.2)->(∀p∈ps,P p->Q p)->(ps.map fun p=>if P p then p.2.2.2 else 0).sum<=(ps.map fun p=>if Q p then p.2.2.2 else 0).sum:=by
 induction ps with
 |nil=>intro _ _;simp
 |cons p ps ih =>
  intro h1 h2;rw[K5,K5,QT,QT];have i:=ih (fun q hq=>h1 q (by simp[hq])) fun q hq=>h2 q (by simp[hq])
  have a:=h1 p (by simp);have b:=h2 p (by simp);by_cases c:P p
  ·rw[JU c,JU (b c)];lia
  ·rw[JT c];split<;>lia
def IsL(h:Tr)(ps:List Dt)(g:Tr):Prop:=(LP h ps=[]/\g=(-(1*h.2.1+0*h.2.2),1*h.1,0*h.1)) ∨
 ∃ (i:Nat) (w:Wy),(LP h ps)[i]?=some w/\g=P4 h (Pe w (LP h ps))/\∀(j:Nat) (v:Wy),(LP h ps)[j]?=some v->Oo g ps<=Oo (P4 h (Pe v (LP h ps))) ps/\(j<i->Oo g ps<Oo (P4 h (Pe v (LP h ps))) ps)
def IsL.on(a:IsL h ps g):g.1*h.1+g.2.1*h.2.1+g.2.2*h.2.2=0:=by
 rcases a with⟨_,rfl⟩| ⟨i,w,_,rfl,_⟩
 ·dsimp only;grind
 ·unfold P4;dsimp only;grind
def IsL.ne{h:Tr}(hh:0<h.1)(a:IsL h ps g):¬(g.2.1=0/\g.2.2=0):=by
 rcases a with⟨_,rfl⟩| ⟨i,w,a1,rfl,_⟩
 ·dsimp only
  lia
 ·intro ⟨z1,z2⟩;have hw:=NS a1;obtain⟨n1,_⟩:=yE (ws:=LP h ps) (fC hw);unfold P4 K4 at z1 z2;dsimp only at z1 z2;have y1:(Pe w (LP h ps)).2=0:=by
   rcases Ox.mp z1 with z|z
   ·lia
   ·lia
  have y2:(Pe w (LP h ps)).1=0:=by
   rcases Ox.mp z2 with z|z
   ·exact z
   ·lia
  unfold Pe at y1 y2;dsimp only at y1 y2;have e:tn w (Ru w (LP h ps))=tn w (w.1+(Ru w (LP h ps)).1,w.2+(Ru w (LP h ps)).2):=by unfold tn;grind
  rw[e,y1,y2]at n1;unfold tn at n1;simp at n1
structure HB(h:Tr):Prop where
 pos:0<h.1
 a:Bd 130 h.1
 b:Bd 130 h.2.1
 c:Bd 130 h.2.2
structure Yw(w:Wy):Prop where
 a:Bd 191 w.1
 b:Bd 191 w.2
def UA(hx:Bd m x)(hy:Bd n y)(hm:m<=100000:=by decide)(hn:n<=100000:=by decide):CM x y:=.inr (.inr ⟨hx.mono hm,hy.mono hn⟩)
def Yw.ar(H:HB h)(G:GD p):Yw (KC h p):=⟨(H.a.mul G.x).sub (H.b.mono (by decide)),(H.a.mul G.y).sub (H.c.mono (by decide))⟩
def Bk(w n a:Wy):tn n a*JW w w=tn n w*JW w a+JW n w*tn w a:=by unfold tn JW;grind
def gB{w:Wy}(hw:w≠(0,0))(h:tn w a=0):(0<JW w a->0<tn w n->tn n a<0)/\(JW w a<0->0<tn w n->0<tn n a)/\(0<JW w a->tn w n<0->0<tn n a)/\(JW w a<0->tn w n<0->tn n a<0):=by
 have e:=Bk w n a;rw[h,Qe,Of]at e;have p:=fE hw;have q:=bM n w;refine⟨fun h1 h2=>?_,fun h1 h2=>?_,fun h1 h2=>?_,fun h1 h2=>?_⟩
 ·have:=Pf (show tn n w<0 by lia) h1;by_cases z:tn n a<0
  ·exact z
  ·have:=Lq (show 0<=tn n a by lia) (K7 p);lia
 ·have:=Sw (show tn n w<0 by lia) h1;by_cases z:0<tn n a
  ·exact z
  ·have:=Su (show tn n a<=0 by lia) (K7 p);lia
 ·have:=Og (show 0<tn n w by lia) h1;by_cases z:0<tn n a
  ·exact z
  ·have:=Su (show tn n a<=0 by lia) (K7 p);lia
 ·have:=P6 (show 0<tn n w by lia) h1;by_cases z:tn n a<0
  ·exact z
  ·have:=Lq (show 0<=tn n a by lia) (K7 p);lia
def vi{w a:Wy}(hw:w≠(0,0))(ha:a≠(0,0))(h:tn w a=0):JW w a≠0:=fun z=>by
 have e:=Bk w (K4 a) a;rw[h,z,Qe,Qe,Of]at e;have p:=fE hw;have q:=DZ ha;have r:=bM (K4 a) a;rcases Ox.mp e with y|y<;>lia
def aL(v a:Wy):Prop:=0<tn v a
def aR(v a:Wy):Prop:=tn v a<0
def aB(v a:Wy):Prop:=tn v a=0/\JW v a<0
def aA(v a:Wy):Prop:=tn v a=0/\¬JW v a<0/\a≠(0,0)
instance (v a:Wy):Decidable (aL v a):=inferInstanceAs (Decidable (0<tn v a))
instance (v a:Wy):Decidable (aR v a):=inferInstanceAs (Decidable (tn v a<0))
instance (v a:Wy):Decidable (aB v a):=inferInstanceAs (Decidable (tn v a=0/\JW v a<0))
instance (v a:Wy):Decidable (aA v a):=inferInstanceAs (Decidable (tn v a=0/\¬JW v a<0/\a≠(0,0)))
def G0{w:Wy}{p:Dt}(hw:w∈LP h ps)(hp:p∈ps):0<=tn (Pe w (LP h ps)) (KC h p)↔KC h p=(0,0)∨aL w (KC h p)∨aB w (KC h p):=by
 obtain⟨n1,n2⟩:=yE (ws:=LP h ps) (fC hw);have hl:=Ez hw hp;by_cases z:KC h p=(0,0)
 ·rw[z];constructor
  ·intro _;exact .inl rfl
  ·intro _;unfold tn;simp
 ·have mem:=(qi hp z).1;unfold Pe at hl ⊢;rw[Bj]at hl ⊢;have an:=bM (Ru w (LP h ps)) (KC h p);constructor
  ·intro q;have q2:=hl q;by_cases y:0<tn w (KC h p)
   ·exact .inr (.inl y)
   ·have y0:tn w (KC h p)=0:=by lia
    have ps:=gB (n:=Ru w (LP h ps)) (fC hw) y0;have nz:=vi (fC hw) z y0;refine .inr (.inr ⟨y0,?_⟩);by_cases x:JW w (KC h p)<0
    ·exact x
    ·have:=ps.1 (by lia) n1;lia
  ·rintro(y|y|⟨y1,y2⟩)
   ·exact absurd y z
   ·have y':0<tn w (KC h p):=y;have:=n2 _ mem y'
    lia
   ·have:=(gB (n:=Ru w (LP h ps)) (fC hw) y1).2.1 y2 n1
    lia
def sm(P:Wy->Prop) [DecidablePred P] (h:Tr)(ps:List Dt):Int:=(ps.map fun p=>if P (KC h p)then p.2.2.2 else 0).sum
def tQ [DecidablePred P] [DecidablePred Q] {ps:List Dt} (hp:∀p∈ps,0<=p.2.2.2) (hq:∀p∈ps,P (KC h p)->Q (KC h p)):sm P h ps<=sm Q h ps:=Jb hp hq
def iN [DecidablePred P] [DecidablePred Q] {ps:List Dt} (hq:∀p∈ps,P (KC h p)↔Q (KC h p)):sm P h ps=sm Q h ps:=by
 unfold sm;congr 1;apply Tv;intro p hp;by_cases c:P (KC h p)
 ·rw[JU c,JU ((hq p hp).mp c)]
 ·rw[JT c,JT fun z=>c ((hq p hp).mpr z)]
def tR [DecidablePred P] [DecidablePred Q] [DecidablePred R] {ps:List Dt} (e:∀p∈ps,R (KC h p)↔P (KC h p)∨Q (KC h p)) (d:∀p∈ps,¬(P (KC h p)/\Q (KC h p))):sm R h ps=sm P h ps+sm Q h ps:=by
 induction ps with
 |nil=>rfl
 |cons p ps ih =>
  have:=ih (fun q hq=>e q (by simp[hq])) fun q hq=>d q (by simp[hq])
  unfold sm at this ⊢;rw[K5,K5,K5,QT,QT,QT,this];have e':=e p (by simp);have d':=d p (by simp);by_cases c1:P (KC h p)
  ·have c2:¬Q (KC h p):=fun z=>d' ⟨c1,z⟩
   rw[JU c1,JT c2,JU (e'.mpr (.inl c1))];lia
  ·by_cases c2:Q (KC h p)
   ·rw[JT c1,JU c2,JU (e'.mpr (.inr c2))];lia
   ·rw[JT c1,JT c2,JT fun z=>(e'.mp z).elim c1 c2];lia
def aZ(a:Wy):Prop:=a=(0,0)
instance (a:Wy):Decidable (aZ a):=inferInstanceAs (Decidable (a=(0,0)))
def tJ(h:aL v a):a≠(0,0):=fun z=>by subst z;unfold aL tn at h;simp at h
def oz(h:aB v a):a≠(0,0):=fun z=>by subst z;have:=h.2;unfold JW at this;simp at this
def k8{w:Wy}(hw:w∈LP h ps):Oo (P4 h (Pe w (LP h ps))) ps=sm aZ h ps+(sm (aL w) h ps+sm (aB w) h ps):=by
 have e1:Oo (P4 h (Pe w (LP h ps))) ps=sm (fun a=>0<=tn (Pe w (LP h ps)) a) h ps:=by unfold Oo sm;congr 1;apply Tv;intro p _;rw[IF]
 have e2:sm (fun a=>aL w a∨aB w a) h ps=sm (aL w) h ps+sm (aB w) h ps:=tR (fun _ _=>Iff.rfl) fun p _ ⟨z1,z2⟩=>by
  have:=z2.1;have:0<tn w (KC h p):=z1
  lia
 rw[e1,<- e2];refine tR (fun p hp=>G0 hw hp) fun p _ J5=>?_
 obtain⟨z1,z2⟩:=J5;rcases z2 with z2|z2
 ·exact tJ z2 z1
 ·exact oz z2 z1
theorem pL(w:Wy):∀ws:List Wy,(∃o∈ws,tn w o<0)->∃n∈ws,tn w n<0/\∀o∈ws,tn w o<0->tn n o<=0
 |[],h=>by obtain⟨o,ho,_⟩:=h;simp at ho
 |o::ws,h=>by
  by_cases t:∃q∈ws,tn w q<0
  ·obtain⟨n,n1,n2,n3⟩:=pL w ws t;by_cases c:tn w o<0/\0<tn n o
   ·refine⟨o,by simp,c.1,fun p hp hw=>?_⟩;rcases Kr.mp hp with z|z
    ·subst z;rw[jO];exact Mf _
    ·have a1:=n3 p z hw;have a2:=xG w o n p;have a3:tn o n<0:=by have:=bM o n;lia
     have a4:0<=tn w o*tn n p:=UG (by lia) a1;have a5:0<tn w p*tn o n:=Sw hw a3;by_cases y:tn o p<=0
     ·exact y
     ·have:=Pf n2 (show 0<tn o p by lia)
      lia
   ·refine⟨n,by simp[n1],n2,fun p hp hw=>?_⟩;rcases Kr.mp hp with z|z
    ·subst z;by_cases y:tn n p<=0
     ·exact y
     ·exact absurd ⟨hw,by lia⟩ c
    ·exact n3 p z hw
  ·obtain⟨q,hq,hw⟩:=h;rcases Kr.mp hq with z|z
   ·subst z;refine⟨q,by simp,hw,fun p hp Sn=>?_⟩;rcases Kr.mp hp with y|y
    ·subst y;rw[jO];exact Mf _
    ·exact absurd ⟨p,y,Sn⟩ t
   ·exact absurd ⟨q,z,hw⟩ t
def yb{w:Wy}(hw:w∈LP h ps):K8 w∈LP h ps:=by
 rcases KR.mp hw with z|z
 ·exact MO _ (KH.mpr ⟨w,z,rfl⟩)
 ·obtain⟨v,hv,rfl⟩:=KH.mp z;rw[F8];exact Ob _ hv
def oQ(a b:Wy):JW (K8 a) b=- JW a b:=by unfold JW K8;grind
def mR{ps:List Dt}{w:Wy}(hp:∀p∈ps,0<=p.2.2.2)(hw:w∈LP h ps):∃v∈LP h ps,Oo (P4 h (Pe v (LP h ps))) ps<=sm aZ h ps+(sm (aL w) h ps+sm (aA w) h ps):=by
 have wn:=fC hw;have eA:sm (fun a=>aL w a∨aA w a) h ps=sm (aL w) h ps+sm (aA w) h ps:=tR (fun _ _=>Iff.rfl) fun p _ ⟨z1,z2⟩=>by
  have:=z2.1;have:0<tn w (KC h p):=z1
  lia
 by_cases t:∃o∈LP h ps,tn w o<0
 ·obtain⟨n,n1,n2,n3⟩:=pL w _ t;refine⟨n,n1,?_⟩;have nn:=fC n1;rw[k8 n1,<- eA];have e2:sm (fun a=>aL n a∨aB n a) h ps=sm (aL n) h ps+sm (aB n) h ps:=tR (fun _ _=>Iff.rfl) fun p _ ⟨z1,z2⟩=>by
   have:=z2.1;have:0<tn n (KC h p):=z1
   lia
  rw[<- e2];refine Int.add_le_add_left (tQ hp fun p hm q=>?_) _;have anz:KC h p≠(0,0):=q.elim tJ oz;have mem:=(qi hm anz).1;by_cases c1:0<tn w (KC h p)
  ·exact .inl c1
  ·by_cases c2:tn w (KC h p)<0
   ·exfalso;have a1:=n3 _ mem c2;rcases q with q|⟨q1,q2⟩
    ·have:0<tn n (KC h p):=q;lia
    ·-- Xx to n and Yx it,yet on the same side of w
     have:=(gB (n:=w) nn q1).2.2.2;have k:=bM n w;have:=(gB (n:=w) nn q1).2.1 q2 (by lia)
     lia
   ·have c0:tn w (KC h p)=0:=by lia
    refine .inr ⟨c0,fun z=>?_,anz⟩;have:=(gB (n:=n) wn c0).2.2.2 z n2;rcases q with q|⟨q1,_⟩
    ·have:0<tn n (KC h p):=q;lia
    ·lia
 ·refine⟨K8 w,yb hw,?_⟩;rw[k8 (yb hw)];have z1:sm (aL (K8 w)) h ps<=sm (aL w) h ps:=tQ hp fun p hm q=>by
   exfalso;have q':0<tn (K8 w) (KC h p):=q;rw[iS]at q';exact t ⟨_,(qi hm (tJ q)).1,by lia⟩
  have z2:sm (aB (K8 w)) h ps<=sm (aA w) h ps:=tQ hp fun p hm q=>by obtain⟨q1,q2⟩:=id q;rw[iS]at q1;rw[oQ]at q2;exact⟨by lia,by lia,oz q⟩
  lia
def Rv(h:Tr)(ps:List Dt)(v:Wy):Int:=min (sm (aA v) h ps) (sm (aB v) h ps)+min (sm (aL v) h ps) (sm (aR v) h ps)
def Ir(h:aA v a):a≠(0,0):=h.2.2
def Iu(h:aR v a):a≠(0,0):=fun z=>by subst z;unfold aR tn at h;simp at h
def BL(v a:Wy):aL (K8 v) a↔aR v a:=by unfold aL aR;rw[iS];lia
def Ga{v:Wy}(hv:v≠(0,0)):aB (K8 v) a↔aA v a:=by
 constructor
 ·intro q;have nz:=oz q;obtain⟨q1,q2⟩:=q;rw[iS]at q1;rw[oQ]at q2;exact⟨by lia,by lia,nz⟩
 ·rintro⟨q1,q2,q3⟩;have:=vi hv q3 q1;exact⟨by rw[iS];lia,by rw[oQ];lia⟩
def Jv{v:Wy}(hv:v≠(0,0))(q:aA (K8 v) a):aB v a:=by
 obtain⟨q1,q2,q3⟩:=q;rw[iS]at q1;rw[oQ]at q2;have e:tn v a=0:=by lia
 have:=vi hv q3 e;exact⟨e,by lia⟩
def IsL.le{ps:List Dt}(hp:∀p∈ps,0<=p.2.2.2)(a:IsL h ps g){v:Wy}(hv:v∈LP h ps):Oo g ps<=Oo (P4 h (Pe v (LP h ps))) ps:=by
 rcases a with⟨z,_⟩| ⟨i,w,a1,a2,a3⟩
 ·rw[z]at hv;simp at hv
 ·obtain⟨j,hj,ej⟩:=QQ hv;exact(a3 j v (by rw[LH hj,ej])).1
def IsL.lt_{ps:List Dt}(hp:∀p∈ps,0<=p.2.2.2)(a:IsL h ps g){v:Wy}(hv:v∈PY h ps):Oo g ps<=sm aZ h ps+Rv h ps v:=by
 have Xy:v∈LP h ps:=Ob _ hv;have hv2:=yb Xy;have vn:=fC Xy;have c1:=a.le hp Xy;rw[k8 Xy]at c1;have c2:=a.le hp hv2;rw[k8 hv2,iN (P:=aL (K8 v)) (Q:=aR v) (fun p _=>BL v _),iN (P:=aB (K8 v)) (Q:=aA v) (fun p _=>Ga vn)]at c2;obtain⟨u,hu,c3⟩:=mR hp Xy;have c3':=Int.le_trans (a.le hp hu) c3;obtain⟨t,ht,c4⟩:=mR hp hv2;have c4':=Int.le_trans (a.le hp ht) c4;rw[iN (P:=aL (K8 v)) (Q:=aR v) (fun p _=>BL v _)]at c4';have c5:sm (aA (K8 v)) h ps<=sm (aB v) h ps:=tQ hp fun p _ q=>Jv vn q
 unfold Rv
 lia
def IsL.eq_{ps:List Dt}(hp:∀p∈ps,0<=p.2.2.2)(a:IsL h ps g)(hn:PY h ps ≠ []):∃v∈PY h ps,Oo g ps=sm aZ h ps+Rv h ps v:=by
 have a':=a;rcases a with⟨z,_⟩| ⟨i,w,a1,a2,a3⟩
 ·exfalso;unfold LP at z;exact hn (List.append_eq_nil_iff.mp z).1
 ·have hw:=NS a1;have e:=k8 hw;rw[<- a2]at e;rcases KR.mp hw with z|z
  ·refine⟨w,z,?_⟩;have:=a'.lt_ hp z;unfold Rv at this ⊢
   lia
  ·obtain⟨v,hv,rfl⟩:=KH.mp z;refine⟨v,hv,?_⟩;have:=a'.lt_ hp hv;rw[iN (P:=aL (K8 v)) (Q:=aR v) (fun p _=>BL v _),iN (P:=aB (K8 v)) (Q:=aA v) (fun p _=>Ga (qe hv))]at e;unfold Rv at this ⊢
   lia
def IsL.none_(a:IsL h ps g)(hn:PY h ps=[]):Oo g ps=sm aZ h ps:=by
 have z0:∀p∈ps,KC h p=(0,0):=fun p hp=>by
  by_cases z:KC h p=(0,0)
  ·exact z
  ·have:KC h p∈PY h ps:=Pc.mpr ⟨KH.mpr ⟨p,hp,rfl⟩,Mb z⟩;rw[hn]at this;simp at this
 rcases a with⟨_,rfl⟩| ⟨i,w,a1,_⟩
 ·unfold Oo sm;congr 1;apply Tv;intro p hp;have e:=z0 p hp;rw[JU (show aZ (KC h p)from e),JU];unfold KC at e;simp only[Pk]at e;unfold gv;dsimp only;have e1:1*h.1*p.1=h.1*p.1:=by grind
  have e2:0*h.1*p.2.1=0:=by grind
  lia
 ·exfalso;unfold LP at a1;rw[hn]at a1;simp at a1
def iy(P:Wy->Prop) [DecidablePred P] (h:Tr)(ps:List Dt)(p:Dt):sm P h (ps++[p])=sm P h ps+if P (KC h p)then p.2.2.2 else 0:=by unfold sm;rw[Na,List.sum_append];simp
def N8(h:Tr)(ps:List Dt):List Dt:=ps.filter fun p=>decide (KC h p≠(0,0))
theorem pX [DecidablePred P] (hP:∀a,P a->a≠(0,0)) (h:Tr):∀ps:List Dt,sm P h (N8 h ps)=sm P h ps
 |[]=>rfl
 |p::ps=>by
  have ih:=pX hP h ps;unfold sm N8 at ih ⊢;by_cases z:KC h p=(0,0)
  ·rw[Vx (by simp[z]),ih,K5,QT,JT fun q=>hP _ q z]
   lia
  ·rw[Vy (by simp[z]),K5,K5,QT,QT,ih]
def yF(h:Tr)(ps:List Dt):(N8 h ps).map (KC h)=PY h ps:=by unfold N8 PY;rw[List.filter_map];rfl
def BX{ps:List Dt}{m:Int}(hp:∀p∈ps,0<=p.2.2.2)(a:IsL h ps g)(h1:∃v∈PY h ps,m=Rv h ps v)(h2:∀v∈PY h ps,m<=Rv h ps v):sm aZ h ps+m=Oo g ps:=by
 obtain⟨v,hv,e⟩:=h1;obtain⟨u,hu,e'⟩:=a.eq_ hp (fun z=>by rw[z]at hv;simp at hv);have:=a.lt_ hp hv;have:=h2 u hu
 lia
def QN(h:Tr)(p:Dt):D:=.tup [.int (KC h p).1,.int (KC h p).2,.int p.2.2.2]
def Cz(ps:List Dt)(z:KC h p=(0,0)):N8 h (ps++[p])=N8 h ps:=by unfold N8;rw[XX];simp[z]
def CA(ps:List Dt)(z:KC h p≠(0,0)):N8 h (ps++[p])=N8 h ps++[p]:=by unfold N8;rw[XX];simp[z]
def AE(h:Tr)(ps:List Dt):(N8 h ps).length<=ps.length:=XR _ _
def gd(g:Tr)(p:Dt):Int:=gv g.1 g.2.1 g.2.2 p
theorem cQ(g:Tr)(p:Dt):gd g p=g.1+g.2.1*p.1+g.2.2*p.2.1:=rfl
def DJ(g:Tr)(p:Dt):JS g (sT (LL p))=gd g p:=by unfold JS sT LL gd gv;grind
def MU(g:Tr):Tr:=(-g.1,-g.2.1,-g.2.2)
def oX(g:Tr)(p:Dt):gd (MU g) p=- gd g p:=by unfold gd MU gv;grind
def IG(g h:Tr):JS (MU g) h=- JS g h:=by unfold JS MU;grind
def df(d p:Dt):Sp:=(p.1 - d.1,p.2.1 - d.2.1)
theorem ja{f g:Dt->Bool}:∀{ps:List Dt},(∀p∈ps,0<=p.2.2.2)->(∀p∈ps,f p=true->g p=true)->wq f ps<=wq g ps
 |[],_,_=>Mf _
 |p::r,hp,h=>by
  have i:=ja (fun q hq=>hp q (K0 _ hq)) fun q hq=>h q (K0 _ hq)
  have h1:=h p (by simp);have h2:=hp p (by simp);unfold wq;by_cases c:f p=true
  ·rw[JU c,JU (h1 c)];lia
  ·rw[JT c];split<;>lia
theorem Dp:∀ps:List Dt,wq (fun _=>false) ps=0
 |[]=>rfl
 |_::r=>(U1 _).trans (Dp r)
def Jk{ps:List Dt}(hp:∀p∈ps,0<=p.2.2.2):0<=wq f ps:=by have:=ja (f:=fun _=>false) (g:=f) hp (fun _ _ h=>absurd h (by decide));rw[Dp]at this;exact this
theorem D5:∀{ps:List Dt},0<wq f ps->∃p∈ps,f p=true
 |[],h=>absurd (show(0:Int)<0 from h) (by decide)
 |p::r,h=>by
  by_cases c:f p=true
  ·exact⟨p,by simp,c⟩
  ·unfold wq at h;rw[JT c,U1]at h;obtain⟨q,hq,e⟩:=D5 h;exact⟨q,K0 _ hq,e⟩
theorem uY{α:Type}(f:α->Int)(P:α->Prop):∀{l:List α},(∃a∈l,P a)->∃a∈l,P a/\∀b∈l,P b->f a<=f b
 |[],h=>by obtain⟨a,ha,_⟩:=h;cases ha
 |x::r,h=>by
  by_cases c:∃a∈r,P a
  ·obtain⟨a,ha,pa,mn⟩:=uY f P c;by_cases cx:P x/\f x<f a
   ·refine⟨x,by simp,cx.1,fun b hb pb=>?_⟩;rcases Kr.mp hb with rfl|hb
    ·exact Mf _
    ·have:=mn b hb pb;lia
   ·refine⟨a,K0 _ ha,pa,fun b hb pb=>?_⟩;rcases Kr.mp hb with rfl|hb
    ·have:¬f b<f a:=fun z=>cx ⟨pb,z⟩
     lia
    ·exact mn b hb pb
  ·obtain⟨a,ha,pa⟩:=h;rcases Kr.mp ha with rfl|ha
   ·refine⟨a,by simp,pa,fun b hb pb=>?_⟩;rcases Kr.mp hb with rfl|hb
    ·exact Mf _
    ·exact absurd ⟨b,hb,pb⟩ c
   ·exact absurd ⟨a,ha,pa⟩ c
def quant{ps:List Dt}(hp:∀p∈ps,0<=p.2.2.2){w:Int}(w0:0<w)(hN:w<=wq (fun p=>decide (gd g p<0)) ps) :
  ∃ d∈ps,gd g d<0/\w<=wq (fun p=>decide (gd g p<=gd g d)) ps/\wq (fun p=>decide (gd g p<gd g d)) ps<w:=by
 have up:∀c:Int,w<=wq (fun p=>decide (gd g p<c)) ps->∃d∈ps,gd g d<c/\w<=wq (fun p=>decide (gd g p<=gd g d)) ps:=fun c hc=>by obtain⟨d0,h0,e0⟩:=D5 (Int.lt_of_lt_of_le w0 hc);obtain⟨d,hd,ed,mn⟩:=uY (fun p=>- gd g p) (fun p=>gd g p<c) ⟨d0,h0,Nd e0⟩;refine⟨d,hd,ed,Int.le_trans hc (ja hp fun p hm q=>?_)⟩;have:=mn p hm (Nd q);exact Mb (by lia)
 obtain⟨d1,m1,n1,k1⟩:=up 0 hN;obtain⟨d,hd,kd,mn⟩:=uY (gd g) (fun d=>w<=wq (fun p=>decide (gd g p<=gd g d)) ps) ⟨d1,m1,k1⟩;refine⟨d,hd,by have:=mn d1 m1 k1;lia,kd,NO.mp fun z=>?_⟩;obtain⟨d2,m2,n2,k2⟩:=up _ z;have:=mn d2 m2 k2
 lia
structure Cd(L:yau)(d:Dt)(m:Sp)(r:Tr):Prop where
 mem:r∈L∨MU r∈L
 ex:∃k:Int,0<k/\r.2.1*k=m.1/\r.2.2*k=m.2/\gd r d=0
def Cd.at_(c:Cd L d m r):∃k:Int,0<k/\(∀p:Dt,gd r p*k=JW m (df d p))/\∀h:Tr,JS r h*k=JW m (h.2.1 - h.1*d.1,h.2.2 - h.1*d.2.1):=by
 obtain⟨k,k0,e1,e2,e3⟩:=c.ex;rw[cQ]at e3;have c0:r.1=- (r.2.1*d.1+r.2.2*d.2.1):=by lia
 refine⟨k,k0,fun p=>?_,fun h=>?_⟩
 ·rw[cQ,c0];unfold JW df;rw[<- e1,<- e2];grind
 ·unfold JS JW;rw[c0,<- e1,<- e2];grind
def Cd.neg(c:Cd L d m r):Cd L d (-m.1,-m.2) (MU r):=by
 obtain⟨k,k0,e1,e2,e3⟩:=c.ex;refine⟨c.mem.elim (fun z=>.inr ?_) .inl,k,k0,?_,?_,by rw[oX,e3];rfl⟩
 ·show(- -r.1,- -r.2.1,- -r.2.2)∈L;rw[RV,RV,RV];exact z
 ·show -r.2.1*k=-m.1;rw[Ms,e1]
 ·show -r.2.2*k=-m.2;rw[Ms,e2]
def qG(h:tn v m=0):JW v v*JW m u=JW v m*JW v u:=by
 have:JW v v*JW m u=JW v m*JW v u+tn v m*tn v u:=by unfold JW tn;grind
 rw[this,h,OX,Of]
def pW{a b x y:Int}(ha:0<a)(hb:0<b)(e:a*x=b*y):(0<=y->0<=x)/\(y<=0->x<=0)/\(y<0->x<0):=by
 refine⟨fun h=>?_,fun h=>?_,fun h=>?_⟩
 ·have:=Lq (K7 hb) h;exact Pp.mp fun z=>by have:=P6 ha z;lia
 ·have:=XH (K7 hb) h;exact Pp.mp fun z=>by have:=Og ha z;lia
 ·have:=P6 hb h;exact NO.mp fun z=>by have:=Lq (K7 ha) z;lia
def kZ(v u:Sp):tn v (K4 u)=JW v u:=by unfold tn K4 JW;grind
def Ad(t:Sp)(V:yat)(h:∃v∈V,tn t v<0):∃v∈V,tn t v<0/\∀w∈V,tn t w<0->tn v w<=0:=by
 have e:∀a b:Sp,tn (a.1,-a.2) (b.1,-b.2)=- tn a b:=fun a b=>by unfold tn;grind
 obtain⟨v,hv,nv⟩:=h;obtain⟨u,hu,u0,us⟩:=jW (t.1,-t.2) (V.map fun v=>(v.1,-v.2)) ⟨_,KH.mpr ⟨v,hv,rfl⟩,by rw[e];lia⟩;obtain⟨u',QF,rfl⟩:=KH.mp hu;rw[e]at u0;refine⟨u',QF,by lia,fun w hw nw=>?_⟩;have:=us _ (KH.mpr ⟨w,hw,rfl⟩) (by rw[e];lia);rw[e]at this
 lia
def HX{ps:List Dt}(hp:∀p∈ps,0<=p.2.2.2)(hL:∀d∈ps,(∃r,Cd L d (1,0) r)/\(∃r,Cd L d (0,1) r)/\∀p∈ps,df d p≠(0,0)->∃r,Cd L d (K4 (df d p)) r)
  {h:Tr} (g0:vc g≠(0,0)) (h0:0<h.1) (on:JS g h=0) {w:Int} (w0:0<w) (hN:w<=wq (fun p=>decide (gd g p<0)) ps) :
  ∃ r,(r∈L∨MU r∈L)/\wq (fun p=>decide (0<gd r p)) ps<w/\w<=wq (fun p=>decide (0<=gd r p)) ps/\JS r h<0:=by
 obtain⟨d,hd,nd,k1,k2⟩:=quant hp w0 hN;obtain⟨⟨rx,cx⟩,⟨ry,cy⟩,cz⟩:=hL d hd;generalize hv:((-g.2.1,-g.2.2):Sp)=v;have v1:v.1=-g.2.1:=by rw[<- hv]
 have v2:v.2=-g.2.2:=by rw[<- hv]
 have vn:v≠(0,0):=fun z=>g0 (by rw[z]at v1 v2;unfold vc;rw[show g.2.1=0 by have:(0:Int)=-g.2.1:=v1;lia,show g.2.2=0 by have:(0:Int)=-g.2.2:=v2;lia])
 have vv:=sq_pos vn;have ev:∀p:Dt,JW v (df d p)=gd g d - gd g p:=fun p=>by rw[cQ,cQ];unfold JW df;rw[v1,v2];grind
 have eh:JW v (h.2.1 - h.1*d.1,h.2.2 - h.1*d.2.1)<0:=by
  have e:JW v (h.2.1 - h.1*d.1,h.2.2 - h.1*d.2.1)=h.1*gd g d - JS g h:=by rw[cQ];unfold JW JS;rw[v1,v2];grind
  rw[e,on,Int.sub_zero];exact P6 h0 nd
 generalize hq:((h.2.1 - h.1*d.1,h.2.2 - h.1*d.2.1):Sp)=q at eh;have fin:∀(m:Sp) (r:Tr),Cd L d m r->(∀p∈ps,(0<=JW v (df d p)->0<=JW m (df d p))/\(JW v (df d p)<=0->JW m (df d p)<=0))->JW m q<0 →
   ∃ r,(r∈L∨MU r∈L)/\wq (fun p=>decide (0<gd r p)) ps<w/\w<=wq (fun p=>decide (0<=gd r p)) ps/\JS r h<0:=fun m r c hs hm=>by
  obtain⟨k,k0,e1,e2⟩:=c.at_;have s1:∀p,(0<=JW m (df d p)->0<=gd r p)/\(JW m (df d p)<=0->gd r p<=0):=fun p=>by have:=pW (x:=gd r p) (y:=JW m (df d p)) k0 (show(0:Int)<1 by decide) (by rw[Mw,e1 p,Po]);exact⟨this.1,this.2.1⟩
  have s2:=(pW (x:=JS r h) (y:=JW m q) k0 (show(0:Int)<1 by decide) (by rw[Mw,e2 h,Po,hq])).2.2 hm;refine⟨r,c.mem,Int.lt_of_le_of_lt (ja hp fun p hm z=>?_) k2,Int.le_trans k1 (ja hp fun p hm z=>?_),s2⟩
  ·have z':=Nd z;refine Mb (NO.mp fun y=>?_);have:=(s1 p).2 ((hs p hm).2 (by rw[ev p];lia))
   lia
  ·have z':=Nd z;exact Mb ((s1 p).1 ((hs p hm).1 (by rw[ev p];lia)))
 generalize hV:([(1,0),(-1,0),(0,1),(0,-1)]++(ps.filter fun p=>decide (df d p≠(0,0))).flatMap fun p=>[K4 (df d p),K8 (K4 (df d p))]:yat)=V;have vx:(1,0)∈V:=by rw[<- hV];simp
 have vx':(-1,0)∈V:=by rw[<- hV];simp
 have vy:(0,1)∈V:=by rw[<- hV];simp
 have Xz:(0,-1)∈V:=by rw[<- hV];simp
 have vp:∀p∈ps,df d p≠(0,0)->K4 (df d p)∈V/\K8 (K4 (df d p))∈V:=fun p hm ne=>by
  have m:p∈ps.filter fun p=>decide (df d p≠(0,0)):=Pc.mpr ⟨hm,Mb ne⟩
  rw[<- hV];exact⟨MO _ (RS.mpr ⟨p,m,by simp⟩),MO _ (RS.mpr ⟨p,m,by simp⟩)⟩
 have cV:∀m∈V,(∃r,Cd L d m r)/\K8 m∈V:=fun m hm=>by
  have Td:=hm;rw[<- hV]at Td;rcases KR.mp Td with z|z
  ·simp only[Kr,PO,or_false]at z;rcases z with rfl|rfl|rfl|rfl
   ·exact⟨⟨rx,cx⟩,vx'⟩
   ·exact⟨⟨_,cx.neg⟩,vx⟩
   ·exact⟨⟨ry,cy⟩,Xz⟩
   ·exact⟨⟨_,cy.neg⟩,vy⟩
  ·obtain⟨p,QI,z2⟩:=RS.mp z;obtain⟨pm,pn⟩:=Pc.mp QI;have ne:=Nd pn;obtain⟨r,c⟩:=cz p pm ne;obtain⟨q1,q2⟩:=vp p pm ne;simp only[Kr,PO,or_false]at z2;rcases z2 with rfl|rfl
   ·exact⟨⟨r,c⟩,q2⟩
   ·refine⟨⟨_,c.neg⟩,?_⟩;have e:K8 (K8 (K4 (df d p)))=K4 (df d p):=by unfold K8 K4;simp
    rw[e];exact q1
 by_cases A:∃m∈V,tn v m=0/\0<JW v m
 ·obtain⟨m,hm,t0,p0⟩:=A;obtain⟨⟨r,c⟩,_⟩:=cV m hm;refine fin m r c (fun p _=>?_) ?_
  ·have:=pW vv p0 (qG (u:=df d p) t0);exact⟨this.1,this.2.1⟩
  ·exact(pW vv p0 (qG (u:=q) t0)).2.2 eh
 ·have nA:∀m∈V,tn v m=0->¬0<JW v m:=fun m hm t0 p0=>A ⟨m,hm,t0,p0⟩
  have tx:tn v (1,0)=-v.2:=by unfold tn;grind
  have ty:tn v (0,1)=v.1:=by unfold tn;grind
  have dx:JW v (1,0)=v.1:=by unfold JW;grind
  have dx':JW v (-1,0)=-v.1:=by unfold JW;grind
  have dy:JW v (0,1)=v.2:=by unfold JW;grind
  have dy':JW v (0,-1)=-v.2:=by unfold JW;grind
  have tx':tn v (-1,0)=v.2:=by unfold tn;grind
  have Yy:tn v (0,-1)=-v.1:=by unfold tn;grind
  have v10:v.1≠0:=fun z=>by have a:=nA _ vy (by rw[ty];exact z);have b:=nA _ Xz (by rw[Yy,z];rfl);rw[dy]at a;rw[dy']at b;exact vn (ME z (show v.2=0 by lia))
  have v20:v.2≠0:=fun z=>by have a:=nA _ vx (by rw[tx,z];rfl);have b:=nA _ vx' (by rw[tx'];exact z);rw[dx]at a;rw[dx']at b;exact vn (ME (show v.1=0 by lia) z)
  have zero:∀p∈ps,JW v (df d p)=0->df d p=(0,0):=fun p hm z=>by
   by_cases c:df d p=(0,0)
   ·exact c
   ·exfalso;obtain⟨q1,q2⟩:=vp p hm c;have t1:tn v (K4 (df d p))=0:=by rw[kZ];exact z
    have t2:tn v (K8 (K4 (df d p)))=0:=by
     have:tn v (K8 (K4 (df d p)))=- tn v (K4 (df d p)):=by unfold tn K8;grind
     rw[this,t1];rfl
    have a:=nA _ q1 t1;have b:=nA _ q2 t2;have e:JW v (K8 (K4 (df d p)))=- JW v (K4 (df d p)):=by unfold JW K8;grind
    rw[e]at b;have z0:JW v (K4 (df d p))=0:=by lia
    have e3:=qG (v:=v) (m:=K4 (df d p)) (u:=K4 (df d p)) t1;rw[z0,OX]at e3;have l0:K4 (df d p)≠(0,0):=fun y=>c (by unfold K4 at y;have y1:=congrArg Prod.fst y;have y2:=congrArg Prod.snd y;dsimp only at y1 y2;exact ME y2 (show(df d p).2=0 by lia))
    have:=Og vv (sq_pos l0)
    lia
  obtain⟨n2,m2,a2,f2⟩:=jW v V (by
   by_cases c:0<v.1
   ·exact⟨_,vy,by rw[ty];exact c⟩
   ·exact⟨_,Xz,by rw[Yy];lia⟩)
  obtain⟨n1,m1,a1,f1⟩:=Ad v V (by
   by_cases c:0<v.1
   ·exact⟨_,Xz,by rw[Yy];lia⟩
   ·exact⟨_,vy,by rw[ty];lia⟩)
  have tb:∀a b:Sp,tn a (K8 b)=- tn a b:=fun a b=>by unfold tn K8;grind
  have s2:∀p∈ps,(0<=JW v (df d p)->0<=JW n2 (df d p))/\(JW v (df d p)<=0->JW n2 (df d p)<=0):=fun p hm=>by
   by_cases c:df d p=(0,0)
   ·rw[c];unfold JW;simp
   ·obtain⟨q1,q2⟩:=vp p hm c;have b1:=f2 _ q1;have b2:=f2 _ q2;rw[tb,tb]at b2;rw[kZ,kZ]at b1 b2;have nz:JW v (df d p)≠0:=fun z=>c (zero p hm z)
    exact⟨fun z=>b1 (by lia),fun z=>by have:=b2 (by lia);lia⟩
  have s1:∀p∈ps,(0<=JW v (df d p)->0<=JW n1 (df d p))/\(JW v (df d p)<=0->JW n1 (df d p)<=0):=fun p hm=>by
   by_cases c:df d p=(0,0)
   ·rw[c];unfold JW;simp
   ·obtain⟨q1,q2⟩:=vp p hm c;have b1:=f1 _ q1;have b2:=f1 _ q2;rw[tb,tb]at b2;rw[kZ,kZ]at b1 b2;have nz:JW v (df d p)≠0:=fun z=>c (zero p hm z)
    exact⟨fun z=>by have:=b2 (by lia);lia,fun z=>b1 (by lia)⟩
  obtain⟨⟨r2,c2⟩,_⟩:=cV n2 m2;obtain⟨⟨r1,c1⟩,b1⟩:=cV n1 m1;have t12:0<=tn n1 n2:=by
   have:=f2 _ b1 (by rw[tb];lia);rw[tb]at this;have:=bM n1 n2
   lia
  have side:∀a∈V,0<tn v a->tn n1 n2=0->tn n2 a=0:=fun a ha pa z=>by
   have h1:=f2 a ha pa;have h2:=f1 _ (cV a ha).2 (by rw[tb];lia);rw[tb]at h2;have pl:tn v n1*tn n2 a=tn v n2*tn n1 a - tn v a*tn n1 n2:=plk v n1 n2 a;rw[z,Qe,Int.sub_zero]at pl;have x1:=Lq (K7 a2) (show 0<=tn n1 a by lia);by_cases y:tn n2 a=0
   ·exact y
   ·have x2:=Pf a1 (show 0<tn n2 a by lia)
    lia
  have t0:0<tn n1 n2:=by
   by_cases z:tn n1 n2=0
   ·exfalso;have e1:tn n2 (1,0)=-n2.2:=by unfold tn;grind
    have e2:tn n2 (0,1)=n2.1:=by unfold tn;grind
    have e3:tn n2 (-1,0)=n2.2:=by unfold tn;grind
    have e4:tn n2 (0,-1)=-n2.1:=by unfold tn;grind
    have z2:n2.2=0:=by
     by_cases c:0<v.2
     ·have:=side _ vx' (by rw[tx'];exact c) z
      lia
     ·have:=side _ vx (by rw[tx];lia) z
      lia
    have z1:n2.1=0:=by
     by_cases c:0<v.1
     ·have:=side _ vy (by rw[ty];exact c) z
      lia
     ·have:=side _ Xz (by rw[Yy];lia) z
      lia
    have:tn v n2=0:=by unfold tn;rw[z1,z2];simp
    lia
   ·lia
  have comb:tn n1 n2*JW v q=tn v n2*JW n1 q+- tn v n1*JW n2 q:=by unfold tn JW;grind
  by_cases c:JW n2 q<0
  ·exact fin n2 r2 c2 s2 c
  ·refine fin n1 r1 c1 s1 (NO.mp fun z=>?_);have x1:=P6 t0 eh;have x2:=Lq (K7 a2) z;have x3:=Lq (show 0<=- tn v n1 by lia) (show 0<=JW n2 q by lia)
   lia
def XA(ps:List Dt):yau:=ps.map (fun p=>(-p.1,1,0))++ps.map fun p=>(-p.2.1,0,1)
abbrev P5:=Tr×Int×Int
def bV(x:P5):D:=.tup [Kg x.1,.int x.2.1,.int x.2.2]
def CQ(h:bV x=bV y):x=y:=by unfold bV at h;simp only[D.tup.injEq,OW,D.int.injEq,and_true]at h;exact ME (xH h.1) (ME h.2.1 h.2.2)
def CS{xs ys:List P5}(h:xs.map bV=ys.map bV):xs=ys:=gF CQ h
def sN(x:P5):aT (bV x)=bV x:=by unfold bV;simp only[da,cg,cJ,cc,eT]
def wX(xs:List P5):aY (xs.map bV)=xs.map bV:=cI bV sN xs
def yT(ps:List Dt)(g:Tr):List P5:=[(g,wl ps g 1,wl ps g 1+wl ps g 0),(MU g,wl ps g (-1),wl ps g (-1)+wl ps g 0)]
def bS(ps:List Dt)(zs:yau):List P5:=zs.flatMap (yT ps)
def cP(xs:List P5)(w:Int):yau:=(xs.filter fun x=>decide (x.2.1<w/\w<=x.2.2)).map (·.1)
def aN(ps:List Dt):Int:=QL (fun _=>true) ps
def qu(ps:List Dt):aN ps=wq (fun _=>true) ps:=by
 unfold aN QL;rw[Qt.mpr (fun _ _=>rfl)]
 induction ps with
 |nil=>rfl
 |cons p r ih=>unfold wq;rw[K5,QT,ih];rfl
theorem D2(g0 g1 g2 s:Int):∀ps:List Dt,w3 g0 g1 g2 s ps=wq (fun p=>decide (sg (gv g0 g1 g2 p)=s)) ps
 |[]=>rfl
 |p::r=>by
  have ih:=D2 g0 g1 g2 s r;unfold w3 at ih ⊢;unfold wq;rw[K5,QT,ih];by_cases c:sg (gv g0 g1 g2 p)=s
  ·rw[JU c,JU (Mb c)]
  ·rw[JT c,JT (by rw[decide_eq_true_eq];exact c)]
def mJ(ps:List Dt)(g:Tr)(s:Int):wl ps g s=wq (fun p=>decide (sg (gd g p)=s)) ps:=by unfold wl wt;rw[Qt.mpr (fun _ _=>rfl),D2];rfl
theorem lT{f g k:Dt->Bool}:∀{ps:List Dt},(∀p∈ps,k p=(f p || g p))->(∀p∈ps,¬(f p=true/\g p=true))->wq f ps+wq g ps=wq k ps
 |[],_,_=>rfl
 |p::r,h,h'=>by
  have ih:=lT (fun q hq=>h q (K0 _ hq)) fun q hq=>h' q (K0 _ hq)
  have e:=h p (by simp);have n:=h' p (by simp);unfold wq;rw[<- ih,e];cases hf:f p<;>cases hg:g p
  ·simp
  ·simp;lia
  ·simp;lia
  ·exact absurd ⟨hf,hg⟩ n
def vS(g:Tr)(ps:List Dt):wq (fun p=>decide (gd g p<0)) ps+wq (fun p=>decide (0<=gd g p)) ps=aN ps:=by
 rw[qu];refine lT (fun p _=>?_) fun p _ ⟨a,b⟩=>?_
 ·rcases Int.lt_or_le (gd g p) 0 with c|c
  ·rw[Mb c];rfl
  ·rw[Mb c,Bool.or_true]
 ·have:=Nd a;have:=Nd b
  lia
def vJ(a:Int):sg a=1↔0<a:=by unfold sg;split<;>(try split)<;>lia
def pV(a:Int):sg a=0↔a=0:=by unfold sg;split<;>(try split)<;>lia
def rq(a:Int):sg a=-1↔a<0:=by unfold sg;split<;>(try split)<;>lia
def zh(ps:List Dt)(g:Tr):wl ps g 1=wq (fun p=>decide (0<gd g p)) ps:=by rw[mJ];exact om fun p _=>by simp only[vJ]
def Il(ps:List Dt)(g:Tr):wl ps g (-1)=wq (fun p=>decide (0<gd (MU g) p)) ps:=by rw[mJ];exact om fun p _=>by rw[oX];simp only[rq];congr 1;simp
def D3(ps:List Dt)(g:Tr):wl ps g 1+wl ps g 0=wq (fun p=>decide (0<=gd g p)) ps:=by
 rw[mJ,mJ];refine lT (fun p _=>?_) fun p _=>?_
 ·simp only[vJ,pV];rw[SE];simp
  lia
 ·simp only[vJ,pV,decide_eq_true_eq]
  lia
def D4(ps:List Dt)(g:Tr):wl ps g (-1)+wl ps g 0=wq (fun p=>decide (0<=gd (MU g) p)) ps:=by
 rw[mJ,mJ];refine lT (fun p _=>?_) fun p _=>?_
 ·rw[oX];simp only[rq,pV];rw[SE];simp
  lia
 ·simp only[rq,pV,decide_eq_true_eq]
  lia
def pD(g:Tr):MU (MU g)=g:=by unfold MU;simp
def qP{r:Tr}(hz:bJ zs L):r∈cP (bS ps zs) w↔(r∈L∨MU r∈L)/\wq (fun p=>decide (0<gd r p)) ps<w/\w<=wq (fun p=>decide (0<=gd r p)) ps:=by
 unfold cP bS;constructor
 ·intro h;obtain⟨x,hx,rfl⟩:=KH.mp h;obtain⟨h1,h2⟩:=Pc.mp hx;obtain⟨g,hg,h3⟩:=RS.mp h1;have MY:=Nd h2;unfold yT at h3;simp only[Kr,PO,or_false]at h3;rcases h3 with rfl|rfl
  ·dsimp only at MY ⊢;rw[zh]at MY;rw[<- zh]at MY;exact⟨.inl ((hz.2 g).mp hg),by rw[<- zh];exact MY.1,by rw[<- D3];exact MY.2⟩
  ·dsimp only at MY ⊢;exact⟨.inr (by rw[pD];exact(hz.2 g).mp hg),by rw[<- Il];exact MY.1,by rw[<- D4];exact MY.2⟩
 ·rintro⟨h|h,h1,h2⟩
  ·refine KH.mpr ⟨(r,wl ps r 1,wl ps r 1+wl ps r 0),Pc.mpr ⟨RS.mpr ⟨r,(hz.2 r).mpr h,by unfold yT;simp⟩,Mb ?_⟩,rfl⟩;dsimp only;rw[D3,zh];exact⟨h1,h2⟩
  ·refine KH.mpr ⟨(MU (MU r),wl ps (MU r) (-1),wl ps (MU r) (-1)+wl ps (MU r) 0),Pc.mpr ⟨RS.mpr ⟨MU r,(hz.2 _).mpr h,by unfold yT;simp⟩,Mb ?_⟩,pD r⟩;dsimp only;rw[D4,Il,pD];exact⟨h1,h2⟩
def q0(w:Int):(bS ps zs).length=2*zs.length/\(cP (bS ps zs) w).length<=2*zs.length:=by
 have e:(bS ps zs).length=2*zs.length:=by
  unfold bS
  induction zs with
  |nil=>rfl
  |cons g r ih=>rw[List.flatMap_cons,LO,ih,Oc];show 2+_=_;lia
 refine⟨e,?_⟩;unfold cP;rw[J6,<- e];exact XR _ _
structure dJ(ps:List Dt):Prop where
 gd:∀p∈ps,GD p
 bx:∀p∈ps,Bd 40 p.1/\Bd 40 p.2.1
 w:∀p∈ps,0<p.2.2.2
 le:ps.length<=20
 ne:ps ≠ []
def dJ.nn(D:dJ ps):∀p∈ps,0<=p.2.2.2:=fun p hp=>K7 (D.w p hp)
abbrev N9(ps:List Dt):yau:=qO ps++XA ps
def qN{ps:List Dt}(h:ps.length<=20):(N9 ps).length<=440:=by
 have h1:=xo ps;have h2:ps.length*ps.length<=20*20:=Nat.mul_le_mul h h;unfold N9 XA;rw[LO,LO,J6,J6]
 lia
def yx(F:LF g p q):∃m:Int,m≠0/\p.1*q.2.1 - q.1*p.2.1=m*g.1/\p.2.1 - q.2.1=m*g.2.1/\q.1 - p.1=m*g.2.2/\∀z,gd g z*m=tq p q z:=by obtain⟨m,m0,em⟩:=F.ex;have e0:=em (0,0,0,0);have e1:=em (1,0,0,0);have e2:=em (0,1,0,0);unfold gv tq at e0 e1 e2;dsimp only at e0 e1 e2;refine⟨m,m0,?_,?_,?_,em⟩<;>grind
def EC{p q:Dt}(hp:Bd 40 p.1/\Bd 40 p.2.1)(hq:Bd 40 q.1/\Bd 40 q.2.1)(Gp:GD p)(Gq:GD q)(ne:LL p≠LL q):Rt 40 (QM p q)/\vc (QM p q)≠(0,0):=by
 have F:=tN Gp Gq ne;obtain⟨m,m0,e0,e1,e2,_⟩:=yx F;have nz:vc (QM p q)≠(0,0):=fun z=>by
  have z1:=congrArg Prod.fst z;have z2:=congrArg Prod.snd z;unfold vc at z1 z2;dsimp only at z1 z2;have:=F.nf.sgn
  lia
 refine⟨⟨fun z=>nz (by unfold vc;rw[z]),jB m0 e0 ?_,jB m0 e1 ?_,jB m0 e2 ?_⟩,nz⟩
 ·exact((hp.1.mul hq.2).sub (hq.1.mul hp.2)).mono (by decide)
 ·exact hp.2.sub hq.2
 ·exact hq.1.sub hp.1
def G6(G:Rt n g)(h:vc g≠(0,0)):Rt n (MU g)/\vc (MU g)≠(0,0):=by
 have nz:vc (MU g)≠(0,0):=fun z=>h (by have z1:=congrArg Prod.fst z;have z2:=congrArg Prod.snd z;unfold vc MU at z1 z2;dsimp only at z1 z2;unfold vc;rw[show g.2.1=0 by lia,show g.2.2=0 by lia])
 exact⟨⟨fun z=>nz (by unfold vc;rw[z]),G.c.neg,G.a.neg,G.b.neg⟩,nz⟩
def Af(D:dJ ps):∀g∈N9 ps,Rt 40 g/\vc g≠(0,0):=fun g hg=>by
 rcases KR.mp hg with z|z
 ·obtain⟨ij,My,rfl⟩:=KH.mp z;obtain⟨a,b,c⟩:=jG.mp My;have m1:=jC (show ij.1<ps.length by lia);have m2:=jC b;exact EC (D.bx _ m1) (D.bx _ m2) (D.gd _ m1) (D.gd _ m2) c
 ·unfold XA at z;have b1:∀k:Int,Bd 1 k->Bd 41 k:=fun k h=>h.mono (by decide)
  rcases KR.mp z with z|z<;>obtain⟨p,hp,rfl⟩:=KH.mp z
  ·exact⟨⟨fun e=>absurd (show(1:Int)=0 from congrArg (fun t:Tr=>t.2.1) e) (by decide),((D.bx p hp).1.neg).mono (by decide),b1 1 (by unfold Bd;decide),b1 0 (by unfold Bd;decide)⟩,fun e=>absurd (show(1:Int)=0 from congrArg Prod.fst e) (by decide)⟩
  ·exact⟨⟨fun e=>absurd (show(1:Int)=0 from congrArg (fun t:Tr=>t.2.2) e) (by decide),((D.bx p hp).2.neg).mono (by decide),b1 0 (by unfold Bd;decide),b1 1 (by unfold Bd;decide)⟩,fun e=>absurd (show(1:Int)=0 from congrArg Prod.snd e) (by decide)⟩
def Ef(D:dJ ps):∀d∈ps,(∃r,Cd (N9 ps) d (1,0) r)/\(∃r,Cd (N9 ps) d (0,1) r)/\∀p∈ps,df d p≠(0,0)->∃r,Cd (N9 ps) d (K4 (df d p)) r:=fun d hd=>by
 refine⟨⟨(-d.1,1,0),.inl ?_,1,by decide,rfl,rfl,by rw[cQ];dsimp only;lia⟩,⟨(-d.2.1,0,1),.inl ?_,1,by decide,rfl,rfl,by rw[cQ];dsimp only;lia⟩,fun p hp ne=>?_⟩
 ·exact MO _ (Ob _ (KH.mpr ⟨d,hd,rfl⟩))
 ·exact MO _ (MO _ (KH.mpr ⟨d,hd,rfl⟩))
 ·have XB:LL d≠LL p:=fun e=>ne (by
   unfold LL at e;have e1:=congrArg Prod.fst e;have e2:=congrArg Prod.snd e;dsimp only at e1 e2;unfold df;rw[e1,e2,Int.sub_self,Int.sub_self])
  have one:∀(g:Tr) (m:Int),g∈N9 ps->m≠0->m*g.2.1=(K4 (df d p)).1->m*g.2.2=(K4 (df d p)).2->gd g d=0->∃r,Cd (N9 ps) d (K4 (df d p)) r:=fun g m hg m0 e1 e2 e3=>by
   by_cases c:0<m
   ·exact⟨g,.inl hg,m,c,by rw[Mw];exact e1,by rw[Mw];exact e2,e3⟩
   ·refine⟨MU g,.inr (by rw[pD];exact hg),-m,by lia,?_,?_,by rw[oX,e3];rfl⟩
    ·show -g.2.1*-m=_;rw[Int.neg_mul_neg,Mw];exact e1
    ·show -g.2.2*-m=_;rw[Int.neg_mul_neg,Mw];exact e2
  obtain⟨i,hi,ei⟩:=QQ hd;obtain⟨j,hj,ej⟩:=QQ hp;have gi:gp ps i=d:=by have:=oZ hi;rw[LH hi,ei]at this;exact(MW this).symm
  have gj:gp ps j=p:=by have:=oZ hj;rw[LH hj,ej]at this;exact(MW this).symm
  rcases VJ i j with c|c|c
  ·have mm:(i,j)∈Tj ps:=jG.mpr ⟨c,hj,by show LL (gp ps i)≠LL (gp ps j);rw[gi,gj];exact XB⟩;have F:=tN (D.gd d hd) (D.gd p hp) XB;obtain⟨m,m0,e0,e1,e2,e3⟩:=yx F;refine one (QM d p) m (Ob _ (KH.mpr ⟨(i,j),mm,by show QM (gp ps i) (gp ps j)=_;rw[gi,gj]⟩)) m0 ?_ ?_ ?_
   ·rw[<- e1];unfold K4 df;dsimp only;(try lia)
   ·rw[<- e2];unfold K4 df;rfl
   ·have:=e3 d;rw[show tq d p d=0 by unfold tq;grind]at this;exact(Ox.mp this).resolve_right m0
  ·subst c;rw[gi]at gj;subst gj;exact absurd rfl XB
  ·have mm:(j,i)∈Tj ps:=jG.mpr ⟨c,hi,by show LL (gp ps j)≠LL (gp ps i);rw[gi,gj];exact XB.symm⟩;have F:=tN (D.gd p hp) (D.gd d hd) XB.symm;obtain⟨m,m0,e0,e1,e2,e3⟩:=yx F;refine one (QM p d) (-m) (Ob _ (KH.mpr ⟨(j,i),mm,by show QM (gp ps j) (gp ps i)=_;rw[gi,gj]⟩)) (by lia) ?_ ?_ ?_
   ·rw[Ms,<- e1];unfold K4 df;dsimp only;(try lia)
   ·rw[Ms,<- e2];unfold K4 df;dsimp only;(try lia)
   ·have:=e3 d;rw[show tq p d d=0 by unfold tq;grind]at this;exact(Ox.mp this).resolve_right m0
abbrev gK(ps:List Dt)(zs:yau)(ys:yat)(w:Int):yau:=bq (cP (bS ps zs) w) ((aP ys).map sT)
structure Jq(ps:List Dt)(Gs:yau)(ys:yat):Prop where
 O7:∀j,OU (bq (Gs.take j) ((aP ys).map sT))/\(bq (Gs.take j) ((aP ys).map sT)).length<=1000000/\∀p∈bq (Gs.take j) ((aP ys).map sT),Pr p/\CB 40 p
 inc:∀j X,0<X.1->(∀b∈bb (aP ys),0<=JS b X)->(∀g∈Gs.take j,0<=JS g X)->Rr (bq (Gs.take j) ((aP ys).map sT)) X
 ov:∀j,∀g∈Gs.take j,∀y∈bq (Gs.take j) ((aP ys).map sT),0<=JS g y
 own:∀j d,(∀p∈ps,0<=gd d p)->∀y∈bq (Gs.take j) ((aP ys).map sT),0<=JS d y
 ne:(aP ys).map sT ≠ []
 bo:∀b∈bb (aP ys),∀p∈ps,0<=gd b p
def jH(D:dJ ps){Gs:yau}(hG:∀g∈Gs,Rt 40 g/\vc g≠(0,0))(lG:Gs.length<=880)(rs:bY ys (ps.map LL)):Jq ps Gs ys:=by
 have XC:ps.map LL ≠ []:=fun e=>D.ne (List.map_eq_nil_iff.mp e)
 have Tn:=se rs;have hb:∀p∈ps.map LL,WB 40 p:=fun p hp=>by obtain⟨q,hq,rfl⟩:=KH.mp hp;exact⟨(D.bx q hq).1,(D.bx q hq).2⟩
 have gbB:=zE (mq Tn XC) (uQ rs).2 (fun p hp=>hb p (Tn.mem p hp));have lB:(bb (aP ys)).length<=44:=by
  have h1:=Tn.len;have h2:=ye (aP ys);rw[J6]at h1;have:=D.le
  lia
 generalize hA:bb (aP ys)++Gs=A;have mA:∀e∈A,Rt 40 e:=fun e he=>by
  rw[<- hA]at he;rcases KR.mp he with z|z
  ·exact gbB e z
  ·exact(hG e z).1
 have lA:A.length<=924:=by rw[<- hA,LO];lia
 let Z:yau:=(aP ys).map sT++A.flatMap fun e=>A.map fun g=>PW (Kv e g)
 have Zl:Z.length<=1000000:=by
  show((aP ys).map sT++A.flatMap fun e=>A.map fun g=>PW (Kv e g)).length<=1000000;rw[LO,J6];have h1:=Tn.len;rw[J6]at h1;have h2:=D.le;have h3:(A.flatMap fun e=>A.map fun g=>PW (Kv e g)).length<=924*924:=by
   have go:∀l:yau,(l.flatMap fun e=>A.map fun g=>PW (Kv e g)).length<=l.length*924:=fun l=>by
    induction l with
    |nil=>simp
    |cons a r ih =>
     rw[List.flatMap_cons,LO,J6,Oc,Nat.succ_mul]
     lia
   have:=go A;have:A.length*924<=924*924:=Nat.mul_le_mul_right _ lA
   lia
  lia
 have hZ:∀e∈A,∀g∈A,PW (Kv e g)∈Z:=fun e he g hg=>MO _ (RS.mpr ⟨e,he,KH.mpr ⟨g,hg,rfl⟩⟩)
 have C0:Vq 40 A Z ((aP ys).map sT):=Cc rs XC hb (fun b hb=>by rw[<- hA];exact Ob _ hb) (fun p hp=>Ob _ (KH.mpr ⟨p,hp,rfl⟩)) (by have e:((aP ys).map sT).length=(aP ys).length:=J6 _;show _<=((aP ys).map sT++_).length;rw[LO,e];exact Nat.le_add_right _ _)
 have run:=fun j=>ui mA hZ (Gs.take j) _ (fun g hg=>by rw[<- hA];exact MO _ ((UO j _).subset hg)) C0
 refine⟨fun j=>⟨(run j).1.Nk,LZ (run j).1.len Zl,fun p hp=>⟨(run j).1.pr p hp,(run j).1.cb p hp⟩⟩,fun j X h0 hb hg=>(run j).2.1 X (Cf Tn XC h0 hb) hg,fun j=>(run j).2.2.1,fun j d hd=>(run j).2.2.2 d fun p hp=>?_,fun e=>mq Tn XC (List.map_eq_nil_iff.mp e),fun b hb p hp=>?_⟩
 ·obtain⟨q,qm,rfl⟩:=KH.mp hp;obtain⟨z,hz,rfl⟩:=KH.mp (Tn.mem q qm);rw[DJ];exact hd z hz
 ·rw[<- DJ];exact vY Tn XC hb (KH.mpr ⟨p,hp,rfl⟩)
def jJ(D:dJ ps)(hz:bJ zs (N9 ps))(w:Int):(∀g∈cP (bS ps zs) w,Rt 40 g/\vc g≠(0,0))/\(cP (bS ps zs) w).length<=880:=by
 refine⟨fun g hg=>?_,?_⟩
 ·rcases((qP hz).mp hg).1 with z|z
  ·exact Af D g z
  ·have:=Af D _ z;have:=G6 this.1 this.2;rw[pD]at this;exact this
 ·have h1:=(q0 (ps:=ps) (zs:=zs) w).2;have h2:=iY hz;have h3:=qN D.le
  lia
def zj{f g:Dt->Bool}{ps:List Dt}(hp:∀p∈ps,0<=p.2.2.2):wq (fun p=>f p || g p) ps<=wq f ps+wq g ps:=by
 have e:=lT (f:=f) (g:=fun p=>g p && !f p) (k:=fun p=>f p || g p) (ps:=ps) (fun p _=>by cases f p<;>cases g p<;>rfl) (fun p _ ⟨a,b⟩=>by rw[a]at b;simp at b);have l:=ja (f:=fun p=>g p && !f p) (g:=g) hp fun p _ z=>(by simp at z;exact z.1)
 lia
def Hr(D:dJ ps)(hz:bJ zs (N9 ps))(rs:bY ys (ps.map LL)){l:Int}(l1:1<=l)(l3:3*(l - 1)<aN ps):gK ps zs ys (aN ps - l+1) ≠ []:=fun e=>by
 obtain⟨hG,lG⟩:=jJ D hz (aN ps - l+1);have R:=jH D hG lG rs;have hr:∀g∈cP (bS ps zs) (aN ps - l+1),aN ps - l+1<=wq (fun p=>decide (0<=gd g p)) ps:=fun g hg=>((qP hz).mp hg).2.2
 have e':bq (cP (bS ps zs) (aN ps - l+1)) ((aP ys).map sT)=[]:=e;generalize cP (bS ps zs) (aN ps - l+1)=Gs at *;obtain⟨last,hl,up,dn⟩:=uj R.ne Gs.length (by rw[TC];exact e');have hg:Gs[last]?=some Gs[last]:=LH hl;obtain⟨Nk,_,cp⟩:=R.O7 last;have neg:∀y∈bq (Gs.take last) ((aP ys).map sT),JS Gs[last] y<0:=fun y hy=>NO.mp fun z=>by have i1:=(oE (g:=Gs[last]) Nk fun p hp=>(cp p hp).1).1 y (fun h hh=>hh y hy) z;rw[BO hg]at dn;exact Hd i1 (cp y hy).1.pos dn
 obtain⟨p,p0,gp,alt⟩:=F4 (gs:=bb (aP ys)++Gs.take last) (up last (KO _)) (fun y hy=>(cp y hy).1.pos) neg
  (fun h hh y hy=>(KR.mp hh).elim (fun z=>R.own last h (R.bo h z) y hy) fun z=>R.ov last h z y hy)
  (fun X h0 hX=>R.inc last X h0 (fun b hb=>hX b (Ob _ hb)) fun g hg=>hX g (MO _ hg)) (hG _ (P9 hl)).2
 have hn:=D.nn;have split:=fun g=>vS g ps
 have lt:∀g,g∈bb (aP ys)++Gs.take last∨g∈Gs->wq (fun p=>decide (gd g p<0)) ps<=l - 1:=fun g hm=>by
  have ri:g∈Gs->wq (fun p=>decide (gd g p<0)) ps<=l - 1:=fun z=>by
   have:=hr g z;have:=split g
   lia
  rcases hm with hm|hm
  ·rcases KR.mp hm with z|z
   ·have:wq (fun p=>decide (gd g p<0)) ps<=wq (fun _=>false) ps:=ja hn fun p hp q=>by
     have:=R.bo g z p hp;have:=Nd q
     lia
    rw[Dp]at this
    lia
   ·exact ri ((UO last _).subset z)
  ·exact ri hm
 have gg:=lt Gs[last] (.inr (P9 hl));have QL:∀f:Dt->Bool,(∀p∈ps,f p=true)->aN ps<=wq f ps:=fun f hf=>by rw[qu];exact ja hn fun p hp _=>hf p hp
 generalize Gs[last]=g at gp alt gg;rcases alt with⟨h,hm,hp,B⟩| ⟨h,hm,k,km,hp,kp,B⟩
 ·have hh:=lt h (.inl hm);obtain⟨B0,B1⟩:=B;have gg0:0<JW (vc g) (vc g):=sq_pos fun z=>by rw[z]at B1;unfold JW at B1;simp at B1
  have id:∀d:Dt,p.1*(JW (vc g) (vc g)*gd h d+- JW (vc h) (vc g)*gd g d)=JW (vc g) (vc g)*JS h p+- JW (vc h) (vc g)*JS g p:=fun d=>by
   have t1:JW (vc g) (vc g)*h.2.1=JW (vc h) (vc g)*g.2.1 - tn (vc h) (vc g)*- g.2.2:=by unfold JW tn vc;grind
   have t2:JW (vc g) (vc g)*h.2.2=JW (vc h) (vc g)*g.2.2 - tn (vc h) (vc g)*g.2.1:=by unfold JW tn vc;grind
   rw[B0,OX,Int.sub_zero]at t1 t2;rw[cQ,cQ];unfold JS;grind
  have:=QL (fun d=>decide (gd h d<0) || decide (gd g d<0)) fun d hd=>by
   have e:=id d;rw[hp,Qe,U1]at e;have n:=P6 (show 0 < - JW (vc h) (vc g)by lia) gp;by_cases c:gd h d<0
   ·rw[Mb c];rfl
   ·by_cases c2:gd g d<0
    ·rw[Mb c2,Bool.or_true]
    ·have a1:=Lq (K7 gg0) (show 0<=gd h d by lia);have a2:=Lq (show 0<=- JW (vc h) (vc g)by lia) (show 0<=gd g d by lia);have:=Lq (K7 p0) (show 0<=JW (vc g) (vc g)*gd h d+- JW (vc h) (vc g)*gd g d by lia)
     lia
  have:=zj (f:=fun d=>decide (gd h d<0)) (g:=fun d=>decide (gd g d<0)) hn
  lia
 ·have hh:=lt h (.inl hm);have hk:=lt k (.inl km);have pos:∀s t u:Int,0<s->0<t->0<u->s*h.2.1+t*k.2.1+u*g.2.1=0->s*h.2.2+t*k.2.2+u*g.2.2=0->False:=fun s t u s0 t0 u0 ea eb=>by
   have:=QL (fun d=>decide (gd h d<0) || (decide (gd k d<0) || decide (gd g d<0))) fun d hd=>by
    have e:p.1*(s*gd h d+t*gd k d+u*gd g d)=s*JS h p+t*JS k p+u*JS g p:=by rw[cQ,cQ,cQ];unfold JS;grind
    rw[hp,kp,Qe,Qe,Of,U1]at e;have n:=P6 u0 gp;by_cases c:gd h d<0
    ·rw[Mb c];rfl
    ·by_cases c1:gd k d<0
     ·rw[Mb c1,Bool.true_or,Bool.or_true]
     ·by_cases c2:gd g d<0
      ·rw[Mb c2,Bool.or_true,Bool.or_true]
      ·have a1:=Lq (K7 s0) (show 0<=gd h d by lia);have a2:=Lq (K7 t0) (show 0<=gd k d by lia);have a3:=Lq (K7 u0) (show 0<=gd g d by lia);have:=Lq (K7 p0) (show 0<=s*gd h d+t*gd k d+u*gd g d by lia)
       lia
   have x1:=zj (f:=fun d=>decide (gd h d<0)) (g:=fun d=>decide (gd k d<0) || decide (gd g d<0)) hn;have x2:=zj (f:=fun d=>decide (gd k d<0)) (g:=fun d=>decide (gd g d<0)) hn
   lia
  have sa:tn (vc k) (vc g)*h.2.1+tn (vc g) (vc h)*k.2.1+tn (vc h) (vc k)*g.2.1=0:=by unfold tn vc;grind
  have sb:tn (vc k) (vc g)*h.2.2+tn (vc g) (vc h)*k.2.2+tn (vc h) (vc k)*g.2.2=0:=by unfold tn vc;grind
  rcases B with⟨a,b,c⟩| ⟨a,b,c⟩
  ·exact pos _ _ _ a b c sa sb
  ·exact pos (- tn (vc k) (vc g)) (- tn (vc g) (vc h)) (- tn (vc h) (vc k)) (by lia) (by lia) (by lia) (by rw[Ms,Ms,Ms];lia) (by rw[Ms,Ms,Ms];lia)
theorem AX(g:Tr):∀ps:List Dt,Oo g ps=wq (fun p=>decide (0<=gd g p)) ps
 |[]=>rfl
 |p::r=>by
  have ih:=AX g r;unfold Oo at ih ⊢;unfold wq;rw[K5,QT,ih];by_cases c:0<=gv g.1 g.2.1 g.2.2 p
  ·rw[JU c,JU (Mb (show 0<=gd g p from c))]
  ·rw[JT c,JT (by rw[decide_eq_true_eq];exact c)]
def Cv(D:dJ ps)(hz:bJ zs (N9 ps))(rs:bY ys (ps.map LL)){l:Int}(ll:l<=aN ps){y:Tr}(hy:y∈gK ps zs ys (aN ps - l+1))(hg:IsL y ps g):l<=Oo g ps:=by
 obtain⟨hG,lG⟩:=jJ D hz (aN ps - l+1);have R:=jH D hG lG rs;have O7:=R.O7 (cP (bS ps zs) (aN ps - l+1)).length;have ov:=R.ov (cP (bS ps zs) (aN ps - l+1)).length;rw[TC]at O7 ov;have yp:=(O7.2.2 y hy).1.pos;refine Pp.mp fun lt=>?_
 have e:=vS g ps;rw[<- AX]at e;obtain⟨r,m,k1,k2,ko⟩:=HX D.nn (Ef D) (g:=g) (h:=y) (w:=aN ps - l+1) (fun z=>IsL.ne yp hg ⟨congrArg Prod.fst z,congrArg Prod.snd z⟩) yp (hg.on) (by lia) (by lia);have:=ov r ((qP hz).mpr ⟨m,k1,k2⟩) y hy
 lia
def Hg(h:Tr)(ps:List Dt):∃g,IsL h ps g:=by
 by_cases c:LP h ps=[]
 ·exact⟨_,.inl ⟨c,rfl⟩⟩
 ·have fst:∀(f:Wy->Int) (l:List Wy),l ≠ []->∃(i:Nat) (w:Wy),l[i]?=some w/\∀(j:Nat) (v:Wy),l[j]?=some v->f w<=f v/\(j<i->f w<f v):=fun f l=>by
   induction l with
   |nil=>exact fun z=>absurd rfl z
   |cons a r ih =>
    intro _;by_cases cr:r=[]
    ·subst cr;refine⟨0,a,rfl,fun j v e=>?_⟩;cases j with
     |zero=>cases e;exact⟨Mf _,fun z=>absurd z (by lia)⟩
     |succ j=>cases e
    ·obtain⟨i,w,e,mn⟩:=ih cr;by_cases ca:f a<=f w
     ·refine⟨0,a,rfl,fun j v e=>?_⟩;cases j with
      |zero=>cases e;exact⟨Mf _,fun z=>absurd z (by lia)⟩
      |succ j=>exact⟨Int.le_trans ca (mn j v e).1,fun z=>absurd z (by lia)⟩
     ·refine⟨i+1,w,e,fun j v e=>?_⟩;cases j with
      |zero=>cases e;exact⟨by lia,fun _=>by lia⟩
      |succ j=>exact⟨(mn j v e).1,fun z=>(mn j v e).2 (by lia)⟩
  obtain⟨i,w,e,mn⟩:=fst (fun v=>Oo (P4 h (Pe v (LP h ps))) ps) _ c;exact⟨_,.inr ⟨i,w,e,rfl,mn⟩⟩
def CO{p:Dt}(D:dJ [p])(hz:bJ zs (N9 [p]))(rs:bY ys ([p].map LL)){y:Tr}(hy:y∈gK [p] zs ys w):y=(1,p.1,p.2.1):=by
 obtain⟨hG,lG⟩:=jJ D hz w;have R:=jH D hG lG rs;have O7:=R.O7 (cP (bS [p] zs) w).length;have own:=R.own (cP (bS [p] zs) w).length;rw[TC]at O7 own;obtain⟨yp,yg⟩:=(O7.2.2 y hy).1;have Sa:∀d:Tr,gd d p=0->JS d y=0:=fun d e=>by have a:=own d (fun q hq=>by rw[LQ.mp hq,e];exact Mf _) y hy;have b:=own (MU d) (fun q hq=>by rw[LQ.mp hq,oX,e];exact Mf _) y hy;rw[IG]at b;omega
 have e1:=Sa (-p.1,1,0) (by rw[cQ];dsimp only;omega);have e2:=Sa (-p.2.1,0,1) (by rw[cQ];dsimp only;omega);unfold JS at e1 e2;dsimp only at e1 e2;have f1:y.2.1=y.1*p.1:=by rw[Mw];have:-p.1*y.1=-(p.1*y.1):=Ms _ _;omega
 have f2:y.2.2=y.1*p.2.1:=by rw[Mw];have:-p.2.1*y.1=-(p.2.1*y.1):=Ms _ _;omega
 have y1:y.1=1:=by have e:=B9 y.1 1 p.1 p.2.1;rw[<- f1,<- f2,Int.mul_one,yg]at e;have:=Nat.eq_one_of_mul_eq_one_right e.symm;omega
 rw[y1,Po]at f1 f2;exact ME y1 (ME f1 f2)
def qv(D:dJ ps):0<aN ps:=by
 have nn:=D.nn;have w:=D.w;have ne:=D.ne;rw[qu];cases ps with
 |nil=>exact absurd rfl ne
 |cons p r =>
  have h1:=w p (by simp);have h2:=Jk (f:=fun _=>true) (ps:=r) fun q hq=>nn q (K0 _ hq)
  unfold wq;rw[JU rfl]
  lia
def rkT(a b:Tr):Int:=rk a.1 a.2.1 a.2.2 b.1 b.2.1 b.2.2
def stI(cs:yau)(f k:Nat):Nat:=if rkT (cs.getD k (0,0,0)) (cs.getD f (0,0,0))<0 then k else f
def ldI(cs:yau)(n:Nat):Nat:=(List.range' 0 n).foldl (stI cs) 0
def gJ(cs:yau):yau:=cs.drop (ldI cs cs.length)++cs.take (ldI cs cs.length)
def DL(cs:yau)(n:Nat):ldI cs (n+1)=stI cs (ldI cs n) n:=by unfold ldI;rw[List.range'_concat,List.foldl_append];simp
theorem o8(cs:yau):∀n,ldI cs n<=n/\(0<n->ldI cs n<n)
 |0=>⟨KO _,fun z=>absurd z (by lia)⟩
 |n+1=>by
  have:=o8 cs n;rw[DL];unfold stI;split
  ·lia
  ·have:=this.1
   lia
def ER{x:Tr}:x∈gJ cs↔x∈cs:=by unfold gJ;rw[KR,Or.comm,<- KR,OL]
def EO(cs:yau):(gJ cs).length=cs.length:=by
 have:=(o8 cs cs.length).1;unfold gJ;rw[LO,ON,NW]
 lia
def Ey{α:Type}{wi:DA}{P:List α->Prop}(f:α->D)(hw:∀R:yas->Prop,(∀ys,P ys->R (ys.map f))->wi ρ R)(h:∀ys,P ys->uy (fun _ R=>R (ys.map f)) g tb E ρ):uy wi g tb E ρ:=hw _ fun ys hy=>h ys hy
def Gj(xs:yas){k:Nat}(h:k<=xs.length):PD.cutD xs (some (k:Int)) none=xs.drop k:=by unfold PD.cutD;have e1:HT.Mz xs.length 0 (some (k:Int))=min k xs.length:=HT.jL _ _ k;have e2:HT.Mz xs.length xs.length none=xs.length:=rfl;rw[e1,e2,Qa h];exact Pg (by rw[ON];lia)
def uw(xs:yas){k:Nat}(h:k<=xs.length):PD.cutD xs none (some (k:Int))=xs.take k:=by unfold PD.cutD;have e1:HT.Mz xs.length 0 none=0:=rfl;have e2:HT.Mz xs.length xs.length (some (k:Int))=min k xs.length:=HT.jL _ _ k;rw[e1,e2,Qa h];rfl
theorem vq{α:Type}{R:α->α->Prop}(irr:∀a,¬R a a)(asy:∀a b,R a b->¬R b a):∀(xs ys:List α),xs.Pairwise R->ys.Pairwise R->(∀p,p∈xs↔p∈ys)->xs=ys
 |[],[],_,_,_=>rfl
 |[],y::_,_,_,h=>absurd ((h y).mpr MC) (by simp)
 |x::_,[],_,_,h=>absurd ((h x).mp MC) (by simp)
 |x::xs,y::ys,ox,oy,h=>by
  obtain⟨x1,x2⟩:=NV.mp ox;obtain⟨y1,y2⟩:=NV.mp oy;have exy:x=y:=by
   rcases Kr.mp ((h x).mp MC)with e|e
   ·exact e
   ·rcases Kr.mp ((h y).mpr MC)with e'|e'
    ·exact e'.symm
    ·exact absurd (x1 y e') (asy _ _ (y1 x e))
  subst exy;rw[vq irr asy xs ys x2 y2 fun p=>⟨fun hp=>?_,fun hp=>?_⟩]
  ·rcases Kr.mp ((h p).mp (K0 _ hp))with e|e
   ·have:=x1 p hp;rw[e]at this;exact absurd this (irr x)
   ·exact e
  ·rcases Kr.mp ((h p).mpr (K0 _ hp))with e|e
   ·have:=y1 p hp;rw[e]at this;exact absurd this (irr x)
   ·exact e
def sE(hx:bJ xs L)(hy:bJ ys L):xs=ys:=vq (fun _=>by unfold qL;lia) (fun _ _=>by unfold qL;lia) _ _ hx.1 hy.1 fun p=>(hx.2 p).trans (hy.2 p).symm
def sF(hx:bY xs L)(hy:bY ys L):xs=ys:=vq (fun _=>by lia) (fun _ _=>by lia) _ _ hx.1 hy.1 fun p=>(hx.2 p).trans (hy.2 p).symm
def A8{s4:DS}{ρ:Ro}(P:Ro->Prop)(h2:∀JY,P JY->s4 E JY)(h1:∀K:Ro->Prop,(∀JY,P JY->K JY)->kT s1 (kT s2 s3) {E with nx:=K} ρ):kT s1 (kT s2 (kT s3 s4)) E ρ:=h1 _ h2
def qQ(D:dJ ps)(hz:bJ zs (N9 ps))(rs:bY ys (ps.map LL)):∃y r,gJ (gK ps zs ys (aN ps - (aN ps+2).fdiv 3+1))=y::r/\y∈gK ps zs ys (aN ps - (aN ps+2).fdiv 3+1):=by
 have w0:=qv D;have f3:(aN ps+2).fdiv 3=(aN ps+2) / 3:=YK _ (by decide);have ne:=Hr D hz rs (l:=(aN ps+2).fdiv 3) (by lia) (by lia);have ll:=EO (gK ps zs ys (aN ps - (aN ps+2).fdiv 3+1));have lm:∀x,x∈gJ (gK ps zs ys (aN ps - (aN ps+2).fdiv 3+1))↔_:=fun x=>ER
 have lp:=VE.mpr ne;generalize gJ (gK ps zs ys (aN ps - (aN ps+2).fdiv 3+1))=M at ll lm ⊢;cases M with
 |nil=>rw[List.length_nil]at ll;lia
 |cons y r=>exact⟨y,r,rfl,(lm y).mp (by simp)⟩
def z9{a b:List Dt}:a.map Kh=b.map Kh↔a=b:=⟨Eo,fun e=>by rw[e]⟩
def yU{a b:List P5}:a.map bV=b.map bV↔a=b:=⟨CS,fun e=>by rw[e]⟩
def AS{a b:yat}:a.map Mm=b.map Mm↔a=b:=⟨Fn,fun e=>by rw[e]⟩
def Bh{a b:yat}:a.map Oj=b.map Oj↔a=b:=⟨FI,fun e=>by rw[e]⟩
def Bm{a b:yau}:a.map Kg=b.map Kg↔a=b:=⟨FK,fun e=>by rw[e]⟩
def AW:N7 a=N7 b↔a=b:=⟨Fo,fun e=>by rw[e]⟩
def z8:Kh a=Kh b↔a=b:=⟨xc,fun e=>by rw[e]⟩
def Ay{a b:yaf}:a.map D.int=b.map D.int↔a=b:=⟨wx,fun e=>by rw[e]⟩
local macro_rules | `(tactic| walk_at "p") => `(tactic| (apply propext; constructor; (intro h; repeat (first | (obtain ⟨e, h⟩ := h; revert e; simp only [T3, List.cons.injEq, D.int.injEq, D.tup.injEq, D.lst.injEq, and_true, true_and, and_imp, Ay, z9, yU, AS, Bh, Bm, AW, z8]; intros; subst_vars; assumption) | obtain ⟨_, h⟩ := h)); (intro q; first | exact ⟨rfl, q⟩ | exact ⟨_, rfl, q⟩ | exact ⟨_, _, rfl, q⟩ | exact ⟨_, _, _, rfl, q⟩ | exact ⟨_, _, _, _, rfl, q⟩ | exact ⟨_, _, _, _, _, rfl, q⟩ | exact ⟨_, _, _, _, _, _, rfl, q⟩ | exact ⟨_, _, _, _, _, _, _, rfl, q⟩ | exact ⟨_, _, _, _, _, _, _, _, rfl, q⟩ | exact ⟨_, _, _, _, _, _, _, _, _, rfl, q⟩)))
section
variable(κ:Lf)(Q:D->Prop)(Ed:Value->Prop)
abbrev mG(n:Int):Prop:=Q (.int (sg n))
def rH(κ:Lf):DSp:=fun ds Q Ed=>∃(n:Int),ds=[.int n]/\mG Q n
def za (n:Int):rH κ [.int n] Q Ed=mG Q n:=by walk_at "p"
abbrev cn(a:Int)(b:Int):Prop:=Q (.int (Int.gcd a b:Int))
def dN(κ:Lf):DSp:=fun ds Q Ed=>∃(a:Int) (b:Int),ds=[.int a,.int b]/\cn Q a b
def ky (a:Int) (b:Int):dN κ [.int a,.int b] Q Ed=cn Q a b:=by walk_at "p"
abbrev ic(x y z:Int)(l:Int):Prop:=¬(x=0/\y=0/\z=0)/\Bd 4000 x/\Bd 4000 y/\Bd 4000 z/\Q (T3 (x.fdiv (PM.Lm x y z l)) (y.fdiv (PM.Lm x y z l)) (z.fdiv (PM.Lm x y z l)))
def kC(κ:Lf):DSp:=fun ds Q Ed=>∃(x y z:Int) (l:Int),ds=[T3 x y z,.int l]/\ic Q x y z l
def tG (x y z:Int) (l:Int):kC κ [T3 x y z,.int l] Q Ed=ic Q x y z l:=by walk_at "p"
abbrev j7(n:Int)(s:Int):Prop:=∃m t:Nat,n=(m:Int)/\s=(t:Int)/\m<=60/\t<=3/\Q (.lst true ((Ol m t).map Om))
def nW(κ:Lf):DSp:=fun ds Q Ed=>∃(n:Int) (s:Int),ds=[.int n,.int s]/\j7 Q n s
def wO (n:Int) (s:Int):nW κ [.int n,.int s] Q Ed=j7 Q n s:=by walk_at "p"
abbrev kf(g0 g1 g2:Int)(p0 p1 p2:Int):Prop:=Bd 1000 g0/\Bd 1000 g1/\Bd 1000 g2/\Bd 1000 p0/\Bd 1000 p1/\Bd 1000 p2/\Q (.int (g0*p0+g1*p1+g2*p2))
def nZ(κ:Lf):DSp:=fun ds Q Ed=>∃(g0 g1 g2:Int) (p0 p1 p2:Int),ds=[T3 g0 g1 g2,T3 p0 p1 p2]/\kf Q g0 g1 g2 p0 p1 p2
def wU (g0 g1 g2:Int) (p0 p1 p2:Int):nZ κ [T3 g0 g1 g2,T3 p0 p1 p2] Q Ed=kf Q g0 g1 g2 p0 p1 p2:=by walk_at "p"
abbrev fK(g0 g1 g2:Int)(p0 p1 p2:Int):Prop:=Bd 1000 g0/\Bd 1000 g1/\Bd 1000 g2/\Bd 1000 p0/\Bd 1000 p1/\Bd 1000 p2/\Q (.int (sg (g0*p0+g1*p1+g2*p2)))
def fU(κ:Lf):DSp:=fun ds Q Ed=>∃(g0 g1 g2:Int) (p0 p1 p2:Int),ds=[T3 g0 g1 g2,T3 p0 p1 p2]/\fK Q g0 g1 g2 p0 p1 p2
def iq (g0 g1 g2:Int) (p0 p1 p2:Int):fU κ [T3 g0 g1 g2,T3 p0 p1 p2] Q Ed=fK Q g0 g1 g2 p0 p1 p2:=by walk_at "p"
abbrev fY(g0 g1 g2:Int):Prop:=Q (.bl (decide (g1=0/\g2=0)))
def ju(κ:Lf):DSp:=fun ds Q Ed=>∃(g0 g1 g2:Int),ds=[T3 g0 g1 g2]/\fY Q g0 g1 g2
def rC (g0 g1 g2:Int):ju κ [T3 g0 g1 g2] Q Ed=fY Q g0 g1 g2:=by walk_at "p"
abbrev hJ(a0 a1 a2:Int)(b0 b1 b2:Int):Prop:=Bd 200 a0/\Bd 200 a1/\Bd 200 a2/\Bd 200 b0/\Bd 200 b1/\Bd 200 b2/\Q (T3 (a1*b2 - b1*a2) (a2*b0 - b2*a0) (a0*b1 - b0*a1))
def kz(κ:Lf):DSp:=fun ds Q Ed=>∃(a0 a1 a2:Int) (b0 b1 b2:Int),ds=[T3 a0 a1 a2,T3 b0 b1 b2]/\hJ Q a0 a1 a2 b0 b1 b2
def tD (a0 a1 a2:Int) (b0 b1 b2:Int):kz κ [T3 a0 a1 a2,T3 b0 b1 b2] Q Ed=hJ Q a0 a1 a2 b0 b1 b2:=by walk_at "p"
abbrev mE(a0 a1 a2:Int)(b0 b1 b2:Int):Prop:=Bd 200 a0/\Bd 200 a1/\Bd 200 a2/\Bd 200 b0/\Bd 200 b1/\Bd 200 b2/\¬(a2*b0 - b2*a0=0/\a0*b1 - b0*a1=0)/\Q (Kg (yV (a1*b2 - b1*a2) (a2*b0 - b2*a0) (a0*b1 - b0*a1)))
def rE(κ:Lf):DSp:=fun ds Q Ed=>∃(a0 a1 a2:Int) (b0 b1 b2:Int),ds=[T3 a0 a1 a2,T3 b0 b1 b2]/\mE Q a0 a1 a2 b0 b1 b2
def y8 (a0 a1 a2:Int) (b0 b1 b2:Int):rE κ [T3 a0 a1 a2,T3 b0 b1 b2] Q Ed=mE Q a0 a1 a2 b0 b1 b2:=by walk_at "p"
abbrev j8(b:Int)(x:Int)(y:Int):Prop:=b≠0/\Bd 4000 b/\Bd 4000 x/\Bd 4000 y/\Q (HN b x y)
def nX(κ:Lf):DSp:=fun ds Q Ed=>∃(b:Int) (x:Int) (y:Int),ds=[.int b,.int x,.int y]/\j8 Q b x y
def wQ (b:Int) (x:Int) (y:Int):nX κ [.int b,.int x,.int y] Q Ed=j8 Q b x y:=by walk_at "p"
abbrev gc(a b:Int):Prop:=Q (T3 1 a b)
def jw(κ:Lf):DSp:=fun ds Q Ed=>∃(a b:Int),ds=[.tup [.int a,.int b]]/\gc Q a b
def rF (a b:Int):jw κ [.tup [.int a,.int b]] Q Ed=gc Q a b:=by walk_at "p"
abbrev jK(a0 a1 a2:Int)(b0 b1 b2:Int):Prop:=Bd 1000 a0/\Bd 1000 a1/\Bd 1000 a2/\Bd 1000 b0/\Bd 1000 b1/\Bd 1000 b2/\Q (.int (rk a0 a1 a2 b0 b1 b2))
def mI(κ:Lf):DSp:=fun ds Q Ed=>∃(a0 a1 a2:Int) (b0 b1 b2:Int),ds=[T3 a0 a1 a2,T3 b0 b1 b2]/\jK Q a0 a1 a2 b0 b1 b2
def p6 (a0 a1 a2:Int) (b0 b1 b2:Int):mI κ [T3 a0 a1 a2,T3 b0 b1 b2] Q Ed=jK Q a0 a1 a2 b0 b1 b2:=by walk_at "p"
abbrev iK(a0 a1 a2:Int)(b0 b1 b2:Int)(c0 c1 c2:Int):Prop:=Bd 1000 a0/\Bd 1000 a1/\Bd 1000 a2/\Bd 1000 b0/\Bd 1000 b1/\Bd 1000 b2/\Bd 1000 c0/\Bd 1000 c1/\Bd 1000 c2/\Q (.int (sw a0 a1 a2 b0 b1 b2 c0 c1 c2))
def kE(κ:Lf):DSp:=fun ds Q Ed=>∃(a0 a1 a2:Int) (b0 b1 b2:Int) (c0 c1 c2:Int),ds=[T3 a0 a1 a2,T3 b0 b1 b2,T3 c0 c1 c2]/\iK Q a0 a1 a2 b0 b1 b2 c0 c1 c2
def m6 (a0 a1 a2:Int) (b0 b1 b2:Int) (c0 c1 c2:Int):kE κ [T3 a0 a1 a2,T3 b0 b1 b2,T3 c0 c1 c2] Q Ed=iK Q a0 a1 a2 b0 b1 b2 c0 c1 c2:=by walk_at "p"
abbrev ie(p:Dt):Prop:=Q (.tup [.int p.1,.int p.2.1])
def kD(κ:Lf):DSp:=fun ds Q Ed=>∃(p:Dt),ds=[Kh p]/\ie Q p
def tH (p:Dt):kD κ [Kh p] Q Ed=ie Q p:=by walk_at "p"
abbrev gf(ps:List Dt):Prop:=ps.length<=60/\Q (.lst true ((ps.map LL).map Oj))
def jy(κ:Lf):DSp:=fun ds Q Ed=>∃(ps:List Dt),ds=[.lst false (ps.map Kh)]/\gf Q ps
def rJ (ps:List Dt):jy κ [.lst false (ps.map Kh)] Q Ed=gf Q ps:=by walk_at "p"
abbrev fh(ps:List Dt)(col:D):Prop:=∃cs:Int->Bool,oo col cs/\ps.length<=60/\Q (.lst true ((ps.filter fun p=>cs p.2.2.1).map Kh))
def iQ(κ:Lf):DSp:=fun ds Q Ed=>∃(ps:List Dt) (col:D),ds=[.lst false (ps.map Kh),col]/\fh Q ps col
def p4 (ps:List Dt) (col:D):iQ κ [.lst false (ps.map Kh),col] Q Ed=fh Q ps col:=by walk_at "p"
abbrev j9(ps:List Dt)(col:D):Prop:=∃cs:Int->Bool,oo col cs/\ps.length<=60/\Q (.int (QL cs ps))
def fV(κ:Lf):DSp:=fun ds Q Ed=>∃(ps:List Dt) (col:D),ds=[.lst false (ps.map Kh),col]/\j9 Q ps col
def wR (ps:List Dt) (col:D):fV κ [.lst false (ps.map Kh),col] Q Ed=j9 Q ps col:=by walk_at "p"
abbrev fk(ps:List Dt)(g0 g1 g2:Int)(col:D):Prop:=∃cs:Int->Bool,oo col cs/\ps.length<=60/\Bd 1000 g0/\Bd 1000 g1/\Bd 1000 g2/\(∀p∈ps,GD p)/\Q (.tup [.int (wt cs g0 g1 g2 (-1) ps),.int (wt cs g0 g1 g2 0 ps),.int (wt cs g0 g1 g2 1 ps)])
def fz(κ:Lf):DSp:=fun ds Q Ed=>∃(ps:List Dt) (g0 g1 g2:Int) (col:D),ds=[.lst false (ps.map Kh),T3 g0 g1 g2,col]/\fk Q ps g0 g1 g2 col
def kO (ps:List Dt) (g0 g1 g2:Int) (col:D):fz κ [.lst false (ps.map Kh),T3 g0 g1 g2,col] Q Ed=fk Q ps g0 g1 g2 col:=by walk_at "p"
abbrev iJ(ps:yat):Prop:=ps.length<64/\(∀p∈ps,SB p)/\Q (.lst true ((bj [] ps).reverse.map Mm))
def nU(κ:Lf):DSp:=fun ds Q Ed=>∃(ps:yat),ds=[.lst false (ps.map Mm)]/\iJ Q ps
def m5 (ps:yat):nU κ [.lst false (ps.map Mm)] Q Ed=iJ Q ps:=by walk_at "p"
abbrev mD(ps:yat):Prop:=ps.length<64/\(∀p∈ps,SB p)/\∀ys,bY ys ps->ys.length<=ps.length->Q (.lst true ((aP ys).map Mm))
def rB(κ:Lf):DSp:=fun ds Q Ed=>∃(ps:yat),ds=[.lst false (ps.map Oj)]/\mD Q ps
def y7 (ps:yat):rB κ [.lst false (ps.map Oj)] Q Ed=mD Q ps:=by walk_at "p"
abbrev cR(ps:List Dt)(ij:(Nat×Nat)):Prop:=ij.1<ps.length/\ij.2<ps.length/\Q (.bl (decide (LL (gp ps ij.1)≠LL (gp ps ij.2))))
def fy(κ:Lf):DSp:=fun ds Q Ed=>∃(ps:List Dt) (ij:(Nat×Nat)),ds=[.lst false (ps.map Kh),N7 ij]/\cR Q ps ij
def lO (ps:List Dt) (ij:(Nat×Nat)):fy κ [.lst false (ps.map Kh),N7 ij] Q Ed=cR Q ps ij:=by walk_at "p"
abbrev d9(ps:List Dt):Prop:=ps.length<=60/\Q (.lst true (((RO ps.length).filter fun ij=>decide (LL (gp ps ij.1)≠LL (gp ps ij.2))).map N7))
def gS(κ:Lf):DSp:=fun ds Q Ed=>∃(ps:List Dt),ds=[.lst false (ps.map Kh)]/\d9 Q ps
def nY (ps:List Dt):gS κ [.lst false (ps.map Kh)] Q Ed=d9 Q ps:=by walk_at "p"
abbrev fi(ps:List Dt)(ij:(Nat×Nat)):Prop:=ij.1<ps.length/\ij.2<ps.length/\(∀p∈ps,GD p)/\LL (gp ps ij.1)≠LL (gp ps ij.2)/\Q (Kg (QM (gp ps ij.1) (gp ps ij.2)))
def iR(κ:Lf):DSp:=fun ds Q Ed=>∃(ps:List Dt) (ij:(Nat×Nat)),ds=[.lst false (ps.map Kh),N7 ij]/\fi Q ps ij
def p5 (ps:List Dt) (ij:(Nat×Nat)):iR κ [.lst false (ps.map Kh),N7 ij] Q Ed=fi Q ps ij:=by walk_at "p"
abbrev dS(ps:List Dt)(ls:yau):Prop:=ps.length<=60/\(∀p∈ps,GD p)/\ls.length<=900/\(∀g∈ls,Bd 1000 g.1/\Bd 1000 g.2.1/\Bd 1000 g.2.2)/\∀ys,bJ ys ls->Q (.lst true (ys.map (vA ps)))
def jx(κ:Lf):DSp:=fun ds Q Ed=>∃(ps:List Dt) (ls:yau),ds=[.lst false (ps.map Kh),.lst false (ls.map Kg)]/\dS Q ps ls
def jN (ps:List Dt) (ls:yau):jx κ [.lst false (ps.map Kh),.lst false (ls.map Kg)] Q Ed=dS Q ps ls:=by walk_at "p"
abbrev d6(ps:List Dt):Prop:=ps.length<=30/\(∀p∈ps,GD p)/\Q (.lst true ((qO ps).map Kg))
def gR(κ:Lf):DSp:=fun ds Q Ed=>∃(ps:List Dt),ds=[.lst false (ps.map Kh)]/\d6 Q ps
def nV (ps:List Dt):gR κ [.lst false (ps.map Kh)] Q Ed=d6 Q ps:=by walk_at "p"
abbrev bX(a0 a1 a2:Int)(b0 b1 b2:Int)(g0 g1 g2:Int):Prop:=Bd 200 a0/\Bd 200 a1/\Bd 200 a2/\Bd 200 b0/\Bd 200 b1/\Bd 200 b2/\Bd 200 g0/\Bd 200 g1/\Bd 200 g2/\(KN (g0,g1,g2) (a0,a1,a2) (b0,b1,b2)).1≠0/\Q (Kg (bZ (g0,g1,g2) (a0,a1,a2) (b0,b1,b2)))
def cH(κ:Lf):DSp:=fun ds Q Ed=>∃(a0 a1 a2:Int) (b0 b1 b2:Int) (g0 g1 g2:Int),ds=[T3 a0 a1 a2,T3 b0 b1 b2,T3 g0 g1 g2]/\bX Q a0 a1 a2 b0 b1 b2 g0 g1 g2
def fD (a0 a1 a2:Int) (b0 b1 b2:Int) (g0 g1 g2:Int):cH κ [T3 a0 a1 a2,T3 b0 b1 b2,T3 g0 g1 g2] Q Ed=bX Q a0 a1 a2 b0 b1 b2 g0 g1 g2:=by walk_at "p"
abbrev fe(cs:yau)(g0 g1 g2:Int):Prop:=cs.length<=1000000/\(∀p∈cs,0<p.1/\CB 40 p)/\Bd 200 g0/\Bd 200 g1/\Bd 200 g2/\Q (.lst true ((dj (g0,g1,g2) cs).map Kg))
def ip(κ:Lf):DSp:=fun ds Q Ed=>∃(cs:yau) (g0 g1 g2:Int),ds=[.lst false (cs.map Kg),T3 g0 g1 g2]/\fe Q cs g0 g1 g2
def kN (cs:yau) (g0 g1 g2:Int):ip κ [.lst false (cs.map Kg),T3 g0 g1 g2] Q Ed=fe Q cs g0 g1 g2:=by walk_at "p"
abbrev iZ(cs:yau)(gs:yau):Prop:=gs.length<=1000/\(∀j,j<gs.length->(bq (gs.take j) cs).length<=1000000/\∀p∈bq (gs.take j) cs,0<p.1/\CB 40 p)/\(∀g∈gs,Bd 200 g.1/\Bd 200 g.2.1/\Bd 200 g.2.2)/\∀t:Bool,Q (.lst t ((bq gs cs).map Kg))
def lN(κ:Lf):DSp:=fun ds Q Ed=>∃(cs:yau) (gs:yau),ds=[.lst false (cs.map Kg),.lst false (gs.map Kg)]/\iZ Q cs gs
def vM (cs:yau) (gs:yau):lN κ [.lst false (cs.map Kg),.lst false (gs.map Kg)] Q Ed=iZ Q cs gs:=by walk_at "p"
abbrev pN(cs:yau):Prop:=cs.length<=1000000/\(∀p∈cs,CB 40 p)/\Q (.lst true ((gJ cs).map Kg))
def vN(κ:Lf):DSp:=fun ds Q Ed=>∃(cs:yau),ds=[.lst false (cs.map Kg)]/\pN Q cs
def Bf (cs:yau):vN κ [.lst false (cs.map Kg)] Q Ed=pN Q cs:=by walk_at "p"
abbrev d5(ps:List Dt):Prop:=ps.length<=60/\Q (.lst true ((XA ps).map Kg))
def gQ(κ:Lf):DSp:=fun ds Q Ed=>∃(ps:List Dt),ds=[.lst false (ps.map Kh)]/\d5 Q ps
def nT (ps:List Dt):gQ κ [.lst false (ps.map Kh)] Q Ed=d5 Q ps:=by walk_at "p"
abbrev dR(g0 g1 g2:Int):Prop:=Q (T3 (-g0) (-g1) (-g2))
def gn(κ:Lf):DSp:=fun ds Q Ed=>∃(g0 g1 g2:Int),ds=[T3 g0 g1 g2]/\dR Q g0 g1 g2
def jM (g0 g1 g2:Int):gn κ [T3 g0 g1 g2] Q Ed=dR Q g0 g1 g2:=by walk_at "p"
abbrev dD(ps:List Dt):Prop:=ps.length<=20/\(∀p∈ps,GD p)/\∀zs,bJ zs (N9 ps)->Q (.lst true ((bS ps zs).map bV))
def fP(κ:Lf):DSp:=fun ds Q Ed=>∃(ps:List Dt),ds=[.lst false (ps.map Kh)]/\dD Q ps
def mL (ps:List Dt):fP κ [.lst false (ps.map Kh)] Q Ed=dD Q ps:=by walk_at "p"
abbrev mF(xs:List P5)(w:Int):Prop:=xs.length<=2000/\Q (.lst true ((cP xs w).map Kg))
def rG(κ:Lf):DSp:=fun ds Q Ed=>∃(xs:List P5) (w:Int),ds=[.lst false (xs.map bV),.int w]/\mF Q xs w
def y9 (xs:List P5) (w:Int):rG κ [.lst false (xs.map bV),.int w] Q Ed=mF Q xs w:=by walk_at "p"
abbrev hU(ps:List Dt):Prop:=ps.length<=20/\(∀p∈ps,GD p)/\∀ys,bY ys (ps.map LL)->Q (.lst true (((aP ys).map sT).map Kg))
def kA(κ:Lf):DSp:=fun ds Q Ed=>∃(ps:List Dt),ds=[.lst false (ps.map Kh)]/\hU Q ps
def tE (ps:List Dt):kA κ [.lst false (ps.map Kh)] Q Ed=hU Q ps:=by walk_at "p"
abbrev cG(ps:List Dt)(xs:List P5)(l:Int):Prop:=dJ ps/\(∃zs,bJ zs (N9 ps)/\xs=bS ps zs)/\∀zs ys,bJ zs (N9 ps)->bY ys (ps.map LL)->Q (.lst true ((gJ (gK ps zs ys (aN ps - l+1))).map Kg))
def eR(κ:Lf):DSp:=fun ds Q Ed=>∃(ps:List Dt) (xs:List P5) (l:Int),ds=[.lst false (ps.map Kh),.lst false (xs.map bV),.int l]/\cG Q ps xs l
def kP (ps:List Dt) (xs:List P5) (l:Int):eR κ [.lst false (ps.map Kh),.lst false (xs.map bV),.int l] Q Ed=cG Q ps xs l:=by walk_at "p"
abbrev i4(ps:List Dt)(l:Int):Prop:=dJ ps/\1<=l/\l<=aN ps/\∀zs ys,bJ zs (N9 ps)->bY ys (ps.map LL)->Q (.lst true ((gJ (gK ps zs ys (aN ps - l+1))).map Kg))
def lQ(κ:Lf):DSp:=fun ds Q Ed=>∃(ps:List Dt) (l:Int),ds=[.lst false (ps.map Kh),.int l]/\i4 Q ps l
def vO (ps:List Dt) (l:Int):lQ κ [.lst false (ps.map Kh),.int l] Q Ed=i4 Q ps l:=by walk_at "p"
abbrev eV(ps:List Dt):Prop:=(ps=[]/\Ed (.ref κ.TooFew))∨(dJ ps/\∀zs ys,bJ zs (N9 ps)->bY ys (ps.map LL)->Q (Kg ((gJ (gK ps zs ys (aN ps - (aN ps+2).fdiv 3+1))).getD 0 (0,0,0))))
def i7(κ:Lf):DSp:=fun ds Q Ed=>∃(ps:List Dt),ds=[.lst false (ps.map Kh)]/\eV κ Q Ed ps
def iP (ps:List Dt):i7 κ [.lst false (ps.map Kh)] Q Ed=eV κ Q Ed ps:=by walk_at "p"
abbrev fg(a:Int):Prop:=Q (.bl true)
def iO(κ:Lf):DSp:=fun ds Q Ed=>∃(a:Int),ds=[.int a]/\fg Q a
def pZ (a:Int):iO κ [.int a] Q Ed=fg Q a:=by walk_at "p"
abbrev dE(ns:yaf)(k:Int):Prop:=0<=k/\ns.length<=63/\∀v:Int,Q (.int v)
def fQ(κ:Lf):DSp:=fun ds Q Ed=>∃(ns:yaf) (k:Int),ds=[.lst false (ns.map D.int),.int k]/\dE Q ns k
def mM (ns:yaf) (k:Int):fQ κ [.lst false (ns.map D.int),.int k] Q Ed=dE Q ns k:=by walk_at "p"
abbrev dF(a:Int)(b:Int):Prop:=Q (.int (Int.gcd a b:Int))
def fR(κ:Lf):DSp:=fun ds Q Ed=>∃(a:Int) (b:Int),ds=[.int a,.int b]/\dF Q a b
def mO (a:Int) (b:Int):fR κ [.int a,.int b] Q Ed=dF Q a b:=by walk_at "p"
abbrev ib(c:Int)(k:Int)(v:Int):Prop:=0<=v/\v<=2/\∀p:Dt,GD p->Bd 40 p.1->Bd 40 p.2.1->0<p.2.2.2->Q (Kh p)
def kB(κ:Lf):DSp:=fun ds Q Ed=>∃(c:Int) (k:Int) (v:Int),ds=[.int c,.int k,.int v]/\ib Q c k v
def tF (c:Int) (k:Int) (v:Int):kB κ [.int c,.int k,.int v] Q Ed=ib Q c k v:=by walk_at "p"
abbrev fZ(ns:yaf)(s:Int)(m:Int):Prop:=ns.length<=63/\s=2/\(m=12∨m=20)/\∀ps:List Dt,dJ ps->Q (.lst true (ps.map Kh))
def jv(κ:Lf):DSp:=fun ds Q Ed=>∃(ns:yaf) (s:Int) (m:Int),ds=[.lst false (ns.map D.int),.int s,.int m]/\fZ Q ns s m
def rD (ns:yaf) (s:Int) (m:Int):jv κ [.lst false (ns.map D.int),.int s,.int m] Q Ed=fZ Q ns s m:=by walk_at "p"
abbrev cZ(ps:List Dt)(h0 h1 h2:Int):Prop:=ps.length<=30/\(∀p∈ps,GD p)/\(∀p∈ps,0<=p.2.2.2)/\HB (h0,h1,h2)/\∀n:Int,(∀g:Tr,IsL (h0,h1,h2) ps g->n=Oo g ps)->Q (.int n)
def fx(κ:Lf):DSp:=fun ds Q Ed=>∃(ps:List Dt) (h0 h1 h2:Int),ds=[.lst false (ps.map Kh),T3 h0 h1 h2]/\cZ Q ps h0 h1 h2
def i6 (ps:List Dt) (h0 h1 h2:Int):fx κ [.lst false (ps.map Kh),T3 h0 h1 h2] Q Ed=cZ Q ps h0 h1 h2:=by walk_at "p"
abbrev b9(h0 h1 h2:Int):Prop:=Pr (h0,h1,h2)/\Q (.bl true)
def cS(κ:Lf):DSp:=fun ds Q Ed=>∃(h0 h1 h2:Int),ds=[T3 h0 h1 h2]/\b9 Q h0 h1 h2
def gE (h0 h1 h2:Int):cS κ [T3 h0 h1 h2] Q Ed=b9 Q h0 h1 h2:=by walk_at "p"
abbrev dG  : Prop:=Q (.bl true)
def fT(κ:Lf):DSp:=fun ds Q Ed=>ds=[]/\dG Q
def mP  : fT κ [] Q Ed=dG Q:=by walk_at "p"
end
section
variable(P:Program)(w:World)(K:yac)(mg:yam)(base:Heap)(κ:Lf)
abbrev zv:Prop:=Ls P w K mg base "sign" 1 ["number"] (rH κ)
abbrev ng:Prop:=Ls P w K mg base "common_divisor" 1 ["one", "other"] (dN κ)
abbrev rL:Prop:=Ls P w K mg base "reduced" 2 ["triple", "lead"] (kC κ)
abbrev D7:Prop:=Ls P w K mg base "picks" 1 ["count", "size"] (nW κ)
abbrev wY:Prop:=Ls P w K mg base "value" 1 ["gauge", "place"] (nZ κ)
abbrev zu:Prop:=Ls P w K mg base "side" 2 ["gauge", "place"] (fU κ)
abbrev xQ:Prop:=Ls P w K mg base "is_level" 1 ["gauge"] (ju κ)
abbrev zq:Prop:=Ls P w K mg base "crossed" 1 ["one", "other"] (kz κ)
abbrev FX:Prop:=Ls P w K mg base "line" 3 ["one", "other"] (rE κ)
abbrev D8:Prop:=Ls P w K mg base "place" 3 ["by", "x", "y"] (nX κ)
abbrev jR:Prop:=Ls P w K mg base "place_of" 1 ["spot"] (jw κ)
abbrev FY:Prop:=Ls P w K mg base "rank" 2 ["one", "other"] (mI κ)
abbrev D9:Prop:=Ls P w K mg base "swing" 1 ["one", "two", "three"] (kE κ)
abbrev iU:Prop:=Ls P w K mg base "spot_of" 1 ["dot"] (kD κ)
abbrev xU:Prop:=Ls P w K mg base "spots_of" 2 ["dots"] (jy κ)
abbrev mQ:Prop:=Ls P w K mg base "of_colour" 1 ["dots", "colour"] (iQ κ)
abbrev D6:Prop:=Ls P w K mg base "chain" 2 ["places"] (nU κ)
abbrev FW:Prop:=Ls P w K mg base "hull" 3 ["spots"] (rB κ)
abbrev qr:Prop:=Ls P w K mg base "on_two_spots" 2 ["dots", "pair"] (fy κ)
abbrev tY:Prop:=Ls P w K mg base "spot_pairs" 3 ["dots"] (gS κ)
abbrev vV:Prop:=Ls P w K mg base "pair_line" 4 ["dots", "pair"] (iR κ)
abbrev xT:Prop:=Ls P w K mg base "split_by" 4 ["dots", "lines"] (jx κ)
abbrev tW:Prop:=Ls P w K mg base "pair_lines" 5 ["dots"] (gR κ)
abbrev oq:Prop:=Ls P w K mg base "place_between" 4 ["one", "other", "gauge"] (cH κ)
abbrev zo:Prop:=Ls P w K mg base "clipped" 5 ["corners", "gauge"] (ip κ)
abbrev By:Prop:=Ls P w K mg base "common" 6 ["corners", "gauges"] (lN κ)
abbrev Iq:Prop:=Ls P w K mg base "led" 3 ["corners"] (vN κ)
abbrev tU:Prop:=Ls P w K mg base "axis_lines" 1 ["dots"] (gQ κ)
abbrev xS:Prop:=Ls P w K mg base "opposite" 1 ["gauge"] (gn κ)
abbrev sQ:Prop:=Ls P w K mg base "half_planes" 6 ["dots"] (fP κ)
abbrev FZ:Prop:=Ls P w K mg base "rims" 1 ["planes", "weight"] (rG κ)
abbrev zr:Prop:=Ls P w K mg base "hull_of" 4 ["dots"] (kA κ)
abbrev ot:Prop:=Ls P w K mg base "region_within" 7 ["dots", "planes", "least"] (eR κ)
abbrev tX:Prop:=Ls P w K mg base "region" 8 ["dots", "least"] (lQ κ)
abbrev tV:Prop:=Ls P w K mg base "middle" 9 ["dots"] (i7 κ)
abbrev vU:Prop:=Ls P w K mg base "_law_whole" 1 ["_law_found"] (iO κ)
abbrev kK:Prop:=Ls P w K mg base "_law_cell_at" 1 ["_law_script", "_law_k"] (fQ κ)
abbrev sS:Prop:=Ls P w K mg base "_law_divisor" 1 ["_law_one", "_law_other"] (fR κ)
abbrev zt:Prop:=Ls P w K mg base "_law_dot" 1 ["_law_cell", "_law_kind", "_law_heavy"] (kB κ)
abbrev xR:Prop:=Ls P w K mg base "_law_dots" 2 ["_law_script", "_law_start", "_law_most"] (jv κ)
abbrev vT:Prop:=Ls P w K mg base "_law_depth" 1 ["_law_dots_here", "_law_here"] (fx κ)
abbrev qq:Prop:=Ls P w K mg base "_law_is_place" 2 ["_law_found"] (cS κ)
abbrev sU:Prop:=Ls P w K mg base "_law_refused" 10 [] (fT κ)
end
local macro_rules | `(tactic| walk_at "l") => `(tactic| (intro ds Q E h; repeat (first | (obtain ⟨e, _⟩ := h; subst e; rfl) | obtain ⟨_, h⟩ := h)))
section
variable{P:Program}{w:World}{K:yac}{mg:yam}{base:Heap}{κ:Lf}{f:Addr}{fd:FuncData}
def JI(x:Str)(N:yah)(d:D)(ds:yas):cC (x::N) (d::ds)=some (.val d)::cC N ds:=by unfold cC;simp
def JK(x:Str)(N:yah):cC (x::N) []=none::cC N []:=by unfold cC;simp[List.replicate_succ]
theorem JJ:cC [] []=[]:=rfl
local macro_rules | `(tactic| walk_at "s") => `(tactic| simp only [JI, JK, JJ])
local macro_rules | `(tactic| walk_at "x") => `(tactic| try simp only [kT, Dz, BU, GA, Gu, U6, dB, Gm, dOr, Gx, Dw, DB, dIf, uz, dC, oI, uA, GF, BS, lW, Y7, dIs, GG, GH, Je, Jf, qX, fJ, HU, HW, He, CF, E2, CG, E5, me, Ab, Ac, Hh, Dy, Gy, w6, w8, Ew, Ex, ux, G9, Hb, Ha, List.map_cons, List.map_nil, G8, cc, Dh, sM, Br, Bp, da, Bq, cJ, cg, wW, CW, vt, IB, GW, Et, Sa, at1, at2, at3, List.append_nil, List.cons_append, List.nil_append, ES, ET, HI, EK, EJ, As, EI, yw, Aq, Ar, Ao, An, true_and, Gv, BW, Gk, FO, Am, false_and, and_false, false_or, or_false, exists_false, yn, DC, Fy, Fx, oW, Gz, Bool.false_eq_true, Bool.true_eq_false, if_false, if_true, decide_eq_true_eq, Bool.not_eq_eq_eq_not, Bool.not_true, Bool.not_false, decide_eq_false_iff_not, ite_not, zA, zB, Gr, Dx, zP, zY, DI, DF, zR, Gw, GC, GB, DD, oJ, dm, Gn, Iy, yj, zQ, GX, GY, FE, BC, zO, List.set_cons_zero, List.set_cons_succ, w7, IC, za, ky, tG, wO, wU, iq, rC, tD, y8, wQ, rF, p6, m6, tH, rJ, p4, wR, kO, m5, y7, lO, nY, p5, jN, nV, fD, kN, vM, Bf, nT, jM, mL, y9, tE, kP, vO, iP, pZ, mM, mO, tF, rD, i6, gE, mP, mG, cn, ic, j7, kf, fK, fY, hJ, mE, j8, gc, jK, iK, ie, gf, fh, j9, fk, iJ, mD, cR, d9, fi, dS, d6, bX, fe, iZ, pN, d5, dR, dD, mF, hU, cG, i4, eV, fg, dE, dF, ib, fZ, cZ, b9, dG, vP, zd, n6, qa, eT, qb, m8, sJ, Di, G8, G7, wX, sN])
def Fd (F:av K "sign" "sign" vF f fd) (C:Lx K mg κ)    : aI P w K mg base (CX1 P w) 1 f fd ["number"] (aJ K (rH κ)):=by
 refine av.okN F FD (by walk_at "l") fun Ks A outer s H E hr=>⟨_,(ah (bg (aK pF (dv 0) aa) (ao (ay aa)) aQ) (ah (bg (aK dA (dv 0) aa) (ao (ay (bU aa))) aQ) (ao (ay aa)))),?_⟩
 rintro ds Q Ed ⟨n,rfl,h⟩;walk_at "s";unfold mG at h;walk_at "x";unfold sg at h;split
 ·rename_i h0;rw[JU h0]at h;exact h
 ·rename_i h0;rw[JT h0]at h;split
  ·rename_i h1;rw[JU h1]at h;exact h
  ·rename_i h1;rw[JT h1]at h;exact h
def mK (F:av K "common_divisor" "common_divisor" eK f fd) (C:Lx K mg κ)   (Mn:mg "abs" = none):aI P w K mg base (CX1 P w) 1 f fd ["one", "other"] (aJ K (dN κ)):=by
 refine av.okN F cq (by walk_at "l") fun Ks A outer s H E hr=>⟨_,(ah (nq PassesOwn.never (aK lh (dv 1) aa) (ah (az 2 cq.nd (ai bA (dv 0) (dv 1))) (ah (az 0 cq.nd (dv 1)) (ao (az 1 cq.nd (dv 2)))))) (ao (ay (br ue (by rfl) Mn boot_abs (ae (dv 0) ag))))),?_⟩
 rintro ds Q Ed ⟨a,b,rfl,h⟩;walk_at "s";unfold cn at h;refine⟨fun m ρ=>∃(x y:Int) (r:Option Sl),ρ=[some (.val (.int x)),some (.val (.int y)),r]/\Int.gcd x y=Int.gcd a b/\m=y.natAbs,⟨_,a,b,none,rfl,rfl,rfl⟩,?_⟩;rintro m ρ ⟨x,y,r,rfl,hg,rfl⟩;walk_at "x";by_cases hy:y=0
 ·subst hy;rw[PM.sd]at hg;rw[JU rfl,hg];exact h
 ·rw[JT hy];exact⟨hy,_,PM.rZ x hy,y,x.fmod y,_,rfl,(PM.uO x y).trans hg,rfl⟩
def yN (F:av K "reduced" "reduced" lJ f fd) (C:Lx K mg κ)  (KQ:ng P w K mg base κ)  : aI P w K mg base (CX1 P w) 2 f fd ["triple", "lead"] (aJ K (kC κ)):=by
 refine av.okN F kr (by walk_at "l") fun Ks A outer s H E hr=>⟨_,(ah (az 2 kr.nd (au KQ hr (ae (au KQ hr (ae (ak (dv 0) aa) (ae (ak (dv 0) aa) ag))) (ae (ak (dv 0) aa) ag)))) (ah (bg (aK dA (dv 1) aa) (ao (az 2 kr.nd (bU (dv 2)))) aQ) (ao (ay (bO (ae (ai b6 (ak (dv 0) aa) (dv 2)) (ae (ai b6 (ak (dv 0) aa) (dv 2)) (ae (ai b6 (ak (dv 0) aa) (dv 2)) ag)))))))),?_⟩
 rintro ds Q Ed ⟨x,y,z,l,rfl,h⟩;walk_at "s";unfold ic at h;obtain⟨hz,bx,by',bz,h⟩:=h;have LY:=PM.oR (l:=l) hz;have hbd:=(zD (l:=l) hz bx by' bz).mono (show 4000<=8000 by decide);walk_at "x";have eg:((Int.gcd (Int.gcd x y:Int) z:Nat):Int)=(PM.g3 x y z:Int):=rfl;rw[eg];have fin:∀g:Int,g=PM.Lm x y z l->CD x g/\CD y g/\CD z g/\([D.int (x.fdiv g),.int (y.fdiv g),.int (z.fdiv g)]:yas).length<=sizeLine/\Q (.tup [.int (x.fdiv g),.int (y.fdiv g),.int (z.fdiv g)]):=by rintro g rfl;exact⟨⟨LY,hbd⟩,⟨LY,hbd⟩,⟨LY,hbd⟩,QC _ _ _,h⟩
 by_cases hl:l<0
 ·rw[JU (by simpa using hl)];exact fin _ (by unfold PM.Lm;rw[JU hl])
 ·rw[JT (by simpa using hl)];exact fin _ (by unfold PM.Lm;rw[JT hl])
def CI (F:av K "picks" "picks" mH f fd) (C:Lx K mg κ)   (KD:mg "range" = none):aI P w K mg base (CX1 P w) 1 f fd ["count", "size"] (aJ K (nW κ)):=by
 refine av.okN F eN (by walk_at "l") fun Ks A outer s H E hr=>⟨_,(ah (az 2 eN.nd (iD (ae (iD ag) ag))) (ah (cK PassesOwn.never rfl (iW (by rfl) KD (ae (dv 1) ag)) (bw 3 eN.nd) (ah (iF 4 eN.nd ag) (ah (cK PassesOwn.never rfl (bc (dv 2)) (bw 5 eN.nd) (ah (az 6 eN.nd (uF (aK pF (dv 3) aa) (ai aS (ak (dv 5) (bU aa)) aa) aa)) (ao (zZ 4 (b5 (by rfl) (by exact bK (osc:=aj mH) (xs:=["number"]) (ns:=["pick"]) (by decide +kernel)) (bC.cons 5 bC.nil) (Ak (by rfl) KD (ae (dv 6) (ae (dv 0) ag))) (fun _ _ _ _ _=>dU) (fun _ _ _ _ _=>(ai aS (dv 1) (iD (ae (dv 0) ag))))))))) (cF 4 (ao (az 2 eN.nd (dv 4))))))) (ao (ay (dv 2))))),?_⟩
 rintro ds Q Ed ⟨n,s,rfl,h⟩;walk_at "s";unfold j7 at h;obtain⟨m,t,rfl,rfl,hm,ht,h⟩:=h;have sz:∀j,j<=3->(Ol m j).length<=216000:=fun j hj=>LZ (mz m j) (LZ (Nat.pow_le_pow_left hm j) (LZ (VC (by decide) hj) (by decide)))
 walk_at "x";refine⟨Mx _,by rw[sizeLine_eq];decide,?_⟩;refine PD.jX (List.range' 0 t) (fun(k:Nat)=>D.int (k:Int)) (fun j ρ=>∃v3 v4 v5 v6:Option Sl,ρ=[some (.val (.int m)),some (.val (.int t)),some (.val (.lst true ((Ol m j).map Om))),v3,v4,v5,v6]) (fun R q=>?_) ⟨none,none,none,none,rfl⟩ ?_ ?_
 ·walk_at "x";rw[yW];exact⟨⟨by lia,by lia⟩,q⟩
 ·rintro j x JY hx ⟨v3,v4,v5,v6,rfl⟩;obtain⟨hj,ex⟩:=MZ.mp hx;rw[P8]at hj;rw[List.getElem_range']at ex;have ex':x=j:=by lia
  subst ex';walk_at "x";refine⟨Mx _,?_⟩;refine PD.eU (Ol m x) Om (fun done ρ=>∃v5 v6:Option Sl,ρ=[some (.val (.int m)),some (.val (.int t)),some (.val (.lst true ((Ol m x).map Om))),some (.val (.int x)),some (.own ((done.flatMap (NR m)).map Om)),v5,v6]) (fun R q=>?_) ⟨_,_,rfl⟩ ?_ ?_
  ·walk_at "x";exact q
  ·rintro done pk Ml hpk Mc ⟨v5,v6,rfl⟩;obtain⟨hlen,hlt'⟩:=xn hpk;have hf:eZ pk<=m:=by
    unfold eZ;cases e:pk.getLast? with
    |none=>exact Mx _
    |some l=>have:=hlt' l (List.mem_of_getLast? e);exact this
   have dl:done.length*m<=216000*60:=Nat.mul_le_mul (LZ (QU Mc) (sz x (by lia))) hm;have fl:=uM m done;have nl:(NR m pk).length<=60:=by unfold NR;rw[J6,P8];lia
   have rest:∀(v:D) (Qd:D->Prop),v=.int (eZ pk)->Qd (.lst true ((NR m pk).map Om))->oH (yn (oI (je 6) (oI (je 0) uA))) [5] ux (U6 tO (je 1) (BS (oI (je 0) uA))) [some (.val (.int m)),some (.val (.int t)),some (.val (.lst true ((Ol m x).map Om))),some (.val (.int x)),some (.own ((done.flatMap (NR m)).map Om)),some (.val (Om pk)),some (.val v)] Qd:=by
    rintro v Qd rfl hQ;refine PD.comp_map (List.range' (eZ pk) (m - eZ pk)) (fun(k:Nat)=>D.int (k:Int)) (fun _=>true) (fun k=>Om (pk++[k])) (fun R q=>?_) (by rw[P8,sizeLine_eq];lia) (fun k hk K hK=>?_) (fun k hk _ K hK=>?_) ?_
    ·walk_at "x";rw[Fz];exact⟨⟨by lia,by lia⟩,⟨by lia,by lia⟩,q⟩
    ·walk_at "x";exact hK
    ·unfold Om at hK ⊢;walk_at "x";rw[Na]at hK;refine⟨S1 _,?_,hK⟩;rw[J6,sizeLine_eq,hlen];show x+1<=_
     lia
    ·rw[Qt.mpr (fun _ _=>rfl)];unfold NR at hQ;rw[MX]at hQ;exact hQ
   have end_:∀v:D,∃xs,D.lst true ((NR m pk).map Om)=D.lst true xs/\(List.map Om (List.flatMap (NR m) done)).length+xs.length<=sizeLine/\∃v5 v6:Option Sl,([some (Sl.val (D.int m)),some (Sl.val (D.int t)),some (Sl.val (D.lst true (List.map Om (Ol m x)))),some (Sl.val (D.int x)),some (Sl.own (List.map Om (List.flatMap (NR m) done)++xs)),some (Sl.val (Om pk)),some (Sl.val v)]:Ro)=[some (Sl.val (D.int m)),some (Sl.val (D.int t)),some (Sl.val (D.lst true (List.map Om (Ol m x)))),some (Sl.val (D.int x)),some (Sl.own (List.map Om (List.flatMap (NR m) (done++[pk])))),v5,v6]:=fun v =>
    ⟨_,rfl,by rw[J6,J6,sizeLine_eq];lia,_,_,by rw[List.flatMap_append,Na,List.flatMap_singleton]⟩
   walk_at "x";by_cases hx0:x=0
   ·subst hx0;have:pk=[]:=To hlen;subst this;rw[JT (by lia)];exact rest _ _ rfl (end_ _)
   ·rw[JU (by lia)];have LY:pk ≠ []:=fun e=>hx0 (by rw[<- hlen,e];rfl)
    show qY (.lst true (pk.map fun(k:Nat)=>D.int (k:Int))) _ _;rw[vt];refine Ec LY ?_;rw[zA];exact rest _ _ (by congr 1;lia) (end_ _)
  ·rintro Ml ⟨v5,v6,rfl⟩;walk_at "x";exact⟨_,_,_,_,rfl⟩
 ·rintro JY ⟨v3,v4,v5,v6,rfl⟩;walk_at "x";rw[P8];exact h
def CN (F:av K "value" "value" rh f fd) (C:Lx K mg κ)    : aI P w K mg base (CX1 P w) 1 f fd ["gauge", "place"] (aJ K (nZ κ)):=by
 refine av.okN F C9 (by walk_at "l") fun Ks A outer s H E hr=>⟨_,(ao (ay (ai aS (ai aS (ai aE (ak (dv 0) aa) (ak (dv 1) aa)) (ai aE (ak (dv 0) aa) (ak (dv 1) aa))) (ai aE (ak (dv 0) aa) (ak (dv 1) aa))))),?_⟩
 rintro ds Q Ed ⟨g0,g1,g2,p0,p1,p2,rfl,h⟩;walk_at "s";unfold kf at h;obtain⟨h0,h1,h2,k0,k1,k2,h⟩:=h;have cm:∀{x y:Int},Bd 1000 x->Bd 1000 y->CM x y:=fun hx hy=>.inr (.inr ⟨hx.mono (by decide),hy.mono (by decide)⟩)
 walk_at "x";exact⟨cm h0 k0,cm h1 k1,cm h2 k2,h⟩
def Fc (F:av K "side" "side" vE f fd) (C:Lx K mg κ)  (MF:zv P w K mg base κ) (L5:wY P w K mg base κ)  : aI P w K mg base (CX1 P w) 2 f fd ["gauge", "place"] (aJ K (fU κ)):=by
 refine av.okN F FC (by walk_at "l") fun Ks A outer s H E hr=>⟨_,(ao (ay (au MF hr (ae (au L5 hr (ae (dv 0) (ae (dv 1) ag))) ag)))),?_⟩
 rintro ds Q Ed ⟨g0,g1,g2,p0,p1,p2,rfl,h⟩;walk_at "s";unfold fK at h;obtain⟨h0,h1,h2,k0,k1,k2,h⟩:=h;walk_at "x";exact⟨h0,h1,h2,k0,k1,k2,h⟩
def wA (F:av K "is_level" "is_level" kg f fd) (C:Lx K mg κ)    : aI P w K mg base (CX1 P w) 1 f fd ["gauge"] (aJ K (ju κ)):=by
 refine av.okN F wH (by walk_at "l") fun Ks A outer s H E hr=>⟨_,(ao (ay (oK (cT bP (ak (dv 0) aa) aa) (oN (cT bP (ak (dv 0) aa) aa))))),?_⟩
 rintro ds Q Ed ⟨g0,g1,g2,rfl,h⟩;walk_at "s";unfold fY at h;walk_at "x";by_cases e1:g1=0
 ·rw[JU e1];by_cases e2:g2=0
  ·rw[Mb e2];rw[Mb ⟨e1,e2⟩]at h;exact h
  ·rw[Qb e2];rw[Qb (fun z=>e2 z.2)]at h;exact h
 ·rw[JT e1];rw[Qb (fun z=>e1 z.1)]at h;exact h
def yJ (F:av K "crossed" "crossed" lE f fd) (C:Lx K mg κ)    : aI P w K mg base (CX1 P w) 1 f fd ["one", "other"] (aJ K (kz κ)):=by
 refine av.okN F yY (by walk_at "l") fun Ks A outer s H E hr=>⟨_,(ao (ay (bO (ae (ai aX (ai aE (ak (dv 0) aa) (ak (dv 1) aa)) (ai aE (ak (dv 1) aa) (ak (dv 0) aa))) (ae (ai aX (ai aE (ak (dv 0) aa) (ak (dv 1) aa)) (ai aE (ak (dv 1) aa) (ak (dv 0) aa))) (ae (ai aX (ai aE (ak (dv 0) aa) (ak (dv 1) aa)) (ai aE (ak (dv 1) aa) (ak (dv 0) aa))) ag)))))),?_⟩
 rintro ds Q Ed ⟨a0,a1,a2,b0,b1,b2,rfl,h⟩;walk_at "s";unfold hJ at h;obtain⟨h0,h1,h2,k0,k1,k2,h⟩:=h;have cm:∀{x y:Int},Bd 200 x->Bd 200 y->CM x y:=fun hx hy=>.inr (.inr ⟨hx.mono (by decide),hy.mono (by decide)⟩)
 walk_at "x";exact⟨cm h1 k2,cm k1 h2,cm h2 k0,cm k2 h0,cm h0 k1,cm k0 h1,QC _ _ _,h⟩
def E8 (F:av K "line" "line" vC f fd) (C:Lx K mg κ)  (M5:zq P w K mg base κ) (MG:xQ P w K mg base κ) (Lv:rL P w K mg base κ)  : aI P w K mg base (CX1 P w) 3 f fd ["one", "other"] (aJ K (rE κ)):=by
 refine av.okN F xD (by walk_at "l") fun Ks A outer s H E hr=>⟨_,(ah (az 2 xD.nd (au M5 hr (ae (dv 0) (ae (dv 1) ag)))) (ah (bg (dP (au MG hr (ae (dv 2) ag))) (ao nk) aQ) (ao (ay (au Lv hr (ae (dv 2) (ae (uF (aK lh (ak (dv 2) aa) aa) (ak (dv 2) aa) (ak (dv 2) aa)) ag))))))),?_⟩
 rintro ds Q Ed ⟨a0,a1,a2,b0,b1,b2,rfl,h⟩;walk_at "s";unfold mE at h;obtain⟨h0,h1,h2,k0,k1,k2,hz,h⟩:=h;have B0:=eF h1 k2 k1 h2;have B1:=eF h2 k0 k2 h0;have B2:=eF h0 k1 k0 h1;walk_at "x";refine⟨h0,h1,h2,k0,k1,k2,?_⟩;walk_at "x";rw[JT hz];have Oi:¬(a1*b2 - b1*a2=0/\a2*b0 - b2*a0=0/\a0*b1 - b0*a1=0):=fun e=>hz e.2
 unfold yV ld Kg at h;by_cases hy:a2*b0 - b2*a0=0
 ·rw[JU hy]at h;rw[JU hy];exact⟨Oi,B0.mono (by decide),B1.mono (by decide),B2.mono (by decide),h⟩
 ·rw[JT hy]at h;rw[JT hy];exact⟨Oi,B0.mono (by decide),B1.mono (by decide),B2.mono (by decide),h⟩
def CJ (F:av K "place" "place" rf f fd) (C:Lx K mg κ)  (Lv:rL P w K mg base κ)  : aI P w K mg base (CX1 P w) 3 f fd ["by", "x", "y"] (aJ K (nX κ)):=by
 refine av.okN F C6 (by walk_at "l") fun Ks A outer s H E hr=>⟨_,(ah (bg (aK bP (dv 0) aa) (ao nk) aQ) (ao (ay (au Lv hr (ae (bO (ae (dv 0) (ae (dv 1) (ae (dv 2) ag)))) (ae (dv 0) ag)))))),?_⟩
 rintro ds Q Ed ⟨b,x,y,rfl,h⟩;walk_at "s";unfold j8 at h;obtain⟨hb,h0,h1,h2,h⟩:=h;walk_at "x";rw[JT hb];exact⟨QC _ _ _,fun z=>hb z.1,h0,h1,h2,h⟩
def wD (F:av K "place_of" "place_of" kj f fd) (C:Lx K mg κ)    : aI P w K mg base (CX1 P w) 1 f fd ["spot"] (aJ K (jw κ)):=by
 refine av.okN F wJ (by walk_at "l") fun Ks A outer s H E hr=>⟨_,(ao (ay (bO (ae aa (ae (ak (dv 0) aa) (ae (ak (dv 0) aa) ag)))))),?_⟩
 rintro ds Q Ed ⟨a,b,rfl,h⟩;walk_at "s";unfold gc at h;walk_at "x";exact⟨QC _ _ _,h⟩
def E9 (F:av K "rank" "rank" vD f fd) (C:Lx K mg κ)  (MF:zv P w K mg base κ)  : aI P w K mg base (CX1 P w) 2 f fd ["one", "other"] (aJ K (mI κ)):=by
 refine av.okN F xE (by walk_at "l") fun Ks A outer s H E hr=>⟨_,(ah (az 2 xE.nd (au MF hr (ae (ai aX (ai aE (ak (dv 0) aa) (ak (dv 1) aa)) (ai aE (ak (dv 1) aa) (ak (dv 0) aa))) ag))) (ah (bg (aK lh (dv 2) aa) (ao (ay (dv 2))) aQ) (ao (ay (au MF hr (ae (ai aX (ai aE (ak (dv 0) aa) (ak (dv 1) aa)) (ai aE (ak (dv 1) aa) (ak (dv 0) aa))) ag)))))),?_⟩
 rintro ds Q Ed ⟨a0,a1,a2,b0,b1,b2,rfl,h⟩;walk_at "s";unfold jK at h;obtain⟨h0,h1,h2,k0,k1,k2,h⟩:=h;have cm:∀{x y:Int},Bd 1000 x->Bd 1000 y->CM x y:=fun hx hy=>.inr (.inr ⟨hx.mono (by decide),hy.mono (by decide)⟩)
 walk_at "x";refine⟨cm h1 k0,cm k1 h0,?_⟩;unfold rk at h;split
 ·rename_i z;rw[JU z]at h;exact⟨cm h2 k0,cm k2 h0,h⟩
 ·rename_i z;rw[JT z]at h;exact h
def CK (F:av K "swing" "swing" rg f fd) (C:Lx K mg κ)    : aI P w K mg base (CX1 P w) 1 f fd ["one", "two", "three"] (aJ K (kE κ)):=by
 refine av.okN F C7 (by walk_at "l") fun Ks A outer s H E hr=>⟨_,(ao (ay (ai aS (ai aS (ai aE (ak (dv 0) aa) (ai aX (ai aE (ak (dv 1) aa) (ak (dv 2) aa)) (ai aE (ak (dv 2) aa) (ak (dv 1) aa)))) (ai aE (ak (dv 1) aa) (ai aX (ai aE (ak (dv 2) aa) (ak (dv 0) aa)) (ai aE (ak (dv 0) aa) (ak (dv 2) aa))))) (ai aE (ak (dv 2) aa) (ai aX (ai aE (ak (dv 0) aa) (ak (dv 1) aa)) (ai aE (ak (dv 1) aa) (ak (dv 0) aa))))))),?_⟩
 rintro ds Q Ed ⟨a0,a1,a2,b0,b1,b2,c0,c1,c2,rfl,h⟩;walk_at "s";unfold iK at h;obtain⟨h0,h1,h2,k0,k1,k2,l0,l1,l2,h⟩:=h;have cm:∀{x y:Int},Bd 1000 x->Bd 1000 y->CM x y:=fun hx hy=>.inr (.inr ⟨hx.mono (by decide),hy.mono (by decide)⟩)
 have c3:∀{x p q r s:Int},Bd 1000 x->Bd 1000 p->Bd 1000 q->Bd 1000 r->Bd 1000 s->CM x (p*q - r*s):=fun hx hp hq hr hs=>.inr (.inr ⟨hx.mono (by decide),((hp.mul hq).sub (hr.mul hs)).mono (by decide)⟩)
 walk_at "x";exact⟨cm k1 l2,cm l1 k2,c3 h0 k1 l2 l1 k2,cm l1 h2,cm h1 l2,c3 k0 l1 h2 h1 l2,cm h1 k2,cm k1 h2,c3 l0 h1 k2 k1 h2,h⟩
def yO (F:av K "spot_of" "spot_of" lK f fd) (C:Lx K mg κ)    : aI P w K mg base (CX1 P w) 1 f fd ["dot"] (aJ K (kD κ)):=by
 refine av.okN F y3 (by walk_at "l") fun Ks A outer s H E hr=>⟨_,(ao (ay (bO (ae (ak (dv 0) aa) (ae (ak (dv 0) aa) ag))))),?_⟩
 rintro ds Q Ed ⟨p,rfl,h⟩;walk_at "s";unfold ie at h;unfold Kh;walk_at "x";exact⟨Ya _ _,h⟩
def wG (F:av K "spots_of" "spots_of" ik f fd) (C:Lx K mg κ)  (Ka:iU P w K mg base κ)  : aI P w K mg base (CX1 P w) 2 f fd ["dots"] (aJ K (jy κ)):=by
 refine av.okN F wL (by walk_at "l") fun Ks A outer s H E hr=>⟨_,(ao (ay (b5 (by rfl) (by exact bK (osc:=aj ik) (xs:=["dot"]) (ns:=[]) (by decide +kernel)) bC.nil (bc (dv 0)) (fun _ _ _ _ _=>dU) (fun _ _ _ _ _=>(au Ka hr (ae (dv 0) ag)))))),?_⟩
 rintro ds Q Ed ⟨ps,rfl,h⟩;walk_at "s";unfold gf at h;obtain⟨hl,h⟩:=h;walk_at "x";refine PD.comp_map ps Kh (fun _=>true) (fun p=>Oj (LL p)) (fun R q=>?_) (by rw[sizeLine_eq];lia) (fun p hp K hK=>?_) (fun p hp _ K hK=>?_) ?_
 ·walk_at "x";exact q
 ·walk_at "x";exact hK
 ·walk_at "x";exact hK
 ·rw[Qt.mpr (fun _ _=>rfl)];rw[MX]at h;exact h
def ve (F:av K "of_colour" "of_colour" gk f fd) (C:Lx K mg κ)    : aI P w K mg base (CX1 P w) 1 f fd ["dots", "colour"] (aJ K (iQ κ)):=by
 refine av.okN F vH (by walk_at "l") fun Ks A outer s H E hr=>⟨_,(ao (ay (b5 (by rfl) (by exact bK (osc:=aj gk) (xs:=["dot"]) (ns:=["colour"]) (by decide +kernel)) (bC.cons 1 bC.nil) (bc (dv 0)) (fun _ _ _ _ _=>(p9 (OB.pt (dX (aK pG (dv 1) jA) (gA (aK (yG (by exact hr.units)) (ak (dv 0) aa) (dv 1))))))) (fun _ _ _ _ _=>(dv 0))))),?_⟩
 rintro ds Q Ed ⟨ps,col,rfl,h⟩;walk_at "s";unfold fh at h;obtain⟨cs,hc,hl,h⟩:=h;walk_at "x";refine PD.comp_map ps Kh (fun p=>cs p.2.2.1) Kh (fun R q=>?_) (by rw[sizeLine_eq];lia) (fun p hp K hk=>?_) (fun p hp _ K hk=>?_) h
 ·walk_at "x";exact q
 ·unfold Kh;rcases hc with⟨rfl,rfl⟩| ⟨k,rfl,rfl⟩
  ·walk_at "x";exact hk
  ·walk_at "x";exact hk
 ·walk_at "x";exact hk
def CL (F:av K "total" "total" fN f fd) (C:Lx K mg κ)  (KZ:mQ P w K mg base κ) (MA:mg "sum" = none):aI P w K mg base (CX1 P w) 2 f fd ["dots", "colour"] (aJ K (fV κ)):=by
 refine av.okN F C8 (by walk_at "l") fun Ks A outer s H E hr=>⟨_,(ao (ay (br (zK rfl) (by rfl) MA boot_sum (ae (b5 (by rfl) (by exact bK (osc:=aj fN) (xs:=["dot"]) (ns:=[]) (by decide +kernel)) bC.nil (bc (au KZ hr (ae (dv 0) (ae (dv 1) ag)))) (fun _ _ _ _ _=>dU) (fun _ _ _ _ _=>(ak (dv 0) aa))) ag)))),?_⟩
 rintro ds Q Ed ⟨ps,col,rfl,h⟩;walk_at "s";unfold j9 at h;obtain⟨cs,hc,hl,h⟩:=h;have hu:=hc.unt;unfold QL at h;walk_at "x";refine PD.comp_map (ps.filter fun p=>cs p.2.2.1) Kh (fun _=>true) (fun p=>.int p.2.2.2) (fun R q=>?_) (by have:=XR (fun p:Dt=>cs p.2.2.1) ps;rw[sizeLine_eq];lia) (fun p hp K hk=>?_) (fun p hp _ K hk=>?_) ⟨true,(ps.filter fun p=>cs p.2.2.1).map fun p=>p.2.2.2,by simp[MX,Function.comp_def],h⟩
 ·walk_at "x";simp only[hu];exact⟨cs,hc,hl,q⟩
 ·walk_at "x";exact hk
 ·unfold Kh;walk_at "x";exact hk
def yP (F:av K "weighed" "weighed" eW f fd) (C:Lx K mg κ)  (KZ:mQ P w K mg base κ) (Kp:jR P w K mg base κ) (Mo:zu P w K mg base κ) (Ka:iU P w K mg base κ)  : aI P w K mg base (CX1 P w) 3 f fd ["dots", "gauge", "colour"] (aJ K (fz κ)):=by
 refine av.okN F ku (by walk_at "l") fun Ks A outer s H E hr=>⟨_,(ah (BZ 3 ku.nd (qF (bU aa) aa (qF aa aa (qF aa aa GL)))) (ah (cK PassesOwn.never rfl (bc (au KZ hr (ae (dv 0) (ae (dv 2) ag)))) (bw 4 ku.nd) (ao (El 3 (by exact tL hr) (au Mo hr (ae (dv 1) (ae (au Kp hr (ae (au Ka hr (ae (dv 4) ag)) ag)) ag))) (ak (dv 4) aa)))) (ao (ay (bO (ae (uE 3 (by exact tL hr) (bU aa)) (ae (uE 3 (by exact tL hr) aa) (ae (uE 3 (by exact tL hr) aa) ag)))))))),?_⟩
 rintro ds Q Ed ⟨ps,g0,g1,g2,col,rfl,h⟩;walk_at "s";unfold fk at h;obtain⟨cs,hc,hl,h0,h1,h2,hg,h⟩:=h;have hu:=hc.unt;walk_at "x";refine⟨[(.inl (-1),.int 0),(.inl 0,.int 0),(.inl 1,.int 0)],rfl,by decide,by decide,?_⟩;refine PD.eU (ps.filter fun p=>cs p.2.2.1) Kh (fun done ρ=>∃v,ρ=[some (.val (.lst false (ps.map Kh))),some (.val (T3 g0 g1 g2)),some (.val col),some (.ob (.dk [(.inl (-1),.int (w3 g0 g1 g2 (-1) done)),(.inl 0,.int (w3 g0 g1 g2 0 done)),(.inl 1,.int (w3 g0 g1 g2 1 done))])),v]) (fun R q=>?_) ⟨none,rfl⟩ ?_ ?_
 ·walk_at "x";simp only[hu];exact⟨cs,hc,hl,q⟩
 ·rintro done p JY hp Mc ⟨v,rfl⟩;have G:=hg p (Pc.mp hp).1;have e:g0*1+g1*p.1+g2*p.2.1=gv g0 g1 g2 p:=by unfold gv;lia
  walk_at "x";refine⟨h0,h1,h2,Bd.mono (m:=2) (by unfold Bd;decide) (by decide),G.x.mono (by decide),G.y.mono (by decide),?_⟩;rw[e];have sn:=FP g0 g1 g2;rcases Ux (gv g0 g1 g2 p)with z|z|z
  ·refine⟨.inl (-1),_,by rw[z];rfl,rfl,?_⟩;unfold Kh;walk_at "x";refine⟨by rw[sizeLine_eq];show 3<16777216;decide,some (.val (.tup [.int p.1,.int p.2.1,.int p.2.2.1,.int p.2.2.2])),?_⟩;rw[IY,sn,sn,sn,z];simp
  ·refine⟨.inl 0,_,by rw[z];rfl,rfl,?_⟩;unfold Kh;walk_at "x";refine⟨by rw[sizeLine_eq];show 3<16777216;decide,some (.val (.tup [.int p.1,.int p.2.1,.int p.2.2.1,.int p.2.2.2])),?_⟩;rw[IZ,sn,sn,sn,z];simp
  ·refine⟨.inl 1,_,by rw[z];rfl,rfl,?_⟩;unfold Kh;walk_at "x";refine⟨by rw[sizeLine_eq];show 3<16777216;decide,some (.val (.tup [.int p.1,.int p.2.1,.int p.2.2.1,.int p.2.2.2])),?_⟩;rw[Ja,sn,sn,sn,z];simp
 ·rintro JY ⟨v,rfl⟩;walk_at "x";exact⟨.inl (-1),_,rfl,rfl,.inl 0,_,rfl,rfl,.inl 1,_,rfl,rfl,QC _ _ _,h⟩
def CH (F:av K "chain" "chain" q9 f fd) (C:Lx K mg κ)  (OI:D9 P w K mg base κ) (Kl:mg "len" = none):aI P w K mg base (CX1 P w) 2 f fd ["places"] (aJ K (nU κ)):=by
 refine av.okN F nS (by walk_at "l") fun Ks A outer s H E hr=>⟨_,(ah (iF 1 nS.nd ag) (ah (cK PassesOwn.never rfl (bc (dv 0)) (bw 2 nS.nd) (ah (nq PassesOwn.never (En 1 (OB.pt (Aa (aK pF (br eX (by rfl) Kl boot_len (ae (dv 1) ag)) aa) (xf (aK DQ (au OI hr (ae (ak (dv 1) (bU aa)) (ae (ak (dv 1) (bU aa)) (ae (dv 2) ag)))) aa))))) (ao (GO 1))) (ao (cY 1 (dv 2))))) (cF 1 (ao (ay (dv 1)))))),?_⟩
 rintro ds Q Ed ⟨ps,rfl,h⟩;walk_at "s";unfold iJ at h;obtain⟨hl,hb,h⟩:=h;walk_at "x";refine⟨Mx _,?_⟩;refine PD.eU ps Mm (fun done ρ=>∃v:Option Sl,ρ=[some (.val (.lst false (ps.map Mm))),some (.own ((bj [] done).reverse.map Mm)),v]/\(bj [] done).length<=done.length/\∀p∈bj [] done,SB p) ?_ ?_ ?_ ?_
 ·intro R hR;walk_at "x";exact hR
 ·exact⟨none,rfl,KO _,by simp[bj]⟩
 ·rintro done x JY hx Mc ⟨v,rfl,hL,hS⟩;walk_at "x";refine⟨fun m ρ=>∃st:yat,ρ=[some (.val (.lst false (ps.map Mm))),some (.own (st.reverse.map Mm)),some (.val (Mm x))]/\m=st.length/\bN st x=bN (bj [] done) x/\st.length<=done.length/\∀p∈st,SB p,⟨_,_,rfl,rfl,rfl,hL,hS⟩,?_⟩;rintro m ρ ⟨st,rfl,rfl,hp,hM,hB⟩;have stop:bN st x=st->((st.reverse.map Mm).length<sizeLine/\∃v:Option Sl,([some (.val (.lst false (ps.map Mm))),some (.own (st.reverse.map Mm++[Mm x])),some (.val (Mm x))]:Ro)=[some (.val (.lst false (ps.map Mm))),some (.own ((bj [] (done++[x])).reverse.map Mm)),v]/\(bj [] (done++[x])).length<=(done++[x]).length/\∀p∈bj [] (done++[x]),SB p):=fun e=>by
   have e2:bj [] (done++[x])=x::st:=by rw[mS,<- hp,e]
   rw[e2];refine⟨by rw[J6,P7,sizeLine_eq];lia,_,by rw[Tx,Na];rfl,by simp;lia,fun p hq=>?_⟩;rcases Kr.mp hq with z|z
   ·rw[z];exact hb x hx
   ·exact hB p z
  walk_at "x";rcases st with _|⟨b,_|⟨a,r⟩⟩
  ·rw[JT (by simp)];exact stop rfl
  ·rw[JT (by simp)];exact stop rfl
  ·rw[JU (by simp;lia)];have eL:(b::a::r).reverse.map Mm=r.reverse.map Mm++[Mm a]++[Mm b]:=by simp
   have Ba:=hB a (by simp);have Bb:=hB b (by simp);have Bx:=hb x hx;have o1:Bd 1000 1:=by unfold Bd;decide
   refine⟨_,by rw[eL];exact zC _ _ _,_,by rw[eL];exact BH _ _,?_⟩
   try simp only[n6]
   show kE κ [T3 1 a.1 a.2,T3 1 b.1 b.2,T3 1 x.1 x.2] _ _;rw[m6,iK];refine⟨o1,Ba.x.mono (by decide),Ba.y.mono (by decide),o1,Bb.x.mono (by decide),Bb.y.mono (by decide),o1,Bx.x.mono (by decide),Bx.y.mono (by decide),?_⟩;rw[fJ];refine⟨_,rfl,?_⟩;by_cases c:sw 1 a.1 a.2 1 b.1 b.2 1 x.1 x.2<=0
   ·have c':cr a b x<=0:=c;rw[JU (by simpa using c)];refine⟨by simp,(a::r).length,by simp,a::r,?_,rfl,?_,?_,fun p hq=>hB p (K0 _ hq)⟩
    ·rw[eL,List.dropLast_concat];simp
    ·rw[<- hp];conv=>rhs;unfold bN
     rw[JU c']
    ·simp at hM ⊢;lia
   ·have c':¬cr a b x<=0:=c;rw[JT (by simpa using c)];exact stop (by unfold bN;rw[JT c'])
 ·rintro JY ⟨v,rfl,_⟩;walk_at "x";exact h
def E7 (F:av K "hull" "hull" pP f fd) (C:Lx K mg κ)  (Np:D6 P w K mg base κ) (Kp:jR P w K mg base κ) (Kl:mg "len" = none) (MB:mg "set" = none) (KW:mg "sorted" = none):aI P w K mg base (CX1 P w) 3 f fd ["spots"] (aJ K (rB κ)):=by
 refine av.okN F xC (by walk_at "l") fun Ks A outer s H E hr=>⟨_,(ah (oP 1 xC.nd (by rfl) (by exact bK (osc:=aj pP) (xs:=["spot"]) (ns:=[]) (by decide +kernel)) bC.nil (bc ((oO rfl (by exact Aj hr) (by rfl) KW (by rfl) MB (dv 0))).QE) (fun _ _ _ _ _=>dU) (fun _ _ _ _ _=>(au Kp hr (ae (dv 0) ag)))) (ah (bg (aK dA (br eX (by rfl) Kl boot_len (ae (dv 1) ag)) aa) (ao (ay (dv 1))) aQ) (ao (ay (ai aS (OG.QE (cW (au Np hr (ae (dv 1) ag)) cL (cM (bU aa)))) (OG.QE (cW (au Np hr (ae (OG.QE (GK (dv 1))) ag)) cL (cM (bU aa))))))))),?_⟩
 rintro ds Q Ed ⟨ps,rfl,h⟩;walk_at "s";unfold mD at h;obtain⟨hl,hb,h⟩:=h;walk_at "x";refine uk (P:=fun ys=>bY ys ps/\ys.length<=ps.length) Oj Mm (fun R hR=>?_) (fun ys hy=>by rw[sizeLine_eq];lia) (fun ys hy x hx K k=>?_) fun ys hy=>?_
 ·refine⟨false,ps.map QJ,by rw[DX],by rw[J6];lia,fun k hk=>?_,fun zs hz=>?_⟩
  ·obtain⟨p,_,e⟩:=KH.mp hk;rw[<- e];exact List.cons_ne_nil _ _
  ·obtain⟨ys,rfl,hy⟩:=AY hz;rw[<- DX];exact⟨true,_,rfl,hR ys ⟨hy,nN hy⟩⟩
 ·unfold Oj;walk_at "x";exact k
 ·have ly:=hy.2;have bs:∀p∈ys,SB p:=fun p hp=>hb p ((hy.1.2 p).mp hp)
  have hQ:=h ys hy.1 hy.2;have l1:=eI [] ys;have l2:=eI [] ys.reverse;simp only[List.length_nil,P7]at l1 l2;unfold aP at hQ;walk_at "x";rw[J6];split
  ·rename_i c;rw[JU (by lia)]at hQ;exact hQ
  ·rename_i c;rw[JT (by lia)]at hQ;refine⟨by lia,bs,?_⟩;rw[<- List.map_reverse,qa,m5,iJ];refine⟨by rw[P7];lia,fun p hp=>bs p (Qv.mp hp),true,_,rfl,?_⟩;rw[ur,ur];refine⟨?_,?_⟩
   ·rw[QP,QP,J6,J6,P7,P7,sizeLine_eq];lia
   ·rw[<- List.map_dropLast,<- List.map_dropLast,<- Na];exact hQ
def pJ (F:av K "on_two_spots" "on_two_spots" fM f fd) (C:Lx K mg κ)  (Ka:iU P w K mg base κ)  : aI P w K mg base (CX1 P w) 2 f fd ["dots", "pair"] (aJ K (fy κ)):=by
 refine av.okN F pT (by walk_at "l") fun Ks A outer s H E hr=>⟨_,(ao (ay (cT (yH (by exact hr.units)) (au Ka hr (ae (ak (dv 0) (ak (dv 1) aa)) ag)) (au Ka hr (ae (ak (dv 0) (ak (dv 1) aa)) ag))))),?_⟩
 rintro ds Q Ed ⟨ps,ij,rfl,h⟩;walk_at "s";unfold cR at h;obtain⟨h1,h2,h⟩:=h;unfold N7;walk_at "x";refine tK h1 ?_;walk_at "x";refine tK h2 ?_;walk_at "x";refine⟨(u9 _ _).ok,(u9 _ _).ok,?_⟩;rw[Ht];exact h
def tm (F:av K "spot_pairs" "spot_pairs" c9 f fd) (C:Lx K mg κ)  (LA:qr P w K mg base κ) (OJ:D7 P w K mg base κ) (Kl:mg "len" = none):aI P w K mg base (CX1 P w) 3 f fd ["dots"] (aJ K (gS κ)):=by
 refine av.okN F kM (by walk_at "l") fun Ks A outer s H E hr=>⟨_,(ah (oP 1 kM.nd (by rfl) (by exact bK (osc:=aj c9) (xs:=["pick"]) (ns:=[]) (by decide +kernel)) bC.nil (bc (au OJ hr (ae (br eX (by rfl) Kl boot_len (ae (dv 0) ag)) (ae aa ag)))) (fun _ _ _ _ _=>dU) (fun _ _ _ _ _=>(bO (ae (ak (dv 0) aa) (ae (ak (dv 0) aa) ag))))) (ao (ay (b5 (by rfl) (by exact bK (osc:=aj c9) (xs:=["pair"]) (ns:=["dots"]) (by decide +kernel)) (bC.cons 0 bC.nil) (bc (dv 1)) (fun _ _ _ _ _=>(p9 (dP (au LA hr (ae (dv 1) (ae (dv 0) ag)))))) (fun _ _ _ _ _=>(dv 0)))))),?_⟩
 rintro ds Q Ed ⟨ps,rfl,h⟩;walk_at "s";unfold d9 at h;obtain⟨hl,h⟩:=h;have hz:(RO ps.length).length<=sizeLine:=by
  have e:=mz ps.length 2;rw[Cp,J6]at e;have:ps.length ^ 2<=60 ^ 2:=Nat.pow_le_pow_left hl 2;rw[sizeLine_eq]
  lia
 walk_at "x";refine PD.comp_map (RO ps.length) (fun ij=>Om [ij.1,ij.2]) (fun _=>true) N7 (fun R q=>?_) hz (fun ij My K hK=>?_) (fun ij My _ K hK=>?_) ?_
 ·walk_at "x";refine⟨ps.length,2,by rw[J6],rfl,hl,by decide,?_⟩;rw[Cp,MX];exact q
 ·walk_at "x";exact hK
 ·unfold Om;walk_at "x";exact⟨Ya _ _,hK⟩
 ·rw[Qt.mpr (fun _ _=>rfl)];walk_at "x";refine PD.comp_map (RO ps.length) N7 (fun ij=>decide (LL (gp ps ij.1)≠LL (gp ps ij.2))) N7 (fun R q=>?_) hz (fun ij My K hK=>?_) (fun ij My _ K hK=>?_) h
  ·walk_at "x";exact q
  ·have m:=xt.mp (show(ij.1,ij.2)∈RO ps.length from My);walk_at "x";exact⟨by lia,by lia,hK⟩
  ·walk_at "x";exact hK
def vf (F:av K "pair_line" "pair_line" jt f fd) (C:Lx K mg κ)  (PH:FX P w K mg base κ) (Kp:jR P w K mg base κ) (Ka:iU P w K mg base κ)  : aI P w K mg base (CX1 P w) 4 f fd ["dots", "pair"] (aJ K (iR κ)):=by
 refine av.okN F vI (by walk_at "l") fun Ks A outer s H E hr=>⟨_,(ao (ay (au PH hr (ae (au Kp hr (ae (au Ka hr (ae (ak (dv 0) (ak (dv 1) aa)) ag)) ag)) (ae (au Kp hr (ae (au Ka hr (ae (ak (dv 0) (ak (dv 1) aa)) ag)) ag)) ag))))),?_⟩
 rintro ds Q Ed ⟨ps,ij,rfl,h⟩;walk_at "s";unfold fi at h;obtain⟨h1,h2,hG,ne,h⟩:=h;have G1:=hG _ (jC h1);have G2:=hG _ (jC h2);unfold N7;walk_at "x";refine tK h1 ?_;walk_at "x";refine tK h2 ?_;walk_at "x";have one:Bd 200 1:=Bd.mono (m:=2) (by unfold Bd;decide) (by decide);generalize gp ps ij.1=p at *;generalize gp ps ij.2=q at *;refine⟨one,G1.x.mono (by decide),G1.y.mono (by decide),one,G2.x.mono (by decide),G2.y.mono (by decide),?_,?_⟩
 ·rintro⟨e1,e2⟩;refine ne ?_;unfold LL;simp only[Pk]
  lia
 ·exact h
def wF (F:av K "split_by" "split_by" ig f fd) (C:Lx K mg κ)  (M6:nh P w K mg base "weighed" 3 ["dots", "gauge", "colour"] "colour" (fz κ)) (MB:mg "set" = none) (KW:mg "sorted" = none):aI P w K mg base (CX1 P w) 4 f fd ["dots", "lines"] (aJ K (jx κ)):=by
 refine av.okN F wK (by walk_at "l") fun Ks A outer s H E hr=>⟨_,(ao (ay (b5 (by rfl) (by exact bK (osc:=aj ig) (xs:=["each"]) (ns:=["dots"]) (by decide +kernel)) (bC.cons 0 bC.nil) (bc ((oO rfl (by exact Aj hr) (by rfl) KW (by rfl) MB (dv 1))).QE) (fun _ _ _ _ _=>dU) (fun _ _ _ _ _=>(ai aS (bO (ae (dv 0) ag)) (iV M6 (hr.mono (by decide)) (ae (dv 1) (ae (dv 0) ag)))))))),?_⟩
 rintro ds Q Ed ⟨ps,ls,rfl,h⟩;walk_at "s";unfold dS at h;obtain⟨hl,hG,hn,hb,h⟩:=h;walk_at "x";refine uk (P:=fun ys=>bJ ys ls) Kg (vA ps) (fun R hR=>?_) (fun ys hy=>by have:=iY hy;rw[sizeLine_eq];lia) (fun ys hy x hx K k=>?_) fun ys hy=>?_
 ·refine⟨false,ls.map Qr,by rw[D0],by rw[J6];exact hn,fun k hk=>?_,fun zs hz=>?_⟩
  ·obtain⟨p,_,e⟩:=KH.mp hk;rw[<- e];exact List.cons_ne_nil _ _
  ·obtain⟨ys,rfl,hy⟩:=AZ hz;rw[D0];exact⟨true,_,rfl,hR ys hy⟩
 ·obtain⟨b0,b1,b2⟩:=hb x ((hy.2 x).mp hx);walk_at "x";refine⟨S1 _,?_⟩;show fz κ [.lst false (ps.map Kh),T3 x.1 x.2.1 x.2.2,.Kt] _ _;rw[kO,fk];refine⟨fun _=>true,.inl ⟨rfl,rfl⟩,hl,b0,b1,b2,hG,?_⟩;walk_at "x";exact⟨by rw[sizeLine_eq];show 4<=_;lia,k⟩
 ·exact h ys hy
def tj (F:av K "pair_lines" "pair_lines" fq f fd) (C:Lx K mg κ)  (Mq:vV P w K mg base κ) (L6:tY P w K mg base κ)  : aI P w K mg base (CX1 P w) 5 f fd ["dots"] (aJ K (gR κ)):=by
 refine av.okN F tw (by walk_at "l") fun Ks A outer s H E hr=>⟨_,(ao (ay (b5 (by rfl) (by exact bK (osc:=aj fq) (xs:=["pair"]) (ns:=["dots"]) (by decide +kernel)) (bC.cons 0 bC.nil) (bc (au L6 hr (ae (dv 0) ag))) (fun _ _ _ _ _=>dU) (fun _ _ _ _ _=>(au Mq hr (ae (dv 1) (ae (dv 0) ag))))))),?_⟩
 rintro ds Q Ed ⟨ps,rfl,h⟩;walk_at "s";unfold d6 at h;obtain⟨hl,hG,h⟩:=h;have hz:(Tj ps).length<=sizeLine:=by
  have:=xo ps;unfold qO at this;rw[J6]at this;have:ps.length*ps.length<=30*30:=Nat.mul_le_mul hl hl;rw[sizeLine_eq]
  lia
 walk_at "x";refine PD.comp_map (Tj ps) N7 (fun _=>true) (fun ij=>Kg (QM (gp ps ij.1) (gp ps ij.2))) (fun R q=>?_) hz (fun ij My K hK=>?_) (fun ij My _ K hK=>?_) ?_
 ·walk_at "x";exact⟨by lia,q⟩
 ·walk_at "x";exact hK
 ·obtain⟨a,b,c⟩:=jG.mp My;walk_at "x";exact⟨by lia,b,hG,c,hK⟩
 ·rw[Qt.mpr (fun _ _=>rfl)];unfold qO at h;rw[MX]at h;exact h
def nI (F:av K "place_between" "place_between" ft f fd) (C:Lx K mg κ)  (OK:D8 P w K mg base κ) (L5:wY P w K mg base κ)  : aI P w K mg base (CX1 P w) 4 f fd ["one", "other", "gauge"] (aJ K (cH κ)):=by
 refine av.okN F eO (by walk_at "l") fun Ks A outer s H E hr=>⟨_,(ah (az 3 eO.nd (au L5 hr (ae (dv 2) (ae (dv 0) ag)))) (ah (az 4 eO.nd (au L5 hr (ae (dv 2) (ae (dv 1) ag)))) (ao (ay (au OK hr (ae (ai aX (ai aE (dv 4) (ak (dv 0) aa)) (ai aE (dv 3) (ak (dv 1) aa))) (ae (ai aX (ai aE (dv 4) (ak (dv 0) aa)) (ai aE (dv 3) (ak (dv 1) aa))) (ae (ai aX (ai aE (dv 4) (ak (dv 0) aa)) (ai aE (dv 3) (ak (dv 1) aa))) ag)))))))),?_⟩
 rintro ds Q Ed ⟨a0,a1,a2,b0,b1,b2,g0,g1,g2,rfl,h⟩;walk_at "s";unfold bX at h;obtain⟨Yz,YA,YB,YC,YE,YF,Qq,PG,Ss,hw,h⟩:=h;have m:∀{x:Int},Bd 200 x->Bd 1000 x:=fun h=>h.mono (by decide)
 have hv:Bd 402 (g0*a0+g1*a1+g2*a2):=((Qq.mul Yz).add (PG.mul YA)).add ((Ss.mul YB).mono (by decide));have ht:Bd 402 (g0*b0+g1*b1+g2*b2):=((Qq.mul YC).add (PG.mul YE)).add ((Ss.mul YF).mono (by decide));walk_at "x";refine⟨m Qq,m PG,m Ss,m Yz,m YA,m YB,m Qq,m PG,m Ss,m YC,m YE,m YF,Vm ht Yz,Vm hv YC,Vm ht YA,Vm hv YE,Vm ht YB,Vm hv YF,hw,?_,?_,?_,?_⟩
 ·exact((ht.mul Yz).sub (hv.mul YC)).mono (by decide)
 ·exact((ht.mul YA).sub (hv.mul YE)).mono (by decide)
 ·exact((ht.mul YB).sub (hv.mul YF)).mono (by decide)
 ·exact h
def yI (F:av K "clipped" "clipped" i5 f fd) (C:Lx K mg κ)  (Lh:oq P w K mg base κ) (Mo:zu P w K mg base κ) (Kl:mg "len" = none) (KD:mg "range" = none):aI P w K mg base (CX1 P w) 5 f fd ["corners", "gauge"] (aJ K (ip κ)):=by
 refine av.okN F fv (by walk_at "l") fun Ks A outer s H E hr=>⟨_,(ah (iF 2 fv.nd ag) (ah (cK PassesOwn.never rfl (iW (by rfl) KD (ae (br eX (by rfl) Kl boot_len (ae (dv 0) ag)) ag)) (bw 3 fv.nd) (ah (az 4 fv.nd (ak (dv 0) (ai aX (dv 3) aa))) (ah (az 5 fv.nd (ak (dv 0) (dv 3))) (ah (bg (aK dA (ai aE (au Mo hr (ae (dv 1) (ae (dv 4) ag))) (au Mo hr (ae (dv 1) (ae (dv 5) ag)))) aa) (ao (cY 2 (au Lh hr (ae (dv 4) (ae (dv 5) (ae (dv 1) ag)))))) aQ) (ao (bg (aK IM (au Mo hr (ae (dv 1) (ae (dv 5) ag))) aa) (ao (cY 2 (dv 5))) aQ)))))) (cF 2 (ao (ay (b5 (by rfl) (by exact bK (osc:=aj i5) (xs:=["index"]) (ns:=["kept"]) (by decide +kernel)) (bC.cons 2 bC.nil) (iW (by rfl) KD (ae (br eX (by rfl) Kl boot_len (ae (dv 2) ag)) ag)) (fun _ _ _ _ _=>(p9 (aK (CC (by exact hr.units)) (ak (dv 1) (dv 0)) (OG.QE (cW (dv 1) cL (cM (dv 0))))))) (fun _ _ _ _ _=>(ak (dv 1) (dv 0))))))))),?_⟩
 rintro ds Q Ed ⟨cs,g0,g1,g2,rfl,h⟩;walk_at "s";unfold fe at h;obtain⟨hl,hc,Qq,PG,Ss,h⟩:=h;have m:∀{x:Int},Bd 200 x->Bd 1000 x:=fun h=>h.mono (by decide)
 have cb:∀p∈cs,Bd 200 p.1/\Bd 200 p.2.1/\Bd 200 p.2.2:=fun p hp=>⟨(hc p hp).2.b.mono (by decide),(hc p hp).2.x.mono (by decide),(hc p hp).2.y.mono (by decide)⟩
 have at_:∀{zs:yau} {k:Nat} {p:Tr},zs[k]?=some p->Me (zs.map Kg) (k:Int)=some (Kg p):=fun {zs k p} hp=>di (by rw[M9,hp];rfl)
 walk_at "x";refine⟨Mx _,?_⟩;refine PD.jX (List.range' 0 cs.length) (fun(k:Nat)=>D.int (k:Int)) (fun j ρ=>∃v3 v4 v5:Option Sl,ρ=[some (.val (.lst false (cs.map Kg))),some (.val (T3 g0 g1 g2)),some (.own ((aD (g0,g1,g2) (bZ (g0,g1,g2)) (cs.getLastD (0,0,0)) (cs.take j)).map Kg)),v3,v4,v5]) (fun R q=>?_) ⟨none,none,none,rfl⟩ ?_ ?_
 ·walk_at "x";rw[J6,yW];exact⟨⟨by lia,by lia⟩,q⟩
 ·rintro j k JY hj ⟨v3,v4,v5,rfl⟩;obtain⟨Qp,ek⟩:=MZ.mp hj;rw[P8]at Qp;rw[List.getElem_range',Pn,Nat.one_mul]at ek;subst ek;have hcj:cs[j]?=some cs[j]:=LH Qp;have eP:Me (cs.map Kg) ((j:Int) - 1)=some (Kg ((cs.take j).getLastD (cs.getLastD (0,0,0)))):=by
   have:=BF (cs.map Kg) j 1 (by rw[J6];exact Qp) (by rw[J6];lia);rw[show((j:Int) - 1)=((j:Int) - ((1:Nat):Int))from rfl,this,J6,M9];have e2:cs[(j+cs.length - 1) % cs.length]?=some ((cs.take j).getLastD (cs.getLastD (0,0,0))):=by
    cases j with
    |zero =>
     have:(0+cs.length - 1) % cs.length=cs.length - 1:=by rw[Pn];exact Od (by lia)
     rw[this,List.take_zero,List.getLastD_nil,<- YL,Vw];cases hq:cs.getLast? with
     |none=>rw[XJ]at hq;rw[hq]at Qp;exact absurd Qp (by simp)
     |some z=>rfl
    |succ j =>
     have:(j+1+cs.length - 1) % cs.length=j:=by rw[show j+1+cs.length - 1=j+cs.length by lia,UP];exact Od (by lia)
     rw[this,Vw,List.getLast?_take];simp;rw[LH (by lia)];rfl
   rw[e2];rfl
  have hP:(cs.take j).getLastD (cs.getLastD (0,0,0))∈cs:=by
   rw[Vw];cases hq:(cs.take j).getLast? with
   |some z=>exact(UO j cs).subset (List.mem_of_getLast? hq)
   |none =>
    rw[Option.getD_none,Vw];cases hr:cs.getLast? with
    |some z=>exact List.mem_of_getLast? hr
    |none=>rw[XJ]at hr;rw[hr]at Qp;exact absurd Qp (by simp)
  have wl:=n9 (g0,g1,g2) (bZ (g0,g1,g2)) (cs.take j) (cs.getLastD (0,0,0));have tl:(cs.take j).length<=cs.length:=by rw[NW];lia
  have ws:=Bs (g0,g1,g2) (bZ (g0,g1,g2)) (cs.getLastD (0,0,0)) (cs.take j) cs[j];rw[show cs.take j++[cs[j]]=cs.take (j+1)by rw[List.take_succ,hcj];rfl]at ws;generalize (cs.take j).getLastD (cs.getLastD (0,0,0))=p at eP hP ws;have hQ:cs[j]∈cs:=P9 _;generalize Nz:cs[j]=c at hcj hQ ws;generalize aD (g0,g1,g2) (bZ (g0,g1,g2)) (cs.getLastD (0,0,0)) (cs.take j)=K at wl ws ⊢;obtain⟨p1,p2,p3⟩:=cb p hP;obtain⟨c1,c2,c3⟩:=cb c hQ;have kl:K.length<=2000000:=by lia
  have fin:∀(K2:yau) (d1 d2:D),K2.length<=2000001->aD (g0,g1,g2) (bZ (g0,g1,g2)) (cs.getLastD (0,0,0)) (cs.take (j+1))=K2++(if 0<=JS (g0,g1,g2) c then[c]else[])->fU κ [T3 g0 g1 g2,Kg c] (fun x=>fb (fun i j=>D.bl (decide (j<=i))) x (D.int 0) fun x=>∃k,x=D.bl k/\if k=true then(K2.map Kg).length<sizeLine/\∃v3 v4 v5:Option Sl,([some (.val (.lst false (cs.map Kg))),some (.val (T3 g0 g1 g2)),some (.own (K2.map Kg++[Kg c])),some (.val (.int j)),some (.val d1),some (.val d2)]:Ro)=[some (.val (.lst false (cs.map Kg))),some (.val (T3 g0 g1 g2)),some (.own ((aD (g0,g1,g2) (bZ (g0,g1,g2)) (cs.getLastD (0,0,0)) (cs.take (j+1))).map Kg)),v3,v4,v5]else∃v3 v4 v5:Option Sl,([some (.val (.lst false (cs.map Kg))),some (.val (T3 g0 g1 g2)),some (.own (K2.map Kg)),some (.val (.int j)),some (.val d1),some (.val d2)]:Ro)=[some (.val (.lst false (cs.map Kg))),some (.val (T3 g0 g1 g2)),some (.own ((aD (g0,g1,g2) (bZ (g0,g1,g2)) (cs.getLastD (0,0,0)) (cs.take (j+1))).map Kg)),v3,v4,v5]) fun _=>False:=fun K2 d1 d2 kl e=>by
   show fU κ [T3 g0 g1 g2,T3 c.1 c.2.1 c.2.2] _ _;rw[iq,fK,e];refine⟨m Qq,m PG,m Ss,m c1,m c2,m c3,?_⟩;rw[fJ];refine⟨_,rfl,?_⟩;have es:(0<=sg (g0*c.1+g1*c.2.1+g2*c.2.2))↔0<=JS (g0,g1,g2) c:=Ib _;by_cases q:0<=JS (g0,g1,g2) c
   ·rw[JU q,JU (Mb (es.mpr q))];exact⟨by rw[J6,sizeLine_eq];lia,_,_,_,by rw[Na];rfl⟩
   ·rw[JT q,JT (by rw[decide_eq_true_eq];exact fun z=>q (es.mp z)),Pa];exact⟨_,_,_,rfl⟩
  walk_at "x";refine⟨_,eP,_,at_ hcj,?_⟩;rw[eT,eT];show fU κ [T3 g0 g1 g2,T3 p.1 p.2.1 p.2.2] _ _;rw[iq,fK];refine⟨m Qq,m PG,m Ss,m p1,m p2,m p3,?_⟩;show fU κ [T3 g0 g1 g2,T3 c.1 c.2.1 c.2.2] _ _;rw[iq,fK];refine⟨m Qq,m PG,m Ss,m c1,m c2,m c3,?_⟩;have es:(sg (g0*p.1+g1*p.2.1+g2*p.2.2)*sg (g0*c.1+g1*c.2.1+g2*c.2.2)<0)↔JS (g0,g1,g2) p*JS (g0,g1,g2) c<0:=Ia _ _;have sb1:∀x:Int,Bd 64 (sg x):=fun x=>by unfold sg Bd;split;exact(by decide);split<;>decide
  rw[qX,fJ];refine⟨.inl (sb1 _),_,rfl,?_⟩;by_cases q:JS (g0,g1,g2) p*JS (g0,g1,g2) c<0
  ·rw[JU (Mb (es.mpr q))];rw[JU q]at ws;show cH κ [T3 p.1 p.2.1 p.2.2,T3 c.1 c.2.1 c.2.2,T3 g0 g1 g2] _ _;rw[fD,bX];refine⟨p1,p2,p3,c1,c2,c3,Qq,PG,Ss,?_,by rw[J6,sizeLine_eq];lia,?_⟩
   ·rcases vR (hc p hP).1 (hc c hQ).1 q with⟨_,_,z⟩| ⟨_,_,z⟩<;>exact fun e=>by rw[e]at z;exact Qc _ z
   ·have:=fin (K++[bZ (g0,g1,g2) p c]) (Kg p) (Kg c) (by simp;lia) (by rw[ws,Nt]);rw[Na]at this;exact this
  ·rw[JT (by rw[decide_eq_true_eq];exact fun z=>q (es.mp z))];rw[JT q,Oe]at ws;exact fin K (Kg p) (Kg c) (by lia) ws
 ·rintro JY ⟨v3,v4,v5,rfl⟩;rw[P8,TC];have wl:=n9 (g0,g1,g2) (bZ (g0,g1,g2)) cs (cs.getLastD (0,0,0));have ec:dj (g0,g1,g2) cs=NK [] (aD (g0,g1,g2) (bZ (g0,g1,g2)) (cs.getLastD (0,0,0)) cs):=by
   unfold dj;cases hq:cs.getLast? with
   |none =>
    rw[XJ]at hq;subst hq;rfl
   |some z=>rw[Vw,hq];rfl
  rw[ec]at h;generalize aD (g0,g1,g2) (bZ (g0,g1,g2)) (cs.getLastD (0,0,0)) cs=K at wl h ⊢;have gt:∀k,k<K.length->K[k]?=some (K.getD k (0,0,0)):=fun k hk=>by rw[Nq,LH hk];rfl
  have ct:∀k,k<=K.length->PD.cutD (K.map Kg) none (some (k:Int))=(K.take k).map Kg:=fun k hk=>by unfold PD.cutD;rw[HT.C4,HT.jL,VS,Nat.sub_zero,J6,Qa hk,List.map_take]
  have ea:∀(l:yau) (x:Tr),(l.map Kg).any (fun z=>eqD z (Kg x))=l.any fun y=>decide (y=x):=fun l x=>by
   rw[List.any_map];congr 1
   funext y
   exact GV y x
  walk_at "x";refine PD.comp_map (List.range' 0 K.length) (fun(k:Nat)=>D.int (k:Int)) (fun k=>!(K.take k).any fun y=>decide (y=K.getD k (0,0,0))) (fun k=>Kg (K.getD k (0,0,0))) (fun R q=>?_) (by rw[P8,sizeLine_eq];lia) (fun k hk K' hK=>?_) (fun k hk _ K' hK=>?_) ?_
  ·walk_at "x";rw[J6,yW];exact⟨⟨by lia,by lia⟩,q⟩
  ·have Th:k<K.length:=by rw[SD]at hk;lia
   walk_at "x";refine⟨_,at_ (gt k Th),?_⟩;rw[ct k (by lia)];refine⟨?_,?_⟩
   ·exact(mB _).Ye
   ·exact⟨(MP.map mB).ok,_,.inr ⟨_,rfl⟩,_,rfl,by rw[ea];exact hK⟩
  ·have Th:k<K.length:=by rw[SD]at hk;lia
   walk_at "x";exact⟨_,at_ (gt k Th),hK⟩
  ·have dr:=uC (0,0,0) K [];rw[List.length_nil,Oe]at dr;rw[<- dr,MX]at h;exact h
def AH (F:av K "common" "common" nO f fd) (C:Lx K mg κ)  (M7:zo P w K mg base κ)  : aI P w K mg base (CX1 P w) 6 f fd ["corners", "gauges"] (aJ K (lN κ)):=by
 refine av.okN F lL (by walk_at "l") fun Ks A outer s H E hr=>⟨_,(ah (cK PassesOwn.never rfl (bc (dv 1)) (bw 2 lL.nd) (ao (az 0 lL.nd (au M7 hr (ae (dv 0) (ae (dv 2) ag)))))) (ao (ay (dv 0)))),?_⟩
 rintro ds Q Ed ⟨cs,gs,rfl,h⟩;walk_at "s";unfold iZ at h;obtain⟨hg,hj,hb,h⟩:=h;walk_at "x";refine PD.jX gs Kg (fun j ρ=>∃(t:Bool) (v:Option Sl),ρ=[some (.val (.lst t ((bq (gs.take j) cs).map Kg))),some (.val (.lst false (gs.map Kg))),v]) (fun R q=>?_) ⟨false,none,rfl⟩ ?_ ?_
 ·walk_at "x";exact q
 ·rintro j g JY he ⟨t,v,rfl⟩;obtain⟨Mc,eg⟩:=MZ.mp he;obtain⟨c1,c2⟩:=hj j Mc;obtain⟨b1,b2,b3⟩:=hb g (NS he);walk_at "x";show ip κ [.lst false ((bq (gs.take j) cs).map Kg),T3 g.1 g.2.1 g.2.2] _ _;rw[kN,fe];refine⟨c1,c2,b1,b2,b3,?_⟩;have e:bq (gs.take (j+1)) cs=dj g (bq (gs.take j) cs):=by
   unfold bq;rw[List.take_succ,he];simp[List.foldl_append]
  exact⟨true,_,by rw[e]⟩
 ·rintro JY ⟨t,v,rfl⟩;rw[TC];walk_at "x";exact h t
def HA (F:av K "led" "led" yX f fd) (C:Lx K mg κ)  (PJ:FY P w K mg base κ) (Kl:mg "len" = none) (KD:mg "range" = none):aI P w K mg base (CX1 P w) 3 f fd ["corners"] (aJ K (vN κ)):=by
 refine av.okN F pS (by walk_at "l") fun Ks A outer s H E hr=>⟨_,(ah (az 1 pS.nd aa) (ah (cK PassesOwn.never rfl (iW (by rfl) KD (ae (br eX (by rfl) Kl boot_len (ae (dv 0) ag)) ag)) (bw 2 pS.nd) (ao (bg (aK dA (au PJ hr (ae (ak (dv 0) (dv 2)) (ae (ak (dv 0) (dv 1)) ag))) aa) (ao (az 1 pS.nd (dv 2))) aQ))) (ao (ay (ai aS (OG.QE (cW (dv 0) (cM (dv 1)) cL)) (OG.QE (cW (dv 0) cL (cM (dv 1))))))))),?_⟩
 rintro ds Q Ed ⟨cs,rfl,h⟩;walk_at "s";unfold pN at h;obtain⟨hl,hc,h⟩:=h;have bd:∀p∈cs,Bd 1000 p.1/\Bd 1000 p.2.1/\Bd 1000 p.2.2:=fun p hp=>⟨(hc p hp).b.mono (by decide),(hc p hp).x.mono (by decide),(hc p hp).y.mono (by decide)⟩
 have at_:∀{k:Nat},k<cs.length->Me (cs.map Kg) (k:Int)=some (Kg (cs.getD k (0,0,0)))/\cs.getD k (0,0,0)∈cs:=fun {k} hk=>by
  have e:cs[k]?=some (cs.getD k (0,0,0)):=by rw[Nq,LH hk];rfl
  exact⟨di (by rw[M9,e];rfl),NS e⟩
 walk_at "x";refine PD.jX (List.range' 0 cs.length) (fun(k:Nat)=>D.int (k:Int)) (fun j ρ=>∃v:Option Sl,ρ=[some (.val (.lst false (cs.map Kg))),some (.val (.int ((ldI cs j:Nat):Int))),v]) (fun R q=>?_) ⟨none,rfl⟩ ?_ ?_
 ·walk_at "x";rw[J6,yW];exact⟨⟨by lia,by lia⟩,q⟩
 ·rintro j k JY hj ⟨v,rfl⟩;obtain⟨Qp,ek⟩:=MZ.mp hj;rw[P8]at Qp;rw[List.getElem_range',Pn,Nat.one_mul]at ek;subst ek;have li:=(o8 cs j).1;obtain⟨a1,m1⟩:=at_ Qp;obtain⟨a2,m2⟩:=at_ (show ldI cs j<cs.length by lia);have es:=DL cs j;unfold stI at es;walk_at "x";refine⟨_,a1,_,a2,?_⟩;rw[eT,eT];generalize cs.getD j (0,0,0)=a at *;generalize cs.getD (ldI cs j) (0,0,0)=b at *;show mI κ [T3 a.1 a.2.1 a.2.2,T3 b.1 b.2.1 b.2.2] _ _;rw[p6,jK];refine⟨(bd a m1).1,(bd a m1).2.1,(bd a m1).2.2,(bd b m2).1,(bd b m2).2.1,(bd b m2).2.2,?_⟩;rw[fJ];refine⟨_,rfl,?_⟩;by_cases q:rkT a b<0
  ·rw[JU q]at es;rw[JU (Mb (show rk a.1 a.2.1 a.2.2 b.1 b.2.1 b.2.2<0 from q)),es];exact⟨_,rfl⟩
  ·rw[JT q]at es;rw[JT (by rw[decide_eq_true_eq];exact q),es];exact⟨_,rfl⟩
 ·rintro JY ⟨v,rfl⟩;rw[P8];have li:=(o8 cs cs.length).1;walk_at "x";rw[Gj _ (by rw[J6];exact li),uw _ (by rw[J6];exact li),<- List.map_drop,<- List.map_take,<- Na];refine⟨?_,h⟩;rw[J6,J6,ON,NW,sizeLine_eq]
  lia
def sZ (F:av K "axis_lines" "axis_lines" c8 f fd) (C:Lx K mg κ)    : aI P w K mg base (CX1 P w) 1 f fd ["dots"] (aJ K (gQ κ)):=by
 refine av.okN F tu (by walk_at "l") fun Ks A outer s H E hr=>⟨_,(ao (ay (ai aS (b5 (by rfl) (by exact bK (osc:=aj c8) (xs:=["dot"]) (ns:=[]) (by decide +kernel)) bC.nil (bc (dv 0)) (fun _ _ _ _ _=>dU) (fun _ _ _ _ _=>(bO (ae (bU (ak (dv 0) aa)) (ae aa (ae aa ag)))))) (b5 (by rfl) (by exact bK (osc:=aj c8) (xs:=["dot"]) (ns:=[]) (by decide +kernel)) bC.nil (bc (dv 0)) (fun _ _ _ _ _=>dU) (fun _ _ _ _ _=>(bO (ae (bU (ak (dv 0) aa)) (ae aa (ae aa ag))))))))),?_⟩
 rintro ds Q Ed ⟨ps,rfl,h⟩;walk_at "s";unfold d5 at h;obtain⟨hl,h⟩:=h;walk_at "x";refine PD.comp_map ps Kh (fun _=>true) (fun p=>Kg (-p.1,1,0)) (fun R q=>?_) (by rw[sizeLine_eq];lia) (fun x hx K hK=>?_) (fun x hx _ K hK=>?_) ?_
 ·walk_at "x";exact q
 ·walk_at "x";exact hK
 ·unfold Kh;walk_at "x";exact⟨QC _ _ _,hK⟩
 rw[Qt.mpr (fun _ _=>rfl)];refine PD.comp_map ps Kh (fun _=>true) (fun p=>Kg (-p.2.1,0,1)) (fun R q=>?_) (by rw[sizeLine_eq];lia) (fun x hx K hK=>?_) (fun x hx _ K hK=>?_) ?_
 ·walk_at "x";exact q
 ·walk_at "x";exact hK
 ·unfold Kh;walk_at "x";exact⟨QC _ _ _,hK⟩
 rw[Qt.mpr (fun _ _=>rfl),zB];unfold XA at h;rw[Na,MX,MX]at h;exact⟨by rw[J6,J6,sizeLine_eq];lia,h⟩
def wC (F:av K "opposite" "opposite" ki f fd) (C:Lx K mg κ)    : aI P w K mg base (CX1 P w) 1 f fd ["gauge"] (aJ K (gn κ)):=by
 refine av.okN F wI (by walk_at "l") fun Ks A outer s H E hr=>⟨_,(ao (ay (bO (ae (bU (ak (dv 0) aa)) (ae (bU (ak (dv 0) aa)) (ae (bU (ak (dv 0) aa)) ag)))))),?_⟩
 rintro ds Q Ed ⟨g0,g1,g2,rfl,h⟩;walk_at "s";unfold dR at h;walk_at "x";exact⟨QC _ _ _,h⟩
def qR (F:av K "half_planes" "half_planes" gM f fd) (C:Lx K mg κ)  (L7:tU P w K mg base κ) (MH:xS P w K mg base κ) (L8:tW P w K mg base κ) (MJ:xT P w K mg base κ)  : aI P w K mg base (CX1 P w) 6 f fd ["dots"] (aJ K (fP κ)):=by
 refine av.okN F fO (by walk_at "l") fun Ks A outer s H E hr=>⟨_,(ah (iF 1 fO.nd ag) (ah (cK PassesOwn.never rfl (bc (au MJ hr (ae (dv 0) (ae (ai aS (au L8 hr (ae (dv 0) ag)) (au L7 hr (ae (dv 0) ag))) ag)))) (bw 2 fO.nd) (ah (cY 1 (bO (ae (ak (dv 2) aa) (ae (ak (dv 2) aa) (ae (ai aS (ak (dv 2) aa) (ak (dv 2) aa)) ag))))) (ao (cY 1 (bO (ae (au MH hr (ae (ak (dv 2) aa) ag)) (ae (ak (dv 2) aa) (ae (ai aS (ak (dv 2) aa) (ak (dv 2) aa)) ag)))))))) (cF 1 (ao (ay (dv 1)))))),?_⟩
 rintro ds Q Ed ⟨ps,rfl,h⟩;walk_at "s";unfold dD at h;obtain⟨hl,hG,h⟩:=h;have la:=qN hl;have gbL:∀g∈N9 ps,Bd 1000 g.1/\Bd 1000 g.2.1/\Bd 1000 g.2.2:=fun g hg=>by
  rcases KR.mp hg with z|z
  ·obtain⟨ij,My,rfl⟩:=KH.mp z;obtain⟨a,b,c⟩:=jG.mp My;have F:=tN (hG _ (jC (show ij.1<ps.length by lia))) (hG _ (jC b)) c;exact⟨F.b0,F.b1,F.b2⟩
  ·have b1:Bd 1000 1:=Bd.mono (m:=2) (by unfold Bd;decide) (by decide);have b0:Bd 1000 0:=Bd.mono (m:=2) (by unfold Bd;decide) (by decide);rcases KR.mp z with z|z<;>obtain⟨p,hp,rfl⟩:=KH.mp z
   ·exact⟨((hG p hp).x.neg).mono (by decide),b1,b0⟩
   ·exact⟨((hG p hp).y.neg).mono (by decide),b0,b1⟩
 walk_at "x";refine⟨Mx _,?_⟩;refine Ey (P:=fun zs=>bJ zs (N9 ps)) (vA ps) (fun R hR=>?_) fun zs hz=>?_
 ·walk_at "x";refine⟨by lia,hG,by lia,by rw[J6,J6,sizeLine_eq];unfold N9 at la;rw[LO]at la;lia,?_⟩;rw[<- Na,qb,jN,dS];exact⟨by lia,hG,LZ la (by decide),gbL,fun ys hy=>⟨_,_,rfl,hR ys hy⟩⟩
 have lz:=iY hz;refine PD.eU zs (vA ps) (fun done ρ=>∃v:Option Sl,ρ=[some (.val (.lst false (ps.map Kh))),some (.own ((bS ps done).map bV)),v]) (fun R q=>q) ⟨none,rfl⟩ ?_ ?_
 ·rintro done g JY hg Mc ⟨v,rfl⟩;have ld:=(q0 (ps:=ps) (zs:=done) 0).1;have e:bS ps (done++[g])=bS ps done++[(g,wl ps g 1,wl ps g 1+wl ps g 0)]++[(MU g,wl ps g (-1),wl ps g (-1)+wl ps g 0)]:=by
   unfold bS;rw[List.flatMap_append,List.flatMap_singleton,Nt];rfl
  have eo:D.tup [T3 (-g.1) (-g.2.1) (-g.2.2),.int (wl ps g (-1)),.int (wl ps g (-1)+wl ps g 0)]=bV (MU g,wl ps g (-1),wl ps g (-1)+wl ps g 0):=rfl;unfold vA;walk_at "x";refine⟨by rw[sizeLine_eq];show 3<=_;decide,by rw[J6,sizeLine_eq];lia,?_⟩;show gn κ [T3 g.1 g.2.1 g.2.2] _ _;rw[jM,dR];refine⟨by rw[sizeLine_eq];show 3<=_;decide,by rw[LO,J6,sizeLine_eq];show _+1<_;lia,some (.val (.tup [Kg g,.int (wl ps g (-1)),.int (wl ps g 0),.int (wl ps g 1)])),?_⟩;rw[e,Na,Na,eo];rfl
 ·rintro JY ⟨v,rfl⟩;walk_at "x";exact h zs hz
def Fb (F:av K "rims" "rims" pQ f fd) (C:Lx K mg κ)    : aI P w K mg base (CX1 P w) 1 f fd ["planes", "weight"] (aJ K (rG κ)):=by
 refine av.okN F FA (by walk_at "l") fun Ks A outer s H E hr=>⟨_,(ao (ay (b5 (by rfl) (by exact bK (osc:=aj pQ) (xs:=["row"]) (ns:=["weight"]) (by decide +kernel)) (bC.cons 1 bC.nil) (bc (dv 0)) (fun _ _ _ _ _=>(p9 (B6 dA DQ (ak (dv 0) aa) (dv 1) (ak (dv 0) aa)))) (fun _ _ _ _ _=>(ak (dv 0) aa))))),?_⟩
 rintro ds Q Ed ⟨xs,w,rfl,h⟩;walk_at "s";unfold mF at h;obtain⟨hl,h⟩:=h;walk_at "x";refine PD.comp_map xs bV (fun x=>decide (x.2.1<w/\w<=x.2.2)) (fun x=>Kg x.1) (fun R q=>?_) (by rw[sizeLine_eq];lia) (fun x hx K hK=>?_) (fun x hx _ K hK=>?_) ?_
 ·walk_at "x";exact q
 ·unfold bV;walk_at "x";by_cases c:x.2.1<w
  ·rw[JU c,decide_eq_decide.mpr (show w<=x.2.2↔x.2.1<w/\w<=x.2.2 from⟨fun z=>⟨c,z⟩,fun z=>z.2⟩)];exact hK
  ·rw[JT c,<- Qb (show¬(x.2.1<w/\w<=x.2.2)from fun z=>c z.1)];exact hK
 ·unfold bV;walk_at "x";exact hK
 ·unfold cP at h;rw[MX]at h;exact h
def yK (F:av K "hull_of" "hull_of" lF f fd) (C:Lx K mg κ)  (PK:FW P w K mg base κ) (MK:xU P w K mg base κ)  : aI P w K mg base (CX1 P w) 4 f fd ["dots"] (aJ K (kA κ)):=by
 refine av.okN F yZ (by walk_at "l") fun Ks A outer s H E hr=>⟨_,(ao (ay (au PK hr (ae (au MK hr (ae (dv 0) ag)) ag)))),?_⟩
 rintro ds Q Ed ⟨ps,rfl,h⟩;walk_at "s";unfold hU at h;obtain⟨hl,hG,h⟩:=h;walk_at "x";refine⟨by lia,by rw[J6];lia,fun p hp=>?_,fun ys hy _=>?_⟩
 ·obtain⟨q,hq,rfl⟩:=KH.mp hp;exact⟨(hG q hq).x,(hG q hq).y⟩
 ·have:=h ys hy;rw[MX]at this;exact this
def nJ (F:av K "region_within" "region_within" fu f fd) (C:Lx K mg κ)  (NL:By P w K mg base κ) (M8:zr P w K mg base κ) (Rw:Iq P w K mg base κ) (PL:FZ P w K mg base κ) (Lp:nh P w K mg base "total" 2 ["dots", "colour"] "colour" (fV κ))  : aI P w K mg base (CX1 P w) 7 f fd ["dots", "planes", "least"] (aJ K (eR κ)):=by
 refine av.okN F iM (by walk_at "l") fun Ks A outer s H E hr=>⟨_,(ah (az 3 iM.nd (ai aS (ai aX (iV Lp (hr.mono (by decide)) (ae (dv 0) ag)) (dv 2)) aa)) (ao (ay (au Rw hr (ae (au NL hr (ae (au M8 hr (ae (dv 0) ag)) (ae (au PL hr (ae (dv 1) (ae (dv 3) ag))) ag))) ag))))),?_⟩
 rintro ds Q Ed ⟨ps,xs,l,rfl,h⟩;walk_at "s";unfold cG at h;obtain⟨Dk,⟨zs,hz,rfl⟩,h⟩:=h;have:=Dk.le;walk_at "x";refine⟨fun _=>true,.inl ⟨rfl,rfl⟩,by lia,Dk.le,Dk.gd,fun ys hy=>?_⟩;obtain⟨hG,lG⟩:=jJ Dk hz (QL (fun _=>true) ps - l+1);have R:=jH Dk hG lG hy;have lz:=iY hz;have la:=qN Dk.le;have lp:=(q0 (ps:=ps) (zs:=zs) 0).1;have fin:=R.O7 (cP (bS ps zs) (QL (fun _=>true) ps - l+1)).length;rw[TC]at fin;exact⟨by lia,by lia,fun j _=>⟨(R.O7 j).2.1,fun p hp=>⟨((R.O7 j).2.2 p hp).1.pos,((R.O7 j).2.2 p hp).2⟩⟩,fun g hg=>⟨(hG g hg).1.c.mono (by decide),(hG g hg).1.a.mono (by decide),(hG g hg).1.b.mono (by decide)⟩,fun _=>⟨fin.2.1,fun p hp=>(fin.2.2 p hp).2,h zs ys hz hy⟩⟩
def AJ (F:av K "region" "region" nQ f fd) (C:Lx K mg κ)  (LM:sQ P w K mg base κ) (Lj:ot P w K mg base κ) (Lp:nh P w K mg base "total" 2 ["dots", "colour"] "colour" (fV κ))  : aI P w K mg base (CX1 P w) 8 f fd ["dots", "least"] (aJ K (lQ κ)):=by
 refine av.okN F A6 (by walk_at "l") fun Ks A outer s H E hr=>⟨_,(ah (bg (OB.pt (dX (aK dA (dv 1) aa) (gA (aK pF (dv 1) (iV Lp (hr.mono (by decide)) (ae (dv 0) ag)))))) (ao nk) aQ) (ao (ay (au Lj hr (ae (dv 0) (ae (au LM hr (ae (dv 0) ag)) (ae (dv 1) ag))))))),?_⟩
 rintro ds Q Ed ⟨ps,l,rfl,h⟩;walk_at "s";unfold i4 at h;obtain⟨Dk,l1,l2,h⟩:=h;have:=Dk.le;walk_at "x";rw[JT (by lia)];refine⟨fun _=>true,.inl ⟨rfl,rfl⟩,by lia,?_⟩;rw[JT (show¬QL (fun _=>true) ps<l by have:l<=QL (fun _=>true) ps:=l2;lia)];exact⟨Dk.le,Dk.gd,fun zs hz=>⟨Dk,⟨zs,hz,rfl⟩,h⟩⟩
def AI (F:av K "middle" "middle" nP f fd) (C:Lx K mg κ)  (LV:tX P w K mg base κ) (Lp:nh P w K mg base "total" 2 ["dots", "colour"] "colour" (fV κ)) (Kl:mg "len" = none):aI P w K mg base (CX1 P w) 9 f fd ["dots"] (aJ K (i7 κ)):=by
 refine av.okX F A5 (by walk_at "l") fun Ks A outer s H E Ed hr pm px hx=>⟨_,(ah (bg (aK bP (br eX (by rfl) Kl boot_len (ae (dv 0) ag)) aa) (ao (B5 pm (by rfl) C.Lu C.Lz rfl (ae GJ ag))) aQ) (ao (ay (ak (au LV hr (ae (dv 0) (ae (ai b6 (ai aS (iV Lp (hr.mono (by decide)) (ae (dv 0) ag)) aa) aa) ag))) aa)))),?_⟩
 rintro ds Q ⟨ps,rfl,h⟩;walk_at "s";unfold eV at h;rcases h with⟨he,h⟩| ⟨Dk,h⟩
 ·subst he;walk_at "x";exact⟨S1 _,h⟩
 have:=Dk.le;have l0:=VE.mpr Dk.ne;have w0:=qv Dk;have f3:(aN ps+2).fdiv 3=(aN ps+2) / 3:=YK _ (by decide);walk_at "x";rw[J6,JT (by lia)];refine⟨fun _=>true,.inl ⟨rfl,rfl⟩,by lia,CD.lit,Dk,?_,?_,fun zs ys hz hy=>?_⟩
 ·show 1<=(aN ps+2).fdiv 3
  lia
 ·show(aN ps+2).fdiv 3<=aN ps
  lia
 have q:=h zs ys hz hy;obtain⟨y,r,e,_⟩:=qQ Dk hz hy;show∃d,Me ((gJ (gK ps zs ys (aN ps - (aN ps+2).fdiv 3+1))).map Kg) 0=some d/\Q d;rw[e]at q ⊢;exact⟨Kg y,Sa _ _,q⟩
def vd (F:av K "_law_whole" "_law_whole" jr f fd) (C:Lx K mg κ)   (ML:mg "bool" = none) (Ll:mg "int" = none) (JV:mg "isinstance" = none):aI P w K mg base (CX1 P w) 1 f fd ["_law_found"] (aJ K (iO κ)):=by
 refine av.okN F vG (by walk_at "l") fun Ks A outer s H E hr=>⟨_,(ao (ay (oK (kY (by rfl) JV (by rfl) Ll boot_int (.inl rfl) (dv 0)) (oN (uG (kY (by rfl) JV (by rfl) ML boot_bool (.inr (.inl rfl)) (dv 0))))))),?_⟩
 rintro ds Q Ed ⟨a,rfl,h⟩;walk_at "s";unfold fg at h;walk_at "x";exact h
def qS (F:av K "_law_cell_at" "_law_cell_at" gN f fd) (C:Lx K mg κ)   (Kl:mg "len" = none):aI P w K mg base (CX1 P w) 1 f fd ["_law_script", "_law_k"] (aJ K (fQ κ)):=by
 refine av.okN F rj (by walk_at "l") fun Ks A outer s H E hr=>⟨_,(ah (bg (aK dA (dv 1) (br eX (by rfl) Kl boot_len (ae (dv 0) ag))) (ao (ay (ak (dv 0) (dv 1)))) aQ) (ao (ay aa))),?_⟩
 rintro ds Q Ed ⟨ns,k,rfl,h⟩;walk_at "s";unfold dE at h;obtain⟨hk,hn,h⟩:=h;walk_at "x";by_cases hl:k<((ns.map D.int).length:Int)
 ·rw[JU (by simpa using hl)];rw[J6]at hl;exact⟨_,BG hk hl,h _⟩
 ·rw[JT (by simpa using hl)];exact h 0
def qT (F:av K "_law_divisor" "_law_divisor" gO f fd) (C:Lx K mg κ)   (Mn:mg "abs" = none):aI P w K mg base (CX1 P w) 1 f fd ["_law_one", "_law_other"] (aJ K (fR κ)):=by
 refine av.okN F dH (by walk_at "l") fun Ks A outer s H E hr=>⟨_,(ah (az 2 dH.nd (br ue (by rfl) Mn boot_abs (ae (dv 0) ag))) (ah (az 3 dH.nd (br ue (by rfl) Mn boot_abs (ae (dv 1) ag))) (ah (nq PassesOwn.never (aK lh (dv 3) aa) (ao (GN 2 3 rfl dH.nd (by decide) (ae (dv 3) (ae (ai bA (dv 2) (dv 3)) ag))))) (ao (ay (dv 2)))))),?_⟩
 rintro ds Q Ed ⟨a,b,rfl,h⟩;walk_at "s";unfold dF at h;walk_at "x";refine⟨fun m ρ=>∃(x y:Int),ρ=[some (.val (.int a)),some (.val (.int b)),some (.val (.int x)),some (.val (.int y))]/\Int.gcd x y=Int.gcd a b/\m=y.natAbs/\0<=x/\0<=y,⟨_,_,_,rfl,PM.ED a b,rfl,by lia,by lia⟩,?_⟩;rintro m ρ ⟨x,y,rfl,hg,rfl,hx,Tc⟩;walk_at "x";by_cases hy:y=0
 ·subst hy;rw[PM.sd]at hg;have:x=((x.natAbs:Nat):Int):=by lia
  rw[JU rfl,this,hg];exact h
 ·rw[JT hy];refine⟨hy,?_⟩;exact⟨_,PM.rZ x hy,y,x.fmod y,rfl,(PM.uO x y).trans hg,rfl,Tc,XO x (by lia)⟩
def yM (F:av K "_law_dot" "_law_dot" lH f fd) (C:Lx K mg κ)   (Ll:mg "int" = none):aI P w K mg base (CX1 P w) 1 f fd ["_law_cell", "_law_kind", "_law_heavy"] (aJ K (kB κ)):=by
 refine av.okN F ba (by walk_at "l") fun Ks A outer s H E hr=>⟨_,(ah (az 3 ba.nd (ai bA (ai aS (ai aE (dv 0) aa) aa) aa)) (ah (az 4 ba.nd (ai bA (dv 3) aa)) (ah (az 5 ba.nd (ai bA (ai b6 (dv 3) aa) aa)) (ah (bg (aK bP (dv 1) aa) (ah (az 4 ba.nd (ai aX (ai bA (dv 3) aa) aa)) (ao (az 5 ba.nd (ai aX (ai bA (ai b6 (dv 3) aa) aa) aa)))) aQ) (ah (bg (aK bP (dv 1) aa) (ah (az 4 ba.nd (ai aX (ai aE aa (ai bA (dv 3) aa)) aa)) (ao (az 5 ba.nd (ai aX aa (ai bA (dv 3) aa))))) aQ) (ah (bg (aK bP (dv 1) aa) (ah (az 4 ba.nd (ai aS (ai aX (ai bA (ai aE (dv 0) aa) (ai aX (ai aE aa (ai pH aa aa)) aa)) (ai pH aa aa)) aa)) (ao (az 5 ba.nd (ai aS (ai aX (ai bA (ai aE (dv 0) aa) (ai aX (ai aE aa (ai pH aa aa)) aa)) (ai pH aa aa)) aa)))) aQ) (ah (bg (aK bP (dv 1) aa) (ah (az 4 ba.nd (ai aX aa (gw kS (by rfl) Ll boot_int (ae (cT bP (ai bA (dv 3) aa) aa) ag)))) (ao (az 5 ba.nd (ai aX aa (ai aE aa (gw kS (by rfl) Ll boot_int (ae (cT bP (ai bA (dv 3) aa) aa) ag))))))) aQ) (ah (bg (aK bP (dv 1) aa) (ah (az 4 ba.nd (ai aX (ai bA (dv 3) aa) aa)) (ao (az 5 ba.nd (ai aX (ai aE (dv 4) (dv 4)) (ai aE aa (gw kS (by rfl) Ll boot_int (ae (cT bP (ai bA (ai b6 (dv 3) aa) aa) aa) ag))))))) aQ) (ah (az 6 ba.nd (ak (iD (ae aa (ae (ai aS aa (ai bA (ai b6 (dv 3) aa) aa)) (ae (ai aS aa (ai bA (ai aE (dv 0) aa) aa)) ag)))) (dv 2))) (ao (ay (bO (ae (dv 4) (ae (dv 5) (ae (ai bA (ai b6 (dv 3) aa) aa) (ae (dv 6) ag)))))))))))))))),?_⟩
 rintro ds Q Ed ⟨c,k,v,rfl,h⟩;walk_at "s";unfold ib at h;obtain⟨h0,h2,h⟩:=h;have lit:∀{m:Int},m.natAbs<2 ^ 64->CM c m:=fun hm=>.inr (.inl hm)
 have cl:∀{a m:Int},a.natAbs<2 ^ 64->CM a m:=fun hm=>.inl hm
 refine A8 (fun JY=>∃n x y:Int,(0<=n/\n<2147483647)/\Bd 40 x/\Bd 40 y/\JY=[some (.val (.int c)),some (.val (.int k)),some (.val (.int v)),some (.val (.int n)),some (.val (.int x)),some (.val (.int y)),none]) (fun JY e=>?_) fun K hK=>?_
 rotate_left
 ·walk_at "x";have hn:=fm (a:=c*48271+11) (b:=2147483647) (by decide);generalize (c*48271+11).fmod 2147483647=n at hn ⊢;have f1:=fm (a:=n) (b:=3) (by decide);have f2:=fm (a:=n.fdiv 3) (b:=3) (by decide);exact⟨lit (by decide),by decide,by decide,CD.lit,by decide,hK _ ⟨n,_,_,hn,by unfold Bd;lia,by unfold Bd;lia,rfl⟩⟩
 obtain⟨n,x,y,hn,hx,hy,rfl⟩:=e;refine eQ (fun JY=>∃x y:Int,Bd 40 x/\Bd 40 y/\JY=[some (.val (.int c)),some (.val (.int k)),some (.val (.int v)),some (.val (.int n)),some (.val (.int x)),some (.val (.int y)),none]) (fun JY e=>?_) fun K hK=>?_
 rotate_left
 ·walk_at "x";split
  ·have f1:=fm (a:=n) (b:=9) (by decide);have f2:=fm (a:=n.fdiv 9) (b:=9) (by decide);exact⟨by decide,CD.lit,by decide,hK _ ⟨_,_,by unfold Bd;lia,by unfold Bd;lia,rfl⟩⟩
  ·exact hK _ ⟨x,y,hx,hy,rfl⟩
 obtain⟨x,y,hx,hy,rfl⟩:=e;refine eQ (fun JY=>∃x y:Int,Bd 40 x/\Bd 40 y/\JY=[some (.val (.int c)),some (.val (.int k)),some (.val (.int v)),some (.val (.int n)),some (.val (.int x)),some (.val (.int y)),none]) (fun JY e=>?_) fun K hK=>?_
 rotate_left
 ·walk_at "x";split
  ·have f1:=fm (a:=n) (b:=9) (by decide);exact⟨by decide,cl (by decide),by decide,hK _ ⟨_,_,by unfold Bd;lia,by unfold Bd;lia,rfl⟩⟩
  ·exact hK _ ⟨x,y,hx,hy,rfl⟩
 obtain⟨x,y,hx,hy,rfl⟩:=e;refine eQ (fun JY=>∃x y:Int,Bd 40 x/\Bd 40 y/\JY=[some (.val (.int c)),some (.val (.int k)),some (.val (.int v)),some (.val (.int n)),some (.val (.int x)),some (.val (.int y)),none]) (fun JY e=>?_) fun K hK=>?_
 rotate_left
 ·walk_at "x";split
  ·rw[p12];have f1:=fm (a:=c*7919) (b:=2*1000000000000 - 1) (by decide);have f2:=fm (a:=c*104729) (b:=2*1000000000000 - 3) (by decide);exact⟨lit (by decide),yf,cl (by decide),by decide,yf,lit (by decide),yf,cl (by decide),by decide,yf,hK _ ⟨_,_,by unfold Bd;lia,by unfold Bd;lia,rfl⟩⟩
  ·exact hK _ ⟨x,y,hx,hy,rfl⟩
 obtain⟨x,y,hx,hy,rfl⟩:=e;refine eQ (fun JY=>∃x y:Int,Bd 40 x/\Bd 40 y/\JY=[some (.val (.int c)),some (.val (.int k)),some (.val (.int v)),some (.val (.int n)),some (.val (.int x)),some (.val (.int y)),none]) (fun JY e=>?_) fun K hK=>?_
 rotate_left
 ·walk_at "x";split
  ·exact⟨by decide,by decide,cl (by decide),hK _ ⟨_,_,by unfold Bd;split<;>lia,by unfold Bd;split<;>lia,rfl⟩⟩
  ·exact hK _ ⟨x,y,hx,hy,rfl⟩
 obtain⟨x,y,hx,hy,rfl⟩:=e;refine eQ (fun JY=>∃x y:Int,Bd 40 x/\Bd 40 y/\JY=[some (.val (.int c)),some (.val (.int k)),some (.val (.int v)),some (.val (.int n)),some (.val (.int x)),some (.val (.int y)),none]) (fun JY e=>?_) fun K hK=>?_
 rotate_left
 ·walk_at "x";split
  ·have f1:=fm (a:=n) (b:=21) (by decide);have bm:Bd 4 (n.fmod 21 - 10):=by unfold Bd;lia
   exact⟨by decide,UA bm bm,CD.lit,by decide,cl (by decide),hK _ ⟨_,_,bm.mono (by decide),(Bd.sub ((bm.mul bm).mono (n:=20) (by decide)) (by unfold Bd;split<;>decide)).mono (by decide),rfl⟩⟩
  ·exact hK _ ⟨x,y,hx,hy,rfl⟩
 obtain⟨x,y,hx,hy,rfl⟩:=e;walk_at "x";have f1:=fm (a:=n.fdiv 192) (b:=7) (by decide);have f2:=fm (a:=c*31) (b:=999999999) (by decide);have f3:=fm (a:=n.fdiv 64) (b:=3) (by decide);refine⟨CD.lit,by decide,lit (by decide),by decide,QC _ _ _,?_⟩;refine F3 h0 (by show v<3;lia) fun d hd=>?_
 obtain⟨w,rfl,hw⟩:∃w:Int,d=.int w/\0<w:=by
  simp only[Kr,PO,or_false]at hd;rcases hd with rfl|rfl|rfl
  ·exact⟨_,rfl,by decide⟩
  ·exact⟨_,rfl,by lia⟩
  ·exact⟨_,rfl,by lia⟩
 exact⟨CD.lit,by decide,sz4 _ _ _ _,h (x,y,(n.fdiv 64).fmod 3,w) ⟨hx.mono (by decide),hy.mono (by decide),f3.1,(show(n.fdiv 64).fmod 3<=2 by lia)⟩ hx hy hw⟩
def wB (F:av K "_law_dots" "_law_dots" kh f fd) (C:Lx K mg κ)  (Kq:kK P w K mg base κ) (Mu:zt P w K mg base κ)  : aI P w K mg base (CX1 P w) 2 f fd ["_law_script", "_law_start", "_law_most"] (aJ K (jv κ)):=by
 refine av.okN F cO (by walk_at "l") fun Ks A outer s H E hr=>⟨_,(ah (az 3 cO.nd (au Kq hr (ae (dv 0) (ae aa ag)))) (ah (az 4 cO.nd (ai bA (dv 3) aa)) (ah (az 5 cO.nd (ai bA (ai b6 (dv 3) aa) aa)) (ah (iF 6 cO.nd (ae (au Mu hr (ae (au Kq hr (ae (dv 0) (ae aa ag))) (ae (dv 4) (ae (dv 5) ag)))) ag)) (ah (cK PassesOwn.never rfl (bc (OG.QE (cW (dv 0) (cM (dv 1)) (cM (ai aX (ai aS (dv 1) (dv 2)) aa))))) (bw 7 cO.nd) (ao (cY 6 (au Mu hr (ae (dv 7) (ae (dv 4) (ae (dv 5) ag))))))) (cF 6 (ao (ay (dv 6))))))))),?_⟩
 rintro ds Q Ed ⟨ns,s,m,rfl,h⟩;walk_at "s";unfold fZ at h;obtain⟨hn,rfl,hm,h⟩:=h;obtain⟨M,rfl,M0,M1⟩:∃M:Nat,m=(M:Int)/\0<M/\M<=20:=by
  rcases hm with rfl|rfl
  ·exact⟨12,rfl,by decide,by decide⟩
  ·exact⟨20,rfl,by decide,by decide⟩
 walk_at "x";refine⟨by decide,hn,fun f=>?_⟩;walk_at "x";have f3:=fm (a:=f.fdiv 6) (b:=3) (by decide);refine⟨by decide,CD.lit,by decide,by decide,hn,fun c1=>⟨f3.1,by lia,fun p0 g0 x0 y0 w0=>?_⟩⟩;walk_at "x";have eh:(2+(M:Int) - 1)=((M+1:Nat):Int):=by lia
 have lc:(uq ns (some 2) (some ((M+1:Nat):Int))).length<=M - 1:=by
  unfold uq;rw[NW];have e1:HT.Mz ns.length 0 (some 2)=min 2 ns.length:=HT.jL _ _ 2;have e2:HT.Mz ns.length ns.length (some ((M+1:Nat):Int))=min (M+1) ns.length:=HT.jL _ _ (M+1);rw[e1,e2]
  lia
 refine⟨S1 _,?_⟩;refine PD.eU (uq ns (some 2) (some ((M+1:Nat):Int))) D.int (fun done ρ=>∃(ps:List Dt) (v7:Option Sl),ρ=[some (.val (.lst false (ns.map D.int))),some (.val (.int 2)),some (.val (.int (M:Int))),some (.val (.int f)),some (.val (.int (f.fmod 6))),some (.val (.int ((f.fdiv 6).fmod 3))),some (.own (ps.map Kh)),v7]/\ps.length=done.length+1/\∀p∈ps,GD p/\(Bd 40 p.1/\Bd 40 p.2.1)/\0<p.2.2.2) (fun R q=>?_) ⟨[p0],none,rfl,rfl,fun q hq=>by rw[LQ.mp hq];exact⟨g0,⟨x0,y0⟩,w0⟩⟩ ?_ ?_
 ·walk_at "x";rw[eh,BR];exact q
 ·rintro done c JY hc Mc ⟨ps,v7,rfl,hl,hG⟩;walk_at "x";refine⟨f3.1,by lia,fun p gp xp yp wp=>⟨by rw[J6,sizeLine_eq];lia,ps++[p],_,by rw[Na];rfl,by simp[hl],fun q hq=>?_⟩⟩;rcases KR.mp hq with z|z
  ·exact hG q z
  ·rw[LQ]at z;subst z;exact⟨gp,⟨xp,yp⟩,wp⟩
 ·rintro JY ⟨ps,v7,rfl,hl,hG⟩;walk_at "x";exact h ps ⟨fun p hp=>(hG p hp).1,fun p hp=>(hG p hp).2.1,fun p hp=>(hG p hp).2.2,by lia,List.ne_nil_of_length_pos (by lia)⟩
def va (F:av K "_law_depth" "_law_depth" jq f fd) (C:Lx K mg κ)   (Ll:mg "int" = none) (Nc:mg "min" = none):aI P w K mg base (CX1 P w) 1 f fd ["_law_dots_here", "_law_here"] (aJ K (fx κ)):=by
 refine av.okN F aG (by walk_at "l") fun Ks A outer s H E hr=>⟨_,(ah (az 2 aG.nd aa) (ah (iF 3 aG.nd ag) (ah (cK PassesOwn.never rfl (bc (dv 0)) (Ag (n:=4) rfl (eG (bw 6 aG.nd) (eG (bw 7 aG.nd) (eG (bw 8 aG.nd) (eG (bw 9 aG.nd) xh))))) (ah (az 10 aG.nd (ai aX (ai aE (dv 6) (ak (dv 1) aa)) (ak (dv 1) aa))) (ah (az 11 aG.nd (ai aX (ai aE (dv 7) (ak (dv 1) aa)) (ak (dv 1) aa))) (ao (bg (OB.pt (Aa (aK bP (dv 10) aa) (xf (aK bP (dv 11) aa)))) (ao (az 2 aG.nd (ai aS (dv 2) (dv 9)))) (ao (cY 3 (bO (ae (dv 10) (ae (dv 11) (ae (dv 9) ag))))))))))) (cF 3 (ah (az 4 aG.nd jA) (ah (cK PassesOwn.never rfl (bc (dv 3)) (bw 5 aG.nd) (ah (iF 12 aG.nd (ae aa (ae aa (ae aa (ae aa ag))))) (ah (cK PassesOwn.never rfl (bc (dv 3)) (Ag (n:=3) rfl (eG (bw 10 aG.nd) (eG (bw 11 aG.nd) (eG (bw 9 aG.nd) xh)))) (ah (az 14 aG.nd (ai aX (ai aE (ak (dv 5) aa) (dv 11)) (ai aE (ak (dv 5) aa) (dv 10)))) (ah (az 15 aG.nd (ai aS (ai aE (ak (dv 5) aa) (dv 10)) (ai aE (ak (dv 5) aa) (dv 11)))) (ah (az 16 aG.nd (ak (iD (ae (gw kS (by rfl) Ll boot_int (ae (cT dA (dv 15) aa) ag)) (ae aa ag))) (gw kS (by rfl) Ll boot_int (ae (cT pF (dv 14) aa) ag)))) (ah (bg (aK dA (dv 14) aa) (ao (az 16 aG.nd aa)) aQ) (ao (B4 12 (dv 16) (Ej 12 (ai aS (ak (dv 12) (dv 16)) (dv 9)))))))))) (cF 12 (ah (az 13 aG.nd (ai aS (br (zJ rfl) (by rfl) Nc boot_min (ae (ak (dv 12) aa) (ae (ak (dv 12) aa) ag))) (br (zJ rfl) (by rfl) Nc boot_min (ae (ak (dv 12) aa) (ae (ak (dv 12) aa) ag))))) (ao (bg (OB.pt (dX (aK pG (dv 4) jA) (gA (aK dA (dv 13) (dv 4))))) (ao (az 4 aG.nd (dv 13))) aQ))))))) (ah (bg (aK pG (dv 4) jA) (ao (ay (dv 2))) aQ) (ao (ay (ai aS (dv 2) (dv 4))))))))))),?_⟩
 rintro ds Q Ed ⟨ps,h0,h1,h2,rfl,h⟩;walk_at "s";unfold cZ at h;obtain⟨hl,hG,hW,hH,h⟩:=h;walk_at "x";refine⟨Mx _,?_⟩;refine PD.eU ps Kh (fun done ρ=>∃v6 v7 v8 v9 v10 v11:Option Sl,ρ=[some (.val (.lst false (ps.map Kh))),some (.val (T3 h0 h1 h2)),some (.val (.int (sm aZ (h0,h1,h2) done))),some (.own ((N8 (h0,h1,h2) done).map (QN (h0,h1,h2)))),none,none,v6,v7,v8,v9,v10,v11,none,none,none,none,none]) (fun R q=>?_) ⟨none,none,none,none,none,none,rfl⟩ ?_ ?_
 ·walk_at "x";exact q
 ·rintro done p JY hp Mc ⟨v6,v7,v8,v9,v10,v11,rfl⟩;have G:=hG p hp;have e1:p.1*h0 - h1=(KC (h0,h1,h2) p).1:=by unfold KC;dsimp only;rw[Mw]
  have e2:p.2.1*h0 - h2=(KC (h0,h1,h2) p).2:=by unfold KC;dsimp only;rw[Mw]
  have ln:=AE (h0,h1,h2) done;generalize hps:List.map Kh ps=L;unfold Kh;walk_at "x";subst hps;rw[e1,e2];refine⟨UA G.x hH.a,UA G.y hH.a,?_⟩;have app:KC (h0,h1,h2) p≠(0,0)->∃v6 v7 v8 v9 v10 v11:Option Sl,[some (Sl.val (.lst false (ps.map Kh))),some (.val (T3 h0 h1 h2)),some (.val (.int (sm aZ (h0,h1,h2) done))),some (.own ((N8 (h0,h1,h2) done).map (QN (h0,h1,h2))++[QN (h0,h1,h2) p])),none,none,some (.val (.int p.1)),some (.val (.int p.2.1)),some (.val (.int p.2.2.1)),some (.val (.int p.2.2.2)),some (.val (.int (KC (h0,h1,h2) p).1)),some (.val (.int (KC (h0,h1,h2) p).2)),none,none,none,none,none]=[some (Sl.val (.lst false (ps.map Kh))),some (.val (T3 h0 h1 h2)),some (.val (.int (sm aZ (h0,h1,h2) (done++[p])))),some (.own ((N8 (h0,h1,h2) (done++[p])).map (QN (h0,h1,h2)))),none,none,v6,v7,v8,v9,v10,v11,none,none,none,none,none]:=fun z=>⟨_,_,_,_,_,_,by rw[iy,JT (show¬aZ (KC (h0,h1,h2) p)from z),Of,CA _ z,Na];rfl⟩
  have sz:((N8 (h0,h1,h2) done).map (QN (h0,h1,h2))).length<sizeLine:=by rw[J6,sizeLine_eq];lia
  by_cases z1:(KC (h0,h1,h2) p).1=0
  ·rw[JU z1];by_cases z2:(KC (h0,h1,h2) p).2=0
   ·rw[JU z2];have z:KC (h0,h1,h2) p=(0,0):=ME z1 z2;exact⟨_,_,_,_,_,_,by rw[iy,JU (show aZ (KC (h0,h1,h2) p)from z),Cz _ z]⟩
   ·rw[JT z2];exact⟨QC _ _ _,sz,app fun z=>z2 (by rw[z])⟩
  ·rw[JT z1];exact⟨QC _ _ _,sz,app fun z=>z1 (by rw[z])⟩
 ·rintro JY ⟨v6,v7,v8,v9,v10,v11,rfl⟩;walk_at "x";have lq:=AE (h0,h1,h2) ps;have qin:∀q∈N8 (h0,h1,h2) ps,q∈ps/\KC (h0,h1,h2) q∈PY (h0,h1,h2) ps:=fun q hq=>⟨(Pc.mp hq).1,by rw[<- yF];exact KH.mpr ⟨q,hq,rfl⟩⟩
  refine PD.eU (N8 (h0,h1,h2) ps) (QN (h0,h1,h2)) (fun done ρ=>∃(v5 v6 v7 v8 v9 v10 v11 v12 UB UC UD UE:Option Sl) (lv:D),ρ=[some (.val (.lst false (ps.map Kh))),some (.val (T3 h0 h1 h2)),some (.val (.int (sm aZ (h0,h1,h2) ps))),some (.val (.lst true ((N8 (h0,h1,h2) ps).map (QN (h0,h1,h2))))),some (.val lv),v5,v6,v7,v8,v9,v10,v11,v12,UB,UC,UD,UE]/\((done=[]/\lv=.Kt)∨∃ m:Int,lv=.int m/\(∃q∈done,q∈N8 (h0,h1,h2) ps/\m=Rv (h0,h1,h2) ps (KC (h0,h1,h2) q))/\∀q∈done,m<=Rv (h0,h1,h2) ps (KC (h0,h1,h2) q))) (fun R q=>?_) ⟨_,_,_,_,_,_,_,_,_,_,_,_,_,rfl,.inl ⟨rfl,rfl⟩⟩ ?_ ?_
  ·walk_at "x";exact q
  ·rintro done q JY hq Mc ⟨v5,v6,v7,v8,v9,v10,v11,v12,UB,UC,UD,UE,lv,rfl,hlv⟩;obtain⟨hqp,hqu⟩:=qin q hq;have wv:=Yw.ar hH (hG q hqp);walk_at "x";refine⟨sz4 _ _ _ _,?_⟩;generalize hv:KC (h0,h1,h2) q=v at *;have eq:QN (h0,h1,h2) q=.tup [.int v.1,.int v.2,.int q.2.2.2]:=by unfold QN;rw[hv]
   rw[eq];refine PD.eU (N8 (h0,h1,h2) ps) (QN (h0,h1,h2)) (fun dn ρ=>∃(v6 v7 v8 v9 v10 v11 UB UC UD UE:Option Sl),ρ=[some (.val (.lst false (ps.map Kh))),some (.val (T3 h0 h1 h2)),some (.val (.int (sm aZ (h0,h1,h2) ps))),some (.val (.lst true ((N8 (h0,h1,h2) ps).map (QN (h0,h1,h2))))),some (.val lv),some (.val (.tup [.int v.1,.int v.2,.int q.2.2.2])),v6,v7,v8,v9,v10,v11,some (.own [.int (sm (aA v) (h0,h1,h2) dn),.int (sm (aB v) (h0,h1,h2) dn),.int (sm (aL v) (h0,h1,h2) dn),.int (sm (aR v) (h0,h1,h2) dn)]),UB,UC,UD,UE]) (fun R q=>?_) ⟨_,_,_,_,_,_,_,_,_,_,rfl⟩ ?_ ?_
   ·walk_at "x";exact q
   ·rintro dn p JY hp Mc ⟨v6,v7,v8,v9,v10,v11,UB,UC,UD,UE,rfl⟩;obtain⟨W4,hpu⟩:=qin p hp;have wp:=Yw.ar hH (hG p W4);have pn:=qe hpu;have ep:QN (h0,h1,h2) p=.tup [.int (KC (h0,h1,h2) p).1,.int (KC (h0,h1,h2) p).2,.int p.2.2.2]:=rfl;have sA:=iy (aA v) (h0,h1,h2) dn p;have sB:=iy (aB v) (h0,h1,h2) dn p;have sL:=iy (aL v) (h0,h1,h2) dn p;have sR:=iy (aR v) (h0,h1,h2) dn p;rw[sA,sB,sL,sR,ep];generalize KC (h0,h1,h2) p=a at *;walk_at "x";have e1:v.1*a.2 - v.2*a.1=tn v a:=by unfold tn;rw[Mw v.2]
    have e2:v.1*a.1+v.2*a.2=JW v a:=rfl;rw[e1,e2];refine⟨UA wv.a wp.b,UA wv.b wp.a,UA wv.a wp.a,UA wv.b wp.b,Ya _ _,?_⟩;by_cases c1:tn v a<0
    ·have nA:¬aA v a:=fun z=>by have:=z.1;lia
     have nB:¬aB v a:=fun z=>by have:=z.1;lia
     have nL:¬aL v a:=fun z=>by have:0<tn v a:=z;lia
     have yR:aR v a:=c1;refine⟨_,by rw[JT (show¬0<tn v a by lia)];exact Sa _ _,?_⟩;rw[JU c1,JT nA,JT nB,JT nL,JU yR,Of,Of,Of];exact⟨3,3,rfl,rfl,_,_,_,_,_,_,_,_,_,_,rfl⟩
    ·have nR:¬aR v a:=c1;by_cases c2:0<tn v a
     ·have nA:¬aA v a:=fun z=>by have:=z.1;lia
      have nB:¬aB v a:=fun z=>by have:=z.1;lia
      have yL:aL v a:=c2;refine⟨.int 2,by rw[JU c2];exact at1 _ _ _,?_⟩;rw[JT c1,JT nA,JT nB,JU yL,JT nR,Of,Of,Of];walk_at "x";exact⟨2,2,rfl,rfl,_,_,_,_,_,_,_,_,_,_,rfl⟩
     ·have nL:¬aL v a:=c2;by_cases c3:JW v a<0
      ·have nA:¬aA v a:=fun z=>z.2.1 c3
       have yB:aB v a:=⟨by lia,c3⟩;refine⟨.int 1,by rw[JT c2,JU c3];exact Sa _ _,?_⟩;rw[JT c1,JT nA,JU yB,JT nL,JT nR,Of,Of,Of];walk_at "x";exact⟨1,1,rfl,rfl,_,_,_,_,_,_,_,_,_,_,rfl⟩
      ·have nB:¬aB v a:=fun z=>c3 z.2
       have yA:aA v a:=⟨by lia,c3,pn⟩;refine⟨.int 0,by rw[JT c2,JT c3];exact Sa _ _,?_⟩;rw[JT c1,JU yA,JT nB,JT nL,JT nR,Of,Of,Of];walk_at "x";exact⟨0,0,rfl,rfl,_,_,_,_,_,_,_,_,_,_,rfl⟩
   ·rintro JY ⟨v6,v7,v8,v9,v10,v11,UB,UC,UD,UE,rfl⟩;rw[pX (P:=aA v) (fun _=>Ir),pX (P:=aB v) (fun _=>oz),pX (P:=aL v) (fun _=>tJ),pX (P:=aR v) (fun _=>Iu)];have lt:min (sm (aA v) (h0,h1,h2) ps) (sm (aB v) (h0,h1,h2) ps)+min (sm (aL v) (h0,h1,h2) ps) (sm (aR v) (h0,h1,h2) ps)=Rv (h0,h1,h2) ps v:=rfl;rcases hlv with⟨rfl,rfl⟩| ⟨m,rfl,⟨q1,d1,z1,e⟩,hle⟩
    ·walk_at "x";rw[lt];exact⟨_,_,_,_,_,_,_,_,_,_,_,_,_,rfl,.inr ⟨_,rfl,⟨q,by simp,hq,by rw[hv]⟩,fun x hx=>by
      have:x=q:=by simpa using hx
      subst this;rw[hv];exact Mf _⟩⟩
    ·walk_at "x";rw[lt];by_cases c:Rv (h0,h1,h2) ps v<m
     ·rw[JU c];exact⟨_,_,_,_,_,_,_,_,_,_,_,_,_,rfl,.inr ⟨_,rfl,⟨q,by simp,hq,by rw[hv]⟩,fun x hx=>by
       rcases KR.mp hx with y|y
       ·have:=hle x y;lia
       ·rw[LQ]at y;subst y;rw[hv];exact Mf _⟩⟩
     ·rw[JT c];exact⟨_,_,_,_,_,_,_,_,_,_,_,_,_,rfl,.inr ⟨m,rfl,⟨q1,by simp[d1],z1,e⟩,fun x hx=>by
       rcases KR.mp hx with y|y
       ·exact hle x y
       ·rw[LQ]at y;subst y;rw[hv]
        lia⟩⟩
  ·rintro JY ⟨v5,v6,v7,v8,v9,v10,v11,v12,UB,UC,UD,UE,lv,rfl,hlv⟩;rcases hlv with⟨hnil,rfl⟩| ⟨m,rfl,⟨q,hq,hqz,e⟩,hle⟩
   ·walk_at "x";refine h _ fun g hg=>(hg.none_ ?_).symm
    rw[<- yF,hnil];rfl
   ·walk_at "x";refine h _ fun g hg=>BX hW hg ⟨_,(qin q hq).2,e⟩ fun w hw=>?_
    rw[<- yF]at hw;obtain⟨p,hp,rfl⟩:=KH.mp hw;exact hle p hp
def pI (F:av K "_law_is_place" "_law_is_place" fL f fd) (C:Lx K mg κ)  (K6:sS P w K mg base κ) (K9:vU P w K mg base κ) (JV:mg "isinstance" = none) (Kl:mg "len" = none) (L9:mg "tuple" = none):aI P w K mg base (CX1 P w) 2 f fd ["_law_found"] (aJ K (cS κ)):=by
 refine av.okN F pR (by walk_at "l") fun Ks A outer s H E hr=>⟨_,(ah (bg (OB.pt (dX (gz (dP (kY (by rfl) JV (by rfl) L9 boot_tuple (.inr (.inr (.inl rfl))) (dv 0)))) (gA (aK lh (br eX (by rfl) Kl boot_len (ae (dv 0) ag)) aa)))) (ao (ay oM)) aQ) (ah (bg (OB.pt (dX (gz (dP (au K9 hr (ae (ak (dv 0) aa) ag)))) (dX (gz (dP (au K9 hr (ae (ak (dv 0) aa) ag)))) (dX (gz (dP (au K9 hr (ae (ak (dv 0) aa) ag)))) (gA (aK dA (ak (dv 0) aa) aa)))))) (ao (ay oM)) aQ) (ao (ay (cT bP (au K6 hr (ae (au K6 hr (ae (ak (dv 0) aa) (ae (ak (dv 0) aa) ag))) (ae (ak (dv 0) aa) ag))) aa))))),?_⟩
 rintro ds Q Ed ⟨h0,h1,h2,rfl,h⟩;walk_at "s";unfold b9 at h;obtain⟨⟨hp,hg⟩,h⟩:=h;have S8:0<h0:=hp;have g1:(((Int.gcd (Int.gcd h0 h1:Int) h2:Nat)):Int)=1:=by
  have e':((PM.g3 h0 h1 h2:Nat):Int)=1:=by rw[show PM.g3 h0 h1 h2=1 from hg];rfl
  exact e'
 walk_at "x";rw[JU (by rfl),JT (by lia),Mb g1];exact h
def qU (F:av K "_law_refused" "_law_refused" gP f fd) (C:Lx K mg κ)  (Ld:tV P w K mg base κ) (KG:mg "ValueError" = none) (JV:mg "isinstance" = none):aI P w K mg base (CX1 P w) 10 f fd [] (aJ K (fT κ)):=by
 refine av.okN F dI (by walk_at "l") fun Ks A outer s H E hr=>⟨_,(ah (az 0 dI.nd jA) (ah (Em 1 Ld (hr.mono (by decide)) dI.nd C.KU (ae (iD ag) ag) (fun _=>(ao (az 0 dI.nd (dv 1))))) (ah (bg (OB.pt (dX (aK pG (dv 0) jA) (dX (gz (dP (gU (by rfl) JV (qV (v:=.ref κ.TooFew) (by rfl) C.Lu rfl) (fun u h=>h) (dv 0)))) (gA (gz (dP (gU (by rfl) JV (xv (v:=.ty "ValueError") (by rfl) KG (by rfl) rfl) (fun u h=>h) (dv 0)))))))) (ao (ay oM)) aQ) (ao (ay (oK (uG (gU (by rfl) JV (qV (v:=.ref κ.NoSuch) (by rfl) C.LS rfl) (fun u h=>h) (dv 0))) (oN (uG (gU (by rfl) JV (qV (v:=.ref κ.TooMany) (by rfl) C.Ly rfl) (fun u h=>h) (dv 0)))))))))),?_⟩
 rintro ds Q Ed ⟨rfl,h⟩;walk_at "s";unfold dG at h;walk_at "x";refine⟨Mx _,?_⟩;show i7 κ [.lst false (([]:List Dt).map Kh)] _ _;rw[iP,eV];refine .inl ⟨rfl,κ.TooFew,rfl,C.LU,C.J4,?_⟩;simp only[X9 C.Kj,X9 C.J3,X9 C.Kk,X9 C.Ke];walk_at "x";exact h
def Hz (F:av K "law" "law" gh f fd) (C:Lx K mg κ)  (Kq:kK P w K mg base κ) (Mr:vT P w K mg base κ) (MM:xR P w K mg base κ) (LB:qq P w K mg base κ) (LN:sU P w K mg base κ) (Ld:tV P w K mg base κ) (LV:tX P w K mg base κ) (MN:mg "list" = none) (MA:mg "sum" = none):aI P w K mg base (CX1 P w) 11 f fd ["_law_script"] (aJ K pY):=by
 refine av.okN F iL (by walk_at "l") fun Ks A outer s H E hr=>⟨_,(ah (az 1 iL.nd aa) (ah (bg (aK bP (ai bA (ai b6 (au Kq hr (ae (dv 0) (ae aa ag))) aa) aa) aa) (ao (az 1 iL.nd aa)) aQ) (ah (az 2 iL.nd (au MM hr (ae (dv 0) (ae aa (ae (dv 1) ag))))) (ah (az 3 iL.nd (br (zK rfl) (by rfl) MA boot_sum (ae (b5 (by rfl) (by exact bK (osc:=aj gh) (xs:=["_law_dot_here"]) (ns:=[]) (by decide +kernel)) bC.nil (bc (dv 2)) (fun _ _ _ _ _=>dU) (fun _ _ _ _ _=>(ak (dv 0) aa))) ag))) (ah (az 4 iL.nd ((Ek (by rfl) MN (dv 2))).QE) (ah (az 5 iL.nd (au Ld hr (ae (dv 4) ag))) (ah (bg (OB.pt (dX (gz (dP (au LB hr (ae (dv 5) ag)))) (dX (aK (yH (by exact hr.units)) (dv 4) (dv 2)) (gA (aK dA (ai aE aa (au Mr hr (ae (dv 2) (ae (dv 5) ag)))) (dv 3)))))) (ao (ay oM)) aQ) (ah (bg (OB.pt (dX (aK (yH (by exact hr.units)) (OG.QE (cW (au LV hr (ae (dv 2) (ae (ai b6 (ai aS (dv 3) aa) aa) ag))) cL (cM aa))) (iD (ae (dv 5) ag))) (gA (gz (dP (zU LN hr)))))) (ao (ay oM)) aQ) (ao (ay (oK (cT (yG (by exact hr.units)) (au Ld hr (ae (OG.QE (cW (dv 2) cL (cM aa))) ag)) (bO (ae aa (ae (ak (ak (dv 2) aa) aa) (ae (ak (ak (dv 2) aa) aa) ag))))) (oN (cT (yG (by exact hr.units)) (au Ld hr (ae (dv 4) ag)) (dv 5)))))))))))))),?_⟩
 rintro ds Q Ed ⟨ns,rfl,hl,h⟩;walk_at "s";refine eQ (fun JY=>JY=[some (.val (.lst false (ns.map D.int))),some (.val (.int 12)),none,none,none,none]) (fun JY e=>?_) fun K hK=>?_
 rotate_left
 ·walk_at "x";exact hK _ rfl
 subst e;refine eQ (fun JY=>∃m:Int,(m=12∨m=20)/\JY=[some (.val (.lst false (ns.map D.int))),some (.val (.int m)),none,none,none,none]) (fun JY e=>?_) fun K hK=>?_
 rotate_left
 ·walk_at "x";refine⟨by decide,hl,fun v=>⟨CD.lit,by decide,?_⟩⟩;split
  ·exact hK _ ⟨20,.inr rfl,rfl⟩
  ·exact hK _ ⟨12,.inl rfl,rfl⟩
 obtain⟨m,hm,rfl⟩:=e;walk_at "x";refine⟨hl,hm,fun ps Dk=>?_⟩;refine PD.comp_map ps Kh (fun _=>true) (fun p=>.int p.2.2.2) (fun R q=>?_) (by have:=Dk.le;rw[sizeLine_eq];lia) (fun p hp K hK=>?_) (fun p hp _ K hK=>?_) ?_
 ·walk_at "x";exact q
 ·walk_at "x";exact hK
 ·unfold Kh;walk_at "x";exact hK
 rw[Qt.mpr (fun _ _=>rfl)];have l0:=VE.mpr Dk.ne;have l20:=Dk.le;have w0:=qv Dk;have f3:(aN ps+2).fdiv 3=(aN ps+2) / 3:=YK _ (by decide);have ew:(ps.map fun p=>p.2.2.2).sum=aN ps:=by unfold aN QL;rw[Qt.mpr (fun _ _=>rfl)]
 refine⟨true,ps.map fun p=>p.2.2.2,by rw[MX];rfl,Dk,fun zs ys hz hy=>?_⟩;rw[ew];obtain⟨y,r,e,ym⟩:=qQ Dk hz hy;rw[e,XU];obtain⟨hG,lG⟩:=jJ Dk hz (aN ps - (aN ps+2).fdiv 3+1);have O7:=(jH Dk hG lG hy).O7 (cP (bS ps zs) (aN ps - (aN ps+2).fdiv 3+1)).length;rw[TC]at O7;obtain⟨yp,yc⟩:=O7.2.2 y ym;have okP:okD (.lst true (ps.map Kh)):=(MP.map E6).ok;have okY:∀z:Tr,okD (Kg z):=fun z=>(mB z).ok
 show cS κ [T3 y.1 y.2.1 y.2.2] _ _;rw[gE,b9];refine⟨yp,true,rfl,?_⟩;rw[JT (by decide)];refine⟨okP,okP,?_⟩;rw[iG,JT (by decide)];show fx κ [D.lst false (ps.map Kh),T3 y.1 y.2.1 y.2.2] _ _;rw[i6,cZ];refine⟨by lia,Dk.gd,Dk.nn,⟨yp.pos,yc.b.mono (by decide),yc.x.mono (by decide),yc.y.mono (by decide)⟩,fun n hn=>?_⟩;obtain⟨g,hg⟩:=Hg y ps;have dp:=Cv Dk hz hy (l:=(aN ps+2).fdiv 3) (by lia) ym hg;rw[<- hn g hg]at dp;rw[qX,fJ];refine⟨.inl (by unfold Bd;decide),_,rfl,?_⟩;rw[JT (by rw[decide_eq_true_eq];lia)];refine⟨CD.lit,Dk,by lia,by lia,fun zs' ys' Oi Qi=>?_⟩;rw[sE Oi hz,sF Qi hy,e];have c1:PD.cutD ((y::r).map Kg) none (some 1)=[Kg y]:=uw ((y::r).map Kg) (k:=1) (by rw[J6];exact Nat.succ_le_succ (Mx _));rw[c1];have ok1:okD (.lst true [Kg y]):=(MP.map (xs:=[y]) mB).ok;refine⟨S1 _,ok1,ok1,?_⟩;rw[iG,JT (by decide)];obtain⟨p,pr,rfl⟩:∃p pr,ps=p::pr:=by
  cases ps with
  |nil=>exact absurd rfl Dk.ne
  |cons p pr=>exact⟨p,pr,rfl⟩
 have c2:PD.cutD ((p::pr).map Kh) none (some 1)=[p].map Kh:=uw ((p::pr).map Kh) (k:=1) (by rw[J6];exact Nat.succ_le_succ (Mx _));rw[c2,m8,iP,eV];have D1:dJ [p]:=⟨fun q hq=>Dk.gd q (by rw[LQ.mp hq];simp),fun q hq=>Dk.bx q (by rw[LQ.mp hq];simp),fun q hq=>Dk.w q (by rw[LQ.mp hq];simp),by show 1<=20;decide,by simp⟩;refine .inr ⟨D1,fun zs1 ys1 Vl Yt=>?_⟩;obtain⟨y1,r1,e1,ym1⟩:=qQ D1 Vl Yt;rw[e1,XU,CO D1 Vl Yt ym1];refine⟨_,Sa _ _,?_⟩;unfold Kh;walk_at "x";refine⟨QC _ _ _,okY _,?_⟩;rw[JU (show eqD (Kg (1,p.1,p.2.1)) (D.tup [D.int 1,D.int p.1,D.int p.2.1])=true from iG (Kg (1,p.1,p.2.1)))];refine⟨Dk,fun zs2 ys2 Xp Z8=>?_⟩;rw[sE Xp hz,sF Z8 hy,e,XU,iG];exact⟨okY _,okY _,h⟩
end
def all_mk {l:PySem.W.OpenLaw} {K:yac} (X:K.In h) (G:h.Ns mainGlobals mg) (hfa:mg "law" = some (.ref fa))
  {od16:Option Addr} {sl16:Array (yan)} {oc16:Value}
 {tc16:Value} {td16:Option Addr} {ts16:Array (yan)}
  {od17:Option Addr} {sl17:Array (yan)} {oc17:Value}
 {tc17:Value} {td17:Option Addr} {ts17:Array (yan)}
  {od45:Option Addr} {sl45:Array (yan)} {oc45:Value}
  (e0:FL K "sign" vF)
  (e1:FL K "common_divisor" eK)
  (e2:FL K "reduced" lJ)
  (e3:FL K "picks" mH)
  (e4:FL K "value" rh)
  (e5:FL K "side" vE)
  (e6:FL K "is_level" kg)
  (e7:FL K "crossed" lE)
  (e8:FL K "line" vC)
  (e9:FL K "place" rf)
  (e10:FL K "place_of" kj)
  (e11:FL K "rank" vD)
  (e12:FL K "swing" rg)
  (e13:FL K "spot_of" lK)
  (e14:FL K "spots_of" ik)
  (e15:FL K "of_colour" gk)
  (a16:PySem.W.nsIn K mainGlobals "total" = some (some (.ref f16))) (l16:K.lookup f16=some ⟨oc16,od16,.func (PySem.W.fnOf "total" "total" (cw fN) (bL fN) (aj fN) (.ref dt16) kV16 dc16 pm16 an16 cd16 ct16),sl16⟩) (c16:PySem.W.codeIn K cd16 "total" = true) (YG:PySem.W.keepIn K (.ref f16)=true)
  (XD:K.lookup dt16=some ⟨tc16,td16,.seq #[.none] tn16,ts16⟩)
  (a17:PySem.W.nsIn K mainGlobals "weighed" = some (some (.ref f17))) (l17:K.lookup f17=some ⟨oc17,od17,.func (PySem.W.fnOf "weighed" "weighed" (cw eW) (bL eW) (aj eW) (.ref dt17) kV17 dc17 pm17 an17 cd17 ct17),sl17⟩) (c17:PySem.W.codeIn K cd17 "weighed" = true) (YH:PySem.W.keepIn K (.ref f17)=true)
  (XF:K.lookup dt17=some ⟨tc17,td17,.seq #[.none] tn17,ts17⟩)
  (e18:FL K "chain" q9)
  (e19:FL K "hull" pP)
  (e20:FL K "on_two_spots" fM)
  (e21:FL K "spot_pairs" c9)
  (e22:FL K "pair_line" jt)
  (e23:FL K "split_by" ig)
  (e24:FL K "pair_lines" fq)
  (e25:FL K "place_between" ft)
  (e26:FL K "clipped" i5)
  (e27:FL K "common" nO)
  (e28:FL K "led" yX)
  (e29:FL K "axis_lines" c8)
  (e30:FL K "opposite" ki)
  (e31:FL K "half_planes" gM)
  (e32:FL K "rims" pQ)
  (e33:FL K "hull_of" lF)
  (e34:FL K "region_within" fu)
  (e35:FL K "region" nQ)
  (e36:FL K "middle" nP)
  (e37:FL K "_law_whole" jr)
  (e38:FL K "_law_cell_at" gN)
  (e39:FL K "_law_divisor" gO)
  (e40:FL K "_law_dot" lH)
  (e41:FL K "_law_dots" kh)
  (e42:FL K "_law_depth" jq)
  (e43:FL K "_law_is_place" fL)
  (e44:FL K "_law_refused" gP)
  (a45:PySem.W.nsIn K mainGlobals "law" = some (some (.ref f45))) (l45:K.lookup f45=some ⟨oc45,od45,.func (PySem.W.fnOf "law" "law" (cw gh) (bL gh) (aj gh) .none kV45 dc45 pm45 an45 XG ct45),sl45⟩) (c45:PySem.W.codeIn K XG "law" = true) (k45:PySem.W.keepIn K (.ref f45)=true)
  (KU:PySem.W.nsIn K mainGlobals "PlaneError" = some (some (.ref Ma)))
  (L0:PySem.W.nsIn K mainGlobals "NoPlace" = some (some (.ref Oq)))
  (Mt:PySem.W.nsIn K mainGlobals "NoLine" = some (some (.ref O8)))
  (Lu:PySem.W.nsIn K mainGlobals "TooFew" = some (some (.ref Km)))
  (Ly:PySem.W.nsIn K mainGlobals "TooMany" = some (some (.ref Ot)))
  (LS:PySem.W.nsIn K mainGlobals "NoSuch" = some (some (.ref O9)))
  (Lz:PySem.W.excIn K Km zf "ValueError.__new__" = true)
  (LU:PX.B7 K Km=true)
  (Kf:PySem.W.kitOne K (.ref Km) (.ref Ma)=some true)
  (KA:PySem.W.kitOne K (.ref Km) (.ref Oq)=some false)
  (KJ:PySem.W.kitOne K (.ref Km) (.ref O8)=some false)
  (Kj:PySem.W.kitOne K (.ref Km) (.ref Km)=some true)
  (Ke:PySem.W.kitOne K (.ref Km) (.ref Ot)=some false)
  (Kk:PySem.W.kitOne K (.ref Km) (.ref O9)=some false)
  (J3:PySem.W.kitOne K (.ref Km) (.type "ValueError")=some true)
  (J4:PySem.W.exmOne K (.ref Km) (.ref Ma)=some true)
  (KL:PySem.W.exmOne K (.ref Km) (.ref Km)=some true)
  (KG:PySem.W.nsIn K mainGlobals "ValueError" = some none) (Mn:PySem.W.nsIn K mainGlobals "abs" = some none) (ML:PySem.W.nsIn K mainGlobals "bool" = some none) (Ll:PySem.W.nsIn K mainGlobals "int" = some none) (JV:PySem.W.nsIn K mainGlobals "isinstance" = some none) (Kl:PySem.W.nsIn K mainGlobals "len" = some none) (MN:PySem.W.nsIn K mainGlobals "list" = some none) (Nc:PySem.W.nsIn K mainGlobals "min" = some none) (KD:PySem.W.nsIn K mainGlobals "range" = some none) (MB:PySem.W.nsIn K mainGlobals "set" = some none) (KW:PySem.W.nsIn K mainGlobals "sorted" = some none) (MA:PySem.W.nsIn K mainGlobals "sum" = some none) (L9:PySem.W.nsIn K mainGlobals "tuple" = some none) :
  ∃ fd:FuncData,(∀(s:Shared) (v:Value),BindsTo s fd ⟨[v],[]⟩ [("_law_script", v)])/\∀base:Heap,K.In base->base.Ns mainGlobals mg->aI l.prog w K mg base (CX1 l.prog w) 11 fa fd ["_law_script"] (aJ K pY):=by
 have e:=hfa.symm.trans (PySem.W.mg_of X G a45);cases e;have KG:=PySem.W.mg_none_of X G KG;have Mn:=PySem.W.mg_none_of X G Mn;have ML:=PySem.W.mg_none_of X G ML;have Ll:=PySem.W.mg_none_of X G Ll;have JV:=PySem.W.mg_none_of X G JV;have Kl:=PySem.W.mg_none_of X G Kl;have MN:=PySem.W.mg_none_of X G MN;have Nc:=PySem.W.mg_none_of X G Nc;have KD:=PySem.W.mg_none_of X G KD;have MB:=PySem.W.mg_none_of X G MB;have KW:=PySem.W.mg_none_of X G KW;have MA:=PySem.W.mg_none_of X G MA;have L9:=PySem.W.mg_none_of X G L9;have C:Lx K mg ⟨Ma,Oq,O8,Km,Ot,O9⟩:=⟨PySem.W.mg_of X G KU,PySem.W.mg_of X G L0,PySem.W.mg_of X G Mt,PySem.W.mg_of X G Lu,PySem.W.mg_of X G Ly,PySem.W.mg_of X G LS,Lz,PX.et.of LU,Kf,KA,KJ,Kj,Ke,Kk,J3,J4,KL⟩;refine⟨PySem.W.fnOf "law" "law" (cw gh) (bL gh) (aj gh) .none kV45 dc45 pm45 an45 XG ct45,fun s v=>.of_eq rfl,fun base _ _=>?_⟩;have MF:=e0.has l.prog w base X G fun F=>Fd F C
 have KQ:=e1.has l.prog w base X G fun F=>mK F C Mn
 have Lv:=e2.has l.prog w base X G fun F=>yN F C KQ
 have OJ:=e3.has l.prog w base X G fun F=>CI F C KD
 have L5:=e4.has l.prog w base X G fun F=>CN F C
 have Mo:=e5.has l.prog w base X G fun F=>Fc F C MF L5
 have MG:=e6.has l.prog w base X G fun F=>wA F C
 have M5:=e7.has l.prog w base X G fun F=>yJ F C
 have PH:=e8.has l.prog w base X G fun F=>E8 F C M5 MG Lv
 have OK:=e9.has l.prog w base X G fun F=>CJ F C Lv
 have Kp:=e10.has l.prog w base X G fun F=>wD F C
 have PJ:=e11.has l.prog w base X G fun F=>E9 F C MF
 have OI:=e12.has l.prog w base X G fun F=>CK F C
 have Ka:=e13.has l.prog w base X G fun F=>yO F C
 have MK:=e14.has l.prog w base X G fun F=>wG F C Ka
 have KZ:=e15.has l.prog w base X G fun F=>ve F C
 have F16:=mh (st:=fN) l16 c16 YG;have Lp:nh l.prog w K mg base "total" 2 ["dots", "colour"] "colour" (fV _):=⟨_,_,CL F16 C KZ MA,PySem.W.mg_of X G a16,YG,oC fun s us Nm hl=>(match us,hl with|[_,_],_=>.of_defaults rfl (Nm _ _ XD) rfl rfl rfl),oA 1 rfl fun s us Nm hl=>(match us,hl with|[_],_=>.of_defaults rfl (Nm _ _ XD) rfl rfl rfl),o7 1 rfl fun s us w Nm hl=>(match us,hl with|[_],_=>.of_defaults rfl (Nm _ _ XD) rfl rfl rfl)⟩;have F17:=mh (st:=eW) l17 c17 YH;have M6:nh l.prog w K mg base "weighed" 3 ["dots", "gauge", "colour"] "colour" (fz _):=⟨_,_,yP F17 C KZ Kp Mo Ka,PySem.W.mg_of X G a17,YH,oC fun s us Nm hl=>(match us,hl with|[_,_,_],_=>.of_defaults rfl (Nm _ _ XF) rfl rfl rfl),oA 2 rfl fun s us Nm hl=>(match us,hl with|[_,_],_=>.of_defaults rfl (Nm _ _ XF) rfl rfl rfl),o7 2 rfl fun s us w Nm hl=>(match us,hl with|[_,_],_=>.of_defaults rfl (Nm _ _ XF) rfl rfl rfl)⟩;have Np:=e18.has l.prog w base X G fun F=>CH F C OI Kl
 have PK:=e19.has l.prog w base X G fun F=>E7 F C Np Kp Kl MB KW
 have LA:=e20.has l.prog w base X G fun F=>pJ F C Ka
 have L6:=e21.has l.prog w base X G fun F=>tm F C LA OJ Kl
 have Mq:=e22.has l.prog w base X G fun F=>vf F C PH Kp Ka
 have MJ:=e23.has l.prog w base X G fun F=>wF F C M6 MB KW
 have L8:=e24.has l.prog w base X G fun F=>tj F C Mq L6
 have Lh:=e25.has l.prog w base X G fun F=>nI F C OK L5
 have M7:=e26.has l.prog w base X G fun F=>yI F C Lh Mo Kl KD
 have NL:=e27.has l.prog w base X G fun F=>AH F C M7
 have Rw:=e28.has l.prog w base X G fun F=>HA F C PJ Kl KD
 have L7:=e29.has l.prog w base X G fun F=>sZ F C
 have MH:=e30.has l.prog w base X G fun F=>wC F C
 have LM:=e31.has l.prog w base X G fun F=>qR F C L7 MH L8 MJ
 have PL:=e32.has l.prog w base X G fun F=>Fb F C
 have M8:=e33.has l.prog w base X G fun F=>yK F C PK MK
 have Lj:=e34.has l.prog w base X G fun F=>nJ F C NL M8 Rw PL Lp
 have LV:=e35.has l.prog w base X G fun F=>AJ F C LM Lj Lp
 have Ld:=e36.has l.prog w base X G fun F=>AI F C LV Lp Kl
 have K9:=e37.has l.prog w base X G fun F=>vd F C ML Ll JV
 have Kq:=e38.has l.prog w base X G fun F=>qS F C Kl
 have K6:=e39.has l.prog w base X G fun F=>qT F C Mn
 have Mu:=e40.has l.prog w base X G fun F=>yM F C Ll
 have MM:=e41.has l.prog w base X G fun F=>wB F C Kq Mu
 have Mr:=e42.has l.prog w base X G fun F=>va F C Ll Nc
 have LB:=e43.has l.prog w base X G fun F=>pI F C K6 K9 JV Kl L9
 have LN:=e44.has l.prog w base X G fun F=>qU F C Ld KG JV
 exact Hz (mh (st:=gh) l45 c45 k45) C Kq Mr MM LB LN Ld LV MN MA
end LW
def PySem.W.Fast.te7644654610182523726:True:=trivial
def PySem.W.Fast.tw16173513291405733016:PySem.Program:=PySem.Challenge.pw_halvecut_k54_the_middle
theorem PySem.W.Fast.te16173513291405733016:PySem.Challenge.pw_halvecut_k54_the_middle=PySem.W.Fast.tw16173513291405733016:=rfl
namespace PySem.W.Fast
def tw14068883987914106857:=()
def tw2827253410502933518:=()
def tw16211933753869231930:=()
def tw12774395110500975923:=()
def tw4316072167364147239:=()
def tw16795308170994120902:=()
def tw4102025529516136947:=()
def tw15078708775219086313:=()
def tw2024903696456106415:=()
def tw6752912395756717865:=()
def tw14345172966333843721:=()
def tw16929651679077649470:=()
def tw14304309154938932385:=()
def tw1588699967031885456:=()
def tw13601402406717755684:=()
def tw1709587343504405667:=()
def tw230248856101921650:=()
def tw10808290708367981724:=()
def tw18315831795834654474:=()
def tw7310925546624646728:=()
def tw12641551046223734648:=()
def tw2331597784346720806:=()
def tw12026527700936637264:=()
def tw14666919212237807779:=()
def tw2583963283750106599:=()
def tw6332586200262853181:=()
def tw2270388146970689527:=()
def tw16616574395645143222:=()
def tw6245954838388784693:=()
def tw840111278191947013:=()
def tw10878666319167182651:=()
def tw9595152100323560238:=()
def tw9435695286881877681:=()
def tw2527078157634813649:=()
def tw8022252065414958088:=()
def tw15943679640812311338:=()
def tw10755090905142977123:=()
def tw712214306974162956:=()
def tw5040829902918172387:=()
def tw7858225982490322785:=()
def tw16546121760050522724:=()
def tw18178960009377031323:=()
def tw3481726817934744848:=()
def tw2714161837460396113:=()
def tw818228051338292283:=()
def tw6191842519990749674:=()
def tw11580429241256462795:=()
def tw17534824910507953169:=()
def tw7540964097412306732:=()
def tw16163424724469876754:=()
def tw2744398830948593711:=()
def tw13944612151731555791:=()
def tw4876529936486546515:=()
def tw15582703390351316904:=()
def tw14653364902539081771:=()
def tw6791623288996681572:=()
def tw16388001624113782795:=()
def tw1311295097335975638:=()
def tw9496177704892916030:=()
def tw193933151093279985:=()
def tw4731242090286138709:=()
def tw15080796848726726266:=()
def tw2071303272045595613:=()
def tw9632530078418998198:=()
def tw14781611012495555880:=()
def tw9073082017647704555:=()
def tw18025215627931779181:=()
def tw14219473802004557467:=()
def tw2542892020030254523:=()
def tw2902575266350522652:=()
def tw8767073849907145173:=()
def tw2130055323638234018:=()
def tw8434596144574886442:=()
def tw10661555012252882120:=()
def tw4456605264257041961:=()
def tw4864585240683566031:=()
def tw5239590366307094766:=()
def tw6315001320914837131:=()
def tw9225173238783619128:=()
def tw8882007772316731447:=()
def tw11953948991936150353:=()
def tw5016930329529375481:=()
def tw13183073931264186370:=()
def tw1418817939675646401:=()
def tw12734562192848009383:=()
def tw6265978772431093484:=()
def tw12652374402609246310:=()
def tw1141427791067501641:=()
def tw16587865751594137737:=()
def tw10097410157619284181:=()
def tw1330307178227963162:=()
def tw7780857145803193808:=()
def tw10673207060240167806:=()
def tw15339029537427834994:=()
def tw14537163894518617429:=()
def tw8152186264351533845:=()
def tw17831386164866650844:=()
def tw9268314482475861648:=()
def tw13545278989456334531:=()
def tw10065672763312997605:=()
def tw6991908849943954627:=()
def tw2544232881707498617:=()
def tw6727793020459100261:=()
def tw11624238258275222554:=()
def tw9808112244800583925:=()
def tw10819229367223766013:=()
def tw11997148574885139535:=()
def tw3030275241405456605:=()
def tw14461753913584227491:=()
def tw17064055683126210752:=()
def tw7736639254556961937:=()
def tw14681219547787901771:=()
def tw6940800666889524766:=()
def tw1893626841857550714:=()
def tw10406202143129229386:=()
def tw1954270006163515102:=()
def tw8527504875185257320:=()
def tw2676162149145087926:=()
def tw448519253527233680:=()
def tw5144710658473182927:=()
def tw7443222853560925998:=()
def tw2264782609059886076:=()
def tw9381235697106120656:=()
def tw2709957370034852522:=()
def tw10580203124711065237:=()
def tw5243720564579989589:=()
def tw11786436884056181026:=()
def tw10622300918214986142:=()
def tw7401402541976131682:=()
def tw13586768776512031573:=()
def tw4144185667552921584:=()
def tw7712088066163016887:=()
def tw6987346528695538215:=()
def tw15280580425218444179:=()
def tw1523337313664408639:=()
def tw7823626441180952485:=()
def tw18022900425338977667:=()
def tw14832537384559808451:=()
def tw8997062551047998050:=()
def tw3342955471270054014:=()
def tw3169724193818796530:=()
def tw7112888237558904719:=()
def tw1709634751180774857:=()
def tw9939145264362563826:=()
def tw5636892604700914403:=()
def tw16969183015751798785:=()
def tw14647909967136097318:=()
def tw4613550261974780211:=()
def tw12039810912416181169:=()
def tw7993839808279755824:=()
def tw17393239604393303658:=()
def tw16034007364163836439:=()
def tw10483469049911688738:=()
def tw11243141215128804108:=()
def tw1348493744745222280:=()
def tw7814293211076661328:=()
def tw18025356105553218531:=()
def tw11147932457377819437:=()
def tw14692955468000406872:=()
def tw12618158183907643213:=()
def tw16251102041547060285:=()
def tw13607076600906430094:=()
def tw9137657954978825541:=()
def tw2371211509523768020:=()
def tw2828482709861211330:=()
def tw457320869259511780:=()
def tw6788434761674772159:=()
def tw16668801497913663689:=()
def tw6450511591515415409:=()
def tw7601254477473994959:=()
def tw3507710118640398430:=()
def tw12393538717371294979:=()
def tw17288737915463814484:=()
def tw6053121764647246080:=()
def tw16123411034545307637:=()
def tw3373351684276797586:=()
def tw16775628329649004020:=()
def tw8172519839134141212:=()
def tw15232267483209591176:=()
def tw10071867491446944378:=()
def tw15455500975751879409:=()
def tw9187235587898310653:=()
def tw1506521770345941841:=()
def tw14302153645362182703:=()
def tw17020903783847488084:=()
def tw11712084286087669999:=()
def tw15996411165852067868:=()
def tw11882974848028642523:=()
def tw17085516873180190428:=()
def tw17042732416180075825:=()
def tw1062843872198740675:=()
def tw11818949094058921712:=()
def tw16778719051812398656:=()
def tw508443828080972081:=()
def tw10293262988439959393:=()
def tw242725303738123378:=()
def tw5366619158196870914:=()
def tw4524318478179080642:=()
def tw11341619844228547419:=()
def tw10450959114130671036:=()
def tw11890249905273212353:=()
def tw11852191120578013400:=()
def tw8278405437790516478:=()
def tw12311226066606904400:=()
def tw15253428645334378713:=()
def tw7293744172641484656:=()
def tw14398789415804166643:=()
def tw4921740324566950499:=()
def tw7936542454934591782:=()
def tw3875743308760048874:=()
def tw7228279897992810066:=()
def tw14847615476238660676:=()
def tw5812074941339596155:=()
def tw16157610032909865677:=()
def tw8924404200857652710:=()
def tw1152150433303786407:=()
def tw16945364641152878686:=()
def tw17206647397532607807:=()
def tw2107934245446370356:=()
def tw4711308939485816417:=()
def tw16537072322605937955:=()
def tw7424259597771093181:=()
def tw15929413696777553676:=()
def tw8580435265403394811:=()
def tw15324278750908960120:=()
def tw5674419694362392630:=()
def tw6452396660661680771:=()
def tw2481016481866947758:=()
def tw9292243719332007295:=()
def tw11450170055002681202:=()
def tw2619198778281203789:=()
def tw7911239400862160654:=()
def tw17322534016506108345:=()
def tw17547720238166940189:=()
def tw5333844408332539214:=()
def tw4096464902197312462:=()
def tw16501862992794345119:=()
def tw6070877341016080772:=()
def tw11533402886460034921:=()
def tw17950444672440921294:=()
def tw4247091849912119775:=()
def tw10642711009378989827:=()
def tw1962885114832179154:=()
def tw13291843928068135406:=()
def tw16837994562540876842:=()
def tw18145703824048610328:=()
def tw10202694382519763930:=()
def tw4762793446607216864:=()
def tw4250892822208036268:=()
def tw7871218289813582099:=()
def tw11114281144328738808:=()
def tw3232483894501297914:=()
end PySem.W.Fast
open PySem PySem.W PyProof.Rows
set_option maxRecDepth 100000 in
set_option maxHeartbeats 0 in
theorem PySem.Challenge.cw_halvecut_k54_the_middle_holds : PySem.Challenge.rw_halvecut_k54_the_middle.Holds := by
 w_on; o_law; k_head; (case hw => w_witness2)
 k_fill
 refine PD.walk (l := PySem.Challenge.rw_halvecut_k54_the_middle) (k := 11) (x := "_law_script") rfl rfl ⟨rfl, by decide, by decide⟩ (fun w h Y => PySem.W.kIn_of Y) (fun w => by kernel_rfl) ?F
 case F =>
  intro w mg fa h KX G Wb
  refine' LW.all_mk KX G Wb ?e0 ?e1 ?e2 ?e3 ?e4 ?e5 ?e6 ?e7 ?e8 ?e9 ?e10 ?e11 ?e12 ?e13 ?e14 ?e15 ?a16 ?l16 ?c16 ?YG ?XD ?a17 ?l17 ?c17 ?YH ?XF ?e18 ?e19 ?e20 ?e21 ?e22 ?e23 ?e24 ?e25 ?e26 ?e27 ?e28 ?e29 ?e30 ?e31 ?e32 ?e33 ?e34 ?e35 ?e36 ?e37 ?e38 ?e39 ?e40 ?e41 ?e42 ?e43 ?e44 ?a45 ?l45 ?c45 ?k45 ?KU ?L0 ?Mt ?Lu ?Ly ?LS ?Lz ?LU ?Kf ?KA ?KJ ?Kj ?Ke ?Kk ?J3 ?J4 ?KL ?KG ?Mn ?ML ?Ll ?JV ?Kl ?MN ?Nc ?KD ?MB ?KW ?MA ?L9
  all_goals try (refine' PD.FL.mk ?a ?l ?c ?k; (case a => k_is); (case l => k_is); (case c => k_is); (case k => k_is))
  (case a16 => k_is)
  (case l16 => k_is)
  (case c16 => k_is)
  (case YG => k_is)
  (case XD => k_is)
  (case a17 => k_is)
  (case l17 => k_is)
  (case c17 => k_is)
  (case YH => k_is)
  (case XF => k_is)
  (case a45 => k_is)
  (case l45 => k_is)
  (case c45 => k_is)
  (case k45 => k_is)
  (case KU => k_is)
  (case L0 => k_is)
  (case Mt => k_is)
  (case Lu => k_is)
  (case Ly => k_is)
  (case LS => k_is)
  (case Lz => kernel_rfl)
  (case LU => kernel_rfl)
  (case Kf => kernel_rfl)
  (case KA => kernel_rfl)
  (case KJ => kernel_rfl)
  (case Kj => kernel_rfl)
  (case Ke => kernel_rfl)
  (case Kk => kernel_rfl)
  (case J3 => kernel_rfl)
  (case J4 => kernel_rfl)
  (case KL => kernel_rfl)
  (case KG => k_is)
  (case Mn => k_is)
  (case ML => k_is)
  (case Ll => k_is)
  (case JV => k_is)
  (case Kl => k_is)
  (case MN => k_is)
  (case Nc => k_is)
  (case KD => k_is)
  (case MB => k_is)
  (case KW => k_is)
  (case MA => k_is)
  (case L9 => k_is)
