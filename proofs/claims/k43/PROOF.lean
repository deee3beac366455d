import PyProof.Rows.All
import Wide.All
import OpenK.AllK
import Wide.FinOn
import Lean
import PyProof.EqAt
import PyProof.EqKinds
import PyProof.TupleCall
import PySem.Challenge.RW_halvecut_k43_whole_three_by_three
set_option compiler.extract_closed false
set_option Elab.async false
set_option linter.all false set_option autoImplicit true set_option relaxedAutoImplicit true
set_option maxRecDepth 100000
abbrev yaa:=PySem.Value->PySem.Shared->Prop
abbrev yab:=List (PySem.Addr×PySem.Obj)
abbrev yac:=PySem.W.Frag
abbrev yad:=List PySem.Value
abbrev yae:=List PySem.Addr
abbrev yaf:=List Int
abbrev yag:=List Nat
abbrev yah:=List PySem.Str
abbrev yai:=List PySem.Expr
abbrev yaj:=Nat->Option PySem.Addr
abbrev yak:=Bool->PySem.Addr->Prop
abbrev yal:=PySem.Str->Option PySem.Value
abbrev yam:=Option PySem.Value
abbrev yan:=Array PySem.Value
abbrev yao:=Array Nat
abbrev yap:=Option Int
def K1:=@PySem.wpAny_bind
def K8:=@List.length_map
def LM:=@List.getElem?_eq_getElem
def K3:=@if_neg
def Le:=@PySem.wpAny_pure
def L6:=@List.getElem?_eq_some_iff
def Mf:=@List.getD_eq_getElem?_getD
def K4:=@if_pos
def Lp:=@List.mem_cons
def Mb:=@PySem.Heap.get?_push_of_some
def L8:=@List.mem_cons_of_mem
def LD:=@List.map_cons
def LZ:=@List.getElem?_map
def Mz:=@List.mem_of_getElem?
def LG:=@Nat.le_refl
def LK:=@PySem.Heap.lt_size
def Mc:=@List.mem_append
def LR:=@List.mem_map
def MG:=@List.length_append
def M4:=@List.mem_singleton
def M5:=@Nat.lt_of_lt_of_le
def M3:=@List.size_toArray
def Nf:=@List.length_range'
def Ng:=@List.mem_cons_self
def NK:=@List.getElem?_set_ne
def Nw:=@PySem.Heap.get?_push_size
def Ms:=@Nat.ne_of_lt
def M6:=@List.map_append
def NN:=@Bool.false_eq_true
def NV:=@Array.length_toList
def Nq:=@List.not_mem_nil
def Ou:=@List.getElem?_set_self
def M8:=@Int.mul_nonneg
def Oi:=@List.mem_append_right
def MI:=@Int.le_of_lt
def MJ:=@List.map_map
def MK:=@Nat.zero_le
def NS:=@Nat.mod_eq_of_lt
def Od:=@List.cons_append
def Qa:=@Array.getElem?_eq_getElem
def Oj:=@List.length_cons
def OY:=@Bool.false_ne_true
def Qh:=@List.getElem?_append_left
def Nx:=@Int.mul_comm
def QG:=@List.getElem?_append_right
def Pe:=@List.filter_eq_self
def O7:=@List.pairwise_cons
def Ol:=@Option.some.inj
def PO:=@Array.getElem?_toList
def QU:=@Int.mul_neg_of_neg_of_pos
def NW:=@Nat.le_trans
def Pf:=@Nat.lt_succ_self
def Sm:=@Int.nonneg_of_mul_nonneg_right
def Qi:=@List.mem_append_left
def Pg:=@List.nil_append
def Ov:=@List.sum_cons
def PG:=@List.getElem_mem
def QV:=@List.zipWith_cons_cons
def QW:=@Option.map_eq_some_iff
def OR:=@PySem.wpAny_holding
def Oe:=@Int.le_refl
def RB:=@List.pairwise_iff_getElem
def Nh:=@PySem.boot_len
def Rh:=@PySem.Heap.get?_update_other
def Qb:=@List.getElem_map
def Ox:=@Int.neg_mul
def Oy:=@PySem.wpAny_field
def OZ:=@Nat.zero_add
def QX:=@List.length_reverse
def Qc:=@Int.mul_eq_zero
def Qj:=@List.length_take
def QH:=@List.append_assoc
def RC:=@PySem.Heap.get?_update_self
def RD:=@List.getElem?_eq_none
def Ri:=@List.getElem_range'
def SH:=@List.drop_eq_getElem_cons
def O8:=@Int.one_mul
def RE:=@List.length_dropLast
def OT:=@PySem.wpAny_mono
def PH:=@Nat.succ_pos
def QY:=@List.cons.injEq
def Sn:=@List.length_singleton
def QI:=@List.nodup_cons
def Qk:=@decide_eq_true
def RF:=@List.getElem_of_mem
def TL:=@Array.getElem?_eq_some_iff
def QZ:=@List.take_length
def Q0:=@PySem.wpAny_call_entry
def SJ:=@PySem.wpAny_callSpecial?_slot
def Vo:=@Int.mul_nonpos_of_nonpos_of_nonneg
def Rj:=@List.mem_range'_1
def Rk:=@PySem.wpAny_newObj_type
def Rl:=@PySem.wpAny_setState_of
def TM:=@List.ne_nil_of_length_pos
def SK:=@List.take_of_length_le
def Rm:=@List.append_nil
def Ql:=@Nat.lt_irrefl
def Qm:=@Prod.mk.injEq
def Q1:=@decide_eq_false
def Qe:=@Nat.ne_of_gt
def Ph:=@Int.not_le
def So:=@List.map_congr_left
def Q2:=@PySem.wpAny_seqItems
def Qn:=@Nat.pow_succ
def Qf:=@Int.mul_pos
def RG:=@List.lookup_cons
def Uu:=@List.sublist_append_right
def Vp:=@List.eq_nil_of_length_eq_zero
def V9:=@Int.mul_nonneg_of_nonpos_of_nonpos
def Q3:=@Int.lt_irrefl
def QJ:=@Int.zero_mul
def Vq:=@List.dropLast_concat_getLast
def Q4:=@List.map_nil
def QK:=@Nat.le_of_lt
def Sq:=@Nat.succ_lt_succ
def Uv:=@List.singleton_sublist
def SM:=@Nat.lt_succ_of_lt
def TN:=@PySem.Heap.SameBut.update
def Pj:=@Prod.ext
def Vr:=@Int.mul_neg_of_pos_of_neg
def Vs:=@Int.mul_pos_of_neg_of_neg
def Sr:=@List.find?_cons
def Wa:=@List.getLast?_eq_some_getLast
def Rp:=@Int.add_zero
def SN:=@Nat.le_of_not_lt
def TP:=@PySem.wpAny_Call_Name_kw
def Uw:=@Nat.pow_le_pow_right
def TQ:=@Int.lt_trichotomy
def TR:=@of_decide_eq_true
def SO:=@List.length_set
def SQ:=@PySem.codeAny_builtin
def TU:=@Bool.and_eq_true
def TV:=@Nat.le_add_right
def Vt:=@List.mem_iff_getElem?
def Vu:=@List.take_append_drop
def SR:=@List.take_succ
def Ux:=@Nat.lt_of_le_of_lt
def Uy:=@PySem.wpAny_setField_rec
def Wb:=@Classical.byContradiction
def Wc:=@List.getLast?_eq_none_iff
def We:=@List.getLastD_eq_getLast?
def RH:=@Nat.one_mul
def Ss:=@Int.dvd_refl
def Rq:=@Int.not_lt
def Rr:=@Nat.mod_lt
def Wf:=@PySem.wpAny_comprehension_free
def Uz:=@Int.toNat_natCast
def UA:=@List.reverse_cons
def Wg:=@List.getElem?_replicate
def TX:=@PySem.Heap.size_push
def UB:=@Int.dvd_mul_left
def TY:=@Int.natAbs_mul
def UC:=@Option.getD_some
def UD:=@PySem.wpAny_isInstance
def Wh:=@Array.getElem?_eq_none
def SU:=@Int.mul_zero
def Vv:=@List.append_of_mem
def Vw:=@List.zip_cons_cons
def SV:=@Nat.lt_or_ge
def Vx:=@Nat.lt_or_gt_of_ne
def Wi:=@Int.eq_of_sub_eq_zero
def UE:=@List.of_mem_zip
def Wj:=@List.zipWith_nil_left
def UG:=@PySem.wpAny_passesOwn
def TZ:=@Int.dvd_trans
def T1:=@PySem.wpAny_attempt
def Vy:=@Nat.add_mod_right
def Vz:=@Nat.lt_of_succ_lt
def VA:=@Nat.lt_trichotomy
def X9:=@List.exists_mem_of_ne_nil
def Ya:=@List.getElem?_zip_eq_some
def Wk:=@List.pairwise_append
def Yb:=@List.filterMap_cons_some
def VB:=@List.length_drop
def VC:=@List.map_fst_zip
def T4:=@List.sum_nil
def Wl:=@List.filterMap_cons
def Yc:=@PySem.Heap.IsTupleIter.typeIs
def Yd:=@List.filter_cons_of_neg
def Ye:=@List.filter_cons_of_pos
def UH:=@Int.mul_assoc
def VD:=@Bool.eq_iff_iff
def VE:=@Int.dvd_coe_gcd
def VF:=@Int.le_antisymm
def VG:=@Int.mul_ne_zero
def VH:=@List.length_zip
def Wm:=@List.mem_filterMap
def SX:=@Nat.not_lt
def VI:=@PySem.wpAny_specialOf
def VJ:=@PySem.wpAny_updateSeq
def Yf:=@Int.fmod_nonneg_of_pos
def Yg:=@List.getElem?_dropLast
def Y1:=@Int.mul_le_mul_of_nonneg_left
def Wn:=@bne_self_eq_false
def Yh:=@Int.natAbs_dvd_natAbs
def Yi:=@PySem.builtinLookup_eq_fast
def VL:=@PySem.wpAny_setField
def Wo:=@Int.gcd_mul_left
def Yj:=@Int.le_of_neg_le_neg
def Wq:=@List.all_eq_true
def Yk:=@List.getElem?_of_mem
def Wr:=@List.mem_flatMap
def Yl:=@Nat.mul_le_mul_right
def Ws:=@PySem.wpAny_askSetting
def Y2:=@Array.perm_iff_toList_perm
def VM:=@PySem.plainId_quiet
def VN:=@PySem.wpAny_standAt
def Ym:=@List.length_pos_iff
def Y3:=@Int.eq_of_mul_eq_mul_left
def Wt:=@Int.mul_dvd_mul
def Y4:=@List.getLast?_eq_getElem?
def Wu:=@List.mem_filter
def Wv:=@Nat.not_lt_zero
def Ww:=@Nat.two_pow_pos
def Yn:=@Array.append_assoc
def Yo:=@Array.forIn_toList
def Yp:=@List.filter_append
def Y5:=@List.set_cons_succ
def VO:=@Nat.sub_self
def Wx:=@List.mem_range
namespace L2
open PySem PySem.Spec PyProof.Rows
abbrev Key:=Sum Int Str
def lW:Key->Value->Bool
 |.inl k,v=>Value.isInt k v
 |.inr x,v=>Value.isStrOf x v
def Kr(w:World):Key->Int
 |.inl k=>hashInt k
 |.inr x=>hashStr w x
def bT:∀{k:Key} {v:Value},lW k v=true->(∃i t,k=Sum.inl i/\v=Value.int i t)∨(∃x t,k=Sum.inr x/\v=Value.str x t)
 |.inl i,v,h=>by obtain⟨t,e⟩:=Value.isInt_shape (k:=i) (v:=v) h;exact .inl ⟨i,t,rfl,e⟩
 |.inr x,v,h=>by obtain⟨t,e⟩:=Value.isStrOf_shape (x:=x) (v:=v) h;exact .inr ⟨x,t,rfl,e⟩
def BA(i:Int)(t:Tok):lW (.inl i) (.int i t)=true:=by simp[lW,Value.isInt]
def BB(x:Str)(t:Tok):lW (.inr x) (.str x t)=true:=by simp[lW,Value.isStrOf]
def Iz(a b:Int):decide ((Sum.inl a:Key)=Sum.inl b)=(a==b):=by
 by_cases e:a=b
 ·subst e;simp
 ·have h:¬(Sum.inl a:Key)=Sum.inl b:=fun q=>e (Sum.inl.inj q)
  rw[Q1 h];exact(beq_eq_false_iff_ne.mpr e).symm
def IC(a b:Str):decide ((Sum.inr a:Key)=Sum.inr b)=decide (a=b):=by
 by_cases e:a=b
 ·subst e;simp
 ·have h:¬(Sum.inr a:Key)=Sum.inr b:=fun q=>e (Sum.inr.inj q)
  rw[Q1 h,Q1 e]
def IA(a:Int)(b:Str):decide ((Sum.inl a:Key)=Sum.inr b)=false:=Q1 (fun q=>nomatch q)
def IB(a:Str)(b:Int):decide ((Sum.inr a:Key)=Sum.inl b)=false:=Q1 (fun q=>nomatch q)
def bQ(prog:Program)(w:World):PySem.KeyKind prog w Key where
 is:=lW
 hash:=Kr w
 inj:=fun v a b ha hb=>by
  rcases bT ha with⟨i,t,rfl,rfl⟩| ⟨x,t,rfl,rfl⟩
  ·rcases bT hb with⟨j,u,rfl,e⟩| ⟨y,u,rfl,e⟩
   ·injection e with e1 _;rw[e1]
   ·exact nomatch e
  ·rcases bT hb with⟨j,u,rfl,e⟩| ⟨y,u,rfl,e⟩
   ·exact nomatch e
   ·injection e with e1 _;rw[e1]
 byValue:=fun k v h=>by
  rcases bT h with⟨i,t,rfl,rfl⟩| ⟨x,t,rfl,rfl⟩<;>rfl
 pyHash:=fun hv h=>by
  rcases bT hv with⟨i,t,rfl,rfl⟩| ⟨x,t,rfl,rfl⟩
  ·exact wpAny_pyHash_int h
  ·exact wpAny_pyHash_str h
 eqBool:=fun hu hv h=>by
  rcases bT hu with⟨i,t,rfl,rfl⟩| ⟨x,t,rfl,rfl⟩
  ·rcases bT hv with⟨j,u,rfl,rfl⟩| ⟨y,u,rfl,rfl⟩
   ·rw[Iz]at h;exact wpAny_eqBool_int h
   ·rw[IA]at h;exact SeqAt.EqAt.int_str i t y u _ _ _ _ h
  ·rcases bT hv with⟨j,u,rfl,rfl⟩| ⟨y,u,rfl,rfl⟩
   ·rw[IB]at h;exact SeqAt.EqAt.str_int x t j u _ _ _ _ h
   ·rw[IC]at h;exact wpAny_eqBool_str h
 «strs»:=fun k x t v h=>by
  rcases bT h with⟨i,u,rfl,e⟩| ⟨y,u,rfl,e⟩
  ·exact nomatch e
  ·injection e with e1 _;subst e1;cases v<;>rfl
def xE(prog:Program)(w:World)(i:Int)(t:Tok):(bQ prog w).is (.inl i) (.int i t)=true:=BA i t
def xF(prog:Program)(w:World)(x:Str)(t:Tok):(bQ prog w).is (.inr x) (.str x t)=true:=BB x t
inductive V where
 |LJ|bl (b:Bool)|int (i:Int)|str (x:Str)|RI (b:Array UInt8)|Wy (b:UInt64)|ref (a:Addr)|ty (n:String)
 deriving DecidableEq
abbrev yaq:=List V
def RelV:V->Value->Prop
 |.LJ,u=>u=Value.none
 |.bl b,u=>u=Value.bool b
 |.int i,u=>∃t,u=Value.int i t
 |.str x,u=>∃t,u=Value.str x t
 |.RI b,u=>∃t,u=Value.bytes b t
 |.Wy b,u=>∃t,u=Value.float b t
 |.ref a,u=>u=Value.ref a
 |.ty n,u=>u=Value.type n
abbrev Vals:yaq->yad->Prop:=Paired RelV
theorem Vals.length(r:Vals xs us):xs.length=us.length:=Paired.length r
theorem Vals.get:∀{xs:yaq} {us:yad} {i:Nat} {x:V},Vals xs us->xs[i]?=some x->∃u,us[i]?=some u/\RelV x u
 |_,_,_,_,.nil,e=>by simp at e
 |_,_,0,_,.cons r _,e=>by simp at e;subst e;exact⟨_,rfl,r⟩
 |_,_,i+1,x,.cons _ t,e=>by obtain⟨u,h1,h2⟩:=Vals.get (i:=i) (x:=x) t (by simpa using e);exact⟨u,by simpa using h1,h2⟩
theorem Vals.append:∀{xs ys:yaq} {us ws:yad},Vals xs us->Vals ys ws->Vals (xs++ys) (us++ws)
 |_,_,_,_,.nil,s=>s
 |_,_,_,_,.cons r t,s=>.cons r (Vals.append t s)
theorem Vals.take:∀{xs:yaq} {us:yad} (n:Nat),Vals xs us->Vals (xs.take n) (us.take n)
 |_,_,0,_=>.nil
 |_,_,_+1,.nil=>.nil
 |_,_,n+1,.cons r t=>.cons r (Vals.take n t)
theorem Vals.drop:∀{xs:yaq} {us:yad} (n:Nat),Vals xs us->Vals (xs.drop n) (us.drop n)
 |_,_,0,r=>r
 |_,_,_+1,.nil=>.nil
 |_,_,n+1,.cons _ t=>Vals.drop n t
def Vals.none_of:∀{xs:yaq} {us:yad} {i:Nat},Vals xs us->xs[i]?=none->us[i]?=none:=fun {xs us i} r e=>by have h1:=r.length;have h2:xs.length<=i:=List.getElem?_eq_none_iff.mp e;exact List.getElem?_eq_none_iff.mpr (by lia)
def iT:Option V->yam->Prop
 |some v,some u=>RelV v u
 |none,none=>True
 |_,_=>False
def KV{κ:Type}:List (κ×V)->List (κ×Value)->Prop:=Paired fun(p:κ×V) (q:κ×Value)=>p.1=q.1/\RelV p.2 q.2
def kV:Key->V
 |.inl i=>.int i
 |.inr x=>.str x
inductive HO where
 |lst (xs:yaq)
 |tup (xs:yaq)
 |dK (kvs:List (Key×V))|dT (kvs:List (List Key×V))
 |set (S:Int->Bool) (n:Nat)
 |ins (C dx:Addr) (fs:List (Str×V))
 |own (x:Addr)
 |xd (fs:List (Str×V))
 |met (f x:Addr)
 |Yq (lo hi:Int)
 |frz (o:Obj) (u:HO)
 |PJ (ps:yan)
 |ext (φ:Heap->Prop)
abbrev Hp:=Addr->Option HO
def upd(H:Hp)(a:Addr)(o:HO):Hp:=fun b=>if b=a then some o else H b
def aH:upd H a o a=some o:=by unfold upd;rw[K4 rfl]
def av{a b:Addr}(h:b≠a):upd H a o b=H b:=by unfold upd;rw[K3 h]
def jj{H:Hp}{o u:HO}(h:H a=some o)(h':H b=some u)(d:o≠u):a≠b:=by intro e;subst e;rw[h]at h';exact d (Ol h')
def aW{H:Hp}{o:HO}(h:H a=some o)(h':H b=none):a≠b:=by intro e;subst e;rw[h]at h';cases h'
section
variable(P:Program)(w:World)
def bH(H:Hp)(h:Heap)(a:Addr):HO->Prop
 |.lst xs=>xs.length<=sizeLine/\∃(K9:yad) (n:Nat),Vals xs K9/\h.get? a=some {cls:=.type "list", data:=.seq K9.toArray n}
 |.tup xs=>xs.length<=sizeLine/\∃K9:yad,Vals xs K9/\IsTup h a K9.toArray
 |.dK kvs=>kvs.length<=sizeLine/\(a==sysModules)=false/\∃vs,KV kvs vs/\h.DictOf (bQ P w) a vs
 |.dT kvs=>kvs.length<=sizeLine/\(a==sysModules)=false/\∃xs:List (List Key×Addr×Value),
   Paired (fun(p:List Key×V) (q:List Key×Addr×Value)=>p.1=q.1/\H q.2.1=some (.tup (p.1.map kV))/\RelV p.2 q.2.2) kvs xs ∧
   ∃ o es ep,h.get? a=some o/\o.ExactDict/\o.data=.dict es ep/\es.toList=xs.map (entryOfKey (tupleKind (bQ P w)))/\(xs.map (·.1)).Nodup
 |.set S n=>h.SetOf (intKind P w) a S n
 |.ins C dx fs=>H dx=some (.own a)/\fs.length<=1000/\dx≠a/\h.get? a=some (PySem.W.instObj C dx) ∧
   ∃ mA,h.Ns1 dx mA/\(∀f,iT (fs.lookup f) (mA f))/\PySem.Within mA (fs.map (·.1))
 |.own _=>∃o,h.get? a=some o
 |.xd fs=>∃mA,h.Ns1 a mA/\∀f,iT (fs.lookup f) (mA f)
 |.Yq lo hi=>∃t u v,h.get? a=some {cls:=.type "range", data:=.fields #[.int lo t,.int hi u,.int 1 v]}
 |.frz o u=>h.get? a=some o/\bH H h a u
 |.PJ ps=>h.get? a=some {cls:=.none,data:=.fields ps}
 |.met f x=>h.get? a=some (PySem.W.methodObj (.ref f) (.ref x))
 |.ext φ=>φ h/\(∃o,h.get? a=some o)/\∀h1 h2:Heap,φ h1->(∀o,h1.get? a=some o->h2.get? a=some o)->φ h2
def M9(H:Hp)(h:Heap):Prop:=∀a o,H a=some o->bH P w H h a o
end
section
variable{P:Program}{w:World}{H H':Hp}{h h':Heap}{a:Addr}{o:HO}
theorem bH.lt(x:bH P w H h a o):a<h.objs.size:=by
 cases o with
 |lst xs=>obtain⟨_,_,_,_,e⟩:=x;exact LK e
 |tup xs=>obtain⟨_,_,_,p⟩:=x;exact p.lt
 |dK kvs=>obtain⟨_,_,_,_,o,_,_,e,_⟩:=x;exact LK e
 |dT kvs=>obtain⟨_,_,_,_,o,_,_,e,_⟩:=x;exact LK e
 |set S n=>obtain⟨o,_,_,_,e,_⟩:=x;exact LK e
 |ins C dx fs=>obtain⟨_,_,_,e,_⟩:=x;exact LK e
 |own y=>obtain⟨_,e⟩:=x;exact LK e
 |xd fs=>obtain⟨_,⟨_,_,_,e,_⟩,_⟩:=x;exact LK e
 |Yq lo hi=>obtain⟨_,_,_,e⟩:=x;exact LK e
 |frz ob u=>obtain⟨e,_⟩:=x;exact LK e
 |PJ ps=>exact LK (show h.get? a=some _ from x)
 |met f y=>exact LK (show h.get? a=some _ from x)
 |ext φ=>obtain⟨_,⟨_,e⟩,_⟩:=x;exact LK e
theorem Paired.UI{α β:Type}{F G:α->β->Prop}:∀{l₁:List α} {l₂:List β},Paired F l₁ l₂->(∀a b,F a b->G a b)->Paired G l₁ l₂
 |_,_,.nil,_=>.nil
 |_,_,.cons r t,f=>.cons (f _ _ r) (Paired.UI t f)
def bH.Oz(x:bH P w H h a o)(k:∀b u,(b=a∨H b=some (.own a))->h.get? b=some u->h'.get? b=some u)
  (ho:∀b,H b=some (.own a)->H' b=some (.own a)) (ht:∀b xs,H b=some (.tup xs)->H' b=some (.tup xs)):bH P w H' h' a o:=by
 induction o with
 |lst xs=>obtain⟨z,K9,n,r,e⟩:=x;exact⟨z,K9,n,r,k _ _ (.inl rfl) e⟩
 |tup xs=>obtain⟨z,K9,r,ob,e,c⟩:=x;exact⟨z,K9,r,ob,k _ _ (.inl rfl) e,c⟩
 |dK kvs=>obtain⟨z,y,vs,r,ob,es,ep,e,c⟩:=x;exact⟨z,y,vs,r,ob,es,ep,k _ _ (.inl rfl) e,c⟩
 |dT kvs =>
  obtain⟨z,y,xs,r,ob,es,ep,e,c⟩:=x;exact⟨z,y,xs,Paired.UI r fun p q z=>⟨z.1,ht _ _ z.2.1,z.2.2⟩,ob,es,ep,k _ _ (.inl rfl) e,c⟩
 |set S n=>obtain⟨ob,es,ep,t,e,c⟩:=x;exact⟨ob,es,ep,t,k _ _ (.inl rfl) e,c⟩
 |ins C dx fs =>
  obtain⟨d,z,ne,e,mA,⟨od,es,ep,e2,c⟩,r⟩:=x;exact⟨ho _ d,z,ne,k _ _ (.inl rfl) e,mA,⟨od,es,ep,k _ _ (.inr d) e2,c⟩,r⟩
 |own y=>obtain⟨ob,e⟩:=x;exact⟨ob,k _ _ (.inl rfl) e⟩
 |xd fs=>obtain⟨mA,⟨od,es,ep,e,c⟩,r⟩:=x;exact⟨mA,⟨od,es,ep,k _ _ (.inl rfl) e,c⟩,r⟩
 |Yq lo hi=>obtain⟨t,u,v,e⟩:=x;exact⟨t,u,v,k _ _ (.inl rfl) e⟩
 |frz ob u ih=>obtain⟨e,q⟩:=x;exact⟨k _ _ (.inl rfl) e,ih q⟩
 |PJ ps =>
  have e:h.get? a=some {cls:=.none,data:=.fields ps}:=x;show h'.get? a=some {cls:=.none,data:=.fields ps};exact k a _ (.inl rfl) e
 |met f y =>
  have e:h.get? a=some (PySem.W.methodObj (.ref f) (.ref y)):=x;show h'.get? a=some (PySem.W.methodObj (.ref f) (.ref y));exact k a _ (.inl rfl) e
 |ext φ=>obtain⟨p,⟨o,e⟩,st⟩:=x;exact⟨st _ _ p fun o q=>k _ _ (.inl rfl) q,⟨o,k _ _ (.inl rfl) e⟩,st⟩
theorem M9.lt(x:M9 P w H h)(e:H a=some o):a<h.objs.size:=(x a o e).lt
def M9.fresh(x:M9 P w H h)(e:h.objs.size<=a):H a=none:=by
 cases q:H a with
 |none=>rfl
 |some u=>exact absurd (M5 (x.lt q) e) (Ql _)
def M9.kept(x:M9 P w H h)(k:∀b u,h.get? b=some u->h'.get? b=some u):M9 P w H h':=fun a o e =>
 (x a o e).Oz (fun b u _ q=>k b u q) (fun _ q=>q) fun _ _ q=>q
def M9.laid(x:M9 P w H h)(k:∀b u,h.get? b=some u->h'.get? b=some u)(hp:h.objs.size<=a)(new:bH P w (upd H a o) h' a o):M9 P w (upd H a o) h':=fun b u e=>by
 have hn:=x.fresh hp;by_cases hb:b=a
 ·subst hb;rw[aH]at e;cases e;exact new
 ·rw[av hb]at e;exact(x b u e).Oz (fun c v _ q=>k c v q) (fun c q=>by rw[av (aW q hn)];exact q) fun c xs q=>by rw[av (aW q hn)];exact q
end
def Rd(H:Hp)(a:Addr)(u:HO):Prop:=H a=some u∨∃ o,H a=some (.frz o u)
def Rd.ok(r:Rd H a u)(x:M9 P w H h):bH P w H h a u:=by
 rcases r with r|⟨o,r⟩
 ·exact x a u r
 ·obtain⟨_,q⟩:=x a _ r;exact q
def Wz:Option HO->Prop
 |some (.lst _)=>True
 |some (.dK _)=>True
 |some (.dT _)=>True
 |some (.set _ _)=>True
 |some (.ins _ _ _)=>True
 |some (.ext _)=>True
 |_=>False
section
variable{P:Program}{w:World}{H:Hp}{h h':Heap}{x e:Addr}{o':HO}
def M9.write(ok:M9 P w H h)(mu:Wz (H x))(he:e=x∨H e=some (.own x))(k:∀b u,b≠e->h.get? b=some u->h'.get? b=some u)(VP:∃u,h'.get? e=some u)
  (new:bH P w (upd H x o') h' x o'):M9 P w (upd H x o') h':=fun b u q=>by
 have WA:∀c y,H c=some (.own y)->c≠x:=fun c y r z=>by subst z;rw[r]at mu;exact mu
 have Y6:∀c xs,H c=some (.tup xs)->c≠x:=fun c xs r z=>by subst z;rw[r]at mu;exact mu
 by_cases hb:b=x
 ·subst hb;rw[aH]at q;cases q;exact new
 ·rw[av hb]at q;by_cases UJ:b=e
  ·have q':H b=some (.own x):=by
    rcases he with z|z
    ·exact absurd (UJ.trans z) hb
    ·rw[UJ];exact z
   rw[q]at q';cases q';obtain⟨v,hv⟩:=VP;exact⟨v,by rw[UJ];exact hv⟩
  ·refine(ok b u q).Oz (fun c v hc r=>k c v ?_ r) (fun c r=>by rw[av (WA c b r)];exact r) fun c xs r=>by rw[av (Y6 c xs r)];exact r
   rcases hc with rfl|hc
   ·exact UJ
   ·rintro rfl;rcases he with z|z
    ·exact WA c b hc z
    ·rw[hc]at z;cases z;exact hb rfl
end
structure Un(fs ex:yae)(H H':Hp)(h h':Heap):Prop where
 keep:∀b o,h.get? b=some o->H b=none->b∉fs->b∉ex->h'.get? b=some o
 slot:∀b o,h.get? b=some o->H b=none->b∈fs->b∉ex->∃sl,h'.get? b=some {o with slots:=sl}
 free:∀b o,h.get? b=some o->H b=none->b∉ex->H' b=none
 there:∀b o,h.get? b=some o->b∉ex->∃o',h'.get? b=some o'
 Pk:∀b xs,H b=some (.tup xs)->H' b=some (.tup xs)
 O0:∀b o u,H b=some (.frz o u)->H' b=some (.frz o u)
 Pm:∀b ps,H b=some (.PJ ps)->∃more,H' b=some (.PJ (ps++more))
section
variable{fs fs' ex ex':yae}{H H1 H2:Hp}{h h1 h2 h':Heap}{a x e:Addr}{o:HO}
def Un.any(u:Un fs ex H H1 h h1){ob:Obj}(q:h.get? b=some ob)(n:H b=none)(hx:b∉ex):∃sl,h1.get? b=some {ob with slots:=sl}:=by
 by_cases hb:b∈fs
 ·exact u.slot b ob q n hb hx
 ·exact⟨ob.slots,u.keep b ob q n hb hx⟩
def Un.kept(k:∀b u,h.get? b=some u->h'.get? b=some u):Un fs ex H H h h' :=
 ⟨fun b ob q _ _ _=>k b ob q,fun b ob q _ _ _=>⟨ob.slots,k b ob q⟩,fun _ _ _ n _=>n,fun b ob q _=>⟨ob,k b ob q⟩,fun _ _ q=>q,fun _ _ _ q=>q,fun _ ps q=>⟨#[],by rw[q];simp⟩⟩
def Un.refl:Un fs ex H H h h:=Un.kept fun _ _ q=>q
def Un.laid(k:∀b u,h.get? b=some u->h'.get? b=some u)(hp:h.objs.size<=a)(hn:H a=none):Un fs ex H (upd H a o) h h' where
 keep:=fun b u q _ _ _=>k b u q
 slot:=fun b u q _ _ _=>⟨u.slots,k b u q⟩
 free:=fun b u q n _=>by rw[av (Ms (M5 (LK q) hp))];exact n
 there:=fun b u q _=>⟨u,k b u q⟩
 Pk:=fun b xs q=>by rw[av (aW q hn)];exact q
 O0:=fun b u xs q=>by rw[av (aW q hn)];exact q
 Pm:=fun b ps q=>⟨#[],by rw[av (aW q hn),q];simp⟩
def Un.write(mu:Wz (H x))(he:e=x∨H e=some (.own x))(k:∀b u,b≠e->h.get? b=some u->h'.get? b=some u)(VP:∃u,h'.get? e=some u):Un fs ex H (upd H x o) h h':=by
 have hx:∀b,H b=none->b≠x:=fun b n z=>by subst z;rw[n]at mu;exact mu
 have hb:∀b,H b=none->b≠e:=fun b n z=>by
  subst z;rcases he with r|r
  ·exact hx b n r
  ·rw[n]at r;cases r
 have hm:∀b u,H b=some u->¬Wz (some u)->b≠x:=fun b u q nm z=>by subst z;rw[q]at mu;exact nm mu
 refine⟨fun b u q n _ _=>k b u (hb b n) q,fun b u q n _ _=>⟨u.slots,k b u (hb b n) q⟩,fun b u q n _=>by rw[av (hx b n)];exact n,fun b u q _=>?_,
  fun b xs q=>by rw[av (hm b _ q fun z=>z)];exact q,fun b u xs q=>by rw[av (hm b _ q fun z=>z)];exact q,fun b ps q=>⟨#[],by rw[av (hm b _ q fun z=>z),q];simp⟩⟩
 by_cases UJ:b=e
 ·subst UJ;exact VP
 ·exact⟨u,k b u UJ q⟩
end
def trk(h:Heap)(H:Hp):yae:=(List.range h.objs.size).filter fun a=>(H a).isSome
def lU(h:Heap)(H:Hp):Heap:=PySem.W.hideAll h (trk h H)
def Bq(h:Heap)(H:Hp):(lU h H).objs.size=h.objs.size:=PySem.W.hideAll_size _ _
def Dp{h:Heap}{H:Hp}{o:Obj}(e:h.get? b=some o)(n:H b=none):(lU h H).get? b=some o :=
 PySem.W.hideAll_get _ e fun hm=>by have q:(H b).isSome=true:=(Wu.mp hm).2;rw[n]at q;simp at q
def F2{o:Obj}(e:(lU h H).get? b=some o):h.get? b=some o/\H b=none:=by
 have e':h.get? b=some o:=PySem.W.of_hideAll (trk h H) e;refine⟨e',?_⟩;cases q:H b with
 |none=>rfl
 |some x =>
  have hm:b∈trk h H:=Wu.mpr ⟨Wx.mpr (LK e'),by simp[q]⟩;have z:(lU h H).get? b=none:=PySem.W.hideAll_none (trk h H) hm;rw[z]at e;cases e
def E8(g h:Heap)(L:Addr):yab:=(List.range h.objs.size).filterMap fun a=>if a=L∨(g.get? a).isSome=true then none else(h.get? a).map fun o=>(a,o)
def rest(g h:Heap)(L d:Addr):yab:=(E8 g h L).filter fun p=>decide (p.1≠d)
structure Mod(K:yac)(mg:yal)(base:Heap):Prop where
 WC:K.In base
 glob:base.Ns mainGlobals mg
 blt:∃mb,base.Ns builtinsNs mb/\∀x:Str,x ≠ "__name__" -> mb x=bootBuiltins x
 nolimit:base.NoLimit
structure Cx where
 prog:Program
 w:World
 K:yac
 mg:yal
 base:Heap
 A:Around
 N:yah
 Lq:Shared
 LX:Hp
 env:Env
 outer:List Env
 stack:List Env
 ex:yae
 fn:Str->Bool
 calm:Bool
 pn:yab
 xe:yaa
def OU(l:List Env):yae:=l.filterMap (·.frame)
abbrev Cx.fs(X:Cx):yae:=OU X.outer
def Rt(sc:Scope)(x:Str):Prop:=sc.names.lookup x=some .local∨sc.names.lookup x=some .cell∨sc.names.lookup x=some .free
def Loc(sc:Scope)(x:Str):Prop:=sc.names.lookup x=some .local∨sc.names.lookup x=some .cell
def Look(env:Env)(h:Heap)(m:yal)(x:Str)(u:Value):Prop :=
 (env.kindOf x=some .local/\m x=some u)∨((env.kindOf x=some .cell∨env.kindOf x=some .free)/\∃c,env.cells.lookup x=some c/\h.IsCell c (some u))
structure Cx.Ok(X:Cx):Prop where
 mod:Mod X.K X.mg X.base
 kind:X.env.scope.kind=.function
 glob:X.env.globals=mainGlobals
 blt:X.env.builtins=builtinsNs
 above:X.Lq.heap.objs.size<=X.env.locals
 inj:∀x y c,X.env.cells.lookup x=some c->X.env.cells.lookup y=some c->x=y
 has:∀x,(X.env.kindOf x=some .cell∨X.env.kindOf x=some .free)->∃c,X.env.cells.lookup x=some c
 RJ:∀x c,X.fn x=true->X.env.cells.lookup x=some c->X.Lq.heap.objs.size<=c
 hd:X.calm=true->X.A.handled=none
 frames:X.A.frames=some X.stack
 Yr:X.stack=X.outer∨(X.stack=X.env::X.outer/\X.env.frame=some X.env.locals)
 exf:∀b∈X.ex,b≠X.env.locals/\∀x c,X.env.cells.lookup x=some c->c≠b
 bs:∀b o,X.base.get? b=some o->X.Lq.heap.get? b=some o/\X.LX b=none
 UK:X.base.objs.size<=X.Lq.heap.objs.size
 Q5:∀b o,X.base.get? b=some o->b∉X.ex
 SY:∀b∈X.ex,b∉X.fs
 Of:X.Lq.heap.FunFrames X.base X.outer
 UL:∀b∈X.fs,X.LX b=none
structure Inv(X:Cx)(pins:yab)(σ:List (Option V))(H:Hp)(s:Shared):Prop where
 ok:X.Ok
 os:s.os=X.Lq.os
 bare:AllBare s.gens
 base:Un X.fs X.ex X.LX H X.Lq.heap s.heap
 loc:∃m,s.heap.Ns X.env.locals m/\∀(i:Nat) (x:Str) (v:V),X.N[i]?=some x->σ[i]?=some (some v)->Rt X.env.scope x->∃u,RelV v u/\Look X.env s.heap m x u
 cell:∀x c,X.env.cells.lookup x=some c->∃v,s.heap.IsCell c v
 free:H X.env.locals=none
 Nr:∀x c,X.env.cells.lookup x=some c->H c=none
 pin:∀p∈X.pn++pins,s.heap.get? p.1=some p.2/\H p.1=none/\p.1≠X.env.locals/\p.1∉X.fs/\∀v,p.2.data ≠ .cell v
 Lu:M9 X.prog X.w H s.heap
 len:σ.length=X.N.length
section
variable{X:Cx}{pins:yab}{σ:List (Option V)}{H H':Hp}{s:Shared}{h':Heap}
def Cx.Ok.Y7(ok:X.Ok){o:Obj}(e:X.base.get? b=some o):b∉X.fs:=fun hb=>by have:=(ok.Of.mem hb).1;rw[e]at this;cases this
theorem Inv.bs(I:Inv X pins σ H s):∀b o,X.base.get? b=some o->s.heap.get? b=some o/\H b=none:=fun b o e =>
 ⟨I.base.keep b o (I.ok.bs b o e).1 (I.ok.bs b o e).2 (I.ok.Y7 e) (I.ok.Q5 b o e),I.base.free b o (I.ok.bs b o e).1 (I.ok.bs b o e).2 (I.ok.Q5 b o e)⟩
def Inv.bk(I:Inv X pins σ H s):∀b o,X.base.get? b=some o->s.heap.get? b=some o:=fun b o e=>(I.bs b o e).1
theorem Inv.mod(I:Inv X pins σ H s):Mod X.K X.mg X.base:=I.ok.mod
def Inv.PQ(I:Inv X pins σ H s):X.K.In s.heap:=I.ok.mod.WC.keeps I.bk
theorem Inv.lt(I:Inv X pins σ H s):X.env.locals<s.heap.objs.size:=let ⟨_,hn,_⟩:=I.loc;hn.lt
def Inv.sz(I:Inv X pins σ H s):X.Lq.heap.objs.size<=s.heap.objs.size:=NW I.ok.above (QK I.lt)
def Inv.Y8(I:Inv X pins σ H s){a:Addr}(h:s.heap.objs.size<=a):a∉X.fs:=fun hb=>by obtain⟨_,o,ho,_⟩:=I.ok.Of.mem hb;exact absurd (M5 (LK ho) (NW I.sz h)) (Ql _)
def Inv.UM(I:Inv X pins σ H s):∀x c,X.env.cells.lookup x=some c->c≠X.env.locals:=fun x c e z=>by obtain⟨v,o,ho,hd⟩:=I.cell x c e;obtain⟨m,⟨o',es,ep,PK,PR,_⟩,_⟩:=I.loc;rw[z,PK]at ho;cases ho;rw[PR]at hd;cases hd
theorem Inv.Of(I:Inv X pins σ H s):s.heap.FunFrames X.base X.outer:=by
 have all:∀(l:List Env),(∀b∈OU l,b∈X.fs)->X.Lq.heap.FunFrames X.base l->s.heap.FunFrames X.base l:=by
  intro l
  induction l with
  |nil=>intro _ _;trivial
  |cons env r ih =>
   intro hs hl;obtain⟨hk,⟨L,o,hf,hn,ho,hd⟩,hr⟩:=hl;have hL:L∈X.fs:=hs L (by unfold OU;rw[Wl,hf];exact Ng);obtain⟨sl,e⟩:=I.base.slot L o ho (I.ok.UL L hL) hL fun z=>I.ok.SY L z hL
   exact⟨hk,⟨L,_,hf,hn,e,hd⟩,ih (fun b hb=>hs b (by unfold OU;rw[Wl,hf];exact L8 _ hb)) hr⟩
 exact all X.outer (fun _ hb=>hb) I.ok.Of
theorem Inv.stack(I:Inv X pins σ H s):s.heap.FunFrames X.base X.stack:=by
 rcases I.ok.Yr with e|⟨e,hf⟩
 ·rw[e];exact I.Of
 ·rw[e];obtain⟨m,hn,_⟩:=I.loc;refine .cons (by rw[I.ok.kind];decide) hf hn ?_ I.Of;exact Heap.get?_none_of_le (NW I.ok.UK I.ok.above)
def Inv.OA(I:Inv X pins σ H s):∀b∈OU X.stack,b∈X.env.locals::X.fs:=fun b hb=>by
 rcases I.ok.Yr with e|⟨e,hf⟩
 ·rw[e]at hb;exact L8 _ hb
 ·rw[e]at hb;unfold OU at hb;rw[Wl,hf]at hb;exact hb
def Inv.Pn(I:Inv X pins σ H s):∀b∈OU X.stack,H b=none:=fun b hb=>by
 rcases Lp.mp (I.OA b hb)with e|hb
 ·rw[e];exact I.free
 ·obtain⟨_,o,ho,_⟩:=I.ok.Of.mem hb;exact I.base.free b o ho (I.ok.UL b hb) fun z=>I.ok.SY b z hb
def Inv.step{t':Nat}{d':Drawn}{ch:yae}(I:Inv X pins σ H s)
  (Ru:∀b∈ch,(b∈X.ex∨X.Lq.heap.objs.size<=b)/\b≠X.env.locals/\(∀x c,X.env.cells.lookup x=some c->c≠b)/\∀p∈X.pn++pins,p.1≠b)
  (keep:∀b o,b≠X.env.locals->b∉X.fs->b∉ch->s.heap.get? b=some o->H b=none->h'.get? b=some o)
  (slot:∀b o,b≠X.env.locals->b∈X.fs->b∉ch->s.heap.get? b=some o->H b=none->∃sl,h'.get? b=some {o with slots:=sl}) (free:∀b o,b∉ch->s.heap.get? b=some o->H b=none->H' b=none)
  (there:∀b o,b∉ch->s.heap.get? b=some o->∃o',h'.get? b=some o')
  (Pk:∀b xs,H b=some (.tup xs)->H' b=some (.tup xs)) (O0:∀b o u,H b=some (.frz o u)->H' b=some (.frz o u)) (Pm:∀b ps,H b=some (.PJ ps)->∃more,H' b=some (.PJ (ps++more)))
  (ns:∀m,s.heap.Ns X.env.locals m->h'.Ns X.env.locals m) (Lu:M9 X.prog X.w H' h') (hg:AllBare g') :
  Inv X pins σ H' {s with heap:=h',gens:=g',drawn:=d',toks:=t'}:=by
 have neL:∀b o,X.Lq.heap.get? b=some o->b≠X.env.locals:=fun b o e=>Ms (M5 (LK e) I.ok.above)
 have Ys:∀b o,X.Lq.heap.get? b=some o->b∉X.ex->b∉ch:=fun b o e hx hb=>by
  rcases(Ru b hb).1 with z|z
  ·exact hx z
  ·exact absurd (M5 (LK e) z) (Ql _)
 have cellK:∀x c,X.env.cells.lookup x=some c->∀v,s.heap.IsCell c v->h'.IsCell c v:=fun x c e v ⟨o,ho,hd⟩=>by
  have PT:c∉ch:=fun z=>(Ru c z).2.2.1 x c e rfl
  by_cases hc:c∈X.fs
  ·obtain⟨sl,q⟩:=slot c o (I.UM x c e) hc PT ho (I.Nr x c e);exact⟨_,q,hd⟩
  ·exact⟨o,keep c o (I.UM x c e) hc PT ho (I.Nr x c e),hd⟩
 refine⟨I.ok,I.os,hg,⟨fun b o e n hb hx=>?_,fun b o e n hb hx=>?_,fun b o e n hx=>?_,fun b o e hx=>?_,fun b xs e=>Pk b xs (I.base.Pk b xs e),fun b o xs e=>O0 b o xs (I.base.O0 b o xs e),fun b ps e=>?_⟩,?_,fun x c e=>?_,?_,fun x c e=>?_,fun p hp=>?_,Lu,I.len⟩
 ·exact keep b o (neL b o e) hb (Ys b o e hx) (I.base.keep b o e n hb hx) (I.base.free b o e n hx)
 ·obtain⟨sl,e1⟩:=I.base.slot b o e n hb hx;obtain⟨Y9,e2⟩:=slot b _ (neL b o e) hb (Ys b o e hx) e1 (I.base.free b o e n hx);exact⟨Y9,e2⟩
 ·obtain⟨o',e1⟩:=I.base.there b o e hx;exact free b o' (Ys b o e hx) e1 (I.base.free b o e n hx)
 ·obtain⟨o',e1⟩:=I.base.there b o e hx;exact there b o' (Ys b o e hx) e1
 ·obtain⟨m1,e1⟩:=I.base.Pm b ps e;obtain⟨m2,e2⟩:=Pm b _ e1;exact⟨m1++m2,by rw[e2,Yn]⟩
 ·obtain⟨m,hn,hl⟩:=I.loc;refine⟨m,ns m hn,fun i x v e1 e2 e3=>?_⟩;obtain⟨u,r,l⟩:=hl i x v e1 e2 e3;refine⟨u,r,?_⟩;rcases l with l|⟨k,c,e,z⟩
  ·exact .inl l
  ·exact .inr ⟨k,c,e,cellK x c e _ z⟩
 ·obtain⟨v,z⟩:=I.cell x c e;exact⟨v,cellK x c e v z⟩
 ·obtain⟨m,⟨o,_,_,ho,_⟩,_⟩:=I.loc;exact free _ o (fun z=>(Ru _ z).2.1 rfl) ho I.free
 ·obtain⟨v,o,ho,hd⟩:=I.cell x c e;exact free c o (fun z=>(Ru c z).2.2.1 x c e rfl) ho (I.Nr x c e)
 ·obtain⟨e,n,ne,nf,d⟩:=I.pin p hp;have PT:p.1∉ch:=fun z=>(Ru p.1 z).2.2.2 p hp rfl
  exact⟨keep p.1 p.2 ne nf PT e n,free p.1 p.2 PT e n,ne,nf,d⟩
def Inv.un{t':Nat}(I:Inv X pins σ H s)(u:Un X.fs [] H H' s.heap h')(Lu:M9 X.prog X.w H' h'):Inv X pins σ H' {s with heap:=h',toks:=t'}:=by
 obtain⟨m,⟨o,es,ep,ho,r⟩,_⟩:=id I.loc;obtain⟨sl,hL⟩:=u.any ho I.free (by simp);exact I.step (g':=s.gens) (d':=s.drawn) (ch:=[]) (fun _ z=>nomatch z) (fun b o _ hb _ e n=>u.keep b o e n hb (by simp)) (fun b o _ hb _ e n=>u.slot b o e n hb (by simp)) (fun b o _ e n=>u.free b o e n (by simp)) (fun b o _ e=>u.there b o e (by simp)) u.Pk u.O0 u.Pm (fun m' hm=>by obtain⟨o',N9,Za,PK,r'⟩:=hm;rw[ho]at PK;cases PK;exact⟨_,N9,Za,hL,r'⟩) Lu I.bare
def Inv.call{t':Nat}{d':Drawn}(I:Inv X pins σ H s)(u:Un (OU X.stack) ch H H' s.heap h')(Lu:M9 X.prog X.w H' h')(hg:AllBare g')
  (Ru:∀b∈ch,(b∈X.ex∨X.Lq.heap.objs.size<=b)/\b≠X.env.locals/\(∀x c,X.env.cells.lookup x=some c->c≠b)/\∀p∈X.pn++pins,p.1≠b) :
  Inv X pins σ H' {s with heap:=h',gens:=g',drawn:=d',toks:=t'}:=by
 obtain⟨m,⟨o,es,ep,ho,r⟩,_⟩:=id I.loc;obtain⟨sl,hL⟩:=u.any ho I.free fun z=>(Ru _ z).2.1 rfl
 exact I.step (ch:=ch) Ru (fun b o hL hb hc e n=>u.keep b o e n (fun z=>(Lp.mp (I.OA b z)).elim hL hb) hc) (fun b o _ _ hc e n=>u.any e n hc) (fun b o hc e n=>u.free b o e n hc) (fun b o hc e=>u.there b o e hc) u.Pk u.O0 u.Pm (fun m' hm=>by obtain⟨o',N9,Za,PK,r'⟩:=hm;rw[ho]at PK;cases PK;exact⟨_,N9,Za,hL,r'⟩) Lu hg
def Inv.turned{t':Nat}{it:Addr}(I:Inv X pins σ H s)(k:∀b o,b≠it->s.heap.get? b=some o->h'.get? b=some o)(hn:H it=none)(hL:it≠X.env.locals)
  (h1:it∈X.ex∨X.Lq.heap.objs.size<=it) (h2:∀x c,X.env.cells.lookup x=some c->c≠it) (h3:∀p∈X.pn++pins,p.1≠it):Inv X pins σ H {s with heap:=h',toks:=t'}:=by
 have nit:∀b u,H b=some u->b≠it:=fun b u e z=>by rw[z,hn]at e;cases e
 refine I.step (g':=s.gens) (d':=s.drawn) (ch:=[it]) (fun b hb=>?_) (fun b o _ _ hc e _=>k b o (fun z=>hc (by simp[z])) e) (fun b o _ _ hc e _=>⟨o.slots,k b o (fun z=>hc (by simp[z])) e⟩) (fun _ _ _ _ n=>n)
  (fun b o hc e=>⟨o,k b o (fun z=>hc (by simp[z])) e⟩) (fun _ _ e=>e) (fun _ _ _ e=>e) (fun b ps e=>⟨#[],by rw[e];simp⟩) (fun m hm=>?_) (fun b u e=>?_) I.bare
 ·have e:b=it:=by simpa using hb
  subst e;exact⟨h1,hL,h2,h3⟩
 ·obtain⟨o,es,ep,ho,r⟩:=hm;exact⟨o,es,ep,k _ o (Ne.symm hL) ho,r⟩
 ·refine(I.Lu b u e).Oz (fun c v hc q=>k c v ?_ q) (fun _ q=>q) fun _ _ q=>q
  rcases hc with z|z
  ·rw[z];exact nit b u e
  ·exact nit c _ z
def Inv.tok(I:Inv X pins σ H s)(t:Nat):Inv X pins σ H {s with toks:=t}:=I.un (h':=s.heap) (t':=t) Un.refl I.Lu
theorem Inv.kept{t':Nat}(I:Inv X pins σ H s)(k:∀b u,s.heap.get? b=some u->h'.get? b=some u):Inv X pins σ H {s with heap:=h',toks:=t'}:=I.un (Un.kept k) (I.Lu.kept k)
theorem Inv.laid{a:Addr}{t':Nat}(I:Inv X pins σ H s)(k:∀b u,s.heap.get? b=some u->h'.get? b=some u)(hp:s.heap.objs.size<=a)(new:bH X.prog X.w (upd H a o) h' a o) :
  Inv X pins σ (upd H a o) {s with heap:=h',toks:=t'}:=I.un (Un.laid k hp (I.Lu.fresh hp)) (I.Lu.laid k hp new)
theorem Inv.write{e:Addr}{t':Nat}(I:Inv X pins σ H s)(mu:Wz (H x))(he:e=x∨H e=some (.own x))(k:∀b u,b≠e->s.heap.get? b=some u->h'.get? b=some u)(VP:∃u,h'.get? e=some u)
  (new:bH X.prog X.w (upd H x o) h' x o):Inv X pins σ (upd H x o) {s with heap:=h',toks:=t'}:=I.un (Un.write mu he k VP) (I.Lu.write mu he k VP new)
def Inv.QL{T5:yab}(I:Inv X pins σ H s)(h:∀p∈T5,s.heap.get? p.1=some p.2/\H p.1=none/\p.1≠X.env.locals/\p.1∉X.fs/\∀v,p.2.data ≠ .cell v):Inv X T5 σ H s :=
 ⟨I.ok,I.os,I.bare,I.base,I.loc,I.cell,I.free,I.Nr,fun p hp=>(Mc.mp hp).elim (fun z=>I.pin p (Qi _ z)) (h p),I.Lu,I.len⟩
def wI{N:yah}(hN:N.Nodup){i j:Nat}{x:Str}(a:N[i]?=some x)(b:N[j]?=some x):i=j:=by obtain⟨h1,e1⟩:=L6.mp a;obtain⟨h2,e2⟩:=L6.mp b;exact(List.getElem_inj hN).mp (e1.trans e2.symm)
def ki{i:Nat}{x:Str}{Q:Unit->Shared->Prop}(I:Inv X pins σ H s)(hN:X.N.Nodup)(hi:X.N[i]?=some x)(hx:Loc X.env.scope x)(r:RelV v u)
  (h:∀s',Inv X pins (σ.set i (some v)) H s'->(∃a,Heap.SameBut a s.heap s'.heap/\(a=X.env.locals∨X.env.cells.lookup x=some a))->Q () s') (hf:X.fn x=true∨X.env.scope.names.lookup x=some .local:=by first|exact .inl rfl|exact .inr rfl|assumption):wpAny M A (storeName X.env x u) Q E s:=by
 obtain⟨m,hn,hl⟩:=id I.loc;have Zb:(X.env.scope.kind==.class || (X.env.scope.kind==.module && X.env.locals != X.env.globals))=false:=by rw[I.ok.kind];rfl
 have WD:i<σ.length:=by rw[I.len];exact(L6.mp hi).1
 have UM:=I.UM;have tracked:∀{a:Addr} {h':Heap},(∃o,s.heap.get? a=some o/\H a=none)->Heap.SameBut a s.heap h'->M9 X.prog X.w H h':=fun {a h'} ha hs b ob e=>by
  obtain⟨_,_,T6⟩:=ha;refine(I.Lu b ob e).Oz (fun c w' hc q=>(hs.2 c ?_).trans q) (fun _ q=>q) fun _ _ q=>q
  rintro rfl;rcases hc with rfl|hc
  ·rw[T6]at e;cases e
  ·rw[T6]at hc;cases hc
 rcases hx with hk|hk
 ·refine wpAny_storeName_local hk hn (fun h' hn' hs=>?_) Zb;obtain⟨oL,_,_,UN,_⟩:=id hn;refine h _ ⟨I.ok,I.os,I.bare,⟨fun b o e n hb hx=>?_,fun b o e n hb hx=>?_,I.base.free,fun b o e hx=>?_,I.base.Pk,I.base.O0,I.base.Pm⟩,⟨_,hn',fun j y v' e1 e2 e3=>?_⟩,fun y c e=>?_,I.free,I.Nr,fun p hp=>?_,tracked ⟨oL,UN,I.free⟩ hs,by simpa using I.len⟩ ⟨_,hs,.inl rfl⟩
  ·exact(hs.2 b (Ms (M5 (LK e) I.ok.above))).trans (I.base.keep b o e n hb hx)
  ·obtain⟨sl,e1⟩:=I.base.slot b o e n hb hx;exact⟨sl,(hs.2 b (Ms (M5 (LK e) I.ok.above))).trans e1⟩
  ·obtain⟨o',e1⟩:=I.base.there b o e hx;exact⟨o',(hs.2 b (Ms (M5 (LK e) I.ok.above))).trans e1⟩
  ·by_cases hj:j=i
   ·subst hj;rw[hi]at e1;cases e1;rw[Ou WD]at e2;cases e2;exact⟨u,r,.inl ⟨hk,by simp⟩⟩
   ·rw[NK (Ne.symm hj)]at e2;obtain⟨u',r',q⟩:=hl j y v' e1 e2 e3;refine⟨u',r',?_⟩;rcases q with⟨k,e⟩| ⟨k,c,e,z⟩
    ·refine .inl ⟨k,?_⟩;have:y≠x:=fun e=>hj (wI hN e1 (e ▸ hi))
     simp[this,e]
    ·exact .inr ⟨k,c,e,z.sameBut hs (UM y c e)⟩
  ·obtain⟨w',z⟩:=I.cell y c e;exact⟨w',z.sameBut hs (UM y c e)⟩
  ·obtain⟨e,n,ne,nf,d⟩:=I.pin p hp;exact⟨(hs.2 p.1 ne).trans e,n,ne,nf,d⟩
 ·have Zc:X.fn x=true:=by
   rcases hf with z|z
   ·exact z
   ·rw[z]at hk;cases hk
  obtain⟨c,hc⟩:=I.ok.has x (.inl hk);obtain⟨w',z⟩:=I.cell x c hc;refine wpAny_storeName_cell I.ok.kind hk hc z (fun h' PU hs=>?_);obtain⟨oc,hoc,Zd⟩:=id z;refine h {s with heap:=h'} ⟨I.ok,I.os,I.bare,⟨fun b o e n hb hx=>?_,fun b o e n hb hx=>?_,I.base.free,fun b o e hx=>?_,I.base.Pk,I.base.O0,I.base.Pm⟩,⟨m,hn.sameBut hs (Ne.symm (UM x c hc)),fun j y v' e1 e2 e3=>?_⟩,fun y c' e=>?_,I.free,I.Nr,fun p hp=>?_,tracked ⟨oc,hoc,I.Nr x c hc⟩ hs,by simpa using I.len⟩ ⟨c,hs,.inr hc⟩
  ·exact(hs.2 b (Ms (M5 (LK e) (I.ok.RJ x c Zc hc)))).trans (I.base.keep b o e n hb hx)
  ·obtain⟨sl,e1⟩:=I.base.slot b o e n hb hx;exact⟨sl,(hs.2 b (Ms (M5 (LK e) (I.ok.RJ x c Zc hc)))).trans e1⟩
  ·obtain⟨o',e1⟩:=I.base.there b o e hx;exact⟨o',(hs.2 b (Ms (M5 (LK e) (I.ok.RJ x c Zc hc)))).trans e1⟩
  ·by_cases hj:j=i
   ·subst hj;rw[hi]at e1;cases e1;rw[Ou WD]at e2;cases e2;exact⟨u,r,.inr ⟨.inl hk,c,hc,PU⟩⟩
   ·rw[NK (Ne.symm hj)]at e2;obtain⟨u',r',q⟩:=hl j y v' e1 e2 e3;refine⟨u',r',?_⟩;rcases q with q|⟨k,c',e,z'⟩
    ·exact .inl q
    ·refine .inr ⟨k,c',e,z'.sameBut hs ?_⟩;rintro rfl;exact hj (wI hN e1 (I.ok.inj _ _ _ e hc ▸ hi))
  ·by_cases OB:c'=c
   ·subst OB;exact⟨_,PU⟩
   ·obtain⟨w2,z2⟩:=I.cell y c' e;exact⟨w2,z2.sameBut hs OB⟩
  ·obtain⟨e,n,ne,nf,d⟩:=I.pin p hp;refine⟨(hs.2 p.1 ?_).trans e,n,ne,nf,d⟩;intro q;rw[q,hoc]at e;have q':oc=p.2:=Ol e;exact d w' (by rw[<- q'];exact Zd)
def gf{i:Nat}{x:Str}{Q:Unit->Shared->Prop}(I:Inv X pins σ H s)(hN:X.N.Nodup)(hi:X.N[i]?=some x)(hx:Loc X.env.scope x)(r:RelV v u)
  (h:∀s',Inv X pins (σ.set i (some v)) H s'->Q () s') (hf:X.fn x=true∨X.env.scope.names.lookup x=some .local:=by first|exact .inl rfl|exact .inr rfl|assumption):wpAny M A (storeName X.env x u) Q E s :=
 ki I hN hi hx r (fun s' I' _=>h s' I') hf
def Inv.RK{s':Shared}(I:Inv X pins σ H s)(ho:s'.os=s.os)(u:Un (OU X.stack) ch H H' s.heap s'.heap)(Lu:M9 X.prog X.w H' s'.heap)(hg:AllBare s'.gens)
  (Ru:∀b∈ch,(b∈X.ex∨X.Lq.heap.objs.size<=b)/\b≠X.env.locals/\(∀x c,X.env.cells.lookup x=some c->c≠b)/\∀p∈X.pn++pins,p.1≠b):Inv X pins σ H' s':=by
 obtain⟨h',g',d',t',o'⟩:=s';have e:o'=s.os:=ho;subst e;exact I.call (g':=g') (t':=t') (d':=d') u Lu hg Ru
end
abbrev XK:=Value->Option Addr->Hp->Prop
abbrev St:=List (Option V)
abbrev VK:=V->Hp->Prop
abbrev TE:=St->Hp->VK->Prop
abbrev TT:=St->Hp->(Bool->Hp->Prop)->Prop
abbrev TA:=St->Hp->(yaq->Hp->Prop)->Prop
structure Ends where
 nx:St->Hp->Prop
 rt:VK
 bk:St->Hp->Prop:=fun _ _=>False
 ct:St->Hp->Prop:=fun _ _=>False
abbrev TS:=Ends->St->Hp->Prop
def EP(X:Cx)(pins:yab)(σ:St)(Q:VK)(u:Value)(s':Shared):Prop:=∃v H',Inv X pins σ H' s'/\RelV v u/\Q v H'
def AP(X:Cx)(pins:yab)(σ:St)(Q:yaq->Hp->Prop)(us:yad)(s':Shared):Prop:=∃vs H',Inv X pins σ H' s'/\Vals vs us/\Q vs H'
def SP(X:Cx)(pins:yab)(D:Ends)(f:Flow)(s':Shared):Prop :=
 match f with
 |.next=>∃LH H',Inv X pins LH H' s'/\D.nx LH H'
 |.brk=>∃LH H',Inv X pins LH H' s'/\D.bk LH H'
 |.cont=>∃LH H',Inv X pins LH H' s'/\D.ct LH H'
 |.ret u=>∃v LH H',Inv X pins LH H' s'/\RelV v u/\D.rt v H'
def PE(X:Cx)(e:Expr)(t:TE):Prop :=
 ∀ (pins:yab) (s:Shared) (σ:St) (H:Hp) (Q:VK),Inv X pins σ H s->t σ H Q->wpAny (model X.prog X.w) X.A (eval e X.env) (EP X pins σ Q) X.xe s
def PA(X:Cx)(es:yai)(t:TA):Prop :=
 ∀ (pos:Pos) (pins:yab) (s:Shared) (σ:St) (H:Hp) (Q:yaq->Hp->Prop),Inv X pins σ H s->t σ H Q->wpAny (model X.prog X.w) X.A (spliced (backTo pos (starEach es X.env))) (AP X pins σ Q) X.xe s
def PS(X:Cx)(st:Stmt)(t:TS):Prop :=
 ∀ (pins:yab) (s:Shared) (σ:St) (H:Hp) (D:Ends),Inv X pins σ H s->t D σ H->wpAny (model X.prog X.w) X.A (exec st X.env) (SP X pins D) X.xe s
def PSs(X:Cx)(st:List Stmt)(t:TS):Prop :=
 ∀ (pins:yab) (s:Shared) (σ:St) (H:Hp) (D:Ends),Inv X pins σ H s->t D σ H->wpAny (model X.prog X.w) X.A (execs st X.env) (SP X pins D) X.xe s
def Lj{α:Type}{t:Sem α}{Q Q':α->Shared->Prop}{M:Model}{A:Around}{E:yaa}{s:Shared}(h:wpAny M A t Q E s)(hQ:∀a s,Q a s->Q' a s):wpAny M A t Q' E s:=OT h hQ fun _ _ x=>x
section
variable{X:Cx}
def Js(i:Nat):TE:=fun σ H Q=>∃v,σ[i]?=some (some v)/\Q v H
def tC(v:V):TE:=fun _ H Q=>Q v H
def iF {i:Nat} {x:Str} (hN:X.N[i]?=some x) (hv:Rt X.env.scope x) (hd:(x==("__debug__" : Str))=false:=by decide) (Oa:(x==("__classdict__" : Str))=false:=by decide):PE X (.Name x pos) (Js i):=by
 intro pins s σ H Q I h;obtain⟨v,e,h⟩:=h;obtain⟨m,hn,hl⟩:=I.loc;obtain⟨u,r,l⟩:=hl i x v hN e hv;have fin:EP X pins σ Q u s:=⟨v,H,I,r,h⟩;rcases l with⟨hk,hm⟩| ⟨hk,c,hc,QM⟩
 ·exact wpAny_Name (wpAny_loadName_local I.ok.kind hk hn hm fin) hd
 ·rcases hk with hk|hk
  ·exact wpAny_Name (wpAny_loadName_cell I.ok.kind hk hc QM fin) hd
  ·exact wpAny_Name (wpAny_loadName_free I.ok.kind hk hc QM fin Oa) hd
def IW{i j pos}:PE X (.Constant (.int i) j pos) (tC (.int i)):=fun _ _ _ H _ I h=>wpAny_Constant_int ⟨.int i,H,I.tok _,⟨_,rfl⟩,h⟩
def JZ{b j pos}:PE X (.Constant (.bool b) j pos) (tC (.bl b)):=fun _ _ _ H _ I h=>Constant_bool ⟨.bl b,H,I,rfl,h⟩
def IX{j pos}:PE X (.Constant .none j pos) (tC .LJ):=fun _ _ _ H _ I h=>Constant_none ⟨.LJ,H,I,rfl,h⟩
def IY{x j pos}:PE X (.Constant (.str x) j pos) (tC (.str x)):=fun _ _ _ H _ I h=>Calls.Constant_str ⟨.str x,H,I.tok _,⟨_,rfl⟩,h⟩
def Gl(X:Cx)(x:Str):Prop:=X.env.kindOf x=some .globalImplicit
def FR{u:Value}{Q:yaa}(I:Inv X pins σ H s)(hg:Gl X x)(hm:X.mg x=some u)(h:Q u s)
  (hd:(x==("__debug__" : Str))=false:=by decide):wpAny (model X.prog X.w) X.A (eval (.Name x pos) X.env) Q E s :=
 Calls.Name_function_global I.ok.kind hg (Calls.loadGlobal_global (by rw[I.ok.glob];exact I.mod.glob.keeps I.bk) hm h) hd
def df{u:Value}{Q:yaa}(I:Inv X pins σ H s)(hg:Gl X x)(hm:X.mg x=none)(hv:bootBuiltins x=some u)(h:Q u s)
  (hn:x ≠ "__name__" := by decide) (hd:(x==("__debug__" : Str))=false:=by decide):wpAny (model X.prog X.w) X.A (eval (.Name x pos) X.env) Q E s:=by
 obtain⟨mb,h1,h2⟩:=I.mod.blt;exact Calls.Name_function_global I.ok.kind hg (Calls.loadGlobal_builtin (by rw[I.ok.glob];exact I.mod.glob.keeps I.bk) hm (by rw[I.ok.blt];exact h1.keeps I.bk) ((h2 x hn).trans hv) h) hd
def Gi {u:Value} (hg:Gl X x) (hm:X.mg x=none) (hv:bootBuiltins x=some u) (r:RelV v u) (hn:x ≠ "__name__" := by decide) (hd:(x==("__debug__" : Str))=false:=by decide):PE X (.Name x pos) (tC v) :=
 fun _ _ _ H _ I h=>df I hg hm hv ⟨v,H,I,r,h⟩ hn hd
variable{a b:Expr}{ta tb:TE}{pos:Pos}
def wH(b:Expr){op:CmpOp}(h:op ≠ .In)(h2:op ≠ .NotIn):behindInMarks op b=false:=by
 have e1:(op==CmpOp.In)=false:=by cases op<;>first|rfl|exact absurd rfl h
 have e2:(op==CmpOp.NotIn)=false:=by cases op<;>first|rfl|exact absurd rfl h2
 cases b<;>simp[behindInMarks,e1,e2]
variable{tA WE:TT}{rest:yai}
end
def SqL(K:yac)(H:Hp)(a:Addr)(xs:yaq):Prop :=
 Rd H a (.lst xs) ∨
  ∃ (o:Obj) (K9:yan) (n:Nat),K.lookup a=some o/\o.cls=.type "list" /\ o.dict=none/\o.data=.seq K9 n/\K9.size<=sizeLine/\Vals xs K9.toList
def LO(K:yac)(H:Hp)(a:Addr)(xs:yaq):Prop :=
 Rd H a (.tup xs) ∨
  ∃ (o:Obj) (K9:yan) (n:Nat),K.lookup a=some o/\o.cls=.type "tuple" /\ o.data=.seq K9 n/\K9.size<=sizeLine/\Vals xs K9.toList
def Kf:Value->Option V
 |.none=>some .LJ
 |.bool b=>some (.bl b)
 |.int i _=>some (.int i)
 |.str x _=>some (.str x)
 |.bytes b _=>some (.RI b)
 |.float b _=>some (.Wy b)
 |.ref a=>some (.ref a)
 |.type n=>some (.ty n)
 |_=>none
def RelV.abs(r:RelV x u):Kf u=some x:=by
 cases x with
 |LJ=>cases r;rfl
 |bl _=>cases r;rfl
 |int _=>obtain⟨t,rfl⟩:=r;rfl
 |str _=>obtain⟨t,rfl⟩:=r;rfl
 |RI _=>obtain⟨t,rfl⟩:=r;rfl
 |Wy _=>obtain⟨t,rfl⟩:=r;rfl
 |ref _=>cases r;rfl
 |ty _=>cases r;rfl
theorem RelV.inj(r:RelV x u)(q:RelV y u):x=y:=Ol (r.abs.symm.trans q.abs)
theorem Vals.inj:∀{xs ys:yaq} {us:yad},Vals xs us->Vals ys us->xs=ys
 |_,_,_,.nil,.nil=>rfl
 |_,_,_,.cons r t,.cons r' t'=>by rw[r.inj r',Vals.inj t t']
section
variable{X:Cx}{pins:yab}{σ:St}{H:Hp}{s:Shared}{a:Addr}{xs ys:yaq}
def SqL.of{K:yac}(h:H a=some (.lst xs)):SqL K H a xs:=.inl (.inl h)
def LO.of{K:yac}(h:H a=some (.tup xs)):LO K H a xs:=.inl (.inl h)
def Inv.list(I:Inv X pins σ H s)(h:SqL X.K H a xs):∃K9:yad,Vals xs K9/\PlainL s.heap a K9.toArray/\xs.length<=sizeLine:=by
 rcases h with h|⟨o,K9,n,hk,hc,hd,hs,hz,r⟩
 ·obtain⟨z,K9,n,r,e⟩:=h.ok I.Lu;exact⟨K9,r,⟨_,n,e,rfl,rfl,rfl⟩,z⟩
 ·refine⟨K9.toList,r,⟨o,n,I.PQ a o hk,hc,hd,by simpa using hs⟩,?_⟩;have e:=r.length;simp only[NV]at e
  lia
def Inv.tuple(I:Inv X pins σ H s)(h:LO X.K H a xs):∃K9:yad,Vals xs K9/\IsTup s.heap a K9.toArray/\xs.length<=sizeLine:=by
 rcases h with h|⟨o,K9,n,hk,hc,hs,hz,r⟩
 ·obtain⟨z,K9,r,p⟩:=h.ok I.Lu;exact⟨K9,r,p,z⟩
 ·refine⟨K9.toList,r,⟨o,I.PQ a o hk,hc,n,by simpa using hs⟩,?_⟩;have e:=r.length;simp only[NV]at e
  lia
def Inv.OC(I:Inv X pins σ H s)(h:SqL X.K H a xs)(h':SqL X.K H a ys):xs=ys:=by
 obtain⟨K9,r,⟨o,n,e,_,_,d⟩,_⟩:=I.list h;obtain⟨its',r',⟨o',n',e',_,_,d'⟩,_⟩:=I.list h';rw[e]at e';cases e';rw[d]at d';injection d' with d1 _;have:K9=its':=by simpa using congrArg Array.toList d1
 subst this;exact r.inj r'
def Inv.O9(I:Inv X pins σ H s)(h:LO X.K H a xs)(h':LO X.K H a ys):xs=ys:=by
 obtain⟨K9,r,⟨o,e,_,n,d⟩,_⟩:=I.tuple h;obtain⟨its',r',⟨o',e',_,n',d'⟩,_⟩:=I.tuple h';rw[e]at e';cases e';rw[d]at d';injection d' with d1 _;have:K9=its':=by simpa using congrArg Array.toList d1
 subst this;exact r.inj r'
end
abbrev Cx.wish(X:Cx)(E:yaa):Cx:={X with xe:=E}
abbrev Cx.Yt(X:Cx):Cx:=X.wish fun _ _=>False
theorem Cx.Ok.wish{X:Cx}(ok:X.Ok)(E:yaa):(X.wish E).Ok :=
 ⟨ok.mod,ok.kind,ok.glob,ok.blt,ok.above,ok.inj,ok.has,ok.RJ,ok.hd,ok.frames,ok.Yr,ok.exf,ok.bs,ok.UK,ok.Q5,ok.SY,ok.Of,ok.UL⟩
def Cx.Ok.MS{X:Cx}(ok:(X.wish E).Ok):X.Ok :=
 ⟨ok.mod,ok.kind,ok.glob,ok.blt,ok.above,ok.inj,ok.has,ok.RJ,ok.hd,ok.frames,ok.Yr,ok.exf,ok.bs,ok.UK,ok.Q5,ok.SY,ok.Of,ok.UL⟩
section
variable{X:Cx}{pins:yab}{σ:St}{H:Hp}{s:Shared}{E:yaa}
theorem Inv.wish(I:Inv X pins σ H s)(E:yaa):Inv (X.wish E) pins σ H s:=⟨I.ok.wish E,I.os,I.bare,I.base,I.loc,I.cell,I.free,I.Nr,I.pin,I.Lu,I.len⟩
theorem Inv.MS(I:Inv (X.wish E) pins σ H s):Inv X pins σ H s:=⟨I.ok.MS,I.os,I.bare,I.base,I.loc,I.cell,I.free,I.Nr,I.pin,I.Lu,I.len⟩
end
section
variable{X:Cx}{st:Stmt}{rest:List Stmt}{t u:TS}{e:Expr}{te:TE}{pos:Pos}
def Inv.quiet(I:Inv X pins σ H s):interactive X.env=false:=by simp[interactive,I.ok.kind]
def J8(te:TE):TS:=fun D σ H=>te σ H fun _ H1=>D.nx σ H1
def oU(he:PE X e te)(hs:swapsWith e none pos.line X.env=pure false:=by rfl):PS X (.Expr e pos) (J8 te):=by intro pins s σ H D I h;exact wpAny_Expr_any (Lj (he pins s σ H _ I h) fun v s1 ⟨x,H1,I1,r1,q1⟩=>⟨σ,H1,I1,q1⟩) I.quiet hs
end
abbrev TIp:=V->V->Hp->VK->Prop
def Ze(X:Cx)(op:Operator)(t:TIp):Prop :=
 ∀ (pins:yab) (s:Shared) (σ:St) (H:Hp) (x y:V) (v u:Value) (Q:VK),Inv X pins σ H s->RelV x v->RelV y u->t x y H Q →
  wpAny (model X.prog X.w) X.A (inplaceOp op v u) (EP X pins σ Q) X.xe s
section
variable{X:Cx}{pos:Pos}
def KN(i j:Nat)(ta:TA):TS:=fun D σ H=>ta σ H fun vs H1=>∃v w,vs=[v,w]/\D.nx ((σ.set i (some v)).set j (some w)) H1
def Jc{i j:Nat}{x y:Str}{a b:Expr}{ta:TA}{px py pt:Pos}{kt k2 UO}(hc:X.calm=true)(hN:X.N.Nodup)(hi:X.N[i]?=some x)(hj:X.N[j]?=some y)(MQ:i≠j)
  (hx:X.env.scope.names.lookup x=some .local) (hy:X.env.scope.names.lookup y=some .local) (ha:PA X [a,b] ta)
  (hw:swappedStores [.Tuple [.Name x px,.Name y py] kt pt] (.Tuple [a,b] k2 UO) X.env=pure (some [x,y]))
  (hs:swapsWithSole [.Tuple [.Name x px,.Name y py] kt pt] (.Tuple [a,b] k2 UO) pos.line X.env=pure false:=by rfl) :
  PS X (.Assign [.Tuple [.Name x px,.Name y py] kt pt] (.Tuple [a,b] k2 UO) pos) (KN i j ta):=by
 intro pins s σ H D I h;rw[exec_Assign_arm];refine K1 (VN ?_);rw[hs];refine K1 (Le ?_);rw[K3 (by decide)];refine K1 (Tuple_ (Lj (ha _ pins s σ H _ I h) fun us s1 ⟨vs,H1,I1,r1,q1⟩=>?_));obtain⟨v,w,e1,q1⟩:=q1;subst e1;obtain⟨u1,u2,rfl,rv,Q6⟩:∃u1 u2,us=[u1,u2]/\RelV v u1/\RelV w u2:=by
  cases r1 with
  |cons p q =>
   cases q with
   |cons p' q' =>
    cases q';exact⟨_,_,rfl,p,p'⟩
 refine Rk ?_ (by show 2<=sizeLine;decide);have I2:Inv X pins σ H1 {s1 with heap:=s1.heap.push {cls:=.type "tuple", data:=.seq [u1,u2].toArray} }:=I1.kept (t':=s1.toks) fun b o e=>Mb _ e
 rw[hw];refine K1 (Le ?_);show wpAny (model X.prog X.w) X.A (do rule "assign.swapped-stores"; let items←unpackItems (.ref s1.heap.objs.size) 2 none;assignInOrder [fun v=>bindName X.env y v,fun v=>bindName X.env x v] items.reverse;pure Flow.next) _ _ _;refine K1 (wpAny_rule (K1 (unpackItems_tuple (items:=#[u1,u2]) (I.ok.hd hc) (IsTup.new s1.heap _) fun h' OV=>?_)));have I3:=I2.kept (h':=h') (t':=s1.toks) fun b o e=>OV b o (Ms (LK e)) e
 show wpAny _ _ (assignInOrder [fun v=>bindName X.env y v,fun v=>bindName X.env x v] [u2,u1] >>= fun _=>pure Flow.next) _ _ _;refine K1 (assignInOrder_cons (wpAny_bindName (gf I3 hN hj (.inl hy) Q6 (fun s2 I4=>?_) (.inr hy))));refine assignInOrder_cons (wpAny_bindName (gf I4 hN hi (.inl hx) rv (fun s3 I5=>assignInOrder_nil (Le ?_)) (.inr hx)));rw[List.set_comm _ _ (Ne.symm MQ)]at I5;exact⟨_,H1,I5,q1⟩
def KJ(i:Nat)(te:TE)(ti:TIp):TS:=fun D σ H=>∃x,σ[i]?=some (some x)/\te σ H fun y H1=>ti x y H1 fun z H2=>D.nx (σ.set i (some z)) H2
def Jb{i:Nat}{x:Str}{e:Expr}{te:TE}{op:Operator}{ti:TIp}{pos':Pos}(hN:X.N.Nodup)(hi:X.N[i]?=some x)(hx:Loc X.env.scope x)(he:PE X e te)(ho:Ze X op ti)(hf:X.fn x=true∨X.env.scope.names.lookup x=some .local:=by first|exact .inl rfl|exact .inr rfl|assumption) :
  PS X (.AugAssign (.Name x pos') op e pos) (KJ i te ti):=by
 intro pins s σ H D I h;obtain⟨v,e1,h⟩:=h;obtain⟨m,hn,hl⟩:=I.loc;have vis:Rt X.env.scope x:=by rcases hx with k|k;exact .inl k;exact .inr (.inl k)
 obtain⟨u,r,l⟩:=hl i x v hi e1 vis;refine wpAny_AugAssign_Name ?_;have go:wpAny (model X.prog X.w) X.A (eval e X.env) (fun w K6=>wpAny (model X.prog X.w) X.A (inplaceOp op u w) (fun r Ny=>wpAny (model X.prog X.w) X.A (storeName X.env x r) (fun _=>SP X pins D .next) X.xe Ny) X.xe K6) X.xe s:=by
  refine Lj (he pins s σ H _ I h) fun w s1 ⟨y,H1,I1,r1,q1⟩=>?_
  refine Lj (ho pins s1 σ H1 v y u w _ I1 r r1 q1) fun z s2 ⟨zv,H2,I2,r2,q2⟩=>?_
  exact gf I2 hN hi hx r2 (fun s3 I3=>⟨_,H2,I3,q2⟩) hf
 rcases l with⟨hk,hm⟩| ⟨hk,c,hc,QM⟩
 ·exact wpAny_loadName_local I.ok.kind hk hn hm go
 ·rcases hk with hk|hk
  ·exact wpAny_loadName_cell I.ok.kind hk hc QM go
  ·rcases hx with k|k
   ·have:X.env.scope.names.lookup x=some .free:=hk;rw[k]at this;cases this
   ·have:X.env.scope.names.lookup x=some .free:=hk;rw[k]at this;cases this
def ipI(f:Int->Int->Int):TIp:=fun x y H Q=>∃i j,x=.int i/\y=.int j/\Q (.int (f i j)) H
def Ir:Ze X .Add (ipI fun i j=>i+j):=by intro pins s σ H x y v u Q I r1 r2 h;obtain⟨i,j,e1,e2,q⟩:=h;subst e1;subst e2;obtain⟨t,rfl⟩:=r1;obtain⟨t',rfl⟩:=r2;exact iadd_int ⟨.int _,H,I.tok _,⟨_,rfl⟩,q⟩
end
structure It where
 go:Nat->Hp->Prop
 yld:Nat->Hp->V->Hp->Prop
 stop:Nat->Hp->Prop
def fu(X:Cx)(pins:yab)(H:Hp)(b:Addr):Prop :=
 H b=none/\b≠X.env.locals/\b∉X.fs/\(b∈X.ex∨X.Lq.heap.objs.size<=b)/\(∀x c,X.env.cells.lookup x=some c->c≠b)/\∀p∈X.pn++pins,p.1≠b
def Inv.RL{H':Hp}{b:Addr}(I:Inv X pins σ H s)(hb:s.heap.objs.size<=b)(hn:H' b=none):fu X pins H' b:=by
 refine⟨hn,Qe (M5 I.lt hb),I.Y8 hb,.inr (NW I.sz hb),fun x c e z=>?_,fun p hp z=>?_⟩
 ·obtain⟨v,q⟩:=I.cell x c e;exact absurd (M5 q.lt (by rw[z];exact hb)) (Ql _)
 ·exact absurd (M5 (LK (I.pin p hp).1) (by rw[z];exact hb)) (Ql _)
structure Turn(P:Program)(w:World)(K:yac)(tg:Expr)(J:It)(fp:yae)(it:Addr)(tn:Nat->Heap->Prop):Prop where
 mem:it∈fp
 obj:∀i h,tn i h->∀b∈fp,∃o,h.get? b=some o/\∀v,o.data ≠ .cell v
 keep:∀i h h',tn i h->(∀b∈fp,∀o,h.get? b=some o->h'.get? b=some o)->tn i h'
 item:∀(X:Cx),X.prog=P->X.w=w->X.K=K->X.calm=true->∀(i:Nat) (pins:yab) (s:Shared) (σ:St) (H:Hp) (E:yaa),Inv X pins σ H s->(∀b∈fp,fu X pins H b)->tn i s.heap->J.go i H →
  wpAny (model P w) X.A (pyNext (.ref it)) (fun r s1=>∃u,r=some u ∧
   wpAny (model P w) X.A (letOwnedTupleGo tg (.ref it) u) (fun _ s2=>∃x H',Inv X pins σ H' s2/\RelV x u/\J.yld i H x H'/\tn (i+1) s2.heap/\∀b∈fp,H' b=none) E s1) E s
 done:∀(X:Cx),X.prog=P->X.w=w->X.K=K->X.calm=true->∀(i:Nat) (pins:yab) (s:Shared) (σ:St) (H:Hp) (E:yaa),Inv X pins σ H s->(∀b∈fp,fu X pins H b)->tn i s.heap->J.stop i H →
  wpAny (model P w) X.A (pyNext (.ref it)) (fun r s1=>r=none/\Inv X pins σ H s1) E s
 self:∀(A:Around) (i:Nat) (s:Shared) (Q:yaa) (E:yaa),tn i s.heap->Q (.ref it) s->wpAny (model P w) A (pyIter (.ref it)) Q E s
abbrev TI:=St->Hp->(It->Hp->Prop)->Prop
def PIE(X:Cx)(pins:yab)(σ:St)(tg:Expr)(R:It->Hp->Prop)(QN:Value)(s2:Shared):Prop :=
 ∃ (it:Addr) (fp:yae) (tn:Nat->Heap->Prop) (J:It) (H':Hp),QN=.ref it/\Inv X pins σ H' s2/\Turn X.prog X.w X.K tg J fp it tn/\tn 0 s2.heap/\(∀b∈fp,fu X pins H' b)/\R J H'
def PI(X:Cx)(tg iter:Expr)(wi:TI):Prop :=
 ∀ (pins:yab) (s:Shared) (σ:St) (H:Hp) (R:It->Hp->Prop),Inv X pins σ H s->wi σ H R →
  wpAny (model X.prog X.w) X.A (eval iter X.env) (fun v s1=>wpAny (model X.prog X.w) X.A (pyIter v) (PIE X pins σ tg R) X.xe s1) X.xe s
def zV {s : Shared} {o : Obj} {Q : Unit -> Shared -> Prop} (ho : s.heap.get? it = some o) (hc : o.cls = .type n) (hd : o.data = .fields vs)
    (hn : ["enumerate", "zip", "dict_itemiterator", "dict_reverseitemiterator", "odict_iterator", "itertools.zip_longest", "itertools.pairwise"].contains n = false) (hQ : Q () s) : wpAny M A (letOwnedTupleGo tg (.ref it) u) Q E s := by
  unfold letOwnedTupleGo;cases tg <;> first
    | exact Le hQ
    | (cases u <;> first
        | exact Le hQ
        | (refine K1 (wpAny_load ho ?_)
           rw [hc, hd];show wpAny M A (if (["enumerate", "zip", "dict_itemiterator", "dict_reverseitemiterator", "odict_iterator", "itertools.zip_longest", "itertools.pairwise"].contains n && vs[0]? == some (rawInt _)) = true then _ else _) Q E s;rw [K3 (by intro h; rw [hn, Bool.false_and] at h; cases h)];exact Le hQ))
def Itl(K:yac)(a:Addr):It :=
 ⟨fun i H=>∃xs x,SqL K H a xs/\xs[i]?=some x,fun i H x H'=>H'=H/\∀xs,SqL K H a xs->xs[i]?=some x,fun i H=>∃xs,SqL K H a xs/\xs.length<=i⟩
def Itt(K:yac)(a:Addr):It :=
 ⟨fun i H=>∃xs x,LO K H a xs/\xs[i]?=some x,fun i H x H'=>H'=H/\∀xs,LO K H a xs->xs[i]?=some x,fun i H=>∃xs,LO K H a xs/\xs.length<=i⟩
def Ct{P:Program}{w:World}{K:yac}{tg:Expr}(a it:Addr):Turn P w K tg (Itl K a) [it] it (fun i h=>h.IsListIter it a i) where
 mem:=by simp
 obj:=fun i h st b hb=>by
  have e:b=it:=by simpa using hb
  subst e;obtain⟨o,e,c,d⟩:=st;exact⟨o,e,fun v z=>by rw[d]at z;cases z⟩
 keep:=fun i h h' st k=>st.at fun o e=>k it (by simp) o e
 item:=by
  intro X hP hw hK hc i pins s σ H E I hf st hg;subst hP hw hK;obtain⟨xs,x,hq,hx⟩:=hg;obtain⟨K9,rv,p,hz⟩:=I.list hq;obtain⟨u,hu,ru⟩:=rv.get hx;obtain⟨f0,f1,f2,f3,f4,f5⟩:=hf it (by simp);refine wpAny_pyNext_list_item st p.isList (x:=u) (by simpa using hu) fun h' Om sb=>?_
  have I1:Inv X pins σ H {s with heap:=h'}:=I.turned (t':=s.toks) (fun b o hb e=>(sb.2 b hb).trans e) f0 f1 f3 f4 f5;obtain⟨o,e,c,d⟩:=id Om;exact⟨u,rfl,zV (s:={s with heap:=h'}) e c d (by decide) ⟨x,H,I1,ru,⟨rfl,fun ys hy=>by rw[I.OC hy hq];exact hx⟩,Om,fun b hb=>(hf b hb).1⟩⟩
 done:=by intro X hP hw hK hc i pins s σ H E I hf st hg;subst hP hw hK;obtain⟨xs,hq,hx⟩:=hg;obtain⟨K9,rv,p,hz⟩:=I.list hq;obtain⟨f0,f1,f2,f3,f4,f5⟩:=hf it (by simp);have hl:=rv.length;exact wpAny_pyNext_list_end (I.ok.hd hc) st p.isList (by simp;lia) fun h' eb=>⟨rfl,I.turned (t':=s.toks) (fun b o hb e=>eb b o hb e) f0 f1 f3 f4 f5⟩
 self:=fun _ _ _ _ _ st h=>wpAny_pyIter_listiter st h
def AD{P:Program}{w:World}{K:yac}{tg:Expr}(a it:Addr):Turn P w K tg (Itt K a) [it] it (fun i h=>h.IsTupleIter it a i) where
 mem:=by simp
 obj:=fun i h st b hb=>by
  have e:b=it:=by simpa using hb
  subst e;obtain⟨o,e,c,d⟩:=st;exact⟨o,e,fun v z=>by rw[d]at z;cases z⟩
 keep:=fun i h h' st k=>st.at fun o e=>k it (by simp) o e
 item:=by
  intro X hP hw hK hc i pins s σ H E I hf st hg;subst hP hw hK;obtain⟨xs,x,hq,hx⟩:=hg;obtain⟨K9,rv,p,hz⟩:=I.tuple hq;obtain⟨u,hu,ru⟩:=rv.get hx;obtain⟨f0,f1,f2,f3,f4,f5⟩:=hf it (by simp);refine wpAny_pyNext_tuple_item st (show s.heap.IsTuple a K9.toArray from p) (x:=u) (by simpa using hu) fun h' Om sb=>?_
  have I1:Inv X pins σ H {s with heap:=h'}:=I.turned (t':=s.toks) (fun b o hb e=>(sb.2 b hb).trans e) f0 f1 f3 f4 f5;obtain⟨o,e,c,d⟩:=id Om;exact⟨u,rfl,zV (s:={s with heap:=h'}) e c d (by decide) ⟨x,H,I1,ru,⟨rfl,fun ys hy=>by rw[I.O9 hy hq];exact hx⟩,Om,fun b hb=>(hf b hb).1⟩⟩
 done:=by intro X hP hw hK hc i pins s σ H E I hf st hg;subst hP hw hK;obtain⟨xs,hq,hx⟩:=hg;obtain⟨K9,rv,p,hz⟩:=I.tuple hq;obtain⟨f0,f1,f2,f3,f4,f5⟩:=hf it (by simp);have hl:=rv.length;exact wpAny_pyNext_tuple_end (I.ok.hd hc) st (show s.heap.IsTuple a K9.toArray from p) (by simp;lia) fun h' eb=>⟨rfl,I.turned (t':=s.toks) (fun b o hb e=>eb b o hb e) f0 f1 f3 f4 f5⟩
 self:=fun _ _ _ _ _ st h=>wpAny_pyIter_tupleiter st h
section
variable{X:Cx}{tg:Expr}
def JO(K:yac)(tl:TE):TI:=fun σ H R=>tl σ H fun x H1=>∃a,x=.ref a/\(∃xs,SqL K H1 a xs)/\R (Itl K a) H1
def Kq(K:yac)(tl:TE):TI:=fun σ H R=>tl σ H fun x H1=>∃a,x=.ref a/\(∃xs,LO K H1 a xs)/\R (Itt K a) H1
def Gk{l:Expr}{tl:TE}(hl:PE X l tl):PI X tg l (JO X.K tl):=by
 intro pins s σ H R I h;refine Lj (hl pins s σ H _ I h) fun v s1 ⟨x,H1,I1,r1,q1⟩=>?_
 obtain⟨a,e,⟨xs,hq⟩,q⟩:=q1;subst e;cases r1;obtain⟨K9,rv,p,hz⟩:=I1.list hq;refine wpAny_pyIter_list p.isList ?_;refine⟨s1.heap.objs.size,[s1.heap.objs.size],_,_,H1,rfl,I1.kept (t':=s1.toks) fun b o e=>Mb _ e,Ct a _,⟨_,Nw _ rfl,rfl,rfl⟩,fun b hb=>?_,q⟩;have e:b=s1.heap.objs.size:=by simpa using hb
 subst e;exact I1.RL (LG _) (I1.Lu.fresh (LG _))
def IZ{l:Expr}{tl:TE}(hl:PE X l tl):PI X tg l (Kq X.K tl):=by
 intro pins s σ H R I h;refine Lj (hl pins s σ H _ I h) fun v s1 ⟨x,H1,I1,r1,q1⟩=>?_
 obtain⟨a,e,⟨xs,hq⟩,q⟩:=q1;subst e;cases r1;obtain⟨K9,rv,p,hz⟩:=I1.tuple hq;refine wpAny_pyIter_tuple (show s1.heap.IsTuple a K9.toArray from p) ?_;refine⟨s1.heap.objs.size,[s1.heap.objs.size],_,_,H1,rfl,I1.kept (t':=s1.toks) fun b o e=>Mb _ e,AD a _,⟨_,Nw _ rfl,rfl,rfl⟩,fun b hb=>?_,q⟩;have e:b=s1.heap.objs.size:=by simpa using hb
 subst e;exact I1.RL (LG _) (I1.Lu.fresh (LG _))
def rE(fp:yae)(h:Heap):yab:=fp.filterMap fun b=>(h.get? b).map fun o=>(b,o)
def ji{fp:yae}{h:Heap}{b:Addr}{o:Obj}(hb:b∈fp)(e:h.get? b=some o):(b,o)∈rE fp h:=Wm.mpr ⟨b,hb,by rw[e];rfl⟩
def BK{p:Addr×Obj}(hp:p∈rE fp h):p.1∈fp/\h.get? p.1=some p.2:=by
 obtain⟨b,hb,e⟩:=Wm.mp hp;cases q:h.get? b with
 |none=>rw[q]at e;cases e
 |some o =>
  rw[q]at e;have e':(b,o)=p:=Ol e;subst e';exact⟨hb,q⟩
def Inv.pinned{fp:yae}(I:Inv X pins σ H s)(hf:∀b∈fp,fu X pins H b)(ho:∀b∈fp,∃o,s.heap.get? b=some o/\∀v,o.data ≠ .cell v):Inv X (pins++rE fp s.heap) σ H s :=
 I.QL fun p hp=>(Mc.mp hp).elim (fun z=>I.pin p (Oi _ z)) fun z=>by obtain⟨hb,e⟩:=BK z;obtain⟨f0,f1,f2,_⟩:=hf p.1 hb;obtain⟨o,e',d⟩:=ho p.1 hb;rw[e]at e';cases e';exact⟨e,f0,f1,f2,d⟩
def Inv.Nb{pins pl:yab}(I:Inv X (pins++pl) σ H s):Inv X pins σ H s:=I.QL fun p hp=>I.pin p (Oi _ (Qi _ hp))
end
abbrev R2:=V->V->Hp->VK->Prop
def Pa(X:Cx)(f:Value->Value->Sem Value)(r:R2):Prop :=
 ∀ (pins:yab) (s:Shared) (σ:St) (H:Hp) (x y:V) (v u:Value) (Q:VK),Inv X pins σ H s->RelV x v->RelV y u->r x y H Q →
  wpAny (model X.prog X.w) X.A (f v u) (EP X pins σ Q) X.xe s
def Zf(X:Cx)(f:Value->Sem Value)(r:V->Hp->VK->Prop):Prop :=
 ∀ (pins:yab) (s:Shared) (σ:St) (H:Hp) (x:V) (v:Value) (Q:VK),Inv X pins σ H s->RelV x v->r x H Q →
  wpAny (model X.prog X.w) X.A (f v) (EP X pins σ Q) X.xe s
def oh(X:Cx)(f:Value)(r:yaq->Hp->VK->Prop):Prop :=
 ∀ (pins:yab) (s:Shared) (σ:St) (H:Hp) (xs:yaq) (us:yad) (Q:VK),Inv X pins σ H s->Vals xs us->r xs H Q →
  wpAny (model X.prog X.w) X.A (call f us) (EP X pins σ Q) X.xe s
def tOp(r:R2)(ta tb:TE):TE:=fun σ H Q=>ta σ H fun x H1=>tb σ H1 fun y H2=>r x y H2 Q
def rI(C:Int->Int->Prop)(g:Int->Int->V):R2:=fun x y H Q=>∃i j,x=.int i/\y=.int j/\C i j/\Q (g i j) H
def Su(g:Int->Int->V):R2:=fun x y H Q=>∃i j,x=.int i/\y=.int j/\Q (g i j) H
def rU(g:Int->V):V->Hp->VK->Prop:=fun x H Q=>∃i,x=.int i/\Q (g i) H
section
variable{X:Cx}{a b c:Expr}{ta tb tc:TE}{pos:Pos}
def Kh(ha:PE X a ta)(hb:PE X b tb){pins:yab}{s:Shared}{σ:St}{H:Hp}{R:V->V->Hp->Prop}(I:Inv X pins σ H s)
  (h:ta σ H fun x H1=>tb σ H1 fun y H2=>R x y H2) {Q:yaa} {f:Value->Value->Sem Value}
  (hf:∀v u s2 x y H2,Inv X pins σ H2 s2->RelV x v->RelV y u->R x y H2->wpAny (model X.prog X.w) X.A (f v u) Q X.xe s2) :
  wpAny (model X.prog X.w) X.A (eval a X.env) (fun v Lh=>wpAny (model X.prog X.w) X.A (eval b X.env) (fun u K6=>wpAny (model X.prog X.w) X.A (f v u) Q X.xe K6) X.xe Lh) X.xe s:=by
 refine Lj (ha pins s σ H _ I h) fun v s1 ⟨x,H1,I1,r1,q1⟩=>?_
 refine Lj (hb pins s1 σ H1 _ I1 q1) fun u s2 ⟨y,H2,I2,r2,q2⟩=>?_
 exact hf v u s2 x y H2 I2 r1 r2 q2
def Yu{f:Value->Value->Sem Value}{C:Int->Int->Prop}{g:Int->Int->Int}
  (rule:∀(i j:Int) (t u:Tok) (s:Shared) (Q:yaa) (E:yaa),C i j->Q (.int (g i j) s.toks) {s with toks:=s.toks+1}->wpAny (model X.prog X.w) X.A (f (.int i t) (.int j u)) Q E s) :
  Pa X f (rI C fun i j=>.int (g i j)):=by
 intro pins s σ H x y v u Q I rx ry h;obtain⟨i,j,rfl,rfl,hc,q⟩:=h;obtain⟨t,rfl⟩:=rx;obtain⟨t',rfl⟩:=ry;exact rule i j t t' s _ _ hc ⟨.int (g i j),H,I.tok _,⟨_,rfl⟩,q⟩
def IP{f:Value->Value->Sem Value}{g:Int->Int->Int}
  (rule:∀(i j:Int) (t u:Tok) (s:Shared) (Q:yaa) (E:yaa),Q (.int (g i j) s.toks) {s with toks:=s.toks+1}->wpAny (model X.prog X.w) X.A (f (.int i t) (.int j u)) Q E s) :
  Pa X f (Su fun i j=>.int (g i j)):=by
 intro pins s σ H x y v u Q I rx ry h;obtain⟨i,j,rfl,rfl,q⟩:=h;obtain⟨t,rfl⟩:=rx;obtain⟨t',rfl⟩:=ry;exact rule i j t t' s _ _ ⟨.int (g i j),H,I.tok _,⟨_,rfl⟩,q⟩
def Am{f:Value->Value->Sem Value}{g:Int->Int->Bool}
  (rule:∀(i j:Int) (t u:Tok) (s:Shared) (Q:yaa) (E:yaa),Q (.bool (g i j)) s->wpAny (model X.prog X.w) X.A (f (.int i t) (.int j u)) Q E s) :
  Pa X f (Su fun i j=>.bl (g i j)):=by
 intro pins s σ H x y v u Q I rx ry h;obtain⟨i,j,rfl,rfl,q⟩:=h;obtain⟨t,rfl⟩:=rx;obtain⟨t',rfl⟩:=ry;exact rule i j t t' s _ _ ⟨.bl (g i j),H,I,rfl,q⟩
def zd(i j:Int):Prop:=0<=j/\j<=1000000/\i.natAbs<2 ^ 64
def IQ:Pa X (binaryOp .Add) (Su fun i j=>.int (i+j)):=IP fun _ _ _ _ _ _ _ q=>add_int q
def IT:Pa X (binaryOp .Sub) (Su fun i j=>.int (i - j)):=IP fun _ _ _ _ _ _ _ q=>sub_int q
def Ge:Pa X (binaryOp .Mod) (rI (fun _ j=>j≠0) fun i j=>.int (i.fmod j)):=Yu fun _ _ _ _ _ _ _ hc q=>mod_int' hc q
def IS:Pa X (binaryOp .Pow) (rI zd fun i j=>.int (i ^ j.toNat)):=Yu fun _ _ _ _ _ _ _ hc q=>pow_int_small hc.1 hc.2.1 hc.2.2 q
def unI{f:Value->Sem Value}{g:Int->Int}
  (rule:∀(i:Int) (t:Tok) (s:Shared) (Q:yaa) (E:yaa),Q (.int (g i) s.toks) {s with toks:=s.toks+1}->wpAny (model X.prog X.w) X.A (f (.int i t)) Q E s) :
  Zf X f (rU fun i=>.int (g i)):=by
 intro pins s σ H x v Q I rx h;obtain⟨i,rfl,q⟩:=h;obtain⟨t,rfl⟩:=rx;exact rule i t s _ _ ⟨.int (g i),H,I.tok _,⟨_,rfl⟩,q⟩
def Ju:Zf X (unaryOp .USub) (rU fun i=>.int (-i)):=unI fun _ _ _ _ _ q=>neg_int q
end
def w5:V->V->Bool
 |.LJ,.LJ=>true|.LJ,.int _=>true|.int _,.LJ=>true|.LJ,.bl _=>true|.bl _,.LJ=>true|.LJ,.str _=>true|.str _,.LJ=>true
 |.int _,.int _=>true|.bl _,.bl _=>true|.str _,.str _=>true|.RI _,.RI _=>true
 |.int _,.str _=>true|.str _,.int _=>true|.bl _,.str _=>true|.str _,.bl _=>true
 |_,_=>false
def rEq:R2:=fun x y H Q=>w5 x y=true/\Q (.bl (decide (x=y))) H
def rNe:R2:=fun x y H Q=>w5 x y=true/\Q (.bl (!decide (x=y))) H
def oD:decide (V.int i=V.int j)=(i==j):=by rw[VD];simp
def Bh:decide (V.bl i=V.bl j)=(i==j):=by rw[VD];simp
def yu:decide (V.str i=V.str j)=(i==j):=by rw[VD];simp
def yt:decide (V.RI i=V.RI j)=(i.toList==j.toList):=by rw[VD];cases i;cases j;simp
section
variable{X:Cx}{a b c:Expr}{ta tb tc:TE}{pos:Pos}
def aY{Q:VK}{k':Bool}(I:Inv X pins σ H s)(q:Q (.bl k) H)(e:k=k'):EP X pins σ Q (.bool k') s:=by subst e;exact⟨.bl k,H,I,rfl,q⟩
def JS:Pa X (compareOp .Eq) rEq:=by
 intro pins s σ H x y v u Q I rx ry h;obtain⟨hs,q⟩:=h;cases x with
 |LJ =>
  cases rx;cases y with
  |LJ=>cases ry;exact PySem.EqNone.eq_none_none (aY I q (by simp))
  |bl j=>cases ry;exact PySem.EqNone.eq_none_bool (aY I q (by simp))
  |int j=>obtain⟨t',rfl⟩:=ry;exact PySem.EqNone.eq_none_int (aY I q (by simp))
  |str j=>obtain⟨t',rfl⟩:=ry;exact PySem.EqNone.eq_none_str (aY I q (by simp))
  |_=>exact absurd (show false=true from hs) OY
 |bl i =>
  cases rx;cases y with
  |LJ=>cases ry;exact PySem.EqNone.eq_bool_none (aY I q (by simp))
  |bl j=>cases ry;exact eq_bool (aY I q Bh)
  |str j=>obtain⟨t',rfl⟩:=ry;exact PySem.EqMixed.eq_bool_str (aY I q (by simp))
  |_=>exact absurd (show false=true from hs) OY
 |int i =>
  obtain⟨t,rfl⟩:=rx;cases y with
  |LJ=>cases ry;exact PySem.EqNone.eq_int_none (aY I q (by simp))
  |int j=>obtain⟨t',rfl⟩:=ry;exact eq_int (aY I q oD)
  |str j=>obtain⟨t',rfl⟩:=ry;exact PySem.EqMixed.eq_int_str (aY I q (by simp))
  |_=>exact absurd (show false=true from hs) OY
 |str i =>
  obtain⟨t,rfl⟩:=rx;cases y with
  |LJ=>cases ry;exact PySem.EqNone.eq_str_none (aY I q (by simp))
  |bl j=>cases ry;exact PySem.EqMixed.eq_str_bool (aY I q (by simp))
  |int j=>obtain⟨t',rfl⟩:=ry;exact PySem.EqMixed.eq_str_int (aY I q (by simp))
  |str j=>obtain⟨t',rfl⟩:=ry;exact eq_str (aY I q yu)
  |_=>exact absurd (show false=true from hs) OY
 |RI i =>
  obtain⟨t,rfl⟩:=rx;cases y with
  |RI j=>obtain⟨t',rfl⟩:=ry;exact PySem.W.eq_bytes (aY I q yt)
  |_=>exact absurd (show false=true from hs) OY
 |_=>cases y<;>exact absurd (show false=true from hs) OY
def JX:Pa X (compareOp .NotEq) rNe:=by
 intro pins s σ H x y v u Q I rx ry h;obtain⟨hs,q⟩:=h;cases x with
 |LJ =>
  cases rx;cases y with
  |LJ=>cases ry;exact PySem.EqNone.ne_none_none (aY I q (by simp))
  |bl j=>cases ry;exact PySem.EqNone.ne_none_bool (aY I q (by simp))
  |int j=>obtain⟨t',rfl⟩:=ry;exact PySem.EqNone.ne_none_int (aY I q (by simp))
  |str j=>obtain⟨t',rfl⟩:=ry;exact PySem.EqNone.ne_none_str (aY I q (by simp))
  |_=>exact absurd (show false=true from hs) OY
 |bl i =>
  cases rx;cases y with
  |LJ=>cases ry;exact PySem.EqNone.ne_bool_none (aY I q (by simp))
  |bl j=>cases ry;exact ne_bool (aY I q (congrArg not Bh))
  |str j=>obtain⟨t',rfl⟩:=ry;exact PySem.EqMixed.ne_bool_str (aY I q (by simp))
  |_=>exact absurd (show false=true from hs) OY
 |int i =>
  obtain⟨t,rfl⟩:=rx;cases y with
  |LJ=>cases ry;exact PySem.EqNone.ne_int_none (aY I q (by simp))
  |int j=>obtain⟨t',rfl⟩:=ry;exact ne_int (aY I q (congrArg not oD))
  |str j=>obtain⟨t',rfl⟩:=ry;exact PySem.EqMixed.ne_int_str (aY I q (by simp))
  |_=>exact absurd (show false=true from hs) OY
 |str i =>
  obtain⟨t,rfl⟩:=rx;cases y with
  |LJ=>cases ry;exact PySem.EqNone.ne_str_none (aY I q (by simp))
  |bl j=>cases ry;exact PySem.EqMixed.ne_str_bool (aY I q (by simp))
  |int j=>obtain⟨t',rfl⟩:=ry;exact PySem.EqMixed.ne_str_int (aY I q (by simp))
  |str j=>obtain⟨t',rfl⟩:=ry;exact ne_str (aY I q (congrArg not yu))
  |_=>exact absurd (show false=true from hs) OY
 |RI i =>
  obtain⟨t,rfl⟩:=rx;cases y with
  |RI j=>obtain⟨t',rfl⟩:=ry;exact PySem.W.ne_bytes (aY I q (congrArg not yt))
  |_=>exact absurd (show false=true from hs) OY
 |_=>cases y<;>exact absurd (show false=true from hs) OY
def JW:Pa X (compareOp .Lt) (Su fun i j=>.bl (decide (i<j))):=Am fun _ _ _ _ _ _ _ q=>lt_int q
def JV:Pa X (compareOp .LtE) (Su fun i j=>.bl (decide (i<=j))):=Am fun _ _ _ _ _ _ _ q=>le_int q
def JU:Pa X (compareOp .Gt) (Su fun i j=>.bl (decide (j<i))):=Am fun _ _ _ _ _ _ _ q=>gt_int q
def JT:Pa X (compareOp .GtE) (Su fun i j=>.bl (decide (j<=i))):=Am fun _ _ _ _ _ _ _ q=>ge_int q
def Gg:Pa X (compareOp .IsNot) (fun x y H Q=>y=.LJ/\Q (.bl (!decide (x=.LJ))) H):=by
 intro pins s σ H x y v u Q I rx ry h;obtain⟨rfl,q⟩:=h;cases ry;refine isnot_none_gen (aY I q ?_);cases x<;>first
  |(cases rx;rfl)
  |(obtain⟨t,rfl⟩:=rx;rfl)
def wA:(sizeLine:Nat)<2 ^ 63:=by rw[sizeLine_eq];decide
def vals1{x:V}(r:Vals [x] us):∃u,us=[u]/\RelV x u:=by
 cases r with
 |cons r1 r2=>cases r2;exact⟨_,rfl,r1⟩
def vals2{x y:V}(r:Vals [x,y] us):∃u w',us=[u,w']/\RelV x u/\RelV y w':=by
 cases r with
 |cons r1 r2 =>
  cases r2 with
  |cons r3 r4=>cases r4;exact⟨_,_,rfl,r1,r3⟩
def C3:oh X (.builtin "abs") (fun xs H Q=>∃i,xs=[.int i]/\Q (.int (if i<0 then -i else i)) H):=by intro pins s σ H xs us Q I r h;obtain⟨i,rfl,q⟩:=h;obtain⟨u,rfl,t,rfl⟩:=vals1 r;exact call_abs_int fun u tk=>⟨.int (if i<0 then -i else i),H,I.tok _,⟨_,rfl⟩,q⟩
def AY (hc:X.calm=true):oh X (.builtin "max") (fun xs H Q=>∃i j,xs=[.int i,.int j]/\Q (.int (if j > i then j else i)) H):=by
 intro pins s σ H xs us Q I r h;obtain⟨i,j,rfl,q⟩:=h;obtain⟨u,w',rfl,⟨t,rfl⟩,⟨t',rfl⟩⟩:=vals2 r;refine max_two_ints (I.ok.hd hc) fun h' tk k=>⟨_,H,I.kept k,?_,q⟩
 by_cases hj:j > i
 ·rw[K4 hj,K4 hj];exact⟨_,rfl⟩
 ·rw[K3 hj,K3 hj];exact⟨_,rfl⟩
end
structure CN(h:Heap)(x dx C:Addr)(mA:yal):Prop where
 obj:h.get? x=some (PySem.W.instObj C dx)
 ns:h.Ns1 dx mA
 ne:dx≠x
def BC{h:Heap}(n:h.Ns1 dx mA):∃od,h.get? dx=some od/\∀name,PySem.W.lookIn name od=some (mA name):=by
 obtain⟨o,es,ep,ho,hd,hk,_,hm⟩:=n;refine⟨o,ho,fun name=>?_⟩;have e:=hm name;unfold nsFind findBy at e;rw[<- Array.find?_toList]at e;unfold PySem.W.lookIn;rw[hd];dsimp only;split
 ·rename_i y q;rw[q]at e;exact congrArg some e
 ·rename_i q;rw[q]at e;have a:es.toList.any (·.refKey)=false:=by
   rw[List.any_eq_false];intro y hy;obtain⟨z,t,Zg⟩:=hk y (Array.mem_toList_iff.mp hy);simp[DictEntry.refKey,Zg]
  have a':¬es.toList.any (·.refKey)=true:=by rw[a];exact OY
  rw[K3 a'];exact congrArg some e
def CN.look(I:CN h x dx C mA):∃od,PySem.W.InstAt h x (PySem.W.instObj C dx) C (some od)/\∀name,PySem.W.lookIn name od=some (mA name) :=
 let ⟨od,ho,hl⟩:=BC I.ns
 ⟨od,⟨I.obj,rfl,rfl,ho⟩,hl⟩
def iT.some_of{v:V}(r:iT (some v) o):∃u,o=some u/\RelV v u:=by
 cases o with
 |none=>exact(show False from r).elim
 |some u=>exact⟨u,rfl,r⟩
structure Ma(K:yac)(C:Addr):Prop where
 pg:PySem.W.plainGet K C Str.empty=true
 hd:PySem.W.hasDictIn K C=true
 po:PySem.W.plainOver K C=true
 sa:PySem.W.findIn K (.ref C) "__setattr__" = some (some (.builtin "object.__setattr__"))
structure Con(K:yac)(C:Addr)(f:Str)(v:V)(u:Value):Prop where
 at_:PySem.W.findIn K (.ref C) f=some (some u)
 rel:RelV v u
 get:PySem.W.specialIn K u "__get__" = some none
 cp:PySem.W.copiedNames.contains f=false
structure Meth(K:yac)(C:Addr)(m:Str)(f:Addr):Prop where
 at_:PySem.W.findIn K (.ref C) m=some (some (.ref f))
 fn:PySem.W.isFn K (.ref f)=true
 kp:PySem.W.keepIn K (.ref f)=true
section
variable{X:Cx}{pins:yab}{σ:St}{H:Hp}{s:Shared}{A:Around}{E:yaa}{Q:yaa}{c:Value}{b:Bool}
inductive jK (K:yac) (H:Hp):V->Value->Prop where
 |LJ:jK K H .LJ (.type "NoneType")
 |bl (x:Bool):jK K H (.bl x) (.type "bool")
 |int (i:Int):jK K H (.int i) (.type "int")
 |str (x:Str):jK K H (.str x) (.type "str")
 |Wy (x:UInt64):jK K H (.Wy x) (.type "float")
 |lst {a:Addr} {xs:yaq} (e:H a=some (.lst xs)):jK K H (.ref a) (.type "list")
 |frz {a:Addr} {o:Obj} {xs:yaq} (e:H a=some (.frz o (.lst xs))):jK K H (.ref a) (.type "list")
 |tup {a:Addr} {xs:yaq} (e:H a=some (.tup xs)):jK K H (.ref a) (.type "tuple")
 |dK {a:Addr} {kvs:List (Key×V)} (e:H a=some (.dK kvs)):jK K H (.ref a) (.type "dict")
 |dT {a:Addr} {kvs:List (List Key×V)} (e:H a=some (.dT kvs)):jK K H (.ref a) (.type "dict")
 |ins {a C dx:Addr} {fs:List (Str×V)} (e:H a=some (.ins C dx fs)) (cl:Ma K C) (ha:PySem.W.findIn K (.ref C) "__class__" = some (some (.builtin "object.__class__")))
   (hn:PySem.W.specialIn K (.builtin "object.__class__") "__get__" = some (some (.builtin "getset_descriptor.__get__"))) (htk:PySem.W.takesIn K (.builtin "object.__class__")=some true)
   (hm:PySem.W.mroIn K C (.type "object")=some true):jK K H (.ref a) (.ref C)
end
structure cA(k:Nat)(A:Around):Prop where
 hd:A.handled=none
 dp:A.depth+3*k+5<recursionLimit
 un:A.units+16*k+200<cLine
def cA.mono{j:Nat}(r:cA k A)(h:j<=k):cA j A:=⟨r.hd,by have:=r.dp;lia,by have:=r.un;lia⟩
theorem cA.deeper{k:Nat}(r:cA (k+1) A)(env:Env):cA k (A.deeper env) :=
 ⟨r.hd,by have:=r.dp;show A.depth+1+3*k+5<_;lia,by have:=r.un;show A.units+3+16*k+200<_;lia⟩
theorem cA.depth(r:cA k A):A.depth<recursionLimit:=by have:=r.dp;lia
theorem cA.units(r:cA k A):A.units+64<cLine:=by have:=r.un;lia
def Jr:TA:=fun _ H Q=>Q [] H
def AB(ta:TE)(tr:TA):TA:=fun σ H Q=>ta σ H fun x H1=>tr σ H1 fun xs H2=>Q (x::xs) H2
section
variable{X:Cx}{e:Expr}{es:yai}{te:TE}{t:TA}{pos:Pos}
def nE:PA X [] Jr:=fun _ _ _ _ H Q I h=>Calls.spliced_nil ⟨[],H,I,.nil,h⟩
def jF(ha:PE X e te)(hr:PA X es t)(hs:starEach (e::es) X.env=(false,eval e X.env)::starEach es X.env:=by rfl):PA X (e::es) (AB te t):=by intro pos pins s σ H Q I h;rw[hs];show wpAny _ _ (spliced ((false,eval e X.env)::backTo pos (starEach es X.env))) _ _ s;refine Calls.spliced_cons (Lj (ha pins s σ H _ I h) fun u s1 ⟨x,H1,I1,r1,q1⟩=>?_);exact Lj (hr pos pins s1 σ H1 _ I1 q1) fun us s2 ⟨xs,H2,I2,r2,q2⟩=>⟨x::xs,H2,I2,.cons r1 r2,q2⟩
end
abbrev Sp:=yaq->Hp->VK->XK->Prop
abbrev CXT:=List Env->Hp->Shared->XK->yaa
structure ze(P:Program)(w:World)(K:yac)(mg:yal)(base:Heap)(A:Around)(outer:List Env)(s:Shared)(H:Hp):Prop where
 frames:A.frames=some outer
 mod:Mod K mg base
 bs:∀b o,base.get? b=some o->s.heap.get? b=some o/\H b=none
 UK:base.objs.size<=s.heap.objs.size
 Of:s.heap.FunFrames base outer
 UL:∀b∈OU outer,H b=none
 Lu:M9 P w H s.heap
 bare:AllBare s.gens
def CE(outer:List Env)(P:Program)(w:World)(H:Hp)(s:Shared)(Q:VK)(u:Value)(s':Shared):Prop :=
 ∃ v H',s'.os=s.os/\AllBare s'.gens/\Un (OU outer) [] H H' s.heap s'.heap/\M9 P w H' s'.heap/\RelV v u/\Q v H'
def CR(CX:CXT)(outer:List Env)(P:Program)(w:World)(H:Hp)(s:Shared)(Q:VK)(E:XK)(r:Result)(s':Shared):Prop :=
 match r with
 |.ok (.ret u)=>CE outer P w H s Q u s'
 |.ok _=>False
 |.error e=>CX outer H s E e s'
structure aJ(P:Program)(w:World)(K:yac)(mg:yal)(base:Heap)(CX:CXT)(k:Nat)(f:Addr)(fd:FuncData)(ps:yah)(sp:Sp):Prop where
 len:∀vs H Q E,sp vs H Q E->vs.length=ps.length
 run:∀(A:Around) (outer:List Env) (s:Shared) (H:Hp) (args:Args) (us:yad) (vs:yaq) (Q:VK) (E:XK),cA k A->ze P w K mg base A outer s H->BindsTo s fd args (ps.zip us)->Vals vs us->sp vs H Q E →
  codeAny (model P w) A (.call (.ref f) args) (CR CX outer P w H s Q E) s
section
variable{X:Cx}{pins:yab}{σ:St}{H:Hp}{s s':Shared}
def Inv.Zh(I:Inv X pins σ H s):ze X.prog X.w X.K X.mg X.base X.A X.stack s H :=
 ⟨I.ok.frames,I.ok.mod,I.bs,NW I.ok.UK I.sz,I.stack,I.Pn,I.Lu,I.bare⟩
def Inv.after(I:Inv X pins σ H s)(h:CE X.stack X.prog X.w H s Q u s'):EP X pins σ Q u s':=by obtain⟨v,H',os,bare,un,Lu,r,q⟩:=h;obtain⟨hh,g,d,t,os'⟩:=s';obtain rfl:os'=s.os:=os;exact⟨v,H',I.call (h':=hh) (g':=g) (d':=d) (t':=t) (ch:=[]) un Lu bare (fun b z=>absurd z (by simp)),r,q⟩
end
def Binds(K:yac)(fd:FuncData)(ps:yah)(ds:yad):Prop :=
 ∀ (s:Shared) (us:yad),K.In s.heap->(us++ds).length=ps.length->BindsTo s fd ⟨us,[]⟩ (ps.zip (us++ds))
def Binds.all{K:yac}{fd:FuncData}{ps:yah}(h:∀us:yad,us.length=ps.length->bindArgs fd ⟨us,[]⟩=pure (ps.zip us)):Binds K fd ps []:=fun s us _ hl=>by rw[Rm]at hl ⊢;exact .of_eq (h us hl)
def Passes(CX:CXT)(X:Cx)(E:XK):Prop:=∀(pins:yab) (σ:St) (H:Hp) (s:Shared) (e:Value) (s':Shared),Inv X pins σ H s->CX X.stack H s E e s'->X.xe e s'
section
variable{X:Cx}{CX:CXT}{k:Nat}{f C:Addr}{fd:FuncData}{ps:yah}{sp:Sp}{Yv:yaq}{ds:yad}{E:XK}{x m:Str}{p pos apos:Pos}{e o:Expr}{es:yai}{ta:TE}{t:TA}
def Jh(F:aJ X.prog X.w X.K X.mg X.base CX k f fd ps sp)(hr:cA k X.A)(hb:Binds X.K fd ps ds)(hd:Vals Yv ds)(hx:Passes CX X E)
  (I:Inv X pins σ H s) (r:Vals vs us) (h:sp (vs++Yv) H Q E):wpAny (model X.prog X.w) X.A (call (.ref f) us) (EP X pins σ Q) X.xe s:=by
 have r2:Vals (vs++Yv) (us++ds):=r.append hd;have hl:(us++ds).length=ps.length:=by rw[<- r2.length];exact F.len _ _ _ _ h
 refine wpAny_call (codeAny_mono (F.run X.A X.stack s H ⟨us,[]⟩ (us++ds) (vs++Yv) Q E hr I.Zh (hb s us I.PQ hl) r2 h) fun r s' hq=>?_);cases r with
 |error e=>exact hx pins σ H s e s' I hq
 |ok fl =>
  cases fl with
  |ret u=>exact I.after hq
  |next=>exact False.elim hq
  |brk=>exact False.elim hq
  |cont=>exact False.elim hq
structure Mk(K:yac)(C f:Addr):Prop where
 makes:PySem.W.makesIn K C=true
 init:PySem.W.findIn K (.ref C) "__init__" = some (some (.ref f))
 fn:PySem.W.isFn K (.ref f)=true
 kp:PySem.W.keepIn K (.ref C)=true
end
section
variable{X:Cx}{CX:CXT}{k:Nat}{f C:Addr}{fd:FuncData}{ps ks:yah}{sp:Sp}{E:XK}{x m:Str}{p pos apos kpos:Pos}{e o:Expr}{es:yai}{kws:List Keyword}{te ta:TE}{t tk:TA}{nm:Option Str}
structure KP(K:yac)(fd:FuncData)(ps ks:yah)(g:yad->yad->yad)(gV:yaq->yaq->yaq):Prop where
 to:∀(s:Shared) (us ws:yad),K.In s.heap->(g us ws).length=ps.length->BindsTo s fd ⟨us,ks.zip ws⟩ (ps.zip (g us ws))
 rel:∀{vs:yaq} {us:yad} {zs:yaq} {ws:yad},Vals vs us->Vals zs ws->Vals (gV vs zs) (g us ws)
variable{g:yad->yad->yad}{gV:yaq->yaq->yaq}
end
structure az(N P:yah)(sc:Scope):Prop where
 kind:sc.kind=.function
 co:sc.isCoroutine=false
 gen:sc.isGenerator=false
 nd:N.Nodup
 pre:N.take P.length=P
 par:∀x∈P,sc.names.lookup x=some .local∨sc.names.lookup x=some .cell
 UP:∀y∈sc.names,y.2 ≠ .free
theorem tX{kindOf:Str->Option NameKind}{x:Str}:∀{binds:List (Str×Value)} {m:yal},(∀v,(x,v)∉binds)->bindL kindOf binds m x=m x
 |[],_,_=>rfl
 |(n,v)::r,m,h=>by
  unfold bindL;rw[tX fun w hw=>h w (L8 _ hw)];split
  ·have:x≠n:=by rintro rfl;exact h v Ng
   simp[this]
  ·rfl
theorem tV{kindOf:Str->Option NameKind}{x:Str}:∀{binds:List (Str×Value)} {m:yal},(∀v,(x,v)∉binds)->bindC kindOf binds m x=m x
 |[],_,_=>rfl
 |(n,v)::r,m,h=>by
  unfold bindC;rw[tV fun w hw=>h w (L8 _ hw)];split
  ·rfl
  ·have:x≠n:=by rintro rfl;exact h v Ng
   simp[this]
theorem tW{kindOf:Str->Option NameKind}{x:Str}{v:Value}:∀{P:yah} {vs:yad} {i:Nat} {m:yal},P.Nodup->P[i]?=some x->vs[i]?=some v->kindOf x=some .local →
  bindL kindOf (P.zip vs) m x=some v
 |[],_,_,_,_,h,_,_=>by simp at h
 |_::_,[],_,_,_,_,h,_=>by simp at h
 |p::P,w::vs,0,m,nd,h1,h2,hk=>by simp at h1 h2;subst h1;subst h2;show bindL kindOf ((p,w)::P.zip vs) m p=_;unfold bindL;rw[tX fun v hv=>(QI.mp nd).1 (UE hv).1,K4 hk];simp
 |p::P,w::vs,i+1,m,nd,h1,h2,hk=>by show bindL kindOf ((p,w)::P.zip vs) m x=_;unfold bindL;exact tW (i:=i) (QI.mp nd).2 (by simpa using h1) (by simpa using h2) hk
theorem tU{kindOf:Str->Option NameKind}{x:Str}{v:Value}:∀{P:yah} {vs:yad} {i:Nat} {m:yal},P.Nodup->P[i]?=some x->vs[i]?=some v->kindOf x≠some .local →
  bindC kindOf (P.zip vs) m x=some v
 |[],_,_,_,_,h,_,_=>by simp at h
 |_::_,[],_,_,_,_,h,_=>by simp at h
 |p::P,w::vs,0,m,nd,h1,h2,hk=>by simp at h1 h2;subst h1;subst h2;show bindC kindOf ((p,w)::P.zip vs) m p=_;unfold bindC;rw[tV fun v hv=>(QI.mp nd).1 (UE hv).1,K3 hk];simp
 |p::P,w::vs,i+1,m,nd,h1,h2,hk=>by show bindC kindOf ((p,w)::P.zip vs) m x=_;unfold bindC;exact tU (i:=i) (QI.mp nd).2 (by simpa using h1) (by simpa using h2) hk
def start(N:yah)(vs:yaq):St:=vs.map some++List.replicate (N.length - vs.length) none
def dS(CX:CXT)(P:Program)(w:World)(K:yac)(mg:yal)(base:Heap)(N:yah)(qual:Str)(scope:Scope)(f:Addr)(cd:Value)(A:Around)(outer:List Env)(s:Shared)(H:Hp)(E:XK):Cx where
 prog:=P
 w:=w
 K:=K
 mg:=mg
 base:=base
 A:=A.deeper (envOfC qual scope s.heap.objs.size f cd)
 N:=N
 Lq:=s
 LX:=H
 env:=envOfC qual scope s.heap.objs.size f cd
 outer:=outer
 stack:=envOfC qual scope s.heap.objs.size f cd::outer
 ex:=[]
 calm:=true
 fn:=fun _=>true
 pn:=[]
 xe:=fun e s'=>wpAny (model P w) (A.deeper (envOfC qual scope s.heap.objs.size f cd)) (leaving (envOfC qual scope s.heap.objs.size f cd) e) (fun _ WG=>CX outer H s E e WG) (fun e' WG=>CX outer H s E e' WG) s'
def vp{sc:Scope}(h:sc.names.lookup x=some .cell):∃c,(cellsFrom n sc.names []).lookup x=some c:=by have q:=PySem.W.cellsFrom_some sc.names n [] (.inl h);exact Option.isSome_iff_exists.mp q
def Bs{CX:CXT}{P:Program}{w:World}{K:yac}{mg:yal}{base:Heap}{N ps:yah}{qual:Str}{scope:Scope}{f:Addr}{cd:Value}{A:Around}{outer:List Env}{s s1:Shared}{H:Hp}{E:XK}{us:yad}{vs:yaq}
  (S:az N ps scope) (hd:A.handled=none) (e0:ze P w K mg base A outer s H) (hl:vs.length=ps.length) (r:Vals vs us)
  (x:InCallC s s.heap.objs.size (bindL (envOfC qual scope s.heap.objs.size f cd).kindOf (ps.zip us) fun _=>none) (cellsFrom (s.heap.objs.size+1) scope.names []) (bindC (envOfC qual scope s.heap.objs.size f cd).kindOf (ps.zip us) fun _=>none) s1) :
  Inv (dS CX P w K mg base N qual scope f cd A outer s H E) [] (start N vs) H s1:=by
 have MH:ps.length<=N.length:=by have:=congrArg List.length S.pre;rw[Qj]at this;lia
 obtain⟨h1,tk,rfl,hk⟩:=x.done;have WH:∀b:Addr,b∉(dS CX P w K mg base N qual scope f cd A outer s H E).ex:=fun b z=>absurd (show b∈([]:yae)from z) (by simp)
 refine⟨⟨e0.mod,S.kind,rfl,rfl,LG _,fun y z c h1 h2=>?_,fun y hy=>?_,fun y c _ h=>?_,fun _=>hd,Around.frames_deeper e0.frames,.inr ⟨rfl,rfl⟩,fun b z=>absurd z (WH b),e0.bs,e0.UK,fun b _ _=>WH b,fun b z=>absurd z (WH b),e0.Of,e0.UL⟩,
  rfl,e0.bare,Un.kept hk,⟨_,x.toInCall.ns,fun i y v h1 h2 h3=>?_⟩,fun y c h=>⟨_,x.cell y c h⟩,e0.Lu.fresh (LG _),fun y c h=>?_,fun p hp=>absurd (show p∈([]:yab)from hp) (by simp),e0.Lu.kept hk,?_⟩
 ·exact name_of_addr x.apart (PySem.mem_of_lookup h1) (PySem.mem_of_lookup h2)
 ·have hy:scope.names.lookup y=some .cell∨scope.names.lookup y=some .free:=hy;rcases hy with hy|hy
  ·exact vp hy
  ·exact absurd rfl (S.UP _ (PySem.mem_of_lookup hy))
 ·exact QK (x.above y c (PySem.mem_of_lookup h))
 ·have hi:i<vs.length:=by
   unfold start at h2;by_cases hi:i<vs.length
   ·exact hi
   ·rw[QG (by simpa using hi)]at h2;rw[Wg]at h2;split at h2<;>cases h2
  have ha:vs[i]?=some v:=by
   unfold start at h2;rw[Qh (by simpa using hi),LZ]at h2;cases e:vs[i]? with
   |none=>rw[e]at h2;cases h2
   |some a=>rw[e]at h2;cases h2;rfl
  obtain⟨u,hu,rv⟩:=r.get ha;have hp:ps[i]?=some y:=by rw[<- S.pre,List.getElem?_take_of_lt (by lia)];exact h1
  have ndP:ps.Nodup:=by rw[<- S.pre];exact S.nd.sublist (List.take_sublist _ _)
  refine⟨u,rv,?_⟩;rcases S.par y (Mz hp)with k|k
  ·exact .inl ⟨k,tW ndP hp hu k⟩
  ·obtain⟨c,e⟩:=vp (n:=s.heap.objs.size+1) k;refine .inr ⟨.inl k,c,e,?_⟩;have q:=x.cell y c e;rw[tU ndP hp hu (by show scope.names.lookup y≠_;rw[k];decide)]at q;exact q
 ·exact e0.Lu.fresh (QK (x.above y c (PySem.mem_of_lookup h)))
 ·unfold start;show _=N.length;rw[MG,K8,List.length_replicate]
  lia
def JL {CX : CXT} {P : Program} {w : World} {K : yac} {mg : yal} {base : Heap} {k : Nat} {f : Addr} {name qual : Str} {params : Arguments} {body : List Stmt} {scope : Scope} {dV kV doc pm Lv ct oc : Value} {an od : Option Addr}
  {S1 : Array (yam)} {N ps : yah} {sp : Sp} (lk : K.lookup f = some ⟨oc, od, .func (PySem.W.fnOf name qual params body scope dV kV doc pm an Lv ct), S1⟩) (Oa : PySem.W.codeIn K Lv qual = true) (S : az N ps scope)
  (len : ∀ vs H Q E, sp vs H Q E -> vs.length = ps.length)
  (OD : ∀ (A : Around) (outer : List Env) (s : Shared) (H : Hp) (vs : yaq) (Q : VK) (E : XK), cA k (A.deeper (envOfC qual scope s.heap.objs.size f Lv)) -> sp vs H Q E →
   ∃ t, PSs (dS CX P w K mg base N qual scope f Lv A outer s H E) body t /\ t { nx := fun _ H' => Q .LJ H', rt := Q } (start N vs) H) :
  aJ P w K mg base CX (k + 1) f (PySem.W.fnOf name qual params body scope dV kV doc pm an Lv ct) ps sp := by
 refine ⟨len, fun A outer s H args us vs Q E hr e0 hb r T7 => ?_⟩;have hl := len _ _ _ _ T7;have KX : K.In s.heap := e0.mod.WC.keeps fun b o e => (e0.bs b o e).1
 have lim : s.heap.NoLimit := e0.mod.nolimit.keeps fun b o e => (e0.bs b o e).1
 have WI : ∀ y ∈ ps.zip us, scope.names.lookup y.1 = some .local ∨ (scope.names.lookup y.1 = some .cell /\ ((cellsFrom (s.heap.objs.size + 1) scope.names []).lookup y.1).isSome = true) := fun ⟨n, v⟩ hy => by
  rcases S.par n (UE hy).1 with q | q
  ·exact .inl q
  ·exact .inr ⟨q, PySem.W.cellsFrom_some _ _ _ (.inl q)⟩
 refine codeAny_call_function hr.depth (KX _ _ lk) rfl S.co S.gen rfl (PySem.W.codeRec_of KX Oa) (hb _ _ _ _ ?_);refine wpAny_newFunctionEnv_cells S.kind WI fun env he s1 x => ?_
 subst he;refine ⟨lim.keeps x.toInCall.keep, codeAny_func ?_⟩;obtain ⟨t, ht, hq⟩ := OD A outer s H vs Q E (hr.deeper _) T7;have I : Inv (dS CX P w K mg base N qual scope f Lv A outer s H E) [] (start N vs) H s1 := Bs S hr.hd e0 hl r x;refine OT (ht [] s1 (start N vs) H _ I hq) (fun fl s' hs => ?_) fun e s' hs => hs
 have fin : ∀ {LH : St} {H' : Hp} {v : V} {u : Value}, Inv (dS CX P w K mg base N qual scope f Lv A outer s H E) [] LH H' s' -> RelV v u -> Q v H' -> CE outer P w H s Q u s' :=
  fun {LH H' v u} J rv q => ⟨v, H', J.os, J.bare, J.base, J.Lu, rv, q⟩
 cases fl with
 | ret u =>
  obtain ⟨v, LH, H', J, rv, q⟩ := hs;exact fin J rv q
 | next =>
  obtain ⟨LH, H', J, q⟩ := hs;exact fin (v := V.LJ) (u := Value.none) J rfl q
 | brk =>
  obtain ⟨_, _, _, q⟩ := hs;exact False.elim q
 | cont =>
  obtain ⟨_, _, _, q⟩ := hs;exact False.elim q
section
variable{X:Cx}{x:Str}{p pos:Pos}{e:Expr}{es:yai}{t:TA}{id T:String}{r:yaq->Hp->VK->Prop}
def tCB(r:yaq->Hp->VK->Prop)(t:TA):TE:=fun σ H Q=>t σ H fun vs H1=>r vs H1 Q
def BY (hc:oh X (.type T) r) (hg:Gl X x) (hm:X.mg x=none) (hv:bootBuiltins x=some (.type T)) (ha:PA X (e::es) t) (hn:x ≠ "__name__" := by decide) (QO:(x==("__debug__" : Str))=false:=by decide)
  (he:starEach (e::es) X.env=(false,eval e X.env)::starEach es X.env:=by rfl) (MH:(backTo pos (starEach es X.env)).any (·.1)=false:=by rfl):PE X (.Call (.Name x p) (e::es) [] pos) (tCB r t):=by
 intro pins s σ H Q I h;refine TP (df I hg hm hv ?_ hn QO);exact PyProof.Rows.callWith_type1 (Lj (ha pos pins s σ H _ I h) fun us s1 ⟨vs,H1,I1,r1,q1⟩=>hc pins s1 σ H1 vs us Q I1 r1 q1) he MH
end
end L2
namespace HT
open PySem PyProof.Rows
def lexLt:yaf->yaf->Bool
 |[],[]=>false
 |[],_::_=>true
 |_::_,[]=>false
 |x::xs,y::ys=>if x=y then lexLt xs ys else decide (x<y)
section
open PySem.SeqAt
open PySem.AutoSeq1 (wpAny_loadPart')
open PySem.MeetsSeq PySem.MeetsSeq2 PySem.MeetsSeq3
end
section
variable{prog:Program}{w:World}{A:Around}{E:yaa}{s:Shared}
def LP(n d:Nat):yap->Nat
 |none=>d
 |some v=>if v<0 then(v+(n:Int)).toNat else min v.toNat n
theorem Eg(n d:Nat):LP n d none=d:=rfl
def GD(n d k:Nat):LP n d (some (k:Int))=min k n:=by show(if(k:Int)<0 then((k:Int)+(n:Int)).toNat else min (k:Int).toNat n)=min k n;rw[K3 (by lia),Uz]
def Ji(n d:Nat)(hd:d<=n)(o:yap):LP n d o<=n:=by
 cases o with
 |none=>exact hd
 |some v =>
  show(if v<0 then(v+(n:Int)).toNat else min v.toNat n)<=n;by_cases hv:v<0
  ·rw[K4 hv];lia
  ·rw[K3 hv];exact Nat.min_le_right _ _
def ye(v:Int)(n d:Nat):(if v<0 then max (v+(n:Int)) 0 else min v (n:Int))=((LP n d (some v):Nat):Int):=by
 show(if v<0 then max (v+(n:Int)) 0 else min v (n:Int))=(((if v<0 then(v+(n:Int)).toNat else min v.toNat n):Nat):Int);by_cases hv:v<0
 ·simp only[K4 hv];lia
 ·simp only[K3 hv];lia
def zD(lo hi:yap)(n:Nat):Builtin.Slice.sliceAdjust lo hi 1 (n:Int)=(((LP n 0 lo:Nat):Int),((LP n n hi:Nat):Int)):=by
 have h1:¬((1:Int)<0):=by lia
 unfold Builtin.Slice.sliceAdjust;simp only[h1,if_false];refine Pj ?_ ?_
 ·cases lo with
  |none=>rfl
  |some v=>exact ye v n 0
 ·cases hi with
  |none=>rfl
  |some v=>exact ye v n n
def Ao(i j:Nat):Builtin.Slice.slicePlaces (i:Int) (j:Int) 1=j - i:=by
 unfold Builtin.Slice.slicePlaces;have h1:(1:Int) > 0:=by lia
 simp only[h1,if_true,Int.ediv_one];split<;>lia
def rM{Q:yap->Shared->Prop}(p:IsPart v o)(h:Q o s):wpAny (model prog w) A (Builtin.Slice.slicePartIndex v) Q E s:=by
 cases p with
 |none=>exact slicePart_none h
 |int i t=>exact slicePart_int h
def qr{sl:Addr}{vl vu:Value}{lo hi:yap}{n:Nat}{Q:Int×Int×Nat->Shared->Prop}(hs:s.heap.IsSliceOf sl vl vu .none)(pl:IsPart vl lo)(pu:IsPart vu hi)
  (h:Q (((LP n 0 lo:Nat):Int),1,LP n n hi - LP n 0 lo) s):wpAny (model prog w) A (Builtin.Slice.sliceApplied (.ref sl) (pure (n:Int))) Q E s:=by
 obtain⟨os,S4,hcs,LQ⟩:=id hs;unfold Builtin.Slice.sliceApplied Builtin.Slice.sliceFields;refine K1 (K1 (Oy S4 LQ (x:=vl) rfl (K1 (Oy S4 LQ (x:=vu) rfl (K1 (Oy S4 LQ (x:=.none) rfl (Le ?_)))))));refine K1 (slicePart_none ?_);show wpAny _ _ (if((1:Int)==0)=true then _ else _) _ _ s;rw[K3 (by decide)];refine K1 (rM pl (K1 (rM pu (K1 (Le ?_)))));show wpAny _ _ (match Builtin.Slice.sliceAdjust lo hi 1 (n:Int)with|(lo,hi)=>pure (lo,(1:Int),Builtin.Slice.slicePlaces lo hi 1)) _ _ s;rw[zD lo hi n];show wpAny _ _ (pure (((LP n 0 lo:Nat):Int),(1:Int),Builtin.Slice.slicePlaces ((LP n 0 lo:Nat):Int) ((LP n n hi:Nat):Int) 1)) _ _ s;rw[Ao];exact Le h
def D3(xs:yan)(i k:Nat):((List.range k).filterMap fun(m:Nat)=>xs[((i:Int)+(m:Int)*1).toNat]?).toArray=((xs.toList.drop i).take k).toArray:=by
 have e:(fun(m:Nat)=>xs[((i:Int)+(m:Int)*1).toNat]?)=fun m=>xs[i+m]?:=by
  funext m
  have:((i:Int)+(m:Int)*1).toNat=i+m:=by lia
  rw[this]
 rw[e];have:=pick_run xs i k;rw[List.filterMap_map]at this;have e2:((fun x=>xs[x]?)∘fun x=>i+x)=fun m=>xs[i+m]?:=rfl
 rw[e2]at this;rw[this]
def o7{t sl:Addr}{items:yan}{vl vu:Value}{lo hi:yap}{Q:yaa}(ht:IsTup s.heap t items)(hs:s.heap.IsSliceOf sl vl vu .none)(pl:IsPart vl lo)(pu:IsPart vu hi)
  (hw:¬(LP items.size 0 lo=0/\LP items.size items.size hi=items.size))
  (h:Q (.ref s.heap.objs.size) {s with heap:=s.heap.push {cls:=.type "tuple", data:=.seq ((items.toList.drop (LP items.size 0 lo)).take (LP items.size items.size hi - LP items.size 0 lo)).toArray} })
  (hsz:items.size<=sizeLine):wpAny (model prog w) A (getItem (.ref t) (.ref sl)) Q E s:=by
 have QP:sizeOk (.seq ((items.toList.drop (LP items.size 0 lo)).take (LP items.size items.size hi - LP items.size 0 lo)).toArray):=by
  show((items.toList.drop (LP items.size 0 lo)).take (LP items.size items.size hi - LP items.size 0 lo)).toArray.size<=sizeLine;rw[M3,Qj,VB,NV]
  lia
 have hj:LP items.size items.size hi<=items.size:=Ji _ _ (LG _) hi;obtain⟨os,S4,hcs,LQ⟩:=id hs;have hTs:s.TypeIs (.ref sl) "slice" := ⟨os,S4,hcs⟩;unfold getItem
 try with_reducible refine OR ?_
 first|refine K1 (Le ?_)|skip
 refine K1 (wpAny_sequenceKey ht.typeIs (by decide) ?_);refine K1 (SJ (name:=Str.ofString "__getitem__") ht.typeIs PyProof.Rows.slot_tuple_getitem
  (Q0 PyProof.Rows.slot_tuple_getitem ht.typeIs entry_tuple_getitem ?_ (args_tuple_getitem _ _)))
 show wpAny _ _ (Builtin.Tuple.tupleItemsOf (.ref t) >>= _) _ _ s;refine K1 (tupleItemsOf_ ht ?_);refine K1 (wpAny_typeOf hTs ?_);rw[K4 (by decide)];refine K1 (qr hs pl pu ?_);have VQ:¬((((LP items.size 0 lo:Nat):Int)==0 && (1:Int)==1 && (LP items.size items.size hi - LP items.size 0 lo)==items.size)=true):=by intro q;rw[TU,TU]at q;have q1:((LP items.size 0 lo:Nat):Int)=0:=eq_of_beq q.1.1;have q2:LP items.size items.size hi - LP items.size 0 lo=items.size:=eq_of_beq q.2;exact hw ⟨by lia,by lia⟩
 show wpAny _ _ (if(((LP items.size 0 lo:Nat):Int)==0 && (1:Int)==1 && (LP items.size items.size hi - LP items.size 0 lo)==items.size)=true then _ else _) _ _ s;rw[K3 VQ,D3]
 first
  |exact K1 (m:=Builtin.Tuple.tupleExact _) (Rk (Le ⟨_,rfl,Le h⟩) QP)
  |exact K1 (m:=Builtin.Tuple.tupleExact _) (Rk (K1 (Le (Le ⟨_,rfl,Le h⟩))) QP)
  |exact K1 (K1 (m:=Builtin.Tuple.tupleExact _) (Rk (Le (Le ⟨_,rfl,Le h⟩)) QP))
  |exact K1 (K1 (m:=Builtin.Tuple.tupleExact _) (Rk (Le ⟨_,rfl,Le h⟩) QP))
end
end HT
namespace L2
open PySem PySem.Spec PyProof.Rows
abbrev TO:=St->Hp->(yap->Hp->Prop)->Prop
def intsAre_of{ns:yaf}:∀{us:yad},Vals (ns.map V.int) us->IntsAre us ns:=by
 induction ns with
 |nil=>intro us r;rw[Q4]at r;cases r;exact .nil
 |cons n ns ih =>
  intro us r;rw[LD]at r;cases r with
  |cons r1 r2 =>
   obtain⟨t,e⟩:=r1;subst e;exact .cons n t (ih r2)
section
variable{X:Cx}{e:Expr}{te:TE}{lo hi:Option Expr}{tl th:TO}{pos p2:Pos}
def SlR(X:Cx)(r:V->yap->yap->Hp->VK->Prop):Prop :=
 ∀ (pins:yab) (s:Shared) (σ:St) (H:Hp) (x:V) (v vl vu:Value) (lo hi:yap) (sl:Addr) (Q:VK),Inv X pins σ H s->RelV x v->s.heap.IsSliceOf sl vl vu .none->IsPart vl lo->IsPart vu hi->r x lo hi H Q →
  ∃ T id,typeLookup (.type T) "__getitem__" = pure (some (.builtin id))/\s.TypeIs v T/\wpAny (model X.prog X.w) X.A (getItem v (.ref sl)) (EP X pins σ Q) X.xe s
def mY(xs:yaq)(lo hi:yap):yaq:=(xs.drop (HT.LP xs.length 0 lo)).take (HT.LP xs.length xs.length hi - HT.LP xs.length 0 lo)
def pG(xs:yaq)(lo hi:yap):(mY xs lo hi).length<=xs.length:=by
 unfold mY;rw[Qj,VB]
 lia
def KD(K:yac):V->yap->yap->Hp->VK->Prop:=fun x lo hi H Q=>∃a xs,x=.ref a/\LO K H a xs ∧
 ¬ (HT.LP xs.length 0 lo=0/\HT.LP xs.length xs.length hi=xs.length)/\∀p,H p=none->Q (.ref p) (upd H p (.tup (mY xs lo hi)))
def Jm:SlR X (KD X.K):=by
 intro pins s σ H x v vl vu lo hi sl Q I rx hs pl pu h;obtain⟨a,xs,rfl,hx,hw,q⟩:=h;cases rx;obtain⟨K9,r,ht,hz⟩:=I.tuple hx;have hlen:K9.toArray.size=xs.length:=by rw[M3];exact r.length.symm
 refine⟨"tuple", _,PyProof.Rows.slot_tuple_getitem.lookup,ht.typeIs,?_⟩;refine HT.o7 ht hs pl pu (by rw[hlen];exact hw) ?_ (by rw[hlen];exact hz);rw[hlen];refine⟨.ref s.heap.objs.size,_,I.laid (t':=s.toks) (o:=.tup (mY xs lo hi)) (fun b ob q=>Mb _ q) (LG _) ?_,rfl,q _ (I.Lu.fresh (LG _))⟩;exact⟨NW (pG xs lo hi) hz,_,(r.drop (HT.LP xs.length 0 lo)).take (HT.LP xs.length xs.length hi - HT.LP xs.length 0 lo),IsTup.new _ _⟩
end
def ixN(n:Nat)(i:Int):Option Nat:=if 0<=i then(if i<n then some i.toNat else none)else if -(n:Int)<=i then some (i+n).toNat else none
def Mm{α:Type}(xs:List α)(i:Int):Option α:=(ixN xs.length i).bind fun j=>xs[j]?
def FP{j:Nat}(h:ixN n i=some j):seqIndex? i n=some j/\j<n/\-(n:Int)<=i/\i<n:=by
 unfold ixN at h;by_cases h0:0<=i
 ·rw[K4 h0]at h;by_cases h1:i<n
  ·rw[K4 h1]at h;have e:i.toNat=j:=Ol h;exact⟨by rw[seqIndex_of h0 h1,e],by lia,by lia,h1⟩
  ·rw[K3 h1]at h;cases h
 ·rw[K3 h0]at h;by_cases h1:-(n:Int)<=i
  ·rw[K4 h1]at h;have e:(i+n).toNat=j:=Ol h;exact⟨by rw[seqIndex_neg (by lia) h1,e],by lia,h1,by lia⟩
  ·rw[K3 h1]at h;cases h
def yc{α:Type}{xs:List α}{i:Int}{v:α}(h:Mm xs i=some v):∃j,seqIndex? i xs.length=some j/\xs[j]?=some v/\j<xs.length/\-(xs.length:Int)<=i/\i<xs.length:=by
 unfold Mm at h;cases e:ixN xs.length i with
 |none=>rw[e]at h;cases h
 |some j =>
  rw[e]at h;obtain⟨h1,h2,h3,h4⟩:=FP e;exact⟨j,h1,h,h2,h3,h4⟩
def aU{α:Type}{xs:List α}{j:Nat}{v:α}(h:xs[j]?=some v):Mm xs (j:Int)=some v:=by
 have hj:j<xs.length:=(L6.mp h).1;have e:ixN xs.length (j:Int)=some j:=by unfold ixN;rw[K4 (by lia),K4 (by lia)];simp
 unfold Mm;rw[e];exact h
def CW{α:Type}(xs:List α)(v:α):Mm (xs++[v]) (-1)=some v:=by
 have hl:(xs++[v]).length=xs.length+1:=by simp
 have e:ixN (xs++[v]).length (-1)=some xs.length:=by
  unfold ixN;rw[hl,K3 (by decide),K4 (by lia)];congr 1
  lia
 unfold Mm;rw[e];show(xs++[v])[xs.length]?=some v;simp
def yb(b:Expr):Prop:=∀o i,subscripted b false o i=operate [o,i] (getItem o i)
def Zi(X:Cx)(r:R2):Prop :=
 ∀ (value slice:Expr) (pins:yab) (s:Shared) (σ:St) (H:Hp) (x y:V) (v u:Value) (Q:VK),Inv X pins σ H s->RelV x v->RelV y u->r x y H Q →
  subscripted slice false v u=operate [v,u] (getItem v u)->wpAny (model X.prog X.w) X.A (subscriptTail value slice v u) (EP X pins σ Q) X.xe s
def MtR(X:Cx)(id:String)(r:V->yaq->Hp->VK->Prop):Prop :=
 ∀ (pins:yab) (s:Shared) (σ:St) (H:Hp) (x:V) (xs:yaq) (v:Value) (us:yad) (Q:VK),Inv X pins σ H s->RelV x v->Vals xs us->r x xs H Q →
  wpAny (model X.prog X.w) X.A (call (.builtin id) (v::us)) (EP X pins σ Q) X.xe s
section
variable{X:Cx}{a b:Expr}{ta tb:TE}{pos:Pos}
def J0(hr:Zi X r)(ha:PE X a ta)(hb:PE X b tb)(hs:yb b):PE X (.Subscript a b pos) (tOp r ta tb):=by intro pins s σ H Q I h;exact Subscript_ (Kh ha hb I h fun v u s2 x y H2 I2 rx ry q=>hr a b pins s2 σ H2 x y v u Q I2 rx ry q (hs _ _))
def Kz(K:yac):R2:=fun x y H Q=>∃p xs i v,x=.ref p/\y=.int i/\SqL K H p xs/\Mm xs i=some v/\Q v H
def KA(K:yac):R2:=fun x y H Q=>∃p xs i v,x=.ref p/\y=.int i/\LO K H p xs/\Mm xs i=some v/\Q v H
def yF:Zi X (Kz X.K):=by
 intro value slice pins s σ H x y v u Q I rx ry h hs;obtain⟨p,xs,i,z,rfl,rfl,hq,he,q⟩:=h;cases rx;obtain⟨t,rfl⟩:=ry;obtain⟨K9,r,pl,hz⟩:=I.list hq;obtain⟨j,h1,h2,h3,h4,h5⟩:=yc he;obtain⟨w,ew,Q6⟩:=r.get h2;have hl:=r.length;have hn:=wA;have fin:EP X pins σ Q w s:=⟨z,H,I,Q6,q⟩;by_cases h0:0<=i
 ·have hj:i.toNat=j:=by
   rw[seqIndex_of h0 h5]at h1;exact Ol h1
  exact item_listR pl.isList h0 (by lia) (by rw[hj];simpa using ew) fin hs
 ·have hj:(i+(K9.toArray.size:Int)).toNat=j:=by
   rw[seqIndex_neg (by lia) h4]at h1;rw[M3,<- hl];exact Ol h1
  exact subscriptTail_builtinR (x:=w) pl.isList.typeIs slot_list_getitem.lookup
   (wpAny_getItem_list_neg (Q:=fun r s'=>r=w/\EP X pins σ Q r s') pl.isList (by lia) (by rw[M3]<;>lia) (by lia) (by rw[hj];simpa using ew) ⟨rfl,fin⟩) hs
def Iy:Zi X (KA X.K):=by
 intro value slice pins s σ H x y v u Q I rx ry h hs;obtain⟨p,xs,i,z,rfl,rfl,hq,he,q⟩:=h;cases rx;obtain⟨t,rfl⟩:=ry;obtain⟨K9,r,pl,hz⟩:=I.tuple hq;obtain⟨j,h1,h2,h3,h4,h5⟩:=yc he;obtain⟨w,ew,Q6⟩:=r.get h2;have hl:=r.length;have hn:=wA;have fin:EP X pins σ Q w s:=⟨z,H,I,Q6,q⟩;exact subscriptTail_builtinR (x:=w) pl.typeIs slot_tuple_getitem.lookup
  (getItem_tuple (j:=j) (Q:=fun r s'=>r=w/\EP X pins σ Q r s') pl (by lia) (by lia) (by rw[M3,<- hl];exact h1) (by simpa using ew) ⟨rfl,fin⟩) hs
theorem Inv.lst(I:Inv X pins σ H s)(h:H p=some (.lst xs)) :
  ∃ (K9:yad) (n:Nat),Vals xs K9/\s.heap.get? p=some {cls:=.type "list", data:=.seq K9.toArray n}/\xs.length<=sizeLine:=by
 obtain⟨z,K9,n,r,e⟩:=I.Lu p _ h;exact⟨K9,n,r,e,z⟩
def w7(lo hi:yap)(n:Nat):(sliceBounds lo hi none n).1=((HT.LP n 0 lo:Nat):Int)/\(sliceBounds lo hi none n).2.1=((HT.LP n n hi:Nat):Int)/\(sliceBounds lo hi none n).2.2=1:=by
 refine⟨?_,?_,rfl⟩
 ·cases lo with
  |none=>simp[sliceBounds,HT.LP]
  |some i =>
   simp only[sliceBounds,HT.LP,Option.getD_none,show(1:Int) > 0 by decide,if_true];by_cases h:i<0
   ·simp only[h,if_true]<;>lia
   ·simp only[h,if_false]<;>lia
 ·cases hi with
  |none=>simp[sliceBounds,HT.LP]
  |some i =>
   simp only[sliceBounds,HT.LP,Option.getD_none,show(1:Int) > 0 by decide,if_true];by_cases h:i<0
   ·simp only[h,if_true]<;>lia
   ·simp only[h,if_false]<;>lia
def uK(K9:yad)(lo hi:yap):slicePick K9.toArray lo hi none=((K9.drop (HT.LP K9.length 0 lo)).take (HT.LP K9.length K9.length hi - HT.LP K9.length 0 lo)).toArray:=by obtain⟨h1,h2,h3⟩:=w7 lo hi K9.toArray.size;unfold slicePick;rw[h1,h2,h3];simp only[sliceRange_one,pick_run,M3]<;>rfl
def vn:oh X (.builtin "len") (fun xs H Q=>∃p ys,xs=[.ref p]/\(SqL X.K H p ys∨LO X.K H p ys)/\Q (.int ys.length) H):=by
 intro pins s σ H xs us Q I r h;obtain⟨p,ys,rfl,hq,q⟩:=h;obtain⟨u,rfl,rx⟩:=vals1 r;cases rx;have hn:=wA;rcases hq with hq|hq
 ·obtain⟨K9,r',pl,hz⟩:=I.list hq;have hlen:=r'.length;exact Calls.call_len_list pl.isList (by simp only[M3]<;>lia) ⟨.int ys.length,H,I.tok _,⟨s.toks+1,by rw[M3,hlen]⟩,q⟩
 ·obtain⟨K9,r',pl,hz⟩:=I.tuple hq;have hlen:=r'.length;exact len_tuple pl (by simp only[M3]<;>lia) ⟨.int ys.length,H,I.tok _,⟨s.toks+1,by rw[M3,hlen]⟩,q⟩
def vo:oh X (.type "list") (fun xs H Q=>∃p ys,xs=[.ref p]/\(SqL X.K H p ys∨LO X.K H p ys)/\∀l,H l=none->Q (.ref l) (upd H l (.lst ys))):=by
 intro pins s σ H xs us Q I r h;obtain⟨p,ys,rfl,hq,q⟩:=h;obtain⟨u,rfl,rx⟩:=vals1 r;cases rx;have fin:∀(K9:yad),Vals ys K9->ys.length<=sizeLine->∀(h':Heap) (c':Nat),(∀b o',s.heap.get? b=some o'->h'.get? b=some o') →
   h'.get? s.heap.objs.size=some {cls:=.type "list", dict:=none,data:=.seq K9.toArray c',slots:=#[]}->EP X pins σ Q (.ref s.heap.objs.size) {s with heap:=h'}:=fun K9 r' hz h' c' kp e =>
  ⟨.ref s.heap.objs.size,_,I.laid (t':=s.toks) kp (LG _) (show bH X.prog X.w _ h' _ (.lst ys)from⟨hz,K9,c',r',e⟩),rfl,q _ (I.Lu.fresh (LG _))⟩
 rcases hq with hq|hq
 ·obtain⟨K9,r',pl,hz⟩:=I.list hq;have hlen:=r'.length;obtain⟨o,ho,hc,n,hd⟩:=pl.isList;exact call_list_seq p (.inl rfl) ho hc hd (fun h' c' kp e=>fin K9 r' hz h' c' kp e) (by simp only[M3]<;>lia)
 ·obtain⟨K9,r',pl,hz⟩:=I.tuple hq;have hlen:=r'.length;obtain⟨o,ho,hc,n,hd⟩:=pl;exact call_list_seq p (.inr rfl) ho hc hd (fun h' c' kp e=>fin K9 r' hz h' c' kp e) (by simp only[M3]<;>lia)
def UQ(K:yac)(T:String)(x:V)(H:Hp):Prop:=match x with
 |.str _=>T = "str"
 |.int _=>T = "int"
 |.ref p=>(T = "list" /\∃xs,SqL K H p xs)∨(T = "tuple" /\∃o,K.lookup p=some o/\o.cls=.type "tuple" /\ o.dict=none) ∨
   (T = "dict" /\ ((∃kvs,H p=some (.dK kvs))∨∃ kvs,H p=some (.dT kvs)))∨(T = "set" /\∃S n,H p=some (.set S n))
 |_=>False
def Cu(I:Inv X pins σ H s)(r:RelV x v)(ty:UQ X.K T x H) :
  s.TypeIs v T/\∀a,v=.ref a->∃ob,s.heap.get? a=some ob/\ob.dict=none:=by
 cases x with
 |str z =>
  obtain⟨t,rfl⟩:=r;cases(show T = "str" from ty);exact⟨typeIs_str s z t,fun _ e=>nomatch e⟩
 |int i =>
  obtain⟨t,rfl⟩:=r;cases(show T = "int" from ty);exact⟨typeIs_int s i t,fun _ e=>nomatch e⟩
 |ref p =>
  cases r;rcases ty with⟨rfl,xs,hq⟩| ⟨rfl,o,hk,hc,hd⟩| ⟨rfl,hk⟩| ⟨rfl,S,n,hk⟩
  ·obtain⟨K9,_,pl,_⟩:=I.list hq;refine⟨pl.isList.typeIs,fun a e=>?_⟩;cases e;obtain⟨o,n,e,c,hd,_⟩:=pl;exact⟨o,e,hd⟩
  ·refine⟨⟨o,I.PQ p o hk,hc⟩,fun a e=>?_⟩;cases e;exact⟨o,I.PQ _ o hk,hd⟩
  ·have z:∃o,s.heap.get? p=some o/\o.ExactDict:=by
    rcases hk with⟨kvs,hk⟩| ⟨kvs,hk⟩
    ·obtain⟨_,_,_,_,o,_,_,e,ex,_⟩:=I.Lu p _ hk;exact⟨o,e,ex⟩
    ·obtain⟨_,_,_,_,o,_,_,e,ex,_⟩:=I.Lu p _ hk;exact⟨o,e,ex⟩
   obtain⟨o,e,ex⟩:=z;refine⟨⟨o,e,ex.1⟩,fun a e2=>?_⟩;cases e2;exact⟨o,e,ex.2.1⟩
  ·obtain⟨o,_,_,_,e,ex,_⟩:=I.Lu p _ hk;refine⟨⟨o,e,ex.1⟩,fun a e2=>?_⟩;cases e2;exact⟨o,e,ex.2.1⟩
 |_=>exact False.elim ty
def KL(K:yac)(T:String)(r:V->yaq->Hp->VK->Prop)(to:TE):TE:=fun σ H Q=>to σ H fun x H1=>UQ K T x H1/\r x [] H1 Q
def tBM(K:yac)(T:String)(r:V->yaq->Hp->VK->Prop)(to:TE)(t:TA):TE:=fun σ H Q=>to σ H fun x H1=>UQ K T x H1/\t σ H1 fun xs H2=>r x xs H2 Q
variable{o e:Expr}{es:yai}{to:TE}{t:TA}{name:Str}{apos cpos:Pos}{T id:String}{r:V->yaq->Hp->VK->Prop}
def IV (pa:PlainAttrs T) (slot:Slot T name id) (WJ:typeOf (.builtin id)=pure (.type "method_descriptor")) (hm:MtR X id r) (ho:PE X o to)
  (ML:attributeBase o name X.env (eval o X.env)=eval o X.env:=by rfl) (MM:(apos.endLine==cpos.line)=true:=by rfl):PE X (.Call (.Attribute o name apos) [] [] cpos) (KL X.K T r to):=by
 intro pins s σ H Q I h;refine wpAny_Call_method0_late ML MM (Lj (ho pins s σ H _ I h) fun v s1 ⟨x,H1,I1,r1,ty,q1⟩=>?_);obtain⟨h1,h2⟩:=Cu I1 r1 ty;exact⟨T,id,pa,slot,WJ,h1,h2,Calls.callWith_builtin rfl (PySem.evalArgs_none (hm pins s1 σ H1 x [] v [] Q I1 r1 .nil q1))⟩
def An (pa : PlainAttrs T) (slot : Slot T name id) (WJ : typeOf (.builtin id) = pure (.type "method_descriptor")) (hm : MtR X id r) (ho : PE X o to) (ha : PA X (e :: es) t)
  (ML : attributeBase o name X.env (eval o X.env) = eval o X.env := by rfl)
  (Qo : ((backTo cpos (starEach (e :: es) X.env)).all (fun x => !x.1) && (backToKw cpos (keywordEach [] X.env)).all (fun x => x.1.isSome)
   && decide ((e :: es).length + ([] : List Keyword).length + (if ([] : List Keyword).isEmpty then 0 else 1) < 30)) = true := by rfl)
  (MM : (apos.endLine == cpos.line) = true := by rfl) (hs : starEach (e :: es) X.env = (false, eval e X.env) :: starEach es X.env := by rfl) (Nz : (backTo cpos (starEach es X.env)).any (·.1) = false := by rfl) :
  PE X (.Call (.Attribute o name apos) (e :: es) [] cpos) (tBM X.K T r to t) := by
 intro pins s σ H Q I h;refine wpAny_Call_method_late ML Qo MM rfl (Lj (ho pins s σ H _ I h) fun v s1 ⟨x, H1, I1, r1, ty, q1⟩ => ?_);obtain ⟨h1, h2⟩ := Cu I1 r1 ty;refine ⟨T, id, pa, slot, WJ, h1, h2, ?_⟩;have hA := ha cpos pins s1 σ H1 _ I1 q1;rw [hs] at hA ⊢;refine Calls.callWith_builtin (by show (false || (backTo cpos (starEach es X.env)).any (·.1)) = false; rw [Nz] <;> rfl) (Calls.evalArgs_plain ?_);exact Lj hA fun us s2 ⟨vs, H2, I2, r2, q2⟩ => hm pins s2 σ H2 x vs v us Q I2 r1 r2 q2
end
def MtM(X:Cx)(id:String)(r:V->yaq->Hp->VK->Prop):Prop :=
 ∀ (pins:yab) (s:Shared) (σ:St) (H:Hp) (x:V) (xs:yaq) (v:Value) (us:yad) (Q:VK),Inv X pins σ H s->RelV x v->Vals xs us->r x xs H Q →
  wpAny (model X.prog X.w) X.A (call (.builtin id) (v::us)) (EP X pins σ Q) X.xe s
def Vals.one:∀{x:V} {us:yad},Vals [x] us->∃u,us=[u]/\RelV x u
 |_,_,.cons r .nil=>⟨_,rfl,r⟩
def Vals.zero:∀{us:yad},Vals [] us->us=[]
 |_,.nil=>rfl
theorem Vals.dropLast(h:Vals xs us):Vals xs.dropLast us.dropLast:=by
 induction h with
 |nil=>exact .nil
 |cons r t ih =>
  cases t with
  |nil=>exact .nil
  |cons q t'=>exact .cons r ih
def zU{α:Type}(l:List α):l.eraseIdx (l.length - 1)=l.dropLast:=by
 induction l with
 |nil=>rfl
 |cons a r ih =>
  cases r with
  |nil=>rfl
  |cons b r =>
   have e:(a::b::r).length - 1=((b::r).length - 1)+1:=by
    have h1:(a::b::r).length=r.length+2:=rfl;have h2:(b::r).length=r.length+1:=rfl
    lia
   rw[e,List.eraseIdx_cons_succ,ih]
   all_goals rfl
section
variable{X:Cx}{pins:yab}{σ:St}{H:Hp}{s:Shared}{l b:Addr}{xs ys zs:yaq}
def Inv.UR{K9 its':yad}{f:yan->yan}{t':Nat}(I:Inv X pins σ H s)(hH:H l=some (.lst xs))
  (e:s.heap.get? l=some {cls:=.type "list", data:=.seq K9.toArray n}) (hf:f K9.toArray=its'.toArray) (hv:Vals ys its') (hz:ys.length<=sizeLine) :
  Inv X pins σ (upd H l (.lst ys)) {s with heap:=s.heap.update l (Obj.mapSeq f),toks:=t'}:=by
 have q:=PySem.IsL.update e f;rw[hf]at q;refine I.write (x:=l) (e:=l) (by rw[hH];exact trivial) (.inl rfl) (fun b' u hb hu=>(Rh s.heap (Obj.mapSeq f) (Ne.symm hb)).trans hu) ⟨_,q⟩ ?_;exact⟨hz,its',_,hv,q⟩
def Inv.S5 (I:Inv X pins σ H s) (hH:H l=some (.lst xs)):xs.length<=sizeLine/\∃(K9:yad) (n:Nat),Vals xs K9/\xs.length=K9.length/\s.heap.get? l=some {cls:=.type "list", data:=.seq K9.toArray n}:=by obtain⟨z,K9,n,r,e⟩:=I.Lu l _ hH;exact⟨z,K9,n,r,r.length,e⟩
def DI{n:Nat}(h:n<=sizeLine):Builtin.List.listTooLong n=false:=by unfold Builtin.List.listTooLong;exact Q1 (by lia)
end
section
variable{X:Cx}
def Gr:V->yaq->Hp->VK->Prop:=fun x vs H Q=>∃l xs y,x=.ref l/\vs=[y]/\H l=some (.lst xs)/\xs.length<sizeLine/\Q .LJ (upd H l (.lst (xs++[y])))
def nB:MtM X "list.append" Gr:=by
 intro pins s σ H x vs v us Q I rx rv h;obtain⟨l,xs,y,rfl,rfl,hH,hz,q⟩:=h;cases rx;obtain⟨u,rfl,ru⟩:=rv.one;obtain⟨z,K9,n,r,hl,e⟩:=I.S5 hH;refine call_meets F.slot_list_append ⟨_,e,rfl⟩ F.entry_list_append (F.args_list_append_2 _ _) (PySem.list_append l K9.toArray n u (by rw[M3];lia)) ⟨e,?_⟩;refine⟨.LJ,_,I.UR (its':=K9++[u]) hH e (by simp) (r.append (.cons ru .nil)) ?_,rfl,q⟩;rw[MG,Sn]
 lia
def Gu:V->yaq->Hp->VK->Prop:=fun x vs H Q=>∃l b xs zs,x=.ref l/\vs=[.ref b]/\H l=some (.lst xs)/\H b=some (.lst zs)/\xs.length+zs.length<=sizeLine/\Q .LJ (upd H l (.lst (xs++zs)))
def BH:MtM X "list.extend" Gu:=by
 intro pins s σ H x vs v us Q I rx rv h;obtain⟨l,b,xs,zs,rfl,rfl,hH,hB,hz,q⟩:=h;cases rx;obtain⟨u,rfl,ru⟩:=rv.one;cases ru;obtain⟨z,K9,n,r,hl,e⟩:=I.S5 hH;obtain⟨z2,S6,n2,r2,hl2,e2⟩:=I.S5 hB;have hsz:K9.toArray.size+S6.toArray.size<=sizeLine:=by rw[M3,M3];lia
 have WK:¬(!K9.toArray.isEmpty && Builtin.List.listTooLong (K9.toArray.size+S6.toArray.size))=true:=by rw[DI hsz,Bool.and_false];exact OY
 refine call_meets F.slot_list_extend ⟨_,e,rfl⟩ F.entry_list_extend (F.args_list_extend_2 _ _)
  (AutoSeq1.list_extend_list_list_0 l K9.toArray n b S6.toArray n2 WK (by rw[M3];lia) (by lia)) ⟨e,e2,?_⟩
 refine⟨.LJ,_,I.UR (its':=K9++S6) hH e (by simp) (r.append r2) ?_,rfl,q⟩;rw[MG]
 lia
def KC:V->yaq->Hp->VK->Prop:=fun x vs H Q=>∃l xs y,x=.ref l/\vs=[]/\H l=some (.lst xs)/\xs[xs.length - 1]?=some y/\Q y (upd H l (.lst xs.dropLast))
def IG:MtM X "list.pop" KC:=by
 intro pins s σ H x vs v us Q I rx rv h;obtain⟨l,xs,y,rfl,rfl,hH,hy,q⟩:=h;cases rx;have hus:=rv.zero;subst hus;obtain⟨z,K9,n,r,hl,e⟩:=I.S5 hH;obtain⟨u,hu,ru⟩:=r.get hy;have Qp:K9.toArray[K9.toArray.size - 1]?=some u:=by show K9.toArray[K9.length - 1]?=some u;rw[<- PO,<- hl];exact hu
 refine call_meets F.slot_list_pop ⟨_,e,rfl⟩ F.entry_list_pop (F.args_list_pop_1 _) (MeetsSeq.list_pop_last l K9.toArray n u Qp (by rw[M3];lia)) ⟨e,?_⟩;refine⟨y,_,I.UR (its':=K9.dropLast) hH e ?_ r.dropLast ?_,ru,q⟩
 ·show K9.toArray.eraseIdxIfInBounds (K9.toArray.size - 1)=K9.dropLast.toArray;rw[M3,List.eraseIdxIfInBounds_toArray,zU]
 ·rw[RE]
  lia
end
section
variable{prog:Program}{w:World}{A:Around}{E:yaa}{s:Shared}
set_option maxRecDepth 100000 in
end
end L2
namespace Att
open PySem PySem.W PySem.Calls PyProof.Rows
def q9:∀(ns:yaf) (vs:yad),WellAll P h vs (ns.map WData.int)->IntsAre vs ns:=by
 intro ns
 induction ns with
 |nil =>
  intro vs w;rw[Q4]at w;cases w;exact .nil
 |cons n ns ih =>
  intro vs w;rw[LD]at w;cases w with
  |cons a b =>
   cases a;exact .cons _ _ (ih _ b)
def Cf{l:OpenLaw}{n:Nat}(hn:l.most=some n)
  (S7:l.row.toRowW.claim.pre args=true) (Zj:WellAll P h vals args) :
  ∃ a vs ns,vals=[Value.ref a]/\args=[WData.list (ns.map WData.int)]/\h.get? a=some {cls:=.type "list", data:=.seq vs.toArray}/\IntsAre vs ns/\ns.length<=n:=by
 have Zk:WShape.hasAll [] args [.list .int]=true:=(pre_splitW S7).1;have hc:l.pre.holds [] {args:=args}=true:=(pre_splitW S7).2;obtain⟨d,r,rfl,h1,h2⟩:=hasAllW_cons Zk;obtain rfl:=hasAllW_nil h2;obtain⟨xs,rfl,h3⟩:=hasW_list h1;obtain⟨ns,rfl⟩:=items_int h3;have hlen:ns.length<=n:=by
  unfold OpenLaw.pre at hc;have h4:(WTm.not (.lt (.lit (.int (n:Int))) (.len (.arg 0)))).holds [] {args:=[.list (ns.map .int)]}=true:=by have h4:=(holds_andW hc).1;rw[hn]at h4;exact h4
  have h5:=condW_of h4 (w_not (w_lt w_lit (w_len_list (w_arg rfl))));rw[K8]at h5;refine SN fun q=>?_
  have q':(n:Int)<((ns.length:Nat):Int):=by lia
  first
   |(rw[Qk q']at h5;exact absurd h5 (by decide))
   |(simp at h5;lia)
 cases Zj with
 |cons w1 w2 =>
  cases w2;cases w1 with
  |list ho M7=>exact⟨_,_,ns,rfl,rfl,ho,q9 ns _ M7,hlen⟩
def B6(l:OpenLaw)(args:List WData):l.row.toRowW.claim.post args (.bool true) args=true :=
 postW_of (r:=l.row.toRowW) (X:=(true==true))
  (show WShape.has [] (.bool true) .bool=true by first|rfl|decide|simp[WShape.has,WShape.arms,WShape.armsAll])
  (show(WTm.eq .res (.lit (.bool true))).value [] {args:=args,res:=some (.bool true),after:=args}=some (.bool (true==true))from w_eq_bool (w_res rfl) w_lit) rfl
def xq {l : OpenLaw} {n : Nat} {YP : World -> Heap -> Prop} {d : DefRec}
  (hn : l.most = some n) (WL : d.params.defaults = [])
  (call : ∀ (w : World) (Lq Lh : Shared) (mg mb : yal) (fa : Addr) (o : Obj) (pm cd doc : Value) (a : Addr) (vs : yad) (ns : yaf),
   Ground q loose [] XP w Lq mg mb Lh.heap -> YP w Lh.heap →
   Lh.heap.get? fa = some o -> o.data = .func (docDef d.name d.params d.body d.scope pm cd doc) -> Lh.heap.CodeRec cd d.name -> mg d.name = some (.ref fa) →
   Lh.heap.get? a = some { cls := .type "list", data := .seq vs.toArray } -> IntsAre vs ns -> ns.length <= n -> Lh.gens = #[] →
   codeAny (model l.prog w) callerA (.call (.ref fa) ⟨[.ref a], []⟩) (fun r s' => r = .ok (.ret (.bool true)) /\ OldK Lh.heap s'.heap /\ s'.os = Lh.os /\ AllBare s'.gens) Lh) :
  WalkO q loose XP YP l.row.toRowW d [] (fun f vs => PySem.call f vs) := by
 intro w Lq Lh mg mb G Y fa o pm cd doc dV kV ho hd Oa hD WM hg args vals as S7 hlay hrd Zj hlo;obtain rfl : dV = .none := Dflts.none hD WL;obtain rfl : kV = .none := Dflts.noKw hD;obtain ⟨a, vs, ns, rfl, rfl, US, hints, hlen⟩ := Cf hn S7 Zj;refine enter_call (codeAny_mono (call w Lq Lh mg mb fa o pm cd doc a vs ns G Y ho (fd_plain hd) Oa WM US hints hlen hg) fun r s' hq => ?_);obtain ⟨rfl, h2, h3, h4⟩ := hq;exact ⟨.inl ⟨.bool true, .bool true, [], rfl, fun _ => rfl, .bool true, B6 l _, fun _ => ⟨List.Pairwise.nil, fun _ hm => (nomatch hm)⟩⟩, h2, h3, h4⟩
section
variable{prog:Program}{w:World}{A:Around}{E:yaa}{s:Shared}{K:Frag}
def ledger(h:Heap)(L d:Addr):yab:=(List.range h.objs.size).filterMap fun a=>if a=L∨a=d then none else(h.get? a).map fun o=>(a,o)
end
end Att
namespace L2
open PySem PySem.Spec PyProof.Rows
theorem iQ:∀{vs:yad} {ns:yaf},IntsAre vs ns->Vals (ns.map V.int) vs
 |_,_,.nil=>.nil
 |_,_,.cons n t h=>.cons ⟨t,rfl⟩ (iQ h)
def CO(H:Hp):Prop:=∀b,H b=none∨∃ o xs,H b=some (.frz o (.lst xs))
def Dy{K:yac}{x:Str}{Lh:Shared}{vs:yad}
  (KX:K.In Lh.heap) (Oo:Lh.heap.Ns mainGlobals mg) (hb:Lh.heap.Ns builtinsNs mb) (hbb:∀x:Str,x ≠ "__name__" -> mb x=bootBuiltins x) (Zm:Lh.heap.NoLimit) (hg:Lh.gens=#[])
  (ha:Lh.heap.get? a=some {cls:=.type "list", data:=.seq vs.toArray}) (hi:IntsAre vs ns) (hl:ns.length<=sizeLine) (hr:cA k callerA)
  (F:∀base:Heap,K.In base->base.Ns mainGlobals mg->aJ P w K mg base CX k fa fd [x] sp) (WN:∀(s:Shared) (u:Value),BindsTo s fd ⟨[u],[]⟩ [(x,u)])
  (T7:∀H:Hp,CO H->SqL K H a (ns.map V.int)->sp [.ref a] H (fun v _=>v=.bl true) fun _ _ _=>False)
  (Zn:∀H e s',CX [] H Lh (fun _ _ _=>False) e s'->False) :
  codeAny (model P w) callerA (.call (.ref fa) ⟨[.ref a],[]⟩) (fun r s'=>r=.ok (.ret (.bool true))/\OldK Lh.heap s'.heap/\s'.os=Lh.os/\AllBare s'.gens) Lh:=by
 have rv:=iQ hi;have Zo:=hi.length;have core:∀H:Hp,CO H->SqL K H a (ns.map V.int)->M9 P w H Lh.heap->(∀b,H b≠none->b=a)->(H a≠none->K.lookup a=none) →
   codeAny (model P w) callerA (.call (.ref fa) ⟨[.ref a],[]⟩) (fun r s'=>r=.ok (.ret (.bool true))/\OldK Lh.heap s'.heap/\s'.os=Lh.os/\AllBare s'.gens) Lh:=by
  intro H hO hS Lu hA hK;have QQ:∀{b:Addr} {o:Obj},Lh.heap.get? b=some o->H b=none->(lU Lh.heap H).get? b=some o:=fun e n=>Dp e n
  have WH:∀{b:Addr} {o:Obj} {es:Array DictEntry} {ep:Nat},Lh.heap.get? b=some o->o.data=.dict es ep->H b=none:=fun {b o es ep} e d=>by
   cases q:H b with
   |none=>rfl
   |some u =>
    have e':b=a:=hA b (by rw[q];simp);subst e';rw[ha]at e;cases e;have d':Data.seq vs.toArray _=Data.dict es ep:=d;cases d'
  have Yw:∀{b:Addr} {m:yal},Lh.heap.Ns b m->(lU Lh.heap H).Ns b m:=fun {b m} ⟨o,es,ep,e,d,r⟩=>⟨o,es,ep,QQ e (WH e d),d,r⟩
  have hKb:K.In (lU Lh.heap H):=fun b o e=>QQ (KX b o e) (by
   cases q:H b with
   |none=>rfl
   |some u =>
    have e':b=a:=hA b (by rw[q];simp);subst e';rw[hK (by rw[q];simp)]at e;cases e)
  have hM:Mod K mg (lU Lh.heap H):=⟨hKb,Yw Oo,⟨mb,Yw hb,hbb⟩,let ⟨mc,h1,h2⟩:=Zm;⟨mc,Yw h1,h2⟩⟩;have e0:ze P w K mg (lU Lh.heap H) callerA [] Lh H:=⟨rfl,hM,fun b o e=>F2 e,Nat.le_of_eq (Bq _ _),trivial,fun b hb=>absurd (show b∈([]:yae)from hb) (by simp),Lu,.of_eq hg⟩;refine codeAny_mono ((F _ hKb (Yw Oo)).run callerA [] Lh H ⟨[.ref a],[]⟩ [.ref a] [.ref a] _ _ hr e0 (WN Lh (.ref a)) (.cons rfl .nil) (T7 H hO hS)) fun r s' h=>?_
  cases r with
  |error e=>exact(Zn H e s' h).elim
  |ok fl =>
   cases fl with
   |next=>exact False.elim h
   |brk=>exact False.elim h
   |cont=>exact False.elim h
   |ret u =>
    obtain⟨v,H',os,bare,un,Zp,r',q⟩:=h;have q':v=.bl true:=q;subst q';obtain rfl:u=Value.bool true:=r';refine⟨rfl,OldK.of_keep fun b o e=>?_,os,bare⟩;cases q:H b with
    |none=>exact un.keep b o e q (by intro z;exact absurd (show b∈([]:yae)from z) (by simp)) (by simp)
    |some u =>
     rcases hO b with z|⟨ob,xs,z⟩
     ·rw[q]at z;cases z
     ·have z2:=un.O0 b ob _ z;obtain⟨e1,_⟩:=Lu b _ z;obtain⟨e2,_⟩:=Zp b _ z2;rw[e]at e1;cases e1;exact e2
 cases hk:K.lookup a with
 |some o =>
  have e:=KX a o hk;rw[ha]at e;cases e;refine core (fun _=>none) (fun _=>.inl rfl) (.inr ⟨_,vs.toArray,_,hk,rfl,rfl,rfl,by rw[M3,Zo];exact hl,by simpa using rv⟩) (fun b u z=>by have z':(none:Option HO)=some u:=z;cases z') (fun b z=>absurd rfl z) fun z=>absurd rfl z
 |none =>
  refine core (fun b=>if b=a then some (.frz {cls:=.type "list", data:=.seq vs.toArray} (.lst (ns.map V.int)))else none) (fun b=>?_) (.inl (.inr ⟨{cls:=.type "list", data:=.seq vs.toArray},K4 rfl⟩)) (fun b u z=>?_) (fun b z=>?_) fun _=>hk
  ·by_cases hb:b=a
   ·exact .inr ⟨_,_,K4 hb⟩
   ·exact .inl (K3 hb)
  ·by_cases hb:b=a
   ·have z':=(K4 hb).symm.trans z;cases z';subst hb;exact⟨ha,by rw[K8];exact hl,vs,_,rv,ha⟩
   ·have z':=(K3 hb).symm.trans z;cases z'
  ·by_cases hb:b=a
   ·exact hb
   ·exact absurd (K3 hb) z
def GX {l : PySem.W.OpenLaw} {n : Nat} {YP : World -> Heap -> Prop} {d : DefRec} {K : Params -> yac} {CX : World -> CXT} {sp : World -> Sp} {x : Str}
  (hn : l.most = some n) (hn2 : n <= sizeLine) (WL : d.params.defaults = []) (hr : cA k callerA)
  (hY : ∀ (w : World) (h : Heap), YP w h -> (K w.params).In h)
  (F : ∀ (w : World) (mg : yal) (fa : Addr) (h : Heap), (K w.params).In h -> h.Ns mainGlobals mg -> mg d.name = some (.ref fa) →
   ∃ fd : FuncData, (∀ (s : Shared) (u : Value), BindsTo s fd ⟨[u], []⟩ [(x, u)]) ∧
    ∀ base : Heap, (K w.params).In base -> base.Ns mainGlobals mg -> aJ l.prog w (K w.params) mg base (CX w) k fa fd [x] (sp w))
  (T7 : ∀ (w : World) (H : Hp) (a : Addr) (ns : yaf), ns.length <= n -> CO H -> SqL (K w.params) H a (ns.map V.int) -> sp w [.ref a] H (fun v _ => v = .bl true) fun _ _ _ => False)
  (Zn : ∀ (w : World) (H : Hp) (s : Shared) (e : Value) (s' : Shared), CX w [] H s (fun _ _ _ => False) e s' -> False) :
  PySem.W.WalkO q loose XP YP l.row.toRowW d [] (fun f vs => PySem.call f vs) := by
 refine Att.xq hn WL fun w Lq Lh mg mb fa o pm cd doc a vs ns G Y ho hd Oa WM US hints hlen hg => ?_
 have KX := hY w _ Y;obtain ⟨fd, hb, hF⟩ := F w mg fa _ KX G.T.g WM;exact Dy KX G.T.g G.T.b G.T.builtins G.T.nolimit hg US hints (NW hlen hn2) hr hF hb (fun H hO hS => T7 w H a ns hlen hO hS) fun H e s' => Zn w H Lh e s'
def eR(s:Stmt):Arguments:=match s with
 |.FunctionDef _ a _ _ _ _ _ _ _ _=>a
 |_=>{posonlyargs:=[],args:=[],vararg:=none,kwonlyargs:=[],kw_defaults:=[],kwarg:=none,defaults:=[]}
def cO(s:Stmt):List Stmt:=match s with
 |.FunctionDef _ _ b _ _ _ _ _ _ _=>b
 |_=>[]
def ak(s:Stmt):Scope:=match s with
 |.FunctionDef _ _ _ _ _ _ sc _ _ _=>sc
 |_=>{kind:=.function,names:=[],isGenerator:=false,isCoroutine:=false}
abbrev E0:XK:=fun _ _ _=>False
structure Fun(K:yac)(x qual:Str)(st:Stmt)(f:Addr)(fd:FuncData):Prop where
 ex:∃(oc:Value) (od:Option Addr) (kV doc pm:Value) (an:Option Addr) (Lv ct:Value) (S1:Array (yam)),
  fd=PySem.W.fnOf x qual (eR st) (cO st) (ak st) .none kV doc pm an Lv ct/\K.lookup f=some ⟨oc,od,.func fd,S1⟩/\PySem.W.codeIn K Lv qual=true
 kp:PySem.W.keepIn K (.ref f)=true
def zZ(hr:cA k A):A.units+1<cLine:=Ux (Nat.add_le_add_left (by decide:1<=64) _) hr.units
section
variable{X:Cx}
def pv (i:Nat) {x:Str} (hN:X.N[i]?=some x:=by rfl) (hv:Rt X.env.scope x:=by first|exact Or.inl rfl|exact Or.inr (Or.inl rfl)|exact Or.inr (Or.inr rfl)) (hd:(x==("__debug__" : Str))=false:=by decide)
  (Oa:(x==("__classdict__" : Str))=false:=by decide):PE X (.Name x pos) (Js i):=iF hN hv hd Oa
end
def ar(H H':Hp):Prop:=∀b o,H b=some o->H' b=some o
def ar.refl(H:Hp):ar H H:=fun _ _ h=>h
def ar.trans(a:ar H H1)(b:ar H1 H2):ar H H2:=fun c o h=>b c o (a c o h)
def ar.free(e:ar H H')(h:H' l=Option.none):H l=Option.none:=by
 cases q:H l with
 |none=>rfl
 |some o =>
  rw[e l o q]at h;cases h
def ar.seq{K:yac}{H H':Hp}{a:Addr}{xs:yaq}(e:ar H H')(h:SqL K H a xs):SqL K H' a xs:=by
 rcases h with(h|⟨o,h⟩)|h
 ·exact .inl (.inl (e _ _ h))
 ·exact .inl (.inr ⟨o,e _ _ h⟩)
 ·exact .inr h
end L2
set_option maxHeartbeats 4000000
namespace L2
open PySem PySem.Spec PyProof.Rows
section
variable{κ:Type} [DecidableEq κ]
def dZ(kvs:List (κ×V))(k:κ):Option V:=(kvs.find? fun kv=>decide (kv.1=k)).map (·.2)
def putK(kvs:List (κ×V))(k:κ)(v:V):List (κ×V) :=
 if(kvs.any fun kv=>decide (kv.1=k))=true then kvs.map (fun kv=>if kv.1=k then(kv.1,v)else kv)else kvs++[(k,v)]
theorem Es:dZ ([]:List (κ×V)) k=none:=rfl
def mH{p:κ×V}{r:List (κ×V)}{k:κ}(e:p.1=k):dZ (p::r) k=some p.2:=by simp[dZ,Sr,e]
def mG{p:κ×V}{r:List (κ×V)}{k:κ}(e:¬p.1=k):dZ (p::r) k=dZ r k:=by simp[dZ,Sr,e]
theorem qC(k:κ):∀kvs:List (κ×V),(kvs.any fun kv=>decide (kv.1=k))=(dZ kvs k).isSome
 |[]=>rfl
 |p::r=>by
  rw[List.any_cons];by_cases e:p.1=k
  ·simp only[mH e,Qk e,Bool.true_or,Option.isSome_some]
  ·rw[mG e,Q1 e,Bool.false_or];exact qC k r
def pH(kvs:List (κ×V))(k:κ)(v:V):(putK kvs k v).length<=kvs.length+1:=by
 unfold putK;split
 ·rw[K8];lia
 ·rw[MG,Oj,List.length_nil];lia
def iT.Q7(r:iT o u):o.isSome=u.isSome:=by
 cases o with
 |none=>cases u with
  |none=>rfl
  |some _=>exact(show False from r).elim
 |some _=>cases u with
  |none=>exact(show False from r).elim
  |some _=>rfl
theorem iT.getD(r:iT o u)(rd:RelV d d'):RelV (o.getD d) (u.getD d'):=by
 cases o with
 |none=>cases u with
  |none=>exact rd
  |some _=>exact(show False from r).elim
 |some _=>cases u with
  |none=>exact(show False from r).elim
  |some _=>exact r
def KV.val(r:KV kvs vs)(k:κ):iT (dZ kvs k) (valueAt vs k):=by
 unfold KV at r
 induction r with
 |nil=>exact True.intro
 |@cons p q ps qs h t ih =>
  obtain⟨h1,h2⟩:=h;by_cases e:p.1=k
  ·have e':q.1=k:=h1.symm.trans e;have b:valueAt (q::qs) k=some q.2:=by simp[valueAt,Sr,e']
   rw[mH e,b];exact h2
  ·have e':¬q.1=k:=fun z=>e (h1.trans z)
   have b:valueAt (q::qs) k=valueAt qs k:=by simp[valueAt,Sr,e']
   rw[mG e,b];exact ih
theorem KV.any(r:KV kvs vs)(k:κ):(kvs.any fun kv=>decide (kv.1=k))=vs.any fun kv=>decide (kv.1=k):=by
 unfold KV at r
 induction r with
 |nil=>rfl
 |cons h t ih=>rw[List.any_cons,List.any_cons,ih,h.1]
def KV.UT(r:KV kvs vs)(k:κ)(ry:RelV y u) :
  KV (kvs.map fun kv=>if kv.1=k then(kv.1,y)else kv) (vs.map fun kv=>if kv.1=k then(kv.1,u)else kv):=by
 unfold KV at r ⊢
 induction r with
 |nil=>exact .nil
 |@cons p q ps qs h t ih =>
  rw[LD,LD];refine .cons ?_ ih;obtain⟨h1,h2⟩:=h;by_cases e:p.1=k
  ·rw[K4 e,K4 (h1.symm.trans e)];exact⟨h1,ry⟩
  ·rw[K3 e,K3 (fun z=>e (h1.trans z))];exact⟨h1,h2⟩
def KV.put(r:KV kvs vs)(k:κ)(ry:RelV y u):KV (putK kvs k y) (stored vs k u):=by
 unfold putK stored;rw[r.any k];by_cases e:(vs.any fun kv=>decide (kv.1=k))=true
 ·rw[K4 e,K4 e];exact r.UT k ry
 ·rw[K3 e,K3 e];exact Paired.snoc r ⟨rfl,ry⟩
def KV.keys{kvs:List (κ×V)}{vs:List (κ×Value)}(r:KV kvs vs):kvs.map (·.1)=vs.map (·.1):=by
 unfold KV at r
 induction r with
 |nil=>rfl
 |cons h t ih=>rw[LD,LD,ih,h.1]
theorem KV.length(r:KV kvs vs):kvs.length=vs.length:=Paired.length r
end
def uR(r:RelV (kV k) u):(bQ P w).is k u=true:=by
 cases k with
 |inl i=>obtain⟨t,e⟩:=(show∃t,u=Value.int i t from r);subst e;exact xE P w i t
 |inr x=>obtain⟨t,e⟩:=(show∃t,u=Value.str x t from r);subst e;exact xF P w x t
theorem ug:∀{ks:List Key} {us:yad},Vals (ks.map kV) us->ItemsAre (bQ P w) ks us
 |[],_,r=>by rw[Q4]at r;cases r;exact .nil
 |k::ks,_,r=>by
  rw[LD]at r;cases r with
  |cons h t=>exact .cons (uR h) (ug t)
abbrev KT(H:Hp):List (List Key×V)->List (List Key×Addr×Value)->Prop:=Paired fun p q=>p.1=q.1/\H q.2.1=some (.tup (p.1.map kV))/\RelV p.2 q.2.2
def KT.val(r:KT H kvs xs)(k:List Key):iT (dZ kvs k) ((atKey xs k).map (·.2)):=by
 induction r with
 |nil=>exact True.intro
 |@cons p q ps qs h t ih =>
  obtain⟨h1,_,h2⟩:=h;by_cases e:p.1=k
  ·have e':q.1=k:=h1.symm.trans e;have b:atKey (q::qs) k=some q.2:=by simp[atKey,Sr,e']
   rw[mH e,b];exact h2
  ·have e':¬q.1=k:=fun z=>e (h1.trans z)
   have b:atKey (q::qs) k=atKey qs k:=by simp[atKey,Sr,e']
   rw[mG e,b];exact ih
def KT.UT(r:KT H kvs xs)(k:List Key)(ry:RelV y u) :
  KT H (kvs.map fun kv=>if kv.1=k then(kv.1,y)else kv) (xs.map (putAt k u)):=by
 induction r with
 |nil=>exact .nil
 |@cons p q ps qs h t ih =>
  rw[LD,LD];refine .cons ?_ ih;obtain⟨h1,h2,h3⟩:=h;unfold putAt;by_cases e:p.1=k
  ·rw[K4 e,K4 (h1.symm.trans e)];exact⟨h1,h2,ry⟩
  ·rw[K3 e,K3 (fun z=>e (h1.trans z))];exact⟨h1,h2,h3⟩
def KT.put(r:KT H kvs xs)(k:List Key)(hb:H b=some (.tup (k.map kV)))(ry:RelV y u) :
  KT H (putK kvs k y) (storedH xs k b u):=by
 have e:(kvs.any fun kv=>decide (kv.1=k))=(atKey xs k).isSome:=by rw[qC,(r.val k).Q7,Option.isSome_map]
 unfold putK storedH;rw[e];by_cases q:(atKey xs k).isSome=true
 ·rw[K4 q,K4 q];exact r.UT k ry
 ·rw[K3 q,K3 q];exact Paired.snoc r ⟨rfl,hb,ry⟩
def KT.keeps{H':Hp}(r:KT H kvs xs)(ht:∀b ys,H b=some (.tup ys)->H' b=some (.tup ys)):KT H' kvs xs :=
 Paired.UI r fun _ _ z=>⟨z.1,ht _ _ z.2.1,z.2.2⟩
section
variable{P:Program}{w:World}{H:Hp}{h:Heap}{a:Addr}
def EV(ok:M9 P w H h)(e:Rd H a u):bH P w H h a u:=e.ok ok
def qS(ok:M9 P w H h)(e:Rd H a (.dK kvs)):kvs.length<=sizeLine/\(a==sysModules)=false/\∃vs,KV kvs vs/\h.DictOf (bQ P w) a vs :=
 show bH P w H h a (.dK kvs)from EV ok e
def EN(ok:M9 P w H h)(e:H a=some (.dK kvs)):kvs.length<=sizeLine/\(a==sysModules)=false/\∃vs,KV kvs vs/\h.DictOf (bQ P w) a vs:=qS ok (.inl e)
def rg{ks:List Key}(ok:M9 P w H h)(e:H a=some (.tup (ks.map kV))):(tupleKind (bQ P w)).is h ks a:=by obtain⟨_,K9,r,o,h1,h2,n,h3⟩:=(show bH P w H h a (.tup (ks.map kV))from ok a _ e);exact⟨o,K9.toArray,n,h1,h2,h3,by simpa using ug r⟩
def qT(ok:M9 P w H h)(e:Rd H a (.dT kvs)):kvs.length<=sizeLine/\(a==sysModules)=false ∧
  ∃ xs,KT H kvs xs/\h.DictOfH (tupleKind (bQ P w)) a xs:=by
 obtain⟨z,y,xs,r,o,es,ep,h1,h2,h3,h4,h5⟩:=(show bH P w H h a (.dT kvs)from EV ok e);refine⟨z,y,xs,r,o,es,ep,h1,h2,h3,h4,fun x hx=>?_,h5⟩;have all:∀{l:List (List Key×V)} {m:List (List Key×Addr×Value)},KT H l m->∀x∈m,(tupleKind (bQ P w)).is h x.1 x.2.1:=by
  intro l m q
  induction q with
  |nil=>intro x hx;exact nomatch hx
  |@cons p q ps qs hq t ih =>
   intro x hx;rcases Lp.mp hx with e|hx
   ·subst e;exact rg ok (by rw[<- hq.1];exact hq.2.1)
   ·exact ih x hx
 exact all r x hx
def JH(ok:M9 P w H h)(e:H a=some (.dT kvs)):kvs.length<=sizeLine/\(a==sysModules)=false ∧
  ∃ xs,KT H kvs xs/\h.DictOfH (tupleKind (bQ P w)) a xs:=qT ok (.inl e)
end
def mS(H:Hp)(a:Addr)(y:V)(r:Option V):Prop :=
 (∃kvs k,Rd H a (.dK kvs)/\y=kV k/\r=dZ kvs k)∨∃ kvs k b,Rd H a (.dT kvs)/\y=.ref b/\H b=some (.tup (k.map kV))/\r=dZ kvs k
def uW(H:Hp)(a:Addr)(y v:V)(H':Hp):Prop :=
 (∃kvs k,H a=some (.dK kvs)/\y=kV k/\kvs.length<sizeLine/\H'=upd H a (.dK (putK kvs k v))) ∨
 ∃ kvs k b,H a=some (.dT kvs)/\y=.ref b/\H b=some (.tup (k.map kV))/\kvs.length<sizeLine/\H'=upd H a (.dT (putK kvs k v))
theorem mS.k{H:Hp}{a:Addr}{kvs:List (Key×V)}{k:Key}(e:H a=some (.dK kvs)):mS H a (kV k) (dZ kvs k):=.inl ⟨kvs,k,.inl e,rfl,rfl⟩
theorem uW.k{H:Hp}{a:Addr}{kvs:List (Key×V)}{k:Key}{v:V}(e:H a=some (.dK kvs))(hl:kvs.length<sizeLine):uW H a (kV k) v (upd H a (.dK (putK kvs k v))):=.inl ⟨kvs,k,e,rfl,hl,rfl⟩
section
variable{X:Cx}{pins:yab}{σ:St}{H:Hp}{s:Shared}{a:Addr}{y v:V}{u r:Value}{o:Option V}{A:Around}{E:yaa}
def Inv.big(I:Inv X pins σ H s):sysModules<s.heap.objs.size:=by have h:mainGlobals<s.heap.objs.size:=(I.mod.glob.keeps I.bk).lt;exact Nat.lt_trans (by decide) h
def Bc{Q:yaa}(hu:A.units+1<cLine)(I:Inv X pins σ H s)(g:mS H a y (some v))(ry:RelV y u)(h:∀w' s',Inv X pins σ H s'->RelV v w'->Q w' s') :
  wpAny (model X.prog X.w) A (getItem (.ref a) u) Q E s:=by
 rcases g with⟨kvs,k,e,ey,l⟩| ⟨kvs,k,b,e,ey,eb,l⟩
 ·subst ey;obtain⟨z,hd,vs,rel,dd⟩:=qS I.Lu e;obtain⟨w',hw,Q6⟩:=iT.some_of (v:=v) (o:=valueAt vs k) (by rw[l];exact rel.val k);exact wpAny_getItem_of (uR ry) dd.mapOf hw (h w' _ (I.tok _) Q6)
 ·subst ey;cases(show u=Value.ref b from ry);obtain⟨z,hd,xs,rel,dd⟩:=qT I.Lu e;obtain⟨w',hw,Q6⟩:=iT.some_of (v:=v) (o:=(atKey xs k).map (·.2)) (by rw[l];exact rel.val k);obtain⟨p,hp,hp2⟩:=QW.mp hw;refine wpAny_getItem_heap (tupleKind_room_in1 hu) (rg I.Lu eb) dd hp ?_;rw[hp2];exact h w' _ (I.tok _) Q6
def sx{t':Nat}(I:Inv X pins σ H s)(mu:Wz (H a))(hs:Heap.SameBut a s.heap h')(he:∃q,h'.get? a=some q)(new:bH X.prog X.w (upd H a ob) h' a ob) :
  Inv X pins σ (upd H a ob) {s with heap:=h',toks:=t'} :=
 I.write (x:=a) (e:=a) mu (.inl rfl) (fun b q hb z=>(hs.2 b hb).trans z) he new
def HJ{h':Heap}{kvs:List (Key×V)}(z:kvs.length<=sizeLine)(hd:(a==sysModules)=false)(rel:KV kvs vs)(dd:h'.DictOf (bQ P w) a vs) :
  bH P w H' h' a (.dK kvs):=⟨z,hd,vs,rel,dd⟩
def Be{Q:Unit->Shared->Prop}(hu:A.units+1<cLine)(I:Inv X pins σ H s)(g:uW H a y v H')(ry:RelV y u)(rv:RelV v r)(h:∀s',Inv X pins σ H' s'->Q () s') :
  wpAny (model X.prog X.w) A (setItem (.ref a) u r) Q E s:=by
 rcases g with⟨kvs,k,e,ey,l,eH⟩| ⟨kvs,k,b,e,ey,eb,l,eH⟩
 ·subst ey eH;obtain⟨z,hd,vs,rel,dd⟩:=EN I.Lu e;have hz:vs.length<=sizeLine:=by rw[<- rel.length];exact z
  have hl:(putK kvs k v).length<=sizeLine:=by have:=pH kvs k v;lia
  refine wpAny_setItem_pairs (hsz:=hz) (uR ry) dd fun h' VR hs=>h _ ?_
  have he:∃q,h'.get? a=some q:=let ⟨q,_,_,hq,_⟩:=VR;⟨q,hq⟩;exact sx I (by rw[e];exact True.intro) hs he (HJ hl hd (rel.put k rv) VR)
 ·subst ey eH;cases(show u=Value.ref b from ry);obtain⟨z,hd,xs,rel,dd⟩:=JH I.Lu e;have hz:xs.length<=sizeLine:=by rw[<- Paired.length rel];exact z
  have hl:(putK kvs k v).length<=sizeLine:=by have:=pH kvs k v;lia
  refine wpAny_setItem_heap (hsz:=hz) (tupleKind_room_in1 hu) (rg I.Lu eb) dd fun h' VR hs=>h _ ?_
  obtain⟨q,es,ep,hq,h2,h3,h4,_,h5⟩:=VR;refine sx I (by rw[e];exact True.intro) hs ⟨q,hq⟩ ⟨hl,hd,_,(rel.put k eb rv).keeps fun c ys ec=>?_,q,es,ep,hq,h2,h3,h4,h5⟩;rw[av (jj ec e (fun z=>nomatch z))];exact ec
end
def zy(i:Expr):Prop:=∀ov iv,subscripted i false ov iv=operate [ov,iv] (getItem ov iv)
def GQ{prog:Program}{w:World}{A:Around}{E:yaa}{s:Shared}{env:Env}{value slice:Expr}{pos:Pos}{T id:String}{Q:yaa}
  (hl:typeLookup (.type T) "__getitem__" = pure (some (.builtin id))) (hs:zy slice)
  (h:wpAny (model prog w) A (eval value env) (fun o Lh=>wpAny (model prog w) A (eval slice env) (fun i K6=>K6.TypeIs o T/\wpAny (model prog w) A (getItem o i) Q E K6) E Lh) E s) :
  wpAny (model prog w) A (eval (.Subscript value slice pos) env) Q E s:=by
 refine Subscript_ (OT h (fun o Lh NO=>OT NO (fun i K6 Qq=>?_) fun _ _ x=>x) fun _ _ x=>x);obtain⟨hT,Qq⟩:=Qq;unfold subscriptTail;refine K1 ?_;rw[getitemInPython_of_ne hT.not_modules];refine K1 (VI hT hl ?_);have fin:wpAny (model prog w) A (subscripted slice false o i) (fun r Ny=>wpAny (model prog w) A (letTemporaryGo value o r >>= fun _=>pure r) Q E Ny) E K6:=by rw[hs o i];exact wpAny_operating (OT Qq (fun r Ny Zq=>K1 (wpAny_letTemporaryGo (Le Zq))) fun _ _ x=>x)
 first
  |exact Le (K1 fin)
  |exact K1 (Le (K1 fin))
  |exact K1 fin
def xv (I:Inv X pins σ H s) (g:mS H a y o):s.TypeIs (.ref a) "dict" := by
 rcases g with⟨kvs,k,e,_,_⟩| ⟨kvs,k,b,e,_,_,_⟩
 ·obtain⟨_,_,vs,_,dd⟩:=qS I.Lu e;exact dd.typeIs
 ·obtain⟨_,_,xs,_,dd⟩:=qT I.Lu e;exact dd.typeIs
def J7(td ty:TE):TE:=fun σ H Q=>td σ H fun x H1=>ty σ H1 fun y H2=>∃a v,x=.ref a/\mS H2 a y (some v)/\Q v H2
def J4(td ty tv:TE):TS:=fun D σ H=>tv σ H fun v H1=>td σ H1 fun x H2=>ty σ H2 fun y H3=>∃a H4,x=.ref a/\uW H3 a y v H4/\D.nx σ H4
section
variable{X:Cx}{o i e value:Expr}{pos pos' tpos:Pos}{td ty tv:TE}
def Gj(hu:X.A.units+1<cLine)(ho:PE X o td)(hi:PE X i ty)(hs:zy i):PE X (.Subscript o i pos) (J7 td ty):=by intro pins s σ H Q I h;refine GQ PySem.F.slot_dict_getitem.lookup hs (Lj (ho pins s σ H _ I h) fun u s1 ⟨x,H1,I1,rx,q1⟩=>Lj (hi pins s1 σ H1 _ I1 q1) fun iv s2 ⟨y,H2,I2,ry,a,v,ex,g,q2⟩=>?_);subst ex;obtain rfl:u=Value.ref a:=rx;exact⟨xv I2 g,Bc hu I2 g ry fun w' s3 I3 Q6=>⟨v,H2,I3,Q6,q2⟩⟩
def Gn(hu:X.A.units+1<cLine)(ho:PE X o td)(hi:PE X i ty)(hv:PE X value tv)(hs:swapsWith value (some (.Subscript o i pos')) pos.line X.env=pure false) :
  PS X (.Assign [.Subscript o i pos'] value pos) (J4 td ty tv):=by
 intro pins s σ H D I h;refine wpAny_Assign_Subscript (Lj (hv pins s σ H _ I h) fun r s1 ⟨v,H1,I1,rv,q1⟩=>Lj (ho pins s1 σ H1 _ I1 q1) fun u s2 ⟨x,H2,I2,rx,q2⟩=>Lj (hi pins s2 σ H2 _ I2 q2) fun iv s3 ⟨y,H3,I3,ry,a,H4,ex,g,q3⟩=>?_) hs;subst ex;obtain rfl:u=Value.ref a:=rx;exact Be hu I3 g ry rv fun s4 I4=>⟨σ,H4,I4,q3⟩
end
def Dg (h:Heap) (hb:sysModules<h.objs.size):bH P w H (h.push {cls:=.type "dict", data:=.dict #[]}) h.objs.size (.dK []) :=
 ⟨MK _,beq_eq_false_iff_ne.mpr (Ne.symm (Ms hb)),[],.nil,Heap.DictOf.new h⟩
abbrev VV:List (V×V)->List (Value×Value)->Prop:=Paired fun p q=>RelV p.1 q.1/\RelV p.2 q.2
structure M1(X:Cx)(o:Expr)(m:Str)(apos:Pos)(e:Expr)(cpos:Pos):Prop where
 base:attributeBase o m X.env (eval o X.env)=eval o X.env
 few:((backTo cpos (starEach [e] X.env)).all (fun x=>!x.1) && (backToKw cpos (keywordEach [] X.env)).all (fun x=>x.1.isSome)
  && decide (([e]:yai).length+([]:List Keyword).length+(if([]:List Keyword).isEmpty then 0 else 1)<30))=true
 line:(apos.endLine==cpos.line)=true
 trees:backTo cpos (starEach [e] X.env)=[(false,eval e X.env)]
structure M2(X:Cx)(o:Expr)(m:Str)(apos:Pos)(e f:Expr)(cpos:Pos):Prop where
 base:attributeBase o m X.env (eval o X.env)=eval o X.env
 few:((backTo cpos (starEach [e,f] X.env)).all (fun x=>!x.1) && (backToKw cpos (keywordEach [] X.env)).all (fun x=>x.1.isSome)
  && decide (([e,f]:yai).length+([]:List Keyword).length+(if([]:List Keyword).isEmpty then 0 else 1)<30))=true
 line:(apos.endLine==cpos.line)=true
 trees:backTo cpos (starEach [e,f] X.env)=[(false,eval e X.env),(false,eval f X.env)]
def IsD(H:Hp)(a:Addr):Prop:=(∃kvs,Rd H a (.dK kvs))∨∃ kvs,Rd H a (.dT kvs)
def Iu(I:Inv X pins σ H s)(d:IsD H a) :
  s.TypeIs (.ref a) "dict" /\ (∀b,Value.ref a=.ref b->∃ob,s.heap.get? b=some ob/\ob.dict=none)/\(a==sysModules)=false:=by
 rcases d with⟨kvs,e⟩| ⟨kvs,e⟩
 ·obtain⟨_,hd,vs,_,dd⟩:=qS I.Lu e;refine⟨dd.typeIs,fun b q=>?_,hd⟩;cases q;obtain⟨ob,_,_,h1,h2,_⟩:=dd;exact⟨ob,h1,h2.2.1⟩
 ·obtain⟨_,hd,xs,_,dd⟩:=qT I.Lu e;refine⟨dd.typeIs,fun b q=>?_,hd⟩;cases q;obtain⟨ob,_,_,h1,h2,_⟩:=dd;exact⟨ob,h1,h2.2.1⟩
section
variable{X:Cx}{pins:yab}{σ:St}{H:Hp}{s:Shared}{a:Addr}{y d:V}{u r:Value}{o:Option V}{A:Around}{E:yaa}
def HE{Q:yaa}(hu:A.units+1<cLine)(I:Inv X pins σ H s)(g:mS H a y o)(ry:RelV y u)(rd:RelV d r)(h:∀w' s',Inv X pins σ H s'->RelV (o.getD d) w'->Q w' s') :
  wpAny (model X.prog X.w) A (call (.builtin "dict.get") [.ref a,u,r]) Q E s:=by
 rcases g with⟨kvs,k,e,ey,l⟩| ⟨kvs,k,b,e,ey,eb,l⟩
 ·subst ey;obtain⟨z,hd,vs,rel,dd⟩:=qS I.Lu e;refine call_meetsIn PySem.F.slot_dict_get dd.typeIs PySem.F.entry_dict_get (PySem.F.args_dict_get_3 _ _ _) (meets_dict_get_default (bQ X.prog X.w) a (uR ry) hd r) ⟨_,dd.mapOf,h _ _ (I.tok _) ?_⟩;rw[l];exact(rel.val k).getD rd
 ·subst ey;cases(show u=Value.ref b from ry);obtain⟨z,hd,xs,rel,dd⟩:=qT I.Lu e;refine call_meetsIn PySem.F.slot_dict_get dd.typeIs PySem.F.entry_dict_get (PySem.F.args_dict_get_3 _ _ _) (meetsH_dict_get_default (tupleKind (bQ X.prog X.w)) a b hd r) ⟨tupleKind_room_in1 hu,k,xs,rg I.Lu eb,dd,h _ _ (I.tok _) ?_⟩;rw[l];exact(rel.val k).getD rd
end
def Jq(td ty tx:TE):TE:=fun σ H Q=>td σ H fun x H1=>∃a,x=.ref a/\IsD H1 a/\ty σ H1 fun y H2=>tx σ H2 fun z H3=>∃o,mS H3 a y o/\Q (o.getD z) H3
section
variable{X:Cx}{o e f:Expr}{apos cpos:Pos}{td ty tx:TE}
def DY (hu:X.A.units+1<cLine) (ho:PE X o td) (he:PE X e ty) (hf:PE X f tx) (m:M2 X o "get" apos e f cpos):PE X (.Call (.Attribute o "get" apos) [e,f] [] cpos) (Jq td ty tx):=by
 intro pins s σ H Q I h;refine wpAny_Call_method m.base m.few m.line PySem.F.plainAttrs_dict PySem.F.slot_dict_get PySem.F.type_dict_get (Lj (ho pins s σ H _ I h) fun u s1 ⟨x,H1,I1,rx,a,ex,d,q1⟩=>?_);subst ex;obtain rfl:u=Value.ref a:=rx;obtain⟨t1,t2,_⟩:=Iu I1 d;refine⟨t1,t2,?_⟩;rw[m.trees];refine Calls.callWith_builtin rfl (Calls.evalArgs_plain (Calls.spliced_cons (Lj (he pins s1 σ H1 _ I1 q1) fun iv s2 ⟨y,H2,I2,ry,q2⟩=>
  Calls.spliced_cons (Lj (hf pins s2 σ H2 _ I2 q2) fun fv s3 ⟨z,H3,I3,rz,ov,g,q3⟩=>Calls.spliced_nil ?_))))
 exact HE hu I3 g ry rz fun w' s4 I4 Q6=>⟨_,H3,I4,Q6,q3⟩
end
end L2
namespace PM
def vZ(a b:Int):Int.gcd b (a.fmod b)=Int.gcd a b:=by
 have h:=Int.fmod_add_mul_fdiv a b;have h':a=a.fmod b+a.fdiv b*b:=by rw[Nx];exact h.symm
 rw[Int.gcd_comm a b]
 conv=>rhs;rw[h']
 rw[Int.gcd_add_mul_right_right]
def uc(a:Int){b:Int}(hb:b≠0):(a.fmod b).natAbs<b.natAbs:=by
 by_cases h:0<b
 ·have h1:=Int.fmod_lt_of_pos a h;have h2:=Yf a h
  lia
 ·have h1:b<0:=by lia
  have e:a.fmod b=-((-a).fmod (-b)):=by
   have:=Int.neg_fmod_neg (a:=a) (b:=b)
   lia
  have h2:=Int.fmod_lt_of_pos (-a) (b:=-b) (by lia);have h3:=Yf (-a) (b:=-b) (by lia)
  lia
def g3(x y z:Int):Nat:=Int.gcd (Int.gcd x y:Int) z
def sF(x y z:Int):(g3 x y z:Int)∣x:=TZ (Int.gcd_dvd_left _ _) (Int.gcd_dvd_left _ _)
def vV(x y z:Int):(g3 x y z:Int)∣y:=TZ (Int.gcd_dvd_left _ _) (Int.gcd_dvd_right _ _)
def vW(x y z:Int):(g3 x y z:Int)∣z:=Int.gcd_dvd_right _ _
def HQ{x y z d:Int}(h1:d∣x)(h2:d∣y)(h3:d∣z):d∣(g3 x y z:Int):=VE (VE h1 h2) h3
def sG:g3 x y z=0↔x=0/\y=0/\z=0:=by
 unfold g3;rw[Int.gcd_eq_zero_iff];constructor
 ·rintro⟨h,h3⟩;have h':Int.gcd x y=0:=by lia
  obtain⟨h1,h2⟩:=Int.gcd_eq_zero_iff.mp h';exact⟨h1,h2,h3⟩
 ·rintro⟨h1,h2,h3⟩;subst h1 h2 h3;simp
def MC(x y z l:Int):Int:=if l<0 then -(g3 x y z:Int)else(g3 x y z:Int)
def vO{x y z:Int}(h:¬(x=0/\y=0/\z=0)):MC x y z l≠0:=by
 have:g3 x y z≠0:=fun e=>h (sG.mp e)
 unfold MC;split<;>lia
def yx(x y z l:Int):(MC x y z l).natAbs=g3 x y z:=by unfold MC;split<;>lia
def Ft{x y z t:Int}(h:(g3 x y z:Int)∣t):MC x y z l∣t:=by
 unfold MC;split
 ·exact Int.neg_dvd.mpr h
 ·exact h
def dM{x y z t:Int}(h:(g3 x y z:Int)∣t):t.fdiv (MC x y z l)*MC x y z l=t:=by have h':=Ft (l:=l) h;rw[Int.fdiv_eq_ediv_of_dvd h'];exact Int.ediv_mul_cancel h'
def Jg{x y z:Int}(h:¬(x=0/\y=0/\z=0)):g3 (x.fdiv (MC x y z l)) (y.fdiv (MC x y z l)) (z.fdiv (MC x y z l))=1:=by
 have e1:=dM (l:=l) (sF x y z);have e2:=dM (l:=l) (vV x y z);have e3:=dM (l:=l) (vW x y z);have hn:=vO (l:=l) h;have WO:=yx x y z l;generalize x.fdiv (MC x y z l)=a at e1 ⊢;generalize y.fdiv (MC x y z l)=b at e2 ⊢;generalize z.fdiv (MC x y z l)=c at e3 ⊢;generalize MC x y z l=g at *;have hd:(g3 a b c:Int)*g∣(g3 x y z:Int):=by
  refine HQ ?_ ?_ ?_
  ·rw[<- e1];exact Wt (sF a b c) (Ss _)
  ·rw[<- e2];exact Wt (vV a b c) (Ss _)
  ·rw[<- e3];exact Wt (vW a b c) (Ss _)
 have hd2:g3 a b c*g.natAbs∣g.natAbs:=by rw[WO];have:=Yh.mpr hd;rw[TY]at this;simpa [WO]using this
 have hp:0<g.natAbs:=by lia
 have:=Nat.le_of_dvd hp hd2;have h0:g3 a b c≠0:=by
  intro e;rw[e]at hd2;simp at hd2
  lia
 rcases SV (g3 a b c) 2 with h2|h2
 ·lia
 ·have:2*g.natAbs<=g3 a b c*g.natAbs:=Yl _ h2
  lia
def Gx{x y z l:Int}(hl:l≠0)(hd:(g3 x y z:Int)∣l)(h:¬(x=0/\y=0/\z=0)):0<l.fdiv (MC x y z l):=by
 have e:=dM (l:=l) hd;have hg:g3 x y z≠0:=fun e=>h (sG.mp e)
 have hs:(l<0/\MC x y z l<0)∨(0<l/\0<MC x y z l):=by
  unfold MC;split
  ·left;omega
  ·right;omega
 generalize l.fdiv (MC x y z l)=a at e ⊢;generalize MC x y z l=g at *;rcases TQ a 0 with ha|ha|ha
 ·exfalso;rcases hs with⟨h1,h2⟩| ⟨h1,h2⟩
  ·have:=Vs ha h2;omega
  ·have:=QU ha h2;omega
 ·subst ha;simp at e;omega
 ·exact ha
def ue(a:Int):Int.gcd a 0=a.natAbs:=by simp
def FD(a b:Int):Int.gcd ((a.natAbs:Nat):Int) ((b.natAbs:Nat):Int)=Int.gcd a b:=by unfold Int.gcd;simp
end PM
namespace PX
open PySem PySem.W PySem.Spec PySem.Calls PyProof.Rows PySem.Builtin.ObjectAttr PySem.Builtin.Getset_descriptor
def ExcAt(e c:Addr)(h:Heap):Prop:=∃o vs,h.get? e=some o/\o.cls=.ref c/\o.data=.fields vs
def ExcAt.ty(p:ExcAt e c h):Looks M h (typeOf (.ref e)) (.ref c):=by obtain⟨o,vs,h1,h2,_⟩:=p;exact h2 ▸ (Looks.ld h1).andThen .now
structure zA(K:Frag)(c:Addr):Prop where
 pg:plainGet K c "__class__" = true
 hd:hasDictIn K c=true
 at_:findIn K (.ref c) "__class__" = some (some (.builtin "object.__class__"))
 get:specialIn K (.builtin "object.__class__") "__get__" = some (some (.builtin "getset_descriptor.__get__"))
 takes:takesIn K (.builtin "object.__class__")=some true
 obj:mroIn K c (.type "object")=some true
 not:∀T,(T = "int" ∨ T = "bool" ∨ T = "tuple" ∨ T = "list" ∨ T = "str")->kitOne K (.ref c) (.type T)=some false
structure ko(K:Frag)(c:Addr):Prop where
 cls:(clsIn K c).isSome=true
 ga:findIn K (.ref c) "__getattribute__" = some (some (.builtin "BaseException.__getattribute__"))
 hook:findIn K (.ref c) "__getattr__" = some none
 at_:findIn K (.ref c) "__class__" = some (some (.builtin "object.__class__"))
 get:specialIn K (.builtin "object.__class__") "__get__" = some (some (.builtin "getset_descriptor.__get__"))
 takes:takesIn K (.builtin "object.__class__")=some true
 obj:mroIn K c (.type "object")=some true
 exc:mroIn K c (.type "BaseException")=some true
 not:∀T,(T = "int" ∨ T = "bool" ∨ T = "tuple" ∨ T = "list" ∨ T = "str")->kitOne K (.ref c) (.type T)=some false
section
variable{prog:Program}{w:World}{A:Around}{E:yaa}{s:Shared}{K:Frag}{e c:Addr}
def Kb {R:Result->Shared->Prop} {tp:Value} (X:K.In s.heap) (p:ExcAt e c s.heap) (hm:mroIn K c (.type "object")=some true) (hq:R (.ok (.ret (.ref c))) s) :
  codeAny (model prog w) A (.call (.builtin "getset_descriptor.__get__") ⟨[.builtin "object.__class__", .ref e,tp],[]⟩) R s:=by
 obtain⟨h,g,dr,t,os⟩:=s;have La:=p.ty (M:=model prog w);have Lb:=looks_mroIn (M:=model prog w) X hm;refine codeAny_call_builtin (KF.slot_gs.plain) KF.entry_gs (KF.slot_gs.check _ _ _ _ _ _ _ _ KF.type_class (KF.args_gs _ _ _) ?_);unfold Builtin.«getset_descriptor.__get__» descrGet;rw[dga_obj];refine K1 (Le ?_);unfold descrGetter descrCheckInstance descrNameAndClass isInstance;simp only[KF.owner_class]
 repeat lk
 refine⟨Code.quiet_builtin _ (by decide +kernel),SQ KF.entry_class ?_⟩;unfold Builtin.«object.__class__» shownTypeOf
 repeat lk
 exact hq
def Jx (k:ko K c) (X:K.In h):Looks M h (find (.ref e) (.ref c) "__class__") (.bind (.builtin "getset_descriptor.__get__") (.builtin "object.__class__")):=by have La:=looks_findIn (M:=M) X k.at_;have Lb:Looks M h (getOf (some (.builtin "object.__class__"))) (some (.builtin "getset_descriptor.__get__")):=looks_specialIn X k.get;have Lc:=looks_takesIn (M:=M) X k.takes;refine La.andThen (Lb.andThen ?_);exact(show Looks M h (dataDescriptor? (some (.builtin "object.__class__")) (some (.builtin "getset_descriptor.__get__"))) (some (.builtin "getset_descriptor.__get__", .builtin "object.__class__"))from Lc.andThen .now).andThen (Looks.tag .now)
def GZ{tk:Tok}{Q:Fin->Shared->Prop}(k:ko K c)(X:K.In s.heap)(p:ExcAt e c s.heap)(hq:Q (.done (.ret (.ref c))) s) :
  wpAny (model prog w) A (Builtin.«object.__getattribute__» ⟨[.ref e,.str "__class__" tk],[]⟩) Q E s:=by
 obtain⟨h,g,dr,t,os⟩:=s;have La:=p.ty (M:=model prog w);have Lb:=Jx (M:=model prog w) (e:=e) k X;refine K1 (Le ?_);refine K1 (Le ?_);refine K1 (La.at (K1 (Lb.at ?_)));show wpAny _ _ (bindTo _ _ _ _) _ _ _;unfold bindTo
 repeat (first|with_reducible refine K1 ?_|with_reducible refine OR ?_)
 refine wpAny_call (Kb X p k.obj ?_);exact Le hq
def GY{nv:Value}{Q:Unit->Shared->Prop}(k:ko K c)(X:K.In s.heap)(p:ExcAt e c s.heap)(hq:Q () s) :
  wpAny M A (checkBuiltinCall "BaseException.__getattribute__" ⟨[.ref e,nv],[]⟩) Q E s:=by
 obtain⟨h,g,dr,t,os⟩:=s;have hk:builtinKind "BaseException.__getattribute__" = some .slot:=by decide +kernel
 have T7:splitId "BaseException.__getattribute__" = some ("BaseException", "__getattribute__"):=by decide +kernel
 have ha:=F.args_bexc_ga (.ref e) nv;have La:=p.ty (M:=M);have Lb:=looks_mroIn (M:=M) X k.exc;have Li:Looks M h (isInstance (.ref e) (.type "BaseException")) true:=La.andThen Lb;simp only[checkBuiltinCall,hk,T7];refine K1 (Li.at ?_)
 repeat (first|wp_step)
 exact hq
def x_call{tk:Tok}{R:Result->Shared->Prop}(k:ko K c)(X:K.In s.heap)(p:ExcAt e c s.heap)(hq:R (.ok (.ret (.ref c))) s) :
  codeAny (model prog w) A (.call (.builtin "BaseException.__getattribute__") ⟨[.ref e,.str "__class__" tk],[]⟩) R s :=
 codeAny_call_builtin F.excAttr_ValueError.ga.plain F.entry_bexc_ga (GY k X p (GZ k X p hq))
def Jw{Q:yam->Shared->Prop}(k:ko K c)(X:K.In s.heap)(p:ExcAt e c s.heap)(hq:Q (some (.ref c)) {s with toks:=s.toks+1}) :
  wpAny (model prog w) A (getAttr? (.ref e) "__class__") Q E s:=by
 obtain⟨h,g,dr,t,os⟩:=s;have La:=p.ty (M:=model prog w);have Lb:=looks_findIn (M:=model prog w) X k.ga;have Lc:=looks_findIn (M:=model prog w) X k.hook;have f3:=F.excAttr_ValueError.ga.bind (.ref e);unfold getAttr? getAttrBy? getAttrBy;refine K1 (wpAny_mkText (K1 (T1 (OR (K1 (La.at (K1 (Lb.at ?_))))))));have LV:(Value.builtin "BaseException.__getattribute__" == Value.builtin "object.__getattribute__")=false:=by decide +kernel
 simp only[onTheHeap,Bool.true_and,LV,NN,if_false];unfold getAttrByItsOwn hookBefore;simp only[onTheHeap,if_true];refine K1 (Lc.at ?_);refine K1 (T1 (OR ?_));unfold callGetattribute boundAndCalled;simp only[Bool.false_and,NN,if_false];refine K1 (wpAny_of_eq f3 ?_);refine wpAny_call (x_call k X p ?_);refine Le (a:=Value.ref c) ?_;exact Le hq
def Dx(k:ko K c):KitX K (.ref e) (.ref c) (ExcAt e c) where
 ty:=fun _ _ _ p=>p.ty
 it:=fun _ _ X _=>by
  have h:=k.cls;unfold clsIn at h;split at h
  ·rename_i c' d' cd' Y9 ho;intro A' Q' E' s' kk q;unfold isType loadHead;exact K1 (wpAny_loadPart (kk _ _ (X _ _ ho)) (Le q))
  ·cases h
 ne:=fun h tp dd K9 n sl X htp=>by
  have h:=k.cls;refine Bool.eq_false_iff.mpr fun q=>?_
  have z:c=tp:=Value.ref.inj (beq_iff_eq.mp q);subst z;unfold clsIn at h;split at h
  ·rename_i c' d' cd' Y9 ho;cases(X _ _ ho).symm.trans htp
  ·cases h
 ca:=fun X p kk=>Jw k X p kk
end
end PX
namespace PD
open PySem PySem.Spec PyProof.Rows L2 PX
abbrev St:=L2.St
def NT:HO->Prop
 |.PJ _=>False
 |_=>True
def Ks:Str := "lightest.<locals>.<lambda>"
def G1(c:Addr):Heap->Prop:=fun h=>h.CodeRec (.ref c) Ks
def fN(H:Hp):Prop:=∀P ps,H P=some (.PJ ps)->TriplesOk ps.toList/\∀pos cv,codeAmong pos ps.toList=some cv->∃c,cv=.ref c/\H c=some (.ext (G1 c))
def tabOf(K:yac):Option Addr :=
 match PySem.W.nsIn K mainGlobals "lightest" with
 |some (some (.ref f))=>(match K.lookup f with
  |some ⟨_,_,.func fd,_⟩=>(match fd.code with
   |.ref c=>(match K.lookup c with
    |some ⟨_,_,.fields vs,_⟩=>(match(vs[11]?:yam)with
     |some (.ref P)=>if(K.lookup P).isNone=true then some P else none
     |_=>none)
    |_=>none)
   |_=>none)
  |_=>none)
 |_=>none
structure ar(H H':Hp):Prop where
 kp:∀b o,H b=some o->NT o->H' b=some o
 tb:∀b ps,H b=some (.PJ ps)->∃more,H' b=some (.PJ (ps++more))
 ok:fN H->fN H'
def ar.app(e:ar H H')(b:Addr)(o:HO)(h:H b=some o)(nt:NT o:=by first|exact True.intro|assumption):H' b=some o:=e.kp b o h nt
instance {H H':Hp}:CoeFun (ar H H') (fun _=>∀(b:Addr) (o:HO),H b=some o->(nt:NT o:=by first|exact True.intro|assumption)->H' b=some o):=⟨@ar.app H H'⟩
def ar.refl(H:Hp):ar H H:=⟨fun _ _ h _=>h,fun _ ps h=>⟨#[],by rw[h];simp⟩,id⟩
def ar.trans(a:ar H H1)(b:ar H1 H2):ar H H2:=⟨fun c o h n=>b.kp c o (a.kp c o h n) n,fun c ps h=>by obtain⟨m1,e1⟩:=a.tb c ps h;obtain⟨m2,e2⟩:=b.tb c _ e1;exact⟨m1++m2,by rw[e2,Yn]⟩,fun h=>b.ok (a.ok h)⟩
def ar.ex(e:ar H H'){o:HO}(h:H b=some o):∃o',H' b=some o':=by
 by_cases n:NT o
 ·exact⟨o,e.kp b o h n⟩
 ·cases o with
  |PJ ps =>
   obtain⟨m,q⟩:=e.tb b ps h;exact⟨_,q⟩
  |_=>exact absurd True.intro n
def ar.free(e:ar H H')(h:H' l=Option.none):H l=Option.none:=by
 cases q:H l with
 |none=>rfl
 |some o =>
  obtain⟨o',z⟩:=e.ex q;rw[h]at z;cases z
def ar.seq{K:yac}{H H':Hp}{a:Addr}{xs:yaq}(e:ar H H')(h:SqL K H a xs):SqL K H' a xs:=by
 rcases h with(h|⟨o,h⟩)|h
 ·exact .inl (.inl (e _ _ h))
 ·exact .inl (.inr ⟨o,e _ _ h⟩)
 ·exact .inr h
theorem fN.upd{H:Hp}(n:NT o)(hp:H p=none∨∃ u,H p=some u/\(∀φ,u ≠ .ext φ)/\NT u)(h:fN H):fN (upd H p o):=by
 intro P ps e;have LV:P≠p:=fun z=>by subst z;rw[aH]at e;cases e;exact n
 rw[av LV]at e;obtain⟨h1,h2⟩:=h P ps e;refine⟨h1,fun pos cv q=>?_⟩;obtain⟨c,e1,e2⟩:=h2 pos cv q;refine⟨c,e1,?_⟩;rw[av fun z=>?_]
 ·exact e2
 ·subst z;rcases hp with hp|⟨u,hp,hu,_⟩
  ·rw[hp]at e2;cases e2
  ·rw[hp]at e2;cases e2;exact hu _ rfl
structure ku(K:yac)(H:Hp):Prop where
 ok:fN H
 at':∀P,tabOf K=some P->∃ps,H P=some (.PJ ps)
def ku.same{K:yac}{H H':Hp}(h:ku K H)(e:ar H H'):ku K H':=⟨e.ok h.ok,fun P q=>by obtain⟨ps,z⟩:=h.at' P q;obtain⟨m,z⟩:=e.tb P ps z;exact⟨_,z⟩⟩
theorem ku.upd{K:yac}{H:Hp}{p:Addr}{o:HO}(h:ku K H)(n:NT o)(hp:H p=none∨∃ u,H p=some u/\(∀φ,u ≠ .ext φ)/\NT u):ku K (upd H p o):=⟨fN.upd n hp h.ok,fun P q=>by
 obtain⟨ps,z⟩:=h.at' P q;refine⟨ps,?_⟩;rw[av fun e=>?_]
 ·exact z
 ·subst e;rcases hp with hp|⟨u,hp,_,hu⟩
  ·rw[hp]at z;cases z
  ·rw[hp]at z;cases z;exact hu⟩
inductive D where
 |LJ|bl (b:Bool)|int (i:Int)|str (x:Str)|tup (ds:List D)|lst (t:Bool) (ds:List D)|exc (c:Addr)|obj (C:Addr) (ns:yah) (ds:List D)|Po|Ob (ks:yaf) (ds:List D)
abbrev yar:=List D
def RM:HO->Prop
 |.ext _=>True|.ins _ _ _=>True|.frz _ (.dK _)=>True|_=>False
def RM.nt(h:RM o):NT o:=by cases o<;>first|exact True.intro|exact h.elim
def Na(K:yac)(H:Hp)(t:Bool)(a:Addr)(vs:yaq):Prop:=SqL K H a vs/\(t=true->H a=some (.lst vs)/\K.lookup a=none)
def Na.same{K:yac}{H H':Hp}{t:Bool}{a:Addr}{vs:yaq}(e:ar H H')(q:Na K H t a vs):Na K H' t a vs:=⟨e.seq q.1,fun z=>⟨e _ _ (q.2 z).1,(q.2 z).2⟩⟩
def Na.any{K:yac}{H:Hp}{a:Addr}{vs:yaq}(q:SqL K H a vs):Na K H false a vs:=⟨q,fun z=>by cases z⟩
def Na.new{K:yac}{H:Hp}(q:H a=some (.lst vs))(k:K.lookup a=none):Na K H t a vs:=⟨SqL.of q,fun _=>⟨q,k⟩⟩
def LO(_:yac)(H:Hp)(a:Addr)(xs:yaq):Prop:=H a=some (.tup xs)
def LO.w{K:yac}{H:Hp}{a:Addr}{xs:yaq}(h:LO K H a xs):L2.LO K H a xs:=.inl (.inl h)
def LO.of{K:yac}{H:Hp}{a:Addr}{xs:yaq}(h:H a=some (.tup xs)):LO K H a xs:=h
mutual
def Den(K:yac)(P:yak)(H:Hp):D->V->Prop
 |.LJ,v=>v=.LJ
 |.bl b,v=>v=.bl b
 |.int i,v=>v=.int i
 |.str x,v=>v=.str x
 |.tup ds,v=>∃a vs,v=.ref a/\LO K H a vs/\ag K P H ds vs
 |.lst t ds,v=>∃a vs,v=.ref a/\¬P t a/\Na K H t a vs/\ag K P H ds vs
 |.exc c,v=>∃e,v=.ref e/\H e=some (.ext (ExcAt e c))/\ko K c
 |.Po,v=>∃a,v=.ref a/\H a=some (.ext (PySem.W.KitAt a "dict"))
 |.obj C ns ds,v=>∃a dx vs,v=.ref a/\H a=some (.ins C dx (ns.zip vs))/\vs.length=ns.length/\zA K C/\ag K P H ds vs
 |.Ob ks ds,v=>∃a o kws vs,v=.ref a/\H a=some (.frz o (.dK kws))/\kws=(ks.map Sum.inl).zip vs/\vs.length=ks.length/\ag K P H ds vs
def ag(K:yac)(P:yak)(H:Hp):yar->yaq->Prop
 |[],vs=>vs=[]
 |d::ds,vs=>∃v r,vs=v::r/\Den K P H d v/\ag K P H ds r
end
section
variable{K:yac}{P P':yak}{H H':Hp}
mutual
theorem Den.map(hT:∀a vs,LO K H a vs->LO K H' a vs)(hL:∀t a vs,¬P t a->Na K H t a vs->¬P' t a/\Na K H' t a vs)(hX:∀a o,RM o->H a=some o->H' a=some o):∀(d:D) (v:V),Den K P H d v->Den K P' H' d v
 |.LJ,_,h=>by simpa only[Den]using h
 |.bl _,_,h=>by simpa only[Den]using h
 |.int _,_,h=>by simpa only[Den]using h
 |.str _,_,h=>by simpa only[Den]using h
 |.tup ds,_,h=>by simp only[Den]at h ⊢;obtain⟨a,vs,e,q,r⟩:=h;exact⟨a,vs,e,hT a vs q,ag.map hT hL hX ds vs r⟩
 |.lst t ds,_,h=>by simp only[Den]at h ⊢;obtain⟨a,vs,e,p,q,r⟩:=h;exact⟨a,vs,e,(hL t a vs p q).1,(hL t a vs p q).2,ag.map hT hL hX ds vs r⟩
 |.exc c,_,h=>by simp only[Den]at h ⊢;obtain⟨a,e,q,k⟩:=h;exact⟨a,e,hX a _ True.intro q,k⟩
 |.obj C ns ds,_,h=>by simp only[Den]at h ⊢;obtain⟨a,dx,vs,e,q,l,k,r⟩:=h;exact⟨a,dx,vs,e,hX a _ True.intro q,l,k,ag.map hT hL hX ds vs r⟩
 |.Po,_,h=>by simp only[Den]at h ⊢;obtain⟨a,e,q⟩:=h;exact⟨a,e,hX a _ True.intro q⟩
 |.Ob ks ds,_,h=>by simp only[Den]at h ⊢;obtain⟨a,o,kws,vs,e,q,l,k,r⟩:=h;exact⟨a,o,kws,vs,e,hX a _ True.intro q,l,k,ag.map hT hL hX ds vs r⟩
theorem ag.map(hT:∀a vs,LO K H a vs->LO K H' a vs)(hL:∀t a vs,¬P t a->Na K H t a vs->¬P' t a/\Na K H' t a vs)(hX:∀a o,RM o->H a=some o->H' a=some o):∀(ds:yar) (vs:yaq),ag K P H ds vs->ag K P' H' ds vs
 |[],_,h=>by simpa only[ag]using h
 |d::ds,_,h=>by simp only[ag]at h ⊢;obtain⟨v,r,e,h1,h2⟩:=h;exact⟨v,r,e,Den.map hT hL hX d v h1,ag.map hT hL hX ds r h2⟩
end
end
def LO.same{K:yac}{H H':Hp}{a:Addr}{xs:yaq}(e:ar H H')(h:LO K H a xs):LO K H' a xs:=e _ _ h
section
variable{K:yac}{P:yak}{H H':Hp}
theorem Den.same(e:ar H H')(h:Den K P H d v):Den K P H' d v:=Den.map (fun _ _ q=>LO.same e q) (fun _ _ _ p q=>⟨p,q.same e⟩) (fun a _ n q=>e.kp a _ q n.nt) d v h
theorem ag.same(e:ar H H')(h:ag K P H ds vs):ag K P H' ds vs:=ag.map (fun _ _ q=>LO.same e q) (fun _ _ _ p q=>⟨p,q.same e⟩) (fun a _ n q=>e.kp a _ q n.nt) ds vs h
def Den.Lo{P':yak}(e:∀t a,P' t a->P t a)(h:Den K P H d v):Den K P' H d v:=Den.map (fun _ _ q=>q) (fun _ _ _ p q=>⟨fun z=>p (e _ _ z),q⟩) (fun _ _ _ q=>q) d v h
def ag.Lo{P':yak}(e:∀t a,P' t a->P t a)(h:ag K P H ds vs):ag K P' H ds vs:=ag.map (fun _ _ q=>q) (fun _ _ _ p q=>⟨fun z=>p (e _ _ z),q⟩) (fun _ _ _ q=>q) ds vs h
theorem ag.len:∀{ds:yar} {vs:yaq},ag K P H ds vs->vs.length=ds.length
 |[],_,h=>by simp only[ag]at h;subst h;rfl
 |d::ds,_,h=>by simp only[ag]at h;obtain⟨v,r,rfl,_,h2⟩:=h;simp[ag.len h2]
theorem ag.get:∀{ds:yar} {vs:yaq} {i:Nat} {d:D},ag K P H ds vs->ds[i]?=some d->∃v,vs[i]?=some v/\Den K P H d v
 |[],_,_,_,_,e=>by simp at e
 |d::ds,_,0,_,h,e=>by simp only[ag]at h;obtain⟨v,r,rfl,h1,_⟩:=h;simp at e;subst e;exact⟨v,rfl,h1⟩
 |d::ds,_,i+1,x,h,e=>by simp only[ag]at h;obtain⟨v,r,rfl,_,h2⟩:=h;obtain⟨u,e1,e2⟩:=ag.get (i:=i) (d:=x) h2 (by simpa using e);exact⟨u,by simpa using e1,e2⟩
theorem ag.bC:∀{ds:yar} {vs:yaq} {i:Nat} {v:V},ag K P H ds vs->vs[i]?=some v->∃d,ds[i]?=some d/\Den K P H d v
 |[],_,_,_,h,e=>by simp only[ag]at h;subst h;simp at e
 |d::ds,_,0,_,h,e=>by simp only[ag]at h;obtain⟨v,r,rfl,h1,_⟩:=h;simp at e;subst e;exact⟨d,rfl,h1⟩
 |d::ds,_,i+1,x,h,e=>by simp only[ag]at h;obtain⟨v,r,rfl,_,h2⟩:=h;obtain⟨u,e1,e2⟩:=ag.bC (i:=i) (v:=x) h2 (by simpa using e);exact⟨u,by simpa using e1,e2⟩
theorem ag.append:∀{ds es:yar} {vs us:yaq},ag K P H ds vs->ag K P H es us->ag K P H (ds++es) (vs++us)
 |[],_,_,_,h,h'=>by simp only[ag]at h;subst h;exact h'
 |d::ds,_,_,_,h,h'=>by simp only[ag]at h;obtain⟨v,r,rfl,h1,h2⟩:=h;simp only[Od,ag];exact⟨v,_,rfl,h1,ag.append h2 h'⟩
def ag.one(h:Den K P H d v):ag K P H [d] [v]:=by simp only[ag];exact⟨v,[],rfl,h,rfl⟩
def ag.nil:ag K P H [] []:=by simp only[ag]
def ag.cons(h:Den K P H d v)(h':ag K P H ds vs):ag K P H (d::ds) (v::vs):=by simp only[ag];exact⟨v,vs,rfl,h,h'⟩
def Den.L9(h:Den K P H (.int i) v):v=.int i:=by simpa only[Den]using h
def Den.T8(h:Den K P H (.bl b) v):v=.bl b:=by simpa only[Den]using h
def Den.S8(h:Den K P H .LJ v):v=.LJ:=by simpa only[Den]using h
def Den.S9(h:Den K P H (.str x) v):v=.str x:=by simpa only[Den]using h
theorem Den.int(i:Int):Den K P H (.int i) (.int i):=by simp only[Den]
theorem Den.bl(b:Bool):Den K P H (.bl b) (.bl b):=by simp only[Den]
theorem Den.LJ:Den K P H .LJ .LJ:=by simp only[Den]
theorem Den.str(x:Str):Den K P H (.str x) (.str x):=by simp only[Den]
def Den.NX(h:Den K P H (.tup ds) v):∃a vs,v=.ref a/\LO K H a vs/\ag K P H ds vs:=by simpa only[Den]using h
def Den.RN(h:Den K P H (.lst t ds) v):∃a vs,v=.ref a/\¬P t a/\Na K H t a vs/\ag K P H ds vs:=by simpa only[Den]using h
def Den.Nm(h:Den K P H (.lst t ds) v):∃a vs,v=.ref a/\¬P t a/\SqL K H a vs/\ag K P H ds vs:=by obtain⟨a,vs,h1,h2,h3,h4⟩:=h.RN;exact⟨a,vs,h1,h2,h3.1,h4⟩
def Den.WQ (h:Den K P H .Po v):∃a,v=.ref a/\H a=some (.ext (PySem.W.KitAt a "dict")):=by simpa only[Den]using h
theorem Den.Po (h:H a=some (.ext (PySem.W.KitAt a "dict"))):Den K P H .Po (.ref a):=by simp only[Den];exact⟨a,rfl,h⟩
def Den.UU(h:Den K P H (.obj C ns ds) v):∃a dx vs,v=.ref a/\H a=some (.ins C dx (ns.zip vs))/\vs.length=ns.length/\zA K C/\ag K P H ds vs:=by simpa only[Den]using h
theorem Den.obj{ns:yah}(h:H a=some (.ins C dx (ns.zip vs)))(l:vs.length=ns.length)(k:zA K C)(d:ag K P H ds vs):Den K P H (.obj C ns ds) (.ref a):=by simp only[Den];exact⟨a,dx,vs,rfl,h,l,k,d⟩
def Den.Ta(h:Den K P H (.Ob ks ds) v):∃a o kws vs,v=.ref a/\H a=some (.frz o (.dK kws))/\kws=(ks.map Sum.inl).zip vs/\vs.length=ks.length/\ag K P H ds vs:=by simpa only[Den]using h
theorem Den.Ob{ks:yaf}(h:H a=some (.frz o (.dK ((ks.map Sum.inl).zip vs))))(l:vs.length=ks.length)(d:ag K P H ds vs):Den K P H (.Ob ks ds) (.ref a):=by simp only[Den];exact⟨a,o,_,vs,rfl,h,rfl,l,d⟩
def Den.UW(h:Den K P H (.exc c) v):∃e,v=.ref e/\H e=some (.ext (ExcAt e c))/\ko K c:=by simpa only[Den]using h
theorem Den.exc(h:H e=some (.ext (ExcAt e c)))(k:ko K c):Den K P H (.exc c) (.ref e):=by simp only[Den];exact⟨e,rfl,h,k⟩
theorem Den.tup(h:LO K H a vs)(h':ag K P H ds vs):Den K P H (.tup ds) (.ref a):=by simp only[Den];exact⟨a,vs,rfl,h,h'⟩
theorem Den.lst(p:¬P t a)(h:Na K H t a vs)(h':ag K P H ds vs):Den K P H (.lst t ds) (.ref a):=by simp only[Den];exact⟨a,vs,rfl,p,h,h'⟩
end
inductive LI where
 |own (ds:yar)|val (d:D)
inductive OS where
 |lst (ds:yar)|dk (kvs:List (Key×D))|dt (kvs:List (List Key×D))|ll (xs:List LI)
inductive Sl where
 |val (d:D)
 |ob (x:OS)
abbrev Sl.own(ds:yar):Sl:=.ob (.lst ds)
def ay(K:yac)(P:yak)(H:Hp)(B:yaj):Nat->List LI->yaq->Prop
 |_,[],vs=>vs=[]
 |k,.own ds::r,vs=>∃b us u,vs=.ref b::u/\B k=some b/\H b=some (.lst us)/\ag K P H ds us/\ay K P H B (k+1) r u
 |k,.val d::r,vs=>∃v u,vs=v::u/\Den K P H d v/\ay K P H B (k+1) r u
theorem ay.map{K:yac}{P P':yak}{H H':Hp}{B B':yaj}(hd:∀ds vs,ag K P H ds vs->ag K P' H' ds vs)(hB:∀k b,B k=some b->B' k=some b/\∀us,H b=some (.lst us)->H' b=some (.lst us)):∀{k:Nat} {xs:List LI} {vs:yaq},ay K P H B k xs vs->ay K P' H' B' k xs vs
 |_,[],_,h=>by simpa only[ay]using h
 |k,.own ds::r,_,h=>by simp only[ay]at h ⊢;obtain⟨b,us,u,e,h1,h2,h3,h4⟩:=h;exact⟨b,us,u,e,(hB k b h1).1,(hB k b h1).2 us h2,hd ds us h3,ay.map hd hB h4⟩
 |k,.val d::r,_,h=>by simp only[ay]at h ⊢;obtain⟨v,u,e,h1,h2⟩:=h;have h3:=hd [d] [v] (ag.one h1);simp only[ag]at h3;obtain⟨v',r',e',h4,_⟩:=h3;cases e';exact⟨v,u,e,h4,ay.map hd hB h2⟩
theorem ay.len{K:yac}{P:yak}{H:Hp}{B:yaj}:∀{k:Nat} {xs:List LI} {vs:yaq},ay K P H B k xs vs->vs.length=xs.length
 |_,[],_,h=>by simp only[ay]at h;subst h;rfl
 |k,.own ds::r,_,h=>by simp only[ay]at h;obtain⟨b,us,u,rfl,_,_,_,h4⟩:=h;simp[ay.len h4]
 |k,.val d::r,_,h=>by simp only[ay]at h;obtain⟨v,u,rfl,_,h2⟩:=h;simp[ay.len h2]
inductive c8 (K:yac) (P:yak) (H:Hp) (B:yaj):OS->HO->Prop where
 |lst {ds:yar} {vs:yaq} (h:ag K P H ds vs):c8 K P H B (.lst ds) (.lst vs)
 |ll {xs:List LI} {vs:yaq} (h:ay K P H B 0 xs vs):c8 K P H B (.ll xs) (.lst vs)
 |dk {kvs:List (Key×D)} {kws:List (Key×V)} (e:kws.map (·.1)=kvs.map (·.1)) (h:ag K P H (kvs.map (·.2)) (kws.map (·.2))):c8 K P H B (.dk kvs) (.dK kws)
 |dt {kvs:List (List Key×D)} {kws:List (List Key×V)} (e:kws.map (·.1)=kvs.map (·.1)) (h:ag K P H (kvs.map (·.2)) (kws.map (·.2))):c8 K P H B (.dt kvs) (.dT kws)
def iR:HO->Prop
 |.lst _=>True|.dK _=>True|.dT _=>True|_=>False
def iR.nt(h:iR o):NT o:=by cases o<;>first|exact True.intro|exact h.elim
def iR.sol(h:iR o):¬RM o:=by cases o<;>first|exact h.elim|exact fun z=>z
def iR.ne(h:iR o):∀φ,o ≠ .ext φ:=fun _ e=>by subst e;exact h
section
variable{K:yac}{P P':yak}{H H':Hp}{B B':yaj}{x:OS}{o:HO}
theorem c8.map(k:∀ds vs,ag K P H ds vs->ag K P' H' ds vs)(hB:∀k b,B k=some b->B' k=some b/\∀us,H b=some (.lst us)->H' b=some (.lst us))(h:c8 K P H B x o):c8 K P' H' B' x o:=by
 cases h with
 |lst h=>exact .lst (k _ _ h)
 |ll h=>exact .ll (h.map k hB)
 |dk e h=>exact .dk e (k _ _ h)
 |dt e h=>exact .dt e (k _ _ h)
theorem c8.same(e:ar H H')(h:c8 K P H B x o):c8 K P H' B x o:=h.map (fun _ _ z=>z.same e) fun _ _ q=>⟨q,fun _ z=>e _ _ z⟩
theorem c8.Lo(e:∀t a,P' t a->P t a)(hB:∀k b,B k=some b->B' k=some b)(h:c8 K P H B x o):c8 K P' H B' x o:=h.map (fun _ _ z=>z.Lo e) fun k b q=>⟨hB k b q,fun _ z=>z⟩
def c8.Q8(h:c8 K P H B x o):iR o:=by cases h<;>exact True.intro
def c8.Nm(h:c8 K P H B (.lst ds) o):∃vs,o=.lst vs/\ag K P H ds vs:=by
 cases h with
 |lst h=>exact⟨_,rfl,h⟩
end
abbrev Ro:=List (Option Sl)
structure Own where
 B:Addr->Prop
 O:yaj
 S:Addr->Prop
def Own.bad(W:Own)(t:Bool)(a:Addr):Prop:=W.B a∨(∃i,W.O i=some a)∨(t=true/\W.S a)
def Own.drop(W:Own)(i:Nat):Own:=⟨W.B,fun j=>if j=i then none else W.O j,W.S⟩
def Own.put(W:Own)(i:Nat)(a:Addr):Own:=⟨W.B,fun j=>if j=i then some a else W.O j,W.S⟩
def Own.L0{W:Own}(h:(W.drop i).bad t a):W.bad t a:=by
 rcases h with h|⟨j,h⟩| h
 ·exact .inl h
 ·have h':(if j=i then none else W.O j)=some a:=h;by_cases e:j=i
  ·rw[K4 e]at h';cases h'
  ·rw[K3 e]at h';exact .inr (.inl ⟨j,h'⟩)
 ·exact .inr (.inr h)
def Own.RO{W:Own}(h:W.bad false a):W.bad t a:=by
 rcases h with h|h|⟨h,_⟩
 ·exact .inl h
 ·exact .inr (.inl h)
 ·cases h
def Nt(n i k:Nat):Nat:=n*(k+1)+i
def gQ{n j:Nat}(h:j<n):Nt n i k≠j:=fun e=>by
 unfold Nt at e;rw[Nat.mul_add]at e
 lia
def y6{n i j:Nat}(hi:i<n)(hj:j<n)(e:Nt n i k=Nt n j l):i=j/\k=l:=by
 unfold Nt at e;have h1:(n*(k+1)+i) % n=i:=by rw[Nat.mul_add_mod,NS hi]
 have h2:(n*(l+1)+j) % n=j:=by rw[Nat.mul_add_mod,NS hj]
 have e1:i=j:=by rw[<- h1,e,h2]
 refine⟨e1,?_⟩;have h3:n*(k+1)=n*(l+1):=by lia
 have:=Nat.eq_of_mul_eq_mul_left (by lia) h3
 lia
abbrev Own.sub(W:Own)(n i:Nat)(k:Nat):Option Addr:=W.O (Nt n i k)
def Own.OE{W:Own}{n i:Nat}(h:i<n)(k:Nat)(b:Addr)(e:W.sub n j k=some b):(W.drop i).sub n j k=some b:=by show(if Nt n j k=i then none else W.O (Nt n j k))=_;rw[K3 (gQ h)];exact e
structure Rel(X:Cx)(W:Own)(H:Hp)(σ:St)(ρ:Ro):Prop where
 val:∀(i:Nat) (d:D),ρ[i]?=some (some (Sl.val d))->∃v,σ[i]?=some (some v)/\Den X.K W.bad H d v
 own:∀(i:Nat) (x:OS),ρ[i]?=some (some (Sl.ob x))->∃a o,W.O i=some a/\σ[i]?=some (some (.ref a))/\H a=some o/\c8 X.K W.bad H (W.sub σ.length i) x o
 inj:∀i j a,W.O i=some a->W.O j=some a->i=j
 kn:∀i a,W.O i=some a->X.K.lookup a=none/\(¬W.B a/\¬W.S a)/\∃o,H a=some o/\iR o
 ke:∀i a,W.O i=some a->X.LX a=none
 bt:∀a,W.B a->∃o,H a=some o
 st:∀a,W.S a->∃o,H a=some o
 ent:ar X.LX H
 tab:ku X.K H
theorem Rel.same(r:Rel X W H σ ρ)(e:ar H H'):Rel X W H' σ ρ where
 val:=fun i d h=>let ⟨v,h1,h2⟩:=r.val i d h;⟨v,h1,h2.same e⟩
 own:=fun i ds h=>let ⟨a,vs,h1,h2,h3,h4⟩:=r.own i ds h;⟨a,vs,h1,h2,e.kp _ _ h3 h4.Q8.nt,h4.same e⟩
 inj:=r.inj
 kn:=fun i a h=>let ⟨h1,h2,o,h3,h4⟩:=r.kn i a h;⟨h1,h2,o,e.kp _ _ h3 h4.nt,h4⟩
 ke:=r.ke
 bt:=fun a h=>let ⟨_,q⟩:=r.bt a h;e.ex q
 st:=fun a h=>let ⟨_,q⟩:=r.st a h;e.ex q
 ent:=r.ent.trans e
 tab:=r.tab.same e
def Rel.dU(r:Rel X W H σ ρ)(i:Nat)(ds:yar)(h:ρ[i]?=some (some (Sl.own ds))):∃a vs,W.O i=some a/\σ[i]?=some (some (.ref a))/\H a=some (.lst vs)/\ag X.K W.bad H ds vs:=by obtain⟨a,o,h1,h2,h3,h4⟩:=r.own i _ h;obtain⟨vs,e,h5⟩:=h4.Nm;subst e;exact⟨a,vs,h1,h2,h3,h5⟩
def Rel.tracked(r:Rel X W H σ ρ)(t:Bool)(a:Addr)(h:W.bad t a):∃o,H a=some o:=by
 rcases h with h|⟨i,h⟩| ⟨_,h⟩
 ·exact r.bt a h
 ·obtain⟨_,_,o,q,_⟩:=r.kn i a h;exact⟨_,q⟩
 ·exact r.st a h
def Rel.fresh(r:Rel X W H σ ρ)(h:H p=none):¬W.bad t p:=fun z=>by obtain⟨o,q⟩:=r.tracked t p z;rw[h]at q;cases q
structure LC(W:Own)(H:Hp)(W':Own)(H':Hp):Prop where
 B:W'.B=W.B
 S:W'.S=W.S
 kp:∀b o,(∀i,W.O i≠some b)->H b=some o->NT o->H' b=some o
 new:∀i a,W'.O i=some a->(∃j,W.O j=some a)∨H a=none
 tb:∀b ps,H b=some (.PJ ps)->∃more,H' b=some (.PJ (ps++more))
 ok:fN H->fN H'
def LC.keep(f:LC W H W' H')(b:Addr)(o:HO)(h:∀i,W.O i≠some b)(q:H b=some o)(nt:NT o:=by first|exact True.intro|assumption):H' b=some o:=f.kp b o h q nt
def LC.ex(f:LC W H W' H'){b:Addr}{o:HO}(h:∀i,W.O i≠some b)(q:H b=some o):∃o',H' b=some o':=by
 by_cases n:NT o
 ·exact⟨o,f.kp b o h q n⟩
 ·cases o with
  |PJ ps =>
   obtain⟨m,e⟩:=f.tb b ps q;exact⟨_,e⟩
  |_=>exact absurd True.intro n
def LC.refl(W:Own)(H:Hp):LC W H W H:=⟨rfl,rfl,fun _ _ _ h _=>h,fun i _ h=>.inl ⟨i,h⟩,fun _ ps h=>⟨#[],by rw[h];simp⟩,id⟩
theorem LC.trans(a:LC W H W1 H1)(b:LC W1 H1 W2 H2):LC W H W2 H2:=by
 refine⟨b.B.trans a.B,b.S.trans a.S,fun x o n h t=>b.kp x o (fun i z=>?_) (a.kp x o n h t) t,fun i x h=>?_,fun c ps h=>?_,fun h=>b.ok (a.ok h)⟩
 ·rcases a.new i x z with⟨j,q⟩| q
  ·exact n j q
  ·rw[h]at q;cases q
 ·rcases b.new i x h with⟨j,q⟩| q
  ·exact a.new j x q
  ·by_cases z:∃j,W.O j=some x
   ·exact .inl z
   ·refine .inr ?_;cases e:H x with
    |none=>rfl
    |some o =>
     obtain⟨o',this⟩:=a.ex (fun i w=>z ⟨i,w⟩) e;rw[this]at q;cases q
 ·obtain⟨m1,e1⟩:=a.tb c ps h;obtain⟨m2,e2⟩:=b.tb c _ e1;exact⟨m1++m2,by rw[e2,Yn]⟩
def LC.same(e:ar H H'):LC W H W H':=⟨rfl,rfl,fun _ _ _ h n=>e.kp _ _ h n,fun i _ h=>.inl ⟨i,h⟩,e.tb,e.ok⟩
def ar.ins(e:ar LX H){o:HO}(h0:LX a=none)(ha:H a=some o)(hm:iR o)(hn:NT o'):ar LX (upd H a o') :=
 ⟨fun b u h n=>by rw[av (aW h h0)];exact e.kp b u h n,fun b ps h=>by rw[av (aW h h0)];exact e.tb b ps h,fun h=>fN.upd hn (.inr ⟨o,ha,hm.ne,hm.nt⟩) (e.ok h)⟩
theorem LC.upd{W:Own}{H:Hp}{a:Addr}{o:HO}(oa:W.O i=some a)(ha:H a=some o)(hm:iR o)(hn:NT o'):LC W H W (upd H a o') :=
 ⟨rfl,rfl,fun b u n h _=>by rw[av fun e=>n i (by rw[e];exact oa)];exact h,fun j _ h=>.inl ⟨j,h⟩,fun b ps h=>⟨#[],by rw[av (fun e=>by subst e;rw[ha]at h;cases h;exact hm),h];simp⟩,fN.upd hn (.inr ⟨o,ha,hm.ne,hm.nt⟩)⟩
structure oo where
 nx:Ro->Prop
 rt:D->Prop
 bk:Ro->Prop:=fun _=>False
 ct:Ro->Prop:=fun _=>False
abbrev DE:=Ro->(D->Prop)->Prop
abbrev DT:=Ro->(Bool->Prop)->Prop
abbrev DA:=Ro->(yar->Prop)->Prop
abbrev DS:=oo->Ro->Prop
def DP(X:Cx)(pins:yab)(σ:St)(W:Own)(H:Hp)(Q:D->Prop)(u:Value)(s':Shared):Prop :=
 ∃ v H' d,Inv X pins σ H' s'/\RelV v u/\ar H H'/\Den X.K W.bad H' d v/\Q d
def Zr(X:Cx)(pins:yab)(σ:St)(H:Hp)(Q:Bool->Prop)(b:Bool)(s':Shared):Prop :=
 ∃ H',Inv X pins σ H' s'/\ar H H'/\Q b
def DAP(X:Cx)(pins:yab)(σ:St)(W:Own)(H:Hp)(Q:yar->Prop)(us:yad)(s':Shared):Prop :=
 ∃ vs H' ds,Inv X pins σ H' s'/\Vals vs us/\ar H H'/\ag X.K W.bad H' ds vs/\Q ds
def QR(X:Cx)(pins:yab)(W:Own)(H:Hp)(E:oo)(f:Flow)(s':Shared):Prop :=
 ∃ W' LH H',Inv X pins LH H' s'/\LC W H W' H' ∧
 match f with
 |.next=>∃Ld,Rel X W' H' LH Ld/\E.nx Ld
 |.brk=>∃Ld,Rel X W' H' LH Ld/\E.bk Ld
 |.cont=>∃Ld,Rel X W' H' LH Ld/\E.ct Ld
 |.ret u=>∃v d,RelV v u/\Den X.K W'.bad H' d v/\E.rt d
def Lx(X:Cx)(e:Expr)(t:DE):Prop :=
 ∀ (pins:yab) (s:Shared) (σ:St) (H:Hp) (W:Own) (ρ:Ro) (Q:D->Prop),Inv X pins σ H s->Rel X W H σ ρ->t ρ Q →
  wpAny (model X.prog X.w) X.A (eval e X.env) (DP X pins σ W H Q) X.xe s
def PL(X:Cx)(e:Expr)(t:DT):Prop :=
 ∀ (pins:yab) (s:Shared) (σ:St) (H:Hp) (W:Own) (ρ:Ro) (Q:Bool->Prop),Inv X pins σ H s->Rel X W H σ ρ->t ρ Q →
  wpAny (model X.prog X.w) X.A (isTrue e X.env (eval e X.env)) (Zr X pins σ H Q) X.xe s
def Tb(X:Cx)(e:Expr)(t:DT):Prop :=
 ∀ (whole:Sem Value) (pins:yab) (s:Shared) (σ:St) (H:Hp) (W:Own) (ρ:Ro) (Q:Bool->Prop),Inv X pins σ H s->Rel X W H σ ρ->t ρ Q →
  wpAny (model X.prog X.w) X.A (isTrue e X.env whole) (Zr X pins σ H Q) X.xe s
def Tb.pt(h:Tb X e t):PL X e t:=h _
def PN(X:Cx)(es:yai)(t:DA):Prop :=
 ∀ (pos:Pos) (pins:yab) (s:Shared) (σ:St) (H:Hp) (W:Own) (ρ:Ro) (Q:yar->Prop),Inv X pins σ H s->Rel X W H σ ρ->t ρ Q →
  wpAny (model X.prog X.w) X.A (spliced (backTo pos (starEach es X.env))) (DAP X pins σ W H Q) X.xe s
def NA(X:Cx)(st:Stmt)(t:DS):Prop :=
 ∀ (pins:yab) (s:Shared) (σ:St) (H:Hp) (W:Own) (ρ:Ro) (E:oo),Inv X pins σ H s->Rel X W H σ ρ->t E ρ →
  wpAny (model X.prog X.w) X.A (exec st X.env) (QR X pins W H E) X.xe s
def cG(X:Cx)(st:List Stmt)(t:DS):Prop :=
 ∀ (pins:yab) (s:Shared) (σ:St) (H:Hp) (W:Own) (ρ:Ro) (E:oo),Inv X pins σ H s->Rel X W H σ ρ->t E ρ →
  wpAny (model X.prog X.w) X.A (execs st X.env) (QR X pins W H E) X.xe s
def ET(X:Cx)(t:DE):TE:=fun σ H Q=>∃W ρ Qd,Rel X W H σ ρ/\t ρ Qd/\∀v H' d,ar H H'->Den X.K W.bad H' d v->Qd d->Q v H'
def JQ(X:Cx)(t:DS):TS:=fun D σ H=>∃W ρ Ed,Rel X W H σ ρ/\t Ed ρ ∧
 (∀W' LH H' Ld,LC W H W' H'->Rel X W' H' LH Ld->Ed.nx Ld->D.nx LH H') ∧
 (∀W' H' v d,LC W H W' H'->Den X.K W'.bad H' d v->Ed.rt d->D.rt v H') ∧
 (∀W' LH H' Ld,LC W H W' H'->Rel X W' H' LH Ld->Ed.bk Ld->D.bk LH H') ∧
 (∀W' LH H' Ld,LC W H W' H'->Rel X W' H' LH Ld->Ed.ct Ld->D.ct LH H')
section
variable{X:Cx}
def Lx.pe(h:Lx X e t):PE X e (ET X t):=by intro pins s σ H Q I q;obtain⟨W,ρ,Qd,r,ht,k⟩:=q;exact Lj (h pins s σ H W ρ Qd I r ht) fun u s1 ⟨v,H',d,I1,rv,e1,hd,qd⟩=>⟨v,H',I1,rv,k v H' d e1 hd qd⟩
def cG.ps{st:List Stmt}{t:DS}(h:cG X st t):PSs X st (JQ X t):=by
 intro pins s σ H D I q;obtain⟨W,ρ,Ed,r,ht,k1,k2,k3,k4⟩:=q;refine Lj (h pins s σ H W ρ Ed I r ht) fun f s1 ⟨W',LH,H',I1,fw,q⟩=>?_
 cases f with
 |next=>obtain⟨Ld,r',q'⟩:=q;exact⟨LH,H',I1,k1 W' LH H' Ld fw r' q'⟩
 |brk=>obtain⟨Ld,r',q'⟩:=q;exact⟨LH,H',I1,k3 W' LH H' Ld fw r' q'⟩
 |cont=>obtain⟨Ld,r',q'⟩:=q;exact⟨LH,H',I1,k4 W' LH H' Ld fw r' q'⟩
 |ret u=>obtain⟨v,d,rv,hd,q'⟩:=q;exact⟨v,LH,H',I1,rv,k2 W' H' v d fw hd q'⟩
def Lx.of{t:DE}(h:PE X e te)(k:∀σ H W ρ Q,Rel X W H σ ρ->t ρ Q->te σ H fun v H'=>ar H H'/\∃d,Den X.K W.bad H' d v/\Q d):Lx X e t:=by intro pins s σ H W ρ Q I r ht;exact Lj (h pins s σ H _ I (k σ H W ρ Q r ht)) fun u s1 ⟨v,H',I1,rv,e1,d,hd,q⟩=>⟨v,H',d,I1,rv,e1,hd,q⟩
end
section
variable{X:Cx}{a b c:Expr}{ta tb:DE}{pos:Pos}
def kA(i:Nat):DE:=fun ρ Q=>match ρ[i]? with
 |some (some (.val d))=>Q d
 |_=>False
def Fj(h:kA i ρ Q):∃d,ρ[i]?=some (some (.val d))/\Q d:=by
 unfold kA at h;split at h
 ·rename_i d e;exact⟨d,e,h⟩
 ·exact h.elim
def dC(d:D):DE:=fun _ Q=>Q d
def dv (i:Nat) {x:Str} {pos:Pos} (hN:X.N[i]?=some x:=by rfl) (hv:Rt X.env.scope x:=by first|exact Or.inl rfl|exact Or.inr (Or.inl rfl)|exact Or.inr (Or.inr rfl)) (hd:(x==("__debug__" : Str))=false:=by decide)
  (Oa:(x==("__classdict__" : Str))=false:=by decide):Lx X (.Name x pos) (kA i) :=
 Lx.of (iF hN hv hd Oa) fun σ H W ρ Q r ht=>by obtain⟨d,e,q⟩:=Fj ht;obtain⟨v,e1,e2⟩:=r.val i d e;exact⟨v,e1,ar.refl H,d,e2,q⟩
def ae{i j pos}:Lx X (.Constant (.int i) j pos) (dC (.int i)):=Lx.of IW fun _ H _ _ _ _ q=>⟨ar.refl H,_,Den.int i,q⟩
def bW{i j pos}:Lx X (.Constant (.bool i) j pos) (dC (.bl i)):=Lx.of JZ fun _ H _ _ _ _ q=>⟨ar.refl H,_,Den.bl i,q⟩
def ng{j pos}:Lx X (.Constant .none j pos) (dC .LJ):=Lx.of IX fun _ H _ _ _ _ q=>⟨ar.refl H,_,Den.LJ,q⟩
def iD{x j pos}:Lx X (.Constant (.str x) j pos) (dC (.str x)):=Lx.of IY fun _ H _ _ _ _ q=>⟨ar.refl H,_,Den.str x,q⟩
abbrev RD2:=D->D->(D->Prop)->Prop
def MB(X:Cx)(f:Value->Value->Sem Value)(r:RD2):Prop :=
 ∀ (pins:yab) (s:Shared) (σ:St) (H:Hp) (W:Own) (x y:D) (v u:V) (vv uu:Value) (Q:D->Prop),Inv X pins σ H s->(∀t a,W.bad t a->∃o,H a=some o)->RelV v vv->RelV u uu->Den X.K W.bad H x v->Den X.K W.bad H y u->r x y Q →
  wpAny (model X.prog X.w) X.A (f vv uu) (DP X pins σ W H Q) X.xe s
def VS(r:RD2)(ta tb:DE):DE:=fun ρ Q=>ta ρ fun x=>tb ρ fun y=>r x y Q
def zI(ha:Lx X a ta)(hb:Lx X b tb){pins:yab}{s:Shared}{σ:St}{H:Hp}{W:Own}{ρ:Ro}{R:D->D->Prop}(I:Inv X pins σ H s)(r:Rel X W H σ ρ)(h:ta ρ fun x=>tb ρ fun y=>R x y)
  {α:Type} {Q:α->Shared->Prop} {f:Value->Value->Sem α}
  (hf:∀vv uu s2 v u x y H2,Inv X pins σ H2 s2->ar H H2->RelV v vv->RelV u uu->Den X.K W.bad H2 x v->Den X.K W.bad H2 y u->R x y->wpAny (model X.prog X.w) X.A (f vv uu) Q X.xe s2) :
  wpAny (model X.prog X.w) X.A (eval a X.env) (fun v Lh=>wpAny (model X.prog X.w) X.A (eval b X.env) (fun u K6=>wpAny (model X.prog X.w) X.A (f v u) Q X.xe K6) X.xe Lh) X.xe s:=by
 refine Lj (ha pins s σ H W ρ _ I r h) fun vv s1 ⟨v,H1,x,I1,rv,e1,hx,q1⟩=>?_
 refine Lj (hb pins s1 σ H1 W ρ _ I1 (r.same e1) q1) fun uu s2 ⟨u,H2,y,I2,ru,e2,hy,q2⟩=>?_
 exact hf vv uu s2 v u x y H2 I2 (e1.trans e2) rv ru (hx.same e2) hy q2
def DP.up(e:ar H H1)(h:DP X pins σ W H1 Q u s'):DP X pins σ W H Q u s':=by obtain⟨v,H',d,I,r,e1,hd,q⟩:=h;exact⟨v,H',d,I,r,e.trans e1,hd,q⟩
def ao{op:Operator}{r:RD2}(ho:MB X (binaryOp op) r)(ha:Lx X a ta)(hb:Lx X b tb):Lx X (.BinOp a op b pos) (VS r ta tb):=by intro pins s σ H W ρ Q I rr h;refine wpAny_BinOp (zI ha hb I rr h fun vv uu s2 v u x y H2 I2 e rv ru hx hy q=>?_);exact Lj (ho pins s2 σ H2 W x y v u vv uu Q I2 (rr.same e).tracked rv ru hx hy q) fun _ _ z=>z.up e
def JG{rd:D->(D->Prop)->Prop}(ho:Zf X (unaryOp op) r)(ha:Lx X a ta)
  (k:∀P H d v Q,Den X.K P H d v->rd d Q->r v H fun v' H'=>ar H H'/\∃d',Den X.K P H' d' v'/\Q d'):Lx X (.UnaryOp op a pos) (fun ρ Q=>ta ρ fun x=>rd x Q):=by
 intro pins s σ H W ρ Q I rr h;refine UnaryOp_ (Lj (ha pins s σ H W ρ _ I rr h) fun vv s1 ⟨v,H1,x,I1,rv,e1,hx,q1⟩=>?_);exact Lj (ho pins s1 σ H1 v vv _ I1 rv (k _ H1 x v Q hx q1)) fun u s2 ⟨w',H2,I2,r2,e2,d,hd,q2⟩=>⟨w',H2,d,I2,r2,e1.trans e2,hd,q2⟩
def vJ(ta:DE):DE:=fun ρ Q=>ta ρ fun x=>∃i,x=.int i/\Q (.int (-i))
def cg(ha:Lx X a ta):Lx X (.UnaryOp .USub a pos) (vJ ta) :=
 JG (rd:=fun x Q=>∃i,x=.int i/\Q (.int (-i))) Ju ha fun P H d v Q hd ⟨i,e,q⟩=>by subst e;exact⟨i,hd.L9,ar.refl H,_,Den.int _,q⟩
def MB.of{rd:RD2}(h:Pa X f r)(k:∀P H x y v u Q,Den X.K P H x v->Den X.K P H y u->rd x y Q->r v u H fun v' H'=>ar H H'/\∃d',Den X.K P H' d' v'/\Q d'):MB X f rd:=by intro pins s σ H W x y v u vv uu Q I _ rv ru hx hy q;exact Lj (h pins s σ H v u vv uu _ I rv ru (k _ H x y v u Q hx hy q)) fun _ s2 ⟨w',H2,I2,r2,e2,d,hd,q2⟩=>⟨w',H2,d,I2,r2,e2,hd,q2⟩
def T9(C:Int->Int->Prop)(g:Int->Int->D):RD2:=fun x y Q=>match x,y with
 |.int i,.int j=>C i j/\Q (g i j)
 |_,_=>False
def gC(g:Int->Int->D):RD2:=fun x y Q=>match x,y with
 |.int i,.int j=>Q (g i j)
 |_,_=>False
def Je(h:T9 C g x y Q):∃i j,x=.int i/\y=.int j/\C i j/\Q (g i j):=by
 unfold T9 at h;split at h
 ·exact⟨_,_,rfl,rfl,h⟩
 ·exact h.elim
def oV(h:gC g x y Q):∃i j,x=.int i/\y=.int j/\Q (g i j):=by
 unfold gC at h;split at h
 ·exact⟨_,_,rfl,rfl,h⟩
 ·exact h.elim
def MB.Yx{g:Int->Int->Int}(h:Pa X f (rI C fun i j=>.int (g i j))):MB X f (T9 C fun i j=>.int (g i j)) :=
 MB.of h fun P H x y v u Q hx hy z=>by obtain⟨i,j,e1,e2,hc,q⟩:=Je z;subst e1 e2;exact⟨i,j,hx.L9,hy.L9,hc,ar.refl H,_,Den.int _,q⟩
def MB.WR{g:Int->Int->Int}(h:Pa X f (Su fun i j=>.int (g i j))):MB X f (gC fun i j=>.int (g i j)) :=
 MB.of h fun P H x y v u Q hx hy z=>by obtain⟨i,j,e1,e2,q⟩:=oV z;subst e1 e2;exact⟨i,j,hx.L9,hy.L9,ar.refl H,_,Den.int _,q⟩
def MB.Tc{g:Int->Int->Bool}(h:Pa X f (Su fun i j=>.bl (g i j))):MB X f (gC fun i j=>.bl (g i j)) :=
 MB.of h fun P H x y v u Q hx hy z=>by obtain⟨i,j,e1,e2,q⟩:=oV z;subst e1 e2;exact⟨i,j,hx.L9,hy.L9,ar.refl H,_,Den.bl _,q⟩
def IJ:MB X (binaryOp .Add) (gC fun i j=>.int (i+j)):=MB.WR IQ
def bG:MB X (binaryOp .Sub) (gC fun i j=>.int (i - j)):=MB.WR IT
def cK:MB X (compareOp .Lt) (gC fun i j=>.bl (decide (i<j))):=MB.Tc JW
def uT:MB X (compareOp .LtE) (gC fun i j=>.bl (decide (i<=j))):=MB.Tc JV
def lY:MB X (compareOp .Gt) (gC fun i j=>.bl (decide (j<i))):=MB.Tc JU
def uS:MB X (compareOp .GtE) (gC fun i j=>.bl (decide (j<=i))):=MB.Tc JT
def Bd(n:Nat)(x:Int):Prop:=x.natAbs<2 ^ n
def Bd.mono{n:Nat}(h:Bd m x)(l:m<=n):Bd n x:=M5 h (Uw (by decide) l)
def Bd.mul(h:Bd m x)(h':Bd n y):Bd (m+n) (x*y):=by unfold Bd at *;rw[TY,Nat.pow_add];exact Nat.mul_lt_mul'' h h'
def Bd.add(h:Bd m x)(h':Bd m y):Bd (m+1) (x+y):=by
 unfold Bd at *;rw[Qn];have:=Int.natAbs_add_le x y
 lia
def Bd.sub(h:Bd m x)(h':Bd m y):Bd (m+1) (x - y):=by
 unfold Bd at *;rw[Qn];have:=Int.natAbs_sub_le x y
 lia
def Bd.neg(h:Bd m x):Bd m (-x):=by unfold Bd at *;rw[Int.natAbs_neg];exact h
def Bd.bits(h:Bd n x):Builtin.Int.intBits x<=n:=by
 unfold Bd at h;unfold Builtin.Int.intBits;split
 ·exact MK _
 ·rename_i hz;have hp:x.natAbs≠0:=by
   intro e;apply hz;have:x=0:=Int.natAbs_eq_zero.mp e;simp[this]
  have:=(Nat.log2_lt hp).mpr h
  lia
def CM(i j:Int):Prop:=Bd 64 i∨Bd 64 j∨(Bd 100000 i/\Bd 100000 j)
def CM.ok(h:CM i j):IntMulOk i j:=by
 rcases h with h|h|⟨h,h'⟩
 ·exact .of_left h.bits
 ·exact .of_right h.bits
 ·exact .of_bits (NW h.bits (by decide)) (NW h'.bits (by decide))
def Gf:Pa X (binaryOp .Mult) (rI CM fun i j=>.int (i*j)):=Yu fun _ _ _ _ _ _ _ hc q=>mul_int q hc.ok
def aA:MB X (binaryOp .Mult) (T9 CM fun i j=>.int (i*j)):=MB.Yx Gf
def CD(_:Int)(j:Int):Prop:=j≠0/\Bd 8000 j
def CD.Zs(h:CD i j):Builtin.divisionGoesByPylong i j=false:=by
 refine PyProof.noPylong_of_log2 ?_;have hz:j.natAbs≠0:=fun e=>h.1 (Int.natAbs_eq_zero.mp e)
 have:=(Nat.log2_lt hz).mpr h.2
 lia
def DX:Pa X (binaryOp .FloorDiv) (rI CD fun i j=>.int (i.fdiv j)):=Yu fun _ _ _ _ _ _ _ hc q=>floordiv_int hc.1 q (.inl hc.Zs)
def dJ:MB X (binaryOp .FloorDiv) (T9 CD fun i j=>.int (i.fdiv j)):=MB.Yx DX
def bU:MB X (binaryOp .Mod) (T9 (fun _ j=>j≠0) fun i j=>.int (i.fmod j)):=MB.Yx Ge
def k9:MB X (binaryOp .Pow) (T9 zd fun i j=>.int (i ^ j.toNat)):=MB.Yx IS
def dB(t:DE):DT:=fun ρ Q=>t ρ fun x=>∃k,x=.bl k/\Q k
def dE{op:CmpOp}{r:RD2}(ho:MB X (compareOp op) r)(ha:Lx X a ta)(hb:Lx X b tb)(hm:behindInMarks op b=false:=by first|exact wH _ (by decide) (by decide)|rfl):Lx X (.Compare a [op] [b] pos) (VS r ta tb):=by intro pins s σ H W ρ Q I rr h;refine wpAny_Compare1 (zI ha hb I rr h fun vv uu s2 v u x y H2 I2 e rv ru hx hy q=>?_) hm;exact Lj (ho pins s2 σ H2 W x y v u vv uu Q I2 (rr.same e).tracked rv ru hx hy q) fun _ _ z=>z.up e
def aB(ho:MB X (compareOp op) r)(ha:Lx X a ta)(hb:Lx X b tb)(hm:behindInMarks op b=false:=by first|exact wH _ (by decide) (by decide)|rfl):PL X (.Compare a [op] [b] pos) (dB (VS r ta tb)):=by
 intro pins s σ H W ρ Q I rr h;refine wpAny_isTrue_Compare1 (Lj (ha pins s σ H W ρ _ I rr h) fun vv s1 ⟨v,H1,x,I1,rv,e1,hx,q1⟩=>Lj (hb pins s1 σ H1 W ρ _ I1 (rr.same e1) q1) fun uu s2 ⟨u,H2,y,I2,ru,e2,hy,q2⟩=>
  Lj (ho pins s2 σ H2 W x y v u vv uu _ I2 ((rr.same e1).same e2).tracked rv ru (hx.same e2) hy q2) fun c s3 ⟨z,H3,d,I3,r3,e3,hd,k,ek,q3⟩=>?_) hm
 subst ek;have hz:=hd.T8;subst hz;cases r3;exact wpAny_truthy_bool ⟨H3,I3,e1.trans (e2.trans e3),q3⟩
def bE(h:Lx X e t)(he:∀whole,isTrue e X.env whole=(do let v←whole;standAt e.pos;holding [v] (truthy v)):=by intro _;rfl):PL X e (dB t):=by intro pins s σ H W ρ Q I rr hw;refine isTrue_plain (Lj (h pins s σ H W ρ _ I rr hw) fun vv s1 ⟨v,H1,x,I1,rv,e1,hx,k,ek,q⟩=>?_) (he _);subst ek;have hz:=hx.T8;subst hz;cases rv;exact wpAny_truthy_bool ⟨H1,I1,e1,q⟩
variable{tA WE:DT}{rest:yai}
def Hl(t u:DT):DT:=fun ρ Q=>t ρ fun c=>if c=true then u ρ Q else Q false
def dOr(t u:DT):DT:=fun ρ Q=>t ρ fun c=>if c=true then Q true else u ρ Q
def Hq(t:DT):DT:=fun ρ Q=>t ρ fun c=>Q (!c)
def sC(ha:PL X a tA):Tb X (.BoolOp .And [a] pos) tA:=by
 intro wh pins s σ H W ρ Q I rr h;refine isTrue_and (Lj (ha pins s σ H W ρ Q I rr h) fun c s1 e=>?_);cases c with
 |true=>exact isTrue_and_nil e
 |false=>exact e
def dF(ha:PL X a tA):Tb X (.BoolOp .Or [a] pos) tA:=by
 intro wh pins s σ H W ρ Q I rr h;refine isTrue_or (Lj (ha pins s σ H W ρ Q I rr h) fun c s1 e=>?_);cases c with
 |false=>exact isTrue_or_nil e
 |true=>exact e
def vQ(ha:PL X a tA)(hb:Tb X (.BoolOp .And (b::rest) pos) WE):Tb X (.BoolOp .And (a::b::rest) pos) (Hl tA WE):=by
 intro wh pins s σ H W ρ Q I rr h;refine isTrue_and (Lj (ha pins s σ H W ρ _ I rr h) fun c s1 ⟨H1,I1,e1,q1⟩=>?_);cases c with
 |true=>exact Lj (hb wh pins s1 σ H1 W ρ Q I1 (rr.same e1) q1) fun _ _ ⟨H2,I2,e2,q2⟩=>⟨H2,I2,e1.trans e2,q2⟩
 |false=>exact⟨H1,I1,e1,q1⟩
def bP(ha:PL X a tA)(hb:Tb X (.BoolOp .Or (b::rest) pos) WE):Tb X (.BoolOp .Or (a::b::rest) pos) (dOr tA WE):=by
 intro wh pins s σ H W ρ Q I rr h;refine isTrue_or (Lj (ha pins s σ H W ρ _ I rr h) fun c s1 ⟨H1,I1,e1,q1⟩=>?_);cases c with
 |true=>exact⟨H1,I1,e1,q1⟩
 |false=>exact Lj (hb wh pins s1 σ H1 W ρ Q I1 (rr.same e1) q1) fun _ _ ⟨H2,I2,e2,q2⟩=>⟨H2,I2,e1.trans e2,q2⟩
def bK(ha:PL X a tA):PL X (.UnaryOp .Not a pos) (Hq tA):=by intro pins s σ H W ρ Q I rr h;exact isTrue_not (ha pins s σ H W ρ (fun c=>Q (!c)) I rr h)
def EB(ta tb:DE):DE:=fun ρ Q=>ta ρ fun x=>∃c,x=.bl c/\if c=true then tb ρ Q else Q (.bl false)
def EJ(ta:DE):DE:=fun ρ Q=>ta ρ fun x=>∃c,x=.bl c/\Q (.bl (!c))
def kT{op}(h:Lx X a t):Lx X (.BoolOp op [a] pos) t:=fun pins s σ H W ρ Q I rr hw=>BoolOp_one (h pins s σ H W ρ Q I rr hw)
def iC(ha:Lx X a ta)(hb:Lx X (.BoolOp .And (b::rest) pos) tb):Lx X (.BoolOp .And (a::b::rest) pos) (EB ta tb):=by
 intro pins s σ H W ρ Q I rr h;refine BoolOp_and (Lj (ha pins s σ H W ρ _ I rr h) fun vv s1 ⟨v,H1,x,I1,rv,e1,hx,c,ec,q1⟩=>?_);subst ec;have hz:=hx.T8;subst hz;cases rv;refine wpAny_truthy_bool ?_;cases c with
 |true=>exact Lj (hb pins s1 σ H1 W ρ Q I1 (rr.same e1) q1) fun _ _ z=>z.up e1
 |false=>exact⟨.bl false,H1,_,I1,rfl,e1,Den.bl _,q1⟩
def HG(ha:Lx X a ta):Lx X (.UnaryOp .Not a pos) (EJ ta):=by intro pins s σ H W ρ Q I rr h;refine UnaryOp_ (Lj (ha pins s σ H W ρ _ I rr h) fun vv s1 ⟨v,H1,x,I1,rv,e1,hx,c,ec,q1⟩=>?_);subst ec;have hz:=hx.T8;subst hz;cases rv;exact not_of (wpAny_truthy_bool ⟨.bl (!c),H1,_,I1,rfl,e1,Den.bl _,q1⟩)
def dIf(t:DT)(ta tb:DE):DE:=fun ρ Q=>t ρ fun c=>if c=true then ta ρ Q else tb ρ Q
def pV(hc:PL X c tA)(ha:Lx X a ta)(hb:Lx X b tb):Lx X (.IfExp c a b pos) (dIf tA ta tb):=by
 intro pins s σ H W ρ Q I rr h;refine wpAny_IfExp (Lj (hc pins s σ H W ρ _ I rr h) fun d s1 ⟨H1,I1,e1,q1⟩=>?_);cases d with
 |true=>exact Lj (ha pins s1 σ H1 W ρ Q I1 (rr.same e1) q1) fun _ _ z=>z.up e1
 |false=>exact Lj (hb pins s1 σ H1 W ρ Q I1 (rr.same e1) q1) fun _ _ z=>z.up e1
def sS:RD2:=fun x y Q=>match x,y with
 |.tup ds,.int i=>∃d,Mm ds i=some d/\Q d
 |.lst _ ds,.int i=>∃d,Mm ds i=some d/\Q d
 |_,_=>False
def Gv(h:sS x y Q):∃ds i d,(x=.tup ds∨∃ t,x=.lst t ds)/\y=.int i/\Mm ds i=some d/\Q d:=by
 unfold sS at h;split at h
 ·obtain⟨d,h⟩:=h;exact⟨_,_,d,.inl rfl,rfl,h⟩
 ·obtain⟨d,h⟩:=h;exact⟨_,_,d,.inr ⟨_,rfl⟩,rfl,h⟩
 ·exact h.elim
def vg{K:yac}{P:yak}{H:Hp}{ds:yar}{vs:yaq}{i:Int}{d:D}(h:ag K P H ds vs)(e:Mm ds i=some d):∃v,Mm vs i=some v/\Den K P H d v:=by
 unfold Mm at e ⊢;rw[h.len];cases q:ixN ds.length i with
 |none=>rw[q]at e;cases e
 |some j =>
  rw[q]at e;exact h.get e
def ai(ha:Lx X a ta)(hb:Lx X b tb)(hs:yb b:=by intro _ _;rfl):Lx X (.Subscript a b pos) (VS sS ta tb):=by
 intro pins s σ H W ρ Q I rr h;refine Subscript_ (zI ha hb I rr h fun vv uu s2 v u x y H2 I2 e rv ru hx hy q=>?_)
 replace q:=Gv q
 obtain⟨ds,i,d,ex,ey,ei,q⟩:=q;subst ey;have hu:=hy.L9;subst hu;have fin:∀(v':V),Den X.K W.bad H2 d v'->ar H2 H2/\∃d',Den X.K W.bad H2 d' v'/\Q d':=fun v' hd=>⟨ar.refl _,d,hd,q⟩
 rcases ex with ex|⟨tg,ex⟩
 ·subst ex;obtain⟨p,vs,ev,hq,hd⟩:=hx.NX;subst ev;obtain⟨v',e1,e2⟩:=vg hd ei;exact Lj (Iy a b pins s2 σ H2 _ _ vv uu (fun v' H'=>ar H2 H'/\∃d',Den X.K W.bad H' d' v'/\Q d') I2 rv ru ⟨p,vs,i,v',rfl,rfl,hq.w,e1,fin v' e2⟩ (hs _ _))
   fun _ s3 ⟨w',H3,I3,r3,e3,d',PR,q'⟩=>⟨w',H3,d',I3,r3,e.trans e3,PR,q'⟩
 ·subst ex;obtain⟨p,vs,ev,_,hq,hd⟩:=hx.Nm;subst ev;obtain⟨v',e1,e2⟩:=vg hd ei;exact Lj (yF a b pins s2 σ H2 _ _ vv uu (fun v' H'=>ar H2 H'/\∃d',Den X.K W.bad H' d' v'/\Q d') I2 rv ru ⟨p,vs,i,v',rfl,rfl,hq,e1,fin v' e2⟩ (hs _ _))
   fun _ s3 ⟨w',H3,I3,r3,e3,d',PR,q'⟩=>⟨w',H3,d',I3,r3,e.trans e3,PR,q'⟩
end
section
variable{X:Cx}{e:Expr}{es:yai}{te:DE}{t:DA}{pos:Pos}
def zM:DA:=fun _ Q=>Q []
def qO(ta:DE)(tr:DA):DA:=fun ρ Q=>ta ρ fun x=>tr ρ fun xs=>Q (x::xs)
def af:PN X [] zM:=fun _ _ _ _ H W ρ Q I _ h=>Calls.spliced_nil ⟨[],H,[],I,.nil,ar.refl H,ag.nil,h⟩
def aa(ha:Lx X e te)(hr:PN X es t)(hs:starEach (e::es) X.env=(false,eval e X.env)::starEach es X.env:=by rfl):PN X (e::es) (qO te t):=by intro pos pins s σ H W ρ Q I rr h;rw[hs];show wpAny _ _ (spliced ((false,eval e X.env)::backTo pos (starEach es X.env))) _ _ s;refine Calls.spliced_cons (Lj (ha pins s σ H W ρ _ I rr h) fun u s1 ⟨v,H1,x,I1,r1,e1,hx,q1⟩=>?_);exact Lj (hr pos pins s1 σ H1 W ρ _ I1 (rr.same e1) q1) fun us s2 ⟨vs,H2,xs,I2,r2,e2,Yy,q2⟩=>⟨v::vs,H2,x::xs,I2,.cons r1 r2,e1.trans e2,ag.cons (hx.same e2) Yy,q2⟩
theorem ar.upd{H:Hp}(h:H p=none)(n:NT o:=by exact True.intro):ar H (upd H p o):=⟨fun b u e _=>by rw[av (aW e h)];exact e,fun b ps e=>⟨#[],by rw[av (aW e h),e];simp⟩,fN.upd n (.inl h)⟩
def Hz(t:DA):DE:=fun ρ Q=>t ρ fun ds=>ds.length<=sizeLine/\Q (.tup ds)
def C8(t:DA):DE:=fun ρ Q=>t ρ fun ds=>ds.length<=sizeLine/\Q (.lst true ds)
def bL{x1}(h:PN X es t):Lx X (.Tuple es x1 pos) (Hz t):=by intro pins s σ H W ρ Q I rr hq;refine wpAny_Tuple_spliced (Lj (h pos pins s σ H W ρ _ I rr hq) fun us s1 ⟨vs,H1,ds,I1,r,e1,hd,z,q⟩=>?_);rw[<- hd.len]at z;refine⟨by rw[<- r.length];exact z,?_⟩;have hf:H1 s1.heap.objs.size=none:=I1.Lu.fresh (LG _);refine⟨.ref s1.heap.objs.size,L2.upd H1 s1.heap.objs.size (.tup vs),_,I1.laid (t':=s1.toks) (fun b u e=>Mb _ e) (LG _) ⟨z,us,r,⟨_,Nw _ rfl,rfl,_,rfl⟩⟩,rfl,e1.trans (ar.upd hf),Den.tup (LO.of aH) (hd.same (ar.upd hf)),q⟩
def Inv.MD(I:Inv X pins σ H s):X.K.lookup s.heap.objs.size=none:=by
 cases e:X.K.lookup s.heap.objs.size with
 |none=>rfl
 |some o=>exact absurd (LK (I.PQ _ _ e)) (Ql _)
def de(h:PN X es t):Lx X (.List es pos) (C8 t):=by
 intro pins s σ H W ρ Q I rr hq;refine wpAny_List_spliced (Lj (h pos pins s σ H W ρ _ I rr hq) fun us s1 ⟨vs,H1,ds,I1,r,e1,hd,z,q⟩=>?_);rw[<- hd.len]at z;refine⟨by rw[<- r.length];exact z,?_⟩;have hf:H1 s1.heap.objs.size=none:=I1.Lu.fresh (LG _);exact⟨.ref s1.heap.objs.size,L2.upd H1 s1.heap.objs.size (.lst vs),_,I1.laid (t':=s1.toks) (fun b u e=>Mb _ e) (LG _) ⟨z,us,0,r,Nw _ rfl⟩,rfl,e1.trans (ar.upd hf),
  Den.lst ((rr.same e1).fresh hf) (.new aH (Inv.MD I1)) (hd.same (ar.upd hf)),q⟩
end
abbrev DSp:=yar->(D->Prop)->(Value->Prop)->Prop
def aK(K:yac)(sp:DSp):Sp:=fun vs H Q E=>∃(P:Addr->Prop) (ds:yar) (Qd:D->Prop) (Ed:Value->Prop),ku K H/\(∀a,P a->∃o,H a=some o)/\ag K (fun t a=>t=true∨P a) H ds vs/\sp ds Qd Ed ∧
 (∀d v H',ar H H'->Den K (fun t a=>P a∨(t=true/\∃o,H a=some o)) H' d v->Qd d->Q v H')/\∀c a H',ar H H'->Ed c->E c a H'
mutual
def aL:D->D
 |.tup ds=>.tup (bc ds)
 |.lst _ ds=>.lst false (bc ds)
 |.obj C ns ds=>.obj C ns (bc ds)
 |.Po=>.Po
 |.Ob ks ds=>.Ob ks (bc ds)
 |.LJ=>.LJ|.bl b=>.bl b|.int i=>.int i|.str x=>.str x|.exc c=>.exc c
def bc:yar->yar
 |[]=>[]
 |d::ds=>aL d::bc ds
end
section
variable{K:yac}{P:yak}{P':Addr->Prop}{H:Hp}
mutual
theorem Den.aL(h:∀t a,P' a->P t a):∀(d:D) (v:V),Den K P H d v->Den K (fun t a=>t=true∨P' a) H (PD.aL d) v
 |.LJ,_,q=>by simpa only[Den,PD.aL]using q
 |.bl _,_,q=>by simpa only[Den,PD.aL]using q
 |.int _,_,q=>by simpa only[Den,PD.aL]using q
 |.str _,_,q=>by simpa only[Den,PD.aL]using q
 |.exc _,_,q=>by simpa only[Den,PD.aL]using q
 |.tup ds,_,q=>by simp only[Den,PD.aL]at q ⊢;obtain⟨a,vs,e,q1,q2⟩:=q;exact⟨a,vs,e,q1,ag.aL h ds vs q2⟩
 |.obj C ns ds,_,q=>by simp only[Den,PD.aL]at q ⊢;obtain⟨a,dx,vs,e,q1,l,k,q2⟩:=q;exact⟨a,dx,vs,e,q1,l,k,ag.aL h ds vs q2⟩
 |.Po,_,q=>by simpa only[Den,PD.aL]using q
 |.Ob ks ds,_,q=>by simp only[Den,PD.aL]at q ⊢;obtain⟨a,o,kws,vs,e,q1,l,k,q2⟩:=q;exact⟨a,o,kws,vs,e,q1,l,k,ag.aL h ds vs q2⟩
 |.lst t ds,_,q=>by simp only[Den,PD.aL]at q ⊢;obtain⟨a,vs,e,p,q1,q2⟩:=q;exact⟨a,vs,e,fun z=>z.elim (fun z=>by cases z) fun z=>p (h t a z),.any q1.1,ag.aL h ds vs q2⟩
theorem ag.aL(h:∀t a,P' a->P t a):∀(ds:yar) (vs:yaq),ag K P H ds vs->ag K (fun t a=>t=true∨P' a) H (PD.bc ds) vs
 |[],_,q=>by simpa only[ag,PD.bc]using q
 |d::ds,_,q=>by simp only[ag,PD.bc]at q ⊢;obtain⟨v,r,e,h1,h2⟩:=q;exact⟨v,r,e,Den.aL h d v h1,ag.aL h ds r h2⟩
end
end
def Den.back{K:yac}{W:Own}{H H':Hp}{d:D}{v:V}(tr:∀t a,W.bad t a->∃o,H a=some o)(h:Den K (fun t a=>W.bad false a∨(t=true/\∃o,H a=some o)) H' d v):Den K W.bad H' d v :=
 h.Lo fun t a z=>by
  cases t with
  |false=>exact .inl z
  |true=>exact .inr ⟨rfl,tr true a z⟩
section
variable{X:Cx}{CX:CXT}{k:Nat}{f:Addr}{fd:FuncData}{ps:yah}{sp:DSp}{x:Str}{p pos:Pos}{e:Expr}{es:yai}{t:DA}
def uP(sp:DSp)(dds:yar)(t:DA):DE:=fun ρ Q=>t ρ fun ds=>sp (bc ds++dds) Q fun _=>False
def Dj:D->V
 |.LJ=>.LJ|.bl b=>.bl b|.int i=>.int i|.str x=>.str x|_=>.LJ
def Au:D->Prop
 |.tup _=>False|.lst _ _=>False|.exc _=>False|.obj _ _ _=>False|.Po=>False|.Ob _ _=>False|_=>True
theorem ag.w5{K:yac}{P:yak}{H:Hp}:∀{dds:yar},(∀d∈dds,Au d)->ag K P H dds (dds.map Dj)
 |[],_=>ag.nil
 |d::r,h=>by
  refine ag.cons ?_ (ag.w5 fun x hx=>h x (L8 _ hx));have:=h d Ng;cases d with
  |LJ=>exact Den.LJ
  |bl b=>exact Den.bl b
  |int i=>exact Den.int i
  |str x=>exact Den.str x
  |tup _=>exact this.elim
  |lst _ _=>exact this.elim
  |exc _=>exact this.elim
  |obj _ _ _=>exact this.elim
  |Po=>exact this.elim
  |Ob _ _=>exact this.elim
def J3 {dds : yar} (F : aJ X.prog X.w X.K X.mg X.base CX k f fd ps (aK X.K sp)) (hr : cA k X.A) (hb : Binds X.K fd ps dsv) (hd : Vals (dds.map Dj) dsv) (hs : ∀ d ∈ dds, Au d) (hx : Passes CX X E0)
 (I : Inv X pins σ H s) (rr : Rel X W H σ ρ) (r : Vals vs us) (LQ : ag X.K W.bad H ds vs)
  (q : sp (bc ds ++ dds) Q fun _ => False) : wpAny (model X.prog X.w) X.A (call (.ref f) us) (DP X pins σ W H Q) X.xe s := by
 refine Lj (Jh (Q := fun v H' => ar H H' /\ ∃ d, Den X.K W.bad H' d v /\ Q d) F hr hb hd hx I r ⟨W.bad false, bc ds ++ dds, Q, fun _ => False, rr.tab, rr.tracked false, (ag.aL (fun _ _ => Own.RO) ds vs LQ).append (ag.w5 hs), q, fun d v H' e h1 h2 => ⟨e, d, Den.back rr.tracked h1, h2⟩, fun _ _ _ _ z => z.elim⟩)
  fun u s2 ⟨v, H2, I2, r2, e2, d, h1, h2⟩ => ⟨v, H2, d, I2, r2, e2, h1, h2⟩
def Dd{dds:yar}(F:aJ X.prog X.w X.K X.mg X.base CX k f fd ps (aK X.K sp))(hr:cA k X.A)(hg:Gl X x)(hm:X.mg x=some (.ref f))(hk:PySem.W.keepIn X.K (.ref f)=true)(hb:Binds X.K fd ps dsv)(hd:Vals (dds.map Dj) dsv)(hs:∀d∈dds,Au d)(hx:Passes CX X E0)
  (ha:PN X (e::es) t) (QO:(x==("__debug__" : Str))=false:=by decide) (he:starEach (e::es) X.env=(false,eval e X.env)::starEach es X.env:=by rfl) (MH:(backTo pos (starEach es X.env)).any (·.1)=false:=by rfl) :
  Lx X (.Call (.Name x p) (e::es) [] pos) (uP sp dds t):=by
 intro pins s σ H W ρ Q I rr h;refine TP (FR I hg hm ?_ QO);refine PySem.W.callWith_K (h₀:=X.base) I.ok.mod.WC hk (Lj (ha pos pins s σ H W ρ _ I rr h) fun us s1 ⟨vs,H1,ds,I1,r,e1,LQ,q⟩=>⟨I1.PQ,?_⟩) he MH;exact Lj (J3 F hr hb hd hs hx I1 (rr.same e1) r LQ q) fun _ _ z=>z.up e1
def dCB(r:yar->(D->Prop)->Prop)(t:DA):DE:=fun ρ Q=>t ρ fun ds=>r ds Q
def fM(X:Cx)(f:Value)(r:yar->(D->Prop)->Prop):Prop :=
 ∀ (pins:yab) (s:Shared) (σ:St) (H:Hp) (W:Own) (ds:yar) (vs:yaq) (us:yad) (Q:D->Prop),Inv X pins σ H s->(∀t a,W.bad t a->∃o,H a=some o)->Vals vs us->ag X.K W.bad H ds vs->r ds Q →
  wpAny (model X.prog X.w) X.A (call f us) (DP X pins σ W H Q) X.xe s
def fM.of{f:Value}{rd:yar->(D->Prop)->Prop}(h:oh X f r)(k:∀P H ds vs Q,(∀t a,P t a->∃o,H a=some o)->ag X.K P H ds vs->rd ds Q->r vs H fun v' H'=>ar H H'/\∃d',Den X.K P H' d' v'/\Q d'):fM X f rd:=by intro pins s σ H W ds vs us Q I tr r hd q;exact Lj (h pins s σ H vs us _ I r (k _ H ds vs Q tr hd q)) fun _ s2 ⟨w',H2,I2,r2,e2,d,hd,q2⟩=>⟨w',H2,d,I2,r2,e2,hd,q2⟩
variable{id T:String}{r:yar->(D->Prop)->Prop}
def aD (hc:fM X (.builtin id) r) (hg:Gl X x) (hm:X.mg x=none) (hv:bootBuiltins x=some (.builtin id)) (ha:PN X (e::es) t) (hn:x ≠ "__name__" := by decide) (QO:(x==("__debug__" : Str))=false:=by decide)
  (NU:starEach (e::es) X.env=(false,eval e X.env)::starEach es X.env:=by rfl) (MH:(backTo pos (starEach es X.env)).any (·.1)=false:=by rfl) :
  Lx X (.Call (.Name x p) (e::es) [] pos) (dCB r t):=by
 intro pins s σ H W ρ Q I rr h;refine TP (df I hg hm hv ?_ hn QO);exact PyProof.Rows.callWith_builtin1 (Lj (ha pos pins s σ H W ρ _ I rr h) fun us s1 ⟨vs,H1,ds,I1,rv,e1,hd,q⟩=>Lj (hc pins s1 σ H1 W ds vs us Q I1 (rr.same e1).tracked rv hd q) fun _ _ z=>z.up e1) NU MH
end
mutual
def MA:D->PyData
 |.LJ=>.none
 |.bl b=>.bool b
 |.int i=>.int i
 |.str x=>.str x
 |.tup ds=>.tuple (cE ds)
 |.lst _ ds=>.list (cE ds)
 |.exc _=>.none
 |.obj _ _ _=>.none
 |.Ob _ _=>.none
 |.Po=>.none
def cE:yar->List PyData
 |[]=>[]
 |d::ds=>MA d::cE ds
end
mutual
def PV:D->Bool
 |.tup ds=>nF ds
 |.lst _ ds=>nF ds
 |.exc _=>false
 |.obj _ _ _=>false
 |.Ob _ _=>false
 |.Po=>false
 |_=>true
def nF:yar->Bool
 |[]=>true
 |d::ds=>PV d && nF ds
end
def eqD(x y:D):Bool:=PyData.eqv (MA x) (MA y)
def okD(x:D):Prop:=PV x=true/\SeqAt.shaped (MA x)=true
section
variable{X:Cx}{pins:yab}{σ:St}{H:Hp}{s:Shared}{P:yak}
mutual
theorem eB(I:Inv X pins σ H s):∀(d:D) (v:V) (u:Value),Den X.K P H d v->RelV v u->PV d=true->∃as,Reads s.heap u (MA d) as
 |.LJ,_,_,h,r,_=>by have e:=h.S8;subst e;cases r;rw[MA];exact⟨_,.none⟩
 |.bl b,_,_,h,r,_=>by have e:=h.T8;subst e;cases r;rw[MA];exact⟨_,.bool b⟩
 |.int i,_,_,h,r,_=>by have e:=h.L9;subst e;obtain⟨t,rfl⟩:=r;rw[MA];exact⟨_,.int i t⟩
 |.str x,_,_,h,r,_=>by have e:=h.S9;subst e;obtain⟨t,rfl⟩:=r;rw[MA];exact⟨_,.str x t⟩
 |.tup ds,_,_,h,r,pl=>by rw[PV]at pl;obtain⟨a,vs,e,hq,hd⟩:=h.NX;subst e;cases r;obtain⟨K9,rv,⟨o,h1,h2,n,h3⟩,_⟩:=I.tuple hq.w;obtain⟨as,q⟩:=lP I ds vs K9 hd rv pl;rw[MA];exact⟨as,reads_tuple_at h1 h2 h3 (by simpa using q)⟩
 |.lst _ ds,_,_,h,r,pl=>by rw[PV]at pl;obtain⟨a,vs,e,_,hq,hd⟩:=h.Nm;subst e;cases r;obtain⟨K9,rv,⟨o,n,h1,h2,_,h3⟩,_⟩:=I.list hq;obtain⟨as,q⟩:=lP I ds vs K9 hd rv pl;rw[MA];exact⟨_,reads_list_at h1 h2 h3 (by simpa using q)⟩
 |.exc _,_,_,_,_,pl=>by rw[PV]at pl;cases pl
 |.obj _ _ _,_,_,_,_,pl=>by rw[PV]at pl;cases pl
 |.Ob _ _,_,_,_,_,pl=>by rw[PV]at pl;cases pl
 |.Po,_,_,_,_,pl=>by rw[PV]at pl;cases pl
theorem lP(I:Inv X pins σ H s):∀(ds:yar) (vs:yaq) (us:yad),ag X.K P H ds vs->Vals vs us->nF ds=true->∃as,ReadsAll s.heap us (cE ds) as
 |[],_,_,h,r,_=>by simp only[ag]at h;subst h;cases r;rw[cE];exact⟨_,.nil⟩
 |d::ds,_,_,h,r,pl=>by
  rw[nF,TU]at pl;simp only[ag]at h;obtain⟨v,r',rfl,h1,h2⟩:=h;cases r with
  |cons ra rb =>
   obtain⟨as,q⟩:=eB I d v _ h1 ra pl.1;obtain⟨bs,q'⟩:=lP I ds _ _ h2 rb pl.2;rw[cE];exact⟨_,.cons q q'⟩
end
def Jd:RD2:=fun x y Q=>okD x/\okD y/\Q (.bl (eqD x y))
def Jf:RD2:=fun x y Q=>okD x/\okD y/\Q (.bl (!eqD x y))
def oQ(hu:X.A.units+64<cLine):MB X (compareOp .Eq) Jd:=by intro pins s σ H W x y v u vv uu Q I _ rv ru hx hy q;obtain⟨h1,h2,q⟩:=q;obtain⟨as,ra⟩:=eB I x v vv hx rv h1.1;obtain⟨bs,rb⟩:=eB I y u uu hy ru h2.1;exact eq_dataH ra rb h1.2 h2.2 hu ⟨.bl _,H,_,I,rfl,ar.refl H,Den.bl _,q⟩
def EU(hu:X.A.units+64<cLine):MB X (compareOp .NotEq) Jf:=by intro pins s σ H W x y v u vv uu Q I _ rv ru hx hy q;obtain⟨h1,h2,q⟩:=q;obtain⟨as,ra⟩:=eB I x v vv hx rv h1.1;obtain⟨bs,rb⟩:=eB I y u uu hy ru h2.1;exact ne_dataH ra rb h1.2 h2.2 hu ⟨.bl _,H,_,I,rfl,ar.refl H,Den.bl _,q⟩
def cu:MB X (compareOp .Eq) (gC fun i j=>.bl (decide (i=j))):=MB.of JS fun P H x y v u Q hx hy z=>by obtain⟨i,j,e1,e2,q⟩:=oV z;subst e1 e2;have a:=hx.L9;have b:=hy.L9;subst a b;refine⟨rfl,ar.refl H,_,Den.bl _,?_⟩;rw[show decide (V.int i=V.int j)=decide (i=j)from by rw[oD];rfl];exact q
def fB:MB X (compareOp .NotEq) (gC fun i j=>.bl (!decide (i=j))):=MB.of JX fun P H x y v u Q hx hy z=>by obtain⟨i,j,e1,e2,q⟩:=oV z;subst e1 e2;have a:=hx.L9;have b:=hy.L9;subst a b;refine⟨rfl,ar.refl H,_,Den.bl _,?_⟩;rw[show decide (V.int i=V.int j)=decide (i=j)from by rw[oD];rfl];exact q
def iw:D->Bool
 |.LJ=>true
 |_=>false
def Bi{K:yac}{d:D}{v:V}(h:Den K P H d v):decide (v=.LJ)=iw d:=by
 cases d with
 |LJ=>have:=h.S8;subst this;rfl
 |bl b=>have:=h.T8;subst this;rfl
 |int b=>have:=h.L9;subst this;rfl
 |str b=>have:=h.S9;subst this;rfl
 |tup ds=>obtain⟨a,vs,e,_⟩:=h.NX;subst e;rfl
 |lst _ ds=>obtain⟨a,vs,e,_⟩:=h.Nm;subst e;rfl
 |exc c=>obtain⟨a,e,_⟩:=h.UW;subst e;rfl
 |obj C ns ds=>obtain⟨a,dx,vs,e,_⟩:=h.UU;subst e;rfl
 |Po=>obtain⟨a,e,_⟩:=h.WQ;subst e;rfl
 |Ob ks ds=>obtain⟨a,_,_,vs,e,_⟩:=h.Ta;subst e;rfl
def yK:MB X (compareOp .IsNot) (fun x y Q=>y=.LJ/\Q (.bl (!iw x))):=MB.of Gg fun P H x y v u Q hx hy ⟨e,q⟩=>by subst e;refine⟨hy.S8,ar.refl H,_,Den.bl _,?_⟩;rw[Bi hx];exact q
end
section
variable{X:Cx}
def mX:fM X (.builtin "abs") (fun ds Q=>∃i:Int,ds=[.int i]/\Q (.int (i.natAbs:Int))):=fM.of C3 fun P H ds vs Q _ hd ⟨i,e,q⟩=>by
 subst e;obtain⟨v,r,rfl,h1,h2⟩:∃v r,vs=v::r/\Den X.K P H (.int i) v/\ag X.K P H [] r:=by simpa only[ag]using hd
 have e1:=h1.L9;have e2:r=[]:=by simpa only[ag]using h2
 subst e1 e2;refine⟨i,rfl,ar.refl H,_,Den.int _,?_⟩;have:(if i<0 then -i else i)=(i.natAbs:Int):=by split<;>lia
 rw[this];exact q
def qQ{K:yac}{P:yak}{H:Hp}{x y:D}{vs:yaq}(h:ag K P H [x,y] vs):∃v u,vs=[v,u]/\Den K P H x v/\Den K P H y u:=by simp only[ag]at h;obtain⟨v,r,e,h1,u,r',e',h2,e''⟩:=h;subst e' e'' e;exact⟨v,u,rfl,h1,h2⟩
def oE{K:yac}{P:yak}{H:Hp}{x:D}{vs:yaq}(h:ag K P H [x] vs):∃v,vs=[v]/\Den K P H x v:=by simp only[ag]at h;obtain⟨v,r,e,h1,e'⟩:=h;subst e' e;exact⟨v,rfl,h1⟩
def He (hc:X.calm=true):fM X (.builtin "max") (fun ds Q=>∃i j:Int,ds=[.int i,.int j]/\Q (.int (max i j))):=fM.of (AY hc) fun P H ds vs Q _ hd ⟨i,j,e,q⟩=>by
 subst e;obtain⟨v,u,rfl,h1,h2⟩:=qQ hd;have e1:=h1.L9;have e2:=h2.L9;subst e1 e2;refine⟨i,j,rfl,ar.refl H,_,Den.int _,?_⟩;have:(if j > i then j else i)=max i j:=by split<;>lia
 rw[this];exact q
def aS:fM X (.builtin "len") (fun ds Q=>∃xs,((∃t,ds=[.lst t xs])∨ds=[.tup xs])/\Q (.int (xs.length:Int))):=fM.of vn fun P H ds vs Q _ hd ⟨xs,e,q⟩=>by
 rcases e with⟨tg,e⟩| e
 ·subst e;obtain⟨v,rfl,h1⟩:=oE hd;obtain⟨a,ws,e,_,hq,hw⟩:=h1.Nm;subst e;refine⟨a,ws,rfl,.inl hq,ar.refl H,_,Den.int _,?_⟩;rw[hw.len];exact q
 ·subst e;obtain⟨v,rfl,h1⟩:=oE hd;obtain⟨a,ws,e,hq,hw⟩:=h1.NX;subst e;refine⟨a,ws,rfl,.inr hq.w,ar.refl H,_,Den.int _,?_⟩;rw[hw.len];exact q
def Q9:D->String
 |.LJ => "NoneType" | .bl _ => "bool" | .int _ => "int" | .str _ => "str" | .tup _ => "tuple" | .lst _ _ => "list" | .exc _ => "object" | .obj _ _ _ => "object" | .Po => "dict" | .Ob _ _ => "dict"
def UQ:D->Value
 |.exc c=>.ref c
 |.obj C _ _=>.ref C
 |d=>.type (Q9 d)
variable{e:Expr}{te:DE}{p p' pos:Pos}{T:String}{x:Str}
def FI(x:bH P w H h a (.ins C dx fs)):∃od,PySem.W.InstAt h a (PySem.W.instObj C dx) C (some od):=by obtain⟨d,z,ne,ob,mA,n,r,q⟩:=x;obtain⟨od,hI,_⟩:=CN.look ⟨ob,n,ne⟩;exact⟨od,hI⟩
def Du{Q:yaa}{b:Bool}(I:Inv X pins σ H s)(h:Den X.K P H d v)(r:RelV v u)
  (e:PySem.W.kitOne X.K (UQ d) c=some b) (q:∀tk,Q (.bool b) {s with toks:=tk}):wpAny (model X.prog X.w) A (call (.builtin "isinstance") [u,c]) Q E s:=by
 cases d with
 |LJ=>have z:=h.S8;subst z;cases r;exact PySem.W.kia_one PySem.W.kitx_none I.PQ True.intro e (fun z=>nomatch z) q
 |bl y=>have z:=h.T8;subst z;cases r;exact PySem.W.kia_one PySem.W.kitx_bool I.PQ True.intro e (fun z=>nomatch z) q
 |int i=>have z:=h.L9;subst z;obtain⟨t,rfl⟩:=r;exact PySem.W.kia_one PySem.W.kitx_int I.PQ True.intro e (fun z=>nomatch z) q
 |str y=>have z:=h.S9;subst z;obtain⟨t,rfl⟩:=r;exact PySem.W.kia_one PySem.W.kitx_str I.PQ True.intro e (fun z=>nomatch z) q
 |tup ds =>
  obtain⟨a,vs,z,hq,_⟩:=h.NX;subst z;cases r;obtain⟨K9,rv,⟨o,h1,h2,n,h3⟩,_⟩:=I.tuple hq.w;exact PySem.W.kia_one PySem.W.kitx_tuple I.PQ ⟨o,h1,h2⟩ e (fun z=>nomatch z) q
 |lst _ ds =>
  obtain⟨a,vs,z,_,hq,_⟩:=h.Nm;subst z;cases r;obtain⟨K9,rv,⟨o,n,h1,h2,_,h3⟩,_⟩:=I.list hq;exact PySem.W.kia_one PySem.W.kitx_list I.PQ ⟨o,h1,h2⟩ e (fun z=>nomatch z) q
 |exc c' =>
  obtain⟨a,z,hq,k⟩:=h.UW;subst z;cases r;exact PySem.W.kia_one (Dx k) I.PQ (I.Lu a _ hq).1 e (fun z=>nomatch z) q
 |obj C ns ds =>
  obtain⟨a,dx,vs,z,hq,_,k,_⟩:=h.UU;subst z;cases r;obtain⟨od,hI⟩:=FI (I.Lu a _ hq);exact PySem.W.kia_one (PySem.W.kitx_own k.pg k.hd k.at_ k.get k.takes k.obj) I.PQ hI e (fun z=>nomatch z) q
 |Po =>
  obtain⟨a,z,hq⟩:=h.WQ;subst z;cases r;exact PySem.W.kia_one PySem.W.kitx_dict I.PQ (I.Lu a _ hq).1 e (fun z=>nomatch z) q
 |Ob ks ds =>
  obtain⟨a,o,kws,vs,z,hq,_⟩:=h.Ta;subst z;cases r;obtain⟨_,_,_,_,_,q',_,_,Td,hx,_⟩:=I.Lu a _ hq;exact PySem.W.kia_one PySem.W.kitx_dict I.PQ ⟨q',Td,hx.1⟩ e (fun z=>nomatch z) q
def xB(K:yac)(S T:String):PySem.W.kitOne K (.type S) (.type T)=if S=T then some true else if PySem.W.kitMeta T=true then(fastBuiltinMro S).map (·.contains (.type T))else none:=by
 unfold PySem.W.kitOne PySem.W.kitCls PySem.W.subIn;by_cases h:S=T
 ·subst h;simp
 ·have:(Value.type S==Value.type T)=false:=by
   rw[beq_eq_false_iff_ne];intro e;injection e with e;exact h e
  rw[this,K3 OY,K3 h]
def RP (T:String) (d:D):Bool:=Q9 d==T || (Q9 d == "bool" && T == "int")
def kit_ans (K:yac) (d:D) (hk:∀c,d=.exc c->ko K c) (ho:∀C ns ds,d=.obj C ns ds->zA K C) (hT:T = "int" ∨ T = "bool" ∨ T = "tuple" ∨ T = "list" ∨ T = "str"):PySem.W.kitOne K (UQ d) (.type T)=some (RP T d):=by
 by_cases hx:∃c,d=.exc c
 ·obtain⟨c,rfl⟩:=hx;show PySem.W.kitOne K (.ref c) (.type T)=_;rw[(hk c rfl).not T hT];show _=some ("object" == T || ("object" == "bool" && T == "int"));rcases hT with e|e|e|e|e<;>subst e<;>decide +kernel
 by_cases hy:∃C ns ds,d=.obj C ns ds
 ·obtain⟨C,ns,ds,rfl⟩:=hy;show PySem.W.kitOne K (.ref C) (.type T)=_;rw[(ho C ns ds rfl).not T hT];show _=some ("object" == T || ("object" == "bool" && T == "int"));rcases hT with e|e|e|e|e<;>subst e<;>decide +kernel
 have hv:UQ d=.type (Q9 d):=by cases d<;>first|rfl|exact absurd ⟨_,rfl⟩ hx|exact absurd ⟨_,_,_,rfl⟩ hy
 rw[hv,xB];unfold RP;have hS:Q9 d = "NoneType" ∨ Q9 d = "bool" ∨ Q9 d = "int" ∨ Q9 d = "str" ∨ Q9 d = "tuple" ∨ Q9 d = "list" ∨ Q9 d = "dict" := by cases d<;>first|exact absurd ⟨_,rfl⟩ hx|exact absurd ⟨_,_,_,rfl⟩ hy|simp[Q9]
 generalize Q9 d=S at hS ⊢;rcases hT with e|e|e|e|e<;>subst e<;>rcases hS with e|e|e|e|e|e|e<;>subst e<;>decide +kernel
def dIs(T:String)(te:DE):DE:=fun ρ Q=>te ρ fun d=>Q (.bl (RP T d))
def cf (hg:Gl X "isinstance") (hm:X.mg "isinstance" = none) (hgT:Gl X x) (hmT:X.mg x=none) (hv:bootBuiltins x=some (.type T)) (hT:T = "int" ∨ T = "bool" ∨ T = "tuple" ∨ T = "list" ∨ T = "str") (he:Lx X e te)
  (hn:x ≠ "__name__" := by decide) (QO:(x==("__debug__" : Str))=false:=by decide)
  (NU:starEach [e,.Name x p'] X.env=(false,eval e X.env)::starEach [.Name x p'] X.env:=by rfl) (Te:starEach [.Name x p'] X.env=(false,eval (.Name x p') X.env)::starEach [] X.env:=by rfl) (Zt:(backTo pos (starEach [.Name x p'] X.env)).any (·.1)=false:=by rfl) :
  Lx X (.Call (.Name "isinstance" p) [e,.Name x p'] [] pos) (dIs T te):=by
 intro pins s σ H W ρ Q I rr h;have Zu:PA X [e,.Name x p'] (AB (ET X te) (AB (tC (.ty T)) Jr)):=jF he.pe (jF (Gi hgT hmT hv rfl hn QO) nE Te) NU;refine TP (df I hg hm boot_isinstance ?_ (by decide) (by decide));refine PyProof.Rows.callWith_builtin1 (Lj (Zu pos pins s σ H (fun vs H1=>∃v d,vs=[v,.ty T]/\ar H H1/\Den X.K W.bad H1 d v/\Q (.bl (RP T d))) I ⟨W,ρ,_,rr,h,fun v H1 d e1 hd q1=>⟨v,d,rfl,e1,hd,q1⟩⟩) fun us s1 ⟨vs,H1,I1,rv,v,d,ev,e1,hd,q1⟩=>?_) NU Zt;subst ev;cases rv with
 |cons r1 rr =>
  cases rr with
  |cons r2 rr =>
   cases rr;cases(show _=Value.type T from r2);exact Du I1 hd r1 (kit_ans X.K d (fun c z=>by subst z;exact hd.UW.choose_spec.2.2) (fun C ns ds z=>by subst z;obtain⟨_,_,_,_,_,_,k,_⟩:=hd.UU;exact k) hT) fun tk=>⟨.bl _,H1,_,I1.tok tk,rfl,e1,Den.bl _,q1⟩
end
section
variable{X:Cx}{pos:Pos}
def QR.up(g:LC W0 H0 W H)(h:QR X pins W H E f s'):QR X pins W0 H0 E f s':=by obtain⟨W',LH,H',I,fw,q⟩:=h;exact⟨W',LH,H',I,g.trans fw,q⟩
variable{st:Stmt}{rest:List Stmt}{t u:DS}{e:Expr}{te:DE}
def EI:DS:=fun E ρ=>E.nx ρ
def C9(t u:DS):DS:=fun E ρ=>t {E with nx:=u E} ρ
def aE:cG X [] EI:=fun _ _ σ H W ρ E I r h=>wpAny_execs_nil ⟨W,σ,H,I,LC.refl W H,ρ,r,h⟩
def ah(h1:NA X st t)(h2:cG X rest u):cG X (st::rest) (C9 t u):=by
 intro pins s σ H W ρ E I r h;refine wpAny_execs_cons (Lj (h1 pins s σ H W ρ {E with nx:=u E} I r h) fun f s1 ⟨W',LH,H',I',fw,q⟩=>?_);cases f with
 |next =>
  obtain⟨Ld,r',q⟩:=q;exact Lj (h2 pins s1 LH H' W' Ld E I' r' q) fun _ _ z=>z.up fw
 |ret v=>exact⟨W',LH,H',I',fw,q⟩
 |brk=>exact⟨W',LH,H',I',fw,q⟩
 |cont=>exact⟨W',LH,H',I',fw,q⟩
def aj(h1:NA X st t):cG X [st] t:=by
 intro pins s σ H W ρ E I r h;refine wpAny_execs_cons (Lj (h1 pins s σ H W ρ E I r h) fun f s1 q=>?_);cases f with
 |next=>exact wpAny_execs_nil q
 |ret v=>exact q
 |brk=>exact q
 |cont=>exact q
def Ht(te:DE):DS:=fun E ρ=>te ρ E.rt
def au(he:Lx X e te):NA X (.Return (some e) pos) (Ht te):=by intro pins s σ H W ρ E I r h;exact wpAny_Return_some (Lj (he pins s σ H W ρ _ I r h) fun u s1 ⟨v,H1,d,I1,r1,e1,hd,q1⟩=>⟨W,σ,H1,I1,LC.same e1,v,d,r1,hd,q1⟩)
def Hn(c:DT)(t u:DS):DS:=fun E ρ=>c ρ fun b=>if b=true then t E ρ else u E ρ
def aR(hc:PL X c tc)(ha:cG X a t)(hb:cG X b u):NA X (.If c a b pos) (Hn tc t u):=by
 intro pins s σ H W ρ E I r h;refine wpAny_If (Lj (hc pins s σ H W ρ _ I r h) fun d s1 ⟨H1,I1,e1,q1⟩=>?_);cases d with
 |true=>exact Lj (ha pins s1 σ H1 W ρ E I1 (r.same e1) q1) fun _ _ z=>z.up (LC.same e1)
 |false=>exact Lj (hb pins s1 σ H1 W ρ E I1 (r.same e1) q1) fun _ _ z=>z.up (LC.same e1)
def Rel.put{X:Cx}{i:Nat}(r:Rel X W H σ ρ)(hi:i<σ.length)(hd:Den X.K W.bad H d v):Rel X (W.drop i) H (σ.set i (some v)) (ρ.set i (some (.val d))) where
 val:=fun j x h=>by
  by_cases hj:j=i
  ·subst hj;refine⟨v,by simp[hi],?_⟩;by_cases hl:j<ρ.length
   ·rw[Ou hl]at h;cases h;exact hd.Lo fun _ _=>Own.L0
   ·rw[RD (by simpa using hl)]at h;cases h
  ·rw[NK (Ne.symm hj)]at h;obtain⟨w,h1,h2⟩:=r.val j x h;exact⟨w,by rw[NK (Ne.symm hj)];exact h1,h2.Lo fun _ _=>Own.L0⟩
 own:=fun j x h=>by
  by_cases hj:j=i
  ·subst hj;by_cases hl:j<ρ.length
   ·rw[Ou hl]at h;cases h
   ·rw[RD (by simpa using hl)]at h;cases h
  ·rw[NK (Ne.symm hj)]at h;obtain⟨a,vs,h1,h2,h3,h4⟩:=r.own j x h;exact⟨a,vs,by show(if j=i then none else W.O j)=_;rw[K3 hj];exact h1,by rw[NK (Ne.symm hj)];exact h2,h3,by rw[SO];exact h4.Lo (fun _ _=>Own.L0) (Own.OE hi)⟩
 inj:=fun j k a h1 h2=>by
  have LS:(if j=i then none else W.O j)=some a:=h1;have Oq:(if k=i then none else W.O k)=some a:=h2;by_cases e1:j=i
  ·rw[K4 e1]at LS;cases LS
  ·by_cases e2:k=i
   ·rw[K4 e2]at Oq;cases Oq
   ·rw[K3 e1]at LS;rw[K3 e2]at Oq;exact r.inj j k a LS Oq
 kn:=fun j a h1=>by
  have LS:(if j=i then none else W.O j)=some a:=h1;by_cases e1:j=i
  ·rw[K4 e1]at LS;cases LS
  ·rw[K3 e1]at LS;exact r.kn j a LS
 ke:=fun j a h1=>by
  have LS:(if j=i then none else W.O j)=some a:=h1;by_cases e1:j=i
  ·rw[K4 e1]at LS;cases LS
  ·rw[K3 e1]at LS;exact r.ke j a LS
 bt:=r.bt
 st:=r.st
 ent:=r.ent
 tab:=r.tab
theorem LC.drop(W:Own)(H:Hp)(i:Nat):LC W H (W.drop i) H:=⟨rfl,rfl,fun _ _ _ h _=>h,fun j a h=>by
 have h':(if j=i then none else W.O j)=some a:=h;by_cases e1:j=i
 ·rw[K4 e1]at h';cases h'
 ·rw[K3 e1]at h';exact .inl ⟨j,h'⟩,fun _ ps h=>⟨#[],by rw[h];simp⟩,id⟩
def Inv.RQ{i:Nat}{x:Str}(I:Inv X pins σ H s)(hi:X.N[i]?=some x):i<σ.length:=by rw[I.len];exact(L6.mp hi).1
def zP(i:Nat)(te:DE):DS:=fun E ρ=>te ρ fun d=>E.nx (ρ.set i (some (.val d)))
def aC{x:Str}(i:Nat)(hN:X.N.Nodup)(he:Lx X e te)(hi:X.N[i]?=some x:=by rfl)(hx:Loc X.env.scope x:=by first|exact Or.inl rfl|exact Or.inr rfl)(hs:swapsWith e (some (.Name x pos')) pos.line X.env=pure false:=by rfl)
  (hf:X.fn x=true∨X.env.scope.names.lookup x=some .local:=by first|exact .inl rfl|exact .inr rfl|assumption):NA X (.Assign [.Name x pos'] e pos) (zP i te):=by
 intro pins s σ H W ρ E I r h;refine wpAny_Assign_Name (Lj (he pins s σ H W ρ _ I r h) fun u s1 ⟨v,H1,d,I1,r1,e1,hd,q1⟩=>?_) hs;exact gf I1 hN hi hx r1 (fun s2 I2=>⟨W.drop i,_,H1,I2,(LC.same e1).trans (LC.drop W H1 i),_,(r.same e1).put (Inv.RQ I1 hi) hd,q1⟩) hf
def NA.of{t:DS}(h:PS X st ts)(k:∀σ H W ρ E,Rel X W H σ ρ->σ.length=X.N.length->t E ρ->ts ⟨(fun LH H'=>∃W' Ld,LC W H W' H'/\Rel X W' H' LH Ld/\E.nx Ld),(fun v H'=>∃W' d,LC W H W' H'/\Den X.K W'.bad H' d v/\E.rt d),
   (fun LH H'=>∃W' Ld,LC W H W' H'/\Rel X W' H' LH Ld/\E.bk Ld),(fun LH H'=>∃W' Ld,LC W H W' H'/\Rel X W' H' LH Ld/\E.ct Ld)⟩ σ H):NA X st t:=by
 intro pins s σ H W ρ E I r ht;refine Lj (h pins s σ H _ I (k σ H W ρ E r I.len ht)) fun f s1 q=>?_
 cases f with
 |next=>obtain⟨LH,H',I',W',Ld,fw,r',q⟩:=q;exact⟨W',LH,H',I',fw,Ld,r',q⟩
 |brk=>obtain⟨LH,H',I',W',Ld,fw,r',q⟩:=q;exact⟨W',LH,H',I',fw,Ld,r',q⟩
 |cont=>obtain⟨LH,H',I',W',Ld,fw,r',q⟩:=q;exact⟨W',LH,H',I',fw,Ld,r',q⟩
 |ret u=>obtain⟨v,LH,H',I',rv,W',d,fw,hd,q⟩:=q;exact⟨W',LH,H',I',fw,v,d,rv,hd,q⟩
def HC(c:DT)(tb:DS):DS:=fun E ρ=>∃W:Nat->Ro->Prop,(∃m,W m ρ)/\∀m ρ,W m ρ->c ρ fun b=>if b=true then tb {E with nx:=fun Ld=>∃m',m'<m/\W m' Ld,ct:=fun Ld=>∃m',m'<m/\W m' Ld,bk:=E.nx} ρ else E.nx ρ
def lQ(hp:PassesOwn (model X.prog X.w) X.A X.env X.xe)(hc:PL X c tc)(hb:cG X body tb):NA X (.While c body [] pos) (HC tc tb):=by
 intro pins s σ H W ρ E I r h;obtain⟨Wd,⟨m0,w0⟩,turn⟩:=h;refine wpAny_While (codeAny_whileLoop (fun n s'=>∃W' LH H' Ld,Inv X pins LH H' s'/\LC W H W' H'/\Rel X W' H' LH Ld/\Wd n Ld) ?_ m0 ⟨W,σ,H,ρ,I,LC.refl W H,r,w0⟩);rintro n s1 ⟨W1,WS,H1,ρ1,I1,fw1,r1,w1⟩;refine UG hp (Lj (hc pins s1 WS H1 W1 ρ1 _ I1 r1 (turn n ρ1 w1)) fun b s2 ⟨H2,I2,e2,q2⟩=>?_);have WT:=fw1.trans (LC.same (W:=W1) e2);cases b with
 |true =>
  rw[K4 rfl]at q2;rw[K4 rfl];refine UG hp (Lj (hb pins s2 WS H2 W1 ρ1 _ I2 (r1.same e2) q2) fun f s3 q3=>?_);obtain⟨W3,Rv,H3,I3,Sv,q3⟩:=q3;cases f with
  |next =>
   obtain⟨Qr,r3,m',hm,w3⟩:=q3;exact⟨m',hm,W3,Rv,H3,Qr,I3,WT.trans Sv,r3,w3⟩
  |cont =>
   obtain⟨Qr,r3,m',hm,w3⟩:=q3;exact⟨m',hm,W3,Rv,H3,Qr,I3,WT.trans Sv,r3,w3⟩
  |brk=>exact⟨W3,Rv,H3,I3,WT.trans Sv,q3⟩
  |ret v=>exact⟨W3,Rv,H3,I3,WT.trans Sv,q3⟩
 |false =>
  rw[K3 OY]at q2;rw[K3 OY];exact wpAny_execs_nil ⟨W1,WS,H2,I2,WT,ρ1,r1.same e2,q2⟩
def Ig{X:Cx}(r:Rel X W H σ ρ)(f:LC W H W' H')(a:Addr)(o:HO)(n:RM o)(q:H a=some o):H' a=some o :=
 f.kp a _ (fun i z=>by obtain⟨_,_,o',q',m⟩:=r.kn i a z;rw[q]at q';cases q';exact m.sol n) q n.nt
def Ie{X:Cx}(r:Rel X W H σ ρ)(f:LC W H W' H')(a:Addr)(vs:yaq)(q:LO X.K H a vs):LO X.K H' a vs:=by
 exact f.keep a _ (fun i e=>by obtain⟨_,_,o',q',m⟩:=r.kn i a e;have q2:H a=some (.tup vs):=q;rw[q']at q2;cases q2;exact m) q
def Ic{X:Cx}(r':Rel X W' H' LH Ld)(f:LC W H W' H')(t:Bool)(a:Addr)(vs:yaq)(p:¬W.bad t a)(q:Na X.K H t a vs):¬W'.bad t a/\Na X.K H' t a vs:=by
 have no:∀i,W.O i≠some a:=fun i e=>p (.inr (.inl ⟨i,e⟩))
 refine⟨fun b=>?_,?_,fun z=>⟨f.keep a _ no (q.2 z).1,(q.2 z).2⟩⟩
 ·rcases b with b|⟨i,b⟩| ⟨e,b⟩
  ·rw[f.B]at b;exact p (.inl b)
  ·rcases f.new i a b with⟨j,z⟩| z
   ·exact no j z
   ·rcases q.1 with(q|⟨o,q⟩)|⟨o,K9,n,q,_⟩
    ·rw[z]at q;cases q
    ·rw[z]at q;cases q
    ·rw[(r'.kn i a b).1]at q;cases q
  ·rw[f.S]at b;exact p (.inr (.inr ⟨e,b⟩))
 ·rcases q.1 with(q|⟨o,q⟩)|q
  ·exact .inl (.inl (f.keep a _ no q))
  ·exact .inl (.inr ⟨o,f.keep a _ no q⟩)
  ·exact .inr q
def Den.fwd{X:Cx}(r:Rel X W H σ ρ)(r':Rel X W' H' LH Ld)(f:LC W H W' H')(h:Den X.K W.bad H d v):Den X.K W'.bad H' d v :=
 Den.map (Ie r f) (Ic r' f) (Ig r f) d v h
abbrev DG:=D->Ro->(Ro->Prop)->Prop
def Ua(X:Cx)(target:Expr)(g:DG):Prop :=
 ∀ (pins:yab) (s:Shared) (σ:St) (H:Hp) (W:Own) (ρ:Ro) (d:D) (v:V) (u:Value) (Q:Ro->Prop),Inv X pins σ H s->Rel X W H σ ρ->RelV v u->Den X.K W.bad H d v->g d ρ Q →
  wpAny (model X.prog X.w) X.A (assign target X.env u) (fun _ s'=>∃W' LH H' Ld,Inv X pins LH H' s'/\LC W H W' H'/\Rel X W' H' LH Ld/\Q Ld) X.xe s
abbrev RS:=yar->Ro->(Ro->Prop)->Prop
def sj(X:Cx)(ts:yai)(t:RS):Prop :=
 ∀ (pins:yab) (s:Shared) (σ:St) (H:Hp) (W:Own) (ρ:Ro) (ds:yar) (vs:yaq) (us:yad) (Q:Ro->Prop),Inv X pins σ H s->Rel X W H σ ρ->Vals vs us->ag X.K W.bad H ds vs->t ds ρ Q →
  wpAny (model X.prog X.w) X.A (assignInOrder ((assignEach ts X.env).map (·.2)) us) (fun _ s'=>∃W' LH H' Ld,Inv X pins LH H' s'/\LC W H W' H'/\Rel X W' H' LH Ld/\Q Ld) X.xe s
theorem ag.fwd{X:Cx}(r:Rel X W H σ ρ)(r':Rel X W' H' LH Ld)(f:LC W H W' H'):∀{ds:yar} {vs:yaq},ag X.K W.bad H ds vs->ag X.K W'.bad H' ds vs
 |[],_,h=>by simpa only[ag]using h
 |d::ds,_,h=>by simp only[ag]at h ⊢;obtain⟨v,q,e,h1,h2⟩:=h;exact⟨v,q,e,Den.fwd r r' f h1,ag.fwd r r' f h2⟩
def kW(i:Nat):DG:=fun d ρ Q=>Q (ρ.set i (some (.val d)))
def aP{x:Str}(i:Nat)(hN:X.N.Nodup)(hi:X.N[i]?=some x:=by rfl)(hx:Loc X.env.scope x:=by first|exact Or.inl rfl|exact Or.inr rfl)
  (hf:X.fn x=true∨X.env.scope.names.lookup x=some .local:=by first|exact .inl rfl|exact .inr rfl|assumption):Ua X (.Name x pos) (kW i):=by
 intro pins s σ H W ρ d v u Q I r rv hd h;exact wpAny_assign_Name (gf I hN hi hx rv (fun s' I'=>⟨W.drop i,_,H,_,I',LC.drop W H i,r.put (Inv.RQ I hi) hd,h⟩) hf)
def jg:RS:=fun ds ρ Q=>ds=[]/\Q ρ
def bM(g:DG)(u:RS):RS:=fun ds ρ Q=>∃d r,ds=d::r/\g d ρ fun Ld=>u r Ld Q
def jE:sj X [] jg:=by intro pins s σ H W ρ ds vs us Q I r rv hd h;obtain⟨e,h⟩:=h;subst e;simp only[ag]at hd;subst hd;cases rv;exact assignInOrder_nil ⟨W,σ,H,ρ,I,LC.refl W H,r,h⟩
def cH{e:Expr}{u:RS}(h1:Ua X e g)(h2:sj X es u)(hs:(assignEach (e::es) X.env).map (·.2)=assign e X.env::(assignEach es X.env).map (·.2):=by rfl):sj X (e::es) (bM g u):=by
 intro pins s σ H W ρ ds vs us Q I r rv hd h;obtain⟨d,dr,e1,h⟩:=h;subst e1;simp only[ag]at hd;obtain⟨v,vr,e2,Qs,hd2⟩:=hd;subst e2;cases rv with
 |cons ra rb =>
  rw[hs];refine assignInOrder_cons (Lj (h1 pins s σ H W ρ d v _ _ I r ra Qs h) fun _ s1 ⟨W1,WS,H1,ρ1,I1,f1,r1,q1⟩=>?_);exact Lj (h2 pins s1 WS H1 W1 ρ1 dr vr _ Q I1 r1 rb (ag.fwd r r1 f1 hd2) q1) fun _ s2 ⟨W2,VT,H2,ρ2,I2,f2,r2,q2⟩=>⟨W2,VT,H2,ρ2,I2,f1.trans f2,r2,q2⟩
def wo{h:Heap}(hl:h.IsList l items)(hs:Heap.SameBut it h h')(LV:l≠it):h'.IsList l items:=by obtain⟨o,ho,r⟩:=hl;exact⟨o,(hs.2 l LV).trans ho,r⟩
theorem t8{it l:Addr}(LV:l≠it):∀(n i:Nat) (s:Shared) (Q:yad->Shared->Prop),s.heap.IsListIter it l i->s.heap.IsList l items->i+n<=items.size →
  (∀h',h'.IsListIter it l (i+n)->Heap.SameBut it s.heap h'->Q ((items.toList.drop i).take n) {s with heap:=h'})->wpAny (model prog w) A (draw (.ref it) n) Q E s
 |0,i,s,Q,hit,_,_,hQ=>by show wpAny _ _ (pure []) Q E s;exact Le (by simpa using hQ s.heap hit (Heap.SameBut.refl ..))
 |n+1,i,s,Q,hit,hl,hle,hQ=>by
  have MR:i<items.size:=by lia
  show wpAny _ _ (pyNext (.ref it) >>= _) Q E s;refine K1 (wpAny_pyNext_list_item hit hl (x:=items[i]) (by simp[MR]) fun NO Qt PW=>?_);refine K1 (OR (t8 LV n (i+1) _ _ Qt (wo hl PW LV) (by lia) fun Qq UX WU=>Le ?_));have hd:items.toList.drop i=items[i]::items.toList.drop (i+1):=by simp[SH,MR]
  have:=hQ Qq (by rw[show i+(n+1)=i+1+n by lia];exact UX) (PW.trans WU);rw[hd,List.take_succ_cons]at this;exact this
def qA{A:Around}{s:Shared}{Q:yad->Shared->Prop}(hh:A.handled=none)(hl:s.heap.IsList l items)
  (hQ:∀h',Heap.ExtBut s.heap.objs.size s.heap h'->Q items.toList {s with heap:=h'}):wpAny (model prog w) A (unpackItems (.ref l) items.size none) Q E s:=by
 have MR:l≠s.heap.objs.size:=by obtain⟨o,ho,_⟩:=hl;exact Ms (LK ho)
 unfold unpackItems;refine K1 ?_
 ·unfold notIterableAtAll;refine K1 (VI hl.typeIs F.slot_list_iter.lookup ?_);refine Le ?_;simp only[NN,if_false];refine K1 (OR (wpAny_pyIter_list hl ?_));have hl0:(s.heap.push {cls:=.type "list_iterator", data:=.fields #[.ref l,rawInt 0]}).IsList l items:=by
   obtain⟨o,ho,r⟩:=hl;exact⟨o,Mb _ ho,r⟩
  refine K1 (OR (t8 MR items.size 0 _ _ ⟨_,Nw _ rfl,rfl,rfl⟩ hl0 (by lia) fun NO Qt PW=>?_));have M7:List.take items.size (List.drop 0 items.toList)=items.toList:=by rw[List.drop_zero];exact SK (by simp)
  rw[M7];rw[K3 (by simp)];have WV:NO.IsList l items:=wo hl0 PW MR;refine K1 (OR (wpAny_pyNext_list_end hh Qt WV (by simp) fun Qq WW=>?_));simp only[Option.isSome_none,NN,if_false];refine Le (hQ Qq fun b o hb e=>WW b o hb (PW.extBut b o hb (Mb _ e)))
def gB(n:Nat)(t:RS):DG:=fun d ρ Q=>∃ds,(d=.tup ds∨∃ t,d=.lst t ds)/\ds.length=n/\t ds ρ Q
def jN{t:RS}{n:Nat}(hc:X.calm=true)(h:sj X es t)(hn:(assignEach es X.env).length=n:=by rfl)(NU:(assignEach es X.env).findIdx? (·.1)=none:=by rfl):Ua X (.Tuple es k pos) (gB n t):=by
 intro pins s σ H W ρ d v u Q I r rv hd hw;obtain⟨ds,ed,hl,hw⟩:=hw;rcases ed with ed|⟨tg,ed⟩
 ·subst ed;obtain⟨a,vs,e1,hq,LQ⟩:=hd.NX;subst e1;cases rv;obtain⟨K9,WX,ht,hz⟩:=I.tuple hq.w;refine assign_Tuple_tuple (I.ok.hd hc) ht (by simp[hn,<- hl,<- WX.length,LQ.len]) NU fun h' hx=>?_
  have I1:Inv X pins σ H {s with heap:=h'}:=I.kept (t':=s.toks) fun b o e=>hx b o (Ms (LK e)) e
  exact h pins _ σ H W ρ ds vs _ Q I1 r (by simpa using WX) LQ hw
 ·subst ed;obtain⟨a,vs,e1,_,hq,LQ⟩:=hd.Nm;subst e1;cases rv;obtain⟨K9,WX,ht,hz⟩:=I.list hq;rw[assign_Tuple];refine K1 (VN ?_);unfold unpack;rw[NU,show(assignEach es X.env).length=K9.toArray.size by simp[hn,<- hl,<- WX.length,LQ.len]];refine K1 (OR (qA (I.ok.hd hc) ht.isList fun h' hx=>?_));have I1:Inv X pins σ H {s with heap:=h'}:=I.kept (t':=s.toks) fun b o e=>hx b o (Ms (LK e)) e
  exact h pins _ σ H W ρ ds vs _ Q I1 r (by simpa using WX) LQ hw
def Kk(te:DE)(g:DG):DS:=fun E ρ=>te ρ fun d=>g d ρ E.nx
def YD(K:yac)(W:Own)(H:Hp)(J:It)(ds:yar):Prop:=∀(P':yak) (H':Hp),(∀a vs,LO K H a vs->LO K H' a vs)->(∀t a vs,¬W.bad t a->Na K H t a vs->¬P' t a/\Na K H' t a vs)->(∀a o,RM o->H a=some o->H' a=some o)->∀i,(i<ds.length->J.go i H')/\(∀x H3,J.yld i H' x H3->i<ds.length->ar H' H3/\∃d,ds[i]?=some d/\Den K P' H3 d x)/\(ds.length<=i->J.stop i H')
def PY(X:Cx)(tg iter:Expr)(wi:DA):Prop :=
 ∀ (pins:yab) (s:Shared) (σ:St) (H:Hp) (W:Own) (ρ:Ro) (R:yar->Prop),Inv X pins σ H s->Rel X W H σ ρ->wi ρ R →
  wpAny (model X.prog X.w) X.A (eval iter X.env) (fun v s1=>wpAny (model X.prog X.w) X.A (pyIter v) (fun QN s2=>∃(it:Addr) (fp:yae) (tn:Nat->Heap->Prop) (J:It) (H':Hp) (ds:yar),QN=.ref it/\Inv X pins σ H' s2/\ar H H' ∧
   Turn X.prog X.w X.K tg J fp it tn/\tn 0 s2.heap/\(∀b∈fp,fu X pins H' b)/\YD X.K W H' J ds/\R ds) X.xe s1) X.xe s
def PY.of{wd:DA}(h:PI X tg iter wi)(k:∀σ H W ρ R,Rel X W H σ ρ->wd ρ R->wi σ H fun J H'=>ar H H'/\∃ds,YD X.K W H' J ds/\R ds):PY X tg iter wd:=by
 intro pins s σ H W ρ R I r hw;refine Lj (h pins s σ H _ I (k σ H W ρ R r hw)) fun v s1 h1=>Lj h1 fun QN s2 h2=>?_
 obtain⟨it,fp,tn,J,H',e,I2,T,st,f2,e2,ds,y,q⟩:=h2;exact⟨it,fp,tn,J,H',ds,e,I2,e2,T,st,f2,y,q⟩
def EG(ti:DE):DA:=fun ρ R=>ti ρ fun d=>∃t ds,d=.lst t ds/\R ds
def aZ(h:Lx X iter ti):PY X tg iter (EG ti):=by
 refine PY.of (Gk h.pe) fun σ H W ρ R r hw=>⟨W,ρ,_,r,hw,fun v H1 d e1 hd q=>?_⟩
 obtain⟨tg',ds,rfl,q⟩:=q;obtain⟨a,vs,rfl,na,hq,LQ⟩:=hd.RN;refine⟨a,rfl,⟨vs,hq.1⟩,e1,ds,?_,q⟩;intro P' H' hT hL hX i;have Td:SqL X.K H' a vs:=(hL _ a vs na hq).2.1;have hl:=LQ.len;refine⟨fun hi=>?_,fun x H3 y hi=>?_,fun hi=>⟨vs,Td,by lia⟩⟩
 ·obtain⟨v,hv,_⟩:=LQ.get (i:=i) (d:=ds[i]) (by simp[hi]);exact⟨vs,v,Td,hv⟩
 ·obtain⟨e3,y⟩:=y;subst e3;obtain⟨d,h1,h2⟩:=LQ.bC (y vs Td);exact⟨ar.refl _,d,h1,Den.map hT hL hX d _ h2⟩
def iY(lo step:Int)(n:Nat):yar:=(List.range n).map fun(i:Nat)=>D.int (lo+i*step)
def Ef(lo step:Int)(n:Nat):(iY lo step n).length=n:=by simp[iY]
def Ee{lo step:Int}{n i:Nat}(h:i<n):(iY lo step n)[i]?=some (D.int (lo+i*step)):=by simp[iY,h]
def G7(lo c:Int)(n:Nat):It:=⟨fun i _=>i<n,fun i H x H'=>H'=H/\x=.int (lo+i*c),fun i _=>n<=i⟩
def Ew(K:yac)(W:Own)(H:Hp)(lo c:Int)(n:Nat):YD K W H (G7 lo c n) (iY lo c n):=fun P' H' _ _ _ i=>by rw[Ef];refine⟨fun h=>h,fun x H3 y hi=>?_,fun h=>h⟩;obtain⟨e,ex⟩:=y;subst e ex;exact⟨ar.refl _,_,Ee hi,Den.int _⟩
def xX{P:Program}{w:World}{K:yac}{tg:Expr}(it:Addr)(lo c:Int)(n:Nat):Turn P w K tg (G7 lo c n) [it] it (fun i h=>IsRangeIter h it (lo+(i:Nat)*c) ((n:Int) - (i:Nat)) c) where
 mem:=by simp
 obj:=fun i h st b hb=>by
  have e:b=it:=by simpa using hb
  subst e;exact⟨_,st,fun v z=>by have z':Data.fields _=Data.cell v:=z;cases z'⟩
 keep:=fun i h h' st k=>k it (by simp) _ st
 item:=by
  intro X hP hw hK hc i pins s σ H E I hf st hg;subst hP hw hK;obtain⟨f0,f1,f2,f3,f4,f5⟩:=hf it (by simp);have W:=Walks.range (prog:=X.prog) (w:=X.w) (I.ok.hd hc) it lo c n;refine W.item i s _ _ hg st fun v h' tk hv Om kk=>?_
  obtain⟨t,rfl⟩:=hv;have I1:Inv X pins σ H {s with heap:=h',toks:=tk}:=I.turned (fun b o hb e=>kk b o (by simpa using hb) e) f0 f1 f3 f4 f5;exact⟨_,rfl,zV (s:={s with heap:=h',toks:=tk}) (n := "range_iterator") Om rfl rfl (by decide) ⟨.int (lo+i*c),H,I1,⟨t,rfl⟩,⟨rfl,rfl⟩,Om,fun b hb=>(hf b hb).1⟩⟩
 done:=by intro X hP hw hK hc i pins s σ H E I hf st hg;subst hP hw hK;obtain⟨f0,f1,f2,f3,f4,f5⟩:=hf it (by simp);exact wpAny_pyNext_range_end (I.ok.hd hc) st (by have:n<=i:=hg;lia) fun h' eb=>⟨rfl,I.turned (t':=s.toks) (fun b o hb e=>eb b o hb e) f0 f1 f3 f4 f5⟩
 self:=fun _ _ _ _ _ st h=>wpAny_pyIter_rangeiter st h
def jR(lo hi c:Int):Nat:=(Builtin.Range.rangeSize lo hi c).toNat
def Ci{a b c:Int}(ha:-(2 ^ 40)<=a)(Tf:a<2 ^ 40)(hb:-(2 ^ 40)<=b)(Tg:b<2 ^ 40)(hc:0<c)(PU:c<2 ^ 20):Builtin.Range.small a b c=true/\0<=Builtin.Range.rangeSize a b c:=by
 have hd:a<b->0<=(b - a - 1) / c/\(b - a - 1) / c<=b - a - 1:=fun h=>⟨Int.ediv_nonneg (by lia) (by lia),Int.ediv_le_self _ (by lia)⟩
 have hm:a<b->(b - a - 1) / c*c<=b - a - 1:=fun h=>Int.ediv_mul_le _ (by lia)
 unfold Builtin.Range.small Builtin.Range.rangeSize;rw[K4 (show c > 0 from hc)];by_cases h:a<b
 ·obtain⟨h1,h2⟩:=hd h;have h3:=hm h;rw[K4 h];generalize (b - a - 1) / c=q at h1 h2 h3 ⊢;have h4:0<=q*c:=M8 h1 (by lia);simp only[Builtin.Range.rangeFitsLong,TU,Bool.or_eq_true,decide_eq_true_eq,beq_iff_eq];have e:(q+1 - 1)*c=q*c:=by rw[Int.add_sub_cancel]
  have e':(q+1)*c=q*c+c:=by rw[Int.add_mul,O8]
  constructor
  ·rw[K4 (show c > 0 from hc)];simp only[TU,decide_eq_true_eq]
   lia
  ·lia
 ·rw[K3 h];simp only[Builtin.Range.rangeFitsLong,TU,Bool.or_eq_true,decide_eq_true_eq,beq_iff_eq];constructor
  ·simp;lia
  ·exact Oe _
def ur {R : yar -> Prop} {lo hi c : Int} {t u : Tok} {tk : Nat} (I : Inv X pins σ H s) (h1 : -(2 ^ 40) <= lo) (h2 : lo < 2 ^ 40) (h3 : -(2 ^ 40) <= hi) (h4 : hi < 2 ^ 40) (h5 : 0 < c) (h6 : c < 2 ^ 20)
  (q : R (iY lo c (jR lo hi c))) : wpAny (model X.prog X.w) X.A (pyIter (.ref s.heap.objs.size)) (fun QN s2 => ∃ (it : Addr) (fp : yae) (tn : Nat -> Heap -> Prop) (J : It) (H' : Hp) (ds : yar), QN = .ref it /\ Inv X pins σ H' s2 /\ ar H H' ∧
   Turn X.prog X.w X.K tg J fp it tn /\ tn 0 s2.heap /\ (∀ b ∈ fp, fu X pins H' b) /\ YD X.K W H' J ds /\ R ds) E { s with heap := s.heap.push { cls := .type "range", data := .fields #[.int lo t, .int hi u, .int c v] }, toks := tk } := by
 obtain ⟨sm, nn⟩ := Ci h1 h2 h3 h4 h5 h6;refine wpAny_pyIter_range (IsRange.new ..) sm ?_;have I1 : Inv X pins σ H { s with heap := s.heap.push { cls := .type "range", data := .fields #[.int lo t, .int hi u, .int c v] }, toks := tk } := I.kept fun b o e => Mb _ e
 refine ⟨(s.heap.push { cls := .type "range", data := .fields #[.int lo t, .int hi u, .int c v] }).objs.size, [(s.heap.push { cls := .type "range", data := .fields #[.int lo t, .int hi u, .int c v] }).objs.size], _, _, H, _, rfl,
  I1.kept (t' := tk) fun b o e => Mb _ e, ar.refl H, xX _ lo c (jR lo hi c), ?_, fun b hb => ?_, Ew _ _ _ _ _ _, q⟩
 ·have e1 : lo + ((0 : Nat) : Int) * c = lo := by simp
  have e2 : ((jR lo hi c : Nat) : Int) - ((0 : Nat) : Int) = Builtin.Range.rangeSize lo hi c := by unfold jR; lia
  show IsRangeIter _ _ (lo + ((0 : Nat) : Int) * c) (((jR lo hi c : Nat) : Int) - ((0 : Nat) : Int)) c;rw [e1, e2];exact Nw _ rfl
 ·have e : b = (s.heap.push { cls := .type "range", data := .fields #[.int lo t, .int hi u, .int c v] }).objs.size := by simpa using hb
  subst e;exact I1.RL (LG _) (I1.Lu.fresh (LG _))
def Zv(i:Int):Prop:=-(2 ^ 40)<=i/\i<2 ^ 40
def zO(ta:DA):DA:=fun ρ R=>ta ρ fun ds=>∃i j:Int,ds=[.int i,.int j]/\Zv i/\Zv j/\R (iY i 1 (jR i j 1))
def EL(ta:DA):DA:=fun ρ R=>ta ρ fun ds=>∃j:Int,ds=[.int j]/\Zv j/\R (iY 0 1 (jR 0 j 1))
def j7 {a b:Expr} {p pos:Pos} (hg:Gl X "range") (hm:X.mg "range" = none) (ha:PN X [a,b] ta) (hs:starEach [a,b] X.env=(false,eval a X.env)::starEach [b] X.env:=by rfl) (RT:(backTo pos (starEach [b] X.env)).any (·.1)=false:=by rfl) :
  PY X tg (.Call (.Name "range" p) [a,b] [] pos) (zO ta):=by
 intro pins s σ H W ρ R I r h;refine Call_ (df I hg hm boot_range (PyProof.Rows.callWith_type1 (Lj (ha pos pins s σ H W ρ _ I r h) fun us s1 ⟨vs,H1,ds,I1,r1,e1,hd,q1⟩=>?_) hs RT));obtain⟨i,j,e,⟨a1,a2⟩,⟨b1,b2⟩,q⟩:=q1;subst e;obtain⟨v1,u1,rfl,d1,d2⟩:=qQ hd;have z1:=d1.L9;have z2:=d2.L9;subst z1 z2;cases r1 with
 |cons ra rr =>
  cases rr with
  |cons rb rr =>
   cases rr;obtain⟨t,rfl⟩:=ra;obtain⟨t',rfl⟩:=rb;refine call_range_2 ?_;exact Lj (ur (W:=W) (R:=R) I1 a1 a2 b1 b2 (by decide) (by decide) q) fun QN s2 ⟨it,fp,tn,J,H',ds,x1,x2,x3,x4,x5,x6,x7,x8⟩=>⟨it,fp,tn,J,H',ds,x1,x2,e1.trans x3,x4,x5,x6,x7,x8⟩
def cn {a:Expr} {p pos:Pos} (hg:Gl X "range") (hm:X.mg "range" = none) (ha:PN X [a] ta) (hs:starEach [a] X.env=(false,eval a X.env)::starEach [] X.env:=by rfl) (RT:(backTo pos (starEach [] X.env)).any (·.1)=false:=by rfl) :
  PY X tg (.Call (.Name "range" p) [a] [] pos) (EL ta):=by
 intro pins s σ H W ρ R I r h;refine Call_ (df I hg hm boot_range (PyProof.Rows.callWith_type1 (Lj (ha pos pins s σ H W ρ _ I r h) fun us s1 ⟨vs,H1,ds,I1,r1,e1,hd,q1⟩=>?_) hs RT));obtain⟨j,e,⟨b1,b2⟩,q⟩:=q1;subst e;obtain⟨v1,rfl,d1⟩:=oE hd;have z1:=d1.L9;subst z1;cases r1 with
 |cons ra rr =>
  cases rr;obtain⟨t,rfl⟩:=ra;refine call_range_1 ?_;exact Lj (ur (W:=W) (R:=R) I1 (by decide) (by decide) b1 b2 (by decide) (by decide) q) fun QN s2 ⟨it,fp,tn,J,H',ds,x1,x2,x3,x4,x5,x6,x7,x8⟩=>⟨it,fp,tn,J,H',ds,x1,x2,e1.trans x3,x4,x5,x6,x7,x8⟩
def vG(wi:DA)(g:DG)(tb:DS):DS:=fun E ρ=>wi ρ fun ds=>∃Pv:Nat->Ro->Prop,Pv 0 ρ ∧
 (∀j x Ld,ds[j]?=some x->Pv j Ld->g x Ld fun ρ2=>tb {E with nx:=Pv (j+1),ct:=Pv (j+1),bk:=E.nx} ρ2)/\∀Ld,Pv ds.length Ld->E.nx Ld
def bu(hp:PassesOwn (model X.prog X.w) X.A X.env X.xe)(hc:X.calm=true)(hi:PY X tg iter wi)(hg:Ua X tg g)(hb:cG X body tb)
  (hs:∀x,foldedSetIterable iter X.env x=pure x:=by intro _;rfl):NA X (.For tg iter body [] pos) (vG wi g tb):=by
 intro pins s σ H W ρ E I r h;refine wpAny_For (Lj (hi pins s σ H W ρ _ I r h) fun v s1 h1=>Lj h1 fun QN s2 h2=>?_) hs;obtain⟨it,fp,tn,J,H2,ds,e,I2,e2,T,P4,f2,yd,Pv,p0,turn,pd⟩:=h2;subst e;have r2:=r.same e2;have UY:∀{H':Hp},(∀b∈fp,H' b=none)->∀b∈fp,fu X pins H' b:=fun hn b hb=>⟨hn b hb,(f2 b hb).2⟩
 refine codeAny_forLoop_any (fun n s'=>∃i W' LH H' Ld,n=ds.length - i/\i<=ds.length/\Inv X pins LH H' s'/\tn i s'.heap/\(∀b∈fp,H' b=none)/\LC W H2 W' H'/\Rel X W' H' LH Ld/\Pv i Ld) ?_ ds.length ⟨0,W,σ,H2,ρ,by simp,MK _,I2,P4,fun b hb=>(f2 b hb).1,LC.refl W H2,r2,p0⟩;rintro n s3 ⟨i,W3,Rv,H3,Qr,en,hle,I3,WY,WZ,Sv,r3,p3⟩;obtain⟨yg,yy,ys⟩:=yd W3.bad H3 (Ie r2 Sv) (Ic r3 Sv) (Ig r2 Sv) i;by_cases MR:i<ds.length
 ·refine UG hp (Lj (T.item X rfl rfl rfl hc i pins s3 Rv H3 X.xe I3 (UY WZ) WY (yg MR)) fun rr s4 ⟨u,hr,h4⟩=>?_);subst hr;refine UG hp (Lj h4 fun _ s5 ⟨x,H5,I5,r5,y5,UZ,Zw⟩=>?_);obtain⟨e5,d,hd,Nn⟩:=yy x H5 y5 MR;have Zx:=I5.pinned (UY Zw) (T.obj _ _ UZ);have Ub:=r3.same e5;refine UG hp (Lj (hg _ s5 Rv H5 W3 Qr d x u _ Zx Ub r5 Nn (turn i d Qr hd p3)) fun _ s6 ⟨W6,W4,H6,W5,I6,f6,r6,q6⟩=>?_);refine UG hp (Lj (hb _ s6 W4 H6 W6 W5 _ I6 r6 q6) fun f s7 q7=>?_);obtain⟨W7,U0,H7,I7,f7,q7⟩:=q7;have fw7:LC W H2 W7 H7:=Sv.trans ((LC.same e5).trans (f6.trans f7));have W9:LC W H W7 H7:=(LC.same e2).trans fw7;have again:∀{Uc:Ro},Rel X W7 H7 U0 Uc->Pv (i+1) Uc->∃m,m<n/\∃i W' LH H' Ld,m=ds.length - i/\i<=ds.length/\Inv X pins LH H' s7/\tn i s7.heap/\(∀b∈fp,H' b=none)/\LC W H2 W' H'/\Rel X W' H' LH Ld/\Pv i Ld:=fun {Uc} r7 p7=>by
   refine⟨ds.length - (i+1),by lia,i+1,W7,U0,H7,Uc,rfl,MR,I7.Nb,T.keep _ _ _ UZ fun b hb o e=>(I7.pin (b,o) (Oi _ (Oi _ (ji hb e)))).1,fun b hb=>?_,fw7,r7,p7⟩;obtain⟨o,e,d⟩:=T.obj _ _ UZ b hb;exact(I7.pin (b,o) (Oi _ (Oi _ (ji hb e)))).2.1
  cases f with
  |next=>obtain⟨Uc,r7,n7⟩:=q7;exact again r7 n7
  |cont=>obtain⟨Uc,r7,n7⟩:=q7;exact again r7 n7
  |brk=>obtain⟨Uc,r7,q7⟩:=q7;exact⟨W7,U0,H7,I7.Nb,W9,Uc,r7,q7⟩
  |ret v=>obtain⟨x7,d7,r7,h7,q7⟩:=q7;exact⟨W7,U0,H7,I7.Nb,W9,x7,d7,r7,h7,q7⟩
 ·have e:i=ds.length:=by lia
  refine UG hp (Lj (T.done X rfl rfl rfl hc i pins s3 Rv H3 X.xe I3 (UY WZ) WY (ys (by lia))) fun rr s4 ⟨hr,I4⟩=>?_);subst hr;subst e;exact wpAny_execs_nil ⟨W3,Rv,H3,I4,(LC.same e2).trans Sv,Qr,r3,pd Qr p3⟩
def Hs(i j:Nat)(ta:DA):DS:=fun E ρ=>ta ρ fun ds=>∃d e,ds=[d,e]/\E.nx ((ρ.set i (some (.val d))).set j (some (.val e)))
def HL{x y:Str}{a b:Expr}{kt k2 UO}(i j:Nat)(hc:X.calm=true)(hN:X.N.Nodup)(MQ:i≠j)(ha:PN X [a,b] ta)(hi:X.N[i]?=some x:=by rfl)(hj:X.N[j]?=some y:=by rfl)
  (hx:X.env.scope.names.lookup x=some .local:=by rfl) (hy:X.env.scope.names.lookup y=some .local:=by rfl)
  (hw:swappedStores [.Tuple [.Name x px,.Name y py] kt pt] (.Tuple [a,b] k2 UO) X.env=pure (some [x,y]):=by rfl)
  (hs:swapsWithSole [.Tuple [.Name x px,.Name y py] kt pt] (.Tuple [a,b] k2 UO) pos.line X.env=pure false:=by rfl) :
  NA X (.Assign [.Tuple [.Name x px,.Name y py] kt pt] (.Tuple [a,b] k2 UO) pos) (Hs i j ta):=by
 have Zu:PA X [a,b] (fun σ H Q=>∃W ρ Qd,Rel X W H σ ρ/\ta ρ Qd/\∀vs H' ds,ar H H'->ag X.K W.bad H' ds vs->Qd ds->Q vs H'):=by intro pos pins s σ H Q I q;obtain⟨W,ρ,Qd,r,ht,k⟩:=q;exact Lj (ha pos pins s σ H W ρ Qd I r ht) fun us s1 ⟨vs,H',ds,I1,rv,e1,hd,qd⟩=>⟨vs,H',I1,rv,k vs H' ds e1 hd qd⟩
 refine NA.of (Jc hc hN hi hj MQ hx hy Zu hw hs) fun σ H W ρ E r hl h=>?_
 refine⟨W,ρ,_,r,h,fun vs H' ds e1 hd q=>?_⟩;obtain⟨d,e,rfl,q⟩:=q;obtain⟨v,u,rfl,h1,h2⟩:=qQ hd;have RQ:i<σ.length:=by rw[hl];exact(L6.mp hi).1
 have jlt:j<(σ.set i (some v)).length:=by rw[SO,hl];exact(L6.mp hj).1
 have r1:=(r.same e1).put RQ h1;exact⟨v,u,rfl,_,_,(LC.same e1).trans ((LC.drop W H' i).trans (LC.drop _ H' j)),r1.put jlt (h2.Lo fun _ _=>Own.L0),q⟩
end
def di(N:yah)(ds:yar):Ro:=ds.map (fun d=>some (.val d))++List.replicate (N.length - ds.length) none
theorem Rel.start{X:Cx}{P:Addr->Prop}{H:Hp}(hP:∀a,P a->∃o,H a=some o)(h:ag X.K (fun t a=>t=true∨P a) H ds vs)(hH:X.LX=H)(hT:ku X.K H):Rel X ⟨P,fun _=>none,fun a=>∃o,H a=some o⟩ H (start N vs) (di N ds) where
 val:=fun i d e=>by
  unfold di at e;have hl:=h.len;by_cases hi:i<ds.length
  ·rw[Qh (by simpa using hi),LZ]at e;cases q:ds[i]? with
   |none=>rw[q]at e;cases e
   |some d' =>
    rw[q]at e;have e':d'=d:=by simpa using e
    subst e';obtain⟨v,h1,h2⟩:=h.get q;refine⟨v,?_,h2.Lo fun tg a z=>?_⟩
    ·unfold L2.start;rw[Qh (by simpa [hl]using hi),LZ,h1];rfl
    ·rcases z with z|⟨j,z⟩| ⟨z,_⟩
     ·exact .inr z
     ·cases z
     ·exact .inl z
  ·rw[QG (by simpa using hi),Wg]at e;split at e<;>cases e
 own:=fun i d e=>by
  unfold di at e;by_cases hi:i<ds.length
  ·rw[Qh (by simpa using hi),LZ]at e;cases q:ds[i]? with
   |none=>rw[q]at e;cases e
   |some d'=>rw[q]at e;cases e
  ·rw[QG (by simpa using hi),Wg]at e;split at e<;>cases e
 inj:=fun i j a h _=>by cases h
 kn:=fun i a h=>by cases h
 ke:=fun i a h=>by cases h
 bt:=hP
 st:=fun _ z=>z
 ent:=by rw[hH];exact ar.refl H
 tab:=hT
def bH.there(x:bH P w H h a o):∃u,h.get? a=some u:=by
 cases o with
 |lst xs=>obtain⟨_,_,_,_,e⟩:=x;exact⟨_,e⟩
 |tup xs=>obtain⟨_,_,_,ob,e,_⟩:=x;exact⟨ob,e⟩
 |dK kvs=>obtain⟨_,_,_,_,ob,_,_,e,_⟩:=x;exact⟨ob,e⟩
 |dT kvs=>obtain⟨_,_,_,_,ob,_,_,e,_⟩:=x;exact⟨ob,e⟩
 |set S n=>obtain⟨ob,_,_,_,e,_⟩:=x;exact⟨ob,e⟩
 |ins C dx fs=>obtain⟨_,_,_,e,_⟩:=x;exact⟨_,e⟩
 |own y=>exact x
 |xd fs=>obtain⟨_,⟨ob,_,_,e,_⟩,_⟩:=x;exact⟨ob,e⟩
 |Yq lo hi=>obtain⟨_,_,_,e⟩:=x;exact⟨_,e⟩
 |frz ob u=>obtain⟨e,_⟩:=x;exact⟨ob,e⟩
 |PJ ps=>exact⟨_,x⟩
 |met f y=>exact⟨_,x⟩
 |ext φ=>obtain⟨_,e,_⟩:=x;exact e
def M9.Xa {h' : Heap} (x : M9 P w H h) (k : ∀ b u, (∃ o, H b = some o) -> h.get? b = some u -> h'.get? b = some u) : M9 P w H h' := fun a o e =>
 (x a o e).Oz (fun b u hb q => k b u (by
  rcases hb with z | z
  ·subst z; exact ⟨o, e⟩
  ·exact ⟨_, z⟩) q) (fun _ q => q) fun _ _ q => q
structure Fl(P:Program)(w:World)(l:List Env)(h₀:Heap)(LX H:Hp)(B h:Heap):Prop where
 un:Un (OU l) [] LX H h₀ h
 Lu:M9 P w H h
 fr:∀b∈OU l,LX b=none/\∃o,h₀.get? b=some o/\∀vs,o.data ≠ .fields vs
 VU:∀b o,h.get? b=some o->((∃u,H b=some u)∨∃ o',h₀.get? b=some o')->b∉OU l->B.get? b=some o
section
variable{P:Program}{w:World}{l:List Env}{h₀:Heap}{LX H:Hp}{B h h':Heap}
theorem Fl.free(F:Fl P w l h₀ LX H B h){b:Addr}(hb:b∈OU l):H b=none:=by obtain⟨n,o,e,_⟩:=F.fr b hb;exact F.un.free b o e n (by simp)
def Fl.step(F:Fl P w l h₀ LX H B h)(st:B.StaysIn h')(sl:h.UpToSlots h'):Fl P w l h₀ LX H B h':=by
 have fr1:∀b o,b∈OU l->h₀.get? b=some o->∃s',h'.get? b=some {o with slots:=s'}:=fun b o hb e=>by obtain⟨n,o',e',hd⟩:=F.fr b hb;rw[e]at e';cases e';obtain⟨s1,e1⟩:=F.un.slot b o e n hb (by simp);obtain⟨s2,e2⟩:=sl b _ e1 hd;exact⟨s2,e2⟩
 have kp:∀b o,h.get? b=some o->((∃u,H b=some u)∨∃ o',h₀.get? b=some o')->b∉OU l->h'.get? b=some o:=fun b o e c n=>st b o (F.VU b o e c n)
 refine⟨⟨fun b o e n hb hx=>kp b o (F.un.keep b o e n hb hx) (.inr ⟨o,e⟩) hb,fun b o e n hb hx=>fr1 b o hb e,F.un.free,fun b o e hx=>?_,F.un.Pk,F.un.O0,F.un.Pm⟩,PD.M9.Xa F.Lu (fun b u hu e=>kp b u e (.inl hu) fun z=>?_),F.fr,fun b o e c n=>?_⟩
 ·by_cases hb:b∈OU l
  ·obtain⟨s2,e2⟩:=fr1 b o hb e;exact⟨_,e2⟩
  ·obtain⟨o',e1⟩:=F.un.there b o e hx;exact⟨o',kp b o' e1 (.inr ⟨o,e⟩) hb⟩
 ·obtain⟨o,q⟩:=hu;rw[F.free z]at q;cases q
 ·have:∃o1,h.get? b=some o1:=by
   rcases c with⟨u,c⟩| ⟨o',c⟩
   ·exact PD.bH.there (F.Lu b u c)
   ·exact F.un.there b o' c (by simp)
  obtain⟨o1,e1⟩:=this;have q:=kp b o1 e1 c n;rw[e]at q;cases q;exact F.VU b o e1 c n
end
def CX1(P:Program)(w:World):CXT:=fun outer H s E e s'=>∃(ea c:Addr) (H':Hp) (B:Heap) (a0:Value),e=.ref ea/\s'.os=s.os/\AllBare s'.gens/\Fl P w outer s.heap H H' B s'.heap/\ar H H'/\H' ea=none/\s.heap.get? ea=none ∧
 Heap.FlyingW B outer ea (.ref c) a0 s'.heap/\E (.ref c) none H'
def JY:Passes (CX1 P w) X E0:=fun _ _ _ _ _ _ _ h=>by obtain⟨_,_,_,_,_,_,_,_,_,_,_,_,_,z⟩:=h;exact z.elim
def MadeX(X:Cx)(Ed:Value->Prop):Prop:=∀(pins:yab) (σ:St) (H:Hp) (W:Own) (ρ:Ro) (s:Shared) (e c:Addr) (vs:yad) (h':Heap),Inv X pins σ H s->Rel X W H σ ρ->Heap.MadeExcOf s.heap h' e (.ref c) vs->Ed (.ref c)->X.xe (.ref e) {s with heap:=h'}
def cY(X:Cx)(Ed:Value->Prop):Prop:=∀(pins:yab) (σ:St) (H:Hp) (W:Own) (ρ:Ro) (s:Shared) (e:Value) (s':Shared),Inv X pins σ H s->Rel X W H σ ρ->CX1 X.prog X.w X.stack H s (fun c _ _=>Ed c) e s'->X.xe e s'
section
variable{P:Program}{w:World}{K:yac}{mg:yal}{base:Heap}{N:yah}{qual:Str}{sc:Scope}{f:Addr}{cd:Value}{A:Around}{outer:List Env}{Lq:Shared}{LX:Hp}{E:XK}
def vt{B:Heap}(I:Inv (dS (CX1 P w) P w K mg base N qual sc f cd A outer Lq LX E) pins σ H s)(hS:ar LX H)(hn:H e=none)(Xb:Lq.heap.get? e=none)
  (VU:∀b o,s.heap.get? b=some o->((∃u,H b=some u)∨∃ o',Lq.heap.get? b=some o')->b∉OU (envOfC qual sc Lq.heap.objs.size f cd::outer)->B.get? b=some o)
  (fl:Heap.FlyingW B outer e (.ref c) a0 h') (sl:s.heap.UpToSlots h') (hE:E (.ref c) none H):CX1 P w outer LX Lq E (.ref e) {s with heap:=h'}:=by
 have nf:∀b,((∃u,H b=some u)∨∃ o',Lq.heap.get? b=some o')->b∉OU outer->b∉OU (envOfC qual sc Lq.heap.objs.size f cd::outer):=fun b c n z=>by
  rcases c with⟨u,c⟩| ⟨o',c⟩
  ·have:=I.Pn b z;rw[c]at this;cases this
  ·rcases Lp.mp (I.OA b z)with q|q
   ·have h1:=LK c;have h2:Lq.heap.objs.size<=b:=by rw[q];exact I.ok.above
    exact absurd (M5 h1 h2) (Ql _)
   ·exact n q
 have F:Fl P w outer Lq.heap LX H B s.heap:=⟨I.base,I.Lu,fun b hb=>⟨I.ok.UL b hb,by obtain⟨_,o,e,d⟩:=I.ok.Of.mem hb;exact⟨o,e,d⟩⟩,fun b o e c n=>VU b o e c (nf b c n)⟩
 exact⟨e,c,H,B,a0,rfl,I.os,I.bare,F.step fl.1 sl,hS,hn,Xb,fl,hE⟩
def JR{Ed:Value->Prop}(hE:∀c a H',ar LX H'->Ed c->E c a H'):MadeX (dS (CX1 P w) P w K mg base N qual sc f cd A outer Lq LX E) Ed:=by
 intro pins σ H W ρ s e c vs h' I r hx hd;show wpAny (model P w) (A.deeper (envOfC qual sc Lq.heap.objs.size f cd)) (leaving (envOfC qual sc Lq.heap.objs.size f cd) (.ref e)) _ _ _;refine wpAny_leaves_madeW (base:=PySem.W.hideAll s.heap (OU (envOfC qual sc Lq.heap.objs.size f cd::outer))) (h:=s.heap) (outer:=outer) I.ok.frames rfl (fun b o q=>PySem.W.of_hideAll _ q)
  (PySem.W.funFrames_hide I.stack fun env he b hb=>Wm.mpr ⟨env,he,hb⟩) hx fun Qu t x1 _ _ x4=>?_
 have ne:∀{h1:Heap},(∀b o,h1.get? b=some o->∃o',s.heap.get? b=some o')->h1.get? e=none:=fun {h1} k=>by
  cases q:h1.get? e with
  |none=>rfl
  |some o =>
   obtain⟨o',q'⟩:=k e o q;rw[hx.new]at q';cases q'
 refine vt (s:=s) (h':=Qu) I r.ent ?_ (ne fun b o q=>I.base.there b o q (by intro z;cases z)) (fun b o q _ n=>PySem.W.hideAll_get _ q n) x1 (fun b o q d=>?_) (hE _ _ _ r.ent hd)
 ·cases q:H e with
  |none=>rfl
  |some u =>
   obtain⟨o,z⟩:=PD.bH.there (I.Lu e u q);rw[hx.new]at z;cases z
 ·exact x4 b o (hx.keeps b o q) d
def Gh{Ed:Value->Prop}(hE:∀c a H',ar LX H'->Ed c->E c a H'):cY (dS (CX1 P w) P w K mg base N qual sc f cd A outer Lq LX E) Ed:=by
 intro pins σ H W ρ s e s' I r hx;obtain⟨ea,c,H',B,a0,rfl,os,bare,F,sm,hn,Xb,fl,hd⟩:=hx;show wpAny (model P w) (A.deeper (envOfC qual sc Lq.heap.objs.size f cd)) (leaving (envOfC qual sc Lq.heap.objs.size f cd) (.ref ea)) _ _ _;refine wpAny_leaves_onW (outer:=outer) I.ok.frames rfl fl fun Qu x1 x2=>?_
 have I':=I.RK os F.un F.Lu bare (by intro b z;cases z);refine vt (s:=s') (h':=Qu) I' (r.ent.trans sm) hn ?_ (fun b o q z n=>F.VU b o q (z.elim .inl fun⟨o',z⟩=>.inr (I.base.there b o' z (by intro q;cases q))) n) x1 x2 (hE _ _ _ (r.ent.trans sm) hd);cases q:Lq.heap.get? ea with
 |none=>rfl
 |some o =>
  obtain⟨o',q'⟩:=I.base.there ea o q (by intro z;cases z);rw[Xb]at q';cases q'
end
section
variable{X:Cx}{pos:Pos}
def pX{st:Stmt}:NA X st (fun _ _=>False):=fun _ _ _ _ _ _ _ _ _ h=>h.elim
theorem Rel.wish(r:Rel X W H σ ρ)(E:yaa):Rel (X.wish E) W H σ ρ:=⟨r.val,r.own,r.inj,r.kn,r.ke,r.bt,r.st,r.ent,r.tab⟩
def Rel.MS(r:Rel (X.wish E) W H σ ρ):Rel X W H σ ρ:=⟨r.val,r.own,r.inj,r.kn,r.ke,r.bt,r.st,r.ent,r.tab⟩
theorem QR.MS(h:QR (X.wish XE) pins W H E f s'):QR X pins W H E f s':=by
 obtain⟨W',LH,H',I,fw,q⟩:=h;refine⟨W',LH,H',I.MS,fw,?_⟩;cases f with
 |next=>obtain⟨Ld,r,q⟩:=q;exact⟨Ld,r.MS,q⟩
 |brk=>obtain⟨Ld,r,q⟩:=q;exact⟨Ld,r.MS,q⟩
 |cont=>obtain⟨Ld,r,q⟩:=q;exact⟨Ld,r.MS,q⟩
 |ret u=>exact q
theorem cG.Yt{st:List Stmt}{t:DS}(h:cG X.Yt st t):cG X st t:=fun pins s σ H W ρ E I r hw =>
 OT (h pins s σ H W ρ E (I.wish _) (r.wish _) hw) (fun _ _ q=>q.MS) fun _ _ z=>False.elim z
end
def zc(base:Heap)(l:List Env)(e:Addr)(cls a0:Value)(h:Heap):Prop:=base.StaysIn h/\base.get? e=none/\h.FunFrames base l/\∃fl,h.TracedAtW base e cls a0 fl
section
variable{M:Model}{A:Around}{E:yaa}{s:Shared}{base:Heap}{l outer:List Env}{env:Env}{e L:Addr}{cls a0:Value}
def FZ{Q:Unit->Shared->Prop}(Zy:A.frames=some (env::outer))(hf:env.frame=some L)(R:zc base (env::outer) e cls a0 s.heap)
  (h:∀h',zc base (env::outer) e cls a0 h'->s.heap.UpToSlots h'->Q () {s with heap:=h'}):wpAny M A (noteFrame (.ref e) env) Q E s:=by
 obtain⟨k1,k2,k3,fl,oe,vs,T,oT,ts,g1,g2,g3,g4,g5,g6,g7,g8,g9⟩:=id R;by_cases hfl:(fl==rawInt L)=true
 ·have efl:fl=rawInt L:=by simpa using hfl
  subst efl;exact wpAny_noteFrame_againW (base:=base) (cls:=cls) (a0:=a0) hf ⟨oe,vs,T,oT,ts,g1,g2,g3,g4,g5,g6,g7,g8,g9⟩ (h _ R (Heap.UpToSlots.refl _))
 ·obtain⟨ec,g0⟩:=g2;subst ec;unfold noteFrame;simp only[hf];refine K1 (Oy g1 g3 g4 ?_);rw[K4 (by simp)];refine K1 (Oy g7 g8 g9 ?_);rw[K3 hfl];refine K1 (VL g7 g8 (TL.mp g9).1 ?_);have Pp:∀b,b≠T->(s.heap.update T (Obj.mapFields (·.setIfInBounds 3 Value.none))).get? b=s.heap.get? b:=fun b hb=>Rh _ _ (Ne.symm hb)
  have Xc:∀b o,s.heap.get? b=some o->(∀vs,o.data ≠ .fields vs)->b≠T:=fun b o hb hn q=>by rw[q,g7]at hb;cases hb;exact hn ts g8
  refine wpAny_entryW (base:=base) Zy (k3.of_keeps fun b o hb hn=>⟨o,(Pp b (Xc b o hb hn)).trans hb,rfl⟩) hf ((Pp e (Ne.symm g6)).trans g1) (fun b o hb=>(Pp b fun q=>by rw[q,g5]at hb;cases hb).trans (k1 b o hb)) k2 g3 (TL.mp g4).1 g0 fun h' hN=>?_
  obtain⟨n1,n2,n3,n4⟩:=hN;exact h h' ⟨n1,k2,n2,_,n3⟩ fun b o hb hn=>n4 b o ((Pp b (Xc b o hb hn)).trans hb) hn
def DC{Q:Unit->Shared->Prop}(Zy:A.frames=some (env::outer))(hf:env.frame=some L)(R:zc base (env::outer) e cls a0 s.heap)
  (h:∀h',Heap.FlyingW base outer e cls a0 h'->s.heap.UpToSlots h'->Q () {s with heap:=h'}):wpAny M A (leaving env (.ref e)) Q E s:=by
 unfold leaving;refine K1 (FZ Zy hf R fun h1 R1 s1=>?_);obtain⟨k1,k2,k3,fl,k4⟩:=R1;refine wpAny_setFlight_noneW (base:=base) k1 k3 k4 fun h2 m1 m2 m3 m4=>?_
 obtain⟨_,_,m2⟩:=m2;exact h h2 ⟨m1,k2,m2,m3⟩ (s1.trans fun b o hb hn=>⟨o.slots,m4 b o hb hn⟩)
end
def zw(X:Cx)(Ed:Value->Prop):Prop:=∀(pins:yab) (σ:St) (H:Hp) (W:Own) (ρ:Ro) (s s':Shared) (ea c:Addr) (H':Hp) (B:Heap) (a0:Value),Inv X pins σ H s->Rel X W H σ ρ->s'.os=s.os->AllBare s'.gens->Fl X.prog X.w X.stack s.heap H H' B s'.heap->ar H H'->H' ea=none->s.heap.get? ea=none →
 zc B X.stack ea (.ref c) a0 s'.heap->Ed (.ref c)->X.xe (.ref ea) s'
section
variable{P:Program}{w:World}{K:yac}{mg:yal}{base:Heap}{N:yah}{qual:Str}{sc:Scope}{f:Addr}{cd:Value}{A:Around}{outer:List Env}{Lq:Shared}{LX:Hp}{E:XK}
def JN{Ed:Value->Prop}(hE:∀c a H',ar LX H'->Ed c->E c a H'):zw (dS (CX1 P w) P w K mg base N qual sc f cd A outer Lq LX E) Ed:=by
 intro pins σ H W ρ s s' ea c H' B a0 I r os bare F sm hn Xb R hd;show wpAny (model P w) (A.deeper (envOfC qual sc Lq.heap.objs.size f cd)) (leaving (envOfC qual sc Lq.heap.objs.size f cd) (.ref ea)) _ _ _;refine DC (outer:=outer) I.ok.frames rfl R fun Qu x1 x2=>?_
 have I':=I.RK os F.un F.Lu bare (by intro b z;cases z);refine vt (s:=s') (h':=Qu) I' (r.ent.trans sm) hn ?_ (fun b o q z n=>F.VU b o q (z.elim .inl fun⟨o',z⟩=>.inr (I.base.there b o' z (by intro q;cases q))) n) x1 x2 (hE _ _ _ (r.ent.trans sm) hd);cases q:Lq.heap.get? ea with
 |none=>rfl
 |some o =>
  obtain⟨o',q'⟩:=I.base.there ea o q (by intro z;cases z);rw[Xb]at q';cases q'
end
section
variable{P:Program}{w:World}{K:yac}{mg:yal}{base:Heap}
structure aw(K:yac)(x qual:Str)(st:Stmt)(f:Addr)(fd:FuncData):Prop where
 ex:∃(oc:Value) (od:Option Addr) (dV kV doc pm:Value) (an:Option Addr) (Lv ct:Value) (S1:Array (yam)),
  fd=PySem.W.fnOf x qual (eR st) (cO st) (ak st) dV kV doc pm an Lv ct/\K.lookup f=some ⟨oc,od,.func fd,S1⟩/\PySem.W.codeIn K Lv qual=true
 kp:PySem.W.keepIn K (.ref f)=true
def aw.okC {x qual : Str} {st : Stmt} {f : Addr} {fd : FuncData} {N ps : yah} {k : Nat} {sp : DSp} (F : aw K x qual st f fd) (S : az N ps (ak st)) (len : ∀ ds Q E, sp ds Q E -> ds.length = ps.length)
  (OD : ∀ (Lv : Value), fd.code = Lv -> ∀ (A : Around) (outer : List Env) (s : Shared) (H : Hp) (E : XK) (Ed : Value -> Prop), cA k (A.deeper (envOfC qual (ak st) s.heap.objs.size f Lv)) -> MadeX (dS (CX1 P w) P w K mg base N qual (ak st) f Lv A outer s H E) Ed -> cY (dS (CX1 P w) P w K mg base N qual (ak st) f Lv A outer s H E) Ed -> zw (dS (CX1 P w) P w K mg base N qual (ak st) f Lv A outer s H E) Ed →
   ∃ t, cG (dS (CX1 P w) P w K mg base N qual (ak st) f Lv A outer s H E) (cO st) t /\ ∀ ds Q, sp ds Q Ed -> t { nx := fun _ => Q .LJ, rt := Q } (di N ds)) : aJ P w K mg base (CX1 P w) (k + 1) f fd ps (aK K sp) := by
 obtain ⟨oc, od, dV, kV, doc, pm, an, Lv, ct, S1, rfl, lk, Oa⟩ := F.ex;refine JL lk Oa S (fun vs H Q E h => ?_) fun A outer s H vs Q E hr h => ?_
 ·obtain ⟨_, ds, _, _, _, _, hd, hs, _⟩ := h;rw [hd.len];exact len ds _ _ hs
 ·obtain ⟨Pb, ds, Qd, Ed, hT, hP, hd, hs, kq, ke⟩ := h;obtain ⟨t, ht, k⟩ := OD Lv rfl A outer s H E Ed hr (JR ke) (Gh ke) (JN ke);refine ⟨_, ht.ps, ⟨Pb, fun _ => none, fun a => ∃ o, H a = some o⟩, _, _, Rel.start hP hd rfl hT, k ds Qd hs, fun W' LH H' Ld f r q => ?_, fun W' H' v d f PR q => ?_, fun _ _ _ _ _ _ q => q, fun _ _ _ _ _ _ q => q⟩
  ·exact kq .LJ .LJ H' ⟨fun b o e n => f.kp b o (fun i z => by cases z) e n, f.tb, f.ok⟩ Den.LJ q
  ·refine kq d v H' ⟨fun b o e n => f.kp b o (fun i z => by cases z) e n, f.tb, f.ok⟩ (PR.Lo fun t a z => ?_) q;rcases z with z | z
   ·exact .inl (by rw [f.B]; exact z)
   ·exact .inr (.inr ⟨z.1, by rw [f.S]; exact z.2⟩)
def aw.okX {x qual : Str} {st : Stmt} {f : Addr} {fd : FuncData} {N ps : yah} {k : Nat} {sp : DSp} (F : aw K x qual st f fd) (S : az N ps (ak st)) (len : ∀ ds Q E, sp ds Q E -> ds.length = ps.length)
  (OD : ∀ (Lv : Value) (A : Around) (outer : List Env) (s : Shared) (H : Hp) (E : XK) (Ed : Value -> Prop), cA k (A.deeper (envOfC qual (ak st) s.heap.objs.size f Lv)) -> MadeX (dS (CX1 P w) P w K mg base N qual (ak st) f Lv A outer s H E) Ed -> cY (dS (CX1 P w) P w K mg base N qual (ak st) f Lv A outer s H E) Ed -> zw (dS (CX1 P w) P w K mg base N qual (ak st) f Lv A outer s H E) Ed →
   ∃ t, cG (dS (CX1 P w) P w K mg base N qual (ak st) f Lv A outer s H E) (cO st) t /\ ∀ ds Q, sp ds Q Ed -> t { nx := fun _ => Q .LJ, rt := Q } (di N ds)) : aJ P w K mg base (CX1 P w) (k + 1) f fd ps (aK K sp) := aw.okC F S len fun Lv _ => OD Lv
def aw.okN {x qual : Str} {st : Stmt} {f : Addr} {fd : FuncData} {N ps : yah} {k : Nat} {sp : DSp} (F : aw K x qual st f fd) (S : az N ps (ak st)) (len : ∀ ds Q E, sp ds Q E -> ds.length = ps.length)
  (OD : ∀ (Lv : Value) (A : Around) (outer : List Env) (s : Shared) (H : Hp) (E : XK), cA k (A.deeper (envOfC qual (ak st) s.heap.objs.size f Lv)) →
   ∃ t, cG (dS (CX1 P w) P w K mg base N qual (ak st) f Lv A outer s H E).Yt (cO st) t /\ ∀ ds Q Ed, sp ds Q Ed -> t { nx := fun _ => Q .LJ, rt := Q } (di N ds)) : aJ P w K mg base (CX1 P w) (k + 1) f fd ps (aK K sp) :=
 aw.okX F S len fun Lv A outer s H E Ed hr _ _ _ => by obtain ⟨t, ht, k⟩ := OD Lv A outer s H E hr;exact ⟨t, ht.Yt, fun ds Q h => k ds Q Ed h⟩
def yC{x qual:Str}{st:Stmt}{f:Addr}{oc:Value}{od an:Option Addr}{S1:Array (yam)}{dV kV doc pm Lv ct:Value}(l:K.lookup f=some ⟨oc,od,.func (PySem.W.fnOf x qual (eR st) (cO st) (ak st) dV kV doc pm an Lv ct),S1⟩)
  (c:PySem.W.codeIn K Lv qual=true) (k:PySem.W.keepIn K (.ref f)=true):aw K x qual st f (PySem.W.fnOf x qual (eR st) (cO st) (ak st) dV kV doc pm an Lv ct):=⟨⟨oc,od,dV,kV,doc,pm,an,Lv,ct,S1,rfl,l,c⟩,k⟩
end
open PySem PySem.Spec PyProof.Rows L2
def Mj(P:Program)(w:World)(K:yac)(mg:yal)(base:Heap)(x:Str)(k:Nat)(ps:yah)(sp:DSp):Prop :=
 ∃ f fd,aJ P w K mg base (CX1 P w) k f fd ps (aK K sp)/\mg x=some (.ref f)/\PySem.W.keepIn K (.ref f)=true/\Binds K fd ps []
section
variable{X:Cx}{k:Nat}{ps:yah}{sp:DSp}{x:Str}{p pos:Pos}{e:Expr}{es:yai}{t:DA}
def Fm (h:Mj X.prog X.w X.K X.mg X.base x k ps sp) (hr:cA k X.A) (ha:PN X (e::es) t) (hg:Gl X x:=by rfl) (QO:(x==("__debug__" : Str))=false:=by decide)
  (he:starEach (e::es) X.env=(false,eval e X.env)::starEach es X.env:=by rfl) (MH:(backTo pos (starEach es X.env)).any (·.1)=false:=by rfl):Lx X (.Call (.Name x p) (e::es) [] pos) (uP sp [] t):=by
 obtain⟨f,fd,F,hm,hk,hb⟩:=h;exact Dd (dds:=[]) (dsv:=[]) F hr hg hm hk hb .nil (by simp) JY ha QO he MH
def aq (h:Mj X.prog X.w X.K X.mg X.base x k ps sp) (hr:cA n X.A) (ha:PN X (e::es) t) (hk:k<=n:=by decide) (hg:Gl X x:=by rfl) (QO:(x==("__debug__" : Str))=false:=by decide)
  (he:starEach (e::es) X.env=(false,eval e X.env)::starEach es X.env:=by rfl) (MH:(backTo pos (starEach es X.env)).any (·.1)=false:=by rfl):Lx X (.Call (.Name x p) (e::es) [] pos) (uP sp [] t):=Fm h (hr.mono hk) ha hg QO he MH
end
def sp1(R:D->(D->Prop)->Prop):DSp:=fun ds Q _=>∃a,ds=[a]/\R a Q
def rN:DSp:=fun ds Q _=>∃ns:yaf,ds=[.lst false (ns.map .int)]/\ns.length<=63/\Q (.bl true)
theorem t6{K:yac}{P:yak}{H:Hp}:∀ns:yaf,ag K P H (ns.map D.int) (ns.map V.int)
 |[]=>ag.nil
 |n::r=>ag.cons (Den.int n) (t6 r)
def IE{K:yac}{H:Hp}{a:Addr}{ns:yaf}(hl:ns.length<=63)(hS:SqL K H a (ns.map V.int))(hT:ku K H):aK K rN [.ref a] H (fun v _=>v=.bl true) fun _ _ _=>False :=
 ⟨fun _=>False,[.lst false (ns.map D.int)],fun d=>d=.bl true,fun _=>False,hT,fun _ z=>z.elim,ag.one (Den.lst (fun z=>z.elim (fun z=>by cases z) id) (.any hS) (t6 ns)),⟨ns,rfl,hl,rfl⟩,fun d v H' _ hd e=>by subst e;exact hd.T8,fun _ _ _ _ z=>z.elim⟩
def walk {l : PySem.W.OpenLaw} {q : Program} {loose : yah} {XP : (yal) -> Heap -> Prop} {YP : World -> Heap -> Prop} {d : DefRec} {K : Params -> yac} {k : Nat} {x : Str} (hn : l.most = some 63) (WL : d.params.defaults = []) (hr : cA k callerA)
  (hY : ∀ (w : World) (h : Heap), YP w h -> (K w.params).In h) (hT : ∀ w : World, tabOf (K w.params) = none)
  (F : ∀ (w : World) (mg : yal) (fa : Addr) (h : Heap), (K w.params).In h -> h.Ns mainGlobals mg -> mg d.name = some (.ref fa) →
   ∃ fd : FuncData, (∀ (s : Shared) (u : Value), BindsTo s fd ⟨[u], []⟩ [(x, u)]) /\ ∀ base : Heap, (K w.params).In base -> base.Ns mainGlobals mg -> aJ l.prog w (K w.params) mg base (CX1 l.prog w) k fa fd [x] (aK (K w.params) rN)) :
  PySem.W.WalkO q loose XP YP l.row.toRowW d [] (fun f vs => PySem.call f vs) :=
 L2.GX (n := 63) (k := k) (x := x) (CX := fun w => CX1 l.prog w) (sp := fun w => aK (K w.params) rN) hn (by decide) WL hr hY F (fun w _ a ns hl hO hS => IE hl hS ⟨fun P ps e => (by rcases hO P with z | ⟨o, xs, z⟩ <;> rw [z] at e <;> cases e), fun P e => (by rw [hT w] at e; cases e)⟩) fun _ _ _ _ _ z => by obtain ⟨_, _, _, _, _, _, _, _, _, _, _, _, _, q⟩ := z; exact q.elim
def U1{α:Type}(a:α)(r:List α):Mm (a::r) 0=some a:=aU (j:=0) rfl
def Pc{α:Type}(a b:α)(r:List α):Mm (a::b::r) 1=some b:=aU (j:=1) rfl
def at2{α:Type}(a b c:α)(r:List α):Mm (a::b::c::r) 2=some c:=aU (j:=2) rfl
def at3{α:Type}(a b c d:α)(r:List α):Mm (a::b::c::d::r) 3=some d:=aU (j:=3) rfl
theorem D8(ds:yar)(i:Int)(Q:D->Prop):sS (.tup ds) (.int i) Q=∃d,Mm ds i=some d/\Q d:=rfl
theorem ql(t:Bool)(ds:yar)(i:Int)(Q:D->Prop):sS (.lst t ds) (.int i) Q=∃d,Mm ds i=some d/\Q d:=rfl
theorem cV(i:Int):aL (.int i)=.int i:=rfl
theorem Er(b:Bool):aL (.bl b)=.bl b:=rfl
theorem Cv:aL .LJ=.LJ:=rfl
theorem iP(x:Str):aL (.str x)=.str x:=rfl
theorem bV(ds:yar):aL (.tup ds)=.tup (bc ds):=rfl
theorem bo(t:Bool)(ds:yar):aL (.lst t ds)=.lst false (bc ds):=rfl
theorem bD:bc []=[]:=rfl
theorem bq(d:D)(ds:yar):bc (d::ds)=aL d::bc ds:=rfl
theorem cc{α:Type}(f:α->D)(h:∀x,aL (f x)=f x):∀xs:List α,bc (xs.map f)=xs.map f
 |[]=>by rw[Q4,bc]
 |x::r=>by rw[LD,bc,h,cc f h r]
def fK(ns:yaf):bc (ns.map D.int)=ns.map D.int:=cc _ cV ns
theorem yR(C:Int->Int->Prop)(g:Int->Int->D)(i j:Int)(Q:D->Prop):T9 C g (.int i) (.int j) Q=(C i j/\Q (g i j)):=rfl
theorem eJ(g:Int->Int->D)(i j:Int)(Q:D->Prop):gC g (.int i) (.int j) Q=Q (g i j):=rfl
theorem HA(d:D)(r:Ro)(Q:D->Prop):kA 0 (some (.val d)::r) Q=Q d:=rfl
theorem HB(n:Nat)(x:Option Sl)(r:Ro)(Q:D->Prop):kA (n+1) (x::r) Q=kA n r Q:=rfl
theorem J5(x y:Option Sl)(r:Ro):List.set (x::r) 0 y=y::r:=rfl
theorem J6(n:Nat)(x y:Option Sl)(r:Ro):List.set (x::r) (n+1) y=x::List.set r n y:=rfl
def JJ(k:Bool)(R:Bool->Prop):(∃c,(D.bl k)=.bl c/\R c)=R k:=by
 apply propext;constructor
 ·rintro⟨c,e,q⟩;cases e;exact q
 ·intro q;exact⟨k,rfl,q⟩
def HW(k:Int)(R:Int->Prop):(∃c,(D.int k)=.int c/\R c)=R k:=by
 apply propext;constructor
 ·rintro⟨c,e,q⟩;cases e;exact q
 ·intro q;exact⟨k,rfl,q⟩
def Fw{α:Type}(k:α)(R:α->Prop):(∃c,some k=some c/\R c)=R k:=by
 apply propext;constructor
 ·rintro⟨c,e,q⟩;cases e;exact q
 ·intro q;exact⟨k,rfl,q⟩
def Ra(a b c:D):([a,b,c]:yar).length<=sizeLine:=by rw[sizeLine_eq];show 3<=16777216;decide
def Rb(a b:D):([a,b]:yar).length<=sizeLine:=by rw[sizeLine_eq];show 2<=16777216;decide
def VW(a:D):([a]:yar).length<=sizeLine:=by rw[sizeLine_eq];show 1<=16777216;decide
def sz4(a b c d:D):([a,b,c,d]:yar).length<=sizeLine:=by rw[sizeLine_eq];show 4<=16777216;decide
def FT(t:Bool)(xs:yar)(R:yar->Prop):(∃ys,((∃t',[D.lst t xs]=[.lst t' ys]) ∨ [D.lst t xs]=[.tup ys])/\R ys)=R xs:=by
 apply propext;constructor
 ·rintro⟨c,e,q⟩;rcases e with⟨_,e⟩| e
  ·cases e;exact q
  ·cases e
 ·intro q;exact⟨xs,.inl ⟨t,rfl⟩,q⟩
def FU(xs:yar)(R:yar->Prop):(∃ys,((∃t',[D.tup xs]=[.lst t' ys]) ∨ [D.tup xs]=[.tup ys])/\R ys)=R xs:=by
 apply propext;constructor
 ·rintro⟨c,e,q⟩;rcases e with⟨_,e⟩| e
  ·cases e
  ·cases e;exact q
 ·intro q;exact⟨xs,.inr rfl,q⟩
def IU(a b:D)(R:D->D->Prop):(∃d e,[a,b]=[d,e]/\R d e)=R a b:=by
 apply propext;constructor
 ·rintro⟨_,_,e,q⟩;cases e;exact q
 ·intro q;exact⟨a,b,rfl,q⟩
def FO (ds:yar):RP "tuple" (.tup ds)=true:=by
 show(("tuple" : String) == "tuple" || (("tuple" : String) == "bool" && ("tuple" : String) == "int"))=true;decide
def FN (t:Bool) (ds:yar):RP "list" (.lst t ds)=true:=by
 show(("list" : String) == "list" || (("list" : String) == "bool" && ("list" : String) == "int"))=true;decide
def By (ds:yar):RP "list" (.tup ds)=false:=by
 show(("tuple" : String) == "list" || (("tuple" : String) == "bool" && ("list" : String) == "int"))=false;decide
def FK (i:Int):RP "int" (.int i)=true:=by
 show(("int" : String) == "int" || (("int" : String) == "bool" && ("int" : String) == "int"))=true;decide
def Aa (i:Int):RP "bool" (.int i)=false:=by
 show(("int" : String) == "bool" || (("int" : String) == "bool" && ("bool" : String) == "int"))=false;decide
theorem Bv:iw .LJ=true:=rfl
theorem Bw(ds:yar):iw (.tup ds)=false:=rfl
theorem Bu(t:Bool)(ds:yar):iw (.lst t ds)=false:=rfl
theorem Bt(i:Int):iw (.int i)=false:=rfl
def F5(i:Int):okD (.int i):=by unfold okD;rw[MA,PV]<;>first|exact⟨rfl,rfl⟩| (intros;contradiction)
def F6:okD .LJ:=by unfold okD;rw[MA,PV]<;>first|exact⟨rfl,rfl⟩| (intros;contradiction)
def Bm(a b c x y z:Int):eqD (.tup [.int a,.int b,.int c]) (.tup [.int x,.int y,.int z])=(decide (a=x) && (decide (b=y) && decide (c=z))):=by unfold eqD;simp only[MA,cE,PyData.eqv,PyData.eqvAll,Bool.and_true];rfl
abbrev T3(a b c:Int):D:=.tup [.int a,.int b,.int c]
def CD.lit{n:Int}(h:n≠0/\n.natAbs<2 ^ 64:=by decide):CD i n:=⟨h.1,M5 h.2 (Uw (by decide) (by decide))⟩
def GA(a b:Int)(R:Int->Int->Prop):(∃i j:Int,[D.int a,D.int b]=[.int i,.int j]/\R i j)=R a b:=by
 apply propext;constructor
 ·rintro⟨_,_,e,q⟩;cases e;exact q
 ·intro q;exact⟨a,b,rfl,q⟩
def Gz(a:Int)(R:Int->Prop):(∃i:Int,[D.int a]=[.int i]/\R i)=R a:=by
 apply propext;constructor
 ·rintro⟨_,e,q⟩;cases e;exact q
 ·intro q;exact⟨a,rfl,q⟩
def CV{ns:yaf}{k:Int}(h0:0<=k)(h1:k<ns.length):Mm (ns.map D.int) k=some (.int (ns.getD k.toNat 0)):=by
 have e:k=((k.toNat:Nat):Int):=by lia
 have hl:k.toNat<ns.length:=by lia
 have q:Mm (ns.map D.int) ((k.toNat:Nat):Int)=some (.int (ns.getD k.toNat 0)):=aU (by simp[LZ,LM hl,Mf]);rw[<- e]at q;exact q
def xD{xs ys:yaf}(h:xs.map D.int=ys.map D.int):xs=ys:=by
 induction xs generalizing ys with
 |nil=>cases ys with
  |nil=>rfl
  |cons y r=>simp at h
 |cons x r ih=>cases ys with
  |nil=>simp at h
  |cons y q =>
   simp only[LD,QY,D.int.injEq]at h;rw[h.1,ih h.2]
def gdN(n:Nat)(t:RS)(tg:Bool)(ds:yar)(h:ds.length=n)(ρ:Ro)(Q:Ro->Prop):gB n t (.lst tg ds) ρ Q=t ds ρ Q:=by
 apply propext;unfold gB;constructor
 ·rintro⟨P5,e,_,h⟩;rcases e with e|⟨_,e⟩
  ·cases e
  ·cases e;exact h
 ·intro q;exact⟨ds,.inr ⟨tg,rfl⟩,h,q⟩
def sH(n:Nat)(t:RS)(ds:yar)(h:ds.length=n)(ρ:Ro)(Q:Ro->Prop):gB n t (.tup ds) ρ Q=t ds ρ Q:=by
 apply propext;unfold gB;constructor
 ·rintro⟨P5,e,_,h⟩;rcases e with e|⟨_,e⟩
  ·cases e;exact h
  ·cases e
 ·intro q;exact⟨ds,.inl rfl,h,q⟩
def Xd(g:DG)(u:RS)(x:D)(r:yar)(ρ:Ro)(Q:Ro->Prop):bM g u (x::r) ρ Q=g x ρ fun Ld=>u r Ld Q:=by
 apply propext;unfold bM;constructor
 ·rintro⟨d,r',e,h⟩;cases e;exact h
 ·intro h;exact⟨x,r,rfl,h⟩
def Xe(ρ:Ro)(Q:Ro->Prop):jg [] ρ Q=Q ρ:=by apply propext;unfold jg;simp
def gd2(g1 g2:DG)(tg:Bool)(a b:D)(ρ:Ro)(Q:Ro->Prop):gB 2 (bM g1 (bM g2 jg)) (.lst tg [a,b]) ρ Q=g1 a ρ fun ρ1=>g2 b ρ1 Q:=by
 (first|rw[gdN 2 _ _ _ rfl]|rw[gdN 3 _ _ _ rfl]);simp only[Xd,Xe]
def Km(g1 g2:DG)(a b:D)(ρ:Ro)(Q:Ro->Prop):gB 2 (bM g1 (bM g2 jg)) (.tup [a,b]) ρ Q=g1 a ρ fun ρ1=>g2 b ρ1 Q:=by
 (first|rw[sH 2 _ _ rfl]|rw[sH 4 _ _ rfl]);simp only[Xd,Xe]
def Ko(g1 g2 g3 g4:DG)(a b c d:D)(ρ:Ro)(Q:Ro->Prop):gB 4 (bM g1 (bM g2 (bM g3 (bM g4 jg)))) (.tup [a,b,c,d]) ρ Q=g1 a ρ fun ρ1=>g2 b ρ1 fun ρ2=>g3 c ρ2 fun Qr=>g4 d Qr Q:=by
 (first|rw[sH 2 _ _ rfl]|rw[sH 4 _ _ rfl]);simp only[Xd,Xe]
section
variable{X:Cx}{pos:Pos}
def Rel.Xf{i:Nat}{o:HO}(r:Rel X W H σ ρ)(hi:i<σ.length)(sm:ar H H')(hp:H p=none)(hk:X.K.lookup p=none)(h':H' p=some o)(hd:c8 X.K (fun t b=>W.bad t b∨b=p) H' (W.sub σ.length i) x o) :
  Rel X ((W.drop i).put i p) H' (σ.set i (some (.ref p))) (ρ.set i (some (.ob x)))/\LC W H ((W.drop i).put i p) H':=by
 have hO:∀j a,((W.drop i).put i p).O j=some a->(j=i/\a=p)∨(j≠i/\W.O j=some a):=fun j a h=>by
  have h1:(if j=i then some p else(if j=i then none else W.O j))=some a:=h;by_cases e:j=i
  ·rw[K4 e]at h1;cases h1;exact .inl ⟨e,rfl⟩
  ·rw[K3 e,K3 e]at h1;exact .inr ⟨e,h1⟩
 have hOi:((W.drop i).put i p).O i=some p:=by show(if i=i then some p else _)=_;rw[K4 rfl]
 have hOj:∀j,j≠i->((W.drop i).put i p).O j=W.O j:=fun j n=>by show(if j=i then some p else(if j=i then none else W.O j))=_;rw[K3 n,K3 n]
 have hS:∀j k b,W.sub σ.length j k=some b->((W.drop i).put i p).sub σ.length j k=some b:=fun j k b e=>(hOj _ (gQ hi)).trans e
 have NY:∀t a,((W.drop i).put i p).bad t a->W.bad t a∨a=p:=fun t a z=>by
  rcases z with z|⟨j,z⟩| z
  ·exact .inl (.inl z)
  ·rcases hO j a z with⟨_,q⟩| ⟨_,q⟩
   ·exact .inr q
   ·exact .inl (.inr (.inl ⟨j,q⟩))
  ·exact .inl (.inr (.inr z))
 have nb:∀{t:Bool} {a:Addr} {ws:yaq},Na X.K H t a ws->a≠p:=fun {t a ws} q z=>by
  subst z;rcases q.1 with(q|⟨o,q⟩)|⟨o,K9,n,q,_⟩
  ·rw[hp]at q;cases q
  ·rw[hp]at q;cases q
  ·rw[hk]at q;cases q
 have up:∀(d:D) (v:V),Den X.K W.bad H d v->Den X.K ((W.drop i).put i p).bad H' d v:=Den.map (fun _ _ q=>LO.same sm q) (fun t a ws n q=>⟨fun z=>(NY t a z).elim n (nb q),q.same sm⟩) (fun a _ n q=>sm.kp a _ q n.nt);have ups:∀(ds:yar) (vs':yaq),ag X.K W.bad H ds vs'->ag X.K ((W.drop i).put i p).bad H' ds vs':=ag.map (fun _ _ q=>LO.same sm q) (fun t a ws n q=>⟨fun z=>(NY t a z).elim n (nb q),q.same sm⟩) (fun a _ n q=>sm.kp a _ q n.nt);refine⟨⟨fun j d h=>?_,fun j x h=>?_,fun j k a h1 h2=>?_,fun j a h1=>?_,fun j a h1=>?_,fun a h=>let ⟨_,q⟩:=r.bt a h;sm.ex q,fun a h=>let ⟨_,q⟩:=r.st a h;sm.ex q,r.ent.trans sm,r.tab.same sm⟩,rfl,rfl,fun b o _ q n=>sm.kp b o q n,fun j a h=>?_,sm.tb,sm.ok⟩
 ·by_cases hj:j=i
  ·subst hj;rw[List.getElem?_set]at h;split at h
   ·split at h<;>cases h
   ·lia
  ·rw[NK (Ne.symm hj)]at h;obtain⟨w,h1,h2⟩:=r.val j d h;exact⟨w,by rw[NK (Ne.symm hj)];exact h1,up d w h2⟩
 ·by_cases hj:j=i
  ·subst hj;rw[List.getElem?_set]at h;split at h
   ·split at h
    ·cases h;exact⟨p,_,hOi,by simp[hi],h',by rw[SO];exact hd.Lo (fun t a z=>NY t a z) (hS _)⟩
    ·cases h
   ·lia
  ·rw[NK (Ne.symm hj)]at h;obtain⟨a,ws,h1,h2,h3,h4⟩:=r.own j x h;exact⟨a,ws,(hOj j hj).trans h1,by rw[NK (Ne.symm hj)];exact h2,sm.kp _ _ h3 h4.Q8.nt,by rw[SO];exact h4.map ups fun k b q=>⟨hS j k b q,fun _ z=>sm _ _ z⟩⟩
 ·rcases hO j a h1 with⟨e1,q1⟩| ⟨e1,q1⟩<;>rcases hO k a h2 with⟨e2,q2⟩| ⟨e2,q2⟩
  ·rw[e1,e2]
  ·subst q1;obtain⟨_,_,ws,q,_⟩:=r.kn k _ q2;rw[hp]at q;cases q
  ·subst q2;obtain⟨_,_,ws,q,_⟩:=r.kn j _ q1;rw[hp]at q;cases q
  ·exact r.inj j k a q1 q2
 ·rcases hO j a h1 with⟨e1,q1⟩| ⟨e1,q1⟩
  ·subst q1;exact⟨hk,⟨fun z=>(by obtain⟨o,q⟩:=r.bt _ z;rw[hp]at q;cases q),fun z=>(by obtain⟨o,q⟩:=r.st _ z;rw[hp]at q;cases q)⟩,_,h',hd.Q8⟩
  ·obtain⟨a1,a2,ws,a3,a4⟩:=r.kn j a q1;exact⟨a1,a2,ws,sm.kp _ _ a3 a4.nt,a4⟩
 ·rcases hO j a h1 with⟨e1,q1⟩| ⟨e1,q1⟩
  ·subst q1;exact r.ent.free hp
  ·exact r.ke j a q1
 ·rcases hO j a h with⟨e1,q1⟩| ⟨e1,q1⟩
  ·subst q1;exact .inr hp
  ·exact .inl ⟨j,q1⟩
def Rel.Th{i:Nat}(r:Rel X W H σ ρ)(hi:i<σ.length)(sm:ar H H')(hp:H p=none)(hk:X.K.lookup p=none)(h':H' p=some (.lst vs))(hd:ag X.K (fun t b=>W.bad t b∨b=p) H' ds vs) :
  Rel X ((W.drop i).put i p) H' (σ.set i (some (.ref p))) (ρ.set i (some (.own ds)))/\LC W H ((W.drop i).put i p) H':=r.Xf hi sm hp hk h' (.lst hd)
def ag.apart{K:yac}{H:Hp}(n:H a=none)(k:K.lookup a=none)(h:ag K P H ds us)(nt:NT o:=by exact True.intro):ag K (fun t b=>P t b∨b=a) (L2.upd H a o) ds us :=
 ag.map (fun _ _ q=>LO.same (ar.upd n nt) q) (fun t b ws p q=>⟨(fun z=>z.elim p fun z=>by
  subst z;rcases q.1 with(q|⟨o,q⟩)|⟨o,K9,m,q,_⟩
  ·rw[n]at q;cases q
  ·rw[n]at q;cases q
  ·rw[k]at q;cases q),q.same (ar.upd n nt)⟩) (fun b _ m q=>(ar.upd n nt).kp b _ q m.nt) ds us h
def Rel.Xg{i:Nat}{a:Addr}{o:HO}(r:Rel X W H σ ρ)(eo:ρ[i]?=some (some (.ob x)))(oa:W.O i=some a)(sa:σ[i]?=some (some (.ref a)))(ha:H a=some o)(hm:iR o)(hd:c8 X.K W.bad H (W.sub σ.length i) x' o') :
  Rel X W (L2.upd H a o') σ (ρ.set i (some (.ob x')))/\LC W H W (L2.upd H a o'):=by
 have U3:∀t,W.bad t a:=fun _=>.inr (.inl ⟨i,oa⟩)
 have Qv:∀b ws,LO X.K H b ws->LO X.K (L2.upd H a o') b ws:=fun b ws q=>by show L2.upd _ _ _ _=_;rw[av (jj q ha (by intro z;subst z;exact hm))];exact q
 have Qw:∀t b ws,¬W.bad t b->Na X.K H t b ws->¬W.bad t b/\Na X.K (L2.upd H a o') t b ws:=fun t b ws n q=>by
  have LV:b≠a:=fun e=>n (e ▸ U3 t)
  refine⟨n,?_,fun z=>⟨by rw[av LV];exact(q.2 z).1,(q.2 z).2⟩⟩;rcases q.1 with(q|⟨u,q⟩)|q
  ·exact .inl (.inl (by rw[av LV];exact q))
  ·exact .inl (.inr ⟨u,by rw[av LV];exact q⟩)
  ·exact .inr q
 have Qx:∀b u,RM u->H b=some u->L2.upd H a o' b=some u:=fun b u n q=>by rw[av (jj q ha (by intro z;subst z;exact hm.sol n))];exact q
 have OW:i<ρ.length:=(L6.mp eo).1;have il:i<σ.length:=(L6.mp sa).1;have Yz:∀j k b,W.sub σ.length j k=some b->W.sub σ.length j k=some b/\∀us,H b=some (.lst us)->L2.upd H a o' b=some (.lst us):=fun j k b q=>⟨q,fun us z=>by rw[av (fun e=>gQ il (r.inj _ _ a (by rw[<- e];exact q) oa))];exact z⟩
 have tr:∀b u,H b=some u->∃u',L2.upd H a o' b=some u':=fun b u q=>by
  by_cases RU:b=a
  ·subst RU;exact⟨_,aH⟩
  ·exact⟨u,by rw[av RU];exact q⟩
 refine⟨⟨fun j d h=>?_,fun j y h=>?_,r.inj,fun j b hb=>?_,r.ke,fun b hb=>let ⟨u,q⟩:=r.bt b hb;tr b u q,fun b hb=>let ⟨u,q⟩:=r.st b hb;tr b u q,r.ent.ins (r.ke i a oa) ha hm hd.Q8.nt,r.tab.upd hd.Q8.nt (.inr ⟨o,ha,hm.ne,hm.nt⟩)⟩,LC.upd oa ha hm hd.Q8.nt⟩
 ·by_cases hj:j=i
  ·subst hj;rw[Ou OW]at h;cases h
  ·rw[NK (Ne.symm hj)]at h;obtain⟨w,h1,h2⟩:=r.val j d h;exact⟨w,h1,Den.map Qv Qw Qx d w h2⟩
 ·by_cases hj:j=i
  ·subst hj;rw[Ou OW]at h;cases h;exact⟨a,o',oa,sa,aH,hd.map (ag.map Qv Qw Qx) (Yz _)⟩
  ·rw[NK (Ne.symm hj)]at h;obtain⟨b,ws,h1,h2,h3,h4⟩:=r.own j y h;have LV:b≠a:=fun e=>hj (r.inj j i a (by rw[<- e];exact h1) oa)
   exact⟨b,ws,h1,h2,by rw[av LV];exact h3,h4.map (ag.map Qv Qw Qx) (Yz _)⟩
 ·obtain⟨k1,k2,ws,k3,k4⟩:=r.kn j b hb;refine⟨k1,k2,?_⟩;by_cases RU:b=a
  ·subst RU;exact⟨_,aH,hd.Q8⟩
  ·exact⟨ws,by rw[av RU];exact k3,k4⟩
def Rel.Q8{i:Nat}{a:Addr}(r:Rel X W H σ ρ)(eo:ρ[i]?=some (some (.own ds)))(oa:W.O i=some a)(sa:σ[i]?=some (some (.ref a)))(ha:H a=some (.lst vs))(hd:ag X.K W.bad H P5 vs') :
  Rel X W (L2.upd H a (.lst vs')) σ (ρ.set i (some (.own P5)))/\LC W H W (L2.upd H a (.lst vs')):=r.Xg eo oa sa ha True.intro (.lst hd)
variable{es:yai}{t:DA}
def Hr(i:Nat)(t:DA):DS:=fun E ρ=>t ρ fun ds=>ds.length<=sizeLine/\E.nx (ρ.set i (some (.own ds)))
def jM{x:Str}(i:Nat)(hN:X.N.Nodup)(h:PN X es t)(hi:X.N[i]?=some x:=by rfl)(hx:Loc X.env.scope x:=by first|exact Or.inl rfl|exact Or.inr rfl)
  (hs:swapsWith (.List es Ti) (some (.Name x pos')) pos.line X.env=pure false:=by rfl) (hf:X.fn x=true∨X.env.scope.names.lookup x=some .local:=by first|exact .inl rfl|exact .inr rfl|assumption) :
  NA X (.Assign [.Name x pos'] (.List es Ti) pos) (Hr i t):=by
 intro pins s σ H W ρ E I r hq;refine wpAny_Assign_Name (wpAny_List_spliced (Lj (h Ti pins s σ H W ρ _ I r hq) fun us s1 ⟨vs,H1,ds,I1,rv,e1,hd,z,q⟩=>?_)) hs;rw[<- hd.len]at z;refine⟨by rw[<- rv.length];exact z,?_⟩;have U4:H1 s1.heap.objs.size=none:=I1.Lu.fresh (LG _);have I2:=I1.laid (o:=.lst vs) (t':=s1.toks) (fun b u e=>Mb _ e) (LG _) ⟨z,us,0,rv,Nw _ rfl⟩;have rp:=(r.same e1).Th (Inv.RQ I1 hi) (ar.upd (o:=.lst vs) U4) U4 (Inv.MD I1) aH (ag.apart U4 (Inv.MD I1) hd);exact gf (v:=.ref s1.heap.objs.size) I2 hN hi hx rfl (fun s2 I3=>⟨_,_,_,I3,(LC.same e1).trans rp.2,_,rp.1,q⟩) hf
def yj(i:Nat)(te:DE):DS:=fun E ρ=>∃ds,ρ[i]?=some (some (.own ds))/\te ρ fun d=>ds.length<sizeLine/\E.nx (ρ.set i (some (.own (ds++[d]))))
def eG{x:Str}{apos:Pos}(i:Nat)(he:Lx X e te)(hi:X.N[i]?=some x:=by rfl)(hv:Rt X.env.scope x:=by first|exact Or.inl rfl|exact Or.inr (Or.inl rfl)|exact Or.inr (Or.inr rfl))
  (hd:(x==("__debug__" : Str))=false:=by decide) (Oa:(x==("__classdict__" : Str))=false:=by decide)
  (ML:attributeBase (.Name x px) "append" X.env (eval (.Name x px) X.env)=eval (.Name x px) X.env:=by rfl)
  (Qo:((backTo cpos (starEach [e] X.env)).all (fun x=>!x.1) && (backToKw cpos (keywordEach [] X.env)).all (fun x=>x.1.isSome) && decide ([e].length+([]:List Keyword).length+(if([]:List Keyword).isEmpty then 0 else 1)<30))=true:=by rfl)
  (MM:(apos.endLine==cpos.line)=true:=by rfl) (NU:starEach [e] X.env=(false,eval e X.env)::starEach [] X.env:=by rfl) (Nz:(backTo cpos (starEach [] X.env)).any (·.1)=false:=by rfl)
  (hs:swapsWith (.Call (.Attribute (.Name x px) "append" apos) [e] [] cpos) none pos.line X.env=pure false:=by rfl) :
  NA X (.Expr (.Call (.Attribute (.Name x px) "append" apos) [e] [] cpos) pos) (yj i te):=by
 have P0:=oU (pos:=pos) (An PySem.F.plainAttrs_list PySem.F.slot_list_append PySem.F.type_list_append nB (iF hi hv hd Oa) (jF he.pe nE NU) ML Qo MM NU Nz) hs;refine NA.of P0 fun σ H W ρ E r hl h=>?_
 obtain⟨ds,eo,h⟩:=h;obtain⟨a,vs,oa,sa,ha,LQ⟩:=r.dU i ds eo;refine⟨.ref a,sa,.inl ⟨rfl,_,SqL.of ha⟩,W,ρ,_,r,h,fun v H' d e1 PR q=>?_⟩;obtain⟨z,q⟩:=q;have Tf:=e1 _ _ ha;have r':=r.same e1;have Qy:=LQ.same e1;refine⟨a,vs,v,rfl,rfl,Tf,by rw[Qy.len];exact z,?_⟩;obtain⟨r2,f2⟩:=r'.Q8 (vs':=vs++[v]) eo oa sa Tf (Qy.append (ag.one PR));exact⟨W,_,(LC.same e1).trans f2,r2,q⟩
def Rel.freeze{X:Cx}{i:Nat}(r:Rel X W H σ ρ)(e:ρ[i]?=some (some (.own ds))):Rel X (W.drop i) H σ (ρ.set i (some (.val (.lst true ds)))):=by
 obtain⟨a,vs,oa,sa,ha,LQ⟩:=r.dU i ds e;have il:i<σ.length:=(L6.mp sa).1;have OW:i<ρ.length:=(L6.mp e).1;have nb:¬(W.drop i).bad true a:=fun z=>by
  rcases z with z|⟨j,z⟩| ⟨_,z⟩
  rotate_right
  ·exact(r.kn i a oa).2.1.2 z
  ·exact(r.kn i a oa).2.1.1 z
  ·have z':(if j=i then none else W.O j)=some a:=z;by_cases ej:j=i
   ·rw[K4 ej]at z';cases z'
   ·rw[K3 ej]at z';exact ej (r.inj j i a z' oa)
 have hd:Den X.K (W.drop i).bad H (.lst true ds) (.ref a):=Den.lst nb (.new ha (r.kn i a oa).1) (LQ.Lo fun _ _=>Own.L0);refine⟨fun j x h=>?_,fun j x h=>?_,fun j k b h1 h2=>?_,fun j b h1=>?_,fun j b h1=>?_,r.bt,r.st,r.ent,r.tab⟩
 ·by_cases hj:j=i
  ·subst hj;rw[Ou OW]at h;cases h;exact⟨.ref a,sa,hd⟩
  ·rw[NK (Ne.symm hj)]at h;obtain⟨w,h1,h2⟩:=r.val j x h;exact⟨w,h1,h2.Lo fun _ _=>Own.L0⟩
 ·by_cases hj:j=i
  ·subst hj;rw[Ou OW]at h;cases h
  ·rw[NK (Ne.symm hj)]at h;obtain⟨b,ws,h1,h2,h3,h4⟩:=r.own j x h;exact⟨b,ws,by show(if j=i then none else W.O j)=_;rw[K3 hj];exact h1,h2,h3,h4.Lo (fun _ _=>Own.L0) (Own.OE il)⟩
 ·have LS:(if j=i then none else W.O j)=some b:=h1;have Oq:(if k=i then none else W.O k)=some b:=h2;by_cases e1:j=i
  ·rw[K4 e1]at LS;cases LS
  ·by_cases e2:k=i
   ·rw[K4 e2]at Oq;cases Oq
   ·rw[K3 e1]at LS;rw[K3 e2]at Oq;exact r.inj j k b LS Oq
 ·have LS:(if j=i then none else W.O j)=some b:=h1;by_cases e1:j=i
  ·rw[K4 e1]at LS;cases LS
  ·rw[K3 e1]at LS;exact r.kn j b LS
 ·have LS:(if j=i then none else W.O j)=some b:=h1;by_cases e1:j=i
  ·rw[K4 e1]at LS;cases LS
  ·rw[K3 e1]at LS;exact r.ke j b LS
def yo(i:Nat)(t:DS):DS:=fun E ρ=>∃ds,ρ[i]?=some (some (.own ds))/\t E (ρ.set i (some (.val (.lst true ds))))
def dj{t:DS}(i:Nat)(h:cG X Xh t):cG X Xh (yo i t):=by intro pins s σ H W ρ E I r hq;obtain⟨ds,e,hq⟩:=hq;exact Lj (h pins s σ H (W.drop i) _ E I (r.freeze e) hq) fun _ _ z=>z.up (LC.drop W H i)
end
def c9(env:Env)(ns:yah):List (Str×Addr):=ns.filterMap fun n=>(env.cells.lookup n).map fun c=>(n,c)
theorem lO:∀{ns:yah} {x:Str} {c:Addr},(c9 env ns).lookup x=some c->env.cells.lookup x=some c
 |[],_,_,h=>by cases h
 |n::r,x,c,h=>by
  unfold c9 at h;rw[Wl]at h;cases e:env.cells.lookup n with
  |none =>
   rw[e]at h;exact lO (ns:=r) h
  |some c' =>
   rw[e]at h;have h':List.lookup x ((n,c')::c9 env r)=some c:=h;rw[RG]at h';cases q:x==n with
   |true =>
    rw[q]at h';have ex:x=n:=by simpa using q
    subst ex;rw[e];exact h'
   |false =>
    rw[q]at h';exact lO (ns:=r) h'
theorem pS{env:Env}:∀{ns:yah} {x:Str} {c:Addr},x∈ns->env.cells.lookup x=some c->(c9 env ns).lookup x=some c
 |[],_,_,h,_=>by cases h
 |n::r,x,c,h,e=>by
  unfold c9;rw[Wl];by_cases ex:x=n
  ·subst ex;rw[e];show List.lookup x ((x,c)::_)=some c;simp[RG]
  ·have h':x∈r:=by
    rcases Lp.mp h with z|z
    ·exact absurd z ex
    ·exact z
   have ih:=pS (ns:=r) h' e;cases q:env.cells.lookup n with
   |none=>exact ih
   |some c' =>
    show List.lookup x ((n,c')::c9 env r)=some c;rw[RG];have:(x==n)=false:=by simpa using ex
    rw[this];exact ih
structure RV(osc sc:Scope)(xs ns:yah):Prop where
 kind:sc.kind=.function
 RW:∀y∈sc.names,y.2 ≠ .cell
 names:∀y∈sc.names,y.2=.local->sc.names.lookup y.1=some .local
 tgt:∀x∈xs,sc.names.lookup x=some .local
 free:∀y∈sc.names,y.2=.free->y.1∈ns/\osc.names.lookup y.1=some .cell
 cells:∀n∈ns,sc.names.lookup n=some .free/\osc.names.lookup n=some .cell
 nd:(xs++ns).Nodup
def aN(X:Cx)(sc:Scope)(ns xs:yah)(C:Addr)(K6:Shared)(Lg:Hp)(fp:yae)(XE:yaa):Cx :=
 {X with N:=xs++ns,Lq:=K6,LX:=Lg,env:=compEnvC sc (c9 X.env ns) C X.env,outer:=X.stack,stack:=X.stack,ex:=fp,fn:=fun _=>false,pn:=[],xe:=XE}
theorem lg{env:Env}(hk:env.scope.kind=.function):∀{names:List (Str×NameKind)} {n:Str},names.lookup n=some .free->env.kindOf n=some .cell →
  (names.map fun(n,k)=>if(k==NameKind.free && env.scope.kind==.function && env.kindOf n==some .cell)then(n,NameKind.cell)else(n,k)).lookup n=some .cell
 |[],_,h,_=>by simp at h
 |(m,k)::r,n,h,hc=>by
  have ih:=@lg env hk r n;show List.lookup n ((if(k==NameKind.free && env.scope.kind==.function && env.kindOf m==some .cell)=true then(m,NameKind.cell)else(m,k))::_)=_;cases hx:n==m with
  |true =>
   simp only[RG,hx]at h;cases h;have e:n=m:=by simpa using hx
   subst e;rw[hk,hc];simp[RG]
  |false =>
   simp only[RG,hx]at h;by_cases OB:(k==NameKind.free && env.scope.kind==.function && env.kindOf m==some .cell)=true
   ·rw[K4 OB];simp only[RG,hx];exact ih h hc
   ·rw[K3 OB];simp only[RG,hx];exact ih h hc
theorem kE{env:Env}:∀{names:List (Str×NameKind)} {n:Str} {k:NameKind},
  (names.map fun(n,k)=>if(k==NameKind.free && env.scope.kind==.function && env.kindOf n==some .cell)then(n,NameKind.cell)else(n,k)).lookup n=some k->(k=.cell∨k=.free) →
  (∃y∈names,y.1=n/\y.2=.free)∨∃ y∈names,y.1=n/\y.2=.cell
 |[],_,_,h,_=>by simp at h
 |(m,j)::r,n,k,h,hk=>by
  have h':List.lookup n ((if(j==NameKind.free && env.scope.kind==.function && env.kindOf m==some .cell)=true then(m,NameKind.cell)else(m,j))::(r.map fun(n,k)=>if(k==NameKind.free && env.scope.kind==.function && env.kindOf n==some .cell)then(n,NameKind.cell)else(n,k)))=some k:=h;have up:((∃y∈r,y.1=n/\y.2=.free)∨∃ y∈r,y.1=n/\y.2=.cell)->((∃y∈(m,j)::r,y.1=n/\y.2=.free)∨∃ y∈(m,j)::r,y.1=n/\y.2=.cell):=fun z=>by
   rcases z with⟨y,hy,q⟩| ⟨y,hy,q⟩
   ·exact .inl ⟨y,L8 _ hy,q⟩
   ·exact .inr ⟨y,L8 _ hy,q⟩
  cases hx:n==m with
  |true =>
   have e:n=m:=by simpa using hx
   subst e;by_cases OB:(j==NameKind.free && env.scope.kind==.function && env.kindOf n==some .cell)=true
   ·have:j=.free:=by
     simp only[TU]at OB;exact beq_iff_eq.mp OB.1.1
    exact .inl ⟨(n,j),Ng,rfl,this⟩
   ·rw[K3 OB]at h';simp only[RG,hx]at h';cases h';rcases hk with hk|hk
    ·exact .inr ⟨(n,j),Ng,rfl,hk⟩
    ·exact .inl ⟨(n,j),Ng,rfl,hk⟩
  |false =>
   by_cases OB:(j==NameKind.free && env.scope.kind==.function && env.kindOf m==some .cell)=true
   ·rw[K4 OB]at h';simp only[RG,hx]at h';exact up (kE h' hk)
   ·rw[K3 OB]at h';simp only[RG,hx]at h';exact up (kE h' hk)
def bC(ρ:Ro)(j:Nat):Option Sl:=match ρ[j]? with
 |some (some (.val d))=>some (.val d)
 |_=>none
def kB(σ:St)(j:Nat):Option V:=match σ[j]? with
 |some (some v)=>some v
 |_=>none
section
variable{X:Cx}{pins:yab}{σ:St}{H:Hp}{s:Shared}{sc:Scope}{ns:yah}{js:yag}{xs:yah}{fp:yae}
def Inv.comp{Lh:Shared}{RX:Hp}{C:Addr}(I:Inv X pins σ H s)(S:RV X.env.scope sc xs ns)(hj:js.length=ns.length/\∀(i:Nat) (j:Nat) (n:Str),js[i]?=some j->ns[i]?=some n->X.N[j]?=some n)(Sw:∀b∈fp,fu X pins H b)(Xi:∀b∈fp,∃o,s.heap.get? b=some o)(hC:s.heap.objs.size<=C)
  (S4:Lh.os=s.os) (hg:AllBare Lh.gens) (hk:∀b o,s.heap.get? b=some o->Lh.heap.get? b=some o) (Oo:Lh.heap.Ns C fun _=>none) (RY:RX C=none) (hs:ar H RX) (Xj:∀b o,s.heap.get? b=some o->H b=none->RX b=none) (Lu:M9 X.prog X.w RX Lh.heap) :
  Inv (aN X sc ns xs C s H fp XE) [] (List.replicate xs.length none++js.map (kB σ)) RX Lh:=by
 have kd:X.env.scope.kind=.function:=I.ok.kind;have RJ:∀y c,(c9 X.env ns).lookup y=some c->X.env.cells.lookup y=some c:=fun y c e=>lO e
 have Xk:∀y c,(c9 X.env ns).lookup y=some c->∃v,s.heap.IsCell c v:=fun y c e=>I.cell y c (RJ y c e)
 refine⟨⟨I.ok.mod,S.kind,I.ok.glob,I.ok.blt,hC,fun y z c h1 h2=>I.ok.inj y z c (RJ y c h1) (RJ z c h2),fun y hy=>?_,fun y c h _=>(by cases h),I.ok.hd,I.ok.frames,.inl rfl,fun b hb=>?_,I.bs,NW I.ok.UK I.sz,fun b o e hb=>?_,fun b hb z=>?_,I.stack,I.Pn⟩,
  S4,hg,⟨fun b o e n _ _=>hk b o e,fun b o e n _ _=>⟨o.slots,hk b o e⟩,fun b o e n _=>Xj b o e n,fun b o e _=>⟨o,hk b o e⟩,fun b xs e=>hs b _ e,fun b o u e=>hs b _ e,fun b ps e=>hs.tb b ps e⟩,⟨_,Oo,fun i y v h1 h2 h3=>?_⟩,fun y c e=>?_,RY,fun y c e=>?_,fun p hp=>absurd (show p∈([]:yab)from hp) (by simp),Lu,?_⟩
 ·-- every cell of the block is one of the Zz
  have Qp:∃k,((relabel sc X.env).names.lookup y=some k)/\(k=.cell∨k=.free):=by
   rcases hy with hy|hy
   ·exact⟨_,hy,.inl rfl⟩
   ·exact⟨_,hy,.inr rfl⟩
  obtain⟨k,h1,h2⟩:=Qp;rcases kE (env:=X.env) h1 h2 with⟨z,hz,e1,e2⟩| ⟨z,hz,e1,e2⟩
  ·obtain⟨m1,m2⟩:=S.free z hz e2;subst e1;obtain⟨c,hc⟩:=I.ok.has z.1 (.inl m2);exact⟨c,pS m1 hc⟩
  ·exact absurd e2 (S.RW z hz)
 ·refine⟨fun z=>?_,fun y c e z=>?_⟩
  ·have z':b=C:=z;obtain⟨o,ho⟩:=Xi b hb;have MR:=LK ho;rw[z']at MR;exact absurd (M5 MR hC) (Ql _)
  ·exact(Sw b hb).2.2.2.2.1 y c (RJ y c e) z
 ·obtain⟨f0,f1,f2,f3,f4,f5⟩:=Sw b hb;rcases f3 with f3|f3
  ·exact I.ok.Q5 b o e f3
  ·exact absurd (M5 (LK (I.ok.bs b o e).1) f3) (Ql _)
 ·obtain⟨f0,f1,f2,f3,f4,f5⟩:=Sw b hb;rcases Lp.mp (I.OA b z)with e|e
  ·exact f1 e
  ·exact f2 e
 ·by_cases hi:i<xs.length
  ·rw[Qh (by simpa using hi),Wg,K4 hi]at h2;cases h2
  ·have LS:ns[i - xs.length]?=some y:=by
    have h1:(xs++ns)[i]?=some y:=h1;rw[QG (by lia)]at h1;exact h1
   have Oq:(js.map (kB σ))[i - xs.length]?=some (some v):=by rw[QG (by simpa using hi)]at h2;simpa using h2
   generalize i - xs.length=i at LS Oq;rw[LZ]at Oq;cases e:js[i]? with
   |none=>rw[e]at Oq;cases Oq
   |some j =>
    rw[e]at Oq;have h4:kB σ j=some v:=Ol Oq;have h5:σ[j]?=some (some v):=by
     unfold kB at h4;split at h4
     ·rename_i u q;cases h4;exact q
     ·cases h4
    have hN:=hj.2 i j y e LS;have mem:y∈ns:=Mz LS;obtain⟨c1,c2⟩:=S.cells y mem;obtain⟨m,hm,hl⟩:=I.loc;obtain⟨u,ru,lk⟩:=hl j y v hN h5 (.inr (.inl c2));refine⟨u,ru,?_⟩;rcases lk with⟨k1,_⟩| ⟨_,c,e1,o,ho,hd⟩
    ·have Pq:X.env.scope.names.lookup y=some .local:=k1;rw[c2]at Pq;cases Pq
    ·exact .inr ⟨.inl (lg kd c1 c2),c,pS mem e1,o,hk c o ho,hd⟩
 ·obtain⟨v,z⟩:=Xk y c e;obtain⟨o,ho,hd⟩:=z;exact⟨v,o,hk c o ho,hd⟩
 ·obtain⟨v,o,ho,hd⟩:=Xk y c e;exact Xj c o ho (I.Nr y c (RJ y c e))
 ·show(List.replicate xs.length none++js.map (kB σ)).length=(xs++ns).length;simp[hj.1]
def Tj(X:Cx)(ifs:yai)(t:DT):Prop :=
 ∀ (pins:yab) (s:Shared) (σ:St) (H:Hp) (W:Own) (ρ:Ro) (Q:Bool->Prop),Inv X pins σ H s->Rel X W H σ ρ->t ρ Q →
  wpAny (model X.prog X.w) X.A (forIn ifs true fun c r=>if r=true then do let ok←isTrue c X.env (eval c X.env);pure (ForInStep.yield ok)else pure (ForInStep.yield r)) (Zr X pins σ H Q) X.xe s
def pU:DT:=fun _ Q=>Q true
def bR{X:Cx}:Tj X [] pU:=fun _ s σ H W ρ Q I r h=>wpAny_tests_nil ⟨H,I,ar.refl H,h⟩
def Cr{X:Cx}(h:PL X c t):Tj X [c] t:=fun pins s σ H W ρ Q I r q=>wpAny_tests_one (h pins s σ H W ρ Q I r q)
def jI(n:Nat)(Og ρ:Ro):Prop:=∃r0:Ro,r0.length=n/\ρ=r0++Og
def A5 {s : Shared} {R : Result -> Shared -> Prop} {iter : Expr} {acc : Value} (I : Nat -> Shared -> Prop)
  (turn : ∀ n s, I n s -> wpAny (model prog w) A (pyNext it) (fun r Lh => match r with
   | none => R (.ok .next) Lh
   | some v => wpAny (model prog w) A (letOwnedTupleGo target it v) (fun _ ZA => wpAny (model prog w) A (assign target env v) (fun _ K6 =>
     wpAny (model prog w) A (forIn ifs true fun c r => if r = true then do let ok ← isTrue c env (eval c env); pure (ForInStep.yield ok) else pure (ForInStep.yield r)) (fun ok Ny => if ok = true then wpAny (model prog w) A (eval elt env) (fun x RZ =>
       wpAny (model prog w) A (call (.builtin "list.append") [acc, x]) (fun _ ZC => ∃ m, m < n /\ I m ZC) (notedBy (model prog w) A env fun e z => R (.error e) z) RZ) (notedBy (model prog w) A env fun e z => R (.error e) z) Ny
      else ∃ m, m < n /\ I m Ny) (notedBy (model prog w) A env fun e z => R (.error e) z) K6) (notedBy (model prog w) A env fun e z => R (.error e) z) ZA) (notedBy (model prog w) A env fun e z => R (.error e) z) Lh) (notedBy (model prog w) A env fun e z => R (.error e) z) s)
  (n : Nat) (h : I n s) : codeAny (model prog w) A (.compLoop (.ListComp elt [⟨target, iter, ifs, 0⟩] scope pos) 0 it acc env) R s := by
 refine codeAny_loop rfl I (fun m z hI => ?_) n h;show wpAny _ A ((compTurn (.ListComp elt [⟨target, iter, ifs, 0⟩] scope pos) 0 it acc env).onRaise (fun e => do noteFrame e env; theTreesLotGoes e)) _ _ z;refine wpAny_noted ?_;rw [compTurn_list];refine K1 (VN (K1 (OT (turn m z hI) (fun r z1 g1 => ?_) fun _ _ q => q)));cases r with
 | none => exact Le g1
 | some v =>
  refine K1 (OT g1 (fun _ z2 g2 => ?_) fun _ _ q => q);refine K1 (OT g2 (fun _ z3 g3 => K1 (OT g3 (fun ok z4 g4 => ?_) fun _ _ q => q)) fun _ _ q => q);cases ok with
  | false => exact Le ⟨rfl, g4⟩
  | true => exact K1 (K1 (OT g4 (fun y z5 g5 => K1 (OT g5 (fun _ z6 g6 => Le (Le ⟨rfl, g6⟩)) fun _ _ q => q)) fun _ _ q => q))
def Rel.ZD{X:Cx}{H:Hp}{σ:St}(r:Rel X W H σ ρ)(hB:W.B a)(ha:H a=some (.lst vs))(h0:X.LX a=none) :
  Rel X W (L2.upd H a (.lst vs')) σ ρ/\∀ds us,ag X.K W.bad H ds us->ag X.K W.bad (L2.upd H a (.lst vs')) ds us:=by
 have Qv:∀b ws,LO X.K H b ws->LO X.K (L2.upd H a (.lst vs')) b ws:=fun b ws q=>by show L2.upd _ _ _ _=_;rw[av (jj q ha (by intro z;cases z))];exact q
 have Qw:∀t b ws,¬W.bad t b->Na X.K H t b ws->¬W.bad t b/\Na X.K (L2.upd H a (.lst vs')) t b ws:=fun t b ws n q=>by
  have LV:b≠a:=fun e=>n (.inl (e ▸ hB))
  refine⟨n,?_,fun z=>⟨by rw[av LV];exact(q.2 z).1,(q.2 z).2⟩⟩;rcases q.1 with(q|⟨o,q⟩)|q
  ·exact .inl (.inl (by rw[av LV];exact q))
  ·exact .inl (.inr ⟨o,by rw[av LV];exact q⟩)
  ·exact .inr q
 have Qx:∀b u,RM u->H b=some u->L2.upd H a (.lst vs') b=some u:=fun b u n q=>by rw[av (jj q ha (by intro z;subst z;exact n))];exact q
 have tr:∀b o,H b=some o->∃o',L2.upd H a (.lst vs') b=some o':=fun b o q=>by
  by_cases RU:b=a
  ·subst RU;exact⟨_,aH⟩
  ·exact⟨o,by rw[av RU];exact q⟩
 refine⟨⟨fun j d h=>?_,fun j y h=>?_,r.inj,fun j b hb=>?_,r.ke,fun b hb=>let ⟨o,q⟩:=r.bt b hb;tr b o q,fun b hb=>let ⟨o,q⟩:=r.st b hb;tr b o q,r.ent.ins h0 ha True.intro True.intro,r.tab.upd True.intro (.inr ⟨_,ha,(fun _ z=>by cases z),True.intro⟩)⟩,ag.map Qv Qw Qx⟩
 ·obtain⟨v,h1,h2⟩:=r.val j d h;exact⟨v,h1,Den.map Qv Qw Qx d v h2⟩
 ·obtain⟨b,o,h1,h2,h3,h4⟩:=r.own j y h;exact⟨b,o,h1,h2,by rw[av (fun e=>(r.kn j b h1).2.1.1 (by rw[e];exact hB))];exact h3,h4.map (ag.map Qv Qw Qx) fun k c q=>⟨q,fun us z=>by rw[av (fun e=>(r.kn _ c q).2.1.1 (by rw[e];exact hB))];exact z⟩⟩
 ·obtain⟨k1,k2,o,k3,k4⟩:=r.kn j b hb;exact⟨k1,k2,o,by rw[av (fun e=>k2.1 (by rw[e];exact hB))];exact k3,k4⟩
def eV(X:Cx)(sc:Scope)(ns:yah)(RR:Value->Addr->Result->Shared->Prop)(D C:Addr):yaa:=notedBy (model X.prog X.w) X.A (compEnvC sc (c9 X.env ns) C X.env) fun e WG=>RR (.ref D) C (.error e) WG
def cY.no{X:Cx}:cY X fun _=>False:=fun _ _ _ _ _ _ _ _ _ _ h=>by obtain⟨_,_,_,_,_,_,_,_,_,_,_,_,_,z⟩:=h;exact z.elim
end
abbrev DM:=Ro->(LI->Prop)->Prop
def Ke(K:yac)(P:yak)(H H':Hp):LI->V->Prop
 |.own ds,v=>∃a vs,v=.ref a/\H a=none/\K.lookup a=none/\H' a=some (.lst vs)/\ag K (fun t b=>P t b∨b=a) H' ds vs
 |.val d,v=>Den K P H' d v
def YA(X:Cx)(e:Expr)(t:DM):Prop :=
 ∀ (pins:yab) (s:Shared) (σ:St) (H:Hp) (W:Own) (ρ:Ro) (Q:LI->Prop),Inv X pins σ H s->Rel X W H σ ρ->t ρ Q →
  wpAny (model X.prog X.w) X.A (eval e X.env) (fun u s'=>∃v H' li,Inv X pins σ H' s'/\RelV v u/\ar H H'/\Ke X.K W.bad H H' li v/\Q li) X.xe s
structure gT(K:yac)(H:Hp)(D:Addr)(n:Nat)(bs:yaj):Prop where
 ok:∀k b,bs k=some b->k<n/\H b=none/\K.lookup b=none/\b≠D
 inj:∀k l b,bs k=some b->bs l=some b->k=l
def gT.nil{K:yac}{H:Hp}{D:Addr}{n:Nat}:gT K H D n fun _=>none:=⟨fun _ _ h=>(by cases h),fun _ _ _ h=>(by cases h)⟩
def gT.up{K:yac}{H:Hp}{D:Addr}{n m:Nat}{bs:yaj}(h:gT K H D n bs)(l:n<=m):gT K H D m bs:=⟨fun k b q=>let ⟨a,r⟩:=h.ok k b q;⟨M5 a l,r⟩,h.inj⟩
def gT.put{K:yac}{H:Hp}{D a:Addr}{out:List LI}{x:LI}{bs:yaj}(h:gT K H D out.length bs)(n:H a=none)(k:K.lookup a=none)(nd:a≠D)(new:∀k,bs k=some a->False) :
  gT K H D (out++[x]).length fun k=>if k=out.length then some a else bs k:=⟨fun l b q=>by
  rw[MG,Sn];by_cases e:l=out.length
  ·rw[K4 e]at q;cases q;exact⟨by lia,n,k,nd⟩
  ·rw[K3 e]at q;obtain⟨a1,a2⟩:=h.ok l b q;exact⟨by lia,a2⟩,fun l m b q1 q2=>by
  by_cases e1:l=out.length
  ·by_cases e2:m=out.length
   ·rw[e1,e2]
   ·rw[K4 e1]at q1;rw[K3 e2]at q2;cases q1;exact(new m q2).elim
  ·by_cases e2:m=out.length
   ·rw[K3 e1]at q1;rw[K4 e2]at q2;cases q2;exact(new l q1).elim
   ·rw[K3 e1]at q1;rw[K3 e2]at q2;exact h.inj l m b q1 q2⟩
section
variable{K:yac}{P:yak}{H:Hp}{B:yaj}
theorem ay.OF(h1:Den K P H d v):∀{k:Nat} {xs:List LI} {vs:yaq},ay K P H B k xs vs->ay K P H B k (xs++[.val d]) (vs++[v])
 |k,[],_,h=>by simp only[ay]at h;subst h;simp only[Pg,ay];exact⟨v,[],rfl,h1,rfl⟩
 |k,.own ds::r,_,h=>by simp only[ay]at h;obtain⟨b,us,u,rfl,q1,q2,q3,q4⟩:=h;simp only[Od,ay];exact⟨b,us,_,rfl,q1,q2,q3,ay.OF h1 q4⟩
 |k,.val e::r,_,h=>by simp only[ay]at h;obtain⟨w,u,rfl,q1,q2⟩:=h;simp only[Od,ay];exact⟨w,_,rfl,q1,ay.OF h1 q2⟩
theorem ay.OG{a:Addr}:∀{k:Nat} {xs:List LI} {vs:yaq},ay K P H B k xs vs->B (k+xs.length)=some a->H a=some (.lst ws)->ag K P H ds ws->ay K P H B k (xs++[.own ds]) (vs++[.ref a])
 |k,[],_,h,hb,ha,hd=>by simp only[ay]at h;subst h;simp only[Pg,ay];exact⟨a,ws,[],rfl,by simpa using hb,ha,hd,rfl⟩
 |k,.own es::r,_,h,hb,ha,hd=>by simp only[ay]at h;obtain⟨b,us,u,rfl,q1,q2,q3,q4⟩:=h;simp only[Od,ay];exact⟨b,us,_,rfl,q1,q2,q3,ay.OG q4 (by rw[<- hb];congr 1;simp;lia) ha hd⟩
 |k,.val e::r,_,h,hb,ha,hd=>by simp only[ay]at h;obtain⟨w,u,rfl,q1,q2⟩:=h;simp only[Od,ay];exact⟨w,_,rfl,q1,ay.OG q2 (by rw[<- hb];congr 1;simp;lia) ha hd⟩
end
section
variable{X:Cx}
def Rel.ban{o:HO}(r:Rel X W H σ ρ)(sm:ar H H')(hp:H p=none)(hk:X.K.lookup p=none)(h':H' p=some o) :
  Rel X ⟨fun b=>W.B b∨b=p,W.O,W.S⟩ H' σ ρ/\∀ds vs,ag X.K W.bad H ds vs->ag X.K (Own.bad ⟨fun b=>W.B b∨b=p,W.O,W.S⟩) H' ds vs:=by
 have NY:∀t a,Own.bad ⟨fun b=>W.B b∨b=p,W.O,W.S⟩ t a->W.bad t a∨a=p:=fun t a z=>by
  rcases z with(z|z)|z|z
  ·exact .inl (.inl z)
  ·exact .inr z
  ·exact .inl (.inr (.inl z))
  ·exact .inl (.inr (.inr z))
 have nb:∀{t:Bool} {a:Addr} {ws:yaq},Na X.K H t a ws->a≠p:=fun {t a ws} q z=>by
  subst z;rcases q.1 with(q|⟨o,q⟩)|⟨o,K9,n,q,_⟩
  ·rw[hp]at q;cases q
  ·rw[hp]at q;cases q
  ·rw[hk]at q;cases q
 have up:∀(d:D) (v:V),Den X.K W.bad H d v->Den X.K (Own.bad ⟨fun b=>W.B b∨b=p,W.O,W.S⟩) H' d v:=Den.map (fun _ _ q=>LO.same sm q) (fun t a ws n q=>⟨fun z=>(NY t a z).elim n (nb q),q.same sm⟩) (fun a _ n q=>sm.kp a _ q n.nt);have ups:∀(ds:yar) (vs':yaq),ag X.K W.bad H ds vs'->ag X.K (Own.bad ⟨fun b=>W.B b∨b=p,W.O,W.S⟩) H' ds vs':=ag.map (fun _ _ q=>LO.same sm q) (fun t a ws n q=>⟨fun z=>(NY t a z).elim n (nb q),q.same sm⟩) (fun a _ n q=>sm.kp a _ q n.nt);refine⟨⟨fun j d h=>?_,fun j x h=>?_,r.inj,fun j a h1=>?_,r.ke,fun a h=>?_,fun a h=>let ⟨_,q⟩:=r.st a h;sm.ex q,r.ent.trans sm,r.tab.same sm⟩,ups⟩
 ·obtain⟨w,h1,h2⟩:=r.val j d h;exact⟨w,h1,up d w h2⟩
 ·obtain⟨a,ws,h1,h2,h3,h4⟩:=r.own j x h;exact⟨a,ws,h1,h2,sm.kp _ _ h3 h4.Q8.nt,h4.map ups fun l b q=>⟨q,fun _ z=>sm _ _ z⟩⟩
 ·obtain⟨a1,⟨n1,n2⟩,ws,a3,a4⟩:=r.kn j a h1;exact⟨a1,⟨fun z=>z.elim n1 fun e=>(by subst e;rw[hp]at a3;cases a3),n2⟩,ws,sm.kp _ _ a3 a4.nt,a4⟩
 ·rcases h with h|h
  ·obtain⟨_,q⟩:=r.bt a h;exact sm.ex q
  ·exact⟨o,h ▸ h'⟩
end
section
variable{X:Cx}{pins:yab}{σ:St}{H:Hp}{s:Shared}{sc:Scope}{ns:yah}{js:yag}{xs:yah}{fp:yae}
def pF {elt iter tg : Expr} {ifs : yai} {pos : Pos} {g : DG} {te : DM} {tc : DT} {W : Own} {ρ : Ro} {J : It} {it : Addr} {tn : Nat -> Heap -> Prop} {ds : yar} {E : yaa} {RR : Value -> Addr -> Result -> Shared -> Prop} (hc : X.calm = true) (S : RV X.env.scope sc xs ns)
  (hj : js.length = ns.length /\ ∀ (i : Nat) (j : Nat) (n : Str), js[i]? = some j -> ns[i]? = some n -> X.N[j]? = some n)
  {Ed : Value -> Prop} (he : ∀ (C : Addr) (K6 : Shared) (Lg : Hp) (fp : yae) (XE : yaa), cY (aN X sc ns xs C K6 Lg fp XE) Ed -> YA (aN X sc ns xs C K6 Lg fp XE) elt te) (ht : ∀ (C : Addr) (K6 : Shared) (Lg : Hp) (fp : yae) (XE : yaa), cY (aN X sc ns xs C K6 Lg fp XE) Ed -> Tj (aN X sc ns xs C K6 Lg fp XE) ifs tc)
  (hx : ∀ D C : Addr, cY (aN X sc ns xs C s H fp (eV X sc ns RR D C)) Ed) (I : Inv X pins σ H s) (r : Rel X W H σ ρ) (hg : ∀ (C : Addr) (K6 : Shared) (Lg : Hp) (fp : yae) (XE : yaa), Ua (aN X sc ns xs C K6 Lg fp XE) tg g) (T : Turn X.prog X.w X.K tg J fp it tn) (st : tn 0 s.heap) (Sw : ∀ b ∈ fp, fu X pins H b) (yd : YD X.K W H J ds) (hz : ds.length <= sizeLine)
  (Pv : Nat -> List LI -> Prop) (p0 : Pv 0 []) (step : ∀ j d out ρ1, ds[j]? = some d -> Pv j out -> jI xs.length (js.map (bC ρ)) ρ1 -> g d ρ1 fun ρ2 => jI xs.length (js.map (bC ρ)) ρ2 /\ tc ρ2 fun b => if b = true then te ρ2 (fun e => Pv (j + 1) (out ++ [e])) else Pv (j + 1) out)
  (ZE : ∀ (D C : Addr) (s' : Shared) (H' : Hp) (m' : yal) (out : List LI) (bs : yaj), Inv X pins σ H' s' -> ar H H' -> s'.heap.Ns C m' -> H' C = none -> C ≠ X.env.locals -> X.Lq.heap.objs.size <= C -> (∀ y c, X.env.cells.lookup y = some c -> c ≠ C) -> (∀ p ∈ X.pn ++ pins, p.1 ≠ C) →
   (H D = none /\ X.K.lookup D = none /\ ∃ vs, H' D = some (.lst vs) /\ gT X.K H D out.length bs /\ (∀ k b, bs k = some b -> ∃ us, H' b = some (.lst us)) /\ ay X.K (fun t b => W.bad t b ∨ b = D ∨ ∃ k, bs k = some b) H' bs 0 out vs) -> Pv ds.length out -> RR (.ref D) C (.ok .next) s') :
  wpAny (model X.prog X.w) X.A (newList []) (fun acc Ny => wpAny (model X.prog X.w) X.A (newFunctionEnv sc X.env.globals (c9 X.env ns) [] X.env.qual none .none (some X.env)) (fun R0 RZ =>
   codeAny (model X.prog X.w) X.A (.compStart (.ListComp elt [⟨tg, iter, ifs, 0⟩] sc pos) 0 (.ref it) acc { R0 with scope := relabel sc X.env }) (RR acc R0.locals) RZ) E Ny) E s := by
 refine Rk (wpAny_newFunctionEnv S.RW (by intro y hy; simp at hy) (fun NO Qz Pt => ?_) S.kind);dsimp only at Qz Pt ⊢;generalize Tn : s.heap.push { cls := .type "list", dict := none, data := .seq ([] : yad).toArray } = HP at Qz Pt ⊢;have hC : HP.objs.size = s.heap.objs.size + 1 := by rw [<- Tn, TX]
 have ZF : s.heap.objs.size ≠ HP.objs.size := by rw [hC]; exact Ms (Pf _)
 have QA : s.heap.objs.size <= HP.objs.size := by rw [hC]; exact Nat.le_succ _
 have below : ∀ b, b < s.heap.objs.size -> b ≠ HP.objs.size := fun b hb => by rw [hC]; exact Ms (SM hb)
 have old : ∀ b o, s.heap.get? b = some o -> NO.get? b = some o := fun b o e => Pt.extBut b o (below b (LK e)) (Mb _ (Tn ▸ Mb _ e))
 have To : NO.get? s.heap.objs.size = some { cls := .type "list", data := .seq ([] : yad).toArray } := Pt.extBut _ _ ZF (Mb _ (Tn ▸ Nw _ rfl));generalize eD : s.heap.objs.size = D at ZF To;generalize eC : HP.objs.size = C at *;have Ud : H D = none := by rw [<- eD]; exact I.Lu.fresh (LG _)
 have hKD : X.K.lookup D = none := by rw [<- eD]; exact Inv.MD I
 have hCf : H C = none := I.Lu.fresh QA;have Xi : ∀ b ∈ fp, ∃ o, s.heap.get? b = some o := fun b hb => let ⟨o, e, _⟩ := T.obj 0 s.heap st b hb; ⟨o, e⟩
 have ZG : s.heap.objs.size <= D := Nat.le_of_eq eD;have okk : M9 X.prog X.w (L2.upd H D (.lst [])) NO := I.Lu.laid old ZG ⟨MK _, [], 0, .nil, To⟩;have ZH : ∀ o, L2.upd H D o C = none := fun o => by rw [av (Ne.symm ZF)]; exact hCf
 have I1 : Inv (aN X sc ns xs C s H fp (eV X sc ns RR D C)) [] (List.replicate xs.length none ++ js.map (kB σ)) (L2.upd H D (.lst [])) { s with heap := NO, toks := s.toks + ([] : List (Str × Value)).length } :=
  Inv.comp I S hj Sw Xi QA rfl I.bare old Qz (ZH _) (ar.upd Ud) (fun b o e n => by rw [av (fun z => absurd (LK e) (by rw [z]; exact SX.mpr ZG))]; exact n) okk
 have nl : ∀ {a : Addr} {ws : yaq}, SqL X.K H a ws -> a ≠ D := fun {a ws} q z => by
  subst z;rcases q with (q | ⟨o, q⟩) | ⟨o, K9, n, q, _⟩
  ·rw [Ud] at q; cases q
  ·rw [Ud] at q; cases q
  ·rw [hKD] at q; cases q
 let W' : Own := ⟨fun a => W.bad false a ∨ a = D, fun _ => none, W.S⟩
 have NY : ∀ t a, W'.bad t a ↔ (W.bad t a ∨ a = D) := fun t a => ⟨fun z => by
  rcases z with (z | z) | ⟨_, q⟩ | ⟨z1, z2⟩
  ·exact .inl (Own.RO z)
  ·exact .inr z
  ·cases q
  ·exact .inl (.inr (.inr ⟨z1, z2⟩)), fun z => by
  rcases z with z | z
  ·rcases z with z | z | z
   ·exact .inl (.inl (.inl z))
   ·exact .inl (.inl (.inr (.inl z)))
   ·exact .inr (.inr z)
  ·exact .inl (.inr z)⟩
 have hT : ∀ {H' : Hp}, ar H H' -> ∀ a vs, LO X.K H a vs -> LO X.K H' a vs := fun sm a vs q => LO.same sm q
 have hL : ∀ {H' : Hp}, ar H H' -> ∀ t a vs, ¬ W.bad t a -> Na X.K H t a vs -> ¬ W'.bad t a /\ Na X.K H' t a vs := fun sm t a vs n q => ⟨fun z => ((NY t a).mp z).elim n (nl q.1), q.same sm⟩
 have ZI : Rel (aN X sc ns xs C s H fp (eV X sc ns RR D C)) W' (L2.upd H D (.lst [])) (List.replicate xs.length none ++ js.map (kB σ)) (List.replicate xs.length none ++ js.map (bC ρ)) := by
  have sm : ar H (L2.upd H D (.lst [])) := ar.upd Ud;have at_ : ∀ {i : Nat} {z : Sl}, (List.replicate xs.length none ++ js.map (bC ρ))[i]? = some (some z) -> ¬ i < xs.length /\ (js.map (bC ρ))[i - xs.length]? = some (some z) := fun {i z} h => by
   by_cases hi : i < xs.length
   ·rw [Qh (by simpa using hi), Wg, K4 hi] at h;cases h
   ·rw [QG (by simpa using hi)] at h;exact ⟨hi, by simpa using h⟩
  refine ⟨fun i d h => ?_, fun i x h => ?_, fun i j a h _ => (by cases h), fun i a h => (by cases h), fun i a h => (by cases h), fun a h => ?_, fun a h => ?_, sm, r.tab.same sm⟩
  ·obtain ⟨hi, h'⟩ := at_ h;rw [LZ] at h';cases e : js[i - xs.length]? with
   | none => rw [e] at h'; cases h'
   | some j =>
    rw [e] at h';have h4 : bC ρ j = some (.val d) := Ol h';have h5 : ρ[j]? = some (some (.val d)) := by
     unfold bC at h4;split at h4
     ·rename_i u q;cases h4;exact q
     ·cases h4
    obtain ⟨v, e1, e2⟩ := r.val j d h5;refine ⟨v, ?_, Den.map (hT sm) (hL sm) (fun a _ n q => sm.kp a _ q n.nt) d v e2⟩;rw [QG (by simpa using hi)];show (js.map (kB σ))[i - (List.replicate xs.length (none : Option V)).length]? = some (some v);rw [List.length_replicate, LZ, e];show some (kB σ j) = some (some v);unfold kB;rw [e1]
  ·obtain ⟨hi, h'⟩ := at_ h;rw [LZ] at h';cases e : js[i - xs.length]? with
   | none => rw [e] at h'; cases h'
   | some j =>
    rw [e] at h';have h4 : bC ρ j = some (.ob x) := Ol h';unfold bC at h4;split at h4 <;> cases h4
  ·rcases h with h | h
   ·obtain ⟨o, q⟩ := r.tracked false a h;exact sm.ex q
   ·rw [h]; exact ⟨_, aH⟩
  ·obtain ⟨o, q⟩ := r.st a h;exact sm.ex q
 have R3 : ∀ {H' : Hp}, (∀ b ∈ fp, H' b = none) -> ∀ b ∈ fp, fu (aN X sc ns xs C s H fp (eV X sc ns RR D C)) [] H' b := fun hn b hb => by
  obtain ⟨f0, f1, f2, f3, f4, f5⟩ := Sw b hb;obtain ⟨o, ho⟩ := Xi b hb;refine ⟨hn b hb, fun z => ?_, fun z => ?_, .inl hb, fun y c e z => f4 y c (lO e) z, fun p hp => absurd (show p ∈ ([] : yab) from hp) (by simp)⟩
  ·have z' : b = C := z;have MR := LK ho;rw [z'] at MR;exact absurd (M5 MR QA) (Ql _)
  ·rcases Lp.mp (I.OA b z) with e | e
   ·exact f1 e
   ·exact f2 e
 have Ru : ∀ b ∈ fp, (b ∈ X.ex ∨ X.Lq.heap.objs.size <= b) /\ b ≠ X.env.locals /\ (∀ x c, X.env.cells.lookup x = some c -> c ≠ b) /\ ∀ p ∈ X.pn ++ pins, p.1 ≠ b := fun b hb => by obtain ⟨f0, f1, f2, f3, f4, f5⟩ := Sw b hb;exact ⟨f3, f1, f4, f5⟩
 have BD0 : W'.B D := .inr rfl;have loop : ∀ Ny : Shared, Ny = { s with heap := NO, toks := s.toks + ([] : List (Str × Value)).length } →
   codeAny (model X.prog X.w) X.A (.compLoop (.ListComp elt [⟨tg, iter, ifs, 0⟩] sc pos) 0 (.ref it) (.ref D) (compEnvC sc (c9 X.env ns) C X.env)) (RR (.ref D) C) Ny := by
  rintro Ny rfl;refine A5 (fun n s' => ∃ (i : Nat) (W2 : Own) (VT : St) (ρ2 : Ro) (H' : Hp) (out : List LI) (vs : yaq) (bs : yaj), n = ds.length - i /\ i <= ds.length /\ Inv (aN X sc ns xs C s H fp (eV X sc ns RR D C)) [] VT H' s' /\ tn i s'.heap /\ (∀ b ∈ fp, H' b = none) ∧
   H' D = some (.lst vs) /\ (W2.B = (fun a => W'.B a ∨ ∃ k, bs k = some a) /\ W2.S = W'.S) /\ gT X.K H D out.length bs /\ (∀ k b, bs k = some b -> ∃ us, H' b = some (.lst us)) /\ ay X.K W2.bad H' bs 0 out vs /\ ar H H' /\ Rel (aN X sc ns xs C s H fp (eV X sc ns RR D C)) W2 H' VT ρ2 /\ jI xs.length (js.map (bC ρ)) ρ2 /\ Pv i out /\ out.length <= i) ?_ ds.length
   ⟨0, W', _, _, _, [], [], fun _ => none, by simp, MK _, I1, T.keep 0 s.heap NO st (fun b hb o e => old b o e), fun b hb => ?_, aH, ⟨by funext a; simp, rfl⟩, gT.nil, (fun _ _ h => by cases h), by simp only [ay], ar.upd Ud, ZI, ⟨_, by simp, rfl⟩, p0, LG _⟩
  rotate_left
  ·obtain ⟨o, ho⟩ := Xi b hb;rw [av (fun z => absurd (LK ho) (by rw [z]; exact SX.mpr ZG))];exact (Sw b hb).1
  rintro n s3 ⟨i, W2, VT, ρ2, H3, out, vs, bs, en, hle, I3, WY, WZ, hD3, Sx, U5, hls, Xl, Xm, rl3, ZJ, p3, ol⟩;have nb2 : ∀ {W3 : Own} {H' : Hp} {Rv : St} {Qr : Ro}, (W3.B = (fun a => W'.B a ∨ ∃ k, bs k = some a) /\ W3.S = W'.S) -> Rel (aN X sc ns xs C s H fp (eV X sc ns RR D C)) W3 H' Rv Qr -> ar H H' -> ∀ t a vs, ¬ W.bad t a -> Na X.K H t a vs -> ¬ W3.bad t a /\ Na X.K H' t a vs := fun {W3 H' Rv Qr} hw rl sm t a vs n q => by
   refine ⟨fun z => ?_, q.same sm⟩;rcases z with z | ⟨k, z⟩ | ⟨z1, z2⟩
   ·rw [hw.1] at z;rcases z with z | ⟨k, z⟩
    ·exact (hL sm t a vs n q).1 (.inl z)
    ·obtain ⟨_, h0, kk, _⟩ := U5.ok k a z;rcases q.1 with (q1 | ⟨o, q1⟩) | ⟨o, K9, m, q1, _⟩
     ·rw [h0] at q1; cases q1
     ·rw [h0] at q1; cases q1
     ·rw [kk] at q1; cases q1
   ·have h0 : H a = none := rl.ke k a z;rcases q.1 with (q1 | ⟨o, q1⟩) | ⟨o, K9, m, q1, _⟩
    ·rw [h0] at q1; cases q1
    ·rw [h0] at q1; cases q1
    ·have kk : X.K.lookup a = none := (rl.kn k a z).1;rw [kk] at q1; cases q1
   ·rw [hw.2] at z2;exact (hL sm t a vs n q).1 (.inr (.inr ⟨z1, z2⟩))
  obtain ⟨yg, yy, ys⟩ := yd W2.bad H3 (hT Xm) (nb2 Sx rl3 Xm) (fun a _ n q => Xm.kp a _ q n.nt) i;by_cases MR : i < ds.length
  ·refine Lj (T.item (aN X sc ns xs C s H fp (eV X sc ns RR D C)) rfl rfl rfl hc i [] s3 _ H3 _ I3 (R3 WZ) WY (yg MR)) fun rr s4 ⟨u, hr, h4⟩ => ?_
   subst hr;refine Lj h4 fun _ s5 ⟨x5, H5, I5, r5, y5, UZ, Zw⟩ => ?_
   obtain ⟨e5, d, hd, Nn⟩ := yy x5 H5 y5 MR;have Zx := I5.pinned (R3 Zw) (T.obj _ _ UZ);have Ub := rl3.same e5;have ZK : ar H H5 := Xm.trans e5;refine OT (hg C s H fp _ _ s5 VT H5 W2 ρ2 d x5 u _ Zx Ub r5 Nn (step i d out ρ2 hd p3 ZJ)) (fun _ s6 ⟨W6, W4, H6, W5, I6, f6, Xn, Xo, q6⟩ => ?_) (fun _ _ z => z);have Xp : W6.B = (fun a => W'.B a ∨ ∃ k, bs k = some a) /\ W6.S = W'.S := ⟨f6.B.trans Sx.1, f6.S.trans Sx.2⟩;have ZM : ar H H6 := ⟨fun b o e n => f6.kp b o (fun k z => by have h0 : H b = none := Ub.ke k b z; rw [e] at h0; cases h0) (ZK.kp b o e n) n, (fun b ps e => by obtain ⟨m1, e1⟩ := ZK.tb b ps e; obtain ⟨m2, e2⟩ := f6.tb b _ e1; exact ⟨m1 ++ m2, by rw [e2, Yn]⟩), fun h => f6.ok (ZK.ok h)⟩;have BD : W'.B D := .inr rfl;have ZN : H6 D = some (.lst vs) := f6.keep D _ (fun k z => (Ub.kn k D z).2.1.1 (by rw [Sx.1]; exact .inl BD)) (e5 _ _ hD3);have ZO : ay X.K W2.bad H5 bs 0 out vs := Xl.map (fun _ _ z => z.same e5) fun _ _ q => ⟨q, fun _ z => e5 _ _ z⟩
   have U6 : ∀ k b, bs k = some b -> ∃ us, H6 b = some (.lst us) := fun k b q => let ⟨us, z⟩ := hls k b q; ⟨us, f6.keep b _ (fun l y => (Ub.kn l b y).2.1.1 (by rw [Sx.1]; exact .inr ⟨k, q⟩)) (e5 _ _ z)⟩
   have Xq : ay X.K W6.bad H6 bs 0 out vs := ZO.map (fun _ _ z => ag.fwd Ub Xn f6 z) fun k b q => ⟨q, fun us z => f6.keep b _ (fun l y => (Ub.kn l b y).2.1.1 (by rw [Sx.1]; exact .inr ⟨k, q⟩)) z⟩
   have Ue : ∀ {U0 : St} {H7 : Hp} {s7 : Shared}, Inv (aN X sc ns xs C s H fp (eV X sc ns RR D C)) ([] ++ rE fp s5.heap) U0 H7 s7 -> tn (i + 1) s7.heap /\ ∀ b ∈ fp, H7 b = none := fun {U0 H7 s7} I7 => by refine ⟨T.keep _ _ _ UZ fun b hb o e => (I7.pin (b, o) (Oi _ (Oi _ (ji hb e)))).1, fun b hb => ?_⟩;obtain ⟨o, e, _⟩ := T.obj _ _ UZ b hb;exact (I7.pin (b, o) (Oi _ (Oi _ (ji hb e)))).2.1
   refine OT (ht C s H fp _ (hx D C) _ s6 _ H6 W6 _ _ I6 Xn q6) (fun b s7 ⟨H7, I7, e7, q7⟩ => ?_) (fun _ _ z => z);cases b with
   | false =>
    rw [K3 OY] at q7;rw [K3 OY];obtain ⟨t7, f7⟩ := Ue I7;exact ⟨ds.length - (i + 1), by lia, i + 1, W6, W4, W5, H7, out, vs, bs, rfl, MR, I7.Nb, t7, f7, e7 _ _ ZN, Xp, U5, (fun k b q => let ⟨us, z⟩ := U6 k b q; ⟨us, e7 _ _ z⟩), Xq.map (fun _ _ z => z.same e7) (fun _ _ q => ⟨q, fun _ z => e7 _ _ z⟩), ZM.trans e7, Xn.same e7, Xo, q7, by lia⟩
   | true =>
    rw [K4 rfl] at q7;rw [K4 rfl];refine OT (he C s H fp _ (hx D C) _ s7 _ H7 W6 _ _ I7 (Xn.same e7) q7) (fun u8 s8 ⟨v8, H8, e8, I8, r8, VX, hd8, q8⟩ => ?_) (fun _ _ z => z);have Tp := e7.trans VX;have ZP := Tp _ _ ZN;have ZQ := Xn.same e7;have U7 : ay X.K W6.bad H7 bs 0 out vs := Xq.map (fun _ _ z => z.same e7) fun _ _ q => ⟨q, fun _ z => e7 _ _ z⟩
    have smH : ar H H8 := ZM.trans Tp;obtain ⟨W8, VY, hW8, U8, ZR, rl8, ZS, Xr⟩ : ∃ (W8 : Own) (VY : yaj), (W8.B = (fun a => W'.B a ∨ ∃ k, VY k = some a) /\ W8.S = W'.S) /\ gT X.K H D (out ++ [e8]).length VY /\ (∀ k b, VY k = some b -> ∃ us, H8 b = some (.lst us)) /\ Rel (aN X sc ns xs C s H fp (eV X sc ns RR D C)) W8 H8 W4 W5 /\ ay X.K W8.bad H8 VY 0 (out ++ [e8]) (vs ++ [v8]) /\ vs.length = out.length := by
     have ln := U7.len;cases e8 with
     | val d =>
      refine ⟨W6, bs, Xp, U5.up (by simp), (fun k b q => let ⟨us, z⟩ := U6 k b q; ⟨us, Tp _ _ z⟩), ZQ.same VX, ?_, ln⟩;exact (U7.map (fun _ _ z => z.same VX) fun _ _ q => ⟨q, fun _ z => VX _ _ z⟩).OF hd8
     | own P5 =>
      obtain ⟨a, ws, rfl, na, ka, ha, Qy⟩ := hd8;obtain ⟨rb, db⟩ := ZQ.ban VX na ka ha;have nH : H a = none := (ZM.trans e7).free na;have nD : a ≠ D := fun z => by rw [z, e7 _ _ ZN] at na; cases na
      refine ⟨⟨fun b => W6.B b ∨ b = a, W6.O, W6.S⟩, fun k => if k = out.length then some a else bs k, ⟨?_, Xp.2⟩, U5.put nH ka nD (fun k z => ?_), (fun k b q => ?_), rb, ?_, ln⟩
      ·funext b
       show (W6.B b ∨ b = a) = _;rw [Xp.1];refine propext ⟨fun z => ?_, fun z => ?_⟩
       ·rcases z with (z | ⟨k, z⟩) | z
        ·exact .inl z
        ·exact .inr ⟨k, by show (if k = out.length then some a else bs k) = some b; rw [K3 (Ms (U5.ok k b z).1)]; exact z⟩
        ·exact .inr ⟨out.length, by show (if out.length = out.length then some a else bs out.length) = some b; rw [K4 rfl, z]⟩
       ·rcases z with z | ⟨k, z⟩
        ·exact .inl (.inl z)
        ·have z : (if k = out.length then some a else bs k) = some b := z;by_cases ek : k = out.length
         ·rw [K4 ek] at z; cases z; exact .inr rfl
         ·rw [K3 ek] at z; exact .inl (.inr ⟨k, z⟩)
      ·obtain ⟨o, hu⟩ := ZQ.bt a (by rw [Xp.1]; exact .inr ⟨k, z⟩);rw [hu] at na; cases na
      ·have q : (if k = out.length then some a else bs k) = some b := q;by_cases ek : k = out.length
       ·rw [K4 ek] at q; cases q; exact ⟨_, ha⟩
       ·rw [K3 ek] at q;obtain ⟨us, z⟩ := U6 k b q;exact ⟨us, Tp _ _ z⟩
      ·refine ay.OG (U7.map (B' := fun k => if k = out.length then some a else bs k) (fun ds vs z => db ds vs z) fun k b q => ⟨by show (if k = out.length then some a else bs k) = some b; rw [K3 (Ms (U5.ok k b q).1)]; exact q, fun _ z => VX _ _ z⟩) (by simp) ha (Qy.Lo fun t b z => ?_);rcases z with (z | z) | z | z
       ·exact .inl (.inl z)
       ·exact .inr z
       ·exact .inl (.inr (.inl z))
       ·exact .inl (.inr (.inr z))
    have BD8 : W8.B D := by rw [hW8.1]; exact .inl BD
    refine OT (nB (X := aN X sc ns xs C s H fp (eV X sc ns RR D C)) _ s8 _ H8 (.ref D) [v8] (.ref D) [u8] (fun _ H' => H' = L2.upd H8 D (.lst (vs ++ [v8]))) I8 rfl (.cons r8 .nil) ⟨D, vs, v8, rfl, rfl, ZP, by rw [Xr]; lia, rfl⟩) (fun _ s9 ⟨v9, H9, I9, _, eH⟩ => ?_) (fun _ _ z => z);subst eH;obtain ⟨t9, f9⟩ := Ue I9;obtain ⟨rl9, dn9⟩ := rl8.ZD (vs' := vs ++ [v8]) BD8 ZP Ud;exact ⟨ds.length - (i + 1), by lia, i + 1, W8, W4, W5, _, out ++ [e8], vs ++ [v8], VY, rfl, MR, I9.Nb, t9, f9, aH, hW8, U8, (fun k b q => let ⟨us, z⟩ := ZR k b q; ⟨us, by rw [av (U8.ok k b q).2.2.2]; exact z⟩), ZS.map dn9 (fun k b q => ⟨q, fun us z => by rw [av (U8.ok k b q).2.2.2]; exact z⟩), smH.ins Ud ZP True.intro True.intro, rl9, Xo, q8, by rw [MG, Sn]; lia⟩
  ·have e : i = ds.length := by lia
   refine Lj (T.done (aN X sc ns xs C s H fp (eV X sc ns RR D C)) rfl rfl rfl hc i [] s3 _ H3 _ I3 (R3 WZ) WY (ys (by lia))) fun rr s4 ⟨hr, I4⟩ => ?_
   subst hr;subst e;have Io : Inv X pins σ H3 s4 := I.RK I4.os I4.base I4.Lu I4.bare Ru;obtain ⟨m, hm, _⟩ := I4.loc;exact ZE D C s4 H3 m out bs Io Xm hm I4.free (fun z => absurd I.lt (by rw [<- z]; exact SX.mpr QA)) (NW I.sz QA) (fun y c e z => by
    obtain ⟨v, q⟩ := I.cell y c e;exact absurd q.lt (by rw [z]; exact SX.mpr QA)) (fun p hp z => absurd (LK (I.pin p hp).1) (by rw [z]; exact SX.mpr QA))
    ⟨Ud, hKD, _, hD3, U5, hls, Xl.map (fun _ _ z => z.Lo fun t a z => (by
     rcases z with z | z
     ·rcases (NY t a).mpr (.inl z) with q | ⟨k, q⟩ | q
      ·exact .inl (by rw [Sx.1]; exact .inl q)
      ·cases q
      ·exact .inr (.inr ⟨q.1, by rw [Sx.2]; exact q.2⟩)
     ·rcases z with z | z
      ·exact .inl (by rw [Sx.1]; exact .inl (z ▸ BD0))
      ·exact .inl (by rw [Sx.1]; exact .inr z))) fun _ _ q => ⟨q, fun _ z => z⟩⟩ p3
 exact codeAny_compStart_list (loop _ rfl) (T.self _ 0 _ _ _ (T.keep 0 s.heap NO st (fun b hb o e => old b o e)) (loop _ rfl))
end
theorem ay.vals{K:yac}{P:yak}{H:Hp}{B:yaj}:∀{ds:yar} {k:Nat} {vs:yaq},ay K P H B k (ds.map .val) vs->ag K P H ds vs
 |[],_,_,h=>by simp only[Q4,ay]at h;subst h;exact ag.nil
 |d::r,_,_,h=>by simp only[LD,ay]at h;obtain⟨v,u,rfl,h1,h2⟩:=h;exact ag.cons h1 h2.vals
def HS(h:Lx X e te):YA X e fun ρ Q=>te ρ fun d=>Q (.val d):=fun pins s σ H W ρ Q I r t=>OT (h pins s σ H W ρ _ I r t) (fun _ _ ⟨v,H',d,a,b,c,q,z⟩=>⟨v,H',.val d,a,b,c,q,z⟩) fun _ _ z=>z
section
variable{X:Cx}{pins:yab}{σ:St}{H:Hp}{s:Shared}{sc:Scope}{ns:yah}{js:yag}{xs:yah}{fp:yae}
def jd {elt iter tg : Expr} {ifs : yai} {pos : Pos} {g : DG} {te : DE} {tc : DT} {W : Own} {ρ : Ro} {J : It} {it : Addr} {tn : Nat -> Heap -> Prop} {ds : yar} {E : yaa} {RR : Value -> Addr -> Result -> Shared -> Prop} (hc : X.calm = true) (S : RV X.env.scope sc xs ns)
  (hj : js.length = ns.length /\ ∀ (i : Nat) (j : Nat) (n : Str), js[i]? = some j -> ns[i]? = some n -> X.N[j]? = some n)
  {Ed : Value -> Prop} (he : ∀ (C : Addr) (K6 : Shared) (Lg : Hp) (fp : yae) (XE : yaa), cY (aN X sc ns xs C K6 Lg fp XE) Ed -> Lx (aN X sc ns xs C K6 Lg fp XE) elt te) (ht : ∀ (C : Addr) (K6 : Shared) (Lg : Hp) (fp : yae) (XE : yaa), cY (aN X sc ns xs C K6 Lg fp XE) Ed -> Tj (aN X sc ns xs C K6 Lg fp XE) ifs tc)
  (hx : ∀ D C : Addr, cY (aN X sc ns xs C s H fp (eV X sc ns RR D C)) Ed) (I : Inv X pins σ H s) (r : Rel X W H σ ρ) (hg : ∀ (C : Addr) (K6 : Shared) (Lg : Hp) (fp : yae) (XE : yaa), Ua (aN X sc ns xs C K6 Lg fp XE) tg g) (T : Turn X.prog X.w X.K tg J fp it tn) (st : tn 0 s.heap) (Sw : ∀ b ∈ fp, fu X pins H b) (yd : YD X.K W H J ds) (hz : ds.length <= sizeLine)
  (Pv : Nat -> yar -> Prop) (p0 : Pv 0 []) (step : ∀ j d out ρ1, ds[j]? = some d -> Pv j out -> jI xs.length (js.map (bC ρ)) ρ1 -> g d ρ1 fun ρ2 => jI xs.length (js.map (bC ρ)) ρ2 /\ tc ρ2 fun b => if b = true then te ρ2 (fun e => Pv (j + 1) (out ++ [e])) else Pv (j + 1) out)
  (ZE : ∀ (D C : Addr) (s' : Shared) (H' : Hp) (m' : yal) (out : List PD.D), Inv X pins σ H' s' -> ar H H' -> s'.heap.Ns C m' -> H' C = none -> C ≠ X.env.locals -> X.Lq.heap.objs.size <= C -> (∀ y c, X.env.cells.lookup y = some c -> c ≠ C) -> (∀ p ∈ X.pn ++ pins, p.1 ≠ C) →
   (H D = none /\ X.K.lookup D = none /\ ∃ vs, H' D = some (.lst vs) /\ ag X.K (fun t b => W.bad t b ∨ b = D) H' out vs) -> Pv ds.length out -> RR (.ref D) C (.ok .next) s') :
  wpAny (model X.prog X.w) X.A (newList []) (fun acc Ny => wpAny (model X.prog X.w) X.A (newFunctionEnv sc X.env.globals (c9 X.env ns) [] X.env.qual none .none (some X.env)) (fun R0 RZ =>
   codeAny (model X.prog X.w) X.A (.compStart (.ListComp elt [⟨tg, iter, ifs, 0⟩] sc pos) 0 (.ref it) acc { R0 with scope := relabel sc X.env }) (RR acc R0.locals) RZ) E Ny) E s := by
 have e : ∀ k l, (∃ q, l.map LI.val = q.map LI.val /\ Pv k q) = Pv k l := fun k l => propext ⟨fun ⟨q, a, b⟩ => (List.map_inj_right (fun _ _ => LI.val.inj)).mp a ▸ b, fun b => ⟨l, rfl, b⟩⟩
 refine pF (te := fun ρ Q => te ρ fun d => Q (.val d)) hc S hj (fun C K6 Lg fp XE p => HS (he C K6 Lg fp XE p)) ht hx I r hg T st Sw yd hz (fun k o => ∃ q, o = q.map LI.val /\ Pv k q) ⟨[], rfl, p0⟩ ?_ ?_
 ·rintro j d _ ρ1 hd ⟨q, rfl, hp⟩ cr;have e2 : ∀ x, q.map LI.val ++ [LI.val x] = (q ++ [x]).map LI.val := fun x => by rw [M6]; rfl
  simp only [e2, e];exact step j d q ρ1 hd hp cr
 ·rintro D C s' H' m' _ bs I' sm a1 a2 a3 a4 a5 a6 ⟨h1, h2, vs, h3, _, _, h4⟩ ⟨q, rfl, hp⟩;exact ZE D C s' H' m' q I' sm a1 a2 a3 a4 a5 a6 ⟨h1, h2, vs, h3, h4.vals.Lo fun t b z => z.elim .inl fun z => .inr (.inl z)⟩ hp
def p5{X:Cx}{sc:Scope}{ns:yah}{x:Str}{fp:yae}(S:RV X.env.scope sc [x] ns):Ua (aN X sc ns [x] C K6 Lg fp XE) (.Name x px) (kW 0) :=
 have tl:(compEnvC sc (c9 X.env ns) C X.env).scope.names.lookup x=some .local:=lookup_relabel_local (S.tgt x (by simp))
 aP (X:=aN X sc ns [x] C K6 Lg fp XE) 0 S.nd rfl (.inl tl) (.inr tl)
def EY{ds:yar}{Pv:Nat->yar->Prop}{tc:DT}{te:DE}{Og:Ro}(step:∀j d out,ds[j]?=some d->Pv j out->tc (some (.val d)::Og) fun b=>if b=true then te (some (.val d)::Og) (fun e=>Pv (j+1) (out++[e]))else Pv (j+1) out) :
  ∀ j d out ρ1,ds[j]?=some d->Pv j out->jI 1 Og ρ1->kW 0 d ρ1 fun ρ2=>jI 1 Og ρ2/\tc ρ2 fun b=>if b=true then te ρ2 (fun e=>Pv (j+1) (out++[e]))else Pv (j+1) out:=by
 rintro j d out ρ1 hd hp ⟨r0,hl,rfl⟩
 match r0,hl with
 |[a],_=>exact⟨⟨[some (.val d)],rfl,rfl⟩,step j d out hd hp⟩
def oA(wi:DA)(js:yag)(tc:DT)(te:DE):DE:=fun ρ Q=>wi ρ fun ds=>ds.length<=sizeLine/\∃Pv:Nat->yar->Prop,Pv 0 [] ∧
 (∀j d out,ds[j]?=some d->Pv j out->tc (some (.val d)::js.map (bC ρ)) fun b=>if b=true then te (some (.val d)::js.map (bC ρ)) (fun e=>Pv (j+1) (out++[e]))else Pv (j+1) out)/\∀out,Pv ds.length out->Q (.lst true out)
def bf(N:yah)(ns:yah)(js:yag):Prop:=js.length=ns.length/\∀(i:Nat) (j:Nat) (n:Str),js[i]?=some j->ns[i]?=some n->N[j]?=some n
def bf.nil:bf N [] []:=⟨rfl,fun i j n h=>by simp at h⟩
def bf.cons{ns:yah}{js:yag}{n:Str}(j:Nat)(h:bf N ns js)(e:N[j]?=some n:=by rfl):bf N (n::ns) (j::js):=⟨by simp[h.1],fun i j' m h1 h2=>by
 cases i with
 |zero=>simp at h1 h2;subst h1 h2;exact e
 |succ i=>exact h.2 i j' m (by simpa using h1) (by simpa using h2)⟩
variable{elt iter:Expr}{ifs:yai}{px pos:Pos}{te:DE}{tc:DT}{wi:DA}{x:Str}
def cw(hc:X.calm=true)(S:RV X.env.scope sc [x] ns)(hj:bf X.N ns js)(hi:PY X (.Name x px) iter wi)(ht:∀(C:Addr) (K6:Shared) (Lg:Hp) (fp:yae) (XE:yaa),Tj (aN X sc ns [x] C K6 Lg fp XE) ifs tc)
  (he:∀(C:Addr) (K6:Shared) (Lg:Hp) (fp:yae) (XE:yaa),Lx (aN X sc ns [x] C K6 Lg fp XE) elt te) (NP:closureFor sc X.env=pure (c9 X.env ns):=by rfl) (hs:∀x,foldedSetIterable iter X.env x=pure x:=by intro _;rfl) :
  Lx X (.ListComp elt [⟨.Name x px,iter,ifs,0⟩] sc pos) (oA wi js tc te):=by
 intro pins s σ H W ρ Q I r h;rw[eval_ListComp];refine Wf (use:=none) rfl hs NP S.kind S.names (Lj (hi pins s σ H W ρ _ I r h) fun v s1 h1=>Lj h1 fun QN s2 h2=>?_);obtain⟨it,fp,tn,J,H2,ds,e,I2,e2,T,P4,f2,yd,hz,Pv,p0,step,fin⟩:=h2;subst e;refine jd (RR:=fun acc C=>compPost (model X.prog X.w) X.A X.xe none (DP X pins σ W H Q) acc C) hc S hj (Ed:=fun _=>False) (fun C K6 Lg fp XE _=>he C K6 Lg fp XE) (fun C K6 Lg fp XE _=>ht C K6 Lg fp XE) (fun _ _=>cY.no) I2 (r.same e2) (fun C K6 Lg fp XE=>p5 S) T P4 f2 yd hz Pv p0 (EY step) ?_;intro D C s' H' m' out I' sm Oo RY Rw Tq Rx Ts ⟨hn,hk,vs,hD,LQ⟩ pv;have Nn:Den X.K W.bad H' (.lst true out) (.ref D):=Den.lst ((r.same e2).fresh hn) (.new hD hk) (LQ.Lo fun _ _ z=>.inl z);refine⟨m',Oo,fun h' Tt=>?_⟩;exact⟨.ref D,H',_,I'.turned (t':=s'.toks) (fun b o hb e=>(Tt.2 b hb).trans e) RY Rw (.inr Tq) Rx Ts,rfl,e2.trans sm,Nn,fin out pv⟩
def gA{y:Str}{P6:Pos}(i:Nat)(hN:X.N.Nodup)(hc:X.calm=true)(S:RV X.env.scope sc [x] ns)(hj:bf X.N ns js)(hi:PY X (.Name x px) iter wi)(ht:∀(C:Addr) (K6:Shared) (Lg:Hp) (fp:yae) (XE:yaa),Tj (aN X sc ns [x] C K6 Lg fp XE) ifs tc)
  (he:∀(C:Addr) (K6:Shared) (Lg:Hp) (fp:yae) (XE:yaa),Lx (aN X sc ns [x] C K6 Lg fp XE) elt te) (hy:X.N[i]?=some y:=by rfl) (Ug:X.env.scope.names.lookup y=some .local:=by rfl) (NP:closureFor sc X.env=pure (c9 X.env ns):=by rfl) (hs:∀x,foldedSetIterable iter X.env x=pure x:=by intro _;rfl)
  (Xs:swapsWith (.ListComp elt [⟨.Name x px,iter,ifs,0⟩] sc pos) (some (.Name y py)) P6.line X.env=pure true:=by rfl) :
  NA X (.Assign [.Name y py] (.ListComp elt [⟨.Name x px,iter,ifs,0⟩] sc pos) P6) (zP i (oA wi js tc te)):=by
 intro pins s σ H W ρ E I r h;rw[exec_Assign_Name_used _ _ _ _ Xs];refine K1 (VN (K1 ?_));show wpAny _ X.A (do let _←comprehension (.ListComp elt [⟨.Name x px,iter,ifs,0⟩] sc pos) sc X.env _ (newList []) false (eval iter X.env) (some (assign (.Name y py) X.env))) _ _ s;refine K1 (OT (Wf (use:=some (assign (.Name y py) X.env)) (Q:=fun _ s'=>QR X pins W H E .next s') rfl hs NP S.kind S.names
  (Lj (hi pins s σ H W ρ _ I r h) fun v s1 h1=>Lj h1 fun QN s2 h2=>?_)) (fun _ s' hq=>Le (Le hq)) fun _ _ e=>e)
 obtain⟨it,fp,tn,J,H2,ds,e,I2,e2,T,P4,f2,yd,hz,Pv,p0,step,fin⟩:=h2;subst e;refine jd (RR:=fun acc C=>compPost (model X.prog X.w) X.A X.xe (some (assign (.Name y py) X.env)) (fun _ s'=>QR X pins W H E .next s') acc C) hc S hj (Ed:=fun _=>False) (fun C K6 Lg fp XE _=>he C K6 Lg fp XE) (fun C K6 Lg fp XE _=>ht C K6 Lg fp XE) (fun _ _=>cY.no) I2 (r.same e2) (fun C K6 Lg fp XE=>p5 S) T P4 f2 yd hz Pv p0 (EY step) ?_;intro D C s' H' m' out I' sm Oo RY Rw Tq Rx Ts ⟨hn,hk,vs,hD,LQ⟩ pv;have Nn:Den X.K W.bad H' (.lst true out) (.ref D):=Den.lst ((r.same e2).fresh hn) (.new hD hk) (LQ.Lo fun _ _ z=>.inl z);have rr:=(r.same e2).same sm;show wpAny _ X.A (assign (.Name y py) X.env (.ref D)) _ _ _;refine wpAny_assign_Name (ki (v:=.ref D) I' hN hy (.inl Ug) rfl (fun s3 I3 ⟨a,Tt,ha⟩=>?_) (.inr Ug));have LV:C≠a:=by
  rcases ha with z|z
  ·rw[z];exact Rw
  ·exact fun q=>Rx y a z q.symm
 refine⟨m',Oo.sameBut Tt LV,fun h' R4=>?_⟩;refine⟨W.drop i,_,H',I3.turned (t':=s3.toks) (fun b o hb e=>(R4.2 b hb).trans e) RY Rw (.inr Tq) Rx Ts,(LC.same (e2.trans sm)).trans (LC.drop W H' i),_,rr.put (Inv.RQ I' hy) Nn,fin out pv⟩
end
def Hk(osc sc:Scope)(xs ns:yah):Bool :=
 decide (sc.kind=.function) && (sc.names.all fun y=>decide (y.2 ≠ .cell)) && (sc.names.all fun y=>decide (y.2=.local->sc.names.lookup y.1=some .local)) && (xs.all fun x=>decide (sc.names.lookup x=some .local)) &&
 (sc.names.all fun y=>decide (y.2=.free->y.1∈ns/\osc.names.lookup y.1=some .cell)) && (ns.all fun n=>decide (sc.names.lookup n=some .free/\osc.names.lookup n=some .cell)) && decide (xs++ns).Nodup
def bA(h:Hk osc sc xs ns=true):RV osc sc xs ns:=by unfold Hk at h;simp only[TU]at h;obtain⟨⟨⟨⟨⟨⟨h1,h2⟩,h3⟩,h4⟩,h5⟩,h6⟩,h7⟩:=h;exact⟨TR h1,fun y hy=>TR (Wq.mp h2 y hy),fun y hy=>TR (Wq.mp h3 y hy),fun x hx=>TR (Wq.mp h4 x hx),fun y hy=>TR (Wq.mp h5 y hy),fun n hn=>TR (Wq.mp h6 n hn),TR h7⟩
inductive Rc:yai->yah->Prop where
 |nil:Rc [] []
 |cons {x:Str} {p:Pos} {es:yai} {xs:yah} (h:Rc es xs):Rc (.Name x p::es) (x::xs)
def nu:Nat->Nat->RS
 |_,0=>jg
 |i,n+1=>bM (kW i) (nu (i+1) n)
theorem qX:∀(ys:yar) (pre r0 Og:Ro) (Q:Ro->Prop),r0.length=ys.length->Q (pre++ys.map (fun d=>some (Sl.val d))++Og)->nu pre.length ys.length ys (pre++r0++Og) Q
 |[],pre,r0,Og,Q,hl,h=>by have:r0=[]:=Vp hl;subst this;exact⟨rfl,h⟩
 |d::r,pre,r0,Og,Q,hl,h=>by
  match r0,hl with
  |a::q,hl =>
   refine⟨d,r,rfl,?_⟩;show nu (pre.length+1) r.length r ((pre++a::q++Og).set pre.length (some (.val d))) Q;have e:(pre++a::q++Og).set pre.length (some (Sl.val d))=(pre++[some (Sl.val d)])++q++Og:=by rw[QH,List.set_append_right _ _ (LG _),VO];simp
   have e2:pre.length+1=(pre++[some (Sl.val d)]).length:=by simp
   rw[e,e2];refine qX r _ q Og Q (by simpa using hl) ?_;simpa using h
section
variable{X:Cx}{sc:Scope}{ns xs:yah}{js:yag}
theorem Rc.len:∀{es:yai} {ys:yah},Rc es ys->(assignEach es env).length=ys.length/\(assignEach es env).findIdx? (·.1)=none
 |_,_,.nil=>⟨rfl,rfl⟩
 |_,_,.cons (x:=x) (p:=p) (es:=es) h=>by obtain⟨h1,h2⟩:=Rc.len (env:=env) h;have e:assignEach (.Name x p::es) env=(false,assign (.Name x p) env)::assignEach es env:=rfl;rw[e];refine⟨by rw[Oj,h1];rfl,?_⟩;rw[List.findIdx?_cons,h2];rfl
theorem lT(S:RV X.env.scope sc xs ns):∀{es:yai} {ys:yah} (i:Nat),Rc es ys->(∀k y,ys[k]?=some y->xs[i+k]?=some y)->sj (aN X sc ns xs C K6 Lg fp XE) es (nu i ys.length)
 |_,_,_,.nil,_=>jE
 |_,_,i,.cons (x:=x) (xs:=ys) h,hk=>by
  have hx:xs[i]?=some x:=hk 0 x rfl;have tl:(compEnvC sc (c9 X.env ns) C X.env).scope.names.lookup x=some .local:=lookup_relabel_local (S.tgt x (Mz hx));have hN:(xs++ns)[i]?=some x:=by rw[Qh (L6.mp hx).1];exact hx
  exact cH (aP (X:=aN X sc ns xs C K6 Lg fp XE) i S.nd hN (.inl tl) (.inr tl)) (lT S (i+1) h fun k y e=>by have:=hk (k+1) y e;rw[show i+(k+1)=i+1+k by lia]at this;exact this)
variable{elt iter:Expr}{ifs es:yai}{kt:Nat}{tp pos:Pos}{te:DE}{tc:DT}{wi:DA}
def jA(ys:yar):Ro:=ys.map fun d=>some (Sl.val d)
def vF(n:Nat)(wi:DA)(js:yag)(tc:DT)(te:DE):DE:=fun ρ Q=>wi ρ fun ds=>ds.length<=sizeLine/\∃Pv:Nat->yar->Prop,Pv 0 [] ∧
 (∀j d out,ds[j]?=some d->Pv j out->∃ys,(d=.tup ys∨∃ t,d=.lst t ys)/\ys.length=n/\tc (jA ys++js.map (bC ρ)) fun b=>if b=true then te (jA ys++js.map (bC ρ)) (fun e=>Pv (j+1) (out++[e]))else Pv (j+1) out)/\∀out,Pv ds.length out->Q (.lst true out)
def stepT{n:Nat}{ds:yar}{Pv:Nat->yar->Prop}{Og:Ro}(step:∀j d out,ds[j]?=some d->Pv j out->∃ys,(d=.tup ys∨∃ t,d=.lst t ys)/\ys.length=n/\tc (jA ys++Og) fun b=>if b=true then te (jA ys++Og) (fun e=>Pv (j+1) (out++[e]))else Pv (j+1) out) :
  ∀ j d out ρ1,ds[j]?=some d->Pv j out->jI n Og ρ1->gB n (nu 0 n) d ρ1 fun ρ2=>jI n Og ρ2/\tc ρ2 fun b=>if b=true then te ρ2 (fun e=>Pv (j+1) (out++[e]))else Pv (j+1) out:=by
 rintro j d out ρ1 hd hp ⟨r0,hl,rfl⟩;obtain⟨ys,e,hn,h⟩:=step j d out hd hp;refine⟨ys,e,hn,?_⟩;subst hn;exact qX ys [] r0 Og _ hl ⟨⟨jA ys,by simp[jA],rfl⟩,h⟩
def De(hc:X.calm=true)(S:RV X.env.scope sc xs ns)(hj:bf X.N ns js)(hn:Rc es xs)(hi:PY X (.Tuple es kt tp) iter wi)(ht:∀(C:Addr) (K6:Shared) (Lg:Hp) (fp:yae) (XE:yaa),Tj (aN X sc ns xs C K6 Lg fp XE) ifs tc)
  (he:∀(C:Addr) (K6:Shared) (Lg:Hp) (fp:yae) (XE:yaa),Lx (aN X sc ns xs C K6 Lg fp XE) elt te) (NP:closureFor sc X.env=pure (c9 X.env ns):=by rfl) (hs:∀x,foldedSetIterable iter X.env x=pure x:=by intro _;rfl) :
  Lx X (.ListComp elt [⟨.Tuple es kt tp,iter,ifs,0⟩] sc pos) (vF xs.length wi js tc te):=by
 intro pins s σ H W ρ Q I r h;rw[eval_ListComp];refine Wf (use:=none) rfl hs NP S.kind S.names (Lj (hi pins s σ H W ρ _ I r h) fun v s1 h1=>Lj h1 fun QN s2 h2=>?_);obtain⟨it,fp,tn,J,H2,ds,e,I2,e2,T,P4,f2,yd,hz,Pv,p0,step,fin⟩:=h2;subst e;refine jd (RR:=fun acc C=>compPost (model X.prog X.w) X.A X.xe none (DP X pins σ W H Q) acc C) hc S hj (Ed:=fun _=>False) (fun C K6 Lg fp XE _=>he C K6 Lg fp XE) (fun C K6 Lg fp XE _=>ht C K6 Lg fp XE) (fun _ _=>cY.no) I2 (r.same e2) (fun C K6 Lg fp XE=>jN (X:=aN X sc ns xs C K6 Lg fp XE) hc (lT S 0 hn fun k y q=>by simpa using q) (Rc.len hn).1 (Rc.len hn).2) T P4 f2 yd hz Pv p0 (stepT step) ?_;intro D C s' H' m' out I' sm Oo RY Rw Tq Rx Ts ⟨hn,hk,vs,hD,LQ⟩ pv;have Nn:Den X.K W.bad H' (.lst true out) (.ref D):=Den.lst ((r.same e2).fresh hn) (.new hD hk) (LQ.Lo fun _ _ z=>.inl z);refine⟨m',Oo,fun h' Tt=>?_⟩;exact⟨.ref D,H',_,I'.turned (t':=s'.toks) (fun b o hb e=>(Tt.2 b hb).trans e) RY Rw (.inr Tq) Rx Ts,rfl,e2.trans sm,Nn,fin out pv⟩
def xw{y:Str}{P6:Pos}(i:Nat)(hN:X.N.Nodup)(hc:X.calm=true)(S:RV X.env.scope sc xs ns)(hj:bf X.N ns js)(hn:Rc es xs)(hi:PY X (.Tuple es kt tp) iter wi)(ht:∀(C:Addr) (K6:Shared) (Lg:Hp) (fp:yae) (XE:yaa),Tj (aN X sc ns xs C K6 Lg fp XE) ifs tc)
  (he:∀(C:Addr) (K6:Shared) (Lg:Hp) (fp:yae) (XE:yaa),Lx (aN X sc ns xs C K6 Lg fp XE) elt te) (hy:X.N[i]?=some y:=by rfl) (Ug:X.env.scope.names.lookup y=some .local:=by rfl) (NP:closureFor sc X.env=pure (c9 X.env ns):=by rfl) (hs:∀x,foldedSetIterable iter X.env x=pure x:=by intro _;rfl)
  (Xs:swapsWith (.ListComp elt [⟨.Tuple es kt tp,iter,ifs,0⟩] sc pos) (some (.Name y py)) P6.line X.env=pure true:=by rfl) :
  NA X (.Assign [.Name y py] (.ListComp elt [⟨.Tuple es kt tp,iter,ifs,0⟩] sc pos) P6) (zP i (vF xs.length wi js tc te)):=by
 intro pins s σ H W ρ E I r h;rw[exec_Assign_Name_used _ _ _ _ Xs];refine K1 (VN (K1 ?_));show wpAny _ X.A (do let _←comprehension (.ListComp elt [⟨.Tuple es kt tp,iter,ifs,0⟩] sc pos) sc X.env _ (newList []) false (eval iter X.env) (some (assign (.Name y py) X.env))) _ _ s;refine K1 (OT (Wf (use:=some (assign (.Name y py) X.env)) (Q:=fun _ s'=>QR X pins W H E .next s') rfl hs NP S.kind S.names
  (Lj (hi pins s σ H W ρ _ I r h) fun v s1 h1=>Lj h1 fun QN s2 h2=>?_)) (fun _ s' hq=>Le (Le hq)) fun _ _ e=>e)
 obtain⟨it,fp,tn,J,H2,ds,e,I2,e2,T,P4,f2,yd,hz,Pv,p0,step,fin⟩:=h2;subst e;refine jd (RR:=fun acc C=>compPost (model X.prog X.w) X.A X.xe (some (assign (.Name y py) X.env)) (fun _ s'=>QR X pins W H E .next s') acc C) hc S hj (Ed:=fun _=>False) (fun C K6 Lg fp XE _=>he C K6 Lg fp XE) (fun C K6 Lg fp XE _=>ht C K6 Lg fp XE) (fun _ _=>cY.no) I2 (r.same e2) (fun C K6 Lg fp XE=>jN (X:=aN X sc ns xs C K6 Lg fp XE) hc (lT S 0 hn fun k y q=>by simpa using q) (Rc.len hn).1 (Rc.len hn).2) T P4 f2 yd hz Pv p0 (stepT step) ?_;intro D C s' H' m' out I' sm Oo RY Rw Tq Rx Ts ⟨hn,hk,vs,hD,LQ⟩ pv;have Nn:Den X.K W.bad H' (.lst true out) (.ref D):=Den.lst ((r.same e2).fresh hn) (.new hD hk) (LQ.Lo fun _ _ z=>.inl z);have rr:=(r.same e2).same sm;show wpAny _ X.A (assign (.Name y py) X.env (.ref D)) _ _ _;refine wpAny_assign_Name (ki (v:=.ref D) I' hN hy (.inl Ug) rfl (fun s3 I3 ⟨a,Tt,ha⟩=>?_) (.inr Ug));have LV:C≠a:=by
  rcases ha with z|z
  ·rw[z];exact Rw
  ·exact fun q=>Rx y a z q.symm
 refine⟨m',Oo.sameBut Tt LV,fun h' R4=>?_⟩;refine⟨W.drop i,_,H',I3.turned (t':=s3.toks) (fun b o hb e=>(R4.2 b hb).trans e) RY Rw (.inr Tq) Rx Ts,(LC.same (e2.trans sm)).trans (LC.drop W H' i),_,rr.put (Inv.RQ I' hy) Nn,fin out pv⟩
end
def tY{α:Type}{n:Nat}{wi:DA}{js:yag}{tc:DT}{te:DE}{Q:D->Prop}(zs:List α)(f:α->yar)(c:α->Bool)(g:α->D)(hw:∀R:yar->Prop,R (zs.map fun z=>.tup (f z))->wi ρ R)(hz:zs.length<=sizeLine)(hn:∀z,(f z).length=n)
  (hc:∀z∈zs,∀K:Bool->Prop,K (c z)->tc (jA (f z)++js.map (bC ρ)) K) (he:∀z∈zs,c z=true->∀K:D->Prop,K (g z)->te (jA (f z)++js.map (bC ρ)) K) (q:Q (.lst true ((zs.filter c).map g))):vF n wi js tc te ρ Q:=by
 refine hw _ ⟨by rw[K8];exact hz,fun j out=>out=((zs.take j).filter c).map g,by simp,fun j d out hd ho=>?_,fun out ho=>?_⟩
 ·rw[LZ]at hd;cases ex:zs[j]? with
  |none=>rw[ex]at hd;cases hd
  |some x =>
   rw[ex]at hd;cases hd;have hm:x∈zs:=Mz ex;have ht:zs.take (j+1)=zs.take j++[x]:=by rw[SR,ex];rfl
   refine⟨f x,.inl rfl,hn x,hc x hm _ ?_⟩;by_cases z:c x=true
   ·rw[K4 z];refine he x hm z _ ?_;show _=List.map g (List.filter c (List.take (j+1) zs));rw[ht,ho,Yp,M6];simp[z]
   ·rw[K3 z];show _=List.map g (List.filter c (List.take (j+1) zs));rw[ht,ho,Yp];simp[z]
 ·rw[K8,SK (LG _)]at ho;rw[ho];exact q
def Ip(k:Bool)(R:Int->Prop)(S:Bool->Prop):((∃i:Int,[D.bl k]=[.int i]/\R i)∨∃ j:Bool,[D.bl k]=[.bl j]/\S j)=S k:=by
 apply propext;constructor
 ·rintro(⟨_,e,_⟩| ⟨_,e,q⟩)
  ·cases e
  ·cases e;exact q
 ·intro q;exact .inr ⟨k,rfl,q⟩
def IK(b:Bool):okD (.bl b):=by unfold okD;rw[MA,PV]<;>first|exact⟨rfl,rfl⟩| (intros;contradiction)
def DK(i:Int):okD (.int i)=True:=eq_true (F5 i)
def F4(b:Bool):okD (.bl b)=True:=eq_true (IK b)
def DL:okD .LJ=True:=eq_true F6
def kU(i j:Int):eqD (.int i) (.int j)=decide (i=j):=by unfold eqD;rw[MA,MA];rfl
def Bl(i j:Bool):eqD (.bl i) (.bl j)=decide (i=j):=by unfold eqD;rw[MA,MA];cases i<;>cases j<;>rfl
def Iv(t:Bool)(xs:yar)(R:yar->Prop):(∃t' ds,D.lst t xs=.lst t' ds/\R ds)=R xs:=by
 apply propext;constructor
 ·rintro⟨_,_,e,q⟩;cases e;exact q
 ·intro q;exact⟨t,xs,rfl,q⟩
def Fx(ds:yar)(r:Ro)(R:yar->Prop):(∃P5,(some (Sl.own ds)::r)[0]?=some (some (Sl.own P5))/\R P5)=R ds:=by
 apply propext;constructor
 ·rintro⟨_,e,q⟩;have e':some (some (Sl.own ds))=some (some (Sl.own _)):=e;cases e';exact q
 ·intro q;exact⟨ds,rfl,q⟩
theorem Fy(n:Nat)(x:Option Sl)(r:Ro)(R:yar->Prop):(∃P5,(x::r)[n+1]?=some (some (Sl.own P5))/\R P5)=(∃P5,r[n]?=some (some (Sl.own P5))/\R P5):=rfl
theorem Ih(d:D)(r:Ro):bC (some (.val d)::r) 0=some (.val d):=rfl
theorem Ij(r:Ro):bC (none::r) 0=none:=rfl
theorem Ii(n:Nat)(x:Option Sl)(r:Ro):bC (x::r) (n+1)=bC r n:=rfl
def Hc{x y z:Int}(h:¬(x=0/\y=0/\z=0))(hx:Bd n x)(hy:Bd n y)(hz:Bd n z):Bd n (PM.MC x y z l):=by
 unfold Bd at *;rw[PM.yx];have d1:=Yh.mpr (PM.sF x y z);have d2:=Yh.mpr (PM.vV x y z);have d3:=Yh.mpr (PM.vW x y z);simp only[Int.natAbs_natCast]at d1 d2 d3;by_cases h1:x=0
 ·by_cases h2:y=0
  ·have h3:z≠0:=fun e=>h ⟨h1,h2,e⟩
   have:=Nat.le_of_dvd (by lia) d3
   lia
  ·have:=Nat.le_of_dvd (by lia) d2
   lia
 ·have:=Nat.le_of_dvd (by lia) d1
  lia
def sg(n:Int):Int:=if 0<n then 1 else if n<0 then -1 else 0
def rk(a0 a1 a2 b0 b1 b2:Int):Int:=if sg (a1*b0 - b1*a0)=0 then sg (a2*b0 - b2*a0)else sg (a1*b0 - b1*a0)
def sw(a0 a1 a2 b0 b1 b2 c0 c1 c2:Int):Int:=a0*(b1*c2 - c1*b2)+b0*(c1*a2 - a1*c2)+c0*(a1*b2 - b1*a2)
structure Pl(n:Nat)(a b c:Int):Prop where
 pos:0<a
 low:PM.g3 a b c=1
 b0:Bd n a
 b1:Bd n b
 b2:Bd n c
def je{d k x y z:Int}(h1:d∣k*x)(h2:d∣k*y)(h3:d∣k*z)(hg:PM.g3 x y z=1):d∣k:=by
 have e1:d∣(Int.gcd (k*x) (k*y):Int):=VE h1 h2;rw[Wo]at e1;have e2:d∣k*(Int.gcd x y:Int):=by
  have:((k.natAbs*Int.gcd x y:Nat):Int)∣k*(Int.gcd x y:Int):=by rw[Int.natCast_mul];exact Wt (Int.natAbs_dvd.mpr (Ss _)) (Ss _)
  exact TZ e1 this
 have e3:d∣(Int.gcd (k*(Int.gcd x y:Int)) (k*z):Int):=VE e2 h3;rw[Wo]at e3;have e4:Int.gcd (Int.gcd x y:Int) z=1:=hg;rw[e4,Nat.mul_one]at e3;exact TZ e3 (Int.natAbs_dvd.mpr (Ss _))
def I0(b x y:Int):D:=T3 (b.fdiv (PM.MC b x y b)) (x.fdiv (PM.MC b x y b)) (y.fdiv (PM.MC b x y b))
structure KQ(d:D)(b x y:Int):Prop where
 ex:∃p q r,d=T3 p q r/\Bd 4000 p/\Bd 4000 q/\Bd 4000 r/\0<p/\p*x=b*q/\p*y=b*r/\PM.g3 p q r=1
end PD
namespace PZ
open PySem PySem.Spec PyProof.Rows
def NZ:Bool->Heap->Addr->Addr->Nat->Prop
 |true,h,it,a,i=>h.IsListIter it a i
 |false,h,it,a,i=>h.IsTupleIter it a i
def Ni:Bool->Heap->Addr->yan->Prop
 |true,h,a,xs=>h.IsList a xs
 |false,h,a,xs=>h.IsTuple a xs
def iE:Bool->String
 |true => "list_iterator"
 |false => "tuple_iterator"
section
variable{k:Bool}{h h':Heap}{it a b:Addr}{i:Nat}{xs:yan}
def NZ.of(x:NZ k h it a i)(e:∀o,h.get? it=some o->h'.get? it=some o):NZ k h' it a i:=by
 cases k with
 |true=>obtain⟨o,ho,r⟩:=x;exact⟨o,e o ho,r⟩
 |false=>obtain⟨o,ho,r⟩:=x;exact⟨o,e o ho,r⟩
def Ni.of(x:Ni k h a xs)(e:∀o,h.get? a=some o->h'.get? a=some o):Ni k h' a xs:=by
 cases k with
 |true=>obtain⟨o,ho,r⟩:=x;exact⟨o,e o ho,r⟩
 |false=>obtain⟨o,ho,r⟩:=x;exact⟨o,e o ho,r⟩
def NZ.obj(x:NZ k h it a i):∃o,h.get? it=some o/\o.cls=.type (iE k)/\o.data=.fields #[.ref a,.int i 0]:=by
 cases k with
 |true=>exact x
 |false=>exact x
def Ni.obj(x:Ni k h a xs):∃o n,h.get? a=some o/\o.data=.seq xs n:=by
 cases k with
 |true=>obtain⟨o,ho,_,n,r⟩:=x;exact⟨o,n,ho,r⟩
 |false=>obtain⟨o,ho,_,n,r⟩:=x;exact⟨o,n,ho,r⟩
end
section
variable{prog:Program}{w:World}{A:Around}{E:yaa}{s:Shared}{k:Bool}{it a:Addr}{i:Nat}{xs:yan}
def ro{x:Value}{Q:yaa}(hi:NZ k s.heap it a i)(hs:Ni k s.heap a xs)(hx:xs[i]?=some x)(hQ:∀h',NZ k h' it a (i+1)->Heap.SameBut it s.heap h'->Q x {s with heap:=h'}) :
  wpAny (model prog w) A (Builtin.SmallTypes.nextOf (.ref it)) Q E s:=by
 cases k with
 |true=>exact wpAny_nextOf_list_item hi hs hx hQ
 |false =>
  obtain⟨o,ho,hc,hd⟩:=id hi;obtain⟨oq,hq,_,nq,ZU⟩:=hs;unfold Builtin.SmallTypes.nextOf;refine K1 (SJ (name:=Str.ofString "__next__") (Yc hi) F.slot_tuple_iterator_next (Q0 F.slot_tuple_iterator_next (Yc hi) F.entry_tuple_iterator_next ?_ (F.args_tuple_iterator_next_1 _)));show wpAny _ _ (field (.ref it) 0 >>= _) _ _ s;refine K1 (Oy ho hd (x:=.ref a) rfl ?_);show wpAny _ _ (if(Value.ref a==Value.none)=true then _ else _) _ _ s;rw[K3 (show¬((Value.ref a==Value.none)=true)from OY)];show wpAny _ _ (field (.ref it) 1 >>= _) _ _ s;refine K1 (Oy ho hd (x:=.int i 0) rfl ?_);show wpAny _ _ (seqItems? (.ref a) >>= _) _ _ s;refine K1 (Q2 hq ZU ?_);simp only[Uz,hx];refine K1 (VL ho hd (by simp) (Le ⟨x,rfl,Le (hQ _ ⟨_,RC _ ho (Obj.isFreed_of_fields (Obj.data_mapFields hd _)),(Obj.cls_mapFields ..).trans hc,by rw[Obj.data_mapFields hd];simp[rawInt]⟩ (TN ..))⟩))
def Ae(hh:A.handled=none)(hi:NZ k s.heap it a i)(hs:Ni k s.heap a xs)(hx:xs[i]?=none)
  (hE:∀h' e,Heap.ExtBut it s.heap h'->(∃o,h'.get? e=some o/\o.cls=.type "StopIteration")->E (.ref e) {s with heap:=h'}):wpAny (model prog w) A (Builtin.SmallTypes.nextOf (.ref it)) Q E s:=by
 cases k with
 |true=>exact wpAny_nextOf_list_end hh hi hs hx hE
 |false =>
  obtain⟨o,ho,hc,hd⟩:=id hi;obtain⟨oq,hq,_,nq,ZU⟩:=hs;unfold Builtin.SmallTypes.nextOf;refine K1 (SJ (name:=Str.ofString "__next__") (Yc hi) F.slot_tuple_iterator_next (Q0 F.slot_tuple_iterator_next (Yc hi) F.entry_tuple_iterator_next ?_ (F.args_tuple_iterator_next_1 _)));show wpAny _ _ (field (.ref it) 0 >>= _) _ _ s;refine K1 (Oy ho hd (x:=.ref a) rfl ?_);show wpAny _ _ (if(Value.ref a==Value.none)=true then _ else _) _ _ s;rw[K3 (show¬((Value.ref a==Value.none)=true)from OY)];show wpAny _ _ (field (.ref it) 1 >>= _) _ _ s;refine K1 (Oy ho hd (x:=.int i 0) rfl ?_);show wpAny _ _ (seqItems? (.ref a) >>= _) _ _ s;refine K1 (Q2 hq ZU ?_);simp only[Uz,hx];refine K1 (wpAny_rule (K1 (VL ho hd (by simp) ?_)));show wpAny _ _ (newExc (.type "StopIteration") [] >>= _) _ _ _;refine K1 ?_;simp only[newExc,newTuple];refine K1 (Rk ?_ (by size_fits));refine K1 (m:=firstArgMember _ _) (wpAny_of_eq (a:=Value.none) (by simp only[firstArgMember];rfl) ?_);refine Rk ?_ (by size_fits);simp only[raiseNew];refine K1 (wpAny_handled ?_);first|rw[show A.in1.handled=none from hh]|rw[hh]
  exact K1 (Le (wpAny_throw (hE _ _ (((TN ..).extBut.push _).push _) ⟨_,Nw _ rfl,rfl⟩)))
end
structure Ap(z TI TO i1 i2:Addr):Prop where
 a1:TI≠z
 a2:TO≠z
 a3:i1≠z
 a4:i2≠z
 a5:TI≠TO
 a6:TI≠i1
 a7:TI≠i2
 a8:TO≠i1
 a9:TO≠i2
 b1:i1≠i2
structure Out(z TO i1 i2 l:Addr):Prop where
 c1:l≠z
 c2:l≠TO
 c3:l≠i1
 c4:l≠i2
structure Uh(k1 k2:Bool)(z TI TO i1 i2 l1 l2:Addr)(i:Nat)(h:Heap):Prop where
 z:IsZip h z TI TO .none
 ti:IsPair h TI (.ref i1) (.ref i2)
 to:∃a b,IsPair h TO a b
 s1:NZ k1 h i1 l1 i
 s2:NZ k2 h i2 l2 i
section
variable{prog:Program}{w:World}{A:Around}{E:yaa}{s:Shared}{k1 k2:Bool}{z TI TO i1 i2 l1 l2:Addr}{i:Nat}{xs ys:yan}
def E3 {x y : Value} {Q : yam -> Shared -> Prop} (D : Ap z TI TO i1 i2) (D1 : Out z TO i1 i2 l1) (D2 : Out z TO i1 i2 l2) (Z : Uh k1 k2 z TI TO i1 i2 l1 l2 i s.heap) (q1 : Ni k1 s.heap l1 xs) (q2 : Ni k2 s.heap l2 ys) (hx : xs[i]? = some x) (hy : ys[i]? = some y)
  (hQ : ∀ h', IsZip h' z TI TO (rawInt s.heap.objs.size) -> IsPair h' TI (.ref i1) (.ref i2) -> IsPair h' TO x y -> NZ k1 h' i1 l1 (i + 1) -> NZ k2 h' i2 l2 (i + 1) -> IsPair h' s.heap.objs.size x y →
   (∀ c o, c ≠ z -> c ≠ TO -> c ≠ i1 -> c ≠ i2 -> s.heap.get? c = some o -> h'.get? c = some o) -> Q (some (.ref s.heap.objs.size)) { s with heap := h' }) : wpAny (model prog w) A (pyNext (.ref z)) Q E s := by
 obtain ⟨hz, O1, ⟨a, b, QB⟩, h1, h2⟩ := Z;have hT : s.TypeIs (.ref z) "zip" := ⟨_, hz, rfl⟩;unfold pyNext;refine K1 (T1 (SJ (name := Str.ofString "__next__") hT F.slot_zip_next (Q0 F.slot_zip_next hT F.entry_zip_next ?_ (F.args_zip_next_1 _))));show wpAny _ _ (field (.ref z) 2 >>= _) _ _ _; refine K1 (Oy hz rfl (x := .bool false) rfl ?_);show wpAny _ _ (field (.ref z) 3 >>= _) _ _ _; refine K1 (Oy hz rfl (x := .ref TI) rfl (K1 (Q2 O1 rfl ?_)));show wpAny _ _ (Builtin.SmallTypes.ownedTupleIsFree (.ref z) >>= _) _ _ _; refine K1 ?_; unfold Builtin.SmallTypes.ownedTupleIsFree;refine K1 (Oy hz rfl (x := .none) rfl (Le ?_)); simp only [if_true]; refine K1 (wpAny_rule (K1 (Oy hz rfl (x := .ref TO) rfl ?_)));refine K1 (Uy hz (by simp) fun g1 (z1 : IsZip g1 z TI TO .ellipsis) b1 => K1 ?_);simp only [List.zipIdx_cons, List.zipIdx_nil, List.forIn_cons, List.forIn_nil];have Pq : ∀ c o, c ≠ z -> s.heap.get? c = some o -> g1.get? c = some o := fun c o n e => b1.extBut c o n e
 refine K1 (K1 (wpAny_onRaise ?_)); show wpAny _ _ (Builtin.SmallTypes.nextOf (.ref i1) >>= _) _ _ _;refine K1 (ro (s := { s with heap := g1 }) (h1.of fun o e => Pq _ o D.a3 e) (q1.of fun o e => Pq _ o D1.c1 e) hx fun g2 n2 b2 => Le ?_);have t2 : IsPair g2 TO a b := b2.extBut _ _ D.a8 (Pq _ _ D.a2 QB);refine K1 (Q2 t2 rfl (K1 (wpAny_updateSeq_pair t2 fun g3 (t3 : IsPair g3 TO x b) b3 => K1 (wpAny_letGo (Le ?_)))));have k3 : ∀ c o, c ≠ z -> c ≠ TO -> c ≠ i1 -> s.heap.get? c = some o -> g3.get? c = some o := fun c o n1 n2 n3 e => b3.extBut c o n2 (b2.extBut c o n3 (Pq c o n1 e))
 refine K1 (K1 (wpAny_onRaise ?_)); show wpAny _ _ (Builtin.SmallTypes.nextOf (.ref i2) >>= _) _ _ _;refine K1 (ro (s := { s with heap := g3 }) (h2.of fun o e => k3 _ o D.a4 (Ne.symm D.a9) (Ne.symm D.b1) e) (q2.of fun o e => k3 _ o D2.c1 D2.c2 D2.c3 e) hy fun g4 n4 b4 => Le ?_);have t4 : IsPair g4 TO x b := b4.extBut _ _ D.a9 t3;refine K1 (Q2 t4 rfl (K1 (wpAny_updateSeq_pair t4 fun g5 (t5 : IsPair g5 TO x y) b5 => K1 (wpAny_letGo (Le (Le ?_))))));refine K1 (Q2 t5 rfl (K1 (wpAny_newTuple ?_)));have sz : g5.objs.size = s.heap.objs.size := by rw [b5.1, b4.1, b3.1, b2.1, b1.1]
 have k5 : ∀ c o, c ≠ z -> c ≠ TO -> c ≠ i1 -> c ≠ i2 -> s.heap.get? c = some o -> g5.get? c = some o := fun c o n1 n2 n3 n4 e => b5.extBut c o n2 (b4.extBut c o n4 (k3 c o n1 n2 n3 e))
 have z5 : IsZip g5 z TI TO .ellipsis := b5.extBut _ _ (Ne.symm D.a2) (b4.extBut _ _ (Ne.symm D.a4) (b3.extBut _ _ (Ne.symm D.a2) (b2.extBut _ _ (Ne.symm D.a3) z1)));have s15 : NZ k1 g5 i1 l1 (i + 1) := n2.of fun o e => b5.extBut _ o (Ne.symm D.a8) (b4.extBut _ o D.b1 (b3.extBut _ o (Ne.symm D.a8) e))
 have s25 : NZ k2 g5 i2 l2 (i + 1) := n4.of fun o e => b5.extBut _ o (Ne.symm D.a9) e
 have zl : z < g5.objs.size := LK z5;show wpAny _ _ (Builtin.SmallTypes.ownedTupleHandOut (.ref z) (.ref g5.objs.size) >>= _) _ _ _; refine K1 ?_; unfold Builtin.SmallTypes.ownedTupleHandOut;have z6 : IsZip (g5.push { cls := .type "tuple", data := .seq #[x, y] }) z TI TO .ellipsis := Mb _ z5;refine K1 (Uy z6 (by simp) fun g7 (z7 : IsZip g7 z TI TO (rawInt g5.objs.size)) b7 => Uy z7 (by simp) fun g8 (z8 : IsZip g8 z TI TO (rawInt g5.objs.size)) b8 => Le ?_);have up : ∀ c o, c ≠ z -> g5.get? c = some o -> g8.get? c = some o := fun c o n e => b8.extBut c o n (b7.extBut c o n (Mb _ e))
 have p8 : IsPair g8 g5.objs.size x y := b8.extBut _ _ (Qe zl) (b7.extBut _ _ (Qe zl) (Nw _ rfl));refine ⟨_, rfl, ?_⟩;rw [sz] at z8 p8;refine Le ?_;show Q (some (.ref g5.objs.size)) _;rw [sz];exact hQ g8 z8 (up _ _ D.a1 (k5 _ _ D.a1 D.a5 D.a6 D.a7 O1)) (up _ _ D.a2 t5) (s15.of fun o e => up _ o D.a3 e) (s25.of fun o e => up _ o D.a4 e) p8 fun c o n1 n2 n3 n4 e => up c o n1 (k5 c o n1 n2 n3 n4 e)
def E4{Q:yam->Shared->Prop}(hh:A.handled=none)(D:Ap z TI TO i1 i2)(D1:Out z TO i1 i2 l1)(D2:Out z TO i1 i2 l2)(Z:Uh k1 k2 z TI TO i1 i2 l1 l2 i s.heap)(q1:Ni k1 s.heap l1 xs)(q2:Ni k2 s.heap l2 ys)(R5:xs[i]?=none∨ys[i]?=none)
  (hQ:∀h',(∀c o,c≠z->c≠TO->c≠i1->c≠i2->s.heap.get? c=some o->h'.get? c=some o)->Q none {s with heap:=h'}):wpAny (model prog w) A (pyNext (.ref z)) Q E s:=by
 obtain⟨hz,O1,⟨a,b,QB⟩,h1,h2⟩:=Z;have hT:s.TypeIs (.ref z) "zip" := ⟨_,hz,rfl⟩;unfold pyNext;refine K1 (T1 (SJ (name:=Str.ofString "__next__") hT F.slot_zip_next (Q0 F.slot_zip_next hT F.entry_zip_next ?_ (F.args_zip_next_1 _))));show wpAny _ _ (field (.ref z) 2 >>= _) _ _ _;refine K1 (Oy hz rfl (x:=.bool false) rfl ?_);show wpAny _ _ (field (.ref z) 3 >>= _) _ _ _;refine K1 (Oy hz rfl (x:=.ref TI) rfl (K1 (Q2 O1 rfl ?_)));show wpAny _ _ (Builtin.SmallTypes.ownedTupleIsFree (.ref z) >>= _) _ _ _;refine K1 ?_;unfold Builtin.SmallTypes.ownedTupleIsFree;refine K1 (Oy hz rfl (x:=.none) rfl (Le ?_));simp only[if_true];refine K1 (wpAny_rule (K1 (Oy hz rfl (x:=.ref TO) rfl ?_)));refine K1 (Uy hz (by simp) fun g1 (z1:IsZip g1 z TI TO .ellipsis) b1=>K1 ?_);simp only[List.zipIdx_cons,List.zipIdx_nil,List.forIn_cons,List.forIn_nil];have Pq:∀c o,c≠z->s.heap.get? c=some o->g1.get? c=some o:=fun c o n e=>b1.extBut c o n e
 refine K1 (K1 (wpAny_onRaise ?_));show wpAny _ _ (Builtin.SmallTypes.nextOf (.ref i1) >>= _) _ _ _;cases hx:xs[i]? with
 |none =>
  refine K1 (Ae (s:={s with heap:=g1}) hh (h1.of fun o e=>Pq _ o D.a3 e) (q1.of fun o e=>Pq _ o D1.c1 e) hx fun g2 e b2 he=>?_);obtain⟨oe,ho,hc⟩:=he;have z2:IsZip g2 z TI TO .ellipsis:=b2 _ _ (Ne.symm D.a3) z1;have nz:e≠z:=fun q=>by subst q;rw[z2]at ho;cases ho;simp at hc
  refine Uy z2 (by simp) fun g3 _ b3=>K1 (UD (T := "StopIteration") (b:=true) ⟨oe,b3.extBut _ _ nz ho,hc⟩ isSubtype_stop ?_)
  exact Le (hQ g3 fun c o n1 _ n3 _ q=>b3.extBut c o n1 (b2 c o n3 (Pq c o n1 q)))
 |some x =>
  have hy:ys[i]?=none:=by
   rcases R5 with q|q
   ·rw[hx]at q;cases q
   ·exact q
  refine K1 (ro (s:={s with heap:=g1}) (h1.of fun o e=>Pq _ o D.a3 e) (q1.of fun o e=>Pq _ o D1.c1 e) hx fun g2 n2 b2=>Le ?_);have t2:IsPair g2 TO a b:=b2.extBut _ _ D.a8 (Pq _ _ D.a2 QB);refine K1 (Q2 t2 rfl (K1 (wpAny_updateSeq_pair t2 fun g3 t3 b3=>K1 (wpAny_letGo (Le ?_)))));have k3:∀c o,c≠z->c≠TO->c≠i1->s.heap.get? c=some o->g3.get? c=some o:=fun c o n1 n2 n3 e=>b3.extBut c o n2 (b2.extBut c o n3 (Pq c o n1 e))
  refine K1 (K1 (wpAny_onRaise ?_));show wpAny _ _ (Builtin.SmallTypes.nextOf (.ref i2) >>= _) _ _ _;refine K1 (Ae (s:={s with heap:=g3}) hh (h2.of fun o e=>k3 _ o D.a4 (Ne.symm D.a9) (Ne.symm D.b1) e) (q2.of fun o e=>k3 _ o D2.c1 D2.c2 D2.c3 e) hy fun g4 e b4 he=>?_);obtain⟨oe,ho,hc⟩:=he;have z4:IsZip g4 z TI TO .ellipsis:=b4 _ _ (Ne.symm D.a4) (b3.extBut _ _ (Ne.symm D.a2) (b2.extBut _ _ (Ne.symm D.a3) z1));have nz:e≠z:=fun q=>by subst q;rw[z4]at ho;cases ho;simp at hc
  refine Uy z4 (by simp) fun g5 _ b5=>K1 (UD (T := "StopIteration") (b:=true) ⟨oe,b5.extBut _ _ nz ho,hc⟩ isSubtype_stop ?_)
  exact Le (hQ g5 fun c o n1 n2 n3 n4 q=>b5.extBut c o n1 (b4 c o n4 (k3 c o n1 n2 n3 q)))
def ER{Q:yaa}(q:Ni k s.heap a xs)(hQ:Q (.ref s.heap.objs.size) {s with heap:=s.heap.push {cls:=.type (iE k),data:=.fields #[.ref a,.int 0 0]} }):wpAny (model prog w) A (pyIter (.ref a)) Q E s:=by
 cases k with
 |true=>exact wpAny_pyIter_list q hQ
 |false=>exact wpAny_pyIter_tuple q hQ
end
abbrev zp1(k1:Bool)(h:Heap)(l1:Addr):Heap:=h.push {cls:=.type (iE k1),data:=.fields #[.ref l1,.int 0 0]}
abbrev Xt(k1 k2:Bool)(h:Heap)(l1 l2:Addr):Heap:=(zp1 k1 h l1).push {cls:=.type (iE k2),data:=.fields #[.ref l2,.int 0 0]}
abbrev Xu (k1 k2:Bool) (h:Heap) (l1 l2:Addr):Heap:=(Xt k1 k2 h l1 l2).push {cls:=.type "tuple", data:=.seq #[.ref h.objs.size,.ref (zp1 k1 h l1).objs.size]}
abbrev Xv (k1 k2:Bool) (h:Heap) (l1 l2:Addr):Heap:=(Xu k1 k2 h l1 l2).push {cls:=.type "tuple", data:=.seq #[.none,.none]}
abbrev U9 (k1 k2:Bool) (h:Heap) (l1 l2:Addr):Heap:=(Xv k1 k2 h l1 l2).push {cls:=.type "zip", data:=.fields #[.none,.bool false,.bool false,.ref (Xt k1 k2 h l1 l2).objs.size,.ref (Xu k1 k2 h l1 l2).objs.size]}
def KO (k1 k2:Bool) (l1 l2:Addr) (xs ys:yan):Meets (Builtin.«zip.__new__» ⟨[.type "zip", .ref l1,.ref l2],[]⟩) (fun _ R s=>Ni k1 s.heap l1 xs/\Ni k2 s.heap l2 ys/\R (.ok (.ret (.ref (Xv k1 k2 s.heap l1 l2).objs.size))) {s with heap:=U9 k1 k2 s.heap l1 l2}) :=
 .of_wp fun prog w A R s h=>by
  obtain⟨hp,g,d,tk,os⟩:=s;obtain⟨q1,q2,h⟩:=h;have Xw:=sub_zip;have p1:Ni k1 (Shared.heap ⟨hp,g,d,tk,os⟩) l1 xs:=q1;have p2:Ni k2 (Shared.heap ⟨hp.push {cls:=.type (iE k1),data:=.fields #[.ref l1,.int 0 0]},g,d,tk,os⟩) l2 ys:=q2.of fun o e=>Mb _ e
  wp_walk using ER p1,ER p2
  exact⟨_,rfl,h⟩
section
variable{prog:Program}{w:World}{A:Around}{E:yaa}{s:Shared}{k1 k2:Bool}{l1 l2:Addr}{xs ys:yan}
def E2{Q:yaa}(q1:Ni k1 s.heap l1 xs)(q2:Ni k2 s.heap l2 ys)
  (hQ:∀h',Uh k1 k2 (s.heap.objs.size+4) (s.heap.objs.size+2) (s.heap.objs.size+3) s.heap.objs.size (s.heap.objs.size+1) l1 l2 0 h'->(∀c o,s.heap.get? c=some o->h'.get? c=some o)->Q (.ref (s.heap.objs.size+4)) {s with heap:=h'}) :
  wpAny (model prog w) A (call (.type "zip") [.ref l1,.ref l2]) Q E s:=by
 refine callType_new F.called_zip (by decide) (F.typeCall_zip_2 _ _) (F.newCall_zip_2 _ _) (fun obj=>F.args_object_init_3 obj _ _) F.entry_zip_new (KO k1 k2 l1 l2 xs ys) ⟨q1,q2,?_⟩;have n1:(zp1 k1 s.heap l1).objs.size=s.heap.objs.size+1:=TX ..;have n2:(Xt k1 k2 s.heap l1 l2).objs.size=s.heap.objs.size+2:=by rw[TX,n1]
 have n3:(Xu k1 k2 s.heap l1 l2).objs.size=s.heap.objs.size+3:=by rw[TX,n2]
 have n4:(Xv k1 k2 s.heap l1 l2).objs.size=s.heap.objs.size+4:=by rw[TX,n3]
 have up5:∀c o,(Xv k1 k2 s.heap l1 l2).get? c=some o->(U9 k1 k2 s.heap l1 l2).get? c=some o:=fun c o e=>Mb _ e
 have up4:∀c o,(Xu k1 k2 s.heap l1 l2).get? c=some o->(U9 k1 k2 s.heap l1 l2).get? c=some o:=fun c o e=>up5 c o (Mb _ e)
 have up3:∀c o,(Xt k1 k2 s.heap l1 l2).get? c=some o->(U9 k1 k2 s.heap l1 l2).get? c=some o:=fun c o e=>up4 c o (Mb _ e)
 have VZ:∀c o,(zp1 k1 s.heap l1).get? c=some o->(U9 k1 k2 s.heap l1 l2).get? c=some o:=fun c o e=>up3 c o (Mb _ e)
 have g5:(U9 k1 k2 s.heap l1 l2).get? (Xv k1 k2 s.heap l1 l2).objs.size=some _:=Nw _ rfl;have g4:=up5 _ _ (Nw (Xu k1 k2 s.heap l1 l2) (o:={cls:=.type "tuple", data:=.seq #[.none,.none]}) rfl);have g3:=up4 _ _ (Nw (Xt k1 k2 s.heap l1 l2) (o:={cls:=.type "tuple", data:=.seq #[.ref s.heap.objs.size,.ref (zp1 k1 s.heap l1).objs.size]}) rfl);have g2:=up3 _ _ (Nw (zp1 k1 s.heap l1) (o:={cls:=.type (iE k2),data:=.fields #[.ref l2,.int 0 0]}) rfl);have g1:=VZ _ _ (Nw s.heap (o:={cls:=.type (iE k1),data:=.fields #[.ref l1,.int 0 0]}) rfl);have hQ':=hQ (U9 k1 k2 s.heap l1 l2);rw[n2,n3,n4]at g5;rw[n3]at g4;rw[n1,n2]at g3;rw[n1]at g2;have sit:∀{k:Bool} {h:Heap} {it a:Addr},h.get? it=some {cls:=.type (iE k),data:=.fields #[.ref a,.int 0 0]}->NZ k h it a 0:=fun {k h it a} e=>by
  cases k with
  |true=>exact⟨_,e,rfl,rfl⟩
  |false=>exact⟨_,e,rfl,rfl⟩
 show _/\_;rw[n4];exact⟨⟨_,g5,rfl⟩,hQ' ⟨g5,g3,⟨_,_,g4⟩,sit g1,sit g2⟩ fun c o e=>VZ c o (Mb _ e)⟩
end
end PZ
namespace PD
open PySem PySem.Spec PyProof.Rows L2 PZ
def OX(K:yac):Bool->Hp->Addr->yaq->Prop
 |true=>SqL K
 |false=>L2.LO K
section
variable{X:Cx}{pins:yab}{σ:St}{H:Hp}{s:Shared}{k:Bool}{a:Addr}{xs:yaq}
theorem OX.list(I:Inv X pins σ H s)(h:OX X.K k H a xs):∃K9:yad,Vals xs K9/\Ni k s.heap a K9.toArray:=by
 cases k with
 |true =>
  obtain⟨K9,r,p,_⟩:=I.list h;exact⟨K9,r,p.isList⟩
 |false =>
  obtain⟨K9,r,p,_⟩:=I.tuple h;exact⟨K9,r,p⟩
def OX.inj(I:Inv X pins σ H s)(h:OX X.K k H a xs)(h':OX X.K k H a ys):xs=ys:=by
 cases k with
 |true=>exact I.OC h h'
 |false=>exact I.O9 h h'
def OX.ne(I:Inv X pins σ H s)(f:fu X pins H b)(h:OX X.K k H a xs):a≠b:=fun e=>by
 subst e;obtain⟨f0,f1,f2,f3,f4,f5⟩:=f;have kn:∀o,X.K.lookup a=some o->False:=fun o q=>by
  have hb:=I.ok.mod.WC a o q;rcases f3 with z|z
  ·exact I.ok.Q5 a o hb z
  ·exact absurd (M5 (LK (I.ok.bs a o hb).1) z) (Ql _)
 cases k with
 |true =>
  rcases h with(h|⟨o,h⟩)|⟨o,K9,n,h,_⟩
  ·rw[f0]at h;cases h
  ·rw[f0]at h;cases h
  ·exact kn o h
 |false =>
  rcases h with(h|⟨o,h⟩)|⟨o,K9,n,h,_⟩
  ·rw[f0]at h;cases h
  ·rw[f0]at h;cases h
  ·exact kn o h
end
def Itz(K:yac)(k1 k2:Bool)(a b:Addr):It :=
 ⟨fun i H=>∃xs ys x y,OX K k1 H a xs/\OX K k2 H b ys/\xs[i]?=some x/\ys[i]?=some y,
  fun i H v H'=>∃T x y,v=.ref T/\H T=none/\H'=L2.upd H T (.tup [x,y])/\(∀xs,OX K k1 H a xs->xs[i]?=some x)/\∀ys,OX K k2 H b ys->ys[i]?=some y,
  fun i H=>∃xs ys,OX K k1 H a xs/\OX K k2 H b ys/\(xs[i]?=none∨ys[i]?=none)⟩
def Eo{P:Program}{w:World}{K:yac}{es:yai}{kt:Nat}{tp:Pos}(k1 k2:Bool)(a b z TI TO i1 i2:Addr)(D:Ap z TI TO i1 i2) :
  Turn P w K (.Tuple es kt tp) (Itz K k1 k2 a b) [z,TI,TO,i1,i2] z (fun i h=>Uh k1 k2 z TI TO i1 i2 a b i h) where
 mem:=by simp
 obj:=fun i h st c hc=>by
  obtain⟨hz,O1,⟨x,y,QB⟩,s1,s2⟩:=st;simp only[Lp,Nq,or_false]at hc;rcases hc with e|e|e|e|e<;>subst e
  ·exact⟨_,hz,fun v q=>by cases q⟩
  ·exact⟨_,O1,fun v q=>by cases q⟩
  ·exact⟨_,QB,fun v q=>by cases q⟩
  ·obtain⟨o,q1,_,q2⟩:=s1.obj;exact⟨o,q1,fun v q=>by rw[q2]at q;cases q⟩
  ·obtain⟨o,q1,_,q2⟩:=s2.obj;exact⟨o,q1,fun v q=>by rw[q2]at q;cases q⟩
 keep:=fun i h h' st kp=>by obtain⟨hz,O1,⟨x,y,QB⟩,s1,s2⟩:=st;exact⟨kp z (by simp) _ hz,kp TI (by simp) _ O1,⟨x,y,kp TO (by simp) _ QB⟩,s1.of fun o e=>kp i1 (by simp) o e,s2.of fun o e=>kp i2 (by simp) o e⟩
 item:=by
  intro X hP hw hK hc i pins s σ H E I hf st hg;subst hP hw hK;obtain⟨xs,ys,x,y,q1,q2,hx,hy⟩:=hg;obtain⟨us,r1,p1⟩:=q1.list I;obtain⟨ws,r2,p2⟩:=q2.list I;obtain⟨u,hu,ru⟩:=r1.get hx;obtain⟨v,hv,rv⟩:=r2.get hy;have out:∀{k:Bool} {l:Addr} {zs:yaq},OX X.K k H l zs->Out z TO i1 i2 l:=fun q=>⟨q.ne I (hf z (by simp)),q.ne I (hf TO (by simp)),q.ne I (hf i1 (by simp)),q.ne I (hf i2 (by simp))⟩
  refine E3 D (out q1) (out q2) st p1 p2 (x:=u) (y:=v) (by simpa using hu) (by simpa using hv) fun h' z1 ti to s1 s2 pr kp=>⟨_,rfl,wpAny_letOwnedTupleGo_zip z1 fun Qu z2 sb=>?_⟩
  have sz:s.heap.objs.size<=s.heap.objs.size:=LG _;have nz:s.heap.objs.size≠z:=Qe (LK st.z);have nT:H s.heap.objs.size=none:=I.Lu.fresh sz;have NL:∀c o,c ∉ [z,TI,TO,i1,i2]->s.heap.get? c=some o->Qu.get? c=some o:=fun c o n e=>by simp only[Lp,Nq,or_false,not_or]at n;exact sb.extBut c o n.1 (kp c o n.1 n.2.2.1 n.2.2.2.1 n.2.2.2.2 e)
  have P4:Uh k1 k2 z TI TO i1 i2 a b (i+1) Qu:=⟨z2,sb.extBut _ _ D.a1 ti,⟨_,_,sb.extBut _ _ D.a2 to⟩,s1.of fun o e=>sb.extBut _ o D.a3 e,s2.of fun o e=>sb.extBut _ o D.a4 e⟩;have ZV:IsPair Qu s.heap.objs.size u v:=sb.extBut _ _ nz pr;have lo:∀c ∈ [z,TI,TO,i1,i2],c≠s.heap.objs.size:=fun c hc e=>by
   have MR:c<s.heap.objs.size:=by
    obtain⟨hz,O1,⟨x',y',QB⟩,t1,t2⟩:=st;simp only[Lp,Nq,or_false]at hc;rcases hc with q|q|q|q|q<;>subst q
    ·exact LK hz
    ·exact LK O1
    ·exact LK QB
    ·obtain⟨o,q1,_⟩:=t1.obj;exact LK q1
    ·obtain⟨o,q1,_⟩:=t2.obj;exact LK q1
   rw[e]at MR;exact Ql _ MR
  refine⟨.ref s.heap.objs.size,L2.upd H s.heap.objs.size (.tup [x,y]),?_,rfl,⟨_,x,y,rfl,nT,rfl,fun xs' q=>by rw[q.inj I q1];exact hx,fun ys' q=>by rw[q.inj I q2];exact hy⟩,P4,fun c hc=>by rw[av (lo c hc)];exact(hf c hc).1⟩;have PT:∀c o,H c=some o->c ∉ [z,TI,TO,i1,i2]:=fun c o e hc=>by have:=(hf c hc).1;rw[e]at this;cases this
  refine L2.Inv.step (s:=s) (h':=Qu) (g':=s.gens) (d':=s.drawn) (t':=s.toks) (ch:=[z,TI,TO,i1,i2]) I (fun c hc=>?_) (fun c o _ _ n e _=>NL c o n e) (fun c o _ _ n e _=>⟨o.slots,NL c o n e⟩) (fun c o _ e n=>by rw[av (Ms (LK e))];exact n) (fun c o n e=>⟨o,NL c o n e⟩)
   (fun c ls e=>by rw[av (aW e nT)];exact e) (fun c o ls e=>by rw[av (aW e nT)];exact e) (fun c ps e=>⟨#[],by rw[av (aW e nT),e];simp⟩) (fun m hm=>?_) (fun c o e=>?_) I.bare
  ·obtain⟨f0,f1,f2,f3,f4,f5⟩:=hf c hc;exact⟨f3,f1,f4,f5⟩
  ·obtain⟨o,N9,ep,ho,r⟩:=hm;exact⟨o,N9,ep,NL _ o (fun q=>(hf _ q).2.1 rfl) ho,r⟩
  ·by_cases Xx:c=s.heap.objs.size
   ·subst Xx;rw[aH]at e;cases e;exact⟨by rw[sizeLine_eq];show 2<=16777216;decide,[u,v],.cons ru (.cons rv .nil),⟨_,ZV,rfl,_,rfl⟩⟩
   ·rw[av Xx]at e;refine(I.Lu c o e).Oz (fun d' o' hd q=>NL d' o' ?_ q) (fun d' q=>by rw[av (aW q nT)];exact q) fun d' ls q=>by rw[av (aW q nT)];exact q
    rcases hd with q'|q'
    ·rw[q'];exact PT c o e
    ·exact PT d' _ q'
 done:=by
  intro X hP hw hK hc i pins s σ H E I hf st hg;subst hP hw hK;obtain⟨xs,ys,q1,q2,R5⟩:=hg;obtain⟨us,r1,p1⟩:=q1.list I;obtain⟨ws,r2,p2⟩:=q2.list I;have out:∀{k:Bool} {l:Addr} {zs:yaq},OX X.K k H l zs->Out z TO i1 i2 l:=fun q=>⟨q.ne I (hf z (by simp)),q.ne I (hf TO (by simp)),q.ne I (hf i1 (by simp)),q.ne I (hf i2 (by simp))⟩
  refine E4 (I.ok.hd hc) D (out q1) (out q2) st p1 p2 (R5.imp (fun q=>by simpa using r1.none_of q) fun q=>by simpa using r2.none_of q) fun h' kp=>⟨rfl,?_⟩
  have NL:∀c o,c ∉ [z,TI,TO,i1,i2]->s.heap.get? c=some o->h'.get? c=some o:=fun c o n e=>by simp only[Lp,Nq,or_false,not_or]at n;exact kp c o n.1 n.2.2.1 n.2.2.2.1 n.2.2.2.2 e
  have PT:∀c o,H c=some o->c ∉ [z,TI,TO,i1,i2]:=fun c o e hc=>by have:=(hf c hc).1;rw[e]at this;cases this
  refine L2.Inv.step (s:=s) (h':=h') (g':=s.gens) (d':=s.drawn) (t':=s.toks) (ch:=[z,TI,TO,i1,i2]) I (fun c hc=>?_) (fun c o _ _ n e _=>NL c o n e) (fun c o _ _ n e _=>⟨o.slots,NL c o n e⟩) (fun _ _ _ _ n=>n) (fun c o n e=>⟨o,NL c o n e⟩) (fun _ _ e=>e) (fun _ _ _ e=>e) (fun c ps e=>⟨#[],by rw[e];simp⟩) (fun m hm=>?_) (fun c o e=>?_) I.bare
  ·obtain⟨f0,f1,f2,f3,f4,f5⟩:=hf c hc;exact⟨f3,f1,f4,f5⟩
  ·obtain⟨o,N9,ep,ho,r⟩:=hm;exact⟨o,N9,ep,NL _ o (fun q=>(hf _ q).2.1 rfl) ho,r⟩
  ·refine(I.Lu c o e).Oz (fun d' o' hd q=>NL d' o' ?_ q) (fun _ q=>q) fun _ _ q=>q
   rcases hd with q'|q'
   ·rw[q'];exact PT c o e
   ·exact PT d' _ q'
 self:=fun _ _ _ _ _ st h=>wpAny_pyIter_zip st.z h
def fx:D->Option (Bool×yar)
 |.lst _ ds=>some (true,ds)
 |.tup ds=>some (false,ds)
 |_=>none
section
variable{X:Cx}
def Den.seq{k:Bool}{ds:yar}(h:Den X.K P H d v)(e:fx d=some (k,ds)):∃a vs,v=.ref a/\OX X.K k H a vs/\ag X.K P H ds vs ∧
  ∀ (P':yak) (H':Hp),(∀a vs,LO X.K H a vs->LO X.K H' a vs)->(∀t a vs,¬P t a->Na X.K H t a vs->¬P' t a/\Na X.K H' t a vs)->OX X.K k H' a vs:=by
 cases d with
 |lst t es =>
  cases e;obtain⟨a,vs,e1,p,q,hd⟩:=h.RN;exact⟨a,vs,e1,q.1,hd,fun P' H' _ hL=>(hL t a vs p q).2.1⟩
 |tup es =>
  cases e;obtain⟨a,vs,e1,q,hd⟩:=h.NX;exact⟨a,vs,e1,q.w,hd,fun P' H' hT _=>(hT a vs q).w⟩
 |LJ=>cases e
 |bl _=>cases e
 |int _=>cases e
 |str _=>cases e
 |exc _=>cases e
 |obj _ _ _=>cases e
 |Po=>cases e
 |Ob _ _=>cases e
def HD(ta:DA):DA:=fun ρ R=>ta ρ fun ds=>∃d1 d2 k1 k2 xs ys,ds=[d1,d2]/\fx d1=some (k1,xs)/\fx d2=some (k2,ys)/\R (List.zipWith (fun x y=>D.tup [x,y]) xs ys)
def qZ {a b:Expr} {p:Pos} (hg:Gl X "zip") (hm:X.mg "zip" = none) (ha:PN X [a,b] ta) (hs:starEach [a,b] X.env=(false,eval a X.env)::starEach [b] X.env:=by rfl) (RT:(backTo pos (starEach [b] X.env)).any (·.1)=false:=by rfl) :
  PY X (.Tuple es kt tp) (.Call (.Name "zip" p) [a,b] [] pos) (HD ta):=by
 intro pins s σ H W ρ R I r h;refine Call_ (df I hg hm boot_zip (PyProof.Rows.callWith_type1 (Lj (ha pos pins s σ H W ρ _ I r h) fun us s1 ⟨vs,H1,ds,I1,r1,e1,hd,q1⟩=>?_) hs RT));obtain⟨d1,d2,k1,k2,xs,ys,e,g1,g2,q⟩:=q1;subst e;obtain⟨v1,v2,rfl,Qs,hd2⟩:=qQ hd;obtain⟨l1,Sy,e2,ZW,V0,up1⟩:=Qs.seq g1;obtain⟨l2,Sz,e3,ZX,V1,VZ⟩:=hd2.seq g2;subst e2 e3;cases r1 with
 |cons ra rr =>
  cases rr with
  |cons rb rr =>
   cases rr;cases ra;cases rb;obtain⟨us1,_,p1⟩:=ZW.list I1;obtain⟨us2,_,p2⟩:=ZX.list I1;have nn:∀j:Nat,s1.heap.objs.size<=s1.heap.objs.size+j:=fun j=>TV _ j
   refine E2 p1 p2 fun h' Z kp=>?_
   refine wpAny_pyIter_zip Z.z ?_;have Dz:Ap (s1.heap.objs.size+4) (s1.heap.objs.size+2) (s1.heap.objs.size+3) s1.heap.objs.size (s1.heap.objs.size+1):=by constructor<;>simp
   refine⟨s1.heap.objs.size+4,[s1.heap.objs.size+4,s1.heap.objs.size+2,s1.heap.objs.size+3,s1.heap.objs.size,s1.heap.objs.size+1],_,_,H1,_,rfl,I1.kept (t':=s1.toks) kp,e1,Eo k1 k2 l1 l2 _ _ _ _ _ Dz,Z,fun c hc=>?_,?_,q⟩
   ·have PU:s1.heap.objs.size<=c:=by
     simp only[Lp,Nq,or_false]at hc;rcases hc with q|q|q|q|q<;>subst q<;>first|exact nn _|exact LG _
    exact I1.RL PU (I1.Lu.fresh PU)
   ·intro P' H' hT hL hX i;have Pq:=up1 P' H' hT hL;have Xy:=VZ P' H' hT hL;have n1:=V0.len;have n2:=V1.len;have hlen:(List.zipWith (fun x y=>D.tup [x,y]) xs ys).length=min xs.length ys.length:=List.length_zipWith;refine⟨fun hi=>?_,fun v H3 y hi=>?_,fun hi=>⟨Sy,Sz,Pq,Xy,?_⟩⟩
    ·obtain⟨x,hx,_⟩:=V0.get (i:=i) (d:=xs[i]'(by lia)) (by simp);obtain⟨y,hy,_⟩:=V1.get (i:=i) (d:=ys[i]'(by lia)) (by simp);exact⟨Sy,Sz,x,y,Pq,Xy,hx,hy⟩
    ·obtain⟨T,x,y',e,nT,eH,hx,hy⟩:=y;subst e eH;obtain⟨dx,Pu,OV⟩:=V0.bC (hx Sy Pq);obtain⟨dy,R6,Qp⟩:=V1.bC (hy Sz Xy);have sm:ar H' (L2.upd H' T (.tup [x,y'])):=ar.upd nT;refine⟨sm,.tup [dx,dy],by simp[List.getElem?_zipWith,Pu,R6],Den.tup (LO.of aH) (ag.cons ((Den.map hT hL hX dx x OV).same sm) (ag.one ((Den.map hT hL hX dy y' Qp).same sm)))⟩
    ·by_cases hz:xs.length<=i
     ·exact .inl (RD (by lia))
     ·exact .inr (RD (by lia))
end
open PySem PySem.Spec PyProof.Rows L2
def QS(X:Cx)(e:Expr)(t:DA):Prop :=
 ∀ (pins:yab) (s:Shared) (σ:St) (H:Hp) (W:Own) (ρ:Ro) (Q:yar->Prop),Inv X pins σ H s->Rel X W H σ ρ->t ρ Q →
  wpAny (model X.prog X.w) X.A (eval e X.env) (fun u s'=>∃a vs H' ds,u=.ref a/\Inv X pins σ H' s'/\ar H H'/\H a=none/\X.K.lookup a=none/\H' a=some (.lst vs)/\ag X.K (fun t b=>W.bad t b∨b=a) H' ds vs/\Q ds) X.xe s
def Ho(t:DA):DE:=fun ρ Q=>t ρ fun ds=>Q (.lst true ds)
section
variable{X:Cx}{e:Expr}{t:DA}{pos:Pos}
def QS.SA(h:QS X e t):Lx X e (Ho t):=by
 intro pins s σ H W ρ Q I r hw;refine Lj (h pins s σ H W ρ _ I r hw) fun u s1 ⟨a,vs,H',ds,e,I1,sm,n,k,ha,hd,q⟩=>?_
 subst e;exact⟨.ref a,H',_,I1,rfl,sm,Den.lst (r.fresh n) (.new ha k) (hd.Lo fun _ _ z=>.inl z),q⟩
def QS.of(h:PE X e te)(k:∀σ H W ρ Q,Rel X W H σ ρ->t ρ Q->te σ H fun v H'=>∃a vs ds H1,v=.ref a/\ar H H1/\H1 a=none/\H'=L2.upd H1 a (.lst vs)/\ag X.K W.bad H1 ds vs/\Q ds)(hK:∀pins σ H s a vs,Inv X pins σ H s->H a=some (.lst vs)->X.K.lookup a=none):QS X e t:=by
 intro pins s σ H W ρ Q I r hw;refine Lj (h pins s σ H _ I (k σ H W ρ Q r hw)) fun u s1 ⟨v,H',I1,rv,a,vs,ds,H1,e,sm,n,eH,hd,q⟩=>?_
 subst e eH;cases rv;exact⟨a,vs,_,ds,rfl,I1,sm.trans (ar.upd n),sm.free n,hK _ _ _ _ a vs I1 aH,aH,ag.apart n (hK _ _ _ _ a vs I1 aH) hd,q⟩
def Inv.Xz{o:HO}(I:Inv X pins σ H s)(h:H a=some o):X.K.lookup a=none:=by
 cases e:X.K.lookup a with
 |none=>rfl
 |some ob =>
  have:=(I.bs a ob (I.ok.mod.WC a ob e)).2;rw[h]at this;cases this
def JE(i:Nat)(t:DA):DS:=fun E ρ=>t ρ fun ds=>E.nx (ρ.set i (some (.own ds)))
end
mutual
def Ky:D->Bool
 |.tup ds=>rq ds
 |.obj _ _ ds=>rq ds
 |.Ob _ ds=>rq ds
 |.lst _ _=>false
 |_=>true
def rq:yar->Bool
 |[]=>true
 |d::ds=>Ky d && rq ds
end
mutual
def mU:D->Bool
 |.tup ds=>qM ds
 |.obj _ _ ds=>qM ds
 |.Ob _ ds=>qM ds
 |.lst t ds=>t && qM ds
 |_=>true
def qM:yar->Bool
 |[]=>true
 |d::ds=>mU d && qM ds
end
def Own.soft(W:Own)(i:Nat)(a:Addr):Own:=⟨W.B,fun j=>if j=i then none else W.O j,fun b=>W.S b∨b=a⟩
section
variable{X:Cx}
theorem Rel.soft{i:Nat}(r:Rel X W H σ ρ)(e:ρ[i]?=some (some (.own ds))):∃a,W.O i=some a/\Rel X (W.soft i a) H σ (ρ.set i (some (.val (.lst false ds))))/\∀b,W.bad true b->(W.soft i a).bad true b:=by
 obtain⟨a,vs,oa,sa,ha,LQ⟩:=r.dU i ds e;have OW:i<ρ.length:=(L6.mp e).1;have hO:∀j b,(W.soft i a).O j=some b->j≠i/\W.O j=some b:=fun j b h=>by
  have h1:(if j=i then none else W.O j)=some b:=h;by_cases z:j=i
  ·rw[K4 z]at h1;cases h1
  ·rw[K3 z]at h1;exact⟨z,h1⟩
 have low:∀t b,(W.soft i a).bad t b->W.bad t b:=fun t b z=>by
  rcases z with z|⟨j,z⟩| ⟨z1,z2⟩
  ·exact .inl z
  ·exact .inr (.inl ⟨j,(hO j b z).2⟩)
  ·rcases z2 with z2|z2
   ·exact .inr (.inr ⟨z1,z2⟩)
   ·subst z2;exact .inr (.inl ⟨i,oa⟩)
 have nb:¬(W.soft i a).bad false a:=fun z=>by
  rcases z with z|⟨j,z⟩| ⟨z1,_⟩
  ·exact(r.kn i a oa).2.1.1 z
  ·exact(hO j a z).1 (r.inj j i a (hO j a z).2 oa)
  ·cases z1
 refine⟨a,oa,⟨fun j d h=>?_,fun j x h=>?_,fun j k b h1 h2=>r.inj j k b (hO j b h1).2 (hO k b h2).2,fun j b h=>?_,fun j b h=>r.ke j b (hO j b h).2,r.bt,fun b h=>?_,r.ent,r.tab⟩,fun b z=>?_⟩
 ·by_cases hj:j=i
  ·subst hj;rw[Ou OW]at h;cases h;exact⟨.ref a,sa,Den.lst nb (.any (SqL.of ha)) (LQ.Lo low)⟩
  ·rw[NK (Ne.symm hj)]at h;obtain⟨w,h1,h2⟩:=r.val j d h;exact⟨w,h1,h2.Lo low⟩
 ·by_cases hj:j=i
  ·subst hj;rw[Ou OW]at h;cases h
  ·rw[NK (Ne.symm hj)]at h;obtain⟨b,ws,h1,h2,h3,h4⟩:=r.own j x h;exact⟨b,ws,by show(if j=i then none else W.O j)=_;rw[K3 hj];exact h1,h2,h3,h4.Lo low fun k c q=>(by show(if Nt σ.length j k=i then none else W.O (Nt σ.length j k))=_;rw[K3 (gQ (L6.mp sa).1)];exact q)⟩
 ·obtain⟨k1,⟨k2,k3⟩,k4⟩:=r.kn j b (hO j b h).2;refine⟨k1,⟨k2,fun z=>z.elim k3 fun z=>?_⟩,k4⟩;subst z;exact(hO j b h).1 (r.inj j i b (hO j b h).2 oa)
 ·rcases h with h|h
  ·exact r.st b h
  ·subst h;exact⟨_,ha⟩
 ·rcases z with z|⟨j,z⟩| ⟨_,z⟩
  ·exact .inl z
  ·by_cases hj:j=i
   ·subst hj;rw[oa]at z;cases z;exact .inr (.inr ⟨rfl,.inr rfl⟩)
   ·exact .inr (.inl ⟨j,by show(if j=i then none else W.O j)=_;rw[K3 hj];exact z⟩)
  ·exact .inr (.inr ⟨rfl,.inl z⟩)
variable{e:Expr}{te:DE}{tt:DT}{ta:DA}
def A8(i:Nat)(t:DT):DT:=fun ρ Q=>∃ds,ρ[i]?=some (some (.own ds))/\t (ρ.set i (some (.val (.lst false ds)))) Q
def Fq(i:Nat)(h:PL X e tt):PL X e (A8 i tt):=by intro pins s σ H W ρ Q I r hw;obtain⟨ds,eo,hw⟩:=hw;obtain⟨a,oa,r',up⟩:=r.soft eo;exact h pins s σ H _ _ _ I r' hw
end
section
variable{X:Cx}{pos:Pos}
theorem ag.take{K:yac}{P:yak}{H:Hp}:∀{ds:yar} {vs:yaq} (n:Nat),ag K P H ds vs->ag K P H (ds.take n) (vs.take n)
 |_,_,0,_=>by simp only[List.take_zero];exact ag.nil
 |[],_,_+1,h=>by simp only[ag]at h;subst h;exact ag.nil
 |x::r,_,n+1,h=>by simp only[ag]at h;obtain⟨u,w,rfl,h1,h2⟩:=h;exact ag.cons h1 (ag.take n h2)
theorem ag.drop{K:yac}{P:yak}{H:Hp}:∀{ds:yar} {vs:yaq} (n:Nat),ag K P H ds vs->ag K P H (ds.drop n) (vs.drop n)
 |_,_,0,h=>by simpa only[List.drop_zero]using h
 |[],_,_+1,h=>by simp only[ag]at h;subst h;exact ag.nil
 |x::r,_,n+1,h=>by simp only[ag]at h;obtain⟨u,w,rfl,h1,h2⟩:=h;exact ag.drop n h2
theorem ag.rev{K:yac}{P:yak}{H:Hp}:∀{ds:yar} {vs:yaq},ag K P H ds vs->ag K P H ds.reverse vs.reverse
 |[],_,h=>by simp only[ag]at h;subst h;exact ag.nil
 |x::r,_,h=>by simp only[ag]at h;obtain⟨u,w,rfl,h1,h2⟩:=h;rw[UA,UA];exact(ag.rev h2).append (ag.one h1)
def zN(i:Nat)(C:yar->Prop)(f:yar->yar):DS:=fun E ρ=>∃ds,ρ[i]?=some (some (.own ds))/\C ds/\E.nx (ρ.set i (some (.own (f ds))))
def Dh {x name:Str} {id:String} {px apos cpos:Pos} {rm:V->yaq->Hp->VK->Prop} {C:yar->Prop} {f:yar->yar} (g:yaq->yaq) (i:Nat) (slot:Slot "list" name id) (WJ:typeOf (.builtin id)=pure (.type "method_descriptor")) (hm:MtM X id rm)
  (hr:∀(a:Addr) (vs:yaq) (ds:yar) (H:Hp) (Q:VK),H a=some (.lst vs)->vs.length=ds.length->C ds->(∀v,Q v (L2.upd H a (.lst (g vs))))->rm (.ref a) [] H Q) (hg:∀(K:yac) (P:yak) (H:Hp) (ds:yar) (vs:yaq),ag K P H ds vs->ag K P H (f ds) (g vs))
  (hi:X.N[i]?=some x:=by rfl) (hv:Rt X.env.scope x:=by first|exact Or.inl rfl|exact Or.inr (Or.inl rfl)|exact Or.inr (Or.inr rfl)) (hd:(x==("__debug__" : Str))=false:=by decide) (Oa:(x==("__classdict__" : Str))=false:=by decide)
  (ML:attributeBase (.Name x px) name X.env (eval (.Name x px) X.env)=eval (.Name x px) X.env:=by rfl) (MM:(apos.endLine==cpos.line)=true:=by rfl)
  (hs:swapsWith (.Call (.Attribute (.Name x px) name apos) [] [] cpos) none pos.line X.env=pure false:=by rfl):NA X (.Expr (.Call (.Attribute (.Name x px) name apos) [] [] cpos) pos) (zN i C f):=by
 have P0:=oU (pos:=pos) (IV PySem.F.plainAttrs_list slot WJ hm (iF hi hv hd Oa) ML MM) hs;refine NA.of P0 fun σ H W ρ E r hl h=>?_
 obtain⟨ds,eo,hc,h⟩:=h;obtain⟨a,vs,oa,sa,ha,LQ⟩:=r.dU i ds eo;obtain⟨r',f'⟩:=r.Q8 eo oa sa ha (hg _ _ _ ds vs LQ);exact⟨.ref a,sa,.inl ⟨rfl,_,SqL.of ha⟩,hr a vs ds H _ ha LQ.len hc fun v=>⟨W,_,f',r',h⟩⟩
theorem ag.dropLast{K:yac}{P:yak}{H:Hp}{ds:yar}{vs:yaq}(h:ag K P H ds vs):ag K P H ds.dropLast vs.dropLast:=by rw[List.dropLast_eq_take,List.dropLast_eq_take,h.len];exact h.take _
def HM {x:Str} {px apos cpos:Pos} (i:Nat) (hi:X.N[i]?=some x:=by rfl) (hv:Rt X.env.scope x:=by first|exact Or.inl rfl|exact Or.inr (Or.inl rfl)|exact Or.inr (Or.inr rfl)) (hd:(x==("__debug__" : Str))=false:=by decide) (Oa:(x==("__classdict__" : Str))=false:=by decide)
  (ML:attributeBase (.Name x px) "pop" X.env (eval (.Name x px) X.env)=eval (.Name x px) X.env:=by rfl) (MM:(apos.endLine==cpos.line)=true:=by rfl)
  (hs:swapsWith (.Call (.Attribute (.Name x px) "pop" apos) [] [] cpos) none pos.line X.env=pure false:=by rfl):NA X (.Expr (.Call (.Attribute (.Name x px) "pop" apos) [] [] cpos) pos) (zN i (fun ds=>0<ds.length) List.dropLast) :=
 Dh List.dropLast i PySem.F.slot_list_pop PySem.F.type_list_pop IG (fun a vs ds H Q ha hl hc q=>by
  have hp:vs.length - 1<vs.length:=by lia
  exact⟨a,vs,vs[vs.length - 1],rfl,rfl,ha,by simp[hp],q _⟩) (fun _ _ _ _ _ h=>h.dropLast) hi hv hd Oa ML MM hs
def Kl(i:Nat)(f:Int->Int->Int)(te:DE):DS:=fun E ρ=>∃a,ρ[i]?=some (some (.val (.int a)))/\te ρ fun d=>∃b,d=.int b/\E.nx (ρ.set i (some (.val (.int (f a b)))))
def HK{x:Str}(i:Nat)(hN:X.N.Nodup)(he:Lx X e te)(ho:Ze X op (ipI f))(hi:X.N[i]?=some x:=by rfl)(hx:Loc X.env.scope x:=by first|exact Or.inl rfl|exact Or.inr rfl)
  (hf:X.fn x=true∨X.env.scope.names.lookup x=some .local:=by first|exact .inl rfl|exact .inr rfl|assumption):NA X (.AugAssign (.Name x pos') op e pos) (Kl i f te):=by
 refine NA.of (Jb hN hi hx he.pe ho hf) fun σ H W ρ E r hl h=>?_
 obtain⟨a,ea,h⟩:=h;obtain⟨v,sv,hv⟩:=r.val i _ ea;have z:=hv.L9;subst z;refine⟨.int a,sv,W,ρ,_,r,h,fun v' H' d e1 hd q=>?_⟩;obtain⟨b,rfl,q⟩:=q;have z:=hd.L9;subst z;have RQ:i<σ.length:=by rw[hl];exact(L6.mp hi).1
 exact⟨a,b,rfl,rfl,W.drop i,_,(LC.same e1).trans (LC.drop W H' i),(r.same e1).put RQ (Den.int _),q⟩
variable{e:Expr}{te:DE}{p:Pos}
def EM(te:DE):DA:=fun ρ Q=>te ρ fun d=>∃k ds,fx d=some (k,ds)/\Q ds
def vN{K:yac}{P:yak}{H:Hp}{d:D}{v:V}{k:Bool}{ds:yar}(h:Den K P H d v)(e:fx d=some (k,ds)):∃a vs,v=.ref a/\(SqL K H a vs∨LO K H a vs)/\ag K P H ds vs:=by
 cases d with
 |lst t es =>
  cases e;obtain⟨a,vs,e1,p,q,hd⟩:=h.Nm;exact⟨a,vs,e1,.inl q,hd⟩
 |tup es =>
  cases e;obtain⟨a,vs,e1,q,hd⟩:=h.NX;exact⟨a,vs,e1,.inr q,hd⟩
 |LJ=>cases e
 |bl _=>cases e
 |int _=>cases e
 |str _=>cases e
 |exc _=>cases e
 |obj _ _ _=>cases e
 |Po=>cases e
 |Ob _ _=>cases e
def sA (hg:Gl X "list") (hm:X.mg "list" = none) (he:Lx X e te) (NU:starEach [e] X.env=(false,eval e X.env)::starEach [] X.env:=by rfl) (MH:(backTo pos (starEach [] X.env)).any (·.1)=false:=by rfl):QS X (.Call (.Name "list" p) [e] [] pos) (EM te):=by
 refine QS.of (BY vo hg hm boot_list (jF he.pe nE NU) (by decide) (by decide) NU MH) (fun σ H W ρ Q r h=>?_) fun _ _ _ _ _ _ I h=>Inv.Xz I h
 refine⟨W,ρ,_,r,h,fun v H' d e1 hd q=>?_⟩;obtain⟨k,ds,es,q⟩:=q;obtain⟨a,vs,ev,hq,LQ⟩:=vN hd es;subst ev;exact⟨a,vs,rfl,hq.imp id LO.w,fun l hl=>⟨l,vs,ds,H',rfl,e1,hl,rfl,LQ,q⟩⟩
theorem eE{K:yac}{P:yak}{H:Hp}:∀{ns:yaf} {vs:yaq},ag K P H (ns.map D.int) vs->vs=ns.map V.int
 |[],_,h=>by simpa only[Q4,ag]using h
 |n::r,_,h=>by simp only[LD,ag]at h;obtain⟨v,w,rfl,h1,h2⟩:=h;rw[h1.L9,eE h2];rfl
def A0 (hc:X.calm=true):fM X (.builtin "sum") (fun ds Q=>∃(t:Bool) (ns:yaf),ds=[.lst t (ns.map D.int)]/\Q (.int ns.sum)):=by
 intro pins s σ H W ds vs us Q I tr r hd q;obtain⟨t,ns,e,q⟩:=q;subst e;obtain⟨v,rfl,h1⟩:=oE hd;obtain⟨a,ws,ev,_,hq,hw⟩:=h1.Nm;subst ev;cases r with
 |cons r1 rr =>
  cases rr;cases r1;obtain⟨K9,rv,pl,_⟩:=I.list hq;rw[eE hw]at rv;have ia:=intsAre_of rv;obtain⟨xs,ex⟩:=ia.allInts.items;have hl:s.heap.IsList a (intItems xs):=by rw[<- ex];exact pl.isList
  refine sum_intListG (I.ok.hd hc) hl fun h' tk t' kp=>?_
  have es:preSum (numAt xs) xs.size=ns.sum:=by rw[preSum_eq,SK (by simp),<- nums_intItems,<- ex,show K9.toArray.toList=K9 from rfl,ia.numsOf]
  rw[es];exact⟨.int ns.sum,H,_,I.kept kp,⟨_,rfl⟩,ar.refl H,Den.int _,q⟩
theorem Vals.rev:∀{xs:yaq} {us:yad},Vals xs us->Vals xs.reverse us.reverse
 |_,_,.nil=>.nil
 |_,_,.cons r t=>by rw[UA,UA];exact(Vals.rev t).append (.cons r .nil)
def cutD(xs:yar)(lo hi:yap):yar:=(xs.drop (HT.LP xs.length 0 lo)).take (HT.LP xs.length xs.length hi - HT.LP xs.length 0 lo)
def ag.cut{K:yac}{P:yak}{H:Hp}{ds:yar}{vs:yaq}(lo hi:yap)(h:ag K P H ds vs):ag K P H (cutD ds lo hi) (mY vs lo hi):=by unfold cutD mY;rw[h.len];exact(h.drop _).take _
abbrev DO:=Ro->(yap->Prop)->Prop
def SD(X:Cx)(e:Option Expr)(t:DO):Prop :=
 ∀ (pins:yab) (s:Shared) (σ:St) (H:Hp) (W:Own) (ρ:Ro) (Q:yap->Prop),Inv X pins σ H s->Rel X W H σ ρ->t ρ Q →
  wpAny (model X.prog X.w) X.A (evalPart e X.env) (fun u s'=>∃o H',Inv X pins σ H' s'/\IsPart u o/\ar H H'/\Q o) X.xe s
def da:DO:=fun _ Q=>Q none
def qP(te:DE):DO:=fun ρ Q=>te ρ fun d=>∃i,d=.int i/\Q (some i)
def eS:SD X none da:=by intro pins s σ H W ρ Q I r h;rw[evalPart_none];exact Le ⟨none,H,I,.none,ar.refl H,h⟩
def jC(he:Lx X e te):SD X (some e) (qP te):=by
 intro pins s σ H W ρ Q I r h;rw[evalPart_some];refine Lj (he pins s σ H W ρ _ I r h) fun u s1 ⟨v,H1,d,I1,rv,e1,hd,i,ed,q⟩=>?_
 subst ed;have z:=hd.L9;subst z;obtain⟨t,rfl⟩:=rv;exact⟨some i,H1,I1,.int i t,e1,q⟩
variable{lo hi st:Option Expr}{tl th ts:DO}{p2:Pos}
def qt {R : D -> yap -> yap -> yap -> Prop} (he : Lx X e te) (hl : SD X lo tl) (hh : SD X hi th) (ht : SD X st ts) (I : Inv X pins σ H s) (r : Rel X W H σ ρ)
  (h : te ρ fun d => tl ρ fun l => th ρ fun u => ts ρ fun k => R d l u k)
  (hk : ∀ (v : V) (vv vl vu vk : Value) (l u k : yap) (d : D) (sl : Addr) (H' : Hp) (s' : Shared), Inv X pins σ H' s' -> ar H H' -> RelV v vv -> Den X.K W.bad H' d v -> s'.heap.IsSliceOf sl vl vu vk -> IsPart vl l -> IsPart vu u -> IsPart vk k -> R d l u k →
   ∃ T id, typeLookup (.type T) "__getitem__" = pure (some (.builtin id)) /\ s'.TypeIs vv T /\ wpAny (model X.prog X.w) X.A (getItem vv (.ref sl)) Q X.xe s')
  (XA : ∀ vv sl, ∃ ops, subscripted (.Slice lo hi st p2) false vv sl = operate ops (getItem vv sl)) : wpAny (model X.prog X.w) X.A (eval (.Subscript e (.Slice lo hi st p2) pos) X.env) Q X.xe s := by
 refine Subscript_ (Lj (he pins s σ H W ρ _ I r h) fun vv s1 ⟨v, H1, d, I1, rv, e1, hd, q1⟩ => ?_);have r1 := r.same e1;refine wpAny_Slice (Lj (hl pins s1 σ H1 W ρ _ I1 r1 q1) fun vl s2 ⟨l, H2, I2, pl, e2, q2⟩ => Lj (hh pins s2 σ H2 W ρ _ I2 (r1.same e2) q2) fun vu s3 ⟨u, H3, I3, pu, e3, q3⟩ => Lj (ht pins s3 σ H3 W ρ _ I3 ((r1.same e2).same e3) q3) fun vk s4 ⟨k, H4, I4, pk, e4, q4⟩ => ?_);have I5 : Inv X pins σ H4 { s4 with heap := s4.heap.push { cls := .type "slice", data := .fields #[vl, vu, vk] } } := I4.kept (t' := s4.toks) fun b ob q => Mb _ q
 obtain ⟨T, id, hT, ht', hg⟩ := hk v vv vl vu vk l u k d s4.heap.objs.size H4 _ I5 (e1.trans (e2.trans (e3.trans e4))) rv (hd.same (e2.trans (e3.trans e4))) (Heap.IsSliceOf.new ..) pl pu pk q4;show wpAny (model X.prog X.w) X.A (subscriptTail e (.Slice lo hi st p2) vv (.ref s4.heap.objs.size)) Q X.xe _;obtain ⟨ops, ho⟩ := XA vv (.ref s4.heap.objs.size);exact tail_any (ops := ops) ht' hT hg ho
def Hv(te:DE)(tl th:DO):DA:=fun ρ Q=>te ρ fun d=>tl ρ fun l=>th ρ fun u=>∃t ds,d=.lst t ds/\Q (cutD ds l u)
def Hw(te:DE)(tl th:DO):DE:=fun ρ Q=>te ρ fun d=>tl ρ fun l=>th ρ fun u=>∃ds,d=.tup ds/\¬(HT.LP ds.length 0 l=0/\HT.LP ds.length ds.length u=ds.length)/\Q (.tup (cutD ds l u))
def pJ(f:yaq->yaq)(g:yar->yar)(I:Inv X pins σ H' s)(r:Rel X W H' σ ρ)(sm:ar H H')(rv:RelV v vv)(hd:Den X.K W.bad H' (.lst tg ds) v)(hs:s.heap.IsSliceOf sl vl vu vk)(pl:IsPart vl l)(pu:IsPart vu u)(pk:IsPart vk k)(k0:k≠some 0)
  (hp:∀K9:yad,∃g':yad->yad,slicePick K9.toArray l u k=(g' K9).toArray/\∀vs,Vals vs K9->Vals (f vs) (g' K9)/\(f vs).length<=vs.length) (hg:∀vs,ag X.K W.bad H' ds vs->ag X.K W.bad H' (g ds) (f vs)) {Q:yar->Prop} (q:Q (g ds)) :
  ∃ T id,typeLookup (.type T) "__getitem__" = pure (some (.builtin id))/\s.TypeIs vv T/\wpAny (model X.prog X.w) X.A (getItem vv (.ref sl)) (fun uu s'=>∃a vs Va ds,uu=.ref a/\Inv X pins σ Va s'/\ar H Va/\H a=none/\X.K.lookup a=none/\Va a=some (.lst vs)/\ag X.K (fun t b=>W.bad t b∨b=a) Va ds vs/\Q ds) X.xe s:=by
 obtain⟨a,vs,ev,_,hq,LQ⟩:=hd.Nm;subst ev;cases rv;obtain⟨K9,rr,ht,hz⟩:=I.list hq;have hlen:=rr.length;refine⟨"list", _,slot_list_getitem.lookup,ht.isList.typeIs,?_⟩;refine wpAny_getItem_list_slice ht.isList hs pl pu pk k0 ?_ (by rw[M3]<;>lia);obtain⟨g',e,hv⟩:=hp K9;rw[e];obtain⟨rv',OW⟩:=hv vs rr;have hf:H' s.heap.objs.size=none:=I.Lu.fresh (LG _);refine⟨s.heap.objs.size,f vs,_,g ds,rfl,I.laid (t':=s.toks) (o:=.lst (f vs)) (fun b ob q=>Mb _ q) (LG _) ⟨NW OW hz,_,0,rv',Nw _ rfl⟩,sm.trans (ar.upd hf),sm.free hf,Inv.MD I,aH,ag.apart hf (Inv.MD I) (hg vs LQ),q⟩
def pW(he:Lx X e te)(hl:SD X lo tl)(hh:SD X hi th):QS X (.Subscript e (.Slice lo hi none p2) pos) (Hv te tl th):=by
 intro pins s σ H W ρ Q I r h;refine qt (st:=none) (ts:=da) (R:=fun d l u k=>k=none/\∃t ds,d=.lst t ds/\Q (cutD ds l u)) he hl hh eS I r ?_ ?_ (fun _ _=>⟨_,rfl⟩)
 ·have e1:(fun d=>tl ρ fun l=>th ρ fun u=>da ρ fun k=>k=none/\∃t ds,d=D.lst t ds/\Q (cutD ds l u))=fun d=>tl ρ fun l=>th ρ fun u=>∃t ds,d=D.lst t ds/\Q (cutD ds l u):=by
   funext d
   congr 1
   funext l
   congr 1
   funext u
   exact propext ⟨fun z=>z.2,fun z=>⟨rfl,z⟩⟩
  rw[e1];exact h
 ·intro v vv vl vu vk l u k d sl H' s' I' sm rv hd hs pl pu pk hR;obtain⟨ek,t,ds,ed,q⟩:=hR;subst ek ed;exact pJ (fun vs=>mY vs l u) (fun ds=>cutD ds l u) I' (r.same sm) sm rv hd hs pl pu pk (by simp) (fun K9=>⟨fun K9=>(K9.drop (HT.LP K9.length 0 l)).take (HT.LP K9.length K9.length u - HT.LP K9.length 0 l),uK K9 l u,fun vs rr=>⟨by unfold mY;rw[rr.length];exact(rr.drop _).take _,pG vs l u⟩⟩) (fun vs LQ=>LQ.cut l u) q
def Hu(te:DE):DA:=fun ρ Q=>te ρ fun d=>∃t ds,d=.lst t ds/\Q ds.reverse
def HI(he:Lx X e te):QS X (.Subscript e (.Slice none none (some (.UnaryOp .USub (.Constant (.int 1) j pc) pu)) p2) pos) (Hu te):=by
 intro pins s σ H W ρ Q I r h;refine qt (ts:=qP (vJ (dC (.int 1)))) (tl:=da) (th:=da) (R:=fun d l u k=>l=none/\u=none/\k=some (-1)/\∃t ds,d=.lst t ds/\Q ds.reverse) he eS eS (jC (cg ae)) I r ?_ ?_ (fun _ _=>⟨_,rfl⟩)
 ·have e1:(fun d=>da ρ fun l=>da ρ fun u=>qP (vJ (dC (.int 1))) ρ fun k=>l=none/\u=none/\k=some (-1)/\∃t ds,d=D.lst t ds/\Q ds.reverse)=fun d=>∃t ds,d=D.lst t ds/\Q ds.reverse:=by
   funext d
   apply propext;simp only[da,qP,vJ,dC,true_and];constructor
   ·rintro⟨i,e1,i',e2,e3,z⟩;exact z
   ·intro z;exact⟨1,rfl,-1,rfl,rfl,z⟩
  rw[e1];exact h
 ·intro v vv vl vu vk l u k d sl H' s' I' sm rv hd hs pl pu pk hR;obtain⟨e1,e2,e3,t,ds,ed,q⟩:=hR;subst e1 e2 e3 ed;exact pJ List.reverse List.reverse I' (r.same sm) sm rv hd hs pl pu pk (by decide) (fun K9=>⟨List.reverse,PySem.W.krv_pick K9.toArray,fun vs rr=>⟨Vals.rev rr,by rw[QX];exact LG _⟩⟩) (fun vs LQ=>LQ.rev) q
end
section
variable{prog:Program}{w:World}{A:Around}{E:yaa}{s:Shared}{p q:Addr}{us ws:yad}{Q:yaa}
def Kg(hp:s.heap.IsList p us.toArray)(hq:s.heap.IsList q ws.toArray)(hz:us.length+ws.length<=sizeLine)
  (h:Q (.ref s.heap.objs.size) {s with heap:=s.heap.push {cls:=.type "list", data:=.seq (us++ws).toArray} }):wpAny (model prog w) A (binaryOp .Add (.ref p) (.ref q)) Q E s:=by
 obtain⟨⟨c1,k1,x1,y1⟩,g1,g2,n1,g3⟩:=id hp;obtain⟨⟨c2,k2,x2,y2⟩,f1,f2,n2,f3⟩:=id hq;simp only at g2 g3 f2 f3;subst g2 g3 f2 f3;refine concat_meets ⟨_,g1,rfl⟩ ⟨_,f1,rfl⟩ noFill_list_add seq_list_add PySem.F.slot_list_add PySem.F.entry_list_add (PySem.F.args_list_add_2 _ _) (list_addW p q us.toArray ws.toArray n1 n2 k1 k2 y1 y2 (by simpa using hz)) ⟨g1,f1,?_⟩;rw[show us.toArray++ws.toArray=(us++ws).toArray by simp];exact h
def gU(hp:IsTup s.heap p us.toArray)(hq:IsTup s.heap q ws.toArray)(hz:us.length+ws.length<=sizeLine)(h0:us=[]->Q (.ref q) s)(h1:ws=[]->Q (.ref p) s)
  (h:Q (.ref s.heap.objs.size) {s with heap:=s.heap.push {cls:=.type "tuple", data:=.seq (us++ws).toArray} }):wpAny (model prog w) A (binaryOp .Add (.ref p) (.ref q)) Q E s:=by
 obtain⟨⟨c1,k1,x1,y1⟩,g1,g2,n1,g3⟩:=id hp;obtain⟨⟨c2,k2,x2,y2⟩,f1,f2,n2,f3⟩:=id hq;simp only at g2 g3 f2 f3;subst g2 g3 f2 f3;by_cases hv:us=[]
 ·exact concat_meets ⟨_,g1,rfl⟩ ⟨_,f1,rfl⟩ noFill_tuple_add seq_tuple_add PySem.F.slot_tuple_add PySem.F.entry_tuple_add (PySem.F.args_tuple_add_2 _ _) (tuple_addW0 p q us.toArray ws.toArray n1 n2 k1 k2 y1 y2 (by simp[hv])) ⟨g1,f1,h0 hv⟩
 ·by_cases hw:ws=[]
  ·exact concat_meets ⟨_,g1,rfl⟩ ⟨_,f1,rfl⟩ noFill_tuple_add seq_tuple_add PySem.F.slot_tuple_add PySem.F.entry_tuple_add (PySem.F.args_tuple_add_2 _ _) (tuple_addW1 p q us.toArray ws.toArray n1 n2 k1 k2 y1 y2 (by simpa using hv) (by simp[hw])) ⟨g1,f1,h1 hw⟩
  ·refine concat_meets ⟨_,g1,rfl⟩ ⟨_,f1,rfl⟩ noFill_tuple_add seq_tuple_add PySem.F.slot_tuple_add PySem.F.entry_tuple_add (PySem.F.args_tuple_add_2 _ _) (tuple_addW2 p q us.toArray ws.toArray n1 n2 k1 k2 y1 y2 (by simpa using hv) (by simpa using hw) (by simpa using hz)) ⟨g1,f1,?_⟩;rw[show us.toArray++ws.toArray=(us++ws).toArray by simp];exact h
end
section
variable{X:Cx}{pos:Pos}
def uU:RD2:=fun x y Q=>match x,y with
 |.int i,.int j=>Q (.int (i+j))
 |.tup xs,.tup ys=>xs.length+ys.length<=sizeLine/\Q (.tup (xs++ys))
 |.lst _ xs,.lst _ ys=>xs.length+ys.length<=sizeLine/\Q (.lst true (xs++ys))
 |_,_=>False
theorem AR(i j:Int)(Q:D->Prop):uU (.int i) (.int j) Q=Q (.int (i+j)):=rfl
theorem G9(t u:Bool)(xs ys:yar)(Q:D->Prop):uU (.lst t xs) (.lst u ys) Q=(xs.length+ys.length<=sizeLine/\Q (.lst true (xs++ys))):=rfl
def FY{W:Own}{H:Hp}{t:Bool}(tr:∀t a,W.bad t a->∃o,H a=some o)(h:H a=none):¬W.bad t a:=fun z=>by obtain⟨o,q⟩:=tr _ _ z;rw[h]at q;cases q
def aQ:MB X (binaryOp .Add) uU:=by
 intro pins s σ H W x y v u vv uu Q I tr rv ru hx hy q;cases x<;>cases y<;>first|exact q.elim|skip
 ·exact IJ pins s σ H W _ _ v u vv uu Q I tr rv ru hx hy q
 ·rename_i xs ys;obtain⟨p,vs,e1,ZY,Qs⟩:=hx.NX;obtain⟨p',vs',e2,ZZ,hd2⟩:=hy.NX;subst e1 e2;cases rv;cases ru;obtain⟨K9,r1,t1,_⟩:=I.tuple ZY.w;obtain⟨its',r2,t2,_⟩:=I.tuple ZZ.w;obtain⟨hz,q⟩:=q;have l1:=Qs.len;have l2:=hd2.len;have m1:=r1.length;have m2:=r2.length;have hz':K9.length+its'.length<=sizeLine:=by lia
  have hf:H s.heap.objs.size=none:=I.Lu.fresh (LG _);refine gU t1 t2 hz' (fun e=>?_) (fun e=>?_) ?_
  ·subst e;have:vs=[]:=Vp (by simpa using m1);subst this;have:xs=[]:=Vp (by simpa using l1.symm);subst this;exact⟨.ref p',H,_,I,rfl,ar.refl H,hy,q⟩
  ·subst e;have:vs'=[]:=Vp (by simpa using m2);subst this;have:ys=[]:=Vp (by simpa using l2.symm);subst this;rw[Rm]at q;exact⟨.ref p,H,_,I,rfl,ar.refl H,hx,q⟩
  ·exact⟨.ref s.heap.objs.size,L2.upd H s.heap.objs.size (.tup (vs++vs')),_,I.laid (t':=s.toks) (fun b u e=>Mb _ e) (LG _) ⟨by rw[MG];lia,K9++its',r1.append r2,⟨_,Nw _ rfl,rfl,_,rfl⟩⟩,rfl,ar.upd hf,Den.tup (LO.of aH) ((Qs.append hd2).same (ar.upd hf)),q⟩
 ·obtain⟨p,vs,e1,_,ZY,Qs⟩:=hx.Nm;obtain⟨p',vs',e2,_,ZZ,hd2⟩:=hy.Nm;subst e1 e2;cases rv;cases ru;obtain⟨K9,r1,t1,_⟩:=I.list ZY;obtain⟨its',r2,t2,_⟩:=I.list ZZ;obtain⟨hz,q⟩:=q;have l1:=Qs.len;have l2:=hd2.len;have m1:=r1.length;have m2:=r2.length;have hf:H s.heap.objs.size=none:=I.Lu.fresh (LG _);refine Kg t1.isList t2.isList (by lia) ?_;exact⟨.ref s.heap.objs.size,L2.upd H s.heap.objs.size (.lst (vs++vs')),_,I.laid (t':=s.toks) (fun b u e=>Mb _ e) (LG _) ⟨by rw[MG];lia,K9++its',0,r1.append r2,Nw _ rfl⟩,rfl,ar.upd hf,Den.lst (FY tr hf) (.new aH (Inv.MD I)) ((Qs.append hd2).same (ar.upd hf)),q⟩
def YB(x:D):Prop:=okD x/\(MA x).depth<64
def Gw:RD2:=fun x y Q=>YB x/\okD y/\∃ys,(y=.tup ys∨∃ t,y=.lst t ys)/\Q (.bl (!ys.any fun z=>eqD z x))
theorem va(x:D):∀ys:yar,(cE ys).any (fun y=>PyData.eqv y (MA x))=ys.any fun z=>eqD z x
 |[]=>by rw[cE];rfl
 |y::r=>by rw[cE,List.any_cons,List.any_cons,va x r];rfl
def yE{A:Around}{d:PyData}(hd:d.depth<64)(hu:A.units+64<cLine):A.units+1+min (PyData.depthAll xs) d.depth<cLine:=by
 have:min (PyData.depthAll xs) d.depth<=d.depth:=Nat.min_le_right _ _
 lia
def DJ(hu:X.A.units+64<cLine):MB X (compareOp .NotIn) Gw:=by
 intro pins s σ H W x y v u vv uu Q I _ rv ru hx hy q;obtain⟨h1,h2,ys,e,q⟩:=q;obtain⟨as,ra⟩:=eB I x v vv hx rv h1.1.1;obtain⟨bs,rb⟩:=eB I y u uu hy ru h2.1;have fin:DP X pins σ W H Q (.bool (!(cE ys).any fun y=>PyData.eqv y (MA x))) s:=by rw[va];exact⟨.bl _,H,_,I,rfl,ar.refl H,Den.bl _,q⟩
 rcases e with e|⟨t,e⟩
 ·subst e;have sh:=h2.2;rw[MA]at rb sh;exact SeqAt.notIn_tuple_reads rb ra (SeqAt.canLay_of_shaped sh) (SeqAt.canLay_of_shaped h1.1.2) (yE h1.2 hu) fin
 ·subst e;have sh:=h2.2;rw[MA]at rb sh;exact SeqAt.notIn_list_reads rb ra (SeqAt.canLay_of_shaped sh) (SeqAt.canLay_of_shaped h1.1.2) (yE h1.2 hu) fin
end
def PKD(X:Cx)(kws:List Keyword)(t:DA):Prop :=
 ∀ (pos:Pos) (pins:yab) (s:Shared) (σ:St) (H:Hp) (W:Own) (ρ:Ro) (Q:yar->Prop),Inv X pins σ H s->Rel X W H σ ρ->t ρ Q →
  wpAny (model X.prog X.w) X.A (evalAll ((backToKw pos (keywordEach kws X.env)).map (·.2))) (DAP X pins σ W H Q) X.xe s
section
variable{X:Cx}{k:Nat}{ps:yah}{kn:Str}{sp:DSp}{x:Str}{p pos kpos:Pos}{e:Expr}{es:yai}{t tk:DA}{te:DE}{nm:Option Str}{kws:List Keyword}
def Hm(sp:DSp)(t:DA):DA:=fun ρ Q=>t ρ fun ds=>sp (bc ds) (fun d=>∃ys,d=.lst true ys/\rq ys=true/\Q ys) fun _=>False
end
def Dw:Key->D
 |.inl i=>.int i
 |.inr x=>.str x
section
variable{κ:Type} [DecidableEq κ] {K:yac}{P:yak}{H:Hp}
def dq(kvs:List (κ×D))(k:κ):Option D:=(kvs.find? fun kv=>decide (kv.1=k)).map (·.2)
def putD(kvs:List (κ×D))(k:κ)(d:D):List (κ×D):=if(dq kvs k).isSome=true then kvs.map (fun kv=>if kv.1=k then(kv.1,d)else kv)else kvs++[(k,d)]
def rn(p:κ×D)(r:List (κ×D))(k:κ):dq (p::r) k=if p.1=k then some p.2 else dq r k:=by
 unfold dq;rw[Sr];by_cases e:p.1=k
 ·rw[K4 e,Qk e];rfl
 ·rw[K3 e,Q1 e]
theorem p9:∀{kvs:List (κ×D)} {kws:List (κ×V)} {k:κ},kws.map (·.1)=kvs.map (·.1)->ag K P H (kvs.map (·.2)) (kws.map (·.2))->match dq kvs k with|some d=>∃v,dZ kws k=some v/\Den K P H d v|none=>dZ kws k=none
 |[],kws,k,e,_=>by
  have:kws=[]:=by simpa using e
  subst this;exact Es
 |p::r,[],k,e,_=>by simp at e
 |p::r,q::s,k,e,h=>by
  simp only[LD,QY]at e;simp only[LD,ag]at h;obtain⟨v,u,e1,h1,h2⟩:=h;simp only[QY]at e1;obtain⟨e1,e2⟩:=e1;subst e2;rw[rn];by_cases z:p.1=k
  ·rw[K4 z,mH (e.1.trans z)];exact⟨v,by rw[e1],h1⟩
  ·rw[K3 z,mG (fun y=>z (e.1.symm.trans y))];exact p9 e.2 h2
def sI{kvs:List (κ×D)}{kws:List (κ×V)}{d:D}(e:kws.map (·.1)=kvs.map (·.1))(h:ag K P H (kvs.map (·.2)) (kws.map (·.2)))(l:dq kvs k=some d):∃v,dZ kws k=some v/\Den K P H d v:=by have:=p9 (k:=k) e h;rw[l]at this;exact this
def wK{kvs:List (κ×D)}{kws:List (κ×V)}(e:kws.map (·.1)=kvs.map (·.1))(h:ag K P H (kvs.map (·.2)) (kws.map (·.2)))(l:dq kvs k=none):dZ kws k=none:=by have:=p9 (k:=k) e h;rw[l]at this;exact this
def Em{kvs:List (κ×D)}{kws:List (κ×V)}(e:kws.map (·.1)=kvs.map (·.1))(h:ag K P H (kvs.map (·.2)) (kws.map (·.2))):(dZ kws k).isSome=(dq kvs k).isSome:=by
 cases l:dq kvs k with
 |none=>rw[wK e h l];rfl
 |some d =>
  obtain⟨v,q,_⟩:=sI e h l;rw[q];rfl
theorem wR:∀{kvs:List (κ×D)} {kws:List (κ×V)} {k:κ} {d:D} {v:V},kws.map (·.1)=kvs.map (·.1)->ag K P H (kvs.map (·.2)) (kws.map (·.2))->Den K P H d v →
  (kws.map fun kv=>if kv.1=k then(kv.1,v)else kv).map (·.1)=(kvs.map fun kv=>if kv.1=k then(kv.1,d)else kv).map (·.1)/\ag K P H ((kvs.map fun kv=>if kv.1=k then(kv.1,d)else kv).map (·.2)) ((kws.map fun kv=>if kv.1=k then(kv.1,v)else kv).map (·.2))
 |[],kws,k,d,v,e,_,_=>by
  have:kws=[]:=by simpa using e
  subst this;exact⟨rfl,ag.nil⟩
 |p::r,[],k,d,v,e,_,_=>by simp at e
 |p::r,q::s,k,d,v,e,h,hd=>by
  simp only[LD,QY]at e;simp only[LD,ag]at h;obtain⟨v',u,e1,h1,h2⟩:=h;simp only[QY]at e1;obtain⟨e1,e2⟩:=e1;subst e2;obtain⟨i1,i2⟩:=wR (k:=k) e.2 h2 hd;rw[LD,LD,LD,LD,LD,LD];by_cases z:p.1=k
  ·rw[K4 z,K4 (e.1.trans z)];exact⟨by rw[i1,e.1],ag.cons hd i2⟩
  ·rw[K3 z,K3 (fun y=>z (e.1.symm.trans y))];exact⟨by rw[i1,e.1],ag.cons (by rw[e1];exact h1) i2⟩
def Gp{kvs:List (κ×D)}{kws:List (κ×V)}(e:kws.map (·.1)=kvs.map (·.1))(h:ag K P H (kvs.map (·.2)) (kws.map (·.2)))(hd:Den K P H d v) :
  (putK kws k v).map (·.1)=(putD kvs k d).map (·.1)/\ag K P H ((putD kvs k d).map (·.2)) ((putK kws k v).map (·.2)):=by
 unfold putK putD;rw[qC,Em e h];by_cases z:(dq kvs k).isSome=true
 ·rw[K4 z,K4 z];exact wR e h hd
 ·rw[K3 z,K3 z,M6,M6,M6,M6,e];exact⟨rfl,h.append (ag.one hd)⟩
end
def yv{K:yac}{P:yak}{H:Hp}{k:Key}{v:V}(h:Den K P H (Dw k) v):v=kV k:=by
 cases k with
 |inl i=>exact h.L9
 |inr x=>exact h.S9
def PPD(X:Cx)(pos:Pos)(keys:List (Option Expr))(values:yai)(t:Ro->(List (D×D)->Prop)->Prop):Prop :=
 ∀ (pins:yab) (s:Shared) (σ:St) (H:Hp) (W:Own) (ρ:Ro) (Q:List (D×D)->Prop),Inv X pins σ H s->Rel X W H σ ρ->t ρ Q →
  wpAny (model X.prog X.w) X.A (evalPairs (pairTrees keys values X.env pos)) (fun vs s'=>∃ps H' ds,Inv X pins σ H' s'/\VV ps vs/\ar H H'/\ag X.K W.bad H' (ds.map (·.1)) (ps.map (·.1))/\ag X.K W.bad H' (ds.map (·.2)) (ps.map (·.2))/\Q ds) X.xe s
section
variable{X:Cx}{pos:Pos}
def Rel.Vb(r:Rel X W H σ ρ){i:Nat}(h:ρ[i]?=some (some (.ob (.dk kvs)))):∃a kws,W.O i=some a/\σ[i]?=some (some (.ref a))/\H a=some (.dK kws)/\kws.map (·.1)=kvs.map (·.1)/\ag X.K W.bad H (kvs.map (·.2)) (kws.map (·.2)):=by
 obtain⟨a,o,h1,h2,h3,h4⟩:=r.own i _ h;cases h4 with
 |dk e h5=>exact⟨a,_,h1,h2,h3,e,h5⟩
end
def HZ(kvs:List (Key×D))(r:Ro)(R:List (Key×D)->Prop):(∃ys,(some (Sl.ob (.dk kvs))::r)[0]?=some (some (Sl.ob (.dk ys)))/\R ys)=R kvs:=by
 apply propext;constructor
 ·rintro⟨_,e,q⟩;have e':some (some (Sl.ob (.dk kvs)))=some (some (Sl.ob (.dk _))):=e;cases e';exact q
 ·intro q;exact⟨kvs,rfl,q⟩
theorem Ia(n:Nat)(x:Option Sl)(r:Ro)(R:List (Key×D)->Prop):(∃ys,(x::r)[n+1]?=some (some (Sl.ob (.dk ys)))/\R ys)=(∃ys,r[n]?=some (some (Sl.ob (.dk ys)))/\R ys):=rfl
def GJ(t:Bool)(xs:yar)(R:yar->Prop):(∃k ds,fx (.lst t xs)=some (k,ds)/\R ds)=R xs:=by
 apply propext;constructor
 ·rintro⟨_,_,e,q⟩;cases e;exact q
 ·intro q;exact⟨_,_,rfl,q⟩
def y9{k1 k2:Bool}{xs ys:yar}(h1:fx a=some (k1,xs))(h2:fx b=some (k2,ys))(R:yar->Prop):(∃d1 d2 k1 k2 us vs,[a,b]=[d1,d2]/\fx d1=some (k1,us)/\fx d2=some (k2,vs)/\R (List.zipWith (fun x y=>D.tup [x,y]) us vs))=R (List.zipWith (fun x y=>D.tup [x,y]) xs ys):=by
 apply propext;constructor
 ·rintro⟨_,_,_,_,_,_,e,e1,e2,q⟩;cases e;rw[h1]at e1;rw[h2]at e2;cases e1;cases e2;exact q
 ·intro q;exact⟨_,_,_,_,_,_,rfl,h1,h2,q⟩
def JA(t u:Bool)(xs ys:yar)(R:yar->Prop):(∃d1 d2 k1 k2 us vs,[D.lst t xs,D.lst u ys]=[d1,d2]/\fx d1=some (k1,us)/\fx d2=some (k2,vs)/\R (List.zipWith (fun x y=>D.tup [x,y]) us vs))=R (List.zipWith (fun x y=>D.tup [x,y]) xs ys):=y9 rfl rfl R
def JB(u:Bool)(xs ys:yar)(R:yar->Prop):(∃d1 d2 k1 k2 us vs,[D.lst u xs,D.tup ys]=[d1,d2]/\fx d1=some (k1,us)/\fx d2=some (k2,vs)/\R (List.zipWith (fun x y=>D.tup [x,y]) us vs))=R (List.zipWith (fun x y=>D.tup [x,y]) xs ys):=y9 rfl rfl R
def E9(b:Bool):mU (.bl b)=true:=by rw[mU]<;>(intros;contradiction)
def CQ(b:Int):mU (.int b)=true:=by rw[mU]<;>(intros;contradiction)
def CS:mU .LJ=true:=by rw[mU]<;>(intros;contradiction)
def comp_map{α:Type}{wi:DA}{js:yag}{tc:DT}{te:DE}{Q:D->Prop}(xs:List α)(f:α->D)(c:α->Bool)(g:α->D)(hw:∀R:yar->Prop,R (xs.map f)->wi ρ R)(hz:xs.length<=sizeLine)
  (hc:∀x∈xs,∀K:Bool->Prop,K (c x)->tc (some (.val (f x))::js.map (bC ρ)) K) (he:∀x∈xs,c x=true->∀K:D->Prop,K (g x)->te (some (.val (f x))::js.map (bC ρ)) K) (q:Q (.lst true ((xs.filter c).map g))):oA wi js tc te ρ Q:=by
 refine hw _ ⟨by rw[K8];exact hz,fun j out=>out=((xs.take j).filter c).map g,by simp,fun j d out hd ho=>?_,fun out ho=>?_⟩
 ·rw[LZ]at hd;cases ex:xs[j]? with
  |none=>rw[ex]at hd;cases hd
  |some x =>
   rw[ex]at hd;cases hd;have hm:x∈xs:=Mz ex;have ht:xs.take (j+1)=xs.take j++[x]:=by rw[SR,ex];rfl
   refine hc x hm _ ?_;by_cases z:c x=true
   ·rw[K4 z];refine he x hm z _ ?_;show _=List.map g (List.filter c (List.take (j+1) xs));rw[ht,ho,Yp,M6];simp[z]
   ·rw[K3 z];show _=List.map g (List.filter c (List.take (j+1) xs));rw[ht,ho,Yp];simp[z]
 ·rw[K8,SK (LG _)]at ho;rw[ho];exact q
def yB{α:Type}{wi:DA}{g:DG}{tb:DS}{E:oo}(xs:List α)(f:α->D)(Pv:List α->Ro->Prop)(hw:∀R:yar->Prop,R (xs.map f)->wi ρ R)(p0:Pv [] ρ)
  (turn:∀(done:List α) (x:α) (Ld:Ro),x∈xs->done.length<xs.length->Pv done Ld->g (f x) Ld fun ρ2=>tb {E with nx:=Pv (done++[x]),ct:=Pv (done++[x]),bk:=E.nx} ρ2) (fin:∀Ld,Pv xs Ld->E.nx Ld):vG wi g tb E ρ:=by
 refine hw _ ⟨fun j=>Pv (xs.take j),by simpa using p0,fun j d Ld hd hp=>?_,fun Ld hp=>fin Ld (by rw[K8,SK (LG _)]at hp;exact hp)⟩;rw[LZ]at hd;cases ex:xs[j]? with
 |none=>rw[ex]at hd;cases hd
 |some x =>
  rw[ex]at hd;cases hd;have hj:=(L6.mp ex).1;have ht:xs.take (j+1)=xs.take j++[x]:=by rw[SR,ex];rfl
  show g (f x) Ld fun ρ2=>tb {E with nx:=Pv (xs.take (j+1)),ct:=Pv (xs.take (j+1)),bk:=E.nx} ρ2
  rw[ht];exact turn (xs.take j) x Ld (Mz ex) (by rw[Qj];lia) hp
structure NQ(n:Nat)(d:D):Prop where
 pl:PV d=true
 lay:(MA d).canLay0=true
 dp:(MA d).depth<=n
structure iS(n:Nat)(ds:yar):Prop where
 pl:nF ds=true
 lay:PyData.canLayAll0 (cE ds)=true
 dp:PyData.depthAll (cE ds)<=n
def NQ.ok(h:NQ n d)(hn:n<=64:=by decide):okD d:=⟨h.pl,by unfold SeqAt.shaped;rw[h.lay,Qk (NW h.dp hn)];rfl⟩
theorem NQ.YB(h:NQ n d)(hn:n<64:=by decide):YB d:=⟨h.ok (QK hn),Ux h.dp hn⟩
theorem NQ.int(n:Nat)(i:Int):NQ n (.int i):=⟨by rw[PV]<;>(intros;contradiction),by rw[MA,PyData.canLay0],by rw[MA,PyData.depth];exact MK _⟩
def iS.nil(n:Nat):iS n []:=⟨by rw[nF],by rw[cE,PyData.canLayAll0],by rw[cE,PyData.depthAll];exact MK _⟩
def iS.cons(h:NQ n d)(h':iS n ds):iS n (d::ds):=⟨by rw[nF,h.pl,h'.pl];rfl,by rw[cE,PyData.canLayAll0,h.lay,h'.lay];rfl,by rw[cE,PyData.depthAll];exact Nat.max_le.mpr ⟨h.dp,h'.dp⟩⟩
theorem iS.of:∀{ds:yar},(∀d∈ds,NQ n d)->iS n ds
 |[],_=>.nil n
 |d::r,h=>.cons (h d Ng) (iS.of fun x hx=>h x (L8 _ hx))
theorem NQ.tup(h:iS n ds):NQ (n+1) (.tup ds):=⟨by rw[PV];exact h.pl,by rw[MA,PyData.canLay0];exact h.lay,by rw[MA,PyData.depth];exact Nat.succ_le_succ h.dp⟩
theorem NQ.lst(h:iS n ds):NQ (n+1) (.lst t ds):=⟨by rw[PV];exact h.pl,by rw[MA,PyData.canLay0];exact h.lay,by rw[MA,PyData.depth];exact Nat.succ_le_succ h.dp⟩
theorem NQ.map{α:Type}{f:α->D}{xs:List α}(h:∀x,NQ n (f x)):NQ (n+1) (.lst t (xs.map f)):=NQ.lst (iS.of fun d hd=>by obtain⟨x,_,rfl⟩:=LR.mp hd;exact h x)
def iX(xs ys:yar):Bool:=PyData.eqvAll (cE xs) (cE ys)
def sD(t u:Bool)(xs ys:yar):eqD (.lst t xs) (.lst u ys)=iX xs ys:=by unfold eqD iX;rw[MA,MA,PyData.eqv]
def yz(xs ys:yar):eqD (.tup xs) (.tup ys)=iX xs ys:=by unfold eqD iX;rw[MA,MA,PyData.eqv]
def p4:iX [] []=true:=by unfold iX;rw[cE,PyData.eqvAll]
def j6(x y:D)(xs ys:yar):iX (x::xs) (y::ys)=(eqD x y && iX xs ys):=by unfold iX eqD;rw[cE,cE,PyData.eqvAll]
def Fv(y:D)(ys:yar):iX (y::ys) []=false:=by unfold iX;rw[cE,cE,PyData.eqvAll]
def sE(x y:Str):eqD (.str x) (.str y)=(x==y):=by unfold eqD;rw[MA,MA,PyData.eqv]
def Fu:eqD .LJ .LJ=true:=by unfold eqD;rw[MA,PyData.eqv]
mutual
theorem fT:∀d:D,eqD d d=true
 |.LJ=>Fu
 |.bl b=>by rw[Bl];simp
 |.int i=>by rw[kU];simp
 |.str x=>by rw[sE];simp
 |.exc _=>by unfold eqD;rw[MA,PyData.eqv]
 |.obj _ _ _=>by unfold eqD;rw[MA,PyData.eqv]
 |.Po=>by unfold eqD;rw[MA,PyData.eqv]
 |.Ob _ _=>by unfold eqD;rw[MA,PyData.eqv]
 |.tup ds=>by rw[yz];exact nk ds
 |.lst t ds=>by rw[sD];exact nk ds
theorem nk:∀ds:yar,iX ds ds=true
 |[]=>p4
 |d::r=>by rw[j6,fT d,nk r];rfl
end
section
variable{X:Cx}{a b c:Expr}{ta tb tc:DE}{pos:Pos}
def A7(ti:DE):DA:=fun ρ R=>ti ρ fun d=>∃ds,d=.tup ds/\R ds
def Br(h:Lx X iter ti):PY X tg iter (A7 ti):=by
 refine PY.of (IZ h.pe) fun σ H W ρ R r hw=>⟨W,ρ,_,r,hw,fun v H1 d e1 hd q=>?_⟩
 obtain⟨ds,rfl,q⟩:=q;obtain⟨p,vs,rfl,hq,LQ⟩:=hd.NX;refine⟨p,rfl,⟨vs,hq.w⟩,e1,ds,?_,q⟩;intro P' H' hT hL hX i;have Td:=(hT p vs hq).w;have hl:=LQ.len;refine⟨fun hi=>?_,fun x H3 y hi=>?_,fun hi=>⟨vs,Td,by lia⟩⟩
 ·obtain⟨v,hv,_⟩:=LQ.get (i:=i) (d:=ds[i]) (by simp[hi]);exact⟨vs,v,Td,hv⟩
 ·obtain⟨e3,y⟩:=y;subst e3;obtain⟨d,h1,h2⟩:=LQ.bC (y vs Td);exact⟨ar.refl _,d,h1,Den.map hT hL hX d _ h2⟩
def Iw(xs:yar)(R:yar->Prop):(∃ds,D.tup xs=.tup ds/\R ds)=R xs:=by
 apply propext;constructor
 ·rintro⟨_,e,q⟩;cases e;exact q
 ·intro q;exact⟨xs,rfl,q⟩
variable{e:Expr}{te:DE}{lo hi:Option Expr}{tl th:DO}{p2:Pos}
def Bg(he:Lx X e te)(hl:SD X lo tl)(hh:SD X hi th):Lx X (.Subscript e (.Slice lo hi none p2) pos) (Hw te tl th):=by
 intro pins s σ H W ρ Q I r h;refine qt (st:=none) (ts:=da) (R:=fun d l u k=>k=none/\∃ds,d=.tup ds/\¬(HT.LP ds.length 0 l=0/\HT.LP ds.length ds.length u=ds.length)/\Q (.tup (PD.cutD ds l u))) he hl hh eS I r ?_ ?_ (fun _ _=>⟨_,rfl⟩)
 ·have e1:(fun d=>tl ρ fun l=>th ρ fun u=>da ρ fun k=>k=none/\∃ds,d=D.tup ds/\¬(HT.LP ds.length 0 l=0/\HT.LP ds.length ds.length u=ds.length)/\Q (.tup (PD.cutD ds l u)))=fun d=>tl ρ fun l=>th ρ fun u=>∃ds,d=D.tup ds/\¬(HT.LP ds.length 0 l=0/\HT.LP ds.length ds.length u=ds.length)/\Q (.tup (PD.cutD ds l u)):=by
   funext d
   congr 1
   funext l
   congr 1
   funext u
   exact propext ⟨fun z=>z.2,fun z=>⟨rfl,z⟩⟩
  rw[e1];exact h
 ·intro v vv vl vu vk l u k d sl H' s' I' sm rv hd hs pl pu pk hR;obtain⟨ek,ds,ed,hw,q⟩:=hR;subst ek ed;cases pk;obtain⟨p,vs,ev,hq,LQ⟩:=hd.NX;subst ev;obtain⟨T,id,h1,h2,h3⟩:=Jm pins s' σ H' (.ref p) vv vl vu l u sl (fun v' Va=>ar H' Va/\∃d',Den X.K W.bad Va d' v'/\Q d') I' rv hs pl pu ⟨p,vs,rfl,hq.w,by rw[LQ.len];exact hw,fun q' hp=>⟨ar.upd hp,_,Den.tup (LO.of aH) ((LQ.cut l u).same (ar.upd hp)),q⟩⟩;exact⟨T,id,h1,h2,Lj h3 fun _ s2 ⟨w',H2,I2,r2,e2,d',PR,q'⟩=>⟨w',H2,d',I2,r2,sm.trans e2,PR,q'⟩⟩
end
section
variable{K:yac}{P:yak}{H:Hp}{B:yaj}
theorem ay.get:∀{k:Nat} {xs:List LI} {vs:yaq} {m:Nat} {ds:yar},ay K P H B k xs vs->xs[m]?=some (.own ds)->∃b us,vs[m]?=some (.ref b)/\B (k+m)=some b/\H b=some (.lst us)/\ag K P H ds us
 |_,[],_,_,_,_,e=>by simp at e
 |k,.own ds::r,_,0,_,h,e=>by simp only[ay]at h;obtain⟨b,us,u,rfl,h1,h2,h3,_⟩:=h;simp at e;subst e;exact⟨b,us,rfl,h1,h2,h3⟩
 |k,.val d::r,_,0,_,h,e=>by simp at e
 |k,.own ds::r,_,m+1,x,h,e=>by simp only[ay]at h;obtain⟨b,us,u,rfl,_,_,_,h4⟩:=h;obtain⟨c,ws,e1,e2,e3⟩:=ay.get (m:=m) (ds:=x) h4 (by simpa using e);exact⟨c,ws,by simpa using e1,by rw[<- e2];congr 1;lia,e3⟩
 |k,.val d::r,_,m+1,x,h,e=>by simp only[ay]at h;obtain⟨v,u,rfl,_,h2⟩:=h;obtain⟨c,ws,e1,e2,e3⟩:=ay.get (m:=m) (ds:=x) h2 (by simpa using e);exact⟨c,ws,by simpa using e1,by rw[<- e2];congr 1;lia,e3⟩
theorem ay.put(hd:∀ds vs,ag K P H ds vs->ag K P H' ds vs)(hb:H' b=some (.lst Tu))(hn:ag K P H' P5 Tu)(ho:∀k c,B k=some c->c≠b->∀us,H c=some (.lst us)->H' c=some (.lst us))(inj:∀k l c,B k=some c->B l=some c->k=l) :
  ∀ {k:Nat} {xs:List LI} {vs:yaq} {m:Nat} {ds:yar},ay K P H B k xs vs->xs[m]?=some (.own ds)->B (k+m)=some b->ay K P H' B k (xs.set m (.own P5)) vs
 |_,[],_,_,_,_,e,_=>by simp at e
 |k,.own ds::r,_,0,_,h,_,hB=>by
  simp only[ay]at h;obtain⟨c,us,u,rfl,h1,h2,h3,h4⟩:=h;rw[Nat.add_zero,h1]at hB;cases hB;simp only[List.set_cons_zero,ay];refine⟨b,Tu,u,rfl,h1,hb,hn,?_⟩;have rest:∀{l:Nat} {ys:List LI} {ws:yaq},k<l->ay K P H B l ys ws->ay K P H' B l ys ws:=by
   intro l ys
   induction ys generalizing l with
   |nil=>intro ws _ z;simpa only[ay]using z
   |cons y ys ih =>
    intro ws hl z;cases y with
    |own es =>
     simp only[ay]at z ⊢;obtain⟨d,ps,q,rfl,z1,z2,z3,z4⟩:=z;exact⟨d,ps,q,rfl,z1,ho l d z1 (fun e=>by subst e;have:=inj _ _ _ h1 z1;lia) ps z2,hd _ _ z3,ih (SM hl) z4⟩
    |val e =>
     simp only[ay]at z ⊢;obtain⟨v,q,rfl,z1,z2⟩:=z;have z3:=hd [e] [v] (ag.one z1);simp only[ag]at z3;obtain⟨v',r',e',z4,_⟩:=z3;cases e';exact⟨v,q,rfl,z4,ih (SM hl) z2⟩
  exact rest (Pf k) h4
 |k,.val d::r,_,0,_,h,e,_=>by simp at e
 |k,.own ds::r,_,m+1,x,h,e,hB=>by simp only[ay]at h;obtain⟨c,us,u,rfl,h1,h2,h3,h4⟩:=h;simp only[Y5,ay];refine⟨c,us,u,rfl,h1,ho k c h1 (fun z=>by subst z;have:=inj _ _ _ h1 hB;lia) us h2,hd _ _ h3,ay.put hd hb hn ho inj h4 (by simpa using e) (by rw[<- hB];congr 1;lia)⟩
 |k,.val d::r,_,m+1,x,h,e,hB=>by simp only[ay]at h;obtain⟨v,u,rfl,h1,h2⟩:=h;simp only[Y5,ay];have z3:=hd [d] [v] (ag.one h1);simp only[ag]at z3;obtain⟨v',r',e',z4,_⟩:=z3;cases e';exact⟨v,u,rfl,z4,ay.put hd hb hn ho inj h2 (by simpa using e) (by rw[<- hB];congr 1;lia)⟩
end
section
variable{X:Cx}{pos:Pos}
def PFL(X:Cx)(i:Nat)(es:yai)(t:Ro->(List (yar)->Prop)->Prop):Prop :=
 ∀ (pos:Pos) (pins:yab) (s:Shared) (σ:St) (H:Hp) (W:Own) (ρ:Ro) (k:Nat) (Q:List (yar)->Prop),Inv X pins σ H s->Rel X W H σ ρ->i<σ.length->ρ[i]?=some none->t ρ Q →
  wpAny (model X.prog X.w) X.A (spliced (backTo pos (starEach es X.env))) (fun us s'=>∃vs H' W' xss,Inv X pins σ H' s'/\Vals vs us/\ar H H'/\Rel X W' H' σ ρ/\LC W H W' H'/\ay X.K W'.bad H' (W'.sub σ.length i) k (xss.map LI.own) vs/\(∀l,l<k->W'.sub σ.length i l=W.sub σ.length i l)/\Q xss) X.xe s
def Own.Oc(W:Own)(n i:Nat):Own:=⟨W.B,fun j=>if j % n=i then none else W.O j,fun b=>W.S b∨∃ j,j % n=i/\W.O j=some b⟩
def o5:LI->D
 |.own ds=>.lst false ds
 |.val d=>d
theorem Rel.Oc{i:Nat}(r:Rel X W H σ ρ)(e:ρ[i]?=some (some (.ob (.ll xs)))):Rel X (W.Oc σ.length i) H σ (ρ.set i (some (.val (.lst false (xs.map o5)))))/\∀b,W.bad true b->(W.Oc σ.length i).bad true b:=by
 obtain⟨a,o,oa,sa,ha,ho⟩:=r.own i _ e;cases ho with
 |ll LQ =>
 rename_i vs;have OW:i<ρ.length:=(L6.mp e).1;have il:i<σ.length:=(L6.mp sa).1;have im:i % σ.length=i:=NS il;have vm:∀j k,j<σ.length->Nt σ.length j k % σ.length=j:=fun j k hj=>by unfold Nt;rw[Nat.mul_add_mod,NS hj]
 have hO:∀j b,(W.Oc σ.length i).O j=some b->j % σ.length≠i/\W.O j=some b:=fun j b h=>by
  have h1:(if j % σ.length=i then none else W.O j)=some b:=h;by_cases z:j % σ.length=i
  ·rw[K4 z]at h1;cases h1
  ·rw[K3 z]at h1;exact⟨z,h1⟩
 have low:∀t b,(W.Oc σ.length i).bad t b->W.bad t b:=fun t b z=>by
  rcases z with z|⟨j,z⟩| ⟨z1,z2⟩
  ·exact .inl z
  ·exact .inr (.inl ⟨j,(hO j b z).2⟩)
  ·rcases z2 with z2|⟨j,_,z2⟩
   ·exact .inr (.inr ⟨z1,z2⟩)
   ·exact .inr (.inl ⟨j,z2⟩)
 have nb:∀j b,j % σ.length=i->W.O j=some b->¬(W.Oc σ.length i).bad false b:=fun j b hj oj z=>by
  rcases z with z|⟨l,z⟩| ⟨z1,_⟩
  ·exact(r.kn j b oj).2.1.1 z
  ·exact(hO l b z).1 (by rw[r.inj l j b (hO l b z).2 oj];exact hj)
  ·cases z1
 have den:∀{k:Nat} {ys:List LI} {ws:yaq},ay X.K W.bad H (W.sub σ.length i) k ys ws->ag X.K (W.Oc σ.length i).bad H (ys.map o5) ws:=by
  intro k ys
  induction ys generalizing k with
  |nil=>intro ws z;simp only[ay]at z;subst z;exact ag.nil
  |cons y ys ih =>
   intro ws z;cases y with
   |own es =>
    simp only[ay]at z;obtain⟨b,us,u,rfl,z1,z2,z3,z4⟩:=z;exact ag.cons (Den.lst (nb _ b (vm i k il) z1) (.any (SqL.of z2)) (z3.Lo low)) (ih z4)
   |val d =>
    simp only[ay]at z;obtain⟨v,u,rfl,z1,z2⟩:=z;exact ag.cons (z1.Lo low) (ih z2)
 refine⟨⟨fun j d h=>?_,fun j x h=>?_,fun j k b h1 h2=>r.inj j k b (hO j b h1).2 (hO k b h2).2,fun j b h=>?_,fun j b h=>r.ke j b (hO j b h).2,r.bt,fun b h=>?_,r.ent,r.tab⟩,fun b z=>?_⟩
 ·by_cases hj:j=i
  ·subst hj;rw[Ou OW]at h;cases h;exact⟨.ref a,sa,Den.lst (nb j a im oa) (.any (SqL.of ha)) (den LQ)⟩
  ·rw[NK (Ne.symm hj)]at h;obtain⟨w,h1,h2⟩:=r.val j d h;exact⟨w,h1,h2.Lo low⟩
 ·by_cases hj:j=i
  ·subst hj;rw[Ou OW]at h;cases h
  ·rw[NK (Ne.symm hj)]at h;obtain⟨b,ws,h1,h2,h3,h4⟩:=r.own j x h;have jl:j<σ.length:=(L6.mp h2).1;refine⟨b,ws,?_,h2,h3,h4.Lo low fun k c q=>?_⟩
   ·show(if j % σ.length=i then none else W.O j)=_;rw[K3 (by rw[NS jl];exact hj)];exact h1
   ·show(if Nt σ.length j k % σ.length=i then none else W.O (Nt σ.length j k))=_;rw[K3 (by rw[vm j k jl];exact hj)];exact q
 ·obtain⟨k1,⟨k2,k3⟩,k4⟩:=r.kn j b (hO j b h).2;refine⟨k1,⟨k2,fun z=>z.elim k3 fun⟨l,l1,l2⟩=>?_⟩,k4⟩;exact(hO j b h).1 (by rw[r.inj j l b (hO j b h).2 l2];exact l1)
 ·rcases h with h|⟨j,_,h⟩
  ·exact r.st b h
  ·obtain⟨_,_,o,q,_⟩:=r.kn j b h;exact⟨o,q⟩
 ·rcases z with z|⟨j,z⟩| ⟨_,z⟩
  ·exact .inl z
  ·by_cases hj:j % σ.length=i
   ·exact .inr (.inr ⟨rfl,.inr ⟨j,hj,z⟩⟩)
   ·exact .inr (.inl ⟨j,by show(if j % σ.length=i then none else W.O j)=_;rw[K3 hj];exact z⟩)
  ·exact .inr (.inr ⟨rfl,.inl z⟩)
variable{e:Expr}{te:DE}{tt:DT}{ta:DA}
def Hx(i:Nat)(t:DE):DE:=fun ρ Q=>∃xs,ρ[i]?=some (some (.ob (.ll xs)))/\t (ρ.set i (some (.val (.lst false (xs.map o5))))) fun d=>mU d=true/\Q d
def yq(i:Nat)(t:DT):DT:=fun ρ Q=>∃xs,ρ[i]?=some (some (.ob (.ll xs)))/\t (ρ.set i (some (.val (.lst false (xs.map o5))))) Q
def Di(i:Nat)(h:PL X e tt):PL X e (yq i tt):=by intro pins s σ H W ρ Q I r hw;obtain⟨xs,eo,hw⟩:=hw;obtain⟨r',up⟩:=r.Oc eo;exact h pins s σ H _ _ _ I r' hw
def Rel.XB{i m:Nat}{b:Addr}(r:Rel X W H σ ρ)(eo:ρ[i]?=some (some (.ob (.ll xs))))(hm:xs[m]?=some (.own ds))(ob:W.sub σ.length i m=some b)(hb:H b=some (.lst us))(hd:ag X.K W.bad H P5 Tu) :
  Rel X W (L2.upd H b (.lst Tu)) σ (ρ.set i (some (.ob (.ll (xs.set m (.own P5))))))/\LC W H W (L2.upd H b (.lst Tu)):=by
 have Z0:∀t,W.bad t b:=fun _=>.inr (.inl ⟨_,ob⟩)
 have Qv:∀c ws,LO X.K H c ws->LO X.K (L2.upd H b (.lst Tu)) c ws:=fun c ws q=>by show L2.upd _ _ _ _=_;rw[av (jj q hb (by intro z;cases z))];exact q
 have Qw:∀t c ws,¬W.bad t c->Na X.K H t c ws->¬W.bad t c/\Na X.K (L2.upd H b (.lst Tu)) t c ws:=fun t c ws n q=>by
  have LV:c≠b:=fun e=>n (e ▸ Z0 t)
  refine⟨n,?_,fun z=>⟨by rw[av LV];exact(q.2 z).1,(q.2 z).2⟩⟩;rcases q.1 with(q|⟨u,q⟩)|q
  ·exact .inl (.inl (by rw[av LV];exact q))
  ·exact .inl (.inr ⟨u,by rw[av LV];exact q⟩)
  ·exact .inr q
 have Qx:∀c u,RM u->H c=some u->L2.upd H b (.lst Tu) c=some u:=fun c u n q=>by rw[av (jj q hb (by intro z;subst z;exact n))];exact q
 have OW:i<ρ.length:=(L6.mp eo).1;obtain⟨a,o,oa,sa,ha,ho⟩:=r.own i _ eo;have il:i<σ.length:=(L6.mp sa).1;have tr:∀c u,H c=some u->∃u',L2.upd H b (.lst Tu) c=some u':=fun c u q=>by
  by_cases XC:c=b
  ·subst XC;exact⟨_,aH⟩
  ·exact⟨u,by rw[av XC];exact q⟩
 refine⟨⟨fun j d h=>?_,fun j y h=>?_,r.inj,fun j c hc=>?_,r.ke,fun c hc=>let ⟨u,q⟩:=r.bt c hc;tr c u q,fun c hc=>let ⟨u,q⟩:=r.st c hc;tr c u q,r.ent.ins (r.ke _ b ob) hb True.intro True.intro,r.tab.upd True.intro (.inr ⟨_,hb,(fun _ z=>by cases z),True.intro⟩)⟩,LC.upd ob hb True.intro True.intro⟩
 ·by_cases hj:j=i
  ·subst hj;rw[Ou OW]at h;cases h
  ·rw[NK (Ne.symm hj)]at h;obtain⟨w,h1,h2⟩:=r.val j d h;exact⟨w,h1,Den.map Qv Qw Qx d w h2⟩
 ·by_cases hj:j=i
  ·subst hj;rw[Ou OW]at h;cases h;have Ui:a≠b:=fun e=>gQ il (r.inj _ _ b ob (by rw[<- e];exact oa))
   refine⟨a,o,oa,sa,by rw[av Ui];exact ha,?_⟩;cases ho with
   |ll LQ =>
   exact .ll (ay.put (ag.map Qv Qw Qx) aH (ag.map Qv Qw Qx _ _ hd) (fun k c q n us z=>by rw[av n];exact z) (fun k l c q1 q2=>(y6 il il (r.inj _ _ c q1 q2)).2) LQ hm (by rw[OZ];exact ob))
  ·rw[NK (Ne.symm hj)]at h;obtain⟨c,ws,h1,h2,h3,h4⟩:=r.own j y h;have jl:j<σ.length:=(L6.mp h2).1;have LV:c≠b:=fun e=>gQ jl (r.inj _ _ b ob (by rw[<- e];exact h1))
   exact⟨c,ws,h1,h2,by rw[av LV];exact h3,h4.map (ag.map Qv Qw Qx) fun k f q=>⟨q,fun _ z=>by rw[av (fun e=>hj (y6 jl il (r.inj _ _ b (by rw[<- e];exact q) ob)).1)];exact z⟩⟩
 ·obtain⟨k1,k2,ws,k3,k4⟩:=r.kn j c hc;refine⟨k1,k2,?_⟩;by_cases XC:c=b
  ·subst XC;exact⟨_,aH,True.intro⟩
  ·exact⟨ws,by rw[av XC];exact k3,k4⟩
end
def HX(xs:List LI)(r:Ro)(R:List LI->Prop):(∃ys,(some (Sl.ob (.ll xs))::r)[0]?=some (some (Sl.ob (.ll ys)))/\R ys)=R xs:=by
 apply propext;constructor
 ·rintro⟨_,e,q⟩;have e':some (some (Sl.ob (.ll xs)))=some (some (Sl.ob (.ll _))):=e;cases e';exact q
 ·intro q;exact⟨xs,rfl,q⟩
theorem HY(n:Nat)(x:Option Sl)(r:Ro)(R:List LI->Prop):(∃ys,(x::r)[n+1]?=some (some (Sl.ob (.ll ys)))/\R ys)=(∃ys,r[n]?=some (some (Sl.ob (.ll ys)))/\R ys):=rfl
section
variable{X:Cx}{pins:yab}{σ:St}{H:Hp}
structure KR(X:Cx)(pins:yab)(H:Hp)(s:Shared)(l f S I:Addr)(fo:Obj)(j:Nat)(vb:Value)(k:Int):Prop where
 fo:s.heap.get? f=some fo
 ff:fu X pins H f
 so:∃tb n,s.heap.get? S=some (seqObj "list" #[vb,.int k tb] n)
 sf:fu X pins H S
 io:s.heap.IsListIter I l j
 jf:fu X pins H I
 fS:f≠S
 fI:f≠I
 SI:S≠I
 lI:l≠I
end
section
variable{X:Cx}{pos:Pos}
def yn(i:Nat)(te:DE):DS:=fun E ρ=>∃ds,ρ[i]?=some (some (.own ds))/\te ρ fun d=>∃xs,d=.lst true xs/\ds.length+xs.length<=sizeLine/\E.nx (ρ.set i (some (.own (ds++xs))))
def ua{x:Str}{apos:Pos}(i:Nat)(he:Lx X e te)(hi:X.N[i]?=some x:=by rfl)(hv:Rt X.env.scope x:=by first|exact Or.inl rfl|exact Or.inr (Or.inl rfl)|exact Or.inr (Or.inr rfl))
  (hd:(x==("__debug__" : Str))=false:=by decide) (Oa:(x==("__classdict__" : Str))=false:=by decide)
  (ML:attributeBase (.Name x px) "extend" X.env (eval (.Name x px) X.env)=eval (.Name x px) X.env:=by rfl)
  (Qo:((backTo cpos (starEach [e] X.env)).all (fun x=>!x.1) && (backToKw cpos (keywordEach [] X.env)).all (fun x=>x.1.isSome) && decide ([e].length+([]:List Keyword).length+(if([]:List Keyword).isEmpty then 0 else 1)<30))=true:=by rfl)
  (MM:(apos.endLine==cpos.line)=true:=by rfl) (NU:starEach [e] X.env=(false,eval e X.env)::starEach [] X.env:=by rfl) (Nz:(backTo cpos (starEach [] X.env)).any (·.1)=false:=by rfl)
  (hs:swapsWith (.Call (.Attribute (.Name x px) "extend" apos) [e] [] cpos) none pos.line X.env=pure false:=by rfl) :
  NA X (.Expr (.Call (.Attribute (.Name x px) "extend" apos) [e] [] cpos) pos) (yn i te):=by
 have P0:=oU (pos:=pos) (An PySem.F.plainAttrs_list PySem.F.slot_list_extend PySem.F.type_list_extend BH (iF hi hv hd Oa) (jF he.pe nE NU) ML Qo MM NU Nz) hs;refine NA.of P0 fun σ H W ρ E r hl h=>?_
 obtain⟨ds,eo,h⟩:=h;obtain⟨a,vs,oa,sa,ha,LQ⟩:=r.dU i ds eo;refine⟨.ref a,sa,.inl ⟨rfl,_,SqL.of ha⟩,W,ρ,_,r,h,fun v H' d e1 PR q=>?_⟩;obtain⟨xs,rfl,z,q⟩:=q;obtain⟨b,us,rfl,_,hb,Yy⟩:∃b us,v=.ref b/\¬W.bad true b/\Na X.K H' true b us/\ag X.K W.bad H' xs us:=by simpa only[Den]using PR
 have Tf:=e1 _ _ ha;have r':=r.same e1;have Qy:=LQ.same e1;refine⟨a,b,vs,us,rfl,rfl,Tf,(hb.2 rfl).1,by rw[Qy.len,Yy.len];exact z,?_⟩;obtain⟨r2,f2⟩:=r'.Q8 (vs':=vs++us) eo oa sa Tf (Qy.append Yy);exact⟨W,_,(LC.same e1).trans f2,r2,q⟩
def PEK(X:Cx)(e:Expr)(t:DE):Prop :=
 ∀ (pins:yab) (s:Shared) (σ:St) (H:Hp) (W:Own) (ρ:Ro) (Q:D->Prop),Inv X pins σ H s->Rel X W H σ ρ->t ρ Q →
  wpAny (model X.prog X.w) X.A (eval e X.env) (fun u s'=>∃b vs H' ds,u=.ref b/\Inv X pins σ H' s'/\ar H H'/\H' b=some (.tup vs)/\ag X.K W.bad H' ds vs/\Q (.tup ds)) X.xe s
end
def JK(ys:yar)(R:yar->Prop):(∃xs,D.lst true ys=.lst true xs/\R xs)=R ys:=by
 apply propext;constructor
 ·rintro⟨xs,e,q⟩;cases e;exact q
 ·intro q;exact⟨ys,rfl,q⟩
def aV{α:Type}{wi:DA}{g:DG}{tb:DS}{E:oo}(xs:List α)(f:α->D)(Pv:Nat->Ro->Prop)(hw:∀R:yar->Prop,R (xs.map f)->wi ρ R)(p0:Pv 0 ρ)
  (turn:∀(j:Nat) (x:α) (Ld:Ro),xs[j]?=some x->Pv j Ld->g (f x) Ld fun ρ2=>tb {E with nx:=Pv (j+1),ct:=Pv (j+1),bk:=E.nx} ρ2) (fin:∀Ld,Pv xs.length Ld->E.nx Ld):vG wi g tb E ρ:=by
 refine hw _ ⟨Pv,p0,fun j d Ld hd hp=>?_,fun Ld hp=>fin Ld (by rw[K8]at hp;exact hp)⟩;rw[LZ]at hd;cases ex:xs[j]? with
 |none=>rw[ex]at hd;cases hd
 |some x =>
  rw[ex]at hd;cases hd;exact turn j x Ld ex hp
inductive YC (K:yac) (P:yak) (H:Hp):List (yar×D)->List (Value×Value)->Prop
 |nil:YC K P H [] []
 |cons {b:Addr} {vs:yaq} {ks:yar} {d:D} {x:V} {u:Value} {ds:List (yar×D)} {ws:List (Value×Value)} (hb:H b=some (.tup vs)) (hk:ag K P H ks vs) (hd:Den K P H d x) (r:RelV x u) (t:YC K P H ds ws):YC K P H ((ks,d)::ds) ((.ref b,u)::ws)
def PPK(X:Cx)(pos:Pos)(keys:List (Option Expr))(values:yai)(t:Ro->(List (yar×D)->Prop)->Prop):Prop :=
 ∀ (pins:yab) (s:Shared) (σ:St) (H:Hp) (W:Own) (ρ:Ro) (Q:List (yar×D)->Prop),Inv X pins σ H s->Rel X W H σ ρ->t ρ Q →
  wpAny (model X.prog X.w) X.A (evalPairs (pairTrees keys values X.env pos)) (fun ws s'=>∃H' ds,Inv X pins σ H' s'/\ar H H'/\YC X.K W.bad H' ds ws/\Q ds) X.xe s
section
variable{X:Cx}{pos:Pos}
inductive Z1 (H:Hp):List (List Key×Int)->List (Value×Value)->Prop
 |nil:Z1 H [] []
 |cons {b:Addr} {k:List Key} {n:Int} {u:Value} {ds:List (List Key×Int)} {ws:List (Value×Value)} (hb:H b=some (.tup (k.map kV))) (r:RelV (.int n) u) (t:Z1 H ds ws):Z1 H ((k,n)::ds) ((.ref b,u)::ws)
def Fg (hc:X.calm=true):fM X (.builtin "max") (fun ds Q=>(∃i j:Int,ds=[.int i,.int j]/\Q (.int (max i j)))∨∃ (t:Bool) (ns:yaf),ds=[.lst t (ns.map D.int)]/\0<ns.length/\∀m,m∈ns->(∀n∈ns,n<=m)->Q (.int m)):=by
 intro pins s σ H W ds vs us Q I tr r hd q;rcases q with⟨i,j,e,q⟩| ⟨t,ns,e,LV,q⟩
 ·exact He hc pins s σ H W ds vs us Q I tr r hd ⟨i,j,e,q⟩
 subst e;obtain⟨v,rfl,h1⟩:=oE hd;obtain⟨a,ws,ev,_,hq,hw⟩:=h1.Nm;subst ev;cases r with
 |cons r1 rr =>
  cases rr;cases r1;obtain⟨K9,rv,pl,_⟩:=I.list hq;rw[eE hw]at rv;have ia:=intsAre_of rv;obtain⟨xs,ex⟩:=ia.allInts.items;have hl:s.heap.IsList a (intItems xs):=by rw[<- ex];exact pl.isList
  have Oo:ns=xs.toList.map (·.1):=by rw[<- ia.numsOf,<- nums_intItems,<- ex]
  have hsz:0<xs.size:=by rw[Oo,K8,NV]at LV;exact LV
  refine max_intList (I.ok.hd hc) hl hsz fun y h' tk hy kp=>?_
  obtain⟨tt,rfl⟩:=intItems_at hy;obtain⟨g1,g2⟩:=argBest_gt (numAt xs) (xs.size - 1);have at_:∀j,j<xs.size->xs.toList.map (·.1) ≠ []->numAt xs j∈ns:=fun j hj _=>by
   rw[Oo,numAt_eq];have:(xs.toList.map (·.1))[j]?=some ((xs.toList.map (·.1)).getD j 0):=by simp[hj]
   exact Mz this
  refine⟨.int _,H,_,I.kept kp,⟨_,rfl⟩,ar.refl H,Den.int _,q _ (at_ _ (by lia) (by rw[<- Oo];exact TM LV)) fun n hn=>?_⟩;rw[Oo]at hn;obtain⟨j,hj,ej⟩:=RF hn;have:numAt xs j=n:=by rw[numAt_eq,<- ej];simp only[Mf,LM hj,UC]
  rw[<- this];rw[K8,NV]at hj;exact g2 j (by lia)
end
end PD
namespace PZ
open PySem PySem.Spec PyProof.Rows
abbrev Ex (h:Heap) (T:Addr) (a b c:Value):Prop:=h.get? T=some {cls:=.type "tuple", data:=.seq #[a,b,c]}
structure Ap3(z TI TO i1 i2 i3:Addr):Prop where
 a1:TI≠z
 a2:TO≠z
 a3:i1≠z
 a4:i2≠z
 a5:i3≠z
 b1:TI≠TO
 b2:TI≠i1
 b3:TI≠i2
 b4:TI≠i3
 c1:TO≠i1
 c2:TO≠i2
 c3:TO≠i3
 d1:i1≠i2
 d2:i1≠i3
 d3:i2≠i3
structure KU(z TO i1 i2 i3 l:Addr):Prop where
 c1:l≠z
 c2:l≠TO
 c3:l≠i1
 c4:l≠i2
 c5:l≠i3
structure KY(z TI TO i1 i2 i3 l1 l2 l3:Addr)(i:Nat)(h:Heap):Prop where
 z:IsZip h z TI TO .none
 ti:Ex h TI (.ref i1) (.ref i2) (.ref i3)
 to:∃a b c,Ex h TO a b c
 s1:NZ true h i1 l1 i
 s2:NZ true h i2 l2 i
 s3:NZ true h i3 l3 i
end PZ
namespace PD
open PySem PySem.Spec PyProof.Rows L2 PZ
section
variable{X:Cx}
def OH(xs ys zs:yar):yar:=List.zipWith (fun f z=>f z) (List.zipWith (fun x y z=>D.tup [x,y,z]) xs ys) zs
end
end PD
namespace ST
open PySem PySem.SetTable
def S:Nat->Nat
 |0=>0
 |n+1=>5*S n+1
theorem qL:∀n,5 ^ n=4*S n+1
 |0=>rfl
 |n+1=>by rw[Qn,qL n];show _=4*(5*S n+1)+1;lia
theorem zC(m:Nat):∀n,S (n+m)=5 ^ m*S n+S m
 |0=>by simp[S]
 |n+1=>by rw[show n+1+m=(n+m)+1 by lia];show 5*S (n+m)+1=5 ^ m*(5*S n+1)+S m;rw[zC m n,qL m];grind
theorem Ey:∀k,∃o,S (2 ^ k)=2 ^ k*(2*o+1)
 |0=>⟨0,rfl⟩
 |k+1=>by obtain⟨o,e⟩:=Ey k;refine⟨o+(2*o+1)*(2 ^ k*(2*o+1)),?_⟩;rw[show 2 ^ (k+1)=2 ^ k+2 ^ k by rw[Qn];lia,zC,qL,e];grind
theorem round:∀(k x e:Nat),e<2 ^ k->∃n,n<2 ^ k/\(5 ^ n*x+S n) % 2 ^ k=e
 |0,x,e,h=>⟨0,by decide,by lia⟩
 |k+1,x,e,h=>by
  obtain⟨n,hn,q⟩:=round k x (e % 2 ^ k) (Rr _ (Ww k));obtain⟨o,eo⟩:=Ey k;have hp:=Ww k;have h2:2 ^ (k+1)=2*2 ^ k:=by rw[Qn];lia
  generalize hv:5 ^ n*x+S n=v at q;have O2:5 ^ (n+2 ^ k)*x+S (n+2 ^ k)=v+2 ^ k+2 ^ (k+1)*(o+2*(2*o+1)*v):=by rw[zC,Nat.pow_add,qL (2 ^ k),eo,h2,<- hv];grind
  generalize 2 ^ k=p at *;rw[h2]at h ⊢;by_cases z:v % (2*p)=e
  ·exact⟨n,by lia,by rw[hv];exact z⟩
  ·refine⟨n+p,by lia,?_⟩;rw[O2,h2,Nat.add_mul_mod_self_left];have a1:v % (2*p) % p=v % p:=Nat.mod_mul_left_mod v 2 p;have l1:v % (2*p)<2*p:=Rr _ (by lia);rw[Nat.add_mod,NS (show p<2*p by lia)];generalize v % (2*p)=u at *;have eu:u=u % p∨u=u % p+p:=by
    by_cases c:u<p
    ·left;rw[NS c]
    ·right
     have:u % p=u - p:=by rw[Nat.mod_eq_sub_mod (by lia),NS (by lia)]
     lia
   have ee:e=e % p∨e=e % p+p:=by
    by_cases c:e<p
    ·left;rw[NS c]
    ·right
     have:e % p=e - p:=by rw[Nat.mod_eq_sub_mod (by lia),NS (by lia)]
     lia
   have lt:e % p<p:=Rr _ hp;rcases eu with eu|eu<;>rcases ee with ee|ee
   ·lia
   ·rw[NS (by lia)];lia
   ·rw[Nat.mod_eq_sub_mod (by lia),NS (by lia)];lia
   ·lia
def runs(mask:Nat):Nat->Nat->Nat->yag
 |0,_,_=>[]
 |c+1,i,pt=>List.range' i (runEnd mask i+1 - i)++runs mask c (leap mask i pt).1 (leap mask i pt).2
theorem nI(mask c i pt:Nat):runs mask (c+1) i pt=List.range' i (runEnd mask i+1 - i)++runs mask c (leap mask i pt).1 (leap mask i pt).2:=rfl
def cD(mask:Nat)(h:Int):yag:=runs mask (turns mask) (bits h % (mask+1)) (bits h)
def iJ{mask i:Nat}(h:i<=mask):i<=runEnd mask i/\runEnd mask i<=mask/\runEnd mask i<=i+9:=by unfold runEnd;split<;>lia
def oN(mask i pt:Nat):(leap mask i pt).1<=mask:=by
 have:(leap mask i pt).1<mask+1:=Rr _ (PH _)
 lia
theorem yV{mask:Nat}:∀{c i pt:Nat},i<=mask->∀x∈runs mask c i pt,x<=mask
 |0,_,_,_,x,h=>by cases h
 |c+1,i,pt,hi,x,h=>by
  rcases Mc.mp h with z|z
  ·rw[Rj]at z;have:=iJ hi
   lia
  ·exact yV (oN _ _ _) x z
theorem wV{mask:Nat}:∀{c i pt:Nat},i<=mask->(runs mask c i pt).length<=10*c
 |0,_,_,_=>LG _
 |c+1,i,pt,hi=>by
  have ih:=wV (c:=c) (pt:=(leap mask i pt).2) (oN mask i pt);have:=iJ hi;unfold runs;rw[MG,Nf]
  lia
def cR(mask:Nat):Nat->Nat×Nat->Nat×Nat
 |0,p=>p
 |n+1,p=>cR mask n (leap mask p.1 p.2)
theorem rF{mask:Nat}:∀{n c i pt:Nat},∀x∈runs mask c (cR mask n (i,pt)).1 (cR mask n (i,pt)).2,x∈runs mask (n+c) i pt
 |0,c,i,pt,x,h=>by rw[OZ];exact h
 |n+1,c,i,pt,x,h=>by have:=rF (n:=n) (c:=c) (i:=(leap mask i pt).1) (pt:=(leap mask i pt).2) x h;rw[show n+1+c=(n+c)+1 by lia];exact Oi _ this
def Ca{mask c i:Nat}(h:i<=mask):i∈runs mask (c+1) i pt:=by
 refine Qi _ ?_;rw[Rj];have:=iJ h
 lia
theorem wy(mask:Nat):∀(n:Nat) (p:Nat×Nat),(cR mask n p).2=p.2 / 32 ^ n
 |0,p=>by simp[cR]
 |n+1,p=>by show(cR mask n (leap mask p.1 p.2)).2=_;rw[wy mask n];show p.2 / 32 / 32 ^ n=_;rw[Nat.div_div_eq_div_mul,Qn,Nat.mul_comm]
theorem rh{mask k:Nat}(hk:mask+1=2 ^ k):∀(n i:Nat),i<=mask->(cR mask n (i,0)).1=(5 ^ n*i+S n) % 2 ^ k
 |0,i,h=>by show i=_;rw[Nat.pow_zero,RH];show i=(i+0) % 2 ^ k;rw[Nat.add_zero,NS (by lia)]
 |n+1,i,h=>by
  have e:leap mask i 0=((i*5+1) % (mask+1),0):=by unfold leap;simp
  show(cR mask n (leap mask i 0)).1=_;rw[e,rh hk n _ (by have:=Rr (i*5+1) (show 0<mask+1 by lia);lia),hk];have a:(5 ^ n*((i*5+1) % 2 ^ k)+S n) % 2 ^ k=(5 ^ n*(i*5+1)+S n) % 2 ^ k:=by rw[Nat.add_mod,Nat.mul_mod,Nat.mod_mod,<- Nat.mul_mod,<- Nat.add_mod]
  rw[a,Qn];congr 1;show _=5 ^ n*5*i+(5*S n+1);have:=qL n;rw[this];grind
theorem uh(mask:Nat):∀(m n:Nat) (p:Nat×Nat),cR mask (m+n) p=cR mask n (cR mask m p)
 |0,n,p=>by rw[OZ];rfl
 |m+1,n,p=>by rw[show m+1+n=(m+n)+1 by lia];exact uh mask m n _
theorem wx(mask:Nat):∀(n:Nat) (p:Nat×Nat),p.1<=mask->(cR mask n p).1<=mask
 |0,_,h=>h
 |n+1,p,_=>wx mask n _ (oN _ _ _)
def cover{mask k:Nat}(hk:mask+1=2 ^ k)(h:Int){e:Nat}(he:e<=mask):e∈cD mask h:=by
 have hb:bits h<2 ^ 64:=by
  unfold bits;have:=Int.emod_lt_of_pos h (show(0:Int)<2 ^ 64 by decide);have:=Int.emod_nonneg h (show(2 ^ 64:Int)≠0 by decide)
  lia
 have hi:bits h % (mask+1)<=mask:=by have:=Rr (bits h) (show 0<mask+1 by lia);lia
 generalize hp:(bits h % (mask+1),bits h)=p;have p1:p.1<=mask:=by rw[<- hp];exact hi
 have z:(cR mask 13 p).2=0:=by rw[wy,<- hp];exact Nat.div_eq_of_lt (M5 hb (by decide))
 have q1:=wx mask 13 p p1;obtain⟨n,hn,en⟩:=round k (cR mask 13 p).1 e (by lia);have ee:(cR mask (13+n) p).1=e:=by rw[uh];have:cR mask 13 p=((cR mask 13 p).1,0):=Pj rfl z;rw[this,rh hk n _ q1];exact en
 have:=rF (mask:=mask) (n:=13+n) (c:=(mask - n)+2) (i:=bits h % (mask+1)) (pt:=bits h) e (by have YE:(bits h % (mask+1),bits h)=p:=hp;rw[YE,ee];exact Ca he)
 unfold cD turns;rw[show mask+15=13+n+(mask - n+2)by lia];exact this
def iU(xs:yao):Prop:=∀a b:Nat,a<b->b<xs.size->xs.getD a 0<xs.getD b 0
theorem pR{j:Nat}(hr:iU xs):∀(fuel lo hi:Nat),lo<=hi->hi<=xs.size->hi - lo<=fuel->(∀a,a<lo->xs.getD a 0<j)->(∀a,hi<=a->a<xs.size->j<=xs.getD a 0) →
  (below.go xs j fuel lo hi<=xs.size)/\(∀a,a<below.go xs j fuel lo hi->xs.getD a 0<j)/\∀a,below.go xs j fuel lo hi<=a->a<xs.size->j<=xs.getD a 0
 |0,lo,hi,h1,h2,h3,h4,h5=>by
  have:lo=hi:=by lia
  subst this;exact⟨h2,h4,h5⟩
 |fuel+1,lo,hi,h1,h2,h3,h4,h5=>by
  unfold below.go;by_cases MR:lo<hi
  ·rw[K4 MR];have hm:(lo+hi) / 2<hi/\lo<=(lo+hi) / 2:=by lia
   have hg:xs.getD ((lo+hi) / 2) j=xs.getD ((lo+hi) / 2) 0:=by
    have:(lo+hi) / 2<xs.size:=by lia
    simp[Array.getD,this]
   simp only[hg];split
   ·rename_i z;refine pR hr fuel _ hi (by lia) h2 (by lia) (fun a ha=>?_) h5;by_cases e:a=(lo+hi) / 2
    ·rw[e];exact z
    ·exact Nat.lt_trans (hr a ((lo+hi) / 2) (by lia) (by lia)) z
   ·rename_i z;refine pR hr fuel lo _ (by lia) (by lia) (by lia) h4 fun a ha hs=>?_
    by_cases e:a=(lo+hi) / 2
    ·rw[e];lia
    ·have:=hr ((lo+hi) / 2) a (by lia) hs
     lia
  ·rw[K3 MR];have:lo=hi:=by lia
   subst this;exact⟨h2,h4,h5⟩
def jc(hr:iU xs)(j:Nat):below xs j<=xs.size/\(∀a,a<below xs j->xs.getD a 0<j)/\∀a,below xs j<=a->a<xs.size->j<=xs.getD a 0 :=
 pR hr xs.size 0 xs.size (MK _) (LG _) (by lia) (fun a h=>absurd h (Wv _)) fun a h h'=>by lia
def dI{xs:yao}{a x:Nat}(h:xs[a]?=some x):xs.getD a 0=x/\a<xs.size:=by obtain⟨l,e⟩:=TL.mp h;exact⟨by simp[Array.getD,l,e],l⟩
def qY{xs:yao}{a:Nat}(h:a<xs.size):xs[a]?=some (xs.getD a 0):=by simp[Array.getD,h]
def below_at(hr:iU xs){a j:Nat}(h:xs[a]?=some j):below xs j=a:=by
 obtain⟨e,l⟩:=dI h;obtain⟨b1,b2,b3⟩:=jc hr j;have h1:¬a<below xs j:=fun z=>by have:=b2 a z;lia
 have h2:¬below xs j<a:=fun z=>by
  have:=b3 (below xs j) (LG _) (by lia);have:=hr _ a z l
  lia
 lia
def uv{t:SetTable}(hr:iU t.place){a j:Nat}(h:t.place[a]?=some j):t.slot j=.live a:=by unfold SetTable.slot;rw[below_at hr h];simp[h]
def Aw{t:SetTable}(hr:iU t.place)(hd:t.dummies=#[]){j:Nat}(h:j∉t.place.toList):t.slot j=.empty:=by
 have n:¬((t.place[below t.place j]?==some j)=true):=fun z=>by
  have e:t.place[below t.place j]?=some j:=by simpa using z
  exact h (by obtain⟨l,q⟩:=TL.mp e;rw[<- q];exact Array.getElem_mem_toList l)
 unfold SetTable.slot;simp only[n,hd];have:has #[] j=false:=by unfold has;simp
 simp[this]
def ahead(mask:Nat)(c:Nat)(p:Probe):yag:=List.range' p.j (p.more+1)++runs mask c (leap mask p.i p.perturb).1 (leap mask p.i p.perturb).2
def xp(t:SetTable)(h:Int):∃c,cD t.mask h=ahead t.mask c (t.probeStart h):=by
 refine⟨t.mask+14,?_⟩;unfold cD ahead turns probeStart;show runs t.mask ((t.mask+14)+1) _ _=_;rw[nI];have hi:bits h % (t.mask+1)<=t.mask:=by have:=Rr (bits h) (show 0<t.mask+1 by lia);lia
 have:=iJ hi;simp only;rw[show runEnd t.mask (bits h % (t.mask+1))+1 - bits h % (t.mask+1)=runEnd t.mask (bits h % (t.mask+1)) - bits h % (t.mask+1)+1 by lia]
def zE(t:SetTable){x:Nat}{r:yag}(e:ahead t.mask c p=x::r):p.j=x/\(r=[]∨∃ c',r=ahead t.mask c' (t.advance p)):=by
 unfold ahead at e;rw[List.range'_succ,Od]at e;obtain⟨e1,e2⟩:=List.cons.inj e;refine⟨e1,?_⟩;unfold SetTable.advance;by_cases hm:p.more > 0
 ·right
  refine⟨c,?_⟩;rw[K4 hm,<- e2];unfold ahead;simp only;rw[show p.more - 1+1=p.more by lia]
 ·have m0:p.more=0:=by lia
  rw[m0]at e2;simp only[List.range'_zero,Pg]at e2;cases c with
  |zero=>left;rw[<- e2];rfl
  |succ c =>
   right
   refine⟨c,?_⟩;rw[K3 hm,<- e2];have hl:=oN t.mask p.i p.perturb;have:=iJ hl;unfold ahead;rw[nI];simp only;rw[show runEnd t.mask (leap t.mask p.i p.perturb).1+1 - (leap t.mask p.i p.perturb).1=runEnd t.mask (leap t.mask p.i p.perturb).1 - (leap t.mask p.i p.perturb).1+1 by lia]
theorem wQ{t:SetTable}(hr:iU t.place)(hd:t.dummies=#[])(hashAt:Nat->Int)(h:Int):∀(l:yag) (fuel c:Nat) (p:Probe),ahead t.mask c p=l->l.length<=fuel->(∃x∈l,x∉t.place.toList)->p.dummy=none →
  (∃pre j post,l=pre++j::post/\(∀x∈pre,∃a,t.place[a]?=some x/\hashAt a≠h)/\j∉t.place.toList/\probe.go t hashAt h fuel p=some (.empty j none)) ∨
  ∃ pre j post a q c',l=pre++j::post/\(∀x∈pre,∃a,t.place[a]?=some x/\hashAt a≠h)/\t.place[a]?=some j/\hashAt a=h/\post=ahead t.mask c' q/\q.dummy=none/\probe.go t hashAt h fuel p=some (.candidate j a q)
 |[],_,_,_,_,_,hx,_=>by obtain⟨x,hx,_⟩:=hx;cases hx
 |x::r,0,_,_,_,hl,_,_=>by simp at hl
 |x::r,fuel+1,c,p,e,hl,hx,YF=>by
  obtain⟨ej,er⟩:=zE t e;subst ej;unfold probe.go;by_cases Tv:p.j∈t.place.toList
  ·obtain⟨a,Z2,ea⟩:=RF Tv;have ha:t.place[a]?=some p.j:=by
    rw[<- PO,LM Z2,ea]
   rw[uv hr ha];have OV:∃x∈r,x∉t.place.toList:=by
    obtain⟨y,hy,ny⟩:=hx;rcases Lp.mp hy with z|z
    ·subst z;exact absurd Tv ny
    ·exact⟨y,z,ny⟩
   have er':∃c',r=ahead t.mask c' (t.advance p):=by
    rcases er with z|z
    ·obtain⟨y,hy,_⟩:=OV;rw[z]at hy;cases hy
    ·exact z
   have hda:(t.advance p).dummy=none:=by unfold SetTable.advance;split<;>exact YF
   obtain⟨c',ec⟩:=er';simp only;by_cases hh:hashAt a=h
   ·right
    rw[K4 (by simpa using hh)];exact⟨[],p.j,r,a,t.advance p,c',rfl,by simp,ha,hh,ec,hda,rfl⟩
   ·rw[K3 (by simpa using hh)];have good:∃a,t.place[a]?=some p.j/\hashAt a≠h:=⟨a,ha,hh⟩;rcases wQ hr hd hashAt h r fuel c' (t.advance p) ec.symm (by simp at hl;lia) OV hda with⟨pre,j,post,e1,e2,e3,e4⟩| ⟨pre,j,post,b,q,c2,e1,e2,e3,e4,e5,e6,e7⟩
    ·left
     refine⟨p.j::pre,j,post,by rw[e1];rfl,fun y hy=>?_,e3,e4⟩;rcases Lp.mp hy with z|z
     ·rw[z];exact good
     ·exact e2 y z
    ·right
     refine⟨p.j::pre,j,post,b,q,c2,by rw[e1];rfl,fun y hy=>?_,e3,e4,e5,e6,e7⟩;rcases Lp.mp hy with z|z
     ·rw[z];exact good
     ·exact e2 y z
  ·left
   rw[Aw hr hd Tv];exact⟨[],p.j,r,rfl,by simp,Tv,by simp[YF]⟩
structure Tab(t:SetTable)(hs:yaf):Prop where
 k:∃k,t.mask+1=2 ^ (k+1)
 rise:iU t.place
 le:∀x∈t.place.toList,x<=t.mask
 YG:t.dummies=#[]
 len:t.place.size=hs.length
 room:t.place.size<=t.mask
 reach:∀(a x:Nat) (h:Int),t.place[a]?=some x->hs[a]?=some h->∃pre post,cD t.mask h=pre++x::post/\∀y∈pre,y∈t.place.toList
theorem Tab.fits(T:Tab t hs):t.fits hs.length=true:=by
 unfold SetTable.fits SetTable.fill;rw[T.YG];simp[T.len];have:=T.len;have:=T.room
 lia
def Tab.stays(T:Tab t hs):t.gaveWay=false:=by
 obtain⟨k,e⟩:=T.k;unfold SetTable.gaveWay;rw[Qn]at e;have:t.mask % 2=1:=by lia
 rw[this];rfl
def Ec(hr:iU xs){a b x y:Nat}(ha:xs[a]?=some x)(hb:xs[b]?=some y)(h:x<y):a<b:=by
 obtain⟨e1,l1⟩:=dI ha;obtain⟨e2,l2⟩:=dI hb;rcases VA a b with z|z|z
 ·exact z
 ·subst z;lia
 ·have:=hr b a z l1
  lia
def yJ{xs:yao}{x:Nat}(h:x∈xs.toList):∃a:Nat,xs[a]?=some x:=by obtain⟨a,Z2,ea⟩:=RF h;exact⟨a,by rw[<- PO,LM Z2,ea]⟩
def get_mem{xs:yao}{a x:Nat}(h:xs[a]?=some x):x∈xs.toList:=by obtain⟨l,q⟩:=TL.mp h;rw[<- q];exact Array.getElem_mem_toList l
def FA(hr:iU xs){mask:Nat}(hs:xs.size<=mask):∃e,e<=mask/\e∉xs.toList:=by
 refine Wb fun no=>?_
 have all:∀e,e<=mask->e∈xs.toList:=fun e he=>Wb fun n=>no ⟨e,he,n⟩
 have up:∀j,j<=mask->∃a,xs[a]?=some j/\j<=a:=by
  intro j
  induction j with
  |zero=>intro h;obtain⟨a,ha⟩:=yJ (all 0 h);exact⟨a,ha,MK _⟩
  |succ j ih =>
   intro h;obtain⟨a,ha,hja⟩:=ih (by lia);obtain⟨b,hb⟩:=yJ (all (j+1) h);have:=Ec hr ha hb (by lia);exact⟨b,hb,by lia⟩
 obtain⟨a,ha,hm⟩:=up mask (LG _);have:=(dI ha).2
 lia
def Tab.empty(T:Tab t hs)(h:Int):∃x∈cD t.mask h,x∉t.place.toList:=by obtain⟨e,he,ne⟩:=FA T.rise T.room;obtain⟨k,hk⟩:=T.k;exact⟨e,cover hk h he,ne⟩
def rW(mask:Nat)(h:Int):(cD mask h).length<=10*turns mask:=wV (by have:=Rr (bits h) (show 0<mask+1 by lia);lia)
def n9(mask:Nat)(h:Int):∀x∈cD mask h,x<=mask:=yV (by have:=Rr (bits h) (show 0<mask+1 by lia);lia)
def lV{α:Type}(xs:Array α)(p:Nat)(x:α):(insertAt xs p x).toList=xs.toList.take p++x::xs.toList.drop p:=by unfold insertAt;simp;exact SK (by rw[VB,NV];exact LG _)
def get_ins{α:Type}{l:List α}{p:Nat}(hp:p<=l.length)(x:α)(a:Nat):(l.take p++x::l.drop p)[a]?=if a<p then l[a]? else if a=p then some x else l[a - 1]?:=by
 by_cases h:a<p
 ·rw[K4 h,Qh (by rw[Qj];lia),List.getElem?_take,K4 h]
 ·rw[K3 h,QG (by rw[Qj];lia),Qj,Nat.min_eq_left hp];by_cases e:a=p
  ·rw[K4 e,e,VO];rfl
  ·rw[K3 e,show a - p=(a - p - 1)+1 by lia,List.getElem?_cons_succ,List.getElem?_drop,show p+(a - p - 1)=a - 1 by lia]
theorem Tab.put(T:Tab t hs){j:Nat}{pre post:yag}(hj:j∉t.place.toList)(hv:cD t.mask h=pre++j::post)(hp:∀y∈pre,y∈t.place.toList)(XD:t.place.size+1<=t.mask) :
  Tab (t.put j).1 (hs.take (t.put j).2++h::hs.drop (t.put j).2)/\(t.put j).2<=hs.length/\(t.put j).1.mask=t.mask/\(t.put j).1.place.size=t.place.size+1:=by
 have e1:(t.put j).1.place=insertAt t.place (below t.place j) j:=rfl;have e2:(t.put j).2=below t.place j:=rfl;have e3:(t.put j).1.mask=t.mask:=rfl;have e4:(t.put j).1.dummies=#[]:=by
  show(if has t.dummies j then _ else t.dummies)=_;rw[T.YG];have:has #[] j=false:=by unfold has;simp
  rw[this];rfl
 obtain⟨b1,b2,b3⟩:=jc T.rise j;have bp:below t.place j<=t.place.toList.length:=by rw[NV];exact b1
 have bh:below t.place j<=hs.length:=by rw[<- T.len];exact b1
 have gl:∀a,(t.put j).1.place[a]?=if a<below t.place j then t.place[a]? else if a=below t.place j then some j else t.place[a - 1]?:=fun a=>by rw[e1,<- PO,lV,get_ins bp,PO,PO]
 have sz:(t.put j).1.place.size=t.place.size+1:=by
  rw[e1,<- NV,lV,MG,Qj,Oj,VB,NV]
  lia
 have mem:∀x,x∈(t.put j).1.place.toList↔x=j∨x∈t.place.toList:=fun x=>by
  rw[e1,lV,Mc,Lp];constructor
  ·rintro(z|z|z)
   ·exact .inr (List.mem_of_mem_take z)
   ·exact .inl z
   ·exact .inr (List.mem_of_mem_drop z)
  ·rintro(z|z)
   ·exact .inr (.inl z)
   ·rw[<- Vu (below t.place j) t.place.toList]at z;rcases Mc.mp z with q|q
    ·exact .inl q
    ·exact .inr (.inr q)
 refine⟨⟨T.k,?_,?_,e4,?_,by rw[sz];exact XD,?_⟩,bh,e3,sz⟩
 ·intro a b Ui hb;rw[sz]at hb;have ga:=qY (xs:=(t.put j).1.place) (a:=a) (by rw[sz];lia);have gb:=qY (xs:=(t.put j).1.place) (a:=b) (by rw[sz];exact hb);rw[gl a]at ga;rw[gl b]at gb;have jn:∀c,c<t.place.size->t.place.getD c 0≠j:=fun c hc e=>hj (by rw[<- e];exact get_mem (qY hc))
  by_cases a1:a<below t.place j
  ·rw[K4 a1]at ga;obtain⟨ea,la⟩:=dI ga;have:=b2 a a1;by_cases c1:b<below t.place j
   ·rw[K4 c1]at gb;obtain⟨eb,lb⟩:=dI gb;have:=T.rise a b Ui lb
    lia
   ·rw[K3 c1]at gb;by_cases c2:b=below t.place j
    ·rw[K4 c2]at gb;have:=Ol gb
     lia
    ·rw[K3 c2]at gb;obtain⟨eb,lb⟩:=dI gb;have:=T.rise a (b - 1) (by lia) lb
     lia
  ·rw[K3 a1]at ga;have c1:¬b<below t.place j:=by lia
   have c2:¬b=below t.place j:=by lia
   rw[K3 c1,K3 c2]at gb;obtain⟨eb,lb⟩:=dI gb;by_cases a2:a=below t.place j
   ·rw[K4 a2]at ga;have:=Ol ga;have:=b3 (b - 1) (by lia) lb;have:=jn (b - 1) lb
    lia
   ·rw[K3 a2]at ga;obtain⟨ea,la⟩:=dI ga;have:=T.rise (a - 1) (b - 1) (by lia) lb
    lia
 ·intro x hx;rcases(mem x).mp hx with z|z
  ·subst z;exact n9 t.mask h x (by rw[hv];simp)
  ·exact T.le x z
 ·rw[sz,e2,MG,Qj,Oj,VB,<- T.len]
  lia
 ·intro a x h' hx hh;rw[gl a]at hx;rw[e2,get_ins bh]at hh;have up:∀{l:yag},(∀y∈l,y∈t.place.toList)->∀y∈l,y∈(t.put j).1.place.toList:=fun hl y hy=>(mem y).mpr (.inr (hl y hy))
  by_cases a1:a<below t.place j
  ·rw[K4 a1]at hx hh;obtain⟨p1,p2,q1,q2⟩:=T.reach a x h' hx hh;exact⟨p1,p2,q1,up q2⟩
  ·rw[K3 a1]at hx hh;by_cases a2:a=below t.place j
   ·rw[K4 a2]at hx hh;cases hx;cases hh;exact⟨pre,post,hv,up hp⟩
   ·rw[K3 a2]at hx hh;obtain⟨p1,p2,q1,q2⟩:=T.reach (a - 1) x h' hx hh;exact⟨p1,p2,q1,up q2⟩
theorem ud(mask:Nat)(owner:Array (Option Nat)):∀(fuel i pt:Nat),layClean.free mask owner fuel i pt=(runs mask fuel i pt).find? fun y=>(owner.getD y (some 0)).isNone
 |0,_,_=>rfl
 |fuel+1,i,pt=>by
  rw[nI,List.find?_append,List.range'_eq_map_range,List.find?_map];unfold layClean.free;have ih:=ud mask owner fuel (leap mask i pt).1 (leap mask i pt).2;have ef:((fun y=>(owner.getD y (some 0)).isNone)∘fun x=>i+x)=fun k=>(owner.getD (i+k) (some 0)).isNone:=rfl
  rw[ef];cases(List.range (runEnd mask i+1 - i)).find? fun k=>(owner.getD (i+k) (some 0)).isNone with
  |some k=>rfl
  |none=>exact ih
structure Ow(mask:Nat)(hs:yaf)(owner:Array (Option Nat)):Prop where
 size:owner.size=mask+1
 cnt:(owner.toList.filter Option.isSome).length=hs.length
 at_:∀(i:Nat) (h:Int),hs[i]?=some h->∃j:Nat,owner[j]?=some (some i)/\∃pre post,cD mask h=pre++j::post/\∀y∈pre,∃q,owner[y]?=some (some q)
 lt:∀j i:Nat,owner[j]?=some (some i)->i<hs.length
 inj:∀j j' i:Nat,owner[j]?=some (some i)->owner[j']?=some (some i)->j=j'
theorem qW{α:Type}{p:α->Bool}:∀{l:List α} {x:α},l.find? p=some x->∃pre post,l=pre++x::post/\p x=true/\∀y∈pre,p y=false
 |[],_,h=>by cases h
 |a::r,x,h=>by
  rw[Sr]at h;cases pa:p a with
  |true=>rw[pa]at h;cases h;exact⟨[],r,rfl,pa,by simp⟩
  |false =>
   rw[pa]at h;obtain⟨pre,post,e,q1,q2⟩:=qW h;refine⟨a::pre,post,by rw[e];rfl,q1,fun y hy=>?_⟩;rcases Lp.mp hy with z|z
   ·rw[z];exact pa
   ·exact q2 y z
theorem qV{α:Type}{p:α->Bool}:∀{l:List α} {j:Nat} {a b:α},l[j]?=some a->p a=false->p b=true->((l.set j b).filter p).length=(l.filter p).length+1
 |[],_,_,_,h,_,_=>by simp at h
 |x::r,0,a,b,h,ha,hb=>by simp at h;subst h;rw[List.set_cons_zero,Ye hb,Yd (by simp[ha]),Oj]
 |x::r,j+1,a,b,h,ha,hb=>by
  have ih:=qV (l:=r) (j:=j) (by simpa using h) ha hb;rw[Y5];by_cases c:p x=true
  ·rw[Ye c,Ye c,Oj,Oj,ih]
  ·rw[Yd c,Yd c,ih]
def Ow.step{mask k:Nat}(hk:mask+1=2 ^ k){hs:yaf}{owner:Array (Option Nat)}(O:Ow mask hs owner)(hn:hs.length<=mask)(h:Int) :
  ∃ j,layClean.free mask owner (turns mask) (bits h % (mask+1)) (bits h)=some j/\Ow mask (hs++[h]) (owner.setIfInBounds j (some hs.length)):=by
 have ex:∃e:Nat,e<=mask/\owner[e]?=some none:=by
  refine Wb fun no=>?_
  have all:∀x∈owner.toList,Option.isSome x=true:=fun x hx=>by
   obtain⟨e,le,ee⟩:=RF hx;rw[NV,O.size]at le;cases x with
   |some _=>rfl
   |none=>exact absurd ⟨e,by lia,by rw[<- PO,LM (by rw[NV,O.size];exact le),ee]⟩ no
  have:=O.cnt;rw[Pe.mpr all,NV,O.size]at this
  lia
 have emp:∀y,y<=mask->((owner.getD y (some 0)).isNone=true↔owner[y]?=some none):=fun y hy=>by
  have l:y<owner.size:=by rw[O.size];lia
  rw[Qa l];simp[Array.getD,l]
 obtain⟨e,he,ee⟩:=ex;have fs:((cD mask h).find? fun y=>(owner.getD y (some 0)).isNone).isSome=true:=by rw[List.find?_isSome];exact⟨e,cover hk h he,(emp e he).mpr ee⟩
 obtain⟨j,fj⟩:=Option.isSome_iff_exists.mp fs;obtain⟨pre,post,ev,pj,pp⟩:=qW fj;have jm:j<=mask:=n9 mask h j (by rw[ev];simp);have oj:=(emp j jm).mp pj;have jl:j<owner.size:=by rw[O.size];lia
 refine⟨j,by rw[ud];exact fj,?_⟩;have gs:∀y:Nat,(owner.setIfInBounds j (some hs.length))[y]?=if j=y then some (some hs.length)else owner[y]?:=fun y=>by
  rw[Array.getElem?_setIfInBounds];by_cases c:j=y
  ·rw[K4 c,K4 c,K4 jl]
  ·rw[K3 c,K3 c]
 have keep:∀(y q:Nat),owner[y]?=some (some q)->(owner.setIfInBounds j (some hs.length))[y]?=some (some q):=fun y q hy=>by rw[gs,K3 (fun c=>by subst c;rw[oj]at hy;cases hy)];exact hy
 refine⟨by rw[Array.size_setIfInBounds];exact O.size,?_,?_,?_,?_⟩
 ·rw[Array.toList_setIfInBounds,qV (a:=none) (by rw[PO];exact oj) rfl rfl,O.cnt,MG];rfl
 ·intro i h' hi;by_cases c:i<hs.length
  ·rw[Qh c]at hi;obtain⟨j',o',p1,p2,q1,q2⟩:=O.at_ i h' hi;exact⟨j',keep _ _ o',p1,p2,q1,fun y hy=>let ⟨q,z⟩:=q2 y hy;⟨q,keep _ _ z⟩⟩
  ·rw[QG (by lia)]at hi;have ei:i=hs.length:=by
    have:=(L6.mp hi).1;simp at this
    lia
   subst ei;simp at hi;subst hi;refine⟨j,by rw[gs,K4 rfl],pre,post,ev,fun y hy=>?_⟩;have ym:y<=mask:=n9 mask h y (by rw[ev];simp[hy]);have ny:=pp y hy;have yl:y<owner.size:=by rw[O.size];lia
   cases oy:owner[y]with
   |none =>
    have:=(emp y ym).mpr (by rw[Qa yl,oy]);rw[this]at ny;cases ny
   |some q=>exact⟨q,keep y q (by rw[Qa yl,oy])⟩
 ·intro y i hy;rw[gs]at hy;rw[MG];by_cases c:j=y
  ·rw[K4 c]at hy;cases hy;simp
  ·rw[K3 c]at hy;have:=O.lt y i hy;simp
   lia
 ·intro y y' i hy Qp;rw[gs]at hy Qp;by_cases c:j=y<;>by_cases c':j=y'
  ·lia
  ·rw[K4 c]at hy;rw[K3 c']at Qp;cases hy;have:=O.lt y' _ Qp
   lia
  ·rw[K3 c]at hy;rw[K4 c']at Qp;cases Qp;have:=O.lt y _ hy
   lia
  ·rw[K3 c]at hy;rw[K3 c']at Qp;exact O.inj y y' i hy Qp
theorem wu{mask k:Nat}(hk:mask+1=2 ^ k):∀(rest hs:yaf) (owner:Array (Option Nat)),Ow mask hs owner->hs.length+rest.length<=mask+1 →
  ∃ R7,rest.foldl (fun(acc:Option (Array (Option Nat)×Nat)) h=>do
   let (owner,k)←acc
   let j←layClean.free mask owner (turns mask) (bits h % (mask+1)) (bits h)
   pure (owner.setIfInBounds j (some k),k+1)) (some (owner,hs.length))=some (R7,(hs++rest).length)/\Ow mask (hs++rest) R7
 |[],hs,owner,O,_=>⟨owner,by simp,by rw[Rm];exact O⟩
 |h::r,hs,owner,O,hl=>by
  rw[Oj]at hl;obtain⟨j,fj,O'⟩:=O.step hk (by lia) h;obtain⟨o',e',Q⟩:=wu hk r (hs++[h]) _ O' (by rw[MG];simp;lia);refine⟨o',?_,by rw[QH]at Q;exact Q⟩;rw[List.foldl_cons];have:(do
   let (owner,k)←(some (owner,hs.length):Option (Array (Option Nat)×Nat))
   let j←layClean.free mask owner (turns mask) (bits h % (mask+1)) (bits h)
   pure (owner.setIfInBounds j (some k),k+1))=some (owner.setIfInBounds j (some hs.length),(hs++[h]).length):=by
   show(layClean.free mask owner (turns mask) (bits h % (mask+1)) (bits h) >>= _)=_;rw[fj];simp
  rw[this,e'];simp
def xC{mask k:Nat}(hk:mask+1=2 ^ k)(hashes:Array Int)(hl:hashes.size<=mask+1):∃owner,layClean mask hashes=some owner/\Ow mask hashes.toList owner:=by
 have O:Ow mask [] (Array.replicate (mask+1) none):=by
  refine⟨by simp,by simp,by simp,fun j i h=>?_,fun j j' i h _=>?_⟩
  ·rw[Array.getElem?_replicate]at h;split at h<;>cases h
  ·rw[Array.getElem?_replicate]at h;split at h<;>cases h
 obtain⟨o,e,Q⟩:=wu hk hashes.toList [] _ O (by rw[NV];simp;lia);refine⟨o,?_,by simpa using Q⟩;unfold layClean;rw[<- Array.foldl_toList];show Option.map _ (List.foldl _ (some (Array.replicate (mask+1) none,([]:yaf).length)) _)=_;rw[e];rfl
def live(mask:Nat)(owner:Array (Option Nat)):List (Nat×Nat):=(List.range (mask+1)).filterMap fun j=>(owner.getD j none).map (j,·)
def gY{mask:Nat}{hs:yaf}{owner:Array (Option Nat)}(O:Ow mask hs owner){j i:Nat}:(j,i)∈live mask owner↔owner[j]?=some (some i):=by
 unfold live;rw[Wm];constructor
 ·rintro⟨y,hy,e⟩;rw[Wx]at hy;obtain⟨q,e1,e2⟩:=QW.mp e;cases e2;have l:j<owner.size:=by rw[O.size];exact hy
  rw[Qa l,<- e1];simp[Array.getD,l]
 ·intro h;obtain⟨l,e⟩:=TL.mp h;refine⟨j,by rw[Wx,<- O.size];exact l,?_⟩;rw[show owner.getD j none=some i by simp[Array.getD,l,e]];rfl
def p6(mask:Nat)(owner:Array (Option Nat)):(live mask owner).map (·.1)=(List.range (mask+1)).filter fun j=>(owner.getD j none).isSome:=by
 unfold live
 induction List.range (mask+1)with
 |nil=>rfl
 |cons a r ih =>
  cases e:owner.getD a none with
  |none=>rw[List.filterMap_cons_none (by rw[e];rfl),Yd (by simp[e]),ih]
  |some q=>rw[Yb (by rw[e];rfl),Ye (by simp[e]),LD,ih]
def DD{mask:Nat}{hs:yaf}{owner:Array (Option Nat)}(O:Ow mask hs owner):(live mask owner).length=hs.length:=by
 have e1:(live mask owner).length=((live mask owner).map (·.1)).length:=by simp
 have e2:owner.toList=(List.range (mask+1)).map fun j=>owner.getD j none:=by
  apply List.ext_getElem?;intro j;rw[LZ,PO];by_cases c:j<mask+1
  ·have l:j<owner.size:=by rw[O.size];exact c
   rw[List.getElem?_range c,Qa l];simp[Array.getD,l]
  ·rw[RD (by rw[List.length_range];lia),Wh (by rw[O.size];lia)];rfl
 rw[e1,p6,<- O.cnt,e2,List.filter_map,K8];rfl
def ui(mask:Nat)(owner:Array (Option Nat)):((live mask owner).map (·.1)).Pairwise (·<·):=by rw[p6];exact List.Pairwise.filter _ List.pairwise_lt_range
def Gy{l:yag}(h:l.Pairwise (·<·)):iU l.toArray:=by
 intro a b Ui hb;have Tg:b<l.length:=by simpa using hb
 have:=RB.mp h a b (by lia) Tg Ui;simp[Array.getD,show a<l.length by lia,Tg];exact this
def FQ{mask k:Nat}(hk:mask+1=2 ^ (k+1))(finger moves:Nat)(led plain:Bool){V:Type}(es:Array (Int×V))(hl:es.size<=mask) :
  ∃ t order,laid mask finger moves led plain (es.map (·.1))=some (t,order)/\t.mask=mask/\t.led=led/\t.plain=plain ∧
   ∃ N9:List (Int×V),(order.filterMap (es[·]?)).toList=N9/\N9.length=es.size/\Tab t (N9.map (·.1))/\t.place.size=es.size ∧
    (∀(a:Nat) (e:Int×V),N9[a]?=some e->∃i:Nat,order[a]?=some i/\es[i]?=some e)/\(∀i:Nat,i<es.size->∃a:Nat,order[a]?=some i)/\∀(a b i:Nat),order[a]?=some i->order[b]?=some i->a=b:=by
 obtain⟨owner,eo,O⟩:=xC hk (es.map (·.1)) (by rw[Array.size_map];lia);have XF:(es.map (·.1)).toList.length=es.size:=by simp
 refine⟨{mask,place:=((live mask owner).map (·.1)).toArray,dummies:=#[],finger,led,moves,plain},((live mask owner).map (·.2)).toArray,by unfold laid;rw[eo];rfl,rfl,rfl,rfl,?_⟩;have ll:=DD O;rw[XF]at ll;have lt:∀p∈live mask owner,p.2<es.size:=fun p hp=>by have:=O.lt p.1 p.2 ((gY O).mp hp);rw[XF]at this;exact this
 have Z3:∀l:List (Nat×Nat),(∀p∈l,p.2<es.size)->(((l.map (·.2)).filterMap fun i=>es[i]?).map some)=l.map fun p=>es[p.2]?:=fun l hl=>by
  induction l with
  |nil=>rfl
  |cons p r ih =>
   have lp:=hl p (by simp);rw[LD,Yb (Qa lp),LD,LD,ih fun q hq=>hl q (by simp[hq]),Qa lp]
 have ge:∀a:Nat,((((live mask owner).map (·.2)).filterMap fun i=>es[i]?)[a]?).map some=((live mask owner)[a]?).map fun p=>es[p.2]?:=fun a=>by have:=congrArg (fun l=>l[a]?) (Z3 _ lt);simp only[LZ]at this;exact this
 refine⟨((live mask owner).map (·.2)).filterMap fun i=>es[i]?,by simp,?_,?_,?_,?_,?_,?_⟩
 ·have:=congrArg List.length (Z3 _ lt);rw[K8,K8]at this;rw[this,ll]
 ·refine⟨⟨k,hk⟩,Gy (ui mask owner),?_,rfl,?_,?_,?_⟩
  ·intro x hx;have OV:x∈(live mask owner).map (·.1):=by simpa using hx
   rw[p6,Wu,Wx]at OV;show x<=mask
   lia
  ·have:=congrArg List.length (Z3 _ lt);rw[K8,K8]at this;show((live mask owner).map (·.1)).toArray.size=_;rw[M3,K8,K8,this]
  ·show((live mask owner).map (·.1)).toArray.size<=mask;rw[M3,K8,ll];exact hl
  ·intro a x h hx hh;have OV:((live mask owner).map (·.1))[a]?=some x:=by simpa using hx
   rw[LZ]at OV;obtain⟨p,ep,e1⟩:=QW.mp OV;have g:=ge a;rw[ep]at g;have lp:=lt p (Mz ep);rw[LZ]at hh;obtain⟨e,ee,eh⟩:=QW.mp hh;rw[ee,Option.map_some,Option.map_some,Qa lp]at g;have ge':=Ol (Ol g);obtain⟨j',o',pre,post,ev,q⟩:=O.at_ p.2 h (by rw[<- eh,ge',<- PO]at *;rw[PO,Array.getElem?_map,Qa lp];rfl)
   have oj:=(gY O).mp (show(p.1,p.2)∈live mask owner from Mz ep);have:=O.inj j' p.1 p.2 o' oj;subst this;subst e1;refine⟨pre,post,ev,fun y hy=>?_⟩;obtain⟨z,hz⟩:=q y hy;show y∈((live mask owner).map (·.1)).toArray.toList;simp only[LR];exact⟨(y,z),(gY O).mpr hz,rfl⟩
 ·show((live mask owner).map (·.1)).toArray.size=_;rw[M3,K8,ll]
 ·intro a e he;have g:=ge a;rw[he]at g;cases ep:(live mask owner)[a]? with
  |none=>rw[ep]at g;cases g
  |some p =>
   rw[ep]at g;exact⟨p.2,by simp[ep],(Ol g).symm⟩
 ·intro i hi;obtain⟨h,hh⟩:∃h,(es.map (·.1)).toList[i]?=some h:=⟨_,LM (by rw[XF];exact hi)⟩;obtain⟨j,oj,_⟩:=O.at_ i h hh;obtain⟨a,la,ea⟩:=RF ((gY O).mpr oj);exact⟨a,by simp[LM la,ea]⟩
 ·intro a b i ha hb;have Tf:((live mask owner).map (·.2))[a]?=some i:=by simpa using ha
  have Tg:((live mask owner).map (·.2))[b]?=some i:=by simpa using hb
  rw[LZ]at Tf Tg;obtain⟨p,ep,e1⟩:=QW.mp Tf;obtain⟨q,eq,e2⟩:=QW.mp Tg;have o1:=(gY O).mp (show(p.1,p.2)∈live mask owner from Mz ep);have o2:=(gY O).mp (show(q.1,q.2)∈live mask owner from Mz eq);have ej:=O.inj p.1 q.1 i (by rw[<- e1];exact o1) (by rw[<- e2];exact o2);have r:=ui mask owner;have la:=(L6.mp ep);have lb:=(L6.mp eq);obtain⟨la1,la2⟩:=la;obtain⟨lb1,lb2⟩:=lb;rcases VA a b with z|z|z
  ·have:=RB.mp r a b (by rw[K8];exact la1) (by rw[K8];exact lb1) z;rw[Qb,Qb,la2,lb2]at this
   lia
  ·exact z
  ·have:=RB.mp r b a (by rw[K8];exact lb1) (by rw[K8];exact la1) z;rw[Qb,Qb,la2,lb2]at this
   lia
theorem u7:∀(fuel size n:Nat),n<size*2 ^ fuel->∃m,sizeAbove.go n fuel size=size*2 ^ m/\n<size*2 ^ m
 |0,size,n,h=>⟨0,by simp[sizeAbove.go],h⟩
 |fuel+1,size,n,h=>by
  unfold sizeAbove.go;by_cases c:size<=n
  ·rw[K4 c];obtain⟨m,e1,e2⟩:=u7 fuel (size*2) n (by rw[Qn]at h;rw[Nat.mul_assoc,Nat.mul_comm 2];exact h);refine⟨m+1,?_,?_⟩
   ·rw[e1,Qn,Nat.mul_assoc,Nat.mul_comm 2]
   ·rw[Qn,Nat.mul_comm (2 ^ m),<- Nat.mul_assoc];exact e2
  ·rw[K3 c];exact⟨0,by simp,by simp;lia⟩
def above{n:Nat}(h:n<2 ^ 60):∃k,sizeAbove n - 1+1=2 ^ (k+1)/\n<=sizeAbove n - 1:=by
 obtain⟨m,e1,e2⟩:=u7 64 8 n (M5 h (by decide));have e:sizeAbove n=8*2 ^ m:=e1;have hp:=Ww m;refine⟨m+2,?_,by lia⟩;rw[e,show 2 ^ (m+2+1)=8*2 ^ m by rw[Qn,Qn,Qn];lia]
 lia
end ST
namespace SW
open PySem PySem.SetTable ST
section
variable{prog:Program}{w:World}{A:Around}{E:yaa}{s:Shared}
abbrev TK(prog:Program)(w:World):HeapKind prog w (yaf):=tupleKind (intKind prog w)
theorem items_int:∀{ks:yaf} {vs:yad},ItemsAre (intKind prog w) ks vs->∀v∈vs,∃n t,v=Value.int n t
 |_,_,.nil,v,h=>by cases h
 |_,_,.cons h t,v,hv=>by
  rcases Lp.mp hv with z|z
  ·subst z;obtain⟨t,e⟩:=Value.isInt_shape h;exact⟨_,t,e⟩
  ·exact items_int t v z
def F1(d:Nat)(n:Int)(t:Tok):ofAClassStatement d (.int n t)=pure false:=by cases d<;>rfl
def um{Q:Bool->Shared->Prop}(hk:(TK prog w).is s.heap k b)(hQ:Q false s):wpAny (model prog w) A (ofAClassStatement 8 (.ref b)) Q E s:=by
 obtain⟨o,items,n,ho,hc,hd,hi⟩:=hk;unfold ofAClassStatement;refine K1 (wpAny_typeOf (T := "tuple") ⟨o,ho,hc⟩ ?_);dsimp only;rw[K4 (by decide)];refine K1 (Le ?_);rw[K3 (by decide)];refine K1 (Q2 ho hd ?_);dsimp only;refine K1 ?_;rw[<- Yo];refine wpAny_forIn_list _ (fun rest r s'=>r.1=none/\s'=s/\∀v∈rest,∃n t,v=Value.int n t) _ ?_ ?_ _ _ ⟨rfl,rfl,items_int hi⟩
 ·rintro v rest r s' ⟨hr,rfl,M7⟩;obtain⟨m,t,rfl⟩:=M7 v Ng;rw[F1];refine K1 (Le ?_);simp only[NN,if_false];exact Le ⟨rfl,rfl,fun u SE=>M7 u (L8 _ SE)⟩
 ·rintro⟨r1,r2⟩ s' ⟨hr,rfl,_⟩;simp only at hr;subst hr;exact Le hQ
def FG(d:Nat)(n:Int)(t:Tok):hashByValue d (.int n t)=pure true:=by cases d<;>rfl
def Bp{Q:Bool->Shared->Prop}(hk:(TK prog w).is s.heap k b)(hQ:Q true s):wpAny (model prog w) A (hashByValue 8 (.ref b)) Q E s:=by
 obtain⟨o,items,n,ho,hc,hd,hi⟩:=hk;unfold hashByValue;refine K1 (VI (T := "tuple") ⟨o,ho,hc⟩ F.slot_tuple_hash.lookup ?_);show wpAny _ _ (seqItems? (.ref b) >>= _) _ _ s;refine K1 (Q2 ho hd ?_);dsimp only[UC];refine K1 ?_;rw[<- Yo];refine wpAny_forIn_list _ (fun rest r s'=>r.1=none/\s'=s/\∀v∈rest,∃n t,v=Value.int n t) _ ?_ ?_ _ _ ⟨rfl,rfl,items_int hi⟩
 ·rintro v rest r s' ⟨hr,rfl,M7⟩;obtain⟨m,t,rfl⟩:=M7 v Ng;rw[FG];refine K1 (Le ?_);simp only[Bool.not_true,NN,if_false];exact Le ⟨rfl,rfl,fun u SE=>M7 u (L8 _ SE)⟩
 ·rintro⟨r1,r2⟩ s' ⟨hr,rfl,_⟩;simp only at hr;subst hr;exact Le hQ
def Av{vs:yad}{Q:Bool->Shared->Prop}(hk:(TK prog w).is s.heap k b)(hv:∀v∈vs,∃k' c,v=Value.ref c/\(TK prog w).is s.heap k' c)(hQ:Q false s) :
  wpAny (model prog w) A (searchCouldBeSeen (.ref b) vs) Q E s:=by
 unfold searchCouldBeSeen;refine K1 (wpAny_forIn_list _ (fun rest r s'=>r.1=none/\s'=s/\∀v∈rest,∃k' c,v=Value.ref c/\(TK prog w).is s.heap k' c) _ ?_ ?_ _ _ ⟨rfl,rfl,hv⟩)
 ·rintro v rest r s' ⟨hr,rfl,M7⟩;have Uj:∀u∈rest,∃k' c,u=Value.ref c/\(TK prog w).is s'.heap k' c:=fun u hu=>M7 u (L8 _ hu)
  obtain⟨k',c,rfl,hc⟩:=M7 v Ng;dsimp only;by_cases XG:((b==c) || (carriedByValue (.ref b) && carriedByValue (.ref c)))=true
  ·rw[K4 XG];exact Le ⟨rfl,rfl,Uj⟩
  ·rw[K3 XG];refine K1 ((TK prog w).quiet hk ?_);simp only[Bool.not_true,NN,if_false];refine K1 ((TK prog w).quiet hc ?_);simp only[Bool.not_true,NN,if_false];refine K1 (um hk ?_);simp only[NN,if_false];refine K1 (um hc ?_);simp only[NN,if_false];exact Le ⟨rfl,rfl,Uj⟩
 ·rintro⟨r1,r2⟩ s' ⟨hr,rfl,_⟩;simp only at hr;subst hr;exact Le hQ
theorem pL{o:Obj}{xs:List (yaf×Addr)}{Q:SetFound->Shared->Prop}(hu:A.units<cLine)(hk:(TK prog w).is s.heap k b)
  (ho:s.heap.get? a=some o) (hd:o.data=.set es ep t) (he:es.toList=xs.map fun x=>((TK prog w).hash x.1,Value.ref x.2)) (Tw:∀x∈xs,(TK prog w).is s.heap x.1 x.2) (T:Tab t (xs.map fun x=>(TK prog w).hash x.1))
  (Tv:k∈xs.map (·.1)->Q (.there none) s) (VQ:k∉xs.map (·.1)->∀j pre post,cD t.mask ((TK prog w).hash k)=pre++j::post->(∀y∈pre,y∈t.place.toList)->j∉t.place.toList->Q (.free j false) s) :
  ∀ (fuel:Nat) (l done:yag) (c:Nat) (st:Option Probe),ahead t.mask c (st.getD (t.probeStart ((TK prog w).hash k)))=l->cD t.mask ((TK prog w).hash k)=done++l →
   (∀y∈done,∃(i:Nat) (x:yaf×Addr),t.place[i]?=some y/\xs[i]?=some x/\x.1≠k)->l.length<fuel->(st.getD (t.probeStart ((TK prog w).hash k))).dummy=none->wpAny (model prog w) A (setSearchFrom a (.ref b) ((TK prog w).hash k) true fuel st) Q E s
 |0,_,_,_,_,_,_,_,hf,_=>absurd hf (Wv _)
 |fuel+1,l,done,c,st,e1,e2,Z4,hf,YF=>by
  have sz:es.size=xs.length:=by rw[<- NV,he,K8]
  have fits:t.fits es.size=true:=by have:=T.fits;rw[K8]at this;rw[sz];exact this
  have psz:t.place.size=xs.length:=by have:=T.len;rw[K8]at this;exact this
  have entry:∀(i:Nat) (x:yaf×Addr),xs[i]?=some x->es[i]?=some ((TK prog w).hash x.1,Value.ref x.2):=fun i x hx=>by rw[<- PO,he,LZ,hx];rfl
  have ofPlace:∀i y:Nat,t.place[i]?=some y->∃x,xs[i]?=some x:=fun i y hy=>by have:=(dI hy).2;exact⟨xs[i]'(by lia),LM (by lia)⟩
  have hat:∀(i:Nat) (x:yaf×Addr),xs[i]?=some x->(es[i]?.map (·.1)).getD 0=(TK prog w).hash x.1:=fun i x hx=>by rw[entry i x hx];rfl
  have dpl:∀y∈done,y∈t.place.toList:=fun y hy=>let ⟨i,_,h1,_⟩:=Z4 y hy;get_mem h1
  have emp:∃x∈l,x∉t.place.toList:=by
   obtain⟨x,hx,nx⟩:=T.empty ((TK prog w).hash k);rw[e2]at hx;rcases Mc.mp hx with z|z
   ·exact absurd (dpl x z) nx
   ·exact⟨x,z,nx⟩
  have ll:l.length<=10*turns t.mask:=by
   have:=rW t.mask ((TK prog w).hash k);rw[e2,MG]at this
   lia
  unfold setSearchFrom;refine K1 (Rl ho hd fits ?_);dsimp only;rw[T.stays];simp only[NN,if_false];generalize hm:t.probe _ ((TK prog w).hash k) (st.getD (t.probeStart ((TK prog w).hash k)))=m;rcases wQ T.rise T.YG (fun i=>(es[i]?.map (·.1)).getD 0) ((TK prog w).hash k) l (10*turns t.mask) c _ e1 ll emp YF with⟨pre,j,post,q1,q2,q3,q4⟩| ⟨pre,j,post,i,q,c',q1,q2,q3,q4,q5,q6,q7⟩
  ·have em:m=some (.empty j none):=hm.symm.trans q4;subst em;dsimp only;have hv:cD t.mask ((TK prog w).hash k)=(done++pre)++j::post:=by rw[e2,q1,QH]
   have Z5:∀y∈done++pre,y∈t.place.toList:=fun y hy=>by
    rcases Mc.mp hy with z|z
    ·exact dpl y z
    ·obtain⟨i,h1,_⟩:=q2 y z;exact get_mem h1
   refine Le (VQ (fun Z6=>?_) j _ post hv Z5 q3);obtain⟨x,hx,ek⟩:=LR.mp Z6;obtain⟨i0,li,ei⟩:=RF hx;have gx:xs[i0]?=some x:=by rw[LM li,ei]
   have Z7:=qY (xs:=t.place) (a:=i0) (by lia);obtain⟨Tx,post0,v0,p0⟩:=T.reach i0 _ ((TK prog w).hash k) Z7 (by rw[LZ,gx,<- ek];rfl);have x0:t.place.getD i0 0∈done++pre:=by
    have hz:Tx.length<(done++pre).length:=by
     refine Wb fun nl=>?_
     have g1:(cD t.mask ((TK prog w).hash k))[(done++pre).length]?=some j:=by rw[hv,QG (LG _),VO];rfl
     rw[v0]at g1;by_cases c1:(done++pre).length<Tx.length
     ·rw[Qh c1]at g1;exact q3 (p0 j (Mz g1))
     ·have c2:(done++pre).length=Tx.length:=by lia
      rw[c2,QG (LG _),VO]at g1;have:t.place.getD i0 0=j:=Ol g1;exact q3 (by rw[<- this];exact get_mem Z7)
    have g2:(cD t.mask ((TK prog w).hash k))[Tx.length]?=some (t.place.getD i0 0):=by rw[v0,QG (LG _),VO];rfl
    rw[hv,Qh hz]at g2;exact Mz g2
   have same:∀i':Nat,t.place[i']?=some (t.place.getD i0 0)->i'=i0:=fun i' h'=>(below_at T.rise h').symm.trans (below_at T.rise Z7)
   rcases Mc.mp x0 with z|z
   ·obtain⟨i',x',h1,h2,h3⟩:=Z4 _ z;have:=same i' h1;subst this;rw[gx]at h2;cases h2;exact h3 ek
   ·obtain⟨i',h1,h2⟩:=q2 _ z;have:=same i' h1;subst this;exact h2 (by rw[hat i' x gx,ek])
  ·have em:m=some (.candidate j i q):=hm.symm.trans q7;subst em;dsimp only;obtain⟨x,gx⟩:=ofPlace i j q3;have hx:=Tw x (Mz gx);have stored:∀v∈(es.filter (·.1==(TK prog w).hash k)).toList.map (·.2),∃k' c,v=Value.ref c/\(TK prog w).is s.heap k' c:=fun v hv=>by
    obtain⟨e,he',rfl⟩:=LR.mp hv;have he2:e∈es.toList:=by have:=Array.mem_toList_iff.mp he';exact Array.mem_toList_iff.mpr (Array.mem_filter.mp this).1
    rw[he]at he2;obtain⟨y,hy,rfl⟩:=LR.mp he2;exact⟨y.1,y.2,rfl,Tw y hy⟩
   have go:wpAny (model prog w) A (do
     let some (_,y):=es[i]?|unsupported "internal:set-entry"
     let equal←holding [y] (eqBool y (.ref b))
     let (N9,_,t')←setState a
     if true && equal then return SetFound.there none
     let some same:=t'.sameMemory t.moves t.mask|unsupported "set.changed-during-lookup:is-the-new-block-at-the-old-address"
     let XH←match(if same then t'.slot j else .empty)with
      |.live i'=>match N9[i']? with
       |some (_,y')=>do pure (if←isSame y' y then some i' else none)
       |none=>pure none
      |_=>pure none
     match XH with
     |none=>rule "set.search.anew"; setSearchFrom a (.ref b) ((TK prog w).hash k) true fuel none
     |some i'=>if equal then return .there (some i')else setSearchFrom a (.ref b) ((TK prog w).hash k) true fuel (some q)) Q E s:=by
    rw[entry i x gx];dsimp only;refine K1 (OR ((TK prog w).eqBool hu hx hk ?_));refine K1 (Rl ho hd fits ?_);dsimp only;by_cases ek:x.1=k
    ·rw[K4 (by simp[ek])];exact Le (Tv (LR.mpr ⟨x,Mz gx,ek⟩))
    ·rw[K3 (by simp[ek])];have sm:t.sameMemory t.moves t.mask=some true:=by unfold SetTable.sameMemory;simp
     rw[sm];dsimp only;rw[K4 rfl,uv T.rise q3];dsimp only;rw[entry i x gx];dsimp only;refine K1 (wpAny_isSame_ref_self ?_);simp only[if_true];refine K1 (Le ?_);dsimp only;rw[K3 (by simp[ek])];refine pL hu hk ho hd he Tw T Tv VQ fuel post (done++pre++[j]) c' (some q) q5.symm (by rw[e2,q1];simp) (fun y hy=>?_) (by rw[q1,MG,Oj]at hf;lia) q6;rcases Mc.mp hy with z|z
     ·rcases Mc.mp z with z|z
      ·exact Z4 y z
      ·obtain⟨i',h1,h2⟩:=q2 y z;obtain⟨x',gx'⟩:=ofPlace i' y h1;exact⟨i',x',h1,gx',fun ek'=>h2 (by rw[hat i' x' gx',ek'])⟩
     ·simp at z;subst z;exact⟨i,x,q3,gx,ek⟩
   by_cases XI:t.led=true
   ·rw[K3 (by simp[XI])];exact go
   ·rw[K4 (by simp[XI])];refine K1 (Av hk stored ?_);simp only[NN,if_false];exact go
theorem u9:∀(fuel size n:Nat),sizeAbove.go n fuel size<=max size (2*n)
 |0,size,n=>by unfold sizeAbove.go;lia
 |fuel+1,size,n=>by
  unfold sizeAbove.go;split
  ·have:=u9 fuel (size*2) n
   lia
  ·lia
structure iV(prog:Program)(w:World)(h:Heap)(a:Addr)(xs:List (yaf×Addr)):Prop where
 ex:∃o es ep t,h.get? a=some o/\o.ExactSet/\o.data=.set es ep t/\es.toList=xs.map (fun x=>((TK prog w).hash x.1,Value.ref x.2))/\Tab t (xs.map fun x=>(TK prog w).hash x.1)/\(t.plain=true/\t.led=!w.params.followText "set-order")/\t.place.size*5<t.mask*3/\t.mask<=8191
 YH:∀x∈xs,(TK prog w).is h x.1 x.2
 nd:(xs.map (·.1)).Nodup
def j8 {o:Obj} (hk:(TK prog w).is h k b) (ho:h.get? a=some o) (hc:o.cls=.type "set") (hs:Heap.SameBut a h h'):(TK prog w).is h' k b:=by
 obtain⟨o',items,n,PK,PU,hd,hi⟩:=hk;have ne:b≠a:=fun e=>by subst e;rw[ho]at PK;cases PK;rw[hc]at PU;injection PU with z;exact absurd z (by decide)
 exact⟨o',items,n,hs.extBut b o' ne PK,PU,hd,hi⟩
def D9{xs:List (yaf×Addr)}{o:Obj}{wanted:Nat}{Q:Unit->Shared->Prop}(ho:s.heap.get? a=some o)(hex:o.ExactSet)(hd:o.data=.set es ep t)(he:es.toList=xs.map fun x=>((TK prog w).hash x.1,Value.ref x.2))
  (T:Tab t (xs.map fun x=>(TK prog w).hash x.1)) (MH:t.plain=true/\t.led=!w.params.followText "set-order") (Tw:∀x∈xs,(TK prog w).is s.heap x.1 x.2) (nd:(xs.map (·.1)).Nodup) (hw:wanted=4*xs.length) (hn:0<xs.length) (hl:xs.length<=1000)
  (hQ:∀h' ys,Heap.SameBut a s.heap h'->iV prog w h' a ys->ys.length=xs.length->(∀y,y∈ys↔y∈xs)->Q () {s with heap:=h'}):wpAny (model prog w) A (setRelay a wanted) Q E s:=by
 have sz:es.size=xs.length:=by rw[<- NV,he,K8]
 have fits:t.fits es.size=true:=by have:=T.fits;rw[K8]at this;rw[sz];exact this
 obtain⟨k,ek,eb⟩:=above (n:=wanted) (by lia);have up:sizeAbove wanted<=max 8 (2*wanted):=u9 64 8 wanted;generalize hzs:(xs.map fun x=>((TK prog w).hash x.1,x)).toArray=zs;have zz:zs.size=xs.length:=by rw[<- hzs];simp
 have zg:∀i:Nat,zs[i]?=xs[i]?.map fun x=>((TK prog w).hash x.1,x):=fun i=>by rw[<- hzs];simp
 have eg:∀i:Nat,es[i]?=xs[i]?.map fun x=>((TK prog w).hash x.1,Value.ref x.2):=fun i=>by rw[<- PO,he,LZ]
 have em:es.map (·.1)=zs.map (·.1):=by apply Array.ext_getElem?;intro i;rw[Array.getElem?_map,Array.getElem?_map,zg,eg];cases xs[i]?<;>rfl
 obtain⟨t',order,el,m1,m2,m3,N9,f1,f2,T',f3,f4,f5,f6⟩:=FQ ek t.finger (t.movedTo (sizeAbove wanted - 1)) t.led t.plain zs (by lia);have er:t.relaid (es.map (·.1)) wanted=some (t',order):=by unfold SetTable.relaid;rw[em];exact el
 generalize R8:N9.map (·.2)=ys;have fo:∀l:yag,(l.filterMap fun i=>es[i]?)=(l.filterMap fun i=>zs[i]?).map fun z=>(z.1,Value.ref z.2.2):=fun l=>by
  induction l with
  |nil=>rfl
  |cons i r ih =>
   cases e:xs[i]? with
   |none=>rw[List.filterMap_cons_none (by rw[eg,e];rfl),List.filterMap_cons_none (by rw[zg,e];rfl),ih]
   |some x=>rw[Yb (by rw[eg,e];rfl),Yb (by rw[zg,e];rfl),LD,ih]
 have f1':order.toList.filterMap (fun i=>zs[i]?)=N9:=by rw[<- f1];simp
 have R9:∀z∈N9,z=((TK prog w).hash z.2.1,z.2)/\z.2∈xs:=fun z hz=>by obtain⟨q,lq,eq⟩:=RF hz;obtain⟨i,_,hi⟩:=f4 q z (by rw[LM lq,eq]);rw[zg]at hi;obtain⟨x,ex,e⟩:=QW.mp hi;subst e;exact⟨rfl,Mz ex⟩
 have new:(order.filterMap fun i=>es[i]?).toList=ys.map fun x=>((TK prog w).hash x.1,Value.ref x.2):=by
  have:(order.filterMap fun i=>es[i]?).toList=order.toList.filterMap fun i=>es[i]?:=by simp
  rw[this,fo,f1',<- R8,MJ];apply So;intro z hz;obtain⟨e,_⟩:=R9 z hz;show(z.1,Value.ref z.2.2)=((TK prog w).hash z.2.1,Value.ref z.2.2);rw[show z.1=(TK prog w).hash z.2.1 from congrArg (·.1) e]
 have Zk:N9.map (·.1)=ys.map fun x=>(TK prog w).hash x.1:=by rw[<- R8,MJ];apply So;intro z hz;obtain⟨e,_⟩:=R9 z hz;exact congrArg (·.1) e
 have yl:ys.length=xs.length:=by rw[<- R8,K8,f2,zz]
 have ym:∀y,y∈ys↔y∈xs:=fun y=>by
  rw[<- R8];constructor
  ·intro hy;obtain⟨z,hz,rfl⟩:=LR.mp hy;exact(R9 z hz).2
  ·intro hy;obtain⟨i,li,ei⟩:=RF hy;obtain⟨q,hq⟩:=f5 i (by rw[zz];exact li);have hz:((TK prog w).hash y.1,y)∈N9:=by
    rw[<- f1',Wm];refine⟨i,?_,by rw[zg,LM li,ei];rfl⟩;rw[<- PO]at hq;exact Mz hq
   exact LR.mpr ⟨_,hz,rfl⟩
 have ynd:(ys.map (·.1)).Nodup:=by
  rw[<- R8,MJ];refine RB.mpr fun p q lp lq Z8 e=>?_
  rw[K8]at lp lq;simp only[Qb,Function.comp]at e;obtain⟨i,oi,gi⟩:=f4 p N9[p] (LM lp);obtain⟨i',oi',gi'⟩:=f4 q N9[q] (LM lq);rw[zg]at gi gi';obtain⟨x,ex,e1⟩:=QW.mp gi;obtain⟨x',ex',Z9⟩:=QW.mp gi';rw[<- e1,<- Z9]at e;have e2:x.1=x'.1:=e;obtain⟨l1,l2⟩:=L6.mp ex;obtain⟨l1',l2'⟩:=L6.mp ex';have ii:i=i':=by
   rcases VA i i' with z|z|z
   ·have:=RB.mp nd i i' (by rw[K8];exact l1) (by rw[K8];exact l1') z;rw[Qb,Qb,l2,l2']at this;exact absurd e2 this
   ·exact z
   ·have:=RB.mp nd i' i (by rw[K8];exact l1') (by rw[K8];exact l1) z;rw[Qb,Qb,l2,l2']at this;exact absurd e2.symm this
  subst ii;have:=f6 p q i oi oi'
  lia
 unfold setRelay;refine K1 (Rl ho hd fits ?_);dsimp only;rw[K3 (by rw[sizeLine_eq];lia),er];have nsz:(order.filterMap fun i=>es[i]?).size=es.size:=by rw[<- NV,new,K8,yl,sz]
 refine K1 ?_;show wpAny _ _ (if((order.filterMap fun i=>es[i]?).size != es.size)=true then _ else pure (order.filterMap (fun i=>es[i]?),t')) _ _ _;rw[K3 (by rw[nsz];simp)];refine Le ?_;refine wpAny_storeSet_of ho hd ?_ (by rw[nsz,sz,sizeLine_eq];lia);have hg:(s.heap.update a (Obj.putSet (order.filterMap fun i=>es[i]?) t')).get? a=some {o with data:=.set (order.filterMap fun i=>es[i]?) (ep+1) t'}:=by have:=RC (Obj.putSet (order.filterMap fun i=>es[i]?) t') ho (by rw[putSet_of _ _ hd];rfl);rw[putSet_of _ _ hd]at this;exact this
 rw[Zk]at T';refine hQ _ ys (TN ..) ⟨⟨_,_,ep+1,t',hg,hex,rfl,new,T',⟨by rw[m3];exact MH.1,by rw[m2];exact MH.2⟩,by rw[m1,f3,zz];lia,by rw[m1];lia⟩,fun y hy=>j8 (Tw y ((ym y).mp hy)) ho hex.1 (TN ..),ynd⟩ yl ym
def Ha{Q:Bool->Shared->Prop}(hu:A.units<cLine)(S:iV prog w s.heap a xs)(hk:(TK prog w).is s.heap k b)(hl:xs.length<1000)
  (hQ:∀h' ys b',Heap.SameBut a s.heap h'->iV prog w h' a ys->ys.length<=xs.length+1->(∀k',k'∈ys.map (·.1)↔k'∈xs.map (·.1)∨k'=k)->(∀y∈ys,y∈xs∨y=(k,b))->Q b' {s with heap:=h',toks:=s.toks+(TK prog w).draws k}) :
  wpAny (model prog w) A (setAdd a (.ref b)) Q E s:=by
 unfold setAdd;refine OR (K1 ((TK prog w).pyHash hu hk ?_));generalize hs':({s with toks:=s.toks+(TK prog w).draws k}:Shared)=s';have hh:s'.heap=s.heap:=by rw[<- hs']
 obtain⟨⟨o,es,ep,t,ho,hex,hd,he,T,MH,hlo,hma⟩,Tw,nd⟩:=S;rw[<- hh]at ho hk;have Vc:∀x∈xs,(TK prog w).is s'.heap x.1 x.2:=by rw[hh];exact Tw
 have sz:es.size=xs.length:=by rw[<- NV,he,K8]
 have fits:t.fits es.size=true:=by have:=T.fits;rw[K8]at this;rw[sz];exact this
 have psz:t.place.size=xs.length:=by have:=T.len;rw[K8]at this;exact this
 have back:∀(h':Heap) (b':Bool),Q b' {s with heap:=h',toks:=s.toks+(TK prog w).draws k}->Q b' {s' with heap:=h'}:=fun h' b' q=>by rw[<- hs'];exact q
 unfold setAddHashed;refine OR ?_;unfold setAddHashedIn;refine K1 (Rl ho hd fits ?_);dsimp only;rw[K3 (by unfold byScan;simp[Value.scannable])];obtain⟨c,ec⟩:=xp t ((TK prog w).hash k);have vl:=rW t.mask ((TK prog w).hash k);unfold setSearch;refine K1 (pL hu hk ho hd he Vc T (fun Tv=>?_) (fun VQ j pre post hv hp hj=>?_) 100000 _ [] c none ec.symm (by simp) (by simp) (by unfold turns at vl;lia) rfl)
 ·dsimp only;refine Le ?_;have e:s'={s' with heap:=s'.heap}:=by cases s';rfl
  rw[e];refine back _ _ (hQ s'.heap xs _ (by rw[hh];exact Heap.SameBut.refl a s.heap) ⟨⟨o,es,ep,t,ho,hex,hd,he,T,MH,hlo,hma⟩,Vc,nd⟩ (by lia) (fun k'=>⟨.inl,fun z=>z.elim id fun z=>by subst z;exact Tv⟩) fun y hy=>.inl hy)
 ·dsimp only;refine K1 (Rl ho hd fits ?_);dsimp only;obtain⟨T',pl,pm,ps⟩:=T.put hj hv hp (by lia);rw[K8]at pl;have Z5:(t.put j).1.plain=true:=MH.1;have Z8:(t.put j).1.plain=true/\(t.put j).1.led=!w.params.followText "set-order" := MH;rw[Z5];simp only[if_true];refine K1 (Bp hk ?_);simp only[if_true];generalize hp2:(t.put j).2=p at *;generalize ht2:(t.put j).1=t2 at *;have isz:(insertAt es p ((TK prog w).hash k,Value.ref b)).toList=(xs.take p++(k,b)::xs.drop p).map fun x=>((TK prog w).hash x.1,Value.ref x.2):=by
   rw[lV,he,M6,LD,List.map_take,List.map_drop]
  have hlen:(xs.take p++(k,b)::xs.drop p).length=xs.length+1:=by
   rw[MG,Qj,Oj,VB]
   lia
  have isz2:(insertAt es p ((TK prog w).hash k,Value.ref b)).size=xs.length+1:=by rw[<- NV,isz,K8,hlen]
  have mem:∀y,y∈xs.take p++(k,b)::xs.drop p↔y=(k,b)∨y∈xs:=fun y=>by
   rw[Mc,Lp];constructor
   ·rintro(z|z|z)
    ·exact .inr (List.mem_of_mem_take z)
    ·exact .inl z
    ·exact .inr (List.mem_of_mem_drop z)
   ·rintro(z|z)
    ·exact .inr (.inl z)
    ·rw[<- Vu p xs]at z;rcases Mc.mp z with q|q
     ·exact .inl q
     ·exact .inr (.inr q)
  have YI:((xs.take p++(k,b)::xs.drop p).map (·.1)).Nodup:=by
   rw[M6,LD];have n0:=nd;have h0:=VQ;rw[<- Vu p xs,M6]at n0 h0;rw[List.nodup_append]at n0 ⊢;obtain⟨n1,n2,n3⟩:=n0;rw[Mc,not_or]at h0;refine⟨n1,QI.mpr ⟨h0.2,n2⟩,fun x hx y hy=>?_⟩;rcases Lp.mp hy with z|z
   ·intro e;subst e;subst z;exact h0.1 hx
   ·exact n3 x hx y z
  have Sa:∀zs:List (yaf×Addr),(∀y,y∈zs↔y∈xs.take p++(k,b)::xs.drop p)->∀k',k'∈zs.map (·.1)↔k'∈xs.map (·.1)∨k'=k:=fun zs hz k'=>by
   constructor
   ·intro h1;obtain⟨y,hy,e⟩:=LR.mp h1;rcases(mem y).mp ((hz y).mp hy)with q|q
    ·subst q;exact .inr e.symm
    ·exact .inl (LR.mpr ⟨y,q,e⟩)
   ·rintro(h1|h1)
    ·obtain⟨y,hy,e⟩:=LR.mp h1;exact LR.mpr ⟨y,(hz y).mpr ((mem y).mpr (.inr hy)),e⟩
    ·subst h1;exact LR.mpr ⟨(k',b),(hz _).mpr ((mem _).mpr (.inl rfl)),rfl⟩
  refine K1 (wpAny_storeSet_of ho hd ?_ (by rw[isz2,sizeLine_eq];lia));have hg:(s'.heap.update a (Obj.putSet (insertAt es p ((TK prog w).hash k,Value.ref b)) t2)).get? a=some {o with data:=.set (insertAt es p ((TK prog w).hash k,Value.ref b)) (ep+1) t2}:=by have:=RC (Obj.putSet (insertAt es p ((TK prog w).hash k,Value.ref b)) t2) ho (by rw[putSet_of _ _ hd];rfl);rw[putSet_of _ _ hd]at this;exact this
  have sb:=TN s'.heap a (Obj.putSet (insertAt es p ((TK prog w).hash k,Value.ref b)) t2);generalize hh2:s'.heap.update a (Obj.putSet (insertAt es p ((TK prog w).hash k,Value.ref b)) t2)=h2 at hg sb ⊢;have T2:Tab t2 ((xs.take p++(k,b)::xs.drop p).map fun x=>(TK prog w).hash x.1):=by rw[M6,LD,List.map_take,List.map_drop];exact T'
  have is2:∀x∈xs.take p++(k,b)::xs.drop p,(TK prog w).is h2 x.1 x.2:=fun x hx=>by
   rcases(mem x).mp hx with z|z
   ·subst z;exact j8 hk ho hex.1 sb
   ·exact j8 (Vc x z) ho hex.1 sb
  by_cases tf:t2.tooFull=true
  ·rw[K4 (by simp[tf])];refine K1 (D9 (s:={s' with heap:=h2}) (xs:=xs.take p++(k,b)::xs.drop p) hg hex rfl isz T2 Z8 is2 YI ?_ (by lia) (by lia) fun h3 ys sb3 S3 yl ym=>?_)
   ·rw[hlen,sz];unfold SetTable.grown;rw[K3 (by lia)]
    lia
   ·refine Le (back h3 true (hQ h3 ys true (by rw[<- hh];exact sb.trans sb3) S3 ?_ (Sa ys ym) fun y hy=>?_))
    ·lia
    ·rcases(mem y).mp ((ym y).mp hy)with q|q
     ·exact .inr q
     ·exact .inl q
  ·rw[K3 (by simp[tf])];refine Le (back h2 true (hQ h2 _ true (by rw[<- hh];exact sb) ⟨⟨_,_,ep+1,t2,hg,hex,rfl,isz,T2,Z8,?_,by rw[pm];exact hma⟩,is2,YI⟩ (by lia) (Sa _ fun _=>Iff.rfl) fun y hy=>?_))
   ·have tf':t2.tooFull=false:=by simpa using tf
    unfold SetTable.tooFull SetTable.fill at tf';rw[T2.YG]at tf';simp at tf'
    lia
   ·rcases(mem y).mp hy with q|q
    ·exact .inr q
    ·exact .inl q
end
def ub:entryFor table "set.update.loop" = some Builtin.«set.update.loop»:=entryFor_of_tree (by kernel_rfl)
def nG:plainId "set.update.loop" = true:=by decide +kernel
section
variable{prog:Program}{w:World}{A:Around}{E:yaa}{s:Shared}
def kZ{h':Heap}(hk:(TK prog w).is h k b)(e:∀o,h.get? b=some o->h'.get? b=some o):(TK prog w).is h' k b:=by obtain⟨o',items,n,PK,r⟩:=hk;exact⟨o',items,n,e o' PK,r⟩
def key_ne {o:Obj} (hk:(TK prog w).is h k b) (ho:h.get? a=some o) (hc:o.cls=.type T) (hT:T ≠ "tuple"):b≠a:=fun e=>by subst e;obtain⟨o',items,n,PK,PU,_⟩:=hk;rw[ho]at PK;cases PK;rw[hc]at PU;injection PU with z;exact hT z
def iV.ext{h':Heap}(S:iV prog w h a xs)(e:∀o,h.get? a=some o->h'.get? a=some o)(hk:∀x∈xs,(TK prog w).is h' x.1 x.2):iV prog w h' a xs:=by obtain⟨⟨o,es,ep,t,ho,r⟩,_,nd⟩:=S;exact⟨⟨o,es,ep,t,e o ho,r⟩,hk,nd⟩
def FW {a I l : Addr} {items : yan} {R : Result -> Shared -> Prop} (hh : A.handled = none) (hu : A.in1.units < cLine) (haI : a ≠ I) (hal : a ≠ l) (hlI : l ≠ I) (hn : items.size <= 900) (ks : Nat -> yaf) :
  ∀ (m i : Nat) (s : Shared) (xs : List (yaf × Addr)), items.size - i = m -> i <= items.size -> (s.heap.IsListIter I l i /\ s.heap.IsList l items) -> iV prog w s.heap a xs -> xs.length <= i →
   (∀ (j : Nat) (v : Value), items[j]? = some v -> ∃ c, v = .ref c /\ (TK prog w).is s.heap (ks j) c) -> (∀ k, k ∈ xs.map (·.1) ↔ ∃ j, j < i /\ k = ks j) -> (∀ x ∈ xs, ∃ j, j < i /\ items[j]? = some (.ref x.2)) →
   (∀ h' tk ys, (∀ b o, b ≠ a -> b ≠ I -> s.heap.get? b = some o -> h'.get? b = some o) -> iV prog w h' a ys -> ys.length <= items.size -> (∀ k, k ∈ ys.map (·.1) ↔ ∃ j, j < items.size /\ k = ks j) -> (∀ x ∈ ys, ∃ j, j < items.size /\ items[j]? = some (.ref x.2)) →
    R (.ok (.ret .none)) { s with heap := h', toks := tk }) -> codeAny (model prog w) A (.builtin "set.update.loop" ⟨[.ref a, .ref I], []⟩) R s := by
 have W := Walks.list (prog := prog) (w := w) (A := A.in1) (show A.in1.handled = none from hh) I l hlI items;intro m
 induction m with
 | zero =>
  intro i s xs hm hi st S hx hk XJ hxi hR;have e : i = items.size := by lia
  subst e;refine SQ ub ?_;rw [Around.under_plainId nG _];show wpAny _ A.in1 (pyNext (.ref I) >>= _) _ _ s;refine K1 (W.done s _ _ st fun h' tk kp => ?_);obtain ⟨⟨o, ho, hc, _⟩, _⟩ := st;have Sb : ∀ b o, b ≠ I -> s.heap.get? b = some o -> h'.get? b = some o := fun b o hb e => kp b o (by simpa using hb) e
  refine Le (hR h' tk xs (fun b o _ hb e => Sb b o hb e) (S.ext (fun o e => Sb a o haI e) fun x OV => ?_) hx XJ hxi);exact kZ (S.YH x OV) fun o' e => Sb _ o' (key_ne (S.YH x OV) ho hc (by decide)) e
 | succ m ih =>
  intro i s xs hm hi st S hx hk XJ hxi hR;have MR : i < items.size := by lia
  refine SQ ub ?_;rw [Around.under_plainId nG _];show wpAny _ A.in1 (pyNext (.ref I) >>= _) _ _ s;refine K1 (W.item i s _ _ MR st fun v h' tk hv Om kp => ?_);obtain ⟨⟨o, ho, hc, _⟩, _⟩ := id st;have Sb : ∀ b o, b ≠ I -> s.heap.get? b = some o -> h'.get? b = some o := fun b o hb e => kp b o (by simpa using hb) e
  have up : ∀ {k : yaf} {c : Addr}, (TK prog w).is s.heap k c -> (TK prog w).is h' k c := fun q => kZ q fun o' e => Sb _ o' (key_ne q ho hc (by decide)) e
  have S' : iV prog w h' a xs := S.ext (fun o e => Sb a o haI e) fun x OV => up (S.YH x OV)
  obtain ⟨c, rfl, hkc⟩ := hk i v hv;show wpAny _ A.in1 (holding [.ref c] (setAdd a (.ref c)) >>= _) _ _ _;refine K1 (OR (Ha (s := { s with heap := h', toks := tk }) hu S' (up hkc) (by lia) fun h2 ys b' sb S2 yl km ym => ?_));obtain ⟨⟨o2, _, _, _, QC, hex2, _⟩, _, _⟩ := id S';have VZ : ∀ {k : yaf} {c : Addr}, (TK prog w).is h' k c -> (TK prog w).is h2 k c := fun q => j8 q QC hex2.1 sb
  have P4 : h2.IsListIter I l (i + 1) /\ h2.IsList l items := W.frame _ _ _ Om fun b hb o e => by
   refine sb.extBut b o (fun q => ?_) e;subst q;simp only [Lp, Nq, or_false] at hb;rcases hb with z | z
   ·exact haI z
   ·exact hal z
  refine Le ⟨VM nG _, ih (i + 1) _ ys (by lia) MR P4 S2 (by lia) (fun j v hj => ?_) (fun k => ?_) (fun x OV => ?_) fun h3 tk3 zs kp3 S3 zl zk zi => ?_⟩
  ·obtain ⟨c', e, q⟩ := hk j v hj;exact ⟨c', e, VZ (up q)⟩
  ·rw [km k, XJ k];constructor
   ·rintro (⟨j, hj, e⟩ | e)
    ·exact ⟨j, by lia, e⟩
    ·exact ⟨i, by lia, e⟩
   ·rintro ⟨j, hj, e⟩;by_cases z : j < i
    ·exact .inl ⟨j, z, e⟩
    ·have : j = i := by lia
     subst this;exact .inr e
  ·rcases ym x OV with z | z
   ·obtain ⟨j, hj, e⟩ := hxi x z;exact ⟨j, by lia, e⟩
   ·subst z;exact ⟨i, by lia, hv⟩
  ·exact hR h3 tk3 zs (fun b o h1 Oq e => kp3 b o h1 Oq (sb.extBut b o h1 (Sb b o Oq e))) S3 zl zk zi
end
def uN (a:Value):checkTypeCall "set" ⟨[a],[]⟩=pure ():=by kernel_rfl
def wG (a:Value):checkBuiltinCall "set.__new__" ⟨[.type "set", a],[]⟩=pure ():=by kernel_rfl
section
variable{prog:Program}{w:World}{A:Around}{E:yaa}{s:Shared}
def uE(a:Value){Q₁:yaa}
  (h:∀led:Bool,led=(!w.params.followText "set-order")->Q₁ (.ref s.heap.objs.size) {s with heap:=s.heap.push {cls:=.type "set", dict:=none,data:=.set #[] 0 (.fresh 0 0 led)} }) :
  codeAny (model prog w) A (.call (.builtin "set.__new__") ⟨[.type "set", a],[]⟩) (wants Q₁ E) s:=by
 refine codeAny_of_tree ?_;show wpAny _ A.in1 (do checkBuiltinCall "set.__new__" ⟨[.type "set", a],[]⟩;again (.builtin "set.__new__" ⟨[.type "set", a],[]⟩)) _ _ s;refine K1 (wpAny_of_eq (wG a) (Le ⟨VM F.plain_set_new _,SQ F.entry_set_new ?_⟩));rw[Around.under_plainId F.plain_set_new _];unfold Builtin.«set.__new__» Builtin.Frozenset.newClass;have Xw:=sub_set_self;obtain⟨hp,g,d,tk,os⟩:=s;dsimp only;wp_walk;refine Ws (Le ?_);dsimp only;simp only[newObj];refine K1 (wpAny_alloc (Le ?_));exact Le (h _ rfl)
def xt {x:Value} {Q:Unit->Shared->Prop} (hT:s.TypeIs self "set") (hQ:Q () s):wpAny M A (checkBuiltinCall "set.__init__" ⟨[self,x],[]⟩) Q E s:=by
 simp only[checkBuiltinCall,kind_set_init,split_set_init,sig_set_init];refine K1 (UD hT sub_set_self ?_);simp only[Bool.not_true,NN,if_false];unfold Bind.checkArgs;dsimp only;refine K1 (m:=Bind.printed "set" true _ _) (PyProof.Rows.printed_name (by decide) ?_);refine K1 (m:=Bind.printed "*" false _ _) (PyProof.Rows.printed_star (self:=self) rfl hT fun short=>?_);have hrn:(Manifest.Receiver.self==Manifest.Receiver.none)=false:=by decide
 rw[show(if(Manifest.Receiver.self==Manifest.Receiver.none)=true then[self,x].length else[self,x].length - 1)=1 by simp[hrn]];simp only[Q4];rw[show Bind.check ⟨.positional,"set", "*", .self,[⟨"iterable", .posOnly,false⟩]⟩ "set" short 1 []=pure ()by(simp[Bind.check,Bind.checkCount,Bind.isPositional];intro z;exact absurd z (by decide))];exact Le hQ
set_option maxHeartbeats 1000000 in
def AZ {x:Value} {Q:yaa} (h:∀led:Bool,led=(!w.params.followText "set-order")->wpAny (model prog w) A.in1.in1 (Builtin.«set.__init__» ⟨[.ref s.heap.objs.size,x],[]⟩)
   (fun fin s'=>match fin with|.done f=>wants (fun r K6=>r=.none/\Q (.ref s.heap.objs.size) K6) E (.ok f) s'|.again c'=>c'.quiet=true/\codeAny (model prog w) A.in1 c' (wants (fun r K6=>r=.none/\Q (.ref s.heap.objs.size) K6) E) s')
   (fun e s'=>wants (fun r K6=>r=.none/\Q (.ref s.heap.objs.size) K6) E (.error e) s') {s with heap:=s.heap.push {cls:=.type "set", dict:=none,data:=.set #[] 0 (.fresh 0 0 led)} }) :
  wpAny (model prog w) A (call (.type "set") [x]) Q E s:=by
 obtain⟨c,tl,hmro⟩:=F.called_set.mro;have hmade:=F.called_set.made;have Xw:=F.called_set.sub;refine wpAny_call (codeAny_of_tree ?_);show wpAny _ _ (callAny (.type "set") _) _ _ _;refine Le ⟨Code.quiet_builtin _ (by decide +kernel),SQ F.entry_type_call ?_⟩;rw[Around.under_plain (weight_type_call_type "set" [x] []) rfl];have h1:=F.called_set.notType;have h2:=F.called_set.canCreate;have hct:=uN x
 repeat (any_goals (first|assumption|wp_step))
 refine codeAny_mono (uE (E:=E) x (Q₁:=fun obj Lh=>∃led:Bool,led=(!w.params.followText "set-order")/\obj=.ref s.heap.objs.size/\Lh={s with heap:=s.heap.push {cls:=.type "set", dict:=none,data:=.set #[] 0 (.fresh 0 0 led)} }) fun led hle=>⟨led,hle,rfl,rfl⟩) fun r Lh hr=>?_
 cases r with
 |error e=>exact hr
 |ok fl =>
  cases fl with
  |ret obj =>
   obtain⟨led,hle,rfl,rfl⟩:=hr;have hT:Shared.TypeIs {s with heap:=s.heap.push {cls:=.type "set", dict:=none,data:=.set #[] 0 (.fresh 0 0 led)} } (.ref s.heap.objs.size) "set" := ⟨_,Nw _ rfl,rfl⟩;have hli:=F.called_set.init.lookup;have hbi:=F.called_set.init.bind (.ref s.heap.objs.size)
   repeat (any_goals (first|assumption|wp_step))
   refine codeAny_mono (codeAny_call_builtin (R:=wants (fun r K6=>r=.none/\Q (.ref s.heap.objs.size) K6) E) F.called_set.init.plain F.entry_set_init (xt hT (h led hle))) fun r₂ K6 Sd=>?_
   cases r₂ with
   |error e=>exact Sd
   |ok XM =>
    cases XM with
    |ret r =>
     obtain⟨rfl,hq⟩:=Sd
     repeat (any_goals (first|assumption|wp_step))
    |_=>exact Sd.elim
  |_=>exact hr.elim
def FC (led:Bool) (hle:led=!w.params.followText "set-order"):iV prog w (s.heap.push {cls:=.type "set", dict:=none,data:=.set #[] 0 (.fresh 0 0 led)}) s.heap.objs.size []:=by refine⟨⟨_,#[],0,_,Nw _ rfl,⟨rfl,rfl,rfl⟩,rfl,rfl,?_,⟨rfl,hle⟩,by show 0*5<7*3;decide,by show 7<=8191;decide⟩,by simp,by simp⟩;refine⟨⟨2,rfl⟩,fun a b _ hb=>absurd hb (Wv _),(fun x hx=>by cases hx),rfl,rfl,MK _,fun a x h hx=>?_⟩;have:(#[]:yao)[a]?=some x:=hx;simp at this
def Jp:isSubtype (.type "list") (.type "set")=pure false:=by rw[isSubtype_type];kernel_rfl
def Jo:isSubtype (.type "list") (.type "frozenset")=pure false:=by rw[isSubtype_type];kernel_rfl
def call_set_list {Q : yaa} (hh : A.handled = none) (hu : A.in1.in1.in1.units < cLine) (hl : s.heap.IsList l items) (hn : items.size <= 900) (ks : Nat -> yaf)
  (hk : ∀ (j : Nat) (v : Value), items[j]? = some v -> ∃ c, v = .ref c /\ (TK prog w).is s.heap (ks j) c)
  (hQ : ∀ h' tk ys, (∀ b o, s.heap.get? b = some o -> h'.get? b = some o) -> iV prog w h' s.heap.objs.size ys -> ys.length <= items.size -> (∀ k, k ∈ ys.map (·.1) ↔ ∃ j, j < items.size /\ k = ks j) -> (∀ x ∈ ys, ∃ j, j < items.size /\ items[j]? = some (.ref x.2)) →
   Q (.ref s.heap.objs.size) { s with heap := h', toks := tk }) : wpAny (model prog w) A (call (.type "set") [.ref l]) Q E s := by
 refine AZ fun led hle => ?_
 have hS : (s.heap.push { cls := .type "set", dict := none, data := .set #[] 0 (.fresh 0 0 led) }).get? s.heap.objs.size = some { cls := .type "set", dict := none, data := .set #[] 0 (.fresh 0 0 led) } := Nw _ rfl;have hT : Shared.TypeIs { s with heap := s.heap.push { cls := .type "set", dict := none, data := .set #[] 0 (.fresh 0 0 led) } } (.ref s.heap.objs.size) "set" := ⟨_, hS, rfl⟩;have ll : l < s.heap.objs.size := by obtain ⟨o, ho, _⟩ := hl; exact LK ho
 have V2 : Shared.TypeIs { s with heap := s.heap.push { cls := .type "set", dict := none, data := .set #[] 0 (.fresh 0 0 led) } } (.ref l) "list" := by obtain ⟨o, ho, hc, _⟩ := hl;exact ⟨o, Mb _ ho, hc⟩
 have S0 := FC (prog := prog) (w := w) (s := s) led hle;have hl1 : (s.heap.push { cls := .type "set", dict := none, data := .set #[] 0 (.fresh 0 0 led) }).IsList l items := hl.push _;have VW : (s.heap.push { cls := .type "set", dict := none, data := .set #[] 0 (.fresh 0 0 led) }).objs.size = s.heap.objs.size + 1 := TX ..;have kp1 : ∀ b o, s.heap.get? b = some o -> (s.heap.push { cls := .type "set", dict := none, data := .set #[] 0 (.fresh 0 0 led) }).get? b = some o := fun b o e => Mb _ e
 unfold Builtin.«set.__init__» noKeywords
 wp_walk
 refine wpAny_of_eq Jp ?_;show wpAny _ _ (isInstance (.ref l) (.type "frozenset")) _ _ _;refine UD V2 Jo ?_;simp only [NN, if_false];refine K1 (wpAny_typeOf V2 ?_);rw [K3 (by decide)];generalize s.heap.push { cls := .type "set", dict := none, data := .set #[] 0 (.fresh 0 0 led) } = h1 at *;refine K1 (wpAny_pyIter_list hl1 ?_);refine K1 (wpAny_runValue ?_);have ne1 : s.heap.objs.size ≠ h1.objs.size := by lia
 refine FW (A := A.in1.in1) (I := h1.objs.size) (l := l) (items := items) hh hu ne1 (Qe ll) (Ms (by rw [VW]; exact SM ll)) hn ks items.size 0 { s with heap := h1.push { cls := .type "list_iterator", data := .fields #[.ref l, .int 0 0] } } [] (by lia) (MK _) ⟨⟨_, Nw _ rfl, rfl, rfl⟩, hl1.push _⟩ (S0.ext (fun o e => Mb _ e) (by simp)) (LG _) (fun j v hj => ?_) (by simp) (by simp) fun h' tk ys kp S yl yk yi => ?_
 ·obtain ⟨c, e, q⟩ := hk j v hj;exact ⟨c, e, kZ q fun o e => Mb _ (kp1 c o e)⟩
 ·refine Le (Le ⟨rfl, hQ h' tk ys (fun b o e => ?_) S yl yk yi⟩);have lb : b < s.heap.objs.size := LK e;exact kp b o (Ms lb) (Ms (by rw [VW]; exact SM lb)) (Mb _ (kp1 b o e))
end
theorem qU{α:Type}:∀(l:List α) (i:Nat) (h:i<l.length),(l[i]::l.eraseIdx i).Perm l
 |[],_,h=>absurd h (Wv _)
 |x::l,0,_=>List.Perm.refl _
 |x::l,i+1,h=>by have r:=qU l i (by simpa using h);show(l[i]'(by simpa using h)::x::l.eraseIdx i).Perm (x::l);exact(List.Perm.swap x _ _).trans (List.Perm.cons x r)
theorem yN{α:Type}(next:Nat->Nat):∀(fuel k:Nat) (left:List α) (out:Array α),left.length=fuel->(pickOrder.go next fuel k left out).toList.Perm (out.toList++left)
 |0,k,left,out,e=>by have:left=[]:=List.length_eq_zero_iff.mp e;subst this;simp[pickOrder.go]
 |fuel+1,k,left,out,e=>by
  have hp:0<left.length:=by lia
  have hm:next k % left.length<left.length:=Rr _ hp;unfold pickOrder.go;rw[LM hm];dsimp only;have r:=yN next fuel (k+1) (left.eraseIdx (next k % left.length)) (out.push left[next k % left.length]) (by rw[List.length_eraseIdx,K4 hm];lia);refine r.trans ?_;rw[Array.toList_push,QH];exact(List.perm_append_left_iff _).mpr (qU left _ hm)
def BZ{α:Type}(next:Nat->Nat)(xs:Array α):(pickOrder next xs).toList.Perm xs.toList:=by have:=yN next xs.size 0 xs.toList #[] (by simp);simpa [pickOrder]using this
def zH(hr:iU xs):below xs 0=0:=by
 obtain⟨h1,h2,h3⟩:=jc hr 0;rcases Nat.eq_zero_or_pos (below xs 0)with z|z
 ·exact z
 ·have:=h2 0 z;lia
def zG(hr:iU xs){a j:Nat}(h:xs[a]?=some j):below xs (j+1)=a+1:=by
 obtain⟨h1,h2,h3⟩:=jc hr (j+1);obtain⟨la,ea⟩:=TL.mp h;have ga:xs.getD a 0=j:=by simp[Array.getD,la,ea]
 rcases VA (below xs (j+1)) (a+1)with z|z|z
 ·have:=h3 a (by lia) la
  lia
 ·exact z
 ·have q:=h2 (a+1) z;have lb:a+1<xs.size:=by lia
  have:=hr a (a+1) (by lia) lb
  lia
def wO:Manifest.owners.lookup (String.ofList ['r','o','t','a','r','e','t','i','_','t','e','s'].reverse)=some Manifest.sig_set_iterator:=by kernel_rfl
def dh:Slot "set_iterator" "__next__" "set_iterator.__next__" :=
 .of (owner := "set_iterator") (n := "__next__") (by rw[typeLookup_type,Yi];kernel_rfl) (by decide +kernel) (by decide +kernel) (by decide +kernel) (.inl (by decide +kernel)) (by rw[isSubtype_type];kernel_rfl)
def nQ:Slot "set_iterator" "__iter__" "set_iterator.__iter__" :=
 .of (owner := "set_iterator") (n := "__iter__") (by rw[typeLookup_type,Yi];kernel_rfl) (by decide +kernel) (by decide +kernel) (by decide +kernel) (.inl (by decide +kernel)) (by rw[isSubtype_type];kernel_rfl)
def mL:entryFor table "set_iterator.__next__" = some Builtin.«set_iterator.__next__»:=entryFor_of_tree (by kernel_rfl)
def uF:entryFor table "set_iterator.__iter__" = some Builtin.«dict_keyiterator.__iter__»:=entryFor_alias (id' := "dict_keyiterator.__iter__") (by kernel_rfl) rfl (by decide +kernel) (by kernel_rfl)
def vR:entryFor table "set.__iter__" = some Builtin.«frozenset.__iter__»:=entryFor_alias (id' := "frozenset.__iter__") (by kernel_rfl) rfl (by decide +kernel) (by kernel_rfl)
def mV (a:Value):argsOk "set_iterator.__next__" ⟨[a],[]⟩:=by unfold argsOk;rw[signature?_of (id := "set_iterator.__next__") (n:=['_','_','t','x','e','n','_','_']) (o:=['r','o','t','a','r','e','t','i','_','t','e','s']) (by kernel_rfl) wO];kernel_rfl
def vd (a:Value):argsOk "set_iterator.__iter__" ⟨[a],[]⟩:=by unfold argsOk;rw[signature?_of (id := "set_iterator.__iter__") (n:=['_','_','r','e','t','i','_','_']) (o:=['r','o','t','a','r','e','t','i','_','t','e','s']) (by kernel_rfl) wO];kernel_rfl
def eN (w:World) (a:Addr) (es:Array (Int×Value)) (ep:Nat):Array (Int×Value):=if w.params.followText "set-order" = true then pickOrder (w.params.setOrder a ep) es else es
def pP(w:World)(a:Addr)(es:Array (Int×Value))(ep:Nat):(eN w a es ep).toList.Perm es.toList:=by
 unfold eN;split
 ·exact BZ _ _
 ·exact List.Perm.refl _
def kS(w:World)(a:Addr)(es:Array (Int×Value))(ep:Nat):(eN w a es ep).size=es.size:=by have:=(pP w a es ep).length_eq;simpa using this
def si(w:World)(h:Heap)(I a:Addr)(t:SetTable)(n ep i:Nat):Prop :=
 ∃ o slot,h.get? I=some o/\o.cls=.type "set_iterator" /\ o.data=.fields #[.int (slot:Nat) 0,.int (i:Nat) 0,.ref a,.int (n:Nat) 0,.int (ep:Nat) 0]/\(w.params.followText "set-order" = false->below t.place slot=i)
section
variable{prog:Program}{w:World}{A:Around}{E:yaa}{s:Shared}
def tD (x:si w s.heap I a t n ep i):s.TypeIs (.ref I) "set_iterator" := by obtain⟨o,_,ho,hc,_⟩:=x;exact⟨o,ho,hc⟩
def rL{a:Addr}{o:Obj}{es:Array (Int×Value)}{ep slot i:Nat}{t:SetTable}{hs:yaf}{Q:Option (Value×Nat)->Shared->Prop}(ho:s.heap.get? a=some o)(hd:o.data=.set es ep t)(T:Tab t hs)(he:hs.length=es.size)
  (MH:t.plain=true/\t.led=!w.params.followText "set-order") (hb:w.params.followText "set-order" = false->below t.place slot=i)
  (hQ:∀z,(eN w a es ep)[i]?.map (·.2)=z.map (·.1)->(∀p,z=some p->w.params.followText "set-order" = false->below t.place p.2=i+1)->Q z s):wpAny (model prog w) A (setNext a slot i ep) Q E s:=by
 have fits:t.fits es.size=true:=by rw[<- he];exact T.fits
 unfold setNext;refine K1 (Rl ho hd fits ?_);dsimp only;unfold setsByText;refine K1 (K1 (Ws (Le ?_)));show wpAny _ _ (if w.params.followText "set-order" = true then _ else _) _ _ _;by_cases hf:w.params.followText "set-order" = true
 ·rw[K4 hf];simp only[Wn,NN,if_false];unfold setWalk setsByText;refine K1 (K1 (Rl ho hd fits ?_));dsimp only;refine K1 (K1 (Ws (Le ?_)));show wpAny _ _ (if w.params.followText "set-order" = true then _ else _) _ _ _;rw[K4 hf];refine K1 (Ws (Le ?_));show wpAny _ _ (pure _) _ _ _;refine Le (hQ _ ?_ ?_)
  ·unfold eN;rw[K4 hf];show _=Option.map _ (Option.map _ (pickOrder (w.params.setOrder a ep) es)[i]?);cases(pickOrder (w.params.setOrder a ep) es)[i]?<;>rfl
  ·intro p _ h;rw[hf]at h;cases h
 ·have hf':w.params.followText "set-order" = false:=by simpa using hf
  rw[K3 hf];split
  ·rename_i h;have h':(!t.plain && decide (es.size > 1))=true:=h;rw[MH.1]at h';simp at h'
  ·refine K1 ?_;show wpAny _ _ (if(!t.led && !es.isEmpty)=true then unsupported "set:maker-not-led" else pure ()) _ _ _;rw[K3 (by rw[MH.2,hf'];simp)];refine Le (Le (hQ _ ?_ ?_))
   ·unfold eN;rw[K3 hf,hb hf'];cases e:es[i]? with
    |none=>rfl
    |some z =>
     have li:i<es.size:=(TL.mp e).1;have e2:t.place[i]?=some (t.place[i]'(by rw[T.len,he];exact li)):=Qa _;rw[e2];rfl
   ·intro p hp _;rw[hb hf']at hp;split at hp
    ·rename_i j e;cases hp;exact zG T.rise e
    ·cases hp
def GN{o:Obj}{x:Int×Value}{Q:yam->Shared->Prop}(ho:s.heap.get? a=some o)(hd:o.data=.set es ep t)(T:Tab t hs)(he:hs.length=es.size)
  (MH:t.plain=true/\t.led=!w.params.followText "set-order") (st:si w s.heap I a t es.size ep i) (hx:(eN w a es ep)[i]?=some x)
  (hQ:∀h',si w h' I a t es.size ep (i+1)->Heap.SameBut I s.heap h'->Q (some x.2) {s with heap:=h'}):wpAny (model prog w) A (pyNext (.ref I)) Q E s:=by
 obtain⟨oi,slot,Uk,hci,Vd,hb⟩:=id st;have hT:=tD st;have fits:t.fits es.size=true:=by rw[<- he];exact T.fits
 unfold pyNext;refine K1 (T1 (SJ (name:=Str.ofString "__next__") hT dh (Q0 dh hT mL ?_ (mV _))));unfold Builtin.«set_iterator.__next__»;refine K1 (m:=slotArgs "__next__" 0 ⟨[.ref I],[]⟩) (Le ?_);dsimp only;refine K1 (wpAny_fieldsOf Uk Vd ?_);dsimp only;unfold setEntries;refine K1 (K1 (Rl ho hd fits (Le ?_)));dsimp only;rw[K3 (by simp)];simp only[Uz];refine K1 (rL ho hd T he MH hb fun z hz hn=>?_);rw[hx]at hz;cases z with
 |none=>cases hz
 |some p =>
  obtain⟨v,nx⟩:=p;have ev:x.2=v:=Ol hz;subst ev;dsimp only;refine K1 (VL Uk Vd (by simp) ?_);have h1:=RC (Obj.mapFields (·.setIfInBounds 0 (rawInt (nx:Nat)))) Uk (Obj.isFreed_of_fields (Obj.data_mapFields Vd _));have d1:=Obj.data_mapFields Vd (·.setIfInBounds 0 (rawInt (nx:Nat)));refine K1 (VL h1 d1 (by simp) ?_);refine Le ⟨_,rfl,Le (hQ _ ⟨_,nx,RC _ h1 (Obj.isFreed_of_fields (Obj.data_mapFields d1 _)),(Obj.cls_mapFields ..).trans ((Obj.cls_mapFields ..).trans hci),?_,hn _ rfl⟩ ((TN ..).trans (TN ..)))⟩;rw[Obj.data_mapFields d1];simp[rawInt]
def Jl{o:Obj}{Q:yam->Shared->Prop}(hh:A.handled=none)(ho:s.heap.get? a=some o)(hd:o.data=.set es ep t)(T:Tab t hs)(he:hs.length=es.size)
  (MH:t.plain=true/\t.led=!w.params.followText "set-order") (st:si w s.heap I a t es.size ep i) (hx:(eN w a es ep)[i]?=none)
  (hQ:∀h',Heap.ExtBut I s.heap h'->Q none {s with heap:=h'}):wpAny (model prog w) A (pyNext (.ref I)) Q E s:=by
 obtain⟨oi,slot,Uk,hci,Vd,hb⟩:=id st;have hT:=tD st;have fits:t.fits es.size=true:=by rw[<- he];exact T.fits
 unfold pyNext;refine K1 (T1 (SJ (name:=Str.ofString "__next__") hT dh (Q0 dh hT mL ?_ (mV _))));unfold Builtin.«set_iterator.__next__»;refine K1 (m:=slotArgs "__next__" 0 ⟨[.ref I],[]⟩) (Le ?_);dsimp only;refine K1 (wpAny_fieldsOf Uk Vd ?_);dsimp only;unfold setEntries;refine K1 (K1 (Rl ho hd fits (Le ?_)));dsimp only;rw[K3 (by simp)];simp only[Uz];refine K1 (rL ho hd T he MH hb fun z hz hn=>?_);rw[hx]at hz;cases z with
 |some p=>cases hz
 |none =>
  dsimp only;refine K1 (VL Uk Vd (by simp) ?_);show wpAny _ _ (newExc (.type "StopIteration") [] >>= _) _ _ _;refine K1 ?_;simp only[newExc,newTuple];refine K1 (Rk ?_ (by size_fits));refine K1 (m:=firstArgMember _ _) (wpAny_of_eq (a:=Value.none) (by first|rfl|(simp only[firstArgMember];rfl)) ?_);refine Rk ?_ (by size_fits);simp only[raiseNew];refine K1 (wpAny_handled ?_);rw[show A.in1.handled=none from hh];refine K1 (Le (wpAny_throw ?_));refine K1 (UD (T := "StopIteration") (b:=true) ⟨_,Nw _ rfl,rfl⟩ isSubtype_stop ?_);exact Le (hQ _ (((TN ..).extBut.push _).push _))
def GO{Q:yaa}(st:si w s.heap I a t n ep i)(h:Q (.ref I) s):wpAny (model prog w) A (pyIter (.ref I)) Q E s:=by have hT:=tD st;refine wpAny_pyIter_slot hT nQ (Q0 nQ hT uF ?_ (vd _));show wpAny _ _ (ret (.ref I)) _ _ s;exact Le ⟨_,rfl,"set_iterator", _,hT,dh.lookup,h⟩
def Cz (hh:A.handled=none) (I a:Addr) (LV:a≠I) {o:Obj} (hd:o.data=.set es ep t) (T:Tab t hs) (he:hs.length=es.size) (MH:t.plain=true/\t.led=!w.params.followText "set-order") :
  Walks prog w A I [I,a] [I] es.size (fun i v=>∃x,(eN w a es ep)[i]?=some x/\x.2=v) (fun i h=>si w h I a t es.size ep i/\h.get? a=some o) where
 sub:=fun b hb=>by simp at hb;simp[hb]
 frame:=fun _ _ _ st hk=>⟨by obtain⟨⟨o,sl,ho,r⟩,_⟩:=st;exact⟨o,sl,hk I (by simp) o ho,r⟩,hk a (by simp) o st.2⟩
 item:=fun i s Q E hi st hQ=>by
  have lw:i<(eN w a es ep).size:=by rw[kS];exact hi
  refine GN st.2 hd T he MH st.1 (Qa lw) fun h' Om sb=>?_
  exact hQ _ h' s.toks ⟨_,Qa lw,rfl⟩ ⟨Om,sb.extBut a o LV st.2⟩ fun b o hb e=>sb.extBut b o (fun h=>hb (by simp[h])) e
 done:=fun s Q E st hQ=>Jl hh st.2 hd T he MH st.1 (by rw[Wh];rw[kS];exact LG _) fun h' sb=>hQ h' s.toks fun b o hb e=>sb b o (fun h=>hb (by simp[h])) e
 self:=fun _ _ _ _ st hQ=>GO st.1 hQ
def Dv {o:Obj} {Q:yaa} (ho:s.heap.get? a=some o) (hc:o.cls=.type "set") (hd:o.data=.set es ep t) (T:Tab t hs) (he:hs.length=es.size) (MH:t.plain=true)
  (hQ:Q (.ref s.heap.objs.size) {s with heap:=s.heap.push {cls:=.type "set_iterator", data:=.fields #[.int 0 0,.int 0 0,.ref a,.int (es.size:Nat) 0,.int (ep:Nat) 0]} }):wpAny (model prog w) A (pyIter (.ref a)) Q E s:=by
 have hT:s.TypeIs (.ref a) "set" := ⟨o,ho,hc⟩;have fits:t.fits es.size=true:=by rw[<- he];exact T.fits
 refine wpAny_pyIter_slot hT F.slot_set_iter (Q0 F.slot_set_iter hT vR ?_ (F.args_set_iter_1 _));unfold Builtin.«frozenset.__iter__»;refine K1 (m:=Builtin.Frozenset.slot0 "__iter__" ⟨[.ref a],[]⟩) (Le ?_);unfold Builtin.Frozenset.sizeOf setEntries setDrawn setEpoch setsByText;refine K1 (K1 (K1 (Rl ho hd fits (Le (Le ?_)))));refine K1 (K1 (Rl ho hd fits ?_));dsimp only;refine K1 (K1 (Ws (Le (Le ?_))));split
 ·rename_i h;have h':(!(w.params.followText "set-order") && (!t.plain && decide (es.size > 1)))=true:=h;rw[MH]at h';simp at h'
 ·refine K1 (Le ?_);refine K1 (K1 (Rl ho hd fits (Le ?_)));unfold newFields;refine K1 (Rk ?_ (by size_fits));exact Le ⟨_,rfl,"set_iterator", _,⟨_,Nw _ rfl,rfl⟩,dh.lookup,hQ⟩
def xu {o:Obj} {Q:yad->Shared->Prop} (hh:A.handled=none) (ho:s.heap.get? a=some o) (hc:o.cls=.type "set") (hd:o.data=.set es ep t) (T:Tab t hs) (he:hs.length=es.size) (MH:t.plain=true/\t.led=!w.params.followText "set-order") (hn:es.size<=1000)
  (hQ:∀s' (acc:yad),(∀b o,s.heap.get? b=some o->s'.heap.get? b=some o)->s'.gens=s.gens->s'.drawn=s.drawn->s'.os=s.os->s.heap.objs.size<=s'.heap.objs.size->acc=(eN w a es ep).toList.map (·.2)->Q acc s'):wpAny (model prog w) A (collect (.ref a)) Q E s:=by
 unfold collect;have la:a<s.heap.objs.size:=LK ho;refine K1 (wpAny_runValue (SQ F.entry_proto_collect ?_));rw[Around.under_plainId F.plain_proto_collect _];show wpAny _ A.in1 (newList [] >>= fun l=>again (.builtin "list.__iadd__" ⟨[l,.ref a],[]⟩)) _ _ s;refine K1 (Rk ?_);refine Le ⟨VM F.plain_list_iadd _,SQ F.entry_list_iadd ?_⟩;rw[Around.under_plainId F.plain_list_iadd _];show wpAny _ A.in1 (Builtin.List.listExtendWith (.ref s.heap.objs.size) (.ref a) (.ref s.heap.objs.size)) _ _ _;generalize hH:s.heap.push {cls:=.type "list", data:=.seq ([]:yad).toArray}=H;have hHs:H.objs.size=s.heap.objs.size+1:=by rw[<- hH,TX]
 have SF:H.get? a=some o:=hH ▸ Mb _ ho;have hT:Shared.TypeIs {s with heap:=H} (.ref a) "set" := ⟨o,SF,hc⟩;unfold Builtin.List.listExtendWith;refine K1 (wpAny_typeOf hT ?_);have h1:Builtin.List.listSameRef (.ref s.heap.objs.size) (.ref a)=false:=by have:s.heap.objs.size≠a:=Qe la;simp[Builtin.List.listSameRef,this]
 have h2:(Value.type "set" == Value.type "list")=false:=by decide
 have h3:(Value.type "set" == Value.type "tuple")=false:=by decide
 simp only[h1,h2,h3,Bool.or_false,NN,if_false];refine K1 (Dv SF hc hd T he MH.1 ?_);generalize Tn:H.push {cls:=.type "set_iterator", data:=.fields #[.int 0 0,.int 0 0,.ref a,.int (es.size:Nat) 0,.int (ep:Nat) 0]}=H2;have V2:Shared.TypeIs {s with heap:=H2} (.ref a) "set" := ⟨o,Tn ▸ Mb _ SF,hc⟩;refine K1 (OR ?_);unfold Builtin.List.listLengthHint;refine K1 (VI V2 F.slot_set_len.lookup ?_)
 wp_delta
 refine K1 (UD (T := "set") (b:=true) V2 (by rw[isSubtype_type];kernel_rfl) ?_);show wpAny _ A.in1 (typeOf (Value.ref a) >>= _) _ _ _;refine K1 (wpAny_typeOf V2 ?_);refine Le ?_;rw[K4 (by decide)];show wpAny _ A.in1 (rule "list.extend.makes-room" >>= fun _=>Builtin.List.listTouch (.ref s.heap.objs.size) >>= fun _ =>
  again (.builtin "list.extend.loop" ⟨[.ref s.heap.objs.size,.ref H.objs.size,.ref s.heap.objs.size],[]⟩)) _ _ _
 refine K1 (wpAny_rule ?_);refine K1 ?_;show wpAny _ A.in1 (updateSeq s.heap.objs.size (·.push .none) >>= fun _=>updateSeq s.heap.objs.size (·.pop)) _ _ _;have hS:H2.get? s.heap.objs.size=some {cls:=.type "list", data:=.seq ([]:yad).toArray}:=Tn ▸ Mb _ (hH ▸ Nw _ rfl);refine K1 (VJ hS rfl ?_);have Ul:=RC (Obj.mapSeq (·.push Value.none)) hS rfl;refine VJ (hz:=by seq_fits) Ul rfl ?_;have XN:=RC (Obj.mapSeq (·.pop)) Ul rfl;have Pp:∀b o,b≠s.heap.objs.size->H2.get? b=some o->((H2.update s.heap.objs.size (Obj.mapSeq (·.push Value.none))).update s.heap.objs.size (Obj.mapSeq (·.pop))).get? b=some o :=
  fun b o hb e=>(Rh _ _ (Ne.symm hb)).trans ((Rh _ _ (Ne.symm hb)).trans e)
 have hI:H2.get? H.objs.size=some {cls:=.type "set_iterator", data:=.fields #[.int 0 0,.int 0 0,.ref a,.int (es.size:Nat) 0,.int (ep:Nat) 0]}:=Tn ▸ Nw _ rfl;have nSI:H.objs.size≠s.heap.objs.size:=by lia
 have naI:a≠H.objs.size:=Ms (by rw[hHs];exact SM la);have hSf:s.heap.objs.size ∉ [H.objs.size,a]:=fun hm=>by
  rcases Lp.mp hm with z|z
  ·exact nSI z.symm
  ·exact absurd (M4.mp z) (Qe la)
 have W:=Cz (prog:=prog) (w:=w) (A:=A.in1) hh H.objs.size a naI hd T he MH;refine Le ⟨VM F.plain_extend_loop _,codeAny_extend_loopS W.toS (by rw[sizeLine_eq];lia) _ hSf _ es.size 0 _ _ _ rfl (MK _)
  ⟨⟨_,0,Pp _ _ nSI hI,rfl,rfl,fun _=>zH T.rise⟩,Pp _ _ (Ms la) (Tn ▸ Mb _ SF)⟩ XN (ItemsOf.nil _) fun s' XO c' hm XQ To=>?_⟩
 show wpAny _ A (load s.heap.objs.size >>= _) _ _ s';refine K1 (wpAny_load XQ ?_);have big:∀b o,s.heap.get? b=some o->s'.heap.get? b=some o:=fun b ob e=>by
  have lb:=LK e;refine hm.heap b ob (fun hb=>?_) (Pp _ _ (Ms lb) (Tn ▸ Mb _ (hH ▸ Mb _ e)));rcases Lp.mp hb with z|z
  ·exact absurd lb (z ▸ Ql _)
  ·rw[M4.mp z,hHs]at lb;exact absurd lb (SX.mpr (Nat.le_succ _))
 refine Le (hQ s' XO.toList big hm.gens hm.drawn hm.os (QK (LK XQ)) ?_);obtain⟨q1,q2⟩:=To;apply List.ext_getElem?;intro j;rw[PO,LZ,PO];by_cases lj:j<es.size
 ·have l1:j<XO.size:=by lia
  obtain⟨x,ex,ev⟩:=q2 j _ (Qa l1);rw[Qa l1,ex];simp[ev]
 ·rw[Wh (by lia),Wh (by rw[kS];lia)];rfl
end
end SW
namespace SS
open PySem PySem.W PyProof.Rows
def good{α:Type}(r:Nat->Nat)(n:Nat)(G:α->Prop):KasT α->Prop
 |.ret a=>G a
 |.ask i j k=>i<n/\j<n/\good r n G (k (decide (r i<r j)))
theorem gh{α β:Type}{r:Nat->Nat}{n:Nat}{G:α->Prop}{G':β->Prop}{f:α->KasT β}(hf:∀a,G a->good r n G' (f a)):∀t:KasT α,good r n G t->good r n G' (t.bind f)
 |.ret a,h=>hf a h
 |.ask _ _ k,⟨h1,h2,h3⟩=>⟨h1,h2,gh hf _ h3⟩
theorem good_mono{α:Type}{G G':α->Prop}(hq:∀a,G a->G' a):∀t:KasT α,good r n G t->good r n G' t
 |.ret a,h=>hq a h
 |.ask _ _ _,⟨h1,h2,h3⟩=>⟨h1,h2,good_mono hq _ h3⟩
theorem yD{α:Type}{r:Nat->Nat}{n:Nat}{G:α->Prop}{cmp:Nat->Nat->(Bool->Shared->Prop)->Shared->Prop}{Q:α->Shared->Prop}(hc:∀i j C,i<n->j<n->C (decide (r i<r j)) s->cmp i j C s)(hq:∀a,G a->Q a s):∀t:KasT α,good r n G t->t.kasWp cmp Q s
 |.ret a,h=>hq a h
 |.ask i j k,⟨h1,h2,h3⟩=>hc i j _ h1 h2 (yD hc hq _ h3)
section
variable{r:Nat->Nat}{n:Nat}
def v(r:Nat->Nat)(p:yao)(k:Nat):Nat:=r (p.getD k 0)
def S(r:Nat->Nat)(p:yao)(k:Nat):Prop:=∀i j,i<=j->j<k->v r p i<=v r p j
def D(r:Nat->Nat)(p:yao)(k:Nat):Prop:=∀i j,i<=j->j<k->v r p j<=v r p i
structure Ok(n:Nat)(p:yao):Prop where
 perm:p.Perm (List.toArray (List.range n))
theorem Ok.size(h:Ok n p):p.size=n:=by have:=h.perm.size_eq;simpa using this
def Ok.lt(h:Ok n p){k:Nat}(hk:k<n):p.getD k 0<n:=by
 have hs:=h.size;have e:p.getD k 0=p[k]'(by lia):=by simp[Array.getD,hs,hk]
 have m:p[k]'(by lia)∈p.toList:=by simp
 have:=(Y2.mp h.perm).mem_iff.mp m;rw[e];simpa using this
def xh{p q:yao}{a b:Nat}(h:p[a]?=q[b]?):v r p a=v r q b:=by unfold v;rw[Array.getD_eq_getD_getElem?,Array.getD_eq_getD_getElem?,h]
def AG{p:yao}{j:Nat}(hj:j<=p.size)(k:Nat):v r (kas_rev p i j) k=if i<=k/\k<j then v r p (i+j - 1 - k)else v r p k:=by
 have h:=getElem?_mirror_all (i:=i) hj k;unfold kas_rev;split
 ·rename_i c;rw[K4 c]at h;exact xh h
 ·rename_i c;rw[K3 c]at h;exact xh h
def Ok.rev(h:Ok n p)(i j:Nat):Ok n (kas_rev p i j):=⟨(mirror_perm p i j _).trans h.perm⟩
theorem Ok.bubble(h:Ok n p)(k d:Nat):Ok n (PyProof.Rows.bubble p k d):=⟨(bubble_perm p k d).trans h.perm⟩
def xg{p:yao}{k l:Nat}(hk:k<p.size)(hl:l<=k)(a:Nat):v r (PyProof.Rows.bubble p k (k - l)) a=if a=l then v r p k else if l<a/\a<=k then v r p (a - 1)else v r p a:=by
 have h:=getElem?_bubble hk (k - l) (by lia) a;rw[show k - (k - l)=l by lia]at h;split
 ·rename_i c;rw[K4 c]at h;exact xh h
 ·rename_i c;rw[K3 c]at h;split
  ·rename_i c2;rw[K4 c2]at h;exact xh h
  ·rename_i c2;rw[K3 c2]at h;exact xh h
theorem ve(O:Ok n p):∀(f m:Nat),1<=m->m+f<=n->S r p m->good r n (fun m'=>m<=m'/\m'<=m+f/\S r p m'/\(m'<m+f->v r p m'<v r p (m' - 1))) (kas_asc p f m)
 |0,m,_,_,h=>⟨LG _,LG _,h,fun z=>absurd z (Ql _)⟩
 |f+1,m,h1,h2,h=>by
  unfold kas_asc;refine⟨O.lt (by lia),O.lt (by lia),?_⟩;by_cases c:r (p.getD m 0)<r (p.getD (m - 1) 0)
  ·simp only[c,decide_true,if_true];exact⟨LG _,by lia,h,fun _=>c⟩
  ·simp only[c,decide_false,NN,if_false];have h':S r p (m+1):=fun i j MQ hj=>by
    rcases SV j m with z|z
    ·exact h i j MQ z
    ·have:j=m:=by lia
     subst this;rcases SV i j with y|y
     ·have:=h i (j - 1) (by lia) (by lia);have c':v r p (j - 1)<=v r p j:=SN c
      lia
     ·have:i=j:=by lia
      subst this;exact LG _
   exact good_mono (fun m' ⟨a1,a2,a3,a4⟩=>⟨by lia,by lia,a3,fun z=>a4 (by lia)⟩) _ (ve O f (m+1) (by lia) (by lia) h')
def v_eq{p:yao}{i j:Nat}(hj:j<=p.size)(h:∀a,i<=a->a<j->v r p a=v r p (j - 1))(k:Nat):v r (kas_rev p i j) k=v r p k:=by
 rw[AG hj];split
 ·rename_i c;rw[h k c.1 c.2,h (i+j - 1 - k) (by lia) (by lia)]
 ·rfl
def D.XR(e:∀a,v r q a=v r p a)(h:D r p k):D r q k:=fun i j a b=>by rw[e,e];exact h i j a b
theorem oG:∀(f:Nat) (p:yao) (m q:Nat),Ok n p->m+f<=n->q+1<=m->D r p m->(∀a,m - (q+1)<=a->a<m->v r p a=v r p (m - 1)) →
  good r n (fun z=>Ok n z.1/\m<=z.2.1/\z.2.1<=m+f/\D r z.1 z.2.1/\z.2.2+1<=z.2.1/\∀a,z.2.1 - (z.2.2+1)<=a->a<z.2.1->v r z.1 a=v r z.1 (z.2.1 - 1)) (kas_desc f p m q)
 |0,p,m,q,O,_,hq,hd,he=>⟨O,LG _,LG _,hd,hq,he⟩
 |f+1,p,m,q,O,hm,hq,hd,he=>by
  have os:=O.size;unfold kas_desc;refine⟨O.lt (by lia),O.lt (by lia),?_⟩;have up:v r p m<=v r p (m - 1)->D r p (m+1):=fun c i j MQ hj=>by
   rcases SV j m with z|z
   ·exact hd i j MQ z
   ·have:j=m:=by lia
    subst this;rcases SV i j with y|y
    ·have:=hd i (j - 1) (by lia) (by lia)
     lia
    ·have:i=j:=by lia
     subst this;exact LG _
  by_cases c:r (p.getD m 0)<r (p.getD (m - 1) 0)
  ·simp only[c,decide_true,if_true];have h1:D r p (m+1):=up (QK c);split
   ·have e:=v_eq (r:=r) (p:=p) (i:=m - (q+1)) (j:=m) (by lia) he;exact good_mono (fun z ⟨a1,a2,a3,a4,a5,a6⟩=>⟨a1,by lia,by lia,a4,a5,a6⟩) _ (oG f (kas_rev p (m - (q+1)) m) (m+1) 0 (O.rev _ _) (by lia) (by lia) (h1.XR e) fun a h2 h3=>by
     have:a=m:=by lia
     subst this;rfl)
   ·exact good_mono (fun z ⟨a1,a2,a3,a4,a5,a6⟩=>⟨a1,by lia,by lia,a4,a5,a6⟩) _ (oG f p (m+1) 0 O (by lia) (by lia) h1 fun a h2 h3=>by
     have:a=m:=by lia
     subst this;rfl)
  ·simp only[c,decide_false,NN,if_false];refine⟨O.lt (by lia),O.lt (by lia),?_⟩;by_cases c2:r (p.getD (m - 1) 0)<r (p.getD m 0)
   ·simp only[c2,decide_true,if_true];exact⟨O,LG _,TV _ _,hd,hq,he⟩
   ·simp only[c2,decide_false,NN,if_false];have ee:v r p m=v r p (m - 1):=by unfold v;lia
    exact good_mono (fun z ⟨a1,a2,a3,a4,a5,a6⟩=>⟨a1,by lia,by lia,a4,a5,a6⟩) _ (oG f p (m+1) (q+1) O (by lia) (by lia) (up (Nat.le_of_eq ee)) fun a h2 h3=>by
     rcases SV a m with z|z
     ·rw[he a (by lia) z];exact ee.symm
     ·have:a=m:=by lia
      subst this;rfl)
def yZ{p:yao}{m:Nat}(O:Ok n p)(h1:1<=m)(hm:m<=n)(hd:D r p m):good r n (fun z=>Ok n z.2/\1<=z.1/\z.1<=n/\S r z.2 z.1) (kas_tail3 m n p):=by
 have os:=O.size;unfold kas_tail3;have hs:S r (kas_rev p 0 m) m:=fun i j MQ hj=>by rw[AG (by lia),AG (by lia),K4 (by lia),K4 (by lia)];exact hd _ _ (by lia) (by lia)
 refine gh (fun m' ⟨a1,a2,a3,_⟩=>?_) _ (ve (O.rev 0 m) (n - m) m h1 (by lia) hs);exact⟨O.rev _ _,NW h1 a1,NW a2 (by lia),a3⟩
def yM{p:yao}{m:Nat}(O:Ok n p)(hm:m+1<=n)(hd:D r p (m+1)):good r n (fun z=>Ok n z.2/\1<=z.1/\z.1<=n/\S r z.2 z.1) (kas_descPart m n p):=by
 unfold kas_descPart;refine gh (fun z ⟨a1,a2,a3,a4,a5,a6⟩=>?_) _ (oG (n - (m+1)) p (m+1) 0 O (by lia) (by lia) hd fun a h2 h3=>by
  have:a=m:=by lia
  subst this;rfl)
 have os:=a1.size;split
 ·exact yZ (a1.rev _ _) (by lia) (by lia) (a4.XR (v_eq (by lia) a6))
 ·exact yZ a1 (by lia) (by lia) a4
def C6(O:Ok n p)(hn:1<=n):good r n (fun z=>Ok n z.2/\1<=z.1/\z.1<=n/\S r z.2 z.1) (kas_count n p):=by
 have os:=O.size;unfold kas_count;refine gh (fun m ⟨a1,a2,a3,a4⟩=>?_) _ (ve (r:=r) O (n - 1) 1 (LG _) (by lia) fun i j MQ hj=>by
  have:i=j:=by lia
  subst this;exact LG _)
 split
 ·rename_i c;have c':m=n:=by simpa using c
  exact⟨O,a1,by lia,a3⟩
 ·rename_i c;have c':m≠n:=by simpa using c
  have lt:=a4 (by lia);split
  ·refine⟨O.lt (by lia),O.lt (by lia),?_⟩;by_cases c2:r (p.getD 0 0)<r (p.getD (m - 1) 0)
   ·simp only[c2,decide_true,if_true];exact⟨O,a1,by lia,a3⟩
   ·simp only[c2,decide_false,NN,if_false];have eq:∀a,0<=a->a<m->v r p a=v r p (m - 1):=fun a _ ha=>by
     have h1:=a3 0 a (by lia) ha;have h2:=a3 a (m - 1) (by lia) (by lia);have h3:v r p (m - 1)<=v r p 0:=SN c2
     lia
    have e:=v_eq (r:=r) (p:=p) (i:=0) (j:=m) (by lia) eq;refine yM (O.rev _ _) (by lia) fun i j MQ hj=>?_
    rw[e,e];rcases SV j m with z|z
    ·rw[eq i (by lia) (by lia),eq j (by lia) z];exact LG _
    ·have:j=m:=by lia
     subst this;rcases SV i j with y|y
     ·rw[eq i (by lia) y];exact QK lt
     ·have:i=j:=by lia
      subst this;exact LG _
  ·have m1:m=1:=by lia
   subst m1;refine yM O (by lia) fun i j MQ hj=>?_
   rcases SV i j with y|y
   ·have e1:i=0:=by lia
    have e2:j=1:=by lia
    subst e1 e2;exact QK lt
   ·have:i=j:=by lia
    subst this;exact LG _
theorem qi{k:Nat}(O:Ok n p)(hk:k<n)(hs:S r p k):∀(f l h:Nat),l<=h->h<=k->h - l<=f->(∀a,a<l->v r p a<=v r p k)->(∀a,h<=a->a<k->v r p k<=v r p a) →
  good r n (fun l'=>l'<=k/\(∀a,a<l'->v r p a<=v r p k)/\∀a,l'<=a->a<k->v r p k<=v r p a) (kas_place p k f l h)
 |0,l,h,h1,h2,h3,h4,h5=>by
  have:l=h:=by lia
  subst this;exact⟨h2,h4,h5⟩
 |f+1,l,h,h1,h2,h3,h4,h5=>by
  unfold kas_place;split
  ·have:l=h:=by lia
   subst this;exact⟨h2,h4,h5⟩
  ·refine⟨O.lt (by lia),O.lt (by lia),?_⟩;by_cases c:r (p.getD k 0)<r (p.getD ((l+h) / 2) 0)
   ·simp only[c,decide_true,if_true];refine qi O hk hs f l ((l+h) / 2) (by lia) (by lia) (by lia) h4 fun a ha1 YJ=>?_
    have:=hs ((l+h) / 2) a ha1 YJ;have c':v r p k<v r p ((l+h) / 2):=c
    lia
   ·simp only[c,decide_false,NN,if_false];refine qi O hk hs f ((l+h) / 2+1) h (by lia) (by lia) (by lia) (fun a ha=>?_) h5;have:=hs a ((l+h) / 2) (by lia) (by lia);have c':v r p ((l+h) / 2)<=v r p k:=SN c
    lia
theorem AU:∀(f:Nat) (p:yao) (k:Nat),Ok n p->k+f=n->S r p k->good r n (fun z=>Ok n z/\S r z n) (kas_bin f p k)
 |0,p,k,O,hk,hs=>by
  have:k=n:=by lia
  subst this;exact⟨O,hs⟩
 |f+1,p,k,O,hk,hs=>by
  have os:=O.size;unfold kas_bin;refine gh (fun l ⟨a1,a2,a3⟩=>AU f _ (k+1) (O.bubble k (k - l)) (by lia) fun i j MQ hj=>?_) _ (qi O (by lia) hs k 0 k (by lia) (by lia) (by lia) (fun a ha=>absurd ha (Wv _)) fun a h1 h2=>by lia);rw[xg (by lia) a1,xg (by lia) a1]
  repeat' split
  all_goals first
   |exact LG _
   |(exfalso;lia)
   |exact a3 _ (by lia) (by lia)
   |exact a2 _ (by lia)
   |exact hs _ _ (by lia) (by lia)
def GP(hn:1<=n):good r n (fun z=>Ok n z/\S r z n) (kas_sort n):=by
 unfold kas_sort;refine gh (fun z ⟨a1,a2,a3,a4⟩=>?_) _ (C6 (r:=r) ⟨Array.Perm.refl _⟩ hn);split
 ·rw[show max z.1 1=z.1 by lia];exact AU _ _ _ a1 (by lia) a4
 ·have:z.1=n:=by lia
  rw[this]at a4;exact⟨a1,a4⟩
end
end SS
namespace SW
open PySem PySem.SetTable ST PySem.W PyProof.Rows
def lexLt:yaf->yaf->Bool
 |_,[]=>false
 |[],_::_=>true
 |a::x,b::y=>if a=b then lexLt x y else decide (a<b)
theorem jP:∀x,lexLt x x=false
 |[]=>rfl
 |a::x=>by unfold lexLt;rw[K4 rfl];exact jP x
theorem pI:∀x y z,lexLt x y=true->lexLt y z=true->lexLt x z=true
 |_,[],_,h,_=>by unfold lexLt at h;cases h
 |_,_::_,[],_,h=>by unfold lexLt at h;cases h
 |[],_::_,_::_,_,_=>rfl
 |a::x,b::y,c::z,h1,h2=>by
  unfold lexLt at h1 h2 ⊢;split at h1<;>split at h2
  ·rename_i e1 e2;rw[K4 (e1.trans e2)];exact pI x y z h1 h2
  ·rename_i e1 e2;subst e1;rw[K3 e2];exact h2
  ·rename_i e1 e2;subst e2;rw[K3 e1];exact h1
  ·have q1:a<b:=by simpa using h1
   have q2:b<c:=by simpa using h2
   rw[K3 (by lia)];simp
   lia
theorem kC:∀x y,lexLt x y=false->x=y∨lexLt y x=true
 |[],[],_=>.inl rfl
 |[],_::_,h=>by unfold lexLt at h;cases h
 |_::_,[],_=>.inr rfl
 |a::x,b::y,h=>by
  unfold lexLt at h ⊢;split at h
  ·rename_i e;subst e;rw[K4 rfl];rcases kC x y h with z|z
   ·exact .inl (by rw[z])
   ·exact .inr z
  ·rename_i e;have q:¬a<b:=by simpa using h
   right
   rw[K3 (fun z=>e z.symm)];simp
   lia
theorem vA{α:Type}(p q:α->Bool):∀l:List α,(∀z∈l,p z=true->q z=true)->(∃z∈l,p z=false/\q z=true)->l.countP p<l.countP q
 |[],_,⟨_,h,_⟩=>by cases h
 |x::l,h,⟨z,hz,e1,e2⟩=>by
  rw[List.countP_cons,List.countP_cons];have le:l.countP p<=l.countP q:=List.countP_mono_left fun z hz=>h z (L8 _ hz)
  rcases Lp.mp hz with y|y
  ·subst y;rw[e1,e2];simp
   lia
  ·have ih:=vA p q l (fun z hz=>h z (L8 _ hz)) ⟨z,y,e1,e2⟩;by_cases px:p x=true
   ·have:=h x Ng px;simp[px,this]
    lia
   ·have px':p x=false:=by simpa using px
    rw[px'];cases q x with
    |true=>simp;lia
    |false=>simpa using ih
def rank(K:List (yaf))(x:yaf):Nat:=K.countP fun y=>lexLt y x
def yQ{K:List (yaf)}{x y:yaf}(hx:x∈K)(hy:y∈K):decide (rank K x<rank K y)=lexLt x y:=by
 have up:∀a b,a∈K->lexLt a b=true->rank K a<rank K b:=fun a b ha h=>vA _ _ K (fun z _ hz=>pI z a b hz h) ⟨a,ha,jP a,h⟩
 cases e:lexLt x y with
 |true=>simpa using up x y hx e
 |false =>
  rcases kC x y e with z|z
  ·subst z;simp
  ·have:=up y x hy z;simp
   lia
section
variable{prog:Program}{w:World}{A:Around}{E:yaa}{s:Shared}
def IF{fin:Bool}{Q:Bool->Shared->Prop}:∀{k k':yaf} {us vs:yad} (i:Nat),PySem.ItemsAre (intKind prog w) k us->PySem.ItemsAre (intKind prog w) k' vs->fin=decide (k.length<k'.length)->Q (lexLt k k') s->KatLex prog w A b fin Q (us.zip vs) i s:=by
 intro k k' us vs i h
 induction h generalizing k' vs i with
 |nil =>
  intro h' ef q;refine kat_nil ?_;cases h' with
  |nil=>rw[ef];exact q
  |cons _ _=>rw[ef];exact q
 |@cons a u x us h1 t1 ih =>
  intro h' ef q;cases h' with
  |nil=>refine kat_nil ?_;rw[ef];exact q
  |@cons c u' y vs h2 t2 =>
   obtain⟨t,rfl⟩:=Value.isInt_shape h1;obtain⟨t',rfl⟩:=Value.isInt_shape h2;refine kat_cons (wpAny_eqBool_int ?_);by_cases e:a=c
   ·subst e;rw[show(a==a)=true by simp];refine kat_yes (ih (i+1) t2 ?_ ?_)
    ·rw[ef];simp
    ·unfold lexLt at q;rw[K4 rfl]at q;exact q
   ·rw[show(a==c)=false by simp[e]];unfold lexLt at q;rw[K3 e]at q;refine kat_no ?_;cases(b && i==0)with
    |true=>exact oneLt_int q
    |false=>exact kat_one _ _ (PySem.P.lt_int q)
def A4{Q:Bool->Shared->Prop}(hx:(TK prog w).is s.heap k x)(hy:(TK prog w).is s.heap k' y)(q:Q (lexLt k k') s):wpAny (model prog w) A (keyLt' (tuples' b) (.ref x) (.ref y)) Q E s:=by
 obtain⟨o,items,n,ho,hc,hd,hi⟩:=hx;obtain⟨o',items',n',PK,PU,PR,SG⟩:=hy;have len:∀{k:yaf} {us:yad},PySem.ItemsAre (intKind prog w) k us->k.length=us.length:=fun h=>by
  induction h with
  |nil=>rfl
  |cons _ _ ih=>simp[ih]
 refine kat_lt ho hd PK PR (IF 0 hi SG ?_ q);rw[len hi,len SG,NV,NV]
theorem y4:∀{cs:yae} (K:Nat->yaf) (off:Nat),(∀(j:Nat) (c:Addr),cs[j]?=some c->(TK prog w).is s.heap (K (off+j)) c/\K (off+j) ≠ [])->∃fs,KatTups s.heap (cs.map Value.ref) fs/\fs.length=cs.length/\∀v∈fs,∃n t,v=Value.int n t
 |[],_,_,_=>⟨[],KatTups.nil,rfl,fun _ h=>by cases h⟩
 |c::cs,K,off,h=>by
  obtain⟨fs,t,l,hi⟩:=y4 (cs:=cs) K (off+1) fun j c hj=>by have:=h (j+1) c hj;rw[show off+(j+1)=off+1+j by lia]at this;exact this
  obtain⟨⟨o,items,n,ho,hc,hd,hit⟩,ne⟩:=h 0 c rfl;rw[Nat.add_zero]at hit ne;generalize K off=k0 at hit ne;generalize hL:items.toList=L at hit;cases hit with
  |nil=>exact absurd rfl ne
  |@cons a u x us h1 t1 =>
   obtain⟨tk,rfl⟩:=Value.isInt_shape h1;refine⟨.int a tk::fs,KatTups.cons ho hc hd ?_ t,by simp[l],fun v hv=>?_⟩
   ·rw[<- PO,hL];rfl
   ·rcases Lp.mp hv with z|z
    ·exact⟨a,tk,z⟩
    ·exact hi v z
def xA{cs:yae}{K:Nat->yaf}{Q:SortKind->Shared->Prop}(LV:0<cs.length)(h:∀(j:Nat) (c:Addr),cs[j]?=some c->(TK prog w).is s.heap (K j) c/\K j ≠ [])(q:Q (tuples' true) s):wpAny (model prog w) A (keyKind' (cs.map Value.ref).toArray) Q E s:=by
 obtain⟨fs,t,l,hi⟩:=y4 (s:=s) (cs:=cs) K 0 fun j c hj=>by rw[OZ];exact h j c hj
 refine kat_kind (T:=.type "int") t (by lia) (fun v hv=>?_) (by decide) q;obtain⟨n,tk,rfl⟩:=hi v hv;exact Looks.of_pure rfl
def Fb{cs:yae}{K:Nat->yaf}{G:yao->Shared->Prop}(hn:1<=cs.length)(h:∀(j:Nat) (c:Addr),cs[j]?=some c->(TK prog w).is s.heap (K j) c)
  (hq:∀p:yao,SS.Ok cs.length p->(∀i j,i<=j->j<cs.length->lexLt (K (p.getD j 0)) (K (p.getD i 0))=false)->G p s):(kas_sort cs.length).kasWp (kas_ask prog w A (tuples' true) (cs.map Value.ref)) G s:=by
 have mem:∀i,i<cs.length->K i∈(List.range cs.length).map K:=fun i hi=>LR.mpr ⟨i,Wx.mpr hi,rfl⟩
 refine SS.yD (r:=fun i=>rank ((List.range cs.length).map K) (K i)) (n:=cs.length) (fun i j C hi hj hc=>?_) (fun p ⟨O,S⟩=>hq p O fun i j MQ hj=>?_) _ (SS.GP hn)
 ·unfold kas_ask;have ei:(cs.map Value.ref).getD i Value.none=.ref cs[i]:=by simp[hi]
  have ej:(cs.map Value.ref).getD j Value.none=.ref cs[j]:=by simp[hj]
  rw[ei,ej];refine A4 (h i _ (LM hi)) (h j _ (LM hj)) ?_;rw[yQ (mem i hi) (mem j hj)]at hc;exact hc
 ·have:=S i j MQ hj;unfold SS.v at this;have e:=yQ (mem _ (O.lt hj)) (mem _ (O.lt (Ux MQ hj)));rw[<- e];exact Q1 (SX.mpr this)
theorem za{α:Type}:∀l:List α,(l.zip l).map (·.2)=l
 |[]=>rfl
 |x::l=>by simp[za l]
def range_getD{α:Type}(l:List α)(d:α):(List.range l.length).map (fun i=>l.getD i d)=l:=by
 apply List.ext_getElem
 ·simp
 ·intro i h1 h2;simp;rw[LM h2];rfl
def wF {cs : yae} {K : Nat -> yaf} {P : PySem.Fin -> Shared -> Prop} (ho : s.heap.get? a = some (seqObj "list" (cs.map Value.ref).toArray n)) (XS : cs.length < 64)
  (h : ∀ (j : Nat) (c : Addr), cs[j]? = some c -> (TK prog w).is s.heap (K j) c /\ K j ≠ [])
  (hP : ∀ h' (p : yao) c2, SS.Ok cs.length p -> (∀ i j, i <= j -> j < cs.length -> lexLt (K (p.getD j 0)) (K (p.getD i 0)) = false) -> (∀ b o, b ≠ a -> s.heap.get? b = some o -> h'.get? b = some o) →
   h'.get? a = some (seqObj "list" (List.toArray (p.toList.map fun i => (cs.map Value.ref).getD i Value.none)) c2) -> P (.done (.ret .none)) { s with heap := h' }) : wpAny (model prog w) A (Builtin.«list.sort» ⟨[.ref a], []⟩) P E s := by
 have ha : a < s.heap.objs.size := LK ho;have lv : (cs.map Value.ref).length = cs.length := K8 ..;obtain ⟨e1, SF⟩ : ∃ e1, (s.heap.update a (Obj.mapSeq fun _ => (#[] : yan))).get? a = some (seqObj "list" #[] e1) := ⟨_, get?_update_seq ho fun _ => #[]⟩;rw [list_sort_plain];refine K1 (listItems_at ho rfl ?_);refine K1 (listUpdate_at ho rfl ?_ (by rw [M3, sizeLine_eq]; lia) (MK _));refine K1 (seqEpoch_at SF rfl ?_);refine K1 (wpAny_newTuple ?_ (by show (cs.map Value.ref).length <= _; rw [sizeLine_eq]; lia));refine K1 (wpAny_newList ?_ (MK _));refine OR ?_;show wpAny (model prog w) A _ P E { s with heap := ((s.heap.update a (Obj.mapSeq fun _ => (#[] : yan))).push (seqObj "tuple" (cs.map Value.ref).toArray 0)).push (seqObj "list" #[] 0) };have QC : (((s.heap.update a (Obj.mapSeq fun _ => (#[] : yan))).push (seqObj "tuple" (cs.map Value.ref).toArray 0)).push (seqObj "list" #[] 0)).get? a = some (seqObj "list" #[] e1) := Mb _ (Mb _ SF);have Pp : ∀ b o, b ≠ a -> s.heap.get? b = some o -> (((s.heap.update a (Obj.mapSeq fun _ => (#[] : yan))).push (seqObj "tuple" (cs.map Value.ref).toArray 0)).push (seqObj "list" #[] 0)).get? b = some o := fun b o hb e =>
  Mb _ (Mb _ ((Rh _ _ (Ne.symm hb)).trans e))
 generalize ((s.heap.update a (Obj.mapSeq fun _ => (#[] : yan))).push (seqObj "tuple" (cs.map Value.ref).toArray 0)).push (seqObj "list" #[] 0) = H at QC Pp ⊢;have fin : ∀ (p : yao) (out : yan), SS.Ok cs.length p -> (∀ i j, i <= j -> j < cs.length -> lexLt (K (p.getD j 0)) (K (p.getD i 0)) = false) -> out = List.toArray (p.toList.map fun i => (cs.map Value.ref).getD i Value.none) -> P (.done (.ret .none)) { s with heap := H.update a (Obj.mapSeq fun _ => out) } := fun p out O S e => by subst e;obtain ⟨c2, hc2⟩ : ∃ c2, (H.update a (Obj.mapSeq fun _ => List.toArray (p.toList.map fun i => (cs.map Value.ref).getD i Value.none))).get? a = some (seqObj "list" (List.toArray (p.toList.map fun i => (cs.map Value.ref).getD i Value.none)) c2) := ⟨_, get?_update_seq QC fun _ => List.toArray (p.toList.map fun i => (cs.map Value.ref).getD i Value.none)⟩;exact hP _ p c2 O S (fun b o hb e => (Rh _ _ (Ne.symm hb)).trans (Pp b o hb e)) hc2
 dsimp only;by_cases hn : (cs.map Value.ref).toArray.size < 2
 ·rw [K4 hn, K4 hn];refine K1 (Le ?_);rw [StateT.run_pure];refine K1 (Le ?_);dsimp only;refine K1 (seqEpoch_at QC rfl ?_);refine K1 (listUpdate_at QC rfl ?_ (hsz2 := by rw [Array.size_map]; show (pairsOf (cs.map Value.ref)).size <= _; rw [pairsOf_size, sizeLine_eq]; lia));simp only [Wn, NN, if_false];refine Le (fin (List.toArray (List.range cs.length)) _ ⟨Array.Perm.refl _⟩ (fun i j MQ hj => ?_) ?_)
  ·have : i = j := by rw [M3, lv] at hn; lia
   subst this;exact jP _
  ·show ((cs.map Value.ref).toArray.zip (cs.map Value.ref).toArray).map (·.2) = _;have e := range_getD (cs.map Value.ref) Value.none;rw [lv] at e;show _ = List.toArray ((List.range cs.length).map fun i => (cs.map Value.ref).getD i Value.none);rw [e];simp [za]
 ·rw [K3 hn, K3 hn];rw [M3, lv] at hn;have hH : ∀ (j : Nat) (c : Addr), cs[j]? = some c -> (TK prog w).is H (K j) c /\ K j ≠ [] := fun j c hj => by
   obtain ⟨q1, q2⟩ := h j c hj;exact ⟨kZ q1 fun o e => Pp c o (key_ne q1 ho rfl (by decide)) e, q2⟩
  refine K1 (xA (s := { s with heap := H }) (by lia) hH ?_);refine K1 (OT (kat_run (s := { s with heap := H }) (ks := cs.map Value.ref) (vs := cs.map Value.ref) (Q := fun Om s' => s' = { s with heap := H } /\ ∃ p : yao, arrOf Om = p.map (kas_item ((cs.map Value.ref).toArray.zip (cs.map Value.ref).toArray)) /\ failedOf Om = none /\ SS.Ok cs.length p /\ ∀ i j, i <= j -> j < cs.length -> lexLt (K (p.getD j 0)) (K (p.getD i 0)) = false)
   (G := fun p s' => s' = { s with heap := H } /\ SS.Ok cs.length p /\ ∀ i j, i <= j -> j < cs.length -> lexLt (K (p.getD j 0)) (K (p.getD i 0)) = false)
   rfl (by rw [lv]; lia) (by rw [lv]; exact XS) (fun p Om s' a1 a2 a3 ⟨a4, a5, a6⟩ => ⟨a4, p, a2, a3, a5, a6⟩) ?_) ?_ fun _ _ e => e)
  ·rw [lv];exact Fb (s := { s with heap := H }) (by lia) (fun j c hj => (hH j c hj).1) fun p O S => ⟨rfl, O, S⟩
  ·rintro ⟨⟨⟩, Om⟩ s' ⟨rfl, p, har, hf, O, S⟩;dsimp only;have hout := kat_snds (ks := cs.map Value.ref) (vs := cs.map Value.ref) rfl har;rw [hout];refine K1 (seqEpoch_at QC rfl ?_);refine K1 (listUpdate_at QC rfl ?_ (MK _) (by rw [M3, K8, NV, O.size, sizeLine_eq]; lia));rw [hf];simp only [Wn, NN, if_false];exact Le (fin p _ O S rfl)
def DZ{α β:Type}{f:α->β}{l m:List β}(h:l.Perm m):∀xs:List α,m=xs.map f->∃zs:List α,zs.Perm xs/\l=zs.map f:=by
 induction h with
 |nil=>intro xs e;exact⟨xs,List.Perm.refl _,e⟩
 |cons a _ ih =>
  intro xs e;cases xs with
  |nil=>cases e
  |cons x xs =>
   rw[LD]at e;injection e with e1 e2;obtain⟨zs,p,q⟩:=ih xs e2;exact⟨x::zs,p.cons x,by rw[LD,q,e1]⟩
 |swap a b l =>
  intro xs e
  match xs,e with
  |[],e=>cases e
  |[_],e=>simp at e
  |x::y::xs,e =>
   simp only[LD,QY]at e;obtain⟨e1,e2,e3⟩:=e;exact⟨y::x::xs,List.Perm.swap x y xs,by simp only[LD];rw[e1,e2,e3]⟩
 |trans _ _ YK V3 =>
  intro xs e;obtain⟨zs,p,q⟩:=V3 xs e;obtain⟨zs',p',q'⟩:=YK zs q;exact⟨zs',p'.trans p,q'⟩
def Ax {a : Addr} {xs : List (yaf × Addr)} {Q : yaa} (hh : A.handled = none) (X : iV prog w s.heap a xs) (XS : xs.length < 64) (LV : ∀ x ∈ xs, x.1 ≠ [])
  (hQ : ∀ s' (D : Addr) (ys : List (yaf × Addr)) c, (∀ b o, s.heap.get? b = some o -> s'.heap.get? b = some o) -> s'.gens = s.gens -> s'.drawn = s.drawn -> s'.os = s.os -> s.heap.objs.size <= D -> ys.Perm xs -> ys.Pairwise (fun x y => lexLt x.1 y.1 = true) →
   s'.heap.get? D = some (seqObj "list" (ys.map fun y => Value.ref y.2).toArray c) -> Q (.ref D) s') : wpAny (model prog w) A (call (.builtin "sorted") [.ref a]) Q E s := by
 obtain ⟨⟨o, es, ep, t, ho, hex, hd, he, T, MH, _, _⟩, Tw, nd⟩ := X;have sz : es.size = xs.length := by rw [<- NV, he, K8]
 refine Calls.call_function_entry kind_sorted plain_sorted entry_sorted (args_sorted1 _) ?_;unfold Builtin.«sorted»;refine K1 (m := checkCount "sorted" 1 1 _) (Le ?_);refine K1 (xu (show A.in1.handled = none from hh) ho hex.1 hd T (by rw [K8, sz]) MH (by lia) fun s1 acc kp g1 g2 g3 le ea => ?_);obtain ⟨zs, pz, ez⟩ := DZ (pP w a es ep) xs he;have ea' : acc = (zs.map (·.2)).map Value.ref := by rw [ea, ez, MJ, MJ]; rfl
 have lz : zs.length = xs.length := pz.length_eq;have lcs : (zs.map (·.2)).length = xs.length := by rw [K8, lz]
 subst ea';refine K1 (wpAny_newList ?_ (by rw [K8, lcs, sizeLine_eq]; lia));have UN : (s1.heap.push (seqObj "list" ((zs.map (·.2)).map Value.ref).toArray 0)).get? s1.heap.objs.size = some (seqObj "list" ((zs.map (·.2)).map Value.ref).toArray 0) := Nw _ rfl;have NL : ∀ b o, s.heap.get? b = some o -> (s1.heap.push (seqObj "list" ((zs.map (·.2)).map Value.ref).toArray 0)).get? b = some o := fun b o e => Mb _ (kp b o e)
 show wpAny _ _ _ _ _ { s1 with heap := s1.heap.push (seqObj "list" ((zs.map (·.2)).map Value.ref).toArray 0) };refine K1 (OR (Q0 slot_list_sort ⟨_, UN, rfl⟩ entry_list_sort ?body (args_list_sort _)))
 case body =>
  refine wF (s := { s1 with heap := s1.heap.push (seqObj "list" ((zs.map (·.2)).map Value.ref).toArray 0) }) (K := fun j => (zs.getD j ([], 0)).1) UN (by lia) (fun j c hj => ?_) fun h' p c2 O S Pp hD => ?_
  ·rw [LZ] at hj;obtain ⟨z, ez, e⟩ := QW.mp hj;have g : zs.getD j ([], 0) = z := by rw [Mf, ez]; rfl
   have mz : z ∈ xs := pz.mem_iff.mp (Mz ez);subst e;dsimp only;rw [g];exact ⟨kZ (Tw z mz) fun o e => NL _ o e, LV z mz⟩
  ·have py : (p.toList.map fun i => zs.getD i ([], 0)).Perm xs := by
    have h1 := (Y2.mp O.perm).map fun i => zs.getD i ([], 0)
    have h2 := range_getD zs ([], 0);rw [lz, <- lcs] at h2;refine (h1.trans ?_).trans pz;show ((List.range (zs.map (·.2)).length).map fun i => zs.getD i ([], 0)).Perm zs;rw [h2]
   refine ⟨_, rfl, Le ⟨_, rfl, hQ _ s1.heap.objs.size (p.toList.map fun i => zs.getD i ([], 0)) c2 (fun b o e => ?_) g1 g2 g3 le py ?_ ?_⟩⟩
   ·exact Pp b o (Ms (M5 (LK e) le)) (NL b o e)
   ·refine RB.mpr fun i j hi hj MQ => ?_
    have YI : ((p.toList.map fun i => zs.getD i ([], 0)).map (·.1)).Nodup := (py.map (·.1)).nodup_iff.mpr nd;have ni := RB.mp YI i j (by rw [K8]; exact hi) (by rw [K8]; exact hj) MQ;rw [K8, NV] at hi hj;have ss := S i j (by lia) (by rw [<- O.size]; exact hj);have gi : p.getD i 0 = p[i] := by simp [Array.getD, hi]
    have gj : p.getD j 0 = p[j] := by simp [Array.getD, hj]
    rw [gi, gj] at ss;simp only [Qb, Array.getElem_toList] at ni ⊢;rcases kC _ _ ss with e | e
    ·exact absurd e.symm ni
    ·exact e
   ·refine hD.trans ?_;congr 3;rw [MJ (l := p.toList)];refine So fun i hi => ?_
    have li : i < zs.length := by have := (Y2.mp O.perm).mem_iff.mp hi;simpa using this
    simp [li]
end
end SW
namespace PD
open PySem PySem.Spec PyProof.Rows L2
section
variable{X:Cx}{pos:Pos}
def boot_sorted:bootBuiltins "sorted" = some (.builtin "sorted"):=by kernel_rfl
def boot_set:bootBuiltins "set" = some (.type "set"):=by kernel_rfl
theorem q0:∀{ns:yaf} {us:yad},Vals (ns.map V.int) us->PySem.ItemsAre (intKind prog w) ns us
 |[],us,r=>by rw[Q4]at r;cases r;exact .nil
 |n::ns,us,r=>by
  rw[LD]at r;cases r with
  |cons h t =>
   obtain⟨tk,rfl⟩:=h;exact .cons (by simp[intKind,Value.isInt]) (q0 t)
def yG{k:yaf}(I:Inv X pins σ H s)(h:LO X.K H a (k.map V.int)):(SW.TK X.prog X.w).is s.heap k a:=by obtain⟨K9,r,⟨o,e,hc,n,hd⟩,_⟩:=I.tuple h.w;exact⟨o,K9.toArray,n,e,hc,hd,by simpa using q0 r⟩
def Il(hr:cA k A):A.in1.in1.in1.units<cLine:=Ux (Nat.add_le_add_left (by decide:3<=64) _) hr.units
def tupI(k:yaf):D:=.tup (k.map D.int)
def J9{K:yac}{P:yak}{H:Hp}{k:yaf}{v:V}(h:Den K P H (tupI k) v):∃a,v=.ref a/\LO K H a (k.map V.int):=by obtain⟨a,vs,e,q,hd⟩:=h.NX;rw[eE hd]at q;exact⟨a,e,q⟩
def AQ(ys ks:List (yaf)):Prop:=ys.Pairwise (fun x y=>SW.lexLt x y=true)/\∀k,k∈ys↔k∈ks
def Dc(te:DE):DA:=fun ρ Q=>te ρ fun d=>∃t ks,d=.lst t (ks.map tupI)/\ks.length<64/\(∀k∈ks,k ≠ [])/\∀ys,AQ ys ks->Q (ys.map tupI)
def zR {e:Expr} {te:DE} {p p2 N1:Pos} (hc:X.calm=true) (hu:X.A.in1.in1.in1.units<cLine) (hg:Gl X "sorted") (hm:X.mg "sorted" = none) (hg2:Gl X "set") (hm2:X.mg "set" = none) (he:Lx X e te)
  (NU:starEach [.Call (.Name "set" p2) [e] [] N1] X.env=(false,eval (.Call (.Name "set" p2) [e] [] N1) X.env)::starEach [] X.env:=by rfl) (MH:(backTo pos (starEach [] X.env)).any (·.1)=false:=by rfl)
  (Te:starEach [e] X.env=(false,eval e X.env)::starEach [] X.env:=by rfl) (hpl2:(backTo N1 (starEach [] X.env)).any (·.1)=false:=by rfl) :
  QS X (.Call (.Name "sorted" p) [.Call (.Name "set" p2) [e] [] N1] [] pos) (Dc te):=by
 intro pins s σ H W ρ Q I r h;refine TP (df I hg hm boot_sorted ?_ (by decide) (by decide));refine PyProof.Rows.callWith_builtin1 ?_ NU MH;rw[NU];show wpAny _ _ (spliced ((false,eval (.Call (.Name "set" p2) [e] [] N1) X.env)::backTo pos (starEach [] X.env))) _ _ s;refine Calls.spliced_cons ?_;refine TP (df I hg2 hm2 boot_set ?_ (by decide) (by decide));refine PyProof.Rows.callWith_type1 ?_ Te hpl2;rw[Te];show wpAny _ _ (spliced ((false,eval e X.env)::backTo N1 (starEach [] X.env))) _ _ s;refine Calls.spliced_cons (Lj (he pins s σ H W ρ _ I r h) fun u s1 ⟨v,H1,d,I1,rv,e1,hd,t,ks,ed,lk,LV,q⟩=>?_);subst ed;obtain⟨l,vs,ev,_,hq,hw⟩:=hd.Nm;subst ev;cases rv;refine Le ?_;obtain⟨K9,rv,pl,_⟩:=I1.list hq;have hh:=I1.ok.hd hc;have lvs:vs.length=ks.length:=by rw[hw.len,K8]
 have lit:K9.length=ks.length:=by rw[<- rv.length,lvs]
 have at_:∀(j:Nat) (k:yaf),ks[j]?=some k->∃c:Addr,K9[j]?=some (Value.ref c)/\LO X.K H1 c (k.map V.int):=fun j k hk=>by obtain⟨v,ev,hv⟩:=hw.get (i:=j) (d:=tupI k) (by rw[LZ,hk];rfl);obtain⟨c,rfl,hc⟩:=J9 hv;obtain⟨u,eu,ru⟩:=rv.get ev;cases ru;exact⟨c,eu,hc⟩
 refine SW.call_set_list hh hu pl.isList (by rw[M3];lia) (fun j=>ks.getD j []) (fun j v hj=>?_) fun h2 tk2 ys kp S yl yk yi=>?_
 ·have O3:K9[j]?=some v:=by simpa using hj
  have lj:j<ks.length:=by rw[<- lit];exact(L6.mp O3).1
  obtain⟨c,ec,OB⟩:=at_ j ks[j] (LM lj);rw[O3]at ec;cases ec;rw[show ks.getD j []=ks[j]by simp[lj]];exact⟨c,rfl,yG I1 OB⟩
 ·have I2:L2.Inv X pins σ H1 {s1 with heap:=h2,toks:=tk2}:=I1.kept kp;refine Le ?_;rw[M3]at yl yk yi;have XT:∀k,k∈ys.map (·.1)↔k∈ks:=fun k=>by
   rw[yk k];constructor
   ·rintro⟨j,lj,e⟩;rw[lit]at lj;rw[e,show ks.getD j []=ks[j]by simp[lj]];exact PG lj
   ·intro hk;obtain⟨j,lj,e⟩:=RF hk;exact⟨j,by rw[lit];exact lj,by rw[<- e];simp[lj]⟩
  have den:∀y∈ys,LO X.K H1 y.2 (y.1.map V.int):=fun y hy=>by
   obtain⟨j,lj,ej⟩:=yi y hy;have ej':K9[j]?=some (.ref y.2):=by simpa using ej
   rw[lit]at lj;obtain⟨c,ec,OB⟩:=at_ j ks[j] (LM lj);rw[ej']at ec;cases ec;have k1:=yG I2 OB;rw[(SW.TK X.prog X.w).inj (S.YH y hy) k1];exact OB
  refine SW.Ax (s:={s1 with heap:=h2,toks:=tk2}) hh S (by lia) (fun y hy=>LV _ ((XT _).mp (LR.mpr ⟨y,hy,rfl⟩))) fun s' D zs c Sb g1 g2 g3 le pz sz hD=>?_
  have lz:zs.length=ys.length:=pz.length_eq;have es:s'={s1 with heap:=s'.heap,toks:=s'.toks}:=by cases s';dsimp only at g1 g2 g3 ⊢;subst g1 g2 g3;rfl
  have hz:s1.heap.objs.size<=D:=by obtain⟨_,_,_,_,ho,_⟩:=S.ex;exact QK (M5 (LK ho) le)
  have nD:H1 D=none:=I1.Lu.fresh hz;have I3:L2.Inv X pins σ (L2.upd H1 D (.lst (zs.map fun z=>V.ref z.2))) s':=by
   rw[es];refine I1.laid (fun b u e=>Sb b u (kp b u e)) hz ⟨by rw[K8,sizeLine_eq];lia,zs.map fun z=>Value.ref z.2,c,?_,hD⟩;clear pz sz hD lz
   induction zs with
   |nil=>exact .nil
   |cons z zs ih=>exact .cons rfl ih
  have dz:ag X.K W.bad H1 ((zs.map (·.1)).map tupI) (zs.map fun z=>V.ref z.2):=by
   have M7:∀z∈zs,LO X.K H1 z.2 (z.1.map V.int):=fun z hz=>den z (pz.mem_iff.mp hz)
   clear pz sz hD lz I3
   induction zs with
   |nil=>exact rfl
   |cons z zs ih =>
    refine ag.cons (Den.tup (M7 z Ng) ?_) (ih fun z hz=>M7 z (L8 _ hz));show ag X.K W.bad H1 (z.1.map PD.D.int) (z.1.map V.int);generalize z.1=k
    induction k with
    |nil=>exact rfl
    |cons n k V3=>exact ag.cons (Den.int n) V3
  have kn:=Inv.Xz I3 aH;refine⟨D,_,_,_,rfl,I3,e1.trans (ar.upd nD),e1.free nD,kn,aH,ag.apart nD kn dz,q _ ⟨?_,fun k=>?_⟩⟩
  ·exact List.pairwise_map.mpr sz
  ·rw[(pz.map (·.1)).mem_iff];exact XT k
end
end PD
namespace HT
open PySem PyProof.Rows
section
open PySem.SeqAt
open PySem.AutoSeq1 (wpAny_loadPart')
open PySem.MeetsSeq PySem.MeetsSeq2 PySem.MeetsSeq3
end
end HT
namespace PD
open PySem PySem.Spec PyProof.Rows L2
section
variable{X:Cx}{pos:Pos}
def Fh (hc:X.calm=true):fM X (.builtin "min") (fun ds Q=>∃(t:Bool) (ns:yaf),ds=[.lst t (ns.map D.int)]/\0<ns.length/\∀m,m∈ns->(∀n∈ns,m<=n)->Q (.int m)):=by
 intro pins s σ H W ds vs us Q I tr r hd q;obtain⟨t,ns,e,LV,q⟩:=q;subst e;obtain⟨v,rfl,h1⟩:=oE hd;obtain⟨a,ws,ev,_,hq,hw⟩:=h1.Nm;subst ev;cases r with
 |cons r1 rr =>
  cases rr;cases r1;obtain⟨K9,rv,pl,_⟩:=I.list hq;rw[eE hw]at rv;have ia:=intsAre_of rv;obtain⟨xs,ex⟩:=ia.allInts.items;have hl:s.heap.IsList a (intItems xs):=by rw[<- ex];exact pl.isList
  have Oo:ns=xs.toList.map (·.1):=by rw[<- ia.numsOf,<- nums_intItems,<- ex]
  have hsz:0<xs.size:=by rw[Oo,K8,NV]at LV;exact LV
  refine min_intList (I.ok.hd hc) hl hsz fun y h' tk hy kp=>?_
  obtain⟨tt,rfl⟩:=intItems_at hy;obtain⟨g1,g2⟩:=argBest_lt (numAt xs) (xs.size - 1);have at_:∀j,j<xs.size->xs.toList.map (·.1) ≠ []->numAt xs j∈ns:=fun j hj _=>by
   rw[Oo,numAt_eq];have:(xs.toList.map (·.1))[j]?=some ((xs.toList.map (·.1)).getD j 0):=by simp[hj]
   exact Mz this
  refine⟨.int _,H,_,I.kept kp,⟨_,rfl⟩,ar.refl H,Den.int _,q _ (at_ _ (by lia) (by rw[<- Oo];exact TM LV)) fun n hn=>?_⟩;rw[Oo]at hn;obtain⟨j,hj,ej⟩:=RF hn;have:numAt xs j=n:=by rw[numAt_eq,<- ej];simp only[Mf,LM hj,UC]
  rw[<- this];rw[K8,NV]at hj;exact g2 j (by lia)
end
def Kn(g1 g2 g3:DG)(a b c:D)(ρ:Ro)(Q:Ro->Prop):gB 3 (bM g1 (bM g2 (bM g3 jg))) (.tup [a,b,c]) ρ Q=g1 a ρ fun ρ1=>g2 b ρ1 fun ρ2=>g3 c ρ2 Q:=by rw[sH 3 _ _ rfl];simp only[Xd,Xe]
def Kp(g1 g2 g3 g4 g5 g6:DG)(a b c d e f:D)(ρ:Ro)(Q:Ro->Prop):gB 6 (bM g1 (bM g2 (bM g3 (bM g4 (bM g5 (bM g6 jg)))))) (.tup [a,b,c,d,e,f]) ρ Q=g1 a ρ fun ρ1=>g2 b ρ1 fun ρ2=>g3 c ρ2 fun Qr=>g4 d Qr fun ρ4=>g5 e ρ4 fun ρ5=>g6 f ρ5 Q:=by rw[sH 6 _ _ rfl];simp only[Xd,Xe]
end PD
namespace SW
open PySem PySem.SetTable ST PySem.W PyProof.Rows
section
variable{prog:Program}{w:World}{A:Around}{E:yaa}{s:Shared}
structure KW(prog:Program)(w:World)(h:Heap)(a:Addr)(xs:List (Int×Tok)):Prop where
 ex:∃o es ep t,h.get? a=some o/\o.ExactSet/\o.data=.set es ep t/\es.toList=xs.map (fun x=>((intKind prog w).hash x.1,Value.int x.1 x.2))/\Tab t (xs.map fun x=>(intKind prog w).hash x.1)/\(t.plain=true/\t.led=!w.params.followText "set-order")/\7<=t.mask
 nd:(xs.map (·.1)).Nodup
theorem rf:∀ps:List (Int×Value),(∀p∈ps,∃t,p.2=Value.int p.1 t)->IntsAre (ps.map (·.2)) (ps.map (·.1))
 |[],_=>.nil
 |(k,v)::r,h=>by obtain⟨t,e⟩:=h (k,v) Ng;have e':v=Value.int k t:=e;subst e';exact .cons _ _ (rf r fun p hp=>h p (L8 _ hp))
theorem wk:∀{vs:yad} {ns:yaf},IntsAre vs ns->∀p∈ns.zip vs,∃t,p.2=Value.int p.1 t
 |_,_,.nil,p,h=>by cases h
 |_,_,.cons _ _ r,p,h=>by
  rcases Lp.mp h with z|z
  ·exact⟨_,by rw[z]⟩
  ·exact wk r p z
def Ac {vs:yad} {P:PySem.Fin->Shared->Prop} (ho:s.heap.get? a=some (seqObj "list" vs.toArray n)) (hi:IntsAre vs ns) (XS:vs.length<64)
  (hP:∀h' (out:yad) (ms:yaf) c2,IntsAre out ms->ms.Perm ns->ms.Pairwise (·<=·)->(∀b o,b≠a->s.heap.get? b=some o->h'.get? b=some o)->h'.get? a=some (seqObj "list" out.toArray c2)->P (.done (.ret .none)) {s with heap:=h'}):wpAny (model prog w) A (Builtin.«list.sort» ⟨[.ref a],[]⟩) P E s:=by
 have lv:ns.length=vs.length:=hi.length.symm;obtain⟨e1,SF⟩:∃e1,(s.heap.update a (Obj.mapSeq fun _=>(#[]:yan))).get? a=some (seqObj "list" #[] e1):=⟨_,get?_update_seq ho fun _=>#[]⟩;rw[list_sort_plain];refine K1 (listItems_at ho rfl ?_);refine K1 (listUpdate_at ho rfl ?_ (by rw[M3,sizeLine_eq];lia) (MK _));refine K1 (seqEpoch_at SF rfl ?_);refine K1 (wpAny_newTuple ?_ (by show vs.length<=_;rw[sizeLine_eq];lia));refine K1 (wpAny_newList ?_ (MK _));refine OR ?_;show wpAny (model prog w) A _ P E {s with heap:=((s.heap.update a (Obj.mapSeq fun _=>(#[]:yan))).push (seqObj "tuple" vs.toArray 0)).push (seqObj "list" #[] 0)};have QC:(((s.heap.update a (Obj.mapSeq fun _=>(#[]:yan))).push (seqObj "tuple" vs.toArray 0)).push (seqObj "list" #[] 0)).get? a=some (seqObj "list" #[] e1):=Mb _ (Mb _ SF);have Pp:∀b o,b≠a->s.heap.get? b=some o->(((s.heap.update a (Obj.mapSeq fun _=>(#[]:yan))).push (seqObj "tuple" vs.toArray 0)).push (seqObj "list" #[] 0)).get? b=some o:=fun b o hb e =>
  Mb _ (Mb _ ((Rh _ _ (Ne.symm hb)).trans e))
 generalize ((s.heap.update a (Obj.mapSeq fun _=>(#[]:yan))).push (seqObj "tuple" vs.toArray 0)).push (seqObj "list" #[] 0)=H at QC Pp ⊢;have fin:∀xs:Array Keyed,xs.Perm (vs.toArray.zip vs.toArray)->SortedTo xs xs.size->P (.done (.ret .none)) {s with heap:=H.update a (Obj.mapSeq fun _=>xs.map (·.2))}:=fun xs hp hs=>by
  obtain⟨ps,q1,q2,q3⟩:=ksk_out (b:=false) (keys:=vs.toArray) (vs:=vs) (kz:=ns) hi hp hs;have q2':xs.map (·.2)=List.toArray (ps.map Prod.snd):=by have:(xs.map (·.2)).toList=ps.map Prod.snd:=q2;rw[<- this,Array.toArray_toList]
  have zi:=wk hi;rw[q2'];obtain⟨c2,hc2⟩:∃c2,(H.update a (Obj.mapSeq fun _=>List.toArray (ps.map Prod.snd))).get? a=some (seqObj "list" (List.toArray (ps.map Prod.snd)) c2):=⟨_,get?_update_seq QC fun _=>List.toArray (ps.map Prod.snd)⟩;refine hP _ (ps.map Prod.snd) (ps.map Prod.fst) c2 (rf ps fun p YE=>zi p (q1.mem_iff.mp YE)) ?_ (List.pairwise_map.mpr q3) (fun b o hb e=>(Rh _ _ (Ne.symm hb)).trans (Pp b o hb e)) hc2;have:=q1.map Prod.fst;rw[VC (Nat.le_of_eq lv)]at this;exact this
 dsimp only;have zz:(vs.toArray.zip vs.toArray).size=vs.length:=by rw[Array.size_zip,M3,Nat.min_self]
 by_cases hn:vs.toArray.size<2
 ·rw[K4 hn,K4 hn];refine K1 (Le ?_);rw[StateT.run_pure];refine K1 (Le ?_);dsimp only;refine K1 (seqEpoch_at QC rfl ?_);refine K1 (listUpdate_at QC rfl ?_ (hsz2:=by rw[Array.size_map];show(vs.toArray.zip vs.toArray).size<=_;rw[zz,sizeLine_eq];lia));simp only[Wn,NN,if_false];refine Le (fin (vs.toArray.zip vs.toArray) (Array.Perm.refl _) fun i j MQ hj=>?_);rw[zz]at hj;rw[M3]at hn;have:i=j:=by lia
  subst this;exact Oe _
 ·rw[K3 hn,K3 hn];rw[M3]at hn;rw[ksk_kind (keys:=vs.toArray) hi (by rw[M3];lia)];refine K1 (Le ?_);refine K1 (OT (wpS_sortRuns (a₀:=vs.toArray.zip vs.toArray) (st:=SortSt.mk' oneType' (vs.toArray.zip vs.toArray) #[] 7 none)
   (Q:=fun _ Om=>(arrOf Om).Perm (vs.toArray.zip vs.toArray)/\failedOf Om=none/\SortedTo (arrOf Om) (vs.toArray.zip vs.toArray).size)
   (ksk_intKeys (keys:=vs.toArray) hi) ⟨Array.Perm.refl _,rfl,rfl,rfl⟩ (by rw[zz];lia) (by rw[zz];exact XS) fun Om a1 a2 a3=>⟨a1,a2,a3⟩) ?_ fun _ _ e=>e)
  rintro⟨⟨⟩,Om⟩ s' ⟨rfl,hp,hf,hs⟩;dsimp only;refine K1 (seqEpoch_at QC rfl ?_);refine K1 (listUpdate_at QC rfl ?_ (MK _) (by rw[Array.size_map,hp.size_eq,zz,sizeLine_eq];lia));rw[hf];simp only[Wn,NN,if_false];exact Le (fin (arrOf Om) hp (by rw[hp.size_eq];exact hs))
end
end SW
namespace PD
open PySem PySem.Spec PyProof.Rows L2
section
variable{X:Cx}{pos:Pos}
theorem iQ:∀{out:yad} {ms:yaf},IntsAre out ms->Vals (ms.map V.int) out
 |_,_,.nil=>.nil
 |_,_,.cons n t r=>.cons ⟨t,rfl⟩ (iQ r)
theorem qR{K:yac}{P:yak}{H:Hp}:∀ms:yaf,ag K P H (ms.map D.int) (ms.map V.int)
 |[]=>rfl
 |n::ms=>ag.cons (Den.int n) (qR ms)
end
section
variable{X:Cx}
abbrev DB:=(D->Prop)->Ro->Prop
def HF(t:DS)(u:DB):DB:=fun Q ρ=>t {nx:=u Q,rt:=Q} ρ
def JF(t:DS):DB:=fun Q ρ=>t {nx:=fun _=>False,rt:=Q} ρ
end
def FL(K:yac)(x:Str)(st:Stmt):Prop:=∃(f:Addr) (oc:Value) (od:Option Addr) (kV dc pm:Value) (an:Option Addr) (cd ct:Value) (sl:Array (yam)),
 PySem.W.nsIn K mainGlobals x=some (some (.ref f))/\K.lookup f=some ⟨oc,od,.func (PySem.W.fnOf x x (eR st) (cO st) (ak st) .none kV dc pm an cd ct),sl⟩/\PySem.W.codeIn K cd x=true/\PySem.W.keepIn K (.ref f)=true
def FL.mk{K:yac}{x:Str}{st:Stmt}{f:Addr}{oc:Value}{od:Option Addr}{kV dc pm:Value}{an:Option Addr}{cd ct:Value}{sl:Array (yam)}(a:PySem.W.nsIn K mainGlobals x=some (some (.ref f)))
  (b:K.lookup f=some ⟨oc,od,.func (PySem.W.fnOf x x (eR st) (cO st) (ak st) .none kV dc pm an cd ct),sl⟩) (c:PySem.W.codeIn K cd x=true) (d:PySem.W.keepIn K (.ref f)=true):FL K x st:=⟨f,oc,od,kV,dc,pm,an,cd,ct,sl,a,b,c,d⟩
def Kt{α:Type}:∀{us:List α},us.length=1->∃a,us=[a]
 |[a],_=>⟨a,rfl⟩
def Ku{α:Type}:∀{us:List α},us.length=2->∃a b,us=[a,b]
 |[a,b],_=>⟨a,b,rfl⟩
def Kv{α:Type}:∀{us:List α},us.length=3->∃a b c,us=[a,b,c]
 |[a,b,c],_=>⟨a,b,c,rfl⟩
def Kw{α:Type}:∀{us:List α},us.length=4->∃a b c d,us=[a,b,c,d]
 |[a,b,c,d],_=>⟨a,b,c,d,rfl⟩
def Kx{α:Type}:∀{us:List α},us.length=5->∃a b c d e,us=[a,b,c,d,e]
 |[a,b,c,d,e],_=>⟨a,b,c,d,e,rfl⟩
def FL.has {K : yac} {x : Str} {st : Stmt} {h : Heap} {mg : yal} {k : Nat} {ps : yah} {sp : DSp} (e : FL K x st) (P : Program) (w : World) (base : Heap) (X : K.In h) (G : h.Ns mainGlobals mg)
  (ok : ∀ {f : Addr} {fd : FuncData}, aw K x x st f fd -> aJ P w K mg base (CX1 P w) k f fd ps (aK K sp))
  (hb : ∀ (kV dc pm : Value) (an : Option Addr) (cd ct : Value) (us : yad), us.length = ps.length -> bindArgs (PySem.W.fnOf x x (eR st) (cO st) (ak st) .none kV dc pm an cd ct) ⟨us, []⟩ = pure (ps.zip us) := by
   intro _ _ _ _ _ _ us hl
   first
    | (obtain ⟨a, e⟩ := Kt hl; subst e; rfl)
    | (obtain ⟨a, b, e⟩ := Ku hl; subst e; rfl)
    | (obtain ⟨a, b, c, e⟩ := Kv hl; subst e; rfl)
    | (obtain ⟨a, b, c, d, e⟩ := Kw hl; subst e; rfl)
    | (obtain ⟨a, b, c, d, e', e⟩ := Kx hl; subst e; rfl)) : Mj P w K mg base x k ps sp := by
 obtain ⟨f, oc, od, kV, dc, pm, an, cd, ct, sl, a, b, c, d⟩ := e;exact ⟨f, _, ok (yC b c d), PySem.W.mg_of X G a, d, .all fun us hl => hb kV dc pm an cd ct us hl⟩
end PD
namespace HT
open PySem PyProof.Rows
section
open PySem.SeqAt
open PySem.AutoSeq1 (wpAny_loadPart')
open PySem.MeetsSeq PySem.MeetsSeq2 PySem.MeetsSeq3
end
end HT
namespace PD
open PySem PySem.Spec PyProof.Rows L2 PX
section
variable{X:Cx}
def Own.O4(W:Own)(n i:Nat)(D:Addr)(bs:yaj):Own:=⟨W.B,fun j=>if j=i then some D else if j % n=i/\n<=j then bs (j / n - 1)else W.O j,W.S⟩
def lJ{n i:Nat}(h:i<n):Nt n i k % n=i:=by unfold Nt;rw[Nat.mul_add_mod,NS h]
def Cw{n:Nat}:n<=Nt n i k:=by unfold Nt;rw[Nat.mul_add];lia
def GW{n i:Nat}(h:i<n):Nt n i k / n - 1=k:=by
 unfold Nt;rw[Nat.mul_add_div (by lia),Nat.div_eq_of_lt h]
 lia
def Jv{n i j:Nat}(h:j % n=i)(hj:n<=j)(hn:0<n):j=Nt n i (j / n - 1):=by unfold Nt;have h1:=Nat.div_add_mod j n;have h2:1<=j / n:=Nat.div_pos hj hn;rw[show j / n - 1+1=j / n by lia,<- h,h1]
def Own.N2{W:Own}{n i:Nat}{D:Addr}{bs:yaj}(hi:i<n){j:Nat}{a:Addr}(h:(W.O4 n i D bs).O j=some a):(j=i/\a=D)∨(∃k,j=Nt n i k/\bs k=some a)∨(j≠i/\(∀k,j≠Nt n i k)/\W.O j=some a):=by
 have h1:(if j=i then some D else if j % n=i/\n<=j then bs (j / n - 1)else W.O j)=some a:=h;by_cases e:j=i
 ·rw[K4 e]at h1;cases h1;exact .inl ⟨e,rfl⟩
 ·rw[K3 e]at h1;by_cases e2:j % n=i/\n<=j
  ·rw[K4 e2]at h1;exact .inr (.inl ⟨_,Jv e2.1 e2.2 (by lia),h1⟩)
  ·rw[K3 e2]at h1;exact .inr (.inr ⟨e,fun k z=>e2 (by rw[z];exact⟨lJ hi,Cw⟩),h1⟩)
def Own.Ve{W:Own}{n i:Nat}{D:Addr}{bs:yaj}(hi:i<n)(k:Nat):(W.O4 n i D bs).O (Nt n i k)=bs k:=by show(if Nt n i k=i then some D else if Nt n i k % n=i/\n<=Nt n i k then bs (Nt n i k / n - 1)else W.O (Nt n i k))=bs k;rw[K3 (gQ hi),K4 ⟨lJ hi,Cw⟩,GW hi]
def Own.Se{W:Own}{n i:Nat}{D:Addr}{bs:yaj}{j:Nat}(h1:j≠i)(h2:j % n≠i∨j<n):(W.O4 n i D bs).O j=W.O j:=by show(if j=i then some D else if j % n=i/\n<=j then bs (j / n - 1)else W.O j)=_;rw[K3 h1,K3 fun z=>h2.elim (fun q=>q z.1) fun q=>by lia]
theorem Rel.O4{W:Own}{H H':Hp}{σ:St}{ρ:Ro}{i:Nat}{D:Addr}{bs:yaj}{out:List LI}{vs:yaq}(r:Rel X W H σ ρ)(hi:i<σ.length)(sm:ar H H')(nD:H D=none)(kD:X.K.lookup D=none)(hD:H' D=some (.lst vs))
  (hb:gT X.K H D out.length bs) (hl:∀k b,bs k=some b->∃us,H' b=some (.lst us)) (hd:ay X.K (fun t b=>W.bad t b∨b=D∨∃ k,bs k=some b) H' bs 0 out vs) :
  Rel X (W.O4 σ.length i D bs) H' (σ.set i (some (.ref D))) (ρ.set i (some (.ob (.ll out))))/\LC W H (W.O4 σ.length i D bs) H':=by
 have NY:∀t a,(W.O4 σ.length i D bs).bad t a->W.bad t a∨a=D∨∃ k,bs k=some a:=fun t a z=>by
  rcases z with z|⟨j,z⟩| z
  ·exact .inl (.inl z)
  ·rcases Own.N2 hi z with⟨_,q⟩| ⟨k,_,q⟩| ⟨_,_,q⟩
   ·exact .inr (.inl q)
   ·exact .inr (.inr ⟨k,q⟩)
   ·exact .inl (.inr (.inl ⟨j,q⟩))
  ·exact .inl (.inr (.inr z))
 have new:∀a,(a=D∨∃ k,bs k=some a)->H a=none/\X.K.lookup a=none:=fun a z=>by
  rcases z with z|⟨k,z⟩
  ·subst z;exact⟨nD,kD⟩
  ·exact⟨(hb.ok k a z).2.1,(hb.ok k a z).2.2.1⟩
 have nb:∀{t:Bool} {a:Addr} {ws:yaq},Na X.K H t a ws->¬(a=D∨∃ k,bs k=some a):=fun {t a ws} q z=>by
  obtain⟨n1,n2⟩:=new a z;rcases q.1 with(q|⟨o,q⟩)|⟨o,K9,n,q,_⟩
  ·rw[n1]at q;cases q
  ·rw[n1]at q;cases q
  ·rw[n2]at q;cases q
 have up:∀(d:PD.D) (v:V),Den X.K W.bad H d v->Den X.K (W.O4 σ.length i D bs).bad H' d v:=Den.map (fun _ _ q=>LO.same sm q) (fun t a ws n q=>⟨fun z=>(NY t a z).elim n (nb q),q.same sm⟩) (fun a _ n q=>sm.kp a _ q n.nt);have ups:∀(ds:List PD.D) (vs':yaq),ag X.K W.bad H ds vs'->ag X.K (W.O4 σ.length i D bs).bad H' ds vs':=ag.map (fun _ _ q=>LO.same sm q) (fun t a ws n q=>⟨fun z=>(NY t a z).elim n (nb q),q.same sm⟩) (fun a _ n q=>sm.kp a _ q n.nt);have nO:∀j a,W.O j=some a->¬(a=D∨∃ k,bs k=some a):=fun j a q z=>by obtain⟨_,_,o,h3,_⟩:=r.kn j a q;rw[(new a z).1]at h3;cases h3
 refine⟨⟨fun j d h=>?_,fun j x h=>?_,fun j l a h1 h2=>?_,fun j a h1=>?_,fun j a h1=>?_,fun a h=>let ⟨_,q⟩:=r.bt a h;sm.ex q,fun a h=>let ⟨_,q⟩:=r.st a h;sm.ex q,r.ent.trans sm,r.tab.same sm⟩,rfl,rfl,fun b o _ q n=>sm.kp b o q n,fun j a h=>?_,sm.tb,sm.ok⟩
 ·have Um:j≠i:=fun e=>by
   subst e;by_cases l:j<ρ.length
   ·rw[Ou l]at h;cases h
   ·rw[RD (by rw[SO];lia)]at h;cases h
  rw[NK (Ne.symm Um)]at h;obtain⟨w,h1,h2⟩:=r.val j d h;exact⟨w,by rw[NK (Ne.symm Um)];exact h1,up d w h2⟩
 ·rw[SO];by_cases Um:j=i
  ·subst Um;by_cases l:j<ρ.length
   ·rw[Ou l]at h;cases h;refine⟨D,_,?_,by rw[Ou hi],hD,.ll (hd.map (fun _ _ z=>z.Lo NY) fun k b q=>⟨by rw[<- q];exact Own.Ve hi k,fun _ z=>z⟩)⟩;show(if j=j then some D else _)=some D;rw[K4 rfl]
   ·rw[RD (by rw[SO];lia)]at h;cases h
  ·rw[NK (Ne.symm Um)]at h;obtain⟨a,ws,h1,h2,h3,h4⟩:=r.own j x h;have jl:j<σ.length:=(L6.mp h2).1;refine⟨a,ws,(Own.Se Um (.inr jl)).trans h1,by rw[NK (Ne.symm Um)];exact h2,sm.kp _ _ h3 h4.Q8.nt,h4.map ups fun l b q=>⟨(Own.Se ?_ (.inl (by rw[lJ jl];exact Um))).trans q,fun _ z=>sm _ _ z⟩⟩;exact gQ hi
 ·rcases Own.N2 hi h1 with⟨e1,q1⟩| ⟨k1,e1,q1⟩| ⟨_,_,q1⟩<;>rcases Own.N2 hi h2 with⟨e2,q2⟩| ⟨k2,e2,q2⟩| ⟨_,_,q2⟩
  ·rw[e1,e2]
  ·exact absurd (q1 ▸ rfl) (q1 ▸ (hb.ok k2 a q2).2.2.2)
  ·exact(nO l a q2 (.inl q1)).elim
  ·exact absurd (q2 ▸ rfl) (q2 ▸ (hb.ok k1 a q1).2.2.2)
  ·rw[e1,e2,hb.inj k1 k2 a q1 q2]
  ·exact(nO l a q2 (.inr ⟨k1,q1⟩)).elim
  ·exact(nO j a q1 (.inl q2)).elim
  ·exact(nO j a q1 (.inr ⟨k2,q2⟩)).elim
  ·exact r.inj j l a q1 q2
 ·have fresh:(a=D∨∃ k,bs k=some a)->X.K.lookup a=none/\(¬W.B a/\¬W.S a):=fun z=>by
   obtain⟨n1,n2⟩:=new a z;exact⟨n2,fun q=>(by obtain⟨o,y⟩:=r.bt _ q;rw[n1]at y;cases y),fun q=>(by obtain⟨o,y⟩:=r.st _ q;rw[n1]at y;cases y)⟩
  rcases Own.N2 hi h1 with⟨_,q⟩| ⟨k,_,q⟩| ⟨_,_,q⟩
  ·obtain⟨f1,f2⟩:=fresh (.inl q);exact⟨f1,f2,.lst vs,by rw[q];exact hD,True.intro⟩
  ·obtain⟨f1,f2⟩:=fresh (.inr ⟨k,q⟩);obtain⟨us,hu⟩:=hl k a q;exact⟨f1,f2,.lst us,hu,True.intro⟩
  ·obtain⟨a1,a2,ws,a3,a4⟩:=r.kn j a q;exact⟨a1,a2,ws,sm.kp _ _ a3 a4.nt,a4⟩
 ·rcases Own.N2 hi h1 with⟨_,q⟩| ⟨k,_,q⟩| ⟨_,_,q⟩
  ·exact r.ent.free (q ▸ nD)
  ·exact r.ent.free (hb.ok k a q).2.1
  ·exact r.ke j a q
 ·rcases Own.N2 hi h with⟨_,q⟩| ⟨k,_,q⟩| ⟨_,_,q⟩
  ·exact .inr (q ▸ nD)
  ·exact .inr (hb.ok k a q).2.1
  ·exact .inl ⟨j,q⟩
end
section
variable{X:Cx}{k:Nat}{ps:yah}{sp:DSp}{x:Str}{p pos:Pos}{e:Expr}{es:yai}{t:DA}
def Jn{ds:yar}{Pv:Nat->List LI->Prop}{te:DM}{Og:Ro}(step:∀j d out,ds[j]?=some d->Pv j out->te (some (.val d)::Og) (fun e=>Pv (j+1) (out++[e]))) :
  ∀ j d out ρ1,ds[j]?=some d->Pv j out->jI 1 Og ρ1->kW 0 d ρ1 fun ρ2=>jI 1 Og ρ2/\pU ρ2 fun b=>if b=true then te ρ2 (fun e=>Pv (j+1) (out++[e]))else Pv (j+1) out:=by
 rintro j d out ρ1 hd hp ⟨r0,hl,rfl⟩
 match r0,hl with
 |[a],_ =>
  refine⟨⟨[some (.val d)],rfl,rfl⟩,?_⟩;unfold pU;dsimp only;rw[K4 rfl];exact step j d out hd hp
end
section
variable{X:Cx}{sc:Scope}{ns:yah}{js:yag}{elt iter:Expr}{px pos:Pos}{te:DM}{wi:DA}{x:Str}
def vK(i:Nat)(wi:DA)(js:yag)(te:DM):DS:=fun E ρ=>wi ρ fun ds=>ds.length<=sizeLine/\∃Pv:Nat->List LI->Prop,Pv 0 [] ∧
 (∀j d out,ds[j]?=some d->Pv j out->te (some (.val d)::js.map (bC ρ)) (fun e=>Pv (j+1) (out++[e])))/\∀out,Pv ds.length out->E.nx (ρ.set i (some (.ob (.ll out))))
def zS{y:Str}{py P6:Pos}(i:Nat)(hN:X.N.Nodup)(hc:X.calm=true)(S:RV X.env.scope sc [x] ns)(hj:bf X.N ns js)(hi:PY X (.Name x px) iter wi)
  (he:∀(C:Addr) (K6:Shared) (Lg:Hp) (fp:yae) (XE:yaa),YA (aN X sc ns [x] C K6 Lg fp XE) elt te) (hy:X.N[i]?=some y:=by rfl) (Ug:X.env.scope.names.lookup y=some .local:=by rfl) (NP:closureFor sc X.env=pure (c9 X.env ns):=by rfl) (hs:∀x,foldedSetIterable iter X.env x=pure x:=by intro _;rfl)
  (Xs:swapsWith (.ListComp elt [⟨.Name x px,iter,[],0⟩] sc pos) (some (.Name y py)) P6.line X.env=pure true:=by rfl) :
  NA X (.Assign [.Name y py] (.ListComp elt [⟨.Name x px,iter,[],0⟩] sc pos) P6) (vK i wi js te):=by
 intro pins s σ H W ρ E I r h;rw[exec_Assign_Name_used _ _ _ _ Xs];refine K1 (VN (K1 ?_));show wpAny _ X.A (do let _←comprehension (.ListComp elt [⟨.Name x px,iter,[],0⟩] sc pos) sc X.env _ (newList []) false (eval iter X.env) (some (assign (.Name y py) X.env))) _ _ s;refine K1 (OT (Wf (use:=some (assign (.Name y py) X.env)) (Q:=fun _ s'=>QR X pins W H E .next s') rfl hs NP S.kind S.names
  (Lj (hi pins s σ H W ρ _ I r h) fun v s1 h1=>Lj h1 fun QN s2 h2=>?_)) (fun _ s' hq=>Le (Le hq)) fun _ _ e=>e)
 obtain⟨it,fp,tn,J,H2,ds,e,I2,e2,T,P4,f2,yd,hz,Pv,p0,step,fin⟩:=h2;subst e;refine pF (RR:=fun acc C=>compPost (model X.prog X.w) X.A X.xe (some (assign (.Name y py) X.env)) (fun _ s'=>QR X pins W H E .next s') acc C) hc S hj (Ed:=fun _=>False) (fun C K6 Lg fp XE _=>he C K6 Lg fp XE) (fun C K6 Lg fp XE _=>bR) (fun _ _=>cY.no) I2 (r.same e2) (fun C K6 Lg fp XE=>p5 S) T P4 f2 yd hz Pv p0 (Jn step) ?_;intro D C s' H' m' out bs I' sm Oo RY Rw Tq Rx Ts ⟨hn,hk,vs,hD,hb,hl,LQ⟩ pv;obtain⟨rp,fw⟩:=(r.same e2).O4 (Inv.RQ I' hy) sm hn hk hD hb hl LQ;show wpAny _ X.A (assign (.Name y py) X.env (.ref D)) _ _ _;refine wpAny_assign_Name (ki (v:=.ref D) I' hN hy (.inl Ug) rfl (fun s3 I3 ⟨a,Tt,ha⟩=>?_) (.inr Ug));have LV:C≠a:=by
  rcases ha with z|z
  ·rw[z];exact Rw
  ·exact fun q=>Rx y a z q.symm
 refine⟨m',Oo.sameBut Tt LV,fun h' R4=>?_⟩;exact⟨_,_,H',I3.turned (t':=s3.toks) (fun b o hb e=>(R4.2 b hb).trans e) RY Rw (.inr Tq) Rx Ts,(LC.same e2).trans fw,_,rp,fin out pv⟩
end
open PySem PySem.Spec PyProof.Rows L2 PZ
def ESt(e it l:Addr)(i:Nat)(h:Heap):Prop:=(∃old,IsEnum h e it (i:Int) old)/\h.IsListIter it l i
def Ite(K:yac)(a:Addr):It :=
 ⟨fun i H=>∃xs x,SqL K H a xs/\xs[i]?=some x,
  fun i H v H'=>∃T x,v=.ref T/\H T=none/\H'=L2.upd H T (.tup [.int (i:Int),x])/\∀xs,SqL K H a xs->xs[i]?=some x,
  fun i H=>∃xs,SqL K H a xs/\xs[i]?=none⟩
def Cs{P:Program}{w:World}{K:yac}{es:yai}{kt:Nat}{tp:Pos}(a e it:Addr)(D:e≠it) :
  Turn P w K (.Tuple es kt tp) (Ite K a) [e,it] e (fun i h=>ESt e it a i h) where
 mem:=by simp
 obj:=fun i h st c hc=>by
  obtain⟨⟨old,he⟩,s1⟩:=st;simp only[Lp,Nq,or_false]at hc;rcases hc with q|q<;>subst q
  ·exact⟨_,he,fun v q=>by cases q⟩
  ·obtain⟨o,q1,_,q2⟩:=s1;exact⟨o,q1,fun v q=>by rw[q2]at q;cases q⟩
 keep:=fun i h h' st kp=>by obtain⟨⟨old,he⟩,s1⟩:=st;obtain⟨o,q1,r⟩:=s1;exact⟨⟨old,kp e (by simp) _ he⟩,o,kp it (by simp) _ q1,r⟩
 item:=by
  intro X hP hw hK hc i pins s σ H E I hf st hg;subst hP hw hK;obtain⟨xs,x,q1,hx⟩:=hg;obtain⟨us,r1,p1⟩:=OX.list (k:=true) I q1;obtain⟨u,hu,ru⟩:=r1.get hx;obtain⟨⟨old,he⟩,hit⟩:=st;have hne1:a≠e:=OX.ne (k:=true) I (hf e (by simp)) q1;have hne2:a≠it:=OX.ne (k:=true) I (hf it (by simp)) q1;refine wpAny_pyNext_enum_item he hit p1 (x:=u) (by simpa using hu) D fun h' eo it1 YL sz' kp=>⟨_,rfl,wpAny_letOwnedTupleGo_enum eo fun Qu e2 sb=>?_⟩
  have sz:s.heap.objs.size<=s.heap.objs.size:=LG _;have ne:s.heap.objs.size≠e:=Qe (LK he);obtain⟨oi,Uk,ri⟩:=id hit;have ni:s.heap.objs.size≠it:=Qe (LK Uk);have nT:H s.heap.objs.size=none:=I.Lu.fresh sz;have NL:∀c o,c ∉ [e,it]->s.heap.get? c=some o->Qu.get? c=some o:=fun c o n q=>by simp only[Lp,Nq,or_false,not_or]at n;exact sb.extBut c o n.1 (kp c o n.1 n.2 q)
  have P4:ESt e it a (i+1) Qu:=by
   refine⟨⟨u,?_⟩,?_⟩
   ·have:((i+1:Nat):Int)=(i:Int)+1:=by lia
    rw[this];exact e2
   ·obtain⟨o,q1,r⟩:=it1;exact⟨o,sb.extBut _ o (Ne.symm D) q1,r⟩
  have ZV:Qu.get? s.heap.objs.size=some {cls:=.type "tuple", data:=.seq #[.int i s.toks,u]}:=sb.extBut _ _ ne YL;have lo:∀c ∈ [e,it],c≠s.heap.objs.size:=fun c hc=>by
   simp only[Lp,Nq,or_false]at hc;rcases hc with q|q<;>subst q
   ·exact Ne.symm ne
   ·exact Ne.symm ni
  refine⟨.ref s.heap.objs.size,L2.upd H s.heap.objs.size (.tup [.int (i:Int),x]),?_,rfl,⟨_,x,rfl,nT,rfl,fun xs' q=>by rw[I.OC q q1];exact hx⟩,P4,fun c hc=>by rw[av (lo c hc)];exact(hf c hc).1⟩;have PT:∀c o,H c=some o->c ∉ [e,it]:=fun c o q hc=>by have:=(hf c hc).1;rw[q]at this;cases this
  refine L2.Inv.step (s:=s) (h':=Qu) (g':=s.gens) (d':=s.drawn) (t':=s.toks+1) (ch:=[e,it]) I (fun c hc=>?_) (fun c o _ _ n q _=>NL c o n q) (fun c o _ _ n q _=>⟨o.slots,NL c o n q⟩) (fun c o _ q n=>by rw[av (Ms (LK q))];exact n) (fun c o n q=>⟨o,NL c o n q⟩)
   (fun c ls q=>by rw[av (aW q nT)];exact q) (fun c o ls q=>by rw[av (aW q nT)];exact q) (fun c ps q=>⟨#[],by rw[av (aW q nT),q];simp⟩) (fun m hm=>?_) (fun c o q=>?_) I.bare
  ·obtain⟨f0,f1,f2,f3,f4,f5⟩:=hf c hc;exact⟨f3,f1,f4,f5⟩
  ·obtain⟨o,N9,ep,ho,r⟩:=hm;exact⟨o,N9,ep,NL _ o (fun q=>(hf _ q).2.1 rfl) ho,r⟩
  ·by_cases Xx:c=s.heap.objs.size
   ·subst Xx;rw[aH]at q;cases q;exact⟨by rw[sizeLine_eq];show 2<=16777216;decide,[.int i s.toks,u],.cons ⟨_,rfl⟩ (.cons ru .nil),⟨_,ZV,rfl,_,rfl⟩⟩
   ·rw[av Xx]at q;refine(I.Lu c o q).Oz (fun d' o' hd z=>NL d' o' ?_ z) (fun d' z=>by rw[av (aW z nT)];exact z) fun d' ls z=>by rw[av (aW z nT)];exact z
    rcases hd with q'|q'
    ·rw[q'];exact PT c o q
    ·exact PT d' _ q'
 done:=by
  intro X hP hw hK hc i pins s σ H E I hf st hg;subst hP hw hK;obtain⟨xs,q1,R5⟩:=hg;obtain⟨us,r1,p1⟩:=OX.list (k:=true) I q1;obtain⟨⟨old,he⟩,hit⟩:=st;refine wpAny_pyNext_enum_end (I.ok.hd hc) he hit p1 (by simpa using r1.none_of R5) fun h' kp=>⟨rfl,?_⟩
  have NL:∀c o,c ∉ [e,it]->s.heap.get? c=some o->h'.get? c=some o:=fun c o n q=>by simp only[Lp,Nq,or_false,not_or]at n;exact kp c o n.2 q
  have PT:∀c o,H c=some o->c ∉ [e,it]:=fun c o q hc=>by have:=(hf c hc).1;rw[q]at this;cases this
  refine L2.Inv.step (s:=s) (h':=h') (g':=s.gens) (d':=s.drawn) (t':=s.toks) (ch:=[e,it]) I (fun c hc=>?_) (fun c o _ _ n q _=>NL c o n q) (fun c o _ _ n q _=>⟨o.slots,NL c o n q⟩) (fun _ _ _ _ n=>n) (fun c o n q=>⟨o,NL c o n q⟩) (fun _ _ q=>q) (fun _ _ _ q=>q) (fun c ps q=>⟨#[],by rw[q];simp⟩) (fun m hm=>?_) (fun c o q=>?_) I.bare
  ·obtain⟨f0,f1,f2,f3,f4,f5⟩:=hf c hc;exact⟨f3,f1,f4,f5⟩
  ·obtain⟨o,N9,ep,ho,r⟩:=hm;exact⟨o,N9,ep,NL _ o (fun q=>(hf _ q).2.1 rfl) ho,r⟩
  ·refine(I.Lu c o q).Oz (fun d' o' hd z=>NL d' o' ?_ z) (fun _ z=>z) fun _ _ z=>z
   rcases hd with q'|q'
   ·rw[q'];exact PT c o q
   ·exact PT d' _ q'
 self:=fun _ _ _ _ _ st h=>by obtain⟨⟨old,he⟩,_⟩:=st;exact wpAny_pyIter_enum he h
section
variable{X:Cx}
def lR:Nat->yar->yar
 |_,[]=>[]
 |n,d::r=>.tup [.int (n:Int),d]::lR (n+1) r
theorem nj:∀(n:Nat) (ds:yar),(lR n ds).length=ds.length
 |_,[]=>rfl
 |n,d::r=>by rw[lR,Oj,nj (n+1) r,Oj]
theorem nh:∀(n:Nat) (ds:yar) (i:Nat) (d:D),ds[i]?=some d->(lR n ds)[i]?=some (.tup [.int ((n+i:Nat):Int),d])
 |_,[],_,_,h=>by cases h
 |n,x::r,0,d,h=>by rw[List.getElem?_cons_zero]at h;cases h;rfl
 |n,x::r,i+1,d,h=>by
  rw[List.getElem?_cons_succ]at h;rw[lR,List.getElem?_cons_succ,nh (n+1) r i d h];congr 4
  lia
def EF(ta:DA):DA:=fun ρ R=>ta ρ fun ds=>∃t xs,ds=[.lst t xs]/\R (lR 0 xs)
def FH {es:yai} {kt:Nat} {tp:Pos} {a:Expr} {ta:DA} {p pos:Pos} (hg:Gl X "enumerate") (hm:X.mg "enumerate" = none) (ha:PN X [a] ta) (hs:starEach [a] X.env=(false,eval a X.env)::starEach [] X.env:=by rfl) (RT:(backTo pos (starEach [] X.env)).any (·.1)=false:=by rfl) :
  PY X (.Tuple es kt tp) (.Call (.Name "enumerate" p) [a] [] pos) (EF ta):=by
 intro pins s σ H W ρ R I r h;refine Call_ (df I hg hm boot_enumerate (PyProof.Rows.callWith_type1 (Lj (ha pos pins s σ H W ρ _ I r h) fun us s1 ⟨vs,H1,ds,I1,r1,e1,hd,q1⟩=>?_) hs RT));obtain⟨t,xs,e,q⟩:=q1;subst e;obtain⟨v1,rv,rfl,Qs,rfl⟩:=hd;obtain⟨l,ws,e2,sq,dn,up⟩:=Qs.seq (k:=true) (ds:=xs) rfl;subst e2;cases r1 with
 |cons ra rr =>
  cases rr;cases ra;obtain⟨us1,_,p1⟩:=OX.list (k:=true) I1 sq;refine call_enumerate_list p1 fun h' E1 L1 sz kp=>?_
  refine wpAny_pyIter_enum E1 ?_;refine⟨s1.heap.objs.size+1,[s1.heap.objs.size+1,s1.heap.objs.size],_,_,H1,_,rfl,I1.kept (t':=s1.toks) kp,e1,Cs l _ _ (by simp),⟨⟨_,E1⟩,L1⟩,fun c hc=>?_,?_,q⟩
  ·have PU:s1.heap.objs.size<=c:=by
    simp only[Lp,Nq,or_false]at hc;rcases hc with q|q<;>subst q
    ·exact TV _ _
    ·exact LG _
   exact I1.RL PU (I1.Lu.fresh PU)
  ·intro P' H' hT hL hX i;have k':SqL X.K H' l ws:=up P' H' hT hL;have n1:=dn.len;have hlen:=nj 0 xs;refine⟨fun hi=>?_,fun v H3 y hi=>?_,fun hi=>⟨ws,k',RD (by lia)⟩⟩
   ·obtain⟨x,hx,_⟩:=dn.get (i:=i) (d:=xs[i]'(by lia)) (by simp);exact⟨ws,x,k',hx⟩
   ·obtain⟨T,x,e,nT,eH,hx⟩:=y;subst e eH;obtain⟨dx,Pu,OV⟩:=dn.bC (hx ws k');have sm:ar H' (L2.upd H' T (.tup [.int (i:Int),x])):=ar.upd nT;refine⟨sm,.tup [.int (i:Int),dx],by rw[nh 0 xs i dx Pu,OZ],Den.tup (LO.of aH) (ag.cons (Den.int _) (ag.one ((Den.map hT hL hX dx x OV).same sm)))⟩
end
open PySem PySem.Spec PyProof.Rows L2
section
variable{X:Cx}
def EH(t:DA):DM:=fun ρ Q=>t ρ fun ys=>Q (.own ys)
def HR(h:QS X e ta):YA X e (EH ta):=fun pins s σ H W ρ _ I r hw =>
 Lj (h pins s σ H W ρ _ I r hw) fun u s1 ⟨a,vs,H',ds,e1,I1,sm,n,k,hb,hd,q⟩=>⟨.ref a,H',.own ds,I1,e1,sm,⟨a,vs,rfl,n,k,hb,hd⟩,q⟩
structure Told(K:yac)(H:Hp)(b c t0:Addr)(k0:Int)(us ws qs:yaq):Prop where
 hb:H b=some (.lst (.int k0::us))
 hc:H c=some (.lst (.ref t0::ws))
 ht:H t0=some (.tup (.ref b::qs))
 kb:K.lookup b=none
 kc:K.lookup c=none
 kt:K.lookup t0=none
end
end PD
namespace SW
open PySem PySem.SetTable ST PySem.W PyProof.Rows L2
section
variable{prog:Program}{w:World}{A:Around}{E:yaa}{s:Shared}
theorem wj:∀{vs:yad} {ns:yaf},vs.length=ns.length->(∀(j:Nat) (v:Value),vs[j]?=some v->∃n t,ns[j]?=some n/\v=Value.int n t)->IntsAre vs ns
 |[],[],_,_=>.nil
 |v::vs,n::ns,h,k=>by obtain⟨m,t,e,ev⟩:=k 0 v rfl;cases(show n=m from Ol e);subst ev;exact .cons n t (wj (Nat.succ.inj h) fun j u hj=>k (j+1) u hj)
def w8 {a : Addr} {ks : yaf} {Q : yaa} (hh : A.handled = none) (hd : (a == sysModules) = false) (dd : s.heap.DictOf (bQ prog w) a kvs) (ek : kvs.map (·.1) = ks.map Sum.inl) (XS : ks.length < 64)
  (hQ : ∀ (h1 : Heap) (tk : Nat) s' (out : yad) (ms : yaf) c, (∀ b o, s.heap.get? b = some o -> h1.get? b = some o) -> (∀ b o, h1.get? b = some o -> s'.heap.get? b = some o) -> s'.gens = s.gens -> s'.drawn = s.drawn -> s'.os = s.os -> IntsAre out ms -> ms.Perm ks -> ms.Pairwise (· < ·) →
   s'.heap.get? h1.objs.size = some (seqObj "list" out.toArray c) -> Q (.ref h1.objs.size) s') : wpAny (model prog w) A (call (.builtin "sorted") [.ref a]) Q E s := by
 obtain ⟨o, es, ep, ho, hx, hdt, hK, hP, nd⟩ := dd;have lk : kvs.length = ks.length := by have := congrArg List.length ek; simpa using this
 refine Calls.call_function_entry kind_sorted plain_sorted entry_sorted (args_sorted1 _) ?_;unfold Builtin.«sorted»;refine K1 (m := checkCount "sorted" 1 1 _) (Le ?_);refine K1 (PySem.W.kdu_collect (PySem.W.kdl_dict (knd := bQ prog w) (kvs := kvs) (ep := ep) hd) (show A.in1.handled = none from hh) ⟨o, es, ho, hx, hdt, hK, hP, nd⟩ (by rw [sizeLine_eq]; lia) fun h1 tk acc kp it => ?_);have la : acc.toList.length = ks.length := by rw [NV, it.1, lk]
 have hi : IntsAre acc.toList ks := wj la fun j v hj => by
  obtain ⟨k, x, e, q⟩ := it.2 j v (by simpa using hj);have e2 : (kvs.map (·.1))[j]? = some k := by rw [LZ, e]; rfl
  rw [ek, LZ] at e2;obtain ⟨n, en, e3⟩ := QW.mp e2;rcases bT (show lW k v = true from q) with ⟨i, t, e4, e5⟩ | ⟨y, t, e4, _⟩
  ·rw [e4] at e3;cases e3;exact ⟨n, t, en, e5⟩
  ·rw [e4] at e3;cases e3
 have ndk : ks.Nodup := by rw [ek] at nd;exact (List.pairwise_map.mp nd).imp fun h e => h (by rw [e])
 refine K1 (wpAny_newList ?_ (by rw [la, sizeLine_eq]; lia));have UN : (h1.push (seqObj "list" acc.toList.toArray 0)).get? h1.objs.size = some (seqObj "list" acc.toList.toArray 0) := Nw _ rfl;have NL : ∀ b o, h1.get? b = some o -> (h1.push (seqObj "list" acc.toList.toArray 0)).get? b = some o := fun b o e => Mb _ e
 show wpAny _ _ _ _ _ { s with heap := h1.push (seqObj "list" acc.toList.toArray 0), toks := tk };refine K1 (OR (Q0 slot_list_sort ⟨_, UN, rfl⟩ entry_list_sort ?body (args_list_sort _)))
 case body =>
  refine Ac (s := { s with heap := h1.push (seqObj "list" acc.toList.toArray 0), toks := tk }) UN hi (by lia) fun h' out ms c2 hio hpm hsm Pp hD => ?_
  refine ⟨_, rfl, Le ⟨_, rfl, hQ h1 tk _ out ms c2 kp (fun b o e => ?_) rfl rfl rfl hio hpm ?_ hD⟩⟩
  ·exact Pp b o (Ms (LK e)) (NL b o e)
  ·have n2 : ms.Nodup := hpm.nodup_iff.mpr ndk;exact (hsm.and n2).imp fun {x y} q => by have := q.1; have := q.2; lia
end
end SW
namespace PD
open PySem PySem.Spec PyProof.Rows L2
section
variable{X:Cx}{pos:Pos}
def yp(i:Nat):DS:=fun E ρ=>E.nx (ρ.set i (some (.ob (.dk []))))
def Bj{x:Str}(i:Nat)(hN:X.N.Nodup)(hi:X.N[i]?=some x:=by rfl)(hx:Loc X.env.scope x:=by first|exact Or.inl rfl|exact Or.inr rfl)(hs:swapsWith (.Dict [] [] dpos) (some (.Name x pos')) pos.line X.env=pure false:=by rfl)
  (hf:X.fn x=true∨X.env.scope.names.lookup x=some .local:=by first|exact .inl rfl|exact .inr rfl|assumption):NA X (.Assign [.Name x pos'] (.Dict [] [] dpos) pos) (yp i):=by
 intro pins s σ H W ρ E I r q;have hn:=I.Lu.fresh (LG s.heap.objs.size);have I1:=I.laid (a:=s.heap.objs.size) (o:=.dK []) (h':=s.heap.push {cls:=.type "dict", data:=.dict #[]}) (t':=s.toks) (fun _ _ q=>Mb _ q) (LG _) (Dg s.heap I.big);refine wpAny_Assign_Name (wpAny_Dict_empty ?_) hs;have rp:=r.Xf (x:=.dk []) (Inv.RQ I hi) (H':=L2.upd H s.heap.objs.size (.dK [])) (ar.upd hn) hn (Inv.MD I) aH (.dk rfl ag.nil);exact gf (v:=.ref s.heap.objs.size) I1 hN hi hx rfl (fun s3 I4=>⟨_,_,_,I4,rp.2,_,rp.1,q⟩) hf
def EK(i:Nat)(tk te:DE):DS:=fun E ρ=>∃kvs,ρ[i]?=some (some (.ob (.dk kvs)))/\te ρ fun d=>tk ρ fun k=>∃key:Key,k=Dw key/\kvs.length<sizeLine/\E.nx (ρ.set i (some (.ob (.dk (putD kvs key d)))))
def Fp {x:Str} (i:Nat) (hu:X.A.units+1<cLine) (hb:Lx X b tb) (he:Lx X e te) (hN:X.N[i]?=some x:=by rfl) (hv:Rt X.env.scope x:=by first|exact Or.inl rfl|exact Or.inr (Or.inl rfl)|exact Or.inr (Or.inr rfl)) (hd:(x==("__debug__" : Str))=false:=by decide)
  (Oa:(x==("__classdict__" : Str))=false:=by decide) (hs:swapsWith e (some (.Subscript (.Name x px) b tpos)) pos.line X.env=pure false:=by rfl):NA X (.Assign [.Subscript (.Name x px) b tpos] e pos) (EK i tb te):=by
 refine NA.of (Gn hu (iF hN hv hd Oa) hb.pe he.pe hs) fun σ H W ρ E r hl h=>?_
 obtain⟨kvs,eo,h⟩:=h;obtain⟨a,kws,oa,sa,ha,ek,Nn⟩:=r.Vb eo;refine⟨W,ρ,_,r,h,fun v H1 d e1 hd q=>⟨.ref a,sa,W,ρ,_,r.same e1,q,fun v2 H2 d2 e2 hd2 q2=>?_⟩⟩;obtain⟨key,rfl,hz,q2⟩:=q2;have z:=yv hd2;subst z;have lz:kws.length<sizeLine:=by have:=congrArg List.length ek;simp at this;lia
 have YJ:=e2 _ _ (e1 _ _ ha);obtain⟨p1,p2⟩:=Gp (k:=key) ek (Nn.same (e1.trans e2)) (hd.same e2);obtain⟨r2,f2⟩:=((r.same e1).same e2).Xg eo oa sa YJ True.intro (.dk p1 p2);exact⟨a,_,rfl,uW.k YJ lz,W,_,(LC.same (e1.trans e2)).trans f2,r2,q2⟩
def ED(i:Nat)(tb tf:DE):DE:=fun ρ Q=>∃kvs,ρ[i]?=some (some (.ob (.dk kvs)))/\tb ρ fun k=>tf ρ fun z=>∃key:Key,k=Dw key/\Q ((dq kvs key).getD z)
def Fn {x:Str} {apos:Pos} (i:Nat) (hu:X.A.units+1<cLine) (hb:Lx X b tb) (hf:Lx X f tf) (hN:X.N[i]?=some x:=by rfl) (hv:Rt X.env.scope x:=by first|exact Or.inl rfl|exact Or.inr (Or.inl rfl)|exact Or.inr (Or.inr rfl)) (hd:(x==("__debug__" : Str))=false:=by decide)
  (Oa:(x==("__classdict__" : Str))=false:=by decide) (m:M2 X (.Name x px) "get" apos b f pos:=by exact⟨rfl,rfl,rfl,rfl⟩):Lx X (.Call (.Attribute (.Name x px) "get" apos) [b,f] [] pos) (ED i tb tf):=by
 refine Lx.of (DY hu (iF hN hv hd Oa) hb.pe hf.pe m) fun σ H W ρ Q r h=>?_
 obtain⟨kvs,eo,h⟩:=h;obtain⟨a,kws,oa,sa,ha,e,Nn⟩:=r.Vb eo;refine⟨.ref a,sa,a,rfl,.inl ⟨kws,.inl ha⟩,W,ρ,_,r,h,fun v H1 d e1 hd q=>⟨W,ρ,_,r.same e1,q,fun v2 H2 d2 e2 hd2 q2=>?_⟩⟩;obtain⟨key,rfl,q2⟩:=q2;have z:=yv hd;subst z;refine⟨dZ kws key,mS.k (e2 _ _ (e1 _ _ ha)),e1.trans e2,_,?_,q2⟩;cases l:dq kvs key with
 |none=>rw[wK e Nn l];exact hd2
 |some d =>
  obtain⟨v',l',hv'⟩:=sI e Nn l;rw[l'];exact hv'.same (e1.trans e2)
theorem CG{α β:Type}:∀{ks:List α} {kvs:List (α×β)},kvs.map (·.1)=ks->kvs=ks.zip (kvs.map (·.2))
 |[],[],_=>rfl
 |k::ks,p::r,h=>by have h1:p.1=k:=(List.cons.inj h).1;have h2:=CG (List.cons.inj h).2;show p::r=(k,p.2)::ks.zip (r.map (·.2));rw[<- h2,<- h1]
def Rel.Tz{i:Nat}{ks:yaf}{ds:yar}(r:Rel X W H σ ρ)(hl:ds.length=ks.length)(e:ρ[i]?=some (some (.ob (.dk ((ks.map Sum.inl).zip ds))))) :
  ∃ a kws,H a=some (.dK kws)/\∀ob,Rel X (W.drop i) (L2.upd H a (.frz ob (.dK kws))) σ (ρ.set i (some (.val (.Ob ks ds))))/\LC W H (W.drop i) (L2.upd H a (.frz ob (.dK kws))):=by
 obtain⟨a,kws,oa,sa,ha,ek,LQ⟩:=r.Vb e;refine⟨a,kws,ha,fun ob=>?_⟩;have hm:iR (HO.dK kws):=True.intro;have nt:NT (HO.frz ob (.dK kws)):=True.intro;have lk:((ks.map Sum.inl:List Key).zip ds).map (·.1)=ks.map Sum.inl:=VC (by rw[K8,hl];exact LG _);have ls:((ks.map Sum.inl:List Key).zip ds).map (·.2)=ds:=List.map_snd_zip (by rw[K8,hl];exact LG _);rw[lk]at ek;rw[ls]at LQ;have il:i<σ.length:=(L6.mp sa).1;have OW:i<ρ.length:=(L6.mp e).1;have U3:∀t,W.bad t a:=fun _=>.inr (.inl ⟨i,oa⟩)
 have Qv:∀b ws,LO X.K H b ws->LO X.K (L2.upd H a (.frz ob (.dK kws))) b ws:=fun b ws q=>by show L2.upd _ _ _ _=_;rw[av (jj q ha (by intro z;cases z))];exact q
 have Qw:∀t b ws,¬W.bad t b->Na X.K H t b ws->¬W.bad t b/\Na X.K (L2.upd H a (.frz ob (.dK kws))) t b ws:=fun t b ws n q=>by
  have LV:b≠a:=fun e=>n (e ▸ U3 t)
  refine⟨n,?_,fun z=>⟨by rw[av LV];exact(q.2 z).1,(q.2 z).2⟩⟩;rcases q.1 with(q|⟨u,q⟩)|q
  ·exact .inl (.inl (by rw[av LV];exact q))
  ·exact .inl (.inr ⟨u,by rw[av LV];exact q⟩)
  ·exact .inr q
 have Qx:∀b u,RM u->H b=some u->L2.upd H a (.frz ob (.dK kws)) b=some u:=fun b u n q=>by rw[av (jj q ha (by intro z;subst z;exact hm.sol n))];exact q
 have Yz:∀j k b,W.sub σ.length j k=some b->(W.drop i).sub σ.length j k=some b/\∀us,H b=some (.lst us)->L2.upd H a (.frz ob (.dK kws)) b=some (.lst us):=fun j k b q=>⟨Own.OE il k b q,fun us z=>by rw[av (fun e=>gQ il (r.inj _ _ a (by rw[<- e];exact q) oa))];exact z⟩
 have tr:∀b u,H b=some u->∃u',L2.upd H a (.frz ob (.dK kws)) b=some u':=fun b u q=>by
  by_cases RU:b=a
  ·subst RU;exact⟨_,aH⟩
  ·exact⟨u,by rw[av RU];exact q⟩
 have fw:∀{ds:yar} {vs:yaq},ag X.K W.bad H ds vs->ag X.K (W.drop i).bad (L2.upd H a (.frz ob (.dK kws))) ds vs:=fun q=>(ag.map Qv Qw Qx _ _ q).Lo fun _ _=>Own.L0
 refine⟨⟨fun j x h=>?_,fun j x h=>?_,fun j k b h1 h2=>?_,fun j b h1=>?_,fun j b h1=>?_,fun b hb=>let ⟨u,q⟩:=r.bt b hb;tr b u q,fun b hb=>let ⟨u,q⟩:=r.st b hb;tr b u q,r.ent.ins (r.ke i a oa) ha hm nt,r.tab.upd nt (.inr ⟨_,ha,hm.ne,hm.nt⟩)⟩,(LC.upd oa ha hm nt).trans (LC.drop W _ i)⟩
 ·by_cases hj:j=i
  ·subst hj;rw[Ou OW]at h;cases h;have lw:(kws.map (·.2)).length=ks.length:=by rw[K8];have:=congrArg List.length ek;simpa using this
   refine⟨.ref a,sa,Den.Ob (o:=ob) (vs:=kws.map (·.2)) ?_ lw (fw LQ)⟩;rw[<- CG ek];exact aH
  ·rw[NK (Ne.symm hj)]at h;obtain⟨w,h1,h2⟩:=r.val j x h;exact⟨w,h1,(Den.map Qv Qw Qx _ _ h2).Lo fun _ _=>Own.L0⟩
 ·by_cases hj:j=i
  ·subst hj;rw[Ou OW]at h;cases h
  ·rw[NK (Ne.symm hj)]at h;obtain⟨b,ws,h1,h2,h3,h4⟩:=r.own j x h;have LV:b≠a:=fun e=>hj (r.inj j i a (by rw[<- e];exact h1) oa)
   exact⟨b,ws,by show(if j=i then none else W.O j)=_;rw[K3 hj];exact h1,h2,by rw[av LV];exact h3,h4.map (fun _ _ q=>fw q) (Yz _)⟩
 ·have LS:(if j=i then none else W.O j)=some b:=h1;have Oq:(if k=i then none else W.O k)=some b:=h2;by_cases e1:j=i
  ·rw[K4 e1]at LS;cases LS
  ·by_cases e2:k=i
   ·rw[K4 e2]at Oq;cases Oq
   ·rw[K3 e1]at LS;rw[K3 e2]at Oq;exact r.inj j k b LS Oq
 ·have LS:(if j=i then none else W.O j)=some b:=h1;by_cases e1:j=i
  ·rw[K4 e1]at LS;cases LS
  ·rw[K3 e1]at LS;obtain⟨k1,k2,ws,k3,k4⟩:=r.kn j b LS;have LV:b≠a:=fun e=>e1 (r.inj j i a (by rw[<- e];exact LS) oa)
   exact⟨k1,k2,ws,by rw[av LV];exact k3,k4⟩
 ·have LS:(if j=i then none else W.O j)=some b:=h1;by_cases e1:j=i
  ·rw[K4 e1]at LS;cases LS
  ·rw[K3 e1]at LS;exact r.ke j b LS
def C7(i:Nat)(t:DS):DS:=fun E ρ=>∃(ks:yaf) (ds:yar),ds.length=ks.length/\ρ[i]?=some (some (.ob (.dk ((ks.map Sum.inl).zip ds))))/\t E (ρ.set i (some (.val (.Ob ks ds))))
def xx(i:Nat)(h:cG X Xh t):cG X Xh (C7 i t):=by intro pins s σ H W ρ E I r hq;obtain⟨ks,ds,hl,e,hq⟩:=hq;obtain⟨a,kws,ha,k⟩:=r.Tz hl e;obtain⟨z,hd,vs,rel,dd⟩:=EN I.Lu ha;have VR:=dd;obtain⟨o,_,_,ho,_⟩:=VR;obtain⟨r',f⟩:=k o;have I':Inv X pins σ (L2.upd H a (.frz o (.dK kws))) s:=sx (ob:=.frz o (.dK kws)) (h':=s.heap) (t':=s.toks) I (by rw[ha];exact True.intro) (Heap.SameBut.refl _ _) ⟨o,ho⟩ ⟨ho,z,hd,vs,rel,dd⟩;exact Lj (h pins s σ _ (W.drop i) _ E I' r' hq) fun _ _ z=>z.up f
def Hy(ta tb:DE):DE:=fun ρ Q=>ta ρ fun x=>tb ρ fun k=>∃(ks:yaf) (ds:yar) (n:Int) (d:D),x=.Ob ks ds/\k=.int n/\ds.length=ks.length/\dq ((ks.map Sum.inl:List Key).zip ds) (.inl n)=some d/\Q d
def HH(hu:X.A.units+1<cLine)(ha:Lx X a ta)(hb:Lx X b tb)(hs:zy b:=by intro _ _;rfl):Lx X (.Subscript a b pos) (Hy ta tb):=by
 refine Lx.of (Gj hu ha.pe hb.pe hs) fun σ H W ρ Q r h=>?_
 refine⟨W,ρ,_,r,h,fun v H1 d e1 hd q=>⟨W,ρ,_,r.same e1,q,fun v2 H2 d2 e2 hd2 q2=>?_⟩⟩;obtain⟨ks,ds,n,d',rfl,rfl,hl,lk,q2⟩:=q2;obtain⟨c,o,kws,vs,ev,hq,ek,lv,LQ⟩:=hd.Ta;have z:=hd2.L9;subst ev z;have m1:((ks.map Sum.inl:List Key).zip ds).map (·.1)=ks.map Sum.inl:=VC (by rw[K8,hl];exact LG _);have m2:((ks.map Sum.inl:List Key).zip ds).map (·.2)=ds:=List.map_snd_zip (by rw[K8,hl];exact LG _);have m3:kws.map (·.1)=ks.map Sum.inl:=by rw[ek];exact VC (by rw[K8,lv];exact LG _)
 have m4:kws.map (·.2)=vs:=by rw[ek];exact List.map_snd_zip (by rw[K8,lv];exact LG _)
 obtain⟨v',l',hv'⟩:=sI (kws:=kws) (m3.trans m1.symm) (by rw[m2,m4];exact LQ) lk;exact⟨c,v',rfl,.inl ⟨kws,.inl n,.inr ⟨o,e2 _ _ hq⟩,rfl,l'.symm⟩,e1.trans e2,d',hv'.same e2,q2⟩
def A9(te:DE):DA:=fun ρ Q=>te ρ fun x=>∃(ks:yaf) (ds:yar),x=.Ob ks ds/\ks.length<64/\∀ms:yaf,ms.Perm ks->ms.Pairwise (·<·)->Q (ms.map D.int)
def Df {p:Pos} (hc:X.calm=true) (hg:Gl X "sorted") (hm:X.mg "sorted" = none) (he:Lx X e te)
  (NU:starEach [e] X.env=(false,eval e X.env)::starEach [] X.env:=by rfl) (MH:(backTo pos (starEach [] X.env)).any (·.1)=false:=by rfl) :
  QS X (.Call (.Name "sorted" p) [e] [] pos) (A9 te):=by
 intro pins s σ H W ρ Q I r h;refine TP (df I hg hm boot_sorted ?_ (by decide) (by decide));refine PyProof.Rows.callWith_builtin1 ?_ NU MH;rw[NU];show wpAny _ _ (spliced ((false,eval e X.env)::backTo pos (starEach [] X.env))) _ _ s;refine Calls.spliced_cons (Lj (he pins s σ H W ρ _ I r h) fun u s1 ⟨v,H1,d,I1,rv,e1,hd,ks,ds,ed,lk,q⟩=>?_);subst ed;obtain⟨c,o,kws,vs,ev,hq,ek,lv,LQ⟩:=hd.Ta;subst ev;cases rv;refine Le ?_;have hh:=I1.ok.hd hc;obtain⟨_,z,hsm,us,rel,dd⟩:=I1.Lu c _ hq;have m3:kws.map (·.1)=ks.map Sum.inl:=by rw[ek];exact VC (by rw[K8,lv];exact LG _)
 refine SW.w8 hh hsm dd (by rw[<- rel.keys];exact m3) lk fun h1 tk s' out ms c2 kp Sb g1 g2 g3 hio pm sm hD=>?_
 have es:s'={s1 with heap:=s'.heap,toks:=s'.toks}:=by cases s';dsimp only at g1 g2 g3 ⊢;subst g1 g2 g3;rfl
 have I2:L2.Inv X pins σ H1 {s1 with heap:=h1,toks:=tk}:=I1.kept kp;have nD:H1 h1.objs.size=none:=I2.Lu.fresh (LG _);have lm:=pm.length_eq;have I3:L2.Inv X pins σ (L2.upd H1 h1.objs.size (.lst (ms.map V.int))) s':=by rw[es];exact I2.laid (t':=s'.toks) (h':=s'.heap) Sb (LG _) ⟨by rw[K8,sizeLine_eq];lia,out,c2,iQ hio,hD⟩
 have kn:=Inv.Xz I3 aH;exact⟨h1.objs.size,_,_,_,rfl,I3,e1.trans (ar.upd nD),e1.free nD,kn,aH,ag.apart nD kn (qR ms),q ms pm sm⟩
end
end PD
namespace PZ
open PySem PySem.Spec PyProof.Rows
def Vf (h:Heap) (z TI TO a:Addr) (f:Bool):Prop:=h.get? z=some {cls:=.type "zip", dict:=none,data:=.fields #[rawInt a,.bool f,.bool false,.ref TI,.ref TO],slots:=#[]}
section
variable{prog:Program}{w:World}{A:Around}{E:yaa}{s:Shared}{k1 k2:Bool}{z TI TO i1 i2 l1 l2 a:Addr}{f:Bool}{i:Nat}{xs ys:yan}{oa:Obj}
def wc{Q:Bool->Shared->Prop}(hz:Vf s.heap z TI TO a f)(ha:s.heap.get? a=some oa)(h:∀g,Vf g z TI TO a true->Heap.SameBut z s.heap g->Q false {s with heap:=g}):wpAny (model prog w) A (Builtin.SmallTypes.ownedTupleIsFree (.ref z)) Q E s:=by
 unfold Builtin.SmallTypes.ownedTupleIsFree;refine K1 (Oy hz rfl (x:=rawInt a) rfl ?_);show wpAny _ _ (loadIfAlive ((a:Int).toNat) >>= _) _ _ _;rw[Uz];refine K1 (PySem.W.kdx_alive ha ?_);simp only[Option.isNone_some,NN,if_false];refine K1 (Oy hz rfl (x:=.bool f) rfl ?_);cases f with
 |true=>rw[K3 (show¬(Value.bool true != Value.bool true)=true by decide)];exact Le (h s.heap hz (Heap.SameBut.refl _ _))
 |false=>rw[K4 (show(Value.bool false != Value.bool true)=true from rfl)];exact K1 (Uy hz (by simp) fun g (zg:Vf g z TI TO a true) b=>Le (h g zg b))
def CC{x y:Value}{Q:yam->Shared->Prop}(D:Ap z TI TO i1 i2)(D1:Out z TO i1 i2 l1)(D2:Out z TO i1 i2 l2)(hz:Vf s.heap z TI TO a f)(ha:s.heap.get? a=some oa)(O1:IsPair s.heap TI (.ref i1) (.ref i2))(h1:NZ k1 s.heap i1 l1 i)(h2:NZ k2 s.heap i2 l2 i)
  (q1:Ni k1 s.heap l1 xs) (q2:Ni k2 s.heap l2 ys) (hx:xs[i]?=some x) (hy:ys[i]?=some y)
  (hQ:∀h',Vf h' z TI TO a true->IsPair h' TI (.ref i1) (.ref i2)->NZ k1 h' i1 l1 (i+1)->NZ k2 h' i2 l2 (i+1)->IsPair h' s.heap.objs.size x y->(∀c o,c≠z->c≠i1->c≠i2->s.heap.get? c=some o->h'.get? c=some o)->Q (some (.ref s.heap.objs.size)) {s with heap:=h'}):wpAny (model prog w) A (pyNext (.ref z)) Q E s:=by
 have hT:s.TypeIs (.ref z) "zip" := ⟨_,hz,rfl⟩;unfold pyNext;refine K1 (T1 (SJ (name:=Str.ofString "__next__") hT F.slot_zip_next (Q0 F.slot_zip_next hT F.entry_zip_next ?_ (F.args_zip_next_1 _))));show wpAny _ _ (field (.ref z) 2 >>= _) _ _ _;refine K1 (Oy hz rfl (x:=.bool false) rfl ?_);show wpAny _ _ (field (.ref z) 3 >>= _) _ _ _;refine K1 (Oy hz rfl (x:=.ref TI) rfl (K1 (Q2 O1 rfl ?_)));show wpAny _ _ (Builtin.SmallTypes.ownedTupleIsFree (.ref z) >>= _) _ _ _;refine K1 (wc hz ha fun g1 z1 b1=>?_);simp only[NN,if_false];rw[<- Yo];simp only[List.forIn_cons,List.forIn_nil];have u1:∀c o,c≠z->s.heap.get? c=some o->g1.get? c=some o:=fun c o n e=>b1.extBut c o n e
 refine K1 (K1 (K1 (OR ?_)));show wpAny _ _ (Builtin.SmallTypes.nextOf (.ref i1) >>= _) _ _ _;refine K1 (ro (s:={s with heap:=g1}) (h1.of fun o e=>u1 _ o D.a3 e) (q1.of fun o e=>u1 _ o D1.c1 e) hx fun g2 n2 b2=>Le (Le ?_));have u2:∀c o,c≠z->c≠i1->s.heap.get? c=some o->g2.get? c=some o:=fun c o n m e=>b2.extBut c o m (u1 c o n e)
 refine K1 (K1 (OR ?_));show wpAny _ _ (Builtin.SmallTypes.nextOf (.ref i2) >>= _) _ _ _;refine K1 (ro (s:={s with heap:=g2}) (h2.of fun o e=>u2 _ o D.a4 (Ne.symm D.b1) e) (q2.of fun o e=>u2 _ o D2.c1 D2.c3 e) hy fun g3 n3 b3=>Le (Le ?_));refine Le ?_;show wpAny _ _ (newTuple [x,y] >>= _) _ _ _;have sz:g3.objs.size=s.heap.objs.size:=by rw[b3.1,b2.1,b1.1]
 have u3:∀c o,c≠z->c≠i1->c≠i2->s.heap.get? c=some o->g3.get? c=some o:=fun c o n m k e=>b3.extBut c o k (u2 c o n m e)
 refine K1 (wpAny_newTuple (Le ⟨_,rfl,Le ?_⟩));show Q (some (.ref g3.objs.size)) _;rw[sz];refine hQ _ ?_ ?_ (n2.of fun o e=>?_) (n3.of fun o e=>?_) ?_ fun c o n m k e=>?_
 ·exact Mb _ (b3.extBut _ _ (Ne.symm D.a4) (b2.extBut _ _ (Ne.symm D.a3) z1))
 ·exact Mb _ (u3 _ _ D.a1 D.a6 D.a7 O1)
 ·exact Mb _ (b3.extBut _ _ D.b1 e)
 ·exact Mb _ e
 ·rw[<- sz];exact Nw _ rfl
 ·exact Mb _ (u3 c o n m k e)
def CF{Q:yam->Shared->Prop}(hh:A.handled=none)(D:Ap z TI TO i1 i2)(D1:Out z TO i1 i2 l1)(hz:Vf s.heap z TI TO a f)(ha:s.heap.get? a=some oa)(O1:IsPair s.heap TI (.ref i1) (.ref i2))(h1:NZ k1 s.heap i1 l1 i)(q1:Ni k1 s.heap l1 xs)(hx:xs[i]?=none)
  (hQ:∀h',(∀c o,c≠z->c≠i1->s.heap.get? c=some o->h'.get? c=some o)->Q none {s with heap:=h'}):wpAny (model prog w) A (pyNext (.ref z)) Q E s:=by
 have hT:s.TypeIs (.ref z) "zip" := ⟨_,hz,rfl⟩;unfold pyNext;refine K1 (T1 (SJ (name:=Str.ofString "__next__") hT F.slot_zip_next (Q0 F.slot_zip_next hT F.entry_zip_next ?_ (F.args_zip_next_1 _))));show wpAny _ _ (field (.ref z) 2 >>= _) _ _ _;refine K1 (Oy hz rfl (x:=.bool false) rfl ?_);show wpAny _ _ (field (.ref z) 3 >>= _) _ _ _;refine K1 (Oy hz rfl (x:=.ref TI) rfl (K1 (Q2 O1 rfl ?_)));show wpAny _ _ (Builtin.SmallTypes.ownedTupleIsFree (.ref z) >>= _) _ _ _;refine K1 (wc hz ha fun g1 z1 b1=>?_);simp only[NN,if_false];rw[<- Yo];simp only[List.forIn_cons,List.forIn_nil];have u1:∀c o,c≠z->s.heap.get? c=some o->g1.get? c=some o:=fun c o n e=>b1.extBut c o n e
 refine K1 (K1 (K1 (OR ?_)));show wpAny _ _ (Builtin.SmallTypes.nextOf (.ref i1) >>= _) _ _ _;refine K1 (Ae (s:={s with heap:=g1}) hh (h1.of fun o e=>u1 _ o D.a3 e) (q1.of fun o e=>u1 _ o D1.c1 e) hx fun g2 e b2 he=>?_);obtain⟨oe,ho,hc⟩:=he;exact K1 (UD (T := "StopIteration") (b:=true) ⟨oe,ho,hc⟩ isSubtype_stop (Le (hQ g2 fun c o n m q=>b2 c o m (u1 c o n q))))
def ZL(k1 k2:Bool)(z TI TO i1 i2 l1 l2 S:Addr)(i:Nat)(h:Heap):Prop:=(i=0/\Uh k1 k2 z TI TO i1 i2 l1 l2 0 h)∨((∃a f oa,Vf h z TI TO a f/\h.get? a=some oa/\a≠S/\a≠z/\a≠TO/\a≠i1/\a≠i2)/\IsPair h TI (.ref i1) (.ref i2)/\NZ k1 h i1 l1 i/\NZ k2 h i2 l2 i)
def ZL.keep{h':Heap}(x:ZL k1 k2 z TI TO i1 i2 l1 l2 S i h)(n1:z≠S)(n2:TI≠S)(n3:TO≠S)(n4:i1≠S)(n5:i2≠S)(kp:∀b o,b≠S->h.get? b=some o->h'.get? b=some o):ZL k1 k2 z TI TO i1 i2 l1 l2 S i h':=by
 rcases x with⟨e,Z⟩| ⟨⟨a,f,oa,m1,m2,m3,m4⟩,m5,m6,m7⟩
 ·obtain⟨hz,O1,⟨a,b,QB⟩,h1,h2⟩:=Z;exact .inl ⟨e,kp _ _ n1 hz,kp _ _ n2 O1,⟨a,b,kp _ _ n3 QB⟩,h1.of fun o q=>kp _ o n4 q,h2.of fun o q=>kp _ o n5 q⟩
 ·exact .inr ⟨⟨a,f,oa,kp _ _ n1 m1,kp _ _ m3 m2,m3,m4⟩,kp _ _ n2 m5,m6.of fun o q=>kp _ o n4 q,m7.of fun o q=>kp _ o n5 q⟩
def ZL.item{x y:Value}{Q:yam->Shared->Prop}(D:Ap z TI TO i1 i2)(D1:Out z TO i1 i2 l1)(D2:Out z TO i1 i2 l2)(Z:ZL k1 k2 z TI TO i1 i2 l1 l2 S i s.heap)(hS:S<s.heap.objs.size)(hb:z<s.heap.objs.size/\TO<s.heap.objs.size/\i1<s.heap.objs.size/\i2<s.heap.objs.size)(q1:Ni k1 s.heap l1 xs)(q2:Ni k2 s.heap l2 ys)(hx:xs[i]?=some x)(hy:ys[i]?=some y)
  (hQ:∀h',ZL k1 k2 z TI TO i1 i2 l1 l2 S (i+1) h'->IsPair h' s.heap.objs.size x y->(∀c o,c≠z->c≠TO->c≠i1->c≠i2->s.heap.get? c=some o->h'.get? c=some o)->Q (some (.ref s.heap.objs.size)) {s with heap:=h'}):wpAny (model prog w) A (pyNext (.ref z)) Q E s:=by
 obtain⟨b1,b2,b3,b4⟩:=hb;rcases Z with⟨rfl,Z⟩| ⟨⟨a,f,oa,m1,m2,m3,m4,m5,m6,m7⟩,m8,m9,m10⟩
 ·refine E3 D D1 D2 Z q1 q2 hx hy fun h' e1 e2 _ e4 e5 e6 kp=>hQ h' (.inr ⟨⟨s.heap.objs.size,false,_,e1,e6,Qe hS,Qe b1,Qe b2,Qe b3,Qe b4⟩,e2,e4,e5⟩) e6 kp
 ·refine CC D D1 D2 m1 m2 m8 m9 m10 q1 q2 hx hy fun h' e1 e2 e3 e4 e5 kp=>hQ h' (.inr ⟨⟨a,true,oa,e1,kp a oa m4 m6 m7 m2,m3,m4,m5,m6,m7⟩,e2,e3,e4⟩) e5 fun c o n1 _ n3 n4 e=>kp c o n1 n3 n4 e
def ZL.stop{Q:yam->Shared->Prop}(hh:A.handled=none)(D:Ap z TI TO i1 i2)(D1:Out z TO i1 i2 l1)(D2:Out z TO i1 i2 l2)(Z:ZL k1 k2 z TI TO i1 i2 l1 l2 S i s.heap)(q1:Ni k1 s.heap l1 xs)(q2:Ni k2 s.heap l2 ys)(hx:xs[i]?=none)
  (hQ:∀h',(∀c o,c≠z->c≠TO->c≠i1->c≠i2->s.heap.get? c=some o->h'.get? c=some o)->Q none {s with heap:=h'}):wpAny (model prog w) A (pyNext (.ref z)) Q E s:=by
 rcases Z with⟨rfl,Z⟩| ⟨⟨a,f,oa,m1,m2,m3,m4,m5,m6,m7⟩,m8,m9,m10⟩
 ·exact E4 hh D D1 D2 Z q1 q2 (.inl hx) hQ
 ·exact CF hh D D1 m1 m2 m8 m9 q1 hx fun h' kp=>hQ h' fun c o n1 _ n3 _ e=>kp c o n1 n3 e
end
structure ZT(h:Heap)(xs ys:yan)(B:Addr)(as:yae):Prop where
 nd:as.Nodup
 ab:∀a∈as,B<=a
 pr:∀(j:Nat) (a:Addr),as[j]?=some a->∃x y,xs[j]?=some x/\ys[j]?=some y/\IsPair h a x y
section
variable{prog:Program}{w:World}{A:Around}{E:yaa}{s:Shared}{k1 k2:Bool}{z TI TO i1 i2 l1 l2 S B:Addr}{xs ys:yan}{R:Result->Shared->Prop}
def Kd(hh:A.handled=none)(D:Ap z TI TO i1 i2)(D1:Out z TO i1 i2 l1)(D2:Out z TO i1 i2 l2)(sB:S<B)(zB:z<B/\TO<B/\i1<B/\i2<B)(n0:z≠S/\TI≠S/\TO≠S/\i1≠S/\i2≠S/\l1≠S/\l2≠S)(hn:xs.size<=sizeLine)(YM:xs.size=ys.size)(res:Value){h0:Heap}
  (hR:∀h' tk acc c as,(∀b o,b≠S->b≠z->b≠TO->b≠i1->b≠i2->h0.get? b=some o->h'.get? b=some o)->h'.get? S=some {cls:=.type "list", dict:=none,data:=.seq acc c,slots:=#[]}->acc.toList=as.map Value.ref->as.length=xs.size->ZT h' xs ys B as->R (.ok (.ret res)) {s with heap:=h',toks:=tk}) :
  ∀ (k i:Nat) (h:Heap) (tk c:Nat) (acc:yan) (as:yae),xs.size - i=k->i<=xs.size->ZL k1 k2 z TI TO i1 i2 l1 l2 S i h->Ni k1 h l1 xs->Ni k2 h l2 ys->B<=h.objs.size->(∀b o,b≠S->b≠z->b≠TO->b≠i1->b≠i2->h0.get? b=some o->h.get? b=some o) →
   h.get? S=some {cls:=.type "list", dict:=none,data:=.seq acc c,slots:=#[]}->acc.toList=as.map Value.ref->as.length=i->ZT h xs ys B as->codeAny (model prog w) A (.builtin "list.extend.loop" ⟨[.ref S,.ref z,res],[]⟩) R {s with heap:=h,toks:=tk}:=by
 obtain⟨n1,n2,n3,n4,n5,n6,n7⟩:=n0;have gz:∀{b c:Addr},c<B->B<=b->b≠c:=fun hc hb=>Qe (M5 hc hb)
 obtain⟨z1,z2,z3,z4⟩:=zB;intro k
 induction k with
 |zero =>
  intro i h tk c acc as hk hi hZ q1 q2 hB kp hS ea la T;refine SQ PySem.F.entry_extend_loop ?_;rw[Around.under_plainId PySem.F.plain_extend_loop _];show wpAny _ A.in1 (pyNext (Value.ref z) >>= _) _ _ _;refine K1 (ZL.stop (s:={s with heap:=h,toks:=tk}) (A:=A.in1) hh D D1 D2 hZ q1 q2 (Wh (by lia)) fun h' up=>?_);have big:∀b,B<=b->∀o,h.get? b=some o->h'.get? b=some o:=fun b hb o e=>up b o (gz z1 hb) (gz z2 hb) (gz z3 hb) (gz z4 hb) e
  exact Le (hR h' tk acc c as (fun b o m1 m2 m3 m4 m5 e=>up b o m2 m3 m4 m5 (kp b o m1 m2 m3 m4 m5 e)) (up S _ (Ne.symm n1) (Ne.symm n3) (Ne.symm n4) (Ne.symm n5) hS) ea (by lia)
   ⟨T.nd,T.ab,fun j b hj=>let ⟨x,y,e1,e2,e3⟩:=T.pr j b hj;⟨x,y,e1,e2,big b (T.ab b (Mz hj)) _ e3⟩⟩)
 |succ k ih =>
  intro i h tk c acc as hk hi hZ q1 q2 hB kp hS ea la T;have lt:i<xs.size:=by lia
  have hx:xs[i]?=some xs[i]:=Qa lt;have hy:ys[i]?=some ys[i]:=Qa (by lia);have sz:acc.size=i:=by rw[<- NV,ea,K8,la]
  refine SQ PySem.F.entry_extend_loop ?_;rw[Around.under_plainId PySem.F.plain_extend_loop _];show wpAny _ A.in1 (pyNext (Value.ref z) >>= _) _ _ _;refine K1 (ZL.item (s:={s with heap:=h,toks:=tk}) (S:=S) D D1 D2 hZ (M5 sB hB) ⟨M5 z1 hB,M5 z2 hB,M5 z3 hB,M5 z4 hB⟩ q1 q2 hx hy fun h' hZ' tp up=>?_);dsimp only at tp up ⊢;have XQ:=up S _ (Ne.symm n1) (Ne.symm n3) (Ne.symm n4) (Ne.symm n5) hS;have ap:∀b o,b≠S->h'.get? b=some o->(h'.update S (Obj.mapSeq (·.push (Value.ref h.objs.size)))).get? b=some o:=fun b o m e=>(Rh _ _ (Ne.symm m)).trans e
  have nS:h.objs.size≠S:=Qe (M5 sB hB);have YL:=ap _ _ nS tp;show wpAny _ A.in1 (updateSeq S (·.push (Value.ref h.objs.size)) >>= _) _ _ _;refine K1 (VJ XQ rfl (Le ⟨VM PySem.F.plain_extend_loop _,ih (i+1) _ tk _ (acc.push (Value.ref h.objs.size)) (as++[h.objs.size]) (by lia) lt (hZ'.keep n1 n2 n3 n4 n5 ap) (q1.of fun o e=>ap _ o n6 (up _ o D1.c1 D1.c2 D1.c3 D1.c4 e)) (q2.of fun o e=>ap _ o n7 (up _ o D2.c1 D2.c2 D2.c3 D2.c4 e)) ?_
   (fun b o m1 m2 m3 m4 m5 e=>ap b o m1 (up b o m2 m3 m4 m5 (kp b o m1 m2 m3 m4 m5 e))) (RC _ XQ rfl) (by rw[Array.toList_push,ea,M6];rfl) (by rw[MG,la];rfl) ⟨?_,fun b hb=>?_,fun j b hj=>?_⟩⟩) (by rw[sz];lia) (by show(acc.push (Value.ref h.objs.size)).size<=sizeLine+1;rw[Array.size_push,sz];lia))
  ·exact QK (Ux hB (LK YL))
  ·refine List.nodup_append.mpr ⟨T.nd,by simp,fun b hb c hc=>?_⟩;obtain⟨j,hj⟩:=Yk hb;obtain⟨_,_,_,_,e⟩:=T.pr j b hj;rw[M4.mp hc];exact Ms (LK e)
  ·rcases Mc.mp hb with hb|hb
   ·exact T.ab b hb
   ·rw[M4.mp hb];exact hB
  ·rcases VA j as.length with c1|c1|c1
   ·rw[Qh c1]at hj;obtain⟨x,y,e1,e2,e3⟩:=T.pr j b hj;have lb:=T.ab b (Mz hj);exact⟨x,y,e1,e2,ap b _ (gz sB lb) (up b _ (gz z1 lb) (gz z2 lb) (gz z3 lb) (gz z4 lb) e3)⟩
   ·subst c1;have e:h.objs.size=b:=by simpa using hj
    subst e;exact⟨xs[i],ys[i],by rw[la];exact hx,by rw[la];exact hy,YL⟩
   ·rw[RD (by rw[MG,Sn];lia)]at hj;cases hj
end
def AH:typeLookup (.type "zip") "__len__" = pure none:=by rw[typeLookup_type,Yi];kernel_rfl
def xY:typeLookup (.type "zip") "__length_hint__" = pure none:=by rw[typeLookup_type,Yi];kernel_rfl
section
variable{prog:Program}{w:World}{A:Around}{E:yaa}{s:Shared}{k1 k2:Bool}{z TI TO i1 i2 l1 l2 S B:Addr}{xs ys:yan}
def NZ.lt(x:NZ k h it a i):it<h.objs.size:=let ⟨_,e,_⟩:=x.obj;LK e
def Ni.lt{xs:yan}(x:Ni k h a xs):a<h.objs.size:=let ⟨_,_,e,_⟩:=x.obj;LK e
def G0{R:Result->Shared->Prop}(hh:A.handled=none)(D:Ap z TI TO i1 i2)(D1:Out z TO i1 i2 l1)(D2:Out z TO i1 i2 l2)(Z:Uh k1 k2 z TI TO i1 i2 l1 l2 0 s.heap)(q1:Ni k1 s.heap l1 xs)(q2:Ni k2 s.heap l2 ys)(hn:xs.size<=sizeLine)(YM:xs.size=ys.size)(sB:S<B)(hB:B<=s.heap.objs.size)(zB:z<B/\TO<B/\i1<B/\i2<B)
  (n0:z≠S/\TI≠S/\TO≠S/\i1≠S/\i2≠S/\l1≠S/\l2≠S) (c0:Nat) (hS:s.heap.get? S=some {cls:=.type "list", data:=.seq #[] c0})
  (hR:∀h' tk acc c as,(∀b o,b≠S->b≠z->b≠TO->b≠i1->b≠i2->s.heap.get? b=some o->h'.get? b=some o)->h'.get? S=some {cls:=.type "list", dict:=none,data:=.seq acc c,slots:=#[]}->acc.toList=as.map Value.ref->as.length=xs.size->ZT h' xs ys B as->R (.ok (.ret .none)) {s with heap:=h',toks:=tk}) :
  wpAny (model prog w) A.in1 (Builtin.List.listExtendWith (.ref S) (.ref z) .none) (fun fin s'=>match fin with|.done f=>R (.ok f) s'|.again c'=>c'.quiet=true/\codeAny (model prog w) A c' R s') (fun e s'=>R (.error e) s') s:=by
 have hz:=Z.z;have hT:s.TypeIs (.ref z) "zip" := ⟨_,hz,rfl⟩;unfold Builtin.List.listExtendWith;refine K1 (wpAny_typeOf (T := "zip") hT ?_);have e1:Builtin.List.listSameRef (.ref S) (.ref z)=false:=by simp[Builtin.List.listSameRef,Ne.symm n0.1]
 simp only[e1,show(Value.type "zip" == Value.type "list")=false by decide,show(Value.type "zip" == Value.type "tuple")=false by decide,Bool.or_false,NN,if_false];refine K1 (wpAny_pyIter_zip hz (K1 (OR ?_)));unfold Builtin.List.listLengthHint;refine K1 (VI hT AH ?_);show wpAny _ A.in1 (specialOf (Value.ref z) (Str.ofString "__length_hint__") >>= _) _ _ _;refine K1 (VI hT xY (Le ?_));show wpAny _ A.in1 (rule "list.extend.makes-room" >>= fun _=>Builtin.List.listTouch (.ref S) >>= fun _=>again (.builtin "list.extend.loop" ⟨[.ref S,.ref z,.none],[]⟩)) _ _ _;refine K1 (wpAny_rule (K1 ?_));show wpAny _ A.in1 (updateSeq S (·.push .none) >>= fun _=>updateSeq S (·.pop)) _ _ _;have g2:=RC (Obj.mapSeq (·.push Value.none)) hS rfl;refine K1 (VJ hS rfl (VJ (hz:=by seq_fits) g2 rfl (Le ⟨VM PySem.F.plain_extend_loop _,?_⟩)));have g3:=RC (Obj.mapSeq (·.pop)) g2 rfl;have kp:∀b o,b≠S->s.heap.get? b=some o->((s.heap.update S (Obj.mapSeq (·.push Value.none))).update S (Obj.mapSeq (·.pop))).get? b=some o:=fun b o m e=>(Rh _ _ (Ne.symm m)).trans ((Rh _ _ (Ne.symm m)).trans e)
 refine Kd (s:=s) (h0:=s.heap) hh D D1 D2 sB zB n0 hn YM .none hR xs.size 0 _ _ _ _ [] (Nat.sub_zero _) (MK _) (ZL.keep (.inl ⟨rfl,Z⟩) n0.1 n0.2.1 n0.2.2.1 n0.2.2.2.1 n0.2.2.2.2.1 kp) (q1.of fun o e=>kp _ o n0.2.2.2.2.2.1 e) (q2.of fun o e=>kp _ o n0.2.2.2.2.2.2 e) ?_ (fun b o m _ _ _ _ e=>kp b o m e) g3 rfl rfl ⟨List.nodup_nil,fun _ h=>(by cases h),fun j a h=>by simp at h⟩;rw[Heap.size_update,Heap.size_update];exact hB
def Kc{Q:yaa}(hh:A.handled=none)(D:Ap z TI TO i1 i2)(D1:Out z TO i1 i2 l1)(D2:Out z TO i1 i2 l2)(Z:Uh k1 k2 z TI TO i1 i2 l1 l2 0 s.heap)(q1:Ni k1 s.heap l1 xs)(q2:Ni k2 s.heap l2 ys)(hn:xs.size<=sizeLine)(YM:xs.size=ys.size)
  (hQ:∀h' tk acc c as,(∀b o,b≠z->b≠TO->b≠i1->b≠i2->s.heap.get? b=some o->h'.get? b=some o)->h'.get? s.heap.objs.size=some {cls:=.type "list", dict:=none,data:=.seq acc c,slots:=#[]}->acc.toList=as.map Value.ref->as.length=xs.size->ZT h' xs ys (s.heap.objs.size+1) as->Q (.ref s.heap.objs.size) {s with heap:=h',toks:=tk}) :
  wpAny (model prog w) A (call (.type "list") [.ref z]) Q E s:=by
 refine callType_codes (Q₁:=fun obj Lh=>obj=.ref s.heap.objs.size/\Lh={s with heap:=s.heap.push {cls:=.type "list", data:=.seq #[]} }) PySem.F.called_list (PySem.F.typeCall_list_1 _) PySem.F.entry_list_init (code_list_new _ ⟨rfl,rfl⟩) fun obj Lh NO=>?_
 obtain⟨rfl,rfl⟩:=NO;have hS:(s.heap.push {cls:=.type "list", data:=.seq #[]}).get? s.heap.objs.size=some {cls:=.type "list", data:=.seq #[]}:=Nw _ rfl;have up:∀b o,s.heap.get? b=some o->(s.heap.push {cls:=.type "list", data:=.seq #[]}).get? b=some o:=fun b o e=>Mb _ e
 have t0:z<s.heap.objs.size/\TI<s.heap.objs.size/\TO<s.heap.objs.size/\i1<s.heap.objs.size/\i2<s.heap.objs.size/\l1<s.heap.objs.size/\l2<s.heap.objs.size:=by obtain⟨hz,O1,⟨_,_,QB⟩,h1,h2⟩:=Z;exact⟨LK hz,LK O1,LK QB,h1.lt,h2.lt,q1.lt,q2.lt⟩
 obtain⟨a1,a2,a3,a4,a5,a6,a7⟩:=t0;have su:∀{b:Addr},b<s.heap.objs.size->b<s.heap.objs.size+1:=fun h=>SM h
 refine⟨⟨_,hS,rfl⟩,PySem.F.args_list_init_2 _ _,?_⟩;show wpAny _ _ (do let old←Builtin.List.listItems (Value.ref s.heap.objs.size);Builtin.List.listUpdate (Value.ref s.heap.objs.size) (fun _=>#[]);letGo old.toList.reverse;Builtin.List.listExtendWith (Value.ref s.heap.objs.size) (.ref z) .none) _ _ _;refine K1 ?_;unfold Builtin.List.listItems;refine K1 (Q2 hS rfl (Le ?_));show wpAny _ _ (updateSeq s.heap.objs.size (fun _=>#[]) >>= fun _=>letGo (#[]:yan).toList.reverse >>= fun _=>Builtin.List.listExtendWith (Value.ref s.heap.objs.size) (.ref z) .none) _ _ _;have g2:=RC (Obj.mapSeq (fun _=>(#[]:yan))) hS rfl;have kp:∀b o,b≠s.heap.objs.size->s.heap.get? b=some o->((s.heap.push {cls:=.type "list", data:=.seq #[]}).update s.heap.objs.size (Obj.mapSeq (fun _=>(#[]:yan)))).get? b=some o:=fun b o m e=>(Rh _ _ (Ne.symm m)).trans (up b o e)
 refine K1 (VJ hS rfl (K1 (wpAny_letGo ?_)));refine G0 (A:=A.in1) (B:=s.heap.objs.size+1) (k1:=k1) (k2:=k2) (TI:=TI) (TO:=TO) (l1:=l1) (l2:=l2) (xs:=xs) (ys:=ys) hh D D1 D2 ?_ (q1.of fun o e=>kp _ o (Ms a6) e) (q2.of fun o e=>kp _ o (Ms a7) e) hn YM (Pf _) ?_ ⟨su a1,su a3,su a4,su a5⟩ ⟨Ms a1,Ms a2,Ms a3,Ms a4,Ms a5,Ms a6,Ms a7⟩ _ g2 fun h' tk acc c as Xy hD ea la T=>?_
 ·obtain⟨hz,O1,⟨a,b,QB⟩,h1,h2⟩:=Z;exact⟨kp _ _ (Ms a1) hz,kp _ _ (Ms a2) O1,⟨a,b,kp _ _ (Ms a3) QB⟩,h1.of fun o e=>kp _ o (Ms a4) e,h2.of fun o e=>kp _ o (Ms a5) e⟩
 ·show _<=((s.heap.push {cls:=.type "list", data:=.seq #[]}).update _ _).objs.size;rw[Heap.size_update,TX];exact LG _
 ·exact⟨rfl,hQ h' tk acc c as (fun b o m1 m2 m3 m4 e=>Xy b o (Ms (LK e)) m1 m2 m3 m4 (kp b o (Ms (LK e)) e)) hD ea la T⟩
end
end PZ
namespace PD
open PySem PySem.Spec PyProof.Rows L2 PZ
def eI(H:Hp)(n:Addr)(N:List (Addr×HO)):Hp:=fun b=>if b<n then H b else(N.find? fun p=>decide (p.1=b)).map (·.2)
def k6{n b:Addr}(h:b<n):eI H n N b=H b:=K4 h
theorem yA{b:Addr}{u:HO}:∀{N:List (Addr×HO)},(N.map (·.1)).Nodup->(b,u)∈N->(N.find? fun p=>decide (p.1=b))=some (b,u)
 |[],_,m=>by cases m
 |p::r,nd,m=>by
  rw[LD,QI]at nd;rw[Sr];rcases Lp.mp m with e|m
  ·rw[<- e,Qk rfl]
  ·rw[Q1 fun e=>nd.1 (by rw[e];exact LR.mpr ⟨_,m,rfl⟩)];exact yA nd.2 m
def yH{n b:Addr}{u:HO}{N:List (Addr×HO)}(nd:(N.map (·.1)).Nodup)(h:n<=b)(m:(b,u)∈N):eI H n N b=some u:=by unfold eI;rw[K3 (SX.mpr h),yA nd m];rfl
def wt{n b:Addr}{u:HO}(h:¬b<n)(e:eI H n N b=some u):(b,u)∈N:=by
 unfold eI at e;rw[K3 h]at e;obtain⟨p,hp,rfl⟩:=QW.mp e;have z:p.1=b:=by simpa using List.find?_some hp
 rw[<- z];exact List.mem_of_find?_eq_some hp
section
variable{X:Cx}{pins:yab}{σ:St}{H:Hp}{s:Shared}
theorem Inv.eI{h':Heap}{t':Nat}{N:List (Addr×HO)}(I:Inv X pins σ H s)(k:∀b u,s.heap.get? b=some u->h'.get? b=some u)(ok:∀b u,(b,u)∈N->bH X.prog X.w (PD.eI H s.heap.objs.size N) h' b u) :
  Inv X pins σ (PD.eI H s.heap.objs.size N) {s with heap:=h',toks:=t'}:=by
 have lt:∀{b u},H b=some u->PD.eI H s.heap.objs.size N b=some u:=fun {b u} e=>by rw[k6 (I.Lu.lt e)];exact e
 refine L2.Inv.un I ⟨fun b ob q _ _ _=>k b ob q,fun b ob q _ _ _=>⟨ob.slots,k b ob q⟩,fun b ob q n _=>by rw[k6 (LK q)];exact n,fun b ob q _=>⟨ob,k b ob q⟩,fun b xs q=>lt q,fun b o u q=>lt q,fun b ps q=>⟨#[],by rw[lt q];simp⟩⟩ fun b u e=>?_
 by_cases h:b<s.heap.objs.size
 ·rw[k6 h]at e;exact(I.Lu b u e).Oz (fun c v _ q=>k c v q) (fun c q=>lt q) fun c xs q=>lt q
 ·exact ok b u (wt h e)
def Cb{N:List (Addr×HO)}(I:Inv X pins σ H s)(nt:∀b u,(b,u)∈N->∀ps,u ≠ .PJ ps):ar H (PD.eI H s.heap.objs.size N):=by
 have lt:∀{b u},H b=some u->PD.eI H s.heap.objs.size N b=some u:=fun {b u} e=>by rw[k6 (I.Lu.lt e)];exact e
 refine⟨fun b o q _=>lt q,fun b ps q=>⟨#[],by rw[lt q];simp⟩,fun T P ps e=>?_⟩;by_cases h:P<s.heap.objs.size
 ·rw[k6 h]at e;obtain⟨a,b⟩:=T P ps e;exact⟨a,fun pos cv q=>let ⟨c,e1,e2⟩:=b pos cv q;⟨c,e1,lt e2⟩⟩
 ·exact absurd rfl (nt P _ (wt h e) ps)
end
theorem ux:∀as:yae,Vals (as.map V.ref) (as.map Value.ref)
 |[]=>.nil
 |_::r=>.cons rfl (ux r)
theorem ag.of_get{K:yac}{P:yak}{H:Hp}:∀{ds:yar} {vs:yaq},ds.length=vs.length->(∀(j:Nat) d v,ds[j]?=some d->vs[j]?=some v->Den K P H d v)->ag K P H ds vs
 |[],[],_,_=>ag.nil
 |d::ds,v::vs,h,k=>ag.cons (k 0 d v rfl rfl) (ag.of_get (Nat.succ.inj h) fun j d' v' h1 h2=>k (j+1) d' v' h1 h2)
section
variable{X:Cx}{pos:Pos}
def vI(ta:DA):DA:=fun ρ R=>ta ρ fun ds=>∃d1 d2 k1 k2 xs ys,ds=[d1,d2]/\fx d1=some (k1,xs)/\fx d2=some (k2,ys)/\xs.length=ys.length/\xs.length<=1000/\R (List.zipWith (fun x y=>D.tup [x,y]) xs ys)
def zQ {a b:Expr} {ta:DA} {p p2 N1:Pos} (hc:X.calm=true) (hg:Gl X "list") (hm:X.mg "list" = none) (hg2:Gl X "zip") (hm2:X.mg "zip" = none) (ha:PN X [a,b] ta)
  (NU:starEach [.Call (.Name "zip" p2) [a,b] [] N1] X.env=(false,eval (.Call (.Name "zip" p2) [a,b] [] N1) X.env)::starEach [] X.env:=by rfl) (MH:(backTo pos (starEach [] X.env)).any (·.1)=false:=by rfl)
  (hs:starEach [a,b] X.env=(false,eval a X.env)::starEach [b] X.env:=by rfl) (RT:(backTo N1 (starEach [b] X.env)).any (·.1)=false:=by rfl) :
  QS X (.Call (.Name "list" p) [.Call (.Name "zip" p2) [a,b] [] N1] [] pos) (vI ta):=by
 intro pins s σ H W ρ Q I r h;refine TP (df I hg hm boot_list ?_ (by decide) (by decide));refine PyProof.Rows.callWith_type1 ?_ NU MH;rw[NU];show wpAny _ _ (spliced ((false,eval (.Call (.Name "zip" p2) [a,b] [] N1) X.env)::backTo pos (starEach [] X.env))) _ _ s;refine Calls.spliced_cons ?_;refine Call_ (df I hg2 hm2 boot_zip (PyProof.Rows.callWith_type1 (Lj (ha N1 pins s σ H W ρ _ I r h) fun us s1 ⟨vs,H1,ds,I1,r1,e1,hd,q1⟩=>?_) hs RT));obtain⟨d1,d2,k1,k2,xs,ys,e,g1,g2,lxy,l1000,q⟩:=q1;subst e;obtain⟨v1,v2,rfl,Qs,hd2⟩:=qQ hd;obtain⟨l1,Sy,e2,ZW,V0,_⟩:=Qs.seq g1;obtain⟨l2,Sz,e3,ZX,V1,_⟩:=hd2.seq g2;subst e2 e3;cases r1 with
 |cons ra rr =>
  cases rr with
  |cons rb rr =>
   cases rr;cases ra;cases rb;obtain⟨us1,rv1,p1⟩:=ZW.list I1;obtain⟨us2,rv2,p2⟩:=ZX.list I1;have n1:=V0.len;have n2:=V1.len;have m1:=rv1.length;have m2:=rv2.length;refine E2 p1 p2 fun h' Z kp=>?_
   refine Le ?_;have Dz:Ap (s1.heap.objs.size+4) (s1.heap.objs.size+2) (s1.heap.objs.size+3) s1.heap.objs.size (s1.heap.objs.size+1):=by constructor<;>simp
   have ne:∀{c:Addr} (j:Nat),c<s1.heap.objs.size->c≠s1.heap.objs.size+j:=fun j h=>Ms (M5 h (TV _ j))
   have O:∀{l:Addr},l<s1.heap.objs.size->Out (s1.heap.objs.size+4) (s1.heap.objs.size+3) s1.heap.objs.size (s1.heap.objs.size+1) l:=fun h=>⟨ne 4 h,ne 3 h,Ms h,ne 1 h⟩
   refine Kc (s:={s1 with heap:=h'}) (I1.ok.hd hc) Dz (O p1.lt) (O p2.lt) Z (p1.of fun o e=>kp _ o e) (p2.of fun o e=>kp _ o e) (by rw[M3,sizeLine_eq];lia) (by rw[M3,M3];lia) fun h2 tk acc c as NL hD ea la T=>?_
   have K:∀b o,s1.heap.get? b=some o->h2.get? b=some o:=fun b o e=>NL b o (ne 4 (LK e)) (ne 3 (LK e)) (Ms (LK e)) (ne 1 (LK e)) (kp b o e)
   have zl:s1.heap.objs.size<h'.objs.size:=Ux (TV _ 4) (LK Z.z);dsimp only at hD T;rw[M3]at la;have nD:h'.objs.size∉as:=fun z=>absurd (T.ab _ z) (Nat.not_le.mpr (Pf _))
   let N:List (Addr×HO):=(h'.objs.size,.lst (as.map V.ref))::(as.zip (Sy.zip Sz)).map fun t=>(t.1,.tup [t.2.1,t.2.2])
   have hN:N.map (·.1)=h'.objs.size::as:=by show h'.objs.size::((as.zip (Sy.zip Sz)).map fun t=>(t.1,HO.tup [t.2.1,t.2.2])).map (·.1)=_;rw[MJ];congr 1;exact VC (by rw[VH];lia)
   have ndN:(N.map (·.1)).Nodup:=by rw[hN];exact QI.mpr ⟨nD,T.nd⟩
   have get:∀{j:Nat} {b:Addr},as[j]?=some b->∃w1 w2 x y,Sy[j]?=some w1/\Sz[j]?=some w2/\RelV w1 x/\RelV w2 y/\IsPair h2 b x y/\(b,HO.tup [w1,w2])∈N:=fun {j b} hj=>by obtain⟨lj,_⟩:=L6.mp hj;obtain⟨x,y,hx,hy,hp⟩:=T.pr j b hj;have g1:Sy[j]?=some (Sy[j]'(by lia)):=LM _;have g2:Sz[j]?=some (Sz[j]'(by lia)):=LM _;obtain⟨x',ex,rx⟩:=rv1.get g1;obtain⟨y',ey,ry⟩:=rv2.get g2;rw[List.getElem?_toArray,ex]at hx;rw[List.getElem?_toArray,ey]at hy;cases hx;cases hy;refine⟨_,_,x,y,g1,g2,rx,ry,hp,L8 _ (LR.mpr ⟨(b,Sy[j]'(by lia),Sz[j]'(by lia)),?_,rfl⟩)⟩;refine Mz (i:=j) ?_;rw[Ya];exact⟨hj,by rw[Ya];exact⟨g1,g2⟩⟩
   have ok:∀b u,(b,u)∈N->bH X.prog X.w (PD.eI H1 s1.heap.objs.size N) h2 b u:=fun b u m=>by
    rcases Lp.mp m with e|m
    ·cases e;exact⟨by rw[K8,sizeLine_eq];lia,as.map Value.ref,c,ux as,by rw[<- ea];simpa using hD⟩
    ·obtain⟨t,tm,e⟩:=LR.mp m;cases e;obtain⟨j,hj⟩:=Yk tm;rw[Ya]at hj;obtain⟨w1,w2,x,y,e1,e2,rx,ry,hp,_⟩:=get hj.1;have h3:=hj.2;rw[Ya,e1,e2]at h3;obtain⟨z1,z2⟩:=h3;cases z1;cases z2;exact⟨by rw[sizeLine_eq];show 2<=16777216;decide,[x,y],.cons rx (.cons ry .nil),⟨_,hp,rfl,_,rfl⟩⟩
   have I2:Inv X pins σ (PD.eI H1 s1.heap.objs.size N) {s1 with heap:=h2,toks:=tk}:=Inv.eI I1 K ok;have sm:ar H1 (PD.eI H1 s1.heap.objs.size N):=Cb I1 fun b u m ps e=>by
    rcases Lp.mp m with z|m
    ·cases z;cases e
    ·obtain⟨t,_,z⟩:=LR.mp m;cases z;cases e
   have eD:PD.eI H1 s1.heap.objs.size N h'.objs.size=some (.lst (as.map V.ref)):=yH ndN (QK zl) Ng;have fD:H1 h'.objs.size=none:=I1.Lu.fresh (QK zl);refine⟨h'.objs.size,_,_,_,rfl,I2,e1.trans sm,e1.free fD,Inv.Xz I2 eD,eD,ag.of_get (by rw[List.length_zipWith,K8];lia) fun j d v hdj hvj=>?_,q⟩;rw[LZ]at hvj;obtain⟨b,hb,rfl⟩:=QW.mp hvj;obtain⟨w1,w2,x,y,Z9,e2',rx,ry,hp,mN⟩:=get hb;obtain⟨dx,gx,OV⟩:=V0.bC Z9;obtain⟨dy,gy,Qp⟩:=V1.bC e2';rw[List.getElem?_zipWith,gx,gy]at hdj;cases hdj;have hbn:s1.heap.objs.size<=b:=NW (QK (SM zl)) (T.ab b (Mz hb));have P':∀{d:D} {v:V},Den X.K W.bad H1 d v->Den X.K (fun t b=>W.bad t b∨b=h'.objs.size) (PD.eI H1 s1.heap.objs.size N) d v:=fun hq=>Den.map (fun _ _ z=>LO.same sm z) (fun t a' vs' np z=>⟨fun z'=>z'.elim np fun z'=>by
    subst z';rcases z.1 with(z1|⟨o,z1⟩)|⟨o,K9,n,z1,_⟩
    ·rw[fD]at z1;cases z1
    ·rw[fD]at z1;cases z1
    ·exact absurd (Inv.Xz I2 eD) (by rw[z1];simp),z.same sm⟩) (fun a' o' n z=>sm.kp a' o' z n.nt) _ _ hq
   exact Den.tup (LO.of (yH ndN hbn mN)) (ag.cons (P' OV) (ag.one (P' Qp)))
end
open PySem PySem.Spec PyProof.Rows L2
section
variable{X:Cx}{pos:Pos}
def EE(t:DA):DA:=fun ρ Q=>t ρ fun ds=>ds.length<=sizeLine/\Q ds
def Fo(h:PN X es t):QS X (.List es pos) (EE t):=by intro pins s σ H W ρ Q I r hq;refine wpAny_List_spliced (Lj (h pos pins s σ H W ρ _ I r hq) fun us s1 ⟨vs,H1,ds,I1,rv,e1,hd,z,q⟩=>?_);rw[<- hd.len]at z;refine⟨by rw[<- rv.length];exact z,?_⟩;have U4:H1 s1.heap.objs.size=none:=I1.Lu.fresh (LG _);have I2:=I1.laid (o:=.lst vs) (t':=s1.toks) (fun b u e=>Mb _ e) (LG _) ⟨z,us,0,rv,Nw _ rfl⟩;exact⟨s1.heap.objs.size,vs,_,ds,rfl,I2,e1.trans (ar.upd U4),e1.free U4,Inv.MD I1,aH,ag.apart U4 (Inv.MD I1) hd,q⟩
def EC(i:Nat)(tb te:DE):DS:=fun E ρ=>∃xs,ρ[i]?=some (some (.ob (.ll xs)))/\tb ρ fun kd=>∃(k:Int) (m:Nat) (ds:yar),kd=.int k/\ixN xs.length k=some m/\xs[m]?=some (.own ds)/\te ρ fun d=>ds.length<sizeLine/\E.nx (ρ.set i (some (.ob (.ll (xs.set m (.own (ds++[d])))))))
def yw{x:Str}{apos:Pos}(i:Nat)(hb0:Lx X b tb)(he:Lx X e te)(hi:X.N[i]?=some x:=by rfl)(hv:Rt X.env.scope x:=by first|exact Or.inl rfl|exact Or.inr (Or.inl rfl)|exact Or.inr (Or.inr rfl))
  (hd:(x==("__debug__" : Str))=false:=by decide) (Oa:(x==("__classdict__" : Str))=false:=by decide) (XF:zy b:=by intro _ _;rfl)
  (ML:attributeBase (.Subscript (.Name x px) b pp) "append" X.env (eval (.Subscript (.Name x px) b pp) X.env)=eval (.Subscript (.Name x px) b pp) X.env:=by rfl)
  (Qo:((backTo cpos (starEach [e] X.env)).all (fun x=>!x.1) && (backToKw cpos (keywordEach [] X.env)).all (fun x=>x.1.isSome) && decide ([e].length+([]:List Keyword).length+(if([]:List Keyword).isEmpty then 0 else 1)<30))=true:=by rfl)
  (MM:(apos.endLine==cpos.line)=true:=by rfl) (NU:starEach [e] X.env=(false,eval e X.env)::starEach [] X.env:=by rfl) (Nz:(backTo cpos (starEach [] X.env)).any (·.1)=false:=by rfl)
  (hs:swapsWith (.Call (.Attribute (.Subscript (.Name x px) b pp) "append" apos) [e] [] cpos) none pos.line X.env=pure false:=by rfl) :
  NA X (.Expr (.Call (.Attribute (.Subscript (.Name x px) b pp) "append" apos) [e] [] cpos) pos) (EC i tb te):=by
 refine NA.of (oU (pos:=pos) (An PySem.F.plainAttrs_list PySem.F.slot_list_append PySem.F.type_list_append nB (J0 yF (iF hi hv hd Oa) hb0.pe XF) (jF he.pe nE NU) ML Qo MM NU Nz) hs) fun σ H W ρ E r hl h=>?_
 obtain⟨xs,eo,h⟩:=h;obtain⟨a,o,oa,sa,ha,ho⟩:=r.own i _ eo;cases ho with
 |ll LQ =>
 rename_i vs;refine⟨.ref a,sa,W,ρ,_,r,h,fun v1 H1 d1 e1 Qs q1=>?_⟩;obtain⟨k,m,ds,rfl,hm,hx,q1⟩:=q1;have z1:=Qs.L9;subst z1;obtain⟨b',us,vb,ob,hb,QO⟩:=LQ.get hx;rw[OZ]at ob;have hix:Mm vs k=some (.ref b'):=by unfold Mm;rw[LQ.len,hm];exact vb
 refine⟨a,vs,k,.ref b',rfl,rfl,SqL.of (e1 _ _ ha),hix,.inl ⟨rfl,us,SqL.of (e1 _ _ hb)⟩,W,ρ,_,r.same e1,q1,fun v H' d e2 PR q=>?_⟩;obtain⟨z,q⟩:=q;have Tg:=e2 _ _ (e1 _ _ hb);refine⟨b',us,v,rfl,rfl,Tg,by rw[QO.len];exact z,?_⟩;obtain⟨r7,f7⟩:=((r.same e1).same e2).XB eo hx ob Tg (ag.append (QO.same (e1.trans e2)) (ag.one PR));exact⟨W,_,(LC.same (e1.trans e2)).trans f7,r7,q⟩
def uQ:LI->D
 |.own ds=>.lst true ds
 |.val d=>d
def Own.NR(W:Own)(n i:Nat):Own:=⟨W.B,fun j=>if j % n=i then none else W.O j,W.S⟩
def Own.MT{W:Own}{b:Addr}(h:(W.NR n i).O j=some b):¬j % n=i/\W.O j=some b:=by
 have h1:(if j % n=i then none else W.O j)=some b:=h;by_cases z:j % n=i
 ·rw[K4 z]at h1;cases h1
 ·rw[K3 z]at h1;exact⟨z,h1⟩
def Own.Nj{W:Own}(t:Bool)(b:Addr)(z:(W.NR n i).bad t b):W.bad t b:=by
 rcases z with z|⟨j,z⟩| z
 ·exact .inl z
 ·exact .inr (.inl ⟨j,(Own.MT z).2⟩)
 ·exact .inr (.inr z)
theorem LC.NR(W:Own)(H:Hp)(n i:Nat):LC W H (W.NR n i) H:=⟨rfl,rfl,fun _ _ _ h _=>h,fun j a h=>.inl ⟨j,(Own.MT h).2⟩,fun _ ps h=>⟨#[],by rw[h];simp⟩,id⟩
def Rel.TC{i:Nat}(r:Rel X W H σ ρ)(e:ρ[i]?=some (some (.ob (.ll xs)))):Rel X (W.NR σ.length i) H σ (ρ.set i (some (.val (.lst true (xs.map uQ))))):=by
 obtain⟨a,o,oa,sa,ha,ho⟩:=r.own i _ e;cases ho with
 |ll LQ =>
 have il:i<σ.length:=(L6.mp sa).1;have OW:i<ρ.length:=(L6.mp e).1;have im:i % σ.length=i:=NS il;have nb:∀j b t,j % σ.length=i->W.O j=some b->¬(W.NR σ.length i).bad t b:=fun j b t hj oj z=>by
  rcases z with z|⟨l,z⟩| ⟨_,z⟩
  ·exact(r.kn j b oj).2.1.1 z
  ·obtain⟨z1,z2⟩:=Own.MT z;exact z1 (by rw[r.inj l j b z2 oj];exact hj)
  ·exact(r.kn j b oj).2.1.2 z
 have den:∀{k:Nat} {ys:List LI} {ws:yaq},ay X.K W.bad H (W.sub σ.length i) k ys ws->ag X.K (W.NR σ.length i).bad H (ys.map uQ) ws:=by
  intro k ys
  induction ys generalizing k with
  |nil=>intro ws z;simp only[ay]at z;subst z;exact ag.nil
  |cons y ys ih =>
   intro ws z;cases y with
   |own es =>
    simp only[ay]at z;obtain⟨b,us,u,rfl,z1,z2,z3,z4⟩:=z;exact ag.cons (Den.lst (nb _ b true (lJ il) z1) (.new z2 (r.kn _ b z1).1) (z3.Lo Own.Nj)) (ih z4)
   |val d =>
    simp only[ay]at z;obtain⟨v,u,rfl,z1,z2⟩:=z;exact ag.cons (z1.Lo Own.Nj) (ih z2)
 refine⟨fun j d h=>?_,fun j x h=>?_,fun j k b h1 h2=>r.inj j k b (Own.MT h1).2 (Own.MT h2).2,fun j b h=>r.kn j b (Own.MT h).2,fun j b h=>r.ke j b (Own.MT h).2,r.bt,r.st,r.ent,r.tab⟩
 ·by_cases hj:j=i
  ·subst hj;rw[Ou OW]at h;cases h;exact⟨.ref a,sa,Den.lst (nb j a true im oa) (.new ha (r.kn j a oa).1) (den LQ)⟩
  ·rw[NK (Ne.symm hj)]at h;obtain⟨w,h1,h2⟩:=r.val j d h;exact⟨w,h1,h2.Lo Own.Nj⟩
 ·by_cases hj:j=i
  ·subst hj;rw[Ou OW]at h;cases h
  ·rw[NK (Ne.symm hj)]at h;obtain⟨b,ws,h1,h2,h3,h4⟩:=r.own j x h;have jl:j<σ.length:=(L6.mp h2).1;refine⟨b,ws,?_,h2,h3,h4.Lo Own.Nj fun k c q=>?_⟩
   ·show(if j % σ.length=i then none else W.O j)=_;rw[K3 (by rw[NS jl];exact hj)];exact h1
   ·show(if Nt σ.length j k % σ.length=i then none else W.O (Nt σ.length j k))=_;rw[K3 (by rw[lJ jl];exact hj)];exact q
def vH(i:Nat)(t:DS):DS:=fun E ρ=>∃xs,ρ[i]?=some (some (.ob (.ll xs)))/\t E (ρ.set i (some (.val (.lst true (xs.map uQ)))))
def xy(i:Nat)(h:cG X Xh t):cG X Xh (vH i t):=by intro pins s σ H W ρ E I r hq;obtain⟨xs,e,hq⟩:=hq;exact Lj (h pins s σ H (W.NR σ.length i) _ E I (r.TC e) hq) fun _ _ z=>z.up (LC.NR W H σ.length i)
end
end PD
namespace LW
open PySem PySem.Spec PyProof.Rows L2 PD
seal PD.cG PD.NA PD.Lx PD.PL PD.Tb PD.PN PD.PY PD.Ua PD.sj PD.Tj PD.QS PD.PKD PD.PPD PD.SD PD.PFL PD.PPK PD.PEK
local macro_rules | `(tactic| walk_at "sc") => `(tactic| exact ⟨rfl, rfl, rfl, by decide +kernel, rfl, by decide +kernel, by decide +kernel⟩)
def top(i:Nat):Stmt:=PySem.Challenge.pw_halvecut_k43_whole_three_by_three.main.body.getD i (.Pass ⟨0,0,0,0⟩)
abbrev wY:Stmt:=top 5
abbrev fX:Stmt:=top 6
abbrev mf:Stmt:=top 7
abbrev nN:Stmt:=top 8
abbrev oZ:Stmt:=top 9
abbrev tu:Stmt:=top 11
abbrev wX:Stmt:=top 12
abbrev jW:Stmt:=top 13
abbrev nK:Stmt:=top 14
abbrev qo:Stmt:=top 15
abbrev tj:Stmt:=top 17
abbrev mh:Stmt:=top 18
abbrev tq:Stmt:=top 19
abbrev sW:Stmt:=top 20
abbrev wZ:Stmt:=top 21
abbrev wW:Stmt:=top 22
abbrev nM:Stmt:=top 23
abbrev sZ:Stmt:=top 25
abbrev rH:Stmt:=top 26
abbrev i6:Stmt:=top 27
abbrev l7:Stmt:=top 28
abbrev qp:Stmt:=top 30
abbrev hU:Stmt:=top 31
abbrev fW:Stmt:=top 32
abbrev cT:Stmt:=top 33
abbrev nJ:Stmt:=top 34
abbrev iK:Stmt:=top 36
abbrev gJ:Stmt:=top 38
abbrev kg:Stmt:=top 39
abbrev qn:Stmt:=top 40
abbrev iZ:Stmt:=top 41
abbrev jr:Stmt:=top 42
abbrev rG:Stmt:=top 43
abbrev fk:Stmt:=top 45
abbrev jq:Stmt:=top 46
abbrev eK:Stmt:=top 47
abbrev kG:Stmt:=top 49
abbrev i4:Stmt:=top 50
abbrev i5:Stmt:=top 51
abbrev jV:Stmt:=top 52
abbrev me:Stmt:=top 53
abbrev hW:Stmt:=top 54
abbrev fQ:Stmt:=top 55
abbrev ma:Stmt:=top 56
abbrev kF:Stmt:=top 57
abbrev nL:Stmt:=top 58
abbrev jt:Stmt:=top 59
abbrev l9:Stmt:=top 60
abbrev ju:Stmt:=top 61
abbrev md:Stmt:=top 62
abbrev d8:Stmt:=top 63
def GH:az ["number"] ["number"] (ak wY):=by walk_at "sc"
def c7:az ["one", "other", "rest"] ["one", "other"] (ak fX):=by walk_at "sc"
def kh:az ["numbers", "divisor", "number"] ["numbers"] (ak mf):=by walk_at "sc"
def mi:az ["triple", "lead", "divisor"] ["triple", "lead"] (ak nN):=by walk_at "sc"
def fY:az ["count", "size", "found", "length", "longer", "pick", "first"] ["count", "size"] (ak oZ):=by walk_at "sc"
def Ek:az ["gauge", "place"] ["gauge", "place"] (ak tu):=by walk_at "sc"
def GG:az ["gauge", "place"] ["gauge", "place"] (ak wX):=by walk_at "sc"
def uJ:az ["gauge", "other", "share"] ["gauge", "other", "share"] (ak jW):=by walk_at "sc"
def Ar:az ["one", "other"] ["one", "other"] (ak nK):=by walk_at "sc"
def Cd:az ["place", "way"] ["place", "way"] (ak qo):=by walk_at "sc"
def Ei:az ["by", "x", "y"] ["by", "x", "y"] (ak tj):=by walk_at "sc"
def xT:az ["spot"] ["spot"] (ak mh):=by walk_at "sc"
def Ej:az ["one", "two", "three"] ["one", "two", "three"] (ak tq):=by walk_at "sc"
def Eh:az ["one", "other"] ["one", "other"] (ak sW):=by walk_at "sc"
def GI:az ["one", "other"] ["one", "other"] (ak wZ):=by walk_at "sc"
def GF:az ["way"] ["way"] (ak wW):=by walk_at "sc"
def As:az ["way"] ["way"] (ak nM):=by walk_at "sc"
def qq:az ["places", "kept", "each"] ["places"] (ak sZ):=by walk_at "sc"
def yW:az ["spots", "places"] ["spots"] (ak rH):=by walk_at "sc"
def h8:az ["one", "other", "along", "across"] ["one", "other"] (ak i6):=by walk_at "sc"
def Cc:az ["corners"] ["corners"] (ak l7):=by walk_at "sc"
def Ce:az ["way"] ["way"] (ak qp):=by walk_at "sc"
def rJ:az ["one", "other"] ["one", "other"] (ak hU):=by walk_at "sc"
def pf:az ["one", "other"] ["one", "other"] (ak fW):=by walk_at "sc"
def dW:az ["one", "two", "three", "turns"] ["one", "two", "three"] (ak cT):=by walk_at "sc"
def Aq:az ["ways"] ["ways"] (ak nJ):=by walk_at "sc"
def gL:az ["spots", "place", "ways", "size", "numbers", "shares"] ["spots", "place"] (ak iK):=by walk_at "sc"
def fZ:az ["one", "other", "gauge", "here", "there"] ["one", "other", "gauge"] (ak gJ):=by walk_at "sc"
def gK:az ["corners", "gauge", "kept", "index", "one", "other"] ["corners", "gauge"] (ak kg):=by walk_at "sc"
def nP:az ["corners", "gauges", "gauge"] ["corners", "gauges"] (ak qn):=by walk_at "sc"
def fq:az ["corners", "gauges", "last"] ["corners", "gauges"] (ak iZ):=by walk_at "sc"
def xR:az ["gauges", "numbers", "shares"] ["gauges", "numbers", "shares"] (ak jr):=by walk_at "sc"
def lA:az ["corners", "gauges", "last", "others", "numbers", "shares"] ["corners", "gauges"] (ak rG):=by walk_at "sc"
def d9:az ["lists", "found", "index", "spots"] ["lists"] (ak fk):=by walk_at "sc"
def fG:az ["owned", "shares", "sums", "number", "share", "owner"] ["owned", "shares"] (ak jq):=by walk_at "sc"
def dH:az ["lists", "owned", "gauges", "first", "shared"] ["lists"] (ak eK):=by walk_at "sc"
def w4:az ["_law_found"] ["_law_found"] (ak kG):=by walk_at "sc"
def tw:az ["_law_script", "_law_k"] ["_law_script", "_law_k"] (ak i4):=by walk_at "sc"
def ft:az ["_law_one", "_law_other", "_law_here", "_law_there"] ["_law_one", "_law_other"] (ak i5):=by walk_at "sc"
def bB:az ["_law_cell", "_law_many", "_law_found", "_law_rest", "_law_k", "_law_number", "_law_other"] ["_law_cell", "_law_many"] (ak jV):=by walk_at "sc"
def pK:az ["_law_cell", "_law_kind", "_law_number"] ["_law_cell", "_law_kind"] (ak me):=by walk_at "sc"
def rK:az ["_law_found"] ["_law_found"] (ak hW):=by walk_at "sc"
def tB:az ["_law_found"] ["_law_found"] (ak fQ):=by walk_at "sc"
def bN:az ["_law_part_here", "_law_spots", "_law_here", "_law_k", "_law_right", "_law_above", "_law_part_of_all", "_law_by", "_law_number", "_law_share"] ["_law_part_here", "_law_spots", "_law_here"] (ak ma):=by walk_at "sc"
def jX:az ["_law_found", "_law_sets_here", "_law_part_here", "_law_spots"] ["_law_found", "_law_sets_here"] (ak kF):=by walk_at "sc"
def jv:az ["_law_row_here", "_law_sets_here", "_law_number", "_law_x", "_law_y"] ["_law_row_here", "_law_sets_here"] (ak nL):=by walk_at "sc"
def dP:az ["_law_found", "_law_sets_here", "_law_sums", "_law_last", "_law_row_here"] ["_law_found", "_law_sets_here"] (ak jt):=by walk_at "sc"
def xS:az ["_law_found", "_law_sets_here"] ["_law_found", "_law_sets_here"] (ak l9):=by walk_at "sc"
def bO:az ["_law_script", "_law_first", "_law_many", "_law_kind", "_law_xs", "_law_sets_here", "_law_at", "_law_j", "_law_k"] ["_law_script"] (ak ju):=by walk_at "sc"
def fH:az ["_law_many", "_law_found", "_law_i", "_law_j", "_law_k"] ["_law_many"] (ak md):=by walk_at "sc"
def iL:az ["_law_script", "_law_sets_here", "_law_found", "_law_numbers_here", "_law_named", "_law_alone", "_law_few", "_law_told"] ["_law_script"] (ak d8):=by walk_at "sc"
structure Ma where
 PlaneError:Addr
 NoPlace:Addr
 TooFew:Addr
structure Ml(K:yac)(mg:yal)(κ:Ma):Prop where
 Mg:mg "PlaneError" = some (.ref κ.PlaneError)
 MU:mg "NoPlace" = some (.ref κ.NoPlace)
 Nk:mg "TooFew" = some (.ref κ.TooFew)
def sg(n:Int):Int:=if 0<n then 1 else if n<0 then -1 else 0
def rk(a0 a1 a2 b0 b1 b2:Int):Int:=if sg (a1*b0 - b1*a0)=0 then sg (a2*b0 - b2*a0)else sg (a1*b0 - b1*a0)
def sw(a0 a1 a2 b0 b1 b2 c0 c1 c2:Int):Int:=a0*(b1*c2 - c1*b2)+b0*(c1*a2 - a1*c2)+c0*(a1*b2 - b1*a2)
structure Pl(n:Nat)(a b c:Int):Prop where
 pos:0<a
 low:PM.g3 a b c=1
 b0:Bd n a
 b1:Bd n b
 b2:Bd n c
def je{d k x y z:Int}(h1:d∣k*x)(h2:d∣k*y)(h3:d∣k*z)(hg:PM.g3 x y z=1):d∣k:=by
 have e1:d∣(Int.gcd (k*x) (k*y):Int):=VE h1 h2;rw[Wo]at e1;have e2:d∣k*(Int.gcd x y:Int):=by
  have:((k.natAbs*Int.gcd x y:Nat):Int)∣k*(Int.gcd x y:Int):=by rw[Int.natCast_mul];exact Wt (Int.natAbs_dvd.mpr (Ss _)) (Ss _)
  exact TZ e1 this
 have e3:d∣(Int.gcd (k*(Int.gcd x y:Int)) (k*z):Int):=VE e2 h3;rw[Wo]at e3;have e4:Int.gcd (Int.gcd x y:Int) z=1:=hg;rw[e4,Nat.mul_one]at e3;exact TZ e3 (Int.natAbs_dvd.mpr (Ss _))
abbrev Sp:=Int×Int
abbrev yas:=List (List Sp)
abbrev yat:=List Sp
def Ll(p:Sp):D:=.tup [.int p.1,.int p.2]
def yX(h:Ll p=Ll q):p=q:=by unfold Ll at h;simp only[D.tup.injEq,QY,D.int.injEq,and_true]at h;exact Pj h.1 h.2
theorem iO{α:Type}{f:α->D}(hf:∀{p q},f p=f q->p=q):∀{ps qs:List α},ps.map f=qs.map f->ps=qs
 |[],[],_=>rfl
 |[],_::_,h=>by simp at h
 |_::_,[],h=>by simp at h
 |p::ps,q::qs,h=>by simp only[LD,QY]at h;rw[hf h.1,iO hf h.2]
def yY{ps qs:yat}(h:ps.map Ll=qs.map Ll):ps=qs:=iO yX h
def ir(p:Sp):aL (Ll p)=Ll p:=by unfold Ll;simp only[bV,bq,bD,cV]
def gP(ps:yat):bc (ps.map Ll)=ps.map Ll:=cc Ll ir ps
def L3(p:Sp):D:=.tup [.int 1,.int p.1,.int p.2]
def yO(h:L3 p=L3 q):p=q:=by unfold L3 at h;simp only[D.tup.injEq,QY,D.int.injEq,and_true,true_and]at h;exact Pj h.1 h.2
def Gm{ps qs:yat}(h:ps.map L3=qs.map L3):ps=qs:=iO yO h
def gg(p:Sp):aL (L3 p)=L3 p:=by unfold L3;simp only[bV,bq,bD,cV]
def mE(ps:yat):bc (ps.map L3)=ps.map L3:=cc L3 gg ps
def cr(a b e:Sp):Int:=sw 1 a.1 a.2 1 b.1 b.2 1 e.1 e.2
def cB:yat->Sp->yat
 |b::a::r,e=>if cr a b e<=0 then cB (a::r) e else b::a::r
 |l,_=>l
def bJ:yat->yat->yat
 |acc,[]=>acc
 |acc,e::es=>bJ (e::cB acc e) es
theorem pE(x:Sp):∀(acc done:yat),bJ acc (done++[x])=x::cB (bJ acc done) x
 |acc,[]=>rfl
 |acc,e::es=>by show bJ (e::cB acc e) (es++[x])=_;rw[pE x _ es];rfl
theorem qj:∀(st:yat) (e:Sp),∃pre,st=pre++cB st e
 |[],e=>⟨[],rfl⟩
 |[b],e=>⟨[],rfl⟩
 |b::a::r,e=>by
  unfold cB;split
  ·obtain⟨pre,q⟩:=qj (a::r) e;exact⟨b::pre,by rw[Od,<- q]⟩
  ·exact⟨[],rfl⟩
def D4(st:yat)(e:Sp):(cB st e).length<=st.length:=by
 obtain⟨pre,q⟩:=qj st e;have:=congrArg List.length q;rw[MG]at this
 lia
def AS{α:Type}(xs:List α)(u v:α):Mm (xs++[u]++[v]) (-2)=some u:=by have:=aU (xs:=xs++[u]++[v]) (j:=xs.length) (v:=u) (by simp);unfold Mm at this ⊢;rw[show ixN (xs++[u]++[v]).length (-2)=some xs.length by unfold ixN;simp;lia];simp
def fm{a b:Int}(hb:0<b):0<=a.fmod b/\a.fmod b<b:=⟨Yf a hb,Int.fmod_lt_of_pos a hb⟩
def Uo{n:Nat}{x:Int}(m:Nat)(h:x.natAbs<m)(hm:m<=2 ^ n):Bd n x:=M5 h hm
def p12:((10:Int) ^ (12:Int).toNat)=1000000000000:=by decide
def zK:zd 10 12:=⟨by decide,by decide,by decide⟩
def Ry(p:Sp):yaf:=[p.1,p.2]
def EX(ps:yat):ps.map Ll=(ps.map Ry).map PD.tupI:=by rw[MJ];rfl
def cJ(ys ps:yat):Prop:=ys.Pairwise (fun p q=>p.1<q.1∨(p.1=q.1/\p.2<q.2))/\∀p,p∈ys↔p∈ps
def B7{ps:yat}(h:PD.AQ zs (ps.map Ry)):∃ys:yat,zs=ys.map Ry/\cJ ys ps:=by
 obtain⟨h1,h2⟩:=h;have M7:∀z∈zs,∃p:Sp,z=Ry p:=fun z hz=>by obtain⟨p,_,e⟩:=LR.mp ((h2 z).mp hz);exact⟨p,e.symm⟩
 have ex:∃ys:yat,zs=ys.map Ry:=by
  clear h1 h2
  induction zs with
  |nil=>exact⟨[],rfl⟩
  |cons z zs ih =>
   obtain⟨p,e⟩:=M7 z Ng;obtain⟨ys,e2⟩:=ih fun z hz=>M7 z (L8 _ hz)
   exact⟨p::ys,by rw[e,e2];rfl⟩
 obtain⟨ys,rfl⟩:=ex;have inj:∀{p q:Sp},Ry p=Ry q->p=q:=fun {p q} e=>by unfold Ry at e;simp only[QY,and_true]at e;exact Pj e.1 e.2
 refine⟨ys,rfl,?_,fun p=>?_⟩
 ·refine(List.pairwise_map.mp h1).imp fun {p q} e=>?_
  unfold Ry SW.lexLt at e;split at e
  ·rename_i e1;unfold SW.lexLt at e;split at e
   ·cases e
   ·exact .inr ⟨e1,by simpa using e⟩
  ·exact .inl (by simpa using e)
 ·constructor
  ·intro hp;obtain⟨q,hq,e⟩:=LR.mp ((h2 (Ry p)).mp (LR.mpr ⟨p,hp,rfl⟩));rw[<- inj e];exact hq
  ·intro hp;obtain⟨q,hq,e⟩:=LR.mp ((h2 (Ry p)).mpr (LR.mpr ⟨p,hp,rfl⟩));rw[<- inj e];exact hq
def vD(xs:yar):PD.cutD xs none (some (-1))=xs.dropLast:=by
 unfold PD.cutD;rw[List.dropLast_eq_take];have e0:HT.LP xs.length 0 none=0:=rfl;have e1:HT.LP xs.length xs.length (some (-1))=xs.length - 1:=by
  unfold HT.LP;cases xs with
  |nil=>rfl
  |cons x xs=>simp;lia
 rw[e0,e1];simp
theorem fV:∀(acc ps:yat),(bJ acc ps).length<=acc.length+ps.length
 |acc,[]=>LG _
 |acc,e::es=>by
  have:=fV (e::cB acc e) es;have h2:=D4 acc e;show(bJ (e::cB acc e) es).length<=_;simp at this ⊢
  lia
theorem BI:∀{ys ps:yat},ys.Nodup->(∀p∈ys,p∈ps)->ys.length<=ps.length
 |[],_,_,_=>MK _
 |y::ys,ps,nd,h=>by
  obtain⟨n1,n2⟩:=QI.mp nd;have m:=h y Ng;have r:=BI (ps:=ps.erase y) n2 fun p hp=>(List.mem_erase_of_ne (fun e=>by subst e;exact n1 hp)).mpr (h p (L8 _ hp))
  rw[List.length_erase_of_mem m]at r;have:0<ps.length:=List.length_pos_of_mem m;rw[Oj]
  lia
def qk(h:cJ ys ps):ys.length<=ps.length:=by
 have nd:ys.Nodup:=h.1.imp fun {p q} c e=>by subst e;lia
 exact BI nd fun p hp=>(h.2 p).mp hp
def aI(ys:yat):yat:=(bJ [] ys).reverse
def aO(ys:yat):yat:=if ys.length<2 then ys else(aI ys).dropLast++(aI ys.reverse).dropLast
def vz{α:Type}{wi:DA}{js:yag}{te:DE}{Q:D->Prop}{P:List α->Prop}(f g:α->D)(hw:∀R:yar->Prop,(∀ys,P ys->R (ys.map f))->wi ρ R)(hz:∀ys,P ys->ys.length<=sizeLine)
  (he:∀ys,P ys->∀x∈ys,∀K:D->Prop,K (g x)->te (some (.val (f x))::js.map (bC ρ)) K) (q:∀ys,P ys->Q (.lst true (ys.map g))):oA wi js pU te ρ Q:=by
 refine hw _ fun ys hy=>?_
 have:=PD.comp_map (wi:=fun _ R=>R (ys.map f)) (js:=js) (tc:=pU) (te:=te) (ρ:=ρ) (Q:=Q) ys f (fun _=>true) g (fun R h=>h) (hz ys hy) (fun x hx K k=>k) (fun x hx _ K k=>he ys hy x hx K k) (by rw[Pe.mpr (fun _ _=>rfl)];exact q ys hy);exact this
structure SB(p:Sp):Prop where
 x:Bd 60 p.1
 y:Bd 60 p.2
def fU(p q:Sp):Prop:=p.1<q.1∨(p.1=q.1/\p.2<q.2)
def b6(a b e:Sp):cr a b e=(b.1 - a.1)*(e.2 - a.2) - (b.2 - a.2)*(e.1 - a.1):=by unfold cr sw;grind
def fA(A B:Int)(p:Sp):Int:=A*p.1+B*p.2
def cx(a b c d:Sp):Int:=(b.1 - a.1)*(d.2 - c.2) - (b.2 - a.2)*(d.1 - c.1)
def zL(A B:Int)(a b c d e g:Sp):cx a b e g*(fA A B d - fA A B c)=cx c d e g*(fA A B b - fA A B a)+cx a b c d*(fA A B g - fA A B e):=by unfold cx fA;grind
def D5{x y:Int}(h:0<x*y)(hy:0<y):0<x:=by
 by_cases c:0<x
 ·exact c
 ·have:=M8 (show 0<=-x by lia) (MI hy);rw[Ox]at this
  lia
def IH{x y:Int}(h:0<=x*y)(hy:0<y):0<=x:=by
 by_cases c:0<=x
 ·exact c
 ·have:=Qf (show 0 < -x by lia) hy;rw[Ox]at this
  lia
def EA(h1:fA A B a<fA A B b)(h2:fA A B c<fA A B d)(h3:fA A B e<fA A B g)(p:0<cx a b c d)(q:0<=cx c d e g):0<cx a b e g:=by have i:=zL A B a b c d e g;have u:=M8 q (show 0<=fA A B b - fA A B a by lia);have v:=Qf p (show 0<fA A B g - fA A B e by lia);exact D5 (y:=fA A B d - fA A B c) (by lia) (by lia)
def Ez(h1:fA A B a<fA A B b)(h2:fA A B c<fA A B d)(h3:fA A B e<fA A B g)(p:0<=cx a b c d)(q:0<cx c d e g):0<cx a b e g:=by have i:=zL A B a b c d e g;have u:=Qf q (show 0<fA A B b - fA A B a by lia);have v:=M8 p (show 0<=fA A B g - fA A B e by lia);exact D5 (y:=fA A B d - fA A B c) (by lia) (by lia)
def JD(h1:fA A B a<fA A B b)(h2:fA A B c<fA A B d)(h3:fA A B e<fA A B g)(p:0<=cx a b c d)(q:0<=cx c d e g):0<=cx a b e g:=by have i:=zL A B a b c d e g;have u:=M8 q (show 0<=fA A B b - fA A B a by lia);have v:=M8 p (show 0<=fA A B g - fA A B e by lia);exact IH (y:=fA A B d - fA A B c) (by lia) (by lia)
def cx1(a b e:Sp):cr a b e=cx a b a e:=by rw[b6];rfl
def cx2(a b e:Sp):cr a b e=cx a b b e:=by rw[b6];unfold cx;grind
def cx3(a b e:Sp):cr a b e=cx a e b e:=by rw[b6];unfold cx;grind
def cx4(a b e:Sp):cr a b e=cx e a a b:=by rw[b6];unfold cx;grind
def cx5(a b e:Sp):cr a b e=cx e b a b:=by rw[b6];unfold cx;grind
def Fi(a b c d:Sp):cx a b c d=- cx c d a b:=by unfold cx;grind
def Hg(a b:Sp):cr a b a=0:=by rw[b6];grind
def Hh(a b:Sp):cr a b b=0:=by rw[b6];grind
structure Up(A B:Int)(st done:yat):Prop where
 e2:∀b a r,(b::a::r) <:+ st->∀p∈done,0<=cr a b p
 e3:∀c b a r,(c::b::a::r) <:+ st->0<cr a b c
 ord:st.Pairwise fun b a=>fA A B a<fA A B b
 mem:∀p∈st,p∈done
 top:∀b r,st=b::r->∀p∈done,fA A B p<=fA A B b
 bot:done ≠ []->∃pre a,st=pre++[a]/\∀p∈done,fA A B a<=fA A B p
def AA{b a:Sp}{r st:yat}(h:b::a::r <:+ st)(o:st.Pairwise R):R b a:=by obtain⟨pre,rfl⟩:=h;exact(O7.mp (Wk.mp o).2.1).1 a Ng
theorem B5(I:Up A B st0 done)(hx:∀p∈done,fA A B p<fA A B x):∀(st:yat),st <:+ st0->(∀b r,st=b::r->∀p∈done,fA A B b<fA A B p->0<=cr b x p) →
  (∀b a r,cB st x=b::a::r->0<cr a b x)/\(∀b r,cB st x=b::r->∀p∈done,fA A B b<fA A B p->0<=cr b x p)
 |[],_,h=>⟨fun b a r e=>(by cases e),fun b r e=>(by cases e)⟩
 |[b],_,h=>⟨fun b a r e=>(by cases e),h⟩
 |b::a::r,s,h=>by
  unfold cB;split
  ·rename_i c;refine B5 I hx (a::r) (List.IsSuffix.trans (List.suffix_cons _ _) s) fun b' r' e p hp lt=>?_
   cases e;have o:=AA s I.ord;have e2:=I.e2 b a r s p hp;have xa:=hx a (I.mem a (s.subset (by simp)));rw[cx1]at e2 c ⊢;rw[Fi]at c;exact JD xa o lt (by lia) e2
  ·rename_i c;refine⟨fun b' a' r' e=>?_,h⟩;cases e
   lia
theorem far(I:Up A B st0 done)(hx:∀p∈done,fA A B p<fA A B x):∀(st:yat),st <:+ st0->(∀b a r,st=b::a::r->0<cr a b x)->∀b a r,b::a::r <:+ st->0<cr a b x
 |[],_,_=>fun b a r e=>by have:=e.length_le;simp at this
 |b::st,s,h=>fun b1 a1 r1 e=>by
  rcases List.suffix_cons_iff.mp e with q|q
  ·exact h _ _ _ q.symm
  ·refine far I hx st (List.IsSuffix.trans (List.suffix_cons _ _) s) (fun a a0 r e'=>?_) b1 a1 r1 q;subst e';have h1:=h _ _ _ rfl;have h2:=I.e3 _ _ _ _ s;have o1:=AA s I.ord;have o2:=AA (List.IsSuffix.trans (List.suffix_cons _ _) s) I.ord;have xa:=hx a (I.mem a (s.subset (by simp)));rw[cx2]at h2 ⊢;rw[cx1]at h1;exact EA o2 o1 xa h2 (MI h1)
theorem yP:∀{st:yat},st ≠ []->cB st x ≠ []
 |[],h=>absurd rfl h
 |[b],_=>by simp[cB]
 |b::a::r,_=>by
  unfold cB;split
  ·exact yP (by simp)
  ·simp
def Dt{A B:Int}{st done:yat}{x:Sp}(I:Up A B st done)(hx:∀p∈done,fA A B p<fA A B x)(inj:∀p∈done,∀q∈done,fA A B p=fA A B q->p=q)(hn:done=[]->st=[]):Up A B (x::cB st x) (done++[x]):=by
 have s:cB st x <:+ st:=by obtain⟨pre,q⟩:=qj st x;exact⟨pre,q.symm⟩
 obtain⟨P1,P2⟩:=B5 I hx st (List.suffix_refl _) fun b r e p hp lt=>absurd (I.top b r e p hp) (by lia)
 have F:=far I hx _ s P1;refine⟨fun b a r e p hp=>?_,fun c b a r e=>?_,?_,fun p hp=>?_,fun b r e p hp=>?_,fun _=>?_⟩
 ·rcases List.suffix_cons_iff.mp e with q|q
  ·injection q with q1 q2;subst q1;rcases Mc.mp hp with hp|hp
   ·rcases TQ (fA A B p) (fA A B a)with c|c|c
    ·rcases r with _|⟨a0,r⟩
     ·obtain⟨pre,a',e1,h1⟩:=I.bot (List.ne_nil_of_mem hp);rw[<- q2]at s;obtain⟨pre2,e2⟩:=s;rw[e1]at e2;have:=List.append_inj_right' e2 (by simp);simp at this;have:=h1 p hp
      subst_vars
      lia
     ·have h1:=P1 _ _ _ q2.symm;rw[<- q2]at s;have h2:=I.e2 _ _ _ s p hp;have o:=AA s I.ord;have xa:=hx a (I.mem a (s.subset (by simp)));rw[cx2]at h1;rw[cx5]at h2;rw[cx4];exact MI (Ez c o xa h2 h1)
    ·rw[inj p hp a (I.mem a (s.subset (by rw[<- q2];simp))) c,Hg];exact Oe _
    ·exact P2 _ _ q2.symm p hp c
   ·rw[M4.mp hp,Hh];exact Oe _
  ·rcases Mc.mp hp with hp|hp
   ·exact I.e2 _ _ _ (q.trans s) p hp
   ·rw[M4.mp hp];exact MI (F _ _ _ q)
 ·rcases List.suffix_cons_iff.mp e with q|q
  ·injection q with q1 q2;subst q1;exact P1 _ _ _ q2.symm
  ·exact I.e3 _ _ _ _ (q.trans s)
 ·exact O7.mpr ⟨fun a ha=>hx a (I.mem a (s.subset ha)),I.ord.sublist s.sublist⟩
 ·rcases Lp.mp hp with q|q
  ·rw[q];simp
  ·exact Qi _ (I.mem p (s.subset q))
 ·injection e with e1 e2;subst e1;rcases Mc.mp hp with q|q
  ·exact MI (hx p q)
  ·rw[M4.mp q];exact Oe _
 ·by_cases d0:done=[]
  ·rw[hn d0,d0];exact⟨[],x,rfl,fun p hp=>by simp at hp;rw[hp];exact Oe _⟩
  ·obtain⟨pre,a,e1,h1⟩:=I.bot d0;obtain⟨pre2,e2⟩:=s;have ne:cB st x ≠ []:=yP (by rw[e1];simp);obtain⟨Vg,a3,e3⟩:∃Vg a3,cB st x=Vg++[a3]:=⟨_,_,(Vq ne).symm⟩;have:a3=a:=by
    rw[e3,e1,<- QH]at e2;have:=List.append_inj_right' e2 (by simp);simpa using this
   subst this;refine⟨x::Vg,a3,by rw[e3];rfl,fun p hp=>?_⟩;rcases Mc.mp hp with q|q
   ·exact h1 p q
   ·rw[M4.mp q];exact MI (hx a3 (I.mem a3 (by rw[e1];simp)))
theorem uf:∀(es st done:yat),Up A B st done->(done=[]->st=[])->(done++es).Pairwise (fun p q=>fA A B p<fA A B q)->Up A B (bJ st es) (done++es)
 |[],st,done,I,_,_=>by rw[Rm];exact I
 |x::es,st,done,I,hn,o=>by
  obtain⟨o1,o2,o3⟩:=Wk.mp o;have inj:∀(l:yat),l.Pairwise (fun p q=>fA A B p<fA A B q)->∀p∈l,∀q∈l,fA A B p=fA A B q->p=q:=by
   intro l
   induction l with
   |nil=>intro _ p hp;cases hp
   |cons y l ih =>
    intro o p hp q hq e;obtain⟨u,v⟩:=O7.mp o;rcases Lp.mp hp with a|a<;>rcases Lp.mp hq with b|b
    ·rw[a,b]
    ·have:=u q b;rw[a]at e;lia
    ·have:=u p a;rw[b]at e;lia
    ·exact ih v p a q b e
  have:=uf es (x::cB st x) (done++[x]) (Dt I (fun p hp=>o3 p hp x Ng) (inj done o1) hn) (by simp) (by rw[QH];exact o);rw[QH]at this;exact this
def FJ(A B:Int):Up A B [] []:=⟨fun b a r e=>by have:=e.length_le;simp at this,fun c b a r e=>by have:=e.length_le;simp at this,.nil,fun p hp=>hp,fun b r e=>(by cases e),fun h=>absurd rfl h⟩
def Iq{ys:yat}(o:ys.Pairwise fun p q=>fA A B p<fA A B q):Up A B (bJ [] ys) ys:=by have:=uf ys [] [] (FJ A B) (fun _=>rfl) (by simpa using o);simpa using this
structure Way(A B:Int)(ps:yat)(n:Nat)(l:Nat->Sp):Prop where
 two:2<=n
 Mp:∀i,i+1<n->∀p∈ps,0<=cr (l i) (l (i+1)) p
 Pw:∀i,i+2<n->0<cr (l i) (l (i+1)) (l (i+2))
 rise:∀i j,i<j->j<n->fA A B (l i)<fA A B (l j)
 mem:∀i,i<n->l i∈ps
 lo:∀p∈ps,fA A B (l 0)<=fA A B p
 hi:∀p∈ps,fA A B p<=fA A B (l (n - 1))
def bZ(A B:Int)(p:Sp):fA (-A) (-B) p=- fA A B p:=by unfold fA;grind
def En{n m:Nat}(L:Way A B ps (n+2) l)(U:Way (-A) (-B) ps (m+2) u)(hm:l (n+1)=u 0)(h:0<n+m):0<cr (l n) (l (n+1)) (u 1):=by
 have ol:=L.rise n (n+1) (Pf _) (Pf _);have ou:=U.rise 0 1 Nat.one_pos (Sq (PH _));rw[bZ,bZ,Int.neg_lt_neg_iff]at ou;rw[hm]at ol ⊢;have g:cr (l n) (u 0) (u 1)=cx (u 1) (u 0) (l n) (u 0):=by rw[b6];unfold cx;grind
 rw[g];cases n with
 |succ a =>
  have b:=L.Pw a (Pf _);have o:=L.rise a (a+2) (Nat.lt_add_of_pos_right (by decide)) (Pf _);have e:=U.Mp 0 (Sq (PH _)) (l a) (L.mem a (Nat.lt_add_of_pos_right (k:=3) (by decide)));have TF:l (a+2)=u 0:=hm;rw[TF]at o b;have e':cr (u 0) (u 1) (l a)=cx (u 1) (u 0) (l a) (u 0):=by rw[b6];unfold cx;grind
  rw[e']at e;rw[cx3]at b;exact Ez (A:=A) (B:=B) ou o ol e b
 |zero =>
  cases m with
  |zero=>exact absurd h (Ql _)
  |succ m =>
   have b:=U.Pw 0 (Sq (Sq (PH _)));have o:=U.rise 0 2 (by decide) (Sq (Sq (PH _)));rw[bZ,bZ,Int.neg_lt_neg_iff]at o;have e:=L.Mp 0 (Pf _) (u 2) (U.mem 2 (Sq (Sq (PH _))));have TF:l (0+1)=u 0:=hm;rw[TF]at e;have e':cr (l 0) (u 0) (u 2)=cx (u 2) (u 0) (l 0) (u 0):=by rw[b6];unfold cx;grind
   have b':cr (u 0) (u 1) (u 2)=cx (u 1) (u 0) (u 2) (u 0):=by rw[b6];unfold cx;grind
   rw[e']at e;have b2:0<cx (u 1) (u 0) (u 2) (u 0):=by rw[<- b'];exact b
   exact EA (A:=A) (B:=B) ou o ol b2 e
def yS{n m:Nat}{h:Nat->Sp}(L:Way A B ps (n+2) l)(U:Way (-A) (-B) ps (m+2) u)(eM:l (n+1)=u 0)(e0:u (m+1)=l 0)(h3:0<n+m)
  (hl:∀k,k<n+2->h k=l k) (hu:∀j,j<m+1->h (n+1+j)=u j):(∀k,k<n+m+2->∀p∈ps,0<=cr (h ((k+(n+m+2) - 1) % (n+m+2))) (h k) p)/\0<cr (h 0) (h 1) (h 2):=by
 refine⟨fun k hk p hp=>?_,?_⟩
 ·cases k with
  |zero =>
   have e:(0+(n+m+2) - 1) % (n+m+2)=n+1+m:=by rw[OZ];show(n+m+1) % (n+m+2)=_;rw[NS (Pf _),Nat.add_right_comm]
   rw[e,hu m (Pf _),hl 0 (PH _),<- e0];exact U.Mp m (Pf _) p hp
  |succ k =>
   have e:(k+1+(n+m+2) - 1) % (n+m+2)=k:=by rw[Nat.add_right_comm];show(k+(n+m+2)) % (n+m+2)=k;rw[Vy,NS (Vz hk)]
   rw[e];by_cases c:k+1<n+2
   ·rw[hl k (Vz c),hl (k+1) c];exact L.Mp k c p hp
   ·obtain⟨j,rfl⟩:=Nat.le.dest (Nat.le_of_succ_le_succ (SN c));have hj:j+1<m+1:=by lia
    rw[hu j (Vz hj),Nat.add_assoc,hu (j+1) hj];exact U.Mp j (SM hj) p hp
 ·cases n with
  |succ a =>
   have z:2<a+1+2:=Sq (Sq (PH _));rw[hl 0 (PH _),hl 1 (Vz z),hl 2 z];exact L.Pw 0 z
  |zero =>
   have z:1<m+1:=by lia
   rw[hl 0 (by decide),hl 1 (by decide),show h 2=u 1 from hu 1 z];exact En L U eM h3
def rY{ys:yat}(o:ys.Pairwise fun p q=>fA A B p<fA A B q)(h2:2<=ys.length):Way A B ys (aI ys).length fun i=>(aI ys).getD i (0,0):=by
 have I:=Iq o;obtain⟨pre,a,e1,h1⟩:=I.bot (by intro e;rw[e]at h2;simp at h2);have len:2<=(aI ys).length:=by
  unfold aI;rw[QX,e1];rcases pre with _|⟨b,pre⟩
  ·exfalso;have t:=I.top a [] (by simpa using e1);rcases ys with _|⟨y1,_|⟨y2,r⟩⟩
   ·simp at h2
   ·simp at h2
   ·have q:=(O7.mp o).1 y2 (by simp);have q1:=h1 y1 (by simp);have q2:=t y2 (by simp)
    lia
  ·simp
 have sp1:∀i,i<(aI ys).length->(aI ys)[i]?=some ((aI ys).getD i (0,0)):=fun i hi=>by rw[Mf,LM hi];rfl
 have Sf:bJ [] ys=(aI ys).reverse:=by unfold aI;rw[List.reverse_reverse]
 refine⟨len,fun i hi p hp=>?_,fun i hi=>?_,fun i j MQ hj=>?_,fun i hi=>?_,fun p hp=>?_,fun p hp=>?_⟩
 ·refine I.e2 _ _ ((aI ys).take i).reverse ⟨((aI ys).drop (i+2)).reverse,?_⟩ p hp;rw[Sf];have q:=Vu i (aI ys);rw[SH (show i<(aI ys).length by lia),SH hi]at q;have q2:=congrArg List.reverse q;simp only[Mf,LM (show i<(aI ys).length by lia),LM hi,UC];simpa only[List.reverse_append,UA,QH,Od,Pg]using q2
 ·refine I.e3 _ _ _ ((aI ys).take i).reverse ⟨((aI ys).drop (i+3)).reverse,?_⟩;rw[Sf];have q:=Vu i (aI ys);rw[SH (show i<(aI ys).length by lia),SH (show i+1<(aI ys).length by lia),SH hi]at q;have q2:=congrArg List.reverse q;simp only[Mf,LM (show i<(aI ys).length by lia),LM (show i+1<(aI ys).length by lia),LM hi,UC];simpa only[List.reverse_append,UA,QH,Od,Pg]using q2
 ·have o':(aI ys).Pairwise fun a b=>fA A B a<fA A B b:=by
   unfold aI;exact List.pairwise_reverse.mpr I.ord
  have:=(RB.mp o') i j (by lia) hj MQ;simp only[Mf,LM (show i<(aI ys).length by lia),LM hj,UC];exact this
 ·refine I.mem _ ?_;rw[Sf,List.mem_reverse];exact Mz (sp1 i hi)
 ·have:(aI ys).getD 0 (0,0)=a:=by unfold aI;rw[e1];simp
  show fA A B ((aI ys).getD 0 (0,0))<=_;rw[this];exact h1 p hp
 ·have e:=sp1 ((aI ys).length - 1) (by lia);generalize (aI ys).getD ((aI ys).length - 1) (0,0)=b at e ⊢;refine I.top b (bJ [] ys).tail ?_ p hp;rw[<- Y4]at e;unfold aI at e;rw[List.getLast?_reverse]at e;cases hc:bJ [] ys with
  |nil=>rw[hc]at e;simp at e
  |cons x r=>rw[hc]at e;simp at e;rw[e];rfl
theorem vT:∀{l:yat},l.Pairwise (fun p q=>fA A B p<fA A B q)->∀p∈l,∀q∈l,fA A B p=fA A B q->p=q
 |[],_,p,hp=>by cases hp
 |y::l,o,p,hp=>fun q hq e=>by
  obtain⟨u,v⟩:=O7.mp o;rcases Lp.mp hp with a|a<;>rcases Lp.mp hq with b|b
  ·rw[a,b]
  ·have:=u q b;rw[a]at e;lia
  ·have:=u p a;rw[b]at e;lia
  ·exact vT v p a q b e
def Way.to{ps qs:yat}(h:∀p,p∈qs↔p∈ps)(W:Way A B ps n l):Way A B qs n l :=
 ⟨W.two,fun i hi p hp=>W.Mp i hi p ((h p).mp hp),W.Pw,W.rise,fun i hi=>(h _).mpr (W.mem i hi),fun p hp=>W.lo p ((h p).mp hp),fun p hp=>W.hi p ((h p).mp hp)⟩
theorem C2:∀ys:yat,∃M:Int,0<M/\∀p∈ys,-M<p.2/\p.2<M
 |[]=>⟨1,by decide,fun p hp=>by cases hp⟩
 |y::ys=>by
  obtain⟨M,h0,h⟩:=C2 ys;refine⟨M+y.2.natAbs+1,by lia,fun p hp=>?_⟩;rcases Lp.mp hp with q|q
  ·rw[q];lia
  ·have:=h p q;lia
def rj{M:Int}{p q:Sp}(h0:0<M)(hp:-M<p.2/\p.2<M)(hq:-M<q.2/\q.2<M)(h:fU p q):fA (2*M) 1 p<fA (2*M) 1 q:=by
 unfold fA;rcases h with h|⟨h1,h2⟩
 ·have:=Y1 (show p.1+1<=q.1 by lia) (show 0<=2*M by lia);rw[Int.mul_add]at this
  lia
 ·rw[h1];lia
def bI(hs:yat)(k:Nat):Sp:=hs.getD ((k+hs.length - 1) % hs.length) (0,0)
structure lK(hs ps:yat):Prop where
 mem:∀p∈hs,p∈ps
 len:hs.length<=2*ps.length
 P7:ps ≠ []->∃a r,hs=a::r/\∀p∈ps,¬fU p a
 one:∀a,hs=[a]->∀p∈ps,p=a
 two:∀a b,hs=[a,b]->a≠b/\∀p∈ps,cr a b p=0/\¬fU b p
 Mp:2<hs.length->∀k,k<hs.length->∀p∈ps,0<=cr (bI hs k) (hs.getD k (0,0)) p
 Pw:2<hs.length->0<cr (hs.getD 0 (0,0)) (hs.getD 1 (0,0)) (hs.getD 2 (0,0))
def cQ(h:cJ ys ps):lK (aO ys) ps:=by
 have yl:=qk h;obtain⟨o,hm⟩:=h;unfold aO;by_cases c:ys.length<2
 ·rw[K4 c];refine⟨fun p hp=>(hm p).mp hp,by lia,fun e=>?_,fun a e p hp=>?_,fun a b e=>?_,fun q=>absurd q (by lia),fun q=>absurd q (by lia)⟩
  ·rcases ys with _|⟨y,_|⟨z,r⟩⟩
   ·cases ps with
    |nil=>exact absurd rfl e
    |cons y r=>have:=(hm y).mpr Ng;cases this
   ·refine⟨y,[],rfl,fun p hp=>?_⟩;have:=(hm p).mpr hp;rw[M4.mp this];exact fun q=>q.elim (Q3 _) fun q=>Q3 _ q.2
   ·exact absurd c (by simp)
  ·have:=(hm p).mpr hp;rw[e]at this;exact M4.mp this
  ·rw[e]at c;simp at c
 ·rw[K3 c];obtain⟨M,M0,hM⟩:=C2 ys;have oF:ys.Pairwise fun p q=>fA (2*M) 1 p<fA (2*M) 1 q:=by
   refine List.Pairwise.imp_of_mem ?_ o;intro p q hp hq h;exact rj M0 (hM p hp) (hM q hq) h
  have oB:ys.reverse.Pairwise fun p q=>fA (-(2*M)) (-1) p<fA (-(2*M)) (-1) q:=by refine List.pairwise_reverse.mpr (oF.imp ?_);intro p q h;rw[bZ,bZ];exact Int.neg_lt_neg h
  have L:=(rY oF (SN c)).to (qs:=ps) fun p=>(hm p).symm
  have U:=(rY oB (by rw[QX];exact SN c)).to (qs:=ps) fun p=>by rw[List.mem_reverse];exact(hm p).symm
  have ll:(aI ys).length<=ys.length:=by have:=fV [] ys;unfold aI;rw[QX];simpa using this
  have lu:(aI ys.reverse).length<=ys.length:=by have:=fV [] ys.reverse;unfold aI;rw[QX];simpa using this
  generalize aI ys=l at L ll ⊢;generalize aI ys.reverse=u at U lu ⊢;have inj:∀p∈ps,∀q∈ps,fA (2*M) 1 p=fA (2*M) 1 q->p=q:=fun p hp q hq e=>vT oF p ((hm p).mpr hp) q ((hm q).mpr hq) e
  have nl:∀p∈ps,∀q∈ps,fA (2*M) 1 p<=fA (2*M) 1 q->¬fU q p:=fun p hp q hq e x =>
   Int.not_le_of_gt (rj M0 (hM q ((hm q).mpr hq)) (hM p ((hm p).mpr hp)) x) e
  generalize 2*M=A at L U inj nl;clear oF oB hM M0 o hm;obtain⟨n,hn⟩:∃n,l.length=n+2:=⟨l.length - 2,by have:=L.two;lia⟩;obtain⟨m,hm⟩:∃m,u.length=m+2:=⟨u.length - 2,by have:=U.two;lia⟩;have hl:(l.dropLast++u.dropLast).length=n+m+2:=by
   rw[MG,RE,RE,hn,hm];show n+1+(m+1)=_
   lia
  have memD:∀{w:yat} {x:Sp},x∈w.dropLast->x∈w:=fun {w x} hx=>(List.dropLast_sublist w).subset hx
  have gm:∀{w:yat} {i:Nat} (hi:i<w.length),w.getD i (0,0)=w[i]:=fun {w i} hi=>by rw[Mf,LM hi];rfl
  rw[hn]at L;rw[hm]at U;have eM:l.getD (n+1) (0,0)=u.getD 0 (0,0):=by have m1:=L.mem (n+1) (Pf _);have m2:=U.mem 0 (PH _);have a1:=L.hi _ m2;have a2:=U.lo _ m1;rw[bZ,bZ]at a2;exact inj _ m1 _ m2 (VF (Yj a2) a1)
  have e0:u.getD (m+1) (0,0)=l.getD 0 (0,0):=by have m1:=L.mem 0 (PH _);have m2:=U.mem (m+1) (Pf _);have a1:=L.lo _ m2;have a2:=U.hi _ m1;rw[bZ,bZ]at a2;exact inj _ m2 _ m1 (VF (Yj a2) a1)
  have gu:∀j,j<m+1->(l.dropLast++u.dropLast).getD (n+1+j) (0,0)=u.getD j (0,0):=fun j hj=>by
   have ld:l.dropLast.length=n+1:=by rw[RE,hn];rfl
   rw[Mf,Mf,QG (by rw[ld];exact TV _ _),ld,Nat.add_sub_cancel_left,Yg,hm,K4 (show j<m+2 - 1 from hj)]
  have gl:∀k,k<n+2->(l.dropLast++u.dropLast).getD k (0,0)=l.getD k (0,0):=fun k hk=>by
   rcases Nat.lt_or_eq_of_le (Nat.le_of_lt_succ hk)with z|z
   ·rw[Mf,Mf,Qh (by rw[RE,hn];exact z),Yg,hn,K4 (show k<n+2 - 1 from z)]
   ·rw[z,eM];exact gu 0 (PH _)
  have a0:=gl 0 (PH _);refine⟨fun p hp=>?_,by rw[hl];lia,fun e=>?_,fun a e=>?_,fun a b e=>?_,fun q=>?_,fun q=>?_⟩
  ·rcases Mc.mp hp with z|z
   ·obtain⟨i,hi,e⟩:=List.mem_iff_getElem.mp (memD z);rw[<- e,<- gm hi];exact L.mem i (by rw[<- hn];exact hi)
   ·obtain⟨i,hi,e⟩:=List.mem_iff_getElem.mp (memD z);rw[<- e,<- gm hi];exact U.mem i (by rw[<- hm];exact hi)
  ·cases hh:l.dropLast++u.dropLast with
   |nil=>rw[hh]at hl;exact absurd hl (by simp)
   |cons a r =>
    rw[hh]at a0;refine⟨a,r,rfl,fun p hp=>?_⟩;rw[show a=l.getD 0 (0,0)from a0];exact nl _ (L.mem 0 (PH _)) p hp (L.lo p hp)
  ·rw[e]at hl;simp at hl
  ·have nm:n=0/\m=0:=by rw[e]at hl;simp at hl;lia
   obtain⟨rfl,rfl⟩:=nm;have g1:=gl 1 (by decide);rw[e]at a0 g1;have Rf:a=l.getD 0 (0,0):=a0;have Pu:b=l.getD 1 (0,0):=g1;have eM':l.getD 1 (0,0)=u.getD 0 (0,0):=eM;have e0':u.getD 1 (0,0)=l.getD 0 (0,0):=e0;refine⟨fun ab=>?_,fun p hp=>?_⟩
   ·have:=L.rise 0 1 (by decide) (by decide);rw[<- Rf,<- Pu,ab]at this;exact Q3 _ this
   ·have x1:=L.Mp 0 (by decide) p hp;have x2:=U.Mp 0 (by decide) p hp;have x3:=L.hi p hp;have x1':0<=cr a b p:=by rw[Rf,Pu];exact x1
    have x2':0<=cr b a p:=by rw[Pu,eM',Rf,<- e0'];exact x2
    have x3':fA A 1 p<=fA A 1 b:=by rw[Pu];exact x3
    have an:cr b a p=- cr a b p:=by rw[b6,b6];grind
    refine⟨by lia,nl p hp b ?_ x3'⟩;rw[Pu];exact L.mem 1 (by decide)
  ·intro k hk p hp;rw[hl]at hk q;have R:=(yS L U eM e0 (by lia) gl gu).1 k hk p hp;unfold bI;rw[hl];exact R
  ·rw[hl]at q;exact(yS L U eM e0 (by lia) gl gu).2
def vf{α:Type}(xs:List α)(j b:Nat)(hj:j<xs.length)(hb:b<=xs.length):Mm xs ((j:Int) - (b:Int))=xs[(j+xs.length - b) % xs.length]?:=by
 unfold Mm ixN;by_cases c:b<=j
 ·rw[K4 (by lia),K4 (by lia),show j+xs.length - b=j - b+xs.length by lia,Vy,NS (by lia)];show xs[((j:Int) - (b:Int)).toNat]?=_;congr 1
  lia
 ·rw[K3 (by lia),K4 (by lia),NS (by lia)];show xs[((j:Int) - (b:Int)+(xs.length:Int)).toNat]?=_;congr 1
  lia
def EW(lo hi:Int):jR lo hi 1=(hi - lo).toNat:=by
 unfold jR Builtin.Range.rangeSize;rw[K4 (by decide)];by_cases h:lo<hi
 ·rw[K4 h,Int.ediv_one]
  lia
 ·rw[K3 h]
  lia
def jQ(n:Nat):iY 0 1 (jR 0 (n:Int) 1)=(List.range' 0 n).map fun(k:Nat)=>D.int (k:Int):=by unfold iY;rw[EW,show((n:Int) - 0).toNat=n by lia,List.range'_eq_map_range,MJ];apply So;intro k _;simp
def IL(p:Sp):NQ 1 (Ll p):=NQ.tup (.cons (.int _ _) (.cons (.int _ _) (.nil _)))
def BN(p:Sp):NQ 1 (L3 p):=NQ.tup (.cons (.int _ _) (.cons (.int _ _) (.cons (.int _ _) (.nil _))))
def dm(pk:yag):Nat:=match pk.getLast? with
 |none=>0
 |some l=>l+1
def O2(n:Nat)(pk:yag):List (yag):=(List.range' (dm pk) (n - dm pk)).map fun k=>pk++[k]
def L7(n:Nat):Nat->List (yag)
 |0=>[[]]
 |j+1=>(L7 n j).flatMap (O2 n)
def Np(pk:yag):D:=.lst true (pk.map fun(k:Nat)=>D.int (k:Int))
theorem gn:∀{j:Nat} {pk:yag},pk∈L7 n j->pk.length=j/\∀k∈pk,k<n
 |0,pk,h=>by simp only[L7,M4]at h;subst h;simp
 |j+1,pk,h=>by
  simp only[L7,Wr]at h;obtain⟨q,hq,h⟩:=h;obtain⟨h1,h2⟩:=gn hq;unfold O2 at h;obtain⟨k,hk,rfl⟩:=LR.mp h;rw[Rj]at hk;refine⟨by simp[h1],fun x hx=>?_⟩;rcases Mc.mp hx with z|z
  ·exact h2 x z
  ·simp at z;subst z;lia
theorem sJ(n:Nat):∀j:Nat,(L7 n j).length<=n ^ j
 |0=>by simp[L7]
 |j+1=>by
  have ih:=sJ n j;simp only[L7];have:∀l:List (yag),(l.flatMap (O2 n)).length<=l.length*n:=by
   intro l
   induction l with
   |nil=>simp
   |cons a r ih =>
    rw[List.flatMap_cons,MG,Oj,Nat.add_mul];have:(O2 n a).length<=n:=by unfold O2;rw[K8,Nf];lia
    lia
  refine NW (this _) ?_;rw[Qn];exact Yl _ ih
def oW(a b:Nat):iY (a:Int) 1 (jR a b 1)=(List.range' a (b - a)).map fun(k:Nat)=>D.int (k:Int):=by unfold iY;rw[EW,show((b:Int) - (a:Int)).toNat=b - a by lia,List.range'_eq_map_range,MJ];apply So;intro k _;simp
theorem vU(n:Nat):∀l:List (yag),(l.flatMap (O2 n)).length<=l.length*n
 |[]=>by simp
 |a::r=>by
  rw[List.flatMap_cons,MG,Oj,Nat.add_mul];have:=vU n r;have:(O2 n a).length<=n:=by unfold O2;rw[K8,Nf];lia
  lia
def Fc{pk:yag}(h:pk ≠ []){Q:D->Prop}(q:Q (.int ((dm pk:Nat) - 1:Int))):∃d,Mm (pk.map fun(k:Nat)=>D.int (k:Int)) (-1)=some d/\Q d:=by
 obtain⟨r,l,rfl⟩:∃r l,pk=r++[l]:=⟨pk.dropLast,pk.getLast h,(Vq h).symm⟩;refine⟨.int l,?_,?_⟩
 ·unfold Mm ixN;rw[K8,MG];have e:(-1+((r.length:Int)+1)).toNat=r.length:=by lia
  have l:(1:Int)<=(r.length:Int)+1:=by lia
  simp[e,l]
 ·have:((dm (r++[l]):Nat):Int) - 1=l:=by
   unfold dm;simp
  rw[<- this];exact q
abbrev Tr:=Int×Int×Int
abbrev yau:=List (Int×Tr)
abbrev yav:=List Tr
def tn(a b:Sp):Int:=a.1*b.2 - b.1*a.2
def LB(a b:Sp):Int:=a.1*b.1+a.2*b.2
def Lf(h:Tr)(p:Sp):Sp:=(h.1*p.1 - 1*h.2.1,h.1*p.2 - 1*h.2.2)
def KZ(g h:Tr):Int:=g.1*h.1+g.2.1*h.2.1+g.2.2*h.2.2
def eA(a b:Sp):Tr:=(a.1*b.2 - b.1*a.2,a.2*1 - b.2*1,1*b.1 - 1*a.1)
def bX(a w:Sp):Tr:=(-(w.1*a.1+w.2*a.2),w.1*1,w.2*1)
def P8(a:Sp):Sp:=(-a.1,-a.2)
def Pd(a:Sp):Sp:=(-a.2,a.1)
def aM(a b:Sp):Sp:=if a=b then(1,0)else(1*b.1 - 1*a.1,1*b.2 - 1*a.2)
def dD(a b:Sp):yav:=[bX a (aM a b),bX b (P8 (aM a b)),bX a (Pd (aM a b)),bX a (P8 (Pd (aM a b)))]
def aG(hs:yat):yav:=if hs.length<3 then dD (hs.getD 0 (0,0)) (hs.getD (hs.length - 1) (0,0))else(List.range' 0 hs.length).map fun k=>eA (bI hs k) (hs.getD k (0,0))
def rZ(a:Sp):Prop:=a=(0,0)
def gS(a b:Sp):Prop:=tn a b=0/\LB a b<0
def dQ(a b e:Sp):Prop:=(0<tn b e/\0<tn e a/\0<tn a b)∨(tn b e<0/\tn e a<0/\tn a b<0)
def cF(a b:Sp):tn a b=- tn b a:=by unfold tn;grind
def o6(a:Sp):tn a a=0:=by unfold tn;grind
def pY(a b:Sp):LB a b=LB b a:=by unfold LB;grind
def gS.symm(h:gS a b):gS b a:=⟨by have:=cF a b;have:=h.1;lia,by rw[pY];exact h.2⟩
def dQ.TG(h:dQ a b e):dQ b e a:=by unfold dQ at h ⊢;lia
def dQ.swap(h:dQ a b e):dQ b a e:=by
 unfold dQ at h ⊢;have:=cF a b;have:=cF b e;have:=cF e a
 lia
def Uq(a:Int):0<=a*a:=by
 rcases Int.le_total 0 a with h|h
 ·exact M8 h h
 ·have:=M8 (show 0<=-a by lia) (show 0<=-a by lia);have e:-a*-a=a*a:=by grind
  lia
def jD{w:Sp}(h:w≠(0,0)):0<LB w w:=by
 obtain⟨a,b⟩:=w;unfold LB;dsimp only;have h1:=Uq a;have h2:=Uq b;by_cases ha:a=0
 ·by_cases hb:b=0
  ·subst ha hb;exact absurd rfl h
  ·have:b*b≠0:=VG hb hb;omega
 ·have:a*a≠0:=VG ha ha;omega
def sk{b c:Sp}{y z:Int}(hy:0<y)(hz:0<z)(e1:y*b.1+z*c.1=0)(e2:y*b.2+z*c.2=0):rZ b∨gS b c:=by
 by_cases hb:b=(0,0)
 ·exact .inl hb
 ·right
  have p:=jD hb;have t:z*tn b c=0:=by
   have:z*tn b c=b.1*(y*b.2+z*c.2) - b.2*(y*b.1+z*c.1):=by unfold tn;grind
   rw[this,e1,e2];simp
  have d:z*LB b c=- (y*LB b b):=by
   have:z*LB b c+y*LB b b=b.1*(y*b.1+z*c.1)+b.2*(y*b.2+z*c.2):=by unfold LB;grind
   rw[e1,e2]at this;simp at this
   lia
  have yy:=Qf hy p;refine⟨?_,?_⟩
  ·rcases Qc.mp t with q|q<;>lia
  ·by_cases q:LB b c<0
   ·exact q
   ·have:=M8 (MI hz) (show 0<=LB b c by lia)
    lia
def C1(a b c:Sp):tn b c*a.1+tn c a*b.1+tn a b*c.1=0/\tn b c*a.2+tn c a*b.2+tn a b*c.2=0:=by unfold tn;constructor<;>grind
def qh{c:Sp}{z:Int}(hz:0<z)(e1:z*c.1=0)(e2:z*c.2=0):rZ c:=by
 rcases Qc.mp e1 with q|q
 ·lia
 ·rcases Qc.mp e2 with r|r
  ·lia
  ·exact Pj q r
def Ff(hx:0<=tn b c)(hy:0<=tn c a)(hz:0<=tn a b)(hs:0<tn b c+tn c a+tn a b) :
  rZ a∨rZ b∨rZ c∨gS a b∨gS b c∨gS c a∨dQ a b c:=by
 obtain⟨e1,e2⟩:=C1 a b c;by_cases x0:tn b c=0
 ·rw[x0,QJ]at e1 e2;by_cases y0:tn c a=0
  ·rw[y0,QJ]at e1 e2;exact .inr (.inr (.inl (qh (z:=tn a b) (by lia) (by lia) (by lia))))
  ·by_cases z0:tn a b=0
   ·rw[z0,QJ]at e1 e2;exact .inr (.inl (qh (z:=tn c a) (by lia) (by lia) (by lia)))
   ·rcases sk (b:=b) (c:=c) (y:=tn c a) (z:=tn a b) (by lia) (by lia) (by lia) (by lia)with q|q
    ·exact .inr (.inl q)
    ·exact .inr (.inr (.inr (.inr (.inl q))))
 ·by_cases y0:tn c a=0
  ·rw[y0,QJ]at e1 e2;by_cases z0:tn a b=0
   ·rw[z0,QJ]at e1 e2;exact .inl (qh (z:=tn b c) (by lia) (by lia) (by lia))
   ·rcases sk (b:=c) (c:=a) (y:=tn a b) (z:=tn b c) (by lia) (by lia) (by lia) (by lia)with q|q
    ·exact .inr (.inr (.inl q))
    ·exact .inr (.inr (.inr (.inr (.inr (.inl q)))))
  ·by_cases z0:tn a b=0
   ·rw[z0,QJ]at e1 e2;rcases sk (b:=a) (c:=b) (y:=tn b c) (z:=tn c a) (by lia) (by lia) (by lia) (by lia)with q|q
    ·exact .inl q
    ·exact .inr (.inr (.inr (.inl q)))
   ·exact .inr (.inr (.inr (.inr (.inr (.inr (.inl ⟨by lia,by lia,by lia⟩))))))
def mR(h:Tr)(ps:yat):Prop:=(∃p∈ps,rZ (Lf h p))∨(∃p∈ps,∃q∈ps,gS (Lf h p) (Lf h q))∨∃ p∈ps,∃q∈ps,∃r∈ps,dQ (Lf h p) (Lf h q) (Lf h r)
def CZ{ps:yat}{p q r:Sp}(hp:p∈ps)(hq:q∈ps)(hr:r∈ps)(hx:0<=tn (Lf h q) (Lf h r))(hy:0<=tn (Lf h r) (Lf h p))(hz:0<=tn (Lf h p) (Lf h q))(hs:0<tn (Lf h q) (Lf h r)+tn (Lf h r) (Lf h p)+tn (Lf h p) (Lf h q)):mR h ps:=by
 rcases Ff hx hy hz hs with c|c|c|c|c|c|c
 ·exact .inl ⟨_,hp,c⟩
 ·exact .inl ⟨_,hq,c⟩
 ·exact .inl ⟨_,hr,c⟩
 ·exact .inr (.inl ⟨_,hp,_,hq,c⟩)
 ·exact .inr (.inl ⟨_,hq,_,hr,c⟩)
 ·exact .inr (.inl ⟨_,hr,_,hp,c⟩)
 ·exact .inr (.inr ⟨_,hp,_,hq,_,hr,c⟩)
def Dm(h:Tr)(a b:Sp):tn (Lf h a) (Lf h b)=h.1*KZ (eA a b) h:=by unfold tn Lf KZ eA;grind
def FF(h:Tr)(a w:Sp):KZ (bX a w) h=- LB w (Lf h a):=by unfold KZ bX LB Lf;grind
def Jt(h:Tr)(a b c:Sp):tn (Lf h b) (Lf h c)+tn (Lf h c) (Lf h a)+tn (Lf h a) (Lf h b)=h.1*(h.1*cr a b c):=by rw[b6];unfold tn Lf;grind
def ID(u v w:Sp):LB u v*LB u w+tn u v*tn u w=LB u u*LB v w:=by unfold LB tn;grind
def tM{u:Sp}(hu:u≠(0,0))(h1:LB u v=0)(h2:tn u v=0):v=(0,0):=by
 have p:=jD hu;have l:=ID u v v;rw[h1,h2]at l;simp only[QJ,Rp]at l;by_cases c:v=(0,0)
 ·exact c
 ·have:=Qf p (jD c)
  lia
def Co{ps:yat}{a b:Sp}(am:a∈ps)(bm:b∈ps)(Qg:∀g∈dD a b,0<=KZ g h):mR h ps:=by
 unfold dD at Qg;have o1:=Qg _ (Ng);have o2:=Qg _ (L8 _ Ng);have o3:=Qg _ (L8 _ (L8 _ Ng));have o4:=Qg _ (L8 _ (L8 _ (L8 _ Ng)));clear Qg;rw[FF]at o1 o2 o3 o4;have ne:aM a b≠(0,0):=by
  unfold aM;split
  ·decide
  ·rename_i n;intro e;rw[Qm,O8,O8,O8,O8]at e;exact n (Pj (Wi e.1).symm (Wi e.2).symm)
 have d2:LB (P8 (aM a b)) (Lf h b)=- LB (aM a b) (Lf h b):=by unfold LB P8;grind
 have d3:LB (Pd (aM a b)) (Lf h a)=tn (aM a b) (Lf h a):=by unfold LB Pd tn;grind
 have d4:LB (P8 (Pd (aM a b))) (Lf h a)=- tn (aM a b) (Lf h a):=by unfold LB P8 Pd tn;grind
 rw[d2,Int.neg_neg]at o2;rw[d3]at o3;rw[d4,Int.neg_neg]at o4;have t0:tn (aM a b) (Lf h a)=0:=VF (Int.neg_nonneg.mp o3) o4;have o1':LB (aM a b) (Lf h a)<=0:=Int.neg_nonneg.mp o1;clear o1 o3 o4 d2 d3 d4;by_cases e:a=b
 ·subst e;exact .inl ⟨a,am,tM ne (VF o1' o2) t0⟩
 ·have ew:Lf h b=((Lf h a).1+h.1*(aM a b).1,(Lf h a).2+h.1*(aM a b).2):=by
   unfold aM;rw[K3 e];unfold Lf;dsimp only;rw[Qm];constructor<;>grind
  have tb:tn (aM a b) (Lf h b)=0:=by
   rw[ew];have:tn (aM a b) ((Lf h a).1+h.1*(aM a b).1,(Lf h a).2+h.1*(aM a b).2)=tn (aM a b) (Lf h a):=by unfold tn;dsimp only;grind
   rw[this,t0]
  have tab:tn (Lf h a) (Lf h b)=0:=by
   rw[ew];have:tn (Lf h a) ((Lf h a).1+h.1*(aM a b).1,(Lf h a).2+h.1*(aM a b).2)=- (h.1*tn (aM a b) (Lf h a)):=by unfold tn;dsimp only;grind
   rw[this,t0,SU,Int.neg_zero]
  have l:=ID (aM a b) (Lf h a) (Lf h b);rw[tb,SU,Rp]at l;by_cases z1:LB (aM a b) (Lf h a)=0
  ·exact .inl ⟨a,am,tM ne z1 t0⟩
  ·by_cases z2:LB (aM a b) (Lf h b)=0
   ·exact .inl ⟨b,bm,tM ne z2 tb⟩
   ·have neg:=QU (Int.lt_iff_le_and_ne.mpr ⟨o1',z1⟩) (Int.lt_iff_le_and_ne.mpr ⟨o2,Ne.symm z2⟩);refine .inr (.inl ⟨a,am,b,bm,tab,?_⟩);rw[l]at neg;by_cases q:LB (Lf h a) (Lf h b)<0
    ·exact q
    ·exact absurd neg (Rq.mpr (M8 (MI (jD ne)) (Rq.mp q)))
def Dk{h:Tr}{ps:yat}{c:Nat->Sp}{N:Nat}(h0:0<h.1)(cm:∀i,i<N->c i∈ps)(Mp:∀i,i+1<N->0<=tn (Lf h (c i)) (Lf h (c (i+1))))(Pw:0<cr (c 0) (c 1) (c 2)) :
  ∀ d i,N=i+d+3->0<=tn (Lf h (c (i+d+2))) (Lf h (c 0))->0<=tn (Lf h (c 0)) (Lf h (c (i+1)))->(i=0∨0<tn (Lf h (c 0)) (Lf h (c (i+1))))->mR h ps:=by
 have OH:∀i,i+2<N->0<=tn (Lf h (c (i+2))) (Lf h (c 0))->0<=tn (Lf h (c 0)) (Lf h (c (i+1)))->(i=0∨0<tn (Lf h (c 0)) (Lf h (c (i+1))))->mR h ps:=fun i hi hy hz hp=>by
  have hx:=Mp (i+1) hi;refine CZ (cm 0 (Ux (MK _) hi)) (cm (i+1) (Vz hi)) (cm (i+2) hi) hx hy hz ?_;rcases hp with q|q
  ·subst q;rw[Jt];exact Qf h0 (Qf h0 Pw)
  ·exact Int.add_pos_of_nonneg_of_pos (Int.add_nonneg hx hy) q
 intro d
 induction d with
 |zero =>
  intro i hN hy hz hp;exact OH i (by rw[hN];exact Pf _) hy hz hp
 |succ d ih =>
  intro i hN hy hz hp;have hi:i+2<N:=by rw[hN];lia
  by_cases z:0<tn (Lf h (c 0)) (Lf h (c (i+2)))
  ·have e1:i+1+d+2=i+(d+1)+2:=by lia
   exact ih (i+1) (by rw[hN];lia) (by rw[e1];exact hy) (MI z) (.inr z)
  ·refine OH i hi ?_ hz hp;rw[cF];exact Int.neg_nonneg_of_nonpos (Rq.mp z)
def uo{h:Tr}(g:lK hs ps)(hn:ps ≠ [])(h0:0<h.1)(Qg:∀b∈aG hs,0<=KZ b h):mR h ps:=by
 obtain⟨a0,r0,eh,_⟩:=g.P7 hn;have l0:0<hs.length:=by rw[eh];exact PH _
 have gm:∀i,i<hs.length->hs.getD i (0,0)∈ps:=fun i hi=>by rw[Mf,LM hi];exact g.mem _ (PG _)
 unfold aG at Qg;by_cases c:hs.length<3
 ·rw[K4 c]at Qg;exact Co (gm 0 l0) (gm (hs.length - 1) (Nat.sub_lt l0 Nat.one_pos)) Qg
 ·rw[K3 c]at Qg;obtain⟨d,hd⟩:∃d,hs.length=0+d+3:=⟨hs.length - 3,by lia⟩;have Mp:∀k,k<hs.length->0<=tn (Lf h (bI hs k)) (Lf h (hs.getD k (0,0))):=fun k hk=>by
   rw[Dm];exact M8 (MI h0) (Qg _ (LR.mpr ⟨k,Rj.mpr ⟨MK _,by rw[OZ];exact hk⟩,rfl⟩))
  have pz:bI hs 0=hs.getD (0+d+2) (0,0):=by unfold bI;rw[OZ,hd];show hs.getD ((0+d+2) % (0+d+3)) _=_;rw[NS (Pf _)]
  have ps_:∀k,k+1<hs.length->bI hs (k+1)=hs.getD k (0,0):=fun k hk=>by unfold bI;rw[Nat.add_right_comm];show hs.getD ((k+hs.length) % hs.length) _=_;rw[Vy,NS (Vz hk)]
  have ed:∀i,i+1<hs.length->0<=tn (Lf h (hs.getD i (0,0))) (Lf h (hs.getD (i+1) (0,0))):=fun i hi=>by have:=Mp (i+1) hi;rw[ps_ i hi]at this;exact this
  have e0:=Mp 0 l0;rw[pz]at e0;exact Dk (c:=fun i=>hs.getD i (0,0)) h0 gm ed (g.Pw (by rw[hd];lia)) d 0 hd e0 (ed 0 (by rw[hd];lia)) (.inl rfl)
def tR{u v x y:Int}(e:u*y=v*x)(h1:0<u∨(u=0/\0<v))(h2:0<x∨(x=0/\0<=y)):0<=u*x+v*y:=by
 rcases h1 with h1|⟨h1,LS⟩
 ·have e2:(u*x+v*y)*u=(u*u+v*v)*x:=by grind
  refine IH (y:=u) ?_ h1;rw[e2];refine M8 (Int.add_nonneg (Uq u) (Uq v)) ?_;rcases h2 with q|q
  ·exact MI q
  ·rw[q.1];exact Oe _
 ·subst h1;rw[QJ]at e ⊢;rw[Int.zero_add];rcases Qc.mp e.symm with q|q
  ·exact absurd LS (by rw[q];exact Q3 _)
  ·rcases h2 with r|r
   ·exact absurd r (by rw[q];exact Q3 _)
   ·exact M8 (MI LS) r.2
def sL(h:¬fU q p):0<q.1 - p.1∨(q.1 - p.1=0/\0<=q.2 - p.2):=by
 unfold fU at h
 lia
def Ep{a b:Sp}{g:Tr}(ne:a≠b)(Ui:¬fU b a)(hap:¬fU p a)(hpb:¬fU b p)(h0:cr a b p=0)(hg:g∈dD a b):0<=KZ g (1,p.1,p.2):=by
 have key:∀w a:Sp,KZ (bX a w) (1,p.1,p.2)=w.1*(p.1 - a.1)+w.2*(p.2 - a.2):=fun w a=>by unfold KZ bX;grind
 rw[b6]at h0;have c0:(b.1 - a.1)*(p.2 - a.2)=(b.2 - a.2)*(p.1 - a.1):=Wi h0;have c1:(b.1 - a.1)*(b.2 - p.2)=(b.2 - a.2)*(b.1 - p.1):=by grind
 have al:0<b.1 - a.1∨(b.1 - a.1=0/\0<b.2 - a.2):=by
  rcases sL Ui with q|⟨q,r⟩
  ·exact .inl q
  ·refine .inr ⟨q,?_⟩;have:b.2 - a.2≠0:=fun z=>ne (Pj (Wi q).symm (Wi z).symm)
   exact Int.lt_iff_le_and_ne.mpr ⟨r,Ne.symm this⟩
 have d1:=tR c0 al (sL hap);have d2:=tR c1 al (sL hpb);clear al Ui hap hpb;unfold dD aM at hg;rw[K3 ne]at hg;simp only[Lp,Nq,or_false]at hg;rcases hg with q|q|q|q<;>rw[q,key]<;>simp only[P8,Pd,O8]
 ·exact d1
 ·have:-(b.1 - a.1)*(p.1 - b.1)+-(b.2 - a.2)*(p.2 - b.2)=(b.1 - a.1)*(b.1 - p.1)+(b.2 - a.2)*(b.2 - p.2):=by grind
  rw[this];exact d2
 ·rw[Ox,c0,Int.add_left_neg];exact Oe _
 ·rw[Int.neg_neg,Ox,c0,Int.add_right_neg];exact Oe _
def pD(g:lK hs ps)(hn:ps ≠ []){b:Tr}(hb:b∈aG hs){p:Sp}(hp:p∈ps):0<=KZ b (1,p.1,p.2):=by
 obtain⟨a0,r0,eh,XU⟩:=g.P7 hn;unfold aG at hb;by_cases c:hs.length<3
 ·rw[K4 c]at hb;rcases r0 with _|⟨b0,_|⟨z,r⟩⟩
  ·have e:=g.one a0 eh p hp;subst e;rw[eh]at hb;have key:∀w:Sp,KZ (bX p w) (1,p.1,p.2)=0:=fun w=>by unfold KZ bX;grind
   unfold dD at hb;simp only[List.getD_cons_zero,Sn,VO,Lp,Nq,or_false]at hb;rcases hb with q|q|q|q<;>rw[q,key]<;>exact Oe _
  ·have e:=g.two a0 b0 eh;rw[eh]at hb;exact Ep e.1 (XU b0 (g.mem b0 (by rw[eh];simp))) (XU p hp) (e.2 p hp).2 (e.2 p hp).1 hb
  ·rw[eh]at c;exact absurd c (by simp)
 ·rw[K3 c]at hb;obtain⟨k,hk,e⟩:=LR.mp hb;have Rz:k<hs.length:=by
   have:=(Rj.mp hk).2;rw[OZ]at this;exact this
  have ev:KZ b (1,p.1,p.2)=cr (bI hs k) (hs.getD k (0,0)) p:=by rw[<- e,b6];unfold KZ eA;grind
  rw[ev];exact g.Mp (by lia) k Rz p hp
def br(w:Sp):Int:=((w.1.natAbs:Nat):Int)+((w.2.natAbs:Nat):Int)
def bF:Int->yaf->Int
 |d,[]=>d
 |d,x::xs=>bF ((Int.gcd d x:Nat):Int) xs
def cW(xs:yaf):yaf:=xs.map fun x=>x.fdiv (bF 0 xs)
def lL(a:Sp):Option (yaf):=if br a=0 then some [1]else none
def ky(a b:Sp):Option (yaf):=if tn a b=0/\LB a b<0 then some (cW [br b,br a])else none
def iW(a b e:Sp):Option (yaf) :=
 if 0<tn b e/\0<tn e a/\0<tn a b then some (cW [tn b e,tn e a,tn a b])
 else if tn b e<0/\tn e a<0/\tn a b<0 then some (cW [-tn b e,-tn e a,-tn a b])else none
def dR:yat->Option (yaf)
 |[]=>none
 |[a]=>lL a
 |[a,b]=>ky a b
 |a::b::e::_=>iW a b e
def O5(ws:yat)(pk:yag):yat:=pk.map fun k=>ws.getD k (0,0)
def cq(ws:yat):List (yag)->Option (yag×yaf)
 |[]=>none
 |pk::r=>match dR (O5 ws pk)with
  |some sh=>some (pk,sh)
  |none=>cq ws r
def cP(n:Nat):List (yag):=L7 n 1++(L7 n 2++L7 n 3)
def nA:br a=0↔a=(0,0):=by
 unfold br;obtain⟨x,y⟩:=a;simp only[Qm]
 lia
theorem uj:∀{XW:List (yag)},cq ws XW=none->∀pk∈XW,dR (O5 ws pk)=none
 |[],_,pk,h=>by cases h
 |a::r,e,pk,h=>by
  unfold cq at e;cases hb:dR (O5 ws a)with
  |some s=>rw[hb]at e;cases e
  |none =>
   rw[hb]at e;rcases Lp.mp h with q|q
   ·rw[q];exact hb
   ·exact uj e pk q
def qa{n i:Nat}(h:i<n):[i]∈L7 n 1:=by simp only[L7,List.flatMap_cons,List.flatMap_nil,Rm];exact LR.mpr ⟨i,Rj.mpr ⟨MK _,by simp[dm];exact h⟩,rfl⟩
def qb{n i j:Nat}(h:i<j)(hj:j<n):[i,j]∈L7 n 2:=by
 have:=qa (n:=n) (i:=i) (by lia);refine Wr.mpr ⟨[i],this,LR.mpr ⟨j,Rj.mpr ?_,rfl⟩⟩;simp[dm]
 lia
def DH{n i j k:Nat}(h:i<j)(hj:j<k)(hk:k<n):[i,j,k]∈L7 n 3:=by
 have:=qb (n:=n) h (by lia);refine Wr.mpr ⟨[i,j],this,LR.mpr ⟨k,Rj.mpr ?_,rfl⟩⟩;simp[dm]
 lia
def Fd(h:gS a b):ky a b≠none:=by unfold ky;have h':tn a b=0/\LB a b<0:=h;rw[K4 h'];simp
def Fe(h:dQ a b e):iW a b e≠none:=by
 unfold iW;rcases h with h|h
 ·rw[K4 h];simp
 ·rw[K3 (by lia),K4 h];simp
def CY(hb:mR h ps):cq (ps.map (Lf h)) (cP ps.length)≠none:=by
 intro e;have N:=uj e;have gd:∀{i:Nat} {p:Sp},ps[i]?=some p->(ps.map (Lf h)).getD i (0,0)=Lf h p:=fun {i p} q=>by rw[Mf,LZ,q];rfl
 have lt:∀{i:Nat} {p:Sp},ps[i]?=some p->i<ps.length:=fun {i p} q=>(L6.mp q).1
 have two:∀i j p q,ps[i]?=some p->ps[j]?=some q->i<j->gS (Lf h p) (Lf h q)->False:=fun i j p q hi hj MQ b=>by have:=N [i,j] (Oi _ (Qi _ (qb MQ (lt hj))));unfold O5 at this;simp only[LD,Q4,gd hi,gd hj]at this;exact Fd b this
 have three:∀i j k p q r,ps[i]?=some p->ps[j]?=some q->ps[k]?=some r->i<j->j<k->dQ (Lf h p) (Lf h q) (Lf h r)->False:=fun i j k p q r hi hj hk MQ TH b=>by have:=N [i,j,k] (Oi _ (Oi _ (DH MQ TH (lt hk))));unfold O5 at this;simp only[LD,Q4,gd hi,gd hj,gd hk]at this;exact Fe b this
 rcases hb with⟨p,hp,b⟩| ⟨p,hp,q,hq,b⟩| ⟨p,hp,q,hq,r,hr,b⟩
 ·obtain⟨i,hi⟩:=Vt.mp hp;have:=N [i] (Qi _ (qa (lt hi)));unfold O5 at this;simp only[LD,Q4,gd hi]at this;have Sg:lL (Lf h p)=none:=this;unfold lL at Sg;rw[K4 (nA.mpr b)]at Sg;cases Sg
 ·obtain⟨i,hi⟩:=Vt.mp hp;obtain⟨j,hj⟩:=Vt.mp hq;rcases VA i j with c|c|c
  ·exact two i j p q hi hj c b
  ·subst c;rw[hi]at hj;cases hj;have p0:=b.2;unfold LB at p0;have:=Uq (Lf h p).1;have:=Uq (Lf h p).2
   lia
  ·exact two j i q p hj hi c b.symm
 ·obtain⟨i,hi⟩:=Vt.mp hp;obtain⟨j,hj⟩:=Vt.mp hq;obtain⟨k,hk⟩:=Vt.mp hr;have ne:∀{i j:Nat} {p q r:Sp},ps[i]?=some p->ps[j]?=some q->dQ (Lf h p) (Lf h q) r->i≠j:=fun {i j p q r} hi hj b c=>by
   subst c;rw[hi]at hj;cases hj;unfold dQ at b;rw[o6]at b
   lia
  have n1:=ne hi hj b;have n2:=ne hj hk b.TG;have n3:=ne hk hi b.TG.TG;rcases Vx n1 with c1|c1
  ·rcases Vx n2 with c2|c2
   ·exact three i j k p q r hi hj hk c1 c2 b
   ·rcases Vx n3 with c3|c3
    ·exact three k i j r p q hk hi hj c3 c1 b.TG.TG
    ·exact three i k j p r q hi hk hj c3 c2 b.TG.TG.swap
  ·rcases Vx n2 with c2|c2
   ·rcases Vx n3 with c3|c3
    ·exact three j k i q r p hj hk hi c2 c3 b.TG
    ·exact three j i k q p r hj hi hk c1 c3 b.swap
   ·exact three k j i r q p hk hj hi c2 c1 b.TG.swap
theorem vX(k:Int)(hk:0<=k):∀(xs:yaf) (d:Int),bF (k*d) (xs.map (k*·))=k*bF d xs
 |[],d=>rfl
 |x::xs,d=>by show bF ((Int.gcd (k*d) (k*x):Nat):Int) (xs.map (k*·))=_;rw[Wo,Int.natCast_mul,Int.natAbs_of_nonneg hk,vX k hk xs];rfl
structure Snt(A B C E g:Int)(w v:Sp):Prop where
 x:g*v.1=A*w.1+B*w.2
 y:g*v.2=C*w.1+E*w.2
def BW(h:tn a b=0):LB b b*a.1+(-(LB a b))*b.1=0/\LB b b*a.2+(-(LB a b))*b.2=0:=by
 have e1:LB b b*a.1+(-(LB a b))*b.1=b.2*tn a b:=by unfold LB tn;grind
 have e2:LB b b*a.2+(-(LB a b))*b.2=- (b.1*tn a b):=by unfold LB tn;grind
 rw[e1,e2,h];simp
def jO{a:Sp}(h:a≠(0,0)):0<br a:=by
 have:br a≠0:=fun e=>h (nA.mp e)
 unfold br at this ⊢
 lia
def Lm(g:Tr):D:=T3 g.1 g.2.1 g.2.2
def GR(h:Lm p=Lm q):p=q:=by unfold Lm T3 at h;simp only[D.tup.injEq,QY,D.int.injEq,and_true]at h;exact Pj h.1 (Pj h.2.1 h.2.2)
def GS{ps qs:yav}(h:ps.map Lm=qs.map Lm):ps=qs:=iO GR h
def cX(p:Tr):aL (Lm p)=Lm p:=by unfold Lm T3;simp only[bV,bq,bD,cV]
def rV(ps:yav):bc (ps.map Lm)=ps.map Lm:=cc Lm cX ps
def oL:Option (yaf)->D
 |none=>.LJ
 |some xs=>.lst true (xs.map D.int)
structure WB(n:Nat)(w:Sp):Prop where
 x:Bd n w.1
 y:Bd n w.2
structure PB(n:Nat)(h:Tr):Prop where
 b0:0<h.1
 b:Bd 100 h.1
 x:Bd n h.2.1
 y:Bd n h.2.2
theorem WB.mono{m:Nat}(h:WB n w)(hn:n<=m):WB m w:=⟨h.x.mono hn,h.y.mono hn⟩
def WB.sb(h:WB 60 w):SB w:=⟨h.x,h.y⟩
def NM(hx:Bd n x)(hy:Bd m y)(hn:n<=1000:=by decide)(hm:m<=1000:=by decide):CM x y:=.inr (.inr ⟨hx.mono (NW hn (by decide)),hy.mono (NW hm (by decide))⟩)
theorem nr(x:Int):∀(d:Int) (xs:yaf),bF d (xs++[x])=((Int.gcd (bF d xs) x:Nat):Int)
 |d,[]=>rfl
 |d,y::ys=>nr x _ ys
def oO(h:WB n w):Bd (n+2) (br w):=by
 have hx:=h.x;have hy:=h.y;unfold Bd br at *;have:(2:Nat) ^ (n+2)=2 ^ n*4:=Nat.pow_add 2 n 2
 lia
def FE{x:Int}(h:x≠0):0<Int.gcd ((Int.gcd 0 d:Nat):Int) x:=Int.gcd_pos_iff.mpr (.inr h)
def Bn(hx:Bd n x)(h:x≠0):Bd n ((Int.gcd d x:Nat):Int):=by
 unfold Bd at *;have:=Nat.le_of_dvd (by lia) (Int.gcd_dvd_natAbs_right d x)
 lia
def jL(h:Bd n x):Bd n (-x):=by unfold Bd at *;lia
def HU(p q:Sp):eqD (L3 p) (L3 q)=decide (p=q):=by
 unfold L3;rw[yz,j6,j6,j6,p4,kU,kU,kU,Bool.and_true];by_cases e:p=q
 ·subst e;simp
 ·rw[Q1 e];simp only[decide_true,Bool.true_and,Bool.and_eq_false_iff,decide_eq_false_iff_not];by_cases e1:p.1=q.1
  ·right;intro e2;exact e (Pj e1 e2)
  ·left;exact e1
def tS{α:Type}{xs:List α}{v:α}(h0:0<xs.length)(h:xs[xs.length - 1]?=some v):Mm xs (-1)=some v:=by unfold Mm ixN;rw[K3 (by lia),K4 (by lia)];show xs[(-1+(xs.length:Int)).toNat]?=_;rw[show(-1+(xs.length:Int)).toNat=xs.length - 1 by lia];exact h
structure GB(g:Tr):Prop where
 a:Bd 200 g.1
 b:Bd 200 g.2.1
 c:Bd 200 g.2.2
def CT(ha:SB a)(hb:SB b):WB 62 (aM a b):=by
 unfold aM;split
 ·exact⟨by unfold Bd;decide,by unfold Bd;decide⟩
 ·exact⟨by show Bd 62 (1*b.1 - 1*a.1);rw[O8,O8];exact Bd.mono (m:=61) (hb.x.sub ha.x) (by decide),by show Bd 62 (1*b.2 - 1*a.2);rw[O8,O8];exact Bd.mono (m:=61) (hb.y.sub ha.y) (by decide)⟩
def lN(hs:yat):(aG hs).length<=hs.length+4:=by
 unfold aG dD;split
 ·simp
 ·rw[K8,Nf];lia
def sU(n:Nat):Nat->List (yag)
 |0=>L7 n 1++(L7 n 2++(L7 n 3++[]))
 |1=>L7 n 2++(L7 n 3++[])
 |2=>L7 n 3++[]
 |_=>[]
def B8(n:Nat){j:Nat}(h:j<3):sU n j=L7 n (j+1)++sU n (j+1):=by
 rcases j with _|_|_|j
 ·rfl
 ·rfl
 ·rfl
 ·lia
def Ea(n:Nat):cP n=sU n 0:=by show L7 n 1++(L7 n 2++L7 n 3)=L7 n 1++(L7 n 2++(L7 n 3++[]));rw[Rm]
def BG(ws:yat)(pk:yag)(r:List (yag)):cq ws (pk::r)=match dR (O5 ws pk)with
  |some sh=>some (pk,sh)
  |none=>cq ws r:=rfl
def JI{g p b:Int}(hg:0<g)(e:g*p=b)(h:Bd n b):Bd n p:=by
 unfold Bd at *;rw[<- e,TY]at h;have:1*p.natAbs<=g.natAbs*p.natAbs:=Yl _ (by lia)
 lia
def p8:((10:Int) ^ (8:Int).toNat)=100000000:=by decide
def oR(n:Nat)(x:Str)(hx:PyData.strOk x=true):NQ n (.str x):=⟨by rw[PV]<;>(intros;contradiction),by rw[MA,PyData.canLay0];exact hx,by rw[MA,PyData.depth];exact MK _⟩
def Dl{a:Int}(hb:Bd 402 b)(h:b≠0):Bd 1000 (bF 0 [a,b]):=(Bn hb h).mono (by decide)
def A6{α:Type}{wi:DA}{js:yag}{tc:DT}{te:DE}{Q:D->Prop}{P:List α->Prop}(f:α->D)(c:α->Bool)(g:α->D)(hw:∀R:yar->Prop,(∀ys,P ys->R (ys.map f))->wi ρ R)(hz:∀ys,P ys->ys.length<=sizeLine)
  (hc:∀ys,P ys->∀x∈ys,∀K:Bool->Prop,K (c x)->tc (some (.val (f x))::js.map (bC ρ)) K)
  (he:∀ys,P ys->∀x∈ys,∀K:D->Prop,K (g x)->te (some (.val (f x))::js.map (bC ρ)) K) (q:∀ys,P ys->Q (.lst true ((ys.filter c).map g))):oA wi js tc te ρ Q:=by
 refine hw _ fun ys hy=>?_
 have:=PD.comp_map (wi:=fun _ R=>R (ys.map f)) (js:=js) (tc:=tc) (te:=te) (ρ:=ρ) (Q:=Q) ys f c g (fun R h=>h) (hz ys hy) (fun x hx K k=>hc ys hy x hx K k) (fun x hx _ K k=>he ys hy x hx K k) (q ys hy);exact this
def w6{s1 s2:DS}{ρ:Ro}(P:Ro->Prop)(h2:∀Ld,P Ld->s2 E Ld)(h1:∀K:Ro->Prop,(∀Ld,P Ld->K Ld)->s1 {E with nx:=K} ρ):C9 s1 s2 E ρ:=h1 _ h2
def D7:∀{xs ys ps:yat},cJ xs ps->cJ ys ps->xs=ys:=by
 have go:∀(xs ys:yat),xs.Pairwise (fun p q=>fU p q)->ys.Pairwise (fun p q=>fU p q)->(∀p,p∈xs↔p∈ys)->xs=ys:=by
  intro xs
  induction xs with
  |nil =>
   intro ys _ _ h;cases ys with
   |nil=>rfl
   |cons y ys=>have:=(h y).mpr Ng;cases this
  |cons x xs ih =>
   intro ys ox oy h;cases ys with
   |nil=>have:=(h x).mp Ng;cases this
   |cons y ys =>
    obtain⟨x1,x2⟩:=O7.mp ox;obtain⟨y1,y2⟩:=O7.mp oy;have exy:x=y:=by
     rcases Lp.mp ((h x).mp Ng)with e|e
     ·exact e
     ·rcases Lp.mp ((h y).mpr Ng)with e'|e'
      ·exact e'.symm
      ·have a:=y1 x e;have b:=x1 y e';unfold fU at a b
       lia
    subst exy;have irr:∀p:Sp,¬fU p p:=fun p=>by unfold fU;lia
    rw[ih ys x2 y2 fun p=>⟨fun hp=>?_,fun hp=>?_⟩]
    ·rcases Lp.mp ((h p).mp (L8 _ hp))with e|e
     ·have:=x1 p hp;rw[e]at this;exact absurd this (irr x)
     ·exact e
    ·rcases Lp.mp ((h p).mpr (L8 _ hp))with e|e
     ·have:=y1 p hp;rw[e]at this;exact absurd this (irr x)
     ·exact e
 intro xs ys ps hx hy;exact go xs ys hx.1 hy.1 fun p=>(hx.2 p).trans (hy.2 p).symm
def okX(x:Int):Prop:=0<=x/\x<2147483647
def wsum(sh:yaf)(ws:yat):Sp:=((List.zipWith (fun s (w:Sp)=>s*w.1) sh ws).sum,(List.zipWith (fun s (w:Sp)=>s*w.2) sh ws).sum)
theorem lS:∀(d:Int) (xs:yaf),bF d xs∣d/\∀x∈xs,bF d xs∣x
 |d,[]=>⟨Ss _,by simp⟩
 |d,x::xs=>by
  obtain⟨a,b⟩:=lS ((Int.gcd d x:Nat):Int) xs;refine⟨TZ a (Int.gcd_dvd_left _ _),fun y hy=>?_⟩;rcases Lp.mp hy with z|z
  ·rw[z];exact TZ a (Int.gcd_dvd_right _ _)
  ·exact b y z
theorem vY:∀(d:Int) (xs:yaf),0<=d->0<=bF d xs
 |d,[],h=>h
 |d,x::xs,_=>vY _ xs (Int.natCast_nonneg _)
structure zx(xs:yaf):Prop where
 pos:∀s∈cW xs,0<s
 one:bF 0 (cW xs)=1
 back:∃g:Int,0<g/\(cW xs).map (g*·)=xs
def k8{xs:yaf}(hn:xs ≠ [])(h:∀x∈xs,0<x):zx xs:=by
 obtain⟨x0,XX⟩:=X9 xs hn;have gp:0<bF 0 xs:=by
  have a:=vY 0 xs (Oe _);have:bF 0 xs≠0:=fun e=>by
   have:=(lS 0 xs).2 x0 XX;rw[e]at this;have:=Int.zero_dvd.mp this;have:=h x0 XX
   lia
  lia
 have bk:(cW xs).map (bF 0 xs*·)=xs:=by
  unfold cW;rw[MJ];have:∀x∈xs,((bF 0 xs*·)∘fun x=>x.fdiv (bF 0 xs)) x=x:=fun x hx=>by show bF 0 xs*x.fdiv (bF 0 xs)=x;rw[Int.fdiv_eq_ediv_of_dvd ((lS 0 xs).2 x hx)];exact Int.mul_ediv_cancel' ((lS 0 xs).2 x hx)
  rw[So this,List.map_id']
 refine⟨fun s hs=>?_,?_,_,gp,bk⟩
 ·have hm:bF 0 xs*s∈xs:=by
   have:bF 0 xs*s∈(cW xs).map (bF 0 xs*·):=LR.mpr ⟨s,hs,rfl⟩;rw[bk]at this;exact this
  have:=h _ hm;exact D5 (y:=bF 0 xs) (by rw[Nx];exact this) gp
 ·have:=vX (bF 0 xs) (MI gp) (cW xs) 0;rw[bk,SU]at this;have h2:bF 0 xs*1=bF 0 xs*bF 0 (cW xs):=by rw[Int.mul_one];exact this
  exact(Y3 (by lia) h2).symm
structure uO(ws:yat)(sh:yaf):Prop where
 len:sh.length=ws.length
 pos:∀s∈sh,0<s
 one:bF 0 sh=1
 sum:wsum sh ws=(0,0)
def GU(h:gS a b):br b*a.1+br a*b.1=0/\br b*a.2+br a*b.2=0:=by
 have hb:b≠(0,0):=fun e=>by have:=h.2;rw[e]at this;unfold LB at this;simp at this
 obtain⟨e1,e2⟩:=BW h.1;have px:=jD hb;have py:0 < -(LB a b):=by have:=h.2;lia
 generalize LB b b=x at e1 e2 px;generalize -(LB a b)=y at e1 e2 py;have l:x*br a=y*br b:=by
  have n1:x.natAbs*a.1.natAbs=y.natAbs*b.1.natAbs:=by rw[<- TY,<- TY];lia
  have n2:x.natAbs*a.2.natAbs=y.natAbs*b.2.natAbs:=by rw[<- TY,<- TY];lia
  have c1:=congrArg (fun n:Nat=>(n:Int)) n1;have c2:=congrArg (fun n:Nat=>(n:Int)) n2;simp only[Int.natCast_mul,Int.natAbs_of_nonneg (MI px),Int.natAbs_of_nonneg (MI py)]at c1 c2;unfold br;rw[Int.mul_add,Int.mul_add,c1,c2]
 have z:∀u v:Int,x*u+y*v=0->br b*u+br a*v=0:=fun u v e=>by
  have:x*(br b*u+br a*v)=br b*(x*u+y*v)+v*(x*br a - y*br b):=by grind
  rw[e,l,Int.sub_self,SU,SU,Rp]at this;exact(Qc.mp this).resolve_left (by lia)
 exact⟨z _ _ e1,z _ _ e2⟩
def qG(L:zx xs)(h:wsum xs ws=(0,0)):wsum (cW xs) ws=(0,0):=by
 obtain⟨g,gp,bk⟩:=L.back;have key:∀(f:Sp->Int) (l:yaf) (us:yat),(List.zipWith (fun s w=>s*f w) (l.map (g*·)) us).sum=g*(List.zipWith (fun s w=>s*f w) l us).sum:=fun f l=>by
  induction l with
  |nil=>intro us;simp
  |cons s l ih =>
   intro us;cases us with
   |nil=>simp
   |cons u us =>
    simp only[LD,QV,Ov];rw[ih us,Int.mul_add,UH]
 unfold wsum at h ⊢;rw[<- bk]at h;rw[Qm]at h ⊢;rw[key (fun w=>w.1),key (fun w=>w.2)]at h;have z:∀t:Int,g*t=0->t=0:=fun t e=>(Qc.mp e).resolve_left (by lia)
 exact⟨z _ h.1,z _ h.2⟩
def mW{ws:yat}{sh:yaf}(h3:ws.length<=3)(h:dR ws=some sh):uO ws sh:=by
 rcases ws with _|⟨a,_|⟨b,_|⟨e,_|⟨z,r⟩⟩⟩⟩
 ·cases h
 ·have h':lL a=some sh:=h;unfold lL at h';split at h'
  ·rename_i c;cases h';have:=nA.mp c;subst this;exact⟨rfl,by simp,rfl,by unfold wsum;simp⟩
  ·cases h'
 ·have h':ky a b=some sh:=h;unfold ky at h';split at h'
  ·rename_i c;cases h';have c':gS a b:=c;have na:a≠(0,0):=fun e=>by have:=c.2;rw[e]at this;unfold LB at this;simp at this
   have nb:b≠(0,0):=fun e=>by have:=c.2;rw[e]at this;unfold LB at this;simp at this
   have L:=k8 (xs:=[br b,br a]) (by simp) fun x hx=>by
    simp only[Lp,Nq,or_false]at hx;rcases hx with rfl|rfl
    ·exact jO nb
    ·exact jO na
   obtain⟨t1,t2⟩:=GU c';refine⟨by unfold cW;simp,L.pos,L.one,qG L ?_⟩;unfold wsum;simp only[QV,Wj,Ov,T4,Rp,t1,t2]
  ·cases h'
 ·have h':iW a b e=some sh:=h;obtain⟨b1,b2⟩:=C1 a b e;unfold iW at h';split at h'
  ·rename_i c;cases h';have L:=k8 (xs:=[tn b e,tn e a,tn a b]) (by simp) fun x hx=>by
    simp only[Lp,Nq,or_false]at hx;rcases hx with rfl|rfl|rfl
    ·exact c.1
    ·exact c.2.1
    ·exact c.2.2
   refine⟨by unfold cW;simp,L.pos,L.one,qG L ?_⟩;unfold wsum;simp only[QV,Wj,Ov,T4,Rp];rw[<- Int.add_assoc,<- Int.add_assoc,b1,b2]
  ·split at h'
   ·rename_i c;cases h';have L:=k8 (xs:=[-tn b e,-tn e a,-tn a b]) (by simp) fun x hx=>by
     simp only[Lp,Nq,or_false]at hx;rcases hx with rfl|rfl|rfl<;>lia
    refine⟨by unfold cW;simp,L.pos,L.one,qG L ?_⟩;unfold wsum;simp only[QV,Wj,Ov,T4,Rp,Ox];rw[Qm]
    lia
   ·cases h'
 ·exact absurd h3 (by simp)
theorem uk:∀{XW:List (yag)} {pk:yag} {sh:yaf},cq ws XW=some (pk,sh)->pk∈XW/\dR (O5 ws pk)=some sh
 |[],_,_,h=>by cases h
 |p::q,pk,sh,h=>by
  rw[show cq ws (p::q)=(match dR (O5 ws p)with|some sh=>some (p,sh)|none=>cq ws q)from rfl]at h;cases hb:dR (O5 ws p)with
  |none =>
   rw[hb]at h;obtain⟨a,b⟩:=uk h;exact⟨L8 _ a,b⟩
  |some s =>
   rw[hb]at h;cases h;exact⟨Ng,hb⟩
theorem wz:∀{j:Nat} {pk:yag},pk∈L7 n j->pk.Pairwise (·<·)
 |0,pk,h=>by simp only[L7,M4]at h;subst h;exact .nil
 |j+1,pk,h=>by
  simp only[L7,Wr]at h;obtain⟨q,hq,h⟩:=h;have ih:=wz hq;unfold O2 at h;obtain⟨k,hk,rfl⟩:=LR.mp h;rw[Rj]at hk;refine Wk.mpr ⟨ih,List.pairwise_singleton _ _,fun x hx y hy=>?_⟩;rw[M4.mp hy];have hf:x<dm q:=by
   unfold dm;cases e:q.getLast? with
   |none=>rw[Wc.mp e]at hx;cases hx
   |some l =>
    obtain⟨q',rfl⟩:=List.getLast?_eq_some_iff.mp e;rcases Mc.mp hx with z|z
    ·have:=(Wk.mp ih).2.2 x z l (by simp);show x<l+1
     lia
    ·rw[M4.mp z];exact Pf _
  lia
def sX(ps:yat)(ws:yaf):Int:=(List.zipWith (fun(p:Sp) w=>p.1*w) ps ws).sum
def sY(ps:yat)(ws:yaf):Int:=(List.zipWith (fun(p:Sp) w=>p.2*w) ps ws).sum
structure CL(ps:yat)(h:Tr)(pk:yag)(sh:yaf):Prop where
 l0:0<pk.length
 l3:pk.length<=3
 ls:sh.length=pk.length
 rise:pk.Pairwise (·<·)
 lt:∀k∈pk,k<ps.length
 pos:∀s∈sh,0<s
 bd:∀s∈sh,Bd 900 s
 one:bF 0 sh=1
 x:sh.sum*h.2.1=h.1*sX (pk.map fun k=>ps.getD k (0,0)) sh
 y:sh.sum*h.2.2=h.1*sY (pk.map fun k=>ps.getD k (0,0)) sh
theorem xk(h:Tr):∀(qs:yat) (sh:yaf),sh.length=qs.length->(wsum sh (qs.map (Lf h))).1=h.1*sX qs sh - sh.sum*h.2.1/\(wsum sh (qs.map (Lf h))).2=h.1*sY qs sh - sh.sum*h.2.2
 |[],[],_=>by unfold wsum sX sY;simp
 |[],_::_,h=>by simp at h
 |_::_,[],h=>by simp at h
 |q::qs,s::sh,hl=>by obtain⟨a,b⟩:=xk h qs sh (by simpa using hl);unfold wsum sX at a;unfold wsum sY at b;unfold wsum sX sY;simp only[LD,QV,Ov]at a b ⊢;rw[a,b];unfold Lf;constructor<;>grind
def wD(L:zx xs)(h:∀x∈xs,Bd n x):∀s∈cW xs,Bd n s:=fun s hs=>by obtain⟨g,gp,bk⟩:=L.back;have:g*s∈(cW xs).map (g*·):=LR.mpr ⟨s,hs,rfl⟩;rw[bk]at this;exact JI gp rfl (h _ this)
def vh{ws:yat}{sh:yaf}(hw:∀w∈ws,WB 400 w)(h3:ws.length<=3)(h:dR ws=some sh):∀s∈sh,Bd 900 s:=by
 rcases ws with _|⟨a,_|⟨b,_|⟨e,_|⟨z,r⟩⟩⟩⟩
 ·cases h
 ·have h':lL a=some sh:=h;unfold lL at h';split at h'
  ·cases h';intro s hs;rw[M4.mp hs];unfold Bd;exact M5 (show 1<2 ^ 1 by decide) (Uw (by decide) (by decide))
  ·cases h'
 ·have h':ky a b=some sh:=h;unfold ky at h';split at h'
  ·rename_i c;cases h';have na:a≠(0,0):=fun e=>by have:=c.2;rw[e]at this;unfold LB at this;simp at this
   have nb:b≠(0,0):=fun e=>by have:=c.2;rw[e]at this;unfold LB at this;simp at this
   have L:=k8 (xs:=[br b,br a]) (by simp) fun x hx=>by
    simp only[Lp,Nq,or_false]at hx;rcases hx with rfl|rfl
    ·exact jO nb
    ·exact jO na
   refine wD L fun x hx=>?_
   simp only[Lp,Nq,or_false]at hx;rcases hx with rfl|rfl
   ·exact(oO (hw b (by simp))).mono (by decide)
   ·exact(oO (hw a (by simp))).mono (by decide)
  ·cases h'
 ·have h':iW a b e=some sh:=h;have ha:=hw a (by simp);have hb:=hw b (by simp);have he:=hw e (by simp);have b1:Bd 900 (tn b e):=Bd.mono (m:=801) ((hb.x.mul he.y).sub (he.x.mul hb.y)) (by decide);have b2:Bd 900 (tn e a):=Bd.mono (m:=801) ((he.x.mul ha.y).sub (ha.x.mul he.y)) (by decide);have b3:Bd 900 (tn a b):=Bd.mono (m:=801) ((ha.x.mul hb.y).sub (hb.x.mul ha.y)) (by decide);unfold iW at h';split at h'
  ·rename_i c;cases h';have L:=k8 (xs:=[tn b e,tn e a,tn a b]) (by simp) fun x hx=>by
    simp only[Lp,Nq,or_false]at hx;rcases hx with rfl|rfl|rfl
    ·exact c.1
    ·exact c.2.1
    ·exact c.2.2
   refine wD L fun x hx=>?_
   simp only[Lp,Nq,or_false]at hx;rcases hx with rfl|rfl|rfl
   ·exact b1
   ·exact b2
   ·exact b3
  ·split at h'
   ·rename_i c;cases h';have L:=k8 (xs:=[-tn b e,-tn e a,-tn a b]) (by simp) fun x hx=>by
     simp only[Lp,Nq,or_false]at hx;rcases hx with rfl|rfl|rfl<;>lia
    refine wD L fun x hx=>?_
    simp only[Lp,Nq,or_false]at hx;rcases hx with rfl|rfl|rfl
    ·exact jL b1
    ·exact jL b2
    ·exact jL b3
   ·cases h'
 ·exact absurd h3 (by simp)
def JP{ps:yat}{pk:yag}{sh:yaf}(hb:∀p∈ps,WB 40 p)(hP:PB 160 h)(e:cq (ps.map (Lf h)) (cP ps.length)=some (pk,sh)):CL ps h pk sh:=by
 obtain⟨hm,hbl⟩:=uk e;have hlev:∃j,0<j/\j<=3/\pk∈L7 ps.length j:=by
  unfold cP at hm;rcases Mc.mp hm with q|q
  ·exact⟨1,by decide,by decide,q⟩
  ·rcases Mc.mp q with q|q
   ·exact⟨2,by decide,by decide,q⟩
   ·exact⟨3,by decide,by decide,q⟩
 obtain⟨j,j0,j3,hj⟩:=hlev;obtain⟨hl,MR⟩:=gn hj;have ep:O5 (ps.map (Lf h)) pk=(pk.map fun k=>ps.getD k (0,0)).map (Lf h):=by unfold O5;rw[MJ];apply So;intro k hk;have:=MR k hk;simp only[Function.comp,Mf,LZ,LM this,Option.map_some,UC]
 have lw:(O5 (ps.map (Lf h)) pk).length=j:=by unfold O5;rw[K8,hl]
 have wB:∀w∈O5 (ps.map (Lf h)) pk,WB 400 w:=fun w hw=>by
  rw[ep]at hw;obtain⟨p,hp,rfl⟩:=LR.mp hw;obtain⟨k,hk,rfl⟩:=LR.mp hp;have lk:=MR k hk;have B:=hb (ps.getD k (0,0)) (by rw[Mf,LM lk];exact PG lk);refine⟨?_,?_⟩
  ·show Bd 400 (h.1*_ - 1*h.2.1);rw[O8];exact Bd.mono (m:=161) (((hP.b.mul B.x).mono (by decide)).sub hP.x) (by decide)
  ·show Bd 400 (h.1*_ - 1*h.2.2);rw[O8];exact Bd.mono (m:=161) (((hP.b.mul B.y).mono (by decide)).sub hP.y) (by decide)
 have B:=mW (by lia) hbl;have bd:=vh wB (by lia) hbl;have s:=B.sum;have ls:sh.length=pk.length:=by rw[B.len,lw,hl]
 rw[ep]at s;obtain⟨x1,x2⟩:=xk h (pk.map fun k=>ps.getD k (0,0)) sh (by rw[ls,K8]);rw[s]at x1 x2;have x1':0=h.1*sX (pk.map fun k=>ps.getD k (0,0)) sh - sh.sum*h.2.1:=x1;have x2':0=h.1*sY (pk.map fun k=>ps.getD k (0,0)) sh - sh.sum*h.2.2:=x2;exact⟨by lia,by lia,ls,wz hj,MR,B.pos,bd,B.one,by lia,by lia⟩
def LF(a b:Tr):Tr:=(a.2.1*b.2.2 - a.2.2*b.2.1,a.2.2*b.1 - a.1*b.2.2,a.1*b.2.1 - a.2.1*b.1)
def Mn(a b c:Tr):Int:=KZ (LF a b) c
def eU(a b c:Tr):Mn a b c=Mn b c a:=by unfold Mn KZ LF;grind
def pZ(a b c:Tr):Mn a b c=- Mn b a c:=by unfold Mn KZ LF;grind
def Bk(a c:Tr):Mn a a c=0:=by unfold Mn KZ LF;grind
def oH(a b:Tr):Mn a b a=0:=by unfold Mn KZ LF;grind
def oI(a b:Tr):Mn a b b=0:=by unfold Mn KZ LF;grind
structure Ur(q a b:Tr)(m s t:Int):Prop where
 m0:0<m
 s0:0<s
 t0:0<t
 e1:m*q.1=s*a.1+t*b.1
 e2:m*q.2.1=s*a.2.1+t*b.2.1
 e3:m*q.2.2=s*a.2.2+t*b.2.2
def Ur.gv(C:Ur q a b m s t)(g:Tr):m*KZ g q=s*KZ g a+t*KZ g b:=by have h1:=C.e1;have h2:=C.e2;have h3:=C.e3;unfold KZ;grind
def Ur.V4(C:Ur q a b m s t)(ha:0<=KZ g a)(hb:0<=KZ g b):0<=KZ g q:=by
 have h:=C.gv g;have h1:=M8 (MI C.s0) ha;have h2:=M8 (MI C.t0) hb;have:0<=m*KZ g q:=by lia
 exact Sm this C.m0
def Ur.zero(C:Ur q a b m s t)(ha:KZ g a=0)(hb:KZ g b=0):KZ g q=0:=by
 have h:=C.gv g;rw[ha,hb]at h;have h':m*KZ g q=0:=by lia
 rcases Qc.mp h' with z|z
 ·have:=C.m0;lia
 ·exact z
def aF(g:Tr)(qf:Tr->Tr->Tr):Tr->yav->yav
 |_,[]=>[]
 |p,c::r=>(if KZ g p*KZ g c<0 then[qf p c]else[])++((if 0<=KZ g c then[c]else[])++aF g qf c r)
def RA(g:Tr)(qf:Tr->Tr->Tr):Prop:=∀p c:Tr,0<p.1->0<c.1->KZ g p*KZ g c<0->(∃m s t,Ur (qf p c) p c m s t)/\KZ g (qf p c)=0
theorem qE(B:RA g qf):∀(l:yav) (p:Tr),(∀x∈p::l,0<x.1)->(∀x∈p::l,0<=KZ d x)->∀y∈aF g qf p l,0<=KZ d y
 |[],_,_,_=>fun y hy=>by cases hy
 |c::r,p,h1,hd=>fun y hy=>by
  unfold aF at hy;rcases Mc.mp hy with q|q
  ·split at q
   ·rename_i lt;rw[M4.mp q];obtain⟨⟨m,s,t,C⟩,_⟩:=B p c (h1 p (by simp)) (h1 c (by simp)) lt;exact C.V4 (hd p (by simp)) (hd c (by simp))
   ·cases q
  ·rcases Mc.mp q with q|q
   ·split at q
    ·rw[M4.mp q];exact hd c (by simp)
    ·cases q
   ·exact qE B r c (fun x hx=>h1 x (L8 _ hx)) (fun x hx=>hd x (L8 _ hx)) y q
theorem qF(B:RA g qf):∀(l:yav) (p:Tr),(∀x∈p::l,0<x.1)->∀y∈aF g qf p l,0<y.1
 |[],_,_=>fun y hy=>by cases hy
 |c::r,p,h1=>fun y hy=>by
  unfold aF at hy;rcases Mc.mp hy with q|q
  ·split at q
   ·rename_i lt;rw[M4.mp q];obtain⟨⟨m,s,t,C⟩,_⟩:=B p c (h1 p (by simp)) (h1 c (by simp)) lt;have a1:=Qf C.s0 (h1 p (by simp));have a2:=Qf C.t0 (h1 c (by simp));have:=C.e1;have hm:0<m*(qf p c).1:=by lia
    exact Ph.mp fun z=>by have:=Int.mul_nonpos_of_nonneg_of_nonpos (MI C.m0) z;lia
   ·cases q
  ·rcases Mc.mp q with q|q
   ·split at q
    ·rw[M4.mp q];exact h1 c (by simp)
    ·cases q
   ·exact qF B r c (fun x hx=>h1 x (L8 _ hx)) y q
theorem iu(g:Tr)(qf:Tr->Tr->Tr):∀(a:yav) (p c:Tr) (b:yav),aF g qf p (a++c::b)=aF g qf p (a++[c])++aF g qf c b
 |[],p,c,b=>by simp only[Pg,aF,Rm,QH]
 |x::a,p,c,b=>by simp only[Od,aF,iu g qf a x c b,QH]
theorem uz(B:RA g qf):∀(l:yav) (p:Tr),(∀x∈p::l,0<x.1)->∀y∈aF g qf p l,0<=KZ g y
 |[],_,_=>fun y hy=>by cases hy
 |c::r,p,h1=>fun y hy=>by
  unfold aF at hy;rcases Mc.mp hy with q|q
  ·split at q
   ·rename_i lt;rw[M4.mp q,(B p c (h1 p (by simp)) (h1 c (by simp)) lt).2];exact Oe _
   ·cases q
  ·rcases Mc.mp q with q|q
   ·split at q
    ·rename_i le;rw[M4.mp q];exact le
    ·cases q
   ·exact uz B r c (fun x hx=>h1 x (L8 _ hx)) y q
theorem og:∀(l:yav) (p:Tr) {x:Tr},x∈l->0<=KZ g x->x∈aF g qf p l
 |[],_,_,h,_=>by cases h
 |c::r,p,x,h,hx=>by
  unfold aF;rcases Lp.mp h with rfl|h
  ·rw[K4 hx];simp
  ·exact Oi _ (Oi _ (og r c h hx))
theorem mJ(B:RA g qf):∀(l:yav) (p z:Tr),(∀x∈p::l,0<x.1)->0<z.1->KZ g p*KZ g z<0->∃y∈aF g qf p (l++[z]),KZ g y=0/\∀d:Tr,(∀x∈p::(l++[z]),0<=KZ d x)->0<=KZ d y
 |[],p,z,h1,hz,lt=>by obtain⟨⟨m,s,t,C⟩,e⟩:=B p z (h1 p (by simp)) hz lt;refine⟨qf p z,?_,e,fun d hd=>C.V4 (hd p (by simp)) (hd z (by simp))⟩;rw[Pg];unfold aF;rw[K4 lt];simp
 |c::r,p,z,h1,hz,lt=>by
  rcases TQ (KZ g p*KZ g c) 0 with q|q|q
  ·obtain⟨⟨m,s,t,C⟩,e⟩:=B p c (h1 p (by simp)) (h1 c (by simp)) q;refine⟨qf p c,?_,e,fun d hd=>C.V4 (hd p (by simp)) (hd c (by simp))⟩;rw[Od];unfold aF;rw[K4 q];simp
  ·have hp:KZ g p≠0:=fun e=>by rw[e,QJ]at lt;exact Q3 _ lt
   have hc:KZ g c=0:=(Qc.mp q).resolve_left hp;exact⟨c,og _ _ (by simp) (by lia),hc,fun d hd=>hd c (by simp)⟩
  ·have lt2:KZ g c*KZ g z<0:=by
    rcases Int.lt_or_gt_of_ne (show KZ g p≠0 from fun e=>by rw[e,QJ]at lt;exact Q3 _ lt)with a|a
    ·have b:0<KZ g z:=Ph.mp fun b=>Ph.mpr lt (V9 (MI a) b)
     have d:KZ g c<0:=Ph.mp fun d=>Ph.mpr q (Vo (MI a) d)
     exact QU d b
    ·have b:KZ g z<0:=Ph.mp fun b=>Ph.mpr lt (M8 (MI a) b)
     have d:0<KZ g c:=Ph.mp fun d=>Ph.mpr q (Int.mul_nonpos_of_nonneg_of_nonpos (MI a) d)
     exact Vr d b
   obtain⟨y,hy,e,hd⟩:=mJ B r c z (fun x hx=>h1 x (L8 _ hx)) hz lt2;refine⟨y,?_,e,fun d k=>hd d fun x hx=>k x (L8 _ hx)⟩;rw[Od];unfold aF;exact Oi _ (Oi _ hy)
def P9(l:yav):Prop:=∀x y z,List.Sublist [x,y,z] l->0<=Mn x y z
def P9.sub{k:yav}(h:P9 l)(s:k.Sublist l):P9 k:=fun x y z q=>h x y z (q.trans s)
def kx:yav->Prop
 |[]=>True
 |p::r=>r.Pairwise (fun a b=>0<=Mn p a b)/\kx r
theorem P9.p:∀{l:yav},P9 l->kx l
 |[],_=>True.intro
 |p::r,h=>⟨List.pairwise_iff_forall_sublist.mpr fun {a b} s=>h p a b (s.cons_cons p),P9.p (h.sub (List.sublist_cons_self p r))⟩
theorem kx.t:∀{l:yav},kx l->P9 l
 |[],_,_,_,_,s=>by cases s
 |p::r,h,x,y,z,s=>by
  cases s with
  |cons _ s=>exact kx.t h.2 x y z s
  |cons_cons _ s=>exact List.pairwise_iff_forall_sublist.mp h.1 s
theorem kj(B:RA g qf):∀(l:yav) (p:Tr),(∀x∈p::l,0<x.1)->(p::l).Pairwise (fun a b=>0<=Mn d a b)->(p::aF g qf p l).Pairwise (fun a b=>0<=Mn d a b)
 |[],_,_,h=>h
 |c::r,p,h1,h=>by
  have LS:∀x∈c::r,0<x.1:=fun x hx=>h1 x (L8 _ hx)
  obtain⟨hp,hc⟩:=O7.mp h;have ih:=kj B r c LS hc;obtain⟨YK,V3⟩:=O7.mp ih;have hw:∀w∈aF g qf c r,0<=Mn d p w:=qE B r c LS (d:=LF d p) hp;have OB:0<=Mn d p c:=hp c (by simp);unfold aF;by_cases lt:KZ g p*KZ g c<0
  ·rw[K4 lt];obtain⟨⟨m,s,t,C⟩,e⟩:=B p c (h1 p (by simp)) (h1 c (by simp)) lt;have pq:0<=Mn d p (qf p c):=C.V4 (g:=LF d p) (by show 0<=Mn d p p;rw[oI];exact Oe _) OB;have qx:∀x,0<=Mn d p x->0<=Mn d c x->0<=Mn d (qf p c) x:=fun x a b=>by
    rw[eU,eU]at a b ⊢;exact C.V4 (g:=LF x d) a b
   have qc:0<=Mn d (qf p c) c:=qx c OB (by rw[oI];exact Oe _);by_cases le:0<=KZ g c
   ·rw[K4 le];refine O7.mpr ⟨fun a ha=>?_,O7.mpr ⟨fun a ha=>?_,?_⟩⟩
    ·simp only[Od,Pg,Lp]at ha;rcases ha with rfl|rfl|ha
     ·exact pq
     ·exact OB
     ·exact hw a ha
    ·rcases Lp.mp (show a∈c::aF g qf c r from ha)with e|ha
     ·rw[e];exact qc
     ·exact qx a (hw a ha) (YK a ha)
    ·exact ih
   ·rw[K3 le];refine O7.mpr ⟨fun a ha=>?_,O7.mpr ⟨fun a ha=>?_,?_⟩⟩
    ·simp only[Od,Pg,Lp]at ha;rcases ha with rfl|ha
     ·exact pq
     ·exact hw a ha
    ·simp only[Pg]at ha;exact qx a (hw a ha) (YK a ha)
    ·exact V3
  ·rw[K3 lt];by_cases le:0<=KZ g c
   ·rw[K4 le];refine O7.mpr ⟨fun a ha=>?_,ih⟩;simp only[Od,Pg,Lp]at ha;rcases ha with rfl|ha
    ·exact OB
    ·exact hw a ha
   ·rw[K3 le];exact O7.mpr ⟨hw,V3⟩
theorem xi(B:RA g qf):∀(l:yav) (p:Tr),(∀x∈p::l,0<x.1)->kx (p::l)->kx (p::aF g qf p l)
 |[],_,_,h=>h
 |c::r,p,h1,h=>by
  have LS:∀x∈c::r,0<x.1:=fun x hx=>h1 x (L8 _ hx)
  have ih:=xi B r c LS h.2;have hp:(p::c::r).Pairwise fun a b=>0<=Mn p a b:=O7.mpr ⟨fun a _=>by rw[Bk];exact Oe _,h.1⟩
  have pw:=(O7.mp (kj (d:=p) B (c::r) p h1 hp)).2;refine⟨pw,?_⟩;have hcr:(c::r).Pairwise fun a b=>0<=Mn p a b:=h.1
  have p1:=kj (d:=p) B r c LS hcr;have hc:(c::r).Pairwise fun a b=>0<=Mn c a b:=O7.mpr ⟨fun a _=>by rw[Bk];exact Oe _,h.2.1⟩
  have p2:=kj (d:=c) B r c LS hc;unfold aF;by_cases lt:KZ g p*KZ g c<0
  ·rw[K4 lt];obtain⟨⟨m,s,t,C⟩,e⟩:=B p c (h1 p (by simp)) (h1 c (by simp)) lt;have pq:(c::aF g qf c r).Pairwise fun a b=>0<=Mn (qf p c) a b:=by
    refine List.Pairwise.imp ?_ (List.pairwise_and_iff.mpr ⟨p1,p2⟩);intro a b ⟨x,y⟩;rw[eU]at x y ⊢;exact C.V4 (g:=LF a b) x y
   by_cases le:0<=KZ g c
   ·rw[K4 le];exact⟨pq,ih⟩
   ·rw[K3 le];exact⟨(O7.mp pq).2,ih.2⟩
  ·rw[K3 lt];by_cases le:0<=KZ g c
   ·rw[K4 le];exact ih
   ·rw[K3 le];exact ih.2
def Cp{l:yav}{a:Tr}(h:P9 (l++[a])):P9 (a::(l++[a])):=fun x y z s=>by
 cases s with
 |cons _ s=>exact h x y z s
 |cons_cons _ s =>
  obtain⟨k1,k2,e,s1,s2⟩:=List.sublist_append_iff.mp s;rcases k2 with _|⟨w,k2⟩
  ·rw[Rm]at e;subst e;have:=h y z a (by
    have:[y,z,a]=[y,z]++[a]:=rfl;rw[this];exact s1.append (List.Sublist.refl _))
   rw[eU];exact this
  ·have hk:k2=[]:=by
    have:=s2.length_le;simp at this;exact this
   subst hk;have hw:w=a:=M4.mp (s2.subset (by simp));subst hw;rcases k1 with _|⟨u,_|⟨v,k1⟩⟩
   ·cases e
   ·cases e;rw[oH];exact Oe _
   ·exact absurd (congrArg List.length e) (by simp)
def Si(l:yav)(X:Tr):Prop:=∀h:Tr,(∀p∈l,0<=KZ h p)->0<=KZ h X
def LL(g u v:Tr):Tr:=(KZ g v*u.1 - KZ g u*v.1,KZ g v*u.2.1 - KZ g u*v.2.1,KZ g v*u.2.2 - KZ g u*v.2.2)
def CA(g u v h:Tr):KZ h (LL g u v)=KZ g v*KZ h u - KZ g u*KZ h v:=by unfold LL KZ;grind
def BX(e1:KZ g y=0)(e2:Mn u v y=0):KZ h y*(LL g u v).1=y.1*KZ h (LL g u v):=by unfold Mn KZ LF at e2;unfold LL KZ at *;dsimp only at *;grind
def GV(e1:KZ g y1=0)(e2:KZ g y2=0)(d1:Mn u v y1<=0)(d2:0<=Mn u v y2)(p1:0<y1.1)(p2:0<y2.1)(h1:0<=KZ h y1)(h2:0<=KZ h y2):0<=KZ h (LL g u v)*(LL g u v).1:=by
 by_cases z:Mn u v y1=0
 ·have k:=BX (h:=h) e1 z;have sq:0<=(LL g u v).1*(LL g u v).1:=Uq _;have:0<=y1.1*(KZ h (LL g u v)*(LL g u v).1):=by
   have:y1.1*(KZ h (LL g u v)*(LL g u v).1)=KZ h y1*((LL g u v).1*(LL g u v).1):=by rw[<- UH,<- k,UH]
   rw[this];exact M8 h1 sq
  exact Sm this p1
 ·have lt:Mn u v y1<0:=by lia
  generalize ha:Mn u v y1=a at *;generalize hb:Mn u v y2=b at *
  let y:Tr:=(b*y1.1 - a*y2.1,b*y1.2.1 - a*y2.2.1,b*y1.2.2 - a*y2.2.2)
  have V5:∀f:Tr,KZ f y=b*KZ f y1 - a*KZ f y2:=fun f=>by show KZ f (b*y1.1 - a*y2.1,b*y1.2.1 - a*y2.2.1,b*y1.2.2 - a*y2.2.2)=_;unfold KZ;grind
  have k:=BX (h:=h) (u:=u) (v:=v) (y:=y) (g:=g) (by rw[V5,e1,e2];simp) (by
   show KZ (LF u v) y=0;rw[V5];show b*Mn u v y1 - a*Mn u v y2=0;rw[ha,hb,Nx]
   lia)
  rw[V5]at k;have y0:0<y.1:=by
   show 0<b*y1.1 - a*y2.1;have:=M8 d2 (MI p1);have:=QU lt p2
   lia
  have n:0<=b*KZ h y1 - a*KZ h y2:=by
   have:=M8 d2 h1;have:=Vo (MI lt) h2
   lia
  have sq:0<=(LL g u v).1*(LL g u v).1:=Uq _;have:0<=y.1*(KZ h (LL g u v)*(LL g u v).1):=by
   have:y.1*(KZ h (LL g u v)*(LL g u v).1)=(b*KZ h y1 - a*KZ h y2)*((LL g u v).1*(LL g u v).1):=by rw[<- UH,<- k,UH]
   rw[this];exact M8 n sq
  exact Sm this y0
def vE(B:RA g qf){A C D:yav}{u v z:Tr}(hz:A++u::(C++v::D)=(A++u::(C++v::D)).dropLast++[z])(OH:P9 (A++u::(C++v::D)))(pos:∀x∈A++u::(C++v::D),0<x.1)
  (lt:KZ g u*KZ g v<0) (hh:∀y∈aF g qf z (A++u::(C++v::D)),0<=KZ h y):0<=KZ h (LL g u v)*(LL g u v).1:=by
 have hu:0<u.1:=pos u (by simp);have hv:0<v.1:=pos v (by simp);have hC:∀x∈C,0<x.1:=fun x hx=>pos x (by simp[hx])
 have hA:∀x∈A,0<x.1:=fun x hx=>pos x (by simp[hx])
 have hD:∀x∈D,0<x.1:=fun x hx=>pos x (by simp[hx])
 have zp:0<z.1:=pos z (by rw[hz];simp);have w1:aF g qf z (A++u::(C++v::D))=aF g qf z (A++[u])++(aF g qf u (C++[v])++aF g qf v D):=by rw[iu g qf A z u,iu g qf C u v]
 obtain⟨y1,m1,e1,d1⟩:=mJ B C u v (fun x hx=>by
  rcases Lp.mp hx with rfl|hx
  ·exact hu
  ·exact hC x hx) hv lt
 have p1:0<y1.1:=qF B (C++[v]) u (fun x hx=>by
  simp only[Lp,Mc,Nq,or_false]at hx;rcases hx with rfl|hx|rfl
  ·exact hu
  ·exact hC x hx
  ·exact hv) y1 m1
 have s1:Mn u v y1<=0:=by
  have:=d1 (LF v u) fun x hx=>by
   show 0<=Mn v u x;simp only[Lp,Mc,Nq,or_false]at hx;rcases hx with rfl|hx|rfl
   ·rw[oI];exact Oe _
   ·have t:=OH u x v (by
     have a:List.Sublist [u,x,v] (u::(C++v::D)):=by refine List.Sublist.cons_cons u ?_;have:[x,v]=[x]++[v]:=rfl;rw[this];exact(Uv.mpr hx).append (Uv.mpr (by simp))
     exact a.trans (Uu _ _))
    rw[eU,eU]at t;exact t
   ·rw[oH];exact Oe _
  have q:0<=Mn v u y1:=this;rw[pZ]
  lia
 have dn:∀x∈v::D++(A++[u]),0<=Mn u v x:=fun x hx=>by
  simp only[Lp,Mc,Nq,or_false,Od]at hx;rcases hx with rfl|hx|hx|rfl
  ·rw[oI];exact Oe _
  ·exact OH u v x (by
    have a:List.Sublist [u,v,x] (u::(C++v::D)):=by refine List.Sublist.cons_cons u ?_;exact(List.Sublist.cons_cons v (Uv.mpr hx)).trans (Uu _ _)
    exact a.trans (Uu _ _))
  ·have t:=OH x u v (by
    have:[x,u,v]=[x]++[u,v]:=rfl;rw[this];refine(Uv.mpr hx).append (List.Sublist.cons_cons u ?_);exact(Uv.mpr (by simp)).trans (Uu _ _))
   rw[eU]at t;exact t
  ·rw[oH];exact Oe _
 obtain⟨y2,m2,e2,d2⟩:=mJ B (D++A) v u (fun x hx=>by
  simp only[Lp,Mc]at hx;rcases hx with rfl|hx|hx
  ·exact hv
  ·exact hD x hx
  ·exact hA x hx) hu (by rw[Nx];exact lt)
 have p2:0<y2.1:=qF B (D++A++[u]) v (fun x hx=>by
  simp only[Lp,Mc,Nq,or_false]at hx;rcases hx with rfl|(hx|hx)|rfl
  ·exact hv
  ·exact hD x hx
  ·exact hA x hx
  ·exact hu) y2 m2
 have s2:0<=Mn u v y2:=d2 (LF u v) fun x hx=>dn x (by
  simp only[Lp,Mc,Nq,or_false,Od]at hx ⊢;rcases hx with hx|(hx|hx)|hx
  ·exact .inl hx
  ·exact .inr (.inl hx)
  ·exact .inr (.inr (.inl hx))
  ·exact .inr (.inr (.inr hx)))
 have k1:0<=KZ h y1:=hh y1 (by rw[w1];exact Oi _ (Qi _ m1));have k2:0<=KZ h y2:=by
  apply hh y2;rw[w1];have:∃D',v::D=D'++[z]:=by
   have hn:v::D ≠ []:=by simp
   refine⟨(v::D).dropLast,?_⟩;have e:(A++u::(C++v::D)).getLast?=some z:=by rw[hz];simp
   have e2:(A++u::(C++v::D)).getLast?=(v::D).getLast?:=by
    have:A++u::(C++v::D)=(A++u::C)++(v::D):=by simp
    rw[this,List.getLast?_append,Wa hn];rfl
   rw[e2,Wa hn]at e;have e3:=(Vq hn).symm;rw[Ol e]at e3;exact e3
  obtain⟨D',hD'⟩:=this;rcases D' with _|⟨w,D'⟩
  ·cases hD';rw[Pg]at m2;exact Qi _ m2
  ·rw[Od]at hD';cases hD';have e:D'++[z]++A++[u]=D'++z::(A++[u]):=by simp
   rw[e,iu]at m2;rcases Mc.mp m2 with q|q
   ·exact Oi _ (Oi _ q)
   ·exact Qi _ q
 exact GV e1 e2 s1 s2 p1 p2 k1 k2
def Ck{l:yav}{a b:Tr}(ha:a∈l)(hb:b∈l)(ne:a≠b):(∃A C D,l=A++a::(C++b::D))∨∃ A C D,l=A++b::(C++a::D):=by
 obtain⟨A,R,rfl⟩:=Vv ha;rcases Mc.mp hb with q|q
 ·obtain⟨A',R',rfl⟩:=Vv q;exact .inr ⟨A',R',R,by simp⟩
 ·rcases Lp.mp q with q|q
  ·exact absurd q.symm ne
  ·obtain⟨A',R',rfl⟩:=Vv q;exact .inl ⟨A,A',R',rfl⟩
theorem qe(g h:Tr):∀l:yav,(∃n∈l,KZ g n<0/\KZ h n<0)->∃n∈l,KZ g n<0/\KZ h n<0/\∀m∈l,KZ g m<0->KZ g n*KZ h m<=KZ h n*KZ g m
 |[],⟨_,hn,_⟩=>by cases hn
 |x::r,hex=>by
  by_cases hr:∃n∈r,KZ g n<0/\KZ h n<0
  ·obtain⟨n,hn,n1,n2,nm⟩:=qe g h r hr;by_cases c:KZ g x<0/\¬(KZ g n*KZ h x<=KZ h n*KZ g x)
   ·obtain⟨c1,c2⟩:=c;have c2':=Ph.mp c2;have hx:KZ h x<0:=by
     have:0<KZ h n*KZ g x:=Vs n2 c1;exact Ph.mp fun z=>by
      have:=Vo (MI n1) z
      lia
    refine⟨x,by simp,c1,hx,fun m hm gm=>?_⟩;rcases Lp.mp hm with rfl|hm
    ·rw[Nx];exact Oe _
    ·have k:=nm m hm gm;have a:0<=(-KZ g x)*(KZ h n*KZ g m - KZ g n*KZ h m):=M8 (by lia) (by lia);have b:0<=(-KZ g m)*(KZ g n*KZ h x - KZ h n*KZ g x):=M8 (by lia) (by lia);have e:(-KZ g x)*(KZ h n*KZ g m - KZ g n*KZ h m)+(-KZ g m)*(KZ g n*KZ h x - KZ h n*KZ g x)=(-KZ g n)*(KZ h x*KZ g m - KZ g x*KZ h m):=by grind
     have:0<=(-KZ g n)*(KZ h x*KZ g m - KZ g x*KZ h m):=by lia
     have:=Sm this (by lia)
     lia
   ·refine⟨n,L8 _ hn,n1,n2,fun m hm gm=>?_⟩;rcases Lp.mp hm with rfl|hm
    ·exact Decidable.byContradiction fun z=>c ⟨gm,z⟩
    ·exact nm m hm gm
  ·obtain⟨n,hn,n1,n2⟩:=hex;rcases Lp.mp hn with rfl|hn
   ·refine⟨n,by simp,n1,n2,fun m hm gm=>?_⟩;rcases Lp.mp hm with rfl|hm
    ·rw[Nx];exact Oe _
    ·have:0<=KZ h m:=Rq.mp fun z=>hr ⟨m,hm,gm,z⟩
     have a:=Vo (MI n1) this;have b:=Vs n2 gm
     lia
   ·exact absurd ⟨n,hn,n1,n2⟩ hr
def Eu(B:RA g qf){l:yav}{z:Tr}(hz:l=l.dropLast++[z])(OH:P9 l)(pos:∀x∈l,0<x.1)(hX:Si l X)(gX:0<=KZ g X):Si (aF g qf z l) X:=fun h hh=>by
 have kp:∀p∈l,0<=KZ g p->0<=KZ h p:=fun p hp q=>hh p (og l z hp q)
 by_cases hb:∃n∈l,KZ g n<0/\KZ h n<0
 ·obtain⟨n,hn,n1,n2,nm⟩:=qe g h l hb
  let k:Tr:=(KZ h n*g.1 - KZ g n*h.1,KZ h n*g.2.1 - KZ g n*h.2.1,KZ h n*g.2.2 - KZ g n*h.2.2)
  have V5:∀p:Tr,KZ k p=KZ h n*KZ g p - KZ g n*KZ h p:=fun p=>by show KZ (KZ h n*g.1 - KZ g n*h.1,KZ h n*g.2.1 - KZ g n*h.2.1,KZ h n*g.2.2 - KZ g n*h.2.2) p=_;generalize KZ h n=a;generalize KZ g n=b;unfold KZ;grind
  have kn:∀p∈l,0<=KZ k p:=fun p hp=>by
   rw[V5];rcases TQ (KZ g p) 0 with q|q|q
   ·have:=nm p hp q
    lia
   ·rw[q,SU];have:=Vo (MI n1) (kp p hp (by lia))
    lia
   ·have ne:p≠n:=fun e=>by rw[e]at q;lia
    have np:=pos n hn;have pp:=pos p hp;rcases Ck hp hn ne with⟨A,C,D,rfl⟩| ⟨A,C,D,rfl⟩
    ·have r:=vE B hz OH pos (Vr q n1) hh;rw[CA]at r;have w0:(LL g p n).1<0:=by
      show KZ g n*p.1 - KZ g p*n.1<0;have:=QU n1 pp;have:=Qf q np
      lia
     have r2:KZ g n*KZ h p - KZ g p*KZ h n<=0:=Rq.mp fun z=>by
      have:=Vr z w0
      lia
     rw[Nx (KZ h n)]
     lia
    ·have r:=vE B hz OH pos (QU n1 q) hh;rw[CA]at r;have w0:0<(LL g n p).1:=by
      show 0<KZ g p*n.1 - KZ g n*p.1;have:=QU n1 pp;have:=Qf q np
      lia
     have r2:0<=KZ g p*KZ h n - KZ g n*KZ h p:=Rq.mp fun z=>by
      have:=QU z w0
      lia
     rw[Nx (KZ h n)];exact r2
  have kX:=hX k kn;rw[V5]at kX;have a:=Vo (MI n2) gX;exact Rq.mp fun z=>by
   have:=Vs n1 z
   lia
 ·refine hX h fun p hp=>?_
  by_cases q:0<=KZ g p
  ·exact kp p hp q
  ·exact Rq.mp fun z=>hb ⟨p,hp,by lia,z⟩
def O6(R:Tr->Tr->Prop):yav->Prop
 |[]=>True
 |[_]=>True
 |a::b::r=>R a b/\O6 R (b::r)
def O6.tail{a:Tr}:∀{l:yav},O6 R (a::l)->O6 R l
 |[],_=>True.intro
 |_::_,h=>h.2
theorem jB:∀(l:yav) (x:Tr) (k:yav),O6 R (l++x::k)↔O6 R (l++[x])/\O6 R (x::k)
 |[],x,k=>by simp[O6]
 |[a],x,k=>by simp[O6]
 |a::b::l,x,k=>by have:=jB (R:=R) (b::l) x k;simp only[Od,O6]at this ⊢;rw[this,and_assoc]
def Sh(G:Tr->Prop)(a b:Tr):Prop:=∃e,G e/\KZ e a=0/\KZ e b=0
theorem mI(B:RA g qf){G:Tr->Prop}(hg:G g):∀(l:yav) (p x:Tr),(∀y∈p::l,0<y.1)->((x=p/\0<=KZ g p)∨(KZ g x=0/\KZ g p<0))->O6 (Sh G) (p::l)->O6 (Sh G) (x::aF g qf p l)
 |[],_,_,_,_,_=>True.intro
 |c::r,p,x,h1,hx,h=>by
  have LS:∀y∈c::r,0<y.1:=fun y hy=>h1 y (L8 _ hy)
  obtain⟨⟨e,ge,ep,ec⟩,hr⟩:=h;have ih:=fun x hx=>mI B hg r c x LS hx hr
  unfold aF;by_cases lt:KZ g p*KZ g c<0
  ·rw[K4 lt];obtain⟨⟨m,s,t,C⟩,eq⟩:=B p c (h1 p (by simp)) (h1 c (by simp)) lt;have XY:KZ e (qf p c)=0:=C.zero ep ec;by_cases le:0<=KZ g c
   ·rw[K4 le];refine⟨?_,⟨e,ge,XY,ec⟩,ih c (.inl ⟨rfl,le⟩)⟩;rcases hx with⟨rfl,_⟩| ⟨hx,_⟩
    ·exact⟨e,ge,ep,XY⟩
    ·exact⟨g,hg,hx,eq⟩
   ·rw[K3 le];refine⟨?_,ih _ (.inr ⟨eq,by lia⟩)⟩;rcases hx with⟨rfl,_⟩| ⟨hx,_⟩
    ·exact⟨e,ge,ep,XY⟩
    ·exact⟨g,hg,hx,eq⟩
  ·rw[K3 lt];by_cases le:0<=KZ g c
   ·rw[K4 le];refine⟨?_,ih c (.inl ⟨rfl,le⟩)⟩;rcases hx with⟨rfl,_⟩| ⟨hx,hp⟩
    ·exact⟨e,ge,ep,ec⟩
    ·have:KZ g c=0:=by
      rcases Int.lt_or_eq_of_le le with q|q
      ·exact absurd (QU hp q) lt
      ·exact q.symm
     exact⟨g,hg,hx,this⟩
   ·rw[K3 le];refine ih x ?_;rcases hx with⟨rfl,hp⟩| ⟨hx,_⟩
    ·right
     refine⟨?_,by lia⟩;rcases Int.lt_or_eq_of_le hp with q|q
     ·exact absurd (Vr q (by lia)) lt
     ·exact q.symm
    ·exact .inr ⟨hx,by lia⟩
theorem uy(B:RA g qf){G:Tr->Prop}(hg:G g):∀(l:yav) (p:Tr),(∀y∈p::l,0<y.1)->O6 (Sh G) (p::l)->O6 (Sh G) (aF g qf p l)
 |[],_,_,_=>True.intro
 |c::r,p,h1,h=>by
  by_cases hp:0<=KZ g p
  ·exact(mI B hg (c::r) p p h1 (.inl ⟨rfl,hp⟩) h).tail
  have LS:∀y∈c::r,0<y.1:=fun y hy=>h1 y (L8 _ hy)
  obtain⟨⟨e,ge,ep,ec⟩,hr⟩:=h;unfold aF;by_cases lt:KZ g p*KZ g c<0
  ·rw[K4 lt];obtain⟨⟨m,s,t,C⟩,eq⟩:=B p c (h1 p (by simp)) (h1 c (by simp)) lt;have XY:KZ e (qf p c)=0:=C.zero ep ec;by_cases le:0<=KZ g c
   ·rw[K4 le];exact⟨⟨e,ge,XY,ec⟩,mI B hg r c c LS (.inl ⟨rfl,le⟩) hr⟩
   ·exact absurd (Vs (Ph.mp hp) (Ph.mp le)) (by lia)
  ·rw[K3 lt];by_cases le:0<=KZ g c
   ·rw[K4 le];exact mI B hg r c c LS (.inl ⟨rfl,le⟩) hr
   ·rw[K3 le];exact uy B hg r c LS hr
def V6(R:Tr->Tr->Prop)(l:yav):Prop:=∀k z,l=k++[z]->O6 R (z::l)
def Et(B:RA g qf){G:Tr->Prop}(hg:G g){l:yav}{z:Tr}(hz:l=l.dropLast++[z])(pos:∀y∈l,0<y.1)(h:V6 (Sh G) l):V6 (Sh G) (aF g qf z l):=fun k y ek=>by
 have c1:=h _ z hz;have c2:O6 (Sh G) (z::(l++l)):=by
  have e:z::(l++l)=(z::l.dropLast)++(z::l):=by
   rw[Od];congr 1
   conv=>lhs;arg 1;rw[hz]
   simp
  rw[e,jB];refine⟨?_,c1⟩;rw[Od,<- hz];exact c1
 have zl:z∈l:=by rw[hz];simp
 have c3:=uy B hg (l++l) z (fun y hy=>by
  simp only[Lp,Mc,or_self]at hy;rcases hy with rfl|hy
  ·exact pos y zl
  ·exact pos y hy) c2
 have e:aF g qf z (l++l)=aF g qf z l++aF g qf z l:=by
  have a:l++l=l.dropLast++z::l:=by
   conv=>lhs;arg 1;rw[hz]
   simp
  rw[a,iu,<- hz]
 rw[e]at c3;have e2:aF g qf z l++aF g qf z l=k++y::aF g qf z l:=by
  conv=>lhs;arg 1;rw[ek]
  simp
 rw[e2,jB]at c3;exact c3.2
def OI:yav->yav->yav
 |_,[]=>[]
 |seen,x::r=>if x∈seen then OI seen r else x::OI (seen++[x]) r
theorem oC:∀(l seen:yav),(OI seen l).Sublist l
 |[],_=>List.Sublist.slnil
 |x::r,seen=>by
  unfold OI;split
  ·exact(oC r seen).cons x
  ·exact(oC r _).cons_cons x
theorem sy:∀(l seen:yav) {x:Tr},x∈l->x∈seen∨x∈OI seen l
 |[],_,_,h=>by cases h
 |y::r,seen,x,h=>by
  unfold OI;rcases Lp.mp h with rfl|h
  ·split
   ·rename_i q;exact .inl q
   ·exact .inr (by simp)
  ·split
   ·exact sy r seen h
   ·rcases sy r (seen++[y]) h with q|q
    ·rcases Mc.mp q with q|q
     ·exact .inl q
     ·rw[M4.mp q];exact .inr (by simp)
    ·exact .inr (L8 _ q)
theorem tZ:∀(l seen:yav),l.Nodup->(∀x∈l,x∉seen)->OI seen l=l
 |[],_,_,_=>rfl
 |x::r,seen,h,hs=>by
  obtain⟨a,b⟩:=QI.mp h;unfold OI;rw[K3 (hs x (by simp)),tZ r (seen++[x]) b fun y hy q=>by
   rcases Mc.mp q with q|q
   ·exact hs y (L8 _ hy) q
   ·exact a (by rw[<- M4.mp q];exact hy)]
theorem nc:∀(l seen:yav) (v:Tr) (k:yav),v∈seen∨v∈l->OI seen (l++v::k)=OI seen (l++k)
 |[],seen,v,k,h=>by
  rw[Pg,Pg]
  conv=>lhs;unfold OI
  rw[K4 (h.resolve_right (by simp))]
 |x::r,seen,v,k,h=>by
  rw[Od,Od];unfold OI;split
  ·rename_i q;refine nc r seen v k ?_;rcases h with h|h
   ·exact .inl h
   ·rcases Lp.mp h with rfl|h
    ·exact .inl q
    ·exact .inr h
  ·congr 1;refine nc r _ v k ?_;rcases h with h|h
   ·exact .inl (Qi _ h)
   ·rcases Lp.mp h with rfl|h
    ·exact .inl (by simp)
    ·exact .inr h
theorem pO:∀l:yav,¬l.Nodup->∃A v C,l=A++v::C/\v∈A
 |[],h=>absurd List.nodup_nil h
 |x::r,h=>by
  by_cases hx:x∈r
  ·obtain⟨A,C,rfl⟩:=Vv hx;exact⟨x::A,x,C,rfl,by simp⟩
  ·obtain⟨A,v,C,e,hv⟩:=pO r fun q=>h (QI.mpr ⟨hx,q⟩)
   exact⟨x::A,v,C,by rw[e];rfl,L8 _ hv⟩
def FV(ea:KZ e a=0)(ev:KZ e v=0)(hd:Mn v a b=0)(hw:LF v a≠(0,0,0)):KZ e b=0:=by
 have h1:KZ e b*(LF v a).1=0:=by unfold Mn KZ LF at *;dsimp only at *;grind
 have h2:KZ e b*(LF v a).2.1=0:=by unfold Mn KZ LF at *;dsimp only at *;grind
 have h3:KZ e b*(LF v a).2.2=0:=by unfold Mn KZ LF at *;dsimp only at *;grind
 refine Decidable.byContradiction fun z=>hw ?_
 have a1:=(Qc.mp h1).resolve_left z;have a2:=(Qc.mp h2).resolve_left z;have a3:=(Qc.mp h3).resolve_left z;generalize LF v a=w at a1 a2 a3;obtain⟨x,y,t⟩:=w
 simp_all
structure Pr(p:Tr):Prop where
 pos:0<p.1
 low:PM.g3 p.1 p.2.1 p.2.2=1
def vC(hv:Pr v)(ha:Pr a)(h:LF v a=(0,0,0)):v=a:=by
 unfold LF at h;simp only[Qm]at h;obtain⟨h1,h2,h3⟩:=h;have q1:v.2.1*a.1=a.2.1*v.1:=by have:=Nx v.1 a.2.1;lia
 have q2:v.2.2*a.1=a.2.2*v.1:=by have:=Nx v.1 a.2.2;lia
 have d1:v.1∣a.1:=je (d:=v.1) (k:=a.1) (x:=v.1) (y:=v.2.1) (z:=v.2.2) (UB _ _) (by rw[Nx,q1];exact UB _ _) (by rw[Nx,q2];exact UB _ _) hv.low;have d2:a.1∣v.1:=je (d:=a.1) (k:=v.1) (x:=a.1) (y:=a.2.1) (z:=a.2.2) (UB _ _) (by rw[Nx,<- q1];exact UB _ _) (by rw[Nx,<- q2];exact UB _ _) ha.low;have pa:=ha.pos;have pv:=hv.pos;have e:v.1=a.1:=by
  have l1:=Int.le_of_dvd pa d1;have l2:=Int.le_of_dvd pv d2
  lia
 obtain⟨v1,v2,v3⟩:=v;obtain⟨a1,a2,a3⟩:=a;dsimp only at *;subst e;rw[Int.eq_of_mul_eq_mul_right (by lia) q1,Int.eq_of_mul_eq_mul_right (by lia) q2]
theorem Bf:∀(n:Nat) (l:yav),l.length<=n->P9 l->(∀p∈l,Pr p)->V6 (Sh G) l->V6 (Sh G) (OI [] l)
 |n,l,hn,OH,pr,cy=>by
  by_cases nd:l.Nodup
  ·rw[tZ l [] nd (by simp)];exact cy
  obtain⟨A,v,C,rfl,hv⟩:=pO l nd;rw[nc A [] v C (.inr hv)];cases n with
  |zero=>simp at hn
  |succ n =>
  have sub:(A++C).Sublist (A++v::C):=(List.Sublist.refl A).append (List.sublist_cons_self v C);refine Bf n (A++C) (by simp at hn ⊢;lia) (OH.sub sub) (fun p hp=>pr p (sub.subset hp)) ?_;obtain⟨A1,A2,rfl⟩:=Vv hv;obtain⟨K,a,hK⟩:∃K a,A1++v::A2=K++[a]:=⟨_,_,(Vq (by simp:A1++v::A2 ≠ [])).symm⟩;have am:a=v∨∃ A3,A2=A3++[a]:=by
   rcases List.eq_nil_or_concat A2 with rfl|⟨A3,w,rfl⟩
   ·left
    have:=congrArg List.getLast? hK;simp at this;exact this.symm
   ·right
    have e:A1++v::A3.concat w=(A1++v::A3)++[w]:=by simp
    rw[e]at hK;have:=(List.append_inj' hK rfl).2;cases this;exact⟨A3,by simp⟩
  have pv:Pr v:=pr v (by simp);have pa:Pr a:=pr a (by rw[hK];simp)
  have glue:∀b,Sh G a v->Sh G v b->(a≠v->Mn v a b=0)->Sh G a b:=fun b s1 s2 hd=>by
   by_cases q:a=v
   ·rw[q];exact s2
   ·obtain⟨e,ge,ea,ev⟩:=s1;exact⟨e,ge,ea,FV ea ev (hd q) fun z=>q (vC pv pa z).symm⟩
  rw[hK];rw[hK]at cy OH;rcases C with _|⟨b,C⟩
  ·have c:=cy (K++[a]) v (by simp);intro k z ek;rw[Rm]at ek ⊢;have ez:a=z:=by
    have:=congrArg List.getLast? ek;simp at this;exact this
   subst ez;have c':O6 (Sh G) ((v::K)++a::[v]):=by simpa using c
   rw[jB]at c';obtain⟨c1,c2,_⟩:=c';rcases hA:K++[a]with _|⟨b,R⟩
   ·simp at hA
   ·have c3:O6 (Sh G) (v::b::R):=by
     rw[<- hA];exact c1
    refine⟨glue b c2 c3.1 fun ne=>?_,c3.2⟩;obtain⟨A3,rfl⟩:=am.resolve_left ne;rcases A1 with _|⟨b',A1⟩
    ·rw[<- hK]at hA;cases hA;rw[oH]
    ·rw[<- hK]at hA;cases hA;have t1:=OH b v a (by
      rw[<- hK];refine List.Sublist.trans ?_ (List.sublist_append_left _ _);refine List.Sublist.cons_cons b ?_;refine List.Sublist.trans ?_ (Uu _ _);refine List.Sublist.cons_cons v ?_;exact Uu _ _)
     have t2:=OH b a v (by rw[<- hK];refine List.Sublist.cons_cons b ?_;have:[a,v]=[a]++[v]:=rfl;rw[this];refine List.Sublist.append ?_ (List.Sublist.refl _);exact Uv.mpr (by simp))
     rw[eU]at t1;rw[eU,pZ]at t2
     lia
  ·intro k z ek;have c:=cy (((K++[a])++v::b::C).dropLast) z (by
    have e2:(K++[a]++v::b::C).getLast?=some z:=by
     have h1:(K++[a]++b::C).getLast?=some z:=by rw[ek];simp
     have h2:(K++[a]++b::C).getLast?=(b::C).getLast?:=by rw[List.getLast?_append,Wa (by simp:b::C ≠ [])];rfl
     have h3:(K++[a]++v::b::C)=(K++[a]++[v])++b::C:=by simp
     rw[h3,List.getLast?_append,<- h2,h1];rfl
    have hn:K++[a]++v::b::C ≠ []:=by simp
    rw[Wa hn]at e2;have e3:=(Vq hn).symm;rw[Ol e2]at e3;exact e3)
   have c':O6 (Sh G) ((z::K)++a::(v::b::C)):=by simpa using c
   rw[jB]at c';obtain⟨c1,c2,c3,c4⟩:=c';have:z::(K++[a]++b::C)=(z::K)++a::(b::C):=by simp
   rw[this,jB];refine⟨c1,glue b c2 c3 fun ne=>?_,c4⟩;obtain⟨A3,rfl⟩:=am.resolve_left ne;have t1:=OH v a b (by
    rw[<- hK];have:A1++v::(A3++[a])++v::b::C=(A1++(v::A3))++(a::(v::(b::C))):=by simp
    rw[this];have:[v,a,b]=[v]++[a,b]:=rfl;rw[this];refine List.Sublist.append (Uv.mpr (by simp)) (List.Sublist.cons_cons a ?_);exact List.Sublist.cons _ (List.Sublist.cons_cons b (List.nil_sublist _)))
   have t2:=OH a v b (by
    have:K++[a]++v::b::C=K++(a::v::b::C):=by simp
    rw[this];refine List.Sublist.trans ?_ (Uu _ _);exact List.Sublist.cons_cons a (List.Sublist.cons_cons v (List.Sublist.cons_cons b (List.nil_sublist _))))
   rw[pZ]at t2
   lia
def QT(w:Tr):Tr:=(w.1.fdiv (PM.MC w.1 w.2.1 w.2.2 w.1),w.2.1.fdiv (PM.MC w.1 w.2.1 w.2.2 w.1),w.2.2.fdiv (PM.MC w.1 w.2.1 w.2.2 w.1))
def cM(g p c:Tr):Tr:=QT (LL g p c)
def B3{w:Tr}(h:w.1≠0):Pr (QT w):=⟨PM.Gx h (PM.sF _ _ _) fun z=>h z.1,PM.Jg fun z=>h z.1⟩
def Ja{w:Tr}(hq:Pr q)(h1:w.1*q.2.1=q.1*w.2.1)(h2:w.1*q.2.2=q.1*w.2.2):∃m,w.1=m*q.1/\w.2.1=m*q.2.1/\w.2.2=m*q.2.2:=by
 obtain⟨m,hm⟩:q.1∣w.1:=je (d:=q.1) (k:=w.1) (x:=q.1) (y:=q.2.1) (z:=q.2.2) (UB _ _) (by rw[h1];exact Int.dvd_mul_right _ _) (by rw[h2];exact Int.dvd_mul_right _ _) hq.low;have p:=hq.pos;refine⟨m,by rw[hm,Nx],?_,?_⟩
 ·rw[hm,UH]at h1;exact(Y3 (by lia) h1).symm
 ·rw[hm,UH]at h2;exact(Y3 (by lia) h2).symm
def xj{p c:Tr}(hp:0<p.1)(hc:0<c.1)(lt:KZ g p*KZ g c<0):(KZ g p<0/\0<KZ g c/\0<(LL g p c).1)∨(0<KZ g p/\KZ g c<0/\(LL g p c).1<0):=by
 rcases Int.lt_or_gt_of_ne (show KZ g p≠0 from fun e=>by rw[e,QJ]at lt;exact Q3 _ lt)with a|a
 ·left
  have b:0<KZ g c:=Ph.mp fun b=>Ph.mpr lt (V9 (MI a) b)
  refine⟨a,b,?_⟩;show 0<KZ g c*p.1 - KZ g p*c.1;have:=Qf b hp;have:=QU a hc
  lia
 ·right
  have b:KZ g c<0:=Ph.mp fun b=>Ph.mpr lt (M8 (MI a) b)
  refine⟨a,b,?_⟩;show KZ g c*p.1 - KZ g p*c.1<0;have:=QU b hp;have:=Qf a hc
  lia
def AX(g:Tr):RA g (cM g):=fun p c hp hc lt=>by
 have k:=xj hp hc lt;have e1:=PM.dM (l:=(LL g p c).1) (PM.sF (LL g p c).1 (LL g p c).2.1 (LL g p c).2.2);have e2:=PM.dM (l:=(LL g p c).1) (PM.vV (LL g p c).1 (LL g p c).2.1 (LL g p c).2.2);have e3:=PM.dM (l:=(LL g p c).1) (PM.vW (LL g p c).1 (LL g p c).2.1 (LL g p c).2.2);have LV:(LL g p c).1≠0:=by rcases k with⟨_,_,q⟩| ⟨_,_,q⟩<;>lia
 have hg:PM.g3 (LL g p c).1 (LL g p c).2.1 (LL g p c).2.2≠0:=fun z=>LV (PM.sG.mp z).1
 have C:∃m s t,Ur (cM g p c) p c m s t/\s*KZ g p+t*KZ g c=0:=by
  rcases k with⟨a,b,q⟩| ⟨a,b,q⟩
  ·have hd:PM.MC (LL g p c).1 (LL g p c).2.1 (LL g p c).2.2 (LL g p c).1=(PM.g3 (LL g p c).1 (LL g p c).2.1 (LL g p c).2.2:Int):=by
    unfold PM.MC;rw[K3 (by lia)]
   refine⟨PM.g3 (LL g p c).1 (LL g p c).2.1 (LL g p c).2.2,KZ g c,-KZ g p,⟨by lia,b,by lia,?_,?_,?_⟩,by rw[Ox,Nx];lia⟩
   ·show _*((LL g p c).1.fdiv _)=_;rw[<- hd,Nx,e1,Ox];rfl
   ·show _*((LL g p c).2.1.fdiv _)=_;rw[<- hd,Nx,e2,Ox];rfl
   ·show _*((LL g p c).2.2.fdiv _)=_;rw[<- hd,Nx,e3,Ox];rfl
  ·have hd:-PM.MC (LL g p c).1 (LL g p c).2.1 (LL g p c).2.2 (LL g p c).1=(PM.g3 (LL g p c).1 (LL g p c).2.1 (LL g p c).2.2:Int):=by
    unfold PM.MC;rw[K4 (by lia),Int.neg_neg]
   refine⟨PM.g3 (LL g p c).1 (LL g p c).2.1 (LL g p c).2.2,-KZ g c,KZ g p,⟨by lia,by lia,a,?_,?_,?_⟩,by rw[Ox,Nx];lia⟩
   ·show _*((LL g p c).1.fdiv _)=_;rw[<- hd,Ox,Nx,e1,Ox];show -(KZ g c*p.1 - KZ g p*c.1)=_
    lia
   ·show _*((LL g p c).2.1.fdiv _)=_;rw[<- hd,Ox,Nx,e2,Ox];show -(KZ g c*p.2.1 - KZ g p*c.2.1)=_
    lia
   ·show _*((LL g p c).2.2.fdiv _)=_;rw[<- hd,Ox,Nx,e3,Ox];show -(KZ g c*p.2.2 - KZ g p*c.2.2)=_
    lia
 obtain⟨m,s,t,C,z⟩:=C;refine⟨⟨m,s,t,C⟩,?_⟩;have:=C.gv g;rw[z]at this;exact(Qc.mp this).resolve_left (by have:=C.m0;lia)
def Hd{p c:Tr}(hp:0<p.1)(hc:0<c.1)(lt:KZ g p*KZ g c<0):Pr (cM g p c):=B3 (by rcases xj hp hc lt with⟨_,_,q⟩| ⟨_,_,q⟩<;>lia)
def Hj{e:Tr}(he:e≠(0,0,0))(ep:KZ e p=0)(gp:KZ g p≠0):LF e g≠(0,0,0):=fun z=>he (by
 unfold LF at z;simp only[Qm]at z;obtain⟨z1,z2,z3⟩:=z;have h1:e.1*KZ g p=0:=by unfold KZ at *;grind
 have h2:e.2.1*KZ g p=0:=by unfold KZ at *;grind
 have h3:e.2.2*KZ g p=0:=by unfold KZ at *;grind
 have a1:=(Qc.mp h1).resolve_right gp;have a2:=(Qc.mp h2).resolve_right gp;have a3:=(Qc.mp h3).resolve_right gp;obtain⟨x,y,t⟩:=e
 simp_all)
def BU(hq:Pr q)(e1:KZ e q=0)(e2:KZ g q=0)(hw:LF e g≠(0,0,0)):∃m,m≠0/\(LF e g).1=m*q.1/\(LF e g).2.1=m*q.2.1/\(LF e g).2.2=m*q.2.2:=by obtain⟨m,h1,h2,h3⟩:=Ja (w:=LF e g) hq (by unfold KZ at *;unfold LF;grind) (by unfold KZ at *;unfold LF;grind);refine⟨m,fun z=>hw ?_,h1,h2,h3⟩;rw[z,QJ]at h1 h2 h3;exact Pj h1 (Pj h2 h3)
def BV(hq:Pr q)(e1:KZ e q=0)(e2:KZ g q=0)(hw:LF e g≠(0,0,0)):q=QT (LF e g):=by
 obtain⟨m,m0,h1,h2,h3⟩:=BU hq e1 e2 hw;have w0:(LF e g).1≠0:=by rw[h1];exact VG m0 (by have:=hq.pos;lia)
 have hp:=B3 w0;have r1:=PM.dM (l:=(LF e g).1) (PM.sF (LF e g).1 (LF e g).2.1 (LF e g).2.2);have r2:=PM.dM (l:=(LF e g).1) (PM.vV (LF e g).1 (LF e g).2.1 (LF e g).2.2);have r3:=PM.dM (l:=(LF e g).1) (PM.vW (LF e g).1 (LF e g).2.1 (LF e g).2.2);have dn:PM.MC (LF e g).1 (LF e g).2.1 (LF e g).2.2 (LF e g).1≠0:=PM.vO fun z=>w0 z.1
 apply vC hq hp;have r1':(QT (LF e g)).1*PM.MC (LF e g).1 (LF e g).2.1 (LF e g).2.2 (LF e g).1=m*q.1:=by rw[<- h1];exact r1
 have r2':(QT (LF e g)).2.1*PM.MC (LF e g).1 (LF e g).2.1 (LF e g).2.2 (LF e g).1=m*q.2.1:=by rw[<- h2];exact r2
 have r3':(QT (LF e g)).2.2*PM.MC (LF e g).1 (LF e g).2.1 (LF e g).2.2 (LF e g).1=m*q.2.2:=by rw[<- h3];exact r3
 generalize PM.MC (LF e g).1 (LF e g).2.1 (LF e g).2.2 (LF e g).1=d at *;generalize QT (LF e g)=p at *;unfold LF;have k:∀a b a' b':Int,a*d=m*a'->b*d=m*b'->a'*b - b'*a=0:=fun a b a' b' h h'=>by
  have:m*d*(a'*b - b'*a)=0:=by grind
  exact(Qc.mp this).resolve_left (VG m0 dn)
 rw[k _ _ _ _ r2' r3',k _ _ _ _ r3' r1',k _ _ _ _ r1' r2']
def eQ(g:Tr)(l:yav):yav:=match l.getLast? with
 |none=>[]
 |some z=>OI [] (aF g (cM g) z l)
structure Vh(n:Nat)(e:Tr):Prop where
 ne:e≠(0,0,0)
 c:Bd (2*n+2) e.1
 a:Bd (n+1) e.2.1
 b:Bd (n+1) e.2.2
structure CB(n:Nat)(p:Tr):Prop where
 b:Bd (2*n+3) p.1
 x:Bd (3*n+4) p.2.1
 y:Bd (3*n+4) p.2.2
structure Vi(n:Nat)(Gs Z l:yav):Prop where
 OH:P9 l
 pr:∀p∈l,Pr p
 cb:∀p∈l,CB n p
 cyc:V6 (Sh (·∈Gs)) l
 mem:∀p∈l,p∈Z
 len:l.length<=Z.length
def JC{k:Nat}(ha:Bd n a)(hb:Bd m b)(hc:Bd m c)(hd:Bd n d)(hk:n+m+1=k):Bd k (a*b - c*d):=by subst hk;have h1:=ha.mul hb;have h2:=hc.mul hd;rw[Nat.add_comm m n]at h2;exact h1.sub h2
def vP{m q w:Int}(hm:m≠0)(e:w=m*q)(h:Bd n w):Bd n q:=by
 unfold Bd at *;rw[e,TY]at h;have:q.natAbs<=m.natAbs*q.natAbs:=Nat.le_mul_of_pos_left _ (by lia)
 lia
theorem rX:∀(l:yav) (p:Tr) {y:Tr},y∈aF g (cM g) p l->y∈l∨∃ a b,a∈p::l/\b∈l/\List.Sublist [a,b] (p::l)/\KZ g a*KZ g b<0/\y=cM g a b/\∀R:Tr->Tr->Prop,O6 R (p::l)->R a b
 |[],_,_,h=>by cases h
 |c::r,p,y,h=>by
  unfold aF at h;rcases Mc.mp h with q|q
  ·split at q
   ·rename_i lt;exact .inr ⟨p,c,by simp,by simp,List.Sublist.cons_cons p (List.Sublist.cons_cons c (List.nil_sublist _)),lt,M4.mp q,fun R hR=>hR.1⟩
   ·cases q
  ·rcases Mc.mp q with q|q
   ·split at q
    ·rw[M4.mp q];exact .inl (by simp)
    ·cases q
   ·rcases rX r c q with q|⟨a,b,h1,h2,h3,h4,h5,h6⟩
    ·exact .inl (L8 _ q)
    ·exact .inr ⟨a,b,L8 _ h1,L8 _ h2,h3.cons p,h4,h5,fun R hR=>h6 R hR.2⟩
theorem vL:∀(l seen:yav),(OI seen l).Nodup/\∀x∈OI seen l,x∉seen
 |[],_=>⟨List.nodup_nil,fun _ h=>(by cases h)⟩
 |x::r,seen=>by
  unfold OI;split
  ·exact vL r seen
  ·rename_i q;obtain⟨a,b⟩:=vL r (seen++[x]);refine⟨QI.mpr ⟨fun h=>b x h (by simp),a⟩,fun y hy=>?_⟩;rcases Lp.mp hy with rfl|hy
   ·exact q
   ·exact fun z=>b y hy (Qi _ z)
def wq{l:yav}{z:Tr}(h:l.getLast?=some z):l=l.dropLast++[z]:=by
 have hn:l ≠ []:=fun e=>by rw[e]at h;cases h
 rw[Wa hn]at h;have:=(Vq hn).symm;rw[Ol h]at this;exact this
theorem wJ:∀{l Z:yav},l.Nodup->(∀x∈l,x∈Z)->l.length<=Z.length
 |[],_,_,_=>MK _
 |x::r,Z,h,hm=>by
  obtain⟨a,b⟩:=QI.mp h;obtain⟨A,C,rfl⟩:=Vv (hm x (by simp));have:=wJ (l:=r) (Z:=A++C) b fun y hy=>by
   have:=hm y (L8 _ hy);simp only[Mc,Lp]at this ⊢;rcases this with q|q|q
   ·exact .inl q
   ·rw[q]at hy;exact absurd hy a
   ·exact .inr q
  simp at this ⊢
  lia
def C4{Gs Z:yav}{g:Tr}(hG:∀e∈Gs,Vh n e)(hg:g∈Gs)(hZ:∀e∈Gs,QT (LF e g)∈Z)(C:Vi n Gs Z l):Vi n Gs Z (eQ g l):=by
 unfold eQ;cases hl:l.getLast? with
 |none=>exact⟨fun _ _ _ s=>(by cases s),fun _ h=>(by cases h),fun _ h=>(by cases h),fun k z e=>(by simp at e),fun _ h=>(by cases h),MK _⟩
 |some z =>
  have hz:=wq hl;have pos:∀x∈l,0<x.1:=fun x hx=>(C.pr x hx).pos
  have zl:z∈l:=by rw[hz];simp
  have pos':∀x∈z::l,0<x.1:=fun x hx=>by
   rcases Lp.mp hx with rfl|hx
   ·exact pos x zl
   ·exact pos x hx
  have B:=AX g;have tri0:P9 (z::l):=by have:=Cp (l:=l.dropLast) (a:=z) (by rw[<- hz];exact C.OH);rw[<- hz]at this;exact this
  have XZ:P9 (aF g (cM g) z l):=kx.t (xi B l z pos' tri0.p).2;have cy:=Et B (G:=(·∈Gs)) hg hz pos C.cyc;have X0:∀y∈aF g (cM g) z l,Pr y/\CB n y/\y∈Z:=fun y hy=>by
   rcases rX l z hy with q|⟨a,b,ha,hb,_,lt,rfl,hR⟩
   ·exact⟨C.pr y q,C.cb y q,C.mem y q⟩
   ·have pa:=pos' a ha;have pb:=pos b hb;have pq:=Hd pa pb lt;obtain⟨e,he,ea,eb⟩:=hR _ (C.cyc _ z hz);obtain⟨⟨m,s,t,K⟩,gq⟩:=B a b pa pb lt;have eq:=K.zero ea eb;have hw:=Hj (hG e he).ne ea (show KZ g a≠0 from fun z=>by rw[z,QJ]at lt;exact Q3 _ lt);refine⟨pq,?_,?_⟩
    ·obtain⟨m,m0,h1,h2,h3⟩:=BU pq eq gq hw;have E:=hG e he;have H:=hG g hg;exact⟨vP m0 h1 (JC (k:=2*n+3) E.a H.b E.b H.a (by lia)),vP m0 h2 (Bd.mono ((E.b.mul H.c).sub (Nat.add_comm _ _ ▸ E.c.mul H.b)) (by lia)),vP m0 h3 (Bd.mono ((E.c.mul H.a).sub (Nat.add_comm _ _ ▸ E.a.mul H.c)) (by lia))⟩
    ·rw[BV pq eq gq hw];exact hZ e he
  have sub:=oC (aF g (cM g) z l) [];exact⟨XZ.sub sub,fun p hp=>(X0 p (sub.subset hp)).1,fun p hp=>(X0 p (sub.subset hp)).2.1,Bf _ _ (LG _) XZ (fun p hp=>(X0 p hp).1) cy,fun p hp=>(X0 p (sub.subset hp)).2.2,wJ (vL _ _).1 fun p hp=>(X0 p (sub.subset hp)).2.2⟩
def qN(OH:P9 l)(pr:∀p∈l,Pr p):(∀X,Si l X->0<=KZ g X->Si (eQ g l) X)/\(∀y∈eQ g l,0<=KZ g y)/\∀d,(∀p∈l,0<=KZ d p)->∀y∈eQ g l,0<=KZ d y:=by
 unfold eQ;cases hl:l.getLast? with
 |none =>
  have e:=Wc.mp hl;subst e;exact⟨fun X h _=>h,fun _ h=>(by cases h),fun _ _ _ h=>by cases h⟩
 |some z =>
  have hz:=wq hl;have pos:∀x∈l,0<x.1:=fun x hx=>(pr x hx).pos
  have zl:z∈l:=by rw[hz];simp
  have pos':∀x∈z::l,0<x.1:=fun x hx=>by
   rcases Lp.mp hx with rfl|hx
   ·exact pos x zl
   ·exact pos x hx
  have B:=AX g;have sub:=oC (aF g (cM g) z l) [];refine⟨fun X hX gX h hh=>Eu B hz OH pos hX gX h fun p hp=>?_,fun y hy=>uz B l z pos' y (sub.subset hy),fun d hd y hy=>qE B l z pos' (fun x hx=>?_) y (sub.subset hy)⟩
  ·exact hh p ((sy _ [] hp).resolve_left (by simp))
  ·rcases Lp.mp hx with rfl|hx
   ·exact hd x zl
   ·exact hd x hx
def aX(gs l:yav):yav:=gs.foldl (fun l g=>eQ g l) l
def Im(h:Si l X)(hX:0<X.1):l ≠ []:=fun e=>by
 subst e;have:=h (-1,0,0) (fun _ q=>by cases q);unfold KZ at this;dsimp only at this
 lia
def sT(p:Sp):Tr:=(1,p.1,p.2)
def HN(a b c:Sp):Mn (sT a) (sT b) (sT c)=cr a b c:=by rw[b6];unfold Mn sT KZ LF;grind
def uV{A B:Int}{x y z:Sp}(hy:0<A*y.1+B*y.2)(hx:0<=A*x.1+B*x.2)(hz:0<=A*z.1+B*z.2)(h1:0<=tn x y)(h2:0<=tn y z):0<=tn x z:=by
 have e:(A*y.1+B*y.2)*tn x z=(A*z.1+B*z.2)*tn x y+(A*x.1+B*x.2)*tn y z:=by unfold tn;grind
 have a1:=M8 hz h1;have a2:=M8 hx h2;exact Sm (a:=A*y.1+B*y.2) (by rw[e];lia) hy
def sb(a b:Sp):Sp:=(a.1 - b.1,a.2 - b.2)
def gw(a b c:Sp):cr a b c=tn (sb b a) (sb c a):=by rw[b6];unfold tn sb;grind
def fO(A B:Int)(a b:Sp):A*(sb a b).1+B*(sb a b).2=fA A B a - fA A B b:=by unfold sb fA;grind
def y7(L:Way A B ps n l){i j k:Nat}(MQ:i<j)(TH:j<k)(hk:k<n):0<=cr (l i) (l j) (l k):=by
 have e1:=L.Mp j (by lia) (l i) (L.mem i (by lia));have e2:=L.Mp j (by lia) (l k) (L.mem k hk);have r1:=L.rise i j MQ (by lia);have r2:=L.rise j (j+1) (by lia) (by lia);have r3:=L.rise j k TH hk;have:=uV (A:=A) (B:=B) (x:=sb (l j) (l i)) (y:=sb (l (j+1)) (l j)) (z:=sb (l k) (l j)) (by rw[fO];lia) (by rw[fO];lia) (by rw[fO];lia) (by
  rw[b6]at e1;unfold tn sb;dsimp only;have:(l j).1*1=(l j).1:=by lia
  grind) (by rw[<- gw];exact e2)
 rw[gw];have e:tn (sb (l j) (l i)) (sb (l k) (l i))=tn (sb (l j) (l i)) (sb (l k) (l j)):=by unfold tn sb;grind
 rw[e];exact this
def y8{m:Nat}(L:Way A B ps n l)(U:Way (-A) (-B) ps (m+2) u)(e0:u (m+1)=l 0){i j k:Nat}(MQ:i<j)(hj:j<n)(hk:k<m+2):0<=cr (l i) (l j) (u k):=by
 have up:=U.mem k hk;have rij:=L.rise i j MQ hj;by_cases c1:fA A B (u k)<=fA A B (l i)
 ·have e1:=L.Mp i (by lia) (u k) up;have e2:=L.Mp i (by lia) (l j) (L.mem j hj);have r:=L.rise i (i+1) (by lia) (by lia);have:=uV (A:=A) (B:=B) (x:=sb (l i) (u k)) (y:=sb (l (i+1)) (l i)) (z:=sb (l j) (l i)) (by rw[fO];lia) (by rw[fO];lia) (by rw[fO];lia) (by
   rw[gw]at e1;have:tn (sb (l i) (u k)) (sb (l (i+1)) (l i))=tn (sb (l (i+1)) (l i)) (sb (u k) (l i)):=by unfold tn sb;grind
   rw[this];exact e1) (by rw[<- gw];exact e2)
  rw[gw];have e:tn (sb (l j) (l i)) (sb (u k) (l i))=tn (sb (l i) (u k)) (sb (l j) (l i)):=by unfold tn sb;grind
  rw[e];exact this
 ·by_cases c2:fA A B (l j)<=fA A B (u k)
  ·obtain⟨j',rfl⟩:∃j',j=j'+1:=⟨j - 1,by lia⟩;have e1:=L.Mp j' hj (u k) up;have e2:=L.Mp j' hj (l i) (L.mem i (by lia));have r:=L.rise j' (j'+1) (by lia) hj;have:=uV (A:=A) (B:=B) (x:=sb (l (j'+1)) (l i)) (y:=sb (l (j'+1)) (l j')) (z:=sb (u k) (l (j'+1))) (by rw[fO];lia) (by rw[fO];lia) (by rw[fO];lia) (by
    rw[gw]at e2;have:tn (sb (l (j'+1)) (l i)) (sb (l (j'+1)) (l j'))=tn (sb (l (j'+1)) (l j')) (sb (l i) (l j')):=by unfold tn sb;grind
    rw[this];exact e2) (by
    rw[gw]at e1;have:tn (sb (l (j'+1)) (l j')) (sb (u k) (l (j'+1)))=tn (sb (l (j'+1)) (l j')) (sb (u k) (l j')):=by unfold tn sb;grind
    rw[this];exact e1)
   rw[gw];have e:tn (sb (l (j'+1)) (l i)) (sb (u k) (l i))=tn (sb (l (j'+1)) (l i)) (sb (u k) (l (j'+1))):=by unfold tn sb;grind
   rw[e];exact this
  ·have km:k<m+1:=by
    rcases Nat.lt_or_eq_of_le (Nat.le_of_lt_succ hk)with q|q
    ·exact q
    ·exfalso;rw[q,e0]at c1;exact c1 (L.lo _ (L.mem i (by lia)))
   have e1:=U.Mp k (by lia) (l i) (L.mem i (by lia));have e2:=U.Mp k (by lia) (l j) (L.mem j hj);have r:=U.rise k (k+1) (by lia) (by lia);rw[bZ,bZ]at r;have:=uV (A:=A) (B:=B) (x:=sb (l j) (u k)) (y:=sb (u k) (u (k+1))) (z:=sb (u k) (l i)) (by rw[fO];lia) (by rw[fO];lia) (by rw[fO];lia) (by
    rw[gw]at e2;have:tn (sb (l j) (u k)) (sb (u k) (u (k+1)))=tn (sb (u (k+1)) (u k)) (sb (l j) (u k)):=by unfold tn sb;grind
    rw[this];exact e2) (by
    rw[gw]at e1;have:tn (sb (u k) (u (k+1))) (sb (u k) (l i))=tn (sb (u (k+1)) (u k)) (sb (l i) (u k)):=by unfold tn sb;grind
    rw[this];exact e1)
   rw[gw];have e:tn (sb (l j) (l i)) (sb (u k) (l i))=tn (sb (l j) (u k)) (sb (u k) (l i)):=by unfold tn sb;grind
   rw[e];exact this
def Hi(a b c:Sp):cr a b c=cr b c a:=by rw[b6,b6];grind
def Eb{n m:Nat}{h:Nat->Sp}(L:Way A B ps (n+2) l)(U:Way (-A) (-B) ps (m+2) u)(eM:l (n+1)=u 0)(e0:u (m+1)=l 0)
  (hl:∀k,k<n+2->h k=l k) (hu:∀j,j<m+1->h (n+1+j)=u j) {i j k:Nat} (MQ:i<j) (TH:j<k) (hk:k<n+m+2):0<=cr (h i) (h j) (h k):=by
 have U2:Way A B ps (n+2) l:=L;have L':Way (-(-A)) (-(-B)) ps (n+2) l:=by rw[Int.neg_neg,Int.neg_neg];exact L
 have SE:∀k,n+1<=k->k<n+m+2->h k=u (k - (n+1)):=fun k h1 h2=>by
  have:=hu (k - (n+1)) (by lia);rw[<- this];congr 1
  lia
 by_cases ci:i<n+2
 ·by_cases cj:j<n+2
  ·by_cases ck:k<n+2
   ·rw[hl i ci,hl j cj,hl k ck];exact y7 L MQ TH ck
   ·rw[hl i ci,hl j cj,SE k (by lia) hk];exact y8 L U e0 MQ cj (by lia)
  ·rw[hl i ci,SE j (by lia) (by lia),SE k (by lia) hk,Hi];exact y8 U L' eM (by lia) (by lia) ci
 ·rw[SE i (by lia) (by lia),SE j (by lia) (by lia),SE k (by lia) hk];exact y7 U (by lia) (by lia) (by lia)
theorem y3:∀{l:yav},(∀i j k (MQ:i<j) (TH:j<k) (hk:k<l.length),0<=Mn (l[i]'(by lia)) (l[j]'(by lia)) (l[k]'hk))->kx l
 |[],_=>True.intro
 |p::r,h=>⟨RB.mpr fun i j hi hj q=>h 0 (i+1) (j+1) (by lia) (by lia) (by simp;lia),y3 fun i j k MQ TH hk=>h (i+1) (j+1) (k+1) (by lia) (by lia) (by simp;lia)⟩
def we(h:cJ ys ps):P9 ((aO ys).map sT)/\(1<(aO ys).length->∀k,k<(aO ys).length->bI (aO ys) k≠(aO ys).getD k (0,0)):=by
 have yl:=qk h;obtain⟨o,hm⟩:=h;unfold aO;by_cases c:ys.length<2
 ·rw[K4 c];refine⟨fun x y z s=>?_,fun q=>absurd q (by lia)⟩;have:=s.length_le;simp at this
  lia
 rw[K3 c];obtain⟨M,M0,hM⟩:=C2 ys;have oF:ys.Pairwise fun p q=>fA (2*M) 1 p<fA (2*M) 1 q:=by refine List.Pairwise.imp_of_mem ?_ o;intro p q hp hq h;exact rj M0 (hM p hp) (hM q hq) h
 have oB:ys.reverse.Pairwise fun p q=>fA (-(2*M)) (-1) p<fA (-(2*M)) (-1) q:=by refine List.pairwise_reverse.mpr (oF.imp ?_);intro p q h;rw[bZ,bZ];exact Int.neg_lt_neg h
 have L:=(rY oF (SN c)).to (qs:=ps) fun p=>(hm p).symm
 have U:=(rY oB (by rw[QX];exact SN c)).to (qs:=ps) fun p=>by rw[List.mem_reverse];exact(hm p).symm
 have ll:(aI ys).length<=ys.length:=by have:=fV [] ys;unfold aI;rw[QX];simpa using this
 have lu:(aI ys.reverse).length<=ys.length:=by have:=fV [] ys.reverse;unfold aI;rw[QX];simpa using this
 generalize aI ys=l at L ll ⊢;generalize aI ys.reverse=u at U lu ⊢;have inj:∀p∈ps,∀q∈ps,fA (2*M) 1 p=fA (2*M) 1 q->p=q:=fun p hp q hq e=>vT oF p ((hm p).mpr hp) q ((hm q).mpr hq) e
 have nl:∀p∈ps,∀q∈ps,fA (2*M) 1 p<=fA (2*M) 1 q->¬fU q p:=fun p hp q hq e x =>
  Int.not_le_of_gt (rj M0 (hM q ((hm q).mpr hq)) (hM p ((hm p).mpr hp)) x) e
 generalize 2*M=A at L U inj nl;clear oF oB hM M0 o hm;obtain⟨n,hn⟩:∃n,l.length=n+2:=⟨l.length - 2,by have:=L.two;lia⟩;obtain⟨m,hm⟩:∃m,u.length=m+2:=⟨u.length - 2,by have:=U.two;lia⟩;have hl:(l.dropLast++u.dropLast).length=n+m+2:=by
  rw[MG,RE,RE,hn,hm];show n+1+(m+1)=_
  lia
 have memD:∀{w:yat} {x:Sp},x∈w.dropLast->x∈w:=fun {w x} hx=>(List.dropLast_sublist w).subset hx
 have gm:∀{w:yat} {i:Nat} (hi:i<w.length),w.getD i (0,0)=w[i]:=fun {w i} hi=>by rw[Mf,LM hi];rfl
 rw[hn]at L;rw[hm]at U;have eM:l.getD (n+1) (0,0)=u.getD 0 (0,0):=by have m1:=L.mem (n+1) (Pf _);have m2:=U.mem 0 (PH _);have a1:=L.hi _ m2;have a2:=U.lo _ m1;rw[bZ,bZ]at a2;exact inj _ m1 _ m2 (VF (Yj a2) a1)
 have e0:u.getD (m+1) (0,0)=l.getD 0 (0,0):=by have m1:=L.mem 0 (PH _);have m2:=U.mem (m+1) (Pf _);have a1:=L.lo _ m2;have a2:=U.hi _ m1;rw[bZ,bZ]at a2;exact inj _ m2 _ m1 (VF (Yj a2) a1)
 have gu:∀j,j<m+1->(l.dropLast++u.dropLast).getD (n+1+j) (0,0)=u.getD j (0,0):=fun j hj=>by
  have ld:l.dropLast.length=n+1:=by rw[RE,hn];rfl
  rw[Mf,Mf,QG (by rw[ld];exact TV _ _),ld,Nat.add_sub_cancel_left,Yg,hm,K4 (show j<m+2 - 1 from hj)]
 have gl:∀k,k<n+2->(l.dropLast++u.dropLast).getD k (0,0)=l.getD k (0,0):=fun k hk=>by
  rcases Nat.lt_or_eq_of_le (Nat.le_of_lt_succ hk)with z|z
  ·rw[Mf,Mf,Qh (by rw[RE,hn];exact z),Yg,hn,K4 (show k<n+2 - 1 from z)]
  ·rw[z,eM];exact gu 0 (PH _)
 constructor
 rotate_left
 ·intro _ k hk e;rw[hl]at hk;unfold bI at e;rw[hl]at e;have gu':∀k,n+1<=k->k<n+m+2->(l.dropLast++u.dropLast).getD k (0,0)=u.getD (k - (n+1)) (0,0):=fun k h1 h2=>by
   have:=gu (k - (n+1)) (by lia);rw[<- this];congr 1
   lia
  cases k with
  |zero =>
   have e1:(0+(n+m+2) - 1) % (n+m+2)=n+m+1:=by rw[NS (by lia)];lia
   rw[e1,gu' _ (by lia) (by lia),gl 0 (by lia),<- e0]at e;have:=U.rise (n+m+1 - (n+1)) (m+1) (by lia) (by lia);rw[e]at this;exact Q3 _ this
  |succ k =>
   have e1:(k+1+(n+m+2) - 1) % (n+m+2)=k:=by
    have:k+1+(n+m+2) - 1=k+(n+m+2):=by lia
    rw[this,Vy,NS (by lia)]
   rw[e1]at e;by_cases q:k+1<n+2
   ·rw[gl k (by lia),gl (k+1) q]at e;have:=L.rise k (k+1) (by lia) q;rw[e]at this;exact Q3 _ this
   ·rw[gu' k (by lia) (by lia),gu' (k+1) (by lia) hk]at e;have:=U.rise (k - (n+1)) (k+1 - (n+1)) (by lia) (by lia);rw[e]at this;exact Q3 _ this
 apply kx.t;apply y3;intro i j k MQ TH hk;rw[K8,hl]at hk;have R:=Eb L U eM e0 gl gu MQ TH hk;rw[gm (by rw[hl];lia),gm (by rw[hl];lia),gm (by rw[hl];lia)]at R;rw[Qb,Qb,Qb,HN];exact R
def J2(p:Sp):Pr (sT p):=⟨by show(0:Int)<1;decide,by show PM.g3 1 p.1 p.2=1;unfold PM.g3;rw[Int.one_gcd];exact Int.one_gcd⟩
def oM(h X:Tr)(p:Sp):X.1*KZ h (sT p) - KZ h X=h.2.1*(Lf X p).1+h.2.2*(Lf X p).2:=by unfold KZ sT Lf;grind
def wg{X:Tr}(h0:0<X.1)(B:mR X hs):Si (hs.map sT) X:=fun h hh=>by
 have hp:∀p∈hs,0<=X.1*KZ h (sT p):=fun p hp=>M8 (MI h0) (hh _ (LR.mpr ⟨p,hp,rfl⟩))
 have two:∀p∈hs,∀q∈hs,∀s t:Int,0<s->0<t->s*(Lf X p).1+t*(Lf X q).1=0->s*(Lf X p).2+t*(Lf X q).2=0->0<=KZ h X:=fun p pm q qm s t s0 t0 e1 e2=>by
  have g1:=oM h X p;have g2:=oM h X q;have a1:=M8 (MI s0) (hp p pm);have a2:=M8 (MI t0) (hp q qm);have e:(s+t)*KZ h X=s*(X.1*KZ h (sT p))+t*(X.1*KZ h (sT q)):=by grind
  exact Sm (a:=s+t) (by rw[e];lia) (by lia)
 have three:∀p∈hs,∀q∈hs,∀r∈hs,∀s t w:Int,0<s->0<t->0<w->s*(Lf X p).1+t*(Lf X q).1+w*(Lf X r).1=0->s*(Lf X p).2+t*(Lf X q).2+w*(Lf X r).2=0->0<=KZ h X:=fun p pm q qm r rm s t w s0 t0 w0 e1 e2=>by
  have g1:=oM h X p;have g2:=oM h X q;have g3:=oM h X r;have a1:=M8 (MI s0) (hp p pm);have a2:=M8 (MI t0) (hp q qm);have a3:=M8 (MI w0) (hp r rm);have e:(s+t+w)*KZ h X=s*(X.1*KZ h (sT p))+t*(X.1*KZ h (sT q))+w*(X.1*KZ h (sT r)):=by grind
  exact Sm (a:=s+t+w) (by rw[e];lia) (by lia)
 rcases B with⟨p,pm,b⟩| ⟨p,pm,q,qm,b⟩| ⟨p,pm,q,qm,r,rm,b⟩
 ·have g:=oM h X p;have b':Lf X p=(0,0):=b;rw[b',SU,SU]at g;have:=hp p pm
  lia
 ·obtain⟨o1,o2⟩:=BW b.1;have nz:Lf X q≠(0,0):=fun e=>by have:=b.2;rw[e]at this;unfold LB at this;simp at this
  exact two p pm q qm _ _ (jD nz) (by have:=b.2;lia) o1 o2
 ·obtain⟨o1,o2⟩:=C1 (Lf X p) (Lf X q) (Lf X r);rcases b with⟨b1,b2,b3⟩| ⟨b1,b2,b3⟩
  ·exact three p pm q qm r rm _ _ _ b1 b2 b3 o1 o2
  ·exact three p pm q qm r rm (-tn (Lf X q) (Lf X r)) (-tn (Lf X r) (Lf X p)) (-tn (Lf X p) (Lf X q)) (by lia) (by lia) (by lia) (by rw[Ox,Ox,Ox];lia) (by rw[Ox,Ox,Ox];lia)
def zW(g:lK hs ps)(hn:ps ≠ []):lK hs hs:=by refine⟨fun _ h=>h,by lia,fun _=>?_,fun a e p hp=>g.one a e p (g.mem p hp),fun a b e=>⟨(g.two a b e).1,fun p hp=>(g.two a b e).2 p (g.mem p hp)⟩,fun q k hk p hp=>g.Mp q k hk p (g.mem p hp),g.Pw⟩;obtain⟨a,r,e,hl⟩:=g.P7 hn;exact⟨a,r,e,fun p hp=>hl p (g.mem p hp)⟩
def kY(g:lK hs ps)(hn:ps ≠ []):hs ≠ []:=by obtain⟨a,r,e,_⟩:=g.P7 hn;rw[e];simp
def Ds{X:Tr}(g:lK hs ps)(hn:ps ≠ [])(h0:0<X.1)(Qg:∀b∈aG hs,0<=KZ b X):Si (hs.map sT) X :=
 wg h0 (uo (zW g hn) (kY g hn) h0 Qg)
def vB(a b:Sp):KZ (eA a b) (sT a)=0/\KZ (eA a b) (sT b)=0:=by constructor<;>(unfold KZ eA sT;grind)
def oK(a w:Sp):KZ (bX a w) (sT a)=0:=by unfold KZ bX sT;grind
theorem vq{R:Tr->Tr->Prop}:∀{l:yav},(∀i (h:i+1<l.length),R (l[i]'(by lia)) l[i+1])->O6 R l
 |[],_=>True.intro
 |[_],_=>True.intro
 |a::b::r,h=>⟨h 0 (by simp),vq fun i hi=>h (i+1) (by simp at hi ⊢;lia)⟩
def Dr{hs:yat}{Gs:yav}(hn:hs ≠ [])(hG:∀b∈aG hs,b∈Gs):V6 (Sh (·∈Gs)) (hs.map sT):=fun k z ek=>by
 by_cases c:hs.length<3
 ·have eb:aG hs=dD (hs.getD 0 (0,0)) (hs.getD (hs.length - 1) (0,0)):=by unfold aG;rw[K4 c]
  have am:∃e∈Gs,∀p∈hs,KZ e (sT p)=0:=by
   refine⟨bX (hs.getD 0 (0,0)) (Pd (aM (hs.getD 0 (0,0)) (hs.getD (hs.length - 1) (0,0)))),hG _ (by rw[eb];unfold dD;simp),fun p hp=>?_⟩;rcases hs with _|⟨a,_|⟨b,_|⟨d,r⟩⟩⟩
   ·exact absurd rfl hn
   ·rw[M4.mp hp];exact oK _ _
   ·simp only[Lp,Nq,or_false]at hp;rcases hp with rfl|rfl
    ·exact oK _ _
    ·show KZ (bX a (Pd (aM a p))) (sT p)=0;unfold aM;split
     ·rename_i e;rw[<- e];exact oK _ _
     ·unfold KZ bX sT Pd;grind
   ·simp at c;lia
  obtain⟨e,he,hp⟩:=am;have all:∀x∈hs.map sT,KZ e x=0:=fun x hx=>by obtain⟨p,pm,rfl⟩:=LR.mp hx;exact hp p pm
  have zm:z∈hs.map sT:=by rw[ek];simp
  have X1:∀x∈z::hs.map sT,KZ e x=0:=fun x hx=>by
   rcases Lp.mp hx with rfl|hx
   ·exact all x zm
   ·exact all x hx
  exact vq fun i hi=>⟨e,he,X1 _ (PG _),X1 _ (PG _)⟩
 ·have eb:aG hs=(List.range' 0 hs.length).map fun k=>eA (bI hs k) (hs.getD k (0,0)):=by unfold aG;rw[K3 c]
  have gm:∀{i:Nat} (hi:i<hs.length),hs.getD i (0,0)=hs[i]:=fun {i} hi=>by rw[Mf,LM hi];rfl
  have on:∀i (hi:i<hs.length),Sh (·∈Gs) (sT (bI hs i)) (sT hs[i]):=fun i hi=>by obtain⟨o1,o2⟩:=vB (bI hs i) (hs.getD i (0,0));refine⟨_,hG (eA (bI hs i) (hs.getD i (0,0))) (by rw[eb];exact LR.mpr ⟨i,by simp[hi],rfl⟩),o1,?_⟩;rw[<- gm hi];exact o2
  have ez:z=sT (bI hs 0):=by
   have e1:(hs.map sT).getLast?=some z:=by rw[ek];simp
   rw[List.getLast?_map,Y4]at e1;unfold bI;have:(0+hs.length - 1) % hs.length=hs.length - 1:=by rw[OZ];exact NS (by lia)
   rw[this,gm (by lia)];rw[LM (by lia)]at e1;exact(Ol e1).symm
  refine vq fun i hi=>?_
  cases i with
  |zero =>
   show Sh _ z ((hs.map sT)[0]'_);rw[ez,Qb];exact on 0 (by lia)
  |succ i =>
   show Sh _ ((hs.map sT)[i]'_) ((hs.map sT)[i+1]'_);rw[Qb,Qb];simp at hi;have:=on (i+1) (by lia);unfold bI at this;have e:(i+1+hs.length - 1) % hs.length=i:=by
    have:i+1+hs.length - 1=i+hs.length:=by lia
    rw[this,Vy];exact NS (by lia)
   rw[e,gm (by lia)]at this;exact this
def CU(ha:WB n a)(hb:WB n b):WB (n+1) (aM a b)/\aM a b≠(0,0):=by
 unfold aM;split
 ·exact⟨⟨by unfold Bd;have:=Uw (n:=2) (by decide) (show 1<=n+1 by lia);lia,by unfold Bd;exact Nat.pow_pos (by decide)⟩,by simp⟩
 ·rename_i ne;refine⟨⟨?_,?_⟩,fun z=>ne ?_⟩
  ·show Bd _ (1*b.1 - 1*a.1);rw[O8,O8];exact hb.x.sub ha.x
  ·show Bd _ (1*b.2 - 1*a.2);rw[O8,O8];exact hb.y.sub ha.y
  ·simp only[Qm]at z;exact Pj (by lia) (by lia)
def oJ(ha:WB n a)(hw:WB (n+1) w)(h0:w≠(0,0)):Vh n (bX a w):=by
 unfold bX;refine⟨fun z=>h0 ?_,?_,?_,?_⟩
 ·simp only[Qm]at z;exact Pj (by lia) (by lia)
 ·exact Bd.mono (Bd.neg ((hw.x.mul ha.x).add (hw.y.mul ha.y))) (by lia)
 ·show Bd _ (w.1*1);rw[Int.mul_one];exact hw.x
 ·show Bd _ (w.2*1);rw[Int.mul_one];exact hw.y
def D6{hs:yat}(hn:hs ≠ [])(k:Nat):bI hs k∈hs:=by unfold bI;have:(k+hs.length - 1) % hs.length<hs.length:=Rr _ (Ym.mpr hn);rw[Mf,LM this];exact PG _
def getD_mem{hs:yat}{k:Nat}(h:k<hs.length):hs.getD k (0,0)∈hs:=by rw[Mf,LM h];exact PG _
def AV{hs:yat}(hn:hs ≠ [])(nd:1<hs.length->∀k,k<hs.length->bI hs k≠hs.getD k (0,0))(hb:∀p∈hs,WB n p):∀b∈aG hs,Vh n b:=fun b V7=>by
 unfold aG at V7;split at V7
 ·rename_i c;have l0:0<hs.length:=Ym.mpr hn;have wa:=hb _ (getD_mem (hs:=hs) (k:=0) l0);have wb:=hb _ (getD_mem (hs:=hs) (k:=hs.length - 1) (by lia));obtain⟨w1,w2⟩:=CU wa wb;generalize hs.getD 0 (0,0)=a at *;generalize hs.getD (hs.length - 1) (0,0)=d at *;unfold dD at V7;simp only[Lp,Nq,or_false]at V7;generalize aM a d=w at *;have bk:WB (n+1) (P8 w)/\P8 w≠(0,0):=⟨⟨w1.x.neg,w1.y.neg⟩,fun z=>w2 (by
   unfold P8 at z;simp only[Qm]at z;exact Pj (by lia) (by lia))⟩
  have lf:WB (n+1) (Pd w)/\Pd w≠(0,0):=⟨⟨w1.y.neg,w1.x⟩,fun z=>w2 (by unfold Pd at z;simp only[Qm]at z;exact Pj (by lia) (by lia))⟩
  have bl:WB (n+1) (P8 (Pd w))/\P8 (Pd w)≠(0,0):=⟨⟨lf.1.x.neg,lf.1.y.neg⟩,fun z=>lf.2 (by generalize Pd w=v at *;unfold P8 at z;simp only[Qm]at z;exact Pj (by lia) (by lia))⟩
  rcases V7 with rfl|rfl|rfl|rfl
  ·exact oJ wa w1 w2
  ·exact oJ wb bk.1 bk.2
  ·exact oJ wa lf.1 lf.2
  ·exact oJ wa bl.1 bl.2
 ·rename_i c;obtain⟨k,hk,rfl⟩:=LR.mp V7;have Rz:k<hs.length:=by simp at hk;exact hk
  have ne:=nd (by lia) k Rz;have wa:=hb _ (D6 hn k);have wb:=hb _ (getD_mem Rz);generalize bI hs k=a at *;generalize hs.getD k (0,0)=d at *;unfold eA;refine⟨fun z=>ne ?_,?_,?_,?_⟩
  ·simp only[Qm]at z;exact Pj (by lia) (by lia)
  ·exact Bd.mono ((wa.x.mul wb.y).sub (wb.x.mul wa.y)) (by lia)
  ·show Bd _ (a.2*1 - d.2*1);rw[Int.mul_one,Int.mul_one];exact wa.y.sub wb.y
  ·show Bd _ (1*d.1 - 1*a.1);rw[O8,O8];exact wb.x.sub wa.x
def Dq{Gs Z:yav}(h:cJ ys ps)(hn:ps ≠ [])(hb:∀p∈ps,WB n p)(hG:∀b∈aG (aO ys),b∈Gs)(hZ:∀p∈aO ys,sT p∈Z)(hL:(aO ys).length<=Z.length):Vi n Gs Z ((aO ys).map sT):=by
 have g:=cQ h;have w:∀p∈aO ys,WB n p:=fun p hp=>hb p (g.mem p hp)
 refine⟨(we h).1,fun p hp=>?_,fun p hp=>?_,Dr (kY g hn) hG,fun p hp=>?_,by rw[K8];exact hL⟩
 ·obtain⟨q,_,rfl⟩:=LR.mp hp;exact J2 q
 ·obtain⟨q,qm,rfl⟩:=LR.mp hp;refine⟨?_,(w q qm).x.mono (by lia),(w q qm).y.mono (by lia)⟩;show Bd _ 1;unfold Bd;exact M5 (show 1<2 ^ 1 by decide) (Uw (by decide) (by lia))
 ·obtain⟨q,qm,rfl⟩:=LR.mp hp;exact hZ q qm
def Cy(g:Tr)(qf:Tr->Tr->Tr)(z:Tr)(l:yav)(c:Tr):aF g qf z (l++[c])=aF g qf z l++((if KZ g (l.getLastD z)*KZ g c<0 then[qf (l.getLastD z) c]else[])++(if 0<=KZ g c then[c]else[])):=by
 rcases List.eq_nil_or_concat l with rfl|⟨k,p,rfl⟩
 ·simp only[Pg,aF,Rm,List.getLastD_nil];rfl
 ·rw[List.concat_eq_append,QH];show aF g qf z (k++p::[c])=_;rw[iu];congr 1;simp only[aF,Rm];rw[List.getLastD_concat]
theorem qD(g:Tr)(qf:Tr->Tr->Tr):∀(l:yav) (z:Tr),(aF g qf z l).length<=2*l.length
 |[],_=>LG _
 |c::r,z=>by unfold aF;have:=qD g qf r c;rw[MG,MG,Oj];split<;>split<;>simp<;>lia
theorem mZ:∀(l s s':yav),(∀x,x∈s↔x∈s')->OI s l=OI s' l
 |[],_,_,_=>rfl
 |x::r,s,s',h=>by
  unfold OI;by_cases q:x∈s
  ·rw[K4 q,K4 ((h x).mp q)];exact mZ r s s' h
  ·rw[K3 q,K3 fun z=>q ((h x).mpr z)];congr 1;exact mZ r _ _ fun y=>by simp[h y]
theorem vM(z:Tr):∀(l pre:yav),((List.range' pre.length l.length).filter fun k=>!((pre++l).take k).any fun y=>decide (y=(pre++l).getD k z)).map (fun k=>(pre++l).getD k z)=OI pre l
 |[],pre=>rfl
 |x::r,pre=>by
  have ih:=vM z r (pre++[x]);have e:pre++[x]++r=pre++x::r:=by simp
  rw[e]at ih;have hx:(pre++x::r).getD pre.length z=x:=by simp[Mf]
  have ht:(pre++x::r).take pre.length=pre:=by simp
  rw[Oj,List.range'_succ,List.filter_cons,hx,ht];have ha:(pre.any fun y=>decide (y=x))=decide (x∈pre):=by rw[VD];simp
  rw[ha];have hl:(pre++[x]).length=pre.length+1:=by simp
  rw[hl]at ih;unfold OI;by_cases q:x∈pre
  ·rw[K4 q,K3 (by simp[q]),ih];exact mZ r _ _ fun y=>by simp only[Mc,M4];exact⟨fun h=>h.elim id fun e=>e ▸ q,.inl⟩
  ·rw[K3 q,K4 (by simp[q]),LD,hx,ih]
def Jj(a b:Int):(sg a*sg b<0)↔a*b<0:=by
 unfold sg;rcases TQ a 0 with ha|ha|ha
 ·rw[K3 (by lia),K4 ha];rcases TQ b 0 with hb|hb|hb
  ·rw[K3 (by lia),K4 hb];have:=Vs ha hb;constructor<;>intro<;>lia
  ·subst hb;simp
  ·rw[K4 hb];have:=QU ha hb;constructor<;>intro<;>lia
 ·subst ha;simp
 ·rw[K4 ha];rcases TQ b 0 with hb|hb|hb
  ·rw[K3 (by lia),K4 hb];have:=Vr ha hb;constructor<;>intro<;>lia
  ·subst hb;simp
  ·rw[K4 hb];have:=Qf ha hb;constructor<;>intro<;>lia
def Jk(a:Int):(0<=sg a)↔0<=a:=by
 unfold sg;split
 ·constructor<;>intro<;>lia
 ·split<;>(constructor<;>intro<;>lia)
def HV(p q:Tr):eqD (Lm p) (Lm q)=decide (p=q):=by unfold Lm;rw[Bm];obtain⟨a,b,c⟩:=p;obtain⟨d,e,f⟩:=q;rw[VD];simp
def yL(p:Tr):NQ 1 (Lm p):=NQ.tup (.cons (.int _ _) (.cons (.int _ _) (.cons (.int _ _) (.nil _))))
def bg(ps:yat):D:=.lst false (ps.map Ll)
def DF(h:bg p=bg q):p=q:=by unfold bg at h;simp only[D.lst.injEq,true_and]at h;exact yY h
def FX{ps qs:yas}(h:ps.map bg=qs.map bg):ps=qs:=iO DF h
def qB(p:yat):aL (bg p)=bg p:=by unfold bg;rw[bo,gP]
def AF(ps:yas):bc (ps.map bg)=ps.map bg:=cc bg qB ps
def bS:yas->yas->Prop
 |[],[]=>True
 |ys::yss,ps::Ls=>cJ ys ps/\bS yss Ls
 |_,_=>False
theorem bS.len:∀{yss Ls:yas},bS yss Ls->yss.length=Ls.length
 |[],[],_=>rfl
 |_::_,_::_,a=>by rw[Oj,Oj,bS.len a.2]
 |[],_::_,a=>a.elim
 |_::_,[],a=>a.elim
theorem bS.snoc:∀{yss Ls:yas} {ys ps:yat},bS yss Ls->cJ ys ps->bS (yss++[ys]) (Ls++[ps])
 |[],[],_,_,_,h=>⟨h,True.intro⟩
 |_::_,_::_,_,_,a,h=>⟨a.1,bS.snoc a.2 h⟩
 |[],_::_,_,_,a,_=>a.elim
 |_::_,[],_,_,a,_=>a.elim
theorem bS.ex:∀{yss Ls:yas},bS yss Ls->∀ys∈yss,∃ps∈Ls,cJ ys ps
 |[],_,_,_,h=>by cases h
 |y::yss,p::Ls,a,ys,h=>by
  rcases Lp.mp h with rfl|h
  ·exact⟨p,by simp,a.1⟩
  ·obtain⟨ps,m,r⟩:=bS.ex a.2 ys h;exact⟨ps,L8 _ m,r⟩
 |_::_,[],a,_,_=>a.elim
theorem bS.ex2:∀{yss Ls:yas},bS yss Ls->∀ps∈Ls,∃ys∈yss,cJ ys ps
 |_,[],_,_,h=>by cases h
 |y::yss,p::Ls,a,ps,h=>by
  rcases Lp.mp h with rfl|h
  ·exact⟨y,by simp,a.1⟩
  ·obtain⟨ys,m,r⟩:=bS.ex2 a.2 ps h;exact⟨ys,L8 _ m,r⟩
 |[],_::_,a,_,_=>a.elim
def aT:Nat->yas->yau
 |_,[]=>[]
 |n,ys::r=>((aG (aO ys)).map fun g=>((n:Int),g))++aT (n+1) r
theorem rD:∀(yss:yas) (n:Nat) (ys:yat),aT n (yss++[ys])=aT n yss++(aG (aO ys)).map fun g=>(((n+yss.length:Nat):Int),g)
 |[],n,ys=>by simp[aT]
 |y::yss,n,ys=>by
  rw[Od,aT,aT,rD yss (n+1) ys,QH,Oj];congr 4
  funext g
  congr 2
  lia
theorem uq:∀{yss:yas} {n:Nat} {x:Int×Tr},x∈aT n yss->∃ys∈yss,x.2∈aG (aO ys)
 |[],_,_,h=>by cases h
 |y::yss,n,x,h=>by
  rw[aT]at h;rcases Mc.mp h with h|h
  ·obtain⟨g,hg,rfl⟩:=LR.mp h;exact⟨y,by simp,hg⟩
  ·obtain⟨ys,m,q⟩:=uq h;exact⟨ys,L8 _ m,q⟩
theorem nC:∀{yss:yas} (n:Nat) {ys:yat} {g:Tr},ys∈yss->g∈aG (aO ys)->g∈(aT n yss).map (·.2)
 |[],_,_,_,h,_=>by cases h
 |y::yss,n,ys,g,h,hg=>by
  rw[aT,M6];rcases Lp.mp h with rfl|h
  ·refine Qi _ ?_;rw[MJ];exact LR.mpr ⟨g,hg,rfl⟩
  ·exact Oi _ (nC (n+1) h hg)
theorem j9{B:Nat}:∀(yss:yas) (n:Nat),(∀ys∈yss,(aG (aO ys)).length<=B)->(aT n yss).length<=B*yss.length
 |[],_,_=>MK _
 |y::yss,n,h=>by
  rw[aT,MG,K8,Oj,Nat.mul_succ];have:=h y (by simp);have:=j9 yss (n+1) fun z hz=>h z (L8 _ hz)
  lia
def Nu(x:Int×Tr):D:=.tup [.int x.1,Lm x.2]
def xc(x:Int×Tr):aL (Nu x)=Nu x:=by unfold Nu;simp only[bV,bq,bD,cV,cX]
def mD(xs:yau):bc (xs.map Nu)=xs.map Nu:=cc Nu xc xs
def oS(r:yag×yaf):D:=.tup [Np r.1,.lst true (r.2.map D.int)]
def oP (y:Tr) (rs:List (yag×yaf)):D:=.tup [.str "meet", Lm y,.lst true (rs.map oS)]
structure LsOk(Ls:yas):Prop where
 l0:0<Ls.length
 l8:Ls.length<=8
 ne:∀ps∈Ls,0<ps.length
 le:∀ps∈Ls,ps.length<=30
 bd:∀ps∈Ls,∀p∈ps,WB 40 p
def G2(Ls:yas)(X:Tr):Prop:=0<X.1/\∀ps∈Ls,∀g:Tr,(∀p∈ps,0<=KZ g (1,p.1,p.2))->0<=KZ g X
def CB.pb{y:Tr}(h:CB 40 y)(p:Pr y):PB 160 y:=⟨p.pos,h.b.mono (by decide),h.x.mono (by decide),h.y.mono (by decide)⟩
def zT{α:Type}(f:α->D)(z:α)(xs:List α):lR 0 (xs.map f)=(List.range' 0 xs.length).map fun k=>D.tup [.int ((k:Nat):Int),f (xs.getD k z)]:=by
 apply List.ext_getElem?;intro i;by_cases h:i<xs.length
 ·rw[nh 0 (xs.map f) i (f xs[i]) (by rw[LZ,LM h];rfl),LZ,LM (by rw[Nf];exact h),Ri,OZ,OZ,RH,Option.map_some,Mf,LM h];rfl
 ·rw[RD (by rw[nj,K8];lia),RD (by rw[K8,Nf];lia)]
def du(r:yag×yaf):D:=.tup [.lst false (r.1.map fun(k:Nat)=>D.int (k:Int)),.lst false (r.2.map D.int)]
def jh (y:Tr) (rs:List (yag×yaf)):D:=.tup [.str "meet", Lm y,.lst false (rs.map du)]
def rS(r:yag×yaf):aL (oS r)=du r:=by
 have e:r.1.map (fun(k:Nat)=>D.int (k:Int))=(r.1.map fun(k:Nat)=>(k:Int)).map D.int:=by rw[MJ];rfl
 unfold oS du Np;rw[e];simp only[bV,bq,bD,bo,fK]
theorem j5:∀rs:List (yag×yaf),bc (rs.map oS)=rs.map du
 |[]=>bD
 |r::rs=>by rw[LD,bq,rS,j5 rs,LD]
def kR(r:yag×yaf):aL (du r)=du r:=by
 have e:r.1.map (fun(k:Nat)=>D.int (k:Int))=(r.1.map fun(k:Nat)=>(k:Int)).map D.int:=by rw[MJ];rfl
 unfold du;rw[e];simp only[bV,bq,bD,bo,fK]
def mC(y:Tr)(rs:List (yag×yaf)):aL (oP y rs)=jh y rs:=by unfold oP jh;simp only[bV,bq,bD,bo,iP,cX,j5]
def cN(ps:yat):D:=.lst true (ps.map Ll)
def rR(ps:yat):aL (cN ps)=bg ps:=by unfold cN bg;rw[bo,gP]
theorem fL:∀Ls:yas,bc (Ls.map cN)=Ls.map bg
 |[]=>bD
 |p::r=>by rw[LD,bq,rR,fL r,LD]
theorem EZ:∀(l:yaf),(∀x∈l,Bd n x)->Bd (n+l.length) l.sum
 |[],_=>by unfold Bd;exact Nat.pow_pos (by decide)
 |x::r,h=>by rw[Ov,Oj];exact Bd.add (m:=n+r.length) ((h x (by simp)).mono (by lia)) (EZ r fun y hy=>h y (L8 _ hy))
def zX(ps:yat)(zs:List (Nat×Int)):Int:=(zs.map fun z=>z.2*(ps.getD z.1 (0,0)).1).sum
def zY(ps:yat)(zs:List (Nat×Int)):Int:=(zs.map fun z=>z.2*(ps.getD z.1 (0,0)).2).sum
theorem Jy(ps:yat):∀(pk:yag) (sh:yaf),zX ps (pk.zip sh)=sX (pk.map fun k=>ps.getD k (0,0)) sh
 |[],_=>by unfold zX sX;simp
 |_::_,[]=>by unfold zX sX;simp
 |k::pk,s::sh=>by have:=Jy ps pk sh;unfold zX sX at this ⊢;rw[Vw,LD,Ov,this,LD,QV,Ov,Nx]
theorem Jz(ps:yat):∀(pk:yag) (sh:yaf),zY ps (pk.zip sh)=sY (pk.map fun k=>ps.getD k (0,0)) sh
 |[],_=>by unfold zY sY;simp
 |_::_,[]=>by unfold zY sY;simp
 |k::pk,s::sh=>by have:=Jz ps pk sh;unfold zY sY at this ⊢;rw[Vw,LD,Ov,this,LD,QV,Ov,Nx]
theorem xn:∀(pk:yag) (sh:yaf),List.zipWith (fun x y=>D.tup [x,y]) ((pk.map fun(k:Nat)=>(k:Int)).map D.int) (sh.map D.int)=(pk.zip sh).map fun z=>D.tup [.int ((z.1:Nat):Int),.int z.2]
 |[],_=>rfl
 |_::_,[]=>rfl
 |k::pk,s::sh=>by rw[LD,LD,LD,QV,xn pk sh,Vw,LD]
theorem zip_parts{α β:Type}(f:α->D)(g:β->D):∀(xs:List α) (ys:List β),List.zipWith (fun x y=>D.tup [x,y]) (xs.map f) (ys.map g)=(xs.zip ys).map fun z=>D.tup [f z.1,g z.2]
 |[],_=>rfl
 |_::_,[]=>rfl
 |x::xs,y::ys=>by rw[LD,LD,QV,zip_parts f g xs ys,Vw,LD]
def BM(t:Bool)(ps:yat):NQ 2 (.lst t (ps.map Ll)):=NQ.map IL
structure KS(m:Sp)(ps:yat):Prop where
 l0:0<ps.length
 l3:ps.length<=3
 bd:∀p∈ps,WB 40 p
 inn:∀g:Tr,(∀p∈ps,0<=KZ g (1,p.1,p.2))->0<=KZ g (1,m.1,m.2)
def p13:((10:Int) ^ (13:Int).toNat)=10000000000000:=by decide
def Hf:zd 10 13:=⟨by decide,by decide,by decide⟩
def plk(a b c d:Sp):tn a b*tn c d=tn a c*tn b d - tn a d*tn b c:=by unfold tn;grind
theorem vS(t:Sp):∀V:yat,(∃v∈V,0<tn t v)->∃v∈V,0<tn t v/\∀w∈V,0<tn t w->0<=tn v w
 |[],h=>by obtain⟨v,hv,_⟩:=h;cases hv
 |x::V,h=>by
  by_cases hV:∃v∈V,0<tn t v
  ·obtain⟨v,vm,hv,hw⟩:=vS t V hV;by_cases hx:0<tn t x/\tn v x<0
   ·refine⟨x,Ng,hx.1,fun w X2 ht=>?_⟩;rcases Lp.mp X2 with e|wm
    ·rw[e,o6];exact Oe _
    ·have k:=plk t v x w;have a1:=M8 (MI hx.1) (hw w wm ht);have a2:=Qf ht (show 0 < - tn v x by lia);rw[Int.mul_neg]at a2;exact Sm (by rw[k];lia) hv
   ·refine⟨v,L8 _ vm,hv,fun w X2 ht=>?_⟩;rcases Lp.mp X2 with e|wm
    ·subst e;exact Rq.mp fun z=>hx ⟨ht,z⟩
    ·exact hw w wm ht
  ·obtain⟨v,vm,hv⟩:=h;rcases Lp.mp vm with e|vm
   ·subst e;refine⟨v,Ng,hv,fun w X2 ht=>?_⟩;rcases Lp.mp X2 with e|wm
    ·rw[e,o6];exact Oe _
    ·exact absurd ⟨w,wm,ht⟩ hV
   ·exact absurd ⟨v,vm,hv⟩ hV
theorem AE{α:Type}(f:α->Int):∀V:List α,∃M:Int,0<M/\∀v∈V,f v<=M
 |[]=>⟨1,by decide,fun v hv=>by cases hv⟩
 |x::V=>by
  obtain⟨M,h0,hM⟩:=AE f V;refine⟨M+(f x).toNat,by lia,fun v hv=>?_⟩;rcases Lp.mp hv with e|vm
  ·subst e;lia
  ·have:=hM v vm;lia
def sq_pos{t:Sp}(ht:t≠(0,0)):0<LB t t:=by
 obtain⟨a,b⟩:=t;show 0<a*a+b*b;have h1:0<=a*a:=by rcases Int.le_total 0 a with h|h;exact M8 h h;exact V9 h h
 have h2:0<=b*b:=by rcases Int.le_total 0 b with h|h;exact M8 h h;exact V9 h h
 by_cases ha:a=0
 ·have hb:b≠0:=fun e=>ht (by rw[ha,e])
  have:=VG hb hb;omega
 ·have:=VG ha ha;omega
def Ib{t:Sp}(ht:t≠(0,0))(V:yat)(hV:∀d:Sp,(∀v∈V,0<=LB v d)->0<=LB t d):(∃v∈V,tn t v=0/\0<LB t v)∨∃ v∈V,∃w∈V,tn t v<0/\0<tn t w/\0<tn v w:=by
 refine Wb fun no=>?_
 have n1:∀v∈V,tn t v=0->LB t v<=0:=fun v hv h=>Rq.mp fun z=>no (.inl ⟨v,hv,h,z⟩)
 have sq:=sq_pos ht;by_cases L:∃v∈V,0<tn t v
 ·obtain⟨w,wm,hw,ext⟩:=vS t V L;have a:=hV (-w.2,w.1) fun v hv=>by
   have e:LB v (-w.2,w.1)=tn w v:=by unfold LB tn;grind
   rw[e];rcases TQ (tn t v) 0 with c|c|c
   ·refine Rq.mp fun z=>no (.inr ⟨v,hv,w,wm,c,hw,?_⟩)
    rw[cF];lia
   ·have k:LB t t*tn w v=LB t v*tn w t+tn t v*LB w t:=by unfold LB tn;grind
    rw[c,QJ,Rp]at k;have q:=V9 (n1 v hv c) (show tn w t<=0 by rw[cF];lia);rw[<- k]at q;exact Sm q sq
   ·exact ext v hv c
  have e:LB t (-w.2,w.1)=tn w t:=by unfold LB tn;grind
  rw[e,cF]at a
  lia
 ·obtain⟨M,M0,hM⟩:=AE (fun v=>LB v t) V;have a:=hV (M*t.2 - t.1,- (M*t.1) - t.2) fun v hv=>by
   have e:LB v (M*t.2 - t.1,- (M*t.1) - t.2)=M*(- tn t v) - LB v t:=by unfold LB tn;grind
   rw[e];have h:=Rq.mp fun z=>L ⟨v,hv,z⟩
   by_cases c:tn t v=0
   ·have:=n1 v hv c;rw[pY]at this;rw[c];lia
   ·have b:M*1<=M*(- tn t v):=Y1 (by lia) (MI M0);have:=hM v hv
    lia
  have e:LB t (M*t.2 - t.1,- (M*t.1) - t.2)=- LB t t:=by unfold LB;grind
  lia
def vc(g:Tr):Sp:=(g.2.1,g.2.2)
def JM(g:Tr)(N d1 d2:Int)(p:Tr):KZ g (N*p.1,N*p.2.1+d1,N*p.2.2+d2)=N*KZ g p+LB (vc g) (d1,d2):=by unfold KZ LB vc;grind
def Hb{gs C:yav}(hC:C ≠ [])(pos:∀p∈C,0<p.1)(hg:∀p∈C,KZ g p<0)(ov:∀h∈gs,∀p∈C,0<=KZ h p)
  (sp:∀X:Tr,0<X.1->(∀h∈gs,0<=KZ h X)->Si C X) (gv:vc g≠(0,0)) :
  ∃ p:Tr,0<p.1/\KZ g p<0/\((∃h∈gs,KZ h p=0/\gS (vc h) (vc g))∨∃ h∈gs,∃k∈gs,KZ h p=0/\KZ k p=0/\dQ (vc h) (vc k) (vc g)):=by
 obtain⟨c0,V8⟩:=X9 C hC;have h0:∀p:Tr,KZ (-1,0,0) p=- p.1:=fun p=>by unfold KZ;grind
 obtain⟨p,pm,gp,_,best⟩:=qe g (-1,0,0) C ⟨c0,V8,hg c0 V8,by rw[h0];have:=pos c0 V8;lia⟩;have pp:=pos p pm;refine⟨p,pp,gp,?_⟩;have ht:(- g.2.1,- g.2.2)≠((0,0):Sp):=fun e=>gv (by have e1:=congrArg Prod.fst e;have e2:=congrArg Prod.snd e;dsimp only at e1 e2;unfold vc;rw[show g.2.1=0 by lia,show g.2.2=0 by lia])
 have key:=Ib ht ((gs.filter fun h=>decide (KZ h p=0)).map vc) fun d hd=>by
  obtain⟨N,N0,hN⟩:=AE (fun h=>- LB (vc h) d) gs;have hX:∀h∈gs,0<=KZ h (N*p.1,N*p.2.1+d.1,N*p.2.2+d.2):=fun h hm=>by
   rw[JM];by_cases c:KZ h p=0
   ·rw[c,SU,Int.zero_add];exact hd _ (LR.mpr ⟨h,Wu.mpr ⟨hm,Qk c⟩,rfl⟩)
   ·have b:N*1<=N*KZ h p:=Y1 (by have:=ov h hm p pm;lia) (MI N0);have:=hN h hm;show 0<=N*KZ h p+LB (vc h) d
    lia
  have I:=sp _ (Qf N0 pp) hX (KZ g p - p.1*g.1,- (p.1*g.2.1),- (p.1*g.2.2)) fun y hy=>by
   have b:=best y hy (hg y hy);rw[h0,h0]at b;have e:KZ (KZ g p - p.1*g.1,- (p.1*g.2.1),- (p.1*g.2.2)) y=KZ g p*y.1 - p.1*KZ g y:=by unfold KZ;grind
   rw[e];rw[Int.mul_neg,Ox]at b
   lia
  have e:KZ (KZ g p - p.1*g.1,- (p.1*g.2.1),- (p.1*g.2.2)) (N*p.1,N*p.2.1+d.1,N*p.2.2+d.2)=p.1*LB (- g.2.1,- g.2.2) d:=by unfold KZ LB;grind
  rw[e]at I;exact Sm I pp
 have mem:∀v∈(gs.filter fun h=>decide (KZ h p=0)).map vc,∃h∈gs,KZ h p=0/\vc h=v:=fun v hv=>by obtain⟨h,hm,e⟩:=LR.mp hv;obtain⟨a,b⟩:=Wu.mp hm;exact⟨h,a,TR b,e⟩
 have t1:∀v:Sp,tn (- g.2.1,- g.2.2) v=- tn (vc g) v:=fun v=>by unfold tn vc;grind
 have t2:∀v:Sp,LB (- g.2.1,- g.2.2) v=- LB (vc g) v:=fun v=>by unfold LB vc;grind
 rcases key with⟨v,vm,a,b⟩| ⟨v,vm,w,wm,a,b,c⟩
 ·obtain⟨h,hm,hp,rfl⟩:=mem v vm;rw[t1]at a;rw[t2]at b;exact .inl ⟨h,hm,hp,by rw[cF];lia,by rw[pY];lia⟩
 ·obtain⟨h,hm,hp,rfl⟩:=mem v vm;obtain⟨k,km,kp,rfl⟩:=mem w wm;rw[t1]at a b;refine .inr ⟨h,hm,k,km,hp,kp,.inl ⟨?_,?_,c⟩⟩
  ·rw[cF];exact b
  ·lia
theorem vw{Gs Z:yav}(hG:∀e∈Gs,Vh n e)(hZ:∀e∈Gs,∀g∈Gs,QT (LF e g)∈Z):∀(gs l:yav),(∀g∈gs,g∈Gs)->Vi n Gs Z l →
  Vi n Gs Z (aX gs l)/\(∀X,Si l X->(∀g∈gs,0<=KZ g X)->Si (aX gs l) X)/\(∀g∈gs,∀y∈aX gs l,0<=KZ g y)/\∀d,(∀p∈l,0<=KZ d p)->∀y∈aX gs l,0<=KZ d y
 |[],l,_,C=>⟨C,fun _ I _=>I,fun _ h=>(by cases h),fun _ h=>h⟩
 |g::gs,l,h,C=>by
  obtain⟨f1,f2,f3⟩:=qN (g:=g) C.OH C.pr;obtain⟨a,b,c,d⟩:=vw hG hZ gs (eQ g l) (fun x hx=>h x (L8 _ hx)) (C4 hG (h g (by simp)) (fun e he=>hZ e he g (h g (by simp))) C);refine⟨a,fun X I hX=>b X (f1 X I (hX g (by simp))) fun x hx=>hX x (L8 _ hx),fun x hx y hy=>?_,fun e he=>d e (f3 e he)⟩;rcases Lp.mp hx with rfl|hx
  ·exact d x f2 y hy
  ·exact c x hx y hy
def Lw(yss:yas):yav:=(aT 0 yss).map (·.2)
def F0(yss:yas):yav:=(aO (yss.getD 0 [])).map sT
def AW{hs:yat}(hn:hs ≠ []){b:Tr}(hb:b∈aG hs):∃p:Sp,KZ b (sT p)=0:=by
 unfold aG at hb;split at hb
 ·unfold dD at hb;simp only[Lp,Nq,or_false]at hb;rcases hb with e|e|e|e<;>(rw[e];exact⟨_,oK _ _⟩)
 ·obtain⟨k,_,e⟩:=LR.mp hb;rw[<- e];exact⟨_,(vB _ _).1⟩
def Ka(h:Vh n b)(e:KZ b (sT p)=0):vc b≠(0,0):=fun z=>h.ne (by have z1:b.2.1=0:=congrArg Prod.fst z;have z2:b.2.2=0:=congrArg Prod.snd z;unfold KZ sT at e;rw[z1,z2]at e;obtain⟨b0,b1,b2⟩:=b;dsimp only at e z1 z2;rw[z1,z2,show b0=0 by lia])
structure ot(yss:yas):Prop where
 zs:∃Z:yav,Z.length<=300000/\∀j,Vi 40 (Lw yss) Z (aX ((Lw yss).take j) (F0 yss))
 inc:∀j X,0<X.1->(∀b∈aG (aO (yss.getD 0 [])),0<=KZ b X)->(∀g∈(Lw yss).take j,0<=KZ g X)->Si (aX ((Lw yss).take j) (F0 yss)) X
 ov:∀j,∀g∈(Lw yss).take j,∀y∈aX ((Lw yss).take j) (F0 yss),0<=KZ g y
 gb:∀g∈Lw yss,Vh 40 g/\vc g≠(0,0)
 pos:0<(Lw yss).length
 le:(Lw yss).length<=512
 ne:F0 yss ≠ []
 own:∀j,∀b∈aG (aO (yss.getD 0 [])),∀y∈aX ((Lw yss).take j) (F0 yss),0<=KZ b y
 hd:∃r,Lw yss=aG (aO (yss.getD 0 []))++r
def z9(L:LsOk Ls)(K:bS yss Ls):ot yss:=by
 have hy:∀ys∈yss,∃ps∈Ls,cJ ys ps:=K.ex;have gb:∀g∈Lw yss,Vh 40 g/\vc g≠(0,0):=fun g hg=>by obtain⟨x,hx,rfl⟩:=LR.mp hg;obtain⟨ys,ym,hb⟩:=uq hx;obtain⟨ps,pm,r⟩:=hy ys ym;have gd:=cQ r;have ne:=TM (L.ne ps pm);have B:=AV (kY gd ne) (we r).2 (fun p hp=>L.bd ps pm p (gd.mem p hp)) x.2 hb;obtain⟨p,hp⟩:=AW (kY gd ne) hb;exact⟨B,Ka B hp⟩
 obtain⟨Sj,Lr,rfl⟩:∃p r,Ls=p::r:=by
  cases Ls with
  |nil=>exact absurd L.l0 (by simp)
  |cons p r=>exact⟨p,r,rfl⟩
 obtain⟨NB,yr,rfl⟩:∃p r,yss=p::r:=by
  cases yss with
  |nil=>exact K.elim
  |cons p r=>exact⟨p,r,rfl⟩
 have r0:cJ NB Sj:=K.1;have X3:=cQ r0;have YN:=TM (L.ne Sj (by simp));have l60:∀ys∈NB::yr,(aG (aO ys)).length<=64:=fun ys R8=>by
  obtain⟨ps,pm,r⟩:=hy ys R8;have:=(cQ r).len;have:=L.le ps pm;have:=lN (aO ys)
  lia
 have lo:(aT 0 (NB::yr)).length<=64*(NB::yr).length:=j9 _ 0 l60;have ly:=K.len;have l8:=L.l8;have hd:∃r,Lw (NB::yr)=aG (aO NB)++r:=by refine⟨(aT 1 yr).map (·.2),?_⟩;unfold Lw;rw[aT,M6,MJ];congr 1;exact List.map_id'' (fun _=>rfl) _
 have b0:∀b∈aG (aO NB),b∈Lw (NB::yr):=fun b hb=>nC 0 (by simp) hb
 have Ti:0<(Lw (NB::yr)).length:=by
  unfold Lw;rw[K8,aT,MG,K8];have:0<(aG (aO NB)).length:=by
   unfold aG;split
   ·unfold dD;simp
   ·rw[K8,Nf];lia
  lia
 have lG:(Lw (NB::yr)).length<=512:=by unfold Lw;rw[K8];lia
 have eF:F0 (NB::yr)=(aO NB).map sT:=rfl
 let Z:yav:=(aO NB).map sT++(Lw (NB::yr)).flatMap fun e=>(Lw (NB::yr)).map fun g=>QT (LF e g)
 have Zl:Z.length<=300000:=by
  show((aO NB).map sT++(Lw (NB::yr)).flatMap fun e=>(Lw (NB::yr)).map fun g=>QT (LF e g)).length<=300000;generalize Lw (NB::yr)=Gs at lG ⊢;rw[MG,K8];have h1:=X3.len;have h2:=L.le Sj (by simp);have h3:(Gs.flatMap fun e=>Gs.map fun g=>QT (LF e g)).length<=512*512:=by
   have go:∀l:yav,(l.flatMap fun e=>Gs.map fun g=>QT (LF e g)).length<=l.length*512:=fun l=>by
    induction l with
    |nil=>simp
    |cons a r ih =>
     rw[List.flatMap_cons,MG,K8,Oj,Nat.succ_mul]
     lia
   have:=go Gs;have:Gs.length*512<=512*512:=Yl _ lG
   lia
  lia
 have hZ:∀e∈Lw (NB::yr),∀g∈Lw (NB::yr),QT (LF e g)∈Z:=fun e he g hg=>Oi _ (Wr.mpr ⟨e,he,LR.mpr ⟨g,hg,rfl⟩⟩)
 have C0:Vi 40 (Lw (NB::yr)) Z (F0 (NB::yr)):=Dq r0 YN (L.bd Sj (by simp)) b0 (fun p hp=>Qi _ (LR.mpr ⟨p,hp,rfl⟩)) (by have e:((aO NB).map sT).length=(aO NB).length:=K8 _;show _<=((aO NB).map sT++_).length;rw[MG,e];exact TV _ _)
 have run:=fun j=>vw (fun e he=>(gb e he).1) hZ ((Lw (NB::yr)).take j) _ (fun g hg=>(List.take_sublist j _).subset hg) C0
 refine⟨⟨Z,Zl,fun j=>(run j).1⟩,fun j X h0 hb hg=>(run j).2.1 X (Ds X3 YN h0 hb) hg,fun j=>(run j).2.2.1,gb,Ti,lG,?_,fun j b hb=>(run j).2.2.2 b fun p hp=>?_,hd⟩
 ·rw[eF];intro z;exact kY X3 YN (List.map_eq_nil_iff.mp z)
 ·rw[eF]at hp;obtain⟨q,qm,rfl⟩:=LR.mp hp;exact pD X3 YN hb (X3.mem q qm)
theorem yh:∀gs:yav,aX gs []=[]
 |[]=>rfl
 |g::gs=>yh gs
def yf(a b l:yav):aX (a++b) l=aX b (aX a l):=List.foldl_append
def C5{G:yav}{j:Nat}(h:aX (G.take i) F=[])(MQ:i<=j):aX (G.take j) F=[]:=by
 have e:G.take j=G.take i++(G.drop i).take (j - i):=by rw[<- List.take_add,Nat.add_sub_cancel' MQ]
 rw[e,yf,h,yh]
theorem vx{G F:yav}(hF:F ≠ []):∀n,aX (G.take n) F=[]->∃last,last<n/\(∀j,j<=last->aX (G.take j) F ≠ [])/\aX (G.take (last+1)) F=[]
 |0,h=>absurd h hF
 |n+1,h=>by
  by_cases c:aX (G.take n) F=[]
  ·obtain⟨k,hk,a,b⟩:=vx hF n c;exact⟨k,by lia,a,b⟩
  ·exact⟨n,by lia,fun j hj z=>c (C5 z hj),h⟩
def vy{G:yav}{k:Nat}{g:Tr}(h:G[k]?=some g):aX (G.take (k+1)) F=eQ g (aX (G.take k) F):=by rw[List.take_add_one,h,yf];rfl
def Px(G:yav)(pk:yag):yat:=pk.map fun k=>vc (G.getD k (0,0,0))
def pT(G:yav)(pk:yag)(sh:yaf):Int:=((pk.zip sh).map fun z=>(G.getD z.1 (0,0,0)).1*z.2).sum
def gW(G:yav)(last:Nat):List (yag)->Option (yag×yaf)
 |[]=>none
 |o::r=>match dR (Px G (o++[last]))with
  |some sh=>if pT G (o++[last]) sh<0 then some (o++[last],sh)else gW G last r
  |none=>gW G last r
theorem tT:∀{L:List (yag)} {pk:yag} {sh:yaf},gW G last L=some (pk,sh)->(∃o∈L,pk=o++[last])/\dR (Px G pk)=some sh/\pT G pk sh<0
 |[],_,_,h=>by cases h
 |o::r,pk,sh,h=>by
  have up:gW G last r=some (pk,sh)->(∃o'∈o::r,pk=o'++[last])/\dR (Px G pk)=some sh/\pT G pk sh<0:=fun h=>by obtain⟨⟨o',m,e⟩,q⟩:=tT h;exact⟨⟨o',L8 _ m,e⟩,q⟩
  unfold gW at h;split at h
  ·rename_i s hs;split at h
   ·rename_i c;cases h;exact⟨⟨o,Ng,rfl⟩,hs,c⟩
   ·exact up h
  ·exact up h
theorem oz{last:Nat}:∀{L:List (yag)} {o:yag} {sh:yaf},o∈L->dR (Px G (o++[last]))=some sh->pT G (o++[last]) sh<0->∃r,gW G last L=some r
 |[],_,_,m,_,_=>by cases m
 |x::r,o,sh,m,hb,hc=>by
  unfold gW;split
  ·rename_i s hs;split
   ·exact⟨_,rfl⟩
   ·rename_i c;rcases Lp.mp m with e|m
    ·subst e;rw[hs]at hb;cases hb;exact absurd hc c
    ·exact oz m hb hc
  ·rename_i hs;rcases Lp.mp m with e|m
   ·subst e;rw[hs]at hb;cases hb
   ·exact oz m hb hc
def BJ{p c t v:Int}(hp:0<p)(ht:0<t)(hv:v<0)(e:p*c=t*v):c<0:=by have h:=Vr ht hv;rw[<- e]at h;exact Ph.mp fun z=>by have:=M8 (MI hp) z;lia
def Ki{p:Tr}(B:uO [vc h,vc g] sh)(h0:0<p.1)(hp:KZ h p=0)(gp:KZ g p<0):∃s t,sh=[s,t]/\h.1*s+g.1*t<0:=by
 obtain⟨s,t,rfl⟩:∃s t,sh=[s,t]:=by
  have:=B.len;rcases sh with _|⟨s,_|⟨t,_|⟨u,r⟩⟩⟩
  ·simp at this
  ·simp at this
  ·exact⟨s,t,rfl⟩
  ·simp at this
 have b:=B.sum;unfold wsum vc at b;simp only[QV,Wj,Ov,T4,Rp,Qm]at b;obtain⟨b1,b2⟩:=b;have ht:=B.pos t (by simp);refine⟨s,t,rfl,BJ h0 ht gp ?_⟩;unfold KZ at *;grind
def Kj{p:Tr}(B:uO [vc h,vc k,vc g] sh)(h0:0<p.1)(hp:KZ h p=0)(kp:KZ k p=0)(gp:KZ g p<0):∃s t u,sh=[s,t,u]/\h.1*s+(k.1*t+g.1*u)<0:=by
 obtain⟨s,t,u,rfl⟩:∃s t u,sh=[s,t,u]:=by
  have:=B.len;rcases sh with _|⟨s,_|⟨t,_|⟨u,_|⟨v,r⟩⟩⟩⟩
  ·simp at this
  ·simp at this
  ·simp at this
  ·exact⟨s,t,u,rfl⟩
  ·simp at this
 have b:=B.sum;unfold wsum vc at b;simp only[QV,Wj,Ov,T4,Rp,Qm]at b;obtain⟨b1,b2⟩:=b;have hu:=B.pos u (by simp);refine⟨s,t,u,rfl,BJ h0 hu gp ?_⟩;unfold KZ at *;grind
def tL{G:yav}{h:Tr}(m:h∈G.take n):∃i,i<n/\G.getD i (0,0,0)=h:=by obtain⟨i,hi,e⟩:=RF m;rw[Qj]at hi;rw[List.getElem_take]at e;exact⟨i,by lia,by rw[Mf,LM (by lia),e];rfl⟩
def zF(S:ot yss)(e:aX (Lw yss) (F0 yss)=[]) :
  ∃ last,last<(Lw yss).length/\(∀j,j<=last->aX ((Lw yss).take j) (F0 yss) ≠ [])/\aX ((Lw yss).take (last+1)) (F0 yss)=[]/\∃r,gW (Lw yss) last (L7 last 1++L7 last 2)=some r:=by
 obtain⟨last,hl,up,dn⟩:=vx S.ne (Lw yss).length (by rw[QZ];exact e);refine⟨last,hl,up,dn,?_⟩;obtain⟨Z,_,Vj⟩:=S.zs;have cl:=Vj last;have hg:(Lw yss)[last]?=some (Lw yss)[last]:=LM hl;have gD:(Lw yss).getD last (0,0,0)=(Lw yss)[last]:=by rw[Mf,hg];rfl
 have neg:∀y∈aX ((Lw yss).take last) (F0 yss),KZ (Lw yss)[last] y<0:=fun y hy=>Ph.mp fun z=>by have i1:=(qN (g:=(Lw yss)[last]) cl.OH cl.pr).1 y (fun h hh=>hh y hy) z;rw[vy hg]at dn;exact Im i1 (cl.pr y hy).pos dn
 have ne:=up last (LG _);obtain⟨c0,V8⟩:=X9 _ ne;obtain⟨r,er⟩:=S.hd;have nb:(aG (aO (yss.getD 0 []))).length<=last:=SX.mp (by
  intro z;have z':last<(aG (aO (yss.getD 0 []))).length:=by lia
  have m:(Lw yss)[last]∈aG (aO (yss.getD 0 [])):=by
   have q:(Lw yss)[last]?=(aG (aO (yss.getD 0 [])))[last]?:=by rw[er,Qh z']
   rw[hg]at q;exact Mz q.symm
  have:=S.own last _ m c0 V8;have:=neg c0 V8
  lia)
 have sub:∀b∈aG (aO (yss.getD 0 [])),b∈(Lw yss).take last:=fun b hb=>by rw[er,List.take_append];refine Qi _ ?_;rw[SK nb];exact hb
 obtain⟨p,p0,gp,alt⟩:=Hb ne (fun y hy=>(cl.pr y hy).pos) neg (S.ov last) (fun X h0 hX=>S.inc last X h0 (fun b hb=>hX b (sub b hb)) hX) (S.gb _ (PG hl)).2;rcases alt with⟨h,hm,hp,B⟩| ⟨h,hm,k,km,hp,kp,B⟩
 ·obtain⟨i,hi,ei⟩:=tL hm;have ew:Px (Lw yss) ([i]++[last])=[vc h,vc (Lw yss)[last]]:=by
   show[vc ((Lw yss).getD i (0,0,0)),vc ((Lw yss).getD last (0,0,0))]=_;rw[ei,gD]
  have eb:dR [vc h,vc (Lw yss)[last]]=some (cW [br (vc (Lw yss)[last]),br (vc h)]):=K4 B;obtain⟨s,t,es,ec⟩:=Ki (mW (by simp) eb) p0 hp gp;refine oz (o:=[i]) (Qi _ (qa hi)) (by rw[ew,eb]) ?_;rw[es];show([((Lw yss).getD i (0,0,0)).1*s,((Lw yss).getD last (0,0,0)).1*t]:yaf).sum<0;rw[ei,gD];simp only[Ov,T4,Rp];exact ec
 ·obtain⟨i,hi,ei⟩:=tL hm;obtain⟨j,hj,ej⟩:=tL km;have nij:i≠j:=fun z=>by
   rw[z,ej]at ei;rw[ei]at B;unfold dQ at B;have:=o6 (vc h)
   lia
  have go:∀(i j:Nat) (h k:Tr),i<j->j<last->(Lw yss).getD i (0,0,0)=h->(Lw yss).getD j (0,0,0)=k->KZ h p=0->KZ k p=0->dQ (vc h) (vc k) (vc (Lw yss)[last])->∃r,gW (Lw yss) last (L7 last 1++L7 last 2)=some r:=fun i j h k MQ hj ei ej hp kp B=>by
   have ew:Px (Lw yss) ([i,j]++[last])=[vc h,vc k,vc (Lw yss)[last]]:=by show[vc ((Lw yss).getD i (0,0,0)),vc ((Lw yss).getD j (0,0,0)),vc ((Lw yss).getD last (0,0,0))]=_;rw[ei,ej,gD]
   obtain⟨sh,eb⟩:∃sh,dR [vc h,vc k,vc (Lw yss)[last]]=some sh:=by
    show∃sh,iW _ _ _=some sh;unfold iW;split
    ·exact⟨_,rfl⟩
    ·rename_i c;rcases B with b|b
     ·exact absurd b c
     ·exact⟨_,K4 b⟩
   obtain⟨s,t,u,es,ec⟩:=Kj (mW (by simp) eb) p0 hp kp gp;refine oz (o:=[i,j]) (Oi _ (qb MQ hj)) (by rw[ew,eb]) ?_;rw[es];show([((Lw yss).getD i (0,0,0)).1*s,((Lw yss).getD j (0,0,0)).1*t,((Lw yss).getD last (0,0,0)).1*u]:yaf).sum<0;rw[ei,ej,gD];simp only[Ov,T4,Rp];exact ec
  rcases Vx nij with c|c
  ·exact go i j h k c hj ei ej hp kp B
  ·refine go j i k h c hi ej ei kp hp ?_;unfold dQ at B ⊢;have a1:=cF (vc h) (vc k);have a2:=cF (vc k) (vc (Lw yss)[last]);have a3:=cF (vc (Lw yss)[last]) (vc h)
   lia
def gU(h g:Tr)(s:Int):Tr:=(h.1+g.1*s,h.2.1+g.2.1*s,h.2.2+g.2.2*s)
def Oh(T:yau)(o:Int):Option Tr:=(T.find? fun x=>decide (x.1=o)).map (·.2)
def YO(T:yau)(o:Int)(h:Tr):yau:=if(Oh T o).isSome=true then T.map (fun x=>if x.1=o then(x.1,h)else x)else T++[(o,h)]
def YQ(T:yau)(x:Int×Tr×Int):yau:=YO T x.1 (gU ((Oh T x.1).getD (0,0,0)) x.2.1 x.2.2)
def b9(xs:List (Int×Tr×Int)):yau:=xs.foldl YQ []
def k7(p:Int×Tr)(r:yau)(o:Int):Oh (p::r) o=if p.1=o then some p.2 else Oh r o:=by
 unfold Oh;rw[Sr];by_cases h:p.1=o
 ·rw[K4 h,Qk h];rfl
 ·rw[K3 h,Q1 h]
theorem yI:∀{T:yau},Oh T o=none->o∉T.map (·.1)
 |[],_=>by simp
 |p::r,h=>by
  rw[k7]at h;by_cases e:p.1=o
  ·rw[K4 e]at h;cases h
  ·rw[K3 e]at h;rw[LD,Lp];rintro(z|z)
   ·exact e z.symm
   ·exact yI h z
theorem wC{h:Tr}:∀{T:yau},Oh T o=some h->(o,h)∈T
 |[],q=>by cases q
 |p::r,q=>by
  rw[k7]at q;by_cases e:p.1=o
  ·rw[K4 e]at q;cases q;rw[<- e];exact Ng
  ·rw[K3 e]at q;exact L8 _ (wC q)
theorem Ab{x:Int×Tr}:∀{T:yau},(T.map (·.1)).Nodup->x∈T->Oh T x.1=some x.2
 |[],_,m=>by cases m
 |p::r,nd,m=>by
  rw[LD,QI]at nd;rw[k7];rcases Lp.mp m with e|m
  ·rw[e,K4 rfl]
  ·rw[K3 fun e=>nd.1 (by rw[e];exact LR.mpr ⟨x,m,rfl⟩)];exact Ab nd.2 m
theorem yT(o:Int)(h:Tr):∀T:yau,(T.map fun x=>if x.1=o then(x.1,h)else x).map (·.1)=T.map (·.1)
 |[]=>rfl
 |p::r=>by
  rw[LD,LD,LD,yT o h r];by_cases e:p.1=o
  ·rw[K4 e]
  ·rw[K3 e]
theorem yU{o:Int}(h:Tr):∀{T:yau},o∉T.map (·.1)->(T.map fun x=>if x.1=o then(x.1,h)else x)=T
 |[],_=>rfl
 |p::r,n=>by rw[LD,Lp]at n;rw[LD,yU h fun z=>n (.inr z),K3 fun e=>n (.inl e.symm)]
theorem B9{h h0:Tr}(f:Tr->Int):∀{T:yau},(T.map (·.1)).Nodup->Oh T o=some h0->((T.map fun x=>if x.1=o then(x.1,h)else x).map fun x=>f x.2).sum=(T.map fun x=>f x.2).sum - f h0+f h
 |[],_,q=>by cases q
 |p::r,nd,q=>by
  rw[LD,QI]at nd;rw[k7]at q;rw[LD,LD,Ov,LD,Ov];by_cases e:p.1=o
  ·rw[K4 e]at q;cases q;rw[K4 e,yU h (by rw[<- e];exact nd.1)];show f h+_=_
   lia
  ·rw[K3 e]at q;rw[K3 e,B9 f nd.2 q]
   lia
structure u6(P:Nat->Int->Tr->Prop)(done:List (Int×Tr×Int))(T:yau):Prop where
 nd:(T.map (·.1)).Nodup
 le:T.length<=done.length
 ok:∀x∈T,P done.length x.1 x.2
 sm:∀f:Tr->Int,f (0,0,0)=0->(∀h g s,f (gU h g s)=f h+f g*s)->(T.map fun x=>f x.2).sum=(done.map fun x=>f x.2.1*x.2.2).sum
def u6.step{P:Nat->Int->Tr->Prop}(mono:∀n o h,P n o h->P (n+1) o h)(I:u6 P done T){x:Int×Tr×Int}(h0:P 0 x.1 (0,0,0))(hs:∀n h,P n x.1 h->P (n+1) x.1 (gU h x.2.1 x.2.2)):u6 P (done++[x]) (YQ T x):=by
 have up:∀n,P n x.1 (0,0,0):=fun n=>by
  induction n with
  |zero=>exact h0
  |succ n ih=>exact mono n _ _ ih
 unfold YQ YO;cases hl:Oh T x.1 with
 |none =>
  have nm:=yI hl;rw[K3 (by simp)];refine⟨?_,by rw[MG,MG];exact Nat.add_le_add_right I.le _,fun y hy=>?_,fun f f0 fl=>?_⟩
  ·rw[M6,List.nodup_append];refine⟨I.nd,by simp,fun a ha b hb=>?_⟩;rw[LD,Q4,M4]at hb;rw[hb];exact fun e=>nm (e ▸ ha)
  ·rw[MG];rcases Mc.mp hy with hy|hy
   ·exact mono _ _ _ (I.ok y hy)
   ·rw[M4.mp hy];exact hs _ _ (up _)
  ·rw[M6,M6,List.sum_append,List.sum_append,I.sm f f0 fl];have e:=fl (0,0,0) x.2.1 x.2.2;show _+(f (gU (0,0,0) x.2.1 x.2.2)+0)=_+(f x.2.1*x.2.2+0);rw[e,f0]
   lia
 |some h =>
  rw[K4 (by simp)];refine⟨by rw[yT];exact I.nd,by rw[K8,MG];exact Nat.le_succ_of_le I.le,fun y hy=>?_,fun f f0 fl=>?_⟩
  ·rw[MG];obtain⟨z,zm,e⟩:=LR.mp hy;by_cases c:z.1=x.1
   ·rw[K4 c]at e;rw[<- e];show P _ z.1 (gU h x.2.1 x.2.2);rw[c];exact hs _ _ (I.ok _ (wC hl))
   ·rw[K3 c]at e;rw[<- e];exact mono _ _ _ (I.ok z zm)
  ·rw[B9 f I.nd hl,M6,List.sum_append,I.sm f f0 fl];have e:=fl h x.2.1 x.2.2;show _ - f h+f (gU h x.2.1 x.2.2)=_+(f x.2.1*x.2.2+0);rw[e]
   lia
theorem sV{P:Nat->Int->Tr->Prop}(mono:∀n o h,P n o h->P (n+1) o h)(xs:List (Int×Tr×Int))(h0:∀x∈xs,P 0 x.1 (0,0,0))(hs:∀x∈xs,∀n h,P n x.1 h->P (n+1) x.1 (gU h x.2.1 x.2.2)):∀n,u6 P (xs.take n) (b9 (xs.take n))
 |0=>⟨by simp[b9],by simp[b9],fun x hx=>by simp[b9]at hx,fun f _ _=>by simp[b9]⟩
 |n+1=>by
  by_cases c:n<xs.length
  ·have e:xs.take (n+1)=xs.take n++[xs[n]]:=by rw[List.take_add_one,LM c];rfl
   rw[e];have m:xs[n]∈xs:=PG c;unfold b9;rw[List.foldl_append];exact(sV mono xs h0 hs n).step mono (h0 _ m) (hs _ m)
  ·have e:xs.take (n+1)=xs.take n:=by rw[SK (by lia),SK (by lia)]
   rw[e];exact sV mono xs h0 hs n
def jU(T:yau)(ms:yaf):yau:=ms.map fun o=>(o,(Oh T o).getD (0,0,0))
def GC{T:yau}{ms:yaf}(nd:(T.map (·.1)).Nodup)(pm:ms.Perm (T.map (·.1))):(jU T ms).Perm T:=by
 have e:(T.map (·.1)).map (fun o=>(o,(Oh T o).getD (0,0,0)))=T:=by rw[MJ];refine(So fun x hx=>?_).trans (List.map_id T);show(x.1,(Oh T x.1).getD (0,0,0))=x;rw[Ab nd hx];rfl
 have:=pm.map (fun o=>(o,(Oh T o).getD (0,0,0)));rw[e]at this;exact this
structure TB(n:Nat)(h:Tr):Prop where
 c:Bd n h.1
 a:Bd n h.2.1
 b:Bd n h.2.2
structure qH(Ls:yas)(rs:yau):Prop where
 l2:2<=rs.length
 l3:rs.length<=3
 rise:(rs.map (·.1)).Pairwise (·<·)
 own:∀x∈rs,∃i:Nat,i<Ls.length/\x.1=(i:Int)/\∀p∈Ls.getD i [],0<=KZ x.2 (1,p.1,p.2)
 bd:∀x∈rs,TB 990 x.2
 c0:(rs.map fun x=>x.2.1).sum<0
 a0:(rs.map fun x=>x.2.2.1).sum=0
 b0:(rs.map fun x=>x.2.2.2).sum=0
theorem Bo(X:Tr):∀rs:yau,(rs.map fun x=>KZ x.2 X).sum=(rs.map fun x=>x.2.1).sum*X.1+(rs.map fun x=>x.2.2.1).sum*X.2.1+(rs.map fun x=>x.2.2.2).sum*X.2.2
 |[]=>by simp
 |x::r=>by simp only[LD,Ov];rw[Bo X r];unfold KZ;grind
theorem Cn{α:Type}(f:α->Int):∀xs:List α,(∀x∈xs,0<=f x)->0<=(xs.map f).sum
 |[],_=>by simp
 |x::r,h=>by
  rw[LD,Ov];have:=h x Ng;have:=Cn f r fun y hy=>h y (L8 _ hy)
  lia
def vj{rs:yau}(c0:(rs.map fun x=>x.2.1).sum<0)(a0:(rs.map fun x=>x.2.2.1).sum=0)(b0:(rs.map fun x=>x.2.2.2).sum=0){X:Tr}(h0:0<X.1)(h:∀x∈rs,0<=KZ x.2 X):False:=by
 have e:=Bo X rs;rw[a0,b0]at e;have:=Cn (fun x:Int×Tr=>KZ x.2 X) rs h;have:=QU c0 h0
 lia
def QD(yss:yas)(pk:yag)(sh:yaf):List (Int×Tr×Int):=(pk.zip sh).map fun z=>(((aT 0 yss).getD z.1 (0,0,0,0)).1,((aT 0 yss).getD z.1 (0,0,0,0)).2,z.2)
theorem wN:∀{yss:yas} {n:Nat} {x:Int×Tr},x∈aT n yss->∃(i:Nat) (ys:yat),x.1=((n+i:Nat):Int)/\yss[i]?=some ys/\x.2∈aG (aO ys)
 |[],_,_,h=>by cases h
 |ys::r,n,x,h=>by
  rw[aT]at h;rcases Mc.mp h with q|q
  ·obtain⟨g,hg,rfl⟩:=LR.mp q;exact⟨0,ys,rfl,rfl,hg⟩
  ·obtain⟨i,zs,e1,e2,e3⟩:=wN q;exact⟨i+1,zs,by rw[e1];congr 1;lia,e2,e3⟩
theorem bS.at_:∀{yss Ls:yas} {i:Nat} {ys:yat},bS yss Ls->yss[i]?=some ys->∃ps,Ls[i]?=some ps/\cJ ys ps
 |[],[],_,_,_,h=>by simp at h
 |[],_::_,_,_,k,_=>k.elim
 |_::_,[],_,_,k,_=>k.elim
 |y::r,p::q,0,ys,k,h=>by
  cases(show y=ys from Ol h);exact⟨p,rfl,k.1⟩
 |y::r,p::q,i+1,ys,k,h=>bS.at_ (yss:=r) (Ls:=q) k.2 h
def Ik(yss:yas)(k:Nat):(Lw yss).getD k (0,0,0)=((aT 0 yss).getD k (0,0,0,0)).2:=by unfold Lw;rw[Mf,Mf,LZ];cases(aT 0 yss)[k]?<;>rfl
def GL(yss:yas)(f:Tr->Int):∀(pk:yag) (sh:yaf),((QD yss pk sh).map fun x=>f x.2.1*x.2.2).sum=((pk.zip sh).map fun z=>f ((Lw yss).getD z.1 (0,0,0))*z.2).sum:=fun pk sh=>by
 unfold QD;rw[MJ];congr 1;exact So fun z _=>by show f _*_=_;rw[Ik]
theorem CH(G:yav):∀(pk:yag) (sh:yaf),pk.length=sh.length->((pk.zip sh).map fun z=>(G.getD z.1 (0,0,0)).2.1*z.2).sum=(wsum sh (Px G pk)).1/\((pk.zip sh).map fun z=>(G.getD z.1 (0,0,0)).2.2*z.2).sum=(wsum sh (Px G pk)).2
 |[],[],_=>⟨rfl,rfl⟩
 |k::pk,s::sh,h=>by obtain⟨a,b⟩:=CH G pk sh (Nat.succ.inj h);unfold wsum Px at a b ⊢;simp only[Vw,LD,Ov,QV]at a b ⊢;rw[a,b];unfold vc;exact⟨by rw[Nx],by rw[Nx]⟩
def ES{o:yag}(h:o∈L7 last 1++L7 last 2):o.length<=2/\∀k∈o,k<last:=by
 rcases Mc.mp h with q|q
 ·exact⟨by rw[(gn q).1];decide,(gn q).2⟩
 ·exact⟨by rw[(gn q).1];decide,(gn q).2⟩
structure CP(yss:yas)(pk:yag)(sh:yaf):Prop where
 l3:pk.length<=3
 lt:∀k∈pk,k<(aT 0 yss).length
 Vk:uO (Px (Lw yss) pk) sh
 bs:∀s∈sh,Bd 900 s
 neg:pT (Lw yss) pk sh<0
def J1(S:ot yss){last:Nat}{pk:yag}{sh:yaf}(hl:last<(Lw yss).length)(e:gW (Lw yss) last (L7 last 1++L7 last 2)=some (pk,sh)):CP yss pk sh:=by
 obtain⟨⟨o,om,eo⟩,hb,hc⟩:=tT e;obtain⟨l2,lt⟩:=ES om;have le:(Lw yss).length=(aT 0 yss).length:=K8 _;have lp:pk.length<=3:=by rw[eo,MG,Sn];lia
 have lt':∀k∈pk,k<(Lw yss).length:=fun k hk=>by
  rw[eo]at hk;rcases Mc.mp hk with q|q
  ·have:=lt k q;lia
  ·rw[M4.mp q];exact hl
 have lw:(Px (Lw yss) pk).length<=3:=by unfold Px;rw[K8];exact lp
 refine⟨lp,fun k hk=>by rw[<- le];exact lt' k hk,mW lw hb,vh (fun w hw=>?_) lw hb,hc⟩;obtain⟨k,hk,rfl⟩:=LR.mp hw;have q:=LM (lt' k hk);rw[Mf,q];have B:=(S.gb _ (PG (lt' k hk))).1;exact⟨B.a.mono (by decide),B.b.mono (by decide)⟩
def D0{a:yaf}(h:a.Perm b):a.sum=b.sum:=by
 induction h with
 |nil=>rfl
 |cons x _ ih=>rw[Ov,Ov,ih]
 |swap x y l=>simp only[Ov];lia
 |trans _ _ i1 i2=>exact i1.trans i2
def G8(Ls:yas)(n:Nat)(o:Int)(h:Tr):Prop:=(∃i:Nat,i<Ls.length/\o=(i:Int)/\∀q∈Ls.getD i [],0<=KZ h (1,q.1,q.2))/\TB (983+n) h
def wU(L:LsOk Ls)(K:bS yss Ls)(S:ot yss)(p:CP yss pk sh):∀n,u6 (G8 Ls) ((QD yss pk sh).take n) (b9 ((QD yss pk sh).take n)):=by
 have each:∀x∈QD yss pk sh,(∃i:Nat,i<Ls.length/\x.1=(i:Int)/\∀q∈Ls.getD i [],0<=KZ x.2.1 (1,q.1,q.2))/\TB 82 x.2.1/\0<x.2.2/\Bd 900 x.2.2:=fun x hx=>by
  obtain⟨z,zm,e⟩:=LR.mp hx;have zk:=(UE (a:=z.1) (b:=z.2) zm);have lt:=p.lt _ zk.1;have om:(aT 0 yss).getD z.1 (0,0,0,0)∈aT 0 yss:=by rw[Mf,LM lt];exact PG lt
  obtain⟨i,ys,e1,e2,e3⟩:=wN om;obtain⟨ps,e4,rk⟩:=K.at_ e2;have pm':ps∈Ls:=Mz e4;have gd:=cQ rk;have ne:=TM (L.ne ps pm');have B:=(S.gb _ (LR.mpr ⟨_,om,rfl⟩)).1;rw[<- e];refine⟨⟨i,(L6.mp e4).1,by rw[e1];congr 1;lia,fun q hq=>?_⟩,⟨B.c.mono (by decide),B.a.mono (by decide),B.b.mono (by decide)⟩,p.Vk.pos _ zk.2,p.bs _ zk.2⟩;rw[Mf,e4]at hq;exact pD gd ne e3 hq
 exact sV (P:=G8 Ls) (fun n o h q=>⟨q.1,q.2.c.mono (by lia),q.2.a.mono (by lia),q.2.b.mono (by lia)⟩) (QD yss pk sh) (fun x hx=>by
  obtain⟨⟨i,hi,e,_⟩,_⟩:=each x hx;refine⟨⟨i,hi,e,fun q _=>?_⟩,?_⟩
  ·have:KZ (0,0,0) (1,q.1,q.2)=0:=by unfold KZ;grind
   lia
  ·have z:∀n,Bd n 0:=fun n=>by unfold Bd;simp;exact Ww n
   exact⟨z _,z _,z _⟩) (fun x hx n h q=>by
  obtain⟨⟨i,hi,e,ov⟩,B,s0,sb⟩:=each x hx;obtain⟨⟨j,hj,ej,Qg⟩,H⟩:=q;have eij:j=i:=by rw[e]at ej;lia
  subst eij;have m:∀{y:Int},Bd 82 y->Bd (983+n) (y*x.2.2):=fun hy=>(hy.mul sb).mono (by lia)
  refine⟨⟨j,hj,e,fun w hw=>?_⟩,H.c.add (m B.c),H.a.add (m B.a),H.b.add (m B.b)⟩;have k:KZ (gU h x.2.1 x.2.2) (1,w.1,w.2)=KZ h (1,w.1,w.2)+KZ x.2.1 (1,w.1,w.2)*x.2.2:=by unfold KZ gU;grind
  rw[k];exact Int.add_nonneg (Qg w hw) (M8 (ov w hw) (MI s0)))
def xr(L:LsOk Ls)(K:bS yss Ls)(S:ot yss)(p:CP yss pk sh){ms:yaf}(pm:ms.Perm ((b9 (QD yss pk sh)).map (·.1)))(sr:ms.Pairwise (·<·)) :
  qH Ls (jU (b9 (QD yss pk sh)) ms):=by
 have ln:pk.length=sh.length:=by have:=p.Vk.len;unfold Px at this;rw[K8]at this;exact this.symm
 have lx:(QD yss pk sh).length<=3:=by unfold QD;rw[K8,VH];have:=p.l3;lia
 have I:=wU L K S p (QD yss pk sh).length;rw[QZ]at I;generalize hT:b9 (QD yss pk sh)=T at I pm ⊢;have pr:=GC I.nd pm;have lr:=pr.length_eq;have le:=I.le;have sums:∀f:Tr->Int,f (0,0,0)=0->(∀h g s,f (gU h g s)=f h+f g*s)->((jU T ms).map fun x=>f x.2).sum=((pk.zip sh).map fun z=>f ((Lw yss).getD z.1 (0,0,0))*z.2).sum:=fun f f0 fl=>by rw[D0 (pr.map fun x=>f x.2),I.sm f f0 fl,GL]
 have c0:((jU T ms).map fun x=>x.2.1).sum<0:=by rw[sums (fun h=>h.1) rfl fun _ _ _=>rfl];exact p.neg
 obtain⟨w1,w2⟩:=CH (Lw yss) pk sh ln;have a0:((jU T ms).map fun x=>x.2.2.1).sum=0:=by rw[sums (fun h=>h.2.1) rfl fun _ _ _=>rfl,w1,p.Vk.sum]
 have b0:((jU T ms).map fun x=>x.2.2.2).sum=0:=by rw[sums (fun h=>h.2.2) rfl fun _ _ _=>rfl,w2,p.Vk.sum]
 have own:∀x∈jU T ms,∃i:Nat,i<Ls.length/\x.1=(i:Int)/\∀q∈Ls.getD i [],0<=KZ x.2 (1,q.1,q.2):=fun x hx=>(I.ok x (pr.mem_iff.mp hx)).1
 refine⟨?_,by lia,?_,own,fun x hx=>?_,c0,a0,b0⟩
 ·generalize jU T ms=rs at *;rcases rs with _|⟨x,_|⟨y,r⟩⟩
  ·simp at c0
  ·exfalso;obtain⟨i,hi,_,ov⟩:=own x (by simp);have q:=LM hi;obtain⟨w,hw⟩:=X9 _ (TM (L.ne Ls[i] (PG hi)));refine vj c0 a0 b0 (X:=(1,w.1,w.2)) (show(0:Int)<1 by decide) fun y hy=>?_
   rw[M4.mp hy];exact ov w (by rw[Mf,q];exact hw)
  ·simp
 ·unfold jU;rw[MJ];show(ms.map id).Pairwise _;rw[List.map_id];exact sr
 ·obtain⟨_,B⟩:=I.ok x (pr.mem_iff.mp hx);exact⟨B.c.mono (by lia),B.a.mono (by lia),B.b.mono (by lia)⟩
structure u5(Ls:yas):Prop where
 l5:Ls.length<=5
 le:∀ps∈Ls,ps.length<=5
def zJ{hs:yat}(h:hs.length<=10):(aG hs).length<=10:=by
 unfold aG dD;split
 ·simp
 ·rw[K8,Nf];exact h
def xQ(M:u5 Ls)(K:bS yss Ls):(aT 0 yss).length<=50:=by
 have h:=j9 (B:=10) yss 0 fun ys R8=>by obtain⟨ps,pm,r⟩:=K.ex ys R8;have:=(cQ r).len;have:=M.le ps pm;exact zJ (by lia)
 have:=K.len;have:=M.l5
 lia
structure qK(Ls:yas)(y:Tr)(rs:List (yag×yaf)):Prop where
 pr:Pr y
 cb:CB 40 y
 len:rs.length=Ls.length
 ok:∀i,i<Ls.length->CL (Ls.getD i []) y (rs.getD i ([],[])).1 (rs.getD i ([],[])).2
 YR:G2 Ls y
def Ad(L:LsOk Ls)(K:bS yss Ls)(S:ot yss){y:Tr}(hy:y∈aX (Lw yss) (F0 yss)) :
  (∀ps∈Ls,cq (ps.map (Lf y)) (cP ps.length)=some ((cq (ps.map (Lf y)) (cP ps.length)).getD ([],[])))/\qK Ls y (Ls.map fun ps=>(cq (ps.map (Lf y)) (cP ps.length)).getD ([],[])):=by
 obtain⟨Z,_,Vj⟩:=S.zs;have cl:=Vj (Lw yss).length;have ovr:=S.ov (Lw yss).length;rw[QZ]at cl ovr;have py:=cl.pr y hy;have cy:=cl.cb y hy;have Vk:∀ps∈Ls,mR y ps:=fun ps pm=>by obtain⟨ws,wm,hw⟩:=K.ex2 ps pm;exact uo (cQ hw) (TM (L.ne ps pm)) py.pos fun b hb=>ovr b (nC 0 wm hb) y hy
 have mx:∀ps∈Ls,cq (ps.map (Lf y)) (cP ps.length)=some ((cq (ps.map (Lf y)) (cP ps.length)).getD ([],[])):=fun ps pm=>by
  have:=CY (Vk ps pm);cases hm:cq (ps.map (Lf y)) (cP ps.length)with
  |none=>exact absurd hm this
  |some r=>rfl
 refine⟨mx,py,cy,by rw[K8],fun i hi=>?_,py.pos,fun ps pm g hg=>?_⟩
 ·have SG:Ls[i]?=some Ls[i]:=LM hi;have pm:Ls[i]∈Ls:=PG _;rw[Mf,SG,Mf,LZ,SG];exact JP (L.bd _ pm) (cy.pb py) (mx _ pm)
 ·refine wg py.pos (Vk ps pm) g fun p hp=>?_
  obtain⟨q,qm,rfl⟩:=LR.mp hp;exact hg q qm
def vi (rs:yau):D:=.tup [.str "bar", .lst true (rs.map Nu)]
def HmQ(Ls:yas)(Q:D->Prop):Prop:=(∀y rs,qK Ls y rs->Q (oP y rs))/\∀rs,qH Ls rs->Q (vi rs)
def II(B:qH Ls rs)(C:G2 Ls X):False :=
 vj B.c0 B.a0 B.b0 C.1 fun x hx=>by obtain⟨i,hi,_,ov⟩:=B.own x hx;refine C.2 (Ls.getD i []) ?_ x.2 ov;rw[Mf,LM hi];exact PG hi
theorem mB{α:Type}{f:α->D}(hf:∀a b,f a=f b->a=b):∀{xs ys:List α},xs.map f=ys.map f->xs=ys
 |[],[],_=>rfl
 |[],_::_,h=>by simp at h
 |_::_,[],h=>by simp at h
 |a::r,b::q,h=>by rw[LD,LD]at h;rw[hf a b (List.cons.inj h).1,mB hf (List.cons.inj h).2]
def F3{xs ys:yau}(h:xs.map Nu=ys.map Nu):xs=ys:=mB (fun a b e=>by obtain⟨i,a0,a1,a2⟩:=a;obtain⟨j,b0,b1,b2⟩:=b;simp only[Nu,Lm,T3,D.tup.injEq,QY,D.int.injEq,and_true]at e;obtain⟨rfl,rfl,rfl,rfl⟩:=e;rfl) h
def dX(z:Nat×Int):D:=.tup [.int ((z.1:Nat):Int),.int z.2]
def GK{xs ys:List (Nat×Int)}(h:xs.map dX=ys.map dX):xs=ys:=mB (fun a b e=>by obtain⟨i,s⟩:=a;obtain⟨j,t⟩:=b;simp only[dX,D.tup.injEq,QY,D.int.injEq,and_true]at e;obtain⟨e1,rfl⟩:=e;rw[show i=j by lia]) h
def xf(z:Nat×Int):aL (dX z)=dX z:=by unfold dX;simp only[bV,bq,bD,cV]
def rT(zs:List (Nat×Int)):bc (zs.map dX)=zs.map dX:=cc dX xf zs
theorem tN:∀(pk:yag) (sh:yaf),List.zipWith (fun x y=>D.tup [x,y]) (pk.map fun(k:Nat)=>D.int (k:Int)) (sh.map D.int)=(pk.zip sh).map dX
 |[],_=>by simp
 |_::_,[]=>by simp
 |k::pk,s::sh=>by rw[LD,LD,QV,tN pk sh,Vw,LD];rfl
def gc(os:yau)(zs:List (Nat×Int)):List (Int×Tr×Int):=zs.map fun z=>((os.getD z.1 (0,0,0,0)).1,(os.getD z.1 (0,0,0,0)).2,z.2)
def kQ(T:yau):List (Key×D):=T.map fun x=>(Sum.inl x.1,Lm x.2)
theorem lX(o:Int):∀T:yau,dq (kQ T) (Sum.inl o)=(Oh T o).map Lm
 |[]=>rfl
 |x::r=>by
  show dq ((Sum.inl x.1,Lm x.2)::kQ r) (Sum.inl o)=_;rw[rn,k7,lX o r];by_cases c:x.1=o
  ·rw[K4 c,K4 (by rw[c])];rfl
  ·rw[K3 c,K3 fun e=>c (Sum.inl.inj e)]
def Gq(T:yau)(o:Int)(h:Tr):putD (kQ T) (Sum.inl o) (Lm h)=kQ (YO T o h):=by
 unfold putD YO;rw[lX,Option.isSome_map];by_cases c:(Oh T o).isSome=true
 ·rw[K4 c,K4 c];unfold kQ;rw[MJ,MJ];refine So fun x _=>?_
  show(if(Sum.inl x.1:Key)=Sum.inl o then _ else _)=((fun y:Int×Tr=>((Sum.inl y.1:Key),Lm y.2)) (if x.1=o then(x.1,h)else x));by_cases e:x.1=o
  ·rw[K4 e,K4 (by rw[e])]
  ·rw[K3 e,K3 fun q=>e (Sum.inl.inj q)]
 ·rw[K3 c,K3 c];unfold kQ;rw[M6];rfl
theorem tO:∀T:yau,(((T.map (·.1)).map Sum.inl:List Key).zip (T.map fun x=>Lm x.2))=kQ T
 |[]=>rfl
 |x::r=>by show(Sum.inl x.1,Lm x.2)::_=(Sum.inl x.1,Lm x.2)::kQ r;rw[<- tO r];rfl
def lM (rs:yau):D:=.tup [.str "bar", .lst false (rs.map Nu)]
def uw(rs:yau):aL (vi rs)=lM rs:=by unfold vi lM;simp only[bV,bq,bD,bo,iP,mD]
def dU(ps:yat):LI:=.own (ps.map Ll)
def Dn(Ls:yas):(Ls.map dU).map uQ=Ls.map cN:=by rw[MJ];rfl
def El(Ls:yas):(Ls.map dU).map o5=Ls.map bg:=by rw[MJ];rfl
def Bz{n k:Nat}(h:k<n):ixN n (k:Int)=some k:=by unfold ixN;simp;lia
def eq_nil(t:Bool)(ps:yat):eqD (.lst t (ps.map Ll)) (.lst true [])=decide (ps=[]):=by
 rw[sD];cases ps with
 |nil=>exact p4
 |cons p r=>rfl
def Fz{α:Type}{wi:DA}{P:List α->Prop}(f:α->D)(hw:∀R:yar->Prop,(∀ys,P ys->R (ys.map f))->wi ρ R)(h:∀ys,P ys->vG (fun _ R=>R (ys.map f)) g tb E ρ):vG wi g tb E ρ:=hw _ fun ys hy=>h ys hy
def EO{Fs:yas}(L:LsOk Ls)(M:u5 Ls)(hF:∀ps∈Fs,ps∈Ls)(h0:0<Fs.length)(h3:Fs.length<=3):LsOk Fs/\u5 Fs :=
 ⟨⟨h0,by lia,fun ps pm=>L.ne ps (hF ps pm),fun ps pm=>L.le ps (hF ps pm),fun ps pm=>L.bd ps (hF ps pm)⟩,by lia,fun ps pm=>M.le ps (hF ps pm)⟩
def BL{a b:yau}:a.map Nu=b.map Nu↔a=b:=⟨F3,fun e=>by rw[e]⟩
def BE{a b:yas}:a.map bg=b.map bg↔a=b:=⟨FX,fun e=>by rw[e]⟩
def Cg{a b:List (Nat×Int)}:a.map dX=b.map dX↔a=b:=⟨GK,fun e=>by rw[e]⟩
def B4{a b:yat}:a.map L3=b.map L3↔a=b:=⟨Gm,fun e=>by rw[e]⟩
def Cm{a b:yat}:a.map Ll=b.map Ll↔a=b:=⟨yY,fun e=>by rw[e]⟩
def Cq{a b:yav}:a.map Lm=b.map Lm↔a=b:=⟨GS,fun e=>by rw[e]⟩
def B2:L3 a=L3 b↔a=b:=⟨yO,fun e=>by rw[e]⟩
def Cj:Ll a=Ll b↔a=b:=⟨yX,fun e=>by rw[e]⟩
def BF{a b:yaf}:a.map D.int=b.map D.int↔a=b:=⟨xD,fun e=>by rw[e]⟩
local macro_rules | `(tactic| walk_at "p") => `(tactic| (apply propext; constructor; (intro h; repeat (first | (obtain ⟨e, h⟩ := h; revert e; simp only [T3, List.cons.injEq, D.int.injEq, D.tup.injEq, D.lst.injEq, and_true, true_and, and_imp, BF, BL, BE, Cg, B4, Cm, Cq, B2, Cj]; intros; subst_vars; assumption) | obtain ⟨_, h⟩ := h)); (intro q; first | exact ⟨_, rfl, q⟩ | exact ⟨_, _, rfl, q⟩ | exact ⟨_, _, _, rfl, q⟩ | exact ⟨_, _, _, _, rfl, q⟩ | exact ⟨_, _, _, _, _, rfl, q⟩ | exact ⟨_, _, _, _, _, _, rfl, q⟩ | exact ⟨_, _, _, _, _, _, _, rfl, q⟩ | exact ⟨_, _, _, _, _, _, _, _, rfl, q⟩ | exact ⟨_, _, _, _, _, _, _, _, _, rfl, q⟩)))
section
variable(κ:Ma)(Q:D->Prop)(Ed:Value->Prop)
abbrev oX(n:Int):Prop:=Q (.int (sg n))
def tJ(κ:Ma):DSp:=fun ds Q Ed=>∃(n:Int),ds=[.int n]/\oX Q n
def Ay (n:Int):tJ κ [.int n] Q Ed=oX Q n:=by walk_at "p"
abbrev c6(a:Int)(b:Int):Prop:=Q (.int (Int.gcd a b:Int))
def fz(κ:Ma):DSp:=fun ds Q Ed=>∃(a:Int) (b:Int),ds=[.int a,.int b]/\c6 Q a b
def mq (a:Int) (b:Int):fz κ [.int a,.int b] Q Ed=c6 Q a b:=by walk_at "p"
abbrev gr(ns:yaf):Prop:=ns.length<100/\bF 0 ns≠0/\Bd 1000 (bF 0 ns)/\Q (.lst true ((cW ns).map D.int))
def iN(κ:Ma):DSp:=fun ds Q Ed=>∃(ns:yaf),ds=[.lst false (ns.map D.int)]/\gr Q ns
def j2 (ns:yaf):iN κ [.lst false (ns.map D.int)] Q Ed=gr Q ns:=by walk_at "p"
abbrev jo(x y z:Int)(l:Int):Prop:=¬(x=0/\y=0/\z=0)/\Bd 4000 x/\Bd 4000 y/\Bd 4000 z/\Q (T3 (x.fdiv (PM.MC x y z l)) (y.fdiv (PM.MC x y z l)) (z.fdiv (PM.MC x y z l)))
def mw(κ:Ma):DSp:=fun ds Q Ed=>∃(x y z:Int) (l:Int),ds=[T3 x y z,.int l]/\jo Q x y z l
def uM (x y z:Int) (l:Int):mw κ [T3 x y z,.int l] Q Ed=jo Q x y z l:=by walk_at "p"
abbrev lZ(n:Int)(s:Int):Prop:=∃m t:Nat,n=(m:Int)/\s=(t:Int)/\m<=60/\t<=3/\Q (.lst true ((L7 m t).map Np))
def qw(κ:Ma):DSp:=fun ds Q Ed=>∃(n:Int) (s:Int),ds=[.int n,.int s]/\lZ Q n s
def xU (n:Int) (s:Int):qw κ [.int n,.int s] Q Ed=lZ Q n s:=by walk_at "p"
abbrev l6(g0 g1 g2:Int)(p0 p1 p2:Int):Prop:=Bd 1000 g0/\Bd 1000 g1/\Bd 1000 g2/\Bd 1000 p0/\Bd 1000 p1/\Bd 1000 p2/\Q (.int (g0*p0+g1*p1+g2*p2))
def qz(κ:Ma):DSp:=fun ds Q Ed=>∃(g0 g1 g2:Int) (p0 p1 p2:Int),ds=[T3 g0 g1 g2,T3 p0 p1 p2]/\l6 Q g0 g1 g2 p0 p1 p2
def xW (g0 g1 g2:Int) (p0 p1 p2:Int):qz κ [T3 g0 g1 g2,T3 p0 p1 p2] Q Ed=l6 Q g0 g1 g2 p0 p1 p2:=by walk_at "p"
abbrev hJ(g0 g1 g2:Int)(p0 p1 p2:Int):Prop:=Bd 1000 g0/\Bd 1000 g1/\Bd 1000 g2/\Bd 1000 p0/\Bd 1000 p1/\Bd 1000 p2/\Q (.int (sg (g0*p0+g1*p1+g2*p2)))
def ip(κ:Ma):DSp:=fun ds Q Ed=>∃(g0 g1 g2:Int) (p0 p1 p2:Int),ds=[T3 g0 g1 g2,T3 p0 p1 p2]/\hJ Q g0 g1 g2 p0 p1 p2
def jz (g0 g1 g2:Int) (p0 p1 p2:Int):ip κ [T3 g0 g1 g2,T3 p0 p1 p2] Q Ed=hJ Q g0 g1 g2 p0 p1 p2:=by walk_at "p"
abbrev dG(a0 a1 a2:Int)(b0 b1 b2:Int)(s:Int):Prop:=TB 990 (a0,a1,a2)/\TB 82 (b0,b1,b2)/\Bd 900 s/\Q (Lm (gU (a0,a1,a2) (b0,b1,b2) s))
def fR(κ:Ma):DSp:=fun ds Q Ed=>∃(a0 a1 a2:Int) (b0 b1 b2:Int) (s:Int),ds=[T3 a0 a1 a2,T3 b0 b1 b2,.int s]/\dG Q a0 a1 a2 b0 b1 b2 s
def j4 (a0 a1 a2:Int) (b0 b1 b2:Int) (s:Int):fR κ [T3 a0 a1 a2,T3 b0 b1 b2,.int s] Q Ed=dG Q a0 a1 a2 b0 b1 b2 s:=by walk_at "p"
abbrev gE(a0 a1 a2:Int)(b0 b1 b2:Int):Prop:=Bd 200 a0/\Bd 200 a1/\Bd 200 a2/\Bd 200 b0/\Bd 200 b1/\Bd 200 b2/\Q (T3 (a1*b2 - b1*a2) (a2*b0 - b2*a0) (a0*b1 - b0*a1))
def jw(κ:Ma):DSp:=fun ds Q Ed=>∃(a0 a1 a2:Int) (b0 b1 b2:Int),ds=[T3 a0 a1 a2,T3 b0 b1 b2]/\gE Q a0 a1 a2 b0 b1 b2
def mM (a0 a1 a2:Int) (b0 b1 b2:Int):jw κ [T3 a0 a1 a2,T3 b0 b1 b2] Q Ed=gE Q a0 a1 a2 b0 b1 b2:=by walk_at "p"
abbrev iI(p0 p1 p2:Int)(w:Sp):Prop:=Bd 200 p0/\Bd 200 p1/\Bd 200 p2/\WB 200 w/\Q (T3 (-(w.1*p1+w.2*p2)) (w.1*p0) (w.2*p0))
def cU(κ:Ma):DSp:=fun ds Q Ed=>∃(p0 p1 p2:Int) (w:Sp),ds=[T3 p0 p1 p2,Ll w]/\iI Q p0 p1 p2 w
def nY (p0 p1 p2:Int) (w:Sp):cU κ [T3 p0 p1 p2,Ll w] Q Ed=iI Q p0 p1 p2 w:=by walk_at "p"
abbrev l4(b:Int)(x:Int)(y:Int):Prop:=b≠0/\Bd 4000 b/\Bd 4000 x/\Bd 4000 y/\Q (I0 b x y)
def qy(κ:Ma):DSp:=fun ds Q Ed=>∃(b:Int) (x:Int) (y:Int),ds=[.int b,.int x,.int y]/\l4 Q b x y
def xV (b:Int) (x:Int) (y:Int):qy κ [.int b,.int x,.int y] Q Ed=l4 Q b x y:=by walk_at "p"
abbrev iA(d:D):Prop:=∃p:Sp,d=Ll p/\Q (L3 p)
def kP(κ:Ma):DSp:=fun ds Q Ed=>∃(d:D),ds=[d]/\iA Q d
def tI (d:D):kP κ [d] Q Ed=iA Q d:=by walk_at "p"
abbrev jT(a0 a1 a2:Int)(b0 b1 b2:Int)(c0 c1 c2:Int):Prop:=Bd 1000 a0/\Bd 1000 a1/\Bd 1000 a2/\Bd 1000 b0/\Bd 1000 b1/\Bd 1000 b2/\Bd 1000 c0/\Bd 1000 c1/\Bd 1000 c2/\Q (.int (sw a0 a1 a2 b0 b1 b2 c0 c1 c2))
def my(κ:Ma):DSp:=fun ds Q Ed=>∃(a0 a1 a2:Int) (b0 b1 b2:Int) (c0 c1 c2:Int),ds=[T3 a0 a1 a2,T3 b0 b1 b2,T3 c0 c1 c2]/\jT Q a0 a1 a2 b0 b1 b2 c0 c1 c2
def pN (a0 a1 a2:Int) (b0 b1 b2:Int) (c0 c1 c2:Int):my κ [T3 a0 a1 a2,T3 b0 b1 b2,T3 c0 c1 c2] Q Ed=jT Q a0 a1 a2 b0 b1 b2 c0 c1 c2:=by walk_at "p"
abbrev gZ(a0 a1 a2:Int)(b0 b1 b2:Int):Prop:=Bd 200 a0/\Bd 200 a1/\Bd 200 a2/\Bd 200 b0/\Bd 200 b1/\Bd 200 b2/\Q (.tup [.int (a0*b1 - b0*a1),.int (a0*b2 - b0*a2)])
def jY(κ:Ma):DSp:=fun ds Q Ed=>∃(a0 a1 a2:Int) (b0 b1 b2:Int),ds=[T3 a0 a1 a2,T3 b0 b1 b2]/\gZ Q a0 a1 a2 b0 b1 b2
def kH (a0 a1 a2:Int) (b0 b1 b2:Int):jY κ [T3 a0 a1 a2,T3 b0 b1 b2] Q Ed=gZ Q a0 a1 a2 b0 b1 b2:=by walk_at "p"
abbrev oY(a:Sp)(b:Sp):Prop:=WB 400 a/\WB 400 b/\Q (.int (tn a b))
def tK(κ:Ma):DSp:=fun ds Q Ed=>∃(a:Sp) (b:Sp),ds=[Ll a,Ll b]/\oY Q a b
def Az (a:Sp) (b:Sp):tK κ [Ll a,Ll b] Q Ed=oY Q a b:=by walk_at "p"
abbrev jG(w:Sp):Prop:=Q (Ll (P8 w))
def lB(κ:Ma):DSp:=fun ds Q Ed=>∃(w:Sp),ds=[Ll w]/\jG Q w
def mj (w:Sp):lB κ [Ll w] Q Ed=jG Q w:=by walk_at "p"
abbrev gH(w:Sp):Prop:=Q (Ll (Pd w))
def jx(κ:Ma):DSp:=fun ds Q Ed=>∃(w:Sp),ds=[Ll w]/\gH Q w
def mO (w:Sp):jx κ [Ll w] Q Ed=gH Q w:=by walk_at "p"
abbrev jS(ps:yat):Prop:=ps.length<64/\(∀p∈ps,SB p)/\Q (.lst true ((bJ [] ps).reverse.map L3))
def qu(κ:Ma):DSp:=fun ds Q Ed=>∃(ps:yat),ds=[.lst false (ps.map L3)]/\jS Q ps
def pM (ps:yat):qu κ [.lst false (ps.map L3)] Q Ed=jS Q ps:=by walk_at "p"
abbrev jH(ps:yat):Prop:=ps.length<64/\(∀p∈ps,SB p)/\∀ys,cJ ys ps->ys.length<=ps.length->Q (.lst true ((aO ys).map L3))
def lE(κ:Ma):DSp:=fun ds Q Ed=>∃(ps:yat),ds=[.lst false (ps.map Ll)]/\jH Q ps
def mr (ps:yat):lE κ [.lst false (ps.map Ll)] Q Ed=jH Q ps:=by walk_at "p"
abbrev dg(a:Sp)(b:Sp):Prop:=SB a/\SB b/\Q (.lst true ((dD a b).map Lm))
def iq(κ:Ma):DSp:=fun ds Q Ed=>∃(a:Sp) (b:Sp),ds=[L3 a,L3 b]/\dg Q a b
def jb (a:Sp) (b:Sp):iq κ [L3 a,L3 b] Q Ed=dg Q a b:=by walk_at "p"
abbrev iG(hs:yat):Prop:=0<hs.length/\hs.length<200/\(∀p∈hs,SB p)/\Q (.lst true ((aG hs).map Lm))
def nU(κ:Ma):DSp:=fun ds Q Ed=>∃(hs:yat),ds=[.lst false (hs.map L3)]/\iG Q hs
def nV (hs:yat):nU κ [.lst false (hs.map L3)] Q Ed=iG Q hs:=by walk_at "p"
abbrev kf(w:Sp):Prop:=Q (.int (br w))
def nZ(κ:Ma):DSp:=fun ds Q Ed=>∃(w:Sp),ds=[Ll w]/\kf Q w
def w9 (w:Sp):nZ κ [Ll w] Q Ed=kf Q w:=by walk_at "p"
abbrev d5(a:Sp)(b:Sp):Prop:=WB 400 a/\WB 400 b/\Q (.bl (decide (tn a b=0/\LB a b<0)))
def gM(κ:Ma):DSp:=fun ds Q Ed=>∃(a:Sp) (b:Sp),ds=[Ll a,Ll b]/\d5 Q a b
def nR (a:Sp) (b:Sp):gM κ [Ll a,Ll b] Q Ed=d5 Q a b:=by walk_at "p"
abbrev cZ(a:Sp)(b:Sp):Prop:=WB 400 a/\WB 400 b/\Q (oL (ky a b))
def fy(κ:Ma):DSp:=fun ds Q Ed=>∃(a:Sp) (b:Sp),ds=[Ll a,Ll b]/\cZ Q a b
def mn (a:Sp) (b:Sp):fy κ [Ll a,Ll b] Q Ed=cZ Q a b:=by walk_at "p"
abbrev cL(a:Sp)(b:Sp)(e:Sp):Prop:=WB 400 a/\WB 400 b/\WB 400 e/\Q (oL (iW a b e))
def dY(κ:Ma):DSp:=fun ds Q Ed=>∃(a:Sp) (b:Sp) (e:Sp),ds=[Ll a,Ll b,Ll e]/\cL Q a b e
def kI (a:Sp) (b:Sp) (e:Sp):dY κ [Ll a,Ll b,Ll e] Q Ed=cL Q a b e:=by walk_at "p"
abbrev eW(ws:yat):Prop:=0<ws.length/\ws.length<4/\(∀w∈ws,WB 400 w)/\Q (oL (dR ws))
def ml(κ:Ma):DSp:=fun ds Q Ed=>∃(ws:yat),ds=[.lst false (ws.map Ll)]/\eW Q ws
def i7 (ws:yat):ml κ [.lst false (ws.map Ll)] Q Ed=eW Q ws:=by walk_at "p"
abbrev gI (ps:yat) (h0 h1 h2:Int):Prop:=0<ps.length/\ps.length<=30/\(∀p∈ps,SB p)/\PB 160 (h0,h1,h2)/\∃r,cq (ps.map (Lf (h0,h1,h2))) (cP ps.length)=some r/\Q (.tup [.str "in", Np r.1,.lst true (r.2.map D.int)])
def jy(κ:Ma):DSp:=fun ds Q Ed=>∃(ps:yat) (h0 h1 h2:Int),ds=[.lst false (ps.map Ll),T3 h0 h1 h2]/\gI Q ps h0 h1 h2
def mP (ps:yat) (h0 h1 h2:Int):jy κ [.lst false (ps.map Ll),T3 h0 h1 h2] Q Ed=gI Q ps h0 h1 h2:=by walk_at "p"
abbrev cI(a0 a1 a2:Int)(b0 b1 b2:Int)(g0 g1 g2:Int):Prop:=Bd 200 a0/\Bd 200 a1/\Bd 200 a2/\Bd 200 b0/\Bd 200 b1/\Bd 200 b2/\Bd 200 g0/\Bd 200 g1/\Bd 200 g2/\(LL (g0,g1,g2) (a0,a1,a2) (b0,b1,b2)).1≠0/\Q (Lm (cM (g0,g1,g2) (a0,a1,a2) (b0,b1,b2)))
def dA(κ:Ma):DSp:=fun ds Q Ed=>∃(a0 a1 a2:Int) (b0 b1 b2:Int) (g0 g1 g2:Int),ds=[T3 a0 a1 a2,T3 b0 b1 b2,T3 g0 g1 g2]/\cI Q a0 a1 a2 b0 b1 b2 g0 g1 g2
def gR (a0 a1 a2:Int) (b0 b1 b2:Int) (g0 g1 g2:Int):dA κ [T3 a0 a1 a2,T3 b0 b1 b2,T3 g0 g1 g2] Q Ed=cI Q a0 a1 a2 b0 b1 b2 g0 g1 g2:=by walk_at "p"
abbrev eZ(cs:yav)(g0 g1 g2:Int):Prop:=cs.length<=300000/\(∀p∈cs,0<p.1/\CB 40 p)/\Bd 200 g0/\Bd 200 g1/\Bd 200 g2/\Q (.lst true ((eQ (g0,g1,g2) cs).map Lm))
def gN(κ:Ma):DSp:=fun ds Q Ed=>∃(cs:yav) (g0 g1 g2:Int),ds=[.lst false (cs.map Lm),T3 g0 g1 g2]/\eZ Q cs g0 g1 g2
def i8 (cs:yav) (g0 g1 g2:Int):gN κ [.lst false (cs.map Lm),T3 g0 g1 g2] Q Ed=eZ Q cs g0 g1 g2:=by walk_at "p"
abbrev iH(cs:yav)(gs:yav):Prop:=0<gs.length/\gs.length<=1000/\(∀j,j<gs.length->(aX (gs.take j) cs).length<=300000/\∀p∈aX (gs.take j) cs,0<p.1/\CB 40 p)/\(∀g∈gs,Bd 200 g.1/\Bd 200 g.2.1/\Bd 200 g.2.2)/\Q (.lst true ((aX gs cs).map Lm))
def nW(κ:Ma):DSp:=fun ds Q Ed=>∃(cs:yav) (gs:yav),ds=[.lst false (cs.map Lm),.lst false (gs.map Lm)]/\iH Q cs gs
def nX (cs:yav) (gs:yav):nW κ [.lst false (cs.map Lm),.lst false (gs.map Lm)] Q Ed=iH Q cs gs:=by walk_at "p"
abbrev fe(cs:yav)(gs:yav):Prop:=gs.length<=60/\(∀j,j<=gs.length->(aX (gs.take j) cs).length<=300000/\∀p∈aX (gs.take j) cs,0<p.1/\CB 40 p)/\(∀g∈gs,Bd 200 g.1/\Bd 200 g.2.1/\Bd 200 g.2.2)/\∃last:Nat,last<gs.length/\(∀j,j<=last->aX (gs.take j) cs ≠ [])/\aX (gs.take (last+1)) cs=[]/\Q (.int (last:Int))
def h9(κ:Ma):DSp:=fun ds Q Ed=>∃(cs:yav) (gs:yav),ds=[.lst false (cs.map Lm),.lst false (gs.map Lm)]/\fe Q cs gs
def ph (cs:yav) (gs:yav):h9 κ [.lst false (cs.map Lm),.lst false (gs.map Lm)] Q Ed=fe Q cs gs:=by walk_at "p"
abbrev fE(gs:yav)(ns:yaf)(sh:yaf):Prop:=∃pk:yag,ns=pk.map (fun(k:Nat)=>(k:Int))/\pk.length=sh.length/\pk.length<=3/\(∀k∈pk,k<gs.length)/\(∀g∈gs,Bd 200 g.1)/\(∀s∈sh,Bd 900 s)/\Q (.int (pT gs pk sh))
def kK(κ:Ma):DSp:=fun ds Q Ed=>∃(gs:yav) (ns:yaf) (sh:yaf),ds=[.lst false (gs.map Lm),.lst false (ns.map D.int),.lst false (sh.map D.int)]/\fE Q gs ns sh
def lD (gs:yav) (ns:yaf) (sh:yaf):kK κ [.lst false (gs.map Lm),.lst false (ns.map D.int),.lst false (sh.map D.int)] Q Ed=fE Q gs ns sh:=by walk_at "p"
abbrev lh(cs:yav)(gs:yav):Prop:=gs.length<=60/\(∀j,j<=gs.length->(aX (gs.take j) cs).length<=300000/\∀p∈aX (gs.take j) cs,0<p.1/\CB 40 p)/\(∀g∈gs,Bd 200 g.1/\Bd 200 g.2.1/\Bd 200 g.2.2)/\∃last:Nat,last<gs.length/\(∀j,j<=last->aX (gs.take j) cs ≠ [])/\aX (gs.take (last+1)) cs=[]/\∃r:yag×yaf,gW gs last (L7 last 1++L7 last 2)=some r/\Q (.lst true ((r.1.zip r.2).map dX))
def tE(κ:Ma):DSp:=fun ds Q Ed=>∃(cs:yav) (gs:yav),ds=[.lst false (cs.map Lm),.lst false (gs.map Lm)]/\lh Q cs gs
def rO (cs:yav) (gs:yav):tE κ [.lst false (cs.map Lm),.lst false (gs.map Lm)] Q Ed=lh Q cs gs:=by walk_at "p"
abbrev d6(Ls:yas):Prop:=LsOk Ls/\∀yss,bS yss Ls->Q (.lst true ((aT 0 yss).map Nu))
def gO(κ:Ma):DSp:=fun ds Q Ed=>∃(Ls:yas),ds=[.lst false (Ls.map bg)]/\d6 Q Ls
def n8 (Ls:yas):gO κ [.lst false (Ls.map bg)] Q Ed=d6 Q Ls:=by walk_at "p"
abbrev fC(os:yau)(zs:List (Nat×Int)):Prop:=zs.length<=3/\(∀z∈zs,z.1<os.length/\Bd 900 z.2)/\(∀x∈os,TB 82 x.2)/\(∀n,∀x∈b9 ((gc os zs).take n),TB (983+n) x.2)/\(∀n,(b9 ((gc os zs).take n)).length<=n)/\((b9 (gc os zs)).map (·.1)).Nodup/\∀ms:yaf,ms.Perm ((b9 (gc os zs)).map (·.1))->ms.Pairwise (·<·)->Q (.lst true ((jU (b9 (gc os zs)) ms).map Nu))
def kJ(κ:Ma):DSp:=fun ds Q Ed=>∃(os:yau) (zs:List (Nat×Int)),ds=[.lst false (os.map Nu),.lst false (zs.map dX)]/\fC Q os zs
def lC (os:yau) (zs:List (Nat×Int)):kJ κ [.lst false (os.map Nu),.lst false (zs.map dX)] Q Ed=fC Q os zs:=by walk_at "p"
abbrev cC(Ls:yas):Prop:=LsOk Ls/\u5 Ls/\HmQ Ls Q
def i9(κ:Ma):DSp:=fun ds Q Ed=>∃(Ls:yas),ds=[.lst false (Ls.map bg)]/\cC Q Ls
def dw (Ls:yas):i9 κ [.lst false (Ls.map bg)] Q Ed=cC Q Ls:=by walk_at "p"
abbrev gG(a:Int):Prop:=Q (.bl true)
def j1(κ:Ma):DSp:=fun ds Q Ed=>∃(a:Int),ds=[.int a]/\gG Q a
def rQ (a:Int):j1 κ [.int a] Q Ed=gG Q a:=by walk_at "p"
abbrev fg(ns:yaf)(k:Int):Prop:=0<=k/\ns.length<=63/\∀v:Int,Q (.int v)
def ib(κ:Ma):DSp:=fun ds Q Ed=>∃(ns:yaf) (k:Int),ds=[.lst false (ns.map D.int),.int k]/\fg Q ns k
def pA (ns:yaf) (k:Int):ib κ [.lst false (ns.map D.int),.int k] Q Ed=fg Q ns k:=by walk_at "p"
abbrev fh(a:Int)(b:Int):Prop:=Q (.int (Int.gcd a b:Int))
def ic(κ:Ma):DSp:=fun ds Q Ed=>∃(a:Int) (b:Int),ds=[.int a,.int b]/\fh Q a b
def pB (a:Int) (b:Int):ic κ [.int a,.int b] Q Ed=fh Q a b:=by walk_at "p"
abbrev fP(c:Int)(m:Int):Prop:=0<=m/\m<1000/\∀xs:yaf,xs.length=m.toNat->(∀x∈xs,0<=x/\x<10000000000000)->Q (.lst true (xs.map D.int))
def ja(κ:Ma):DSp:=fun ds Q Ed=>∃(c:Int) (m:Int),ds=[.int c,.int m]/\fP Q c m
def qv (c:Int) (m:Int):ja κ [.int c,.int m] Q Ed=fP Q c m:=by walk_at "p"
abbrev dO(c:Int)(k:Int):Prop:=∀p:Sp,WB 40 p->Q (Ll p)
def kO(κ:Ma):DSp:=fun ds Q Ed=>∃(c:Int) (k:Int),ds=[.int c,.int k]/\dO Q c k
def ij (c:Int) (k:Int):kO κ [.int c,.int k] Q Ed=dO Q c k:=by walk_at "p"
abbrev cS(h0 h1 h2:Int):Prop:=Pr (h0,h1,h2)/\Q (.bl true)
def et(κ:Ma):DSp:=fun ds Q Ed=>∃(h0 h1 h2:Int),ds=[T3 h0 h1 h2]/\cS Q h0 h1 h2
def iM (h0 h1 h2:Int):et κ [T3 h0 h1 h2] Q Ed=cS Q h0 h1 h2:=by walk_at "p"
abbrev fi(ns:yaf):Prop:=0<ns.length/\ns.length<1000/\Q (.bl true)
def ig(κ:Ma):DSp:=fun ds Q Ed=>∃(ns:yaf),ds=[.lst false (ns.map D.int)]/\fi Q ns
def pC (ns:yaf):ig κ [.lst false (ns.map D.int)] Q Ed=fi Q ns:=by walk_at "p"
abbrev fF(d:D)(ps:yat)(h0 h1 h2:Int):Prop:=∃pk sh,d=du (pk,sh)/\CL ps (h0,h1,h2) pk sh/\ps.length<=30/\(∀p∈ps,WB 40 p)/\CB 40 (h0,h1,h2)/\Q (.bl true)
def iB(κ:Ma):DSp:=fun ds Q Ed=>∃(d:D) (ps:yat) (h0 h1 h2:Int),ds=[d,.lst false (ps.map Ll),T3 h0 h1 h2]/\fF Q d ps h0 h1 h2
def lH (d:D) (ps:yat) (h0 h1 h2:Int):iB κ [d,.lst false (ps.map Ll),T3 h0 h1 h2] Q Ed=fF Q d ps h0 h1 h2:=by walk_at "p"
abbrev gF(d:D)(Ls:yas):Prop:=∃y rs,d=jh y rs/\LsOk Ls/\qK Ls y rs/\Q (.bl true)
def jZ(κ:Ma):DSp:=fun ds Q Ed=>∃(d:D) (Ls:yas),ds=[d,.lst false (Ls.map bg)]/\gF Q d Ls
def rP (d:D) (Ls:yas):jZ κ [d,.lst false (Ls.map bg)] Q Ed=gF Q d Ls:=by walk_at "p"
abbrev jk(d:D)(Ls:yas):Prop:=∃x:Int×Tr,d=Nu x/\LsOk Ls/\(∃i:Nat,i<Ls.length/\x.1=(i:Int)/\∀p∈Ls.getD i [],0<=KZ x.2 (1,p.1,p.2))/\TB 990 x.2/\Q (.bl true)
def mv(κ:Ma):DSp:=fun ds Q Ed=>∃(d:D) (Ls:yas),ds=[d,.lst false (Ls.map bg)]/\jk Q d Ls
def uL (d:D) (Ls:yas):mv κ [d,.lst false (Ls.map bg)] Q Ed=jk Q d Ls:=by walk_at "p"
abbrev ix(d:D)(Ls:yas):Prop:=∃rs,d=lM rs/\LsOk Ls/\qH Ls rs/\Q (.bl true)
def kL(κ:Ma):DSp:=fun ds Q Ed=>∃(d:D) (Ls:yas),ds=[d,.lst false (Ls.map bg)]/\ix Q d Ls
def tF (d:D) (Ls:yas):kL κ [d,.lst false (Ls.map bg)] Q Ed=ix Q d Ls:=by walk_at "p"
abbrev dN(d:D)(Ls:yas):Prop:=LsOk Ls/\((∃y rs,d=jh y rs/\qK Ls y rs)∨∃ rs,d=lM rs/\qH Ls rs)/\Q (.bl true)
def fJ(κ:Ma):DSp:=fun ds Q Ed=>∃(d:D) (Ls:yas),ds=[d,.lst false (Ls.map bg)]/\dN Q d Ls
def ie (d:D) (Ls:yas):fJ κ [d,.lst false (Ls.map bg)] Q Ed=dN Q d Ls:=by walk_at "p"
abbrev iy(ns:yaf):Prop:=ns.length<=63/\∀Ls,LsOk Ls->u5 Ls->Q (.lst true (Ls.map cN))
def kM(κ:Ma):DSp:=fun ds Q Ed=>∃(ns:yaf),ds=[.lst false (ns.map D.int)]/\iy Q ns
def tG (ns:yaf):kM κ [.lst false (ns.map D.int)] Q Ed=iy Q ns:=by walk_at "p"
abbrev iz(m:Int):Prop:=∃n:Nat,m=(n:Int)/\n<=5/\∀ks:List (yag),(∀k∈ks,0<k.length/\k.length<=3/\∀j∈k,j<n)->Q (.lst true (ks.map Np))
def kN(κ:Ma):DSp:=fun ds Q Ed=>∃(m:Int),ds=[.int m]/\iz Q m
def tH (m:Int):kN κ [.int m] Q Ed=iz Q m:=by walk_at "p"
end
section
variable(P:Program)(w:World)(K:yac)(mg:yal)(base:Heap)(κ:Ma)
abbrev G6:Prop:=Mj P w K mg base "sign" 1 ["number"] (tJ κ)
abbrev jJ:Prop:=Mj P w K mg base "common_divisor" 1 ["one", "other"] (fz κ)
abbrev u0:Prop:=Mj P w K mg base "lowest" 2 ["numbers"] (iN κ)
abbrev AN:Prop:=Mj P w K mg base "reduced" 2 ["triple", "lead"] (mw κ)
abbrev x9:Prop:=Mj P w K mg base "picks" 1 ["count", "size"] (qw κ)
abbrev ya:Prop:=Mj P w K mg base "value" 1 ["gauge", "place"] (qz κ)
abbrev G5:Prop:=Mj P w K mg base "side" 2 ["gauge", "place"] (ip κ)
abbrev u4:Prop:=Mj P w K mg base "with_share" 1 ["gauge", "other", "share"] (fR κ)
abbrev AI:Prop:=Mj P w K mg base "crossed" 1 ["one", "other"] (jw κ)
abbrev CK:Prop:=Mj P w K mg base "facing" 1 ["place", "way"] (cU κ)
abbrev E6:Prop:=Mj P w K mg base "place" 3 ["by", "x", "y"] (qy κ)
abbrev qJ:Prop:=Mj P w K mg base "place_of" 1 ["spot"] (kP κ)
abbrev E7:Prop:=Mj P w K mg base "swing" 1 ["one", "two", "three"] (my κ)
abbrev xZ:Prop:=Mj P w K mg base "arrow" 1 ["one", "other"] (jY κ)
abbrev AO:Prop:=Mj P w K mg base "turn" 1 ["one", "other"] (tK κ)
abbrev G3:Prop:=Mj P w K mg base "back" 1 ["way"] (lB κ)
abbrev AL:Prop:=Mj P w K mg base "left_of" 1 ["way"] (jx κ)
abbrev E5:Prop:=Mj P w K mg base "chain" 2 ["places"] (qu κ)
abbrev AJ:Prop:=Mj P w K mg base "hull" 3 ["spots"] (lE κ)
abbrev uD:Prop:=Mj P w K mg base "thin_bounds" 2 ["one", "other"] (iq κ)
abbrev CI:Prop:=Mj P w K mg base "bounds" 3 ["corners"] (nU κ)
abbrev uZ:Prop:=Mj P w K mg base "length" 1 ["way"] (nZ κ)
abbrev r9:Prop:=Mj P w K mg base "are_opposite" 2 ["one", "other"] (gM κ)
abbrev pQ:Prop:=Mj P w K mg base "balance_of_two" 3 ["one", "other"] (fy κ)
abbrev mT:Prop:=Mj P w K mg base "balance_of_three" 3 ["one", "two", "three"] (dY κ)
abbrev tP:Prop:=Mj P w K mg base "balance" 4 ["ways"] (ml κ)
abbrev AM:Prop:=Mj P w K mg base "mixture" 5 ["spots", "place"] (jy κ)
abbrev qI:Prop:=Mj P w K mg base "place_between" 4 ["one", "other", "gauge"] (dA κ)
abbrev tQ:Prop:=Mj P w K mg base "clipped" 5 ["corners", "gauge"] (gN κ)
abbrev CJ:Prop:=Mj P w K mg base "common" 6 ["corners", "gauges"] (nW κ)
abbrev uA:Prop:=Mj P w K mg base "last_needed" 6 ["corners", "gauges"] (h9 κ)
abbrev zh:Prop:=Mj P w K mg base "constant" 1 ["gauges", "numbers", "shares"] (kK κ)
abbrev G4:Prop:=Mj P w K mg base "bars" 7 ["corners", "gauges"] (tE κ)
abbrev se:Prop:=Mj P w K mg base "owned_gauges" 4 ["lists"] (gO κ)
abbrev zf:Prop:=Mj P w K mg base "bar_rows" 2 ["owned", "shares"] (kJ κ)
abbrev uX:Prop:=Mj P w K mg base "hulls_meet" 8 ["lists"] (i9 κ)
abbrev kr:Prop:=Mj P w K mg base "_law_whole" 1 ["_law_found"] (j1 κ)
abbrev uB:Prop:=Mj P w K mg base "_law_cell_at" 1 ["_law_script", "_law_k"] (ib κ)
abbrev mK:Prop:=Mj P w K mg base "_law_divisor" 1 ["_law_one", "_law_other"] (ic κ)
abbrev uY:Prop:=Mj P w K mg base "_law_stream" 1 ["_law_cell", "_law_many"] (ja κ)
abbrev zu:Prop:=Mj P w K mg base "_law_spot" 1 ["_law_cell", "_law_kind"] (kO κ)
abbrev sd:Prop:=Mj P w K mg base "_law_is_place" 2 ["_law_found"] (et κ)
abbrev uC:Prop:=Mj P w K mg base "_law_numbers" 2 ["_law_found"] (ig κ)
abbrev zq:Prop:=Mj P w K mg base "_law_part" 3 ["_law_part_here", "_law_spots", "_law_here"] (iB κ)
abbrev xo:Prop:=Mj P w K mg base "_law_meets" 4 ["_law_found", "_law_sets_here"] (jZ κ)
abbrev AK:Prop:=Mj P w K mg base "_law_row" 2 ["_law_row_here", "_law_sets_here"] (mv κ)
abbrev zj:Prop:=Mj P w K mg base "_law_bars" 3 ["_law_found", "_law_sets_here"] (kL κ)
abbrev zo:Prop:=Mj P w K mg base "_law_good" 5 ["_law_found", "_law_sets_here"] (fJ κ)
abbrev zr:Prop:=Mj P w K mg base "_law_sets" 2 ["_law_script"] (kM κ)
abbrev zt:Prop:=Mj P w K mg base "_law_some" 1 ["_law_many"] (kN κ)
end
local macro_rules | `(tactic| walk_at "l") => `(tactic| (intro ds Q E h; repeat (first | (obtain ⟨e, _⟩ := h; subst e; rfl) | obtain ⟨_, h⟩ := h)))
section
variable{P:Program}{w:World}{K:yac}{mg:yal}{base:Heap}{κ:Ma}{f:Addr}{fd:FuncData}
def KG(x:Str)(N:yah)(d:D)(ds:yar):di (x::N) (d::ds)=some (.val d)::di N ds:=by unfold di;simp
def KI(x:Str)(N:yah):di (x::N) []=none::di N []:=by unfold di;simp[List.replicate_succ]
theorem KH:di [] []=[]:=rfl
local macro_rules | `(tactic| walk_at "s") => `(tactic| simp only [KG, KI, KH])
local macro_rules | `(tactic| walk_at "x") => `(tactic| try simp only [C9, EI, zP, Ht, Hn, VS, dB, Hl, dOr, Hq, EB, EJ, dIf, vJ, dC, qO, zM, Hz, C8, uP, dCB, dIs, HA, HB, J5, J6, yR, eJ, Jd, Jf, Ip, DK, F4, DL, kU, Bl, Bm, Iv, EG, Hr, yj, yo, Fx, Fy, pU, Ih, Ij, Ii, List.map_cons, List.map_nil, Km, Ko, cV, Er, Cv, iP, bV, bo, bD, bq, fK, D8, ql, JJ, HW, Fw, U1, Pc, at2, at3, List.append_nil, List.cons_append, List.nil_append, FT, FU, IU, FO, FN, By, FK, Aa, Bv, Bw, Bu, Bt, true_and, false_and, and_false, false_or, or_false, exists_false, zO, EL, GA, Gz, kW, Kk, Hs, gd2, Bool.false_eq_true, Bool.true_eq_false, if_false, if_true, decide_eq_true_eq, Bool.not_eq_eq_eq_not, Bool.not_true, Bool.not_false, decide_eq_false_iff_not, ite_not, AR, G9, A8, Ho, Hv, Hu, EM, qP, da, Hm, JE, zN, HZ, Ia, GJ, JA, JB, E9, CQ, CS, HD, A7, Iw, Hw, Hx, yq, HX, HY, o5, List.set_cons_zero, List.set_cons_succ, yn, JK, Ay, mq, j2, uM, xU, xW, jz, j4, mM, nY, xV, tI, pN, kH, Az, mj, mO, pM, mr, jb, nV, w9, nR, mn, kI, i7, mP, gR, i8, nX, ph, lD, rO, n8, lC, dw, rQ, pA, pB, qv, ij, iM, pC, lH, rP, uL, tF, ie, tG, tH, oX, c6, gr, jo, lZ, l6, hJ, dG, gE, iI, l4, iA, jT, gZ, oY, jG, gH, jS, jH, dg, iG, kf, d5, cZ, cL, eW, gI, cI, eZ, iH, fe, fE, lh, d6, fC, cC, gG, fg, fh, fP, dO, cS, fi, fF, gF, jk, ix, dN, iy, iz, jA, Kn, Kp, ir, gP, gg, mE, cX, rV, HF, JF, EF, qB, AF, xc, mD, vK, EH, rS, j5, mC, rR, fL, yp, EK, ED, Hy, A9, vI, EE, xf, rT, EC, vH])
def Gb (F:aw K "sign" "sign" wY f fd) (C:Ml K mg κ)    : aJ P w K mg base (CX1 P w) 1 f fd ["number"] (aK K (tJ κ)):=by
 refine aw.okN F GH (by walk_at "l") fun Lv A outer s H E hr=>⟨_,(ah (aR (aB lY (dv 0) ae) (aj (au ae)) aE) (ah (aR (aB cK (dv 0) ae) (aj (au (cg ae))) aE) (aj (au ae)))),?_⟩
 rintro ds Q Ed ⟨n,rfl,h⟩;walk_at "s";unfold oX at h;walk_at "x";unfold sg at h;split
 ·rename_i h0;rw[K4 h0]at h;exact h
 ·rename_i h0;rw[K3 h0]at h;split
  ·rename_i h1;rw[K4 h1]at h;exact h
  ·rename_i h1;rw[K3 h1]at h;exact h
def o9 (F:aw K "common_divisor" "common_divisor" fX f fd) (C:Ml K mg κ)   (Mt:mg "abs" = none):aJ P w K mg base (CX1 P w) 1 f fd ["one", "other"] (aK K (fz κ)):=by
 refine aw.okN F c7 (by walk_at "l") fun Lv A outer s H E hr=>⟨_,(ah (lQ PassesOwn.never (aB fB (dv 1) ae) (ah (aC 2 c7.nd (ao bU (dv 0) (dv 1))) (ah (aC 0 c7.nd (dv 1)) (aj (aC 1 c7.nd (dv 2)))))) (aj (au (aD mX (by rfl) Mt boot_abs (aa (dv 0) af))))),?_⟩
 rintro ds Q Ed ⟨a,b,rfl,h⟩;walk_at "s";unfold c6 at h;refine⟨fun m ρ=>∃(x y:Int) (r:Option Sl),ρ=[some (.val (.int x)),some (.val (.int y)),r]/\Int.gcd x y=Int.gcd a b/\m=y.natAbs,⟨_,a,b,none,rfl,rfl,rfl⟩,?_⟩;rintro m ρ ⟨x,y,r,rfl,hg,rfl⟩;walk_at "x";by_cases hy:y=0
 ·subst hy;rw[PM.ue]at hg;rw[K4 rfl,hg];exact h
 ·rw[K3 hy];exact⟨hy,_,PM.uc x hy,y,x.fmod y,_,rfl,(PM.vZ x y).trans hg,rfl⟩
def BS (F:aw K "lowest" "lowest" mf f fd) (C:Ml K mg κ)  (Ln:jJ P w K mg base κ)  : aJ P w K mg base (CX1 P w) 2 f fd ["numbers"] (aK K (iN κ)):=by
 refine aw.okN F kh (by walk_at "l") fun Lv A outer s H E hr=>⟨_,(ah (aC 1 kh.nd ae) (ah (bu PassesOwn.never rfl (aZ (dv 0)) (aP 2 kh.nd) (aj (aC 1 kh.nd (aq Ln hr (aa (dv 1) (aa (dv 2) af)))))) (aj (au (cw (by rfl) (by exact bA (osc:=ak mf) (xs:=["number"]) (ns:=["divisor"]) (by decide +kernel)) (bf.cons 1 bf.nil) (aZ (dv 0)) (fun _ _ _ _ _=>bR) (fun _ _ _ _ _=>(ao dJ (dv 0) (dv 1)))))))),?_⟩
 rintro ds Q Ed ⟨ns,rfl,h⟩;walk_at "s";unfold gr at h;obtain⟨hl,hz,hb,h⟩:=h;walk_at "x";refine PD.aV ns D.int (fun j ρ=>∃v2:Option Sl,ρ=[some (.val (.lst false (ns.map D.int))),some (.val (.int (bF 0 (ns.take j)))),v2]) (fun R q=>?_) ⟨none,rfl⟩ ?_ ?_
 ·walk_at "x";exact q
 ·rintro j x Ld hx ⟨v2,rfl⟩;walk_at "x";refine⟨some (.val (.int x)),?_⟩;rw[SR,hx];show _=[_,some (Sl.val (D.int (bF 0 (ns.take j++[x])))),_];rw[nr]
 ·rintro Ld ⟨v2,rfl⟩;rw[QZ];walk_at "x";refine PD.comp_map ns D.int (fun _=>true) (fun x=>.int (x.fdiv (bF 0 ns))) (fun R q=>?_) (by rw[sizeLine_eq];lia) (fun x hx K hK=>?_) (fun x hx _ K hK=>?_) ?_
  ·walk_at "x";exact q
  ·walk_at "x";exact hK
  ·walk_at "x";exact⟨⟨hz,hb.mono (by decide)⟩,hK⟩
  ·rw[Pe.mpr (fun _ _=>rfl)];unfold cW at h;rw[MJ]at h;exact h
def Al (F:aw K "reduced" "reduced" nN f fd) (C:Ml K mg κ)  (Ln:jJ P w K mg base κ)  : aJ P w K mg base (CX1 P w) 2 f fd ["triple", "lead"] (aK K (mw κ)):=by
 refine aw.okN F mi (by walk_at "l") fun Lv A outer s H E hr=>⟨_,(ah (aC 2 mi.nd (aq Ln hr (aa (aq Ln hr (aa (ai (dv 0) ae) (aa (ai (dv 0) ae) af))) (aa (ai (dv 0) ae) af)))) (ah (aR (aB cK (dv 1) ae) (aj (aC 2 mi.nd (cg (dv 2)))) aE) (aj (au (bL (aa (ao dJ (ai (dv 0) ae) (dv 2)) (aa (ao dJ (ai (dv 0) ae) (dv 2)) (aa (ao dJ (ai (dv 0) ae) (dv 2)) af)))))))),?_⟩
 rintro ds Q Ed ⟨x,y,z,l,rfl,h⟩;walk_at "s";unfold jo at h;obtain⟨hz,bx,by',bz,h⟩:=h;have LV:=PM.vO (l:=l) hz;have hbd:=(Hc (l:=l) hz bx by' bz).mono (show 4000<=8000 by decide);walk_at "x";have eg:((Int.gcd (Int.gcd x y:Int) z:Nat):Int)=(PM.g3 x y z:Int):=rfl;rw[eg];have fin:∀g:Int,g=PM.MC x y z l->CD x g/\CD y g/\CD z g/\([D.int (x.fdiv g),.int (y.fdiv g),.int (z.fdiv g)]:yar).length<=sizeLine/\Q (.tup [.int (x.fdiv g),.int (y.fdiv g),.int (z.fdiv g)]):=by rintro g rfl;exact⟨⟨LV,hbd⟩,⟨LV,hbd⟩,⟨LV,hbd⟩,Ra _ _ _,h⟩
 by_cases hl:l<0
 ·rw[K4 (by simpa using hl)];exact fin _ (by unfold PM.MC;rw[K4 hl])
 ·rw[K3 (by simpa using hl)];exact fin _ (by unfold PM.MC;rw[K3 hl])
def DR (F:aw K "picks" "picks" oZ f fd) (C:Ml K mg κ)   (K7:mg "range" = none):aJ P w K mg base (CX1 P w) 1 f fd ["count", "size"] (aK K (qw κ)):=by
 refine aw.okN F fY (by walk_at "l") fun Lv A outer s H E hr=>⟨_,(ah (aC 2 fY.nd (de (aa (de af) af))) (ah (bu PassesOwn.never rfl (cn (by rfl) K7 (aa (dv 1) af)) (aP 3 fY.nd) (ah (jM 4 fY.nd af) (ah (bu PassesOwn.never rfl (aZ (dv 2)) (aP 5 fY.nd) (ah (aC 6 fY.nd (pV (aB lY (dv 3) ae) (ao aQ (ai (dv 5) (cg ae)) ae) ae)) (aj (ua 4 (cw (by rfl) (by exact bA (osc:=ak oZ) (xs:=["number"]) (ns:=["pick"]) (by decide +kernel)) (bf.cons 5 bf.nil) (j7 (by rfl) K7 (aa (dv 6) (aa (dv 0) af))) (fun _ _ _ _ _=>bR) (fun _ _ _ _ _=>(ao aQ (dv 1) (de (aa (dv 0) af))))))))) (dj 4 (aj (aC 2 fY.nd (dv 4))))))) (aj (au (dv 2))))),?_⟩
 rintro ds Q Ed ⟨n,s,rfl,h⟩;walk_at "s";unfold lZ at h;obtain⟨m,t,rfl,rfl,hm,ht,h⟩:=h;have sz:∀j,j<=3->(L7 m j).length<=216000:=fun j hj=>NW (sJ m j) (NW (Nat.pow_le_pow_left hm j) (NW (Uw (by decide) hj) (by decide)))
 walk_at "x";refine⟨MK _,by rw[sizeLine_eq];decide,?_⟩;refine PD.aV (List.range' 0 t) (fun(k:Nat)=>D.int (k:Int)) (fun j ρ=>∃v3 v4 v5 v6:Option Sl,ρ=[some (.val (.int m)),some (.val (.int t)),some (.val (.lst true ((L7 m j).map Np))),v3,v4,v5,v6]) (fun R q=>?_) ⟨none,none,none,none,rfl⟩ ?_ ?_
 ·walk_at "x";rw[jQ];exact⟨⟨by lia,by lia⟩,q⟩
 ·rintro j x Ld hx ⟨v3,v4,v5,v6,rfl⟩;obtain⟨hj,ex⟩:=L6.mp hx;rw[Nf]at hj;rw[Ri]at ex;have ex':x=j:=by lia
  subst ex';walk_at "x";refine⟨MK _,?_⟩;refine PD.yB (L7 m x) Np (fun done ρ=>∃v5 v6:Option Sl,ρ=[some (.val (.int m)),some (.val (.int t)),some (.val (.lst true ((L7 m x).map Np))),some (.val (.int x)),some (.own ((done.flatMap (O2 m)).map Np)),v5,v6]) (fun R q=>?_) ⟨_,_,rfl⟩ ?_ ?_
  ·walk_at "x";exact q
  ·rintro done pk ρ2 hpk MR ⟨v5,v6,rfl⟩;obtain⟨hlen,hlt'⟩:=gn hpk;have hf:dm pk<=m:=by
    unfold dm;cases e:pk.getLast? with
    |none=>exact MK _
    |some l=>have:=hlt' l (List.mem_of_getLast? e);exact this
   have dl:done.length*m<=216000*60:=Nat.mul_le_mul (NW (QK MR) (sz x (by lia))) hm;have fl:=vU m done;have nl:(O2 m pk).length<=60:=by unfold O2;rw[K8,Nf];lia
   have rest:∀(v:D) (Qd:D->Prop),v=.int (dm pk)->Qd (.lst true ((O2 m pk).map Np))->oA (zO (qO (kA 6) (qO (kA 0) zM))) [5] pU (VS uU (kA 1) (C8 (qO (kA 0) zM))) [some (.val (.int m)),some (.val (.int t)),some (.val (.lst true ((L7 m x).map Np))),some (.val (.int x)),some (.own ((done.flatMap (O2 m)).map Np)),some (.val (Np pk)),some (.val v)] Qd:=by
    rintro v Qd rfl hQ;refine PD.comp_map (List.range' (dm pk) (m - dm pk)) (fun(k:Nat)=>D.int (k:Int)) (fun _=>true) (fun k=>Np (pk++[k])) (fun R q=>?_) (by rw[Nf,sizeLine_eq];lia) (fun k hk K hK=>?_) (fun k hk _ K hK=>?_) ?_
    ·walk_at "x";rw[oW];exact⟨⟨by lia,by lia⟩,⟨by lia,by lia⟩,q⟩
    ·walk_at "x";exact hK
    ·unfold Np at hK ⊢;walk_at "x";rw[M6]at hK;refine⟨VW _,?_,hK⟩;rw[K8,sizeLine_eq,hlen];show x+1<=_
     lia
    ·rw[Pe.mpr (fun _ _=>rfl)];unfold O2 at hQ;rw[MJ]at hQ;exact hQ
   have end_:∀v:D,∃xs,D.lst true ((O2 m pk).map Np)=D.lst true xs/\(List.map Np (List.flatMap (O2 m) done)).length+xs.length<=sizeLine/\∃v5 v6:Option Sl,([some (Sl.val (D.int m)),some (Sl.val (D.int t)),some (Sl.val (D.lst true (List.map Np (L7 m x)))),some (Sl.val (D.int x)),some (Sl.own (List.map Np (List.flatMap (O2 m) done)++xs)),some (Sl.val (Np pk)),some (Sl.val v)]:Ro)=[some (Sl.val (D.int m)),some (Sl.val (D.int t)),some (Sl.val (D.lst true (List.map Np (L7 m x)))),some (Sl.val (D.int x)),some (Sl.own (List.map Np (List.flatMap (O2 m) (done++[pk])))),v5,v6]:=fun v =>
    ⟨_,rfl,by rw[K8,K8,sizeLine_eq];lia,_,_,by rw[List.flatMap_append,M6,List.flatMap_singleton]⟩
   walk_at "x";by_cases XX:x=0
   ·subst XX;have:pk=[]:=Vp hlen;subst this;rw[K3 (by lia)];exact rest _ _ rfl (end_ _)
   ·rw[K4 (by lia)];have LV:pk ≠ []:=fun e=>XX (by rw[<- hlen,e];rfl)
    show sS (.lst true (pk.map fun(k:Nat)=>D.int (k:Int))) _ _;rw[ql];refine Fc LV ?_;rw[AR];exact rest _ _ (by congr 1;lia) (end_ _)
  ·rintro ρ2 ⟨v5,v6,rfl⟩;walk_at "x";exact⟨_,_,_,_,rfl⟩
 ·rintro Ld ⟨v3,v4,v5,v6,rfl⟩;walk_at "x";rw[Nf];exact h
def DW (F:aw K "value" "value" tu f fd) (C:Ml K mg κ)    : aJ P w K mg base (CX1 P w) 1 f fd ["gauge", "place"] (aK K (qz κ)):=by
 refine aw.okN F Ek (by walk_at "l") fun Lv A outer s H E hr=>⟨_,(aj (au (ao aQ (ao aQ (ao aA (ai (dv 0) ae) (ai (dv 1) ae)) (ao aA (ai (dv 0) ae) (ai (dv 1) ae))) (ao aA (ai (dv 0) ae) (ai (dv 1) ae))))),?_⟩
 rintro ds Q Ed ⟨g0,g1,g2,p0,p1,p2,rfl,h⟩;walk_at "s";unfold l6 at h;obtain⟨h0,h1,h2,k0,k1,k2,h⟩:=h;have cm:∀{x y:Int},Bd 1000 x->Bd 1000 y->CM x y:=fun hx hy=>.inr (.inr ⟨hx.mono (by decide),hy.mono (by decide)⟩)
 walk_at "x";exact⟨cm h0 k0,cm h1 k1,cm h2 k2,h⟩
def Ga (F:aw K "side" "side" wX f fd) (C:Ml K mg κ)  (QE:G6 P w K mg base κ) (MV:ya P w K mg base κ)  : aJ P w K mg base (CX1 P w) 2 f fd ["gauge", "place"] (aK K (ip κ)):=by
 refine aw.okN F GG (by walk_at "l") fun Lv A outer s H E hr=>⟨_,(aj (au (aq QE hr (aa (aq MV hr (aa (dv 0) (aa (dv 1) af))) af)))),?_⟩
 rintro ds Q Ed ⟨g0,g1,g2,p0,p1,p2,rfl,h⟩;walk_at "s";unfold hJ at h;obtain⟨h0,h1,h2,k0,k1,k2,h⟩:=h;walk_at "x";exact⟨h0,h1,h2,k0,k1,k2,h⟩
def uI (F:aw K "with_share" "with_share" jW f fd) (C:Ml K mg κ)    : aJ P w K mg base (CX1 P w) 1 f fd ["gauge", "other", "share"] (aK K (fR κ)):=by
 refine aw.okN F uJ (by walk_at "l") fun Lv A outer s H E hr=>⟨_,(aj (au (bL (aa (ao aQ (ai (dv 0) ae) (ao aA (ai (dv 1) ae) (dv 2))) (aa (ao aQ (ai (dv 0) ae) (ao aA (ai (dv 1) ae) (dv 2))) (aa (ao aQ (ai (dv 0) ae) (ao aA (ai (dv 1) ae) (dv 2))) af)))))),?_⟩
 rintro ds Q Ed ⟨a0,a1,a2,b0,b1,b2,s,rfl,h⟩;walk_at "s";unfold dG at h;obtain⟨A,B,hs,h⟩:=h;walk_at "x";exact⟨NM B.c hs,NM B.a hs,NM B.b hs,Ra _ _ _,h⟩
def Ah (F:aw K "crossed" "crossed" nK f fd) (C:Ml K mg κ)    : aJ P w K mg base (CX1 P w) 1 f fd ["one", "other"] (aK K (jw κ)):=by
 refine aw.okN F Ar (by walk_at "l") fun Lv A outer s H E hr=>⟨_,(aj (au (bL (aa (ao bG (ao aA (ai (dv 0) ae) (ai (dv 1) ae)) (ao aA (ai (dv 1) ae) (ai (dv 0) ae))) (aa (ao bG (ao aA (ai (dv 0) ae) (ai (dv 1) ae)) (ao aA (ai (dv 1) ae) (ai (dv 0) ae))) (aa (ao bG (ao aA (ai (dv 0) ae) (ai (dv 1) ae)) (ao aA (ai (dv 1) ae) (ai (dv 0) ae))) af)))))),?_⟩
 rintro ds Q Ed ⟨a0,a1,a2,b0,b1,b2,rfl,h⟩;walk_at "s";unfold gE at h;obtain⟨h0,h1,h2,k0,k1,k2,h⟩:=h;have cm:∀{x y:Int},Bd 200 x->Bd 200 y->CM x y:=fun hx hy=>.inr (.inr ⟨hx.mono (by decide),hy.mono (by decide)⟩)
 walk_at "x";exact⟨cm h1 k2,cm k1 h2,cm h2 k0,cm k2 h0,cm h0 k1,cm k0 h1,Ra _ _ _,h⟩
def BQ (F:aw K "facing" "facing" qo f fd) (C:Ml K mg κ)    : aJ P w K mg base (CX1 P w) 1 f fd ["place", "way"] (aK K (cU κ)):=by
 refine aw.okN F Cd (by walk_at "l") fun Lv A outer s H E hr=>⟨_,(aj (au (bL (aa (cg (ao aQ (ao aA (ai (dv 1) ae) (ai (dv 0) ae)) (ao aA (ai (dv 1) ae) (ai (dv 0) ae)))) (aa (ao aA (ai (dv 1) ae) (ai (dv 0) ae)) (aa (ao aA (ai (dv 1) ae) (ai (dv 0) ae)) af)))))),?_⟩
 rintro ds Q Ed ⟨p0,p1,p2,w,rfl,h⟩;walk_at "s";unfold iI at h;obtain⟨h0,h1,h2,hw,h⟩:=h;unfold Ll;walk_at "x";exact⟨NM hw.x h1,NM hw.y h2,NM hw.x h0,NM hw.y h0,Ra _ _ _,h⟩
def DU (F:aw K "place" "place" tj f fd) (C:Ml K mg κ)  (N3:AN P w K mg base κ)  : aJ P w K mg base (CX1 P w) 3 f fd ["by", "x", "y"] (aK K (qy κ)):=by
 refine aw.okN F Ei (by walk_at "l") fun Lv A outer s H E hr=>⟨_,(ah (aR (aB cu (dv 0) ae) (aj pX) aE) (aj (au (aq N3 hr (aa (bL (aa (dv 0) (aa (dv 1) (aa (dv 2) af)))) (aa (dv 0) af)))))),?_⟩
 rintro ds Q Ed ⟨b,x,y,rfl,h⟩;walk_at "s";unfold l4 at h;obtain⟨hb,h0,h1,h2,h⟩:=h;walk_at "x";rw[K3 hb];exact⟨Ra _ _ _,fun z=>hb z.1,h0,h1,h2,h⟩
def xP (F:aw K "place_of" "place_of" mh f fd) (C:Ml K mg κ)    : aJ P w K mg base (CX1 P w) 1 f fd ["spot"] (aK K (kP κ)):=by
 refine aw.okN F xT (by walk_at "l") fun Lv A outer s H E hr=>⟨_,(aj (au (bL (aa ae (aa (ai (dv 0) ae) (aa (ai (dv 0) ae) af)))))),?_⟩
 rintro ds Q Ed ⟨d,rfl,h⟩;walk_at "s";unfold iA at h;obtain⟨p,rfl,q⟩:=h;unfold Ll;walk_at "x";exact⟨Ra _ _ _,q⟩
def DV (F:aw K "swing" "swing" tq f fd) (C:Ml K mg κ)    : aJ P w K mg base (CX1 P w) 1 f fd ["one", "two", "three"] (aK K (my κ)):=by
 refine aw.okN F Ej (by walk_at "l") fun Lv A outer s H E hr=>⟨_,(aj (au (ao aQ (ao aQ (ao aA (ai (dv 0) ae) (ao bG (ao aA (ai (dv 1) ae) (ai (dv 2) ae)) (ao aA (ai (dv 2) ae) (ai (dv 1) ae)))) (ao aA (ai (dv 1) ae) (ao bG (ao aA (ai (dv 2) ae) (ai (dv 0) ae)) (ao aA (ai (dv 0) ae) (ai (dv 2) ae))))) (ao aA (ai (dv 2) ae) (ao bG (ao aA (ai (dv 0) ae) (ai (dv 1) ae)) (ao aA (ai (dv 1) ae) (ai (dv 0) ae))))))),?_⟩
 rintro ds Q Ed ⟨a0,a1,a2,b0,b1,b2,c0,c1,c2,rfl,h⟩;walk_at "s";unfold jT at h;obtain⟨h0,h1,h2,k0,k1,k2,l0,l1,l2,h⟩:=h;have cm:∀{x y:Int},Bd 1000 x->Bd 1000 y->CM x y:=fun hx hy=>.inr (.inr ⟨hx.mono (by decide),hy.mono (by decide)⟩)
 have c3:∀{x p q r s:Int},Bd 1000 x->Bd 1000 p->Bd 1000 q->Bd 1000 r->Bd 1000 s->CM x (p*q - r*s):=fun hx hp hq hr hs=>.inr (.inr ⟨hx.mono (by decide),((hp.mul hq).sub (hr.mul hs)).mono (by decide)⟩)
 walk_at "x";exact⟨cm k1 l2,cm l1 k2,c3 h0 k1 l2 l1 k2,cm l1 h2,cm h1 l2,c3 k0 l1 h2 h1 l2,cm h1 k2,cm k1 h2,c3 l0 h1 k2 k1 h2,h⟩
def DN (F:aw K "arrow" "arrow" sW f fd) (C:Ml K mg κ)    : aJ P w K mg base (CX1 P w) 1 f fd ["one", "other"] (aK K (jY κ)):=by
 refine aw.okN F Eh (by walk_at "l") fun Lv A outer s H E hr=>⟨_,(aj (au (bL (aa (ao bG (ao aA (ai (dv 0) ae) (ai (dv 1) ae)) (ao aA (ai (dv 1) ae) (ai (dv 0) ae))) (aa (ao bG (ao aA (ai (dv 0) ae) (ai (dv 1) ae)) (ao aA (ai (dv 1) ae) (ai (dv 0) ae))) af))))),?_⟩
 rintro ds Q Ed ⟨a0,a1,a2,b0,b1,b2,rfl,h⟩;walk_at "s";unfold gZ at h;obtain⟨h0,h1,h2,k0,k1,k2,h⟩:=h;walk_at "x";exact⟨NM h0 k1,NM k0 h1,NM h0 k2,NM k0 h2,Rb _ _,h⟩
def Gd (F:aw K "turn" "turn" wZ f fd) (C:Ml K mg κ)    : aJ P w K mg base (CX1 P w) 1 f fd ["one", "other"] (aK K (tK κ)):=by
 refine aw.okN F GI (by walk_at "l") fun Lv A outer s H E hr=>⟨_,(aj (au (ao bG (ao aA (ai (dv 0) ae) (ai (dv 1) ae)) (ao aA (ai (dv 1) ae) (ai (dv 0) ae))))),?_⟩
 rintro ds Q Ed ⟨a,b,rfl,h⟩;walk_at "s";unfold oY at h;obtain⟨ha,hb,h⟩:=h;unfold Ll;walk_at "x";exact⟨NM ha.x hb.y,NM hb.x ha.y,h⟩
def F7 (F:aw K "back" "back" wW f fd) (C:Ml K mg κ)    : aJ P w K mg base (CX1 P w) 1 f fd ["way"] (aK K (lB κ)):=by
 refine aw.okN F GF (by walk_at "l") fun Lv A outer s H E hr=>⟨_,(aj (au (bL (aa (cg (ai (dv 0) ae)) (aa (cg (ai (dv 0) ae)) af))))),?_⟩
 rintro ds Q Ed ⟨w,rfl,h⟩;walk_at "s";unfold jG at h;unfold Ll at h ⊢;walk_at "x";exact⟨Rb _ _,h⟩
def Aj (F:aw K "left_of" "left_of" nM f fd) (C:Ml K mg κ)    : aJ P w K mg base (CX1 P w) 1 f fd ["way"] (aK K (jx κ)):=by
 refine aw.okN F As (by walk_at "l") fun Lv A outer s H E hr=>⟨_,(aj (au (bL (aa (cg (ai (dv 0) ae)) (aa (ai (dv 0) ae) af))))),?_⟩
 rintro ds Q Ed ⟨w,rfl,h⟩;walk_at "s";unfold gH at h;unfold Ll at h ⊢;walk_at "x";exact⟨Rb _ _,h⟩
def DQ (F:aw K "chain" "chain" sZ f fd) (C:Ml K mg κ)  (Py:E7 P w K mg base κ) (K5:mg "len" = none):aJ P w K mg base (CX1 P w) 2 f fd ["places"] (aK K (qu κ)):=by
 refine aw.okN F qq (by walk_at "l") fun Lv A outer s H E hr=>⟨_,(ah (jM 1 qq.nd af) (ah (bu PassesOwn.never rfl (aZ (dv 0)) (aP 2 qq.nd) (ah (lQ PassesOwn.never (Fq 1 (vQ (aB lY (aD aS (by rfl) K5 Nh (aa (dv 1) af)) ae) (sC (aB uT (aq Py hr (aa (ai (dv 1) (cg ae)) (aa (ai (dv 1) (cg ae)) (aa (dv 2) af)))) ae))).pt) (aj (HM 1))) (aj (eG 1 (dv 2))))) (dj 1 (aj (au (dv 1)))))),?_⟩
 rintro ds Q Ed ⟨ps,rfl,h⟩;walk_at "s";unfold jS at h;obtain⟨hl,hb,h⟩:=h;walk_at "x";refine⟨MK _,?_⟩;refine PD.yB ps L3 (fun done ρ=>∃v:Option Sl,ρ=[some (.val (.lst false (ps.map L3))),some (.own ((bJ [] done).reverse.map L3)),v]/\(bJ [] done).length<=done.length/\∀p∈bJ [] done,SB p) ?_ ?_ ?_ ?_
 ·intro R hR;walk_at "x";exact hR
 ·exact⟨none,rfl,LG _,by simp[bJ]⟩
 ·rintro done x Ld hx MR ⟨v,rfl,hL,hS⟩;walk_at "x";refine⟨fun m ρ=>∃st:yat,ρ=[some (.val (.lst false (ps.map L3))),some (.own (st.reverse.map L3)),some (.val (L3 x))]/\m=st.length/\cB st x=cB (bJ [] done) x/\st.length<=done.length/\∀p∈st,SB p,⟨_,_,rfl,rfl,rfl,hL,hS⟩,?_⟩;rintro m ρ ⟨st,rfl,rfl,hp,hM,hB⟩;have stop:cB st x=st->((st.reverse.map L3).length<sizeLine/\∃v:Option Sl,([some (.val (.lst false (ps.map L3))),some (.own (st.reverse.map L3++[L3 x])),some (.val (L3 x))]:Ro)=[some (.val (.lst false (ps.map L3))),some (.own ((bJ [] (done++[x])).reverse.map L3)),v]/\(bJ [] (done++[x])).length<=(done++[x]).length/\∀p∈bJ [] (done++[x]),SB p):=fun e=>by
   have e2:bJ [] (done++[x])=x::st:=by rw[pE,<- hp,e]
   rw[e2];refine⟨by rw[K8,QX,sizeLine_eq];lia,_,by rw[UA,M6];rfl,by simp;lia,fun p hq=>?_⟩;rcases Lp.mp hq with z|z
   ·rw[z];exact hb x hx
   ·exact hB p z
  walk_at "x";rcases st with _|⟨b,_|⟨a,r⟩⟩
  ·rw[K3 (by simp)];exact stop rfl
  ·rw[K3 (by simp)];exact stop rfl
  ·rw[K4 (by simp;lia)];have eL:(b::a::r).reverse.map L3=r.reverse.map L3++[L3 a]++[L3 b]:=by simp
   have Ba:=hB a (by simp);have Bb:=hB b (by simp);have Bx:=hb x hx;have o1:Bd 1000 1:=by unfold Bd;decide
   refine⟨_,by rw[eL];exact AS _ _ _,_,by rw[eL];exact CW _ _,?_⟩
   try simp only[gg]
   show my κ [T3 1 a.1 a.2,T3 1 b.1 b.2,T3 1 x.1 x.2] _ _;rw[pN,jT];refine⟨o1,Ba.x.mono (by decide),Ba.y.mono (by decide),o1,Bb.x.mono (by decide),Bb.y.mono (by decide),o1,Bx.x.mono (by decide),Bx.y.mono (by decide),?_⟩;rw[eJ];refine⟨_,rfl,?_⟩;by_cases c:sw 1 a.1 a.2 1 b.1 b.2 1 x.1 x.2<=0
   ·have c':cr a b x<=0:=c;rw[K4 (by simpa using c)];refine⟨by simp,(a::r).length,by simp,a::r,?_,rfl,?_,?_,fun p hq=>hB p (L8 _ hq)⟩
    ·rw[eL,List.dropLast_concat];simp
    ·rw[<- hp];conv=>rhs;unfold cB
     rw[K4 c']
    ·simp at hM ⊢;lia
   ·have c':¬cr a b x<=0:=c;rw[K3 (by simpa using c)];exact stop (by unfold cB;rw[K3 c'])
 ·rintro Ld ⟨v,rfl,_⟩;walk_at "x";exact h
def F9 (F:aw K "hull" "hull" rH f fd) (C:Ml K mg κ)  (Ot:E5 P w K mg base κ) (Md:qJ P w K mg base κ) (K5:mg "len" = none) (OJ:mg "set" = none) (LU:mg "sorted" = none):aJ P w K mg base (CX1 P w) 3 f fd ["spots"] (aK K (lE κ)):=by
 refine aw.okN F yW (by walk_at "l") fun Lv A outer s H E hr=>⟨_,(ah (gA 1 yW.nd (by rfl) (by exact bA (osc:=ak rH) (xs:=["spot"]) (ns:=[]) (by decide +kernel)) bf.nil (aZ ((zR rfl (by exact Il hr) (by rfl) LU (by rfl) OJ (dv 0))).SA) (fun _ _ _ _ _=>bR) (fun _ _ _ _ _=>(aq Md hr (aa (dv 0) af)))) (ah (aR (aB cK (aD aS (by rfl) K5 Nh (aa (dv 1) af)) ae) (aj (au (dv 1))) aE) (aj (au (ao aQ ((pW (aq Ot hr (aa (dv 1) af)) eS (jC (cg ae)))).SA ((pW (aq Ot hr (aa ((HI (dv 1))).SA af)) eS (jC (cg ae)))).SA))))),?_⟩
 rintro ds Q Ed ⟨ps,rfl,h⟩;walk_at "s";unfold jH at h;obtain⟨hl,hb,h⟩:=h;walk_at "x";refine vz (P:=fun ys=>cJ ys ps/\ys.length<=ps.length) Ll L3 (fun R hR=>?_) (fun ys hy=>by rw[sizeLine_eq];lia) (fun ys hy x hx K k=>?_) fun ys hy=>?_
 ·refine⟨false,ps.map Ry,by rw[EX],by rw[K8];lia,fun k hk=>?_,fun zs hz=>?_⟩
  ·obtain⟨p,_,e⟩:=LR.mp hk;rw[<- e];exact List.cons_ne_nil _ _
  ·obtain⟨ys,rfl,hy⟩:=B7 hz;rw[<- EX];exact⟨true,_,rfl,hR ys ⟨hy,qk hy⟩⟩
 ·walk_at "x";exact⟨x,ir x,k⟩
 ·have ly:=hy.2;have bs:∀p∈ys,SB p:=fun p hp=>hb p ((hy.1.2 p).mp hp)
  have hQ:=h ys hy.1 hy.2;have l1:=fV [] ys;have l2:=fV [] ys.reverse;simp only[List.length_nil,QX]at l1 l2;unfold aO at hQ;walk_at "x";rw[K8];split
  ·rename_i c;rw[K4 (by lia)]at hQ;exact hQ
  ·rename_i c;rw[K3 (by lia)]at hQ;refine⟨by lia,bs,?_⟩;rw[<- List.map_reverse,mE,pM,jS];refine⟨by rw[QX];lia,fun p hp=>bs p (List.mem_reverse.mp hp),true,_,rfl,?_⟩;rw[vD,vD];refine⟨?_,?_⟩
   ·rw[RE,RE,K8,K8,QX,QX,sizeLine_eq];lia
   ·rw[<- List.map_dropLast,<- List.map_dropLast,<- M6];exact hQ
def sR (F:aw K "thin_bounds" "thin_bounds" i6 f fd) (C:Ml K mg κ)  (Nl:xZ P w K mg base κ) (Pz:G3 P w K mg base κ) (MN:CK P w K mg base κ) (N4:AL P w K mg base κ)  : aJ P w K mg base (CX1 P w) 2 f fd ["one", "other"] (aK K (iq κ)):=by
 refine aw.okN F h8 (by walk_at "l") fun Lv A outer s H E hr=>⟨_,(ah (aC 2 h8.nd (pV (aB (EU (by exact hr.units)) (dv 0) (dv 1)) (aq Nl hr (aa (dv 0) (aa (dv 1) af))) (bL (aa ae (aa ae af))))) (ah (aC 3 h8.nd (aq N4 hr (aa (dv 2) af))) (aj (au (de (aa (aq MN hr (aa (dv 0) (aa (dv 2) af))) (aa (aq MN hr (aa (dv 1) (aa (aq Pz hr (aa (dv 2) af)) af))) (aa (aq MN hr (aa (dv 0) (aa (dv 3) af))) (aa (aq MN hr (aa (dv 0) (aa (aq Pz hr (aa (dv 3) af)) af))) af))))))))),?_⟩
 rintro ds Q Ed ⟨a,b,rfl,h⟩;walk_at "s";unfold dg at h;obtain⟨ha,hb,h⟩:=h;have o1:Bd 200 1:=by unfold Bd;decide
 have fc:∀(p w:Sp) (K:D->Prop),SB p->WB 62 w->K (Lm (bX p w))->cU κ [L3 p,Ll w] K fun _=>False:=fun p w K hp hw hK=>by show cU κ [T3 1 p.1 p.2,Ll w] K _;rw[nY,iI];exact⟨o1,hp.x.mono (by decide),hp.y.mono (by decide),hw.mono (by decide),hK⟩
 have bkB:∀{w:Sp},WB 62 w->WB 62 (P8 w):=fun hw=>⟨jL hw.x,jL hw.y⟩
 have lfB:∀{w:Sp},WB 62 w->WB 62 (Pd w):=fun hw=>⟨jL hw.y,hw.x⟩
 have all:∀w:Sp,WB 62 w->Q (.lst true ([bX a w,bX b (P8 w),bX a (Pd w),bX a (P8 (Pd w))].map Lm))->jx κ [Ll w] (fun d_1=>cU κ [L3 a,Ll w] (fun x=>lB κ [Ll w] (fun x_1=>cU κ [L3 b,aL x_1] (fun x_2=>cU κ [L3 a,aL d_1] (fun x_3=>lB κ [aL d_1] (fun x_4=>cU κ [L3 a,aL x_4] (fun x_5=>[x,x_2,x_3,x_5].length<=sizeLine/\Q (D.lst true [x,x_2,x_3,x_5])) fun _=>False) fun _=>False) fun _=>False) fun _=>False) fun _=>False) fun _=>False) fun _=>False:=fun w hw hQ=>by rw[mO,gH];refine fc a w _ ha hw ?_;rw[mj,jG,ir];refine fc b _ _ hb (bkB hw) ?_;rw[ir];refine fc a _ _ ha (lfB hw) ?_;rw[mj,jG,ir];exact fc a _ _ ha (bkB (lfB hw)) ⟨sz4 _ _ _ _,hQ⟩
 unfold dD aM at h;walk_at "x";refine⟨(BN a).ok,(BN b).ok,?_⟩;by_cases c:a=b
 ·rw[K4 c]at h;rw[K3 (by rw[c,fT];simp)];exact⟨Rb _ _,all (1,0) ⟨by unfold Bd;decide,by unfold Bd;decide⟩ h⟩
 ·rw[K3 c]at h;rw[K4 (by rw[HU];simpa using c)];show jY κ [T3 1 a.1 a.2,T3 1 b.1 b.2] _ _;rw[kH,gZ];refine⟨o1,ha.x.mono (by decide),ha.y.mono (by decide),o1,hb.x.mono (by decide),hb.y.mono (by decide),?_⟩;have ab:=CT ha hb;unfold aM at ab;rw[K3 c]at ab;exact all (1*b.1 - 1*a.1,1*b.2 - 1*a.2) ab h
def BO (F:aw K "bounds" "bounds" l7 f fd) (C:Ml K mg κ)  (N5:AI P w K mg base κ) (ME:uD P w K mg base κ) (K5:mg "len" = none) (K7:mg "range" = none):aJ P w K mg base (CX1 P w) 3 f fd ["corners"] (aK K (nU κ)):=by
 refine aw.okN F Cc (by walk_at "l") fun Lv A outer s H E hr=>⟨_,(ah (aR (aB cK (aD aS (by rfl) K5 Nh (aa (dv 0) af)) ae) (aj (au (aq ME hr (aa (ai (dv 0) ae) (aa (ai (dv 0) (cg ae)) af))))) aE) (aj (au (cw (by rfl) (by exact bA (osc:=ak l7) (xs:=["index"]) (ns:=["corners"]) (by decide +kernel)) (bf.cons 0 bf.nil) (cn (by rfl) K7 (aa (aD aS (by rfl) K5 Nh (aa (dv 0) af)) af)) (fun _ _ _ _ _=>bR) (fun _ _ _ _ _=>(aq N5 hr (aa (ai (dv 1) (ao bG (dv 0) ae)) (aa (ai (dv 1) (dv 0)) af)))))))),?_⟩
 rintro ds Q Ed ⟨hs,rfl,h⟩;walk_at "s";unfold iG at h;obtain⟨h0,hl,hb,h⟩:=h;unfold aG at h;have gt:∀i,i<hs.length->hs[i]?=some (hs.getD i (0,0)):=fun i hi=>by rw[Mf,LM hi];rfl
 have gm:∀i,i<hs.length->SB (hs.getD i (0,0)):=fun i hi=>hb _ (Mz (gt i hi))
 walk_at "x";rw[K8];by_cases c:hs.length<3
 ·rw[K4 (by lia)];rw[K4 c]at h;refine⟨_,aU (j:=0) (by rw[LZ,gt 0 h0];rfl),_,tS (by rw[K8];exact h0) (by rw[K8,LZ,gt _ (by lia)];rfl),?_⟩;rw[gg,gg,jb,dg];exact⟨gm 0 h0,gm _ (by lia),h⟩
 ·rw[K3 (by lia)];rw[K3 c]at h;refine PD.comp_map (List.range' 0 hs.length) (fun(k:Nat)=>D.int (k:Int)) (fun _=>true) (fun k=>Lm (eA (bI hs k) (hs.getD k (0,0)))) (fun R q=>?_) (by rw[Nf,sizeLine_eq];lia) (fun k hk K hK=>?_) (fun k hk _ K hK=>?_) ?_
  ·walk_at "x";rw[K8,jQ];exact⟨⟨by lia,by lia⟩,q⟩
  ·walk_at "x";exact hK
  ·have Rz:k<hs.length:=by rw[Rj]at hk;lia
   have m1:(k+hs.length - 1) % hs.length<hs.length:=Rr _ h0;have Pc:Mm (hs.map L3) ((k:Int) - 1)=some (L3 (bI hs k)):=by have:=vf (hs.map L3) k 1 (by rw[K8];exact Rz) (by rw[K8];exact h0);rw[K8,LZ,gt _ m1]at this;exact this
   have U1:Mm (hs.map L3) (k:Int)=some (L3 (hs.getD k (0,0))):=aU (by rw[LZ,gt k Rz];rfl);have B1:SB (bI hs k):=gm _ m1;have B0:=gm k Rz;have o1:Bd 200 1:=by unfold Bd;decide
   walk_at "x";refine⟨_,Pc,_,U1,?_⟩;rw[gg,gg];show jw κ [T3 1 (bI hs k).1 (bI hs k).2,T3 1 (hs.getD k (0,0)).1 (hs.getD k (0,0)).2] _ _;rw[mM,gE];exact⟨o1,B1.x.mono (by decide),B1.y.mono (by decide),o1,B0.x.mono (by decide),B0.y.mono (by decide),hK⟩
  ·rw[Pe.mpr (fun _ _=>rfl)];rw[MJ]at h;exact h
def BR (F:aw K "length" "length" qp f fd) (C:Ml K mg κ)   (Mt:mg "abs" = none):aJ P w K mg base (CX1 P w) 1 f fd ["way"] (aK K (nZ κ)):=by
 refine aw.okN F Ce (by walk_at "l") fun Lv A outer s H E hr=>⟨_,(aj (au (ao aQ (aD mX (by rfl) Mt boot_abs (aa (ai (dv 0) ae) af)) (aD mX (by rfl) Mt boot_abs (aa (ai (dv 0) ae) af))))),?_⟩
 rintro ds Q Ed ⟨w,rfl,h⟩;walk_at "s";unfold kf at h;unfold Ll;walk_at "x";exact h
def rA (F:aw K "are_opposite" "are_opposite" hU f fd) (C:Ml K mg κ)  (Nc:AO P w K mg base κ)  : aJ P w K mg base (CX1 P w) 2 f fd ["one", "other"] (aK K (gM κ)):=by
 refine aw.okN F rJ (by walk_at "l") fun Lv A outer s H E hr=>⟨_,(aj (au (iC (dE cu (aq Nc hr (aa (dv 0) (aa (dv 1) af))) ae) (kT (dE cK (ao aQ (ao aA (ai (dv 0) ae) (ai (dv 1) ae)) (ao aA (ai (dv 0) ae) (ai (dv 1) ae))) ae))))),?_⟩
 rintro ds Q Ed ⟨a,b,rfl,h⟩;walk_at "s";unfold d5 at h;obtain⟨ha,hb,h⟩:=h;walk_at "x";refine⟨ha,hb,?_⟩;by_cases c:tn a b=0
 ·rw[K4 c];unfold Ll;walk_at "x";refine⟨NM ha.x hb.x,NM ha.y hb.y,?_⟩;have e:decide (tn a b=0/\LB a b<0)=decide (a.1*b.1+a.2*b.2<0):=by
   rw[decide_eq_decide];exact⟨fun q=>q.2,fun q=>⟨c,q⟩⟩
  rw[e]at h;exact h
 ·rw[K3 c];rw[Q1 (fun q=>c q.1)]at h;exact h
def o8 (F:aw K "balance_of_two" "balance_of_two" fW f fd) (C:Ml K mg κ)  (Mu:r9 P w K mg base κ) (Mv:uZ P w K mg base κ) (MP:u0 P w K mg base κ)  : aJ P w K mg base (CX1 P w) 3 f fd ["one", "other"] (aK K (fy κ)):=by
 refine aw.okN F pf (by walk_at "l") fun Lv A outer s H E hr=>⟨_,(ah (aR (bK (bE (aq Mu hr (aa (dv 0) (aa (dv 1) af))))) (aj (au ng)) aE) (aj (au (aq MP hr (aa (de (aa (aq Mv hr (aa (dv 1) af)) (aa (aq Mv hr (aa (dv 0) af)) af))) af))))),?_⟩
 rintro ds Q Ed ⟨a,b,rfl,h⟩;walk_at "s";unfold cZ at h;obtain⟨ha,hb,h⟩:=h;walk_at "x";refine⟨ha,hb,?_⟩;unfold ky at h;split
 ·rename_i c;rw[K4 c]at h;have na:a≠(0,0):=fun e=>by have:=c.2;rw[e]at this;unfold LB at this;simp at this
  have la:=jO na;have ba:Bd 402 (br a):=oO ha;have bb:Bd 402 (br b):=oO hb;refine⟨Rb _ _,?_⟩;show iN κ [D.lst false ([br b,br a].map D.int)] _ _;rw[j2,gr];have g:=FE (d:=br b) (x:=br a) (by lia);exact⟨by simp,by show((Int.gcd ((Int.gcd 0 (br b):Nat):Int) (br a):Nat):Int)≠0;lia,Dl ba (by lia),h⟩
 ·rename_i c;rw[K3 c]at h;exact h
def mQ (F:aw K "balance_of_three" "balance_of_three" cT f fd) (C:Ml K mg κ)  (MP:u0 P w K mg base κ) (Nc:AO P w K mg base κ) (OK:mg "max" = none) (OL:mg "min" = none):aJ P w K mg base (CX1 P w) 3 f fd ["one", "two", "three"] (aK K (dY κ)):=by
 refine aw.okN F dW (by walk_at "l") fun Lv A outer s H E hr=>⟨_,(ah (aC 3 dW.nd (de (aa (aq Nc hr (aa (dv 1) (aa (dv 2) af))) (aa (aq Nc hr (aa (dv 2) (aa (dv 0) af))) (aa (aq Nc hr (aa (dv 0) (aa (dv 1) af))) af))))) (ah (aR (aB cK (aD (Fg rfl) (by rfl) OK boot_max (aa (dv 3) af)) ae) (aj (gA 3 dW.nd (by rfl) (by exact bA (osc:=ak cT) (xs:=["each"]) (ns:=[]) (by decide +kernel)) bf.nil (aZ (dv 3)) (fun _ _ _ _ _=>bR) (fun _ _ _ _ _=>(cg (dv 0))))) aE) (ah (aR (aB uT (aD (Fh rfl) (by rfl) OL boot_min (aa (dv 3) af)) ae) (aj (au ng)) aE) (aj (au (aq MP hr (aa (dv 3) af))))))),?_⟩
 rintro ds Q Ed ⟨a,b,e,rfl,h⟩;walk_at "s";unfold cL at h;obtain⟨ha,hb,he,h⟩:=h;have b1:Bd 801 (tn b e):=(hb.x.mul he.y).sub (he.x.mul hb.y);have b2:Bd 801 (tn e a):=(he.x.mul ha.y).sub (ha.x.mul he.y);have b3:Bd 801 (tn a b):=(ha.x.mul hb.y).sub (hb.x.mul ha.y);unfold iW at h;generalize e1:tn b e=x at *;generalize e2:tn e a=y at *;generalize e3:tn a b=z at *;have low:∀u v w:Int,Bd 801 w->0<w->Q (.lst true ((cW [u,v,w]).map D.int))->iN κ [D.lst false ([u,v,w].map D.int)] Q fun _=>False:=fun u v w bw pw q=>by
  rw[j2,gr];have LV:w≠0:=by lia
  have gp:0<Int.gcd ((Int.gcd ((Int.gcd 0 u:Nat):Int) v:Nat):Int) w:=Int.gcd_pos_iff.mpr (.inr LV);exact⟨by simp,by show((Int.gcd ((Int.gcd ((Int.gcd 0 u:Nat):Int) v:Nat):Int) w:Nat):Int)≠0;lia,(Bn bw LV).mono (by decide),q⟩
 walk_at "x";refine⟨hb,he,he,ha,ha,hb,?_⟩;rw[e1,e2,e3];refine⟨Ra _ _ _,.inr ⟨true,[x,y,z],rfl,by simp,fun m hm X4=>?_⟩⟩;have m1:=X4 x (by simp);have m2:=X4 y (by simp);have m3:=X4 z (by simp);have mm:m=x∨m=y∨m=z:=by simpa using hm
 split
 ·rename_i c;refine PD.comp_map [x,y,z] D.int (fun _=>true) (fun k=>.int (-k)) (fun R q=>?_) (by rw[sizeLine_eq];simp) (fun k hk K hK=>?_) (fun k hk _ K hK=>?_) ?_
  ·walk_at "x";exact q
  ·walk_at "x";exact hK
  ·walk_at "x";exact hK
  ·refine⟨true,[-x,-y,-z],rfl,by simp,fun n hn YS=>?_⟩;have nn:n=-x∨n=-y∨n=-z:=by simpa using hn
   rw[K3 (by lia)]at h ⊢;rw[K4 (by lia)]at h;exact low _ _ _ (jL b3) (by lia) h
 ·rename_i c;refine⟨true,[x,y,z],rfl,by simp,fun n hn YS=>?_⟩;have nn:n=x∨n=y∨n=z:=by simpa using hn
  have n1:=YS x (by simp);have n2:=YS y (by simp);have n3:=YS z (by simp);split
  ·rename_i d;rw[K3 (by lia),K3 (by lia)]at h;exact h
  ·rename_i d;rw[K4 (by lia)]at h;exact low _ _ _ b3 (by lia) h
def Af (F:aw K "balance" "balance" nJ f fd) (C:Ml K mg κ)  (LY:mT P w K mg base κ) (Me:pQ P w K mg base κ) (Mv:uZ P w K mg base κ) (K5:mg "len" = none):aJ P w K mg base (CX1 P w) 4 f fd ["ways"] (aK K (ml κ)):=by
 refine aw.okN F Aq (by walk_at "l") fun Lv A outer s H E hr=>⟨_,(ah (aR (aB cu (aD aS (by rfl) K5 Nh (aa (dv 0) af)) ae) (aj (au (pV (aB cu (aq Mv hr (aa (ai (dv 0) ae) af)) ae) (de (aa ae af)) ng))) aE) (ah (aR (aB cu (aD aS (by rfl) K5 Nh (aa (dv 0) af)) ae) (aj (au (aq Me hr (aa (ai (dv 0) ae) (aa (ai (dv 0) ae) af))))) aE) (aj (au (aq LY hr (aa (ai (dv 0) ae) (aa (ai (dv 0) ae) (aa (ai (dv 0) ae) af)))))))),?_⟩
 rintro ds Q Ed ⟨ws,rfl,h⟩;walk_at "s";unfold eW at h;obtain⟨h0,h3,hw,h⟩:=h;rcases ws with _|⟨a,_|⟨b,_|⟨e,_|⟨z,r⟩⟩⟩⟩
 ·simp at h0
 ·have h':Q (oL (lL a)):=h;unfold lL at h';walk_at "x";rw[K4 (by simp)];by_cases c:br a=0
  ·rw[K4 c]at h' ⊢;exact⟨VW _,h'⟩
  ·rw[K3 c]at h' ⊢;exact h'
 ·have h':Q (oL (ky a b)):=h;have a0:Mm [Ll a,Ll b] 0=some (Ll a):=aU (j:=0) rfl;have a1:Mm [Ll a,Ll b] 1=some (Ll b):=aU (j:=1) rfl;walk_at "x";rw[K3 (by simp),K4 (by simp)];exact⟨hw a (by simp),hw b (by simp),h'⟩
 ·have h':Q (oL (iW a b e)):=h;walk_at "x";rw[K3 (by simp),K3 (by simp)];exact⟨hw a (by simp),hw b (by simp),hw e (by simp),h'⟩
 ·simp at h3
  lia
def Ak (F:aw K "mixture" "mixture" iK f fd) (C:Ml K mg κ)  (Nl:xZ P w K mg base κ) (Mq:tP P w K mg base κ) (MW:x9 P w K mg base κ) (Md:qJ P w K mg base κ) (K5:mg "len" = none):aJ P w K mg base (CX1 P w) 5 f fd ["spots", "place"] (aK K (jy κ)):=by
 refine aw.okN F gL (by walk_at "l") fun Lv A outer s H E hr=>⟨_,(ah (aR (aB cu (aD aS (by rfl) K5 Nh (aa (dv 0) af)) ae) (aj pX) aE) (ah (aC 2 gL.nd (cw (by rfl) (by exact bA (osc:=ak iK) (xs:=["spot"]) (ns:=["place"]) (by decide +kernel)) (bf.cons 1 bf.nil) (aZ (dv 0)) (fun _ _ _ _ _=>bR) (fun _ _ _ _ _=>(aq Nl hr (aa (dv 1) (aa (aq Md hr (aa (dv 0) af)) af)))))) (ah (bu PassesOwn.never rfl (Br (bL (aa ae (aa ae (aa ae af))))) (aP 3 gL.nd) (aj (bu PassesOwn.never rfl (aZ (aq MW hr (aa (aD aS (by rfl) K5 Nh (aa (dv 0) af)) (aa (dv 3) af)))) (aP 4 gL.nd) (ah (aC 5 gL.nd (aq Mq hr (aa (cw (by rfl) (by exact bA (osc:=ak iK) (xs:=["number"]) (ns:=["ways"]) (by decide +kernel)) (bf.cons 2 bf.nil) (aZ (dv 4)) (fun _ _ _ _ _=>bR) (fun _ _ _ _ _=>(ai (dv 1) (dv 0)))) af))) (aj (aR (aB yK (dv 5) ng) (aj (au (bL (aa iD (aa (dv 4) (aa (dv 5) af)))))) aE)))))) (aj pX)))),?_⟩
 rintro ds Q Ed ⟨ps,h0,h1,h2,rfl,h⟩;walk_at "s";unfold gI at h;obtain⟨hz,hl,hb,hP,res,X5,h⟩:=h;have o1:Bd 200 1:=by unfold Bd;decide
 have X4:cq (ps.map (Lf (h0,h1,h2))) (cP ps.length)=cq (ps.map (Lf (h0,h1,h2))) (sU ps.length 0):=by rw[Ea]
 have wB:∀w∈ps.map (Lf (h0,h1,h2)),WB 400 w:=fun w hw=>by
  obtain⟨p,hp,rfl⟩:=LR.mp hw;have B:=hb p hp;refine⟨?_,?_⟩
  ·show Bd 400 (h0*p.1 - 1*h1);rw[O8];exact Bd.mono (m:=161) ((hP.b.mul B.x).sub hP.x) (by decide)
  ·show Bd 400 (h0*p.2 - 1*h2);rw[O8];exact Bd.mono (m:=161) ((hP.b.mul B.y).sub hP.y) (by decide)
 walk_at "x";rw[K8,K3 (by lia)];refine PD.comp_map ps Ll (fun _=>true) (fun p=>Ll (Lf (h0,h1,h2) p)) (fun R q=>?_) (by rw[sizeLine_eq];lia) (fun p hp K hK=>?_) (fun p hp _ K hK=>?_) ?_
 ·walk_at "x";exact q
 ·walk_at "x";exact hK
 ·have B:=hb p hp;walk_at "x";refine⟨p,rfl,?_⟩;show jY κ [T3 h0 h1 h2,T3 1 p.1 p.2] _ _;rw[kH,gZ];exact⟨hP.b.mono (by decide),hP.x.mono (by decide),hP.y.mono (by decide),o1,B.x.mono (by decide),B.y.mono (by decide),hK⟩
 rw[Pe.mpr (fun _ _=>rfl)];have em:ps.map (fun p=>Ll (Lf (h0,h1,h2) p))=(ps.map (Lf (h0,h1,h2))).map Ll:=by rw[MJ];rfl
 rw[em];have wl:(ps.map (Lf (h0,h1,h2))).length=ps.length:=K8 _;generalize ps.map (Lf (h0,h1,h2))=ws at *;refine PD.aV [1,2,3] (fun(k:Nat)=>D.int (k:Int)) (fun j ρ=>∃v3 v4 v5:Option Sl,ρ=[some (.val (.lst false (ps.map Ll))),some (.val (T3 h0 h1 h2)),some (.val (.lst true (ws.map Ll))),v3,v4,v5]/\cq ws (cP ps.length)=cq ws (sU ps.length j)) (fun R q=>?_) ⟨none,none,none,rfl,X4⟩ ?_ ?_
 ·walk_at "x";exact⟨Ra _ _ _,q⟩
 ·rintro j s Ld hj ⟨v3,v4,v5,rfl,hm⟩;have YT:j<3/\s=j+1:=by
   rcases j with _|_|_|j
   ·simp at hj;lia
   ·simp at hj;lia
   ·simp at hj;lia
   ·simp at hj
  obtain⟨YT,rfl⟩:=YT;rw[B8 _ YT]at hm;walk_at "x";refine PD.aV (L7 ps.length (j+1)) Np (fun i ρ=>∃v4 v5:Option Sl,ρ=[some (.val (.lst false (ps.map Ll))),some (.val (T3 h0 h1 h2)),some (.val (.lst true (ws.map Ll))),some (.val (.int ((j+1:Nat):Int))),v4,v5]/\cq ws (cP ps.length)=cq ws ((L7 ps.length (j+1)).drop i++sU ps.length (j+1))) (fun R q=>?_) ⟨v4,v5,rfl,hm⟩ ?_ ?_
  ·walk_at "x";exact⟨ps.length,j+1,by rw[K8],rfl,by lia,by lia,q⟩
  ·rintro i pk Ld hi ⟨v4,v5,rfl,hm⟩;obtain⟨SG,ei⟩:=L6.mp hi;rw[SH SG,ei,Od,BG]at hm;obtain⟨pl,pb⟩:=gn (Mz hi);have gt:∀k,k<ws.length->ws[k]?=some (ws.getD k (0,0)):=fun k hk=>by
    rw[Mf,LM hk];rfl
   walk_at "x";refine PD.comp_map pk (fun(k:Nat)=>D.int (k:Int)) (fun _=>true) (fun k=>Ll (ws.getD k (0,0))) (fun R q=>?_) (by rw[sizeLine_eq];lia) (fun k hk K hK=>?_) (fun k hk _ K hK=>?_) ?_
   ·unfold Np;walk_at "x";exact q
   ·walk_at "x";exact hK
   ·walk_at "x";exact⟨_,aU (by rw[LZ,gt k (by have:=pb k hk;lia)];rfl),hK⟩
   rw[Pe.mpr (fun _ _=>rfl)];have ep:pk.map (fun k=>Ll (ws.getD k (0,0)))=(O5 ws pk).map Ll:=by unfold O5;rw[MJ];rfl
   have lp:(O5 ws pk).length=j+1:=by unfold O5;rw[K8,pl]
   rw[ep,bo,gP,i7,eW];refine⟨by lia,by lia,fun w hw=>?_,?_⟩
   ·unfold O5 at hw;obtain⟨k,hk,rfl⟩:=LR.mp hw;exact wB _ (Mz (gt k (by have:=pb k hk;lia)))
   ·cases Vl:dR (O5 ws pk)with
    |none =>
     rw[Vl]at hm;rw[K3 (show¬iw (oL none)=false by decide)];exact⟨_,_,rfl,hm⟩
    |some sh =>
     rw[Vl]at hm;have TF:cq ws (cP ps.length)=some (pk,sh):=hm;rw[X5]at TF;cases TF;rw[K4 (show iw (oL (some sh))=false from rfl)];exact⟨Ra _ _ _,h⟩
  ·rintro Ld ⟨v4,v5,rfl,hm⟩;rw[List.drop_length,Pg]at hm;exact⟨_,_,_,rfl,hm⟩
 ·rintro Ld ⟨v3,v4,v5,rfl,hm⟩;have TF:cq ws (cP ps.length)=none:=hm;rw[X5]at TF;cases TF
def qg (F:aw K "place_between" "place_between" gJ f fd) (C:Ml K mg κ)  (PC:E6 P w K mg base κ) (MV:ya P w K mg base κ)  : aJ P w K mg base (CX1 P w) 4 f fd ["one", "other", "gauge"] (aK K (dA κ)):=by
 refine aw.okN F fZ (by walk_at "l") fun Lv A outer s H E hr=>⟨_,(ah (aC 3 fZ.nd (aq MV hr (aa (dv 2) (aa (dv 0) af)))) (ah (aC 4 fZ.nd (aq MV hr (aa (dv 2) (aa (dv 1) af)))) (aj (au (aq PC hr (aa (ao bG (ao aA (dv 4) (ai (dv 0) ae)) (ao aA (dv 3) (ai (dv 1) ae))) (aa (ao bG (ao aA (dv 4) (ai (dv 0) ae)) (ao aA (dv 3) (ai (dv 1) ae))) (aa (ao bG (ao aA (dv 4) (ai (dv 0) ae)) (ao aA (dv 3) (ai (dv 1) ae))) af)))))))),?_⟩
 rintro ds Q Ed ⟨a0,a1,a2,b0,b1,b2,g0,g1,g2,rfl,h⟩;walk_at "s";unfold cI at h;obtain⟨YU,YV,YW,YX,YY,YZ,Rf,Pu,R6,hw,h⟩:=h;have m:∀{x:Int},Bd 200 x->Bd 1000 x:=fun h=>h.mono (by decide)
 have hv:Bd 402 (g0*a0+g1*a1+g2*a2):=((Rf.mul YU).add (Pu.mul YV)).add ((R6.mul YW).mono (by decide));have ht:Bd 402 (g0*b0+g1*b1+g2*b2):=((Rf.mul YX).add (Pu.mul YY)).add ((R6.mul YZ).mono (by decide));walk_at "x";refine⟨m Rf,m Pu,m R6,m YU,m YV,m YW,m Rf,m Pu,m R6,m YX,m YY,m YZ,NM ht YU,NM hv YX,NM ht YV,NM hv YY,NM ht YW,NM hv YZ,hw,?_,?_,?_,?_⟩
 ·exact((ht.mul YU).sub (hv.mul YX)).mono (by decide)
 ·exact((ht.mul YV).sub (hv.mul YY)).mono (by decide)
 ·exact((ht.mul YW).sub (hv.mul YZ)).mono (by decide)
 ·exact h
def Ag (F:aw K "clipped" "clipped" kg f fd) (C:Ml K mg κ)  (Mo:qI P w K mg base κ) (OM:G5 P w K mg base κ) (K5:mg "len" = none) (K7:mg "range" = none):aJ P w K mg base (CX1 P w) 5 f fd ["corners", "gauge"] (aK K (gN κ)):=by
 refine aw.okN F gK (by walk_at "l") fun Lv A outer s H E hr=>⟨_,(ah (jM 2 gK.nd af) (ah (bu PassesOwn.never rfl (cn (by rfl) K7 (aa (aD aS (by rfl) K5 Nh (aa (dv 0) af)) af)) (aP 3 gK.nd) (ah (aC 4 gK.nd (ai (dv 0) (ao bG (dv 3) ae))) (ah (aC 5 gK.nd (ai (dv 0) (dv 3))) (ah (aR (aB cK (ao aA (aq OM hr (aa (dv 1) (aa (dv 4) af))) (aq OM hr (aa (dv 1) (aa (dv 5) af)))) ae) (aj (eG 2 (aq Mo hr (aa (dv 4) (aa (dv 5) (aa (dv 1) af)))))) aE) (aj (aR (aB uS (aq OM hr (aa (dv 1) (aa (dv 5) af))) ae) (aj (eG 2 (dv 5))) aE)))))) (dj 2 (aj (au (cw (by rfl) (by exact bA (osc:=ak kg) (xs:=["index"]) (ns:=["kept"]) (by decide +kernel)) (bf.cons 2 bf.nil) (cn (by rfl) K7 (aa (aD aS (by rfl) K5 Nh (aa (dv 2) af)) af)) (fun _ _ _ _ _=>(Cr (aB (DJ (by exact hr.units)) (ai (dv 1) (dv 0)) ((pW (dv 1) eS (jC (dv 0)))).SA))) (fun _ _ _ _ _=>(ai (dv 1) (dv 0))))))))),?_⟩
 rintro ds Q Ed ⟨cs,g0,g1,g2,rfl,h⟩;walk_at "s";unfold eZ at h;obtain⟨hl,hc,Rf,Pu,R6,h⟩:=h;have m:∀{x:Int},Bd 200 x->Bd 1000 x:=fun h=>h.mono (by decide)
 have cb:∀p∈cs,Bd 200 p.1/\Bd 200 p.2.1/\Bd 200 p.2.2:=fun p hp=>⟨(hc p hp).2.b.mono (by decide),(hc p hp).2.x.mono (by decide),(hc p hp).2.y.mono (by decide)⟩
 have at_:∀{zs:yav} {k:Nat} {p:Tr},zs[k]?=some p->Mm (zs.map Lm) (k:Int)=some (Lm p):=fun {zs k p} hp=>aU (by rw[LZ,hp];rfl)
 walk_at "x";refine⟨MK _,?_⟩;refine PD.aV (List.range' 0 cs.length) (fun(k:Nat)=>D.int (k:Int)) (fun j ρ=>∃v3 v4 v5:Option Sl,ρ=[some (.val (.lst false (cs.map Lm))),some (.val (T3 g0 g1 g2)),some (.own ((aF (g0,g1,g2) (cM (g0,g1,g2)) (cs.getLastD (0,0,0)) (cs.take j)).map Lm)),v3,v4,v5]) (fun R q=>?_) ⟨none,none,none,rfl⟩ ?_ ?_
 ·walk_at "x";rw[K8,jQ];exact⟨⟨by lia,by lia⟩,q⟩
 ·rintro j k Ld hj ⟨v3,v4,v5,rfl⟩;obtain⟨O3,ek⟩:=L6.mp hj;rw[Nf]at O3;rw[Ri,OZ,RH]at ek;subst ek;have Vm:cs[j]?=some cs[j]:=LM O3;have eP:Mm (cs.map Lm) ((j:Int) - 1)=some (Lm ((cs.take j).getLastD (cs.getLastD (0,0,0)))):=by
   have:=vf (cs.map Lm) j 1 (by rw[K8];exact O3) (by rw[K8];lia);rw[show((j:Int) - 1)=((j:Int) - ((1:Nat):Int))from rfl,this,K8,LZ];have e2:cs[(j+cs.length - 1) % cs.length]?=some ((cs.take j).getLastD (cs.getLastD (0,0,0))):=by
    cases j with
    |zero =>
     have:(0+cs.length - 1) % cs.length=cs.length - 1:=by rw[OZ];exact NS (by lia)
     rw[this,List.take_zero,List.getLastD_nil,<- Y4,We];cases hq:cs.getLast? with
     |none=>rw[Wc]at hq;rw[hq]at O3;exact absurd O3 (by simp)
     |some z=>rfl
    |succ j =>
     have:(j+1+cs.length - 1) % cs.length=j:=by rw[show j+1+cs.length - 1=j+cs.length by lia,Vy];exact NS (by lia)
     rw[this,We,List.getLast?_take];simp;rw[LM (by lia)];rfl
   rw[e2];rfl
  have hP:(cs.take j).getLastD (cs.getLastD (0,0,0))∈cs:=by
   rw[We];cases hq:(cs.take j).getLast? with
   |some z=>exact(List.take_sublist j cs).subset (List.mem_of_getLast? hq)
   |none =>
    rw[Option.getD_none,We];cases hr:cs.getLast? with
    |some z=>exact List.mem_of_getLast? hr
    |none=>rw[Wc]at hr;rw[hr]at O3;exact absurd O3 (by simp)
  have wl:=qD (g0,g1,g2) (cM (g0,g1,g2)) (cs.take j) (cs.getLastD (0,0,0));have tl:(cs.take j).length<=cs.length:=by rw[Qj];lia
  have ws:=Cy (g0,g1,g2) (cM (g0,g1,g2)) (cs.getLastD (0,0,0)) (cs.take j) cs[j];rw[show cs.take j++[cs[j]]=cs.take (j+1)by rw[SR,Vm];rfl]at ws;generalize (cs.take j).getLastD (cs.getLastD (0,0,0))=p at eP hP ws;have hQ:cs[j]∈cs:=PG _;generalize OB:cs[j]=c at Vm hQ ws;generalize aF (g0,g1,g2) (cM (g0,g1,g2)) (cs.getLastD (0,0,0)) (cs.take j)=K at wl ws ⊢;obtain⟨p1,p2,p3⟩:=cb p hP;obtain⟨c1,c2,c3⟩:=cb c hQ;have kl:K.length<=600000:=by lia
  have fin:∀(K2:yav) (d1 d2:D),K2.length<=600001->aF (g0,g1,g2) (cM (g0,g1,g2)) (cs.getLastD (0,0,0)) (cs.take (j+1))=K2++(if 0<=KZ (g0,g1,g2) c then[c]else[])->ip κ [T3 g0 g1 g2,Lm c] (fun x=>gC (fun i j=>D.bl (decide (j<=i))) x (D.int 0) fun x=>∃k,x=D.bl k/\if k=true then(K2.map Lm).length<sizeLine/\∃v3 v4 v5:Option Sl,([some (.val (.lst false (cs.map Lm))),some (.val (T3 g0 g1 g2)),some (.own (K2.map Lm++[Lm c])),some (.val (.int j)),some (.val d1),some (.val d2)]:Ro)=[some (.val (.lst false (cs.map Lm))),some (.val (T3 g0 g1 g2)),some (.own ((aF (g0,g1,g2) (cM (g0,g1,g2)) (cs.getLastD (0,0,0)) (cs.take (j+1))).map Lm)),v3,v4,v5]else∃v3 v4 v5:Option Sl,([some (.val (.lst false (cs.map Lm))),some (.val (T3 g0 g1 g2)),some (.own (K2.map Lm)),some (.val (.int j)),some (.val d1),some (.val d2)]:Ro)=[some (.val (.lst false (cs.map Lm))),some (.val (T3 g0 g1 g2)),some (.own ((aF (g0,g1,g2) (cM (g0,g1,g2)) (cs.getLastD (0,0,0)) (cs.take (j+1))).map Lm)),v3,v4,v5]) fun _=>False:=fun K2 d1 d2 kl e=>by
   show ip κ [T3 g0 g1 g2,T3 c.1 c.2.1 c.2.2] _ _;rw[jz,hJ,e];refine⟨m Rf,m Pu,m R6,m c1,m c2,m c3,?_⟩;rw[eJ];refine⟨_,rfl,?_⟩;have es:(0<=sg (g0*c.1+g1*c.2.1+g2*c.2.2))↔0<=KZ (g0,g1,g2) c:=Jk _;by_cases q:0<=KZ (g0,g1,g2) c
   ·rw[K4 q,K4 (Qk (es.mpr q))];exact⟨by rw[K8,sizeLine_eq];lia,_,_,_,by rw[M6];rfl⟩
   ·rw[K3 q,K3 (by rw[decide_eq_true_eq];exact fun z=>q (es.mp z)),Rm];exact⟨_,_,_,rfl⟩
  walk_at "x";refine⟨_,eP,_,at_ Vm,?_⟩;rw[cX,cX];show ip κ [T3 g0 g1 g2,T3 p.1 p.2.1 p.2.2] _ _;rw[jz,hJ];refine⟨m Rf,m Pu,m R6,m p1,m p2,m p3,?_⟩;show ip κ [T3 g0 g1 g2,T3 c.1 c.2.1 c.2.2] _ _;rw[jz,hJ];refine⟨m Rf,m Pu,m R6,m c1,m c2,m c3,?_⟩;have es:(sg (g0*p.1+g1*p.2.1+g2*p.2.2)*sg (g0*c.1+g1*c.2.1+g2*c.2.2)<0)↔KZ (g0,g1,g2) p*KZ (g0,g1,g2) c<0:=Jj _ _;have sb1:∀x:Int,Bd 64 (sg x):=fun x=>by unfold sg Bd;split;exact(by decide);split<;>decide
  rw[yR,eJ];refine⟨.inl (sb1 _),_,rfl,?_⟩;by_cases q:KZ (g0,g1,g2) p*KZ (g0,g1,g2) c<0
  ·rw[K4 (Qk (es.mpr q))];rw[K4 q]at ws;show dA κ [T3 p.1 p.2.1 p.2.2,T3 c.1 c.2.1 c.2.2,T3 g0 g1 g2] _ _;rw[gR,cI];refine⟨p1,p2,p3,c1,c2,c3,Rf,Pu,R6,?_,by rw[K8,sizeLine_eq];lia,?_⟩
   ·rcases xj (hc p hP).1 (hc c hQ).1 q with⟨_,_,z⟩| ⟨_,_,z⟩<;>exact fun e=>by rw[e]at z;exact Q3 _ z
   ·have:=fin (K++[cM (g0,g1,g2) p c]) (Lm p) (Lm c) (by simp;lia) (by rw[ws,QH]);rw[M6]at this;exact this
  ·rw[K3 (by rw[decide_eq_true_eq];exact fun z=>q (es.mp z))];rw[K3 q,Pg]at ws;exact fin K (Lm p) (Lm c) (by lia) ws
 ·rintro Ld ⟨v3,v4,v5,rfl⟩;rw[Nf,QZ];have wl:=qD (g0,g1,g2) (cM (g0,g1,g2)) cs (cs.getLastD (0,0,0));have ec:eQ (g0,g1,g2) cs=OI [] (aF (g0,g1,g2) (cM (g0,g1,g2)) (cs.getLastD (0,0,0)) cs):=by
   unfold eQ;cases hq:cs.getLast? with
   |none =>
    rw[Wc]at hq;subst hq;rfl
   |some z=>rw[We,hq];rfl
  rw[ec]at h;generalize aF (g0,g1,g2) (cM (g0,g1,g2)) (cs.getLastD (0,0,0)) cs=K at wl h ⊢;have gt:∀k,k<K.length->K[k]?=some (K.getD k (0,0,0)):=fun k hk=>by rw[Mf,LM hk];rfl
  have ct:∀k,k<=K.length->PD.cutD (K.map Lm) none (some (k:Int))=(K.take k).map Lm:=fun k hk=>by unfold PD.cutD;rw[HT.Eg,HT.GD,List.drop_zero,Nat.sub_zero,K8,Nat.min_eq_left hk,List.map_take]
  have ea:∀(l:yav) (x:Tr),(l.map Lm).any (fun z=>eqD z (Lm x))=l.any fun y=>decide (y=x):=fun l x=>by
   rw[List.any_map];congr 1
   funext y
   exact HV y x
  walk_at "x";refine PD.comp_map (List.range' 0 K.length) (fun(k:Nat)=>D.int (k:Int)) (fun k=>!(K.take k).any fun y=>decide (y=K.getD k (0,0,0))) (fun k=>Lm (K.getD k (0,0,0))) (fun R q=>?_) (by rw[Nf,sizeLine_eq];lia) (fun k hk K' hK=>?_) (fun k hk _ K' hK=>?_) ?_
  ·walk_at "x";rw[K8,jQ];exact⟨⟨by lia,by lia⟩,q⟩
  ·have Rz:k<K.length:=by rw[Rj]at hk;lia
   walk_at "x";refine⟨_,at_ (gt k Rz),?_⟩;rw[ct k (by lia)];refine⟨?_,?_⟩
   ·exact(yL _).YB
   ·exact⟨(NQ.map yL).ok,_,.inr ⟨_,rfl⟩,_,rfl,by rw[ea];exact hK⟩
  ·have Rz:k<K.length:=by rw[Rj]at hk;lia
   walk_at "x";exact⟨_,at_ (gt k Rz),hK⟩
  ·have dr:=vM (0,0,0) K [];rw[List.length_nil,Pg]at dr;rw[<- dr,MJ]at h;exact h
def BP (F:aw K "common" "common" qn f fd) (C:Ml K mg κ)  (Mr:tQ P w K mg base κ)  : aJ P w K mg base (CX1 P w) 6 f fd ["corners", "gauges"] (aK K (nW κ)):=by
 refine aw.okN F nP (by walk_at "l") fun Lv A outer s H E hr=>⟨_,(ah (bu PassesOwn.never rfl (aZ (dv 1)) (aP 2 nP.nd) (aj (aC 0 nP.nd (aq Mr hr (aa (dv 0) (aa (dv 2) af)))))) (aj (au (dv 0)))),?_⟩
 rintro ds Q Ed ⟨cs,gs,rfl,h⟩;walk_at "s";unfold iH at h;obtain⟨h0,hg,hj,hb,h⟩:=h;walk_at "x";refine PD.aV gs Lm (fun j ρ=>∃(t:Bool) (v:Option Sl),(0<j->t=true)/\ρ=[some (.val (.lst t ((aX (gs.take j) cs).map Lm))),some (.val (.lst false (gs.map Lm))),v]) (fun R q=>?_) ⟨false,none,fun q=>absurd q (by lia),rfl⟩ ?_ ?_
 ·walk_at "x";exact q
 ·rintro j g Ld he ⟨t,v,ht,rfl⟩;obtain⟨MR,eg⟩:=L6.mp he;obtain⟨c1,c2⟩:=hj j MR;obtain⟨b1,b2,b3⟩:=hb g (Mz he);walk_at "x";show gN κ [.lst false ((aX (gs.take j) cs).map Lm),T3 g.1 g.2.1 g.2.2] _ _;rw[i8,eZ];refine⟨c1,c2,b1,b2,b3,?_⟩;have e:aX (gs.take (j+1)) cs=eQ g (aX (gs.take j) cs):=by
   unfold aX;rw[SR,he];simp[List.foldl_append]
  exact⟨true,_,fun _=>rfl,by rw[e]⟩
 ·rintro Ld ⟨t,v,ht,rfl⟩;rw[QZ,ht h0];walk_at "x";exact h
def sN (F:aw K "last_needed" "last_needed" iZ f fd) (C:Ml K mg κ)  (Mr:tQ P w K mg base κ) (K5:mg "len" = none):aJ P w K mg base (CX1 P w) 6 f fd ["corners", "gauges"] (aK K (h9 κ)):=by
 refine aw.okN F fq (by walk_at "l") fun Lv A outer s H E hr=>⟨_,(ah (aC 2 fq.nd (cg ae)) (ah (lQ PassesOwn.never (aB lY (aD aS (by rfl) K5 Nh (aa (dv 0) af)) ae) (ah (HK 2 fq.nd ae Ir) (aj (aC 0 fq.nd (aq Mr hr (aa (dv 0) (aa (ai (dv 1) (dv 2)) af))))))) (aj (au (dv 2))))),?_⟩
 rintro ds Q Ed ⟨cs,gs,rfl,h⟩;walk_at "s";unfold fe at h;obtain⟨hg,hj,hb,last,hl,up,dn,h⟩:=h;walk_at "x";refine⟨fun m ρ=>∃(j:Nat) (t:Bool),j<=last+1/\m=last+1 - j/\ρ=[some (.val (.lst t ((aX (gs.take j) cs).map Lm))),some (.val (.lst false (gs.map Lm))),some (.val (.int ((j:Int) - 1)))],⟨_,0,false,by lia,rfl,rfl⟩,?_⟩;rintro m ρ ⟨j,t,hj1,rfl,rfl⟩;walk_at "x";rw[K8];by_cases c:j=last+1
 ·subst c;rw[dn,K3 (by simp)];rw[show(((last+1:Nat):Int) - 1)=(last:Int)by lia];exact h
 ·have ne:=up j (by lia);rw[K4 (by have:=Ym.mpr ne;lia)];obtain⟨c1,c2⟩:=hj j (by lia);have hgj:gs[j]?=some (gs[j]'(by lia)):=LM _;have bj:=hb _ (PG (show j<gs.length by lia));refine⟨_,rfl,?_⟩;walk_at "x";have atg:Mm (gs.map Lm) (j:Int)=some (Lm (gs[j]'(by lia))):=aU (by rw[LZ,hgj];rfl);rw[show((j:Int) - 1+1)=(j:Int)by lia];refine⟨_,atg,?_⟩;rw[cX];show gN κ [.lst false ((aX (gs.take j) cs).map Lm),T3 (gs[j]'(by lia)).1 (gs[j]'(by lia)).2.1 (gs[j]'(by lia)).2.2] _ _;rw[i8,eZ];refine⟨c1,c2,bj.1,bj.2.1,bj.2.2,last+1 - (j+1),by lia,j+1,true,by lia,rfl,?_⟩;rw[vy hgj,show(((j+1:Nat):Int) - 1)=(j:Int)by lia]
def xH (F:aw K "constant" "constant" jr f fd) (C:Ml K mg κ)   (Nv:mg "sum" = none) (L4:mg "zip" = none):aJ P w K mg base (CX1 P w) 1 f fd ["gauges", "numbers", "shares"] (aK K (kK κ)):=by
 refine aw.okN F xR (by walk_at "l") fun Lv A outer s H E hr=>⟨_,(aj (au (aD (A0 rfl) (by rfl) Nv boot_sum (aa (De (by rfl) (by exact bA (osc:=ak jr) (xs:=["number", "share"]) (ns:=["gauges"]) (by decide +kernel)) (bf.cons 0 bf.nil) (.cons (.cons .nil)) (qZ (by rfl) L4 (aa (dv 1) (aa (dv 2) af))) (fun _ _ _ _ _=>bR) (fun _ _ _ _ _=>(ao aA (ai (ai (dv 2) (dv 0)) ae) (dv 1)))) af)))),?_⟩
 rintro ds Q Ed ⟨gs,ns,sh,rfl,h⟩;walk_at "s";unfold fE at h;obtain⟨pk,rfl,ln,l3,lt,hb,hs,h⟩:=h;have gt:∀k∈pk,gs[k]?=some (gs.getD k (0,0,0)):=fun k hk=>by rw[Mf,LM (lt k hk)];rfl
 walk_at "x";refine PD.tY (pk.zip sh) (fun z=>[.int ((z.1:Nat):Int),.int z.2]) (fun _=>true) (fun z=>.int ((gs.getD z.1 (0,0,0)).1*z.2)) (fun R q=>?_) (by rw[VH,sizeLine_eq];lia) (fun _=>rfl) (fun z hz K hk=>?_) (fun z hz _ K hk=>?_) ?_
 ·walk_at "x";have e:=tN pk sh;rw[MJ];rw[show(List.map ((fun n=>D.int n)∘fun(k:Nat)=>(k:Int)) pk)=pk.map (fun(k:Nat)=>D.int (k:Int))from rfl,e];exact q
 ·walk_at "x";exact hk
 ·have zm:=UE (a:=z.1) (b:=z.2) hz;have Pc:Mm (gs.map Lm) ((z.1:Nat):Int)=some (Lm (gs.getD z.1 (0,0,0))):=aU (by rw[LZ,gt z.1 zm.1];rfl);walk_at "x";refine⟨_,Pc,?_⟩;have b1:=hb _ (Mz (gt z.1 zm.1));rw[show Lm (gs.getD z.1 (0,0,0))=D.tup [.int (gs.getD z.1 (0,0,0)).1,.int (gs.getD z.1 (0,0,0)).2.1,.int (gs.getD z.1 (0,0,0)).2.2]from rfl];walk_at "x";exact⟨NM b1 (hs _ zm.2),hk⟩
 rw[Pe.mpr (fun _ _=>rfl)];refine⟨true,(pk.zip sh).map fun z=>(gs.getD z.1 (0,0,0)).1*z.2,by rw[MJ];rfl,?_⟩;exact h
def F8 (F:aw K "bars" "bars" rG f fd) (C:Ml K mg κ)  (Mq:tP P w K mg base κ) (NC:zh P w K mg base κ) (MF:uA P w K mg base κ) (MW:x9 P w K mg base κ) (Lz:mg "list" = none) (L4:mg "zip" = none):aJ P w K mg base (CX1 P w) 7 f fd ["corners", "gauges"] (aK K (tE κ)):=by
 refine aw.okN F lA (by walk_at "l") fun Lv A outer s H E hr=>⟨_,(ah (aC 2 lA.nd (aq MF hr (aa (dv 0) (aa (dv 1) af)))) (aj (bu PassesOwn.never rfl (aZ (ao aQ (aq MW hr (aa (dv 2) (aa ae af))) (aq MW hr (aa (dv 2) (aa ae af))))) (aP 3 lA.nd) (ah (aC 4 lA.nd (ao aQ (dv 3) (de (aa (dv 2) af)))) (ah (aC 5 lA.nd (aq Mq hr (aa (cw (by rfl) (by exact bA (osc:=ak rG) (xs:=["number"]) (ns:=["gauges"]) (by decide +kernel)) (bf.cons 1 bf.nil) (aZ (dv 4)) (fun _ _ _ _ _=>bR) (fun _ _ _ _ _=>(Bg (ai (dv 1) (dv 0)) (jC ae) eS))) af))) (aj (aR (vQ (aB yK (dv 5) ng) (sC (aB cK (aq NC hr (aa (dv 1) (aa (dv 4) (aa (dv 5) af)))) ae))).pt (aj (au ((zQ rfl (by rfl) Lz (by rfl) L4 (aa (dv 4) (aa (dv 5) af)))).SA)) aE))))))),?_⟩
 rintro ds Q Ed ⟨cs,gs,rfl,h⟩;walk_at "s";unfold lh at h;obtain⟨hg,hj,hb,last,hl,up,dn,r,hB0,h⟩:=h;walk_at "x";refine⟨hg,hj,hb,last,hl,up,dn,?_⟩;have ll:∀i,i<=2->(L7 last i).length<=3600:=fun i hi=>NW (sJ last i) (NW (Nat.pow_le_pow_left (show last<=60 by lia) i) (NW (Uw (by decide) hi) (by decide)))
 refine PD.aV (L7 last 1++L7 last 2) Np (fun j ρ=>∃v3 v4 v5:Option Sl,gW gs last ((L7 last 1++L7 last 2).drop j)=some r/\ρ=[some (.val (.lst false (cs.map Lm))),some (.val (.lst false (gs.map Lm))),some (.val (.int (last:Int))),v3,v4,v5]) (fun R q=>?_) ⟨none,none,none,hB0,rfl⟩ ?_ ?_
 ·walk_at "x";have e:=M6 (f:=Np) (l₁:=L7 last 1) (l₂:=L7 last 2);rw[e]at q;refine⟨last,1,rfl,rfl,by lia,by decide,last,2,rfl,rfl,by lia,by decide,?_,q⟩;have:=ll 1 (by decide);have:=ll 2 (by decide);rw[K8,K8,sizeLine_eq]
  lia
 ·rintro j o Ld ho ⟨v3,v4,v5,hB,rfl⟩;obtain⟨O3,eo⟩:=L6.mp ho;rw[SH O3,eo]at hB;obtain⟨l2,lt⟩:=ES (Mz ho);have lt':∀k∈o++[last],k<gs.length:=fun k hk=>by
   rcases Mc.mp hk with q|q
   ·have:=lt k q;lia
   ·rw[M4.mp q];exact hl
  have gt:∀k∈o++[last],gs[k]?=some (gs.getD k (0,0,0)):=fun k hk=>by rw[Mf,LM (lt' k hk)];rfl
  have en:(o.map fun(k:Nat)=>D.int (k:Int))++[D.int (last:Int)]=(o++[last]).map fun(k:Nat)=>D.int (k:Int):=by rw[M6];rfl
  unfold Np;walk_at "x";have lo:(o++[last]).length<=3:=by rw[MG,Sn];lia
  refine⟨VW _,by rw[K8,sizeLine_eq];show _+1<=_;lia,?_⟩;rw[en];refine PD.comp_map (o++[last]) (fun(k:Nat)=>D.int (k:Int)) (fun _=>true) (fun k=>Ll (vc (gs.getD k (0,0,0)))) (fun R q=>?_) (by rw[sizeLine_eq];lia) (fun k hk K hK=>?_) (fun k hk _ K hK=>?_) ?_
  ·walk_at "x";exact q
  ·walk_at "x";exact hK
  ·walk_at "x";have atg:Mm (gs.map Lm) ((k:Nat):Int)=some (Lm (gs.getD k (0,0,0))):=aU (by rw[LZ,gt k hk];rfl);exact⟨_,atg,_,rfl,by show¬(HT.LP 3 0 (some 1)=0/\_);exact fun z=>absurd z.1 (by decide),hK⟩
  rw[Pe.mpr (fun _ _=>rfl)];have ew:(o++[last]).map (fun k=>Ll (vc (gs.getD k (0,0,0))))=(Px gs (o++[last])).map Ll:=by unfold Px;rw[MJ];rfl
  have lw:(Px gs (o++[last])).length=(o++[last]).length:=by unfold Px;rw[K8]
  have wb:∀w∈Px gs (o++[last]),WB 400 w:=fun w hw=>by obtain⟨k,hk,rfl⟩:=LR.mp hw;have b:=hb _ (Mz (gt k hk));exact⟨b.2.1.mono (by decide),b.2.2.mono (by decide)⟩
  rw[ew,bo,gP,i7,eW];refine⟨by rw[lw];simp,by lia,wb,?_⟩;unfold gW at hB;cases Vl:dR (Px gs (o++[last]))with
  |none =>
   rw[Vl]at hB;rw[K3 (show¬iw (oL none)=false by decide)];exact⟨_,_,_,hB,rfl⟩
  |some sh =>
   rw[Vl]at hB;have B:=mW (by lia) Vl;have bs:=vh wb (by lia) Vl;have ls:(o++[last]).length=sh.length:=by rw[B.len,lw]
   have ei:(o++[last]).map (fun(k:Nat)=>D.int (k:Int))=((o++[last]).map fun(k:Nat)=>(k:Int)).map D.int:=by rw[MJ];rfl
   rw[K4 (show iw (oL (some sh))=false from rfl)];have eo':aL (oL (some sh))=.lst false (sh.map D.int):=by show aL (.lst true (sh.map D.int))=_;rw[bo,fK]
   rw[eo'];have eu:bc ((o++[last]).map (fun(k:Nat)=>D.int (k:Int)))=((o++[last]).map fun(k:Nat)=>(k:Int)).map D.int:=by rw[ei,fK]
   rw[eu,lD,fE];refine⟨o++[last],rfl,ls,lo,lt',fun g hgm=>(hb g hgm).1,bs,?_⟩;rw[eJ];refine⟨_,rfl,?_⟩;by_cases c:pT gs (o++[last]) sh<0
   ·dsimp only at hB;rw[K4 c]at hB;cases hB;rw[K4 (Qk c)];refine⟨_,_,true,true,_,_,rfl,rfl,rfl,by rw[K8,K8];exact ls,by rw[K8];lia,?_⟩;rw[tN];exact h
   ·dsimp only at hB;rw[K3 c]at hB;rw[K3 (by rw[decide_eq_true_eq];exact c)];exact⟨_,_,_,hB,rfl⟩
 ·rintro Ld ⟨v3,v4,v5,hB,rfl⟩;rw[List.drop_length]at hB;cases hB
def rC (F:aw K "owned_gauges" "owned_gauges" fk f fd) (C:Ml K mg κ)  (ON:CI P w K mg base κ) (N6:AJ P w K mg base κ) (LN:mg "enumerate" = none):aJ P w K mg base (CX1 P w) 4 f fd ["lists"] (aK K (gO κ)):=by
 refine aw.okN F d9 (by walk_at "l") fun Lv A outer s H E hr=>⟨_,(ah (jM 1 d9.nd af) (ah (bu PassesOwn.never rfl (FH (by rfl) LN (aa (dv 0) af)) (jN (n:=2) rfl (cH (aP 2 d9.nd) (cH (aP 3 d9.nd) jE))) (aj (ua 1 (cw (by rfl) (by exact bA (osc:=ak fk) (xs:=["gauge"]) (ns:=["index"]) (by decide +kernel)) (bf.cons 2 bf.nil) (aZ (aq ON hr (aa (aq N6 hr (aa (dv 3) af)) af))) (fun _ _ _ _ _=>bR) (fun _ _ _ _ _=>(bL (aa (dv 1) (aa (dv 0) af)))))))) (dj 1 (aj (au (dv 1)))))),?_⟩
 rintro ds Q Ed ⟨Ls,rfl,h⟩;walk_at "s";unfold d6 at h;obtain⟨L,h⟩:=h;walk_at "x";refine⟨MK _,?_⟩;refine PD.aV (List.range' 0 Ls.length) (fun(k:Nat)=>D.tup [.int (k:Int),bg (Ls.getD k [])]) (fun j ρ=>∃(yss:yas) (v2 v3:Option Sl),bS yss (Ls.take j)/\ρ=[some (.val (.lst false (Ls.map bg))),some (.own ((aT 0 yss).map Nu)),v2,v3]) (fun R q=>?_) ⟨[],none,none,True.intro,rfl⟩ ?_ ?_
 ·walk_at "x";refine⟨_,_,rfl,?_⟩;rw[zT bg []];exact q
 ·rintro j k Ld hj ⟨yss,v2,v3,rk,rfl⟩;obtain⟨O3,ek⟩:=L6.mp hj;rw[Nf]at O3;rw[Ri,OZ,RH]at ek;subst ek;have Vm:Ls[j]?=some Ls[j]:=LM O3;have eg:Ls.getD j []=Ls[j]:=by rw[Mf,Vm];rfl
  have pm:Ls[j]∈Ls:=PG _;rw[eg];generalize Us:Ls[j]=ps at Vm pm;have yl:yss.length=j:=by rw[rk.len,Qj];lia
  have ol:(aT 0 yss).length<=64*yss.length:=j9 _ 0 fun ys R8=>by
   obtain⟨qs,qm,r⟩:=rk.ex ys R8;have qm':=(List.take_sublist j Ls).subset qm;have:=(cQ r).len;have:=L.le qs qm';have:=lN (aO ys)
   lia
  have l8:=L.l8;walk_at "x";refine A6 (P:=fun gs:yav=>∃ys,cJ ys ps/\gs=aG (aO ys)/\gs.length<1000) Lm (fun _=>true) (fun g=>Nu ((j:Int),g)) (fun R hR=>?_) (fun gs hg=>by obtain⟨_,_,_,q⟩:=hg;rw[sizeLine_eq];lia) (fun gs hg g hm K hK=>?_) (fun gs hg g hm K hK=>?_) fun gs hg=>?_
  ·walk_at "x";have hl:=L.le ps pm;have hb:∀p∈ps,SB p:=fun p hp=>((L.bd ps pm p hp).mono (by decide)).sb
   show lE κ [.lst false (ps.map Ll)] _ _;rw[mr,jH];refine⟨by lia,hb,fun ys hy hyl=>?_⟩;have g:=cQ hy;have hh:=g.len;have sb:∀p∈aO ys,SB p:=fun p hp=>hb p (g.mem p hp)
   have l0:0<(aO ys).length:=by obtain⟨a,r,e,_⟩:=g.P7 (TM (L.ne ps pm));rw[e];simp
   have bl:=lN (aO ys);rw[bo,mE,nV,iG];exact⟨l0,by lia,sb,_,_,rfl,hR _ ⟨ys,hy,rfl,by lia⟩⟩
  ·walk_at "x";exact hK
  ·walk_at "x";exact⟨Rb _ _,hK⟩
  ·obtain⟨ys,hy,rfl,hl⟩:=hg;rw[Pe.mpr (fun _ _=>rfl)];refine⟨_,rfl,by rw[K8,K8,sizeLine_eq];lia,yss++[ys],some (.val (.int (j:Int))),some (.val (bg ps)),?_,?_⟩
   ·rw[SR,Vm];exact rk.snoc hy
   ·rw[rD,M6,yl,OZ,MJ];rfl
 ·rintro Ld ⟨yss,v2,v3,rk,rfl⟩;rw[Nf,QZ]at rk;walk_at "x";exact h yss rk
def xG (F:aw K "bar_rows" "bar_rows" jq f fd) (C:Ml K mg κ)  (MX:u4 P w K mg base κ) (LU:mg "sorted" = none):aJ P w K mg base (CX1 P w) 2 f fd ["owned", "shares"] (aK K (kJ κ)):=by
 refine aw.okN F fG (by walk_at "l") fun Lv A outer s H E hr=>⟨_,(ah (Bj 2 fG.nd) (ah (bu PassesOwn.never rfl (aZ (dv 1)) (jN (n:=2) rfl (cH (aP 3 fG.nd) (cH (aP 4 fG.nd) jE))) (ah (aC 5 fG.nd (ai (ai (dv 0) (dv 3)) ae)) (aj (Fp 2 (by exact zZ hr) (dv 5) (aq MX hr (aa (Fn 2 (by exact zZ hr) (dv 5) (bL (aa ae (aa ae (aa ae af))))) (aa (ai (ai (dv 0) (dv 3)) ae) (aa (dv 4) af)))))))) (xx 2 (aj (au (cw (by rfl) (by exact bA (osc:=ak jq) (xs:=["owner"]) (ns:=["sums"]) (by decide +kernel)) (bf.cons 2 bf.nil) (aZ ((Df rfl (by rfl) LU (dv 2))).SA) (fun _ _ _ _ _=>bR) (fun _ _ _ _ _=>(bL (aa (dv 0) (aa (HH (by exact zZ hr) (dv 1) (dv 0)) af)))))))))),?_⟩
 rintro ds Q Ed ⟨os,zs,rfl,h⟩;walk_at "s";unfold fC at h;obtain⟨l3,hz,S4,tb,tl,nd,h⟩:=h;walk_at "x";have gt:∀z∈zs,os[z.1]?=some (os.getD z.1 (0,0,0,0)):=fun z hzm=>by rw[Mf,LM (hz z hzm).1];rfl
 refine PD.aV zs dX (fun j ρ=>∃v3 v4 v5:Option Sl,ρ=[some (.val (.lst false (os.map Nu))),some (.val (.lst false (zs.map dX))),some (.ob (.dk (kQ (b9 ((gc os zs).take j))))),v3,v4,v5]) (fun R q=>?_) ⟨none,none,none,rfl⟩ ?_ ?_
 ·walk_at "x";exact q
 ·rintro j z Ld hzj ⟨v3,v4,v5,rfl⟩;have zm:=Mz hzj;have YT:j<zs.length:=(L6.mp hzj).1;have Pc:Mm (os.map Nu) ((z.1:Nat):Int)=some (.tup [.int (os.getD z.1 (0,0,0,0)).1,Lm (os.getD z.1 (0,0,0,0)).2]):=aU (by rw[LZ,gt z zm];rfl);have gb:=S4 _ (Mz (gt z zm));have eT:b9 ((gc os zs).take (j+1))=YQ (b9 ((gc os zs).take j)) ((os.getD z.1 (0,0,0,0)).1,(os.getD z.1 (0,0,0,0)).2,z.2):=by
   unfold b9;rw[List.take_add_one,show(gc os zs)[j]?=some ((os.getD z.1 (0,0,0,0)).1,(os.getD z.1 (0,0,0,0)).2,z.2)by unfold gc;rw[LZ,hzj];rfl,List.foldl_append];rfl
  rw[eT];have tbj:=tb j;have tlj:=tl j;generalize b9 ((gc os zs).take j)=T at tbj tlj ⊢;generalize os.getD z.1 (0,0,0,0)=g at Pc gb ⊢;have zB:∀n,Bd n 0:=fun n=>by unfold Bd;simp;exact Ww n
  have hT:TB 990 ((Oh T g.1).getD (0,0,0)):=by
   cases hl:Oh T g.1 with
   |none=>exact⟨zB _,zB _,zB _⟩
   |some x=>have q:=tbj _ (wC hl);exact⟨q.c.mono (by lia),q.a.mono (by lia),q.b.mono (by lia)⟩
  have eD:((Oh T g.1).map Lm).getD (D.tup [D.int 0,D.int 0,D.int 0])=Lm ((Oh T g.1).getD (0,0,0)):=by cases Oh T g.1<;>rfl
  unfold dX;walk_at "x";refine⟨_,Pc,?_⟩;walk_at "x";refine⟨Ra _ _ _,Sum.inl g.1,rfl,_,Pc,?_⟩;walk_at "x";rw[lX,eD,cX];show fR κ [T3 ((Oh T g.1).getD (0,0,0)).1 ((Oh T g.1).getD (0,0,0)).2.1 ((Oh T g.1).getD (0,0,0)).2.2,T3 g.2.1 g.2.2.1 g.2.2.2,.int z.2] _ _;rw[j4,dG];refine⟨hT,gb,(hz z zm).2,Sum.inl g.1,rfl,by unfold kQ;rw[K8,sizeLine_eq];lia,some (.val (.int ((z.1:Nat):Int))),some (.val (.int z.2)),some (.val (.int g.1)),?_⟩;rw[Gq];rfl
 ·rintro Ld ⟨v3,v4,v5,rfl⟩;have lx:zs.length=(gc os zs).length:=by unfold gc;rw[K8]
  rw[lx,QZ];generalize hT:b9 (gc os zs)=T at nd h;have tl3:T.length<=3:=by
   have q:=tl zs.length;rw[lx,QZ,hT]at q
   lia
  refine⟨T.map (·.1),T.map fun x=>Lm x.2,by rw[K8,K8],by rw[tO];rfl,?_⟩;walk_at "x";refine vz (P:=fun ms:yaf=>ms.Perm (T.map (·.1))/\ms.Pairwise (·<·)) (fun n=>D.int n) (fun o=>Nu (o,(Oh T o).getD (0,0,0))) (fun R hR=>?_) (fun ms hm=>by have:=hm.1.length_eq;rw[K8]at this;rw[sizeLine_eq];lia) (fun ms hm o ho K hK=>?_) fun ms hm=>?_
  ·walk_at "x";exact⟨_,_,rfl,by rw[K8];lia,fun ms p q=>hR ms ⟨p,q⟩⟩
  ·obtain⟨x,xm,ex⟩:=LR.mp (hm.1.mem_iff.mp ho);have lk:=Ab nd xm;rw[ex]at lk;walk_at "x";refine⟨_,_,_,Lm x.2,rfl,rfl,by rw[K8,K8],?_,Rb _ _,?_⟩
   ·rw[tO,lX,lk];rfl
   ·rw[lk]at hK;exact hK
  ·have q:=h ms hm.1 hm.2;unfold jU at q;rw[MJ]at q;exact q
def uG (F:aw K "hulls_meet" "hulls_meet" eK f fd) (C:Ml K mg κ)  (ND:zf P w K mg base κ) (QF:G4 P w K mg base κ) (OO:CJ P w K mg base κ) (N6:AJ P w K mg base κ) (N7:AM P w K mg base κ) (Mw:se P w K mg base κ) (K5:mg "len" = none):aJ P w K mg base (CX1 P w) 8 f fd ["lists"] (aK K (i9 κ)):=by
 refine aw.okN F dH (by walk_at "l") fun Lv A outer s H E hr=>⟨_,(ah (aC 1 dH.nd (aq Mw hr (aa (dv 0) af))) (ah (gA 2 dH.nd (by rfl) (by exact bA (osc:=ak eK) (xs:=["pair"]) (ns:=[]) (by decide +kernel)) bf.nil (aZ (dv 1)) (fun _ _ _ _ _=>bR) (fun _ _ _ _ _=>(ai (dv 0) ae))) (ah (aC 3 dH.nd (aq N6 hr (aa (ai (dv 0) ae) af))) (ah (aC 4 dH.nd (aq OO hr (aa (dv 3) (aa (dv 2) af)))) (ah (aR (aB cu (aD aS (by rfl) K5 Nh (aa (dv 4) af)) ae) (aj (au (bL (aa iD (aa (aq ND hr (aa (dv 1) (aa (aq QF hr (aa (dv 3) (aa (dv 2) af))) af))) af))))) aE) (aj (au (bL (aa iD (aa (ai (dv 4) ae) (aa (cw (by rfl) (by exact bA (osc:=ak eK) (xs:=["spots"]) (ns:=["shared"]) (by decide +kernel)) (bf.cons 4 bf.nil) (aZ (dv 0)) (fun _ _ _ _ _=>bR) (fun _ _ _ _ _=>(Bg (aq N7 hr (aa (dv 0) (aa (ai (dv 1) ae) af))) (jC ae) eS))) af))))))))))),?_⟩
 rintro ds Q Ed ⟨Ls,rfl,h⟩;walk_at "s";unfold cC at h;obtain⟨L,M,hm,hbar⟩:=h;walk_at "x";refine⟨L,fun yss rk=>?_⟩;have St:=z9 L rk;have ol:=xQ M rk;refine PD.comp_map (aT 0 yss) Nu (fun _=>true) (fun x=>Lm x.2) (fun R q=>?_) (by rw[sizeLine_eq];lia) (fun x hx K hK=>?_) (fun x hx _ K hK=>?_) ?_
 ·walk_at "x";exact q
 ·walk_at "x";exact hK
 ·unfold Nu;walk_at "x";exact hK
 rw[Pe.mpr (fun _ _=>rfl)];have em:(aT 0 yss).map (fun x=>Lm x.2)=(Lw yss).map Lm:=by unfold Lw;rw[MJ];rfl
 rw[em];obtain⟨Sj,Lr,eL⟩:∃p r,Ls=p::r:=by
  cases Ls with
  |nil=>exact absurd L.l0 (by simp)
  |cons p r=>exact⟨p,r,rfl⟩
 obtain⟨NB,yr,ey⟩:∃p r,yss=p::r:=by
  cases yss with
  |nil=>rw[eL]at rk;exact rk.elim
  |cons p r=>exact⟨p,r,rfl⟩
 have pm0:Sj∈Ls:=by rw[eL];simp
 have rk0:cJ NB Sj:=by rw[eL,ey]at rk;exact rk.1
 have e0:yss.getD 0 []=NB:=by rw[ey];rfl
 refine⟨bg Sj,aU (j:=0) (by rw[eL];rfl),?_⟩;rw[qB];show lE κ [.lst false (Sj.map Ll)] _ _;rw[mr,jH];refine⟨by have:=L.le Sj pm0;lia,fun p hp=>((L.bd Sj pm0 p hp).mono (by decide)).sb,fun ys hy _=>?_⟩;have eys:=D7 hy rk0;have ep:(aO ys).map L3=(F0 yss).map Lm:=by unfold F0;rw[e0,eys,MJ];rfl
 have ut:∀(t:Bool) (l:yav),aL (.lst t (l.map Lm))=.lst false (l.map Lm):=fun t l=>by rw[bo,rV]
 rw[ep,ut,ut,nX,iH];obtain⟨Z,Zl,Vj⟩:=St.zs;have cz:∀j,(aX ((Lw yss).take j) (F0 yss)).length<=300000/\∀p∈aX ((Lw yss).take j) (F0 yss),0<p.1/\CB 40 p:=fun j=>⟨NW (Vj j).len Zl,fun p hp=>⟨((Vj j).pr p hp).pos,(Vj j).cb p hp⟩⟩
 have gbd:∀g∈Lw yss,Bd 200 g.1/\Bd 200 g.2.1/\Bd 200 g.2.2:=fun g hg=>by have B:=(St.gb g hg).1;exact⟨B.c.mono (by decide),B.a.mono (by decide),B.b.mono (by decide)⟩
 have lG:(Lw yss).length<=50:=by unfold Lw;rw[K8];exact ol
 refine⟨St.pos,by lia,fun j _=>cz j,gbd,?_⟩;cases hc:aX (Lw yss) (F0 yss)with
 |nil =>
  refine⟨[],.inl ⟨true,rfl⟩,?_⟩;rw[K4 (show(((([]:yar).length:Nat):Int))=0 from rfl),rO,lh];obtain⟨last,hl,up,dn,⟨pk,sh⟩,hr0⟩:=zF St hc;refine⟨by lia,fun j _=>cz j,gbd,last,hl,up,dn,(pk,sh),hr0,?_⟩;have P:=J1 St hl hr0;have Rn:=wU L rk St P;have zl:(pk.zip sh).length<=3:=by rw[VH];have:=P.l3;lia
  have ex:gc (aT 0 yss) (pk.zip sh)=QD yss pk sh:=rfl;rw[bo,rT,lC,fC,ex];refine⟨zl,fun z hz=>⟨P.lt _ (UE (a:=z.1) (b:=z.2) hz).1,P.bs _ (UE (a:=z.1) (b:=z.2) hz).2⟩,fun x hx=>?_,fun n x hx=>?_,fun n=>?_,?_,fun ms pm sm=>⟨Rb _ _,hbar _ (xr L rk St P pm sm)⟩⟩
  ·have B:=(St.gb x.2 (LR.mpr ⟨x,hx,rfl⟩)).1;exact⟨B.c.mono (by decide),B.a.mono (by decide),B.b.mono (by decide)⟩
  ·have q:=((Rn n).ok x hx).2;have ln:((QD yss pk sh).take n).length<=n:=by rw[Qj];lia
   exact⟨q.c.mono (by lia),q.a.mono (by lia),q.b.mono (by lia)⟩
  ·have q:=(Rn n).le;rw[Qj]at q
   lia
  ·have q:=(Rn (QD yss pk sh).length).nd;rw[QZ]at q;exact q
 |cons y rest =>
  have ym:y∈aX (Lw yss) (F0 yss):=by rw[hc];simp
  obtain⟨mx,MO⟩:=Ad L rk St ym;have U1:Mm ((y::rest).map Lm) 0=some (Lm y):=aU (j:=0) rfl;have fin:=hm y _ MO;refine⟨_,.inl ⟨true,rfl⟩,?_⟩;rw[K3 (by rw[K8,Oj];lia),ql];generalize y::rest=cs at U1 ⊢;refine⟨_,U1,?_⟩;refine PD.comp_map Ls bg (fun _=>true) (fun ps=>oS ((cq (ps.map (Lf y)) (cP ps.length)).getD ([],[]))) (fun R q=>?_) (by have:=L.l8;rw[sizeLine_eq];lia) (fun x hx K hK=>?_) (fun ps pm _ K hK=>?_) ?_
  ·walk_at "x";exact q
  ·walk_at "x";exact hK
  ·walk_at "x";refine⟨_,U1,?_⟩;rw[cX];show jy κ [.lst false (ps.map Ll),T3 y.1 y.2.1 y.2.2] _ _;rw[mP,gI];refine⟨L.ne ps pm,L.le ps pm,fun p hp=>((L.bd ps pm p hp).mono (by decide)).sb,MO.cb.pb MO.pr,_,mx ps pm,?_⟩;exact⟨_,rfl,by show¬(HT.LP 3 0 (some 1)=0/\_);exact fun z=>absurd z.1 (by decide),hK⟩
  ·rw[Pe.mpr (fun _ _=>rfl)];refine⟨Ra _ _ _,?_⟩;unfold oP at fin;rw[MJ]at fin;exact fin
def wM (F:aw K "_law_whole" "_law_whole" kG f fd) (C:Ml K mg κ)   (NF:mg "bool" = none) (OP:mg "int" = none) (K0:mg "isinstance" = none):aJ P w K mg base (CX1 P w) 1 f fd ["_law_found"] (aK K (j1 κ)):=by
 refine aw.okN F w4 (by walk_at "l") fun Lv A outer s H E hr=>⟨_,(aj (au (iC (cf (by rfl) K0 (by rfl) OP boot_int (.inl rfl) (dv 0)) (kT (HG (cf (by rfl) K0 (by rfl) NF boot_bool (.inr (.inl rfl)) (dv 0))))))),?_⟩
 rintro ds Q Ed ⟨a,rfl,h⟩;walk_at "s";unfold gG at h;walk_at "x";exact h
def sO (F:aw K "_law_cell_at" "_law_cell_at" i4 f fd) (C:Ml K mg κ)   (K5:mg "len" = none):aJ P w K mg base (CX1 P w) 1 f fd ["_law_script", "_law_k"] (aK K (ib κ)):=by
 refine aw.okN F tw (by walk_at "l") fun Lv A outer s H E hr=>⟨_,(ah (aR (aB cK (dv 1) (aD aS (by rfl) K5 Nh (aa (dv 0) af))) (aj (au (ai (dv 0) (dv 1)))) aE) (aj (au ae))),?_⟩
 rintro ds Q Ed ⟨ns,k,rfl,h⟩;walk_at "s";unfold fg at h;obtain⟨hk,hn,h⟩:=h;walk_at "x";by_cases hl:k<((ns.map D.int).length:Int)
 ·rw[K4 (by simpa using hl)];rw[K8]at hl;exact⟨_,CV hk hl,h _⟩
 ·rw[K3 (by simpa using hl)];exact h 0
def sP (F:aw K "_law_divisor" "_law_divisor" i5 f fd) (C:Ml K mg κ)   (Mt:mg "abs" = none):aJ P w K mg base (CX1 P w) 1 f fd ["_law_one", "_law_other"] (aK K (ic κ)):=by
 refine aw.okN F ft (by walk_at "l") fun Lv A outer s H E hr=>⟨_,(ah (aC 2 ft.nd (aD mX (by rfl) Mt boot_abs (aa (dv 0) af))) (ah (aC 3 ft.nd (aD mX (by rfl) Mt boot_abs (aa (dv 1) af))) (ah (lQ PassesOwn.never (aB fB (dv 3) ae) (aj (HL 2 3 rfl ft.nd (by decide) (aa (dv 3) (aa (ao bU (dv 2) (dv 3)) af))))) (aj (au (dv 2)))))),?_⟩
 rintro ds Q Ed ⟨a,b,rfl,h⟩;walk_at "s";unfold fh at h;walk_at "x";refine⟨fun m ρ=>∃(x y:Int),ρ=[some (.val (.int a)),some (.val (.int b)),some (.val (.int x)),some (.val (.int y))]/\Int.gcd x y=Int.gcd a b/\m=y.natAbs/\0<=x/\0<=y,⟨_,_,_,rfl,PM.FD a b,rfl,by lia,by lia⟩,?_⟩;rintro m ρ ⟨x,y,rfl,hg,rfl,hx,hy0⟩;walk_at "x";by_cases hy:y=0
 ·subst hy;rw[PM.ue]at hg;have:x=((x.natAbs:Nat):Int):=by lia
  rw[K4 rfl,this,hg];exact h
 ·rw[K3 hy];refine⟨hy,?_⟩;exact⟨_,PM.uc x hy,y,x.fmod y,rfl,(PM.vZ x y).trans hg,rfl,hy0,Yf x (by lia)⟩
def uH (F:aw K "_law_stream" "_law_stream" jV f fd) (C:Ml K mg κ)   (K7:mg "range" = none):aJ P w K mg base (CX1 P w) 1 f fd ["_law_cell", "_law_many"] (aK K (ja κ)):=by
 refine aw.okN F bB (by walk_at "l") fun Lv A outer s H E hr=>⟨_,(ah (jM 2 bB.nd af) (ah (aC 3 bB.nd (dv 0)) (ah (bu PassesOwn.never rfl (cn (by rfl) K7 (aa (dv 1) af)) (aP 4 bB.nd) (ah (eG 2 (ao bU (dv 3) (ao k9 ae ae))) (aj (aC 3 bB.nd (ao dJ (dv 3) (ao k9 ae ae)))))) (ah (aR (aB lY (dv 3) ae) (dj 2 (aj (au (dv 2)))) aE) (ah (jM 2 bB.nd af) (ah (aC 5 bB.nd (ao aQ (ao bU (dv 0) ae) ae)) (ah (aC 6 bB.nd (ao aQ (ao bU (ao dJ (dv 0) ae) ae) ae)) (ah (bu PassesOwn.never rfl (cn (by rfl) K7 (aa (dv 1) af)) (aP 4 bB.nd) (ah (aC 5 bB.nd (ao bU (ao aQ (ao aQ (ao aA (dv 5) ae) (ao aA (dv 4) (dv 4))) ae) ae)) (ah (aC 6 bB.nd (ao bU (ao aQ (ao aA (dv 6) ae) (dv 5)) ae)) (aj (eG 2 (ao dJ (dv 6) ae)))))) (dj 2 (aj (au (dv 2)))))))))))),?_⟩
 rintro ds Q Ed ⟨c,m,rfl,h⟩;walk_at "s";unfold fP at h;obtain⟨h0,h1,h⟩:=h;obtain⟨n,rfl⟩:∃n:Nat,m=n:=⟨m.toNat,by lia⟩;walk_at "x";refine⟨MK _,?_⟩;refine PD.aV (List.range' 0 n) (fun(k:Nat)=>D.int (k:Int)) (fun j ρ=>∃(xs:yaf) (r:Int) (v:Option Sl),ρ=[some (.val (.int c)),some (.val (.int n)),some (.own (xs.map D.int)),some (.val (.int r)),v,none,none]/\xs.length=j/\∀x∈xs,0<=x/\x<10000000000000) (fun R q=>?_) ⟨[],c,none,rfl,rfl,by simp⟩ ?_ ?_
 ·walk_at "x";rw[jQ];exact⟨⟨by lia,by lia⟩,q⟩
 ·rintro j k Ld hj ⟨xs,r,v,rfl,hlen,hb⟩;obtain⟨O3,_⟩:=L6.mp hj;rw[Nf]at O3;walk_at "x";rw[p13];have hf:=fm (a:=r) (b:=10000000000000) (by decide);refine⟨Hf,by decide,by rw[K8,sizeLine_eq];lia,Hf,CD.lit,xs++[r.fmod 10000000000000],_,_,by rw[M6];rfl,by simp[hlen],?_⟩;intro z hz;rcases Mc.mp hz with q|q
  ·exact hb z q
  ·simp at q;subst q;exact hf
 ·rintro Ld ⟨xs,r,v,rfl,hlen,hb⟩;rw[Nf]at hlen;walk_at "x";split
  ·exact h xs (by rw[hlen];lia) hb
  ·refine⟨MK _,by decide,CD.lit,by decide,?_⟩;refine PD.aV (List.range' 0 n) (fun(k:Nat)=>D.int (k:Int)) (fun j ρ=>∃(xs:yaf) (x y:Int) (v:Option Sl),ρ=[some (.val (.int c)),some (.val (.int n)),some (.own (xs.map D.int)),some (.val (.int r)),v,some (.val (.int x)),some (.val (.int y))]/\xs.length=j/\(∀x∈xs,0<=x/\x<10000000000000)) (fun R q=>?_) ⟨[],_,_,v,rfl,rfl,by simp⟩ ?_ ?_
   ·walk_at "x";rw[jQ];exact⟨⟨by lia,by lia⟩,q⟩
   ·rintro j k Ld hj ⟨xs,x,y,v,rfl,hlen,hb⟩;obtain⟨O3,ek⟩:=L6.mp hj;rw[Nf]at O3;rw[Ri]at ek;walk_at "x";have hf:=fm (a:=y*69621+(x*48271+(k:Int)*k+11).fmod 2147483647) (b:=2147483629) (by decide);generalize (x*48271+(k:Int)*k+11).fmod 2147483647=x1 at hf ⊢;generalize (y*69621+x1).fmod 2147483629=y1 at hf ⊢;refine⟨.inr (.inl (by unfold Bd;decide)),.inl (by unfold Bd;lia),by decide,.inr (.inl (by unfold Bd;decide)),by decide,CD.lit,by rw[K8,sizeLine_eq];lia,xs++[y1.fdiv 7],_,_,_,by rw[M6];rfl,by simp[hlen],?_⟩;intro z hz;rcases Mc.mp hz with q|q
    ·exact hb z q
    ·simp at q;subst q;have e:=Int.fdiv_eq_ediv_of_nonneg y1 (show(0:Int)<=7 by decide);rw[e]
     lia
   ·rintro Ld ⟨xs,x,y,v,rfl,hlen,hb⟩;rw[Nf]at hlen;walk_at "x";exact h xs (by rw[hlen];lia) hb
def xO (F:aw K "_law_spot" "_law_spot" me f fd) (C:Ml K mg κ)    : aJ P w K mg base (CX1 P w) 1 f fd ["_law_cell", "_law_kind"] (aK K (kO κ)):=by
 refine aw.okN F pK (by walk_at "l") fun Lv A outer s H E hr=>⟨_,(ah (aC 2 pK.nd (ao bU (ao aQ (ao aA (dv 0) ae) ae) ae)) (ah (aR (aB cu (dv 1) ae) (aj (au (bL (aa (ao bU (dv 2) ae) (aa (ao bU (ao dJ (dv 2) ae) ae) af))))) aE) (ah (aR (aB cu (dv 1) ae) (aj (au (bL (aa (ao bG (ao bU (dv 2) ae) ae) (aa (ao bG (ao bU (ao dJ (dv 2) ae) ae) ae) af))))) aE) (ah (aR (aB cu (dv 1) ae) (aj (au (bL (aa (ao bG (ao aA ae (ao bU (dv 2) ae)) ae) (aa (ao bG ae (ao bU (dv 2) ae)) af))))) aE) (aj (au (bL (aa (ao aQ (ao bG (ao bU (ao aA (dv 0) ae) (ao bG (ao aA ae (ao k9 ae ae)) ae)) (ao k9 ae ae)) ae) (aa (ao aQ (ao bG (ao bU (ao aA (dv 0) ae) (ao bG (ao aA ae (ao k9 ae ae)) ae)) (ao k9 ae ae)) ae) af))))))))),?_⟩
 rintro ds Q Ed ⟨c,k,rfl,h⟩;walk_at "s";unfold dO at h;have fin:∀a b:Int,Bd 40 a->Bd 40 b->Q (.tup [.int a,.int b]):=fun a b ha hb=>h (a,b) ⟨ha,hb⟩
 walk_at "x";refine⟨.inr (.inl (by unfold Bd;decide)),by decide,?_⟩;generalize (c*48271+11).fmod 2147483647=n;have f3:=fm (a:=n) (b:=3) (by decide);have g3:=fm (a:=n.fdiv 3) (b:=3) (by decide);have f9:=fm (a:=n) (b:=9) (by decide);have g9:=fm (a:=n.fdiv 9) (b:=9) (by decide);split
 ·exact⟨by decide,CD.lit,by decide,Rb _ _,fin _ _ (Uo 10 (by lia) (by decide)) (Uo 10 (by lia) (by decide))⟩
 ·split
  ·exact⟨by decide,CD.lit,by decide,Rb _ _,fin _ _ (Uo 10 (by lia) (by decide)) (Uo 10 (by lia) (by decide))⟩
  ·split
   ·exact⟨by decide,.inl (by unfold Bd;decide),by decide,Rb _ _,fin _ _ (Uo 30 (by lia) (by decide)) (Uo 10 (by lia) (by decide))⟩
   ·rw[p12];have fa:=fm (a:=c*7919) (b:=2*1000000000000 - 1) (by decide);have fb:=fm (a:=c*104729) (b:=2*1000000000000 - 3) (by decide);exact⟨.inr (.inl (by unfold Bd;decide)),zK,.inl (by unfold Bd;decide),by decide,zK,.inr (.inl (by unfold Bd;decide)),zK,.inl (by unfold Bd;decide),by decide,zK,Rb _ _,fin _ _ (Uo 1000000000010 (by lia) (by decide)) (Uo 1000000000010 (by lia) (by decide))⟩
def rB (F:aw K "_law_is_place" "_law_is_place" hW f fd) (C:Ml K mg κ)  (LA:mK P w K mg base κ) (Lk:kr P w K mg base κ) (K0:mg "isinstance" = none) (K5:mg "len" = none) (Ly:mg "tuple" = none):aJ P w K mg base (CX1 P w) 2 f fd ["_law_found"] (aK K (et κ)):=by
 refine aw.okN F rK (by walk_at "l") fun Lv A outer s H E hr=>⟨_,(ah (aR (bP (bK (bE (cf (by rfl) K0 (by rfl) Ly boot_tuple (.inr (.inr (.inl rfl))) (dv 0)))) (dF (aB fB (aD aS (by rfl) K5 Nh (aa (dv 0) af)) ae))).pt (aj (au bW)) aE) (ah (aR (bP (bK (bE (aq Lk hr (aa (ai (dv 0) ae) af)))) (bP (bK (bE (aq Lk hr (aa (ai (dv 0) ae) af)))) (bP (bK (bE (aq Lk hr (aa (ai (dv 0) ae) af)))) (dF (aB cK (ai (dv 0) ae) ae))))).pt (aj (au bW)) aE) (aj (au (dE cu (aq LA hr (aa (aq LA hr (aa (ai (dv 0) ae) (aa (ai (dv 0) ae) af))) (aa (ai (dv 0) ae) af))) ae))))),?_⟩
 rintro ds Q Ed ⟨h0,h1,h2,rfl,h⟩;walk_at "s";unfold cS at h;obtain⟨⟨hp,hg⟩,h⟩:=h;have YE:0<h0:=hp;have g1:(((Int.gcd (Int.gcd h0 h1:Int) h2:Nat)):Int)=1:=by
  have e':((PM.g3 h0 h1 h2:Nat):Int)=1:=by rw[show PM.g3 h0 h1 h2=1 from hg];rfl
  exact e'
 walk_at "x";rw[K4 (by rfl),K3 (by lia),Qk g1];exact h
def sQ (F:aw K "_law_numbers" "_law_numbers" fQ f fd) (C:Ml K mg κ)  (Lk:kr P w K mg base κ) (K0:mg "isinstance" = none) (K5:mg "len" = none) (Lz:mg "list" = none):aJ P w K mg base (CX1 P w) 2 f fd ["_law_found"] (aK K (ig κ)):=by
 refine aw.okN F tB (by walk_at "l") fun Lv A outer s H E hr=>⟨_,(ah (aR (bP (bK (bE (cf (by rfl) K0 (by rfl) Lz boot_list (.inr (.inr (.inr (.inl rfl)))) (dv 0)))) (dF (aB (oQ (by exact hr.units)) (dv 0) (de af)))).pt (aj (au bW)) aE) (aj (au (dE cu (aD aS (by rfl) K5 Nh (aa (cw (by rfl) (by exact bA (osc:=ak fQ) (xs:=["_law_number"]) (ns:=[]) (by decide +kernel)) bf.nil (aZ (dv 0)) (fun _ _ _ _ _=>(Cr (bE (aq Lk hr (aa (dv 0) af))))) (fun _ _ _ _ _=>(dv 0))) af)) (aD aS (by rfl) K5 Nh (aa (dv 0) af)))))),?_⟩
 rintro ds Q Ed ⟨ns,rfl,h⟩;walk_at "s";unfold fi at h;obtain⟨l0,l1,h⟩:=h;walk_at "x";refine⟨MK _,(NQ.map (NQ.int 0)).ok,(NQ.lst (iS.nil 0)).ok,?_⟩;rw[K3 (by
  cases ns with
  |nil=>exact absurd l0 (by simp)
  |cons a r=>rw[LD,sD,Fv];simp)]
 refine PD.comp_map ns D.int (fun _=>true) D.int (fun R q=>?_) (by rw[sizeLine_eq];lia) (fun k hk K hK=>?_) (fun k hk _ K hK=>?_) ?_
 ·walk_at "x";exact q
 ·walk_at "x";exact hK
 ·walk_at "x";exact hK
 rw[Pe.mpr (fun _ _=>rfl)];refine⟨_,.inl ⟨_,rfl⟩,?_⟩;rw[Qk rfl];exact h
def xK (F:aw K "_law_part" "_law_part" ma f fd) (C:Ml K mg κ)  (LA:mK P w K mg base κ) (Mh:uC P w K mg base κ) (K0:mg "isinstance" = none) (K5:mg "len" = none) (K7:mg "range" = none) (Nv:mg "sum" = none) (Ly:mg "tuple" = none) (L4:mg "zip" = none):aJ P w K mg base (CX1 P w) 3 f fd ["_law_part_here", "_law_spots", "_law_here"] (aK K (iB κ)):=by
 refine aw.okN F bN (by walk_at "l") fun Lv A outer s H E hr=>⟨_,(ah (aR (bP (bK (bE (cf (by rfl) K0 (by rfl) Ly boot_tuple (.inr (.inr (.inl rfl))) (dv 0)))) (bP (aB fB (aD aS (by rfl) K5 Nh (aa (dv 0) af)) ae) (bP (bK (bE (aq Mh hr (aa (ai (dv 0) ae) af)))) (dF (bK (bE (aq Mh hr (aa (ai (dv 0) ae) af)))))))).pt (aj (au bW)) aE) (ah (aR (bP (aB fB (aD aS (by rfl) K5 Nh (aa (ai (dv 0) ae) af)) (aD aS (by rfl) K5 Nh (aa (ai (dv 0) ae) af))) (bP (aB lY (aD aS (by rfl) K5 Nh (aa (ai (dv 0) ae) af)) ae) (bP (aB cK (ai (ai (dv 0) ae) ae) ae) (dF (aB uS (ai (ai (dv 0) ae) (cg ae)) (aD aS (by rfl) K5 Nh (aa (dv 1) af))))))).pt (aj (au bW)) aE) (ah (bu PassesOwn.never rfl (j7 (by rfl) K7 (aa ae (aa (aD aS (by rfl) K5 Nh (aa (ai (dv 0) ae) af)) af))) (aP 3 bN.nd) (aj (aR (aB uS (ai (ai (dv 0) ae) (ao bG (dv 3) ae)) (ai (ai (dv 0) ae) (dv 3))) (aj (au bW)) aE))) (ah (aC 4 bN.nd ae) (ah (aC 5 bN.nd ae) (ah (aC 6 bN.nd ae) (ah (bu PassesOwn.never rfl (qZ (by rfl) L4 (aa (ai (dv 0) ae) (aa (ai (dv 0) ae) af))) (jN (n:=2) rfl (cH (aP 8 bN.nd) (cH (aP 9 bN.nd) jE))) (ah (aR (aB cK (dv 9) ae) (aj (au bW)) aE) (ah (aC 4 bN.nd (ao aQ (dv 4) (ao aA (dv 9) (ai (ai (dv 1) (dv 8)) ae)))) (ah (aC 5 bN.nd (ao aQ (dv 5) (ao aA (dv 9) (ai (ai (dv 1) (dv 8)) ae)))) (aj (aC 6 bN.nd (aq LA hr (aa (dv 6) (aa (dv 9) af))))))))) (ah (aC 7 bN.nd (aD (A0 rfl) (by rfl) Nv boot_sum (aa (ai (dv 0) ae) af))) (aj (au (iC (dE cu (dv 6) ae) (iC (dE cu (ao aA (dv 4) (ai (dv 2) ae)) (ao aA (ai (dv 2) ae) (dv 7))) (kT (dE cu (ao aA (dv 5) (ai (dv 2) ae)) (ao aA (ai (dv 2) ae) (dv 7)))))))))))))))),?_⟩
 rintro ds Q Ed ⟨d,ps,h0,h1,h2,rfl,h⟩;walk_at "s";unfold fF at h;obtain⟨pk,sh,rfl,I,hl,hb,hc,h⟩:=h;have ek:(pk.map fun(k:Nat)=>D.int (k:Int))=(pk.map fun(k:Nat)=>(k:Int)).map D.int:=by rw[MJ];rfl
 unfold du;rw[ek];have lk:(pk.map fun(k:Nat)=>(k:Int)).length=pk.length:=K8 _;have l0:=I.l0;have l3:=I.l3;have ls:=I.ls;have gk:∀i (hi:i<pk.length),(pk.map fun(k:Nat)=>(k:Int))[i]?=some ((pk[i]:Nat):Int):=fun i hi=>by rw[LZ,LM hi];rfl
 have gt:∀k,k<ps.length->ps[k]?=some (ps.getD k (0,0)):=fun k hk=>by rw[Mf,LM hk];rfl
 refine w6 (fun ρ=>ρ=[some (.val (.tup [.lst false ((pk.map fun(k:Nat)=>(k:Int)).map D.int),.lst false (sh.map D.int)])),some (.val (.lst false (ps.map Ll))),some (.val (T3 h0 h1 h2)),none,none,none,none,none,none,none]) ?_ fun K hK=>?_
 ·rintro Ld rfl;refine w6 (fun ρ=>ρ=[some (.val (.tup [.lst false ((pk.map fun(k:Nat)=>(k:Int)).map D.int),.lst false (sh.map D.int)])),some (.val (.lst false (ps.map Ll))),some (.val (T3 h0 h1 h2)),none,none,none,none,none,none,none]) ?_ fun K hK=>?_
  ·rintro Ld rfl;walk_at "x";refine PD.aV (List.range' 1 (pk.length - 1)) (fun(k:Nat)=>D.int (k:Int)) (fun _ ρ=>∃v3:Option Sl,ρ=[some (.val (.tup [.lst false ((pk.map fun(k:Nat)=>(k:Int)).map D.int),.lst false (sh.map D.int)])),some (.val (.lst false (ps.map Ll))),some (.val (T3 h0 h1 h2)),v3,none,none,none,none,none,none]) (fun R q=>?_) ⟨none,rfl⟩ ?_ ?_
   ·walk_at "x";rw[K8,lk];have:=oW 1 pk.length;rw[show((1:Nat):Int)=1 from rfl]at this;rw[this];exact⟨⟨by lia,by lia⟩,⟨by lia,by lia⟩,q⟩
   ·rintro j k Ld hj ⟨v3,rfl⟩;obtain⟨O3,ej⟩:=L6.mp hj;rw[Nf]at O3;rw[Ri,RH]at ej;obtain⟨k',rfl⟩:∃k',k=k'+1:=⟨j,by lia⟩;have hk:k'+1<pk.length:=by lia
    walk_at "x";have a1:Mm ((pk.map fun(k:Nat)=>(k:Int)).map D.int) (((k'+1:Nat):Int) - 1)=some (D.int ((pk[k']:Nat):Int)):=by rw[show(((k'+1:Nat):Int) - 1)=(k':Int)by lia];exact aU (j:=k') (by rw[LZ,gk k' (by lia)];rfl)
    refine⟨_,a1,_,aU (j:=k'+1) (by rw[LZ,gk (k'+1) hk];rfl),?_⟩;rw[eJ];refine⟨_,rfl,?_⟩;rw[K3 (by rw[decide_eq_true_eq];have:=RB.mp I.rise k' (k'+1) (by lia) hk (by lia);lia)];exact⟨_,rfl⟩
   ·rintro Ld ⟨v3,rfl⟩;have zl:(pk.zip sh).length=pk.length:=by rw[VH,ls,Nat.min_self]
    walk_at "x";refine PD.aV (pk.zip sh) (fun z=>D.tup [.int ((z.1:Nat):Int),.int z.2]) (fun j ρ=>∃v8 v9:Option Sl,Bd (940+j) (zX ps ((pk.zip sh).take j))/\Bd (940+j) (zY ps ((pk.zip sh).take j))/\ρ=[some (.val (.tup [.lst false ((pk.map fun(k:Nat)=>(k:Int)).map D.int),.lst false (sh.map D.int)])),some (.val (.lst false (ps.map Ll))),some (.val (T3 h0 h1 h2)),v3,some (.val (.int (zX ps ((pk.zip sh).take j)))),some (.val (.int (zY ps ((pk.zip sh).take j)))),some (.val (.int (bF 0 (sh.take j)))),none,v8,v9]) (fun R q=>?_) ⟨none,none,by unfold zX Bd;exact Nat.pow_pos (by decide),by unfold zY Bd;exact Nat.pow_pos (by decide),rfl⟩ ?_ ?_
    ·walk_at "x";rw[xn];exact q
    ·rintro j z Ld hz ⟨v8,v9,bx,bY,rfl⟩;have Ut:pk[j]?=some z.1/\sh[j]?=some z.2:=by
      obtain⟨i,e⟩:=L6.mp hz;rw[List.getElem_zip]at e;rw[zl]at i;rw[LM i,LM (by lia),<- e];exact⟨rfl,rfl⟩
     have zm:=Mz Ut.1;have sm:=Mz Ut.2;have zp:=I.pos z.2 sm;have zb:=I.bd z.2 sm;have hk:=I.lt z.1 zm;have wb:=hb _ (Mz (gt z.1 hk));have tz:(pk.zip sh).take (j+1)=(pk.zip sh).take j++[z]:=by rw[SR,hz];rfl
     have ts:sh.take (j+1)=sh.take j++[z.2]:=by rw[SR,Ut.2];rfl
     have eX:zX ps ((pk.zip sh).take (j+1))=zX ps ((pk.zip sh).take j)+z.2*(ps.getD z.1 (0,0)).1:=by rw[tz];unfold zX;simp
     have eY:zY ps ((pk.zip sh).take (j+1))=zY ps ((pk.zip sh).take j)+z.2*(ps.getD z.1 (0,0)).2:=by rw[tz];unfold zY;simp
     rw[eX,eY,ts,nr];have Pc:Mm (ps.map Ll) ((z.1:Nat):Int)=some (.tup [.int (ps.getD z.1 (0,0)).1,.int (ps.getD z.1 (0,0)).2]):=aU (by rw[LZ,gt z.1 hk];rfl);walk_at "x";rw[K3 (by lia)];refine⟨_,Pc,?_⟩;walk_at "x";refine⟨NM zb wb.x,_,Pc,?_⟩;walk_at "x";exact⟨NM zb wb.y,_,_,bx.add ((zb.mul wb.x).mono (by lia)),bY.add ((zb.mul wb.y).mono (by lia)),rfl⟩
    ·rintro Ld ⟨v8,v9,bx,bY,rfl⟩;rw[QZ,Jy,Jz]at *;rw[zl,show sh.take pk.length=sh by rw[<- ls,QZ],I.one];rw[zl]at bx bY;have bs:=EZ sh I.bd;have b1:Bd 1000 (sX (pk.map fun k=>ps.getD k (0,0)) sh):=bx.mono (by lia);have b2:Bd 1000 (sY (pk.map fun k=>ps.getD k (0,0)) sh):=bY.mono (by lia);have b3:Bd 1000 sh.sum:=bs.mono (by lia);have c0:Bd 1000 h0:=hc.b.mono (by decide);have c1:Bd 1000 h1:=hc.x.mono (by decide);have c2:Bd 1000 h2:=hc.y.mono (by decide);have ex:sh.sum*h1=h0*sX (pk.map fun k=>ps.getD k (0,0)) sh:=I.x;have ey:sh.sum*h2=h0*sY (pk.map fun k=>ps.getD k (0,0)) sh:=I.y;walk_at "x";refine⟨_,_,rfl,NM b1 c0,NM c1 b3,?_⟩;rw[K4 (by rw[Nx,<- ex,Nx])];refine⟨NM b2 c0,NM c2 b3,?_⟩;rw[Qk (by rw[Nx,<- ey,Nx])];exact h
  ·walk_at "x";rw[K4 (by rw[K8,lk,K8,ls]),K3 (by rw[K8,lk];lia)];refine⟨_,aU (j:=0) (by rw[LZ,gk 0 l0];rfl),?_⟩;rw[eJ];refine⟨_,rfl,?_⟩;rw[K3 (by rw[decide_eq_true_eq];lia)];refine⟨_,tS (by rw[K8,lk];exact l0) (by rw[K8,lk,LZ,gk _ (by lia)];rfl),?_⟩;rw[eJ];refine⟨_,rfl,?_⟩;rw[K3 (by rw[decide_eq_true_eq,K8];have:=I.lt _ (PG (show pk.length - 1<pk.length by lia));lia)];exact hK _ rfl
 ·walk_at "x";rw[K4 (by rfl)];refine⟨by rw[lk];exact l0,by rw[lk];lia,by lia,by lia,hK _ rfl⟩
def wL (F:aw K "_law_meets" "_law_meets" kF f fd) (C:Ml K mg κ)  (Mx:sd P w K mg base κ) (NG:zq P w K mg base κ) (K0:mg "isinstance" = none) (K5:mg "len" = none) (Lz:mg "list" = none) (L4:mg "zip" = none):aJ P w K mg base (CX1 P w) 4 f fd ["_law_found", "_law_sets_here"] (aK K (jZ κ)):=by
 refine aw.okN F jX (by walk_at "l") fun Lv A outer s H E hr=>⟨_,(ah (aR (bP (aB fB (aD aS (by rfl) K5 Nh (aa (dv 0) af)) ae) (bP (bK (bE (aq Mx hr (aa (ai (dv 0) ae) af)))) (dF (bK (bE (cf (by rfl) K0 (by rfl) Lz boot_list (.inr (.inr (.inr (.inl rfl)))) (ai (dv 0) ae))))))).pt (aj (au bW)) aE) (ah (aR (aB fB (aD aS (by rfl) K5 Nh (aa (ai (dv 0) ae) af)) (aD aS (by rfl) K5 Nh (aa (dv 1) af))) (aj (au bW)) aE) (ah (bu PassesOwn.never rfl (qZ (by rfl) L4 (aa (ai (dv 0) ae) (aa (dv 1) af))) (jN (n:=2) rfl (cH (aP 2 jX.nd) (cH (aP 3 jX.nd) jE))) (aj (aR (bK (bE (aq NG hr (aa (dv 2) (aa (dv 3) (aa (ai (dv 0) ae) af)))))) (aj (au bW)) aE))) (aj (au bW))))),?_⟩
 rintro ds Q Ed ⟨d,Ls,rfl,h⟩;walk_at "s";unfold gF at h;obtain⟨y,rs,rfl,L,MO,h⟩:=h;have py:=MO.pr;have cy:=MO.cb;have ok:=MO.ok;have lr:=MO.len;have l8:=L.l8;unfold jh;walk_at "x";rw[K4 (by rfl)];show et κ [T3 y.1 y.2.1 y.2.2] _ _;rw[iM,cS];refine⟨py,true,rfl,?_⟩;rw[K3 (by simp),K4 (by rw[K8,K8,lr])];refine PD.aV (rs.zip Ls) (fun z=>D.tup [du z.1,bg z.2]) (fun _ ρ=>∃v2 v3:Option Sl,ρ=[some (.val (.tup [.str "meet", Lm y,.lst false (rs.map du)])),some (.val (.lst false (Ls.map bg))),v2,v3]) (fun R q=>?_) ⟨none,none,rfl⟩ ?_ ?_
 ·walk_at "x";rw[zip_parts];exact q
 ·rintro j z Ld hz ⟨v2,v3,rfl⟩;have Ut:rs[j]?=some z.1/\Ls[j]?=some z.2:=by
   obtain⟨i,e⟩:=L6.mp hz;rw[List.getElem_zip]at e;rw[VH,lr,Nat.min_self]at i;rw[LM (by lia),LM i,<- e];exact⟨rfl,rfl⟩
  obtain⟨hj,_⟩:=L6.mp Ut.2;have pm:=Mz Ut.2;have K:=ok j hj;rw[Mf,Ut.2,Mf,Ut.1]at K;walk_at "x";rw[kR];show iB κ [du z.1,.lst false (z.2.map Ll),T3 y.1 y.2.1 y.2.2] _ _;rw[lH,fF];refine⟨z.1.1,z.1.2,rfl,K,L.le _ pm,L.bd _ pm,cy,true,rfl,?_⟩;rw[K3 (by simp)];exact⟨_,_,rfl⟩
 ·rintro Ld ⟨v2,v3,rfl⟩;walk_at "x";exact h
def Ai (F:aw K "_law_row" "_law_row" nL f fd) (C:Ml K mg κ)  (Lk:kr P w K mg base κ) (K0:mg "isinstance" = none) (K5:mg "len" = none) (Ly:mg "tuple" = none):aJ P w K mg base (CX1 P w) 2 f fd ["_law_row_here", "_law_sets_here"] (aK K (mv κ)):=by
 refine aw.okN F jv (by walk_at "l") fun Lv A outer s H E hr=>⟨_,(ah (aR (bP (bK (bE (cf (by rfl) K0 (by rfl) Ly boot_tuple (.inr (.inr (.inl rfl))) (dv 0)))) (bP (aB fB (aD aS (by rfl) K5 Nh (aa (dv 0) af)) ae) (bP (bK (bE (aq Lk hr (aa (ai (dv 0) ae) af)))) (bP (aB cK (ai (dv 0) ae) ae) (dF (aB uS (ai (dv 0) ae) (aD aS (by rfl) K5 Nh (aa (dv 1) af)))))))).pt (aj (au bW)) aE) (ah (aR (bP (bK (bE (cf (by rfl) K0 (by rfl) Ly boot_tuple (.inr (.inr (.inl rfl))) (ai (dv 0) ae)))) (dF (aB fB (aD aS (by rfl) K5 Nh (aa (ai (dv 0) ae) af)) ae))).pt (aj (au bW)) aE) (ah (bu PassesOwn.never rfl (Br (ai (dv 0) ae)) (aP 2 jv.nd) (aj (aR (bK (bE (aq Lk hr (aa (dv 2) af)))) (aj (au bW)) aE))) (ah (bu PassesOwn.never rfl (aZ (ai (dv 1) (ai (dv 0) ae))) (jN (n:=2) rfl (cH (aP 3 jv.nd) (cH (aP 4 jv.nd) jE))) (aj (aR (aB cK (ao aQ (ao aQ (ai (ai (dv 0) ae) ae) (ao aA (ai (ai (dv 0) ae) ae) (dv 3))) (ao aA (ai (ai (dv 0) ae) ae) (dv 4))) ae) (aj (au bW)) aE))) (aj (au bW)))))),?_⟩
 rintro ds Q Ed ⟨d,Ls,rfl,h⟩;walk_at "s";unfold jk at h;obtain⟨⟨o,g0,g1,g2⟩,rfl,L,⟨i,hi,ei,ov⟩,tb,h⟩:=h;have SG:Ls[i]?=some (Ls.getD i []):=by rw[Mf,LM hi];rfl
 have pm:=Mz SG;dsimp only at ei ov tb;subst ei;show _;rw[show Nu ((i:Int),g0,g1,g2)=D.tup [.int (i:Int),.tup [.int g0,.int g1,.int g2]]from rfl];walk_at "x";rw[K4 (by rfl),K3 (by lia),K3 (by rw[K8];lia),K4 (by rfl)];refine PD.aV [g0,g1,g2] (fun n=>D.int n) (fun _ ρ=>∃v2:Option Sl,ρ=[some (.val (.tup [.int (i:Int),.tup [.int g0,.int g1,.int g2]])),some (.val (.lst false (Ls.map bg))),v2,none,none]) (fun R q=>?_) ⟨none,rfl⟩ ?_ ?_
 ·walk_at "x";exact q
 ·rintro j n Ld hn ⟨v2,rfl⟩;walk_at "x";exact⟨_,rfl⟩
 ·rintro Ld ⟨v2,rfl⟩;have Pc:Mm (Ls.map bg) (i:Int)=some (.lst false ((Ls.getD i []).map Ll)):=aU (by rw[LZ,SG];rfl);walk_at "x";refine PD.aV (Ls.getD i []) Ll (fun _ ρ=>∃v3 v4:Option Sl,ρ=[some (.val (.tup [.int (i:Int),.tup [.int g0,.int g1,.int g2]])),some (.val (.lst false (Ls.map bg))),v2,v3,v4]) (fun R q=>?_) ⟨none,none,rfl⟩ ?_ ?_
  ·walk_at "x";exact⟨_,Pc,_,_,rfl,q⟩
  ·rintro j p Ld hp ⟨v3,v4,rfl⟩;have pp:=Mz hp;have wb:=L.bd _ pm p pp;have o:=ov p pp;unfold Ll;walk_at "x";refine⟨NM tb.a wb.x,NM tb.b wb.y,?_⟩;rw[K3 (by unfold KZ at o;dsimp only at o;lia)];exact⟨_,_,rfl⟩
  ·rintro Ld ⟨v3,v4,rfl⟩;walk_at "x";exact h
def xI (F:aw K "_law_bars" "_law_bars" jt f fd) (C:Ml K mg κ)  (N8:AK P w K mg base κ) (K0:mg "isinstance" = none) (K5:mg "len" = none) (Lz:mg "list" = none) (L4:mg "zip" = none):aJ P w K mg base (CX1 P w) 3 f fd ["_law_found", "_law_sets_here"] (aK K (kL κ)):=by
 refine aw.okN F dP (by walk_at "l") fun Lv A outer s H E hr=>⟨_,(ah (aR (bP (aB fB (aD aS (by rfl) K5 Nh (aa (dv 0) af)) ae) (bP (bK (bE (cf (by rfl) K0 (by rfl) Lz boot_list (.inr (.inr (.inr (.inl rfl)))) (ai (dv 0) ae)))) (bP (aB cK (aD aS (by rfl) K5 Nh (aa (ai (dv 0) ae) af)) ae) (dF (aB lY (aD aS (by rfl) K5 Nh (aa (ai (dv 0) ae) af)) ae))))).pt (aj (au bW)) aE) (ah (aC 2 dP.nd (de (aa ae (aa ae (aa ae af))))) (ah (aC 3 dP.nd (cg ae)) (ah (bu PassesOwn.never rfl (aZ (ai (dv 0) ae)) (aP 4 dP.nd) (ah (aR (bP (bK (bE (aq N8 hr (aa (dv 4) (aa (dv 1) af))))) (dF (aB uT (ai (dv 4) ae) (dv 3)))).pt (aj (au bW)) aE) (ah (aC 3 dP.nd (ai (dv 4) ae)) (aj (xw 2 dP.nd (by rfl) (by exact bA (osc:=ak jt) (xs:=["_law_here", "_law_there"]) (ns:=[]) (by decide +kernel)) bf.nil (.cons (.cons .nil)) (qZ (by rfl) L4 (aa (dv 2) (aa (ai (dv 4) ae) af))) (fun _ _ _ _ _=>bR) (fun _ _ _ _ _=>(ao aQ (dv 0) (dv 1)))))))) (aj (au (iC (dE cK (ai (dv 2) ae) ae) (iC (dE cu (ai (dv 2) ae) ae) (kT (dE cu (ai (dv 2) ae) ae)))))))))),?_⟩
 rintro ds Q Ed ⟨d,Ls,rfl,h⟩;walk_at "s";unfold ix at h;obtain⟨rs,rfl,L,B,h⟩:=h;have l2:=B.l2;have l3:=B.l3;unfold lM;walk_at "x";rw[K4 (by rfl)];rw[K3 (by rw[K8];lia),K3 (by rw[K8];lia)];refine⟨Ra _ _ _,?_⟩;refine PD.aV rs Nu (fun j ρ=>∃(l:Int) (v:Option Sl),(∀x∈rs.drop j,l<x.1)/\ρ=[some (.val (.tup [.str "bar", .lst false (rs.map Nu)])),some (.val (.lst false (Ls.map bg))),some (.val (.lst true [.int ((rs.take j).map fun x=>x.2.1).sum,.int ((rs.take j).map fun x=>x.2.2.1).sum,.int ((rs.take j).map fun x=>x.2.2.2).sum])),some (.val (.int l)),v]) (fun R q=>?_) ⟨-1,none,fun x hx=>?_,rfl⟩ ?_ ?_
 ·walk_at "x";exact q
 ·obtain⟨i,_,e,_⟩:=B.own x (by simpa using hx);rw[e];lia
 ·rintro j x Ld hx ⟨l,v,MR,rfl⟩;have xm:=Mz hx;obtain⟨hj,ex⟩:=L6.mp hx;have dr:rs.drop j=x::rs.drop (j+1):=by rw[SH hj,ex]
  have tk:rs.take (j+1)=rs.take j++[x]:=by rw[List.take_add_one,hx];rfl
  have lx:l<x.1:=MR x (by rw[dr];simp);have ex':Nu x=D.tup [.int x.1,.tup [.int x.2.1,.int x.2.2.1,.int x.2.2.2]]:=rfl;walk_at "x";refine⟨x,rfl,L,B.own x xm,B.bd x xm,?_⟩;rw[ex'];walk_at "x";rw[K3 (by lia)];generalize hs0:((rs.take j).map fun x=>x.2.1).sum=s0;generalize hs1:((rs.take j).map fun x=>x.2.2.1).sum=s1;generalize RT:((rs.take j).map fun x=>x.2.2.2).sum=s2;refine PD.tY [(s0,x.2.1),(s1,x.2.2.1),(s2,x.2.2.2)] (fun z=>[.int z.1,.int z.2]) (fun _=>true) (fun z=>.int (z.1+z.2)) (fun R q=>?_) (by rw[sizeLine_eq];show 3<=16777216;decide) (fun _=>rfl) (fun z hz K hk=>?_) (fun z hz _ K hk=>?_) ?_
  ·walk_at "x";exact q
  ·walk_at "x";exact hk
  ·walk_at "x";exact hk
  ·rw[Pe.mpr (fun _ _=>rfl),tk];refine⟨x.1,some (.val (.tup [.int x.1,.tup [.int x.2.1,.int x.2.2.1,.int x.2.2.2]])),fun w hw=>?_,?_⟩
   ·have q:=B.rise;rw[<- Vu j rs,dr,M6,LD]at q;exact(O7.mp (Wk.mp q).2.1).1 w.1 (LR.mpr ⟨w,hw,rfl⟩)
   ·simp only[M6,List.sum_append,LD,Q4,Ov,T4,Rp,hs0,hs1,RT]
 ·rintro Ld ⟨l,v,_,rfl⟩;have c0:=B.c0;have a0:=B.a0;have b0:=B.b0;rw[QZ,a0,b0];generalize (rs.map fun x=>x.2.1).sum=s at c0 ⊢;walk_at "x";rw[K4 c0,Qk True.intro];exact h
def xJ (F:aw K "_law_good" "_law_good" l9 f fd) (C:Ml K mg κ)  (NH:zj P w K mg base κ) (Nd:xo P w K mg base κ) (K0:mg "isinstance" = none) (K5:mg "len" = none) (OQ:mg "str" = none) (Ly:mg "tuple" = none):aJ P w K mg base (CX1 P w) 5 f fd ["_law_found", "_law_sets_here"] (aK K (fJ κ)):=by
 refine aw.okN F xS (by walk_at "l") fun Lv A outer s H E hr=>⟨_,(ah (aR (bP (bK (bE (cf (by rfl) K0 (by rfl) Ly boot_tuple (.inr (.inr (.inl rfl))) (dv 0)))) (bP (aB cK (aD aS (by rfl) K5 Nh (aa (dv 0) af)) ae) (dF (bK (bE (cf (by rfl) K0 (by rfl) OQ boot_str (.inr (.inr (.inr (.inr rfl)))) (ai (dv 0) ae))))))).pt (aj (au bW)) aE) (ah (aR (aB (oQ (by exact hr.units)) (ai (dv 0) ae) iD) (aj (au (aq Nd hr (aa (dv 0) (aa (dv 1) af))))) aE) (aj (au (iC (dE (oQ (by exact hr.units)) (ai (dv 0) ae) iD) (kT (aq NH hr (aa (dv 0) (aa (dv 1) af))))))))),?_⟩
 rintro ds Q Ed ⟨d,Ls,rfl,h⟩;walk_at "s";unfold dN at h;obtain⟨L,alt,h⟩:=h;have sM:PyData.strOk "meet" = true:=by decide +kernel
 have sB:PyData.strOk "bar" = true:=by decide +kernel
 have Vn:okD (.str "meet"):=(oR 0 _ sM).ok;have TJ:okD (.str "bar"):=(oR 0 _ sB).ok;have nMB:eqD (.str "bar") (.str "meet")=false:=by rw[sE];decide +kernel
 rcases alt with⟨y,rs,rfl,MO⟩| ⟨rs,rfl,B⟩
 ·have u:aL (jh y rs)=jh y rs:=by
   unfold jh;simp only[bV,bq,bD,bo,iP,cX];rw[cc du kR]
  have e:jh y rs=D.tup [.str "meet", Lm y,.lst false (rs.map du)]:=rfl;walk_at "x";rw[e];walk_at "x";rw[K3 (by show¬((3:Int)<2);decide),K3 (show¬RP "str" (D.str "meet")=false from fun z=>by cases z)];refine⟨Vn,Vn,?_⟩;rw[K4 (fT _)];exact⟨y,rs,by rw[cc du kR];rfl,L,MO,h⟩
 ·have u:aL (lM rs)=lM rs:=by
   unfold lM;simp only[bV,bq,bD,bo,iP,mD]
  have e:lM rs=D.tup [.str "bar", .lst false (rs.map Nu)]:=rfl;walk_at "x";rw[e];walk_at "x";rw[K3 (by show¬((2:Int)<2);decide),K3 (show¬RP "str" (D.str "bar")=false from fun z=>by cases z)];refine⟨TJ,Vn,?_⟩;rw[K3 (by rw[nMB];simp)];refine⟨TJ,TJ,?_⟩;rw[K4 (fT _)];exact⟨rs,rfl,L,B,h⟩
def xM (F:aw K "_law_sets" "_law_sets" ju f fd) (C:Ml K mg κ)  (Mi:uB P w K mg base κ) (MY:zu P w K mg base κ) (MZ:uY P w K mg base κ) (K5:mg "len" = none) (K7:mg "range" = none):aJ P w K mg base (CX1 P w) 2 f fd ["_law_script"] (aK K (kM κ)):=by
 refine aw.okN F bO (by walk_at "l") fun Lv A outer s H E hr=>⟨_,(ah (aC 1 bO.nd (aq Mi hr (aa (dv 0) (aa ae af)))) (ah (aC 2 bO.nd (ao aQ ae (ao bU (dv 1) ae))) (ah (aC 3 bO.nd (ao bU (ao dJ (dv 1) ae) ae)) (ah (aC 4 bO.nd (aq MZ hr (aa (aq Mi hr (aa (dv 0) (aa ae af))) (aa (ao aA ae (dv 2)) af)))) (ah (zS 5 bO.nd (by rfl) (by exact bA (osc:=ak ju) (xs:=["_law_k"]) (ns:=[]) (by decide +kernel)) bf.nil (cn (by rfl) K7 (aa (dv 2) af)) (fun _ _ _ _ _=>(HR (Fo af)))) (ah (aC 6 bO.nd ae) (ah (bu PassesOwn.never rfl (cn (by rfl) K7 (aa ae af)) (aP 7 bO.nd) (aj (bu PassesOwn.never rfl (cn (by rfl) K7 (aa (dv 2) af)) (aP 8 bO.nd) (aj (aR (vQ (aB uT (dv 7) (ao bU (ai (dv 4) (ao aA ae (dv 8))) ae)) (sC (aB cK (dv 6) (aD aS (by rfl) K5 Nh (aa (dv 0) af))))).pt (ah (yw 5 (dv 8) (aq MY hr (aa (ai (dv 0) (dv 6)) (aa (dv 3) af)))) (aj (aC 6 bO.nd (ao aQ (dv 6) ae)))) aE))))) (ah (bu PassesOwn.never rfl (cn (by rfl) K7 (aa (dv 2) af)) (aP 8 bO.nd) (aj (aR (Di 5 (aB (oQ (by exact hr.units)) (ai (dv 5) (dv 8)) (de af))) (aj (yw 5 (dv 8) (aq MY hr (aa (ai (dv 4) (ao aQ (ao aA ae (dv 8)) ae)) (aa (dv 3) af))))) aE))) (xy 5 (aj (au (dv 5)))))))))))),?_⟩
 rintro ds Q Ed ⟨ns,rfl,h⟩;walk_at "s";unfold iy at h;obtain⟨hl,h⟩:=h;walk_at "x";refine⟨by decide,hl,fun v=>⟨by decide,CD.lit,by decide,by decide,hl,fun v1=>?_⟩⟩;have f3:=fm (a:=v) (b:=3) (by decide);have f4:=fm (a:=v.fdiv 3) (b:=4) (by decide);refine⟨.inl (by unfold Bd;decide),by lia,by lia,fun xs xl xb=>?_⟩;obtain⟨n,en⟩:∃n:Nat,3+v.fmod 3=(n:Int):=⟨(3+v.fmod 3).toNat,by lia⟩;have n3:3<=n:=by lia
 have n5:n<=5:=by lia
 rw[en]at xl ⊢;have xl':xs.length=2*n:=by rw[xl];lia
 generalize (v.fdiv 3).fmod 4=kd;clear f3 f4;have ax:∀i:Nat,i<2*n->Mm (xs.map D.int) (i:Int)=some (.int (xs.getD i 0)):=fun i hi=>aU (by rw[LZ,Mf,LM (by lia)];rfl)
 rw[jQ];refine⟨⟨by lia,by lia⟩,by rw[K8,Nf,sizeLine_eq];lia,fun j out=>out=(List.replicate j ([]:yat)).map dU,rfl,?_,?_⟩
 ·rintro j d out hd rfl;refine⟨MK _,?_⟩;show _=_;rw[List.replicate_succ',M6];rfl
 rintro out rfl;rw[K8,Nf];walk_at "x";refine PD.aV (List.range' 0 5) (fun(k:Nat)=>D.int (k:Int)) (fun j ρ=>∃(Ls:yas) (a:Nat) (v7 v8:Option Sl),Ls.length=n/\(∀ps∈Ls,ps.length<=j/\∀p∈ps,WB 40 p)/\ρ=[some (.val (.lst false (ns.map D.int))),some (.val (.int v)),some (.val (.int (n:Int))),some (.val (.int kd)),some (.val (.lst true (xs.map D.int))),some (.ob (.ll (Ls.map dU))),some (.val (.int (a:Int))),v7,v8]) (fun R q=>?_) ⟨List.replicate n [],2,none,none,by simp,fun ps pm=>by rw[List.eq_of_mem_replicate pm];exact⟨MK _,fun p hp=>by cases hp⟩,rfl⟩ ?_ ?_
 ·walk_at "x";have e:=jQ 5;rw[show((5:Nat):Int)=5 from rfl]at e;rw[e];exact⟨⟨by decide,by decide⟩,q⟩
 ·rintro j j' Ld hj0 ⟨Ls,a,v7,v8,ln,ok,rfl⟩;obtain⟨hj,ej⟩:=L6.mp hj0;rw[Nf]at hj;rw[Ri,OZ,RH]at ej;subst ej;walk_at "x";refine PD.aV (List.range' 0 n) (fun(k:Nat)=>D.int (k:Int)) (fun k ρ=>∃(Ls:yas) (a:Nat) (v8:Option Sl),Ls.length=n/\(∀i ps,Ls[i]?=some ps->(ps.length<=j+1/\(k<=i->ps.length<=j))/\∀p∈ps,WB 40 p)/\ρ=[some (.val (.lst false (ns.map D.int))),some (.val (.int v)),some (.val (.int (n:Int))),some (.val (.int kd)),some (.val (.lst true (xs.map D.int))),some (.ob (.ll (Ls.map dU))),some (.val (.int (a:Int))),some (.val (.int (j:Int))),v8]) (fun R q=>?_) ⟨Ls,a,v8,ln,fun i ps hi=>?_,rfl⟩ ?_ ?_
  ·walk_at "x";rw[jQ];exact⟨⟨by lia,by lia⟩,q⟩
  ·have q:=ok ps (Mz hi);exact⟨⟨by lia,fun _=>q.1⟩,q.2⟩
  ·rintro k k' Ld X6 ⟨Ls,a,v8,ln,ok,rfl⟩;obtain⟨hk,ek⟩:=L6.mp X6;rw[Nf]at hk;rw[Ri,OZ,RH]at ek;subst ek;have Us:Ls[k]?=some (Ls.getD k []):=by rw[Mf,LM (by lia)];rfl
   have a2:=ax (2*k) (by lia);rw[show((2*k:Nat):Int)=2*(k:Int)by lia]at a2;have up:∀i ps,Ls[i]?=some ps->(ps.length<=j+1/\(k+1<=i->ps.length<=j))/\∀p∈ps,WB 40 p:=fun i ps hi=>⟨⟨(ok i ps hi).1.1,fun z=>(ok i ps hi).1.2 (by lia)⟩,(ok i ps hi).2⟩
   walk_at "x";refine⟨.inl (by unfold Bd;decide),_,a2,?_⟩;walk_at "x";refine⟨by decide,?_⟩;split
   ·split
    ·rename_i c1 c2;rw[K8]at c2;have an:ns[a]?=some (ns.getD a 0):=by rw[Mf,LM (by lia)];rfl
     have ata:Mm (ns.map D.int) ((a:Nat):Int)=some (.int (ns.getD a 0)):=aU (by rw[LZ,an];rfl);refine⟨(k:Int),k,(Ls.getD k []).map Ll,rfl,Bz (by rw[K8];lia),by rw[LZ,Us];rfl,_,ata,?_⟩;rw[cV,ij,dO];intro p hp;have lk:=ok k _ Us;have eO:(Ls.map dU).set k (LI.own ((Ls.getD k []).map Ll++[Ll p]))=(Ls.set k (Ls.getD k []++[p])).map dU:=by rw[List.map_set];unfold dU;rw[M6];rfl
     have l1:=lk.1.2 (LG _);refine⟨by rw[K8,sizeLine_eq];lia,Ls.set k (Ls.getD k []++[p]),a+1,some (.val (.int (k:Int))),by rw[SO];exact ln,fun i ps hi=>?_,?_⟩
     ·by_cases ik:i=k
      ·subst ik;rw[Ou (by lia)]at hi;cases hi;refine⟨⟨by rw[MG,Sn];lia,fun z=>absurd z (by lia)⟩,fun q hq=>?_⟩;rcases Mc.mp hq with q'|q'
       ·exact lk.2 q q'
       ·rw[M4.mp q'];exact hp
      ·rw[NK (Ne.symm ik)]at hi;exact up i ps hi
     ·rw[eO];rfl
    ·exact⟨Ls,a,_,ln,up,rfl⟩
   ·exact⟨Ls,a,_,ln,up,rfl⟩
  ·rintro Ld ⟨Ls,a,v8,ln,ok,rfl⟩;exact⟨Ls,a,_,_,ln,fun ps pm=>by obtain⟨i,hi⟩:=Yk pm;exact⟨(ok i ps hi).1.1,(ok i ps hi).2⟩,rfl⟩
 ·rintro Ld ⟨Ls,a,v7,v8,ln,ok,rfl⟩;walk_at "x";refine PD.aV (List.range' 0 n) (fun(k:Nat)=>D.int (k:Int)) (fun k ρ=>∃(Ls:yas) (v8:Option Sl),Ls.length=n/\(∀i ps,Ls[i]?=some ps->ps.length<=5/\(i<k->0<ps.length)/\∀p∈ps,WB 40 p)/\ρ=[some (.val (.lst false (ns.map D.int))),some (.val (.int v)),some (.val (.int (n:Int))),some (.val (.int kd)),some (.val (.lst true (xs.map D.int))),some (.ob (.ll (Ls.map dU))),some (.val (.int (a:Int))),v7,v8]) (fun R q=>?_) ⟨Ls,v8,ln,fun i ps hi=>?_,rfl⟩ ?_ ?_
  ·walk_at "x";rw[jQ];exact⟨⟨by lia,by lia⟩,q⟩
  ·have q:=ok ps (Mz hi);exact⟨q.1,fun z=>absurd z (by lia),q.2⟩
  ·rintro k k' Ld X6 ⟨Ls,v8,ln,ok,rfl⟩;obtain⟨hk,ek⟩:=L6.mp X6;rw[Nf]at hk;rw[Ri,OZ,RH]at ek;subst ek;have Us:Ls[k]?=some (Ls.getD k []):=by rw[Mf,LM (by lia)];rfl
   have a2:=ax (2*k+1) (by lia);rw[show((2*k+1:Nat):Int)=2*(k:Int)+1 by lia]at a2;have Pc:Mm (Ls.map bg) (k:Int)=some (.lst false ((Ls.getD k []).map Ll)):=aU (by rw[LZ,Us];rfl);have lk:=ok k _ Us;walk_at "x";rw[El];refine⟨_,Pc,MK _,(BM false _).ok,(BM true []).ok,?_⟩;rw[eq_nil];by_cases c:Ls.getD k []=[]
   ·rw[K4 (Qk c)];refine⟨(k:Int),k,(Ls.getD k []).map Ll,rfl,Bz (by rw[K8];lia),by rw[LZ,Us];rfl,.inl (by unfold Bd;decide),_,a2,?_⟩;rw[cV,ij,dO];intro p hp;have eO:(Ls.map dU).set k (LI.own ((Ls.getD k []).map Ll++[Ll p]))=(Ls.set k (Ls.getD k []++[p])).map dU:=by rw[List.map_set];unfold dU;rw[M6];rfl
    refine⟨by rw[K8,sizeLine_eq];lia,Ls.set k (Ls.getD k []++[p]),some (.val (.int (k:Int))),by rw[SO];exact ln,fun i ps hi=>?_,?_⟩
    ·by_cases ik:i=k
     ·subst ik;rw[Ou (by lia)]at hi;cases hi;rw[c];refine⟨by simp,fun _=>by simp,fun q hq=>?_⟩;rw[Pg]at hq;rw[M4.mp hq];exact hp
     ·rw[NK (Ne.symm ik)]at hi;exact⟨(ok i ps hi).1,fun z=>(ok i ps hi).2.1 (by lia),(ok i ps hi).2.2⟩
    ·rw[eO]
   ·rw[K3 (by rw[decide_eq_true_eq];exact c)];refine⟨Ls,_,ln,fun i ps hi=>⟨(ok i ps hi).1,fun z=>?_,(ok i ps hi).2.2⟩,rfl⟩;by_cases ik:i=k
    ·subst ik;rw[Us]at hi;cases hi;exact Ym.mpr c
    ·exact(ok i ps hi).2.1 (by lia)
  ·rintro Ld ⟨Ls,v8,ln,ok,rfl⟩;rw[Nf]at ok;have all:∀ps∈Ls,ps.length<=5/\0<ps.length/\∀p∈ps,WB 40 p:=fun ps pm=>by
    obtain⟨i,hi⟩:=Yk pm;have il:=(L6.mp hi).1;exact⟨(ok i ps hi).1,(ok i ps hi).2.1 (by lia),(ok i ps hi).2.2⟩
   walk_at "x";rw[Dn];exact h Ls ⟨by lia,by lia,fun ps pm=>(all ps pm).2.1,fun ps pm=>by have:=(all ps pm).1;lia,fun ps pm=>(all ps pm).2.2⟩ ⟨by lia,fun ps pm=>(all ps pm).1⟩
def xN (F:aw K "_law_some" "_law_some" md f fd) (C:Ml K mg κ)   (K7:mg "range" = none):aJ P w K mg base (CX1 P w) 1 f fd ["_law_many"] (aK K (kN κ)):=by
 refine aw.okN F fH (by walk_at "l") fun Lv A outer s H E hr=>⟨_,(ah (jM 1 fH.nd af) (ah (bu PassesOwn.never rfl (cn (by rfl) K7 (aa (dv 0) af)) (aP 2 fH.nd) (aj (bu PassesOwn.never rfl (j7 (by rfl) K7 (aa (ao aQ (dv 2) ae) (aa (dv 0) af))) (aP 3 fH.nd) (ah (eG 1 (de (aa (dv 2) (aa (dv 3) af)))) (aj (bu PassesOwn.never rfl (j7 (by rfl) K7 (aa (ao aQ (dv 3) ae) (aa (dv 0) af))) (aP 4 fH.nd) (aj (eG 1 (de (aa (dv 2) (aa (dv 3) (aa (dv 4) af)))))))))))) (dj 1 (aj (au (dv 1)))))),?_⟩
 rintro ds Q Ed ⟨m,rfl,h⟩;walk_at "s";unfold iz at h;obtain⟨n,rfl,hn,h⟩:=h;walk_at "x";refine⟨MK _,?_⟩;refine PD.aV (List.range' 0 n) (fun(k:Nat)=>D.int (k:Int)) (fun i ρ=>∃(ks:List (yag)) (v2 v3 v4:Option Sl),(∀k∈ks,0<k.length/\k.length<=3/\∀j∈k,j<n)/\ks.length<=100*i/\ρ=[some (.val (.int (n:Int))),some (.own (ks.map Np)),v2,v3,v4]) (fun R q=>?_) ⟨[],none,none,none,fun _ z=>(by cases z),MK _,rfl⟩ ?_ ?_
 ·walk_at "x";rw[jQ];exact⟨⟨by lia,by lia⟩,q⟩
 ·rintro i i' Ld hi0 ⟨ks,v2,v3,v4,hk,lk,rfl⟩;obtain⟨hi,ei⟩:=L6.mp hi0;rw[Nf]at hi;rw[Ri,OZ,RH]at ei;subst ei;walk_at "x";refine PD.aV (List.range' (i+1) (n - (i+1))) (fun(k:Nat)=>D.int (k:Int)) (fun a ρ=>∃(ks:List (yag)) (v3 v4:Option Sl),(∀k∈ks,0<k.length/\k.length<=3/\∀j∈k,j<n)/\ks.length<=100*i+10*a/\ρ=[some (.val (.int (n:Int))),some (.own (ks.map Np)),some (.val (.int (i:Int))),v3,v4]) (fun R q=>?_) ⟨ks,v3,v4,hk,by lia,rfl⟩ ?_ ?_
  ·walk_at "x";have e:=oW (i+1) n;rw[show((i+1:Nat):Int)=(i:Int)+1 by lia]at e;rw[e];exact⟨⟨by lia,by lia⟩,⟨by lia,by lia⟩,q⟩
  ·rintro a j' Ld ha0 ⟨ks,v3,v4,hk,lk,rfl⟩;obtain⟨ha,ea⟩:=L6.mp ha0;rw[Nf]at ha;rw[Ri,RH]at ea;have hj:j'<n:=by lia
   walk_at "x";refine⟨Rb _ _,by rw[K8,sizeLine_eq];lia,?_⟩;refine PD.aV (List.range' (j'+1) (n - (j'+1))) (fun(k:Nat)=>D.int (k:Int)) (fun b ρ=>∃(ks:List (yag)) (v4:Option Sl),(∀k∈ks,0<k.length/\k.length<=3/\∀j∈k,j<n)/\ks.length<=100*i+10*a+1+b/\ρ=[some (.val (.int (n:Int))),some (.own (ks.map Np)),some (.val (.int (i:Int))),some (.val (.int (j':Int))),v4]) (fun R q=>?_) ⟨ks++[[i,j']],v4,fun k hkm=>?_,by rw[MG,Sn];lia,by rw[M6];rfl⟩ ?_ ?_
   ·walk_at "x";have e:=oW (j'+1) n;rw[show((j'+1:Nat):Int)=(j':Int)+1 by lia]at e;rw[e];exact⟨⟨by lia,by lia⟩,⟨by lia,by lia⟩,q⟩
   ·rcases Mc.mp hkm with q|q
    ·exact hk k q
    ·rw[M4.mp q];refine⟨by simp,by simp,fun j hjm=>?_⟩;simp only[Lp,Nq,or_false]at hjm
     lia
   ·rintro b k' Ld hb0 ⟨ks,v4,hk,lk,rfl⟩;obtain⟨hb,eb⟩:=L6.mp hb0;rw[Nf]at hb;rw[Ri,RH]at eb;walk_at "x";refine⟨Ra _ _ _,by rw[K8,sizeLine_eq];lia,ks++[[i,j',k']],_,fun k hkm=>?_,by rw[MG,Sn];lia,by rw[M6];rfl⟩;rcases Mc.mp hkm with q|q
    ·exact hk k q
    ·rw[M4.mp q];refine⟨by simp,by simp,fun j hjm=>?_⟩;simp only[Lp,Nq,or_false]at hjm
     lia
   ·rintro Ld ⟨ks,v4,hk,lk,rfl⟩;rw[Nf]at lk;exact⟨ks,_,_,hk,by lia,rfl⟩
  ·rintro Ld ⟨ks,v3,v4,hk,lk,rfl⟩;rw[Nf]at lk;exact⟨ks,_,_,_,hk,by lia,rfl⟩
 ·rintro Ld ⟨ks,v2,v3,v4,hk,lk,rfl⟩;walk_at "x";exact h ks hk
def IM (F:aw K "law" "law" d8 f fd) (C:Ml K mg κ)  (My:zo P w K mg base κ) (NI:zr P w K mg base κ) (NJ:zt P w K mg base κ) (L5:uX P w K mg base κ) (K5:mg "len" = none) (Lz:mg "list" = none):aJ P w K mg base (CX1 P w) 9 f fd ["_law_script"] (aK K rN):=by
 refine aw.okN F iL (by walk_at "l") fun Lv A outer s H E hr=>⟨_,(ah (aC 1 iL.nd (aq NI hr (aa (dv 0) af))) (ah (aC 2 iL.nd (aq L5 hr (aa (cw (by rfl) (by exact bA (osc:=ak d8) (xs:=["_law_spots"]) (ns:=[]) (by decide +kernel)) bf.nil (aZ (dv 1)) (fun _ _ _ _ _=>bR) (fun _ _ _ _ _=>((sA (by rfl) Lz (dv 0))).SA)) af))) (ah (aR (bK (bE (aq My hr (aa (dv 2) (aa (dv 1) af))))) (aj (au bW)) aE) (ah (aR (aB (oQ (by exact hr.units)) (ai (dv 2) ae) iD) (ah (gA 4 iL.nd (by rfl) (by exact bA (osc:=ak d8) (xs:=["_law_row_here"]) (ns:=["_law_sets_here"]) (by decide +kernel)) (bf.cons 1 bf.nil) (aZ (ai (dv 2) ae)) (fun _ _ _ _ _=>bR) (fun _ _ _ _ _=>(ai (dv 1) (ai (dv 0) ae)))) (ah (aC 5 iL.nd (aq L5 hr (aa (cw (by rfl) (by exact bA (osc:=ak d8) (xs:=["_law_spots"]) (ns:=[]) (by decide +kernel)) bf.nil (aZ (dv 4)) (fun _ _ _ _ _=>bR) (fun _ _ _ _ _=>((sA (by rfl) Lz (dv 0))).SA)) af))) (aj (au (iC (aq My hr (aa (dv 5) (aa (dv 4) af))) (kT (dE (oQ (by exact hr.units)) (ai (dv 5) ae) iD))))))) aE) (ah (bu PassesOwn.never rfl (aZ (aq NJ hr (aa (aD aS (by rfl) K5 Nh (aa (dv 1) af)) af))) (aP 3 iL.nd) (ah (gA 6 iL.nd (by rfl) (by exact bA (osc:=ak d8) (xs:=["_law_k"]) (ns:=["_law_sets_here"]) (by decide +kernel)) (bf.cons 1 bf.nil) (aZ (dv 3)) (fun _ _ _ _ _=>bR) (fun _ _ _ _ _=>(ai (dv 1) (dv 0)))) (ah (aC 7 iL.nd (aq L5 hr (aa (cw (by rfl) (by exact bA (osc:=ak d8) (xs:=["_law_spots"]) (ns:=[]) (by decide +kernel)) bf.nil (aZ (dv 6)) (fun _ _ _ _ _=>bR) (fun _ _ _ _ _=>((sA (by rfl) Lz (dv 0))).SA)) af))) (aj (aR (bP (bK (bE (aq My hr (aa (dv 7) (aa (dv 6) af))))) (dF (aB (EU (by exact hr.units)) (ai (dv 7) ae) iD))).pt (aj (au bW)) aE))))) (aj (au bW))))))),?_⟩
 rintro ds Q Ed ⟨ns,rfl,hl,h⟩;walk_at "s";have sM:PyData.strOk "meet" = true:=by decide +kernel
 have sB:PyData.strOk "bar" = true:=by decide +kernel
 have Vn:okD (.str "meet"):=(oR 0 _ sM).ok;have TJ:okD (.str "bar"):=(oR 0 _ sB).ok;have nMB:eqD (.str "meet") (.str "bar")=false:=by rw[sE];decide +kernel
 walk_at "x";refine⟨hl,fun Ls L M=>?_⟩;have l8:=L.l8;have l5:=M.l5;refine PD.comp_map Ls cN (fun _=>true) cN (fun R q=>?_) (by rw[sizeLine_eq];lia) (fun ps pm K hK=>?_) (fun ps pm _ K hK=>?_) ?_
 ·walk_at "x";exact q
 ·walk_at "x";exact hK
 ·walk_at "x";exact⟨true,ps.map Ll,rfl,hK⟩
 rw[Pe.mpr (fun _ _=>rfl),bo,fL,dw,cC];have gD:∀i,i<Ls.length->Ls.getD i []∈Ls/\Ls[i]?=some (Ls.getD i []):=fun i hi=>by
  have e:Ls[i]?=some (Ls.getD i []):=by rw[Mf,LM hi];rfl
  exact⟨Mz e,e⟩
 refine⟨L,M,fun y rs MO=>?_,fun rs B=>?_⟩
 ·refine⟨L,.inl ⟨y,rs,mC y rs,MO⟩,?_⟩;unfold oP;walk_at "x";refine⟨Vn,TJ,?_⟩;rw[K3 (by rw[nMB];simp)];refine Fz (P:=fun ks:List (yag)=>∀k∈ks,0<k.length/\k.length<=3/\∀j∈k,j<Ls.length) Np (fun R hR=>?_) fun ks XJ=>?_
  ·walk_at "x";exact⟨Ls.length,by rw[K8],l5,hR⟩
  generalize hm0:D.tup [D.str "meet", Lm y,D.lst true (rs.map oS)]=m0;refine PD.aV ks Np (fun _ ρ=>∃v3 v6 v7:Option Sl,ρ=[some (.val (.lst false (ns.map D.int))),some (.val (.lst true (Ls.map cN))),some (.val m0),v3,none,none,v6,v7]) (fun R q=>q) ⟨none,none,none,rfl⟩ ?_ ?_
  ·rintro j k Ld X6 ⟨v3,v6,v7,rfl⟩;obtain⟨k0,k3,klt⟩:=XJ k (Mz X6);walk_at "x";refine PD.comp_map k (fun(i:Nat)=>D.int (i:Int)) (fun _=>true) (fun i=>cN (Ls.getD i [])) (fun R q=>?_) (by rw[sizeLine_eq];lia) (fun i hi K hK=>?_) (fun i hi _ K hK=>?_) ?_
   ·unfold Np;walk_at "x";exact q
   ·walk_at "x";exact hK
   ·have Pc:Mm (Ls.map cN) ((i:Nat):Int)=some (cN (Ls.getD i [])):=aU (by rw[LZ,(gD i (klt i hi)).2];rfl);walk_at "x";exact⟨_,Pc,hK⟩
   rw[Pe.mpr (fun _ _=>rfl)];generalize hF:(k.map fun i=>Ls.getD i [])=Fs;have eF:k.map (fun i=>cN (Ls.getD i []))=Fs.map cN:=by rw[<- hF,MJ];rfl
   have mF:∀ps∈Fs,ps∈Ls:=fun ps pm=>by rw[<- hF]at pm;obtain⟨i,hi,rfl⟩:=LR.mp pm;exact(gD i (klt i hi)).1
   have lF:Fs.length=k.length:=by rw[<- hF,K8]
   obtain⟨L',M'⟩:=EO L M mF (by lia) (by lia);rw[eF];refine PD.comp_map Fs cN (fun _=>true) cN (fun R q=>?_) (by rw[sizeLine_eq];lia) (fun ps pm K hK=>?_) (fun ps pm _ K hK=>?_) ?_
   ·walk_at "x";exact q
   ·walk_at "x";exact hK
   ·walk_at "x";exact⟨true,ps.map Ll,rfl,hK⟩
   rw[Pe.mpr (fun _ _=>rfl),bo,fL,dw,cC];refine⟨L',M',fun y' X7 Y0=>?_,fun X7 B'=>(II B' ⟨MO.YR.1,fun ps pm=>MO.YR.2 ps (mF ps pm)⟩).elim⟩;show fJ κ _ _ _;rw[mC,ie,dN];refine⟨L',.inl ⟨y',X7,rfl,Y0⟩,true,rfl,?_⟩;rw[K3 (by simp)];unfold oP;walk_at "x";refine⟨Vn,Vn,?_⟩;rw[K3 (by rw[fT];simp)];exact⟨_,_,_,rfl⟩
  ·rintro Ld ⟨v3,v6,v7,rfl⟩;walk_at "x";exact h
 ·refine⟨L,.inr ⟨rs,uw rs,B⟩,?_⟩;unfold vi;walk_at "x";refine⟨TJ,TJ,?_⟩;rw[K4 (fT _)];have ow:∀x∈rs,x.1.toNat<Ls.length/\x.1=(x.1.toNat:Int)/\∀p∈Ls.getD x.1.toNat [],0<=KZ x.2 (1,p.1,p.2):=fun x hx=>by
   obtain⟨i,hi,e,ov⟩:=B.own x hx;have e2:x.1.toNat=i:=by rw[e];exact Uz i
   rw[e2];exact⟨hi,e,ov⟩
  refine PD.comp_map rs Nu (fun _=>true) (fun x=>cN (Ls.getD x.1.toNat [])) (fun R q=>?_) (by have:=B.l3;rw[sizeLine_eq];lia) (fun x hx K hK=>?_) (fun x hx _ K hK=>?_) ?_
  ·walk_at "x";exact q
  ·walk_at "x";exact hK
  ·have Pc:Mm (Ls.map cN) x.1=some (cN (Ls.getD x.1.toNat [])):=by
    rw[(ow x hx).2.1];exact aU (by rw[LZ,(gD _ (ow x hx).1).2];rfl)
   rw[show Nu x=D.tup [.int x.1,Lm x.2]from rfl];walk_at "x";exact⟨_,Pc,hK⟩
  rw[Pe.mpr (fun _ _=>rfl)];generalize hF:(rs.map fun x=>Ls.getD x.1.toNat [])=Fs;have eF:rs.map (fun x=>cN (Ls.getD x.1.toNat []))=Fs.map cN:=by rw[<- hF,MJ];rfl
  have mF:∀ps∈Fs,ps∈Ls:=fun ps pm=>by rw[<- hF]at pm;obtain⟨x,hx,rfl⟩:=LR.mp pm;exact(gD _ (ow x hx).1).1
  have lF:Fs.length=rs.length:=by rw[<- hF,K8]
  obtain⟨L',M'⟩:=EO L M mF (by have:=B.l2;lia) (by have:=B.l3;lia);rw[eF];refine PD.comp_map Fs cN (fun _=>true) cN (fun R q=>?_) (by have:=B.l3;rw[sizeLine_eq];lia) (fun ps pm K hK=>?_) (fun ps pm _ K hK=>?_) ?_
  ·walk_at "x";exact q
  ·walk_at "x";exact hK
  ·walk_at "x";exact⟨true,ps.map Ll,rfl,hK⟩
  rw[Pe.mpr (fun _ _=>rfl),bo,fL,dw,cC];refine⟨L',M',fun y' X7 Y0=>?_,fun X7 B'=>?_⟩
  ·exact(vj B.c0 B.a0 B.b0 Y0.YR.1 fun x hx=>Y0.YR.2 (Ls.getD x.1.toNat []) (by rw[<- hF];exact LR.mpr ⟨x,hx,rfl⟩) x.2 (ow x hx).2.2).elim
  ·show fJ κ _ _ _;rw[uw,ie,dN];refine⟨L',.inr ⟨X7,rfl,B'⟩,true,rfl,?_⟩;rw[K4 rfl];unfold vi;walk_at "x";refine⟨TJ,TJ,?_⟩;rw[fT];exact h
end
def all_mk {l:PySem.W.OpenLaw} {K:yac} (X:K.In h) (G:h.Ns mainGlobals mg) (hfa:mg "law" = some (.ref fa))
  {od50:Option Addr} {sl50:Array (yam)} {oc50:Value}
  (e0:FL K "sign" wY)
  (e1:FL K "common_divisor" fX)
  (e2:FL K "lowest" mf)
  (e3:FL K "reduced" nN)
  (e4:FL K "picks" oZ)
  (e5:FL K "value" tu)
  (e6:FL K "side" wX)
  (e7:FL K "with_share" jW)
  (e8:FL K "crossed" nK)
  (e9:FL K "facing" qo)
  (e10:FL K "place" tj)
  (e11:FL K "place_of" mh)
  (e12:FL K "swing" tq)
  (e13:FL K "arrow" sW)
  (e14:FL K "turn" wZ)
  (e15:FL K "back" wW)
  (e16:FL K "left_of" nM)
  (e17:FL K "chain" sZ)
  (e18:FL K "hull" rH)
  (e19:FL K "thin_bounds" i6)
  (e20:FL K "bounds" l7)
  (e21:FL K "length" qp)
  (e22:FL K "are_opposite" hU)
  (e23:FL K "balance_of_two" fW)
  (e24:FL K "balance_of_three" cT)
  (e25:FL K "balance" nJ)
  (e26:FL K "mixture" iK)
  (e27:FL K "place_between" gJ)
  (e28:FL K "clipped" kg)
  (e29:FL K "common" qn)
  (e30:FL K "last_needed" iZ)
  (e31:FL K "constant" jr)
  (e32:FL K "bars" rG)
  (e33:FL K "owned_gauges" fk)
  (e34:FL K "bar_rows" jq)
  (e35:FL K "hulls_meet" eK)
  (e36:FL K "_law_whole" kG)
  (e37:FL K "_law_cell_at" i4)
  (e38:FL K "_law_divisor" i5)
  (e39:FL K "_law_stream" jV)
  (e40:FL K "_law_spot" me)
  (e41:FL K "_law_is_place" hW)
  (e42:FL K "_law_numbers" fQ)
  (e43:FL K "_law_part" ma)
  (e44:FL K "_law_meets" kF)
  (e45:FL K "_law_row" nL)
  (e46:FL K "_law_bars" jt)
  (e47:FL K "_law_good" l9)
  (e48:FL K "_law_sets" ju)
  (e49:FL K "_law_some" md)
  (a50:PySem.W.nsIn K mainGlobals "law" = some (some (.ref f50))) (l50:K.lookup f50=some ⟨oc50,od50,.func (PySem.W.fnOf "law" "law" (eR d8) (cO d8) (ak d8) .none kV50 dc50 pm50 an50 X8 ct50),sl50⟩) (c50:PySem.W.codeIn K X8 "law" = true) (k50:PySem.W.keepIn K (.ref f50)=true)
  (Mg:PySem.W.nsIn K mainGlobals "PlaneError" = some (some (.ref PF)))
  (MU:PySem.W.nsIn K mainGlobals "NoPlace" = some (some (.ref Rg)))
  (Nk:PySem.W.nsIn K mainGlobals "TooFew" = some (some (.ref Sk)))
  (Mt:PySem.W.nsIn K mainGlobals "abs" = some none) (NF:PySem.W.nsIn K mainGlobals "bool" = some none) (LN:PySem.W.nsIn K mainGlobals "enumerate" = some none) (OP:PySem.W.nsIn K mainGlobals "int" = some none) (K0:PySem.W.nsIn K mainGlobals "isinstance" = some none) (K5:PySem.W.nsIn K mainGlobals "len" = some none) (Lz:PySem.W.nsIn K mainGlobals "list" = some none) (OK:PySem.W.nsIn K mainGlobals "max" = some none) (OL:PySem.W.nsIn K mainGlobals "min" = some none) (K7:PySem.W.nsIn K mainGlobals "range" = some none) (OJ:PySem.W.nsIn K mainGlobals "set" = some none) (LU:PySem.W.nsIn K mainGlobals "sorted" = some none) (OQ:PySem.W.nsIn K mainGlobals "str" = some none) (Nv:PySem.W.nsIn K mainGlobals "sum" = some none) (Ly:PySem.W.nsIn K mainGlobals "tuple" = some none) (L4:PySem.W.nsIn K mainGlobals "zip" = some none) :
  ∃ fd:FuncData,(∀(s:Shared) (v:Value),BindsTo s fd ⟨[v],[]⟩ [("_law_script", v)])/\∀base:Heap,K.In base->base.Ns mainGlobals mg->aJ l.prog w K mg base (CX1 l.prog w) 9 fa fd ["_law_script"] (aK K rN):=by
 have e:=hfa.symm.trans (PySem.W.mg_of X G a50);cases e;have Mt:=PySem.W.mg_none_of X G Mt;have NF:=PySem.W.mg_none_of X G NF;have LN:=PySem.W.mg_none_of X G LN;have OP:=PySem.W.mg_none_of X G OP;have K0:=PySem.W.mg_none_of X G K0;have K5:=PySem.W.mg_none_of X G K5;have Lz:=PySem.W.mg_none_of X G Lz;have OK:=PySem.W.mg_none_of X G OK;have OL:=PySem.W.mg_none_of X G OL;have K7:=PySem.W.mg_none_of X G K7;have OJ:=PySem.W.mg_none_of X G OJ;have LU:=PySem.W.mg_none_of X G LU;have OQ:=PySem.W.mg_none_of X G OQ;have Nv:=PySem.W.mg_none_of X G Nv;have Ly:=PySem.W.mg_none_of X G Ly;have L4:=PySem.W.mg_none_of X G L4;have C:Ml K mg ⟨PF,Rg,Sk⟩:=⟨PySem.W.mg_of X G Mg,PySem.W.mg_of X G MU,PySem.W.mg_of X G Nk⟩;refine⟨PySem.W.fnOf "law" "law" (eR d8) (cO d8) (ak d8) .none kV50 dc50 pm50 an50 X8 ct50,fun s v=>.of_eq rfl,fun base _ _=>?_⟩;have QE:=e0.has l.prog w base X G fun F=>Gb F C
 have Ln:=e1.has l.prog w base X G fun F=>o9 F C Mt
 have MP:=e2.has l.prog w base X G fun F=>BS F C Ln
 have N3:=e3.has l.prog w base X G fun F=>Al F C Ln
 have MW:=e4.has l.prog w base X G fun F=>DR F C K7
 have MV:=e5.has l.prog w base X G fun F=>DW F C
 have OM:=e6.has l.prog w base X G fun F=>Ga F C QE MV
 have MX:=e7.has l.prog w base X G fun F=>uI F C
 have N5:=e8.has l.prog w base X G fun F=>Ah F C
 have MN:=e9.has l.prog w base X G fun F=>BQ F C
 have PC:=e10.has l.prog w base X G fun F=>DU F C N3
 have Md:=e11.has l.prog w base X G fun F=>xP F C
 have Py:=e12.has l.prog w base X G fun F=>DV F C
 have Nl:=e13.has l.prog w base X G fun F=>DN F C
 have Nc:=e14.has l.prog w base X G fun F=>Gd F C
 have Pz:=e15.has l.prog w base X G fun F=>F7 F C
 have N4:=e16.has l.prog w base X G fun F=>Aj F C
 have Ot:=e17.has l.prog w base X G fun F=>DQ F C Py K5
 have N6:=e18.has l.prog w base X G fun F=>F9 F C Ot Md K5 OJ LU
 have ME:=e19.has l.prog w base X G fun F=>sR F C Nl Pz MN N4
 have ON:=e20.has l.prog w base X G fun F=>BO F C N5 ME K5 K7
 have Mv:=e21.has l.prog w base X G fun F=>BR F C Mt
 have Mu:=e22.has l.prog w base X G fun F=>rA F C Nc
 have Me:=e23.has l.prog w base X G fun F=>o8 F C Mu Mv MP
 have LY:=e24.has l.prog w base X G fun F=>mQ F C MP Nc OK OL
 have Mq:=e25.has l.prog w base X G fun F=>Af F C LY Me Mv K5
 have N7:=e26.has l.prog w base X G fun F=>Ak F C Nl Mq MW Md K5
 have Mo:=e27.has l.prog w base X G fun F=>qg F C PC MV
 have Mr:=e28.has l.prog w base X G fun F=>Ag F C Mo OM K5 K7
 have OO:=e29.has l.prog w base X G fun F=>BP F C Mr
 have MF:=e30.has l.prog w base X G fun F=>sN F C Mr K5
 have NC:=e31.has l.prog w base X G fun F=>xH F C Nv L4
 have QF:=e32.has l.prog w base X G fun F=>F8 F C Mq NC MF MW Lz L4
 have Mw:=e33.has l.prog w base X G fun F=>rC F C ON N6 LN
 have ND:=e34.has l.prog w base X G fun F=>xG F C MX LU
 have L5:=e35.has l.prog w base X G fun F=>uG F C ND QF OO N6 N7 Mw K5
 have Lk:=e36.has l.prog w base X G fun F=>wM F C NF OP K0
 have Mi:=e37.has l.prog w base X G fun F=>sO F C K5
 have LA:=e38.has l.prog w base X G fun F=>sP F C Mt
 have MZ:=e39.has l.prog w base X G fun F=>uH F C K7
 have MY:=e40.has l.prog w base X G fun F=>xO F C
 have Mx:=e41.has l.prog w base X G fun F=>rB F C LA Lk K0 K5 Ly
 have Mh:=e42.has l.prog w base X G fun F=>sQ F C Lk K0 K5 Lz
 have NG:=e43.has l.prog w base X G fun F=>xK F C LA Mh K0 K5 K7 Nv Ly L4
 have Nd:=e44.has l.prog w base X G fun F=>wL F C Mx NG K0 K5 Lz L4
 have N8:=e45.has l.prog w base X G fun F=>Ai F C Lk K0 K5 Ly
 have NH:=e46.has l.prog w base X G fun F=>xI F C N8 K0 K5 Lz L4
 have My:=e47.has l.prog w base X G fun F=>xJ F C NH Nd K0 K5 OQ Ly
 have NI:=e48.has l.prog w base X G fun F=>xM F C Mi MY MZ K5 K7
 have NJ:=e49.has l.prog w base X G fun F=>xN F C K7
 exact IM (yC (st:=d8) l50 c50 k50) C My NI NJ L5 K5 Lz
end LW
def PySem.W.Fast.te12699526542126959932:True:=trivial
def PySem.W.Fast.tw14081414196922810754:PySem.Program:=PySem.Challenge.pw_halvecut_k43_whole_three_by_three
theorem PySem.W.Fast.te14081414196922810754:PySem.Challenge.pw_halvecut_k43_whole_three_by_three=PySem.W.Fast.tw14081414196922810754:=rfl
namespace PySem.W.Fast
def tw13475255445472566631:=()
def tw8003355919062642802:=()
def tw14200770979896027096:=()
def tw7469422504127351745:=()
def tw4435810856120495924:=()
def tw13197442390096524536:=()
def tw15311649149441483717:=()
def tw3038109667842553907:=()
def tw3168846014186241854:=()
def tw14030651590931154358:=()
def tw13677353526759533263:=()
def tw2687094820749261435:=()
def tw11263515554040898524:=()
def tw5941363986429973284:=()
def tw8569301389156306044:=()
def tw14434398043473562687:=()
def tw14200423513377309188:=()
def tw8582831983179991571:=()
def tw313495919201306279:=()
def tw8380863384075527264:=()
def tw12375116421605205421:=()
def tw12380028099082312441:=()
def tw14577588737062165335:=()
def tw17787175465472632433:=()
def tw11819459046310416467:=()
def tw6604829335502056622:=()
def tw1880625100741971020:=()
def tw13113797593023066748:=()
def tw6916176015580619069:=()
def tw9539450085048286876:=()
def tw6366994771553281637:=()
def tw6989173111187011877:=()
def tw7858869052974084380:=()
def tw4669151179684238695:=()
def tw16753994068594025593:=()
def tw10076387769528463961:=()
def tw1257260292441308894:=()
def tw888022163976303898:=()
def tw5798034174760139105:=()
def tw7228094217611291063:=()
def tw8654004258451901117:=()
def tw8141632546099984411:=()
def tw8116976450687197692:=()
def tw15180888302422890935:=()
def tw16525555801628871062:=()
def tw3027517363320404280:=()
def tw3884388668356533369:=()
def tw4770309429238066898:=()
def tw10341043118489053681:=()
def tw8088151400491019528:=()
def tw8096567539234143782:=()
def tw2282184377269966827:=()
def tw8032701310934074639:=()
def tw3095682372867334344:=()
def tw2578716806698111602:=()
def tw6384397488693637274:=()
def tw13383081793320163081:=()
def tw10821639755503650636:=()
def tw11321943050711448785:=()
def tw67540090528584787:=()
def tw16128015502838882491:=()
def tw2023950762238143506:=()
def tw12439511996182412515:=()
def tw3678003438354125304:=()
def tw123621564523758538:=()
def tw8186594642850974503:=()
def tw16697643012029545488:=()
def tw13014259257383728488:=()
def tw7409278649197102391:=()
def tw15605216878299912447:=()
def tw13085825607157540971:=()
def tw17186810725973831483:=()
def tw12348055801579901360:=()
def tw8522008779298460681:=()
def tw4697663316713757112:=()
def tw402397334069221695:=()
def tw12382799245840468261:=()
def tw15203328388434772944:=()
def tw9997385056522518529:=()
def tw13469840301833422877:=()
def tw7568312310061328208:=()
def tw17856428058199421616:=()
def tw12736915103469880323:=()
def tw16924996456172745585:=()
def tw16205573581666241442:=()
def tw8139661768503772622:=()
def tw14177311998519206857:=()
def tw3695429556000555063:=()
def tw6357074916323217002:=()
def tw378090510476628262:=()
def tw12015045353095016289:=()
def tw14083480927412349047:=()
def tw8545641806682821444:=()
def tw13858288239522429678:=()
def tw4863436630136498864:=()
def tw11412770156876245948:=()
def tw7051539768562915402:=()
def tw10005370813009375492:=()
def tw9266107132080230550:=()
def tw2820426652128167834:=()
def tw5557051357065604186:=()
def tw13083069779699256005:=()
def tw16023707204576683948:=()
def tw9935432860849592110:=()
def tw2042135472896755582:=()
def tw5573591543749932792:=()
def tw10998546227045331415:=()
def tw3687771987499109841:=()
def tw12518140501057061250:=()
def tw175335278278945863:=()
end PySem.W.Fast
open PySem PySem.W PyProof.Rows
set_option maxRecDepth 100000 in
set_option maxHeartbeats 0 in
theorem PySem.Challenge.cw_halvecut_k43_whole_three_by_three_holds : PySem.Challenge.rw_halvecut_k43_whole_three_by_three.Holds := by
 w_on; o_law; k_head; (case hw => w_witness2)
 k_fill
 refine PD.walk (l := PySem.Challenge.rw_halvecut_k43_whole_three_by_three) (k := 9) (x := "_law_script") rfl rfl ⟨rfl, by decide, by decide⟩ (fun w h Y => PySem.W.kIn_of Y) (fun w => by kernel_rfl) ?F
 case F =>
  intro w mg fa h KX G WM
  refine' LW.all_mk KX G WM ?e0 ?e1 ?e2 ?e3 ?e4 ?e5 ?e6 ?e7 ?e8 ?e9 ?e10 ?e11 ?e12 ?e13 ?e14 ?e15 ?e16 ?e17 ?e18 ?e19 ?e20 ?e21 ?e22 ?e23 ?e24 ?e25 ?e26 ?e27 ?e28 ?e29 ?e30 ?e31 ?e32 ?e33 ?e34 ?e35 ?e36 ?e37 ?e38 ?e39 ?e40 ?e41 ?e42 ?e43 ?e44 ?e45 ?e46 ?e47 ?e48 ?e49 ?a50 ?l50 ?c50 ?k50 ?Mg ?MU ?Nk ?Mt ?NF ?LN ?OP ?K0 ?K5 ?Lz ?OK ?OL ?K7 ?OJ ?LU ?OQ ?Nv ?Ly ?L4
  all_goals try (refine' PD.FL.mk ?a ?l ?c ?k; (case a => k_is); (case l => k_is); (case c => k_is); (case k => k_is))
  (case a50 => k_is)
  (case l50 => k_is)
  (case c50 => k_is)
  (case k50 => k_is)
  (case Mg => k_is)
  (case MU => k_is)
  (case Nk => k_is)
  (case Mt => k_is)
  (case NF => k_is)
  (case LN => k_is)
  (case OP => k_is)
  (case K0 => k_is)
  (case K5 => k_is)
  (case Lz => k_is)
  (case OK => k_is)
  (case OL => k_is)
  (case K7 => k_is)
  (case OJ => k_is)
  (case LU => k_is)
  (case OQ => k_is)
  (case Nv => k_is)
  (case Ly => k_is)
  (case L4 => k_is)
