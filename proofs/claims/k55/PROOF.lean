import PyProof.Rows.All
import Wide.All
import OpenK.AllK
import Wide.FinOn
import Lean
import PyProof.EqAt
import PyProof.EqKinds
import PyProof.TupleCall
import PySem.Challenge.RW_halvecut_k55_whole_the_deepest
set_option compiler.extract_closed false
set_option bootstrap.genMatcherCode false
set_option tactic.hygienic false
set_option Elab.async false
set_option linter.all false set_option autoImplicit true set_option relaxedAutoImplicit true
set_option maxRecDepth 100000
noncomputable section
abbrev yaa:=PySem.Value->PySem.Shared->Prop
abbrev yab:=List (PySem.Addr×PySem.Obj)
abbrev yac:=PySem.W.Frag
abbrev yad:=List PySem.Value
abbrev yae:=List PySem.Addr
abbrev yaf:=List Int
abbrev yag:=List Nat
abbrev yah:=List PySem.Str
abbrev yai:=List PySem.Expr
abbrev yaj:=Nat->Option PySem.Addr
abbrev yak:=Bool->PySem.Addr->Prop
abbrev yal:=List PySem.Stmt
abbrev yam:=PySem.Str->Option PySem.Value
abbrev yan:=Option PySem.Value
abbrev yao:=Array PySem.Value
abbrev yap:=Option Int
def Rm:=@PySem.wpAny_bind
def RH:=@List.length_map
def Rz:=@PySem.wpAny_pure
def Sd:=@Nat.le_trans
def T5:=@PySem.Heap.get?_push_of_some
def Rv:=@if_pos
def Ul:=@List.getElem?_eq_getElem
def Tt:=@Nat.lt_of_lt_of_le
def Ta:=@List.mem_append
def SH:=@PySem.Heap.lt_size
def SF:=@Nat.le_refl
def Uz:=@Array.getElem?_toList
def S5:=@List.mem_map
def Tw:=@Int.mul_nonneg
def Tb:=@Int.le_of_lt
def UZ:=@List.mem_of_getElem?
def Sk:=@PyProof.Rows.wpS_bind
def Tx:=@List.mem_cons
def So:=@PyProof.Rows.wpS_pure
def VE:=@List.getElem?_eq_some_iff
def To:=@PySem.sizeLine_eq
def Vi:=@PySem.Heap.get?_push_size
def U0:=@List.getElem?_map
def Vh:=@List.length_append
def Vx:=@List.getElem?_set_ne
def WK:=@List.getElem?_append_right
def Wf:=@List.mem_append_right
def WZ:=@List.getElem?_append_left
def Uw:=@Nat.ne_of_lt
def VO:=@Array.length_toList
def U5:=@decide_eq_true
def VF:=@List.mem_singleton
def T8:=@beq_iff_eq
def UC:=@List.map_map
def UD:=@Nat.le_of_lt
def Xz:=@List.getD_eq_getElem?_getD
def XA:=@Int.mul_neg_of_pos_of_neg
def Vy:=@List.map_append
def UE:=@Nat.zero_le
def VP:=@Nat.le_add_right
def W4:=@List.mem_cons_of_mem
def Yc:=@Int.mul_neg_of_neg_of_pos
def VQ:=@Int.mul_eq_zero
def WC:=@List.size_toArray
def XB:=@List.take_append_drop
def XJ:=@List.take_of_length_le
def Xg:=@List.filter_eq_self
def Vj:=@Int.neg_mul
def VS:=@List.map_cons
def Xh:=@Nat.lt_of_le_of_lt
def Z2:=@Int.nonneg_of_mul_nonneg_right
def XM:=@List.mem_append_left
def VT:=@PySem.wpAny_holding
def Xi:=@List.append_assoc
def VG:=@Int.mul_comm
def W5:=@List.length_drop
def XN:=@List.getElem_of_mem
def VU:=@Int.add_zero
def Y9:=@List.pairwise_iff_getElem
def zA7:=@Int.mul_nonpos_of_nonpos_of_nonneg
def Xj:=@List.length_take
def XO:=@of_decide_eq_true
def VX:=@PySem.wpAny_field
def YO:=@PySem.Heap.get?_update_self
def Za:=@PySem.Heap.get?_update_other
def Zb:=@List.getElem?_set_self
def Zc:=@Option.map_eq_some_iff
def VH:=@Int.not_le
def YQ:=@List.pairwise_append
def XQ:=@Nat.mod_eq_of_lt
def VI:=@PySem.wpAny_mono
def Wl:=@Int.mul_pos
def zBK:=@Array.getElem?_eq_getElem
def Yd:=@List.getElem_map
def Ye:=@List.length_cons
def Yr:=@Nat.le_of_lt_succ
def Ys:=@Nat.lt_of_succ_lt
def YR:=@Nat.lt_of_le_of_ne
def Yf:=@List.mem_filter
def Zd:=@Nat.add_le_add_left
def zBS:=@PySem.wpAny_callSpecial?_slot
def zBT:=@Int.mul_nonneg_of_nonpos_of_nonpos
def YS:=@PySem.wpAny_setState_of
def Xk:=@PyProof.Rows.wpS_forRange
def Z3:=@Array.toList_extract
def zBX:=@Classical.byContradiction
def zBY:=@Int.mul_pos_of_neg_of_neg
def zBZ:=@List.drop_eq_getElem_cons
def W9:=@Int.le_refl
def Ze:=@List.pairwise_cons
def Yt:=@Nat.min_eq_left
def Yu:=@Option.some.inj
def XC:=@Int.mul_zero
def Zf:=@List.cons_append
def YT:=@List.getElem_mem
def XD:=@Nat.le_of_eq
def YU:=@PySem.wpAny_call_entry
def zBj:=@Nat.add_sub_cancel_left
def Yv:=@PySem.wpAny_seqItems
def YV:=@List.append_nil
def Xa:=@Nat.not_lt
def Z4:=@PySem.wpAny_Call_Name_kw
def zBo:=@List.sublist_append_right
def zBp:=@List.length_reverse
def Xl:=@Nat.sub_le
def Z5:=@PySem.wpAny_newObj_type
def Yg:=@Nat.ne_of_gt
def Wm:=@PySem.boot_len
def Z6:=@List.nil_append
def Zg:=@Nat.le_antisymm
def zBw:=@List.length_range'
def zBx:=@List.mem_of_mem_drop
def zBy:=@List.mem_of_mem_take
def zBz:=@Nat.sub_one_lt_of_lt
def zB0:=@List.singleton_sublist
def zB1:=@Array.toList_append
def zB2:=@PySem.Heap.SameBut.update
def XR:=@Int.not_lt
def zB4:=@List.exists_mem_of_ne_nil
def zB5:=@Int.natAbs_dvd_natAbs
def zB6:=@List.getElem?_eq_none
def zB7:=@Bool.false_ne_true
def YW:=@Int.zero_mul
def zB9:=@List.mem_cons_self
def zCA:=@List.take_length
def YX:=@Nat.zero_add
def zCC:=@List.dropLast_concat_getLast
def zCD:=@Int.mul_nonpos_of_nonneg_of_nonpos
def zCE:=@Nat.lt_trichotomy
def Xm:=@PyProof.Rows.wpS_mono
def zCG:=@List.length_set
def zCH:=@PySem.codeAny_builtin
def YY:=@Int.one_mul
def zCJ:=@List.mem_flatMap
def zCK:=@List.mem_reverse
def zCL:=@List.not_mem_nil
def zCM:=@Bool.false_eq_true
def zCN:=@Int.natAbs_mul
def zCO:=@PySem.wpAny_setField_rec
def zCP:=@List.extract_eq_take_drop
def zCQ:=@List.getLastD_eq_getLast?
def zCR:=@List.length_dropLast
def zCS:=@List.nodup_cons
def zCT:=@Nat.add_le_add_right
def zCU:=@Nat.le_sub_one_of_lt
def YZ:=@PySem.wpAny_rule
def zCW:=@Array.toList_push
def zCX:=@Int.lt_trichotomy
def zCY:=@PySem.wpAny_attempt
def zCZ:=@List.drop_append_of_le_length
def zCa:=@List.getLast?_eq_some_getLast
def zCb:=@List.getElem?_replicate
def zCc:=@Nat.le_of_not_lt
def zCd:=@Nat.succ_le_succ
def zCe:=@PySem.wpAny_execs_cons
def zCf:=@PySem.wpAny_isInstance
def Zh:=@Nat.mod_lt
def zCh:=@List.append_of_mem
def zCi:=@Nat.lt_or_eq_of_le
def zCj:=@List.length_singleton
def zCk:=@PySem.wpAny_passesOwn
def zCl:=@Array.perm_iff_toList_perm
def zCm:=@Int.dvd_trans
def zCn:=@Int.lt_irrefl
def zCo:=@List.sum_cons
def zCp:=@Nat.add_assoc
def zCq:=@Nat.le_of_dvd
def zCr:=@Nat.lt_irrefl
def zCs:=@List.reverse_cons
def zCt:=@PySem.wpAny_truthy_bool
def zCu:=@List.getElem?_zip_eq_some
def Z7:=@PyProof.Rows.wpS_modify
def zCw:=@PySem.Heap.size_push
def zCx:=@Bool.and_eq_true
def zCy:=@Nat.add_comm
def zCz:=@Nat.lt_succ_self
def zC0:=@PySem.wpAny_comprehension_free
def zC1:=@List.length_pos_iff
def zC2:=@List.reverse_append
def zC3:=@PySem.Heap.IsTupleIter.typeIs
def zC4:=@Int.dvd_coe_gcd
def zC5:=@List.getElem?_drop
def zC6:=@List.mem_filterMap
def zC7:=@Nat.pos_of_ne_zero
def zC8:=@PySem.wpAny_specialOf
def zC9:=@PySem.wpAny_updateSeq
def zDA:=@Int.fmod_nonneg_of_pos
def zDB:=@Nat.eq_zero_of_not_pos
def zDC:=@Int.mul_le_mul_of_nonneg_left
def zDD:=@List.eq_nil_of_length_eq_zero
def zDE:=@List.pairwise_map
def zDF:=@List.take_sublist
def zDG:=@Nat.lt_succ_of_lt
def zDH:=@Nat.sub_pos_of_lt
def zDI:=@Int.le_trans
def zDJ:=@Nat.add_le_of_le_sub'
def zDK:=@PySem.wpAny_setField
def zDL:=@Int.gcd_mul_left
def zDM:=@Nat.lt_of_not_le
def zDN:=@Nat.pow_le_pow_right
def zDO:=@PySem.plainId_quiet
def zDP:=@PySem.wpAny_standAt
def zDQ:=@List.filterMap_cons
def zDR:=@List.map_congr_left
def zDS:=@List.getLast?_eq_none_iff
def zDT:=@List.ne_nil_of_length_pos
def zDU:=@List.of_mem_zip
def zDV:=@Nat.not_lt_zero
def zDW:=@Int.zero_add
def zDX:=@List.getElem?_take
def zDY:=@Nat.pow_succ
def zDZ:=@List.drop_drop
def zDa:=@List.take_succ
namespace L2
open PySem PySem.Spec PyProof.Rows
abbrev Key:=Sum Int Str
def rE:Key->Value->Bool
 |.inl k,v=>Value.isInt k v
 |.inr x,v=>Value.isStrOf x v
def Q0(w:World):Key->Int
 |.inl k=>hashInt k
 |.inr x=>hashStr w x
def cB:∀{k:Key} {v:Value},rE k v=true->(∃i t,k=Sum.inl i/\v=Value.int i t)∨(∃x t,k=Sum.inr x/\v=Value.str x t)
 |.inl i,v,h=>by
  obtain⟨t,e⟩:=Value.isInt_shape (k:=i) (v:=v) h
  simp_all
 |.inr x,v,h=>by
  obtain⟨t,e⟩:=Value.isStrOf_shape (x:=x) (v:=v) h
  simp_all
def Gz(i:Int)(t:Tok):rE (.inl i) (.int i t)=true:=by simp[rE,Value.isInt]
def GA(x:Str)(t:Tok):rE (.inr x) (.str x t)=true:=by simp[rE,Value.isStrOf]
def OK(a b:Int):decide ((Sum.inl a:Key)=Sum.inl b)=(a==b):=by lia
def OL(a b:Str):decide ((Sum.inr a:Key)=Sum.inr b)=decide (a=b):=by lia
def cq(prog:Program)(w:World):PySem.KeyKind prog w Key where
 is:=rE
 hash:=Q0 w
 inj:=λv a b b a=>by
  rcases cB b with⟨i,t,rfl,rfl⟩| ⟨x,t,rfl,rfl⟩
  ·rcases cB a with⟨j,u,rfl,e⟩| ⟨y,u,rfl,e⟩
   all_goals lia
  ·rcases cB a with⟨j,u,rfl,e⟩| ⟨y,u,rfl,e⟩
   all_goals lia
 byValue:=λk v h=>by
  rcases cB h with⟨i,t,rfl,rfl⟩| ⟨x,t,rfl,rfl⟩<;>rfl
 pyHash:=λhv h=>by
  rcases cB hv with⟨i,t,rfl,rfl⟩| ⟨x,t,rfl,rfl⟩;exact wpAny_pyHash_int h;exact wpAny_pyHash_str h
 eqBool:=λa hv h=>by
  rcases cB a with⟨i,t,rfl,rfl⟩| ⟨x,t,rfl,rfl⟩;rcases cB hv with⟨j,u,rfl,rfl⟩| ⟨y,u,rfl,rfl⟩;rw[OK]at h;exact wpAny_eqBool_int h;exact SeqAt.EqAt.int_str i t y u _ _ _ _ h;rcases cB hv with⟨j,u,rfl,rfl⟩| ⟨y,u,rfl,rfl⟩;exact SeqAt.EqAt.str_int x t j u _ _ _ _ h
  simp_all [OL,wpAny_eqBool_str]
 «strs»:=λk x t v h=>by
  rcases cB h with⟨i,u,rfl,e⟩| ⟨y,u,rfl,e⟩
  lia
  injection e with e1 _;subst e1;cases v<;>rfl
def BO(prog:Program)(w:World)(i:Int)(t:Tok):(cq prog w).is (.inl i) (.int i t)=true:=Gz i t
def BP(prog:Program)(w:World)(x:Str)(t:Tok):(cq prog w).is (.inr x) (.str x t)=true:=GA x t
inductive V where
 |RZ|bl (b:Bool)|int (i:Int)|str (x:Str)|Zi (b:Array UInt8)|flt (b:UInt64)|ref (a:Addr)|ty (n:String)
 deriving DecidableEq
abbrev yaq:=List V
def RelV:V->Value->Prop
 |.RZ,u=>u=Value.none
 |.bl b,u=>u=Value.bool b
 |.int i,u=>∃t,u=Value.int i t
 |.str x,u=>∃t,u=Value.str x t
 |.Zi b,u=>∃t,u=Value.bytes b t
 |.flt b,u=>∃t,u=Value.float b t
 |.ref a,u=>u=Value.ref a
 |.ty n,u=>u=Value.type n
abbrev Vals:yaq->yad->Prop:=Paired RelV
theorem Vals.length(r:Vals xs us):xs.length=us.length:=Paired.length r
theorem Vals.get:∀{xs:yaq} {a:yad} {i:Nat} {x:V},Vals xs a->xs[i]?=some x->∃u,a[i]?=some u/\RelV x u
 |_,_,_,_,.nil,e=>by simp at e
 |_,_,0,_,.cons r _,e=>by simp_all
 |_,_,i+1,x,.cons _ t,e=>by
  obtain⟨u,c,b⟩:=Vals.get (i:=i) (x:=x) t (by simp_all)
  simp_all
theorem Vals.set(r:RelV x u):∀{xs:yaq} {a:yad} (i:Nat),Vals xs a->Vals (xs.set i x) (a.set i u)
 |_,_,_,.nil=>.nil
 |_,_,0,.cons _ t=>.cons r t
 |_,_,i+1,.cons q t=>.cons q (Vals.set r i t)
theorem Vals.append:∀{xs ys:yaq} {a ws:yad},Vals xs a->Vals ys ws->Vals (xs++ys) (a++ws)
 |_,_,_,_,.nil,s=>s
 |_,_,_,_,.cons r t,s=>.cons r (Vals.append t s)
theorem Vals.take:∀{xs:yaq} {a:yad} (n:Nat),Vals xs a->Vals (xs.take n) (a.take n)
 |_,_,0,_=>.nil
 |_,_,_+1,.nil=>.nil
 |_,_,n+1,.cons r t=>.cons r (Vals.take n t)
theorem Vals.drop:∀{xs:yaq} {a:yad} (n:Nat),Vals xs a->Vals (xs.drop n) (a.drop n)
 |_,_,0,r=>r
 |_,_,_+1,.nil=>.nil
 |_,_,n+1,.cons _ t=>Vals.drop n t
def Vals.none_of:∀{xs:yaq} {a:yad} {i:Nat},Vals xs a->xs[i]?=none->a[i]?=none:=fun {xs a i} r e=>by
 have b:=r.length
 simp_all
def lK:Option V->yan->Prop
 |some v,some u=>RelV v u
 |none,none=>True
 |_,_=>False
def KV{κ:Type}:List (κ×V)->List (κ×Value)->Prop:=Paired λ(p:κ×V) (q:κ×Value)=>p.1=q.1/\RelV p.2 q.2
def kV:Key->V
 |.inl i=>.int i
 |.inr x=>.str x
inductive HO where
 |lst (xs:yaq)
 |tup (xs:yaq)
 |dK (kvs:List (Key×V))|dT (kvs:List (List Key×V))
 |set (S:Int->Bool) (n:Nat)
 |ins (C dx:Addr) (fs:List (Str×V))
 |own (x:Addr)
 |xd (fs:List (Str×V))
 |met (f x:Addr)
 |rng (lo hi:Int)
 |frz (o:Obj) (u:HO)
 |Xb (ps:yao)
 |ext (φ:Heap->Prop)
abbrev Hp:=Addr->Option HO
def upd(H:Hp)(a:Addr)(o:HO):Hp:=λb=>if b=a then some o else H b
theorem aP:upd H a o a=some o:=by unfold upd;lia
theorem aC{a b:Addr}(h:b≠a):upd H a o b=H b:=by unfold upd;lia
def nU{H:Hp}{o u:HO}(h:H a=some o)(h':H b=some u)(d:o≠u):a≠b:=by lia
def gN{H:Hp}{o:HO}(h:H a=some o)(h':H b=none):a≠b:=by lia
section
variable(P:Program)(w:World)
def bG(H:Hp)(h:Heap)(a:Addr):HO->Prop
 |.lst c=>c.length<=sizeLine/\∃(b:yad) (n:Nat),Vals c b/\h.get? a=some {cls:=.type "list", data:=.seq b.toArray n}
 |.tup c=>c.length<=sizeLine/\∃b:yad,Vals c b/\IsTup h a b.toArray
 |.dK b=>b.length<=sizeLine/\(a==sysModules)=false/\∃d,KV b d/\h.DictOf (cq P w) a d
 |.dT b=>b.length<=sizeLine/\(a==sysModules)=false/\∃c:List (List Key×Addr×Value),
   Paired (λ(p:List Key×V) (q:List Key×Addr×Value)=>p.1=q.1/\H q.2.1=some (.tup (p.1.map kV))/\RelV p.2 q.2.2) b c ∧
   ∃ o b d,h.get? a=some o/\o.ExactDict/\o.data=.dict b d/\b.toList=c.map (entryOfKey (tupleKind (cq P w)))/\(c.map (·.1)).Nodup
 |.set S n=>h.SetOf (intKind P w) a S n
 |.ins C d c=>H d=some (.own a)/\c.length<=1000/\d≠a/\h.get? a=some (PySem.W.instObj C d) ∧
   ∃ b,h.Ns1 d b/\(∀f,lK (c.lookup f) (b f))/\PySem.Within b (c.map (·.1))
 |.own _=>∃o,h.get? a=some o
 |.xd c=>∃b,h.Ns1 a b/\∀f,lK (c.lookup f) (b f)
 |.rng lo b=>∃t u v,h.get? a=some {cls:=.type "range", data:=.fields #[.int lo t,.int b u,.int 1 v]}
 |.frz o u=>h.get? a=some o/\bG H h a u
 |.Xb b=>h.get? a=some {cls:=.none,data:=.fields b}
 |.met f x=>h.get? a=some (PySem.W.methodObj (.ref f) (.ref x))
 |.ext b=>b h/\(∃o,h.get? a=some o)/\∀d c:Heap,b d->(∀o,d.get? a=some o->c.get? a=some o)->b c
def UA(H:Hp)(h:Heap):Prop:=∀a o,H a=some o->bG P w H h a o
end
section
variable{P:Program}{w:World}{H H':Hp}{h h':Heap}{a:Addr}{o:HO}
theorem bG.lt(x:bG P w H h a o):a<h.objs.size:=by
 cases o with
 |lst b=>obtain⟨_,_,_,_,e⟩:=x;exact SH e
 |tup b=>obtain⟨_,_,_,p⟩:=x;exact p.lt
 |dK b=>obtain⟨_,_,_,_,o,_,_,e,_⟩:=x;exact SH e
 |dT b=>obtain⟨_,_,_,_,o,_,_,e,_⟩:=x;exact SH e
 |set S n=>obtain⟨o,_,_,_,e,_⟩:=x;exact SH e
 |ins C i b=>obtain⟨_,_,_,e,_⟩:=x;exact SH e
 |own y=>obtain⟨_,e⟩:=x;exact SH e
 |xd b=>obtain⟨_,⟨_,_,_,e,_⟩,_⟩:=x;exact SH e
 |rng lo g=>obtain⟨_,_,_,e⟩:=x;exact SH e
 |frz ob u=>obtain⟨e,_⟩:=x;exact SH e
 |Xb d=>exact SH (show h.get? a=some _ from x)
 |met f y=>exact SH (show h.get? a=some _ from x)
 |ext c=>obtain⟨_,⟨_,e⟩,_⟩:=x;exact SH e
theorem Paired.mapP{d c:Type}{F G:d->c->Prop}:∀{l₁:List d} {l₂:List c},Paired F l₁ l₂->(∀a b,F a b->G a b)->Paired G l₁ l₂
 |_,_,.nil,_=>.nil
 |_,_,.cons r t,f=>.cons (f _ _ r) (Paired.mapP t f)
def bG.VY(x:bG P w H h a o)(k:∀b u,(b=a∨H b=some (.own a))->h.get? b=some u->h'.get? b=some u)
  (l:∀b,H b=some (.own a)->H' b=some (.own a)) (A:∀b xs,H b=some (.tup xs)->H' b=some (.tup xs)):bG P w H' h' a o:=by
 induction o with
 |lst xs=>obtain⟨z,d,n,r,e⟩:=x;exact⟨z,d,n,r,by simp_all⟩
 |tup xs=>obtain⟨z,d,r,b,e,c⟩:=x;exact⟨z,d,r,b,by grind,c⟩
 |dK d=>obtain⟨z,y,i,r,b,f,g,e,c⟩:=x;exact⟨z,y,i,r,b,f,g,by grind,c⟩
 |dT d =>
  obtain⟨z,y,xs,r,b,f,g,e,c⟩:=x;exact⟨z,y,xs,Paired.mapP r (by simp_all),b,f,g,by grind,c⟩
 |set S n=>obtain⟨b,f,g,t,e,c⟩:=x;exact⟨b,f,g,t,by grind,c⟩
 |ins C G m =>
  obtain⟨d,z,k,e,j,⟨i,f,g,E,c⟩,r⟩:=x;exact⟨l _ d,z,k,by simp_all,j,⟨i,f,g,by simp_all,c⟩,r⟩
 |own y=>obtain⟨b,e⟩:=x;exact⟨b,by grind⟩
 |xd m=>obtain⟨j,⟨i,f,g,e,c⟩,r⟩:=x;exact⟨j,⟨i,f,g,by grind,c⟩,r⟩
 |rng lo B=>obtain⟨t,u,v,e⟩:=x;exact⟨t,u,v,by simp_all⟩
 |frz b u ih=>obtain⟨e,q⟩:=x;exact⟨by grind,ih q⟩
 |Xb b =>
  have e:h.get? a=some {cls:=.none,data:=.fields b}:=x;show h'.get? a=some {cls:=.none,data:=.fields b}
  simp_all
 |met f y =>
  have e:h.get? a=some (PySem.W.methodObj (.ref f) (.ref y)):=x;show h'.get? a=some (PySem.W.methodObj (.ref f) (.ref y))
  simp_all
 |ext s=>obtain⟨p,⟨o,e⟩,st⟩:=x;exact⟨st _ _ p (by grind),by simp_all,st⟩
theorem UA.lt(x:UA P w H h)(e:H a=some o):a<h.objs.size:=(x a o e).lt
def UA.fresh(x:UA P w H h)(e:h.objs.size<=a):H a=none:=by
 cases q:H a with
 |none=>rfl
 |some u=>exact absurd (Tt (x.lt q) e) (by simp_all)
def UA.kept(x:UA P w H h)(k:∀b u,h.get? b=some u->h'.get? b=some u):UA P w H h':=λa o e =>
 (x a o e).VY (by grind) (by lia) (by lia)
def UA.laid(x:UA P w H h)(k:∀b u,h.get? b=some u->h'.get? b=some u)(c:h.objs.size<=a)(d:bG P w (upd H a o) h' a o):UA P w (upd H a o) h':=λb u e=>by have g:=x.fresh c;by_cases c:b=a;grind [aP];rw[aC c]at e;exact(x b u e).VY (by grind) (λc q=>by rw[aC (by lia)];exact q) λc f q=>by rw[aC (by lia)];exact q
end
def Rd(H:Hp)(a:Addr)(u:HO):Prop:=H a=some u∨∃ o,H a=some (.frz o u)
def Rd.ok(r:Rd H a u)(x:UA P w H h):bG P w H h a u:=by
 rcases r with r|⟨o,r⟩;exact x a u r;obtain⟨_,q⟩:=x a _ r;exact q
def Mut:Option HO->Prop
 |some (.lst _)=>True
 |some (.dK _)=>True
 |some (.dT _)=>True
 |some (.set _ _)=>True
 |some (.ins _ _ _)=>True
 |some (.ext _)=>True
 |_=>False
section
variable{P:Program}{w:World}{H:Hp}{h h':Heap}{x e:Addr}{o':HO}
def UA.write(j:UA P w H h)(a:Mut (H x))(n:e=x∨H e=some (.own x))(k:∀b u,b≠e->h.get? b=some u->h'.get? b=some u)(d:∃u,h'.get? e=some u)
  (l:bG P w (upd H x o') h' x o'):UA P w (upd H x o') h':=λb u q=>by
 have i:∀c y,H c=some (.own y)->c≠x:=λc y r z=>by subst z;rw[r]at a;exact a
 have g:∀c f,H c=some (.tup f)->c≠x:=λc f r z=>by subst z;rw[r]at a;exact a
 by_cases a:b=x;grind [aP];rw[aC a]at q;by_cases m:b=e;have a:H b=some (.own x):=by lia
 rw[q]at a;cases a;obtain⟨v,hv⟩:=d;exact⟨v,by lia⟩;refine(j b u q).VY (λc v o r=>k c v ?_ r) (by grind [aC]) (by grind [aC]);grind
end
structure Un(fs ex:yae)(H H':Hp)(h h':Heap):Prop where
 keep:∀b o,h.get? b=some o->H b=none->b∉fs->b∉ex->h'.get? b=some o
 slot:∀b o,h.get? b=some o->H b=none->b∈fs->b∉ex->∃sl,h'.get? b=some {o with slots:=sl}
 free:∀b o,h.get? b=some o->H b=none->b∉ex->H' b=none
 there:∀b o,h.get? b=some o->b∉ex->∃o',h'.get? b=some o'
 VZ:∀b xs,H b=some (.tup xs)->H' b=some (.tup xs)
 VB:∀b o u,H b=some (.frz o u)->H' b=some (.frz o u)
 Wn:∀b ps,H b=some (.Xb ps)->∃more,H' b=some (.Xb (ps++more))
section
variable{fs fs' ex ex':yae}{H H1 H2:Hp}{h h1 h2 h':Heap}{a x e:Addr}{o:HO}
def Un.any(u:Un fs ex H H1 h h1){c:Obj}(q:h.get? b=some c)(n:H b=none)(d:b∉ex):∃f,h1.get? b=some {c with slots:=f}:=by by_cases f:b∈fs;exact u.slot b c q n f d;exact⟨c.slots,u.keep b c q n f d⟩
def Un.kept(k:∀b u,h.get? b=some u->h'.get? b=some u):Un fs ex H H h h' :=
 ⟨by grind,λb c q _ _ _=>⟨c.slots,k b c q⟩,by lia,by grind,by lia,by lia,by simp_all⟩
theorem Un.refl:Un fs ex H H h h:=Un.kept (by lia)
def Un.laid(k:∀b u,h.get? b=some u->h'.get? b=some u)(c:h.objs.size<=a)(f:H a=none):Un fs ex H (upd H a o) h h' where
 keep:=by grind
 slot:=λb u q _ _ _=>⟨u.slots,k b u q⟩
 free:=λb u q n _=>by rw[aC (Uw (Tt (SH q) c))];lia
 there:=by grind
 VZ:=λb c q=>by rw[aC (by lia)];exact q
 VB:=λb u c q=>by rw[aC (by lia)];exact q
 Wn:=λb d q=>⟨#[],by rw[aC (by lia),q];simp⟩
def Un.write(c:Mut (H x))(j:e=x∨H e=some (.own x))(k:∀b u,b≠e->h.get? b=some u->h'.get? b=some u)(f:∃u,h'.get? e=some u):Un fs ex H (upd H x o) h h':=by
 have i:∀b,H b=none->b≠x:=λb n z=>by subst z;rw[n]at c;exact c
 have l:∀b,H b=none->b≠e:=by lia
 have c:∀b u,H b=some u->¬Mut (some u)->b≠x:=by lia
 refine⟨by simp_all,λb u q n _ _=>⟨u.slots,by simp_all⟩,by grind [aC],λb u q _=>?_,
  λb d q=>by rw[aC (c b _ q λz=>z)];exact q,λb u d q=>by rw[aC (c b _ q λz=>z)];exact q,λb g q=>⟨#[],by rw[aC (c b _ q λz=>z),q];simp⟩⟩
 grind
end
noncomputable def trk(h:Heap)(H:Hp):yae:=(List.range h.objs.size).filter λa=>(H a).isSome
def nQ(h:Heap)(H:Hp):Heap:=PySem.W.hideAll h (trk h H)
def Gh(h:Heap)(H:Hp):(nQ h H).objs.size=h.objs.size:=PySem.W.hideAll_size _ _
def Jb{h:Heap}{H:Hp}{o:Obj}(e:h.get? b=some o)(n:H b=none):(nQ h H).get? b=some o :=
 PySem.W.hideAll_get _ e λa=>by have q:(H b).isSome=true:=(Yf.mp a).2;grind
def Mj{o:Obj}(e:(nQ h H).get? b=some o):h.get? b=some o/\H b=none:=by
 have a:h.get? b=some o:=PySem.W.of_hideAll (trk h H) e;refine⟨a,?_⟩;cases q:H b with
 |none=>rfl
 |some x =>
  have a:b∈trk h H:=Yf.mpr (by grind [Heap.lt_size]);have z:(nQ h H).get? b=none:=PySem.W.hideAll_none (trk h H) a
  lia
structure Mod(K:yac)(mg:yam)(base:Heap):Prop where
 VC:K.In base
 glob:base.Ns mainGlobals mg
 blt:∃mb,base.Ns builtinsNs mb/\∀x:Str,x ≠ "__name__" -> mb x=bootBuiltins x
 nolimit:base.NoLimit
structure Cx where
 prog:Program
 w:World
 K:yac
 mg:yam
 base:Heap
 A:Around
 N:yah
 RT:Shared
 Sj:Hp
 env:Env
 outer:List Env
 stack:List Env
 ex:yae
 fn:Str->Bool
 calm:Bool
 pn:yab
 xe:yaa
noncomputable def Wg(l:List Env):yae:=l.filterMap (·.frame)
abbrev Cx.fs(X:Cx):yae:=Wg X.outer
def Yh(a:Scope)(x:Str):Prop:=a.names.lookup x=some .local∨a.names.lookup x=some .cell∨a.names.lookup x=some .free
def Loc(a:Scope)(x:Str):Prop:=a.names.lookup x=some .local∨a.names.lookup x=some .cell
def Look(env:Env)(h:Heap)(m:yam)(x:Str)(u:Value):Prop :=
 (env.kindOf x=some .local/\m x=some u)∨((env.kindOf x=some .cell∨env.kindOf x=some .free)/\∃c,env.cells.lookup x=some c/\h.IsCell c (some u))
structure Cx.Ok(X:Cx):Prop where
 mod:Mod X.K X.mg X.base
 kind:X.env.scope.kind=.function
 glob:X.env.globals=mainGlobals
 blt:X.env.builtins=builtinsNs
 above:X.RT.heap.objs.size<=X.env.locals
 inj:∀x y c,X.env.cells.lookup x=some c->X.env.cells.lookup y=some c->x=y
 has:∀x,(X.env.kindOf x=some .cell∨X.env.kindOf x=some .free)->∃c,X.env.cells.lookup x=some c
 Y0:∀x c,X.fn x=true->X.env.cells.lookup x=some c->X.RT.heap.objs.size<=c
 hd:X.calm=true->X.A.handled=none
 frames:X.A.frames=some X.stack
 stk:X.stack=X.outer∨(X.stack=X.env::X.outer/\X.env.frame=some X.env.locals)
 exf:∀b∈X.ex,b≠X.env.locals/\∀x c,X.env.cells.lookup x=some c->c≠b
 bs:∀b o,X.base.get? b=some o->X.RT.heap.get? b=some o/\X.Sj b=none
 bsz:X.base.objs.size<=X.RT.heap.objs.size
 XS:∀b o,X.base.get? b=some o->b∉X.ex
 Zj:∀b∈X.ex,b∉X.fs
 Vo:X.RT.heap.FunFrames X.base X.outer
 frf:∀b∈X.fs,X.Sj b=none
structure Inv(X:Cx)(pins:yab)(σ:List (Option V))(H:Hp)(s:Shared):Prop where
 ok:X.Ok
 os:s.os=X.RT.os
 bare:AllBare s.gens
 base:Un X.fs X.ex X.Sj H X.RT.heap s.heap
 loc:∃m,s.heap.Ns X.env.locals m/\∀(i:Nat) (x:Str) (v:V),X.N[i]?=some x->σ[i]?=some (some v)->Yh X.env.scope x->∃u,RelV v u/\Look X.env s.heap m x u
 cell:∀x c,X.env.cells.lookup x=some c->∃v,s.heap.IsCell c v
 free:H X.env.locals=none
 T6:∀x c,X.env.cells.lookup x=some c->H c=none
 pin:∀p∈X.pn++pins,s.heap.get? p.1=some p.2/\H p.1=none/\p.1≠X.env.locals/\p.1∉X.fs/\∀v,p.2.data ≠ .cell v
 R7:UA X.prog X.w H s.heap
 len:σ.length=X.N.length
section
variable{X:Cx}{pins:yab}{σ:List (Option V)}{H H':Hp}{s:Shared}{h':Heap}
def Cx.Ok.nofr(a:X.Ok){o:Obj}(e:X.base.get? b=some o):b∉X.fs:=λb=>by
 have:=(a.Vo.mem b).1
 lia
theorem Inv.bs(I:Inv X pins σ H s):∀b o,X.base.get? b=some o->s.heap.get? b=some o/\H b=none:=λb o e =>
 ⟨I.base.keep b o (I.ok.bs b o e).1 (I.ok.bs b o e).2 (I.ok.nofr e) (I.ok.XS b o e),I.base.free b o (I.ok.bs b o e).1 (I.ok.bs b o e).2 (I.ok.XS b o e)⟩
def Inv.bk(I:Inv X pins σ H s):∀b o,X.base.get? b=some o->s.heap.get? b=some o:=λb o e=>(I.bs b o e).1
theorem Inv.mod(I:Inv X pins σ H s):Mod X.K X.mg X.base:=I.ok.mod
def Inv.WD(I:Inv X pins σ H s):X.K.In s.heap:=I.ok.mod.VC.keeps I.bk
theorem Inv.lt(I:Inv X pins σ H s):X.env.locals<s.heap.objs.size:=let ⟨_,hn,_⟩:=I.loc;hn.lt
def Inv.sz(I:Inv X pins σ H s):X.RT.heap.objs.size<=s.heap.objs.size:=Sd I.ok.above (UD I.lt)
def Inv.nofs(I:Inv X pins σ H s){a:Addr}(h:s.heap.objs.size<=a):a∉X.fs:=λb=>by obtain⟨_,o,a,_⟩:=I.ok.Vo.mem b;exact absurd (Tt (SH a) (Sd I.sz h)) (by simp_all)
def Inv.cne(I:Inv X pins σ H s):∀x c,X.env.cells.lookup x=some c->c≠X.env.locals:=λx c e z=>by
 obtain⟨v,o,b,d⟩:=I.cell x c e;obtain⟨m,⟨a,f,g,Xc,Xn,_⟩,_⟩:=I.loc
 lia
theorem Inv.Vo(I:Inv X pins σ H s):s.heap.FunFrames X.base X.outer:=by
 have c:∀(l:List Env),(∀b∈Wg l,b∈X.fs)->X.RT.heap.FunFrames X.base l->s.heap.FunFrames X.base l:=by
  intro l
  induction l with
  |nil=>intro _ _;trivial
  |cons j r ih =>
   intro d a;obtain⟨h,⟨L,o,i,m,g,n⟩,f⟩:=a;have a:L∈X.fs:=d L (by unfold Wg;simp_all);obtain⟨k,e⟩:=I.base.slot L o g (I.ok.frf L a) a λz=>I.ok.Zj L z a
   exact⟨h,by simp_all,ih (λb a=>d b (by unfold Wg;rw[zDQ,i];exact W4 _ a)) f⟩
 exact c X.outer (by lia) I.ok.Vo
theorem Inv.stack(I:Inv X pins σ H s):s.heap.FunFrames X.base X.stack:=by
 rcases I.ok.stk with e|⟨e,b⟩;rw[e];exact I.Vo;rw[e];obtain⟨m,a,_⟩:=I.loc;refine .cons (by rw[I.ok.kind];decide) b a ?_ I.Vo;exact Heap.get?_none_of_le (Sd I.ok.bsz I.ok.above)
def Inv.V0(I:Inv X pins σ H s):∀b∈Wg X.stack,b∈X.env.locals::X.fs:=λb a=>by
 rcases I.ok.stk with e|⟨e,b⟩;grind;rw[e]at a;unfold Wg at a;rw[zDQ,b]at a;exact a
def Inv.WL(I:Inv X pins σ H s):∀b∈Wg X.stack,H b=none:=λb hb=>by
 rcases Tx.mp (I.V0 b hb)with e|hb;rw[e];exact I.free;obtain⟨_,o,a,_⟩:=I.ok.Vo.mem hb;exact I.base.free b o a (I.ok.frf b hb) λz=>I.ok.Zj b z hb
def Inv.step{t':Nat}{d':Drawn}{ch:yae}(I:Inv X pins σ H s)
  (w:∀b∈ch,(b∈X.ex∨X.RT.heap.objs.size<=b)/\b≠X.env.locals/\(∀x c,X.env.cells.lookup x=some c->c≠b)/\∀p∈X.pn++pins,p.1≠b)
  (g:∀b o,b≠X.env.locals->b∉X.fs->b∉ch->s.heap.get? b=some o->H b=none->h'.get? b=some o)
  (f:∀b o,b≠X.env.locals->b∈X.fs->b∉ch->s.heap.get? b=some o->H b=none->∃A,h'.get? b=some {o with slots:=A}) (d:∀b o,b∉ch->s.heap.get? b=some o->H b=none->H' b=none)
  (y:∀b o,b∉ch->s.heap.get? b=some o->∃r,h'.get? b=some r)
  (E:∀b xs,H b=some (.tup xs)->H' b=some (.tup xs)) (G:∀b o u,H b=some (.frz o u)->H' b=some (.frz o u)) (Wn:∀b ps,H b=some (.Xb ps)->∃a,H' b=some (.Xb (ps++a)))
  (ns:∀m,s.heap.Ns X.env.locals m->h'.Ns X.env.locals m) (J:UA X.prog X.w H' h') (C:AllBare g') :
  Inv X pins σ H' {s with heap:=h',gens:=g',drawn:=d',toks:=t'}:=by
 have k:∀b o,X.RT.heap.get? b=some o->b≠X.env.locals:=λb o e=>Uw (Tt (SH e) I.ok.above)
 have h:∀b o,X.RT.heap.get? b=some o->b∉X.ex->b∉ch:=λb o e a i=>by
  rcases(w b i).1 with z|z;exact a z;exact absurd (Tt (SH e) z) (zCr _)
 have j:∀x c,X.env.cells.lookup x=some c->∀v,s.heap.IsCell c v->h'.IsCell c v:=λx c e v ⟨o,t,B⟩=>by
  have l:c∉ch:=λz=>(w c z).2.2.1 x c e rfl
  by_cases n:c∈X.fs;obtain⟨A,q⟩:=f c o (I.cne x c e) n l t (I.T6 x c e);exact⟨_,q,B⟩;exact⟨o,g c o (I.cne x c e) n l t (I.T6 x c e),B⟩
 refine⟨I.ok,I.os,C,⟨λb o e n i a=>?_,λb o e n i a=>?_,λb o e n a=>?_,λb o e a=>?_,λb xs e=>E b xs (I.base.VZ b xs e),λb o xs e=>G b o xs (I.base.VB b o xs e),λb ps e=>?_⟩,?_,λx c e=>?_,?_,λx c e=>?_,λp C=>?_,J,I.len⟩;exact g b o (k b o e) i (h b o e a) (I.base.keep b o e n i a) (I.base.free b o e n a);obtain⟨A,g⟩:=I.base.slot b o e n i a;obtain⟨l,q⟩:=f b _ (k b o e) i (h b o e a) g (I.base.free b o e n a);exact⟨l,q⟩;obtain⟨r,g⟩:=I.base.there b o e a;exact d b r (h b o e a) g (I.base.free b o e n a);obtain⟨r,g⟩:=I.base.there b o e a;grind;obtain⟨N,g⟩:=I.base.Wn b ps e;grind;obtain⟨m,a,b⟩:=I.loc;refine⟨m,ns m a,λi x v g q a=>?_⟩;obtain⟨u,r,l⟩:=b i x v g q a;refine⟨u,r,?_⟩;rcases l with l|⟨k,c,e,z⟩;exact .inl l;exact .inr ⟨k,c,e,j x c e _ z⟩;obtain⟨v,z⟩:=I.cell x c e;grind;obtain⟨m,⟨o,_,_,t,_⟩,_⟩:=I.loc;exact d _ o (λz=>(w _ z).2.1 rfl) t I.free;obtain⟨v,o,t,B⟩:=I.cell x c e;exact d c o (λz=>(w c z).2.2.1 x c e rfl) t (I.T6 x c e);obtain⟨e,n,M,L,d⟩:=I.pin p C;grind
def Inv.un{t':Nat}(I:Inv X pins σ H s)(u:Un X.fs [] H H' s.heap h')(h:UA X.prog X.w H' h'):Inv X pins σ H' {s with heap:=h',toks:=t'}:=by
 obtain⟨m,⟨o,l,p,c,r⟩,_⟩:=id I.loc;obtain⟨i,f⟩:=u.any c I.free (by simp);exact I.step (g':=s.gens) (d':=s.drawn) (ch:=[]) (by grind) (λb o _ a _ e n=>u.keep b o e n a (by simp)) (λb o _ a _ e n=>u.slot b o e n a (by simp)) (λb o _ e n=>u.free b o e n (by simp)) (λb o _ e=>u.there b o e (by simp)) u.VZ u.VB u.Wn (λk e=>by obtain⟨j,g,a,b,d⟩:=e;rw[c]at b;cases b;exact⟨_,g,a,f,d⟩) h I.bare
def Inv.call{t':Nat}{d':Drawn}(I:Inv X pins σ H s)(u:Un (Wg X.stack) ch H H' s.heap h')(i:UA X.prog X.w H' h')(g:AllBare g')
  (a:∀b∈ch,(b∈X.ex∨X.RT.heap.objs.size<=b)/\b≠X.env.locals/\(∀x c,X.env.cells.lookup x=some c->c≠b)/\∀p∈X.pn++pins,p.1≠b) :
  Inv X pins σ H' {s with heap:=h',gens:=g',drawn:=d',toks:=t'}:=by
 obtain⟨m,⟨o,q,t,d,r⟩,_⟩:=id I.loc;obtain⟨j,c⟩:=u.any d I.free λz=>(a _ z).2.1 rfl
 exact I.step (ch:=ch) a (λb o c f a e n=>u.keep b o e n (λz=>(Tx.mp (I.V0 b z)).elim c f) a) (λb o _ _ a e n=>u.any e n a) (λb o a e n=>u.free b o e n a) (λb o a e=>u.there b o e a) u.VZ u.VB u.Wn (λl f=>by obtain⟨k,h,a,b,e⟩:=f;rw[d]at b;cases b;exact⟨_,h,a,c,e⟩) i g
def Inv.turned{t':Nat}{a:Addr}(I:Inv X pins σ H s)(k:∀b o,b≠a->s.heap.get? b=some o->h'.get? b=some o)(n:H a=none)(g:a≠X.env.locals)
  (j:a∈X.ex∨X.RT.heap.objs.size<=a) (i:∀x c,X.env.cells.lookup x=some c->c≠a) (h:∀p∈X.pn++pins,p.1≠a):Inv X pins σ H {s with heap:=h',toks:=t'}:=by
 refine I.step (g':=s.gens) (d':=s.drawn) (ch:=[a]) (λb t=>?_) (by grind) (λb o _ _ f e _=>⟨o.slots,by simp_all⟩) (by lia)
  (by grind) (by lia) (by lia) (by simp_all) (λm d=>?_) (λb u e=>?_) I.bare
 have e:b=a:=by simp_all
 subst e;exact⟨j,g,i,h⟩;obtain⟨o,a,g,l,r⟩:=d;exact⟨o,a,g,by grind,r⟩;refine(I.R7 b u e).VY (λc v f q=>k c v ?_ q) (by lia) (by lia)
 lia
def Inv.tok(I:Inv X pins σ H s)(t:Nat):Inv X pins σ H {s with toks:=t}:=I.un (h':=s.heap) (t':=t) Un.refl I.R7
theorem Inv.kept{t':Nat}(I:Inv X pins σ H s)(k:∀b u,s.heap.get? b=some u->h'.get? b=some u):Inv X pins σ H {s with heap:=h',toks:=t'}:=I.un (Un.kept k) (I.R7.kept k)
theorem Inv.laid{a:Addr}{t':Nat}(I:Inv X pins σ H s)(k:∀b u,s.heap.get? b=some u->h'.get? b=some u)(d:s.heap.objs.size<=a)(c:bG X.prog X.w (upd H a o) h' a o) :
  Inv X pins σ (upd H a o) {s with heap:=h',toks:=t'}:=I.un (Un.laid k d (I.R7.fresh d)) (I.R7.laid k d c)
theorem Inv.write{e:Addr}{t':Nat}(I:Inv X pins σ H s)(d:Mut (H x))(f:e=x∨H e=some (.own x))(k:∀b u,b≠e->s.heap.get? b=some u->h'.get? b=some u)(a:∃u,h'.get? e=some u)
  (c:bG X.prog X.w (upd H x o) h' x o):Inv X pins σ (upd H x o) {s with heap:=h',toks:=t'}:=I.un (Un.write d f k a) (I.R7.write d f k a c)
def Inv.Yi{a:yab}(I:Inv X pins σ H s)(h:∀p∈a,s.heap.get? p.1=some p.2/\H p.1=none/\p.1≠X.env.locals/\p.1∉X.fs/\∀v,p.2.data ≠ .cell v):Inv X a σ H s :=
 ⟨I.ok,I.os,I.bare,I.base,I.loc,I.cell,I.free,I.T6,λp a=>(Ta.mp a).elim (λz=>I.pin p (by simp_all)) (h p),I.R7,I.len⟩
def tO{N:yah}(c:N.Nodup){i j:Nat}{x:Str}(a:N[i]?=some x)(b:N[j]?=some x):i=j:=by grind [List.getElem_inj]
def qR{i:Nat}{x:Str}{Q:Unit->Shared->Prop}(I:Inv X pins σ H s)(hN:X.N.Nodup)(J:X.N[i]?=some x)(l:Loc X.env.scope x)(r:RelV v u)
  (h:∀b,Inv X pins (σ.set i (some v)) H b->(∃a,Heap.SameBut a s.heap b.heap/\(a=X.env.locals∨X.env.cells.lookup x=some a))->Q () b) (hf:X.fn x=true∨X.env.scope.names.lookup x=some .local:=by first|exact .inl rfl|exact .inr rfl|assumption):wpAny M A (storeName X.env x u) Q E s:=by
 obtain⟨m,hn,hl⟩:=id I.loc;have d:(X.env.scope.kind==.class || (X.env.scope.kind==.module && X.env.locals != X.env.globals))=false:=by rw[I.ok.kind];rfl
 have A:i<σ.length:=by rw[I.len];exact(VE.mp J).1
 have G:=I.cne;have f:∀{a:Addr} {h':Heap},(∃o,s.heap.get? a=some o/\H a=none)->Heap.SameBut a s.heap h'->UA X.prog X.w H h':=fun {a h'} ha a b c e=>by
  refine(I.R7 b c e).VY (λc M t q=>(a.2 c ?_).trans q) (λ_ q=>q) λ_ _ q=>q
  lia
 rcases l with hk|hk;refine wpAny_storeName_local hk hn (λh' g a=>?_) d;obtain⟨oL,_,_,d,_⟩:=id hn;refine h _ ⟨I.ok,I.os,I.bare,⟨λb o e n E l=>?_,λb o e n E l=>?_,I.base.free,λb o e l=>?_,I.base.VZ,I.base.VB,I.base.Wn⟩,⟨_,g,λj y N g w e3=>?_⟩,λy c e=>?_,I.free,I.T6,λp hp=>?_,f ⟨oL,d,I.free⟩ a,by simpa using I.len⟩ ⟨_,a,.inl rfl⟩;exact(a.2 b (Uw (Tt (SH e) I.ok.above))).trans (I.base.keep b o e n E l);obtain⟨Q,g⟩:=I.base.slot b o e n E l;exact⟨Q,(a.2 b (Uw (Tt (SH e) I.ok.above))).trans g⟩;obtain⟨U,g⟩:=I.base.there b o e l;exact⟨U,(a.2 b (Uw (Tt (SH e) I.ok.above))).trans g⟩;by_cases B:j=i;subst B;rw[J]at g;cases g;rw[Zb A]at w;cases w;exact⟨u,r,.inl ⟨hk,by simp⟩⟩;rw[Vx (Ne.symm B)]at w;obtain⟨O,T,q⟩:=hl j y N g w e3;refine⟨O,T,?_⟩;rcases q with⟨k,e⟩| ⟨k,c,e,z⟩;refine .inl ⟨k,?_⟩;have:y≠x:=λe=>B (tO hN g (e ▸ J))
 simp[this,e];exact .inr ⟨k,c,e,z.sameBut a (G y c e)⟩;obtain⟨M,z⟩:=I.cell y c e;exact⟨M,z.sameBut a (G y c e)⟩;obtain⟨e,n,L,Y,d⟩:=I.pin p hp;exact⟨(a.2 p.1 L).trans e,n,L,Y,d⟩;have C:X.fn x=true:=by
  rcases hf with z|z;exact z;rw[z]at hk;cases hk
 obtain⟨c,t⟩:=I.ok.has x (.inl hk);obtain⟨M,z⟩:=I.cell x c t;refine wpAny_storeName_cell I.ok.kind hk t z (λh' Yw a=>?_);obtain⟨oc,M,hocd⟩:=id z;refine h {s with heap:=h'} ⟨I.ok,I.os,I.bare,⟨λb o e n E l=>?_,λb o e n E l=>?_,I.base.free,λb o e l=>?_,I.base.VZ,I.base.VB,I.base.Wn⟩,⟨m,hn.sameBut a (Ne.symm (G x c t)),λj y N g w e3=>?_⟩,λy h e=>?_,I.free,I.T6,λp hp=>?_,f ⟨oc,M,I.T6 x c t⟩ a,by simpa using I.len⟩ ⟨c,a,.inr t⟩;exact(a.2 b (Uw (Tt (SH e) (I.ok.Y0 x c C t)))).trans (I.base.keep b o e n E l);obtain⟨Q,g⟩:=I.base.slot b o e n E l;exact⟨Q,(a.2 b (Uw (Tt (SH e) (I.ok.Y0 x c C t)))).trans g⟩;obtain⟨U,g⟩:=I.base.there b o e l;exact⟨U,(a.2 b (Uw (Tt (SH e) (I.ok.Y0 x c C t)))).trans g⟩;by_cases B:j=i;subst B;rw[J]at g;cases g;rw[Zb A]at w;cases w;exact⟨u,r,.inr ⟨.inl hk,c,t,Yw⟩⟩;rw[Vx (Ne.symm B)]at w;obtain⟨O,T,q⟩:=hl j y N g w e3;refine⟨O,T,?_⟩;rcases q with q|⟨k,h,e,b⟩;exact .inl q;refine .inr ⟨k,h,e,b.sameBut a ?_⟩;rintro rfl;exact B (tO hN g (I.ok.inj _ _ _ e t ▸ J));by_cases b:h=c;subst b;exact⟨_,Yw⟩;obtain⟨f,c⟩:=I.cell y h e;exact⟨f,c.sameBut a b⟩;obtain⟨e,n,L,Y,d⟩:=I.pin p hp;refine⟨(a.2 p.1 ?_).trans e,n,L,Y,d⟩;grind
def dP{i:Nat}{x:Str}{Q:Unit->Shared->Prop}(I:Inv X pins σ H s)(e:X.N.Nodup)(c:X.N[i]?=some x)(b:Loc X.env.scope x)(r:RelV v u)
  (h:∀a,Inv X pins (σ.set i (some v)) H a->Q () a) (d:X.fn x=true∨X.env.scope.names.lookup x=some .local:=by first|exact .inl rfl|exact .inr rfl|assumption):wpAny M A (storeName X.env x u) Q E s :=
 qR I e c b r (λa b _=>h a b) d
def Inv.Xo{a:Shared}(I:Inv X pins σ H s)(d:a.os=s.os)(u:Un (Wg X.stack) ch H H' s.heap a.heap)(h:UA X.prog X.w H' a.heap)(f:AllBare a.gens)
  (g:∀b∈ch,(b∈X.ex∨X.RT.heap.objs.size<=b)/\b≠X.env.locals/\(∀x c,X.env.cells.lookup x=some c->c≠b)/\∀p∈X.pn++pins,p.1≠b):Inv X pins σ H' a:=by
 obtain⟨h',g',d',t',b⟩:=a;have e:b=s.os:=d;subst e;exact I.call (g':=g') (t':=t') (d':=d') u h f g
end
abbrev XK:=Value->Option Addr->Hp->Prop
abbrev St:=List (Option V)
abbrev VK:=V->Hp->Prop
abbrev TE:=St->Hp->VK->Prop
abbrev TT:=St->Hp->(Bool->Hp->Prop)->Prop
abbrev TA:=St->Hp->(yaq->Hp->Prop)->Prop
structure Ends where
 nx:St->Hp->Prop
 rt:VK
 bk:St->Hp->Prop:=λ_ _=>False
 ct:St->Hp->Prop:=λ_ _=>False
abbrev TS:=Ends->St->Hp->Prop
def EP(X:Cx)(a:yab)(c:St)(Q:VK)(u:Value)(d:Shared):Prop:=∃v b,Inv X a c b d/\RelV v u/\Q v b
def AP(X:Cx)(a:yab)(d:St)(Q:yaq->Hp->Prop)(e:yad)(f:Shared):Prop:=∃b c,Inv X a d c f/\Vals b e/\Q b c
def SP(X:Cx)(a:yab)(D:Ends)(f:Flow)(d:Shared):Prop :=
 match f with
 |.next=>∃c b,Inv X a c b d/\D.nx c b
 |.brk=>∃c b,Inv X a c b d/\D.bk c b
 |.cont=>∃c b,Inv X a c b d/\D.ct c b
 |.ret u=>∃v c b,Inv X a c b d/\RelV v u/\D.rt v b
def PE(X:Cx)(e:Expr)(t:TE):Prop :=
 ∀ (a:yab) (s:Shared) (b:St) (H:Hp) (Q:VK),Inv X a b H s->t b H Q->wpAny (model X.prog X.w) X.A (eval e X.env) (EP X a b Q) X.xe s
def PA(X:Cx)(es:yai)(t:TA):Prop :=
 ∀ (c:Pos) (a:yab) (s:Shared) (b:St) (H:Hp) (Q:yaq->Hp->Prop),Inv X a b H s->t b H Q->wpAny (model X.prog X.w) X.A (spliced (backTo c (starEach es X.env))) (AP X a b Q) X.xe s
def PS(X:Cx)(st:Stmt)(t:TS):Prop :=
 ∀ (a:yab) (s:Shared) (b:St) (H:Hp) (D:Ends),Inv X a b H s->t D b H->wpAny (model X.prog X.w) X.A (exec st X.env) (SP X a D) X.xe s
def PSs(X:Cx)(st:yal)(t:TS):Prop :=
 ∀ (a:yab) (s:Shared) (b:St) (H:Hp) (D:Ends),Inv X a b H s->t D b H->wpAny (model X.prog X.w) X.A (execs st X.env) (SP X a D) X.xe s
def Rw{b:Type}{t:Sem b}{Q c:b->Shared->Prop}{M:Model}{A:Around}{E:yaa}{s:Shared}(h:wpAny M A t Q E s)(d:∀a s,Q a s->c a s):wpAny M A t c E s:=VI h d λ_ _ x=>x
section
variable{X:Cx}
def E5(i:Nat):TE:=λa H Q=>∃v,a[i]?=some (some v)/\Q v H
def tC(v:V):TE:=λ_ H Q=>Q v H
def fT {i:Nat} {x:Str} (g:X.N[i]?=some x) (hv:Yh X.env.scope x) (d:(x==("__debug__" : Str))=false:=by decide) (j:(x==("__classdict__" : Str))=false:=by decide):PE X (.Name x pos) (E5 i):=by
 intro a s c H Q I h;obtain⟨v,e,h⟩:=h;obtain⟨m,f,b⟩:=I.loc;obtain⟨u,r,l⟩:=b i x v g e hv;have b:EP X a c Q u s:=⟨v,H,I,r,h⟩;rcases l with⟨a,g⟩| ⟨a,c,c,e⟩;exact wpAny_Name (wpAny_loadName_local I.ok.kind a f g b) d;rcases a with a|a;exact wpAny_Name (wpAny_loadName_cell I.ok.kind a c e b) d;exact wpAny_Name (wpAny_loadName_free I.ok.kind a c e b j) d
def AV{i j pos}:PE X (.Constant (.int i) j pos) (tC (.int i)):=λ_ _ _ H _ I h=>wpAny_Constant_int ⟨.int i,H,I.tok _,⟨_,rfl⟩,h⟩
def Qr{b j pos}:PE X (.Constant (.bool b) j pos) (tC (.bl b)):=λ_ _ _ H _ I h=>Constant_bool ⟨.bl b,H,I,rfl,h⟩
def O9{j pos}:PE X (.Constant .none j pos) (tC .RZ):=λ_ _ _ H _ I h=>Constant_none ⟨.RZ,H,I,rfl,h⟩
def Pa{x j pos}:PE X (.Constant (.str x) j pos) (tC (.str x)):=λ_ _ _ H _ I h=>Calls.Constant_str ⟨.str x,H,I.tok _,⟨_,rfl⟩,h⟩
def Gl(X:Cx)(x:Str):Prop:=X.env.kindOf x=some .globalImplicit
def mL{u:Value}{Q:yaa}(I:Inv X pins σ H s)(b:Gl X x)(a:X.mg x=some u)(h:Q u s)
  (c:(x==("__debug__" : Str))=false:=by decide):wpAny (model X.prog X.w) X.A (eval (.Name x pos) X.env) Q E s :=
 Calls.Name_function_global I.ok.kind b (Calls.loadGlobal_global (by rw[I.ok.glob];exact I.mod.glob.keeps I.bk) a h) c
def di{u:Value}{Q:yaa}(I:Inv X pins σ H s)(b:Gl X x)(a:X.mg x=none)(hv:bootBuiltins x=some u)(h:Q u s)
  (f:x ≠ "__name__" := by decide) (c:(x==("__debug__" : Str))=false:=by decide):wpAny (model X.prog X.w) X.A (eval (.Name x pos) X.env) Q E s:=by
 obtain⟨e,d,g⟩:=I.mod.blt;exact Calls.Name_function_global I.ok.kind b (Calls.loadGlobal_builtin (by rw[I.ok.glob];exact I.mod.glob.keeps I.bk) a (by rw[I.ok.blt];exact d.keeps I.bk) (by grind) h) c
def rJ {u:Value} (b:Gl X x) (a:X.mg x=some u) (r:RelV v u) (c:(x==("__debug__" : Str))=false:=by decide):PE X (.Name x pos) (tC v) :=
 λ_ _ _ H _ I h=>mL I b a ⟨v,H,I,r,h⟩ c
def CZ {u:Value} (c:Gl X x) (b:X.mg x=none) (hv:bootBuiltins x=some u) (r:RelV v u) (a:x ≠ "__name__" := by decide) (d:(x==("__debug__" : Str))=false:=by decide):PE X (.Name x pos) (tC v) :=
 λ_ _ _ H _ I h=>di I c b hv ⟨v,H,I,r,h⟩ a d
variable{a b:Expr}{ta tb:TE}{pos:Pos}
def AL(b:Expr){c:CmpOp}(h:c ≠ .In)(f:c ≠ .NotIn):behindInMarks c b=false:=by
 have e:(c==CmpOp.In)=false:=by lia
 have d:(c==CmpOp.NotIn)=false:=by lia
 cases b<;>simp[behindInMarks,e,d]
variable{tA tB':TT}{rest:yai}
end
def SqL(K:yac)(H:Hp)(a:Addr)(xs:yaq):Prop :=
 Rd H a (.lst xs) ∨
  ∃ (o:Obj) (b:yao) (n:Nat),K.lookup a=some o/\o.cls=.type "list" /\ o.dict=none/\o.data=.seq b n/\b.size<=sizeLine/\Vals xs b.toList
def SJ(K:yac)(H:Hp)(a:Addr)(xs:yaq):Prop :=
 Rd H a (.tup xs) ∨
  ∃ (o:Obj) (b:yao) (n:Nat),K.lookup a=some o/\o.cls=.type "tuple" /\ o.data=.seq b n/\b.size<=sizeLine/\Vals xs b.toList
noncomputable def QS:Value->Option V
 |.none=>some .RZ
 |.bool b=>some (.bl b)
 |.int i _=>some (.int i)
 |.str x _=>some (.str x)
 |.bytes b _=>some (.Zi b)
 |.float b _=>some (.flt b)
 |.ref a=>some (.ref a)
 |.type n=>some (.ty n)
 |_=>none
def RelV.abs(r:RelV x u):QS u=some x:=by
 cases x with
 |RZ=>cases r;rfl
 |bl _=>cases r;rfl
 |int _=>obtain⟨t,rfl⟩:=r;rfl
 |str _=>obtain⟨t,rfl⟩:=r;rfl
 |Zi _=>obtain⟨t,rfl⟩:=r;rfl
 |flt _=>obtain⟨t,rfl⟩:=r;rfl
 |ref _=>cases r;rfl
 |ty _=>cases r;rfl
theorem RelV.inj(r:RelV x u)(q:RelV y u):x=y:=Yu (r.abs.symm.trans q.abs)
theorem Vals.inj:∀{xs ys:yaq} {a:yad},Vals xs a->Vals ys a->xs=ys
 |_,_,_,.nil,.nil=>rfl
 |_,_,_,.cons r t,.cons b a=>by rw[r.inj b,Vals.inj t a]
section
variable{X:Cx}{pins:yab}{σ:St}{H:Hp}{s:Shared}{a:Addr}{xs ys:yaq}
def SqL.of{K:yac}(h:H a=some (.lst xs)):SqL K H a xs:=.inl (.inl h)
def SJ.of{K:yac}(h:H a=some (.tup xs)):SJ K H a xs:=.inl (.inl h)
def Inv.list(I:Inv X pins σ H s)(h:SqL X.K H a xs):∃b:yad,Vals xs b/\PlainL s.heap a b.toArray/\xs.length<=sizeLine:=by
 rcases h with h|⟨o,b,n,c,f,d,i,g,r⟩;obtain⟨z,b,n,r,e⟩:=h.ok I.R7;exact⟨b,r,⟨_,n,e,rfl,rfl,rfl⟩,z⟩;refine⟨b.toList,r,⟨o,n,I.WD a o c,f,d,by simp_all⟩,?_⟩;have e:=r.length;grind
def Inv.tuple(I:Inv X pins σ H s)(h:SJ X.K H a xs):∃b:yad,Vals xs b/\IsTup s.heap a b.toArray/\xs.length<=sizeLine:=by
 rcases h with h|⟨o,b,n,c,d,g,f,r⟩;obtain⟨z,b,r,p⟩:=h.ok I.R7;exact⟨b,r,p,z⟩;refine⟨b.toList,r,⟨o,I.WD a o c,d,n,by simp_all⟩,?_⟩;have e:=r.length;grind
def Inv.Xp(I:Inv X pins σ H s)(h:SqL X.K H a xs)(h':SqL X.K H a ys):xs=ys:=by
 obtain⟨f,r,⟨o,n,e,_,_,d⟩,_⟩:=I.list h;obtain⟨b,c,⟨g,i,j,_,_,k⟩,_⟩:=I.list h';have:f=b:=by lia
 subst this;exact r.inj c
def Inv.Yx(I:Inv X pins σ H s)(h:SJ X.K H a xs)(h':SJ X.K H a ys):xs=ys:=by
 obtain⟨f,r,⟨o,e,_,n,d⟩,_⟩:=I.tuple h;obtain⟨b,c,⟨g,j,_,i,k⟩,_⟩:=I.tuple h';have:f=b:=by lia
 subst this;exact r.inj c
end
noncomputable abbrev Cx.wish(X:Cx)(E:yaa):Cx:={X with xe:=E}
abbrev Cx.Z8(X:Cx):Cx:=X.wish λ_ _=>False
theorem Cx.Ok.wish{X:Cx}(a:X.Ok)(E:yaa):(X.wish E).Ok :=
 ⟨a.mod,a.kind,a.glob,a.blt,a.above,a.inj,a.has,a.Y0,a.hd,a.frames,a.stk,a.exf,a.bs,a.bsz,a.XS,a.Zj,a.Vo,a.frf⟩
def Cx.Ok.Tp{X:Cx}(a:(X.wish E).Ok):X.Ok :=
 ⟨a.mod,a.kind,a.glob,a.blt,a.above,a.inj,a.has,a.Y0,a.hd,a.frames,a.stk,a.exf,a.bs,a.bsz,a.XS,a.Zj,a.Vo,a.frf⟩
section
variable{X:Cx}{pins:yab}{σ:St}{H:Hp}{s:Shared}{E:yaa}
theorem Inv.wish(I:Inv X pins σ H s)(E:yaa):Inv (X.wish E) pins σ H s:=⟨I.ok.wish E,I.os,I.bare,I.base,I.loc,I.cell,I.free,I.T6,I.pin,I.R7,I.len⟩
theorem Inv.Tp(I:Inv (X.wish E) pins σ H s):Inv X pins σ H s:=⟨I.ok.Tp,I.os,I.bare,I.base,I.loc,I.cell,I.free,I.T6,I.pin,I.R7,I.len⟩
end
section
variable{X:Cx}{st:Stmt}{rest:yal}{t u:TS}{e:Expr}{te:TE}{pos:Pos}
def Inv.quiet(I:Inv X pins σ H s):interactive X.env=false:=by simp[interactive,I.ok.kind]
def KU(te:TE):TS:=λD a H=>te a H λ_ b=>D.nx a b
def rK(c:PE X e te)(hs:swapsWith e none pos.line X.env=pure false:=by rfl):PS X (.Expr e pos) (KU te):=by intro a s b H D I h;exact wpAny_Expr_any (Rw (c a s b H _ I h) λv g c=>(by obtain⟨x,f,d,i,a⟩:=c;exact⟨b,f,d,a⟩)) I.quiet hs
end
abbrev TG:=V->St->Hp->(St->Hp->Prop)->Prop
abbrev QR:=V->V->V->Hp->(Hp->Prop)->Prop
def QP(X:Cx)(t:QR):Prop :=
 ∀ (a:yab) (s:Shared) (b:St) (H:Hp) (o i v:V) (c d u:Value) (Q:Hp->Prop),Inv X a b H s->RelV o c->RelV i d->RelV v u->t o i v H Q →
  wpAny (model X.prog X.w) X.A (setItem c d u) (λ_ d=>∃c,Inv X a b c d/\Q c) X.xe s
abbrev TIp:=V->V->Hp->VK->Prop
def PIp(X:Cx)(c:Operator)(t:TIp):Prop :=
 ∀ (a:yab) (s:Shared) (b:St) (H:Hp) (x y:V) (v u:Value) (Q:VK),Inv X a b H s->RelV x v->RelV y u->t x y H Q →
  wpAny (model X.prog X.w) X.A (inplaceOp c v u) (EP X a b Q) X.xe s
section
variable{X:Cx}{pos:Pos}
def KA(i:Nat):TG:=λv a H Q=>Q (a.set i (some v)) H
def PC(te:TE)(g:TG):TS:=λD a H=>te a H λx b=>g x a b D.nx
def Pg{i:Nat}{x:Str}(j:X.N.Nodup)(d:X.N[i]?=some x)(c:Loc X.env.scope x)(g:PE X e te)(hs:swapsWith e (some (.Name x pos')) pos.line X.env=pure false:=by rfl)(f:X.fn x=true∨X.env.scope.names.lookup x=some .local:=by first|exact .inl rfl|exact .inr rfl|assumption) :
  PS X (.Assign [.Name x pos'] e pos) (PC te (KA i)):=by
 intro a s b H D I h;refine wpAny_Assign_Name (Rw (g a s b H _ I h) λv l e=>?_) hs;obtain⟨y,h,g,a,b⟩:=e;exact dP g j d c a (λk a=>⟨_,h,a,b⟩) f
def Rc(i j:Nat)(b:TA):TS:=λD a H=>b a H λb c=>∃v w,b=[v,w]/\D.nx ((a.set i (some v)).set j (some w)) c
def Pf{i j:Nat}{x y:Str}{a b:Expr}{e:TA}{d c pt:Pos}{kt k2 pt2}(z:X.calm=true)(m:X.N.Nodup)(u:X.N[i]?=some x)(t:X.N[j]?=some y)(U2:i≠j)
  (l:X.env.scope.names.lookup x=some .local) (k:X.env.scope.names.lookup y=some .local) (f:PA X [a,b] e)
  (r:swappedStores [.Tuple [.Name x d,.Name y c] kt pt] (.Tuple [a,b] k2 pt2) X.env=pure (some [x,y]))
  (hs:swapsWithSole [.Tuple [.Name x d,.Name y c] kt pt] (.Tuple [a,b] k2 pt2) pos.line X.env=pure false:=by rfl) :
  PS X (.Assign [.Tuple [.Name x d,.Name y c] kt pt] (.Tuple [a,b] k2 pt2) pos) (Rc i j e):=by
 intro a s e H D I h;refine Rm (zDP ?_);refine Rm (Rz ?_);refine Rm (Tuple_ (Rw (f _ a s e H _ I h) λi f c=>?_));obtain⟨A,h,o,n,g⟩:=c;obtain⟨v,w,c,g⟩:=g;subst c;obtain⟨d,c,rfl,j,s⟩:∃d c,i=[d,c]/\RelV v d/\RelV w c:=by
  cases n with
  |cons p q =>
   cases q with
   |cons E i =>
    cases i
    lia
 refine Z5 ?_ (by show 2<=sizeLine;decide);have i:Inv X a e h {f with heap:=f.heap.push {cls:=.type "tuple", data:=.seq [d,c].toArray} }:=o.kept (t':=f.toks) λb o e=>T5 _ e
 rw[r];refine Rm (Rz ?_);refine Rm (YZ (Rm (unpackItems_tuple (items:=#[d,c]) (I.ok.hd z) (IsTup.new f.heap _) λh' a=>?_)));have c:=i.kept (h':=h') (t':=f.toks) λb o e=>a b o (Uw (SH e)) e
 refine Rm (assignInOrder_cons (wpAny_bindName (dP c m t (.inl k) s (λC a=>?_) (.inr k))));refine assignInOrder_cons (wpAny_bindName (dP a m u (.inl l) j (λB a=>assignInOrder_nil (Rz ?_)) (.inr l)));rw[List.set_comm _ _ (by lia)]at a;exact⟨_,h,a,g⟩
def Rb(i:Nat)(te:TE)(b:TIp):TS:=λD a H=>∃x,a[i]?=some (some x)/\te a H λy c=>b x y c λz b=>D.nx (a.set i (some z)) b
def Pe{i:Nat}{x:Str}{e:Expr}{te:TE}{c:Operator}{b:TIp}{a:Pos}(q:X.N.Nodup)(g:X.N[i]?=some x)(d:Loc X.env.scope x)(p:PE X e te)(j:PIp X c b)(o:X.fn x=true∨X.env.scope.names.lookup x=some .local:=by first|exact .inl rfl|exact .inr rfl|assumption) :
  PS X (.AugAssign (.Name x a) c e pos) (Rb i te b):=by
 intro a s f H D I h;obtain⟨v,t,h⟩:=h;obtain⟨m,m,n⟩:=I.loc;have b:Yh X.env.scope x:=by rcases d with k|k;exact .inl k;exact .inr (.inl k)
 obtain⟨u,r,l⟩:=n i x v g t b;refine wpAny_AugAssign_Name ?_;have i:wpAny (model X.prog X.w) X.A (eval e X.env) (λw e=>wpAny (model X.prog X.w) X.A (inplaceOp c u w) (λr b=>wpAny (model X.prog X.w) X.A (storeName X.env x r) (λ_=>SP X a D .next) X.xe b) X.xe e) X.xe s:=by
  refine Rw (p a s f H _ I h) λw c b=>?_
  obtain⟨y,p,n,e,h⟩:=b;refine Rw (j a c f p v y u w _ n r e h) λz C b=>?_
  obtain⟨A,f,e,a,c⟩:=b;exact dP e q g d a (λB a=>⟨_,f,a,c⟩) o
 rcases l with⟨a,b⟩| ⟨a,c,c,e⟩;exact wpAny_loadName_local I.ok.kind a m b i;rcases a with a|a;exact wpAny_loadName_cell I.ok.kind a c e i;rcases d with k|k;have:X.env.scope.names.lookup x=some .free:=a
 lia
 have:X.env.scope.names.lookup x=some .free:=a
 lia
def ipI(f:Int->Int->Int):TIp:=λx y H Q=>∃i j,x=.int i/\y=.int j/\Q (.int (f i j)) H
def OI:PIp X .Add (ipI λi j=>i+j):=by intro a s f H x y v u Q I c b h;obtain⟨i,j,e,d,q⟩:=h;subst e;subst d;obtain⟨t,rfl⟩:=c;obtain⟨g,rfl⟩:=b;exact iadd_int ⟨.int _,H,I.tok _,⟨_,rfl⟩,q⟩
end
structure It where
 go:Nat->Hp->Prop
 yld:Nat->Hp->V->Hp->Prop
 stop:Nat->Hp->Prop
def fE(X:Cx)(a:yab)(H:Hp)(b:Addr):Prop :=
 H b=none/\b≠X.env.locals/\b∉X.fs/\(b∈X.ex∨X.RT.heap.objs.size<=b)/\(∀x c,X.env.cells.lookup x=some c->c≠b)/\∀p∈X.pn++a,p.1≠b
def Inv.fpOk{H':Hp}{b:Addr}(I:Inv X pins σ H s)(a:s.heap.objs.size<=b)(c:H' b=none):fE X pins H' b:=by refine⟨c,Yg (Tt I.lt a),I.nofs a,.inr (Sd I.sz a),λx c e z=>?_,λp a z=>?_⟩;obtain⟨v,q⟩:=I.cell x c e;exact absurd (Tt q.lt (by simp_all)) (zCr _);exact absurd (Tt (SH (I.pin p a).1) (by simp_all)) (zCr _)
structure Turn(P:Program)(w:World)(K:yac)(tg:Expr)(J:It)(fp:yae)(it:Addr)(tn:Nat->Heap->Prop):Prop where
 mem:it∈fp
 obj:∀i h,tn i h->∀b∈fp,∃o,h.get? b=some o/\∀v,o.data ≠ .cell v
 keep:∀i h h',tn i h->(∀b∈fp,∀o,h.get? b=some o->h'.get? b=some o)->tn i h'
 item:∀(X:Cx),X.prog=P->X.w=w->X.K=K->X.calm=true->∀(i:Nat) (pins:yab) (s:Shared) (σ:St) (H:Hp) (E:yaa),Inv X pins σ H s->(∀b∈fp,fE X pins H b)->tn i s.heap->J.go i H →
  wpAny (model P w) X.A (pyNext (.ref it)) (λr s1=>∃u,r=some u ∧
   wpAny (model P w) X.A (letOwnedTupleGo tg (.ref it) u) (λ_ s2=>∃x H',Inv X pins σ H' s2/\RelV x u/\J.yld i H x H'/\tn (i+1) s2.heap/\∀b∈fp,H' b=none) E s1) E s
 done:∀(X:Cx),X.prog=P->X.w=w->X.K=K->X.calm=true->∀(i:Nat) (pins:yab) (s:Shared) (σ:St) (H:Hp) (E:yaa),Inv X pins σ H s->(∀b∈fp,fE X pins H b)->tn i s.heap->J.stop i H →
  wpAny (model P w) X.A (pyNext (.ref it)) (λr s1=>r=none/\Inv X pins σ H s1) E s
 self:∀(A:Around) (i:Nat) (s:Shared) (Q:yaa) (E:yaa),tn i s.heap->Q (.ref it) s->wpAny (model P w) A (pyIter (.ref it)) Q E s
abbrev TI:=St->Hp->(It->Hp->Prop)->Prop
def PIE(X:Cx)(a:yab)(f:St)(g:Expr)(R:It->Hp->Prop)(h:Value)(b:Shared):Prop :=
 ∃ (d:Addr) (e:yae) (tn:Nat->Heap->Prop) (J:It) (c:Hp),h=.ref d/\Inv X a f c b/\Turn X.prog X.w X.K g J e d tn/\tn 0 b.heap/\(∀b∈e,fE X a c b)/\R J c
def PI(X:Cx)(d b:Expr)(wi:TI):Prop :=
 ∀ (a:yab) (s:Shared) (c:St) (H:Hp) (R:It->Hp->Prop),Inv X a c H s->wi c H R →
  wpAny (model X.prog X.w) X.A (eval b X.env) (λv b=>wpAny (model X.prog X.w) X.A (pyIter v) (PIE X a c d R) X.xe b) X.xe s
def KD {s : Shared} {o : Obj} {Q : Unit -> Shared -> Prop} (b : s.heap.get? it = some o) (e : o.cls = .type n) (d : o.data = .fields vs)
    (c : ["enumerate", "zip", "dict_itemiterator", "dict_reverseitemiterator", "odict_iterator", "itertools.zip_longest", "itertools.pairwise"].contains n = false) (a : Q () s) : wpAny M A (letOwnedTupleGo tg (.ref it) u) Q E s := by
  cases tg <;> first
    | exact Rz a
    | (cases u <;> first
        | exact Rz a
        | (refine Rm (wpAny_load b ?_)
           simp_all [Bool.false_and, Rz]))
def Itl(K:yac)(a:Addr):It :=
 ⟨λi H=>∃b x,SqL K H a b/\b[i]?=some x,λi H x c=>c=H/\∀b,SqL K H a b->b[i]?=some x,λi H=>∃b,SqL K H a b/\b.length<=i⟩
def HM{P:Program}{w:World}{K:yac}{b:Expr}(a g:Addr):Turn P w K b (Itl K a) [g] g (λi h=>h.IsListIter g a i) where
 mem:=by simp
 obj:=λi h st b l=>by obtain⟨o,e,c,d⟩:=st;grind
 keep:=λi h m st k=>st.at (by grind)
 item:=by
  intro X w q y L i a s J H E I t st r;subst w q y;obtain⟨M,x,j,n⟩:=r;obtain⟨T,k,p,O⟩:=I.list j;obtain⟨u,hu,N⟩:=k.get n;obtain⟨G,C,Q,B,A,z⟩:=t g (by simp);refine wpAny_pyNext_list_item st p.isList (x:=u) (by simp_all) λm f sb=>?_
  have U:Inv X a J H {s with heap:=m}:=I.turned (t':=s.toks) (λb o l e=>(sb.2 b l).trans e) G C B A z;obtain⟨o,e,c,d⟩:=id f;exact⟨u,rfl,KD (s:={s with heap:=m}) e c d (by decide) ⟨x,H,U,N,⟨rfl,λY c=>by rw[I.Xp c j];exact n⟩,f,by simp_all⟩⟩
 done:=by intro X w q y L i a s J H E I t st r;subst w q y;obtain⟨M,j,n⟩:=r;obtain⟨T,k,p,O⟩:=I.list j;obtain⟨G,C,Q,B,A,z⟩:=t g (by simp);have hl:=k.length;exact wpAny_pyNext_list_end (I.ok.hd L) st p.isList (by simp_all) λm a=>⟨rfl,I.turned (t':=s.toks) (λb o l e=>a b o l e) G C B A z⟩
 self:=λ_ _ _ _ _ st h=>wpAny_pyIter_listiter st h
section
variable{X:Cx}{tg:Expr}
def Qh(K:yac)(tl:TE):TI:=λa H R=>tl a H λx b=>∃a,x=.ref a/\(∃c,SqL K b a c)/\R (Itl K a) b
def ME{l:Expr}{tl:TE}(c:PE X l tl):PI X tg l (Qh X.K tl):=by
 intro a s b H R I h;refine Rw (c a s b H _ I h) λv c a=>?_
 obtain⟨x,h,d,b,f⟩:=a;obtain⟨a,e,⟨i,g⟩,q⟩:=f;subst e;cases b;obtain⟨Rt,j,p,k⟩:=d.list g;refine wpAny_pyIter_list p.isList ?_;refine⟨c.heap.objs.size,[c.heap.objs.size],_,_,h,rfl,d.kept (t':=c.toks) λb o e=>T5 _ e,HM a _,⟨_,Vi _ rfl,rfl,rfl⟩,λb m=>?_,q⟩;have e:b=c.heap.objs.size:=by simp_all
 exact d.fpOk (by lia) (d.R7.fresh (by lia))
def vq(a:yae)(h:Heap):yab:=a.filterMap λb=>(h.get? b).map λo=>(b,o)
def jP{a:yae}{h:Heap}{b:Addr}{o:Obj}(c:b∈a)(e:h.get? b=some o):(b,o)∈vq a h:=zC6.mpr (by simp_all)
def GR{p:Addr×Obj}(a:p∈vq fp h):p.1∈fp/\h.get? p.1=some p.2:=by
 obtain⟨b,c,e⟩:=zC6.mp a;cases q:h.get? b with
 |none=>grind
 |some o =>
  grind
def Inv.pinned{a:yae}(I:Inv X pins σ H s)(c:∀b∈a,fE X pins H b)(d:∀b∈a,∃o,s.heap.get? b=some o/\∀v,o.data ≠ .cell v):Inv X (pins++vq a s.heap) σ H s :=
 I.Yi λp a=>(Ta.mp a).elim (λz=>I.pin p (by simp_all)) λz=>by obtain⟨a,e⟩:=GR z;obtain⟨h,g,f,_⟩:=c p.1 a;grind
def Inv.UG{a b:yab}(I:Inv X (a++b) σ H s):Inv X a σ H s:=I.Yi λp c=>I.pin p (by grind)
end
abbrev R2:=V->V->Hp->VK->Prop
def Wo(X:Cx)(f:Value->Value->Sem Value)(r:R2):Prop :=
 ∀ (a:yab) (s:Shared) (b:St) (H:Hp) (x y:V) (v u:Value) (Q:VK),Inv X a b H s->RelV x v->RelV y u->r x y H Q →
  wpAny (model X.prog X.w) X.A (f v u) (EP X a b Q) X.xe s
def UnR(X:Cx)(f:Value->Sem Value)(r:V->Hp->VK->Prop):Prop :=
 ∀ (a:yab) (s:Shared) (b:St) (H:Hp) (x:V) (v:Value) (Q:VK),Inv X a b H s->RelV x v->r x H Q →
  wpAny (model X.prog X.w) X.A (f v) (EP X a b Q) X.xe s
def kY(X:Cx)(f:Value)(r:yaq->Hp->VK->Prop):Prop :=
 ∀ (a:yab) (s:Shared) (b:St) (H:Hp) (c:yaq) (d:yad) (Q:VK),Inv X a b H s->Vals c d->r c H Q →
  wpAny (model X.prog X.w) X.A (call f d) (EP X a b Q) X.xe s
def tOp(r:R2)(c b:TE):TE:=λa H Q=>c a H λx c=>b a c λy a=>r x y a Q
def rI(C:Int->Int->Prop)(g:Int->Int->V):R2:=λx y H Q=>∃i j,x=.int i/\y=.int j/\C i j/\Q (g i j) H
def Z9(g:Int->Int->V):R2:=λx y H Q=>∃i j,x=.int i/\y=.int j/\Q (g i j) H
def rU(g:Int->V):V->Hp->VK->Prop:=λx H Q=>∃i,x=.int i/\Q (g i) H
section
variable{X:Cx}{a b c:Expr}{ta tb tc:TE}{pos:Pos}
def QV(k:PE X a ta)(l:PE X b tb){d:yab}{s:Shared}{e:St}{H:Hp}{R:V->V->Hp->Prop}(I:Inv X d e H s)
  (h:ta e H λx j=>tb e j λy g=>R x y g) {Q:yaa} {f:Value->Value->Sem Value}
  (r:∀v u i x y g,Inv X d e g i->RelV x v->RelV y u->R x y g->wpAny (model X.prog X.w) X.A (f v u) Q X.xe i) :
  wpAny (model X.prog X.w) X.A (eval a X.env) (λv n=>wpAny (model X.prog X.w) X.A (eval b X.env) (λu m=>wpAny (model X.prog X.w) X.A (f v u) Q X.xe m) X.xe n) X.xe s:=by
 refine Rw (k d s e H _ I h) λv h f=>?_
 obtain⟨x,j,m,p,k⟩:=f;refine Rw (l d h e j _ m k) λu i f=>?_
 obtain⟨y,g,I2,o,q⟩:=f;grind
def opI{f:Value->Value->Sem Value}{C:Int->Int->Prop}{g:Int->Int->Int}
  (rule:∀(i j:Int) (t u:Tok) (s:Shared) (Q:yaa) (E:yaa),C i j->Q (.int (g i j) s.toks) {s with toks:=s.toks+1}->wpAny (model X.prog X.w) X.A (f (.int i t) (.int j u)) Q E s) :
  Wo X f (rI C λi j=>.int (g i j)):=by
 intro d s l H x y v u Q I e f h;obtain⟨i,j,rfl,rfl,k,q⟩:=h;obtain⟨t,rfl⟩:=e;obtain⟨e,rfl⟩:=f;exact rule i j t e s _ _ k ⟨.int (g i j),H,I.tok _,⟨_,rfl⟩,q⟩
def O1{f:Value->Value->Sem Value}{g:Int->Int->Int}
  (rule:∀(i j:Int) (t u:Tok) (s:Shared) (Q:yaa) (E:yaa),Q (.int (g i j) s.toks) {s with toks:=s.toks+1}->wpAny (model X.prog X.w) X.A (f (.int i t) (.int j u)) Q E s) :
  Wo X f (Z9 λi j=>.int (g i j)):=by
 intro d s k H x y v u Q I e f h;obtain⟨i,j,rfl,rfl,q⟩:=h;obtain⟨t,rfl⟩:=e;obtain⟨e,rfl⟩:=f;exact rule i j t e s _ _ ⟨.int (g i j),H,I.tok _,⟨_,rfl⟩,q⟩
def EG{f:Value->Value->Sem Value}{g:Int->Int->Bool}
  (rule:∀(i j:Int) (t u:Tok) (s:Shared) (Q:yaa) (E:yaa),Q (.bool (g i j)) s->wpAny (model X.prog X.w) X.A (f (.int i t) (.int j u)) Q E s) :
  Wo X f (Z9 λi j=>.bl (g i j)):=by
 intro d s k H x y v u Q I e f h;obtain⟨i,j,rfl,rfl,q⟩:=h;obtain⟨t,rfl⟩:=e;obtain⟨e,rfl⟩:=f;exact rule i j t e s _ _ ⟨.bl (g i j),H,I,rfl,q⟩
def Ic(i j:Int):Prop:=0<=j/\j<=1000000/\i.natAbs<2 ^ 64
def O2:Wo X (binaryOp .Add) (Z9 λi j=>.int (i+j)):=O1 λ_ _ _ _ _ _ _ q=>add_int q
def O5:Wo X (binaryOp .Sub) (Z9 λi j=>.int (i - j)):=O1 λ_ _ _ _ _ _ _ q=>sub_int q
def Mz:Wo X (binaryOp .Mod) (rI (λ_ j=>j≠0) λi j=>.int (i.fmod j)):=opI λ_ _ _ _ _ _ _ d q=>mod_int' d q
def O4:Wo X (binaryOp .Pow) (rI Ic λi j=>.int (i ^ j.toNat)):=opI λ_ _ _ _ _ _ _ d q=>pow_int_small d.1 d.2.1 d.2.2 q
def unI{f:Value->Sem Value}{g:Int->Int}
  (rule:∀(i:Int) (t:Tok) (s:Shared) (Q:yaa) (E:yaa),Q (.int (g i) s.toks) {s with toks:=s.toks+1}->wpAny (model X.prog X.w) X.A (f (.int i t)) Q E s) :
  UnR X f (rU λi=>.int (g i)):=by
 intro d s j H x v Q I e h;obtain⟨i,rfl,q⟩:=h;obtain⟨t,rfl⟩:=e;exact rule i t s _ _ ⟨.int (g i),H,I.tok _,⟨_,rfl⟩,q⟩
def PJ:UnR X (unaryOp .USub) (rU λi=>.int (-i)):=unI λ_ _ _ _ _ q=>neg_int q
end
def xo:V->V->Bool
 |.RZ,.RZ=>true|.RZ,.int _=>true|.int _,.RZ=>true|.RZ,.bl _=>true|.bl _,.RZ=>true|.RZ,.str _=>true|.str _,.RZ=>true
 |.int _,.int _=>true|.bl _,.bl _=>true|.str _,.str _=>true|.Zi _,.Zi _=>true
 |.int _,.str _=>true|.str _,.int _=>true|.bl _,.str _=>true|.str _,.bl _=>true
 |_,_=>false
def rEq:R2:=λx y H Q=>xo x y=true/\Q (.bl (decide (x=y))) H
def rNe:R2:=λx y H Q=>xo x y=true/\Q (.bl (!decide (x=y))) H
def Cy:decide (V.int i=V.int j)=(i==j):=by lia
def FZ:decide (V.bl i=V.bl j)=(i==j):=by lia
def Cz:decide (V.str i=V.str j)=(i==j):=by lia
def Cw:decide (V.Zi i=V.Zi j)=(i.toList==j.toList):=by
 rw[Bool.eq_iff_iff]
 simp_all
section
variable{X:Cx}{a b c:Expr}{ta tb tc:TE}{pos:Pos}
def bc{Q:VK}{d:Bool}(I:Inv X pins σ H s)(q:Q (.bl k) H)(e:k=d):EP X pins σ Q (.bool d) s:=by subst e;exact⟨.bl k,H,I,rfl,q⟩
def Ql:Wo X (compareOp .Eq) rEq:=by
 intro k s l H x y v u Q I g d h;obtain⟨f,q⟩:=h;cases x with
 |RZ =>
  cases g;cases y with
  |RZ=>cases d;exact PySem.EqNone.eq_none_none (bc I q (by simp))
  |bl j=>cases d;exact PySem.EqNone.eq_none_bool (bc I q (by simp))
  |int j=>obtain⟨e,rfl⟩:=d;exact PySem.EqNone.eq_none_int (bc I q (by simp))
  |str j=>obtain⟨e,rfl⟩:=d;exact PySem.EqNone.eq_none_str (bc I q (by simp))
  |_=>exact absurd (show false=true from f) (by lia)
 |bl i =>
  cases g;cases y with
  |RZ=>cases d;exact PySem.EqNone.eq_bool_none (bc I q (by simp))
  |bl j=>cases d;exact eq_bool (bc I q FZ)
  |str j=>obtain⟨e,rfl⟩:=d;exact PySem.EqMixed.eq_bool_str (bc I q (by simp))
  |_=>exact absurd (show false=true from f) (by lia)
 |int i =>
  obtain⟨t,rfl⟩:=g;cases y with
  |RZ=>cases d;exact PySem.EqNone.eq_int_none (bc I q (by simp))
  |int j=>obtain⟨e,rfl⟩:=d;exact eq_int (bc I q Cy)
  |str j=>obtain⟨e,rfl⟩:=d;exact PySem.EqMixed.eq_int_str (bc I q (by simp))
  |_=>exact absurd (show false=true from f) (by lia)
 |str i =>
  obtain⟨t,rfl⟩:=g;cases y with
  |RZ=>cases d;exact PySem.EqNone.eq_str_none (bc I q (by simp))
  |bl j=>cases d;exact PySem.EqMixed.eq_str_bool (bc I q (by simp))
  |int j=>obtain⟨e,rfl⟩:=d;exact PySem.EqMixed.eq_str_int (bc I q (by simp))
  |str j=>obtain⟨e,rfl⟩:=d;exact eq_str (bc I q Cz)
  |_=>exact absurd (show false=true from f) (by lia)
 |Zi i =>
  obtain⟨t,rfl⟩:=g;cases y with
  |Zi j=>obtain⟨e,rfl⟩:=d;exact PySem.W.eq_bytes (bc I q Cw)
  |_=>exact absurd (show false=true from f) (by lia)
 |_=>cases y<;>exact absurd (show false=true from f) (by lia)
def Qq:Wo X (compareOp .NotEq) rNe:=by
 intro k s l H x y v u Q I g d h;obtain⟨f,q⟩:=h;cases x with
 |RZ =>
  cases g;cases y with
  |RZ=>cases d;exact PySem.EqNone.ne_none_none (bc I q (by simp))
  |bl j=>cases d;exact PySem.EqNone.ne_none_bool (bc I q (by simp))
  |int j=>obtain⟨e,rfl⟩:=d;exact PySem.EqNone.ne_none_int (bc I q (by simp))
  |str j=>obtain⟨e,rfl⟩:=d;exact PySem.EqNone.ne_none_str (bc I q (by simp))
  |_=>exact absurd (show false=true from f) zB7
 |bl i =>
  cases g;cases y with
  |RZ=>cases d;exact PySem.EqNone.ne_bool_none (bc I q (by simp))
  |bl j=>cases d;exact ne_bool (bc I q (congrArg not FZ))
  |str j=>obtain⟨e,rfl⟩:=d;exact PySem.EqMixed.ne_bool_str (bc I q (by simp))
  |_=>exact absurd (show false=true from f) zB7
 |int i =>
  obtain⟨t,rfl⟩:=g;cases y with
  |RZ=>cases d;exact PySem.EqNone.ne_int_none (bc I q (by simp))
  |int j=>obtain⟨e,rfl⟩:=d;exact ne_int (bc I q (congrArg not Cy))
  |str j=>obtain⟨e,rfl⟩:=d;exact PySem.EqMixed.ne_int_str (bc I q (by simp))
  |_=>exact absurd (show false=true from f) zB7
 |str i =>
  obtain⟨t,rfl⟩:=g;cases y with
  |RZ=>cases d;exact PySem.EqNone.ne_str_none (bc I q (by simp))
  |bl j=>cases d;exact PySem.EqMixed.ne_str_bool (bc I q (by simp))
  |int j=>obtain⟨e,rfl⟩:=d;exact PySem.EqMixed.ne_str_int (bc I q (by simp))
  |str j=>obtain⟨e,rfl⟩:=d;exact ne_str (bc I q (congrArg not Cz))
  |_=>exact absurd (show false=true from f) zB7
 |Zi i =>
  obtain⟨t,rfl⟩:=g;cases y with
  |Zi j=>obtain⟨e,rfl⟩:=d;exact PySem.W.ne_bytes (bc I q (congrArg not Cw))
  |_=>exact absurd (show false=true from f) zB7
 |_=>cases y<;>exact absurd (show false=true from f) zB7
def Qp:Wo X (compareOp .Lt) (Z9 λi j=>.bl (decide (i<j))):=EG λ_ _ _ _ _ _ _ q=>lt_int q
def Qo:Wo X (compareOp .LtE) (Z9 λi j=>.bl (decide (i<=j))):=EG λ_ _ _ _ _ _ _ q=>le_int q
def Qn:Wo X (compareOp .Gt) (Z9 λi j=>.bl (decide (j<i))):=EG λ_ _ _ _ _ _ _ q=>gt_int q
def Qm:Wo X (compareOp .GtE) (Z9 λi j=>.bl (decide (j<=i))):=EG λ_ _ _ _ _ _ _ q=>ge_int q
def O3:Wo X (compareOp .Is) (λx y H Q=>y=.RZ/\Q (.bl (decide (x=.RZ))) H):=by
 intro d s g H x y v u Q I f e h;obtain⟨rfl,q⟩:=h;cases e;refine is_none_gen (bc I q ?_);cases x<;>first
  |(rfl)
  |(obtain⟨t,rfl⟩:=f;rfl)
def MB:Wo X (compareOp .IsNot) (λx y H Q=>y=.RZ/\Q (.bl (!decide (x=.RZ))) H):=by
 intro d s g H x y v u Q I f e h;obtain⟨rfl,q⟩:=h;cases e;refine isnot_none_gen (bc I q ?_);cases x<;>first
  |(rfl)
  |(obtain⟨t,rfl⟩:=f;rfl)
def u7:(sizeLine:Nat)<2 ^ 63:=by decide
def vals1{x:V}(r:Vals [x] us):∃u,us=[u]/\RelV x u:=by
 cases r with
 |cons e d=>cases d;simp_all
def vals2{x y:V}(r:Vals [x,y] us):∃u d,us=[u,d]/\RelV x u/\RelV y d:=by
 cases r with
 |cons f d =>
  cases d with
  |cons e d=>cases d;exact⟨_,_,rfl,f,e⟩
def IB:kY X (.builtin "abs") (λxs H Q=>∃i,xs=[.int i]/\Q (.int (if i<0 then -i else i)) H):=by intro d s e H xs f Q I r h;obtain⟨i,rfl,q⟩:=h;obtain⟨u,rfl,t,rfl⟩:=vals1 r;exact call_abs_int λu g=>⟨.int (if i<0 then -i else i),H,I.tok _,⟨_,rfl⟩,q⟩
def FG (d:X.calm=true):kY X (.builtin "max") (λxs H Q=>∃i j,xs=[.int i,.int j]/\Q (.int (if j > i then j else i)) H):=by
 intro e s f H xs l Q I r h;obtain⟨i,j,rfl,q⟩:=h;obtain⟨u,g,rfl,⟨t,rfl⟩,⟨n,rfl⟩⟩:=vals2 r;refine max_two_ints (I.ok.hd d) λo m k=>⟨_,H,I.kept k,?_,q⟩
 by_cases d:j > i;rw[Rv d,Rv d];exact⟨_,rfl⟩;rw[if_neg d,if_neg d];exact⟨_,rfl⟩
def FH (d:X.calm=true):kY X (.builtin "min") (λxs H Q=>∃i j,xs=[.int i,.int j]/\Q (.int (if j<i then j else i)) H):=by
 intro e s f H xs l Q I r h;obtain⟨i,j,rfl,q⟩:=h;obtain⟨u,g,rfl,⟨t,rfl⟩,⟨n,rfl⟩⟩:=vals2 r;refine min_two_ints (I.ok.hd d) λo m k=>⟨_,H,I.kept k,?_,q⟩
 by_cases d:j<i;rw[Rv d,Rv d];exact⟨_,rfl⟩;rw[if_neg d,if_neg d];exact⟨_,rfl⟩
def FF:kY X (.type "int") (λxs H Q=>(∃i,xs=[.int i]/\Q (.int i) H)∨∃ k,xs=[.bl k]/\Q (.int (if k then 1 else 0)) H):=by
 intro d s f H xs g Q I r h;rcases h with⟨i,rfl,q⟩| ⟨k,rfl,q⟩;obtain⟨u,rfl,t,rfl⟩:=vals1 r;exact call_int_int ⟨.int i,H,I,⟨_,rfl⟩,q⟩;obtain⟨u,rfl,e⟩:=vals1 r;cases e;exact call_int_bool ⟨.int (if k then 1 else 0),H,I.tok _,⟨_,rfl⟩,q⟩
end
structure Ik(h:Heap)(x dx C:Addr)(mA:yam):Prop where
 obj:h.get? x=some (PySem.W.instObj C dx)
 ns:h.Ns1 dx mA
 ne:dx≠x
set_option tactic.hygienic true in
def GC{h:Heap}(n:h.Ns1 dx mA):∃a,h.get? dx=some a/\∀name,PySem.W.lookIn name a=some (mA name):=by
 obtain⟨o,f,i,a,d,c,_,b⟩:=n;refine⟨o,a,λname=>?_⟩;have e:=b name;unfold nsFind findBy at e;rw[<- Array.find?_toList]at e;unfold PySem.W.lookIn;rw[d];dsimp only;split;grind;have a:f.toList.any (·.refKey)=false:=by rw[List.any_eq_false];intro y g;obtain⟨z,t,a⟩:=c y (by grind);simp[DictEntry.refKey,a]
 grind
def Ik.look(I:Ik h x dx C mA):∃a,PySem.W.InstAt h x (PySem.W.instObj C dx) C (some a)/\∀name,PySem.W.lookIn name a=some (mA name) :=
 let ⟨a,ho,hl⟩:=GC I.ns
 ⟨a,⟨I.obj,rfl,rfl,ho⟩,hl⟩
def lK.some_of{v:V}(r:lK (some v) o):∃u,o=some u/\RelV v u:=by
 cases o with
 |none=>exact(show False from r).elim
 |some u=>exact⟨u,rfl,r⟩
structure SD(K:yac)(C:Addr):Prop where
 pg:PySem.W.plainGet K C Str.empty=true
 hd:PySem.W.hasDictIn K C=true
 po:PySem.W.plainOver K C=true
 sa:PySem.W.findIn K (.ref C) "__setattr__" = some (some (.builtin "object.__setattr__"))
structure Con(K:yac)(C:Addr)(f:Str)(v:V)(u:Value):Prop where
 at_:PySem.W.findIn K (.ref C) f=some (some u)
 rel:RelV v u
 get:PySem.W.specialIn K u "__get__" = some none
 cp:PySem.W.copiedNames.contains f=false
structure Meth(K:yac)(C:Addr)(m:Str)(f:Addr):Prop where
 at_:PySem.W.findIn K (.ref C) m=some (some (.ref f))
 fn:PySem.W.isFn K (.ref f)=true
 kp:PySem.W.keepIn K (.ref f)=true
def Np(X:Cx)(c:Operator)(rd:V->V->Hp->VK->Prop):Prop :=
 ∀ (a:yab) (s:Shared) (b:St) (H:Hp) (x y:V) (u v:Value) (Q:VK),Inv X a b H s->RelV x u->RelV y v->rd x y H Q->wpAny (model X.prog X.w) X.A (inplaceOp c u v) (EP X a b Q) X.xe s
section
variable{X:Cx}{o e value:Expr}{f:Str}{pos pos' tpos:Pos}{ta tv:TE}
def Q3:V->V->Hp->VK->Prop:=λx y H Q=>∃i j,x=.int i/\y=.int j/\Q (.int (i+j)) H
def OF:Np X .Add Q3:=by rintro b s d H x y u v Q I a c ⟨i,j,rfl,rfl,q⟩;obtain⟨t,rfl⟩:=(show∃t,u=Value.int i t from a);obtain⟨a,rfl⟩:=(show∃a,v=Value.int j a from c);exact PyProof.Rows.iadd_int ⟨.int (i+j),H,I.tok _,⟨_,rfl⟩,q⟩
end
section
variable{X:Cx}{pins:yab}{σ:St}{H:Hp}{s:Shared}{A:Around}{E:yaa}{Q:yaa}{c:Value}{b:Bool}
inductive kA (K:yac) (H:Hp):V->Value->Prop where
 |RZ:kA K H .RZ (.type "NoneType")
 |bl (x:Bool):kA K H (.bl x) (.type "bool")
 |int (i:Int):kA K H (.int i) (.type "int")
 |str (x:Str):kA K H (.str x) (.type "str")
 |flt (x:UInt64):kA K H (.flt x) (.type "float")
 |lst {a:Addr} {xs:yaq} (e:H a=some (.lst xs)):kA K H (.ref a) (.type "list")
 |frz {a:Addr} {o:Obj} {xs:yaq} (e:H a=some (.frz o (.lst xs))):kA K H (.ref a) (.type "list")
 |tup {a:Addr} {xs:yaq} (e:H a=some (.tup xs)):kA K H (.ref a) (.type "tuple")
 |dK {a:Addr} {kvs:List (Key×V)} (e:H a=some (.dK kvs)):kA K H (.ref a) (.type "dict")
 |dT {a:Addr} {kvs:List (List Key×V)} (e:H a=some (.dT kvs)):kA K H (.ref a) (.type "dict")
 |ins {a C dx:Addr} {fs:List (Str×V)} (e:H a=some (.ins C dx fs)) (cl:SD K C) (ha:PySem.W.findIn K (.ref C) "__class__" = some (some (.builtin "object.__class__")))
   (hn:PySem.W.specialIn K (.builtin "object.__class__") "__get__" = some (some (.builtin "getset_descriptor.__get__"))) (htk:PySem.W.takesIn K (.builtin "object.__class__")=some true)
   (hm:PySem.W.mroIn K C (.type "object")=some true):kA K H (.ref a) (.ref C)
end
structure bS(k:Nat)(A:Around):Prop where
 hd:A.handled=none
 dp:A.depth+3*k+5<recursionLimit
 un:A.units+16*k+200<cLine
def bS.mono{j:Nat}(r:bS k A)(h:j<=k):bS j A:=⟨r.hd,by have:=r.dp;lia,by have:=r.un;lia⟩
theorem bS.deeper{k:Nat}(r:bS (k+1) A)(env:Env):bS k (A.deeper env) :=
 ⟨r.hd,by have:=r.dp;show A.depth+1+3*k+5<_;lia,by have:=r.un;show A.units+3+16*k+200<_;lia⟩
theorem bS.depth(r:bS k A):A.depth<recursionLimit:=by have:=r.dp;lia
theorem bS.units(r:bS k A):A.units+64<cLine:=by have:=r.un;lia
def E4:TA:=λ_ H Q=>Q [] H
def rV(c:TE)(b:TA):TA:=λa H Q=>c a H λx c=>b a c λa b=>Q (x::a) b
section
variable{X:Cx}{e:Expr}{es:yai}{te:TE}{t:TA}{pos:Pos}
def mS:PA X [] E4:=λ_ _ _ _ H Q I h=>Calls.spliced_nil ⟨[],H,I,.nil,h⟩
def gH(c:PE X e te)(g:PA X es t)(hs:starEach (e::es) X.env=(false,eval e X.env)::starEach es X.env:=by rfl):PA X (e::es) (rV te t):=by intro pos a s b H Q I h;rw[hs];refine Calls.spliced_cons (Rw (c a s b H _ I h) λu c h=>?_);obtain⟨x,j,i,d,f⟩:=h;exact Rw (g pos a c b j _ i f) λk l f=>(by obtain⟨a,h,g,b,c⟩:=f;exact⟨x::a,h,g,.cons d b,c⟩)
end
abbrev Sp:=yaq->Hp->VK->XK->Prop
abbrev CXT:=List Env->Hp->Shared->XK->yaa
structure Dv(P:Program)(w:World)(K:yac)(mg:yam)(base:Heap)(A:Around)(outer:List Env)(s:Shared)(H:Hp):Prop where
 frames:A.frames=some outer
 mod:Mod K mg base
 bs:∀b o,base.get? b=some o->s.heap.get? b=some o/\H b=none
 bsz:base.objs.size<=s.heap.objs.size
 Vo:s.heap.FunFrames base outer
 frf:∀b∈Wg outer,H b=none
 R7:UA P w H s.heap
 bare:AllBare s.gens
def CE(outer:List Env)(P:Program)(w:World)(H:Hp)(s:Shared)(Q:VK)(u:Value)(a:Shared):Prop :=
 ∃ v b,a.os=s.os/\AllBare a.gens/\Un (Wg outer) [] H b s.heap a.heap/\UA P w b a.heap/\RelV v u/\Q v b
def CR(CX:CXT)(outer:List Env)(P:Program)(w:World)(H:Hp)(s:Shared)(Q:VK)(E:XK)(r:Result)(a:Shared):Prop :=
 match r with
 |.ok (.ret u)=>CE outer P w H s Q u a
 |.ok _=>False
 |.error e=>CX outer H s E e a
structure aG(P:Program)(w:World)(K:yac)(mg:yam)(base:Heap)(CX:CXT)(k:Nat)(f:Addr)(fd:FuncData)(ps:yah)(sp:Sp):Prop where
 len:∀vs H Q E,sp vs H Q E->vs.length=ps.length
 run:∀(A:Around) (outer:List Env) (s:Shared) (H:Hp) (args:Args) (us:yad) (vs:yaq) (Q:VK) (E:XK),bS k A->Dv P w K mg base A outer s H->BindsTo s fd args (ps.zip us)->Vals vs us->sp vs H Q E →
  codeAny (model P w) A (.call (.ref f) args) (CR CX outer P w H s Q E) s
section
variable{X:Cx}{pins:yab}{σ:St}{H:Hp}{s s':Shared}
def Inv.env0(I:Inv X pins σ H s):Dv X.prog X.w X.K X.mg X.base X.A X.stack s H :=
 ⟨I.ok.frames,I.ok.mod,I.bs,Sd I.ok.bsz I.sz,I.stack,I.WL,I.R7,I.bare⟩
def Inv.after(I:Inv X pins σ H s)(h:CE X.stack X.prog X.w H s Q u s'):EP X pins σ Q u s':=by obtain⟨v,e,os,a,un,c,r,q⟩:=h;obtain⟨hh,g,d,t,b⟩:=s';obtain rfl:b=s.os:=os;exact⟨v,e,I.call (h':=hh) (g':=g) (d':=d) (t':=t) (ch:=[]) un c a (λb z=>by simp_all),r,q⟩
end
def Binds(K:yac)(c:FuncData)(ps:yah)(b:yad):Prop :=
 ∀ (s:Shared) (a:yad),K.In s.heap->(a++b).length=ps.length->BindsTo s c ⟨a,[]⟩ (ps.zip (a++b))
def Binds.all{K:yac}{b:FuncData}{ps:yah}(h:∀a:yad,a.length=ps.length->bindArgs b ⟨a,[]⟩=pure (ps.zip a)):Binds K b ps []:=λs a _ b=>by rw[YV]at b ⊢;exact .of_eq (h a b)
def Passes(CX:CXT)(X:Cx)(E:XK):Prop:=∀(a:yab) (c:St) (H:Hp) (s:Shared) (e:Value) (b:Shared),Inv X a c H s->CX X.stack H s E e b->X.xe e b
section
variable{X:Cx}{CX:CXT}{k:Nat}{f C:Addr}{fd:FuncData}{ps:yah}{sp:Sp}{dvs:yaq}{ds:yad}{E:XK}{x m:Str}{p pos apos:Pos}{e o:Expr}{es:yai}{ta:TE}{t:TA}
def Po(F:aG X.prog X.w X.K X.mg X.base CX k f fd ps sp)(b:bS k X.A)(g:Binds X.K fd ps ds)(d:Vals dvs ds)(c:Passes CX X E)
  (I:Inv X pins σ H s) (r:Vals vs us) (h:sp (vs++dvs) H Q E):wpAny (model X.prog X.w) X.A (call (.ref f) us) (EP X pins σ Q) X.xe s:=by
 have a:Vals (vs++dvs) (us++ds):=r.append d;have d:(us++ds).length=ps.length:=by rw[<- a.length];exact F.len _ _ _ _ h
 refine wpAny_call (codeAny_mono (F.run X.A X.stack s H ⟨us,[]⟩ (us++ds) (vs++dvs) Q E b I.env0 (g s us I.WD d) a h) λr b a=>?_);cases r with
 |error e=>exact c pins σ H s e b I a
 |ok b =>
  cases b with
  |ret u=>exact I.after a
  |next=>exact False.elim a
  |brk=>exact False.elim a
  |cont=>exact False.elim a
structure Mk(K:yac)(C f:Addr):Prop where
 makes:PySem.W.makesIn K C=true
 init:PySem.W.findIn K (.ref C) "__init__" = some (some (.ref f))
 fn:PySem.W.isFn K (.ref f)=true
 kp:PySem.W.keepIn K (.ref C)=true
end
section
variable{X:Cx}{CX:CXT}{k:Nat}{f C:Addr}{fd:FuncData}{ps ks:yah}{sp:Sp}{E:XK}{x m:Str}{p pos apos kpos:Pos}{e o:Expr}{es:yai}{SE:List Keyword}{te ta:TE}{t tk:TA}{nm:Option Str}
structure Fq(K:yac)(fd:FuncData)(ps ks:yah)(g:yad->yad->yad)(gV:yaq->yaq->yaq):Prop where
 to:∀(s:Shared) (us ws:yad),K.In s.heap->(g us ws).length=ps.length->BindsTo s fd ⟨us,ks.zip ws⟩ (ps.zip (g us ws))
 rel:∀{vs:yaq} {us:yad} {zs:yaq} {ws:yad},Vals vs us->Vals zs ws->Vals (gV vs zs) (g us ws)
variable{g:yad->yad->yad}{gV:yaq->yaq->yaq}
end
structure ay(N P:yah)(sc:Scope):Prop where
 kind:sc.kind=.function
 co:sc.isCoroutine=false
 gen:sc.isGenerator=false
 nd:N.Nodup
 pre:N.take P.length=P
 par:∀x∈P,sc.names.lookup x=some .local∨sc.names.lookup x=some .cell
 nofree:∀y∈sc.names,y.2 ≠ .free
theorem xR{kindOf:Str->Option NameKind}{x:Str}:∀{a:List (Str×Value)} {m:yam},(∀v,(x,v)∉a)->bindL kindOf a m x=m x
 |[],_,_=>rfl
 |(n,v)::r,m,h=>by
  unfold bindL;rw[xR (by grind)];split
  all_goals grind
theorem xP{kindOf:Str->Option NameKind}{x:Str}:∀{a:List (Str×Value)} {m:yam},(∀v,(x,v)∉a)->bindC kindOf a m x=m x
 |[],_,_=>rfl
 |(n,v)::r,m,h=>by
  unfold bindC;rw[xP (by grind)];split
  all_goals grind
theorem xQ{kindOf:Str->Option NameKind}{x:Str}{v:Value}:∀{P:yah} {a:yad} {i:Nat} {m:yam},P.Nodup->P[i]?=some x->a[i]?=some v->kindOf x=some .local →
  bindL kindOf (P.zip a) m x=some v
 |[],_,_,_,_,h,_,_=>by simp at h
 |_::_,[],_,_,_,_,h,_=>by simp at h
 |p::P,w::a,0,m,e,d,c,b=>by simp at d c;subst d;subst c;show bindL kindOf ((p,w)::P.zip a) m p=_;unfold bindL;rw[xR λv hv=>(zCS.mp e).1 (zDU hv).1,Rv b];simp
 |p::P,w::a,i+1,m,e,d,c,b=>by unfold bindL;exact xQ (i:=i) (by grind) (by simp_all) (by simp_all) b
theorem xO{kindOf:Str->Option NameKind}{x:Str}{v:Value}:∀{P:yah} {a:yad} {i:Nat} {m:yam},P.Nodup->P[i]?=some x->a[i]?=some v->kindOf x≠some .local →
  bindC kindOf (P.zip a) m x=some v
 |[],_,_,_,_,h,_,_=>by simp at h
 |_::_,[],_,_,_,_,h,_=>by simp at h
 |p::P,w::a,0,m,e,d,c,b=>by simp at d c;subst d;subst c;show bindC kindOf ((p,w)::P.zip a) m p=_;unfold bindC;rw[xP λv hv=>(zCS.mp e).1 (zDU hv).1,if_neg b];simp
 |p::P,w::a,i+1,m,e,d,c,b=>by unfold bindC;exact xO (i:=i) (by grind) (by simp_all) (by simp_all) b
noncomputable def start(N:yah)(a:yaq):St:=a.map some++List.replicate (N.length - a.length) none
noncomputable def c9(CX:CXT)(P:Program)(w:World)(K:yac)(mg:yam)(base:Heap)(N:yah)(b:Str)(a:Scope)(f:Addr)(c:Value)(A:Around)(outer:List Env)(s:Shared)(H:Hp)(E:XK):Cx where
 prog:=P
 w:=w
 K:=K
 mg:=mg
 base:=base
 A:=A.deeper (envOfC b a s.heap.objs.size f c)
 N:=N
 RT:=s
 Sj:=H
 env:=envOfC b a s.heap.objs.size f c
 outer:=outer
 stack:=envOfC b a s.heap.objs.size f c::outer
 ex:=[]
 calm:=true
 fn:=λ_=>true
 pn:=[]
 xe:=λe d=>wpAny (model P w) (A.deeper (envOfC b a s.heap.objs.size f c)) (leaving (envOfC b a s.heap.objs.size f c) e) (λ_ a=>CX outer H s E e a) (λb a=>CX outer H s E b a) d
def zH{a:Scope}(h:a.names.lookup x=some .cell):∃c,(cellsFrom n a.names []).lookup x=some c:=by have q:=PySem.W.cellsFrom_some a.names n [] (.inl h);exact Option.isSome_iff_exists.mp q
def Gm{CX:CXT}{P:Program}{w:World}{K:yac}{i:yam}{base:Heap}{N ps:yah}{c:Str}{a:Scope}{f:Addr}{h:Value}{A:Around}{outer:List Env}{s g:Shared}{H:Hp}{E:XK}{b:yad}{e:yaq}
  (S:ay N ps a) (m:A.handled=none) (d:Dv P w K i base A outer s H) (t:e.length=ps.length) (r:Vals e b)
  (x:InCallC s s.heap.objs.size (bindL (envOfC c a s.heap.objs.size f h).kindOf (ps.zip b) λ_=>none) (cellsFrom (s.heap.objs.size+1) a.names []) (bindC (envOfC c a s.heap.objs.size f h).kindOf (ps.zip b) λ_=>none) g) :
  Inv (c9 CX P w K i base N c a f h A outer s H E) [] (start N e) H g:=by
 have TB:ps.length<=N.length:=by have:=congrArg List.length S.pre;grind
 obtain⟨k,o,rfl,l⟩:=x.done;have g:∀b:Addr,b∉(c9 CX P w K i base N c a f h A outer s H E).ex:=λb z=>absurd (show b∈([]:yae)from z) (by simp)
 refine⟨⟨d.mod,S.kind,rfl,rfl,SF _,λy z c k j=>?_,λy f=>?_,λy c _ h=>?_,λ_=>m,Around.frames_deeper d.frames,.inr ⟨rfl,rfl⟩,λb z=>absurd z (g b),d.bs,d.bsz,λb _ _=>g b,by simp_all,d.Vo,d.frf⟩,
  rfl,d.bare,Un.kept l,⟨_,x.toInCall.ns,λi y v k j B=>?_⟩,λy c h=>⟨_,x.cell y c h⟩,d.R7.fresh (SF _),λy c h=>?_,λp g=>absurd (show p∈([]:yab)from g) (by simp),d.R7.kept l,?_⟩
 exact name_of_addr x.apart (PySem.mem_of_lookup k) (PySem.mem_of_lookup j);rcases f with f|f;exact zH f;exact absurd rfl (S.nofree _ (PySem.mem_of_lookup f));exact UD (x.above y c (PySem.mem_of_lookup h))
 ·have b:i<e.length:=by
   unfold start at j;by_cases b:i<e.length
   all_goals simp_all [WK,zCb]
  have b:e[i]?=some v:=by
   unfold start at j
   simp_all [WZ,U0]
  obtain⟨u,f,e⟩:=r.get b;have g:ps[i]?=some y:=by rw[<- S.pre,List.getElem?_take_of_lt (by lia)];exact k
  have b:ps.Nodup:=by rw[<- S.pre];exact S.nd.sublist (zDF _ _)
  refine⟨u,e,?_⟩;rcases S.par y (UZ g)with k|k;exact .inl ⟨k,xQ b g f k⟩;obtain⟨c,e⟩:=zH (n:=s.heap.objs.size+1) k;refine .inr ⟨.inl k,c,e,?_⟩;have q:=x.cell y c e;rw[xO b g f (by show a.names.lookup y≠_;rw[k];decide)]at q;exact q
 exact d.R7.fresh (UD (x.above y c (PySem.mem_of_lookup h)));unfold start;show _=N.length;grind
def Kz{CX:CXT}{P:Program}{w:World}{K:yac}{j:yam}{base:Heap}{k:Nat}{f:Addr}{name c:Str}{b:Arguments}{d:yal}{a:Scope}{n kV i m h o u:Value}{q r:Option Addr}
  {l:Array (yan)} {N ps:yah} {sp:Sp} (lk:K.lookup f=some ⟨u,r,.func (PySem.W.fnOf name c b d a n kV i m q h o),l⟩) (C:PySem.W.codeIn K h c=true) (S:ay N ps a)
  (e:∀g H Q E,sp g H Q E->g.length=ps.length)
  (B:∀(A:Around) (outer:List Env) (s:Shared) (H:Hp) (g:yaq) (Q:VK) (E:XK),bS k (A.deeper (envOfC c a s.heap.objs.size f h))->sp g H Q E →
   ∃ t,PSs (c9 CX P w K j base N c a f h A outer s H E) d t/\t {nx:=λ_ H'=>Q .RZ H',rt:=Q} (start N g) H) :
  aG P w K j base CX (k+1) f (PySem.W.fnOf name c b d a n kV i m q h o) ps sp:=by
 refine⟨e,λA outer s H p n g Q E k d x r l=>?_⟩;have u:=e _ _ _ _ l;have m:K.In s.heap:=d.mod.VC.keeps λb o e=>(d.bs b o e).1
 have i:s.heap.NoLimit:=d.mod.nolimit.keeps λb o e=>(d.bs b o e).1
 have b:∀y∈ps.zip n,a.names.lookup y.1=some .local∨(a.names.lookup y.1=some .cell/\((cellsFrom (s.heap.objs.size+1) a.names []).lookup y.1).isSome=true):=λ⟨n,v⟩ o=>by
  rcases S.par n (zDU o).1 with q|q;exact .inl q
  simp_all [PySem.W.cellsFrom_some]
 refine codeAny_call_function k.depth (m _ _ lk) rfl S.co S.gen rfl (PySem.W.codeRec_of m C) (x _ _ _ _ ?_);refine wpAny_newFunctionEnv_cells S.kind b λz m b x=>?_
 subst m;refine⟨i.keeps x.toInCall.keep,codeAny_func ?_⟩;obtain⟨t,i,m⟩:=B A outer s H g Q E (k.deeper _) l;have I:Inv (c9 CX P w K j base N c a f h A outer s H E) [] (start N g) H b:=Gm S k.hd d u r x;refine VI (i [] b (start N g) H _ I m) (λi g b=>?_) λe g b=>b
 have d:∀{e:St} {H':Hp} {v:V} {u:Value},Inv (c9 CX P w K j base N c a f h A outer s H E) [] e H' g->RelV v u->Q v H'->CE outer P w H s Q u g :=
  fun {e H' v u} J a q=>⟨v,H',J.os,J.bare,J.base,J.R7,a,q⟩
 cases i with
 |ret u =>
  obtain⟨v,e,H',J,a,q⟩:=b;exact d J a q
 |next =>
  obtain⟨e,H',J,q⟩:=b;exact d (v:=V.RZ) (u:=Value.none) J rfl q
 |brk =>
  obtain⟨_,_,_,q⟩:=b
  simp_all
 |cont =>
  obtain⟨_,_,_,q⟩:=b
  simp_all
section
variable{X:Cx}{x:Str}{p pos:Pos}{e:Expr}{es:yai}{t:TA}{id T:String}{r:yaq->Hp->VK->Prop}
def tCB(r:yaq->Hp->VK->Prop)(t:TA):TE:=λa H Q=>t a H λa b=>r a b Q
def yu (j:kY X (.type T) r) (f:Gl X x) (d:X.mg x=none) (hv:bootBuiltins x=some (.type T)) (g:PA X (e::es) t) (c:x ≠ "__name__" := by decide) (k:(x==("__debug__" : Str))=false:=by decide)
  (i:starEach (e::es) X.env=(false,eval e X.env)::starEach es X.env:=by rfl) (l:(backTo pos (starEach es X.env)).any (·.1)=false:=by rfl):PE X (.Call (.Name x p) (e::es) [] pos) (tCB r t):=by
 intro a s b H Q I h;refine Z4 (di I f d hv ?_ c k);exact PyProof.Rows.callWith_type1 (Rw (g pos a s b H _ I h) λd f k=>(by obtain⟨c,n,m,g,h⟩:=k;exact j a f b n c d Q m g h)) i l
end
end L2
namespace HT
open PySem PyProof.Rows
section
open PySem.SeqAt
open PySem.AutoSeq1 (wpAny_loadPart')
open PySem.MeetsSeq PySem.MeetsSeq2 PySem.MeetsSeq3
end
section
variable{prog:Program}{w:World}{A:Around}{E:yaa}{s:Shared}
noncomputable def SG(n d:Nat):yap->Nat
 |none=>d
 |some v=>if v<0 then(v+(n:Int)).toNat else min v.toNat n
theorem J0(n d:Nat):SG n d none=d:=rfl
def kh(n d k:Nat):SG n d (some (k:Int))=min k n:=by
 show(if(k:Int)<0 then((k:Int)+(n:Int)).toNat else min (k:Int).toNat n)=min k n
 simp_all [if_neg,Int.toNat_natCast]
def Cq(v:Int)(n d:Nat):(if v<0 then max (v+(n:Int)) 0 else min v (n:Int))=((SG n d (some v):Nat):Int):=by
 show(if v<0 then max (v+(n:Int)) 0 else min v (n:Int))=(((if v<0 then(v+(n:Int)).toNat else min v.toNat n):Nat):Int)
 by_cases h:v<0;rw[if_pos h,if_pos h,Int.ofNat_toNat];rw[if_neg h,if_neg h];lia
theorem DN(lo a:yap)(n:Nat):Builtin.Slice.sliceAdjust lo a 1 (n:Int)=(((SG n 0 lo:Nat):Int),((SG n n a:Nat):Int)):=by
 have b:¬((1:Int)<0):=by lia
 unfold Builtin.Slice.sliceAdjust;refine Prod.ext ?_ ?_;cases lo with
 |none=>rfl
 |some v=>exact Cq v n 0
 cases a with
 |none=>rfl
 |some v=>exact Cq v n n
theorem EH(i j:Nat):Builtin.Slice.slicePlaces (i:Int) (j:Int) 1=j - i:=by
 unfold Builtin.Slice.slicePlaces;rw[if_pos (by decide)];by_cases h:(i:Int)<j;rw[if_pos h,Int.ediv_one,Int.sub_add_cancel,Int.toNat_sub];rw[if_neg h];exact (Nat.sub_eq_zero_of_le (Int.ofNat_le.mp (Int.not_lt.mp h))).symm
def vM{Q:yap->Shared->Prop}(p:IsPart v o)(h:Q o s):wpAny (model prog w) A (Builtin.Slice.slicePartIndex v) Q E s:=by
 cases p with
 |none=>exact slicePart_none h
 |int i t=>exact slicePart_int h
def uc{a:Addr}{c b:Value}{lo d:yap}{n:Nat}{Q:Int×Int×Nat->Shared->Prop}(hs:s.heap.IsSliceOf a c b .none)(f:IsPart c lo)(e:IsPart b d)
  (h:Q (((SG n 0 lo:Nat):Int),1,SG n n d - SG n 0 lo) s):wpAny (model prog w) A (Builtin.Slice.sliceApplied (.ref a) (pure (n:Int))) Q E s:=by
 obtain⟨os,a,g,d⟩:=id hs;refine Rm (Rm (VX a d (x:=c) rfl (Rm (VX a d (x:=b) rfl (Rm (VX a d (x:=.none) rfl (Rz ?_)))))));refine Rm (slicePart_none ?_);refine Rm (vM f (Rm (vM e (Rm (Rz ?_)))));grind [DN,EH,wpAny_pure]
def JM(xs:yao)(i k:Nat):((List.range k).filterMap λ(m:Nat)=>xs[((i:Int)+(m:Int)*1).toNat]?).toArray=((xs.toList.drop i).take k).toArray:=by
 have e:(λ(m:Nat)=>xs[((i:Int)+(m:Int)*1).toNat]?)=λm=>xs[i+m]?:=by grind
 have:=pick_run xs i k;have a:((λx=>xs[x]?)∘λx=>i+x)=λm=>xs[i+m]?:=rfl
 simp_all
def rX{t d:Addr}{items:yao}{e c:Value}{lo a:yap}{Q:yaa}(b:IsTup s.heap t items)(hs:s.heap.IsSliceOf d e c .none)(j:IsPart e lo)(i:IsPart c a)
  (k:¬(SG items.size 0 lo=0/\SG items.size items.size a=items.size))
  (h:Q (.ref s.heap.objs.size) {s with heap:=s.heap.push {cls:=.type "tuple", data:=.seq ((items.toList.drop (SG items.size 0 lo)).take (SG items.size items.size a - SG items.size 0 lo)).toArray} })
  (hsz:items.size<=sizeLine):wpAny (model prog w) A (getItem (.ref t) (.ref d)) Q E s:=by
 have c:sizeOk (.seq ((items.toList.drop (SG items.size 0 lo)).take (SG items.size items.size a - SG items.size 0 lo)).toArray):=by
  show((items.toList.drop (SG items.size 0 lo)).take (SG items.size items.size a - SG items.size 0 lo)).toArray.size<=sizeLine;rw[WC,Xj,W5,VO];exact Nat.le_trans (Nat.min_le_right ..) (Nat.le_trans (Nat.sub_le ..) hsz)
 obtain⟨os,e,f,SX⟩:=id hs;have g:s.TypeIs (.ref d) "slice" := ⟨os,e,f⟩;unfold getItem
 try with_reducible refine VT ?_
 refine Rm (wpAny_sequenceKey b.typeIs (by decide) ?_);refine Rm (zBS (name:=Str.ofString "__getitem__") b.typeIs PyProof.Rows.slot_tuple_getitem
  (YU PyProof.Rows.slot_tuple_getitem b.typeIs entry_tuple_getitem ?_ (args_tuple_getitem _ _)))
 show wpAny _ _ (Builtin.Tuple.tupleItemsOf (.ref t) >>= _) _ _ s;refine Rm (tupleItemsOf_ b ?_);refine Rm (wpAny_typeOf g ?_);refine Rm (uc hs j i ?_);have b:¬((((SG items.size 0 lo:Nat):Int)==0 && (1:Int)==1 && (SG items.size items.size a - SG items.size 0 lo)==items.size)=true):=by lia
 show wpAny _ _ (if(((SG items.size 0 lo:Nat):Int)==0 && (1:Int)==1 && (SG items.size items.size a - SG items.size 0 lo)==items.size)=true then _ else _) _ _ s;rw[if_neg b,JM]
 first
  |exact Rm (m:=Builtin.Tuple.tupleExact _) (Z5 (Rz ⟨_,rfl,Rz h⟩) c)
  |exact Rm (m:=Builtin.Tuple.tupleExact _) (Z5 (Rm (Rz (Rz ⟨_,rfl,Rz h⟩))) c)
  |exact Rm (Rm (m:=Builtin.Tuple.tupleExact _) (Z5 (Rz (Rz ⟨_,rfl,Rz h⟩)) c))
  |exact Rm (Rm (m:=Builtin.Tuple.tupleExact _) (Z5 (Rz ⟨_,rfl,Rz h⟩) c))
end
end HT
namespace L2
open PySem PySem.Spec PyProof.Rows
abbrev TO:=St->Hp->(yap->Hp->Prop)->Prop
def intsAre_of{ns:yaf}:∀{a:yad},Vals (ns.map V.int) a->IntsAre a ns:=by
 induction ns with
 |nil=>intro a r;cases r;exact .nil
 |cons n ns ih =>
  intro a r;cases r with
  |cons b a =>
   obtain⟨t,e⟩:=b;subst e;exact .cons n t (ih a)
section
variable{X:Cx}{e:Expr}{te:TE}{lo hi:Option Expr}{tl th:TO}{pos p2:Pos}
def SlR(X:Cx)(r:V->yap->yap->Hp->VK->Prop):Prop :=
 ∀ (a:yab) (s:Shared) (b:St) (H:Hp) (x:V) (v d c:Value) (lo hi:yap) (f:Addr) (Q:VK),Inv X a b H s->RelV x v->s.heap.IsSliceOf f d c .none->IsPart d lo->IsPart c hi->r x lo hi H Q →
  ∃ T id,typeLookup (.type T) "__getitem__" = pure (some (.builtin id))/\s.TypeIs v T/\wpAny (model X.prog X.w) X.A (getItem v (.ref f)) (EP X a b Q) X.xe s
def pV(xs:yaq)(lo hi:yap):yaq:=(xs.drop (HT.SG xs.length 0 lo)).take (HT.SG xs.length xs.length hi - HT.SG xs.length 0 lo)
def sF(xs:yaq)(lo hi:yap):(pV xs lo hi).length<=xs.length:=by
 unfold pV;rw[Xj,W5];exact Nat.le_trans (Nat.min_le_right ..) (Nat.sub_le ..)
def Q6(K:yac):V->yap->yap->Hp->VK->Prop:=λx lo hi H Q=>∃a b,x=.ref a/\SJ K H a b ∧
 ¬ (HT.SG b.length 0 lo=0/\HT.SG b.length b.length hi=b.length)/\∀p,H p=none->Q (.ref p) (upd H p (.tup (pV b lo hi)))
def Pw:SlR X (Q6 X.K):=by
 intro d s l H x v n m lo hi p Q I b j g f h;obtain⟨a,c,rfl,a,i,q⟩:=h;cases b;obtain⟨k,r,b,h⟩:=I.tuple a;have a:k.toArray.size=c.length:=by exact r.length.symm
 refine⟨"tuple", _,PyProof.Rows.slot_tuple_getitem.lookup,b.typeIs,?_⟩;refine HT.rX b j g f (by rw[a];exact i) ?_ (by simp_all);rw[a];refine⟨.ref s.heap.objs.size,_,I.laid (t':=s.toks) (o:=.tup (pV c lo hi)) (λb ob q=>T5 _ q) (SF _) ?_,rfl,q _ (I.R7.fresh (SF _))⟩;exact⟨Sd (sF c lo hi) h,_,(r.drop (HT.SG c.length 0 lo)).take (HT.SG c.length c.length hi - HT.SG c.length 0 lo),IsTup.new _ _⟩
end
noncomputable def ixN(n:Nat)(i:Int):Option Nat:=if 0<=i then(if i<n then some i.toNat else none)else if -(n:Int)<=i then some (i+n).toNat else none
def T9{a:Type}(xs:List a)(i:Int):Option a:=(ixN xs.length i).bind λj=>xs[j]?
def CI{j:Nat}(h:ixN n i=some j):seqIndex? i n=some j/\j<n/\-(n:Int)<=i/\i<n:=by
 unfold ixN at h;by_cases b:0<=i;rw[Rv b]at h;by_cases a:i<n;grind [Option.some.inj,seqIndex_of]
 simp_all
 rw[if_neg b]at h;by_cases a:-(n:Int)<=i;rw[Rv a]at h;grind [Option.some.inj,seqIndex_neg]
 simp_all
def Co{a:Type}{xs:List a}{i:Int}{v:a}(h:T9 xs i=some v):∃j,seqIndex? i xs.length=some j/\xs[j]?=some v/\j<xs.length/\-(xs.length:Int)<=i/\i<xs.length:=by
 unfold T9 at h;cases e:ixN xs.length i with
 |none=>simp_all
 |some j =>
  rw[e]at h;obtain⟨d,c,b,a⟩:=CI e;exact⟨j,d,h,c,b,a⟩
theorem bU{a:Type}{xs:List a}{j:Nat}{v:a}(h:xs[j]?=some v):T9 xs (j:Int)=some v:=by
 have b:j<xs.length:=(VE.mp h).1;have e:ixN xs.length (j:Int)=some j:=by
  unfold ixN
  simp_all
 unfold T9;rw[e];exact h
def Iv{a:Type}(xs:List a)(v:a):T9 (xs++[v]) (-1)=some v:=by
 have b:(xs++[v]).length=xs.length+1:=by simp
 have e:ixN (xs++[v]).length (-1)=some xs.length:=by unfold ixN;grind
 unfold T9
 simp_all
def Cn(b:Expr):Prop:=∀o i,subscripted b false o i=operate [o,i] (getItem o i)
def IxR(X:Cx)(r:R2):Prop :=
 ∀ (c a:Expr) (b:yab) (s:Shared) (d:St) (H:Hp) (x y:V) (v u:Value) (Q:VK),Inv X b d H s->RelV x v->RelV y u->r x y H Q →
  subscripted a false v u=operate [v,u] (getItem v u)->wpAny (model X.prog X.w) X.A (subscriptTail c a v u) (EP X b d Q) X.xe s
def MtR(X:Cx)(id:String)(r:V->yaq->Hp->VK->Prop):Prop :=
 ∀ (a:yab) (s:Shared) (b:St) (H:Hp) (x:V) (c:yaq) (v:Value) (d:yad) (Q:VK),Inv X a b H s->RelV x v->Vals c d->r x c H Q →
  wpAny (model X.prog X.w) X.A (call (.builtin id) (v::d)) (EP X a b Q) X.xe s
section
variable{X:Cx}{a b:Expr}{ta tb:TE}{pos:Pos}
def KO(i:IxR X r)(f:PE X a ta)(e:PE X b tb)(hs:Cn b):PE X (.Subscript a b pos) (tOp r ta tb):=by intro c s d H Q I h;exact Subscript_ (QV f e I h λv u e x y j h g f q=>i a b c e d j x y v u Q h g f q (hs _ _))
def Q4(K:yac):R2:=λx y H Q=>∃p c i v,x=.ref p/\y=.int i/\SqL K H p c/\T9 c i=some v/\Q v H
def JT(K:yac):R2:=λx y H Q=>∃p c i v,x=.ref p/\y=.int i/\SJ K H p c/\T9 c i=some v/\Q v H
def L6:IxR X (Q4 X.K):=by
 intro e f c s k H x y v u Q I g d h l;obtain⟨p,A,i,z,rfl,rfl,j,n,q⟩:=h;cases g;obtain⟨t,rfl⟩:=d;obtain⟨u,r,g,B⟩:=I.list j;obtain⟨j,m,d,G,t,p⟩:=Co n;obtain⟨w,o,h⟩:=r.get d;have E:=r.length;have C:=u7;have d:EP X c k Q w s:=⟨z,H,I,h,q⟩;by_cases n:0<=i;have h:i.toNat=j:=by
  rw[seqIndex_of n p]at m
  lia
 exact item_listR g.isList n (by lia) (by rw[h];simpa using o) d l;have h:(i+(u.toArray.size:Int)).toNat=j:=by
  rw[seqIndex_neg (by lia) t]at m
  simp_all
 exact subscriptTail_builtinR (x:=w) g.isList.typeIs slot_list_getitem.lookup
  (wpAny_getItem_list_neg (Q:=λr i=>r=w/\EP X c k Q r i) g.isList (by lia) (by simp_all) (by lia) (by rw[h];simpa using o) ⟨rfl,d⟩) l
def Ay:IxR X (JT X.K):=by
 intro d e c s g H x y v u Q I j f h k;obtain⟨p,m,i,z,rfl,rfl,i,l,q⟩:=h;cases j;obtain⟨t,rfl⟩:=f;obtain⟨Rt,r,h,n⟩:=I.tuple i;obtain⟨j,G,f,E,C,B⟩:=Co l;obtain⟨w,l,i⟩:=r.get f;have A:=r.length;have o:=u7;have f:EP X c g Q w s:=⟨z,H,I,i,q⟩;exact subscriptTail_builtinR (x:=w) h.typeIs slot_tuple_getitem.lookup
  (getItem_tuple (j:=j) (Q:=λr i=>r=w/\EP X c g Q r i) h (by lia) (by lia) (by simp_all) (by simpa using l) ⟨rfl,f⟩) k
def Em (c:yad) (n j:Nat) (u:Value):Obj.mapSeq (·.setIfInBounds j u) {cls:=.type "list", data:=.seq c.toArray n}={cls:=.type "list", data:=.seq (c.set j u).toArray n}:=by simp[Obj.mapSeq]
theorem Inv.lst(I:Inv X pins σ H s)(h:H p=some (.lst xs)) :
  ∃ (c:yad) (n:Nat),Vals xs c/\s.heap.get? p=some {cls:=.type "list", data:=.seq c.toArray n}/\xs.length<=sizeLine:=by
 obtain⟨z,c,n,r,e⟩:=I.R7 p _ h;exact⟨c,n,r,e,z⟩
def Inv.lstUpd{d its':yad}{f:Obj->Obj}(I:Inv X pins σ H s)(h:H p=some (.lst xs))
  (g:s.heap.get? p=some {cls:=.type "list", data:=.seq d.toArray n}) (c:f {cls:=.type "list", data:=.seq d.toArray n}={cls:=.type "list", data:=.seq its'.toArray n'}) (r:Vals ys its') (hz:ys.length<=sizeLine) (t:Nat) :
  Inv X pins σ (upd H p (.lst ys)) {s with heap:=s.heap.update p f,toks:=t}:=by
 have e:(s.heap.update p f).get? p=some {cls:=.type "list", data:=.seq its'.toArray n'}:=by rw[YO f g (by rw[c]<;>rfl),c]
 refine I.write (x:=p) (e:=p) (by rw[h];trivial) (.inl rfl) (λb u c q=>(Za _ _ (Ne.symm c)).trans q) ⟨_,e⟩ ?_;exact⟨hz,its',n',r,e⟩
def Qy:V->V->V->Hp->(Hp->Prop)->Prop:=λo i v H Q=>∃p c k j,o=.ref p/\i=.int k/\H p=some (.lst c)/\ixN c.length k=some j/\Q (upd H p (.lst (c.set j v)))
def set_list:QP X Qy:=by
 intro c s e H o i v w x u Q I i l g h;obtain⟨p,f,k,j,rfl,rfl,d,m,q⟩:=h;cases i;obtain⟨t,rfl⟩:=l;obtain⟨i,n,r,h,y⟩:=I.lst d;obtain⟨G,E,C,B⟩:=CI m;have A:=r.length;have z:=u7;have I':Inv X c e (upd H p (.lst (f.set j v))) {s with heap:=s.heap.update p (Obj.mapSeq (·.setIfInBounds j u))} :=
  I.lstUpd d h (Em i n j u) (r.set g j) (by simp_all) s.toks
 by_cases J:0<=k;grind [seqIndex_of,Option.some.inj,PySem.W.ki_setAt,List.size_toArray];grind [seqIndex_neg,List.size_toArray,Option.some.inj,PySem.W.ki_setBack]
def Bn(lo c:yap)(n:Nat):(sliceBounds lo c none n).1=((HT.SG n 0 lo:Nat):Int)/\(sliceBounds lo c none n).2.1=((HT.SG n n c:Nat):Int)/\(sliceBounds lo c none n).2.2=1:=by
 refine⟨?_,?_,rfl⟩;cases lo with
 |none=>simp[sliceBounds,HT.SG]
 |some i =>
  simp only[sliceBounds,HT.SG,Option.getD_none,show(1:Int) > 0 by decide,if_true];by_cases h:i<0;simp only[h,if_true]<;>lia;simp only[h,if_false]<;>lia
 cases c with
 |none=>simp[sliceBounds,HT.SG]
 |some i =>
  simp only[sliceBounds,HT.SG,Option.getD_none,show(1:Int) > 0 by decide,if_true];by_cases h:i<0;simp only[h,if_true]<;>lia;simp only[h,if_false]<;>lia
def yR(c:yad)(lo d:yap):slicePick c.toArray lo d none=((c.drop (HT.SG c.length 0 lo)).take (HT.SG c.length c.length d - HT.SG c.length 0 lo)).toArray:=by obtain⟨g,f,e⟩:=Bn lo d c.toArray.size;unfold slicePick;rw[g,f,e];simp only[sliceRange_one,pick_run,WC]<;>rfl
def zG:kY X (.builtin "len") (λxs H Q=>∃p ys,xs=[.ref p]/\(SqL X.K H p ys∨SJ X.K H p ys)/\Q (.int ys.length) H):=by
 intro g s j H xs k Q I r h;obtain⟨p,ys,rfl,c,q⟩:=h;obtain⟨u,rfl,d⟩:=vals1 r;cases d;have l:=u7;rcases c with c|c;obtain⟨i,e,f,h⟩:=I.list c;have d:=e.length;exact Calls.call_len_list f.isList (by simp only[WC]<;>lia) ⟨.int ys.length,H,I.tok _,⟨s.toks+1,by grind⟩,q⟩;obtain⟨i,e,f,h⟩:=I.tuple c;have d:=e.length;exact len_tuple f (by simp only[WC]<;>lia) ⟨.int ys.length,H,I.tok _,⟨s.toks+1,by simp_all⟩,q⟩
def pR:kY X (.type "list") (λxs H Q=>∃p ys,xs=[.ref p]/\(SqL X.K H p ys∨SJ X.K H p ys)/\∀l,H l=none->Q (.ref l) (upd H l (.lst ys))):=by
 intro e s i H xs t Q I r h;obtain⟨p,ys,rfl,hq,q⟩:=h;obtain⟨u,rfl,c⟩:=vals1 r;cases c;have j:∀(d:yad),Vals ys d->ys.length<=sizeLine->∀(c:Heap) (g:Nat),(∀b f,s.heap.get? b=some f->c.get? b=some f) →
   c.get? s.heap.objs.size=some {cls:=.type "list", dict:=none,data:=.seq d.toArray g,slots:=#[]}->EP X e i Q (.ref s.heap.objs.size) {s with heap:=c}:=λd f h c g kp e =>
  ⟨.ref s.heap.objs.size,_,I.laid (t':=s.toks) kp (SF _) (show bG X.prog X.w _ c _ (.lst ys)from⟨h,d,g,f,e⟩),rfl,q _ (I.R7.fresh (SF _))⟩
 rcases hq with hq|hq;obtain⟨d,f,k,h⟩:=I.list hq;have i:=f.length;obtain⟨o,l,q,n,m⟩:=k.isList;exact call_list_seq p (.inl rfl) l q m (λc g kp e=>j d f h c g kp e) (by simp_all);obtain⟨d,f,k,h⟩:=I.tuple hq;have i:=f.length;obtain⟨o,l,q,n,m⟩:=k;exact call_list_seq p (.inr rfl) l q m (λc g kp e=>j d f h c g kp e) (by simp_all)
def tyV(K:yac)(T:String)(x:V)(H:Hp):Prop:=match x with
 |.str _=>T = "str"
 |.int _=>T = "int"
 |.ref p=>(T = "list" /\∃c,SqL K H p c)∨(T = "tuple" /\∃o,K.lookup p=some o/\o.cls=.type "tuple" /\ o.dict=none) ∨
   (T = "dict" /\ ((∃c,H p=some (.dK c))∨∃ c,H p=some (.dT c)))∨(T = "set" /\∃S n,H p=some (.set S n))
 |_=>False
def HN(I:Inv X pins σ H s)(r:RelV x v)(f:tyV X.K T x H) :
  s.TypeIs v T/\∀a,v=.ref a->∃c,s.heap.get? a=some c/\c.dict=none:=by
 cases x with
 |str z =>
  obtain⟨t,rfl⟩:=r;cases(show T = "str" from f);grind [typeIs_str]
 |int i =>
  obtain⟨t,rfl⟩:=r;cases(show T = "int" from f);grind [typeIs_int]
 |ref p =>
  cases r;rcases f with⟨rfl,j,c⟩| ⟨rfl,o,d,i,h⟩| ⟨rfl,d⟩| ⟨rfl,S,n,d⟩;obtain⟨Rt,_,g,_⟩:=I.list c;refine⟨g.isList.typeIs,λa e=>?_⟩;obtain⟨o,n,e,c,h,_⟩:=g
  simp_all
  refine⟨⟨o,I.WD p o d,i⟩,λa e=>?_⟩;cases e;exact⟨o,I.WD _ o d,h⟩;have z:∃o,s.heap.get? p=some o/\o.ExactDict:=by
   rcases d with⟨c,d⟩| ⟨c,d⟩;obtain⟨_,_,_,_,o,_,_,e,c,_⟩:=I.R7 p _ d
   simp_all
   obtain⟨_,_,_,_,o,_,_,e,c,_⟩:=I.R7 p _ d
   simp_all
  obtain⟨o,e,c⟩:=z;refine⟨⟨o,e,c.1⟩,λa g=>?_⟩;cases g;exact⟨o,e,c.2.1⟩;obtain⟨o,_,_,_,e,c,_⟩:=I.R7 p _ d;refine⟨⟨o,e,c.1⟩,λa g=>?_⟩;cases g;exact⟨o,e,c.2.1⟩
 |_=>exact False.elim f
def PF(K:yac)(T:String)(r:V->yaq->Hp->VK->Prop)(d:TE):TE:=λc H Q=>d c H λx c=>tyV K T x c/\r x [] c Q
def tBM(K:yac)(T:String)(r:V->yaq->Hp->VK->Prop)(d:TE)(t:TA):TE:=λc H Q=>d c H λx d=>tyV K T x d/\t c d λc d=>r x c d Q
variable{o e:Expr}{es:yai}{to:TE}{t:TA}{name:Str}{apos R6:Pos}{T id:String}{r:V->yaq->Hp->VK->Prop}
def Hb (m:PlainAttrs T) (d:Slot T name id) (f:typeOf (.builtin id)=pure (.type "method_descriptor")) (n:MtR X id r) (i:PE X o to)
  (k:attributeBase o name X.env (eval o X.env)=eval o X.env:=by rfl) (j:(apos.endLine==R6.line)=true:=by rfl):PE X (.Call (.Attribute o name apos) [] [] R6) (PF X.K T r to):=by
 intro c s g H Q I h;refine wpAny_Call_method0_late k j (Rw (i c s g H _ I h) λv k p=>?_);obtain⟨x,s,i,h,j,l⟩:=p;obtain⟨q,p⟩:=HN i h j;exact⟨T,id,m,d,f,q,p,Calls.callWith_builtin rfl (PySem.evalArgs_none (n c k g s x [] v [] Q i h .nil l))⟩
def KN (m:PlainAttrs T) (d:Slot T name id) (g:typeOf (.builtin id)=pure (.type "method_descriptor")) (n:MtR X id r) (i:PE X o to) (p:PA X (e::es) t)
  (l:attributeBase o name X.env (eval o X.env)=eval o X.env:=by rfl)
  (j:((backTo R6 (starEach (e::es) X.env)).all (λx=>!x.1) && (backToKw R6 (keywordEach [] X.env)).all (λx=>x.1.isSome)
   && decide ((e::es).length+([]:List Keyword).length+(if([]:List Keyword).isEmpty then 0 else 1)<30))=true:=by rfl)
  (k:(apos.endLine==R6.line)=true:=by rfl) (hs:starEach (e::es) X.env=(false,eval e X.env)::starEach es X.env:=by rfl) (WM:(backTo R6 (starEach es X.env)).any (·.1)=false:=by rfl) :
  PE X (.Call (.Attribute o name apos) (e::es) [] R6) (tBM X.K T r to t):=by
 intro c s f H Q I h;refine wpAny_Call_method_late l j k rfl (Rw (i c s f H _ I h) λv k q=>?_);obtain⟨x,u,i,h,j,l⟩:=q;obtain⟨s,q⟩:=HN i h j;refine⟨T,id,m,d,g,s,q,?_⟩;have d:=p R6 c k f u _ i l;rw[hs]at d ⊢;refine Calls.callWith_builtin (by simp_all) (Calls.evalArgs_plain ?_);exact Rw d λg i l=>(by obtain⟨d,p,m,j,k⟩:=l;exact n c i f p x d v g Q m h j k)
end
def MtM(X:Cx)(id:String)(r:V->yaq->Hp->VK->Prop):Prop :=
 ∀ (a:yab) (s:Shared) (b:St) (H:Hp) (x:V) (c:yaq) (v:Value) (d:yad) (Q:VK),Inv X a b H s->RelV x v->Vals c d->r x c H Q →
  wpAny (model X.prog X.w) X.A (call (.builtin id) (v::d)) (EP X a b Q) X.xe s
def Vals.one:∀{x:V} {a:yad},Vals [x] a->∃u,a=[u]/\RelV x u
 |_,_,.cons r .nil=>⟨_,rfl,r⟩
def Vals.zero:∀{a:yad},Vals [] a->a=[]
 |_,.nil=>rfl
theorem Vals.dropLast(h:Vals xs us):Vals xs.dropLast us.dropLast:=by
 induction h with
 |nil=>exact .nil
 |cons r t ih =>
  cases t with
  |nil=>exact .nil
  |cons q a=>exact .cons r ih
section
variable{X:Cx}{pins:yab}{σ:St}{H:Hp}{s:Shared}{l b:Addr}{xs ys zs:yaq}
def Inv.lset{a its':yad}{f:yao->yao}{t':Nat}(I:Inv X pins σ H s)(d:H l=some (.lst xs))
  (e:s.heap.get? l=some {cls:=.type "list", data:=.seq a.toArray n}) (c:f a.toArray=its'.toArray) (hv:Vals ys its') (hz:ys.length<=sizeLine) :
  Inv X pins σ (upd H l (.lst ys)) {s with heap:=s.heap.update l (Obj.mapSeq f),toks:=t'}:=by
 have q:=PySem.IsL.update e f;rw[c]at q;refine I.write (x:=l) (e:=l) (by rw[d];exact trivial) (.inl rfl) (λg u c a=>(Za s.heap (Obj.mapSeq f) (Ne.symm c)).trans a) ⟨_,q⟩ ?_;exact⟨hz,its',_,hv,q⟩
def Inv.Zp (I:Inv X pins σ H s) (c:H l=some (.lst xs)):xs.length<=sizeLine/\∃(a:yad) (n:Nat),Vals xs a/\xs.length=a.length/\s.heap.get? l=some {cls:=.type "list", data:=.seq a.toArray n}:=by obtain⟨z,a,n,r,e⟩:=I.R7 l _ c;exact⟨z,a,n,r,r.length,e⟩
def Jx{n:Nat}(h:n<=sizeLine):Builtin.List.listTooLong n=false:=by
 unfold Builtin.List.listTooLong
 lia
end
section
variable{X:Cx}
def MK:V->yaq->Hp->VK->Prop:=λx b H Q=>∃l a y,x=.ref l/\b=[y]/\H l=some (.lst a)/\a.length<sizeLine/\Q .RZ (upd H l (.lst (a++[y])))
def yr:MtM X "list.append" MK:=by intro a s g H x j v k Q I c d h;obtain⟨l,i,y,rfl,rfl,b,m,q⟩:=h;cases c;obtain⟨u,rfl,f⟩:=d.one;obtain⟨z,c,n,r,o,e⟩:=I.Zp b;refine call_meets F.slot_list_append ⟨_,e,rfl⟩ F.entry_list_append (F.args_list_append_2 _ _) (PySem.list_append l c.toArray n u (by grind)) ⟨e,?_⟩;refine⟨.RZ,_,I.lset (its':=c++[u]) b e (by simp) (r.append (.cons f .nil)) ?_,rfl,q⟩;grind
def ML:V->yaq->Hp->VK->Prop:=λx d H Q=>∃l b c a,x=.ref l/\d=[.ref b]/\H l=some (.lst c)/\H b=some (.lst a)/\c.length+a.length<=sizeLine/\Q .RZ (upd H l (.lst (c++a)))
def GK:MtM X "list.extend" ML:=by
 intro g s o H x y v A Q I a c h;obtain⟨l,b,w,p,rfl,rfl,i,f,B,q⟩:=h;cases a;obtain⟨u,rfl,a⟩:=c.one;cases a;obtain⟨z,d,n,r,C,e⟩:=I.Zp i;obtain⟨t,a,j,h,k,m⟩:=I.Zp f;have f:d.toArray.size+a.toArray.size<=sizeLine:=by grind
 have c:¬(!d.toArray.isEmpty && Builtin.List.listTooLong (d.toArray.size+a.toArray.size))=true:=by
  rw[Jx f,Bool.and_false]
  lia
 refine call_meets F.slot_list_extend ⟨_,e,rfl⟩ F.entry_list_extend (F.args_list_extend_2 _ _)
  (AutoSeq1.list_extend_list_list_0 l d.toArray n b a.toArray j c (by lia) (by lia)) ⟨e,m,?_⟩
 refine⟨.RZ,_,I.lset (its':=d++a) i e (by simp) (r.append h) ?_,rfl,q⟩
 simp_all
def Q5:V->yaq->Hp->VK->Prop:=λx b H Q=>∃l a y,x=.ref l/\b=[]/\H l=some (.lst a)/\a[a.length - 1]?=some y/\Q y (upd H l (.lst a.dropLast))
def OT:MtM X "list.pop" Q5:=by
 intro b s g H x j v k Q I a d h;obtain⟨l,i,y,rfl,rfl,c,f,q⟩:=h;cases a;have a:=d.zero;subst a;obtain⟨z,a,n,r,o,e⟩:=I.Zp c;obtain⟨u,m,d⟩:=r.get f;have f:a.toArray[a.toArray.size - 1]?=some u:=by simp_all
 refine call_meets F.slot_list_pop ⟨_,e,rfl⟩ F.entry_list_pop (F.args_list_pop_1 _) (MeetsSeq.list_pop_last l a.toArray n u f (by grind)) ⟨e,?_⟩;refine⟨y,_,I.lset (its':=a.dropLast) c e ?_ r.dropLast ?_,d,q⟩
 all_goals grind
def Hk:V->yaq->Hp->VK->Prop:=λx b H Q=>∃l a,x=.ref l/\b=[]/\H l=some (.lst a)/\Q .RZ (upd H l (.lst []))
def Jv:MtM X "list.clear" Hk:=by intro b s f H x i v j Q I a d h;obtain⟨l,g,rfl,rfl,c,q⟩:=h;cases a;have a:=d.zero;subst a;obtain⟨z,a,n,r,k,e⟩:=I.Zp c;refine call_meets F.slot_list_clear ⟨_,e,rfl⟩ F.entry_list_clear (F.args_list_clear_1 _) (AutoSeq1.list_clear_list_0 l a.toArray n (by simp_all)) ⟨e,?_⟩;exact⟨.RZ,_,I.lset (its':=[]) (ys:=[]) c e rfl .nil (UE _),rfl,q⟩
end
section
variable{prog:Program}{w:World}{A:Around}{E:yaa}{s:Shared}
set_option maxRecDepth 100000 in
end
end L2
namespace Att
open PySem PySem.W PySem.Calls PyProof.Rows
def uV:∀(ns:yaf) (a:yad),WellAll P h a (ns.map WData.int)->IntsAre a ns:=by
 intro ns
 induction ns with
 |nil =>
  intro a w;cases w;exact .nil
 |cons n ns ih =>
  intro a w;cases w with
  |cons a b =>
   cases a;exact .cons _ _ (ih _ b)
def Hw{l:OpenLaw}{n:Nat}(p:l.most=some n)
  (b:l.row.toRowW.claim.pre args=true) (c:WellAll P h vals args) :
  ∃ a d ns,vals=[Value.ref a]/\args=[WData.list (ns.map WData.int)]/\h.get? a=some {cls:=.type "list", data:=.seq d.toArray}/\IntsAre d ns/\ns.length<=n:=by
 have e:WShape.hasAll [] args [.list .int]=true:=(pre_splitW b).1;have h:l.pre.holds [] {args:=args}=true:=(pre_splitW b).2;obtain⟨d,r,rfl,k,j⟩:=hasAllW_cons e;obtain rfl:=hasAllW_nil j;obtain⟨o,rfl,i⟩:=hasW_list k;obtain⟨ns,rfl⟩:=items_int i;have a:ns.length<=n:=by
  have d:(WTm.not (.lt (.lit (.int (n:Int))) (.len (.arg 0)))).holds [] {args:=[.list (ns.map .int)]}=true:=by
   have d:=(holds_andW h).1
   simp_all
  have q:=condW_of d (w_not (w_lt w_lit (w_len_list (w_arg rfl))));grind
 cases c with
 |cons f d =>
  cases d;cases f with
  |list g m=>exact⟨_,_,ns,rfl,rfl,g,uV ns _ m,a⟩
def Hi(l:OpenLaw)(args:List WData):l.row.toRowW.claim.post args (.bool true) args=true :=
 postW_of (r:=l.row.toRowW) (X:=(true==true))
  (show WShape.has [] (.bool true) .bool=true by first|rfl|decide|simp[WShape.has,WShape.arms,WShape.armsAll])
  (show(WTm.eq .res (.lit (.bool true))).value [] {args:=args,res:=some (.bool true),after:=args}=some (.bool (true==true))from w_eq_bool (w_res rfl) w_lit) rfl
def BC{l:OpenLaw}{n:Nat}{h:World->Heap->Prop}{d:DefRec}
  (B:l.most=some n) (c:d.params.defaults=[])
  (call:∀(w:World) (t b:Shared) (k s:yam) (i:Addr) (o:Obj) (p m e:Value) (a:Addr) (g:yad) (ns:yaf),
   Ground q loose [] XP w t k s b.heap->h w b.heap →
   b.heap.get? i=some o->o.data=.func (docDef d.name d.params d.body d.scope p m e)->b.heap.CodeRec m d.name->k d.name=some (.ref i) →
   b.heap.get? a=some {cls:=.type "list", data:=.seq g.toArray}->IntsAre g ns->ns.length<=n->b.gens=#[] →
   codeAny (model l.prog w) callerA (.call (.ref i) ⟨[.ref a],[]⟩) (λr j=>r=.ok (.ret (.bool true))/\OldK b.heap j.heap/\j.os=b.os/\AllBare j.gens) b) :
  WalkO q loose XP h l.row.toRowW d [] (λf g=>PySem.call f g):=by
 intro w t b k s G Y i o p m e h kV A H I f q E y u J d x z n C;obtain rfl:h=.none:=Dflts.none f c;obtain rfl:kV=.none:=Dflts.noKw f;obtain⟨a,g,ns,rfl,rfl,f,c,h⟩:=Hw B d n;refine enter_call (codeAny_mono (call w t b k s i o p m e a g ns G Y A (fd_plain H) I q f c h E) λr j a=>?_);obtain⟨rfl,d,c,b⟩:=a;exact⟨.inl ⟨.bool true,.bool true,[],rfl,λ_=>rfl,.bool true,Hi l _,by grind⟩,d,c,b⟩
section
variable{prog:Program}{w:World}{A:Around}{E:yaa}{s:Shared}{K:Frag}
end
end Att
namespace L2
open PySem PySem.Spec PyProof.Rows
theorem lF:∀{a:yad} {ns:yaf},IntsAre a ns->Vals (ns.map V.int) a
 |_,_,.nil=>.nil
 |_,_,.cons n t h=>.cons ⟨t,rfl⟩ (lF h)
def Il(H:Hp):Prop:=∀b,H b=none∨∃ o a,H b=some (.frz o (.lst a))
def Jl{K:yac}{x:Str}{c:Shared}{j:yad}
  (M:K.In c.heap) (J:c.heap.Ns mainGlobals mg) (f:c.heap.Ns builtinsNs mb) (y:∀x:Str,x ≠ "__name__" -> mb x=bootBuiltins x) (p:c.heap.NoLimit) (O:c.gens=#[])
  (t:c.heap.get? a=some {cls:=.type "list", data:=.seq j.toArray}) (b:IntsAre j ns) (C:ns.length<=sizeLine) (N:bS k callerA)
  (F:∀base:Heap,K.In base->base.Ns mainGlobals mg->aG P w K mg base CX k fa fd [x] sp) (l:∀(s:Shared) (u:Value),BindsTo s fd ⟨[u],[]⟩ [(x,u)])
  (U:∀H:Hp,Il H->SqL K H a (ns.map V.int)->sp [.ref a] H (λv _=>v=.bl true) λ_ _ _=>False)
  (z:∀H e g,CX [] H c (λ_ _ _=>False) e g->False) :
  codeAny (model P w) callerA (.call (.ref fa) ⟨[.ref a],[]⟩) (λr g=>r=.ok (.ret (.bool true))/\OldK c.heap g.heap/\g.os=c.os/\AllBare g.gens) c:=by
 have B:=lF b;have k:=b.length;have i:∀H:Hp,Il H->SqL K H a (ns.map V.int)->UA P w H c.heap->(∀b,H b≠none->b=a)->(H a≠none->K.lookup a=none) →
   codeAny (model P w) callerA (.call (.ref fa) ⟨[.ref a],[]⟩) (λr g=>r=.ok (.ret (.bool true))/\OldK c.heap g.heap/\g.os=c.os/\AllBare g.gens) c:=by
  intro H E Q L G T;have I:∀{b:Addr} {o:Obj},c.heap.get? b=some o->H b=none->(nQ c.heap H).get? b=some o:=λe n=>Jb e n
  have x:∀{b:Addr} {o:Obj} {n:Array DictEntry} {s:Nat},c.heap.get? b=some o->o.data=.dict n s->H b=none:=fun {b o n s} e d=>by
   cases q:H b with
   |none=>rfl
   |some u =>
    have A:b=a:=G b (by rw[q];simp);subst A;rw[t]at e;cases e;have h:Data.seq j.toArray _=Data.dict n s:=d;cases h
  have h:∀{b:Addr} {m:yam},c.heap.Ns b m->(nQ c.heap H).Ns b m:=fun {b m} m=>(by obtain⟨o,n,s,e,d,r⟩:=m;exact⟨o,n,s,I e (x e d),d,r⟩)
  have d:K.In (nQ c.heap H):=λb o e=>I (M b o e) (by
   cases q:H b with
   |none=>rfl
   |some u =>
    have A:b=a:=G b (by rw[q];simp);subst A;rw[T (by rw[q];simp)]at e;cases e)
  have m:Mod K mg (nQ c.heap H):=⟨d,h J,⟨mb,h f,y⟩,let ⟨mc,h1,h2⟩:=p;⟨mc,h h1,h2⟩⟩;have n:Dv P w K mg (nQ c.heap H) callerA [] c H:=⟨rfl,m,λb o e=>Mj e,XD (Gh _ _),trivial,λb f=>absurd (show b∈([]:yae)from f) (by simp),L,.of_eq O⟩;refine codeAny_mono ((F _ d (h J)).run callerA [] c H ⟨[.ref a],[]⟩ [.ref a] [.ref a] _ _ N n (l c (.ref a)) (.cons rfl .nil) (U H E Q)) λr g h=>?_
  cases r with
  |error e=>exact(z H e g h).elim
  |ok c =>
   cases c with
   |next=>exact False.elim h
   |brk=>exact False.elim h
   |cont=>exact False.elim h
   |ret u =>
    obtain⟨v,H',os,d,g,c,l,q⟩:=h;have h:v=.bl true:=q;subst h;obtain rfl:u=Value.bool true:=l;refine⟨rfl,OldK.of_keep λb o e=>?_,os,d⟩;cases q:H b with
    |none=>exact g.keep b o e q (by intro z;exact absurd (show b∈([]:yae)from z) (by simp)) (by simp)
    |some u =>
     rcases E b with z|⟨d,Y,z⟩;rw[q]at z;cases z;have h:=g.VB b d _ z;obtain⟨d,_⟩:=L b _ z;obtain⟨g,_⟩:=c b _ h;rw[e]at d;cases d;exact g
 cases hk:K.lookup a with
 |some o =>
  have e:=M a o hk;rw[t]at e;cases e;refine i (λ_=>none) (λ_=>.inl rfl) (.inr ⟨_,j.toArray,_,hk,rfl,rfl,rfl,by rw[WC,k];exact C,by simpa using B⟩) (λb u z=>by have c:(none:Option HO)=some u:=z;cases c) (λb z=>absurd rfl z) λz=>absurd rfl z
 |none =>
  refine i (λb=>if b=a then some (.frz {cls:=.type "list", data:=.seq j.toArray} (.lst (ns.map V.int)))else none) (λb=>?_) (.inl (.inr ⟨{cls:=.type "list", data:=.seq j.toArray},Rv rfl⟩)) (λb u z=>?_) (λb z=>?_) λ_=>hk
  by_cases f:b=a;exact .inr ⟨_,_,Rv f⟩;exact .inl (if_neg f);by_cases f:b=a;have c:=(Rv f).symm.trans z;cases c;subst f;exact⟨t,by rw[RH];exact C,j,_,B,t⟩;have c:=(if_neg f).symm.trans z;cases c;by_cases f:b=a;exact f;exact absurd (if_neg f) z
def Nb{l:PySem.W.OpenLaw}{n:Nat}{o:World->Heap->Prop}{d:DefRec}{K:Params->yac}{CX:World->CXT}{sp:World->Sp}{x:Str}
  (y:l.most=some n) (m:n<=sizeLine) (b:d.params.defaults=[]) (t:bS k callerA)
  (z:∀(w:World) (h:Heap),o w h->(K w.params).In h)
  (F:∀(w:World) (g:yam) (i:Addr) (h:Heap),(K w.params).In h->h.Ns mainGlobals g->g d.name=some (.ref i) →
   ∃ r:FuncData,(∀(s:Shared) (u:Value),BindsTo s r ⟨[u],[]⟩ [(x,u)]) ∧
    ∀ base:Heap,(K w.params).In base->base.Ns mainGlobals g->aG l.prog w (K w.params) g base (CX w) k i r [x] (sp w))
  (B:∀(w:World) (H:Hp) (a:Addr) (ns:yaf),ns.length<=n->Il H->SqL (K w.params) H a (ns.map V.int)->sp w [.ref a] H (λv _=>v=.bl true) λ_ _ _=>False)
  (p:∀(w:World) (H:Hp) (s:Shared) (e:Value) (j:Shared),CX w [] H s (λ_ _ _=>False) e j->False) :
  PySem.W.WalkO q loose XP o l.row.toRowW d [] (λf c=>PySem.call f c):=by
 refine Att.BC y b λw RT q g E i o C L A a c ns G Y I J U1 f d c b k=>?_
 have h:=z w _ Y;obtain⟨r,l,n⟩:=F w g i _ h G.T.g f;exact Jl h G.T.g G.T.b G.T.builtins G.T.nolimit k d c (Sd b m) t n l (λH d c=>B w H a ns b d c) λH e j=>p w H q e j
def dg(s:Stmt):Arguments:=match s with
 |.FunctionDef _ a _ _ _ _ _ _ _ _=>a
 |_=>{posonlyargs:=[],args:=[],vararg:=none,kwonlyargs:=[],kw_defaults:=[],kwarg:=none,defaults:=[]}
def cn(s:Stmt):yal:=match s with
 |.FunctionDef _ _ b _ _ _ _ _ _ _=>b
 |_=>[]
def ao(s:Stmt):Scope:=match s with
 |.FunctionDef _ _ _ _ _ _ a _ _ _=>a
 |_=>{kind:=.function,names:=[],isGenerator:=false,isCoroutine:=false}
abbrev E0:XK:=λ_ _ _=>False
structure Fun(K:yac)(x qual:Str)(st:Stmt)(f:Addr)(fd:FuncData):Prop where
 ex:∃(oc:Value) (od:Option Addr) (kV doc pm:Value) (an:Option Addr) (T7 ct:Value) (osl:Array (yan)),
  fd=PySem.W.fnOf x qual (dg st) (cn st) (ao st) .none kV doc pm an T7 ct/\K.lookup f=some ⟨oc,od,.func fd,osl⟩/\PySem.W.codeIn K T7 qual=true
 kp:PySem.W.keepIn K (.ref f)=true
def y7(a:bS k A):A.units+1<cLine:=Xh (by lia) a.units
section
variable{X:Cx}
end
def av(H H':Hp):Prop:=∀b o,H b=some o->H' b=some o
def av.trans(a:av H H1)(b:av H1 H2):av H H2:=λc o h=>b c o (a c o h)
def av.seq{K:yac}{H H':Hp}{a:Addr}{xs:yaq}(e:av H H')(h:SqL K H a xs):SqL K H' a xs:=by
 rcases h with(h|⟨o,h⟩)|h;exact .inl (.inl (e _ _ h));exact .inl (.inr ⟨o,e _ _ h⟩);exact .inr h
end L2
set_option maxHeartbeats 4000000
namespace L2
open PySem PySem.Spec PyProof.Rows
section
variable{κ:Type} [DecidableEq κ]
def dF(kvs:List (κ×V))(k:κ):Option V:=(kvs.find? λa=>decide (a.1=k)).map (·.2)
noncomputable def putK(kvs:List (κ×V))(k:κ)(v:V):List (κ×V) :=
 if(kvs.any λa=>decide (a.1=k))=true then kvs.map (λa=>if a.1=k then(a.1,v)else a)else kvs++[(k,v)]
theorem Kf:dF ([]:List (κ×V)) k=none:=rfl
def oZ{p:κ×V}{r:List (κ×V)}{k:κ}(e:p.1=k):dF (p::r) k=some p.2:=by simp[dF,e]
def oY{p:κ×V}{r:List (κ×V)}{k:κ}(e:¬p.1=k):dF (p::r) k=dF r k:=by simp[dF,e]
theorem kW(k:κ):∀kvs:List (κ×V),(kvs.any λa=>decide (a.1=k))=(dF kvs k).isSome
 |[]=>rfl
 |p::r=>by
  rw[List.any_cons];by_cases e:p.1=k;simp only[oZ e,U5 e,Bool.true_or,Option.isSome_some]
  simp_all [oY,decide_eq_false,Bool.false_or,kW]
theorem sH(kvs:List (κ×V))(k:κ)(v:V):(putK kvs k v).length<=kvs.length+1:=by unfold putK;grind
def JS{kvs:List (κ×V)}{k:κ}(v:V)(h:dF kvs k=none):putK kvs k v=kvs++[(k,v)]:=by
 unfold putK
 simp_all [kW,if_neg]
def lK.Yz(r:lK o u):o.isSome=u.isSome:=by
 cases o with
 |none=>cases u with
  |none=>rfl
  |some _=>exact(show False from r).elim
 |some _=>cases u with
  |none=>exact(show False from r).elim
  |some _=>rfl
def KV.val(r:KV kvs vs)(k:κ):lK (dF kvs k) (valueAt vs k):=by
 induction r with
 |nil=>exact True.intro
 |@cons p q g a h t ih =>
  obtain⟨d,f⟩:=h;by_cases e:p.1=k;have c:q.1=k:=d.symm.trans e;have b:valueAt (q::a) k=some q.2:=by simp[valueAt,c]
  rw[oZ e,b];exact f;have c:¬q.1=k:=λz=>e (d.trans z)
  have b:valueAt (q::a) k=valueAt a k:=by simp[valueAt,c]
  rw[oY e,b];exact ih
theorem KV.any(r:KV kvs vs)(k:κ):(kvs.any λa=>decide (a.1=k))=vs.any λa=>decide (a.1=k):=by
 induction r with
 |nil=>rfl
 |cons h t ih=>simp_all
def KV.repl(r:KV kvs vs)(k:κ)(b:RelV y u) :
  KV (kvs.map λa=>if a.1=k then(a.1,y)else a) (vs.map λa=>if a.1=k then(a.1,u)else a):=by
 induction r with
 |nil=>exact .nil
 |@cons p q d c h t ih =>
  refine .cons ?_ ih
  lia
def KV.put(r:KV kvs vs)(k:κ)(a:RelV y u):KV (putK kvs k y) (stored vs k u):=by unfold putK stored;rw[r.any k];by_cases e:(vs.any λb=>decide (b.1=k))=true;rw[Rv e,Rv e];exact r.repl k a;rw[if_neg e,if_neg e];exact Paired.snoc r ⟨rfl,a⟩
theorem KV.length(r:KV kvs vs):kvs.length=vs.length:=Paired.length r
end
def y8(r:RelV (kV k) u):(cq P w).is k u=true:=by
 cases k with
 |inl i=>obtain⟨t,e⟩:=(show∃t,u=Value.int i t from r);simp_all [BO]
 |inr x=>obtain⟨t,e⟩:=(show∃t,u=Value.str x t from r);simp_all [BP]
theorem yj:∀{a:List Key} {b:yad},Vals (a.map kV) b->ItemsAre (cq P w) a b
 |[],_,r=>by cases r;exact .nil
 |k::a,_,r=>by
  cases r with
  |cons h t=>exact .cons (y8 h) (yj t)
abbrev KT(H:Hp):List (List Key×V)->List (List Key×Addr×Value)->Prop:=Paired λp q=>p.1=q.1/\H q.2.1=some (.tup (p.1.map kV))/\RelV p.2 q.2.2
def KT.val(r:KT H kvs xs)(k:List Key):lK (dF kvs k) ((atKey xs k).map (·.2)):=by
 induction r with
 |nil=>exact True.intro
 |@cons p q f a h t ih =>
  obtain⟨g,_,d⟩:=h;by_cases e:p.1=k;have c:q.1=k:=by simp_all
  have b:atKey (q::a) k=some q.2:=by simp[atKey,c]
  rw[oZ e,b];exact d;have c:¬q.1=k:=by simp_all
  have b:atKey (q::a) k=atKey a k:=by simp[atKey,c]
  simp_all [oY]
def KT.repl(r:KT H kvs xs)(k:List Key)(b:RelV y u) :
  KT H (kvs.map λa=>if a.1=k then(a.1,y)else a) (xs.map (putAt k u)):=by
 induction r with
 |nil=>exact .nil
 |@cons p q d c h t ih =>
  refine .cons ?_ ih;unfold putAt
  lia
def KT.put(r:KT H kvs xs)(k:List Key)(c:H b=some (.tup (k.map kV)))(a:RelV y u) :
  KT H (putK kvs k y) (storedH xs k b u):=by
 have e:(kvs.any λb=>decide (b.1=k))=(atKey xs k).isSome:=by rw[kW,(r.val k).Yz,Option.isSome_map]
 unfold putK storedH;rw[e];by_cases q:(atKey xs k).isSome=true;rw[Rv q,Rv q];exact r.repl k a;rw[if_neg q,if_neg q];exact Paired.snoc r ⟨rfl,c,a⟩
def KT.keeps{H':Hp}(r:KT H kvs xs)(a:∀b ys,H b=some (.tup ys)->H' b=some (.tup ys)):KT H' kvs xs :=
 Paired.mapP r (by simp_all)
section
variable{P:Program}{w:World}{H:Hp}{h:Heap}{a:Addr}
def KP(b:UA P w H h)(e:Rd H a u):bG P w H h a u:=e.ok b
def D9(c:UA P w H h)(e:Rd H a (.dK kvs)):kvs.length<=sizeLine/\(a==sysModules)=false/\∃b,KV kvs b/\h.DictOf (cq P w) a b :=
 show bG P w H h a (.dK kvs)from KP c e
def Kx(c:UA P w H h)(e:H a=some (.dK kvs)):kvs.length<=sizeLine/\(a==sysModules)=false/\∃b,KV kvs b/\h.DictOf (cq P w) a b:=D9 c (.inl e)
theorem Az{b:List Key}(c:UA P w H h)(e:H a=some (.tup (b.map kV))):(tupleKind (cq P w)).is h b a:=by obtain⟨_,i,r,o,g,f,n,d⟩:=(show bG P w H h a (.tup (b.map kV))from c a _ e);exact⟨o,i.toArray,n,g,f,d,by simpa using yj r⟩
def Ea(b:UA P w H h)(e:Rd H a (.dT kvs)):kvs.length<=sizeLine/\(a==sysModules)=false ∧
  ∃ xs,KT H kvs xs/\h.DictOfH (tupleKind (cq P w)) a xs:=by
 obtain⟨z,y,xs,r,o,j,k,i,g,f,c,d⟩:=(show bG P w H h a (.dT kvs)from KP b e);refine⟨z,y,xs,r,o,j,k,i,g,f,c,λx c=>?_,d⟩;have b:∀{l:List (List Key×V)} {m:List (List Key×Addr×Value)},KT H l m->∀x∈m,(tupleKind (cq P w)).is h x.1 x.2.1:=by
  intro l m q
  induction q with
  |nil=>grind
  |@cons p q s n u t ih =>
   grind [Az]
 exact b r x c
def P9(b:UA P w H h)(e:H a=some (.dT kvs)):kvs.length<=sizeLine/\(a==sysModules)=false ∧
  ∃ xs,KT H kvs xs/\h.DictOfH (tupleKind (cq P w)) a xs:=Ea b (.inl e)
end
def pJ(H:Hp)(a:Addr)(y:V)(r:Option V):Prop :=
 (∃c k,Rd H a (.dK c)/\y=kV k/\r=dF c k)∨∃ c k b,Rd H a (.dT c)/\y=.ref b/\H b=some (.tup (k.map kV))/\r=dF c k
def zh(H:Hp)(a:Addr)(y v:V)(H':Hp):Prop :=
 (∃c k,H a=some (.dK c)/\y=kV k/\c.length<sizeLine/\H'=upd H a (.dK (putK c k v))) ∨
 ∃ c k b,H a=some (.dT c)/\y=.ref b/\H b=some (.tup (k.map kV))/\c.length<sizeLine/\H'=upd H a (.dT (putK c k v))
theorem pJ.k{H:Hp}{a:Addr}{kvs:List (Key×V)}{k:Key}(e:H a=some (.dK kvs)):pJ H a (kV k) (dF kvs k):=.inl ⟨kvs,k,.inl e,rfl,rfl⟩
theorem zh.k{H:Hp}{a:Addr}{kvs:List (Key×V)}{k:Key}{v:V}(e:H a=some (.dK kvs))(b:kvs.length<sizeLine):zh H a (kV k) v (upd H a (.dK (putK kvs k v))):=.inl ⟨kvs,k,e,rfl,b,rfl⟩
section
variable{X:Cx}{pins:yab}{σ:St}{H:Hp}{s:Shared}{a:Addr}{y v:V}{u r:Value}{o:Option V}{A:Around}{E:yaa}
def Inv.big(I:Inv X pins σ H s):sysModules<s.heap.objs.size:=by have h:mainGlobals<s.heap.objs.size:=(I.mod.glob.keeps I.bk).lt;exact Nat.lt_trans (by decide) h
def xT{Q:yaa}(q:A.units+1<cLine)(I:Inv X pins σ H s)(g:pJ H a y (some v))(m:RelV y u)(h:∀d b,Inv X pins σ H b->RelV v d->Q d b) :
  wpAny (model X.prog X.w) A (getItem (.ref a) u) Q E s:=by
 rcases g with⟨b,k,e,g,l⟩| ⟨b,k,b,e,g,t,l⟩;subst g;obtain⟨z,p,n,c,i⟩:=D9 I.R7 e;obtain⟨d,f,j⟩:=lK.some_of (v:=v) (o:=valueAt n k) (by rw[l];exact c.val k);exact wpAny_getItem_of (y8 m) i.mapOf f (h d _ (I.tok _) j);subst g;cases(show u=Value.ref b from m);obtain⟨z,p,b,c,i⟩:=Ea I.R7 e;obtain⟨d,f,j⟩:=lK.some_of (v:=v) (o:=(atKey b k).map (·.2)) (by rw[l];exact c.val k);obtain⟨p,c,b⟩:=Zc.mp f;refine wpAny_getItem_heap (tupleKind_room_in1 q) (Az I.R7 t) i c ?_;rw[b];exact h d _ (I.tok _) j
def wG{t':Nat}(I:Inv X pins σ H s)(b:Mut (H a))(hs:Heap.SameBut a s.heap h')(d:∃q,h'.get? a=some q)(c:bG X.prog X.w (upd H a ob) h' a ob) :
  Inv X pins σ (upd H a ob) {s with heap:=h',toks:=t'} :=
 I.write (x:=a) (e:=a) b (.inl rfl) (λb q e z=>(hs.2 b e).trans z) d c
def F0{h':Heap}{kvs:List (Key×V)}(z:kvs.length<=sizeLine)(c:(a==sysModules)=false)(b:KV kvs vs)(dd:h'.DictOf (cq P w) a vs) :
  bG P w H' h' a (.dK kvs):=⟨z,c,vs,b,dd⟩
def FV{Q:Unit->Shared->Prop}(G:A.units+1<cLine)(I:Inv X pins σ H s)(g:zh H a y v H')(w:RelV y u)(x:RelV v r)(h:∀b,Inv X pins σ H' b->Q () b) :
  wpAny (model X.prog X.w) A (setItem (.ref a) u r) Q E s:=by
 rcases g with⟨f,k,e,n,l,p⟩| ⟨f,k,b,e,n,C,l,p⟩;subst n p;obtain⟨z,m,d,c,t⟩:=Kx I.R7 e;have i:d.length<=sizeLine:=by rw[<- c.length];exact z
 have l:(putK f k v).length<=sizeLine:=by grind [sH]
 refine wpAny_setItem_pairs (hsz:=i) (y8 w) t λB d j=>h _ ?_
 have J:∃q,B.get? a=some q:=let ⟨q,_,_,g,_⟩:=d;⟨q,g⟩;exact wG I (by rw[e];exact True.intro) j J (F0 l m (c.put k x) d);subst n p;cases(show u=Value.ref b from w);obtain⟨z,m,b,c,t⟩:=P9 I.R7 e;have i:b.length<=sizeLine:=by rw[<- Paired.length c];exact z
 have l:(putK f k v).length<=sizeLine:=by grind [sH]
 refine wpAny_setItem_heap (hsz:=i) (tupleKind_room_in1 G) (Az I.R7 C) t λB d j=>h _ ?_
 obtain⟨q,n,p,g,i,h,f,_,b⟩:=d;refine wG I (by rw[e];exact True.intro) j ⟨q,g⟩ ⟨l,m,_,(c.put k C x).keeps λc L c=>?_,q,n,p,g,i,h,f,b⟩;rw[aC (by lia)];exact c
end
def Ij(i:Expr):Prop:=∀a b,subscripted i false a b=operate [a,b] (getItem a b)
def M5{prog:Program}{w:World}{A:Around}{E:yaa}{s:Shared}{env:Env}{b a:Expr}{pos:Pos}{T id:String}{Q:yaa}
  (e:typeLookup (.type T) "__getitem__" = pure (some (.builtin id))) (hs:Ij a)
  (h:wpAny (model prog w) A (eval b env) (λo d=>wpAny (model prog w) A (eval a env) (λi c=>c.TypeIs o T/\wpAny (model prog w) A (getItem o i) Q E c) E d) E s) :
  wpAny (model prog w) A (eval (.Subscript b a pos) env) Q E s:=by
 refine Subscript_ (VI h (λo d d=>VI d (λi c d=>?_) λ_ _ x=>x) λ_ _ x=>x);obtain⟨f,d⟩:=d;refine Rm ?_;refine Rm (zC8 f e ?_);have g:wpAny (model prog w) A (subscripted a false o i) (λr a=>wpAny (model prog w) A (letTemporaryGo b o r >>= λ_=>pure r) Q E a) E c:=by rw[hs o i];exact wpAny_operating (VI d (λr a a=>Rm (wpAny_letTemporaryGo (Rz a))) λ_ _ x=>x)
 grind [wpAny_pure,wpAny_bind]
def BI (I:Inv X pins σ H s) (g:pJ H a y o):s.TypeIs (.ref a) "dict" := by
 rcases g with⟨a,k,e,_,_⟩| ⟨a,k,b,e,_,_,_⟩;obtain⟨_,_,d,_,a⟩:=D9 I.R7 e;exact a.typeIs;obtain⟨_,_,c,_,a⟩:=Ea I.R7 e;exact a.typeIs
def QE(c b:TE):TE:=λa H Q=>c a H λx c=>b a c λy b=>∃a v,x=.ref a/\pJ b a y (some v)/\Q v b
def QA(c a d:TE)(rd:V->V->Hp->VK->Prop):TS:=λD b H=>c b H λx c=>a b c λy c=>∃a v,x=.ref a/\pJ c a y (some v) ∧
 d b c λc d=>rd v c d λz d=>∃c,zh d a y z c/\D.nx b c
section
variable{X:Cx}{o i e value:Expr}{pos pos' tpos:Pos}{td ty tv:TE}
def MD(n:X.A.units+1<cLine)(p:PE X o td)(q:PE X i ty)(hs:Ij i):PE X (.Subscript o i pos) (QE td ty):=by intro b s c H Q I h;refine M5 PySem.F.slot_dict_getitem.lookup hs (Rw (p b s c H _ I h) λu f ⟨x,C,A,k,m⟩=>Rw (q b f c C _ A m) λL J w=>?_);obtain⟨y,B,d,j,a,v,r,g,l⟩:=w;subst r;obtain rfl:u=Value.ref a:=k;exact⟨BI d g,xT n d g j λE G z t=>⟨v,B,z,t,l⟩⟩
def MH(p:X.A.units+1<cLine)(N:PE X o td)(O:PE X i ty)(hv:PE X value tv)(l:Np X op rd)
  (Q:∀j f c,augStore i j f c=(do holding [c,j,f] (setItem j f c);release [c,j,f] [];pure .next)):PS X (.AugAssign (.Subscript o i tpos) op value pos) (QA td ty tv rd):=by
 intro b s d H D I h;refine wpAny_AugAssign_SubscriptAny (Rw (N b s d H _ I h) λu B ⟨x,H1,I1,E,M⟩=>Rw (O b B d H1 _ I1 M) λf s2 m=>?_) Q;obtain⟨y,H2,I2,n,a,v,U,g,L⟩:=m;subst U;obtain rfl:u=Value.ref a:=E;refine xT p I2 g n λt A I3 Y=>Rw (hv b A d H2 _ I3 L) λr w ⟨q,H3,I4,k,J⟩=>Rw (l b w d H3 v q t r _ I4 Y k J) λw3 s5 m=>?_
 obtain⟨z,H4,I5,C,H5,T,G⟩:=m;exact FV p I5 T n C λs6 I6=>⟨d,H5,I6,G⟩
end
def IM (h:Heap) (a:sysModules<h.objs.size):bG P w H (h.push {cls:=.type "dict", data:=.dict #[]}) h.objs.size (.dK []) :=
 ⟨UE _,beq_eq_false_iff_ne.mpr (Ne.symm (Uw a)),[],.nil,Heap.DictOf.new h⟩
abbrev VV:List (V×V)->List (Value×Value)->Prop:=Paired λp q=>RelV p.1 q.1/\RelV p.2 q.2
def u9(kvs a:List (Key×V)):List (Key×V):=a.foldl (λa b=>putK a b.1 b.2) kvs
def KV.merge:∀{a:List (Key×V)} {c:List (Key×Value)} {kvs:List (Key×V)} {b:List (Key×Value)},KV a c->KV kvs b->KV (u9 kvs a) (merged b c):=by
 intro a c kvs b r
 induction r generalizing kvs b with
 |nil=>intro q;exact q
 |@cons p q f d h t ih =>
  intro a;have e:KV (putK kvs p.1 p.2) (stored b q.1 q.2):=by
   have:=a.put p.1 h.2
   simp_all
  exact ih e
theorem uF:∀{kvs:List (Key×V)} {ws:List (Value×Value)},VV (kvs.map λa=>(kV a.1,a.2)) ws->∃d,Carries (cq P w) ws d/\KV kvs d
 |[],_,r=>by cases r;exact⟨[],True.intro,.nil⟩
 |p::kvs,_,r=>by
  cases r with
  |@cons a b g e h t =>
   obtain⟨d,c,q⟩:=uF (P:=P) (w:=w) t;obtain⟨f,a⟩:=b;exact⟨(p.1,a)::d,⟨y8 h.1,rfl,c⟩,.cons ⟨rfl,h.2⟩ q⟩
structure M1(X:Cx)(o:Expr)(m:Str)(apos:Pos)(e:Expr)(R6:Pos):Prop where
 base:attributeBase o m X.env (eval o X.env)=eval o X.env
 few:((backTo R6 (starEach [e] X.env)).all (λx=>!x.1) && (backToKw R6 (keywordEach [] X.env)).all (λx=>x.1.isSome)
  && decide (([e]:yai).length+([]:List Keyword).length+(if([]:List Keyword).isEmpty then 0 else 1)<30))=true
 line:(apos.endLine==R6.line)=true
 trees:backTo R6 (starEach [e] X.env)=[(false,eval e X.env)]
structure M2(X:Cx)(o:Expr)(m:Str)(apos:Pos)(e f:Expr)(R6:Pos):Prop where
 base:attributeBase o m X.env (eval o X.env)=eval o X.env
 few:((backTo R6 (starEach [e,f] X.env)).all (λx=>!x.1) && (backToKw R6 (keywordEach [] X.env)).all (λx=>x.1.isSome)
  && decide (([e,f]:yai).length+([]:List Keyword).length+(if([]:List Keyword).isEmpty then 0 else 1)<30))=true
 line:(apos.endLine==R6.line)=true
 trees:backTo R6 (starEach [e,f] X.env)=[(false,eval e X.env),(false,eval f X.env)]
end L2
namespace PM
def Aq(a b:Int):Int.gcd b (a.fmod b)=Int.gcd a b:=by
 have h:=Int.fmod_add_mul_fdiv a b;have c:a=a.fmod b+a.fdiv b*b:=by simp_all [VG]
 rw[Int.gcd_comm a b]
 conv=>rhs;rw[c]
 rw[Int.gcd_add_mul_right_right]
def ya(a:Int){b:Int}(d:b≠0):(a.fmod b).natAbs<b.natAbs:=by
 by_cases h:0<b;have g:=Int.fmod_lt_of_pos a h;have c:=zDA a h;omega;have e:a.fmod b=-((-a).fmod (-b)):=by simp_all
 have c:=Int.fmod_lt_of_pos (-a) (b:=-b) (by omega);have f:=zDA (-a) (b:=-b) (by omega);omega
noncomputable def g3(x y z:Int):Nat:=Int.gcd (Int.gcd x y:Int) z
def nL(x y z:Int):(g3 x y z:Int)∣x:=zCm (Int.gcd_dvd_left _ _) (Int.gcd_dvd_left _ _)
theorem nM(x y z:Int):(g3 x y z:Int)∣y:=zCm (Int.gcd_dvd_left _ _) (Int.gcd_dvd_right _ _)
theorem nN(x y z:Int):(g3 x y z:Int)∣z:=Int.gcd_dvd_right _ _
def Oe{x y z d:Int}(c:d∣x)(b:d∣y)(a:d∣z):d∣(g3 x y z:Int):=zC4 (zC4 c b) a
def CG:g3 x y z=0↔x=0/\y=0/\z=0:=by unfold g3;grind [Int.gcd_eq_zero_iff]
def T4(x y z l:Int):Int:=if l<0 then -(g3 x y z:Int)else(g3 x y z:Int)
def Aj{x y z:Int}(h:¬(x=0/\y=0/\z=0)):T4 x y z l≠0:=by
 have:g3 x y z≠0:=λe=>h (CG.mp e)
 unfold T4
 lia
def wN(x y z l:Int):(T4 x y z l).natAbs=g3 x y z:=by
 unfold T4
 lia
def rj{x y z t:Int}(h:(g3 x y z:Int)∣t):T4 x y z l∣t:=by
 unfold T4;split
 all_goals simp_all
def cK{x y z t:Int}(h:(g3 x y z:Int)∣t):t.fdiv (T4 x y z l)*T4 x y z l=t:=by simp_all [rj,Int.fdiv_eq_ediv_of_dvd,Int.ediv_mul_cancel]
def Hn{x y z:Int}(h:¬(x=0/\y=0/\z=0)):g3 (x.fdiv (T4 x y z l)) (y.fdiv (T4 x y z l)) (z.fdiv (T4 x y z l))=1:=by
 have j:=cK (l:=l) (nL x y z);have o:=cK (l:=l) (nM x y z);have n:=cK (l:=l) (nN x y z);have p:=Aj (l:=l) h;have f:=wN x y z l;generalize x.fdiv (T4 x y z l)=a at j ⊢;generalize y.fdiv (T4 x y z l)=b at o ⊢;generalize z.fdiv (T4 x y z l)=c at n ⊢;generalize T4 x y z l=g at *;have m:(g3 a b c:Int)*g∣(g3 x y z:Int):=by
  refine Oe ?_ ?_ ?_;rw[<- j];exact Int.mul_dvd_mul (nL a b c) (by simp_all)
  all_goals grind [Int.mul_dvd_mul,nM,Int.dvd_refl,nN]
 have d:g3 a b c*g.natAbs∣g.natAbs:=by
  have:=zB5.mpr m
  simp_all [zCN]
 have k:0<g.natAbs:=by lia
 have:=zCq k d;have q:g3 a b c≠0:=by
  intro e
  simp_all
 rcases Nat.lt_or_ge (g3 a b c) 2 with i|i
 lia
 have:2*g.natAbs<=g3 a b c*g.natAbs:=Nat.mul_le_mul_right _ i
 lia
def w8{x y z l:Int}(c:l≠0)(a:(g3 x y z:Int)∣l)(h:¬(x=0/\y=0/\z=0)):0<l.fdiv (T4 x y z l):=by
 have e:=cK (l:=l) a;have d:g3 x y z≠0:=λe=>by simp_all
 have b:(l<0/\T4 x y z l<0)∨(0<l/\0<T4 x y z l):=by unfold T4;grind
 grind [Int.lt_trichotomy,Int.mul_pos_of_neg_of_neg,Int.mul_neg_of_neg_of_pos]
def sG{t g:Int}(b:g≠0)(h:g∣t):(t.fdiv g).natAbs<=t.natAbs:=by
 rw[Int.fdiv_eq_ediv_of_dvd h];have e:=Int.ediv_mul_cancel h;have:(t / g).natAbs*g.natAbs=t.natAbs:=by rw[<- zCN,e]
 have a:0<g.natAbs:=by lia
 rw[<- this];exact Nat.le_mul_of_pos_right _ a
def Gf(a:Int):Int.gcd a 0=a.natAbs:=by simp
def LR(a b:Int):Int.gcd ((a.natAbs:Nat):Int) ((b.natAbs:Nat):Int)=Int.gcd a b:=by unfold Int.gcd;simp
end PM
namespace PX
open PySem PySem.W PySem.Spec PySem.Calls PyProof.Rows PySem.Builtin.ObjectAttr PySem.Builtin.Getset_descriptor
def ExcAt(e c:Addr)(h:Heap):Prop:=∃o a,h.get? e=some o/\o.cls=.ref c/\o.data=.fields a
def ExcAt.ty(p:ExcAt e c h):Looks M h (typeOf (.ref e)) (.ref c):=by obtain⟨o,d,b,a,_⟩:=p;exact a ▸ (Looks.ld b).andThen .now
noncomputable def Eb(K:Frag)(c:Addr):Bool :=
 (clsIn K c).isSome && findIn K (.ref c) "__getattribute__" == some (some (.builtin "BaseException.__getattribute__"))
 && findIn K (.ref c) "__getattr__" == some none && findIn K (.ref c) "__class__" == some (some (.builtin "object.__class__"))
 && specialIn K (.builtin "object.__class__") "__get__" == some (some (.builtin "getset_descriptor.__get__"))
 && takesIn K (.builtin "object.__class__")==some true
 && mroIn K c (.type "object")==some true && mroIn K c (.type "BaseException")==some true
 && kitOne K (.ref c) (.type "int")==some false && kitOne K (.ref c) (.type "bool")==some false && kitOne K (.ref c) (.type "tuple")==some false
 && kitOne K (.ref c) (.type "list")==some false && kitOne K (.ref c) (.type "str")==some false
structure DK(K:Frag)(c:Addr):Prop where
 pg:plainGet K c "__class__" = true
 hd:hasDictIn K c=true
 at_:findIn K (.ref c) "__class__" = some (some (.builtin "object.__class__"))
 get:specialIn K (.builtin "object.__class__") "__get__" = some (some (.builtin "getset_descriptor.__get__"))
 takes:takesIn K (.builtin "object.__class__")=some true
 obj:mroIn K c (.type "object")=some true
 not:∀T,(T = "int" ∨ T = "bool" ∨ T = "tuple" ∨ T = "list" ∨ T = "str")->kitOne K (.ref c) (.type T)=some false
structure d6(K:Frag)(c:Addr):Prop where
 cls:(clsIn K c).isSome=true
 ga:findIn K (.ref c) "__getattribute__" = some (some (.builtin "BaseException.__getattribute__"))
 hook:findIn K (.ref c) "__getattr__" = some none
 at_:findIn K (.ref c) "__class__" = some (some (.builtin "object.__class__"))
 get:specialIn K (.builtin "object.__class__") "__get__" = some (some (.builtin "getset_descriptor.__get__"))
 takes:takesIn K (.builtin "object.__class__")=some true
 obj:mroIn K c (.type "object")=some true
 exc:mroIn K c (.type "BaseException")=some true
 not:∀T,(T = "int" ∨ T = "bool" ∨ T = "tuple" ∨ T = "list" ∨ T = "str")->kitOne K (.ref c) (.type T)=some false
def d6.of{K:Frag}{c:Addr}(h:Eb K c=true):d6 K c:=by unfold Eb at h;simp at h;obtain⟨⟨⟨⟨⟨⟨⟨⟨⟨⟨⟨⟨m,g⟩,f⟩,e⟩,d⟩,c⟩,b⟩,a⟩,n⟩,l⟩,k⟩,j⟩,i⟩:=h;exact⟨m,g,f,e,d,c,b,a,by lia⟩
section
variable{prog:Program}{w:World}{A:Around}{E:yaa}{s:Shared}{K:Frag}{e c:Addr}
def QI {R:Result->Shared->Prop} {a:Value} (X:K.In s.heap) (p:ExcAt e c s.heap) (d:mroIn K c (.type "object")=some true) (b:R (.ok (.ret (.ref c))) s) :
  codeAny (model prog w) A (.call (.builtin "getset_descriptor.__get__") ⟨[.builtin "object.__class__", .ref e,a],[]⟩) R s:=by
 have La:=p.ty (M:=model prog w);have Lb:=looks_mroIn (M:=model prog w) X d;refine codeAny_call_builtin (KF.slot_gs.plain) KF.entry_gs (KF.slot_gs.check _ _ _ _ _ _ _ _ KF.type_class (KF.args_gs _ _ _) ?_);unfold Builtin.«getset_descriptor.__get__» descrGet;refine Rm (Rz ?_);unfold descrGetter descrCheckInstance descrNameAndClass isInstance;simp only[KF.owner_class]
 repeat lk
 refine⟨Code.quiet_builtin _ (by decide +kernel),zCH KF.entry_class ?_⟩
 repeat lk
 exact b
def PO (k:d6 K c) (X:K.In h):Looks M h (find (.ref e) (.ref c) "__class__") (.bind (.builtin "getset_descriptor.__get__") (.builtin "object.__class__")):=by have d:=looks_findIn (M:=M) X k.at_;have b:Looks M h (getOf (some (.builtin "object.__class__"))) (some (.builtin "getset_descriptor.__get__")):=looks_specialIn X k.get;have a:=looks_takesIn (M:=M) X k.takes;refine d.andThen (b.andThen ?_);exact(show Looks M h (dataDescriptor? (some (.builtin "object.__class__")) (some (.builtin "getset_descriptor.__get__"))) (some (.builtin "getset_descriptor.__get__", .builtin "object.__class__"))from a.andThen .now).andThen (Looks.tag .now)
def Ng{a:Tok}{Q:Fin->Shared->Prop}(k:d6 K c)(X:K.In s.heap)(p:ExcAt e c s.heap)(b:Q (.done (.ret (.ref c))) s) :
  wpAny (model prog w) A (Builtin.«object.__getattribute__» ⟨[.ref e,.str "__class__" a],[]⟩) Q E s:=by
 have d:=p.ty (M:=model prog w);have a:=PO (M:=model prog w) (e:=e) k X;refine Rm (Rz ?_);refine Rm (Rz ?_);refine Rm (d.at (Rm (a.at ?_)));unfold bindTo
 repeat (first|with_reducible refine Rm ?_|with_reducible refine VT ?_)
 refine wpAny_call (QI X p k.obj ?_);exact Rz b
def Nf{a:Value}{Q:Unit->Shared->Prop}(k:d6 K c)(X:K.In s.heap)(p:ExcAt e c s.heap)(b:Q () s) :
  wpAny M A (checkBuiltinCall "BaseException.__getattribute__" ⟨[.ref e,a],[]⟩) Q E s:=by
 obtain⟨h,g,l,t,os⟩:=s;have d:builtinKind "BaseException.__getattribute__" = some .slot:=by decide +kernel
 have f:splitId "BaseException.__getattribute__" = some ("BaseException", "__getattribute__"):=by decide +kernel
 have j:=F.args_bexc_ga (.ref e) a;have i:=p.ty (M:=M);have g:=looks_mroIn (M:=M) X k.exc;have a:Looks M h (isInstance (.ref e) (.type "BaseException")) true:=i.andThen g;simp only[checkBuiltinCall,d,f];refine Rm (a.at ?_)
 repeat (first|wp_step)
 exact b
def x_call{a:Tok}{R:Result->Shared->Prop}(k:d6 K c)(X:K.In s.heap)(p:ExcAt e c s.heap)(b:R (.ok (.ret (.ref c))) s) :
  codeAny (model prog w) A (.call (.builtin "BaseException.__getattribute__") ⟨[.ref e,.str "__class__" a],[]⟩) R s :=
 codeAny_call_builtin F.excAttr_ValueError.ga.plain F.entry_bexc_ga (Nf k X p (Ng k X p b))
def PN{Q:yan->Shared->Prop}(k:d6 K c)(X:K.In s.heap)(p:ExcAt e c s.heap)(b:Q (some (.ref c)) {s with toks:=s.toks+1}) :
  wpAny (model prog w) A (getAttr? (.ref e) "__class__") Q E s:=by
 have f:=p.ty (M:=model prog w);have d:=looks_findIn (M:=model prog w) X k.ga;have a:=looks_findIn (M:=model prog w) X k.hook;have g:=F.excAttr_ValueError.ga.bind (.ref e);refine Rm (wpAny_mkText (Rm (zCY (VT (Rm (f.at (Rm (d.at ?_))))))));have TN:(Value.builtin "BaseException.__getattribute__" == Value.builtin "object.__getattribute__")=false:=by decide +kernel
 refine Rm (a.at ?_);refine Rm (zCY (VT ?_));refine wpAny_call (x_call k X p ?_);refine Rz (a:=Value.ref c) ?_;exact Rz b
set_option tactic.hygienic true in
def Jk(k:d6 K c):KitX K (.ref e) (.ref c) (ExcAt e c) where
 ty:=λ_ _ _ p=>p.ty
 it:=λ_ _ X _=>by have h:=k.cls;unfold clsIn at h;split at h;rename_i l j g a f;intro A' Q' E' o b q;exact Rm (wpAny_loadPart (b _ _ (X _ _ f)) (Rz q));cases h
 ne:=λh i r Rt n m X d=>by
  have h:=k.cls;refine Bool.eq_false_iff.mpr λq=>?_
  have z:c=i:=by lia
  subst z;unfold clsIn at h;split at h;rename_i l j g a f;cases(X _ _ f).symm.trans d;cases h
 ca:=λX p b=>PN k X p b
end
end PX
namespace PD
open PySem PySem.Spec PyProof.Rows L2 PX
abbrev St:=L2.St
def NT:HO->Prop
 |.Xb _=>False
 |_=>True
def Q1:Str := "lightest.<locals>.<lambda>"
def Ni(c:Addr):Heap->Prop:=λh=>h.CodeRec (.ref c) Q1
def fW(H:Hp):Prop:=∀P a,H P=some (.Xb a)->TriplesOk a.toList/\∀b d,codeAmong b a.toList=some d->∃c,d=.ref c/\H c=some (.ext (Ni c))
noncomputable def tabOf(K:yac):Option Addr :=
 match PySem.W.nsIn K mainGlobals "lightest" with
 |some (some (.ref f))=>(match K.lookup f with
  |some ⟨_,_,.func a,_⟩=>(match a.code with
   |.ref c=>(match K.lookup c with
    |some ⟨_,_,.fields a,_⟩=>(match(a[11]?:yan)with
     |some (.ref P)=>if(K.lookup P).isNone=true then some P else none
     |_=>none)
    |_=>none)
   |_=>none)
  |_=>none)
 |_=>none
structure av(H H':Hp):Prop where
 kp:∀b o,H b=some o->NT o->H' b=some o
 tb:∀b ps,H b=some (.Xb ps)->∃more,H' b=some (.Xb (ps++more))
 ok:fW H->fW H'
def av.app(e:av H H')(b:Addr)(o:HO)(h:H b=some o)(a:NT o:=by first|exact True.intro|assumption):H' b=some o:=e.kp b o h a
instance {H H':Hp}:CoeFun (av H H') (λ_=>∀(b:Addr) (o:HO),H b=some o->(nt:NT o:=by first|exact True.intro|assumption)->H' b=some o):=⟨@av.app H H'⟩
theorem av.refl(H:Hp):av H H:=⟨by lia,by simp_all,id⟩
def av.trans(a:av H H1)(b:av H1 H2):av H H2:=⟨λc o h n=>b.kp c o (a.kp c o h n) n,λc d h=>by obtain⟨g,e⟩:=a.tb c d h;obtain⟨f,i⟩:=b.tb c _ e;grind,λh=>b.ok (a.ok h)⟩
def av.ex(e:av H H'){o:HO}(h:H b=some o):∃a,H' b=some a:=by
 by_cases n:NT o;exact⟨o,e.kp b o h n⟩;cases o with
 |Xb a =>
  obtain⟨m,q⟩:=e.tb b a h
  simp_all
 |_=>exact absurd True.intro n
def av.free(e:av H H')(h:H' l=Option.none):H l=Option.none:=by
 cases q:H l with
 |none=>rfl
 |some o =>
  obtain⟨a,z⟩:=e.ex q
  lia
def av.seq{K:yac}{H H':Hp}{a:Addr}{xs:yaq}(e:av H H')(h:SqL K H a xs):SqL K H' a xs:=by
 rcases h with(h|⟨o,h⟩)|h;exact .inl (.inl (e _ _ h));exact .inl (.inr ⟨o,e _ _ h⟩);exact .inr h
theorem fW.upd{H:Hp}(n:NT o)(c:H p=none∨∃ u,H p=some u/\(∀a,u ≠ .ext a)/\NT u)(h:fW H):fW (upd H p o):=by
 intro P a e;have b:P≠p:=λz=>by subst z;rw[aP]at e;cases e;exact n
 rw[aC b]at e;obtain⟨f,d⟩:=h P a e;grind [aC]
structure ig(K:yac)(H:Hp):Prop where
 ok:fW H
 at':∀P,tabOf K=some P->∃ps,H P=some (.Xb ps)
def ig.same{K:yac}{H H':Hp}(h:ig K H)(e:av H H'):ig K H':=⟨e.ok h.ok,λP q=>by obtain⟨a,z⟩:=h.at' P q;obtain⟨m,z⟩:=e.tb P a z;grind⟩
theorem ig.upd{K:yac}{H:Hp}{p:Addr}{o:HO}(h:ig K H)(n:NT o)(a:H p=none∨∃ u,H p=some u/\(∀b,u ≠ .ext b)/\NT u):ig K (upd H p o):=⟨fW.upd n a h.ok,λP q=>by
 obtain⟨b,z⟩:=h.at' P q;refine⟨b,?_⟩;rw[aC λe=>?_];exact z;subst e;rcases a with a|⟨u,a,_,b⟩
 lia
 rw[a]at z;cases z;exact b⟩
inductive D where
 |RZ|bl (b:Bool)|int (i:Int)|str (x:Str)|tup (ds:List D)|lst (t:Bool) (ds:List D)|exc (c:Addr)|obj (C:Addr) (ns:yah) (ds:List D)|Ws|V1 (ks:yaf) (ds:List D)
abbrev yar:=List D
def Zq:HO->Prop
 |.ext _=>True|.ins _ _ _=>True|.frz _ (.dK _)=>True|_=>False
def Zq.nt(h:Zq o):NT o:=by cases o<;>first|exact True.intro|exact h.elim
def UH(K:yac)(H:Hp)(t:Bool)(a:Addr)(b:yaq):Prop:=SqL K H a b/\(t=true->H a=some (.lst b)/\K.lookup a=none)
def UH.same{K:yac}{H H':Hp}{t:Bool}{a:Addr}{b:yaq}(e:av H H')(q:UH K H t a b):UH K H' t a b:=⟨e.seq q.1,λz=>⟨e _ _ (q.2 z).1,(q.2 z).2⟩⟩
def UH.any{K:yac}{H:Hp}{a:Addr}{b:yaq}(q:SqL K H a b):UH K H false a b:=⟨q,by lia⟩
def UH.new{K:yac}{H:Hp}(q:H a=some (.lst vs))(k:K.lookup a=none):UH K H t a vs:=⟨SqL.of q,by lia⟩
def SJ(_:yac)(H:Hp)(a:Addr)(xs:yaq):Prop:=H a=some (.tup xs)
def SJ.w{K:yac}{H:Hp}{a:Addr}{xs:yaq}(h:SJ K H a xs):L2.SJ K H a xs:=.inl (.inl h)
def SJ.of{K:yac}{H:Hp}{a:Addr}{xs:yaq}(h:H a=some (.tup xs)):SJ K H a xs:=h
mutual
def Den(K:yac)(P:yak)(H:Hp):D->V->Prop
 |.RZ,v=>v=.RZ
 |.bl b,v=>v=.bl b
 |.int i,v=>v=.int i
 |.str x,v=>v=.str x
 |.tup d,v=>∃a b,v=.ref a/\SJ K H a b/\ah K P H d b
 |.lst t d,v=>∃a b,v=.ref a/\¬P t a/\UH K H t a b/\ah K P H d b
 |.exc c,v=>∃e,v=.ref e/\H e=some (.ext (ExcAt e c))/\d6 K c
 |.Ws,v=>∃a,v=.ref a/\H a=some (.ext (PySem.W.KitAt a "dict"))
 |.obj C c d,v=>∃a e b,v=.ref a/\H a=some (.ins C e (c.zip b))/\b.length=c.length/\DK K C/\ah K P H d b
 |.V1 c d,v=>∃a o e b,v=.ref a/\H a=some (.frz o (.dK e))/\e=(c.map Sum.inl).zip b/\b.length=c.length/\ah K P H d b
def ah(K:yac)(P:yak)(H:Hp):yar->yaq->Prop
 |[],a=>a=[]
 |d::b,a=>∃v r,a=v::r/\Den K P H d v/\ah K P H b r
end
section
variable{K:yac}{P P':yak}{H H':Hp}
mutual
theorem Den.map(i:∀a b,SJ K H a b->SJ K H' a b)(g:∀t a b,¬P t a->UH K H t a b->¬P' t a/\UH K H' t a b)(f:∀a o,Zq o->H a=some o->H' a=some o):∀(d:D) (v:V),Den K P H d v->Den K P' H' d v
 |.RZ,_,h=>by simpa only[Den]using h
 |.bl _,_,h=>by simpa only[Den]using h
 |.int _,_,h=>by simpa only[Den]using h
 |.str _,_,h=>by simpa only[Den]using h
 |.tup d,_,h=>by simp only[Den]at h ⊢;obtain⟨a,b,e,q,r⟩:=h;exact⟨a,b,e,i a b q,ah.map i g f d b r⟩
 |.lst t d,_,h=>by simp only[Den]at h ⊢;obtain⟨a,b,e,p,q,r⟩:=h;exact⟨a,b,e,(g t a b p q).1,(g t a b p q).2,ah.map i g f d b r⟩
 |.exc c,_,h=>by simp only[Den]at h ⊢;obtain⟨a,e,q,k⟩:=h;exact⟨a,e,f a _ True.intro q,k⟩
 |.obj C j d,_,h=>by simp only[Den]at h ⊢;obtain⟨a,c,b,e,q,l,k,r⟩:=h;exact⟨a,c,b,e,f a _ True.intro q,l,k,ah.map i g f d b r⟩
 |.Ws,_,h=>by simp only[Den]at h ⊢;obtain⟨a,e,q⟩:=h;exact⟨a,e,f a _ True.intro q⟩
 |.V1 m d,_,h=>by simp only[Den]at h ⊢;obtain⟨a,o,c,b,e,q,l,k,r⟩:=h;exact⟨a,o,c,b,e,f a _ True.intro q,l,k,ah.map i g f d b r⟩
theorem ah.map(g:∀a b,SJ K H a b->SJ K H' a b)(i:∀t a b,¬P t a->UH K H t a b->¬P' t a/\UH K H' t a b)(f:∀a o,Zq o->H a=some o->H' a=some o):∀(c:yar) (b:yaq),ah K P H c b->ah K P' H' c b
 |[],_,h=>by simpa only[ah]using h
 |d::c,_,h=>by simp only[ah]at h ⊢;obtain⟨v,r,e,b,a⟩:=h;exact⟨v,r,e,Den.map g i f d v b,ah.map g i f c r a⟩
end
end
def SJ.same{K:yac}{H H':Hp}{a:Addr}{xs:yaq}(e:av H H')(h:SJ K H a xs):SJ K H' a xs:=e _ _ h
section
variable{K:yac}{P:yak}{H H':Hp}
theorem Den.same(e:av H H')(h:Den K P H d v):Den K P H' d v:=Den.map (λ_ _ q=>SJ.same e q) (λ_ _ _ p q=>⟨p,q.same e⟩) (λa _ n q=>e.kp a _ q n.nt) d v h
theorem ah.same(e:av H H')(h:ah K P H ds vs):ah K P H' ds vs:=ah.map (λ_ _ q=>SJ.same e q) (λ_ _ _ p q=>⟨p,q.same e⟩) (λa _ n q=>e.kp a _ q n.nt) ds vs h
def Den.R9{b:yak}(e:∀t a,b t a->P t a)(h:Den K P H d v):Den K b H d v:=Den.map (λ_ _ q=>q) (by grind) (by lia) d v h
def ah.R9{b:yak}(e:∀t a,b t a->P t a)(h:ah K P H ds vs):ah K b H ds vs:=ah.map (λ_ _ q=>q) (by grind) (by lia) ds vs h
theorem ah.len:∀{a:yar} {b:yaq},ah K P H a b->b.length=a.length
 |[],_,h=>by simp only[ah]at h;simp_all
 |d::a,_,h=>by obtain⟨v,r,rfl,_,a⟩:=h;simp[ah.len a]
theorem ah.get:∀{a:yar} {b:yaq} {i:Nat} {d:D},ah K P H a b->a[i]?=some d->∃v,b[i]?=some v/\Den K P H d v
 |[],_,_,_,_,e=>by simp at e
 |d::a,_,0,_,h,e=>by simp only[ah]at h;grind
 |d::a,_,i+1,x,h,e=>by
  obtain⟨v,r,rfl,_,a⟩:=h;obtain⟨u,f,c⟩:=ah.get (i:=i) (d:=x) a (by simp_all)
  simp_all
theorem ah.bI:∀{a:yar} {b:yaq} {i:Nat} {v:V},ah K P H a b->b[i]?=some v->∃d,a[i]?=some d/\Den K P H d v
 |[],_,_,_,h,e=>by simp only[ah]at h;simp_all
 |d::a,_,0,_,h,e=>by simp only[ah]at h;grind
 |d::a,_,i+1,x,h,e=>by
  obtain⟨v,r,rfl,_,a⟩:=h;obtain⟨u,f,c⟩:=ah.bI (i:=i) (v:=x) a (by simp_all)
  simp_all
theorem ah.append:∀{a es:yar} {b c:yaq},ah K P H a b->ah K P H es c->ah K P H (a++es) (b++c)
 |[],_,_,_,h,b=>by simp only[ah]at h;simp_all
 |d::a,_,_,_,h,b=>by obtain⟨v,r,rfl,c,a⟩:=h;exact⟨v,_,rfl,c,ah.append a b⟩
def ah.one(h:Den K P H d v):ah K P H [d] [v]:=by
 simp only[ah]
 simp_all
def ah.nil:ah K P H [] []:=by simp only[ah]
def ah.cons(h:Den K P H d v)(h':ah K P H ds vs):ah K P H (d::ds) (v::vs):=by exact⟨v,vs,rfl,h,h'⟩
def Den.SK(h:Den K P H (.int i) v):v=.int i:=by simpa only[Den]using h
def Den.Zr(h:Den K P H (.bl b) v):v=.bl b:=by simpa only[Den]using h
def Den.Zs(h:Den K P H .RZ v):v=.RZ:=by simpa only[Den]using h
def Den.str_(h:Den K P H (.str x) v):v=.str x:=by simpa only[Den]using h
theorem Den.int(i:Int):Den K P H (.int i) (.int i):=by simp only[Den]
theorem Den.bl(b:Bool):Den K P H (.bl b) (.bl b):=by simp only[Den]
theorem Den.RZ:Den K P H .RZ .RZ:=by simp only[Den]
theorem Den.str(x:Str):Den K P H (.str x) (.str x):=by simp only[Den]
def Den.UW(h:Den K P H (.tup ds) v):∃a b,v=.ref a/\SJ K H a b/\ah K P H ds b:=by simpa only[Den]using h
def Den.WE(h:Den K P H (.lst t ds) v):∃a b,v=.ref a/\¬P t a/\UH K H t a b/\ah K P H ds b:=by simpa only[Den]using h
def Den.UI(h:Den K P H (.lst t ds) v):∃a b,v=.ref a/\¬P t a/\SqL K H a b/\ah K P H ds b:=by obtain⟨a,b,f,e,d,c⟩:=h.WE;exact⟨a,b,f,e,d.1,c⟩
def Den.dic_ (h:Den K P H .Ws v):∃a,v=.ref a/\H a=some (.ext (PySem.W.KitAt a "dict")):=by simpa only[Den]using h
def Den.obj_(h:Den K P H (.obj C ns ds) v):∃a c b,v=.ref a/\H a=some (.ins C c (ns.zip b))/\b.length=ns.length/\DK K C/\ah K P H ds b:=by simpa only[Den]using h
def Den.dik_(h:Den K P H (.V1 ks ds) v):∃a o c b,v=.ref a/\H a=some (.frz o (.dK c))/\c=(ks.map Sum.inl).zip b/\b.length=ks.length/\ah K P H ds b:=by simpa only[Den]using h
def Den.exc_(h:Den K P H (.exc c) v):∃e,v=.ref e/\H e=some (.ext (ExcAt e c))/\d6 K c:=by simpa only[Den]using h
theorem Den.exc(h:H e=some (.ext (ExcAt e c)))(k:d6 K c):Den K P H (.exc c) (.ref e):=by simp only[Den];simp_all
theorem Den.tup(h:SJ K H a vs)(h':ah K P H ds vs):Den K P H (.tup ds) (.ref a):=by exact⟨a,vs,rfl,h,h'⟩
theorem Den.lst(p:¬P t a)(h:UH K H t a vs)(h':ah K P H ds vs):Den K P H (.lst t ds) (.ref a):=by exact⟨a,vs,rfl,p,h,h'⟩
end
inductive LI where
 |own (ds:yar)|val (d:D)
inductive OS where
 |lst (ds:yar)|dk (kvs:List (Key×D))|dt (kvs:List (List Key×D))|ll (xs:List LI)
inductive Sl where
 |val (d:D)
 |ob (x:OS)
abbrev Sl.own(ds:yar):Sl:=.ob (.lst ds)
def bg(K:yac)(P:yak)(H:Hp)(B:yaj):Nat->List LI->yaq->Prop
 |_,[],a=>a=[]
 |k,.own d::r,a=>∃b c u,a=.ref b::u/\B k=some b/\H b=some (.lst c)/\ah K P H d c/\bg K P H B (k+1) r u
 |k,.val d::r,a=>∃v u,a=v::u/\Den K P H d v/\bg K P H B (k+1) r u
theorem bg.map{K:yac}{P e:yak}{H H':Hp}{B B':yaj}(f:∀d c,ah K P H d c->ah K e H' d c)(g:∀k b,B k=some b->B' k=some b/\∀a,H b=some (.lst a)->H' b=some (.lst a)):∀{k:Nat} {xs:List LI} {c:yaq},bg K P H B k xs c->bg K e H' B' k xs c
 |_,[],_,h=>by simpa only[bg]using h
 |k,.own d::r,_,h=>by obtain⟨b,a,u,e,c,l,j,i⟩:=h;exact⟨b,a,u,e,(g k b c).1,(g k b c).2 a l,f d a j,bg.map f g i⟩
 |k,.val d::r,_,h=>by obtain⟨v,u,e,c,l⟩:=h;have j:=f [d] [v] (ah.one c);obtain⟨m,n,a,i,_⟩:=j;cases a;exact⟨v,u,e,i,bg.map f g l⟩
theorem bg.len{K:yac}{P:yak}{H:Hp}{B:yaj}:∀{k:Nat} {xs:List LI} {a:yaq},bg K P H B k xs a->a.length=xs.length
 |_,[],_,h=>by simp only[bg]at h;simp_all
 |k,.own e::r,_,h=>by obtain⟨b,c,u,rfl,_,_,_,a⟩:=h;simp[bg.len a]
 |k,.val d::r,_,h=>by obtain⟨v,u,rfl,_,a⟩:=h;simp[bg.len a]
inductive cZ (K:yac) (P:yak) (H:Hp) (B:yaj):OS->HO->Prop where
 |lst {ds:yar} {vs:yaq} (h:ah K P H ds vs):cZ K P H B (.lst ds) (.lst vs)
 |ll {xs:List LI} {vs:yaq} (h:bg K P H B 0 xs vs):cZ K P H B (.ll xs) (.lst vs)
 |dk {kvs:List (Key×D)} {SE:List (Key×V)} (e:SE.map (·.1)=kvs.map (·.1)) (h:ah K P H (kvs.map (·.2)) (SE.map (·.2))):cZ K P H B (.dk kvs) (.dK SE)
 |dt {kvs:List (List Key×D)} {SE:List (List Key×V)} (e:SE.map (·.1)=kvs.map (·.1)) (h:ah K P H (kvs.map (·.2)) (SE.map (·.2))):cZ K P H B (.dt kvs) (.dT SE)
def ky:HO->Prop
 |.lst _=>True|.dK _=>True|.dT _=>True|_=>False
def ky.nt(h:ky o):NT o:=by cases o<;>first|exact True.intro|exact h.elim
def ky.sol(h:ky o):¬Zq o:=by cases o<;>first|exact h.elim|exact λz=>z
def ky.ne(h:ky o):∀a,o ≠ .ext a:=λ_ e=>by subst e;exact h
section
variable{K:yac}{P P':yak}{H H':Hp}{B B':yaj}{x:OS}{o:HO}
theorem cZ.map(k:∀d a,ah K P H d a->ah K P' H' d a)(e:∀k b,B k=some b->B' k=some b/\∀c,H b=some (.lst c)->H' b=some (.lst c))(h:cZ K P H B x o):cZ K P' H' B' x o:=by
 cases h with
 |lst h=>exact .lst (k _ _ h)
 |ll h=>exact .ll (h.map k e)
 |dk e h=>exact .dk e (k _ _ h)
 |dt e h=>exact .dt e (k _ _ h)
theorem cZ.same(e:av H H')(h:cZ K P H B x o):cZ K P H' B x o:=h.map (λ_ _ z=>z.same e) λ_ _ q=>⟨q,λ_ z=>e _ _ z⟩
theorem cZ.R9(e:∀t a,P' t a->P t a)(c:∀k b,B k=some b->B' k=some b)(h:cZ K P H B x o):cZ K P' H B' x o:=h.map (λ_ _ z=>z.R9 e) (by simp_all)
def cZ.YA(h:cZ K P H B x o):ky o:=by cases h<;>exact True.intro
def cZ.UI(h:cZ K P H B (.lst ds) o):∃a,o=.lst a/\ah K P H ds a:=by
 cases h with
 |lst h=>simp_all
end
abbrev Ro:=List (Option Sl)
structure Own where
 B:Addr->Prop
 O:yaj
 S:Addr->Prop
def Own.bad(W:Own)(t:Bool)(a:Addr):Prop:=W.B a∨(∃i,W.O i=some a)∨(t=true/\W.S a)
def Own.drop(W:Own)(i:Nat):Own:=⟨W.B,λj=>if j=i then none else W.O j,W.S⟩
def Own.put(W:Own)(i:Nat)(a:Addr):Own:=⟨W.B,λj=>if j=i then some a else W.O j,W.S⟩
def Own.Su{W:Own}(h:(W.drop i).bad t a):W.bad t a:=by
 rcases h with h|⟨j,h⟩| h;exact .inl h;have b:(if j=i then none else W.O j)=some a:=h;by_cases e:j=i
 lia
 rw[if_neg e]at b;exact .inr (.inl ⟨j,b⟩);exact .inr (.inr h)
def Own.XW{W:Own}(h:W.bad false a):W.bad t a:=by
 rcases h with h|h|⟨h,_⟩;exact .inl h;exact .inr (.inl h)
 lia
def vix(n i k:Nat):Nat:=n*(k+1)+i
theorem we{n j:Nat}(h:j<n):vix n i k≠j:=λe=>by
 unfold vix at e
 lia
abbrev Own.sub(W:Own)(n i:Nat)(k:Nat):Option Addr:=W.O (vix n i k)
def Own.V2{W:Own}{n i:Nat}(h:i<n)(k:Nat)(b:Addr)(e:W.sub n j k=some b):(W.drop i).sub n j k=some b:=by
 show(if vix n j k=i then none else W.O (vix n j k))=_
 simp_all [we]
structure Rel(X:Cx)(W:Own)(H:Hp)(σ:St)(ρ:Ro):Prop where
 val:∀(i:Nat) (d:D),ρ[i]?=some (some (Sl.val d))->∃v,σ[i]?=some (some v)/\Den X.K W.bad H d v
 own:∀(i:Nat) (x:OS),ρ[i]?=some (some (Sl.ob x))->∃a o,W.O i=some a/\σ[i]?=some (some (.ref a))/\H a=some o/\cZ X.K W.bad H (W.sub σ.length i) x o
 inj:∀i j a,W.O i=some a->W.O j=some a->i=j
 kn:∀i a,W.O i=some a->X.K.lookup a=none/\(¬W.B a/\¬W.S a)/\∃o,H a=some o/\ky o
 ke:∀i a,W.O i=some a->X.Sj a=none
 bt:∀a,W.B a->∃o,H a=some o
 st:∀a,W.S a->∃o,H a=some o
 ent:av X.Sj H
 tab:ig X.K H
theorem Rel.same(r:Rel X W H σ ρ)(e:av H H'):Rel X W H' σ ρ where
 val:=λi d h=>let ⟨v,h1,h2⟩:=r.val i d h;⟨v,h1,h2.same e⟩
 own:=λi b h=>let ⟨a,vs,h1,h2,h3,h4⟩:=r.own i b h;⟨a,vs,h1,h2,e.kp _ _ h3 h4.YA.nt,h4.same e⟩
 inj:=r.inj
 kn:=λi a h=>let ⟨h1,h2,o,h3,h4⟩:=r.kn i a h;⟨h1,h2,o,e.kp _ _ h3 h4.nt,h4⟩
 ke:=r.ke
 bt:=λa h=>let ⟨_,q⟩:=r.bt a h;e.ex q
 st:=λa h=>let ⟨_,q⟩:=r.st a h;e.ex q
 ent:=r.ent.trans e
 tab:=r.tab.same e
def Rel.Xq(r:Rel X W H σ ρ)(i:Nat)(c:yar)(h:ρ[i]?=some (some (Sl.own c))):∃a b,W.O i=some a/\σ[i]?=some (some (.ref a))/\H a=some (.lst b)/\ah X.K W.bad H c b:=by
 obtain⟨a,o,j,g,f,a⟩:=r.own i _ h;obtain⟨b,e,d⟩:=a.UI
 simp_all
def Rel.tracked(r:Rel X W H σ ρ)(t:Bool)(a:Addr)(h:W.bad t a):∃o,H a=some o:=by
 rcases h with h|⟨i,h⟩| ⟨_,h⟩;exact r.bt a h;obtain⟨_,_,o,q,_⟩:=r.kn i a h;grind;exact r.st a h
def Rel.fresh(r:Rel X W H σ ρ)(h:H p=none):¬W.bad t p:=λz=>by
 obtain⟨o,q⟩:=r.tracked t p z
 lia
structure Sm(W:Own)(H:Hp)(W':Own)(H':Hp):Prop where
 B:W'.B=W.B
 S:W'.S=W.S
 kp:∀b o,(∀i,W.O i≠some b)->H b=some o->NT o->H' b=some o
 new:∀i a,W'.O i=some a->(∃j,W.O j=some a)∨H a=none
 tb:∀b ps,H b=some (.Xb ps)->∃more,H' b=some (.Xb (ps++more))
 ok:fW H->fW H'
def Sm.keep(f:Sm W H W' H')(b:Addr)(o:HO)(h:∀i,W.O i≠some b)(q:H b=some o)(a:NT o:=by first|exact True.intro|assumption):H' b=some o:=f.kp b o h q a
def Sm.ex(f:Sm W H W' H'){b:Addr}{o:HO}(h:∀i,W.O i≠some b)(q:H b=some o):∃a,H' b=some a:=by
 by_cases n:NT o;exact⟨o,f.kp b o h q n⟩;cases o with
 |Xb a =>
  obtain⟨m,e⟩:=f.tb b a q
  simp_all
 |_=>exact absurd True.intro n
theorem Sm.refl(W:Own)(H:Hp):Sm W H W H:=⟨rfl,rfl,by lia,by grind,by simp_all,id⟩
theorem Sm.trans(a:Sm W H W1 H1)(b:Sm W1 H1 W2 H2):Sm W H W2 H2:=by
 refine⟨b.B.trans a.B,b.S.trans a.S,λx o n h t=>b.kp x o (λi z=>?_) (a.kp x o n h t) t,λi x h=>?_,λc d h=>?_,λh=>b.ok (a.ok h)⟩
 ·rcases a.new i x z with⟨j,q⟩| q
  all_goals grind
 rcases b.new i x h with⟨j,q⟩| q;exact a.new j x q;by_cases z:∃j,W.O j=some x
 simp_all
 refine .inr ?_;cases e:H x with
 |none=>rfl
 |some o =>
  obtain⟨f,this⟩:=a.ex (by simp_all) e
  lia
 obtain⟨k,e⟩:=a.tb c d h;obtain⟨g,l⟩:=b.tb c _ e;grind
def Sm.same(e:av H H'):Sm W H W H':=⟨rfl,rfl,λ_ _ _ h n=>e.kp _ _ h n,by grind,e.tb,e.ok⟩
def av.ins(e:av Sj H){o:HO}(h0:Sj a=none)(f:H a=some o)(c:ky o)(d:NT o'):av Sj (upd H a o') :=
 ⟨λb u h n=>by rw[aC (by lia)];exact e.kp b u h n,λb a h=>by rw[aC (by lia)];exact e.tb b a h,λh=>fW.upd d (.inr ⟨o,f,c.ne,c.nt⟩) (e.ok h)⟩
theorem Sm.upd{W:Own}{H:Hp}{a:Addr}{o:HO}(j:W.O i=some a)(d:H a=some o)(c:ky o)(f:NT o'):Sm W H W (upd H a o') :=
 ⟨rfl,rfl,by grind [aC],by grind,λb g h=>⟨#[],by rw[aC (λe=>by subst e;rw[d]at h;cases h;exact c),h];simp⟩,fW.upd f (.inr ⟨o,d,c.ne,c.nt⟩)⟩
structure jJ where
 nx:Ro->Prop
 rt:D->Prop
 bk:Ro->Prop:=λ_=>False
 ct:Ro->Prop:=λ_=>False
abbrev DE:=Ro->(D->Prop)->Prop
abbrev DT:=Ro->(Bool->Prop)->Prop
abbrev DA:=Ro->(yar->Prop)->Prop
abbrev DS:=jJ->Ro->Prop
inductive DP (X:Cx) (pins:yab) (σ:St) (W:Own) (H:Hp) (Q:D->Prop) (u:Value) (s':Shared):Prop
 |mk (v:V) (H':Hp) (d:D) (_:Inv X pins σ H' s') (_:RelV v u) (_:av H H') (_:Den X.K W.bad H' d v) (_:Q d)
inductive DTP (X:Cx) (pins:yab) (σ:St) (H:Hp) (Q:Bool->Prop) (b:Bool) (s':Shared):Prop
 |mk (H':Hp) (_:Inv X pins σ H' s') (_:av H H') (_:Q b)
inductive DAP (X:Cx) (pins:yab) (σ:St) (W:Own) (H:Hp) (Q:yar->Prop) (us:yad) (s':Shared):Prop
 |mk (vs:yaq) (H':Hp) (ds:yar) (_:Inv X pins σ H' s') (_:Vals vs us) (_:av H H') (_:ah X.K W.bad H' ds vs) (_:Q ds)
def SPf(X:Cx)(E:jJ)(b:Own)(c:St)(H':Hp)(f:Flow):Prop :=
 match f with
 |.next=>∃a,Rel X b H' c a/\E.nx a
 |.brk=>∃a,Rel X b H' c a/\E.bk a
 |.cont=>∃a,Rel X b H' c a/\E.ct a
 |.ret u=>∃v d,RelV v u/\Den X.K b.bad H' d v/\E.rt d
inductive Y1 (X:Cx) (pins:yab) (W:Own) (H:Hp) (E:jJ) (f:Flow) (s':Shared):Prop
 |mk (W':Own) (R5:St) (H':Hp) (_:Inv X pins R5 H' s') (_:Sm W H W' H') (_:SPf X E W' R5 H' f)
def RU(X:Cx)(e:Expr)(t:DE):Prop :=
 ∀ (a:yab) (s:Shared) (b:St) (H:Hp) (W:Own) (c:Ro) (Q:D->Prop),Inv X a b H s->Rel X W H b c->t c Q →
  wpAny (model X.prog X.w) X.A (eval e X.env) (DP X a b W H Q) X.xe s
def Xr(X:Cx)(e:Expr)(t:DT):Prop :=
 ∀ (a:yab) (s:Shared) (b:St) (H:Hp) (W:Own) (c:Ro) (Q:Bool->Prop),Inv X a b H s->Rel X W H b c->t c Q →
  wpAny (model X.prog X.w) X.A (isTrue e X.env (eval e X.env)) (DTP X a b H Q) X.xe s
def Vm(X:Cx)(e:Expr)(t:DT):Prop :=
 ∀ (b:Sem Value) (a:yab) (s:Shared) (c:St) (H:Hp) (W:Own) (d:Ro) (Q:Bool->Prop),Inv X a c H s->Rel X W H c d->t d Q →
  wpAny (model X.prog X.w) X.A (isTrue e X.env b) (DTP X a c H Q) X.xe s
def Vm.pt(h:Vm X e t):Xr X e t:=h _
def Wt(X:Cx)(es:yai)(t:DA):Prop :=
 ∀ (c:Pos) (a:yab) (s:Shared) (b:St) (H:Hp) (W:Own) (d:Ro) (Q:yar->Prop),Inv X a b H s->Rel X W H b d->t d Q →
  wpAny (model X.prog X.w) X.A (spliced (backTo c (starEach es X.env))) (DAP X a b W H Q) X.xe s
def UQ(X:Cx)(st:Stmt)(t:DS):Prop :=
 ∀ (a:yab) (s:Shared) (b:St) (H:Hp) (W:Own) (c:Ro) (E:jJ),Inv X a b H s->Rel X W H b c->t E c →
  wpAny (model X.prog X.w) X.A (exec st X.env) (Y1 X a W H E) X.xe s
def cT(X:Cx)(st:yal)(t:DS):Prop :=
 ∀ (a:yab) (s:Shared) (b:St) (H:Hp) (W:Own) (c:Ro) (E:jJ),Inv X a b H s->Rel X W H b c->t E c →
  wpAny (model X.prog X.w) X.A (execs st X.env) (Y1 X a W H E) X.xe s
def Ek(X:Cx)(t:DE):TE:=λc H Q=>∃W a b,Rel X W H c a/\t a b/\∀v a d,av H a->Den X.K W.bad a d v->b d->Q v a
def Qj(X:Cx)(t:DS):TS:=λD b H=>∃W a f,Rel X W H b a/\t f a ∧
 (∀b e a c,Sm W H b a->Rel X b a e c->f.nx c->D.nx e a) ∧
 (∀b a v d,Sm W H b a->Den X.K b.bad a d v->f.rt d->D.rt v a) ∧
 (∀b e a c,Sm W H b a->Rel X b a e c->f.bk c->D.bk e a) ∧
 (∀b e a c,Sm W H b a->Rel X b a e c->f.ct c->D.ct e a)
section
variable{X:Cx}
def RU.pe(h:RU X e t):PE X e (Ek X t):=by intro a s b H Q I q;obtain⟨W,c,e,r,d,k⟩:=q;exact Rw (h a s b H W c e I r d) λu i g=>(by obtain⟨v,a,d,h,b,f,e,c⟩:=g;exact⟨v,a,h,b,k v a d f e c⟩)
def cT.ps{st:yal}{t:DS}(h:cT X st t):PSs X st (Qj X t):=by
 intro a s b H D I q;obtain⟨W,c,e,r,d,m,l,k,j⟩:=q;refine Rw (h a s b H W c e I r d) λf n b=>?_
 obtain⟨h,c,a,i,g,q⟩:=b;cases f with
 |next=>obtain⟨e,d,b⟩:=q;exact⟨c,a,i,m h c a e g d b⟩
 |brk=>obtain⟨e,d,b⟩:=q;exact⟨c,a,i,k h c a e g d b⟩
 |cont=>obtain⟨e,d,b⟩:=q;exact⟨c,a,i,j h c a e g d b⟩
 |ret u=>obtain⟨v,d,e,f,b⟩:=q;exact⟨v,c,a,i,e,l h a v d g f b⟩
def RU.of{t:DE}(h:PE X e te)(k:∀a H W ρ Q,Rel X W H a ρ->t ρ Q->te a H λv H'=>av H H'/\∃d,Den X.K W.bad H' d v/\Q d):RU X e t:=by intro b s a H W ρ Q I r c;exact Rw (h b s a H _ I (k a H W ρ Q r c)) λu g e=>(by obtain⟨v,H',f,a,c,d,b,q⟩:=e;exact⟨v,H',d,f,a,c,b,q⟩)
end
section
variable{X:Cx}{a b c:Expr}{ta tb:DE}{pos:Pos}
def de(i:Nat):DE:=λd Q=>match d[i]? with
 |some (some (.val d))=>Q d
 |_=>False
set_option tactic.hygienic true in
def Ls(h:de i ρ Q):∃d,ρ[i]?=some (some (.val d))/\Q d:=by
 unfold de at h;split at h
 all_goals simp_all
def dC(d:D):DE:=λ_ Q=>Q d
def dv (i:Nat) {x:Str} {pos:Pos} (e:X.N[i]?=some x:=by rfl) (hv:Yh X.env.scope x:=by first|exact Or.inl rfl|exact Or.inr (Or.inl rfl)|exact Or.inr (Or.inr rfl)) (d:(x==("__debug__" : Str))=false:=by decide)
  (f:(x==("__classdict__" : Str))=false:=by decide):RU X (.Name x pos) (de i) :=
 RU.of (fT e hv d f) λh H W j Q r f=>by obtain⟨d,e,q⟩:=Ls f;obtain⟨v,g,f⟩:=r.val i d e;exact⟨v,g,av.refl H,d,f,q⟩
def ae{i j pos}:RU X (.Constant (.int i) j pos) (dC (.int i)):=RU.of AV λ_ H _ _ _ _ q=>⟨av.refl H,_,Den.int i,q⟩
def cU{i j pos}:RU X (.Constant (.bool i) j pos) (dC (.bl i)):=RU.of Qr λ_ H _ _ _ _ q=>⟨av.refl H,_,Den.bl i,q⟩
def fQ{j pos}:RU X (.Constant .none j pos) (dC .RZ):=RU.of O9 λ_ H _ _ _ _ q=>⟨av.refl H,_,Den.RZ,q⟩
def FY{x j pos}:RU X (.Constant (.str x) j pos) (dC (.str x)):=RU.of Pa λ_ H _ _ _ _ q=>⟨av.refl H,_,Den.str x,q⟩
abbrev RD2:=D->D->(D->Prop)->Prop
def Tz(X:Cx)(f:Value->Value->Sem Value)(r:RD2):Prop :=
 ∀ (d:yab) (s:Shared) (e:St) (H:Hp) (W:Own) (x y:D) (v u:V) (g h:Value) (Q:D->Prop),Inv X d e H s->(∀t a,W.bad t a->∃o,H a=some o)->RelV v g->RelV u h->Den X.K W.bad H x v->Den X.K W.bad H y u->r x y Q →
  wpAny (model X.prog X.w) X.A (f g h) (DP X d e W H Q) X.xe s
def WN(r:RD2)(ta tb:DE):DE:=λd Q=>ta d λx=>tb d λy=>r x y Q
def DW(m:RU X a ta)(q:RU X b tb){d:yab}{s:Shared}{g:St}{H:Hp}{W:Own}{ρ:Ro}{R:D->D->Prop}(I:Inv X d g H s)(r:Rel X W H g ρ)(h:ta ρ λx=>tb ρ λy=>R x y)
  {l:Type} {Q:l->Shared->Prop} {f:Value->Value->Sem l}
  (p:∀i j k v u x y e,Inv X d g e k->av H e->RelV v i->RelV u j->Den X.K W.bad e x v->Den X.K W.bad e y u->R x y->wpAny (model X.prog X.w) X.A (f i j) Q X.xe k) :
  wpAny (model X.prog X.w) X.A (eval a X.env) (λv o=>wpAny (model X.prog X.w) X.A (eval b X.env) (λu n=>wpAny (model X.prog X.w) X.A (f v u) Q X.xe n) X.xe o) X.xe s:=by
 refine Rw (m d s g H W ρ _ I r h) λi l f=>?_
 obtain⟨v,t,x,s,m,h,o,n⟩:=f;refine Rw (q d l g t W ρ _ s (r.same h) n) λj k f=>?_
 obtain⟨u,e,y,q,g,d,n,l⟩:=f;exact p i j k v u x y e q (h.trans d) m g (o.same d) n l
def DP.up(e:av H H1)(h:DP X pins σ W H1 Q u s'):DP X pins σ W H Q u s':=by obtain⟨v,i,d,I,r,g,f,q⟩:=h;exact⟨v,i,d,I,r,e.trans g,f,q⟩
def au{d:Operator}{r:RD2}(o:Tz X (binaryOp d) r)(i:RU X a ta)(e:RU X b tb):RU X (.BinOp a d b pos) (WN r ta tb):=by intro d s g H W t Q I f h;refine wpAny_BinOp (DW i e I f h λh i j v u x y r p e k l n m q=>?_);exact Rw (o d j g r W x y v u h i Q p (f.same e).tracked k l n m q) λ_ _ z=>z.up e
def P8{rd:D->(D->Prop)->Prop}(n:UnR X (unaryOp op) r)(i:RU X a ta)
  (k:∀P H d v Q,Den X.K P H d v->rd d Q->r v H λe H'=>av H H'/\∃d',Den X.K P H' d' e/\Q d'):RU X (.UnaryOp op a pos) (λρ Q=>ta ρ λx=>rd x Q):=by
 intro e s f H W ρ Q I g h;refine UnaryOp_ (Rw (i e s f H W ρ _ I g h) λh i p=>?_);obtain⟨v,g,x,q,j,o,m,l⟩:=p;exact Rw (n e i f g v h _ q j (k _ g x v Q m l)) λu t j=>(by obtain⟨e,l,k,f,i,d,h,g⟩:=j;exact⟨e,l,d,k,f,o.trans i,h,g⟩)
def lU:Option (Option Sl)->(yar->Prop)->Prop
 |some (some (.ob (.lst d))),R=>R d
 |_,_=>False
def mR(h:lU x R):∃d,x=some (some (.own d))/\R d:=by
 unfold lU at h;split at h;exact⟨_,rfl,h⟩
 simp_all
theorem O6(d:yar)(r:Ro)(R:yar->Prop):lU (some (Sl.own d)::r)[0]? R=R d:=rfl
theorem O7(n:Nat)(x:Option Sl)(r:Ro)(R:yar->Prop):lU (x::r)[n+1]? R=lU r[n]? R:=rfl
def blQ:D->(Bool->Prop)->Prop
 |.bl k,Q=>Q k
 |_,_=>False
def pQ(h:blQ x Q):∃k,x=.bl k/\Q k:=by
 cases x<;>first|exact False.elim h|exact⟨_,rfl,h⟩
theorem jL(k:Bool)(Q:Bool->Prop):blQ (.bl k) Q=Q k:=rfl
def zW(ta:DE):DE:=λd Q=>ta d λx=>∃i,x=.int i/\Q (.int (-i))
def bE(d:RU X a ta):RU X (.UnaryOp .USub a pos) (zW ta) :=
 P8 (rd:=λx Q=>∃i,x=.int i/\Q (.int (-i))) PJ d λP H d v Q d ⟨i,e,q⟩=>by subst e;exact⟨i,d.SK,av.refl H,_,Den.int _,q⟩
def Tz.of{rd:RD2}(h:Wo X f r)(k:∀P H x y v u Q,Den X.K P H x v->Den X.K P H y u->rd x y Q->r v u H λd H'=>av H H'/\∃d',Den X.K P H' d' d/\Q d'):Tz X f rd:=by intro d s e H W x y v u f g Q I _ i j m l q;exact Rw (h d s e H v u f g _ I i j (k _ H x y v u Q m l q)) λ_ n j=>(by obtain⟨e,l,k,f,i,d,h,g⟩:=j;exact⟨e,l,d,k,f,i,h,g⟩)
def rdI(C:Int->Int->Prop)(g:Int->Int->D):RD2:=λx y Q=>match x,y with
 |.int i,.int j=>C i j/\Q (g i j)
 |_,_=>False
def fG(g:Int->Int->D):RD2:=λx y Q=>match x,y with
 |.int i,.int j=>Q (g i j)
 |_,_=>False
def Pj(h:rdI C g x y Q):∃i j,x=.int i/\y=.int j/\C i j/\Q (g i j):=by
 unfold rdI at h;split at h
 all_goals simp_all
def rL(h:fG g x y Q):∃i j,x=.int i/\y=.int j/\Q (g i j):=by
 unfold fG at h;split at h
 all_goals simp_all
def Tz.ofI{g:Int->Int->Int}(h:Wo X f (rI C λi j=>.int (g i j))):Tz X f (rdI C λi j=>.int (g i j)) :=
 Tz.of h λP H x y v u Q e d z=>by obtain⟨i,j,h,g,f,q⟩:=Pj z;subst h g;exact⟨i,j,e.SK,d.SK,f,av.refl H,_,Den.int _,q⟩
def Tz.ofI0{g:Int->Int->Int}(h:Wo X f (Z9 λi j=>.int (g i j))):Tz X f (fG λi j=>.int (g i j)) :=
 Tz.of h λP H x y v u Q e d z=>by obtain⟨i,j,g,f,q⟩:=rL z;subst g f;exact⟨i,j,e.SK,d.SK,av.refl H,_,Den.int _,q⟩
def Tz.ofB0{g:Int->Int->Bool}(h:Wo X f (Z9 λi j=>.bl (g i j))):Tz X f (fG λi j=>.bl (g i j)) :=
 Tz.of h λP H x y v u Q e d z=>by obtain⟨i,j,g,f,q⟩:=rL z;subst g f;exact⟨i,j,e.SK,d.SK,av.refl H,_,Den.bl _,q⟩
def OW:Tz X (binaryOp .Add) (fG λi j=>.int (i+j)):=Tz.ofI0 O2
def aW:Tz X (binaryOp .Sub) (fG λi j=>.int (i - j)):=Tz.ofI0 O5
def b6:Tz X (compareOp .Lt) (fG λi j=>.bl (decide (i<j))):=Tz.ofB0 Qp
def Et:Tz X (compareOp .LtE) (fG λi j=>.bl (decide (i<=j))):=Tz.ofB0 Qo
def jQ:Tz X (compareOp .Gt) (fG λi j=>.bl (decide (j<i))):=Tz.ofB0 Qn
def Es:Tz X (compareOp .GtE) (fG λi j=>.bl (decide (j<=i))):=Tz.ofB0 Qm
def Bd(n:Nat)(x:Int):Prop:=x.natAbs<2 ^ n
def Bd.mono{n:Nat}(h:Bd m x)(l:m<=n):Bd n x:=Tt h (zDN (by decide) l)
def Bd.mul(h:Bd m x)(h':Bd n y):Bd (m+n) (x*y):=by
 unfold Bd at *
 simp_all [zCN,Nat.pow_add,Nat.mul_lt_mul'']
def Bd.add(h:Bd m x)(h':Bd m y):Bd (m+1) (x+y):=by unfold Bd at *;grind [Nat.pow_succ,Int.natAbs_add_le]
def Bd.sub(h:Bd m x)(h':Bd m y):Bd (m+1) (x - y):=by unfold Bd at *;grind [Nat.pow_succ,Int.natAbs_sub_le]
def Bd.neg(h:Bd m x):Bd m (-x):=by
 unfold Bd at *
 simp_all
def Bd.bits(h:Bd n x):Builtin.Int.intBits x<=n:=by
 unfold Builtin.Int.intBits;split
 lia
 have d:x.natAbs≠0:=by simp_all
 have:=(Nat.log2_lt d).mpr h
 lia
def CM(i j:Int):Prop:=Bd 64 i∨Bd 64 j∨(Bd 100000 i/\Bd 100000 j)
def CM.ok(h:CM i j):IntMulOk i j:=by
 rcases h with h|h|⟨h,d⟩;exact .of_left h.bits;exact .of_right h.bits;exact .of_bits (Sd h.bits (by decide)) (Sd d.bits (by decide))
def MA:Wo X (binaryOp .Mult) (rI CM λi j=>.int (i*j)):=opI λ_ _ _ _ _ _ _ d q=>mul_int q d.ok
def aE:Tz X (binaryOp .Mult) (rdI CM λi j=>.int (i*j)):=Tz.ofI MA
def CD(_:Int)(j:Int):Prop:=j≠0/\Bd 8000 j
def CD.noPy(h:CD i j):Builtin.divisionGoesByPylong i j=false:=by
 refine PyProof.noPylong_of_log2 ?_;have d:j.natAbs≠0:=λe=>h.1 (by simp_all)
 have:=(Nat.log2_lt d).mpr h.2
 lia
def JL:Wo X (binaryOp .FloorDiv) (rI CD λi j=>.int (i.fdiv j)):=opI λ_ _ _ _ _ _ _ d q=>floordiv_int d.1 q (.inl d.noPy)
def dm:Tz X (binaryOp .FloorDiv) (rdI CD λi j=>.int (i.fdiv j)):=Tz.ofI JL
def bM:Tz X (binaryOp .Mod) (rdI (λ_ j=>j≠0) λi j=>.int (i.fmod j)):=Tz.ofI Mz
def vg:Tz X (binaryOp .Pow) (rdI Ic λi j=>.int (i ^ j.toNat)):=Tz.ofI O4
def dB(t:DE):DT:=λd Q=>t d λx=>blQ x Q
def bT{d:CmpOp}{r:RD2}(o:Tz X (compareOp d) r)(i:RU X a ta)(e:RU X b tb)(p:behindInMarks d b=false:=by first|exact AL _ (by decide) (by decide)|rfl):RU X (.Compare a [d] [b] pos) (WN r ta tb):=by intro d s g H W t Q I f h;refine wpAny_Compare1 (DW i e I f h λh i j v u x y s r e k l n m q=>?_) p;exact Rw (o d j g s W x y v u h i Q r (f.same e).tracked k l n m q) λ_ _ z=>z.up e
def aD(G:Tz X (compareOp op) r)(N:RU X a ta)(M:RU X b tb)(J:behindInMarks op b=false:=by first|exact AL _ (by decide) (by decide)|rfl):Xr X (.Compare a [op] [b] pos) (dB (WN r ta tb)):=by
 intro e s f H W m Q I g h;refine wpAny_isTrue_Compare1 (Rw (N e s f H W m _ I g h) λk p ⟨v,H1,x,Y,q,l,E,B⟩=>Rw (M e p f H1 W m _ Y (g.same l) B) λn o ⟨u,H2,y,U,t,j,C,A⟩=>
  Rw (G e o f H2 W x y v u k n _ U ((g.same l).same j).tracked q t (E.same j) C A) λc s3 ⟨z,H3,d,T,w,O,L,i⟩=>?_) J
 obtain⟨k,n,i⟩:=pQ i;subst n;have d:=L.Zr;subst d;cases w;exact zCt ⟨H3,T,l.trans (j.trans O),i⟩
def bH(h:RU X e t)(j:∀d,isTrue e X.env d=(do let v←d;standAt e.pos;holding [v] (truthy v)):=by intro _;rfl):Xr X e (dB t):=by intro d s e H W f Q I g i;refine isTrue_plain (Rw (h d s e H W f _ I g i) λl m e=>?_) (j _);obtain⟨v,i,x,h,d,g,f,q⟩:=e;obtain⟨k,e,q⟩:=pQ q;subst e;have e:=f.Zr;subst e;cases d;exact zCt ⟨i,h,g,q⟩
variable{tA tB':DT}{rest:yai}
def NM(t u:DT):DT:=λd Q=>t d λc=>if c=true then u d Q else Q false
def dOr(t u:DT):DT:=λd Q=>t d λc=>if c=true then Q true else u d Q
def NR(t:DT):DT:=λd Q=>t d λc=>Q (!c)
def mF(i:Xr X a tA):Vm X (.BoolOp .And [a] pos) tA:=by intro j d s e H W f Q I g h;refine isTrue_and (Rw (i d s e H W f Q I g h) λc k e=>?_);grind [isTrue_and_nil]
def cO(i:Xr X a tA):Vm X (.BoolOp .Or [a] pos) tA:=by intro j d s e H W f Q I g h;refine isTrue_or (Rw (i d s e H W f Q I g h) λc k e=>?_);grind [isTrue_or_nil]
def p4(e:Xr X a tA)(n:Vm X (.BoolOp .And (b::rest) pos) tB'):Vm X (.BoolOp .And (a::b::rest) pos) (NM tA tB'):=by
 intro l d s f H W g Q I i h;refine isTrue_and (Rw (e d s f H W g _ I i h) λc m o=>?_);obtain⟨k,j,e,h⟩:=o;cases c with
 |true=>exact Rw (n l d m f k W g Q j (i.same e) h) λ_ _ g=>(by obtain⟨l,i,f,d⟩:=g;exact⟨l,i,e.trans f,d⟩)
 |false=>exact⟨k,j,e,h⟩
def bR(e:Xr X a tA)(n:Vm X (.BoolOp .Or (b::rest) pos) tB'):Vm X (.BoolOp .Or (a::b::rest) pos) (dOr tA tB'):=by
 intro l d s f H W g Q I i h;refine isTrue_or (Rw (e d s f H W g _ I i h) λc m o=>?_);obtain⟨k,j,e,h⟩:=o;cases c with
 |true=>exact⟨k,j,e,h⟩
 |false=>exact Rw (n l d m f k W g Q j (i.same e) h) λ_ _ g=>(by obtain⟨i,h,f,d⟩:=g;exact⟨i,h,e.trans f,d⟩)
def bP(i:Xr X a tA):Xr X (.UnaryOp .Not a pos) (NR tA):=by intro d s e H W f Q I g h;exact isTrue_not (Rw (i d s e H W f (λc=>Q (!c)) I g h) λ_ _ e=>(by obtain⟨a,b,c,d⟩:=e;exact⟨a,b,c,d⟩))
def Kp(ta tb:DE):DE:=λd Q=>ta d λx=>blQ x λc=>if c=true then tb d Q else Q (.bl false)
def Kr(ta:DE):DE:=λd Q=>ta d λx=>blQ x λc=>Q (.bl (!c))
def mD{op}(h:RU X a t):RU X (.BoolOp op [a] pos) t:=λd s e H W f Q I g i=>BoolOp_one (h d s e H W f Q I g i)
def kB(e:RU X a ta)(p:RU X (.BoolOp .And (b::rest) pos) tb):RU X (.BoolOp .And (a::b::rest) pos) (Kp ta tb):=by
 intro d s g H W i Q I j h;refine BoolOp_and (Rw (e d s g H W i _ I j h) λq l n=>?_);obtain⟨v,k,x,h,m,f,o,e⟩:=n;obtain⟨c,n,e⟩:=pQ e;subst n;have n:=o.Zr;subst n;cases m;refine zCt ?_;cases c with
 |true=>exact Rw (p d l g k W i Q h (j.same f) e) λ_ _ z=>z.up f
 |false=>exact⟨.bl false,k,_,h,rfl,f,Den.bl _,e⟩
def N5(i:RU X a ta):RU X (.UnaryOp .Not a pos) (Kr ta):=by intro d s e H W f Q I g h;refine UnaryOp_ (Rw (i d s e H W f _ I g h) λk l f=>?_);obtain⟨v,j,x,i,e,h,g,d⟩:=f;obtain⟨c,f,d⟩:=pQ d;subst f;have f:=g.Zr;subst f;cases e;exact not_of (zCt ⟨.bl (!c),j,_,i,rfl,h,Den.bl _,d⟩)
def dIf(t:DT)(ta tb:DE):DE:=λd Q=>t d λc=>if c=true then ta d Q else tb d Q
def nF(d:Xr X c tA)(o:RU X a ta)(n:RU X b tb):RU X (.IfExp c a b pos) (dIf tA ta tb):=by
 intro e s g H W i Q I j h;refine wpAny_IfExp (Rw (d e s g H W i _ I j h) λd h p=>?_);obtain⟨m,l,f,k⟩:=p;cases d with
 |true=>exact Rw (o e h g m W i Q l (j.same f) k) λ_ _ z=>z.up f
 |false=>exact Rw (n e h g m W i Q l (j.same f) k) λ_ _ z=>z.up f
def ixQ(e:yar):Int->(D->Prop)->Prop
 |.ofNat n,Q=>match e[n]? with
  |some d=>Q d
  |none=>False
 |i,Q=>∃d,T9 e i=some d/\Q d
def uW(f:yar)(i:Int)(Q:D->Prop):ixQ f i Q=∃d,T9 f i=some d/\Q d:=by
 cases i with
 |ofNat n =>
  show(match f[n]? with
   |some d=>Q d
   |none=>False)=_
  by_cases h:n<f.length;have e:T9 f (Int.ofNat n)=some f[n]:=bU (by simp[h])
  simp_all
  rw[zB6 (by simp_all)];refine propext ⟨False.elim,λ⟨d,q,z⟩=>?_⟩;unfold T9 ixN at q
  simp_all [Rv,Int.natCast_nonneg,if_neg]
 |negSucc n=>rfl
def dA:RD2:=λx y Q=>match x,y with
 |.tup d,.int i=>ixQ d i Q
 |.lst _ d,.int i=>ixQ d i Q
 |_,_=>False
def MM(h:dA x y Q):∃e i d,(x=.tup e∨∃ t,x=.lst t e)/\y=.int i/\T9 e i=some d/\Q d:=by
 unfold dA at h;split at h;rw[uW]at h;obtain⟨d,h⟩:=h;exact⟨_,_,d,.inl rfl,rfl,h⟩;rw[uW]at h;obtain⟨d,h⟩:=h;exact⟨_,_,d,.inr ⟨_,rfl⟩,rfl,h⟩
 simp_all
def zF{K:yac}{P:yak}{H:Hp}{f:yar}{g:yaq}{i:Int}{d:D}(h:ah K P H f g)(e:T9 f i=some d):∃v,T9 g i=some v/\Den K P H d v:=by
 unfold T9 at e ⊢;rw[h.len];cases q:ixN f.length i with
 |none=>simp_all
 |some j =>
  rw[q]at e;exact h.get e
def ai(f:RU X a ta)(e:RU X b tb)(hs:Cn b:=by intro _ _;rfl):RU X (.Subscript a b pos) (WN dA ta tb):=by
 intro g s C H W T Q I d h;refine Subscript_ (DW f e I d h λE G H v u x y h N e I J L f q=>?_)
 replace q:=MM q
 obtain⟨Y,i,d,k,j,M,q⟩:=q;subst j;have j:=f.SK;subst j;have j:∀(f:V),Den X.K W.bad h d f->av h h/\∃d,Den X.K W.bad h d f/\Q d:=by grind [av.refl]
 rcases k with k|⟨U,k⟩;subst k;obtain⟨p,n,t,r,s⟩:=L.UW;subst t;obtain⟨f,x,w⟩:=zF s M;exact Rw (Ay a b g H C h _ _ E G (λf l=>av h l/\∃d,Den X.K W.bad l d f/\Q d) N I J ⟨p,n,i,f,rfl,rfl,r.w,x,j f w⟩ (hs _ _))
  λ_ O z=>(by obtain⟨m,B,A,o,u,d,y,q⟩:=z;exact⟨m,B,d,A,o,e.trans u,y,q⟩)
 subst k;obtain⟨p,n,t,_,r,s⟩:=L.UI;subst t;obtain⟨f,x,w⟩:=zF s M;exact Rw (L6 a b g H C h _ _ E G (λf l=>av h l/\∃d,Den X.K W.bad l d f/\Q d) N I J ⟨p,n,i,f,rfl,rfl,r,x,j f w⟩ (hs _ _))
  λ_ O z=>(by obtain⟨m,B,A,o,u,d,y,q⟩:=z;exact⟨m,B,d,A,o,e.trans u,y,q⟩)
end
section
variable{X:Cx}{e:Expr}{es:yai}{te:DE}{t:DA}{pos:Pos}
def D4:DA:=λ_ Q=>Q []
def uJ(c:DE)(b:DA):DA:=λa Q=>c a λx=>b a λa=>Q (x::a)
def af:Wt X [] D4:=λ_ _ _ _ H W a Q I _ h=>Calls.spliced_nil ⟨[],H,[],I,.nil,av.refl H,ah.nil,h⟩
def aa(f:RU X e te)(k:Wt X es t)(hs:starEach (e::es) X.env=(false,eval e X.env)::starEach es X.env:=by rfl):Wt X (e::es) (uJ te t):=by intro pos a s b H W c Q I d h;rw[hs];refine Calls.spliced_cons (Rw (f a s b H W c _ I d h) λu g l=>?_);obtain⟨v,n,x,m,h,f,j,i⟩:=l;exact Rw (k pos a g b n W c _ m (d.same f) i) λo p k=>(by obtain⟨d,m,c,l,g,b,a,i⟩:=k;exact⟨v::d,m,x::c,l,.cons h g,f.trans b,ah.cons (j.same b) a,i⟩)
theorem av.upd{H:Hp}(h:H p=none)(n:NT o:=by exact True.intro):av H (upd H p o):=⟨λb u e _=>by rw[aC (by lia)];lia,λb a e=>⟨#[],by rw[aC (by lia),e];simp⟩,fW.upd n (.inl h)⟩
def NY(t:DA):DE:=λa Q=>t a λa=>a.length<=sizeLine/\Q (.tup a)
def IG(t:DA):DE:=λa Q=>t a λa=>a.length<=sizeLine/\Q (.lst true a)
def bA{x1}(h:Wt X es t):RU X (.Tuple es x1 pos) (NY t):=by intro a s b H W c Q I d f;refine wpAny_Tuple_spliced (Rw (h pos a s b H W c _ I d f) λh a c=>?_);obtain⟨g,f,j,b,r,i,d,z,q⟩:=c;rw[<- d.len]at z;refine⟨by rw[<- r.length];exact z,?_⟩;have c:f a.heap.objs.size=none:=b.R7.fresh (by lia);refine⟨.ref a.heap.objs.size,L2.upd f a.heap.objs.size (.tup g),_,b.laid (t':=a.toks) (λb u e=>T5 _ e) (by lia) ⟨z,h,r,⟨_,Vi _ rfl,rfl,_,rfl⟩⟩,rfl,i.trans (av.upd c),Den.tup (SJ.of aP) (d.same (av.upd c)),q⟩
theorem Inv.Um(I:Inv X pins σ H s):X.K.lookup s.heap.objs.size=none:=by
 cases e:X.K.lookup s.heap.objs.size with
 |none=>rfl
 |some o=>exact absurd (SH (I.WD _ _ e)) (by simp_all)
def cL(h:Wt X es t):RU X (.List es pos) (IG t):=by
 intro a s b H W c Q I f d;refine wpAny_List_spliced (Rw (h pos a s b H W c _ I f d) λj a c=>?_);obtain⟨i,b,k,d,r,h,g,z,q⟩:=c;rw[<- g.len]at z;refine⟨by rw[<- r.length];exact z,?_⟩;have c:b a.heap.objs.size=none:=d.R7.fresh (by lia);exact⟨.ref a.heap.objs.size,L2.upd b a.heap.objs.size (.lst i),_,d.laid (t':=a.toks) (λb u e=>T5 _ e) (by lia) ⟨z,j,0,r,Vi _ rfl⟩,rfl,h.trans (av.upd c),
  Den.lst ((f.same h).fresh c) (.new aP (Inv.Um d)) (g.same (av.upd c)),q⟩
end
abbrev DSp:=yar->(D->Prop)->(Value->Prop)->Prop
def aH(K:yac)(sp:DSp):Sp:=λd H Q E=>∃(P:Addr->Prop) (b:yar) (c:D->Prop) (e:Value->Prop),ig K H/\(∀a,P a->∃o,H a=some o)/\ah K (λt a=>t=true∨P a) H b d/\sp b c e ∧
 (∀d v b,av H b->Den K (λt a=>P a∨(t=true/\∃o,H a=some o)) b d v->c d->Q v b)/\∀c a b,av H b->e c->E c a b
mutual
def aU:D->D
 |.tup a=>.tup (bf a)
 |.lst _ a=>.lst false (bf a)
 |.obj C b a=>.obj C b (bf a)
 |.Ws=>.Ws
 |.V1 b a=>.V1 b (bf a)
 |.RZ=>.RZ|.bl b=>.bl b|.int i=>.int i|.str x=>.str x|.exc c=>.exc c
def bf:yar->yar
 |[]=>[]
 |d::a=>aU d::bf a
end
section
variable{K:yac}{P:yak}{P':Addr->Prop}{H:Hp}
mutual
theorem Den.aU(h:∀t a,P' a->P t a):∀(d:D) (v:V),Den K P H d v->Den K (λt a=>t=true∨P' a) H (PD.aU d) v
 |.RZ,_,q=>by simpa only[Den,PD.aU]using q
 |.bl _,_,q=>by simpa only[Den,PD.aU]using q
 |.int _,_,q=>by simpa only[Den,PD.aU]using q
 |.str _,_,q=>by simpa only[Den,PD.aU]using q
 |.exc _,_,q=>by simpa only[Den,PD.aU]using q
 |.tup f,_,q=>by simp only[Den,PD.aU]at q ⊢;obtain⟨a,b,e,d,c⟩:=q;exact⟨a,b,e,d,ah.aU h f b c⟩
 |.obj C i f,_,q=>by simp only[Den,PD.aU]at q ⊢;obtain⟨a,g,b,e,d,l,k,c⟩:=q;exact⟨a,g,b,e,d,l,k,ah.aU h f b c⟩
 |.Ws,_,q=>by simpa only[Den,PD.aU]using q
 |.V1 j f,_,q=>by simp only[Den,PD.aU]at q ⊢;obtain⟨a,o,g,b,e,d,l,k,c⟩:=q;exact⟨a,o,g,b,e,d,l,k,ah.aU h f b c⟩
 |.lst t f,_,q=>by simp only[Den,PD.aU]at q ⊢;obtain⟨a,b,e,p,d,c⟩:=q;exact⟨a,b,e,λz=>z.elim (λz=>by cases z) λz=>p (h t a z),.any d.1,ah.aU h f b c⟩
theorem ah.aU(h:∀t a,P' a->P t a):∀(b:yar) (c:yaq),ah K P H b c->ah K (λt a=>t=true∨P' a) H (PD.bf b) c
 |[],_,q=>by simpa only[ah,PD.bf]using q
 |d::b,_,q=>by simp only[ah,PD.bf]at q ⊢;obtain⟨v,r,e,c,a⟩:=q;exact⟨v,r,e,Den.aU h d v c,ah.aU h b r a⟩
end
end
def Den.back{K:yac}{W:Own}{H H':Hp}{d:D}{v:V}(b:∀t a,W.bad t a->∃o,H a=some o)(h:Den K (λt a=>W.bad false a∨(t=true/\∃o,H a=some o)) H' d v):Den K W.bad H' d v :=
 h.R9 (by grind)
section
variable{X:Cx}{CX:CXT}{k:Nat}{f:Addr}{fd:FuncData}{ps:yah}{sp:DSp}{x:Str}{p pos:Pos}{e:Expr}{es:yai}{t:DA}
def uH(sp:DSp)(dds:yar)(t:DA):DE:=λa Q=>t a λa=>sp (bf a++dds) Q λ_=>False
def tF:D->V
 |.RZ=>.RZ|.bl b=>.bl b|.int i=>.int i|.str x=>.str x|_=>.RZ
def zb:D->Prop
 |.tup _=>False|.lst _ _=>False|.exc _=>False|.obj _ _ _=>False|.Ws=>False|.V1 _ _=>False|_=>True
theorem ah.xo{K:yac}{P:yak}{H:Hp}:∀{dds:yar},(∀d∈dds,zb d)->ah K P H dds (dds.map tF)
 |[],_=>ah.nil
 |d::r,h=>by
  refine ah.cons ?_ (ah.xo λx a=>h x (by grind));have:=h d (by grind);cases d with
  |RZ=>exact Den.RZ
  |bl b=>exact Den.bl b
  |int i=>exact Den.int i
  |str x=>exact Den.str x
  |tup _=>exact this.elim
  |lst _ _=>exact this.elim
  |exc _=>exact this.elim
  |obj _ _ _=>exact this.elim
  |Ws=>exact this.elim
  |V1 _ _=>exact this.elim
def Qz{dds:yar}(F:aG X.prog X.w X.K X.mg X.base CX k f fd ps (aH X.K sp))(g:bS k X.A)(i:Binds X.K fd ps dsv)(h:Vals (dds.map tF) dsv)(hs:∀d∈dds,zb d)(c:Passes CX X E0)
 (I:Inv X pins σ H s) (a:Rel X W H σ ρ) (r:Vals vs us) (j:ah X.K W.bad H ds vs)
  (q:sp (bf ds++dds) Q λ_=>False):wpAny (model X.prog X.w) X.A (call (.ref f) us) (DP X pins σ W H Q) X.xe s:=by
 refine Rw (Po (Q:=λv b=>av H b/\∃d,Den X.K W.bad b d v/\Q d) F g i h c I r ⟨W.bad false,bf ds++dds,Q,λ_=>False,a.tab,a.tracked false,(ah.aU (λ_ _=>Own.XW) ds vs j).append (ah.xo hs),q,λd v b e c b=>⟨e,d,Den.back a.tracked c,b⟩,λ_ _ _ _ z=>z.elim⟩)
  λu l h=>(by obtain⟨v,j,i,a,g,d,c,b⟩:=h;exact⟨v,j,d,i,a,g,c,b⟩)
def z9{dds:yar}(F:aG X.prog X.w X.K X.mg X.base CX k f fd ps (aH X.K sp))(i:bS k X.A)(m:Gl X x)(j:X.mg x=some (.ref f))(l:PySem.W.keepIn X.K (.ref f)=true)(u:Binds X.K fd ps dsv)(o:Vals (dds.map tF) dsv)(hs:∀d∈dds,zb d)(g:Passes CX X E0)
  (q:Wt X (e::es) t) (r:(x==("__debug__" : Str))=false:=by decide) (n:starEach (e::es) X.env=(false,eval e X.env)::starEach es X.env:=by rfl) (w:(backTo pos (starEach es X.env)).any (·.1)=false:=by rfl) :
  RU X (.Call (.Name x p) (e::es) [] pos) (uH sp dds t):=by
 intro a s c H W d Q I b h;refine Z4 (mL I m j ?_ r);refine PySem.W.callWith_K (h₀:=X.base) I.ok.mod.VC l (Rw (q pos a s c H W d _ I b h) λA B ⟨y,H1,C,c,r,a,d,q⟩=>⟨c.WD,?_⟩) n w;exact Rw (Qz F i u o hs g c (b.same a) r d q) λ_ _ z=>z.up a
def dCB(r:yar->(D->Prop)->Prop)(t:DA):DE:=λa Q=>t a λa=>r a Q
def cN(X:Cx)(f:Value)(r:yar->(D->Prop)->Prop):Prop :=
 ∀ (b:yab) (s:Shared) (c:St) (H:Hp) (W:Own) (h:yar) (d:yaq) (g:yad) (Q:D->Prop),Inv X b c H s->(∀t a,W.bad t a->∃o,H a=some o)->Vals d g->ah X.K W.bad H h d->r h Q →
  wpAny (model X.prog X.w) X.A (call f g) (DP X b c W H Q) X.xe s
def cN.of{f:Value}{rd:yar->(D->Prop)->Prop}(h:kY X f r)(k:∀P H c b Q,(∀t a,P t a->∃o,H a=some o)->ah X.K P H c b->rd c Q->r b H λd H'=>av H H'/\∃d',Den X.K P H' d' d/\Q d'):cN X f rd:=by intro a s d H W c b i Q I j r g q;exact Rw (h a s d H b i _ I r (k _ H c b Q j g q)) λ_ m i=>(by obtain⟨a,l,j,b,h,d,g,c⟩:=i;exact⟨a,l,d,j,b,h,g,c⟩)
variable{id T:String}{r:yar->(D->Prop)->Prop}
def aM (m:cN X (.builtin id) r) (j:Gl X x) (i:X.mg x=none) (hv:bootBuiltins x=some (.builtin id)) (l:Wt X (e::es) t) (g:x ≠ "__name__" := by decide) (n:(x==("__debug__" : Str))=false:=by decide)
  (o:starEach (e::es) X.env=(false,eval e X.env)::starEach es X.env:=by rfl) (u:(backTo pos (starEach es X.env)).any (·.1)=false:=by rfl) :
  RU X (.Call (.Name x p) (e::es) [] pos) (dCB r t):=by
 intro a s b H W d Q I c h;refine Z4 (di I j i hv ?_ g n);exact PyProof.Rows.callWith_builtin1 (Rw (l pos a s b H W d _ I c h) λh i s=>(by obtain⟨g,y,n,w,j,d,l,q⟩:=s;exact Rw (m a i b y W n g h Q w (c.same d).tracked j l q) λ_ _ z=>z.up d)) o u
def i7 (m:cN X (.type T) r) (j:Gl X x) (i:X.mg x=none) (hv:bootBuiltins x=some (.type T)) (l:Wt X (e::es) t) (g:x ≠ "__name__" := by decide) (n:(x==("__debug__" : Str))=false:=by decide)
  (o:starEach (e::es) X.env=(false,eval e X.env)::starEach es X.env:=by rfl) (u:(backTo pos (starEach es X.env)).any (·.1)=false:=by rfl) :
  RU X (.Call (.Name x p) (e::es) [] pos) (dCB r t):=by
 intro a s b H W d Q I c h;refine Z4 (di I j i hv ?_ g n);exact PyProof.Rows.callWith_type1 (Rw (l pos a s b H W d _ I c h) λh i s=>(by obtain⟨g,y,n,w,j,d,l,q⟩:=s;exact Rw (m a i b y W n g h Q w (c.same d).tracked j l q) λ_ _ z=>z.up d)) o u
end
mutual
noncomputable def UK:D->PyData
 |.RZ=>.none
 |.bl b=>.bool b
 |.int i=>.int i
 |.str x=>.str x
 |.tup a=>.tuple (dq a)
 |.lst _ a=>.list (dq a)
 |.exc _=>.none
 |.obj _ _ _=>.none
 |.V1 _ _=>.none
 |.Ws=>.none
noncomputable def dq:yar->List PyData
 |[]=>[]
 |d::a=>UK d::dq a
end
mutual
def XX:D->Bool
 |.tup a=>qk a
 |.lst _ a=>qk a
 |.exc _=>false
 |.obj _ _ _=>false
 |.V1 _ _=>false
 |.Ws=>false
 |_=>true
def qk:yar->Bool
 |[]=>true
 |d::a=>XX d && qk a
end
def eqD(x y:D):Bool:=PyData.eqv (UK x) (UK y)
def okD(x:D):Prop:=XX x=true/\SeqAt.shaped (UK x)=true
section
variable{X:Cx}{pins:yab}{σ:St}{H:Hp}{s:Shared}{P:yak}
mutual
theorem eF(I:Inv X pins σ H s):∀(d:D) (v:V) (u:Value),Den X.K P H d v->RelV v u->XX d=true->∃c,Reads s.heap u (UK d) c
 |.RZ,_,_,h,r,_=>by have e:=h.Zs;subst e;cases r;rw[UK];exact⟨_,.none⟩
 |.bl b,_,_,h,r,_=>by have e:=h.Zr;subst e;cases r;rw[UK];exact⟨_,.bool b⟩
 |.int i,_,_,h,r,_=>by have e:=h.SK;subst e;obtain⟨t,rfl⟩:=r;rw[UK];exact⟨_,.int i t⟩
 |.str x,_,_,h,r,_=>by have e:=h.str_;subst e;obtain⟨t,rfl⟩:=r;rw[UK];exact⟨_,.str x t⟩
 |.tup m,_,_,h,r,b=>by rw[XX]at b;obtain⟨a,d,e,g,i⟩:=h.UW;subst e;cases r;obtain⟨p,f,⟨o,l,k,n,j⟩,_⟩:=I.tuple g.w;obtain⟨c,q⟩:=nI I m d p i f b;rw[UK];exact⟨c,reads_tuple_at l k j (by simpa using q)⟩
 |.lst _ m,_,_,h,r,b=>by rw[XX]at b;obtain⟨a,d,e,_,g,i⟩:=h.UI;subst e;cases r;obtain⟨p,f,⟨o,n,l,k,_,j⟩,_⟩:=I.list g;obtain⟨c,q⟩:=nI I m d p i f b;rw[UK];exact⟨_,reads_list_at l k j (by simpa using q)⟩
 |.exc _,_,_,_,_,b=>by rw[XX]at b;cases b
 |.obj _ _ _,_,_,_,_,b=>by rw[XX]at b;cases b
 |.V1 _ _,_,_,_,_,b=>by rw[XX]at b;cases b
 |.Ws,_,_,_,_,b=>by rw[XX]at b;cases b
theorem nI(I:Inv X pins σ H s):∀(a:yar) (b:yaq) (c:yad),ah X.K P H a b->Vals b c->qk a=true->∃e,ReadsAll s.heap c (dq a) e
 |[],_,_,h,r,_=>by simp only[ah]at h;subst h;cases r;rw[dq];exact⟨_,.nil⟩
 |d::a,_,_,h,r,b=>by
  rw[qk,zCx]at b;simp only[ah]at h;obtain⟨v,j,rfl,i,g⟩:=h;cases r with
  |cons f c =>
   obtain⟨e,q⟩:=eF I d v _ i f b.1;obtain⟨k,d⟩:=nI I a _ _ g c b.2;rw[dq];exact⟨_,.cons q d⟩
end
def Ph:RD2:=λx y Q=>okD x/\okD y/\Q (.bl (eqD x y))
def Pk:RD2:=λx y Q=>okD x/\okD y/\Q (.bl (!eqD x y))
def za(j:X.A.units+64<cLine):Tz X (compareOp .Eq) Ph:=by intro pins s σ H W x y v u c d Q I _ e f i h q;obtain⟨b,a,q⟩:=q;obtain⟨l,g⟩:=eF I x v c i e b.1;obtain⟨k,c⟩:=eF I y u d h f a.1;exact eq_dataH g c b.2 a.2 j ⟨.bl _,H,_,I,rfl,av.refl H,Den.bl _,q⟩
def nV(j:X.A.units+64<cLine):Tz X (compareOp .NotEq) Pk:=by intro pins s σ H W x y v u c d Q I _ e f i h q;obtain⟨b,a,q⟩:=q;obtain⟨l,g⟩:=eF I x v c i e b.1;obtain⟨k,c⟩:=eF I y u d h f a.1;exact ne_dataH g c b.2 a.2 j ⟨.bl _,H,_,I,rfl,av.refl H,Den.bl _,q⟩
def bF:Tz X (compareOp .Eq) (fG λi j=>.bl (decide (i=j))):=Tz.of Ql λP H x y v u Q d c z=>by
 obtain⟨i,j,f,e,q⟩:=rL z;subst f e;have a:=d.SK;have b:=c.SK;subst a b;refine⟨rfl,av.refl H,_,Den.bl _,?_⟩
 simp_all
def jb:Tz X (compareOp .NotEq) (fG λi j=>.bl (!decide (i=j))):=Tz.of Qq λP H x y v u Q d c z=>by
 obtain⟨i,j,f,e,q⟩:=rL z;subst f e;have a:=d.SK;have b:=c.SK;subst a b;refine⟨rfl,av.refl H,_,Den.bl _,?_⟩
 simp_all
def iW:D->Bool
 |.RZ=>true
 |_=>false
def xV{K:yac}{d:D}{v:V}(h:Den K P H d v):decide (v=.RZ)=iW d:=by
 cases d with
 |RZ=>have:=h.Zs;subst this;rfl
 |bl b=>have:=h.Zr;subst this;rfl
 |int b=>have:=h.SK;subst this;rfl
 |str b=>have:=h.str_;subst this;rfl
 |tup d=>obtain⟨a,b,e,_⟩:=h.UW;subst e;rfl
 |lst _ d=>obtain⟨a,b,e,_⟩:=h.UI;subst e;rfl
 |exc c=>obtain⟨a,e,_⟩:=h.exc_;subst e;rfl
 |obj C f d=>obtain⟨a,i,b,e,_⟩:=h.obj_;subst e;rfl
 |Ws=>obtain⟨a,e,_⟩:=h.dic_;subst e;rfl
 |V1 g d=>obtain⟨a,_,_,b,e,_⟩:=h.dik_;subst e;rfl
def vf:Tz X (compareOp .Is) (λx y Q=>y=.RZ/\Q (.bl (iW x))):=Tz.of O3 λP H x y v u Q b a ⟨e,q⟩=>by
 subst e;refine⟨a.Zs,av.refl H,_,Den.bl _,?_⟩;rw[xV b]
 lia
def Mi:Tz X (compareOp .IsNot) (λx y Q=>y=.RZ/\Q (.bl (!iW x))):=Tz.of MB λP H x y v u Q b a ⟨e,q⟩=>by
 subst e;refine⟨a.Zs,av.refl H,_,Den.bl _,?_⟩;rw[xV b]
 lia
end
section
variable{X:Cx}
def pS:cN X (.builtin "abs") (λa Q=>∃i:Int,a=[.int i]/\Q (.int (i.natAbs:Int))):=cN.of IB λP H a a Q _ b ⟨i,e,q⟩=>by
 subst e;obtain⟨v,r,rfl,d,c⟩:∃v r,a=v::r/\Den X.K P H (.int i) v/\ah X.K P H [] r:=by simpa only[ah]using b
 have b:=d.SK;have a:r=[]:=by simpa only[ah]using c
 subst b a;refine⟨i,rfl,av.refl H,_,Den.int _,?_⟩
 lia
def q9{K:yac}{P:yak}{H:Hp}{x y:D}{a:yaq}(h:ah K P H [x,y] a):∃v u,a=[v,u]/\Den K P H x v/\Den K P H y u:=by simp only[ah]at h;grind
def k6{K:yac}{P:yak}{H:Hp}{x:D}{a:yaq}(h:ah K P H [x] a):∃v,a=[v]/\Den K P H x v:=by simp only[ah]at h;grind
def FJ (c:X.calm=true):cN X (.builtin "min") (λa Q=>∃i j:Int,a=[.int i,.int j]/\Q (.int (min i j))):=cN.of (FH c) λP H a k Q _ b ⟨i,j,e,q⟩=>by
 subst e;obtain⟨v,u,rfl,f,d⟩:=q9 b;have h:=f.SK;have g:=d.SK;subst h g;refine⟨i,j,rfl,av.refl H,_,Den.int _,?_⟩
 lia
def NB (c:X.calm=true):cN X (.builtin "max") (λa Q=>∃i j:Int,a=[.int i,.int j]/\Q (.int (max i j))):=cN.of (FG c) λP H a k Q _ b ⟨i,j,e,q⟩=>by subst e;obtain⟨v,u,rfl,f,d⟩:=q9 b;have h:=f.SK;have g:=d.SK;subst h g;refine⟨i,j,rfl,av.refl H,_,Den.int _,?_⟩;grind
def AG(a:yar)(Q:D->Prop):Prop:=match a with
 |[.lst _ a]=>Q (.int (a.length:Int))
 |[.tup a]=>Q (.int (a.length:Int))
 |_=>False
theorem OO(t:Bool)(xs:yar)(Q:D->Prop):AG [.lst t xs] Q=Q (.int (xs.length:Int)):=rfl
theorem OP(xs:yar)(Q:D->Prop):AG [.tup xs] Q=Q (.int (xs.length:Int)):=rfl
def Ma(h:AG ds Q):∃xs,((∃t,ds=[.lst t xs])∨ds=[.tup xs])/\Q (.int (xs.length:Int)):=by unfold AG at h;split at h;exact⟨_,.inl ⟨_,rfl⟩,h⟩;exact⟨_,.inr rfl,h⟩;exact h.elim
def bL:cN X (.builtin "len") AG:=cN.of zG λP H l j Q _ g h=>by
 obtain⟨i,e,q⟩:=Ma h;rcases e with⟨k,e⟩| e;subst e;obtain⟨v,rfl,f⟩:=k6 g;obtain⟨a,b,e,_,d,c⟩:=f.UI;subst e;refine⟨a,b,rfl,.inl d,av.refl H,_,Den.int _,?_⟩;rw[c.len];exact q;subst e;obtain⟨v,rfl,f⟩:=k6 g;obtain⟨a,b,e,d,c⟩:=f.UW;subst e;refine⟨a,b,rfl,.inr d.w,av.refl H,_,Den.int _,?_⟩;rw[c.len];exact q
def pT:cN X (.type "int") (λa Q=>(∃i:Int,a=[.int i]/\Q (.int i))∨∃ k:Bool,a=[.bl k]/\Q (.int (if k then 1 else 0))):=cN.of FF λP H a d Q _ c h=>by
 rcases h with⟨i,e,q⟩| ⟨k,e,q⟩;subst e;obtain⟨v,rfl,a⟩:=k6 c;have b:=a.SK;subst b;exact .inl ⟨i,rfl,av.refl H,_,Den.int _,q⟩;subst e;obtain⟨v,rfl,a⟩:=k6 c;have b:=a.Zr;subst b;exact .inr ⟨k,rfl,av.refl H,_,Den.int _,q⟩
noncomputable def YB:D->String
 |.RZ => "NoneType" | .bl _ => "bool" | .int _ => "int" | .str _ => "str" | .tup _ => "tuple" | .lst _ _ => "list" | .exc _ => "object" | .obj _ _ _ => "object" | .Ws => "dict" | .V1 _ _ => "dict"
def tyV:D->Value
 |.exc c=>.ref c
 |.obj C _ _=>.ref C
 |d=>.type (YB d)
variable{e:Expr}{te:DE}{p p' pos:Pos}{T:String}{x:Str}
def LV(x:bG P w H h a (.ins C dx fs)):∃b,PySem.W.InstAt h a (PySem.W.instObj C dx) C (some b):=by obtain⟨d,z,c,a,f,n,r,q⟩:=x;obtain⟨b,g,_⟩:=Ik.look ⟨a,n,c⟩;grind
def Ax{Q:yaa}{b:Bool}(I:Inv X pins σ H s)(h:Den X.K P H d v)(r:RelV v u)
  (e:PySem.W.kitOne X.K (tyV d) c=some b) (q:∀a,Q (.bool b) {s with toks:=a}):wpAny (model X.prog X.w) A (call (.builtin "isinstance") [u,c]) Q E s:=by
 cases d with
 |RZ=>have z:=h.Zs;subst z;cases r;exact PySem.W.kia_one PySem.W.kitx_none I.WD True.intro e (by lia) q
 |bl y=>have z:=h.Zr;subst z;cases r;exact PySem.W.kia_one PySem.W.kitx_bool I.WD True.intro e (by lia) q
 |int i=>have z:=h.SK;subst z;obtain⟨t,rfl⟩:=r;exact PySem.W.kia_one PySem.W.kitx_int I.WD True.intro e (by lia) q
 |str y=>have z:=h.str_;subst z;obtain⟨t,rfl⟩:=r;exact PySem.W.kia_one PySem.W.kitx_str I.WD True.intro e (by lia) q
 |tup g =>
  obtain⟨a,c,z,b,_⟩:=h.UW;subst z;cases r;obtain⟨k,i,⟨o,f,d,n,j⟩,_⟩:=I.tuple b.w;exact PySem.W.kia_one PySem.W.kitx_tuple I.WD ⟨o,f,d⟩ e (by lia) q
 |lst _ g =>
  obtain⟨a,c,z,_,b,_⟩:=h.UI;subst z;cases r;obtain⟨k,i,⟨o,n,f,d,_,j⟩,_⟩:=I.list b;exact PySem.W.kia_one PySem.W.kitx_list I.WD ⟨o,f,d⟩ e (by lia) q
 |exc G =>
  obtain⟨a,z,b,k⟩:=h.exc_;subst z;cases r;exact PySem.W.kia_one (Jk k) I.WD (I.R7 a _ b).1 e (by lia) q
 |obj C m g =>
  obtain⟨a,B,c,z,b,_,k,_⟩:=h.obj_;subst z;cases r;obtain⟨l,d⟩:=LV (I.R7 a _ b);exact PySem.W.kia_one (PySem.W.kitx_own k.pg k.hd k.at_ k.get k.takes k.obj) I.WD d e (by lia) q
 |Ws =>
  obtain⟨a,z,b⟩:=h.dic_;subst z;cases r;exact PySem.W.kia_one PySem.W.kitx_dict I.WD (I.R7 a _ b).1 e (by lia) q
 |V1 w g =>
  obtain⟨a,o,SE,c,z,b,_⟩:=h.dik_;subst z;cases r;obtain⟨_,_,_,_,_,c,_,_,f,d,_⟩:=I.R7 a _ b;exact PySem.W.kia_one PySem.W.kitx_dict I.WD ⟨c,f,d.1⟩ e (by lia) q
def BL(K:yac)(S T:String):PySem.W.kitOne K (.type S) (.type T)=if S=T then some true else if PySem.W.kitMeta T=true then(fastBuiltinMro S).map (·.contains (.type T))else none:=by
 unfold PySem.W.kitOne PySem.W.kitCls PySem.W.subIn
 lia
def isT (T:String) (d:D):Bool:=YB d==T || (YB d == "bool" && T == "int")
def kit_ans (K:yac) (d:D) (h:∀c,d=.exc c->d6 K c) (g:∀C ns b,d=.obj C ns b->DK K C) (a:T = "int" ∨ T = "bool" ∨ T = "tuple" ∨ T = "list" ∨ T = "str"):PySem.W.kitOne K (tyV d) (.type T)=some (isT T d):=by
 by_cases f:∃c,d=.exc c;obtain⟨c,rfl⟩:=f;show PySem.W.kitOne K (.ref c) (.type T)=_;rw[(h c rfl).not T a];show _=some ("object" == T || ("object" == "bool" && T == "int"));rcases a with e|e|e|e|e<;>subst e<;>decide +kernel;by_cases c:∃C ns b,d=.obj C ns b;obtain⟨C,ns,b,rfl⟩:=c;show PySem.W.kitOne K (.ref C) (.type T)=_;rw[(g C ns b rfl).not T a];show _=some ("object" == T || ("object" == "bool" && T == "int"));rcases a with e|e|e|e|e<;>subst e<;>decide +kernel;have hv:tyV d=.type (YB d):=by cases d<;>first|rfl|lia|lia
 rw[hv,BL];unfold isT;have b:YB d = "NoneType" ∨ YB d = "bool" ∨ YB d = "int" ∨ YB d = "str" ∨ YB d = "tuple" ∨ YB d = "list" ∨ YB d = "dict" := by cases d<;>first|exact absurd ⟨_,rfl⟩ f|exact absurd ⟨_,_,_,rfl⟩ c|simp[YB]
 generalize YB d=S at b ⊢;rcases a with e|e|e|e|e<;>subst e<;>rcases b with e|e|e|e|e|e|e<;>subst e<;>decide +kernel
def dIs(T:String)(te:DE):DE:=λa Q=>te a λd=>Q (.bl (isT T d))
def eE (n:Gl X "isinstance") (m:X.mg "isinstance" = none) (g:Gl X x) (f:X.mg x=none) (hv:bootBuiltins x=some (.type T)) (q:T = "int" ∨ T = "bool" ∨ T = "tuple" ∨ T = "list" ∨ T = "str") (o:RU X e te)
  (l:x ≠ "__name__" := by decide) (t:(x==("__debug__" : Str))=false:=by decide)
  (j:starEach [e,.Name x p'] X.env=(false,eval e X.env)::starEach [.Name x p'] X.env:=by rfl) (r:starEach [.Name x p'] X.env=(false,eval (.Name x p') X.env)::starEach [] X.env:=by rfl) (c:(backTo pos (starEach [.Name x p'] X.env)).any (·.1)=false:=by rfl) :
  RU X (.Call (.Name "isinstance" p) [e,.Name x p'] [] pos) (dIs T te):=by
 intro b s i H W k Q I a h;have d:PA X [e,.Name x p'] (rV (Ek X te) (rV (tC (.ty T)) E4)):=gH o.pe (gH (CZ g f hv rfl l t) mS r) j;refine Z4 (di I n m boot_isinstance ?_ (by decide) (by decide));refine PyProof.Rows.callWith_builtin1 (Rw (d pos b s i H (λi f=>∃v d,i=[v,.ty T]/\av H f/\Den X.K W.bad f d v/\Q (.bl (isT T d))) I ⟨W,k,_,a,h,λv f d h b g=>⟨v,d,rfl,h,b,g⟩⟩) λu w k=>?_) j c;obtain⟨i,f,i,c,v,d,j,h,b,g⟩:=k;subst j;cases c with
 |cons j a =>
  cases a with
  |cons c a =>
   cases a;cases(show _=Value.type T from c);exact Ax i b j (kit_ans X.K d (λc z=>by subst z;exact b.exc_.choose_spec.2.2) (λC y A z=>by subst z;obtain⟨_,_,_,_,_,_,k,_⟩:=b.obj_;lia) q) λa=>⟨.bl _,f,_,i.tok a,rfl,h,Den.bl _,g⟩
end
section
variable{X:Cx}{pos:Pos}
def Y1.up(g:Sm W0 H0 W H)(h:Y1 X pins W H E f s'):Y1 X pins W0 H0 E f s':=by obtain⟨b,c,d,I,a,q⟩:=h;exact⟨b,c,d,I,g.trans a,q⟩
variable{st:Stmt}{rest:yal}{t u:DS}{e:Expr}{te:DE}
def D3:DS:=λE a=>E.nx a
def nE(t u:DS):DS:=λE a=>t {E with nx:=u E} a
def aJ:cT X [] D3:=λ_ _ a H W b E I r h=>wpAny_execs_nil ⟨W,a,H,I,Sm.refl W H,b,r,h⟩
def aj(d:UQ X st t)(j:cT X rest u):cT X (st::rest) (nE t u):=by
 intro a s b H W c E I r h;refine zCe (Rw (d a s b H W c {E with nx:=u E} I r h) λf i k=>?_);obtain⟨c,d,h,g,b,q⟩:=k;cases f with
 |next =>
  obtain⟨k,f,q⟩:=q;exact Rw (j a i d h c k E g f q) λ_ _ z=>z.up b
 |ret v=>exact⟨c,d,h,g,b,q⟩
 |brk=>exact⟨c,d,h,g,b,q⟩
 |cont=>exact⟨c,d,h,g,b,q⟩
def ak(d:UQ X st t):cT X [st] t:=by intro a s b H W c E I r h;refine zCe (Rw (d a s b H W c E I r h) λf g q=>?_);grind [wpAny_execs_nil]
def IH(te:DE):DS:=λE a=>te a E.rt
def ax(d:RU X e te):UQ X (.Return (some e) pos) (IH te):=by intro a s b H W c E I r h;exact wpAny_Return_some (Rw (d a s b H W c _ I r h) λu k h=>(by obtain⟨v,j,d,i,a,g,f,c⟩:=h;exact⟨W,b,j,i,Sm.same g,v,d,a,f,c⟩))
def IF(c:DT)(t u:DS):DS:=λE a=>c a λb=>if b=true then t E a else u E a
def aT(d:Xr X c tc)(l:cT X a t)(k:cT X b u):UQ X (.If c a b pos) (IF tc t u):=by
 intro a s c H W f E I r h;refine wpAny_If (Rw (d a s c H W f _ I r h) λd g m=>?_);obtain⟨j,i,b,h⟩:=m;cases d with
 |true=>exact Rw (l a g c j W f E i (r.same b) h) λ_ _ z=>z.up (Sm.same b)
 |false=>exact Rw (k a g c j W f E i (r.same b) h) λ_ _ z=>z.up (Sm.same b)
def Rel.put{X:Cx}{i:Nat}(r:Rel X W H σ ρ)(f:i<σ.length)(c:Den X.K W.bad H d v):Rel X (W.drop i) H (σ.set i (some v)) (ρ.set i (some (.val d))) where
 val:=λj x h=>by
  by_cases a:j=i;subst a;refine⟨v,by simp[f],?_⟩;by_cases b:j<ρ.length;rw[Zb b]at h;cases h;exact c.R9 λ_ _=>Own.Su
  simp_all
  rw[Vx (Ne.symm a)]at h;obtain⟨w,c,d⟩:=r.val j x h;exact⟨w,by simp_all [Vx,Ne.symm],d.R9 λ_ _=>Own.Su⟩
 own:=λj x h=>by
  by_cases a:j=i
  ·by_cases b:j<ρ.length
   all_goals simp_all
  rw[Vx (Ne.symm a)]at h;obtain⟨a,b,c,d,k,g⟩:=r.own j x h;exact⟨a,b,by show(if j=i then none else W.O j)=_;lia,by simp_all [Vx,Ne.symm],k,by rw[zCG];exact g.R9 (λ_ _=>Own.Su) (Own.V2 f)⟩
 inj:=λj k a c d=>by
  have b:(if j=i then none else W.O j)=some a:=c;have f:(if k=i then none else W.O k)=some a:=d;by_cases d:j=i
  lia
  by_cases g:k=i
  lia
  rw[if_neg d]at b;rw[if_neg g]at f;exact r.inj j k a b f
 kn:=λj a c=>by
  have b:(if j=i then none else W.O j)=some a:=c;by_cases d:j=i
  lia
  rw[if_neg d]at b;exact r.kn j a b
 ke:=λj a c=>by
  have b:(if j=i then none else W.O j)=some a:=c;by_cases d:j=i
  lia
  rw[if_neg d]at b;exact r.ke j a b
 bt:=r.bt
 st:=r.st
 ent:=r.ent
 tab:=r.tab
theorem Sm.drop(W:Own)(H:Hp)(i:Nat):Sm W H (W.drop i) H:=⟨rfl,rfl,by lia,λj a h=>by have b:(if j=i then none else W.O j)=some a:=h;grind,by simp_all,id⟩
def Inv.XZ{i:Nat}{x:Str}(I:Inv X pins σ H s)(a:X.N[i]?=some x):i<σ.length:=by rw[I.len];grind
def zX(i:Nat)(te:DE):DS:=λE a=>te a λd=>E.nx (a.set i (some (.val d)))
def az{x:Str}(i:Nat)(l:X.N.Nodup)(f:RU X e te)(b:X.N[i]?=some x:=by rfl)(j:Loc X.env.scope x:=by first|exact Or.inl rfl|exact Or.inr rfl)(hs:swapsWith e (some (.Name x pos')) pos.line X.env=pure false:=by rfl)
  (k:X.fn x=true∨X.env.scope.names.lookup x=some .local:=by first|exact .inl rfl|exact .inr rfl|assumption):UQ X (.Assign [.Name x pos'] e pos) (zX i te):=by
 intro a s c H W d E I r h;refine wpAny_Assign_Name (Rw (f a s c H W d _ I r h) λu o m=>?_) hs;obtain⟨v,f,d,c,d,a,h,g⟩:=m;exact dP c l b j d (λn d=>⟨W.drop i,_,f,d,(Sm.same a).trans (Sm.drop W f i),_,(r.same a).put (Inv.XZ c b) h,g⟩) k
def UQ.of{t:DS}(h:PS X st ts)(k:∀f H W ρ E,Rel X W H f ρ->f.length=X.N.length->t E ρ->ts ⟨(λc H'=>∃a b,Sm W H a H'/\Rel X a H' c b/\E.nx b),(λv H'=>∃a d,Sm W H a H'/\Den X.K a.bad H' d v/\E.rt d),
   (λc H'=>∃a b,Sm W H a H'/\Rel X a H' c b/\E.bk b),(λc H'=>∃a b,Sm W H a H'/\Rel X a H' c b/\E.ct b)⟩ f H):UQ X st t:=by
 intro g s f H W ρ E I r i;refine Rw (h g s f H _ I (k f H W ρ E r I.len i)) λf j q=>?_
 cases f with
 |next=>obtain⟨c,H',g,a,b,f,h,q⟩:=q;exact⟨a,c,H',g,f,b,h,q⟩
 |brk=>obtain⟨c,H',g,a,b,f,h,q⟩:=q;exact⟨a,c,H',g,f,b,h,q⟩
 |cont=>obtain⟨c,H',g,a,b,f,h,q⟩:=q;exact⟨a,c,H',g,f,b,h,q⟩
 |ret u=>obtain⟨v,c,H',g,b,a,d,f,h,q⟩:=q;exact⟨a,c,H',g,f,v,d,b,h,q⟩
def N2(c:DT)(d:DS):DS:=λE a=>∃W:Nat->Ro->Prop,(∃m,W m a)/\∀m a,W m a->c a λb=>if b=true then d {E with nx:=λc=>∃b,b<m/\W b c,ct:=λc=>∃b,b<m/\W b c,bk:=E.nx} a else E.nx a
def kD(i:PassesOwn (model X.prog X.w) X.A X.env X.xe)(o:Xr X c tc)(q:cT X body tb):UQ X (.While c body [] pos) (N2 tc tb):=by
 intro a s j H W k E I r h;obtain⟨p,⟨m,l⟩,b⟩:=h;refine wpAny_While (codeAny_whileLoop (λn h=>∃d g c f,Inv X a g c h/\Sm W H d c/\Rel X d c g f/\p n f) ?_ m ⟨W,j,H,k,I,Sm.refl W H,r,l⟩);rintro n h ⟨j,g,l,d,k,f,m,c⟩;refine zCk i (Rw (o a h g l j d _ k m (b n d c)) λb h c=>?_);obtain⟨w,s,p,r⟩:=c;have c:=f.trans (Sm.same (W:=j) p);cases b with
 |true =>
  refine zCk i (Rw (q a h g w j d _ s (m.same p) r) λf x b=>?_);obtain⟨i,h,l,k,a,b⟩:=b;cases f with
  |next =>
   obtain⟨q,f,n,o,w3⟩:=b;exact⟨n,o,i,h,l,q,k,c.trans a,f,w3⟩
  |cont =>
   obtain⟨q,f,n,o,w3⟩:=b;exact⟨n,o,i,h,l,q,k,c.trans a,f,w3⟩
  |brk=>exact⟨i,h,l,k,c.trans a,b⟩
  |ret v=>exact⟨i,h,l,k,c.trans a,b⟩
 |false =>
  exact wpAny_execs_nil ⟨j,g,w,s,c,d,m.same p,r⟩
def Ov{X:Cx}(r:Rel X W H σ ρ)(f:Sm W H W' H')(a:Addr)(o:HO)(n:Zq o)(q:H a=some o):H' a=some o :=
 f.kp a _ (λi z=>by obtain⟨_,_,c,b,m⟩:=r.kn i a z;rw[q]at b;cases b;exact m.sol n) q n.nt
def Ou{X:Cx}(r:Rel X W H σ ρ)(f:Sm W H W' H')(a:Addr)(b:yaq)(q:SJ X.K H a b):SJ X.K H' a b:=by
 exact f.keep a _ (λi e=>by obtain⟨_,_,g,d,m⟩:=r.kn i a e;have c:H a=some (.tup b):=q;rw[d]at c;cases c;exact m) q
def Ot{X:Cx}(d:Rel X W' H' R5 Rq)(f:Sm W H W' H')(t:Bool)(a:Addr)(b:yaq)(p:¬W.bad t a)(q:UH X.K H t a b):¬W'.bad t a/\UH X.K H' t a b:=by
 have c:∀i,W.O i≠some a:=λi e=>p (.inr (.inl ⟨i,e⟩))
 refine⟨λb=>?_,?_,λz=>⟨f.keep a _ c (q.2 z).1,(q.2 z).2⟩⟩;rcases b with b|⟨i,b⟩| ⟨e,b⟩;rw[f.B]at b;exact p (.inl b);rcases f.new i a b with⟨j,z⟩| z
 simp_all
 rcases q.1 with(q|⟨o,q⟩)|⟨o,Rt,n,q,_⟩
 lia
 lia
 rw[(d.kn i a b).1]at q;lia;rw[f.S]at b;exact p (.inr (.inr ⟨e,b⟩));rcases q.1 with(q|⟨o,q⟩)|q;exact .inl (.inl (f.keep a _ c q));exact .inl (.inr ⟨o,f.keep a _ c q⟩);exact .inr q
def Den.fwd{X:Cx}(r:Rel X W H σ ρ)(a:Rel X W' H' R5 Rq)(f:Sm W H W' H')(h:Den X.K W.bad H d v):Den X.K W'.bad H' d v :=
 Den.map (Ou r f) (Ot a f) (Ov r f) d v h
abbrev DG:=D->Ro->(Ro->Prop)->Prop
inductive GP (X:Cx) (pins:yab) (W:Own) (H:Hp) (Q:Ro->Prop) (s':Shared):Prop
 |mk (W':Own) (R5:St) (H':Hp) (Rq:Ro) (_:Inv X pins R5 H' s') (_:Sm W H W' H') (_:Rel X W' H' R5 Rq) (_:Q Rq)
abbrev GDP{α:Type}(X:Cx)(pins:yab)(W:Own)(H:Hp)(Q:Ro->Prop)(_:α)(s':Shared):Prop:=GP X pins W H Q s'
def PGD(X:Cx)(a:Expr)(g:DG):Prop :=
 ∀ (b:yab) (s:Shared) (c:St) (H:Hp) (W:Own) (f:Ro) (d:D) (v:V) (u:Value) (Q:Ro->Prop),Inv X b c H s->Rel X W H c f->RelV v u->Den X.K W.bad H d v->g d f Q →
  wpAny (model X.prog X.w) X.A (assign a X.env u) (GDP X b W H Q) X.xe s
abbrev DGs:=yar->Ro->(Ro->Prop)->Prop
def wB(X:Cx)(ts:yai)(t:DGs):Prop :=
 ∀ (a:yab) (s:Shared) (b:St) (H:Hp) (W:Own) (c:Ro) (g:yar) (d:yaq) (f:yad) (Q:Ro->Prop),Inv X a b H s->Rel X W H b c->Vals d f->ah X.K W.bad H g d->t g c Q →
  wpAny (model X.prog X.w) X.A (assignInOrder ((assignEach ts X.env).map (·.2)) f) (GDP X a W H Q) X.xe s
theorem ah.fwd{X:Cx}(r:Rel X W H σ ρ)(c:Rel X W' H' R5 Rq)(f:Sm W H W' H'):∀{a:yar} {b:yaq},ah X.K W.bad H a b->ah X.K W'.bad H' a b
 |[],_,h=>by simpa only[ah]using h
 |d::a,_,h=>by obtain⟨v,q,e,b,a⟩:=h;exact⟨v,q,e,Den.fwd r c f b,ah.fwd r c f a⟩
def gM(i:Nat):DG:=λd a Q=>Q (a.set i (some (.val d)))
def bq{x:Str}(i:Nat)(j:X.N.Nodup)(b:X.N[i]?=some x:=by rfl)(f:Loc X.env.scope x:=by first|exact Or.inl rfl|exact Or.inr rfl)
  (g:X.fn x=true∨X.env.scope.names.lookup x=some .local:=by first|exact .inl rfl|exact .inr rfl|assumption):PGD X (.Name x pos) (gM i):=by
 intro a s k H W l d v u Q I r c d h;exact wpAny_assign_Name (dP I j b f c (λm c=>⟨W.drop i,_,H,_,c,Sm.drop W H i,r.put (Inv.XZ I b) d,h⟩) g)
def k7:DGs:=λb a Q=>b=[]/\Q a
def b9(g:DG)(u:DGs):DGs:=λb a Q=>∃d r,b=d::r/\g d a λa=>u r a Q
def rC:wB X [] k7:=by intro a s b H W c j d f Q I r g i h;obtain⟨e,h⟩:=h;exact assignInOrder_nil ⟨W,b,H,c,I,Sm.refl W H,r,h⟩
def cD{e:Expr}{u:DGs}(k:PGD X e g)(l:wB X es u)(hs:(assignEach (e::es) X.env).map (·.2)=assign e X.env::(assignEach es X.env).map (·.2):=by rfl):wB X (e::es) (b9 g u):=by
 intro a s b H W c z w x Q I r g j h;obtain⟨d,n,f,h⟩:=h;subst f;obtain⟨v,i,m,o,f⟩:=j;subst m;cases g with
 |cons g j =>
  rw[hs];refine assignInOrder_cons (Rw (k a s b H W c d v _ _ I r g o h) λ_ h o=>?_);obtain⟨m,b,q,c,p,g,d,k⟩:=o;exact Rw (l a h b q m c n i _ Q p d j (ah.fwd r d g f) k) λ_ y i=>(by obtain⟨h,a,k,b,j,f,c,d⟩:=i;exact⟨h,a,k,b,j,g.trans f,c,d⟩)
def Aw{h:Heap}(b:h.IsList l items)(hs:Heap.SameBut it h h')(c:l≠it):h'.IsList l items:=by obtain⟨o,a,r⟩:=b;exact⟨o,(hs.2 l c).trans a,r⟩
theorem xY{a l:Addr}(h:l≠a):∀(n i:Nat) (s:Shared) (Q:yad->Shared->Prop),s.heap.IsListIter a l i->s.heap.IsList l items->i+n<=items.size →
  (∀h',h'.IsListIter a l (i+n)->Heap.SameBut a s.heap h'->Q ((items.toList.drop i).take n) {s with heap:=h'})->wpAny (model prog w) A (draw (.ref a) n) Q E s
 |0,i,s,Q,a,_,_,d=>by
  show wpAny _ _ (pure []) Q E s
  simp_all [Rz,Heap.SameBut.refl]
 |n+1,i,s,Q,a,c,j,d=>by
  have g:i<items.size:=by omega
  refine Rm (wpAny_pyNext_list_item a c (x:=items[i]) (by simp[g]) λUx a f=>?_);refine Rm (VT (xY h n (i+1) _ _ a (Aw c f h) (by omega) λc b a=>Rz ?_));have k:items.toList.drop i=items[i]::items.toList.drop (i+1):=by simp[zBZ,g]
  have:=d c (by lia) (f.trans a)
  simp_all
def uo{A:Around}{s:Shared}{Q:yad->Shared->Prop}(hh:A.handled=none)(a:s.heap.IsList l items)
  (g:∀h',Heap.ExtBut s.heap.objs.size s.heap h'->Q items.toList {s with heap:=h'}):wpAny (model prog w) A (unpackItems (.ref l) items.size none) Q E s:=by
 have f:l≠s.heap.objs.size:=by obtain⟨o,c,_⟩:=a;exact Uw (SH c)
 refine Rm ?_;refine Rm (zC8 a.typeIs F.slot_list_iter.lookup ?_);refine Rz ?_;refine Rm (VT (wpAny_pyIter_list a ?_));have b:(s.heap.push {cls:=.type "list_iterator", data:=.fields #[.ref l,rawInt 0]}).IsList l items:=by obtain⟨o,c,r⟩:=a;exact⟨o,T5 _ c,r⟩
 refine Rm (VT (xY f items.size 0 _ _ ⟨_,Vi _ rfl,rfl,rfl⟩ b (by lia) λh c d=>?_));have a:List.take items.size (List.drop 0 items.toList)=items.toList:=by simp_all [List.drop_zero,XJ]
 rw[a];rw[if_neg (by simp)];have a:h.IsList l items:=Aw b d f;refine Rm (VT (wpAny_pyNext_list_end hh c a (by simp) λb a=>?_));refine Rz (g b λb o c e=>a b o c (d.extBut b o c (T5 _ e)))
def k8(n:Nat)(t:DGs):DG:=λd b Q=>∃a,(d=.tup a∨∃ t,d=.lst t a)/\a.length=n/\t a b Q
def qa{t:DGs}{n:Nat}(C:X.calm=true)(h:wB X es t)(z:(assignEach es X.env).length=n:=by rfl)(G:(assignEach es X.env).findIdx? (·.1)=none:=by rfl):PGD X (.Tuple es k pos) (k8 n t):=by
 intro c s i H W x d v u Q I r y B j;obtain⟨E,f,A,j⟩:=j;rcases f with f|⟨M,f⟩;subst f;obtain⟨a,k,q,n,g⟩:=B.UW;subst q;cases y;obtain⟨J,d,m,L⟩:=I.tuple n.w;refine assign_Tuple_tuple (I.ok.hd C) m (by simp[z,<- A,<- d.length,g.len]) G λp l=>?_
 have w:Inv X c i H {s with heap:=p}:=I.kept (t':=s.toks) λb o e=>l b o (Uw (SH e)) e
 exact h c _ i H W x E k _ Q w r (by lia) g j;subst f;obtain⟨a,k,q,_,n,g⟩:=B.UI;subst q;cases y;obtain⟨J,d,m,L⟩:=I.list n;refine Rm (zDP ?_);unfold unpack;rw[G,show(assignEach es X.env).length=J.toArray.size by simp[z,<- A,<- d.length,g.len]];refine Rm (VT (uo (I.ok.hd C) m.isList λp l=>?_));have w:Inv X c i H {s with heap:=p}:=I.kept (t':=s.toks) λb o e=>l b o (Uw (SH e)) e
 exact h c _ i H W x E k _ Q w r (by lia) g j
def YD(K:yac)(W:Own)(H:Hp)(J:It)(f:yar):Prop:=∀(g:yak) (b:Hp),(∀a c,SJ K H a c->SJ K b a c)->(∀t a c,¬W.bad t a->UH K H t a c->¬g t a/\UH K b t a c)->(∀a o,Zq o->H a=some o->b a=some o)->∀i,(i<f.length->J.go i b)/\(∀x a,J.yld i b x a->i<f.length->av b a/\∃d,f[i]?=some d/\Den K g a d x)/\(f.length<=i->J.stop i b)
inductive IDP (X:Cx) (pins:yab) (σ:St) (W:Own) (H:Hp) (tg:Expr) (R:yar->Prop) (Zm:Value) (s2:Shared):Prop
 |mk (it:Addr) (fp:yae) (tn:Nat->Heap->Prop) (J:It) (H':Hp) (ds:yar) (_:Zm=.ref it) (_:Inv X pins σ H' s2) (_:av H H') (_:Turn X.prog X.w X.K tg J fp it tn) (_:tn 0 s2.heap) (_:∀b∈fp,fE X pins H' b) (_:YD X.K W H' J ds) (_:R ds)
def YF(X:Cx)(f b:Expr)(wi:DA):Prop :=
 ∀ (a:yab) (s:Shared) (c:St) (H:Hp) (W:Own) (d:Ro) (R:yar->Prop),Inv X a c H s->Rel X W H c d->wi d R →
  wpAny (model X.prog X.w) X.A (eval b X.env) (λv b=>wpAny (model X.prog X.w) X.A (pyIter v) (IDP X a c W H f R) X.xe b) X.xe s
def YF.of{b:DA}(h:PI X tg iter wi)(k:∀a H W ρ R,Rel X W H a ρ->b ρ R->wi a H λJ H'=>av H H'/\∃c,YD X.K W H' J c/\R c):YF X tg iter b:=by
 intro b s a H W ρ R I r d;refine Rw (h b s a H _ I (k a H W ρ R r d)) λv j a=>Rw a λZm i b=>?_
 obtain⟨a,d,tn,J,H',e,h,T,st,f,g,c,y,q⟩:=b;exact⟨a,d,tn,J,H',c,e,h,g,T,st,f,y,q⟩
def Jp:D->(yar->Prop)->Prop
 |.lst _ a,R=>R a
 |_,_=>False
def Mg(h:Jp x R):∃t a,x=.lst t a/\R a:=by
 cases x<;>first|exact False.elim h|exact⟨_,_,rfl,h⟩
theorem OR(t:Bool)(a:yar)(R:yar->Prop):Jp (.lst t a) R=R a:=rfl
def D0(b:DE):DA:=λa R=>b a λd=>Jp d R
def bb(h:RU X iter ti):YF X tg iter (D0 ti):=by
 refine YF.of (ME h.pe) λp H W a R r b=>⟨W,a,_,r,b,λv H1 d h c q=>?_⟩
 obtain⟨k,j,rfl,q⟩:=Mg q;obtain⟨a,b,rfl,l,g,f⟩:=c.WE;refine⟨a,rfl,⟨b,g.1⟩,h,j,?_,q⟩;intro P' o n h m i;have c:SqL X.K o a b:=(h _ a b l g).2.1;have s:=f.len;refine⟨λa=>?_,λx H3 y a=>?_,λa=>⟨b,c,by lia⟩⟩;obtain⟨v,hv,_⟩:=f.get (i:=i) (d:=j[i]) (by simp[a]);exact⟨b,v,c,hv⟩;obtain⟨a,y⟩:=y;subst a;obtain⟨d,g,a⟩:=f.bI (y b c);exact⟨av.refl _,d,g,Den.map n h m d _ a⟩
noncomputable def ju(lo step:Int)(n:Nat):yar:=(List.range n).map λ(i:Nat)=>D.int (lo+i*step)
def JZ(lo step:Int)(n:Nat):(ju lo step n).length=n:=by simp[ju]
def JY{lo step:Int}{n i:Nat}(h:i<n):(ju lo step n)[i]?=some (D.int (lo+i*step)):=by simp[ju,h]
def Nq(lo c:Int)(n:Nat):It:=⟨λi _=>i<n,λi H x a=>a=H/\x=.int (lo+i*c),λi _=>n<=i⟩
def Kj(K:yac)(W:Own)(H:Hp)(lo c:Int)(n:Nat):YD K W H (Nq lo c n) (ju lo c n):=λP' H' _ _ _ i=>by
 rw[JZ];refine⟨λh=>h,λx H3 y a=>?_,λh=>h⟩;obtain⟨e,b⟩:=y
 simp_all [av.refl,JY,Den.int]
def Cf{P:Program}{w:World}{K:yac}{a:Expr}(b:Addr)(lo c:Int)(n:Nat):Turn P w K a (Nq lo c n) [b] b (λi h=>IsRangeIter h b (lo+(i:Nat)*c) ((n:Int) - (i:Nat)) c) where
 mem:=by simp
 obj:=by grind
 keep:=λi h f st k=>k b (by simp) _ st
 item:=by
  intro X y x z k i a s o H E I j st g;subst y x z;obtain⟨r,q,A,p,m,l⟩:=j b (by simp);have W:=Walks.range (prog:=X.prog) (w:=X.w) (I.ok.hd k) b lo c n;refine W.item i s _ _ g st λv f w hv d C=>?_
  obtain⟨t,rfl⟩:=hv;have B:Inv X a o H {s with heap:=f,toks:=w}:=I.turned (by grind) r q p m l;exact⟨_,rfl,KD (s:={s with heap:=f,toks:=w}) (n := "range_iterator") d rfl rfl (by decide) ⟨.int (lo+i*c),H,B,⟨t,rfl⟩,⟨rfl,rfl⟩,d,by simp_all⟩⟩
 done:=by intro X y x z k i a s o H E I j st g;obtain⟨r,q,A,p,m,l⟩:=j b (by simp);exact wpAny_pyNext_range_end (I.ok.hd k) st (by have:n<=i:=g;lia) λf c=>⟨rfl,I.turned (t':=s.toks) (λb o a e=>c b o a e) r q p m l⟩
 self:=λ_ _ _ _ _ st h=>wpAny_pyIter_rangeiter st h
def kI(lo a c:Int):Nat:=(Builtin.Range.rangeSize lo a c).toNat
def Hz{a b c:Int}(m:-(2 ^ 40)<=a)(Y3:a<2 ^ 40)(l:-(2 ^ 40)<=b)(g:b<2 ^ 40)(k:0<c)(Yw:c<2 ^ 20):Builtin.Range.small a b c=true/\0<=Builtin.Range.rangeSize a b c:=by
 have f:a<b->0<=(b - a - 1) / c/\(b - a - 1) / c<=b - a - 1:=λh=>⟨Int.ediv_nonneg (by lia) (by lia),Int.ediv_le_self _ (by lia)⟩
 have d:a<b->(b - a - 1) / c*c<=b - a - 1:=λh=>Int.ediv_mul_le _ (by lia)
 unfold Builtin.Range.small Builtin.Range.rangeSize;rw[Rv (by simp_all)];by_cases h:a<b;obtain⟨j,i⟩:=f h;have f:=d h;rw[Rv h];generalize (b - a - 1) / c=q at j i f ⊢;simp only[Builtin.Range.rangeFitsLong,zCx,Bool.or_eq_true,decide_eq_true_eq,T8];constructor;rw[Rv (by simp_all)];simp
 lia
 lia
 rw[if_neg h];simp only[Builtin.Range.rangeFitsLong,zCx,Bool.or_eq_true,decide_eq_true_eq,T8];constructor;simp;lia
 lia
def yv{R:yar->Prop}{lo a c:Int}{t u:Tok}{d:Nat}(I:Inv X pins σ H s)(j:-(2 ^ 40)<=lo)(i:lo<2 ^ 40)(h:-(2 ^ 40)<=a)(g:a<2 ^ 40)(f:0<c)(b:c<2 ^ 20)
  (q:R (ju lo c (kI lo a c))):wpAny (model X.prog X.w) X.A (pyIter (.ref s.heap.objs.size)) (IDP X pins σ W H tg R) E {s with heap:=s.heap.push {cls:=.type "range", data:=.fields #[.int lo t,.int a u,.int c v]},toks:=d}:=by
 obtain⟨sm,k⟩:=Hz j i h g f b;refine wpAny_pyIter_range (IsRange.new ..) sm ?_;have f:Inv X pins σ H {s with heap:=s.heap.push {cls:=.type "range", data:=.fields #[.int lo t,.int a u,.int c v]},toks:=d}:=I.kept λb o e=>T5 _ e
 refine⟨(s.heap.push {cls:=.type "range", data:=.fields #[.int lo t,.int a u,.int c v]}).objs.size,[(s.heap.push {cls:=.type "range", data:=.fields #[.int lo t,.int a u,.int c v]}).objs.size],_,_,H,_,rfl,
  f.kept (t':=d) λb o e=>T5 _ e,av.refl H,Cf _ lo c (kI lo a c),?_,λb d=>?_,Kj _ _ _ _ _ _,q⟩
 have h:lo+((0:Nat):Int)*c=lo:=by simp
 have g:((kI lo a c:Nat):Int) - ((0:Nat):Int)=Builtin.Range.rangeSize lo a c:=by unfold kI;lia
 show IsRangeIter _ _ (lo+((0:Nat):Int)*c) (((kI lo a c:Nat):Int) - ((0:Nat):Int)) c;rw[h,g];exact Vi _ rfl;have e:b=(s.heap.push {cls:=.type "range", data:=.fields #[.int lo t,.int a u,.int c v]}).objs.size:=by simpa using d
 subst e;exact f.fpOk (SF _) (f.R7.fresh (SF _))
def CR3(i:Int):Prop:=-(2 ^ 40)<=i/\i<2 ^ 40
def D6(b:DA):DA:=λa R=>b a λa=>∃i j:Int,a=[.int i,.int j]/\CR3 i/\CR3 j/\R (ju i 1 (kI i j 1))
def Ks(b:DA):DA:=λa R=>b a λa=>∃j:Int,a=[.int j]/\CR3 j/\R (ju 0 1 (kI 0 j 1))
def Gj {a b:Expr} {p pos:Pos} (N:Gl X "range") (M:X.mg "range" = none) (Q:Wt X [a,b] ta) (hs:starEach [a,b] X.env=(false,eval a X.env)::starEach [b] X.env:=by rfl) (f:(backTo pos (starEach [b] X.env)).any (·.1)=false:=by rfl) :
  YF X tg (.Call (.Name "range" p) [a,b] [] pos) (D6 ta):=by
 intro c s k H W l R I r h;refine Call_ (di I N M boot_range (PyProof.Rows.callWith_type1 (Rw (Q pos c s k H W l _ I r h) λus s1 Ry=>?_) hs f));obtain⟨vs,H1,g,I1,E,U,O,G⟩:=Ry;obtain⟨i,j,e,⟨a1,a2⟩,⟨b1,b2⟩,q⟩:=G;subst e;obtain⟨v1,u1,rfl,d1,Y⟩:=q9 O;have j:=d1.SK;have i:=Y.SK;subst j i;cases E with
 |cons C d =>
  cases d with
  |cons B d =>
   cases d;obtain⟨t,rfl⟩:=C;obtain⟨t',rfl⟩:=B;refine call_range_2 ?_;exact Rw (yv (W:=W) (R:=R) I1 a1 a2 b1 b2 (by decide) (by decide) q) λZm s2 SQ=>(by obtain⟨L,T,tn,J,H',g,A,z,y,x,w,o,n,m⟩:=SQ;exact⟨L,T,tn,J,H',g,A,z,U.trans y,x,w,o,n,m⟩)
def i9 {a:Expr} {p pos:Pos} (g:Gl X "range") (f:X.mg "range" = none) (i:Wt X [a] ta) (hs:starEach [a] X.env=(false,eval a X.env)::starEach [] X.env:=by rfl) (b:(backTo pos (starEach [] X.env)).any (·.1)=false:=by rfl) :
  YF X tg (.Call (.Name "range" p) [a] [] pos) (Ks ta):=by
 intro a s c H W d R I r h;refine Call_ (di I g f boot_range (PyProof.Rows.callWith_type1 (Rw (i pos a s c H W d _ I r h) λy A f=>?_) hs b));obtain⟨w,H1,a,i,c,m,d,b⟩:=f;obtain⟨j,e,⟨h,g⟩,q⟩:=b;subst e;obtain⟨x,rfl,f⟩:=k6 d;have b:=f.SK;subst b;cases c with
 |cons c b =>
  cases b;obtain⟨t,rfl⟩:=c;refine call_range_1 ?_;exact Rw (yv (W:=W) (R:=R) i (by decide) (by decide) h g (by decide) (by decide) q) λZm z n=>(by obtain⟨k,l,tn,J,o,a,j,i,h,g,f,d,c,b⟩:=n;exact⟨k,l,tn,J,o,a,j,i,m.trans h,g,f,d,c,b⟩)
def pW(wi:DA)(g:DG)(d:DS):DS:=λE a=>wi a λc=>∃Pv:Nat->Ro->Prop,Pv 0 a ∧
 (∀j x a,c[j]?=some x->Pv j a->g x a λb=>d {E with nx:=Pv (j+1),ct:=Pv (j+1),bk:=E.nx} b)/\∀a,Pv c.length a->E.nx a
def cF(y:PassesOwn (model X.prog X.w) X.A X.env X.xe)(hc:X.calm=true)(b:YF X tg iter wi)(G:PGD X tg g)(j:cT X body tb)
  (hs:∀x,foldedSetIterable iter X.env x=pure x:=by intro _;rfl):UQ X (.For tg iter body [] pos) (pW wi g tb):=by
 intro a s f H W k E I r h;refine wpAny_For (Rw (b a s f H W k _ I r h) λv s1 b=>Rw b λZm s2 b=>?_) hs;obtain⟨it,L,tn,J,I,s,e,z,U,T,w,m,p,Pv,q,c,pd⟩:=b;subst e;have d:=r.same U;have h:∀{g:Hp},(∀b∈L,g b=none)->∀b∈L,fE X a g b:=λi b j=>⟨i b j,(m b j).2⟩
 refine codeAny_forLoop_any (λn l=>∃i o E g C,n=s.length - i/\i<=s.length/\Inv X a E g l/\tn i l.heap/\(∀b∈L,g b=none)/\Sm W I o g/\Rel X o g E C/\Pv i C) ?_ s.length ⟨0,W,f,I,k,by simp,UE _,z,w,λb j=>(m b j).1,Sm.refl W I,d,q⟩;rintro n s3 ⟨i,Y,M,N,J,en,hle,I3,Wu,A,k,O,p3⟩;obtain⟨f,l,ys⟩:=p Y.bad N (Ou d k) (Ot O k) (Ov d k) i;by_cases Uo:i<s.length
 ·refine zCk y (Rw (T.item X rfl rfl rfl hc i a s3 M N X.xe I3 (h A) Wu (f Uo)) λrr s4 ⟨u,Q,d⟩=>?_);subst Q;refine zCk y (Rw d λ_ w B=>?_);obtain⟨x,p,I5,z,q,r,f⟩:=B;obtain⟨m,d,hd,UX⟩:=l x p q Uo;have l:=I5.pinned (h f) (T.obj _ _ r);have f:=O.same m;refine zCk y (Rw (G _ w M p Y J d x u _ l f z UX (c i d J hd p3)) λ_ l B=>?_);obtain⟨w,c,z,f,x,f6,p,q⟩:=B;refine zCk y (Rw (j _ l c z w f _ x p q) λf s7 l=>?_);obtain⟨w,p,x,G,c,l⟩:=l;have z:Sm W I w x:=k.trans ((Sm.same m).trans (f6.trans c));have q:Sm W H w x:=(Sm.same U).trans z;have again:∀{c:Ro},Rel X w x p c->Pv (i+1) c->∃m,m<n/\∃i o E g C,m=s.length - i/\i<=s.length/\Inv X a E g s7/\tn i s7.heap/\(∀b∈L,g b=none)/\Sm W I o g/\Rel X o g E C/\Pv i C:=fun {c} g m=>by
   refine⟨s.length - (i+1),by rw[en];exact Nat.sub_lt_sub_left Uo (Nat.lt_succ_self _),i+1,w,p,x,c,rfl,Uo,G.UG,T.keep _ _ _ r λb j o e=>(G.pin (b,o) (Wf _ (Wf _ (jP j e)))).1,λb j=>?_,z,g,m⟩;obtain⟨o,e,d⟩:=T.obj _ _ r b j;exact(G.pin (b,o) (Wf _ (Wf _ (jP j e)))).2.1
  cases f with
  |next=>obtain⟨c,g,b⟩:=l;exact again g b
  |cont=>obtain⟨c,g,b⟩:=l;exact again g b
  |brk=>obtain⟨c,g,l⟩:=l;exact⟨w,p,x,G.UG,q,c,g,l⟩
  |ret v=>obtain⟨b,d,g,c,l⟩:=l;exact⟨w,p,x,G.UG,q,b,d,g,c,l⟩
 have e:i=s.length:=by lia
 refine zCk y (Rw (T.done X rfl rfl rfl hc i a s3 M N X.xe I3 (h A) Wu (ys (by lia))) λrr s4 B=>?_);obtain⟨Q,a⟩:=B;subst Q;subst e;exact wpAny_execs_nil ⟨Y,M,N,a,(Sm.same U).trans k,J,O,pd J p3⟩
def NU(i j:Nat)(b:DA):DS:=λE a=>b a λb=>∃d e,b=[d,e]/\E.nx ((a.set i (some (.val d))).set j (some (.val e)))
def Oa{x y:Str}{a b:Expr}{kt k2 pt2}(i j:Nat)(B:X.calm=true)(C:X.N.Nodup)(E:i≠j)(n:Wt X [a,b] ta)(A:X.N[i]?=some x:=by rfl)(z:X.N[j]?=some y:=by rfl)
  (p:X.env.scope.names.lookup x=some .local:=by rfl) (o:X.env.scope.names.lookup y=some .local:=by rfl)
  (w:swappedStores [.Tuple [.Name x px,.Name y py] kt pt] (.Tuple [a,b] k2 pt2) X.env=pure (some [x,y]):=by rfl)
  (hs:swapsWithSole [.Tuple [.Name x px,.Name y py] kt pt] (.Tuple [a,b] k2 pt2) pos.line X.env=pure false:=by rfl) :
  UQ X (.Assign [.Tuple [.Name x px,.Name y py] kt pt] (.Tuple [a,b] k2 pt2) pos) (NU i j ta):=by
 have l:PA X [a,b] (λb H Q=>∃W c h,Rel X W H b c/\ta c h/\∀d a g,av H a->ah X.K W.bad a g d->h g->Q d a):=by intro pos f s b H Q I q;obtain⟨W,c,h,r,m,k⟩:=q;exact Rw (n pos f s b H W c h I r m) λG J s=>(by obtain⟨d,a,g,x,h,f,m,n⟩:=s;exact⟨d,a,x,h,k d a g f m n⟩)
 refine UQ.of (Pf B C A z E p o l w hs) λb H W c E r k h=>?_
 refine⟨W,c,_,r,h,λd a g f m q=>?_⟩;obtain⟨d,e,rfl,q⟩:=q;obtain⟨v,u,rfl,g,d⟩:=q9 m;have h:i<b.length:=by grind
 have c:j<(b.set i (some v)).length:=by rw[zCG,k];grind
 have b:=(r.same f).put h g;exact⟨v,u,rfl,_,_,(Sm.same f).trans ((Sm.drop W a i).trans (Sm.drop _ a j)),b.put c (d.R9 λ_ _=>Own.Su),q⟩
end
def cG:yah->yar->Ro
 |_::N,d::a=>some (.val d)::cG N a
 |_::N,[]=>none::cG N []
 |[],a=>a.map λd=>some (.val d)
theorem lE:∀(N:yah) (a:yar),cG N a=a.map (λd=>some (.val d))++List.replicate (N.length - a.length) none
 |_::N,d::a=>by rw[cG,lE N a,VS,Ye,Ye,Nat.add_sub_add_right];rfl
 |_::N,[]=>by rw[cG,lE N []];rfl
 |[],a=>by rw[cG,List.length_nil,Nat.zero_sub];simp
theorem Rel.start{X:Cx}{P:Addr->Prop}{H:Hp}(f:∀a,P a->∃o,H a=some o)(h:ah X.K (λt a=>t=true∨P a) H ds vs)(m:X.Sj=H)(c:ig X.K H):Rel X ⟨P,λ_=>none,λa=>∃o,H a=some o⟩ H (start N vs) (cG N ds) where
 val:=λi d e=>by
  rw[lE]at e;have l:=h.len;by_cases b:i<ds.length
  ·rw[WZ (by simp_all),U0]at e;cases q:ds[i]? with
   |none=>simp_all
   |some j =>
    rw[q]at e;have g:j=d:=by simpa using e
    subst g;obtain⟨v,j,g⟩:=h.get q;refine⟨v,?_,g.R9 λk a z=>?_⟩;unfold L2.start;rw[WZ (by simp_all),U0,j];rfl
    ·rcases z with z|⟨j,z⟩| ⟨z,_⟩
     all_goals simp_all
  simp_all [WK,zCb]
 own:=λi d e=>by
  rw[lE]at e;by_cases b:i<ds.length
  all_goals simp_all [WZ,U0,WK,zCb]
 inj:=λi j a h _=>by cases h
 kn:=λi a h=>by cases h
 ke:=λi a h=>by cases h
 bt:=f
 st:=λ_ z=>z
 ent:=by simp_all [av.refl]
 tab:=c
def bG.there(x:bG P w H h a o):∃u,h.get? a=some u:=by
 cases o with
 |lst a=>obtain⟨_,_,_,_,e⟩:=x;simp_all
 |tup a=>obtain⟨_,_,_,a,e,_⟩:=x;simp_all
 |dK b=>obtain⟨_,_,_,_,a,_,_,e,_⟩:=x;simp_all
 |dT b=>obtain⟨_,_,_,_,a,_,_,e,_⟩:=x;simp_all
 |set S n=>obtain⟨a,_,_,_,e,_⟩:=x;simp_all
 |ins C i b=>obtain⟨_,_,_,e,_⟩:=x;simp_all
 |own y=>exact x
 |xd b=>obtain⟨_,⟨a,_,_,e,_⟩,_⟩:=x;simp_all
 |rng lo g=>obtain⟨_,_,_,e⟩:=x;simp_all
 |frz a u=>obtain⟨e,_⟩:=x;simp_all
 |Xb d=>exact⟨_,x⟩
 |met f y=>exact⟨_,x⟩
 |ext c=>obtain⟨_,e,_⟩:=x;exact e
def UA.keptT{h':Heap}(x:UA P w H h)(k:∀b u,(∃o,H b=some o)->h.get? b=some u->h'.get? b=some u):UA P w H h':=λa o e =>
 (x a o e).VY (by grind) (by lia) (by lia)
structure Fl(P:Program)(w:World)(l:List Env)(h₀:Heap)(Sj H:Hp)(B h:Heap):Prop where
 un:Un (Wg l) [] Sj H h₀ h
 R7:UA P w H h
 fr:∀b∈Wg l,Sj b=none/\∃o,h₀.get? b=some o/\∀vs,o.data ≠ .fields vs
 cov:∀b o,h.get? b=some o->((∃u,H b=some u)∨∃ o',h₀.get? b=some o')->b∉Wg l->B.get? b=some o
section
variable{P:Program}{w:World}{l:List Env}{h₀:Heap}{Sj H:Hp}{B h h':Heap}
theorem Fl.free(F:Fl P w l h₀ Sj H B h){b:Addr}(a:b∈Wg l):H b=none:=by obtain⟨n,o,e,_⟩:=F.fr b a;exact F.un.free b o e n (by simp)
def Fl.step(F:Fl P w l h₀ Sj H B h)(st:B.StaysIn h')(g:h.UpToSlots h'):Fl P w l h₀ Sj H B h':=by
 have j:∀b o,b∈Wg l->h₀.get? b=some o->∃a,h'.get? b=some {o with slots:=a}:=λb o a e=>by obtain⟨n,d,c,i⟩:=F.fr b a;rw[e]at c;cases c;obtain⟨m,f⟩:=F.un.slot b o e n a (by simp);obtain⟨k,p⟩:=g b _ f i;grind
 have kp:∀b o,h.get? b=some o->((∃u,H b=some u)∨∃ d,h₀.get? b=some d)->b∉Wg l->h'.get? b=some o:=λb o e c n=>st b o (F.cov b o e c n)
 refine⟨⟨λb o e n a g=>kp b o (F.un.keep b o e n a g) (by simp_all) a,by simp_all,F.un.free,λb o e g=>?_,F.un.VZ,F.un.VB,F.un.Wn⟩,PD.UA.keptT F.R7 (λb u i e=>kp b u e (.inl i) λz=>?_),F.fr,λb o e c n=>?_⟩;by_cases a:b∈Wg l;grind;obtain⟨d,f⟩:=F.un.there b o e g
 simp_all
 obtain⟨o,q⟩:=i;rw[F.free z]at q
 lia
 have:∃a,h.get? b=some a:=by
  rcases c with⟨u,c⟩| ⟨d,c⟩;exact PD.bG.there (F.R7 b u c);exact F.un.there b d c (by simp)
 obtain⟨a,f⟩:=this;have q:=kp b a f c n;rw[e]at q;cases q;exact F.cov b o f c n
end
def CX1(P:Program)(w:World):CXT:=λa H s E e b=>∃(d c:Addr) (f:Hp) (B:Heap) (g:Value),e=.ref d/\b.os=s.os/\AllBare b.gens/\Fl P w a s.heap H f B b.heap/\av H f/\f d=none/\s.heap.get? d=none ∧
 Heap.FlyingW B a d (.ref c) g b.heap/\E (.ref c) none f
def KL:Passes (CX1 P w) X E0:=λ_ _ _ _ _ _ _ h=>by
 obtain⟨_,_,_,_,_,_,_,_,_,_,_,_,_,z⟩:=h
 lia
def MadeX(X:Cx)(Ed:Value->Prop):Prop:=∀(a:yab) (b:St) (H:Hp) (W:Own) (f:Ro) (s:Shared) (e c:Addr) (g:yad) (d:Heap),Inv X a b H s->Rel X W H b f->Heap.MadeExcOf s.heap d e (.ref c) g->Ed (.ref c)->X.xe (.ref e) {s with heap:=d}
def dG(X:Cx)(Ed:Value->Prop):Prop:=∀(a:yab) (b:St) (H:Hp) (W:Own) (c:Ro) (s:Shared) (e:Value) (d:Shared),Inv X a b H s->Rel X W H b c->CX1 X.prog X.w X.stack H s (λc _ _=>Ed c) e d->X.xe e d
section
variable{P:Program}{w:World}{K:yac}{mg:yam}{base:Heap}{N:yah}{qual:Str}{sc:Scope}{f:Addr}{cd:Value}{A:Around}{outer:List Env}{RT:Shared}{Sj:Hp}{E:XK}
def zJ{B:Heap}(I:Inv (c9 (CX1 P w) P w K mg base N qual sc f cd A outer RT Sj E) pins σ H s)(k:av Sj H)(j:H e=none)(g:RT.heap.get? e=none)
  (m:∀b o,s.heap.get? b=some o->((∃u,H b=some u)∨∃ a,RT.heap.get? b=some a)->b∉Wg (envOfC qual sc RT.heap.objs.size f cd::outer)->B.get? b=some o)
  (h:Heap.FlyingW B outer e (.ref c) a0 h') (i:s.heap.UpToSlots h') (l:E (.ref c) none H):CX1 P w outer Sj RT E (.ref e) {s with heap:=h'}:=by
 have p:∀b,((∃u,H b=some u)∨∃ a,RT.heap.get? b=some a)->b∉Wg outer->b∉Wg (envOfC qual sc RT.heap.objs.size f cd::outer):=λb c n z=>by
  rcases c with⟨u,c⟩| ⟨a,c⟩;have:=I.WL b z
  lia
  rcases Tx.mp (I.V0 b z)with q|q;have t:=SH c;have r:RT.heap.objs.size<=b:=by rw[q];exact I.ok.above
  lia
  exact n q
 have F:Fl P w outer RT.heap Sj H B s.heap:=⟨I.base,I.R7,λb a=>⟨I.ok.frf b a,by obtain⟨_,o,e,d⟩:=I.ok.Vo.mem a;exact⟨o,e,d⟩⟩,by grind⟩
 exact⟨e,c,H,B,a0,rfl,I.os,I.bare,F.step h.1 i,k,j,g,h,l⟩
def Qk{Ed:Value->Prop}(p:∀c a H',av Sj H'->Ed c->E c a H'):MadeX (c9 (CX1 P w) P w K mg base N qual sc f cd A outer RT Sj E) Ed:=by
 intro g x H W y s e c B h' I r c m;refine wpAny_leaves_madeW (base:=PySem.W.hideAll s.heap (Wg (envOfC qual sc RT.heap.objs.size f cd::outer))) (h:=s.heap) (outer:=outer) I.ok.frames rfl (λb o q=>PySem.W.of_hideAll _ q)
  (PySem.W.funFrames_hide I.stack λa d b h=>zC6.mpr ⟨a,d,h⟩) c λd t j _ _ i=>?_
 have l:∀{a:Heap},(∀b o,a.get? b=some o->∃h,s.heap.get? b=some h)->a.get? e=none:=fun {a} k=>by
  cases q:a.get? e with
  |none=>rfl
  |some o =>
   obtain⟨h,a⟩:=k e o q;rw[c.new]at a
   lia
 refine zJ (s:=s) (h':=d) I r.ent ?_ (l λb o q=>I.base.there b o q (by intro z;cases z)) (λb o q _ n=>PySem.W.hideAll_get _ q n) j (λb o q d=>?_) (p _ _ _ r.ent m);cases q:H e with
 |none=>rfl
 |some u =>
  obtain⟨o,z⟩:=PD.bG.there (I.R7 e u q)
  simp_all
 exact i b o (c.keeps b o q) d
def MC{Ed:Value->Prop}(l:∀c a H',av Sj H'->Ed c->E c a H'):dG (c9 (CX1 P w) P w K mg base N qual sc f cd A outer RT Sj E) Ed:=by
 intro d p H W t s e h I r b;obtain⟨e,c,H',B,x,rfl,os,a,F,sm,j,i,c,k⟩:=b;refine wpAny_leaves_onW (outer:=outer) I.ok.frames rfl c λb g c=>?_
 have m:=I.Xo os F.un F.R7 a (by simp_all);refine zJ (s:=h) (h':=b) m (r.ent.trans sm) j ?_ (λb o q z n=>F.cov b o q (z.elim .inl λh=>(by obtain⟨a,z⟩:=h;exact .inr (I.base.there b a z (by intro q;cases q)))) n) g c (l _ _ _ (r.ent.trans sm) k);cases q:RT.heap.get? e with
 |none=>rfl
 |some o =>
  obtain⟨a,u⟩:=I.base.there e o q (by intro z;cases z)
  lia
end
section
variable{X:Cx}{k:Nat}{f:Addr}{fd:FuncData}{ps:yah}{sp:DSp}{x:Str}{p pos:Pos}{e:Expr}{es:yai}{t:DA}
def Pn{dds:yar}{g:yaa}(F:aG X.prog X.w X.K X.mg X.base (CX1 X.prog X.w) k f fd ps (aH X.K sp))(m:bS k X.A)(n:Binds X.K fd ps dsv)(h:Vals (dds.map tF) dsv)(hs:∀d∈dds,zb d)
 (I:Inv X pins σ H s) (a:Rel X W H σ ρ) (r:Vals vs us) (i:ah X.K W.bad H ds vs)
  (q:sp (bf ds++dds) Q Ed) (l:∀e b,CX1 X.prog X.w X.stack H s (λc _ _=>Ed c) e b->g e b):wpAny (model X.prog X.w) X.A (call (.ref f) us) (DP X pins σ W H Q) g s:=by
 have g:Vals (vs++dds.map tF) (us++dsv):=r.append h;have j:aH X.K sp (vs++dds.map tF) H (λv h=>av H h/\∃d,Den X.K W.bad h d v/\Q d) (λc _ _=>Ed c) :=
  ⟨W.bad false,bf ds++dds,Q,Ed,a.tab,a.tracked false,(ah.aU (λ_ _=>Own.XW) ds vs i).append (ah.xo hs),q,λd v h e i h=>⟨e,d,Den.back a.tracked i,h⟩,λ_ _ _ _ z=>z⟩
 have a:(us++dsv).length=ps.length:=by rw[<- g.length];exact F.len _ _ _ _ j
 refine wpAny_call (codeAny_mono (F.run X.A X.stack s H ⟨us,[]⟩ (us++dsv) (vs++dds.map tF) _ _ m I.env0 (n s us I.WD a) g j) λc b a=>?_);cases c with
 |error c=>exact l c b a
 |ok b =>
  cases b with
  |ret u =>
   obtain⟨v,j,c,g,b,d,i,h⟩:=I.after a;exact⟨v,j,d,c,g,b,i,h⟩
  |next=>exact False.elim a
  |brk=>exact False.elim a
  |cont=>exact False.elim a
end
set_option tactic.hygienic true in
def LH{K:yac}(X:K.In h)(q:PySem.W.excIn K C bmB newId=true):∃tl N nm b bs d sn sub ab col dd k0 k1 k2 k3 k5 mN,
  h.get? C=some (excClassObj nm b C N bs tl d sn sub ab col dd k0 k1 k2 k3 k5 newId)/\h.Ns N mN/\mN "__init__" = none/\OwnTail h bmB tl:=by
 unfold PySem.W.excIn at q;split at q
 next dd cd sl ho =>
  split at q
  next C' tl k0 k1 k2 k3 n k5 hm hs =>
   simp at q;obtain⟨⟨⟨⟨⟨i,f⟩,a⟩,h⟩,e⟩,c⟩:=q;subst i f;cases cd with
   |mk nm bs g f b d sn sub ab col j =>
    subst hm a;have a:sl=#[k0,k1,k2,k3,some (.builtin n),k5]:=by apply Array.ext';rw[hs]
    subst a;exact⟨tl,f,nm,b,bs,d,sn,sub,ab,col,dd,k0,k1,k2,k3,k5,_,X _ _ ho,.of_isNs (PySem.W.isNs_of_in X e),PySem.W.nsMap_none_of_in X e c,PySem.W.tail_of_in X h⟩
  lia
 lia
abbrev vZ:yad:=[.type "ValueError", .type "Exception", .type "BaseException", .type "object"]
section
variable{X:Cx}{pos:Pos}
def Ah {e:Expr} {es:yai} (j:MadeX X Ed) (k:Gl X x) (c:X.mg x=some (.ref C)) (q:PySem.W.excIn X.K C vZ "ValueError.__new__" = true) (m:X.calm=true) (n:Wt X (e::es) t)
  (f:starEach (e::es) X.env=(false,eval e X.env)::starEach es X.env:=by rfl) (TB:(backTo R6 (starEach es X.env)).any (·.1)=false:=by rfl) (u:(x==("__debug__" : Str))=false:=by decide) :
  UQ X (.Raise (some (.Call (.Name x np) (e::es) [] R6)) none pos) (λ_ ρ=>t ρ λg=>g.length<=sizeLine/\Ed (.ref C)):=by
 intro a s d H W ρ E I r h;obtain⟨e,N,nm,i,bs,l,sn,sub,ab,col,dd,k0,k1,k2,k3,k5,mN,p,o,b,T⟩:=LH I.ok.mod.VC q;have FB:=PySem.F.excBase_ValueError;refine wpAny_Raise_call_subT (C:=C) (nm:=nm) (q:=i) (N:=N) (bs:=bs) (bm:=e) (hdct:=l) (sn:=sn) (sub:=sub) (ab:=ab) (col:=col) (dd:=dd) (k0:=k0) (k1:=k1) (k2:=k2) (k3:=k3) (k5:=k5) FB (mN:=mN) (T.hasType FB.hasBase) (I.ok.hd m)
  (by rw[f];show(false || (backTo R6 (starEach es X.env)).any (·.1))=false;lia) b (mL I k c ⟨rfl,?_⟩ u)
 have b:=n R6 a s d H W ρ _ I r h;rw[f]at b ⊢;refine Calls.evalArgs_plain (Rw b λe f l=>?_);obtain⟨w,m,g,b,g,k,i,z,h⟩:=l;exact⟨rfl,by rw[<- i.len,g.length]at z;exact z,b.bk _ _ p,o.keeps b.bk,T.keeps b.bk,λg i c=>j a d m W ρ f i C e g b (r.same k) c h⟩
def tD{st:Stmt}:UQ X st (λ_ _=>False):=λ_ _ _ _ _ _ _ _ _ h=>h.elim
theorem Rel.wish(r:Rel X W H σ ρ)(E:yaa):Rel (X.wish E) W H σ ρ:=⟨r.val,r.own,r.inj,r.kn,r.ke,r.bt,r.st,r.ent,r.tab⟩
def Rel.Tp(r:Rel (X.wish E) W H σ ρ):Rel X W H σ ρ:=⟨r.val,r.own,r.inj,r.kn,r.ke,r.bt,r.st,r.ent,r.tab⟩
theorem Y1.Tp(h:Y1 (X.wish XE) pins W H E f s'):Y1 X pins W H E f s':=by
 obtain⟨b,c,d,I,a,q⟩:=h;refine⟨b,c,d,I.Tp,a,?_⟩;cases f with
 |next=>obtain⟨a,r,q⟩:=q;exact⟨a,r.Tp,q⟩
 |brk=>obtain⟨a,r,q⟩:=q;exact⟨a,r.Tp,q⟩
 |cont=>obtain⟨a,r,q⟩:=q;exact⟨a,r.Tp,q⟩
 |ret u=>exact q
theorem cT.Z8{st:yal}{t:DS}(h:cT X.Z8 st t):cT X st t:=λa s b H W c E I r d =>
 VI (h a s b H W c E (I.wish _) (r.wish _) d) (λ_ _ q=>q.Tp) λ_ _ z=>False.elim z
noncomputable abbrev Cx.markX(X:Cx)(e:Value):Cx:={X with A:=X.A.mark (some e),calm:=false,xe:=λ_ _=>False}
def Inv.marked(I:Inv X pins σ H s)(e:Value):Inv (Cx.markX X e) pins σ H s :=
 have a:=I.ok
 ⟨⟨a.mod,a.kind,a.glob,a.blt,a.above,a.inj,a.has,a.Y0,(by lia),a.frames,a.stk,a.exf,a.bs,a.bsz,a.XS,a.Zj,a.Vo,a.frf⟩,I.os,I.bare,I.base,I.loc,I.cell,I.free,I.T6,I.pin,I.R7,I.len⟩
def Inv.unmark(J:Inv (Cx.markX X e) pins σ H s)(a:X.Ok):Inv X pins σ H s :=
 ⟨a,J.os,J.bare,J.base,J.loc,J.cell,J.free,J.T6,J.pin,J.R7,J.len⟩
def Rel.marked(r:Rel X W H σ ρ)(e:Value):Rel (Cx.markX X e) W H σ ρ:=⟨r.val,r.own,r.inj,r.kn,r.ke,r.bt,r.st,r.ent,r.tab⟩
def Rel.unmark(r:Rel (Cx.markX X e) W H σ ρ):Rel X W H σ ρ:=⟨r.val,r.own,r.inj,r.kn,r.ke,r.bt,r.st,r.ent,r.tab⟩
def Inv.track(I:Inv X a σ H s)(r:H e=none)(h0:X.RT.heap.get? e=none)(i:e≠X.env.locals)(h:∀x c,X.env.cells.lookup x=some c->c≠e)(m:∀p∈X.pn++a,p.1≠e)
  (g:bG X.prog X.w (L2.upd H e o) s.heap e o):Inv X a σ (L2.upd H e o) s:=by
 refine⟨I.ok,I.os,I.bare,⟨I.base.keep,I.base.slot,λb u q n x=>?_,I.base.there,λb d q=>?_,λb u d q=>?_,λb f q=>?_⟩,I.loc,I.cell,by rw[aC (Ne.symm i)];exact I.free,λx c q=>by rw[aC (h x c q)];exact I.T6 x c q,λp q=>?_,λb u q=>?_,I.len⟩;rw[aC (by lia)];exact I.base.free b u q n x;have:=I.base.VZ b d q;rw[aC (by lia)]
 lia
 have:=I.base.VB b u d q;rw[aC (by lia)]
 lia
 obtain⟨a,this⟩:=I.base.Wn b f q;exact⟨a,by rw[aC (by lia)];lia⟩;obtain⟨l,k,j⟩:=I.pin p q;grind [aC];by_cases a:b=e;grind [aP];rw[aC a]at q;exact(I.R7 b u q).VY (by lia) (λc z=>by rw[aC (by lia)];exact z) λc d z=>by rw[aC (by lia)];exact z
def GL{i:Nat}{n:Str}{Q:Unit->Shared->Prop}(I:Inv X pins σ H s)(w:X.N.Nodup)(u:X.N[i]?=some n)(b:X.env.scope.names.lookup n=some .local)
  (h:∀a,Inv X pins (σ.set i none) H a->Q () a):wpAny M A (do bindName X.env n .none;unbindBehindTheSuite X.env n pos) Q E s:=by
 obtain⟨m,a,t⟩:=id I.loc;refine wpAny_nameGoes_keeps b a (by rw[I.ok.kind];rfl) λB v c f=>h _ ?_
 have a:∀b o,X.RT.heap.get? b=some o->b≠X.env.locals:=λb o e=>Uw (Tt (SH e) I.ok.above)
 refine⟨I.ok,I.os,I.bare,⟨λb o e z h g=>(f.2 b (a b o e)).trans (I.base.keep b o e z h g),λb o e z h g=>?_,I.base.free,λb o e g=>?_,I.base.VZ,I.base.VB,I.base.Wn⟩,⟨_,c,λj y l d k x=>?_⟩,λy c e=>?_,I.free,I.T6,λp s=>?_,λb r e=>?_,by simpa using I.len⟩;obtain⟨m,d⟩:=I.base.slot b o e z h g;exact⟨m,(f.2 b (a b o e)).trans d⟩;obtain⟨h,d⟩:=I.base.there b o e g;exact⟨h,(f.2 b (a b o e)).trans d⟩;by_cases a:j=i
 simp_all [List.getElem?_set]
 rw[Vx (Ne.symm a)]at k;obtain⟨g,h,q⟩:=t j y l d k x;refine⟨g,h,?_⟩;rcases q with⟨k,e⟩| ⟨k,c,e,z⟩;refine .inl ⟨k,?_⟩;have:y≠n:=λe=>a (tO w d (e ▸ u))
 lia
 exact .inr ⟨k,c,e,z.sameBut f (I.cne y c e)⟩;obtain⟨a,z⟩:=I.cell y c e;exact⟨a,z.sameBut f (I.cne y c e)⟩;obtain⟨e,z,g,h,d⟩:=I.pin p s;exact⟨(f.2 p.1 g).trans e,z,g,h,d⟩;refine(I.R7 b r e).VY (λc a a q=>(f.2 c ?_).trans q) (by lia) (by lia);intro z;rcases a with a|a;rw[<- a,z,I.free]at e;lia;rw[z,I.free]at a;lia
def Rel.unset{i:Nat}(r:Rel X W H σ ρ)(l:i<σ.length):Rel X (W.drop i) H (σ.set i none) (ρ.set i none):=by
 have b:∀{j:Nat} {x:Sl},(ρ.set i none)[j]?=some (some x)->j≠i/\ρ[j]?=some (some x):=fun {j x} h=>by
  by_cases g:j=i
  all_goals simp_all [List.getElem?_set,Vx,Ne.symm]
 have e:∀{j:Nat} {a:Addr},(W.drop i).O j=some a->j≠i/\W.O j=some a:=fun {j a} h=>by
  have n:(if j=i then none else W.O j)=some a:=h
  lia
 refine⟨λj d h=>?_,λj m h=>?_,λj k a f c=>r.inj j k a (e f).2 (e c).2,λj a h=>r.kn j a (e h).2,λj a h=>r.ke j a (e h).2,r.bt,r.st,r.ent,r.tab⟩;obtain⟨g,h⟩:=b h;obtain⟨v,f,c⟩:=r.val j d h;exact⟨v,by grind,c.R9 λ_ _=>Own.Su⟩;obtain⟨g,h⟩:=b h;obtain⟨a,b,f,c,d,c⟩:=r.own j m h;exact⟨a,b,by show(if j=i then none else W.O j)=_;lia,by grind,d,by rw[zCG];exact c.R9 (λ_ _=>Own.Su) (Own.V2 l)⟩
def IJ(K:yac)(C:Addr)(i:Nat)(sp:DSp)(t:DA)(a:DS):DS:=λE b=>t b λc=>sp (bf c) (λ_=>E.nx b) λd=>∃c,d=.ref c/\d6 K c/\PySem.W.exmOne K (.ref c) (.ref C)=some true ∧
 a ⟨λa=>E.nx (a.set i none),E.rt,λa=>E.bk (a.set i none),λa=>E.ct (a.set i none)⟩ (b.set i (some (.val (.exc c))))
def Oc{n:Str}{a:Pos}{e:Expr}{es:yai}{c:Stmt}{d:yal}(i:Nat)(F:aG X.prog X.w X.K X.mg X.base (CX1 X.prog X.w) k f fd ps (aH X.K sp))(m:bS k X.A)(q:X.mg g=some (.ref f))(r:PySem.W.keepIn X.K (.ref f)=true)(y:Binds X.K fd ps [])
  (hN:X.N.Nodup) (J:X.mg x=some (.ref C)) (z:Wt X.Z8 (e::es) t) (G:∀v,cT (Cx.markX X v) (c::d) su) (b:Gl X g:=by rfl) (L:Gl X x:=by rfl) (l:X.N[i]?=some n:=by rfl) (Q:X.env.scope.names.lookup n=some .local:=by rfl)
  (M:X.ex=[]:=by rfl) (w:X.stack=X.env::X.outer:=by rfl) (o:X.env.frame=some X.env.locals:=by rfl) (B:(g==("__debug__" : Str))=false:=by decide) (N:(x==("__debug__" : Str))=false:=by decide) (u:starEach (e::es) X.env=(false,eval e X.env)::starEach es X.env:=by rfl) (T:(backTo cp (starEach es X.env)).any (·.1)=false:=by rfl)
  (hs:swapsWith (.Call (.Name g p) (e::es) [] cp) none a.line X.env=pure false:=by rfl) :
  UQ X (.Try [.Expr (.Call (.Name g p) (e::es) [] cp) a] [.ExceptHandler (some (.Name x np)) (some n) (c::d) U] [] [] pos) (IJ X.K C i sp t su):=by
 intro a s j H W A E I c h;refine wpAny_Try_except (zCe (wpAny_Expr_any (Z4 (mL I b q ?_ B)) I.quiet hs));refine PySem.W.callWith_K (h₀:=X.base) I.ok.mod.VC r (VI (z cp a s j H W A _ (I.wish _) (c.wish _) h) (λus s1 ⟨vs,H1,ds,e,r,O,b,q⟩=>⟨e.Tp.WD,?_⟩) λ_ _ z=>False.elim z) u T;have e:=e.Tp;have h:=c.same O;have C:i<j.length:=Inv.XZ I l;refine VI (Pn (dds:=[]) (dsv:=[]) F m y .nil (by simp) e h r b (by rw[YV];exact q) λer y m=>?_) (λu s2 c=>(by obtain⟨v,f,d,d,r2,b,hd2,r⟩:=c;exact wpAny_execs_nil (wpAny_execs_nil ⟨W,j,f,d,Sm.same (O.trans b),A,h.same b,r⟩))) λ_ _ z=>z
 obtain⟨d,c,n,B,a0,rfl,os,g,Ff,sm,Y,f,k,c',b,xk,E,u⟩:=m;cases b;have b:X.A.frames=some (X.env::X.outer):=by rw[<- w];exact I.ok.frames
 rw[w]at k;refine wpAny_looks_onW b o k λh4 b s=>wpAny_landsW b λt o k=>?_
 have T:=(Ff.step b.1 s).step o.1 k;have I5:Inv X a j n {y with heap:=t}:=e.Xo os T.un T.R7 g (by intro b z;cases z);have k:∀{s:Heap},Heap.FlyingW B (X.env::X.outer) d (.ref c) a0 s->ExcAt d c s:=fun {s} x=>by obtain⟨t,w,s,r,B,_⟩:=x.first;exact⟨t,w,s,r,B⟩
 refine wpAny_handleBy_cons (codeAny_handlers_test (mL (Inv.marked I5 (.ref d)) L J ?_ N)) (by intro q;cases q);refine(PySem.W.exm_one I5.WD (ExcAt.ty (k o)) E).here ?_;refine codeAny_handlers_suite_as (lands_againW o λo x J=>?_);have E:=T.step x.1 J;have J:Inv X a j n {y with heap:=o}:=e.Xo os E.un E.R7 g (by intro b z;cases z);have g:Inv X a j (L2.upd n d (.ext (ExcAt d c))) {y with heap:=o}:=by
  refine Inv.track J Y ?_ ?_ (λy c' q z=>?_) (λp U z=>?_) ⟨k x,?_,λh1 h2 q z=>?_⟩;cases q:X.RT.heap.get? d with
  |none=>rfl
  |some o =>
   by_cases m:d∈X.ex;rw[M]at m;cases m;obtain⟨o',b⟩:=e.base.there d o q m;rw[f]at b;cases b
  intro z;obtain⟨m,⟨o,_,_,q,_⟩,_⟩:=e.loc;rw[<- z,f]at q;cases q;obtain⟨w',o,b,_⟩:=e.cell y c' q;rw[z,f]at b;cases b;have:=(e.pin p U).1;rw[z,f]at this;cases this;obtain⟨t,w,s,_⟩:=k x;exact⟨t,s⟩;obtain⟨t,w,s,r,B⟩:=q;exact⟨t,w,z _ s,r,B⟩
 have b:av n (L2.upd n d (.ext (ExcAt d c))):=av.upd Y;refine dP (X:=Cx.markX X (.ref d)) (v:=.ref d) (Inv.marked g (.ref d)) hN l (.inl Q) rfl (λf g=>?_) (.inr Q);have e:Rel X (W.drop i) (L2.upd n d (.ext (ExcAt d c))) (j.set i (some (.ref d))) (A.set i (some (.val (.exc c)))):=((h.same sm).same b).put C (Den.exc aP xk);refine VI (G (.ref d) a f _ _ _ _ _ g (Rel.marked e _) u) (λf s8 c=>?_) λ_ _ z=>False.elim z
 obtain⟨a,σ8,d,e,h,c⟩:=c;have g:Sm W H (a.drop i) d:=(Sm.same ((O.trans sm).trans b)).trans ((Sm.drop W _ i).trans (h.trans (Sm.drop a d i)));refine GL (Inv.unmark e I.ok) hN l Q λs9 b=>⟨a.drop i,_,d,b,g,?_⟩
 cases f with
 |next=>obtain⟨d,a,b⟩:=c;exact⟨_,(Rel.unmark a).unset (Inv.XZ (Inv.unmark e I.ok) l),b⟩
 |brk=>obtain⟨d,a,b⟩:=c;exact⟨_,(Rel.unmark a).unset (Inv.XZ (Inv.unmark e I.ok) l),b⟩
 |cont=>obtain⟨d,a,b⟩:=c;exact⟨_,(Rel.unmark a).unset (Inv.XZ (Inv.unmark e I.ok) l),b⟩
 |ret v=>obtain⟨d,f,a,e,b⟩:=c;exact⟨d,f,a,e.R9 λ_ _=>Own.Su,b⟩
def NP(K:yac)(c:Value)(te:DE):DE:=λa Q=>te a λd=>∃b,PySem.W.kitOne K (tyV d) c=some b/\Q (.bl b)
def jN {p:Pos} {c:Value} (G:Gl X "isinstance") (E:X.mg "isinstance" = none) (C:PE X (.Name x p') (tC cv)) (y:∀u,RelV cv u->u=c) (J:RU X e te)
  (o:starEach [e,.Name x p'] X.env=(false,eval e X.env)::starEach [.Name x p'] X.env:=by rfl) (M:starEach [.Name x p'] X.env=(false,eval (.Name x p') X.env)::starEach [] X.env:=by rfl) (g:(backTo pos (starEach [.Name x p'] X.env)).any (·.1)=false:=by rfl) :
  RU X (.Call (.Name "isinstance" p) [e,.Name x p'] [] pos) (NP X.K c te):=by
 intro f s r H W t Q I a h;have k:PA X [e,.Name x p'] (rV (Ek X te) (rV (tC cv) E4)):=gH J.pe (gH C mS M) o;refine Z4 (di I G E boot_isinstance ?_ (by decide) (by decide));refine PyProof.Rows.callWith_builtin1 (Rw (k pos f s r H (λn i=>∃v d,n=[v,cv]/\av H i/\Den X.K W.bad i d v/\∃b,PySem.W.kitOne X.K (tyV d) c=some b/\Q (.bl b)) I ⟨W,t,_,a,h,λv i d m l j=>⟨v,d,rfl,m,l,j⟩⟩) λO T N=>?_) o g;obtain⟨n,i,q,w,v,d,L,m,l,b,B,j⟩:=N;subst L;cases w with
 |cons A a =>
  cases a with
  |cons z a =>
   cases a;have:=y _ z;subst this;exact Ax q l A B λu=>⟨.bl _,i,_,q.tok u,rfl,m,Den.bl _,j⟩
end
def Ds(base:Heap)(l:List Env)(e:Addr)(cls a0:Value)(h:Heap):Prop:=base.StaysIn h/\base.get? e=none/\h.FunFrames base l/\∃a,h.TracedAtW base e cls a0 a
section
variable{M:Model}{A:Around}{E:yaa}{s:Shared}{base:Heap}{l outer:List Env}{env:Env}{e L:Addr}{cls a0:Value}
def Mh{Q:Unit->Shared->Prop}(d:A.frames=some (env::outer))(f:env.frame=some L)(R:Ds base (env::outer) e cls a0 s.heap)
  (h:∀h',Ds base (env::outer) e cls a0 h'->s.heap.UpToSlots h'->Q () {s with heap:=h'}):wpAny M A (noteFrame (.ref e) env) Q E s:=by
 obtain⟨y,m,x,r,u,c,T,w,t,i,q,g3,o,z,p,g,b,n⟩:=id R;by_cases a:(r==rawInt L)=true;have j:r=rawInt L:=by simp_all
 subst j;exact wpAny_noteFrame_againW (base:=base) (cls:=cls) (a0:=a0) f ⟨u,c,T,w,t,i,q,g3,o,z,p,g,b,n⟩ (h _ R (Heap.UpToSlots.refl _));obtain⟨r,j⟩:=q;subst r;unfold noteFrame;simp only[f];refine Rm (VX i g3 o ?_);refine Rm (VX g b n ?_);rw[if_neg a];refine Rm (zDK g b (by grind) ?_);have g:∀b,b≠T->(s.heap.update T (Obj.mapFields (·.setIfInBounds 3 Value.none))).get? b=s.heap.get? b:=λb a=>Za _ _ (Ne.symm a)
 have k:∀b o,s.heap.get? b=some o->(∀c,o.data ≠ .fields c)->b≠T:=λb o a c q=>by simp_all
 refine wpAny_entryW (base:=base) d (x.of_keeps (by simp_all)) f ((g e (Ne.symm p)).trans i) (λb o a=>(g b (by lia)).trans (y b o a)) m g3 (by grind) j λh' j=>?_
 obtain⟨i,g,f,d⟩:=j;exact h h' ⟨i,m,g,_,f⟩ λb o a c=>d b o (by simp_all) c
def Jm{Q:Unit->Shared->Prop}(a:A.frames=some (env::outer))(b:env.frame=some L)(R:Ds base (env::outer) e cls a0 s.heap)
  (h:∀h',Heap.FlyingW base outer e cls a0 h'->s.heap.UpToSlots h'->Q () {s with heap:=h'}):wpAny M A (leaving env (.ref e)) Q E s:=by
 refine Rm (Mh a b R λj f b=>?_);obtain⟨d,g,c,k,a⟩:=f;refine wpAny_setFlight_noneW (base:=base) d c a λi f a d c=>?_
 obtain⟨_,_,a⟩:=a;exact h i ⟨f,g,a,d⟩ (b.trans λb o d a=>⟨o.slots,c b o d a⟩)
end
def DI(X:Cx)(Ed:Value->Prop):Prop:=∀(b:yab) (f:St) (H:Hp) (W:Own) (g:Ro) (s a:Shared) (d c:Addr) (e:Hp) (B:Heap) (h:Value),Inv X b f H s->Rel X W H f g->a.os=s.os->AllBare a.gens->Fl X.prog X.w X.stack s.heap H e B a.heap->av H e->e d=none->s.heap.get? d=none →
 Ds B X.stack d (.ref c) h a.heap->Ed (.ref c)->X.xe (.ref d) a
section
variable{P:Program}{w:World}{K:yac}{mg:yam}{base:Heap}{N:yah}{qual:Str}{sc:Scope}{f:Addr}{cd:Value}{A:Around}{outer:List Env}{RT:Shared}{Sj:Hp}{E:XK}
def Qg{Ed:Value->Prop}(l:∀c a H',av Sj H'->Ed c->E c a H'):DI (c9 (CX1 P w) P w K mg base N qual sc f cd A outer RT Sj E) Ed:=by
 intro d p H W t s h e c H' B x I r os a F sm j i R k;refine Jm (outer:=outer) I.ok.frames rfl R λb g c=>?_
 have m:=I.Xo os F.un F.R7 a (by simp_all);refine zJ (s:=h) (h':=b) m (r.ent.trans sm) j ?_ (λb o q z n=>F.cov b o q (z.elim .inl λh=>(by obtain⟨a,z⟩:=h;exact .inr (I.base.there b a z (by intro q;cases q)))) n) g c (l _ _ _ (r.ent.trans sm) k);cases q:RT.heap.get? e with
 |none=>rfl
 |some o =>
  obtain⟨a,u⟩:=I.base.there e o q (by intro z;cases z)
  lia
end
section
variable{P:Program}{w:World}{K:yac}{mg:yam}{base:Heap}
structure aw(K:yac)(x qual:Str)(st:Stmt)(f:Addr)(fd:FuncData):Prop where
 ex:∃(oc:Value) (od:Option Addr) (dV kV doc pm:Value) (an:Option Addr) (T7 ct:Value) (osl:Array (yan)),
  fd=PySem.W.fnOf x qual (dg st) (cn st) (ao st) dV kV doc pm an T7 ct/\K.lookup f=some ⟨oc,od,.func fd,osl⟩/\PySem.W.codeIn K T7 qual=true
 kp:PySem.W.keepIn K (.ref f)=true
def aw.okC{x a:Str}{st:Stmt}{f:Addr}{d:FuncData}{N ps:yah}{k:Nat}{sp:DSp}(F:aw K x a st f d)(S:ay N ps (ao st))(j:∀b Q E,sp b Q E->b.length=ps.length)
  (o:∀(c:Value),d.code=c->∀(A:Around) (outer:List Env) (s:Shared) (H:Hp) (E:XK) (Ed:Value->Prop),bS k (A.deeper (envOfC a (ao st) s.heap.objs.size f c))->MadeX (c9 (CX1 P w) P w K mg base N a (ao st) f c A outer s H E) Ed->dG (c9 (CX1 P w) P w K mg base N a (ao st) f c A outer s H E) Ed->DI (c9 (CX1 P w) P w K mg base N a (ao st) f c A outer s H E) Ed →
   ∃ t,cT (c9 (CX1 P w) P w K mg base N a (ao st) f c A outer s H E) (cn st) t/\∀b Q,sp b Q Ed->t {nx:=λ_=>Q .RZ,rt:=Q} (cG N b)):aG P w K mg base (CX1 P w) (k+1) f d ps (aH K sp):=by
 obtain⟨B,y,C,kV,p,u,I,c,G,i,rfl,lk,a⟩:=F.ex;refine Kz lk a S (λa H Q E h=>?_) λA outer s H a Q E l h=>?_
 obtain⟨_,b,_,_,_,_,d,e,_⟩:=h;rw[d.len];grind;obtain⟨r,b,q,Ed,m,n,d,e,g,a⟩:=h;obtain⟨t,h,k⟩:=o c rfl A outer s H E Ed l (Qk a) (MC a) (Qg a);refine⟨_,h.ps,⟨r,λ_=>none,λa=>∃o,H a=some o⟩,_,_,Rel.start n d rfl m,k b q e,λb R5 c Rq f r q=>?_,λb c v d f h q=>?_,λ_ _ _ _ _ _ q=>q,λ_ _ _ _ _ _ q=>q⟩;exact g .RZ .RZ c ⟨λb o e n=>f.kp b o (by lia) e n,f.tb,f.ok⟩ Den.RZ q;refine g d v c ⟨λb o e n=>f.kp b o (by lia) e n,f.tb,f.ok⟩ (h.R9 λt a z=>?_) q;rcases z with z|z;exact .inl (by rw[f.B];exact z);exact .inr (.inr ⟨z.1,by rw[f.S];exact z.2⟩)
def aw.okX{x a:Str}{st:Stmt}{f:Addr}{e:FuncData}{N ps:yah}{k:Nat}{sp:DSp}(F:aw K x a st f e)(S:ay N ps (ao st))(d:∀c Q E,sp c Q E->c.length=ps.length)
  (g:∀(b:Value) (A:Around) (outer:List Env) (s:Shared) (H:Hp) (E:XK) (Ed:Value->Prop),bS k (A.deeper (envOfC a (ao st) s.heap.objs.size f b))->MadeX (c9 (CX1 P w) P w K mg base N a (ao st) f b A outer s H E) Ed->dG (c9 (CX1 P w) P w K mg base N a (ao st) f b A outer s H E) Ed->DI (c9 (CX1 P w) P w K mg base N a (ao st) f b A outer s H E) Ed →
   ∃ t,cT (c9 (CX1 P w) P w K mg base N a (ao st) f b A outer s H E) (cn st) t/\∀c Q,sp c Q Ed->t {nx:=λ_=>Q .RZ,rt:=Q} (cG N c)):aG P w K mg base (CX1 P w) (k+1) f e ps (aH K sp):=aw.okC F S d λb _=>g b
def aw.okN{x a:Str}{st:Stmt}{f:Addr}{e:FuncData}{N ps:yah}{k:Nat}{sp:DSp}(F:aw K x a st f e)(S:ay N ps (ao st))(d:∀b Q E,sp b Q E->b.length=ps.length)
  (g:∀(c:Value) (A:Around) (outer:List Env) (s:Shared) (H:Hp) (E:XK),bS k (A.deeper (envOfC a (ao st) s.heap.objs.size f c)) →
   ∃ t,cT (c9 (CX1 P w) P w K mg base N a (ao st) f c A outer s H E).Z8 (cn st) t/\∀b Q Ed,sp b Q Ed->t {nx:=λ_=>Q .RZ,rt:=Q} (cG N b)):aG P w K mg base (CX1 P w) (k+1) f e ps (aH K sp) :=
 aw.okX F S d λc A outer s H E Ed d _ _ _=>by obtain⟨t,a,k⟩:=g c A outer s H E d;exact⟨t,a.Z8,λb Q h=>k b Q Ed h⟩
def rB{x a:Str}{st:Stmt}{f:Addr}{n:Value}{m j:Option Addr}{d:Array (yan)}{h kV b g e i:Value}(l:K.lookup f=some ⟨n,m,.func (PySem.W.fnOf x a (dg st) (cn st) (ao st) h kV b g j e i),d⟩)
  (c:PySem.W.codeIn K e a=true) (k:PySem.W.keepIn K (.ref f)=true):aw K x a st f (PySem.W.fnOf x a (dg st) (cn st) (ao st) h kV b g j e i):=⟨by grind,k⟩
end
open PySem PySem.Spec PyProof.Rows L2
def SM(P:Program)(w:World)(K:yac)(a:yam)(base:Heap)(x:Str)(k:Nat)(ps:yah)(sp:DSp):Prop :=
 ∃ f b,aG P w K a base (CX1 P w) k f b ps (aH K sp)/\a x=some (.ref f)/\PySem.W.keepIn K (.ref f)=true/\Binds K b ps []
section
variable{X:Cx}{k:Nat}{ps:yah}{sp:DSp}{x:Str}{p pos:Pos}{e:Expr}{es:yai}{t:DA}
def Lu (h:SM X.prog X.w X.K X.mg X.base x k ps sp) (a:bS k X.A) (i:Wt X (e::es) t) (d:Gl X x:=by rfl) (j:(x==("__debug__" : Str))=false:=by decide)
  (g:starEach (e::es) X.env=(false,eval e X.env)::starEach es X.env:=by rfl) (l:(backTo pos (starEach es X.env)).any (·.1)=false:=by rfl):RU X (.Call (.Name x p) (e::es) [] pos) (uH sp [] t):=by
 obtain⟨f,m,F,b,c,f⟩:=h;exact z9 (dds:=[]) (dsv:=[]) F a d b c f .nil (by simp) KL i j g l
def aq (h:SM X.prog X.w X.K X.mg X.base x k ps sp) (a:bS n X.A) (f:Wt X (e::es) t) (b:k<=n:=by decide) (c:Gl X x:=by rfl) (g:(x==("__debug__" : Str))=false:=by decide)
  (d:starEach (e::es) X.env=(false,eval e X.env)::starEach es X.env:=by rfl) (i:(backTo pos (starEach es X.env)).any (·.1)=false:=by rfl):RU X (.Call (.Name x p) (e::es) [] pos) (uH sp [] t):=Lu h (a.mono b) f c g d i
def Ly{n:Str}{f:Pos}{m:Stmt}{o:yal}(i:Nat)(h:SM X.prog X.w X.K X.mg X.base x k ps sp)(q:bS k X.A)(w:X.N.Nodup)(b:X.mg y=some (.ref C))(u:Wt X.Z8 (e::es) t)(a:∀v,cT (Cx.markX X v) (m::o) su)
  (d:Gl X x:=by rfl) (c:Gl X y:=by rfl) (r:X.N[i]?=some n:=by rfl) (z:X.env.scope.names.lookup n=some .local:=by rfl)
  (g:X.ex=[]:=by rfl) (B:X.stack=X.env::X.outer:=by rfl) (j:X.env.frame=some X.env.locals:=by rfl) (A:(x==("__debug__" : Str))=false:=by decide) (l:(y==("__debug__" : Str))=false:=by decide) (s:starEach (e::es) X.env=(false,eval e X.env)::starEach es X.env:=by rfl) (E:(backTo cp (starEach es X.env)).any (·.1)=false:=by rfl)
  (hs:swapsWith (.Call (.Name x p) (e::es) [] cp) none f.line X.env=pure false:=by rfl) :
  UQ X (.Try [.Expr (.Call (.Name x p) (e::es) [] cp) f] [.ExceptHandler (some (.Name y np)) (some n) (m::o) hp] [] [] pos) (IJ X.K C i sp t su):=by
 obtain⟨f,G,F,f,m,n⟩:=h;exact Oc i F q f m n w b u a d c r z g B j A l s E hs
end
theorem NL{CX:CXT}{P:Program}{w:World}{K:yac}{c:yam}{base:Heap}{N:yah}{a:Str}{b:Scope}{f:Addr}{d:Value}{A:Around}{outer:List Env}{s:Shared}{H:Hp}{E:XK}:(c9 CX P w K c base N a b f d A outer s H E).K=K:=rfl
theorem M9(c:Addr):tyV (.exc c)=.ref c:=rfl
theorem Gr(c:Addr):iW (.exc c)=false:=rfl
def kex{K:yac}{t c:Value}{b:Bool}(h:PySem.W.kitOne K t c=some b)(R:Bool->Prop):(∃a,PySem.W.kitOne K t c=some a/\R a)=R b:=by grind
def vO:DSp:=λb Q _=>∃a:yaf,b=[.lst false (a.map .int)]/\a.length<=63/\Q (.bl true)
theorem xW{K:yac}{P:yak}{H:Hp}:∀ns:yaf,ah K P H (ns.map D.int) (ns.map V.int)
 |[]=>ah.nil
 |n::r=>ah.cons (Den.int n) (xW r)
def ON{K:yac}{H:Hp}{a:Addr}{ns:yaf}(b:ns.length<=63)(e:SqL K H a (ns.map V.int))(c:ig K H):aH K vO [.ref a] H (λv _=>v=.bl true) λ_ _ _=>False :=
 ⟨λ_=>False,[.lst false (ns.map D.int)],λd=>d=.bl true,λ_=>False,c,by lia,ah.one (Den.lst (by lia) (.any e) (xW ns)),⟨ns,rfl,b,rfl⟩,λd v H' _ a e=>by subst e;exact a.Zr,λ_ _ _ _ z=>z.elim⟩
def walk{l:PySem.W.OpenLaw}{q:Program}{a:yah}{n:(yam)->Heap->Prop}{i:World->Heap->Prop}{d:DefRec}{K:Params->yac}{k:Nat}{x:Str}(o:l.most=some 63)(c:d.params.defaults=[])(m:bS k callerA)
  (p:∀(w:World) (h:Heap),i w h->(K w.params).In h) (A:∀w:World,tabOf (K w.params)=none)
  (F:∀(w:World) (b:yam) (g:Addr) (h:Heap),(K w.params).In h->h.Ns mainGlobals b->b d.name=some (.ref g) →
   ∃ e:FuncData,(∀(s:Shared) (u:Value),BindsTo s e ⟨[u],[]⟩ [(x,u)])/\∀base:Heap,(K w.params).In base->base.Ns mainGlobals b->aG l.prog w (K w.params) b base (CX1 l.prog w) k g e [x] (aH (K w.params) vO)) :
  PySem.W.WalkO q a n i l.row.toRowW d [] (λf j=>PySem.call f j) :=
 L2.Nb (n:=63) (k:=k) (x:=x) (CX:=λw=>CX1 l.prog w) (sp:=λw=>aH (K w.params) vO) o (by decide) c m p F (λw _ a y a c b=>ON a b ⟨λP t e=>(by rcases c P with z|⟨o,r,z⟩<;>rw[z]at e<;>cases e),by grind⟩) λ_ _ _ _ _ z=>by obtain⟨_,_,_,_,_,_,_,_,_,_,_,_,_,q⟩:=z;lia
def at0{b:Type}(a:b)(r:List b):T9 (a::r) 0=some a:=bU (j:=0) rfl
def at1{c:Type}(a b:c)(r:List c):T9 (a::b::r) 1=some b:=bU (j:=1) rfl
def at2{d:Type}(a b c:d)(r:List d):T9 (a::b::c::r) 2=some c:=bU (j:=2) rfl
def at3{e:Type}(a b c d:e)(r:List e):T9 (a::b::c::d::r) 3=some d:=bU (j:=3) rfl
def JU(a:yar)(i:Int)(Q:D->Prop):dA (.tup a) (.int i) Q=∃d,T9 a i=some d/\Q d:=uW a i Q
def AZ(t:Bool)(a:yar)(i:Int)(Q:D->Prop):dA (.lst t a) (.int i) Q=∃d,T9 a i=some d/\Q d:=uW a i Q
section
variable{a b c d:D}{r:yar}{t:Bool}{Q:D->Prop}
theorem rx0:dA (.tup (a::r)) (.int 0) Q=Q a:=rfl
theorem rx1:dA (.tup (a::b::r)) (.int 1) Q=Q b:=rfl
theorem rx2:dA (.tup (a::b::c::r)) (.int 2) Q=Q c:=rfl
theorem rx3:dA (.tup (a::b::c::d::r)) (.int 3) Q=Q d:=rfl
theorem lx0:dA (.lst t (a::r)) (.int 0) Q=Q a:=rfl
theorem lx1:dA (.lst t (a::b::r)) (.int 1) Q=Q b:=rfl
theorem lx2:dA (.lst t (a::b::c::r)) (.int 2) Q=Q c:=rfl
theorem lx3:dA (.lst t (a::b::c::d::r)) (.int 3) Q=Q d:=rfl
end
theorem qS(i:Int):aU (.int i)=.int i:=rfl
theorem Kd(b:Bool):aU (.bl b)=.bl b:=rfl
theorem yA:aU .RZ=.RZ:=rfl
theorem HR(x:Str):aU (.str x)=.str x:=rfl
theorem HQ(c:Addr):aU (.exc c)=.exc c:=rfl
theorem HS(a:yar):aU (.tup a)=.tup (bf a):=rfl
theorem qU(t:Bool)(a:yar):aU (.lst t a)=.lst false (bf a):=rfl
theorem E8:bf []=[]:=rfl
theorem Cg(d:D)(a:yar):bf (d::a)=aU d::bf a:=rfl
theorem cI{a:Type}(f:a->D)(h:∀x,aU (f x)=f x):∀xs:List a,bf (xs.map f)=xs.map f
 |[]=>by rw[List.map_nil,bf]
 |x::r=>by rw[VS,bf,h,cI f h r]
def mz(ns:yaf):bf (ns.map D.int)=ns.map D.int:=cI _ qS ns
theorem C5(C:Int->Int->Prop)(g:Int->Int->D)(i j:Int)(Q:D->Prop):rdI C g (.int i) (.int j) Q=(C i j/\Q (g i j)):=rfl
theorem iA(g:Int->Int->D)(i j:Int)(Q:D->Prop):fG g (.int i) (.int j) Q=Q (g i j):=rfl
theorem NZ(d:D)(r:Ro)(Q:D->Prop):de 0 (some (.val d)::r) Q=Q d:=rfl
theorem N1(n:Nat)(x:Option Sl)(r:Ro)(Q:D->Prop):de (n+1) (x::r) Q=de n r Q:=rfl
theorem QC(x y:Option Sl)(r:Ro):List.set (x::r) 0 y=y::r:=rfl
theorem QD(n:Nat)(x y:Option Sl)(r:Ro):List.set (x::r) (n+1) y=x::List.set r n y:=rfl
def Qb(k:Bool)(R:Bool->Prop):(∃c,(D.bl k)=.bl c/\R c)=R k:=by lia
def Oj(k:Int)(R:Int->Prop):(∃c,(D.int k)=.int c/\R c)=R k:=by lia
def LG{a:Type}(k:a)(R:a->Prop):(∃c,some k=some c/\R c)=R k:=by lia
def Xu(a b c:D):([a,b,c]:yar).length<=sizeLine:=by simp_all [To]
def Y4(a b:D):([a,b]:yar).length<=sizeLine:=by simp_all [To]
theorem Zx(a:D):([a]:yar).length<=sizeLine:=by simp_all [To]
theorem sz4(a b c d:D):([a,b,c,d]:yar).length<=sizeLine:=by simp_all [To]
def Mb(t:Bool)(xs:yar)(R:yar->Prop):(∃ys,((∃t',[D.lst t xs]=[.lst t' ys]) ∨ [D.lst t xs]=[.tup ys])/\R ys)=R xs:=by lia
def Mc(xs:yar)(R:yar->Prop):(∃ys,((∃t',[D.tup xs]=[.lst t' ys]) ∨ [D.tup xs]=[.tup ys])/\R ys)=R xs:=by lia
def O8(a b:D)(R:D->D->Prop):(∃d e,[a,b]=[d,e]/\R d e)=R a b:=by lia
theorem L5 (a:yar):isT "tuple" (.tup a)=true:=rfl
theorem L0 (t:Bool) (a:yar):isT "list" (.lst t a)=true:=rfl
theorem Gy (a:yar):isT "list" (.tup a)=false:=rfl
theorem LZ (i:Int):isT "int" (.int i)=true:=rfl
theorem Eh (i:Int):isT "bool" (.int i)=false:=rfl
theorem Gw:iW .RZ=true:=rfl
theorem Gx(a:yar):iW (.tup a)=false:=rfl
theorem Gv(t:Bool)(a:yar):iW (.lst t a)=false:=rfl
theorem Gu(i:Int):iW (.int i)=false:=rfl
def CY(i:Int):okD (.int i):=by unfold okD;rw[UK,XX]<;>first|exact⟨rfl,rfl⟩| (intros;contradiction)
def Mm:okD .RZ:=by unfold okD;rw[UK,XX]<;>first|exact⟨rfl,rfl⟩| (intros;contradiction)
def OX(a b c:Int):okD (.tup [.int a,.int b,.int c]):=by exact⟨rfl,rfl⟩
theorem F9(a b c x y z:Int):eqD (.tup [.int a,.int b,.int c]) (.tup [.int x,.int y,.int z])=(decide (a=x) && (decide (b=y) && decide (c=z))):=by unfold eqD;simp only[UK,dq,PyData.eqv,PyData.eqvAll,Bool.and_true];rfl
noncomputable abbrev T3(a b c:Int):D:=.tup [.int a,.int b,.int c]
def CD.lit{n:Int}(h:n≠0/\n.natAbs<2 ^ 64:=by decide):CD i n:=⟨h.1,Tt h.2 (zDN (by decide) (by decide))⟩
def MR(a b:Int)(R:Int->Int->Prop):(∃i j:Int,[D.int a,D.int b]=[.int i,.int j]/\R i j)=R a b:=by lia
def MQ(a:Int)(R:Int->Prop):(∃i:Int,[D.int a]=[.int i]/\R i)=R a:=by lia
def Iu{ns:yaf}{k:Int}(h0:0<=k)(a:k<ns.length):T9 (ns.map D.int) k=some (.int (ns.getD k.toNat 0)):=by grind [bU,List.getElem?_map,List.getElem?_eq_getElem,List.getD_eq_getElem?_getD]
def BN{xs ys:yaf}(h:xs.map D.int=ys.map D.int):xs=ys:=by
 induction xs generalizing ys with
 |nil=>simp_all
 |cons x r ih=>cases ys with
  |nil=>simp at h
  |cons y q =>
   grind
def Ee(n:Nat)(t:DGs)(a:yar)(h:a.length=n)(ρ:Ro)(Q:Ro->Prop):k8 n t (.tup a) ρ Q=t a ρ Q:=by
 unfold k8
 lia
def gdc(g:DG)(u:DGs)(x:D)(r:yar)(ρ:Ro)(Q:Ro->Prop):b9 g u (x::r) ρ Q=g x ρ λa=>u r a Q:=by
 apply propext;unfold b9;constructor
 simp_all
 intro h;exact⟨x,r,rfl,h⟩
def gdn(ρ:Ro)(Q:Ro->Prop):k7 [] ρ Q=Q ρ:=by unfold k7;simp
def Oz(i h g3 g:DG)(a b c d:D)(ρ:Ro)(Q:Ro->Prop):k8 4 (b9 i (b9 h (b9 g3 (b9 g k7)))) (.tup [a,b,c,d]) ρ Q=i a ρ λf=>h b f λe=>g3 c e λj=>g d j Q:=by
 (first|rw[Ee 2 _ _ rfl]|rw[Ee 4 _ _ rfl]);simp only[gdc,gdn]
section
variable{X:Cx}{pos:Pos}
def Rel.putG{i:Nat}{o:HO}(r:Rel X W H σ ρ)(E:i<σ.length)(sm:av H H')(B:H p=none)(C:X.K.lookup p=none)(h':H' p=some o)(u:cZ X.K (λt b=>W.bad t b∨b=p) H' (W.sub σ.length i) x o) :
  Rel X ((W.drop i).put i p) H' (σ.set i (some (.ref p))) (ρ.set i (some (.ob x)))/\Sm W H ((W.drop i).put i p) H':=by
 have g:∀j a,((W.drop i).put i p).O j=some a->(j=i/\a=p)∨(j≠i/\W.O j=some a):=λj a h=>by
  have e:(if j=i then some p else(if j=i then none else W.O j))=some a:=h
  lia
 have m:((W.drop i).put i p).O i=some p:=by show(if i=i then some p else _)=_;lia
 have G:∀j,j≠i->((W.drop i).put i p).O j=W.O j:=λj n=>by show(if j=i then some p else(if j=i then none else W.O j))=_;lia
 have y:∀j k b,W.sub σ.length j k=some b->((W.drop i).put i p).sub σ.length j k=some b:=by grind [we]
 have A:∀t a,((W.drop i).put i p).bad t a->W.bad t a∨a=p:=λt a z=>by
  rcases z with z|⟨j,z⟩| z;exact .inl (.inl z);rcases g j a z with⟨_,q⟩| ⟨_,q⟩
  simp_all
  exact .inl (.inr (.inl ⟨j,q⟩));exact .inl (.inr (.inr z))
 have J:∀{t:Bool} {a:Addr} {c:yaq},UH X.K H t a c->a≠p:=fun {t a c} q z=>by
  rcases q.1 with(q|⟨o,q⟩)|⟨o,Rt,n,q,_⟩
  all_goals lia
 have I:∀(d:D) (v:V),Den X.K W.bad H d v->Den X.K ((W.drop i).put i p).bad H' d v:=Den.map (λ_ _ q=>SJ.same sm q) (λt a c n q=>⟨by grind,q.same sm⟩) (λa _ n q=>sm.kp a _ q n.nt);have l:∀(s:yar) (f:yaq),ah X.K W.bad H s f->ah X.K ((W.drop i).put i p).bad H' s f:=ah.map (λ_ _ q=>SJ.same sm q) (λt a c n q=>⟨by grind,q.same sm⟩) (λa _ n q=>sm.kp a _ q n.nt);refine⟨⟨λj d h=>?_,λj x h=>?_,λj k a e s=>?_,λj a e=>?_,λj a e=>?_,λa h=>let ⟨_,q⟩:=r.bt a h;sm.ex q,λa h=>let ⟨_,q⟩:=r.st a h;sm.ex q,r.ent.trans sm,r.tab.same sm⟩,rfl,rfl,λb o _ q n=>sm.kp b o q n,λj a h=>?_,sm.tb,sm.ok⟩;by_cases f:j=i;grind;rw[Vx (Ne.symm f)]at h;obtain⟨w,e,s⟩:=r.val j d h
 simp_all [Vx,Ne.symm]
 by_cases f:j=i;subst f;rw[List.getElem?_set]at h;split at h;split at h;cases h;exact⟨p,_,m,by simp[E],h',by rw[zCG];exact u.R9 (by grind) (y _)⟩;cases h
 lia
 rw[Vx (Ne.symm f)]at h;obtain⟨a,c,e,s,f,d⟩:=r.own j x h;exact⟨a,c,(by simp_all),by simp_all [Vx,Ne.symm],sm.kp _ _ f d.YA.nt,by rw[zCG];exact d.map l λk b q=>⟨y j k b q,λ_ z=>sm _ _ z⟩⟩;rcases g j a e with⟨d,b⟩| ⟨d,b⟩<;>rcases g k a s with⟨h,f⟩| ⟨h,f⟩
 lia
 obtain⟨_,_,c,q,_⟩:=r.kn k _ f
 lia
 obtain⟨_,_,c,q,_⟩:=r.kn j _ b
 lia
 exact r.inj j k a b f;rcases g j a e with⟨d,b⟩| ⟨d,b⟩;subst b;exact⟨C,⟨λz=>(by obtain⟨o,q⟩:=r.bt _ z;lia),λz=>(by obtain⟨o,q⟩:=r.st _ z;lia)⟩,_,h',u.YA⟩;obtain⟨k,i,c,h,f⟩:=r.kn j a b;exact⟨k,i,c,sm.kp _ _ h f.nt,f⟩;rcases g j a e with⟨d,b⟩| ⟨d,b⟩;subst b;exact r.ent.free B;exact r.ke j a b;grind
def Rel.putOwn2{i:Nat}(r:Rel X W H σ ρ)(d:i<σ.length)(sm:av H H')(a:H p=none)(c:X.K.lookup p=none)(h':H' p=some (.lst vs))(e:ah X.K (λt b=>W.bad t b∨b=p) H' ds vs) :
  Rel X ((W.drop i).put i p) H' (σ.set i (some (.ref p))) (ρ.set i (some (.own ds)))/\Sm W H ((W.drop i).put i p) H':=r.putG d sm a c h' (.lst e)
def ah.apart{K:yac}{H:Hp}(n:H a=none)(k:K.lookup a=none)(h:ah K P H e d)(c:NT o:=by exact True.intro):ah K (λt b=>P t b∨b=a) (L2.upd H a o) e d :=
 ah.map (λ_ _ q=>SJ.same (av.upd n c) q) (λt b f p q=>⟨(λz=>z.elim p λz=>by
  subst z;rcases q.1 with(q|⟨o,q⟩)|⟨o,Rt,m,q,_⟩
  all_goals lia),q.same (av.upd n c)⟩) (λb _ m q=>(av.upd n c).kp b _ q m.nt) e d h
def Rel.mutG{i:Nat}{a:Addr}{o:HO}(r:Rel X W H σ ρ)(I:ρ[i]?=some (some (.ob x)))(m:W.O i=some a)(sa:σ[i]?=some (some (.ref a)))(w:H a=some o)(p:ky o)(s:cZ X.K W.bad H (W.sub σ.length i) x' o') :
  Rel X W (L2.upd H a o') σ (ρ.set i (some (.ob x')))/\Sm W H W (L2.upd H a o'):=by
 have A:∀t,W.bad t a:=λ_=>.inr (.inl ⟨i,m⟩)
 have g:∀b c,SJ X.K H b c->SJ X.K (L2.upd H a o') b c:=λb c q=>by show L2.upd _ _ _ _=_;rw[aC (nU q w (by intro z;subst z;exact p))];exact q
 have l:∀t b c,¬W.bad t b->UH X.K H t b c->¬W.bad t b/\UH X.K (L2.upd H a o') t b c:=λt b c n q=>by
  have x:b≠a:=by grind
  refine⟨n,?_,λz=>⟨by rw[aC x];exact(q.2 z).1,(q.2 z).2⟩⟩;rcases q.1 with(q|⟨u,q⟩)|q;exact .inl (.inl (by grind [aC]));exact .inl (.inr ⟨u,by grind [aC]⟩);exact .inr q
 have f:∀b u,Zq u->H b=some u->L2.upd H a o' b=some u:=λb u n q=>by rw[aC (nU q w (by intro z;subst z;exact p.sol n))];lia
 have B:i<ρ.length:=(by grind);have h:i<σ.length:=(by grind);have t:∀j k b,W.sub σ.length j k=some b->W.sub σ.length j k=some b/\∀d,H b=some (.lst d)->L2.upd H a o' b=some (.lst d):=λj k b q=>⟨q,λd z=>by rw[aC (λe=>we h (r.inj _ _ a (by rw[<- e];exact q) m))];exact z⟩
 have k:∀b u,H b=some u->∃d,L2.upd H a o' b=some d:=by grind [aP,aC]
 refine⟨⟨λj d h=>?_,λj y h=>?_,r.inj,λj b n=>?_,r.ke,λb n=>let ⟨u,q⟩:=r.bt b n;k b u q,λb n=>let ⟨u,q⟩:=r.st b n;k b u q,r.ent.ins (r.ke i a m) w p s.YA.nt,r.tab.upd s.YA.nt (.inr ⟨o,w,p.ne,p.nt⟩)⟩,Sm.upd m w p s.YA.nt⟩;by_cases k:j=i
 simp_all
 rw[Vx (Ne.symm k)]at h;obtain⟨w,p,o⟩:=r.val j d h;exact⟨w,p,Den.map g l f d w o⟩;by_cases k:j=i;subst k;rw[Zb B]at h;cases h;exact⟨a,o',m,sa,aP,s.map (ah.map g l f) (t _)⟩;rw[Vx (Ne.symm k)]at h;obtain⟨b,c,p,o,G,d⟩:=r.own j y h;have x:b≠a:=λe=>k (r.inj j i a (by lia) m)
 exact⟨b,c,p,o,by simp_all [aC],d.map (ah.map g l f) (t _)⟩;obtain⟨e,d,c,E,C⟩:=r.kn j b n;refine⟨e,d,?_⟩;by_cases c:b=a;subst c;exact⟨_,aP,s.YA⟩;grind [aC]
def Rel.YA{i:Nat}{a:Addr}(r:Rel X W H σ ρ)(e:ρ[i]?=some (some (.own ds)))(b:W.O i=some a)(sa:σ[i]?=some (some (.ref a)))(d:H a=some (.lst vs))(c:ah X.K W.bad H Zz vs') :
  Rel X W (L2.upd H a (.lst vs')) σ (ρ.set i (some (.own Zz)))/\Sm W H W (L2.upd H a (.lst vs')):=r.mutG e b sa d True.intro (.lst c)
variable{es:yai}{t:DA}
def NS(i:Nat)(t:DA):DS:=λE a=>t a λb=>b.length<=sizeLine/\E.nx (a.set i (some (.own b)))
def kC{x:Str}(i:Nat)(n:X.N.Nodup)(h:Wt X es t)(j:X.N[i]?=some x:=by rfl)(l:Loc X.env.scope x:=by first|exact Or.inl rfl|exact Or.inr rfl)
  (hs:swapsWith (.List es lpos) (some (.Name x pos')) pos.line X.env=pure false:=by rfl) (m:X.fn x=true∨X.env.scope.names.lookup x=some .local:=by first|exact .inl rfl|exact .inr rfl|assumption) :
  UQ X (.Assign [.Name x pos'] (.List es lpos) pos) (NS i t):=by
 intro a s b H W c E I r d;refine wpAny_Assign_Name (wpAny_List_spliced (Rw (h lpos a s b H W c _ I r d) λk d a=>?_)) hs;obtain⟨f,b,y,c,g,i,h,z,q⟩:=a;rw[<- h.len]at z;refine⟨by rw[<- g.length];exact z,?_⟩;have a:b d.heap.objs.size=none:=c.R7.fresh (by lia);have p:=c.laid (o:=.lst f) (t':=d.toks) (λb u e=>T5 _ e) (by lia) ⟨z,k,0,g,Vi _ rfl⟩;have b:=(r.same i).putOwn2 (Inv.XZ c j) (av.upd (o:=.lst f) a) a (Inv.Um c) aP (ah.apart a (Inv.Um c) h);exact dP (v:=.ref d.heap.objs.size) p n j l rfl (λw a=>⟨_,_,_,a,(Sm.same i).trans b.2,_,b.1,q⟩) m
def Ct(i:Nat)(te:DE):DS:=λE a=>lU a[i]? λb=>te a λd=>b.length<sizeLine/\E.nx (a.set i (some (.own (b++[d]))))
def eK{x:Str}{a:Pos}(i:Nat)(d:RU X e te)(c:X.N[i]?=some x:=by rfl)(hv:Yh X.env.scope x:=by first|exact Or.inl rfl|exact Or.inr (Or.inl rfl)|exact Or.inr (Or.inr rfl))
  (f:(x==("__debug__" : Str))=false:=by decide) (l:(x==("__classdict__" : Str))=false:=by decide)
  (k:attributeBase (.Name x px) "append" X.env (eval (.Name x px) X.env)=eval (.Name x px) X.env:=by rfl)
  (g:((backTo R6 (starEach [e] X.env)).all (λx=>!x.1) && (backToKw R6 (keywordEach [] X.env)).all (λx=>x.1.isSome) && decide ([e].length+([]:List Keyword).length+(if([]:List Keyword).isEmpty then 0 else 1)<30))=true:=by rfl)
  (j:(a.endLine==R6.line)=true:=by rfl) (b:starEach [e] X.env=(false,eval e X.env)::starEach [] X.env:=by rfl) (h:(backTo R6 (starEach [] X.env)).any (·.1)=false:=by rfl)
  (hs:swapsWith (.Call (.Attribute (.Name x px) "append" a) [e] [] R6) none pos.line X.env=pure false:=by rfl) :
  UQ X (.Expr (.Call (.Attribute (.Name x px) "append" a) [e] [] R6) pos) (Ct i te):=by
 have a:=rK (pos:=pos) (KN PySem.F.plainAttrs_list PySem.F.slot_list_append PySem.F.type_list_append yr (fT c hv f l) (gH d.pe mS b) k g j b h) hs;refine UQ.of a λm H W b E r n h=>?_
 obtain⟨d,g,h⟩:=mR h;obtain⟨a,c,j,e,f,l⟩:=r.Xq i d g;refine⟨.ref a,e,.inl ⟨rfl,_,SqL.of f⟩,W,b,_,r,h,λv H' d b k q=>?_⟩;obtain⟨z,q⟩:=q;have d:=b _ _ f;have h:=r.same b;have f:=l.same b;refine⟨a,c,v,rfl,rfl,d,by rw[f.len];exact z,?_⟩;obtain⟨a,i⟩:=h.YA (vs':=c++[v]) g j e d (f.append (ah.one k));exact⟨W,_,(Sm.same b).trans i,a,q⟩
def Rel.freeze{X:Cx}{i:Nat}(r:Rel X W H σ ρ)(e:ρ[i]?=some (some (.own ds))):Rel X (W.drop i) H σ (ρ.set i (some (.val (.lst true ds)))):=by
 obtain⟨a,l,b,m,g,h⟩:=r.Xq i ds e;have f:i<σ.length:=(by grind);have Zy:i<ρ.length:=(by grind);have e:¬(W.drop i).bad true a:=λz=>by
  rcases z with z|⟨j,z⟩| ⟨_,z⟩
  rotate_right
  exact(r.kn i a b).2.1.2 z;exact(r.kn i a b).2.1.1 z;have c:(if j=i then none else W.O j)=some a:=z;by_cases d:j=i
  lia
  rw[if_neg d]at c;exact d (r.inj j i a c b)
 have n:Den X.K (W.drop i).bad H (.lst true ds) (.ref a):=Den.lst e (.new g (r.kn i a b).1) (h.R9 λ_ _=>Own.Su);refine⟨λj x h=>?_,λj x h=>?_,λj k b a d=>?_,λj b a=>?_,λj b a=>?_,r.bt,r.st,r.ent,r.tab⟩;by_cases c:j=i
 simp_all
 rw[Vx (Ne.symm c)]at h;obtain⟨w,a,d⟩:=r.val j x h;exact⟨w,a,d.R9 λ_ _=>Own.Su⟩;by_cases c:j=i
 simp_all
 rw[Vx (Ne.symm c)]at h;obtain⟨b,c,a,d,g,e⟩:=r.own j x h;exact⟨b,c,by show(if j=i then none else W.O j)=_;lia,d,g,e.R9 (λ_ _=>Own.Su) (Own.V2 f)⟩;have c:(if j=i then none else W.O j)=some b:=a;have e:(if k=i then none else W.O k)=some b:=d;by_cases d:j=i
 lia
 by_cases f:k=i
 lia
 rw[if_neg d]at c;rw[if_neg f]at e;exact r.inj j k b c e;have c:(if j=i then none else W.O j)=some b:=a;by_cases d:j=i
 lia
 rw[if_neg d]at c;exact r.kn j b c;have c:(if j=i then none else W.O j)=some b:=a;by_cases d:j=i
 lia
 rw[if_neg d]at c;exact r.ke j b c
def Cv(i:Nat)(t:DS):DS:=λE a=>lU a[i]? λb=>t E (a.set i (some (.val (.lst true b))))
def dI{t:DS}(i:Nat)(h:cT X sts t):cT X sts (Cv i t):=by intro a s c H W d E I r b;obtain⟨f,e,b⟩:=mR b;exact Rw (h a s c H (W.drop i) _ E I (r.freeze e) b) λ_ _ z=>z.up (Sm.drop W H i)
end
noncomputable def dH(env:Env)(ns:yah):List (Str×Addr):=ns.filterMap λn=>(env.cells.lookup n).map λc=>(n,c)
theorem nr:∀{ns:yah} {x:Str} {c:Addr},(dH env ns).lookup x=some c->env.cells.lookup x=some c
 |[],_,_,h=>by cases h
 |n::r,x,c,h=>by
  unfold dH at h;rw[zDQ]at h;cases e:env.cells.lookup n with
  |none =>
   rw[e]at h;exact nr (ns:=r) h
  |some b =>
   rw[e]at h;have a:List.lookup x ((n,b)::dH env r)=some c:=h;rw[List.lookup_cons]at a;cases q:x==n with
   |true =>
    lia
   |false =>
    rw[q]at a;exact nr (ns:=r) a
theorem tu{env:Env}:∀{ns:yah} {x:Str} {c:Addr},x∈ns->env.cells.lookup x=some c->(dH env ns).lookup x=some c
 |[],_,_,h,_=>by cases h
 |n::r,x,c,h,e=>by
  unfold dH;rw[zDQ];by_cases b:x=n;grind;have a:x∈r:=by grind
  have ih:=tu (ns:=r) a e;cases q:env.cells.lookup n with
  |none=>exact ih
  |some a =>
   show List.lookup x ((n,a)::dH env r)=some c;grind
structure CSc(osc sc:Scope)(xs ns:yah):Prop where
 kind:sc.kind=.function
 ZA:∀y∈sc.names,y.2 ≠ .cell
 names:∀y∈sc.names,y.2=.local->sc.names.lookup y.1=some .local
 tgt:∀x∈xs,sc.names.lookup x=some .local
 free:∀y∈sc.names,y.2=.free->y.1∈ns/\osc.names.lookup y.1=some .cell
 cells:∀n∈ns,sc.names.lookup n=some .free/\osc.names.lookup n=some .cell
 nd:(xs++ns).Nodup
def bu(X:Cx)(a:Scope)(ns xs:yah)(C:Addr)(d:Shared)(e:Hp)(b:yae)(c:yaa):Cx :=
 {X with N:=xs++ns,RT:=d,Sj:=e,env:=compEnvC a (dH X.env ns) C X.env,outer:=X.stack,stack:=X.stack,ex:=b,fn:=λ_=>false,pn:=[],xe:=c}
theorem mT{env:Env}(b:env.scope.kind=.function):∀{a:List (Str×NameKind)} {n:Str},a.lookup n=some .free->env.kindOf n=some .cell →
  (a.map λ(n,k)=>if(k==NameKind.free && env.scope.kind==.function && env.kindOf n==some .cell)then(n,NameKind.cell)else(n,k)).lookup n=some .cell
 |[],_,h,_=>by simp at h
 |(m,k)::r,n,h,c=>by have ih:=@mT env b r n;grind
theorem lV{env:Env}:∀{a:List (Str×NameKind)} {n:Str} {k:NameKind},
  (a.map λ(n,k)=>if(k==NameKind.free && env.scope.kind==.function && env.kindOf n==some .cell)then(n,NameKind.cell)else(n,k)).lookup n=some k->(k=.cell∨k=.free) →
  (∃y∈a,y.1=n/\y.2=.free)∨∃ y∈a,y.1=n/\y.2=.cell
 |[],_,_,h,_=>by simp at h
 |(m,j)::r,n,k,h,d=>by
  have a:List.lookup n ((if(j==NameKind.free && env.scope.kind==.function && env.kindOf m==some .cell)=true then(m,NameKind.cell)else(m,j))::(r.map λ(n,k)=>if(k==NameKind.free && env.scope.kind==.function && env.kindOf n==some .cell)then(n,NameKind.cell)else(n,k)))=some k:=h;have c:((∃y∈r,y.1=n/\y.2=.free)∨∃ y∈r,y.1=n/\y.2=.cell)->((∃y∈(m,j)::r,y.1=n/\y.2=.free)∨∃ y∈(m,j)::r,y.1=n/\y.2=.cell):=by grind
  cases hx:n==m with
  |true =>
   by_cases b:(j==NameKind.free && env.scope.kind==.function && env.kindOf n==some .cell)=true
   simp_all
   grind
  |false =>
   by_cases b:(j==NameKind.free && env.scope.kind==.function && env.kindOf m==some .cell)=true;rw[Rv b]at a;simp only[List.lookup_cons,hx]at a;exact c (lV a d);rw[if_neg b]at a;simp only[List.lookup_cons,hx]at a;exact c (lV a d)
def bI(ρ:Ro)(j:Nat):Option Sl:=match ρ[j]? with
 |some (some (.val d))=>some (.val d)
 |_=>none
def kE(a:St)(j:Nat):Option V:=match a[j]? with
 |some (some v)=>some v
 |_=>none
section
variable{X:Cx}{pins:yab}{σ:St}{H:Hp}{s:Shared}{sc:Scope}{ns:yah}{js:yag}{xs:yah}{fp:yae}
def Inv.comp{q:Shared}{x:Hp}{C:Addr}(I:Inv X pins σ H s)(S:CSc X.env.scope sc xs ns)(U:js.length=ns.length/\∀(i:Nat) (j:Nat) (n:Str),js[i]?=some j->ns[i]?=some n->X.N[j]?=some n)(Q:∀b∈fp,fE X pins H b)(L:∀b∈fp,∃o,s.heap.get? b=some o)(hC:s.heap.objs.size<=C)
  (J:q.os=s.os) (hg:AllBare q.gens) (w:∀b o,s.heap.get? b=some o->q.heap.get? b=some o) (Wi:q.heap.Ns C λ_=>none) (M:x C=none) (hs:av H x) (a:∀b o,s.heap.get? b=some o->H b=none->x b=none) (R7:UA X.prog X.w x q.heap) :
  Inv (bu X sc ns xs C s H fp XE) [] (List.replicate xs.length none++js.map (kE σ)) x q:=by
 have kd:X.env.scope.kind=.function:=I.ok.kind;have A:∀y c,(dH X.env ns).lookup y=some c->X.env.cells.lookup y=some c:=λy c e=>nr e
 have d:∀y c,(dH X.env ns).lookup y=some c->∃v,s.heap.IsCell c v:=λy c e=>I.cell y c (A y c e)
 refine⟨⟨I.ok.mod,S.kind,I.ok.glob,I.ok.blt,hC,λy z c l B=>I.ok.inj y z c (A y c l) (A z c B),λy t=>?_,λy c h _=>(by cases h),I.ok.hd,I.ok.frames,.inl rfl,λb g=>?_,I.bs,Sd I.ok.bsz I.sz,λb o e g=>?_,λb g z=>?_,I.stack,I.WL⟩,
  J,hg,⟨λb o e n _ _=>w b o e,λb o e n _ _=>⟨o.slots,w b o e⟩,λb o e n _=>a b o e n,λb o e _=>⟨o,w b o e⟩,λb xs e=>hs b _ e,λb o u e=>hs b _ e,λb f e=>hs.tb b f e⟩,⟨_,Wi,λi y v l B h3=>?_⟩,λy c e=>?_,M,λy c e=>?_,λp f=>absurd (show p∈([]:yab)from f) (by simp),R7,?_⟩
 -- every cell of the block is one of the body's
 have Wr:∃k,((relabel sc X.env).names.lookup y=some k)/\(k=.cell∨k=.free):=by
  rcases t with t|t;exact⟨_,t,.inl rfl⟩;exact⟨_,t,.inr rfl⟩
 obtain⟨k,l,B⟩:=Wr;rcases lV (env:=X.env) l B with⟨z,G,E,N⟩| ⟨z,G,E,N⟩;obtain⟨m1,m2⟩:=S.free z G N;subst E;obtain⟨c,hc⟩:=I.ok.has z.1 (.inl m2);exact⟨c,tu m1 hc⟩;exact absurd N (S.ZA z G);refine⟨λz=>?_,λy c e z=>?_⟩;have z':b=C:=z;obtain⟨o,f⟩:=L b g;have Uo:=SH f
 lia
 exact(Q b g).2.2.2.2.1 y c (A y c e) z;obtain⟨f0,f1,f2,h,f4,f5⟩:=Q b g;rcases h with h|h;exact I.ok.XS b o e h;exact absurd (Tt (SH (I.ok.bs b o e).1) h) (zCr _)
 ·obtain⟨f0,f1,f2,h,f4,f5⟩:=Q b g;rcases Tx.mp (I.V0 b z)with e|e
  all_goals lia
 by_cases hi:i<xs.length
 simp_all [WZ,zCb,Rv]
 have T:ns[i - xs.length]?=some y:=by
  have l:(xs++ns)[i]?=some y:=l
  simp_all [WK]
 have p:(js.map (kE σ))[i - xs.length]?=some (some v):=by simp_all [WK]
 generalize i - xs.length=i at T p;rw[U0]at p;cases e:js[i]? with
 |none=>rw[e]at p;cases p
 |some j =>
  rw[e]at p;have h4:kE σ j=some v:=Yu p;have h5:σ[j]?=some (some v):=by
   unfold kE at h4
   lia
  have hN:=U.2 i j y e T;have r:y∈ns:=UZ T;obtain⟨c1,O⟩:=S.cells y r;obtain⟨m,hm,hl⟩:=I.loc;obtain⟨u,ru,lk⟩:=hl j y v hN h5 (.inr (.inl O));refine⟨u,ru,?_⟩;rcases lk with⟨k1,_⟩| ⟨_,c,E,o,f,m⟩;have Y:X.env.scope.names.lookup y=some .local:=k1;rw[O]at Y;cases Y;exact .inr ⟨.inl (mT kd c1 O),c,tu r E,o,w c o f,m⟩
 obtain⟨v,z⟩:=d y c e;obtain⟨o,f,m⟩:=z;exact⟨v,o,w c o f,m⟩;obtain⟨v,o,f,m⟩:=d y c e;exact a c o f (I.T6 y c (A y c e));show(List.replicate xs.length none++js.map (kE σ)).length=(xs++ns).length;simp[U.1]
def TsD(X:Cx)(a:yai)(t:DT):Prop :=
 ∀ (pins:yab) (s:Shared) (σ:St) (H:Hp) (W:Own) (b:Ro) (Q:Bool->Prop),Inv X pins σ H s->Rel X W H σ b->t b Q →
  wpAny (model X.prog X.w) X.A (forIn a true λc r=>if r=true then do let ok←isTrue c X.env (eval c X.env);pure (ForInStep.yield ok)else pure (ForInStep.yield r)) (DTP X pins σ H Q) X.xe s
def zT:DT:=λ_ Q=>Q true
def cf{X:Cx}:TsD X [] zT:=λ_ s σ H W a Q I r h=>wpAny_tests_nil ⟨H,I,av.refl H,h⟩
def vU{X:Cx}(h:Xr X c t):TsD X [c] t:=λpins s σ H W a Q I r q=>wpAny_tests_one (h pins s σ H W a Q I r q)
def ku(n:Nat)(b ρ:Ro):Prop:=∃a:Ro,a.length=n/\ρ=a++b
def FN{s:Shared}{R:Result->Shared->Prop}{g:Expr}{i:Value}(I:Nat->Shared->Prop)
  (b:∀n s,I n s->wpAny (model prog w) A (pyNext it) (λr k=>match r with
   |none=>R (.ok .next) k
   |some v=>wpAny (model prog w) A (letOwnedTupleGo target it v) (λ_ a=>wpAny (model prog w) A (assign target env v) (λ_ o =>
     wpAny (model prog w) A (forIn ifs true λc r=>if r=true then do let f←isTrue c env (eval c env);pure (ForInStep.yield f)else pure (ForInStep.yield r)) (λf j=>if f=true then wpAny (model prog w) A (eval elt env) (λx l =>
       wpAny (model prog w) A (call (.builtin "list.append") [i,x]) (λ_ d=>∃m,m<n/\I m d) (notedBy (model prog w) A env λe z=>R (.error e) z) l) (notedBy (model prog w) A env λe z=>R (.error e) z) j
      else∃m,m<n/\I m j) (notedBy (model prog w) A env λe z=>R (.error e) z) o) (notedBy (model prog w) A env λe z=>R (.error e) z) a) (notedBy (model prog w) A env λe z=>R (.error e) z) k) (notedBy (model prog w) A env λe z=>R (.error e) z) s)
  (n:Nat) (h:I n s):codeAny (model prog w) A (.compLoop (.ListComp elt [⟨target,g,ifs,0⟩] scope pos) 0 it i env) R s:=by
 refine codeAny_loop rfl I (λm z a=>?_) n h;refine wpAny_noted ?_;refine Rm (zDP (Rm (VI (b m z a) (λr E a=>?_) λ_ _ q=>q)));cases r with
 |none=>exact Rz a
 |some v =>
  refine Rm (VI a (λ_ C a=>?_) λ_ _ q=>q);refine Rm (VI a (λ_ B g3=>Rm (VI g3 (λf u a=>?_) λ_ _ q=>q)) λ_ _ q=>q);cases f with
  |false=>exact Rz ⟨rfl,a⟩
  |true=>exact Rm (Rm (VI a (λy t a=>Rm (VI a (λ_ p a=>Rz (Rz ⟨rfl,a⟩)) λ_ _ q=>q)) λ_ _ q=>q))
def Rel.mutB{X:Cx}{H:Hp}{σ:St}(r:Rel X W H σ ρ)(d:W.B a)(i:H a=some (.lst vs))(h0:X.Sj a=none) :
  Rel X W (L2.upd H a (.lst vs')) σ ρ/\∀b l,ah X.K W.bad H b l->ah X.K W.bad (L2.upd H a (.lst vs')) b l:=by
 have f:∀b c,SJ X.K H b c->SJ X.K (L2.upd H a (.lst vs')) b c:=λb c q=>by show L2.upd _ _ _ _=_;rw[aC (nU q i (by lia))];exact q
 have g:∀t b c,¬W.bad t b->UH X.K H t b c->¬W.bad t b/\UH X.K (L2.upd H a (.lst vs')) t b c:=λt b c n q=>by
  have c:b≠a:=λe=>n (.inl (e ▸ d))
  refine⟨n,?_,λz=>⟨by rw[aC c];exact(q.2 z).1,(q.2 z).2⟩⟩;rcases q.1 with(q|⟨o,q⟩)|q;exact .inl (.inl (by simp_all [aC]));exact .inl (.inr (by grind [aC]));exact .inr q
 have c:∀b u,Zq u->H b=some u->L2.upd H a (.lst vs') b=some u:=λb u n q=>by rw[aC (nU q i (by intro z;subst z;exact n))];lia
 have k:∀b o,H b=some o->∃d,L2.upd H a (.lst vs') b=some d:=by grind [aP,aC]
 refine⟨⟨λj d h=>?_,λj y h=>?_,r.inj,λj b a=>?_,r.ke,λb a=>let ⟨o,q⟩:=r.bt b a;k b o q,λb a=>let ⟨o,q⟩:=r.st b a;k b o q,r.ent.ins h0 i True.intro True.intro,r.tab.upd True.intro (.inr ⟨_,i,(by lia),True.intro⟩)⟩,ah.map f g c⟩;obtain⟨v,i,k⟩:=r.val j d h;exact⟨v,i,Den.map f g c d v k⟩;obtain⟨b,o,i,k,A,d⟩:=r.own j y h;exact⟨b,o,i,k,by rw[aC (λe=>(r.kn j b i).2.1.1 (by lia))];lia,d.map (ah.map f g c) λk c q=>⟨q,λl z=>by rw[aC (λe=>(r.kn _ c q).2.1.1 (by lia))];exact z⟩⟩;obtain⟨x,w,o,p,m⟩:=r.kn j b a;grind [aC]
def Eo(X:Cx)(sc:Scope)(ns:yah)(RR:Value->Addr->Result->Shared->Prop)(D C:Addr):yaa:=notedBy (model X.prog X.w) X.A (compEnvC sc (dH X.env ns) C X.env) λe a=>RR (.ref D) C (.error e) a
def dG.no{X:Cx}:dG X λ_=>False:=λ_ _ _ _ _ _ _ _ _ _ h=>by
 obtain⟨_,_,_,_,_,_,_,_,_,_,_,_,_,z⟩:=h
 lia
end
abbrev DM:=Ro->(LI->Prop)->Prop
def QN(K:yac)(P:yak)(H H':Hp):LI->V->Prop
 |.own d,v=>∃a c,v=.ref a/\H a=none/\K.lookup a=none/\H' a=some (.lst c)/\ah K (λt b=>P t b∨b=a) H' d c
 |.val d,v=>Den K P H' d v
inductive MDP (X:Cx) (pins:yab) (σ:St) (W:Own) (H:Hp) (Q:LI->Prop) (u:Value) (s':Shared):Prop
 |mk (v:V) (H':Hp) (li:LI) (_:Inv X pins σ H' s') (_:RelV v u) (_:av H H') (_:QN X.K W.bad H H' li v) (_:Q li)
def PEM(X:Cx)(e:Expr)(t:DM):Prop :=
 ∀ (a:yab) (s:Shared) (b:St) (H:Hp) (W:Own) (c:Ro) (Q:LI->Prop),Inv X a b H s->Rel X W H b c->t c Q →
  wpAny (model X.prog X.w) X.A (eval e X.env) (MDP X a b W H Q) X.xe s
structure ie(K:yac)(H:Hp)(D:Addr)(n:Nat)(bs:yaj):Prop where
 ok:∀k b,bs k=some b->k<n/\H b=none/\K.lookup b=none/\b≠D
 inj:∀k l b,bs k=some b->bs l=some b->k=l
def ie.nil{K:yac}{H:Hp}{D:Addr}{n:Nat}:ie K H D n λ_=>none:=⟨by lia,by lia⟩
def ie.up{K:yac}{H:Hp}{D:Addr}{n m:Nat}{bs:yaj}(h:ie K H D n bs)(l:n<=m):ie K H D m bs:=⟨λk b q=>let ⟨a,r⟩:=h.ok k b q;⟨Tt a l,r⟩,h.inj⟩
def ie.put{K:yac}{H:Hp}{D a:Addr}{c:List LI}{x:LI}{bs:yaj}(h:ie K H D c.length bs)(n:H a=none)(k:K.lookup a=none)(i:a≠D)(f:∀k,bs k=some a->False) :
  ie K H D (c++[x]).length λk=>if k=c.length then some a else bs k:=⟨λl b q=>by
  rw[Vh,zCj];by_cases e:l=c.length
  lia
  rw[if_neg e]at q;obtain⟨o,j⟩:=h.ok l b q
  lia,λl m b d a=>by
  by_cases g:l=c.length;grind;by_cases e:m=c.length;grind;rw[if_neg g]at d;rw[if_neg e]at a;exact h.inj l m b d a⟩
section
variable{K:yac}{P:yak}{H:Hp}{B:yaj}
theorem bg.V3(f:Den K P H d v):∀{k:Nat} {xs:List LI} {a:yaq},bg K P H B k xs a->bg K P H B k (xs++[.val d]) (a++[v])
 |k,[],_,h=>by subst h;simp only[Z6,bg];simp_all
 |k,.own i::r,_,h=>by obtain⟨b,d,u,rfl,c,a,g,e⟩:=h;exact⟨b,d,_,rfl,c,a,g,bg.V3 f e⟩
 |k,.val e::r,_,h=>by obtain⟨w,u,rfl,c,a⟩:=h;exact⟨w,_,rfl,c,bg.V3 f a⟩
theorem bg.V4{a:Addr}:∀{k:Nat} {xs:List LI} {b:yaq},bg K P H B k xs b->B (k+xs.length)=some a->H a=some (.lst ws)->ah K P H ds ws->bg K P H B k (xs++[.own ds]) (b++[.ref a])
 |k,[],_,h,f,d,c=>by subst h;exact⟨a,ws,[],rfl,by simp_all,d,c,rfl⟩
 |k,.own l::r,_,h,f,d,c=>by obtain⟨b,e,u,rfl,g,a,j,i⟩:=h;exact⟨b,e,_,rfl,g,a,j,bg.V4 i (by rw[<- f];congr 1;simp;lia) d c⟩
 |k,.val e::r,_,h,f,d,c=>by obtain⟨w,u,rfl,g,a⟩:=h;exact⟨w,_,rfl,g,bg.V4 a (by rw[<- f];congr 1;simp;lia) d c⟩
end
section
variable{X:Cx}
def Rel.ban{o:HO}(r:Rel X W H σ ρ)(sm:av H H')(A:H p=none)(B:X.K.lookup p=none)(h':H' p=some o) :
  Rel X ⟨λb=>W.B b∨b=p,W.O,W.S⟩ H' σ ρ/\∀g a,ah X.K W.bad H g a->ah X.K (Own.bad ⟨λb=>W.B b∨b=p,W.O,W.S⟩) H' g a:=by
 have i:∀t a,Own.bad ⟨λb=>W.B b∨b=p,W.O,W.S⟩ t a->W.bad t a∨a=p:=λt a z=>by
  rcases z with(z|z)|z|z;exact .inl (.inl z)
  lia
  exact .inl (.inr (.inl z));exact .inl (.inr (.inr z))
 have s:∀{t:Bool} {a:Addr} {c:yaq},UH X.K H t a c->a≠p:=fun {t a c} q z=>by
  rcases q.1 with(q|⟨o,q⟩)|⟨o,Rt,n,q,_⟩
  all_goals lia
 have m:∀(d:D) (v:V),Den X.K W.bad H d v->Den X.K (Own.bad ⟨λb=>W.B b∨b=p,W.O,W.S⟩) H' d v:=Den.map (λ_ _ q=>SJ.same sm q) (λt a c n q=>⟨by grind,q.same sm⟩) (λa _ n q=>sm.kp a _ q n.nt);have f:∀(g:yar) (e:yaq),ah X.K W.bad H g e->ah X.K (Own.bad ⟨λb=>W.B b∨b=p,W.O,W.S⟩) H' g e:=ah.map (λ_ _ q=>SJ.same sm q) (λt a c n q=>⟨by grind,q.same sm⟩) (λa _ n q=>sm.kp a _ q n.nt);refine⟨⟨λj d h=>?_,λj x h=>?_,r.inj,λj a e=>?_,r.ke,λa h=>?_,λa h=>let ⟨_,q⟩:=r.st a h;sm.ex q,r.ent.trans sm,r.tab.same sm⟩,f⟩;obtain⟨w,e,g⟩:=r.val j d h
 simp_all
 obtain⟨a,c,e,g,k,d⟩:=r.own j x h;exact⟨a,c,e,g,sm.kp _ _ k d.YA.nt,d.map f λl b q=>⟨q,λ_ z=>sm _ _ z⟩⟩;obtain⟨f,⟨y,u⟩,c,d,b⟩:=r.kn j a e;exact⟨f,by lia,c,sm.kp _ _ d b.nt,b⟩;rcases h with h|h;obtain⟨_,q⟩:=r.bt a h;exact sm.ex q;grind
end
section
variable{X:Cx}{pins:yab}{σ:St}{H:Hp}{s:Shared}{sc:Scope}{ns:yah}{js:yag}{xs:yah}{fp:yae}
def YG(X:Cx)(sc:Scope)(ns xs:yah)(cl:List (Str×Addr))(fn:Str->Bool)(C:Addr)(b:Shared)(c:Hp)(fp:yae)(a:yaa):Cx :=
 {X with N:=xs++ns,RT:=b,Sj:=c,env:=compEnvC sc cl C X.env,outer:=X.stack,stack:=X.stack,ex:=fp,fn:=fn,pn:=[],xe:=a}
def fg(X:Cx)(sc:Scope)(cl:List (Str×Addr))(RR:Value->Addr->Result->Shared->Prop)(D C:Addr):yaa:=notedBy (model X.prog X.w) X.A (compEnvC sc cl C X.env) λe a=>RR (.ref D) C (.error e) a
inductive CLI (K:yac) (Y:Cx) (H:Hp) (fp:yae) (Ad:Addr) (ds:yar) (W':Own) (tn:Nat->Heap->Prop) (m:Nat) (cp:Ro) (Pv:Nat->List LI->Prop) (n:Nat) (s':Shared):Prop
 |mk (i:Nat) (W2:Own) (σ2:St) (ρ2:Ro) (H':Hp) (out:List LI) (vs:yaq) (bs:yaj) (_:n=ds.length - i) (_:i<=ds.length) (_:Inv Y [] σ2 H' s') (_:tn i s'.heap) (_:∀b∈fp,H' b=none) (_:H' Ad=some (.lst vs)) (_:W2.B=(λa=>W'.B a∨∃ k,bs k=some a)/\W2.S=W'.S) (_:ie K H Ad out.length bs) (_:∀k b,bs k=some b->∃us,H' b=some (.lst us)) (_:bg K W2.bad H' bs 0 out vs) (_:av H H') (_:Rel Y W2 H' σ2 ρ2) (_:ku m cp ρ2) (_:Pv i out) (_:out.length<=i)
set_option tactic.hygienic true in
def FO{m:Expr}{Ux:Heap}(hc:X.calm=true)
  (he:PEM (YG X sc ns xs cl fn C s H fp (fg X sc cl RR w C)) elt te) (ht:TsD (YG X sc ns xs cl fn C s H fp (fg X sc cl RR w C)) ifs tc) (hg:PGD (YG X sc ns xs cl fn C s H fp (fg X sc cl RR w C)) tg g) (I:Inv X pins σ H s) (r:Rel X W H σ ρ) (T:Turn X.prog X.w X.K tg J fp it tn) (st:tn 0 s.heap) (Y5:∀b∈fp,fE X pins H b) (yd:YD X.K W H J U) (hz:U.length<=sizeLine)
  (Pv:Nat->List LI->Prop) (p0:Pv 0 []) (step:∀j d f a,U[j]?=some d->Pv j f->ku xs.length (js.map (bI ρ)) a->g d a λl=>ku xs.length (js.map (bI ρ)) l/\tc l λb=>if b=true then te l (λe=>Pv (j+1) (f++[e]))else Pv (j+1) f)
  (hRR:∀(h:Shared) (H':Hp) (i:yam) (f:List LI) (bs:yaj),Inv X pins σ H' h->av H H'->h.heap.Ns C i->H' C=none->C≠X.env.locals->X.RT.heap.objs.size<=C->(∀y c,X.env.cells.lookup y=some c->c≠C)->(∀p∈X.pn++pins,p.1≠C) →
   (H w=none/\X.K.lookup w=none/\∃A,H' w=some (.lst A)/\ie X.K H w f.length bs/\(∀k b,bs k=some b->∃E,H' b=some (.lst E))/\bg X.K (λt b=>W.bad t b∨b=w∨∃ k,bs k=some b) H' bs 0 f A)->Pv U.length f->RR (.ref w) C (.ok .next) h)
  (G:H w=none) (hKD:X.K.lookup w=none) (leD:s.heap.objs.size<=w) (WR:s.heap.objs.size<=C) (old:∀b o,s.heap.get? b=some o->Ux.get? b=some o) (hcl:∀y c,cl.lookup y=some c->X.env.cells.lookup y=some c∨s.heap.objs.size<=c)
  (I1:Inv (YG X sc ns xs cl fn C s H fp (fg X sc cl RR w C)) [] (List.replicate xs.length none++js.map (kE σ)) (L2.upd H w (.lst [])) {s with heap:=Ux,toks:=s.toks+([]:List (Str×Value)).length}) :
  codeAny (model X.prog X.w) X.A (.compStart (.ListComp elt [⟨tg,m,ifs,0⟩] sc pos) 0 (.ref it) (.ref w) (compEnvC sc cl C X.env)) (RR (.ref w) C) {s with heap:=Ux,toks:=s.toks+([]:List (Str×Value)).length}:=by
 have O:∀b∈fp,∃o,s.heap.get? b=some o:=λb B=>let ⟨o,e,_⟩:=T.obj 0 s.heap st b B;⟨o,e⟩
 have g:∀{a:Addr} {ws:yaq},SqL X.K H a ws->a≠w:=fun {a ws} q z=>by
  subst z;rcases q with(q|⟨o,q⟩)|⟨o,Rt,n,q,_⟩;rw[G]at q;cases q;rw[G]at q;cases q;rw[hKD]at q;cases q
 let J:Own:=⟨λa=>W.bad false a∨a=w,λ_=>none,W.S⟩
 have bad':∀t a,J.bad t a↔(W.bad t a∨a=w):=λt a=>⟨λz=>by
  rcases z with(z|z)|⟨_,q⟩| ⟨z1,Y⟩;exact .inl (Own.XW z);exact .inr z;cases q;exact .inl (.inr (.inr ⟨z1,Y⟩)),λz=>by
  rcases z with z|z;rcases z with z|z|z;exact .inl (.inl (.inl z));exact .inl (.inl (.inr (.inl z)));exact .inr (.inr z);exact .inl (.inr z)⟩
 have hT:∀{H':Hp},av H H'->∀a A,SJ X.K H a A->SJ X.K H' a A:=λsm a A q=>SJ.same sm q
 have hL:∀{H':Hp},av H H'->∀t a A,¬W.bad t a->UH X.K H t a A->¬J.bad t a/\UH X.K H' t a A:=λsm t a A n q=>⟨λz=>((bad' t a).mp z).elim n (g q.1),q.same sm⟩
 have N:Rel (YG X sc ns xs cl fn C s H fp (fg X sc cl RR w C)) J (L2.upd H w (.lst [])) (List.replicate xs.length none++js.map (kE σ)) (List.replicate xs.length none++js.map (bI ρ)):=by
  have sm:av H (L2.upd H w (.lst [])):=av.upd G;have Q:∀{i:Nat} {z:Sl},(List.replicate xs.length none++js.map (bI ρ))[i]?=some (some z)->¬i<xs.length/\(js.map (bI ρ))[i - xs.length]?=some (some z):=fun {i z} h=>by by_cases M:i<xs.length;rw[WZ (by simpa using M),zCb,Rv M]at h;cases h;rw[WK (by simpa using M)]at h;exact⟨M,by simpa using h⟩
  refine⟨λi d h=>?_,λi x h=>?_,λi j a h _=>(by cases h),λi a h=>(by cases h),λi a h=>(by cases h),λa h=>?_,λa h=>?_,sm,r.tab.same sm⟩;obtain⟨M,g⟩:=Q h;rw[U0]at g;cases e:js[i - xs.length]? with
  |none=>rw[e]at g;cases g
  |some j =>
   rw[e]at g;have L:bI ρ j=some (.val d):=Yu g;have h5:ρ[j]?=some (some (.val d)):=by unfold bI at L;split at L;rename_i u q;cases L;exact q;cases L
   obtain⟨v,e1,e2⟩:=r.val j d h5;refine⟨v,?_,Den.map (hT sm) (hL sm) (λa _ n q=>sm.kp a _ q n.nt) d v e2⟩;rw[WK (by simpa using M)];show(js.map (kE σ))[i - (List.replicate xs.length (none:Option V)).length]?=some (some v);rw[List.length_replicate,U0,e];show some (kE σ j)=some (some v);unfold kE;rw[e1]
  obtain⟨M,g⟩:=Q h;rw[U0]at g;cases e:js[i - xs.length]? with
  |none=>rw[e]at g;cases g
  |some j =>
   rw[e]at g;have L:bI ρ j=some (.ob x):=Yu g;unfold bI at L;split at L<;>cases L
  rcases h with h|h;obtain⟨o,q⟩:=r.tracked false a h;exact sm.ex q;rw[h];exact⟨_,aP⟩;obtain⟨o,q⟩:=r.st a h;exact sm.ex q
 have ZE:∀{H':Hp},(∀b∈fp,H' b=none)->∀b∈fp,fE (YG X sc ns xs cl fn C s H fp (fg X sc cl RR w C)) [] H' b:=λhn b B=>by
  obtain⟨f0,r,f2,Q,j,M⟩:=Y5 b B;obtain⟨o,g⟩:=O b B;refine⟨hn b B,λz=>?_,λz=>?_,.inl B,λy c e z=>(hcl y c e).elim (λe=>j y c e z) λq=>absurd (SH g) (by rw[<- z];exact Xa.mpr q),λp hp=>absurd (show p∈([]:yab)from hp) (by simp)⟩;have z':b=C:=z;have Uo:=SH g;rw[z']at Uo;exact absurd (Tt Uo WR) (zCr _);rcases Tx.mp (I.V0 b z)with e|e;exact r e;exact f2 e
 have Zk:∀b∈fp,(b∈X.ex∨X.RT.heap.objs.size<=b)/\b≠X.env.locals/\(∀x c,X.env.cells.lookup x=some c->c≠b)/\∀p∈X.pn++pins,p.1≠b:=λb B=>by obtain⟨f0,r,f2,Q,j,M⟩:=Y5 b B;exact⟨Q,r,j,M⟩
 have BD0:J.B w:=.inr rfl;have loop:∀j:Shared,j={s with heap:=Ux,toks:=s.toks+([]:List (Str×Value)).length} →
   codeAny (model X.prog X.w) X.A (.compLoop (.ListComp elt [⟨tg,m,ifs,0⟩] sc pos) 0 (.ref it) (.ref w) (compEnvC sc cl C X.env)) (RR (.ref w) C) j:=by
  rintro j rfl;refine FN (CLI X.K (YG X sc ns xs cl fn C s H fp (fg X sc cl RR w C)) H fp w U J tn xs.length (js.map (bI ρ)) Pv) ?_ U.length
   ⟨0,J,_,_,_,[],[],λ_=>none,by simp,UE _,I1,T.keep 0 s.heap Ux st (λb B o e=>old b o e),λb B=>?_,aP,⟨by funext a;simp,rfl⟩,ie.nil,(λ_ _ h=>by cases h),by simp only[bg],av.upd G,N,⟨_,by simp,rfl⟩,p0,SF _⟩
  rotate_left
  obtain⟨o,g⟩:=O b B;rw[aC (λz=>absurd (SH g) (by rw[z];exact Xa.mpr leD))];exact(Y5 b B).1;rintro n s3 ⟨i,W2,σ2,l,H3,f,A,bs,en,hle,I3,Wu,fr3,hD3,g,r,hls,hds3,x,M,Q,p3,ol⟩;have O:∀{j:Own} {H':Hp} {N:St} {m:Ro},(j.B=(λa=>J.B a∨∃ k,bs k=some a)/\j.S=J.S)->Rel (YG X sc ns xs cl fn C s H fp (fg X sc cl RR w C)) j H' N m->av H H'->∀t a A,¬W.bad t a->UH X.K H t a A->¬j.bad t a/\UH X.K H' t a A:=fun {j H' N m} hw rl sm t a A n q=>by
   refine⟨λz=>?_,q.same sm⟩;rcases z with z|⟨k,z⟩| ⟨z1,Y⟩;rw[hw.1]at z;rcases z with z|⟨k,z⟩;exact(hL sm t a A n q).1 (.inl z);obtain⟨_,N,kk,_⟩:=r.ok k a z;rcases q.1 with(j|⟨o,j⟩)|⟨o,Rt,m,j,_⟩;rw[N]at j;cases j;rw[N]at j;cases j;rw[kk]at j;cases j;have N:H a=none:=rl.ke k a z;rcases q.1 with(j|⟨o,j⟩)|⟨o,Rt,m,j,_⟩;rw[N]at j;cases j;rw[N]at j;cases j;have kk:X.K.lookup a=none:=(rl.kn k a z).1;rw[kk]at j;cases j;rw[hw.2]at Y;exact(hL sm t a A n q).1 (.inr (.inr ⟨z1,Y⟩))
  obtain⟨j,yy,ys⟩:=yd W2.bad H3 (hT x) (O g M x) (λa _ n q=>x.kp a _ q n.nt) i;by_cases Uo:i<U.length;refine Rw (T.item (YG X sc ns xs cl fn C s H fp (fg X sc cl RR w C)) rfl rfl rfl hc i [] s3 _ H3 _ I3 (ZE fr3) Wu (j Uo)) λrr s4 ⟨u,hr,L⟩=>?_
  subst hr;refine Rw L λ_ s5 Y=>?_
  obtain⟨x5,H5,I5,r5,L,O,j⟩:=Y;obtain⟨e5,d,hd,UX⟩:=yy x5 H5 L Uo;have L:=I5.pinned (ZE j) (T.obj _ _ O);have j:=M.same e5;have sm5:av H H5:=x.trans e5;refine VI (hg _ s5 σ2 H5 W2 l d x5 u _ L j r5 UX (step i d f l hd p3 Q)) (λ_ s6 Y=>?_) (λ_ _ z=>z);obtain⟨u,σ6,H6,ρ6,I6,M,L,cap6,q6⟩:=Y;have Q:u.B=(λa=>J.B a∨∃ k,bs k=some a)/\u.S=J.S:=⟨M.B.trans g.1,M.S.trans g.2⟩;have sm6:av H H6:=⟨λb o e n=>M.kp b o (λk z=>by have N:H b=none:=j.ke k b z;rw[e]at N;cases N) (sm5.kp b o e n) n,(λb l e=>by obtain⟨n,e1⟩:=sm5.tb b l e;obtain⟨l,e2⟩:=M.tb b _ e1;exact⟨n++l,by rw[e2,Array.append_assoc]⟩),λh=>M.ok (sm5.ok h)⟩;have BD:J.B w:=.inr rfl;have hD6:H6 w=some (.lst A):=M.keep w _ (λk z=>(j.kn k w z).2.1.1 (by rw[g.1];exact .inl BD)) (e5 _ _ hD3);have h:bg X.K W2.bad H5 bs 0 f A:=hds3.map (λ_ _ z=>z.same e5) λ_ _ q=>⟨q,λ_ z=>e5 _ _ z⟩
  have N:∀k b,bs k=some b->∃E,H6 b=some (.lst E):=λk b q=>let ⟨E,z⟩:=hls k b q;⟨E,M.keep b _ (λl y=>(j.kn l b y).2.1.1 (by rw[g.1];exact .inr ⟨k,q⟩)) (e5 _ _ z)⟩
  have n:bg X.K u.bad H6 bs 0 f A:=h.map (λ_ _ z=>ah.fwd j L M z) λk b q=>⟨q,λE z=>M.keep b _ (λl y=>(j.kn l b y).2.1.1 (by rw[g.1];exact .inr ⟨k,q⟩)) z⟩
  have M:∀{h:St} {H7:Hp} {j:Shared},Inv (YG X sc ns xs cl fn C s H fp (fg X sc cl RR w C)) ([]++vq fp s5.heap) h H7 j->tn (i+1) j.heap/\∀b∈fp,H7 b=none:=fun {h H7 j} h=>by refine⟨T.keep _ _ _ O λb B o e=>(h.pin (b,o) (Wf _ (Wf _ (jP B e)))).1,λb B=>?_⟩;obtain⟨o,e,_⟩:=T.obj _ _ O b B;exact(h.pin (b,o) (Wf _ (Wf _ (jP B e)))).2.1
  refine VI (ht _ s6 _ H6 u _ _ I6 L q6) (λb j Y=>?_) (λ_ _ z=>z);obtain⟨H7,h,l,O⟩:=Y;cases b with
  |false =>
   rw[if_neg zB7]at O;rw[if_neg zB7];obtain⟨t7,f7⟩:=M h;exact⟨U.length - (i+1),by rw[en];exact Nat.sub_lt_sub_left Uo (Nat.lt_succ_self _),i+1,u,σ6,ρ6,H7,f,A,bs,rfl,Uo,h.UG,t7,f7,l _ _ hD6,Q,r,(λk b q=>let ⟨E,z⟩:=N k b q;⟨E,l _ _ z⟩),n.map (λ_ _ z=>z.same l) (λ_ _ q=>⟨q,λ_ z=>l _ _ z⟩),sm6.trans l,L.same l,cap6,O,by lia⟩
  |true =>
   rw[Rv rfl]at O;rw[Rv rfl];refine VI (he _ j _ H7 u _ _ h (L.same l) O) (λu8 s8 Y=>?_) (λ_ _ z=>z);obtain⟨v8,H8,e8,I8,r8,j,hd8,q8⟩:=Y;have h:=l.trans j;have hD8:=h _ _ hD6;have rl7:=L.same l;have L:bg X.K u.bad H7 bs 0 f A:=n.map (λ_ _ z=>z.same l) λ_ _ q=>⟨q,λ_ z=>l _ _ z⟩
   have smH:av H H8:=sm6.trans h;obtain⟨W8,n,hW8,O,hls8,rl8,hds8,hlen8⟩:∃(W8:Own) (n:yaj),(W8.B=(λa=>J.B a∨∃ k,n k=some a)/\W8.S=J.S)/\ie X.K H w (f++[e8]).length n/\(∀k b,n k=some b->∃E,H8 b=some (.lst E))/\Rel (YG X sc ns xs cl fn C s H fp (fg X sc cl RR w C)) W8 H8 σ6 ρ6/\bg X.K W8.bad H8 n 0 (f++[e8]) (A++[v8])/\A.length=f.length:=by
    have ln:=L.len;cases e8 with
    |val d =>
     refine⟨u,bs,Q,r.up (by simp),(λk b q=>let ⟨E,z⟩:=N k b q;⟨E,h _ _ z⟩),rl7.same j,?_,ln⟩;exact(L.map (λ_ _ z=>z.same j) λ_ _ q=>⟨q,λ_ z=>j _ _ z⟩).V3 hd8
    |own Zz =>
     obtain⟨a,ws,rfl,d,ka,J,WO⟩:=hd8;obtain⟨rb,db⟩:=rl7.ban j d ka J;have nH:H a=none:=(sm6.trans l).free d;have nD:a≠w:=λz=>by rw[z,l _ _ hD6]at d;cases d
     refine⟨⟨λb=>u.B b∨b=a,u.O,u.S⟩,λk=>if k=f.length then some a else bs k,⟨?_,Q.2⟩,r.put nH ka nD (λk z=>?_),(λk b q=>?_),rb,?_,ln⟩
     funext b
     show(u.B b∨b=a)=_;rw[Q.1];refine propext ⟨λz=>?_,λz=>?_⟩;rcases z with(z|⟨k,z⟩)|z;exact .inl z;exact .inr ⟨k,by show(if k=f.length then some a else bs k)=some b;rw[if_neg (Uw (r.ok k b z).1)];exact z⟩;exact .inr ⟨f.length,by show(if f.length=f.length then some a else bs f.length)=some b;rw[Rv rfl,z]⟩;rcases z with z|⟨k,z⟩;exact .inl (.inl z);have z:(if k=f.length then some a else bs k)=some b:=z;by_cases l:k=f.length;rw[Rv l]at z;cases z;exact .inr rfl;rw[if_neg l]at z;exact .inl (.inr ⟨k,z⟩);obtain⟨o,u⟩:=rl7.bt a (by rw[Q.1];exact .inr ⟨k,z⟩);rw[u]at d;cases d;have q:(if k=f.length then some a else bs k)=some b:=q;by_cases l:k=f.length;rw[Rv l]at q;cases q;exact⟨_,J⟩;rw[if_neg l]at q;obtain⟨E,z⟩:=N k b q;exact⟨E,h _ _ z⟩;refine bg.V4 (L.map (B':=λk=>if k=f.length then some a else bs k) (λU A z=>db U A z) λk b q=>⟨by show(if k=f.length then some a else bs k)=some b;rw[if_neg (Uw (r.ok k b q).1)];exact q,λ_ z=>j _ _ z⟩) (by simp) J (WO.R9 λt b z=>?_);rcases z with(z|z)|z|z;exact .inl (.inl z);exact .inr z;exact .inl (.inr (.inl z));exact .inl (.inr (.inr z))
   have j:W8.B w:=by rw[hW8.1];exact .inl BD
   refine VI (yr (X:=YG X sc ns xs cl fn C s H fp (fg X sc cl RR w C)) _ s8 _ H8 (.ref w) [v8] (.ref w) [u8] (λ_ H'=>H'=L2.upd H8 w (.lst (A++[v8]))) I8 rfl (.cons r8 .nil) ⟨w,A,v8,rfl,rfl,hD8,by rw[hlen8];lia,rfl⟩) (λ_ s9 Y=>?_) (λ_ _ z=>z);obtain⟨v9,H9,l,_,d⟩:=Y;subst d;obtain⟨u,J⟩:=M l;obtain⟨d,h⟩:=rl8.mutB (vs':=A++[v8]) j hD8 G;exact⟨U.length - (i+1),by rw[en];exact Nat.sub_lt_sub_left Uo (Nat.lt_succ_self _),i+1,W8,σ6,ρ6,_,f++[e8],A++[v8],n,rfl,Uo,l.UG,u,J,aP,hW8,O,(λk b q=>let ⟨E,z⟩:=hls8 k b q;⟨E,by rw[aC (O.ok k b q).2.2.2];exact z⟩),hds8.map h (λk b q=>⟨q,λE z=>by rw[aC (O.ok k b q).2.2.2];exact z⟩),smH.ins G hD8 True.intro True.intro,d,cap6,q8,by rw[Vh,zCj];lia⟩
  have e:i=U.length:=by lia
  refine Rw (T.done (YG X sc ns xs cl fn C s H fp (fg X sc cl RR w C)) rfl rfl rfl hc i [] s3 _ H3 _ I3 (ZE fr3) Wu (ys (by lia))) λrr s4 Y=>?_
  obtain⟨hr,d⟩:=Y;subst hr;subst e;have i:Inv X pins σ H3 s4:=I.Xo d.os d.base d.R7 d.bare Zk;obtain⟨m,h,_⟩:=d.loc;exact hRR s4 H3 m f bs i x h d.free (λz=>absurd I.lt (by rw[<- z];exact Xa.mpr WR)) (Sd I.sz WR) (λy c e z=>by
   obtain⟨v,q⟩:=I.cell y c e;exact absurd q.lt (by rw[z];exact Xa.mpr WR)) (λp hp z=>absurd (SH (I.pin p hp).1) (by rw[z];exact Xa.mpr WR))
   ⟨G,hKD,_,hD3,r,hls,hds3.map (λ_ _ z=>z.R9 λt a z=>(by
    rcases z with z|z;rcases(bad' t a).mpr (.inl z)with q|⟨k,q⟩| q;exact .inl (by rw[g.1];exact .inl q);cases q;exact .inr (.inr ⟨q.1,by rw[g.2];exact q.2⟩);rcases z with z|z;exact .inl (by rw[g.1];exact .inl (z ▸ BD0));exact .inl (by rw[g.1];exact .inr z))) λ_ _ q=>⟨q,λ_ z=>z⟩⟩ p3
 exact codeAny_compStart_list (loop _ rfl) (T.self _ 0 _ _ _ (T.keep 0 s.heap Ux st (λb B o e=>old b o e)) (loop _ rfl))
set_option tactic.hygienic true in
def BH{w q B:Expr}{u:yai}{pos:Pos}{g:DG}{te:DM}{tc:DT}{W:Own}{ρ:Ro}{J:It}{N:Addr}{tn:Nat->Heap->Prop}{A:yar}{E:yaa}{RR:Value->Addr->Result->Shared->Prop}(hc:X.calm=true)(S:CSc X.env.scope sc xs ns)
  (hj:js.length=ns.length/\∀(i:Nat) (j:Nat) (n:Str),js[i]?=some j->ns[i]?=some n->X.N[j]?=some n)
  {Ed:Value->Prop} (he:∀(C:Addr) (l:Shared) (m:Hp) (fp:yae) (h:yaa),dG (bu X sc ns xs C l m fp h) Ed->PEM (bu X sc ns xs C l m fp h) w te) (ht:∀(C:Addr) (l:Shared) (m:Hp) (fp:yae) (h:yaa),dG (bu X sc ns xs C l m fp h) Ed->TsD (bu X sc ns xs C l m fp h) u tc)
  (O:∀D C:Addr,dG (bu X sc ns xs C s H fp (Eo X sc ns RR D C)) Ed) (I:Inv X pins σ H s) (r:Rel X W H σ ρ) (hg:∀(C:Addr) (l:Shared) (m:Hp) (fp:yae) (h:yaa),PGD (bu X sc ns xs C l m fp h) B g) (T:Turn X.prog X.w X.K B J fp N tn) (st:tn 0 s.heap) (Q:∀b∈fp,fE X pins H b) (U:YD X.K W H J A) (hz:A.length<=sizeLine)
  (Pv:Nat->List LI->Prop) (p0:Pv 0 []) (step:∀j d a o,A[j]?=some d->Pv j a->ku xs.length (js.map (bI ρ)) o->g d o λf=>ku xs.length (js.map (bI ρ)) f/\tc f λb=>if b=true then te f (λe=>Pv (j+1) (a++[e]))else Pv (j+1) a)
  (G:∀(D C:Addr) (z:Shared) (H':Hp) (m':yam) (a:List LI) (bs:yaj),Inv X pins σ H' z->av H H'->z.heap.Ns C m'->H' C=none->C≠X.env.locals->X.RT.heap.objs.size<=C->(∀y c,X.env.cells.lookup y=some c->c≠C)->(∀p∈X.pn++pins,p.1≠C) →
   (H D=none/\X.K.lookup D=none/\∃L,H' D=some (.lst L)/\ie X.K H D a.length bs/\(∀k b,bs k=some b->∃Y,H' b=some (.lst Y))/\bg X.K (λt b=>W.bad t b∨b=D∨∃ k,bs k=some b) H' bs 0 a L)->Pv A.length a->RR (.ref D) C (.ok .next) z) :
  wpAny (model X.prog X.w) X.A (newList []) (λx U6=>wpAny (model X.prog X.w) X.A (newFunctionEnv sc X.env.globals (dH X.env ns) [] X.env.qual none .none (some X.env)) (λM ZD =>
   codeAny (model X.prog X.w) X.A (.compStart (.ListComp w [⟨B,q,u,0⟩] sc pos) 0 (.ref N) x {M with scope:=relabel sc X.env}) (RR x M.locals) ZD) E U6) E s:=by
 refine Z5 (wpAny_newFunctionEnv S.ZA (by intro y a;simp at a) (λm L l=>?_) S.kind);dsimp only at L l ⊢;generalize hH2:s.heap.push {cls:=.type "list", dict:=none,data:=.seq ([]:yad).toArray}=HP at L l ⊢;have hC:HP.objs.size=s.heap.objs.size+1:=by rw[<- hH2,zCw]
 have k:s.heap.objs.size≠HP.objs.size:=by lia
 have M:s.heap.objs.size<=HP.objs.size:=by lia
 have f:∀b,b<s.heap.objs.size->b≠HP.objs.size:=by lia
 have d:∀b o,s.heap.get? b=some o->m.get? b=some o:=λb o e=>l.extBut b o (f b (SH e)) (by grind [Heap.get?_push_of_some])
 have a:m.get? s.heap.objs.size=some {cls:=.type "list", data:=.seq ([]:yad).toArray}:=l.extBut _ _ k (T5 _ (hH2 ▸ Vi _ rfl));generalize eD:s.heap.objs.size=D at k a;generalize eC:HP.objs.size=C at *;have j:H D=none:=by rw[<- eD];exact I.R7.fresh (SF _)
 have x:X.K.lookup D=none:=by grind [Inv.Um]
 have hCf:H C=none:=I.R7.fresh M;have t:∀b∈fp,∃o,s.heap.get? b=some o:=λb Y=>let ⟨o,e,_⟩:=T.obj 0 s.heap st b Y;⟨o,e⟩
 have i:s.heap.objs.size<=D:=XD eD;have p:UA X.prog X.w (L2.upd H D (.lst [])) m:=I.R7.laid d i ⟨UE _,[],0,.nil,a⟩;have h:∀o,L2.upd H D o C=none:=λo=>by simp_all [aC,Ne.symm]
 have I1:Inv (bu X sc ns xs C s H fp (Eo X sc ns RR D C)) [] (List.replicate xs.length none++js.map (kE σ)) (L2.upd H D (.lst [])) {s with heap:=m,toks:=s.toks+([]:List (Str×Value)).length} :=
  Inv.comp I S hj Q t M rfl I.bare d L (h _) (av.upd j) (λb o e n=>by rw[aC (λz=>absurd (SH e) (by lia))];exact n) p
 exact FO (cl:=dH X.env ns) (fn:=λ_=>false) hc (he C s H fp _ (O D C)) (ht C s H fp _ (O D C)) (hg C s H fp _) I r T st Q U hz Pv p0 step (G D C) j x i M d (λy c e=>.inl (nr e)) I1
end
theorem bg.vals{K:yac}{P:yak}{H:Hp}{B:yaj}:∀{b:yar} {k:Nat} {a:yaq},bg K P H B k (b.map .val) a->ah K P H b a
 |[],_,_,h=>by subst h;exact ah.nil
 |d::r,_,_,h=>by obtain⟨v,u,rfl,b,a⟩:=h;exact ah.cons b a.vals
def Of(h:RU X e te):PEM X e λρ Q=>te ρ λd=>Q (.val d):=λa s b H W ρ Q I r t=>VI (h a s b H W ρ _ I r t) (λ_ _ e=>(by obtain⟨v,f,d,a,b,c,q,z⟩:=e;exact⟨v,f,.val d,a,b,c,q,z⟩)) λ_ _ z=>z
section
variable{X:Cx}{pins:yab}{σ:St}{H:Hp}{s:Shared}{sc:Scope}{ns:yah}{js:yag}{xs:yah}{fp:yae}
def jM{q l B:Expr}{o:yai}{pos:Pos}{g:DG}{te:DE}{tc:DT}{W:Own}{ρ:Ro}{J:It}{M:Addr}{tn:Nat->Heap->Prop}{A:yar}{E:yaa}{RR:Value->Addr->Result->Shared->Prop}(hc:X.calm=true)(S:CSc X.env.scope sc xs ns)
  (hj:js.length=ns.length/\∀(i:Nat) (j:Nat) (n:Str),js[i]?=some j->ns[i]?=some n->X.N[j]?=some n)
  {Ed:Value->Prop} (he:∀(C:Addr) (h:Shared) (m:Hp) (fp:yae) (f:yaa),dG (bu X sc ns xs C h m fp f) Ed->RU (bu X sc ns xs C h m fp f) q te) (Y:∀(C:Addr) (h:Shared) (m:Hp) (fp:yae) (f:yaa),dG (bu X sc ns xs C h m fp f) Ed->TsD (bu X sc ns xs C h m fp f) o tc)
  (U:∀D C:Addr,dG (bu X sc ns xs C s H fp (Eo X sc ns RR D C)) Ed) (I:Inv X pins σ H s) (r:Rel X W H σ ρ) (hg:∀(C:Addr) (h:Shared) (m:Hp) (fp:yae) (f:yaa),PGD (bu X sc ns xs C h m fp f) B g) (T:Turn X.prog X.w X.K B J fp M tn) (st:tn 0 s.heap) (Y5:∀b∈fp,fE X pins H b) (O:YD X.K W H J A) (hz:A.length<=sizeLine)
  (Pv:Nat->yar->Prop) (p0:Pv 0 []) (step:∀j d a u,A[j]?=some d->Pv j a->ku xs.length (js.map (bI ρ)) u->g d u λk=>ku xs.length (js.map (bI ρ)) k/\tc k λb=>if b=true then te k (λe=>Pv (j+1) (a++[e]))else Pv (j+1) a)
  (L:∀(D C:Addr) (w:Shared) (H':Hp) (G:yam) (a:List PD.D),Inv X pins σ H' w->av H H'->w.heap.Ns C G->H' C=none->C≠X.env.locals->X.RT.heap.objs.size<=C->(∀y c,X.env.cells.lookup y=some c->c≠C)->(∀p∈X.pn++pins,p.1≠C) →
   (H D=none/\X.K.lookup D=none/\∃z,H' D=some (.lst z)/\ah X.K (λt b=>W.bad t b∨b=D) H' a z)->Pv A.length a->RR (.ref D) C (.ok .next) w) :
  wpAny (model X.prog X.w) X.A (newList []) (λx U6=>wpAny (model X.prog X.w) X.A (newFunctionEnv sc X.env.globals (dH X.env ns) [] X.env.qual none .none (some X.env)) (λN Q =>
   codeAny (model X.prog X.w) X.A (.compStart (.ListComp q [⟨B,l,o,0⟩] sc pos) 0 (.ref M) x {N with scope:=relabel sc X.env}) (RR x N.locals) Q) E U6) E s:=by
 have e:∀k l,(∃q,l.map LI.val=q.map LI.val/\Pv k q)=Pv k l:=λk l=>propext ⟨λc=>(by obtain⟨q,a,b⟩:=c;exact(List.map_inj_right (by lia)).mp a ▸ b),by lia⟩
 refine BH (te:=λρ Q=>te ρ λd=>Q (.val d)) hc S hj (λC h m fp f p=>Of (he C h m fp f p)) Y U I r hg T st Y5 O hz (λk o=>∃q,o=q.map LI.val/\Pv k q) (by simp_all) ?_ ?_;rintro j d _ u hd ⟨q,rfl,a⟩ cr;have b:∀x,q.map LI.val++[LI.val x]=(q++[x]).map LI.val:=by simp_all
 simp only[b,e]
 simp_all
 rintro D C w H' G _ bs l sm k j i h g f ⟨e,d,z,c,_,_,b⟩ ⟨q,rfl,a⟩;exact L D C w H' G q l sm k j i h g f ⟨e,d,z,c,b.vals.R9 (by lia)⟩ a
def Ar{X:Cx}{sc:Scope}{ns:yah}{x:Str}{fp:yae}(S:CSc X.env.scope sc [x] ns):PGD (bu X sc ns [x] C Rr RB fp XE) (.Name x px) (gM 0) :=
 have a:(compEnvC sc (dH X.env ns) C X.env).scope.names.lookup x=some .local:=lookup_relabel_local (S.tgt x (by simp))
 bq (X:=bu X sc ns [x] C Rr RB fp XE) 0 S.nd rfl (.inl a) (.inr a)
def KS{h:yar}{Pv:Nat->yar->Prop}{tc:DT}{te:DE}{g:Ro}(step:∀j d c,h[j]?=some d->Pv j c->tc (some (.val d)::g) λb=>if b=true then te (some (.val d)::g) (λe=>Pv (j+1) (c++[e]))else Pv (j+1) c) :
  ∀ j d c f,h[j]?=some d->Pv j c->ku 1 g f->gM 0 d f λa=>ku 1 g a/\tc a λb=>if b=true then te a (λe=>Pv (j+1) (c++[e]))else Pv (j+1) c:=by
 rintro j d c f f b ⟨a,e,rfl⟩
 match a,e with
 |[a],_=>exact⟨⟨[some (.val d)],rfl,rfl⟩,step j d c f b⟩
def uI(wi:DA)(js:yag)(tc:DT)(te:DE):DE:=λc Q=>wi c λf=>f.length<=sizeLine/\∃Pv:Nat->yar->Prop,Pv 0 [] ∧
 (∀j d a,f[j]?=some d->Pv j a->tc (some (.val d)::js.map (bI c)) λb=>if b=true then te (some (.val d)::js.map (bI c)) (λe=>Pv (j+1) (a++[e]))else Pv (j+1) a)/\∀a,Pv f.length a->Q (.lst true a)
def br(N:yah)(ns:yah)(js:yag):Prop:=js.length=ns.length/\∀(i:Nat) (j:Nat) (n:Str),js[i]?=some j->ns[i]?=some n->N[j]?=some n
def br.nil:br N [] []:=⟨rfl,by simp_all⟩
def br.cons{ns:yah}{js:yag}{n:Str}(j:Nat)(h:br N ns js)(e:N[j]?=some n:=by rfl):br N (n::ns) (j::js):=⟨by simp[h.1],λi a m c b=>by
 cases i with
 |zero=>simp_all
 |succ i=>exact h.2 i a m (by simp_all) (by simp_all)⟩
variable{elt iter:Expr}{ifs:yai}{px pos:Pos}{te:DE}{tc:DT}{wi:DA}{x:Str}
def bV(n:X.calm=true)(S:CSc X.env.scope sc [x] ns)(l:br X.N ns js)(e:YF X (.Name x px) iter wi)(k:∀(C:Addr) (b:Shared) (c:Hp) (fp:yae) (a:yaa),TsD (bu X sc ns [x] C b c fp a) ifs tc)
  (m:∀(C:Addr) (b:Shared) (c:Hp) (fp:yae) (a:yaa),RU (bu X sc ns [x] C b c fp a) elt te) (f:closureFor sc X.env=pure (dH X.env ns):=by rfl) (hs:∀x,foldedSetIterable iter X.env x=pure x:=by intro _;rfl) :
  RU X (.ListComp elt [⟨.Name x px,iter,ifs,0⟩] sc pos) (uI wi js tc te):=by
 intro pins s σ H W d Q I r h;refine zC0 (use:=none) rfl hs f S.kind S.names (Rw (e pins s σ H W d _ I r h) λv z d=>Rw d λZm y d=>?_);obtain⟨A,fp,tn,J,H2,E,e,q,j,T,p,o,f,h,Pv,g,step,i⟩:=d;subst e;refine jM (RR:=λd C=>compPost (model X.prog X.w) X.A X.xe none (DP X pins σ W H Q) d C) n S l (Ed:=λ_=>False) (λC b c fp a _=>m C b c fp a) (λC b c fp a _=>k C b c fp a) (λ_ _=>dG.no) q (r.same j) (λC b c fp a=>Ar S) T p o f h Pv g (KS step) ?_;intro D C k b l a u sm p c h g f d ⟨m,n,w,o,t⟩ pv;have q:Den X.K W.bad b (.lst true a) (.ref D):=Den.lst ((r.same j).fresh m) (.new o n) (t.R9 (by lia));refine⟨l,p,λB l=>?_⟩;exact⟨.ref D,b,_,u.turned (t':=k.toks) (λb o k e=>(l.2 b k).trans e) c h (.inr g) f d,rfl,j.trans sm,q,i a pv⟩
def nJ{y:Str}{e:Pos}(i:Nat)(u:X.N.Nodup)(t:X.calm=true)(S:CSc X.env.scope sc [x] ns)(o:br X.N ns js)(g:YF X (.Name x px) iter wi)(n:∀(C:Addr) (b:Shared) (c:Hp) (fp:yae) (a:yaa),TsD (bu X sc ns [x] C b c fp a) ifs tc)
  (q:∀(C:Addr) (b:Shared) (c:Hp) (fp:yae) (a:yaa),RU (bu X sc ns [x] C b c fp a) elt te) (p:X.N[i]?=some y:=by rfl) (f:X.env.scope.names.lookup y=some .local:=by rfl) (j:closureFor sc X.env=pure (dH X.env ns):=by rfl) (hs:∀x,foldedSetIterable iter X.env x=pure x:=by intro _;rfl)
  (d:swapsWith (.ListComp elt [⟨.Name x px,iter,ifs,0⟩] sc pos) (some (.Name y py)) e.line X.env=pure true:=by rfl) :
  UQ X (.Assign [.Name y py] (.ListComp elt [⟨.Name x px,iter,ifs,0⟩] sc pos) e) (zX i (uI wi js tc te)):=by
 intro pins s σ H W e E I r h;rw[exec_Assign_Name_used _ _ _ _ d];refine Rm (zDP (Rm ?_));refine Rm (VI (zC0 (use:=some (assign (.Name y py) X.env)) (Q:=λ_ d=>Y1 X pins W H E .next d) rfl hs j S.kind S.names
  (Rw (g pins s σ H W e _ I r h) λv L e=>Rw e λZm G h=>?_)) (λ_ d e=>Rz (Rz e)) λ_ _ e=>e)
 obtain⟨M,fp,tn,J,H2,U,e,A,g,T,z,w,j,l,Pv,k,step,m⟩:=h;subst e;refine jM (RR:=λh C=>compPost (model X.prog X.w) X.A X.xe (some (assign (.Name y py) X.env)) (λ_ d=>Y1 X pins W H E .next d) h C) t S o (Ed:=λ_=>False) (λC b c fp a _=>q C b c fp a) (λC b c fp a _=>n C b c fp a) (λ_ _=>dG.no) A (r.same g) (λC b c fp a=>Ar S) T z w j l Pv k (KS step) ?_;intro D C d n o c q sm w d l k j h ⟨a,b,B,t,z⟩ pv;have y:Den X.K W.bad n (.lst true c) (.ref D):=Den.lst ((r.same g).fresh a) (.new t b) (z.R9 (by lia));have t:=(r.same g).same sm;refine wpAny_assign_Name (qR (v:=.ref D) q u p (.inl f) rfl (λb u r=>?_) (.inr f));obtain⟨a,f,N⟩:=r;have r:C≠a:=by grind
 refine⟨o,w.sameBut f r,λO a=>?_⟩;refine⟨W.drop i,_,n,u.turned (t':=b.toks) (λb o f e=>(a.2 b f).trans e) d l (.inr k) j h,(Sm.same (g.trans sm)).trans (Sm.drop W n i),_,t.put (Inv.XZ q p) y,m c pv⟩
end
noncomputable def NI(osc a:Scope)(xs ns:yah):Bool :=
 decide (a.kind=.function) && (a.names.all λy=>decide (y.2 ≠ .cell)) && (a.names.all λy=>decide (y.2=.local->a.names.lookup y.1=some .local)) && (xs.all λx=>decide (a.names.lookup x=some .local)) &&
 (a.names.all λy=>decide (y.2=.free->y.1∈ns/\osc.names.lookup y.1=some .cell)) && (ns.all λn=>decide (a.names.lookup n=some .free/\osc.names.lookup n=some .cell)) && decide (xs++ns).Nodup
def bB(h:NI osc sc xs ns=true):CSc osc sc xs ns:=by unfold NI at h;simp at h;obtain⟨⟨⟨⟨⟨⟨g,f⟩,e⟩,d⟩,c⟩,b⟩,a⟩:=h;exact⟨by lia,by grind,by grind,by grind,by grind,by simp_all,by lia⟩
inductive YH:yai->yah->Prop where
 |nil:YH [] []
 |cons {x:Str} {p:Pos} {es:yai} {xs:yah} (h:YH es xs):YH (.Name x p::es) (x::xs)
def p9:Nat->Nat->DGs
 |_,0=>k7
 |i,n+1=>b9 (gM i) (p9 (i+1) n)
theorem uR:∀(ys:yar) (b a c:Ro) (Q:Ro->Prop),a.length=ys.length->Q (b++ys.map (λd=>some (Sl.val d))++c)->p9 b.length ys.length ys (b++a++c) Q
 |[],b,a,c,Q,e,h=>by
  have:a=[]:=by grind
  subst this;exact⟨rfl,h⟩
 |d::r,b,a,c,Q,e,h=>by
  match a,e with
  |a::q,e =>
   refine⟨d,r,rfl,?_⟩;show p9 (b.length+1) r.length r ((b++a::q++c).set b.length (some (.val d))) Q;have e:(b++a::q++c).set b.length (some (Sl.val d))=(b++[some (Sl.val d)])++q++c:=by grind
   have a:b.length+1=(b++[some (Sl.val d)]).length:=by simp
   rw[e,a];refine uR r _ q c Q (by simp_all) ?_
   simp_all
section
variable{X:Cx}{sc:Scope}{ns xs:yah}{js:yag}
theorem YH.len:∀{es:yai} {ys:yah},YH es ys->(assignEach es env).length=ys.length/\(assignEach es env).findIdx? (·.1)=none
 |_,_,.nil=>⟨rfl,rfl⟩
 |_,_,.cons (x:=x) (p:=p) (es:=es) h=>by
  obtain⟨b,a⟩:=YH.len (env:=env) h;have e:assignEach (.Name x p::es) env=(false,assign (.Name x p) env)::assignEach es env:=rfl
  simp_all
theorem nP(S:CSc X.env.scope sc xs ns):∀{es:yai} {ys:yah} (i:Nat),YH es ys->(∀k y,ys[k]?=some y->xs[i+k]?=some y)->wB (bu X sc ns xs C Rr RB fp XE) es (p9 i ys.length)
 |_,_,_,.nil,_=>rC
 |_,_,i,.cons (x:=x) (xs:=ys) h,c=>by
  have a:xs[i]?=some x:=c 0 x rfl;have b:(compEnvC sc (dH X.env ns) C X.env).scope.names.lookup x=some .local:=lookup_relabel_local (S.tgt x (UZ a));have d:(xs++ns)[i]?=some x:=by rw[WZ (VE.mp a).1];exact a
  exact cD (bq (X:=bu X sc ns xs C Rr RB fp XE) i S.nd d (.inl b) (.inr b)) (nP S (i+1) h λk y e=>by
   have:=c (k+1) y e
   lia)
variable{elt iter:Expr}{ifs es:yai}{kt:Nat}{tp pos:Pos}{te:DE}{tc:DT}{wi:DA}
def j6(ys:yar):Ro:=ys.map λd=>some (Sl.val d)
def zU(n:Nat)(wi:DA)(js:yag)(tc:DT)(te:DE):DE:=λe Q=>wi e λf=>f.length<=sizeLine/\∃Pv:Nat->yar->Prop,Pv 0 [] ∧
 (∀j d a,f[j]?=some d->Pv j a->∃c,(d=.tup c∨∃ t,d=.lst t c)/\c.length=n/\tc (j6 c++js.map (bI e)) λb=>if b=true then te (j6 c++js.map (bI e)) (λe=>Pv (j+1) (a++[e]))else Pv (j+1) a)/\∀a,Pv f.length a->Q (.lst true a)
def stepT{n:Nat}{h:yar}{Pv:Nat->yar->Prop}{g:Ro}(step:∀j d a,h[j]?=some d->Pv j a->∃ys,(d=.tup ys∨∃ t,d=.lst t ys)/\ys.length=n/\tc (j6 ys++g) λb=>if b=true then te (j6 ys++g) (λe=>Pv (j+1) (a++[e]))else Pv (j+1) a) :
  ∀ j d a f,h[j]?=some d->Pv j a->ku n g f->k8 n (p9 0 n) d f λc=>ku n g c/\tc c λb=>if b=true then te c (λe=>Pv (j+1) (a++[e]))else Pv (j+1) a:=by
 rintro j d a f k f ⟨c,i,rfl⟩;obtain⟨ys,e,b,h⟩:=step j d a k f;refine⟨ys,e,b,?_⟩;subst b;exact uR ys [] c g _ i ⟨⟨j6 ys,by simp[j6],rfl⟩,h⟩
def Aa(k:X.calm=true)(S:CSc X.env.scope sc xs ns)(q:br X.N ns js)(g:YH es xs)(j:YF X (.Tuple es kt tp) iter wi)(p:∀(C:Addr) (c:Shared) (d:Hp) (a:yae) (b:yaa),TsD (bu X sc ns xs C c d a b) ifs tc)
  (t:∀(C:Addr) (c:Shared) (d:Hp) (a:yae) (b:yaa),RU (bu X sc ns xs C c d a b) elt te) (l:closureFor sc X.env=pure (dH X.env ns):=by rfl) (hs:∀x,foldedSetIterable iter X.env x=pure x:=by intro _;rfl) :
  RU X (.ListComp elt [⟨.Tuple es kt tp,iter,ifs,0⟩] sc pos) (zU xs.length wi js tc te):=by
 intro f s i H W e Q I r h;refine zC0 (use:=none) rfl hs l S.kind S.names (Rw (j f s i H W e _ I r h) λv E e=>Rw e λZm B h=>?_);obtain⟨G,a,tn,J,H2,M,e,w,l,T,u,s,m,o,Pv,n,step,j⟩:=h;subst e;refine jM (RR:=λh C=>compPost (model X.prog X.w) X.A X.xe none (DP X f i W H Q) h C) k S q (Ed:=λ_=>False) (λC c d a b _=>t C c d a b) (λC c d a b _=>p C c d a b) (λ_ _=>dG.no) w (r.same l) (λC c d a b=>qa (X:=bu X sc ns xs C c d a b) k (nP S 0 g λk y q=>by simpa using q) (YH.len g).1 (YH.len g).2) T u s m o Pv n (stepT step) ?_;intro D C k b m a t sm p c i h f d ⟨g,n,A,o,s⟩ pv;have q:Den X.K W.bad b (.lst true a) (.ref D):=Den.lst ((r.same l).fresh g) (.new o n) (s.R9 λ_ _ z=>.inl z);refine⟨m,p,λL m=>?_⟩;exact⟨.ref D,b,_,t.turned (t':=k.toks) (λb o g e=>(m.2 b g).trans e) c i (.inr h) f d,rfl,l.trans sm,q,j a pv⟩
def BJ{y:Str}{a:Pos}(i:Nat)(A:X.N.Nodup)(m:X.calm=true)(S:CSc X.env.scope sc xs ns)(u:br X.N ns js)(j:YH es xs)(o:YF X (.Tuple es kt tp) iter wi)(q:∀(C:Addr) (d:Shared) (f:Hp) (b:yae) (c:yaa),TsD (bu X sc ns xs C d f b c) ifs tc)
  (w:∀(C:Addr) (d:Shared) (f:Hp) (b:yae) (c:yaa),RU (bu X sc ns xs C d f b c) elt te) (t:X.N[i]?=some y:=by rfl) (l:X.env.scope.names.lookup y=some .local:=by rfl) (p:closureFor sc X.env=pure (dH X.env ns):=by rfl) (hs:∀x,foldedSetIterable iter X.env x=pure x:=by intro _;rfl)
  (e:swapsWith (.ListComp elt [⟨.Tuple es kt tp,iter,ifs,0⟩] sc pos) (some (.Name y py)) a.line X.env=pure true:=by rfl) :
  UQ X (.Assign [.Name y py] (.ListComp elt [⟨.Tuple es kt tp,iter,ifs,0⟩] sc pos) a) (zX i (zU xs.length wi js tc te)):=by
 intro a s k H W n E I r h;rw[exec_Assign_Name_used _ _ _ _ e];refine Rm (zDP (Rm ?_));refine Rm (VI (zC0 (use:=some (assign (.Name y py) X.env)) (Q:=λ_ g=>Y1 X a W H E .next g) rfl hs p S.kind S.names
  (Rw (o a s k H W n _ I r h) λv M e=>Rw e λZm L k=>?_)) (λ_ g e=>Rz (Rz e)) λ_ _ e=>e)
 obtain⟨N,b,tn,J,H2,U,e,B,h,T,z,x,o,s,Pv,p,step,n⟩:=k;subst e;refine jM (RR:=λk C=>compPost (model X.prog X.w) X.A X.xe (some (assign (.Name y py) X.env)) (λ_ g=>Y1 X a W H E .next g) k C) m S u (Ed:=λ_=>False) (λC d f b c _=>w C d f b c) (λC d f b c _=>q C d f b c) (λ_ _=>dG.no) B (r.same h) (λC d f b c=>qa (X:=bu X sc ns xs C d f b c) m (nP S 0 j λk y q=>by simpa using q) (YH.len j).1 (YH.len j).2) T z x o s Pv p (stepT step) ?_;intro D C g p o c s sm u g f m d k ⟨j,a,G,b,x⟩ pv;have w:Den X.K W.bad p (.lst true c) (.ref D):=Den.lst ((r.same h).fresh j) (.new b a) (x.R9 λ_ _ z=>.inl z);have j:=(r.same h).same sm;refine wpAny_assign_Name (qR (v:=.ref D) s A t (.inl l) rfl (λb A x=>?_) (.inr l));obtain⟨a,r,l⟩:=x;have x:C≠a:=by
  rcases l with z|z;rw[z];exact f;exact λq=>d y a z q.symm
 refine⟨o,u.sameBut r x,λO a=>?_⟩;refine⟨W.drop i,_,p,A.turned (t':=b.toks) (λb o l e=>(a.2 b l).trans e) g f (.inr m) d k,(Sm.same (h.trans sm)).trans (Sm.drop W p i),_,j.put (Inv.XZ s t) w,n c pv⟩
end
def pU{a:Type}{n:Nat}{wi:DA}{js:yag}{tc:DT}{te:DE}{Q:D->Prop}(zs:List a)(f:a->yar)(c:a->Bool)(g:a->D)(b:∀R:yar->Prop,R (zs.map λz=>.tup (f z))->wi ρ R)(hz:zs.length<=sizeLine)(h:∀z,(f z).length=n)
  (l:∀z∈zs,∀K:Bool->Prop,K (c z)->tc (j6 (f z)++js.map (bI ρ)) K) (k:∀z∈zs,c z=true->∀K:D->Prop,K (g z)->te (j6 (f z)++js.map (bI ρ)) K) (q:Q (.lst true ((zs.filter c).map g))):zU n wi js tc te ρ Q:=by
 refine b _ ⟨by simp_all,λj a=>a=((zs.take j).filter c).map g,by simp,λj d a b c=>?_,λa c=>?_⟩;rw[U0]at b;cases ex:zs[j]? with
 |none=>simp_all
 |some x =>
  rw[ex]at b;have i:x∈zs:=UZ ex;have e:zs.take (j+1)=zs.take j++[x]:=by simp_all [zDa]
  grind
 grind
def OG(k:Bool)(R:Int->Prop)(S:Bool->Prop):((∃i:Int,[D.bl k]=[.int i]/\R i)∨∃ j:Bool,[D.bl k]=[.bl j]/\S j)=S k:=by lia
def qj(b:Bool):okD (.bl b):=by unfold okD;rw[UK,XX]<;>first|exact⟨rfl,rfl⟩| (intros;contradiction)
def JC(i:Int):okD (.int i)=True:=eq_true (CY i)
def Ml(b:Bool):okD (.bl b)=True:=eq_true (qj b)
def JD:okD .RZ=True:=eq_true Mm
def Mn(a b c:Int):okD (.tup [.int a,.int b,.int c])=True:=eq_true (OX a b c)
theorem j8(i j:Int):eqD (.int i) (.int j)=decide (i=j):=rfl
def F8(i j:Bool):eqD (.bl i) (.bl j)=decide (i=j):=by
 cases i<;>cases j<;>rfl
def OJ(t:Bool)(xs:yar)(R:yar->Prop):(∃t' a,D.lst t xs=.lst t' a/\R a)=R xs:=by lia
def LJ(a:yar)(r:Ro)(R:yar->Prop):(∃b,(some (Sl.own a)::r)[0]?=some (some (Sl.own b))/\R b)=R a:=by grind
theorem LK(n:Nat)(x:Option Sl)(r:Ro)(R:yar->Prop):(∃a,(x::r)[n+1]?=some (some (Sl.own a))/\R a)=(∃a,r[n]?=some (some (Sl.own a))/\R a):=rfl
theorem OA(d:D)(r:Ro):bI (some (.val d)::r) 0=some (.val d):=rfl
theorem OC(r:Ro):bI (none::r) 0=none:=rfl
theorem OB(n:Nat)(x:Option Sl)(r:Ro):bI (x::r) (n+1)=bI r n:=rfl
structure Pl(n:Nat)(a b c:Int):Prop where
 pos:0<a
 low:PM.g3 a b c=1
 b0:Bd n a
 b1:Bd n b
 b2:Bd n c
def Pc(b x y:Int):D:=T3 (b.fdiv (PM.T4 b x y b)) (x.fdiv (PM.T4 b x y b)) (y.fdiv (PM.T4 b x y b))
structure Rg(d:D)(b x y:Int):Prop where
 ex:∃p q r,d=T3 p q r/\Bd 4000 p/\Bd 4000 q/\Bd 4000 r/\0<p/\p*x=b*q/\p*y=b*r/\PM.g3 p q r=1
end PD
namespace PZ
open PySem PySem.Spec PyProof.Rows
def Vp:Bool->Heap->Addr->Addr->Nat->Prop
 |true,h,b,a,i=>h.IsListIter b a i
 |false,h,b,a,i=>h.IsTupleIter b a i
def UR:Bool->Heap->Addr->yao->Prop
 |true,h,a,b=>h.IsList a b
 |false,h,a,b=>h.IsTuple a b
def ja:Bool->String
 |true => "list_iterator"
 |false => "tuple_iterator"
section
variable{k:Bool}{h h':Heap}{it a b:Addr}{i:Nat}{xs:yao}
def Vp.of(x:Vp k h it a i)(e:∀o,h.get? it=some o->h'.get? it=some o):Vp k h' it a i:=by
 cases k with
 |true=>obtain⟨o,c,r⟩:=x;exact⟨o,e o c,r⟩
 |false=>obtain⟨o,c,r⟩:=x;exact⟨o,e o c,r⟩
def UR.of(x:UR k h a xs)(e:∀o,h.get? a=some o->h'.get? a=some o):UR k h' a xs:=by
 cases k with
 |true=>obtain⟨o,c,r⟩:=x;exact⟨o,e o c,r⟩
 |false=>obtain⟨o,c,r⟩:=x;exact⟨o,e o c,r⟩
def Vp.obj(x:Vp k h it a i):∃o,h.get? it=some o/\o.cls=.type (ja k)/\o.data=.fields #[.ref a,.int i 0]:=by
 cases k with
 |true=>exact x
 |false=>exact x
def UR.obj(x:UR k h a xs):∃o n,h.get? a=some o/\o.data=.seq xs n:=by
 cases k with
 |true=>obtain⟨o,c,_,n,r⟩:=x;grind
 |false=>obtain⟨o,c,_,n,r⟩:=x;grind
end
section
variable{prog:Program}{w:World}{A:Around}{E:yaa}{s:Shared}{k:Bool}{it a:Addr}{i:Nat}{xs:yao}
def va{x:Value}{Q:yaa}(d:Vp k s.heap it a i)(hs:UR k s.heap a xs)(f:xs[i]?=some x)(g:∀h',Vp k h' it a (i+1)->Heap.SameBut it s.heap h'->Q x {s with heap:=h'}) :
  wpAny (model prog w) A (Builtin.SmallTypes.nextOf (.ref it)) Q E s:=by
 cases k with
 |true=>exact wpAny_nextOf_list_item d hs f g
 |false =>
  obtain⟨o,c,j,b⟩:=id d;obtain⟨l,h,_,m,e⟩:=hs;refine Rm (zBS (name:=Str.ofString "__next__") (zC3 d) F.slot_tuple_iterator_next (YU F.slot_tuple_iterator_next (zC3 d) F.entry_tuple_iterator_next ?_ (F.args_tuple_iterator_next_1 _)));show wpAny _ _ (field (.ref it) 0 >>= _) _ _ s;refine Rm (VX c b (x:=.ref a) rfl ?_);refine Rm (VX c b (x:=.int i 0) rfl ?_);refine Rm (Yv h e ?_);simp only[Int.toNat_natCast,f];refine Rm (zDK c b (by simp) (Rz ⟨x,rfl,Rz (g _ ⟨_,YO _ c (Obj.isFreed_of_fields (Obj.data_mapFields b _)),(Obj.cls_mapFields ..).trans j,by rw[Obj.data_mapFields b];simp[rawInt]⟩ (zB2 ..))⟩))
def En(hh:A.handled=none)(b:Vp k s.heap it a i)(hs:UR k s.heap a xs)(f:xs[i]?=none)
  (g:∀h' e,Heap.ExtBut it s.heap h'->(∃o,h'.get? e=some o/\o.cls=.type "StopIteration")->E (.ref e) {s with heap:=h'}):wpAny (model prog w) A (Builtin.SmallTypes.nextOf (.ref it)) Q E s:=by
 cases k with
 |true=>exact wpAny_nextOf_list_end hh b hs f g
 |false =>
  obtain⟨o,c,n,e⟩:=id b;obtain⟨j,h,_,l,d⟩:=hs;refine Rm (zBS (name:=Str.ofString "__next__") (zC3 b) F.slot_tuple_iterator_next (YU F.slot_tuple_iterator_next (zC3 b) F.entry_tuple_iterator_next ?_ (F.args_tuple_iterator_next_1 _)));show wpAny _ _ (field (.ref it) 0 >>= _) _ _ s;refine Rm (VX c e (x:=.ref a) rfl ?_);refine Rm (VX c e (x:=.int i 0) rfl ?_);refine Rm (Yv h d ?_);simp only[Int.toNat_natCast,f];refine Rm (YZ (Rm (zDK c e (by simp) ?_)));refine Rm ?_;refine Rm (m:=firstArgMember _ _) (wpAny_of_eq (a:=Value.none) (by rfl) ?_);refine Z5 ?_ (by size_fits);refine Rm (wpAny_handled ?_);first|rw[show A.in1.handled=none from hh]|rw[hh]
  exact Rm (Rz (wpAny_throw (g _ _ (((zB2 ..).extBut.push _).push _) ⟨_,Vi _ rfl,rfl⟩)))
end
structure Ap(z TI TO i1 i2:Addr):Prop where
 a1:TI≠z
 a2:TO≠z
 a3:i1≠z
 a4:i2≠z
 a5:TI≠TO
 a6:TI≠i1
 a7:TI≠i2
 a8:TO≠i1
 a9:TO≠i2
 b1:i1≠i2
structure Out(z TO i1 i2 l:Addr):Prop where
 c1:l≠z
 c2:l≠TO
 c3:l≠i1
 c4:l≠i2
structure ZSt(k1 k2:Bool)(z TI TO i1 i2 l1 l2:Addr)(i:Nat)(h:Heap):Prop where
 z:IsZip h z TI TO .none
 ti:IsPair h TI (.ref i1) (.ref i2)
 to:∃a b,IsPair h TO a b
 s1:Vp k1 h i1 l1 i
 s2:Vp k2 h i2 l2 i
section
variable{prog:Program}{w:World}{A:Around}{E:yaa}{s:Shared}{k1 k2:Bool}{z TI TO i1 i2 l1 l2:Addr}{i:Nat}{xs ys:yao}
def K6{x y:Value}{Q:yan->Shared->Prop}(D:Ap z TI TO i1 i2)(l:Out z TO i1 i2 l1)(j:Out z TO i1 i2 l2)(Z:ZSt k1 k2 z TI TO i1 i2 l1 l2 i s.heap)(f:UR k1 s.heap l1 xs)(r:UR k2 s.heap l2 ys)(h:xs[i]?=some x)(t:ys[i]?=some y)
  (G:∀h',IsZip h' z TI TO (rawInt s.heap.objs.size)->IsPair h' TI (.ref i1) (.ref i2)->IsPair h' TO x y->Vp k1 h' i1 l1 (i+1)->Vp k2 h' i2 l2 (i+1)->IsPair h' s.heap.objs.size x y →
   (∀c o,c≠z->c≠TO->c≠i1->c≠i2->s.heap.get? c=some o->h'.get? c=some o)->Q (some (.ref s.heap.objs.size)) {s with heap:=h'}):wpAny (model prog w) A (pyNext (.ref z)) Q E s:=by
 obtain⟨d,C,⟨a,b,m⟩,k,B⟩:=Z;have e:s.TypeIs (.ref z) "zip" := ⟨_,d,rfl⟩;refine Rm (zCY (zBS (name:=Str.ofString "__next__") e F.slot_zip_next (YU F.slot_zip_next e F.entry_zip_next ?_ (F.args_zip_next_1 _))));show wpAny _ _ (field (.ref z) 2 >>= _) _ _ _;refine Rm (VX d rfl (x:=.bool false) rfl ?_);refine Rm (VX d rfl (x:=.ref TI) rfl (Rm (Yv C rfl ?_)));refine Rm ?_;refine Rm (VX d rfl (x:=.none) rfl (Rz ?_));refine Rm (YZ (Rm (VX d rfl (x:=.ref TO) rfl ?_)));refine Rm (zCO d (by simp) λd (u:IsZip d z TI TO .ellipsis) p=>Rm ?_);have g:∀c o,c≠z->s.heap.get? c=some o->d.get? c=some o:=λc o n e=>p.extBut c o n e
 refine Rm (Rm (wpAny_onRaise ?_));refine Rm (va (s:={s with heap:=d}) (k.of λo e=>g _ o D.a3 e) (f.of λo e=>g _ o l.c1 e) h λh d l=>Rz ?_);have f:IsPair h TO a b:=l.extBut _ _ D.a8 (g _ _ D.a2 m);refine Rm (Yv f rfl (Rm (wpAny_updateSeq_pair f λg3 (q:IsPair g3 TO x b) k=>Rm (wpAny_letGo (Rz ?_)))));have m:∀c o,c≠z->c≠TO->c≠i1->s.heap.get? c=some o->g3.get? c=some o:=λc o f d h e=>k.extBut c o d (l.extBut c o h (g c o f e))
 refine Rm (Rm (wpAny_onRaise ?_));refine Rm (va (s:={s with heap:=g3}) (B.of λo e=>m _ o D.a4 (Ne.symm D.a9) (Ne.symm D.b1) e) (r.of λo e=>m _ o j.c1 j.c2 j.c3 e) t λr g j=>Rz ?_);have a:IsPair r TO x b:=j.extBut _ _ D.a9 q;refine Rm (Yv a rfl (Rm (wpAny_updateSeq_pair a λa (q:IsPair a TO x y) b=>Rm (wpAny_letGo (Rz (Rz ?_))))));refine Rm (Yv q rfl (Rm (wpAny_newTuple ?_)));have r:a.objs.size=s.heap.objs.size:=by rw[b.1,j.1,k.1,l.1,p.1]
 have t:∀c o,c≠z->c≠TO->c≠i1->c≠i2->s.heap.get? c=some o->a.get? c=some o:=λc o f d h g e=>b.extBut c o d (j.extBut c o g (m c o f d h e))
 have p:IsZip a z TI TO .ellipsis:=b.extBut _ _ (Ne.symm D.a2) (j.extBut _ _ (Ne.symm D.a4) (k.extBut _ _ (Ne.symm D.a2) (l.extBut _ _ (Ne.symm D.a3) u)));have l:Vp k1 a i1 l1 (i+1):=d.of λo e=>b.extBut _ o (Ne.symm D.a8) (j.extBut _ o D.b1 (k.extBut _ o (Ne.symm D.a8) e))
 have k:Vp k2 a i2 l2 (i+1):=g.of λo e=>b.extBut _ o (Ne.symm D.a9) e
 have m:z<a.objs.size:=SH p;refine Rm ?_;have b:IsZip (a.push {cls:=.type "tuple", data:=.seq #[x,y]}) z TI TO .ellipsis:=T5 _ p;refine Rm (zCO b (by simp) λj (b:IsZip j z TI TO (rawInt a.objs.size)) B=>zCO b (by simp) λj (p:IsZip j z TI TO (rawInt a.objs.size)) u=>Rz ?_);have b:∀c o,c≠z->a.get? c=some o->j.get? c=some o:=λc o n e=>u.extBut c o n (B.extBut c o n (T5 _ e))
 have n:IsPair j a.objs.size x y:=u.extBut _ _ (Yg m) (B.extBut _ _ (Yg m) (Vi _ rfl));refine⟨_,rfl,?_⟩;rw[r]at p n;refine Rz ?_;rw[r];exact G j p (b _ _ D.a1 (t _ _ D.a1 D.a5 D.a6 D.a7 C)) (b _ _ D.a2 q) (l.of λo e=>b _ o D.a3 e) (k.of λo e=>b _ o D.a4 e) n λc o f d h g e=>b c o f (t c o f d h g e)
def K7{Q:yan->Shared->Prop}(hh:A.handled=none)(D:Ap z TI TO i1 i2)(I:Out z TO i1 i2 l1)(y:Out z TO i1 i2 l2)(Z:ZSt k1 k2 z TI TO i1 i2 l1 l2 i s.heap)(C:UR k1 s.heap l1 xs)(J:UR k2 s.heap l2 ys)(k:xs[i]?=none∨ys[i]?=none)
  (G:∀h',(∀c o,c≠z->c≠TO->c≠i1->c≠i2->s.heap.get? c=some o->h'.get? c=some o)->Q none {s with heap:=h'}):wpAny (model prog w) A (pyNext (.ref z)) Q E s:=by
 obtain⟨d,f,⟨a,b,M⟩,H,L⟩:=Z;have e:s.TypeIs (.ref z) "zip" := ⟨_,d,rfl⟩;unfold pyNext;refine Rm (zCY (zBS (name:=Str.ofString "__next__") e F.slot_zip_next (YU F.slot_zip_next e F.entry_zip_next ?_ (F.args_zip_next_1 _))));show wpAny _ _ (field (.ref z) 2 >>= _) _ _ _;refine Rm (VX d rfl (x:=.bool false) rfl ?_);refine Rm (VX d rfl (x:=.ref TI) rfl (Rm (Yv f rfl ?_)));refine Rm ?_;refine Rm (VX d rfl (x:=.none) rfl (Rz ?_));simp only[if_true];refine Rm (YZ (Rm (VX d rfl (x:=.ref TO) rfl ?_)));refine Rm (zCO d (by simp) λp (B:IsZip p z TI TO .ellipsis) d=>Rm ?_);have g:∀c o,c≠z->s.heap.get? c=some o->p.get? c=some o:=λc o n e=>d.extBut c o n e
 refine Rm (Rm (wpAny_onRaise ?_));cases hx:xs[i]? with
 |none =>
  refine Rm (En (s:={s with heap:=p}) hh (H.of λo e=>g _ o D.a3 e) (C.of λo e=>g _ o I.c1 e) hx λu e h t=>?_);obtain⟨n,f,l⟩:=t;have d:IsZip u z TI TO .ellipsis:=h _ _ (Ne.symm D.a3) B;have r:e≠z:=λq=>by subst q;rw[d]at f;cases f;simp at l
  refine zCO d (by simp) λg3 _ m=>Rm (zCf (T := "StopIteration") (b:=true) ⟨n,m.extBut _ _ r f,l⟩ isSubtype_stop ?_)
  exact Rz (G g3 λc o d _ j _ q=>m.extBut c o d (h c o j (g c o d q)))
 |some x =>
  have x:ys[i]?=none:=by
   rcases k with q|q;rw[hx]at q;cases q;exact q
  refine Rm (va (s:={s with heap:=p}) (H.of λo e=>g _ o D.a3 e) (C.of λo e=>g _ o I.c1 e) hx λu k h=>Rz ?_);have p:IsPair u TO a b:=h.extBut _ _ D.a8 (g _ _ D.a2 M);refine Rm (Yv p rfl (Rm (wpAny_updateSeq_pair p λg3 N m=>Rm (wpAny_letGo (Rz ?_)))));have a:∀c o,c≠z->c≠TO->c≠i1->s.heap.get? c=some o->g3.get? c=some o:=λc o d k j e=>m.extBut c o k (h.extBut c o j (g c o d e))
  refine Rm (Rm (wpAny_onRaise ?_));refine Rm (En (s:={s with heap:=g3}) hh (L.of λo e=>a _ o D.a4 (Ne.symm D.a9) (Ne.symm D.b1) e) (J.of λo e=>a _ o y.c1 y.c2 y.c3 e) x λu e p t=>?_);obtain⟨n,f,l⟩:=t;have g:IsZip u z TI TO .ellipsis:=p _ _ (Ne.symm D.a4) (m.extBut _ _ (Ne.symm D.a2) (h.extBut _ _ (Ne.symm D.a3) B));have r:e≠z:=λq=>by subst q;rw[g]at f;cases f;simp at l
  refine zCO g (by simp) λg _ e=>Rm (zCf (T := "StopIteration") (b:=true) ⟨n,e.extBut _ _ r f,l⟩ isSubtype_stop ?_)
  exact Rz (G g λc o d k j b q=>e.extBut c o d (p c o b (a c o d k j q)))
def KH{Q:yaa}(q:UR k s.heap a xs)(b:Q (.ref s.heap.objs.size) {s with heap:=s.heap.push {cls:=.type (ja k),data:=.fields #[.ref a,.int 0 0]} }):wpAny (model prog w) A (pyIter (.ref a)) Q E s:=by
 cases k with
 |true=>exact wpAny_pyIter_list q b
 |false=>exact wpAny_pyIter_tuple q b
end
abbrev zp1(k1:Bool)(h:Heap)(l1:Addr):Heap:=h.push {cls:=.type (ja k1),data:=.fields #[.ref l1,.int 0 0]}
abbrev zp2(k1 k2:Bool)(h:Heap)(l1 l2:Addr):Heap:=(zp1 k1 h l1).push {cls:=.type (ja k2),data:=.fields #[.ref l2,.int 0 0]}
abbrev zp3 (k1 k2:Bool) (h:Heap) (l1 l2:Addr):Heap:=(zp2 k1 k2 h l1 l2).push {cls:=.type "tuple", data:=.seq #[.ref h.objs.size,.ref (zp1 k1 h l1).objs.size]}
abbrev zp4 (k1 k2:Bool) (h:Heap) (l1 l2:Addr):Heap:=(zp3 k1 k2 h l1 l2).push {cls:=.type "tuple", data:=.seq #[.none,.none]}
abbrev zp5 (k1 k2:Bool) (h:Heap) (l1 l2:Addr):Heap:=(zp4 k1 k2 h l1 l2).push {cls:=.type "zip", data:=.fields #[.none,.bool false,.bool false,.ref (zp2 k1 k2 h l1 l2).objs.size,.ref (zp3 k1 k2 h l1 l2).objs.size]}
def Rf (k1 k2:Bool) (l1 l2:Addr) (xs ys:yao):Meets (Builtin.«zip.__new__» ⟨[.type "zip", .ref l1,.ref l2],[]⟩) (λ_ R s=>UR k1 s.heap l1 xs/\UR k2 s.heap l2 ys/\R (.ok (.ret (.ref (zp4 k1 k2 s.heap l1 l2).objs.size))) {s with heap:=zp5 k1 k2 s.heap l1 l2}) :=
 .of_wp λb w A R s h=>by
  obtain⟨e,g,d,a,os⟩:=s;obtain⟨i,f,h⟩:=h;have c:=sub_zip;have j:UR k1 (Shared.heap ⟨e,g,d,a,os⟩) l1 xs:=i;have i:UR k2 (Shared.heap ⟨e.push {cls:=.type (ja k1),data:=.fields #[.ref l1,.int 0 0]},g,d,a,os⟩) l2 ys:=f.of λo e=>T5 _ e
  wp_walk using KH j,KH i
  exact⟨_,rfl,h⟩
section
variable{prog:Program}{w:World}{A:Around}{E:yaa}{s:Shared}{k1 k2:Bool}{l1 l2:Addr}{xs ys:yao}
def K5{Q:yaa}(d:UR k1 s.heap l1 xs)(b:UR k2 s.heap l2 ys)
  (k:∀h',ZSt k1 k2 (s.heap.objs.size+4) (s.heap.objs.size+2) (s.heap.objs.size+3) s.heap.objs.size (s.heap.objs.size+1) l1 l2 0 h'->(∀c o,s.heap.get? c=some o->h'.get? c=some o)->Q (.ref (s.heap.objs.size+4)) {s with heap:=h'}) :
  wpAny (model prog w) A (call (.type "zip") [.ref l1,.ref l2]) Q E s:=by
 refine callType_new F.called_zip (by decide) (F.typeCall_zip_2 _ _) (F.newCall_zip_2 _ _) (λa=>F.args_object_init_3 a _ _) F.entry_zip_new (Rf k1 k2 l1 l2 xs ys) ⟨d,b,?_⟩;have h:(zp1 k1 s.heap l1).objs.size=s.heap.objs.size+1:=zCw ..;have g:(zp2 k1 k2 s.heap l1 l2).objs.size=s.heap.objs.size+2:=by rw[zCw,h]
 have f:(zp3 k1 k2 s.heap l1 l2).objs.size=s.heap.objs.size+3:=by rw[zCw,g]
 have l:(zp4 k1 k2 s.heap l1 l2).objs.size=s.heap.objs.size+4:=by rw[zCw,f]
 have a:∀c o,(zp4 k1 k2 s.heap l1 l2).get? c=some o->(zp5 k1 k2 s.heap l1 l2).get? c=some o:=λc o e=>T5 _ e
 have b:∀c o,(zp3 k1 k2 s.heap l1 l2).get? c=some o->(zp5 k1 k2 s.heap l1 l2).get? c=some o:=λc o e=>a c o (T5 _ e)
 have d:∀c o,(zp2 k1 k2 s.heap l1 l2).get? c=some o->(zp5 k1 k2 s.heap l1 l2).get? c=some o:=λc o e=>b c o (T5 _ e)
 have p:∀c o,(zp1 k1 s.heap l1).get? c=some o->(zp5 k1 k2 s.heap l1 l2).get? c=some o:=λc o e=>d c o (T5 _ e)
 have j:(zp5 k1 k2 s.heap l1 l2).get? (zp4 k1 k2 s.heap l1 l2).objs.size=some _:=Vi _ rfl;have m:=a _ _ (Vi (zp3 k1 k2 s.heap l1 l2) (o:={cls:=.type "tuple", data:=.seq #[.none,.none]}) rfl);have g3:=b _ _ (Vi (zp2 k1 k2 s.heap l1 l2) (o:={cls:=.type "tuple", data:=.seq #[.ref s.heap.objs.size,.ref (zp1 k1 s.heap l1).objs.size]}) rfl);have n:=d _ _ (Vi (zp1 k1 s.heap l1) (o:={cls:=.type (ja k2),data:=.fields #[.ref l2,.int 0 0]}) rfl);have q:=p _ _ (Vi s.heap (o:={cls:=.type (ja k1),data:=.fields #[.ref l1,.int 0 0]}) rfl);have i:=k (zp5 k1 k2 s.heap l1 l2);rw[g,f,l]at j;rw[f]at m;rw[h,g]at g3;rw[h]at n;have b:∀{k:Bool} {h:Heap} {d a:Addr},h.get? d=some {cls:=.type (ja k),data:=.fields #[.ref a,.int 0 0]}->Vp k h d a 0:=fun {k h d a} e=>by
  cases k with
  |true=>exact⟨_,e,rfl,rfl⟩
  |false=>exact⟨_,e,rfl,rfl⟩
 rw[l];exact⟨⟨_,j,rfl⟩,i ⟨j,g3,⟨_,_,m⟩,b q,b n⟩ λc o e=>p c o (T5 _ e)⟩
end
end PZ
namespace PD
open PySem PySem.Spec PyProof.Rows L2 PZ
def Xv(K:yac):Bool->Hp->Addr->yaq->Prop
 |true=>SqL K
 |false=>L2.SJ K
section
variable{X:Cx}{pins:yab}{σ:St}{H:Hp}{s:Shared}{k:Bool}{a:Addr}{xs:yaq}
theorem Xv.list(I:Inv X pins σ H s)(h:Xv X.K k H a xs):∃b:yad,Vals xs b/\UR k s.heap a b.toArray:=by
 cases k with
 |true =>
  obtain⟨b,r,p,_⟩:=I.list h;exact⟨b,r,p.isList⟩
 |false =>
  obtain⟨b,r,p,_⟩:=I.tuple h;exact⟨b,r,p⟩
theorem Xv.inj(I:Inv X pins σ H s)(h:Xv X.K k H a xs)(h':Xv X.K k H a ys):xs=ys:=by
 cases k with
 |true=>exact I.Xp h h'
 |false=>exact I.Yx h h'
def Xv.ne(I:Inv X pins σ H s)(f:fE X pins H b)(h:Xv X.K k H a xs):a≠b:=λe=>by
 subst e;obtain⟨m,l,j,c,i,g⟩:=f;have d:∀o,X.K.lookup a=some o->False:=λo q=>by
  have b:=I.ok.mod.VC a o q;rcases c with z|z;exact I.ok.XS a o b z;exact absurd (Tt (SH (I.ok.bs a o b).1) z) (by simp_all)
 cases k with
 |true =>
  rcases h with(h|⟨o,h⟩)|⟨o,b,n,h,_⟩
  all_goals lia
 |false =>
  rcases h with(h|⟨o,h⟩)|⟨o,b,n,h,_⟩
  all_goals lia
end
def Itz(K:yac)(k1 k2:Bool)(a b:Addr):It :=
 ⟨λi H=>∃d c x y,Xv K k1 H a d/\Xv K k2 H b c/\d[i]?=some x/\c[i]?=some y,
  λi H v e=>∃T x y,v=.ref T/\H T=none/\e=L2.upd H T (.tup [x,y])/\(∀d,Xv K k1 H a d->d[i]?=some x)/\∀c,Xv K k2 H b c->c[i]?=some y,
  λi H=>∃d c,Xv K k1 H a d/\Xv K k2 H b c/\(d[i]?=none∨c[i]?=none)⟩
def Ka{P:Program}{w:World}{K:yac}{es:yai}{d:Nat}{c:Pos}(k1 k2:Bool)(a b z TI TO g f:Addr)(D:Ap z TI TO g f) :
  Turn P w K (.Tuple es d c) (Itz K k1 k2 a b) [z,TI,TO,g,f] z (λi h=>ZSt k1 k2 z TI TO g f a b i h) where
 mem:=by simp
 obj:=λi h st c d=>by
  obtain⟨J,M,⟨x,y,L⟩,C,r⟩:=st;simp only[Tx,zCL,or_false]at d;rcases d with e|e|e|e|e<;>subst e;exact⟨_,J,λv q=>by cases q⟩;exact⟨_,M,λv q=>by cases q⟩;exact⟨_,L,λv q=>by cases q⟩;obtain⟨o,p,_,A⟩:=C.obj;exact⟨o,p,λv q=>by rw[A]at q;cases q⟩;obtain⟨o,p,_,A⟩:=r.obj;exact⟨o,p,λv q=>by rw[A]at q;cases q⟩
 keep:=λi h h' st kp=>by obtain⟨J,M,⟨x,y,L⟩,C,r⟩:=st;exact⟨kp z (by simp) _ J,kp TI (by simp) _ M,⟨x,y,kp TO (by simp) _ L⟩,C.of λo e=>kp g (by simp) o e,r.of λo e=>kp f (by simp) o e⟩
 item:=by
  intro X hP Y hK d i G s σ H E I j st hg;subst hP Y hK;obtain⟨xs,ys,x,y,p,A,hx,hy⟩:=hg;obtain⟨us,Q,U⟩:=p.list I;obtain⟨ws,O,T⟩:=A.list I;obtain⟨u,m,ru⟩:=Q.get hx;obtain⟨v,hv,rv⟩:=O.get hy;have t:∀{k:Bool} {l:Addr} {N:yaq},Xv X.K k H l N->Out z TO g f l:=λq=>⟨q.ne I (j z (by simp)),q.ne I (j TO (by simp)),q.ne I (j g (by simp)),q.ne I (j f (by simp))⟩
  refine K6 D (t p) (t A) st U T (x:=u) (y:=v) (by simpa using m) (by simpa using hv) λh' m ti to C r pr kp=>⟨_,rfl,wpAny_letOwnedTupleGo_zip m λm z2 sb=>?_⟩
  have n:s.heap.objs.size<=s.heap.objs.size:=SF _;have nz:s.heap.objs.size≠z:=Yg (SH st.z);have B:H s.heap.objs.size=none:=I.R7.fresh n;have w:∀c o,c ∉ [z,TI,TO,g,f]->s.heap.get? c=some o->m.get? c=some o:=λc o n e=>by simp only[Tx,zCL,or_false,not_or]at n;exact sb.extBut c o n.1 (kp c o n.1 n.2.2.1 n.2.2.2.1 n.2.2.2.2 e)
  have Sn:ZSt k1 k2 z TI TO g f a b (i+1) m:=⟨z2,sb.extBut _ _ D.a1 ti,⟨_,_,sb.extBut _ _ D.a2 to⟩,C.of λo e=>sb.extBut _ o D.a3 e,r.of λo e=>sb.extBut _ o D.a4 e⟩;have C:IsPair m s.heap.objs.size u v:=sb.extBut _ _ nz pr;have lo:∀c ∈ [z,TI,TO,g,f],c≠s.heap.objs.size:=λc d e=>by
   have a:c<s.heap.objs.size:=by
    obtain⟨J,M,⟨x',y',L⟩,r,b⟩:=st;simp only[Tx,zCL,or_false]at d;rcases d with q|q|q|q|q<;>subst q;exact SH J;exact SH M;exact SH L;obtain⟨o,p,_⟩:=r.obj;exact SH p;obtain⟨o,p,_⟩:=b.obj;exact SH p
   rw[e]at a;exact zCr _ a
  refine⟨.ref s.heap.objs.size,L2.upd H s.heap.objs.size (.tup [x,y]),?_,rfl,⟨_,x,y,rfl,B,rfl,λxs' q=>by rw[q.inj I p];exact hx,λys' q=>by rw[q.inj I A];exact hy⟩,Sn,λc d=>by rw[aC (lo c d)];exact(j c d).1⟩;have a:∀c o,H c=some o->c ∉ [z,TI,TO,g,f]:=λc o e d=>by have:=(j c d).1;rw[e]at this;cases this
  refine L2.Inv.step (s:=s) (h':=m) (g':=s.gens) (d':=s.drawn) (t':=s.toks) (ch:=[z,TI,TO,g,f]) I (λc d=>?_) (λc o _ _ n e _=>w c o n e) (λc o _ _ n e _=>⟨o.slots,w c o n e⟩) (λc o _ e n=>by rw[aC (Uw (SH e))];exact n) (λc o n e=>⟨o,w c o n e⟩)
   (λc ls e=>by rw[aC (gN e B)];exact e) (λc o ls e=>by rw[aC (gN e B)];exact e) (λc ps e=>⟨#[],by rw[aC (gN e B),e];simp⟩) (λm y=>?_) (λc o e=>?_) I.bare
  obtain⟨f0,f1,f2,M,L,J⟩:=j c d;exact⟨M,f1,L,J⟩;obtain⟨o,Wh,ep,x,r⟩:=y;exact⟨o,Wh,ep,w _ o (λq=>(j _ q).2.1 rfl) x,r⟩;by_cases b:c=s.heap.objs.size;subst b;rw[aP]at e;cases e;exact⟨by rw[To];show 2<=16777216;decide,[u,v],.cons ru (.cons rv .nil),⟨_,C,rfl,_,rfl⟩⟩;rw[aC b]at e;refine(I.R7 c o e).VY (λd' u C q=>w d' u ?_ q) (λd' q=>by rw[aC (gN q B)];exact q) λd' ls q=>by rw[aC (gN q B)];exact q
  rcases C with q'|q';rw[q'];exact a c o e;exact a d' _ q'
 done:=by
  intro X hP Y hK d i G s σ H E I j st hg;subst hP Y hK;obtain⟨xs,ys,p,A,b⟩:=hg;obtain⟨us,Q,U⟩:=p.list I;obtain⟨ws,O,T⟩:=A.list I;have t:∀{k:Bool} {l:Addr} {N:yaq},Xv X.K k H l N->Out z TO g f l:=λq=>⟨q.ne I (j z (by simp)),q.ne I (j TO (by simp)),q.ne I (j g (by simp)),q.ne I (j f (by simp))⟩
  refine K7 (I.ok.hd d) D (t p) (t A) st U T (b.imp (λq=>by simpa using Q.none_of q) λq=>by simpa using O.none_of q) λh' kp=>⟨rfl,?_⟩
  have w:∀c o,c ∉ [z,TI,TO,g,f]->s.heap.get? c=some o->h'.get? c=some o:=λc o n e=>by simp only[Tx,zCL,or_false,not_or]at n;exact kp c o n.1 n.2.2.1 n.2.2.2.1 n.2.2.2.2 e
  have a:∀c o,H c=some o->c ∉ [z,TI,TO,g,f]:=λc o e d=>by have:=(j c d).1;rw[e]at this;cases this
  refine L2.Inv.step (s:=s) (h':=h') (g':=s.gens) (d':=s.drawn) (t':=s.toks) (ch:=[z,TI,TO,g,f]) I (λc d=>?_) (λc o _ _ n e _=>w c o n e) (λc o _ _ n e _=>⟨o.slots,w c o n e⟩) (λ_ _ _ _ n=>n) (λc o n e=>⟨o,w c o n e⟩) (λ_ _ e=>e) (λ_ _ _ e=>e) (λc ps e=>⟨#[],by rw[e];simp⟩) (λm y=>?_) (λc o e=>?_) I.bare;obtain⟨f0,f1,f2,M,L,J⟩:=j c d;exact⟨M,f1,L,J⟩;obtain⟨o,Wh,ep,x,r⟩:=y;exact⟨o,Wh,ep,w _ o (λq=>(j _ q).2.1 rfl) x,r⟩;refine(I.R7 c o e).VY (λd' u C q=>w d' u ?_ q) (λ_ q=>q) λ_ _ q=>q
  rcases C with q'|q';rw[q'];exact a c o e;exact a d' _ q'
 self:=λ_ _ _ _ _ st h=>wpAny_pyIter_zip st.z h
def fL:D->Option (Bool×yar)
 |.lst _ a=>some (true,a)
 |.tup a=>some (false,a)
 |_=>none
section
variable{X:Cx}
def Den.seq{k:Bool}{c:yar}(h:Den X.K P H d v)(e:fL d=some (k,c)):∃a b,v=.ref a/\Xv X.K k H a b/\ah X.K P H c b ∧
  ∀ (f:yak) (H':Hp),(∀a b,SJ X.K H a b->SJ X.K H' a b)->(∀t a b,¬P t a->UH X.K H t a b->¬f t a/\UH X.K H' t a b)->Xv X.K k H' a b:=by
 cases d with
 |lst t i =>
  cases e;obtain⟨a,b,d,p,q,c⟩:=h.WE;exact⟨a,b,d,q.1,c,λf H' _ g=>(g t a b p q).2.1⟩
 |tup i =>
  cases e;obtain⟨a,b,d,q,c⟩:=h.UW;exact⟨a,b,d,q.w,c,λf H' c _=>(c a b q).w⟩
 |RZ=>cases e
 |bl _=>cases e
 |int _=>cases e
 |str _=>cases e
 |exc _=>cases e
 |obj _ _ _=>cases e
 |Ws=>cases e
 |V1 _ _=>cases e
def N4(b:DA):DA:=λa R=>b a λg=>∃d c f e b a,g=[d,c]/\fL d=some (f,b)/\fL c=some (e,a)/\R (List.zipWith (λx y=>D.tup [x,y]) b a)
def Gk {a b:Expr} {p:Pos} (hg:Gl X "zip") (hm:X.mg "zip" = none) (ha:Wt X [a,b] ta) (hs:starEach [a,b] X.env=(false,eval a X.env)::starEach [b] X.env:=by rfl) (M:(backTo pos (starEach [b] X.env)).any (·.1)=false:=by rfl) :
  YF X (.Tuple es kt tp) (.Call (.Name "zip" p) [a,b] [] pos) (N4 ta):=by
 intro o s σ H W ρ R I r h;refine Call_ (di I hg hm boot_zip (PyProof.Rows.callWith_type1 (Rw (ha pos o s σ H W ρ _ I r h) λus f Ry=>?_) hs M));obtain⟨vs,H1,ds,t,r1,e1,hd,q1⟩:=Ry;obtain⟨d1,d2,k1,k2,u,B,e,g1,g2,q⟩:=q1;subst e;obtain⟨v1,v2,rfl,Xd,N⟩:=q9 hd;obtain⟨l1,k,e2,E,n,up1⟩:=Xd.seq g1;obtain⟨l2,g,e3,C,m,WG⟩:=N.seq g2;subst e2 e3;cases r1 with
 |cons ra G =>
  cases G with
  |cons rb G =>
   cases G;cases ra;cases rb;obtain⟨us1,_,p1⟩:=E.list t;obtain⟨us2,_,p2⟩:=C.list t;have nn:∀j:Nat,f.heap.objs.size<=f.heap.objs.size+j:=λj=>VP _ j
   refine K5 p1 p2 λh' Z kp=>?_
   refine wpAny_pyIter_zip Z.z ?_;have Dz:Ap (f.heap.objs.size+4) (f.heap.objs.size+2) (f.heap.objs.size+3) f.heap.objs.size (f.heap.objs.size+1):=by constructor<;>simp
   refine⟨f.heap.objs.size+4,[f.heap.objs.size+4,f.heap.objs.size+2,f.heap.objs.size+3,f.heap.objs.size,f.heap.objs.size+1],_,_,H1,_,rfl,t.kept (t':=f.toks) kp,e1,Ka k1 k2 l1 l2 _ _ _ _ _ Dz,Z,λc Y=>?_,?_,q⟩;have Yw:f.heap.objs.size<=c:=by
    simp at Y;rcases Y with q|q|q|q|q<;>subst q<;>first|exact nn _|exact SF _
   exact t.fpOk Yw (t.R7.fresh Yw);intro P' A w z hX i;have O:=up1 P' A w z;have l:=WG P' A w z;have n1:=n.len;have n2:=m.len;have U:(List.zipWith (λx y=>D.tup [x,y]) u B).length=min u.length B.length:=List.length_zipWith;refine⟨λd=>?_,λv H3 y d=>?_,λd=>⟨k,g,O,l,?_⟩⟩;obtain⟨x,L,_⟩:=n.get (i:=i) (d:=u[i]'(by lia)) (by simp);obtain⟨y,J,_⟩:=m.get (i:=i) (d:=B[i]'(by lia)) (by simp);exact⟨k,g,x,y,O,l,L,J⟩;obtain⟨T,x,Q,e,nT,eH,L,J⟩:=y;subst e eH;obtain⟨dx,Xw,VJ⟩:=n.bI (L k O);obtain⟨dy,ZI,Wr⟩:=m.bI (J g l);have sm:av A (L2.upd A T (.tup [x,Q])):=av.upd nT;refine⟨sm,.tup [dx,dy],by simp[List.getElem?_zipWith,Xw,ZI],Den.tup (SJ.of aP) (ah.cons ((Den.map w z hX dx x VJ).same sm) (ah.one ((Den.map w z hX dy Q Wr).same sm)))⟩;by_cases hz:u.length<=i;exact .inl (zB6 (by lia));exact .inr (zB6 (by lia))
end
open PySem PySem.Spec PyProof.Rows L2
inductive FDP (X:Cx) (pins:yab) (σ:St) (W:Own) (H:Hp) (Q:yar->Prop) (u:Value) (s':Shared):Prop
 |mk (a:Addr) (vs:yaq) (H':Hp) (ds:yar) (_:u=.ref a) (_:Inv X pins σ H' s') (_:av H H') (_:H a=none) (_:X.K.lookup a=none) (_:H' a=some (.lst vs)) (_:ah X.K (λt b=>W.bad t b∨b=a) H' ds vs) (_:Q ds)
def WH(X:Cx)(e:Expr)(t:DA):Prop :=
 ∀ (a:yab) (s:Shared) (b:St) (H:Hp) (W:Own) (c:Ro) (Q:yar->Prop),Inv X a b H s->Rel X W H b c->t c Q →
  wpAny (model X.prog X.w) X.A (eval e X.env) (FDP X a b W H Q) X.xe s
def NQ(t:DA):DE:=λa Q=>t a λa=>Q (.lst true a)
section
variable{X:Cx}{e:Expr}{t:DA}{pos:Pos}
def WH.YI(h:WH X e t):RU X e (NQ t):=by
 intro a s b H W c Q I r d;refine Rw (h a s b H W c _ I r d) λu j d=>?_
 obtain⟨a,i,g,l,e,f,sm,n,k,c,b,q⟩:=d;subst e;exact⟨.ref a,g,_,f,rfl,sm,Den.lst (r.fresh n) (.new c k) (b.R9 λ_ _ z=>.inl z),q⟩
def WH.of(h:PE X e te)(k:∀d H W ρ Q,Rel X W H d ρ->t ρ Q->te d H λv H'=>∃a c g f,v=.ref a/\av H f/\f a=none/\H'=L2.upd f a (.lst c)/\ah X.K W.bad f g c/\Q g)(i:∀b d H s a c,Inv X b d H s->H a=some (.lst c)->X.K.lookup a=none):WH X e t:=by
 intro b s d H W ρ Q I r j;refine Rw (h b s d H _ I (k d H W ρ Q r j)) λu l j=>?_
 obtain⟨v,H',b,d,a,c,g,f,e,sm,n,h,f,q⟩:=j;subst e h;cases d;exact⟨a,c,_,g,rfl,b,sm.trans (av.upd n),sm.free n,i _ _ _ _ a c b aP,aP,ah.apart n (i _ _ _ _ a c b aP) f,q⟩
def Inv.kno{o:HO}(I:Inv X pins σ H s)(h:H a=some o):X.K.lookup a=none:=by
 cases e:X.K.lookup a with
 |none=>rfl
 |some b =>
  have:=(I.bs a b (I.ok.mod.VC a b e)).2
  lia
def P7(i:Nat)(t:DA):DS:=λE a=>t a λb=>E.nx (a.set i (some (.own b)))
end
mutual
def lT:D->Bool
 |.tup a=>fe a
 |.obj _ _ a=>fe a
 |.V1 _ a=>fe a
 |.lst _ _=>false
 |_=>true
def fe:yar->Bool
 |[]=>true
 |d::a=>lT d && fe a
end
mutual
def jt:D->Bool
 |.tup a=>nk a
 |.obj _ _ a=>nk a
 |.V1 _ a=>nk a
 |.lst t a=>t && nk a
 |_=>true
def nk:yar->Bool
 |[]=>true
 |d::a=>jt d && nk a
end
section
variable{K:yac}{P P':yak}{H:Hp}
mutual
theorem Den.ZJ:∀(d:D) (v:V),lT d=true->Den K P H d v->Den K P' H d v
 |.RZ,_,_,h=>by simpa only[Den]using h
 |.bl _,_,_,h=>by simpa only[Den]using h
 |.int _,_,_,h=>by simpa only[Den]using h
 |.str _,_,_,h=>by simpa only[Den]using h
 |.exc _,_,_,h=>by simpa only[Den]using h
 |.obj C f c,_,n,h=>by rw[lT]at n;simp only[Den]at h ⊢;obtain⟨a,d,b,e,q,l,k,r⟩:=h;exact⟨a,d,b,e,q,l,k,ah.ZJ c b n r⟩
 |.Ws,_,_,h=>by simpa only[Den]using h
 |.V1 g c,_,n,h=>by rw[lT]at n;simp only[Den]at h ⊢;obtain⟨a,o,d,b,e,q,l,k,r⟩:=h;exact⟨a,o,d,b,e,q,l,k,ah.ZJ c b n r⟩
 |.lst _ _,_,n,_=>by rw[lT]at n;cases n
 |.tup c,_,n,h=>by rw[lT]at n;simp only[Den]at h ⊢;obtain⟨a,b,e,q,r⟩:=h;exact⟨a,b,e,q,ah.ZJ c b n r⟩
theorem ah.ZJ:∀(a:yar) (b:yaq),fe a=true->ah K P H a b->ah K P' H a b
 |[],_,_,h=>by simpa only[ah]using h
 |d::a,_,n,h=>by rw[fe,zCx]at n;simp only[ah]at h ⊢;obtain⟨v,r,e,c,b⟩:=h;exact⟨v,r,e,Den.ZJ d v n.1 c,ah.ZJ a r n.2 b⟩
end
mutual
theorem Den.Xx(k:∀a,P' true a->P true a):∀(d:D) (v:V),jt d=true->Den K P H d v->Den K P' H d v
 |.RZ,_,_,h=>by simpa only[Den]using h
 |.bl _,_,_,h=>by simpa only[Den]using h
 |.int _,_,_,h=>by simpa only[Den]using h
 |.str _,_,_,h=>by simpa only[Den]using h
 |.exc _,_,_,h=>by simpa only[Den]using h
 |.obj C g c,_,n,h=>by rw[jt]at n;simp only[Den]at h ⊢;obtain⟨a,f,b,e,q,l,d,r⟩:=h;exact⟨a,f,b,e,q,l,d,ah.Xx k c b n r⟩
 |.Ws,_,_,h=>by simpa only[Den]using h
 |.V1 i c,_,n,h=>by rw[jt]at n;simp only[Den]at h ⊢;obtain⟨a,o,f,b,e,q,l,d,r⟩:=h;exact⟨a,o,f,b,e,q,l,d,ah.Xx k c b n r⟩
 |.lst t c,_,n,h=>by rw[jt,zCx]at n;obtain⟨f,d⟩:=n;subst f;simp only[Den]at h ⊢;obtain⟨a,b,e,p,q,r⟩:=h;exact⟨a,b,e,λz=>p (k a z),q,ah.Xx k c b d r⟩
 |.tup c,_,n,h=>by rw[jt]at n;simp only[Den]at h ⊢;obtain⟨a,b,e,q,r⟩:=h;exact⟨a,b,e,q,ah.Xx k c b n r⟩
theorem ah.Xx(k:∀a,P' true a->P true a):∀(b:yar) (c:yaq),nk b=true->ah K P H b c->ah K P' H b c
 |[],_,_,h=>by simpa only[ah]using h
 |d::b,_,n,h=>by rw[nk,zCx]at n;simp only[ah]at h ⊢;obtain⟨v,r,e,c,a⟩:=h;exact⟨v,r,e,Den.Xx k d v n.1 c,ah.Xx k b r n.2 a⟩
end
end
def Own.soft(W:Own)(i:Nat)(a:Addr):Own:=⟨W.B,λj=>if j=i then none else W.O j,λb=>W.S b∨b=a⟩
section
variable{X:Cx}
theorem Rel.soft{i:Nat}(r:Rel X W H σ ρ)(e:ρ[i]?=some (some (.own ds))):∃a,W.O i=some a/\Rel X (W.soft i a) H σ (ρ.set i (some (.val (.lst false ds))))/\∀b,W.bad true b->(W.soft i a).bad true b:=by
 obtain⟨a,u,g,n,o,s⟩:=r.Xq i ds e;have q:i<ρ.length:=(VE.mp e).1;have e:∀j b,(W.soft i a).O j=some b->j≠i/\W.O j=some b:=λj b h=>by
  have l:(if j=i then none else W.O j)=some b:=h
  lia
 have c:∀t b,(W.soft i a).bad t b->W.bad t b:=λt b z=>by
  rcases z with z|⟨j,z⟩| ⟨d,z2⟩;exact .inl z;exact .inr (.inl ⟨j,(e j b z).2⟩);rcases z2 with z2|z2;exact .inr (.inr ⟨d,z2⟩);subst z2;exact .inr (.inl ⟨i,g⟩)
 have p:¬(W.soft i a).bad false a:=λz=>by
  rcases z with z|⟨j,z⟩| ⟨d,_⟩;exact(r.kn i a g).2.1.1 z;exact(e j a z).1 (r.inj j i a (e j a z).2 g);cases d
 refine⟨a,g,⟨λj d h=>?_,λj x h=>?_,λj k b l m=>r.inj j k b (e j b l).2 (e k b m).2,λj b h=>?_,λj b h=>r.ke j b (e j b h).2,r.bt,λb h=>?_,r.ent,r.tab⟩,λb z=>?_⟩;by_cases f:j=i;subst f;rw[Zb q]at h;cases h;exact⟨.ref a,n,Den.lst p (.any (SqL.of o)) (s.R9 c)⟩;rw[Vx (Ne.symm f)]at h;obtain⟨w,l,m⟩:=r.val j d h;exact⟨w,l,m.R9 c⟩;by_cases f:j=i
 simp_all
 rw[Vx (Ne.symm f)]at h;obtain⟨b,a,l,m,p,d⟩:=r.own j x h;exact⟨b,a,by show(if j=i then none else W.O j)=_;rw[if_neg f];exact l,m,p,d.R9 c λk c q=>(by show(if vix σ.length j k=i then none else W.O (vix σ.length j k))=_;rw[if_neg (we (VE.mp n).1)];exact q)⟩
 obtain⟨k,⟨d,c⟩,a⟩:=r.kn j b (e j b h).2;refine⟨k,⟨d,λz=>z.elim c λz=>?_⟩,a⟩;subst z;exact(e j b h).1 (r.inj j i b (e j b h).2 g);rcases h with h|h;exact r.st b h;subst h;exact⟨_,o⟩;rcases z with z|⟨j,z⟩| ⟨_,z⟩;exact .inl z;by_cases f:j=i;subst f;rw[g]at z;cases z;exact .inr (.inr ⟨rfl,.inr rfl⟩);exact .inr (.inl ⟨j,by show(if j=i then none else W.O j)=_;rw[if_neg f];exact z⟩);exact .inr (.inr ⟨rfl,.inl z⟩)
variable{e:Expr}{te:DE}{tt:DT}{ta:DA}
def Ku(i:Nat)(t:DE):DE:=λa Q=>lU a[i]? λb=>t (a.set i (some (.val (.lst false b)))) λd=>jt d=true/\Q d
def FU(i:Nat)(t:DT):DT:=λa Q=>lU a[i]? λb=>t (a.set i (some (.val (.lst false b)))) Q
def Lv(i:Nat)(h:RU X e te):RU X e (Ku i te):=by intro b s d H W k Q I r c;obtain⟨n,g,c⟩:=mR c;obtain⟨a,m,f,a⟩:=r.soft g;exact Rw (h b s d H _ _ _ I f c) λu l h=>(by obtain⟨v,j,d,i,b,f,c,g,q⟩:=h;exact⟨v,j,d,i,b,f,Den.Xx a d v g c,q⟩)
def Lz(i:Nat)(h:Xr X e tt):Xr X e (FU i tt):=by intro b s d H W g Q I r c;obtain⟨l,f,c⟩:=mR c;obtain⟨a,k,a,j⟩:=r.soft f;exact h b s d H _ _ _ I a c
end
section
variable{X:Cx}{pos:Pos}
theorem ah.set{K:yac}{P:yak}{H:Hp}{d:D}{v:V}(b:Den K P H d v):∀{c:yar} {a:yaq} (j:Nat),ah K P H c a->ah K P H (c.set j d) (a.set j v)
 |[],_,_,h=>by subst h;exact ah.nil
 |x::r,_,0,h=>by obtain⟨u,w,rfl,c,a⟩:=h;exact ah.cons b a
 |x::r,_,j+1,h=>by obtain⟨u,w,rfl,c,a⟩:=h;exact ah.cons c (ah.set b j a)
theorem ah.take{K:yac}{P:yak}{H:Hp}:∀{b:yar} {a:yaq} (n:Nat),ah K P H b a->ah K P H (b.take n) (a.take n)
 |_,_,0,_=>by simp_all [List.take_zero,ah.nil]
 |[],_,_+1,h=>by subst h;exact ah.nil
 |x::r,_,n+1,h=>by obtain⟨u,w,rfl,b,a⟩:=h;exact ah.cons b (ah.take n a)
theorem ah.drop{K:yac}{P:yak}{H:Hp}:∀{b:yar} {a:yaq} (n:Nat),ah K P H b a->ah K P H (b.drop n) (a.drop n)
 |_,_,0,h=>by grind
 |[],_,_+1,h=>by subst h;exact ah.nil
 |x::r,_,n+1,h=>by obtain⟨u,w,rfl,c,a⟩:=h;exact ah.drop n a
theorem ah.rev{K:yac}{P:yak}{H:Hp}:∀{b:yar} {a:yaq},ah K P H b a->ah K P H b.reverse a.reverse
 |[],_,h=>by subst h;exact ah.nil
 |x::r,_,h=>by
  obtain⟨u,w,rfl,d,c⟩:=h
  simp_all [zCs,ah.rev,append,ah.one]
def FT(i:Nat)(c te:DE):DS:=λE a=>∃b,a[i]?=some (some (.own b))/\te a λd=>c a λk=>∃n j,k=.int n/\ixN b.length n=some j/\E.nx (a.set i (some (.own (b.set j d))))
def IS{x:Str}(i:Nat)(q:RU X k tk)(c:RU X e te)(o:X.N[i]?=some x:=by rfl)(hv:Yh X.env.scope x:=by first|exact Or.inl rfl|exact Or.inr (Or.inl rfl)|exact Or.inr (Or.inr rfl))
  (w:(x==("__debug__" : Str))=false:=by decide) (y:(x==("__classdict__" : Str))=false:=by decide)
  (N:∀v,assign (.Subscript (.Name x px) k tp) X.env v=(do
   let f←holding [v] (eval (.Name x px) X.env)
   let g←holding [v,f] (eval k X.env)
   standAt tp
   holding [v,f,g] (setItem f g v)
   release [v,f,g] []):=by intro _;rfl)
  (hs:swapsWithSole [.Subscript (.Name x px) k tp] e pos.line X.env=pure false:=by rfl) (a:swappedStores [.Subscript (.Name x px) k tp] e X.env=pure none:=by rfl)
  (O:(assignEach [.Subscript (.Name x px) k tp] X.env).map (·.2)=[assign (.Subscript (.Name x px) k tp) X.env]:=by rfl):UQ X (.Assign [.Subscript (.Name x px) k tp] e pos) (FT i tk te):=by
 intro b s e H W j E I r h;obtain⟨t,l,h⟩:=h;refine wpAny_Assign_stores (Rw (c b s e H W j _ I r h) λu m c=>?_) hs a;obtain⟨v,h,d,A,E,s,H,n⟩:=c;show wpAny _ _ (assign (.Subscript (.Name x px) k tp) X.env u) _ _ _;have d:=r.same s;obtain⟨a,_,r,p,_,_⟩:=d.Xq i t l;refine Rm (VT (Rw (fT o hv w y b m e h (λo m=>m=h/\o=.ref a) A ⟨.ref a,p,rfl,rfl⟩) λf k c=>?_));obtain⟨o,x,w,B,o,h⟩:=c;subst o h;refine Rm (VT (Rw (q b k e x W j _ w d n) λg A c=>?_));obtain⟨L,y,M,I,C,k,h,o⟩:=c;obtain⟨n,j,w,G,q⟩:=o;subst w;have o:=h.SK;subst o;have o:=d.same k;obtain⟨Q,h,d,z,w,x⟩:=o.Xq i t l;rw[r]at d;cases d;refine Rm (zDP (Rm (VT (Rw (set_list b A e y (.ref a) (.int n) v f g u (λm=>m=L2.upd y a (.lst (h.set j v))) I B C E ⟨a,h,n,j,rfl,rfl,w,by rw[x.len];exact G,rfl⟩) λ_ J c=>?_))));obtain⟨H4,d,a⟩:=c;subst a;obtain⟨a,b⟩:=o.YA l r p w (ah.set (H.same k) j x);exact wpAny_release ⟨W,e,_,d,(Sm.same (s.trans k)).trans b,_,a,q⟩
def D5(i:Nat)(C:yar->Prop)(f:yar->yar):DS:=λE a=>lU a[i]? λb=>C b/\E.nx (a.set i (some (.own (f b))))
def IQ {x name:Str} {id:String} {h b k:Pos} {l:V->yaq->Hp->VK->Prop} {C:yar->Prop} {f:yar->yar} (g:yaq->yaq) (i:Nat) (e:Slot "list" name id) (j:typeOf (.builtin id)=pure (.type "method_descriptor")) (n:MtM X id l)
  (m:∀(a:Addr) (c:yaq) (d:yar) (H:Hp) (Q:VK),H a=some (.lst c)->c.length=d.length->C d->(∀v,Q v (L2.upd H a (.lst (g c))))->l (.ref a) [] H Q) (p:∀(K:yac) (P:yak) (H:Hp) (d:yar) (c:yaq),ah K P H d c->ah K P H (f d) (g c))
  (o:X.N[i]?=some x:=by rfl) (hv:Yh X.env.scope x:=by first|exact Or.inl rfl|exact Or.inr (Or.inl rfl)|exact Or.inr (Or.inr rfl)) (q:(x==("__debug__" : Str))=false:=by decide) (t:(x==("__classdict__" : Str))=false:=by decide)
  (s:attributeBase (.Name x h) name X.env (eval (.Name x h) X.env)=eval (.Name x h) X.env:=by rfl) (r:(b.endLine==k.line)=true:=by rfl)
  (hs:swapsWith (.Call (.Attribute (.Name x h) name b) [] [] k) none pos.line X.env=pure false:=by rfl):UQ X (.Expr (.Call (.Attribute (.Name x h) name b) [] [] k) pos) (D5 i C f):=by
 have b:=rK (pos:=pos) (Hb PySem.F.plainAttrs_list e j n (fT o hv q t) s r) hs;refine UQ.of b λu H W w E r y h=>?_
 obtain⟨d,f,k,h⟩:=mR h;obtain⟨a,c,j,e,b,g⟩:=r.Xq i d f;obtain⟨i,l⟩:=r.YA f j e b (p _ _ _ d c g);exact⟨.ref a,e,.inl ⟨rfl,_,SqL.of b⟩,m a c d H _ b g.len k λv=>⟨W,_,l,i,h⟩⟩
theorem ah.dropLast{K:yac}{P:yak}{H:Hp}{b:yar}{a:yaq}(h:ah K P H b a):ah K P H b.dropLast a.dropLast:=by rw[List.dropLast_eq_take,List.dropLast_eq_take,h.len];exact h.take _
def Ob {x:Str} {b a c:Pos} (i:Nat) (e:X.N[i]?=some x:=by rfl) (hv:Yh X.env.scope x:=by first|exact Or.inl rfl|exact Or.inr (Or.inl rfl)|exact Or.inr (Or.inr rfl)) (f:(x==("__debug__" : Str))=false:=by decide) (k:(x==("__classdict__" : Str))=false:=by decide)
  (j:attributeBase (.Name x b) "pop" X.env (eval (.Name x b) X.env)=eval (.Name x b) X.env:=by rfl) (g:(a.endLine==c.line)=true:=by rfl)
  (hs:swapsWith (.Call (.Attribute (.Name x b) "pop" a) [] [] c) none pos.line X.env=pure false:=by rfl):UQ X (.Expr (.Call (.Attribute (.Name x b) "pop" a) [] [] c) pos) (D5 i (λd=>0<d.length) List.dropLast) :=
 IQ List.dropLast i PySem.F.slot_list_pop PySem.F.type_list_pop OT (λa b d H Q d l m q=>by
  have c:b.length - 1<b.length:=by omega
  exact⟨a,b,b[b.length - 1],rfl,rfl,d,by simp[c],q _⟩) (λ_ _ _ _ _ h=>h.dropLast) e hv f k j g hs
def QZ(i:Nat)(f:Int->Int->Int)(te:DE):DS:=λE c=>∃a,c[i]?=some (some (.val (.int a)))/\te c λd=>∃b,d=.int b/\E.nx (c.set i (some (.val (.int (f a b)))))
def N9{x:Str}(i:Nat)(h:X.N.Nodup)(g:RU X e te)(b:PIp X op (ipI f))(c:X.N[i]?=some x:=by rfl)(a:Loc X.env.scope x:=by first|exact Or.inl rfl|exact Or.inr rfl)
  (d:X.fn x=true∨X.env.scope.names.lookup x=some .local:=by first|exact .inl rfl|exact .inr rfl|assumption):UQ X (.AugAssign (.Name x pos') op e pos) (QZ i f te):=by
 refine UQ.of (Pe h c a g.pe b d) λe H W b E r f h=>?_
 obtain⟨a,g,h⟩:=h;obtain⟨v,d,hv⟩:=r.val i _ g;have z:=hv.SK;subst z;refine⟨.int a,d,W,b,_,r,h,λj h d d g q=>?_⟩;obtain⟨b,rfl,q⟩:=q;have z:=g.SK;subst z;have g:i<e.length:=by rw[f];exact(VE.mp c).1
 exact⟨a,b,rfl,rfl,W.drop i,_,(Sm.same d).trans (Sm.drop W h i),(r.same d).put g (Den.int _),q⟩
variable{e:Expr}{te:DE}{p:Pos}
def Kt(te:DE):DA:=λa Q=>te a λd=>∃k a,fL d=some (k,a)/\Q a
def Af{K:yac}{P:yak}{H:Hp}{d:D}{v:V}{k:Bool}{c:yar}(h:Den K P H d v)(e:fL d=some (k,c)):∃a b,v=.ref a/\(SqL K H a b∨SJ K H a b)/\ah K P H c b:=by
 cases d with
 |lst t f =>
  cases e;obtain⟨a,b,d,p,q,c⟩:=h.UI;exact⟨a,b,d,.inl q,c⟩
 |tup f =>
  cases e;obtain⟨a,b,d,q,c⟩:=h.UW;exact⟨a,b,d,.inr q,c⟩
 |RZ=>cases e
 |bl _=>cases e
 |int _=>cases e
 |str _=>cases e
 |exc _=>cases e
 |obj _ _ _=>cases e
 |Ws=>cases e
 |V1 _ _=>cases e
def Lw (c:Gl X "list") (b:X.mg "list" = none) (d:RU X e te) (a:starEach [e] X.env=(false,eval e X.env)::starEach [] X.env:=by rfl) (f:(backTo pos (starEach [] X.env)).any (·.1)=false:=by rfl):WH X (.Call (.Name "list" p) [e] [] pos) (Kt te):=by
 refine WH.of (yu pR c b boot_list (gH d.pe mS a) (by decide) (by decide) a f) (λn H W a Q r h=>?_) λ_ _ _ _ _ _ I h=>Inv.kno I h
 refine⟨W,a,_,r,h,λv m d h d q=>?_⟩;obtain⟨k,i,g,q⟩:=q;obtain⟨a,b,f,c,j⟩:=Af d g;subst f;exact⟨a,b,rfl,c.imp id SJ.w,λl a=>⟨l,b,i,m,rfl,h,a,rfl,j,q⟩⟩
theorem dh{K:yac}{P:yak}{H:Hp}:∀{ns:yaf} {a:yaq},ah K P H (ns.map D.int) a->a=ns.map V.int
 |[],_,h=>by simpa only[List.map_nil,ah]using h
 |n::r,_,h=>by obtain⟨v,w,rfl,b,a⟩:=h;rw[b.SK,dh a];rfl
def uG (w:X.calm=true):cN X (.builtin "sum") (λh Q=>∃(t:Bool) (ns:yaf),h=[.lst t (ns.map D.int)]/\Q (.int ns.sum)):=by
 intro d s A H W h C E Q I G r u q;obtain⟨t,ns,e,q⟩:=q;subst e;obtain⟨v,rfl,x⟩:=k6 u;obtain⟨a,B,y,_,n,m⟩:=x.UI;subst y;cases r with
 |cons k j =>
  cases j;cases k;obtain⟨i,c,l,_⟩:=I.list n;rw[dh m]at c;have f:=intsAre_of c;obtain⟨b,g⟩:=f.allInts.items;have o:s.heap.IsList a (intItems b):=by rw[<- g];exact l.isList
  refine sum_intListG (I.ok.hd w) o λM J L kp=>?_
  have z:preSum (numAt b) b.size=ns.sum:=by rw[preSum_eq,XJ (by simp),<- nums_intItems,<- g,show i.toArray.toList=i from rfl,f.numsOf]
  rw[z];exact⟨.int ns.sum,H,_,I.kept kp,⟨_,rfl⟩,av.refl H,Den.int _,q⟩
theorem Vals.rev:∀{xs:yaq} {a:yad},Vals xs a->Vals xs.reverse a.reverse
 |_,_,.nil=>.nil
 |_,_,.cons r t=>by rw[zCs,zCs];exact(Vals.rev t).append (.cons r .nil)
def cutD(xs:yar)(lo a:yap):yar:=(xs.drop (HT.SG xs.length 0 lo)).take (HT.SG xs.length xs.length a - HT.SG xs.length 0 lo)
def ah.cut{K:yac}{P:yak}{H:Hp}{c:yar}{a:yaq}(lo b:yap)(h:ah K P H c a):ah K P H (cutD c lo b) (pV a lo b):=by unfold cutD pV;rw[h.len];exact(h.drop _).take _
abbrev DO:=Ro->(yap->Prop)->Prop
def PDO(X:Cx)(e:Option Expr)(t:DO):Prop :=
 ∀ (a:yab) (s:Shared) (b:St) (H:Hp) (W:Own) (c:Ro) (Q:yap->Prop),Inv X a b H s->Rel X W H b c->t c Q →
  wpAny (model X.prog X.w) X.A (evalPart e X.env) (λu d=>∃o c,Inv X a b c d/\IsPart u o/\av H c/\Q o) X.xe s
def da:DO:=λ_ Q=>Q none
def uK(te:DE):DO:=λa Q=>te a λd=>∃i,d=.int i/\Q (some i)
def cC:PDO X none da:=by intro a s b H W c Q I r h;exact Rz ⟨none,H,I,.none,av.refl H,h⟩
def cJ(d:RU X e te):PDO X (some e) (uK te):=by
 intro a s b H W c Q I r h;refine Rw (d a s b H W c _ I r h) λu j f=>?_
 obtain⟨v,h,d,g,a,d,b,i,c,q⟩:=f;subst c;have z:=b.SK;subst z;obtain⟨t,rfl⟩:=a;exact⟨some i,h,g,.int i t,d,q⟩
variable{lo hi st:Option Expr}{tl th ts:DO}{p2:Pos}
def ud{R:D->yap->yap->yap->Prop}(n:RU X e te)(m:PDO X lo tl)(hh:PDO X hi th)(q:PDO X st ts)(I:Inv X pins σ H s)(r:Rel X W H σ ρ)
  (h:te ρ λd=>tl ρ λl=>th ρ λu=>ts ρ λk=>R d l u k)
  (A:∀(v:V) (a g f i:Value) (l u k:yap) (d:D) (b:Addr) (H':Hp) (j:Shared),Inv X pins σ H' j->av H H'->RelV v a->Den X.K W.bad H' d v->j.heap.IsSliceOf b g f i->IsPart g l->IsPart f u->IsPart i k->R d l u k →
   ∃ T id,typeLookup (.type T) "__getitem__" = pure (some (.builtin id))/\j.TypeIs a T/\wpAny (model X.prog X.w) X.A (getItem a (.ref b)) Q X.xe j)
  (c:∀a b,∃ops,subscripted (.Slice lo hi st p2) false a b=operate ops (getItem a b)):wpAny (model X.prog X.w) X.A (eval (.Subscript e (.Slice lo hi st p2) pos) X.env) Q X.xe s:=by
 refine Subscript_ (Rw (n pins s σ H W ρ _ I r h) λa h n=>?_);obtain⟨v,w,d,o,t,s,B,j⟩:=n;have b:=r.same s;refine wpAny_Slice (Rw (m pins h σ w W ρ _ o b j) λg h ⟨l,r,o,y,j,m⟩=>Rw (hh pins h σ r W ρ _ o (b.same j) m) λf h ⟨u,w,r,x,m,o⟩=>Rw (q pins h σ w W ρ _ r ((b.same j).same m) o) λi h n=>?_);obtain⟨k,r,b,z,o,w⟩:=n;have C:Inv X pins σ r {h with heap:=h.heap.push {cls:=.type "slice", data:=.fields #[g,f,i]} }:=b.kept (t':=h.toks) λb ob q=>T5 _ q
 obtain⟨T,id,q,b,n⟩:=A v a g f i l u k d h.heap.objs.size r _ C (s.trans (j.trans (m.trans o))) t (B.same (j.trans (m.trans o))) (Heap.IsSliceOf.new ..) y x z w;obtain⟨ops,d⟩:=c a (.ref h.heap.objs.size);exact tail_any (ops:=ops) b q n d
def NW(te:DE)(tl th:DO):DA:=λa Q=>te a λd=>tl a λl=>th a λu=>∃t a,d=.lst t a/\Q (cutD a l u)
def NX(te:DE)(tl th:DO):DE:=λa Q=>te a λd=>tl a λl=>th a λu=>∃a,d=.tup a/\¬(HT.SG a.length 0 l=0/\HT.SG a.length a.length u=a.length)/\Q (.tup (cutD a l u))
def sJ(f:yaq->yaq)(g:yar->yar)(I:Inv X pins σ H' s)(r:Rel X W H' σ ρ)(sm:av H H')(d:RelV v vv)(o:Den X.K W.bad H' (.lst tg ds) v)(hs:s.heap.IsSliceOf sl vl vu vk)(j:IsPart vl l)(i:IsPart vu u)(pk:IsPart vk k)(k0:k≠some 0)
  (m:∀b:yad,∃g':yad->yad,slicePick b.toArray l u k=(g' b).toArray/\∀c,Vals c b->Vals (f c) (g' b)/\(f c).length<=c.length) (n:∀c,ah X.K W.bad H' ds c->ah X.K W.bad H' (g ds) (f c)) {Q:yar->Prop} (q:Q (g ds)) :
  ∃ T id,typeLookup (.type T) "__getitem__" = pure (some (.builtin id))/\s.TypeIs vv T/\wpAny (model X.prog X.w) X.A (getItem vv (.ref sl)) (FDP X pins σ W H Q) X.xe s:=by
 obtain⟨a,c,a,_,l,r⟩:=o.UI;subst a;cases d;obtain⟨b,d,a,k⟩:=I.list l;have h:=d.length;refine⟨"list", _,slot_list_getitem.lookup,a.isList.typeIs,?_⟩;refine wpAny_getItem_list_slice a.isList hs j i pk k0 ?_ (by rw[WC]<;>lia);obtain⟨g',e,hv⟩:=m b;rw[e];obtain⟨a,i⟩:=hv c d;have d:H' s.heap.objs.size=none:=I.R7.fresh (SF _);refine⟨s.heap.objs.size,f c,_,g ds,rfl,I.laid (t':=s.toks) (o:=.lst (f c)) (λb ob q=>T5 _ q) (SF _) ⟨Sd i k,_,0,a,Vi _ rfl⟩,sm.trans (av.upd d),sm.free d,Inv.Um I,aP,ah.apart d (Inv.Um I) (n c r),q⟩
def eI(g:RU X e te)(f:PDO X lo tl)(hh:PDO X hi th):WH X (.Subscript e (.Slice lo hi none p2) pos) (NW te tl th):=by
 intro c s o H W b Q I r h;refine ud (st:=none) (ts:=da) (R:=λd l u k=>k=none/\∃t a,d=.lst t a/\Q (cutD a l u)) g f hh cC I r ?_ ?_ (λ_ _=>⟨_,rfl⟩);have f:(λd=>tl b λl=>th b λu=>da b λk=>k=none/\∃t a,d=D.lst t a/\Q (cutD a l u))=λd=>tl b λl=>th b λu=>∃t a,d=D.lst t a/\Q (cutD a l u):=by
  funext d
  congr 1
  funext l
  congr 1
  funext u
  exact propext ⟨λz=>z.2,λz=>⟨rfl,z⟩⟩
 rw[f];exact h;intro v w y x A l u k d B H' C n sm d j i g f h b;obtain⟨k,t,a,m,q⟩:=b;subst k m;exact sJ (λb=>pV b l u) (λa=>cutD a l u) n (r.same sm) sm d j i g f h (by simp) (λa=>⟨λa=>(a.drop (HT.SG a.length 0 l)).take (HT.SG a.length a.length u - HT.SG a.length 0 l),yR a l u,λb a=>⟨by unfold pV;rw[a.length];exact(a.drop _).take _,sF b l u⟩⟩) (λb a=>a.cut l u) q
def NV(te:DE):DA:=λa Q=>te a λd=>∃t a,d=.lst t a/\Q a.reverse
def N7(c:RU X e te):WH X (.Subscript e (.Slice none none (some (.UnaryOp .USub (.Constant (.int 1) j pc) f)) p2) pos) (NV te):=by
 intro g s o H W b Q I r h;refine ud (ts:=uK (zW (dC (.int 1)))) (tl:=da) (th:=da) (R:=λd l u k=>l=none/\u=none/\k=some (-1)/\∃t a,d=.lst t a/\Q a.reverse) c cC cC (cJ (bE ae)) I r ?_ ?_ (λ_ _=>⟨_,rfl⟩);have c:(λd=>da b λl=>da b λu=>uK (zW (dC (.int 1))) b λk=>l=none/\u=none/\k=some (-1)/\∃t a,d=D.lst t a/\Q a.reverse)=λd=>∃t a,d=D.lst t a/\Q a.reverse:=by
  simp only[da,uK,zW,dC,true_and]
  simp_all
 rw[c];exact h;intro v w y x z l u k d A H' B n sm b j i d f h k;obtain⟨c,m,l,t,a,a,q⟩:=k;subst c m l a;exact sJ List.reverse List.reverse n (r.same sm) sm b j i d f h (by decide) (λa=>⟨List.reverse,PySem.W.krv_pick a.toArray,λa b=>⟨Vals.rev b,by grind⟩⟩) (λa a=>a.rev) q
end
section
variable{prog:Program}{w:World}{A:Around}{E:yaa}{s:Shared}{p q:Addr}{us ws:yad}{Q:yaa}
def QT(b:s.heap.IsList p us.toArray)(i:s.heap.IsList q ws.toArray)(hz:us.length+ws.length<=sizeLine)
  (h:Q (.ref s.heap.objs.size) {s with heap:=s.heap.push {cls:=.type "list", data:=.seq (us++ws).toArray} }):wpAny (model prog w) A (binaryOp .Add (.ref p) (.ref q)) Q E s:=by
 obtain⟨⟨r,h,n,d⟩,a,j,f,g3⟩:=id b;obtain⟨⟨o,g,m,c⟩,b,l,e,k⟩:=id i;subst j g3 l k;refine concat_meets ⟨_,a,rfl⟩ ⟨_,b,rfl⟩ noFill_list_add seq_list_add PySem.F.slot_list_add PySem.F.entry_list_add (PySem.F.args_list_add_2 _ _) (list_addW p q us.toArray ws.toArray f e h g d c (by simp_all)) ⟨a,b,?_⟩;grind
def QU(b:IsTup s.heap p us.toArray)(i:IsTup s.heap q ws.toArray)(hz:us.length+ws.length<=sizeLine)(h0:us=[]->Q (.ref q) s)(j:ws=[]->Q (.ref p) s)
  (h:Q (.ref s.heap.objs.size) {s with heap:=s.heap.push {cls:=.type "tuple", data:=.seq (us++ws).toArray} }):wpAny (model prog w) A (binaryOp .Add (.ref p) (.ref q)) Q E s:=by
 obtain⟨⟨t,h,o,d⟩,a,k,f,g3⟩:=id b;obtain⟨⟨r,g,n,c⟩,b,m,e,l⟩:=id i;subst k g3 m l;by_cases hv:us=[];exact concat_meets ⟨_,a,rfl⟩ ⟨_,b,rfl⟩ noFill_tuple_add seq_tuple_add PySem.F.slot_tuple_add PySem.F.entry_tuple_add (PySem.F.args_tuple_add_2 _ _) (tuple_addW0 p q us.toArray ws.toArray f e h g d c (by simp[hv])) ⟨a,b,h0 hv⟩;by_cases i:ws=[];exact concat_meets ⟨_,a,rfl⟩ ⟨_,b,rfl⟩ noFill_tuple_add seq_tuple_add PySem.F.slot_tuple_add PySem.F.entry_tuple_add (PySem.F.args_tuple_add_2 _ _) (tuple_addW1 p q us.toArray ws.toArray f e h g d c (by simp_all) (by simp[i])) ⟨a,b,j i⟩;refine concat_meets ⟨_,a,rfl⟩ ⟨_,b,rfl⟩ noFill_tuple_add seq_tuple_add PySem.F.slot_tuple_add PySem.F.entry_tuple_add (PySem.F.args_tuple_add_2 _ _) (tuple_addW2 p q us.toArray ws.toArray f e h g d c (by simp_all) (by simp_all) (by simp_all)) ⟨a,b,?_⟩;grind
end
section
variable{X:Cx}{pos:Pos}
def nW:RD2:=λx y Q=>match x,y with
 |.int i,.int j=>Q (.int (i+j))
 |.tup b,.tup a=>b.length+a.length<=sizeLine/\Q (.tup (b++a))
 |.lst _ b,.lst _ a=>b.length+a.length<=sizeLine/\Q (.lst true (b++a))
 |_,_=>False
theorem Fs(i j:Int)(Q:D->Prop):nW (.int i) (.int j) Q=Q (.int (i+j)):=rfl
theorem zA(t u:Bool)(xs ys:yar)(Q:D->Prop):nW (.lst t xs) (.lst u ys) Q=(xs.length+ys.length<=sizeLine/\Q (.lst true (xs++ys))):=rfl
def CS{W:Own}{H:Hp}{t:Bool}(b:∀t a,W.bad t a->∃o,H a=some o)(h:H a=none):¬W.bad t a:=by grind
set_option tactic.hygienic true in
def aN:Tz X (binaryOp .Add) nW:=by
 intro a s b H W x y v u c d Q I A w z n m q;cases x<;>cases y<;>first|exact q.elim|skip
 exact OW a s b H W _ _ v u c d Q I A w z n m q;rename_i C b;obtain⟨p,l,y,g,k⟩:=n.UW;obtain⟨B,d,x,f,c⟩:=m.UW;subst y x;cases w;cases z;obtain⟨o,j,t,_⟩:=I.tuple g.w;obtain⟨a,i,r,_⟩:=I.tuple f.w;obtain⟨M,q⟩:=q;have L:=k.len;have J:=c.len;have G:=j.length;have E:=i.length;have e:o.length+a.length<=sizeLine:=by omega
 have h:H s.heap.objs.size=none:=I.R7.fresh (SF _);refine QU t r e (λe=>?_) (λe=>?_) ?_;subst e;have:l=[]:=by grind
 subst this;have:C=[]:=by grind
 subst this;exact⟨.ref B,H,_,I,rfl,av.refl H,m,q⟩;subst e;have:d=[]:=by grind
 subst this;have:b=[]:=by grind
 subst this;rw[YV]at q;exact⟨.ref p,H,_,I,rfl,av.refl H,n,q⟩;exact⟨.ref s.heap.objs.size,L2.upd H s.heap.objs.size (.tup (l++d)),_,I.laid (t':=s.toks) (λb u e=>T5 _ e) (SF _) ⟨by simp_all,o++a,j.append i,⟨_,Vi _ rfl,rfl,_,rfl⟩⟩,rfl,av.upd h,Den.tup (SJ.of aP) ((k.append c).same (av.upd h)),q⟩;obtain⟨p,l,y,_,g,k⟩:=n.UI;obtain⟨B,d,x,_,f,c⟩:=m.UI;subst y x;cases w;cases z;obtain⟨o,j,t,_⟩:=I.list g;obtain⟨a,i,r,_⟩:=I.list f;obtain⟨M,q⟩:=q;have L:=k.len;have J:=c.len;have G:=j.length;have E:=i.length;have h:H s.heap.objs.size=none:=I.R7.fresh (SF _);refine QT t.isList r.isList (by omega) ?_;exact⟨.ref s.heap.objs.size,L2.upd H s.heap.objs.size (.lst (l++d)),_,I.laid (t':=s.toks) (λb u e=>T5 _ e) (SF _) ⟨by grind,o++a,0,j.append i,Vi _ rfl⟩,rfl,av.upd h,Den.lst (CS A h) (.new aP (Inv.Um I)) ((k.append c).same (av.upd h)),q⟩
def okI(x:D):Prop:=okD x/\(UK x).depth<64
def MN:RD2:=λx y Q=>okI x/\okD y/\∃a,(y=.tup a∨∃ t,y=.lst t a)/\Q (.bl (!a.any λz=>eqD z x))
theorem zC(x:D):∀ys:yar,(dq ys).any (λy=>PyData.eqv y (UK x))=ys.any λz=>eqD z x
 |[]=>by rfl
 |y::r=>by rw[dq,List.any_cons,List.any_cons,zC x r];rfl
def CH{A:Around}{d:PyData}(b:d.depth<64)(a:A.units+64<cLine):A.units+1+min (PyData.depthAll xs) d.depth<cLine:=by lia
def JA(i:X.A.units+64<cLine):Tz X (compareOp .NotIn) MN:=by
 intro a s j H W x y v u l m Q I _ n o r p q;obtain⟨b,f,k,e,q⟩:=q;obtain⟨z,h⟩:=eF I x v l r n b.1.1;obtain⟨w,g⟩:=eF I y u m p o f.1;have c:DP X a j W H Q (.bool (!(dq k).any λy=>PyData.eqv y (UK x))) s:=by rw[zC];exact⟨.bl _,H,_,I,rfl,av.refl H,Den.bl _,q⟩
 rcases e with e|⟨t,e⟩;subst e;have d:=f.2;exact SeqAt.notIn_tuple_reads g h (SeqAt.canLay_of_shaped d) (SeqAt.canLay_of_shaped b.1.2) (CH b.2 i) c;subst e;have d:=f.2;exact SeqAt.notIn_list_reads g h (SeqAt.canLay_of_shaped d) (SeqAt.canLay_of_shaped b.1.2) (CH b.2 i) c
end
def kwG{a:Type}(b ws:List a):List a:=match ws with
 |[w]=>b++[w]
 |_=>[]
def L7(r:Vals vs us)(a:Vals zs ws):Vals (kwG vs zs) (kwG us ws):=by
 cases a with
 |nil=>exact .nil
 |cons a b =>
  cases b with
  |nil=>exact r.append (.cons a .nil)
  |cons c d=>exact .nil
def pL(P:Program)(w:World)(K:yac)(b:yam)(base:Heap)(x:Str)(k:Nat)(ps:yah)(c:Str)(sp:DSp):Prop :=
 ∃ f a,aG P w K b base (CX1 P w) k f a ps (aH K sp)/\b x=some (.ref f)/\PySem.W.keepIn K (.ref f)=true/\Binds K a ps []/\Binds K a ps [.none]/\Fq K a ps [c] kwG kwG
def PKD(X:Cx)(e:List Keyword)(t:DA):Prop :=
 ∀ (c:Pos) (a:yab) (s:Shared) (b:St) (H:Hp) (W:Own) (d:Ro) (Q:yar->Prop),Inv X a b H s->Rel X W H b d->t d Q →
  wpAny (model X.prog X.w) X.A (evalAll ((backToKw c (keywordEach e X.env)).map (·.2))) (DAP X a b W H Q) X.xe s
section
variable{X:Cx}{k:Nat}{ps:yah}{kn:Str}{sp:DSp}{x:Str}{p pos kpos:Pos}{e:Expr}{es:yai}{t tk:DA}{te:DE}{nm:Option Str}{SE:List Keyword}
def i6 (h:pL X.prog X.w X.K X.mg X.base x k ps kn sp) (a:bS k X.A) (i:Wt X (e::es) t) (d:Gl X x:=by rfl) (j:(x==("__debug__" : Str))=false:=by decide)
  (g:starEach (e::es) X.env=(false,eval e X.env)::starEach es X.env:=by rfl) (l:(backTo pos (starEach es X.env)).any (·.1)=false:=by rfl):RU X (.Call (.Name x p) (e::es) [] pos) (uH sp [.RZ] t):=by
 obtain⟨f,m,F,b,c,_,f,_⟩:=h;exact z9 (dds:=[.RZ]) (dsv:=[.none]) F a d b c f (.cons rfl .nil) (by intro d a;simp at a;subst a;exact True.intro) KL i j g l
def Ol(a:D)(R:D->Prop):(∃d,[a]=[d]/\R d)=R a:=by lia
def NN(sp:DSp)(t:DA):DA:=λa Q=>t a λa=>sp (bf a) (λd=>∃a,d=.lst true a/\fe a=true/\Q a) λ_=>False
end
def qh:Key->D
 |.inl i=>.int i
 |.inr x=>.str x
section
variable{κ:Type} [DecidableEq κ] {K:yac}{P:yak}{H:Hp}
noncomputable def fY(kvs:List (κ×D))(k:κ):Option D:=(kvs.find? λa=>decide (a.1=k)).map (·.2)
def putD(kvs:List (κ×D))(k:κ)(d:D):List (κ×D):=if(fY kvs k).isSome=true then kvs.map (λa=>if a.1=k then(a.1,d)else a)else kvs++[(k,d)]
def El(p:κ×D)(r:List (κ×D))(k:κ):fY (p::r) k=if p.1=k then some p.2 else fY r k:=by unfold fY;grind
theorem tM:∀{kvs:List (κ×D)} {a:List (κ×V)} {k:κ},a.map (·.1)=kvs.map (·.1)->ah K P H (kvs.map (·.2)) (a.map (·.2))->match fY kvs k with|some d=>∃v,dF a k=some v/\Den K P H d v|none=>dF a k=none
 |[],a,k,e,_=>by
  have:a=[]:=by simp_all
  subst this;exact Kf
 |p::r,[],k,e,_=>by simp at e
 |p::r,q::s,k,e,h=>by
  simp at e;simp at h;obtain⟨v,u,a,f,b⟩:=h;simp at a;obtain⟨a,c⟩:=a;subst c;rw[El];by_cases z:p.1=k
  simp_all [Rv,oZ]
  rw[if_neg z,oY (by simp_all)];exact tM e.2 b
def wQ{kvs:List (κ×D)}{a:List (κ×V)}{d:D}(e:a.map (·.1)=kvs.map (·.1))(h:ah K P H (kvs.map (·.2)) (a.map (·.2)))(l:fY kvs k=some d):∃v,dF a k=some v/\Den K P H d v:=by have:=tM (k:=k) e h;rw[l]at this;exact this
def Jw{kvs:List (κ×D)}{a:List (κ×V)}(e:a.map (·.1)=kvs.map (·.1))(h:ah K P H (kvs.map (·.2)) (a.map (·.2)))(l:fY kvs k=none):dF a k=none:=by have:=tM (k:=k) e h;rw[l]at this;exact this
def J6{kvs:List (κ×D)}{a:List (κ×V)}(e:a.map (·.1)=kvs.map (·.1))(h:ah K P H (kvs.map (·.2)) (a.map (·.2))):(dF a k).isSome=(fY kvs k).isSome:=by
 cases l:fY kvs k with
 |none=>rw[Jw e h l];rfl
 |some d =>
  obtain⟨v,q,_⟩:=wQ e h l;rw[q];rfl
theorem A5:∀{kvs:List (κ×D)} {b:List (κ×V)} {k:κ} {d:D} {v:V},b.map (·.1)=kvs.map (·.1)->ah K P H (kvs.map (·.2)) (b.map (·.2))->Den K P H d v →
  (b.map λa=>if a.1=k then(a.1,v)else a).map (·.1)=(kvs.map λa=>if a.1=k then(a.1,d)else a).map (·.1)/\ah K P H ((kvs.map λa=>if a.1=k then(a.1,d)else a).map (·.2)) ((b.map λa=>if a.1=k then(a.1,v)else a).map (·.2))
 |[],b,k,d,v,e,_,_=>by simp_all
 |p::r,[],k,d,v,e,_,_=>by simp at e
 |p::r,q::s,k,d,v,e,h,c=>by
  simp at e;simp at h;obtain⟨i,u,a,m,f⟩:=h;simp at a;obtain⟨a,g⟩:=a;subst g;obtain⟨l,j⟩:=A5 (k:=k) e.2 f c;by_cases z:p.1=k
  all_goals simp_all [Rv,ah.cons,if_neg]
def MJ{kvs:List (κ×D)}{a:List (κ×V)}(e:a.map (·.1)=kvs.map (·.1))(h:ah K P H (kvs.map (·.2)) (a.map (·.2)))(b:Den K P H d v) :
  (putK a k v).map (·.1)=(putD kvs k d).map (·.1)/\ah K P H ((putD kvs k d).map (·.2)) ((putK a k v).map (·.2)):=by
 unfold putK putD;rw[kW,J6 e h];by_cases z:(fY kvs k).isSome=true;rw[Rv z,Rv z];exact A5 e h b;rw[if_neg z,if_neg z,Vy,Vy,Vy,Vy,e];exact⟨rfl,h.append (ah.one b)⟩
end
def wJ{K:yac}{P:yak}{H:Hp}{k:Key}{v:V}(h:Den K P H (qh k) v):v=kV k:=by
 cases k with
 |inl i=>exact h.SK
 |inr x=>exact h.str_
theorem xX{K:yac}{P:yak}{H:Hp}:∀{b:List Key} {a:yaq},ah K P H (b.map qh) a->a=b.map kV
 |[],_,h=>by simpa only[List.map_nil,ah]using h
 |k::r,_,h=>by obtain⟨v,u,e,b,a⟩:=h;rw[e,wJ b,xX a];rfl
theorem AS:∀(b:List Key) (ps:List (V×V)),ps.map (·.1)=b.map kV->ps=(b.zip (ps.map (·.2))).map λa=>(kV a.1,a.2)
 |[],ps,e=>by simp_all
 |k::r,[],e=>by simp at e
 |k::r,p::q,e=>by simp at e;rw[VS,List.zip_cons_cons,VS,<- AS r q e.2,<- e.1]
def GI{a:List (Key×V)}:∀{kvs:List (Key×V)},(kvs.map (·.1)++a.map (·.1)).Nodup->u9 kvs a=kvs++a:=by
 induction a with
 |nil=>intro kvs _;show kvs=kvs++[];simp_all
 |cons p r ih =>
  intro kvs h;show u9 (putK kvs p.1 p.2) r=_;have d:dF kvs p.1=none:=by
   cases q:dF kvs p.1 with
   |none=>rfl
   |some x =>
    have c:(kvs.any λa=>decide (a.1=p.1))=true:=by rw[kW,q];rfl
    obtain⟨a,b,e⟩:=List.any_eq_true.mp c;have:=(List.nodup_append.mp h).2.2 a.1 (List.mem_map_of_mem b) p.1 (by simp)
    lia
  simp_all [JS,Vy]
def PPD(X:Cx)(pos:Pos)(c:List (Option Expr))(a:yai)(t:Ro->(List (D×D)->Prop)->Prop):Prop :=
 ∀ (b:yab) (s:Shared) (d:St) (H:Hp) (W:Own) (e:Ro) (Q:List (D×D)->Prop),Inv X b d H s->Rel X W H d e->t e Q →
  wpAny (model X.prog X.w) X.A (evalPairs (pairTrees c a X.env pos)) (λf g=>∃c a e,Inv X b d a g/\VV c f/\av H a/\ah X.K W.bad a (e.map (·.1)) (c.map (·.1))/\ah X.K W.bad a (e.map (·.2)) (c.map (·.2))/\Q e) X.xe s
section
variable{X:Cx}{pos:Pos}
def Ky:Ro->(List (D×D)->Prop)->Prop:=λ_ Q=>Q []
def F1(c b:DE)(t:Ro->(List (D×D)->Prop)->Prop):Ro->(List (D×D)->Prop)->Prop:=λa Q=>c a λk=>b a λv=>t a λr=>Q ((k,v)::r)
def N8:PPD X pos [] [] Ky:=λa s b H W c Q I r h=>pairTrees_nil_walk ⟨[],H,[],I,.nil,av.refl H,ah.nil,ah.nil,h⟩
def wL(d:RU X k tk)(hv:RU X v tv)(l:PPD X pos ks vs t):PPD X pos (some k::ks) (v::vs) (F1 tk tv t):=by
 intro a s b H W c Q I r h;refine pairTrees_cons_walk (Rw (d a s b H W c _ I r h) λu d ⟨x,i,n,g,h,e,k,f⟩=>Rw (hv a d b i W c _ g (r.same e) f) λz f ⟨y,p,m,o,g,d,j,i⟩=>
  Rw (l a f b p W c _ o ((r.same e).same d) i) λw A ⟨f,q,o,p,a,b,l,i,c⟩=>?_)
 exact⟨(x,y)::f,q,(n,m)::o,p,.cons ⟨h,g⟩ a,e.trans (d.trans b),ah.cons (k.same (d.trans b)) l,ah.cons (j.same b) i,c⟩
def ah.apartD{K:yac}{H:Hp}{o:HO}(n:H a=some o)(m:(∀xs,o ≠ .lst xs)/\(∀xs,o ≠ .tup xs)/\(∀b u,o ≠ .frz b u)/\¬Zq o)(k:K.lookup a=none)(h:ah K P H ds us):ah K (λt b=>P t b∨b=a) (L2.upd H a o') ds us:=by
 have d:∀b c,SJ K H b c->SJ K (L2.upd H a o') b c:=λb c q=>by show L2.upd _ _ _ _=_;rw[aC (nU q n λz=>m.2.1 _ z.symm)];exact q
 refine ah.map d (λt b c p q=>?_) (λb u v q=>by rw[aC (by lia)];exact q) ds us h;have c:b≠a:=λz=>by
  rcases q.1 with(q|⟨u,q⟩)|⟨u,Rt,j,q,_⟩
  all_goals grind
 refine⟨by lia,?_,λz=>⟨by rw[aC c];exact(q.2 z).1,(q.2 z).2⟩⟩;rcases q.1 with(q|⟨u,q⟩)|q;exact .inl (.inl (by simp_all [aC]));exact .inl (.inr ⟨u,by simp_all [aC]⟩);exact .inr q
def FR(i:Nat)(t:Ro->(List (D×D)->Prop)->Prop):DS:=λE b=>t b λc=>∃a:List (Key×D),c=a.map (λc=>(qh c.1,c.2))/\a.length<=15/\(a.map (·.1)).Nodup/\E.nx (b.set i (some (.ob (.dk a))))
def IP{x:Str}{d c:Pos}{b:List (Option Expr)}{a:yai}{t:Ro->(List (D×D)->Prop)->Prop}(i:Nat)(C:X.N.Nodup)(h:PPD X c b a t)(k:X.N[i]?=some x:=by rfl)(j:b.all (·.isSome)=true:=by rfl)(f:b.length=a.length:=by rfl)(h0:b ≠ []:=by simp)
  (e:b.length<=15:=by decide) (A:Loc X.env.scope x:=by first|exact Or.inl rfl|exact Or.inr rfl) (hs:swapsWith (.Dict b a c) (some (.Name x d)) pos.line X.env=pure false:=by rfl)
  (B:X.fn x=true∨X.env.scope.names.lookup x=some .local:=by first|exact .inl rfl|exact .inr rfl|assumption):UQ X (.Assign [.Name x d] (.Dict b a c) pos) (FR i t):=by
 intro b s c H W d E I r i;have g:=I.R7.fresh (SF s.heap.objs.size);have m:=Inv.Um I;have l:=I.laid (a:=s.heap.objs.size) (o:=.dK []) (h':=s.heap.push {cls:=.type "dict", data:=.dict #[]}) (t':=s.toks) (λ_ _ q=>T5 _ q) (SF _) (IM s.heap I.big);refine wpAny_Assign_Name (wpAny_Dict_walk (knd:=cq X.prog X.w) j f h0 e (Rw (h b _ c _ W d _ l (r.same (av.upd g)) i) λp t e=>?_)) hs;obtain⟨c,n,J,j,d,sm,f,h,kvs,b,lk,y,q⟩:=e;subst b;have e:=sm _ _ (aP (H:=H) (a:=s.heap.objs.size) (o:=.dK []));have b:c.map (·.1)=(kvs.map (·.1)).map kV:=xX (by
  have:(kvs.map λa=>(qh a.1,a.2)).map (·.1)=(kvs.map (·.1)).map qh:=by simp[UC,Function.comp_def]
  rw[this]at f;exact f)
 have f:ah X.K W.bad n (kvs.map (·.2)) (c.map (·.2)):=by
  have:(kvs.map λa=>(qh a.1,a.2)).map (·.2)=kvs.map (·.2):=by simp[UC,Function.comp_def]
  rw[this]at h;exact h
 have a:(kvs.map (·.1)).length=(c.map (·.2)).length:=by have:=f.len;simp[this]
 have l:=AS _ c b;generalize hkw:(kvs.map (·.1)).zip (c.map (·.2))=b at l;have h:b.map (·.1)=kvs.map (·.1):=by rw[<- hkw,List.map_fst_zip (XD a)]
 have E:b.map (·.2)=c.map (·.2):=by rw[<- hkw,List.map_snd_zip (XD a.symm)]
 rw[l]at d;obtain⟨a,c,rk⟩:=uF (P:=X.prog) (w:=X.w) d;obtain⟨z,o,u,d,l⟩:=Kx j.R7 e;cases d;refine⟨a,c,l,λh' a w=>?_⟩;have c:b.length=kvs.length:=by have:=congrArg List.length h;simpa using this
 have l:u9 [] b=b:=by rw[GI (by rw[h];simpa using y)];rfl
 have d:b.length<=sizeLine:=by rw[c,To];lia
 have c:∃q,h'.get? s.heap.objs.size=some q:=let ⟨q,_,_,i,_⟩:=a;⟨q,i⟩;have i:=wG (t':=t.toks+p.length) j (by rw[e];exact True.intro) w c (F0 (kvs:=b) d o (by rw[<- l];exact rk.merge .nil) a);have a:=r.putG (x:=.dk kvs) (Inv.XZ j k) (H':=L2.upd n s.heap.objs.size (.dK b)) (((av.upd g).trans sm).ins g e True.intro True.intro) g m aP
  (.dk h (by rw[E];exact ah.apartD e ⟨(λ_ z=>by cases z),(λ_ z=>by cases z),(λ_ _ z=>by cases z),λz=>z⟩ m f))
 exact dP (v:=.ref s.heap.objs.size) i C k A rfl (λG b=>⟨_,_,_,b,a.2,_,a.1,q⟩) B
def Rel.ownK(r:Rel X W H σ ρ){i:Nat}(h:ρ[i]?=some (some (.ob (.dk kvs)))):∃a b,W.O i=some a/\σ[i]?=some (some (.ref a))/\H a=some (.dK b)/\b.map (·.1)=kvs.map (·.1)/\ah X.K W.bad H (kvs.map (·.2)) (b.map (·.2)):=by
 obtain⟨a,o,f,d,c,b⟩:=r.own i _ h;cases b with
 |dk e b=>exact⟨a,_,f,d,c,e,b⟩
def NO(i:Nat)(c:DE):DE:=λb Q=>∃a,b[i]?=some (some (.ob (.dk a)))/\c b λk=>∃b d,k=qh b/\fY a b=some d/\Q d
def Ab {x:Str} (i:Nat) (a:X.A.units+1<cLine) (d:RU X b tb) (e:X.N[i]?=some x:=by rfl) (hv:Yh X.env.scope x:=by first|exact Or.inl rfl|exact Or.inr (Or.inl rfl)|exact Or.inr (Or.inr rfl)) (c:(x==("__debug__" : Str))=false:=by decide)
  (f:(x==("__classdict__" : Str))=false:=by decide) (hs:Ij b:=by intro _ _;rfl):RU X (.Subscript (.Name x px) b pos) (NO i tb):=by
 refine RU.of (MD a (fT e hv c f) d.pe hs) λn H W b Q r h=>?_
 obtain⟨j,f,h⟩:=h;obtain⟨a,SE,o,d,i,e,m⟩:=r.ownK f;refine⟨.ref a,d,W,b,_,r,h,λv H1 d d c q=>?_⟩;obtain⟨k,h,rfl,l,q⟩:=q;obtain⟨f,g,b⟩:=wQ e m l;have:=wJ c;subst this;refine⟨a,f,rfl,?_,d,h,b.same d,q⟩;rw[<- g];exact pJ.k (d _ _ i)
def Kq(i:Nat)(b te:DE):DS:=λE c=>∃a,c[i]?=some (some (.ob (.dk a)))/\b c λk=>∃b n,k=qh b/\fY a b=some (.int n)/\te c λd=>∃m,d=.int m/\a.length<sizeLine/\E.nx (c.set i (some (.ob (.dk (putD a b (.int (n+m)))))))
def Lx {x:Str} (i:Nat) (h:X.A.units+1<cLine) (k:RU X b tb) (j:RU X e te) (l:X.N[i]?=some x:=by rfl) (hv:Yh X.env.scope x:=by first|exact Or.inl rfl|exact Or.inr (Or.inl rfl)|exact Or.inr (Or.inr rfl)) (g:(x==("__debug__" : Str))=false:=by decide)
  (m:(x==("__classdict__" : Str))=false:=by decide) (f:∀c d a,augStore b c d a=(do holding [a,c,d] (setItem c d a);release [a,c,d] [];pure .next):=by intros;rfl):UQ X (.AugAssign (.Subscript (.Name x px) b tpos) .Add e pos) (Kq i tb te):=by
 refine UQ.of (MH h (fT l hv g m) k.pe j.pe OF f) λy H W j E r C h=>?_
 obtain⟨u,p,h⟩:=h;obtain⟨a,w,t,o,f,i,s⟩:=r.ownK p;refine⟨.ref a,o,W,j,_,r,h,λv H1 d b g q=>?_⟩;obtain⟨e,n,rfl,l,q⟩:=q;obtain⟨A,k,c⟩:=wQ i s l;have h:=wJ g;have d:=c.SK;subst h d;refine⟨a,_,rfl,by rw[<- k];exact pJ.k (b _ _ f),W,j,_,r.same b,q,λz H2 G c a d=>?_⟩;obtain⟨m,rfl,B,d⟩:=d;have g:=a.SK;subst g;have h:w.length<sizeLine:=by have:=congrArg List.length i;simp at this;lia
 have a:=c _ _ (b _ _ f);obtain⟨g,f⟩:=MJ (k:=e) i (s.same (b.trans c)) (Den.int (n+m));obtain⟨e,i⟩:=((r.same b).same c).mutG p t o a True.intro (.dk g f);exact⟨n,m,rfl,rfl,_,zh.k a h,W,_,(Sm.same (b.trans c)).trans i,e,d⟩
end
def Om(kvs:List (Key×D))(r:Ro)(R:List (Key×D)->Prop):(∃ys,(some (Sl.ob (.dk kvs))::r)[0]?=some (some (Sl.ob (.dk ys)))/\R ys)=R kvs:=by grind
theorem Oo(n:Nat)(x:Option Sl)(r:Ro)(R:List (Key×D)->Prop):(∃ys,(x::r)[n+1]?=some (some (Sl.ob (.dk ys)))/\R ys)=(∃ys,r[n]?=some (some (Sl.ob (.dk ys)))/\R ys):=rfl
def MY(t:Bool)(xs:yar)(R:yar->Prop):(∃k a,fL (.lst t xs)=some (k,a)/\R a)=R xs:=by apply propext;constructor;rintro⟨_,_,e,q⟩;cases e;exact q;intro q;exact⟨_,_,rfl,q⟩
def Dr{k1 k2:Bool}{xs ys:yar}(h:fL a=some (k1,xs))(g:fL b=some (k2,ys))(R:yar->Prop):(∃f e k1 k2 d c,[a,b]=[f,e]/\fL f=some (k1,d)/\fL e=some (k2,c)/\R (List.zipWith (λx y=>D.tup [x,y]) d c))=R (List.zipWith (λx y=>D.tup [x,y]) xs ys):=by grind
def PQ(t u:Bool)(xs ys:yar)(R:yar->Prop):(∃d c k1 k2 b a,[D.lst t xs,D.lst u ys]=[d,c]/\fL d=some (k1,b)/\fL c=some (k2,a)/\R (List.zipWith (λx y=>D.tup [x,y]) b a))=R (List.zipWith (λx y=>D.tup [x,y]) xs ys):=Dr rfl rfl R
def PR(u:Bool)(xs ys:yar)(R:yar->Prop):(∃d c k1 k2 b a,[D.lst u xs,D.tup ys]=[d,c]/\fL d=some (k1,b)/\fL c=some (k2,a)/\R (List.zipWith (λx y=>D.tup [x,y]) b a))=R (List.zipWith (λx y=>D.tup [x,y]) xs ys):=Dr rfl rfl R
theorem Ip(b:Int):jt (.int b)=true:=rfl
def Nu{a:yar}{k:Int}{Q:D->Prop}(h0:0<=k)(c:k<a.length)(h:∀d∈a,Q d):∃d,T9 a k=some d/\Q d:=by
 have b:k.toNat<a.length:=by lia
 refine⟨a[k.toNat],?_,h _ (YT b)⟩;grind [bU]
def comp_map{a:Type}{wi:DA}{js:yag}{tc:DT}{te:DE}{Q:D->Prop}(xs:List a)(f:a->D)(c:a->Bool)(g:a->D)(b:∀R:yar->Prop,R (xs.map f)->wi ρ R)(hz:xs.length<=sizeLine)
  (k:∀x∈xs,∀K:Bool->Prop,K (c x)->tc (some (.val (f x))::js.map (bI ρ)) K) (i:∀x∈xs,c x=true->∀K:D->Prop,K (g x)->te (some (.val (f x))::js.map (bI ρ)) K) (q:Q (.lst true ((xs.filter c).map g))):uI wi js tc te ρ Q:=by
 refine b _ ⟨by simp_all,λj a=>a=((xs.take j).filter c).map g,by simp,λj d a b c=>?_,λa c=>?_⟩;rw[U0]at b;cases ex:xs[j]? with
 |none=>simp_all
 |some x =>
  rw[ex]at b;have h:x∈xs:=UZ ex;have e:xs.take (j+1)=xs.take j++[x]:=by simp_all [zDa]
  grind
 grind
def rA{b:Type}{wi:DA}{g:DG}{d:DS}{E:jJ}(xs:List b)(f:b->D)(Pv:List b->Ro->Prop)(i:∀R:yar->Prop,R (xs.map f)->wi ρ R)(k:Pv [] ρ)
  (h:∀(done:List b) (x:b) (a:Ro),x∈xs->done.length<xs.length->Pv done a->g (f x) a λc=>d {E with nx:=Pv (done++[x]),ct:=Pv (done++[x]),bk:=E.nx} c) (e:∀a,Pv xs a->E.nx a):pW wi g d E ρ:=by
 refine i _ ⟨λj=>Pv (xs.take j),by simp_all,λj d a l b=>?_,λa b=>e a (by grind)⟩;grind [List.getElem?_map,List.take_succ,List.mem_of_getElem?,List.length_take]
structure Uy(n:Nat)(d:D):Prop where
 pl:XX d=true
 lay:(UK d).canLay0=true
 dp:(UK d).depth<=n
structure kz(n:Nat)(ds:yar):Prop where
 pl:qk ds=true
 lay:PyData.canLayAll0 (dq ds)=true
 dp:PyData.depthAll (dq ds)<=n
def Uy.ok(h:Uy n d)(a:n<=64:=by decide):okD d:=⟨h.pl,by unfold SeqAt.shaped;rw[h.lay,U5 (Sd h.dp a)];rfl⟩
theorem Uy.okI(h:Uy n d)(a:n<64:=by decide):okI d:=⟨h.ok (UD a),Xh h.dp a⟩
theorem Uy.int(n:Nat)(i:Int):Uy n (.int i):=⟨by rw[XX]<;>(intros;contradiction),by rw[UK,PyData.canLay0],by rw[UK,PyData.depth];lia⟩
theorem Uy.RZ(n:Nat):Uy n .RZ:=⟨by rw[XX]<;>(intros;contradiction),by rw[UK,PyData.canLay0],by rw[UK,PyData.depth];lia⟩
def kz.nil(n:Nat):kz n []:=⟨by rw[qk],by rw[dq,PyData.canLayAll0],by rw[dq,PyData.depthAll];lia⟩
def kz.cons(h:Uy n d)(h':kz n ds):kz n (d::ds):=⟨by rw[qk,h.pl,h'.pl];rfl,by rw[dq,PyData.canLayAll0,h.lay,h'.lay];rfl,by exact Nat.max_le.mpr ⟨h.dp,h'.dp⟩⟩
theorem kz.of:∀{a:yar},(∀d∈a,Uy n d)->kz n a
 |[],_=>.nil n
 |d::r,h=>.cons (h d zB9) (kz.of λx b=>h x (by grind))
theorem Uy.tup(h:kz n ds):Uy (n+1) (.tup ds):=⟨by exact h.pl,by exact h.lay,by exact zCd h.dp⟩
theorem Uy.lst(h:kz n ds):Uy (n+1) (.lst t ds):=⟨by exact h.pl,by exact h.lay,by exact zCd h.dp⟩
theorem Uy.map{a:Type}{f:a->D}{xs:List a}(h:∀x,Uy n (f x)):Uy (n+1) (.lst t (xs.map f)):=Uy.lst (kz.of λd b=>by grind)
def lO(xs ys:yar):Bool:=PyData.eqvAll (dq xs) (dq ys)
def LB(t u:Bool)(xs ys:yar):eqD (.lst t xs) (.lst u ys)=lO xs ys:=by unfold eqD lO;rw[UK,UK,PyData.eqv]
theorem wO(xs ys:yar):eqD (.tup xs) (.tup ys)=lO xs ys:=by unfold eqD lO;rw[UK,UK,PyData.eqv]
theorem tG:lO [] []=true:=by unfold lO;rw[dq,PyData.eqvAll]
theorem i8(x y:D)(xs ys:yar):lO (x::xs) (y::ys)=(eqD x y && lO xs ys):=by unfold lO eqD;rw[dq,dq,PyData.eqvAll]
def LD(x y:Str):eqD (.str x) (.str y)=(x==y):=by unfold eqD;rw[UK,UK,PyData.eqv]
def LC:eqD .RZ .RZ=true:=by unfold eqD;rw[UK,PyData.eqv]
mutual
theorem eN:∀d:D,eqD d d=true
 |.RZ=>LC
 |.bl b=>by rw[F8];simp
 |.int i=>by rw[j8];simp
 |.str x=>by rw[LD];simp
 |.exc _=>by unfold eqD;rw[UK,PyData.eqv]
 |.obj _ _ _=>by unfold eqD;rw[UK,PyData.eqv]
 |.Ws=>by unfold eqD;rw[UK,PyData.eqv]
 |.V1 _ _=>by unfold eqD;rw[UK,PyData.eqv]
 |.tup a=>by rw[wO];exact p5 a
 |.lst t a=>by rw[LB];exact p5 a
theorem p5:∀a:yar,lO a a=true
 |[]=>tG
 |d::r=>by rw[i8,eN d,p5 r];rfl
end
section
variable{X:Cx}{a b c:Expr}{ta tb tc:DE}{pos:Pos}
def FQ(r e:RD2)(ta tb tc:DE):DE:=λd Q=>ta d λx=>tb d λy=>r x y λz=>∃k,z=.bl k/\if k=true then tc d λu=>e y u Q else Q (.bl false)
def IK (d:∃t,X.mg x=some (.int i t)) (e:Gl X x:=by rfl) (f:(x==("__debug__" : Str))=false:=by decide):RU X (.Name x pos) (dC (.int i)):=by obtain⟨t,d⟩:=d;exact RU.of (rJ (v:=.int i) e d ⟨t,rfl⟩ f) λ_ H _ _ _ _ q=>⟨av.refl H,_,Den.int i,q⟩
variable{e:Expr}{te:DE}{lo hi:Option Expr}{tl th:DO}{p2:Pos}
def Ac(n:RU X e te)(m:PDO X lo tl)(hh:PDO X hi th):RU X (.Subscript e (.Slice lo hi none p2) pos) (NX te tl th):=by
 intro i s j H W g Q I r h;refine ud (st:=none) (ts:=da) (R:=λd l u k=>k=none/\∃f,d=.tup f/\¬(HT.SG f.length 0 l=0/\HT.SG f.length f.length u=f.length)/\Q (.tup (PD.cutD f l u))) n m hh cC I r ?_ ?_ (λ_ _=>⟨_,rfl⟩);have m:(λd=>tl g λl=>th g λu=>da g λk=>k=none/\∃f,d=D.tup f/\¬(HT.SG f.length 0 l=0/\HT.SG f.length f.length u=f.length)/\Q (.tup (PD.cutD f l u)))=λd=>tl g λl=>th g λu=>∃f,d=D.tup f/\¬(HT.SG f.length 0 l=0/\HT.SG f.length f.length u=f.length)/\Q (.tup (PD.cutD f l u)):=by
  funext d
  congr 1
  funext l
  congr 1
  funext u
  exact propext ⟨λz=>z.2,λz=>⟨rfl,z⟩⟩
 rw[m];exact h;intro v m o n G l u k d d g r E sm s A y w t h k;obtain⟨p,f,f,x,q⟩:=k;subst p f;cases h;obtain⟨p,k,f,z,h⟩:=A.UW;subst f;obtain⟨T,id,C,B,A⟩:=Pw i r j g (.ref p) m o n l u d (λi d=>av g d/\∃f,Den X.K W.bad d f i/\Q f) E s y w t ⟨p,k,rfl,z.w,by rw[h.len];exact x,λd g=>⟨av.upd g,_,Den.tup (SJ.of aP) ((h.cut l u).same (av.upd g)),q⟩⟩;exact⟨T,id,C,B,Rw A λ_ J k=>(by obtain⟨g,m,l,h,i,f,j,d⟩:=k;exact⟨g,m,f,l,h,sm.trans i,j,d⟩)⟩
def wC{d:Type}:Nat->(List d->Prop)->Prop
 |0,P=>P []
 |n+1,P=>∀a,wC n λl=>P (a::l)
def qY{f:Type}{n:Nat}:∀{P:List f->Prop} (d:List f),d.length=n->wC n P->P d:=by
 induction n with
 |zero=>intro P d e h;cases zDD e;exact h
 |succ n ih =>
  intro P d e h;cases d with
  |nil=>cases e
  |cons a l=>exact ih (P:=λl=>P (a::l)) l (Nat.succ.inj e) (h a)
def uE{K:yac}{ps:yah}(h:∀s:Shared,K.In s.heap->wC ps.length λd=>BindsTo s fd ⟨d,[]⟩ (ps.zip d)):Binds K fd ps []:=λs d g f=>by rw[YV]at f ⊢;exact qY d f (h s g)
def uD{K:yac}{ps:yah}(n:Nat)(g:ps.length=n+1)(h:∀s:Shared,K.In s.heap->wC n λd=>BindsTo s fd ⟨d,[]⟩ (ps.zip (d++[.none]))):Binds K fd ps [.none]:=λs d i f=>qY d (by rw[Vh,g]at f;simpa using f) (h s i)
def uX{K:yac}{ps:yah}{f:Str}(n:Nat)(i:ps.length=n+1)(h:∀(s:Shared) (w:Value),K.In s.heap->wC n λd=>BindsTo s fd ⟨d,[(f,w)]⟩ (ps.zip (d++[w]))):Fq K fd ps [f] kwG kwG:=⟨λs d f j g=>by
 cases f with
 |nil =>
  have f:0=ps.length:=g
  lia
 |cons w r =>
  cases r with
  |nil =>
   have f:(d++[w]).length=ps.length:=g;rw[Vh,i]at f;exact qY d (by simpa using f) (h s w j)
  |cons _ _ =>
   have f:0=ps.length:=g
   lia,L7⟩
end
section
variable{X:Cx}{pos:Pos}
def PFL(X:Cx)(i:Nat)(es:yai)(t:Ro->(List (yar)->Prop)->Prop):Prop :=
 ∀ (pos:Pos) (b:yab) (s:Shared) (a:St) (H:Hp) (W:Own) (f:Ro) (k:Nat) (Q:List (yar)->Prop),Inv X b a H s->Rel X W H a f->i<a.length->f[i]?=some none->t f Q →
  wpAny (model X.prog X.w) X.A (spliced (backTo pos (starEach es X.env))) (λh j=>∃g e d c,Inv X b a e j/\Vals g h/\av H e/\Rel X d e a f/\Sm W H d e/\bg X.K d.bad e (d.sub a.length i) k (c.map LI.own) g/\(∀l,l<k->d.sub a.length i l=W.sub a.length i l)/\Q c) X.xe s
variable{e:Expr}{te:DE}{tt:DT}{ta:DA}
end
section
variable{X:Cx}{pins:yab}{σ:St}{H:Hp}
structure Rh(X:Cx)(pins:yab)(H:Hp)(s:Shared)(l f S I:Addr)(fo:Obj)(j:Nat)(vb:Value)(k:Int):Prop where
 fo:s.heap.get? f=some fo
 ff:fE X pins H f
 so:∃tb n,s.heap.get? S=some (seqObj "list" #[vb,.int k tb] n)
 sf:fE X pins H S
 io:s.heap.IsListIter I l j
 jf:fE X pins H I
 fS:f≠S
 fI:f≠I
 SI:S≠I
 lI:l≠I
end
section
variable{X:Cx}{pos:Pos}
def Cu(i:Nat)(te:DE):DS:=λE a=>∃c,a[i]?=some (some (.own c))/\te a λd=>∃b,d=.lst true b/\c.length+b.length<=sizeLine/\E.nx (a.set i (some (.own (c++b))))
def F2{x:Str}{a:Pos}(i:Nat)(d:RU X e te)(c:X.N[i]?=some x:=by rfl)(hv:Yh X.env.scope x:=by first|exact Or.inl rfl|exact Or.inr (Or.inl rfl)|exact Or.inr (Or.inr rfl))
  (f:(x==("__debug__" : Str))=false:=by decide) (l:(x==("__classdict__" : Str))=false:=by decide)
  (k:attributeBase (.Name x px) "extend" X.env (eval (.Name x px) X.env)=eval (.Name x px) X.env:=by rfl)
  (g:((backTo R6 (starEach [e] X.env)).all (λx=>!x.1) && (backToKw R6 (keywordEach [] X.env)).all (λx=>x.1.isSome) && decide ([e].length+([]:List Keyword).length+(if([]:List Keyword).isEmpty then 0 else 1)<30))=true:=by rfl)
  (j:(a.endLine==R6.line)=true:=by rfl) (b:starEach [e] X.env=(false,eval e X.env)::starEach [] X.env:=by rfl) (h:(backTo R6 (starEach [] X.env)).any (·.1)=false:=by rfl)
  (hs:swapsWith (.Call (.Attribute (.Name x px) "extend" a) [e] [] R6) none pos.line X.env=pure false:=by rfl) :
  UQ X (.Expr (.Call (.Attribute (.Name x px) "extend" a) [e] [] R6) pos) (Cu i te):=by
 have a:=rK (pos:=pos) (KN PySem.F.plainAttrs_list PySem.F.slot_list_extend PySem.F.type_list_extend GK (fT c hv f l) (gH d.pe mS b) k g j b h) hs;refine UQ.of a λp H W b E r s h=>?_
 obtain⟨c,k,h⟩:=h;obtain⟨a,f,l,g,j,o⟩:=r.Xq i c k;refine⟨.ref a,g,.inl ⟨rfl,_,SqL.of j⟩,W,b,_,r,h,λv h d e n q=>?_⟩;obtain⟨i,rfl,z,q⟩:=q;obtain⟨b,c,rfl,_,m,d⟩:∃b c,v=.ref b/\¬W.bad true b/\UH X.K h true b c/\ah X.K W.bad h i c:=by simpa only[Den]using n
 have h:=e _ _ j;have j:=r.same e;have i:=o.same e;refine⟨a,b,f,c,rfl,rfl,h,(m.2 rfl).1,by rw[i.len,d.len];exact z,?_⟩;obtain⟨a,b⟩:=j.YA (vs':=f++c) k l g h (i.append d);exact⟨W,_,(Sm.same e).trans b,a,q⟩
inductive KDP (X:Cx) (pins:yab) (σ:St) (W:Own) (H:Hp) (Q:D->Prop) (u:Value) (s':Shared):Prop
 |mk (b:Addr) (vs:yaq) (H':Hp) (ds:yar) (_:u=.ref b) (_:Inv X pins σ H' s') (_:av H H') (_:H' b=some (.tup vs)) (_:ah X.K W.bad H' ds vs) (_:Q (.tup ds))
def PEK(X:Cx)(e:Expr)(t:DE):Prop :=
 ∀ (a:yab) (s:Shared) (b:St) (H:Hp) (W:Own) (c:Ro) (Q:D->Prop),Inv X a b H s->Rel X W H b c->t c Q →
  wpAny (model X.prog X.w) X.A (eval e X.env) (KDP X a b W H Q) X.xe s
end
def Qc(ys:yar)(R:yar->Prop):(∃xs,D.lst true ys=.lst true xs/\R xs)=R ys:=by lia
def ip{c:Type}{wi:DA}{g:DG}{d:DS}{E:jJ}(xs:List c)(f:c->D)(Pv:Nat->Ro->Prop)(k:∀R:yar->Prop,R (xs.map f)->wi ρ R)(i:Pv 0 ρ)
  (h:∀(j:Nat) (x:c) (a:Ro),xs[j]?=some x->Pv j a->g (f x) a λb=>d {E with nx:=Pv (j+1),ct:=Pv (j+1),bk:=E.nx} b) (e:∀a,Pv xs.length a->E.nx a):pW wi g d E ρ:=by
 refine k _ ⟨Pv,i,λj d a c b=>?_,λa b=>e a (by grind)⟩;rw[U0]at c;grind
inductive KPs (K:yac) (P:yak) (H:Hp):List (yar×D)->List (Value×Value)->Prop
 |nil:KPs K P H [] []
 |cons {b:Addr} {vs:yaq} {ks:yar} {d:D} {x:V} {u:Value} {ds:List (yar×D)} {ws:List (Value×Value)} (hb:H b=some (.tup vs)) (hk:ah K P H ks vs) (hd:Den K P H d x) (r:RelV x u) (t:KPs K P H ds ws):KPs K P H ((ks,d)::ds) ((.ref b,u)::ws)
def PPK(X:Cx)(pos:Pos)(c:List (Option Expr))(a:yai)(t:Ro->(List (yar×D)->Prop)->Prop):Prop :=
 ∀ (b:yab) (s:Shared) (d:St) (H:Hp) (W:Own) (e:Ro) (Q:List (yar×D)->Prop),Inv X b d H s->Rel X W H d e->t e Q →
  wpAny (model X.prog X.w) X.A (evalPairs (pairTrees c a X.env pos)) (λe f=>∃a c,Inv X b d a f/\av H a/\KPs X.K W.bad a c e/\Q c) X.xe s
section
variable{X:Cx}{pos:Pos}
inductive KPi (H:Hp):List (List Key×Int)->List (Value×Value)->Prop
 |nil:KPi H [] []
 |cons {b:Addr} {k:List Key} {n:Int} {u:Value} {ds:List (List Key×Int)} {ws:List (Value×Value)} (hb:H b=some (.tup (k.map kV))) (r:RelV (.int n) u) (t:KPi H ds ws):KPi H ((k,n)::ds) ((.ref b,u)::ws)
def Lm (g:X.calm=true):cN X (.builtin "max") (λb Q=>(∃i j:Int,b=[.int i,.int j]/\Q (.int (max i j)))∨∃ (t:Bool) (ns:yaf),b=[.lst t (ns.map D.int)]/\0<ns.length/\∀m,m∈ns->(∀n∈ns,n<=m)->Q (.int m)):=by
 intro a s d H W b h k Q I l r c q;rcases q with⟨i,j,e,q⟩| ⟨t,ns,e,f,q⟩;exact NB g a s d H W b h k Q I l r c ⟨i,j,e,q⟩;subst e;obtain⟨v,rfl,b⟩:=k6 c;obtain⟨a,o,c,_,e,d⟩:=b.UI;subst c;cases r with
 |cons c b =>
  cases b;cases c;obtain⟨Rt,b,c,_⟩:=I.list e;rw[dh d]at b;have d:=intsAre_of b;obtain⟨b,e⟩:=d.allInts.items;have h:s.heap.IsList a (intItems b):=by rw[<- e];exact c.isList
  have c:ns=b.toList.map (·.1):=by rw[<- d.numsOf,<- nums_intItems,<- e]
  have a:0<b.size:=by rw[c,RH,VO]at f;exact f
  refine max_intList (I.ok.hd g) h a λy w u a kp=>?_
  obtain⟨p,rfl⟩:=intItems_at a;obtain⟨x,e⟩:=argBest_gt (numAt b) (b.size - 1);have d:∀j,j<b.size->b.toList.map (·.1) ≠ []->numAt b j∈ns:=λj a _=>by
   rw[c,numAt_eq];have:(b.toList.map (·.1))[j]?=some ((b.toList.map (·.1)).getD j 0):=by simp[a]
   exact UZ this
  refine⟨.int _,H,_,I.kept kp,⟨_,rfl⟩,av.refl H,Den.int _,q _ (d _ (by omega) (by rw[<- c];exact zDT f)) λn d=>?_⟩;rw[c]at d;obtain⟨j,a,c⟩:=XN d;have:numAt b j=n:=by rw[numAt_eq,<- c];simp only[Xz,Ul a,Option.getD_some]
  rw[<- this];rw[RH,VO]at a;exact e j (by omega)
end
end PD
namespace PZ
open PySem PySem.Spec PyProof.Rows
abbrev Kk (h:Heap) (T:Addr) (a b c:Value):Prop:=h.get? T=some {cls:=.type "tuple", data:=.seq #[a,b,c]}
structure Ap3(z TI TO i1 i2 i3:Addr):Prop where
 a1:TI≠z
 a2:TO≠z
 a3:i1≠z
 a4:i2≠z
 a5:i3≠z
 b1:TI≠TO
 b2:TI≠i1
 b3:TI≠i2
 b4:TI≠i3
 c1:TO≠i1
 c2:TO≠i2
 c3:TO≠i3
 d1:i1≠i2
 d2:i1≠i3
 d3:i2≠i3
structure Ri(z TO i1 i2 i3 l:Addr):Prop where
 c1:l≠z
 c2:l≠TO
 c3:l≠i1
 c4:l≠i2
 c5:l≠i3
structure Rk(z TI TO i1 i2 i3 l1 l2 l3:Addr)(i:Nat)(h:Heap):Prop where
 z:IsZip h z TI TO .none
 ti:Kk h TI (.ref i1) (.ref i2) (.ref i3)
 to:∃a b c,Kk h TO a b c
 s1:Vp true h i1 l1 i
 s2:Vp true h i2 l2 i
 s3:Vp true h i3 l3 i
end PZ
namespace PD
open PySem PySem.Spec PyProof.Rows L2 PZ
section
variable{X:Cx}
end
end PD
namespace ST
open PySem PySem.SetTable
def S:Nat->Nat
 |0=>0
 |n+1=>5*S n+1
theorem uA:∀n,5 ^ n=4*S n+1
 |0=>rfl
 |n+1=>by rw[zDY,uA n];show _=4*(5*S n+1)+1;lia
theorem DL(m:Nat):∀n,S (n+m)=5 ^ m*S n+S m
 |0=>by simp[S]
 |n+1=>by rw[show n+1+m=(n+m)+1 by lia];show 5*S (n+m)+1=5 ^ m*(5*S n+1)+S m;rw[DL m n,uA m];grind
theorem Kl:∀k,∃o,S (2 ^ k)=2 ^ k*(2*o+1)
 |0=>⟨0,rfl⟩
 |k+1=>by obtain⟨o,e⟩:=Kl k;refine⟨o+(2*o+1)*(2 ^ k*(2*o+1)),?_⟩;rw[show 2 ^ (k+1)=2 ^ k+2 ^ k by lia,DL,uA,e];grind
theorem round:∀(k x e:Nat),e<2 ^ k->∃n,n<2 ^ k/\(5 ^ n*x+S n) % 2 ^ k=e
 |0,x,e,h=>⟨0,by decide,by lia⟩
 |k+1,x,e,h=>by
  obtain⟨n,g,q⟩:=round k x (e % 2 ^ k) (Zh _ (Nat.two_pow_pos k));obtain⟨o,b⟩:=Kl k;have f:=Nat.two_pow_pos k;have a:2 ^ (k+1)=2*2 ^ k:=by lia
  generalize hv:5 ^ n*x+S n=v at q;have Wj:5 ^ (n+2 ^ k)*x+S (n+2 ^ k)=v+2 ^ k+2 ^ (k+1)*(o+2*(2*o+1)*v):=by rw[DL,Nat.pow_add,uA (2 ^ k),b,a,<- hv];grind
  generalize 2 ^ k=p at *;rw[a]at h ⊢;by_cases z:v % (2*p)=e;exact⟨n,by lia,by rw[hv];exact z⟩;refine⟨n+p,by lia,?_⟩;rw[Wj,a,Nat.add_mul_mod_self_left];have i:v % (2*p) % p=v % p:=Nat.mod_mul_left_mod v 2 p;have d:v % (2*p)<2*p:=Zh _ (by lia);rw[Nat.add_mod,XQ (show p<2*p by lia)];generalize v % (2*p)=u at *;have a:u=u % p∨u=u % p+p:=by
   by_cases c:u<p
   left;rw[XQ c]
   right
   have:u % p=u - p:=by rw[Nat.mod_eq_sub_mod (by lia),XQ (by lia)]
   lia
  have b:e=e % p∨e=e % p+p:=by
   by_cases c:e<p
   left;rw[XQ c]
   right
   have:e % p=e - p:=by rw[Nat.mod_eq_sub_mod (by lia),XQ (by lia)]
   lia
  rcases a with a|a<;>rcases b with b|b
  lia
  rw[XQ (by lia)];lia;rw[Nat.mod_eq_sub_mod (by lia),XQ (by lia)];lia
  lia
noncomputable def runs(mask:Nat):Nat->Nat->Nat->yag
 |0,_,_=>[]
 |c+1,i,a=>List.range' i (runEnd mask i+1 - i)++runs mask c (leap mask i a).1 (leap mask i a).2
theorem qt(mask c i pt:Nat):runs mask (c+1) i pt=List.range' i (runEnd mask i+1 - i)++runs mask c (leap mask i pt).1 (leap mask i pt).2:=rfl
def cH(mask:Nat)(h:Int):yag:=runs mask (turns mask) (bits h % (mask+1)) (bits h)
theorem jh{mask i:Nat}(h:i<=mask):i<=runEnd mask i/\runEnd mask i<=mask/\runEnd mask i<=i+9:=by unfold runEnd;lia
def rF(mask i pt:Nat):(leap mask i pt).1<=mask:=by
 have:(leap mask i pt).1<mask+1:=Zh _ (by simp_all)
 lia
theorem C7{mask:Nat}:∀{c i pt:Nat},i<=mask->∀x∈runs mask c i pt,x<=mask
 |0,_,_,_,x,h=>by cases h
 |c+1,i,pt,a,x,h=>by
  rcases Ta.mp h with z|z;grind [List.mem_range'_1,jh];exact C7 (rF _ _ _) x z
theorem A8{mask:Nat}:∀{c i pt:Nat},i<=mask->(runs mask c i pt).length<=10*c
 |0,_,_,_=>SF _
 |c+1,i,pt,a=>by have ih:=A8 (c:=c) (pt:=(leap mask i pt).2) (rF mask i pt);have:=jh a;unfold runs;grind
def cP(mask:Nat):Nat->Nat×Nat->Nat×Nat
 |0,p=>p
 |n+1,p=>cP mask n (leap mask p.1 p.2)
theorem vC{mask:Nat}:∀{n c i pt:Nat},∀x∈runs mask c (cP mask n (i,pt)).1 (cP mask n (i,pt)).2,x∈runs mask (n+c) i pt
 |0,c,i,pt,x,h=>by rw[YX];exact h
 |n+1,c,i,pt,x,h=>by have:=vC (n:=n) (c:=c) (i:=(leap mask i pt).1) (pt:=(leap mask i pt).2) x h;rw[show n+1+c=(n+c)+1 by lia];exact Wf _ this
def Hq{mask c i:Nat}(h:i<=mask):i∈runs mask (c+1) i pt:=by refine XM _ ?_;grind [List.mem_range'_1,jh]
theorem AF(mask:Nat):∀(n:Nat) (p:Nat×Nat),(cP mask n p).2=p.2 / 32 ^ n
 |0,p=>by simp[cP]
 |n+1,p=>by show(cP mask n (leap mask p.1 p.2)).2=_;rw[AF mask n];show p.2 / 32 / 32 ^ n=_;rw[Nat.div_div_eq_div_mul,zDY,Nat.mul_comm]
theorem uZ{mask k:Nat}(a:mask+1=2 ^ k):∀(n i:Nat),i<=mask->(cP mask n (i,0)).1=(5 ^ n*i+S n) % 2 ^ k
 |0,i,h=>by rw[Nat.pow_zero,Nat.one_mul];show i=(i+0) % 2 ^ k;rw[Nat.add_zero,XQ (by lia)]
 |n+1,i,h=>by
  have e:leap mask i 0=((i*5+1) % (mask+1),0):=by unfold leap;simp
  show(cP mask n (leap mask i 0)).1=_;rw[e,uZ a n _ (by have:=Zh (i*5+1) (show 0<mask+1 by lia);lia),a];have a:(5 ^ n*((i*5+1) % 2 ^ k)+S n) % 2 ^ k=(5 ^ n*(i*5+1)+S n) % 2 ^ k:=by rw[Nat.add_mod,Nat.mul_mod,Nat.mod_mod,<- Nat.mul_mod,<- Nat.add_mod]
  rw[a,zDY];congr 1;show _=5 ^ n*5*i+(5*S n+1);have:=uA n;grind
theorem yn(mask:Nat):∀(m n:Nat) (p:Nat×Nat),cP mask (m+n) p=cP mask n (cP mask m p)
 |0,n,p=>by rw[YX];rfl
 |m+1,n,p=>by rw[show m+1+n=(m+n)+1 by lia];exact yn mask m n _
theorem AE(mask:Nat):∀(n:Nat) (p:Nat×Nat),p.1<=mask->(cP mask n p).1<=mask
 |0,_,h=>h
 |n+1,p,_=>AE mask n _ (rF _ _ _)
theorem cover{mask k:Nat}(c:mask+1=2 ^ k)(h:Int){e:Nat}(f:e<=mask):e∈cH mask h:=by
 have g:bits h<2 ^ 64:=by
  unfold bits
  lia
 have a:bits h % (mask+1)<=mask:=by have:=Zh (bits h) (show 0<mask+1 by lia);lia
 generalize hp:(bits h % (mask+1),bits h)=p;have b:p.1<=mask:=by rw[<- hp];exact a
 have z:(cP mask 13 p).2=0:=by
  rw[AF,<- hp]
  lia
 have a:=AE mask 13 p b;obtain⟨n,d,b⟩:=round k (cP mask 13 p).1 e (by lia);have j:(cP mask (13+n) p).1=e:=by rw[yn];have:cP mask 13 p=((cP mask 13 p).1,0):=Prod.ext rfl z;rw[this,uZ c n _ a];exact b
 have:=vC (mask:=mask) (n:=13+n) (c:=(mask - n)+2) (i:=bits h % (mask+1)) (pt:=bits h) e (by simp_all [Hq])
 unfold cH turns;grind
def jq(xs:Array Nat):Prop:=∀a b:Nat,a<b->b<xs.size->xs.getD a 0<xs.getD b 0
theorem tj{j:Nat}(c:jq xs):∀(fuel lo b:Nat),lo<=b->b<=xs.size->b - lo<=fuel->(∀a,a<lo->xs.getD a 0<j)->(∀a,b<=a->a<xs.size->j<=xs.getD a 0) →
  (below.go xs j fuel lo b<=xs.size)/\(∀a,a<below.go xs j fuel lo b->xs.getD a 0<j)/\∀a,below.go xs j fuel lo b<=a->a<xs.size->j<=xs.getD a 0
 |0,lo,b,h,e,g,f,d=>by
  have:lo=b:=by omega
  subst this;exact⟨e,f,d⟩
 |fuel+1,lo,b,h,e,g,f,d=>by
  unfold below.go;by_cases g:lo<b;rw[Rv g];have i:(lo+b) / 2<b/\lo<=(lo+b) / 2:=by omega
  have h:xs.getD ((lo+b) / 2) j=xs.getD ((lo+b) / 2) 0:=by lia
  simp only[h];split;rename_i z;refine tj c fuel _ b (by omega) e (by omega) (λa h=>?_) d;by_cases e:a=(lo+b) / 2
  simp_all
  exact Nat.lt_trans (c a ((lo+b) / 2) (by omega) (by omega)) z;refine tj c fuel lo _ (by omega) (by omega) (by omega) f λa h d=>?_
  by_cases e:a=(lo+b) / 2
  simp_all
  have:=c ((lo+b) / 2) a (by omega) d;omega;rw[if_neg g];grind
def jK(b:jq xs)(j:Nat):below xs j<=xs.size/\(∀a,a<below xs j->xs.getD a 0<j)/\∀a,below xs j<=a->a<xs.size->j<=xs.getD a 0 :=
 tj b xs.size 0 xs.size (by lia) (by lia) (by lia) (by lia) (by lia)
def eZ{xs:Array Nat}{a x:Nat}(h:xs[a]?=some x):xs.getD a 0=x/\a<xs.size:=by
 obtain⟨l,e⟩:=Array.getElem?_eq_some_iff.mp h
 simp_all
def uS{xs:Array Nat}{a:Nat}(h:a<xs.size):xs[a]?=some (xs.getD a 0):=by simp_all
def below_at(b:jq xs){a j:Nat}(h:xs[a]?=some j):below xs j=a:=by
 obtain⟨e,l⟩:=eZ h;obtain⟨i,g,c⟩:=jK b j;have f:¬a<below xs j:=by grind
 have d:¬below xs j<a:=λz=>by have:=c (below xs j) (by lia) (by omega);have:=b _ a z l;omega
 omega
def yx{t:SetTable}(b:jq t.place){a j:Nat}(h:t.place[a]?=some j):t.slot j=.live a:=by unfold SetTable.slot;rw[below_at b h];simp[h]
def EV{t:SetTable}(a:jq t.place)(b:t.dummies=#[]){j:Nat}(h:j∉t.place.toList):t.slot j=.empty:=by
 have n:¬((t.place[below t.place j]?==some j)=true):=by grind
 unfold SetTable.slot;have:has #[] j=false:=by unfold has;simp
 simp_all
def ahead(mask:Nat)(c:Nat)(p:Probe):yag:=List.range' p.j (p.more+1)++runs mask c (leap mask p.i p.perturb).1 (leap mask p.i p.perturb).2
def BB(t:SetTable)(h:Int):∃c,cH t.mask h=ahead t.mask c (t.probeStart h):=by
 refine⟨t.mask+14,?_⟩;unfold cH ahead turns probeStart;rw[qt];have a:bits h % (t.mask+1)<=t.mask:=by have:=Zh (bits h) (show 0<t.mask+1 by lia);lia
 have:=jh a;rw[show runEnd t.mask (bits h % (t.mask+1))+1 - bits h % (t.mask+1)=runEnd t.mask (bits h % (t.mask+1)) - bits h % (t.mask+1)+1 by lia]
def DQ(t:SetTable){x:Nat}{r:yag}(e:ahead t.mask c p=x::r):p.j=x/\(r=[]∨∃ a,r=ahead t.mask a (t.advance p)):=by
 unfold ahead at e;rw[List.range'_succ,Zf]at e;obtain⟨b,a⟩:=List.cons.inj e;refine⟨b,?_⟩;unfold SetTable.advance;by_cases b:p.more > 0;rw[Rv b,<- a];unfold ahead;grind;have d:p.more=0:=by lia
 rw[d]at a;cases c with
 |zero=>left;rw[<- a];rfl
 |succ c =>
  rw[if_neg b,<- a];have a:=rF t.mask p.i p.perturb;have:=jh a;unfold ahead;grind [qt]
theorem AX{t:SetTable}(s:jq t.place)(E:t.dummies=#[])(hashAt:Nat->Int)(h:Int):∀(l:yag) (g c:Nat) (p:Probe),ahead t.mask c p=l->l.length<=g->(∃x∈l,x∉t.place.toList)->p.dummy=none →
  (∃f j d,l=f++j::d/\(∀x∈f,∃a,t.place[a]?=some x/\hashAt a≠h)/\j∉t.place.toList/\probe.go t hashAt h g p=some (.empty j none)) ∨
  ∃ f j d a q k,l=f++j::d/\(∀x∈f,∃a,t.place[a]?=some x/\hashAt a≠h)/\t.place[a]?=some j/\hashAt a=h/\d=ahead t.mask k q/\q.dummy=none/\probe.go t hashAt h g p=some (.candidate j a q)
 |[],_,_,_,_,_,I,_=>by simp_all
 |x::r,0,_,_,_,C,_,_=>by simp at C
 |x::r,g+1,c,p,e,C,I,m=>by
  obtain⟨L,Y⟩:=DQ t e;subst L;unfold probe.go;by_cases i:p.j∈t.place.toList
  ·obtain⟨a,J,ea⟩:=XN i;have u:t.place[a]?=some p.j:=by
    grind
   rw[yx s u];have U:∃x∈r,x∉t.place.toList:=by grind
   have w:∃k,r=ahead t.mask k (t.advance p):=by grind
   have n:(t.advance p).dummy=none:=by unfold SetTable.advance;split<;>exact m
   obtain⟨k,G⟩:=w;simp only;by_cases hh:hashAt a=h
   right
   rw[Rv (by lia)];exact⟨[],p.j,r,a,t.advance p,k,rfl,by simp,u,hh,G,n,rfl⟩
   ·rw[if_neg (by lia)];have good:∃a,t.place[a]?=some p.j/\hashAt a≠h:=⟨a,u,hh⟩;rcases AX s E hashAt h r g k (t.advance p) G.symm (by simp_all) U n with⟨f,j,d,H,Q,B,A⟩| ⟨f,j,d,b,q,T,H,Q,B,A,O,N,M⟩
    ·left
     refine⟨p.j::f,j,d,by grind,λy o=>?_,B,A⟩;rcases Tx.mp o with z|z
     all_goals simp_all
    ·right
     refine⟨p.j::f,j,d,b,q,T,by rw[H];rfl,λy o=>?_,B,A,O,N,M⟩;rcases Tx.mp o with z|z
     all_goals simp_all
  left
  rw[EV s E i];exact⟨[],p.j,r,rfl,by simp,i,by simp[m]⟩
structure Tab(t:SetTable)(hs:yaf):Prop where
 k:∃k,t.mask+1=2 ^ (k+1)
 rise:jq t.place
 le:∀x∈t.place.toList,x<=t.mask
 dum:t.dummies=#[]
 len:t.place.size=hs.length
 room:t.place.size<=t.mask
 reach:∀(a x:Nat) (h:Int),t.place[a]?=some x->hs[a]?=some h->∃pre post,cH t.mask h=pre++x::post/\∀y∈pre,y∈t.place.toList
theorem Tab.fits(T:Tab t hs):t.fits hs.length=true:=by
 unfold SetTable.fits SetTable.fill;rw[T.dum];simp[T.len];have:=T.len;have:=T.room
 lia
def Tab.stays(T:Tab t hs):t.gaveWay=false:=by
 obtain⟨k,e⟩:=T.k;unfold SetTable.gaveWay
 lia
def JX(d:jq xs){a b x y:Nat}(f:xs[a]?=some x)(e:xs[b]?=some y)(h:x<y):a<b:=by
 obtain⟨j,c⟩:=eZ f;obtain⟨i,g⟩:=eZ e;rcases zCE a b with z|z|z;exact z
 lia
 have:=d b a z c
 lia
def CO{xs:Array Nat}{x:Nat}(h:x∈xs.toList):∃a:Nat,xs[a]?=some x:=by obtain⟨a,b,c⟩:=XN h;exact⟨a,by rw[<- Uz,Ul b,c]⟩
def get_mem{xs:Array Nat}{a x:Nat}(h:xs[a]?=some x):x∈xs.toList:=by grind
def LO(d:jq xs){mask:Nat}(hs:xs.size<=mask):∃e,e<=mask/\e∉xs.toList:=by
 refine zBX λi=>?_
 have c:∀e,e<=mask->e∈xs.toList:=by simp_all
 have g:∀j,j<=mask->∃a,xs[a]?=some j/\j<=a:=by
  intro j
  induction j with
  |zero=>simp_all [CO,UE]
  |succ j ih =>
   intro h;obtain⟨a,e,f⟩:=ih (by lia);obtain⟨b,a⟩:=CO (c (j+1) h);have:=JX d e a (by lia);exact⟨b,a,by lia⟩
 grind
def Tab.empty(T:Tab t hs)(h:Int):∃x∈cH t.mask h,x∉t.place.toList:=by obtain⟨e,b,a⟩:=LO T.rise T.room;grind [k,cover]
def wc(mask:Nat)(h:Int):(cH mask h).length<=10*turns mask:=A8 (by have:=Zh (bits h) (show 0<mask+1 by lia);lia)
def qV(mask:Nat)(h:Int):∀x∈cH mask h,x<=mask:=C7 (by have:=Zh (bits h) (show 0<mask+1 by lia);lia)
def nR{a:Type}(xs:Array a)(p:Nat)(x:a):(insertAt xs p x).toList=xs.toList.take p++x::xs.toList.drop p:=by
 unfold insertAt
 simp_all [XJ,W5,VO]
def get_ins{b:Type}{l:List b}{p:Nat}(c:p<=l.length)(x:b)(a:Nat):(l.take p++x::l.drop p)[a]?=if a<p then l[a]? else if a=p then some x else l[a - 1]?:=by
 have e:=List.length_take_of_le c;rcases Nat.lt_trichotomy a p with h|h|h
 rw[if_pos h,List.getElem?_append_left (by rw[e];exact h),List.getElem?_take_of_lt h]
 rw[h,if_neg (Nat.lt_irrefl _),if_pos rfl,List.getElem?_append_right (Nat.le_of_eq e),e,Nat.sub_self];rfl
 obtain⟨k,rfl⟩:=Nat.exists_eq_add_of_lt h;rw[if_neg (Nat.lt_asymm h),if_neg (Nat.ne_of_gt h),List.getElem?_append_right (by rw[e];exact Nat.le_of_lt h),e,Nat.add_assoc,Nat.add_sub_cancel_left,List.getElem?_cons_succ,List.getElem?_drop];rfl
theorem Tab.put(T:Tab t hs){j:Nat}{i f:yag}(n:j∉t.place.toList)(hv:cH t.mask h=i++j::f)(w:∀y∈i,y∈t.place.toList)(b:t.place.size+1<=t.mask) :
  Tab (t.put j).1 (hs.take (t.put j).2++h::hs.drop (t.put j).2)/\(t.put j).2<=hs.length/\(t.put j).1.mask=t.mask/\(t.put j).1.place.size=t.place.size+1:=by
 have c:(t.put j).1.place=insertAt t.place (below t.place j) j:=rfl;have r:(t.put j).2=below t.place j:=rfl;have e:(t.put j).1.mask=t.mask:=rfl;have d:(t.put j).1.dummies=#[]:=by
  show(if has t.dummies j then _ else t.dummies)=_;rw[T.dum];have:has #[] j=false:=by unfold has;simp
  rfl
 obtain⟨a,p,B⟩:=jK T.rise j;have g:below t.place j<=t.place.toList.length:=by exact a
 have s:below t.place j<=hs.length:=by rw[<- T.len];exact a
 have o:∀a,(t.put j).1.place[a]?=if a<below t.place j then t.place[a]? else if a=below t.place j then some j else t.place[a - 1]?:=λa=>by rw[c,<- Uz,nR,get_ins g,Uz,Uz]
 have k:(t.put j).1.place.size=t.place.size+1:=by
  rw[c,<- VO,nR,Vh,Xj,Ye,W5,VO]
  lia
 have m:∀x,x∈(t.put j).1.place.toList↔x=j∨x∈t.place.toList:=λx=>by
  rw[c,nR,Ta,Tx];constructor;rintro(z|z|z);exact .inr (zBy z);exact .inl z;exact .inr (zBx z);rintro(z|z);exact .inr (.inl z);rw[<- XB (below t.place j) t.place.toList]at z;rcases Ta.mp z with q|q;exact .inl q;exact .inr (.inr q)
 refine⟨⟨T.k,?_,?_,d,?_,by rw[k];exact b,?_⟩,s,e,k⟩;intro a b l c;rw[k]at c;have g:=uS (xs:=(t.put j).1.place) (a:=a) (by lia);have d:=uS (xs:=(t.put j).1.place) (a:=b) (by rw[k];exact c);rw[o a]at g;rw[o b]at d;have u:∀c,c<t.place.size->t.place.getD c 0≠j:=λc c e=>n (by rw[<- e];exact get_mem (uS c))
 by_cases e:a<below t.place j;rw[Rv e]at g;obtain⟨A,q⟩:=eZ g;have:=p a e;by_cases n:b<below t.place j;rw[Rv n]at d;obtain⟨p,c⟩:=eZ d;have:=T.rise a b l c
 lia
 rw[if_neg n]at d;by_cases l:b=below t.place j;rw[Rv l]at d;have:=Yu d
 lia
 rw[if_neg l]at d;obtain⟨p,c⟩:=eZ d;have:=T.rise a (b - 1) (by lia) c
 lia
 rw[if_neg e]at g;have n:¬b<below t.place j:=by lia
 have l:¬b=below t.place j:=by lia
 rw[if_neg n,if_neg l]at d;obtain⟨p,c⟩:=eZ d;by_cases d:a=below t.place j;rw[Rv d]at g;have:=Yu g;have:=B (b - 1) (by lia) c;have:=u (b - 1) c
 lia
 rw[if_neg d]at g;obtain⟨A,q⟩:=eZ g;have:=T.rise (a - 1) (b - 1) (Nat.sub_lt_sub_right (by lia) (by assumption)) c
 lia
 intro x b;rcases(m x).mp b with z|z;subst z;exact qV t.mask h x (by rw[hv];simp);exact T.le x z;rw[k,r,Vh,Xj,Ye,W5,<- T.len]
 lia
 intro a x n b hh;rw[o a]at b;rw[r,get_ins s]at hh;have c:∀{l:yag},(∀y∈l,y∈t.place.toList)->∀y∈l,y∈(t.put j).1.place.toList:=λh y g=>(m y).mpr (.inr (h y g))
 by_cases e:a<below t.place j;rw[Rv e]at b hh;obtain⟨l,k,h,g⟩:=T.reach a x n b hh;exact⟨l,k,h,c g⟩;rw[if_neg e]at b hh;by_cases d:a=below t.place j;rw[Rv d]at b hh;cases b;cases hh;exact⟨i,f,hv,c w⟩;rw[if_neg d]at b hh;obtain⟨l,k,h,g⟩:=T.reach (a - 1) x n b hh;exact⟨l,k,h,c g⟩
theorem ye(mask:Nat)(owner:Array (Option Nat)):∀(fuel i pt:Nat),layClean.free mask owner fuel i pt=(runs mask fuel i pt).find? λy=>(owner.getD y (some 0)).isNone
 |0,_,_=>rfl
 |fuel+1,i,pt=>by
  rw[qt,List.find?_append,List.range'_eq_map_range,List.find?_map];unfold layClean.free;have ih:=ye mask owner fuel (leap mask i pt).1 (leap mask i pt).2;have a:((λy=>(owner.getD y (some 0)).isNone)∘λx=>i+x)=λk=>(owner.getD (i+k) (some 0)).isNone:=rfl
  grind
structure Ow(mask:Nat)(hs:yaf)(owner:Array (Option Nat)):Prop where
 size:owner.size=mask+1
 cnt:(owner.toList.filter Option.isSome).length=hs.length
 at_:∀(i:Nat) (h:Int),hs[i]?=some h->∃j:Nat,owner[j]?=some (some i)/\∃pre post,cH mask h=pre++j::post/\∀y∈pre,∃q,owner[y]?=some (some q)
 lt:∀j i:Nat,owner[j]?=some (some i)->i<hs.length
 inj:∀j j' i:Nat,owner[j]?=some (some i)->owner[j']?=some (some i)->j=j'
theorem uQ{a:Type}{p:a->Bool}:∀{l:List a} {x:a},l.find? p=some x->∃c b,l=c++x::b/\p x=true/\∀y∈c,p y=false
 |[],_,h=>by cases h
 |a::r,x,h=>by
  rw[List.find?_cons]at h;cases pa:p a with
  |true=>rw[pa]at h;cases h;exact⟨[],r,rfl,pa,by simp⟩
  |false =>
   rw[pa]at h;obtain⟨c,b,e,d,f⟩:=uQ h;refine⟨a::c,b,by simp_all,d,λy g=>?_⟩;grind
theorem uP{c:Type}{p:c->Bool}:∀{l:List c} {j:Nat} {a b:c},l[j]?=some a->p a=false->p b=true->((l.set j b).filter p).length=(l.filter p).length+1
 |[],_,_,_,h,_,_=>by simp at h
 |x::r,0,a,b,h,d,c=>by grind
 |x::r,j+1,a,b,h,d,c=>by
  have ih:=uP (l:=r) (j:=j) (by simp_all) d c;by_cases c:p x=true
  all_goals simp_all
def Ow.step{mask k:Nat}(g:mask+1=2 ^ k){hs:yaf}{owner:Array (Option Nat)}(O:Ow mask hs owner)(w:hs.length<=mask)(h:Int) :
  ∃ j,layClean.free mask owner (turns mask) (bits h % (mask+1)) (bits h)=some j/\Ow mask (hs++[h]) (owner.setIfInBounds j (some hs.length)):=by
 have i:∃e:Nat,e<=mask/\owner[e]?=some none:=by
  refine zBX λd=>?_
  have b:∀x∈owner.toList,Option.isSome x=true:=λx f=>by
   obtain⟨e,c,a⟩:=XN f;rw[VO,O.size]at c;cases x with
   |some _=>rfl
   |none=>exact absurd ⟨e,by lia,by rw[<- Uz,Ul (by rw[VO,O.size];exact c),a]⟩ d
  have:=O.cnt;rw[Xg.mpr b,VO,O.size]at this
  lia
 have f:∀y,y<=mask->((owner.getD y (some 0)).isNone=true↔owner[y]?=some none):=λy b=>by
  have l:y<owner.size:=by rw[O.size];lia
  simp[Array.getD,l]
 obtain⟨e,c,a⟩:=i;have d:((cH mask h).find? λy=>(owner.getD y (some 0)).isNone).isSome=true:=by rw[List.find?_isSome];exact⟨e,cover g h c,(f e c).mpr a⟩
 obtain⟨j,a⟩:=Option.isSome_iff_exists.mp d;obtain⟨k,e,l,c,o⟩:=uQ a;have d:j<=mask:=qV mask h j (by rw[l];simp);have i:=(f j d).mp c;have d:j<owner.size:=by rw[O.size];lia
 refine⟨j,by rw[ye];exact a,?_⟩;have g:∀y:Nat,(owner.setIfInBounds j (some hs.length))[y]?=if j=y then some (some hs.length)else owner[y]?:=λy=>by rw[Array.getElem?_setIfInBounds];by_cases c:j=y;rw[Rv c,Rv c,Rv d];rw[if_neg c,if_neg c]
 have d:∀(y q:Nat),owner[y]?=some (some q)->(owner.setIfInBounds j (some hs.length))[y]?=some (some q):=λy q b=>by rw[g,if_neg (λc=>by subst c;rw[i]at b;cases b)];exact b
 refine⟨by rw[Array.size_setIfInBounds];exact O.size,?_,?_,?_,?_⟩;rw[Array.toList_setIfInBounds,uP (a:=none) (by rw[Uz];exact i) rfl rfl,O.cnt,Vh];rfl;intro i u a;by_cases c:i<hs.length;rw[WZ c]at a;obtain⟨t,s,r,p,n,m⟩:=O.at_ i u a;exact⟨t,d _ _ s,r,p,n,λy b=>let ⟨q,z⟩:=m y b;⟨q,d _ _ z⟩⟩;have m:i=hs.length:=by
  have:=(VE.mp a).1;simp at this
  lia
 subst m;simp at a;subst a;refine⟨j,by rw[g,Rv rfl],k,e,l,λy b=>?_⟩;have k:y<=mask:=qV mask h y (by rw[l];simp[b]);have e:=o y b;have a:y<owner.size:=by rw[O.size];lia
 cases oy:owner[y]with
 |none =>
  have:=(f y k).mpr (by rw[zBK a,oy]);rw[this]at e;cases e
 |some q=>exact⟨q,d y q (by rw[zBK a,oy])⟩
 intro y i b;rw[g]at b;by_cases c:j=y;rw[Rv c]at b;cases b;simp;rw[if_neg c]at b;have:=O.lt y i b;simp
 lia
 intro y d i b a;rw[g]at b a;by_cases c:j=y<;>by_cases e:j=d
 lia
 rw[Rv c]at b;rw[if_neg e]at a;cases b;have:=O.lt d _ a
 lia
 rw[if_neg c]at b;rw[Rv e]at a;cases a;have:=O.lt y _ b
 lia
 rw[if_neg c]at b;rw[if_neg e]at a;exact O.inj y d i b a
theorem AD{mask k:Nat}(b:mask+1=2 ^ k):∀(rest hs:yaf) (owner:Array (Option Nat)),Ow mask hs owner->hs.length+rest.length<=mask+1 →
  ∃ c,rest.foldl (λ(a:Option (Array (Option Nat)×Nat)) h=>do
   let (owner,k)←a
   let j←layClean.free mask owner (turns mask) (bits h % (mask+1)) (bits h)
   pure (owner.setIfInBounds j (some k),k+1)) (some (owner,hs.length))=some (c,(hs++rest).length)/\Ow mask (hs++rest) c
 |[],hs,owner,O,_=>by simp_all
 |h::r,hs,owner,O,a=>by rw[Ye]at a;obtain⟨j,e,a⟩:=O.step b (by lia) h;obtain⟨d,f,Q⟩:=AD b r (hs++[h]) _ a (by grind);grind
def BM{mask k:Nat}(b:mask+1=2 ^ k)(a:Array Int)(d:a.size<=mask+1):∃owner,layClean mask a=some owner/\Ow mask a.toList owner:=by
 have O:Ow mask [] (Array.replicate (mask+1) none):=by
  refine⟨by simp,by simp,by simp,λj i h=>?_,λj c i h _=>?_⟩
  all_goals simp_all [Array.getElem?_replicate]
 obtain⟨o,e,Q⟩:=AD b a.toList [] _ O (by simp_all);unfold layClean;grind
def live(mask:Nat)(owner:Array (Option Nat)):List (Nat×Nat):=(List.range (mask+1)).filterMap λj=>(owner.getD j none).map (j,·)
def iw{mask:Nat}{hs:yaf}{owner:Array (Option Nat)}(O:Ow mask hs owner){j i:Nat}:(j,i)∈live mask owner↔owner[j]?=some (some i):=by
 unfold live;rw[zC6];constructor;rintro⟨y,a,e⟩;rw[List.mem_range]at a;obtain⟨q,c,b⟩:=Zc.mp e;cases b;have l:j<owner.size:=by rw[O.size];exact a
 simp_all
 intro h;obtain⟨l,e⟩:=Array.getElem?_eq_some_iff.mp h;refine⟨j,by rw[List.mem_range,<- O.size];exact l,?_⟩
 simp_all
def tK(mask:Nat)(owner:Array (Option Nat)):(live mask owner).map (·.1)=(List.range (mask+1)).filter λj=>(owner.getD j none).isSome:=by
 unfold live
 induction List.range (mask+1)with
 |nil=>rfl
 |cons a r ih =>
  cases e:owner.getD a none with
  |none=>simp_all
  |some q=>simp_all
def Jo{mask:Nat}{hs:yaf}{owner:Array (Option Nat)}(O:Ow mask hs owner):(live mask owner).length=hs.length:=by
 have b:(live mask owner).length=((live mask owner).map (·.1)).length:=by simp
 have a:owner.toList=(List.range (mask+1)).map λj=>owner.getD j none:=by
  apply List.ext_getElem?;intro j;rw[U0,Uz];by_cases c:j<mask+1;have l:j<owner.size:=by rw[O.size];exact c
  simp_all
  rw[zB6 (by simp_all),Array.getElem?_eq_none (by rw[O.size];lia)];rfl
 rw[b,tK,<- O.cnt,a,List.filter_map,RH];rfl
def yq(mask:Nat)(owner:Array (Option Nat)):((live mask owner).map (·.1)).Pairwise (·<·):=by rw[tK];exact List.Pairwise.filter _ List.pairwise_lt_range
def MP{l:yag}(h:l.Pairwise (·<·)):jq l.toArray:=by
 intro a b d e;have c:b<l.length:=by simp_all
 have:=Y9.mp h a b (by lia) c d;simp[Array.getD,show a<l.length by lia,c];exact this
def L8{mask k:Nat}(N:mask+1=2 ^ (k+1))(finger moves:Nat)(led plain:Bool){V:Type}(es:Array (Int×V))(C:es.size<=mask) :
  ∃ t c,laid mask finger moves led plain (es.map (·.1))=some (t,c)/\t.mask=mask/\t.led=led/\t.plain=plain ∧
   ∃ d:List (Int×V),(c.filterMap (es[·]?)).toList=d/\d.length=es.size/\Tab t (d.map (·.1))/\t.place.size=es.size ∧
    (∀(a:Nat) (e:Int×V),d[a]?=some e->∃i:Nat,c[a]?=some i/\es[i]?=some e)/\(∀i:Nat,i<es.size->∃a:Nat,c[a]?=some i)/\∀(a b i:Nat),c[a]?=some i->c[b]?=some i->a=b:=by
 obtain⟨c,eo,O⟩:=BM N (es.map (·.1)) (by rw[Array.size_map];lia);have f:(es.map (·.1)).toList.length=es.size:=by simp
 refine⟨{mask,place:=((live mask c).map (·.1)).toArray,dummies:=#[],finger,led,moves,plain},((live mask c).map (·.2)).toArray,by unfold laid;rw[eo];rfl,rfl,rfl,rfl,?_⟩;have B:=Jo O;rw[f]at B;have A:∀p∈live mask c,p.2<es.size:=λp hp=>by have:=O.lt p.1 p.2 ((iw O).mp hp);rw[f]at this;exact this
 have m:∀l:List (Nat×Nat),(∀p∈l,p.2<es.size)->(((l.map (·.2)).filterMap λi=>es[i]?).map some)=l.map λp=>es[p.2]?:=λl C=>by
  induction l with
  |nil=>rfl
  |cons p r ih =>
   have o:=C p (by simp);rw[VS,List.filterMap_cons_some (zBK o),VS,VS,ih λq d=>C q (by simp[d]),zBK o]
 have Q:∀a:Nat,((((live mask c).map (·.2)).filterMap λi=>es[i]?)[a]?).map some=((live mask c)[a]?).map λp=>es[p.2]?:=λa=>by have:=congrArg (λl=>l[a]?) (m _ A);simp only[U0]at this;exact this
 refine⟨((live mask c).map (·.2)).filterMap λi=>es[i]?,by simp,?_,?_,?_,?_,?_,?_⟩;have:=congrArg List.length (m _ A);rw[RH,RH]at this;rw[this,B];refine⟨⟨k,N⟩,MP (yq mask c),?_,rfl,?_,?_,?_⟩;intro x J;have E:x∈(live mask c).map (·.1):=by simpa using J
 rw[tK,Yf,List.mem_range]at E;show x<=mask
 lia
 have:=congrArg List.length (m _ A);rw[RH,RH]at this;rw[WC,RH,RH,this];rw[WC,RH,B];exact C;intro a x h J hh;have E:((live mask c).map (·.1))[a]?=some x:=by simpa using J
 rw[U0]at E;obtain⟨p,d,M⟩:=Zc.mp E;have g:=Q a;rw[d]at g;have o:=A p (UZ d);rw[U0]at hh;obtain⟨e,ee,eh⟩:=Zc.mp hh;rw[ee,Option.map_some,Option.map_some,zBK o]at g;have L:=Yu (Yu g);obtain⟨j',o',G,n,ev,q⟩:=O.at_ p.2 h (by rw[<- eh,L,<- Uz]at *;rw[Uz,Array.getElem?_map,zBK o];rfl)
 have H:=(iw O).mp (show(p.1,p.2)∈live mask c from UZ d);have:=O.inj j' p.1 p.2 o' H;subst this;subst M;refine⟨G,n,ev,λy hy=>?_⟩;obtain⟨z,hz⟩:=q y hy;simp only[S5];exact⟨(y,z),(iw O).mpr hz,rfl⟩;rw[WC,RH,B];intro a e he;have g:=Q a;rw[he]at g;cases d:(live mask c)[a]? with
 |none=>rw[d]at g;cases g
 |some p =>
  rw[d]at g;exact⟨p.2,by simp[d],(Yu g).symm⟩
 intro i hi;obtain⟨h,hh⟩:∃h,(es.map (·.1)).toList[i]?=some h:=⟨_,Ul (by rw[f];exact hi)⟩;obtain⟨j,H,_⟩:=O.at_ i h hh;obtain⟨a,I,ea⟩:=XN ((iw O).mpr H);exact⟨a,by simp[Ul I,ea]⟩;intro a b i ha hb;have U:((live mask c).map (·.2))[a]?=some i:=by simpa using ha
 have w:((live mask c).map (·.2))[b]?=some i:=by simpa using hb
 rw[U0]at U w;obtain⟨p,d,M⟩:=Zc.mp U;obtain⟨q,T,e2⟩:=Zc.mp w;have o1:=(iw O).mp (show(p.1,p.2)∈live mask c from UZ d);have Y:=(iw O).mp (show(q.1,q.2)∈live mask c from UZ T);have ej:=O.inj p.1 q.1 i (by rw[<- M];exact o1) (by rw[<- e2];exact Y);have r:=yq mask c;have I:=(VE.mp d);have lb:=(VE.mp T);obtain⟨u,t⟩:=I;obtain⟨s,j⟩:=lb;rcases zCE a b with z|z|z;have:=Y9.mp r a b (by rw[RH];exact u) (by rw[RH];exact s) z;rw[Yd,Yd,t,j]at this
 lia
 exact z;have:=Y9.mp r b a (by rw[RH];exact s) (by rw[RH];exact u) z;rw[Yd,Yd,t,j]at this
 lia
theorem zu:∀(fuel a n:Nat),n<a*2 ^ fuel->∃m,sizeAbove.go n fuel a=a*2 ^ m/\n<a*2 ^ m
 |0,a,n,h=>⟨0,by simp[sizeAbove.go],h⟩
 |fuel+1,a,n,h=>by
  unfold sizeAbove.go;by_cases c:a<=n
  ·obtain⟨m,d,b⟩:=zu fuel (a*2) n (by simp_all [zDY,Nat.mul_assoc,Nat.mul_comm]);refine⟨m+1,?_,?_⟩
   all_goals simp_all [zDY,Nat.mul_assoc,Nat.mul_comm]
  rw[if_neg c];exact⟨0,by simp,by lia⟩
def above{n:Nat}(h:n<2 ^ 60):∃k,sizeAbove n - 1+1=2 ^ (k+1)/\n<=sizeAbove n - 1:=by
 obtain⟨m,a,b⟩:=zu 64 8 n (Tt h (by decide));have e:sizeAbove n=8*2 ^ m:=a;refine⟨m+2,?_,by lia⟩
 lia
end ST
namespace SW
open PySem PySem.SetTable ST
section
variable{prog:Program}{w:World}{A:Around}{E:yaa}{s:Shared}
abbrev TK(prog:Program)(w:World):HeapKind prog w (yaf):=tupleKind (intKind prog w)
theorem items_int:∀{b:yaf} {a:yad},ItemsAre (intKind prog w) b a->∀v∈a,∃n t,v=Value.int n t
 |_,_,.nil,v,h=>by cases h
 |_,_,.cons h t,v,hv=>by
  rcases Tx.mp hv with z|z;obtain⟨t,e⟩:=Value.isInt_shape h;grind;exact items_int t v z
def yt{Q:Bool->Shared->Prop}(e:(TK prog w).is s.heap k b)(l:Q false s):wpAny (model prog w) A (ofAClassStatement 8 (.ref b)) Q E s:=by
 obtain⟨o,a,n,d,h,g,f⟩:=e;unfold ofAClassStatement;refine Rm (wpAny_typeOf (T := "tuple") ⟨o,d,h⟩ ?_);refine Rm (Rz ?_);refine Rm (Yv d g ?_);refine Rm ?_;rw[<- Array.forIn_toList];refine wpAny_forIn_list _ (λrest r c=>r.1=none/\c=s/\∀v∈rest,∃n t,v=Value.int n t) _ ?_ ?_ _ _ ⟨rfl,rfl,items_int f⟩;rintro v rest r c ⟨j,rfl,i⟩;obtain⟨m,t,rfl⟩:=i v (by simp_all);exact Rz ⟨rfl,rfl,by simp_all⟩
 simp_all [Rz]
def Gg{Q:Bool->Shared->Prop}(e:(TK prog w).is s.heap k b)(l:Q true s):wpAny (model prog w) A (hashByValue 8 (.ref b)) Q E s:=by
 obtain⟨o,a,n,d,h,g,f⟩:=e;refine Rm (zC8 (T := "tuple") ⟨o,d,h⟩ F.slot_tuple_hash.lookup ?_);refine Rm (Yv d g ?_);refine Rm ?_;rw[<- Array.forIn_toList];refine wpAny_forIn_list _ (λrest r c=>r.1=none/\c=s/\∀v∈rest,∃n t,v=Value.int n t) _ ?_ ?_ _ _ ⟨rfl,rfl,items_int f⟩;rintro v rest r c ⟨j,rfl,i⟩;obtain⟨m,t,rfl⟩:=i v (by simp_all);exact Rz ⟨rfl,rfl,by simp_all⟩
 simp_all [Rz]
def EU{g:yad}{Q:Bool->Shared->Prop}(h:(TK prog w).is s.heap k b)(hv:∀v∈g,∃e c,v=Value.ref c/\(TK prog w).is s.heap e c)(m:Q false s) :
  wpAny (model prog w) A (searchCouldBeSeen (.ref b) g) Q E s:=by
 refine Rm (wpAny_forIn_list _ (λrest r f=>r.1=none/\f=s/\∀v∈rest,∃e c,v=Value.ref c/\(TK prog w).is s.heap e c) _ ?_ ?_ _ _ (by simp_all));rintro v rest r f ⟨l,rfl,j⟩;have a:∀u∈rest,∃e c,u=Value.ref c/\(TK prog w).is f.heap e c:=by simp_all
 obtain⟨e,c,rfl,i⟩:=j v (by simp_all);by_cases d:((b==c) || (carriedByValue (.ref b) && carriedByValue (.ref c)))=true;rw[Rv d];exact Rz ⟨rfl,rfl,a⟩;rw[if_neg d];refine Rm ((TK prog w).quiet h ?_);refine Rm ((TK prog w).quiet i ?_);refine Rm (yt h ?_);refine Rm (yt i ?_);exact Rz ⟨rfl,rfl,a⟩
 simp_all [Rz]
theorem sM{o:Obj}{xs:List (yaf×Addr)}{Q:SetFound->Shared->Prop}(hu:A.units<cLine)(hk:(TK prog w).is s.heap k b)
  (ho:s.heap.get? a=some o) (hd:o.data=.set es ep t) (he:es.toList=xs.map λx=>((TK prog w).hash x.1,Value.ref x.2)) (ZM:∀x∈xs,(TK prog w).is s.heap x.1 x.2) (T:Tab t (xs.map λx=>(TK prog w).hash x.1))
  (Y:k∈xs.map (·.1)->Q (.there none) s) (O:k∉xs.map (·.1)->∀j d f,cH t.mask ((TK prog w).hash k)=d++j::f->(∀y∈d,y∈t.place.toList)->j∉t.place.toList->Q (.free j false) s) :
  ∀ (fuel:Nat) (l done:yag) (c:Nat) (st:Option Probe),ahead t.mask c (st.getD (t.probeStart ((TK prog w).hash k)))=l->cH t.mask ((TK prog w).hash k)=done++l →
   (∀y∈done,∃(i:Nat) (x:yaf×Addr),t.place[i]?=some y/\xs[i]?=some x/\x.1≠k)->l.length<fuel->(st.getD (t.probeStart ((TK prog w).hash k))).dummy=none->wpAny (model prog w) A (setSearchFrom a (.ref b) ((TK prog w).hash k) true fuel st) Q E s
 |0,_,_,_,_,_,_,_,hf,_=>absurd hf (zDV _)
 |fuel+1,l,done,c,st,e1,e2,L,hf,hdm=>by
  have sz:es.size=xs.length:=by rw[<- VO,he,RH]
  have I:t.fits es.size=true:=by have:=T.fits;rw[RH]at this;rw[sz];exact this
  have psz:t.place.size=xs.length:=by have:=T.len;rw[RH]at this;exact this
  have n:∀(i:Nat) (x:yaf×Addr),xs[i]?=some x->es[i]?=some ((TK prog w).hash x.1,Value.ref x.2):=λi x r=>by rw[<- Uz,he,U0,r];rfl
  have g:∀i y:Nat,t.place[i]?=some y->∃x,xs[i]?=some x:=λi y B=>by have:=(eZ B).2;exact⟨xs[i]'(by lia),Ul (by lia)⟩
  have hat:∀(i:Nat) (x:yaf×Addr),xs[i]?=some x->(es[i]?.map (·.1)).getD 0=(TK prog w).hash x.1:=λi x r=>by rw[n i x r];rfl
  have dpl:∀y∈done,y∈t.place.toList:=λy B=>let ⟨i,_,u,_⟩:=L y B;get_mem u
  have emp:∃x∈l,x∉t.place.toList:=by
   obtain⟨x,r,e⟩:=T.empty ((TK prog w).hash k);rw[e2]at r;rcases Ta.mp r with z|z;exact absurd (dpl x z) e;exact⟨x,z,e⟩
  have ll:l.length<=10*turns t.mask:=by
   have:=wc t.mask ((TK prog w).hash k);rw[e2,Vh]at this
   lia
  refine Rm (YS ho hd I ?_);dsimp only;rw[T.stays];simp only[zCM,if_false];generalize hm:t.probe _ ((TK prog w).hash k) (st.getD (t.probeStart ((TK prog w).hash k)))=m;rcases AX T.rise T.dum (λi=>(es[i]?.map (·.1)).getD 0) ((TK prog w).hash k) l (10*turns t.mask) c _ e1 ll emp hdm with⟨d,j,f,q1,q2,J,q4⟩| ⟨d,j,f,i,q,c',q1,q2,J,q4,q5,q6,q7⟩;have em:m=some (.empty j none):=hm.symm.trans q4;subst em;dsimp only;have hv:cH t.mask ((TK prog w).hash k)=(done++d)++j::f:=by rw[e2,q1,Xi]
  have hpp:∀y∈done++d,y∈t.place.toList:=λy B=>by
   rcases Ta.mp B with z|z;exact dpl y z;obtain⟨i,u,_⟩:=q2 y z;exact get_mem u
  refine Rz (O (λU=>?_) j _ f hv hpp J);obtain⟨x,r,G⟩:=S5.mp U;obtain⟨H,li,ei⟩:=XN r;have C:xs[H]?=some x:=by rw[Ul li,ei]
  have M:=uS (xs:=t.place) (a:=H) (by lia);obtain⟨p,post0,v0,p0⟩:=T.reach H _ ((TK prog w).hash k) M (by rw[U0,C,<- G];rfl);have x0:t.place.getD H 0∈done++d:=by
   have h:p.length<(done++d).length:=by
    refine zBX λnl=>?_
    have e:(cH t.mask ((TK prog w).hash k))[(done++d).length]?=some j:=by rw[hv,WK (SF _),Nat.sub_self];rfl
    rw[v0]at e;by_cases c1:(done++d).length<p.length;rw[WZ c1]at e;exact J (p0 j (UZ e));have N:(done++d).length=p.length:=by lia
    rw[N,WK (SF _),Nat.sub_self]at e;have:t.place.getD H 0=j:=Yu e;exact J (by rw[<- this];exact get_mem M)
   have e:(cH t.mask ((TK prog w).hash k))[p.length]?=some (t.place.getD H 0):=by rw[v0,WK (SF _),Nat.sub_self];rfl
   rw[hv,WZ h]at e;exact UZ e
  have same:∀h:Nat,t.place[h]?=some (t.place.getD H 0)->h=H:=λh h'=>(below_at T.rise h').symm.trans (below_at T.rise M)
  rcases Ta.mp x0 with z|z;obtain⟨h,x',u,N,h3⟩:=L _ z;have:=same h u;subst this;rw[C]at N;cases N;exact h3 G;obtain⟨h,u,N⟩:=q2 _ z;have:=same h u;subst this;exact N (by rw[hat h x C,G]);have em:m=some (.candidate j i q):=hm.symm.trans q7;subst em;dsimp only;obtain⟨x,C⟩:=g i j J;have r:=ZM x (UZ C);have stored:∀v∈(es.filter (·.1==(TK prog w).hash k)).toList.map (·.2),∃k' c,v=Value.ref c/\(TK prog w).is s.heap k' c:=λv hv=>by
   obtain⟨e,he',rfl⟩:=S5.mp hv;have he2:e∈es.toList:=by have:=Array.mem_toList_iff.mp he';exact Array.mem_toList_iff.mpr (Array.mem_filter.mp this).1
   rw[he]at he2;obtain⟨y,B,rfl⟩:=S5.mp he2;exact⟨y.1,y.2,rfl,ZM y B⟩
  have go:wpAny (model prog w) A (do
    let some (_,y):=es[i]?|unsupported "internal:set-entry"
    let equal←holding [y] (eqBool y (.ref b))
    let (Wh,_,t')←setState a
    if true && equal then return SetFound.there none
    let some same:=t'.sameMemory t.moves t.mask|unsupported "set.changed-during-lookup:is-the-new-block-at-the-old-address"
    let still←match(if same then t'.slot j else .empty)with
     |.live h=>match Wh[h]? with
      |some (_,e)=>do pure (if←isSame e y then some h else none)
      |none=>pure none
     |_=>pure none
    match still with
    |none=>rule "set.search.anew"; setSearchFrom a (.ref b) ((TK prog w).hash k) true fuel none
    |some h=>if equal then return .there (some h)else setSearchFrom a (.ref b) ((TK prog w).hash k) true fuel (some q)) Q E s:=by
   rw[n i x C];dsimp only;refine Rm (VT ((TK prog w).eqBool hu r hk ?_));refine Rm (YS ho hd I ?_);dsimp only;by_cases G:x.1=k;rw[Rv (by simp[G])];exact Rz (Y (S5.mpr ⟨x,UZ C,G⟩));rw[if_neg (by simp[G])];have sm:t.sameMemory t.moves t.mask=some true:=by unfold SetTable.sameMemory;simp
   rw[sm];dsimp only;rw[Rv rfl,yx T.rise J];dsimp only;rw[n i x C];refine Rm (wpAny_isSame_ref_self ?_);simp only[if_true];refine Rm (Rz ?_);dsimp only;rw[if_neg (by simp[G])];refine sM hu hk ho hd he ZM T Y O fuel f (done++d++[j]) c' (some q) q5.symm (by rw[e2,q1];simp) (λy B=>?_) (by rw[q1,Vh,Ye]at hf;lia) q6;rcases Ta.mp B with z|z;rcases Ta.mp z with z|z;exact L y z;obtain⟨h,u,N⟩:=q2 y z;obtain⟨x',e⟩:=g h y u;exact⟨h,x',u,e,λek'=>N (by rw[hat h x' e,ek'])⟩;simp at z;subst z;exact⟨i,x,J,C,G⟩
  by_cases e:t.led=true;rw[if_neg (by simp[e])];exact go;rw[Rv (by simp[e])];refine Rm (EU hk stored ?_);exact go
theorem zw:∀(fuel a n:Nat),sizeAbove.go n fuel a<=max a (2*n)
 |0,a,n=>by unfold sizeAbove.go;lia
 |fuel+1,a,n=>by
  unfold sizeAbove.go;split;have:=zw fuel (a*2) n
  lia
  lia
structure jr(prog:Program)(w:World)(h:Heap)(a:Addr)(xs:List (yaf×Addr)):Prop where
 ex:∃o es ep t,h.get? a=some o/\o.ExactSet/\o.data=.set es ep t/\es.toList=xs.map (λx=>((TK prog w).hash x.1,Value.ref x.2))/\Tab t (xs.map λx=>(TK prog w).hash x.1)/\(t.plain=true/\t.led=!w.params.followText "set-order")/\t.place.size*5<t.mask*3/\t.mask<=8191
 is_:∀x∈xs,(TK prog w).is h x.1 x.2
 nd:(xs.map (·.1)).Nodup
def k9 {o:Obj} (e:(TK prog w).is h k b) (j:h.get? a=some o) (l:o.cls=.type "set") (hs:Heap.SameBut a h h'):(TK prog w).is h' k b:=by
 obtain⟨d,c,n,i,h,g,f⟩:=e;have e:b≠a:=by lia
 exact⟨d,c,n,hs.extBut b d e i,h,g,f⟩
def JV{xs:List (yaf×Addr)}{o:Obj}{c:Nat}{Q:Unit->Shared->Prop}(B:s.heap.get? a=some o)(m:o.ExactSet)(C:o.data=.set es ep t)(d:es.toList=xs.map λx=>((TK prog w).hash x.1,Value.ref x.2))
  (T:Tab t (xs.map λx=>(TK prog w).hash x.1)) (O:t.plain=true/\t.led=!w.params.followText "set-order") (ZM:∀x∈xs,(TK prog w).is s.heap x.1 x.2) (M:(xs.map (·.1)).Nodup) (hw:c=4*xs.length) (hn:0<xs.length) (hl:xs.length<=1000)
  (hQ:∀h' ys,Heap.SameBut a s.heap h'->jr prog w h' a ys->ys.length=xs.length->(∀y,y∈ys↔y∈xs)->Q () {s with heap:=h'}):wpAny (model prog w) A (setRelay a c) Q E s:=by
 have G:es.size=xs.length:=by rw[<- VO,d,RH]
 have u:t.fits es.size=true:=by have:=T.fits;rw[RH]at this;rw[G];exact this
 obtain⟨k,l,eb⟩:=above (n:=c) (by lia);have up:sizeAbove c<=max 8 (2*c):=zw 64 8 c;generalize hzs:(xs.map λx=>((TK prog w).hash x.1,x)).toArray=f;have p:f.size=xs.length:=by rw[<- hzs];simp
 have g:∀i:Nat,f[i]?=xs[i]?.map λx=>((TK prog w).hash x.1,x):=λi=>by rw[<- hzs];simp
 have j:∀i:Nat,es[i]?=xs[i]?.map λx=>((TK prog w).hash x.1,Value.ref x.2):=λi=>by rw[<- Uz,d,U0]
 have e:es.map (·.1)=f.map (·.1):=by apply Array.ext_getElem?;intro i;rw[Array.getElem?_map,Array.getElem?_map,g,j];cases xs[i]?<;>rfl
 obtain⟨h,b,k,m1,Y,U,d,n,J,Q,f3,H,N,f6⟩:=L8 l t.finger (t.movedTo (sizeAbove c - 1)) t.led t.plain f (by lia);have er:t.relaid (es.map (·.1)) c=some (h,b):=by rw[e];exact k
 generalize hys:d.map (·.2)=ys;have t:∀l:yag,(l.filterMap λi=>es[i]?)=(l.filterMap λi=>f[i]?).map λz=>(z.1,Value.ref z.2.2):=λl=>by
  induction l with
  |nil=>rfl
  |cons i r ih =>
   cases e:xs[i]? with
   |none=>rw[List.filterMap_cons_none (by rw[j,e];rfl),List.filterMap_cons_none (by rw[g,e];rfl),ih]
   |some x=>rw[List.filterMap_cons_some (by rw[j,e];rfl),List.filterMap_cons_some (by rw[g,e];rfl),VS,ih]
 have k:b.toList.filterMap (λi=>f[i]?)=d:=by rw[<- n];simp
 have n:∀z∈d,z=((TK prog w).hash z.2.1,z.2)/\z.2∈xs:=λz c=>by obtain⟨q,l,j⟩:=XN c;obtain⟨i,_,f⟩:=H q z (by rw[Ul l,j]);rw[g]at f;obtain⟨x,I,e⟩:=Zc.mp f;subst e;exact⟨rfl,UZ I⟩
 have f:(b.filterMap λi=>es[i]?).toList=ys.map λx=>((TK prog w).hash x.1,Value.ref x.2):=by
  have:(b.filterMap λi=>es[i]?).toList=b.toList.filterMap λi=>es[i]?:=by simp
  rw[this,t,k,<- hys,UC];apply zDR;intro z c;obtain⟨e,_⟩:=n z c;show(z.1,Value.ref z.2.2)=((TK prog w).hash z.2.1,Value.ref z.2.2);rw[show z.1=(TK prog w).hash z.2.1 from congrArg (·.1) e]
 have t:d.map (·.1)=ys.map λx=>(TK prog w).hash x.1:=by rw[<- hys,UC];apply zDR;intro z c;obtain⟨e,_⟩:=n z c;exact congrArg (·.1) e
 have L:ys.length=xs.length:=by rw[<- hys,RH,J,p]
 have J:∀y,y∈ys↔y∈xs:=λy=>by
  rw[<- hys];constructor;intro j;obtain⟨z,c,rfl⟩:=S5.mp j;exact(n z c).2;intro j;obtain⟨i,n,T⟩:=XN j;obtain⟨q,r⟩:=N i (by rw[p];exact n);have c:((TK prog w).hash y.1,y)∈d:=by rw[<- k,zC6];refine⟨i,?_,by rw[g,Ul n,T];rfl⟩;rw[<- Uz]at r;exact UZ r
  exact S5.mpr ⟨_,c,rfl⟩
 have n:(ys.map (·.1)).Nodup:=by
  rw[<- hys,UC];refine Y9.mpr λp q c l hpq e=>?_
  rw[RH]at c l;simp at e;obtain⟨i,T,N⟩:=H p d[p] (Ul c);obtain⟨k,r,c⟩:=H q d[q] (Ul l);rw[g]at N c;obtain⟨x,I,H⟩:=Zc.mp N;obtain⟨l,g,d⟩:=Zc.mp c;rw[<- H,<- d]at e;have H:x.1=l.1:=e;obtain⟨l,e⟩:=VE.mp I;obtain⟨d,c⟩:=VE.mp g;have g:i=k:=by
   rcases zCE i k with z|z|z;have:=Y9.mp M i k (by rw[RH];exact l) (by rw[RH];exact d) z;rw[Yd,Yd,e,c]at this;exact absurd H this;exact z;have:=Y9.mp M k i (by rw[RH];exact d) (by rw[RH];exact l) z;rw[Yd,Yd,e,c]at this;exact absurd H.symm this
  subst g;have:=f6 p q i T r
  lia
 refine Rm (YS B C u ?_);dsimp only;rw[if_neg (by rw[To];lia),er];have c:(b.filterMap λi=>es[i]?).size=es.size:=by rw[<- VO,f,RH,L,G]
 refine Rm ?_;show wpAny _ _ (if((b.filterMap λi=>es[i]?).size != es.size)=true then _ else pure (b.filterMap (λi=>es[i]?),h)) _ _ _;rw[if_neg (by rw[c];simp)];refine Rz ?_;refine wpAny_storeSet_of B C ?_ (by rw[c,G,To];lia);have c:(s.heap.update a (Obj.putSet (b.filterMap λi=>es[i]?) h)).get? a=some {o with data:=.set (b.filterMap λi=>es[i]?) (ep+1) h}:=by have:=YO (Obj.putSet (b.filterMap λi=>es[i]?) h) B (by rw[putSet_of _ _ C];rfl);rw[putSet_of _ _ C]at this;exact this
 rw[t]at Q;refine hQ _ ys (zB2 ..) ⟨⟨_,_,ep+1,h,c,m,rfl,f,Q,⟨by rw[U];exact O.1,by rw[Y];exact O.2⟩,by lia,by rw[m1];exact(Nat.sub_le_sub_right (Nat.le_trans up (Nat.max_le.mpr ⟨by decide,by lia⟩)) 1:_<=8192 - 1)⟩,λy j=>k9 (ZM y ((J y).mp j)) B m.1 (zB2 ..),n⟩ L J
def Nt{Q:Bool->Shared->Prop}(hu:A.units<cLine)(S:jr prog w s.heap a xs)(U:(TK prog w).is s.heap k b)(hl:xs.length<1000)
  (hQ:∀h' ys Y,Heap.SameBut a s.heap h'->jr prog w h' a ys->ys.length<=xs.length+1->(∀m,m∈ys.map (·.1)↔m∈xs.map (·.1)∨m=k)->(∀y∈ys,y∈xs∨y=(k,b))->Q Y {s with heap:=h',toks:=s.toks+(TK prog w).draws k}) :
  wpAny (model prog w) A (setAdd a (.ref b)) Q E s:=by
 unfold setAdd;refine VT (Rm ((TK prog w).pyHash hu U ?_));generalize hs':({s with toks:=s.toks+(TK prog w).draws k}:Shared)=f;have hh:f.heap=s.heap:=by rw[<- hs']
 obtain⟨⟨o,n,ep,t,u,i,I,he,T,TB,hlo,O⟩,ZM,nd⟩:=S;rw[<- hh]at u U;have h:∀x∈xs,(TK prog w).is f.heap x.1 x.2:=by rw[hh];exact ZM
 have sz:n.size=xs.length:=by rw[<- VO,he,RH]
 have C:t.fits n.size=true:=by have:=T.fits;rw[RH]at this;rw[sz];exact this
 have psz:t.place.size=xs.length:=by have:=T.len;rw[RH]at this;exact this
 have l:∀(h':Heap) (Y:Bool),Q Y {s with heap:=h',toks:=s.toks+(TK prog w).draws k}->Q Y {f with heap:=h'}:=λh' Y q=>by rw[<- hs'];exact q
 unfold setAddHashed;refine VT ?_;unfold setAddHashedIn;refine Rm (YS u I C ?_);dsimp only;rw[if_neg (by unfold byScan;simp[Value.scannable])];obtain⟨c,ec⟩:=BB t ((TK prog w).hash k);have vl:=wc t.mask ((TK prog w).hash k);unfold setSearch;refine Rm (sM hu U u I he h T (λhin=>?_) (λhno j pre post hv hp hj=>?_) 100000 _ [] c none ec.symm (by simp) (by simp) (by unfold turns at vl;lia) rfl);dsimp only;refine Rz ?_;have e:f={f with heap:=f.heap}:=by cases f;rfl
 rw[e];refine l _ _ (hQ f.heap xs _ (by rw[hh];exact Heap.SameBut.refl a s.heap) ⟨⟨o,n,ep,t,u,i,I,he,T,TB,hlo,O⟩,h,nd⟩ (by lia) (λm=>⟨.inl,λz=>z.elim id λz=>by subst z;exact hin⟩) λy g=>.inl g);dsimp only;refine Rm (YS u I C ?_);dsimp only;obtain⟨T',pl,pm,ps⟩:=T.put hj hv hp (by lia);rw[RH]at pl;have hpp:(t.put j).1.plain=true:=TB.1;have N:(t.put j).1.plain=true/\(t.put j).1.led=!w.params.followText "set-order" := TB;rw[hpp];simp only[if_true];refine Rm (Gg U ?_);simp only[if_true];generalize hp2:(t.put j).2=p at *;generalize ht2:(t.put j).1=r at *;have H:(insertAt n p ((TK prog w).hash k,Value.ref b)).toList=(xs.take p++(k,b)::xs.drop p).map λx=>((TK prog w).hash x.1,Value.ref x.2):=by rw[nR,he,Vy,VS,List.map_take,List.map_drop]
 have B:(xs.take p++(k,b)::xs.drop p).length=xs.length+1:=by
  rw[Vh,Xj,Ye,W5]
  lia
 have L:(insertAt n p ((TK prog w).hash k,Value.ref b)).size=xs.length+1:=by rw[<- VO,H,RH,B]
 have d:∀y,y∈xs.take p++(k,b)::xs.drop p↔y=(k,b)∨y∈xs:=λy=>by
  rw[Ta,Tx];constructor;rintro(z|z|z);exact .inr (zBy z);exact .inl z;exact .inr (zBx z);rintro(z|z);exact .inr (.inl z);rw[<- XB p xs]at z;rcases Ta.mp z with q|q;exact .inl q;exact .inr (.inr q)
 have J:((xs.take p++(k,b)::xs.drop p).map (·.1)).Nodup:=by
  rw[Vy,VS];have n0:=nd;have h0:=hno;rw[<- XB p xs,Vy]at n0 h0;rw[List.nodup_append]at n0 ⊢;obtain⟨n1,n2,n3⟩:=n0;rw[Ta,not_or]at h0;refine⟨n1,zCS.mpr ⟨h0.2,n2⟩,λx hx y g=>?_⟩;rcases Tx.mp g with z|z;intro e;subst e;subst z;exact h0.1 hx;exact n3 x hx y z
 have ZO:∀zs:List (yaf×Addr),(∀y,y∈zs↔y∈xs.take p++(k,b)::xs.drop p)->∀m,m∈zs.map (·.1)↔m∈xs.map (·.1)∨m=k:=λzs hz m=>by
  constructor;intro h1;obtain⟨y,g,e⟩:=S5.mp h1;rcases(d y).mp ((hz y).mp g)with q|q;subst q;exact .inr e.symm;exact .inl (S5.mpr ⟨y,q,e⟩);rintro(h1|h1);obtain⟨y,g,e⟩:=S5.mp h1;exact S5.mpr ⟨y,(hz y).mpr ((d y).mpr (.inr g)),e⟩;subst h1;exact S5.mpr ⟨(m,b),(hz _).mpr ((d _).mpr (.inl rfl)),rfl⟩
 refine Rm (wpAny_storeSet_of u I ?_ (by rw[L,To];lia));have hg:(f.heap.update a (Obj.putSet (insertAt n p ((TK prog w).hash k,Value.ref b)) r)).get? a=some {o with data:=.set (insertAt n p ((TK prog w).hash k,Value.ref b)) (ep+1) r}:=by have:=YO (Obj.putSet (insertAt n p ((TK prog w).hash k,Value.ref b)) r) u (by rw[putSet_of _ _ I];rfl);rw[putSet_of _ _ I]at this;exact this
 have sb:=zB2 f.heap a (Obj.putSet (insertAt n p ((TK prog w).hash k,Value.ref b)) r);generalize hh2:f.heap.update a (Obj.putSet (insertAt n p ((TK prog w).hash k,Value.ref b)) r)=h2 at hg sb ⊢;have T2:Tab r ((xs.take p++(k,b)::xs.drop p).map λx=>(TK prog w).hash x.1):=by rw[Vy,VS,List.map_take,List.map_drop];exact T'
 have M:∀x∈xs.take p++(k,b)::xs.drop p,(TK prog w).is h2 x.1 x.2:=λx hx=>by
  rcases(d x).mp hx with z|z;subst z;exact k9 U u i.1 sb;exact k9 (h x z) u i.1 sb
 by_cases tf:r.tooFull=true;rw[Rv (by simp[tf])];refine Rm (JV (s:={f with heap:=h2}) (xs:=xs.take p++(k,b)::xs.drop p) hg i rfl H T2 N M J ?_ (by lia) (by lia) λh3 ys sb3 S3 yl ym=>?_);rw[B,sz];unfold SetTable.grown;rw[if_neg (by lia)]
 lia
 refine Rz (l h3 true (hQ h3 ys true (by rw[<- hh];exact sb.trans sb3) S3 ?_ (ZO ys ym) λy g=>?_))
 lia
 rcases(d y).mp ((ym y).mp g)with q|q;exact .inr q;exact .inl q;rw[if_neg (by simp[tf])];refine Rz (l h2 true (hQ h2 _ true (by rw[<- hh];exact sb) ⟨⟨_,_,ep+1,r,hg,i,rfl,H,T2,N,?_,by rw[pm];exact O⟩,M,J⟩ (by lia) (ZO _ λ_=>Iff.rfl) λy g=>?_));have G:r.tooFull=false:=by simpa using tf
 unfold SetTable.tooFull SetTable.fill at G;rw[T2.dum]at G;simp at G
 lia
 rcases(d y).mp g with q|q;exact .inr q;exact .inl q
end
def xZ:entryFor table "set.update.loop" = some Builtin.«set.update.loop»:=entryFor_of_tree (by kernel_rfl)
def Hf:plainId "set.update.loop" = true:=by decide +kernel
section
variable{prog:Program}{w:World}{A:Around}{E:yaa}{s:Shared}
def mJ{h':Heap}(c:(TK prog w).is h k b)(e:∀o,h.get? b=some o->h'.get? b=some o):(TK prog w).is h' k b:=by obtain⟨b,a,n,d,r⟩:=c;exact⟨b,a,n,e b d,r⟩
def key_ne {o:Obj} (d:(TK prog w).is h k b) (g:h.get? a=some o) (i:o.cls=.type T) (j:T ≠ "tuple"):b≠a:=λe=>by
 obtain⟨f,c,n,Xc,Yw,_⟩:=d
 lia
theorem jr.ext{h':Heap}(S:jr prog w h a xs)(e:∀o,h.get? a=some o->h'.get? a=some o)(c:∀x∈xs,(TK prog w).is h' x.1 x.2):jr prog w h' a xs:=by obtain⟨⟨o,d,f,t,b,r⟩,_,a⟩:=S;exact⟨⟨o,d,f,t,e o b,r⟩,c,a⟩
def Mf {a I l : Addr} {items : yao} {R : Result -> Shared -> Prop} (hh : A.handled = none) (J : A.in1.units < cLine) (n : a ≠ I) (C : a ≠ l) (e : l ≠ I) (Q : items.size <= 900) (d : Nat -> yaf) :
  ∀ (m i : Nat) (s : Shared) (xs : List (yaf × Addr)), items.size - i = m -> i <= items.size -> (s.heap.IsListIter I l i /\ s.heap.IsList l items) -> jr prog w s.heap a xs -> xs.length <= i →
   (∀ (j : Nat) (v : Value), items[j]? = some v -> ∃ c, v = .ref c /\ (TK prog w).is s.heap (d j) c) -> (∀ k, k ∈ xs.map (·.1) ↔ ∃ j, j < i /\ k = d j) -> (∀ x ∈ xs, ∃ j, j < i /\ items[j]? = some (.ref x.2)) →
   (∀ h' r ys, (∀ b o, b ≠ a -> b ≠ I -> s.heap.get? b = some o -> h'.get? b = some o) -> jr prog w h' a ys -> ys.length <= items.size -> (∀ k, k ∈ ys.map (·.1) ↔ ∃ j, j < items.size /\ k = d j) -> (∀ x ∈ ys, ∃ j, j < items.size /\ items[j]? = some (.ref x.2)) →
    R (.ok (.ret .none)) { s with heap := h', toks := r }) -> codeAny (model prog w) A (.builtin "set.update.loop" ⟨[.ref a, .ref I], []⟩) R s := by
 have W := Walks.list (prog := prog) (w := w) (A := A.in1) (show A.in1.handled = none from hh) I l e items;intro m
 induction m with
 | zero =>
  intro i s xs t H st S q B h g G;have e : i = items.size := by lia
  subst e;refine zCH xZ ?_;refine Rm (W.done s _ _ st λh' r kp => ?_);obtain ⟨⟨o, y, z, _⟩, _⟩ := st;have d : ∀ b o, b ≠ I -> s.heap.get? b = some o -> h'.get? b = some o := λb o f e => kp b o (by simpa using f) e
  refine Rz (G h' r xs (λb o _ f e => d b o f e) (S.ext (λo e => d a o n e) λx p => ?_) q h g);exact mJ (S.is_ x p) λu e => d _ u (key_ne (S.is_ x p) y z (by decide)) e
 | succ m ih =>
  intro i s xs t H st S q B h g G;have H : i < items.size := by lia
  refine zCH xZ ?_;refine Rm (W.item i s _ _ H st λv h' r hv t kp => ?_);obtain ⟨⟨o, y, z, _⟩, _⟩ := id st;have d : ∀ b o, b ≠ I -> s.heap.get? b = some o -> h'.get? b = some o := λb o f e => kp b o (by simpa using f) e
  have m : ∀ {k : yaf} {c : Addr}, (TK prog w).is s.heap k c -> (TK prog w).is h' k c := λq => mJ q λu e => d _ u (key_ne q y z (by decide)) e
  have y : jr prog w h' a xs := S.ext (λo e => d a o n e) λx p => m (S.is_ x p)
  obtain ⟨c, rfl, a⟩ := B i v hv;refine Rm (VT (Nt (s := { s with heap := h', toks := r }) J y (m a) (by lia) λu ys T sb S2 N L J => ?_));obtain ⟨⟨O, _, _, _, r, a, _⟩, _, _⟩ := id y;have M : ∀ {k : yaf} {c : Addr}, (TK prog w).is h' k c -> (TK prog w).is u k c := λq => k9 q r a.1 sb
  have a : u.IsListIter I l (i + 1) /\ u.IsList l items := W.frame _ _ _ t λb f o e => by
   refine sb.extBut b o (λq => ?_) e;subst q;simp at f;rcases f with z | z;exact n z;exact C z
  refine Rz ⟨zDO Hf _, ih (i + 1) _ ys (by rw[Nat.sub_succ,(by assumption:items.size - i=_+1)];rfl) H a S2 (by lia) (λj v a => ?_) (λk => ?_) (λx p => ?_) λu c l f C n r t => ?_⟩;obtain ⟨y, e, q⟩ := B j v a;exact ⟨y, e, M (m q)⟩;rw [L k, h k];constructor;rintro (⟨j, a, e⟩ | e);exact ⟨j, by lia, e⟩;exact ⟨i, by lia, e⟩;rintro ⟨j, a, e⟩;by_cases z : j < i;exact .inl ⟨j, z, e⟩;have : j = i := by lia
  subst this;exact .inr e;rcases J x p with z | z;obtain ⟨j, a, e⟩ := g x z;exact ⟨j, by lia, e⟩;subst z;exact ⟨i, by lia, hv⟩;exact G u c l (λb o a c e => f b o a c (sb.extBut b o a (d b o c e))) C n r t
end
def yY (a:Value):checkTypeCall "set" ⟨[a],[]⟩=pure ():=by kernel_rfl
def AK (a:Value):checkBuiltinCall "set.__new__" ⟨[.type "set", a],[]⟩=pure ():=by kernel_rfl
section
variable{prog:Program}{w:World}{A:Around}{E:yaa}{s:Shared}
def yK(a:Value){Q₁:yaa}
  (h:∀led:Bool,led=(!w.params.followText "set-order")->Q₁ (.ref s.heap.objs.size) {s with heap:=s.heap.push {cls:=.type "set", dict:=none,data:=.set #[] 0 (.fresh 0 0 led)} }) :
  codeAny (model prog w) A (.call (.builtin "set.__new__") ⟨[.type "set", a],[]⟩) (wants Q₁ E) s:=by
 refine codeAny_of_tree ?_;refine Rm (wpAny_of_eq (AK a) (Rz ⟨zDO F.plain_set_new _,zCH F.entry_set_new ?_⟩));unfold Builtin.«set.__new__» Builtin.Frozenset.newClass;have b:=sub_set_self;wp_walk;refine wpAny_askSetting (Rz ?_);refine Rm (wpAny_alloc (Rz ?_));exact Rz (h _ rfl)
def BF {x:Value} {Q:Unit->Shared->Prop} (b:s.TypeIs self "set") (c:Q () s):wpAny M A (checkBuiltinCall "set.__init__" ⟨[self,x],[]⟩) Q E s:=by refine Rm (zCf b sub_set_self ?_);refine Rm (m:=Bind.printed "*" false _ _) (PyProof.Rows.printed_star (self:=self) rfl b λa=>?_);exact Rz c
set_option maxHeartbeats 1000000 in
def FI {x:Value} {Q:yaa} (h:∀led:Bool,led=(!w.params.followText "set-order")->wpAny (model prog w) A.in1.in1 (Builtin.«set.__init__» ⟨[.ref s.heap.objs.size,x],[]⟩)
   (λc b=>match c with|.done f=>wants (λr a=>r=.none/\Q (.ref s.heap.objs.size) a) E (.ok f) b|.again d=>d.quiet=true/\codeAny (model prog w) A.in1 d (wants (λr a=>r=.none/\Q (.ref s.heap.objs.size) a) E) b)
   (λe b=>wants (λr a=>r=.none/\Q (.ref s.heap.objs.size) a) E (.error e) b) {s with heap:=s.heap.push {cls:=.type "set", dict:=none,data:=.set #[] 0 (.fresh 0 0 led)} }) :
  wpAny (model prog w) A (call (.type "set") [x]) Q E s:=by
 obtain⟨c,n,j⟩:=F.called_set.mro;have g:=F.called_set.made;have i:=F.called_set.sub;refine wpAny_call (codeAny_of_tree ?_);show wpAny _ _ (callAny (.type "set") _) _ _ _;refine Rz ⟨Code.quiet_builtin _ (by decide +kernel),zCH F.entry_type_call ?_⟩;rw[Around.under_plain (weight_type_call_type "set" [x] []) rfl];have q:=F.called_set.notType;have p:=F.called_set.canCreate;have l:=yY x
 repeat (any_goals (first|assumption|wp_step))
 refine codeAny_mono (yK (E:=E) x (Q₁:=λc d=>∃led:Bool,led=(!w.params.followText "set-order")/\c=.ref s.heap.objs.size/\d={s with heap:=s.heap.push {cls:=.type "set", dict:=none,data:=.set #[] 0 (.fresh 0 0 led)} }) λled b=>⟨led,b,rfl,rfl⟩) λr d d=>?_
 cases r with
 |error e=>exact d
 |ok f =>
  cases f with
  |ret c =>
   obtain⟨led,b,rfl,rfl⟩:=d;have c:Shared.TypeIs {s with heap:=s.heap.push {cls:=.type "set", dict:=none,data:=.set #[] 0 (.fresh 0 0 led)} } (.ref s.heap.objs.size) "set" := ⟨_,Vi _ rfl,rfl⟩;have k:=F.called_set.init.lookup;have m:=F.called_set.init.bind (.ref s.heap.objs.size)
   repeat (any_goals (first|assumption|wp_step))
   refine codeAny_mono (codeAny_call_builtin (R:=wants (λr a=>r=.none/\Q (.ref s.heap.objs.size) a) E) F.called_set.init.plain F.entry_set_init (BF c (h led b))) λb a c=>?_
   cases b with
   |error e=>exact c
   |ok a =>
    cases a with
    |ret r =>
     obtain⟨rfl,o⟩:=c
     repeat (any_goals (first|assumption|wp_step))
    |_=>exact c.elim
  |_=>exact d.elim
def LP (led:Bool) (a:led=!w.params.followText "set-order"):jr prog w (s.heap.push {cls:=.type "set", dict:=none,data:=.set #[] 0 (.fresh 0 0 led)}) s.heap.objs.size []:=by
 refine⟨⟨_,#[],0,_,Vi _ rfl,⟨rfl,rfl,rfl⟩,rfl,rfl,?_,⟨rfl,a⟩,by show 0*5<7*3;decide,by show 7<=8191;decide⟩,by simp,by simp⟩;refine⟨⟨2,rfl⟩,λa b _ b=>absurd b (zDV _),(λx b=>by cases b),rfl,rfl,UE _,λa x h b=>?_⟩
 simp_all
def Pz:isSubtype (.type "list") (.type "set")=pure false:=by kernel_rfl
def Py:isSubtype (.type "list") (.type "frozenset")=pure false:=by kernel_rfl
def call_set_list{Q:yaa}(hh:A.handled=none)(m:A.in1.in1.in1.units<cLine)(e:s.heap.IsList l items)(n:items.size<=900)(h:Nat->yaf)
  (p:∀(j:Nat) (v:Value),items[j]?=some v->∃c,v=.ref c/\(TK prog w).is s.heap (h j) c)
  (r:∀h' g ys,(∀b o,s.heap.get? b=some o->h'.get? b=some o)->jr prog w h' s.heap.objs.size ys->ys.length<=items.size->(∀k,k∈ys.map (·.1)↔∃ j,j<items.size/\k=h j)->(∀x∈ys,∃j,j<items.size/\items[j]?=some (.ref x.2)) →
   Q (.ref s.heap.objs.size) {s with heap:=h',toks:=g}):wpAny (model prog w) A (call (.type "set") [.ref l]) Q E s:=by
 refine FI λled d=>?_
 have t:(s.heap.push {cls:=.type "set", dict:=none,data:=.set #[] 0 (.fresh 0 0 led)}).get? s.heap.objs.size=some {cls:=.type "set", dict:=none,data:=.set #[] 0 (.fresh 0 0 led)}:=Vi _ rfl;have i:l<s.heap.objs.size:=by obtain⟨o,a,_⟩:=e;exact SH a
 have f:Shared.TypeIs {s with heap:=s.heap.push {cls:=.type "set", dict:=none,data:=.set #[] 0 (.fresh 0 0 led)} } (.ref l) "list" := by obtain⟨o,a,k,_⟩:=e;exact⟨o,T5 _ a,k⟩
 have k:=LP (prog:=prog) (w:=w) (s:=s) led d;have d:(s.heap.push {cls:=.type "set", dict:=none,data:=.set #[] 0 (.fresh 0 0 led)}).IsList l items:=e.push _;have Zx:(s.heap.push {cls:=.type "set", dict:=none,data:=.set #[] 0 (.fresh 0 0 led)}).objs.size=s.heap.objs.size+1:=zCw ..;have a:∀b o,s.heap.get? b=some o->(s.heap.push {cls:=.type "set", dict:=none,data:=.set #[] 0 (.fresh 0 0 led)}).get? b=some o:=λb o e=>T5 _ e
 unfold Builtin.«set.__init__» noKeywords
 wp_walk
 refine wpAny_of_eq Pz ?_;refine zCf f Py ?_;simp only[zCM,if_false];refine Rm (wpAny_typeOf f ?_);rw[if_neg (by decide)];generalize s.heap.push {cls:=.type "set", dict:=none,data:=.set #[] 0 (.fresh 0 0 led)}=h1 at *;refine Rm (wpAny_pyIter_list d ?_);refine Rm (wpAny_runValue ?_);have f:s.heap.objs.size≠h1.objs.size:=by lia
 refine Mf (A:=A.in1.in1) (I:=h1.objs.size) (l:=l) (items:=items) hh m f (Yg i) (Uw (by rw[Zx];exact zDG i)) n h items.size 0 {s with heap:=h1.push {cls:=.type "list_iterator", data:=.fields #[.ref l,.int 0 0]} } [] (by lia) (UE _) ⟨⟨_,Vi _ rfl,rfl,rfl⟩,d.push _⟩ (k.ext (λo e=>T5 _ e) (by simp)) (SF _) (λj v i=>?_) (by simp) (by simp) λh' g ys kp S d f h=>?_
 obtain⟨c,e,q⟩:=p j v i;exact⟨c,e,mJ q λo e=>T5 _ (a c o e)⟩;refine Rz (Rz ⟨rfl,r h' g ys (λb o e=>?_) S d f h⟩);have c:b<s.heap.objs.size:=SH e;exact kp b o (Uw c) (Uw (by rw[Zx];exact zDG c)) (T5 _ (a b o e))
end
theorem uO{a:Type}:∀(l:List a) (i:Nat) (h:i<l.length),(l[i]::l.eraseIdx i).Perm l
 |[],_,h=>absurd h (by simp_all)
 |x::l,0,_=>List.Perm.refl _
 |x::l,i+1,h=>by have r:=uO l i (by simp_all);exact(List.Perm.swap x _ _).trans (List.Perm.cons x r)
theorem C1{b:Type}(next:Nat->Nat):∀(fuel k:Nat) (left:List b) (a:Array b),left.length=fuel->(pickOrder.go next fuel k left a).toList.Perm (a.toList++left)
 |0,k,left,a,e=>by
  have:left=[]:=by grind
  subst this;simp[pickOrder.go]
 |fuel+1,k,left,a,e=>by
  have b:0<left.length:=by lia
  have c:next k % left.length<left.length:=Zh _ b;unfold pickOrder.go;rw[Ul c];have r:=C1 next fuel (k+1) (left.eraseIdx (next k % left.length)) (a.push left[next k % left.length]) (by grind);refine r.trans ?_;grind [Array.toList_push,List.append_assoc,List.perm_append_left_iff,uO]
theorem Hc{a:Type}(next:Nat->Nat)(xs:Array a):(pickOrder next xs).toList.Perm xs.toList:=by have:=C1 next xs.size 0 xs.toList #[] (by simp);simpa [pickOrder]using this
def DV(a:jq xs):below xs 0=0:=by
 obtain⟨d,b,c⟩:=jK a 0;rcases Nat.eq_zero_or_pos (below xs 0)with z|z;exact z;have:=b 0 z;lia
def DU(b:jq xs){a j:Nat}(h:xs[a]?=some j):below xs (j+1)=a+1:=by
 obtain⟨e,c,d⟩:=jK b (j+1);have f:xs.getD a 0=j:=by simp_all
 rcases zCE (below xs (j+1)) (a+1)with z|z|z;grind;exact z;have q:=c (a+1) z;have c:a+1<xs.size:=by lia
 have:=b a (a+1) (by lia) c
 lia
def dE:Slot "set_iterator" "__next__" "set_iterator.__next__" :=
 .of (owner := "set_iterator") (n := "__next__") (by kernel_rfl) (by decide +kernel) (by decide +kernel) (by decide +kernel) (.inl (by decide +kernel)) (by kernel_rfl)
def qH:Slot "set_iterator" "__iter__" "set_iterator.__iter__" :=
 .of (owner := "set_iterator") (n := "__iter__") (by kernel_rfl) (by decide +kernel) (by decide +kernel) (by decide +kernel) (.inl (by decide +kernel)) (by kernel_rfl)
def pf:entryFor table "set_iterator.__next__" = some Builtin.«set_iterator.__next__»:=entryFor_of_tree (by kernel_rfl)
def yL:entryFor table "set_iterator.__iter__" = some Builtin.«dict_keyiterator.__iter__»:=entryFor_alias (id' := "dict_keyiterator.__iter__") (by kernel_rfl) rfl (by decide +kernel) (by kernel_rfl)
def Ak:entryFor table "set.__iter__" = some Builtin.«frozenset.__iter__»:=entryFor_alias (id' := "frozenset.__iter__") (by kernel_rfl) rfl (by decide +kernel) (by kernel_rfl)
def pM (a:Value):argsOk "set_iterator.__next__" ⟨[a],[]⟩:=by kernel_rfl
def zD (a:Value):argsOk "set_iterator.__iter__" ⟨[a],[]⟩:=by kernel_rfl
noncomputable def eU (w:World) (a:Addr) (es:Array (Int×Value)) (b:Nat):Array (Int×Value):=if w.params.followText "set-order" = true then pickOrder (w.params.setOrder a b) es else es
def sU(w:World)(a:Addr)(es:Array (Int×Value))(b:Nat):(eU w a es b).toList.Perm es.toList:=by unfold eU;grind [Hc]
theorem mB(w:World)(a:Addr)(es:Array (Int×Value))(b:Nat):(eU w a es b).size=es.size:=by
 have:=(sU w a es b).length_eq
 simp_all
def wA(w:World)(h:Heap)(I a:Addr)(t:SetTable)(n c i:Nat):Prop :=
 ∃ o b,h.get? I=some o/\o.cls=.type "set_iterator" /\ o.data=.fields #[.int (b:Nat) 0,.int (i:Nat) 0,.ref a,.int (n:Nat) 0,.int (c:Nat) 0]/\(w.params.followText "set-order" = false->below t.place b=i)
section
variable{prog:Program}{w:World}{A:Around}{E:yaa}{s:Shared}
def xq (x:wA w s.heap I a t n ep i):s.TypeIs (.ref I) "set_iterator" := by obtain⟨o,_,a,b,_⟩:=x;exact⟨o,a,b⟩
def vK{a:Addr}{o:Obj}{es:Array (Int×Value)}{d b i:Nat}{t:SetTable}{hs:yaf}{Q:Option (Value×Nat)->Shared->Prop}(e:s.heap.get? a=some o)(g:o.data=.set es d t)(T:Tab t hs)(f:hs.length=es.size)
  (TB:t.plain=true/\t.led=!w.params.followText "set-order") (j:w.params.followText "set-order" = false->below t.place b=i)
  (k:∀z,(eU w a es d)[i]?.map (·.2)=z.map (·.1)->(∀p,z=some p->w.params.followText "set-order" = false->below t.place p.2=i+1)->Q z s):wpAny (model prog w) A (setNext a b i d) Q E s:=by
 have b:t.fits es.size=true:=by rw[<- f];exact T.fits
 refine Rm (YS e g b ?_);show wpAny _ _ (if w.params.followText "set-order" = true then _ else _) _ _ _;by_cases c:w.params.followText "set-order" = true;rw[Rv c];simp;refine Rm (Rm (YS e g b ?_));show wpAny _ _ (if w.params.followText "set-order" = true then _ else _) _ _ _;rw[Rv c];refine Rm (wpAny_askSetting (Rz ?_));refine Rz (k _ ?_ ?_);unfold eU;rw[Rv c];show _=Option.map _ (Option.map _ (pickOrder (w.params.setOrder a d) es)[i]?);cases(pickOrder (w.params.setOrder a d) es)[i]?<;>rfl
 lia
 have a:w.params.followText "set-order" = false:=by lia
 rw[if_neg c];split;rename_i h;have l:(!t.plain && decide (es.size > 1))=true:=h
 lia
 refine Rm ?_;show wpAny _ _ (if(!t.led && !es.isEmpty)=true then unsupported "set:maker-not-led" else pure ()) _ _ _;rw[if_neg (by lia)];refine Rz (Rz (k _ ?_ ?_));unfold eU;rw[if_neg c,j a];cases e:es[i]? with
 |none=>rfl
 |some z =>
  have b:i<es.size:=(by grind);have c:t.place[i]?=some (t.place[i]'(by rw[T.len,f];exact b)):=by simp_all
  rw[c];rfl
 intro p b _;rw[j a]at b;split at b;rename_i j e;cases b;exact DU T.rise e
 lia
def MZ{o:Obj}{x:Int×Value}{Q:yan->Shared->Prop}(k:s.heap.get? a=some o)(n:o.data=.set es ep t)(T:Tab t hs)(l:hs.length=es.size)
  (H:t.plain=true/\t.led=!w.params.followText "set-order") (st:wA w s.heap I a t es.size ep i) (u:(eU w a es ep)[i]?=some x)
  (C:∀h',wA w h' I a t es.size ep (i+1)->Heap.SameBut I s.heap h'->Q (some x.2) {s with heap:=h'}):wpAny (model prog w) A (pyNext (.ref I)) Q E s:=by
 obtain⟨J,h,c,f,b,B⟩:=id st;have q:=xq st;have d:t.fits es.size=true:=by rw[<- l];exact T.fits
 refine Rm (zCY (zBS (name:=Str.ofString "__next__") q dE (YU dE q pf ?_ (pM _))));refine Rm (m:=slotArgs "__next__" 0 ⟨[.ref I],[]⟩) (Rz ?_);refine Rm (wpAny_fieldsOf c b ?_);refine Rm (Rm (YS k n d (Rz ?_)));simp;refine Rm (vK k n T l H B λz j y=>?_);rw[u]at j;cases z with
 |none=>cases j
 |some p =>
  obtain⟨v,e⟩:=p;have G:x.2=v:=by simp_all
  subst G;refine Rm (zDK c b (by simp) ?_);have r:=YO (Obj.mapFields (·.setIfInBounds 0 (rawInt (e:Nat)))) c (Obj.isFreed_of_fields (Obj.data_mapFields b _));have g:=Obj.data_mapFields b (·.setIfInBounds 0 (rawInt (e:Nat)));refine Rm (zDK r g (by simp) ?_);refine Rz ⟨_,rfl,Rz (C _ ⟨_,e,YO _ r (Obj.isFreed_of_fields (Obj.data_mapFields g _)),(Obj.cls_mapFields ..).trans ((Obj.cls_mapFields ..).trans f),?_,y _ rfl⟩ ((zB2 ..).trans (zB2 ..)))⟩;rw[Obj.data_mapFields g];simp[rawInt]
def Pu{o:Obj}{Q:yan->Shared->Prop}(hh:A.handled=none)(f:s.heap.get? a=some o)(h:o.data=.set es ep t)(T:Tab t hs)(g:hs.length=es.size)
  (p:t.plain=true/\t.led=!w.params.followText "set-order") (st:wA w s.heap I a t es.size ep i) (j:(eU w a es ep)[i]?=none)
  (n:∀h',Heap.ExtBut I s.heap h'->Q none {s with heap:=h'}):wpAny (model prog w) A (pyNext (.ref I)) Q E s:=by
 obtain⟨q,e,b,k,c,l⟩:=id st;have i:=xq st;have d:t.fits es.size=true:=by rw[<- g];exact T.fits
 refine Rm (zCY (zBS (name:=Str.ofString "__next__") i dE (YU dE i pf ?_ (pM _))));refine Rm (m:=slotArgs "__next__" 0 ⟨[.ref I],[]⟩) (Rz ?_);refine Rm (wpAny_fieldsOf b c ?_);refine Rm (Rm (YS f h d (Rz ?_)));simp;refine Rm (vK f h T g p l λz d r=>?_);rw[j]at d;cases z with
 |some p=>cases d
 |none =>
  refine Rm (zDK b c (by simp) ?_);refine Rm ?_;refine Rm (m:=firstArgMember _ _) (wpAny_of_eq (a:=Value.none) (by first|rfl|(rfl)) ?_);refine Z5 ?_ (by size_fits);refine Rm (wpAny_handled ?_);rw[show A.in1.handled=none from hh];refine Rm (Rz (wpAny_throw ?_));refine Rm (zCf (T := "StopIteration") (b:=true) ⟨_,Vi _ rfl,rfl⟩ isSubtype_stop ?_);exact Rz (n _ (((zB2 ..).extBut.push _).push _))
def M3{Q:yaa}(st:wA w s.heap I a t n ep i)(h:Q (.ref I) s):wpAny (model prog w) A (pyIter (.ref I)) Q E s:=by have a:=xq st;refine wpAny_pyIter_slot a qH (YU qH a yL ?_ (zD _));exact Rz ⟨_,rfl,"set_iterator", _,a,dE.lookup,h⟩
def HV (hh:A.handled=none) (I a:Addr) (e:a≠I) {o:Obj} (g:o.data=.set es ep t) (T:Tab t hs) (f:hs.length=es.size) (j:t.plain=true/\t.led=!w.params.followText "set-order") :
  Walks prog w A I [I,a] [I] es.size (λi v=>∃x,(eU w a es ep)[i]?=some x/\x.2=v) (λi h=>wA w h I a t es.size ep i/\h.get? a=some o) where
 sub:=by grind
 frame:=λ_ _ _ st d=>⟨by obtain⟨⟨o,b,c,r⟩,_⟩:=st;exact⟨o,b,d I (by simp) o c,r⟩,by simp_all⟩
 item:=λi s Q E k st c=>by
  have b:i<(eU w a es ep).size:=by simp_all [mB]
  refine MZ st.2 g T f j st.1 (zBK b) λd b sb=>?_
  exact c _ d s.toks (by simp_all) ⟨b,sb.extBut a o e st.2⟩ λb o a e=>sb.extBut b o (by grind) e
 done:=λs Q E st c=>Pu hh st.2 g T f j st.1 (by simp_all [mB]) λd sb=>c d s.toks λb o a e=>sb b o (by grind) e
 self:=λ_ _ _ _ st c=>M3 st.1 c
def Ji {o:Obj} {Q:yaa} (c:s.heap.get? a=some o) (b:o.cls=.type "set") (d:o.data=.set es e t) (T:Tab t hs) (f:hs.length=es.size) (TB:t.plain=true)
  (g:Q (.ref s.heap.objs.size) {s with heap:=s.heap.push {cls:=.type "set_iterator", data:=.fields #[.int 0 0,.int 0 0,.ref a,.int (es.size:Nat) 0,.int (e:Nat) 0]} }):wpAny (model prog w) A (pyIter (.ref a)) Q E s:=by
 have e:s.TypeIs (.ref a) "set" := ⟨o,c,b⟩;have b:t.fits es.size=true:=by rw[<- f];exact T.fits
 refine wpAny_pyIter_slot e F.slot_set_iter (YU F.slot_set_iter e Ak ?_ (F.args_set_iter_1 _));refine Rm (m:=Builtin.Frozenset.slot0 "__iter__" ⟨[.ref a],[]⟩) (Rz ?_);refine Rm (Rm (Rm (YS c d b (Rz (Rz ?_)))));refine Rm (Rm (YS c d b ?_));refine Rm (Rm (wpAny_askSetting (Rz (Rz ?_))));split;rename_i h;have i:(!(w.params.followText "set-order") && (!t.plain && decide (es.size > 1)))=true:=h
 simp_all
 refine Rm (Rz ?_);refine Rm (Rm (YS c d b (Rz ?_)));refine Rm (Z5 ?_ (by size_fits));exact Rz ⟨_,rfl,"set_iterator", _,⟨_,Vi _ rfl,rfl⟩,dE.lookup,g⟩
def BG {o:Obj} {Q:yad->Shared->Prop} (hh:A.handled=none) (g:s.heap.get? a=some o) (e:o.cls=.type "set") (m:o.data=.set es j t) (T:Tab t hs) (l:hs.length=es.size) (p:t.plain=true/\t.led=!w.params.followText "set-order") (B:es.size<=1000)
  (q:∀d (c:yad),(∀b o,s.heap.get? b=some o->d.heap.get? b=some o)->d.gens=s.gens->d.drawn=s.drawn->d.os=s.os->s.heap.objs.size<=d.heap.objs.size->c=(eU w a es j).toList.map (·.2)->Q c d):wpAny (model prog w) A (collect (.ref a)) Q E s:=by
 unfold collect;have k:a<s.heap.objs.size:=SH g;refine Rm (wpAny_runValue (zCH F.entry_proto_collect ?_));refine Rm (Z5 ?_);refine Rz ⟨zDO F.plain_list_iadd _,zCH F.entry_list_iadd ?_⟩;show wpAny _ A.in1 (Builtin.List.listExtendWith (.ref s.heap.objs.size) (.ref a) (.ref s.heap.objs.size)) _ _ _;generalize hH:s.heap.push {cls:=.type "list", data:=.seq ([]:yad).toArray}=H;have u:H.objs.size=s.heap.objs.size+1:=by rw[<- hH,zCw]
 have f:H.get? a=some o:=hH ▸ T5 _ g;have c:Shared.TypeIs {s with heap:=H} (.ref a) "set" := ⟨o,f,e⟩;refine Rm (wpAny_typeOf c ?_);have h:Builtin.List.listSameRef (.ref s.heap.objs.size) (.ref a)=false:=by have:s.heap.objs.size≠a:=Yg k;simp[Builtin.List.listSameRef,this]
 have g:(Value.type "set" == Value.type "list")=false:=by decide
 have c:(Value.type "set" == Value.type "tuple")=false:=by decide
 simp only[h,g,c,Bool.or_false,zCM,if_false];refine Rm (Ji f e m T l p.1 ?_);generalize hH2:H.push {cls:=.type "set_iterator", data:=.fields #[.int 0 0,.int 0 0,.ref a,.int (es.size:Nat) 0,.int (j:Nat) 0]}=h;have c:Shared.TypeIs {s with heap:=h} (.ref a) "set" := ⟨o,hH2 ▸ T5 _ f,e⟩;refine Rm (VT ?_);refine Rm (zC8 c F.slot_set_len.lookup ?_)
 wp_delta
 refine Rm (zCf (T := "set") (b:=true) c (by rw[isSubtype_type];kernel_rfl) ?_);refine Rm (wpAny_typeOf c ?_);refine Rz ?_;rw[Rv (by decide)];refine Rm (YZ ?_);refine Rm ?_;have e:h.get? s.heap.objs.size=some {cls:=.type "list", data:=.seq ([]:yad).toArray}:=hH2 ▸ T5 _ (hH ▸ Vi _ rfl);refine Rm (zC9 e rfl ?_);have c:=YO (Obj.mapSeq (·.push Value.none)) e rfl;refine zC9 (hz:=by seq_fits) c rfl ?_;have g:=YO (Obj.mapSeq (·.pop)) c rfl;have n:∀b o,b≠s.heap.objs.size->h.get? b=some o->((h.update s.heap.objs.size (Obj.mapSeq (·.push Value.none))).update s.heap.objs.size (Obj.mapSeq (·.pop))).get? b=some o :=
  λb o i e=>(Za _ _ (Ne.symm i)).trans ((Za _ _ (Ne.symm i)).trans e)
 have r:h.get? H.objs.size=some {cls:=.type "set_iterator", data:=.fields #[.int 0 0,.int 0 0,.ref a,.int (es.size:Nat) 0,.int (j:Nat) 0]}:=hH2 ▸ Vi _ rfl;have h:H.objs.size≠s.heap.objs.size:=by lia
 have c:a≠H.objs.size:=by lia
 have j:s.heap.objs.size ∉ [H.objs.size,a]:=by grind
 have W:=HV (prog:=prog) (w:=w) (A:=A.in1) hh H.objs.size a c m T l p;refine Rz ⟨zDO F.plain_extend_loop _,codeAny_extend_loopS W.toS (by grind [sizeLine_eq]) _ j _ es.size 0 _ _ _ rfl (UE _)
  ⟨⟨_,0,n _ _ h r,rfl,rfl,λ_=>DV T.rise⟩,n _ _ (Uw k) (hH2 ▸ T5 _ f)⟩ g (ItemsOf.nil _) λd f C g c a=>?_⟩
 refine Rm (wpAny_load c ?_);have h:∀b o,s.heap.get? b=some o->d.heap.get? b=some o:=λb j e=>by have z:=SH e;refine g.heap b j (λi=>?_) (by grind [Nat.ne_of_lt,Heap.get?_push_of_some]);grind
 refine Rz (q d f.toList h g.gens g.drawn g.os (UD (SH c)) ?_);obtain⟨y,x⟩:=a;apply List.ext_getElem?;grind [Array.getElem?_toList,List.getElem?_map,Array.getElem?_eq_getElem,Array.getElem?_eq_none,mB]
end
end SW
namespace SS
open PySem PySem.W PyProof.Rows
section
variable{r:Nat->Nat}{n:Nat}
def v(r:Nat->Nat)(p:Array Nat)(k:Nat):Nat:=r (p.getD k 0)
def D(r:Nat->Nat)(p:Array Nat)(k:Nat):Prop:=∀i j,i<=j->j<k->v r p j<=v r p i
structure Ok(n:Nat)(p:Array Nat):Prop where
 perm:p.Perm (List.toArray (List.range n))
end
end SS
namespace SW
open PySem PySem.SetTable ST PySem.W PyProof.Rows
noncomputable def lexLt:yaf->yaf->Bool
 |_,[]=>false
 |[],_::_=>true
 |a::x,b::y=>if a=b then lexLt x y else decide (a<b)
theorem qi:∀x,lexLt x x=false
 |[]=>rfl
 |a::x=>by unfold lexLt;rw[Rv rfl];exact qi x
theorem sI:∀x y z,lexLt x y=true->lexLt y z=true->lexLt x z=true
 |_,[],_,h,_=>by unfold lexLt at h;lia
 |_,_::_,[],_,h=>by unfold lexLt at h;lia
 |[],_::_,_::_,_,_=>rfl
 |a::x,b::y,c::z,e,d=>by
  unfold lexLt at e d ⊢;split at e<;>split at d;rename_i g f;rw[Rv (g.trans f)];exact sI x y z e d
  all_goals lia
theorem lQ:∀x y,lexLt x y=false->x=y∨lexLt y x=true
 |[],[],_=>.inl rfl
 |[],_::_,h=>by unfold lexLt at h;lia
 |_::_,[],_=>.inr rfl
 |a::x,b::y,h=>by
  unfold lexLt at h ⊢;split at h;rename_i e
  simp_all [lQ]
  lia
theorem zM{a:Type}(p q:a->Bool):∀l:List a,(∀z∈l,p z=true->q z=true)->(∃z∈l,p z=false/\q z=true)->l.countP p<l.countP q
 |[],_,⟨_,h,_⟩=>by cases h
 |x::l,h,⟨z,a,c,b⟩=>by
  rw[List.countP_cons,List.countP_cons];have d:l.countP p<=l.countP q:=List.countP_mono_left (by grind);rcases Tx.mp a with y|y
  lia
  have ih:=zM p q l (by grind) ⟨z,y,c,b⟩;grind
def rank(K:List (yaf))(x:yaf):Nat:=K.countP λy=>lexLt y x
def C4{K:List (yaf)}{x y:yaf}(g:x∈K)(f:y∈K):decide (rank K x<rank K y)=lexLt x y:=by
 have e:∀a b,a∈K->lexLt a b=true->rank K a<rank K b:=λa b d h=>zM _ _ K (λz _ c=>sI z a b c h) ⟨a,d,qi a,h⟩
 grind [lQ]
section
variable{prog:Program}{w:World}{A:Around}{E:yaa}{s:Shared}
def OQ{g:Bool}{Q:Bool->Shared->Prop}:∀{k f:yaf} {j d:yad} (i:Nat),PySem.ItemsAre (intKind prog w) k j->PySem.ItemsAre (intKind prog w) f d->g=decide (k.length<f.length)->Q (lexLt k f) s->KatLex prog w A b g Q (j.zip d) i s:=by
 intro k f j d i h
 induction h generalizing f d i with
 |nil =>
  intro m l q;cases m with
  |nil=>rw[l];exact q
  |cons _ _=>rw[l];exact q
 |@cons a u x j p z ih =>
  intro m l q;cases m with
  |nil=>rw[l];exact q
  |@cons c r y d o n =>
   obtain⟨t,rfl⟩:=Value.isInt_shape p;obtain⟨B,rfl⟩:=Value.isInt_shape o;refine kat_cons (wpAny_eqBool_int ?_);by_cases e:a=c;subst e;rw[show(a==a)=true by simp];refine kat_yes (ih (i+1) n ?_ ?_)
   simp_all
   unfold lexLt at q
   lia
   rw[show(a==c)=false by simp[e]];unfold lexLt at q;rw[if_neg e]at q;refine kat_no ?_;cases(b && i==0)with
   |true=>exact oneLt_int q
   |false=>exact kat_one _ _ (PySem.P.lt_int q)
def FK{Q:Bool->Shared->Prop}(e:(TK prog w).is s.heap k x)(a:(TK prog w).is s.heap k' y)(q:Q (lexLt k k') s):wpAny (model prog w) A (keyLt' (tuples' b) (.ref x) (.ref y)) Q E s:=by
 obtain⟨o,d,n,g,r,i,f⟩:=e;obtain⟨m,c,p,l,Yw,j,b⟩:=a;have a:∀{k:yaf} {e:yad},PySem.ItemsAre (intKind prog w) k e->k.length=e.length:=λh=>by
  induction h with
  |nil=>rfl
  |cons _ _ ih=>simp[ih]
 refine kat_lt g i l j (OQ 0 f b ?_ q);rw[a f,a b,VO,VO]
theorem Dl:∀{cs:yae} (K:Nat->yaf) (a:Nat),(∀(j:Nat) (c:Addr),cs[j]?=some c->(TK prog w).is s.heap (K (a+j)) c/\K (a+j) ≠ [])->∃e,KatTups s.heap (cs.map Value.ref) e/\e.length=cs.length/\∀v∈e,∃n t,v=Value.int n t
 |[],_,_,_=>⟨[],KatTups.nil,rfl,by grind⟩
 |c::cs,K,a,h=>by
  obtain⟨e,t,l,q⟩:=Dl (cs:=cs) K (a+1) λj c b=>by
   have:=h (j+1) c b
   lia
  obtain⟨⟨o,b,n,g,j,i,d⟩,f⟩:=h 0 c rfl;generalize K a=p at d f;generalize hL:b.toList=L at d;cases d with
  |nil=>lia
  |@cons a u x k c m =>
   obtain⟨b,rfl⟩:=Value.isInt_shape c;refine⟨.int a b::e,KatTups.cons g j i ?_ t,by simp[l],λv hv=>?_⟩;rw[<- Uz,hL];rfl;grind
def BK{cs:yae}{K:Nat->yaf}{Q:SortKind->Shared->Prop}(TN:0<cs.length)(h:∀(j:Nat) (c:Addr),cs[j]?=some c->(TK prog w).is s.heap (K j) c/\K j ≠ [])(q:Q (tuples' true) s):wpAny (model prog w) A (keyKind' (cs.map Value.ref).toArray) Q E s:=by
 obtain⟨e,t,l,b⟩:=Dl (s:=s) (cs:=cs) K 0 λj c a=>by rw[YX];exact h j c a
 refine kat_kind (T:=.type "int") t (by lia) (λv hv=>?_) (by decide) q;obtain⟨n,d,rfl⟩:=b v hv;exact Looks.of_pure rfl
def AW{a b:Type}{f:a->b}{l m:List b}(h:l.Perm m):∀xs:List a,m=xs.map f->∃zs:List a,zs.Perm xs/\l=zs.map f:=by
 induction h with
 |nil=>simp_all
 |cons a _ ih =>
  intro xs e;cases xs with
  |nil=>cases e
  |cons x xs =>
   injection e with e1 e2;obtain⟨zs,p,q⟩:=ih xs e2;exact⟨x::zs,p.cons x,by grind⟩
 |swap a b l =>
  intro xs e
  match xs,e with
  |[],e=>cases e
  |[_],e=>simp at e
  |x::y::xs,e =>
   exact⟨y::x::xs,List.Perm.swap x y xs,by grind⟩
 |trans _ _ b a =>
  intro xs e;obtain⟨zs,p,q⟩:=a xs e;obtain⟨a,d,c⟩:=b zs q;exact⟨a,d.trans p,c⟩
end
end SW
namespace TS
open PySem PyProof.Rows
def gal:Bool->Keyed->Array Keyed->Nat->Nat->Nat->StateT SortSt Sem (Option Nat):=sortPriv% PySem.Builtin.gallop
def mLo:Array Keyed->Array Keyed->StateT SortSt Sem (Array Keyed):=sortPriv% PySem.Builtin.mergeLo
def mHi:Array Keyed->Array Keyed->StateT SortSt Sem (Array Keyed):=sortPriv% PySem.Builtin.mergeHi
def Q7:Nat->StateT SortSt Sem Unit:=sortPriv% PySem.Builtin.setMinGallop
structure Yn(M:Model)(A:Around)(E:yaa)(s:Shared)(r:Keyed->Nat)(Mem:Keyed->Prop)(k0:SortKind):Prop where
 lt:∀(x y:Keyed) (st:SortSt) (Q:Option Bool->SortSt->Prop),Mem x->Mem y->kindOf st=k0->Q (some (decide (r x<r y))) st->wpS M A E s (lt' x y) Q st
def QO(B:Nat->Bool)(n:Nat):Prop:=∀i j,i<=j->j<n->B j=true->B i=true
structure Cut(B:Nat->Bool)(n k:Nat):Prop where
 le:k<=n
 lo:∀i,i<k->B i=true
 hi:∀i,k<=i->i<n->B i=false
inductive GV (st:SortSt) (P:Nat->Nat->Prop):Option (Option Nat)×Nat×Nat->SortSt->Prop
 |mk {l u:Nat} (p:P l u):GV st P (none,l,u) st
structure G1(B:Nat->Bool)(n hint:Nat)(D:Nat->Prop)(l u:Nat):Prop where
 a1:hint+l<n
 a2:B (hint+l)=true
 a3:l<u
 a4:D u
structure G2(B:Nat->Bool)(hint:Nat)(D:Nat->Prop)(l u:Nat):Prop where
 a1:l<=hint
 a2:B (hint - l)=false
 a3:l<u
 a4:D u
structure G3(B:Nat->Bool)(n x l u:Nat):Prop where
 a1:u<=n
 a2:∀i,i<l->i<n->B i=true
 a3:∀i,u<=i->i<n->B i=false
 a4:l<=u
 a5:u+x<=n+l
section
variable{M:Model}{A:Around}{E:yaa}{s:Shared}{r:Keyed->Nat}{Mem:Keyed->Prop}{k0:SortKind}
def aF{a b:Type}{c:Prop} [Decidable c] {x y:StateT a Sem b}{Q:b->a->Prop}{st:a}(e:c->wpS M A E s x Q st)(d:¬c->wpS M A E s y Q st):wpS M A E s (if c then x else y) Q st:=by lia
def eV{a:Array Keyed}{i:Nat}{x:Keyed}{Q:Keyed->SortSt->Prop}{st:SortSt}(h:a[i]?=some x)(q:Q x st):wpS M A E s (elem' a i) Q st:=by rw[elem'_eq,h];exact So q
def wpS_ltAt{st:SortSt}{i j:Nat}{x y:Keyed}{Q:Option Bool->SortSt->Prop}(C:Yn M A E s r Mem k0)(c:kindOf st=k0)(e:(arrOf st)[i]?=some x)(d:(arrOf st)[j]?=some y)(b:Mem x)(a:Mem y)
  (h:Q (some (decide (r x<r y))) st):wpS M A E s (ltAt' i j) Q st:=by
 refine Sk (wpS_get ?_);exact Sk (eV e (Sk (eV d (C.lt x y st Q b a c h))))
def bey(r:Keyed->Nat)(left:Bool)(a x:Keyed):Bool:=if left=true then decide (r x<r a)else !decide (r a<r x)
def Gd{a:Array Keyed}{base n hint:Nat}{st:SortSt}{B:Nat->Bool}{Q:Option Nat->SortSt->Prop}(C:Yn M A E s r Mem k0)(f:kindOf st=k0)(hh:hint<n)(d:Mem key)
  (g:∀i,i<n->∃x,a[base+i]?=some x/\Mem x/\bey r left key x=B i) (b:QO B n) (h:∀k,Cut B n k->Q (some k) st):wpS M A E s (gal left key a base n hint) Q st:=by
 have j:∀(i:Nat) (R:Option Bool->SortSt->Prop),i<n->R (some (B i)) st->wpS M A E s (do
   let x←elem' a (base+i)
   if left=true then lt' x key else do
    let z←lt' key x
    pure (Option.map (λx=>!x) z)) R st:=λi R a q=>by
  obtain⟨x,w,c,e⟩:=g i a;refine Sk (eV w ?_);unfold bey at e;cases left with
  |true =>
   rw[Rv rfl]at e ⊢;exact C.lt x key st R c d f (by rw[e];exact q)
  |false =>
   rw[if_neg (by simp)]at e ⊢;exact Sk (C.lt key x st _ d c f (So (by rw[<- e]at q;exact q)))
 refine Sk (j hint _ hh ?_)
 suffices key:∀lo a:Nat,G3 B n 0 lo a->wpS M A E s _ Q st by
  cases hb:B hint;refine Sk (Xm (Xk (I:=λx=>GV st (G2 B hint (x<·))) (Q:=GV st (G2 B hint λu=>hint<u∨(u<=hint/\B (hint - u)=true))) ?_ ?_ ⟨UE _,hb,Nat.one_pos,Nat.one_pos⟩) ?_);rintro x z e _ w @⟨l,u,g⟩;dsimp only;refine aF (λc=>So ⟨g.a1,g.a2,g.a3,.inl c⟩) λc=>?_
  have c:=zCc c;refine Sk (j (hint - u) _ (Xh (Xl _ _) hh) ?_);dsimp only;cases hc:B (hint - u)with
  |true =>
   rw[Rv rfl];exact So ⟨g.a1,g.a2,g.a3,.inr ⟨c,hc⟩⟩
  |false =>
   rw[if_neg (by simp)];have:=g.a4;exact So ⟨c,hc,by lia,by lia⟩
  rintro z e ⟨g⟩;exact⟨g.a1,g.a2,g.a3,.inl (by have:=g.a4;lia)⟩;rintro z e @⟨l,u,g⟩;dsimp only;have k:G3 B n 0 (hint+1 - min u (hint+1)) (hint - l):=by
   obtain⟨o,q,p,t⟩:=g;have m:=Sd (Xl hint l) (UD hh);have F:∀i,hint - l<=i->i<n->B i=false:=λi a f=>by
    cases hc:B i with
    |false=>rfl
    |true=>rw[b _ i a f hc]at q;cases q
   rcases t with c|⟨c,d⟩;rw[Nat.min_eq_right c,Nat.sub_self];exact⟨m,λ_ a=>absurd a (zDV _),F,UE _,Sd m (VP _ _)⟩;rw[Yt (Nat.le_succ_of_le c),Nat.succ_sub c];exact⟨m,λi a f=>b i _ (Yr a) (Xh (Xl _ _) hh) d,F,Nat.sub_lt_sub_left (Tt p c) p,Sd m (VP _ _)⟩
  generalize hint+1 - min u (hint+1)=lo at k ⊢;generalize hint - l=a at k ⊢;exact key lo a k;refine Sk (Xm (Xk (I:=λx=>GV st (G1 B n hint (x<·))) (Q:=GV st (G1 B n hint λu=>n - hint<=u∨(hint+u<n/\B (hint+u)=false))) ?_ ?_ ⟨hh,hb,Nat.one_pos,Nat.one_pos⟩) ?_);rintro x z e _ w @⟨l,u,g⟩;dsimp only;refine aF (λc=>So ⟨g.a1,g.a2,g.a3,.inl c⟩) λc=>?_
  have c:hint+u<n:=by lia
  refine Sk (j (hint+u) _ c ?_);dsimp only;cases hc:B (hint+u)with
  |false =>
   rw[Rv (by rfl)];exact So ⟨g.a1,g.a2,g.a3,.inr ⟨c,hc⟩⟩
  |true =>
   rw[if_neg (by simp)];have:=g.a4;exact So ⟨c,hc,by lia,by lia⟩
  rintro z e ⟨g⟩;exact⟨g.a1,g.a2,g.a3,.inl (by have:=g.a4;lia)⟩;rintro z e @⟨l,u,g⟩;dsimp only;have k:G3 B n 0 (hint+l+1) (hint+min u (n - hint)):=by
   obtain⟨o,q,p,t⟩:=g;have T:∀i,i<hint+l+1->i<n->B i=true:=λi a _=>b i (hint+l) (Yr a) o q
   rcases t with c|⟨c,d⟩;rw[Nat.min_eq_right c,Nat.add_sub_of_le (UD hh)];exact⟨SF _,T,λi a f=>absurd f (Xa.mpr a),o,VP _ _⟩;rw[Yt (Nat.le_sub_of_add_le' (UD c))];refine⟨UD c,T,λi a f=>?_,Nat.add_lt_add_left p hint,Sd (UD c) (VP _ _)⟩;cases hc:B i with
   |false=>rfl
   |true=>rw[b _ i a f hc]at d;cases d
  generalize hint+l+1=lo at k ⊢;generalize hint+min u (n - hint)=a at k ⊢;exact key lo a k
 intro lo a g;refine Sk (Xm (Xk (I:=λx=>GV st (G3 B n x)) (Q:=GV st λ_ u=>Cut B n u) ?_ ?_ ⟨g⟩) ?_);rintro x z e _ w @⟨l,u,g⟩;dsimp only;refine aF (λc=>So ⟨g.a1,λi a=>g.a2 i (Tt a c) (Tt a g.a1),g.a3⟩) λc=>?_
 obtain⟨o,q,p,t,k⟩:=g;have c:=zDM c;have d:=Nat.add_lt_of_lt_sub' (Nat.div_lt_self (zDH c) (by decide:1<2));have g:l<=l+(u - l) / 2:=VP _ _;generalize l+(u - l) / 2=m at d g ⊢;have f:=Tt d o;refine Sk (j m _ f ?_);dsimp only;cases hb:B m with
 |true =>
  rw[Rv rfl];exact So ⟨o,λi a _=>b i m (Yr a) f hb,p,d,by lia⟩
 |false =>
  rw[if_neg (by simp)];refine So ⟨UD f,q,λi a f=>?_,g,by lia⟩;cases hc:B i with
  |false=>rfl
  |true=>rw[b _ i a f hc]at hb;cases hb
 rintro z e ⟨o,q,p,t,k⟩;have:_<=_:=Nat.le_of_add_le_add_left (Sd (XD (zCy _ _)) (Nat.zero_max n ▸ k));exact⟨o,λi a=>q i (Tt a this) (Tt a o),p⟩;rintro z e ⟨c⟩;exact So (h _ c)
def P4(h:bey r left key x=true):r x<=r key:=by
 unfold bey at h;cases left with
 |true=>exact UD (XO h)
 |false =>
  refine zCc λe=>?_
  rw[U5 e]at h;cases h
def PY(h:bey r left key x=false):r key<=r x:=by
 unfold bey at h;cases left with
 |true=>exact zCc (of_decide_eq_false h)
 |false =>
  refine UD (zDM λe=>?_);rw[decide_eq_false (Xa.mpr e)]at h;cases h
def iu{a:Array Keyed}{base n hint:Nat}{st:SortSt}{Q:Option Nat->SortSt->Prop}(C:Yn M A E s r Mem k0)(e:kindOf st=k0)(hh:hint<n)(c:Mem key){g:List Keyed}
  (q:g.length=n) (o:∀i,i<n->a[base+i]?=g[i]?) (f:∀x∈g,Mem x) (hs:g.Pairwise λx y=>r x<=r y)
  (h:∀k,k<=n->(∀x∈g.take k,r x<=r key)->(∀x∈g.drop k,r key<=r x)->Q (some k) st):wpS M A E s (gal left key a base n hint) Q st:=by
 have d:∀i,i<n->∃x,g[i]?=some x/\x∈g:=λi b=>⟨g[i]'(by omega),Ul (by omega),YT _⟩
 refine Gd (B:=λi=>match g[i]? with|some x=>bey r left key x|none=>false) C e hh c (λi b=>?_) (λi j U2 l a=>?_) λk c=>h k c.le (λx g=>P4 (left:=left) ?_) λx g=>PY (left:=left) ?_
 obtain⟨x,e,m⟩:=d i b;exact⟨x,by rw[o i b];exact e,f x m,by rw[e]⟩;dsimp only at a ⊢;obtain⟨x,e,_⟩:=d i (by omega);obtain⟨y,f,_⟩:=d j l;rw[e];rw[f]at a;dsimp only at a ⊢;by_cases c:i=j;subst c;rw[e]at f;cases f;exact a;have p:r x<=r y:=by obtain⟨d,rfl⟩:=VE.mp e;obtain⟨h,rfl⟩:=VE.mp f;exact Y9.mp hs i j d h (by omega)
 unfold bey at a ⊢;cases left with
 |true =>
  rw[Rv rfl]at a ⊢;have:=XO a;exact U5 (by omega)
 |false =>
  rw[if_neg (by simp)]at a ⊢;have:¬r key<r y:=by simpa using a
  simp;omega
 obtain⟨i,b,e⟩:=List.mem_take_iff_getElem.mp g;have:=c.lo i (by omega);rw[Ul (by omega)]at this;rw[<- e];exact this;obtain⟨i,b⟩:=List.mem_iff_getElem?.mp g;rw[zC5]at b;obtain⟨d,_⟩:=VE.mp b;have:=c.hi (k+i) (by omega) (by omega);rw[b]at this;exact this
end
structure MI(R:Keyed->Keyed->Prop)(T o a b:List Keyed):Prop where
 p:(o++(a++b)).Perm T
 so:o.Pairwise R
 sa:a.Pairwise R
 sb:b.Pairwise R
 oa:∀x∈o,∀y∈a,R x y
 ob:∀x∈o,∀y∈b,R x y
section
variable{R:Keyed->Keyed->Prop}{T o a b:List Keyed}
def MI.left{a1 c:List Keyed}(h:MI R T o (a1++c) b)(q:∀x∈a1,∀y∈b,R x y):MI R T (o++a1) c b where
 p:=by have:=h.p;grind
 so:=YQ.mpr ⟨h.so,(YQ.mp h.sa).1,λx e y d=>h.oa x e y (by simp_all)⟩
 sa:=(YQ.mp h.sa).2.1
 sb:=h.sb
 oa:=λx e y d=>by
  rcases Ta.mp e with c|c;exact h.oa x c y (by simp_all);exact(YQ.mp h.sa).2.2 x c y d
 ob:=λx e y d=>by
  rcases Ta.mp e with c|c;exact h.ob x c y d;exact q x c y d
def MI.swap(h:MI R T o a b):MI R T o b a:=⟨(List.Perm.append_left _ List.perm_append_comm).trans h.p,h.so,h.sb,h.sa,h.ob,h.oa⟩
def MI.right{b1 c:List Keyed}(h:MI R T o a (b1++c))(q:∀y∈b1,∀x∈a,R y x):MI R T (o++b1) a c:=(h.swap.left q).swap
def MI.last(h:MI R T o a b)(q:∀y∈b,∀x∈a,R y x):(o++b++a).Pairwise R/\(o++b++a).Perm T:=by
 have c:MI R T o a (b++[]):=by simp_all
 have m:=c.right q;refine⟨YQ.mpr ⟨m.so,m.sa,m.oa⟩,?_⟩;have:=m.p
 simp_all
def MI.done(h:MI R T o a b)(q:a=[]∨b=[]):(o++a++b).Pairwise R/\(o++a++b).Perm T:=h.swap.last λx d y c=>by grind
def MI.start(h:a.Pairwise R)(h':b.Pairwise R):MI R (a++b) [] a b:=⟨List.Perm.refl _,.nil,h,h',λ_ z=>(by cases z),λ_ z=>(by cases z)⟩
end
structure fF(st st':SortSt):Prop where
 k:kindOf st'=kindOf st
 a:arrOf st'=arrOf st
 p:pendingOf st'=pendingOf st
 f:failedOf st'=failedOf st
theorem fF.refl(st:SortSt):fF st st:=⟨rfl,rfl,rfl,rfl⟩
section
variable{M:Model}{A:Around}{E:yaa}{s:Shared}
def o7{st a:SortSt}{Q:Unit->SortSt->Prop}(h:fF a st)(q:∀b,fF a b->Q () b):wpS M A E s (Q7 g) Q st:=by exact Z7 (q _ ⟨h.k,h.a,h.p,h.f⟩)
end
section
variable{M:Model}{A:Around}{E:yaa}{s:Shared}{r:Keyed->Nat}{Mem:Keyed->Prop}{k0:SortKind}
inductive DG (l:List Keyed) (i:Nat) (t:Keyed->Prop):Prop
 |mk (x:Keyed) (h:l[i]?=some x) (e:t x) (m:x∈l)
def eJ{l:List Keyed}{i:Nat}(h:i<l.length):DG l i λx=>l.drop i=x::l.drop (i+1):=⟨l[i],Ul h,zBZ h,YT h⟩
def mI{l:List Keyed}{x:Keyed}(hs:(l.drop i).Pairwise λx y=>r x<=r y)(e:l.drop i=x::l.drop (i+1)):∀y∈l.drop i,r x<=r y:=by simp_all
section
variable{R:Keyed->Keyed->Prop}{T X:List Keyed}{a o:Array Keyed}{i:Nat}
def MI.pA{w:Keyed}(h:MI R T o.toList (a.toList.drop i) X)(e:a.toList.drop i=w::a.toList.drop (i+1))(q:∀y∈X,R w y):MI R T (o.push w).toList (a.toList.drop (i+1)) X:=by rw[e]at h;rw[zCW];exact h.left (a1:=[w]) λz b x c=>by simp_all
def MI.pB{w:Keyed}(h:MI R T o.toList X (a.toList.drop i))(e:a.toList.drop i=w::a.toList.drop (i+1))(q:∀y∈X,R w y):MI R T (o.push w).toList X (a.toList.drop (i+1)):=(h.swap.pA e q).swap
def MI.eA(h:MI R T o.toList (a.toList.drop i) X)(k:Nat)(q:∀x∈(a.toList.drop i).take k,∀y∈X,R x y):MI R T (o++a.extract i (i+k)).toList (a.toList.drop (i+k)) X:=by
 have e:a.toList.drop i=(a.toList.drop i).take k++a.toList.drop (i+k):=by rw[<- zDZ,XB]
 have t:(a.extract i (i+k)).toList=(a.toList.drop i).take k:=by rw[Z3,zCP,zBj]
 rw[zB1,t];rw[e]at h;exact h.left q
def MI.eB(h:MI R T o.toList X (a.toList.drop i))(k:Nat)(q:∀x∈(a.toList.drop i).take k,∀y∈X,R x y):MI R T (o++a.extract i (i+k)).toList X (a.toList.drop (i+k)):=(h.swap.eA k q).swap
end
structure Mid(r:Keyed->Nat)(a b:Array Keyed)(o:Array Keyed)(i j:Nat):Prop where
 m:MI (λx y=>r x<=r y) (a.toList++b.toList) o.toList (a.toList.drop i) (b.toList.drop j)
 hi:i+1<a.size
 hj:j<b.size
def Mid.sz(h:Mid r a b o i j):i+j<a.size+b.size:=Nat.add_lt_add (Ys h.hi) h.hj
inductive VL {γ:Type} (st:SortSt) (M:Array Keyed->Nat->Nat->Prop) (P:Nat->Nat->Prop):Option (Array Keyed)×Array Keyed×Nat×Nat×γ->SortSt->Prop
 |mk {o:Array Keyed} {i j:Nat} {g:γ} {st':SortSt} (L:fF st st') (m:M o i j) (p:P i j):VL st M P (none,o,i,j,g) st'
inductive VW {β:Type} (st:SortSt) (R:Array Keyed->Prop):Option (Array Keyed)×β->SortSt->Prop
 |mk {w:Array Keyed} {q:β} {st':SortSt} (L:fF st st') (h:R w):VW st R (some w,q) st'
def Res(r:Keyed->Nat)(T:List Keyed)(z:Array Keyed):Prop:=z.toList.Pairwise (λx y=>r x<=r y)/\z.toList.Perm T
def zf{a b:Type}{x:StateT a Sem b}{Q:b->a->Prop}{st:a}(h:∀K:b->a->Prop,(∀z u,Q z u->K z u)->wpS M A E s x K st):wpS M A E s x Q st:=h Q λ_ _ q=>q
def HY{c:Type}{a b:Array Keyed}{i j:Nat}{x y:Keyed}{f:Option Bool->StateT SortSt Sem c}{Q:c->SortSt->Prop}{st:SortSt}(C:Yn M A E s r Mem k0)(g:kindOf st=k0)(h:a[i]?=some x)(k:b[j]?=some y)(e:Mem x)(d:Mem y)(q:wpS M A E s (f (some (decide (r x<r y)))) Q st):wpS M A E s (elem' a i >>= λx=>elem' b j >>= λy=>lt' x y >>= f) Q st:=Sk (eV h (Sk (eV k (Sk (C.lt _ _ _ _ e d g q)))))
def cS{b:Type}{a:Array Keyed}{i:Nat}{x:Keyed}{f:Keyed->StateT SortSt Sem b}{Q:b->SortSt->Prop}{st:SortSt}(h:a[i]?=some x)(q:wpS M A E s (f x) Q st):wpS M A E s (elem' a i >>= f) Q st:=Sk (eV h q)
def Ju{a b:Array Keyed}{st:SortSt}{Q:Array Keyed->SortSt->Prop}(C:Yn M A E s r Mem k0)(hk:kindOf st=k0)(ma:∀x∈a.toList,Mem x)(mb:∀x∈b.toList,Mem x)(sa:a.toList.Pairwise λx y=>r x<=r y)(sb:b.toList.Pairwise λx y=>r x<=r y)
  (a0:0<a.size) (k:0<b.size) (u:∀x,a.toList.drop (a.size - 1)=[x]->∀y∈b.toList,r y<=r x) (w:∀y,b[0]?=some y->∀x∈a.toList,r y<=r x)
  (h:∀z p,Res r (a.toList++b.toList) z->fF st p->Q z p):wpS M A E s (mLo a b) Q st:=by
 have la:a.toList.length=a.size:=rfl;have lb:b.toList.length=b.size:=rfl;obtain⟨d,n⟩:∃f,f=λ(o:Array Keyed) (i j:Nat)=>o++a.extract i a.size++b.extract j b.size:=⟨_,rfl⟩
 obtain⟨c,g⟩:∃f,f=λ(o:Array Keyed) (i j:Nat)=>o++b.extract j b.size++a.extract i a.size:=⟨_,rfl⟩
 have B:∀(o:Array Keyed) (i j:Nat),MI (λx y=>r x<=r y) (a.toList++b.toList) o.toList (a.toList.drop i) (b.toList.drop j)->(a.size<=i∨b.size<=j)->Res r (a.toList++b.toList) (d o i j):=λo i j m q=>by subst n;have:=m.done (q.imp (λq=>List.drop_eq_nil_of_le (by lia)) λq=>List.drop_eq_nil_of_le (by lia));unfold Res;dsimp only;rw[zB1,zB1,Z3,Z3,zCP,zCP,XJ (by rw[W5];lia),XJ (by rw[W5];lia)];exact this
 have J:∀(o:Array Keyed) (i j:Nat),MI (λx y=>r x<=r y) (a.toList++b.toList) o.toList (a.toList.drop i) (b.toList.drop j)->i+1=a.size->Res r (a.toList++b.toList) (c o i j):=λo i j m q=>by
  subst g;obtain⟨x,_,e,_⟩:=eJ (l:=a.toList) (i:=i) (by lia);rw[show a.toList.drop (i+1)=[]from List.drop_eq_nil_of_le (by lia)]at e;have:=m.last λy t z G=>by rw[e,VF]at G;rw[G];exact u x (by rw[show a.size - 1=i by rw[<- q];rfl];exact e) y (zBx t)
  unfold Res;dsimp only;rw[zB1,zB1,Z3,Z3,zCP,zCP,XJ (by rw[W5];lia),XJ (by rw[W5];lia)];exact this
 obtain⟨d,f,c,my0⟩:=eJ (l:=b.toList) (i:=0) k;have q:b[0]?=some d:=by rw[<- Uz];exact f
 have k:MI (λx y=>r x<=r y) (a.toList++b.toList) (#[d]:Array Keyed).toList (a.toList.drop 0) (b.toList.drop 1):=by
  have m:=MI.start sa sb;rw[show b.toList=[d]++b.toList.drop 1 from c]at m;have:=m.right λy t x f=>by rw[VF.mp t];exact w d q x f
  rw[<- show b.toList=[d]++b.toList.drop 1 from c]at this;exact this
 refine Sk (wpS_lift (YZ ⟨rfl,?_⟩));refine cS q ?_;rw[<- n,<- g];refine aF (λc=>So (h _ _ (B _ 0 1 k (.inr (by have:=T8.mp c;lia))) (fF.refl _))) λg=>?_
 refine aF (λc=>So (h _ _ (J _ 0 1 k (T8.mp c)) (fF.refl _))) λq=>?_
 have c1':1≠b.size:=λe=>g (T8.mpr e)
 have Y:0+1≠a.size:=λe=>q (T8.mpr e)
 have g:Mid r a b #[d] 0 1:=⟨k,by lia,by lia⟩;refine Sk (wpS_get ?_);refine Sk (Xm (Xk (I:=λx=>VL st (Mid r a b) λi j=>x<=i+j) (Q:=VW st (Res r (a.toList++b.toList))) ?_ ?_ ⟨fF.refl _,g,by lia⟩) ?_)
 ·rintro x z YJ _ f @⟨o,i,j,g,_,u,d,O⟩;refine Sk (Xm (Xk (I:=λx=>VL st (Mid r a b) λn k=>i+j+x<=n+k) (Q:=λz p=>VW st (Res r (a.toList++b.toList)) z p∨VL st (Mid r a b) (λn k=>i+j+1<=n+k) z p) ?_ ?_ ⟨u,d,SF _⟩) ?_);clear d O f;rintro x z Sn _ f @⟨o,n,k,u,_,L2,d,O⟩;dsimp only;refine zf λK j=>?_
  obtain⟨y,t,ey,my⟩:=eJ (l:=b.toList) (i:=k) d.hj;obtain⟨w,N,ew,mw⟩:=eJ (l:=a.toList) (i:=n) (Ys d.hi);rw[Uz]at t N;refine HY C (L2.k.trans hk) t N (mb y my) (ma w mw) ?_;have hb:=mI d.m.sb ey;have L:=mI d.m.sa ew;refine aF (λc=>?_) λc=>?_
  have U:=XO c;refine cS t ?_;have T:MI (λx y=>r x<=r y) (a.toList++b.toList) (o.push y).toList (a.toList.drop n) (b.toList.drop (k+1)):=by have m:=d.m;rw[ey]at m;rw[zCW];exact m.right (b1:=[y]) λz G x f=>by rw[VF.mp G];exact Sd (UD U) (L x f)
  refine aF (λq=>So (j _ _ (.inl ⟨L2,B _ _ _ T (.inr (by have:=T8.mp q;lia))⟩))) λq=>?_
  have Y:k+1≠b.size:=λe=>q (T8.mpr e)
  have H:Mid r a b (o.push y) n (k+1):=⟨T,d.hi,YR d.hj Y⟩;exact aF (λ_=>So (j _ _ (.inr ⟨L2,H,by lia⟩))) λ_=>So (j _ _ ⟨L2,H,by lia⟩)
  have U:¬r y<r w:=λe=>c (U5 e)
  refine cS N ?_;have T:MI (λx y=>r x<=r y) (a.toList++b.toList) (o.push w).toList (a.toList.drop (n+1)) (b.toList.drop k):=by have m:=d.m;rw[ew]at m;rw[zCW];exact m.left (a1:=[w]) λz G x f=>by rw[VF.mp G];exact Sd (Xa.mp U) (hb x f)
  refine aF (λq=>So (j _ _ (.inl ⟨L2,J _ _ _ T (T8.mp q)⟩))) λq=>?_
  have Y:n+1+1≠a.size:=λe=>q (T8.mpr e)
  have H:Mid r a b (o.push w) (n+1) k:=⟨T,YR d.hi Y,d.hj⟩;exact aF (λ_=>So (j _ _ (.inr ⟨L2,H,by lia⟩))) λ_=>So (j _ _ ⟨L2,H,by lia⟩)
  rintro z Sn ⟨L2,d,O⟩;exact absurd (Tt d.sz (Sd (Nat.le_max_right 0 _) (Sd (Nat.le_add_left _ _) O))) (zCr _)
  ·rintro z Sn (⟨L2,hr⟩| @⟨o',n,k,u,_,L2,H,hp'⟩);exact So ⟨L2,hr⟩
   ·refine Sk (wpS_lift (YZ ⟨rfl,?_⟩));refine Sk (Xm (Xk (I:=λx=>VL st (Mid r a b) λq m=>n+k+x<=q+m) (Q:=λz p=>VW st (Res r (a.toList++b.toList)) z p∨VL st (Mid r a b) (λq m=>n+k<=q+m) z p) ?_ ?_ ⟨L2,H,SF _⟩) ?_)
    ·clear H hp';rintro x z Wu _ hx3 @⟨o,I,m,k,_,T,d,hp2⟩;dsimp only;refine zf λK j=>?_
     obtain⟨y,t,ey,my⟩:=eJ (l:=b.toList) (i:=m) d.hj;rw[Uz]at t;have hb:=mI d.m.sb ey;have ZS:=d.hi;have ZU:=d.hj
     suffices key:∀g3:Nat,wpS M A E s _ _ Wu by
      refine aF (λ_=>?_) λ_=>?_
      rotate_left
      generalize k.1=g3;exact key g3;exact key _
     intro g3;refine Sk (o7 T λVq q=>?_)
     suffices key:∀(c u:Nat) (o3:Array Keyed),MI (λx y=>r x<=r y) (a.toList++b.toList) o3.toList (a.toList.drop u) (b.toList.drop m)->u+1<a.size->I<=u->(∀x∈a.toList.drop u,r y<=r x)->wpS M A E s _ K Vq by
      refine cS t (Sk (iu C (q.k.trans hk) (zDH (Ys ZS)) (mb y my) (g:=a.toList.drop I) (by rw[W5];rfl) (λn hn=>by rw[zC5,Uz]) (λx f=>ma x (zBx f)) d.m.sa λk i lo Y=>?_));rw[zDZ]at Y;refine aF (λck=>?_) λck=>?_
      have Q:=d.m.eA k λx f z G=>Sd (lo x f) (hb z G)
      refine aF (λc3=>So (j _ _ (.inl ⟨q,J _ _ _ Q (T8.mp c3)⟩))) λc3=>?_
      refine aF (λc4=>So (j _ _ (.inl ⟨q,B _ _ _ Q (.inl (XD (T8.mp c4).symm))⟩))) λc4=>?_
      have h3:I+k+1<a.size:=YR (YR (zDJ (UD (Ys ZS)) i) λe=>c4 (T8.mpr e)) λe=>c3 (T8.mpr e)
      have i:=VP I k;generalize o++a.extract I (I+k)=o3 at Q ⊢;generalize I+k=u at Q h3 i Y ⊢;exact key k u o3 Q h3 i Y;have k:=zDB ck;exact key _ _ _ d.m ZS (SF _) (by rw[k]at Y;exact Y)
     intro c u o3 Q h3 i o;refine cS t ?_;have t:=Q.pB ey o;refine aF (λc=>So (j _ _ (.inl ⟨q,B _ _ _ t (.inr (XD (T8.mp c).symm))⟩))) λc=>?_
     have U:m+1≠b.size:=λe=>c (T8.mpr e)
     obtain⟨w,N,ew,mw⟩:=eJ (l:=a.toList) (Ys h3);rw[Uz]at N
     suffices key:∀(c l:Nat) (I:Array Keyed),MI (λx y=>r x<=r y) (a.toList++b.toList) I.toList (a.toList.drop u) (b.toList.drop l)->l<b.size->m<l->(∀x∈b.toList.drop l,r w<=r x)->wpS M A E s _ K Vq by
      refine cS N (Sk (iu C (q.k.trans hk) (zDH (YR ZU U)) (ma w mw) (g:=b.toList.drop (m+1)) (by rw[W5];rfl) (λn hn=>by rw[zC5,Uz]) (λx f=>mb x (zBx f)) t.sb λg C w n=>?_));have L:=mI t.sa ew;rw[zDZ]at n;refine aF (λu=>?_) λu=>?_
      have o:=t.eB g λx f z G=>Sd (w x f) (L z G)
      refine aF (λw=>So (j _ _ (.inl ⟨q,B _ _ _ o (.inr (XD (T8.mp w).symm))⟩))) λw=>?_
      have f:m+1+g<b.size:=YR (zDJ ZU C) λe=>w (T8.mpr e)
      have i:m<m+1+g:=VP (m+1) g;generalize o3.push y++b.extract (m+1) (m+1+g)=I at o ⊢;generalize m+1+g=l at o f i n ⊢;exact key g l I o f i n;have k:=zDB u;exact key _ _ _ t (YR ZU U) (zCz _) (by rw[k]at n;exact n)
     intro c l I o f hj4 n;refine cS N ?_;have i:=o.pA ew n;refine aF (λg=>So (j _ _ (.inl ⟨q,J _ _ _ i (T8.mp g)⟩))) λg=>?_
     have c:Mid r a b _ _ _:=⟨i,YR h3 λe=>g (T8.mpr e),f⟩;exact aF (λ_=>So (j _ _ (.inr ⟨q,c,by lia⟩))) λ_=>So (j _ _ ⟨q,c,by lia⟩)
    rintro z Wu ⟨T,d,O⟩;exact .inr ⟨T,d,by lia⟩;rintro z Wu (⟨T,hr⟩| ⟨T,H,hp'⟩);exact So ⟨T,hr⟩;exact Sk (o7 T λVq q=>So ⟨q,H,by lia⟩)
 rintro z p ⟨L,d,O⟩;exact absurd (Tt d.sz (Sd (Nat.le_max_right 0 _) O)) (zCr _);rintro z p ⟨L,hr⟩;exact So (h _ _ hr L)
def iT{l:List Keyed}{n:Nat}(h0:0<n)(h:n<=l.length):DG l (n - 1) λx=>(l.take n).reverse=x::(l.take (n - 1)).reverse:=by obtain⟨m,rfl⟩:=Nat.exists_eq_add_of_le' h0;refine⟨l[m]'(by lia),Ul (by lia),?_,YT _⟩;rw[List.take_succ_eq_append_getElem (by lia),zC2];rfl
def mH{l:List Keyed}{x:Keyed}(hs:((l.take n).reverse).Pairwise λx y=>r y<=r x)(e:(l.take n).reverse=x::(l.take (n - 1)).reverse):∀y∈(l.take n).reverse,r y<=r x:=by simp_all
def Fb{l:List Keyed}(h:l.reverse.Pairwise λx y=>r y<=r x):l.Pairwise λx y=>r x<=r y:=by grind
def wK{l:List Keyed}(h:l.Pairwise λx y=>r x<=r y):l.reverse.Pairwise λx y=>r y<=r x:=by grind
section
variable{R:Keyed->Keyed->Prop}{T X:List Keyed}{a o:Array Keyed}{n:Nat}
def MI.qA{w:Keyed}(h:MI R T o.toList (a.toList.take n).reverse X)(e:(a.toList.take n).reverse=w::(a.toList.take (n - 1)).reverse)(q:∀y∈X,R w y):MI R T (o.push w).toList (a.toList.take (n - 1)).reverse X:=by rw[e]at h;rw[zCW];exact h.left (a1:=[w]) λz b x c=>by simp_all
def MI.qB{w:Keyed}(h:MI R T o.toList X (a.toList.take n).reverse)(e:(a.toList.take n).reverse=w::(a.toList.take (n - 1)).reverse)(q:∀y∈X,R w y):MI R T (o.push w).toList X (a.toList.take (n - 1)).reverse:=(h.swap.qA e q).swap
def MI.fA(h:MI R T o.toList (a.toList.take n).reverse X){k:Nat}(c:k<=n)(q:∀x∈(a.toList.take n).drop k,∀y∈X,R x y):MI R T (o++(a.extract k n).reverse).toList (a.toList.take k).reverse X:=by
 have e:(a.toList.take n).reverse=((a.toList.take n).drop k).reverse++(a.toList.take k).reverse:=by grind [List.reverse_append,List.take_append_drop,List.take_take,Nat.min_eq_left]
 have t:(a.extract k n).reverse.toList=((a.toList.take n).drop k).reverse:=by rw[Array.toList_reverse,Z3,List.extract_eq_drop_take,List.drop_take]
 rw[zB1,t];rw[e]at h;exact h.left λx b=>q x (by grind)
def MI.fB(h:MI R T o.toList X (a.toList.take n).reverse){k:Nat}(b:k<=n)(q:∀x∈(a.toList.take n).drop k,∀y∈X,R x y):MI R T (o++(a.extract k n).reverse).toList X (a.toList.take k).reverse:=(h.swap.fA b q).swap
end
structure Mir(r:Keyed->Nat)(a b:Array Keyed)(o:Array Keyed)(i j:Nat):Prop where
 m:MI (λx y=>r y<=r x) (a.toList++b.toList) o.toList (a.toList.take i).reverse (b.toList.take j).reverse
 h0:0<i
 hi:i<=a.size
 h1:1<j
 hj:j<=b.size
def D7{x i j t:Nat}(h0:0<i)(h:x+i+j<=t):x+1+(i - 1)+j<=t:=by rw[zCp x,Nat.add_sub_cancel' h0];exact h
def N6{x i j t:Nat}(h0:0<j)(h:x+i+j<=t):x+1+i+(j - 1)<=t:=by rw[Nat.add_right_comm x 1 i,zCp (x+i),Nat.add_sub_cancel' h0];exact h
def dw{x i j t:Nat}(h:x+i+j<=t):0+i+j<=t:=Sd (zCT (zCT (UE x) _) _) h
inductive VR {γ:Type} (st:SortSt) (M:Array Keyed->Nat->Nat->Prop) (P:Nat->Nat->Prop):Option (Array Keyed)×Nat×Nat×Array Keyed×γ->SortSt->Prop
 |mk {o:Array Keyed} {i j:Nat} {g:γ} {st':SortSt} (L:fF st st') (m:M o i j) (p:P i j):VR st M P (none,i,j,o,g) st'
def Jt{a b:Array Keyed}{st:SortSt}{Q:Array Keyed->SortSt->Prop}(C:Yn M A E s r Mem k0)(hk:kindOf st=k0)(ma:∀x∈a.toList,Mem x)(mb:∀x∈b.toList,Mem x)(sa:a.toList.Pairwise λx y=>r x<=r y)(sb:b.toList.Pairwise λx y=>r x<=r y)
  (a0:0<a.size) (w:0<b.size) (J:∀x,a[a.size - 1]?=some x->∀y∈b.toList,r y<=r x) (L:∀y,b.toList.take 1=[y]->∀x∈a.toList,r y<=r x)
  (h:∀z p,Res r (a.toList++b.toList) z->fF st p->Q z p):wpS M A E s (mHi a b) Q st:=by
 have I:a.toList.length=a.size:=rfl;have H:b.toList.length=b.size:=rfl;obtain⟨n,u⟩:∃f,f=λ(o:Array Keyed) (i j:Nat)=>a.extract 0 i++b.extract 0 j++o.reverse:=⟨_,rfl⟩
 obtain⟨g,d⟩:∃f,f=λ(o:Array Keyed) (i j:Nat)=>b.extract 0 j++a.extract 0 i++o.reverse:=⟨_,rfl⟩
 have c:∀(o:Array Keyed) (i j:Nat),MI (λx y=>r y<=r x) (a.toList++b.toList) o.toList (a.toList.take i).reverse (b.toList.take j).reverse->(∀x∈a.toList.take i,∀y∈b.toList.take j,r y<=r x)->Res r (a.toList++b.toList) (g o i j):=λo i j m q=>by
  subst d;obtain⟨l,k⟩:=m.swap.last λx f y t=>q x (zCK.mp f) y (zCK.mp t)
  have e:(o.toList++(a.toList.take i).reverse++(b.toList.take j).reverse)=(b.extract 0 j++a.extract 0 i++o.reverse).toList.reverse:=by rw[zB1,zB1,Z3,Z3,Array.toList_reverse,List.extract_eq_drop_take,List.extract_eq_drop_take,List.drop_zero,List.drop_zero,zC2,zC2,List.reverse_reverse,Xi,Nat.sub_zero,Nat.sub_zero]
  rw[e]at l k;exact⟨Fb l,(List.reverse_perm _).symm.trans k⟩
 have G:∀(o:Array Keyed) (i j:Nat),MI (λx y=>r y<=r x) (a.toList++b.toList) o.toList (a.toList.take i).reverse (b.toList.take j).reverse->(i=0∨j=0)->Res r (a.toList++b.toList) (n o i j):=λo i j m q=>by
  have:=c o i j m λx f y t=>by
   rcases q with q|q;rw[q]at f;simp at f;rw[q]at t;simp at t
  have e:n o i j=g o i j:=by
   rcases q with q|q<;>subst q<;>simp[u,d]
  rw[e];exact this
 have B:∀(o:Array Keyed) (i j:Nat),MI (λx y=>r y<=r x) (a.toList++b.toList) o.toList (a.toList.take i).reverse (b.toList.take j).reverse->j=1->Res r (a.toList++b.toList) (g o i j):=λo i j m q=>c o i j m λx f y t=>by
  subst q;obtain⟨z,hz,e,_⟩:=eJ (l:=b.toList) (i:=0) w;have c:b.toList.take 1=[z]:=by have g:b.toList=z::b.toList.drop 1:=e;rw[g];rfl
  rw[c,VF]at t;rw[t];exact L z c x (zBy f)
 obtain⟨g,c,n,my0⟩:=iT (l:=a.toList) a0 (SF _);have q:a[a.size - 1]?=some g:=by rw[<- Uz];exact c
 have k:MI (λx y=>r y<=r x) (a.toList++b.toList) (#[g]:Array Keyed).toList (a.toList.take (a.size - 1)).reverse (b.toList.take b.size).reverse:=by
  have m:MI (λx y=>r y<=r x) (a.toList++b.toList) (#[]:Array Keyed).toList (a.toList.take a.size).reverse (b.toList.take b.size).reverse:=by rw[XJ (XD I),XJ (XD H)];exact⟨(List.reverse_perm _).append (List.reverse_perm _),.nil,wK sa,wK sb,λ_ z=>(by cases z),λ_ z=>(by cases z)⟩
  exact m.qA n λy t=>J g q y (zBy (zCK.mp t))
 refine Sk (wpS_lift (YZ ⟨rfl,?_⟩));refine cS q ?_;rw[<- u,<- d];refine aF (λc=>So (h _ _ (G _ _ _ k (.inl (T8.mp c))) (fF.refl _))) λd=>?_
 refine aF (λc=>So (h _ _ (B _ _ _ k (T8.mp c)) (fF.refl _))) λN=>?_
 have m:a.size - 1≠0:=λe=>d (T8.mpr e)
 have ZR:b.size≠1:=λe=>N (T8.mpr e)
 have d:Mir r a b #[g] (a.size - 1) b.size:=⟨k,zC7 m,Xl _ _,YR w (Ne.symm ZR),SF _⟩;refine Sk (wpS_get ?_);refine Sk (Xm (Xk (a:=0) (I:=λx=>VR st (Mir r a b) λi j=>x+i+j<=a.size+b.size) (Q:=VW st (Res r (a.toList++b.toList))) ?_ ?_ ⟨fF.refl _,d,zCT (Sd (XD (YX _)) (Xl _ _)) _⟩) ?_)
 ·rintro x z YJ _ f @⟨o,i,j,g,_,m,d,J⟩;refine Sk (Xm (Xk (I:=λx=>VR st (Mir r a b) λq k=>x+q+k<=i+j) (Q:=λz p=>VW st (Res r (a.toList++b.toList)) z p∨VR st (Mir r a b) (λq k=>0+1+q+k<=i+j) z p) ?_ ?_ ⟨m,d,by lia⟩) ?_);clear d J f;rintro x z Sn _ f @⟨o,q,k,u,_,L2,d,J⟩;dsimp only;refine zf λK m=>?_
  have Y:=d.hi;have U:=d.hj;have i:=d.h0;have H:=d.h1;obtain⟨y,t,ey,my⟩:=iT (l:=b.toList) (n:=k) (Ys H) U;obtain⟨w,T,ew,mw⟩:=iT (l:=a.toList) (n:=q) i Y;rw[Uz]at t T;refine HY C (L2.k.trans hk) t T (mb y my) (ma w mw) ?_;have hb:=mH d.m.sb ey;have O:=mH d.m.sa ew;refine aF (λc=>?_) λc=>?_
  have c':=XO c;refine cS T ?_;have j:=d.m.qA ew λx f=>Sd (hb x f) (UD c')
  refine aF (λN=>So (m _ _ (.inl ⟨L2,G _ _ _ j (.inl (T8.mp N))⟩))) λN=>?_
  have ZR:q - 1≠0:=λe=>N (T8.mpr e)
  have L:Mir r a b (o.push w) (q - 1) k:=⟨j,zC7 ZR,Sd (Xl _ _) Y,H,U⟩;exact aF (λ_=>So (m _ _ (.inr ⟨L2,L,D7 i (dw J)⟩))) λ_=>So (m _ _ ⟨L2,L,D7 i J⟩)
  have c':¬r y<r w:=λe=>c (U5 e)
  refine cS t ?_;have j:=d.m.qB ey λx f=>Sd (O x f) (Xa.mp c')
  refine aF (λN=>So (m _ _ (.inl ⟨L2,B _ _ _ j (T8.mp N)⟩))) λN=>?_
  have ZR:k - 1≠1:=λe=>N (T8.mpr e)
  have L:Mir r a b (o.push y) q (k - 1):=⟨j,i,Y,YR (zCU H) (Ne.symm ZR),Sd (Xl _ _) U⟩;exact aF (λ_=>So (m _ _ (.inr ⟨L2,L,N6 (Ys H) (dw J)⟩))) λ_=>So (m _ _ ⟨L2,L,N6 (Ys H) J⟩)
  rintro z Sn ⟨L2,d,J⟩;have:=d.h0
  lia
  ·rintro z Sn (⟨L2,hr⟩| @⟨o',q,k,u,_,L2,L,hp'⟩);exact So ⟨L2,hr⟩
   ·refine Sk (wpS_lift (YZ ⟨rfl,?_⟩));refine Sk (Xm (Xk (I:=λx=>VR st (Mir r a b) λu j=>x+u+j<=q+k) (Q:=λz p=>VW st (Res r (a.toList++b.toList)) z p∨VR st (Mir r a b) (λu j=>0+u+j<=q+k) z p) ?_ ?_ ⟨L2,L,by lia⟩) ?_)
    ·clear L hp';rintro x z Wu _ hx3 @⟨o,Q,u,j,_,I,d,hp2⟩;dsimp only;refine zf λK m=>?_
     have Y:=d.hi;have U:=d.hj;have i:=d.h0;have H:=d.h1;obtain⟨y,t,ey,my⟩:=iT (l:=b.toList) (n:=u) (Ys H) U;rw[Uz]at t;have hb:=mH d.m.sb ey
     suffices key:∀g3:Nat,wpS M A E s _ _ Wu by
      refine aF (λ_=>?_) λ_=>?_
      rotate_left
      generalize j.1=g3;exact key g3;exact key _
     intro g3;refine Sk (o7 I λVq q=>?_)
     suffices key:∀(c N:Nat) (o3:Array Keyed),MI (λx y=>r y<=r x) (a.toList++b.toList) o3.toList (a.toList.take N).reverse (b.toList.take u).reverse->0<N->N<=Q->(∀x∈a.toList.take N,r x<=r y)->wpS M A E s _ K Vq by
      refine cS t (Sk (iu C (q.k.trans hk) (zBz i) (mb y my) (g:=a.toList.take Q) (by rw[Xj];exact Yt Y) (λn hn=>by rw[zDX,Rv hn,Uz,YX]) (λx f=>ma x (zBy f)) (Fb d.m.sa) λk (j:k<=Q) lo up=>?_));rw[List.take_take,Yt j]at lo;refine aF (λck=>?_) λck=>?_
      have hm:=d.m.fA j λx f z hz=>Sd (hb z hz) (up x f)
      refine aF (λc3=>So (m _ _ (.inl ⟨q,G _ _ _ hm (.inl (T8.mp c3))⟩))) λc3=>?_
      have h3:0<k:=zC7 λe=>c3 (T8.mpr e)
      generalize o++(a.extract k Q).reverse=o3 at hm ⊢;generalize Q - k=c;exact key c k o3 hm h3 j lo;have o:k=Q:=Zg j (Nat.le_of_sub_eq_zero (zDB ck));exact key _ _ _ d.m i (SF _) (o ▸ lo)
     intro c N o3 hm h3 k i;refine cS t ?_;have t:=hm.qB ey λx f=>i x (zCK.mp f)
     refine aF (λc=>So (m _ _ (.inl ⟨q,B _ _ _ t (T8.mp c)⟩))) λc=>?_
     have c':u - 1≠1:=λe=>c (T8.mpr e)
     obtain⟨w,T,ew,mw⟩:=iT (l:=a.toList) h3 (Sd k Y);rw[Uz]at T
     suffices key:∀(c Q:Nat) (o4:Array Keyed),MI (λx y=>r y<=r x) (a.toList++b.toList) o4.toList (a.toList.take N).reverse (b.toList.take Q).reverse->1<Q->Q<u->(∀x∈b.toList.take Q,r x<=r w)->wpS M A E s _ K Vq by
      refine cS T (Sk (iu C (q.k.trans hk) (zBz (zCU H)) (ma w mw) (g:=b.toList.take (u - 1)) (by rw[Xj];exact Yt (Sd (Xl _ _) U)) (λn hn=>by rw[zDX,Rv hn,Uz,YX]) (λx f=>mb x (zBy f)) (Fb t.sb) λj (g:j<=u - 1) i l=>?_));have O:=mH t.sa ew;rw[List.take_take,Yt g]at i;refine aF (λw=>?_) λw=>?_
      have n:=t.fB g λx f z hz=>Sd (O z hz) (l x f)
      refine aF (λC=>So (m _ _ (.inl ⟨q,B _ _ _ n (T8.mp C)⟩))) λC=>?_
      refine aF (λC=>So (m _ _ (.inl ⟨q,G _ _ _ n (.inr (T8.mp C))⟩))) λB=>?_
      have l:1<j:=by
       have:j≠1:=λe=>C (T8.mpr e)
       have:j≠0:=λe=>B (T8.mpr e)
       lia
      generalize o3.push y++(b.extract j (u - 1)).reverse=o4 at n ⊢;generalize u - 1 - j=c;exact key c j o4 n l (Xh g (zBz H)) i;have o:j=u - 1:=Zg g (Nat.le_of_sub_eq_zero (zDB w));exact key _ _ _ t (YR (zCU H) (Ne.symm c')) (zBz H) (o ▸ i)
     intro c Q o4 n l g i;refine cS T ?_;have j:=n.qA ew λx f=>i x (zCK.mp f)
     refine aF (λf=>So (m _ _ (.inl ⟨q,G _ _ _ j (.inl (T8.mp f))⟩))) λf=>?_
     have c:Mir r a b _ _ _:=⟨j,zC7 λe=>f (T8.mpr e),Sd (Xl _ _) (Sd k Y),l,Sd (UD g) U⟩;have a:=Sd (Nat.add_le_add (Zd k x) (UD g)) hp2;exact aF (λ_=>So (m _ _ (.inr ⟨q,c,dw (D7 h3 a)⟩))) λ_=>So (m _ _ ⟨q,c,D7 h3 a⟩)
    rintro z Wu ⟨I,d,J⟩;exact .inr ⟨I,d,dw J⟩;rintro z Wu (⟨I,hr⟩| ⟨I,L,hp'⟩);exact So ⟨I,hr⟩;exact Sk (o7 I λVq q=>So ⟨q,L,by lia⟩)
 rintro z p ⟨L,d,J⟩;have:=d.h0
 lia
 rintro z p ⟨L,hr⟩;exact So (h _ _ hr L)
end
def rk(r:Keyed->Nat)(xs:Array Keyed)(i:Nat):Nat:=match xs[i]? with
 |some p=>r p
 |none=>0
def Seg(r:Keyed->Nat)(xs:Array Keyed)(lo a:Nat):Prop:=∀i j,lo<=i->i<=j->j<a->rk r xs i<=rk r xs j
section
variable{r:Keyed->Nat}{xs:Array Keyed}{P W S:List Keyed}
def vA(e:xs.toList=P++(W++S)){i:Nat}(a:i<W.length):rk r xs (P.length+i)=r W[i]:=by unfold rk;rw[<- Uz,e,WK (by lia),zBj,WZ a,Ul a]
def B8(e:xs.toList=P++(W++S))(h:W.Pairwise λx y=>r x<=r y):Seg r xs P.length (P.length+W.length):=λi j a b d=>by obtain⟨k,rfl⟩:=Nat.exists_eq_add_of_le a;obtain⟨l,rfl⟩:=Nat.exists_eq_add_of_le (Sd a b);rw[vA e (by lia),vA e (by lia)];by_cases c:k=l;subst c;exact SF _;exact Y9.mp h k l (by lia) (by lia) (by lia)
def lS(e:xs.toList=P++(W++S))(h:Seg r xs P.length (P.length+W.length)):W.Pairwise λx y=>r x<=r y:=Y9.mpr λi j b a U2=>by have:=h (P.length+i) (P.length+j) (by lia) (by lia) (by lia);rw[vA e b,vA e a]at this;exact this
def NJ(xs:Array Keyed){lo n:Nat}(h:lo+n<=xs.size):∃P W S,xs.toList=P++(W++S)/\P.length=lo/\W.length=n:=by refine⟨xs.toList.take lo,(xs.toList.drop lo).take n,(xs.toList.drop lo).drop n,by rw[XB,XB],?_,?_⟩;rw[Xj];exact Yt (Sd (VP _ _) h);rw[Xj,W5];exact Yt (Nat.le_sub_of_add_le' h)
theorem Am(base:Nat):∀(m:List Keyed) (k:Nat) (xs:Array Keyed) (P W S:List Keyed),xs.toList=P++(W++S)->P.length=base+k->W.length=m.length →
  ((m.zipIdx k).foldl (λa (x:Keyed×Nat)=>match x with|(p,j)=>a.setIfInBounds (base+j) p) xs).toList=P++(m++S)
 |[],k,xs,P,W,S,e,b,a=>by simp_all
 |p::m,k,xs,P,[],S,e,b,a=>by cases a
 |p::m,k,xs,P,w::W,S,e,b,a=>by
  rw[List.zipIdx_cons,List.foldl_cons];rw[Am base m (k+1) _ (P++[p]) W S ?_ (by rw[Vh,b];rfl) (by simp_all)]
  all_goals simp_all
end
section
variable{M:Model}{A:Around}{E:yaa}{s:Shared}{r:Keyed->Nat}{Mem:Keyed->Prop}{k0:SortKind}
def Nd{b:Type}{st a:b}{Q:PUnit->b->Prop}(h:Q ⟨⟩ a):wpS M A E s (set a:StateT b Sem PUnit) Q st:=by exact Rz ⟨rfl,h⟩
def Js{st:SortSt}{i sa na p sb nb p2:Nat}{Q:Bool->SortSt->Prop}(C:Yn M A E s r Mem k0)(k:kindOf st=k0)(z:failedOf st=none)(c:∀x∈(arrOf st).toList,Mem x)(O:(pendingOf st)[i]?=some (sa,na,p))(J:(pendingOf st)[i+1]?=some (sb,nb,p2))
  {P X Y S:List Keyed} (e:(arrOf st).toList=P++(X++(Y++S))) (t:P.length=sa) (o:X.length=na) (lY:Y.length=nb) (b:sb=sa+na) (f:0<na) (B:0<nb) (w:X.Pairwise λx y=>r x<=r y) (u:Y.Pairwise λx y=>r x<=r y)
  (h:∀(a:SortSt) (Z:List Keyed),kindOf a=k0->failedOf a=none->pendingOf a=((pendingOf st).setIfInBounds i (sa,na+nb,p)).eraseIdxIfInBounds (i+1)->(arrOf a).toList=P++(Z++S)->Z.Perm (X++Y)->Z.Pairwise (λx y=>r x<=r y)->Q true a):wpS M A E s (mergeAt' i) Q st:=by
 subst b;have N:∀n,n<na->(arrOf st)[sa+n]?=X[n]?:=λn b=>by rw[<- Uz,e,WK (by rw[t];exact VP _ _),t,zBj,WZ (by rw[o];exact b)]
 have L:∀n,n<nb->(arrOf st)[sa+na+n]?=Y[n]?:=λn b=>by rw[<- Uz,e,WK (by rw[t,zCp];exact VP _ _),WK (by rw[t,o,zCp,zBj];exact VP _ _),t,o,Nat.sub_sub,zBj,WZ (by rw[lY];exact b)]
 have mX:∀x∈X,Mem x:=λx b=>c x (by rw[e];simp[b])
 have mY:∀x∈Y,Mem x:=λx b=>c x (by rw[e];simp[b])
 obtain⟨T,H,d,c⟩:=eJ (l:=Y) (i:=0) (by lia);obtain⟨U,I,g,j⟩:=iT (l:=X) (n:=na) f (by lia);have m:∀y∈Y,r T<=r y:=mI (l:=Y) (i:=0) u d;have G:∀x∈X,r x<=r U:=λx b=>mH (l:=X) (n:=na) (wK (by rw[XJ (by lia)];exact w)) g x (zCK.mpr (by rw[XJ (by lia)];exact b))
 have same:∀(a:SortSt),kindOf a=k0->failedOf a=none->pendingOf a=((pendingOf st).setIfInBounds i (sa,na+nb,p)).eraseIdxIfInBounds (i+1)->arrOf a=arrOf st->(∀x∈X,∀y∈Y,r x<=r y)->Q true a:=λa n l g d q =>
  h a (X++Y) n l g (by rw[d,e,Xi]) (List.Perm.refl _) (YQ.mpr ⟨w,u,q⟩)
 refine Sk (wpS_get ?_);show wpS M A E s (match((pendingOf st)[i]?,(pendingOf st)[i+1]?)with|_=>_) Q st;simp only[O,J];refine Sk (Nd ?_);have n:kindOf (SortSt.mk' (kindOf st) (arrOf st) (((pendingOf st).setIfInBounds i (sa,na+nb,p)).eraseIdxIfInBounds (i+1)) (gallopOf st) (failedOf st))=k0:=k;have f1:failedOf (SortSt.mk' (kindOf st) (arrOf st) (((pendingOf st).setIfInBounds i (sa,na+nb,p)).eraseIdxIfInBounds (i+1)) (gallopOf st) (failedOf st))=none:=z;refine Sk (eV (x:=T) (by have:=L 0 B;rw[Nat.add_zero]at this;rw[this];exact H) ?_);refine Sk (iu C n f (mY T c) (g:=X) o N mX w λk J lo up=>?_);refine aF (λc=>So (same _ n f1 rfl rfl λx b y d=>?_)) λc=>?_
 have O:na - k=0:=T8.mp c;have a:x∈X.take k:=by rw[XJ (by rw[o];exact Nat.le_of_sub_eq_zero O)];exact b
 exact Sd (lo x a) (m y d);have O:na - k≠0:=λz=>c (T8.mpr z)
 refine Sk (eV (x:=U) (by show(arrOf st)[sa+k+(na - k) - 1]?=_;rw[show sa+k+(na - k) - 1=sa+(na - 1)by rw[zCp,Nat.add_sub_of_le J,Nat.add_sub_assoc f],N _ (zBz f)];exact I) ?_);refine Sk (iu C n (zBz B) (mX U j) (g:=Y) lY L mY u λf hk2 B WG=>?_);refine aF (λc=>So (same _ n f1 rfl rfl λx b y d=>?_)) λa=>?_
 have O:f=0:=T8.mp c;rw[O]at WG;exact Sd (G x b) (WG y d);have ZR:f≠0:=λz=>a (T8.mpr z)
 have l:((arrOf st).extract (sa+k) (sa+na)).toList=X.drop k:=by rw[Z3,List.extract_eq_drop_take,e,<- t,<- zDZ,zCZ (SF _),List.drop_length,Z6,zCZ (by lia),show P.length+na - (P.length+k)=(X.drop k).length by rw[W5,o,Nat.add_sub_add_left]];exact List.take_left
 have g:((arrOf st).extract (sa+na) (sa+na+f)).toList=Y.take f:=by rw[Z3,List.extract_eq_drop_take,e,<- t,<- o,<- zDZ,zCZ (SF _),List.drop_length,Z6,zCZ (SF _),List.drop_length,Z6,zBj,List.take_append_of_le_length (by lia)]
 have N:∀(z:Array Keyed) (c:SortSt),Res r (X.drop k++Y.take f) z->fF (SortSt.mk' (kindOf st) (arrOf st) (((pendingOf st).setIfInBounds i (sa,na+nb,p)).eraseIdxIfInBounds (i+1)) (gallopOf st) (failedOf st)) c->wpS M A E s (do
   modify λst=>setArr st (z.toList.zipIdx.foldl (λa (x:Keyed×Nat)=>match x with|(p,j)=>a.setIfInBounds (sa+k+j) p) (arrOf st))
   let y←get
   pure (failedOf y).isNone) Q c:=λz c ⟨j,i⟩ L=>by
  refine Sk (Z7 (Sk (wpS_get (So ?_))));show Q (failedOf c).isNone _;rw[L.f,f1];refine h _ (X.take k++(z.toList++Y.drop f)) (L.k.trans n) (L.f.trans f1) L.p ?_ ?_ ?_
  ·show(z.toList.zipIdx.foldl _ (arrOf c)).toList=_;rw[Am (sa+k) z.toList 0 (arrOf c) (P++X.take k) (X.drop k++Y.take f) (Y.drop f++S) ?_ ?_ ?_];simp only[Xi]
   ·rw[show arrOf c=arrOf st from L.a,e];have e:=XB k X;have a:=XB f Y
    conv=>lhs;rw[<- e,<- a]
    simp only[Xi]
   rw[Vh,Xj,t,Yt (by lia)];rfl;exact i.length_eq.symm
  ·have e:=XB k X;have a:=XB f Y;have:(X.take k++(z.toList++Y.drop f)).Perm (X.take k++((X.drop k++Y.take f)++Y.drop f)):=List.Perm.append_left _ (List.Perm.append_right _ i);refine this.trans (List.Perm.of_eq ?_)
   conv=>rhs;rw[<- e,<- a]
   simp only[Xi]
  have a:∀x∈X.take k,∀y∈Y,r x<=r y:=λx b y d=>Sd (lo x b) (m y d)
  have h:∀x∈X.take k,∀y∈X.drop k,r x<=r y:=by have:=w;rw[<- XB k X]at this;exact(YQ.mp this).2.2
  have e:∀x∈Y.take f,∀y∈Y.drop f,r x<=r y:=by have:=u;rw[<- XB f Y]at this;exact(YQ.mp this).2.2
  refine YQ.mpr ⟨w.sublist (zDF _ _),YQ.mpr ⟨j,u.sublist (List.drop_sublist _ _),λx b y d=>?_⟩,λx b y d=>?_⟩;rcases Ta.mp (i.mem_iff.mp b)with q|q;exact Sd (G x (zBx q)) (WG y d);exact e x q y d;rcases Ta.mp d with q|q;rcases Ta.mp (i.mem_iff.mp q)with q|q;exact h x b y q;exact a x b y (zBy q);exact a x b y (zBx q)
 have e:((arrOf st).extract (sa+k) (sa+na)).toList.Pairwise λx y=>r x<=r y:=by rw[l];exact w.sublist (List.drop_sublist _ _)
 have a:((arrOf st).extract (sa+na) (sa+na+f)).toList.Pairwise λx y=>r x<=r y:=by rw[g];exact u.sublist (zDF _ _)
 have i:∀x∈((arrOf st).extract (sa+k) (sa+na)).toList,Mem x:=by rw[l];exact λx b=>mX x (zBx b)
 have h:∀x∈((arrOf st).extract (sa+na) (sa+na+f)).toList,Mem x:=by rw[g];exact λx b=>mY x (zBy b)
 have p:((arrOf st).extract (sa+k) (sa+na)).size=na - k:=by rw[<- VO,l,W5,o]
 have j:((arrOf st).extract (sa+na) (sa+na+f)).size=f:=by rw[<- VO,g,Xj,lY];exact Yt hk2
 have q:0<((arrOf st).extract (sa+k) (sa+na)).size:=by rw[p];lia
 have o:0<((arrOf st).extract (sa+na) (sa+na+f)).size:=by rw[j];lia
 have t:∀x,(X.drop k)[na - k - 1]?=some x->x=U:=λx b=>by rw[zC5,show k+(na - k - 1)=na - 1 by rw[<- Nat.add_sub_assoc (zC7 O) k,Nat.add_sub_of_le J],I]at b;cases b;rfl
 have m:∀y,(Y.take f)[0]?=some y->y=T:=λy d=>by rw[zDX,Rv (by lia),H]at d;cases d;rfl
 refine aF (λj=>?_) λj=>?_
 refine Sk (Ju C n i h e a q o ?_ ?_ λz c j L=>N z c (by rw[l,g]at j;exact j) L);intro x b y d;rw[g]at d;rw[l,p]at b;rw[t x (by rw[<- Nat.add_zero (na - k - 1),<- zC5,b];rfl)];exact B y d;intro y d x b;rw[l]at b;rw[<- Uz,g]at d;rw[m y d];exact up x b;refine Sk (Jt C n i h e a q o ?_ ?_ λz c j L=>N z c (by rw[l,g]at j;exact j) L);intro x b y d;rw[g]at d;rw[<- Uz,l,p]at b;rw[t x b];exact B y d;intro y d x b;rw[l]at b;rw[g]at d;rw[m y (by
  have:((Y.take f).take 1)[0]?=some y:=by rw[d];rfl
  rw[zDX,Rv (by decide)]at this;exact this)]
 exact up x b
end
section
variable{r:Keyed->Nat}
def gk{xs ys:Array Keyed}{i j:Nat}(h:xs[i]?=ys[j]?):rk r xs i=rk r ys j:=by unfold rk;rw[h]
theorem ql{xs:Array Keyed}{j:Nat}(a:j<=xs.size)(k:Nat):rk r (mirror xs i j ((j - i) / 2)) k=if i<=k/\k<j then rk r xs (i+j - 1 - k)else rk r xs k:=by have e:=getElem?_mirror_all (i:=i) a k;by_cases a:i<=k/\k<j;rw[Rv a]at e ⊢;exact gk e;rw[if_neg a]at e ⊢;exact gk e
def qo{xs:Array Keyed}{i j:Nat}(b:j<=xs.size)(a:∀k,i<=k->k<j->rk r xs k=rk r xs (j - 1))(k:Nat):rk r (mirror xs i j ((j - i) / 2)) k=rk r xs k:=by grind [ql]
def Ho{xs:Array Keyed}{a d:Nat}(hs:a<xs.size)(b:d<=a)(k:Nat):rk r (bubble xs a d) k=if k=a - d then rk r xs a else if a - d<k/\k<=a then rk r xs (k - 1)else rk r xs k:=by have e:=getElem?_bubble hs d b k;by_cases b:k=a - d;rw[Rv b]at e ⊢;exact gk e;rw[if_neg b]at e ⊢;by_cases b:a - d<k/\k<=a;rw[Rv b]at e ⊢;exact gk e;rw[if_neg b]at e ⊢;exact gk e
def Dn(r:Keyed->Nat)(xs:Array Keyed)(lo a:Nat):Prop:=∀i j,lo<=i->i<=j->j<a->rk r xs j<=rk r xs i
end
structure Nr(lo:Nat)(st st':SortSt):Prop where
 k:kindOf st'=kindOf st
 f:failedOf st'=failedOf st
 p:pendingOf st'=pendingOf st
 a:(arrOf st').Perm (arrOf st)
 fr:∀i,i<lo->(arrOf st')[i]?=(arrOf st)[i]?
theorem Nr.refl(lo:Nat)(st:SortSt):Nr lo st st:=⟨rfl,rfl,rfl,Array.Perm.refl _,by lia⟩
theorem Nr.size{lo:Nat}{st a:SortSt}(h:Nr lo st a):(arrOf a).size=(arrOf st).size:=h.a.size_eq
theorem Nr.trans{lo:Nat}{st a b:SortSt}(h:Nr lo st a)(g:Nr lo a b):Nr lo st b:=⟨g.k.trans h.k,g.f.trans h.f,g.p.trans h.p,g.a.trans h.a,λi a=>(g.fr i a).trans (h.fr i a)⟩
def Nr.mir{lo i j:Nat}{st a:SortSt}(h:Nr lo st a)(c:lo<=i)(b:j<=(arrOf st).size):Nr lo st (setArr a (mirror (arrOf a) i j ((j - i) / 2))):=⟨h.k,h.f,h.p,(mirror_perm _ _ _ _).trans h.a,λk a=>by rw[getElem?_mirror_all (by rw[h.size];exact b),if_neg (by lia)];exact h.fr k a⟩
section
variable{M:Model}{A:Around}{E:yaa}{s:Shared}{r:Keyed->Nat}{Mem:Keyed->Prop}{k0:SortKind}
def Nc{st:SortSt}{i j:Nat}{Q:Option Bool->SortSt->Prop}(C:Yn M A E s r Mem k0)(b:kindOf st=k0)(a:∀x∈(arrOf st).toList,Mem x)(f:i<(arrOf st).size)(e:j<(arrOf st).size)(h:Q (some (decide (rk r (arrOf st) i<rk r (arrOf st) j))) st):wpS M A E s (ltAt' i j) Q st:=by
 have d:(arrOf st)[i]?=some (arrOf st)[i]:=by simp_all
 have c:(arrOf st)[j]?=some (arrOf st)[j]:=by simp_all
 refine wpS_ltAt C b d c (a _ (by simp)) (a _ (by simp)) ?_;unfold rk at h
 simp_all
def Nr.mem{lo:Nat}{st a:SortSt}(h:Nr lo st a)(b:∀x∈(arrOf st).toList,Mem x):∀x∈(arrOf a).toList,Mem x:=λx a=>b x ((zCl.mp h.a).mem_iff.mp a)
def snoc{f:Nat->Nat->Prop}(l:∀i,f i i)(g:∀i j k,f i j->f j k->f i k){lo x:Nat}(e:1<=x)(h:∀i j,lo<=i->i<=j->j<lo+x->f i j)(c:f (lo+x - 1) (lo+x)):∀i j,lo<=i->i<=j->j<lo+(x+1)->f i j:=λi j a b d=>by
 cases x with
 |zero=>cases e
 |succ y =>
  rcases zCi (Yr d)with e|e;exact h i j a b e;rw[e]at b ⊢;rcases zCi b with e|e;exact g _ _ _ (h i (lo+y) a (Yr e) (zCz _)) c;rw[e];exact l _
theorem Seg.snoc{x:Nat}(a:1<=x)(h:Seg r xs e0 (e0+x))(c:rk r xs (e0+x - 1)<=rk r xs (e0+x)):Seg r xs e0 (e0+(x+1)):=TS.snoc (f:=λi j=>rk r xs i<=rk r xs j) (λ_=>SF _) (λ_ _ _=>Sd) a h c
theorem Dn.snoc{x:Nat}(a:1<=x)(h:Dn r xs e0 (e0+x))(c:rk r xs (e0+x)<=rk r xs (e0+x - 1)):Dn r xs e0 (e0+(x+1)):=TS.snoc (f:=λi j=>rk r xs j<=rk r xs i) (λ_=>SF _) (λ_ _ _ p q=>Sd q p) a h c
def G7{d i j:Nat}(a:d<=i)(b:i<=j)(c:j<d+1):i=j:=Zg b (Sd (Yr c) a)
def Seg.one:Seg r xs e0 (e0+1):=λi j a b c=>by rw[G7 a b c];exact SF _
def Dn.one:Dn r xs e0 (e0+1):=λi j a b c=>by rw[G7 a b c];exact SF _
def Dn.congr(h:Dn r ys e0 hi)(e:∀k,rk r xs k=rk r ys k):Dn r xs e0 hi:=λi j a b c=>by rw[e,e];exact h i j a b c
theorem Dn.mirror(h:Dn r xs e0 hi)(d:hi<=xs.size):Seg r (PyProof.Rows.mirror xs e0 hi ((hi - e0) / 2)) e0 hi:=λi j a b c=>by have ih:=Xh b c;rw[ql d,ql d,Rv ⟨a,ih⟩,Rv ⟨Sd a b,c⟩];exact h _ _ (Nat.le_sub_of_add_le (zCU (Nat.add_lt_add_left c e0))) (Nat.sub_le_sub_left b _) (Nat.sub_lt_left_of_lt_add (zCU (Tt ih (Nat.le_add_left _ _))) (Tt (zBz (Tt ih (Nat.le_add_left _ _))) (zCT a _)))
def Nr.le{n y:Nat}{st a:SortSt}(N:Nr e0 st a)(hs:e0+n<=(arrOf st).size)(h:y<=n):e0+y<=(arrOf a).size:=by rw[N.size];exact Sd (Zd h e0) hs
def kr{st a:SortSt}{b n x i j:Nat}{Q:Option Bool->SortSt->Prop}(C:Yn M A E s r Mem k0)(e:kindOf st=k0)(d:∀x∈(arrOf st).toList,Mem x)(hs:b+n<=(arrOf st).size)(N:Nr b st a)(c:x<n)(g:i<=b+x)(f:j<=b+x)(h:Q (some (decide (rk r (arrOf a) i<rk r (arrOf a) j))) a):wpS M A E s (ltAt' i j) Q a:=Nc C (N.k.trans e) (N.mem d) (Xh g (N.le hs c)) (Xh f (N.le hs c)) h
inductive CW {ρ γ:Type} (y:γ) (P:SortSt->Prop):Option ρ×γ->SortSt->Prop
 |mk {st:SortSt} (p:P st):CW y P (none,y) st
inductive CV {ρ γ:Type} (P:γ->SortSt->Prop):Option ρ×γ->SortSt->Prop
 |mk {y:γ} {st:SortSt} (p:P y st):CV P (none,y) st
structure S1(r:Keyed->Nat)(lo:Nat)(st:SortSt)(x:Nat)(st':SortSt):Prop where
 n:Nr lo st st'
 x1:1<=x
 sg:Seg r (arrOf st') lo (lo+x)
theorem S1.snoc{st a:SortSt}(h:S1 r e0 st x a)(c:¬decide (rk r (arrOf a) (e0+x)<rk r (arrOf a) (e0+x - 1))=true):S1 r e0 st (x+1) a:=⟨h.n,Nat.le_succ_of_le h.x1,h.sg.snoc h.x1 (Xa.mp λe=>c (U5 e))⟩
structure S2(r:Keyed->Nat)(lo:Nat)(st:SortSt)(x q:Nat)(st':SortSt):Prop where
 n:Nr lo st st'
 q1:q+1<=x
 dn:Dn r (arrOf st') lo (lo+x)
 eq:∀i,lo+x - (q+1)<=i->i<lo+x->rk r (arrOf st') i=rk r (arrOf st') (lo+x - 1)
def S2.x1{st a:SortSt}(h:S2 r e0 st x q a):1<=x:=Sd (zCd (UE _)) h.q1
def S2.zero{x:Nat}{st a:SortSt}(N:Nr e0 st a)(d:Dn r (arrOf a) e0 (e0+(x+1))):S2 r e0 st (x+1) 0 a:=⟨N,zCd (UE _),d,λ_ a b=>congrArg _ (Zg (Yr b) a)⟩
theorem S2.mir{st a:SortSt}(h:S2 r e0 st x q a)(b:e0+x<=(arrOf st).size):Nr e0 st (setArr a (mirror (arrOf a) (e0+x - (q+1)) (e0+x) ((e0+x - (e0+x - (q+1))) / 2))):=h.n.mir (Nat.le_sub_of_add_le (Zd h.q1 e0)) b
def S2.cg{n:Nat}{st a:SortSt}(h:S2 r e0 st x q a)(hs:e0+n<=(arrOf st).size)(b:x<=n)(k:Nat):rk r (mirror (arrOf a) (e0+x - (q+1)) (e0+x) ((e0+x - (e0+x - (q+1))) / 2)) k=rk r (arrOf a) k:=qo (h.n.le hs b) h.eq k
def S2.succ{st a:SortSt}(h:S2 r e0 st x q a)(e:rk r (arrOf a) (e0+x)=rk r (arrOf a) (e0+x - 1)):S2 r e0 st (x+1) (q+1) a:=⟨h.n,zCd h.q1,h.dn.snoc h.x1 (XD e),λi a b=>by
 rcases zCi (Yr b)with d|d;exact(h.eq i (by rw[<- Nat.succ_sub_succ];exact a) d).trans e.symm;rw[d];rfl⟩
def FP{st:SortSt}{lo g:Nat}{Q:Option Nat->SortSt->Prop}(C:Yn M A E s r Mem k0)(u:kindOf st=k0)(t:∀x∈(arrOf st).toList,Mem x)(hs:lo+g<=(arrOf st).size)(d:1<=g)
  (h:∀m f,1<=m->m<=g->Nr lo st f->Seg r (arrOf f) lo (lo+m)->Q (some m) f):wpS M A E s (countRun' lo g) Q st:=by
 refine Sk (Xm (Xk (a:=1) (b:=g) (I:=λx=>CW x (S1 r lo st x)) (Q:=CV λn f=>S1 r lo st n f/\n<=g/\(n=g∨rk r (arrOf f) (lo+n)<rk r (arrOf f) (lo+n - 1))) ?_ ?_ ⟨⟨Nr.refl _ _,SF _,.one⟩⟩) ?_);rintro x z f _ l ⟨p⟩;exact Sk (kr C u t hs p.n l (SF _) (Xl _ _) (aF (λc=>So ⟨p,UD l,.inr (XO c)⟩) λc=>So ⟨p.snoc c⟩));rw[Nat.max_eq_right d];rintro z f ⟨p⟩;exact⟨p,SF _,.inl rfl⟩;rintro z f @⟨n,_,p⟩;refine aF (λ_=>So (h n f p.1.x1 p.2.1 p.1.n p.1.sg)) λc=>?_
 have c:n≠g:=λe=>c (T8.mpr e)
 have w:=YR p.2.1 c;have d:=UD (p.2.2.resolve_left c)
 suffices key:∀m,Nr lo st m->Dn r (arrOf m) lo (lo+(n+1))->wpS M A E s _ _ m by
  refine aF (λ_=>Sk (kr C u t hs p.1.n w (VP _ _) (Xl _ _) (aF (λ_=>So (h n f p.1.x1 p.2.1 p.1.n p.1.sg)) λc=>?_))) λc=>?_
  refine Sk (Z7 ?_);have o:∀k,lo<=k->k<lo+n->rk r (arrOf f) k=rk r (arrOf f) (lo+n - 1):=λk a b=>Zg (p.1.sg k _ a (zCU b) (zBz b)) (Sd (Xa.mp λe=>c (U5 e)) (p.1.sg lo k (SF _) a b))
  exact key _ (p.1.n.mir (SF _) (Sd (Zd p.2.1 lo) hs)) ((Dn.snoc p.1.x1 (λi j a b c=>by rw[o i a (Xh b c),o j (Sd a b) c];exact SF _) d).congr (qo (p.1.n.le hs p.2.1) o));exact key _ p.1.n (Dn.snoc p.1.x1 (by rw[show n=1 from Zg (zCc c) p.1.x1];exact .one) d)
 intro m N j;refine Sk (wpS_lift (YZ ⟨rfl,?_⟩));refine Sk (Xm (Xk (a:=n+1) (b:=g) (I:=λx z i=>∃q,CW (x,q) (S2 r lo st x q) z i) (Q:=CV λy i=>S2 r lo st y.1 y.2 i/\y.1<=g) ?_ ?_ ⟨0,⟨.zero N j⟩⟩) ?_);rintro x z i _ l ⟨q,⟨p⟩⟩;refine Sk (kr C u t hs p.n l (SF _) (Xl _ _) (aF (λc=>?_) λc=>?_));have d:=p.dn.snoc p.x1 (UD (XO c));exact aF (λ_=>Sk (Z7 (So ⟨0,⟨.zero (p.mir (Sd (Zd (UD l) lo) hs)) (d.congr (p.cg hs (UD l)))⟩⟩))) λ_=>So ⟨0,⟨.zero p.n d⟩⟩
 exact Sk (kr C u t hs p.n l (Xl _ _) (SF _) (aF (λd=>So ⟨p,UD l⟩) λd=>So ⟨q+1,⟨p.succ (Zg (Xa.mp λe=>d (U5 e)) (Xa.mp λe=>c (U5 e)))⟩⟩));rw[Nat.max_eq_right w];rintro z i ⟨q,⟨p⟩⟩;exact⟨p,SF _⟩;rintro z i @⟨y,_,p⟩
 suffices key:∀m,Nr lo st m->Dn r (arrOf m) lo (lo+y.1)->wpS M A E s _ _ m by
  refine aF (λ_=>Sk (Z7 ?_)) λ_=>?_
  exact key _ (p.1.mir (Sd (Zd p.2 lo) hs)) (p.1.dn.congr (p.1.cg hs p.2));exact key _ p.1.n p.1.dn
 intro m N j;refine Sk (Z7 ?_);refine Sk (Xm (Xk (a:=y.1) (b:=g) (I:=λx=>CW x (S1 r lo st x)) (Q:=CV λy f=>S1 r lo st y f/\y<=g) ?_ ?_ ⟨⟨N.mir (SF _) (Sd (Zd p.2 lo) hs),p.1.x1,j.mirror (N.le hs p.2)⟩⟩) ?_);rintro x z f _ l ⟨p⟩;exact Sk (kr C u t hs p.n l (SF _) (Xl _ _) (aF (λc=>So ⟨p,UD l⟩) λc=>So ⟨p.snoc c⟩));rw[Nat.max_eq_right p.2];rintro z f ⟨p⟩;exact⟨p,SF _⟩;rintro z f ⟨p⟩;exact So (h _ _ p.1.x1 p.2 p.1.n p.1.sg)
structure B1(f:Nat->Nat)(lo k x l u:Nat):Prop where
 lu:l<=u
 uk:u<=k
 m:u+x<=k+l
 dn:∀i,lo<=i->i<lo+l->f i<=f (lo+k)
 up:∀i,lo+u<=i->i<lo+k->f (lo+k)<f i
def Iz{st:SortSt}{lo n a:Nat}{Q:Bool->SortSt->Prop}(C:Yn M A E s r Mem k0)(u:kindOf st=k0)(q:∀x∈(arrOf st).toList,Mem x)(o:lo+n<=(arrOf st).size)(h0:Seg r (arrOf st) lo (lo+a))
  (h:∀f,Nr lo st f->Seg r (arrOf f) lo (lo+n)->Q true f):wpS M A E s (binarySort' lo n a) Q st:=by
 refine Sk (Xm (Xk (I:=λk=>CW () λf=>Nr lo st f/\Seg r (arrOf f) lo (lo+k)) (Q:=CW () λf=>Nr lo st f/\Seg r (arrOf f) lo (lo+n)) ?step ?fin ?init) ?post)
 case post =>
  rintro c f ⟨p⟩;exact So (h f p.1 p.2)
 case init =>
  refine⟨Nr.refl _ _,?_⟩;cases a with
  |zero=>exact .one
  |succ x=>rw[Nat.max_eq_left (zCd (UE x))];exact h0
 case fin =>
  rintro c f ⟨p⟩;exact⟨p.1,λi j a b c=>p.2 i j a b (Tt c (Zd (Nat.le_max_right _ _) lo))⟩
 case step =>
  rintro k c f _ n ⟨N,sg⟩;refine Sk (Xm (Xk (a:=0) (b:=k) (I:=λx=>CV λy g=>g=f/\B1 (rk r (arrOf f)) lo k x y.1 y.2) (Q:=CV λy g=>g=f/\B1 (rk r (arrOf f)) lo k k y.1 y.1) ?istep ?ifin ⟨rfl,UE _,SF _,SF _,λi a b=>absurd b (Xa.mpr a),λi a b=>absurd b (Xa.mpr a)⟩) ?ipost)
  case ifin =>
   rw[Nat.max_eq_right (UE k)];rintro c g ⟨e,b⟩;exact⟨e,SF _,Sd b.lu b.uk,XD (zCy _ _),b.dn,by rw[Zg b.lu (Nat.le_of_add_le_add_left (Sd (XD (zCy _ _)) b.m))];exact b.up⟩
  case istep =>
   rintro x c g _ t @⟨y,_,e,b⟩;refine aF (λc=>So ⟨e,SF _,Sd b.lu b.uk,XD (zCy _ _),b.dn,by rw[Zg b.lu c];exact b.up⟩) λc=>?_
   have c:y.1<y.2:=zDM c;have d:y.1<=(y.1+y.2) / 2:=by lia
   have l:(y.1+y.2) / 2<y.2:=by lia
   dsimp only;generalize (y.1+y.2) / 2=m at d l ⊢;have h:=Tt l b.uk;rw[e];refine Sk (kr C u q o N n (SF _) (Zd (UD h) lo) (aF (λc=>So ⟨rfl,d,UD h,?_,b.dn,λi a d=>Tt (XO c) (sg _ _ (VP _ _) a d)⟩) λc=>So ⟨rfl,l,b.uk,?_,λi a d=>Sd (sg i (lo+m) a (Yr d) (Nat.add_lt_add_left h lo)) (Xa.mp λe=>c (U5 e)),b.up⟩));have:=b.m;dsimp only at this ⊢;lia;have:=b.m;dsimp only at this ⊢;lia
  case ipost =>
   rintro c g @⟨y,_,e,b⟩;rw[e];have g:lo+k<(arrOf f).size:=N.le o n;have n:=Zd b.uk lo;have h:=Ho (r:=r) g (Xl (lo+k) (lo+y.1));rw[Nat.sub_sub_self n]at h;have l:∀i,i<lo+y.1->rk r (bubble (arrOf f) (lo+k) (lo+k - (lo+y.1))) i=rk r (arrOf f) i:=λi d=>by rw[h,if_neg (Uw d),if_neg λe=>Nat.lt_asymm d e.1]
   have m:=h (lo+y.1);rw[Rv rfl]at m;have o:∀i,lo+y.1<=i->i<lo+k->rk r (bubble (arrOf f) (lo+k) (lo+k - (lo+y.1))) (i+1)=rk r (arrOf f) i:=λi d e=>by rw[h,if_neg (Yg (Nat.lt_succ_of_le d)),Rv ⟨Nat.lt_succ_of_le d,e⟩];rfl
   refine Sk (Z7 (So ⟨⟨N.k,N.f,N.p,(bubble_perm _ _ _).trans N.a,λi p=>?_⟩,λi j a d c=>?_⟩));show(bubble (arrOf f) (lo+k) (lo+k - (lo+y.1)))[i]?=_;have h:=Tt p (VP lo y.1);rw[getElem?_bubble g _ (Xl _ _),Nat.sub_sub_self n,if_neg (Uw h),if_neg λe=>Nat.lt_asymm h e.1];exact N.fr i p;show rk r (bubble (arrOf f) (lo+k) (lo+k - (lo+y.1))) i<=rk r (bubble (arrOf f) (lo+k) (lo+k - (lo+y.1))) j;generalize bubble (arrOf f) (lo+k) (lo+k - (lo+y.1))=w at l m o ⊢;rcases zCE j (lo+y.1)with q|q|q;rw[l i (Xh d q),l j q];exact sg i j a d (Tt q n);rw[q]at d ⊢;rcases zCi d with g|g;rw[m,l i g];exact b.dn i a g;rw[g];exact SF _;cases j with
   |zero=>exact absurd q (zDV _)
   |succ j =>
    have f:=Yr q;have e:=Nat.lt_of_succ_lt_succ c;rw[o j f e];rcases zCE i (lo+y.1)with g|g|g;rw[l i g];exact sg i j a (Sd (UD g) f) e;rw[g,m];exact UD (b.up j f e);cases i with
    |zero=>exact absurd g (zDV _)
    |succ i =>
     have a:=Yr g;have b:=Nat.le_of_succ_le_succ d;rw[o i a (Xh b e)];exact sg i j (Sd (VP _ _) a) b e
end
def Chain:List (Nat×Nat×Nat)->Nat->Nat->Prop
 |[],s,e=>s=e
 |q::a,s,e=>q.1=s/\0<q.2.1/\Chain a (s+q.2.1) e
theorem Chain.len:∀{ps:List (Nat×Nat×Nat)} {s e:Nat},Chain ps s e->s+ps.length<=e
 |[],s,e,h=>by have a:s=e:=h;simp[a]
 |q::ps,s,e,h=>by obtain⟨_,b,a⟩:=h;rw[Ye,zCy _ 1,<- zCp];exact Sd (zCT (Zd b s) _) (Chain.len a)
theorem Chain.app:∀{ps qs:List (Nat×Nat×Nat)} {s e:Nat},Chain (ps++qs) s e↔∃ m,Chain ps s m/\Chain qs m e
 |[],qs,s,e=>⟨λh=>⟨s,rfl,h⟩,λ⟨m,f,d⟩=>by have:s=m:=f;simp_all⟩
 |q::ps,qs,s,e=>by constructor;rintro⟨a,b,c⟩;obtain⟨m,f,d⟩:=Chain.app.mp c;exact⟨m,⟨a,b,f⟩,d⟩;rintro⟨m,⟨a,b,c⟩,d⟩;exact⟨a,b,Chain.app.mpr ⟨m,c,d⟩⟩
theorem Chain.in_:∀{ps:List (Nat×Nat×Nat)} {s e:Nat},Chain ps s e->∀q∈ps,s<=q.1/\q.1+q.2.1<=e
 |[],_,_,_,q,h=>by cases h
 |p::ps,s,e,h,q,d=>by
  obtain⟨a,b,c⟩:=h;have l:=Chain.len c;rcases Tx.mp d with z|z;rw[z,a];exact⟨SF _,Sd (VP _ _) l⟩;exact⟨Sd (VP _ _) (Chain.in_ c q z).1,(Chain.in_ c q z).2⟩
theorem xS{f:Nat×Nat×Nat->Nat×Nat×Nat}(d:∀q,(f q).1=q.1/\(f q).2.1=q.2.1):∀{ps:List (Nat×Nat×Nat)} {s e:Nat} (i:Nat),Chain ps s e->Chain (ps.modify i f) s e
 |[],s,e,i,h=>by grind
 |q::ps,s,e,0,⟨a,b,c⟩=>by exact⟨(d q).1.trans a,by rw[(d q).2];exact b,by rw[(d q).2];exact c⟩
 |q::ps,s,e,i+1,⟨a,b,c⟩=>by exact⟨a,b,xS d i c⟩
theorem CP{f:Nat×Nat×Nat->Nat×Nat×Nat}(b:∀q,(f q).1=q.1/\(f q).2.1=q.2.1):∀{ps:List (Nat×Nat×Nat)} (i:Nat) {q:Nat×Nat×Nat},q∈ps.modify i f->∃a∈ps,q.1=a.1/\q.2.1=a.2.1
 |[],i,q,h=>by grind
 |p::ps,0,q,h=>by grind
 |p::ps,i+1,q,h=>by
  rcases Tx.mp h with z|z;grind;obtain⟨a,m,e⟩:=CP b i z;exact⟨a,by simp_all,e⟩
def Jr{ps:List (Nat×Nat×Nat)}{q:Nat×Nat×Nat}(h:q∈ps.modify i f)(b:∀q,(f q).1=q.1/\(f q).2.1=q.2.1):∃a∈ps,q.1=a.1/\q.2.1=a.2.1:=CP b i h
section
variable{M:Model}{A:Around}{E:yaa}{s:Shared}{r:Keyed->Nat}{Mem:Keyed->Prop}{k0:SortKind}
structure PI(r:Keyed->Nat)(st st':SortSt)(lo:Nat):Prop where
 k:kindOf st'=kindOf st
 f:failedOf st'=failedOf st
 a:(arrOf st').Perm (arrOf st)
 ch:Chain (pendingOf st').toList 0 lo
 sg:∀q∈(pendingOf st').toList,Seg r (arrOf st') q.1 (q.1+q.2.1)
theorem PI.size{st a:SortSt}{lo:Nat}(h:PI r st a lo):(arrOf a).size=(arrOf st).size:=h.a.size_eq
def PI.mem{st a:SortSt}{lo:Nat}(h:PI r st a lo)(b:∀x∈(arrOf st).toList,Mem x):∀x∈(arrOf a).toList,Mem x:=λx a=>b x ((zCl.mp h.a).mem_iff.mp a)
def oJ{xs ys:Array Keyed}{lo a:Nat}(h:Seg r xs lo a)(e:∀i,lo<=i->i<a->ys[i]?=xs[i]?):Seg r ys lo a:=λi j a b c=>by rw[gk (e i a (by lia)),gk (e j (by lia) c)];exact h i j a b c
def Px{b:Type}{l:List b}{i:Nat}(h:i+1<l.length):∃a x y bs,l=a++(x::y::bs)/\a.length=i/\l[i]?=some x/\l[i+1]?=some y:=by
 refine⟨l.take i,l[i],l[i+1],l.drop (i+2),?_,by grind,by simp_all,by simp_all⟩
 simp_all
def Df{st c:SortSt}{lo i:Nat}{Q:Bool->SortSt->Prop}(C:Yn M A E s r Mem k0)(q:kindOf st=k0)(z:failedOf st=none)(N:∀x∈(arrOf st).toList,Mem x)(f:lo<=(arrOf st).size)(I:PI r st c lo)(a:i+1<(pendingOf c).size)
  (h:∀d,PI r st d lo->(pendingOf d).size+1=(pendingOf c).size->(∀i,lo<=i->(arrOf d)[i]?=(arrOf c)[i]?)->Q true d):wpS M A E s (mergeAt' i) Q c:=by
 obtain⟨as,x,y,U,j,L,Q,O⟩:=Px (l:=(pendingOf c).toList) a;have b:=I.ch;rw[j]at b;obtain⟨m,G,⟨o,w,⟨B,t,l⟩⟩⟩:=Chain.app.mp b;have u:=Sd (VP _ _) l.len;rw[zCp]at u l;have k:=I.size;obtain⟨P,p,S,e,g,b⟩:=NJ (arrOf c) (lo:=m) (n:=x.2.1+y.2.1) (by rw[k];exact Sd u f);obtain⟨X,Y,n,f,k⟩:∃X Y,p=X++Y/\X.length=x.2.1/\Y.length=y.2.1:=⟨p.take x.2.1,p.drop x.2.1,(XB _ _).symm,by rw[Xj];lia,by rw[W5];lia⟩;subst n;have H:=I.sg x (by rw[j];simp);have p:=I.sg y (by rw[j];simp);have n:(arrOf c).toList=P++(X++(Y++S)):=by rw[e,Xi]
 have T:(arrOf c).toList=(P++X)++(Y++S):=by rw[n,Xi]
 have J:X.Pairwise λx y=>r x<=r y:=lS n (by rw[g,f,<- o];exact H)
 have H:Y.Pairwise λx y=>r x<=r y:=lS T (by rw[Vh,g,f,k,<- B];exact p)
 refine Js C (I.k.trans q) (I.f.trans z) (I.mem N) (sa:=x.1) (na:=x.2.1) (p:=x.2.2) (sb:=y.1) (nb:=y.2.1) (p2:=y.2.2) (by rw[<- Uz];exact Q) (by rw[<- Uz];exact O) n (by lia) f k (by lia) w t J H λd Z O N t n H J=>?_
 have p:(pendingOf d).toList=as++((x.1,x.2.1+y.2.1,x.2.2)::U):=by rw[t,Array.toList_eraseIdxIfInBounds,Array.toList_setIfInBounds,j,<- L,List.set_append_right _ _ (SF _),Nat.sub_self,List.set_cons_zero,List.eraseIdx_append_of_length_le (by lia),zBj];rfl
 have t:Z.length=x.2.1+y.2.1:=by rw[H.length_eq,Vh,f,k]
 have k:∀i,i<m->(arrOf d)[i]?=(arrOf c)[i]?:=λi a=>by rw[<- Uz,<- Uz,n,e,WZ (by rw[g];exact a),WZ (by rw[g];exact a)]
 have f:∀i,m+(x.2.1+y.2.1)<=i->(arrOf d)[i]?=(arrOf c)[i]?:=λi a=>by
  have C:P.length<=i:=by rw[g];exact Sd (VP _ _) a
  have B:x.2.1+y.2.1<=i - P.length:=by rw[g];exact Nat.le_sub_of_add_le' a
  rw[<- Uz,<- Uz,n,e,WK C,WK C,WK (by rw[t];exact B),WK (by rw[b];exact B),t,b]
 refine h d ⟨O.trans q.symm,N.trans z.symm,?_,?_,λq b=>?_⟩ ?_ λi a=>f i (Sd u a)
 refine Array.Perm.trans (zCl.mpr ?_) I.a;rw[n,e];exact List.Perm.append_left _ (List.Perm.append_right _ H);rw[p];exact Chain.app.mpr ⟨m,G,o,Nat.add_pos_left w _,l⟩;rw[p]at b;rcases Ta.mp b with z|z;have:=G.in_ q z;exact oJ (I.sg q (by rw[j];exact XM _ z)) λi a b=>k i (Tt b this.2)
 rcases Tx.mp z with z|z;rw[z];show Seg r (arrOf d) x.1 (x.1+(x.2.1+y.2.1));have:=B8 (r:=r) n J;rw[g,t]at this;rw[o];exact this;have:=l.in_ q z;exact oJ (I.sg q (by rw[j];exact Wf _ (W4 _ (W4 _ z)))) λi a b=>f i (Sd this.1 a)
 have b:(pendingOf d).toList.length=(pendingOf d).size:=rfl;have a:(pendingOf c).toList.length=(pendingOf c).size:=rfl;rw[<- b,<- a,p,j];simp only[Vh,Ye]
 lia
structure RI(r:Keyed->Nat)(st:SortSt)(x lo:Nat)(st':SortSt):Prop where
 le:lo<=(arrOf st).size
 x:x<=lo∨(arrOf st).size<=lo
 i:PI r st st' lo
def ix2{n:Nat}(h:1<n):n - 2+1<n:=by obtain⟨k,e⟩:=Nat.exists_eq_add_of_le' h;rw[e];exact zCz (k+1)
def HA{st:SortSt}{Q:Unit->SortSt->Prop}(C:Yn M A E s r Mem k0)(w:kindOf st=k0)(B:failedOf st=none)(t:pendingOf st=#[])(u:∀x∈(arrOf st).toList,Mem x)(L:1<=(arrOf st).size)
  (h:∀g,(arrOf g).Perm (arrOf st)->failedOf g=none->Seg r (arrOf g) 0 (arrOf st).size->Q () g):wpS M A E s sortRuns' Q st:=by
 have c:PI r st st 0:=⟨rfl,rfl,Array.Perm.refl _,by rw[t];exact rfl,λq j=>by rw[t]at j;cases j⟩;refine Sk (wpS_get ?_);refine Sk (Xm (Xk (a:=0) (b:=(arrOf st).size) (I:=λx=>CV (RI r st x)) (Q:=CW (arrOf st).size (PI r st · (arrOf st).size)) ?_ ?_ ⟨UE _,.inl (SF _),c⟩) ?_)
 ·rintro x z l _ H @⟨lo,_,I⟩;refine aF (λc=>?_) λc=>?_
  have e:lo=(arrOf st).size:=Zg I.le c;subst e;exact So ⟨I.i⟩;have c:lo<(arrOf st).size:=zDM c;refine Sk (FP C (I.i.k.trans w) (I.i.mem u) (XD ((Nat.add_sub_of_le I.le).trans I.i.size.symm)) (zDH c) λm f d i N sg=>?_)
  suffices key:∀n k,Nr lo l k->Seg r (arrOf k) lo (lo+n)->0<n->lo+n<=(arrOf st).size->wpS M A E s _ _ k by
   refine aF (λp=>?_) λp=>?_
   rotate_left
   obtain⟨n,l⟩:∃n,n=m:=⟨_,rfl⟩;rw[<- l];rw[<- l]at sg d i;exact key n f N sg d (zDJ I.le i);refine Sk (wpS_lift (YZ ⟨rfl,?_⟩));have o:=zDJ I.le (Nat.min_le_left ((arrOf st).size - lo) (minRun' (arrOf st).size (arrOf st).size 0));refine Sk (Iz C ((N.k.trans I.i.k).trans w) (N.mem (I.i.mem u)) (by rw[N.size,I.i.size];exact o) sg λk i sg3=>aF (λz=>absurd z (by decide)) λ_=>?_);exact key _ _ (N.trans i) sg3 (Nat.lt_min.mpr ⟨zDH c,Nat.lt_trans d p⟩) o
  clear N sg;intro n k N sg G o;have y:PI r st k lo:=⟨N.k.trans I.i.k,N.f.trans I.i.f,N.a.trans I.i.a,by rw[N.p];exact I.i.ch,λq j=>by rw[N.p]at j;exact oJ (I.i.sg q j) λi a b=>N.fr i (Tt b (I.i.ch.in_ q j).2)⟩
  have l:∀d:SortSt,PI r st d lo/\Seg r (arrOf d) lo (lo+n)->RI r st (x+1) (lo+n) (setPending d ((pendingOf d).push (lo,n,0))):=λd ⟨m,p⟩=>⟨o,.inl (Nat.add_le_add (I.x.resolve_right (Nat.not_le.mpr c)) G),m.k,m.f,m.a,by
   show Chain ((pendingOf d).push (lo,n,0)).toList 0 (lo+n);rw[zCW];exact Chain.app.mpr ⟨lo,m.ch,rfl,G,rfl⟩,λq j=>by
   have o:q∈((pendingOf d).push (lo,n,0)).toList:=j;rw[zCW]at o;rcases Ta.mp o with z|z;exact m.sg q z;rw[VF.mp z];exact p⟩
  refine Sk (wpS_get ?_);dsimp only;split;refine Sk (Xm (Xk (a:=0) (b:=(arrOf st).size) (I:=λ_=>CW () λd=>PI r st d lo/\Seg r (arrOf d) lo (lo+n)) (Q:=CW () λd=>PI r st d lo/\Seg r (arrOf d) lo (lo+n)) ?_ (λ_ _ z=>z) ⟨y,sg⟩) ?_);rintro x z d _ H ⟨p⟩;refine Sk (wpS_get ?_);split;rename_i m;have t:(pendingOf d).size > 1:=by by_cases c:(pendingOf d).size > 1;exact c;rw[if_neg c]at m;cases m
  exact aF (λ_=>So ⟨p⟩) λ_=>Sk (Df C w B u I.le p.1 (ix2 t) λJ n _ m=>aF (λz=>absurd z (by decide)) λ_=>So ⟨n,oJ p.2 λi a b=>m i a⟩)
  exact So ⟨p⟩;rintro z d ⟨p⟩;refine Sk (Z7 ?_);refine Sk (Z7 (So ⟨l _ ⟨⟨p.1.k,p.1.f,p.1.a,?_,λq j=>?_⟩,p.2⟩⟩));show Chain ((pendingOf d).modify _ _).toList 0 lo;rw[Array.toList_modify];refine xS ?_ _ p.1.ch;exact λ_=>⟨rfl,rfl⟩
  have o:q∈((pendingOf d).modify _ _).toList:=j;rw[Array.toList_modify]at o;obtain⟨d,i,m,j⟩:=Jr o λ_=>⟨rfl,rfl⟩
  rw[m,j];exact p.1.sg d i;exact Sk (Z7 (So ⟨l _ ⟨y,sg⟩⟩))
 rintro z g @⟨lo,_,I⟩;have e:lo=(arrOf st).size:=Zg I.le (I.x.elim (Sd (Nat.le_max_right _ _)) id);subst e;exact⟨I.i⟩;rintro z g ⟨I⟩;have d:=I.ch.len;rw[YX]at d;refine Sk (Xm (Xk (a:=0) (b:=(arrOf st).size) (I:=λx=>CW () λf=>PI r st f (arrOf st).size/\((pendingOf f).size<=1∨(pendingOf f).size+x<=(arrOf st).size)) (Q:=CW () λf=>PI r st f (arrOf st).size/\(pendingOf f).size<=1) ?_ ?_ ⟨I,.inr d⟩) ?_);rintro x z f _ H ⟨p⟩;refine Sk (wpS_get (aF (λc=>So ⟨p.1,c⟩) λc=>?_));have c:1<(pendingOf f).size:=zDM c;have d:∀(c:Prop) [Decidable c],(if c then(pendingOf f).size - 2 - 1 else(pendingOf f).size - 2)+1<(pendingOf f).size:=λ_ _=>by split;exact Xh (zCT (Xl _ 1) 1) (ix2 c);exact ix2 c
 exact Sk (Df C w B u (SF _) p.1 (d _) λk y T _=>aF (λz=>absurd z (by decide)) λ_=>So ⟨y,.inr (by have:=p.2;lia)⟩);rintro z f ⟨p⟩;exact⟨p.1,by have:=p.2;lia⟩;rintro z f ⟨p⟩;refine So (h f p.1.a (p.1.f.trans B) ?_);have e:(pendingOf f).toList.length<=1:=p.2;have d:=p.1.ch;have sg:=p.1.sg;generalize (pendingOf f).toList=f at e d sg;rcases f with _|⟨q,_|⟨O,f⟩⟩;exact absurd L (d ▸ Nat.not_succ_le_zero _);obtain⟨a,b,c⟩:=d;have b:0+q.2.1=(arrOf st).size:=c;have:=sg q (by simp);rw[a,b]at this;exact this;exact absurd (Nat.le_of_succ_le_succ e) (Nat.not_succ_le_zero _)
end
end TS
namespace SW
open PySem PyProof.Rows
section
variable{prog:Program}{w:World}{A:Around}{E:yaa}{s:Shared}
def Jj(a:(TK prog w).is h k c)(b:(TK prog w).is h k' c):k=k':=by obtain⟨o,e,n,j,p,m,l⟩:=a;obtain⟨g,d,i,Xc,Yw,Xn,f⟩:=b;grind [PySem.ItemsAre.inj]
def GF {zs:List (yaf×Addr)} {P:PySem.Fin->Shared->Prop} (g:s.heap.get? a=some (seqObj "list" ((zs.map (·.2)).map Value.ref).toArray n)) (hz:zs.length<=sizeLine)
  (h:∀z∈zs,(TK prog w).is s.heap z.1 z.2/\z.1 ≠ [])
  (l:∀h' (ys:List (yaf×Addr)) i,ys.Perm zs->ys.Pairwise (λx y=>lexLt y.1 x.1=false)->(∀b o,b≠a->s.heap.get? b=some o->h'.get? b=some o) →
   h'.get? a=some (seqObj "list" ((ys.map (·.2)).map Value.ref).toArray i)->P (.done (.ret .none)) {s with heap:=h'}):wpAny (model prog w) A (Builtin.«list.sort» ⟨[.ref a],[]⟩) P E s:=by
 have u:a<s.heap.objs.size:=SH g;have f:((zs.map (·.2)).map Value.ref).length=zs.length:=by rw[RH,RH]
 obtain⟨e,c⟩:∃e,(s.heap.update a (Obj.mapSeq λ_=>(#[]:yao))).get? a=some (seqObj "list" #[] e):=⟨_,get?_update_seq g λ_=>#[]⟩;rw[list_sort_plain];refine Rm (listItems_at g rfl ?_);refine Rm (listUpdate_at g rfl ?_ (by rw[WC,f];exact hz) (UE _));refine Rm (seqEpoch_at c rfl ?_);refine Rm (wpAny_newTuple ?_ (by show((zs.map (·.2)).map Value.ref).length<=_;rw[f];exact hz));refine Rm (wpAny_newList ?_ (UE _));refine VT ?_;show wpAny (model prog w) A _ P E {s with heap:=((s.heap.update a (Obj.mapSeq λ_=>(#[]:yao))).push (seqObj "tuple" ((zs.map (·.2)).map Value.ref).toArray 0)).push (seqObj "list" #[] 0)};have d:(((s.heap.update a (Obj.mapSeq λ_=>(#[]:yao))).push (seqObj "tuple" ((zs.map (·.2)).map Value.ref).toArray 0)).push (seqObj "list" #[] 0)).get? a=some (seqObj "list" #[] e):=T5 _ (T5 _ c);have m:∀b o,b≠a->s.heap.get? b=some o->(((s.heap.update a (Obj.mapSeq λ_=>(#[]:yao))).push (seqObj "tuple" ((zs.map (·.2)).map Value.ref).toArray 0)).push (seqObj "list" #[] 0)).get? b=some o:=λb o j e =>
  T5 _ (T5 _ ((Za _ _ (Ne.symm j)).trans e))
 generalize ((s.heap.update a (Obj.mapSeq λ_=>(#[]:yao))).push (seqObj "tuple" ((zs.map (·.2)).map Value.ref).toArray 0)).push (seqObj "list" #[] 0)=H at d m ⊢;have k:∀(ys:List (yaf×Addr)) (c:yao),ys.Perm zs->ys.Pairwise (λx y=>lexLt y.1 x.1=false)->c=((ys.map (·.2)).map Value.ref).toArray->P (.done (.ret .none)) {s with heap:=H.update a (Obj.mapSeq λ_=>c)}:=λys c O S e=>by subst e;obtain⟨i,c⟩:∃i,(H.update a (Obj.mapSeq λ_=>((ys.map (·.2)).map Value.ref).toArray)).get? a=some (seqObj "list" ((ys.map (·.2)).map Value.ref).toArray i):=⟨_,get?_update_seq d λ_=>((ys.map (·.2)).map Value.ref).toArray⟩;exact l _ ys i O S (λb o j e=>(Za _ _ (Ne.symm j)).trans (m b o j e)) c
 have l:(((zs.map (·.2)).map Value.ref).toArray.zip ((zs.map (·.2)).map Value.ref).toArray).toList=zs.map λz=>(Value.ref z.2,Value.ref z.2):=by grind
 dsimp only;by_cases a:((zs.map (·.2)).map Value.ref).toArray.size<2;rw[Rv a,Rv a];refine Rm (Rz ?_);rw[StateT.run_pure];refine Rm (Rz ?_);dsimp only;refine Rm (seqEpoch_at d rfl ?_);have b:(((zs.map (·.2)).map Value.ref).toArray.zip ((zs.map (·.2)).map Value.ref).toArray).map (·.2)=((zs.map (·.2)).map Value.ref).toArray:=by apply Array.toList_inj.mp;rw[Array.toList_map,l,UC,UC];rfl
 refine Rm (listUpdate_at d rfl ?_ (hsz2:=by rw[b,WC,f];exact Nat.le_succ_of_le hz));simp only[bne_self_eq_false,zCM,if_false];refine Rz (k zs _ (List.Perm.refl _) ?_ b);rw[WC,f]at a
 match zs,a with
 |[],_=>exact .nil
 |[_],_=>exact List.pairwise_singleton _ _
 rw[if_neg a,if_neg a];rw[WC,f]at a;have i:∀z∈zs,(TK prog w).is H z.1 z.2/\z.1 ≠ []:=λz b=>by obtain⟨a,c⟩:=h z b;exact⟨mJ a λo e=>m z.2 o (key_ne a g rfl (by decide)) e,c⟩
 have f:∀(j:Nat) (c:Addr),(zs.map (·.2))[j]?=some c->∃z∈zs,zs[j]?=some z/\z.2=c:=λj c a=>by
  rw[U0]at a;cases e:zs[j]? with
  |none=>rw[e]at a;cases a
  |some z=>rw[e]at a;cases a;exact⟨z,UZ e,rfl,rfl⟩
 refine Rm (BK (s:={s with heap:=H}) (cs:=zs.map (·.2)) (K:=λj=>(zs.getD j ([],0)).1) (by rw[RH];lia) (λj c a=>by obtain⟨z,b,e,rfl⟩:=f j c a;rw[Xz,e];exact i z b) ?_)
 let key:Keyed->yaf:=λp=>by
  classical
  exact if q:∃z∈zs,p.1=Value.ref z.2 then(Classical.choose q).1 else[]
 have h:∀z∈zs,∀v,key (Value.ref z.2,v)=z.1:=λz b v=>by
  have q:∃a∈zs,(Value.ref z.2:Value)=Value.ref a.2:=⟨z,b,rfl⟩;show(if q:∃a∈zs,(Value.ref z.2:Value)=Value.ref a.2 then(Classical.choose q).1 else[])=z.1;rw[dif_pos q];obtain⟨m,e⟩:=Classical.choose_spec q;have f:z.2=(Classical.choose q).2:=by injection e
  have c:=(i _ m).1;rw[<- f]at c;exact Jj c (i z b).1
 have C:TS.Yn (model prog w) A E {s with heap:=H} (λp=>rank (zs.map (·.1)) (key p)) (λp=>∃z∈zs,p=(Value.ref z.2,Value.ref z.2)) (tuples' true):=⟨λx y st Q ⟨z,f,m⟩ ⟨a,c,g⟩ j q=>by subst m g;rw[lt'_eq];refine Sk (wpS_get ?_);rw[j];refine Sk (wpS_lift (zCY (FK (i z f).1 (i a c).1 ⟨rfl,?_⟩)));refine So ?_;rw[h z f,h a c,C4 (S5.mpr ⟨z,f,rfl⟩) (S5.mpr ⟨a,c,rfl⟩)]at q;exact q⟩
 refine Rm (VI (TS.HA (Q:=λ_ a=>∃ys:List (yaf×Addr),ys.Perm zs/\ys.Pairwise (λx y=>lexLt y.1 x.1=false)/\failedOf a=none/\(arrOf a).toList=ys.map λz=>(Value.ref z.2,Value.ref z.2)) C rfl rfl rfl ?_ ?_ ?_) ?_ λ_ _ e=>e);intro x e;have c:x∈(((zs.map (·.2)).map Value.ref).toArray.zip ((zs.map (·.2)).map Value.ref).toArray).toList:=e;rw[l]at c;obtain⟨z,b,rfl⟩:=S5.mp c;exact⟨z,b,rfl⟩;show 1<=(((zs.map (·.2)).map Value.ref).toArray.zip ((zs.map (·.2)).map Value.ref).toArray).size;rw[<- VO,l,RH]
 lia
 intro a i f sg;have b:=zCl.mp i;have c:(arrOf a).toList.Perm (((zs.map (·.2)).map Value.ref).toArray.zip ((zs.map (·.2)).map Value.ref).toArray).toList:=b;rw[l]at c;obtain⟨ys,b,g⟩:=AW c zs rfl;refine⟨ys,b,?_,f,g⟩;have r:(arrOf a).toList.length=ys.length:=by rw[g,RH]
 have c:((arrOf a).toList).Pairwise λx y=>rank (zs.map (·.1)) (key x)<=rank (zs.map (·.1)) (key y):=TS.lS (xs:=arrOf a) (P:=[]) (S:=[]) (by simp) (by have:(arrOf a).toList.length=(((zs.map (·.2)).map Value.ref).toArray.zip ((zs.map (·.2)).map Value.ref).toArray).size:=i.size_eq;rw[this];show TS.Seg _ (arrOf a) 0 (0+_);rw[YX];exact sg)
 rw[g,zDE]at c;refine c.imp_of_mem fun {x y} e j q=>?_
 have i:=b.mem_iff.mp e;have c:=b.mem_iff.mp j;rw[h x i,h y c]at q;rw[<- C4 (S5.mpr ⟨y,c,rfl⟩) (S5.mpr ⟨x,i,rfl⟩)];exact decide_eq_false (Xa.mpr q);rintro⟨⟨⟩,a⟩ t ⟨rfl,ys,b,e,f,g⟩;dsimp only;have c:(arrOf a).map (·.2)=((ys.map (·.2)).map Value.ref).toArray:=by apply Array.toList_inj.mp;rw[Array.toList_map,g,UC,UC];rfl
 rw[c];refine Rm (seqEpoch_at d rfl ?_);refine Rm (listUpdate_at d rfl ?_ (UE _) (by rw[WC,RH,RH,b.length_eq];exact Nat.le_succ_of_le hz));have c:failedOf a=none:=f;rw[c];simp only[bne_self_eq_false,zCM,if_false];exact Rz (k ys _ b e rfl)
end
open PySem PySem.SetTable ST PySem.W PyProof.Rows
section
variable{prog:Program}{w:World}{A:Around}{E:yaa}{s:Shared}
def QL(prog:Program)(w:World)(A:Around)(s:Shared)(v:Value)(xs:List (yaf×Addr)):Prop:=∀(R:yad->Shared->Prop) (E:yaa),(∀s1 (a:List (yaf×Addr)),a.Perm xs->(∀b o,s.heap.get? b=some o->s1.heap.get? b=some o)->s1.gens=s.gens->s1.drawn=s.drawn->s1.os=s.os->s.heap.objs.size<=s1.heap.objs.size->R ((a.map (·.2)).map Value.ref) s1)->wpAny (model prog w) A (collect v) R E s
def HC{Q:yaa}(a:QL prog w A.in1 s v xs)(u:xs.length<=900)(q:∀x∈xs,(TK prog w).is s.heap x.1 x.2/\x.1 ≠ [])
  (k:∀s' (D:Addr) (ys:List (yaf×Addr)) c,(∀b o,s.heap.get? b=some o->s'.heap.get? b=some o)->s'.gens=s.gens->s'.drawn=s.drawn->s'.os=s.os->s.heap.objs.size<=D->ys.Perm xs->ys.Pairwise (λx y=>lexLt y.1 x.1=false) →
   s'.heap.get? D=some (seqObj "list" (ys.map λy=>Value.ref y.2).toArray c)->Q (.ref D) s'):wpAny (model prog w) A (call (.builtin "sorted") [v]) Q E s:=by
 refine Calls.call_function_entry kind_sorted plain_sorted entry_sorted (args_sorted1 _) ?_;refine Rm (m:=checkCount "sorted" 1 1 _) (Rz ?_);refine Rm (a _ _ λa c f kp m l g3 g=>?_);have t:c.length=xs.length:=f.length_eq;have r:900<=sizeLine:=by decide
 refine Rm (wpAny_newList ?_ (by rw[RH,RH];lia));have d:(a.heap.push (seqObj "list" ((c.map (·.2)).map Value.ref).toArray 0)).get? a.heap.objs.size=some (seqObj "list" ((c.map (·.2)).map Value.ref).toArray 0):=Vi _ rfl;have h:∀b o,s.heap.get? b=some o->(a.heap.push (seqObj "list" ((c.map (·.2)).map Value.ref).toArray 0)).get? b=some o:=λb o e=>T5 _ (kp b o e)
 refine Rm (VT (YU slot_list_sort ⟨_,d,rfl⟩ entry_list_sort ?body (args_list_sort _)))
 case body =>
  refine GF (s:={a with heap:=a.heap.push (seqObj "list" ((c.map (·.2)).map Value.ref).toArray 0)}) d (by lia) (λz j=>?_) λB ys n i d p c=>?_
  have:=q z (f.mem_iff.mp j);exact⟨mJ this.1 λo e=>h _ o e,this.2⟩;refine⟨_,rfl,Rz ⟨_,rfl,k _ a.heap.objs.size ys n (λb o e=>?_) m l g3 g (i.trans f) d ?_⟩⟩;exact p b o (Uw (Tt (SH e) g)) (h b o e);rw[UC]at c;exact c
def B9{Q:yaa}(hh:A.handled=none)(X:jr prog w s.heap a xs)(e:xs.length<=900)(q:∀x∈xs,x.1 ≠ [])
  (n:∀d (D:Addr) (ys:List (yaf×Addr)) c,(∀b o,s.heap.get? b=some o->d.heap.get? b=some o)->d.gens=s.gens->d.drawn=s.drawn->d.os=s.os->s.heap.objs.size<=D->ys.Perm xs->ys.Pairwise (λx y=>lexLt x.1 y.1=true) →
   d.heap.get? D=some (seqObj "list" (ys.map λy=>Value.ref y.2).toArray c)->Q (.ref D) d):wpAny (model prog w) A (call (.builtin "sorted") [.ref a]) Q E s:=by
 obtain⟨⟨o,g,p,t,l,b,m,f,T,B,_,_⟩,i,j⟩:=X;have h:g.size=xs.length:=by rw[<- VO,f,RH]
 refine HC (xs:=xs) (λR E' k=>?_) e (λx e=>⟨i x e,q x e⟩) λd D ys c z u t r q e i o=>n d D ys c z u t r q e ?_ o
 refine BG (show A.in1.handled=none from hh) l b.1 m T (by rw[RH,h]) B (by lia) λd b kp n m g3 l I=>?_
 obtain⟨c,h,H⟩:=AW (sU w a g p) xs f;have a:b=(c.map (·.2)).map Value.ref:=by simp_all
 rw[a];exact k d c h kp n m g3 l;have b:(ys.map (·.1)).Nodup:=(e.map (·.1)).nodup_iff.mpr j;have a:ys.Pairwise λx y=>x.1≠y.1:=zDE.mp b
 refine(i.and a).imp fun {x y} a=>?_
 obtain⟨G,C⟩:=a;grind [lQ]
end
end SW
namespace PD
open PySem PySem.Spec PyProof.Rows L2
section
variable{X:Cx}{pos:Pos}
def boot_sorted:bootBuiltins "sorted" = some (.builtin "sorted"):=by kernel_rfl
def boot_set:bootBuiltins "set" = some (.type "set"):=by kernel_rfl
theorem uU:∀{ns:yaf} {a:yad},Vals (ns.map V.int) a->PySem.ItemsAre (intKind prog w) ns a
 |[],a,r=>by cases r;exact .nil
 |n::ns,a,r=>by
  cases r with
  |cons h t =>
   obtain⟨b,rfl⟩:=h;exact .cons (by simp[intKind,Value.isInt]) (uU t)
def CJ{k:yaf}(I:Inv X pins σ H s)(h:SJ X.K H a (k.map V.int)):(SW.TK X.prog X.w).is s.heap k a:=by obtain⟨c,r,⟨o,e,b,n,a⟩,_⟩:=I.tuple h.w;exact⟨o,c.toArray,n,e,b,a,by simpa using uU r⟩
def Gi(a:bS k A):A.in1.in1.in1.units<cLine:=Xh (by lia) a.units
def tupI(k:yaf):D:=.tup (k.map D.int)
def QG{K:yac}{P:yak}{H:Hp}{k:yaf}{v:V}(h:Den K P H (tupI k) v):∃a,v=.ref a/\SJ K H a (k.map V.int):=by
 obtain⟨a,b,e,q,a⟩:=h.UW;rw[dh a]at q
 simp_all
def zt(ys a:List (yaf)):Prop:=ys.Pairwise (λx y=>SW.lexLt x y=true)/\∀k,k∈ys↔k∈a
def II(te:DE):DA:=λa Q=>te a λd=>∃t a,d=.lst t (a.map tupI)/\a.length<=900/\(∀k∈a,k ≠ [])/\∀b,zt b a->Q (b.map tupI)
def uM {e:Expr} {te:DE} {p p2 O:Pos} (hc:X.calm=true) (hu:X.A.in1.in1.in1.units<cLine) (hg:Gl X "sorted") (hm:X.mg "sorted" = none) (hg2:Gl X "set") (WT:X.mg "set" = none) (he:RU X e te)
  (UJ:starEach [.Call (.Name "set" p2) [e] [] O] X.env=(false,eval (.Call (.Name "set" p2) [e] [] O) X.env)::starEach [] X.env:=by rfl) (TB:(backTo pos (starEach [] X.env)).any (·.1)=false:=by rfl)
  (YC:starEach [e] X.env=(false,eval e X.env)::starEach [] X.env:=by rfl) (C:(backTo O (starEach [] X.env)).any (·.1)=false:=by rfl) :
  WH X (.Call (.Name "sorted" p) [.Call (.Name "set" p2) [e] [] O] [] pos) (II te):=by
 intro g s U H W ρ Q I r h;refine Z4 (di I hg hm boot_sorted ?_ (by decide) (by decide));refine PyProof.Rows.callWith_builtin1 ?_ UJ TB;rw[UJ];refine Calls.spliced_cons ?_;refine Z4 (di I hg2 WT boot_set ?_ (by decide) (by decide));refine PyProof.Rows.callWith_type1 ?_ YC C;rw[YC];refine Calls.spliced_cons (Rw (he g s U H W ρ _ I r h) λu J Ry=>?_);obtain⟨v,o,d,w,L,e1,hd,t,f,ed,lk,TN,q⟩:=Ry;subst ed;obtain⟨l,vs,ev,_,hq,hw⟩:=hd.UI;subst ev;cases L;refine Rz ?_;obtain⟨T,L,pl,_⟩:=w.list hq;have hh:=w.ok.hd hc;have lvs:vs.length=f.length:=by rw[hw.len,RH]
 have l:T.length=f.length:=by rw[<- L.length,lvs]
 have G:∀(j:Nat) (k:yaf),f[j]?=some k->∃c:Addr,T[j]?=some (Value.ref c)/\SJ X.K o c (k.map V.int):=λj k hk=>by obtain⟨v,ev,hv⟩:=hw.get (i:=j) (d:=tupI k) (by rw[U0,hk];rfl);obtain⟨c,rfl,hc⟩:=QG hv;obtain⟨u,eu,ru⟩:=L.get ev;cases ru;exact⟨c,eu,hc⟩
 refine SW.call_set_list hh hu pl.isList (by rw[WC];lia) (λj=>f.getD j []) (λj v hj=>?_) λh2 x Y kp S yl yk yi=>?_
 have X4:T[j]?=some v:=by simpa using hj
 have a:j<f.length:=by rw[<- l];exact(VE.mp X4).1
 obtain⟨c,E,N⟩:=G j f[j] (Ul a);rw[X4]at E;cases E;rw[show f.getD j []=f[j]by simp[a]];exact⟨c,rfl,CJ w N⟩;have I2:L2.Inv X g U o {J with heap:=h2,toks:=x}:=w.kept kp;refine Rz ?_;rw[WC]at yl yk yi;have m:∀k,k∈Y.map (·.1)↔k∈f:=λk=>by rw[yk k];constructor;rintro⟨j,a,e⟩;rw[l]at a;rw[e,show f.getD j []=f[j]by simp[a]];exact YT a;intro hk;obtain⟨j,a,e⟩:=XN hk;exact⟨j,by rw[l];exact a,by rw[<- e];simp[a]⟩
 have den:∀y∈Y,SJ X.K o y.2 (y.1.map V.int):=λy M=>by
  obtain⟨j,a,n⟩:=yi y M;have b:T[j]?=some (.ref y.2):=by simpa using n
  rw[l]at a;obtain⟨c,E,N⟩:=G j f[j] (Ul a);rw[b]at E;cases E;have i:=CJ I2 N;rw[(SW.TK X.prog X.w).inj (S.is_ y M) i];exact N
 refine SW.B9 (s:={J with heap:=h2,toks:=x}) hh S (by lia) (λy M=>TN _ ((m _).mp (S5.mpr ⟨y,M,rfl⟩))) λA D i c kp' g1 g2 g3 le B sz hD=>?_
 have lz:i.length=Y.length:=B.length_eq;have es:A={J with heap:=A.heap,toks:=A.toks}:=by cases A;dsimp only at g1 g2 g3 ⊢;subst g1 g2 g3;rfl
 have t:J.heap.objs.size<=D:=by obtain⟨_,_,_,_,ho,_⟩:=S.ex;exact UD (Tt (SH ho) le)
 have nD:o D=none:=w.R7.fresh t;have I3:L2.Inv X g U (L2.upd o D (.lst (i.map λz=>V.ref z.2))) A:=by
  rw[es];refine w.laid (λb u e=>kp' b u (kp b u e)) t ⟨by rw[RH,To];lia,i.map λz=>Value.ref z.2,c,?_,hD⟩;clear B sz hD lz
  induction i with
  |nil=>exact .nil
  |cons z i ih=>exact .cons rfl ih
 have dz:ah X.K W.bad o ((i.map (·.1)).map tupI) (i.map λz=>V.ref z.2):=by
  have UU:∀z∈i,SJ X.K o z.2 (z.1.map V.int):=λz t=>den z (B.mem_iff.mp t)
  clear B sz hD lz I3
  induction i with
  |nil=>exact rfl
  |cons z i ih =>
   refine ah.cons (Den.tup (UU z zB9) ?_) (ih λz t=>UU z (W4 _ t));show ah X.K W.bad o (z.1.map PD.D.int) (z.1.map V.int);generalize z.1=k
   induction k with
   |nil=>exact rfl
   |cons n k b=>exact ah.cons (Den.int n) b
 have b:=Inv.kno I3 aP;refine⟨D,_,_,_,rfl,I3,e1.trans (av.upd nD),e1.free nD,b,aP,ah.apart nD b dz,q _ ⟨?_,λk=>?_⟩⟩;exact zDE.mpr sz;rw[(B.map (·.1)).mem_iff];exact m k
end
end PD
namespace HT
open PySem PyProof.Rows
section
open PySem.SeqAt
open PySem.AutoSeq1 (wpAny_loadPart')
open PySem.MeetsSeq PySem.MeetsSeq2 PySem.MeetsSeq3
end
end HT
namespace PD
open PySem PySem.Spec PyProof.Rows L2
section
variable{X:Cx}{pos:Pos}
def Ln (G:X.calm=true):cN X (.builtin "min") (λp Q=>∃(t:Bool) (ns:yaf),p=[.lst t (ns.map D.int)]/\0<ns.length/\∀m,m∈ns->(∀n∈ns,m<=n)->Q (.int m)):=by
 intro k s O H W p U Y Q I tr r E q;obtain⟨t,ns,e,h,q⟩:=q;subst e;obtain⟨v,rfl,J⟩:=k6 E;obtain⟨a,T,M,_,B,A⟩:=J.UI;subst M;cases r with
 |cons w u =>
  cases u;cases w;obtain⟨Rt,i,x,_⟩:=I.list B;rw[dh A]at i;have l:=intsAre_of i;obtain⟨b,o⟩:=l.allInts.items;have C:s.heap.IsList a (intItems b):=by rw[<- o];exact x.isList
  have d:ns=b.toList.map (·.1):=by rw[<- l.numsOf,<- nums_intItems,<- o]
  have f:0<b.size:=by rw[d,RH,VO]at h;exact h
  refine min_intList (I.ok.hd G) C f λy h' tk z kp=>?_
  obtain⟨tt,rfl⟩:=intItems_at z;obtain⟨g1,L⟩:=argBest_lt (numAt b) (b.size - 1);have g:∀j,j<b.size->b.toList.map (·.1) ≠ []->numAt b j∈ns:=λj c _=>by
   rw[d,numAt_eq];have:(b.toList.map (·.1))[j]?=some ((b.toList.map (·.1)).getD j 0):=by simp[c]
   exact UZ this
  refine⟨.int _,H,_,I.kept kp,⟨_,rfl⟩,av.refl H,Den.int _,q _ (g _ (by omega) (by rw[<- d];exact zDT h)) λn m=>?_⟩;rw[d]at m;obtain⟨j,c,N⟩:=XN m;have:numAt b j=n:=by rw[numAt_eq,<- N];simp only[Xz,Ul c,Option.getD_some]
  rw[<- this];rw[RH,VO]at c;exact L j (by omega)
end
def IX(g f g3:DG)(a b c:D)(ρ:Ro)(Q:Ro->Prop):k8 3 (b9 g (b9 f (b9 g3 k7))) (.tup [a,b,c]) ρ Q=g a ρ λe=>f b e λd=>g3 c d Q:=by rw[Ee 3 _ _ rfl];simp only[gdc,gdn]
end PD
namespace SW
open PySem PySem.SetTable ST PySem.W PyProof.Rows
section
variable{prog:Program}{w:World}{A:Around}{E:yaa}{s:Shared}
structure Rj(prog:Program)(w:World)(h:Heap)(a:Addr)(xs:List (Int×Tok)):Prop where
 ex:∃o es ep t,h.get? a=some o/\o.ExactSet/\o.data=.set es ep t/\es.toList=xs.map (λx=>((intKind prog w).hash x.1,Value.int x.1 x.2))/\Tab t (xs.map λx=>(intKind prog w).hash x.1)/\(t.plain=true/\t.led=!w.params.followText "set-order")/\7<=t.mask
 nd:(xs.map (·.1)).Nodup
end
end SW
namespace PD
open PySem PySem.Spec PyProof.Rows L2
section
variable{X:Cx}{pos:Pos}
theorem uL{K:yac}{P:yak}{H:Hp}:∀a:yaf,ah K P H (a.map D.int) (a.map V.int)
 |[]=>rfl
 |n::a=>ah.cons (Den.int n) (uL a)
end
section
variable{X:Cx}
inductive BDQ (X:Cx) (pins:yab) (P:yak) (Q:D->Prop) (f:Flow) (s1:Shared):Prop
 |mk (u:Value) (v:V) (d:D) (R5:St) (H':Hp) (_:f=.ret u) (_:Inv X pins R5 H' s1) (_:RelV v u) (_:av X.Sj H') (_:Den X.K P H' d v) (_:Q d)
abbrev BDP(X:Cx)(pins:yab)(W:Own)(Q:D->Prop):Flow->Shared->Prop:=BDQ X pins (λt a=>W.B a∨(t=true/\W.S a)) Q
abbrev DB:=(D->Prop)->Ro->Prop
def ZV(X:Cx)(d:yal)(t:DB):Prop :=
 ∀ (b:yab) (s:Shared) (a:St) (H:Hp) (W:Own) (c:Ro) (Q:D->Prop),Inv X b a H s->Rel X W H a c->(∀a o,X.Sj a=some o->W.S a)->t Q c →
  wpAny (model X.prog X.w) X.A (execs d X.env) (BDP X b W Q) X.xe s
theorem Sm.ent(f:Sm W H W' H')(r:Rel X W H σ ρ):av X.Sj H' where
 kp:=λb o e n=>f.kp b o (λi z=>by have:=r.ke i b z;lia) (r.ent.kp b o e n) n
 tb:=λb a e=>by obtain⟨g,c⟩:=r.ent.tb b a e;obtain⟨d,h⟩:=f.tb b _ c;grind
 ok:=λk=>f.ok (r.ent.ok k)
def Ae{K:yac}{W b:Own}{H H':Hp}{d:D}{v:V}(f:Sm W H b H')(h:Den K b.bad H' d v):Den K (λt a=>W.B a∨(t=true/\W.S a)) H' d v:=h.R9 λt a z=>by
 rcases z with z|z;exact .inl (by rw[f.B];exact z);exact .inr (.inr ⟨z.1,by rw[f.S];exact z.2⟩)
def FW(t:DS)(u:DB):DB:=λQ a=>t {nx:=u Q,rt:=Q} a
def dQ{st:Stmt}{rest:yal}{t:DS}{u:DB}(e:UQ X st t)(g:ZV X rest u):ZV X (st::rest) (FW t u):=by
 intro a s b H W c Q I r d h;refine zCe (Rw (e a s b H W c _ I r h) λf c e=>?_);obtain⟨k,h,j,i,b,q⟩:=e;cases f with
 |next =>
  obtain⟨f,e,q⟩:=q;refine Rw (g a c h j k f Q i e (by rw[b.S];exact d) q) λn m ⟨w,v,d,c,l,e,k,f,sm,a,g⟩=>⟨w,v,d,c,l,e,k,f,sm,?_,g⟩
  rw[b.B,b.S]at a;exact a
 |ret w =>
  obtain⟨v,d,f,a,g⟩:=q;exact⟨w,v,d,h,j,rfl,i,f,b.ent r,Ae b a,g⟩
 |brk=>obtain⟨_,_,q⟩:=q;exact q.elim
 |cont=>obtain⟨_,_,q⟩:=q;exact q.elim
def Kv(t:DS):DB:=λQ a=>t {nx:=λ_=>False,rt:=Q} a
def Nv{st:Stmt}{t:DS}(d:UQ X st t):ZV X [st] (Kv t):=by
 intro a s b H W c Q I r k h;refine zCe (Rw (d a s b H W c _ I r h) λf j b=>?_);obtain⟨W',g,i,h,a,q⟩:=b;cases f with
 |next=>obtain⟨_,_,q⟩:=q;exact q.elim
 |ret w =>
  obtain⟨v,d,b,e,c⟩:=q;exact⟨w,v,d,g,i,rfl,h,b,a.ent r,Ae a e,c⟩
 |brk=>obtain⟨_,_,q⟩:=q;exact q.elim
 |cont=>obtain⟨_,_,q⟩:=q;exact q.elim
def Qi(X:Cx)(t:DB):TS:=λD a H=>∃W b Q,Rel X W H a b/\(∀a o,X.Sj a=some o->W.S a)/\t Q b/\∀b v d,av X.Sj b->Den X.K (λt a=>W.B a∨(t=true/\W.S a)) b d v->Q d->D.rt v b
def ZV.ps(h:ZV X ss t):PSs X ss (Qi X t):=by
 intro a s b H D I q;obtain⟨W,c,Q,r,d,e,k⟩:=q;refine Rw (h a s b H W c Q I r d e) λf j g=>?_
 obtain⟨u,v,d,h,a,e,i,b,sm,f,c⟩:=g;subst e;exact⟨v,h,a,i,b,k a v d sm f c⟩
theorem ZV.Z8(h:ZV X.Z8 ss t):ZV X ss t:=λa s b H W c Q I r d e =>
 VI (h a s b H W c Q (I.wish _) (r.wish _) d e) (λ_ _ f=>(by obtain⟨u,v,d,g,i,e,h,a,b,c,q⟩:=f;exact⟨u,v,d,g,i,e,h.Tp,a,b,c,q⟩)) λ_ _ z=>False.elim z
end
section
variable{P:Program}{w:World}{K:yac}{mg:yam}{base:Heap}
def aw.okB{x a:Str}{st:Stmt}{f:Addr}{e:FuncData}{N ps:yah}{k:Nat}{sp:DSp}(F:aw K x a st f e)(S:ay N ps (ao st))(d:∀b Q E,sp b Q E->b.length=ps.length)
  (o:∀(c:Value) (A:Around) (outer:List Env) (s:Shared) (H:Hp) (E:XK),bS k (A.deeper (envOfC a (ao st) s.heap.objs.size f c)) →
   ∃ t,ZV (c9 (CX1 P w) P w K mg base N a (ao st) f c A outer s H E).Z8 (cn st) t/\∀b Q Ed,sp b Q Ed->t Q (cG N b)):aG P w K mg base (CX1 P w) (k+1) f e ps (aH K sp):=by
 obtain⟨y,u,B,kV,n,r,G,c,C,g,rfl,lk,a⟩:=F.ex;refine Kz lk a S (λa H Q E h=>?_) λA outer s H a Q E j h=>?_
 obtain⟨_,b,_,_,_,_,e,f,_⟩:=h;rw[e.len];exact d b _ _ f;obtain⟨p,b,d,Ed,l,m,e,f,i,z⟩:=h;obtain⟨t,a,k⟩:=o c A outer s H E j;refine⟨_,a.Z8.ps,⟨p,λ_=>none,λa=>∃o,H a=some o⟩,_,d,Rel.start m e rfl l,λa o e=>⟨o,e⟩,k b d Ed f,λb v d sm a q=>?_⟩;exact i d v b sm a q
end
section
variable{X:Cx}
def Rel.forget(r:Rel X W H σ ρ)(i:Nat):Rel X W H σ (ρ.set i none) where
 val:=λj d h=>by
  by_cases e:j=i
  ·subst e;by_cases l:j<ρ.length
   all_goals simp_all
  rw[Vx (Ne.symm e)]at h;exact r.val j d h
 own:=λj d h=>by
  by_cases e:j=i
  ·subst e;by_cases l:j<ρ.length
   all_goals simp_all
  rw[Vx (Ne.symm e)]at h;exact r.own j d h
 inj:=r.inj
 kn:=r.kn
 ke:=r.ke
 bt:=r.bt
 st:=r.st
 ent:=r.ent
 tab:=r.tab
def Rel.apart{H':Hp}{Z:Addr->Prop}(r:Rel X W H σ ρ)(l:∀a,¬Z a->H' a=H a)(h:∀a,Z a->∃e b,H a=some (.lst e)/\H' a=some (.lst b))(p:∀i a,W.O i=some a->¬Z a)
  (hv:∀(j:Nat) (d:D) (v:V),ρ[j]?=some (some (Sl.val d))->σ[j]?=some (some v)->Den X.K W.bad H d v->Den X.K (λt a=>W.bad t a∨Z a) H d v)
  (s:∀(j:Nat) (x:OS),ρ[j]?=some (some (Sl.ob x))->∃zs,x=OS.lst zs/\fe zs=true) (o:av X.Sj H') (m:ig X.K H'):Rel X W H' σ ρ:=by
 have i:∀c b,SJ X.K H c b->SJ X.K H' c b:=λc b q=>by have w:H c=some (.tup b):=q;show H' c=_;grind
 have g:∀c u,Zq u->H c=some u->H' c=some u:=λc u n q=>by rw[l c λz=>by obtain⟨e,_,f,_⟩:=h c z;rw[f]at q;cases q;exact n];exact q
 have k:∀t c b,¬(W.bad t c∨Z c)->UH X.K H t c b->¬W.bad t c/\UH X.K H' t c b:=λt c b n q=>by
  have e:=l c (by simp_all);refine⟨by simp_all,?_,λz=>⟨by rw[e];exact(q.2 z).1,(q.2 z).2⟩⟩;rcases q.1 with(q|⟨u,q⟩)|q;exact .inl (.inl (by rw[e];exact q));exact .inl (.inr (by grind));exact .inr q
 have b:∀c u,H c=some u->∃e,H' c=some e:=by grind
 refine⟨λj d h=>?_,λj x h=>?_,r.inj,λj a h=>?_,r.ke,λa h=>let ⟨u,q⟩:=r.bt a h;b a u q,λa h=>let ⟨u,q⟩:=r.st a h;b a u q,o,m⟩;obtain⟨v,f,c⟩:=r.val j d h;exact⟨v,f,Den.map i k g d v (hv j d v h f c)⟩;obtain⟨zs,rfl,d⟩:=s j x h;obtain⟨a,b,f,c,m,e⟩:=r.Xq j zs h;refine⟨a,.lst b,f,c,by rw[l a (p j a f)];exact m,.lst ?_⟩;exact ah.map i k g zs b (ah.ZJ zs b d e);obtain⟨e,d,o,c,b⟩:=r.kn j a h;exact⟨e,d,o,by rw[l a (p j a h)];exact c,b⟩
def rLs(K:yac):yaq->Hp->VK->Prop:=λb H Q=>∃p a,b=[.ref p]/\(SqL K H p a∨L2.SJ K H p a)/\∀l,H l=none->Q (.ref l) (L2.upd H l (.lst a))
def tLi(K:yac)(i:Nat)(k:Int):TE:=tCB (rLs K) (rV (tOp (JT K) (E5 i) (tC (.int k))) E4)
def Qs {x:Str} {p:Pos} (i:Nat) (d:Gl X "list") (b:X.mg "list" = none) (c:X.N[i]?=some x:=by rfl) (hv:Yh X.env.scope x:=by first|exact Or.inl rfl|exact Or.inr (Or.inl rfl)|exact Or.inr (Or.inr rfl)) (e:(x==("__debug__" : Str))=false:=by decide) (f:(x==("__classdict__" : Str))=false:=by decide)
  (a:starEach [.Subscript (.Name x px) (.Constant (.int k) j pk) ps] X.env=(false,eval (.Subscript (.Name x px) (.Constant (.int k) j pk) ps) X.env)::starEach [] X.env:=by rfl) (g:(backTo pos (starEach [] X.env)).any (·.1)=false:=by rfl) :
  PE X (.Call (.Name "list" p) [.Subscript (.Name x px) (.Constant (.int k) j pk) ps] [] pos) (tLi X.K i k) :=
 yu pR d b boot_list (gH (KO Ay (fT c hv e f) AV (by intro _ _;rfl)) mS a) (by decide) (by decide) a g
end
def FL(K:yac)(x:Str)(st:Stmt):Prop:=∃(f:Addr) (e:Value) (d:Option Addr) (kV g c:Value) (i:Option Addr) (a h:Value) (b:Array (yan)),
 PySem.W.nsIn K mainGlobals x=some (some (.ref f))/\K.lookup f=some ⟨e,d,.func (PySem.W.fnOf x x (dg st) (cn st) (ao st) .none kV g c i a h),b⟩/\PySem.W.codeIn K a x=true/\PySem.W.keepIn K (.ref f)=true
def FL.mk{K:yac}{x:Str}{st:Stmt}{f:Addr}{j:Value}{i:Option Addr}{kV k h:Value}{m:Option Addr}{e l:Value}{g:Array (yan)}(a:PySem.W.nsIn K mainGlobals x=some (some (.ref f)))
  (b:K.lookup f=some ⟨j,i,.func (PySem.W.fnOf x x (dg st) (cn st) (ao st) .none kV k h m e l),g⟩) (c:PySem.W.codeIn K e x=true) (d:PySem.W.keepIn K (.ref f)=true):FL K x st:=⟨f,j,i,kV,k,h,m,e,l,g,a,b,c,d⟩
def FL.has{K:yac}{x:Str}{st:Stmt}{h:Heap}{a:yam}{k:Nat}{ps:yah}{sp:DSp}(e:FL K x st)(P:Program)(w:World)(base:Heap)(X:K.In h)(G:h.Ns mainGlobals a)
  (o:∀{f:Addr} {b:FuncData},aw K x x st f b->aG P w K a base (CX1 P w) k f b ps (aH K sp))
  (p:∀(kV j i:Value) (n:Option Addr) (m l:Value),wC ps.length λg=>bindArgs (PySem.W.fnOf x x (dg st) (cn st) (ao st) .none kV j i n m l) ⟨g,[]⟩=pure (ps.zip g):=by
   repeat intro _
   rfl):SM P w K a base x k ps sp:=by
 obtain⟨f,s,r,kV,j,i,n,m,l,q,a,b,c,d⟩:=e;exact⟨f,_,o (rB b c d),PySem.W.mg_of X G a,d,.all λg a=>qY g a (p kV j i n m l)⟩
end PD
namespace HT
open PySem PyProof.Rows
section
open PySem.SeqAt
open PySem.AutoSeq1 (wpAny_loadPart')
open PySem.MeetsSeq PySem.MeetsSeq2 PySem.MeetsSeq3
end
end HT
namespace PD
open PySem PySem.Spec PyProof.Rows L2
section
variable{prog:Program}{w:World}{A:Around}{E:yaa}{s:Shared}{p:Addr}{us:yad}{Q:yaa}
def PG{x:Int}(a:s.heap.IsList p us.toArray)(hz:us.length*x.toNat<=256)(h0:0<=x)(j:x<=4096)
  (h:Q (.ref s.heap.objs.size) {s with heap:=s.heap.push {cls:=.type "list", data:=.seq (List.replicate x.toNat us).flatten.toArray} }):wpAny (model prog w) A (binaryOp .Mult (.ref p) (.int x tk)) Q E s:=by
 obtain⟨⟨k,g,i,d⟩,b,c,f,g3⟩:=id a;subst c g3;have z:us.toArray.size*x.toNat<=256:=by simp_all
 have e:∀a:Shared,a.TypeIs (.int x tk) "int" := λa=>typeIs_int a _ tk
 have a:s.TypeIs (.ref p) "list" := ⟨_,b,rfl⟩;have c:=lm_list_mul_any p us.toArray f g d x tk
  (by simp[Builtin.List.listFitsIndex];lia)
  (by lia)
  (by simp[Builtin.List.listTooLong,sizeLine];lia)
 refine wpAny_binaryOp_repeat_ref (U := "int") (by decide) a e noFill_list_mul PySem.F.fills_int_mul PySem.F.slot_int_rmul repeat_list PySem.F.slot_int_index.lookup ?_;refine call_meets PySem.F.slot_int_rmul (e s) PySem.F.entry_int_rmul (PySem.F.args_int_rmul_2 _ _) (lm_int_rmul_list_any x tk p us.toArray f g d) ⟨b,rfl,a,?_⟩;refine call_meets PySem.F.slot_list_mul a PySem.F.entry_list_mul (PySem.F.args_list_mul_2 _ _) c ⟨b,?_⟩;rw[listMul_foldl_if];exact h
end
section
variable{X:Cx}{pos:Pos}
theorem Bu(h:Vals vs us):∀n,Vals (List.replicate n vs).flatten (List.replicate n us).flatten
 |0=>by exact .nil
 |n+1=>by exact h.append (Bu h n)
theorem Ag{K:yac}{P:yak}{H:Hp}{b:yar}{a:yaq}(h:ah K P H b a):∀n,ah K P H (List.replicate n b).flatten (List.replicate n a).flatten
 |0=>by simp[ah]
 |n+1=>by exact h.append (Ag h n)
def MO:RD2:=λx y Q=>∃t a n,x=.lst t a/\y=.int (Int.ofNat n)/\n<=4096/\a.length*n<=256/\Q (.lst true (List.replicate n a).flatten)
def JB:Tz X (binaryOp .Mult) MO:=by
 intro f s m H W x y v u r w Q I i e h k j q;obtain⟨t,o,n,c,b,l,G,q⟩:=q;subst c b;obtain⟨p,d,c,_,a,g⟩:=k.UI;have b:=j.SK;subst c b;cases e;obtain⟨z,rfl⟩:=h;obtain⟨h,c,b,_⟩:=I.list a;have E:=g.len;have B:=c.length;have a:H s.heap.objs.size=none:=I.R7.fresh (SF _);have e:h.length*n<=256:=by simp_all
 refine PG (x:=Int.ofNat n) b.isList e (by simp_all) (Int.ofNat_le.mpr l) ?_;have A:256<=sizeLine:=by decide
 have C:(List.replicate n d).flatten.length<=256:=by simp_all [Nat.mul_comm]
 exact⟨.ref s.heap.objs.size,L2.upd H s.heap.objs.size (.lst (List.replicate n d).flatten),_,I.laid (t':=s.toks) (λb u e=>T5 _ e) (SF _) ⟨by lia,(List.replicate n h).flatten,0,Bu c n,Vi _ rfl⟩,rfl,av.upd a,Den.lst (CS i a) (.new aP (Inv.Um I)) ((Ag g n).same (av.upd a)),q⟩
end
section
variable{X:Cx}
structure Told(K:yac)(H:Hp)(b c t0:Addr)(k0:Int)(us ws qs:yaq):Prop where
 hb:H b=some (.lst (.int k0::us))
 hc:H c=some (.lst (.ref t0::ws))
 ht:H t0=some (.tup (.ref b::qs))
 kb:K.lookup b=none
 kc:K.lookup c=none
 kt:K.lookup t0=none
end
end PD
namespace PZ
open PySem PySem.Spec PyProof.Rows
def ZHe (h:Heap) (z TI TO a:Addr) (f:Bool):Prop:=h.get? z=some {cls:=.type "zip", dict:=none,data:=.fields #[rawInt a,.bool f,.bool false,.ref TI,.ref TO],slots:=#[]}
section
variable{prog:Program}{w:World}{A:Around}{E:yaa}{s:Shared}{k1 k2:Bool}{z TI TO i1 i2 l1 l2 a:Addr}{f:Bool}{i:Nat}{xs ys:yao}{oa:Obj}
def As{Q:Bool->Shared->Prop}(hz:ZHe s.heap z TI TO a f)(b:s.heap.get? a=some oa)(h:∀g,ZHe g z TI TO a true->Heap.SameBut z s.heap g->Q false {s with heap:=g}):wpAny (model prog w) A (Builtin.SmallTypes.ownedTupleIsFree (.ref z)) Q E s:=by
 refine Rm (VX hz rfl (x:=rawInt a) rfl ?_);refine Rm (PySem.W.kdx_alive b ?_);refine Rm (VX hz rfl (x:=.bool f) rfl ?_);cases f with
 |true=>simp_all [Rz,Heap.SameBut.refl]
 |false=>exact Rm (zCO hz (by simp) λg (c:ZHe g z TI TO a true) b=>Rz (h g c b))
def HZ{x y:Value}{Q:yan->Shared->Prop}(D:Ap z TI TO i1 i2)(r:Out z TO i1 i2 l1)(k:Out z TO i1 i2 l2)(hz:ZHe s.heap z TI TO a f)(d:s.heap.get? a=some oa)(l:IsPair s.heap TI (.ref i1) (.ref i2))(m:Vp k1 s.heap i1 l1 i)(B:Vp k2 s.heap i2 l2 i)
  (g:UR k1 s.heap l1 xs) (q:UR k2 s.heap l2 ys) (h:xs[i]?=some x) (t:ys[i]?=some y)
  (u:∀h',ZHe h' z TI TO a true->IsPair h' TI (.ref i1) (.ref i2)->Vp k1 h' i1 l1 (i+1)->Vp k2 h' i2 l2 (i+1)->IsPair h' s.heap.objs.size x y->(∀c o,c≠z->c≠i1->c≠i2->s.heap.get? c=some o->h'.get? c=some o)->Q (some (.ref s.heap.objs.size)) {s with heap:=h'}):wpAny (model prog w) A (pyNext (.ref z)) Q E s:=by
 have b:s.TypeIs (.ref z) "zip" := ⟨_,hz,rfl⟩;refine Rm (zCY (zBS (name:=Str.ofString "__next__") b F.slot_zip_next (YU F.slot_zip_next b F.entry_zip_next ?_ (F.args_zip_next_1 _))));show wpAny _ _ (field (.ref z) 2 >>= _) _ _ _;refine Rm (VX hz rfl (x:=.bool false) rfl ?_);refine Rm (VX hz rfl (x:=.ref TI) rfl (Rm (Yv l rfl ?_)));refine Rm (As hz d λd p j=>?_);have b:∀c o,c≠z->s.heap.get? c=some o->d.get? c=some o:=λc o n e=>j.extBut c o n e
 refine Rm (Rm (Rm (VT ?_)));refine Rm (va (s:={s with heap:=d}) (m.of λo e=>b _ o D.a3 e) (g.of λo e=>b _ o r.c1 e) h λh r g=>Rz (Rz ?_));have d:∀c o,c≠z->c≠i1->s.heap.get? c=some o->h.get? c=some o:=λc o n m e=>g.extBut c o m (b c o n e)
 refine Rm (Rm (VT ?_));refine Rm (va (s:={s with heap:=h}) (B.of λo e=>d _ o D.a4 (Ne.symm D.b1) e) (q.of λo e=>d _ o k.c1 k.c3 e) t λg3 q b=>Rz (Rz ?_));refine Rz ?_;show wpAny _ _ (newTuple [x,y] >>= _) _ _ _;have h:g3.objs.size=s.heap.objs.size:=by rw[b.1,g.1,j.1]
 have j:∀c o,c≠z->c≠i1->c≠i2->s.heap.get? c=some o->g3.get? c=some o:=λc o n m k e=>b.extBut c o k (d c o n m e)
 refine Rm (wpAny_newTuple (Rz ⟨_,rfl,Rz ?_⟩));rw[h];refine u _ ?_ ?_ (r.of λo e=>?_) (q.of λo e=>?_) ?_ λc o n m k e=>?_
 exact T5 _ (b.extBut _ _ (Ne.symm D.a4) (g.extBut _ _ (Ne.symm D.a3) p));exact T5 _ (j _ _ D.a1 D.a6 D.a7 l);exact T5 _ (b.extBut _ _ D.b1 e);exact T5 _ e;rw[<- h];exact Vi _ rfl
 simp_all [T5]
def Ia{Q:yan->Shared->Prop}(hh:A.handled=none)(D:Ap z TI TO i1 i2)(m:Out z TO i1 i2 l1)(hz:ZHe s.heap z TI TO a f)(d:s.heap.get? a=some oa)(e:IsPair s.heap TI (.ref i1) (.ref i2))(k:Vp k1 s.heap i1 l1 i)(g:UR k1 s.heap l1 xs)(h:xs[i]?=none)
  (j:∀h',(∀c o,c≠z->c≠i1->s.heap.get? c=some o->h'.get? c=some o)->Q none {s with heap:=h'}):wpAny (model prog w) A (pyNext (.ref z)) Q E s:=by
 have b:s.TypeIs (.ref z) "zip" := ⟨_,hz,rfl⟩;refine Rm (zCY (zBS (name:=Str.ofString "__next__") b F.slot_zip_next (YU F.slot_zip_next b F.entry_zip_next ?_ (F.args_zip_next_1 _))));show wpAny _ _ (field (.ref z) 2 >>= _) _ _ _;refine Rm (VX hz rfl (x:=.bool false) rfl ?_);refine Rm (VX hz rfl (x:=.ref TI) rfl (Rm (Yv e rfl ?_)));refine Rm (As hz d λb p l=>?_);have d:∀c o,c≠z->s.heap.get? c=some o->b.get? c=some o:=λc o n e=>l.extBut c o n e
 refine Rm (Rm (Rm (VT ?_)));refine Rm (En (s:={s with heap:=b}) hh (k.of λo e=>d _ o D.a3 e) (g.of λo e=>d _ o m.c1 e) h λk e l b=>?_);obtain⟨e,g,h⟩:=b;exact Rm (zCf (T := "StopIteration") (b:=true) ⟨e,g,h⟩ isSubtype_stop (Rz (j k λc o n m q=>l c o m (d c o n q))))
def ZL(k1 k2:Bool)(z TI TO i1 i2 l1 l2 S:Addr)(i:Nat)(h:Heap):Prop:=(i=0/\ZSt k1 k2 z TI TO i1 i2 l1 l2 0 h)∨((∃a f oa,ZHe h z TI TO a f/\h.get? a=some oa/\a≠S/\a≠z/\a≠TO/\a≠i1/\a≠i2)/\IsPair h TI (.ref i1) (.ref i2)/\Vp k1 h i1 l1 i/\Vp k2 h i2 l2 i)
def ZL.keep{h':Heap}(x:ZL k1 k2 z TI TO i1 i2 l1 l2 S i h)(d:z≠S)(c:TI≠S)(j:TO≠S)(B:i1≠S)(y:i2≠S)(kp:∀b o,b≠S->h.get? b=some o->h'.get? b=some o):ZL k1 k2 z TI TO i1 i2 l1 l2 S i h':=by
 rcases x with⟨e,Z⟩| ⟨⟨a,f,oa,o,n,g,m⟩,l,k,h⟩;obtain⟨p,u,⟨a,b,t⟩,r,q⟩:=Z;exact .inl ⟨e,kp _ _ d p,kp _ _ c u,⟨a,b,kp _ _ j t⟩,r.of (by grind),q.of (by grind)⟩;exact .inr ⟨⟨a,f,oa,kp _ _ d o,kp _ _ g n,g,m⟩,kp _ _ c l,k.of (by grind),h.of (by grind)⟩
def ZL.item{x y:Value}{Q:yan->Shared->Prop}(D:Ap z TI TO i1 i2)(q:Out z TO i1 i2 l1)(p:Out z TO i1 i2 l2)(Z:ZL k1 k2 z TI TO i1 i2 l1 l2 S i s.heap)(H:S<s.heap.objs.size)(b:z<s.heap.objs.size/\TO<s.heap.objs.size/\i1<s.heap.objs.size/\i2<s.heap.objs.size)(j:UR k1 s.heap l1 xs)(h:UR k2 s.heap l2 ys)(l:xs[i]?=some x)(k:ys[i]?=some y)
  (m:∀h',ZL k1 k2 z TI TO i1 i2 l1 l2 S (i+1) h'->IsPair h' s.heap.objs.size x y->(∀c o,c≠z->c≠TO->c≠i1->c≠i2->s.heap.get? c=some o->h'.get? c=some o)->Q (some (.ref s.heap.objs.size)) {s with heap:=h'}):wpAny (model prog w) A (pyNext (.ref z)) Q E s:=by
 obtain⟨M,L,J,I⟩:=b;rcases Z with⟨rfl,Z⟩| ⟨⟨a,f,oa,G,C,B,y,x,u,t⟩,r,o,b⟩;refine K6 D q p Z j h l k λh' g e _ d c n kp=>m h' (.inr ⟨⟨s.heap.objs.size,false,_,g,n,Yg H,Yg M,Yg L,Yg J,Yg I⟩,e,d,c⟩) n kp
 refine HZ D q p G C r o b j h l k λh' g e b d c kp=>m h' (.inr ⟨⟨a,true,oa,g,by simp_all,B,y,x,u,t⟩,e,b,d⟩) c (by simp_all)
def ZL.stop{Q:yan->Shared->Prop}(hh:A.handled=none)(D:Ap z TI TO i1 i2)(g:Out z TO i1 i2 l1)(n:Out z TO i1 i2 l2)(Z:ZL k1 k2 z TI TO i1 i2 l1 l2 S i s.heap)(b:UR k1 s.heap l1 xs)(h:UR k2 s.heap l2 ys)(d:xs[i]?=none)
  (e:∀h',(∀c o,c≠z->c≠TO->c≠i1->c≠i2->s.heap.get? c=some o->h'.get? c=some o)->Q none {s with heap:=h'}):wpAny (model prog w) A (pyNext (.ref z)) Q E s:=by
 rcases Z with⟨rfl,Z⟩| ⟨⟨a,f,oa,m,k,u,t,r,q,p⟩,j,c,l⟩;exact K7 hh D g n Z b h (.inl d) e;exact Ia hh D g m k j c b d λh' kp=>e h' (by grind)
end
structure ZT(h:Heap)(xs ys:yao)(B:Addr)(as:yae):Prop where
 nd:as.Nodup
 ab:∀a∈as,B<=a
 pr:∀(j:Nat) (a:Addr),as[j]?=some a->∃x y,xs[j]?=some x/\ys[j]?=some y/\IsPair h a x y
section
variable{prog:Program}{w:World}{A:Around}{E:yaa}{s:Shared}{k1 k2:Bool}{z TI TO i1 i2 l1 l2 S B:Addr}{xs ys:yao}{R:Result->Shared->Prop}
def QK(hh:A.handled=none)(D:Ap z TI TO i1 i2)(t:Out z TO i1 i2 l1)(r:Out z TO i1 i2 l2)(sB:S<B)(e:z<B/\TO<B/\i1<B/\i2<B)(g:z≠S/\TI≠S/\TO≠S/\i1≠S/\i2≠S/\l1≠S/\l2≠S)(hn:xs.size<=sizeLine)(hxy:xs.size=ys.size)(d:Value){h0:Heap}
  (j:∀h' n a c f,(∀b o,b≠S->b≠z->b≠TO->b≠i1->b≠i2->h0.get? b=some o->h'.get? b=some o)->h'.get? S=some {cls:=.type "list", dict:=none,data:=.seq a c,slots:=#[]}->a.toList=f.map Value.ref->f.length=xs.size->ZT h' xs ys B f->R (.ok (.ret d)) {s with heap:=h',toks:=n}) :
  ∀ (k i:Nat) (h:Heap) (n c:Nat) (a:yao) (f:yae),xs.size - i=k->i<=xs.size->ZL k1 k2 z TI TO i1 i2 l1 l2 S i h->UR k1 h l1 xs->UR k2 h l2 ys->B<=h.objs.size->(∀b o,b≠S->b≠z->b≠TO->b≠i1->b≠i2->h0.get? b=some o->h.get? b=some o) →
   h.get? S=some {cls:=.type "list", dict:=none,data:=.seq a c,slots:=#[]}->a.toList=f.map Value.ref->f.length=i->ZT h xs ys B f->codeAny (model prog w) A (.builtin "list.extend.loop" ⟨[.ref S,.ref z,d],[]⟩) R {s with heap:=h,toks:=n}:=by
 obtain⟨n1,n2,n3,n4,n5,n6,n7⟩:=g;have q:∀{b c:Addr},c<B->B<=b->b≠c:=λhc d=>Yg (Tt hc d)
 obtain⟨z1,Y,U,Q⟩:=e;intro k
 induction k with
 |zero =>
  intro i h n c a f hk hi m M L p kp hS O I T;refine zCH PySem.F.entry_extend_loop ?_;refine Rm (ZL.stop (s:={s with heap:=h,toks:=n}) (A:=A.in1) hh D t r m M L (Array.getElem?_eq_none (by lia)) λh' l=>?_);have J:∀b,B<=b->∀o,h.get? b=some o->h'.get? b=some o:=λb d o e=>l b o (q z1 d) (q Y d) (q U d) (q Q d) e
  exact Rz (j h' n a c f (λb o N H G C u e=>l b o H G C u (kp b o N H G C u e)) (l S _ (Ne.symm n1) (Ne.symm n3) (Ne.symm n4) (Ne.symm n5) hS) O (by lia)
   ⟨T.nd,T.ab,λj b g=>let ⟨x,y,e1,e2,e3⟩:=T.pr j b g;⟨x,y,e1,e2,J b (T.ab b (UZ g)) _ e3⟩⟩)
 |succ k ih =>
  intro i h n c a f hk hi m M L p kp hS O I T;have lt:i<xs.size:=by lia
  have hx:xs[i]?=some xs[i]:=zBK lt;have hy:ys[i]?=some ys[i]:=zBK (by lia);have sz:a.size=i:=by rw[<- VO,O,RH,I]
  refine zCH PySem.F.entry_extend_loop ?_;refine Rm (ZL.item (s:={s with heap:=h,toks:=n}) (S:=S) D t r m (Tt sB p) ⟨Tt z1 p,Tt Y p,Tt U p,Tt Q p⟩ M L hx hy λh' hZ' tp l=>?_);have J:=l S _ (Ne.symm n1) (Ne.symm n3) (Ne.symm n4) (Ne.symm n5) hS;have k:∀b o,b≠S->h'.get? b=some o->(h'.update S (Obj.mapSeq (·.push (Value.ref h.objs.size)))).get? b=some o:=λb o m e=>(Za _ _ (Ne.symm m)).trans e
  have nS:h.objs.size≠S:=Yg (Tt sB p);have m:=k _ _ nS tp;refine Rm (zC9 J rfl (Rz ⟨zDO PySem.F.plain_extend_loop _,ih (i+1) _ n _ (a.push (Value.ref h.objs.size)) (f++[h.objs.size]) (by lia) lt (hZ'.keep n1 n2 n3 n4 n5 k) (M.of λo e=>k _ o n6 (l _ o t.c1 t.c2 t.c3 t.c4 e)) (L.of λo e=>k _ o n7 (l _ o r.c1 r.c2 r.c3 r.c4 e)) ?_
   (λb o N H G C u e=>k b o N (l b o H G C u (kp b o N H G C u e))) (YO _ J rfl) (by rw[zCW,O,Vy];rfl) (by rw[Vh,I];rfl) ⟨?_,λb d=>?_,λj b g=>?_⟩⟩) (by lia) (by rw[Array.size_push,sz];lia))
  exact UD (Xh p (SH m));refine List.nodup_append.mpr ⟨T.nd,by simp,λb d c hc=>?_⟩;obtain⟨j,g⟩:=List.getElem?_of_mem d;obtain⟨_,_,_,_,e⟩:=T.pr j b g;rw[VF.mp hc];exact Uw (SH e);rcases Ta.mp d with d|d;exact T.ab b d;rw[VF.mp d];exact p;rcases zCE j f.length with c|c|c;rw[WZ c]at g;obtain⟨x,y,e1,e2,e3⟩:=T.pr j b g;have a:=T.ab b (UZ g);exact⟨x,y,e1,e2,k b _ (q sB a) (l b _ (q z1 a) (q Y a) (q U a) (q Q a) e3)⟩;subst c;have e:h.objs.size=b:=by simpa using g
  subst e;exact⟨xs[i],ys[i],by rw[I];exact hx,by rw[I];exact hy,m⟩;rw[zB6 (by rw[Vh,zCj];lia)]at g;cases g
end
def Fe:typeLookup (.type "zip") "__len__" = pure none:=by kernel_rfl
def Cj:typeLookup (.type "zip") "__length_hint__" = pure none:=by kernel_rfl
section
variable{prog:Program}{w:World}{A:Around}{E:yaa}{s:Shared}{k1 k2:Bool}{z TI TO i1 i2 l1 l2 S B:Addr}{xs ys:yao}
def Vp.lt(x:Vp k h it a i):it<h.objs.size:=let ⟨_,e,_⟩:=x.obj;SH e
def UR.lt{xs:yao}(x:UR k h a xs):a<h.objs.size:=let ⟨_,_,e,_⟩:=x.obj;SH e
def Nh{R:Result->Shared->Prop}(hh:A.handled=none)(D:Ap z TI TO i1 i2)(C:Out z TO i1 i2 l1)(y:Out z TO i1 i2 l2)(Z:ZSt k1 k2 z TI TO i1 i2 l1 l2 0 s.heap)(r:UR k1 s.heap l1 xs)(q:UR k2 s.heap l2 ys)(t:xs.size<=sizeLine)(h:xs.size=ys.size)(p:S<B)(G:B<=s.heap.objs.size)(n:z<B/\TO<B/\i1<B/\i2<B)
  (a:z≠S/\TI≠S/\TO≠S/\i1≠S/\i2≠S/\l1≠S/\l2≠S) (x:Nat) (k:s.heap.get? S=some {cls:=.type "list", data:=.seq #[] x})
  (u:∀h' m d c j,(∀b o,b≠S->b≠z->b≠TO->b≠i1->b≠i2->s.heap.get? b=some o->h'.get? b=some o)->h'.get? S=some {cls:=.type "list", dict:=none,data:=.seq d c,slots:=#[]}->d.toList=j.map Value.ref->j.length=xs.size->ZT h' xs ys B j->R (.ok (.ret .none)) {s with heap:=h',toks:=m}) :
  wpAny (model prog w) A.in1 (Builtin.List.listExtendWith (.ref S) (.ref z) .none) (λi g=>match i with|.done f=>R (.ok f) g|.again l=>l.quiet=true/\codeAny (model prog w) A l R g) (λe g=>R (.error e) g) s:=by
 have hz:=Z.z;have c:s.TypeIs (.ref z) "zip" := ⟨_,hz,rfl⟩;refine Rm (wpAny_typeOf (T := "zip") c ?_);have d:Builtin.List.listSameRef (.ref S) (.ref z)=false:=by simp[Builtin.List.listSameRef,Ne.symm a.1]
 simp only[d,show(Value.type "zip" == Value.type "list")=false by decide,show(Value.type "zip" == Value.type "tuple")=false by decide,Bool.or_false,zCM,if_false];refine Rm (wpAny_pyIter_zip hz (Rm (VT ?_)));refine Rm (zC8 c Fe ?_);refine Rm (zC8 c Cj (Rz ?_));refine Rm (YZ (Rm ?_));have c:=YO (Obj.mapSeq (·.push Value.none)) k rfl;refine Rm (zC9 k rfl (zC9 (hz:=by seq_fits) c rfl (Rz ⟨zDO PySem.F.plain_extend_loop _,?_⟩)));have g3:=YO (Obj.mapSeq (·.pop)) c rfl;have kp:∀b o,b≠S->s.heap.get? b=some o->((s.heap.update S (Obj.mapSeq (·.push Value.none))).update S (Obj.mapSeq (·.pop))).get? b=some o:=λb o m e=>(Za _ _ (Ne.symm m)).trans ((Za _ _ (Ne.symm m)).trans e)
 refine QK (s:=s) (h0:=s.heap) hh D C y p n a t h .none u xs.size 0 _ _ _ _ [] (by lia) (by lia) (ZL.keep (.inl ⟨rfl,Z⟩) a.1 a.2.1 a.2.2.1 a.2.2.2.1 a.2.2.2.2.1 kp) (r.of (by grind)) (q.of (by grind)) ?_ (by grind) g3 rfl rfl ⟨by grind,by grind,by simp_all⟩
 simp_all
def QJ{Q:yaa}(hh:A.handled=none)(D:Ap z TI TO i1 i2)(N:Out z TO i1 i2 l1)(M:Out z TO i1 i2 l2)(Z:ZSt k1 k2 z TI TO i1 i2 l1 l2 0 s.heap)(r:UR k1 s.heap l1 xs)(q:UR k2 s.heap l2 ys)(u:xs.size<=sizeLine)(j:xs.size=ys.size)
  (x:∀h' g d c f,(∀b o,b≠z->b≠TO->b≠i1->b≠i2->s.heap.get? b=some o->h'.get? b=some o)->h'.get? s.heap.objs.size=some {cls:=.type "list", dict:=none,data:=.seq d c,slots:=#[]}->d.toList=f.map Value.ref->f.length=xs.size->ZT h' xs ys (s.heap.objs.size+1) f->Q (.ref s.heap.objs.size) {s with heap:=h',toks:=g}) :
  wpAny (model prog w) A (call (.type "list") [.ref z]) Q E s:=by
 refine callType_codes (Q₁:=λa e=>a=.ref s.heap.objs.size/\e={s with heap:=s.heap.push {cls:=.type "list", data:=.seq #[]} }) PySem.F.called_list (PySem.F.typeCall_list_1 _) PySem.F.entry_list_init (code_list_new _ ⟨rfl,rfl⟩) λa e a=>?_
 obtain⟨rfl,rfl⟩:=a;have a:(s.heap.push {cls:=.type "list", data:=.seq #[]}).get? s.heap.objs.size=some {cls:=.type "list", data:=.seq #[]}:=Vi _ rfl;have t:∀b o,s.heap.get? b=some o->(s.heap.push {cls:=.type "list", data:=.seq #[]}).get? b=some o:=λb o e=>T5 _ e
 have h:z<s.heap.objs.size/\TI<s.heap.objs.size/\TO<s.heap.objs.size/\i1<s.heap.objs.size/\i2<s.heap.objs.size/\l1<s.heap.objs.size/\l2<s.heap.objs.size:=by obtain⟨i,p,⟨_,_,n⟩,l,k⟩:=Z;exact⟨SH i,SH p,SH n,l.lt,k.lt,r.lt,q.lt⟩
 obtain⟨L,J,I,H,G,C,y⟩:=h;have O:∀{b:Addr},b<s.heap.objs.size->b<s.heap.objs.size+1:=λh=>zDG h
 refine⟨⟨_,a,rfl⟩,PySem.F.args_list_init_2 _ _,?_⟩;refine Rm ?_;refine Rm (Yv a rfl (Rz ?_));have h:=YO (Obj.mapSeq (λ_=>(#[]:yao))) a rfl;have kp:∀b o,b≠s.heap.objs.size->s.heap.get? b=some o->((s.heap.push {cls:=.type "list", data:=.seq #[]}).update s.heap.objs.size (Obj.mapSeq (λ_=>(#[]:yao)))).get? b=some o:=λb o m e=>(Za _ _ (Ne.symm m)).trans (t b o e)
 refine Rm (zC9 a rfl (Rm (wpAny_letGo ?_)));refine Nh (A:=A.in1) (B:=s.heap.objs.size+1) (k1:=k1) (k2:=k2) (TI:=TI) (TO:=TO) (l1:=l1) (l2:=l2) (xs:=xs) (ys:=ys) hh D N M ?_ (r.of λo e=>kp _ o (Uw C) e) (q.of λo e=>kp _ o (Uw y) e) u j (by lia) ?_ (by simp_all) (by lia) _ h λh' g d c f h m q j T=>?_
 obtain⟨i,p,⟨a,b,n⟩,l,k⟩:=Z;exact⟨kp _ _ (Uw L) i,kp _ _ (Uw J) p,⟨a,b,kp _ _ (Uw I) n⟩,l.of λo e=>kp _ o (Uw H) e,k.of λo e=>kp _ o (Uw G) e⟩
 simp_all
 exact⟨rfl,x h' g d c f (λb o f d c a e=>h b o (Uw (SH e)) f d c a (kp b o (Uw (SH e)) e)) m q j T⟩
end
end PZ
namespace PD
open PySem PySem.Spec PyProof.Rows L2 PZ
def eO(H:Hp)(n:Addr)(N:List (Addr×HO)):Hp:=λb=>if b<n then H b else(N.find? λp=>decide (p.1=b)).map (·.2)
def mK{n b:Addr}(h:b<n):eO H n N b=H b:=Rv h
theorem CF{b:Addr}{u:HO}:∀{N:List (Addr×HO)},(N.map (·.1)).Nodup->(b,u)∈N->(N.find? λp=>decide (p.1=b))=some (b,u)
 |[],_,m=>by cases m
 |p::r,a,m=>by
  rw[VS,zCS]at a;rw[List.find?_cons];rcases Tx.mp m with e|m;rw[<- e,U5 rfl];rw[decide_eq_false (by grind)];exact CF a.2 m
def CK{n b:Addr}{u:HO}{N:List (Addr×HO)}(a:(N.map (·.1)).Nodup)(h:n<=b)(m:(b,u)∈N):eO H n N b=some u:=by unfold eO;rw[if_neg (by simp_all),CF a m];rfl
def AB{n b:Addr}{u:HO}(h:¬b<n)(e:eO H n N b=some u):(b,u)∈N:=by unfold eO at e;rw[if_neg h]at e;obtain⟨p,a,rfl⟩:=Zc.mp e;grind
section
variable{X:Cx}{pins:yab}{σ:St}{H:Hp}{s:Shared}
theorem Inv.eO{h':Heap}{t':Nat}{N:List (Addr×HO)}(I:Inv X pins σ H s)(k:∀b u,s.heap.get? b=some u->h'.get? b=some u)(d:∀b u,(b,u)∈N->bG X.prog X.w (PD.eO H s.heap.objs.size N) h' b u) :
  Inv X pins σ (PD.eO H s.heap.objs.size N) {s with heap:=h',toks:=t'}:=by
 have lt:∀{b u},H b=some u->PD.eO H s.heap.objs.size N b=some u:=fun {b u} e=>by rw[mK (I.R7.lt e)];exact e
 refine L2.Inv.un I ⟨λb a q _ _ _=>k b a q,λb a q _ _ _=>⟨a.slots,k b a q⟩,λb a q n _=>by rw[mK (SH q)];exact n,by grind,λb a q=>lt q,λb o u q=>lt q,by simp_all⟩ λb u e=>?_
 by_cases h:b<s.heap.objs.size;rw[mK h]at e;exact(I.R7 b u e).VY (λc v _ q=>k c v q) (λc q=>lt q) λc a q=>lt q
 exact d b u (AB h e)
def Hr{N:List (Addr×HO)}(I:Inv X pins σ H s)(c:∀b u,(b,u)∈N->∀ps,u ≠ .Xb ps):av H (PD.eO H s.heap.objs.size N):=by
 have a:∀{b u},H b=some u->PD.eO H s.heap.objs.size N b=some u:=fun {b u} e=>by rw[mK (I.R7.lt e)];exact e
 refine⟨λb o q _=>a q,by simp_all,λT P ps e=>?_⟩;by_cases h:P<s.heap.objs.size;rw[mK h]at e;obtain⟨a,b⟩:=T P ps e;grind;exact absurd rfl (c P _ (AB h e) ps)
end
theorem yC:∀a:yae,Vals (a.map V.ref) (a.map Value.ref)
 |[]=>.nil
 |_::r=>.cons rfl (yC r)
theorem ah.of_get{K:yac}{P:yak}{H:Hp}:∀{b:yar} {a:yaq},b.length=a.length->(∀(j:Nat) d v,b[j]?=some d->a[j]?=some v->Den K P H d v)->ah K P H b a
 |[],[],_,_=>ah.nil
 |d::b,v::a,h,k=>ah.cons (k 0 d v rfl rfl) (ah.of_get (Nat.succ.inj h) λj d a c b=>k (j+1) d a c b)
section
variable{X:Cx}{pos:Pos}
def zV(b:DA):DA:=λa R=>b a λg=>∃d c f e a b,g=[d,c]/\fL d=some (f,a)/\fL c=some (e,b)/\a.length=b.length/\a.length<=1000/\R (List.zipWith (λx y=>D.tup [x,y]) a b)
def D8 {a b:Expr} {ta:DA} {p p2 Wz:Pos} (hc:X.calm=true) (hg:Gl X "list") (hm:X.mg "list" = none) (hg2:Gl X "zip") (WT:X.mg "zip" = none) (ha:Wt X [a,b] ta)
  (UJ:starEach [.Call (.Name "zip" p2) [a,b] [] Wz] X.env=(false,eval (.Call (.Name "zip" p2) [a,b] [] Wz) X.env)::starEach [] X.env:=by rfl) (TB:(backTo pos (starEach [] X.env)).any (·.1)=false:=by rfl)
  (hs:starEach [a,b] X.env=(false,eval a X.env)::starEach [b] X.env:=by rfl) (hs2:(backTo Wz (starEach [b] X.env)).any (·.1)=false:=by rfl) :
  WH X (.Call (.Name "list" p) [.Call (.Name "zip" p2) [a,b] [] Wz] [] pos) (zV ta):=by
 intro B s σ H W ρ Q I r h;refine Z4 (di I hg hm boot_list ?_ (by decide) (by decide));refine PyProof.Rows.callWith_type1 ?_ UJ TB;rw[UJ];refine Calls.spliced_cons ?_;refine Call_ (di I hg2 WT boot_zip (PyProof.Rows.callWith_type1 (Rw (ha Wz B s σ H W ρ _ I r h) λus f Ry=>?_) hs hs2));obtain⟨vs,C,ds,J,r1,e1,hd,q1⟩:=Ry;obtain⟨d1,d2,k1,k2,xs,ys,e,g1,g2,lxy,l1000,q⟩:=q1;subst e;obtain⟨v1,v2,rfl,Xd,hd2⟩:=q9 hd;obtain⟨l1,k,e2,sq1,dn1,_⟩:=Xd.seq g1;obtain⟨l2,g,e3,sq2,dn2,_⟩:=hd2.seq g2;subst e2 e3;cases r1 with
 |cons ra rr =>
  cases rr with
  |cons rb rr =>
   cases rr;cases ra;cases rb;obtain⟨us1,Y,p1⟩:=sq1.list J;obtain⟨us2,U,p2⟩:=sq2.list J;have n1:=dn1.len;have n2:=dn2.len;have m1:=Y.length;have m2:=U.length;refine K5 p1 p2 λw Z kp=>?_
   refine Rz ?_;have Dz:Ap (f.heap.objs.size+4) (f.heap.objs.size+2) (f.heap.objs.size+3) f.heap.objs.size (f.heap.objs.size+1):=by constructor<;>simp
   have G:∀{c:Addr} (j:Nat),c<f.heap.objs.size->c≠f.heap.objs.size+j:=λj h=>Uw (Tt h (VP _ j))
   have O:∀{l:Addr},l<f.heap.objs.size->Out (f.heap.objs.size+4) (f.heap.objs.size+3) f.heap.objs.size (f.heap.objs.size+1) l:=λh=>⟨G 4 h,G 3 h,Uw h,G 1 h⟩
   refine QJ (s:={f with heap:=w}) (J.ok.hd hc) Dz (O p1.lt) (O p2.lt) Z (p1.of λo e=>kp _ o e) (p2.of λo e=>kp _ o e) (by rw[WC,To];lia) (by rw[WC,WC];lia) λh2 tk acc c A XG hD ea la T=>?_
   have K:∀b o,f.heap.get? b=some o->h2.get? b=some o:=λb o e=>XG b o (G 4 (SH e)) (G 3 (SH e)) (Uw (SH e)) (G 1 (SH e)) (kp b o e)
   have zl:f.heap.objs.size<w.objs.size:=Xh (VP _ 4) (SH Z.z);dsimp only at hD T;rw[WC]at la;have nD:w.objs.size∉A:=λz=>absurd (T.ab _ z) (Nat.not_le.mpr (zCz _))
   let N:List (Addr×HO):=(w.objs.size,.lst (A.map V.ref))::(A.zip (k.zip g)).map λt=>(t.1,.tup [t.2.1,t.2.2])
   have hN:N.map (·.1)=w.objs.size::A:=by show w.objs.size::((A.zip (k.zip g)).map λt=>(t.1,HO.tup [t.2.1,t.2.2])).map (·.1)=_;rw[UC];congr 1;exact List.map_fst_zip (by rw[List.length_zip];lia)
   have ndN:(N.map (·.1)).Nodup:=by rw[hN];exact zCS.mpr ⟨nD,T.nd⟩
   have get:∀{j:Nat} {b:Addr},A[j]?=some b->∃M L x y,k[j]?=some M/\g[j]?=some L/\RelV M x/\RelV L y/\IsPair h2 b x y/\(b,HO.tup [M,L])∈N:=fun {j b} E=>by obtain⟨lj,_⟩:=VE.mp E;obtain⟨x,y,hx,hy,hp⟩:=T.pr j b E;have g1:k[j]?=some (k[j]'(by lia)):=Ul _;have g2:g[j]?=some (g[j]'(by lia)):=Ul _;obtain⟨x',ex,rx⟩:=Y.get g1;obtain⟨y',ey,ry⟩:=U.get g2;rw[List.getElem?_toArray,ex]at hx;rw[List.getElem?_toArray,ey]at hy;cases hx;cases hy;refine⟨_,_,x,y,g1,g2,rx,ry,hp,W4 _ (S5.mpr ⟨(b,k[j]'(by lia),g[j]'(by lia)),?_,rfl⟩)⟩;refine UZ (i:=j) ?_;rw[zCu];exact⟨E,by rw[zCu];exact⟨g1,g2⟩⟩
   have ok:∀b u,(b,u)∈N->bG X.prog X.w (PD.eO C f.heap.objs.size N) h2 b u:=λb u m=>by
    rcases Tx.mp m with e|m;cases e;exact⟨by rw[RH,To];lia,A.map Value.ref,c,yC A,by rw[<- ea];simpa using hD⟩;obtain⟨t,tm,e⟩:=S5.mp m;cases e;obtain⟨j,E⟩:=List.getElem?_of_mem tm;rw[zCu]at E;obtain⟨M,L,x,y,e1,e2,rx,ry,hp,_⟩:=get E.1;have d:=E.2;rw[zCu,e1,e2]at d;obtain⟨i,n⟩:=d;cases i;cases n;exact⟨by rw[To];show 2<=16777216;decide,[x,y],.cons rx (.cons ry .nil),⟨_,hp,rfl,_,rfl⟩⟩
   have I2:Inv X B σ (PD.eO C f.heap.objs.size N) {f with heap:=h2,toks:=tk}:=Inv.eO J K ok;have sm:av C (PD.eO C f.heap.objs.size N):=Hr J λb u m ps e=>by
    rcases Tx.mp m with z|m;cases z;cases e;obtain⟨t,_,z⟩:=S5.mp m;cases z;cases e
   have eD:PD.eO C f.heap.objs.size N w.objs.size=some (.lst (A.map V.ref)):=CK ndN (UD zl) zB9;have fD:C w.objs.size=none:=J.R7.fresh (UD zl);refine⟨w.objs.size,_,_,_,rfl,I2,e1.trans sm,e1.free fD,Inv.kno I2 eD,eD,ah.of_get (by rw[List.length_zipWith,RH];lia) λj d v hdj hvj=>?_,q⟩;rw[U0]at hvj;obtain⟨b,hb,rfl⟩:=Zc.mp hvj;obtain⟨M,L,x,y,e1',e2',rx,ry,hp,mN⟩:=get hb;obtain⟨dx,gx,VJ⟩:=dn1.bI e1';obtain⟨dy,gy,Wr⟩:=dn2.bI e2';rw[List.getElem?_zipWith,gx,gy]at hdj;cases hdj;have hbn:f.heap.objs.size<=b:=Sd (UD (zDG zl)) (T.ab b (UZ hb));have P':∀{d:D} {v:V},Den X.K W.bad C d v->Den X.K (λt b=>W.bad t b∨b=w.objs.size) (PD.eO C f.heap.objs.size N) d v:=λhq=>Den.map (λ_ _ z=>SJ.same sm z) (λt a' vs' np z=>⟨λz'=>z'.elim np λz'=>by
    subst z';rcases z.1 with(i|⟨o,i⟩)|⟨o,Rt,n,i,_⟩;rw[fD]at i;cases i;rw[fD]at i;cases i;exact absurd (Inv.kno I2 eD) (by rw[i];simp),z.same sm⟩) (λa' o' n z=>sm.kp a' o' z n.nt) _ _ hq
   exact Den.tup (SJ.of (CK ndN hbn mN)) (ah.cons (P' VJ) (ah.one (P' Wr)))
end
open PySem PySem.Spec PyProof.Rows L2
section
variable{X:Cx}{pos:Pos}
def P6(i:Nat)(c te:DE):DS:=λE a=>∃b,a[i]?=some (some (.ob (.ll b)))/\c a λd=>∃(k:Int) (m:Nat) (c:yar),d=.int k/\ixN b.length k=some m/\b[m]?=some (.own c)/\te a λd=>c.length<sizeLine/\E.nx (a.set i (some (.ob (.ll (b.set m (.own (c++[d])))))))
end
section
variable{X:Cx}{a b c:Expr}{ta tb tc:DE}{pos:Pos}
def IT(o:Tz X (compareOp op) r)(G:Tz X (compareOp op') r')(d:RU X a ta)(l:RU X b tb)(E:RU X c tc)(C:lastMarks [op,op'] [b,c]=false:=by with_unfolding_all rfl):Xr X (.Compare a [op,op'] [b,c] pos) (dB (FQ r r' ta tb tc)):=by
 intro e s f H W m Q I j h;refine isTrue_chain (Rw (d e s f H W m _ I j h) λv g ⟨d,q,x,p,k,i,n,h⟩=>test_link (Rw (l e g f q W m _ p (j.same i) h) λu g ⟨q,s,y,p,r,h,t,l⟩=>
  Rw (o e g f s W x y d q v u _ p ((j.same i).same h).tracked k r (n.same h) t l) λd B ⟨A,x,z,w,g,l,n,k,p,s⟩=>?_)) C
 subst p;have o:=n.Zr;subst o;cases g;refine zCt ?_;have g:=((j.same i).same h).same l;cases k with
 |false =>
  exact ite_ff ⟨x,w,i.trans (h.trans l),s⟩
 |true =>
  refine ite_tt (test_last (Rw (E e B f x W m _ w g s) λm w ⟨s,I,E,H,x,j,C,B⟩=>Rw (G e w f I W y E q s u m _ H (g.same j).tracked r x (t.same (l.trans j)) C B) λd J g=>?_));obtain⟨A,q,z,m,e,f,n,d⟩:=g;obtain⟨k,p,d⟩:=pQ d;subst p;have o:=n.Zr;subst o;cases e;exact zCt ⟨q,m,i.trans (h.trans (l.trans (j.trans f))),d⟩
end
section
variable{X:Cx}
def tCl (K:yac) (i:Nat) (k:Int):TS:=KU (PF K "list" Hk (tOp (JT K) (E5 i) (tC (.int k))))
def Qu {x:Str} {a b pos:Pos} (i:Nat) (c:X.N[i]?=some x:=by rfl) (hv:Yh X.env.scope x:=by first|exact Or.inl rfl|exact Or.inr (Or.inl rfl)|exact Or.inr (Or.inr rfl)) (d:(x==("__debug__" : Str))=false:=by decide) (g:(x==("__classdict__" : Str))=false:=by decide)
  (f:attributeBase (.Subscript (.Name x px) (.Constant (.int k) j pk) ps) "clear" X.env (eval (.Subscript (.Name x px) (.Constant (.int k) j pk) ps) X.env)=eval (.Subscript (.Name x px) (.Constant (.int k) j pk) ps) X.env:=by rfl)
  (e:(a.endLine==b.line)=true:=by rfl) (hs:swapsWith (.Call (.Attribute (.Subscript (.Name x px) (.Constant (.int k) j pk) ps) "clear" a) [] [] b) none pos.line X.env=pure false:=by rfl) :
  PS X (.Expr (.Call (.Attribute (.Subscript (.Name x px) (.Constant (.int k) j pk) ps) "clear" a) [] [] b) pos) (tCl X.K i k) :=
 rK (pos:=pos) (Hb PySem.F.plainAttrs_list PySem.F.slot_list_clear PySem.F.type_list_clear Jv (KO Ay (fT c hv d g) AV (by intro _ _;rfl)) f e) hs
def Ec(d:D):Prop:=lT d=true∨(∃t n x a,d=.lst t (.tup (.int n::x)::a)/\fe (.tup (.int n::x)::a)=true)∨∃ (t:Bool) (a:yaf),d=.lst t (a.map D.int)
def IV{K:yac}{H:Hp}{c ws:yaq}(G:K.lookup b=none)(j:H b=some (.lst (.ref f::c)))(s:SJ K H f (.ref l::ws))(h:Ec d)(g:Den K P H d v):Den K (λt a=>P t a∨a=b) H d v:=by
 rcases h with h|⟨t,n,x,y,rfl,h⟩| ⟨t,p,rfl⟩;exact Den.ZJ d v h g
 ·obtain⟨a,k,e,n,q,d⟩:=g.WE;subst e;have c:=d;obtain⟨u,r,i,b,_⟩:=c;obtain⟨c,c,r,m,o⟩:=b.UW;obtain⟨A,B,I,b,_⟩:=o;have:=b.SK;subst r;subst i;refine Den.lst (λz=>z.elim n λz=>?_) q (ah.ZJ _ _ h d);subst z;rcases q.1 with(b|⟨w,b⟩)|⟨o,r,h,b,_⟩;rw[j]at b;cases b;have E:H f=some (.tup (.ref l::ws)):=s;have C:H f=some (.tup c):=m
  lia
  all_goals lia
 ·obtain⟨a,k,e,n,q,d⟩:=g.WE;subst e;have i:=dh d;refine Den.lst (λz=>z.elim n λz=>?_) q (by simp_all [uL]);subst z;rcases q.1 with(b|⟨w,b⟩)|⟨o,r,h,b,_⟩;rw[j,i]at b;cases p<;>cases b
  all_goals lia
def Lr(ix iy:Nat)(t:DB):DB:=λQ b=>∃(e c:D) (g q a:yar),b[ix]?=some (some (Sl.val (.tup [e,c,.lst true (.tup (.tup g::q)::a)])))/\lT e=true/\lT c=true/\fe (.tup (.tup g::q)::a)=true ∧
 (∀(j:Nat) (d:D),j≠ix->j≠iy->b[j]?=some (some (Sl.val d))->Ec d)/\(∀(j:Nat) (x:OS),j≠ix->j≠iy->b[j]?=some (some (Sl.ob x))->∃a,x=OS.lst a/\fe a=true) ∧
 t Q ((b.set ix (some (.val (.tup [e,c,.lst true []])))).set iy (some (.val (.lst true (.tup (.tup g::q)::a)))))
def Fy{s1 s2:Stmt}{rest:yal}{t3:DB}{y:Str}{ix iy:Nat}(hy:X.N[iy]?=some y)(TN:ix≠iy)(P1:PS X s1 (PC (tLi X.K ix 2) (KA iy)))(P2:PS X s2 (tCl X.K ix 2))(h3:ZV X rest t3) :
  ZV X (s1::s2::rest) (Lr ix iy t3):=by
 intro E s L H W ρ Q I r s0 ht;obtain⟨d0,d1,g,q,zs,ex,n0,n1,nz,hfar,hown,ht⟩:=ht;obtain⟨v,sx,hd⟩:=r.val ix _ ex;obtain⟨N,vs,rfl,qT,SX⟩:=hd.UW;obtain⟨v0,r0,e0,hd0,v1,r1,e1,Xd,v2,r2,e2,hd2,e3⟩:=SX;obtain⟨b,M,rfl,nb,qb,hu⟩:=hd2.WE;have hb:=(qb.2 rfl).1;have ev:vs=[v0,v1,.ref b]:=by rw[e0,e1,e2,e3]
 subst ev;have il:iy<L.length:=Inv.XZ I hy;have ilx:ix<L.length:=(VE.mp sx).1;refine zCe (Rw (P1 E s L H {nx:=λR5 H'=>∃A,H A=none/\R5=L.set iy (some (.ref A))/\H'=L2.upd H A (.lst M),rt:=λ_ _=>False} I ?_) λf s1' q=>?_);exact⟨.ref N,sx,N,_,2,.ref b,rfl,rfl,qT.w,rfl,b,M,rfl,.inl qb.1,λA C=>⟨A,C,rfl,rfl⟩⟩;cases f with
 |ret w=>obtain⟨_,_,_,_,_,z⟩:=q;exact z.elim
 |brk=>obtain⟨_,_,_,z⟩:=q;exact z.elim
 |cont=>obtain⟨_,_,_,z⟩:=q;exact z.elim
 |next =>
 obtain⟨σ1,J,I3,A,C,rfl,eH3⟩:=q;have sm:av H J:=by rw[eH3];exact av.upd C
 have g3:J A=some (.lst M):=by rw[eH3];exact aP
 have G:J b=some (.lst M):=sm _ _ hb;have n31:A≠b:=λe=>by rw[e,hb]at C;cases C
 clear eH3;have sx1:(L.set iy (some (.ref A)))[ix]?=some (some (V.ref N)):=by rw[Vx (Ne.symm TN)];exact sx
 have Y:SJ X.K J N [v0,v1,.ref b]:=SJ.same sm qT;refine zCe (Rw (P2 E s1' _ J {nx:=λR5 H'=>R5=L.set iy (some (.ref A))/\H'=L2.upd J b (.lst []),rt:=λ_ _=>False} I3 ?_) λf s2' q=>?_);exact⟨.ref N,sx1,N,_,2,.ref b,rfl,rfl,Y.w,rfl,.inl ⟨rfl,M,SqL.of G⟩,b,M,rfl,rfl,G,rfl,rfl⟩;cases f with
 |ret w=>obtain⟨_,_,_,_,_,z⟩:=q;exact z.elim
 |brk=>obtain⟨_,_,_,z⟩:=q;exact z.elim
 |cont=>obtain⟨_,_,_,z⟩:=q;exact z.elim
 |next =>
 obtain⟨σ2,O,I4,rfl,p⟩:=q;have k3:=Inv.kno I3 g3;have k1:=Inv.kno I3 G;have T:¬W.bad true A:=λz=>by obtain⟨o,q⟩:=r.tracked true A z;rw[C]at q;cases q
 have den:∀P:yak,ah X.K P J (.tup (.tup g::q)::zs) M:=λP=>ah.ZJ _ _ nz (hu.same sm)
 have U:∀P:yak,¬P true A->Den X.K P J (.lst true (.tup (.tup g::q)::zs)) (.ref A):=λP p3=>Den.lst p3 (UH.new g3 k3) (den P)
 have r3:=((r.same sm).forget ix).put il (U W.bad T);have z1:X.Sj b=none:=by
  cases e:X.Sj b with
  |none=>rfl
  |some o=>exact absurd (.inr (.inr ⟨rfl,s0 b o e⟩)) nb
 obtain⟨t0,t1,us',ws,eus,ht0⟩:∃t0 t1 us' ws,M=.ref t0::us'/\SJ X.K J t0 (.ref t1::ws):=by obtain⟨u,r,e,hu',_⟩:=den W.bad;obtain⟨c,ys,rfl,qc,hy⟩:=hu'.UW;obtain⟨u1,r1,e1,hu1,_⟩:=hy;obtain⟨c1,_,rfl,_,_⟩:=hu1.UW;exact⟨c,c1,r,r1,e,by rw[<- e1];exact qc⟩
 have ent4:av X.Sj O:=by rw[p];exact av.ins (r.ent.trans sm) z1 G True.intro True.intro
 have tab4:ig X.K O:=by rw[p];exact ig.upd (r.tab.same sm) True.intro (.inr ⟨_,G,(λ_ z=>by cases z),True.intro⟩)
 have g4:O b=some (.lst []):=by rw[p];exact aP
 have r4:Rel X (W.drop iy) O (L.set iy (some (.ref A))) ((ρ.set ix none).set iy (some (.val (.lst true (.tup (.tup g::q)::zs))))):=by
  refine r3.apart (Z:=λa=>a=b) (λa ha=>by rw[p,aC ha]) (λa ha=>by subst ha;exact⟨M,[],G,g4⟩) (λi a ho hz=>?_) (λj d v m hs hdv=>?_) (λj x m=>?_) ent4 tab4;have Xc:W.O i=some a:=by have z:(if i=iy then none else W.O i)=some a:=ho;split at z;cases z;exact z
  subst hz;exact nb (.inr (.inl ⟨i,Xc⟩));by_cases ey:j=iy;subst ey;have lρ:j<(ρ.set ix none).length:=by by_cases l:j<(ρ.set ix none).length;exact l;rw[zB6 (by rw[zCG];lia)]at m;cases m
  rw[Zb lρ]at m;rw[Zb il]at hs;cases m;cases hs;exact U _ λz=>z.elim (λz=>T (Own.Su z)) n31
  rw[Vx (Ne.symm ey)]at m;by_cases B:j=ix;subst B;rw[Zb (VE.mp ex).1]at m;cases m;rw[Vx (Ne.symm B)]at m;exact IV k1 (by rw[<- eus];exact G) ht0 (hfar j d B ey m) hdv;by_cases ey:j=iy;subst ey;have lρ:j<(ρ.set ix none).length:=by by_cases l:j<(ρ.set ix none).length;exact l;rw[zB6 (by rw[zCG];lia)]at m;cases m
  rw[Zb lρ]at m;cases m;rw[Vx (Ne.symm ey)]at m;by_cases B:j=ix;subst B;rw[Zb (VE.mp ex).1]at m;cases m;rw[Vx (Ne.symm B)]at m;exact hown j x B ey m
 have qT4:SJ X.K O N [v0,v1,.ref b]:=by rw[p];show L2.upd _ _ _ _=_;rw[aC (nU Y G (by intro z;cases z))];exact Y
 have old:∀{d v},lT d=true->Den X.K W.bad H d v->Den X.K (W.drop iy).bad O d v:=fun {d v} nd h=>by
  refine Den.map (P:=λt a=>(W.drop iy).bad t a∨a=b) (λc ws q=>?_) (λt c ws n q=>?_) (λc u n q=>?_) d v (Den.ZJ d v nd (h.same sm));show O c=_;rw[p,aC (nU q G (by intro z;cases z))];exact q;have e:O c=J c:=by rw[p,aC λz=>n (.inr z)]
  refine⟨λz=>n (.inl z),?_,λz=>⟨by rw[e];exact(q.2 z).1,(q.2 z).2⟩⟩;rcases q.1 with(q|⟨u,q⟩)|q;exact .inl (.inl (by rw[e];exact q));exact .inl (.inr ⟨u,by rw[e];exact q⟩);exact .inr q;rw[p,aC λz=>by subst z;rw[G]at q;cases q;exact n];exact q
 have r5:=r4.put (i:=ix) (d:=.tup [d0,d1,.lst true []]) (v:=.ref N) (by rw[zCG];exact ilx) (Den.tup qT4 (ah.cons (old n0 hd0) (ah.cons (old n1 Xd) (ah.cons (Den.lst (λz=>nb (Own.Su z)) (UH.new g4 k1) rfl) rfl))));have es:(L.set iy (some (V.ref A))).set ix (some (.ref N))=L.set iy (some (.ref A)):=by apply List.ext_getElem?;intro k;by_cases e:k=ix;subst e;rw[Zb (by rw[zCG];exact ilx),sx1];rw[Vx (Ne.symm e)]
 rw[es,List.set_comm _ _ (Ne.symm TN),List.set_set]at r5;exact h3 E s2' _ O ((W.drop iy).drop ix) _ Q I4 r5 s0 ht
end
def Q2(xs:yah)(a:Addr)(cl:List (Str×Addr)):List (Str×Addr):=match xs with
 |[]=>cl
 |x::_=>(x,a)::cl
structure CSC(osc sc:Scope)(xs ns:yah):Prop where
 kind:sc.kind=.function
 one:∃x,xs=[x]
 onecell:∀y∈sc.names,y.2=.cell->y.1∈xs
 names:∀y∈sc.names,y.2=.local->sc.names.lookup y.1=some .local
 tgt:∀x∈xs,sc.names.lookup x=some .cell
 free:∀y∈sc.names,y.2=.free->y.1∈ns/\osc.names.lookup y.1=some .cell
 cells:∀n∈ns,sc.names.lookup n=some .free/\osc.names.lookup n=some .cell
 nd:(xs++ns).Nodup
 lay:∀n acc,cellsFrom n sc.names acc=Q2 xs n acc
 psh:∀h:Heap,pushCells h sc.names=h.push {cls:=.type "cell", data:=.cell none}
end PD
namespace LW
open PySem PySem.Spec PyProof.Rows L2 PD
seal PD.cT PD.UQ PD.RU PD.Xr PD.Vm PD.Wt PD.YF PD.PGD PD.wB PD.TsD PD.WH PD.PKD PD.PPD PD.PDO PD.PFL PD.PPK PD.PEK
local macro_rules|`(tactic|kd_p)=>`(tactic| exact ⟨rfl, rfl, rfl, by decide +kernel, rfl, by decide +kernel, by decide +kernel⟩)
def top(i:Nat):Stmt:=PySem.Challenge.pw_halvecut_k55_whole_the_deepest.main.body.getD i (.Pass ⟨0,0,0,0⟩)
abbrev Bg:Stmt:=top 8
abbrev gw:Stmt:=top 9
abbrev oC:Stmt:=top 10
abbrev qE:Stmt:=top 11
abbrev rS:Stmt:=top 12
abbrev xj:Stmt:=top 14
abbrev Bf:Stmt:=top 15
abbrev oz:Stmt:=top 16
abbrev qv:Stmt:=top 17
abbrev Bc:Stmt:=top 18
abbrev tZ:Stmt:=top 19
abbrev xh:Stmt:=top 21
abbrev oE:Stmt:=top 22
abbrev Be:Stmt:=top 23
abbrev xi:Stmt:=top 24
abbrev xf:Stmt:=top 25
abbrev Bh:Stmt:=top 26
abbrev A9:Stmt:=top 27
abbrev qD:Stmt:=top 28
abbrev qF:Stmt:=top 30
abbrev jZ:Stmt:=top 31
abbrev iZ:Stmt:=top 32
abbrev iI:Stmt:=top 33
abbrev gI:Stmt:=top 34
abbrev xg:Stmt:=top 36
abbrev vE:Stmt:=top 37
abbrev jD:Stmt:=top 38
abbrev ow:Stmt:=top 39
abbrev iH:Stmt:=top 41
abbrev eS:Stmt:=top 42
abbrev me:Stmt:=top 43
abbrev jY:Stmt:=top 44
abbrev gQ:Stmt:=top 45
abbrev t6:Stmt:=top 47
abbrev iF:Stmt:=top 48
abbrev gr:Stmt:=top 49
abbrev cQ:Stmt:=top 50
abbrev qu:Stmt:=top 51
abbrev gR:Stmt:=top 53
abbrev lA:Stmt:=top 54
abbrev tY:Stmt:=top 55
abbrev EM:Stmt:=top 56
abbrev jz:Stmt:=top 57
abbrev jW:Stmt:=top 58
abbrev vD:Stmt:=top 59
abbrev eR:Stmt:=top 62
abbrev oD:Stmt:=top 63
abbrev jy:Stmt:=top 64
abbrev vF:Stmt:=top 65
abbrev qy:Stmt:=top 66
abbrev gS:Stmt:=top 67
abbrev t8:Stmt:=top 68
abbrev gA:Stmt:=top 69
abbrev fu:Stmt:=top 70
abbrev qw:Stmt:=top 71
abbrev l9:Stmt:=top 73
abbrev jA:Stmt:=top 74
abbrev jB:Stmt:=top 75
abbrev qC:Stmt:=top 76
abbrev oA:Stmt:=top 77
abbrev l8:Stmt:=top 78
abbrev iG:Stmt:=top 79
abbrev qz:Stmt:=top 80
abbrev jX:Stmt:=top 81
abbrev fZ:Stmt:=top 82
abbrev jC:Stmt:=top 83
abbrev iY:Stmt:=top 84
def MW:ay ["number"] ["number"] (ao Bg):=by kd_p
def cX:ay ["one", "other", "rest"] ["one", "other"] (ao gw):=by kd_p
def lC:ay ["numbers", "divisor", "number"] ["numbers"] (ao oC):=by kd_p
def oH:ay ["triple", "lead", "divisor"] ["triple", "lead"] (ao qE):=by kd_p
def gB:ay ["count", "size", "found", "length", "longer", "pick", "first"] ["count", "size"] (ao rS):=by kd_p
def J5:ay ["gauge", "place"] ["gauge", "place"] (ao xj):=by kd_p
def MV:ay ["gauge", "place"] ["gauge", "place"] (ao Bf):=by kd_p
def B3:ay ["gauge"] ["gauge"] (ao oz):=by kd_p
def EO:ay ["one", "other"] ["one", "other"] (ao qv):=by kd_p
def C9:ay ["one", "other", "gauge"] ["one", "other"] (ao Bc):=by kd_p
def Ht:ay ["place", "way"] ["place", "way"] (ao tZ):=by kd_p
def J2:ay ["by", "x", "y"] ["by", "x", "y"] (ao xh):=by kd_p
def B5:ay ["spot"] ["spot"] (ao oE):=by kd_p
def Dc:ay ["one", "other", "across"] ["one", "other"] (ao Be):=by kd_p
def J3:ay ["one", "two", "three"] ["one", "two", "three"] (ao xi):=by kd_p
def J1:ay ["one", "other"] ["one", "other"] (ao xf):=by kd_p
def MX:ay ["one", "other"] ["one", "other"] (ao Bh):=by kd_p
def MT:ay ["way"] ["way"] (ao A9):=by kd_p
def ES:ay ["way"] ["way"] (ao qD):=by kd_p
def ET:ay ["dot"] ["dot"] (ao qF):=by kd_p
def B7:ay ["dots"] ["dots"] (ao jZ):=by kd_p
def Bj:ay ["dots", "colour"] ["dots", "colour"] (ao iZ):=by kd_p
def J4:ay ["dots", "colour"] ["dots", "colour"] (ao iI):=by kd_p
def oI:ay ["dots", "gauge", "colour", "weights", "dot"] ["dots", "gauge", "colour"] (ao gI):=by kd_p
def ua:ay ["places", "kept", "each"] ["places"] (ao xg):=by kd_p
def C8:ay ["spots", "places"] ["spots"] (ao vE):=by kd_p
def iK:ay ["one", "other", "along", "across"] ["one", "other"] (ao jD):=by kd_p
def Hs:ay ["corners"] ["corners"] (ao ow):=by kd_p
def vJ:ay ["dots", "pair"] ["dots", "pair"] (ao iH):=by kd_p
def ph:ay ["dots", "pairs"] ["dots"] (ao eS):=by kd_p
def Bm:ay ["dots", "pair"] ["dots", "pair"] (ao me):=by kd_p
def B6:ay ["dots", "lines"] ["dots", "lines"] (ao jY):=by kd_p
def yQ:ay ["dots"] ["dots"] (ao gQ):=by kd_p
def Hu:ay ["way"] ["way"] (ao t6):=by kd_p
def vG:ay ["one", "other"] ["one", "other"] (ao iF):=by kd_p
def sd:ay ["one", "other"] ["one", "other"] (ao gr):=by kd_p
def dU:ay ["one", "two", "three", "turns"] ["one", "two", "three"] (ao cQ):=by kd_p
def EN:ay ["ways"] ["ways"] (ao qu):=by kd_p
def gC:ay ["one", "other", "gauge", "here", "there"] ["one", "other", "gauge"] (ao gR):=by kd_p
def gT:ay ["corners", "gauge", "kept", "index", "one", "other"] ["corners", "gauge"] (ao lA):=by kd_p
def qG:ay ["corners", "gauges", "gauge"] ["corners", "gauges"] (ao tY):=by kd_p
def vI:ay ["corners", "first", "index"] ["corners"] (ao EM):=by kd_p
def fx:ay ["corners", "gauges", "last"] ["corners", "gauges"] (ao jz):=by kd_p
def BZ:ay ["gauges", "numbers", "shares"] ["gauges", "numbers", "shares"] (ao jW):=by kd_p
def mU:ay ["corners", "gauges", "last", "others", "numbers", "shares"] ["corners", "gauges"] (ao vD):=by kd_p
def yP:ay ["dots"] ["dots"] (ao eR):=by kd_p
def B4:ay ["gauge"] ["gauge"] (ao oD):=by kd_p
def iJ:ay ["dots", "found", "row"] ["dots"] (ao jy):=by kd_p
def MU:ay ["planes", "weight"] ["planes", "weight"] (ao vF):=by kd_p
def ER:ay ["dots"] ["dots"] (ao qy):=by kd_p
def kN:ay ["dots", "planes", "least", "weight"] ["dots", "planes", "least"] (ao gS):=by kd_p
def Hv:ay ["dots", "least"] ["dots", "least"] (ao t8):=by kd_p
def bW:ay ["dots", "planes", "reached", "most", "tried"] ["dots", "planes"] (ao gA):=by kd_p
def dZ:ay ["dots", "planes", "found", "weight", "corners", "gauges"] ["dots", "planes", "found"] (ao fu):=by kd_p
def oG:ay ["dots", "planes", "found"] ["dots"] (ao qw):=by kd_p
def Bi:ay ["_law_found"] ["_law_found"] (ao l9):=by kd_p
def xn:ay ["_law_script", "_law_k"] ["_law_script", "_law_k"] (ao jA):=by kd_p
def fy:ay ["_law_one", "_law_other", "_law_here", "_law_there"] ["_law_one", "_law_other"] (ao jB):=by kd_p
def bD:ay ["_law_cell", "_law_kind", "_law_heavy", "_law_number", "_law_x", "_law_y", "_law_weight"] ["_law_cell", "_law_kind", "_law_heavy"] (ao qC):=by kd_p
def dR:ay ["_law_script", "_law_start", "_law_most", "_law_first", "_law_kind", "_law_heavy", "_law_dots_here", "_law_cell"] ["_law_script", "_law_start", "_law_most"] (ao oA):=by kd_p
def aO:ay ["_law_dots_here", "_law_here", "_law_found", "_law_ways", "_law_least", "_law_way", "_law_x", "_law_y", "_law_colour", "_law_weight", "_law_right", "_law_up", "_law_sums", "_law_lighter_sum", "_law_turn", "_law_along", "_law_at"] ["_law_dots_here", "_law_here"] (ao l8):=by kd_p
def vH:ay ["_law_found"] ["_law_found"] (ao iG):=by kd_p
def dN:ay ["_law_row", "_law_dots_here", "_law_least", "_law_weight_there", "_law_x", "_law_y", "_law_colour", "_law_weight"] ["_law_row", "_law_dots_here", "_law_least"] (ao qz):=by kd_p
def i4:ay ["_law_rows", "_law_dots_here", "_law_least", "_law_sums", "_law_row"] ["_law_rows", "_law_dots_here", "_law_least"] (ao jX):=by kd_p
def mV:ay ["_law_found", "_law_dots_here", "_law_whole_weight"] ["_law_found", "_law_dots_here"] (ao fZ):=by kd_p
def fz:ay ["_law_dots_here", "_law_few", "_law_caught", "error"] ["_law_dots_here", "_law_few"] (ao jC):=by kd_p
def ji:ay ["_law_script", "_law_dots_here", "_law_whole_weight", "_law_handed", "_law_found", "_law_many", "_law_held", "_law_second"] ["_law_script"] (ao iY):=by kd_p
structure SD where
 PlaneError:Addr
 NoPlace:Addr
 NoLine:Addr
 TooFew:Addr
 TooMany:Addr
 NoSuch:Addr
structure SN(K:yac)(mg:yam)(κ:SD):Prop where
 SR:mg "PlaneError" = some (.ref κ.PlaneError)
 Up:mg "NoPlace" = some (.ref κ.NoPlace)
 US:mg "NoLine" = some (.ref κ.NoLine)
 TF:mg "TooFew" = some (.ref κ.TooFew)
 Td:mg "TooMany" = some (.ref κ.TooMany)
 Ug:mg "NoSuch" = some (.ref κ.NoSuch)
 RO:∃t,mg "MOST_FOR_DEEPEST" = some (.int 12 t)
 TP:PySem.W.excIn K κ.TooFew vZ "ValueError.__new__" = true
 Uh:PX.d6 K κ.TooFew
 R3:PySem.W.kitOne K (.ref κ.TooFew) (.ref κ.PlaneError)=some true
 Sq:PySem.W.kitOne K (.ref κ.TooFew) (.ref κ.NoPlace)=some false
 Sx:PySem.W.kitOne K (.ref κ.TooFew) (.ref κ.NoLine)=some false
 Sa:PySem.W.kitOne K (.ref κ.TooFew) (.ref κ.TooFew)=some true
 RV:PySem.W.kitOne K (.ref κ.TooFew) (.ref κ.TooMany)=some false
 Sb:PySem.W.kitOne K (.ref κ.TooFew) (.ref κ.NoSuch)=some false
 RJ:PySem.W.kitOne K (.ref κ.TooFew) (.type "ValueError")=some true
 RK:PySem.W.exmOne K (.ref κ.TooFew) (.ref κ.PlaneError)=some true
 Sy:PySem.W.exmOne K (.ref κ.TooFew) (.ref κ.TooFew)=some true
 Tj:PySem.W.excIn K κ.TooMany vZ "ValueError.__new__" = true
 TQ:PX.d6 K κ.TooMany
 RS:PySem.W.kitOne K (.ref κ.TooMany) (.ref κ.PlaneError)=some true
 Sg:PySem.W.kitOne K (.ref κ.TooMany) (.ref κ.NoPlace)=some false
 Sr:PySem.W.kitOne K (.ref κ.TooMany) (.ref κ.NoLine)=some false
 RW:PySem.W.kitOne K (.ref κ.TooMany) (.ref κ.TooFew)=some false
 RP:PySem.W.kitOne K (.ref κ.TooMany) (.ref κ.TooMany)=some true
 RX:PySem.W.kitOne K (.ref κ.TooMany) (.ref κ.NoSuch)=some false
 RE:PySem.W.kitOne K (.ref κ.TooMany) (.type "ValueError")=some true
 RF:PySem.W.exmOne K (.ref κ.TooMany) (.ref κ.PlaneError)=some true
 Si:PySem.W.exmOne K (.ref κ.TooMany) (.ref κ.TooMany)=some true
noncomputable def sg(n:Int):Int:=if 0<n then 1 else if n<0 then -1 else 0
def rk(a0 a1 c a b1 b:Int):Int:=if sg (a1*a - b1*a0)=0 then sg (c*a - b*a0)else sg (a1*a - b1*a0)
noncomputable def sw(a0 a1 d f b1 c e b a:Int):Int:=a0*(b1*a - b*c)+f*(b*d - a1*a)+e*(a1*c - b1*d)
def q0{t g:Int}(a:g≠0)(b:g∣t)(h:Bd n t):Bd n (t.fdiv g):=Xh (PM.sG a b) h
structure Pl(n:Nat)(a b c:Int):Prop where
 pos:0<a
 low:PM.g3 a b c=1
 b0:Bd n a
 b1:Bd n b
 b2:Bd n c
def jO{d k x y z:Int}(f:d∣k*x)(e:d∣k*y)(c:d∣k*z)(b:PM.g3 x y z=1):d∣k:=by
 have a:d∣(Int.gcd (k*x) (k*y):Int):=zC4 f e;rw[zDL]at a;have e:d∣k*(Int.gcd x y:Int):=by
  have:((k.natAbs*Int.gcd x y:Nat):Int)∣k*(Int.gcd x y:Int):=by rw[Int.natCast_mul];exact Int.mul_dvd_mul (Int.natAbs_dvd.mpr (by simp_all)) (by simp_all)
  exact zCm a this
 have a:d∣(Int.gcd (k*(Int.gcd x y:Int)) (k*z):Int):=zC4 e c;rw[zDL]at a;have c:Int.gcd (Int.gcd x y:Int) z=1:=b;rw[c,Nat.mul_one]at a;exact zCm a (Int.natAbs_dvd.mpr (by simp_all))
abbrev Sp:=Int×Int
abbrev yas:=List Sp
def SU(p:Sp):D:=.tup [.int p.1,.int p.2]
def De(h:SU p=SU q):p=q:=by
 unfold SU at h
 lia
theorem gJ{a:Type}{f:a->D}(b:∀{p q},f p=f q->p=q):∀{ps qs:List a},ps.map f=qs.map f->ps=qs
 |[],[],_=>rfl
 |[],_::_,h=>by simp at h
 |_::_,[],h=>by simp at h
 |p::ps,q::qs,h=>by simp at h;rw[b h.1,gJ b h.2]
def M4{ps qs:yas}(h:ps.map SU=qs.map SU):ps=qs:=gJ De h
theorem uq(p:Sp):aU (SU p)=SU p:=rfl
def vW(ps:yas):bf (ps.map SU)=ps.map SU:=cI SU uq ps
def Tc(p:Sp):D:=.tup [.int 1,.int p.1,.int p.2]
def C2(h:Tc p=Tc q):p=q:=by
 unfold Tc at h
 lia
def MF{ps qs:yas}(h:ps.map Tc=qs.map Tc):ps=qs:=gJ C2 h
theorem kU(p:Sp):aU (Tc p)=Tc p:=rfl
def vV(ps:yas):bf (ps.map Tc)=ps.map Tc:=cI Tc kU ps
def cr(a b e:Sp):Int:=sw 1 a.1 a.2 1 b.1 b.2 1 e.1 e.2
def cE:yas->Sp->yas
 |b::a::r,e=>if cr a b e<=0 then cE (a::r) e else b::a::r
 |l,_=>l
def bJ:yas->yas->yas
 |acc,[]=>acc
 |acc,e::a=>bJ (e::cE acc e) a
theorem sE(x:Sp):∀(acc done:yas),bJ acc (done++[x])=x::cE (bJ acc done) x
 |acc,[]=>rfl
 |acc,e::a=>by show bJ (e::cE acc e) (a++[x])=_;rw[sE x _ a];rfl
theorem tT:∀(st:yas) (e:Sp),∃c,st=c++cE st e
 |[],e=>⟨[],rfl⟩
 |[b],e=>⟨[],rfl⟩
 |b::a::r,e=>by
  unfold cE;split;obtain⟨c,q⟩:=tT (a::r) e;grind
  simp_all
def JP(st:yas)(e:Sp):(cE st e).length<=st.length:=by obtain⟨a,q⟩:=tT st e;grind
def Fu{a:Type}(xs:List a)(u v:a):T9 (xs++[u]++[v]) (-2)=some u:=by have:=bU (xs:=xs++[u]++[v]) (j:=xs.length) (v:=u) (by simp);unfold T9 at this ⊢;rw[show ixN (xs++[u]++[v]).length (-2)=some xs.length by unfold ixN;simp;lia];simp
def fm{a b:Int}(c:0<b):0<=a.fmod b/\a.fmod b<b:=⟨zDA a c,Int.fmod_lt_of_pos a c⟩
def p12:((10:Int) ^ (12:Int).toNat)=1000000000000:=by decide
def DY:Ic 10 12:=⟨by decide,by decide,by decide⟩
def Y7(p:Sp):yaf:=[p.1,p.2]
def KR(ps:yas):ps.map SU=(ps.map Y7).map PD.tupI:=by rw[UC];rfl
def bN(ys ps:yas):Prop:=ys.Pairwise (λp q=>p.1<q.1∨(p.1=q.1/\p.2<q.2))/\∀p,p∈ys↔p∈ps
def Hl{ps:yas}(h:PD.zt zs (ps.map Y7)):∃ys:yas,zs=ys.map Y7/\bN ys ps:=by
 obtain⟨b,a⟩:=h;have f:∀z∈zs,∃p:Sp,z=Y7 p:=by grind
 have d:∃ys:yas,zs=ys.map Y7:=by
  clear b a
  induction zs with
  |nil=>simp_all
  |cons z zs ih =>
   obtain⟨p,e⟩:=f z (by simp_all);obtain⟨ys,g⟩:=ih (by grind);exact⟨p::ys,by grind⟩
 obtain⟨ys,rfl⟩:=d;have c:∀{p q:Sp},Y7 p=Y7 q->p=q:=fun {p q} e=>by
  unfold Y7 at e
  lia
 refine⟨ys,rfl,?_,λp=>?_⟩;refine(zDE.mp b).imp fun {p q} e=>?_
 unfold Y7 SW.lexLt at e;split at e;unfold SW.lexLt at e;split at e;cases e
 simp_all
 simp_all
 constructor;intro d;obtain⟨q,b,e⟩:=S5.mp ((a (Y7 p)).mp (by grind));grind;intro d;obtain⟨q,b,e⟩:=S5.mp ((a (Y7 p)).mpr (by grind));grind
def zQ(xs:yar):PD.cutD xs none (some (-1))=xs.dropLast:=by
 unfold PD.cutD;rw[List.dropLast_eq_take];have b:HT.SG xs.length 0 none=0:=rfl;have a:HT.SG xs.length xs.length (some (-1))=xs.length - 1:=by
  unfold HT.SG
  lia
 simp_all
theorem kH:∀(acc ps:yas),(bJ acc ps).length<=acc.length+ps.length
 |acc,[]=>SF _
 |acc,e::a=>by have:=kH (e::cE acc e) a;have b:=JP acc e;show(bJ (e::cE acc e) a).length<=_;grind
theorem GN:∀{ys ps:yas},ys.Nodup->(∀p∈ys,p∈ps)->ys.length<=ps.length
 |[],_,_,_=>UE _
 |y::ys,ps,a,h=>by obtain⟨c,b⟩:=zCS.mp a;have r:=GN (ps:=ps.erase y) b (by grind);grind
def tU(h:bN ys ps):ys.length<=ps.length:=by
 have a:ys.Nodup:=h.1.imp fun {p q} c e=>by lia
 exact GN a λp a=>(h.2 p).mp a
def aI(ys:yas):yas:=(bJ [] ys).reverse
def aX(ys:yas):yas:=if ys.length<2 then ys else(aI ys).dropLast++(aI ys.reverse).dropLast
def zL{a:Type}{wi:DA}{js:yag}{te:DE}{Q:D->Prop}{P:List a->Prop}(f g:a->D)(b:∀R:yar->Prop,(∀ys,P ys->R (ys.map f))->wi ρ R)(hz:∀ys,P ys->ys.length<=sizeLine)
  (c:∀ys,P ys->∀x∈ys,∀K:D->Prop,K (g x)->te (some (.val (f x))::js.map (bI ρ)) K) (q:∀ys,P ys->Q (.lst true (ys.map g))):uI wi js zT te ρ Q:=by
 refine b _ λys a=>?_
 have:=PD.comp_map (wi:=λ_ R=>R (ys.map f)) (js:=js) (tc:=zT) (te:=te) (ρ:=ρ) (Q:=Q) ys f (λ_=>true) g (λR h=>h) (hz ys a) (λx b K k=>k) (λx b _ K k=>c ys a x b K k) (by rw[Xg.mpr (by lia)];simp_all);exact this
structure SB(p:Sp):Prop where
 x:Bd 60 p.1
 y:Bd 60 p.2
def lR(p q:Sp):Prop:=p.1<q.1∨(p.1=q.1/\p.2<q.2)
def cA(a b e:Sp):cr a b e=(b.1 - a.1)*(e.2 - a.2) - (b.2 - a.2)*(e.1 - a.1):=by unfold cr sw;grind
def fA(A B:Int)(p:Sp):Int:=A*p.1+B*p.2
def cx(a b c d:Sp):Int:=(b.1 - a.1)*(d.2 - c.2) - (b.2 - a.2)*(d.1 - c.1)
def DZ(A B:Int)(a b c d e g:Sp):cx a b e g*(fA A B d - fA A B c)=cx c d e g*(fA A B b - fA A B a)+cx a b c d*(fA A B g - fA A B e):=by unfold cx fA;grind
def JQ{x y:Int}(h:0<x*y)(a:0<y):0<x:=by by_cases c:0<x;exact c;have:=Tw (show 0<=-x by lia) (Tb a);grind
def OV{x y:Int}(h:0<=x*y)(a:0<y):0<=x:=by
 by_cases c:0<=x;exact c;have:=Wl (show 0 < -x by lia) a
 lia
def Ko(j:fA A B a<fA A B b)(h:fA A B c<fA A B d)(f:fA A B e<fA A B g)(p:0<cx a b c d)(q:0<=cx c d e g):0<cx a b e g:=by have i:=DZ A B a b c d e g;have u:=Tw q (show 0<=fA A B b - fA A B a by lia);have v:=Wl p (show 0<fA A B g - fA A B e by lia);exact JQ (y:=fA A B d - fA A B c) (by lia) (by lia)
def Kn(j:fA A B a<fA A B b)(h:fA A B c<fA A B d)(f:fA A B e<fA A B g)(p:0<=cx a b c d)(q:0<cx c d e g):0<cx a b e g:=by have i:=DZ A B a b c d e g;have u:=Wl q (show 0<fA A B b - fA A B a by lia);have v:=Tw p (show 0<=fA A B g - fA A B e by lia);exact JQ (y:=fA A B d - fA A B c) (by lia) (by lia)
def P5(j:fA A B a<fA A B b)(h:fA A B c<fA A B d)(f:fA A B e<fA A B g)(p:0<=cx a b c d)(q:0<=cx c d e g):0<=cx a b e g:=by have i:=DZ A B a b c d e g;have u:=Tw q (show 0<=fA A B b - fA A B a by lia);have v:=Tw p (show 0<=fA A B g - fA A B e by lia);exact OV (y:=fA A B d - fA A B c) (by lia) (by lia)
def cx1(a b e:Sp):cr a b e=cx a b a e:=by rw[cA];rfl
def cx2(a b e:Sp):cr a b e=cx a b b e:=by rw[cA];unfold cx;grind
def cx3(a b e:Sp):cr a b e=cx a e b e:=by rw[cA];unfold cx;grind
def cx4(a b e:Sp):cr a b e=cx e a a b:=by rw[cA];unfold cx;grind
def cx5(a b e:Sp):cr a b e=cx e b a b:=by rw[cA];unfold cx;grind
def Lq(a b c d:Sp):cx a b c d=- cx c d a b:=by unfold cx;grind
def NC(a b:Sp):cr a b a=0:=by rw[cA];grind
def ND(a b:Sp):cr a b b=0:=by rw[cA];grind
structure ChI(A B:Int)(st done:yas):Prop where
 e2:∀b a r,(b::a::r) <:+ st->∀p∈done,0<=cr a b p
 e3:∀c b a r,(c::b::a::r) <:+ st->0<cr a b c
 ord:st.Pairwise λb a=>fA A B a<fA A B b
 mem:∀p∈st,p∈done
 top:∀b r,st=b::r->∀p∈done,fA A B p<=fA A B b
 bot:done ≠ []->∃pre a,st=pre++[a]/\∀p∈done,fA A B a<=fA A B p
def E3{b a:Sp}{r st:yas}(h:b::a::r <:+ st)(o:st.Pairwise R):R b a:=by obtain⟨c,rfl⟩:=h;exact(Ze.mp (YQ.mp o).2.1).1 a (by simp_all)
theorem Hh(I:ChI A B st0 done)(d:∀p∈done,fA A B p<fA A B x):∀(st:yas),st <:+ st0->(∀b r,st=b::r->∀p∈done,fA A B b<fA A B p->0<=cr b x p) →
  (∀b a r,cE st x=b::a::r->0<cr a b x)/\(∀b r,cE st x=b::r->∀p∈done,fA A B b<fA A B p->0<=cr b x p)
 |[],_,h=>⟨λb a r e=>(by cases e),λb r e=>(by cases e)⟩
 |[b],_,h=>⟨λb a r e=>(by cases e),h⟩
 |b::a::r,s,h=>by
  unfold cE;split;rename_i c;refine Hh I d (a::r) (List.IsSuffix.trans (List.suffix_cons _ _) s) λj i e p g f=>?_
  cases e;have o:=E3 s I.ord;have e:=I.e2 b a r s p g;have b:=d a (I.mem a (s.subset (by simp)));rw[cx1]at e c ⊢;rw[Lq]at c;exact P5 b o f (by lia) e
  simp_all
theorem far(I:ChI A B st0 done)(c:∀p∈done,fA A B p<fA A B x):∀(st:yas),st <:+ st0->(∀b a r,st=b::a::r->0<cr a b x)->∀b a r,b::a::r <:+ st->0<cr a b x
 |[],_,_=>by simp_all
 |b::st,s,h=>λf g b e=>by
  rcases List.suffix_cons_iff.mp e with q|q;exact h _ _ _ q.symm;refine far I c st (List.IsSuffix.trans (List.suffix_cons _ _) s) (λa i r d=>?_) f g b q;subst d;have d:=h _ _ _ rfl;have b:=I.e3 _ _ _ _ s;have g:=E3 s I.ord;have f:=E3 (List.IsSuffix.trans (List.suffix_cons _ _) s) I.ord;have e:=c a (I.mem a (s.subset (by simp)));rw[cx2]at b ⊢;rw[cx1]at d;exact Ko f g e b (Tb d)
theorem C3:∀{st:yas},st ≠ []->cE st x ≠ []
 |[],h=>absurd rfl h
 |[b],_=>by simp[cE]
 |b::a::r,_=>by
  unfold cE;split
  all_goals simp_all [C3]
def Jg{A B:Int}{st done:yas}{x:Sp}(I:ChI A B st done)(h:∀p∈done,fA A B p<fA A B x)(m:∀p∈done,∀q∈done,fA A B p=fA A B q->p=q)(u:done=[]->st=[]):ChI A B (x::cE st x) (done++[x]):=by
 have s:cE st x <:+ st:=by obtain⟨f,q⟩:=tT st x;exact⟨f,q.symm⟩
 obtain⟨n,w⟩:=Hh I h st (List.suffix_refl _) λb r e p d y=>absurd (I.top b r e p d) (by lia)
 have F:=far I h _ s n;refine⟨λb a r e p d=>?_,λc b a r e=>?_,?_,λp d=>?_,λb r e p d=>?_,λ_=>?_⟩;rcases List.suffix_cons_iff.mp e with q|q;injection q with l b;subst l;rcases Ta.mp d with d|d;rcases zCX (fA A B p) (fA A B a)with c|c|c;rcases r with _|⟨z,r⟩;obtain⟨f,C,g,i⟩:=I.bot (List.ne_nil_of_mem d);rw[<- b]at s;obtain⟨k,j⟩:=s;rw[g]at j;have:=List.append_inj_right' j (by simp);simp at this;have:=i p d
 subst_vars
 lia
 have i:=n _ _ _ b.symm;rw[<- b]at s;have r:=I.e2 _ _ _ s p d;have o:=E3 s I.ord;have t:=h a (I.mem a (s.subset (by simp)));rw[cx2]at i;rw[cx5]at r;rw[cx4];exact Tb (Kn c o t r i);rw[m p d a (I.mem a (s.subset (by rw[<- b];simp))) c,NC];exact W9 _;exact w _ _ b.symm p d c;rw[VF.mp d,ND];exact W9 _;rcases Ta.mp d with d|d;exact I.e2 _ _ _ (q.trans s) p d;rw[VF.mp d];exact Tb (F _ _ _ q);rcases List.suffix_cons_iff.mp e with q|q;injection q with l b;subst l;exact n _ _ _ b.symm;exact I.e3 _ _ _ _ (q.trans s);exact Ze.mpr ⟨λa b=>h a (I.mem a (s.subset b)),I.ord.sublist s.sublist⟩;rcases Tx.mp d with q|q;rw[q];simp;exact XM _ (I.mem p (s.subset q));injection e with g j;subst g;rcases Ta.mp d with q|q;exact Tb (h p q);rw[VF.mp q];exact W9 _;by_cases b:done=[];rw[u b,b];exact⟨[],x,rfl,λp d=>by simp at d;rw[d];exact W9 _⟩;obtain⟨f,a,g,i⟩:=I.bot b;obtain⟨k,j⟩:=s;have f:cE st x ≠ []:=C3 (by rw[g];simp);obtain⟨b,c,e⟩:∃b c,cE st x=b++[c]:=⟨_,_,(zCC f).symm⟩;have:c=a:=by rw[e,g,<- Xi]at j;have:=List.append_inj_right' j (by simp);simpa using this
 subst this;refine⟨x::b,c,by rw[e];rfl,λp d=>?_⟩;rcases Ta.mp d with q|q;exact i p q;rw[VF.mp q];exact Tb (h c (I.mem c (by rw[g];simp)))
theorem yh:∀(es st done:yas),ChI A B st done->(done=[]->st=[])->(done++es).Pairwise (λp q=>fA A B p<fA A B q)->ChI A B (bJ st es) (done++es)
 |[],st,done,I,_,_=>by rw[YV];exact I
 |x::es,st,done,I,c,o=>by
  obtain⟨b,f,d⟩:=YQ.mp o;have a:∀(l:yas),l.Pairwise (λp q=>fA A B p<fA A B q)->∀p∈l,∀q∈l,fA A B p=fA A B q->p=q:=by
   intro l
   induction l with
   |nil=>simp_all
   |cons y l ih =>
    intro o p h q g e;obtain⟨u,v⟩:=Ze.mp o;grind
  have:=yh es (x::cE st x) (done++[x]) (Jg I (by simp_all) (a done b) c) (by simp) (by simp_all);rw[Xi]at this;exact this
def LX(A B:Int):ChI A B [] []:=⟨by grind,by simp_all,.nil,by lia,by lia,by lia⟩
def OH{ys:yas}(o:ys.Pairwise λp q=>fA A B p<fA A B q):ChI A B (bJ [] ys) ys:=by
 have:=yh ys [] [] (LX A B) (by lia) (by simp_all)
 simp_all
structure Way(A B:Int)(ps:yas)(n:Nat)(l:Nat->Sp):Prop where
 two:2<=n
 TR:∀i,i+1<n->∀p∈ps,0<=cr (l i) (l (i+1)) p
 Xy:∀i,i+2<n->0<cr (l i) (l (i+1)) (l (i+2))
 rise:∀i j,i<j->j<n->fA A B (l i)<fA A B (l j)
 mem:∀i,i<n->l i∈ps
 lo:∀p∈ps,fA A B (l 0)<=fA A B p
 hi:∀p∈ps,fA A B p<=fA A B (l (n - 1))
def fR(A B:Int)(p:Sp):fA (-A) (-B) p=- fA A B p:=by unfold fA;grind
theorem J9{n m:Nat}(L:Way A B ps (n+2) l)(U:Way (-A) (-B) ps (m+2) u)(i:l (n+1)=u 0)(h:0<n+m):0<cr (l n) (l (n+1)) (u 1):=by
 have f:=L.rise n (n+1) (by lia) (by lia);have d:=U.rise 0 1 Nat.one_pos (by lia);rw[fR,fR,Int.neg_lt_neg_iff]at d;rw[i]at f ⊢;have g:cr (l n) (u 0) (u 1)=cx (u 1) (u 0) (l n) (u 0):=by rw[cA];unfold cx;grind
 rw[g];cases n with
 |succ a =>
  have b:=L.Xy a (by simp_all);have o:=L.rise a (a+2) (by lia) (by simp_all);have e:=U.TR 0 (by lia) (l a) (L.mem a (by lia));have c:l (a+2)=u 0:=i;rw[c]at o b;have g:cr (u 0) (u 1) (l a)=cx (u 1) (u 0) (l a) (u 0):=by rw[cA];unfold cx;grind
  rw[g]at e;rw[cx3]at b;exact Kn (A:=A) (B:=B) d o f e b
 |zero =>
  cases m with
  |zero=>lia
  |succ m =>
   have b:=U.Xy 0 (by lia);have o:=U.rise 0 2 (by decide) (by lia);rw[fR,fR,Int.neg_lt_neg_iff]at o;have e:=L.TR 0 (by lia) (u 2) (U.mem 2 (by lia));have c:l (0+1)=u 0:=i;rw[c]at e;have g:cr (l 0) (u 0) (u 2)=cx (u 2) (u 0) (l 0) (u 0):=by rw[cA];unfold cx;grind
   have j:cr (u 0) (u 1) (u 2)=cx (u 1) (u 0) (u 2) (u 0):=by rw[cA];unfold cx;grind
   rw[g]at e;have a:0<cx (u 1) (u 0) (u 2) (u 0):=by simp_all
   exact Ko (A:=A) (B:=B) d o f a e
def C6{n m:Nat}{h:Nat->Sp}(L:Way A B ps (n+2) l)(U:Way (-A) (-B) ps (m+2) u)(r:l (n+1)=u 0)(i:u (m+1)=l 0)(q:0<n+m)
  (b:∀k,k<n+2->h k=l k) (d:∀j,j<m+1->h (n+1+j)=u j):(∀k,k<n+m+2->∀p∈ps,0<=cr (h ((k+(n+m+2) - 1) % (n+m+2))) (h k) p)/\0<cr (h 0) (h 1) (h 2):=by
 refine⟨λk o p f=>?_,?_⟩;cases k with
 |zero =>
  have e:(0+(n+m+2) - 1) % (n+m+2)=n+1+m:=by simp_all [YX,Nat.add_right_comm]
  rw[e,d m (by simp_all),b 0 (by simp_all),<- i];exact U.TR m (by simp_all) p f
 |succ k =>
  have e:(k+1+(n+m+2) - 1) % (n+m+2)=k:=by
   rw[Nat.add_right_comm]
   simp_all [Nat.add_mod_right,XQ,Ys]
  rw[e];by_cases c:k+1<n+2;rw[b k (Ys c),b (k+1) c];exact L.TR k c p f;obtain⟨j,rfl⟩:=Nat.le.dest (Nat.le_of_succ_le_succ (zCc c));have g:j+1<m+1:=by lia
  rw[d j (Ys g),zCp,d (j+1) g];exact U.TR j (zDG g) p f
 cases n with
 |succ a =>
  have z:2<a+1+2:=by lia
  rw[b 0 (by simp_all),b 1 (by simp_all),b 2 z];exact L.Xy 0 z
 |zero =>
  grind [J9]
def HW{ys:yas}(o:ys.Pairwise λp q=>fA A B p<fA A B q)(e:2<=ys.length):Way A B ys (aI ys).length λi=>(aI ys).getD i (0,0):=by
 have I:=OH o;obtain⟨c,a,b,l⟩:=I.bot (by grind);have d:2<=(aI ys).length:=by
  unfold aI;rw[zBp,b];rcases c with _|⟨b,c⟩;have t:=I.top a [] (by simp_all);rcases ys with _|⟨k,_|⟨c,r⟩⟩;simp at e;simp at e;have q:=(Ze.mp o).1 c (by simp);grind;simp
 have sp1:∀i,i<(aI ys).length->(aI ys)[i]?=some ((aI ys).getD i (0,0)):=by grind
 have c:bJ [] ys=(aI ys).reverse:=by unfold aI;grind
 refine⟨d,λi d p f=>?_,λi d=>?_,λi j h g=>?_,λi d=>?_,λp f=>?_,λp f=>?_⟩;refine I.e2 _ _ ((aI ys).take i).reverse ⟨((aI ys).drop (i+2)).reverse,?_⟩ p f;rw[c];have q:=XB i (aI ys);rw[zBZ (by lia),zBZ d]at q;have e:=congrArg List.reverse q;simp only[Xz,Ul (show i<(aI ys).length by lia),Ul d,Option.getD_some];simpa only[zC2,zCs,Xi,Zf,Z6]using e;refine I.e3 _ _ _ ((aI ys).take i).reverse ⟨((aI ys).drop (i+3)).reverse,?_⟩;rw[c];have q:=XB i (aI ys);rw[zBZ (by lia),zBZ (show i+1<(aI ys).length by lia),zBZ d]at q;have e:=congrArg List.reverse q;simp only[Xz,Ul (show i<(aI ys).length by lia),Ul (show i+1<(aI ys).length by lia),Ul d,Option.getD_some];simpa only[zC2,zCs,Xi,Zf,Z6]using e;have c:(aI ys).Pairwise λa b=>fA A B a<fA A B b:=by exact List.pairwise_reverse.mpr I.ord
 have:=(Y9.mp c) i j (by lia) g h;grind;refine I.mem _ ?_;grind
 simp_all
 have e:=sp1 ((aI ys).length - 1) (by lia);generalize (aI ys).getD ((aI ys).length - 1) (0,0)=b at e ⊢;refine I.top b (bJ [] ys).tail ?_ p f;unfold aI at e;cases hc:bJ [] ys with
 |nil=>grind
 |cons x r=>rw[hc]at e;simp at e;grind
theorem Ga:∀{l:yas},l.Pairwise (λp q=>fA A B p<fA A B q)->∀p∈l,∀q∈l,fA A B p=fA A B q->p=q
 |[],_,p,a=>by grind
 |y::l,o,p,a=>λq b e=>by
  obtain⟨u,v⟩:=Ze.mp o;rcases Tx.mp a with a|a<;>rcases Tx.mp b with b|b
  lia
  grind;have:=u p a;simp_all;exact Ga v p a q b e
def Way.to{ps qs:yas}(h:∀p,p∈qs↔p∈ps)(W:Way A B ps n l):Way A B qs n l :=
 ⟨W.two,λi b p a=>W.TR i b p ((h p).mp a),W.Xy,W.rise,λi b=>(h _).mpr (W.mem i b),λp a=>W.lo p ((h p).mp a),λp a=>W.hi p ((h p).mp a)⟩
theorem Nw:∀ys:yas,∃M:Int,0<M/\∀p∈ys,-M<p.2/\p.2<M
 |[]=>⟨1,by decide,by simp_all⟩
 |y::ys=>by obtain⟨M,b,h⟩:=Nw ys;refine⟨M+y.2.natAbs+1,by lia,λp a=>?_⟩;rcases List.mem_cons.mp a with rfl|a;lia;have:=h p a;lia
def GB{M:Int}{p q:Sp}(h0:0<M)(b:-M<p.2/\p.2<M)(a:-M<q.2/\q.2<M)(h:lR p q):fA (2*M) 1 p<fA (2*M) 1 q:=by
 unfold fA;rcases h with h|⟨d,c⟩;have:=zDC (show p.1+1<=q.1 by lia) (show 0<=2*M by lia)
 lia
 lia
def bK(hs:yas)(k:Nat):Sp:=hs.getD ((k+hs.length - 1) % hs.length) (0,0)
structure ni(hs ps:yas):Prop where
 mem:∀p∈hs,p∈ps
 len:hs.length<=2*ps.length
 Yo:ps ≠ []->∃a r,hs=a::r/\∀p∈ps,¬lR p a
 one:∀a,hs=[a]->∀p∈ps,p=a
 two:∀a b,hs=[a,b]->a≠b/\∀p∈ps,cr a b p=0/\¬lR b p
 TR:2<hs.length->∀k,k<hs.length->∀p∈ps,0<=cr (bK hs k) (hs.getD k (0,0)) p
 Xy:2<hs.length->0<cr (hs.getD 0 (0,0)) (hs.getD 1 (0,0)) (hs.getD 2 (0,0))
def Av{ys ps:yas}(o:ys.Pairwise (λp q=>p.1<q.1∨(p.1=q.1/\p.2<q.2)))(a:∀p,p∈ys↔p∈ps)(c:¬ys.length<2):∃(A:Int) (n m:Nat),(aI ys).length<=ys.length/\(aI ys.reverse).length<=ys.length/\(∀p∈ps,∀q∈ps,fA A 1 p=fA A 1 q->p=q)/\(∀p∈ps,∀q∈ps,fA A 1 p<=fA A 1 q->¬lR q p)/\(aI ys).length=n+2/\(aI ys.reverse).length=m+2 ∧
  Way A 1 ps (n+2) (λi=>(aI ys).getD i (0,0))/\Way (-A) (-1) ps (m+2) (λi=>(aI ys.reverse).getD i (0,0))/\(aI ys).getD (n+1) (0,0)=(aI ys.reverse).getD 0 (0,0)/\(aI ys.reverse).getD (m+1) (0,0)=(aI ys).getD 0 (0,0) ∧
  (∀j,j<m+1->((aI ys).dropLast++(aI ys.reverse).dropLast).getD (n+1+j) (0,0)=(aI ys.reverse).getD j (0,0))/\(∀k,k<n+2->((aI ys).dropLast++(aI ys.reverse).dropLast).getD k (0,0)=(aI ys).getD k (0,0))/\((aI ys).dropLast++(aI ys.reverse).dropLast).length=n+m+2:=by
 obtain⟨M,r,g⟩:=Nw ys;have i:ys.Pairwise λp q=>fA (2*M) 1 p<fA (2*M) 1 q:=by refine List.Pairwise.imp_of_mem ?_ o;intro p q f d h;exact GB r (g p f) (g q d) h
 have s:ys.reverse.Pairwise λp q=>fA (-(2*M)) (-1) p<fA (-(2*M)) (-1) q:=by refine List.pairwise_reverse.mpr (i.imp ?_);intro p q h;rw[fR,fR];exact Int.neg_lt_neg h
 have L:=(HW i (zCc c)).to (qs:=ps) λp=>(a p).symm
 have U:=(HW s (by rw[zBp];exact zCc c)).to (qs:=ps) λp=>by rw[zCK];exact(a p).symm
 have w:(aI ys).length<=ys.length:=by have:=kH [] ys;unfold aI;rw[zBp];simpa using this
 have t:(aI ys.reverse).length<=ys.length:=by have:=kH [] ys.reverse;unfold aI;rw[zBp];simpa using this
 generalize aI ys=l at L w ⊢;generalize aI ys.reverse=u at U t ⊢;have b:∀p∈ps,∀q∈ps,fA (2*M) 1 p=fA (2*M) 1 q->p=q:=λp f q d e=>Ga i p ((a p).mpr f) q ((a q).mpr d) e
 have h:∀p∈ps,∀q∈ps,fA (2*M) 1 p<=fA (2*M) 1 q->¬lR q p:=λp f q d e x =>
  Int.not_le_of_gt (GB r (g q ((a q).mpr d)) (g p ((a p).mpr f)) x) e
 generalize 2*M=A at L U b h;clear i s g r o a;obtain⟨n,c⟩:∃n,l.length=n+2:=⟨l.length - 2,by have:=L.two;lia⟩;obtain⟨m,a⟩:∃m,u.length=m+2:=⟨u.length - 2,by have:=U.two;lia⟩;have o:(l.dropLast++u.dropLast).length=n+m+2:=by
  rw[Vh,zCR,zCR,c,a];show n+1+(m+1)=_
  lia
 rw[c]at L;rw[a]at U;have i:l.getD (n+1) (0,0)=u.getD 0 (0,0):=by have e:=L.mem (n+1) (zCz _);have d:=U.mem 0 (Nat.succ_pos _);have g:=L.hi _ d;have f:=U.lo _ e;rw[fR,fR]at f;exact b _ e _ d (Int.le_antisymm (Int.le_of_neg_le_neg f) g)
 have p:u.getD (m+1) (0,0)=l.getD 0 (0,0):=by have e:=L.mem 0 (Nat.succ_pos _);have d:=U.mem (m+1) (zCz _);have g:=L.lo _ d;have f:=U.hi _ e;rw[fR,fR]at f;exact b _ d _ e (Int.le_antisymm (Int.le_of_neg_le_neg f) g)
 have d:∀j,j<m+1->(l.dropLast++u.dropLast).getD (n+1+j) (0,0)=u.getD j (0,0):=λj e=>by
  have ld:l.dropLast.length=n+1:=by rw[zCR,c];rfl
  rw[Xz,Xz,WK (by rw[ld];exact VP _ _),ld,zBj,List.getElem?_dropLast,a,Rv (show j<m+2 - 1 from e)]
 have f:∀k,k<n+2->(l.dropLast++u.dropLast).getD k (0,0)=l.getD k (0,0):=λk e=>by
  rcases zCi (Yr e)with z|z;rw[Xz,Xz,WZ (by rw[zCR,c];exact z),List.getElem?_dropLast,c,Rv (show k<n+2 - 1 from z)];rw[z,i];exact d 0 (Nat.succ_pos _)
 exact⟨A,n,m,w,t,b,h,c,a,L,U,i,p,d,f,o⟩
def qe(h:bN ys ps):ni (aX ys) ps:=by
 have I:=tU h;obtain⟨o,j⟩:=h;unfold aX;by_cases c:ys.length<2;rw[Rv c];refine⟨λp d=>(j p).mp d,by lia,λe=>?_,λa e p d=>?_,λa b e=>?_,λq=>absurd q (by lia),λq=>absurd q (by lia)⟩;rcases ys with _|⟨y,_|⟨z,r⟩⟩;cases ps with
 |nil=>exact absurd rfl e
 |cons y r=>have:=(j y).mpr zB9;cases this
 refine⟨y,[],rfl,λp d=>?_⟩;have:=(j p).mpr d;rw[VF.mp this];exact λq=>q.elim (zCn _) λq=>zCn _ q.2
 exact absurd c (by simp);have:=(j p).mpr d;rw[e]at this;exact VF.mp this;rw[e]at c;simp at c;rw[if_neg c];obtain⟨A,n,m,ll,J,G,y,H,j,L,U,s,t,B,h,f⟩:=Av o j c;generalize aI ys=l at *;generalize aI ys.reverse=u at *;have c:∀{w:yas} {x:Sp},x∈w.dropLast->x∈w:=fun {w x} g=>(List.dropLast_sublist w).subset g
 have o:∀{w:yas} {i:Nat} (g:i<w.length),w.getD i (0,0)=w[i]:=fun {w i} g=>by rw[Xz,Ul g];rfl
 have k:=h 0 (Nat.succ_pos _);refine⟨λp d=>?_,by rw[f];lia,λe=>?_,λa e=>?_,λa b e=>?_,λq=>?_,λq=>?_⟩;rcases Ta.mp d with z|z;obtain⟨i,g,e⟩:=List.mem_iff_getElem.mp (c z);rw[<- e,<- o g];exact L.mem i (by rw[<- H];exact g);obtain⟨i,g,e⟩:=List.mem_iff_getElem.mp (c z);rw[<- e,<- o g];exact U.mem i (by rw[<- j];exact g);cases hh:l.dropLast++u.dropLast with
 |nil=>rw[hh]at f;exact absurd f (by simp)
 |cons a r =>
  rw[hh]at k;refine⟨a,r,rfl,λp d=>?_⟩;rw[show a=l.getD 0 (0,0)from k];exact y _ (L.mem 0 (Nat.succ_pos _)) p d (L.lo p d)
 rw[e]at f;simp at f;have c:n=0/\m=0:=by rw[e]at f;simp at f;lia
 obtain⟨rfl,rfl⟩:=c;have g:=h 1 (by decide);rw[e]at k g;have i:a=l.getD 0 (0,0):=k;have c:b=l.getD 1 (0,0):=g;have e:l.getD 1 (0,0)=u.getD 0 (0,0):=s;have g:u.getD 1 (0,0)=l.getD 0 (0,0):=t;refine⟨λj=>?_,λp d=>?_⟩;have:=L.rise 0 1 (by decide) (by decide);rw[<- i,<- c,j]at this;exact zCn _ this;have l:=L.TR 0 (by decide) p d;have k:=U.TR 0 (by decide) p d;have j:=L.hi p d;have E:0<=cr a b p:=by rw[i,c];exact l
 have C:0<=cr b a p:=by rw[c,e,i,<- g];exact k
 have e:fA A 1 p<=fA A 1 b:=by rw[c];exact j
 have M:cr b a p=- cr a b p:=by rw[cA,cA];grind
 refine⟨by lia,y p d b ?_ e⟩;rw[c];exact L.mem 1 (by decide);intro k a p d;rw[f]at a q;have R:=(C6 L U s t (by lia) h B).1 k a p d;unfold bK;rw[f];exact R;rw[f]at q;exact(C6 L U s t (by lia) h B).2
def zE{a:Type}(xs:List a)(j b:Nat)(d:j<xs.length)(e:b<=xs.length):T9 xs ((j:Int) - (b:Int))=xs[(j+xs.length - b) % xs.length]?:=by unfold T9 ixN;by_cases c:b<=j;rw[Rv (by lia),Rv (by lia),show j+xs.length - b=j - b+xs.length by lia,Nat.add_mod_right,XQ (by lia)];grind;rw[if_neg (by lia),Rv (by lia),XQ (by lia)];grind
theorem KQ(lo a:Int):kI lo a 1=(a - lo).toNat:=by
 unfold kI Builtin.Range.rangeSize;rw[if_pos (by decide)];by_cases h:lo<a;rw[if_pos h,Int.ediv_one,Int.sub_add_cancel];rw[if_neg h];exact (Int.toNat_eq_zero.mpr (Int.sub_nonpos_of_le (Int.not_lt.mp h))).symm
def A6(n:Nat):ju 0 1 (kI 0 (n:Int) 1)=(List.range' 0 n).map λ(k:Nat)=>D.int (k:Int):=by unfold ju;grind [KQ,List.range'_eq_map_range,List.map_map,List.map_congr_left]
def GU(p:Sp):Uy 1 (Tc p):=Uy.tup (.cons (.int _ _) (.cons (.int _ _) (.cons (.int _ _) (.nil _))))
noncomputable def eY(pk:yag):Nat:=match pk.getLast? with
 |none=>0
 |some l=>l+1
def Wj(n:Nat)(pk:yag):List (yag):=(List.range' (eY pk) (n - eY pk)).map λk=>pk++[k]
def Uq(n:Nat):Nat->List (yag)
 |0=>[[]]
 |j+1=>(Uq n j).flatMap (Wj n)
def V6(pk:yag):D:=.lst true (pk.map λ(k:Nat)=>D.int (k:Int))
theorem rG:∀{j:Nat} {pk:yag},pk∈Uq n j->pk.length=j/\∀k∈pk,k<n
 |0,pk,h=>by
  simp only[Uq,VF]at h
  simp_all
 |j+1,pk,h=>by simp only[Uq,zCJ]at h;obtain⟨q,a,h⟩:=h;obtain⟨c,b⟩:=rG a;unfold Wj at h;grind
theorem mM(n:Nat):∀j:Nat,(Uq n j).length<=n ^ j
 |0=>by simp[Uq]
 |j+1=>by
  have ih:=mM n j;have:∀l:List (yag),(l.flatMap (Wj n)).length<=l.length*n:=by
   intro l
   induction l with
   |nil=>simp
   |cons a r ih =>
    rw[List.flatMap_cons,Vh,Ye,Nat.add_mul];have:(Wj n a).length<=n:=by unfold Wj;grind
    lia
  refine Sd (this _) ?_
  simp_all [zDY,Nat.mul_le_mul_right]
def MS(a b:Nat):ju (a:Int) 1 (kI a b 1)=(List.range' a (b - a)).map λ(k:Nat)=>D.int (k:Int):=by
 unfold ju
 simp_all [KQ,List.range'_eq_map_range,UC]
theorem Al(n:Nat):∀l:List (yag),(l.flatMap (Wj n)).length<=l.length*n
 |[]=>by simp
 |a::r=>by
  rw[List.flatMap_cons,Vh,Ye,Nat.add_mul];have:=Al n r;have:(Wj n a).length<=n:=by unfold Wj;grind
  lia
def Lg{pk:yag}(h:pk ≠ []){Q:D->Prop}(q:Q (.int ((eY pk:Nat) - 1:Int))):∃d,T9 (pk.map λ(k:Nat)=>D.int (k:Int)) (-1)=some d/\Q d:=by
 obtain⟨r,l,rfl⟩:∃r l,pk=r++[l]:=⟨pk.dropLast,pk.getLast h,(zCC h).symm⟩;refine⟨.int l,?_,?_⟩;unfold T9 ixN;have e:(-1+((r.length:Int)+1)).toNat=r.length:=by lia
 have l:(1:Int)<=(r.length:Int)+1:=by lia
 simp_all
 have:((eY (r++[l]):Nat):Int) - 1=l:=by unfold eY;simp
 simp_all
abbrev Tr:=Int×Int×Int
abbrev yat:=List Tr
noncomputable def tn(a b:Sp):Int:=a.1*b.2 - b.1*a.2
def Rp(a b:Sp):Int:=a.1*b.1+a.2*b.2
def RQ(h:Tr)(p:Sp):Sp:=(h.1*p.1 - 1*h.2.1,h.1*p.2 - 1*h.2.2)
noncomputable def Rl(g h:Tr):Int:=g.1*h.1+g.2.1*h.2.1+g.2.2*h.2.2
noncomputable def d9(a b:Sp):Tr:=(a.1*b.2 - b.1*a.2,a.2*1 - b.2*1,1*b.1 - 1*a.1)
def bZ(a w:Sp):Tr:=(-(w.1*a.1+w.2*a.2),w.1*1,w.2*1)
def SO(a:Sp):Sp:=(-a.1,-a.2)
noncomputable def S7(a:Sp):Sp:=(-a.2,a.1)
noncomputable def aS(a b:Sp):Sp:=if a=b then(1,0)else(1*b.1 - 1*a.1,1*b.2 - 1*a.2)
def gc(a b:Sp):yat:=[bZ a (aS a b),bZ b (SO (aS a b)),bZ a (S7 (aS a b)),bZ a (SO (S7 (aS a b)))]
def aY(hs:yas):yat:=if hs.length<3 then gc (hs.getD 0 (0,0)) (hs.getD (hs.length - 1) (0,0))else(List.range' 0 hs.length).map λk=>d9 (bK hs k) (hs.getD k (0,0))
def wj(a:Sp):Prop:=a=(0,0)
def pI(a b:Sp):Prop:=tn a b=0/\Rp a b<0
def wk(a b e:Sp):Prop:=(0<tn b e/\0<tn e a/\0<tn a b)∨(tn b e<0/\tn e a<0/\tn a b<0)
theorem bQ(a b:Sp):tn a b=- tn b a:=by unfold tn;grind
def kj(a:Sp):tn a a=0:=by unfold tn;grind
def Ai(a b:Sp):Rp a b=Rp b a:=by unfold Rp;grind
def sqn(a:Int):0<=a*a:=by
 rcases Int.le_total 0 a with h|h;exact Tw h h;have:=Tw (show 0<=-a by lia) (show 0<=-a by lia)
 lia
def gG{w:Sp}(h:w≠(0,0)):0<Rp w w:=by
 obtain⟨a,b⟩:=w;unfold Rp;dsimp only;have f:=sqn a;have e:=sqn b;by_cases d:a=0;by_cases c:b=0
 lia
 have:b*b≠0:=by simp_all
 omega;have:a*a≠0:=by simp_all
 omega
def wF{b c:Sp}{y z:Int}(e:0<y)(hz:0<z)(h:y*b.1+z*c.1=0)(g:y*b.2+z*c.2=0):wj b∨pI b c:=by
 by_cases a:b=(0,0);exact .inl a
 right
 have p:=gG a;have t:z*tn b c=0:=by
  have:z*tn b c=b.1*(y*b.2+z*c.2) - b.2*(y*b.1+z*c.1):=by unfold tn;grind
  simp_all
 have d:z*Rp b c=- (y*Rp b b):=by
  have:z*Rp b c+y*Rp b b=b.1*(y*b.1+z*c.1)+b.2*(y*b.2+z*c.2):=by unfold Rp;grind
  grind
 have f:=Wl e p;refine⟨?_,?_⟩;rcases VQ.mp t with q|q<;>lia;by_cases q:Rp b c<0;exact q;have:=Tw (Tb hz) (show 0<=Rp b c by lia)
 lia
def Iy(a b c:Sp):tn b c*a.1+tn c a*b.1+tn a b*c.1=0/\tn b c*a.2+tn c a*b.2+tn a b*c.2=0:=by unfold tn;grind
def tS{c:Sp}{z:Int}(hz:0<z)(b:z*c.1=0)(a:z*c.2=0):wj c:=by
 rcases VQ.mp b with q|q
 lia
 rcases VQ.mp a with r|r
 lia
 exact Prod.ext q r
def Lh(i:0<=tn b c)(h:0<=tn c a)(hz:0<=tn a b)(hs:0<tn b c+tn c a+tn a b) :
  wj a∨wj b∨wj c∨pI a b∨pI b c∨pI c a∨wk a b c:=by
 obtain⟨e,d⟩:=Iy a b c;by_cases f:tn b c=0
 ·rw[f,YW]at e d;by_cases g:tn c a=0;rw[g,YW]at e d;exact .inr (.inr (.inl (tS (z:=tn a b) (by lia) (by lia) (by lia))))
  ·by_cases f:tn a b=0;rw[f,YW]at e d;exact .inr (.inl (tS (z:=tn c a) (by lia) (by lia) (by lia)))
   ·rcases wF (b:=b) (c:=c) (y:=tn c a) (z:=tn a b) (by lia) (by lia) (by lia) (by lia)with q|q
    all_goals simp_all
 ·by_cases g:tn c a=0
  ·rw[g,YW]at e d;by_cases f:tn a b=0;rw[f,YW]at e d;exact .inl (tS (z:=tn b c) (by lia) (by lia) (by lia))
   ·rcases wF (b:=c) (c:=a) (y:=tn a b) (z:=tn b c) (by lia) (by lia) (by lia) (by lia)with q|q
    all_goals simp_all
  ·by_cases f:tn a b=0
   ·rw[f,YW]at e d;rcases wF (b:=a) (c:=b) (y:=tn b c) (z:=tn c a) (by lia) (by lia) (by lia) (by lia)with q|q
    all_goals simp_all
   exact .inr (.inr (.inr (.inr (.inr (.inr (.inl (by lia)))))))
def wo(h:Tr)(ps:yas):Prop:=(∃p∈ps,wj (RQ h p))∨(∃p∈ps,∃q∈ps,pI (RQ h p) (RQ h q))∨∃ p∈ps,∃q∈ps,∃r∈ps,wk (RQ h p) (RQ h q) (RQ h r)
def Iw{ps:yas}{p q r:Sp}(d:p∈ps)(b:q∈ps)(a:r∈ps)(e:0<=tn (RQ h q) (RQ h r))(c:0<=tn (RQ h r) (RQ h p))(hz:0<=tn (RQ h p) (RQ h q))(hs:0<tn (RQ h q) (RQ h r)+tn (RQ h r) (RQ h p)+tn (RQ h p) (RQ h q)):wo h ps:=by
 rcases Lh e c hz hs with c|c|c|c|c|c|c;exact .inl ⟨_,d,c⟩;exact .inl ⟨_,b,c⟩;exact .inl ⟨_,a,c⟩;exact .inr (.inl ⟨_,d,_,b,c⟩);exact .inr (.inl ⟨_,b,_,a,c⟩);exact .inr (.inl ⟨_,a,_,d,c⟩);exact .inr (.inr ⟨_,d,_,b,_,a,c⟩)
def Ja(h:Tr)(a b:Sp):tn (RQ h a) (RQ h b)=h.1*Rl (d9 a b) h:=by unfold tn RQ Rl d9;grind
def LU(h:Tr)(a w:Sp):Rl (bZ a w) h=- Rp w (RQ h a):=by unfold Rl bZ Rp RQ;grind
def PH(h:Tr)(a b c:Sp):tn (RQ h b) (RQ h c)+tn (RQ h c) (RQ h a)+tn (RQ h a) (RQ h b)=h.1*(h.1*cr a b c):=by rw[cA];unfold tn RQ;grind
def OM(u v w:Sp):Rp u v*Rp u w+tn u v*tn u w=Rp u u*Rp v w:=by unfold Rp tn;grind
def xF{u:Sp}(a:u≠(0,0))(c:Rp u v=0)(b:tn u v=0):v=(0,0):=by
 have p:=gG a;have l:=OM u v v;rw[c,b]at l;by_cases c:v=(0,0);exact c;have:=Wl p (gG c)
 lia
def HH{ps:yas}{a b:Sp}(i:a∈ps)(bm:b∈ps)(c:∀g∈gc a b,0<=Rl g h):wo h ps:=by
 have l:=c _ (zB9);have f:=c _ (W4 _ zB9);have k:=c _ (W4 _ (W4 _ zB9));have e:=c _ (W4 _ (W4 _ (W4 _ zB9)));rw[LU]at l f k e;have d:aS a b≠(0,0):=by unfold aS;grind
 have c:Rp (SO (aS a b)) (RQ h b)=- Rp (aS a b) (RQ h b):=by unfold Rp SO;grind
 have n:Rp (S7 (aS a b)) (RQ h a)=tn (aS a b) (RQ h a):=by unfold Rp S7 tn;grind
 have m:Rp (SO (S7 (aS a b))) (RQ h a)=- tn (aS a b) (RQ h a):=by unfold Rp SO S7 tn;grind
 rw[c,Int.neg_neg]at f;have j:tn (aS a b) (RQ h a)=0:=by lia
 have g:Rp (aS a b) (RQ h a)<=0:=by simp_all
 clear l k e c n m;by_cases e:a=b;exact .inl ⟨a,i,xF d (by lia) j⟩;have o:RQ h b=((RQ h a).1+h.1*(aS a b).1,(RQ h a).2+h.1*(aS a b).2):=by unfold aS;rw[if_neg e];unfold RQ;grind
 have c:tn (aS a b) (RQ h b)=0:=by
  have:tn (aS a b) ((RQ h a).1+h.1*(aS a b).1,(RQ h a).2+h.1*(aS a b).2)=tn (aS a b) (RQ h a):=by unfold tn;grind
  simp_all
 have e:tn (RQ h a) (RQ h b)=0:=by
  have:tn (RQ h a) ((RQ h a).1+h.1*(aS a b).1,(RQ h a).2+h.1*(aS a b).2)=- (h.1*tn (aS a b) (RQ h a)):=by unfold tn;grind
  grind
 have l:=OM (aS a b) (RQ h a) (RQ h b);rw[c,XC,VU]at l;by_cases k:Rp (aS a b) (RQ h a)=0;exact .inl ⟨a,i,xF d k j⟩;by_cases j:Rp (aS a b) (RQ h b)=0;exact .inl ⟨b,bm,xF d j c⟩;have c:=Yc (Int.lt_iff_le_and_ne.mpr ⟨g,k⟩) (Int.lt_iff_le_and_ne.mpr ⟨f,Ne.symm j⟩);refine .inr (.inl ⟨a,i,b,bm,e,?_⟩);rw[l]at c;by_cases q:Rp (RQ h a) (RQ h b)<0;exact q;exact absurd c (XR.mpr (Tw (Tb (gG d)) (by simp_all)))
def IU{h:Tr}{ps:yas}{c:Nat->Sp}{N:Nat}(h0:0<h.1)(f:∀i,i<N->c i∈ps)(j:∀i,i+1<N->0<=tn (RQ h (c i)) (RQ h (c (i+1))))(Xy:0<cr (c 0) (c 1) (c 2)) :
  ∀ d i,N=i+d+3->0<=tn (RQ h (c (i+d+2))) (RQ h (c 0))->0<=tn (RQ h (c 0)) (RQ h (c (i+1)))->(i=0∨0<tn (RQ h (c 0)) (RQ h (c (i+1))))->wo h ps:=by
 have VM:∀i,i+2<N->0<=tn (RQ h (c (i+2))) (RQ h (c 0))->0<=tn (RQ h (c 0)) (RQ h (c (i+1)))->(i=0∨0<tn (RQ h (c 0)) (RQ h (c (i+1))))->wo h ps:=λi e a b c=>by
  have g:=j (i+1) e;refine Iw (f 0 (by lia)) (f (i+1) (Ys e)) (f (i+2) e) g a b ?_;rcases c with q|q
  simp_all [PH,Wl]
  exact Int.add_pos_of_nonneg_of_pos (Int.add_nonneg g a) q
 intro d
 induction d with
 |zero =>
  intro i k a b c;exact VM i (by simp_all) a b c
 |succ d ih =>
  grind [Int.le_of_lt,bQ,Int.neg_nonneg_of_nonpos]
def G9{h:Tr}(g:ni hs ps)(c:ps ≠ [])(h0:0<h.1)(a:∀b∈aY hs,0<=Rl b h):wo h ps:=by
 obtain⟨q,n,p,_⟩:=g.Yo c;have b:0<hs.length:=by grind
 have e:∀i,i<hs.length->hs.getD i (0,0)∈ps:=λi o=>by exact g.mem _ (by simp_all)
 unfold aY at a;by_cases c:hs.length<3;rw[Rv c]at a;exact HH (e 0 b) (by simp_all) a;rw[if_neg c]at a;obtain⟨d,l⟩:∃d,hs.length=0+d+3:=⟨hs.length - 3,by lia⟩;have m:∀k,k<hs.length->0<=tn (RQ h (bK hs k)) (RQ h (hs.getD k (0,0))):=λk a=>by rw[Ja];exact Tw (Tb h0) (by grind)
 have f:bK hs 0=hs.getD (0+d+2) (0,0):=by
  unfold bK
  simp_all
 have j:∀k,k+1<hs.length->bK hs (k+1)=hs.getD k (0,0):=λk a=>by unfold bK;grind [Nat.add_right_comm,Nat.add_mod_right,Nat.mod_eq_of_lt,Nat.lt_of_succ_lt]
 have k:∀i,i+1<hs.length->0<=tn (RQ h (hs.getD i (0,0))) (RQ h (hs.getD (i+1) (0,0))):=by grind
 have a:=m 0 b;rw[f]at a;exact IU (c:=λi=>hs.getD i (0,0)) h0 e k (g.Xy (by lia)) d 0 l a (by grind) (.inl rfl)
def xN{u v x y:Int}(e:u*y=v*x)(a:0<u∨(u=0/\0<v))(b:0<x∨(x=0/\0<=y)):0<=u*x+v*y:=by
 rcases a with a|⟨a,d⟩;have c:(u*x+v*y)*u=(u*u+v*v)*x:=by grind
 refine OV (y:=u) ?_ a;rw[c];refine Tw (Int.add_nonneg (sqn u) (sqn v)) ?_
 lia
 subst a;rw[YW]at e ⊢;rw[zDW];rcases VQ.mp e.symm with q|q
 lia
 rcases b with r|r
 lia
 exact Tw (Tb d) r.2
def wV(h:¬lR q p):0<q.1 - p.1∨(q.1 - p.1=0/\0<=q.2 - p.2):=by
 unfold lR at h
 lia
def Kb{a b:Sp}{g:Tr}(i:a≠b)(h:¬lR b a)(f:¬lR p a)(e:¬lR b p)(h0:cr a b p=0)(c:g∈gc a b):0<=Rl g (1,p.1,p.2):=by
 have d:∀w a:Sp,Rl (bZ a w) (1,p.1,p.2)=w.1*(p.1 - a.1)+w.2*(p.2 - a.2):=λw a=>by unfold Rl bZ;grind
 rw[cA]at h0;have k:(b.1 - a.1)*(p.2 - a.2)=(b.2 - a.2)*(p.1 - a.1):=by lia
 have j:(b.1 - a.1)*(b.2 - p.2)=(b.2 - a.2)*(b.1 - p.1):=by grind
 have g:0<b.1 - a.1∨(b.1 - a.1=0/\0<b.2 - a.2):=by
  rcases wV h with q|⟨q,r⟩
  simp_all
  grind
 have a:=xN k g (wV f);have l:=xN j g (wV e);unfold gc aS at c;rw[if_neg i]at c;simp at c;rcases c with q|q|q|q<;>rw[q,d]<;>simp only[SO,S7];exact a;grind
 all_goals simp_all [Vj,Int.add_left_neg,W9,Int.neg_neg,Int.add_right_neg]
def BE(g:ni hs ps)(c:ps ≠ []){b:Tr}(d:b∈aY hs){p:Sp}(f:p∈ps):0<=Rl b (1,p.1,p.2):=by
 obtain⟨j,e,h,a⟩:=g.Yo c;unfold aY at d;by_cases c:hs.length<3;rcases e with _|⟨i,_|⟨z,r⟩⟩;have e:=g.one j h p f;rw[h]at d;have l:∀w:Sp,Rl (bZ p w) (1,p.1,p.2)=0:=λw=>by unfold Rl bZ;grind
 unfold gc at d;simp at d;grind;have e:=g.two j i h;rw[h]at d;exact Kb e.1 (a i (g.mem i (by simp_all))) (a p f) (e.2 p f).2 (e.2 p f).1 d;rw[h]at c;exact absurd c (by simp);rw[if_neg c]at d;obtain⟨k,m,e⟩:=S5.mp d;have a:k<hs.length:=by grind
 have c:Rl b (1,p.1,p.2)=cr (bK hs k) (hs.getD k (0,0)) p:=by rw[<- e,cA];unfold Rl d9;grind
 rw[c];exact g.TR (by lia) k a p f
def bC(w:Sp):Int:=((w.1.natAbs:Nat):Int)+((w.2.natAbs:Nat):Int)
def bX:Int->yaf->Int
 |d,[]=>d
 |d,x::a=>bX ((Int.gcd d x:Nat):Int) a
def dj(xs:yaf):yaf:=xs.map λx=>x.fdiv (bX 0 xs)
def sZ(a:Sp):Option (yaf):=if bC a=0 then some [1]else none
def pN(a b:Sp):Option (yaf):=if tn a b=0/\Rp a b<0 then some (dj [bC b,bC a])else none
def lM(a b e:Sp):Option (yaf) :=
 if 0<tn b e/\0<tn e a/\0<tn a b then some (dj [tn b e,tn e a,tn a b])
 else if tn b e<0/\tn e a<0/\tn a b<0 then some (dj [-tn b e,-tn e a,-tn a b])else none
def lN:yas->Option (yaf)
 |[]=>none
 |[a]=>sZ a
 |[a,b]=>pN a b
 |a::b::e::_=>lM a b e
def yo:bC a=0↔a=(0,0):=by unfold bC;grind
def AI{n i:Nat}(h:i<n):[i]∈Uq n 1:=by simp only[Uq,List.flatMap_cons,List.flatMap_nil,YV];exact S5.mpr ⟨i,List.mem_range'_1.mpr ⟨UE _,by simp[eY];exact h⟩,rfl⟩
def Jq{n i j:Nat}(h:i<j)(a:j<n):[i,j]∈Uq n 2:=by
 have:=AI (n:=n) (i:=i) (by lia);refine zCJ.mpr ⟨[i],this,S5.mpr ⟨j,List.mem_range'_1.mpr ?_,rfl⟩⟩;simp[eY]
 lia
theorem An(k:Int)(a:0<=k):∀(xs:yaf) (d:Int),bX (k*d) (xs.map (k*·))=k*bX d xs
 |[],d=>rfl
 |x::xs,d=>by show bX ((Int.gcd (k*d) (k*x):Nat):Int) (xs.map (k*·))=_;rw[zDL,Int.natCast_mul,Int.natAbs_of_nonneg a,An k a xs];rfl
def G8(h:tn a b=0):Rp b b*a.1+(-(Rp a b))*b.1=0/\Rp b b*a.2+(-(Rp a b))*b.2=0:=by
 have d:Rp b b*a.1+(-(Rp a b))*b.1=b.2*tn a b:=by unfold Rp tn;grind
 have c:Rp b b*a.2+(-(Rp a b))*b.2=- (b.1*tn a b):=by unfold Rp tn;grind
 simp_all
def tJ{a:Sp}(h:a≠(0,0)):0<bC a:=by
 have:bC a≠0:=λe=>h (yo.mp e)
 unfold bC at this ⊢
 lia
def RD(g:Tr):D:=T3 g.1 g.2.1 g.2.2
theorem Dh(h:RD p=RD q):p=q:=by
 unfold RD T3 at h
 lia
def M6{ps qs:yat}(h:ps.map RD=qs.map RD):ps=qs:=gJ Dh h
theorem iU(p:Tr):aU (RD p)=RD p:=rfl
def vX(ps:yat):bf (ps.map RD)=ps.map RD:=cI RD iU ps
def oL:Option (yaf)->D
 |none=>.RZ
 |some a=>.lst true (a.map D.int)
structure WB(n:Nat)(w:Sp):Prop where
 x:Bd n w.1
 y:Bd n w.2
structure PB(n:Nat)(h:Tr):Prop where
 b0:0<h.1
 b:Bd 100 h.1
 x:Bd n h.2.1
 y:Bd n h.2.2
theorem WB.mono{m:Nat}(h:WB n w)(a:n<=m):WB m w:=⟨h.x.mono a,h.y.mono a⟩
def Wk(b:Bd n x)(a:Bd m y)(c:n<=1000:=by decide)(d:m<=1000:=by decide):CM x y:=.inr (.inr ⟨b.mono (by lia),a.mono (by lia)⟩)
theorem yf(x:Int):∀(d:Int) (xs:yaf),bX d (xs++[x])=((Int.gcd (bX d xs) x:Nat):Int)
 |d,[]=>rfl
 |d,y::a=>yf x _ a
def wR(h:WB n w):Bd (n+2) (bC w):=by
 have b:=h.x;have a:=h.y;unfold Bd bC at *
 lia
def LS{x:Int}(h:x≠0):0<Int.gcd ((Int.gcd 0 d:Nat):Int) x:=by simp_all
def Ge(a:Bd n x)(h:x≠0):Bd n ((Int.gcd d x:Nat):Int):=by
 unfold Bd at *;have:=zCq (by lia) (Int.gcd_dvd_natAbs_right d x)
 lia
def pP(h:Bd n x):Bd n (-x):=by unfold Bd at *;rw[Int.natAbs_neg];exact h
def Oh(p q:Sp):eqD (Tc p) (Tc q)=decide (p=q):=by
 unfold Tc;rw[wO,i8,i8,i8,tG,j8,j8,j8,Bool.and_true]
 lia
def Ft{a:Type}{xs:List a}{v:a}(h0:0<xs.length)(h:xs[xs.length - 1]?=some v):T9 xs (-1)=some v:=by unfold T9 ixN;rw[if_neg (by lia),Rv (by lia)];rw[show(-1+(xs.length:Int)).toNat=xs.length - 1 by lia];exact h
def Iq(d:SB a)(c:SB b):WB 62 (aS a b):=by unfold aS;split;exact⟨by unfold Bd;decide,by unfold Bd;decide⟩;exact⟨by rw[YY,YY];exact Bd.mono (m:=61) (c.x.sub d.x) (by decide),by show Bd 62 (1*b.2 - 1*a.2);rw[YY,YY];exact Bd.mono (m:=61) (c.y.sub d.y) (by decide)⟩
def DX(hs:yas):(aY hs).length<=hs.length+4:=by
 unfold aY gc;split
 all_goals simp_all
def Qa{g p b:Int}(a:0<g)(e:g*p=b)(h:Bd n b):Bd n p:=by
 unfold Bd at *;rw[<- e,zCN]at h;have:1*p.natAbs<=g.natAbs*p.natAbs:=Nat.mul_le_mul_right _ (by lia)
 lia
def IW{a:Int}(c:Bd 402 b)(h:b≠0):Bd 1000 (bX 0 [a,b]):=(Ge c h).mono (by decide)
def iL{c b:DS}{ρ:Ro}(P:Ro->Prop)(d:∀a,P a->b E a)(e:∀K:Ro->Prop,(∀a,P a->K a)->c {E with nx:=K} ρ):nE c b E ρ:=e _ d
def wsum(sh:yaf)(ws:yas):Sp:=((List.zipWith (λs (w:Sp)=>s*w.1) sh ws).sum,(List.zipWith (λs (w:Sp)=>s*w.2) sh ws).sum)
theorem tH:∀(d:Int) (xs:yaf),bX d xs∣d/\∀x∈xs,bX d xs∣x
 |d,[]=>⟨Int.dvd_refl _,by simp⟩
 |d,x::xs=>by
  obtain⟨a,b⟩:=tH ((Int.gcd d x:Nat):Int) xs;refine⟨zCm a (Int.gcd_dvd_left _ _),λy c=>?_⟩;rcases Tx.mp c with z|z;rw[z];exact zCm a (Int.gcd_dvd_right _ _);exact b y z
theorem Ao:∀(d:Int) (xs:yaf),0<=d->0<=bX d xs
 |d,[],h=>h
 |d,x::xs,_=>Ao _ xs (by simp_all)
structure DJ(xs:yaf):Prop where
 pos:∀s∈dj xs,0<s
 one:bX 0 (dj xs)=1
 back:∃g:Int,0<g/\(dj xs).map (g*·)=xs
def mO{xs:yaf}(a:xs ≠ [])(h:∀x∈xs,0<x):DJ xs:=by
 obtain⟨c,b⟩:=zB4 xs a;have gp:0<bX 0 xs:=by
  have a:=Ao 0 xs (by lia);have:bX 0 xs≠0:=λe=>by have:=(tH 0 xs).2 c b;rw[e]at this;grind
  lia
 have a:(dj xs).map (bX 0 xs*·)=xs:=by
  unfold dj;rw[UC];have:∀x∈xs,((bX 0 xs*·)∘λx=>x.fdiv (bX 0 xs)) x=x:=λx d=>by simp_all [Int.fdiv_eq_ediv_of_dvd,tH,Int.mul_ediv_cancel']
  rw[zDR this,List.map_id']
 refine⟨λs f=>?_,?_,_,gp,a⟩;have g:bX 0 xs*s∈xs:=by grind
 exact JQ (y:=bX 0 xs) (by simp_all [VG]) gp;have:=An (bX 0 xs) (Tb gp) (dj xs) 0;have a:bX 0 xs*1=bX 0 xs*bX 0 (dj xs):=by lia
 exact(Int.eq_of_mul_eq_mul_left (by lia) a).symm
structure Du(ws:yas)(sh:yaf):Prop where
 len:sh.length=ws.length
 pos:∀s∈sh,0<s
 one:bX 0 sh=1
 sum:wsum sh ws=(0,0)
def M7(h:pI a b):bC b*a.1+bC a*b.1=0/\bC b*a.2+bC a*b.2=0:=by
 have c:b≠(0,0):=λe=>by have:=h.2;unfold Rp at this;simp_all
 obtain⟨g,f⟩:=G8 h.1;have d:=gG c;have c:0 < -(Rp a b):=by have:=h.2;lia
 generalize Rp b b=x at g f d;generalize -(Rp a b)=y at g f c;have l:x*bC a=y*bC b:=by
  have g:x.natAbs*a.1.natAbs=y.natAbs*b.1.natAbs:=by rw[<- zCN,<- zCN,<- Int.neg_eq_of_add_eq_zero g,Int.natAbs_neg]
  have f:x.natAbs*a.2.natAbs=y.natAbs*b.2.natAbs:=by rw[<- zCN,<- zCN,<- Int.neg_eq_of_add_eq_zero f,Int.natAbs_neg]
  have h:=congrArg (λn:Nat=>(n:Int)) g;have g:=congrArg (λn:Nat=>(n:Int)) f;simp only[Int.natCast_mul,Int.natAbs_of_nonneg (Tb d),Int.natAbs_of_nonneg (Tb c)]at h g;unfold bC
  simp_all [Int.mul_add]
 have z:∀u v:Int,x*u+y*v=0->bC b*u+bC a*v=0:=λu v e=>by
  have:x*(bC b*u+bC a*v)=bC b*(x*u+y*v)+v*(x*bC a - y*bC b):=by grind
  rw[e,l,Int.sub_self,XC,XC,VU]at this;exact(VQ.mp this).resolve_left (by lia)
 simp_all
def ux(L:DJ xs)(h:wsum xs ws=(0,0)):wsum (dj xs) ws=(0,0):=by
 obtain⟨g,gp,c⟩:=L.back;have b:∀(f:Sp->Int) (l:yaf) (a:yas),(List.zipWith (λs w=>s*f w) (l.map (g*·)) a).sum=g*(List.zipWith (λs w=>s*f w) l a).sum:=λf l=>by
  induction l with
  |nil=>simp_all
  |cons s l ih =>
   intro a;cases a with
   |nil=>simp
   |cons u a =>
    simp_all [Int.mul_add,Int.mul_assoc]
 unfold wsum at h ⊢;rw[<- c]at h;rw[b (λw=>w.1),b (λw=>w.2)]at h;have z:∀t:Int,g*t=0->t=0:=λt e=>(VQ.mp e).resolve_left (by lia)
 simp_all
def uC{ws:yas}{sh:yaf}(m:ws.length<=3)(h:lN ws=some sh):Du ws sh:=by
 rcases ws with _|⟨a,_|⟨b,_|⟨e,_|⟨z,r⟩⟩⟩⟩;cases h;have d:sZ a=some sh:=h;unfold sZ at d;split at d;rename_i c;cases d;have:=yo.mp c;subst this;exact⟨rfl,by simp,rfl,by unfold wsum;simp⟩
 lia
 ·have d:pN a b=some sh:=h;unfold pN at d;split at d
  ·rename_i c;cases d;have g:pI a b:=c;have l:a≠(0,0):=λe=>by have:=c.2;unfold Rp at this;simp_all
   have k:b≠(0,0):=λe=>by have:=c.2;unfold Rp at this;simp_all
   have L:=mO (xs:=[bC b,bC a]) (by simp) λx f=>by
    simp at f;rcases f with rfl|rfl
    all_goals simp_all [tJ]
   obtain⟨j,i⟩:=M7 g;refine⟨by unfold dj;simp,L.pos,L.one,ux L ?_⟩;unfold wsum
   simp_all
  lia
 have d:lM a b e=some sh:=h;obtain⟨o,n⟩:=Iy a b e;unfold lM at d;split at d;cases d;have L:=mO (xs:=[tn b e,tn e a,tn a b]) (by simp) (by simp_all);refine⟨by unfold dj;simp,L.pos,L.one,ux L ?_⟩;unfold wsum
 simp_all [Int.add_assoc]
 split at d;cases d;have L:=mO (xs:=[-tn b e,-tn e a,-tn a b]) (by simp) (by grind);refine⟨by unfold dj;simp,L.pos,L.one,ux L ?_⟩;unfold wsum;simp;grind
 lia
 simp_all
theorem AH(L:DJ xs)(h:∀x∈xs,Bd n x):∀s∈dj xs,Bd n s:=λs b=>by
 obtain⟨g,gp,a⟩:=L.back;have:g*s∈(dj xs).map (g*·):=by grind
 rw[a]at this;exact Qa gp rfl (h _ this)
def Fv{ws:yas}{sh:yaf}(f:∀w∈ws,WB 400 w)(l:ws.length<=3)(h:lN ws=some sh):∀s∈sh,Bd 900 s:=by
 rcases ws with _|⟨a,_|⟨b,_|⟨e,_|⟨z,r⟩⟩⟩⟩;cases h;have d:sZ a=some sh:=h;unfold sZ at d;split at d;cases d;intro s c;rw[VF.mp c];unfold Bd
 lia
 lia
 ·have d:pN a b=some sh:=h;unfold pN at d;split at d
  ·rename_i c;cases d;have k:a≠(0,0):=λe=>by have:=c.2;unfold Rp at this;simp_all
   have j:b≠(0,0):=λe=>by have:=c.2;unfold Rp at this;simp_all
   have L:=mO (xs:=[bC b,bC a]) (by simp) λx c=>by
    simp at c;rcases c with rfl|rfl
    all_goals simp_all [tJ]
   refine AH L λx c=>?_
   simp at c;rcases c with rfl|rfl;exact(wR (f b (by simp))).mono (by decide);exact(wR (f a (by simp))).mono (by decide)
  lia
 ·have d:lM a b e=some sh:=h;have i:=f a (by simp);have h:=f b (by simp);have g:=f e (by simp);have p:Bd 900 (tn b e):=Bd.mono (m:=801) ((h.x.mul g.y).sub (g.x.mul h.y)) (by decide);have o:Bd 900 (tn e a):=Bd.mono (m:=801) ((g.x.mul i.y).sub (i.x.mul g.y)) (by decide);have n:Bd 900 (tn a b):=Bd.mono (m:=801) ((i.x.mul h.y).sub (h.x.mul i.y)) (by decide);unfold lM at d;split at d;have L:=mO (xs:=[tn b e,tn e a,tn a b]) (by simp) (by simp_all);grind [AH]
  ·split at d
   ·cases d;have L:=mO (xs:=[-tn b e,-tn e a,-tn a b]) (by simp) (by grind);refine AH L λx c=>?_
    simp at c;rcases c with rfl|rfl|rfl
    all_goals simp_all [pP]
   lia
 simp_all
noncomputable def Sw(a b:Tr):Tr:=(a.2.1*b.2.2 - a.2.2*b.2.1,a.2.2*b.1 - a.1*b.2.2,a.1*b.2.1 - a.2.1*b.1)
def Tq(a b c:Tr):Int:=Rl (Sw a b) c
def eX(a b c:Tr):Tq a b c=Tq b c a:=by unfold Tq Rl Sw;grind
def tE(a b c:Tr):Tq a b c=- Tq b a c:=by unfold Tq Rl Sw;grind
def F3(a c:Tr):Tq a a c=0:=by unfold Tq Rl Sw;grind
def rg(a b:Tr):Tq a b a=0:=by unfold Tq Rl Sw;grind
def rh(a b:Tr):Tq a b b=0:=by unfold Tq Rl Sw;grind
structure Cmb(q a b:Tr)(m s t:Int):Prop where
 m0:0<m
 s0:0<s
 t0:0<t
 e1:m*q.1=s*a.1+t*b.1
 e2:m*q.2.1=s*a.2.1+t*b.2.1
 e3:m*q.2.2=s*a.2.2+t*b.2.2
def Cmb.gv(C:Cmb q a b m s t)(g:Tr):m*Rl g q=s*Rl g a+t*Rl g b:=by have e:=C.e1;have d:=C.e2;have c:=C.e3;unfold Rl;grind
def Cmb.nng(C:Cmb q a b m s t)(d:0<=Rl g a)(c:0<=Rl g b):0<=Rl g q:=by
 have h:=C.gv g;have f:=Tw (Tb C.s0) d;have e:=Tw (Tb C.t0) c;have:0<=m*Rl g q:=by lia
 exact Z2 this C.m0
def Cmb.zero(C:Cmb q a b m s t)(d:Rl g a=0)(c:Rl g b=0):Rl g q=0:=by
 have h:=C.gv g;rw[d,c]at h;have a:m*Rl g q=0:=by lia
 rcases VQ.mp a with z|z;have:=C.m0;lia
 lia
def aQ(g:Tr)(qf:Tr->Tr->Tr):Tr->yat->yat
 |_,[]=>[]
 |p,c::r=>(if Rl g p*Rl g c<0 then[qf p c]else[])++((if 0<=Rl g c then[c]else[])++aQ g qf c r)
def Y8(g:Tr)(qf:Tr->Tr->Tr):Prop:=∀p c:Tr,0<p.1->0<c.1->Rl g p*Rl g c<0->(∃m s t,Cmb (qf p c) p c m s t)/\Rl g (qf p c)=0
theorem uv(B:Y8 g qf):∀(l:yat) (p:Tr),(∀x∈p::l,0<x.1)->(∀x∈p::l,0<=Rl d x)->∀y∈aQ g qf p l,0<=Rl d y
 |[],_,_,_=>λy a=>by cases a
 |c::r,p,d,b=>λy a=>by
  rcases Ta.mp a with q|q;split at q;rename_i a;rw[VF.mp q];obtain⟨⟨m,s,t,C⟩,_⟩:=B p c (by simp_all) (by simp_all) a;exact C.nng (b p (by simp)) (b c (by simp));grind;rcases Ta.mp q with q|q
  simp_all
  exact uv B r c (λx e=>d x (by grind)) (by grind) y q
theorem uw(B:Y8 g qf):∀(l:yat) (p:Tr),(∀x∈p::l,0<x.1)->∀y∈aQ g qf p l,0<y.1
 |[],_,_=>λy a=>by cases a
 |c::r,p,b=>λy a=>by
  rcases Ta.mp a with q|q;split at q;rename_i a;rw[VF.mp q];obtain⟨⟨m,s,t,C⟩,_⟩:=B p c (by simp_all) (by simp_all) a;have f:=Wl C.s0 (b p (by simp));have e:=Wl C.t0 (b c (by simp));have:=C.e1;exact VH.mp λz=>by have:=zCD (Tb C.m0) z;lia
  cases q;rcases Ta.mp q with q|q
  simp_all
  exact uw B r c (λx d=>b x (by grind)) y q
theorem iV(g:Tr)(qf:Tr->Tr->Tr):∀(a:yat) (p c:Tr) (b:yat),aQ g qf p (a++c::b)=aQ g qf p (a++[c])++aQ g qf c b
 |[],p,c,b=>by simp only[Z6,aQ,YV,Xi]
 |x::a,p,c,b=>by simp only[Zf,aQ,iV g qf a x c b,Xi]
theorem yE(B:Y8 g qf):∀(l:yat) (p:Tr),(∀x∈p::l,0<x.1)->∀y∈aQ g qf p l,0<=Rl g y
 |[],_,_=>λy a=>by cases a
 |c::r,p,b=>λy a=>by
  rcases Ta.mp a with q|q;split at q;rename_i a;rw[VF.mp q,(B p c (b p (by simp)) (b c (by simp)) a).2]
  lia
  grind;rcases Ta.mp q with q|q;grind;exact yE B r c (λx d=>b x (by simp_all)) y q
theorem qW:∀(l:yat) (p:Tr) {x:Tr},x∈l->0<=Rl g x->x∈aQ g qf p l
 |[],_,_,h,_=>by cases h
 |c::r,p,x,h,a=>by
  unfold aQ;rcases Tx.mp h with rfl|h
  all_goals simp_all [qW]
theorem o6(B:Y8 g qf):∀(l:yat) (p z:Tr),(∀x∈p::l,0<x.1)->0<z.1->Rl g p*Rl g z<0->∃y∈aQ g qf p (l++[z]),Rl g y=0/\∀d:Tr,(∀x∈p::(l++[z]),0<=Rl d x)->0<=Rl d y
 |[],p,z,i,k,h=>by
  obtain⟨⟨m,s,t,C⟩,e⟩:=B p z (by simp_all) k h;refine⟨qf p z,?_,e,λd f=>C.nng (f p (by simp)) (f z (by simp))⟩;unfold aQ
  simp_all
 |c::r,p,z,i,k,h=>by
  rcases zCX (Rl g p*Rl g c) 0 with q|q|q;obtain⟨⟨m,s,t,C⟩,e⟩:=B p c (i p (by simp)) (i c (by simp)) q;refine⟨qf p c,?_,e,λd f=>C.nng (f p (by simp)) (f c (by simp))⟩;unfold aQ
  simp_all
  have a:Rl g p≠0:=by lia
  have b:Rl g c=0:=(VQ.mp q).resolve_left a;exact⟨c,by grind [qW],b,by simp_all⟩;have j:Rl g c*Rl g z<0:=by
   rcases Int.lt_or_gt_of_ne (show Rl g p≠0 from by lia)with a|a;have b:0<Rl g z:=VH.mp λb=>VH.mpr h (zBT (Tb a) b)
   have d:Rl g c<0:=VH.mp λd=>VH.mpr q (zA7 (Tb a) d)
   exact Yc d b;have b:Rl g z<0:=VH.mp λb=>VH.mpr h (Tw (Tb a) b)
   have d:0<Rl g c:=VH.mp λd=>VH.mpr q (zCD (Tb a) d)
   exact XA d b
  obtain⟨y,n,e,f⟩:=o6 B r c z (λx o=>i x (by grind)) k j;rw[Zf];unfold aQ;grind
def WU(l:yat):Prop:=∀x y z,List.Sublist [x,y,z] l->0<=Tq x y z
def WU.sub{k:yat}(h:WU l)(s:k.Sublist l):WU k:=λx y z q=>h x y z (q.trans s)
def lL:yat->Prop
 |[]=>True
 |p::r=>r.Pairwise (λa b=>0<=Tq p a b)/\lL r
theorem WU.p:∀{l:yat},WU l->lL l
 |[],_=>True.intro
 |p::r,h=>⟨List.pairwise_iff_forall_sublist.mpr fun {a b} s=>h p a b (s.cons_cons p),WU.p (h.sub (List.sublist_cons_self p r))⟩
theorem lL.t:∀{l:yat},lL l->WU l
 |[],_,_,_,_,s=>by cases s
 |p::r,h,x,y,z,s=>by
  cases s with
  |cons _ s=>exact lL.t h.2 x y z s
  |cons_cons _ s=>exact List.pairwise_iff_forall_sublist.mp h.1 s
theorem lH(B:Y8 g qf):∀(l:yat) (p:Tr),(∀x∈p::l,0<x.1)->(p::l).Pairwise (λa b=>0<=Tq d a b)->(p::aQ g qf p l).Pairwise (λa b=>0<=Tq d a b)
 |[],_,_,h=>h
 |c::r,p,f,h=>by
  have i:∀x∈c::r,0<x.1:=λx q=>f x (by grind)
  obtain⟨e,j⟩:=Ze.mp h;have ih:=lH B r c i j;have u:∀w∈aQ g qf c r,0<=Tq d p w:=uv B r c i (d:=Sw d p) e;have i:0<=Tq d p c:=e c (by simp);unfold aQ;by_cases h:Rl g p*Rl g c<0
  ·obtain⟨⟨m,s,t,C⟩,e⟩:=B p c (f p (by simp)) (f c (by simp)) h;have n:0<=Tq d p (qf p c):=C.nng (g:=Sw d p) (by show 0<=Tq d p p;rw[rh];lia) i;have e:∀x,0<=Tq d p x->0<=Tq d c x->0<=Tq d (qf p c) x:=λx a b=>by
    rw[eX,eX]at a b ⊢;exact C.nng (g:=Sw x d) a b
   have k:0<=Tq d (qf p c) c:=e c i (by rw[rh];lia);by_cases o:0<=Rl g c
   all_goals simp_all [if_neg]
  rw[if_neg h];grind
theorem Bv(B:Y8 g qf):∀(l:yat) (p:Tr),(∀x∈p::l,0<x.1)->lL (p::l)->lL (p::aQ g qf p l)
 |[],_,_,h=>h
 |c::r,p,f,h=>by
  have i:∀x∈c::r,0<x.1:=λx k=>f x (by grind)
  have ih:=Bv B r c i h.2;have j:(p::c::r).Pairwise λa b=>0<=Tq p a b:=Ze.mpr ⟨λa _=>by rw[F3];lia,h.1⟩
  have e:=(Ze.mp (lH (d:=p) B (c::r) p f j)).2;refine⟨e,?_⟩;have e:(c::r).Pairwise λa b=>0<=Tq p a b:=h.1
  have j:=lH (d:=p) B r c i e;have e:(c::r).Pairwise λa b=>0<=Tq c a b:=Ze.mpr ⟨λa _=>by rw[F3];lia,h.2.1⟩
  have h:=lH (d:=c) B r c i e;unfold aQ;by_cases d:Rl g p*Rl g c<0;rw[Rv d];obtain⟨⟨m,s,t,C⟩,e⟩:=B p c (f p (by simp)) (f c (by simp)) d;have e:(c::aQ g qf c r).Pairwise λa b=>0<=Tq (qf p c) a b:=by refine List.Pairwise.imp ?_ (List.pairwise_and_iff.mpr ⟨j,h⟩);intro a b ⟨x,y⟩;rw[eX]at x y ⊢;exact C.nng (g:=Sw a b) x y
  by_cases a:0<=Rl g c;rw[Rv a];exact⟨e,ih⟩;rw[if_neg a];exact⟨(by simp_all),ih.2⟩;rw[if_neg d];by_cases a:0<=Rl g c
  simp_all
  rw[if_neg a];exact ih.2
def HK{l:yat}{a:Tr}(h:WU (l++[a])):WU (a::(l++[a])):=λx y z s=>by
 cases s with
 |cons _ s=>exact h x y z s
 |cons_cons _ s =>
  obtain⟨c,b,e,f,d⟩:=List.sublist_append_iff.mp s;rcases b with _|⟨w,b⟩;rw[YV]at e;have:=h y z a (by grind)
  rw[eX];exact this
  ·have i:b=[]:=by
    grind
   have g:w=a:=by grind
   rcases c with _|⟨u,_|⟨v,c⟩⟩
   all_goals simp_all [rg,W9,congrArg]
def YL(l:yat)(X:Tr):Prop:=∀h:Tr,(∀p∈l,0<=Rl h p)->0<=Rl h X
def SA(g u v:Tr):Tr:=(Rl g v*u.1 - Rl g u*v.1,Rl g v*u.2.1 - Rl g u*v.2.1,Rl g v*u.2.2 - Rl g u*v.2.2)
def HX(g u v h:Tr):Rl h (SA g u v)=Rl g v*Rl h u - Rl g u*Rl h v:=by unfold SA Rl;grind
def Ha(b:Rl g y=0)(a:Tq u v y=0):Rl h y*(SA g u v).1=y.1*Rl h (SA g u v):=by unfold Tq Rl Sw at a;unfold SA Rl at *;grind
def M8(a:Rl g y1=0)(o:Rl g y2=0)(p:Tq u v y1<=0)(i:0<=Tq u v y2)(d:0<y1.1)(p2:0<y2.1)(m:0<=Rl h y1)(l:0<=Rl h y2):0<=Rl h (SA g u v)*(SA g u v).1:=by
 by_cases z:Tq u v y1=0;have k:=Ha (h:=h) a z;have j:0<=(SA g u v).1*(SA g u v).1:=sqn _;have:0<=y1.1*(Rl h (SA g u v)*(SA g u v).1):=by
  have:y1.1*(Rl h (SA g u v)*(SA g u v).1)=Rl h y1*((SA g u v).1*(SA g u v).1):=by grind
  simp_all [Tw]
 exact Z2 this d;have e:Tq u v y1<0:=by lia
 generalize ha:Tq u v y1=a at *;generalize hb:Tq u v y2=b at *
 let y:Tr:=(b*y1.1 - a*y2.1,b*y1.2.1 - a*y2.2.1,b*y1.2.2 - a*y2.2.2)
 have c:∀f:Tr,Rl f y=b*Rl f y1 - a*Rl f y2:=λf=>by unfold Rl;grind
 have k:=Ha (h:=h) (u:=u) (v:=v) (y:=y) (g:=g) (by simp_all) (by show Rl (Sw u v) y=0;rw[c];show b*Tq u v y1 - a*Tq u v y2=0;grind)
 rw[c]at k;have c:0<y.1:=by
  show 0<b*y1.1 - a*y2.1;have:=Tw i (Tb d);have:=Yc e p2
  lia
 have n:0<=b*Rl h y1 - a*Rl h y2:=by
  have:=Tw i m;have:=zA7 (Tb e) l
  lia
 have j:0<=(SA g u v).1*(SA g u v).1:=sqn _;have:0<=y.1*(Rl h (SA g u v)*(SA g u v).1):=by
  have:y.1*(Rl h (SA g u v)*(SA g u v).1)=(b*Rl h y1 - a*Rl h y2)*((SA g u v).1*(SA g u v).1):=by rw[<- Int.mul_assoc,<- k,Int.mul_assoc]
  simp_all [Tw]
 exact Z2 this c
def zR(B:Y8 g qf){A C D:yat}{u v z:Tr}(hz:A++u::(C++v::D)=(A++u::(C++v::D)).dropLast++[z])(VM:WU (A++u::(C++v::D)))(pos:∀x∈A++u::(C++v::D),0<x.1)
  (i:Rl g u*Rl g v<0) (hh:∀y∈aQ g qf z (A++u::(C++v::D)),0<=Rl h y):0<=Rl h (SA g u v)*(SA g u v).1:=by
 have d:0<u.1:=pos u (by simp);have hv:0<v.1:=pos v (by simp);have a:∀x∈C,0<x.1:=λx hx=>pos x (by simp[hx])
 have k:∀x∈A,0<x.1:=λx hx=>pos x (by simp[hx])
 have j:∀x∈D,0<x.1:=λx hx=>pos x (by simp[hx])
 have e:aQ g qf z (A++u::(C++v::D))=aQ g qf z (A++[u])++(aQ g qf u (C++[v])++aQ g qf v D):=by rw[iV g qf A z u,iV g qf C u v]
 obtain⟨b,g,o,c⟩:=o6 B C u v (λx hx=>by
  rcases Tx.mp hx with rfl|hx;exact d;exact a x hx) hv i
 have n:0<b.1:=uw B (C++[v]) u (λx hx=>by
  simp at hx;rcases hx with rfl|hx|rfl;exact d;exact a x hx;exact hv) b g
 have l:Tq u v b<=0:=by
  have:=c (Sw v u) λx hx=>by
   show 0<=Tq v u x;simp at hx;rcases hx with rfl|hx|rfl;rw[rh];exact W9 _;have t:=VM u x v (by
    have a:List.Sublist [u,x,v] (u::(C++v::D)):=by refine List.Sublist.cons_cons u ?_;have:[x,v]=[x]++[v]:=rfl;exact(zB0.mpr hx).append (zB0.mpr (by simp))
    exact a.trans (zBo _ _))
   rw[eX,eX]at t;exact t;rw[rg];exact W9 _
  have q:0<=Tq v u b:=this;rw[tE]
  lia
 have p:∀x∈v::D++(A++[u]),0<=Tq u v x:=λx hx=>by
  simp at hx;rcases hx with rfl|hx|hx|rfl;rw[rh];exact W9 _;exact VM u v x (by
   have a:List.Sublist [u,v,x] (u::(C++v::D)):=by refine List.Sublist.cons_cons u ?_;exact(List.Sublist.cons_cons v (zB0.mpr hx)).trans (zBo _ _)
   exact a.trans (zBo _ _))
  have t:=VM x u v (by have:[x,u,v]=[x]++[u,v]:=rfl;refine(zB0.mpr hx).append (List.Sublist.cons_cons u ?_);exact(zB0.mpr (by simp)).trans (zBo _ _))
  rw[eX]at t;exact t;rw[rg];exact W9 _
 obtain⟨a,c,f,r⟩:=o6 B (D++A) v u (λx hx=>by
  simp at hx;rcases hx with rfl|hx|hx;exact hv;exact j x hx;exact k x hx) d (by rw[VG];exact i)
 have m:0<a.1:=uw B (D++A++[u]) v (λx hx=>by
  simp only[Tx,Ta,zCL,or_false]at hx;rcases hx with rfl|(hx|hx)|rfl;exact hv;exact j x hx;exact k x hx;exact d) a c
 have i:0<=Tq u v a:=r (Sw u v) λx hx=>p x (by
  simp only[Tx,Ta,zCL,or_false,Zf]at hx ⊢;rcases hx with hx|(hx|hx)|hx;exact .inl hx;exact .inr (.inl hx);exact .inr (.inr (.inl hx));exact .inr (.inr (.inr hx)))
 have j:0<=Rl h b:=hh b (by rw[e];exact Wf _ (XM _ g));have g:0<=Rl h a:=by
  apply hh a;rw[e];have:∃b,v::D=b++[z]:=by
   have a:v::D ≠ []:=by simp
   refine⟨(v::D).dropLast,?_⟩;have e:(A++u::(C++v::D)).getLast?=some z:=by rw[hz];simp
   have f:(A++u::(C++v::D)).getLast?=(v::D).getLast?:=by
    have:A++u::(C++v::D)=(A++u::C)++(v::D):=by simp
    rw[this,List.getLast?_append,zCa a];rfl
   rw[f,zCa a]at e;have d:=(zCC a).symm;rw[Yu e]at d;exact d
  obtain⟨b,a⟩:=this;rcases b with _|⟨w,b⟩;cases a;exact XM _ c;rw[Zf]at a;cases a;have e:b++[z]++A++[u]=b++z::(A++[u]):=by simp
  rw[e,iV]at c;rcases Ta.mp c with q|q;exact Wf _ (Wf _ q);exact XM _ q
 exact M8 o f l i n m j g
def HF{l:yat}{a b:Tr}(d:a∈l)(c:b∈l)(e:a≠b):(∃A C D,l=A++a::(C++b::D))∨∃ A C D,l=A++b::(C++a::D):=by
 obtain⟨A,R,rfl⟩:=zCh d;rcases Ta.mp c with q|q;obtain⟨b,a,rfl⟩:=zCh q;grind;rcases Tx.mp q with q|q
 simp_all
 obtain⟨b,a,rfl⟩:=zCh q
 lia
theorem tN(g h:Tr):∀l:yat,(∃n∈l,Rl g n<0/\Rl h n<0)->∃n∈l,Rl g n<0/\Rl h n<0/\∀m∈l,Rl g m<0->Rl g n*Rl h m<=Rl h n*Rl g m
 |[],⟨_,hn,_⟩=>by cases hn
 |x::r,i=>by
  by_cases l:∃n∈r,Rl g n<0/\Rl h n<0;obtain⟨n,hn,f,d,b⟩:=tN g h r l;by_cases c:Rl g x<0/\¬(Rl g n*Rl h x<=Rl h n*Rl g x);obtain⟨a,o⟩:=c;have c:Rl h x<0:=by
   have:0<Rl h n*Rl g x:=zBY d a;exact VH.mp λz=>by
    have:=zA7 (Tb f) z
    lia
  refine⟨x,by simp,a,c,λm c j=>?_⟩;rcases Tx.mp c with rfl|c
  lia
  have k:=b m c j;have a:0<=(-Rl g x)*(Rl h n*Rl g m - Rl g n*Rl h m):=Tw (by lia) (by lia);have b:0<=(-Rl g m)*(Rl g n*Rl h x - Rl h n*Rl g x):=Tw (by lia) (by lia);have e:(-Rl g x)*(Rl h n*Rl g m - Rl g n*Rl h m)+(-Rl g m)*(Rl g n*Rl h x - Rl h n*Rl g x)=(-Rl g n)*(Rl h x*Rl g m - Rl g x*Rl h m):=by grind
  have:0<=(-Rl g n)*(Rl h x*Rl g m - Rl g x*Rl h m):=by lia
  have:=Z2 this (by lia)
  lia
  grind;obtain⟨n,hn,f,d⟩:=i;rcases Tx.mp hn with rfl|hn;refine⟨n,by simp,f,d,λm c j=>?_⟩;rcases Tx.mp c with rfl|c
  lia
  have:0<=Rl h m:=by simp_all
  have a:=zA7 (Tb f) this;have b:=zBY d j
  lia
  exact absurd ⟨n,hn,f,d⟩ l
def Ki(B:Y8 g qf){l:yat}{z:Tr}(hz:l=l.dropLast++[z])(VM:WU l)(pos:∀x∈l,0<x.1)(m:YL l X)(t:0<=Rl g X):YL (aQ g qf z l) X:=λh hh=>by
 have kp:∀p∈l,0<=Rl g p->0<=Rl h p:=λp b q=>hh p (qW l z b q)
 by_cases j:∃n∈l,Rl g n<0/\Rl h n<0;obtain⟨n,d,c,o,e⟩:=tN g h l j
 let k:Tr:=(Rl h n*g.1 - Rl g n*h.1,Rl h n*g.2.1 - Rl g n*h.2.1,Rl h n*g.2.2 - Rl g n*h.2.2)
 have a:∀p:Tr,Rl k p=Rl h n*Rl g p - Rl g n*Rl h p:=λp=>by show Rl (Rl h n*g.1 - Rl g n*h.1,Rl h n*g.2.1 - Rl g n*h.2.1,Rl h n*g.2.2 - Rl g n*h.2.2) p=_;unfold Rl;grind
 have s:∀p∈l,0<=Rl k p:=λp b=>by
  rw[a];rcases zCX (Rl g p) 0 with q|q|q;have:=e p b q
  lia
  rw[q,XC];have:=zA7 (Tb c) (kp p b (by lia))
  lia
  have l:p≠n:=λe=>by rw[e]at q;lia
  have i:=pos n d;have f:=pos p b;rcases HF b d l with⟨A,C,D,rfl⟩| ⟨A,C,D,rfl⟩;have r:=zR B hz VM pos (XA q c) hh;rw[HX]at r;have d:(SA g p n).1<0:=by
   show Rl g n*p.1 - Rl g p*n.1<0;have:=Yc c f;have:=Wl q i
   lia
  have e:Rl g n*Rl h p - Rl g p*Rl h n<=0:=XR.mp λz=>by
   have:=XA z d
   lia
  rw[VG (Rl h n)]
  lia
  have r:=zR B hz VM pos (Yc c q) hh;rw[HX]at r;have d:0<(SA g n p).1:=by
   show 0<Rl g p*n.1 - Rl g n*p.1;have:=Yc c f;have:=Wl q i
   lia
  have e:0<=Rl g p*Rl h n - Rl g n*Rl h p:=XR.mp λz=>by
   have:=Yc z d
   lia
  rw[VG (Rl h n)];exact e
 have d:=m k s;rw[a]at d;have a:=zA7 (Tb o) t;exact XR.mp λz=>by
  have:=zBY c z
  lia
 refine m h λp b=>?_
 by_cases q:0<=Rl g p;exact kp p b q;exact XR.mp λz=>j ⟨p,b,by lia,z⟩
def WA(R:Tr->Tr->Prop):yat->Prop
 |[]=>True
 |[_]=>True
 |a::b::r=>R a b/\WA R (b::r)
def WA.tail{a:Tr}:∀{l:yat},WA R (a::l)->WA R l
 |[],_=>True.intro
 |_::_,h=>h.2
theorem j7:∀(l:yat) (x:Tr) (k:yat),WA R (l++x::k)↔WA R (l++[x])/\WA R (x::k)
 |[],x,k=>by simp[WA]
 |[a],x,k=>by simp[WA]
 |a::b::l,x,k=>by have:=j7 (R:=R) (b::l) x k;simp only[Zf,WA]at this ⊢;rw[this,and_assoc]
def Sh(G:Tr->Prop)(a b:Tr):Prop:=∃e,G e/\Rl e a=0/\Rl e b=0
theorem o5(B:Y8 g qf){G:Tr->Prop}(f:G g):∀(l:yat) (p x:Tr),(∀y∈p::l,0<y.1)->((x=p/\0<=Rl g p)∨(Rl g x=0/\Rl g p<0))->WA (Sh G) (p::l)->WA (Sh G) (x::aQ g qf p l)
 |[],_,_,_,_,_=>True.intro
 |c::r,p,x,b,a,h=>by
  have l:∀y∈c::r,0<y.1:=λy n=>b y (by grind)
  obtain⟨⟨e,i,j,k⟩,d⟩:=h;have ih:=λx a=>o5 B f r c x l a d
  unfold aQ;by_cases h:Rl g p*Rl g c<0;rw[Rv h];obtain⟨⟨m,s,t,C⟩,l⟩:=B p c (b p (by simp)) (b c (by simp)) h;have b:Rl e (qf p c)=0:=C.zero j k;by_cases d:0<=Rl g c;rw[Rv d];refine⟨?_,⟨e,i,b,k⟩,ih c (by simp_all)⟩;rcases a with⟨rfl,_⟩| ⟨a,_⟩;exact⟨e,i,j,b⟩;exact⟨g,f,a,l⟩;rw[if_neg d];refine⟨?_,ih _ (by lia)⟩;rcases a with⟨rfl,_⟩| ⟨a,_⟩;exact⟨e,i,j,b⟩;exact⟨g,f,a,l⟩
  ·rw[if_neg h];by_cases d:0<=Rl g c
   ·rw[Rv d];refine⟨?_,ih c (by simp_all)⟩;rcases a with⟨rfl,_⟩| ⟨a,b⟩;exact⟨e,i,j,k⟩
    ·have:Rl g c=0:=by
      rcases Int.lt_or_eq_of_le d with q|q
      all_goals simp_all [Yc]
     exact⟨g,f,a,this⟩
   ·rw[if_neg d];refine ih x ?_;rcases a with⟨rfl,b⟩| ⟨a,_⟩
    ·rcases Int.lt_or_eq_of_le b with q|q
     all_goals simp_all [XA]
    lia
theorem yD(B:Y8 g qf){G:Tr->Prop}(b:G g):∀(l:yat) (p:Tr),(∀y∈p::l,0<y.1)->WA (Sh G) (p::l)->WA (Sh G) (aQ g qf p l)
 |[],_,_,_=>True.intro
 |c::r,p,a,h=>by
  by_cases k:0<=Rl g p;exact(o5 B b (c::r) p p a (by simp_all) h).tail;have i:∀y∈c::r,0<y.1:=λy o=>a y (by simp_all)
  obtain⟨⟨e,l,n,j⟩,f⟩:=h;unfold aQ;by_cases d:Rl g p*Rl g c<0;rw[Rv d];obtain⟨⟨m,s,t,C⟩,q⟩:=B p c (a p (by simp)) (a c (by simp)) d;have h:Rl e (qf p c)=0:=C.zero n j;by_cases a:0<=Rl g c;rw[Rv a];exact⟨⟨e,l,h,j⟩,o5 B b r c c i (by simp_all) f⟩;exact absurd (zBY (VH.mp k) (VH.mp a)) (by lia);rw[if_neg d];by_cases a:0<=Rl g c;rw[Rv a];exact o5 B b r c c i (by simp_all) f;rw[if_neg a];exact yD B b r c i f
def Cyc(R:Tr->Tr->Prop)(l:yat):Prop:=∀k z,l=k++[z]->WA R (z::l)
def Kh(B:Y8 g qf){G:Tr->Prop}(a:G g){l:yat}{z:Tr}(hz:l=l.dropLast++[z])(pos:∀y∈l,0<y.1)(h:Cyc (Sh G) l):Cyc (Sh G) (aQ g qf z l):=λk y c=>by
 have e:=h _ z hz;have b:WA (Sh G) (z::(l++l)):=by grind [List.cons_append,j7]
 have d:=yD B a (l++l) z (by grind) b;grind [iV,j7]
noncomputable def V7:yat->yat->yat
 |_,[]=>[]
 |seen,x::r=>if x∈seen then V7 seen r else x::V7 (seen++[x]) r
theorem wI:∀(l seen:yat),(V7 seen l).Sublist l
 |[],_=>List.Sublist.slnil
 |x::r,seen=>by
  unfold V7;split
  all_goals simp_all [wI]
theorem wH:∀(l seen:yat) {x:Tr},x∈l->x∈seen∨x∈V7 seen l
 |[],_,_,h=>by cases h
 |y::r,seen,x,h=>by
  unfold V7;rcases Tx.mp h with rfl|h;grind
  ·split
   simp_all [wH]
   ·rcases wH r (seen++[y]) h with q|q
    all_goals grind
theorem xU:∀(l seen:yat),l.Nodup->(∀x∈l,x∉seen)->V7 seen l=l
 |[],_,_,_=>rfl
 |x::r,seen,h,c=>by obtain⟨a,b⟩:=zCS.mp h;unfold V7;rw[if_neg (c x (by simp)),xU r (seen++[x]) b (by grind)]
theorem pY:∀(l seen:yat) (v:Tr) (k:yat),v∈seen∨v∈l->V7 seen (l++v::k)=V7 seen (l++k)
 |[],seen,v,k,h=>by
  conv=>lhs;unfold V7
  grind
 |x::r,seen,v,k,h=>by rw[Zf,Zf];unfold V7;split;refine pY r seen v k ?_;grind;congr 1;refine pY r _ v k ?_;grind
theorem sQ:∀l:yat,¬l.Nodup->∃A v C,l=A++v::C/\v∈A
 |[],h=>by simp_all
 |x::r,h=>by by_cases a:x∈r;obtain⟨A,C,rfl⟩:=zCh a;exact⟨x::A,x,C,rfl,by simp⟩;obtain⟨A,v,C,e,hv⟩:=sQ r (by grind);exact⟨x::A,v,C,by simp_all,by simp_all⟩
def Me(j:Rl e a=0)(i:Rl e v=0)(h:Tq v a b=0)(c:Sw v a≠(0,0,0)):Rl e b=0:=by
 have g:Rl e b*(Sw v a).1=0:=by unfold Tq Rl Sw at *;grind
 have f:Rl e b*(Sw v a).2.1=0:=by unfold Tq Rl Sw at *;grind
 have d:Rl e b*(Sw v a).2.2=0:=by unfold Tq Rl Sw at *;grind
 refine Decidable.byContradiction λz=>c ?_
 have m:=(VQ.mp g).resolve_left z;have l:=(VQ.mp f).resolve_left z;have k:=(VQ.mp d).resolve_left z;grind
structure Pr(p:Tr):Prop where
 pos:0<p.1
 low:PM.g3 p.1 p.2.1 p.2.2=1
def zO(hv:Pr v)(b:Pr a)(h:Sw v a=(0,0,0)):v=a:=by
 unfold Sw at h;simp at h;obtain⟨n,m,l⟩:=h;have e:v.2.1*a.1=a.2.1*v.1:=by lia
 have c:v.2.2*a.1=a.2.2*v.1:=by lia
 have g:v.1∣a.1:=jO (d:=v.1) (k:=a.1) (x:=v.1) (y:=v.2.1) (z:=v.2.2) (by simp_all) (by simp_all [VG]) (by simp_all [VG]) hv.low;have f:a.1∣v.1:=jO (d:=a.1) (k:=v.1) (x:=a.1) (y:=a.2.1) (z:=a.2.2) (by simp_all) (by rw[VG,<- e];exact Int.dvd_mul_left _ _) (by rw[VG,<- c];exact Int.dvd_mul_left _ _) b.low;have c:=b.pos;have pv:=hv.pos;have e:v.1=a.1:=by
  have j:=Int.le_of_dvd c g;have i:=Int.le_of_dvd pv f
  lia
 grind [Int.eq_of_mul_eq_mul_right]
theorem FX:∀(n:Nat) (l:yat),l.length<=n->WU l->(∀p∈l,Pr p)->Cyc (Sh G) l->Cyc (Sh G) (V7 [] l)
 |n,l,i,VM,u,o=>by
  by_cases E:l.Nodup;rw[xU l [] E (by simp)];exact o;obtain⟨A,v,C,rfl,hv⟩:=sQ l E;rw[pY A [] v C (.inr hv)];cases n with
  |zero=>simp at i
  |succ n =>
  have sub:(A++C).Sublist (A++v::C):=(List.Sublist.refl A).append (List.sublist_cons_self v C);refine FX n (A++C) (by simp at i ⊢;lia) (VM.sub sub) (λp a=>u p (sub.subset a)) ?_;obtain⟨h,s,rfl⟩:=zCh hv;obtain⟨K,a,d⟩:∃K a,h++v::s=K++[a]:=⟨_,_,(zCC (by simp:h++v::s ≠ [])).symm⟩;have L:a=v∨∃ f,s=f++[a]:=by
   rcases List.eq_nil_or_concat s with rfl|⟨f,w,rfl⟩
   left
   have:=congrArg List.getLast? d;simp at this;exact this.symm
   right
   have e:h++v::f.concat w=(h++v::f)++[w]:=by simp
   rw[e]at d;have:=(List.append_inj' d rfl).2;cases this;exact⟨f,by simp⟩
  have pv:Pr v:=u v (by simp);have O:Pr a:=u a (by rw[d];simp)
  have g:∀b,Sh G a v->Sh G v b->(a≠v->Tq v a b=0)->Sh G a b:=λb N M Q=>by by_cases q:a=v;rw[q];exact M;obtain⟨e,Y,H,ev⟩:=N;exact⟨e,Y,H,Me H ev (Q q) λz=>q (zO pv O z).symm⟩
  rw[d];rw[d]at o VM;rcases C with _|⟨b,C⟩;have c:=o (K++[a]) v (by simp);intro k z m;rw[YV]at m ⊢;have ez:a=z:=by have:=congrArg List.getLast? m;simp at this;exact this
  subst ez;have j:WA (Sh G) ((v::K)++a::[v]):=by simpa using c
  rw[j7]at j;obtain⟨y,x,_⟩:=j;rcases hA:K++[a]with _|⟨b,R⟩;simp at hA;have r:WA (Sh G) (v::b::R):=by rw[<- hA];exact y
  refine⟨g b x r.1 λw=>?_,r.2⟩;obtain⟨f,rfl⟩:=L.resolve_left w;rcases h with _|⟨b',h⟩;rw[<- d]at hA;cases hA;rw[rg];rw[<- d]at hA;cases hA;have B:=VM b v a (by rw[<- d];refine List.Sublist.trans ?_ (List.sublist_append_left _ _);refine List.Sublist.cons_cons b ?_;refine List.Sublist.trans ?_ (zBo _ _);refine List.Sublist.cons_cons v ?_;exact zBo _ _)
  have t:=VM b a v (by rw[<- d];refine List.Sublist.cons_cons b ?_;have:[a,v]=[a]++[v]:=rfl;rw[this];refine List.Sublist.append ?_ (List.Sublist.refl _);exact zB0.mpr (by simp))
  rw[eX]at B;rw[eX,tE]at t
  lia
  intro k z m;have c:=o (((K++[a])++v::b::C).dropLast) z (by
   have J:(K++[a]++v::b::C).getLast?=some z:=by
    have U:(K++[a]++b::C).getLast?=some z:=by rw[m];simp
    have T:(K++[a]++b::C).getLast?=(b::C).getLast?:=by rw[List.getLast?_append,zCa (by simp:b::C ≠ [])];rfl
    have I:(K++[a]++v::b::C)=(K++[a]++[v])++b::C:=by simp
    rw[I,List.getLast?_append,<- T,U];rfl
   have i:K++[a]++v::b::C ≠ []:=by simp
   rw[zCa i]at J;have I:=(zCC i).symm;rw[Yu J]at I;exact I)
  have j:WA (Sh G) ((z::K)++a::(v::b::C)):=by simpa using c
  rw[j7]at j;obtain⟨y,x,r,I⟩:=j;have:z::(K++[a]++b::C)=(z::K)++a::(b::C):=by simp
  rw[this,j7];refine⟨y,g b x r λw=>?_,I⟩;obtain⟨f,rfl⟩:=L.resolve_left w;have B:=VM v a b (by
   rw[<- d];have:h++v::(f++[a])++v::b::C=(h++(v::f))++(a::(v::(b::C))):=by simp
   rw[this];have:[v,a,b]=[v]++[a,b]:=rfl;refine List.Sublist.append (zB0.mpr (by simp)) (List.Sublist.cons_cons a ?_);exact List.Sublist.cons _ (List.Sublist.cons_cons b (List.nil_sublist _)))
  have t:=VM a v b (by
   have:K++[a]++v::b::C=K++(a::v::b::C):=by simp
   rw[this];refine List.Sublist.trans ?_ (zBo _ _);exact List.Sublist.cons_cons a (List.Sublist.cons_cons v (List.Sublist.cons_cons b (List.nil_sublist _))))
  rw[tE]at t
  lia
def YM(w:Tr):Tr:=(w.1.fdiv (PM.T4 w.1 w.2.1 w.2.2 w.1),w.2.1.fdiv (PM.T4 w.1 w.2.1 w.2.2 w.1),w.2.2.fdiv (PM.T4 w.1 w.2.1 w.2.2 w.1))
def c8(g p c:Tr):Tr:=YM (SA g p c)
def He{w:Tr}(h:w.1≠0):Pr (YM w):=⟨PM.w8 h (PM.nL _ _ _) λz=>h z.1,PM.Hn λz=>h z.1⟩
def Pd{w:Tr}(a:Pr q)(e:w.1*q.2.1=q.1*w.2.1)(c:w.1*q.2.2=q.1*w.2.2):∃m,w.1=m*q.1/\w.2.1=m*q.2.1/\w.2.2=m*q.2.2:=by obtain⟨m,b⟩:q.1∣w.1:=jO (d:=q.1) (k:=w.1) (x:=q.1) (y:=q.2.1) (z:=q.2.2) (by simp_all) (by simp_all) (by simp_all) a.low;have p:=a.pos;grind [Int.mul_comm,Int.mul_assoc,Int.eq_of_mul_eq_mul_left]
def Bw{p c:Tr}(e:0<p.1)(f:0<c.1)(d:Rl g p*Rl g c<0):(Rl g p<0/\0<Rl g c/\0<(SA g p c).1)∨(0<Rl g p/\Rl g c<0/\(SA g p c).1<0):=by
 rcases Int.lt_or_gt_of_ne (show Rl g p≠0 from by lia)with a|a
 left
 have b:0<Rl g c:=VH.mp λb=>VH.mpr d (zBT (Tb a) b)
 refine⟨a,b,?_⟩;show 0<Rl g c*p.1 - Rl g p*c.1;have:=Wl b e;have:=Yc a f
 lia
 right
 have b:Rl g c<0:=VH.mp λb=>VH.mpr d (Tw (Tb a) b)
 refine⟨a,b,?_⟩;show Rl g c*p.1 - Rl g p*c.1<0;have:=Yc b e;have:=Wl a f
 lia
def FE(g:Tr):Y8 g (c8 g):=λp c b d a=>by
 have k:=Bw b d a;have h:=PM.cK (l:=(SA g p c).1) (PM.nL (SA g p c).1 (SA g p c).2.1 (SA g p c).2.2);have f:=PM.cK (l:=(SA g p c).1) (PM.nM (SA g p c).1 (SA g p c).2.1 (SA g p c).2.2);have e:=PM.cK (l:=(SA g p c).1) (PM.nN (SA g p c).1 (SA g p c).2.1 (SA g p c).2.2);have a:(SA g p c).1≠0:=by rcases k with⟨_,_,q⟩| ⟨_,_,q⟩<;>lia
 have i:PM.g3 (SA g p c).1 (SA g p c).2.1 (SA g p c).2.2≠0:=λz=>a (PM.CG.mp z).1
 have C:∃m s t,Cmb (c8 g p c) p c m s t/\s*Rl g p+t*Rl g c=0:=by
  rcases k with⟨a,b,q⟩| ⟨a,b,q⟩;have d:PM.T4 (SA g p c).1 (SA g p c).2.1 (SA g p c).2.2 (SA g p c).1=(PM.g3 (SA g p c).1 (SA g p c).2.1 (SA g p c).2.2:Int):=by unfold PM.T4;rw[if_neg (by lia)]
  refine⟨PM.g3 (SA g p c).1 (SA g p c).2.1 (SA g p c).2.2,Rl g c,-Rl g p,⟨by lia,b,by lia,?_,?_,?_⟩,by rw[Vj,VG];lia⟩;show _*((SA g p c).1.fdiv _)=_;rw[<- d,VG,h,Vj];rfl;show _*((SA g p c).2.1.fdiv _)=_;rw[<- d,VG,f,Vj];rfl;show _*((SA g p c).2.2.fdiv _)=_;rw[<- d,VG,e,Vj];rfl;have d:-PM.T4 (SA g p c).1 (SA g p c).2.1 (SA g p c).2.2 (SA g p c).1=(PM.g3 (SA g p c).1 (SA g p c).2.1 (SA g p c).2.2:Int):=by unfold PM.T4;rw[Rv (by lia),Int.neg_neg]
  refine⟨PM.g3 (SA g p c).1 (SA g p c).2.1 (SA g p c).2.2,-Rl g c,Rl g p,⟨by lia,by lia,a,?_,?_,?_⟩,by rw[Vj,VG];lia⟩;show _*((SA g p c).1.fdiv _)=_;rw[<- d,Vj,VG,h,Vj];show -(Rl g c*p.1 - Rl g p*c.1)=_
  lia
  show _*((SA g p c).2.1.fdiv _)=_;rw[<- d,Vj,VG,f,Vj];show -(Rl g c*p.2.1 - Rl g p*c.2.1)=_
  lia
  show _*((SA g p c).2.2.fdiv _)=_;rw[<- d,Vj,VG,e,Vj];show -(Rl g c*p.2.2 - Rl g p*c.2.2)=_
  lia
 obtain⟨m,s,t,C,z⟩:=C;refine⟨⟨m,s,t,C⟩,?_⟩;have:=C.gv g;rw[z]at this;exact(VQ.mp this).resolve_left (by have:=C.m0;lia)
def NA{p c:Tr}(b:0<p.1)(d:0<c.1)(a:Rl g p*Rl g c<0):Pr (c8 g p c):=He (by rcases Bw b d a with⟨_,_,q⟩| ⟨_,_,q⟩<;>omega)
def NH{e:Tr}(a:e≠(0,0,0))(d:Rl e p=0)(gp:Rl g p≠0):Sw e g≠(0,0,0):=λz=>a (by
 unfold Sw at z;have c:e.1*Rl g p=0:=by unfold Rl at *;grind
 have b:e.2.1*Rl g p=0:=by unfold Rl at *;grind
 have a:e.2.2*Rl g p=0:=by unfold Rl at *;grind
 have i:=(VQ.mp c).resolve_right gp;have h:=(VQ.mp b).resolve_right gp;have f:=(VQ.mp a).resolve_right gp
 lia)
def G5(a:Pr q)(i:Rl e q=0)(h:Rl g q=0)(b:Sw e g≠(0,0,0)):∃m,m≠0/\(Sw e g).1=m*q.1/\(Sw e g).2.1=m*q.2.1/\(Sw e g).2.2=m*q.2.2:=by obtain⟨m,f,d,c⟩:=Pd (w:=Sw e g) a (by unfold Rl at *;unfold Sw;grind) (by unfold Rl at *;unfold Sw;grind);grind
def G6(i:Pr q)(E:Rl e q=0)(C:Rl g q=0)(y:Sw e g≠(0,0,0)):q=YM (Sw e g):=by
 obtain⟨m,x,j,B,A⟩:=G5 i E C y;have n:(Sw e g).1≠0:=by rw[j];exact Int.mul_ne_zero x (by have:=i.pos;lia)
 have z:=He n;have w:=PM.cK (l:=(Sw e g).1) (PM.nL (Sw e g).1 (Sw e g).2.1 (Sw e g).2.2);have t:=PM.cK (l:=(Sw e g).1) (PM.nM (Sw e g).1 (Sw e g).2.1 (Sw e g).2.2);have r:=PM.cK (l:=(Sw e g).1) (PM.nN (Sw e g).1 (Sw e g).2.1 (Sw e g).2.2);apply zO i z;have u:(YM (Sw e g)).1*PM.T4 (Sw e g).1 (Sw e g).2.1 (Sw e g).2.2 (Sw e g).1=m*q.1:=by rw[<- j];exact w
 have s:(YM (Sw e g)).2.1*PM.T4 (Sw e g).1 (Sw e g).2.1 (Sw e g).2.2 (Sw e g).1=m*q.2.1:=by rw[<- B];exact t
 have o:(YM (Sw e g)).2.2*PM.T4 (Sw e g).1 (Sw e g).2.1 (Sw e g).2.2 (Sw e g).1=m*q.2.2:=by rw[<- A];exact r
 generalize PM.T4 (Sw e g).1 (Sw e g).2.1 (Sw e g).2.2 (Sw e g).1=d at *;generalize YM (Sw e g)=p at *;unfold Sw;have k:∀a b f c:Int,a*d=m*f->b*d=m*c->f*b - c*a=0:=λa b f c h G=>by
  have:m*d*(f*b - c*a)=0:=by grind
  grind [Int.mul_ne_zero]
 simp_all
def eW(g:Tr)(l:yat):yat:=match l.getLast? with
 |none=>[]
 |some z=>V7 [] (aQ g (c8 g) z l)
structure X5(n:Nat)(e:Tr):Prop where
 ne:e≠(0,0,0)
 c:Bd (2*n+2) e.1
 a:Bd (n+1) e.2.1
 b:Bd (n+1) e.2.2
structure CB(n:Nat)(p:Tr):Prop where
 b:Bd (2*n+3) p.1
 x:Bd (3*n+4) p.2.1
 y:Bd (3*n+4) p.2.2
structure Cor(n:Nat)(Gs Z l:yat):Prop where
 VM:WU l
 pr:∀p∈l,Pr p
 cb:∀p∈l,CB n p
 cyc:Cyc (Sh (·∈Gs)) l
 mem:∀p∈l,p∈Z
 len:l.length<=Z.length
def PW{k:Nat}(i:Bd n a)(h:Bd m b)(g:Bd m c)(f:Bd n d)(e:n+m+1=k):Bd k (a*b - c*d):=by subst e;have b:=i.mul h;have a:=g.mul f;rw[zCy m n]at a;exact b.sub a
def mE{m q w:Int}(a:m≠0)(e:w=m*q)(h:Bd n w):Bd n q:=by
 unfold Bd at *;rw[e,zCN]at h;have:q.natAbs<=m.natAbs*q.natAbs:=Nat.le_mul_of_pos_left _ (by lia)
 lia
theorem wg:∀(l:yat) (p:Tr) {y:Tr},y∈aQ g (c8 g) p l->y∈l∨∃ a b,a∈p::l/\b∈l/\List.Sublist [a,b] (p::l)/\Rl g a*Rl g b<0/\y=c8 g a b/\∀R:Tr->Tr->Prop,WA R (p::l)->R a b
 |[],_,_,h=>by cases h
 |c::r,p,y,h=>by
  rcases Ta.mp h with q|q;split at q;rename_i d;exact .inr ⟨p,c,by simp,by simp,List.Sublist.cons_cons p (List.Sublist.cons_cons c (List.nil_sublist _)),d,VF.mp q,λR d=>d.1⟩;cases q;rcases Ta.mp q with q|q;split at q;rw[VF.mp q];exact .inl (by simp);cases q;rcases wg r c q with q|⟨a,b,i,h,g,f,e,c⟩;exact .inl (W4 _ q);exact .inr ⟨a,b,W4 _ i,W4 _ h,g.cons p,f,e,λR d=>c R d.2⟩
theorem zY:∀(l seen:yat),(V7 seen l).Nodup/\∀x∈V7 seen l,x∉seen
 |[],_=>⟨List.nodup_nil,λ_ h=>(by cases h)⟩
 |x::r,seen=>by unfold V7;split;exact zY r seen;obtain⟨a,b⟩:=zY r (seen++[x]);grind
def AA{l:yat}{z:Tr}(h:l.getLast?=some z):l=l.dropLast++[z]:=by
 have a:l ≠ []:=by grind
 grind [List.getLast?_eq_some_getLast,List.dropLast_concat_getLast,Option.some.inj]
theorem tP:∀{l Z:yat},l.Nodup->(∀x∈l,x∈Z)->l.length<=Z.length
 |[],_,_,_=>UE _
 |x::r,Z,h,c=>by obtain⟨a,b⟩:=zCS.mp h;obtain⟨A,C,rfl⟩:=zCh (c x (by simp));have:=tP (l:=r) (Z:=A++C) b (by grind);grind
def IC{i Z:yat}{g:Tr}(w:∀e∈i,X5 n e)(J:g∈i)(Y:∀e∈i,YM (Sw e g)∈Z)(C:Cor n i Z l):Cor n i Z (eW g l):=by
 unfold eW;cases hl:l.getLast? with
 |none=>exact⟨λ_ _ _ s=>(by cases s),λ_ h=>(by cases h),λ_ h=>(by cases h),λk z e=>(by simp at e),λ_ h=>(by cases h),UE _⟩
 |some z =>
  have o:=AA hl;have d:∀x∈l,0<x.1:=λx hx=>(C.pr x hx).pos
  have O:z∈l:=by rw[o];simp
  have h:∀x∈z::l,0<x.1:=λx hx=>by
   rcases Tx.mp hx with rfl|hx;exact d x O;exact d x hx
  have B:=FE g;have j:WU (z::l):=by have:=HK (l:=l.dropLast) (a:=z) (by rw[<- o];exact C.VM);rw[<- o]at this;exact this
  have f:WU (aQ g (c8 g) z l):=lL.t (Bv B l z h j.p).2;have cy:=Kh B (G:=(·∈i)) J o d C.cyc;have c:∀y∈aQ g (c8 g) z l,Pr y/\CB n y/\y∈Z:=λy Q=>by
   rcases wg l z Q with q|⟨a,b,U,T,_,p,rfl,hR⟩;exact⟨C.pr y q,C.cb y q,C.mem y q⟩;have G:=h a U;have A:=d b T;have r:=NA G A p;obtain⟨e,u,N,eb⟩:=hR _ (C.cyc _ z o);obtain⟨⟨m,s,t,K⟩,L⟩:=B a b G A p;have M:=K.zero N eb;have I:=NH (w e u).ne N (show Rl g a≠0 from λz=>by rw[z,YW]at p;exact zCn _ p);refine⟨r,?_,?_⟩;obtain⟨m,t,h1,h2,h3⟩:=G5 r M L I;have E:=w e u;have H:=w g J;exact⟨mE t h1 (PW (k:=2*n+3) E.a H.b E.b H.a (by lia)),mE t h2 (Bd.mono ((E.b.mul H.c).sub (zCy _ _ ▸ E.c.mul H.b)) (by lia)),mE t h3 (Bd.mono ((E.c.mul H.a).sub (zCy _ _ ▸ E.a.mul H.c)) (by lia))⟩;rw[G6 r M L I];exact Y e u
  have sub:=wI (aQ g (c8 g) z l) [];exact⟨f.sub sub,λp b=>(c p (sub.subset b)).1,λp b=>(c p (sub.subset b)).2.1,FX _ _ (SF _) f (λp b=>(c p b).1) cy,λp b=>(c p (sub.subset b)).2.2,tP (zY _ _).1 λp b=>(c p (sub.subset b)).2.2⟩
def nu(VM:WU l)(a:∀p∈l,Pr p):(∀X,YL l X->0<=Rl g X->YL (eW g l) X)/\(∀y∈eW g l,0<=Rl g y)/\∀d,(∀p∈l,0<=Rl d p)->∀y∈eW g l,0<=Rl d y:=by
 unfold eW;cases hl:l.getLast? with
 |none =>
  simp_all
 |some z =>
  have e:=AA hl;have b:∀x∈l,0<x.1:=λx c=>(a x c).pos
  have a:∀x∈z::l,0<x.1:=by grind
  have B:=FE g;have sub:=wI (aQ g (c8 g) z l) [];refine⟨λX f g h hh=>Ki B e VM b f g h λp e=>?_,λy b=>yE B l z a y (sub.subset b),λd i y b=>uv B l z a (λx c=>?_) y (sub.subset b)⟩;exact hh p ((wH _ [] e).resolve_left (by simp));grind
def aV(gs l:yat):yat:=gs.foldl (λl g=>eW g l) l
def qg(h:YL l X)(a:0<X.1):l ≠ []:=λe=>by
 have:=h (-1,0,0) (by simp_all);unfold Rl at this
 lia
def sT(p:Sp):Tr:=(1,p.1,p.2)
def Od(a b c:Sp):Tq (sT a) (sT b) (sT c)=cr a b c:=by rw[cA];unfold Tq sT Rl Sw;grind
def ze{A B:Int}{x y z:Sp}(b:0<A*y.1+B*y.2)(a:0<=A*x.1+B*x.2)(hz:0<=A*z.1+B*z.2)(d:0<=tn x y)(c:0<=tn y z):0<=tn x z:=by
 have e:(A*y.1+B*y.2)*tn x z=(A*z.1+B*z.2)*tn x y+(A*x.1+B*x.2)*tn y z:=by unfold tn;grind
 have g:=Tw hz d;have f:=Tw a c;exact Z2 (a:=A*y.1+B*y.2) (by rw[e];omega) b
def sb(a b:Sp):Sp:=(a.1 - b.1,a.2 - b.2)
def gL(a b c:Sp):cr a b c=tn (sb b a) (sb c a):=by rw[cA];unfold tn sb;grind
theorem fX(A B:Int)(a b:Sp):A*(sb a b).1+B*(sb a b).2=fA A B a - fA A B b:=by unfold sb fA;grind
def Dm(L:Way A B ps n l){i j k:Nat}(d:i<j)(a:j<k)(b:k<n):0<=cr (l i) (l j) (l k):=by
 have c:=L.TR j (by lia) (l i) (L.mem i (by lia));have m:=L.TR j (by lia) (l k) (L.mem k b);have h:=L.rise i j d (by lia);have g:=L.rise j (j+1) (by lia) (by lia);have f:=L.rise j k a b;have:=ze (A:=A) (B:=B) (x:=sb (l j) (l i)) (y:=sb (l (j+1)) (l j)) (z:=sb (l k) (l j)) (by rw[fX];lia) (by grind [fX]) (by grind [fX]) (by
  rw[cA]at c;unfold tn sb
  lia) (by simp_all [gL])
 rw[gL];have e:tn (sb (l j) (l i)) (sb (l k) (l i))=tn (sb (l j) (l i)) (sb (l k) (l j)):=by unfold tn sb;grind
 simp_all
def Dp{m:Nat}(L:Way A B ps n l)(U:Way (-A) (-B) ps (m+2) u)(p:u (m+1)=l 0){i j k:Nat}(s:i<j)(b:j<n)(g:k<m+2):0<=cr (l i) (l j) (u k):=by
 have f:=U.mem k g;have o:=L.rise i j s b;by_cases h:fA A B (u k)<=fA A B (l i);have c:=L.TR i (by lia) (u k) f;have d:=L.TR i (by lia) (l j) (L.mem j b);have r:=L.rise i (i+1) (by lia) (by lia);have:=ze (A:=A) (B:=B) (x:=sb (l i) (u k)) (y:=sb (l (i+1)) (l i)) (z:=sb (l j) (l i)) (by rw[fX];lia) (by rw[fX];lia) (by grind [fX]) (by
  rw[gL]at c;have:tn (sb (l i) (u k)) (sb (l (i+1)) (l i))=tn (sb (l (i+1)) (l i)) (sb (u k) (l i)):=by unfold tn sb;grind
  simp_all) (by simp_all [gL])
 rw[gL];have e:tn (sb (l j) (l i)) (sb (u k) (l i))=tn (sb (l i) (u k)) (sb (l j) (l i)):=by unfold tn sb;grind
 simp_all
 by_cases w:fA A B (l j)<=fA A B (u k);obtain⟨a,rfl⟩:∃a,j=a+1:=⟨j - 1,by lia⟩;have c:=L.TR a b (u k) f;have d:=L.TR a b (l i) (L.mem i (by lia));have r:=L.rise a (a+1) (by lia) b;have:=ze (A:=A) (B:=B) (x:=sb (l (a+1)) (l i)) (y:=sb (l (a+1)) (l a)) (z:=sb (u k) (l (a+1))) (by rw[fX];lia) (by grind [fX]) (by rw[fX];lia) (by
  rw[gL]at d;have:tn (sb (l (a+1)) (l i)) (sb (l (a+1)) (l a))=tn (sb (l (a+1)) (l a)) (sb (l i) (l a)):=by unfold tn sb;grind
  simp_all) (by
  rw[gL]at c;have:tn (sb (l (a+1)) (l a)) (sb (u k) (l (a+1)))=tn (sb (l (a+1)) (l a)) (sb (u k) (l a)):=by unfold tn sb;grind
  simp_all)
 rw[gL];have e:tn (sb (l (a+1)) (l i)) (sb (u k) (l i))=tn (sb (l (a+1)) (l i)) (sb (u k) (l (a+1))):=by unfold tn sb;grind
 simp_all
 have t:k<m+1:=by
  rcases zCi (Yr g)with q|q;exact q;exfalso;rw[q,p]at h;exact h (L.lo _ (L.mem i (by lia)))
 have c:=U.TR k (by lia) (l i) (L.mem i (by lia));have d:=U.TR k (by lia) (l j) (L.mem j b);have r:=U.rise k (k+1) (by lia) (by lia);have:=ze (A:=A) (B:=B) (x:=sb (l j) (u k)) (y:=sb (u k) (u (k+1))) (z:=sb (u k) (l i)) (by grind [fX]) (by grind [fX]) (by grind [fX]) (by
  rw[gL]at d;have:tn (sb (l j) (u k)) (sb (u k) (u (k+1)))=tn (sb (u (k+1)) (u k)) (sb (l j) (u k)):=by unfold tn sb;grind
  simp_all) (by
  rw[gL]at c;have:tn (sb (u k) (u (k+1))) (sb (u k) (l i))=tn (sb (u (k+1)) (u k)) (sb (l i) (u k)):=by unfold tn sb;grind
  simp_all)
 rw[gL];have e:tn (sb (l j) (l i)) (sb (u k) (l i))=tn (sb (l j) (u k)) (sb (u k) (l i)):=by unfold tn sb;grind
 simp_all
def NG(a b c:Sp):cr a b c=cr b c a:=by rw[cA,cA];grind
def JW{n m:Nat}{h:Nat->Sp}(L:Way A B ps (n+2) l)(U:Way (-A) (-B) ps (m+2) u)(p:l (n+1)=u 0)(q:u (m+1)=l 0)
  (b:∀k,k<n+2->h k=l k) (s:∀j,j<m+1->h (n+1+j)=u j) {i j k:Nat} (o:i<j) (e:j<k) (d:k<n+m+2):0<=cr (h i) (h j) (h k):=by
 have r:Way (-(-A)) (-(-B)) ps (n+2) l:=by lia
 have a:∀k,n+1<=k->k<n+m+2->h k=u (k - (n+1)):=by grind
 by_cases c:i<n+2;by_cases f:j<n+2;by_cases g:k<n+2;rw[b i c,b j f,b k g];exact Dm L o e g;rw[b i c,b j f,a k (by lia) d];exact Dp L U q o f (by lia);rw[b i c,a j (by lia) (by lia),a k (by lia) d,NG];exact Dp U r p (by lia) (by lia) c;rw[a i (by lia) (by lia),a j (by lia) (by lia),a k (by lia) d];exact Dm U (by lia) (by lia) (by lia)
theorem Dj:∀{l:yat},(∀i j k (c:i<j) (a:j<k) (b:k<l.length),0<=Tq (l[i]'(by lia)) (l[j]'(by lia)) (l[k]'b))->lL l
 |[],_=>True.intro
 |p::r,h=>⟨Y9.mpr λi j e d q=>h 0 (i+1) (j+1) (by lia) (by lia) (by simp_all),Dj λi j k c a b=>h (i+1) (j+1) (k+1) (by lia) (by lia) (by simp_all)⟩
def Au(h:bN ys ps):WU ((aX ys).map sT)/\(1<(aX ys).length->∀k,k<(aX ys).length->bK (aX ys) k≠(aX ys).getD k (0,0)):=by
 have B:=tU h;obtain⟨o,a⟩:=h;unfold aX;by_cases c:ys.length<2;rw[Rv c];refine⟨λx y z s=>?_,λq=>absurd q (by lia)⟩;have:=s.length_le;simp at this
 lia
 rw[if_neg c];obtain⟨A,n,m,ll,E,t,C,G,a,L,U,s,r,h,d,b⟩:=Av o a c;generalize aI ys=l at *;generalize aI ys.reverse=u at *;have p:∀{w:yas} {x:Sp},x∈w.dropLast->x∈w:=fun {w x} a=>(List.dropLast_sublist w).subset a
 have f:∀{w:yas} {i:Nat} (a:i<w.length),w.getD i (0,0)=w[i]:=fun {w i} a=>by rw[Xz,Ul a];rfl
 constructor
 rotate_left
 intro _ k c e;rw[b]at c;unfold bK at e;rw[b]at e;have a:∀k,n+1<=k->k<n+m+2->(l.dropLast++u.dropLast).getD k (0,0)=u.getD (k - (n+1)) (0,0):=λk I H=>by
  have:=h (k - (n+1)) (by lia);rw[<- this];congr 1
  lia
 cases k with
 |zero =>
  have g:(0+(n+m+2) - 1) % (n+m+2)=n+m+1:=by rw[XQ (by lia)];lia
  rw[g,a _ (by lia) (by lia),d 0 (by lia),<- r]at e;have:=U.rise (n+m+1 - (n+1)) (m+1) (by lia) (by lia);rw[e]at this;exact zCn _ this
 |succ k =>
  have g:(k+1+(n+m+2) - 1) % (n+m+2)=k:=by
   have:k+1+(n+m+2) - 1=k+(n+m+2):=by lia
   rw[this,Nat.add_mod_right,XQ (by lia)]
  rw[g]at e;by_cases q:k+1<n+2;rw[d k (by lia),d (k+1) q]at e;have:=L.rise k (k+1) (by lia) q;rw[e]at this;exact zCn _ this;rw[a k (by lia) (by lia),a (k+1) (by lia) c]at e;have:=U.rise (k - (n+1)) (k+1 - (n+1)) (by lia) (by lia);rw[e]at this;exact zCn _ this
 apply lL.t;apply Dj;intro i j k e a c;rw[RH,b]at c;have R:=JW L U s r d h e a c;rw[f (by rw[b];lia),f (by rw[b];lia),f (by rw[b];lia)]at R;rw[Yd,Yd,Yd,Od];exact R
def Qt(p:Sp):Pr (sT p):=⟨by show(0:Int)<1;decide,by
 show PM.g3 1 p.1 p.2=1;unfold PM.g3
 simp_all⟩
def rD(h X:Tr)(p:Sp):X.1*Rl h (sT p) - Rl h X=h.2.1*(RQ X p).1+h.2.2*(RQ X p).2:=by unfold Rl sT RQ;grind
def Jf{X:Tr}(h0:0<X.1)(B:wo X hs):YL (hs.map sT) X:=λh hh=>by
 have i:∀p∈hs,0<=X.1*Rl h (sT p):=λp i=>Tw (Tb h0) (hh _ (S5.mpr ⟨p,i,rfl⟩))
 have k:∀p∈hs,∀q∈hs,∀s t:Int,0<s->0<t->s*(RQ X p).1+t*(RQ X q).1=0->s*(RQ X p).2+t*(RQ X q).2=0->0<=Rl h X:=λp d q f s t g b u o=>by
  have n:=rD h X p;have m:=rD h X q;have y:=Tw (Tb g) (i p d);have x:=Tw (Tb b) (i q f);have e:(s+t)*Rl h X=s*(X.1*Rl h (sT p))+t*(X.1*Rl h (sT q)):=by grind
  exact Z2 (a:=s+t) (by rw[e];lia) (by lia)
 have c:∀p∈hs,∀q∈hs,∀r∈hs,∀s t w:Int,0<s->0<t->0<w->s*(RQ X p).1+t*(RQ X q).1+w*(RQ X r).1=0->s*(RQ X p).2+t*(RQ X q).2+w*(RQ X r).2=0->0<=Rl h X:=λp d q f r j s t w g b l u o=>by
  have n:=rD h X p;have m:=rD h X q;have g3:=rD h X r;have y:=Tw (Tb g) (i p d);have x:=Tw (Tb b) (i q f);have z:=Tw (Tb l) (i r j);have e:(s+t+w)*Rl h X=s*(X.1*Rl h (sT p))+t*(X.1*Rl h (sT q))+w*(X.1*Rl h (sT r)):=by grind
  exact Z2 (a:=s+t+w) (by rw[e];lia) (by lia)
 rcases B with⟨p,d,b⟩| ⟨p,d,q,f,b⟩| ⟨p,d,q,f,r,j,b⟩;have g:=rD h X p;have a:RQ X p=(0,0):=b;rw[a,XC,XC]at g;have:=i p d
 lia
 obtain⟨g,a⟩:=G8 b.1;have h:RQ X q≠(0,0):=λe=>by have:=b.2;rw[e]at this;unfold Rp at this;simp at this
 exact k p d q f _ _ (gG h) (by have:=b.2;lia) g a;obtain⟨g,a⟩:=Iy (RQ X p) (RQ X q) (RQ X r);rcases b with⟨h,e,b⟩| ⟨h,e,b⟩;exact c p d q f r j _ _ _ h e b g a;exact c p d q f r j (-tn (RQ X q) (RQ X r)) (-tn (RQ X r) (RQ X p)) (-tn (RQ X p) (RQ X q)) (by lia) (by lia) (by lia) (by rw[Vj,Vj,Vj];lia) (by rw[Vj,Vj,Vj];lia)
def Ef(g:ni hs ps)(d:ps ≠ []):ni hs hs:=by refine⟨λ_ h=>h,by lia,λ_=>?_,by simp_all,λa b e=>⟨(g.two a b e).1,λp c=>(g.two a b e).2 p (g.mem p c)⟩,λq k b p c=>g.TR q k b p (g.mem p c),g.Xy⟩;obtain⟨a,r,e,b⟩:=g.Yo d;exact⟨a,r,e,λp c=>b p (g.mem p c)⟩
theorem j9(g:ni hs ps)(b:ps ≠ []):hs ≠ []:=by
 obtain⟨a,r,e,_⟩:=g.Yo b
 lia
def Je{X:Tr}(g:ni hs ps)(a:ps ≠ [])(h0:0<X.1)(c:∀b∈aY hs,0<=Rl b X):YL (hs.map sT) X :=
 Jf h0 (G9 (Ef g a) (j9 g a) h0 c)
theorem zN(a b:Sp):Rl (d9 a b) (sT a)=0/\Rl (d9 a b) (sT b)=0:=by constructor<;>(unfold Rl d9 sT;grind)
theorem rq(a w:Sp):Rl (bZ a w) (sT a)=0:=by unfold Rl bZ sT;grind
theorem zI{R:Tr->Tr->Prop}:∀{l:yat},(∀i (h:i+1<l.length),R (l[i]'(by lia)) l[i+1])->WA R l
 |[],_=>True.intro
 |[_],_=>True.intro
 |a::b::r,h=>⟨h 0 (by simp),zI λi c=>h (i+1) (by simp_all)⟩
def Jd{hs:yas}{f:yat}(i:hs ≠ [])(h:∀b∈aY hs,b∈f):Cyc (Sh (·∈f)) (hs.map sT):=λk z l=>by
 by_cases c:hs.length<3;have j:aY hs=gc (hs.getD 0 (0,0)) (hs.getD (hs.length - 1) (0,0)):=by unfold aY;rw[Rv c]
 have m:∃e∈f,∀p∈hs,Rl e (sT p)=0:=by
  refine⟨bZ (hs.getD 0 (0,0)) (S7 (aS (hs.getD 0 (0,0)) (hs.getD (hs.length - 1) (0,0)))),h _ (by rw[j];unfold gc;simp),λp g=>?_⟩;rcases hs with _|⟨a,_|⟨b,_|⟨d,r⟩⟩⟩;exact absurd rfl i
  simp_all [rq]
  simp at g;rcases g with rfl|rfl;exact rq _ _;show Rl (bZ a (S7 (aS a p))) (sT p)=0;unfold aS;split;grind [rq];unfold Rl bZ sT S7;grind;simp at c;lia
 obtain⟨e,d,g⟩:=m;have a:∀x∈z::hs.map sT,Rl e x=0:=by grind
 exact zI λi b=>⟨e,d,a _ (YT _),a _ (YT _)⟩
 have j:aY hs=(List.range' 0 hs.length).map λk=>d9 (bK hs k) (hs.getD k (0,0)):=by unfold aY;rw[if_neg c]
 have d:∀{i:Nat} (b:i<hs.length),hs.getD i (0,0)=hs[i]:=by grind
 have c:∀i (b:i<hs.length),Sh (·∈f) (sT (bK hs i)) (sT hs[i]):=λi b=>by obtain⟨e,a⟩:=zN (bK hs i) (hs.getD i (0,0));refine⟨_,h (d9 (bK hs i) (hs.getD i (0,0))) (by grind),e,?_⟩;rw[<- d b];exact a
 have e:z=sT (bK hs 0):=by
  have a:(hs.map sT).getLast?=some z:=by rw[l];simp
  rw[List.getLast?_map,List.getLast?_eq_getElem?]at a;unfold bK;have:(0+hs.length - 1) % hs.length=hs.length - 1:=by simp_all
  rw[this,d (by lia)];rw[Ul (by lia)]at a;exact(Yu a).symm
 refine zI λi b=>?_
 cases i with
 |zero =>
  show Sh _ z ((hs.map sT)[0]'_);rw[e,Yd];exact c 0 (by lia)
 |succ i =>
  show Sh _ ((hs.map sT)[i]'_) ((hs.map sT)[i+1]'_);rw[Yd,Yd];simp at b;have:=c (i+1) (by lia);unfold bK at this;grind [Nat.add_mod_right,Nat.mod_eq_of_lt]
def Ir(d:WB n a)(c:WB n b):WB (n+1) (aS a b)/\aS a b≠(0,0):=by unfold aS;split;exact⟨⟨by unfold Bd;grind,by unfold Bd;simp_all [Nat.pow_pos]⟩,by simp⟩;rename_i e;refine⟨⟨?_,?_⟩,λz=>e ?_⟩;rw[YY,YY];exact c.x.sub d.x;show Bd _ (1*b.2 - 1*a.2);rw[YY,YY];exact c.y.sub d.y;grind
def LL(c:WB n a)(b:WB (n+1) w)(h0:w≠(0,0)):X5 n (bZ a w):=by
 unfold bZ;refine⟨λz=>h0 ?_,?_,?_,?_⟩
 lia
 exact Bd.mono (Bd.neg ((b.x.mul c.x).add (b.y.mul c.y))) (by lia);rw[Int.mul_one];exact b.x;show Bd _ (w.2*1);rw[Int.mul_one];exact b.y
def JR{hs:yas}(a:hs ≠ [])(k:Nat):bK hs k∈hs:=by unfold bK;have:(k+hs.length - 1) % hs.length<hs.length:=Zh _ (by grind);grind
def getD_mem{hs:yas}{k:Nat}(h:k<hs.length):hs.getD k (0,0)∈hs:=by grind
def Fz{hs:yas}(j:hs ≠ [])(i:1<hs.length->∀k,k<hs.length->bK hs k≠hs.getD k (0,0))(g:∀p∈hs,WB n p):∀b∈aY hs,X5 n b:=λb b=>by
 unfold aY at b;split at b
 ·have a:0<hs.length:=by grind
  have e:=g _ (getD_mem (hs:=hs) (k:=0) a);have c:=g _ (getD_mem (hs:=hs) (k:=hs.length - 1) (by lia));obtain⟨f,h⟩:=Ir e c;generalize hs.getD 0 (0,0)=a at *;generalize hs.getD (hs.length - 1) (0,0)=d at *;unfold gc at b;simp at b;generalize aS a d=w at *;have m:WB (n+1) (SO w)/\SO w≠(0,0):=⟨⟨f.x.neg,f.y.neg⟩,λz=>h (by unfold SO at z;grind)⟩
  have a:WB (n+1) (S7 w)/\S7 w≠(0,0):=⟨⟨f.y.neg,f.x⟩,λz=>h (by unfold S7 at z;grind)⟩
  have bl:WB (n+1) (SO (S7 w))/\SO (S7 w)≠(0,0):=⟨⟨a.1.x.neg,a.1.y.neg⟩,λz=>a.2 (by unfold SO at z;grind)⟩
  rcases b with rfl|rfl|rfl|rfl
  all_goals simp_all [LL]
 obtain⟨k,l,rfl⟩:=S5.mp b;have a:k<hs.length:=by simp_all
 have b:=i (by lia) k a;have e:=g _ (JR j k);have c:=g _ (getD_mem a);unfold d9;refine⟨λz=>b ?_,?_,?_,?_⟩;grind;exact Bd.mono ((e.x.mul c.y).sub (c.x.mul e.y)) (by lia);rw[Int.mul_one,Int.mul_one];exact e.y.sub c.y;rw[YY,YY];exact c.x.sub e.x
def Jc{a Z:yat}(h:bN ys ps)(c:ps ≠ [])(d:∀p∈ps,WB n p)(e:∀b∈aY (aX ys),b∈a)(f:∀p∈aX ys,sT p∈Z)(i:(aX ys).length<=Z.length):Cor n a Z ((aX ys).map sT):=by
 have g:=qe h;have w:∀p∈aX ys,WB n p:=λp a=>d p (g.mem p a)
 refine⟨(Au h).1,λp a=>?_,λp a=>?_,Jd (j9 g c) e,λp a=>?_,by simp_all⟩;obtain⟨q,_,rfl⟩:=S5.mp a;exact Qt q;obtain⟨q,b,rfl⟩:=S5.mp a;refine⟨?_,(w q b).x.mono (by lia),(w q b).y.mono (by lia)⟩;show Bd _ 1;unfold Bd;grind;grind
def HU(g:Tr)(qf:Tr->Tr->Tr)(z:Tr)(l:yat)(c:Tr):aQ g qf z (l++[c])=aQ g qf z l++((if Rl g (l.getLastD z)*Rl g c<0 then[qf (l.getLastD z) c]else[])++(if 0<=Rl g c then[c]else[])):=by
 rcases List.eq_nil_or_concat l with rfl|⟨k,p,rfl⟩;simp only[Z6,aQ,YV,List.getLastD_nil];rfl;rw[List.concat_eq_append,Xi];show aQ g qf z (k++p::[c])=_;rw[iV];simp only[aQ,YV]
 simp_all
theorem ur(g:Tr)(qf:Tr->Tr->Tr):∀(l:yat) (z:Tr),(aQ g qf z l).length<=2*l.length
 |[],_=>SF _
 |c::r,z=>by unfold aQ;have:=ur g qf r c;rw[Vh,Vh,Ye];grind
theorem pX:∀(l s a:yat),(∀x,x∈s↔x∈a)->V7 s l=V7 a l
 |[],_,_,_=>rfl
 |x::r,s,a,h=>by unfold V7;by_cases q:x∈s;rw[Rv q,Rv ((h x).mp q)];exact pX r s a h;rw[if_neg q,if_neg (by grind)];congr 1;exact pX r _ _ (by grind)
theorem zZ(z:Tr):∀(l a:yat),((List.range' a.length l.length).filter λk=>!((a++l).take k).any λy=>decide (y=(a++l).getD k z)).map (λk=>(a++l).getD k z)=V7 a l
 |[],a=>rfl
 |x::r,a=>by
  have ih:=zZ z r (a++[x]);have e:a++[x]++r=a++x::r:=by simp
  rw[e]at ih;have b:(a++x::r).getD a.length z=x:=by simp_all
  have c:(a++x::r).take a.length=a:=by simp
  rw[Ye,List.range'_succ,List.filter_cons,b,c];have d:(a.any λy=>decide (y=x))=decide (x∈a):=by rw[Bool.eq_iff_iff];simp
  have b:(a++[x]).length=a.length+1:=by simp
  rw[b]at ih;unfold V7;by_cases q:x∈a;rw[Rv q,if_neg (by lia),ih];exact pX r _ _ (by simp_all);grind
def Pq(a b:Int):(sg a*sg b<0)↔a*b<0:=by
 unfold sg;rcases zCX a 0 with c|c|c
 ·rw[if_neg (by lia),Rv c];rcases zCX b 0 with a|a|a;have:=zBY c a
  lia
  all_goals simp_all [Yc]
 simp_all
 rw[Rv c];rcases zCX b 0 with a|a|a;rw[if_neg (by lia),Rv a]
 simp_all [XA]
 simp_all
 rw[Rv a];have:=Wl c a
 lia
def Pt(a:Int):(0<=sg a)↔0<=a:=by
 unfold sg
 lia
def Oi(p q:Tr):eqD (RD p) (RD q)=decide (p=q):=by unfold RD;grind [F9]
def iz(p:Tr):Uy 1 (RD p):=Uy.tup (.cons (.int _ _) (.cons (.int _ _) (.cons (.int _ _) (.nil _))))
def plk(a b c d:Sp):tn a b*tn c d=tn a c*tn b d - tn a d*tn b c:=by unfold tn;grind
theorem nK(t:Sp):∀V:yas,(∃v∈V,0<tn t v)->∃v∈V,0<tn t v/\∀w∈V,0<tn t w->0<=tn v w
 |[],h=>by simp_all
 |x::V,h=>by
  by_cases c:∃v∈V,0<tn t v
  ·obtain⟨v,vm,hv,f⟩:=nK t V c;by_cases d:0<tn t x/\tn v x<0;refine⟨x,by grind,d.1,λw a b=>?_⟩;rcases Tx.mp a with e|wm
   simp_all [kj,W9]
   have k:=plk t v x w;have i:=Tw (Tb d.1) (f w wm b);have g:=Wl b (show 0 < - tn v x by lia);exact Z2 (by lia) hv
   ·refine⟨v,by grind,hv,λw a b=>?_⟩;rcases Tx.mp a with e|wm
    all_goals simp_all
  obtain⟨v,vm,hv⟩:=h;rcases Tx.mp vm with e|vm;refine⟨v,by lia,hv,λw a b=>?_⟩;rcases Tx.mp a with e|wm
  simp_all [kj,W9]
  exact absurd ⟨w,wm,b⟩ c;exact absurd ⟨v,vm,hv⟩ c
theorem E6{a:Type}(f:a->Int):∀V:List a,∃M:Int,0<M/\∀v∈V,f v<=M
 |[]=>⟨1,by decide,by simp_all⟩
 |x::V=>by obtain⟨M,c,b⟩:=E6 f V;refine⟨M+(f x).toNat,by lia,λv hv=>?_⟩;grind
def sq_pos{t:Sp}(d:t≠(0,0)):0<Rp t t:=by
 obtain⟨a,b⟩:=t;show 0<a*a+b*b;have f:0<=a*a:=by rcases Int.le_total 0 a with h|h;exact Tw h h;exact zBT h h
 have e:0<=b*b:=by rcases Int.le_total 0 b with h|h;exact Tw h h;exact zBT h h
 by_cases c:a=0;have a:b≠0:=by lia
 have:=Int.mul_ne_zero a a;omega;have:=Int.mul_ne_zero c c;omega
def Oq{t:Sp}(a:t≠(0,0))(V:yas)(b:∀d:Sp,(∀v∈V,0<=Rp v d)->0<=Rp t d):(∃v∈V,tn t v=0/\0<Rp t v)∨∃ v∈V,∃w∈V,tn t v<0/\0<tn t w/\0<tn v w:=by
 refine zBX λi=>?_
 have f:∀v∈V,tn t v=0->Rp t v<=0:=by simp_all
 have d:=sq_pos a;by_cases L:∃v∈V,0<tn t v;obtain⟨w,g,j,ext⟩:=nK t V L;have a:=b (-w.2,w.1) λv hv=>by
  have e:Rp v (-w.2,w.1)=tn w v:=by unfold Rp tn;grind
  rw[e];rcases zCX (tn t v) 0 with c|c|c;grind [bQ];have k:Rp t t*tn w v=Rp t v*tn w t+tn t v*Rp w t:=by unfold Rp tn;grind
  rw[c,YW,VU]at k;have q:=zBT (f v hv c) (show tn w t<=0 by rw[bQ];lia);rw[<- k]at q;exact Z2 q d;exact ext v hv c
 have e:Rp t (-w.2,w.1)=tn w t:=by unfold Rp tn;grind
 rw[e,bQ]at a
 lia
 obtain⟨M,f,d⟩:=E6 (λv=>Rp v t) V;have a:=b (M*t.2 - t.1,- (M*t.1) - t.2) λv hv=>by
  have e:Rp v (M*t.2 - t.1,- (M*t.1) - t.2)=M*(- tn t v) - Rp v t:=by unfold Rp tn;grind
  rw[e];have h:=XR.mp λz=>L ⟨v,hv,z⟩
  by_cases c:tn t v=0
  simp_all [Ai]
  have b:M*1<=M*(- tn t v):=zDC (by lia) (Tb f);have:=d v hv
  lia
 have e:Rp t (M*t.2 - t.1,- (M*t.1) - t.2)=- Rp t t:=by unfold Rp;grind
 lia
def vc(g:Tr):Sp:=(g.2.1,g.2.2)
def Qf(g:Tr)(N b a:Int)(p:Tr):Rl g (N*p.1,N*p.2.1+b,N*p.2.2+a)=N*Rl g p+Rp (vc g) (b,a):=by unfold Rl Rp vc;grind
def Fw{gs C:yat}(c:C ≠ [])(pos:∀p∈C,0<p.1)(n:∀p∈C,Rl g p<0)(q:∀h∈gs,∀p∈C,0<=Rl h p)
  (sp:∀X:Tr,0<X.1->(∀h∈gs,0<=Rl h X)->YL C X) (gv:vc g≠(0,0)) :
  ∃ p:Tr,0<p.1/\Rl g p<0/\((∃h∈gs,Rl h p=0/\pI (vc h) (vc g))∨∃ h∈gs,∃k∈gs,Rl h p=0/\Rl k p=0/\wk (vc h) (vc k) (vc g)):=by
 obtain⟨b,a⟩:=zB4 C c;have l:∀p:Tr,Rl (-1,0,0) p=- p.1:=λp=>by unfold Rl;grind
 obtain⟨p,m,gp,_,i⟩:=tN g (-1,0,0) C ⟨b,a,n b a,by rw[l];have:=pos b a;lia⟩;have a:=pos p m;refine⟨p,a,gp,?_⟩;have b:(- g.2.1,- g.2.2)≠((0,0):Sp):=λe=>gv (by have u:=congrArg Prod.fst e;have t:=congrArg Prod.snd e;unfold vc;rw[show g.2.1=0 by lia,show g.2.2=0 by lia])
 have j:=Oq b ((gs.filter λh=>decide (Rl h p=0)).map vc) λd b=>by
  obtain⟨N,o,s⟩:=E6 (λh=>- Rp (vc h) d) gs;have r:∀h∈gs,0<=Rl h (N*p.1,N*p.2.1+d.1,N*p.2.2+d.2):=λh f=>by
   rw[Qf];by_cases c:Rl h p=0;rw[c,XC,zDW];exact b _ (S5.mpr ⟨h,Yf.mpr ⟨f,U5 c⟩,rfl⟩);have b:N*1<=N*Rl h p:=zDC (by have:=q h f p m;lia) (Tb o);have:=s h f;show 0<=N*Rl h p+Rp (vc h) d
   lia
  have I:=sp _ (Wl o a) r (Rl g p - p.1*g.1,- (p.1*g.2.1),- (p.1*g.2.2)) λy m=>by
   have b:=i y m (n y m);rw[l,l]at b;have e:Rl (Rl g p - p.1*g.1,- (p.1*g.2.1),- (p.1*g.2.2)) y=Rl g p*y.1 - p.1*Rl g y:=by unfold Rl;grind
   rw[Int.mul_neg,Vj]at b
   lia
  have e:Rl (Rl g p - p.1*g.1,- (p.1*g.2.1),- (p.1*g.2.2)) (N*p.1,N*p.2.1+d.1,N*p.2.2+d.2)=p.1*Rp (- g.2.1,- g.2.2) d:=by unfold Rl Rp;grind
  rw[e]at I;exact Z2 I a
 have d:∀v∈(gs.filter λh=>decide (Rl h p=0)).map vc,∃h∈gs,Rl h p=0/\vc h=v:=λv hv=>by obtain⟨h,f,e⟩:=S5.mp hv;obtain⟨a,b⟩:=Yf.mp f;exact⟨h,a,XO b,e⟩
 have i:∀v:Sp,tn (- g.2.1,- g.2.2) v=- tn (vc g) v:=λv=>by unfold tn vc;grind
 have l:∀v:Sp,Rp (- g.2.1,- g.2.2) v=- Rp (vc g) v:=λv=>by unfold Rp vc;grind
 rcases j with⟨v,e,a,b⟩| ⟨v,e,w,j,a,b,c⟩;obtain⟨h,f,g,rfl⟩:=d v e;rw[i]at a;rw[l]at b;exact .inl ⟨h,f,g,by rw[bQ];lia,by rw[Ai];lia⟩;obtain⟨h,f,g,rfl⟩:=d v e;obtain⟨k,e,kp,rfl⟩:=d w j;rw[i]at a b;refine .inr ⟨h,f,k,e,g,kp,.inl ⟨?_,?_,c⟩⟩;rw[bQ];exact b
 lia
theorem zK{a Z:yat}(f:∀e∈a,X5 n e)(i:∀e∈a,∀g∈a,YM (Sw e g)∈Z):∀(gs l:yat),(∀g∈gs,g∈a)->Cor n a Z l →
  Cor n a Z (aV gs l)/\(∀X,YL l X->(∀g∈gs,0<=Rl g X)->YL (aV gs l) X)/\(∀g∈gs,∀y∈aV gs l,0<=Rl g y)/\∀d,(∀p∈l,0<=Rl d p)->∀y∈aV gs l,0<=Rl d y
 |[],l,_,C=>⟨C,λ_ I _=>I,by simp_all,λ_ h=>h⟩
 |g::gs,l,h,C=>by
  obtain⟨m,k,j⟩:=nu (g:=g) C.VM C.pr;obtain⟨a,b,c,d⟩:=zK f i gs (eW g l) (by grind) (IC f (h g (by simp)) (by grind) C);refine⟨a,λX I a=>b X (m X I (a g (by simp))) (by grind),λx a y b=>?_,λe f=>d e (j e f)⟩;rcases Tx.mp a with rfl|a;exact d x k y b;exact c x a y b
theorem FA{hs:yas}(c:hs ≠ []){b:Tr}(a:b∈aY hs):∃p:Sp,Rl b (sT p)=0:=by unfold aY at a;split at a;unfold gc at a;simp at a;grind [rq];grind [zN]
theorem QH(h:X5 n b)(e:Rl b (sT p)=0):vc b≠(0,0):=λz=>h.ne (by have c:b.2.1=0:=congrArg Prod.fst z;have a:b.2.2=0:=congrArg Prod.snd z;unfold Rl sT at e;grind)
theorem Cs:∀gs:yat,aV gs []=[]
 |[]=>rfl
 |g::gs=>Cs gs
theorem Cr(a b l:yat):aV (a++b) l=aV b (aV a l):=List.foldl_append
theorem ID{G:yat}{j:Nat}(h:aV (G.take i) F=[])(U2:i<=j):aV (G.take j) F=[]:=by grind [List.take_add,Nat.add_sub_cancel',Cr,Cs]
theorem tw{G F:yat}(d:F ≠ []):∀n,aV (G.take n) F=[]->∃a,a<n/\(∀j,j<=a->aV (G.take j) F ≠ [])/\aV (G.take (a+1)) F=[]
 |0,h=>absurd h d
 |n+1,h=>by by_cases c:aV (G.take n) F=[];obtain⟨k,e,a,b⟩:=tw d n c;grind;grind [ID]
def tB{G:yat}{k:Nat}{g:Tr}(h:G[k]?=some g):aV (G.take (k+1)) F=eW g (aV (G.take k) F):=by rw[List.take_add_one,h,Cr];rfl
def Xe(G:yat)(pk:yag):yas:=pk.map λk=>vc (G.getD k (0,0,0))
def nC(G:yat)(pk:yag)(sh:yaf):Int:=((pk.zip sh).map λz=>(G.getD z.1 (0,0,0)).1*z.2).sum
def ik(G:yat)(a:Nat):List (yag)->Option (yag×yaf)
 |[]=>none
 |o::r=>match lN (Xe G (o++[a]))with
  |some b=>if nC G (o++[a]) b<0 then some (o++[a],b)else ik G a r
  |none=>ik G a r
set_option tactic.hygienic true in
theorem pO:∀{L:List (yag)} {pk:yag} {sh:yaf},ik G last L=some (pk,sh)->(∃o∈L,pk=o++[last])/\lN (Xe G pk)=some sh/\nC G pk sh<0
 |[],_,_,h=>by cases h
 |o::r,pk,sh,h=>by
  have b:ik G last r=some (pk,sh)->(∃a∈o::r,pk=a++[last])/\lN (Xe G pk)=some sh/\nC G pk sh<0:=λh=>by
   obtain⟨⟨a,m,e⟩,q⟩:=pO h
   simp_all
  unfold ik at h;split at h
  ·split at h
   all_goals simp_all
  exact b h
theorem qZ{a:Nat}:∀{L:List (yag)} {o:yag} {sh:yaf},o∈L->lN (Xe G (o++[a]))=some sh->nC G (o++[a]) sh<0->∃r,ik G a L=some r
 |[],_,_,m,_,_=>by cases m
 |x::r,o,sh,m,b,a=>by
  unfold ik;split;split
  lia
  rcases Tx.mp m with e|m
  lia
  exact qZ m b a;rcases Tx.mp m with e|m
  lia
  exact qZ m b a
def GO{p c t v:Int}(b:0<p)(a:0<t)(hv:v<0)(e:p*c=t*v):c<0:=by have h:=XA a hv;exact VH.mp λz=>by have:=Tw (Tb b) z;lia
def QX{p:Tr}(B:Du [vc h,vc g] sh)(h0:0<p.1)(c:Rl h p=0)(gp:Rl g p<0):∃s t,sh=[s,t]/\h.1*s+g.1*t<0:=by
 obtain⟨s,t,rfl⟩:∃s t,sh=[s,t]:=by
  have:=B.len;rcases sh with _|⟨s,_|⟨t,_|⟨u,r⟩⟩⟩
  all_goals simp_all
 have b:=B.sum;unfold wsum vc at b;simp at b;have a:=B.pos t (by simp);refine⟨s,t,rfl,GO h0 a gp ?_⟩;unfold Rl at *;grind
def QY{p:Tr}(B:Du [vc h,vc k,vc g] sh)(h0:0<p.1)(c:Rl h p=0)(kp:Rl k p=0)(gp:Rl g p<0):∃s t u,sh=[s,t,u]/\h.1*s+(k.1*t+g.1*u)<0:=by
 obtain⟨s,t,u,rfl⟩:∃s t u,sh=[s,t,u]:=by
  have:=B.len;rcases sh with _|⟨s,_|⟨t,_|⟨u,_|⟨v,r⟩⟩⟩⟩
  all_goals simp_all
 have b:=B.sum;unfold wsum vc at b;simp at b;have a:=B.pos u (by simp);refine⟨s,t,u,rfl,GO h0 a gp ?_⟩;unfold Rl at *;grind
def xE{G:yat}{h:Tr}(m:h∈G.take n):∃i,i<n/\G.getD i (0,0,0)=h:=by obtain⟨i,a,e⟩:=XN m;rw[Xj]at a;exact⟨i,by lia,by grind⟩
structure Km(G F B:yat):Prop where
 X6:∀j,WU (aV (G.take j) F)/\∀p∈aV (G.take j) F,Pr p
 inc:∀j X,0<X.1->(∀b∈B,0<=Rl b X)->(∀g∈G.take j,0<=Rl g X)->YL (aV (G.take j) F) X
 ov:∀j,∀g∈G.take j,∀y∈aV (G.take j) F,0<=Rl g y
 gb:∀g∈G,vc g≠(0,0)
 ne:F ≠ []
 own:∀j,∀b∈B,∀y∈aV (G.take j) F,0<=Rl b y
 hd:∃r,G=B++r
def DR(S:Km G F B)(e:aV G F=[]) :
  ∃ a,a<G.length/\(∀j,j<=a->aV (G.take j) F ≠ [])/\aV (G.take (a+1)) F=[]/\∃r,ik G a (Uq a 1++Uq a 2)=some r:=by
 obtain⟨a,f,k,b⟩:=tw S.ne G.length (by rw[zCA];exact e);refine⟨a,f,k,b,?_⟩;have e:=S.X6 a;have i:G[a]?=some G[a]:=Ul f;have n:G.getD a (0,0,0)=G[a]:=by rw[Xz,i];rfl
 have c:∀y∈aV (G.take a) F,Rl G[a] y<0:=λy d=>VH.mp λz=>by have l:=(nu (g:=G[a]) e.1 e.2).1 y (λh hh=>hh y d) z;rw[tB i]at b;exact qg l (e.2 y d).pos b
 have l:=k a (SF _);obtain⟨g,b⟩:=zB4 _ l;obtain⟨r,k⟩:=S.hd;have p:B.length<=a:=Xa.mp (by
  intro z;have o:a<B.length:=by lia
  have m:G[a]∈B:=by
   have q:G[a]?=B[a]?:=by rw[k,WZ o]
   rw[i]at q;exact UZ q.symm
  have:=S.own a _ m g b;have:=c g b
  lia)
 have sub:∀b∈B,b∈G.take a:=λb g=>by rw[k,List.take_append];refine XM _ ?_;rw[XJ p];exact g
 obtain⟨p,B,gp,i⟩:=Fw l (λy d=>(e.2 y d).pos) c (S.ov a) (λX d c=>S.inc a X d (λb g=>c b (sub b g)) c) (S.gb _ (YT f));rcases i with⟨h,c,f,e⟩| ⟨h,c,k,m,f,kp,e⟩;obtain⟨i,w,d⟩:=xE c;have x:Xe G ([i]++[a])=[vc h,vc G[a]]:=by show[vc (G.getD i (0,0,0)),vc (G.getD a (0,0,0))]=_;rw[d,n]
 have l:lN [vc h,vc G[a]]=some (dj [bC (vc G[a]),bC (vc h)]):=Rv e;obtain⟨s,t,y,A⟩:=QX (uC (by simp) l) B f gp;refine qZ (o:=[i]) (XM _ (AI w)) (by rw[x,l]) ?_;rw[y];show([(G.getD i (0,0,0)).1*s,(G.getD a (0,0,0)).1*t]:yaf).sum<0;rw[d,n];simp;exact A;obtain⟨i,w,d⟩:=xE c;obtain⟨j,q,g⟩:=xE m;have m:i≠j:=λz=>by
  rw[z,g]at d;rw[d]at e;unfold wk at e;have:=kj (vc h)
  lia
 have z:∀(i j:Nat) (h k:Tr),i<j->j<a->G.getD i (0,0,0)=h->G.getD j (0,0,0)=k->Rl h p=0->Rl k p=0->wk (vc h) (vc k) (vc G[a])->∃r,ik G a (Uq a 1++Uq a 2)=some r:=λi j h k p q d g f kp e=>by
  have x:Xe G ([i,j]++[a])=[vc h,vc k,vc G[a]]:=by show[vc (G.getD i (0,0,0)),vc (G.getD j (0,0,0)),vc (G.getD a (0,0,0))]=_;rw[d,g,n]
  obtain⟨c,l⟩:∃c,lN [vc h,vc k,vc G[a]]=some c:=by
   show∃c,lM _ _ _=some c;unfold lM;split;exact⟨_,rfl⟩;rename_i c;rcases e with b|b;exact absurd b c;exact⟨_,Rv b⟩
  obtain⟨s,t,u,y,A⟩:=QY (uC (by simp) l) B f kp gp;refine qZ (o:=[i,j]) (Wf _ (Jq p q)) (by rw[x,l]) ?_;rw[y];show([(G.getD i (0,0,0)).1*s,(G.getD j (0,0,0)).1*t,(G.getD a (0,0,0)).1*u]:yaf).sum<0;rw[d,g,n];simp;exact A
 rcases Nat.lt_or_gt_of_ne m with c|c;exact z i j h k c q d g f kp e;refine z j i k h c w g d kp f ?_;unfold wk at e ⊢;have H:=bQ (vc h) (vc k);have E:=bQ (vc k) (vc G[a]);have C:=bQ (vc G[a]) (vc h)
 lia
def Ei{o:yag}(h:o∈Uq last 1++Uq last 2):o.length<=2/\∀k∈o,k<last:=by grind [rG]
def ub(z:Nat×Int):D:=.tup [.int ((z.1:Nat):Int),.int z.2]
theorem Bt(z:Nat×Int):aU (ub z)=ub z:=rfl
def E9(zs:List (Nat×Int)):bf (zs.map ub)=zs.map ub:=cI ub Bt zs
theorem xG:∀(pk:yag) (sh:yaf),List.zipWith (λx y=>D.tup [x,y]) (pk.map λ(k:Nat)=>D.int (k:Int)) (sh.map D.int)=(pk.zip sh).map ub
 |[],_=>by simp
 |_::_,[]=>by simp
 |k::pk,s::sh=>by rw[VS,VS,List.zipWith_cons_cons,xG pk sh,List.zip_cons_cons,VS];rfl
abbrev Dt:=Int×Int×Int×Int
def RG(p:Dt):D:=.tup [.int p.1,.int p.2.1,.int p.2.2.1,.int p.2.2.2]
def CA(h:RG p=RG q):p=q:=by
 unfold RG at h
 lia
theorem map_inj{a:Type}{f:a->D}(b:∀{p q},f p=f q->p=q):∀{ps qs:List a},ps.map f=qs.map f->ps=qs
 |[],[],_=>rfl
 |[],_::_,h=>by simp at h
 |_::_,[],h=>by simp at h
 |p::ps,q::qs,h=>by simp at h;rw[b h.1,map_inj b h.2]
def LA{ps qs:List Dt}(h:ps.map RG=qs.map RG):ps=qs:=map_inj CA h
theorem yz(p:Dt):aU (RG p)=RG p:=rfl
def sS(ps:List Dt):bf (ps.map RG)=ps.map RG:=cI RG yz ps
def Mo(p:Dt):Uy 1 (RG p):=Uy.tup (.cons (.int _ _) (.cons (.int _ _) (.cons (.int _ _) (.cons (.int _ _) (.nil _)))))
structure GD(p:Dt):Prop where
 x:Bd 60 p.1
 y:Bd 60 p.2.1
 c0:0<=p.2.2.1
 c2:p.2.2.1<=2
def uy(col:D)(cs:Int->Bool):Prop:=(col=.RZ/\cs=λ_=>true)∨∃ k:Int,col=.int k/\cs=λc=>decide (c=k)
def uy.unt(h:uy col cs):aU col=col:=by
 rcases h with⟨rfl,_⟩| ⟨k,rfl,_⟩;exact yA;exact qS _
noncomputable def gv(c b a:Int)(p:Dt):Int:=c+b*p.1+a*p.2.1
def w3(c b a s:Int)(ps:List Dt):Int:=(ps.map λp=>if sg (gv c b a p)=s then p.2.2.2 else 0).sum
def wt(cs:Int->Bool)(c b a s:Int)(ps:List Dt):Int:=w3 c b a s (ps.filter λp=>cs p.2.2.1)
noncomputable def XH(cs:Int->Bool)(ps:List Dt):Int:=((ps.filter λp=>cs p.2.2.1).map λp=>p.2.2.2).sum
def Na(c b a s:Int)(ps:List Dt)(p:Dt):w3 c b a s (ps++[p])=w3 c b a s ps+if sg (gv c b a p)=s then p.2.2.2 else 0:=by
 unfold w3
 simp_all
def sg3(n:Int):sg n=-1∨sg n=0∨sg n=1:=by
 unfold sg
 lia
def zP{a:Type}(xs:List a)(lo b:yap):List a:=(xs.drop (HT.SG xs.length 0 lo)).take (HT.SG xs.length xs.length b - HT.SG xs.length 0 lo)
def IE{a:Type}(f:a->D)(xs:List a)(lo b:yap):PD.cutD (xs.map f) lo b=(zP xs lo b).map f:=by
 unfold PD.cutD zP
 simp_all
theorem Qv(a b c x:D):putD (κ:=Key) [(.inl (-1),a),(.inl 0,b),(.inl 1,c)] (.inl (-1)) x=[(.inl (-1),x),(.inl 0,b),(.inl 1,c)]:=rfl
theorem Qw(a b c x:D):putD (κ:=Key) [(.inl (-1),a),(.inl 0,b),(.inl 1,c)] (.inl 0) x=[(.inl (-1),a),(.inl 0,x),(.inl 1,c)]:=rfl
theorem Qx(a b c x:D):putD (κ:=Key) [(.inl (-1),a),(.inl 0,b),(.inl 1,c)] (.inl 1) x=[(.inl (-1),a),(.inl 0,b),(.inl 1,x)]:=rfl
def Fx{x y z:Int}(h:¬(x=0/\y=0/\z=0))(e:Bd n x)(d:Bd n y)(hz:Bd n z):Bd n (PM.T4 x y z l):=by
 unfold Bd at *;rw[PM.wN];have c:=zB5.mpr (PM.nL x y z);have b:=zB5.mpr (PM.nM x y z);have a:=zB5.mpr (PM.nN x y z);simp at c b a;by_cases i:x=0;by_cases g:y=0;have f:z≠0:=by lia
 have:=zCq (by lia) a
 lia
 have:=zCq (by lia) b
 lia
 have:=zCq (by lia) c
 lia
def gh(h:Bd 200 a)(g:Bd 200 b)(f:Bd 200 c)(e:Bd 200 d):Bd 1000 (a*b - c*d):=((h.mul g).sub (f.mul e)).mono (by decide)
def wq(f:Dt->Bool):List Dt->Int
 |[]=>0
 |p::r=>(if f p=true then p.2.2.2 else 0)+wq f r
structure Or(lt:Dt->Dt->Bool):Prop where
 ir:∀p,lt p p=false
 tr:∀p q r,lt p q=true->lt q r=true->lt p r=true
 nt:∀p q r,lt p q=true->lt r q=false->lt p r=true
def tq(p q z:Dt):Int:=(q.1 - p.1)*(z.2.1 - p.2.1) - (q.2.1 - p.2.1)*(z.1 - p.1)
def TC(p:Dt):Int×Int:=(p.1,p.2.1)
theorem Dq(f:Dt->Bool)(p:Dt):∀qs:List Dt,wq f (qs++[p])=wq f qs+if f p=true then p.2.2.2 else 0
 |[]=>by simp[wq]
 |q::r=>by
  rw[Zf];unfold wq;rw[Dq f p r]
  lia
noncomputable def prs(n:Nat):List (Nat×Nat):=(List.range' 0 n).flatMap λi=>(List.range' (i+1) (n - (i+1))).map λk=>(i,k)
def WI(a:Nat×Nat):D:=.tup [.int a.1,.int a.2]
def MG(h:WI a=WI b):a=b:=by unfold WI at h;grind
theorem Ke(a:Nat×Nat):aU (WI a)=WI a:=rfl
def prO:Option (Nat×Nat)->D
 |none=>.RZ
 |some a=>WI a
def Jn(n:Nat):Uq n 2=(prs n).map λa=>[a.1,a.2]:=by
 have b:Uq n 1=(List.range' 0 n).map λi=>[i]:=by simp[Uq,Wj,eY]
 have a:Uq n 2=(Uq n 1).flatMap (Wj n):=rfl;rw[a,b,List.flatMap_map,prs,List.map_flatMap];congr 1
 funext i
 rw[UC];rfl
theorem CQ{i j:Nat}:(i,j)∈prs n↔i<j/\j<n:=by
 unfold prs;simp only[List.mem_flatMap,List.mem_map,List.mem_range'_1,Prod.mk.injEq];constructor;rintro⟨a,_,b,h,rfl,rfl⟩;lia
 exact λh=>⟨i,by lia,j,by lia,rfl,rfl⟩
def gp(ps:List Dt)(i:Nat):Dt:=ps.getD i (0,0,0,0)
def uT{ps:List Dt}{i:Nat}(h:i<ps.length):ps[i]?=some (gp ps i):=by unfold gp;simp[h]
def mG{ps:List Dt}{i:Nat}(h:i<ps.length):gp ps i∈ps:=UZ (uT h)
def y6{ps:List Dt}{i:Nat}(h:i<ps.length){Q:D->Prop}(q:Q (RG (gp ps i))):∃d,T9 (ps.map RG) (i:Int)=some d/\Q d:=by refine⟨_,?_,q⟩;unfold T9 ixN;rw[RH,Rv (by lia),Rv (by lia)];simp[uT h]
def Og(a b c d:Int):eqD (.tup [.int a,.int b]) (.tup [.int c,.int d])=decide (a=c/\b=d):=by grind [wO,i8,tG,j8]
def AM(a b:Int):Uy 1 (.tup [.int a,.int b]):=Uy.tup (.cons (.int _ _) (.cons (.int _ _) (.nil _)))
def OU(p q:Dt):(!eqD (.tup [.int p.1,.int p.2.1]) (.tup [.int q.1,.int q.2.1]))=decide (TC p≠TC q):=by
 rw[Og];unfold TC
 lia
def sps(ps:List Dt):List (Nat×Nat):=(prs ps.length).filter λa=>decide (TC (gp ps a.1)≠TC (gp ps a.2))
def mQ{a:Nat×Nat}:a∈sps ps↔a.1<a.2/\a.2<ps.length/\TC (gp ps a.1)≠TC (gp ps a.2):=by unfold sps;grind [CQ]
def IX(g f g3:DG)(a b c:D)(ρ:Ro)(Q:Ro->Prop):k8 3 (b9 g (b9 f (b9 g3 k7))) (.tup [a,b,c]) ρ Q=g a ρ λe=>f b e λd=>g3 c d Q:=by rw[Ee 3 _ _ rfl];simp only[gdc,gdn]
def OY(a:Nat×Nat):Uy 1 (WI a):=AM _ _
def ld(a b:Int):Int:=if a=0 then b else a
def EL(x y z:Int):Tr:=(x.fdiv (PM.T4 x y z (ld y z)),y.fdiv (PM.T4 x y z (ld y z)),z.fdiv (PM.T4 x y z (ld y z)))
def lnF(p q:Dt):Tr:=EL (p.1*q.2.1 - q.1*p.2.1) (p.2.1*1 - q.2.1*1) (1*q.1 - 1*p.1)
structure NF(g:Tr):Prop where
 sgn:0<g.2.1∨(g.2.1=0/\0<g.2.2)
 one:PM.g3 g.1 g.2.1 g.2.2=1
structure LF(g:Tr)(p q:Dt):Prop where
 b0:Bd 1000 g.1
 b1:Bd 1000 g.2.1
 b2:Bd 1000 g.2.2
 nf:NF g
 ex:∃m:Int,m≠0/\∀z,gv g.1 g.2.1 g.2.2 z*m=tq p q z
def y9(c:GD p)(b:GD q)(a:TC p≠TC q):LF (lnF p q) p q:=by
 have h:¬(p.2.1*1 - q.2.1*1=0/\1*q.1 - 1*p.1=0):=λf=>(by obtain⟨e,d⟩:=f;exact a (by unfold TC;grind))
 have a:Bd 200 1:=Bd.mono (m:=2) (by unfold Bd;decide) (by decide);have g:=gh (c.x.mono (by lia)) (b.y.mono (by lia)) (b.x.mono (by lia)) (c.y.mono (by lia));have B1:=gh (c.y.mono (by lia)) a (b.y.mono (by lia)) a;have f:=gh a (b.x.mono (by lia)) a (c.x.mono (by lia));have b:∀z:Dt,(p.1*q.2.1 - q.1*p.2.1)+(p.2.1*1 - q.2.1*1)*z.1+(1*q.1 - 1*p.1)*z.2.1=tq p q z:=λz=>by unfold tq;grind
 unfold lnF EL;generalize p.1*q.2.1 - q.1*p.2.1=x at *;generalize p.2.1*1 - q.2.1*1=y at *;generalize 1*q.1 - 1*p.1=w at *;have c:¬(x=0/\y=0/\w=0):=by lia
 have a:∀l,PM.T4 x y w l≠0:=λl=>PM.Aj c
 refine⟨q0 (a _) (PM.rj (PM.nL _ _ _)) g,q0 (a _) (PM.rj (PM.nM _ _ _)) B1,q0 (a _) (PM.rj (PM.nN _ _ _)) f,⟨?_,PM.Hn c⟩,PM.T4 x y w (ld y w),a _,λz=>?_⟩;by_cases i:y=0;unfold ld
 simp_all [PM.w8,PM.nN]
 unfold ld
 simp_all [PM.w8,PM.nM]
 have e:=PM.cK (l:=ld y w) (PM.nL x y w);have d:=PM.cK (l:=ld y w) (PM.nM x y w);have a:=PM.cK (l:=ld y w) (PM.nN x y w);rw[<- b z];unfold gv;rw[Int.add_mul,Int.add_mul,e,Int.mul_right_comm,d,Int.mul_right_comm,a]
structure Mp where
 (a b c d e f:Int)
def wW(ps:List Dt):yat:=(sps ps).map λa=>lnF (gp ps a.1) (gp ps a.2)
def wl(ps:List Dt)(g:Tr)(s:Int):Int:=wt (λ_=>true) g.1 g.2.1 g.2.2 s ps
def wU(p q:Tr):Prop:=p.1<q.1∨(p.1=q.1/\(p.2.1<q.2.1∨(p.2.1=q.2.1/\p.2.2<q.2.2)))
def bO(ys a:yat):Prop:=ys.Pairwise wU/\∀g,g∈ys↔g∈a
def bO.nd(h:bO ys ls):ys.Nodup:=h.1.imp fun {p q} r e=>by subst e;unfold wU at r;lia
def YN(g:Tr):yaf:=[g.1,g.2.1,g.2.2]
def KY(a:yat):(a.map YN).map PD.tupI=a.map RD:=by rw[UC];rfl
def okP(o:Option (Nat×Nat)):Uy 1 (prO o):=by
 cases o with
 |none=>exact Uy.RZ 1
 |some a=>exact OY a
def A7(ps:List Dt)(g:Tr):D:=.tup [RD g,.int (wl ps g (-1)),.int (wl ps g 0),.int (wl ps g 1)]
def Md(e:SW.lexLt (YN g) (YN h)=true):wU g h:=by
 unfold YN SW.lexLt at e;unfold wU;split at e;unfold SW.lexLt at e;split at e;unfold SW.lexLt at e;split at e;cases e
 simp_all
 simp_all
 simp_all
theorem Di(e:YN g=YN h):g=h:=by
 unfold YN at e
 lia
theorem GS:∀{zs:List (yaf)},(∀z∈zs,∃g:Tr,z=YN g)->∃ys:yat,zs=ys.map YN
 |[],_=>⟨[],rfl⟩
 |z::zs,h=>by
  obtain⟨g,e⟩:=h z (by grind);obtain⟨ys,b⟩:=GS λz a=>h z (W4 _ a)
  exact⟨g::ys,by simp_all⟩
def Hm{a:yat}(h:PD.zt zs (a.map YN)):∃ys:yat,zs=ys.map YN/\bO ys a:=by
 obtain⟨c,a⟩:=h;obtain⟨ys,rfl⟩:=GS λz b=>by obtain⟨p,_,e⟩:=S5.mp ((a z).mp b);grind
 refine⟨ys,rfl,(zDE.mp c).imp fun {p q} e=>Md e,λg=>?_⟩;have:=a (YN g);constructor;grind [Di];grind [Di]
def jc(h:bO ys ls):ys.length<=ls.length:=by have a:=h.nd;exact tP a λg a=>(h.2 g).mp a
def CN(ps:List Dt):(wW ps).length<=ps.length*ps.length:=by
 unfold wW sps;rw[RH];refine Sd (List.length_filter_le _ _) ?_;have e:=mM ps.length 2
 simp_all [Jn,RH,Nat.pow_two]
abbrev Wy:=Int×Int
def QF(a b:Wy):tn a (SO b)=- tn a b:=by unfold tn SO;grind
theorem kT(a b:Wy):tn (SO a) b=- tn a b:=by unfold tn SO;grind
def HI(a b c:Wy):tn (a.1+b.1,a.2+b.2) c=tn a c+tn b c:=by unfold tn;grind
def Dg(w p n o:Wy):tn w n*tn p o=tn w p*tn n o+tn w o*tn p n:=by unfold tn;grind
def KW{w:Wy}(h:w≠(0,0)):0<tn w (S7 w):=by
 unfold tn S7;obtain⟨a,b⟩:=w;have e:a*a - -b*b=a*a+b*b:=by grind
 rw[e];have g:=sqn a;have f:=sqn b;by_cases d:a=0;by_cases c:b=0
 lia
 have:b*b≠0:=by simp_all
 omega;have:a*a≠0:=by simp_all
 omega
def kG(w n o:Wy):Wy:=if 0<tn w o/\0<tn o n then o else n
def ZX(w:Wy)(ws:List Wy):Wy:=ws.foldl (kG w) (S7 w)
theorem KJ:∀(ws done:List Wy) (n:Wy),0<tn w n->(∀o∈done,0<tn w o->tn o n<=0)->0<tn w (ws.foldl (kG w) n)/\∀o∈done++ws,0<tn w o->tn o (ws.foldl (kG w) n)<=0
 |[],done,n,f,e=>by simp_all
 |o::ws,done,n,f,e=>by
  have a:0<tn w (kG w n o)/\∀p∈done++[o],0<tn w p->tn p (kG w n o)<=0:=by
   unfold kG;by_cases c:0<tn w o/\0<tn o n;rw[Rv c];refine⟨c.1,λp b d=>?_⟩;rcases Ta.mp b with b|b;have g:=e p b d;have j:=Dg w p n o;have b:tn n o<0:=by grind [bQ]
   have i:tn w p*tn n o<0:=XA d b;have h:tn w o*tn p n<=0:=zCD (Tb c.1) g;by_cases z:tn p o<=0;exact z;have:=Wl f (show 0<tn p o by lia)
   lia
   simp_all [kj]
   rw[if_neg c];grind
  have:=KJ ws (done++[o]) (kG w n o) a.1 a.2
  simp_all
def Ep{w:Wy}(h:w≠(0,0)):0<tn w (ZX w ws)/\∀o∈ws,0<tn w o->tn o (ZX w ws)<=0:=by exact KJ ws [] (S7 w) (KW h) (by simp)
def Xf(w:Wy)(ws:List Wy):Wy:=(w.1+(ZX w ws).1,w.2+(ZX w ws).2)
noncomputable def R8(h:Tr)(p:Dt):Wy:=(h.1*p.1 - h.2.1,h.1*p.2.1 - h.2.2)
def Yp(h:Tr)(ps:List Dt):List Wy:=(ps.map (R8 h)).filter λw=>decide (w≠(0,0))
def Tn(h:Tr)(ps:List Dt):List Wy:=Yp h ps++(Yp h ps).map SO
def vY{w:Wy}(a:w∈Yp h ps):w≠(0,0):=by
 have:=(Yf.mp a).2
 lia
def Ny{w:Wy}(h:w≠(0,0)):SO w≠(0,0):=λe=>h (by unfold SO at e;grind)
def eT{w:Wy}(a:w∈Tn h ps):w≠(0,0):=by
 rcases Ta.mp a with z|z;exact vY z;obtain⟨v,hv,rfl⟩:=S5.mp z;exact Ny (vY hv)
def Nx(w:Wy):SO (SO w)=w:=by unfold SO;lia
theorem nh{ps:List Dt}{p:Dt}(b:p∈ps)(a:R8 h p≠(0,0)):R8 h p∈Tn h ps/\SO (R8 h p)∈Tn h ps:=by have:R8 h p∈Yp h ps:=Yf.mpr (by grind);exact⟨XM _ this,Wf _ (by grind)⟩
def LN{w:Wy}{p:Dt}(c:w∈Tn h ps)(d:p∈ps)(a:0<=tn (Xf w (Tn h ps)) (R8 h p)):0<=tn w (R8 h p):=by
 obtain⟨f,b⟩:=Ep (ws:=Tn h ps) (eT c);unfold Xf at a;rw[HI]at a;by_cases z:0<=tn w (R8 h p);exact z;have a:R8 h p≠(0,0):=λe=>by rw[e]at z;unfold tn at z;simp at z
 have c:=(nh d a).2;have a:=b _ c (by rw[QF];lia);rw[kT]at a;have:=bQ (ZX w (Tn h ps)) (R8 h p)
 lia
def UY(g:Tr)(ps:List Dt):Int:=(ps.map λp=>if 0<=gv g.1 g.2.1 g.2.2 p then p.2.2.2 else 0).sum
def X7(h:Tr)(f:Wy):Tr:=(-((S7 f).1*h.2.1+(S7 f).2*h.2.2),(S7 f).1*h.1,(S7 f).2*h.1)
def KG(h:Tr)(f:Wy)(p:Dt):gv (X7 h f).1 (X7 h f).2.1 (X7 h f).2.2 p=tn f (R8 h p):=by unfold gv X7 S7 tn R8;grind
def EK{ps:List Dt} [DecidablePred P] [DecidablePred Q]:(∀p∈ps,0<=p.2.2.2)->(∀p∈ps,P p->Q p)->(ps.map λp=>if P p then p.2.2.2 else 0).sum<=(ps.map λp=>if Q p then p.2.2.2 else 0).sum:=by
 induction ps with
 |nil=>simp_all
 |cons p ps ih =>
  intro c b;rw[VS,VS,zCo,zCo];have i:=ih (λq a=>c q (by simp[a])) λq a=>b q (by simp[a])
  grind
def IsL(h:Tr)(ps:List Dt)(g:Tr):Prop:=(Tn h ps=[]/\g=(-(1*h.2.1+0*h.2.2),1*h.1,0*h.1)) ∨
 ∃ (i:Nat) (w:Wy),(Tn h ps)[i]?=some w/\g=X7 h (Xf w (Tn h ps))/\∀(j:Nat) (v:Wy),(Tn h ps)[j]?=some v->UY g ps<=UY (X7 h (Xf v (Tn h ps))) ps/\(j<i->UY g ps<UY (X7 h (Xf v (Tn h ps))) ps)
def IsL.on(a:IsL h ps g):g.1*h.1+g.2.1*h.2.1+g.2.2*h.2.2=0:=by
 rcases a with⟨_,rfl⟩| ⟨i,w,_,rfl,_⟩;grind;unfold X7;grind
def IsL.ne{h:Tr}(hh:0<h.1)(a:IsL h ps g):¬(g.2.1=0/\g.2.2=0):=by
 rcases a with⟨_,rfl⟩| ⟨i,w,c,rfl,_⟩
 lia
 ·intro ⟨a,d⟩;have b:=UZ c;obtain⟨c,_⟩:=Ep (ws:=Tn h ps) (eT b);unfold X7 S7 at a d;have b:(Xf w (Tn h ps)).2=0:=by
   rcases VQ.mp a with z|z
   all_goals lia
  have a:(Xf w (Tn h ps)).1=0:=by
   rcases VQ.mp d with z|z
   all_goals simp_all
  unfold Xf at b a;dsimp only at b a;have e:tn w (ZX w (Tn h ps))=tn w (w.1+(ZX w (Tn h ps)).1,w.2+(ZX w (Tn h ps)).2):=by unfold tn;grind
  rw[e,b,a]at c;unfold tn at c;simp at c
structure HB(h:Tr):Prop where
 pos:0<h.1
 a:Bd 130 h.1
 b:Bd 130 h.2.1
 c:Bd 130 h.2.2
structure WBh(w:Wy):Prop where
 a:Bd 191 w.1
 b:Bd 191 w.2
def cmb(b:Bd m x)(a:Bd n y)(d:m<=100000:=by decide)(c:n<=100000:=by decide):CM x y:=.inr (.inr ⟨b.mono d,a.mono c⟩)
def WBh.ar(H:HB h)(G:GD p):WBh (R8 h p):=⟨(H.a.mul G.x).sub (H.b.mono (by decide)),(H.a.mul G.y).sub (H.c.mono (by decide))⟩
def HJ(w n a:Wy):tn n a*Rp w w=tn n w*Rp w a+Rp n w*tn w a:=by unfold tn Rp;grind
def lg{w:Wy}(b:w≠(0,0))(h:tn w a=0):(0<Rp w a->0<tn w n->tn n a<0)/\(Rp w a<0->0<tn w n->0<tn n a)/\(0<Rp w a->tn w n<0->0<tn n a)/\(Rp w a<0->tn w n<0->tn n a<0):=by have e:=HJ w n a;rw[h,XC,VU]at e;have p:=gG b;have q:=bQ n w;refine⟨λb c=>?_,λb c=>?_,λb c=>?_,λb c=>?_⟩;have:=Yc (show tn n w<0 by lia) b;by_cases z:tn n a<0;exact z;have:=Tw (show 0<=tn n a by lia) (Tb p);lia;have:=zBY (show tn n w<0 by lia) b;by_cases z:0<tn n a;exact z;have:=zA7 (show tn n a<=0 by lia) (Tb p);lia;have:=Wl (show 0<tn n w by lia) b;by_cases z:0<tn n a;exact z;have:=zA7 (show tn n a<=0 by lia) (Tb p);lia;have:=XA (show 0<tn n w by lia) b;by_cases z:tn n a<0;exact z;have:=Tw (show 0<=tn n a by lia) (Tb p);lia
def AU{w a:Wy}(b:w≠(0,0))(c:a≠(0,0))(h:tn w a=0):Rp w a≠0:=λz=>by
 have e:=HJ w (S7 a) a;rw[h,z,XC,XC,VU]at e;have p:=gG b;have q:=KW c;have r:=bQ (S7 a) a;rcases VQ.mp e with y|y<;>lia
def aL(v a:Wy):Prop:=0<tn v a
def aR(v a:Wy):Prop:=tn v a<0
def aB(v a:Wy):Prop:=tn v a=0/\Rp v a<0
def aA(v a:Wy):Prop:=tn v a=0/\¬Rp v a<0/\a≠(0,0)
instance (v a:Wy):Decidable (aL v a):=inferInstanceAs (Decidable (0<tn v a))
instance (v a:Wy):Decidable (aR v a):=inferInstanceAs (Decidable (tn v a<0))
instance (v a:Wy):Decidable (aB v a):=inferInstanceAs (Decidable (tn v a=0/\Rp v a<0))
instance (v a:Wy):Decidable (aA v a):=inferInstanceAs (Decidable (tn v a=0/\¬Rp v a<0/\a≠(0,0)))
def Gb{w:Wy}{p:Dt}(a:w∈Tn h ps)(c:p∈ps):0<=tn (Xf w (Tn h ps)) (R8 h p)↔R8 h p=(0,0)∨aL w (R8 h p)∨aB w (R8 h p):=by
 obtain⟨d,j⟩:=Ep (ws:=Tn h ps) (eT a);have b:=LN a c;by_cases z:R8 h p=(0,0);rw[z];constructor
 simp_all
 unfold tn;simp;have e:=(nh c z).1;unfold Xf at b ⊢;rw[HI]at b ⊢;have k:=bQ (ZX w (Tn h ps)) (R8 h p);constructor;intro q;have g:=b q;by_cases y:0<tn w (R8 h p);exact .inr (.inl y);have b:tn w (R8 h p)=0:=by lia
 have ps:=lg (n:=ZX w (Tn h ps)) (eT a) b;have i:=AU (eT a) z b;refine .inr (.inr ⟨b,?_⟩)
 lia
 rintro(y|y|⟨c,b⟩)
 simp_all
 have f:0<tn w (R8 h p):=y;grind;have:=(lg (n:=ZX w (Tn h ps)) (eT a) c).2.1 b d
 lia
def sm(P:Wy->Prop) [DecidablePred P] (h:Tr)(ps:List Dt):Int:=(ps.map λp=>if P (R8 h p)then p.2.2.2 else 0).sum
def zc [DecidablePred P] [DecidablePred Q] {ps:List Dt} (b:∀p∈ps,0<=p.2.2.2) (a:∀p∈ps,P (R8 h p)->Q (R8 h p)):sm P h ps<=sm Q h ps:=EK b a
def kO [DecidablePred P] [DecidablePred Q] {ps:List Dt} (a:∀p∈ps,P (R8 h p)↔Q (R8 h p)):sm P h ps=sm Q h ps:=by
 unfold sm;congr 1
 simp_all
def zd [DecidablePred P] [DecidablePred Q] [DecidablePred R] {ps:List Dt} (e:∀p∈ps,R (R8 h p)↔P (R8 h p)∨Q (R8 h p)) (d:∀p∈ps,¬(P (R8 h p)/\Q (R8 h p))):sm R h ps=sm P h ps+sm Q h ps:=by
 induction ps with
 |nil=>rfl
 |cons p ps ih =>
  have:=ih (by simp_all) (by simp_all);unfold sm at this ⊢;rw[VS,VS,VS,zCo,zCo,zCo,this];grind
def aZ(a:Wy):Prop:=a=(0,0)
instance (a:Wy):Decidable (aZ a):=inferInstanceAs (Decidable (a=(0,0)))
theorem yZ(h:aL v a):a≠(0,0):=λz=>by subst z;unfold aL tn at h;simp at h
def uB(h:aB v a):a≠(0,0):=λz=>by have:=h.2;unfold Rp at this;simp_all
def p6{w:Wy}(c:w∈Tn h ps):UY (X7 h (Xf w (Tn h ps))) ps=sm aZ h ps+(sm (aL w) h ps+sm (aB w) h ps):=by
 have e:UY (X7 h (Xf w (Tn h ps))) ps=sm (λa=>0<=tn (Xf w (Tn h ps)) a) h ps:=by
  unfold UY sm
  simp_all [KG]
 have d:sm (λa=>aL w a∨aB w a) h ps=sm (aL w) h ps+sm (aB w) h ps:=zd (by lia) λp _ ⟨b,a⟩=>by
  have:=a.1;have:0<tn w (R8 h p):=b
  lia
 rw[e,<- d];refine zd (λp d=>Gb c d) λp _ c=>?_
 obtain⟨b,a⟩:=c;rcases a with a|a;exact yZ a b;exact uB a b
theorem vw(w:Wy):∀ws:List Wy,(∃o∈ws,tn w o<0)->∃n∈ws,tn w n<0/\∀o∈ws,tn w o<0->tn n o<=0
 |[],h=>by simp_all
 |o::ws,h=>by
  by_cases t:∃q∈ws,tn w q<0;obtain⟨n,f,d,e⟩:=vw w ws t;by_cases c:tn w o<0/\0<tn n o;refine⟨o,by simp,c.1,λp b a=>?_⟩;rcases Tx.mp b with z|z
  simp_all [kj]
  have g:=e p z a;have k:=Dg w o n p;have c:tn o n<0:=by grind [bQ]
  have j:0<=tn w o*tn n p:=zBT (by lia) g;have i:0<tn w p*tn o n:=zBY a c;by_cases y:tn o p<=0;exact y;have:=Yc d (show 0<tn o p by lia)
  lia
  refine⟨n,by simp[f],d,λp b a=>?_⟩;grind;obtain⟨q,c,a⟩:=h;rcases Tx.mp c with z|z;subst z;refine⟨q,by simp,a,λp b c=>?_⟩;rcases Tx.mp b with y|y
  simp_all [kj]
  exact absurd ⟨p,y,c⟩ t;exact absurd ⟨q,z,a⟩ t
def y3{w:Wy}(a:w∈Tn h ps):SO w∈Tn h ps:=by
 rcases Ta.mp a with z|z;exact Wf _ (by grind);obtain⟨v,hv,rfl⟩:=S5.mp z;rw[Nx];exact XM _ hv
theorem uN(a b:Wy):Rp (SO a) b=- Rp a b:=by unfold Rp SO;grind
def sD{ps:List Dt}{w:Wy}(g:∀p∈ps,0<=p.2.2.2)(f:w∈Tn h ps):∃v∈Tn h ps,UY (X7 h (Xf v (Tn h ps))) ps<=sm aZ h ps+(sm (aL w) h ps+sm (aA w) h ps):=by
 have l:=eT f;have i:sm (λa=>aL w a∨aA w a) h ps=sm (aL w) h ps+sm (aA w) h ps:=zd (by lia) λp _ ⟨c,b⟩=>by
  have:=b.1;have:0<tn w (R8 h p):=c
  lia
 by_cases t:∃o∈Tn h ps,tn w o<0;obtain⟨n,d,m,e⟩:=vw w _ t;refine⟨n,d,?_⟩;have j:=eT d;rw[p6 d,<- i];have d:sm (λa=>aL n a∨aB n a) h ps=sm (aL n) h ps+sm (aB n) h ps:=zd (by lia) λp _ ⟨c,b⟩=>by
  have:=b.1;have:0<tn n (R8 h p):=c
  lia
 rw[<- d];refine Int.add_le_add_left (zc g λp i q=>?_) _;have a:R8 h p≠(0,0):=q.elim yZ uB;have d:=(nh i a).1;by_cases k:0<tn w (R8 h p);exact .inl k;by_cases k:tn w (R8 h p)<0;have r:=e _ d k;rcases q with q|⟨d,e⟩;have:0<tn n (R8 h p):=q;lia
 -- parallel to n and against it,yet on the same side of w
 have k:=bQ n w;have:=(lg (n:=w) j d).2.1 e (by lia)
 lia
 have j:tn w (R8 h p)=0:=by lia
 refine .inr ⟨j,λz=>?_,a⟩;have:=(lg (n:=n) l j).2.2.2 z m;rcases q with q|⟨d,_⟩;have:0<tn n (R8 h p):=q;lia
 lia
 refine⟨SO w,y3 f,?_⟩;rw[p6 (y3 f)];have c:sm (aL (SO w)) h ps<=sm (aL w) h ps:=zc g λp i q=>by have a:0<tn (SO w) (R8 h p):=q;rw[kT]at a;grind [nh,yZ]
 have b:sm (aB (SO w)) h ps<=sm (aA w) h ps:=zc g λp i q=>by obtain⟨d,e⟩:=id q;rw[kT]at d;rw[uN]at e;exact⟨by lia,by lia,uB q⟩
 lia
def ZY(h:Tr)(ps:List Dt)(v:Wy):Int:=min (sm (aA v) h ps) (sm (aB v) h ps)+min (sm (aL v) h ps) (sm (aR v) h ps)
def PU(h:aA v a):a≠(0,0):=h.2.2
def PV(h:aR v a):a≠(0,0):=λz=>by subst z;unfold aR tn at h;simp at h
def IA(v a:Wy):aL (SO v) a↔aR v a:=by unfold aL aR;rw[kT];lia
def Nz{v:Wy}(hv:v≠(0,0)):aB (SO v) a↔aA v a:=by constructor;intro q;have c:=uB q;obtain⟨a,b⟩:=q;rw[kT]at a;rw[uN]at b;exact⟨by lia,by lia,c⟩;rintro⟨a,b,b⟩;have:=AU hv b a;exact⟨by grind [kT],by grind [uN]⟩
def QW{v:Wy}(hv:v≠(0,0))(q:aA (SO v) a):aB v a:=by
 obtain⟨d,c,b⟩:=q;rw[kT]at d;rw[uN]at c;have e:tn v a=0:=by omega
 have:=AU hv b e;exact⟨e,by omega⟩
def IsL.le{ps:List Dt}(b:∀p∈ps,0<=p.2.2.2)(a:IsL h ps g){v:Wy}(hv:v∈Tn h ps):UY g ps<=UY (X7 h (Xf v (Tn h ps))) ps:=by
 rcases a with⟨z,_⟩| ⟨i,w,f,e,a⟩
 simp_all
 obtain⟨j,c,d⟩:=XN hv;exact(a j v (by simp_all)).1
def IsL.lt_{ps:List Dt}(d:∀p∈ps,0<=p.2.2.2)(a:IsL h ps g){v:Wy}(hv:v∈Yp h ps):UY g ps<=sm aZ h ps+ZY h ps v:=by
 have b:v∈Tn h ps:=XM _ hv;have c:=y3 b;have e:=eT b;have f:=a.le d b;rw[p6 b]at f;have f:=a.le d c;rw[p6 c,kO (P:=aL (SO v)) (Q:=aR v) (λp _=>IA v _),kO (P:=aB (SO v)) (Q:=aA v) (λp _=>Nz e)]at f;obtain⟨u,f,g⟩:=sD d b;have i:=zDI (a.le d f) g;obtain⟨t,f,g⟩:=sD d c;have b:=zDI (a.le d f) g;rw[kO (P:=aL (SO v)) (Q:=aR v) (λp _=>IA v _)]at b;have j:sm (aA (SO v)) h ps<=sm (aB v) h ps:=zc d λp _ q=>QW e q
 unfold ZY
 lia
def IsL.eq_{ps:List Dt}(b:∀p∈ps,0<=p.2.2.2)(a:IsL h ps g)(f:Yp h ps ≠ []):∃v∈Yp h ps,UY g ps=sm aZ h ps+ZY h ps v:=by
 have c:=a;rcases a with⟨z,_⟩| ⟨i,w,e,d,j⟩;unfold Tn at z
 simp_all
 have a:=UZ e;have e:=p6 a;rw[<- d]at e;rcases Ta.mp a with z|z;refine⟨w,z,?_⟩;have:=c.lt_ b z;unfold ZY at this ⊢
 lia
 obtain⟨v,hv,rfl⟩:=S5.mp z;refine⟨v,hv,?_⟩;have:=c.lt_ b hv;rw[kO (P:=aL (SO v)) (Q:=aR v) (λp _=>IA v _),kO (P:=aB (SO v)) (Q:=aA v) (λp _=>Nz (vY hv))]at e;unfold ZY at this ⊢
 exact Int.le_antisymm this (by rw[e];exact Int.add_le_add_left (Int.le_trans (Int.add_le_add (Int.min_le_left ..) (Int.min_le_right ..)) (Int.le_of_eq (Int.add_comm ..))) _)
def IsL.none_(a:IsL h ps g)(d:Yp h ps=[]):UY g ps=sm aZ h ps:=by
 have c:∀p∈ps,R8 h p=(0,0):=λp b=>by by_cases z:R8 h p=(0,0);exact z;have:R8 h p∈Yp h ps:=Yf.mpr (by grind);grind
 rcases a with⟨_,rfl⟩| ⟨i,w,a,_⟩;unfold UY sm;congr 1;apply zDR;intro p b;have e:=c p b;rw[Rv (show aZ (R8 h p)from e),Rv];unfold R8 at e;unfold gv
 lia
 unfold Tn at a
 simp_all
def ki(P:Wy->Prop) [DecidablePred P] (h:Tr)(ps:List Dt)(p:Dt):sm P h (ps++[p])=sm P h ps+if P (R8 h p)then p.2.2.2 else 0:=by
 unfold sm
 simp_all
def V8(h:Tr)(ps:List Dt):List Dt:=ps.filter λp=>decide (R8 h p≠(0,0))
theorem vN [DecidablePred P] (b:∀a,P a->a≠(0,0)) (h:Tr):∀ps:List Dt,sm P h (V8 h ps)=sm P h ps
 |[]=>rfl
 |p::ps=>by
  have ih:=vN b h ps;unfold sm V8 at ih ⊢;by_cases z:R8 h p=(0,0);grind
  simp_all
def Er(h:Tr)(ps:List Dt):(V8 h ps).map (R8 h)=Yp h ps:=by unfold V8 Yp;rw[List.filter_map];rfl
def IL{ps:List Dt}{m:Int}(b:∀p∈ps,0<=p.2.2.2)(a:IsL h ps g)(c:∃v∈Yp h ps,m=ZY h ps v)(f:∀v∈Yp h ps,m<=ZY h ps v):sm aZ h ps+m=UY g ps:=by obtain⟨v,hv,e⟩:=c;obtain⟨u,d,i⟩:=a.eq_ b (by grind);have:=a.lt_ b hv;grind
def Yq(h:Tr)(p:Dt):D:=.tup [.int (R8 h p).1,.int (R8 h p).2,.int p.2.2.2]
def Jy(ps:List Dt)(z:R8 h p=(0,0)):V8 h (ps++[p])=V8 h ps:=by
 unfold V8
 simp_all
def Jz(ps:List Dt)(z:R8 h p≠(0,0)):V8 h (ps++[p])=V8 h ps++[p]:=by
 unfold V8
 simp_all
def GQ(h:Tr)(ps:List Dt):(V8 h ps).length<=ps.length:=List.length_filter_le _ _
def gd(g:Tr)(p:Dt):Int:=gv g.1 g.2.1 g.2.2 p
theorem cW(g:Tr)(p:Dt):gd g p=g.1+g.2.1*p.1+g.2.2*p.2.1:=rfl
def KC(g:Tr)(p:Dt):Rl g (sT (TC p))=gd g p:=by unfold Rl sT TC gd gv;grind
def Vz(g:Tr):Tr:=(-g.1,-g.2.1,-g.2.2)
def y4(g:Tr)(p:Dt):gd (Vz g) p=- gd g p:=by unfold gd Vz gv;grind
def df(d p:Dt):Sp:=(p.1 - d.1,p.2.1 - d.2.1)
theorem gf{f g:Dt->Bool}:∀{ps:List Dt},(∀p∈ps,0<=p.2.2.2)->(∀p∈ps,f p=true->g p=true)->wq f ps<=wq g ps
 |[],_,_=>W9 _
 |p::r,b,h=>by
  have i:=gf (λq a=>b q (W4 _ a)) λq a=>h q (by simp_all)
  have d:=h p (by simp);have c:=b p (by simp);unfold wq
  lia
theorem Fd:∀ps:List Dt,wq (λ_=>false) ps=0
 |[]=>rfl
 |_::r=>(zDW _).trans (Fd r)
def K4{ps:List Dt}(a:∀p∈ps,0<=p.2.2.2):0<=wq f ps:=by
 have:=gf (f:=λ_=>false) (g:=f) a (by lia)
 simp_all [Fd]
theorem K3:∀{ps:List Dt},0<wq f ps->∃p∈ps,f p=true
 |[],h=>absurd (show(0:Int)<0 from h) (by decide)
 |p::r,h=>by
  by_cases c:f p=true;grind;unfold wq at h
  simp_all [zDW,K3]
theorem AJ{c:Type}(f:c->Int)(P:c->Prop):∀{l:List c},(∃a∈l,P a)->∃a∈l,P a/\∀b∈l,P b->f a<=f b
 |[],h=>by simp_all
 |x::r,h=>by by_cases c:∃a∈r,P a;obtain⟨a,g,d,e⟩:=AJ f P c;grind;grind
def quant{ps:List Dt}(h:∀p∈ps,0<=p.2.2.2){w:Int}(a:0<w)(i:w<=wq (λp=>decide (gd g p<0)) ps) :
  ∃ d∈ps,gd g d<0/\w<=wq (λp=>decide (gd g p<=gd g d)) ps/\wq (λp=>decide (gd g p<gd g d)) ps<w:=by
 have b:∀c:Int,w<=wq (λp=>decide (gd g p<c)) ps->∃d∈ps,gd g d<c/\w<=wq (λp=>decide (gd g p<=gd g d)) ps:=λc e=>by obtain⟨l,j,t⟩:=K3 (Int.lt_of_lt_of_le a e);obtain⟨d,a,k,f⟩:=AJ (λp=>- gd g p) (λp=>gd g p<c) ⟨l,j,by simp_all⟩;refine⟨d,a,k,zDI e (gf h λp s q=>?_)⟩;grind
 obtain⟨j,c,n,h⟩:=b 0 i;obtain⟨d,a,e,f⟩:=AJ (gd g) (λd=>w<=wq (λp=>decide (gd g p<=gd g d)) ps) ⟨j,c,h⟩;refine⟨d,a,by grind,e,VH.mp λz=>?_⟩;obtain⟨u,o,m,r⟩:=b _ z;grind
structure Cd(L:yat)(d:Dt)(m:Sp)(r:Tr):Prop where
 mem:r∈L∨Vz r∈L
 ex:∃k:Int,0<k/\r.2.1*k=m.1/\r.2.2*k=m.2/\gd r d=0
def Cd.at_(c:Cd L d m r):∃k:Int,0<k/\(∀p:Dt,gd r p*k=Rp m (df d p))/\∀h:Tr,Rl r h*k=Rp m (h.2.1 - h.1*d.1,h.2.2 - h.1*d.2.1):=by
 obtain⟨k,e,b,a,f⟩:=c.ex;rw[cW]at f;have c:r.1=- (r.2.1*d.1+r.2.2*d.2.1):=by lia
 refine⟨k,e,λp=>?_,λh=>?_⟩;rw[cW,c];unfold Rp df;rw[<- b,<- a];grind;unfold Rl Rp;rw[c,<- b,<- a];grind
def Cd.neg(c:Cd L d m r):Cd L d (-m.1,-m.2) (Vz r):=by obtain⟨k,a,d,b,e⟩:=c.ex;refine⟨c.mem.elim (λz=>.inr ?_) .inl,k,a,?_,?_,by simp_all [y4]⟩;show(- -r.1,- -r.2.1,- -r.2.2)∈L;grind;show -r.2.1*k=-m.1;rw[Vj,d];show -r.2.2*k=-m.2;rw[Vj,b]
def wM(h:tn v m=0):Rp v v*Rp m u=Rp v m*Rp v u:=by
 have:Rp v v*Rp m u=Rp v m*Rp v u+tn v m*tn v u:=by unfold Rp tn;grind
 simp_all
def vL{a b x y:Int}(d:0<a)(c:0<b)(e:a*x=b*y):(0<=y->0<=x)/\(y<=0->x<=0)/\(y<0->x<0):=by
 refine⟨λh=>?_,λh=>?_,λh=>?_⟩;have:=Tw (Tb c) h;exact XR.mp λz=>by have:=XA d z;lia
 have:=zCD (Tb c) h;exact XR.mp λz=>by have:=Wl d z;lia
 have:=XA c h;exact VH.mp λz=>by have:=Tw (Tb d) z;lia
def pZ(v u:Sp):tn v (S7 u)=Rp v u:=by unfold tn S7 Rp;grind
def x9(t:Sp)(V:yas)(h:∃v∈V,tn t v<0):∃v∈V,tn t v<0/\∀w∈V,tn t w<0->tn v w<=0:=by
 have e:∀a b:Sp,tn (a.1,-a.2) (b.1,-b.2)=- tn a b:=λa b=>by unfold tn;grind
 obtain⟨v,hv,i⟩:=h;obtain⟨u,f,c,b⟩:=nK (t.1,-t.2) (V.map λv=>(v.1,-v.2)) ⟨_,S5.mpr ⟨v,hv,rfl⟩,by simp_all⟩;obtain⟨d,a,rfl⟩:=S5.mp f;rw[e]at c;refine⟨d,a,by lia,λw a g=>?_⟩;have:=b _ (S5.mpr ⟨w,a,rfl⟩) (by simp_all)
 simp_all
def Pm{ps:List Dt}(i:∀p∈ps,0<=p.2.2.2)(j:∀d∈ps,(∃r,Cd L d (1,0) r)/\(∃r,Cd L d (0,1) r)/\∀p∈ps,df d p≠(0,0)->∃r,Cd L d (S7 (df d p)) r)
  {h:Tr} (k:vc g≠(0,0)) (h0:0<h.1) (c:Rl g h=0) {w:Int} (a:0<w) (e:w<=wq (λp=>decide (gd g p<0)) ps) :
  ∃ r,(r∈L∨Vz r∈L)/\wq (λp=>decide (0<gd r p)) ps<w/\w<=wq (λp=>decide (0<=gd r p)) ps/\Rl r h<0:=by
 obtain⟨d,b,f,A,u⟩:=quant i a e;obtain⟨⟨t,cx⟩,⟨o,n⟩,M⟩:=j d b;generalize hv:((-g.2.1,-g.2.2):Sp)=v;have b:v.1=-g.2.1:=by rw[<- hv]
 have a:v.2=-g.2.2:=by rw[<- hv]
 have j:v≠(0,0):=λz=>k (by rw[z]at b a;unfold vc;rw[show g.2.1=0 by have:(0:Int)=-g.2.1:=b;lia,show g.2.2=0 by have:(0:Int)=-g.2.2:=a;lia])
 have H:=sq_pos j;have l:∀p:Dt,Rp v (df d p)=gd g d - gd g p:=λp=>by rw[cW,cW];unfold Rp df;rw[b,a];grind
 have J:Rp v (h.2.1 - h.1*d.1,h.2.2 - h.1*d.2.1)<0:=by
  have e:Rp v (h.2.1 - h.1*d.1,h.2.2 - h.1*d.2.1)=h.1*gd g d - Rl g h:=by rw[cW];unfold Rp Rl;rw[b,a];grind
  rw[e,c,Int.sub_zero];exact XA h0 f
 generalize hq:((h.2.1 - h.1*d.1,h.2.2 - h.1*d.2.1):Sp)=q at J;have s:∀(m:Sp) (r:Tr),Cd L d m r->(∀p∈ps,(0<=Rp v (df d p)->0<=Rp m (df d p))/\(Rp v (df d p)<=0->Rp m (df d p)<=0))->Rp m q<0 →
   ∃ r,(r∈L∨Vz r∈L)/\wq (λp=>decide (0<gd r p)) ps<w/\w<=wq (λp=>decide (0<=gd r p)) ps/\Rl r h<0:=λm r c b f=>by
  obtain⟨k,a,O,N⟩:=c.at_;have C:∀p,(0<=Rp m (df d p)->0<=gd r p)/\(Rp m (df d p)<=0->gd r p<=0):=λp=>by have:=vL (x:=gd r p) (y:=Rp m (df d p)) a (show(0:Int)<1 by decide) (by rw[VG,O p,YY]);exact⟨this.1,this.2.1⟩
  have I:=(vL (x:=Rl r h) (y:=Rp m q) a (show(0:Int)<1 by decide) (by rw[VG,N h,YY,hq])).2.2 f;refine⟨r,c.mem,Int.lt_of_le_of_lt (gf i λp f z=>?_) u,zDI A (gf i λp f z=>?_),I⟩;have a:=XO z;refine U5 (VH.mp λy=>?_);have:=(C p).2 ((b p f).2 (by rw[l p];lia))
  lia
  have a:=XO z;exact U5 ((C p).1 ((b p f).1 (by rw[l p];lia)))
 generalize hV:([(1,0),(-1,0),(0,1),(0,-1)]++(ps.filter λp=>decide (df d p≠(0,0))).flatMap λp=>[S7 (df d p),SO (S7 (df d p))]:yas)=V;have G:(1,0)∈V:=by rw[<- hV];simp
 have l:(-1,0)∈V:=by rw[<- hV];simp
 have w:(0,1)∈V:=by rw[<- hV];simp
 have h:(0,-1)∈V:=by rw[<- hV];simp
 have B:∀p∈ps,df d p≠(0,0)->S7 (df d p)∈V/\SO (S7 (df d p))∈V:=λp f b=>by
  have m:p∈ps.filter λp=>decide (df d p≠(0,0)):=Yf.mpr ⟨f,U5 b⟩
  rw[<- hV];exact⟨Wf _ (zCJ.mpr ⟨p,m,by simp⟩),Wf _ (zCJ.mpr ⟨p,m,by simp⟩)⟩
 have E:∀m∈V,(∃r,Cd L d m r)/\SO m∈V:=λm f=>by
  have a:=f;rw[<- hV]at a;rcases Ta.mp a with z|z;simp only[Tx,zCL,or_false]at z;rcases z with rfl|rfl|rfl|rfl;exact⟨⟨t,cx⟩,l⟩;exact⟨⟨_,cx.neg⟩,G⟩;exact⟨⟨o,n⟩,h⟩;exact⟨⟨_,n.neg⟩,w⟩;obtain⟨p,i,x⟩:=zCJ.mp z;obtain⟨a,g⟩:=Yf.mp i;have b:=XO g;obtain⟨r,c⟩:=M p a b;obtain⟨o,n⟩:=B p a b;simp only[Tx,zCL,or_false]at x;rcases x with rfl|rfl;exact⟨⟨r,c⟩,n⟩;refine⟨⟨_,c.neg⟩,?_⟩;have e:SO (SO (S7 (df d p)))=S7 (df d p):=by unfold SO S7;simp
  rw[e];exact o
 by_cases A:∃m∈V,tn v m=0/\0<Rp v m;obtain⟨m,f,t,a⟩:=A;obtain⟨⟨r,c⟩,_⟩:=E m f;refine s m r c (λp _=>?_) ?_;have:=vL H a (wM (u:=df d p) t);exact⟨this.1,this.2.1⟩;exact(vL H a (wM (u:=q) t)).2.2 J;have g:∀m∈V,tn v m=0->¬0<Rp v m:=λm f t a=>A ⟨m,f,t,a⟩
 have M:tn v (1,0)=-v.2:=by unfold tn;grind
 have A:tn v (0,1)=v.1:=by unfold tn;grind
 have dx:Rp v (1,0)=v.1:=by unfold Rp;grind
 have L:Rp v (-1,0)=-v.1:=by unfold Rp;grind
 have T:Rp v (0,1)=v.2:=by unfold Rp;grind
 have k:Rp v (0,-1)=-v.2:=by unfold Rp;grind
 have r:tn v (-1,0)=v.2:=by unfold tn;grind
 have i:tn v (0,-1)=-v.1:=by unfold tn;grind
 have Y:v.1≠0:=λz=>by have a:=g _ w (by rw[A];exact z);have b:=g _ h (by rw[i,z];rfl);rw[T]at a;rw[k]at b;exact j (Prod.ext z (show v.2=0 by lia))
 have U:v.2≠0:=λz=>by have a:=g _ G (by rw[M,z];rfl);have b:=g _ l (by rw[r];exact z);rw[dx]at a;rw[L]at b;exact j (Prod.ext (show v.1=0 by lia) z)
 have j:∀p∈ps,Rp v (df d p)=0->df d p=(0,0):=λp f z=>by
  by_cases c:df d p=(0,0);exact c;exfalso;obtain⟨o,n⟩:=B p f c;have k:tn v (S7 (df d p))=0:=by rw[pZ];exact z
  have L:tn v (SO (S7 (df d p)))=0:=by
   have:tn v (SO (S7 (df d p)))=- tn v (S7 (df d p)):=by unfold tn SO;grind
   rw[this,k];rfl
  have a:=g _ o k;have b:=g _ n L;have e:Rp v (SO (S7 (df d p)))=- Rp v (S7 (df d p)):=by unfold Rp SO;grind
  rw[e]at b;have e:Rp v (S7 (df d p))=0:=by lia
  have L:=wM (v:=v) (m:=S7 (df d p)) (u:=S7 (df d p)) k;rw[e,YW]at L;have k:S7 (df d p)≠(0,0):=λy=>c (by unfold S7 at y;have g:=congrArg Prod.fst y;have e:=congrArg Prod.snd y;dsimp only at g e;exact Prod.ext e (show(df d p).2=0 by lia))
  have:=Wl H (sq_pos k)
  lia
 obtain⟨e,m2,T,u⟩:=nK v V (by by_cases c:0<v.1;exact⟨_,w,by rw[A];exact c⟩;exact⟨_,h,by rw[i];lia⟩)
 obtain⟨g,m1,a1,H⟩:=x9 v V (by by_cases c:0<v.1;exact⟨_,h,by rw[i];lia⟩;exact⟨_,w,by rw[A];lia⟩)
 have k:∀a b:Sp,tn a (SO b)=- tn a b:=λa b=>by unfold tn SO;grind
 have I:∀p∈ps,(0<=Rp v (df d p)->0<=Rp e (df d p))/\(Rp v (df d p)<=0->Rp e (df d p)<=0):=λp f=>by
  by_cases c:df d p=(0,0);rw[c];unfold Rp;simp;obtain⟨o,n⟩:=B p f c;have m:=u _ o;have b:=u _ n;rw[k,k]at b;rw[pZ,pZ]at m b;have nz:Rp v (df d p)≠0:=λz=>c (j p f z)
  exact⟨λz=>m (by lia),λz=>by have:=b (by lia);lia⟩
 have C:∀p∈ps,(0<=Rp v (df d p)->0<=Rp g (df d p))/\(Rp v (df d p)<=0->Rp g (df d p)<=0):=λp f=>by
  by_cases c:df d p=(0,0);rw[c];unfold Rp;simp;obtain⟨o,n⟩:=B p f c;have m:=H _ o;have b:=H _ n;rw[k,k]at b;rw[pZ,pZ]at m b;have nz:Rp v (df d p)≠0:=λz=>c (j p f z)
  exact⟨λz=>by have:=b (by lia);lia,λz=>m (by lia)⟩
 obtain⟨⟨j,o⟩,_⟩:=E e m2;obtain⟨⟨n,p⟩,m⟩:=E g m1;have t12:0<=tn g e:=by
  have:=u _ m (by rw[k];lia);rw[k]at this;have:=bQ g e
  lia
 have b:∀a∈V,0<tn v a->tn g e=0->tn e a=0:=λa d f z=>by
  have h1:=u a d f;have f:=H _ (E a d).2 (by rw[k];lia);rw[k]at f;have d:tn v g*tn e a=tn v e*tn g a - tn v a*tn g e:=plk v g e a;rw[z,XC,Int.sub_zero]at d;have f:=Tw (Tb T) (show 0<=tn g a by lia);by_cases y:tn e a=0;exact y;have d:=Yc a1 (show 0<tn e a by lia)
  lia
 have t:0<tn g e:=by
  by_cases z:tn g e=0;exfalso;have O:tn e (1,0)=-e.2:=by unfold tn;grind
  have N:tn e (0,1)=e.1:=by unfold tn;grind
  have L:tn e (-1,0)=e.2:=by unfold tn;grind
  have e4:tn e (0,-1)=-e.1:=by unfold tn;grind
  have x:e.2=0:=by
   by_cases c:0<v.2;have:=b _ l (by rw[r];exact c) z
   lia
   have:=b _ G (by rw[M];lia) z
   lia
  have a:e.1=0:=by
   by_cases c:0<v.1;have:=b _ w (by rw[A];exact c) z
   lia
   have:=b _ h (by rw[i];lia) z
   lia
  have:tn v e=0:=by unfold tn;rw[a,x];simp
  lia
  lia
 have Q:tn g e*Rp v q=tn v e*Rp g q+- tn v g*Rp e q:=by unfold tn Rp;grind
 by_cases c:Rp e q<0;exact s e j o I c;refine s g n p C (VH.mp λz=>?_);have f:=XA t J;have d:=Tw (Tb T) z;have x3:=Tw (show 0<=- tn v g by lia) (show 0<=Rp e q by lia)
 lia
noncomputable def axL(ps:List Dt):yat:=ps.map (λp=>(-p.1,1,0))++ps.map λp=>(-p.2.1,0,1)
abbrev WJ:=Tr×Int×Int
def cw(x:WJ):D:=.tup [RD x.1,.int x.2.1,.int x.2.2]
def JN(h:cw x=cw y):x=y:=by unfold cw at h;grind [Prod.ext,Dh]
def JO{xs ys:List WJ}(h:xs.map cw=ys.map cw):xs=ys:=gJ JN h
theorem yB(x:WJ):aU (cw x)=cw x:=rfl
def Ci(xs:List WJ):bf (xs.map cw)=xs.map cw:=cI cw yB xs
def EI(ps:List Dt)(g:Tr):List WJ:=[(g,wl ps g 1,wl ps g 1+wl ps g 0),(Vz g,wl ps g (-1),wl ps g (-1)+wl ps g 0)]
def bY(ps:List Dt)(zs:yat):List WJ:=zs.flatMap (EI ps)
noncomputable def dJ(xs:List WJ)(w:Int):yat:=(xs.filter λx=>decide (x.2.1<w/\w<=x.2.2)).map (·.1)
def aK(ps:List Dt):Int:=XH (λ_=>true) ps
def mC(ps:List Dt):aK ps=wq (λ_=>true) ps:=by
 unfold aK XH
 induction ps with
 |nil=>rfl
 |cons p r ih=>unfold wq;simp_all
theorem KZ(c b a s:Int):∀ps:List Dt,w3 c b a s ps=wq (λp=>decide (sg (gv c b a p)=s)) ps
 |[]=>rfl
 |p::r=>by have ih:=KZ c b a s r;unfold w3 at ih ⊢;unfold wq;grind
def rW(ps:List Dt)(g:Tr)(s:Int):wl ps g s=wq (λp=>decide (sg (gd g p)=s)) ps:=by unfold wl wt;rw[Xg.mpr (by simp_all),KZ];rfl
theorem qX{f g k:Dt->Bool}:∀{ps:List Dt},(∀p∈ps,k p=(f p || g p))->(∀p∈ps,¬(f p=true/\g p=true))->wq f ps+wq g ps=wq k ps
 |[],_,_=>rfl
 |p::r,h,b=>by
  have ih:=qX (λq a=>h q (by simp_all)) λq a=>b q (W4 _ a)
  have e:=h p (by simp);have n:=b p (by simp);unfold wq
  lia
def By(g:Tr)(ps:List Dt):wq (λp=>decide (gd g p<0)) ps+wq (λp=>decide (0<=gd g p)) ps=aK ps:=by
 rw[mC];refine qX (λp _=>?_) (by lia)
 lia
theorem Hy(a:Int):sg a=1↔0<a:=by unfold sg;lia
theorem Hx(a:Int):sg a=0↔a=0:=by unfold sg;lia
theorem Dd(a:Int):sg a=-1↔a<0:=by unfold sg;lia
def PK(ps:List Dt)(g:Tr):wl ps g 1=wq (λp=>decide (0<gd g p)) ps:=by simp_all [rW,Hy]
def PL(ps:List Dt)(g:Tr):wl ps g (-1)=wq (λp=>decide (0<gd (Vz g) p)) ps:=by simp_all [rW,y4,Dd]
def K0(ps:List Dt)(g:Tr):wl ps g 1+wl ps g 0=wq (λp=>decide (0<=gd g p)) ps:=by
 rw[rW,rW];refine qX (λp _=>?_) λp _=>?_
 grind [Hy,Hx]
 lia
def K1(ps:List Dt)(g:Tr):wl ps g (-1)+wl ps g 0=wq (λp=>decide (0<=gd (Vz g) p)) ps:=by
 rw[rW,rW];refine qX (λp _=>?_) λp _=>?_
 rw[y4];grind [Dd,Hx]
 lia
theorem ve(g:Tr):Vz (Vz g)=g:=by unfold Vz;simp
theorem mP{r:Tr}(hz:bO zs L):r∈dJ (bY ps zs) w↔(r∈L∨Vz r∈L)/\wq (λp=>decide (0<gd r p)) ps<w/\w<=wq (λp=>decide (0<=gd r p)) ps:=by
 constructor;intro h;obtain⟨x,a,rfl⟩:=S5.mp h;obtain⟨d,c⟩:=Yf.mp a;obtain⟨g,b,a⟩:=zCJ.mp d;have XF:=XO c;unfold EI at a;simp at a;rcases a with rfl|rfl;exact⟨.inl ((hz.2 g).mp b),by simp_all [PK],by simp_all [K0]⟩;exact⟨.inr (by rw[ve];exact(hz.2 g).mp b),by simp_all [PL],by simp_all [K1]⟩;rintro⟨h|h,d,c⟩;refine S5.mpr ⟨(r,wl ps r 1,wl ps r 1+wl ps r 0),Yf.mpr ⟨zCJ.mpr ⟨r,(hz.2 r).mpr h,by unfold EI;simp⟩,U5 ?_⟩,rfl⟩;rw[K0,PK]
 simp_all
 refine S5.mpr ⟨(Vz (Vz r),wl ps (Vz r) (-1),wl ps (Vz r) (-1)+wl ps (Vz r) 0),Yf.mpr ⟨zCJ.mpr ⟨Vz r,(hz.2 _).mpr h,by unfold EI;simp⟩,U5 ?_⟩,ve r⟩;rw[K1,PL,ve]
 simp_all
def rM(w:Int):(bY ps zs).length=2*zs.length/\(dJ (bY ps zs) w).length<=2*zs.length:=by
 have e:(bY ps zs).length=2*zs.length:=by
  unfold bY
  induction zs with
  |nil=>rfl
  |cons g r ih=>rw[List.flatMap_cons,Vh,ih,Ye];show 2+_=_;lia
 unfold dJ;grind
structure cY(ps:List Dt):Prop where
 gd:∀p∈ps,GD p
 bx:∀p∈ps,Bd 40 p.1/\Bd 40 p.2.1
 w:∀p∈ps,0<p.2.2.2
 le:ps.length<=20
 ne:ps ≠ []
def cY.nn(D:cY ps):∀p∈ps,0<=p.2.2.2:=λp a=>Tb (D.w p a)
abbrev VA(ps:List Dt):yat:=wW ps++axL ps
def rH{ps:List Dt}(h:ps.length<=20):(VA ps).length<=440:=by have b:=CN ps;have a:ps.length*ps.length<=20*20:=Nat.mul_le_mul h h;unfold VA axL;grind
def Ej(F:LF g p q):∃m:Int,m≠0/\p.1*q.2.1 - q.1*p.2.1=m*g.1/\p.2.1 - q.2.1=m*g.2.1/\q.1 - p.1=m*g.2.2/\∀z,gd g z*m=tq p q z:=by obtain⟨m,b,a⟩:=F.ex;have e:=a (0,0,0,0);have d:=a (1,0,0,0);have c:=a (0,1,0,0);unfold gv tq at e d c;refine⟨m,b,?_,?_,?_,a⟩<;>grind
def LQ{p q:Dt}(b:Bd 40 p.1/\Bd 40 p.2.1)(a:Bd 40 q.1/\Bd 40 q.2.1)(e:GD p)(d:GD q)(c:TC p≠TC q):X5 40 (lnF p q)/\vc (lnF p q)≠(0,0):=by
 have F:=y9 e d c;obtain⟨m,c,i,h,g,_⟩:=Ej F;have d:vc (lnF p q)≠(0,0):=λz=>by
  have f:=congrArg Prod.fst z;have e:=congrArg Prod.snd z;unfold vc at f e;have:=F.nf.sgn
  lia
 refine⟨⟨λz=>d (by unfold vc;rw[z]),mE c i ?_,mE c h ?_,mE c g ?_⟩,d⟩;exact((b.1.mul a.2).sub (a.1.mul b.2)).mono (by decide);exact b.2.sub a.2;exact a.1.sub b.1
theorem Oy(G:X5 n g)(h:vc g≠(0,0)):X5 n (Vz g)/\vc (Vz g)≠(0,0):=by
 have a:vc (Vz g)≠(0,0):=λz=>h (by have c:=congrArg Prod.fst z;have b:=congrArg Prod.snd z;unfold vc Vz at c b;unfold vc;grind)
 exact⟨⟨λz=>a (by unfold vc;rw[z]),G.c.neg,G.a.neg,G.b.neg⟩,a⟩
theorem Ox(D:cY ps):∀g∈VA ps,X5 40 g/\vc g≠(0,0):=λg m=>by
 rcases Ta.mp m with z|z;obtain⟨l,n,rfl⟩:=S5.mp z;obtain⟨a,b,c⟩:=mQ.mp n;have i:=mG (show l.1<ps.length by lia);have f:=mG b;exact LQ (D.bx _ i) (D.bx _ f) (D.gd _ i) (D.gd _ f) c;have d:∀k:Int,Bd 1 k->Bd 41 k:=λk h=>h.mono (by decide)
 rcases Ta.mp z with z|z<;>obtain⟨p,j,rfl⟩:=S5.mp z;exact⟨⟨by lia,((D.bx p j).1.neg).mono (by decide),d 1 (by unfold Bd;decide),d 0 (by unfold Bd;decide)⟩,λe=>absurd (show(1:Int)=0 from congrArg Prod.fst e) (by decide)⟩;exact⟨⟨by lia,((D.bx p j).2.neg).mono (by decide),d 0 (by unfold Bd;decide),d 1 (by unfold Bd;decide)⟩,λe=>absurd (show(1:Int)=0 from congrArg Prod.snd e) (by decide)⟩
def Ll(D:cY ps):∀d∈ps,(∃r,Cd (VA ps) d (1,0) r)/\(∃r,Cd (VA ps) d (0,1) r)/\∀p∈ps,df d p≠(0,0)->∃r,Cd (VA ps) d (S7 (df d p)) r:=λd f=>by
 refine⟨⟨(-d.1,1,0),.inl ?_,1,by decide,rfl,rfl,by grind [cW]⟩,⟨(-d.2.1,0,1),.inl ?_,1,by decide,rfl,rfl,by grind [cW]⟩,λp n a=>?_⟩;exact Wf _ (XM _ (S5.mpr ⟨d,f,rfl⟩));exact Wf _ (Wf _ (S5.mpr ⟨d,f,rfl⟩));have b:TC d≠TC p:=λe=>a (by
  unfold TC at e;have l:=congrArg Prod.fst e;have k:=congrArg Prod.snd e;unfold df
  simp_all)
 have a:∀(g:Tr) (m:Int),g∈VA ps->m≠0->m*g.2.1=(S7 (df d p)).1->m*g.2.2=(S7 (df d p)).2->gd g d=0->∃r,Cd (VA ps) d (S7 (df d p)) r:=λg m i e l k h=>by by_cases c:0<m;exact⟨g,.inl i,m,c,by grind,by grind,h⟩;refine⟨Vz g,by grind [ve],-m,by lia,?_,?_,by simp_all [y4]⟩;show -g.2.1*-m=_;grind;show -g.2.2*-m=_;grind
 obtain⟨i,g,w⟩:=XN f;obtain⟨j,o,u⟩:=XN n;have t:gp ps i=d:=by have:=uT g;grind
 have s:gp ps j=p:=by have:=uT o;grind
 rcases zCE i j with c|c|c;have o:(i,j)∈sps ps:=mQ.mpr (by simp_all);have F:=y9 (D.gd d f) (D.gd p n) b;obtain⟨m,e,q,l,k,h⟩:=Ej F;refine a (lnF d p) m (XM _ (S5.mpr (by grind))) e ?_ ?_ ?_;rw[<- l];unfold S7 df;lia;rw[<- k];rfl;have:=h d;rw[show tq d p d=0 by unfold tq;grind]at this;exact(VQ.mp this).resolve_right e
 lia
 have o:(j,i)∈sps ps:=mQ.mpr ⟨c,g,by lia⟩;have F:=y9 (D.gd p n) (D.gd d f) b.symm;obtain⟨m,e,q,l,k,h⟩:=Ej F;refine a (lnF p d) (-m) (XM _ (S5.mpr (by grind))) (by lia) ?_ ?_ ?_;rw[Vj,<- l];unfold S7 df;dsimp only;rw[Vj,<- k];unfold S7 df;lia;have:=h d;rw[show tq p d d=0 by unfold tq;grind]at this;exact(VQ.mp this).resolve_right e
abbrev cM(ps:List Dt)(zs:yat)(ys:yas)(w:Int):yat:=aV (dJ (bY ps zs) w) ((aX ys).map sT)
structure QQ(ps:List Dt)(Gs:yat)(ys:yas):Prop where
 X6:∀j,WU (aV (Gs.take j) ((aX ys).map sT))/\(aV (Gs.take j) ((aX ys).map sT)).length<=1000000/\∀p∈aV (Gs.take j) ((aX ys).map sT),Pr p/\CB 40 p
 inc:∀j X,0<X.1->(∀b∈aY (aX ys),0<=Rl b X)->(∀g∈Gs.take j,0<=Rl g X)->YL (aV (Gs.take j) ((aX ys).map sT)) X
 ov:∀j,∀g∈Gs.take j,∀y∈aV (Gs.take j) ((aX ys).map sT),0<=Rl g y
 own:∀j d,(∀p∈ps,0<=gd d p)->∀y∈aV (Gs.take j) ((aX ys).map sT),0<=Rl d y
 ne:(aX ys).map sT ≠ []
 bo:∀b∈aY (aX ys),∀p∈ps,0<=gd b p
 bv:∀b∈aY (aX ys),X5 40 b/\vc b≠(0,0)
 bl:(aY (aX ys)).length<=44
def iB(D:cY ps){b:yat}(w:∀g∈b,X5 40 g/\vc g≠(0,0))(s:b.length<=924)(d:bN ys (ps.map TC)):QQ ps b ys:=by
 have c:ps.map TC ≠ []:=λe=>D.ne (by simp_all)
 have i:=qe d;have h:∀p∈ps.map TC,WB 40 p:=λp f=>by obtain⟨q,a,rfl⟩:=S5.mp f;exact⟨(D.bx q a).1,(D.bx q a).2⟩
 have k:=Fz (j9 i c) (Au d).2 (λp f=>h p (i.mem p f));have n:(aY (aX ys)).length<=44:=by
  have a:=i.len;have l:=DX (aX ys);rw[RH]at a;have:=D.le
  lia
 generalize hA:aY (aX ys)++b=A;have m:∀e∈A,X5 40 e:=λe j=>by grind
 let Z:yat:=(aX ys).map sT++A.flatMap λe=>A.map λg=>YM (Sw e g)
 have o:Z.length<=1000000:=by
  rw[Vh,RH];have a:=i.len;rw[RH]at a;have l:=D.le;have x:(A.flatMap λe=>A.map λg=>YM (Sw e g)).length<=968*968:=by
   have y:∀l:yat,(l.flatMap λe=>A.map λg=>YM (Sw e g)).length<=l.length*968:=λl=>by
    induction l with
    |nil=>simp
    |cons a r ih =>
     grind
   grind
  lia
 have l:∀e∈A,∀g∈A,YM (Sw e g)∈Z:=λe j g a=>by grind
 have e:Cor 40 A Z ((aX ys).map sT):=Jc d c h (by grind) (by grind) (by grind)
 have run:=λj=>zK m l (b.take j) _ (by grind) e
 refine⟨λj=>⟨(run j).1.VM,Sd (run j).1.len o,λp f=>⟨(run j).1.pr p f,(run j).1.cb p f⟩⟩,λj X b h a=>(run j).2.1 X (Je i c b h) a,λj=>(run j).2.2.1,λj d u=>(run j).2.2.2 d λp f=>?_,by grind [j9],λb h p f=>?_,λb h=>⟨k b h,?_⟩,n⟩;obtain⟨q,a,rfl⟩:=S5.mp f;obtain⟨z,t,rfl⟩:=S5.mp (i.mem q a)
 simp_all [KC]
 rw[<- KC];exact BE i c h (by grind);grind [FA,j9,QH]
def kf(D:cY ps)(hz:bO zs (VA ps))(w:Int):(∀g∈dJ (bY ps zs) w,X5 40 g/\vc g≠(0,0))/\(dJ (bY ps zs) w).length<=880:=by
 refine⟨λg a=>?_,?_⟩;grind [mP,Ox,Oy,ve];have d:=(rM (ps:=ps) (zs:=zs) w).2;have c:=jc hz;have b:=rH D.le
 lia
def Fc{f g:Dt->Bool}{ps:List Dt}(a:∀p∈ps,0<=p.2.2.2):wq (λp=>f p || g p) ps<=wq f ps+wq g ps:=by
 have e:=qX (f:=f) (g:=λp=>g p && !f p) (k:=λp=>f p || g p) (ps:=ps) (λp _=>by cases f p<;>cases g p<;>rfl) (by lia);have l:=gf (f:=λp=>g p && !f p) (g:=g) a (by simp_all)
 lia
def GJ(D:cY ps)(hz:bO zs (VA ps))(a:bN ys (ps.map TC)){l:Int}(l1:1<=l)(H:3*(l - 1)<aK ps):cM ps zs ys (aK ps - l+1) ≠ []:=λe=>by
 obtain⟨m,b⟩:=kf D hz (aK ps - l+1);have R:=iB D m (Sd b (by decide)) a;have s:∀g∈dJ (bY ps zs) (aK ps - l+1),aK ps - l+1<=wq (λp=>decide (0<=gd g p)) ps:=λg d=>((mP hz).mp d).2.2
 have b:aV (dJ (bY ps zs) (aK ps - l+1)) ((aX ys).map sT)=[]:=e;generalize dJ (bY ps zs) (aK ps - l+1)=c at *;obtain⟨a,n,o,k⟩:=tw R.ne c.length (by rw[zCA];exact b);have d:c[a]?=some c[a]:=Ul n;obtain⟨VM,_,j⟩:=R.X6 a;have f:∀y∈aV (c.take a) ((aX ys).map sT),Rl c[a] y<0:=λy b=>VH.mp λz=>by have q:=(nu (g:=c[a]) VM λp i=>(j p i).1).1 y (λh hh=>hh y b) z;rw[tB d]at k;exact qg q (j y b).1.pos k
 obtain⟨p,r,gp,k⟩:=Fw (gs:=aY (aX ys)++c.take a) (o a (SF _)) (λy b=>(j y b).1.pos) f
  (λh hh y b=>(Ta.mp hh).elim (λz=>R.own a h (R.bo h z) y b) λz=>R.ov a h z y b)
  (λX b f=>R.inc a X b (λb j=>f b (XM _ j)) λg d=>f g (Wf _ d)) (m _ (YT n)).2
 have m:=D.nn;have split:=λg=>By g ps
 have o:∀g,g∈aY (aX ys)++c.take a∨g∈c->wq (λp=>decide (gd g p<0)) ps<=l - 1:=λg j=>by
  have d:g∈c->wq (λp=>decide (gd g p<0)) ps<=l - 1:=λz=>by
   have:=s g z;have:=split g
   lia
  rcases j with j|j;rcases Ta.mp j with z|z;have:wq (λp=>decide (gd g p<0)) ps<=wq (λ_=>false) ps:=gf m λp i q=>by
   have:=R.bo g z p i;have:=XO q
   lia
  rw[Fd]at this
  lia
  exact d ((zDF a _).subset z);exact d j
 have l:=o c[a] (.inr (YT n));have XH:∀f:Dt->Bool,(∀p∈ps,f p=true)->aK ps<=wq f ps:=λf d=>by rw[mC];exact gf m λp i _=>d p i
 generalize c[a]=g at gp k l;rcases k with⟨h,j,i,B⟩| ⟨h,j,k,q,i,kp,B⟩;have hh:=o h (.inl j);obtain⟨B0,B1⟩:=B;have a:0<Rp (vc g) (vc g):=sq_pos λz=>by rw[z]at B1;unfold Rp at B1;simp at B1
 have id:∀d:Dt,p.1*(Rp (vc g) (vc g)*gd h d+- Rp (vc h) (vc g)*gd g d)=Rp (vc g) (vc g)*Rl h p+- Rp (vc h) (vc g)*Rl g p:=λd=>by
  have G:Rp (vc g) (vc g)*h.2.1=Rp (vc h) (vc g)*g.2.1 - tn (vc h) (vc g)*- g.2.2:=by unfold Rp tn vc;grind
  have E:Rp (vc g) (vc g)*h.2.2=Rp (vc h) (vc g)*g.2.2 - tn (vc h) (vc g)*g.2.1:=by unfold Rp tn vc;grind
  rw[cW,cW];unfold Rl;grind
 have:=XH (λd=>decide (gd h d<0) || decide (gd g d<0)) λd w=>by
  have e:=id d;rw[i,XC,zDW]at e;have n:=XA (show 0 < - Rp (vc h) (vc g)by lia) gp;by_cases c:gd h d<0;rw[U5 c];rfl;by_cases l:gd g d<0;rw[U5 l,Bool.or_true];have y:=Tw (Tb a) (show 0<=gd h d by lia);have x:=Tw (show 0<=- Rp (vc h) (vc g)by lia) (show 0<=gd g d by lia);have:=Tw (Tb r) (show 0<=Rp (vc g) (vc g)*gd h d+- Rp (vc h) (vc g)*gd g d by lia)
  lia
 have:=Fc (f:=λd=>decide (gd h d<0)) (g:=λd=>decide (gd g d<0)) m
 lia
 have hh:=o h (.inl j);have I:=o k (.inl q);have j:∀s t u:Int,0<s->0<t->0<u->s*h.2.1+t*k.2.1+u*g.2.1=0->s*h.2.2+t*k.2.2+u*g.2.2=0->False:=λs t u q o a L J=>by
  have:=XH (λd=>decide (gd h d<0) || (decide (gd k d<0) || decide (gd g d<0))) λd w=>by
   have e:p.1*(s*gd h d+t*gd k d+u*gd g d)=s*Rl h p+t*Rl k p+u*Rl g p:=by rw[cW,cW,cW];unfold Rl;grind
   rw[i,kp,XC,XC,VU,zDW]at e;have n:=XA a gp;by_cases c:gd h d<0;rw[U5 c];rfl;by_cases e:gd k d<0;rw[U5 e,Bool.true_or,Bool.or_true];by_cases l:gd g d<0;rw[U5 l,Bool.or_true,Bool.or_true];have y:=Tw (Tb q) (show 0<=gd h d by lia);have x:=Tw (Tb o) (show 0<=gd k d by lia);have M:=Tw (Tb a) (show 0<=gd g d by lia);have:=Tw (Tb r) (show 0<=s*gd h d+t*gd k d+u*gd g d by lia)
   lia
  have C:=Fc (f:=λd=>decide (gd h d<0)) (g:=λd=>decide (gd k d<0) || decide (gd g d<0)) m;have A:=Fc (f:=λd=>decide (gd k d<0)) (g:=λd=>decide (gd g d<0)) m
  lia
 have d:tn (vc k) (vc g)*h.2.1+tn (vc g) (vc h)*k.2.1+tn (vc h) (vc k)*g.2.1=0:=by unfold tn vc;grind
 have sb:tn (vc k) (vc g)*h.2.2+tn (vc g) (vc h)*k.2.2+tn (vc h) (vc k)*g.2.2=0:=by unfold tn vc;grind
 rcases B with⟨a,b,c⟩| ⟨a,b,c⟩;exact j _ _ _ a b c d sb;exact j (- tn (vc k) (vc g)) (- tn (vc g) (vc h)) (- tn (vc h) (vc k)) (by lia) (by lia) (by lia) (by rw[Vj,Vj,Vj];lia) (by rw[Vj,Vj,Vj];lia)
theorem vt(g:Tr):∀ps:List Dt,UY g ps=wq (λp=>decide (0<=gd g p)) ps
 |[]=>rfl
 |p::r=>by have ih:=vt g r;unfold UY at ih ⊢;unfold wq;rw[VS,zCo,ih];by_cases c:0<=gv g.1 g.2.1 g.2.2 p;rw[Rv c,Rv (U5 (show 0<=gd g p from c))];rw[if_neg c,if_neg (by rw[decide_eq_true_eq];exact c)]
def Gn(h:Tr)(ps:List Dt):∃g,IsL h ps g:=by
 by_cases c:Tn h ps=[];exact⟨_,.inl ⟨c,rfl⟩⟩;have d:∀(f:Wy->Int) (l:List Wy),l ≠ []->∃(i:Nat) (w:Wy),l[i]?=some w/\∀(j:Nat) (v:Wy),l[j]?=some v->f w<=f v/\(j<i->f w<f v):=λf l=>by
  induction l with
  |nil=>lia
  |cons a r ih =>
   intro _;by_cases cr:r=[];subst cr;refine⟨0,a,rfl,λj v e=>?_⟩;cases j with
   |zero=>simp_all
   |succ j=>cases e
   obtain⟨i,w,e,b⟩:=ih cr;by_cases g:f a<=f w;refine⟨0,a,rfl,λj v e=>?_⟩;cases j with
   |zero=>simp_all
   |succ j=>exact⟨zDI g (b j v e).1,by lia⟩
   refine⟨i+1,w,e,λj v e=>?_⟩;cases j with
   |zero=>grind
   |succ j=>exact⟨(b j v e).1,λz=>(b j v e).2 (by lia)⟩
 obtain⟨i,w,e,b⟩:=d (λv=>UY (X7 h (Xf v (Tn h ps))) ps) _ c;exact⟨_,.inr ⟨i,w,e,rfl,b⟩⟩
def wD(D:cY ps):0<aK ps:=by
 have a:=D.nn;have w:=D.w;have b:=D.ne;rw[mC];cases ps with
 |nil=>lia
 |cons p r =>
  have e:=w p (by simp);have d:=K4 (f:=λ_=>true) (ps:=r) λq c=>a q (by simp_all)
  unfold wq
  lia
def rkT(a b:Tr):Int:=rk a.1 a.2.1 a.2.2 b.1 b.2.1 b.2.2
def stI(cs:yat)(f k:Nat):Nat:=if rkT (cs.getD k (0,0,0)) (cs.getD f (0,0,0))<0 then k else f
def ldI(cs:yat)(n:Nat):Nat:=(List.range' 0 n).foldl (stI cs) 0
def kF(cs:yat):yat:=cs.drop (ldI cs cs.length)++cs.take (ldI cs cs.length)
def KI(cs:yat)(n:Nat):ldI cs (n+1)=stI cs (ldI cs n) n:=by unfold ldI;rw[List.range'_concat,List.foldl_append];simp
theorem uY(cs:yat):∀n,ldI cs n<=n/\(0<n->ldI cs n<n)
 |0=>⟨SF _,by lia⟩
 |n+1=>by
  have:=uY cs n;rw[KI];unfold stI
  lia
def L9{x:Tr}:x∈kF cs↔x∈cs:=by unfold kF;rw[Ta,Or.comm,<- Ta,XB]
def CL(cs:yat):(kF cs).length=cs.length:=by have:=(uY cs cs.length).1;unfold kF;grind
def iq{b:Type}{wi:DA}{g:DG}{h:DS}{E:jJ}(xs:List b)(f:b->D)(Pv:List b->Ro->Prop)(j:∀R:yar->Prop,R (xs.map f)->wi ρ R)(i:Pv [] ρ)
  (c:∀(done:List b) (x:b) (a:Ro),x∈xs->done.length<xs.length->Pv done a->∀K:Ro->Prop,(∀a,Pv (done++[x]) a->K a)->g (f x) a λd=>h {E with nx:=K,ct:=K,bk:=E.nx} d) (e:∀a,Pv xs a->E.nx a):pW wi g h E ρ :=
 PD.rA xs f Pv j i (λdone x a b f d=>c done x a b f d _ λ_ h=>h) e
def yb{d:Type}{wi:DA}{g:DG}{h:DS}{E:jJ}(xs:List d)(f:d->D)(Pv:Nat->Ro->Prop)(k:∀R:yar->Prop,R (xs.map f)->wi ρ R)(i:Pv 0 ρ)
  (b:∀(j:Nat) (x:d) (a:Ro),xs[j]?=some x->Pv j a->∀K:Ro->Prop,(∀a,Pv (j+1) a->K a)->g (f x) a λc=>h {E with nx:=K,ct:=K,bk:=E.nx} c) (e:∀a,Pv xs.length a->E.nx a):pW wi g h E ρ :=
 PD.ip xs f Pv k i (λj x a c d=>b j x a c d _ λ_ h=>h) e
def LM{a:Type}{wi:DA}{P:List a->Prop}(f:a->D)(b:∀R:yar->Prop,(∀ys,P ys->R (ys.map f))->wi ρ R)(h:∀ys,P ys->pW (λ_ R=>R (ys.map f)) g tb E ρ):pW wi g tb E ρ:=b _ λys a=>h ys a
def NK(xs:yar){k:Nat}(h:k<=xs.length):PD.cutD xs (some (k:Int)) none=xs.drop k:=by
 unfold PD.cutD;have b:HT.SG xs.length 0 (some (k:Int))=min k xs.length:=HT.kh _ _ k;have a:HT.SG xs.length xs.length none=xs.length:=rfl
 simp_all [Yt,XJ,W5]
def zS(xs:yar){k:Nat}(h:k<=xs.length):PD.cutD xs none (some (k:Int))=xs.take k:=by
 unfold PD.cutD;have a:HT.SG xs.length 0 none=0:=rfl
 simp_all [HT.kh,Yt]
theorem AY{c:Type}{R:c->c->Prop}(d:∀a,¬R a a)(e:∀a b,R a b->¬R b a):∀(xs ys:List c),xs.Pairwise R->ys.Pairwise R->(∀p,p∈xs↔p∈ys)->xs=ys
 |[],[],_,_,_=>rfl
 |[],y::_,_,_,h=>by grind [List.mem_cons_self]
 |x::_,[],_,_,h=>by grind [List.mem_cons_self]
 |x::xs,y::ys,b,a,h=>by
  obtain⟨g,c⟩:=Ze.mp b;obtain⟨f,b⟩:=Ze.mp a;have a:x=y:=by grind [List.mem_cons_self]
  subst a;rw[AY d e xs ys c b (by grind)]
def jd(b:bO xs L)(a:bO ys L):xs=ys:=AY (λ_=>by unfold wU;omega) (λ_ _=>by unfold wU;omega) _ _ b.1 a.1 λp=>(b.2 p).trans (a.2 p).symm
def je(b:bN xs L)(a:bN ys L):xs=ys:=AY (by simp_all) (by lia) _ _ b.1 a.1 λp=>(b.2 p).trans (a.2 p).symm
def yw{b:DS}{ρ:Ro}(P:Ro->Prop)(c:∀a,P a->b E a)(d:∀K:Ro->Prop,(∀a,P a->K a)->nE s1 (nE s2 s3) {E with nx:=K} ρ):nE s1 (nE s2 (nE s3 b)) E ρ:=d _ c
def LY{h:Tr}{ps:List Dt}(hh:0<h.1)(o:∀p∈ps,0<=p.2.2.2)(a:IsL h ps g)(f:Rl d h=0)(c:vc d≠(0,0)):UY g ps<=UY d ps:=by
 have b:∀p:Dt,h.1*gd d p=tn (d.2.2,-d.2.1) (R8 h p):=λp=>by
  have e:h.1*gd d p=tn (d.2.2,-d.2.1) (R8 h p)+Rl d h:=by rw[cW];unfold tn R8 Rl;grind
  rw[e,f,VU]
 generalize ht:((d.2.2,-d.2.1):Sp)=t at b;have l:t≠(0,0):=λz=>c (by rw[<- ht]at z;have f:=congrArg Prod.fst z;have k:=congrArg Prod.snd z;dsimp only at f k;unfold vc;rw[f,show d.2.1=0 by lia])
 have c:∀p:Dt,0<=tn t (R8 h p)->0<=gd d p:=λp q=>by rw[<- b]at q;exact XR.mp λz=>by have:=XA hh z;lia
 have m:tn t (0,0)=0:=by unfold tn;simp
 have n:∀w∈Tn h ps,(∀p∈ps,(0<tn w (R8 h p)->0<=tn t (R8 h p))/\(tn w (R8 h p)=0->Rp w (R8 h p)<0->0<=tn t (R8 h p)))->UY g ps<=UY d ps:=λw b r=>by
  have s:UY g ps<=UY (X7 h (Xf w (Tn h ps))) ps:=by
   rcases a with⟨z,_⟩| ⟨i,v,H,G,u⟩;rw[z]at b;cases b;obtain⟨j,a,i⟩:=XN b;exact(u j w (by rw[Ul a,i])).1
  refine zDI s ?_;refine EK o λp a q=>?_
  rw[KG]at q;have i:0<=tn (Xf w (Tn h ps)) (R8 h p):=XR.mp λz=>by lia
  rcases(Gb b a).mp i with z|z|⟨f,k⟩;exact c p (by rw[z,m];exact W9 _);exact c p ((r p a).1 z);exact c p ((r p a).2 f k)
 have r:∀v∈Tn h ps,SO v∈Tn h ps:=λv hv=>y3 hv
 by_cases q:Tn h ps=[];have i:∀p∈ps,R8 h p=(0,0):=λp a=>by by_cases z:R8 h p=(0,0);exact z;have:=(nh a z).1;rw[q]at this;cases this
 exact EK o λp a _=>c p (by rw[i p a,m];exact W9 _)
 by_cases j:∃w∈Tn h ps,tn t w=0;obtain⟨w,b,i⟩:=j;have m:=eT b;have c:∀v∈Tn h ps,tn t v=0->0<Rp t v->UY g ps<=UY d ps:=λv hv d pv=>by
  have e:∀x:Sp,Rp t t*tn v x=Rp t v*tn t x:=λx=>by
   have:Rp t t*tn v x=Rp t v*tn t x - tn t v*Rp t x:=by unfold Rp tn;grind
   rw[this,d,YW,Int.sub_zero]
  refine n v hv λp _=>⟨λz=>?_,λz _=>?_⟩
  have:=Wl (sq_pos l) z;rw[e]at this;exact Tb (Int.pos_of_mul_pos_right this pv);have:=e (R8 h p);rw[z,XC]at this;rcases VQ.mp this.symm with y|y
  lia
  lia
 have E:Rp t w≠0:=λz=>by
  have e:Rp t t*Rp w w=Rp t w*Rp t w+tn t w*tn t w:=by unfold Rp tn;grind
  rw[z,i,XC]at e;have:=Wl (sq_pos l) (sq_pos m)
  lia
 by_cases d:0<Rp t w;exact c w b i d;refine c (SO w) (r w b) ?_ ?_;have:tn t (SO w)=- tn t w:=by unfold tn SO;grind
 rw[this,i];rfl;have:Rp t (SO w)=- Rp t w:=by unfold Rp SO;grind
 lia
 have c:∀w∈Tn h ps,tn t w≠0:=λw b z=>j ⟨w,b,z⟩
 obtain⟨v,hv⟩:=zB4 _ q;obtain⟨w,b,d,C⟩:=x9 t (Tn h ps) (by
  have:=c v hv;by_cases c:tn t v<0;exact⟨v,hv,c⟩;refine⟨SO v,r v hv,?_⟩;have:tn t (SO v)=- tn t v:=by unfold tn SO;grind
  lia)
 refine n w b λp a=>⟨λz=>XR.mp λy=>?_,λf k=>XR.mp λy=>?_⟩
 grind [nh];have e:Rp w w*tn t (R8 h p)=Rp w (R8 h p)*tn t w+tn w (R8 h p)*Rp w t:=by unfold Rp tn;grind
 rw[f,YW,VU]at e;have B:=zBY k d;have A:=XA (sq_pos (eT b)) y
 lia
def nG(D:cY ps)(hz:bO zs (VA ps))(a:bN ys (ps.map TC)){l:Int}(l1:1<=l)(ll:l<=aK ps){X:Tr}(c:0<X.1)(i:IsL X ps g):l<=UY g ps↔YL (cM ps zs ys (aK ps - l+1)) X:=by
 obtain⟨n,b⟩:=kf D hz (aK ps - l+1);have R:=iB D n (Sd b (by decide)) a;have inc:=R.inc (dJ (bY ps zs) (aK ps - l+1)).length;have j:=R.ov (dJ (bY ps zs) (aK ps - l+1)).length;have a:=R.own (dJ (bY ps zs) (aK ps - l+1)).length;rw[zCA]at inc j a;have split:=λg=>By g ps
 constructor;intro A;have a:∀r:Tr,vc r≠(0,0)->aK ps - l+1<=wq (λp=>decide (0<=gd r p)) ps->0<=Rl r X:=λr b Yk=>XR.mp λz=>by
  have m:=LY (d:=(Rl r X - X.1*r.1,- (X.1*r.2.1),- (X.1*r.2.2))) c D.nn i (by
   have e:∀k:Int,Rl (k - X.1*r.1,- (X.1*r.2.1),- (X.1*r.2.2)) X=k*X.1 - X.1*Rl r X:=λk=>by unfold Rl;grind
   rw[e,VG,Int.sub_self]) (λe=>b (by
   have d:=congrArg Prod.fst e;have b:=congrArg Prod.snd e;unfold vc at d b;dsimp only at d b;have d:=(VQ.mp (show X.1*r.2.1=0 by lia)).resolve_left (by lia);have b:=(VQ.mp (show X.1*r.2.2=0 by lia)).resolve_left (by lia);unfold vc;rw[d,b]))
  have u:UY (Rl r X - X.1*r.1,- (X.1*r.2.1),- (X.1*r.2.2)) ps<=wq (λp=>decide (gd r p<0)) ps:=by
   rw[vt];refine gf D.nn λp _ q=>U5 ?_
   have s:=XO q;have e:gd (Rl r X - X.1*r.1,- (X.1*r.2.1),- (X.1*r.2.2)) p=Rl r X - X.1*gd r p:=by rw[cW,cW];grind
   exact VH.mp λy=>by have:=Tw (Tb c) y;lia
  have:=split r
  lia
 refine inc X c (λb h=>?_) λr d=>?_
 refine a b ((R.bv b h).2) ?_;rw[<- split b];have o:wq (λp=>decide (gd b p<0)) ps<=0:=by
  have:=gf (f:=λp=>decide (gd b p<0)) (g:=λ_=>false) D.nn λp f q=>by
   have:=R.bo b h p f;have:=XO q
   lia
  rw[Fd]at this;exact this
 lia
 exact a r (n r d).2 ((mP hz).mp d).2.2;intro I;refine XR.mp λt=>?_
 have e:=split g;rw[<- vt]at e;obtain⟨r,m,b,a,x⟩:=Pm D.nn (Ll D) (g:=g) (h:=X) (w:=aK ps - l+1) (λz=>IsL.ne c i ⟨congrArg Prod.fst z,congrArg Prod.snd z⟩) c (i.on) (by lia) (by lia);have:=I r λy c=>j r ((mP hz).mpr ⟨m,b,a⟩) y c
 lia
def A4(D:cY ps)(hz:bO zs (VA ps))(a:bN ys (ps.map TC)){y:Tr}(d:y∈cM ps zs ys w):Pr y/\CB 40 y:=by
 obtain⟨b,c⟩:=kf D hz w;have X6:=(iB D b (by lia) a).X6 (dJ (bY ps zs) w).length
 simp_all
def GrD(ps:List Dt)(n:Int):Prop:=1<=n/\n<=aK ps/\∀a b,bO a (VA ps)->bN b (ps.map TC)->∀l,1<=l->l<=aK ps->(cM ps a b (aK ps - l+1) ≠ []↔l<=n)
section
variable{ps:List Dt}(D:cY ps){zs:yat}(hz:bO zs (VA ps)){ys:yas}(rs:bN ys (ps.map TC))
include D hz rs
def A0{l m:Int}(l1:1<=l)(f:l<=m)(e:m<=aK ps)(h:cM ps zs ys (aK ps - m+1) ≠ []):cM ps zs ys (aK ps - l+1) ≠ []:=by
 obtain⟨y,c⟩:=zB4 _ h;have b:=(A4 D hz rs c).1.pos;obtain⟨g,d⟩:=Gn y ps;have a:=(nG D hz rs (by lia) e b d).mpr λe a=>a y c
 exact qg ((nG D hz rs l1 (by lia) b d).mp (by lia)) b
omit rs in
def Qe{n:Int}(c:1<=n)(na:n<=aK ps)(b:∀ys,bN ys (ps.map TC)->cM ps zs ys (aK ps - n+1) ≠ [])(e:∀ys,bN ys (ps.map TC)->∀l,n<l->l<=aK ps->cM ps zs ys (aK ps - l+1)=[]):GrD ps n:=by refine⟨c,na,λa ys f rs l d c=>?_⟩;rw[jd f hz];exact⟨λh=>XR.mp λz=>h (e ys rs l z c),λh=>A0 D hz rs d h na (b ys rs)⟩
theorem OD(a:GrD ps n)(b:GrD ps m):n=m:=by
 have d:=(b.2.2 zs ys hz rs n a.1 a.2.1).mp ((a.2.2 zs ys hz rs n a.1 a.2.1).mpr (by lia));have c:=(a.2.2 zs ys hz rs m b.1 b.2.1).mp ((b.2.2 zs ys hz rs m b.1 b.2.1).mpr (by lia))
 lia
def IZ(a:GrD ps n):aK ps<=3*n:=by
 have c:=wD D;have b:=GJ D hz rs (l:=(aK ps+2) / 3) (by lia) (by lia);have:=(a.2.2 zs ys hz rs _ (by lia) (by lia)).mp b
 lia
def IY(a:GrD ps n){y:Tr}(c:y∈cM ps zs ys (aK ps - n+1))(d:IsL y ps g):UY g ps=n:=by
 have b:=(A4 D hz rs c).1.pos;have j:=(nG D hz rs a.1 a.2.1 b d).mpr λe e=>e y c
 have f:UY g ps<=aK ps:=by rw[vt,mC];exact gf D.nn λp _ _=>rfl
 have h:¬n+1<=UY g ps:=λz=>by
  have i:=(nG D hz rs (l:=n+1) (by have:=a.1;lia) (by lia) b d).mp z;have:=(a.2.2 zs ys hz rs (n+1) (by have:=a.1;lia) (by lia)).mp (qg i b)
  lia
 lia
end
abbrev gsA(ps:List Dt)(zs:yat)(ys:yas)(w:Int):yat:=aY (aX ys)++dJ (bY ps zs) w
abbrev fsA(ys:yas):yat:=(aX ys).map sT
structure QM(ps:List Dt)(zs:yat)(ys:yas)(w:Int):Prop where
 gb:∀g∈gsA ps zs ys w,X5 40 g/\vc g≠(0,0)
 le:(gsA ps zs ys w).length<=924
 wt:∀g∈gsA ps zs ys w,w<=aK ps->w<=wq (λp=>decide (0<=gd g p)) ps
 X6:∀j,(aV ((gsA ps zs ys w).take j) (fsA ys)).length<=1000000/\∀p∈aV ((gsA ps zs ys w).take j) (fsA ys),Pr p/\CB 40 p
 st:Km (gsA ps zs ys w) (fsA ys) (aY (aX ys))
section
variable{ps:List Dt}(D:cY ps){zs:yat}(hz:bO zs (VA ps)){ys:yas}(rs:bN ys (ps.map TC))
include D hz rs
def Eg(w:Int):QM ps zs ys w:=by
 obtain⟨c,f⟩:=kf D hz w;have d:=iB D c (by lia) rs;have b:∀g∈gsA ps zs ys w,X5 40 g/\vc g≠(0,0):=λg a=>(Ta.mp a).elim (d.bv g) (c g)
 have c:(gsA ps zs ys w).length<=924:=by have:=d.bl;grind
 have R:=iB D b c rs;refine⟨b,c,λg a d=>?_,λj=>(R.X6 j).2,λj=>⟨(R.X6 j).1,λp c=>((R.X6 j).2.2 p c).1⟩,R.inc,R.ov,λg a=>(b g a).2,R.ne,λj b e=>R.own j b (R.bo b e),⟨_,rfl⟩⟩;rcases Ta.mp a with z|z;refine zDI d ?_;rw[mC];exact gf D.nn λp c _=>U5 (R.bo g z p c)
 exact((mP hz).mp z).2.2
def OE(e:cM ps zs ys w=[]):aV (gsA ps zs ys w) (fsA ys)=[]:=by
 obtain⟨a,d⟩:=kf D hz w;have inc:=(iB D a (by lia) rs).inc (dJ (bY ps zs) w).length;have K:=Eg D hz rs w;have b:=K.st.ov (gsA ps zs ys w).length;have a:=K.X6 (gsA ps zs ys w).length;rw[zCA]at inc b a;refine zBX λc=>?_
 obtain⟨y,b⟩:=zB4 _ c;exact qg (inc y (a.2 y b).1.pos (by simp_all) (by simp_all)) (a.2 y b).1.pos e
end
structure Im(ps:List Dt)(w:Int)(L:List (Tr×Int)):Prop where
 l2:2<=L.length
 l3:L.length<=3
 nl:∀x∈L,¬(x.1.2.1=0/\x.1.2.2=0)
 bd:∀x∈L,Bd 200 x.1.1/\Bd 200 x.1.2.1/\Bd 200 x.1.2.2/\Bd 900 x.2
 s1:∀x∈L,1<=x.2
 wt:∀x∈L,w<=wq (λp=>decide (0<=gd x.1 p)) ps
 c0:(L.map λx=>x.2*x.1.1).sum<0
 a0:(L.map λx=>x.2*x.1.2.1).sum=0
 b0:(L.map λx=>x.2*x.1.2.2).sum=0
abbrev Ib(G F:yat)(last:Nat)(r:yag×yaf):Prop:=last<G.length/\(∀j,j<=last->aV (G.take j) F ≠ [])/\aV (G.take (last+1)) F=[]/\ik G last (Uq last 1++Uq last 2)=some r
def Z0(G:yat)(r:yag×yaf):List (Tr×Int):=(r.1.zip r.2).map λz=>(G.getD z.1 (0,0,0),z.2)
def SbR(ps:List Dt)(n:Int)(L:List (Tr×Int)):Prop:=(aK ps=n/\L=[((-1,1,0),1),((0,-1,0),1)])∨(aK ps≠n/\∃c b a r,bO c (VA ps)/\bN b (ps.map TC)/\Ib (gsA ps c b (aK ps - n)) (fsA b) a r/\L=Z0 (gsA ps c b (aK ps - n)) r)
def Lj(a:Ib G F i r)(b:Ib G F j t):r=t:=by grind
def Pp(a:SbR ps n L)(b:SbR ps n M):L=M:=by
 rcases a with⟨e,rfl⟩| ⟨e,k,l,i,r,e,f,a,rfl⟩<;>rcases b with⟨g,rfl⟩| ⟨g,c,d,j,t,h,g,b,rfl⟩;rfl
 simp_all
 simp_all
 rw[jd h e,je g f]at b ⊢;rw[Lj a b]
def QB(D:cY ps){n:Int}(u:1<=n)(h:SbR ps n L):Im ps (aK ps - n) L:=by
 rcases h with⟨e,rfl⟩| ⟨e,b,h,a,r,g,c,B,rfl⟩
 ·have d:∀f,0<=wq f ps:=λf=>K4 D.nn
  have z:aK ps - n=0:=by lia
  rw[z];refine⟨by decide,by decide,?_,?_,?_,λx _=>d _,by decide,by decide,by decide⟩<;>intro x d<;>simp at d<;>rcases d with rfl|rfl
  all_goals first|decide|exact⟨by unfold Bd;decide,by unfold Bd;decide,by unfold Bd;decide,by unfold Bd;decide⟩
 have K:=Eg D g c (aK ps - n);obtain⟨f,c⟩:=r;obtain⟨J,t,M,i⟩:=B;obtain⟨⟨o,om,rfl⟩,e,p⟩:=pO i;have i:=K.gb;have q:=K.wt;clear K;generalize gsA ps b h (aK ps - n)=G at *;obtain⟨H,A⟩:=Ei om;have I:1<=o.length:=by grind [rG]
 have lo:(o++[a]).length=o.length+1:=by rw[Vh];rfl
 have y:(Xe G (o++[a])).length=(o++[a]).length:=by unfold Xe;rw[RH]
 have j:=uC (by lia) e;have C:=j.len;have m:∀k∈o++[a],G.getD k (0,0,0)∈G:=by grind
 have h:∀w∈Xe G (o++[a]),WB 400 w:=λw b=>by obtain⟨k,l,rfl⟩:=S5.mp b;have b:=(i _ (m k l)).1;exact⟨b.a.mono (by decide),b.b.mono (by decide)⟩
 have m:=Fv h (by lia) e;have e:∀x∈Z0 G (o++[a],c),x.1∈G/\x.2∈c:=λx d=>by obtain⟨z,g,rfl⟩:=S5.mp d;grind [List.of_mem_zip]
 have E:(Z0 G (o++[a],c)).length=o.length+1:=by unfold Z0;grind
 have sm:=j.sum;have g:∀(f:yag) (c:yaf),((Z0 G (f,c)).map λx=>x.2*x.1.1).sum=nC G f c/\wsum c (Xe G f)=(((Z0 G (f,c)).map λx=>x.2*x.1.2.1).sum,((Z0 G (f,c)).map λx=>x.2*x.1.2.2).sum):=λf=>by
  induction f with
  |nil=>intro c;exact⟨rfl,by cases c<;>rfl⟩
  |cons k f ih =>
   intro c;cases c with
   |nil=>exact⟨rfl,rfl⟩
   |cons s c =>
    obtain⟨h,f⟩:=ih c;unfold Z0 nC at h;unfold Z0 wsum Xe at f;unfold Z0 nC wsum Xe;have l:=congrArg Prod.fst f;have k:=congrArg Prod.snd f;dsimp only at h l k;simp only[List.zip_cons_cons,VS,zCo,List.zipWith_cons_cons,h,<- l,<- k,VG s,vc];exact⟨trivial,trivial⟩
 obtain⟨h,f⟩:=g (o++[a]) c;rw[f]at sm;refine⟨by lia,by lia,λx d z=>(i _ (e x d).1).2 (by unfold vc;rw[z.1,z.2]),λx d=>?_,λx d=>j.pos _ (e x d).2,λx d=>q _ (e x d).1 (by lia),by rw[h];exact p,congrArg Prod.fst sm,congrArg Prod.snd sm⟩;have b:=(i _ (e x d).1).1;exact⟨b.c.mono (by decide),b.a.mono (by decide),b.b.mono (by decide),m _ (e x d).2⟩
def U3(x:Tr×Int):D:=.tup [RD x.1,.int x.2]
def Cp:∀{a b:Tr×Int},U3 a=U3 b->a=b:=fun {a b} h=>by
 unfold U3 RD T3 at h
 lia
def Lk{a b:List (Tr×Int)}(h:a.map U3=b.map U3):a=b:=gJ Cp h
theorem Bs(x:Tr×Int):aU (U3 x)=U3 x:=rfl
def E7(xs:List (Tr×Int)):bf (xs.map U3)=xs.map U3:=cI U3 Bs xs
def Jh{A P:Prop} [Decidable c] (p:P)(h:c->P->A):if c then A else P:=by lia
def Lo(xs:yar)(k:Nat):PD.cutD xs none (some (k:Int))=xs.take k:=by by_cases h:k<=xs.length;exact zS xs h;unfold PD.cutD;rw[show HT.SG xs.length 0 none=0 from rfl,show HT.SG xs.length xs.length (some (k:Int))=min k xs.length from HT.kh _ _ k,Nat.min_eq_right (by lia),XJ (show xs.length<=k by lia)];grind
theorem CT:∀L:List (Tr×Int),fe (L.map U3)=true
 |[]=>rfl
 |_::L=>CT L
theorem CU:∀ps:List Dt,fe (ps.map RG)=true
 |[]=>rfl
 |_::ps=>CU ps
def CC{ps:List Dt}(h:ps ≠ []):Ec (.lst t (ps.map RG)):=by
 cases ps with
 |nil=>lia
 |cons p r=>exact .inr (.inl ⟨t,p.1,_,_,rfl,CU (p::r)⟩)
def exV{ρ:Ro}{f:(Nat->Option Sl)->Ro}(h:ρ=f λi=>ρ.getD i none):∃o,ρ=f o:=⟨_,h⟩
def exW{ρ:Ro}{f:(Nat->Option Sl)->D->Ro}{A:D->Prop}{d:D}(h:ρ=f (λi=>ρ.getD i none) d)(a:A d):∃o d,ρ=f o d/\A d:=⟨_,_,h,a⟩
def FD{a b:List (Tr×Int)}:a.map U3=b.map U3↔a=b:=⟨Lk,by lia⟩
def F7{a b:List Dt}:a.map RG=b.map RG↔a=b:=⟨LA,by lia⟩
def EJ{a b:List WJ}:a.map cw=b.map cw↔a=b:=⟨JO,by lia⟩
def Hg{a b:yas}:a.map Tc=b.map Tc↔a=b:=⟨MF,by lia⟩
def HG{a b:yas}:a.map SU=b.map SU↔a=b:=⟨M4,by lia⟩
def HL{a b:yat}:a.map RD=b.map RD↔a=b:=⟨M6,by lia⟩
def Hj:WI a=WI b↔a=b:=⟨MG,by lia⟩
def FC:U3 a=U3 b↔a=b:=⟨Cp,by lia⟩
def F4:RG a=RG b↔a=b:=⟨CA,by lia⟩
def Hd:Tc a=Tc b↔a=b:=⟨C2,by lia⟩
def HD:SU a=SU b↔a=b:=⟨De,by lia⟩
def GH{a b:yaf}:a.map D.int=b.map D.int↔a=b:=⟨BN,by lia⟩
local macro_rules|`(tactic|z_go)=>do
 let l := ("T3 List.cons.injEq D.int.injEq D.tup.injEq D.lst.injEq and_true true_and and_imp GH FD F7 EJ Hg HG HL Hj FC F4 Hd HD".splitOn " ").toArray.map λs => Lean.mkIdent s.toName
 `(tactic| (apply propext; constructor; (intro h; repeat (first | (obtain ⟨e, h⟩ := h; revert e; simp only [$[$l:ident],*]; intros; subst_vars; assumption) | obtain ⟨_, h⟩ := h)); (intro q; repeat (first | exact ⟨rfl, q⟩ | apply Exists.intro))))
section
variable(κ:SD)(Q:D->Prop)(Ed:Value->Prop)
abbrev rR(n:Int):Prop:=Q (.int (sg n))
def xB(κ:SD):DSp:=λa Q Ed=>∃(n:Int),a=[.int n]/\rR Q n
def E1 (n:Int):xB κ [.int n] Q Ed=rR Q n:=by z_go
abbrev fJ(a:Int)(b:Int):Prop:=Q (.int (Int.gcd a b:Int))
def fN(κ:SD):DSp:=λc Q Ed=>∃(a:Int) (b:Int),c=[.int a,.int b]/\fJ Q a b
def oO (a:Int) (b:Int):fN κ [.int a,.int b] Q Ed=fJ Q a b:=by z_go
abbrev jg(ns:yaf):Prop:=ns.length<100/\bX 0 ns≠0/\Bd 1000 (bX 0 ns)/\Q (.lst true ((dj ns).map D.int))
def jo(κ:SD):DSp:=λb Q Ed=>∃(a:yaf),b=[.lst false (a.map D.int)]/\jg Q a
def kQ (ns:yaf):jo κ [.lst false (ns.map D.int)] Q Ed=jg Q ns:=by z_go
abbrev oh(x y z:Int)(l:Int):Prop:=¬(x=0/\y=0/\z=0)/\Bd 4000 x/\Bd 4000 y/\Bd 4000 z/\Q (T3 (x.fdiv (PM.T4 x y z l)) (y.fdiv (PM.T4 x y z l)) (z.fdiv (PM.T4 x y z l)))
def oV(κ:SD):DSp:=λa Q Ed=>∃(x y z:Int) (l:Int),a=[T3 x y z,.int l]/\oh Q x y z l
def yW (x y z:Int) (l:Int):oV κ [T3 x y z,.int l] Q Ed=oh Q x y z l:=by z_go
abbrev og(n:Int)(s:Int):Prop:=∃m t:Nat,n=(m:Int)/\s=(t:Int)/\m<=1000/\t<=2/\Q (.lst true ((Uq m t).map V6))
def uh(κ:SD):DSp:=λa Q Ed=>∃(n:Int) (s:Int),a=[.int n,.int s]/\og Q n s
def Ca (n:Int) (s:Int):uh κ [.int n,.int s] Q Ed=og Q n s:=by z_go
abbrev tX(g0 g1 g2:Int)(p0 p1 p2:Int):Prop:=Bd 1000 g0/\Bd 1000 g1/\Bd 1000 g2/\Bd 1000 p0/\Bd 1000 p1/\Bd 1000 p2/\Q (.int (g0*p0+g1*p1+g2*p2))
def um(κ:SD):DSp:=λg Q Ed=>∃(f e d:Int) (c b a:Int),g=[T3 f e d,T3 c b a]/\tX Q f e d c b a
def Ce (e d c:Int) (b a p2:Int):um κ [T3 e d c,T3 b a p2] Q Ed=tX Q e d c b a p2:=by z_go
abbrev kg(g0 g1 g2:Int)(p0 p1 p2:Int):Prop:=Bd 1000 g0/\Bd 1000 g1/\Bd 1000 g2/\Bd 1000 p0/\Bd 1000 p1/\Bd 1000 p2/\Q (.int (sg (g0*p0+g1*p1+g2*p2)))
def iR(κ:SD):DSp:=λg Q Ed=>∃(f e d:Int) (c b a:Int),g=[T3 f e d,T3 c b a]/\kg Q f e d c b a
def j5 (e d c:Int) (b a p2:Int):iR κ [T3 e d c,T3 b a p2] Q Ed=kg Q e d c b a p2:=by z_go
abbrev lW(g0 g1 g2:Int):Prop:=Q (.bl (decide (g1=0/\g2=0)))
def mi(κ:SD):DSp:=λd Q Ed=>∃(c b a:Int),d=[T3 c b a]/\lW Q c b a
def xu (c b a:Int):mi κ [T3 c b a] Q Ed=lW Q c b a:=by z_go
abbrev jS(a0 a1 a2:Int)(b0 b1 b2:Int):Prop:=Bd 200 a0/\Bd 200 a1/\Bd 200 a2/\Bd 200 b0/\Bd 200 b1/\Bd 200 b2/\Q (T3 (a1*b2 - b1*a2) (a2*b0 - b2*a0) (a0*b1 - b0*a1))
def j0(κ:SD):DSp:=λg Q Ed=>∃(f e d:Int) (c b a:Int),g=[T3 f e d,T3 c b a]/\jS Q f e d c b a
def pD (a0 a1 c:Int) (b b1 a:Int):j0 κ [T3 a0 a1 c,T3 b b1 a] Q Ed=jS Q a0 a1 c b b1 a:=by z_go
abbrev w9(a0 a1 a2:Int)(b0 b1 b2:Int):Prop:=Bd 200 a0/\Bd 200 a1/\Bd 200 a2/\Bd 200 b0/\Bd 200 b1/\Bd 200 b2/\¬(a2*b0 - b2*a0=0/\a0*b1 - b0*a1=0)/\Q (RD (EL (a1*b2 - b1*a2) (a2*b0 - b2*a0) (a0*b1 - b0*a1)))
def xx(κ:SD):DSp:=λg Q Ed=>∃(f e d:Int) (c b a:Int),g=[T3 f e d,T3 c b a]/\w9 Q f e d c b a
def EY (a0 a1 c:Int) (b b1 a:Int):xx κ [T3 a0 a1 c,T3 b b1 a] Q Ed=w9 Q a0 a1 c b b1 a:=by z_go
abbrev lx(p0 p1 p2:Int)(w:Sp):Prop:=Bd 200 p0/\Bd 200 p1/\Bd 200 p2/\WB 200 w/\Q (T3 (-(w.1*p1+w.2*p2)) (w.1*p0) (w.2*p0))
def cR(κ:SD):DSp:=λd Q Ed=>∃(c b a:Int) (w:Sp),d=[T3 c b a,SU w]/\lx Q c b a w
def qM (b a p2:Int) (w:Sp):cR κ [T3 b a p2,SU w] Q Ed=lx Q b a p2 w:=by z_go
abbrev tV(b:Int)(x:Int)(y:Int):Prop:=b≠0/\Bd 4000 b/\Bd 4000 x/\Bd 4000 y/\Q (Pc b x y)
def ui(κ:SD):DSp:=λa Q Ed=>∃(b:Int) (x:Int) (y:Int),a=[.int b,.int x,.int y]/\tV Q b x y
def Cb (b:Int) (x:Int) (y:Int):ui κ [.int b,.int x,.int y] Q Ed=tV Q b x y:=by z_go
abbrev l6(a b:Int):Prop:=Q (T3 1 a b)
def mq(κ:SD):DSp:=λc Q Ed=>∃(a b:Int),c=[.tup [.int a,.int b]]/\l6 Q a b
def xy (a b:Int):mq κ [.tup [.int a,.int b]] Q Ed=l6 Q a b:=by z_go
abbrev rQ(a0 a1 a2:Int)(b0 b1 b2:Int):Prop:=Bd 1000 a0/\Bd 1000 a1/\Bd 1000 a2/\Bd 1000 b0/\Bd 1000 b1/\Bd 1000 b2/\Q (.int (rk a0 a1 a2 b0 b1 b2))
def rT(κ:SD):DSp:=λg Q Ed=>∃(f e d:Int) (c b a:Int),g=[T3 f e d,T3 c b a]/\rQ Q f e d c b a
def vT (a0 a1 c:Int) (b b1 a:Int):rT κ [T3 a0 a1 c,T3 b b1 a] Q Ed=rQ Q a0 a1 c b b1 a:=by z_go
abbrev ot(a0 a1 a2:Int)(b0 b1 b2:Int)(c0 c1 c2:Int):Prop:=Bd 1000 a0/\Bd 1000 a1/\Bd 1000 a2/\Bd 1000 b0/\Bd 1000 b1/\Bd 1000 b2/\Bd 1000 c0/\Bd 1000 c1/\Bd 1000 c2/\Q (.int (sw a0 a1 a2 b0 b1 b2 c0 c1 c2))
def oX(κ:SD):DSp:=λj Q Ed=>∃(i h g:Int) (f e d:Int) (c b a:Int),j=[T3 i h g,T3 f e d,T3 c b a]/\ot Q i h g f e d c b a
def sP (a0 a1 f:Int) (e b1 d:Int) (c b a:Int):oX κ [T3 a0 a1 f,T3 e b1 d,T3 c b a] Q Ed=ot Q a0 a1 f e b1 d c b a:=by z_go
abbrev nX(a0 a1 a2:Int)(b0 b1 b2:Int):Prop:=Bd 200 a0/\Bd 200 a1/\Bd 200 a2/\Bd 200 b0/\Bd 200 b1/\Bd 200 b2/\Q (.tup [.int (a0*b1 - b0*a1),.int (a0*b2 - b0*a2)])
def oK(κ:SD):DSp:=λg Q Ed=>∃(f e d:Int) (c b a:Int),g=[T3 f e d,T3 c b a]/\nX Q f e d c b a
def sN (a0 a1 c:Int) (b b1 a:Int):oK κ [T3 a0 a1 c,T3 b b1 a] Q Ed=nX Q a0 a1 c b b1 a:=by z_go
abbrev xc(a:Sp)(b:Sp):Prop:=WB 400 a/\WB 400 b/\Q (.int (tn a b))
def xD(κ:SD):DSp:=λc Q Ed=>∃(a:Sp) (b:Sp),c=[SU a,SU b]/\xc Q a b
def E2 (a:Sp) (b:Sp):xD κ [SU a,SU b] Q Ed=xc Q a b:=by z_go
abbrev rN(w:Sp):Prop:=Q (SU (SO w))
def mW(κ:SD):DSp:=λa Q Ed=>∃(w:Sp),a=[SU w]/\rN Q w
theorem vP (w:Sp):mW κ [SU w] Q Ed=rN Q w:=by z_go
abbrev jU(w:Sp):Prop:=Q (SU (S7 w))
def j4(κ:SD):DSp:=λa Q Ed=>∃(w:Sp),a=[SU w]/\jU Q w
theorem pE (w:Sp):j4 κ [SU w] Q Ed=jU Q w:=by z_go
abbrev oo(p:Dt):Prop:=Q (.tup [.int p.1,.int p.2.1])
def oW(κ:SD):DSp:=λa Q Ed=>∃(p:Dt),a=[RG p]/\oo Q p
def yX (p:Dt):oW κ [RG p] Q Ed=oo Q p:=by z_go
abbrev l7(ps:List Dt):Prop:=ps.length<=60/\Q (.lst true ((ps.map TC).map SU))
def mv(κ:SD):DSp:=λb Q Ed=>∃(a:List Dt),b=[.lst false (a.map RG)]/\l7 Q a
def xC (ps:List Dt):mv κ [.lst false (ps.map RG)] Q Ed=l7 Q ps:=by z_go
abbrev kL(ps:List Dt)(col:D):Prop:=∃cs:Int->Bool,uy col cs/\ps.length<=60/\Q (.lst true ((ps.filter λp=>cs p.2.2.1).map RG))
def kR(κ:SD):DSp:=λc Q Ed=>∃(b:List Dt) (a:D),c=[.lst false (b.map RG),a]/\kL Q b a
def vR (ps:List Dt) (col:D):kR κ [.lst false (ps.map RG),col] Q Ed=kL Q ps col:=by z_go
abbrev tW(ps:List Dt)(col:D):Prop:=∃cs:Int->Bool,uy col cs/\ps.length<=60/\Q (.int (XH cs ps))
def gF(κ:SD):DSp:=λc Q Ed=>∃(b:List Dt) (a:D),c=[.lst false (b.map RG),a]/\tW Q b a
def Cc (ps:List Dt) (col:D):gF κ [.lst false (ps.map RG),col] Q Ed=tW Q ps col:=by z_go
abbrev jV(ps:List Dt)(g0 g1 g2:Int)(col:D):Prop:=∃cs:Int->Bool,uy col cs/\ps.length<=60/\Bd 1000 g0/\Bd 1000 g1/\Bd 1000 g2/\(∀p∈ps,GD p)/\Q (.tup [.int (wt cs g0 g1 g2 (-1) ps),.int (wt cs g0 g1 g2 0 ps),.int (wt cs g0 g1 g2 1 ps)])
def ib(κ:SD):DSp:=λf Q Ed=>∃(b:List Dt) (e d c:Int) (a:D),f=[.lst false (b.map RG),T3 e d c,a]/\jV Q b e d c a
def pF (ps:List Dt) (c b a:Int) (col:D):ib κ [.lst false (ps.map RG),T3 c b a,col] Q Ed=jV Q ps c b a col:=by z_go
abbrev kJ(ps:yas):Prop:=ps.length<64/\(∀p∈ps,SB p)/\Q (.lst true ((bJ [] ps).reverse.map Tc))
def uf(κ:SD):DSp:=λb Q Ed=>∃(a:yas),b=[.lst false (a.map Tc)]/\kJ Q a
def sO (ps:yas):uf κ [.lst false (ps.map Tc)] Q Ed=kJ Q ps:=by z_go
abbrev rP(ps:yas):Prop:=ps.length<64/\(∀p∈ps,SB p)/\∀ys,bN ys ps->ys.length<=ps.length->Q (.lst true ((aX ys).map Tc))
def xt(κ:SD):DSp:=λb Q Ed=>∃(a:yas),b=[.lst false (a.map SU)]/\rP Q a
def EX (ps:yas):xt κ [.lst false (ps.map SU)] Q Ed=rP Q ps:=by z_go
abbrev fq(a:Sp)(b:Sp):Prop:=SB a/\SB b/\Q (.lst true ((gc a b).map RD))
def iS(κ:SD):DSp:=λc Q Ed=>∃(a:Sp) (b:Sp),c=[Tc a,Tc b]/\fq Q a b
def jI (a:Sp) (b:Sp):iS κ [Tc a,Tc b] Q Ed=fq Q a b:=by z_go
abbrev lh(hs:yas):Prop:=0<hs.length/\hs.length<200/\(∀p∈hs,SB p)/\Q (.lst true ((aY hs).map RD))
def qJ(κ:SD):DSp:=λb Q Ed=>∃(a:yas),b=[.lst false (a.map Tc)]/\lh Q a
def qK (hs:yas):qJ κ [.lst false (hs.map Tc)] Q Ed=lh Q hs:=by z_go
abbrev gP(ps:List Dt)(ij:(Nat×Nat)):Prop:=ij.1<ps.length/\ij.2<ps.length/\Q (.bl (decide (TC (gp ps ij.1)≠TC (gp ps ij.2))))
def hJ(κ:SD):DSp:=λc Q Ed=>∃(a:List Dt) (b:(Nat×Nat)),c=[.lst false (a.map RG),WI b]/\gP Q a b
def qO (ps:List Dt) (a:(Nat×Nat)):hJ κ [.lst false (ps.map RG),WI a] Q Ed=gP Q ps a:=by z_go
abbrev jx(ps:List Dt):Prop:=ps.length<=60/\Q (.lst true (((prs ps.length).filter λij=>decide (TC (gp ps ij.1)≠TC (gp ps ij.2))).map WI))
def jH(κ:SD):DSp:=λb Q Ed=>∃(a:List Dt),b=[.lst false (a.map RG)]/\jx Q a
def uj (ps:List Dt):jH κ [.lst false (ps.map RG)] Q Ed=jx Q ps:=by z_go
abbrev kM(ps:List Dt)(ij:(Nat×Nat)):Prop:=ij.1<ps.length/\ij.2<ps.length/\(∀p∈ps,GD p)/\TC (gp ps ij.1)≠TC (gp ps ij.2)/\Q (RD (lnF (gp ps ij.1) (gp ps ij.2)))
def kS(κ:SD):DSp:=λc Q Ed=>∃(a:List Dt) (b:(Nat×Nat)),c=[.lst false (a.map RG),WI b]/\kM Q a b
def vS (ps:List Dt) (a:(Nat×Nat)):kS κ [.lst false (ps.map RG),WI a] Q Ed=kM Q ps a:=by z_go
abbrev fV(ps:List Dt)(ls:yat):Prop:=ps.length<=60/\(∀p∈ps,GD p)/\ls.length<=900/\(∀g∈ls,Bd 1000 g.1/\Bd 1000 g.2.1/\Bd 1000 g.2.2)/\∀ys,bO ys ls->Q (.lst true (ys.map (A7 ps)))
def mr(κ:SD):DSp:=λc Q Ed=>∃(a:List Dt) (b:yat),c=[.lst false (a.map RG),.lst false (b.map RD)]/\fV Q a b
def ng (ps:List Dt) (a:yat):mr κ [.lst false (ps.map RG),.lst false (a.map RD)] Q Ed=fV Q ps a:=by z_go
abbrev jw(ps:List Dt):Prop:=ps.length<=30/\(∀p∈ps,GD p)/\Q (.lst true ((wW ps).map RD))
def jG(κ:SD):DSp:=λb Q Ed=>∃(a:List Dt),b=[.lst false (a.map RG)]/\jw Q a
def ug (ps:List Dt):jG κ [.lst false (ps.map RG)] Q Ed=jw Q ps:=by z_go
abbrev qq(w:Sp):Prop:=Q (.int (bC w))
def qN(κ:SD):DSp:=λa Q Ed=>∃(w:Sp),a=[SU w]/\qq Q w
def Bq (w:Sp):qN κ [SU w] Q Ed=qq Q w:=by z_go
abbrev gO(a:Sp)(b:Sp):Prop:=WB 400 a/\WB 400 b/\Q (.bl (decide (tn a b=0/\Rp a b<0)))
def gU(κ:SD):DSp:=λc Q Ed=>∃(a:Sp) (b:Sp),c=[SU a,SU b]/\gO Q a b
def qI (a:Sp) (b:Sp):gU κ [SU a,SU b] Q Ed=gO Q a b:=by z_go
abbrev fH(a:Sp)(b:Sp):Prop:=WB 400 a/\WB 400 b/\Q (oL (pN a b))
def fM(κ:SD):DSp:=λc Q Ed=>∃(a:Sp) (b:Sp),c=[SU a,SU b]/\fH Q a b
def oN (a:Sp) (b:Sp):fM κ [SU a,SU b] Q Ed=fH Q a b:=by z_go
abbrev dS(a:Sp)(b:Sp)(e:Sp):Prop:=WB 400 a/\WB 400 b/\WB 400 e/\Q (oL (lM a b e))
def dW(κ:SD):DSp:=λc Q Ed=>∃(a:Sp) (b:Sp) (e:Sp),c=[SU a,SU b,SU e]/\dS Q a b e
def mf (a:Sp) (b:Sp) (e:Sp):dW κ [SU a,SU b,SU e] Q Ed=dS Q a b e:=by z_go
abbrev jR(ws:yas):Prop:=0<ws.length/\ws.length<4/\(∀w∈ws,WB 400 w)/\Q (oL (lN ws))
def oM(κ:SD):DSp:=λb Q Ed=>∃(a:yas),b=[.lst false (a.map SU)]/\jR Q a
def pC (ws:yas):oM κ [.lst false (ws.map SU)] Q Ed=jR Q ws:=by z_go
abbrev dM(a0 a1 a2:Int)(b0 b1 b2:Int)(g0 g1 g2:Int):Prop:=Bd 200 a0/\Bd 200 a1/\Bd 200 a2/\Bd 200 b0/\Bd 200 b1/\Bd 200 b2/\Bd 200 g0/\Bd 200 g1/\Bd 200 g2/\(SA (g0,g1,g2) (a0,a1,a2) (b0,b1,b2)).1≠0/\Q (RD (c8 (g0,g1,g2) (a0,a1,a2) (b0,b1,b2)))
def dO(κ:SD):DSp:=λj Q Ed=>∃(i h g:Int) (f e d:Int) (c b a:Int),j=[T3 i h g,T3 f e d,T3 c b a]/\dM Q i h g f e d c b a
def ic (a0 a1 f:Int) (e b1 d:Int) (c b a:Int):dO κ [T3 a0 a1 f,T3 e b1 d,T3 c b a] Q Ed=dM Q a0 a1 f e b1 d c b a:=by z_go
abbrev fh(cs:yat)(g0 g1 g2:Int):Prop:=cs.length<=1000000/\(∀p∈cs,0<p.1/\CB 40 p)/\Bd 200 g0/\Bd 200 g1/\Bd 200 g2/\Q (.lst true ((eW (g0,g1,g2) cs).map RD))
def gW(κ:SD):DSp:=λe Q Ed=>∃(d:yat) (c b a:Int),e=[.lst false (d.map RD),T3 c b a]/\fh Q d c b a
def jF (cs:yat) (c b a:Int):gW κ [.lst false (cs.map RD),T3 c b a] Q Ed=fh Q cs c b a:=by z_go
abbrev qp(cs:yat)(gs:yat):Prop:=gs.length<=1000/\(∀j,j<gs.length->(aV (gs.take j) cs).length<=1000000/\∀p∈aV (gs.take j) cs,0<p.1/\CB 40 p)/\(∀g∈gs,Bd 200 g.1/\Bd 200 g.2.1/\Bd 200 g.2.2)/\∀t:Bool,Q (.lst t ((aV gs cs).map RD))
def qL(κ:SD):DSp:=λc Q Ed=>∃(b:yat) (a:yat),c=[.lst false (b.map RD),.lst false (a.map RD)]/\qp Q b a
def Bo (cs:yat) (gs:yat):qL κ [.lst false (cs.map RD),.lst false (gs.map RD)] Q Ed=qp Q cs gs:=by z_go
abbrev vB(cs:yat):Prop:=cs.length<=1000000/\(∀p∈cs,CB 40 p)/\Q (.lst true ((kF cs).map RD))
def Bp(κ:SD):DSp:=λb Q Ed=>∃(a:yat),b=[.lst false (a.map RD)]/\vB Q a
def HE (cs:yat):Bp κ [.lst false (cs.map RD)] Q Ed=vB Q cs:=by z_go
abbrev iC(cs:yat)(gs:yat):Prop:=gs.length<=1000/\(∀j,j<=gs.length->(aV (gs.take j) cs).length<=1000000/\∀p∈aV (gs.take j) cs,0<p.1/\CB 40 p)/\(∀g∈gs,Bd 200 g.1/\Bd 200 g.2.1/\Bd 200 g.2.2)/\∃last:Nat,last<gs.length/\(∀j,j<=last->aV (gs.take j) cs ≠ [])/\aV (gs.take (last+1)) cs=[]/\Q (.int (last:Int))
def iN(κ:SD):DSp:=λc Q Ed=>∃(b:yat) (a:yat),c=[.lst false (b.map RD),.lst false (a.map RD)]/\iC Q b a
def si (cs:yat) (gs:yat):iN κ [.lst false (cs.map RD),.lst false (gs.map RD)] Q Ed=iC Q cs gs:=by z_go
abbrev fU(gs:yat)(ns:yaf)(sh:yaf):Prop:=∃pk:yag,ns=pk.map (λ(k:Nat)=>(k:Int))/\pk.length=sh.length/\pk.length<=3/\(∀k∈pk,k<gs.length)/\(∀g∈gs,Bd 200 g.1)/\(∀s∈sh,Bd 900 s)/\Q (.int (nC gs pk sh))
def mh(κ:SD):DSp:=λd Q Ed=>∃(c:yat) (b:yaf) (a:yaf),d=[.lst false (c.map RD),.lst false (b.map D.int),.lst false (a.map D.int)]/\fU Q c b a
def mZ (gs:yat) (ns:yaf) (sh:yaf):mh κ [.lst false (gs.map RD),.lst false (ns.map D.int),.lst false (sh.map D.int)] Q Ed=fU Q gs ns sh:=by z_go
abbrev rO(cs:yat)(gs:yat):Prop:=gs.length<=1000/\(∀j,j<=gs.length->(aV (gs.take j) cs).length<=1000000/\∀p∈aV (gs.take j) cs,0<p.1/\CB 40 p)/\(∀g∈gs,Bd 200 g.1/\Bd 200 g.2.1/\Bd 200 g.2.2)/\∃last:Nat,last<gs.length/\(∀j,j<=last->aV (gs.take j) cs ≠ [])/\aV (gs.take (last+1)) cs=[]/\∃r:yag×yaf,ik gs last (Uq last 1++Uq last 2)=some r/\Q (.lst true ((r.1.zip r.2).map ub))
def xr(κ:SD):DSp:=λc Q Ed=>∃(b:yat) (a:yat),c=[.lst false (b.map RD),.lst false (a.map RD)]/\rO Q b a
def EW (cs:yat) (gs:yat):xr κ [.lst false (cs.map RD),.lst false (gs.map RD)] Q Ed=rO Q cs gs:=by z_go
abbrev jv(ps:List Dt):Prop:=ps.length<=60/\Q (.lst true ((axL ps).map RD))
def jE(κ:SD):DSp:=λb Q Ed=>∃(a:List Dt),b=[.lst false (a.map RG)]/\jv Q a
def ue (ps:List Dt):jE κ [.lst false (ps.map RG)] Q Ed=jv Q ps:=by z_go
abbrev iX(g0 g1 g2:Int):Prop:=Q (T3 (-g0) (-g1) (-g2))
def i5(κ:SD):DSp:=λd Q Ed=>∃(c b a:Int),d=[T3 c b a]/\iX Q c b a
def nc (c b a:Int):i5 κ [T3 c b a] Q Ed=iX Q c b a:=by z_go
abbrev fi(ps:List Dt):Prop:=ps.length<=20/\(∀p∈ps,GD p)/\∀zs,bO zs (VA ps)->Q (.lst true ((bY ps zs).map cw))
def iM(κ:SD):DSp:=λb Q Ed=>∃(a:List Dt),b=[.lst false (a.map RG)]/\fi Q a
def se (ps:List Dt):iM κ [.lst false (ps.map RG)] Q Ed=fi Q ps:=by z_go
abbrev xb(xs:List WJ)(w:Int):Prop:=xs.length<=2000/\Q (.lst true ((dJ xs w).map RD))
def xA(κ:SD):DSp:=λb Q Ed=>∃(a:List WJ) (w:Int),b=[.lst false (a.map cw),.int w]/\xb Q a w
def EZ (xs:List WJ) (w:Int):xA κ [.lst false (xs.map cw),.int w] Q Ed=xb Q xs w:=by z_go
abbrev nZ(ps:List Dt):Prop:=ps.length<=20/\(∀p∈ps,GD p)/\∀ys,bN ys (ps.map TC)->Q (.lst true (((aX ys).map sT).map RD))
def oR(κ:SD):DSp:=λb Q Ed=>∃(a:List Dt),b=[.lst false (a.map RG)]/\nZ Q a
def yT (ps:List Dt):oR κ [.lst false (ps.map RG)] Q Ed=nZ Q ps:=by z_go
abbrev gn(ps:List Dt)(xs:List WJ)(l:Int):Prop:=cY ps/\(∃zs,bO zs (VA ps)/\xs=bY ps zs)/\∀zs ys,bO zs (VA ps)->bN ys (ps.map TC)->Q (.lst true ((kF (cM ps zs ys (aK ps - l+1))).map RD))
def gE(κ:SD):DSp:=λc Q Ed=>∃(b:List Dt) (a:List WJ) (l:Int),c=[.lst false (b.map RG),.lst false (a.map cw),.int l]/\gn Q b a l
def pH (ps:List Dt) (xs:List WJ) (l:Int):gE κ [.lst false (ps.map RG),.lst false (xs.map cw),.int l] Q Ed=gn Q ps xs l:=by z_go
abbrev qr(ps:List Dt)(l:Int):Prop:=cY ps/\1<=l/\l<=aK ps/\∀zs ys,bO zs (VA ps)->bN ys (ps.map TC)->Q (.lst true ((kF (cM ps zs ys (aK ps - l+1))).map RD))
def qP(κ:SD):DSp:=λb Q Ed=>∃(a:List Dt) (l:Int),b=[.lst false (a.map RG),.int l]/\qr Q a l
def Br (ps:List Dt) (l:Int):qP κ [.lst false (ps.map RG),.int l] Q Ed=qr Q ps l:=by z_go
abbrev fK(ps:List Dt)(xs:List WJ):Prop:=cY ps/\(∃zs,bO zs (VA ps)/\xs=bY ps zs)/\∀n,GrD ps n->Q (.int n)
def fO(κ:SD):DSp:=λc Q Ed=>∃(b:List Dt) (a:List WJ),c=[.lst false (b.map RG),.lst false (a.map cw)]/\fK Q b a
def oQ (ps:List Dt) (xs:List WJ):fO κ [.lst false (ps.map RG),.lst false (xs.map cw)] Q Ed=fK Q ps xs:=by z_go
abbrev dY(ps:List Dt)(xs:List WJ)(n:Int):Prop:=cY ps/\(∃zs,bO zs (VA ps)/\xs=bY ps zs)/\GrD ps n/\∀L,SbR ps n L->Q (.lst true (L.map U3))
def hU(κ:SD):DSp:=λc Q Ed=>∃(b:List Dt) (a:List WJ) (n:Int),c=[.lst false (b.map RG),.lst false (a.map cw),.int n]/\dY Q b a n
def qQ (ps:List Dt) (xs:List WJ) (n:Int):hU κ [.lst false (ps.map RG),.lst false (xs.map cw),.int n] Q Ed=dY Q ps xs n:=by z_go
abbrev nY(ps:List Dt):Prop:=(ps=[]/\Ed (.ref κ.TooFew))∨(12<ps.length/\Ed (.ref κ.TooMany))∨(cY ps/\ps.length<=12/\∀n y L zs ys r,bO zs (VA ps)->bN ys (ps.map TC)->GrD ps n->kF (cM ps zs ys (aK ps - n+1))=y::r->SbR ps n L->Q (.tup [.int n,RD y,.lst true (L.map U3)]))
def oP(κ:SD):DSp:=λb Q Ed=>∃(a:List Dt),b=[.lst false (a.map RG)]/\nY κ Q Ed a
def yS (ps:List Dt):oP κ [.lst false (ps.map RG)] Q Ed=nY κ Q Ed ps:=by z_go
abbrev kK(a:Int):Prop:=Q (.bl true)
def kP(κ:SD):DSp:=λb Q Ed=>∃(a:Int),b=[.int a]/\kK Q a
def vQ (a:Int):kP κ [.int a] Q Ed=kK Q a:=by z_go
abbrev iD(ns:yaf)(k:Int):Prop:=0<=k/\ns.length<=63/\∀v:Int,Q (.int v)
def iO(κ:SD):DSp:=λb Q Ed=>∃(a:yaf) (k:Int),b=[.lst false (a.map D.int),.int k]/\iD Q a k
def sj (ns:yaf) (k:Int):iO κ [.lst false (ns.map D.int),.int k] Q Ed=iD Q ns k:=by z_go
abbrev iE(a:Int)(b:Int):Prop:=Q (.int (Int.gcd a b:Int))
def iQ(κ:SD):DSp:=λc Q Ed=>∃(a:Int) (b:Int),c=[.int a,.int b]/\iE Q a b
def sr (a:Int) (b:Int):iQ κ [.int a,.int b] Q Ed=iE Q a b:=by z_go
abbrev jT(c:Int)(k:Int)(v:Int):Prop:=0<=v/\v<=2/\∀p:Dt,GD p->Bd 40 p.1->Bd 40 p.2.1->0<p.2.2.2->Q (RG p)
def oU(κ:SD):DSp:=λa Q Ed=>∃(c:Int) (k:Int) (v:Int),a=[.int c,.int k,.int v]/\jT Q c k v
def yV (c:Int) (k:Int) (v:Int):oU κ [.int c,.int k,.int v] Q Ed=jT Q c k v:=by z_go
abbrev l5(ns:yaf)(s:Int)(m:Int):Prop:=ns.length<=63/\s=2/\m=12/\∀ps:List Dt,cY ps->ps.length<=12->Q (.lst true (ps.map RG))
def ml(κ:SD):DSp:=λb Q Ed=>∃(a:yaf) (s:Int) (m:Int),b=[.lst false (a.map D.int),.int s,.int m]/\l5 Q a s m
def xw (ns:yaf) (s:Int) (m:Int):ml κ [.lst false (ns.map D.int),.int s,.int m] Q Ed=l5 Q ns s m:=by z_go
abbrev eQ(ps:List Dt)(h0 h1 h2:Int):Prop:=ps.length<=30/\(∀p∈ps,GD p)/\(∀p∈ps,0<=p.2.2.2)/\HB (h0,h1,h2)/\∀n:Int,(∀g:Tr,IsL (h0,h1,h2) ps g->n=UY g ps)->Q (.int n)
def gZ(κ:SD):DSp:=λe Q Ed=>∃(a:List Dt) (d c b:Int),e=[.lst false (a.map RG),T3 d c b]/\eQ Q a d c b
def lD (ps:List Dt) (h0 b a:Int):gZ κ [.lst false (ps.map RG),T3 h0 b a] Q Ed=eQ Q ps h0 b a:=by z_go
abbrev dX(h0 h1 h2:Int):Prop:=Pr (h0,h1,h2)/\Q (.bl true)
def d5(κ:SD):DSp:=λd Q Ed=>∃(c b a:Int),d=[T3 c b a]/\dX Q c b a
def jj (h0 b a:Int):d5 κ [T3 h0 b a] Q Ed=dX Q h0 b a:=by z_go
abbrev n9(x:(Tr×Int))(ps:List Dt)(l:Int):Prop:=ps.length<=30/\(∀p∈ps,GD p)/\¬(x.1.2.1=0/\x.1.2.2=0)/\Bd 200 x.1.2.1/\Bd 200 x.1.2.2/\1<=x.2/\l<=wq (λp=>decide (0<=gd x.1 p)) ps/\Q (.bl true)
def oS(κ:SD):DSp:=λb Q Ed=>∃(x:(Tr×Int)) (a:List Dt) (l:Int),b=[U3 x,.lst false (a.map RG),.int l]/\n9 Q x a l
def yU (x:(Tr×Int)) (ps:List Dt) (l:Int):oS κ [U3 x,.lst false (ps.map RG),.int l] Q Ed=n9 Q x ps l:=by z_go
abbrev l4(L:List (Tr×Int))(ps:List Dt)(l:Int):Prop:=ps.length<=30/\(∀p∈ps,GD p)/\Im ps l L/\Q (.bl true)
def mj(κ:SD):DSp:=λb Q Ed=>∃(L:List (Tr×Int)) (a:List Dt) (l:Int),b=[.lst false (L.map U3),.lst false (a.map RG),.int l]/\l4 Q L a l
def xv (L:List (Tr×Int)) (ps:List Dt) (l:Int):mj κ [.lst false (L.map U3),.lst false (ps.map RG),.int l] Q Ed=l4 Q L ps l:=by z_go
abbrev fk(d:D)(ps:List Dt):Prop:=∃(n:Int) (y:Tr) (L:List (Tr×Int)),d=.tup [.int n,RD y,.lst false (L.map U3)]/\cY ps/\Pr y/\CB 40 y/\aK ps<=3*n/\(∀g,IsL y ps g->UY g ps=n)/\Im ps (aK ps - n) L/\Q (.bl true)
def iP(κ:SD):DSp:=λb Q Ed=>∃(d:D) (a:List Dt),b=[d,.lst false (a.map RG)]/\fk Q d a
def sk (d:D) (ps:List Dt):iP κ [d,.lst false (ps.map RG)] Q Ed=fk Q d ps:=by z_go
abbrev dD(ps:List Dt)(b:D):Prop:=((ps=[]/\b=.bl true)∨(12<ps.length/\b=.bl false))/\Q (.bl true)
def fC(κ:SD):DSp:=λc Q Ed=>∃(a:List Dt) (b:D),c=[.lst false (a.map RG),b]/\dD Q a b
def fP (ps:List Dt) (b:D):fC κ [.lst false (ps.map RG),b] Q Ed=dD Q ps b:=by z_go
end
section
variable(P:Program)(w:World)(K:yac)(mg:yam)(base:Heap)(κ:SD)
abbrev Fo:Prop:=SM P w K mg base "sign" 1 ["number"] (xB κ)
abbrev kx:Prop:=SM P w K mg base "common_divisor" 1 ["one", "other"] (fN κ)
abbrev zp:Prop:=SM P w K mg base "lowest" 2 ["numbers"] (jo κ)
abbrev xM:Prop:=SM P w K mg base "reduced" 2 ["triple", "lead"] (oV κ)
abbrev Ck:Prop:=SM P w K mg base "picks" 1 ["count", "size"] (uh κ)
abbrev Cm:Prop:=SM P w K mg base "value" 1 ["gauge", "place"] (um κ)
abbrev Fn:Prop:=SM P w K mg base "side" 2 ["gauge", "place"] (iR κ)
abbrev Dx:Prop:=SM P w K mg base "is_level" 1 ["gauge"] (mi κ)
abbrev xI:Prop:=SM P w K mg base "crossed" 1 ["one", "other"] (j0 κ)
abbrev Nm:Prop:=SM P w K mg base "line" 3 ["one", "other"] (xx κ)
abbrev Ih:Prop:=SM P w K mg base "facing" 1 ["place", "way"] (cR κ)
abbrev Ld:Prop:=SM P w K mg base "place" 3 ["by", "x", "y"] (ui κ)
abbrev nj:Prop:=SM P w K mg base "place_of" 1 ["spot"] (mq κ)
abbrev Nn:Prop:=SM P w K mg base "rank" 2 ["one", "other"] (rT κ)
abbrev Le:Prop:=SM P w K mg base "swing" 1 ["one", "two", "three"] (oX κ)
abbrev K8:Prop:=SM P w K mg base "arrow" 1 ["one", "other"] (oK κ)
abbrev Fp:Prop:=SM P w K mg base "turn" 1 ["one", "other"] (xD κ)
abbrev Nj:Prop:=SM P w K mg base "back" 1 ["way"] (mW κ)
abbrev Fj:Prop:=SM P w K mg base "left_of" 1 ["way"] (j4 κ)
abbrev kZ:Prop:=SM P w K mg base "spot_of" 1 ["dot"] (oW κ)
abbrev DH:Prop:=SM P w K mg base "spots_of" 2 ["dots"] (mv κ)
abbrev sC:Prop:=SM P w K mg base "of_colour" 1 ["dots", "colour"] (kR κ)
abbrev K9:Prop:=SM P w K mg base "chain" 2 ["places"] (uf κ)
abbrev Nl:Prop:=SM P w K mg base "hull" 3 ["spots"] (xt κ)
abbrev yJ:Prop:=SM P w K mg base "thin_bounds" 2 ["one", "other"] (iS κ)
abbrev Ie:Prop:=SM P w K mg base "bounds" 3 ["corners"] (qJ κ)
abbrev wy:Prop:=SM P w K mg base "on_two_spots" 2 ["dots", "pair"] (hJ κ)
abbrev zr:Prop:=SM P w K mg base "spot_pairs" 3 ["dots"] (jH κ)
abbrev BA:Prop:=SM P w K mg base "pair_line" 4 ["dots", "pair"] (kS κ)
abbrev DF:Prop:=SM P w K mg base "split_by" 4 ["dots", "lines"] (mr κ)
abbrev zq:Prop:=SM P w K mg base "pair_lines" 5 ["dots"] (jG κ)
abbrev zo:Prop:=SM P w K mg base "length" 1 ["way"] (qN κ)
abbrev wu:Prop:=SM P w K mg base "are_opposite" 2 ["one", "other"] (gU κ)
abbrev sV:Prop:=SM P w K mg base "balance_of_two" 3 ["one", "other"] (fM κ)
abbrev pK:Prop:=SM P w K mg base "balance_of_three" 3 ["one", "two", "three"] (dW κ)
abbrev Fg:Prop:=SM P w K mg base "balance" 4 ["ways"] (oM κ)
abbrev uz:Prop:=SM P w K mg base "place_between" 4 ["one", "other", "gauge"] (dO κ)
abbrev xH:Prop:=SM P w K mg base "clipped" 5 ["corners", "gauge"] (gW κ)
abbrev Ig:Prop:=SM P w K mg base "common" 6 ["corners", "gauges"] (qL κ)
abbrev PT:Prop:=SM P w K mg base "led" 3 ["corners"] (Bp κ)
abbrev yF:Prop:=SM P w K mg base "last_needed" 6 ["corners", "gauges"] (iN κ)
abbrev Dw:Prop:=SM P w K mg base "constant" 1 ["gauges", "numbers", "shares"] (mh κ)
abbrev Nk:Prop:=SM P w K mg base "bars" 7 ["corners", "gauges"] (xr κ)
abbrev zj:Prop:=SM P w K mg base "axis_lines" 1 ["dots"] (jE κ)
abbrev DD:Prop:=SM P w K mg base "opposite" 1 ["gauge"] (i5 κ)
abbrev o8:Prop:=SM P w K mg base "half_planes" 6 ["dots"] (iM κ)
abbrev Fm:Prop:=SM P w K mg base "rims" 1 ["planes", "weight"] (xA κ)
abbrev xK:Prop:=SM P w K mg base "hull_of" 4 ["dots"] (oR κ)
abbrev gK:Prop:=SM P w K mg base "region_within" 7 ["dots", "planes", "least"] (gE κ)
abbrev Ii:Prop:=SM P w K mg base "region" 8 ["dots", "least"] (qP κ)
abbrev sW:Prop:=SM P w K mg base "greatest_depth" 8 ["dots", "planes"] (fO κ)
abbrev wz:Prop:=SM P w K mg base "shallow_bars" 8 ["dots", "planes", "found"] (hU κ)
abbrev xJ:Prop:=SM P w K mg base "deepest" 9 ["dots"] (oP κ)
abbrev lJ:Prop:=SM P w K mg base "_law_whole" 1 ["_law_found"] (kP κ)
abbrev o9:Prop:=SM P w K mg base "_law_cell_at" 1 ["_law_script", "_law_k"] (iO κ)
abbrev yH:Prop:=SM P w K mg base "_law_divisor" 1 ["_law_one", "_law_other"] (iQ κ)
abbrev Fi:Prop:=SM P w K mg base "_law_dot" 1 ["_law_cell", "_law_kind", "_law_heavy"] (oU κ)
abbrev DC:Prop:=SM P w K mg base "_law_dots" 2 ["_law_script", "_law_start", "_law_most"] (ml κ)
abbrev Bz:Prop:=SM P w K mg base "_law_depth" 1 ["_law_dots_here", "_law_here"] (gZ κ)
abbrev wx:Prop:=SM P w K mg base "_law_is_place" 2 ["_law_found"] (d5 κ)
abbrev Fh:Prop:=SM P w K mg base "_law_bar" 2 ["_law_row", "_law_dots_here", "_law_least"] (oS κ)
abbrev Dy:Prop:=SM P w K mg base "_law_bars" 3 ["_law_rows", "_law_dots_here", "_law_least"] (mj κ)
abbrev yG:Prop:=SM P w K mg base "_law_deepest" 4 ["_law_found", "_law_dots_here"] (iP κ)
abbrev yI:Prop:=SM P w K mg base "_law_refused" 10 ["_law_dots_here", "_law_few"] (fC κ)
end
local macro_rules|`(tactic|fin2)=>`(tactic| (intro ds Q E h; repeat (first | (cases h.1; rfl) | refine Exists.elim h λ_ h => ?_)))
section
variable{P:Program}{w:World}{K:yac}{mg:yam}{base:Heap}{κ:SD}{f:Addr}{fd:FuncData}
theorem Q8(x:Str)(N:yah)(d:D)(a:yar):cG (x::N) (d::a)=some (.val d)::cG N a:=rfl
theorem Ra(x:Str)(N:yah):cG (x::N) []=none::cG N []:=rfl
theorem Q9:cG [] []=[]:=rfl
local macro_rules|`(tactic|x_go)=>do
 let l := ("Q8 Ra Q9".splitOn " ").toArray.map λs => Lean.mkIdent s.toName
 `(tactic| simp only [$[$l:ident],*])
local macro_rules|`(tactic|lk)=>do
 let l := ("nE D3 zX IH IF WN dB NM dOr NR Kp Kr dIf zW dC uJ D4 NY IG uH dCB dIs NZ N1 QC QD C5 iA Ph Pk OG JC Ml JD Mn j8 F8 F9 OJ D0 NS Ct Cv LJ LK zT OA OC OB List.map_cons List.map_nil Oz qS Kd yA HR HQ HS qU E8 Cg mz rx0 rx1 rx2 rx3 lx0 lx1 lx2 lx3 jL OR OO OP O6 O7 Qb Oj LG List.cons_append List.nil_append Mb Mc O8 L5 L0 Gy LZ Eh Gw Gx Gv Gu true_and NP IJ NL M9 Gr false_and and_false false_or or_false exists_false D6 Ks MR MQ gM NU Bool.false_eq_true Bool.true_eq_false if_false if_true decide_eq_true_eq Bool.not_eq_eq_eq_not Bool.not_true Bool.not_false decide_eq_false_iff_not ite_not Fs zA Ol NO Kq FR F1 Ky Ku FU NQ NW NV Kt uK da NN P7 D5 FT Om Oo MY PQ PR Ip N4 FQ NX List.set_cons_zero List.set_cons_succ Cu Qc E1 oO kQ yW Ca Ce j5 xu pD EY qM Cb xy vT sP sN E2 vP pE yX xC vR Cc pF sO EX jI qK qO uj vS ng ug Bq qI oN mf pC ic jF Bo HE si mZ EW ue nc se EZ yT pH Br oQ qQ yS vQ sj sr yV xw lD jj yU xv sk fP rR fJ jg oh og tX kg lW jS w9 lx tV l6 rQ ot nX xc rN jU oo l7 kL tW jV kJ rP fq lh gP jx kM fV jw qq gO fH dS jR dM fh qp vB iC fU rO jv iX fi xb nZ gn qr fK dY nY kK iD iE jT l5 eQ dX n9 l4 fk dD uq vW kU vV iU vX sS yz Ke Oz IX Ci yB zV Bt E9 P6 j6 FW Kv E7 Bs".splitOn " ").toArray.map λs => Lean.mkIdent s.toName
 `(tactic| (try dsimp only [at0, at1, at2, at3, $[$l:ident],*]);(try simp only [at0, at1, at2, at3, $[$l:ident],*]);try simp only [JU, AZ])
def Mx (F:aw K "sign" "sign" Bg f fd) (C:SN K mg κ)    : aG P w K mg base (CX1 P w) 1 f fd ["number"] (aH K (xB κ)):=by
 refine aw.okN F MW (by fin2) λ_ _ _ _ _ _ a=>⟨_,(aj (aT (aD jQ (dv 0) ae) (ak (ax ae)) aJ) (aj (aT (aD b6 (dv 0) ae) (ak (ax (bE ae))) aJ) (ak (ax ae)))),?_⟩
 rintro b Q Ed ⟨n,rfl,h⟩;x_go;unfold rR at h;lk;unfold sg at h
 lia
def rZ (F:aw K "common_divisor" "common_divisor" gw f fd) (C:SN K mg κ)   (a:mg "abs" = none):aG P w K mg base (CX1 P w) 1 f fd ["one", "other"] (aH K (fN κ)):=by
 refine aw.okN F cX (by fin2) λ_ _ _ _ _ _ d=>⟨_,(aj (kD PassesOwn.never (aD jb (dv 1) ae) (aj (az 2 cX.nd (au bM (dv 0) (dv 1))) (aj (az 0 cX.nd (dv 1)) (ak (az 1 cX.nd (dv 2)))))) (ak (ax (aM pS (by rfl) a boot_abs (aa (dv 0) af))))),?_⟩
 rintro e Q Ed ⟨a,b,rfl,h⟩;refine⟨λm c=>∃(x y:Int) (r:Option Sl),c=[some (.val (.int x)),some (.val (.int y)),r]/\Int.gcd x y=Int.gcd a b/\m=y.natAbs,⟨_,a,b,none,rfl,rfl,rfl⟩,?_⟩;rintro m c ⟨x,y,r,rfl,b,rfl⟩;lk;by_cases a:y=0
 simp_all
 rw[if_neg a];exact⟨a,_,PM.ya x a,y,x.fmod y,_,rfl,(PM.Aq x y).trans b,rfl⟩
def G0 (F:aw K "lowest" "lowest" oC f fd) (C:SN K mg κ)  (b:kx P w K mg base κ)  : aG P w K mg base (CX1 P w) 2 f fd ["numbers"] (aH K (jo κ)):=by
 refine aw.okN F lC (by fin2) λ_ _ _ _ _ _ a=>⟨_,(aj (az 1 lC.nd ae) (aj (cF PassesOwn.never rfl (bb (dv 0)) (bq 2 lC.nd) (ak (az 1 lC.nd (aq b a (aa (dv 1) (aa (dv 2) af)))))) (ak (ax (bV (by rfl) (by exact bB (osc:=ao oC) (xs:=["number"]) (ns:=["divisor"]) (by decide +kernel)) (br.cons 1 br.nil) (bb (dv 0)) (λ_ _ _ _ _=>cf) (λ_ _ _ _ _=>(au dm (dv 0) (dv 1)))))))),?_⟩
 rintro i Q Ed ⟨ns,rfl,h⟩;x_go;obtain⟨g,c,d,h⟩:=h;lk;refine PD.ip ns D.int (λj b=>∃a:Option Sl,b=[some (.val (.lst false (ns.map D.int))),some (.val (.int (bX 0 (ns.take j)))),a]) (λR q=>?_) ⟨none,rfl⟩ ?_ ?_;lk;exact q;rintro j x e b ⟨a,rfl⟩;lk
 simp_all [zDa,yf]
 rintro e ⟨a,rfl⟩;rw[zCA];lk;refine PD.comp_map ns D.int (λ_=>true) (λx=>.int (x.fdiv (bX 0 ns))) (λR q=>?_) (by rw[To];lia) (λx b K a=>?_) (λx b _ K a=>?_) ?_;lk;exact q;exact a;exact⟨⟨c,d.mono (by decide)⟩,a⟩;rw[Xg.mpr (λ_ _=>rfl)];unfold dj at h;rw[UC]at h;exact h
def ED (F:aw K "reduced" "reduced" qE f fd) (C:SN K mg κ)  (b:kx P w K mg base κ)  : aG P w K mg base (CX1 P w) 2 f fd ["triple", "lead"] (aH K (oV κ)):=by
 refine aw.okN F oH (by fin2) λ_ _ _ _ _ _ a=>⟨_,(aj (az 2 oH.nd (aq b a (aa (aq b a (aa (ai (dv 0) ae) (aa (ai (dv 0) ae) af))) (aa (ai (dv 0) ae) af)))) (aj (aT (aD b6 (dv 1) ae) (ak (az 2 oH.nd (bE (dv 2)))) aJ) (ak (ax (bA (aa (au dm (ai (dv 0) ae) (dv 2)) (aa (au dm (ai (dv 0) ae) (dv 2)) (aa (au dm (ai (dv 0) ae) (dv 2)) af)))))))),?_⟩
 rintro i Q Ed ⟨x,y,z,l,rfl,h⟩;x_go;obtain⟨d,g,b,e,h⟩:=h;have c:=PM.Aj (l:=l) d;have a:=(Fx (l:=l) d g b e).mono (show 4000<=8000 by decide);lk;have b:((Int.gcd (Int.gcd x y:Int) z:Nat):Int)=(PM.g3 x y z:Int):=rfl;rw[b];have b:∀g:Int,g=PM.T4 x y z l->CD x g/\CD y g/\CD z g/\([D.int (x.fdiv g),.int (y.fdiv g),.int (z.fdiv g)]:yar).length<=sizeLine/\Q (.tup [.int (x.fdiv g),.int (y.fdiv g),.int (z.fdiv g)]):=by rintro g rfl;exact⟨⟨c,a⟩,⟨c,a⟩,⟨c,a⟩,Xu _ _ _,h⟩
 by_cases a:l<0;rw[Rv (by simp_all)];exact b _ (by unfold PM.T4;simp_all);rw[if_neg (by simp_all)];exact b _ (by unfold PM.T4;rw[if_neg a])
def JG (F:aw K "picks" "picks" rS f fd) (C:SN K mg κ)   (a:mg "range" = none):aG P w K mg base (CX1 P w) 1 f fd ["count", "size"] (aH K (uh κ)):=by
 refine aw.okN F gB (by fin2) λ_ _ _ _ _ _ z=>⟨_,(aj (az 2 gB.nd (cL (aa (cL af) af))) (aj (cF PassesOwn.never rfl (i9 (by rfl) a (aa (dv 1) af)) (bq 3 gB.nd) (aj (kC 4 gB.nd af) (aj (cF PassesOwn.never rfl (bb (dv 2)) (bq 5 gB.nd) (aj (az 6 gB.nd (nF (aD jQ (dv 3) ae) (au aN (ai (dv 5) (bE ae)) ae) ae)) (ak (F2 4 (bV (by rfl) (by exact bB (osc:=ao rS) (xs:=["number"]) (ns:=["pick"]) (by decide +kernel)) (br.cons 5 br.nil) (Gj (by rfl) a (aa (dv 6) (aa (dv 0) af))) (λ_ _ _ _ _=>cf) (λ_ _ _ _ _=>(au aN (dv 1) (cL (aa (dv 0) af))))))))) (dI 4 (ak (az 2 gB.nd (dv 4))))))) (ak (ax (dv 2))))),?_⟩
 rintro E Q Ed ⟨n,s,rfl,h⟩;x_go;unfold og at h;obtain⟨m,t,rfl,rfl,i,y,h⟩:=h;have p:∀j,j<=1->(Uq m j).length<=1000:=λj d=>Sd (mM m j) (Sd (Nat.pow_le_pow_left i j) (Sd (zDN (by decide) d) (by decide)))
 lk;refine⟨UE _,by rw[To];decide,?_⟩;refine PD.ip (List.range' 0 t) (λ(k:Nat)=>D.int (k:Int)) (λj a=>∃o n c b:Option Sl,a=[some (.val (.int m)),some (.val (.int t)),some (.val (.lst true ((Uq m j).map V6))),o,n,c,b]) (λR q=>?_) ⟨none,none,none,none,rfl⟩ ?_ ?_;lk;rw[A6];exact⟨⟨by lia,by lia⟩,q⟩;rintro j x s e ⟨o,n,c,b,rfl⟩;obtain⟨d,g⟩:=VE.mp e;rw[zBw]at d;rw[List.getElem_range']at g;have d:x=j:=by lia
 subst d;lk;refine⟨UE _,?_⟩;refine PD.rA (Uq m x) V6 (λdone a=>∃c b:Option Sl,a=[some (.val (.int m)),some (.val (.int t)),some (.val (.lst true ((Uq m x).map V6))),some (.val (.int x)),some (.own ((done.flatMap (Wj m)).map V6)),c,b]) (λR q=>?_) ⟨_,_,rfl⟩ ?_ ?_;lk;exact q;rintro done a j e r ⟨c,b,rfl⟩;obtain⟨d,g⟩:=rG e;have A:eY a<=m:=by
  unfold eY;cases e:a.getLast? with
  |none=>exact UE _
  |some l=>have:=g l (List.mem_of_getLast? e);exact this
 have dl:done.length*m<=1000*1000:=Nat.mul_le_mul (Sd (UD r) (p x (by lia))) i;have B:=Al m done;have u:(Wj m a).length<=1000:=by unfold Wj;rw[RH,zBw];lia
 have rest:∀(v:D) (g:D->Prop),v=.int (eY a)->g (.lst true ((Wj m a).map V6))->uI (D6 (uJ (de 6) (uJ (de 0) D4))) [5] zT (WN nW (de 1) (IG (uJ (de 0) D4))) [some (.val (.int m)),some (.val (.int t)),some (.val (.lst true ((Uq m x).map V6))),some (.val (.int x)),some (.own ((done.flatMap (Wj m)).map V6)),some (.val (V6 a)),some (.val v)] g:=by rintro v g rfl g;refine PD.comp_map (List.range' (eY a) (m - eY a)) (λ(k:Nat)=>D.int (k:Int)) (λ_=>true) (λk=>V6 (a++[k])) (λR q=>?_) (by rw[zBw,To];lia) (λk l K i=>?_) (λk l _ K i=>?_) ?_;lk;rw[MS];exact⟨⟨by lia,by lia⟩,⟨by lia,by lia⟩,q⟩;lk;exact i;unfold V6 at i ⊢;lk;grind [List.map_append,Zx,List.length_map,sizeLine_eq];rw[Xg.mpr (λ_ _=>rfl)];unfold Wj at g;rw[UC]at g;exact g
 have g:∀v:D,∃xs,D.lst true ((Wj m a).map V6)=D.lst true xs/\(List.map V6 (List.flatMap (Wj m) done)).length+xs.length<=sizeLine/\∃c b:Option Sl,([some (Sl.val (D.int m)),some (Sl.val (D.int t)),some (Sl.val (D.lst true (List.map V6 (Uq m x)))),some (Sl.val (D.int x)),some (Sl.own (List.map V6 (List.flatMap (Wj m) done)++xs)),some (Sl.val (V6 a)),some (Sl.val v)]:Ro)=[some (Sl.val (D.int m)),some (Sl.val (D.int t)),some (Sl.val (D.lst true (List.map V6 (Uq m x)))),some (Sl.val (D.int x)),some (Sl.own (List.map V6 (List.flatMap (Wj m) (done++[a])))),c,b]:=λv =>
  ⟨_,rfl,by rw[RH,RH,To];lia,_,_,by rw[List.flatMap_append,Vy,List.flatMap_singleton]⟩
 lk;by_cases i:x=0;subst i;have:a=[]:=zDD d;subst this;rw[if_neg (by lia)];exact rest _ _ rfl (g _);rw[Rv (by lia)];have l:a ≠ []:=λe=>i (by rw[<- d,e];rfl)
 show dA (.lst true (a.map λ(k:Nat)=>D.int (k:Int))) _ _;rw[AZ];refine Lg l ?_;rw[Fs];exact rest _ _ (by congr 1;lia) (g _);rintro j ⟨c,b,rfl⟩;lk;exact⟨_,_,_,_,rfl⟩;rintro s ⟨o,n,c,b,rfl⟩;lk;rw[zBw];exact h
def JK (F:aw K "value" "value" xj f fd) (C:SN K mg κ)    : aG P w K mg base (CX1 P w) 1 f fd ["gauge", "place"] (aH K (um κ)):=by
 refine aw.okN F J5 (by fin2) λ_ _ _ _ _ _ g=>⟨_,(ak (ax (au aN (au aN (au aE (ai (dv 0) ae) (ai (dv 1) ae)) (au aE (ai (dv 0) ae) (ai (dv 1) ae))) (au aE (ai (dv 0) ae) (ai (dv 1) ae))))),?_⟩
 rintro l Q Ed ⟨k,j,i,e,d,c,rfl,h⟩;x_go;have m:∀{x y:Int},Bd 1000 x->Bd 1000 y->CM x y:=λb a=>.inr (.inr ⟨b.mono (by decide),a.mono (by decide)⟩)
 lk
 simp_all
def Mw (F:aw K "side" "side" Bf f fd) (C:SN K mg κ)  (c:Fo P w K mg base κ) (b:Cm P w K mg base κ)  : aG P w K mg base (CX1 P w) 2 f fd ["gauge", "place"] (aH K (iR κ)):=by
 refine aw.okN F MV (by fin2) λ_ _ _ _ _ _ a=>⟨_,(ak (ax (aq c a (aa (aq b a (aa (dv 0) (aa (dv 1) af))) af)))),?_⟩
 rintro l Q Ed ⟨k,j,i,g,e,d,rfl,h⟩;x_go;lk
 simp_all
def BR (F:aw K "is_level" "is_level" oz f fd) (C:SN K mg κ)    : aG P w K mg base (CX1 P w) 1 f fd ["gauge"] (aH K (mi κ)):=by
 refine aw.okN F B3 (by fin2) λ_ _ _ _ _ _ a=>⟨_,(ak (ax (kB (bT bF (ai (dv 0) ae) ae) (mD (bT bF (ai (dv 0) ae) ae))))),?_⟩
 rintro e Q Ed ⟨d,c,b,rfl,h⟩;x_go;lk
 lia
def Ex (F:aw K "crossed" "crossed" qv f fd) (C:SN K mg κ)    : aG P w K mg base (CX1 P w) 1 f fd ["one", "other"] (aH K (j0 κ)):=by
 refine aw.okN F EO (by fin2) λ_ _ _ _ _ _ l=>⟨_,(ak (ax (bA (aa (au aW (au aE (ai (dv 0) ae) (ai (dv 1) ae)) (au aE (ai (dv 1) ae) (ai (dv 0) ae))) (aa (au aW (au aE (ai (dv 0) ae) (ai (dv 1) ae)) (au aE (ai (dv 1) ae) (ai (dv 0) ae))) (aa (au aW (au aE (ai (dv 0) ae) (ai (dv 1) ae)) (au aE (ai (dv 1) ae) (ai (dv 0) ae))) af)))))),?_⟩
 rintro m Q Ed ⟨s,r,q,p,o,n,rfl,h⟩;x_go;obtain⟨i,g,e,d,c,b,h⟩:=h;have a:∀{x y:Int},Bd 200 x->Bd 200 y->CM x y:=λk j=>.inr (.inr ⟨k.mono (by decide),j.mono (by decide)⟩)
 lk;exact⟨a g b,a c e,a e d,a b i,a i c,a d g,Xu _ _ _,h⟩
def Mt (F:aw K "line" "line" Bc f fd) (C:SN K mg κ)  (d:xI P w K mg base κ) (b:Dx P w K mg base κ) (c:xM P w K mg base κ)  : aG P w K mg base (CX1 P w) 3 f fd ["one", "other"] (aH K (xx κ)):=by
 refine aw.okN F C9 (by fin2) λ_ _ _ _ _ _ a=>⟨_,(aj (az 2 C9.nd (aq d a (aa (dv 0) (aa (dv 1) af)))) (aj (aT (bH (aq b a (aa (dv 2) af))) (ak tD) aJ) (ak (ax (aq c a (aa (dv 2) (aa (nF (aD jb (ai (dv 2) ae) ae) (ai (dv 2) ae) (ai (dv 2) ae)) af))))))),?_⟩
 rintro r Q Ed ⟨l,o,k,j,n,i,rfl,h⟩;x_go;obtain⟨g,e,d,c,b,a,m,h⟩:=h;have q:=gh e a b d;have B1:=gh d c a g;have p:=gh g b c e;lk;refine⟨g,e,d,c,b,a,?_⟩;rw[if_neg m];have b:¬(o*i - n*k=0/\k*j - i*l=0/\l*n - j*o=0):=λe=>m e.2
 unfold EL ld RD at h;by_cases a:k*j - i*l=0;rw[Rv a]at h;rw[Rv a];exact⟨b,q.mono (by decide),B1.mono (by decide),p.mono (by decide),h⟩;rw[if_neg a]at h;rw[if_neg a];exact⟨b,q.mono (by decide),B1.mono (by decide),p.mono (by decide),h⟩
def GY (F:aw K "facing" "facing" tZ f fd) (C:SN K mg κ)    : aG P w K mg base (CX1 P w) 1 f fd ["place", "way"] (aH K (cR κ)):=by
 refine aw.okN F Ht (by fin2) λ_ _ _ _ _ _ j=>⟨_,(ak (ax (bA (aa (bE (au aN (au aE (ai (dv 1) ae) (ai (dv 0) ae)) (au aE (ai (dv 1) ae) (ai (dv 0) ae)))) (aa (au aE (ai (dv 1) ae) (ai (dv 0) ae)) (aa (au aE (ai (dv 1) ae) (ai (dv 0) ae)) af)))))),?_⟩
 rintro k Q Ed ⟨i,g,e,w,rfl,h⟩;x_go;obtain⟨b,d,c,a,h⟩:=h;unfold SU;lk;exact⟨Wk a.x d,Wk a.y c,Wk a.x b,Wk a.y b,Xu _ _ _,h⟩
def JH (F:aw K "place" "place" xh f fd) (C:SN K mg κ)  (b:xM P w K mg base κ)  : aG P w K mg base (CX1 P w) 3 f fd ["by", "x", "y"] (aH K (ui κ)):=by
 refine aw.okN F J2 (by fin2) λ_ _ _ _ _ _ a=>⟨_,(aj (aT (aD bF (dv 0) ae) (ak tD) aJ) (ak (ax (aq b a (aa (bA (aa (dv 0) (aa (dv 1) (aa (dv 2) af)))) (aa (dv 0) af)))))),?_⟩
 rintro e Q Ed ⟨b,x,y,rfl,h⟩;x_go;obtain⟨a,d,c,b,h⟩:=h;lk;rw[if_neg a];exact⟨Xu _ _ _,λz=>a z.1,d,c,b,h⟩
def BW (F:aw K "place_of" "place_of" oE f fd) (C:SN K mg κ)    : aG P w K mg base (CX1 P w) 1 f fd ["spot"] (aH K (mq κ)):=by
 refine aw.okN F B5 (by fin2) λ_ _ _ _ _ _ c=>⟨_,(ak (ax (bA (aa ae (aa (ai (dv 0) ae) (aa (ai (dv 0) ae) af)))))),?_⟩
 rintro d Q Ed ⟨a,b,rfl,h⟩;x_go;lk;exact⟨Xu _ _ _,h⟩
def Mu (F:aw K "rank" "rank" Be f fd) (C:SN K mg κ)  (b:Fo P w K mg base κ)  : aG P w K mg base (CX1 P w) 2 f fd ["one", "other"] (aH K (rT κ)):=by
 refine aw.okN F Dc (by fin2) λ_ _ _ _ _ _ a=>⟨_,(aj (az 2 Dc.nd (aq b a (aa (au aW (au aE (ai (dv 0) ae) (ai (dv 1) ae)) (au aE (ai (dv 1) ae) (ai (dv 0) ae))) af))) (aj (aT (aD jb (dv 2) ae) (ak (ax (dv 2))) aJ) (ak (ax (aq b a (aa (au aW (au aE (ai (dv 0) ae) (ai (dv 1) ae)) (au aE (ai (dv 1) ae) (ai (dv 0) ae))) af)))))),?_⟩
 rintro k Q Ed ⟨r,q,p,o,n,m,rfl,h⟩;x_go;obtain⟨j,i,g,e,d,c,h⟩:=h;have l:∀{x y:Int},Bd 1000 x->Bd 1000 y->CM x y:=λb a=>.inr (.inr ⟨b.mono (by decide),a.mono (by decide)⟩)
 lk;unfold rk at h;split
 all_goals simp_all
def JI (F:aw K "swing" "swing" xi f fd) (C:SN K mg κ)    : aG P w K mg base (CX1 P w) 1 f fd ["one", "two", "three"] (aH K (oX κ)):=by
 refine aw.okN F J3 (by fin2) λ_ _ _ _ _ _ l=>⟨_,(ak (ax (au aN (au aN (au aE (ai (dv 0) ae) (au aW (au aE (ai (dv 1) ae) (ai (dv 2) ae)) (au aE (ai (dv 2) ae) (ai (dv 1) ae)))) (au aE (ai (dv 1) ae) (au aW (au aE (ai (dv 2) ae) (ai (dv 0) ae)) (au aE (ai (dv 0) ae) (ai (dv 2) ae))))) (au aE (ai (dv 2) ae) (au aW (au aE (ai (dv 0) ae) (ai (dv 1) ae)) (au aE (ai (dv 1) ae) (ai (dv 0) ae))))))),?_⟩
 rintro u Q Ed ⟨L,J,I,H,G,E,B,A,z,rfl,h⟩;x_go;obtain⟨t,i,g,n,e,d,m,c,b,h⟩:=h;have a:∀{x y:Int},Bd 1000 x->Bd 1000 y->CM x y:=λj k=>.inr (.inr ⟨j.mono (by decide),k.mono (by decide)⟩)
 have k:∀{x p q r s:Int},Bd 1000 x->Bd 1000 p->Bd 1000 q->Bd 1000 r->Bd 1000 s->CM x (p*q - r*s):=λj q p l o=>.inr (.inr ⟨j.mono (by decide),((q.mul p).sub (l.mul o)).mono (by decide)⟩)
 lk;exact⟨a e b,a c d,k t e b c d,a c g,a i b,k n c g i b,a i d,a e g,k m i d e g,h⟩
def JE (F:aw K "arrow" "arrow" xf f fd) (C:SN K mg κ)    : aG P w K mg base (CX1 P w) 1 f fd ["one", "other"] (aH K (oK κ)):=by
 refine aw.okN F J1 (by fin2) λ_ _ _ _ _ _ i=>⟨_,(ak (ax (bA (aa (au aW (au aE (ai (dv 0) ae) (ai (dv 1) ae)) (au aE (ai (dv 1) ae) (ai (dv 0) ae))) (aa (au aW (au aE (ai (dv 0) ae) (ai (dv 1) ae)) (au aE (ai (dv 1) ae) (ai (dv 0) ae))) af))))),?_⟩
 rintro j Q Ed ⟨p,o,n,m,l,k,rfl,h⟩;x_go;obtain⟨b,g,e,a,d,c,h⟩:=h;lk;exact⟨Wk b d,Wk a g,Wk b c,Wk a e,Y4 _ _,h⟩
def My (F:aw K "turn" "turn" Bh f fd) (C:SN K mg κ)    : aG P w K mg base (CX1 P w) 1 f fd ["one", "other"] (aH K (xD κ)):=by
 refine aw.okN F MX (by fin2) λ_ _ _ _ _ _ c=>⟨_,(ak (ax (au aW (au aE (ai (dv 0) ae) (ai (dv 1) ae)) (au aE (ai (dv 1) ae) (ai (dv 0) ae))))),?_⟩
 rintro d Q Ed ⟨a,b,rfl,h⟩;x_go;obtain⟨b,a,h⟩:=h;unfold SU;lk;exact⟨Wk b.x a.y,Wk a.x b.y,h⟩
def Mq (F:aw K "back" "back" A9 f fd) (C:SN K mg κ)    : aG P w K mg base (CX1 P w) 1 f fd ["way"] (aH K (mW κ)):=by
 refine aw.okN F MT (by fin2) λ_ _ _ _ _ _ a=>⟨_,(ak (ax (bA (aa (bE (ai (dv 0) ae)) (aa (bE (ai (dv 0) ae)) af))))),?_⟩
 rintro b Q Ed ⟨w,rfl,h⟩;x_go;unfold rN at h;unfold SU at h ⊢;lk;exact⟨Y4 _ _,h⟩
def EC (F:aw K "left_of" "left_of" qD f fd) (C:SN K mg κ)    : aG P w K mg base (CX1 P w) 1 f fd ["way"] (aH K (j4 κ)):=by
 refine aw.okN F ES (by fin2) λ_ _ _ _ _ _ a=>⟨_,(ak (ax (bA (aa (bE (ai (dv 0) ae)) (aa (ai (dv 0) ae) af))))),?_⟩
 rintro b Q Ed ⟨w,rfl,h⟩;x_go;unfold jU at h;unfold SU at h ⊢;lk;exact⟨Y4 _ _,h⟩
def EE (F:aw K "spot_of" "spot_of" qF f fd) (C:SN K mg κ)    : aG P w K mg base (CX1 P w) 1 f fd ["dot"] (aH K (oW κ)):=by
 refine aw.okN F ET (by fin2) λ_ _ _ _ _ _ a=>⟨_,(ak (ax (bA (aa (ai (dv 0) ae) (aa (ai (dv 0) ae) af))))),?_⟩
 rintro b Q Ed ⟨p,rfl,h⟩;x_go;unfold RG;lk;exact⟨Y4 _ _,h⟩
def BY (F:aw K "spots_of" "spots_of" jZ f fd) (C:SN K mg κ)  (b:kZ P w K mg base κ)  : aG P w K mg base (CX1 P w) 2 f fd ["dots"] (aH K (mv κ)):=by
 refine aw.okN F B7 (by fin2) λ_ _ _ _ _ _ a=>⟨_,(ak (ax (bV (by rfl) (by exact bB (osc:=ao jZ) (xs:=["dot"]) (ns:=[]) (by decide +kernel)) br.nil (bb (dv 0)) (λ_ _ _ _ _=>cf) (λ_ _ _ _ _=>(aq b a (aa (dv 0) af)))))),?_⟩
 rintro d Q Ed ⟨a,rfl,h⟩;x_go;obtain⟨c,h⟩:=h;refine PD.comp_map a RG (λ_=>true) (λp=>SU (TC p)) (λR q=>?_) (by rw[To];lia) (λp b K a=>?_) (λp b _ K a=>?_) ?_;lk;exact q;exact a;lk;exact a;rw[Xg.mpr (λ_ _=>rfl)];rw[UC]at h;exact h
def AQ (F:aw K "of_colour" "of_colour" iZ f fd) (C:SN K mg κ)    : aG P w K mg base (CX1 P w) 1 f fd ["dots", "colour"] (aH K (kR κ)):=by
 refine aw.okN F Bj (by fin2) λ_ _ _ _ _ _ a=>⟨_,(ak (ax (bV (by rfl) (by exact bB (osc:=ao iZ) (xs:=["dot"]) (ns:=["colour"]) (by decide +kernel)) (br.cons 1 br.nil) (bb (dv 0)) (λ_ _ _ _ _=>(vU (Vm.pt (bR (aD vf (dv 1) fQ) (cO (aD (za (by exact a.units)) (ai (dv 0) ae) (dv 1))))))) (λ_ _ _ _ _=>(dv 0))))),?_⟩
 rintro g Q Ed ⟨a,d,rfl,h⟩;x_go;obtain⟨b,c,e,h⟩:=h;refine PD.comp_map a RG (λp=>b p.2.2.1) RG (λR q=>?_) (by rw[To];lia) (λp b K a=>?_) (λp b _ K a=>?_) h;lk;exact q;unfold RG;rcases c with⟨rfl,rfl⟩| ⟨k,rfl,rfl⟩;lk;exact a;lk;exact a;exact a
def JJ (F:aw K "total" "total" iI f fd) (C:SN K mg κ)  (c:sC P w K mg base κ) (b:mg "sum" = none):aG P w K mg base (CX1 P w) 2 f fd ["dots", "colour"] (aH K (gF κ)):=by
 refine aw.okN F J4 (by fin2) λ_ _ _ _ _ _ a=>⟨_,(ak (ax (aM (uG rfl) (by rfl) b boot_sum (aa (bV (by rfl) (by exact bB (osc:=ao iI) (xs:=["dot"]) (ns:=[]) (by decide +kernel)) br.nil (bb (aq c a (aa (dv 0) (aa (dv 1) af)))) (λ_ _ _ _ _=>cf) (λ_ _ _ _ _=>(ai (dv 0) ae))) af)))),?_⟩
 rintro k Q Ed ⟨c,j,rfl,h⟩;x_go;obtain⟨b,d,i,h⟩:=h;have e:=d.unt;unfold XH at h;lk;refine PD.comp_map (c.filter λp=>b p.2.2.1) RG (λ_=>true) (λp=>.int p.2.2.2) (λR q=>?_) (by grind [List.length_filter_le,sizeLine_eq]) (λp g K a=>?_) (λp g _ K a=>?_) ⟨true,(c.filter λp=>b p.2.2.1).map λp=>p.2.2.2,by simp_all,h⟩;lk;simp only[e];exact⟨b,d,i,q⟩;exact a;unfold RG;lk;exact a
def EF (F:aw K "weighed" "weighed" gI f fd) (C:SN K mg κ)  (d:sC P w K mg base κ) (c:nj P w K mg base κ) (b:Fn P w K mg base κ) (e:kZ P w K mg base κ)  : aG P w K mg base (CX1 P w) 3 f fd ["dots", "gauge", "colour"] (aH K (ib κ)):=by
 refine aw.okN F oI (by fin2) λ_ _ _ _ _ _ a=>⟨_,(aj (IP 3 oI.nd (wL (bE ae) ae (wL ae ae (wL ae ae N8)))) (aj (cF PassesOwn.never rfl (bb (aq d a (aa (dv 0) (aa (dv 2) af)))) (bq 4 oI.nd) (ak (Lx 3 (by exact y7 a) (aq b a (aa (dv 1) (aa (aq c a (aa (aq e a (aa (dv 4) af)) af)) af))) (ai (dv 4) ae)))) (ak (ax (bA (aa (Ab 3 (by exact y7 a) (bE ae)) (aa (Ab 3 (by exact y7 a) ae) (aa (Ab 3 (by exact y7 a) ae) af)))))))),?_⟩
 rintro u Q Ed ⟨e,c,b,a,d,rfl,h⟩;x_go;obtain⟨i,g,l,r,o,n,m,h⟩:=h;have k:=g.unt;lk;refine⟨[(.inl (-1),.int 0),(.inl 0,.int 0),(.inl 1,.int 0)],rfl,by decide,by decide,?_⟩;refine PD.rA (e.filter λp=>i p.2.2.1) RG (λdone j=>∃v,j=[some (.val (.lst false (e.map RG))),some (.val (T3 c b a)),some (.val d),some (.ob (.dk [(.inl (-1),.int (w3 c b a (-1) done)),(.inl 0,.int (w3 c b a 0 done)),(.inl 1,.int (w3 c b a 1 done))])),v]) (λR q=>?_) ⟨none,rfl⟩ ?_ ?_;lk;simp only[k];exact⟨i,g,l,q⟩;rintro done p d t Uo ⟨v,rfl⟩;have G:=m p (by simp_all);have e:c*1+b*p.1+a*p.2.1=gv c b a p:=by unfold gv;lia
 lk;refine⟨r,o,n,Bd.mono (m:=2) (by unfold Bd;decide) (by decide),G.x.mono (by decide),G.y.mono (by decide),?_⟩;rw[e];have s:=Na c b a;rcases sg3 (gv c b a p)with z|z|z;refine⟨.inl (-1),_,by rw[z];rfl,rfl,?_⟩;unfold RG;lk
 simp_all [To,Qv]
 refine⟨.inl 0,_,by rw[z];rfl,rfl,?_⟩;unfold RG;lk
 simp_all [To,Qw]
 refine⟨.inl 1,_,by rw[z];rfl,rfl,?_⟩;unfold RG;lk
 simp_all [To,Qx]
 rintro d ⟨v,rfl⟩;lk;exact⟨.inl (-1),_,rfl,rfl,.inl 0,_,rfl,rfl,.inl 1,_,rfl,rfl,Xu _ _ _,h⟩
def JF (F:aw K "chain" "chain" xg f fd) (C:SN K mg κ)  (b:Le P w K mg base κ) (c:mg "len" = none):aG P w K mg base (CX1 P w) 2 f fd ["places"] (aH K (uf κ)):=by
 refine aw.okN F ua (by fin2) λ_ _ _ _ _ _ a=>⟨_,(aj (kC 1 ua.nd af) (aj (cF PassesOwn.never rfl (bb (dv 0)) (bq 2 ua.nd) (aj (kD PassesOwn.never (Lz 1 (Vm.pt (p4 (aD jQ (aM bL (by rfl) c Wm (aa (dv 1) af)) ae) (mF (aD Et (aq b a (aa (ai (dv 1) (bE ae)) (aa (ai (dv 1) (bE ae)) (aa (dv 2) af)))) ae))))) (ak (Ob 1))) (ak (eK 1 (dv 2))))) (dI 1 (ak (ax (dv 1)))))),?_⟩
 rintro t Q Ed ⟨a,rfl,h⟩;x_go;unfold kJ at h;obtain⟨s,j,h⟩:=h;lk;refine⟨UE _,?_⟩;refine PD.rA a Tc (λdone b=>∃v:Option Sl,b=[some (.val (.lst false (a.map Tc))),some (.own ((bJ [] done).reverse.map Tc)),v]/\(bJ [] done).length<=done.length/\∀p∈bJ [] done,SB p) ?_ ?_ ?_ ?_;intro R c;lk;exact c;exact⟨none,rfl,SF _,by simp[bJ]⟩
 ·rintro done x q c Uo ⟨v,rfl,e,d⟩;lk;refine⟨λm b=>∃st:yas,b=[some (.val (.lst false (a.map Tc))),some (.own (st.reverse.map Tc)),some (.val (Tc x))]/\m=st.length/\cE st x=cE (bJ [] done) x/\st.length<=done.length/\∀p∈st,SB p,⟨_,_,rfl,rfl,rfl,e,d⟩,?_⟩;rintro m b ⟨st,rfl,rfl,k,o,g⟩;have d:cE st x=st->((st.reverse.map Tc).length<sizeLine/\∃v:Option Sl,([some (.val (.lst false (a.map Tc))),some (.own (st.reverse.map Tc++[Tc x])),some (.val (Tc x))]:Ro)=[some (.val (.lst false (a.map Tc))),some (.own ((bJ [] (done++[x])).reverse.map Tc)),v]/\(bJ [] (done++[x])).length<=(done++[x]).length/\∀p∈bJ [] (done++[x]),SB p):=λe=>by
   have a:bJ [] (done++[x])=x::st:=by rw[sE,<- k,e]
   rw[a];refine⟨by rw[RH,zBp,To];lia,_,by rw[zCs,Vy];rfl,by simp;lia,λp e=>?_⟩;rcases Tx.mp e with z|z;rw[z];exact j x c;exact g p z
  lk;rcases st with _|⟨b,_|⟨a,r⟩⟩;rw[if_neg (by simp)];exact d rfl;rw[if_neg (by simp)];exact d rfl
  ·rw[Rv (by simp;lia)];have i:(b::a::r).reverse.map Tc=r.reverse.map Tc++[Tc a]++[Tc b]:=by simp
   have n:=g a (by simp);have m:=g b (by simp);have l:=j x c;have c:Bd 1000 1:=by unfold Bd;decide
   refine⟨_,by rw[i];exact Fu _ _ _,_,by rw[i];exact Iv _ _,?_⟩
   try simp only[kU]
   show oX κ [T3 1 a.1 a.2,T3 1 b.1 b.2,T3 1 x.1 x.2] _ _;rw[sP,ot];refine⟨c,n.x.mono (by decide),n.y.mono (by decide),c,m.x.mono (by decide),m.y.mono (by decide),c,l.x.mono (by decide),l.y.mono (by decide),?_⟩;rw[iA,jL];by_cases c:sw 1 a.1 a.2 1 b.1 b.2 1 x.1 x.2<=0
   ·have j:cr a b x<=0:=c;rw[Rv (by simpa using c)];refine⟨by simp,(a::r).length,by simp,a::r,?_,rfl,?_,?_,λp e=>g p (W4 _ e)⟩;rw[i,List.dropLast_concat];simp
    ·rw[<- k];conv=>rhs;unfold cE
     rw[Rv j]
    simp at o ⊢;lia
   have j:¬cr a b x<=0:=c;rw[if_neg (by simpa using c)];exact d (by unfold cE;rw[if_neg j])
 rintro q ⟨v,rfl,_⟩;lk;exact h
def Ms (F:aw K "hull" "hull" vE f fd) (C:SN K mg κ)  (b:K9 P w K mg base κ) (d:nj P w K mg base κ) (g:mg "len" = none) (c:mg "set" = none) (e:mg "sorted" = none):aG P w K mg base (CX1 P w) 3 f fd ["spots"] (aH K (xt κ)):=by
 refine aw.okN F C8 (by fin2) λ_ _ _ _ _ _ a=>⟨_,(aj (nJ 1 C8.nd (by rfl) (by exact bB (osc:=ao vE) (xs:=["spot"]) (ns:=[]) (by decide +kernel)) br.nil (bb ((uM rfl (by exact Gi a) (by rfl) e (by rfl) c (dv 0))).YI) (λ_ _ _ _ _=>cf) (λ_ _ _ _ _=>(aq d a (aa (dv 0) af)))) (aj (aT (aD b6 (aM bL (by rfl) g Wm (aa (dv 1) af)) ae) (ak (ax (dv 1))) aJ) (ak (ax (au aN (WH.YI (eI (aq b a (aa (dv 1) af)) cC (cJ (bE ae)))) (WH.YI (eI (aq b a (aa (WH.YI (N7 (dv 1))) af)) cC (cJ (bE ae))))))))),?_⟩
 rintro o Q Ed ⟨c,rfl,h⟩;x_go;unfold rP at h;obtain⟨n,i,h⟩:=h;lk;refine zL (P:=λa=>bN a c/\a.length<=c.length) SU Tc (λR g=>?_) (λa b=>by rw[To];omega) (λa b x m K k=>?_) λa b=>?_
 refine⟨false,c.map Y7,by rw[KR],by rw[RH];omega,λk d=>?_,λj c=>?_⟩;obtain⟨p,_,e⟩:=S5.mp d;rw[<- e];exact List.cons_ne_nil _ _;obtain⟨a,rfl,b⟩:=Hl c;rw[<- KR];exact g a ⟨b,tU b⟩;unfold SU;lk;exact k;have l:=b.2;have g:∀p∈a,SB p:=λp e=>i p ((b.1.2 p).mp e)
 have d:=h a b.1 b.2;have c:=kH [] a;have b:=kH [] a.reverse;simp only[List.length_nil,zBp]at c b;unfold aX at d;lk;rw[RH];split;rename_i c;rw[Rv (by omega)]at d;exact d;rename_i c;rw[if_neg (by omega)]at d;refine⟨by omega,g,?_⟩;rw[<- List.map_reverse,vV,sO,kJ];refine⟨by rw[zBp];omega,λp e=>g p (zCK.mp e),true,_,rfl,?_⟩;rw[zQ,zQ];refine⟨?_,?_⟩;rw[zCR,zCR,RH,RH,zBp,zBp,To];omega;rw[<- List.map_dropLast,<- List.map_dropLast,<- Vy];exact d
def w7 (F:aw K "thin_bounds" "thin_bounds" jD f fd) (C:SN K mg κ)  (d:K8 P w K mg base κ) (c:Nj P w K mg base κ) (b:Ih P w K mg base κ) (e:Fj P w K mg base κ)  : aG P w K mg base (CX1 P w) 2 f fd ["one", "other"] (aH K (iS κ)):=by
 refine aw.okN F iK (by fin2) λ_ _ _ _ _ _ a=>⟨_,(aj (az 2 iK.nd (nF (aD (nV (by exact a.units)) (dv 0) (dv 1)) (aq d a (aa (dv 0) (aa (dv 1) af))) (bA (aa ae (aa ae af))))) (aj (az 3 iK.nd (aq e a (aa (dv 2) af))) (ak (ax (cL (aa (aq b a (aa (dv 0) (aa (dv 2) af))) (aa (aq b a (aa (dv 1) (aa (aq c a (aa (dv 2) af)) af))) (aa (aq b a (aa (dv 0) (aa (dv 3) af))) (aa (aq b a (aa (dv 0) (aa (aq c a (aa (dv 3) af)) af))) af))))))))),?_⟩
 rintro r Q Ed ⟨a,b,rfl,h⟩;x_go;obtain⟨l,k,h⟩:=h;have j:Bd 200 1:=by unfold Bd;decide
 have q:∀(p w:Sp) (K:D->Prop),SB p->WB 62 w->K (RD (bZ p w))->cR κ [Tc p,SU w] K λ_=>False:=λp w K d c e=>by show cR κ [T3 1 p.1 p.2,SU w] K _;rw[qM,lx];exact⟨j,d.x.mono (by decide),d.y.mono (by decide),c.mono (by decide),e⟩
 have n:∀{w:Sp},WB 62 w->WB 62 (SO w):=λc=>⟨pP c.x,pP c.y⟩
 have m:∀{w:Sp},WB 62 w->WB 62 (S7 w):=λc=>⟨pP c.y,c.x⟩
 have i:∀w:Sp,WB 62 w->Q (.lst true ([bZ a w,bZ b (SO w),bZ a (S7 w),bZ a (SO (S7 w))].map RD))->j4 κ [SU w] (λd=>cR κ [Tc a,SU w] (λx=>mW κ [SU w] (λe=>cR κ [Tc b,aU e] (λg=>cR κ [Tc a,aU d] (λe=>mW κ [aU d] (λd=>cR κ [Tc a,aU d] (λd=>[x,g,e,d].length<=sizeLine/\Q (D.lst true [x,g,e,d])) λ_=>False) λ_=>False) λ_=>False) λ_=>False) λ_=>False) λ_=>False) λ_=>False:=λw c o=>by grind [pE,vP,uq,sz4]
 unfold gc aS at h;lk;refine⟨(GU a).ok,(GU b).ok,?_⟩;by_cases c:a=b;rw[Rv c]at h;rw[if_neg (by rw[c,eN];simp)];exact⟨Y4 _ _,i (1,0) ⟨by unfold Bd;decide,by unfold Bd;decide⟩ h⟩;rw[if_neg c]at h;rw[Rv (by rw[Oh];simpa using c)];show oK κ [T3 1 a.1 a.2,T3 1 b.1 b.2] _ _;rw[sN,nX];refine⟨j,l.x.mono (by decide),l.y.mono (by decide),j,k.x.mono (by decide),k.y.mono (by decide),?_⟩;have d:=Iq l k;unfold aS at d;rw[if_neg c]at d;exact i (1*b.1 - 1*a.1,1*b.2 - 1*a.2) d h
def GW (F:aw K "bounds" "bounds" ow f fd) (C:SN K mg κ)  (d:xI P w K mg base κ) (c:yJ P w K mg base κ) (b:mg "len" = none) (e:mg "range" = none):aG P w K mg base (CX1 P w) 3 f fd ["corners"] (aH K (qJ κ)):=by
 refine aw.okN F Hs (by fin2) λ_ _ _ _ _ _ a=>⟨_,(aj (aT (aD b6 (aM bL (by rfl) b Wm (aa (dv 0) af)) ae) (ak (ax (aq c a (aa (ai (dv 0) ae) (aa (ai (dv 0) (bE ae)) af))))) aJ) (ak (ax (bV (by rfl) (by exact bB (osc:=ao ow) (xs:=["index"]) (ns:=["corners"]) (by decide +kernel)) (br.cons 0 br.nil) (i9 (by rfl) e (aa (aM bL (by rfl) b Wm (aa (dv 0) af)) af)) (λ_ _ _ _ _=>cf) (λ_ _ _ _ _=>(aq d a (aa (ai (dv 1) (au aW (dv 0) ae)) (aa (ai (dv 1) (dv 0)) af)))))))),?_⟩
 rintro n Q Ed ⟨a,rfl,h⟩;x_go;obtain⟨b,l,c,h⟩:=h;unfold aY at h;have g:∀i,i<a.length->a[i]?=some (a.getD i (0,0)):=by grind
 have d:∀i,i<a.length->SB (a.getD i (0,0)):=λi m=>c _ (by simp_all)
 lk;rw[RH];by_cases c:a.length<3;rw[Rv (by lia)];rw[Rv c]at h;refine⟨_,bU (j:=0) (by rw[U0,g 0 b];rfl),_,Ft (by rw[RH];exact b) (by rw[RH,U0,g _ (by lia)];rfl),?_⟩;rw[kU,kU,jI,fq];exact⟨d 0 b,d _ (by lia),h⟩;rw[if_neg (by lia)];rw[if_neg c]at h;refine PD.comp_map (List.range' 0 a.length) (λ(k:Nat)=>D.int (k:Int)) (λ_=>true) (λk=>RD (d9 (bK a k) (a.getD k (0,0)))) (λR q=>?_) (by grind [List.length_range',sizeLine_eq]) (λk c K e=>?_) (λk c _ K e=>?_) ?_;lk;rw[RH,A6];exact⟨⟨by lia,by lia⟩,q⟩;lk;exact e;have c:k<a.length:=by grind
 have i:(k+a.length - 1) % a.length<a.length:=Zh _ b;have at1:T9 (a.map Tc) ((k:Int) - 1)=some (Tc (bK a k)):=by have:=zE (a.map Tc) k 1 (by simp_all) (by rw[RH];exact b);rw[RH,U0,g _ i]at this;exact this
 have at0:T9 (a.map Tc) (k:Int)=some (Tc (a.getD k (0,0))):=bU (by simp_all);have B1:SB (bK a k):=d _ i;have g:=d k c;have b:Bd 200 1:=by unfold Bd;decide
 lk;refine⟨_,at1,_,at0,?_⟩;show j0 κ [T3 1 (bK a k).1 (bK a k).2,T3 1 (a.getD k (0,0)).1 (a.getD k (0,0)).2] _ _;rw[pD,jS];exact⟨b,B1.x.mono (by decide),B1.y.mono (by decide),b,g.x.mono (by decide),g.y.mono (by decide),e⟩;rw[Xg.mpr (λ_ _=>rfl)];rw[UC]at h;exact h
def vj (F:aw K "on_two_spots" "on_two_spots" iH f fd) (C:SN K mg κ)  (b:kZ P w K mg base κ)  : aG P w K mg base (CX1 P w) 2 f fd ["dots", "pair"] (aH K (hJ κ)):=by
 refine aw.okN F vJ (by fin2) λ_ _ _ _ _ _ a=>⟨_,(ak (ax (bT (nV (by exact a.units)) (aq b a (aa (ai (dv 0) (ai (dv 1) ae)) af)) (aq b a (aa (ai (dv 0) (ai (dv 1) ae)) af))))),?_⟩
 rintro e Q Ed ⟨c,d,rfl,h⟩;x_go;obtain⟨b,a,h⟩:=h;unfold WI;lk;refine y6 b ?_;lk;refine y6 a ?_;lk;refine⟨(AM _ _).ok,(AM _ _).ok,?_⟩;rw[OU];exact h
def yO (F:aw K "spot_pairs" "spot_pairs" eS f fd) (C:SN K mg κ)  (c:wy P w K mg base κ) (b:Ck P w K mg base κ) (d:mg "len" = none):aG P w K mg base (CX1 P w) 3 f fd ["dots"] (aH K (jH κ)):=by
 refine aw.okN F ph (by fin2) λ_ _ _ _ _ _ a=>⟨_,(aj (nJ 1 ph.nd (by rfl) (by exact bB (osc:=ao eS) (xs:=["pick"]) (ns:=[]) (by decide +kernel)) br.nil (bb (aq b a (aa (aM bL (by rfl) d Wm (aa (dv 0) af)) (aa ae af)))) (λ_ _ _ _ _=>cf) (λ_ _ _ _ _=>(bA (aa (ai (dv 0) ae) (aa (ai (dv 0) ae) af))))) (ak (ax (bV (by rfl) (by exact bB (osc:=ao eS) (xs:=["pair"]) (ns:=["dots"]) (by decide +kernel)) (br.cons 0 br.nil) (bb (dv 1)) (λ_ _ _ _ _=>(vU (bH (aq c a (aa (dv 1) (aa (dv 0) af)))))) (λ_ _ _ _ _=>(dv 0)))))),?_⟩
 rintro i Q Ed ⟨b,rfl,h⟩;x_go;obtain⟨a,h⟩:=h;have g:(prs b.length).length<=sizeLine:=by have e:=mM b.length 2;rw[Jn,RH]at e;have:b.length ^ 2<=60 ^ 2:=Nat.pow_le_pow_left a 2;grind [sizeLine_eq]
 lk;refine PD.comp_map (prs b.length) (λa=>V6 [a.1,a.2]) (λ_=>true) WI (λR q=>?_) g (λa d K c=>?_) (λa d _ K c=>?_) ?_;lk;refine⟨b.length,2,by simp_all,rfl,by lia,by decide,?_⟩;rw[Jn,UC];exact q;exact c;unfold V6;lk;exact⟨Y4 _ _,c⟩;rw[Xg.mpr (λ_ _=>rfl)];refine PD.comp_map (prs b.length) WI (λa=>decide (TC (gp b a.1)≠TC (gp b a.2))) WI (λR q=>?_) g (λa d K c=>?_) (λa d _ K c=>?_) h;lk;exact q;have m:=CQ.mp (show(a.1,a.2)∈prs b.length from d);lk
 lia
 exact c
def AR (F:aw K "pair_line" "pair_line" me f fd) (C:SN K mg κ)  (d:Nm P w K mg base κ) (b:nj P w K mg base κ) (c:kZ P w K mg base κ)  : aG P w K mg base (CX1 P w) 4 f fd ["dots", "pair"] (aH K (kS κ)):=by
 refine aw.okN F Bm (by fin2) λ_ _ _ _ _ _ a=>⟨_,(ak (ax (aq d a (aa (aq b a (aa (aq c a (aa (ai (dv 0) (ai (dv 1) ae)) af)) af)) (aa (aq b a (aa (aq c a (aa (ai (dv 0) (ai (dv 1) ae)) af)) af)) af))))),?_⟩
 rintro k Q Ed ⟨e,g,rfl,h⟩;x_go;obtain⟨c,b,a,d,h⟩:=h;have G1:=a _ (mG c);have G2:=a _ (mG b);unfold WI;lk;refine y6 c ?_;lk;refine y6 b ?_;lk;have a:Bd 200 1:=Bd.mono (m:=2) (by unfold Bd;decide) (by decide);refine⟨a,G1.x.mono (by decide),G1.y.mono (by decide),a,G2.x.mono (by decide),G2.y.mono (by decide),?_,?_⟩;rintro⟨j,i⟩;refine d ?_;unfold TC;grind;exact h
def BX (F:aw K "split_by" "split_by" jY f fd) (C:SN K mg κ)  (b:pL P w K mg base "weighed" 3 ["dots", "gauge", "colour"] "colour" (ib κ)) (c:mg "set" = none) (d:mg "sorted" = none):aG P w K mg base (CX1 P w) 4 f fd ["dots", "lines"] (aH K (mr κ)):=by
 refine aw.okN F B6 (by fin2) λ_ _ _ _ _ _ a=>⟨_,(ak (ax (bV (by rfl) (by exact bB (osc:=ao jY) (xs:=["each"]) (ns:=["dots"]) (by decide +kernel)) (br.cons 0 br.nil) (bb ((uM rfl (by exact Gi a) (by rfl) d (by rfl) c (dv 1))).YI) (λ_ _ _ _ _=>cf) (λ_ _ _ _ _=>(au aN (bA (aa (dv 0) af)) (i6 b (a.mono (by decide)) (aa (dv 1) (aa (dv 0) af)))))))),?_⟩
 rintro q Q Ed ⟨c,d,rfl,h⟩;x_go;unfold fV at h;obtain⟨i,n,e,l,h⟩:=h;lk;refine zL (P:=λa=>bO a d) RD (A7 c) (λR m=>?_) (λa b=>by have:=jc b;rw[To];lia) (λa b x g K k=>?_) λa b=>?_
 refine⟨false,d.map YN,by rw[KY],by rw[RH];exact e,λk j=>?_,λo d=>?_⟩;obtain⟨p,_,e⟩:=S5.mp j;rw[<- e];exact List.cons_ne_nil _ _;obtain⟨a,rfl,b⟩:=Hm d;rw[KY];exact m a b;obtain⟨j,e,d⟩:=l x ((b.2 x).mp g);lk;refine⟨Zx _,?_⟩;show ib κ [.lst false (c.map RG),T3 x.1 x.2.1 x.2.2,.RZ] _ _;rw[pF,jV];refine⟨λ_=>true,.inl ⟨rfl,rfl⟩,i,j,e,d,n,?_⟩;lk;exact⟨by rw[To];show 4<=_;lia,k⟩;exact h a b
def yN (F:aw K "pair_lines" "pair_lines" gQ f fd) (C:SN K mg κ)  (c:BA P w K mg base κ) (b:zr P w K mg base κ)  : aG P w K mg base (CX1 P w) 5 f fd ["dots"] (aH K (jG κ)):=by
 refine aw.okN F yQ (by fin2) λ_ _ _ _ _ _ a=>⟨_,(ak (ax (bV (by rfl) (by exact bB (osc:=ao gQ) (xs:=["pair"]) (ns:=["dots"]) (by decide +kernel)) (br.cons 0 br.nil) (bb (aq b a (aa (dv 0) af))) (λ_ _ _ _ _=>cf) (λ_ _ _ _ _=>(aq c a (aa (dv 1) (aa (dv 0) af))))))),?_⟩
 rintro i Q Ed ⟨a,rfl,h⟩;x_go;obtain⟨b,g,h⟩:=h;have c:(sps a).length<=sizeLine:=by have:=CN a;unfold wW at this;have:a.length*a.length<=30*30:=Nat.mul_le_mul b b;grind [sizeLine_eq]
 refine PD.comp_map (sps a) WI (λ_=>true) (λb=>RD (lnF (gp a b.1) (gp a b.2))) (λR q=>?_) c (λb e K d=>?_) (λb e _ K d=>?_) ?_;lk;exact⟨by lia,q⟩;exact d;obtain⟨a,b,c⟩:=mQ.mp e;lk;exact⟨by lia,b,g,c,d⟩;rw[Xg.mpr (λ_ _=>rfl)];unfold wW at h;rw[UC]at h;exact h
def GZ (F:aw K "length" "length" t6 f fd) (C:SN K mg κ)   (a:mg "abs" = none):aG P w K mg base (CX1 P w) 1 f fd ["way"] (aH K (qN κ)):=by
 refine aw.okN F Hu (by fin2) λ_ _ _ _ _ _ b=>⟨_,(ak (ax (au aN (aM pS (by rfl) a boot_abs (aa (ai (dv 0) ae) af)) (aM pS (by rfl) a boot_abs (aa (ai (dv 0) ae) af))))),?_⟩
 rintro c Q Ed ⟨w,rfl,h⟩;x_go;unfold SU;lk;exact h
def vh (F:aw K "are_opposite" "are_opposite" iF f fd) (C:SN K mg κ)  (b:Fp P w K mg base κ)  : aG P w K mg base (CX1 P w) 2 f fd ["one", "other"] (aH K (gU κ)):=by
 refine aw.okN F vG (by fin2) λ_ _ _ _ _ _ a=>⟨_,(ak (ax (kB (bT bF (aq b a (aa (dv 0) (aa (dv 1) af))) ae) (mD (bT b6 (au aN (au aE (ai (dv 0) ae) (ai (dv 1) ae)) (au aE (ai (dv 0) ae) (ai (dv 1) ae))) ae))))),?_⟩
 rintro g Q Ed ⟨a,b,rfl,h⟩;x_go;obtain⟨e,d,h⟩:=h;lk;refine⟨e,d,?_⟩;by_cases c:tn a b=0;rw[Rv c];unfold SU;lk;refine⟨Wk e.x d.x,Wk e.y d.y,?_⟩;have e:decide (tn a b=0/\Rp a b<0)=decide (a.1*b.1+a.2*b.2<0):=by rw[decide_eq_decide];exact⟨λq=>q.2,λq=>⟨c,q⟩⟩
 simp_all
 simp_all
def rY (F:aw K "balance_of_two" "balance_of_two" gr f fd) (C:SN K mg κ)  (d:wu P w K mg base κ) (b:zo P w K mg base κ) (c:zp P w K mg base κ)  : aG P w K mg base (CX1 P w) 3 f fd ["one", "other"] (aH K (fM κ)):=by
 refine aw.okN F sd (by fin2) λ_ _ _ _ _ _ a=>⟨_,(aj (aT (bP (bH (aq d a (aa (dv 0) (aa (dv 1) af))))) (ak (ax fQ)) aJ) (ak (ax (aq c a (aa (cL (aa (aq b a (aa (dv 1) af)) (aa (aq b a (aa (dv 0) af)) af))) af))))),?_⟩
 rintro j Q Ed ⟨a,b,rfl,h⟩;x_go;obtain⟨d,c,h⟩:=h;lk;refine⟨d,c,?_⟩;unfold pN at h;split;rename_i c;rw[Rv c]at h;have g:a≠(0,0):=λe=>by have:=c.2;unfold Rp at this;simp_all
 have i:=tJ g;have e:Bd 402 (bC a):=wR d;refine⟨Y4 _ _,?_⟩;show jo κ [D.lst false ([bC b,bC a].map D.int)] _ _;rw[kQ,jg];have g:=LS (d:=bC b) (x:=bC a) (by lia);exact⟨by simp,by show((Int.gcd ((Int.gcd 0 (bC b):Nat):Int) (bC a):Nat):Int)≠0;lia,IW e (by lia),h⟩;rename_i c;rw[if_neg c]at h;exact h
def pG (F:aw K "balance_of_three" "balance_of_three" cQ f fd) (C:SN K mg κ)  (d:zp P w K mg base κ) (b:Fp P w K mg base κ) (c:mg "max" = none) (e:mg "min" = none):aG P w K mg base (CX1 P w) 3 f fd ["one", "two", "three"] (aH K (dW κ)):=by
 refine aw.okN F dU (by fin2) λ_ _ _ _ _ _ a=>⟨_,(aj (az 3 dU.nd (cL (aa (aq b a (aa (dv 1) (aa (dv 2) af))) (aa (aq b a (aa (dv 2) (aa (dv 0) af))) (aa (aq b a (aa (dv 0) (aa (dv 1) af))) af))))) (aj (aT (aD b6 (aM (Lm rfl) (by rfl) c boot_max (aa (dv 3) af)) ae) (ak (nJ 3 dU.nd (by rfl) (by exact bB (osc:=ao cQ) (xs:=["each"]) (ns:=[]) (by decide +kernel)) br.nil (bb (dv 3)) (λ_ _ _ _ _=>cf) (λ_ _ _ _ _=>(bE (dv 0))))) aJ) (aj (aT (aD Et (aM (Ln rfl) (by rfl) e boot_min (aa (dv 3) af)) ae) (ak (ax fQ)) aJ) (ak (ax (aq d a (aa (dv 3) af))))))),?_⟩
 rintro B Q Ed ⟨a,b,e,rfl,h⟩;x_go;obtain⟨d,c,g,h⟩:=h;have i:Bd 801 (tn a b):=(d.x.mul c.y).sub (c.x.mul d.y);unfold lM at h;generalize e1:tn b e=x at *;generalize e2:tn e a=y at *;generalize e3:tn a b=z at *;have b:∀u v w:Int,Bd 801 w->0<w->Q (.lst true ((dj [u,v,w]).map D.int))->jo κ [D.lst false ([u,v,w].map D.int)] Q λ_=>False:=λu v w e j q=>by
  rw[kQ,jg];have a:w≠0:=by lia
  have gp:0<Int.gcd ((Int.gcd ((Int.gcd 0 u:Nat):Int) v:Nat):Int) w:=Int.gcd_pos_iff.mpr (.inr a);exact⟨by simp,by show((Int.gcd ((Int.gcd ((Int.gcd 0 u:Nat):Int) v:Nat):Int) w:Nat):Int)≠0;lia,(Ge e a).mono (by decide),q⟩
 lk;refine⟨c,g,g,d,d,c,?_⟩;rw[e1,e2,e3];refine⟨Xu _ _ _,.inr ⟨true,[x,y,z],rfl,by simp,λm c a=>?_⟩⟩;have A:=a x (by simp);have t:=a y (by simp);have s:=a z (by simp);have r:m=x∨m=y∨m=z:=by simpa using c
 split;rename_i c;refine PD.comp_map [x,y,z] D.int (λ_=>true) (λk=>.int (-k)) (λR q=>?_) (by rw[To];simp) (λk d K a=>?_) (λk d _ K a=>?_) ?_;lk;exact q;lk;exact a;lk;exact a;refine⟨true,[-x,-y,-z],rfl,by simp,λn d a=>?_⟩;have e:n=-x∨n=-y∨n=-z:=by simpa using d
 rw[if_neg (by lia)]at h ⊢;rw[Rv (by lia)]at h;exact b _ _ _ (pP i) (by lia) h;rename_i c;refine⟨true,[x,y,z],rfl,by simp,λn d a=>?_⟩;have e:n=x∨n=y∨n=z:=by simpa using d
 have p:=a x (by simp);have o:=a y (by simp);have l:=a z (by simp);split;rename_i d;rw[if_neg (by lia),if_neg (by lia)]at h;exact h;rename_i d;rw[Rv (by lia)]at h;exact b _ _ _ i (by lia) h
def Eu (F:aw K "balance" "balance" qu f fd) (C:SN K mg κ)  (e:pK P w K mg base κ) (c:sV P w K mg base κ) (d:zo P w K mg base κ) (b:mg "len" = none):aG P w K mg base (CX1 P w) 4 f fd ["ways"] (aH K (oM κ)):=by
 refine aw.okN F EN (by fin2) λ_ _ _ _ _ _ a=>⟨_,(aj (aT (aD bF (aM bL (by rfl) b Wm (aa (dv 0) af)) ae) (ak (ax (nF (aD bF (aq d a (aa (ai (dv 0) ae) af)) ae) (cL (aa ae af)) fQ))) aJ) (aj (aT (aD bF (aM bL (by rfl) b Wm (aa (dv 0) af)) ae) (ak (ax (aq c a (aa (ai (dv 0) ae) (aa (ai (dv 0) ae) af))))) aJ) (ak (ax (aq e a (aa (ai (dv 0) ae) (aa (ai (dv 0) ae) (aa (ai (dv 0) ae) af)))))))),?_⟩
 rintro j Q Ed ⟨a,rfl,h⟩;x_go;obtain⟨c,g,i,h⟩:=h;rcases a with _|⟨a,_|⟨b,_|⟨e,_|⟨z,r⟩⟩⟩⟩;simp at c;have d:Q (oL (sZ a)):=h;unfold sZ at d;lk;by_cases c:bC a=0;rw[Rv c]at d ⊢;exact⟨Zx _,d⟩;rw[if_neg c]at d ⊢;exact d;have d:Q (oL (pN a b)):=h;lk
 simp_all
 have d:Q (oL (lM a b e)):=h;lk
 simp_all
 simp at g
 lia
def tQ (F:aw K "place_between" "place_between" gR f fd) (C:SN K mg κ)  (c:Ld P w K mg base κ) (b:Cm P w K mg base κ)  : aG P w K mg base (CX1 P w) 4 f fd ["one", "other", "gauge"] (aH K (dO κ)):=by
 refine aw.okN F gC (by fin2) λ_ _ _ _ _ _ a=>⟨_,(aj (az 3 gC.nd (aq b a (aa (dv 2) (aa (dv 0) af)))) (aj (az 4 gC.nd (aq b a (aa (dv 2) (aa (dv 1) af)))) (ak (ax (aq c a (aa (au aW (au aE (dv 4) (ai (dv 0) ae)) (au aE (dv 3) (ai (dv 1) ae))) (aa (au aW (au aE (dv 4) (ai (dv 0) ae)) (au aE (dv 3) (ai (dv 1) ae))) (aa (au aW (au aE (dv 4) (ai (dv 0) ae)) (au aE (dv 3) (ai (dv 1) ae))) af)))))))),?_⟩
 rintro z Q Ed ⟨y,u,i,t,s,r,p,o,n,rfl,h⟩;x_go;obtain⟨g,e,d,c,b,a,k,l,j,q,h⟩:=h;have m:∀{x:Int},Bd 200 x->Bd 1000 x:=λh=>h.mono (by decide)
 have hv:Bd 402 (p*y+o*u+n*i):=((k.mul g).add (l.mul e)).add ((j.mul d).mono (by decide));have i:Bd 402 (p*t+o*s+n*r):=((k.mul c).add (l.mul b)).add ((j.mul a).mono (by decide));lk;refine⟨m k,m l,m j,m g,m e,m d,m k,m l,m j,m c,m b,m a,Wk i g,Wk hv c,Wk i e,Wk hv b,Wk i d,Wk hv a,q,?_,?_,?_,?_⟩;exact((i.mul g).sub (hv.mul c)).mono (by decide);exact((i.mul e).sub (hv.mul b)).mono (by decide);exact((i.mul d).sub (hv.mul a)).mono (by decide);exact h
def Ew (F:aw K "clipped" "clipped" lA f fd) (C:SN K mg κ)  (e:uz P w K mg base κ) (a:Fn P w K mg base κ) (b:mg "len" = none) (d:mg "range" = none):aG P w K mg base (CX1 P w) 5 f fd ["corners", "gauge"] (aH K (gW κ)):=by
 refine aw.okN F gT (by fin2) λ_ _ _ _ _ _ c=>⟨_,(aj (kC 2 gT.nd af) (aj (cF PassesOwn.never rfl (i9 (by rfl) d (aa (aM bL (by rfl) b Wm (aa (dv 0) af)) af)) (bq 3 gT.nd) (aj (az 4 gT.nd (ai (dv 0) (au aW (dv 3) ae))) (aj (az 5 gT.nd (ai (dv 0) (dv 3))) (aj (aT (aD b6 (au aE (aq a c (aa (dv 1) (aa (dv 4) af))) (aq a c (aa (dv 1) (aa (dv 5) af)))) ae) (ak (eK 2 (aq e c (aa (dv 4) (aa (dv 5) (aa (dv 1) af)))))) aJ) (ak (aT (aD Es (aq a c (aa (dv 1) (aa (dv 5) af))) ae) (ak (eK 2 (dv 5))) aJ)))))) (dI 2 (ak (ax (bV (by rfl) (by exact bB (osc:=ao lA) (xs:=["index"]) (ns:=["kept"]) (by decide +kernel)) (br.cons 2 br.nil) (i9 (by rfl) d (aa (aM bL (by rfl) b Wm (aa (dv 2) af)) af)) (λ_ _ _ _ _=>(vU (aD (JA (by exact c.units)) (ai (dv 1) (dv 0)) (WH.YI (eI (dv 1) cC (cJ (dv 0))))))) (λ_ _ _ _ _=>(ai (dv 1) (dv 0))))))))),?_⟩
 rintro ds Q Ed ⟨a,g,d,b,rfl,h⟩;x_go;unfold fh at h;obtain⟨hl,r,y,A,u,h⟩:=h;have m:∀{x:Int},Bd 200 x->Bd 1000 x:=λh=>h.mono (by decide)
 have t:∀p∈a,Bd 200 p.1/\Bd 200 p.2.1/\Bd 200 p.2.2:=λp e=>⟨(r p e).2.b.mono (by decide),(r p e).2.x.mono (by decide),(r p e).2.y.mono (by decide)⟩
 have o:∀{i:yat} {k:Nat} {p:Tr},i[k]?=some p->T9 (i.map RD) (k:Int)=some (RD p):=fun {i k p} e=>bU (by rw[U0,e];rfl)
 lk;refine⟨UE _,?_⟩;refine yb (List.range' 0 a.length) (λ(k:Nat)=>D.int (k:Int)) (λj e=>∃E C B:Option Sl,e=[some (.val (.lst false (a.map RD))),some (.val (T3 g d b)),some (.own ((aQ (g,d,b) (c8 (g,d,b)) (a.getLastD (0,0,0)) (a.take j)).map RD)),E,C,B]) (λR q=>?_) ⟨none,none,none,rfl⟩ ?_ ?_;lk;rw[RH,A6];exact⟨⟨by lia,by lia⟩,q⟩;rintro j k Rq l ⟨E,C,B,rfl⟩ KK s;obtain⟨e,i⟩:=VE.mp l;rw[zBw]at e;rw[List.getElem_range',YX,Nat.one_mul]at i;subst i;have n:a[j]?=some a[j]:=Ul e;have U:T9 (a.map RD) ((j:Int) - 1)=some (RD ((a.take j).getLastD (a.getLastD (0,0,0)))):=by
  have:=zE (a.map RD) j 1 (by rw[RH];exact e) (by rw[RH];lia);rw[show((j:Int) - 1)=((j:Int) - ((1:Nat):Int))from rfl,this,RH,U0];have i:a[(j+a.length - 1) % a.length]?=some ((a.take j).getLastD (a.getLastD (0,0,0))):=by
   cases j with
   |zero =>
    have:(0+a.length - 1) % a.length=a.length - 1:=by rw[YX];exact XQ (by lia)
    rw[this,List.take_zero,List.getLastD_nil,<- List.getLast?_eq_getElem?,zCQ];cases hq:a.getLast? with
    |none=>rw[zDS]at hq;rw[hq]at e;exact absurd e (by simp)
    |some z=>rfl
   |succ j =>
    have:(j+1+a.length - 1) % a.length=j:=by rw[show j+1+a.length - 1=j+a.length by lia,Nat.add_mod_right];exact XQ (by lia)
    rw[this,zCQ,List.getLast?_take];simp;rw[Ul (by lia)];rfl
  rw[i];rfl
 have H:(a.take j).getLastD (a.getLastD (0,0,0))∈a:=by
  rw[zCQ];cases hq:(a.take j).getLast? with
  |some z=>exact(zDF j a).subset (List.mem_of_getLast? hq)
  |none =>
   rw[Option.getD_none,zCQ];cases c:a.getLast? with
   |some z=>exact List.mem_of_getLast? c
   |none=>rw[zDS]at c;rw[c]at e;exact absurd e (by simp)
 have wl:=ur (g,d,b) (c8 (g,d,b)) (a.take j) (a.getLastD (0,0,0));have tl:(a.take j).length<=a.length:=by rw[Xj];lia
 have l:=HU (g,d,b) (c8 (g,d,b)) (a.getLastD (0,0,0)) (a.take j) a[j];rw[show a.take j++[a[j]]=a.take (j+1)by rw[zDa,n];rfl]at l;generalize (a.take j).getLastD (a.getLastD (0,0,0))=p at U H l;have G:a[j]∈a:=YT _;generalize XT:a[j]=c at n G l;generalize aQ (g,d,b) (c8 (g,d,b)) (a.getLastD (0,0,0)) (a.take j)=K at wl l ⊢;obtain⟨T,Q,O⟩:=t p H;obtain⟨N,M,L⟩:=t c G;have Y:K.length<=2000000:=by lia
 have t:∀(e:yat) (J I:D),e.length<=2000001->aQ (g,d,b) (c8 (g,d,b)) (a.getLastD (0,0,0)) (a.take (j+1))=e++(if 0<=Rl (g,d,b) c then[c]else[])->iR κ [T3 g d b,RD c] (λx=>fG (λi j=>D.bl (decide (j<=i))) x (D.int 0) λx=>blQ x λk=>if k=true then(e.map RD).length<sizeLine/\KK [some (.val (.lst false (a.map RD))),some (.val (T3 g d b)),some (.own (e.map RD++[RD c])),some (.val (.int j)),some (.val J),some (.val I)]else KK [some (.val (.lst false (a.map RD))),some (.val (T3 g d b)),some (.own (e.map RD)),some (.val (.int j)),some (.val J),some (.val I)]) λ_=>False:=λe J I Y e=>by show iR κ [T3 g d b,T3 c.1 c.2.1 c.2.2] _ _;rw[j5,kg];refine⟨m y,m A,m u,m N,m M,m L,?_⟩;rw[iA,jL];have i:(0<=sg (g*c.1+d*c.2.1+b*c.2.2))↔0<=Rl (g,d,b) c:=Pt _;by_cases q:0<=Rl (g,d,b) c;rw[Rv q]at e;rw[Rv (U5 (i.mpr q))];exact⟨by rw[RH,To];lia,s _ ⟨_,_,_,by rw[e,Vy];rfl⟩⟩;rw[if_neg q,YV]at e;rw[if_neg (by rw[decide_eq_true_eq];exact λz=>q (i.mp z))];exact s _ ⟨_,_,_,by rw[e]⟩
 lk;refine⟨_,U,_,o n,?_⟩;rw[iU,iU];show iR κ [T3 g d b,T3 p.1 p.2.1 p.2.2] _ _;rw[j5,kg];refine⟨m y,m A,m u,m T,m Q,m O,?_⟩;show iR κ [T3 g d b,T3 c.1 c.2.1 c.2.2] _ _;rw[j5,kg];refine⟨m y,m A,m u,m N,m M,m L,?_⟩;have i:(sg (g*p.1+d*p.2.1+b*p.2.2)*sg (g*c.1+d*c.2.1+b*c.2.2)<0)↔Rl (g,d,b) p*Rl (g,d,b) c<0:=Pq _ _;have j:∀x:Int,Bd 64 (sg x):=λx=>by unfold sg Bd;split;exact(by decide);split<;>decide
 rw[C5,iA,jL];refine⟨.inl (j _),?_⟩;by_cases q:Rl (g,d,b) p*Rl (g,d,b) c<0;rw[Rv (U5 (i.mpr q))];rw[Rv q]at l;show dO κ [T3 p.1 p.2.1 p.2.2,T3 c.1 c.2.1 c.2.2,T3 g d b] _ _;rw[ic,dM];refine⟨T,Q,O,N,M,L,y,A,u,?_,by rw[RH,To];lia,?_⟩;rcases Bw (r p H).1 (r c G).1 q with⟨_,_,z⟩| ⟨_,_,z⟩<;>exact λe=>by rw[e]at z;exact zCn _ z
 have:=t (K++[c8 (g,d,b) p c]) (RD p) (RD c) (by simp;lia) (by rw[l,Xi]);rw[Vy]at this;exact this;rw[if_neg (by rw[decide_eq_true_eq];exact λz=>q (i.mp z))];rw[if_neg q,Z6]at l;exact t K (RD p) (RD c) (by lia) l;rintro Rq ⟨E,C,B,rfl⟩;rw[zBw,zCA];have wl:=ur (g,d,b) (c8 (g,d,b)) a (a.getLastD (0,0,0));have c:eW (g,d,b) a=V7 [] (aQ (g,d,b) (c8 (g,d,b)) (a.getLastD (0,0,0)) a):=by
  unfold eW;cases hq:a.getLast? with
  |none =>
   rw[zDS]at hq;subst hq;rfl
  |some z=>rw[zCQ,hq];rfl
 rw[c]at h;generalize aQ (g,d,b) (c8 (g,d,b)) (a.getLastD (0,0,0)) a=K at wl h ⊢;have d:∀k,k<K.length->K[k]?=some (K.getD k (0,0,0)):=λk b=>by rw[Xz,Ul b];rfl
 have g:∀k,k<=K.length->PD.cutD (K.map RD) none (some (k:Int))=(K.take k).map RD:=λk b=>by unfold PD.cutD;rw[HT.J0,HT.kh,List.drop_zero,Nat.sub_zero,RH,Yt b,List.map_take]
 have e:∀(l:yat) (x:Tr),(l.map RD).any (λz=>eqD z (RD x))=l.any λy=>decide (y=x):=λl x=>by
  rw[List.any_map];congr 1
  funext y
  exact Oi y x
 lk;refine PD.comp_map (List.range' 0 K.length) (λ(k:Nat)=>D.int (k:Int)) (λk=>!(K.take k).any λy=>decide (y=K.getD k (0,0,0))) (λk=>RD (K.getD k (0,0,0))) (λR q=>?_) (by rw[zBw,To];lia) (λk b a c=>?_) (λk b _ a c=>?_) ?_;lk;rw[RH,A6];exact⟨⟨by lia,by lia⟩,q⟩;have a:k<K.length:=by rw[List.mem_range'_1]at b;lia
 lk;refine⟨_,o (d k a),?_⟩;rw[g k (by lia)];refine⟨?_,?_⟩;exact(iz _).okI;exact⟨(Uy.map iz).ok,_,.inr ⟨_,rfl⟩,by rw[e];exact c⟩;have a:k<K.length:=by rw[List.mem_range'_1]at b;lia
 lk;exact⟨_,o (d k a),c⟩;have a:=zZ (0,0,0) K [];rw[List.length_nil,Z6]at a;rw[<- a,UC]at h;exact h
def GX (F:aw K "common" "common" tY f fd) (C:SN K mg κ)  (b:xH P w K mg base κ)  : aG P w K mg base (CX1 P w) 6 f fd ["corners", "gauges"] (aH K (qL κ)):=by
 refine aw.okN F qG (by fin2) λ_ _ _ _ _ _ a=>⟨_,(aj (cF PassesOwn.never rfl (bb (dv 1)) (bq 2 qG.nd) (ak (az 0 qG.nd (aq b a (aa (dv 0) (aa (dv 2) af)))))) (ak (ax (dv 0)))),?_⟩
 rintro r Q Ed ⟨b,a,rfl,h⟩;x_go;obtain⟨o,d,e,h⟩:=h;refine PD.ip a RD (λj c=>∃(t:Bool) (v:Option Sl),c=[some (.val (.lst t ((aV (a.take j) b).map RD))),some (.val (.lst false (a.map RD))),v]) (λR q=>?_) ⟨false,none,rfl⟩ ?_ ?_;lk;exact q;rintro j g n c ⟨t,v,rfl⟩;obtain⟨l,p⟩:=VE.mp c;obtain⟨k,i⟩:=d j l;obtain⟨m,l,d⟩:=e g (UZ c);lk;show gW κ [.lst false ((aV (a.take j) b).map RD),T3 g.1 g.2.1 g.2.2] _ _;rw[jF,fh];refine⟨k,i,m,l,d,?_⟩;have e:aV (a.take (j+1)) b=eW g (aV (a.take j) b):=by
  unfold aV
  simp_all [zDa,List.foldl_append]
 exact⟨true,_,by rw[e]⟩;rintro n ⟨t,v,rfl⟩;rw[zCA];exact h t
def O0 (F:aw K "led" "led" EM f fd) (C:SN K mg κ)  (E:Nn P w K mg base κ) (G:mg "len" = none) (I:mg "range" = none):aG P w K mg base (CX1 P w) 3 f fd ["corners"] (aH K (Bp κ)):=by
 refine aw.okN F vI (by fin2) λ_ _ _ _ _ _ x=>⟨_,(aj (az 1 vI.nd ae) (aj (cF PassesOwn.never rfl (i9 (by rfl) I (aa (aM bL (by rfl) G Wm (aa (dv 0) af)) af)) (bq 2 vI.nd) (ak (aT (aD b6 (aq E x (aa (ai (dv 0) (dv 2)) (aa (ai (dv 0) (dv 1)) af))) ae) (ak (az 1 vI.nd (dv 2))) aJ))) (ak (ax (au aN (WH.YI (eI (dv 0) (cJ (dv 1)) cC)) (WH.YI (eI (dv 0) cC (cJ (dv 1))))))))),?_⟩
 rintro L Q Ed ⟨c,rfl,h⟩;x_go;unfold vB at h;obtain⟨J,r,h⟩:=h;have d:∀p∈c,Bd 1000 p.1/\Bd 1000 p.2.1/\Bd 1000 p.2.2:=λp o=>⟨(r p o).b.mono (by decide),(r p o).x.mono (by decide),(r p o).y.mono (by decide)⟩
 have i:∀{k:Nat},k<c.length->T9 (c.map RD) (k:Int)=some (RD (c.getD k (0,0,0)))/\c.getD k (0,0,0)∈c:=fun {k} y=>by
  have e:c[k]?=some (c.getD k (0,0,0)):=by rw[Xz,Ul y];rfl
  exact⟨bU (by rw[U0,e];rfl),UZ e⟩
 lk;refine PD.ip (List.range' 0 c.length) (λ(k:Nat)=>D.int (k:Int)) (λj u=>∃v:Option Sl,u=[some (.val (.lst false (c.map RD))),some (.val (.int ((ldI c j:Nat):Int))),v]) (λR q=>?_) ⟨none,rfl⟩ ?_ ?_;lk;rw[RH,A6];exact⟨⟨by omega,by omega⟩,q⟩;rintro j k H z ⟨v,rfl⟩;obtain⟨t,s⟩:=VE.mp z;rw[zBw]at t;rw[List.getElem_range',YX,Nat.one_mul]at s;subst s;have n:=(uY c j).1;obtain⟨B,m⟩:=i t;obtain⟨A,l⟩:=i (show ldI c j<c.length by omega);have g:=KI c j;unfold stI at g;lk;refine⟨_,B,_,A,?_⟩;rw[iU,iU];generalize c.getD j (0,0,0)=a at *;generalize c.getD (ldI c j) (0,0,0)=b at *;show rT κ [T3 a.1 a.2.1 a.2.2,T3 b.1 b.2.1 b.2.2] _ _;rw[vT,rQ];refine⟨(d a m).1,(d a m).2.1,(d a m).2.2,(d b l).1,(d b l).2.1,(d b l).2.2,?_⟩;rw[iA,jL];by_cases q:rkT a b<0;rw[Rv q]at g;rw[Rv (U5 (show rk a.1 a.2.1 a.2.2 b.1 b.2.1 b.2.2<0 from q)),g];exact⟨_,rfl⟩;rw[if_neg q]at g;rw[if_neg (by rw[decide_eq_true_eq];exact q),g];exact⟨_,rfl⟩;rintro H ⟨v,rfl⟩;rw[zBw];have n:=(uY c c.length).1;lk;rw[NK _ (by rw[RH];exact n),zS _ (by rw[RH];exact n),<- List.map_drop,<- List.map_take,<- Vy];refine⟨?_,h⟩;rw[RH,RH,W5,Xj,To];omega
def wY (F:aw K "last_needed" "last_needed" jz f fd) (C:SN K mg κ)  (b:xH P w K mg base κ) (c:mg "len" = none):aG P w K mg base (CX1 P w) 6 f fd ["corners", "gauges"] (aH K (iN κ)):=by
 refine aw.okN F fx (by fin2) λ_ _ _ _ _ _ a=>⟨_,(aj (az 2 fx.nd (bE ae)) (aj (kD PassesOwn.never (aD jQ (aM bL (by rfl) c Wm (aa (dv 0) af)) ae) (aj (N9 2 fx.nd ae OI) (ak (az 0 fx.nd (aq b a (aa (dv 0) (aa (ai (dv 1) (dv 2)) af))))))) (ak (ax (dv 2))))),?_⟩
 rintro o Q Ed ⟨g,b,rfl,h⟩;obtain⟨n,e,i,a,l,d,p,h⟩:=h;lk;refine⟨λm c=>∃(j:Nat) (t:Bool),j<=a+1/\m=a+1 - j/\c=[some (.val (.lst t ((aV (b.take j) g).map RD))),some (.val (.lst false (b.map RD))),some (.val (.int ((j:Int) - 1)))],⟨_,0,false,by lia,rfl,rfl⟩,?_⟩;rintro m c ⟨j,t,Y6,rfl,rfl⟩;lk;rw[RH];by_cases c:j=a+1
 simp_all
 have c:=d j (by lia);rw[Rv (by have:=zC1.mpr c;lia)];obtain⟨k,h⟩:=e j (by lia);have c:b[j]?=some (b[j]'(by lia)):=Ul _;have d:=i _ (YT (show j<b.length by lia));refine⟨_,rfl,?_⟩;lk;have e:T9 (b.map RD) (j:Int)=some (RD (b[j]'(by lia))):=bU (by rw[U0,c];rfl);rw[show((j:Int) - 1+1)=(j:Int)by lia];refine⟨_,e,?_⟩;show gW κ [.lst false ((aV (b.take j) g).map RD),T3 (b[j]'(by lia)).1 (b[j]'(by lia)).2.1 (b[j]'(by lia)).2.2] _ _;rw[jF,fh];refine⟨k,h,d.1,d.2.1,d.2.2,a+1 - (j+1),by lia,j+1,true,by lia,rfl,?_⟩;rw[tB c,show(((j+1:Nat):Int) - 1)=(j:Int)by lia]
def BQ (F:aw K "constant" "constant" jW f fd) (C:SN K mg κ)   (b:mg "sum" = none) (a:mg "zip" = none):aG P w K mg base (CX1 P w) 1 f fd ["gauges", "numbers", "shares"] (aH K (mh κ)):=by
 refine aw.okN F BZ (by fin2) λ_ _ _ _ _ _ s=>⟨_,(ak (ax (aM (uG rfl) (by rfl) b boot_sum (aa (Aa (by rfl) (by exact bB (osc:=ao jW) (xs:=["number", "share"]) (ns:=["gauges"]) (by decide +kernel)) (br.cons 0 br.nil) (.cons (.cons .nil)) (Gk (by rfl) a (aa (dv 1) (aa (dv 2) af))) (λ_ _ _ _ _=>cf) (λ_ _ _ _ _=>(au aE (ai (ai (dv 2) (dv 0)) ae) (dv 1)))) af)))),?_⟩
 rintro t Q Ed ⟨c,ns,i,rfl,h⟩;x_go;unfold fU at h;obtain⟨d,rfl,p,r,a,o,m,h⟩:=h;have l:∀k∈d,c[k]?=some (c.getD k (0,0,0)):=λk g=>by rw[Xz,Ul (a k g)];rfl
 lk;refine PD.pU (d.zip i) (λz=>[.int ((z.1:Nat):Int),.int z.2]) (λ_=>true) (λz=>.int ((c.getD z.1 (0,0,0)).1*z.2)) (λR q=>?_) (by rw[List.length_zip,To];lia) (λ_=>rfl) (λz j K g=>?_) (λz j _ K g=>?_) ?_;lk;have e:=xG d i;rw[UC];rw[show(List.map ((λn=>D.int n)∘λ(k:Nat)=>(k:Int)) d)=d.map (λ(k:Nat)=>D.int (k:Int))from rfl,e];exact q;lk;exact g;have e:=zDU (a:=z.1) (b:=z.2) j;have at1:T9 (c.map RD) ((z.1:Nat):Int)=some (RD (c.getD z.1 (0,0,0))):=bU (by rw[U0,l z.1 e.1];rfl);lk;refine⟨_,at1,?_⟩;have a:=o _ (UZ (l z.1 e.1));rw[show RD (c.getD z.1 (0,0,0))=D.tup [.int (c.getD z.1 (0,0,0)).1,.int (c.getD z.1 (0,0,0)).2.1,.int (c.getD z.1 (0,0,0)).2.2]from rfl];lk;exact⟨Wk a (m _ e.2),g⟩;rw[Xg.mpr (λ_ _=>rfl)];refine⟨true,(d.zip i).map λz=>(c.getD z.1 (0,0,0)).1*z.2,by rw[UC];rfl,?_⟩;exact h
def Mr (F:aw K "bars" "bars" vD f fd) (C:SN K mg κ)  (c:Fg P w K mg base κ) (g:Dw P w K mg base κ) (e:yF P w K mg base κ) (b:Ck P w K mg base κ) (h:mg "list" = none) (d:mg "zip" = none):aG P w K mg base (CX1 P w) 7 f fd ["corners", "gauges"] (aH K (xr κ)):=by
 refine aw.okN F mU (by fin2) λ_ _ _ _ _ _ a=>⟨_,(aj (az 2 mU.nd (aq e a (aa (dv 0) (aa (dv 1) af)))) (ak (cF PassesOwn.never rfl (bb (au aN (aq b a (aa (dv 2) (aa ae af))) (aq b a (aa (dv 2) (aa ae af))))) (bq 3 mU.nd) (aj (az 4 mU.nd (au aN (dv 3) (cL (aa (dv 2) af)))) (aj (az 5 mU.nd (aq c a (aa (bV (by rfl) (by exact bB (osc:=ao vD) (xs:=["number"]) (ns:=["gauges"]) (by decide +kernel)) (br.cons 1 br.nil) (bb (dv 4)) (λ_ _ _ _ _=>cf) (λ_ _ _ _ _=>(Ac (ai (dv 1) (dv 0)) (cJ ae) cC))) af))) (ak (aT (Vm.pt (p4 (aD Mi (dv 5) fQ) (mF (aD b6 (aq g a (aa (dv 1) (aa (dv 4) (aa (dv 5) af)))) ae)))) (ak (ax ((D8 rfl (by rfl) h (by rfl) d (aa (dv 4) (aa (dv 5) af)))).YI)) aJ))))))),?_⟩
 rintro t Q Ed ⟨k,l,rfl,h⟩;x_go;unfold rO at h;obtain⟨e,d,p,a,g,c,i,r,b,h⟩:=h;lk;refine⟨e,d,p,a,g,c,i,?_⟩;have c:∀i,i<=2->(Uq a i).length<=1000000:=λi d=>Sd (mM a i) (Sd (Nat.pow_le_pow_left (show a<=1000 by lia) i) (Sd (zDN (by decide) d) (by decide)))
 refine PD.ip (Uq a 1++Uq a 2) V6 (λj d=>∃n m i:Option Sl,ik l a ((Uq a 1++Uq a 2).drop j)=some r/\d=[some (.val (.lst false (k.map RD))),some (.val (.lst false (l.map RD))),some (.val (.int (a:Int))),n,m,i]) (λR q=>?_) ⟨none,none,none,b,rfl⟩ ?_ ?_;lk;have e:=Vy (f:=V6) (l₁:=Uq a 1) (l₂:=Uq a 2);rw[e]at q;refine⟨a,1,rfl,rfl,by lia,by decide,a,2,rfl,rfl,by lia,by decide,?_,q⟩;have:=c 1 (by decide);have:=c 2 (by decide);rw[RH,RH,To]
 lia
 rintro j o r b ⟨n,m,i,d,rfl⟩;obtain⟨e,c⟩:=VE.mp b;rw[zBZ e,c]at d;obtain⟨s,e⟩:=Ei (UZ b);have lt':∀k∈o++[a],k<l.length:=λk c=>by
  rcases Ta.mp c with q|q;have:=e k q;lia;rw[VF.mp q];exact g
 have j:∀k∈o++[a],l[k]?=some (l.getD k (0,0,0)):=λk c=>by rw[Xz,Ul (lt' k c)];rfl
 have b:(o.map λ(k:Nat)=>D.int (k:Int))++[D.int (a:Int)]=(o++[a]).map λ(k:Nat)=>D.int (k:Int):=by rw[Vy];rfl
 unfold V6;lk;have lo:(o++[a]).length<=3:=by rw[Vh,zCj];lia
 refine⟨Zx _,by rw[RH,To];show _+1<=_;lia,?_⟩;rw[b];refine PD.comp_map (o++[a]) (λ(k:Nat)=>D.int (k:Int)) (λ_=>true) (λk=>SU (vc (l.getD k (0,0,0)))) (λR q=>?_) (by rw[To];lia) (λk c K b=>?_) (λk c _ K b=>?_) ?_;lk;exact q;lk;exact b;lk;have e:T9 (l.map RD) ((k:Nat):Int)=some (RD (l.getD k (0,0,0))):=bU (by rw[U0,j k c];rfl);exact⟨_,e,_,rfl,by show¬(HT.SG 3 0 (some 1)=0/\_);exact λz=>absurd z.1 (by decide),b⟩;rw[Xg.mpr (λ_ _=>rfl)];have q:(o++[a]).map (λk=>SU (vc (l.getD k (0,0,0))))=(Xe l (o++[a])).map SU:=by unfold Xe;rw[UC];rfl
 have g:(Xe l (o++[a])).length=(o++[a]).length:=by unfold Xe;rw[RH]
 have e:∀w∈Xe l (o++[a]),WB 400 w:=λw b=>by obtain⟨k,c,rfl⟩:=S5.mp b;have b:=p _ (UZ (j k c));exact⟨b.2.1.mono (by decide),b.2.2.mono (by decide)⟩
 rw[q,qU,vW,pC,jR];refine⟨by rw[g];simp,by lia,e,?_⟩;unfold ik at d;cases hb2:lN (Xe l (o++[a]))with
 |none =>
  rw[hb2]at d;rw[if_neg (show¬iW (oL none)=false by decide)];exact⟨_,_,_,d,rfl⟩
 |some b =>
  rw[hb2]at d;have B:=uC (by lia) hb2;have j:=Fv e (by lia) hb2;have e:(o++[a]).length=b.length:=by rw[B.len,g]
  have g:(o++[a]).map (λ(k:Nat)=>D.int (k:Int))=((o++[a]).map λ(k:Nat)=>(k:Int)).map D.int:=by rw[UC];rfl
  rw[Rv (show iW (oL (some b))=false from rfl)];have c:aU (oL (some b))=.lst false (b.map D.int):=by show aU (.lst true (b.map D.int))=_;rw[qU,mz]
  rw[c];have c:bf ((o++[a]).map (λ(k:Nat)=>D.int (k:Int)))=((o++[a]).map λ(k:Nat)=>(k:Int)).map D.int:=by rw[g,mz]
  rw[c,mZ,fU];refine⟨o++[a],rfl,e,lo,lt',λg c=>(p g c).1,j,?_⟩;rw[iA,jL];by_cases c:nC l (o++[a]) b<0;dsimp only at d;rw[Rv c]at d;cases d;rw[Rv (U5 c)];refine⟨_,_,_,_,_,_,rfl,rfl,rfl,by rw[RH,RH];exact e,by rw[RH];lia,?_⟩;rw[xG];exact h;dsimp only at d;rw[if_neg c]at d;rw[if_neg (by rw[decide_eq_true_eq];exact c)];exact⟨_,_,_,d,rfl⟩
 rintro r ⟨n,m,i,d,rfl⟩;rw[List.drop_length]at d;cases d
def yM (F:aw K "axis_lines" "axis_lines" eR f fd) (C:SN K mg κ)    : aG P w K mg base (CX1 P w) 1 f fd ["dots"] (aH K (jE κ)):=by
 refine aw.okN F yP (by fin2) λ_ _ _ _ _ _ d=>⟨_,(ak (ax (au aN (bV (by rfl) (by exact bB (osc:=ao eR) (xs:=["dot"]) (ns:=[]) (by decide +kernel)) br.nil (bb (dv 0)) (λ_ _ _ _ _=>cf) (λ_ _ _ _ _=>(bA (aa (bE (ai (dv 0) ae)) (aa ae (aa ae af)))))) (bV (by rfl) (by exact bB (osc:=ao eR) (xs:=["dot"]) (ns:=[]) (by decide +kernel)) br.nil (bb (dv 0)) (λ_ _ _ _ _=>cf) (λ_ _ _ _ _=>(bA (aa (bE (ai (dv 0) ae)) (aa ae (aa ae af))))))))),?_⟩
 rintro g Q Ed ⟨c,rfl,h⟩;x_go;obtain⟨e,h⟩:=h;lk;refine PD.comp_map c RG (λ_=>true) (λp=>RD (-p.1,1,0)) (λR q=>?_) (by rw[To];lia) (λx b K a=>?_) (λx b _ K a=>?_) ?_;lk;exact q;lk
 lia
 unfold RG;lk;exact⟨Xu _ _ _,a⟩;refine PD.comp_map c RG (λ_=>true) (λp=>RD (-p.2.1,0,1)) (λR q=>?_) (by rw[To];lia) (λx b K a=>?_) (λx b _ K a=>?_) ?_;lk;exact q;lk
 lia
 unfold RG;lk;exact⟨Xu _ _ _,a⟩;rw[Xg.mpr (λ_ _=>rfl),zA];unfold axL at h;rw[Vy,UC,UC]at h;exact⟨by rw[RH,RH,To];lia,h⟩
def BV (F:aw K "opposite" "opposite" oD f fd) (C:SN K mg κ)    : aG P w K mg base (CX1 P w) 1 f fd ["gauge"] (aH K (i5 κ)):=by
 refine aw.okN F B4 (by fin2) λ_ _ _ _ _ _ a=>⟨_,(ak (ax (bA (aa (bE (ai (dv 0) ae)) (aa (bE (ai (dv 0) ae)) (aa (bE (ai (dv 0) ae)) af)))))),?_⟩
 rintro e Q Ed ⟨d,c,b,rfl,h⟩;x_go;lk;exact⟨Xu _ _ _,h⟩
def wX (F:aw K "half_planes" "half_planes" jy f fd) (C:SN K mg κ)  (e:zj P w K mg base κ) (c:DD P w K mg base κ) (d:zq P w K mg base κ) (b:DF P w K mg base κ)  : aG P w K mg base (CX1 P w) 6 f fd ["dots"] (aH K (iM κ)):=by
 refine aw.okN F iJ (by fin2) λ_ _ _ _ _ _ a=>⟨_,(aj (kC 1 iJ.nd af) (aj (cF PassesOwn.never rfl (bb (aq b a (aa (dv 0) (aa (au aN (aq d a (aa (dv 0) af)) (aq e a (aa (dv 0) af))) af)))) (bq 2 iJ.nd) (aj (eK 1 (bA (aa (ai (dv 2) ae) (aa (ai (dv 2) ae) (aa (au aN (ai (dv 2) ae) (ai (dv 2) ae)) af))))) (ak (eK 1 (bA (aa (aq c a (aa (ai (dv 2) ae) af)) (aa (ai (dv 2) ae) (aa (au aN (ai (dv 2) ae) (ai (dv 2) ae)) af)))))))) (dI 1 (ak (ax (dv 1)))))),?_⟩
 rintro o Q Ed ⟨ps,rfl,h⟩;x_go;unfold fi at h;obtain⟨a,d,h⟩:=h;have e:=rH a;have i:∀g∈VA ps,Bd 1000 g.1/\Bd 1000 g.2.1/\Bd 1000 g.2.2:=λg j=>by
  rcases Ta.mp j with z|z;obtain⟨k,l,rfl⟩:=S5.mp z;obtain⟨a,b,c⟩:=mQ.mp l;have F:=y9 (d _ (mG (show k.1<ps.length by lia))) (d _ (mG b)) c;exact⟨F.b0,F.b1,F.b2⟩;have b:Bd 1000 1:=Bd.mono (m:=2) (by unfold Bd;decide) (by decide);have c:Bd 1000 0:=Bd.mono (m:=2) (by unfold Bd;decide) (by decide);rcases Ta.mp z with z|z<;>obtain⟨p,a,rfl⟩:=S5.mp z;exact⟨((d p a).x.neg).mono (by decide),b,c⟩;exact⟨((d p a).y.neg).mono (by decide),c,b⟩
 lk;refine⟨UE _,?_⟩;refine LM (P:=λzs=>bO zs (VA ps)) (A7 ps) (λR k=>?_) λzs a=>?_
 lk;refine⟨by lia,d,by lia,by rw[RH,RH,To];unfold VA at e;rw[Vh]at e;lia,?_⟩;rw[<- Vy,vX,ng,fV];exact⟨by lia,d,Sd e (by decide),i,λb c=>k b c⟩;have n:=jc a;refine iq zs (A7 ps) (λdone b=>∃v:Option Sl,b=[some (.val (.lst false (ps.map RG))),some (.own ((bY ps done).map cw)),v]) (λR q=>q) ⟨none,rfl⟩ ?_ ?_;rintro done g d j Uo ⟨v,rfl⟩ K b;have ld:=(rM (ps:=ps) (zs:=done) 0).1;have e:bY ps (done++[g])=bY ps done++[(g,wl ps g 1,wl ps g 1+wl ps g 0)]++[(Vz g,wl ps g (-1),wl ps g (-1)+wl ps g 0)]:=by unfold bY;rw[List.flatMap_append,List.flatMap_singleton,Xi];rfl
 have c:D.tup [T3 (-g.1) (-g.2.1) (-g.2.2),.int (wl ps g (-1)),.int (wl ps g (-1)+wl ps g 0)]=cw (Vz g,wl ps g (-1),wl ps g (-1)+wl ps g 0):=rfl;unfold A7;lk;refine⟨by rw[To];show 3<=_;decide,by rw[RH,To];lia,?_⟩;show i5 κ [T3 g.1 g.2.1 g.2.2] _ _;rw[nc,iX];refine⟨by rw[To];show 3<=_;decide,by rw[Vh,RH,To];show _+1<_;lia,b _ ⟨some (.val (.tup [RD g,.int (wl ps g (-1)),.int (wl ps g 0),.int (wl ps g 1)])),?_⟩⟩;rw[e,Vy,Vy,c];rfl;rintro d ⟨v,rfl⟩;lk;exact h zs a
def Mv (F:aw K "rims" "rims" vF f fd) (C:SN K mg κ)    : aG P w K mg base (CX1 P w) 1 f fd ["planes", "weight"] (aH K (xA κ)):=by
 refine aw.okN F MU (by fin2) λ_ _ _ _ _ _ c=>⟨_,(ak (ax (bV (by rfl) (by exact bB (osc:=ao vF) (xs:=["row"]) (ns:=["weight"]) (by decide +kernel)) (br.cons 1 br.nil) (bb (dv 0)) (λ_ _ _ _ _=>(vU (IT b6 Et (ai (dv 0) ae) (dv 1) (ai (dv 0) ae)))) (λ_ _ _ _ _=>(ai (dv 0) ae))))),?_⟩
 rintro e Q Ed ⟨xs,w,rfl,h⟩;x_go;obtain⟨d,h⟩:=h;refine PD.comp_map xs cw (λx=>decide (x.2.1<w/\w<=x.2.2)) (λx=>RD x.1) (λR q=>?_) (by rw[To];lia) (λx b K a=>?_) (λx b _ K a=>?_) ?_;lk;exact q;unfold cw;lk
 lia
 unfold cw;lk;exact a;unfold dJ at h;rw[UC]at h;exact h
def Ez (F:aw K "hull_of" "hull_of" qy f fd) (C:SN K mg κ)  (b:Nl P w K mg base κ) (c:DH P w K mg base κ)  : aG P w K mg base (CX1 P w) 4 f fd ["dots"] (aH K (oR κ)):=by
 refine aw.okN F ER (by fin2) λ_ _ _ _ _ _ a=>⟨_,(ak (ax (aq b a (aa (aq c a (aa (dv 0) af)) af)))),?_⟩
 rintro j Q Ed ⟨g,rfl,h⟩;x_go;obtain⟨i,b,h⟩:=h;lk;refine⟨by lia,by grind,λp e=>?_,λc d _=>?_⟩;obtain⟨q,a,rfl⟩:=S5.mp e;exact⟨(b q a).x,(b q a).y⟩;have:=h c d;rw[UC]at this;exact this
def tR (F:aw K "region_within" "region_within" gS f fd) (C:SN K mg κ)  (c:Ig P w K mg base κ) (e:xK P w K mg base κ) (b:PT P w K mg base κ) (d:Fm P w K mg base κ) (g:pL P w K mg base "total" 2 ["dots", "colour"] "colour" (gF κ))  : aG P w K mg base (CX1 P w) 7 f fd ["dots", "planes", "least"] (aH K (gE κ)):=by
 refine aw.okN F kN (by fin2) λ_ _ _ _ _ _ a=>⟨_,(aj (az 3 kN.nd (au aN (au aW (i6 g (a.mono (by decide)) (aa (dv 0) af)) (dv 2)) ae)) (ak (ax (aq b a (aa (aq c a (aa (aq e a (aa (dv 0) af)) (aa (aq d a (aa (dv 1) (aa (dv 3) af))) af))) af))))),?_⟩
 rintro r Q Ed ⟨ps,m,l,rfl,h⟩;x_go;obtain⟨a,⟨zs,d,rfl⟩,h⟩:=h;have:=a.le;lk;refine⟨λ_=>true,.inl ⟨rfl,rfl⟩,by lia,a.le,a.gd,λk i=>?_⟩;obtain⟨c,b⟩:=kf a d (XH (λ_=>true) ps - l+1);have R:=iB a c (Sd b (by decide)) i;have n:=jc d;have q:=rH a.le;have o:=(rM (ps:=ps) (zs:=zs) 0).1;have a:=R.X6 (dJ (bY ps zs) (XH (λ_=>true) ps - l+1)).length;rw[zCA]at a;exact⟨by lia,by lia,λj _=>⟨(R.X6 j).2.1,λp b=>⟨((R.X6 j).2.2 p b).1.pos,((R.X6 j).2.2 p b).2⟩⟩,λg e=>⟨(c g e).1.c.mono (by decide),(c g e).1.a.mono (by decide),(c g e).1.b.mono (by decide)⟩,λ_=>⟨a.2.1,λp b=>(a.2.2 p b).2,h zs k d i⟩⟩
def G4 (F:aw K "region" "region" t8 f fd) (C:SN K mg κ)  (b:o8 P w K mg base κ) (d:gK P w K mg base κ) (c:pL P w K mg base "total" 2 ["dots", "colour"] "colour" (gF κ))  : aG P w K mg base (CX1 P w) 8 f fd ["dots", "least"] (aH K (qP κ)):=by
 refine aw.okN F Hv (by fin2) λ_ _ _ _ _ _ a=>⟨_,(aj (aT (Vm.pt (bR (aD b6 (dv 1) ae) (cO (aD jQ (dv 1) (i6 c (a.mono (by decide)) (aa (dv 0) af)))))) (ak tD) aJ) (ak (ax (aq d a (aa (dv 0) (aa (aq b a (aa (dv 0) af)) (aa (dv 1) af))))))),?_⟩
 rintro g Q Ed ⟨b,l,rfl,h⟩;x_go;obtain⟨a,e,c,h⟩:=h;have:=a.le;lk;rw[if_neg (by lia)];refine⟨λ_=>true,.inl ⟨rfl,rfl⟩,by lia,?_⟩;rw[if_neg (show¬XH (λ_=>true) b<l by have:l<=XH (λ_=>true) b:=c;lia)];exact⟨a.le,a.gd,λb c=>⟨a,⟨b,c,rfl⟩,h⟩⟩
def r9 (F:aw K "greatest_depth" "greatest_depth" gA f fd) (C:SN K mg κ)  (d:gK P w K mg base κ) (b:pL P w K mg base "total" 2 ["dots", "colour"] "colour" (gF κ)) (c:mg "len" = none):aG P w K mg base (CX1 P w) 8 f fd ["dots", "planes"] (aH K (fO κ)):=by
 refine aw.okN F bW (by fin2) λ_ _ _ _ _ _ a=>⟨_,(aj (az 2 bW.nd ae) (aj (az 3 bW.nd (i6 b (a.mono (by decide)) (aa (dv 0) af))) (aj (kD PassesOwn.never (aD b6 (dv 2) (dv 3)) (aj (az 4 bW.nd (au dm (au aN (au aN (dv 2) (dv 3)) ae) ae)) (ak (aT (aD jQ (aM bL (by rfl) c Wm (aa (aq d a (aa (dv 0) (aa (dv 1) (aa (dv 4) af)))) af)) ae) (ak (az 2 bW.nd (dv 4))) (ak (az 3 bW.nd (au aW (dv 4) ae))))))) (ak (ax (dv 2)))))),?_⟩
 rintro A Q Ed ⟨d,u,rfl,h⟩;x_go;obtain⟨g,⟨i,j,rfl⟩,h⟩:=h;have x:=wD g;have s:=g.le;lk;refine⟨λ_=>true,.inl ⟨rfl,rfl⟩,by lia,?_⟩;refine⟨λm c=>∃(a b:Int) (v:Option Sl),m=(b - a).toNat/\1<=a/\a<=b/\b<=aK d/\(∀e,bN e (d.map TC)->cM d i e (aK d - a+1) ≠ [])/\(∀e,bN e (d.map TC)->∀l,b<l->l<=aK d->cM d i e (aK d - l+1)=[])/\c=[some (.val (.lst false (d.map RG))),some (.val (.lst false ((bY d i).map cw))),some (.val (.int a)),some (.val (.int b)),v],⟨_,1,aK d,none,rfl,by lia,by lia,by lia,λe k=>GJ g j k (by lia) (by lia),λ_ _ l _ _=>by lia,rfl⟩,?_⟩;rintro m c ⟨a,b,v,rfl,q,B,p,n,o,rfl⟩;lk;by_cases c:a<b;rw[Rv c];have m:(a+b+1).fdiv 2=(a+b+1) / 2:=Int.fdiv_eq_ediv_of_nonneg _ (by decide);refine⟨CD.lit,g,⟨i,j,rfl⟩,λr e t k=>?_⟩;rw[jd t j,RH,CL,m];generalize et:(a+b+1) / 2=t;by_cases m:cM d i e (aK d - t+1)=[];rw[m,if_neg (by decide)];refine⟨(t - 1 - a).toNat,by lia,a,t - 1,_,rfl,q,by lia,by lia,n,λd e l y i=>?_,rfl⟩;rw[je e k];exact zBX λz=>A0 g j k (by lia) (show t<=l by lia) i z m
 rw[Rv (by have:=zC1.mpr m;lia)];refine⟨(b - t).toNat,by lia,t,b,_,rfl,by lia,by lia,p,λd e=>?_,o,rfl⟩;rw[je e k];exact m;rw[if_neg c];have e:a=b:=by lia
 subst e;exact h a (Qe g j q p n o)
def vo (F:aw K "shallow_bars" "shallow_bars" fu f fd) (C:SN K mg κ)  (b:Nk P w K mg base κ) (c:Ie P w K mg base κ) (e:xK P w K mg base κ) (d:Fm P w K mg base κ) (g:pL P w K mg base "total" 2 ["dots", "colour"] "colour" (gF κ))  : aG P w K mg base (CX1 P w) 8 f fd ["dots", "planes", "found"] (aH K (hU κ)):=by
 refine aw.okN F dZ (by fin2) λ_ _ _ _ _ _ a=>⟨_,(aj (az 3 dZ.nd (au aW (i6 g (a.mono (by decide)) (aa (dv 0) af)) (dv 2))) (aj (aT (aD bF (dv 3) ae) (ak (ax (cL (aa (bA (aa (bA (aa (bE ae) (aa ae (aa ae af)))) (aa ae af))) (aa (bA (aa (bA (aa ae (aa (bE ae) (aa ae af)))) (aa ae af))) af))))) aJ) (aj (az 4 dZ.nd (aq e a (aa (dv 0) af))) (aj (az 5 dZ.nd (au aN (aq c a (aa (dv 4) af)) (aq d a (aa (dv 1) (aa (dv 3) af))))) (ak (ax (Aa (by rfl) (by exact bB (osc:=ao fu) (xs:=["number", "share"]) (ns:=["gauges"]) (by decide +kernel)) (br.cons 5 br.nil) (.cons (.cons .nil)) (bb (aq b a (aa (dv 4) (aa (dv 5) af)))) (λ_ _ _ _ _=>cf) (λ_ _ _ _ _=>(bA (aa (ai (dv 2) (dv 0)) (aa (dv 1) af))))))))))),?_⟩
 rintro J Q Ed ⟨ps,xs,n,rfl,h⟩;x_go;unfold dY at h;obtain⟨b,⟨zs,i,rfl⟩,G,h⟩:=h;have u:=b.le;lk;refine⟨λ_=>true,.inl ⟨rfl,rfl⟩,by lia,?_⟩;by_cases c:XH (λ_=>true) ps - n=0;rw[Rv c];exact⟨Xu _ _ _,Y4 _ _,Xu _ _ _,Y4 _ _,Y4 _ _,h _ (.inl ⟨show XH (λ_=>true) ps=n by lia,rfl⟩)⟩;rw[if_neg c];rw[show XH (λ_=>true) ps=aK ps from rfl];refine⟨b.le,b.gd,λd g=>?_⟩;have j:n≠aK ps:=λe=>c (show aK ps - n=0 by lia)
 have k:cM ps zs d (aK ps - n)=[]:=zBX λz=>by
  have:=(G.2.2 zs d i g (n+1) (by have:=G.1;lia) (by have:=G.2.1;lia)).mp (by rw[show aK ps - (n+1)+1=aK ps - n by lia];exact z)
  lia
 have K:=Eg b i g (aK ps - n);obtain⟨c,s,m,t,r,a⟩:=DR K.st (OE b i g k);have q:=h _ (.inr ⟨Ne.symm j,zs,d,c,r,i,g,⟨s,m,t,a⟩,rfl⟩);obtain⟨⟨o,om,k⟩,I,_⟩:=pO (pk:=r.1) (sh:=r.2) a;obtain⟨H,y⟩:=Ei om;have h:=qe g;have g:ps.map TC ≠ []:=λe=>b.ne (List.map_eq_nil_iff.mp e)
 have e:=h.len;rw[RH]at e;have j:List.map RD (List.map sT (aX d))=(aX d).map Tc:=by rw[UC];rfl
 rw[j,qK,lh];refine⟨zC1.mpr (j9 h g),by lia,λp e=>?_,?_⟩;obtain⟨z,g,rfl⟩:=S5.mp (h.mem p e);exact⟨(b.gd z g).x,(b.gd z g).y⟩;have x:=jc i;have B:=rH b.le;have A:=(rM (ps:=ps) (zs:=zs) 0).1;have g:=K.le;have b:=g;rw[Vh]at b;refine⟨by lia,?_⟩;rw[zA,RH,RH];refine⟨by rw[To];lia,?_⟩;rw[<- Vy];have b:=K.X6;have l:=K.gb;clear K;have g:aY (aX d)++dJ (bY ps zs) (aK ps - n)=gsA ps zs d (aK ps - n):=rfl;rw[g,<- j];generalize gsA ps zs d (aK ps - n)=d at *;have E:(r.1.zip r.2).length<=3:=by
  rw[List.length_zip,k,Vh,zCj]
  lia
 have n:∀k∈r.1,d[k]?=some (d.getD k (0,0,0)):=by grind
 refine PD.pU (r.1.zip r.2) (λz=>[.int ((z.1:Nat):Int),.int z.2]) (λ_=>true) (λz=>U3 (d.getD z.1 (0,0,0),z.2)) (λR q=>?_) (by rw[To];lia) (λ_=>rfl) (λz i K h=>?_) (λz i _ K h=>?_) ?_;lk;exact⟨by lia,λj _=>⟨(b j).1,λp e=>⟨((b j).2 p e).1.pos,((b j).2 p e).2⟩⟩,λg b=>⟨(l g b).1.c.mono (by decide),(l g b).1.a.mono (by decide),(l g b).1.b.mono (by decide)⟩,c,s,m,t,r,a,q⟩;lk;exact h;have c:=zDU (a:=z.1) (b:=z.2) i;have at1:T9 (d.map RD) ((z.1:Nat):Int)=some (RD (d.getD z.1 (0,0,0))):=bU (by rw[U0,n z.1 c.1];rfl);lk;exact⟨_,at1,Y4 _ _,h⟩;rw[Xg.mpr (λ_ _=>rfl)];unfold Z0 at q;rw[UC]at q;exact q
def Ey (F:aw K "deepest" "deepest" qw f fd) (C:SN K mg κ)  (d:sW P w K mg base κ) (g:o8 P w K mg base κ) (h:gK P w K mg base κ) (e:wz P w K mg base κ) (c:mg "len" = none):aG P w K mg base (CX1 P w) 9 f fd ["dots"] (aH K (oP κ)):=by
 refine aw.okX F oG (by fin2) λ_ _ _ _ _ _ Ed a b o q=>⟨_,(aj (aT (aD bF (aM bL (by rfl) c Wm (aa (dv 0) af)) ae) (ak (Ah b (by rfl) C.TF C.TP rfl (aa FY af))) aJ) (aj (aT (aD jQ (aM bL (by rfl) c Wm (aa (dv 0) af)) (IK C.RO)) (ak (Ah b (by rfl) C.Td C.Tj rfl (aa FY af))) aJ) (aj (az 1 oG.nd (aq g a (aa (dv 0) af))) (aj (az 2 oG.nd (aq d a (aa (dv 0) (aa (dv 1) af)))) (ak (ax (bA (aa (dv 2) (aa (ai (aq h a (aa (dv 0) (aa (dv 1) (aa (dv 2) af)))) ae) (aa (aq e a (aa (dv 0) (aa (dv 1) (aa (dv 2) af)))) af)))))))))),?_⟩
 rintro s Q ⟨b,rfl,h⟩;x_go;rcases h with⟨rfl,h⟩| ⟨a,h⟩| ⟨d,a,h⟩;lk;exact⟨Zx _,h⟩;lk;rw[RH,if_neg (by lia),Rv (by lia)];exact⟨Zx _,h⟩;lk;have p:=zC1.mpr d.ne;rw[RH,if_neg (by lia),if_neg (by lia)];refine⟨by lia,d.gd,λg i=>⟨d,⟨g,i,rfl⟩,λn G=>⟨d,⟨g,i,rfl⟩,λa c l k=>?_⟩⟩⟩;have m:=(G.2.2 a c l k n G.1 G.2.1).mpr (W9 _);obtain⟨y,r,e⟩:∃y r,kF (cM b a c (aK b - n+1))=y::r:=by
  have j:=CL (cM b a c (aK b - n+1));cases hM:kF (cM b a c (aK b - n+1))with
  |nil=>rw[hM]at j;exact absurd (zDD j.symm) m
  |cons y r=>lia
 rw[e];exact⟨RD y,at0 _ _,d,⟨g,i,rfl⟩,G,λL b=>⟨Xu _ _ _,h n y L a c r l k G e b⟩⟩
def AO (F:aw K "_law_whole" "_law_whole" l9 f fd) (C:SN K mg κ)   (b:mg "bool" = none) (c:mg "int" = none) (a:mg "isinstance" = none):aG P w K mg base (CX1 P w) 1 f fd ["_law_found"] (aH K (kP κ)):=by
 refine aw.okN F Bi (by fin2) λ_ _ _ _ _ _ d=>⟨_,(ak (ax (kB (eE (by rfl) a (by rfl) c boot_int (.inl rfl) (dv 0)) (mD (N5 (eE (by rfl) a (by rfl) b boot_bool (.inr (.inl rfl)) (dv 0))))))),?_⟩
 rintro e Q Ed ⟨a,rfl,h⟩;lk;exact h
def wZ (F:aw K "_law_cell_at" "_law_cell_at" jA f fd) (C:SN K mg κ)   (a:mg "len" = none):aG P w K mg base (CX1 P w) 1 f fd ["_law_script", "_law_k"] (aH K (iO κ)):=by
 refine aw.okN F xn (by fin2) λ_ _ _ _ _ _ c=>⟨_,(aj (aT (aD b6 (dv 1) (aM bL (by rfl) a Wm (aa (dv 0) af))) (ak (ax (ai (dv 0) (dv 1)))) aJ) (ak (ax ae))),?_⟩
 rintro d Q Ed ⟨b,k,rfl,h⟩;x_go;lk
 simp_all [Rv,RH,Iu,if_neg]
def w5 (F:aw K "_law_divisor" "_law_divisor" jB f fd) (C:SN K mg κ)   (a:mg "abs" = none):aG P w K mg base (CX1 P w) 1 f fd ["_law_one", "_law_other"] (aH K (iQ κ)):=by
 refine aw.okN F fy (by fin2) λ_ _ _ _ _ _ e=>⟨_,(aj (az 2 fy.nd (aM pS (by rfl) a boot_abs (aa (dv 0) af))) (aj (az 3 fy.nd (aM pS (by rfl) a boot_abs (aa (dv 1) af))) (aj (kD PassesOwn.never (aD jb (dv 3) ae) (ak (Oa 2 3 rfl fy.nd (by decide) (aa (dv 3) (aa (au bM (dv 2) (dv 3)) af))))) (ak (ax (dv 2)))))),?_⟩
 rintro g Q Ed ⟨a,b,rfl,h⟩;x_go;lk;refine⟨λm c=>∃(x y:Int),c=[some (.val (.int a)),some (.val (.int b)),some (.val (.int x)),some (.val (.int y))]/\Int.gcd x y=Int.gcd a b/\m=y.natAbs/\0<=x/\0<=y,⟨_,_,_,rfl,PM.LR a b,rfl,by lia,by lia⟩,?_⟩;rintro m c ⟨x,y,rfl,c,rfl,d,b⟩;lk;by_cases a:y=0;subst a;rw[PM.Gf]at c
 lia
 rw[if_neg a];refine⟨a,?_⟩;exact⟨_,PM.ya x a,y,x.fmod y,rfl,(PM.Aq x y).trans c,rfl,b,zDA x (by lia)⟩
def EB (F:aw K "_law_dot" "_law_dot" qC f fd) (C:SN K mg κ)   (a:mg "int" = none):aG P w K mg base (CX1 P w) 1 f fd ["_law_cell", "_law_kind", "_law_heavy"] (aH K (oU κ)):=by
 refine aw.okN F bD (by fin2) λ_ _ _ _ _ _ r=>⟨_,(aj (az 3 bD.nd (au bM (au aN (au aE (dv 0) ae) ae) ae)) (aj (az 4 bD.nd (au bM (dv 3) ae)) (aj (az 5 bD.nd (au bM (au dm (dv 3) ae) ae)) (aj (aT (aD bF (dv 1) ae) (aj (az 4 bD.nd (au aW (au bM (dv 3) ae) ae)) (ak (az 5 bD.nd (au aW (au bM (au dm (dv 3) ae) ae) ae)))) aJ) (aj (aT (aD bF (dv 1) ae) (aj (az 4 bD.nd (au aW (au aE ae (au bM (dv 3) ae)) ae)) (ak (az 5 bD.nd (au aW ae (au bM (dv 3) ae))))) aJ) (aj (aT (aD bF (dv 1) ae) (aj (az 4 bD.nd (au aN (au aW (au bM (au aE (dv 0) ae) (au aW (au aE ae (au vg ae ae)) ae)) (au vg ae ae)) ae)) (ak (az 5 bD.nd (au aN (au aW (au bM (au aE (dv 0) ae) (au aW (au aE ae (au vg ae ae)) ae)) (au vg ae ae)) ae)))) aJ) (aj (aT (aD bF (dv 1) ae) (aj (az 4 bD.nd (au aW ae (i7 pT (by rfl) a boot_int (aa (bT bF (au bM (dv 3) ae) ae) af)))) (ak (az 5 bD.nd (au aW ae (au aE ae (i7 pT (by rfl) a boot_int (aa (bT bF (au bM (dv 3) ae) ae) af))))))) aJ) (aj (aT (aD bF (dv 1) ae) (aj (az 4 bD.nd (au aW (au bM (dv 3) ae) ae)) (ak (az 5 bD.nd (au aW (au aE (dv 4) (dv 4)) (au aE ae (i7 pT (by rfl) a boot_int (aa (bT bF (au bM (au dm (dv 3) ae) ae) ae) af))))))) aJ) (aj (az 6 bD.nd (ai (cL (aa ae (aa (au aN ae (au bM (au dm (dv 3) ae) ae)) (aa (au aN ae (au bM (au aE (dv 0) ae) ae)) af)))) (dv 2))) (ak (ax (bA (aa (dv 4) (aa (dv 5) (aa (au bM (au dm (dv 3) ae) ae) (aa (dv 6) af)))))))))))))))),?_⟩
 rintro u Q Ed ⟨c,k,v,rfl,h⟩;x_go;unfold jT at h;obtain⟨q,t,h⟩:=h;have l:∀{m:Int},m.natAbs<2 ^ 64->CM c m:=λb=>.inr (.inl b)
 have o:∀{a m:Int},a.natAbs<2 ^ 64->CM a m:=λb=>.inl b
 refine yw (λd=>∃n x y:Int,(0<=n/\n<2147483647)/\Bd 40 x/\Bd 40 y/\d=[some (.val (.int c)),some (.val (.int k)),some (.val (.int v)),some (.val (.int n)),some (.val (.int x)),some (.val (.int y)),none]) (λd e=>?_) λK g=>?_
 rotate_left
 lk;have i:=fm (a:=c*48271+11) (b:=2147483647) (by decide);generalize (c*48271+11).fmod 2147483647=n at i ⊢;have m:=fm (a:=n) (b:=3) (by decide);have p:=fm (a:=n.fdiv 3) (b:=3) (by decide);exact⟨l (by decide),by decide,by decide,CD.lit,by decide,g _ ⟨n,_,_,i,by unfold Bd;omega,by unfold Bd;omega,rfl⟩⟩;obtain⟨n,x,y,i,j,i,rfl⟩:=e;refine iL (λd=>∃x y:Int,Bd 40 x/\Bd 40 y/\d=[some (.val (.int c)),some (.val (.int k)),some (.val (.int v)),some (.val (.int n)),some (.val (.int x)),some (.val (.int y)),none]) (λd e=>?_) λK g=>?_
 rotate_left
 lk;split;have m:=fm (a:=n) (b:=9) (by decide);have p:=fm (a:=n.fdiv 9) (b:=9) (by decide);exact⟨by decide,CD.lit,by decide,g _ ⟨_,_,by unfold Bd;omega,by unfold Bd;omega,rfl⟩⟩;exact g _ ⟨x,y,j,i,rfl⟩;obtain⟨x,y,j,i,rfl⟩:=e;refine iL (λd=>∃x y:Int,Bd 40 x/\Bd 40 y/\d=[some (.val (.int c)),some (.val (.int k)),some (.val (.int v)),some (.val (.int n)),some (.val (.int x)),some (.val (.int y)),none]) (λd e=>?_) λK g=>?_
 rotate_left
 lk;split;have m:=fm (a:=n) (b:=9) (by decide);exact⟨by decide,o (by decide),by decide,g _ ⟨_,_,by unfold Bd;omega,by unfold Bd;omega,rfl⟩⟩;exact g _ ⟨x,y,j,i,rfl⟩;obtain⟨x,y,j,i,rfl⟩:=e;refine iL (λd=>∃x y:Int,Bd 40 x/\Bd 40 y/\d=[some (.val (.int c)),some (.val (.int k)),some (.val (.int v)),some (.val (.int n)),some (.val (.int x)),some (.val (.int y)),none]) (λd e=>?_) λK g=>?_
 rotate_left
 lk;split;rw[p12];have m:=fm (a:=c*7919) (b:=2*1000000000000 - 1) (by decide);have p:=fm (a:=c*104729) (b:=2*1000000000000 - 3) (by decide);exact⟨l (by decide),DY,o (by decide),by decide,DY,l (by decide),DY,o (by decide),by decide,DY,g _ ⟨_,_,by unfold Bd;omega,by unfold Bd;omega,rfl⟩⟩;exact g _ ⟨x,y,j,i,rfl⟩;obtain⟨x,y,j,i,rfl⟩:=e;refine iL (λd=>∃x y:Int,Bd 40 x/\Bd 40 y/\d=[some (.val (.int c)),some (.val (.int k)),some (.val (.int v)),some (.val (.int n)),some (.val (.int x)),some (.val (.int y)),none]) (λd e=>?_) λK g=>?_
 rotate_left
 lk;split;exact⟨by decide,by decide,o (by decide),g _ ⟨_,_,by unfold Bd;split<;>omega,by unfold Bd;split<;>omega,rfl⟩⟩;exact g _ ⟨x,y,j,i,rfl⟩;obtain⟨x,y,j,i,rfl⟩:=e;refine iL (λd=>∃x y:Int,Bd 40 x/\Bd 40 y/\d=[some (.val (.int c)),some (.val (.int k)),some (.val (.int v)),some (.val (.int n)),some (.val (.int x)),some (.val (.int y)),none]) (λd e=>?_) λK g=>?_
 rotate_left
 lk;split;have m:=fm (a:=n) (b:=21) (by decide);have d:Bd 4 (n.fmod 21 - 10):=by unfold Bd;omega
 exact⟨by decide,cmb d d,CD.lit,by decide,o (by decide),g _ ⟨_,_,d.mono (by decide),(Bd.sub ((d.mul d).mono (n:=20) (by decide)) (by unfold Bd;split<;>decide)).mono (by decide),rfl⟩⟩;exact g _ ⟨x,y,j,i,rfl⟩;obtain⟨x,y,j,i,rfl⟩:=e;lk;have m:=fm (a:=n.fdiv 192) (b:=7) (by decide);have p:=fm (a:=c*31) (b:=999999999) (by decide);have c:=fm (a:=n.fdiv 64) (b:=3) (by decide);refine⟨CD.lit,by decide,l (by decide),by decide,Xu _ _ _,?_⟩;refine Nu q (by show v<3;omega) λd s=>?_
 obtain⟨w,rfl,a⟩:∃w:Int,d=.int w/\0<w:=by grind
 exact⟨CD.lit,by decide,sz4 _ _ _ _,h (x,y,(n.fdiv 64).fmod 3,w) ⟨j.mono (by decide),i.mono (by decide),c.1,(show(n.fdiv 64).fmod 3<=2 by omega)⟩ j i a⟩
def BU (F:aw K "_law_dots" "_law_dots" oA f fd) (C:SN K mg κ)  (c:o9 P w K mg base κ) (b:Fi P w K mg base κ)  : aG P w K mg base (CX1 P w) 2 f fd ["_law_script", "_law_start", "_law_most"] (aH K (ml κ)):=by
 refine aw.okN F dR (by fin2) λ_ _ _ _ _ _ a=>⟨_,(aj (az 3 dR.nd (aq c a (aa (dv 0) (aa ae af)))) (aj (az 4 dR.nd (au bM (dv 3) ae)) (aj (az 5 dR.nd (au bM (au dm (dv 3) ae) ae)) (aj (kC 6 dR.nd (aa (aq b a (aa (aq c a (aa (dv 0) (aa ae af))) (aa (dv 4) (aa (dv 5) af)))) af)) (aj (cF PassesOwn.never rfl (bb (WH.YI (eI (dv 0) (cJ (dv 1)) (cJ (au aW (au aN (dv 1) (dv 2)) ae))))) (bq 7 dR.nd) (ak (eK 6 (aq b a (aa (dv 7) (aa (dv 4) (aa (dv 5) af))))))) (dI 6 (ak (ax (dv 6))))))))),?_⟩
 rintro y Q Ed ⟨c,s,m,rfl,h⟩;x_go;obtain⟨d,rfl,a,h⟩:=h;obtain⟨M,rfl,M0,M1⟩:∃M:Nat,m=(M:Int)/\0<M/\M<=12:=⟨12,a,by decide,by decide⟩;lk;refine⟨by decide,d,λf=>?_⟩;lk;have e:=fm (a:=f.fdiv 6) (b:=3) (by decide);refine⟨by decide,CD.lit,by decide,by decide,d,λA=>⟨e.1,by omega,λg x n k r=>?_⟩⟩;lk;have t:(zP c (some 2) (some ((M+1:Nat):Int))).length<=M - 1:=by unfold zP;rw[Xj];have b:HT.SG c.length 0 (some 2)=min 2 c.length:=HT.kh _ _ 2;have a:HT.SG c.length c.length (some ((M+1:Nat):Int))=min (M+1) c.length:=HT.kh _ _ (M+1);rw[b,a];omega
 refine⟨Zx _,?_⟩;refine iq (zP c (some 2) (some ((M+1:Nat):Int))) D.int (λdone b=>∃(a:List Dt) (d:Option Sl),b=[some (.val (.lst false (c.map D.int))),some (.val (.int 2)),some (.val (.int (M:Int))),some (.val (.int f)),some (.val (.int (f.fmod 6))),some (.val (.int ((f.fdiv 6).fmod 3))),some (.own (a.map RG)),d]/\a.length=done.length+1/\∀p∈a,GD p/\(Bd 40 p.1/\Bd 40 p.2.1)/\0<p.2.2.2) (λR q=>?_) ⟨[g],none,rfl,rfl,by simp_all⟩ ?_ ?_;lk
 simp_all [IE]
 rintro done c i u Uo ⟨a,d,rfl,c,b⟩ K g;lk;refine⟨e.1,by omega,λp gp l j o=>⟨by grind [List.length_map,sizeLine_eq],g _ ⟨a++[p],_,by rw[Vy];rfl,by simp[c],λq e=>?_⟩⟩⟩;rcases Ta.mp e with z|z;exact b q z
 simp_all
 rintro i ⟨a,d,rfl,c,b⟩;lk;exact h a ⟨λp a=>(b p a).1,λp a=>(b p a).2.1,λp a=>(b p a).2.2,by omega,by grind⟩ (by omega)
def AN (F:aw K "_law_depth" "_law_depth" l8 f fd) (C:SN K mg κ)   (Tv:mg "int" = none) (UO:mg "min" = none):aG P w K mg base (CX1 P w) 1 f fd ["_law_dots_here", "_law_here"] (aH K (gZ κ)):=by
 refine aw.okN F aO (by fin2) λ_ _ _ _ _ _ hr=>⟨_,(aj (az 2 aO.nd ae) (aj (kC 3 aO.nd af) (aj (cF PassesOwn.never rfl (bb (dv 0)) (qa (n:=4) rfl (cD (bq 6 aO.nd) (cD (bq 7 aO.nd) (cD (bq 8 aO.nd) (cD (bq 9 aO.nd) rC))))) (aj (az 10 aO.nd (au aW (au aE (dv 6) (ai (dv 1) ae)) (ai (dv 1) ae))) (aj (az 11 aO.nd (au aW (au aE (dv 7) (ai (dv 1) ae)) (ai (dv 1) ae))) (ak (aT (Vm.pt (p4 (aD bF (dv 10) ae) (mF (aD bF (dv 11) ae)))) (ak (az 2 aO.nd (au aN (dv 2) (dv 9)))) (ak (eK 3 (bA (aa (dv 10) (aa (dv 11) (aa (dv 9) af))))))))))) (dI 3 (aj (az 4 aO.nd fQ) (aj (cF PassesOwn.never rfl (bb (dv 3)) (bq 5 aO.nd) (aj (kC 12 aO.nd (aa ae (aa ae (aa ae (aa ae af))))) (aj (cF PassesOwn.never rfl (bb (dv 3)) (qa (n:=3) rfl (cD (bq 10 aO.nd) (cD (bq 11 aO.nd) (cD (bq 9 aO.nd) rC)))) (aj (az 14 aO.nd (au aW (au aE (ai (dv 5) ae) (dv 11)) (au aE (ai (dv 5) ae) (dv 10)))) (aj (az 15 aO.nd (au aN (au aE (ai (dv 5) ae) (dv 10)) (au aE (ai (dv 5) ae) (dv 11)))) (aj (az 16 aO.nd (ai (cL (aa (i7 pT (by rfl) Tv boot_int (aa (bT b6 (dv 15) ae) af)) (aa ae af))) (i7 pT (by rfl) Tv boot_int (aa (bT jQ (dv 14) ae) af)))) (aj (aT (aD b6 (dv 14) ae) (ak (az 16 aO.nd ae)) aJ) (ak (IS 12 (dv 16) (Lv 12 (au aN (ai (dv 12) (dv 16)) (dv 9)))))))))) (dI 12 (aj (az 13 aO.nd (au aN (aM (FJ rfl) (by rfl) UO boot_min (aa (ai (dv 12) ae) (aa (ai (dv 12) ae) af))) (aM (FJ rfl) (by rfl) UO boot_min (aa (ai (dv 12) ae) (aa (ai (dv 12) ae) af))))) (ak (aT (Vm.pt (bR (aD vf (dv 4) fQ) (cO (aD b6 (dv 13) (dv 4))))) (ak (az 4 aO.nd (dv 13))) aJ))))))) (aj (aT (aD vf (dv 4) fQ) (ak (ax (dv 2))) aJ) (ak (ax (au aN (dv 2) (dv 4))))))))))),?_⟩
 rintro ds Q Ed ⟨j,b,i,d,rfl,h⟩;x_go;unfold eQ at h;obtain⟨hl,hG,hW,hH,h⟩:=h;lk;refine⟨UE _,?_⟩;refine iq j RG (λdone T=>∃o:Nat->Option Sl,T=[some (.val (.lst false (j.map RG))),some (.val (T3 b i d)),some (.val (.int (sm aZ (b,i,d) done))),some (.own ((V8 (b,i,d) done).map (Yq (b,i,d)))),none,none,o 6,o 7,o 8,o 9,o 10,o 11,none,none,none,none,none]) (λR q=>?_) (exV rfl) ?_ ?_;lk;exact q;rintro done p u Y Uo ⟨o,rfl⟩ K l;have G:=hG p Y;have e1:p.1*b - i=(R8 (b,i,d) p).1:=by unfold R8;dsimp only;rw[VG]
 have e2:p.2.1*b - d=(R8 (b,i,d) p).2:=by unfold R8;dsimp only;rw[VG]
 have ln:=GQ (b,i,d) done;generalize hps:List.map RG j=L;unfold RG;lk;subst hps;rw[e1,e2];refine⟨cmb G.x hH.a,cmb G.y hH.a,?_⟩;have app:R8 (b,i,d) p≠(0,0)->∃o:Nat->Option Sl,[some (Sl.val (.lst false (j.map RG))),some (.val (T3 b i d)),some (.val (.int (sm aZ (b,i,d) done))),some (.own ((V8 (b,i,d) done).map (Yq (b,i,d))++[Yq (b,i,d) p])),none,none,some (.val (.int p.1)),some (.val (.int p.2.1)),some (.val (.int p.2.2.1)),some (.val (.int p.2.2.2)),some (.val (.int (R8 (b,i,d) p).1)),some (.val (.int (R8 (b,i,d) p).2)),none,none,none,none,none]=[some (Sl.val (.lst false (j.map RG))),some (.val (T3 b i d)),some (.val (.int (sm aZ (b,i,d) (done++[p])))),some (.own ((V8 (b,i,d) (done++[p])).map (Yq (b,i,d)))),none,none,o 6,o 7,o 8,o 9,o 10,o 11,none,none,none,none,none]:=λz=>(exV (by rw[ki,if_neg (show¬aZ (R8 (b,i,d) p)from z),VU,Jz _ z,Vy];rfl))
 have sz:((V8 (b,i,d) done).map (Yq (b,i,d))).length<sizeLine:=by rw[RH,To];lia
 by_cases N:(R8 (b,i,d) p).1=0;rw[Rv N];by_cases z2:(R8 (b,i,d) p).2=0;rw[Rv z2];have z:R8 (b,i,d) p=(0,0):=Prod.ext N z2;exact l _ (exV (by rw[ki,Rv (show aZ (R8 (b,i,d) p)from z),Jy _ z];rfl));rw[if_neg z2];exact⟨Xu _ _ _,sz,l _ (app λz=>z2 (by rw[z]))⟩;rw[if_neg N];exact⟨Xu _ _ _,sz,l _ (app λz=>N (by rw[z]))⟩
 ·rintro u ⟨o,rfl⟩;lk;have lq:=GQ (b,i,d) j;have J:∀q∈V8 (b,i,d) j,q∈j/\R8 (b,i,d) q∈Yp (b,i,d) j:=λq H=>⟨(Yf.mp H).1,by rw[<- Er];exact S5.mpr ⟨q,H,rfl⟩⟩
  refine iq (V8 (b,i,d) j) (Yq (b,i,d)) (λdone T=>∃(o:Nat->Option Sl) (E:D),T=[some (.val (.lst false (j.map RG))),some (.val (T3 b i d)),some (.val (.int (sm aZ (b,i,d) j))),some (.val (.lst true ((V8 (b,i,d) j).map (Yq (b,i,d))))),some (.val E),o 5,o 6,o 7,o 8,o 9,o 10,o 11,o 12,o 13,o 14,o 15,o 16]/\((done=[]/\E=.RZ)∨∃ m:Int,E=.int m/\(∃q∈done,q∈V8 (b,i,d) j/\m=ZY (b,i,d) j (R8 (b,i,d) q))/\∀q∈done,m<=ZY (b,i,d) j (R8 (b,i,d) q))) (λR q=>?_) (exW rfl (.inl ⟨rfl,rfl⟩)) ?_ ?_;lk;exact q
  ·rintro done q u H Uo ⟨o,E,rfl,M⟩ K l;obtain⟨hqp,hqu⟩:=J q H;have wv:=WBh.ar hH (hG q hqp);lk;refine⟨sz4 _ _ _ _,?_⟩;generalize hv:R8 (b,i,d) q=v at *;have eq:Yq (b,i,d) q=.tup [.int v.1,.int v.2,.int q.2.2.2]:=by unfold Yq;rw[hv]
   rw[eq];refine iq (V8 (b,i,d) j) (Yq (b,i,d)) (λr T=>∃o:Nat->Option Sl,T=[some (.val (.lst false (j.map RG))),some (.val (T3 b i d)),some (.val (.int (sm aZ (b,i,d) j))),some (.val (.lst true ((V8 (b,i,d) j).map (Yq (b,i,d))))),some (.val E),some (.val (.tup [.int v.1,.int v.2,.int q.2.2.2])),o 6,o 7,o 8,o 9,o 10,o 11,some (.own [.int (sm (aA v) (b,i,d) r),.int (sm (aB v) (b,i,d) r),.int (sm (aL v) (b,i,d) r),.int (sm (aR v) (b,i,d) r)]),o 13,o 14,o 15,o 16]) (λR q=>?_) (exV rfl) ?_ ?_;lk;exact q
   ·rintro r p u Y Uo ⟨o,rfl⟩ K l;obtain⟨hpp,hpu⟩:=J p Y;have wp:=WBh.ar hH (hG p hpp);have pn:=vY hpu;have ep:Yq (b,i,d) p=.tup [.int (R8 (b,i,d) p).1,.int (R8 (b,i,d) p).2,.int p.2.2.2]:=rfl;have sA:=ki (aA v) (b,i,d) r p;have sB:=ki (aB v) (b,i,d) r p;have sL:=ki (aL v) (b,i,d) r p;have sR:=ki (aR v) (b,i,d) r p;rw[sA,sB,sL,sR]at l;rw[ep];generalize R8 (b,i,d) p=a at *;rw[IX];show nE _ _ _ _;have e1:v.1*a.2 - v.2*a.1=tn v a:=by unfold tn;rw[VG v.2]
    have e2:v.1*a.1+v.2*a.2=Rp v a:=rfl;refine yw (λu=>∃k:Int,k=(if 0<tn v a then 2 else if Rp v a<0 then 1 else 0)/\u=[some (.val (.lst false (j.map RG))),some (.val (T3 b i d)),some (.val (.int (sm aZ (b,i,d) j))),some (.val (.lst true ((V8 (b,i,d) j).map (Yq (b,i,d))))),some (.val E),some (.val (.tup [.int v.1,.int v.2,.int q.2.2.2])),o 6,o 7,o 8,some (.val (.int p.2.2.2)),some (.val (.int a.1)),some (.val (.int a.2)),some (.own [.int (sm (aA v) (b,i,d) r),.int (sm (aB v) (b,i,d) r),.int (sm (aL v) (b,i,d) r),.int (sm (aR v) (b,i,d) r)]),o 13,some (.val (.int (tn v a))),some (.val (.int (Rp v a))),some (.val (.int k))]) (λu e=>?_) λK2 t=>?_
    rotate_left
    lk;rw[e1,e2];refine⟨cmb wv.a wp.b,cmb wv.b wp.a,cmb wv.a wp.a,cmb wv.b wp.b,Y4 _ _,?_⟩;by_cases B:0<tn v a;exact⟨.int 2,by rw[Rv B];exact at1 _ _ _,t _ ⟨2,by rw[Rv B],rfl⟩⟩;exact⟨_,by rw[if_neg B];exact at0 _ _,t _ ⟨_,by rw[if_neg B],rfl⟩⟩;obtain⟨k,s,rfl⟩:=e;refine iL (λu=>∃k:Int,k=(if tn v a<0 then 3 else if 0<tn v a then 2 else if Rp v a<0 then 1 else 0)/\u=[some (.val (.lst false (j.map RG))),some (.val (T3 b i d)),some (.val (.int (sm aZ (b,i,d) j))),some (.val (.lst true ((V8 (b,i,d) j).map (Yq (b,i,d))))),some (.val E),some (.val (.tup [.int v.1,.int v.2,.int q.2.2.2])),o 6,o 7,o 8,some (.val (.int p.2.2.2)),some (.val (.int a.1)),some (.val (.int a.2)),some (.own [.int (sm (aA v) (b,i,d) r),.int (sm (aB v) (b,i,d) r),.int (sm (aL v) (b,i,d) r),.int (sm (aR v) (b,i,d) r)]),o 13,some (.val (.int (tn v a))),some (.val (.int (Rp v a))),some (.val (.int k))]) (λu e=>?_) λK2 t=>?_
    rotate_left
    lk;split;rename_i I;exact t _ ⟨3,by rw[Rv I],rfl⟩;rename_i I;exact t _ ⟨k,by rw[if_neg I];exact s,rfl⟩;clear s k;obtain⟨k,s,rfl⟩:=e;have nA:tn v a≠0->¬aA v a:=λz y=>z y.1
    have nB:tn v a≠0->¬aB v a:=λz y=>z y.1
    lk;by_cases I:tn v a<0;rw[Rv I]at s;subst s;rw[if_neg (nA (by lia)),if_neg (nB (by lia)),if_neg (show¬aL v a from λz=>by have:0<tn v a:=z;lia),Rv (show aR v a from I),VU,VU,VU]at l;exact⟨_,rfl,show jt _=true/\_ from⟨rfl,3,3,rfl,rfl,l _ (exV rfl)⟩⟩;rw[if_neg I]at s;rw[if_neg (show¬aR v a from I)]at l;by_cases B:0<tn v a;rw[Rv B]at s;subst s;rw[if_neg (nA (by lia)),if_neg (nB (by lia)),Rv (show aL v a from B),VU,VU,VU]at l;exact⟨_,rfl,show jt _=true/\_ from⟨rfl,2,2,rfl,rfl,l _ (exV rfl)⟩⟩;rw[if_neg B]at s;rw[if_neg (show¬aL v a from B)]at l;by_cases O:Rp v a<0;rw[Rv O]at s;subst s;rw[if_neg (show¬aA v a from λz=>z.2.1 O),Rv (show aB v a from⟨by lia,O⟩),VU,VU,VU]at l;exact⟨_,rfl,show jt _=true/\_ from⟨rfl,1,1,rfl,rfl,l _ (exV rfl)⟩⟩;rw[if_neg O]at s;subst s;rw[Rv (show aA v a from⟨by lia,O,pn⟩),if_neg (show¬aB v a from λz=>O z.2),VU,VU,VU]at l;exact⟨_,rfl,show jt _=true/\_ from⟨rfl,0,0,rfl,rfl,l _ (exV rfl)⟩⟩
   rintro u ⟨o,rfl⟩;rw[vN (P:=aA v) (λ_=>PU),vN (P:=aB v) (λ_=>uB),vN (P:=aL v) (λ_=>yZ),vN (P:=aR v) (λ_=>PV)];have lt:min (sm (aA v) (b,i,d) j) (sm (aB v) (b,i,d) j)+min (sm (aL v) (b,i,d) j) (sm (aR v) (b,i,d) j)=ZY (b,i,d) j v:=rfl;rcases M with⟨rfl,rfl⟩| ⟨m,rfl,⟨q1,d1,N,e⟩,A⟩;lk;rw[lt];exact l _ (exW rfl (.inr ⟨_,rfl,⟨q,by simp,H,by rw[hv]⟩,λx U=>by
    have:x=q:=by simpa using U
    subst this;rw[hv];exact W9 _⟩))
   lk;rw[lt];by_cases c:ZY (b,i,d) j v<m;rw[Rv c];exact l _ (exW rfl (.inr ⟨_,rfl,⟨q,by simp,H,by rw[hv]⟩,λx U=>by
    rcases Ta.mp U with y|y;have:=A x y;lia;rw[VF]at y;subst y;rw[hv];exact W9 _⟩))
   rw[if_neg c];exact l _ (exW rfl (.inr ⟨m,rfl,⟨q1,by simp[d1],N,e⟩,λx U=>by
    rcases Ta.mp U with y|y;exact A x y;rw[VF]at y;subst y;rw[hv]
    lia⟩))
  rintro u ⟨o,E,rfl,M⟩;rcases M with⟨hnil,rfl⟩| ⟨m,rfl,⟨q,H,hqz,e⟩,A⟩;lk;refine h _ λg hg=>(hg.none_ ?_).symm
  rw[<- Er,hnil];rfl;lk;refine h _ λg hg=>IL hW hg ⟨_,(J q H).2,e⟩ λw hw=>?_
  rw[<- Er]at hw;obtain⟨p,Y,rfl⟩:=S5.mp hw;exact A p Y
def vi (F:aw K "_law_is_place" "_law_is_place" iG f fd) (C:SN K mg κ)  (c:yH P w K mg base κ) (b:lJ P w K mg base κ) (g:mg "isinstance" = none) (e:mg "len" = none) (d:mg "tuple" = none):aG P w K mg base (CX1 P w) 2 f fd ["_law_found"] (aH K (d5 κ)):=by
 refine aw.okN F vH (by fin2) λ_ _ _ _ _ _ a=>⟨_,(aj (aT (Vm.pt (bR (bP (bH (eE (by rfl) g (by rfl) d boot_tuple (.inr (.inr (.inl rfl))) (dv 0)))) (cO (aD jb (aM bL (by rfl) e Wm (aa (dv 0) af)) ae)))) (ak (ax cU)) aJ) (aj (aT (Vm.pt (bR (bP (bH (aq b a (aa (ai (dv 0) ae) af)))) (bR (bP (bH (aq b a (aa (ai (dv 0) ae) af)))) (bR (bP (bH (aq b a (aa (ai (dv 0) ae) af)))) (cO (aD b6 (ai (dv 0) ae) ae)))))) (ak (ax cU)) aJ) (ak (ax (bT bF (aq c a (aa (aq c a (aa (ai (dv 0) ae) (aa (ai (dv 0) ae) af))) (aa (ai (dv 0) ae) af))) ae))))),?_⟩
 rintro k Q Ed ⟨c,b,a,rfl,h⟩;x_go;obtain⟨⟨i,j⟩,h⟩:=h;have d:(((Int.gcd (Int.gcd c b:Int) a:Nat)):Int)=1:=by
  have e:((PM.g3 c b a:Nat):Int)=1:=by lia
  exact e
 lk;rw[Rv (by rfl),if_neg (by lia),U5 d];exact h
def EA (F:aw K "_law_bar" "_law_bar" qz f fd) (C:SN K mg κ)  (b:lJ P w K mg base κ) (e:mg "isinstance" = none) (d:mg "len" = none) (c:mg "tuple" = none):aG P w K mg base (CX1 P w) 2 f fd ["_law_row", "_law_dots_here", "_law_least"] (aH K (oS κ)):=by
 refine aw.okN F dN (by fin2) λ_ _ _ _ _ _ a=>⟨_,(aj (aT (Vm.pt (bR (bP (bH (eE (by rfl) e (by rfl) c boot_tuple (.inr (.inr (.inl rfl))) (dv 0)))) (bR (aD jb (aM bL (by rfl) d Wm (aa (dv 0) af)) ae) (bR (bP (bH (eE (by rfl) e (by rfl) c boot_tuple (.inr (.inr (.inl rfl))) (ai (dv 0) ae)))) (cO (aD jb (aM bL (by rfl) d Wm (aa (ai (dv 0) ae) af)) ae)))))) (ak (ax cU)) aJ) (aj (aT (Vm.pt (bR (bP (bH (aq b a (aa (ai (ai (dv 0) ae) ae) af)))) (bR (bP (bH (aq b a (aa (ai (ai (dv 0) ae) ae) af)))) (cO (bP (bH (aq b a (aa (ai (ai (dv 0) ae) ae) af)))))))) (ak (ax cU)) aJ) (aj (aT (Vm.pt (bR (bP (bH (aq b a (aa (ai (dv 0) ae) af)))) (bR (aD b6 (ai (dv 0) ae) ae) (cO (Vm.pt (p4 (aD bF (ai (ai (dv 0) ae) ae) ae) (mF (aD bF (ai (ai (dv 0) ae) ae) ae)))))))) (ak (ax cU)) aJ) (aj (az 3 dN.nd ae) (aj (cF PassesOwn.never rfl (bb (dv 1)) (qa (n:=4) rfl (cD (bq 4 dN.nd) (cD (bq 5 dN.nd) (cD (bq 6 dN.nd) (cD (bq 7 dN.nd) rC))))) (ak (aT (aD Es (au aN (au aN (ai (ai (dv 0) ae) ae) (au aE (ai (ai (dv 0) ae) ae) (dv 4))) (au aE (ai (ai (dv 0) ae) ae) (dv 5))) ae) (ak (az 3 dN.nd (au aN (dv 3) (dv 7)))) aJ))) (ak (ax (bT Es (dv 3) (dv 2))))))))),?_⟩
 rintro B Q Ed ⟨x,c,l,rfl,h⟩;x_go;obtain⟨z,m,u,r,n,t,y,h⟩:=h;obtain⟨⟨d,a,b⟩,s⟩:=x;unfold U3 RD;lk;rw[Rv (by rfl),Rv (by rfl),if_neg (by lia)];have o:pW (D0 (de 1)) (k8 4 (b9 (gM 4) (b9 (gM 5) (b9 (gM 6) (b9 (gM 7) k7))))) (IF (dB (WN (fG λi j=>D.bl (decide (j<=i))) (WN nW (WN nW (WN dA (WN dA (de 0) (dC (D.int 0))) (dC (D.int 0))) (WN (rdI CM λi j=>D.int (i*j)) (WN dA (WN dA (de 0) (dC (D.int 0))) (dC (D.int 1))) (de 4))) (WN (rdI CM λi j=>D.int (i*j)) (WN dA (WN dA (de 0) (dC (D.int 0))) (dC (D.int 2))) (de 5))) (dC (D.int 0)))) (zX 3 (WN nW (de 3) (de 7))) D3) {nx:=IH (WN (fG λi j=>D.bl (decide (j<=i))) (de 3) (de 2)) {nx:=λx=>Q D.RZ,rt:=Q},rt:=Q} [some (Sl.val (D.tup [T3 d a b,D.int s])),some (Sl.val (D.lst false (List.map RG c))),some (Sl.val (D.int l)),some (Sl.val (D.int 0)),none,none,none,none]:=by
  refine iq c RG (λdone j=>∃i h g e:Option Sl,j=[some (Sl.val (D.tup [T3 d a b,D.int s])),some (Sl.val (D.lst false (List.map RG c))),some (Sl.val (D.int l)),some (Sl.val (D.int (wq (λp=>decide (0<=gd (d,a,b) p)) done))),i,h,g,e]) (λR q=>?_) ⟨none,none,none,none,rfl⟩ ?_ ?_;lk;exact q
  ·rintro done p l j Uo ⟨i,h,g,e,rfl⟩ K k;have G:=m p j;have A:wq (λp=>decide (0<=gd (d,a,b) p)) (done++[p])=wq (λp=>decide (0<=gd (d,a,b) p)) done+if 0<=d+a*p.1+b*p.2.1 then p.2.2.2 else 0:=by
    rw[Dq,cW]
    simp_all
   generalize hps:List.map RG c=Lp at k ⊢;unfold RG;lk;refine⟨cmb r G.x,cmb n G.y,?_⟩;by_cases c:0<=d+a*p.1+b*p.2.1
   all_goals simp_all [Rv,if_neg,VU]
  rintro l ⟨i,h,g,e,rfl⟩;lk
  simp_all
 by_cases E:a=0
 all_goals simp_all
def BS (F:aw K "_law_bars" "_law_bars" jX f fd) (C:SN K mg κ)  (c:Fh P w K mg base κ) (g:mg "isinstance" = none) (a:mg "len" = none) (e:mg "list" = none) (d:mg "zip" = none):aG P w K mg base (CX1 P w) 3 f fd ["_law_rows", "_law_dots_here", "_law_least"] (aH K (mj κ)):=by
 refine aw.okN F i4 (by fin2) λ_ _ _ _ _ _ b=>⟨_,(aj (aT (Vm.pt (bR (bP (bH (eE (by rfl) g (by rfl) e boot_list (.inr (.inr (.inr (.inl rfl)))) (dv 0)))) (bR (aD b6 (aM bL (by rfl) a Wm (aa (dv 0) af)) ae) (cO (aD jQ (aM bL (by rfl) a Wm (aa (dv 0) af)) ae))))) (ak (ax cU)) aJ) (aj (az 3 i4.nd (cL (aa ae (aa ae (aa ae af))))) (aj (cF PassesOwn.never rfl (bb (dv 0)) (bq 4 i4.nd) (aj (aT (bP (bH (aq c b (aa (dv 4) (aa (dv 1) (aa (dv 2) af)))))) (ak (ax cU)) aJ) (ak (BJ 3 i4.nd (by rfl) (by exact bB (osc:=ao jX) (xs:=["_law_here", "_law_there"]) (ns:=["_law_row"]) (by decide +kernel)) (br.cons 4 br.nil) (.cons (.cons .nil)) (Gk (by rfl) d (aa (dv 3) (aa (ai (dv 4) ae) af))) (λ_ _ _ _ _=>cf) (λ_ _ _ _ _=>(au aN (dv 0) (au aE (ai (dv 2) ae) (dv 1)))))))) (ak (ax (kB (bT b6 (ai (dv 3) ae) ae) (kB (bT bF (ai (dv 3) ae) ae) (mD (bT bF (ai (dv 3) ae) ae))))))))),?_⟩
 rintro o Q Ed ⟨L,b,l,rfl,h⟩;x_go;obtain⟨e,i,B,h⟩:=h;have n:=B.l2;have m:=B.l3;lk;rw[RH,if_neg (by lia),if_neg (by lia)];refine⟨Xu _ _ _,?_⟩;refine yb L U3 (λj a=>∃v:Option Sl,a=[some (.val (.lst false (L.map U3))),some (.val (.lst false (b.map RG))),some (.val (.int l)),some (.val (.lst true [.int ((L.take j).map λx=>x.2*x.1.1).sum,.int ((L.take j).map λx=>x.2*x.1.2.1).sum,.int ((L.take j).map λx=>x.2*x.1.2.2).sum])),v]) (λR q=>?_) ⟨none,rfl⟩ ?_ ?_;lk;exact q;rintro j x l c ⟨v,rfl⟩ K a;have b:=UZ c;have c:L.take (j+1)=L.take j++[x]:=by simp_all [List.take_add_one]
 obtain⟨k,h,g,d⟩:=B.bd x b;lk;refine⟨e,i,B.nl x b,h,g,B.s1 x b,B.wt x b,?_⟩;rw[c]at a;simp only[Vy,List.sum_append,VS,List.map_nil,zCo,List.sum_nil,VU]at a;generalize ((L.take j).map λx=>x.2*x.1.1).sum=i at a ⊢;generalize ((L.take j).map λx=>x.2*x.1.2.1).sum=c at a ⊢;generalize ((L.take j).map λx=>x.2*x.1.2.2).sum=b at a ⊢;have e:U3 x=D.tup [.tup [.int x.1.1,.int x.1.2.1,.int x.1.2.2],.int x.2]:=rfl;refine PD.pU [(i,x.1.1),(c,x.1.2.1),(b,x.1.2.2)] (λz=>[.int z.1,.int z.2]) (λ_=>true) (λz=>.int (z.1+x.2*z.2)) (λR q=>?_) (by simp_all [To]) (λ_=>rfl) (λz b K c=>?_) (λz b _ K c=>?_) ?_;rw[e];lk;exact q;lk;exact c;rw[e];lk;refine⟨?_,c⟩;simp at b;rcases b with rfl|rfl|rfl;exact Wk d k;exact Wk d h;exact Wk d g;exact a _ ⟨_,rfl⟩;rintro l ⟨v,rfl⟩;have p:=B.c0;have b:=B.a0;have a:=B.b0;rw[zCA,b,a];lk
 lia
def w4 (F:aw K "_law_deepest" "_law_deepest" fZ f fd) (C:SN K mg κ)  (b:Dy P w K mg base κ) (c:Bz P w K mg base κ) (e:wx P w K mg base κ) (h:lJ P w K mg base κ) (k:mg "isinstance" = none) (j:mg "len" = none) (d:mg "sum" = none) (g:mg "tuple" = none):aG P w K mg base (CX1 P w) 4 f fd ["_law_found", "_law_dots_here"] (aH K (iP κ)):=by
 refine aw.okN F mV (by fin2) λ_ _ _ _ _ _ a=>⟨_,(aj (az 2 mV.nd (aM (uG rfl) (by rfl) d boot_sum (aa (bV (by rfl) (by exact bB (osc:=ao fZ) (xs:=["_law_dot_here"]) (ns:=[]) (by decide +kernel)) br.nil (bb (dv 1)) (λ_ _ _ _ _=>cf) (λ_ _ _ _ _=>(ai (dv 0) ae))) af))) (aj (aT (Vm.pt (bR (bP (bH (eE (by rfl) k (by rfl) g boot_tuple (.inr (.inr (.inl rfl))) (dv 0)))) (bR (aD jb (aM bL (by rfl) j Wm (aa (dv 0) af)) ae) (bR (bP (bH (aq h a (aa (ai (dv 0) ae) af)))) (cO (bP (bH (aq e a (aa (ai (dv 0) ae) af))))))))) (ak (ax cU)) aJ) (aj (aT (Vm.pt (bR (aD b6 (au aE ae (ai (dv 0) ae)) (dv 2)) (cO (aD (nV (by exact a.units)) (aq c a (aa (dv 1) (aa (ai (dv 0) ae) af))) (ai (dv 0) ae))))) (ak (ax cU)) aJ) (ak (ax (aq b a (aa (ai (dv 0) ae) (aa (dv 1) (aa (au aW (dv 2) (ai (dv 0) ae)) af))))))))),?_⟩
 rintro o Q Ed ⟨d,a,rfl,h⟩;x_go;unfold fk at h;obtain⟨n,y,L,rfl,b,e,c,l,j,B,h⟩:=h;have i:=b.le;lk;refine PD.comp_map a RG (λ_=>true) (λp=>.int p.2.2.2) (λR q=>?_) (by rw[To];lia) (λp g K d=>?_) (λp g _ K d=>?_) ?_;lk;exact q;lk;exact d;unfold RG;lk;exact d;rw[Xg.mpr (λ_ _=>rfl)];have d:(a.map λp=>p.2.2.2).sum=aK a:=by unfold aK XH;rw[Xg.mpr (λ_ _=>rfl)]
 refine⟨true,a.map λp=>p.2.2.2,by rw[UC];rfl,?_⟩;rw[d];lk;rw[Rv (by rfl)];show d5 κ [T3 y.1 y.2.1 y.2.2] _ _;rw[jj,dX];refine⟨e,?_⟩;rw[jL];rw[if_neg (by decide)];refine⟨.inl (by unfold Bd;decide),?_⟩;rw[if_neg (by lia)];show gZ κ [D.lst false (a.map RG),T3 y.1 y.2.1 y.2.2] _ _;rw[lD,eQ];refine⟨by lia,b.gd,b.nn,⟨e.pos,c.b.mono (by decide),c.x.mono (by decide),c.y.mono (by decide)⟩,λm d=>?_⟩;obtain⟨g,c⟩:=Gn y a;rw[(d g c).trans (j g c),eN,if_neg (by decide)];exact⟨CY n,by lia,b.gd,B,h⟩
def w6 (F:aw K "_law_refused" "_law_refused" jC f fd) (C:SN K mg κ)  (c:xJ P w K mg base κ) (d:mg "ValueError" = none) (a:mg "isinstance" = none):aG P w K mg base (CX1 P w) 10 f fd ["_law_dots_here", "_law_few"] (aH K (fC κ)):=by
 refine aw.okN F fz (by fin2) λ_ _ _ _ _ _ b=>⟨_,(aj (az 2 fz.nd fQ) (aj (Ly 3 c (b.mono (by decide)) fz.nd C.SR (aa (dv 0) af) (λ_=>(ak (az 2 fz.nd (dv 3))))) (aj (aT (Vm.pt (bR (aD vf (dv 2) fQ) (bR (bP (bH (jN (by rfl) a (CZ (v:=.ty "ValueError") (by rfl) d (by rfl) rfl) (λu h=>h) (dv 2)))) (cO (bH (jN (by rfl) a (rJ (v:=.ref κ.NoSuch) (by rfl) C.Ug rfl) (λu h=>h) (dv 2))))))) (ak (ax cU)) aJ) (ak (ax (kB (bT (za (by exact b.units)) (jN (by rfl) a (rJ (v:=.ref κ.TooFew) (by rfl) C.TF rfl) (λu h=>h) (dv 2)) (dv 1)) (mD (bT (nV (by exact b.units)) (jN (by rfl) a (rJ (v:=.ref κ.TooMany) (by rfl) C.Td rfl) (λu h=>h) (dv 2)) (dv 1))))))))),?_⟩
 rintro g Q Ed ⟨e,b,rfl,h⟩;x_go;obtain⟨a,h⟩:=h;lk;rcases a with⟨rfl,rfl⟩| ⟨a,rfl⟩;refine .inl ⟨rfl,κ.TooFew,rfl,C.Uh,C.RK,?_⟩;simp only[kex C.Sa,kex C.RJ,kex C.Sb,kex C.RV];exact⟨qj _,qj _,h⟩;refine .inr (.inl ⟨a,κ.TooMany,rfl,C.TQ,C.RF,?_⟩);simp only[kex C.RW,kex C.RE,kex C.RX,kex C.RP];exact⟨qj _,qj _,h⟩
def OZ (F:aw K "law" "law" iY f fd) (C:SN K mg κ)  (Sf:o9 P w K mg base κ) (Uc:yG P w K mg base κ) (Vg:DC P w K mg base κ) (Ti:yI P w K mg base κ) (Tg:xJ P w K mg base κ) (Vl:Ii P w K mg base κ) (S8:mg "list" = none) (Tu:mg "sum" = none):aG P w K mg base (CX1 P w) 11 f fd ["_law_script"] (aH K vO):=by
 refine aw.okB F ji (by fin2) λ_ _ _ _ _ _ c=>⟨_,(dQ (az 1 ji.nd (aq Vg c (aa (dv 0) (aa ae (aa ae af))))) (dQ (az 2 ji.nd (aM (uG rfl) (by rfl) Tu boot_sum (aa (bV (by rfl) (by exact bB (osc:=ao iY) (xs:=["_law_dot_here"]) (ns:=[]) (by decide +kernel)) br.nil (bb (dv 1)) (λ_ _ _ _ _=>cf) (λ_ _ _ _ _=>(ai (dv 0) ae))) af))) (dQ (az 3 ji.nd ((Lw (by rfl) S8 (dv 1))).YI) (dQ (az 4 ji.nd (aq Tg c (aa (dv 3) af))) (dQ (aT (Vm.pt (bR (bP (bH (aq Uc c (aa (dv 4) (aa (dv 1) af))))) (cO (aD (nV (by exact c.units)) (dv 3) (dv 1))))) (ak (ax cU)) aJ) (dQ (aT (aD (nV (by exact c.units)) (WH.YI (eI (aq Vl c (aa (dv 1) (aa (ai (dv 4) ae) af))) cC (cJ ae))) (cL (aa (ai (dv 4) ae) af))) (ak (ax cU)) aJ) (dQ (aT (Vm.pt (p4 (aD b6 (ai (dv 4) ae) (dv 2)) (mF (aD (nV (by exact c.units)) (aq Vl c (aa (dv 1) (aa (au aN (ai (dv 4) ae) ae) af))) (cL af))))) (ak (ax cU)) aJ) (dQ (az 5 ji.nd (WH.YI (eI (au JB (dv 1) ae) cC (cJ (au aN ae (au bM (aq Sf c (aa (dv 0) (aa ae af))) ae)))))) (dQ (aT (Vm.pt (bR (bP (bH (aq Ti c (aa (cL af) (aa cU af))))) (cO (bP (bH (aq Ti c (aa (dv 5) (aa cU af)))))))) (ak (ax cU)) aJ) (Fy (ix:=4) (iy:=6) (by rfl) (by decide) (Pg ji.nd (by rfl) (by first|exact Or.inl rfl|exact Or.inr rfl) (Qs 4 (by rfl) S8)) (Qu 4) (dQ (az 7 ji.nd (aq Tg c (aa (dv 1) af))) (Nv (ax (kB (bT (za (by exact c.units)) (Ac (dv 7) cC (cJ ae)) (Ac (dv 4) cC (cJ ae))) (mD (bT (za (by exact c.units)) (ai (dv 7) ae) (dv 6))))))))))))))))),?_⟩
 rintro ds Q Ed ⟨ns,rfl,hl,h⟩;x_go;have okY:∀z:Tr,okD (RD z):=λz=>(iz z).ok
 lk;refine⟨hl,λl i Y=>?_⟩;have okP:∀t,okD (.lst t (l.map RG)):=λt=>(Uy.map Mo).ok
 have w0:=wD i;have l0:=zC1.mpr i.ne;refine PD.comp_map l RG (λ_=>true) (λp=>.int p.2.2.2) (λR q=>?_) (by rw[To];lia) (λp hp K hK=>?_) (λp hp _ K hK=>?_) ?_;lk;exact q;lk;exact hK;unfold RG;lk;exact hK;rw[Xg.mpr (λ_ _=>rfl)];have ew:(l.map λp=>p.2.2.2).sum=aK l:=by unfold aK XH;rw[Xg.mpr (λ_ _=>rfl)]
 refine⟨true,l.map λp=>p.2.2.2,by rw[UC];rfl,i,Y,λn y L zs ys r J M G e hL=>?_⟩;rw[ew];have ym:y∈cM l zs ys (aK l - n+1):=L9.mp (by rw[e];simp);obtain⟨yp,yc⟩:=A4 i J M ym;have B:=QB i G.1 hL;refine⟨n,y,L,rfl,i,yp,yc,IZ i J M G,λg hg=>IY i J M G ym hg,B,okP _,okP _,?_⟩;rw[eN,if_neg (by decide)];refine⟨i,G.1,G.2.1,λzs1 ys1 hz1 hy1=>?_⟩;rw[jd hz1 J,je hy1 M,e];have c1:PD.cutD ((y::r).map RD) none (some 1)=[RD y]:=zS ((y::r).map RD) (k:=1) (by rw[RH];exact zCd (UE _));have T:okD (.lst true [RD y]):=(Uy.map (xs:=[y]) iz).ok;rw[c1];refine⟨Zx _,T,T,?_⟩;rw[eN,if_neg (by decide)];refine Jh ?_ λcl hP=>⟨i,by have:=G.1;lia,by lia,λs u A E=>?_⟩
 rotate_left
 have U:okD (.lst true []):=(Uy.map (xs:=([]:yat)) iz).ok;have nil:cM l s u (aK l - (n+1)+1)=[]:=zBX λz=>by
  have:=(G.2.2 s u A E (n+1) (by have:=G.1;lia) (by lia)).mp z
  lia
 rw[nil,show List.map RD (kF [])=[]from rfl,eN,if_neg (by decide)];exact⟨UE _,U,U,hP⟩;refine⟨true,_,13,rfl,rfl,by decide,by rw[RH];lia,by decide,hl,λv=>⟨by decide,true,_,rfl,UE _,?_⟩⟩;show fC κ [.lst false (([]:List Dt).map RG),.bl true] _ _;rw[fP,dD];refine⟨.inl ⟨rfl,rfl⟩,?_⟩;rw[jL];have fv:=fm (a:=v) (b:=18) (by decide);obtain⟨qs,eq,q13⟩:∃qs:List Dt,PD.cutD (List.replicate 13 (List.map RG l)).flatten none (some (13+v.fmod 18))=qs.map RG/\12<qs.length:=by
  obtain⟨m,em⟩:∃m:Nat,v.fmod 18=m:=⟨(v.fmod 18).toNat,by lia⟩;refine⟨(List.replicate 13 l).flatten.take (13+m),?_,?_⟩;rw[em,show(13+(m:Int))=((13+m:Nat):Int)by lia,Lo,List.map_take,List.map_flatten,List.map_replicate];rw[Xj,List.length_flatten,List.map_replicate,List.sum_replicate_nat]
  lia
 rw[if_neg (by decide),eq,sS,fP,dD];refine⟨.inr ⟨q13,rfl⟩,?_⟩;rw[jL];rw[if_neg (by decide)];obtain⟨I,H,rfl⟩:∃I H,L=I::H:=by
  cases L with
  |nil=>exact absurd B.l2 (by decide)
  |cons a b=>exact⟨a,b,rfl⟩
 have fD:Ec (.lst true (l.map RG)):=CC i.ne;refine⟨.int n,RD y,_,_,H.map U3,rfl,rfl,rfl,CT (I::H),λj d h4 h6 o=>?_,λj x h4 h6 o=>?_,?_⟩;rcases j with _|_|_|_|_|_|_|_|j;cases o;exact .inr (.inr ⟨_,ns,rfl⟩);cases o;exact fD;cases o;exact .inl rfl;cases o;exact fD;exact absurd rfl h4;cases o;exact CC (zDT (by lia));cases o;cases o;cases o;rcases j with _|_|_|_|_|_|_|_|j<;>cases o;lk;refine⟨i,Y,λn2 y2 L2 s u r2 A E G2 e2 hL2=>?_⟩;have en:=OD i J M G2 G;subst en;rw[jd A J,je E M,e]at e2;cases e2;rw[Pp hL2 hL];have N:okD (.tup [.int n2,RD y]):=(Uy.tup (.cons (.int 1 _) (.cons (iz y) (.nil _)))).ok;have O:okD (.lst true (List.map U3 (I::H))):=(Uy.map λx:Tr×Int=>(Uy.tup (.cons (iz x.1) (.cons (.int 1 _) (.nil _))):Uy 2 (U3 x))).ok;have cu:∀d:D,PD.cutD [D.int n2,RD y,d] none (some 2)=[D.int n2,RD y]:=λ_=>rfl
 have n3:¬HT.SG 3 3 (some 2)=3:=by decide
 refine⟨_,rfl,λz=>n3 z.2,_,rfl,λz=>n3 z.2,?_⟩;rw[cu,cu,eN,Rv rfl];refine⟨N,N,O,O,?_⟩;show Q (D.bl (eqD (D.lst true (List.map U3 (I::H))) (D.lst true (List.map U3 (I::H)))));rw[eN];exact h
end
def all_mk {l:PySem.W.OpenLaw} {K:yac} (X:K.In h) (G:h.Ns mainGlobals mg) (C:mg "law" = some (.ref fa))

  {u:Option Addr} {q:Array (yan)} {z:Value}
 {n:Value} {k:Option Addr} {e:Array (yan)}
  {t:Option Addr} {p:Array (yan)} {y:Value}
 {m:Value} {j:Option Addr} {b:Array (yan)}
  {r:Option Addr} {o:Array (yan)} {x:Value}
  (e0:FL K "sign" Bg)
  (e1:FL K "common_divisor" gw)
  (e2:FL K "lowest" oC)
  (e3:FL K "reduced" qE)
  (e4:FL K "picks" rS)
  (e5:FL K "value" xj)
  (e6:FL K "side" Bf)
  (e7:FL K "is_level" oz)
  (e8:FL K "crossed" qv)
  (e9:FL K "line" Bc)
  (e10:FL K "facing" tZ)
  (e11:FL K "place" xh)
  (e12:FL K "place_of" oE)
  (e13:FL K "rank" Be)
  (e14:FL K "swing" xi)
  (e15:FL K "arrow" xf)
  (e16:FL K "turn" Bh)
  (e17:FL K "back" A9)
  (e18:FL K "left_of" qD)
  (e19:FL K "spot_of" qF)
  (e20:FL K "spots_of" jZ)
  (e21:FL K "of_colour" iZ)
  (a22:PySem.W.nsIn K mainGlobals "total" = some (some (.ref f22))) (U:K.lookup f22=some ⟨z,u,.func (PySem.W.fnOf "total" "total" (dg iI) (cn iI) (ao iI) (.ref dt22) kV22 dc22 pm22 an22 cd22 ct22),q⟩) (c22:PySem.W.codeIn K cd22 "total" = true) (B:PySem.W.keepIn K (.ref f22)=true)
  (f:K.lookup dt22=some ⟨n,k,.seq #[.none] tn22,e⟩)
  (a23:PySem.W.nsIn K mainGlobals "weighed" = some (some (.ref f23))) (T:K.lookup f23=some ⟨y,t,.func (PySem.W.fnOf "weighed" "weighed" (dg gI) (cn gI) (ao gI) (.ref dt23) kV23 dc23 pm23 an23 cd23 ct23),p⟩) (c23:PySem.W.codeIn K cd23 "weighed" = true) (A:PySem.W.keepIn K (.ref f23)=true)
  (d:K.lookup dt23=some ⟨m,j,.seq #[.none] tn23,b⟩)
  (e24:FL K "chain" xg)
  (e25:FL K "hull" vE)
  (e26:FL K "thin_bounds" jD)
  (e27:FL K "bounds" ow)
  (e28:FL K "on_two_spots" iH)
  (e29:FL K "spot_pairs" eS)
  (e30:FL K "pair_line" me)
  (e31:FL K "split_by" jY)
  (e32:FL K "pair_lines" gQ)
  (e33:FL K "length" t6)
  (e34:FL K "are_opposite" iF)
  (e35:FL K "balance_of_two" gr)
  (e36:FL K "balance_of_three" cQ)
  (e37:FL K "balance" qu)
  (e38:FL K "place_between" gR)
  (e39:FL K "clipped" lA)
  (e40:FL K "common" tY)
  (e41:FL K "led" EM)
  (e42:FL K "last_needed" jz)
  (e43:FL K "constant" jW)
  (e44:FL K "bars" vD)
  (e45:FL K "axis_lines" eR)
  (e46:FL K "opposite" oD)
  (e47:FL K "half_planes" jy)
  (e48:FL K "rims" vF)
  (e49:FL K "hull_of" qy)
  (e50:FL K "region_within" gS)
  (e51:FL K "region" t8)
  (e52:FL K "greatest_depth" gA)
  (e53:FL K "shallow_bars" fu)
  (e54:FL K "deepest" qw)
  (e55:FL K "_law_whole" l9)
  (e56:FL K "_law_cell_at" jA)
  (e57:FL K "_law_divisor" jB)
  (e58:FL K "_law_dot" qC)
  (e59:FL K "_law_dots" oA)
  (e60:FL K "_law_depth" l8)
  (e61:FL K "_law_is_place" iG)
  (e62:FL K "_law_bar" qz)
  (e63:FL K "_law_bars" jX)
  (e64:FL K "_law_deepest" fZ)
  (e65:FL K "_law_refused" jC)
  (a66:PySem.W.nsIn K mainGlobals "law" = some (some (.ref f66))) (Q:K.lookup f66=some ⟨x,r,.func (PySem.W.fnOf "law" "law" (dg iY) (cn iY) (ao iY) .none kV66 dc66 pm66 an66 cd66 ct66),o⟩) (c66:PySem.W.codeIn K cd66 "law" = true) (Y:PySem.W.keepIn K (.ref f66)=true)
  (SR:PySem.W.nsIn K mainGlobals "PlaneError" = some (some (.ref S9)))
  (Up:PySem.W.nsIn K mainGlobals "NoPlace" = some (some (.ref Vw)))
  (US:PySem.W.nsIn K mainGlobals "NoLine" = some (some (.ref Wc)))
  (TF:PySem.W.nsIn K mainGlobals "TooFew" = some (some (.ref RY)))
  (Td:PySem.W.nsIn K mainGlobals "TooMany" = some (some (.ref RM)))
  (Ug:PySem.W.nsIn K mainGlobals "NoSuch" = some (some (.ref We)))
  (RO:PySem.W.nsIn K mainGlobals "MOST_FOR_DEEPEST" = some (some (.int (12) XI)))
  (TP:PySem.W.excIn K RY vZ "ValueError.__new__" = true)
  (Uh:PX.Eb K RY=true)
  (R3:PySem.W.kitOne K (.ref RY) (.ref S9)=some true)
  (Sq:PySem.W.kitOne K (.ref RY) (.ref Vw)=some false)
  (Sx:PySem.W.kitOne K (.ref RY) (.ref Wc)=some false)
  (Sa:PySem.W.kitOne K (.ref RY) (.ref RY)=some true)
  (RV:PySem.W.kitOne K (.ref RY) (.ref RM)=some false)
  (Sb:PySem.W.kitOne K (.ref RY) (.ref We)=some false)
  (RJ:PySem.W.kitOne K (.ref RY) (.type "ValueError")=some true)
  (RK:PySem.W.exmOne K (.ref RY) (.ref S9)=some true)
  (Sy:PySem.W.exmOne K (.ref RY) (.ref RY)=some true)
  (Tj:PySem.W.excIn K RM vZ "ValueError.__new__" = true)
  (TQ:PX.Eb K RM=true)
  (RS:PySem.W.kitOne K (.ref RM) (.ref S9)=some true)
  (Sg:PySem.W.kitOne K (.ref RM) (.ref Vw)=some false)
  (Sr:PySem.W.kitOne K (.ref RM) (.ref Wc)=some false)
  (RW:PySem.W.kitOne K (.ref RM) (.ref RY)=some false)
  (RP:PySem.W.kitOne K (.ref RM) (.ref RM)=some true)
  (RX:PySem.W.kitOne K (.ref RM) (.ref We)=some false)
  (RE:PySem.W.kitOne K (.ref RM) (.type "ValueError")=some true)
  (RF:PySem.W.exmOne K (.ref RM) (.ref S9)=some true)
  (Si:PySem.W.exmOne K (.ref RM) (.ref RM)=some true)
  (Ss:PySem.W.nsIn K mainGlobals "ValueError" = some none) (I:PySem.W.nsIn K mainGlobals "abs" = some none) (Ve:PySem.W.nsIn K mainGlobals "bool" = some none) (H:PySem.W.nsIn K mainGlobals "int" = some none) (c:PySem.W.nsIn K mainGlobals "isinstance" = some none) (a:PySem.W.nsIn K mainGlobals "len" = some none) (L:PySem.W.nsIn K mainGlobals "list" = some none) (V9:PySem.W.nsIn K mainGlobals "max" = some none) (M:PySem.W.nsIn K mainGlobals "min" = some none) (i:PySem.W.nsIn K mainGlobals "range" = some none) (N:PySem.W.nsIn K mainGlobals "set" = some none) (O:PySem.W.nsIn K mainGlobals "sorted" = some none) (g:PySem.W.nsIn K mainGlobals "sum" = some none) (J:PySem.W.nsIn K mainGlobals "tuple" = some none) (E:PySem.W.nsIn K mainGlobals "zip" = some none) :
  ∃ fd:FuncData,(∀(s:Shared) (v:Value),BindsTo s fd ⟨[v],[]⟩ [("_law_script", v)])/\∀base:Heap,K.In base->base.Ns mainGlobals mg->aG l.prog w K mg base (CX1 l.prog w) 11 fa fd ["_law_script"] (aH K vO):=by
 have e:=C.symm.trans (PySem.W.mg_of X G a66);cases e;have Ss:=PySem.W.mg_none_of X G Ss;have I:=PySem.W.mg_none_of X G I;have Ve:=PySem.W.mg_none_of X G Ve;have H:=PySem.W.mg_none_of X G H;have c:=PySem.W.mg_none_of X G c;have a:=PySem.W.mg_none_of X G a;have L:=PySem.W.mg_none_of X G L;have V9:=PySem.W.mg_none_of X G V9;have M:=PySem.W.mg_none_of X G M;have i:=PySem.W.mg_none_of X G i;have N:=PySem.W.mg_none_of X G N;have O:=PySem.W.mg_none_of X G O;have g:=PySem.W.mg_none_of X G g;have J:=PySem.W.mg_none_of X G J;have E:=PySem.W.mg_none_of X G E;have C:SN K mg ⟨S9,Vw,Wc,RY,RM,We⟩:=⟨PySem.W.mg_of X G SR,PySem.W.mg_of X G Up,PySem.W.mg_of X G US,PySem.W.mg_of X G TF,PySem.W.mg_of X G Td,PySem.W.mg_of X G Ug,⟨_,PySem.W.mg_of X G RO⟩,TP,PX.d6.of Uh,R3,Sq,Sx,Sa,RV,Sb,RJ,RK,Sy,Tj,PX.d6.of TQ,RS,Sg,Sr,RW,RP,RX,RE,RF,Si⟩;refine⟨PySem.W.fnOf "law" "law" (dg iY) (cn iY) (ao iY) .none kV66 dc66 pm66 an66 cd66 ct66,λs v=>.of_eq rfl,λbase _ _=>?_⟩;have b:=e0.has l.prog w base X G λF=>Mx F C
 have h:=e1.has l.prog w base X G λF=>rZ F C I
 have n:=e2.has l.prog w base X G λF=>G0 F C h
 have e:=e3.has l.prog w base X G λF=>ED F C h
 have k:=e4.has l.prog w base X G λF=>JG F C i
 have m:=e5.has l.prog w base X G λF=>JK F C
 have p:=e6.has l.prog w base X G λF=>Mw F C b m
 have h:=e7.has l.prog w base X G λF=>BR F C
 have q:=e8.has l.prog w base X G λF=>Ex F C
 have u:=e9.has l.prog w base X G λF=>Mt F C q h e
 have Ui:=e10.has l.prog w base X G λF=>GY F C
 have x:=e11.has l.prog w base X G λF=>JH F C e
 have j:=e12.has l.prog w base X G λF=>BW F C
 have t:=e13.has l.prog w base X G λF=>Mu F C b
 have WV:=e14.has l.prog w base X G λF=>JI F C
 have z:=e15.has l.prog w base X G λF=>JE F C
 have o:=e16.has l.prog w base X G λF=>My F C
 have y:=e17.has l.prog w base X G λF=>Mq F C
 have Vr:=e18.has l.prog w base X G λF=>EC F C
 have h:=e19.has l.prog w base X G λF=>EE F C
 have Vd:=e20.has l.prog w base X G λF=>BY F C h
 have r:=e21.has l.prog w base X G λF=>AQ F C
 have b:=rB (st:=iI) U c22 B;have e:pL l.prog w K mg base "total" 2 ["dots", "colour"] "colour" (gF _):=⟨_,_,JJ b C r g,PySem.W.mg_of X G a22,B,uE λs b _ _=>BindsTo.of_defaults rfl (b _ _ f) rfl rfl rfl,uD 1 rfl λs b _=>BindsTo.of_defaults rfl (b _ _ f) rfl rfl rfl,uX 1 rfl λs w b _=>BindsTo.of_defaults rfl (b _ _ f) rfl rfl rfl⟩;have f:=rB (st:=gI) T c23 A;have B:pL l.prog w K mg base "weighed" 3 ["dots", "gauge", "colour"] "colour" (ib _):=⟨_,_,EF f C r j p h,PySem.W.mg_of X G a23,A,uE λs b _ _ _=>BindsTo.of_defaults rfl (b _ _ d) rfl rfl rfl,uD 2 rfl λs b _ _=>BindsTo.of_defaults rfl (b _ _ d) rfl rfl rfl,uX 2 rfl λs w b _ _=>BindsTo.of_defaults rfl (b _ _ d) rfl rfl rfl⟩;have b:=e24.has l.prog w base X G λF=>JF F C WV a
 have r:=e25.has l.prog w base X G λF=>Ms F C b j a N O
 have b:=e26.has l.prog w base X G λF=>w7 F C z y Ui Vr
 have s:=e27.has l.prog w base X G λF=>GW F C q b a i
 have d:=e28.has l.prog w base X G λF=>vj F C h
 have b:=e29.has l.prog w base X G λF=>yO F C d k a
 have d:=e30.has l.prog w base X G λF=>AR F C u j h
 have f:=e31.has l.prog w base X G λF=>BX F C B N O
 have q:=e32.has l.prog w base X G λF=>yN F C d b
 have b:=e33.has l.prog w base X G λF=>GZ F C I
 have d:=e34.has l.prog w base X G λF=>vh F C o
 have h:=e35.has l.prog w base X G λF=>rY F C d b n
 have j:=e36.has l.prog w base X G λF=>pG F C n o V9 M
 have d:=e37.has l.prog w base X G λF=>Eu F C j h b a
 have h:=e38.has l.prog w base X G λF=>tQ F C x m
 have b:=e39.has l.prog w base X G λF=>Ew F C h p a i
 have m:=e40.has l.prog w base X G λF=>GX F C b
 have j:=e41.has l.prog w base X G λF=>O0 F C t a i
 have h:=e42.has l.prog w base X G λF=>wY F C b a
 have b:=e43.has l.prog w base X G λF=>BQ F C g E
 have i:=e44.has l.prog w base X G λF=>Mr F C d b h k L E
 have d:=e45.has l.prog w base X G λF=>yM F C
 have b:=e46.has l.prog w base X G λF=>BV F C
 have h:=e47.has l.prog w base X G λF=>wX F C d b q f
 have d:=e48.has l.prog w base X G λF=>Mv F C
 have f:=e49.has l.prog w base X G λF=>Ez F C r Vd
 have b:=e50.has l.prog w base X G λF=>tR F C m f j d e
 have j:=e51.has l.prog w base X G λF=>G4 F C h b e
 have k:=e52.has l.prog w base X G λF=>r9 F C b e a
 have m:=e53.has l.prog w base X G λF=>vo F C i s f d e
 have d:=e54.has l.prog w base X G λF=>Ey F C k h b m a
 have b:=e55.has l.prog w base X G λF=>AO F C Ve H c
 have e:=e56.has l.prog w base X G λF=>wZ F C a
 have i:=e57.has l.prog w base X G λF=>w5 F C I
 have f:=e58.has l.prog w base X G λF=>EB F C H
 have h:=e59.has l.prog w base X G λF=>BU F C e f
 have k:=e60.has l.prog w base X G λF=>AN F C H M
 have m:=e61.has l.prog w base X G λF=>vi F C i b c a J
 have f:=e62.has l.prog w base X G λF=>EA F C b c a J
 have i:=e63.has l.prog w base X G λF=>BS F C f c a L E
 have f:=e64.has l.prog w base X G λF=>w4 F C i k m b c a g J
 have a:=e65.has l.prog w base X G λF=>w6 F C d Ss c
 exact OZ (rB (st:=iY) Q c66 Y) C e f h a d j L g
end LW
def PySem.W.Fast.te4693260801514074483:True:=trivial
def PySem.W.Fast.te13052408679150730464:True:=trivial
def PySem.W.Fast.tw6557173866431060808:PySem.Program:=PySem.Challenge.pw_halvecut_k55_whole_the_deepest
theorem PySem.W.Fast.te6557173866431060808:PySem.Challenge.pw_halvecut_k55_whole_the_deepest=PySem.W.Fast.tw6557173866431060808:=rfl
namespace PySem.W.Fast
def tw15976383772269918606:=()
def tw8437147035246390501:=()
def tw10646773055426431690:=()
def tw17068648308680073750:=()
def tw18019778086711137169:=()
def tw16707044962927470320:=()
def tw6626679290060367689:=()
end PySem.W.Fast
open PySem PySem.W PyProof.Rows
set_option maxRecDepth 100000 in
set_option maxHeartbeats 0 in
theorem PySem.Challenge.cw_halvecut_k55_whole_the_deepest_holds : PySem.Challenge.rw_halvecut_k55_whole_the_deepest.Holds := by
 w_on; o_law; k_head; (case hw => w_witness2)
 k_fill
 refine PD.walk (l := PySem.Challenge.rw_halvecut_k55_whole_the_deepest) (k := 11) (x := "_law_script") rfl rfl ⟨rfl, by decide, by decide⟩ (λw h Y => PySem.W.kIn_of Y) (λw => by kernel_rfl) ?F
 case F =>
  intro w d e h b G a
  refine' LW.all_mk b G a ?e0 ?e1 ?e2 ?e3 ?e4 ?e5 ?e6 ?e7 ?e8 ?e9 ?e10 ?e11 ?e12 ?e13 ?e14 ?e15 ?e16 ?e17 ?e18 ?e19 ?e20 ?e21 ?a22 ?l22 ?c22 ?k22 ?t22 ?a23 ?l23 ?c23 ?k23 ?t23 ?e24 ?e25 ?e26 ?e27 ?e28 ?e29 ?e30 ?e31 ?e32 ?e33 ?e34 ?e35 ?e36 ?e37 ?e38 ?e39 ?e40 ?e41 ?e42 ?e43 ?e44 ?e45 ?e46 ?e47 ?e48 ?e49 ?e50 ?e51 ?e52 ?e53 ?e54 ?e55 ?e56 ?e57 ?e58 ?e59 ?e60 ?e61 ?e62 ?e63 ?e64 ?e65 ?a66 ?l66 ?c66 ?k66 ?SR ?Up ?US ?TF ?Td ?Ug ?RO ?TP ?Uh ?R3 ?Sq ?Sx ?Sa ?RV ?Sb ?RJ ?RK ?Sy ?Tj ?TQ ?RS ?Sg ?Sr ?RW ?RP ?RX ?RE ?RF ?Si ?Ss ?TU ?Ve ?Tv ?Rn ?Ru ?S8 ?V9 ?UO ?R4 ?U4 ?SV ?Tu ?Sz ?Uk
  all_goals try (refine' PD.FL.mk ?a ?l ?c ?k; (case a => k_is); (case l => k_is); (case c => k_is); (case k => k_is))
  (case a22 => k_is)
  (case l22 => k_is)
  (case c22 => k_is)
  (case k22 => k_is)
  (case t22 => k_is)
  (case a23 => k_is)
  (case l23 => k_is)
  (case c23 => k_is)
  (case k23 => k_is)
  (case t23 => k_is)
  (case a66 => k_is)
  (case l66 => k_is)
  (case c66 => k_is)
  (case k66 => k_is)
  (case SR => k_is)
  (case Up => k_is)
  (case US => k_is)
  (case TF => k_is)
  (case Td => k_is)
  (case Ug => k_is)
  (case RO => k_is)
  (case TP => kernel_rfl)
  (case Uh => kernel_rfl)
  (case R3 => kernel_rfl)
  (case Sq => kernel_rfl)
  (case Sx => kernel_rfl)
  (case Sa => kernel_rfl)
  (case RV => kernel_rfl)
  (case Sb => kernel_rfl)
  (case RJ => kernel_rfl)
  (case RK => kernel_rfl)
  (case Sy => kernel_rfl)
  (case Tj => kernel_rfl)
  (case TQ => kernel_rfl)
  (case RS => kernel_rfl)
  (case Sg => kernel_rfl)
  (case Sr => kernel_rfl)
  (case RW => kernel_rfl)
  (case RP => kernel_rfl)
  (case RX => kernel_rfl)
  (case RE => kernel_rfl)
  (case RF => kernel_rfl)
  (case Si => kernel_rfl)
  (case Ss => k_is)
  (case TU => k_is)
  (case Ve => k_is)
  (case Tv => k_is)
  (case Rn => k_is)
  (case Ru => k_is)
  (case S8 => k_is)
  (case V9 => k_is)
  (case UO => k_is)
  (case R4 => k_is)
  (case U4 => k_is)
  (case SV => k_is)
  (case Tu => k_is)
  (case Sz => k_is)
  (case Uk => k_is)
