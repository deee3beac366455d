import PyProof.Rows.All
import Wide.All
import OpenK.AllK
import Wide.FinOn
import Lean
import PyProof.EqAt
import PyProof.EqKinds
import PyProof.TupleCall
import PySem.Challenge.RW_halvecut_k62_three_groups
set_option compiler.extract_closed false
set_option bootstrap.genMatcherCode false
set_option tactic.hygienic false
set_option Elab.async false
set_option linter.all false set_option autoImplicit true set_option relaxedAutoImplicit true
set_option maxRecDepth 100000
noncomputable section
abbrev yaa:=PySem.Value->PySem.Shared->Prop
abbrev yab:=List (PySem.Addr×PySem.Obj)
abbrev yac:=PySem.W.Frag
abbrev yad:=List PySem.Value
abbrev yae:=List PySem.Addr
abbrev yaf:=List Int
abbrev yag:=List Nat
abbrev yah:=List PySem.Str
abbrev yai:=List PySem.Expr
abbrev yaj:=Nat->Option PySem.Addr
abbrev yak:=Bool->PySem.Addr->Prop
abbrev yal:=List PySem.Stmt
abbrev yam:=PySem.Str->Option PySem.Value
abbrev yan:=Option PySem.Value
abbrev yao:=Array PySem.Value
abbrev yap:=Array Nat
abbrev yaq:=Option Int
def Pk:=@PySem.wpAny_bind
def Pq:=@List.length_map
def Qw:=@List.getElem?_eq_getElem
def Q2:=@List.getD_eq_getElem?_getD
def QN:=@PySem.Heap.get?_push_of_some
def P6:=@List.mem_map
def Po:=@if_neg
def Qg:=@List.mem_cons
def RQ:=@List.getElem?_eq_some_iff
def Pt:=@if_pos
def Qp:=@PySem.Heap.lt_size
def Rt:=@List.mem_of_getElem?
def QZ:=@List.getElem?_map
def Qu:=@Nat.le_refl
def R4:=@List.mem_cons_of_mem
def QO:=@List.map_cons
def QM:=@Nat.le_trans
def QP:=@List.map_map
def R7:=@Nat.lt_of_lt_of_le
def Sq:=@List.getElem?_set_ne
def QU:=@Nat.ne_of_lt
def Rv:=@Int.mul_nonneg
def RH:=@List.mem_append
def SO:=@List.mem_append_right
def Q7:=@Int.le_of_lt
def Sv:=@PySem.Heap.get?_push_size
def Sw:=@List.length_append
def SM:=@List.mem_singleton
def Sb:=@List.map_append
def Tp:=@Array.length_toList
def Tq:=@List.filter_eq_self
def SQ:=@List.length_cons
def S8:=@List.size_toArray
def RS:=@Nat.zero_le
def T9:=@List.mem_cons_self
def V2:=@List.getElem?_append_left
def UK:=@List.pairwise_cons
def Vt:=@Array.getElem?_toList
def S4:=@Int.mul_comm
def Ua:=@Int.mul_eq_zero
def Wh:=@Int.mul_neg_of_neg_of_pos
def Uu:=@List.getElem_mem
def Uv:=@List.length_take
def Vu:=@List.mem_append_left
def Uw:=@List.not_mem_nil
def Ux:=@Nat.mod_eq_of_lt
def Wy:=@List.getElem?_append_right
def V4:=@List.getElem?_set_self
def Wz:=@Array.getElem?_eq_getElem
def XN:=@Int.nonneg_of_mul_nonneg_right
def WA:=@List.pairwise_iff_getElem
def Uy:=@Option.some.inj
def VC:=@Bool.false_eq_true
def Wi:=@Option.map_eq_some_iff
def Ub:=@PySem.wpAny_holding
def VD:=@List.length_range'
def VE:=@PySem.wpAny_Call_Name_kw
def WC:=@PySem.Heap.get?_update_other
def So:=@PySem.boot_len
def Vv:=@List.take_length
def TC:=@PySem.wpAny_field
def V5:=@Bool.false_ne_true
def U2:=@List.mem_range
def Uc:=@Int.le_refl
def VF:=@List.getElem_map
def Tv:=@PySem.wpAny_mono
def Yj:=@Array.getElem?_eq_some_iff
def WY:=@PySem.Heap.get?_update_self
def Uk:=@Int.neg_mul
def WD:=@List.getElem_of_mem
def WE:=@List.length_reverse
def Yk:=@List.drop_eq_getElem_cons
def Ud:=@Int.not_le
def WG:=@List.cons_append
def Wj:=@PySem.wpAny_call_entry
def Yl:=@PySem.wpAny_callSpecial?_slot
def zBO:=@Int.mul_nonpos_of_nonpos_of_nonneg
def WH:=@List.append_assoc
def WI:=@PySem.wpAny_setState_of
def Y1:=@Int.mul_neg_of_pos_of_neg
def XO:=@List.length_dropLast
def Y2:=@List.ne_nil_of_length_pos
def U3:=@Int.mul_pos
def V6:=@decide_eq_true
def WJ:=@List.nil_append
def Wk:=@List.nodup_cons
def Vw:=@Nat.ne_of_gt
def WZ:=@of_decide_eq_true
def Wl:=@PySem.wpAny_seqItems
def W4:=@List.append_nil
def Ym:=@Nat.pow_le_pow_right
def WK:=@PySem.wpAny_passesOwn
def Vx:=@Int.one_mul
def W5:=@Nat.lt_succ_self
def ZC:=@Classical.byContradiction
def ZD:=@Int.mul_pos_of_neg_of_neg
def ZE:=@List.sublist_append_right
def Yn:=@List.map_congr_left
def zBk:=@Int.mul_nonneg_of_nonpos_of_nonpos
def XQ:=@PySem.wpAny_newObj_type
def Y3:=@List.getElem?_eq_none
def V7:=@Nat.le_of_lt
def V8:=@Nat.zero_add
def W9:=@List.of_mem_zip
def Vy:=@Int.not_lt
def Y4:=@Nat.mul_le_mul_right
def XR:=@PySem.wpAny_execs_cons
def ZF:=@List.singleton_sublist
def ZG:=@List.take_of_length_le
def Y5:=@PySem.Heap.SameBut.update
def XS:=@List.length_set
def Yo:=@Bool.and_eq_true
def WL:=@Int.zero_mul
def Y6:=@Nat.lt_or_gt_of_ne
def Xa:=@Nat.lt_irrefl
def zB1:=@List.dropLast_concat_getLast
def Y7:=@Nat.lt_succ_of_lt
def Yp:=@List.mem_filter
def Yq:=@PySem.codeAny_builtin
def XT:=@List.map_nil
def Xb:=@Nat.pow_succ
def XU:=@Int.lt_irrefl
def Y8:=@Nat.le_of_not_lt
def Yr:=@PySem.Heap.size_push
def zCA:=@List.mem_iff_getElem?
def Ys:=@List.take_succ
def ZH:=@Nat.lt_of_le_of_lt
def ZI:=@PySem.wpAny_setField_rec
def zCE:=@List.getLastD_eq_getLast?
def XW:=@Int.mul_zero
def Y9:=@List.length_nil
def XX:=@Nat.succ_pos
def Za:=@PySem.wpAny_execs_nil
def ZJ:=@Int.lt_trichotomy
def ZK:=@List.mem_range'_1
def ZM:=@Nat.lt_trichotomy
def zCM:=@Int.mul_le_mul_of_nonneg_left
def zCN:=@List.getLast?_eq_some_getLast
def zCO:=@List.getElem_range'
def zCP:=@Nat.pow_le_pow_left
def zCQ:=@beq_eq_false_iff_ne
def Zb:=@Int.natAbs_mul
def ZN:=@List.mem_flatMap
def ZO:=@Nat.le_add_right
def ZP:=@PySem.wpAny_isInstance
def zCV:=@Array.getElem?_eq_none
def zCW:=@List.zipWith_cons_cons
def Xc:=@Nat.mod_lt
def zCY:=@List.append_of_mem
def Yt:=@Nat.lt_or_ge
def ZQ:=@Int.le_antisymm
def zCb:=@List.take_append_drop
def Zc:=@Int.dvd_trans
def Zd:=@List.sum_cons
def Ze:=@PySem.wpAny_attempt
def zCf:=@Bool.not_eq_true'
def zCg:=@List.nodup_append
def zCh:=@List.pairwise_map
def zCi:=@List.reverse_cons
def zCj:=@Nat.add_mod_right
def zCk:=@PySem.wpAny_truthy_bool
def zCl:=@List.exists_mem_of_ne_nil
def zCm:=@List.getElem?_zip_eq_some
def zCn:=@List.getLast?_eq_none_iff
def zCo:=@List.mem_of_mem_take
def XY:=@Nat.not_lt
def zCq:=@List.length_drop
def zCr:=@List.map_fst_zip
def zCs:=@List.length_pos_iff
def zCt:=@PySem.Heap.IsTupleIter.typeIs
def zCu:=@List.getElem?_replicate
def zCv:=@Bool.eq_iff_iff
def zCw:=@Int.dvd_coe_gcd
def zCx:=@List.length_zip
def zCy:=@List.mem_filterMap
def zCz:=@List.zip_cons_cons
def zC0:=@PySem.wpAny_specialOf
def zC1:=@PySem.wpAny_updateSeq
def zC2:=@Int.fmod_nonneg_of_pos
def zC3:=@List.getElem?_dropLast
def zC4:=@List.eq_nil_of_length_eq_zero
def zC5:=@List.flatMap_cons
def zC6:=@Nat.lt_of_succ_lt
def zC7:=@PySem.wpAny_Assign_Name
def zC8:=@Int.natAbs_dvd_natAbs
def zC9:=@List.length_singleton
def zDA:=@PySem.wpAny_setField
def zDB:=@Bool.or_eq_false_iff
def zDC:=@Int.gcd_mul_left
def zDD:=@Int.le_of_neg_le_neg
def zDE:=@List.all_eq_true
def zDF:=@List.lookup_cons
def zDG:=@List.pairwise_append
def zDH:=@Option.getD_some
def zDI:=@Array.perm_iff_toList_perm
def zDJ:=@PySem.plainId_quiet
def zDK:=@List.filterMap_cons
def zDL:=@Int.eq_of_mul_eq_mul_left
def zDM:=@List.cons.injEq
def zDN:=@List.getLast?_eq_getElem?
namespace L2
open PySem PySem.Spec PyProof.Rows
abbrev Key:=Sum Int Str
def nE:Key->Value->Bool
 |.inl k,v=>Value.isInt k v
 |.inr x,v=>Value.isStrOf x v
def OL(w:World):Key->Int
 |.inl k=>hashInt k
 |.inr x=>hashStr w x
def b9:∀{k:Key} {v:Value},nE k v=true->(∃i t,k=Sum.inl i/\v=Value.int i t)∨(∃x t,k=Sum.inr x/\v=Value.str x t)
 |.inl i,v,h=>by obtain⟨t,e⟩:=Value.isInt_shape (k:=i) (v:=v) h;exact .inl ⟨i,t,rfl,e⟩
 |.inr x,v,h=>by obtain⟨t,e⟩:=Value.isStrOf_shape (x:=x) (v:=v) h;exact .inr ⟨x,t,rfl,e⟩
def E3(i:Int)(t:Tok):nE (.inl i) (.int i t)=true:=by simp[nE,Value.isInt]
def E4(x:Str)(t:Tok):nE (.inr x) (.str x t)=true:=by simp[nE,Value.isStrOf]
def MN(a b:Int):decide ((Sum.inl a:Key)=Sum.inl b)=(a==b):=by lia
def MP(a b:Str):decide ((Sum.inr a:Key)=Sum.inr b)=decide (a=b):=by lia
def bZ(prog:Program)(w:World):PySem.KeyKind prog w Key where
 is:=nE
 hash:=OL w
 inj:=λv a b b a=>by
  rcases b9 b with⟨i,t,rfl,rfl⟩| ⟨x,t,rfl,rfl⟩
  ·rcases b9 a with⟨j,u,rfl,e⟩| ⟨y,u,rfl,e⟩
   all_goals lia
  ·rcases b9 a with⟨j,u,rfl,e⟩| ⟨y,u,rfl,e⟩
   all_goals lia
 byValue:=λk v h=>by
  rcases b9 h with⟨i,t,rfl,rfl⟩| ⟨x,t,rfl,rfl⟩<;>rfl
 pyHash:=λa h=>by
  rcases b9 a with⟨i,t,rfl,rfl⟩| ⟨x,t,rfl,rfl⟩;exact wpAny_pyHash_int h;exact wpAny_pyHash_str h
 eqBool:=λb a h=>by
  rcases b9 b with⟨i,t,rfl,rfl⟩| ⟨x,t,rfl,rfl⟩;rcases b9 a with⟨j,u,rfl,rfl⟩| ⟨y,u,rfl,rfl⟩;rw[MN]at h;exact wpAny_eqBool_int h;exact SeqAt.EqAt.int_str i t y u _ _ _ _ h;rcases b9 a with⟨j,u,rfl,rfl⟩| ⟨y,u,rfl,rfl⟩;exact SeqAt.EqAt.str_int x t j u _ _ _ _ h;rw[MP]at h;exact wpAny_eqBool_str h
 «strs»:=λk x t v h=>by
  rcases b9 h with⟨i,u,rfl,e⟩| ⟨y,u,rfl,e⟩
  lia
  injection e with e1 _;subst e1;cases v<;>rfl
def AM(prog:Program)(w:World)(i:Int)(t:Tok):(bZ prog w).is (.inl i) (.int i t)=true:=E3 i t
def AN(prog:Program)(w:World)(x:Str)(t:Tok):(bZ prog w).is (.inr x) (.str x t)=true:=E4 x t
inductive V where
 |Qe|bl (b:Bool)|int (i:Int)|str (x:Str)|Xd (b:Array UInt8)|flt (b:UInt64)|ref (a:Addr)|ty (n:String)
 deriving DecidableEq
abbrev yar:=List V
def RelV:V->Value->Prop
 |.Qe,u=>u=Value.none
 |.bl b,u=>u=Value.bool b
 |.int i,u=>∃t,u=Value.int i t
 |.str x,u=>∃t,u=Value.str x t
 |.Xd b,u=>∃t,u=Value.bytes b t
 |.flt b,u=>∃t,u=Value.float b t
 |.ref a,u=>u=Value.ref a
 |.ty n,u=>u=Value.type n
abbrev Vals:yar->yad->Prop:=Paired RelV
theorem Vals.length(r:Vals xs us):xs.length=us.length:=Paired.length r
theorem Vals.get:∀{xs:yar} {a:yad} {i:Nat} {x:V},Vals xs a->xs[i]?=some x->∃u,a[i]?=some u/\RelV x u
 |_,_,_,_,.nil,e=>by simp at e
 |_,_,0,_,.cons r _,e=>by simp at e;subst e;exact⟨_,rfl,r⟩
 |_,_,i+1,x,.cons _ t,e=>by obtain⟨u,b,a⟩:=Vals.get (i:=i) (x:=x) t (by simpa using e);exact⟨u,by simpa using b,a⟩
theorem Vals.append:∀{xs ys:yar} {a ws:yad},Vals xs a->Vals ys ws->Vals (xs++ys) (a++ws)
 |_,_,_,_,.nil,s=>s
 |_,_,_,_,.cons r t,s=>.cons r (Vals.append t s)
theorem Vals.take:∀{xs:yar} {a:yad} (n:Nat),Vals xs a->Vals (xs.take n) (a.take n)
 |_,_,0,_=>.nil
 |_,_,_+1,.nil=>.nil
 |_,_,n+1,.cons r t=>.cons r (Vals.take n t)
theorem Vals.drop:∀{xs:yar} {a:yad} (n:Nat),Vals xs a->Vals (xs.drop n) (a.drop n)
 |_,_,0,r=>r
 |_,_,_+1,.nil=>.nil
 |_,_,n+1,.cons _ t=>Vals.drop n t
def Vals.none_of:∀{xs:yar} {a:yad} {i:Nat},Vals xs a->xs[i]?=none->a[i]?=none:=fun {xs a i} r e=>by
 have b:=r.length
 simp_all
def jB:Option V->yan->Prop
 |some v,some u=>RelV v u
 |none,none=>True
 |_,_=>False
def KV{a:Type}:List (a×V)->List (a×Value)->Prop:=Paired λ(p:a×V) (q:a×Value)=>p.1=q.1/\RelV p.2 q.2
def kV:Key->V
 |.inl i=>.int i
 |.inr x=>.str x
inductive HO where
 |lst (xs:yar)
 |tup (xs:yar)
 |dK (kvs:List (Key×V))|dT (kvs:List (List Key×V))
 |set (S:Int->Bool) (n:Nat)
 |ins (C dx:Addr) (fs:List (Str×V))
 |own (x:Addr)
 |xd (fs:List (Str×V))
 |met (f x:Addr)
 |rng (lo hi:Int)
 |frz (o:Obj) (u:HO)
 |U4 (ps:yao)
 |ext (φ:Heap->Prop)
abbrev Hp:=Addr->Option HO
def upd(H:Hp)(a:Addr)(o:HO):Hp:=λb=>if b=a then some o else H b
theorem aJ:upd H a o a=some o:=by unfold upd;lia
theorem aC{a b:Addr}(h:b≠a):upd H a o b=H b:=by unfold upd;lia
def qP{H:Hp}{o u:HO}(h:H a=some o)(h':H b=some u)(d:o≠u):a≠b:=by lia
def aT{H:Hp}{o:HO}(h:H a=some o)(h':H b=none):a≠b:=by lia
section
variable(P:Program)(w:World)
def bN(H:Hp)(h:Heap)(a:Addr):HO->Prop
 |.lst c=>c.length<=sizeLine/\∃(b:yad) (n:Nat),Vals c b/\h.get? a=some {cls:=.type "list", data:=.seq b.toArray n}
 |.tup c=>c.length<=sizeLine/\∃b:yad,Vals c b/\IsTup h a b.toArray
 |.dK b=>b.length<=sizeLine/\(a==sysModules)=false/\∃d,KV b d/\h.DictOf (bZ P w) a d
 |.dT b=>b.length<=sizeLine/\(a==sysModules)=false/\∃c:List (List Key×Addr×Value),
   Paired (λ(p:List Key×V) (q:List Key×Addr×Value)=>p.1=q.1/\H q.2.1=some (.tup (p.1.map kV))/\RelV p.2 q.2.2) b c ∧
   ∃ o b d,h.get? a=some o/\o.ExactDict/\o.data=.dict b d/\b.toList=c.map (entryOfKey (tupleKind (bZ P w)))/\(c.map (·.1)).Nodup
 |.set S n=>h.SetOf (intKind P w) a S n
 |.ins C d c=>H d=some (.own a)/\c.length<=1000/\d≠a/\h.get? a=some (PySem.W.instObj C d) ∧
   ∃ b,h.Ns1 d b/\(∀f,jB (c.lookup f) (b f))/\PySem.Within b (c.map (·.1))
 |.own _=>∃o,h.get? a=some o
 |.xd c=>∃b,h.Ns1 a b/\∀f,jB (c.lookup f) (b f)
 |.rng lo b=>∃t u v,h.get? a=some {cls:=.type "range", data:=.fields #[.int lo t,.int b u,.int 1 v]}
 |.frz o u=>h.get? a=some o/\bN H h a u
 |.U4 b=>h.get? a=some {cls:=.none,data:=.fields b}
 |.met f x=>h.get? a=some (PySem.W.methodObj (.ref f) (.ref x))
 |.ext b=>b h/\(∃o,h.get? a=some o)/\∀d c:Heap,b d->(∀o,d.get? a=some o->c.get? a=some o)->b c
def R8(H:Hp)(h:Heap):Prop:=∀a o,H a=some o->bN P w H h a o
end
section
variable{P:Program}{w:World}{H H':Hp}{h h':Heap}{a:Addr}{o:HO}
theorem bN.lt(x:bN P w H h a o):a<h.objs.size:=by
 cases o with
 |lst b=>obtain⟨_,_,_,_,e⟩:=x;exact Qp e
 |tup b=>obtain⟨_,_,_,p⟩:=x;exact p.lt
 |dK b=>obtain⟨_,_,_,_,o,_,_,e,_⟩:=x;exact Qp e
 |dT b=>obtain⟨_,_,_,_,o,_,_,e,_⟩:=x;exact Qp e
 |set S n=>obtain⟨o,_,_,_,e,_⟩:=x;exact Qp e
 |ins C i b=>obtain⟨_,_,_,e,_⟩:=x;exact Qp e
 |own y=>obtain⟨_,e⟩:=x;exact Qp e
 |xd b=>obtain⟨_,⟨_,_,_,e,_⟩,_⟩:=x;exact Qp e
 |rng lo g=>obtain⟨_,_,_,e⟩:=x;exact Qp e
 |frz ob u=>obtain⟨e,_⟩:=x;exact Qp e
 |U4 d=>exact Qp (show h.get? a=some _ from x)
 |met f y=>exact Qp (show h.get? a=some _ from x)
 |ext c=>obtain⟨_,⟨_,e⟩,_⟩:=x;exact Qp e
theorem Paired.ZR{d c:Type}{F G:d->c->Prop}:∀{l₁:List d} {l₂:List c},Paired F l₁ l₂->(∀a b,F a b->G a b)->Paired G l₁ l₂
 |_,_,.nil,_=>.nil
 |_,_,.cons r t,f=>.cons (f _ _ r) (Paired.ZR t f)
def bN.S9(x:bN P w H h a o)(k:∀b u,(b=a∨H b=some (.own a))->h.get? b=some u->h'.get? b=some u)
  (m:∀b,H b=some (.own a)->H' b=some (.own a)) (j:∀b xs,H b=some (.tup xs)->H' b=some (.tup xs)):bN P w H' h' a o:=by
 induction o with
 |lst xs=>obtain⟨z,d,n,r,e⟩:=x;exact⟨z,d,n,r,k _ _ (.inl rfl) e⟩
 |tup xs=>obtain⟨z,d,r,b,e,c⟩:=x;exact⟨z,d,r,b,k _ _ (.inl rfl) e,c⟩
 |dK d=>obtain⟨z,y,i,r,b,f,g,e,c⟩:=x;exact⟨z,y,i,r,b,f,g,k _ _ (.inl rfl) e,c⟩
 |dT d =>
  obtain⟨z,y,xs,r,b,f,g,e,c⟩:=x;exact⟨z,y,xs,Paired.ZR r λp q z=>⟨z.1,j _ _ z.2.1,z.2.2⟩,b,f,g,k _ _ (.inl rfl) e,c⟩
 |set S n=>obtain⟨b,f,g,t,e,c⟩:=x;exact⟨b,f,g,t,k _ _ (.inl rfl) e,c⟩
 |ins C E n =>
  obtain⟨d,z,l,e,j,⟨i,f,g,s,c⟩,r⟩:=x;exact⟨m _ d,z,l,k _ _ (.inl rfl) e,j,⟨i,f,g,k _ _ (.inr d) s,c⟩,r⟩
 |own y=>obtain⟨b,e⟩:=x;exact⟨b,k _ _ (.inl rfl) e⟩
 |xd n=>obtain⟨j,⟨i,f,g,e,c⟩,r⟩:=x;exact⟨j,⟨i,f,g,k _ _ (.inl rfl) e,c⟩,r⟩
 |rng lo B=>obtain⟨t,u,v,e⟩:=x;exact⟨t,u,v,k _ _ (.inl rfl) e⟩
 |frz b u ih=>obtain⟨e,q⟩:=x;exact⟨k _ _ (.inl rfl) e,ih q⟩
 |U4 b =>
  have e:h.get? a=some {cls:=.none,data:=.fields b}:=x;show h'.get? a=some {cls:=.none,data:=.fields b};exact k a _ (.inl rfl) e
 |met f y =>
  have e:h.get? a=some (PySem.W.methodObj (.ref f) (.ref y)):=x;show h'.get? a=some (PySem.W.methodObj (.ref f) (.ref y));exact k a _ (.inl rfl) e
 |ext A=>obtain⟨p,⟨o,e⟩,st⟩:=x;exact⟨st _ _ p λo q=>k _ _ (.inl rfl) q,⟨o,k _ _ (.inl rfl) e⟩,st⟩
theorem R8.lt(x:R8 P w H h)(e:H a=some o):a<h.objs.size:=(x a o e).lt
def R8.fresh(x:R8 P w H h)(e:h.objs.size<=a):H a=none:=by
 cases q:H a with
 |none=>rfl
 |some u=>exact absurd (R7 (x.lt q) e) (Xa _)
def R8.kept(x:R8 P w H h)(k:∀b u,h.get? b=some u->h'.get? b=some u):R8 P w H h':=λa o e =>
 (x a o e).S9 (λb u _ q=>k b u q) (λ_ q=>q) λ_ _ q=>q
def R8.laid(x:R8 P w H h)(k:∀b u,h.get? b=some u->h'.get? b=some u)(c:h.objs.size<=a)(f:bN P w (upd H a o) h' a o):R8 P w (upd H a o) h':=λb u e=>by have d:=x.fresh c;by_cases c:b=a;grind [aJ];rw[aC c]at e;exact(x b u e).S9 (λc v _ q=>k c v q) (λc q=>by rw[aC (aT q d)];exact q) λc g q=>by rw[aC (aT q d)];exact q
end
def Rd(H:Hp)(a:Addr)(u:HO):Prop:=H a=some u∨∃ o,H a=some (.frz o u)
def Rd.ok(r:Rd H a u)(x:R8 P w H h):bN P w H h a u:=by
 rcases r with r|⟨o,r⟩;exact x a u r;obtain⟨_,q⟩:=x a _ r;exact q
def Mut:Option HO->Prop
 |some (.lst _)=>True
 |some (.dK _)=>True
 |some (.dT _)=>True
 |some (.set _ _)=>True
 |some (.ins _ _ _)=>True
 |some (.ext _)=>True
 |_=>False
section
variable{P:Program}{w:World}{H:Hp}{h h':Heap}{x e:Addr}{o':HO}
def R8.write(j:R8 P w H h)(a:Mut (H x))(o:e=x∨H e=some (.own x))(k:∀b u,b≠e->h.get? b=some u->h'.get? b=some u)(d:∃u,h'.get? e=some u)
  (l:bN P w (upd H x o') h' x o'):R8 P w (upd H x o') h':=λb u q=>by
 have i:∀c y,H c=some (.own y)->c≠x:=λc y r z=>by subst z;rw[r]at a;exact a
 have g:∀c f,H c=some (.tup f)->c≠x:=λc f r z=>by subst z;rw[r]at a;exact a
 by_cases a:b=x;grind [aJ];rw[aC a]at q;by_cases m:b=e;have a:H b=some (.own x):=by lia
 rw[q]at a;cases a;obtain⟨v,n⟩:=d;exact⟨v,by lia⟩;refine(j b u q).S9 (λc v p r=>k c v ?_ r) (by grind [aC]) (by grind [aC]);grind
end
structure Un(fs ex:yae)(H H':Hp)(h h':Heap):Prop where
 keep:∀b o,h.get? b=some o->H b=none->b∉fs->b∉ex->h'.get? b=some o
 slot:∀b o,h.get? b=some o->H b=none->b∈fs->b∉ex->∃sl,h'.get? b=some {o with slots:=sl}
 free:∀b o,h.get? b=some o->H b=none->b∉ex->H' b=none
 there:∀b o,h.get? b=some o->b∉ex->∃o',h'.get? b=some o'
 TF:∀b xs,H b=some (.tup xs)->H' b=some (.tup xs)
 Ts:∀b o u,H b=some (.frz o u)->H' b=some (.frz o u)
 TH:∀b ps,H b=some (.U4 ps)->∃more,H' b=some (.U4 (ps++more))
section
variable{fs fs' ex ex':yae}{H H1 H2:Hp}{h h1 h2 h':Heap}{a x e:Addr}{o:HO}
def Un.any(u:Un fs ex H H1 h h1){ob:Obj}(q:h.get? b=some ob)(n:H b=none)(c:b∉ex):∃d,h1.get? b=some {ob with slots:=d}:=by by_cases d:b∈fs;exact u.slot b ob q n d c;exact⟨ob.slots,u.keep b ob q n d c⟩
def Un.kept(k:∀b u,h.get? b=some u->h'.get? b=some u):Un fs ex H H h h' :=
 ⟨λb c q _ _ _=>k b c q,λb c q _ _ _=>⟨c.slots,k b c q⟩,λ_ _ _ n _=>n,λb c q _=>⟨c,k b c q⟩,λ_ _ q=>q,λ_ _ _ q=>q,λ_ d q=>⟨#[],by rw[q];simp⟩⟩
def Un.refl:Un fs ex H H h h:=Un.kept λ_ _ q=>q
def Un.laid(k:∀b u,h.get? b=some u->h'.get? b=some u)(d:h.objs.size<=a)(c:H a=none):Un fs ex H (upd H a o) h h' where
 keep:=λb u q _ _ _=>k b u q
 slot:=λb u q _ _ _=>⟨u.slots,k b u q⟩
 free:=λb u q n _=>by rw[aC (QU (R7 (Qp q) d))];exact n
 there:=by grind
 TF:=λb d q=>by rw[aC (aT q c)];exact q
 Ts:=λb u d q=>by rw[aC (aT q c)];exact q
 TH:=λb f q=>⟨#[],by rw[aC (aT q c),q];simp⟩
def Un.write(c:Mut (H x))(j:e=x∨H e=some (.own x))(k:∀b u,b≠e->h.get? b=some u->h'.get? b=some u)(f:∃u,h'.get? e=some u):Un fs ex H (upd H x o) h h':=by
 have i:∀b,H b=none->b≠x:=λb n z=>by subst z;rw[n]at c;exact c
 have d:∀b,H b=none->b≠e:=by lia
 have c:∀b u,H b=some u->¬Mut (some u)->b≠x:=by lia
 refine⟨λb u q n _ _=>k b u (d b n) q,λb u q n _ _=>⟨u.slots,k b u (d b n) q⟩,by grind [aC],λb u q _=>?_,
  λb d q=>by rw[aC (c b _ q λz=>z)];exact q,λb u d q=>by rw[aC (c b _ q λz=>z)];exact q,λb g q=>⟨#[],by rw[aC (c b _ q λz=>z),q];simp⟩⟩
 grind
end
noncomputable def trk(h:Heap)(H:Hp):yae:=(List.range h.objs.size).filter λa=>(H a).isSome
def nA(h:Heap)(H:Hp):Heap:=PySem.W.hideAll h (trk h H)
def ES(h:Heap)(H:Hp):(nA h H).objs.size=h.objs.size:=PySem.W.hideAll_size _ _
def Hm{h:Heap}{H:Hp}{o:Obj}(e:h.get? b=some o)(n:H b=none):(nA h H).get? b=some o :=
 PySem.W.hideAll_get _ e λa=>by have q:(H b).isSome=true:=(Yp.mp a).2;rw[n]at q;simp at q
def Kk{o:Obj}(e:(nA h H).get? b=some o):h.get? b=some o/\H b=none:=by
 have a:h.get? b=some o:=PySem.W.of_hideAll (trk h H) e;refine⟨a,?_⟩;cases q:H b with
 |none=>rfl
 |some x =>
  have c:b∈trk h H:=Yp.mpr ⟨U2.mpr (Qp a),by simp[q]⟩;have z:(nA h H).get? b=none:=PySem.W.hideAll_none (trk h H) c
  lia
noncomputable def Jw(g h:Heap)(L:Addr):yab:=(List.range h.objs.size).filterMap λa=>if a=L∨(g.get? a).isSome=true then none else(h.get? a).map λo=>(a,o)
def rest(g h:Heap)(L d:Addr):yab:=(Jw g h L).filter λp=>decide (p.1≠d)
structure Mod(K:yac)(mg:yam)(base:Heap):Prop where
 Zf:K.In base
 glob:base.Ns mainGlobals mg
 blt:∃mb,base.Ns builtinsNs mb/\∀x:Str,x ≠ "__name__" -> mb x=bootBuiltins x
 nolimit:base.NoLimit
structure Cx where
 prog:Program
 w:World
 K:yac
 mg:yam
 base:Heap
 A:Around
 N:yah
 P7:Shared
 Qj:Hp
 env:Env
 outer:List Env
 stack:List Env
 ex:yae
 fn:Str->Bool
 calm:Bool
 pn:yab
 xe:yaa
noncomputable def Ue(l:List Env):yae:=l.filterMap (·.frame)
abbrev Cx.fs(X:Cx):yae:=Ue X.outer
def WM(a:Scope)(x:Str):Prop:=a.names.lookup x=some .local∨a.names.lookup x=some .cell∨a.names.lookup x=some .free
def Loc(a:Scope)(x:Str):Prop:=a.names.lookup x=some .local∨a.names.lookup x=some .cell
def Look(env:Env)(h:Heap)(m:yam)(x:Str)(u:Value):Prop :=
 (env.kindOf x=some .local/\m x=some u)∨((env.kindOf x=some .cell∨env.kindOf x=some .free)/\∃c,env.cells.lookup x=some c/\h.IsCell c (some u))
structure Cx.Ok(X:Cx):Prop where
 mod:Mod X.K X.mg X.base
 kind:X.env.scope.kind=.function
 glob:X.env.globals=mainGlobals
 blt:X.env.builtins=builtinsNs
 above:X.P7.heap.objs.size<=X.env.locals
 inj:∀x y c,X.env.cells.lookup x=some c->X.env.cells.lookup y=some c->x=y
 has:∀x,(X.env.kindOf x=some .cell∨X.env.kindOf x=some .free)->∃c,X.env.cells.lookup x=some c
 WN:∀x c,X.fn x=true->X.env.cells.lookup x=some c->X.P7.heap.objs.size<=c
 hd:X.calm=true->X.A.handled=none
 frames:X.A.frames=some X.stack
 stk:X.stack=X.outer∨(X.stack=X.env::X.outer/\X.env.frame=some X.env.locals)
 exf:∀b∈X.ex,b≠X.env.locals/\∀x c,X.env.cells.lookup x=some c->c≠b
 bs:∀b o,X.base.get? b=some o->X.P7.heap.get? b=some o/\X.Qj b=none
 Zg:X.base.objs.size<=X.P7.heap.objs.size
 VG:∀b o,X.base.get? b=some o->b∉X.ex
 Xe:∀b∈X.ex,b∉X.fs
 Ta:X.P7.heap.FunFrames X.base X.outer
 Zh:∀b∈X.fs,X.Qj b=none
structure Inv(X:Cx)(pins:yab)(σ:List (Option V))(H:Hp)(s:Shared):Prop where
 ok:X.Ok
 os:s.os=X.P7.os
 bare:AllBare s.gens
 base:Un X.fs X.ex X.Qj H X.P7.heap s.heap
 loc:∃m,s.heap.Ns X.env.locals m/\∀(i:Nat) (x:Str) (v:V),X.N[i]?=some x->σ[i]?=some (some v)->WM X.env.scope x->∃u,RelV v u/\Look X.env s.heap m x u
 cell:∀x c,X.env.cells.lookup x=some c->∃v,s.heap.IsCell c v
 free:H X.env.locals=none
 Rx:∀x c,X.env.cells.lookup x=some c->H c=none
 pin:∀p∈X.pn++pins,s.heap.get? p.1=some p.2/\H p.1=none/\p.1≠X.env.locals/\p.1∉X.fs/\∀v,p.2.data ≠ .cell v
 PW:R8 X.prog X.w H s.heap
 len:σ.length=X.N.length
section
variable{X:Cx}{pins:yab}{σ:List (Option V)}{H H':Hp}{s:Shared}{h':Heap}
def Cx.Ok.nofr(a:X.Ok){o:Obj}(e:X.base.get? b=some o):b∉X.fs:=λb=>by
 have:=(a.Ta.mem b).1
 lia
theorem Inv.bs(I:Inv X pins σ H s):∀b o,X.base.get? b=some o->s.heap.get? b=some o/\H b=none:=λb o e =>
 ⟨I.base.keep b o (I.ok.bs b o e).1 (I.ok.bs b o e).2 (I.ok.nofr e) (I.ok.VG b o e),I.base.free b o (I.ok.bs b o e).1 (I.ok.bs b o e).2 (I.ok.VG b o e)⟩
def Inv.bk(I:Inv X pins σ H s):∀b o,X.base.get? b=some o->s.heap.get? b=some o:=λb o e=>(I.bs b o e).1
theorem Inv.mod(I:Inv X pins σ H s):Mod X.K X.mg X.base:=I.ok.mod
def Inv.Ug(I:Inv X pins σ H s):X.K.In s.heap:=I.ok.mod.Zf.keeps I.bk
theorem Inv.lt(I:Inv X pins σ H s):X.env.locals<s.heap.objs.size:=let ⟨_,hn,_⟩:=I.loc;hn.lt
def Inv.sz(I:Inv X pins σ H s):X.P7.heap.objs.size<=s.heap.objs.size:=QM I.ok.above (V7 I.lt)
def Inv.nofs(I:Inv X pins σ H s){a:Addr}(h:s.heap.objs.size<=a):a∉X.fs:=λb=>by obtain⟨_,o,a,_⟩:=I.ok.Ta.mem b;exact absurd (R7 (Qp a) (QM I.sz h)) (Xa _)
def Inv.Yu(I:Inv X pins σ H s):∀x c,X.env.cells.lookup x=some c->c≠X.env.locals:=λx c e z=>by
 obtain⟨v,o,b,d⟩:=I.cell x c e;obtain⟨m,⟨a,f,g,VH,U5,_⟩,_⟩:=I.loc
 lia
theorem Inv.Ta(I:Inv X pins σ H s):s.heap.FunFrames X.base X.outer:=by
 have c:∀(l:List Env),(∀b∈Ue l,b∈X.fs)->X.P7.heap.FunFrames X.base l->s.heap.FunFrames X.base l:=by
  intro l
  induction l with
  |nil=>intro _ _;trivial
  |cons m r ih =>
   intro d a;obtain⟨j,⟨L,o,f,i,h,k⟩,g⟩:=a;have a:L∈X.fs:=d L (by unfold Ue;simp_all);obtain⟨n,e⟩:=I.base.slot L o h (I.ok.Zh L a) a λz=>I.ok.Xe L z a
   exact⟨j,⟨L,_,f,i,e,k⟩,ih (λb a=>d b (by unfold Ue;rw[zDK,f];exact R4 _ a)) g⟩
 exact c X.outer (λ_ a=>a) I.ok.Ta
theorem Inv.stack(I:Inv X pins σ H s):s.heap.FunFrames X.base X.stack:=by
 rcases I.ok.stk with e|⟨e,b⟩;rw[e];exact I.Ta;rw[e];obtain⟨m,a,_⟩:=I.loc;refine .cons (by rw[I.ok.kind];decide) b a ?_ I.Ta;exact Heap.get?_none_of_le (QM I.ok.Zg I.ok.above)
def Inv.TJ(I:Inv X pins σ H s):∀b∈Ue X.stack,b∈X.env.locals::X.fs:=λb a=>by
 rcases I.ok.stk with e|⟨e,b⟩;rw[e]at a;exact R4 _ a;rw[e]at a;unfold Ue at a;rw[zDK,b]at a;exact a
def Inv.UL(I:Inv X pins σ H s):∀b∈Ue X.stack,H b=none:=λb hb=>by
 rcases Qg.mp (I.TJ b hb)with e|hb;rw[e];exact I.free;obtain⟨_,o,a,_⟩:=I.ok.Ta.mem hb;exact I.base.free b o a (I.ok.Zh b hb) λz=>I.ok.Xe b z hb
def Inv.step{t':Nat}{d':Drawn}{ch:yae}(I:Inv X pins σ H s)
  (y:∀b∈ch,(b∈X.ex∨X.P7.heap.objs.size<=b)/\b≠X.env.locals/\(∀x c,X.env.cells.lookup x=some c->c≠b)/\∀p∈X.pn++pins,p.1≠b)
  (g:∀b o,b≠X.env.locals->b∉X.fs->b∉ch->s.heap.get? b=some o->H b=none->h'.get? b=some o)
  (i:∀b o,b≠X.env.locals->b∈X.fs->b∉ch->s.heap.get? b=some o->H b=none->∃j,h'.get? b=some {o with slots:=j}) (f:∀b o,b∉ch->s.heap.get? b=some o->H b=none->H' b=none)
  (k:∀b o,b∉ch->s.heap.get? b=some o->∃r,h'.get? b=some r)
  (J:∀b xs,H b=some (.tup xs)->H' b=some (.tup xs)) (E:∀b o u,H b=some (.frz o u)->H' b=some (.frz o u)) (G:∀b ps,H b=some (.U4 ps)->∃a,H' b=some (.U4 (ps++a)))
  (ns:∀m,s.heap.Ns X.env.locals m->h'.Ns X.env.locals m) (L:R8 X.prog X.w H' h') (B:AllBare g') :
  Inv X pins σ H' {s with heap:=h',gens:=g',drawn:=d',toks:=t'}:=by
 have w:∀b o,X.P7.heap.get? b=some o->b≠X.env.locals:=λb o e=>QU (R7 (Qp e) I.ok.above)
 have h:∀b o,X.P7.heap.get? b=some o->b∉X.ex->b∉ch:=λb o e a l=>by
  rcases(y b l).1 with z|z;exact a z;exact absurd (R7 (Qp e) z) (Xa _)
 have d:∀x c,X.env.cells.lookup x=some c->∀v,s.heap.IsCell c v->h'.IsCell c v:=λx c e v ⟨o,t,C⟩=>by
  have A:c∉ch:=λz=>(y c z).2.2.1 x c e rfl
  by_cases n:c∈X.fs;obtain⟨j,q⟩:=i c o (I.Yu x c e) n A t (I.Rx x c e);exact⟨_,q,C⟩;exact⟨o,g c o (I.Yu x c e) n A t (I.Rx x c e),C⟩
 refine⟨I.ok,I.os,B,⟨λb o e n l a=>?_,λb o e n l a=>?_,λb o e n a=>?_,λb o e a=>?_,λb xs e=>J b xs (I.base.TF b xs e),λb o xs e=>E b o xs (I.base.Ts b o xs e),λb ps e=>?_⟩,?_,λx c e=>?_,?_,λx c e=>?_,λp E=>?_,L,I.len⟩;exact g b o (w b o e) l (h b o e a) (I.base.keep b o e n l a) (I.base.free b o e n a);obtain⟨j,j⟩:=I.base.slot b o e n l a;obtain⟨B,q⟩:=i b _ (w b o e) l (h b o e a) j (I.base.free b o e n a);exact⟨B,q⟩;obtain⟨r,j⟩:=I.base.there b o e a;exact f b r (h b o e a) j (I.base.free b o e n a);obtain⟨r,j⟩:=I.base.there b o e a;exact k b r (h b o e a) j;obtain⟨h,j⟩:=I.base.TH b ps e;obtain⟨a,q⟩:=G b _ j;exact⟨h++a,by rw[q,Array.append_assoc]⟩;obtain⟨m,a,b⟩:=I.loc;refine⟨m,ns m a,λi x v j q a=>?_⟩;obtain⟨u,r,l⟩:=b i x v j q a;refine⟨u,r,?_⟩;rcases l with l|⟨k,c,e,z⟩;exact .inl l;exact .inr ⟨k,c,e,d x c e _ z⟩;obtain⟨v,z⟩:=I.cell x c e;exact⟨v,d x c e v z⟩;obtain⟨m,⟨o,_,_,t,_⟩,_⟩:=I.loc;exact f _ o (λz=>(y _ z).2.1 rfl) t I.free;obtain⟨v,o,t,C⟩:=I.cell x c e;exact f c o (λz=>(y c z).2.2.1 x c e rfl) t (I.Rx x c e);obtain⟨e,n,b,a,d⟩:=I.pin p E;have A:p.1∉ch:=λz=>(y p.1 z).2.2.2 p E rfl
 exact⟨g p.1 p.2 b a A e n,f p.1 p.2 A e n,b,a,d⟩
def Inv.un{t':Nat}(I:Inv X pins σ H s)(u:Un X.fs [] H H' s.heap h')(h:R8 X.prog X.w H' h'):Inv X pins σ H' {s with heap:=h',toks:=t'}:=by
 obtain⟨m,⟨o,l,p,c,r⟩,_⟩:=id I.loc;obtain⟨i,f⟩:=u.any c I.free (by simp);exact I.step (g':=s.gens) (d':=s.drawn) (ch:=[]) (λ_ z=>nomatch z) (λb o _ a _ e n=>u.keep b o e n a (by simp)) (λb o _ a _ e n=>u.slot b o e n a (by simp)) (λb o _ e n=>u.free b o e n (by simp)) (λb o _ e=>u.there b o e (by simp)) u.TF u.Ts u.TH (λk e=>by obtain⟨j,g,a,b,d⟩:=e;rw[c]at b;cases b;exact⟨_,g,a,f,d⟩) h I.bare
def Inv.call{t':Nat}{d':Drawn}(I:Inv X pins σ H s)(u:Un (Ue X.stack) ch H H' s.heap h')(i:R8 X.prog X.w H' h')(g:AllBare g')
  (a:∀b∈ch,(b∈X.ex∨X.P7.heap.objs.size<=b)/\b≠X.env.locals/\(∀x c,X.env.cells.lookup x=some c->c≠b)/\∀p∈X.pn++pins,p.1≠b) :
  Inv X pins σ H' {s with heap:=h',gens:=g',drawn:=d',toks:=t'}:=by
 obtain⟨m,⟨o,q,t,d,r⟩,_⟩:=id I.loc;obtain⟨j,c⟩:=u.any d I.free λz=>(a _ z).2.1 rfl
 exact I.step (ch:=ch) a (λb o c f a e n=>u.keep b o e n (λz=>(Qg.mp (I.TJ b z)).elim c f) a) (λb o _ _ a e n=>u.any e n a) (λb o a e n=>u.free b o e n a) (λb o a e=>u.there b o e a) u.TF u.Ts u.TH (λl f=>by obtain⟨k,h,a,b,e⟩:=f;rw[d]at b;cases b;exact⟨_,h,a,c,e⟩) i g
def Inv.turned{t':Nat}{a:Addr}(I:Inv X pins σ H s)(k:∀b o,b≠a->s.heap.get? b=some o->h'.get? b=some o)(d:H a=none)(g:a≠X.env.locals)
  (q:a∈X.ex∨X.P7.heap.objs.size<=a) (l:∀x c,X.env.cells.lookup x=some c->c≠a) (j:∀p∈X.pn++pins,p.1≠a):Inv X pins σ H {s with heap:=h',toks:=t'}:=by
 have f:∀b u,H b=some u->b≠a:=λb u e z=>by rw[z,d]at e;cases e
 refine I.step (g':=s.gens) (d':=s.drawn) (ch:=[a]) (λb i=>?_) (λb o _ _ d e _=>k b o (λz=>d (by simp[z])) e) (λb o _ _ d e _=>⟨o.slots,k b o (λz=>d (by simp[z])) e⟩) (λ_ _ _ _ n=>n)
  (λb o d e=>⟨o,k b o (λz=>d (by simp[z])) e⟩) (λ_ _ e=>e) (λ_ _ _ e=>e) (λb t e=>⟨#[],by rw[e];simp⟩) (λm h=>?_) (λb u e=>?_) I.bare
 have e:b=a:=by simpa using i
 subst e;exact⟨q,g,l,j⟩;obtain⟨o,i,j,a,r⟩:=h;exact⟨o,i,j,k _ o (Ne.symm g) a,r⟩;refine(I.PW b u e).S9 (λc v d q=>k c v ?_ q) (λ_ q=>q) λ_ _ q=>q
 rcases d with z|z;rw[z];exact f b u e;exact f c _ z
def Inv.tok(I:Inv X pins σ H s)(t:Nat):Inv X pins σ H {s with toks:=t}:=I.un (h':=s.heap) (t':=t) Un.refl I.PW
theorem Inv.kept{t':Nat}(I:Inv X pins σ H s)(k:∀b u,s.heap.get? b=some u->h'.get? b=some u):Inv X pins σ H {s with heap:=h',toks:=t'}:=I.un (Un.kept k) (I.PW.kept k)
theorem Inv.laid{a:Addr}{t':Nat}(I:Inv X pins σ H s)(k:∀b u,s.heap.get? b=some u->h'.get? b=some u)(d:s.heap.objs.size<=a)(c:bN X.prog X.w (upd H a o) h' a o) :
  Inv X pins σ (upd H a o) {s with heap:=h',toks:=t'}:=I.un (Un.laid k d (I.PW.fresh d)) (I.PW.laid k d c)
theorem Inv.write{e:Addr}{t':Nat}(I:Inv X pins σ H s)(d:Mut (H x))(f:e=x∨H e=some (.own x))(k:∀b u,b≠e->s.heap.get? b=some u->h'.get? b=some u)(a:∃u,h'.get? e=some u)
  (c:bN X.prog X.w (upd H x o) h' x o):Inv X pins σ (upd H x o) {s with heap:=h',toks:=t'}:=I.un (Un.write d f k a) (I.PW.write d f k a c)
def Inv.V9{a:yab}(I:Inv X pins σ H s)(h:∀p∈a,s.heap.get? p.1=some p.2/\H p.1=none/\p.1≠X.env.locals/\p.1∉X.fs/\∀v,p.2.data ≠ .cell v):Inv X a σ H s :=
 ⟨I.ok,I.os,I.bare,I.base,I.loc,I.cell,I.free,I.Rx,λp a=>(RH.mp a).elim (λz=>I.pin p (Vu _ z)) (h p),I.PW,I.len⟩
def sA{N:yah}(c:N.Nodup){i j:Nat}{x:Str}(a:N[i]?=some x)(b:N[j]?=some x):i=j:=by obtain⟨f,d⟩:=RQ.mp a;obtain⟨e,a⟩:=RQ.mp b;exact(List.getElem_inj c).mp (d.trans a.symm)
def xc{i:Nat}{x:Str}{Q:Unit->Shared->Prop}(I:Inv X pins σ H s)(hN:X.N.Nodup)(L:X.N[i]?=some x)(t:Loc X.env.scope x)(r:RelV v u)
  (h:∀b,Inv X pins (σ.set i (some v)) H b->(∃a,Heap.SameBut a s.heap b.heap/\(a=X.env.locals∨X.env.cells.lookup x=some a))->Q () b) (G:X.fn x=true∨X.env.scope.names.lookup x=some .local:=by first|exact .inl rfl|exact .inr rfl|assumption):wpAny M A (storeName X.env x u) Q E s:=by
 obtain⟨m,hn,hl⟩:=id I.loc;have d:(X.env.scope.kind==.class || (X.env.scope.kind==.module && X.env.locals != X.env.globals))=false:=by rw[I.ok.kind];rfl
 have A:i<σ.length:=by rw[I.len];exact(RQ.mp L).1
 have Yu:=I.Yu;have f:∀{a:Addr} {h':Heap},(∃o,s.heap.get? a=some o/\H a=none)->Heap.SameBut a s.heap h'->R8 X.prog X.w H h':=fun {a h'} j a b c e=>by
  obtain⟨_,_,g⟩:=j;refine(I.PW b c e).S9 (λc M l q=>(a.2 c ?_).trans q) (λ_ q=>q) λ_ _ q=>q
  rintro rfl;rcases l with rfl|l;rw[g]at e;cases e;rw[g]at l;cases l
 rcases t with hk|hk;refine wpAny_storeName_local hk hn (λh' g a=>?_) d;obtain⟨oL,_,_,d,_⟩:=id hn;refine h _ ⟨I.ok,I.os,I.bare,⟨λb o e n E t=>?_,λb o e n E t=>?_,I.base.free,λb o e t=>?_,I.base.TF,I.base.Ts,I.base.TH⟩,⟨_,g,λj y O g w e3=>?_⟩,λy c e=>?_,I.free,I.Rx,λp hp=>?_,f ⟨oL,d,I.free⟩ a,by simpa using I.len⟩ ⟨_,a,.inl rfl⟩;exact(a.2 b (QU (R7 (Qp e) I.ok.above))).trans (I.base.keep b o e n E t);obtain⟨T,g⟩:=I.base.slot b o e n E t;exact⟨T,(a.2 b (QU (R7 (Qp e) I.ok.above))).trans g⟩;obtain⟨Y,g⟩:=I.base.there b o e t;exact⟨Y,(a.2 b (QU (R7 (Qp e) I.ok.above))).trans g⟩;by_cases B:j=i;subst B;rw[L]at g;cases g;rw[V4 A]at w;cases w;exact⟨u,r,.inl ⟨hk,by simp⟩⟩;rw[Sq (Ne.symm B)]at w;obtain⟨Q,U,q⟩:=hl j y O g w e3;refine⟨Q,U,?_⟩;rcases q with⟨k,e⟩| ⟨k,c,e,z⟩;refine .inl ⟨k,?_⟩;have:y≠x:=λe=>B (sA hN g (e ▸ L))
 simp[this,e];exact .inr ⟨k,c,e,z.sameBut a (Yu y c e)⟩;obtain⟨M,z⟩:=I.cell y c e;exact⟨M,z.sameBut a (Yu y c e)⟩;obtain⟨e,n,N,nf,d⟩:=I.pin p hp;exact⟨(a.2 p.1 N).trans e,n,N,nf,d⟩;have C:X.fn x=true:=by
  rcases G with z|z;exact z;rw[z]at hk;cases hk
 obtain⟨c,l⟩:=I.ok.has x (.inl hk);obtain⟨M,z⟩:=I.cell x c l;refine wpAny_storeName_cell I.ok.kind hk l z (λh' U8 a=>?_);obtain⟨oc,J,G⟩:=id z;refine h {s with heap:=h'} ⟨I.ok,I.os,I.bare,⟨λb o e n E t=>?_,λb o e n E t=>?_,I.base.free,λb o e t=>?_,I.base.TF,I.base.Ts,I.base.TH⟩,⟨m,hn.sameBut a (Ne.symm (Yu x c l)),λj y O g w e3=>?_⟩,λy h e=>?_,I.free,I.Rx,λp hp=>?_,f ⟨oc,J,I.Rx x c l⟩ a,by simpa using I.len⟩ ⟨c,a,.inr l⟩;exact(a.2 b (QU (R7 (Qp e) (I.ok.WN x c C l)))).trans (I.base.keep b o e n E t);obtain⟨T,g⟩:=I.base.slot b o e n E t;exact⟨T,(a.2 b (QU (R7 (Qp e) (I.ok.WN x c C l)))).trans g⟩;obtain⟨Y,g⟩:=I.base.there b o e t;exact⟨Y,(a.2 b (QU (R7 (Qp e) (I.ok.WN x c C l)))).trans g⟩;by_cases B:j=i;subst B;rw[L]at g;cases g;rw[V4 A]at w;cases w;exact⟨u,r,.inr ⟨.inl hk,c,l,U8⟩⟩;rw[Sq (Ne.symm B)]at w;obtain⟨Q,U,q⟩:=hl j y O g w e3;refine⟨Q,U,?_⟩;rcases q with q|⟨k,h,e,b⟩;exact .inl q;refine .inr ⟨k,h,e,b.sameBut a ?_⟩;rintro rfl;exact B (sA hN g (I.ok.inj _ _ _ e l ▸ L));by_cases b:h=c;subst b;exact⟨_,U8⟩;obtain⟨f,c⟩:=I.cell y h e;exact⟨f,c.sameBut a b⟩;obtain⟨e,n,N,nf,d⟩:=I.pin p hp;refine⟨(a.2 p.1 ?_).trans e,n,N,nf,d⟩;intro q;rw[q,J]at e;have a:oc=p.2:=Uy e;exact d M (by rw[<- a];exact G)
def c8{i:Nat}{x:Str}{Q:Unit->Shared->Prop}(I:Inv X pins σ H s)(e:X.N.Nodup)(c:X.N[i]?=some x)(b:Loc X.env.scope x)(r:RelV v u)
  (h:∀a,Inv X pins (σ.set i (some v)) H a->Q () a) (d:X.fn x=true∨X.env.scope.names.lookup x=some .local:=by first|exact .inl rfl|exact .inr rfl|assumption):wpAny M A (storeName X.env x u) Q E s :=
 xc I e c b r (λa b _=>h a b) d
def Inv.U9{a:Shared}(I:Inv X pins σ H s)(d:a.os=s.os)(u:Un (Ue X.stack) ch H H' s.heap a.heap)(h:R8 X.prog X.w H' a.heap)(f:AllBare a.gens)
  (g:∀b∈ch,(b∈X.ex∨X.P7.heap.objs.size<=b)/\b≠X.env.locals/\(∀x c,X.env.cells.lookup x=some c->c≠b)/\∀p∈X.pn++pins,p.1≠b):Inv X pins σ H' a:=by
 obtain⟨h',g',d',t',b⟩:=a;have e:b=s.os:=d;subst e;exact I.call (g':=g') (t':=t') (d':=d') u h f g
end
abbrev XK:=Value->Option Addr->Hp->Prop
abbrev St:=List (Option V)
abbrev VK:=V->Hp->Prop
abbrev TE:=St->Hp->VK->Prop
abbrev TT:=St->Hp->(Bool->Hp->Prop)->Prop
abbrev TA:=St->Hp->(yar->Hp->Prop)->Prop
structure Ends where
 nx:St->Hp->Prop
 rt:VK
 bk:St->Hp->Prop:=λ_ _=>False
 ct:St->Hp->Prop:=λ_ _=>False
abbrev TS:=Ends->St->Hp->Prop
def EP(X:Cx)(a:yab)(c:St)(Q:VK)(u:Value)(d:Shared):Prop:=∃v b,Inv X a c b d/\RelV v u/\Q v b
def AP(X:Cx)(a:yab)(d:St)(Q:yar->Hp->Prop)(e:yad)(f:Shared):Prop:=∃b c,Inv X a d c f/\Vals b e/\Q b c
def SP(X:Cx)(a:yab)(D:Ends)(f:Flow)(d:Shared):Prop :=
 match f with
 |.next=>∃c b,Inv X a c b d/\D.nx c b
 |.brk=>∃c b,Inv X a c b d/\D.bk c b
 |.cont=>∃c b,Inv X a c b d/\D.ct c b
 |.ret u=>∃v c b,Inv X a c b d/\RelV v u/\D.rt v b
def PE(X:Cx)(e:Expr)(t:TE):Prop :=
 ∀ (a:yab) (s:Shared) (b:St) (H:Hp) (Q:VK),Inv X a b H s->t b H Q->wpAny (model X.prog X.w) X.A (eval e X.env) (EP X a b Q) X.xe s
def PA(X:Cx)(es:yai)(t:TA):Prop :=
 ∀ (c:Pos) (a:yab) (s:Shared) (b:St) (H:Hp) (Q:yar->Hp->Prop),Inv X a b H s->t b H Q->wpAny (model X.prog X.w) X.A (spliced (backTo c (starEach es X.env))) (AP X a b Q) X.xe s
def PS(X:Cx)(st:Stmt)(t:TS):Prop :=
 ∀ (a:yab) (s:Shared) (b:St) (H:Hp) (D:Ends),Inv X a b H s->t D b H->wpAny (model X.prog X.w) X.A (exec st X.env) (SP X a D) X.xe s
def ZU(X:Cx)(st:yal)(t:TS):Prop :=
 ∀ (a:yab) (s:Shared) (b:St) (H:Hp) (D:Ends),Inv X a b H s->t D b H->wpAny (model X.prog X.w) X.A (execs st X.env) (SP X a D) X.xe s
def Px{b:Type}{t:Sem b}{Q c:b->Shared->Prop}{M:Model}{A:Around}{E:yaa}{s:Shared}(h:wpAny M A t Q E s)(d:∀a s,Q a s->c a s):wpAny M A t c E s:=Tv h d λ_ _ x=>x
section
variable{X:Cx}
def wj(i:Nat):TE:=λa H Q=>∃v,a[i]?=some (some v)/\Q v H
def tC(v:V):TE:=λ_ H Q=>Q v H
def fg {i:Nat} {x:Str} (j:X.N[i]?=some x) (b:WM X.env.scope x) (d:(x==("__debug__" : Str))=false:=by decide) (k:(x==("__classdict__" : Str))=false:=by decide):PE X (.Name x pos) (wj i):=by
 intro a s c H Q I h;obtain⟨v,e,h⟩:=h;obtain⟨m,f,g⟩:=I.loc;obtain⟨u,r,l⟩:=g i x v j e b;have b:EP X a c Q u s:=⟨v,H,I,r,h⟩;rcases l with⟨a,g⟩| ⟨a,c,c,e⟩;exact wpAny_Name (wpAny_loadName_local I.ok.kind a f g b) d;rcases a with a|a;exact wpAny_Name (wpAny_loadName_cell I.ok.kind a c e b) d;exact wpAny_Name (wpAny_loadName_free I.ok.kind a c e b k) d
def uA{i j pos}:PE X (.Constant (.int i) j pos) (tC (.int i)):=λ_ _ _ H _ I h=>wpAny_Constant_int ⟨.int i,H,I.tok _,⟨_,rfl⟩,h⟩
def Od{b j pos}:PE X (.Constant (.bool b) j pos) (tC (.bl b)):=λ_ _ _ H _ I h=>Constant_bool ⟨.bl b,H,I,rfl,h⟩
def Na{j pos}:PE X (.Constant .none j pos) (tC .Qe):=λ_ _ _ H _ I h=>Constant_none ⟨.Qe,H,I,rfl,h⟩
def Nb{x j pos}:PE X (.Constant (.str x) j pos) (tC (.str x)):=λ_ _ _ H _ I h=>Calls.Constant_str ⟨.str x,H,I.tok _,⟨_,rfl⟩,h⟩
def Gl(X:Cx)(x:Str):Prop:=X.env.kindOf x=some .globalImplicit
def kr{u:Value}{Q:yaa}(I:Inv X pins σ H s)(b:Gl X x)(a:X.mg x=some u)(h:Q u s)
  (c:(x==("__debug__" : Str))=false:=by decide):wpAny (model X.prog X.w) X.A (eval (.Name x pos) X.env) Q E s :=
 Calls.Name_function_global I.ok.kind b (Calls.loadGlobal_global (by rw[I.ok.glob];exact I.mod.glob.keeps I.bk) a h) c
def cE{u:Value}{Q:yaa}(I:Inv X pins σ H s)(d:Gl X x)(c:X.mg x=none)(a:bootBuiltins x=some u)(h:Q u s)
  (b:x ≠ "__name__" := by decide) (e:(x==("__debug__" : Str))=false:=by decide):wpAny (model X.prog X.w) X.A (eval (.Name x pos) X.env) Q E s:=by
 obtain⟨i,g,f⟩:=I.mod.blt;exact Calls.Name_function_global I.ok.kind d (Calls.loadGlobal_builtin (by rw[I.ok.glob];exact I.mod.glob.keeps I.bk) c (by rw[I.ok.blt];exact g.keeps I.bk) ((f x b).trans a) h) e
def qS {u:Value} (b:Gl X x) (a:X.mg x=some u) (r:RelV v u) (c:(x==("__debug__" : Str))=false:=by decide):PE X (.Name x pos) (tC v) :=
 λ_ _ _ H _ I h=>kr I b a ⟨v,H,I,r,h⟩ c
def BY {u:Value} (d:Gl X x) (c:X.mg x=none) (a:bootBuiltins x=some u) (r:RelV v u) (b:x ≠ "__name__" := by decide) (e:(x==("__debug__" : Str))=false:=by decide):PE X (.Name x pos) (tC v) :=
 λ_ _ _ H _ I h=>cE I d c a ⟨v,H,I,r,h⟩ b e
variable{a b:Expr}{ta tb:TE}{pos:Pos}
def zE(b:Expr){c:CmpOp}(h:c ≠ .In)(f:c ≠ .NotIn):behindInMarks c b=false:=by
 have e:(c==CmpOp.In)=false:=by lia
 have d:(c==CmpOp.NotIn)=false:=by lia
 cases b<;>simp[behindInMarks,e,d]
variable{tA tB':TT}{rest:yai}
end
def SqL(K:yac)(H:Hp)(a:Addr)(xs:yar):Prop :=
 Rd H a (.lst xs) ∨
  ∃ (o:Obj) (b:yao) (n:Nat),K.lookup a=some o/\o.cls=.type "list" /\ o.dict=none/\o.data=.seq b n/\b.size<=sizeLine/\Vals xs b.toList
def Ql(K:yac)(H:Hp)(a:Addr)(xs:yar):Prop :=
 Rd H a (.tup xs) ∨
  ∃ (o:Obj) (b:yao) (n:Nat),K.lookup a=some o/\o.cls=.type "tuple" /\ o.data=.seq b n/\b.size<=sizeLine/\Vals xs b.toList
noncomputable def OA:Value->Option V
 |.none=>some .Qe
 |.bool b=>some (.bl b)
 |.int i _=>some (.int i)
 |.str x _=>some (.str x)
 |.bytes b _=>some (.Xd b)
 |.float b _=>some (.flt b)
 |.ref a=>some (.ref a)
 |.type n=>some (.ty n)
 |_=>none
def RelV.abs(r:RelV x u):OA u=some x:=by
 cases x with
 |Qe=>cases r;rfl
 |bl _=>cases r;rfl
 |int _=>obtain⟨t,rfl⟩:=r;rfl
 |str _=>obtain⟨t,rfl⟩:=r;rfl
 |Xd _=>obtain⟨t,rfl⟩:=r;rfl
 |flt _=>obtain⟨t,rfl⟩:=r;rfl
 |ref _=>cases r;rfl
 |ty _=>cases r;rfl
theorem RelV.inj(r:RelV x u)(q:RelV y u):x=y:=Uy (r.abs.symm.trans q.abs)
theorem Vals.inj:∀{xs ys:yar} {a:yad},Vals xs a->Vals ys a->xs=ys
 |_,_,_,.nil,.nil=>rfl
 |_,_,_,.cons r t,.cons b a=>by rw[r.inj b,Vals.inj t a]
section
variable{X:Cx}{pins:yab}{σ:St}{H:Hp}{s:Shared}{a:Addr}{xs ys:yar}
def SqL.of{K:yac}(h:H a=some (.lst xs)):SqL K H a xs:=.inl (.inl h)
def Ql.of{K:yac}(h:H a=some (.tup xs)):Ql K H a xs:=.inl (.inl h)
def Inv.list(I:Inv X pins σ H s)(h:SqL X.K H a xs):∃b:yad,Vals xs b/\PlainL s.heap a b.toArray/\xs.length<=sizeLine:=by
 rcases h with h|⟨o,b,n,d,g,f,c,i,r⟩;obtain⟨z,b,n,r,e⟩:=h.ok I.PW;exact⟨b,r,⟨_,n,e,rfl,rfl,rfl⟩,z⟩;refine⟨b.toList,r,⟨o,n,I.Ug a o d,g,f,by simpa using c⟩,?_⟩;have e:=r.length;simp only[Tp]at e
 lia
def Inv.tuple(I:Inv X pins σ H s)(h:Ql X.K H a xs):∃b:yad,Vals xs b/\IsTup s.heap a b.toArray/\xs.length<=sizeLine:=by
 rcases h with h|⟨o,b,n,c,d,g,f,r⟩;obtain⟨z,b,r,p⟩:=h.ok I.PW;exact⟨b,r,p,z⟩;refine⟨b.toList,r,⟨o,I.Ug a o c,d,n,by simp_all⟩,?_⟩;have e:=r.length
 simp_all
def Inv.TL(I:Inv X pins σ H s)(h:SqL X.K H a xs)(h':SqL X.K H a ys):xs=ys:=by
 obtain⟨f,r,⟨o,n,e,_,_,d⟩,_⟩:=I.list h;obtain⟨b,c,⟨g,i,d,_,_,j⟩,_⟩:=I.list h';rw[e]at d;have:f=b:=by lia
 subst this;exact r.inj c
def Inv.Uz(I:Inv X pins σ H s)(h:Ql X.K H a xs)(h':Ql X.K H a ys):xs=ys:=by
 obtain⟨f,r,⟨o,e,_,n,d⟩,_⟩:=I.tuple h;obtain⟨b,c,⟨g,d,_,i,j⟩,_⟩:=I.tuple h';rw[e]at d;have:f=b:=by lia
 subst this;exact r.inj c
end
noncomputable abbrev Cx.wish(X:Cx)(E:yaa):Cx:={X with xe:=E}
abbrev Cx.XZ(X:Cx):Cx:=X.wish λ_ _=>False
theorem Cx.Ok.wish{X:Cx}(a:X.Ok)(E:yaa):(X.wish E).Ok :=
 ⟨a.mod,a.kind,a.glob,a.blt,a.above,a.inj,a.has,a.WN,a.hd,a.frames,a.stk,a.exf,a.bs,a.Zg,a.VG,a.Xe,a.Ta,a.Zh⟩
def Cx.Ok.Q3{X:Cx}(a:(X.wish E).Ok):X.Ok :=
 ⟨a.mod,a.kind,a.glob,a.blt,a.above,a.inj,a.has,a.WN,a.hd,a.frames,a.stk,a.exf,a.bs,a.Zg,a.VG,a.Xe,a.Ta,a.Zh⟩
section
variable{X:Cx}{pins:yab}{σ:St}{H:Hp}{s:Shared}{E:yaa}
theorem Inv.wish(I:Inv X pins σ H s)(E:yaa):Inv (X.wish E) pins σ H s:=⟨I.ok.wish E,I.os,I.bare,I.base,I.loc,I.cell,I.free,I.Rx,I.pin,I.PW,I.len⟩
theorem Inv.Q3(I:Inv (X.wish E) pins σ H s):Inv X pins σ H s:=⟨I.ok.Q3,I.os,I.bare,I.base,I.loc,I.cell,I.free,I.Rx,I.pin,I.PW,I.len⟩
end
section
variable{X:Cx}{st:Stmt}{rest:yal}{t u:TS}{e:Expr}{te:TE}{pos:Pos}
def ND(t u:TS):TS:=λD a H=>t {D with nx:=u D} a H
def HY(d:PS X st t)(c:ZU X rest u):ZU X (st::rest) (ND t u):=by
 intro a s b H D I h;refine XR (Px (d a s b H {D with nx:=u D} I h) λf b q=>?_);cases f with
 |next =>
  obtain⟨d,g,f,q⟩:=q;exact c a b d g D f q
 |ret v=>exact q
 |brk=>exact q
 |cont=>exact q
def KG(c:PS X st t):ZU X [st] t:=by
 intro a s b H D I h;refine XR (Px (c a s b H D I h) λf d q=>?_);cases f with
 |next=>exact Za q
 |ret v=>exact q
 |brk=>exact q
 |cont=>exact q
def Inv.quiet(I:Inv X pins σ H s):interactive X.env=false:=by simp[interactive,I.ok.kind]
def xO(te:TE):TS:=λD a H=>te a H λ_ b=>D.nx a b
def ku(c:PE X e te)(hs:swapsWith e none pos.line X.env=pure false:=by rfl):PS X (.Expr e pos) (xO te):=by intro a s b H D I h;exact wpAny_Expr_any (Px (c a s b H _ I h) λv g c=>(by obtain⟨x,f,d,i,a⟩:=c;exact⟨b,f,d,a⟩)) I.quiet hs
end
abbrev TG:=V->St->Hp->(St->Hp->Prop)->Prop
abbrev TGs:=yar->St->Hp->(St->Hp->Prop)->Prop
def PG(X:Cx)(a:Expr)(t:TG):Prop :=
 ∀ (b:yab) (s:Shared) (c:St) (H:Hp) (v:V) (u:Value) (Q:St->Hp->Prop),Inv X b c H s->RelV v u->t v c H Q →
  wpAny (model X.prog X.w) X.A (assign a X.env u) (λ_ d=>∃a c,Inv X b a c d/\Q a c) X.xe s
def PGs(X:Cx)(ts:yai)(t:TGs):Prop :=
 ∀ (a:yab) (s:Shared) (b:St) (H:Hp) (c:yar) (d:yad) (Q:St->Hp->Prop),Inv X a b H s->Vals c d->t c b H Q →
  wpAny (model X.prog X.w) X.A (assignInOrder ((assignEach ts X.env).map (·.2)) d) (λ_ d=>∃b c,Inv X a b c d/\Q b c) X.xe s
abbrev TIp:=V->V->Hp->VK->Prop
def PIp(X:Cx)(c:Operator)(t:TIp):Prop :=
 ∀ (a:yab) (s:Shared) (b:St) (H:Hp) (x y:V) (v u:Value) (Q:VK),Inv X a b H s->RelV x v->RelV y u->t x y H Q →
  wpAny (model X.prog X.w) X.A (inplaceOp c v u) (EP X a b Q) X.xe s
section
variable{X:Cx}{pos:Pos}
def C3(i:Nat):TG:=λv a H Q=>Q (a.set i (some v)) H
def BZ{i:Nat}{x:Str}(e:X.N.Nodup)(c:X.N[i]?=some x)(b:Loc X.env.scope x)(d:X.fn x=true∨X.env.scope.names.lookup x=some .local:=by first|exact .inl rfl|exact .inr rfl|assumption):PG X (.Name x pos) (C3 i):=by intro a s f H v u Q I r h;exact wpAny_assign_Name (c8 I e c b r (λg b=>⟨_,H,b,h⟩) d)
def Mx:TGs:=λb a H Q=>b=[]/\Q a H
def C2(t:TG)(u:TGs):TGs:=λb a H Q=>∃v r,b=v::r/\t v a H λa b=>u r a b Q
def KA:PGs X [] Mx:=by intro a s b H c d Q I r h;obtain⟨e,h⟩:=h;subst e;exact assignInOrder_nil ⟨b,H,I,h⟩
def zO(d:PG X e t)(f:PGs X es u)
  (hs:(assignEach (e::es) X.env).map (·.2)=assign e X.env::(assignEach es X.env).map (·.2):=by rfl):PGs X (e::es) (C2 t u):=by
 intro a s b H j l Q I r h;obtain⟨v,k,c,h⟩:=h;subst c;cases r with
 |cons r c =>
  rw[hs];refine assignInOrder_cons (Px (d a s b H _ _ _ I r h) λ_ b g=>?_);obtain⟨e,i,h,d⟩:=g;exact f a b e i _ _ Q h c d
def My(K:yac)(n:Nat)(t:TGs):TG:=λv c H Q=>∃a b,v=.ref a/\Ql K H a b/\b.length=n/\t b c H Q
def Nc{n:Nat}(l:X.calm=true)(h:PGs X es t)
  (i:(assignEach es X.env).length=n:=by rfl) (m:(assignEach es X.env).findIdx? (·.1)=none:=by rfl):PG X (.Tuple es k pos) (My X.K n t):=by
 intro c s f H v u Q I r d;obtain⟨a,a,b,g,j,d⟩:=d;subst b;cases r;obtain⟨Pp,b,e,p⟩:=I.tuple g;refine assign_Tuple_tuple (I.ok.hd l) e (by simp[i,<- j,b.length]) m λb g=>?_
 have i:Inv X c f H {s with heap:=b}:=I.kept (t':=s.toks) λb o e=>g b o (QU (Qp e)) e
 exact h c _ f H a _ Q i (by lia) d
def O3(i j:Nat)(b:TA):TS:=λD a H=>b a H λb c=>∃v w,b=[v,w]/\D.nx ((a.set i (some v)).set j (some w)) c
def Nj{i j:Nat}{x y:Str}{a b:Expr}{e:TA}{d c pt:Pos}{kt k2 ZW}(z:X.calm=true)(m:X.N.Nodup)(u:X.N[i]?=some x)(t:X.N[j]?=some y)(A:i≠j)
  (l:X.env.scope.names.lookup x=some .local) (k:X.env.scope.names.lookup y=some .local) (f:PA X [a,b] e)
  (r:swappedStores [.Tuple [.Name x d,.Name y c] kt pt] (.Tuple [a,b] k2 ZW) X.env=pure (some [x,y]))
  (hs:swapsWithSole [.Tuple [.Name x d,.Name y c] kt pt] (.Tuple [a,b] k2 ZW) pos.line X.env=pure false:=by rfl) :
  PS X (.Assign [.Tuple [.Name x d,.Name y c] kt pt] (.Tuple [a,b] k2 ZW) pos) (O3 i j e):=by
 intro a s e H D I h;refine Pk (wpAny_standAt ?_);refine Pk (wpAny_pure ?_);refine Pk (Tuple_ (Px (f _ a s e H _ I h) λi f c=>?_));obtain⟨B,h,o,n,g⟩:=c;obtain⟨v,w,c,g⟩:=g;subst c;obtain⟨d,c,rfl,j,s⟩:∃d c,i=[d,c]/\RelV v d/\RelV w c:=by
  cases n with
  |cons p q =>
   cases q with
   |cons n i =>
    cases i;exact⟨_,_,rfl,p,n⟩
 refine XQ ?_ (by show 2<=sizeLine;decide);have i:Inv X a e h {f with heap:=f.heap.push {cls:=.type "tuple", data:=.seq [d,c].toArray} }:=o.kept (t':=f.toks) λb o e=>QN _ e
 rw[r];refine Pk (wpAny_pure ?_);refine Pk (wpAny_rule (Pk (unpackItems_tuple (items:=#[d,c]) (I.ok.hd z) (IsTup.new f.heap _) λh' a=>?_)));have c:=i.kept (h':=h') (t':=f.toks) λb o e=>a b o (QU (Qp e)) e
 refine Pk (assignInOrder_cons (wpAny_bindName (c8 c m t (.inl k) s (λE a=>?_) (.inr k))));refine assignInOrder_cons (wpAny_bindName (c8 a m u (.inl l) j (λC a=>assignInOrder_nil (wpAny_pure ?_)) (.inr l)));rw[List.set_comm _ _ (Ne.symm A)]at a;exact⟨_,h,a,g⟩
def O2(i:Nat)(te:TE)(b:TIp):TS:=λD a H=>∃x,a[i]?=some (some x)/\te a H λy c=>b x y c λz b=>D.nx (a.set i (some z)) b
def Nh{i:Nat}{x:Str}{e:Expr}{te:TE}{c:Operator}{b:TIp}{a:Pos}(q:X.N.Nodup)(g:X.N[i]?=some x)(d:Loc X.env.scope x)(p:PE X e te)(j:PIp X c b)(o:X.fn x=true∨X.env.scope.names.lookup x=some .local:=by first|exact .inl rfl|exact .inr rfl|assumption) :
  PS X (.AugAssign (.Name x a) c e pos) (O2 i te b):=by
 intro a s f H D I h;obtain⟨v,t,h⟩:=h;obtain⟨m,m,n⟩:=I.loc;have b:WM X.env.scope x:=by rcases d with k|k;exact .inl k;exact .inr (.inl k)
 obtain⟨u,r,l⟩:=n i x v g t b;refine wpAny_AugAssign_Name ?_;have i:wpAny (model X.prog X.w) X.A (eval e X.env) (λw e=>wpAny (model X.prog X.w) X.A (inplaceOp c u w) (λr b=>wpAny (model X.prog X.w) X.A (storeName X.env x r) (λ_=>SP X a D .next) X.xe b) X.xe e) X.xe s:=by
  refine Px (p a s f H _ I h) λw c b=>?_
  obtain⟨y,p,n,e,h⟩:=b;refine Px (j a c f p v y u w _ n r e h) λz C b=>?_
  obtain⟨A,f,e,a,c⟩:=b;exact c8 e q g d a (λB a=>⟨_,f,a,c⟩) o
 rcases l with⟨a,b⟩| ⟨a,c,c,e⟩;exact wpAny_loadName_local I.ok.kind a m b i;rcases a with a|a;exact wpAny_loadName_cell I.ok.kind a c e i;rcases d with k|k;have:X.env.scope.names.lookup x=some .free:=a
 lia
 have:X.env.scope.names.lookup x=some .free:=a
 lia
def ipI(f:Int->Int->Int):TIp:=λx y H Q=>∃i j,x=.int i/\y=.int j/\Q (.int (f i j)) H
def MJ:PIp X .Add (ipI λi j=>i+j):=by intro a s f H x y v u Q I c b h;obtain⟨i,j,e,d,q⟩:=h;subst e;subst d;obtain⟨t,rfl⟩:=c;obtain⟨g,rfl⟩:=b;exact iadd_int ⟨.int _,H,I.tok _,⟨_,rfl⟩,q⟩
end
structure It where
 go:Nat->Hp->Prop
 yld:Nat->Hp->V->Hp->Prop
 stop:Nat->Hp->Prop
def eU(X:Cx)(a:yab)(H:Hp)(b:Addr):Prop :=
 H b=none/\b≠X.env.locals/\b∉X.fs/\(b∈X.ex∨X.P7.heap.objs.size<=b)/\(∀x c,X.env.cells.lookup x=some c->c≠b)/\∀p∈X.pn++a,p.1≠b
def Inv.Xf{H':Hp}{b:Addr}(I:Inv X pins σ H s)(a:s.heap.objs.size<=b)(c:H' b=none):eU X pins H' b:=by refine⟨c,Vw (R7 I.lt a),I.nofs a,.inr (QM I.sz a),λx c e z=>?_,λp a z=>?_⟩;obtain⟨v,q⟩:=I.cell x c e;exact absurd (R7 q.lt (by simp_all)) (Xa _);exact absurd (R7 (Qp (I.pin p a).1) (by simp_all)) (Xa _)
structure Turn(P:Program)(w:World)(K:yac)(tg:Expr)(J:It)(fp:yae)(it:Addr)(tn:Nat->Heap->Prop):Prop where
 mem:it∈fp
 obj:∀i h,tn i h->∀b∈fp,∃o,h.get? b=some o/\∀v,o.data ≠ .cell v
 keep:∀i h h',tn i h->(∀b∈fp,∀o,h.get? b=some o->h'.get? b=some o)->tn i h'
 item:∀(X:Cx),X.prog=P->X.w=w->X.K=K->X.calm=true->∀(i:Nat) (pins:yab) (s:Shared) (σ:St) (H:Hp) (E:yaa),Inv X pins σ H s->(∀b∈fp,eU X pins H b)->tn i s.heap->J.go i H →
  wpAny (model P w) X.A (pyNext (.ref it)) (λr s1=>∃u,r=some u ∧
   wpAny (model P w) X.A (letOwnedTupleGo tg (.ref it) u) (λ_ s2=>∃x H',Inv X pins σ H' s2/\RelV x u/\J.yld i H x H'/\tn (i+1) s2.heap/\∀b∈fp,H' b=none) E s1) E s
 done:∀(X:Cx),X.prog=P->X.w=w->X.K=K->X.calm=true->∀(i:Nat) (pins:yab) (s:Shared) (σ:St) (H:Hp) (E:yaa),Inv X pins σ H s->(∀b∈fp,eU X pins H b)->tn i s.heap->J.stop i H →
  wpAny (model P w) X.A (pyNext (.ref it)) (λr s1=>r=none/\Inv X pins σ H s1) E s
 self:∀(A:Around) (i:Nat) (s:Shared) (Q:yaa) (E:yaa),tn i s.heap->Q (.ref it) s->wpAny (model P w) A (pyIter (.ref it)) Q E s
abbrev TI:=St->Hp->(It->Hp->Prop)->Prop
def PIE(X:Cx)(a:yab)(f:St)(g:Expr)(R:It->Hp->Prop)(h:Value)(b:Shared):Prop :=
 ∃ (d:Addr) (e:yae) (tn:Nat->Heap->Prop) (J:It) (c:Hp),h=.ref d/\Inv X a f c b/\Turn X.prog X.w X.K g J e d tn/\tn 0 b.heap/\(∀b∈e,eU X a c b)/\R J c
def PI(X:Cx)(d b:Expr)(wi:TI):Prop :=
 ∀ (a:yab) (s:Shared) (c:St) (H:Hp) (R:It->Hp->Prop),Inv X a c H s->wi c H R →
  wpAny (model X.prog X.w) X.A (eval b X.env) (λv b=>wpAny (model X.prog X.w) X.A (pyIter v) (PIE X a c d R) X.xe b) X.xe s
def C4 {s : Shared} {o : Obj} {Q : Unit -> Shared -> Prop} (b : s.heap.get? it = some o) (e : o.cls = .type n) (d : o.data = .fields vs)
    (c : ["enumerate", "zip", "dict_itemiterator", "dict_reverseitemiterator", "odict_iterator", "itertools.zip_longest", "itertools.pairwise"].contains n = false) (a : Q () s) : wpAny M A (letOwnedTupleGo tg (.ref it) u) Q E s := by
  unfold letOwnedTupleGo;cases tg <;> first
    | exact wpAny_pure a
    | (cases u <;> first
        | exact wpAny_pure a
        | (refine Pk (wpAny_load b ?_)
           rw [e, d];show wpAny M A (if (["enumerate", "zip", "dict_itemiterator", "dict_reverseitemiterator", "odict_iterator", "itertools.zip_longest", "itertools.pairwise"].contains n && vs[0]? == some (rawInt _)) = true then _ else _) Q E s;rw [Po (by intro h; rw [c, Bool.false_and] at h; cases h)];exact wpAny_pure a))
def Itl(K:yac)(a:Addr):It :=
 ⟨λi H=>∃b x,SqL K H a b/\b[i]?=some x,λi H x c=>c=H/\∀b,SqL K H a b->b[i]?=some x,λi H=>∃b,SqL K H a b/\b.length<=i⟩
def Itt(K:yac)(a:Addr):It :=
 ⟨λi H=>∃b x,Ql K H a b/\b[i]?=some x,λi H x c=>c=H/\∀b,Ql K H a b->b[i]?=some x,λi H=>∃b,Ql K H a b/\b.length<=i⟩
def Ga{P:Program}{w:World}{K:yac}{b:Expr}(a f:Addr):Turn P w K b (Itl K a) [f] f (λi h=>h.IsListIter f a i) where
 mem:=by simp
 obj:=λi h st b j=>by
  have e:b=f:=by simp_all
  obtain⟨o,e,c,d⟩:=st;grind
 keep:=λi h l st k=>st.at λo e=>k f (by simp) o e
 item:=by
  intro X t n w J i a s G H E I r st q;subst t n w;obtain⟨M,x,g,m⟩:=q;obtain⟨T,k,p,O⟩:=I.list g;obtain⟨u,hu,N⟩:=k.get m;obtain⟨C,B,Q,A,z,y⟩:=r f (by simp);refine wpAny_pyNext_list_item st p.isList (x:=u) (by simp_all) λl L sb=>?_
  have U:Inv X a G H {s with heap:=l}:=I.turned (t':=s.toks) (λb o j e=>(sb.2 b j).trans e) C B A z y;obtain⟨o,e,c,d⟩:=id L;exact⟨u,rfl,C4 (s:={s with heap:=l}) e c d (by decide) ⟨x,H,U,N,⟨rfl,λY c=>by rw[I.TL c g];exact m⟩,L,by simp_all⟩⟩
 done:=by intro X t n w J i a s G H E I r st q;subst t n w;obtain⟨M,g,m⟩:=q;obtain⟨T,k,p,O⟩:=I.list g;obtain⟨C,B,Q,A,z,y⟩:=r f (by simp);have hl:=k.length;exact wpAny_pyNext_list_end (I.ok.hd J) st p.isList (by simp_all) λl a=>⟨rfl,I.turned (t':=s.toks) (λb o j e=>a b o j e) C B A z y⟩
 self:=λ_ _ _ _ _ st h=>wpAny_pyIter_listiter st h
def DN{P:Program}{w:World}{K:yac}{b:Expr}(a g:Addr):Turn P w K b (Itt K a) [g] g (λi h=>h.IsTupleIter g a i) where
 mem:=by simp
 obj:=λi h st b l=>by
  have e:b=g:=by simp_all
  obtain⟨o,e,c,d⟩:=st;grind
 keep:=λi h m st k=>st.at λo e=>k g (by simp) o e
 item:=by
  intro X w q y M i f s L H E I t st r;subst w q y;obtain⟨O,x,j,n⟩:=r;obtain⟨J,k,p,T⟩:=I.tuple j;obtain⟨u,hu,Q⟩:=k.get n;obtain⟨G,C,U,B,A,z⟩:=t g (by simp);refine wpAny_pyNext_tuple_item st (show s.heap.IsTuple a J.toArray from p) (x:=u) (by simp_all) λm N sb=>?_
  have Y:Inv X f L H {s with heap:=m}:=I.turned (t':=s.toks) (λb o l e=>(sb.2 b l).trans e) G C B A z;obtain⟨o,e,c,d⟩:=id N;exact⟨u,rfl,C4 (s:={s with heap:=m}) e c d (by decide) ⟨x,H,Y,Q,⟨rfl,λys c=>by rw[I.Uz c j];exact n⟩,N,by simp_all⟩⟩
 done:=by intro X w q y M i f s L H E I t st r;subst w q y;obtain⟨O,j,n⟩:=r;obtain⟨J,k,p,T⟩:=I.tuple j;obtain⟨G,C,U,B,A,z⟩:=t g (by simp);have hl:=k.length;exact wpAny_pyNext_tuple_end (I.ok.hd M) st (show s.heap.IsTuple a J.toArray from p) (by simp_all) λm a=>⟨rfl,I.turned (t':=s.toks) (λb o l e=>a b o l e) G C B A z⟩
 self:=λ_ _ _ _ _ st h=>wpAny_pyIter_tupleiter st h
section
variable{X:Cx}{tg:Expr}
def Ja(K:yac)(tl:TE):TI:=λa H R=>tl a H λx b=>∃a,x=.ref a/\(∃c,SqL K b a c)/\R (Itl K a) b
def OK(K:yac)(tl:TE):TI:=λa H R=>tl a H λx b=>∃a,x=.ref a/\(∃c,Ql K b a c)/\R (Itt K a) b
def B2{l:Expr}{tl:TE}(c:PE X l tl):PI X tg l (Ja X.K tl):=by
 intro a s b H R I h;refine Px (c a s b H _ I h) λv c a=>?_
 obtain⟨x,h,d,b,f⟩:=a;obtain⟨a,e,⟨i,g⟩,q⟩:=f;subst e;cases b;obtain⟨Pp,j,p,k⟩:=d.list g;refine wpAny_pyIter_list p.isList ?_;refine⟨c.heap.objs.size,[c.heap.objs.size],_,_,h,rfl,d.kept (t':=c.toks) λb o e=>QN _ e,Ga a _,⟨_,Sv _ rfl,rfl,rfl⟩,λb m=>?_,q⟩;have e:b=c.heap.objs.size:=by simp_all
 subst e;exact d.Xf (Qu _) (d.PW.fresh (Qu _))
def Nd{l:Expr}{tl:TE}(c:PE X l tl):PI X tg l (OK X.K tl):=by
 intro a s b H R I h;refine Px (c a s b H _ I h) λv c a=>?_
 obtain⟨x,h,d,b,f⟩:=a;obtain⟨a,e,⟨i,g⟩,q⟩:=f;subst e;cases b;obtain⟨b,j,p,k⟩:=d.tuple g;refine wpAny_pyIter_tuple (show c.heap.IsTuple a b.toArray from p) ?_;refine⟨c.heap.objs.size,[c.heap.objs.size],_,_,h,rfl,d.kept (t':=c.toks) λb o e=>QN _ e,DN a _,⟨_,Sv _ rfl,rfl,rfl⟩,λb m=>?_,q⟩;have e:b=c.heap.objs.size:=by simp_all
 subst e;exact d.Xf (Qu _) (d.PW.fresh (Qu _))
def NC(wi:TI)(g:TG)(tb:TS):TS:=λD a H=>wi a H λJ b=>∃W:Nat->Nat->St->Hp->Prop,(∃m,W 0 m a b)/\∀i m a H,W i m a H →
 (J.stop i H/\D.nx a H)∨(J.go i H/\∃N:St->Hp->Prop,(∀d b,N d b->∃c,c<m/\W (i+1) c d b)/\∀x b,J.yld i H x b->g x a b λa b=>tb {D with nx:=N,ct:=N,bk:=D.nx} a b)
def pQ(a:yae)(h:Heap):yab:=a.filterMap λb=>(h.get? b).map λo=>(b,o)
def fH{a:yae}{h:Heap}{b:Addr}{o:Obj}(c:b∈a)(e:h.get? b=some o):(b,o)∈pQ a h:=zCy.mpr ⟨b,c,by simp_all⟩
def Fh{p:Addr×Obj}(a:p∈pQ fp h):p.1∈fp/\h.get? p.1=some p.2:=by
 obtain⟨b,c,e⟩:=zCy.mp a;cases q:h.get? b with
 |none=>grind
 |some o =>
  grind
def Inv.pinned{a:yae}(I:Inv X pins σ H s)(d:∀b∈a,eU X pins H b)(c:∀b∈a,∃o,s.heap.get? b=some o/\∀v,o.data ≠ .cell v):Inv X (pins++pQ a s.heap) σ H s :=
 I.V9 λp a=>(RH.mp a).elim (λz=>I.pin p (SO _ z)) λz=>by obtain⟨a,e⟩:=Fh z;obtain⟨h,g,f,_⟩:=d p.1 a;obtain⟨o,b,d⟩:=c p.1 a;rw[e]at b;cases b;exact⟨e,h,g,f,d⟩
def Inv.QV{a b:yab}(I:Inv X (a++b) σ H s):Inv X a σ H s:=I.V9 λp a=>I.pin p (SO _ (Vu _ a))
def Ni(j:PassesOwn (model X.prog X.w) X.A X.env X.xe)(p:X.calm=true)(b:PI X tg iter wi)(y:PG X tg g)(c:ZU X body tb)
  (hs:∀x,foldedSetIterable iter X.env x=pure x:=by intro _;rfl):PS X (.For tg iter body [] pos) (NC wi g tb):=by
 intro a s g H D I h;refine wpAny_For (Px (b a s g H _ I h) λv E b=>Px b λXg C b=>?_) hs;obtain⟨G,k,tn,J,u,e,t,T,s,o,W,⟨r,q⟩,f⟩:=b;subst e;have m:∀{d:Hp},(∀b∈k,d b=none)->∀b∈k,eU X a d b:=λh b c=>⟨h b c,(o b c).2⟩
 refine codeAny_forLoop_any (λn h=>∃i l d,Inv X a l d h/\tn i h.heap/\(∀b∈k,d b=none)/\W i n l d) ?_ r ⟨0,g,u,t,s,λb c=>(o b c).1,q⟩;rintro n o ⟨i,g,h,t,s,q,r⟩;rcases f i n g h r with⟨f,w⟩| ⟨A,N,z,step⟩;refine WK j (Px (T.done X rfl rfl rfl p i a o g h X.xe t (m q) s f) λr u ⟨f,B⟩=>?_);subst f;exact Za ⟨g,h,B,w⟩
 ·refine WK j (Px (T.item X rfl rfl rfl p i a o g h X.xe t (m q) s A) λr u ⟨u,f,h⟩=>?_);subst f;refine WK j (Px h λ_ q h=>?_);obtain⟨x,r,w,t,s,p,f⟩:=h;have o:=w.pinned (m f) (T.obj _ _ p);refine WK j (Px (y _ q g r x u _ o t (step x r s)) λ_ f h=>?_);obtain⟨m,r,o,g⟩:=h;refine WK j (Px (c _ f m r _ o g) λf o j=>?_);have again:∀{g:St} {h:Hp},Inv X (a++pQ k q.heap) g h o->N g h->∃m,m<n/\∃i l d,Inv X a l d o/\tn i o.heap/\(∀b∈k,d b=none)/\W i m l d:=fun {g h} a k=>by
   obtain⟨l,m,d⟩:=z g h k;refine⟨l,m,i+1,g,h,a.QV,T.keep _ _ _ p λb c o e=>(a.pin (b,o) (SO _ (SO _ (fH c e)))).1,λb c=>?_,d⟩;obtain⟨o,e,d⟩:=T.obj _ _ p b c;exact(a.pin (b,o) (SO _ (SO _ (fH c e)))).2.1
  cases f with
  |next=>obtain⟨g,h,a,k⟩:=j;exact again a k
  |cont=>obtain⟨g,h,a,k⟩:=j;exact again a k
  |brk=>obtain⟨g,h,a,j⟩:=j;exact⟨g,h,a.QV,j⟩
  |ret v=>obtain⟨b,g,h,a,c,j⟩:=j;exact⟨b,g,h,a.QV,c,j⟩
end
abbrev R2:=V->V->Hp->VK->Prop
def Ul(X:Cx)(f:Value->Value->Sem Value)(r:R2):Prop :=
 ∀ (a:yab) (s:Shared) (b:St) (H:Hp) (x y:V) (v u:Value) (Q:VK),Inv X a b H s->RelV x v->RelV y u->r x y H Q →
  wpAny (model X.prog X.w) X.A (f v u) (EP X a b Q) X.xe s
def UnR(X:Cx)(f:Value->Sem Value)(r:V->Hp->VK->Prop):Prop :=
 ∀ (a:yab) (s:Shared) (b:St) (H:Hp) (x:V) (v:Value) (Q:VK),Inv X a b H s->RelV x v->r x H Q →
  wpAny (model X.prog X.w) X.A (f v) (EP X a b Q) X.xe s
def qz(X:Cx)(f:Value)(r:yar->Hp->VK->Prop):Prop :=
 ∀ (a:yab) (s:Shared) (b:St) (H:Hp) (c:yar) (d:yad) (Q:VK),Inv X a b H s->Vals c d->r c H Q →
  wpAny (model X.prog X.w) X.A (call f d) (EP X a b Q) X.xe s
def tOp(r:R2)(b tb:TE):TE:=λa H Q=>b a H λx b=>tb a b λy a=>r x y a Q
def rI(C:Int->Int->Prop)(g:Int->Int->V):R2:=λx y H Q=>∃i j,x=.int i/\y=.int j/\C i j/\Q (g i j) H
def X0(g:Int->Int->V):R2:=λx y H Q=>∃i j,x=.int i/\y=.int j/\Q (g i j) H
def rU(g:Int->V):V->Hp->VK->Prop:=λx H Q=>∃i,x=.int i/\Q (g i) H
section
variable{X:Cx}{a b c:Expr}{ta tb tc:TE}{pos:Pos}
def OC(k:PE X a ta)(n:PE X b tb){d:yab}{s:Shared}{e:St}{H:Hp}{R:V->V->Hp->Prop}(I:Inv X d e H s)
  (h:ta e H λx j=>tb e j λy g=>R x y g) {Q:yaa} {f:Value->Value->Sem Value}
  (m:∀v u i x y g,Inv X d e g i->RelV x v->RelV y u->R x y g->wpAny (model X.prog X.w) X.A (f v u) Q X.xe i) :
  wpAny (model X.prog X.w) X.A (eval a X.env) (λv o=>wpAny (model X.prog X.w) X.A (eval b X.env) (λu l=>wpAny (model X.prog X.w) X.A (f v u) Q X.xe l) X.xe o) X.xe s:=by
 refine Px (k d s e H _ I h) λv h f=>?_
 obtain⟨x,j,o,k,l⟩:=f;refine Px (n d h e j _ o l) λu i f=>?_
 obtain⟨y,g,h,d,e⟩:=f;exact m v u i x y g h k d e
def opI{f:Value->Value->Sem Value}{C:Int->Int->Prop}{g:Int->Int->Int}
  (rule:∀(i j:Int) (t u:Tok) (s:Shared) (Q:yaa) (E:yaa),C i j->Q (.int (g i j) s.toks) {s with toks:=s.toks+1}->wpAny (model X.prog X.w) X.A (f (.int i t) (.int j u)) Q E s) :
  Ul X f (rI C λi j=>.int (g i j)):=by
 intro d s l H x y v u Q I e f h;obtain⟨i,j,rfl,rfl,k,q⟩:=h;obtain⟨t,rfl⟩:=e;obtain⟨e,rfl⟩:=f;exact rule i j t e s _ _ k ⟨.int (g i j),H,I.tok _,⟨_,rfl⟩,q⟩
def M3{f:Value->Value->Sem Value}{g:Int->Int->Int}
  (rule:∀(i j:Int) (t u:Tok) (s:Shared) (Q:yaa) (E:yaa),Q (.int (g i j) s.toks) {s with toks:=s.toks+1}->wpAny (model X.prog X.w) X.A (f (.int i t) (.int j u)) Q E s) :
  Ul X f (X0 λi j=>.int (g i j)):=by
 intro d s k H x y v u Q I e f h;obtain⟨i,j,rfl,rfl,q⟩:=h;obtain⟨t,rfl⟩:=e;obtain⟨e,rfl⟩:=f;exact rule i j t e s _ _ ⟨.int (g i j),H,I.tok _,⟨_,rfl⟩,q⟩
def Dr{f:Value->Value->Sem Value}{g:Int->Int->Bool}
  (rule:∀(i j:Int) (t u:Tok) (s:Shared) (Q:yaa) (E:yaa),Q (.bool (g i j)) s->wpAny (model X.prog X.w) X.A (f (.int i t) (.int j u)) Q E s) :
  Ul X f (X0 λi j=>.bl (g i j)):=by
 intro d s k H x y v u Q I e f h;obtain⟨i,j,rfl,rfl,q⟩:=h;obtain⟨t,rfl⟩:=e;obtain⟨e,rfl⟩:=f;exact rule i j t e s _ _ ⟨.bl (g i j),H,I,rfl,q⟩
def Gq(i j:Int):Prop:=0<=j/\j<=1000000/\i.natAbs<2 ^ 64
def M4:Ul X (binaryOp .Add) (X0 λi j=>.int (i+j)):=M3 λ_ _ _ _ _ _ _ q=>add_int q
def M7:Ul X (binaryOp .Sub) (X0 λi j=>.int (i - j)):=M3 λ_ _ _ _ _ _ _ q=>sub_int q
def Kv:Ul X (binaryOp .Mod) (rI (λ_ j=>j≠0) λi j=>.int (i.fmod j)):=opI λ_ _ _ _ _ _ _ d q=>mod_int' d q
def M6:Ul X (binaryOp .Pow) (rI Gq λi j=>.int (i ^ j.toNat)):=opI λ_ _ _ _ _ _ _ d q=>pow_int_small d.1 d.2.1 d.2.2 q
def unI{f:Value->Sem Value}{g:Int->Int}
  (rule:∀(i:Int) (t:Tok) (s:Shared) (Q:yaa) (E:yaa),Q (.int (g i) s.toks) {s with toks:=s.toks+1}->wpAny (model X.prog X.w) X.A (f (.int i t)) Q E s) :
  UnR X f (rU λi=>.int (g i)):=by
 intro d s j H x v Q I e h;obtain⟨i,rfl,q⟩:=h;obtain⟨t,rfl⟩:=e;exact rule i t s _ _ ⟨.int (g i),H,I.tok _,⟨_,rfl⟩,q⟩
def NH:UnR X (unaryOp .USub) (rU λi=>.int (-i)):=unI λ_ _ _ _ _ q=>neg_int q
end
def vV:V->V->Bool
 |.Qe,.Qe=>true|.Qe,.int _=>true|.int _,.Qe=>true|.Qe,.bl _=>true|.bl _,.Qe=>true|.Qe,.str _=>true|.str _,.Qe=>true
 |.int _,.int _=>true|.bl _,.bl _=>true|.str _,.str _=>true|.Xd _,.Xd _=>true
 |.int _,.str _=>true|.str _,.int _=>true|.bl _,.str _=>true|.str _,.bl _=>true
 |_,_=>false
def rEq:R2:=λx y H Q=>vV x y=true/\Q (.bl (decide (x=y))) H
def rNe:R2:=λx y H Q=>vV x y=true/\Q (.bl (!decide (x=y))) H
def Bu:decide (V.int i=V.int j)=(i==j):=by rw[zCv];simp
def EG:decide (V.bl i=V.bl j)=(i==j):=by rw[zCv];simp
def Bv:decide (V.str i=V.str j)=(i==j):=by rw[zCv];simp
def Bt:decide (V.Xd i=V.Xd j)=(i.toList==j.toList):=by
 rw[zCv]
 simp_all
section
variable{X:Cx}{a b c:Expr}{ta tb tc:TE}{pos:Pos}
def bo{Q:VK}{d:Bool}(I:Inv X pins σ H s)(q:Q (.bl k) H)(e:k=d):EP X pins σ Q (.bool d) s:=by subst e;exact⟨.bl k,H,I,rfl,q⟩
def N7:Ul X (compareOp .Eq) rEq:=by
 intro k s l H x y v u Q I g d h;obtain⟨f,q⟩:=h;cases x with
 |Qe =>
  cases g;cases y with
  |Qe=>cases d;exact PySem.EqNone.eq_none_none (bo I q (by simp))
  |bl j=>cases d;exact PySem.EqNone.eq_none_bool (bo I q (by simp))
  |int j=>obtain⟨e,rfl⟩:=d;exact PySem.EqNone.eq_none_int (bo I q (by simp))
  |str j=>obtain⟨e,rfl⟩:=d;exact PySem.EqNone.eq_none_str (bo I q (by simp))
  |_=>exact absurd (show false=true from f) V5
 |bl i =>
  cases g;cases y with
  |Qe=>cases d;exact PySem.EqNone.eq_bool_none (bo I q (by simp))
  |bl j=>cases d;exact eq_bool (bo I q EG)
  |str j=>obtain⟨e,rfl⟩:=d;exact PySem.EqMixed.eq_bool_str (bo I q (by simp))
  |_=>exact absurd (show false=true from f) V5
 |int i =>
  obtain⟨t,rfl⟩:=g;cases y with
  |Qe=>cases d;exact PySem.EqNone.eq_int_none (bo I q (by simp))
  |int j=>obtain⟨e,rfl⟩:=d;exact eq_int (bo I q Bu)
  |str j=>obtain⟨e,rfl⟩:=d;exact PySem.EqMixed.eq_int_str (bo I q (by simp))
  |_=>exact absurd (show false=true from f) V5
 |str i =>
  obtain⟨t,rfl⟩:=g;cases y with
  |Qe=>cases d;exact PySem.EqNone.eq_str_none (bo I q (by simp))
  |bl j=>cases d;exact PySem.EqMixed.eq_str_bool (bo I q (by simp))
  |int j=>obtain⟨e,rfl⟩:=d;exact PySem.EqMixed.eq_str_int (bo I q (by simp))
  |str j=>obtain⟨e,rfl⟩:=d;exact eq_str (bo I q Bv)
  |_=>exact absurd (show false=true from f) V5
 |Xd i =>
  obtain⟨t,rfl⟩:=g;cases y with
  |Xd j=>obtain⟨e,rfl⟩:=d;exact PySem.W.eq_bytes (bo I q Bt)
  |_=>exact absurd (show false=true from f) V5
 |_=>cases y<;>exact absurd (show false=true from f) V5
def Oc:Ul X (compareOp .NotEq) rNe:=by
 intro k s l H x y v u Q I g d h;obtain⟨f,q⟩:=h;cases x with
 |Qe =>
  cases g;cases y with
  |Qe=>cases d;exact PySem.EqNone.ne_none_none (bo I q (by simp))
  |bl j=>cases d;exact PySem.EqNone.ne_none_bool (bo I q (by simp))
  |int j=>obtain⟨e,rfl⟩:=d;exact PySem.EqNone.ne_none_int (bo I q (by simp))
  |str j=>obtain⟨e,rfl⟩:=d;exact PySem.EqNone.ne_none_str (bo I q (by simp))
  |_=>exact absurd (show false=true from f) V5
 |bl i =>
  cases g;cases y with
  |Qe=>cases d;exact PySem.EqNone.ne_bool_none (bo I q (by simp))
  |bl j=>cases d;exact ne_bool (bo I q (congrArg not EG))
  |str j=>obtain⟨e,rfl⟩:=d;exact PySem.EqMixed.ne_bool_str (bo I q (by simp))
  |_=>exact absurd (show false=true from f) V5
 |int i =>
  obtain⟨t,rfl⟩:=g;cases y with
  |Qe=>cases d;exact PySem.EqNone.ne_int_none (bo I q (by simp))
  |int j=>obtain⟨e,rfl⟩:=d;exact ne_int (bo I q (congrArg not Bu))
  |str j=>obtain⟨e,rfl⟩:=d;exact PySem.EqMixed.ne_int_str (bo I q (by simp))
  |_=>exact absurd (show false=true from f) V5
 |str i =>
  obtain⟨t,rfl⟩:=g;cases y with
  |Qe=>cases d;exact PySem.EqNone.ne_str_none (bo I q (by simp))
  |bl j=>cases d;exact PySem.EqMixed.ne_str_bool (bo I q (by simp))
  |int j=>obtain⟨e,rfl⟩:=d;exact PySem.EqMixed.ne_str_int (bo I q (by simp))
  |str j=>obtain⟨e,rfl⟩:=d;exact ne_str (bo I q (congrArg not Bv))
  |_=>exact absurd (show false=true from f) V5
 |Xd i =>
  obtain⟨t,rfl⟩:=g;cases y with
  |Xd j=>obtain⟨e,rfl⟩:=d;exact PySem.W.ne_bytes (bo I q (congrArg not Bt))
  |_=>exact absurd (show false=true from f) V5
 |_=>cases y<;>exact absurd (show false=true from f) V5
def Ob:Ul X (compareOp .Lt) (X0 λi j=>.bl (decide (i<j))):=Dr λ_ _ _ _ _ _ _ q=>lt_int q
def Oa:Ul X (compareOp .LtE) (X0 λi j=>.bl (decide (i<=j))):=Dr λ_ _ _ _ _ _ _ q=>le_int q
def N9:Ul X (compareOp .Gt) (X0 λi j=>.bl (decide (j<i))):=Dr λ_ _ _ _ _ _ _ q=>gt_int q
def N8:Ul X (compareOp .GtE) (X0 λi j=>.bl (decide (j<=i))):=Dr λ_ _ _ _ _ _ _ q=>ge_int q
def M5:Ul X (compareOp .Is) (λx y H Q=>y=.Qe/\Q (.bl (decide (x=.Qe))) H):=by
 intro d s g H x y v u Q I f e h;obtain⟨rfl,q⟩:=h;cases e;refine is_none_gen (bo I q ?_);cases x<;>first
  |(rfl)
  |(obtain⟨t,rfl⟩:=f;rfl)
def Kx:Ul X (compareOp .IsNot) (λx y H Q=>y=.Qe/\Q (.bl (!decide (x=.Qe))) H):=by
 intro d s g H x y v u Q I f e h;obtain⟨rfl,q⟩:=h;cases e;refine isnot_none_gen (bo I q ?_);cases x<;>first
  |(rfl)
  |(obtain⟨t,rfl⟩:=f;rfl)
def zt:(sizeLine:Nat)<2 ^ 63:=by decide
def vals1{x:V}(r:Vals [x] us):∃u,us=[u]/\RelV x u:=by
 cases r with
 |cons e d=>cases d;simp_all
def vals2{x y:V}(r:Vals [x,y] us):∃u d,us=[u,d]/\RelV x u/\RelV y d:=by
 cases r with
 |cons f d =>
  cases d with
  |cons e d=>cases d;exact⟨_,_,rfl,f,e⟩
def GV:qz X (.builtin "abs") (λxs H Q=>∃i,xs=[.int i]/\Q (.int (if i<0 then -i else i)) H):=by intro d s e H xs f Q I r h;obtain⟨i,rfl,q⟩:=h;obtain⟨u,rfl,t,rfl⟩:=vals1 r;exact call_abs_int λu g=>⟨.int (if i<0 then -i else i),H,I.tok _,⟨_,rfl⟩,q⟩
def En (d:X.calm=true):qz X (.builtin "max") (λxs H Q=>∃i j,xs=[.int i,.int j]/\Q (.int (if j > i then j else i)) H):=by
 intro e s f H xs l Q I r h;obtain⟨i,j,rfl,q⟩:=h;obtain⟨u,g,rfl,⟨t,rfl⟩,⟨n,rfl⟩⟩:=vals2 r;refine max_two_ints (I.ok.hd d) λo m k=>⟨_,H,I.kept k,?_,q⟩
 by_cases d:j > i;rw[Pt d,Pt d];exact⟨_,rfl⟩;rw[Po d,Po d];exact⟨_,rfl⟩
end
structure GD(h:Heap)(x dx C:Addr)(mA:yam):Prop where
 obj:h.get? x=some (PySem.W.instObj C dx)
 ns:h.Ns1 dx mA
 ne:dx≠x
set_option tactic.hygienic true in
def E5{h:Heap}(n:h.Ns1 dx mA):∃a,h.get? dx=some a/\∀name,PySem.W.lookIn name a=some (mA name):=by
 obtain⟨o,f,i,a,d,c,_,b⟩:=n;refine⟨o,a,λname=>?_⟩;have e:=b name;unfold nsFind findBy at e;rw[<- Array.find?_toList]at e;unfold PySem.W.lookIn;rw[d];dsimp only;split;grind;have a:f.toList.any (·.refKey)=false:=by rw[List.any_eq_false];intro y g;obtain⟨z,t,a⟩:=c y (by grind);simp[DictEntry.refKey,a]
 grind
def GD.look(I:GD h x dx C mA):∃a,PySem.W.InstAt h x (PySem.W.instObj C dx) C (some a)/\∀name,PySem.W.lookIn name a=some (mA name) :=
 let ⟨a,ho,hl⟩:=E5 I.ns
 ⟨a,⟨I.obj,rfl,rfl,ho⟩,hl⟩
def jB.some_of{v:V}(r:jB (some v) o):∃u,o=some u/\RelV v u:=by
 cases o with
 |none=>exact(show False from r).elim
 |some u=>exact⟨u,rfl,r⟩
structure QC(K:yac)(C:Addr):Prop where
 pg:PySem.W.plainGet K C Str.empty=true
 hd:PySem.W.hasDictIn K C=true
 po:PySem.W.plainOver K C=true
 sa:PySem.W.findIn K (.ref C) "__setattr__" = some (some (.builtin "object.__setattr__"))
structure Con(K:yac)(C:Addr)(f:Str)(v:V)(u:Value):Prop where
 at_:PySem.W.findIn K (.ref C) f=some (some u)
 rel:RelV v u
 get:PySem.W.specialIn K u "__get__" = some none
 cp:PySem.W.copiedNames.contains f=false
structure Meth(K:yac)(C:Addr)(m:Str)(f:Addr):Prop where
 at_:PySem.W.findIn K (.ref C) m=some (some (.ref f))
 fn:PySem.W.isFn K (.ref f)=true
 kp:PySem.W.keepIn K (.ref f)=true
section
variable{X:Cx}{pins:yab}{σ:St}{H:Hp}{s:Shared}{A:Around}{E:yaa}{Q:yaa}{c:Value}{b:Bool}
inductive kD (K:yac) (H:Hp):V->Value->Prop where
 |Qe:kD K H .Qe (.type "NoneType")
 |bl (x:Bool):kD K H (.bl x) (.type "bool")
 |int (i:Int):kD K H (.int i) (.type "int")
 |str (x:Str):kD K H (.str x) (.type "str")
 |flt (x:UInt64):kD K H (.flt x) (.type "float")
 |lst {a:Addr} {xs:yar} (e:H a=some (.lst xs)):kD K H (.ref a) (.type "list")
 |frz {a:Addr} {o:Obj} {xs:yar} (e:H a=some (.frz o (.lst xs))):kD K H (.ref a) (.type "list")
 |tup {a:Addr} {xs:yar} (e:H a=some (.tup xs)):kD K H (.ref a) (.type "tuple")
 |dK {a:Addr} {kvs:List (Key×V)} (e:H a=some (.dK kvs)):kD K H (.ref a) (.type "dict")
 |dT {a:Addr} {kvs:List (List Key×V)} (e:H a=some (.dT kvs)):kD K H (.ref a) (.type "dict")
 |ins {a C dx:Addr} {fs:List (Str×V)} (e:H a=some (.ins C dx fs)) (cl:QC K C) (ha:PySem.W.findIn K (.ref C) "__class__" = some (some (.builtin "object.__class__")))
   (hn:PySem.W.specialIn K (.builtin "object.__class__") "__get__" = some (some (.builtin "getset_descriptor.__get__"))) (htk:PySem.W.takesIn K (.builtin "object.__class__")=some true)
   (hm:PySem.W.mroIn K C (.type "object")=some true):kD K H (.ref a) (.ref C)
end
structure b6(k:Nat)(A:Around):Prop where
 hd:A.handled=none
 dp:A.depth+3*k+5<recursionLimit
 un:A.units+16*k+200<cLine
def b6.mono{j:Nat}(r:b6 k A)(h:j<=k):b6 j A:=⟨r.hd,by have:=r.dp;lia,by have:=r.un;lia⟩
theorem b6.deeper{k:Nat}(r:b6 (k+1) A)(env:Env):b6 k (A.deeper env) :=
 ⟨r.hd,by have:=r.dp;show A.depth+1+3*k+5<_;lia,by have:=r.un;show A.units+3+16*k+200<_;lia⟩
theorem b6.depth(r:b6 k A):A.depth<recursionLimit:=by have:=r.dp;lia
theorem b6.units(r:b6 k A):A.units+64<cLine:=by have:=r.un;lia
def DL:TA:=λ_ H Q=>Q [] H
def qZ(c:TE)(b:TA):TA:=λa H Q=>c a H λx c=>b a c λa b=>Q (x::a) b
section
variable{X:Cx}{e:Expr}{es:yai}{te:TE}{t:TA}{pos:Pos}
def mG:PA X [] DL:=λ_ _ _ _ H Q I h=>Calls.spliced_nil ⟨[],H,I,.nil,h⟩
def gR(c:PE X e te)(g:PA X es t)(hs:starEach (e::es) X.env=(false,eval e X.env)::starEach es X.env:=by rfl):PA X (e::es) (qZ te t):=by intro pos a s b H Q I h;rw[hs];refine Calls.spliced_cons (Px (c a s b H _ I h) λu c h=>?_);obtain⟨x,j,i,d,f⟩:=h;exact Px (g pos a c b j _ i f) λk l f=>(by obtain⟨a,h,g,b,c⟩:=f;exact⟨x::a,h,g,.cons d b,c⟩)
end
abbrev Sp:=yar->Hp->VK->XK->Prop
abbrev CXT:=List Env->Hp->Shared->XK->yaa
structure Ct(P:Program)(w:World)(K:yac)(mg:yam)(base:Heap)(A:Around)(outer:List Env)(s:Shared)(H:Hp):Prop where
 frames:A.frames=some outer
 mod:Mod K mg base
 bs:∀b o,base.get? b=some o->s.heap.get? b=some o/\H b=none
 Zg:base.objs.size<=s.heap.objs.size
 Ta:s.heap.FunFrames base outer
 Zh:∀b∈Ue outer,H b=none
 PW:R8 P w H s.heap
 bare:AllBare s.gens
def CE(outer:List Env)(P:Program)(w:World)(H:Hp)(s:Shared)(Q:VK)(u:Value)(a:Shared):Prop :=
 ∃ v b,a.os=s.os/\AllBare a.gens/\Un (Ue outer) [] H b s.heap a.heap/\R8 P w b a.heap/\RelV v u/\Q v b
def CR(CX:CXT)(outer:List Env)(P:Program)(w:World)(H:Hp)(s:Shared)(Q:VK)(E:XK)(r:Result)(a:Shared):Prop :=
 match r with
 |.ok (.ret u)=>CE outer P w H s Q u a
 |.ok _=>False
 |.error e=>CX outer H s E e a
structure aK(P:Program)(w:World)(K:yac)(mg:yam)(base:Heap)(CX:CXT)(k:Nat)(f:Addr)(fd:FuncData)(ps:yah)(sp:Sp):Prop where
 len:∀vs H Q E,sp vs H Q E->vs.length=ps.length
 run:∀(A:Around) (outer:List Env) (s:Shared) (H:Hp) (args:Args) (us:yad) (vs:yar) (Q:VK) (E:XK),b6 k A->Ct P w K mg base A outer s H->BindsTo s fd args (ps.zip us)->Vals vs us->sp vs H Q E →
  codeAny (model P w) A (.call (.ref f) args) (CR CX outer P w H s Q E) s
section
variable{X:Cx}{pins:yab}{σ:St}{H:Hp}{s s':Shared}
def Inv.env0(I:Inv X pins σ H s):Ct X.prog X.w X.K X.mg X.base X.A X.stack s H :=
 ⟨I.ok.frames,I.ok.mod,I.bs,QM I.ok.Zg I.sz,I.stack,I.UL,I.PW,I.bare⟩
def Inv.after(I:Inv X pins σ H s)(h:CE X.stack X.prog X.w H s Q u s'):EP X pins σ Q u s':=by obtain⟨v,f,os,a,un,e,r,q⟩:=h;obtain⟨c,g,d,t,b⟩:=s';obtain rfl:b=s.os:=os;exact⟨v,f,I.call (h':=c) (g':=g) (d':=d) (t':=t) (ch:=[]) un e a (λb z=>by simp_all),r,q⟩
end
def Binds(K:yac)(b:FuncData)(ps:yah)(ds:yad):Prop :=
 ∀ (s:Shared) (a:yad),K.In s.heap->(a++ds).length=ps.length->BindsTo s b ⟨a,[]⟩ (ps.zip (a++ds))
def Binds.all{K:yac}{b:FuncData}{ps:yah}(h:∀a:yad,a.length=ps.length->bindArgs b ⟨a,[]⟩=pure (ps.zip a)):Binds K b ps []:=λs a _ b=>by rw[W4]at b ⊢;exact .of_eq (h a b)
def Passes(CX:CXT)(X:Cx)(E:XK):Prop:=∀(a:yab) (c:St) (H:Hp) (s:Shared) (e:Value) (b:Shared),Inv X a c H s->CX X.stack H s E e b->X.xe e b
section
variable{X:Cx}{CX:CXT}{k:Nat}{f C:Addr}{fd:FuncData}{ps:yah}{sp:Sp}{dvs:yar}{ds:yad}{E:XK}{x m:Str}{p pos apos:Pos}{e o:Expr}{es:yai}{ta:TE}{t:TA}
def FQ(F:aK X.prog X.w X.K X.mg X.base CX k f fd ps sp)(b:b6 k X.A)(g:Binds X.K fd ps ds)(d:Vals dvs ds)(c:Passes CX X E)
  (I:Inv X pins σ H s) (r:Vals vs us) (h:sp (vs++dvs) H Q E):wpAny (model X.prog X.w) X.A (call (.ref f) us) (EP X pins σ Q) X.xe s:=by
 have a:Vals (vs++dvs) (us++ds):=r.append d;have d:(us++ds).length=ps.length:=by rw[<- a.length];exact F.len _ _ _ _ h
 refine wpAny_call (codeAny_mono (F.run X.A X.stack s H ⟨us,[]⟩ (us++ds) (vs++dvs) Q E b I.env0 (g s us I.Ug d) a h) λr b a=>?_);cases r with
 |error e=>exact c pins σ H s e b I a
 |ok b =>
  cases b with
  |ret u=>exact I.after a
  |next=>exact False.elim a
  |brk=>exact False.elim a
  |cont=>exact False.elim a
structure Mk(K:yac)(C f:Addr):Prop where
 makes:PySem.W.makesIn K C=true
 init:PySem.W.findIn K (.ref C) "__init__" = some (some (.ref f))
 fn:PySem.W.isFn K (.ref f)=true
 kp:PySem.W.keepIn K (.ref C)=true
end
section
variable{X:Cx}{CX:CXT}{k:Nat}{f C:Addr}{fd:FuncData}{ps ks:yah}{sp:Sp}{E:XK}{x m:Str}{p pos apos kpos:Pos}{e o:Expr}{es:yai}{kws:List Keyword}{te ta:TE}{t tk:TA}{nm:Option Str}
structure O9(K:yac)(fd:FuncData)(ps ks:yah)(g:yad->yad->yad)(gV:yar->yar->yar):Prop where
 to:∀(s:Shared) (us ws:yad),K.In s.heap->(g us ws).length=ps.length->BindsTo s fd ⟨us,ks.zip ws⟩ (ps.zip (g us ws))
 rel:∀{vs:yar} {us:yad} {zs:yar} {ws:yad},Vals vs us->Vals zs ws->Vals (gV vs zs) (g us ws)
variable{g:yad->yad->yad}{gV:yar->yar->yar}
end
structure aE(N P:yah)(sc:Scope):Prop where
 kind:sc.kind=.function
 co:sc.isCoroutine=false
 gen:sc.isGenerator=false
 nd:N.Nodup
 pre:N.take P.length=P
 par:∀x∈P,sc.names.lookup x=some .local∨sc.names.lookup x=some .cell
 ZY:∀y∈sc.names,y.2 ≠ .free
theorem wF{kindOf:Str->Option NameKind}{x:Str}:∀{a:List (Str×Value)} {m:yam},(∀v,(x,v)∉a)->bindL kindOf a m x=m x
 |[],_,_=>rfl
 |(n,v)::r,m,h=>by
  unfold bindL;rw[wF (by grind)];split
  all_goals grind
theorem wC{kindOf:Str->Option NameKind}{x:Str}:∀{a:List (Str×Value)} {m:yam},(∀v,(x,v)∉a)->bindC kindOf a m x=m x
 |[],_,_=>rfl
 |(n,v)::r,m,h=>by
  unfold bindC;rw[wC (by grind)];split
  all_goals grind
theorem wD{kindOf:Str->Option NameKind}{x:Str}{v:Value}:∀{P:yah} {vs:yad} {i:Nat} {m:yam},P.Nodup->P[i]?=some x->vs[i]?=some v->kindOf x=some .local →
  bindL kindOf (P.zip vs) m x=some v
 |[],_,_,_,_,h,_,_=>by simp at h
 |_::_,[],_,_,_,_,h,_=>by simp at h
 |p::P,w::vs,0,m,d,c,b,a=>by simp at c b;subst c;subst b;show bindL kindOf ((p,w)::P.zip vs) m p=_;unfold bindL;rw[wF λv e=>(Wk.mp d).1 (W9 e).1,Pt a];simp
 |p::P,w::vs,i+1,m,d,c,b,a=>by unfold bindL;exact wD (i:=i) (by grind) (by simp_all) (by simp_all) a
theorem wA{kindOf:Str->Option NameKind}{x:Str}{v:Value}:∀{P:yah} {vs:yad} {i:Nat} {m:yam},P.Nodup->P[i]?=some x->vs[i]?=some v->kindOf x≠some .local →
  bindC kindOf (P.zip vs) m x=some v
 |[],_,_,_,_,h,_,_=>by simp at h
 |_::_,[],_,_,_,_,h,_=>by simp at h
 |p::P,w::vs,0,m,d,c,b,a=>by simp at c b;subst c;subst b;show bindC kindOf ((p,w)::P.zip vs) m p=_;unfold bindC;rw[wC λv e=>(Wk.mp d).1 (W9 e).1,Po a];simp
 |p::P,w::vs,i+1,m,d,c,b,a=>by unfold bindC;exact wA (i:=i) (by grind) (by simp_all) (by simp_all) a
noncomputable def start(N:yah)(vs:yar):St:=vs.map some++List.replicate (N.length - vs.length) none
noncomputable def dA(CX:CXT)(P:Program)(w:World)(K:yac)(mg:yam)(base:Heap)(N:yah)(b:Str)(a:Scope)(f:Addr)(c:Value)(A:Around)(outer:List Env)(s:Shared)(H:Hp)(E:XK):Cx where
 prog:=P
 w:=w
 K:=K
 mg:=mg
 base:=base
 A:=A.deeper (envOfC b a s.heap.objs.size f c)
 N:=N
 P7:=s
 Qj:=H
 env:=envOfC b a s.heap.objs.size f c
 outer:=outer
 stack:=envOfC b a s.heap.objs.size f c::outer
 ex:=[]
 calm:=true
 fn:=λ_=>true
 pn:=[]
 xe:=λe d=>wpAny (model P w) (A.deeper (envOfC b a s.heap.objs.size f c)) (leaving (envOfC b a s.heap.objs.size f c) e) (λ_ a=>CX outer H s E e a) (λb a=>CX outer H s E b a) d
def yo{a:Scope}(h:a.names.lookup x=some .cell):∃c,(cellsFrom n a.names []).lookup x=some c:=by have q:=PySem.W.cellsFrom_some a.names n [] (.inl h);exact Option.isSome_iff_exists.mp q
def EU{CX:CXT}{P:Program}{w:World}{K:yac}{h:yam}{base:Heap}{N ps:yah}{c:Str}{a:Scope}{f:Addr}{g:Value}{A:Around}{outer:List Env}{s e:Shared}{H:Hp}{E:XK}{b:yad}{vs:yar}
  (S:aE N ps a) (i:A.handled=none) (d:Ct P w K h base A outer s H) (o:vs.length=ps.length) (r:Vals vs b)
  (x:InCallC s s.heap.objs.size (bindL (envOfC c a s.heap.objs.size f g).kindOf (ps.zip b) λ_=>none) (cellsFrom (s.heap.objs.size+1) a.names []) (bindC (envOfC c a s.heap.objs.size f g).kindOf (ps.zip b) λ_=>none) e) :
  Inv (dA CX P w K h base N c a f g A outer s H E) [] (start N vs) H e:=by
 have QW:ps.length<=N.length:=by have:=congrArg List.length S.pre;grind
 obtain⟨k,m,rfl,l⟩:=x.done;have e:∀b:Addr,b∉(dA CX P w K h base N c a f g A outer s H E).ex:=λb z=>absurd (show b∈([]:yae)from z) (by simp)
 refine⟨⟨d.mod,S.kind,rfl,rfl,Qu _,λy z c k j=>?_,λy f=>?_,λy c _ h=>?_,λ_=>i,Around.frames_deeper d.frames,.inr ⟨rfl,rfl⟩,λb z=>absurd z (e b),d.bs,d.Zg,λb _ _=>e b,by simp_all,d.Ta,d.Zh⟩,
  rfl,d.bare,Un.kept l,⟨_,x.toInCall.ns,λi y v k j t=>?_⟩,λy c h=>⟨_,x.cell y c h⟩,d.PW.fresh (Qu _),λy c h=>?_,λp g=>absurd (show p∈([]:yab)from g) (by simp),d.PW.kept l,?_⟩
 exact name_of_addr x.apart (PySem.mem_of_lookup k) (PySem.mem_of_lookup j);rcases f with f|f;exact yo f;exact absurd rfl (S.ZY _ (PySem.mem_of_lookup f));exact V7 (x.above y c (PySem.mem_of_lookup h))
 ·have b:i<vs.length:=by
   unfold start at j;by_cases b:i<vs.length
   all_goals simp_all [Wy,zCu]
  have b:vs[i]?=some v:=by
   unfold start at j
   simp_all [V2,QZ]
  obtain⟨u,f,e⟩:=r.get b;have g:ps[i]?=some y:=by rw[<- S.pre,List.getElem?_take_of_lt (by lia)];exact k
  have b:ps.Nodup:=by rw[<- S.pre];exact S.nd.sublist (List.take_sublist _ _)
  refine⟨u,e,?_⟩;rcases S.par y (Rt g)with k|k;exact .inl ⟨k,wD b g f k⟩;obtain⟨c,e⟩:=yo (n:=s.heap.objs.size+1) k;refine .inr ⟨.inl k,c,e,?_⟩;have q:=x.cell y c e;rw[wA b g f (by show a.names.lookup y≠_;rw[k];decide)]at q;exact q
 exact d.PW.fresh (V7 (x.above y c (PySem.mem_of_lookup h)));unfold start;show _=N.length;grind
def I0{CX:CXT}{P:Program}{w:World}{K:yac}{i:yam}{base:Heap}{k:Nat}{f:Addr}{name c:Str}{b:Arguments}{d:yal}{a:Scope}{l kV h j g m q:Value}{n o:Option Addr}
  {r:Array (yan)} {N ps:yah} {sp:Sp} (lk:K.lookup f=some ⟨q,o,.func (PySem.W.fnOf name c b d a l kV h j n g m),r⟩) (C:PySem.W.codeIn K g c=true) (S:aE N ps a)
  (e:∀vs H Q E,sp vs H Q E->vs.length=ps.length)
  (B:∀(A:Around) (outer:List Env) (s:Shared) (H:Hp) (vs:yar) (Q:VK) (E:XK),b6 k (A.deeper (envOfC c a s.heap.objs.size f g))->sp vs H Q E →
   ∃ t,ZU (dA CX P w K i base N c a f g A outer s H E) d t/\t {nx:=λ_ H'=>Q .Qe H',rt:=Q} (start N vs) H) :
  aK P w K i base CX (k+1) f (PySem.W.fnOf name c b d a l kV h j n g m) ps sp:=by
 refine⟨e,λA outer s H p m vs Q E j d x r k=>?_⟩;have u:=e _ _ _ _ k;have l:K.In s.heap:=d.mod.Zf.keeps λb o e=>(d.bs b o e).1
 have h:s.heap.NoLimit:=d.mod.nolimit.keeps λb o e=>(d.bs b o e).1
 have b:∀y∈ps.zip m,a.names.lookup y.1=some .local∨(a.names.lookup y.1=some .cell/\((cellsFrom (s.heap.objs.size+1) a.names []).lookup y.1).isSome=true):=λ⟨n,v⟩ m=>by
  rcases S.par n (W9 m).1 with q|q;exact .inl q
  simp_all [PySem.W.cellsFrom_some]
 refine codeAny_call_function j.depth (l _ _ lk) rfl S.co S.gen rfl (PySem.W.codeRec_of l C) (x _ _ _ _ ?_);refine wpAny_newFunctionEnv_cells S.kind b λz l b x=>?_
 subst l;refine⟨h.keeps x.toInCall.keep,codeAny_func ?_⟩;obtain⟨t,h,l⟩:=B A outer s H vs Q E (j.deeper _) k;have I:Inv (dA CX P w K i base N c a f g A outer s H E) [] (start N vs) H b:=EU S j.hd d u r x;refine Tv (h [] b (start N vs) H _ I l) (λj h b=>?_) λe h b=>b
 have d:∀{e:St} {H':Hp} {v:V} {u:Value},Inv (dA CX P w K i base N c a f g A outer s H E) [] e H' h->RelV v u->Q v H'->CE outer P w H s Q u h :=
  fun {e H' v u} J a q=>⟨v,H',J.os,J.bare,J.base,J.PW,a,q⟩
 cases j with
 |ret u =>
  obtain⟨v,e,H',J,a,q⟩:=b;exact d J a q
 |next =>
  obtain⟨e,H',J,q⟩:=b;exact d (v:=V.Qe) (u:=Value.none) J rfl q
 |brk =>
  obtain⟨_,_,_,q⟩:=b
  simp_all
 |cont =>
  obtain⟨_,_,_,q⟩:=b
  simp_all
section
variable{X:Cx}{x:Str}{p pos:Pos}{e:Expr}{es:yai}{t:TA}{id T:String}{r:yar->Hp->VK->Prop}
def tCB(r:yar->Hp->VK->Prop)(t:TA):TE:=λa H Q=>t a H λa b=>r a b Q
def FC (j:qz X (.type T) r) (g:Gl X x) (f:X.mg x=none) (c:bootBuiltins x=some (.type T)) (k:PA X (e::es) t) (d:x ≠ "__name__" := by decide) (l:(x==("__debug__" : Str))=false:=by decide)
  (i:starEach (e::es) X.env=(false,eval e X.env)::starEach es X.env:=by rfl) (m:(backTo pos (starEach es X.env)).any (·.1)=false:=by rfl):PE X (.Call (.Name x p) (e::es) [] pos) (tCB r t):=by
 intro a s b H Q I h;refine VE (cE I g f c ?_ d l);exact PyProof.Rows.callWith_type1 (Px (k pos a s b H _ I h) λd f k=>(by obtain⟨c,n,l,g,h⟩:=k;exact j a f b n c d Q l g h)) i m
end
end L2
namespace HT
open PySem PyProof.Rows
noncomputable def lexLt:yaf->yaf->Bool
 |[],[]=>false
 |[],_::_=>true
 |_::_,[]=>false
 |x::b,y::a=>if x=y then lexLt b a else decide (x<y)
section
open PySem.SeqAt
open PySem.AutoSeq1 (wpAny_loadPart')
open PySem.MeetsSeq PySem.MeetsSeq2 PySem.MeetsSeq3
end
section
variable{prog:Program}{w:World}{A:Around}{E:yaa}{s:Shared}
noncomputable def Qy(n d:Nat):yaq->Nat
 |none=>d
 |some v=>if v<0 then(v+(n:Int)).toNat else min v.toNat n
theorem Ij(n d:Nat):Qy n d none=d:=rfl
def qX(n d k:Nat):Qy n d (some (k:Int))=min k n:=by
 show(if(k:Int)<0 then((k:Int)+(n:Int)).toNat else min (k:Int).toNat n)=min k n
 simp_all [Po,Int.toNat_natCast]
def Bi(v:Int)(n d:Nat):(if v<0 then max (v+(n:Int)) 0 else min v (n:Int))=((Qy n d (some v):Nat):Int):=by
 show(if v<0 then max (v+(n:Int)) 0 else min v (n:Int))=(((if v<0 then(v+(n:Int)).toNat else min v.toNat n):Nat):Int)
 lia
theorem CJ(lo a:yaq)(n:Nat):Builtin.Slice.sliceAdjust lo a 1 (n:Int)=(((Qy n 0 lo:Nat):Int),((Qy n n a:Nat):Int)):=by
 have b:¬((1:Int)<0):=by lia
 unfold Builtin.Slice.sliceAdjust;refine Prod.ext ?_ ?_;cases lo with
 |none=>rfl
 |some v=>exact Bi v n 0
 cases a with
 |none=>rfl
 |some v=>exact Bi v n n
theorem Dv(i j:Nat):Builtin.Slice.slicePlaces (i:Int) (j:Int) 1=j - i:=by
 unfold Builtin.Slice.slicePlaces
 lia
def uJ{Q:yaq->Shared->Prop}(p:IsPart v o)(h:Q o s):wpAny (model prog w) A (Builtin.Slice.slicePartIndex v) Q E s:=by
 cases p with
 |none=>exact slicePart_none h
 |int i t=>exact slicePart_int h
def sU{c:Addr}{b a:Value}{lo d:yaq}{n:Nat}{Q:Int×Int×Nat->Shared->Prop}(hs:s.heap.IsSliceOf c b a .none)(f:IsPart b lo)(e:IsPart a d)
  (h:Q (((Qy n 0 lo:Nat):Int),1,Qy n n d - Qy n 0 lo) s):wpAny (model prog w) A (Builtin.Slice.sliceApplied (.ref c) (pure (n:Int))) Q E s:=by
 obtain⟨os,c,g,d⟩:=id hs;refine Pk (Pk (TC c d (x:=b) rfl (Pk (TC c d (x:=a) rfl (Pk (TC c d (x:=.none) rfl (wpAny_pure ?_)))))));refine Pk (slicePart_none ?_);refine Pk (uJ f (Pk (uJ e (Pk (wpAny_pure ?_)))));grind [CJ,Dv,wpAny_pure]
def HU(xs:yao)(i k:Nat):((List.range k).filterMap λ(m:Nat)=>xs[((i:Int)+(m:Int)*1).toNat]?).toArray=((xs.toList.drop i).take k).toArray:=by
 have e:(λ(m:Nat)=>xs[((i:Int)+(m:Int)*1).toNat]?)=λm=>xs[i+m]?:=by grind
 have:=pick_run xs i k;have a:((λx=>xs[x]?)∘λx=>i+x)=λm=>xs[i+m]?:=rfl
 simp_all
def rf{t d:Addr}{items:yao}{e c:Value}{lo a:yaq}{Q:yaa}(b:IsTup s.heap t items)(hs:s.heap.IsSliceOf d e c .none)(i:IsPart e lo)(g:IsPart c a)
  (k:¬(Qy items.size 0 lo=0/\Qy items.size items.size a=items.size))
  (h:Q (.ref s.heap.objs.size) {s with heap:=s.heap.push {cls:=.type "tuple", data:=.seq ((items.toList.drop (Qy items.size 0 lo)).take (Qy items.size items.size a - Qy items.size 0 lo)).toArray} })
  (hsz:items.size<=sizeLine):wpAny (model prog w) A (getItem (.ref t) (.ref d)) Q E s:=by
 have c:sizeOk (.seq ((items.toList.drop (Qy items.size 0 lo)).take (Qy items.size items.size a - Qy items.size 0 lo)).toArray):=by
  show((items.toList.drop (Qy items.size 0 lo)).take (Qy items.size items.size a - Qy items.size 0 lo)).toArray.size<=sizeLine;rw[S8,Uv,zCq,Tp]
  lia
 obtain⟨os,j,e,QB⟩:=id hs;have f:s.TypeIs (.ref d) "slice" := ⟨os,j,e⟩;unfold getItem
 try with_reducible refine Ub ?_
 refine Pk (wpAny_sequenceKey b.typeIs (by decide) ?_);refine Pk (Yl (name:=Str.ofString "__getitem__") b.typeIs PyProof.Rows.slot_tuple_getitem
  (Wj PyProof.Rows.slot_tuple_getitem b.typeIs entry_tuple_getitem ?_ (args_tuple_getitem _ _)))
 show wpAny _ _ (Builtin.Tuple.tupleItemsOf (.ref t) >>= _) _ _ s;refine Pk (tupleItemsOf_ b ?_);refine Pk (wpAny_typeOf f ?_);refine Pk (sU hs i g ?_);have b:¬((((Qy items.size 0 lo:Nat):Int)==0 && (1:Int)==1 && (Qy items.size items.size a - Qy items.size 0 lo)==items.size)=true):=by lia
 show wpAny _ _ (if(((Qy items.size 0 lo:Nat):Int)==0 && (1:Int)==1 && (Qy items.size items.size a - Qy items.size 0 lo)==items.size)=true then _ else _) _ _ s;rw[Po b,HU]
 first
  |exact Pk (m:=Builtin.Tuple.tupleExact _) (XQ (wpAny_pure ⟨_,rfl,wpAny_pure h⟩) c)
  |exact Pk (m:=Builtin.Tuple.tupleExact _) (XQ (Pk (wpAny_pure (wpAny_pure ⟨_,rfl,wpAny_pure h⟩))) c)
  |exact Pk (Pk (m:=Builtin.Tuple.tupleExact _) (XQ (wpAny_pure (wpAny_pure ⟨_,rfl,wpAny_pure h⟩)) c))
  |exact Pk (Pk (m:=Builtin.Tuple.tupleExact _) (XQ (wpAny_pure ⟨_,rfl,wpAny_pure h⟩) c))
end
end HT
namespace L2
open PySem PySem.Spec PyProof.Rows
abbrev TO:=St->Hp->(yaq->Hp->Prop)->Prop
def intsAre_of{ns:yaf}:∀{a:yad},Vals (ns.map V.int) a->IntsAre a ns:=by
 induction ns with
 |nil=>intro a r;cases r;exact .nil
 |cons n ns ih =>
  intro a r;cases r with
  |cons b a =>
   obtain⟨t,e⟩:=b;subst e;exact .cons n t (ih a)
section
variable{X:Cx}{e:Expr}{te:TE}{lo hi:Option Expr}{tl th:TO}{pos p2:Pos}
def SlR(X:Cx)(r:V->yaq->yaq->Hp->VK->Prop):Prop :=
 ∀ (a:yab) (s:Shared) (b:St) (H:Hp) (x:V) (v d c:Value) (lo hi:yaq) (f:Addr) (Q:VK),Inv X a b H s->RelV x v->s.heap.IsSliceOf f d c .none->IsPart d lo->IsPart c hi->r x lo hi H Q →
  ∃ T id,typeLookup (.type T) "__getitem__" = pure (some (.builtin id))/\s.TypeIs v T/\wpAny (model X.prog X.w) X.A (getItem v (.ref f)) (EP X a b Q) X.xe s
def pf(xs:yar)(lo hi:yaq):yar:=(xs.drop (HT.Qy xs.length 0 lo)).take (HT.Qy xs.length xs.length hi - HT.Qy xs.length 0 lo)
def rD(xs:yar)(lo hi:yaq):(pf xs lo hi).length<=xs.length:=by
 unfold pf;rw[Uv,zCq]
 lia
def OX(K:yac):V->yaq->yaq->Hp->VK->Prop:=λx lo hi H Q=>∃a b,x=.ref a/\Ql K H a b ∧
 ¬ (HT.Qy b.length 0 lo=0/\HT.Qy b.length b.length hi=b.length)/\∀p,H p=none->Q (.ref p) (upd H p (.tup (pf b lo hi)))
def Nv:SlR X (OX X.K):=by
 intro d s l H x v n m lo hi p Q I b j g f h;obtain⟨a,c,rfl,a,i,q⟩:=h;cases b;obtain⟨k,r,b,h⟩:=I.tuple a;have a:k.toArray.size=c.length:=by exact r.length.symm
 refine⟨"tuple", _,PyProof.Rows.slot_tuple_getitem.lookup,b.typeIs,?_⟩;refine HT.rf b j g f (by rw[a];exact i) ?_ (by simp_all);rw[a];refine⟨.ref s.heap.objs.size,_,I.laid (t':=s.toks) (o:=.tup (pf c lo hi)) (λb ob q=>QN _ q) (Qu _) ?_,rfl,q _ (I.PW.fresh (Qu _))⟩;exact⟨QM (rD c lo hi) h,_,(r.drop (HT.Qy c.length 0 lo)).take (HT.Qy c.length c.length hi - HT.Qy c.length 0 lo),IsTup.new _ _⟩
end
noncomputable def ixN(n:Nat)(i:Int):Option Nat:=if 0<=i then(if i<n then some i.toNat else none)else if -(n:Int)<=i then some (i+n).toNat else none
def Rz{a:Type}(xs:List a)(i:Int):Option a:=(ixN xs.length i).bind λj=>xs[j]?
def Ka{j:Nat}(h:ixN n i=some j):seqIndex? i n=some j/\j<n/\-(n:Int)<=i/\i<n:=by
 unfold ixN at h;by_cases b:0<=i;rw[Pt b]at h;by_cases a:i<n;grind [Option.some.inj,seqIndex_of]
 simp_all
 rw[Po b]at h;by_cases a:-(n:Int)<=i;rw[Pt a]at h;grind [Option.some.inj,seqIndex_neg]
 simp_all
def Bh{a:Type}{xs:List a}{i:Int}{v:a}(h:Rz xs i=some v):∃j,seqIndex? i xs.length=some j/\xs[j]?=some v/\j<xs.length/\-(xs.length:Int)<=i/\i<xs.length:=by
 unfold Rz at h;cases e:ixN xs.length i with
 |none=>simp_all
 |some j =>
  rw[e]at h;obtain⟨d,c,b,a⟩:=Ka e;exact⟨j,d,h,c,b,a⟩
def bD{a:Type}{xs:List a}{j:Nat}{v:a}(h:xs[j]?=some v):Rz xs (j:Int)=some v:=by
 have b:j<xs.length:=(RQ.mp h).1;have e:ixN xs.length (j:Int)=some j:=by
  unfold ixN
  simp_all
 unfold Rz;rw[e];exact h
def GO{a:Type}(xs:List a)(v:a):Rz (xs++[v]) (-1)=some v:=by
 have b:(xs++[v]).length=xs.length+1:=by simp
 have e:ixN (xs++[v]).length (-1)=some xs.length:=by unfold ixN;grind
 unfold Rz
 simp_all
def Bg(b:Expr):Prop:=∀o i,subscripted b false o i=operate [o,i] (getItem o i)
def IxR(X:Cx)(r:R2):Prop :=
 ∀ (c a:Expr) (b:yab) (s:Shared) (d:St) (H:Hp) (x y:V) (v u:Value) (Q:VK),Inv X b d H s->RelV x v->RelV y u->r x y H Q →
  subscripted a false v u=operate [v,u] (getItem v u)->wpAny (model X.prog X.w) X.A (subscriptTail c a v u) (EP X b d Q) X.xe s
def MtR(X:Cx)(id:String)(r:V->yar->Hp->VK->Prop):Prop :=
 ∀ (a:yab) (s:Shared) (b:St) (H:Hp) (x:V) (c:yar) (v:Value) (d:yad) (Q:VK),Inv X a b H s->RelV x v->Vals c d->r x c H Q →
  wpAny (model X.prog X.w) X.A (call (.builtin id) (v::d)) (EP X a b Q) X.xe s
section
variable{X:Cx}{a b:Expr}{ta tb:TE}{pos:Pos}
def Ji(i:IxR X r)(f:PE X a ta)(e:PE X b tb)(hs:Bg b):PE X (.Subscript a b pos) (tOp r ta tb):=by intro c s d H Q I h;exact Subscript_ (OC f e I h λv u e x y j h g f q=>i a b c e d j x y v u Q h g f q (hs _ _))
def OW(K:yac):R2:=λx y H Q=>∃p c i v,x=.ref p/\y=.int i/\SqL K H p c/\Rz c i=some v/\Q v H
def HZ(K:yac):R2:=λx y H Q=>∃p c i v,x=.ref p/\y=.int i/\Ql K H p c/\Rz c i=some v/\Q v H
def Kb:IxR X (OW X.K):=by
 intro e f c s k H x y v u Q I g d h l;obtain⟨p,A,i,z,rfl,rfl,j,n,q⟩:=h;cases g;obtain⟨t,rfl⟩:=d;obtain⟨u,r,g,B⟩:=I.list j;obtain⟨j,m,d,G,t,p⟩:=Bh n;obtain⟨w,o,h⟩:=r.get d;have E:=r.length;have C:=zt;have d:EP X c k Q w s:=⟨z,H,I,h,q⟩;by_cases n:0<=i;have h:i.toNat=j:=by
  rw[seqIndex_of n p]at m
  lia
 exact item_listR g.isList n (by lia) (by rw[h];simpa using o) d l;have h:(i+(u.toArray.size:Int)).toNat=j:=by
  rw[seqIndex_neg (by lia) t]at m
  simp_all
 exact subscriptTail_builtinR (x:=w) g.isList.typeIs slot_list_getitem.lookup
  (wpAny_getItem_list_neg (Q:=λr i=>r=w/\EP X c k Q r i) g.isList (by lia) (by simp_all) (by lia) (by rw[h];simpa using o) ⟨rfl,d⟩) l
def zh:IxR X (HZ X.K):=by
 intro d e c s g H x y v u Q I j f h k;obtain⟨p,m,i,z,rfl,rfl,i,l,q⟩:=h;cases j;obtain⟨t,rfl⟩:=f;obtain⟨Pp,r,h,n⟩:=I.tuple i;obtain⟨j,G,f,E,C,B⟩:=Bh l;obtain⟨w,l,i⟩:=r.get f;have A:=r.length;have o:=zt;have f:EP X c g Q w s:=⟨z,H,I,i,q⟩;exact subscriptTail_builtinR (x:=w) h.typeIs slot_tuple_getitem.lookup
  (getItem_tuple (j:=j) (Q:=λr i=>r=w/\EP X c g Q r i) h (by lia) (by lia) (by simp_all) (by simpa using l) ⟨rfl,f⟩) k
theorem Inv.lst(I:Inv X pins σ H s)(h:H p=some (.lst xs)) :
  ∃ (c:yad) (n:Nat),Vals xs c/\s.heap.get? p=some {cls:=.type "list", data:=.seq c.toArray n}/\xs.length<=sizeLine:=by
 obtain⟨z,c,n,r,e⟩:=I.PW p _ h;exact⟨c,n,r,e,z⟩
def Ac(lo c:yaq)(n:Nat):(sliceBounds lo c none n).1=((HT.Qy n 0 lo:Nat):Int)/\(sliceBounds lo c none n).2.1=((HT.Qy n n c:Nat):Int)/\(sliceBounds lo c none n).2.2=1:=by
 refine⟨?_,?_,rfl⟩;cases lo with
 |none=>simp[sliceBounds,HT.Qy]
 |some i =>
  simp only[sliceBounds,HT.Qy,Option.getD_none,show(1:Int) > 0 by decide,if_true];by_cases h:i<0;simp only[h,if_true]<;>lia;simp only[h,if_false]<;>lia
 cases c with
 |none=>simp[sliceBounds,HT.Qy]
 |some i =>
  simp only[sliceBounds,HT.Qy,Option.getD_none,show(1:Int) > 0 by decide,if_true];by_cases h:i<0;simp only[h,if_true]<;>lia;simp only[h,if_false]<;>lia
def xA(c:yad)(lo d:yaq):slicePick c.toArray lo d none=((c.drop (HT.Qy c.length 0 lo)).take (HT.Qy c.length c.length d - HT.Qy c.length 0 lo)).toArray:=by obtain⟨g,f,e⟩:=Ac lo d c.toArray.size;unfold slicePick;rw[g,f,e];simp only[sliceRange_one,pick_run,S8]<;>rfl
def yj:qz X (.builtin "len") (λxs H Q=>∃p ys,xs=[.ref p]/\(SqL X.K H p ys∨Ql X.K H p ys)/\Q (.int ys.length) H):=by
 intro g s j H xs k Q I r h;obtain⟨p,ys,rfl,c,q⟩:=h;obtain⟨u,rfl,d⟩:=vals1 r;cases d;have l:=zt;rcases c with c|c;obtain⟨i,e,f,h⟩:=I.list c;have d:=e.length;exact Calls.call_len_list f.isList (by simp only[S8]<;>lia) ⟨.int ys.length,H,I.tok _,⟨s.toks+1,by grind⟩,q⟩;obtain⟨i,e,f,h⟩:=I.tuple c;have d:=e.length;exact len_tuple f (by simp only[S8]<;>lia) ⟨.int ys.length,H,I.tok _,⟨s.toks+1,by simp_all⟩,q⟩
def yn:qz X (.type "list") (λxs H Q=>∃p ys,xs=[.ref p]/\(SqL X.K H p ys∨Ql X.K H p ys)/\∀l,H l=none->Q (.ref l) (upd H l (.lst ys))):=by
 intro e s i H xs t Q I r h;obtain⟨p,ys,rfl,hq,q⟩:=h;obtain⟨u,rfl,c⟩:=vals1 r;cases c;have k:∀(d:yad),Vals ys d->ys.length<=sizeLine->∀(c:Heap) (g:Nat),(∀b f,s.heap.get? b=some f->c.get? b=some f) →
   c.get? s.heap.objs.size=some {cls:=.type "list", dict:=none,data:=.seq d.toArray g,slots:=#[]}->EP X e i Q (.ref s.heap.objs.size) {s with heap:=c}:=λd f i c g h e =>
  ⟨.ref s.heap.objs.size,_,I.laid (t':=s.toks) h (Qu _) (show bN X.prog X.w _ c _ (.lst ys)from⟨i,d,g,f,e⟩),rfl,q _ (I.PW.fresh (Qu _))⟩
 rcases hq with hq|hq;obtain⟨d,f,l,i⟩:=I.list hq;have j:=f.length;obtain⟨o,m,r,n,q⟩:=l.isList;exact call_list_seq p (.inl rfl) m r q (λc g h e=>k d f i c g h e) (by simp_all);obtain⟨d,f,l,i⟩:=I.tuple hq;have j:=f.length;obtain⟨o,m,r,n,q⟩:=l;exact call_list_seq p (.inr rfl) m r q (λc g h e=>k d f i c g h e) (by simp_all)
def X2(K:yac)(T:String)(x:V)(H:Hp):Prop:=match x with
 |.str _=>T = "str"
 |.int _=>T = "int"
 |.ref p=>(T = "list" /\∃c,SqL K H p c)∨(T = "tuple" /\∃o,K.lookup p=some o/\o.cls=.type "tuple" /\ o.dict=none) ∨
   (T = "dict" /\ ((∃c,H p=some (.dK c))∨∃ c,H p=some (.dT c)))∨(T = "set" /\∃S n,H p=some (.set S n))
 |_=>False
def Gb(I:Inv X pins σ H s)(r:RelV x v)(f:X2 X.K T x H) :
  s.TypeIs v T/\∀a,v=.ref a->∃ob,s.heap.get? a=some ob/\ob.dict=none:=by
 cases x with
 |str z =>
  obtain⟨t,rfl⟩:=r;cases(show T = "str" from f);grind [typeIs_str]
 |int i =>
  obtain⟨t,rfl⟩:=r;cases(show T = "int" from f);grind [typeIs_int]
 |ref p =>
  cases r;rcases f with⟨rfl,j,c⟩| ⟨rfl,o,d,i,h⟩| ⟨rfl,d⟩| ⟨rfl,S,n,d⟩;obtain⟨Pp,_,g,_⟩:=I.list c;refine⟨g.isList.typeIs,λa e=>?_⟩;obtain⟨o,n,e,c,h,_⟩:=g
  simp_all
  refine⟨⟨o,I.Ug p o d,i⟩,λa e=>?_⟩;cases e;exact⟨o,I.Ug _ o d,h⟩;have z:∃o,s.heap.get? p=some o/\o.ExactDict:=by
   rcases d with⟨c,d⟩| ⟨c,d⟩;obtain⟨_,_,_,_,o,_,_,e,c,_⟩:=I.PW p _ d
   simp_all
   obtain⟨_,_,_,_,o,_,_,e,c,_⟩:=I.PW p _ d
   simp_all
  obtain⟨o,e,c⟩:=z;refine⟨⟨o,e,c.1⟩,λa g=>?_⟩;cases g;exact⟨o,e,c.2.1⟩;obtain⟨o,_,_,_,e,c,_⟩:=I.PW p _ d;refine⟨⟨o,e,c.1⟩,λa g=>?_⟩;cases g;exact⟨o,e,c.2.1⟩
 |_=>exact False.elim f
def Iv(K:yac)(T:String)(r:V->yar->Hp->VK->Prop)(d:TE):TE:=λc H Q=>d c H λx c=>X2 K T x c/\r x [] c Q
def tBM(K:yac)(T:String)(r:V->yar->Hp->VK->Prop)(d:TE)(t:TA):TE:=λc H Q=>d c H λx d=>X2 K T x d/\t c d λc d=>r x c d Q
variable{o e:Expr}{es:yai}{to:TE}{t:TA}{name:Str}{apos cpos:Pos}{T id:String}{r:V->yar->Hp->VK->Prop}
def zN (m:PlainAttrs T) (d:Slot T name id) (f:typeOf (.builtin id)=pure (.type "method_descriptor")) (n:MtR X id r) (i:PE X o to)
  (k:attributeBase o name X.env (eval o X.env)=eval o X.env:=by rfl) (j:(apos.endLine==cpos.line)=true:=by rfl):PE X (.Call (.Attribute o name apos) [] [] cpos) (Iv X.K T r to):=by
 intro c s g H Q I h;refine wpAny_Call_method0_late k j (Px (i c s g H _ I h) λv k p=>?_);obtain⟨x,s,i,h,j,l⟩:=p;obtain⟨q,p⟩:=Gb i h j;exact⟨T,id,m,d,f,q,p,Calls.callWith_builtin rfl (PySem.evalArgs_none (n c k g s x [] v [] Q i h .nil l))⟩
def Ds (m:PlainAttrs T) (d:Slot T name id) (g:typeOf (.builtin id)=pure (.type "method_descriptor")) (n:MtR X id r) (i:PE X o to) (p:PA X (e::es) t)
  (l:attributeBase o name X.env (eval o X.env)=eval o X.env:=by rfl)
  (j:((backTo cpos (starEach (e::es) X.env)).all (λx=>!x.1) && (backToKw cpos (keywordEach [] X.env)).all (λx=>x.1.isSome)
   && decide ((e::es).length+([]:List Keyword).length+(if([]:List Keyword).isEmpty then 0 else 1)<30))=true:=by rfl)
  (k:(apos.endLine==cpos.line)=true:=by rfl) (hs:starEach (e::es) X.env=(false,eval e X.env)::starEach es X.env:=by rfl) (UO:(backTo cpos (starEach es X.env)).any (·.1)=false:=by rfl) :
  PE X (.Call (.Attribute o name apos) (e::es) [] cpos) (tBM X.K T r to t):=by
 intro c s f H Q I h;refine wpAny_Call_method_late l j k rfl (Px (i c s f H _ I h) λv k q=>?_);obtain⟨x,u,i,h,j,l⟩:=q;obtain⟨s,q⟩:=Gb i h j;refine⟨T,id,m,d,g,s,q,?_⟩;have d:=p cpos c k f u _ i l;rw[hs]at d ⊢;refine Calls.callWith_builtin (by simp_all) (Calls.evalArgs_plain ?_);exact Px d λg i l=>(by obtain⟨d,p,m,j,k⟩:=l;exact n c i f p x d v g Q m h j k)
end
def MtM(X:Cx)(id:String)(r:V->yar->Hp->VK->Prop):Prop :=
 ∀ (a:yab) (s:Shared) (b:St) (H:Hp) (x:V) (c:yar) (v:Value) (d:yad) (Q:VK),Inv X a b H s->RelV x v->Vals c d->r x c H Q →
  wpAny (model X.prog X.w) X.A (call (.builtin id) (v::d)) (EP X a b Q) X.xe s
def Vals.one:∀{x:V} {a:yad},Vals [x] a->∃u,a=[u]/\RelV x u
 |_,_,.cons r .nil=>⟨_,rfl,r⟩
def Vals.zero:∀{a:yad},Vals [] a->a=[]
 |_,.nil=>rfl
theorem Vals.dropLast(h:Vals xs us):Vals xs.dropLast us.dropLast:=by
 induction h with
 |nil=>exact .nil
 |cons r t ih =>
  cases t with
  |nil=>exact .nil
  |cons q a=>exact .cons r ih
section
variable{X:Cx}{pins:yab}{σ:St}{H:Hp}{s:Shared}{l b:Addr}{xs ys zs:yar}
def Inv.Yw{a its':yad}{f:yao->yao}{t':Nat}(I:Inv X pins σ H s)(g:H l=some (.lst xs))
  (e:s.heap.get? l=some {cls:=.type "list", data:=.seq a.toArray n}) (d:f a.toArray=its'.toArray) (c:Vals ys its') (hz:ys.length<=sizeLine) :
  Inv X pins σ (upd H l (.lst ys)) {s with heap:=s.heap.update l (Obj.mapSeq f),toks:=t'}:=by
 have q:=PySem.IsL.update e f;rw[d]at q;refine I.write (x:=l) (e:=l) (by rw[g];exact trivial) (.inl rfl) (λh u d a=>(WC s.heap (Obj.mapSeq f) (Ne.symm d)).trans a) ⟨_,q⟩ ?_;exact⟨hz,its',_,c,q⟩
def Inv.Xk (I:Inv X pins σ H s) (c:H l=some (.lst xs)):xs.length<=sizeLine/\∃(a:yad) (n:Nat),Vals xs a/\xs.length=a.length/\s.heap.get? l=some {cls:=.type "list", data:=.seq a.toArray n}:=by obtain⟨z,a,n,r,e⟩:=I.PW l _ c;exact⟨z,a,n,r,r.length,e⟩
def HA{n:Nat}(h:n<=sizeLine):Builtin.List.listTooLong n=false:=by
 unfold Builtin.List.listTooLong
 lia
end
section
variable{X:Cx}
def B7:V->yar->Hp->VK->Prop:=λx b H Q=>∃l a y,x=.ref l/\b=[y]/\H l=some (.lst a)/\a.length<sizeLine/\Q .Qe (upd H l (.lst (a++[y])))
def pL:MtM X "list.append" B7:=by intro a s g H x j v k Q I c d h;obtain⟨l,i,y,rfl,rfl,b,m,q⟩:=h;cases c;obtain⟨u,rfl,f⟩:=d.one;obtain⟨z,c,n,r,o,e⟩:=I.Xk b;refine call_meets F.slot_list_append ⟨_,e,rfl⟩ F.entry_list_append (F.args_list_append_2 _ _) (PySem.list_append l c.toArray n u (by grind)) ⟨e,?_⟩;refine⟨.Qe,_,I.Yw (its':=c++[u]) b e (by simp) (r.append (.cons f .nil)) ?_,rfl,q⟩;grind
def KJ:V->yar->Hp->VK->Prop:=λx d H Q=>∃l b c a,x=.ref l/\d=[.ref b]/\H l=some (.lst c)/\H b=some (.lst a)/\c.length+a.length<=sizeLine/\Q .Qe (upd H l (.lst (c++a)))
def Fb:MtM X "list.extend" KJ:=by
 intro g s o H x y v A Q I a c h;obtain⟨l,b,w,p,rfl,rfl,i,f,B,q⟩:=h;cases a;obtain⟨u,rfl,a⟩:=c.one;cases a;obtain⟨z,c,n,r,C,e⟩:=I.Xk i;obtain⟨t,d,j,h,k,m⟩:=I.Xk f;have f:c.toArray.size+d.toArray.size<=sizeLine:=by grind
 have a:¬(!c.toArray.isEmpty && Builtin.List.listTooLong (c.toArray.size+d.toArray.size))=true:=by
  rw[HA f,Bool.and_false]
  lia
 refine call_meets F.slot_list_extend ⟨_,e,rfl⟩ F.entry_list_extend (F.args_list_extend_2 _ _)
  (AutoSeq1.list_extend_list_list_0 l c.toArray n b d.toArray j a (by lia) (by lia)) ⟨e,m,?_⟩
 refine⟨.Qe,_,I.Yw (its':=c++d) i e (by simp) (r.append h) ?_,rfl,q⟩
 simp_all
def Nk:V->yar->Hp->VK->Prop:=λx b H Q=>∃l a y,x=.ref l/\b=[]/\H l=some (.lst a)/\a[a.length - 1]?=some y/\Q y (upd H l (.lst a.dropLast))
def Fc:MtM X "list.pop" Nk:=by
 intro b s g H x j v k Q I a d h;obtain⟨l,i,y,rfl,rfl,c,f,q⟩:=h;cases a;have a:=d.zero;subst a;obtain⟨z,a,n,r,o,e⟩:=I.Xk c;obtain⟨u,m,d⟩:=r.get f;have f:a.toArray[a.toArray.size - 1]?=some u:=by simp_all
 refine call_meets F.slot_list_pop ⟨_,e,rfl⟩ F.entry_list_pop (F.args_list_pop_1 _) (MeetsSeq.list_pop_last l a.toArray n u f (by grind)) ⟨e,?_⟩;refine⟨y,_,I.Yw (its':=a.dropLast) c e ?_ r.dropLast ?_,d,q⟩
 all_goals grind
def FK:V->yar->Hp->VK->Prop:=λx b H Q=>∃l a,x=.ref l/\b=[]/\H l=some (.lst a)/\Q .Qe (upd H l (.lst []))
def zA:MtM X "list.clear" FK:=by intro b s f H x i v j Q I a d h;obtain⟨l,g,rfl,rfl,c,q⟩:=h;cases a;have a:=d.zero;subst a;obtain⟨z,a,n,r,k,e⟩:=I.Xk c;refine call_meets F.slot_list_clear ⟨_,e,rfl⟩ F.entry_list_clear (F.args_list_clear_1 _) (AutoSeq1.list_clear_list_0 l a.toArray n (by simp_all)) ⟨e,?_⟩;exact⟨.Qe,_,I.Yw (its':=[]) (ys:=[]) c e rfl .nil (RS _),rfl,q⟩
end
section
variable{prog:Program}{w:World}{A:Around}{E:yaa}{s:Shared}
set_option maxRecDepth 100000 in
end
end L2
namespace Att
open PySem PySem.W PySem.Calls PyProof.Rows
def ui:∀(ns:yaf) (vs:yad),WellAll P h vs (ns.map WData.int)->IntsAre vs ns:=by
 intro ns
 induction ns with
 |nil =>
  intro vs w;cases w;exact .nil
 |cons n ns ih =>
  intro vs w;cases w with
  |cons a b =>
   cases a;exact .cons _ _ (ih _ b)
def FX{l:OpenLaw}{n:Nat}(p:l.most=some n)
  (e:l.row.toRowW.claim.pre args=true) (b:WellAll P h vals args) :
  ∃ a vs ns,vals=[Value.ref a]/\args=[WData.list (ns.map WData.int)]/\h.get? a=some {cls:=.type "list", data:=.seq vs.toArray}/\IntsAre vs ns/\ns.length<=n:=by
 have c:WShape.hasAll [] args [.list .int]=true:=(pre_splitW e).1;have h:l.pre.holds [] {args:=args}=true:=(pre_splitW e).2;obtain⟨d,r,rfl,k,j⟩:=hasAllW_cons c;obtain rfl:=hasAllW_nil j;obtain⟨o,rfl,i⟩:=hasW_list k;obtain⟨ns,rfl⟩:=items_int i;have a:ns.length<=n:=by
  have d:(WTm.not (.lt (.lit (.int (n:Int))) (.len (.arg 0)))).holds [] {args:=[.list (ns.map .int)]}=true:=by
   have d:=(holds_andW h).1
   simp_all
  have q:=condW_of d (w_not (w_lt w_lit (w_len_list (w_arg rfl))));grind
 cases b with
 |cons f d =>
  cases d;cases f with
  |list g m=>exact⟨_,_,ns,rfl,rfl,g,ui ns _ m,a⟩
def FJ(l:OpenLaw)(args:List WData):l.row.toRowW.claim.post args (.bool true) args=true :=
 postW_of (r:=l.row.toRowW) (X:=(true==true))
  (show WShape.has [] (.bool true) .bool=true by first|rfl|decide|simp[WShape.has,WShape.arms,WShape.armsAll])
  (show(WTm.eq .res (.lit (.bool true))).value [] {args:=args,res:=some (.bool true),after:=args}=some (.bool (true==true))from w_eq_bool (w_res rfl) w_lit) rfl
def AA{l:OpenLaw}{n:Nat}{x:World->Heap->Prop}{d:DefRec}
  (z:l.most=some n) (c:d.params.defaults=[])
  (call:∀(w:World) (p b:Shared) (i m:yam) (g:Addr) (o:Obj) (k j e:Value) (a:Addr) (vs:yad) (ns:yaf),
   Ground q loose [] XP w p i m b.heap->x w b.heap →
   b.heap.get? g=some o->o.data=.func (docDef d.name d.params d.body d.scope k j e)->b.heap.CodeRec j d.name->i d.name=some (.ref g) →
   b.heap.get? a=some {cls:=.type "list", data:=.seq vs.toArray}->IntsAre vs ns->ns.length<=n->b.gens=#[] →
   codeAny (model l.prog w) callerA (.call (.ref g) ⟨[.ref a],[]⟩) (λr h=>r=.ok (.ret (.bool true))/\OldK b.heap h.heap/\h.os=b.os/\AllBare h.gens) b) :
  WalkO q loose XP x l.row.toRowW d [] (λf vs=>PySem.call f vs):=by
 intro w p b i m G Y g o k j e C kV q B H d n x u s I E t y f A;obtain rfl:C=.none:=Dflts.none d c;obtain rfl:kV=.none:=Dflts.noKw d;obtain⟨a,vs,ns,rfl,rfl,C,c,d⟩:=FX z E f;refine enter_call (codeAny_mono (call w p b i m g o k j e a vs ns G Y q (fd_plain B) H n C c d x) λr h a=>?_);obtain⟨rfl,d,c,b⟩:=a;exact⟨.inl ⟨.bool true,.bool true,[],rfl,λ_=>rfl,.bool true,FJ l _,by grind⟩,d,c,b⟩
section
variable{prog:Program}{w:World}{A:Around}{E:yaa}{s:Shared}{K:Frag}
def ledger(h:Heap)(L d:Addr):yab:=(List.range h.objs.size).filterMap λa=>if a=L∨a=d then none else(h.get? a).map λo=>(a,o)
end
end Att
namespace L2
open PySem PySem.Spec PyProof.Rows
theorem gS:∀{vs:yad} {ns:yaf},IntsAre vs ns->Vals (ns.map V.int) vs
 |_,_,.nil=>.nil
 |_,_,.cons n t h=>.cons ⟨t,rfl⟩ (gS h)
def GF(H:Hp):Prop:=∀b,H b=none∨∃ o a,H b=some (.frz o (.lst a))
def Hv{K:yac}{x:Str}{c:Shared}{vs:yad}
  (L:K.In c.heap) (I:c.heap.Ns mainGlobals mg) (f:c.heap.Ns builtinsNs mb) (y:∀x:Str,x ≠ "__name__" -> mb x=bootBuiltins x) (l:c.heap.NoLimit) (N:c.gens=#[])
  (t:c.heap.get? a=some {cls:=.type "list", data:=.seq vs.toArray}) (b:IntsAre vs ns) (B:ns.length<=sizeLine) (M:b6 k callerA)
  (F:∀base:Heap,K.In base->base.Ns mainGlobals mg->aK P w K mg base CX k fa fd [x] sp) (j:∀(s:Shared) (u:Value),BindsTo s fd ⟨[u],[]⟩ [(x,u)])
  (T:∀H:Hp,GF H->SqL K H a (ns.map V.int)->sp [.ref a] H (λv _=>v=.bl true) λ_ _ _=>False)
  (z:∀H e g,CX [] H c (λ_ _ _=>False) e g->False) :
  codeAny (model P w) callerA (.call (.ref fa) ⟨[.ref a],[]⟩) (λr g=>r=.ok (.ret (.bool true))/\OldK c.heap g.heap/\g.os=c.os/\AllBare g.gens) c:=by
 have A:=gS b;have k:=b.length;have i:∀H:Hp,GF H->SqL K H a (ns.map V.int)->R8 P w H c.heap->(∀b,H b≠none->b=a)->(H a≠none->K.lookup a=none) →
   codeAny (model P w) callerA (.call (.ref fa) ⟨[.ref a],[]⟩) (λr g=>r=.ok (.ret (.bool true))/\OldK c.heap g.heap/\g.os=c.os/\AllBare g.gens) c:=by
  intro H C O J E Q;have G:∀{b:Addr} {o:Obj},c.heap.get? b=some o->H b=none->(nA c.heap H).get? b=some o:=λe n=>Hm e n
  have s:∀{b:Addr} {o:Obj} {n:Array DictEntry} {p:Nat},c.heap.get? b=some o->o.data=.dict n p->H b=none:=fun {b o n p} e d=>by
   cases q:H b with
   |none=>rfl
   |some u =>
    have x:b=a:=E b (by rw[q];simp);subst x;rw[t]at e;cases e;have h:Data.seq vs.toArray _=Data.dict n p:=d;cases h
  have h:∀{b:Addr} {m:yam},c.heap.Ns b m->(nA c.heap H).Ns b m:=fun {b m} m=>(by obtain⟨o,n,p,e,d,r⟩:=m;exact⟨o,n,p,G e (s e d),d,r⟩)
  have d:K.In (nA c.heap H):=λb o e=>G (L b o e) (by
   cases q:H b with
   |none=>rfl
   |some u =>
    have x:b=a:=E b (by rw[q];simp);subst x;rw[Q (by rw[q];simp)]at e;cases e)
  have m:Mod K mg (nA c.heap H):=⟨d,h I,⟨mb,h f,y⟩,let ⟨mc,h1,h2⟩:=l;⟨mc,h h1,h2⟩⟩;have l:Ct P w K mg (nA c.heap H) callerA [] c H:=⟨rfl,m,λb o e=>Kk e,Nat.le_of_eq (ES _ _),trivial,λb f=>absurd (show b∈([]:yae)from f) (by simp),J,.of_eq N⟩;refine codeAny_mono ((F _ d (h I)).run callerA [] c H ⟨[.ref a],[]⟩ [.ref a] [.ref a] _ _ M l (j c (.ref a)) (.cons rfl .nil) (T H C O)) λr g h=>?_
  cases r with
  |error e=>exact(z H e g h).elim
  |ok c =>
   cases c with
   |next=>exact False.elim h
   |brk=>exact False.elim h
   |cont=>exact False.elim h
   |ret u =>
    obtain⟨v,H',os,d,g,c,j,q⟩:=h;have h:v=.bl true:=q;subst h;obtain rfl:u=Value.bool true:=j;refine⟨rfl,OldK.of_keep λb o e=>?_,os,d⟩;cases q:H b with
    |none=>exact g.keep b o e q (by intro z;exact absurd (show b∈([]:yae)from z) (by simp)) (by simp)
    |some u =>
     rcases C b with z|⟨d,U,z⟩;rw[q]at z;cases z;have h:=g.Ts b d _ z;obtain⟨d,_⟩:=J b _ z;obtain⟨g,_⟩:=c b _ h;rw[e]at d;cases d;exact g
 cases hk:K.lookup a with
 |some o =>
  have e:=L a o hk;rw[t]at e;cases e;refine i (λ_=>none) (λ_=>.inl rfl) (.inr ⟨_,vs.toArray,_,hk,rfl,rfl,rfl,by rw[S8,k];exact B,by simpa using A⟩) (λb u z=>by have c:(none:Option HO)=some u:=z;cases c) (λb z=>absurd rfl z) λz=>absurd rfl z
 |none =>
  refine i (λb=>if b=a then some (.frz {cls:=.type "list", data:=.seq vs.toArray} (.lst (ns.map V.int)))else none) (λb=>?_) (.inl (.inr ⟨{cls:=.type "list", data:=.seq vs.toArray},Pt rfl⟩)) (λb u z=>?_) (λb z=>?_) λ_=>hk
  by_cases f:b=a;exact .inr ⟨_,_,Pt f⟩;exact .inl (Po f);by_cases f:b=a;have c:=(Pt f).symm.trans z;cases c;subst f;exact⟨t,by rw[Pq];exact B,vs,_,A,t⟩;have c:=(Po f).symm.trans z;cases c;by_cases f:b=a;exact f;exact absurd (Po f) z
def Lh{l:PySem.W.OpenLaw}{n:Nat}{c:World->Heap->Prop}{d:DefRec}{K:Params->yac}{CX:World->CXT}{sp:World->Sp}{x:Str}
  (o:l.most=some n) (m:n<=sizeLine) (b:d.params.defaults=[]) (t:b6 k callerA)
  (y:∀(w:World) (h:Heap),c w h->(K w.params).In h)
  (F:∀(w:World) (g:yam) (i:Addr) (h:Heap),(K w.params).In h->h.Ns mainGlobals g->g d.name=some (.ref i) →
   ∃ r:FuncData,(∀(s:Shared) (u:Value),BindsTo s r ⟨[u],[]⟩ [(x,u)]) ∧
    ∀ base:Heap,(K w.params).In base->base.Ns mainGlobals g->aK l.prog w (K w.params) g base (CX w) k i r [x] (sp w))
  (A:∀(w:World) (H:Hp) (a:Addr) (ns:yaf),ns.length<=n->GF H->SqL (K w.params) H a (ns.map V.int)->sp w [.ref a] H (λv _=>v=.bl true) λ_ _ _=>False)
  (p:∀(w:World) (H:Hp) (s:Shared) (e:Value) (j:Shared),CX w [] H s (λ_ _ _=>False) e j->False) :
  PySem.W.WalkO q loose XP c l.row.toRowW d [] (λf vs=>PySem.call f vs):=by
 refine Att.AA o b λw P7 q g C i o B J z a vs ns G Y E I S5 d n c b h=>?_
 have f:=y w _ Y;obtain⟨r,k,l⟩:=F w g i _ f G.T.g d;exact Hv f G.T.g G.T.b G.T.builtins G.T.nolimit h n c (QM b m) t l k (λH d c=>A w H a ns b d c) λH e j=>p w H q e j
def fE(s:Stmt):Arguments:=match s with
 |.FunctionDef _ a _ _ _ _ _ _ _ _=>a
 |_=>{posonlyargs:=[],args:=[],vararg:=none,kwonlyargs:=[],kw_defaults:=[],kwarg:=none,defaults:=[]}
def cY(s:Stmt):yal:=match s with
 |.FunctionDef _ _ b _ _ _ _ _ _ _=>b
 |_=>[]
def ak(s:Stmt):Scope:=match s with
 |.FunctionDef _ _ _ _ _ _ a _ _ _=>a
 |_=>{kind:=.function,names:=[],isGenerator:=false,isCoroutine:=false}
abbrev E0:XK:=λ_ _ _=>False
structure Fun(K:yac)(x qual:Str)(st:Stmt)(f:Addr)(fd:FuncData):Prop where
 ex:∃(oc:Value) (od:Option Addr) (kV doc pm:Value) (an:Option Addr) (Rw ct:Value) (X1:Array (yan)),
  fd=PySem.W.fnOf x qual (fE st) (cY st) (ak st) .none kV doc pm an Rw ct/\K.lookup f=some ⟨oc,od,.func fd,X1⟩/\PySem.W.codeIn K Rw qual=true
 kp:PySem.W.keepIn K (.ref f)=true
def C7(a:b6 k A):A.units+1<cLine:=ZH (by lia) a.units
section
variable{X:Cx}
def pv (i:Nat) {x:Str} (c:X.N[i]?=some x:=by rfl) (a:WM X.env.scope x:=by first|exact Or.inl rfl|exact Or.inr (Or.inl rfl)|exact Or.inr (Or.inr rfl)) (b:(x==("__debug__" : Str))=false:=by decide)
  (d:(x==("__classdict__" : Str))=false:=by decide):PE X (.Name x pos) (wj i):=fg c a b d
end
def aw(H H':Hp):Prop:=∀b o,H b=some o->H' b=some o
def aw.refl(H:Hp):aw H H:=λ_ _ h=>h
def aw.trans(a:aw H H1)(b:aw H1 H2):aw H H2:=λc o h=>b c o (a c o h)
def aw.free(e:aw H H')(h:H' l=Option.none):H l=Option.none:=by
 cases q:H l with
 |none=>rfl
 |some o =>
  rw[e l o q]at h
  lia
def aw.seq{K:yac}{H H':Hp}{a:Addr}{xs:yar}(e:aw H H')(h:SqL K H a xs):SqL K H' a xs:=by
 rcases h with(h|⟨o,h⟩)|h;exact .inl (.inl (e _ _ h));exact .inl (.inr ⟨o,e _ _ h⟩);exact .inr h
end L2
set_option maxHeartbeats 4000000
namespace L2
open PySem PySem.Spec PyProof.Rows
section
variable{κ:Type} [DecidableEq κ]
def eI(kvs:List (κ×V))(k:κ):Option V:=(kvs.find? λa=>decide (a.1=k)).map (·.2)
noncomputable def putK(kvs:List (κ×V))(k:κ)(v:V):List (κ×V) :=
 if(kvs.any λa=>decide (a.1=k))=true then kvs.map (λa=>if a.1=k then(a.1,v)else a)else kvs++[(k,v)]
theorem IC:eI ([]:List (κ×V)) k=none:=rfl
def oI{p:κ×V}{r:List (κ×V)}{k:κ}(e:p.1=k):eI (p::r) k=some p.2:=by simp[eI,e]
def oH{p:κ×V}{r:List (κ×V)}{k:κ}(e:¬p.1=k):eI (p::r) k=eI r k:=by simp[eI,e]
theorem tE(k:κ):∀kvs:List (κ×V),(kvs.any λa=>decide (a.1=k))=(eI kvs k).isSome
 |[]=>rfl
 |p::r=>by
  rw[List.any_cons];by_cases e:p.1=k;simp only[oI e,V6 e,Bool.true_or,Option.isSome_some]
  simp_all [oH,decide_eq_false,Bool.false_or,tE]
theorem rE(kvs:List (κ×V))(k:κ)(v:V):(putK kvs k v).length<=kvs.length+1:=by unfold putK;grind
def jB.Wn(r:jB o u):o.isSome=u.isSome:=by
 cases o with
 |none=>cases u with
  |none=>rfl
  |some _=>exact(show False from r).elim
 |some _=>cases u with
  |none=>exact(show False from r).elim
  |some _=>rfl
theorem jB.getD(r:jB o u)(rd:RelV d d'):RelV (o.getD d) (u.getD d'):=by
 cases o with
 |none=>cases u with
  |none=>exact rd
  |some _=>exact(show False from r).elim
 |some _=>cases u with
  |none=>exact(show False from r).elim
  |some _=>exact r
def KV.val(r:KV kvs vs)(k:κ):jB (eI kvs k) (valueAt vs k):=by
 induction r with
 |nil=>exact True.intro
 |@cons p q g a h t ih =>
  obtain⟨d,f⟩:=h;by_cases e:p.1=k;have c:q.1=k:=d.symm.trans e;have b:valueAt (q::a) k=some q.2:=by simp[valueAt,c]
  rw[oI e,b];exact f;have c:¬q.1=k:=λz=>e (d.trans z)
  have b:valueAt (q::a) k=valueAt a k:=by simp[valueAt,c]
  rw[oH e,b];exact ih
theorem KV.any(r:KV kvs vs)(k:κ):(kvs.any λa=>decide (a.1=k))=vs.any λa=>decide (a.1=k):=by
 induction r with
 |nil=>rfl
 |cons h t ih=>simp_all
def KV.Z1(r:KV kvs vs)(k:κ)(b:RelV y u) :
  KV (kvs.map λa=>if a.1=k then(a.1,y)else a) (vs.map λa=>if a.1=k then(a.1,u)else a):=by
 induction r with
 |nil=>exact .nil
 |@cons p q d c h t ih =>
  refine .cons ?_ ih
  lia
def KV.put(r:KV kvs vs)(k:κ)(a:RelV y u):KV (putK kvs k y) (stored vs k u):=by unfold putK stored;rw[r.any k];by_cases e:(vs.any λb=>decide (b.1=k))=true;rw[Pt e,Pt e];exact r.Z1 k a;rw[Po e,Po e];exact Paired.snoc r ⟨rfl,a⟩
def KV.keys{kvs:List (κ×V)}{vs:List (κ×Value)}(r:KV kvs vs):kvs.map (·.1)=vs.map (·.1):=by
 induction r with
 |nil=>rfl
 |cons h t ih=>grind
theorem KV.length(r:KV kvs vs):kvs.length=vs.length:=Paired.length r
end
def xG(r:RelV (kV k) u):(bZ P w).is k u=true:=by
 cases k with
 |inl i=>obtain⟨t,e⟩:=(show∃t,u=Value.int i t from r);simp_all [AM]
 |inr x=>obtain⟨t,e⟩:=(show∃t,u=Value.str x t from r);simp_all [AN]
theorem wU:∀{ks:List Key} {a:yad},Vals (ks.map kV) a->ItemsAre (bZ P w) ks a
 |[],_,r=>by cases r;exact .nil
 |k::ks,_,r=>by
  cases r with
  |cons h t=>exact .cons (xG h) (wU t)
abbrev KT(H:Hp):List (List Key×V)->List (List Key×Addr×Value)->Prop:=Paired λp q=>p.1=q.1/\H q.2.1=some (.tup (p.1.map kV))/\RelV p.2 q.2.2
def KT.val(r:KT H kvs xs)(k:List Key):jB (eI kvs k) ((atKey xs k).map (·.2)):=by
 induction r with
 |nil=>exact True.intro
 |@cons p q g a h t ih =>
  obtain⟨d,_,f⟩:=h;by_cases e:p.1=k;have c:q.1=k:=d.symm.trans e;have b:atKey (q::a) k=some q.2:=by simp[atKey,List.find?_cons,c]
  rw[oI e,b];exact f;have c:¬q.1=k:=λz=>e (d.trans z)
  have b:atKey (q::a) k=atKey a k:=by simp[atKey,List.find?_cons,c]
  rw[oH e,b];exact ih
def KT.Z1(r:KT H kvs xs)(k:List Key)(c:RelV y u) :
  KT H (kvs.map λa=>if a.1=k then(a.1,y)else a) (xs.map (putAt k u)):=by
 induction r with
 |nil=>exact .nil
 |@cons p q g f h t ih =>
  rw[QO,QO];refine .cons ?_ ih;obtain⟨a,b,d⟩:=h;unfold putAt;by_cases e:p.1=k;rw[Pt e,Pt (a.symm.trans e)];exact⟨a,b,c⟩;rw[Po e,Po (λz=>e (a.trans z))];exact⟨a,b,d⟩
def KT.put(r:KT H kvs xs)(k:List Key)(c:H b=some (.tup (k.map kV)))(a:RelV y u) :
  KT H (putK kvs k y) (storedH xs k b u):=by
 have e:(kvs.any λb=>decide (b.1=k))=(atKey xs k).isSome:=by rw[tE,(r.val k).Wn,Option.isSome_map]
 unfold putK storedH;rw[e];by_cases q:(atKey xs k).isSome=true;rw[Pt q,Pt q];exact r.Z1 k a;rw[Po q,Po q];exact Paired.snoc r ⟨rfl,c,a⟩
def KT.keeps{H':Hp}(r:KT H kvs xs)(a:∀b ys,H b=some (.tup ys)->H' b=some (.tup ys)):KT H' kvs xs :=
 Paired.ZR r λ_ _ z=>⟨z.1,a _ _ z.2.1,z.2.2⟩
section
variable{P:Program}{w:World}{H:Hp}{h:Heap}{a:Addr}
def Jj(b:R8 P w H h)(e:Rd H a u):bN P w H h a u:=e.ok b
def tS(b:R8 P w H h)(e:Rd H a (.dK kvs)):kvs.length<=sizeLine/\(a==sysModules)=false/\∃vs,KV kvs vs/\h.DictOf (bZ P w) a vs :=
 show bN P w H h a (.dK kvs)from Jj b e
def IZ(b:R8 P w H h)(e:H a=some (.dK kvs)):kvs.length<=sizeLine/\(a==sysModules)=false/\∃vs,KV kvs vs/\h.DictOf (bZ P w) a vs:=tS b (.inl e)
def uk{ks:List Key}(b:R8 P w H h)(e:H a=some (.tup (ks.map kV))):(tupleKind (bZ P w)).is h ks a:=by obtain⟨_,g,r,o,f,d,n,c⟩:=(show bN P w H h a (.tup (ks.map kV))from b a _ e);exact⟨o,g.toArray,n,f,d,c,by simpa using wU r⟩
def tU(d:R8 P w H h)(e:Rd H a (.dT kvs)):kvs.length<=sizeLine/\(a==sysModules)=false ∧
  ∃ xs,KT H kvs xs/\h.DictOfH (tupleKind (bZ P w)) a xs:=by
 obtain⟨z,y,xs,r,o,j,k,i,g,f,b,c⟩:=(show bN P w H h a (.dT kvs)from Jj d e);refine⟨z,y,xs,r,o,j,k,i,g,f,b,λx b=>?_,c⟩;have c:∀{l:List (List Key×V)} {m:List (List Key×Addr×Value)},KT H l m->∀x∈m,(tupleKind (bZ P w)).is h x.1 x.2.1:=by
  intro l m q
  induction q with
  |nil=>intro x b;exact nomatch b
  |@cons p q s n f t ih =>
   intro x b;rcases Qg.mp b with e|b;subst e;exact uk d (by rw[<- f.1];exact f.2.1);exact ih x b
 exact c r x b
def NV(b:R8 P w H h)(e:H a=some (.dT kvs)):kvs.length<=sizeLine/\(a==sysModules)=false ∧
  ∃ xs,KT H kvs xs/\h.DictOfH (tupleKind (bZ P w)) a xs:=tU b (.inl e)
end
def oS(H:Hp)(a:Addr)(y:V)(r:Option V):Prop :=
 (∃c k,Rd H a (.dK c)/\y=kV k/\r=eI c k)∨∃ c k b,Rd H a (.dT c)/\y=.ref b/\H b=some (.tup (k.map kV))/\r=eI c k
def xQ(H:Hp)(a:Addr)(y v:V)(H':Hp):Prop :=
 (∃c k,H a=some (.dK c)/\y=kV k/\c.length<sizeLine/\H'=upd H a (.dK (putK c k v))) ∨
 ∃ c k b,H a=some (.dT c)/\y=.ref b/\H b=some (.tup (k.map kV))/\c.length<sizeLine/\H'=upd H a (.dT (putK c k v))
theorem oS.k{H:Hp}{a:Addr}{kvs:List (Key×V)}{k:Key}(e:H a=some (.dK kvs)):oS H a (kV k) (eI kvs k):=.inl ⟨kvs,k,.inl e,rfl,rfl⟩
theorem xQ.k{H:Hp}{a:Addr}{kvs:List (Key×V)}{k:Key}{v:V}(e:H a=some (.dK kvs))(b:kvs.length<sizeLine):xQ H a (kV k) v (upd H a (.dK (putK kvs k v))):=.inl ⟨kvs,k,e,rfl,b,rfl⟩
section
variable{X:Cx}{pins:yab}{σ:St}{H:Hp}{s:Shared}{a:Addr}{y v:V}{u r:Value}{o:Option V}{A:Around}{E:yaa}
def Inv.big(I:Inv X pins σ H s):sysModules<s.heap.objs.size:=by have h:mainGlobals<s.heap.objs.size:=(I.mod.glob.keeps I.bk).lt;exact Nat.lt_trans (by decide) h
def EA{Q:yaa}(q:A.units+1<cLine)(I:Inv X pins σ H s)(g:oS H a y (some v))(m:RelV y u)(h:∀d b,Inv X pins σ H b->RelV v d->Q d b) :
  wpAny (model X.prog X.w) A (getItem (.ref a) u) Q E s:=by
 rcases g with⟨b,k,e,g,l⟩| ⟨b,k,b,e,g,t,l⟩;subst g;obtain⟨z,p,n,c,i⟩:=tS I.PW e;obtain⟨d,f,j⟩:=jB.some_of (v:=v) (o:=valueAt n k) (by rw[l];exact c.val k);exact wpAny_getItem_of (xG m) i.mapOf f (h d _ (I.tok _) j);subst g;cases(show u=Value.ref b from m);obtain⟨z,p,b,c,i⟩:=tU I.PW e;obtain⟨d,f,j⟩:=jB.some_of (v:=v) (o:=(atKey b k).map (·.2)) (by rw[l];exact c.val k);obtain⟨p,c,b⟩:=Wi.mp f;refine wpAny_getItem_heap (tupleKind_room_in1 q) (uk I.PW t) i c ?_;rw[b];exact h d _ (I.tok _) j
def vg{t':Nat}(I:Inv X pins σ H s)(b:Mut (H a))(hs:Heap.SameBut a s.heap h')(d:∃q,h'.get? a=some q)(c:bN X.prog X.w (upd H a ob) h' a ob) :
  Inv X pins σ (upd H a ob) {s with heap:=h',toks:=t'} :=
 I.write (x:=a) (e:=a) b (.inl rfl) (λb q e z=>(hs.2 b e).trans z) d c
def Me{h':Heap}{kvs:List (Key×V)}(z:kvs.length<=sizeLine)(c:(a==sysModules)=false)(b:KV kvs vs)(dd:h'.DictOf (bZ P w) a vs) :
  bN P w H' h' a (.dK kvs):=⟨z,c,vs,b,dd⟩
def EB{Q:Unit->Shared->Prop}(G:A.units+1<cLine)(I:Inv X pins σ H s)(g:xQ H a y v H')(w:RelV y u)(x:RelV v r)(h:∀b,Inv X pins σ H' b->Q () b) :
  wpAny (model X.prog X.w) A (setItem (.ref a) u r) Q E s:=by
 rcases g with⟨f,k,e,n,l,p⟩| ⟨f,k,b,e,n,C,l,p⟩;subst n p;obtain⟨z,m,d,c,t⟩:=IZ I.PW e;have i:d.length<=sizeLine:=by rw[<- c.length];exact z
 have l:(putK f k v).length<=sizeLine:=by grind [rE]
 refine wpAny_setItem_pairs (hsz:=i) (xG w) t λB d j=>h _ ?_
 have J:∃q,B.get? a=some q:=let ⟨q,_,_,g,_⟩:=d;⟨q,g⟩;exact vg I (by rw[e];exact True.intro) j J (Me l m (c.put k x) d);subst n p;cases(show u=Value.ref b from w);obtain⟨z,m,b,c,t⟩:=NV I.PW e;have i:b.length<=sizeLine:=by rw[<- Paired.length c];exact z
 have l:(putK f k v).length<=sizeLine:=by grind [rE]
 refine wpAny_setItem_heap (hsz:=i) (tupleKind_room_in1 G) (uk I.PW C) t λB d j=>h _ ?_
 obtain⟨q,n,p,g,i,h,f,_,b⟩:=d;refine vg I (by rw[e];exact True.intro) j ⟨q,g⟩ ⟨l,m,_,(c.put k C x).keeps λc L c=>?_,q,n,p,g,i,h,f,b⟩;rw[aC (by lia)];exact c
end
def GC(i:Expr):Prop:=∀a b,subscripted i false a b=operate [a,b] (getItem a b)
def K7{prog:Program}{w:World}{A:Around}{E:yaa}{s:Shared}{env:Env}{b a:Expr}{pos:Pos}{T id:String}{Q:yaa}
  (e:typeLookup (.type T) "__getitem__" = pure (some (.builtin id))) (hs:GC a)
  (h:wpAny (model prog w) A (eval b env) (λo d=>wpAny (model prog w) A (eval a env) (λi c=>c.TypeIs o T/\wpAny (model prog w) A (getItem o i) Q E c) E d) E s) :
  wpAny (model prog w) A (eval (.Subscript b a pos) env) Q E s:=by
 refine Subscript_ (Tv h (λo d d=>Tv d (λi c d=>?_) λ_ _ x=>x) λ_ _ x=>x);obtain⟨f,d⟩:=d;refine Pk ?_;refine Pk (zC0 f e ?_);have g:wpAny (model prog w) A (subscripted a false o i) (λr a=>wpAny (model prog w) A (letTemporaryGo b o r >>= λ_=>pure r) Q E a) E c:=by rw[hs o i];exact wpAny_operating (Tv d (λr a a=>Pk (wpAny_letTemporaryGo (wpAny_pure a))) λ_ _ x=>x)
 grind [wpAny_pure,wpAny_bind]
def AG (I:Inv X pins σ H s) (g:oS H a y o):s.TypeIs (.ref a) "dict" := by
 rcases g with⟨a,k,e,_,_⟩| ⟨a,k,b,e,_,_,_⟩;obtain⟨_,_,d,_,a⟩:=tS I.PW e;exact a.typeIs;obtain⟨_,_,c,_,a⟩:=tU I.PW e;exact a.typeIs
def Om(c b:TE):TE:=λa H Q=>c a H λx c=>b a c λy b=>∃a v,x=.ref a/\oS b a y (some v)/\Q v b
def Oi(d a c:TE):TS:=λD b H=>c b H λv c=>d b c λx c=>a b c λy d=>∃a c,x=.ref a/\xQ d a y v c/\D.nx b c
section
variable{X:Cx}{o i e value:Expr}{pos pos' tpos:Pos}{td ty tv:TE}
def Kz(n:X.A.units+1<cLine)(p:PE X o td)(q:PE X i ty)(hs:GC i):PE X (.Subscript o i pos) (Om td ty):=by intro b s c H Q I h;refine K7 PySem.F.slot_dict_getitem.lookup hs (Px (p b s c H _ I h) λu f ⟨x,C,A,k,m⟩=>Px (q b f c C _ A m) λL J w=>?_);obtain⟨y,B,d,j,a,v,r,g,l⟩:=w;subst r;obtain rfl:u=Value.ref a:=k;exact⟨AG d g,EA n d g j λE G z t=>⟨v,B,z,t,l⟩⟩
def KD(t:X.A.units+1<cLine)(w:PE X o td)(z:PE X i ty)(q:PE X value tv)(hs:swapsWith value (some (.Subscript o i pos')) pos.line X.env=pure false) :
  PS X (.Assign [.Subscript o i pos'] value pos) (Oi td ty tv):=by
 intro b s c H D I h;refine wpAny_Assign_Subscript (Px (q b s c H _ I h) λr f ⟨v,N,J,l,p⟩=>Px (w b f c N _ J p) λu d ⟨x,M,G,k,n⟩=>Px (z b d c M _ G n) λT Q B=>?_) hs;obtain⟨y,H3,E,j,a,L,A,g,m⟩:=B;subst A;obtain rfl:u=Value.ref a:=k;exact EB t E g j l λO C=>⟨c,L,C,m⟩
end
def Hb (h:Heap) (a:sysModules<h.objs.size):bN P w H (h.push {cls:=.type "dict", data:=.dict #[]}) h.objs.size (.dK []) :=
 ⟨RS _,zCQ.mpr (Ne.symm (QU a)),[],.nil,Heap.DictOf.new h⟩
abbrev VV:List (V×V)->List (Value×Value)->Prop:=Paired λp q=>RelV p.1 q.1/\RelV p.2 q.2
structure M1(X:Cx)(o:Expr)(m:Str)(apos:Pos)(e:Expr)(cpos:Pos):Prop where
 base:attributeBase o m X.env (eval o X.env)=eval o X.env
 few:((backTo cpos (starEach [e] X.env)).all (λx=>!x.1) && (backToKw cpos (keywordEach [] X.env)).all (λx=>x.1.isSome)
  && decide (([e]:yai).length+([]:List Keyword).length+(if([]:List Keyword).isEmpty then 0 else 1)<30))=true
 line:(apos.endLine==cpos.line)=true
 trees:backTo cpos (starEach [e] X.env)=[(false,eval e X.env)]
structure M2(X:Cx)(o:Expr)(m:Str)(apos:Pos)(e f:Expr)(cpos:Pos):Prop where
 base:attributeBase o m X.env (eval o X.env)=eval o X.env
 few:((backTo cpos (starEach [e,f] X.env)).all (λx=>!x.1) && (backToKw cpos (keywordEach [] X.env)).all (λx=>x.1.isSome)
  && decide (([e,f]:yai).length+([]:List Keyword).length+(if([]:List Keyword).isEmpty then 0 else 1)<30))=true
 line:(apos.endLine==cpos.line)=true
 trees:backTo cpos (starEach [e,f] X.env)=[(false,eval e X.env),(false,eval f X.env)]
def IsD(H:Hp)(a:Addr):Prop:=(∃b,Rd H a (.dK b))∨∃ b,Rd H a (.dT b)
def MK(I:Inv X pins σ H s)(d:IsD H a) :
  s.TypeIs (.ref a) "dict" /\ (∀b,Value.ref a=.ref b->∃ob,s.heap.get? b=some ob/\ob.dict=none)/\(a==sysModules)=false:=by
 rcases d with⟨a,e⟩| ⟨a,e⟩;obtain⟨_,c,h,_,a⟩:=tS I.PW e;refine⟨a.typeIs,λb q=>?_,c⟩;cases q;obtain⟨ob,_,_,f,d,_⟩:=a;exact⟨ob,f,d.2.1⟩;obtain⟨_,c,g,_,a⟩:=tU I.PW e;refine⟨a.typeIs,λb q=>?_,c⟩;cases q;obtain⟨ob,_,_,f,d,_⟩:=a;exact⟨ob,f,d.2.1⟩
section
variable{X:Cx}{pins:yab}{σ:St}{H:Hp}{s:Shared}{a:Addr}{y d:V}{u r:Value}{o:Option V}{A:Around}{E:yaa}
def Mb{Q:yaa}(m:A.units+1<cLine)(I:Inv X pins σ H s)(g:oS H a y o)(j:RelV y u)(rd:RelV d r)(h:∀b c,Inv X pins σ H c->RelV (o.getD d) b->Q b c) :
  wpAny (model X.prog X.w) A (call (.builtin "dict.get") [.ref a,u,r]) Q E s:=by
 rcases g with⟨b,k,e,i,l⟩| ⟨b,k,b,e,i,n,l⟩;subst i;obtain⟨z,g,p,c,f⟩:=tS I.PW e;refine call_meetsIn PySem.F.slot_dict_get f.typeIs PySem.F.entry_dict_get (PySem.F.args_dict_get_3 _ _ _) (meets_dict_get_default (bZ X.prog X.w) a (xG j) g r) ⟨_,f.mapOf,h _ _ (I.tok _) ?_⟩;rw[l];exact(c.val k).getD rd;subst i;cases(show u=Value.ref b from j);obtain⟨z,g,i,c,f⟩:=tU I.PW e;refine call_meetsIn PySem.F.slot_dict_get f.typeIs PySem.F.entry_dict_get (PySem.F.args_dict_get_3 _ _ _) (meetsH_dict_get_default (tupleKind (bZ X.prog X.w)) a b g r) ⟨tupleKind_room_in1 m,k,i,uk I.PW n,f,h _ _ (I.tok _) ?_⟩;rw[l];exact(c.val k).getD rd
end
def NB(a d e:TE):TE:=λb H Q=>a b H λx c=>∃a,x=.ref a/\IsD c a/\d b c λy c=>e b c λz b=>∃o,oS b a y o/\Q (o.getD z) b
section
variable{X:Cx}{o e f:Expr}{apos cpos:Pos}{td ty tx:TE}
def HN (k:X.A.units+1<cLine) (a:PE X o td) (n:PE X e ty) (l:PE X f tx) (m:M2 X o "get" apos e f cpos):PE X (.Call (.Attribute o "get" apos) [e,f] [] cpos) (NB td ty tx):=by
 intro b s c H Q I h;refine wpAny_Call_method m.base m.few m.line PySem.F.plainAttrs_dict PySem.F.slot_dict_get PySem.F.type_dict_get (Px (a b s c H _ I h) λu i q=>?_);obtain⟨x,r,g,h,a,p,d,j⟩:=q;subst p;obtain rfl:u=Value.ref a:=h;obtain⟨h,a,_⟩:=MK g d;refine⟨h,a,?_⟩;rw[m.trees];refine Calls.callWith_builtin rfl (Calls.evalArgs_plain (Calls.spliced_cons (Px (n b i c r _ g j) λC a ⟨y,i,h,d,g⟩=>
  Calls.spliced_cons (Px (l b a c i _ h g) λE A ⟨z,h,c,a,B,g,b⟩=>Calls.spliced_nil ?_))))
 exact Mb k c g d a λt w c a=>⟨_,h,c,a,b⟩
end
end L2
namespace PM
def y6(a b:Int):Int.gcd b (a.fmod b)=Int.gcd a b:=by
 have h:=Int.fmod_add_mul_fdiv a b;have c:a=a.fmod b+a.fdiv b*b:=by simp_all [S4]
 rw[Int.gcd_comm a b]
 conv=>rhs;rw[c]
 rw[Int.gcd_add_mul_right_right]
def wL(a:Int){b:Int}(d:b≠0):(a.fmod b).natAbs<b.natAbs:=by
 by_cases h:0<b;have g:=Int.fmod_lt_of_pos a h;have c:=zC2 a h;omega;have e:a.fmod b=-((-a).fmod (-b)):=by simp_all
 have c:=Int.fmod_lt_of_pos (-a) (b:=-b) (by omega);have f:=zC2 (-a) (b:=-b) (by omega);omega
noncomputable def g3(x y z:Int):Nat:=Int.gcd (Int.gcd x y:Int) z
def rX(x y z:Int):(g3 x y z:Int)∣x:=Zc (Int.gcd_dvd_left _ _) (Int.gcd_dvd_left _ _)
theorem vp(x y z:Int):(g3 x y z:Int)∣y:=Zc (Int.gcd_dvd_left _ _) (Int.gcd_dvd_right _ _)
theorem vq(x y z:Int):(g3 x y z:Int)∣z:=Int.gcd_dvd_right _ _
def Mm{x y z d:Int}(c:d∣x)(b:d∣y)(a:d∣z):d∣(g3 x y z:Int):=zCw (zCw c b) a
def BJ:g3 x y z=0↔x=0/\y=0/\z=0:=by
 unfold g3;rw[Int.gcd_eq_zero_iff];constructor;rintro⟨h,a⟩;have d:Int.gcd x y=0:=by lia
 obtain⟨c,b⟩:=Int.gcd_eq_zero_iff.mp d;exact⟨c,b,a⟩;rintro⟨c,b,a⟩;subst c b a;simp
def RG(x y z l:Int):Int:=if l<0 then -(g3 x y z:Int)else(g3 x y z:Int)
def yQ{x y z:Int}(h:¬(x=0/\y=0/\z=0)):RG x y z l≠0:=by
 have:g3 x y z≠0:=λe=>h (BJ.mp e)
 unfold RG;split<;>omega
def BB(x y z l:Int):(RG x y z l).natAbs=g3 x y z:=by unfold RG;split<;>lia
def JP{x y z t:Int}(h:(g3 x y z:Int)∣t):RG x y z l∣t:=by unfold RG;split;exact Int.neg_dvd.mpr h;exact h
def cZ{x y z t:Int}(h:(g3 x y z:Int)∣t):t.fdiv (RG x y z l)*RG x y z l=t:=by simp_all [JP,Int.fdiv_eq_ediv_of_dvd,Int.ediv_mul_cancel]
def Np{x y z:Int}(h:¬(x=0/\y=0/\z=0)):g3 (x.fdiv (RG x y z l)) (y.fdiv (RG x y z l)) (z.fdiv (RG x y z l))=1:=by
 have j:=cZ (l:=l) (rX x y z);have o:=cZ (l:=l) (vp x y z);have n:=cZ (l:=l) (vq x y z);have p:=yQ (l:=l) h;have f:=BB x y z l;generalize x.fdiv (RG x y z l)=a at j ⊢;generalize y.fdiv (RG x y z l)=b at o ⊢;generalize z.fdiv (RG x y z l)=c at n ⊢;generalize RG x y z l=g at *;have m:(g3 a b c:Int)*g∣(g3 x y z:Int):=by
  refine Mm ?_ ?_ ?_;rw[<- j];exact Int.mul_dvd_mul (rX a b c) (by simp_all)
  all_goals grind [Int.mul_dvd_mul,vp,Int.dvd_refl,vq]
 have d:g3 a b c*g.natAbs∣g.natAbs:=by
  have:=zC8.mpr m
  simp_all [Zb]
 have k:0<g.natAbs:=by lia
 have:=Nat.le_of_dvd k d;have q:g3 a b c≠0:=by
  intro e
  simp_all
 rcases Yt (g3 a b c) 2 with i|i
 lia
 have:2*g.natAbs<=g3 a b c*g.natAbs:=Y4 _ i
 lia
def KO{x y z l:Int}(c:l≠0)(a:(g3 x y z:Int)∣l)(h:¬(x=0/\y=0/\z=0)):0<l.fdiv (RG x y z l):=by
 have e:=cZ (l:=l) a;have d:g3 x y z≠0:=λe=>by simp_all
 have b:(l<0/\RG x y z l<0)∨(0<l/\0<RG x y z l):=by unfold RG;grind
 grind [Int.lt_trichotomy,Int.mul_pos_of_neg_of_neg,Int.mul_neg_of_neg_of_pos]
def EN(a:Int):Int.gcd a 0=a.natAbs:=by simp
def JZ(a b:Int):Int.gcd ((a.natAbs:Nat):Int) ((b.natAbs:Nat):Int)=Int.gcd a b:=by unfold Int.gcd;simp
end PM
namespace PX
open PySem PySem.W PySem.Spec PySem.Calls PyProof.Rows PySem.Builtin.ObjectAttr PySem.Builtin.Getset_descriptor
def ExcAt(e c:Addr)(h:Heap):Prop:=∃o a,h.get? e=some o/\o.cls=.ref c/\o.data=.fields a
def ExcAt.ty(p:ExcAt e c h):Looks M h (typeOf (.ref e)) (.ref c):=by obtain⟨o,d,b,a,_⟩:=p;exact a ▸ (Looks.ld b).andThen .now
noncomputable def Hf(K:Frag)(c:Addr):Bool :=
 (clsIn K c).isSome && findIn K (.ref c) "__getattribute__" == some (some (.builtin "BaseException.__getattribute__"))
 && findIn K (.ref c) "__getattr__" == some none && findIn K (.ref c) "__class__" == some (some (.builtin "object.__class__"))
 && specialIn K (.builtin "object.__class__") "__get__" == some (some (.builtin "getset_descriptor.__get__"))
 && takesIn K (.builtin "object.__class__")==some true
 && mroIn K c (.type "object")==some true && mroIn K c (.type "BaseException")==some true
 && kitOne K (.ref c) (.type "int")==some false && kitOne K (.ref c) (.type "bool")==some false && kitOne K (.ref c) (.type "tuple")==some false
 && kitOne K (.ref c) (.type "list")==some false && kitOne K (.ref c) (.type "str")==some false
structure CH(K:Frag)(c:Addr):Prop where
 pg:plainGet K c "__class__" = true
 hd:hasDictIn K c=true
 at_:findIn K (.ref c) "__class__" = some (some (.builtin "object.__class__"))
 get:specialIn K (.builtin "object.__class__") "__get__" = some (some (.builtin "getset_descriptor.__get__"))
 takes:takesIn K (.builtin "object.__class__")=some true
 obj:mroIn K c (.type "object")=some true
 not:∀T,(T = "int" ∨ T = "bool" ∨ T = "tuple" ∨ T = "list" ∨ T = "str")->kitOne K (.ref c) (.type T)=some false
structure gF(K:Frag)(c:Addr):Prop where
 cls:(clsIn K c).isSome=true
 ga:findIn K (.ref c) "__getattribute__" = some (some (.builtin "BaseException.__getattribute__"))
 hook:findIn K (.ref c) "__getattr__" = some none
 at_:findIn K (.ref c) "__class__" = some (some (.builtin "object.__class__"))
 get:specialIn K (.builtin "object.__class__") "__get__" = some (some (.builtin "getset_descriptor.__get__"))
 takes:takesIn K (.builtin "object.__class__")=some true
 obj:mroIn K c (.type "object")=some true
 exc:mroIn K c (.type "BaseException")=some true
 not:∀T,(T = "int" ∨ T = "bool" ∨ T = "tuple" ∨ T = "list" ∨ T = "str")->kitOne K (.ref c) (.type T)=some false
def gF.of{K:Frag}{c:Addr}(h:Hf K c=true):gF K c:=by unfold Hf at h;simp at h;obtain⟨⟨⟨⟨⟨⟨⟨⟨⟨⟨⟨⟨l,f⟩,e⟩,d⟩,c⟩,h6⟩,b⟩,a⟩,m⟩,k⟩,j⟩,i⟩,g⟩:=h;exact⟨l,f,e,d,c,h6,b,a,by lia⟩
section
variable{prog:Program}{w:World}{A:Around}{E:yaa}{s:Shared}{K:Frag}{e c:Addr}
def Ot {R:Result->Shared->Prop} {a:Value} (X:K.In s.heap) (p:ExcAt e c s.heap) (d:mroIn K c (.type "object")=some true) (b:R (.ok (.ret (.ref c))) s) :
  codeAny (model prog w) A (.call (.builtin "getset_descriptor.__get__") ⟨[.builtin "object.__class__", .ref e,a],[]⟩) R s:=by
 have La:=p.ty (M:=model prog w);have Lb:=looks_mroIn (M:=model prog w) X d;refine codeAny_call_builtin (KF.slot_gs.plain) KF.entry_gs (KF.slot_gs.check _ _ _ _ _ _ _ _ KF.type_class (KF.args_gs _ _ _) ?_);unfold Builtin.«getset_descriptor.__get__» descrGet;refine Pk (wpAny_pure ?_);unfold descrGetter descrCheckInstance descrNameAndClass isInstance;simp only[KF.owner_class]
 repeat lk
 refine⟨Code.quiet_builtin _ (by decide +kernel),Yq KF.entry_class ?_⟩
 repeat lk
 exact b
def NK (k:gF K c) (X:K.In h):Looks M h (find (.ref e) (.ref c) "__class__") (.bind (.builtin "getset_descriptor.__get__") (.builtin "object.__class__")):=by have d:=looks_findIn (M:=M) X k.at_;have b:Looks M h (getOf (some (.builtin "object.__class__"))) (some (.builtin "getset_descriptor.__get__")):=looks_specialIn X k.get;have a:=looks_takesIn (M:=M) X k.takes;refine d.andThen (b.andThen ?_);exact(show Looks M h (dataDescriptor? (some (.builtin "object.__class__")) (some (.builtin "getset_descriptor.__get__"))) (some (.builtin "getset_descriptor.__get__", .builtin "object.__class__"))from a.andThen .now).andThen (Looks.tag .now)
def Lk{a:Tok}{Q:Fin->Shared->Prop}(k:gF K c)(X:K.In s.heap)(p:ExcAt e c s.heap)(b:Q (.done (.ret (.ref c))) s) :
  wpAny (model prog w) A (Builtin.«object.__getattribute__» ⟨[.ref e,.str "__class__" a],[]⟩) Q E s:=by
 have d:=p.ty (M:=model prog w);have a:=NK (M:=model prog w) (e:=e) k X;refine Pk (wpAny_pure ?_);refine Pk (wpAny_pure ?_);refine Pk (d.at (Pk (a.at ?_)));unfold bindTo
 repeat (first|with_reducible refine Pk ?_|with_reducible refine Ub ?_)
 refine wpAny_call (Ot X p k.obj ?_);exact wpAny_pure b
def Lj{a:Value}{Q:Unit->Shared->Prop}(k:gF K c)(X:K.In s.heap)(p:ExcAt e c s.heap)(b:Q () s) :
  wpAny M A (checkBuiltinCall "BaseException.__getattribute__" ⟨[.ref e,a],[]⟩) Q E s:=by
 obtain⟨h,g,l,t,os⟩:=s;have d:builtinKind "BaseException.__getattribute__" = some .slot:=by decide +kernel
 have f:splitId "BaseException.__getattribute__" = some ("BaseException", "__getattribute__"):=by decide +kernel
 have j:=F.args_bexc_ga (.ref e) a;have i:=p.ty (M:=M);have g:=looks_mroIn (M:=M) X k.exc;have a:Looks M h (isInstance (.ref e) (.type "BaseException")) true:=i.andThen g;simp only[checkBuiltinCall,d,f];refine Pk (a.at ?_)
 repeat (first|wp_step)
 exact b
def x_call{a:Tok}{R:Result->Shared->Prop}(k:gF K c)(X:K.In s.heap)(p:ExcAt e c s.heap)(b:R (.ok (.ret (.ref c))) s) :
  codeAny (model prog w) A (.call (.builtin "BaseException.__getattribute__") ⟨[.ref e,.str "__class__" a],[]⟩) R s :=
 codeAny_call_builtin F.excAttr_ValueError.ga.plain F.entry_bexc_ga (Lj k X p (Lk k X p b))
def NJ{Q:yan->Shared->Prop}(k:gF K c)(X:K.In s.heap)(p:ExcAt e c s.heap)(b:Q (some (.ref c)) {s with toks:=s.toks+1}) :
  wpAny (model prog w) A (getAttr? (.ref e) "__class__") Q E s:=by
 have f:=p.ty (M:=model prog w);have d:=looks_findIn (M:=model prog w) X k.ga;have a:=looks_findIn (M:=model prog w) X k.hook;have g:=F.excAttr_ValueError.ga.bind (.ref e);refine Pk (wpAny_mkText (Pk (Ze (Ub (Pk (f.at (Pk (d.at ?_))))))));have QX:(Value.builtin "BaseException.__getattribute__" == Value.builtin "object.__getattribute__")=false:=by decide +kernel
 refine Pk (a.at ?_);refine Pk (Ze (Ub ?_));refine wpAny_call (x_call k X p ?_);refine wpAny_pure (a:=Value.ref c) ?_;exact wpAny_pure b
set_option tactic.hygienic true in
def Hu(k:gF K c):KitX K (.ref e) (.ref c) (ExcAt e c) where
 ty:=λ_ _ _ p=>p.ty
 it:=λ_ _ X _=>by have h:=k.cls;unfold clsIn at h;split at h;rename_i l j g a f;intro A' Q' E' o b q;exact Pk (wpAny_loadPart (b _ _ (X _ _ f)) (wpAny_pure q));cases h
 ne:=λh i r Pp n m X d=>by
  have h:=k.cls;refine Bool.eq_false_iff.mpr λq=>?_
  have z:c=i:=by lia
  subst z;unfold clsIn at h;split at h;rename_i l j g a f;cases(X _ _ f).symm.trans d;cases h
 ca:=λX p b=>NJ k X p b
end
end PX
namespace PD
open PySem PySem.Spec PyProof.Rows L2 PX
abbrev St:=L2.St
def NT:HO->Prop
 |.U4 _=>False
 |_=>True
def OM:Str := "lightest.<locals>.<lambda>"
def Ln(c:Addr):Heap->Prop:=λh=>h.CodeRec (.ref c) OM
def dm(H:Hp):Prop:=∀P a,H P=some (.U4 a)->TriplesOk a.toList/\∀b d,codeAmong b a.toList=some d->∃c,d=.ref c/\H c=some (.ext (Ln c))
noncomputable def tabOf(K:yac):Option Addr :=
 match PySem.W.nsIn K mainGlobals "lightest" with
 |some (some (.ref f))=>(match K.lookup f with
  |some ⟨_,_,.func a,_⟩=>(match a.code with
   |.ref c=>(match K.lookup c with
    |some ⟨_,_,.fields a,_⟩=>(match(a[11]?:yan)with
     |some (.ref P)=>if(K.lookup P).isNone=true then some P else none
     |_=>none)
    |_=>none)
   |_=>none)
  |_=>none)
 |_=>none
structure aw(H H':Hp):Prop where
 kp:∀b o,H b=some o->NT o->H' b=some o
 tb:∀b ps,H b=some (.U4 ps)->∃more,H' b=some (.U4 (ps++more))
 ok:dm H->dm H'
def aw.app(e:aw H H')(b:Addr)(o:HO)(h:H b=some o)(a:NT o:=by first|exact True.intro|assumption):H' b=some o:=e.kp b o h a
instance {H H':Hp}:CoeFun (aw H H') (λ_=>∀(b:Addr) (o:HO),H b=some o->(nt:NT o:=by first|exact True.intro|assumption)->H' b=some o):=⟨@aw.app H H'⟩
def aw.refl(H:Hp):aw H H:=⟨by lia,by simp_all,id⟩
def aw.trans(a:aw H H1)(b:aw H1 H2):aw H H2:=⟨λc o h n=>b.kp c o (a.kp c o h n) n,λc d h=>by obtain⟨e,g⟩:=a.tb c d h;obtain⟨d,f⟩:=b.tb c _ g;exact⟨e++d,by rw[f,Array.append_assoc]⟩,λh=>b.ok (a.ok h)⟩
def aw.ex(e:aw H H'){o:HO}(h:H b=some o):∃a,H' b=some a:=by
 by_cases n:NT o;exact⟨o,e.kp b o h n⟩;cases o with
 |U4 a =>
  obtain⟨m,q⟩:=e.tb b a h;exact⟨_,q⟩
 |_=>exact absurd True.intro n
def aw.free(e:aw H H')(h:H' l=Option.none):H l=Option.none:=by
 cases q:H l with
 |none=>rfl
 |some o =>
  obtain⟨a,z⟩:=e.ex q
  lia
def aw.seq{K:yac}{H H':Hp}{a:Addr}{xs:yar}(e:aw H H')(h:SqL K H a xs):SqL K H' a xs:=by
 rcases h with(h|⟨o,h⟩)|h;exact .inl (.inl (e _ _ h));exact .inl (.inr ⟨o,e _ _ h⟩);exact .inr h
theorem dm.upd{H:Hp}(n:NT o)(f:H p=none∨∃ u,H p=some u/\(∀a,u ≠ .ext a)/\NT u)(h:dm H):dm (upd H p o):=by
 intro P a e;have b:P≠p:=λz=>by subst z;rw[aJ]at e;cases e;exact n
 rw[aC b]at e;obtain⟨c,b⟩:=h P a e;refine⟨c,λa e q=>?_⟩;obtain⟨c,d,g⟩:=b a e q;refine⟨c,d,?_⟩;rw[aC λz=>?_]
 all_goals grind
structure jE(K:yac)(H:Hp):Prop where
 ok:dm H
 at':∀P,tabOf K=some P->∃ps,H P=some (.U4 ps)
def jE.same{K:yac}{H H':Hp}(h:jE K H)(e:aw H H'):jE K H':=⟨e.ok h.ok,λP q=>by obtain⟨a,z⟩:=h.at' P q;obtain⟨m,z⟩:=e.tb P a z;exact⟨_,z⟩⟩
theorem jE.upd{K:yac}{H:Hp}{p:Addr}{o:HO}(h:jE K H)(n:NT o)(a:H p=none∨∃ u,H p=some u/\(∀b,u ≠ .ext b)/\NT u):jE K (upd H p o):=⟨dm.upd n a h.ok,λP q=>by
 obtain⟨b,z⟩:=h.at' P q;refine⟨b,?_⟩;rw[aC λe=>?_];exact z;subst e;rcases a with a|⟨u,a,_,b⟩
 lia
 rw[a]at z;cases z;exact b⟩
inductive D where
 |Qe|bl (b:Bool)|int (i:Int)|str (x:Str)|tup (ds:List D)|lst (t:Bool) (ds:List D)|exc (c:Addr)|obj (C:Addr) (ns:yah) (ds:List D)|Um|S6 (ks:yaf) (ds:List D)|ra (a:Addr)
abbrev yas:=List D
def Xl:HO->Prop
 |.ext _=>True|.ins _ _ _=>True|.frz _ (.dK _)=>True|_=>False
def Xl.nt(h:Xl o):NT o:=by cases o<;>first|exact True.intro|exact h.elim
def RU(K:yac)(H:Hp)(t:Bool)(a:Addr)(vs:yar):Prop:=SqL K H a vs/\(t=true->H a=some (.lst vs)/\K.lookup a=none)
def RU.same{K:yac}{H H':Hp}{t:Bool}{a:Addr}{vs:yar}(e:aw H H')(q:RU K H t a vs):RU K H' t a vs:=⟨e.seq q.1,λz=>⟨e _ _ (q.2 z).1,(q.2 z).2⟩⟩
def RU.any{K:yac}{H:Hp}{a:Addr}{vs:yar}(q:SqL K H a vs):RU K H false a vs:=⟨q,λz=>by cases z⟩
def RU.new{K:yac}{H:Hp}(q:H a=some (.lst vs))(k:K.lookup a=none):RU K H t a vs:=⟨SqL.of q,λ_=>⟨q,k⟩⟩
def Ql(K:yac)(H:Hp)(a:Addr)(xs:yar):Prop:=H a=some (.tup xs) ∨
 ∃ (o:Obj) (b:yao) (n:Nat),K.lookup a=some o/\o.cls=.type "tuple" /\ o.data=.seq b n/\b.size<=sizeLine/\Vals xs b.toList
def Ql.w{K:yac}{H:Hp}{a:Addr}{xs:yar}(h:Ql K H a xs):L2.Ql K H a xs:=h.imp .inl id
def Ql.of{K:yac}{H:Hp}{a:Addr}{xs:yar}(h:H a=some (.tup xs)):Ql K H a xs:=.inl h
mutual
def Den(K:yac)(P:yak)(H:Hp):D->V->Prop
 |.Qe,v=>v=.Qe
 |.bl b,v=>v=.bl b
 |.int i,v=>v=.int i
 |.str x,v=>v=.str x
 |.tup d,v=>∃a b,v=.ref a/\Ql K H a b/\aj K P H d b
 |.lst t d,v=>∃a b,v=.ref a/\¬P t a/\RU K H t a b/\aj K P H d b
 |.exc c,v=>∃e,v=.ref e/\H e=some (.ext (ExcAt e c))/\gF K c
 |.Um,v=>∃a,v=.ref a/\H a=some (.ext (PySem.W.KitAt a "dict"))
 |.obj C c d,v=>∃a e b,v=.ref a/\H a=some (.ins C e (c.zip b))/\b.length=c.length/\CH K C/\aj K P H d b
 |.S6 e d,v=>∃a o c b,v=.ref a/\H a=some (.frz o (.dK c))/\c=(e.map Sum.inl).zip b/\b.length=e.length/\aj K P H d b
 |.ra a,v=>v=.ref a/\¬P false a/\∃b,RU K H false a b
def aj(K:yac)(P:yak)(H:Hp):yas->yar->Prop
 |[],a=>a=[]
 |d::b,a=>∃v r,a=v::r/\Den K P H d v/\aj K P H b r
end
section
variable{K:yac}{P P':yak}{H H':Hp}
mutual
theorem Den.map(g:∀a vs,Ql K H a vs->Ql K H' a vs)(f:∀t a vs,¬P t a->RU K H t a vs->¬P' t a/\RU K H' t a vs)(b:∀a o,Xl o->H a=some o->H' a=some o):∀(d:D) (v:V),Den K P H d v->Den K P' H' d v
 |.Qe,_,h=>by simpa only[Den]using h
 |.bl _,_,h=>by simpa only[Den]using h
 |.int _,_,h=>by simpa only[Den]using h
 |.str _,_,h=>by simpa only[Den]using h
 |.tup d,_,h=>by simp only[Den]at h ⊢;obtain⟨a,vs,e,q,r⟩:=h;exact⟨a,vs,e,g a vs q,aj.map g f b d vs r⟩
 |.lst t d,_,h=>by simp only[Den]at h ⊢;obtain⟨a,vs,e,p,q,r⟩:=h;exact⟨a,vs,e,(f t a vs p q).1,(f t a vs p q).2,aj.map g f b d vs r⟩
 |.exc c,_,h=>by simp only[Den]at h ⊢;obtain⟨a,e,q,k⟩:=h;exact⟨a,e,b a _ True.intro q,k⟩
 |.obj C i d,_,h=>by simp only[Den]at h ⊢;obtain⟨a,c,vs,e,q,l,k,r⟩:=h;exact⟨a,c,vs,e,b a _ True.intro q,l,k,aj.map g f b d vs r⟩
 |.Um,_,h=>by simp only[Den]at h ⊢;obtain⟨a,e,q⟩:=h;exact⟨a,e,b a _ True.intro q⟩
 |.S6 j d,_,h=>by simp only[Den]at h ⊢;obtain⟨a,o,c,vs,e,q,l,k,r⟩:=h;exact⟨a,o,c,vs,e,b a _ True.intro q,l,k,aj.map g f b d vs r⟩
 |.ra a,_,h=>by simp only[Den]at h ⊢;obtain⟨e,p,vs,q⟩:=h;obtain⟨c,b⟩:=f false a vs p q;exact⟨e,c,vs,b⟩
theorem aj.map(c:∀a vs,Ql K H a vs->Ql K H' a vs)(f:∀t a vs,¬P t a->RU K H t a vs->¬P' t a/\RU K H' t a vs)(b:∀a o,Xl o->H a=some o->H' a=some o):∀(ds:yas) (vs:yar),aj K P H ds vs->aj K P' H' ds vs
 |[],_,h=>by simpa only[aj]using h
 |d::ds,_,h=>by simp only[aj]at h ⊢;obtain⟨v,r,e,g,a⟩:=h;exact⟨v,r,e,Den.map c f b d v g,aj.map c f b ds r a⟩
end
end
def Ql.same{K:yac}{H H':Hp}{a:Addr}{xs:yar}(e:aw H H')(h:Ql K H a xs):Ql K H' a xs:=h.imp (e _ _) id
section
variable{K:yac}{P:yak}{H H':Hp}
theorem Den.same(e:aw H H')(h:Den K P H d v):Den K P H' d v:=Den.map (λ_ _ q=>Ql.same e q) (λ_ _ _ p q=>⟨p,q.same e⟩) (λa _ n q=>e.kp a _ q n.nt) d v h
theorem aj.same(e:aw H H')(h:aj K P H ds vs):aj K P H' ds vs:=aj.map (λ_ _ q=>Ql.same e q) (λ_ _ _ p q=>⟨p,q.same e⟩) (λa _ n q=>e.kp a _ q n.nt) ds vs h
def Den.P4{P':yak}(e:∀t a,P' t a->P t a)(h:Den K P H d v):Den K P' H d v:=Den.map (λ_ _ q=>q) (λ_ _ _ p q=>⟨λz=>p (e _ _ z),q⟩) (λ_ _ _ q=>q) d v h
def aj.P4{P':yak}(e:∀t a,P' t a->P t a)(h:aj K P H ds vs):aj K P' H ds vs:=aj.map (λ_ _ q=>q) (by grind) (by lia) ds vs h
theorem aj.len:∀{ds:yas} {vs:yar},aj K P H ds vs->vs.length=ds.length
 |[],_,h=>by simp only[aj]at h;simp_all
 |d::ds,_,h=>by obtain⟨v,r,rfl,_,a⟩:=h;simp[aj.len a]
theorem aj.get:∀{ds:yas} {vs:yar} {i:Nat} {d:D},aj K P H ds vs->ds[i]?=some d->∃v,vs[i]?=some v/\Den K P H d v
 |[],_,_,_,_,e=>by simp at e
 |d::ds,_,0,_,h,e=>by simp only[aj]at h;obtain⟨v,r,rfl,a,_⟩:=h;simp at e;subst e;exact⟨v,rfl,a⟩
 |d::ds,_,i+1,x,h,e=>by simp only[aj]at h;obtain⟨v,r,rfl,_,a⟩:=h;obtain⟨u,c,b⟩:=aj.get (i:=i) (d:=x) a (by simpa using e);exact⟨u,by simpa using c,b⟩
theorem aj.bJ:∀{ds:yas} {vs:yar} {i:Nat} {v:V},aj K P H ds vs->vs[i]?=some v->∃d,ds[i]?=some d/\Den K P H d v
 |[],_,_,_,h,e=>by simp only[aj]at h;simp_all
 |d::ds,_,0,_,h,e=>by simp only[aj]at h;grind
 |d::ds,_,i+1,x,h,e=>by
  obtain⟨v,r,rfl,_,a⟩:=h;obtain⟨u,c,b⟩:=aj.bJ (i:=i) (v:=x) a (by simpa using e)
  simp_all
theorem aj.append:∀{ds es:yas} {vs a:yar},aj K P H ds vs->aj K P H es a->aj K P H (ds++es) (vs++a)
 |[],_,_,_,h,a=>by simp only[aj]at h;simp_all
 |d::ds,_,_,_,h,a=>by obtain⟨v,r,rfl,c,b⟩:=h;exact⟨v,_,rfl,c,aj.append b a⟩
def aj.one(h:Den K P H d v):aj K P H [d] [v]:=by simp only[aj];exact⟨v,[],rfl,h,rfl⟩
def aj.nil:aj K P H [] []:=by simp only[aj]
def aj.cons(h:Den K P H d v)(h':aj K P H ds vs):aj K P H (d::ds) (v::vs):=by exact⟨v,vs,rfl,h,h'⟩
def Den.QH(h:Den K P H (.int i) v):v=.int i:=by simpa only[Den]using h
def Den.X3(h:Den K P H (.bl b) v):v=.bl b:=by simpa only[Den]using h
def Den.Xm(h:Den K P H .Qe v):v=.Qe:=by simpa only[Den]using h
def Den.Yz(h:Den K P H (.str x) v):v=.str x:=by simpa only[Den]using h
theorem Den.int(i:Int):Den K P H (.int i) (.int i):=by simp only[Den]
theorem Den.bl(b:Bool):Den K P H (.bl b) (.bl b):=by simp only[Den]
theorem Den.Qe:Den K P H .Qe .Qe:=by simp only[Den]
theorem Den.str(x:Str):Den K P H (.str x) (.str x):=by simp only[Den]
def Den.RA(h:Den K P H (.tup ds) v):∃a vs,v=.ref a/\Ql K H a vs/\aj K P H ds vs:=by simpa only[Den]using h
def Den.Sr(h:Den K P H (.lst t ds) v):∃a vs,v=.ref a/\¬P t a/\RU K H t a vs/\aj K P H ds vs:=by simpa only[Den]using h
def Den.Se(h:Den K P H (.lst t ds) v):∃a vs,v=.ref a/\¬P t a/\SqL K H a vs/\aj K P H ds vs:=by obtain⟨a,vs,e,d,c,b⟩:=h.Sr;exact⟨a,vs,e,d,c.1,b⟩
def Den.dic_ (h:Den K P H .Um v):∃a,v=.ref a/\H a=some (.ext (PySem.W.KitAt a "dict")):=by simpa only[Den]using h
theorem Den.Um (h:H a=some (.ext (PySem.W.KitAt a "dict"))):Den K P H .Um (.ref a):=by simp only[Den];exact⟨a,rfl,h⟩
def Den.Z2(h:Den K P H (.obj C ns ds) v):∃a b vs,v=.ref a/\H a=some (.ins C b (ns.zip vs))/\vs.length=ns.length/\CH K C/\aj K P H ds vs:=by simpa only[Den]using h
theorem Den.obj{ns:yah}(h:H a=some (.ins C dx (ns.zip vs)))(l:vs.length=ns.length)(k:CH K C)(d:aj K P H ds vs):Den K P H (.obj C ns ds) (.ref a):=by exact⟨a,dx,vs,rfl,h,l,k,d⟩
def Den.ra_(h:Den K P H (.ra a) v):v=.ref a/\¬P false a/\∃vs,RU K H false a vs:=by simpa only[Den]using h
def Den.YA(h:Den K P H (.S6 ks ds) v):∃a o kws vs,v=.ref a/\H a=some (.frz o (.dK kws))/\kws=(ks.map Sum.inl).zip vs/\vs.length=ks.length/\aj K P H ds vs:=by simpa only[Den]using h
theorem Den.S6{ks:yaf}(h:H a=some (.frz o (.dK ((ks.map Sum.inl).zip vs))))(l:vs.length=ks.length)(d:aj K P H ds vs):Den K P H (.S6 ks ds) (.ref a):=by exact⟨a,o,_,vs,rfl,h,rfl,l,d⟩
def Den.Z3(h:Den K P H (.exc c) v):∃e,v=.ref e/\H e=some (.ext (ExcAt e c))/\gF K c:=by simpa only[Den]using h
theorem Den.exc(h:H e=some (.ext (ExcAt e c)))(k:gF K c):Den K P H (.exc c) (.ref e):=by simp only[Den];exact⟨e,rfl,h,k⟩
theorem Den.tup(h:Ql K H a vs)(h':aj K P H ds vs):Den K P H (.tup ds) (.ref a):=by exact⟨a,vs,rfl,h,h'⟩
theorem Den.lst(p:¬P t a)(h:RU K H t a vs)(h':aj K P H ds vs):Den K P H (.lst t ds) (.ref a):=by exact⟨a,vs,rfl,p,h,h'⟩
end
inductive LI where
 |own (ds:yas)|val (d:D)
inductive OS where
 |lst (ds:yas)|dk (kvs:List (Key×D))|dt (kvs:List (List Key×D))|ll (xs:List LI)
inductive Sl where
 |val (d:D)
 |ob (x:OS)
abbrev Sl.own(ds:yas):Sl:=.ob (.lst ds)
def bC(K:yac)(P:yak)(H:Hp)(B:yaj):Nat->List LI->yar->Prop
 |_,[],a=>a=[]
 |k,.own d::r,a=>∃b c u,a=.ref b::u/\B k=some b/\H b=some (.lst c)/\aj K P H d c/\bC K P H B (k+1) r u
 |k,.val d::r,a=>∃v u,a=v::u/\Den K P H d v/\bC K P H B (k+1) r u
theorem bC.map{K:yac}{P P':yak}{H H':Hp}{B B':yaj}(c:∀ds vs,aj K P H ds vs->aj K P' H' ds vs)(f:∀k b,B k=some b->B' k=some b/\∀a,H b=some (.lst a)->H' b=some (.lst a)):∀{k:Nat} {xs:List LI} {vs:yar},bC K P H B k xs vs->bC K P' H' B' k xs vs
 |_,[],_,h=>by simpa only[bC]using h
 |k,.own ds::r,_,h=>by obtain⟨b,a,u,e,g,l,j,i⟩:=h;exact⟨b,a,u,e,(f k b g).1,(f k b g).2 a l,c ds a j,bC.map c f i⟩
 |k,.val d::r,_,h=>by obtain⟨v,u,e,g,l⟩:=h;have j:=c [d] [v] (aj.one g);obtain⟨m,n,a,i,_⟩:=j;cases a;exact⟨v,u,e,i,bC.map c f l⟩
theorem bC.len{K:yac}{P:yak}{H:Hp}{B:yaj}:∀{k:Nat} {xs:List LI} {vs:yar},bC K P H B k xs vs->vs.length=xs.length
 |_,[],_,h=>by simp only[bC]at h;simp_all
 |k,.own e::r,_,h=>by obtain⟨b,c,u,rfl,_,_,_,a⟩:=h;simp[bC.len a]
 |k,.val d::r,_,h=>by obtain⟨v,u,rfl,_,a⟩:=h;simp[bC.len a]
inductive dw (K:yac) (P:yak) (H:Hp) (B:yaj):OS->HO->Prop where
 |lst {ds:yas} {vs:yar} (h:aj K P H ds vs):dw K P H B (.lst ds) (.lst vs)
 |ll {xs:List LI} {vs:yar} (h:bC K P H B 0 xs vs):dw K P H B (.ll xs) (.lst vs)
 |dk {kvs:List (Key×D)} {kws:List (Key×V)} (e:kws.map (·.1)=kvs.map (·.1)) (h:aj K P H (kvs.map (·.2)) (kws.map (·.2))):dw K P H B (.dk kvs) (.dK kws)
 |dt {kvs:List (List Key×D)} {kws:List (List Key×V)} (e:kws.map (·.1)=kvs.map (·.1)) (h:aj K P H (kvs.map (·.2)) (kws.map (·.2))):dw K P H B (.dt kvs) (.dT kws)
def jA:HO->Prop
 |.lst _=>True|.dK _=>True|.dT _=>True|_=>False
def jA.nt(h:jA o):NT o:=by cases o<;>first|exact True.intro|exact h.elim
def jA.sol(h:jA o):¬Xl o:=by cases o<;>first|exact h.elim|exact λz=>z
def jA.ne(h:jA o):∀a,o ≠ .ext a:=λ_ e=>by subst e;exact h
section
variable{K:yac}{P P':yak}{H H':Hp}{B B':yaj}{x:OS}{o:HO}
theorem dw.map(k:∀ds vs,aj K P H ds vs->aj K P' H' ds vs)(c:∀k b,B k=some b->B' k=some b/\∀a,H b=some (.lst a)->H' b=some (.lst a))(h:dw K P H B x o):dw K P' H' B' x o:=by
 cases h with
 |lst h=>exact .lst (k _ _ h)
 |ll h=>exact .ll (h.map k c)
 |dk e h=>exact .dk e (k _ _ h)
 |dt e h=>exact .dt e (k _ _ h)
theorem dw.same(e:aw H H')(h:dw K P H B x o):dw K P H' B x o:=h.map (λ_ _ z=>z.same e) λ_ _ q=>⟨q,λ_ z=>e _ _ z⟩
theorem dw.P4(e:∀t a,P' t a->P t a)(c:∀k b,B k=some b->B' k=some b)(h:dw K P H B x o):dw K P' H B' x o:=h.map (λ_ _ z=>z.P4 e) λk b q=>⟨c k b q,λ_ z=>z⟩
def dw.WQ(h:dw K P H B x o):jA o:=by cases h<;>exact True.intro
def dw.Se(h:dw K P H B (.lst ds) o):∃vs,o=.lst vs/\aj K P H ds vs:=by
 cases h with
 |lst h=>exact⟨_,rfl,h⟩
end
abbrev Ro:=List (Option Sl)
structure Own where
 B:Addr->Prop
 O:yaj
 S:Addr->Prop
def Own.bad(W:Own)(t:Bool)(a:Addr):Prop:=W.B a∨(∃i,W.O i=some a)∨(t=true/\W.S a)
def Own.drop(W:Own)(i:Nat):Own:=⟨W.B,λj=>if j=i then none else W.O j,W.S⟩
def Own.put(W:Own)(i:Nat)(a:Addr):Own:=⟨W.B,λj=>if j=i then some a else W.O j,W.S⟩
def Own.Qq{W:Own}(h:(W.drop i).bad t a):W.bad t a:=by
 rcases h with h|⟨j,h⟩| h;exact .inl h;have b:(if j=i then none else W.O j)=some a:=h;by_cases e:j=i
 lia
 rw[Po e]at b;exact .inr (.inl ⟨j,b⟩);exact .inr (.inr h)
def Own.Tb{W:Own}(h:W.bad false a):W.bad t a:=by
 rcases h with h|h|⟨h,_⟩;exact .inl h;exact .inr (.inl h)
 lia
def Z4(n i k:Nat):Nat:=n*(k+1)+i
def qv{n j:Nat}(h:j<n):Z4 n i k≠j:=λe=>by
 unfold Z4 at e
 lia
abbrev Own.sub(W:Own)(n i:Nat)(k:Nat):Option Addr:=W.O (Z4 n i k)
def Own.SU{W:Own}{n i:Nat}(h:i<n)(k:Nat)(b:Addr)(e:W.sub n j k=some b):(W.drop i).sub n j k=some b:=by show(if Z4 n j k=i then none else W.O (Z4 n j k))=_;rw[Po (qv h)];exact e
structure Rel(X:Cx)(W:Own)(H:Hp)(σ:St)(ρ:Ro):Prop where
 val:∀(i:Nat) (d:D),ρ[i]?=some (some (Sl.val d))->∃v,σ[i]?=some (some v)/\Den X.K W.bad H d v
 own:∀(i:Nat) (x:OS),ρ[i]?=some (some (Sl.ob x))->∃a o,W.O i=some a/\σ[i]?=some (some (.ref a))/\H a=some o/\dw X.K W.bad H (W.sub σ.length i) x o
 inj:∀i j a,W.O i=some a->W.O j=some a->i=j
 kn:∀i a,W.O i=some a->X.K.lookup a=none/\(¬W.B a/\¬W.S a)/\∃o,H a=some o/\jA o
 ke:∀i a,W.O i=some a->X.Qj a=none
 bt:∀a,W.B a->∃o,H a=some o
 st:∀a,W.S a->∃o,H a=some o
 ent:aw X.Qj H
 tab:jE X.K H
theorem Rel.same(r:Rel X W H σ ρ)(e:aw H H'):Rel X W H' σ ρ where
 val:=λi d h=>let ⟨v,h1,h2⟩:=r.val i d h;⟨v,h1,h2.same e⟩
 own:=λi b h=>let ⟨a,vs,h1,h2,h3,h4⟩:=r.own i b h;⟨a,vs,h1,h2,e.kp _ _ h3 h4.WQ.nt,h4.same e⟩
 inj:=r.inj
 kn:=λi a h=>let ⟨h1,h2,o,h3,h4⟩:=r.kn i a h;⟨h1,h2,o,e.kp _ _ h3 h4.nt,h4⟩
 ke:=r.ke
 bt:=λa h=>let ⟨_,q⟩:=r.bt a h;e.ex q
 st:=λa h=>let ⟨_,q⟩:=r.st a h;e.ex q
 ent:=r.ent.trans e
 tab:=r.tab.same e
def Rel.pN(r:Rel X W H σ ρ)(i:Nat)(ds:yas)(h:ρ[i]?=some (some (Sl.own ds))):∃a vs,W.O i=some a/\σ[i]?=some (some (.ref a))/\H a=some (.lst vs)/\aj X.K W.bad H ds vs:=by obtain⟨a,o,g,f,d,c⟩:=r.own i _ h;obtain⟨vs,e,b⟩:=c.Se;subst e;exact⟨a,vs,g,f,d,b⟩
def Rel.tracked(r:Rel X W H σ ρ)(t:Bool)(a:Addr)(h:W.bad t a):∃o,H a=some o:=by
 rcases h with h|⟨i,h⟩| ⟨_,h⟩;exact r.bt a h;obtain⟨_,_,o,q,_⟩:=r.kn i a h;exact⟨_,q⟩;exact r.st a h
def Rel.fresh(r:Rel X W H σ ρ)(h:H p=none):¬W.bad t p:=λz=>by
 obtain⟨o,q⟩:=r.tracked t p z
 lia
structure Qk(W:Own)(H:Hp)(W':Own)(H':Hp):Prop where
 B:W'.B=W.B
 S:W'.S=W.S
 kp:∀b o,(∀i,W.O i≠some b)->H b=some o->NT o->H' b=some o
 new:∀i a,W'.O i=some a->(∃j,W.O j=some a)∨H a=none
 tb:∀b ps,H b=some (.U4 ps)->∃more,H' b=some (.U4 (ps++more))
 ok:dm H->dm H'
def Qk.keep(f:Qk W H W' H')(b:Addr)(o:HO)(h:∀i,W.O i≠some b)(q:H b=some o)(a:NT o:=by first|exact True.intro|assumption):H' b=some o:=f.kp b o h q a
def Qk.ex(f:Qk W H W' H'){b:Addr}{o:HO}(h:∀i,W.O i≠some b)(q:H b=some o):∃a,H' b=some a:=by
 by_cases n:NT o;exact⟨o,f.kp b o h q n⟩;cases o with
 |U4 a =>
  obtain⟨m,e⟩:=f.tb b a q;exact⟨_,e⟩
 |_=>exact absurd True.intro n
def Qk.refl(W:Own)(H:Hp):Qk W H W H:=⟨rfl,rfl,by lia,λi _ h=>.inl ⟨i,h⟩,by simp_all,id⟩
theorem Qk.trans(a:Qk W H W1 H1)(b:Qk W1 H1 W2 H2):Qk W H W2 H2:=by
 refine⟨b.B.trans a.B,b.S.trans a.S,λx o n h t=>b.kp x o (λi z=>?_) (a.kp x o n h t) t,λi x h=>?_,λc d h=>?_,λh=>b.ok (a.ok h)⟩
 ·rcases a.new i x z with⟨j,q⟩| q
  all_goals grind
 rcases b.new i x h with⟨j,q⟩| q;exact a.new j x q;by_cases z:∃j,W.O j=some x
 simp_all
 refine .inr ?_;cases e:H x with
 |none=>rfl
 |some o =>
  obtain⟨f,this⟩:=a.ex (by simp_all) e
  lia
 obtain⟨k,e⟩:=a.tb c d h;obtain⟨g,l⟩:=b.tb c _ e;grind
def Qk.same(e:aw H H'):Qk W H W H':=⟨rfl,rfl,λ_ _ _ h n=>e.kp _ _ h n,λi _ h=>.inl ⟨i,h⟩,e.tb,e.ok⟩
def aw.ins(e:aw Qj H){o:HO}(h0:Qj a=none)(f:H a=some o)(c:jA o)(d:NT o'):aw Qj (upd H a o') :=
 ⟨λb u h n=>by rw[aC (aT h h0)];exact e.kp b u h n,λb a h=>by rw[aC (aT h h0)];exact e.tb b a h,λh=>dm.upd d (.inr ⟨o,f,c.ne,c.nt⟩) (e.ok h)⟩
theorem Qk.upd{W:Own}{H:Hp}{a:Addr}{o:HO}(f:W.O i=some a)(d:H a=some o)(c:jA o)(g:NT o'):Qk W H W (upd H a o') :=
 ⟨rfl,rfl,λb u n h _=>by rw[aC λe=>n i (by rw[e];exact f)];exact h,λj _ h=>.inl ⟨j,h⟩,λb k h=>⟨#[],by rw[aC (λe=>by subst e;rw[d]at h;cases h;exact c),h];simp⟩,dm.upd g (.inr ⟨o,d,c.ne,c.nt⟩)⟩
structure k8 where
 nx:Ro->Prop
 rt:D->Prop
 bk:Ro->Prop:=λ_=>False
 ct:Ro->Prop:=λ_=>False
abbrev DE:=Ro->(D->Prop)->Prop
abbrev DT:=Ro->(Bool->Prop)->Prop
abbrev DA:=Ro->(yas->Prop)->Prop
abbrev DS:=k8->Ro->Prop
inductive DP (X:Cx) (pins:yab) (σ:St) (W:Own) (H:Hp) (Q:D->Prop) (u:Value) (s':Shared):Prop
 |mk (v:V) (H':Hp) (d:D) (_:Inv X pins σ H' s') (_:RelV v u) (_:aw H H') (_:Den X.K W.bad H' d v) (_:Q d)
inductive DTP (X:Cx) (pins:yab) (σ:St) (H:Hp) (Q:Bool->Prop) (b:Bool) (s':Shared):Prop
 |mk (H':Hp) (_:Inv X pins σ H' s') (_:aw H H') (_:Q b)
inductive DAP (X:Cx) (pins:yab) (σ:St) (W:Own) (H:Hp) (Q:yas->Prop) (us:yad) (s':Shared):Prop
 |mk (vs:yar) (H':Hp) (ds:yas) (_:Inv X pins σ H' s') (_:Vals vs us) (_:aw H H') (_:aj X.K W.bad H' ds vs) (_:Q ds)
def SPf(X:Cx)(E:k8)(b:Own)(c:St)(H':Hp)(f:Flow):Prop :=
 match f with
 |.next=>∃a,Rel X b H' c a/\E.nx a
 |.brk=>∃a,Rel X b H' c a/\E.bk a
 |.cont=>∃a,Rel X b H' c a/\E.ct a
 |.ret u=>∃v d,RelV v u/\Den X.K b.bad H' d v/\E.rt d
inductive X4 (X:Cx) (pins:yab) (W:Own) (H:Hp) (E:k8) (f:Flow) (s':Shared):Prop
 |mk (W':Own) (PC:St) (H':Hp) (_:Inv X pins PC H' s') (_:Qk W H W' H') (_:SPf X E W' PC H' f)
def P5(X:Cx)(e:Expr)(t:DE):Prop :=
 ∀ (a:yab) (s:Shared) (b:St) (H:Hp) (W:Own) (c:Ro) (Q:D->Prop),Inv X a b H s->Rel X W H b c->t c Q →
  wpAny (model X.prog X.w) X.A (eval e X.env) (DP X a b W H Q) X.xe s
def Va(X:Cx)(e:Expr)(t:DT):Prop :=
 ∀ (a:yab) (s:Shared) (b:St) (H:Hp) (W:Own) (c:Ro) (Q:Bool->Prop),Inv X a b H s->Rel X W H b c->t c Q →
  wpAny (model X.prog X.w) X.A (isTrue e X.env (eval e X.env)) (DTP X a b H Q) X.xe s
def Ui(X:Cx)(e:Expr)(t:DT):Prop :=
 ∀ (b:Sem Value) (a:yab) (s:Shared) (c:St) (H:Hp) (W:Own) (d:Ro) (Q:Bool->Prop),Inv X a c H s->Rel X W H c d->t d Q →
  wpAny (model X.prog X.w) X.A (isTrue e X.env b) (DTP X a c H Q) X.xe s
def Ui.pt(h:Ui X e t):Va X e t:=h _
def Uo(X:Cx)(es:yai)(t:DA):Prop :=
 ∀ (c:Pos) (a:yab) (s:Shared) (b:St) (H:Hp) (W:Own) (d:Ro) (Q:yas->Prop),Inv X a b H s->Rel X W H b d->t d Q →
  wpAny (model X.prog X.w) X.A (spliced (backTo c (starEach es X.env))) (DAP X a b W H Q) X.xe s
def Sf(X:Cx)(st:Stmt)(t:DS):Prop :=
 ∀ (a:yab) (s:Shared) (b:St) (H:Hp) (W:Own) (c:Ro) (E:k8),Inv X a b H s->Rel X W H b c->t E c →
  wpAny (model X.prog X.w) X.A (exec st X.env) (X4 X a W H E) X.xe s
def c6(X:Cx)(st:yal)(t:DS):Prop :=
 ∀ (a:yab) (s:Shared) (b:St) (H:Hp) (W:Own) (c:Ro) (E:k8),Inv X a b H s->Rel X W H b c->t E c →
  wpAny (model X.prog X.w) X.A (execs st X.env) (X4 X a W H E) X.xe s
def Dd(X:Cx)(t:DE):TE:=λc H Q=>∃W a b,Rel X W H c a/\t a b/\∀v a d,aw H a->Den X.K W.bad a d v->b d->Q v a
def N5(X:Cx)(t:DS):TS:=λD b H=>∃W a f,Rel X W H b a/\t f a ∧
 (∀b e a c,Qk W H b a->Rel X b a e c->f.nx c->D.nx e a) ∧
 (∀b a v d,Qk W H b a->Den X.K b.bad a d v->f.rt d->D.rt v a) ∧
 (∀b e a c,Qk W H b a->Rel X b a e c->f.bk c->D.bk e a) ∧
 (∀b e a c,Qk W H b a->Rel X b a e c->f.ct c->D.ct e a)
section
variable{X:Cx}
def P5.pe(h:P5 X e t):PE X e (Dd X t):=by intro a s b H Q I q;obtain⟨W,c,e,r,d,k⟩:=q;exact Px (h a s b H W c e I r d) λu i g=>(by obtain⟨v,a,d,h,b,f,e,c⟩:=g;exact⟨v,a,h,b,k v a d f e c⟩)
def c6.ps{st:yal}{t:DS}(h:c6 X st t):ZU X st (N5 X t):=by
 intro a s b H D I q;obtain⟨W,c,e,r,d,m,l,k,j⟩:=q;refine Px (h a s b H W c e I r d) λf n b=>?_
 obtain⟨h,c,a,i,g,q⟩:=b;cases f with
 |next=>obtain⟨e,d,b⟩:=q;exact⟨c,a,i,m h c a e g d b⟩
 |brk=>obtain⟨e,d,b⟩:=q;exact⟨c,a,i,k h c a e g d b⟩
 |cont=>obtain⟨e,d,b⟩:=q;exact⟨c,a,i,j h c a e g d b⟩
 |ret u=>obtain⟨v,d,e,f,b⟩:=q;exact⟨v,c,a,i,e,l h a v d g f b⟩
def P5.of{t:DE}(h:PE X e te)(k:∀a H W ρ Q,Rel X W H a ρ->t ρ Q->te a H λv H'=>aw H H'/\∃d,Den X.K W.bad H' d v/\Q d):P5 X e t:=by intro b s a H W ρ Q I r c;exact Px (h b s a H _ I (k a H W ρ Q r c)) λu g e=>(by obtain⟨v,H',f,a,c,d,b,q⟩:=e;exact⟨v,H',d,f,a,c,b,q⟩)
end
section
variable{X:Cx}{a b c:Expr}{ta tb:DE}{pos:Pos}
def lS(i:Nat):DE:=λd Q=>match d[i]? with
 |some (some (.val d))=>Q d
 |_=>False
set_option tactic.hygienic true in
def JJ(h:lS i ρ Q):∃d,ρ[i]?=some (some (.val d))/\Q d:=by unfold lS at h;split at h;rename_i d e;exact⟨d,e,h⟩;exact h.elim
def dC(d:D):DE:=λ_ Q=>Q d
def dv (i:Nat) {x:Str} {pos:Pos} (f:X.N[i]?=some x:=by rfl) (d:WM X.env.scope x:=by first|exact Or.inl rfl|exact Or.inr (Or.inl rfl)|exact Or.inr (Or.inr rfl)) (e:(x==("__debug__" : Str))=false:=by decide)
  (g:(x==("__classdict__" : Str))=false:=by decide):P5 X (.Name x pos) (lS i) :=
 P5.of (fg f d e g) λh H W j Q r f=>by obtain⟨d,e,q⟩:=JJ f;obtain⟨v,g,f⟩:=r.val i d e;exact⟨v,g,aw.refl H,d,f,q⟩
def ae{i j pos}:P5 X (.Constant (.int i) j pos) (dC (.int i)):=P5.of uA λ_ H _ _ _ _ q=>⟨aw.refl H,_,Den.int i,q⟩
def fC{i j pos}:P5 X (.Constant (.bool i) j pos) (dC (.bl i)):=P5.of Od λ_ H _ _ _ _ q=>⟨aw.refl H,_,Den.bl i,q⟩
def dR{j pos}:P5 X (.Constant .none j pos) (dC .Qe):=P5.of Na λ_ H _ _ _ _ q=>⟨aw.refl H,_,Den.Qe,q⟩
def pE{x j pos}:P5 X (.Constant (.str x) j pos) (dC (.str x)):=P5.of Nb λ_ H _ _ _ _ q=>⟨aw.refl H,_,Den.str x,q⟩
abbrev RD2:=D->D->(D->Prop)->Prop
def Rb(X:Cx)(f:Value->Value->Sem Value)(r:RD2):Prop :=
 ∀ (d:yab) (s:Shared) (e:St) (H:Hp) (W:Own) (x y:D) (v u:V) (g h:Value) (Q:D->Prop),Inv X d e H s->(∀t a,W.bad t a->∃o,H a=some o)->RelV v g->RelV u h->Den X.K W.bad H x v->Den X.K W.bad H y u->r x y Q →
  wpAny (model X.prog X.w) X.A (f g h) (DP X d e W H Q) X.xe s
def dOp(r:RD2)(ta tb:DE):DE:=λd Q=>ta d λx=>tb d λy=>r x y Q
def CO(m:P5 X a ta)(q:P5 X b tb){d:yab}{s:Shared}{g:St}{H:Hp}{W:Own}{ρ:Ro}{R:D->D->Prop}(I:Inv X d g H s)(r:Rel X W H g ρ)(h:ta ρ λx=>tb ρ λy=>R x y)
  {l:Type} {Q:l->Shared->Prop} {f:Value->Value->Sem l}
  (p:∀i j k v u x y e,Inv X d g e k->aw H e->RelV v i->RelV u j->Den X.K W.bad e x v->Den X.K W.bad e y u->R x y->wpAny (model X.prog X.w) X.A (f i j) Q X.xe k) :
  wpAny (model X.prog X.w) X.A (eval a X.env) (λv o=>wpAny (model X.prog X.w) X.A (eval b X.env) (λu n=>wpAny (model X.prog X.w) X.A (f v u) Q X.xe n) X.xe o) X.xe s:=by
 refine Px (m d s g H W ρ _ I r h) λi l f=>?_
 obtain⟨v,t,x,s,m,h,o,n⟩:=f;refine Px (q d l g t W ρ _ s (r.same h) n) λj k f=>?_
 obtain⟨u,e,y,q,g,d,n,l⟩:=f;exact p i j k v u x y e q (h.trans d) m g (o.same d) n l
def DP.up(e:aw H H1)(h:DP X pins σ W H1 Q u s'):DP X pins σ W H Q u s':=by obtain⟨v,i,d,I,r,g,f,q⟩:=h;exact⟨v,i,d,I,r,e.trans g,f,q⟩
def ax{d:Operator}{r:RD2}(o:Rb X (binaryOp d) r)(i:P5 X a ta)(e:P5 X b tb):P5 X (.BinOp a d b pos) (dOp r ta tb):=by intro d s g H W t Q I f h;refine wpAny_BinOp (CO i e I f h λh i j v u x y r p e k l n m q=>?_);exact Px (o d j g r W x y v u h i Q p (f.same e).tracked k l n m q) λ_ _ z=>z.up e
def NU{rd:D->(D->Prop)->Prop}(n:UnR X (unaryOp op) r)(i:P5 X a ta)
  (k:∀P H d v Q,Den X.K P H d v->rd d Q->r v H λe H'=>aw H H'/\∃d',Den X.K P H' d' e/\Q d'):P5 X (.UnaryOp op a pos) (λρ Q=>ta ρ λx=>rd x Q):=by
 intro e s f H W ρ Q I g h;refine UnaryOp_ (Px (i e s f H W ρ _ I g h) λh i p=>?_);obtain⟨v,g,x,q,j,o,m,l⟩:=p;exact Px (n e i f g v h _ q j (k _ g x v Q m l)) λu t j=>(by obtain⟨e,l,k,f,i,d,h,g⟩:=j;exact⟨e,l,d,k,f,o.trans i,h,g⟩)
def yH(ta:DE):DE:=λd Q=>ta d λx=>∃i,x=.int i/\Q (.int (-i))
def bU(d:P5 X a ta):P5 X (.UnaryOp .USub a pos) (yH ta) :=
 NU (rd:=λx Q=>∃i,x=.int i/\Q (.int (-i))) NH d λP H d v Q d ⟨i,e,q⟩=>by subst e;exact⟨i,d.QH,aw.refl H,_,Den.int _,q⟩
def Rb.of{rd:RD2}(h:Ul X f r)(k:∀P H x y v u Q,Den X.K P H x v->Den X.K P H y u->rd x y Q->r v u H λd H'=>aw H H'/\∃d',Den X.K P H' d' d/\Q d'):Rb X f rd:=by intro d s e H W x y v u f g Q I _ i j m l q;exact Px (h d s e H v u f g _ I i j (k _ H x y v u Q m l q)) λ_ n j=>(by obtain⟨e,l,k,f,i,d,h,g⟩:=j;exact⟨e,l,d,k,f,i,h,g⟩)
def Zn(C:Int->Int->Prop)(g:Int->Int->D):RD2:=λx y Q=>match x,y with
 |.int i,.int j=>C i j/\Q (g i j)
 |_,_=>False
def gY(g:Int->Int->D):RD2:=λx y Q=>match x,y with
 |.int i,.int j=>Q (g i j)
 |_,_=>False
def Nm(h:Zn C g x y Q):∃i j,x=.int i/\y=.int j/\C i j/\Q (g i j):=by
 unfold Zn at h;split at h
 all_goals simp_all
def qU(h:gY g x y Q):∃i j,x=.int i/\y=.int j/\Q (g i j):=by
 unfold gY at h;split at h
 all_goals simp_all
def Rb.ofI{g:Int->Int->Int}(h:Ul X f (rI C λi j=>.int (g i j))):Rb X f (Zn C λi j=>.int (g i j)) :=
 Rb.of h λP H x y v u Q e d z=>by obtain⟨i,j,h,g,f,q⟩:=Nm z;subst h g;exact⟨i,j,e.QH,d.QH,f,aw.refl H,_,Den.int _,q⟩
def Rb.ofI0{g:Int->Int->Int}(h:Ul X f (X0 λi j=>.int (g i j))):Rb X f (gY λi j=>.int (g i j)) :=
 Rb.of h λP H x y v u Q e d z=>by obtain⟨i,j,g,f,q⟩:=qU z;subst g f;exact⟨i,j,e.QH,d.QH,aw.refl H,_,Den.int _,q⟩
def Rb.YB{g:Int->Int->Bool}(h:Ul X f (X0 λi j=>.bl (g i j))):Rb X f (gY λi j=>.bl (g i j)) :=
 Rb.of h λP H x y v u Q e d z=>by obtain⟨i,j,g,f,q⟩:=qU z;subst g f;exact⟨i,j,e.QH,d.QH,aw.refl H,_,Den.bl _,q⟩
def MV:Rb X (binaryOp .Add) (gY λi j=>.int (i+j)):=Rb.ofI0 M4
def bK:Rb X (binaryOp .Sub) (gY λi j=>.int (i - j)):=Rb.ofI0 M7
def fK:Rb X (compareOp .Lt) (gY λi j=>.bl (decide (i<j))):=Rb.YB Ob
def xJ:Rb X (compareOp .LtE) (gY λi j=>.bl (decide (i<=j))):=Rb.YB Oa
def xI:Rb X (compareOp .Gt) (gY λi j=>.bl (decide (j<i))):=Rb.YB N9
def Di:Rb X (compareOp .GtE) (gY λi j=>.bl (decide (j<=i))):=Rb.YB N8
def Bd(n:Nat)(x:Int):Prop:=x.natAbs<2 ^ n
def Bd.mono{n:Nat}(h:Bd m x)(l:m<=n):Bd n x:=R7 h (Ym (by decide) l)
def Bd.mul(h:Bd m x)(h':Bd n y):Bd (m+n) (x*y):=by unfold Bd at *;rw[Zb,Nat.pow_add];exact Nat.mul_lt_mul'' h h'
def Bd.add(h:Bd m x)(h':Bd m y):Bd (m+1) (x+y):=by
 unfold Bd at *;rw[Xb];have:=Int.natAbs_add_le x y
 lia
def Bd.sub(h:Bd m x)(h':Bd m y):Bd (m+1) (x - y):=by
 unfold Bd at *;rw[Xb];have:=Int.natAbs_sub_le x y
 lia
def Bd.neg(h:Bd m x):Bd m (-x):=by
 unfold Bd at *
 simp_all
def Bd.bits(h:Bd n x):Builtin.Int.intBits x<=n:=by
 unfold Builtin.Int.intBits;split
 lia
 have d:x.natAbs≠0:=by simp_all
 have:=(Nat.log2_lt d).mpr h
 lia
def CM(i j:Int):Prop:=Bd 64 i∨Bd 64 j∨(Bd 100000 i/\Bd 100000 j)
def CM.ok(h:CM i j):IntMulOk i j:=by
 rcases h with h|h|⟨h,d⟩;exact .of_left h.bits;exact .of_right h.bits;exact .of_bits (QM h.bits (by decide)) (QM d.bits (by decide))
def Kw:Ul X (binaryOp .Mult) (rI CM λi j=>.int (i*j)):=opI λ_ _ _ _ _ _ _ d q=>mul_int q d.ok
def aI:Rb X (binaryOp .Mult) (Zn CM λi j=>.int (i*j)):=Rb.ofI Kw
def CD(_:Int)(j:Int):Prop:=j≠0/\Bd 8000 j
def CD.noPy(h:CD i j):Builtin.divisionGoesByPylong i j=false:=by
 refine PyProof.noPylong_of_log2 ?_;have d:j.natAbs≠0:=λe=>h.1 (Int.natAbs_eq_zero.mp e)
 have:=(Nat.log2_lt d).mpr h.2
 lia
def HL:Ul X (binaryOp .FloorDiv) (rI CD λi j=>.int (i.fdiv j)):=opI λ_ _ _ _ _ _ _ d q=>floordiv_int d.1 q (.inl d.noPy)
def iF:Rb X (binaryOp .FloorDiv) (Zn CD λi j=>.int (i.fdiv j)):=Rb.ofI HL
def cG:Rb X (binaryOp .Mod) (Zn (λ_ j=>j≠0) λi j=>.int (i.fmod j)):=Rb.ofI Kv
def zI:Rb X (binaryOp .Pow) (Zn Gq λi j=>.int (i ^ j.toNat)):=Rb.ofI M6
def dB(t:DE):DT:=λd Q=>t d λx=>∃k,x=.bl k/\Q k
def kE{d:CmpOp}{r:RD2}(o:Rb X (compareOp d) r)(i:P5 X a ta)(e:P5 X b tb)(p:behindInMarks d b=false:=by first|exact zE _ (by decide) (by decide)|rfl):P5 X (.Compare a [d] [b] pos) (dOp r ta tb):=by intro d s g H W t Q I f h;refine wpAny_Compare1 (CO i e I f h λh i j v u x y s r e k l n m q=>?_) p;exact Px (o d j g s W x y v u h i Q r (f.same e).tracked k l n m q) λ_ _ z=>z.up e
def aH(J:Rb X (compareOp op) r)(O:P5 X a ta)(N:P5 X b tb)(L:behindInMarks op b=false:=by first|exact zE _ (by decide) (by decide)|rfl):Va X (.Compare a [op] [b] pos) (dB (dOp r ta tb)):=by
 intro e s f H W l Q I g h;refine wpAny_isTrue_Compare1 (Px (O e s f H W l _ I g h) λm p ⟨v,H1,x,I1,q,j,G,C⟩=>Px (N e p f H1 W l _ I1 (g.same j) C) λn o ⟨u,H2,y,I2,t,i,E,B⟩=>
  Px (J e o f H2 W x y v u m n _ I2 ((g.same j).same i).tracked q t (G.same i) E B) λc s3 ⟨z,H3,d,Y,w,U,M,k,T,A⟩=>?_) L
 subst T;have d:=M.X3;subst d;cases w;exact zCk ⟨H3,Y,j.trans (i.trans U),A⟩
def cC(h:P5 X e t)(j:∀d,isTrue e X.env d=(do let v←d;standAt e.pos;holding [v] (truthy v)):=by intro _;rfl):Va X e (dB t):=by intro d s e H W f Q I g i;refine isTrue_plain (Px (h d s e H W f _ I g i) λl m h=>?_) (j _);obtain⟨v,j,x,i,d,g,f,k,e,q⟩:=h;subst e;have e:=f.X3;subst e;cases d;exact zCk ⟨j,i,g,q⟩
variable{tA tB':DT}{rest:yai}
def LO(t u:DT):DT:=λd Q=>t d λc=>if c=true then u d Q else Q false
def dOr(t u:DT):DT:=λd Q=>t d λc=>if c=true then Q true else u d Q
def LU(t:DT):DT:=λd Q=>t d λc=>Q (!c)
def vo(i:Va X a tA):Ui X (.BoolOp .And [a] pos) tA:=by
 intro j d s e H W f Q I g h;refine isTrue_and (Px (i d s e H W f Q I g h) λc k e=>?_);cases c with
 |true=>exact isTrue_and_nil e
 |false=>exact e
def fZ(i:Va X a tA):Ui X (.BoolOp .Or [a] pos) tA:=by
 intro j d s e H W f Q I g h;refine isTrue_or (Px (i d s e H W f Q I g h) λc k e=>?_);cases c with
 |false=>exact isTrue_or_nil e
 |true=>exact e
def yS(e:Va X a tA)(n:Ui X (.BoolOp .And (b::rest) pos) tB'):Ui X (.BoolOp .And (a::b::rest) pos) (LO tA tB'):=by
 intro l d s f H W g Q I i h;refine isTrue_and (Px (e d s f H W g _ I i h) λc m o=>?_);obtain⟨k,j,e,h⟩:=o;cases c with
 |true=>exact Px (n l d m f k W g Q j (i.same e) h) λ_ _ g=>(by obtain⟨l,i,f,d⟩:=g;exact⟨l,i,e.trans f,d⟩)
 |false=>exact⟨k,j,e,h⟩
def de(e:Va X a tA)(n:Ui X (.BoolOp .Or (b::rest) pos) tB'):Ui X (.BoolOp .Or (a::b::rest) pos) (dOr tA tB'):=by
 intro l d s f H W g Q I i h;refine isTrue_or (Px (e d s f H W g _ I i h) λc m o=>?_);obtain⟨k,j,e,h⟩:=o;cases c with
 |true=>exact⟨k,j,e,h⟩
 |false=>exact Px (n l d m f k W g Q j (i.same e) h) λ_ _ g=>(by obtain⟨i,h,f,d⟩:=g;exact⟨i,h,e.trans f,d⟩)
def cf(i:Va X a tA):Va X (.UnaryOp .Not a pos) (LU tA):=by intro d s e H W f Q I g h;exact isTrue_not (Px (i d s e H W f (λc=>Q (!c)) I g h) λ_ _ e=>(by obtain⟨a,b,c,d⟩:=e;exact⟨a,b,c,d⟩))
def IK(ta tb:DE):DE:=λd Q=>ta d λx=>∃c,x=.bl c/\if c=true then tb d Q else Q (.bl false)
def IS(ta:DE):DE:=λd Q=>ta d λx=>∃c,x=.bl c/\Q (.bl (!c))
def pC{op}(h:P5 X a t):P5 X (.BoolOp op [a] pos) t:=λd s e H W f Q I g i=>BoolOp_one (h d s e H W f Q I g i)
def pB(e:P5 X a ta)(p:P5 X (.BoolOp .And (b::rest) pos) tb):P5 X (.BoolOp .And (a::b::rest) pos) (IK ta tb):=by
 intro d s f H W g Q I i h;refine BoolOp_and (Px (e d s f H W g _ I i h) λr l q=>?_);obtain⟨v,k,x,j,m,e,o,c,n,h⟩:=q;subst n;have n:=o.X3;subst n;cases m;refine zCk ?_;cases c with
 |true=>exact Px (p d l f k W g Q j (i.same e) h) λ_ _ z=>z.up e
 |false=>exact⟨.bl false,k,_,j,rfl,e,Den.bl _,h⟩
def yL(i:P5 X a ta):P5 X (.UnaryOp .Not a pos) (IS ta):=by intro d s e H W f Q I g h;refine UnaryOp_ (Px (i d s e H W f _ I g h) λl m i=>?_);obtain⟨v,k,x,j,d,h,g,c,f,e⟩:=i;subst f;have f:=g.X3;subst f;cases d;exact not_of (zCk ⟨.bl (!c),k,_,j,rfl,h,Den.bl _,e⟩)
def dIf(t:DT)(ta tb:DE):DE:=λd Q=>t d λc=>if c=true then ta d Q else tb d Q
def rS(d:Va X c tA)(o:P5 X a ta)(n:P5 X b tb):P5 X (.IfExp c a b pos) (dIf tA ta tb):=by
 intro e s g H W i Q I j h;refine wpAny_IfExp (Px (d e s g H W i _ I j h) λd h p=>?_);obtain⟨m,l,f,k⟩:=p;cases d with
 |true=>exact Px (o e h g m W i Q l (j.same f) k) λ_ _ z=>z.up f
 |false=>exact Px (n e h g m W i Q l (j.same f) k) λ_ _ z=>z.up f
def vK:RD2:=λx y Q=>match x,y with
 |.tup e,.int i=>∃d,Rz e i=some d/\Q d
 |.lst _ e,.int i=>∃d,Rz e i=some d/\Q d
 |_,_=>False
def KL(h:vK x y Q):∃ds i d,(x=.tup ds∨∃ t,x=.lst t ds)/\y=.int i/\Rz ds i=some d/\Q d:=by
 unfold vK at h;split at h
 all_goals simp_all
def yf{K:yac}{P:yak}{H:Hp}{ds:yas}{vs:yar}{i:Int}{d:D}(h:aj K P H ds vs)(e:Rz ds i=some d):∃v,Rz vs i=some v/\Den K P H d v:=by
 unfold Rz at e ⊢;rw[h.len];cases q:ixN ds.length i with
 |none=>simp_all
 |some j =>
  rw[q]at e;exact h.get e
def au(f:P5 X a ta)(e:P5 X b tb)(hs:Bg b:=by intro _ _;rfl):P5 X (.Subscript a b pos) (dOp vK ta tb):=by
 intro j s C H W T Q I d h;refine Subscript_ (CO f e I d h λE G H v u x y h N e I J L f q=>?_)
 replace q:=KL q
 obtain⟨Y,i,d,m,g,M,q⟩:=q;subst g;have g:=f.QH;subst g;have l:∀(f:V),Den X.K W.bad h d f->aw h h/\∃g,Den X.K W.bad h g f/\Q g:=λf k=>⟨aw.refl _,d,k,q⟩
 rcases m with m|⟨U,m⟩;subst m;obtain⟨p,o,t,s,k⟩:=L.RA;subst t;obtain⟨f,x,w⟩:=yf k M;exact Px (zh a b j H C h _ _ E G (λf d=>aw h d/\∃g,Den X.K W.bad d g f/\Q g) N I J ⟨p,o,i,f,rfl,rfl,s.w,x,l f w⟩ (hs _ _))
  λ_ O z=>(by obtain⟨n,B,A,q,u,g,y,r⟩:=z;exact⟨n,B,g,A,q,e.trans u,y,r⟩)
 subst m;obtain⟨p,o,t,_,s,k⟩:=L.Se;subst t;obtain⟨f,x,w⟩:=yf k M;exact Px (Kb a b j H C h _ _ E G (λf d=>aw h d/\∃g,Den X.K W.bad d g f/\Q g) N I J ⟨p,o,i,f,rfl,rfl,s,x,l f w⟩ (hs _ _))
  λ_ O z=>(by obtain⟨n,B,A,q,u,g,y,r⟩:=z;exact⟨n,B,g,A,q,e.trans u,y,r⟩)
end
section
variable{X:Cx}{e:Expr}{es:yai}{te:DE}{t:DA}{pos:Pos}
def CS:DA:=λ_ Q=>Q []
def tP(c:DE)(b:DA):DA:=λa Q=>c a λx=>b a λa=>Q (x::a)
def ah:Uo X [] CS:=λ_ _ _ _ H W a Q I _ h=>Calls.spliced_nil ⟨[],H,[],I,.nil,aw.refl H,aj.nil,h⟩
def aa(f:P5 X e te)(k:Uo X es t)(hs:starEach (e::es) X.env=(false,eval e X.env)::starEach es X.env:=by rfl):Uo X (e::es) (tP te t):=by intro pos a s b H W c Q I d h;rw[hs];show wpAny _ _ (spliced ((false,eval e X.env)::backTo pos (starEach es X.env))) _ _ s;refine Calls.spliced_cons (Px (f a s b H W c _ I d h) λu g l=>?_);obtain⟨v,n,x,m,h,f,j,i⟩:=l;exact Px (k pos a g b n W c _ m (d.same f) i) λo p k=>(by obtain⟨d,m,c,l,g,b,a,i⟩:=k;exact⟨v::d,m,x::c,l,.cons h g,f.trans b,aj.cons (j.same b) a,i⟩)
theorem aw.upd{H:Hp}(h:H p=none)(n:NT o:=by exact True.intro):aw H (upd H p o):=⟨λb u e _=>by rw[aC (aT e h)];exact e,λb a e=>⟨#[],by rw[aC (aT e h),e];simp⟩,dm.upd n (.inl h)⟩
def L6(t:DA):DE:=λa Q=>t a λa=>a.length<=sizeLine/\Q (.tup a)
def G4(t:DA):DE:=λa Q=>t a λa=>a.length<=sizeLine/\Q (.lst true a)
def bg{x1}(h:Uo X es t):P5 X (.Tuple es x1 pos) (L6 t):=by intro a s b H W c Q I d f;refine wpAny_Tuple_spliced (Px (h pos a s b H W c _ I d f) λh a c=>?_);obtain⟨g,f,j,b,r,i,d,z,q⟩:=c;rw[<- d.len]at z;refine⟨by rw[<- r.length];exact z,?_⟩;have c:f a.heap.objs.size=none:=b.PW.fresh (Qu _);refine⟨.ref a.heap.objs.size,L2.upd f a.heap.objs.size (.tup g),_,b.laid (t':=a.toks) (λb u e=>QN _ e) (Qu _) ⟨z,h,r,⟨_,Sv _ rfl,rfl,_,rfl⟩⟩,rfl,i.trans (aw.upd c),Den.tup (Ql.of aJ) (d.same (aw.upd c)),q⟩
def Inv.Sg(I:Inv X pins σ H s):X.K.lookup s.heap.objs.size=none:=by
 cases e:X.K.lookup s.heap.objs.size with
 |none=>rfl
 |some o=>exact absurd (Qp (I.Ug _ _ e)) (Xa _)
def bR(h:Uo X es t):P5 X (.List es pos) (G4 t):=by
 intro a s b H W c Q I f d;refine wpAny_List_spliced (Px (h pos a s b H W c _ I f d) λj a c=>?_);obtain⟨i,b,k,d,r,h,g,z,q⟩:=c;rw[<- g.len]at z;refine⟨by rw[<- r.length];exact z,?_⟩;have c:b a.heap.objs.size=none:=d.PW.fresh (Qu _);exact⟨.ref a.heap.objs.size,L2.upd b a.heap.objs.size (.lst i),_,d.laid (t':=a.toks) (λb u e=>QN _ e) (Qu _) ⟨z,j,0,r,Sv _ rfl⟩,rfl,h.trans (aw.upd c),
  Den.lst ((f.same h).fresh c) (.new aJ (Inv.Sg d)) (g.same (aw.upd c)),q⟩
end
abbrev DSp:=yas->(D->Prop)->(Value->Prop)->Prop
def aM(K:yac)(sp:DSp):Sp:=λd H Q E=>∃(P:Addr->Prop) (b:yas) (c:D->Prop) (e:Value->Prop),jE K H/\(∀a,P a->∃o,H a=some o)/\aj K (λt a=>t=true∨P a) H b d/\sp b c e ∧
 (∀d v b,aw H b->Den K (λt a=>P a∨(t=true/\∃o,H a=some o)) b d v->c d->Q v b)/\∀c a b,aw H b->e c->E c a b
mutual
def aG:D->D
 |.tup a=>.tup (bb a)
 |.lst _ a=>.lst false (bb a)
 |.obj C b a=>.obj C b (bb a)
 |.Um=>.Um
 |.S6 b a=>.S6 b (bb a)
 |.ra a=>.ra a
 |.Qe=>.Qe|.bl b=>.bl b|.int i=>.int i|.str x=>.str x|.exc c=>.exc c
def bb:yas->yas
 |[]=>[]
 |d::a=>aG d::bb a
end
section
variable{K:yac}{P:yak}{P':Addr->Prop}{H:Hp}
mutual
theorem Den.aG(h:∀t a,P' a->P t a):∀(d:D) (v:V),Den K P H d v->Den K (λt a=>t=true∨P' a) H (PD.aG d) v
 |.Qe,_,q=>by simpa only[Den,PD.aG]using q
 |.bl _,_,q=>by simpa only[Den,PD.aG]using q
 |.int _,_,q=>by simpa only[Den,PD.aG]using q
 |.str _,_,q=>by simpa only[Den,PD.aG]using q
 |.exc _,_,q=>by simpa only[Den,PD.aG]using q
 |.tup f,_,q=>by simp only[Den,PD.aG]at q ⊢;obtain⟨a,b,e,d,c⟩:=q;exact⟨a,b,e,d,aj.aG h f b c⟩
 |.obj C i f,_,q=>by simp only[Den,PD.aG]at q ⊢;obtain⟨a,g,b,e,d,l,k,c⟩:=q;exact⟨a,g,b,e,d,l,k,aj.aG h f b c⟩
 |.Um,_,q=>by simpa only[Den,PD.aG]using q
 |.S6 j f,_,q=>by simp only[Den,PD.aG]at q ⊢;obtain⟨a,o,g,b,e,d,l,k,c⟩:=q;exact⟨a,o,g,b,e,d,l,k,aj.aG h f b c⟩
 |.ra a,_,q=>by simp only[Den,PD.aG]at q ⊢;obtain⟨e,p,b,q⟩:=q;exact⟨e,λz=>z.elim (λz=>by cases z) λz=>p (h _ _ z),b,q⟩
 |.lst t f,_,q=>by simp only[Den,PD.aG]at q ⊢;obtain⟨a,b,e,p,d,c⟩:=q;exact⟨a,b,e,λz=>z.elim (λz=>by cases z) λz=>p (h t a z),.any d.1,aj.aG h f b c⟩
theorem aj.aG(h:∀t a,P' a->P t a):∀(ds:yas) (vs:yar),aj K P H ds vs->aj K (λt a=>t=true∨P' a) H (PD.bb ds) vs
 |[],_,q=>by simpa only[aj,PD.bb]using q
 |d::ds,_,q=>by simp only[aj,PD.bb]at q ⊢;obtain⟨v,r,e,b,a⟩:=q;exact⟨v,r,e,Den.aG h d v b,aj.aG h ds r a⟩
end
end
def Den.back{K:yac}{W:Own}{H H':Hp}{d:D}{v:V}(b:∀t a,W.bad t a->∃o,H a=some o)(h:Den K (λt a=>W.bad false a∨(t=true/\∃o,H a=some o)) H' d v):Den K W.bad H' d v :=
 h.P4 λt a z=>by
  cases t with
  |false=>exact .inl z
  |true=>exact .inr ⟨rfl,b true a z⟩
section
variable{X:Cx}{CX:CXT}{k:Nat}{f:Addr}{fd:FuncData}{ps:yah}{sp:DSp}{x:Str}{p pos:Pos}{e:Expr}{es:yai}{t:DA}
def xE(sp:DSp)(dds:yas)(t:DA):DE:=λa Q=>t a λa=>sp (bb a++dds) Q λ_=>False
def rW:D->V
 |.Qe=>.Qe|.bl b=>.bl b|.int i=>.int i|.str x=>.str x|_=>.Qe
def xM:D->Prop
 |.tup _=>False|.lst _ _=>False|.exc _=>False|.obj _ _ _=>False|.Um=>False|.S6 _ _=>False|.ra _=>False|_=>True
theorem aj.vV{K:yac}{P:yak}{H:Hp}:∀{dds:yas},(∀d∈dds,xM d)->aj K P H dds (dds.map rW)
 |[],_=>aj.nil
 |d::r,h=>by
  refine aj.cons ?_ (aj.vV λx a=>h x (R4 _ a));have:=h d T9;cases d with
  |Qe=>exact Den.Qe
  |bl b=>exact Den.bl b
  |int i=>exact Den.int i
  |str x=>exact Den.str x
  |tup _=>exact this.elim
  |lst _ _=>exact this.elim
  |exc _=>exact this.elim
  |obj _ _ _=>exact this.elim
  |Um=>exact this.elim
  |S6 _ _=>exact this.elim
  |ra _=>exact this.elim
def Oh{dds:yas}(F:aK X.prog X.w X.K X.mg X.base CX k f fd ps (aM X.K sp))(g:b6 k X.A)(i:Binds X.K fd ps dsv)(h:Vals (dds.map rW) dsv)(hs:∀d∈dds,xM d)(c:Passes CX X E0)
 (I:Inv X pins σ H s) (a:Rel X W H σ ρ) (r:Vals vs us) (j:aj X.K W.bad H ds vs)
  (q:sp (bb ds++dds) Q λ_=>False):wpAny (model X.prog X.w) X.A (call (.ref f) us) (DP X pins σ W H Q) X.xe s:=by
 refine Px (FQ (Q:=λv b=>aw H b/\∃d,Den X.K W.bad b d v/\Q d) F g i h c I r ⟨W.bad false,bb ds++dds,Q,λ_=>False,a.tab,a.tracked false,(aj.aG (λ_ _=>Own.Tb) ds vs j).append (aj.vV hs),q,λd v b e c b=>⟨e,d,Den.back a.tracked c,b⟩,λ_ _ _ _ z=>z.elim⟩)
  λu l h=>(by obtain⟨v,j,i,a,g,d,c,b⟩:=h;exact⟨v,j,d,i,a,g,c,b⟩)
def G8{dds:yas}(F:aK X.prog X.w X.K X.mg X.base CX k f fd ps (aM X.K sp))(i:b6 k X.A)(m:Gl X x)(j:X.mg x=some (.ref f))(l:PySem.W.keepIn X.K (.ref f)=true)(u:Binds X.K fd ps dsv)(o:Vals (dds.map rW) dsv)(hs:∀d∈dds,xM d)(g:Passes CX X E0)
  (q:Uo X (e::es) t) (r:(x==("__debug__" : Str))=false:=by decide) (n:starEach (e::es) X.env=(false,eval e X.env)::starEach es X.env:=by rfl) (w:(backTo pos (starEach es X.env)).any (·.1)=false:=by rfl) :
  P5 X (.Call (.Name x p) (e::es) [] pos) (xE sp dds t):=by
 intro a s c H W d Q I b h;refine VE (kr I m j ?_ r);refine PySem.W.callWith_K (h₀:=X.base) I.ok.mod.Zf l (Px (q pos a s c H W d _ I b h) λA B ⟨y,H1,C,c,r,a,d,q⟩=>⟨c.Ug,?_⟩) n w;exact Px (Oh F i u o hs g c (b.same a) r d q) λ_ _ z=>z.up a
def dCB(r:yas->(D->Prop)->Prop)(t:DA):DE:=λa Q=>t a λa=>r a Q
def fy(X:Cx)(f:Value)(r:yas->(D->Prop)->Prop):Prop :=
 ∀ (b:yab) (s:Shared) (c:St) (H:Hp) (W:Own) (h:yas) (d:yar) (g:yad) (Q:D->Prop),Inv X b c H s->(∀t a,W.bad t a->∃o,H a=some o)->Vals d g->aj X.K W.bad H h d->r h Q →
  wpAny (model X.prog X.w) X.A (call f g) (DP X b c W H Q) X.xe s
def fy.of{f:Value}{rd:yas->(D->Prop)->Prop}(h:qz X f r)(k:∀P H ds vs Q,(∀t a,P t a->∃o,H a=some o)->aj X.K P H ds vs->rd ds Q->r vs H λb H'=>aw H H'/\∃d',Den X.K P H' d' b/\Q d'):fy X f rd:=by intro a s c H W ds vs d Q I g r b q;exact Px (h a s c H vs d _ I r (k _ H ds vs Q g b q)) λ_ m i=>(by obtain⟨a,l,j,c,h,d,b,g⟩:=i;exact⟨a,l,d,j,c,h,b,g⟩)
variable{id T:String}{r:yas->(D->Prop)->Prop}
def aF (m:fy X (.builtin id) r) (l:Gl X x) (j:X.mg x=none) (g:bootBuiltins x=some (.builtin id)) (n:Uo X (e::es) t) (i:x ≠ "__name__" := by decide) (o:(x==("__debug__" : Str))=false:=by decide)
  (u:starEach (e::es) X.env=(false,eval e X.env)::starEach es X.env:=by rfl) (w:(backTo pos (starEach es X.env)).any (·.1)=false:=by rfl) :
  P5 X (.Call (.Name x p) (e::es) [] pos) (dCB r t):=by
 intro a s b H W d Q I c h;refine VE (cE I l j g ?_ i o);exact PyProof.Rows.callWith_builtin1 (Px (n pos a s b H W d _ I c h) λh i o=>(by obtain⟨g,y,n,s,j,d,l,q⟩:=o;exact Px (m a i b y W n g h Q s (c.same d).tracked j l q) λ_ _ z=>z.up d)) u w
end
mutual
noncomputable def R9:D->PyData
 |.Qe=>.none
 |.bl b=>.bool b
 |.int i=>.int i
 |.str x=>.str x
 |.tup a=>.tuple (dF a)
 |.lst _ a=>.list (dF a)
 |.exc _=>.none
 |.obj _ _ _=>.none
 |.S6 _ _=>.none
 |.ra _=>.none
 |.Um=>.none
noncomputable def dF:yas->List PyData
 |[]=>[]
 |d::a=>R9 d::dF a
end
mutual
def VA:D->Bool
 |.tup a=>pR a
 |.lst _ a=>pR a
 |.exc _=>false
 |.obj _ _ _=>false
 |.S6 _ _=>false
 |.ra _=>false
 |.Um=>false
 |_=>true
def pR:yas->Bool
 |[]=>true
 |d::a=>VA d && pR a
end
def eqD(x y:D):Bool:=PyData.eqv (R9 x) (R9 y)
def okD(x:D):Prop:=VA x=true/\SeqAt.shaped (R9 x)=true
section
variable{X:Cx}{pins:yab}{σ:St}{H:Hp}{s:Shared}{P:yak}
mutual
theorem eY(I:Inv X pins σ H s):∀(d:D) (v:V) (u:Value),Den X.K P H d v->RelV v u->VA d=true->∃c,Reads s.heap u (R9 d) c
 |.Qe,_,_,h,r,_=>by have e:=h.Xm;subst e;cases r;rw[R9];exact⟨_,.none⟩
 |.bl b,_,_,h,r,_=>by have e:=h.X3;subst e;cases r;rw[R9];exact⟨_,.bool b⟩
 |.int i,_,_,h,r,_=>by have e:=h.QH;subst e;obtain⟨t,rfl⟩:=r;rw[R9];exact⟨_,.int i t⟩
 |.str x,_,_,h,r,_=>by have e:=h.Yz;subst e;obtain⟨t,rfl⟩:=r;rw[R9];exact⟨_,.str x t⟩
 |.tup m,_,_,h,r,b=>by rw[VA]at b;obtain⟨a,d,e,g,i⟩:=h.RA;subst e;cases r;obtain⟨p,f,⟨o,l,k,n,j⟩,_⟩:=I.tuple g.w;obtain⟨c,q⟩:=nh I m d p i f b;rw[R9];exact⟨c,reads_tuple_at l k j (by simpa using q)⟩
 |.lst _ m,_,_,h,r,b=>by rw[VA]at b;obtain⟨a,d,e,_,g,i⟩:=h.Se;subst e;cases r;obtain⟨p,f,⟨o,n,l,k,_,j⟩,_⟩:=I.list g;obtain⟨c,q⟩:=nh I m d p i f b;rw[R9];exact⟨_,reads_list_at l k j (by simpa using q)⟩
 |.exc _,_,_,_,_,b=>by rw[VA]at b;cases b
 |.obj _ _ _,_,_,_,_,b=>by rw[VA]at b;cases b
 |.S6 _ _,_,_,_,_,b=>by rw[VA]at b;cases b
 |.ra _,_,_,_,_,b=>by rw[VA]at b;cases b
 |.Um,_,_,_,_,b=>by rw[VA]at b;cases b
theorem nh(I:Inv X pins σ H s):∀(ds:yas) (vs:yar) (a:yad),aj X.K P H ds vs->Vals vs a->pR ds=true->∃b,ReadsAll s.heap a (dF ds) b
 |[],_,_,h,r,_=>by simp only[aj]at h;subst h;cases r;rw[dF];exact⟨_,.nil⟩
 |d::ds,_,_,h,r,a=>by
  rw[pR,Yo]at a;simp only[aj]at h;obtain⟨v,i,rfl,g,f⟩:=h;cases r with
  |cons e c =>
   obtain⟨b,q⟩:=eY I d v _ g e a.1;obtain⟨j,b⟩:=nh I ds _ _ f c a.2;rw[dF];exact⟨_,.cons q b⟩
end
def Nl:RD2:=λx y Q=>okD x/\okD y/\Q (.bl (eqD x y))
def Nn:RD2:=λx y Q=>okD x/\okD y/\Q (.bl (!eqD x y))
def Je(j:X.A.units+64<cLine):Rb X (compareOp .Eq) Nl:=by intro pins s σ H W x y v u c d Q I _ e f i h q;obtain⟨b,a,q⟩:=q;obtain⟨l,g⟩:=eY I x v c i e b.1;obtain⟨k,c⟩:=eY I y u d h f a.1;exact eq_dataH g c b.2 a.2 j ⟨.bl _,H,_,I,rfl,aw.refl H,Den.bl _,q⟩
def Jf(j:X.A.units+64<cLine):Rb X (compareOp .NotEq) Nn:=by intro pins s σ H W x y v u c d Q I _ e f i h q;obtain⟨b,a,q⟩:=q;obtain⟨l,g⟩:=eY I x v c i e b.1;obtain⟨k,c⟩:=eY I y u d h f a.1;exact ne_dataH g c b.2 a.2 j ⟨.bl _,H,_,I,rfl,aw.refl H,Den.bl _,q⟩
def cF:Rb X (compareOp .Eq) (gY λi j=>.bl (decide (i=j))):=Rb.of N7 λP H x y v u Q d c z=>by
 obtain⟨i,j,f,e,q⟩:=qU z;subst f e;have a:=d.QH;have b:=c.QH;subst a b;refine⟨rfl,aw.refl H,_,Den.bl _,?_⟩
 simp_all
def kK:Rb X (compareOp .NotEq) (gY λi j=>.bl (!decide (i=j))):=Rb.of Oc λP H x y v u Q d c z=>by
 obtain⟨i,j,f,e,q⟩:=qU z;subst f e;have a:=d.QH;have b:=c.QH;subst a b;refine⟨rfl,aw.refl H,_,Den.bl _,?_⟩
 simp_all
def eK:D->Bool
 |.Qe=>true
 |_=>false
def wH{K:yac}{d:D}{v:V}(h:Den K P H d v):decide (v=.Qe)=eK d:=by
 cases d with
 |Qe=>have:=h.Xm;subst this;rfl
 |bl b=>have:=h.X3;subst this;rfl
 |int b=>have:=h.QH;subst this;rfl
 |str b=>have:=h.Yz;subst this;rfl
 |tup d=>obtain⟨a,b,e,_⟩:=h.RA;subst e;rfl
 |lst _ d=>obtain⟨a,b,e,_⟩:=h.Se;subst e;rfl
 |exc c=>obtain⟨a,e,_⟩:=h.Z3;subst e;rfl
 |obj C f d=>obtain⟨a,i,b,e,_⟩:=h.Z2;subst e;rfl
 |Um=>obtain⟨a,e,_⟩:=h.dic_;subst e;rfl
 |S6 g d=>obtain⟨a,_,_,b,e,_⟩:=h.YA;subst e;rfl
 |ra a=>have e:=h.ra_.1;subst e;rfl
def MW:Rb X (compareOp .Is) (λx y Q=>y=.Qe/\Q (.bl (eK x))):=Rb.of M5 λP H x y v u Q b a ⟨e,q⟩=>by subst e;refine⟨a.Xm,aw.refl H,_,Den.bl _,?_⟩;rw[wH b];exact q
def qR:Rb X (compareOp .IsNot) (λx y Q=>y=.Qe/\Q (.bl (!eK x))):=Rb.of Kx λP H x y v u Q b a ⟨e,q⟩=>by subst e;refine⟨a.Xm,aw.refl H,_,Den.bl _,?_⟩;rw[wH b];exact q
end
section
variable{X:Cx}
def o5:fy X (.builtin "abs") (λds Q=>∃i:Int,ds=[.int i]/\Q (.int (i.natAbs:Int))):=fy.of GV λP H ds a Q _ b ⟨i,e,q⟩=>by
 subst e;obtain⟨v,r,rfl,d,c⟩:∃v r,a=v::r/\Den X.K P H (.int i) v/\aj X.K P H [] r:=by simpa only[aj]using b
 have b:=d.QH;have a:r=[]:=by simpa only[aj]using c
 subst b a;refine⟨i,rfl,aw.refl H,_,Den.int _,?_⟩
 lia
def gA{K:yac}{P:yak}{H:Hp}{x y:D}{vs:yar}(h:aj K P H [x,y] vs):∃v u,vs=[v,u]/\Den K P H x v/\Den K P H y u:=by simp only[aj]at h;obtain⟨v,r,e,c,u,f,d,b,a⟩:=h;subst d a e;exact⟨v,u,rfl,c,b⟩
def mZ{K:yac}{P:yak}{H:Hp}{x:D}{vs:yar}(h:aj K P H [x] vs):∃v,vs=[v]/\Den K P H x v:=by simp only[aj]at h;obtain⟨v,r,e,a,b⟩:=h;subst b e;exact⟨v,rfl,a⟩
def LG (b:X.calm=true):fy X (.builtin "max") (λds Q=>∃i j:Int,ds=[.int i,.int j]/\Q (.int (max i j))):=fy.of (En b) λP H ds h Q _ a ⟨i,j,e,q⟩=>by
 subst e;obtain⟨v,u,rfl,d,c⟩:=gA a;have g:=d.QH;have f:=c.QH;subst g f;refine⟨i,j,rfl,aw.refl H,_,Den.int _,?_⟩;have:(if j > i then j else i)=max i j:=by split<;>lia
 rw[this];exact q
def bf:fy X (.builtin "len") (λds Q=>∃xs,((∃t,ds=[.lst t xs])∨ds=[.tup xs])/\Q (.int (xs.length:Int))):=fy.of yj λP H ds h Q _ g ⟨xs,e,q⟩=>by
 rcases e with⟨i,e⟩| e;subst e;obtain⟨v,rfl,f⟩:=mZ g;obtain⟨a,b,e,_,d,c⟩:=f.Se;subst e;refine⟨a,b,rfl,.inl d,aw.refl H,_,Den.int _,?_⟩;rw[c.len];exact q;subst e;obtain⟨v,rfl,f⟩:=mZ g;obtain⟨a,b,e,d,c⟩:=f.RA;subst e;refine⟨a,b,rfl,.inr d.w,aw.refl H,_,Den.int _,?_⟩;rw[c.len];exact q
noncomputable def Wo:D->String
 |.Qe => "NoneType" | .bl _ => "bool" | .int _ => "int" | .str _ => "str" | .tup _ => "tuple" | .lst _ _ => "list" | .exc _ => "object" | .obj _ _ _ => "object" | .Um => "dict" | .S6 _ _ => "dict" | .ra _ => "list"
def X2:D->Value
 |.exc c=>.ref c
 |.obj C _ _=>.ref C
 |d=>.type (Wo d)
variable{e:Expr}{te:DE}{p p' pos:Pos}{T:String}{x:Str}
def J3(x:bN P w H h a (.ins C dx fs)):∃b,PySem.W.InstAt h a (PySem.W.instObj C dx) C (some b):=by obtain⟨d,z,c,a,f,n,r,q⟩:=x;obtain⟨b,d,_⟩:=GD.look ⟨a,n,c⟩;exact⟨b,d⟩
def zf{Q:yaa}{b:Bool}(I:Inv X pins σ H s)(h:Den X.K P H d v)(r:RelV v u)
  (e:PySem.W.kitOne X.K (X2 d) c=some b) (q:∀a,Q (.bool b) {s with toks:=a}):wpAny (model X.prog X.w) A (call (.builtin "isinstance") [u,c]) Q E s:=by
 cases d with
 |Qe=>have z:=h.Xm;subst z;cases r;exact PySem.W.kia_one PySem.W.kitx_none I.Ug True.intro e (by lia) q
 |bl y=>have z:=h.X3;subst z;cases r;exact PySem.W.kia_one PySem.W.kitx_bool I.Ug True.intro e (by lia) q
 |int i=>have z:=h.QH;subst z;obtain⟨t,rfl⟩:=r;exact PySem.W.kia_one PySem.W.kitx_int I.Ug True.intro e (by lia) q
 |str y=>have z:=h.Yz;subst z;obtain⟨t,rfl⟩:=r;exact PySem.W.kia_one PySem.W.kitx_str I.Ug True.intro e (by lia) q
 |tup g =>
  obtain⟨a,f,z,b,_⟩:=h.RA;subst z;cases r;obtain⟨l,i,⟨o,d,c,n,j⟩,_⟩:=I.tuple b.w;exact PySem.W.kia_one PySem.W.kitx_tuple I.Ug ⟨o,d,c⟩ e (by lia) q
 |lst _ g =>
  obtain⟨a,f,z,_,b,_⟩:=h.Se;subst z;cases r;obtain⟨l,i,⟨o,n,d,c,_,j⟩,_⟩:=I.list b;exact PySem.W.kia_one PySem.W.kitx_list I.Ug ⟨o,d,c⟩ e (by lia) q
 |exc L =>
  obtain⟨a,z,b,k⟩:=h.Z3;subst z;cases r;exact PySem.W.kia_one (Hu k) I.Ug (I.PW a _ b).1 e (by lia) q
 |obj C B g =>
  obtain⟨a,J,f,z,b,_,k,_⟩:=h.Z2;subst z;cases r;obtain⟨w,s⟩:=J3 (I.PW a _ b);exact PySem.W.kia_one (PySem.W.kitx_own k.pg k.hd k.at_ k.get k.takes k.obj) I.Ug s e (by lia) q
 |Um =>
  obtain⟨a,z,b⟩:=h.dic_;subst z;cases r;exact PySem.W.kia_one PySem.W.kitx_dict I.Ug (I.PW a _ b).1 e (by lia) q
 |S6 G g =>
  obtain⟨a,o,m,f,z,b,_⟩:=h.YA;subst z;cases r;obtain⟨_,_,_,_,_,g,_,_,s,k,_⟩:=I.PW a _ b;exact PySem.W.kia_one PySem.W.kitx_dict I.Ug ⟨g,s,k.1⟩ e (by lia) q
 |ra a =>
  obtain⟨z,_,f,b⟩:=h.ra_;subst z;cases r;obtain⟨l,i,⟨o,n,d,c,_,j⟩,_⟩:=I.list b.1;exact PySem.W.kia_one PySem.W.kitx_list I.Ug ⟨o,d,c⟩ e (λz=>nomatch z) q
def AJ(K:yac)(S T:String):PySem.W.kitOne K (.type S) (.type T)=if S=T then some true else if PySem.W.kitMeta T=true then(fastBuiltinMro S).map (·.contains (.type T))else none:=by
 unfold PySem.W.kitOne PySem.W.kitCls PySem.W.subIn
 lia
def YE (T:String) (d:D):Bool:=Wo d==T || (Wo d == "bool" && T == "int")
def kit_ans (K:yac) (d:D) (b:∀c,d=.exc c->gF K c) (g:∀C ns ds,d=.obj C ns ds->CH K C) (a:T = "int" ∨ T = "bool" ∨ T = "tuple" ∨ T = "list" ∨ T = "str"):PySem.W.kitOne K (X2 d) (.type T)=some (YE T d):=by
 by_cases f:∃c,d=.exc c;obtain⟨c,rfl⟩:=f;show PySem.W.kitOne K (.ref c) (.type T)=_;rw[(b c rfl).not T a];show _=some ("object" == T || ("object" == "bool" && T == "int"));rcases a with e|e|e|e|e<;>subst e<;>decide +kernel;by_cases b:∃C ns ds,d=.obj C ns ds;obtain⟨C,ns,ds,rfl⟩:=b;show PySem.W.kitOne K (.ref C) (.type T)=_;rw[(g C ns ds rfl).not T a];show _=some ("object" == T || ("object" == "bool" && T == "int"));rcases a with e|e|e|e|e<;>subst e<;>decide +kernel;have c:X2 d=.type (Wo d):=by cases d<;>first|rfl|lia|lia
 rw[c,AJ];unfold YE;have c:Wo d = "NoneType" ∨ Wo d = "bool" ∨ Wo d = "int" ∨ Wo d = "str" ∨ Wo d = "tuple" ∨ Wo d = "list" ∨ Wo d = "dict" := by cases d<;>first|exact absurd ⟨_,rfl⟩ f|exact absurd ⟨_,_,_,rfl⟩ b|simp[Wo]
 generalize Wo d=S at c ⊢;rcases a with e|e|e|e|e<;>subst e<;>rcases c with e|e|e|e|e|e|e<;>subst e<;>decide +kernel
def dIs(T:String)(te:DE):DE:=λa Q=>te a λd=>Q (.bl (YE T d))
def eW (n:Gl X "isinstance") (m:X.mg "isinstance" = none) (f:Gl X x) (d:X.mg x=none) (k:bootBuiltins x=some (.type T)) (q:T = "int" ∨ T = "bool" ∨ T = "tuple" ∨ T = "list" ∨ T = "str") (o:P5 X e te)
  (l:x ≠ "__name__" := by decide) (t:(x==("__debug__" : Str))=false:=by decide)
  (i:starEach [e,.Name x p'] X.env=(false,eval e X.env)::starEach [.Name x p'] X.env:=by rfl) (u:starEach [.Name x p'] X.env=(false,eval (.Name x p') X.env)::starEach [] X.env:=by rfl) (r:(backTo pos (starEach [.Name x p'] X.env)).any (·.1)=false:=by rfl) :
  P5 X (.Call (.Name "isinstance" p) [e,.Name x p'] [] pos) (dIs T te):=by
 intro b s g H W j Q I a h;have c:PA X [e,.Name x p'] (qZ (Dd X te) (qZ (tC (.ty T)) DL)):=gR o.pe (gR (BY f d k rfl l t) mG u) i;refine VE (cE I n m boot_isinstance ?_ (by decide) (by decide));refine PyProof.Rows.callWith_builtin1 (Px (c pos b s g H (λc f=>∃v d,c=[v,.ty T]/\aw H f/\Den X.K W.bad f d v/\Q (.bl (YE T d))) I ⟨W,j,_,a,h,λv f d h b g=>⟨v,d,rfl,h,b,g⟩⟩) λw y k=>?_) i r;obtain⟨c,f,i,c,v,d,j,h,b,g⟩:=k;subst j;cases c with
 |cons j a =>
  cases a with
  |cons c a =>
   cases a;cases(show _=Value.type T from c);exact zf i b j (kit_ans X.K d (λc z=>by subst z;exact b.Z3.choose_spec.2.2) (λC A B z=>by subst z;obtain⟨_,_,_,_,_,_,k,_⟩:=b.Z2;exact k) q) λa=>⟨.bl _,f,_,i.tok a,rfl,h,Den.bl _,g⟩
end
section
variable{X:Cx}{pos:Pos}
def X4.up(g:Qk W0 H0 W H)(h:X4 X pins W H E f s'):X4 X pins W0 H0 E f s':=by obtain⟨b,c,d,I,a,q⟩:=h;exact⟨b,c,d,I,g.trans a,q⟩
variable{st:Stmt}{rest:yal}{t u:DS}{e:Expr}{te:DE}
def IQ:DS:=λE a=>E.nx a
def L0(t u:DS):DS:=λE a=>t {E with nx:=u E} a
def aN:c6 X [] IQ:=λ_ _ a H W b E I r h=>Za ⟨W,a,H,I,Qk.refl W H,b,r,h⟩
def aq(d:Sf X st t)(j:c6 X rest u):c6 X (st::rest) (L0 t u):=by
 intro a s b H W c E I r h;refine XR (Px (d a s b H W c {E with nx:=u E} I r h) λf i k=>?_);obtain⟨c,d,h,g,b,q⟩:=k;cases f with
 |next =>
  obtain⟨k,f,q⟩:=q;exact Px (j a i d h c k E g f q) λ_ _ z=>z.up b
 |ret v=>exact⟨c,d,h,g,b,q⟩
 |brk=>exact⟨c,d,h,g,b,q⟩
 |cont=>exact⟨c,d,h,g,b,q⟩
def ar(d:Sf X st t):c6 X [st] t:=by
 intro a s b H W c E I r h;refine XR (Px (d a s b H W c E I r h) λf g q=>?_);cases f with
 |next=>exact Za q
 |ret v=>exact q
 |brk=>exact q
 |cont=>exact q
def LY(te:DE):DS:=λE a=>te a E.rt
def ay(d:P5 X e te):Sf X (.Return (some e) pos) (LY te):=by intro a s b H W c E I r h;exact wpAny_Return_some (Px (d a s b H W c _ I r h) λu k h=>(by obtain⟨v,j,d,i,a,g,f,c⟩:=h;exact⟨W,b,j,i,Qk.same g,v,d,a,f,c⟩))
def LQ(c:DT)(t u:DS):DS:=λE a=>c a λb=>if b=true then t E a else u E a
def aY(d:Va X c tc)(l:c6 X a t)(k:c6 X b u):Sf X (.If c a b pos) (LQ tc t u):=by
 intro a s c H W f E I r h;refine wpAny_If (Px (d a s c H W f _ I r h) λd g m=>?_);obtain⟨j,i,b,h⟩:=m;cases d with
 |true=>exact Px (l a g c j W f E i (r.same b) h) λ_ _ z=>z.up (Qk.same b)
 |false=>exact Px (k a g c j W f E i (r.same b) h) λ_ _ z=>z.up (Qk.same b)
def Rel.put{X:Cx}{i:Nat}(r:Rel X W H σ ρ)(f:i<σ.length)(c:Den X.K W.bad H d v):Rel X (W.drop i) H (σ.set i (some v)) (ρ.set i (some (.val d))) where
 val:=λj x h=>by
  by_cases b:j=i;subst b;refine⟨v,by simp[f],?_⟩;by_cases a:j<ρ.length;rw[V4 a]at h;cases h;exact c.P4 λ_ _=>Own.Qq
  simp_all
  rw[Sq (Ne.symm b)]at h;obtain⟨w,c,d⟩:=r.val j x h;exact⟨w,by simp_all [Sq,Ne.symm],d.P4 λ_ _=>Own.Qq⟩
 own:=λj x h=>by
  by_cases b:j=i
  ·subst b;by_cases a:j<ρ.length
   all_goals simp_all
  rw[Sq (Ne.symm b)]at h;obtain⟨a,g,c,d,l,k⟩:=r.own j x h;exact⟨a,g,by show(if j=i then none else W.O j)=_;lia,by rw[Sq (Ne.symm b)];exact d,l,by rw[XS];exact k.P4 (λ_ _=>Own.Qq) (Own.SU f)⟩
 inj:=λj k a c d=>by
  have b:(if j=i then none else W.O j)=some a:=c;have f:(if k=i then none else W.O k)=some a:=d;by_cases d:j=i
  lia
  by_cases g:k=i
  lia
  rw[Po d]at b;rw[Po g]at f;exact r.inj j k a b f
 kn:=λj a c=>by
  have b:(if j=i then none else W.O j)=some a:=c;by_cases d:j=i
  lia
  rw[Po d]at b;exact r.kn j a b
 ke:=λj a c=>by
  have b:(if j=i then none else W.O j)=some a:=c;by_cases d:j=i
  lia
  rw[Po d]at b;exact r.ke j a b
 bt:=r.bt
 st:=r.st
 ent:=r.ent
 tab:=r.tab
theorem Qk.drop(W:Own)(H:Hp)(i:Nat):Qk W H (W.drop i) H:=⟨rfl,rfl,by lia,λj a h=>by have b:(if j=i then none else W.O j)=some a:=h;grind,by simp_all,id⟩
def Inv.Vb{i:Nat}{x:Str}(I:Inv X pins σ H s)(a:X.N[i]?=some x):i<σ.length:=by rw[I.len];exact(RQ.mp a).1
def G5(i:Nat)(te:DE):DS:=λE a=>te a λd=>E.nx (a.set i (some (.val d)))
def aL{x:Str}(i:Nat)(l:X.N.Nodup)(f:P5 X e te)(b:X.N[i]?=some x:=by rfl)(j:Loc X.env.scope x:=by first|exact Or.inl rfl|exact Or.inr rfl)(hs:swapsWith e (some (.Name x pos')) pos.line X.env=pure false:=by rfl)
  (k:X.fn x=true∨X.env.scope.names.lookup x=some .local:=by first|exact .inl rfl|exact .inr rfl|assumption):Sf X (.Assign [.Name x pos'] e pos) (G5 i te):=by
 intro a s c H W d E I r h;refine zC7 (Px (f a s c H W d _ I r h) λu o m=>?_) hs;obtain⟨v,f,d,c,d,a,h,g⟩:=m;exact c8 c l b j d (λn d=>⟨W.drop i,_,f,d,(Qk.same a).trans (Qk.drop W f i),_,(r.same a).put (Inv.Vb c b) h,g⟩) k
def Sf.of{t:DS}(h:PS X st ts)(k:∀f H W ρ E,Rel X W H f ρ->f.length=X.N.length->t E ρ->ts ⟨(λc H'=>∃a b,Qk W H a H'/\Rel X a H' c b/\E.nx b),(λv H'=>∃a d,Qk W H a H'/\Den X.K a.bad H' d v/\E.rt d),
   (λc H'=>∃a b,Qk W H a H'/\Rel X a H' c b/\E.bk b),(λc H'=>∃a b,Qk W H a H'/\Rel X a H' c b/\E.ct b)⟩ f H):Sf X st t:=by
 intro g s f H W ρ E I r i;refine Px (h g s f H _ I (k f H W ρ E r I.len i)) λf j q=>?_
 cases f with
 |next=>obtain⟨c,H',g,a,b,f,h,q⟩:=q;exact⟨a,c,H',g,f,b,h,q⟩
 |brk=>obtain⟨c,H',g,a,b,f,h,q⟩:=q;exact⟨a,c,H',g,f,b,h,q⟩
 |cont=>obtain⟨c,H',g,a,b,f,h,q⟩:=q;exact⟨a,c,H',g,f,b,h,q⟩
 |ret u=>obtain⟨v,c,H',g,b,a,d,f,h,q⟩:=q;exact⟨a,c,H',g,f,v,d,b,h,q⟩
def L9(c:DT)(tb:DS):DS:=λE a=>∃W:Nat->Ro->Prop,(∃m,W m a)/\∀m a,W m a->c a λb=>if b=true then tb {E with nx:=λc=>∃b,b<m/\W b c,ct:=λc=>∃b,b<m/\W b c,bk:=E.nx} a else E.nx a
def nk(f:PassesOwn (model X.prog X.w) X.A X.env X.xe)(o:Va X c tc)(y:c6 X body tb):Sf X (.While c body [] pos) (L9 tc tb):=by
 intro a s i H W j E I r h;obtain⟨p,⟨m,k⟩,b⟩:=h;refine wpAny_While (codeAny_whileLoop (λn l=>∃d h c g,Inv X a h c l/\Qk W H d c/\Rel X d c h g/\p n g) ?_ m ⟨W,i,H,j,I,Qk.refl W H,r,k⟩);rintro n h ⟨g,q,k,i,j,d,m,c⟩;refine WK f (Px (o a h q k g i _ j m (b n i c)) λb h c=>?_);obtain⟨x,w,p,s⟩:=c;have c:=d.trans (Qk.same (W:=g) p);cases b with
 |true =>
  refine WK f (Px (y a h q x g i _ w (m.same p) s) λf z a=>?_);obtain⟨d,h,k,j,b,a⟩:=a;cases f with
  |next =>
   obtain⟨r,l,n,o,f⟩:=a;exact⟨n,o,d,h,k,r,j,c.trans b,l,f⟩
  |cont =>
   obtain⟨r,l,n,o,f⟩:=a;exact⟨n,o,d,h,k,r,j,c.trans b,l,f⟩
  |brk=>exact⟨d,h,k,j,c.trans b,a⟩
  |ret v=>exact⟨d,h,k,j,c.trans b,a⟩
 |false =>
  exact Za ⟨g,q,x,w,c,i,m.same p,s⟩
def Mw{X:Cx}(r:Rel X W H σ ρ)(f:Qk W H W' H')(a:Addr)(o:HO)(n:Xl o)(q:H a=some o):H' a=some o :=
 f.kp a _ (λi z=>by obtain⟨_,_,c,b,m⟩:=r.kn i a z;rw[q]at b;cases b;exact m.sol n) q n.nt
def Mv{X:Cx}(r:Rel X W H σ ρ)(f:Qk W H W' H')(a:Addr)(vs:yar)(q:Ql X.K H a vs):Ql X.K H' a vs:=by
 rcases q with q|q;exact .inl (f.keep a _ (λi e=>by obtain⟨_,_,c,b,m⟩:=r.kn i a e;rw[b]at q;cases q;exact m) q)
 exact .inr q
def Mu{X:Cx}(d:Rel X W' H' PC Pu)(f:Qk W H W' H')(t:Bool)(a:Addr)(vs:yar)(p:¬W.bad t a)(q:RU X.K H t a vs):¬W'.bad t a/\RU X.K H' t a vs:=by
 have c:∀i,W.O i≠some a:=λi e=>p (.inr (.inl ⟨i,e⟩))
 refine⟨λb=>?_,?_,λz=>⟨f.keep a _ c (q.2 z).1,(q.2 z).2⟩⟩;rcases b with b|⟨i,b⟩| ⟨e,b⟩;rw[f.B]at b;exact p (.inl b);rcases f.new i a b with⟨j,z⟩| z
 simp_all
 rcases q.1 with(q|⟨o,q⟩)|⟨o,Pp,n,q,_⟩
 lia
 lia
 rw[(d.kn i a b).1]at q;lia;rw[f.S]at b;exact p (.inr (.inr ⟨e,b⟩));rcases q.1 with(q|⟨o,q⟩)|q;exact .inl (.inl (f.keep a _ c q));exact .inl (.inr ⟨o,f.keep a _ c q⟩);exact .inr q
def Den.fwd{X:Cx}(r:Rel X W H σ ρ)(a:Rel X W' H' PC Pu)(f:Qk W H W' H')(h:Den X.K W.bad H d v):Den X.K W'.bad H' d v :=
 Den.map (Mv r f) (Mu a f) (Mw r f) d v h
abbrev DG:=D->Ro->(Ro->Prop)->Prop
inductive GP (X:Cx) (pins:yab) (W:Own) (H:Hp) (Q:Ro->Prop) (s':Shared):Prop
 |mk (W':Own) (PC:St) (H':Hp) (Pu:Ro) (_:Inv X pins PC H' s') (_:Qk W H W' H') (_:Rel X W' H' PC Pu) (_:Q Pu)
abbrev GDP{α:Type}(X:Cx)(pins:yab)(W:Own)(H:Hp)(Q:Ro->Prop)(_:α)(s':Shared):Prop:=GP X pins W H Q s'
def X6(X:Cx)(a:Expr)(g:DG):Prop :=
 ∀ (b:yab) (s:Shared) (c:St) (H:Hp) (W:Own) (f:Ro) (d:D) (v:V) (u:Value) (Q:Ro->Prop),Inv X b c H s->Rel X W H c f->RelV v u->Den X.K W.bad H d v->g d f Q →
  wpAny (model X.prog X.w) X.A (assign a X.env u) (GDP X b W H Q) X.xe s
abbrev X7:=yas->Ro->(Ro->Prop)->Prop
def va(X:Cx)(ts:yai)(t:X7):Prop :=
 ∀ (a:yab) (s:Shared) (b:St) (H:Hp) (W:Own) (c:Ro) (g:yas) (d:yar) (f:yad) (Q:Ro->Prop),Inv X a b H s->Rel X W H b c->Vals d f->aj X.K W.bad H g d->t g c Q →
  wpAny (model X.prog X.w) X.A (assignInOrder ((assignEach ts X.env).map (·.2)) f) (GDP X a W H Q) X.xe s
theorem aj.fwd{X:Cx}(r:Rel X W H σ ρ)(a:Rel X W' H' PC Pu)(f:Qk W H W' H'):∀{ds:yas} {vs:yar},aj X.K W.bad H ds vs->aj X.K W'.bad H' ds vs
 |[],_,h=>by simpa only[aj]using h
 |d::ds,_,h=>by obtain⟨v,q,e,c,b⟩:=h;exact⟨v,q,e,Den.fwd r a f c,aj.fwd r a f b⟩
def pI(i:Nat):DG:=λd a Q=>Q (a.set i (some (.val d)))
def bu{x:Str}(i:Nat)(j:X.N.Nodup)(b:X.N[i]?=some x:=by rfl)(f:Loc X.env.scope x:=by first|exact Or.inl rfl|exact Or.inr rfl)
  (g:X.fn x=true∨X.env.scope.names.lookup x=some .local:=by first|exact .inl rfl|exact .inr rfl|assumption):X6 X (.Name x pos) (pI i):=by
 intro a s k H W l d v u Q I r c d h;exact wpAny_assign_Name (c8 I j b f c (λm c=>⟨W.drop i,_,H,_,c,Qk.drop W H i,r.put (Inv.Vb I b) d,h⟩) g)
def t6:X7:=λb a Q=>b=[]/\Q a
def my(g:DG)(u:X7):X7:=λb a Q=>∃d r,b=d::r/\g d a λa=>u r a Q
def qM:va X [] t6:=by intro a s b H W c j d f Q I r g i h;obtain⟨e,h⟩:=h;exact assignInOrder_nil ⟨W,b,H,c,I,Qk.refl W H,r,h⟩
def gG{e:Expr}{u:X7}(l:X6 X e g)(k:va X es u)(hs:(assignEach (e::es) X.env).map (·.2)=assign e X.env::(assignEach es X.env).map (·.2):=by rfl):va X (e::es) (my g u):=by
 intro a s c H W f z w x Q I r i j h;obtain⟨d,n,b,h⟩:=h;subst b;obtain⟨v,g,m,o,b⟩:=j;subst m;cases i with
 |cons j i =>
  rw[hs];refine assignInOrder_cons (Px (l a s c H W f d v _ _ I r j o h) λ_ f o=>?_);obtain⟨l,j,q,m,p,d,c,h⟩:=o;exact Px (k a f j q l m n g _ Q p c i (aj.fwd r c d b) h) λ_ y i=>(by obtain⟨f,g,k,h,j,c,a,b⟩:=i;exact⟨f,g,k,h,j,d.trans c,a,b⟩)
def ze{h:Heap}(b:h.IsList l items)(hs:Heap.SameBut it h h')(c:l≠it):h'.IsList l items:=by obtain⟨o,a,r⟩:=b;exact⟨o,(hs.2 l c).trans a,r⟩
theorem wJ{a l:Addr}(h:l≠a):∀(n i:Nat) (s:Shared) (Q:yad->Shared->Prop),s.heap.IsListIter a l i->s.heap.IsList l items->i+n<=items.size →
  (∀h',h'.IsListIter a l (i+n)->Heap.SameBut a s.heap h'->Q ((items.toList.drop i).take n) {s with heap:=h'})->wpAny (model prog w) A (draw (.ref a) n) Q E s
 |0,i,s,Q,a,_,_,d=>by
  show wpAny _ _ (pure []) Q E s
  simp_all [wpAny_pure,Heap.SameBut.refl]
 |n+1,i,s,Q,a,c,j,d=>by
  have g:i<items.size:=by omega
  refine Pk (wpAny_pyNext_list_item a c (x:=items[i]) (by simp[g]) λR5 a f=>?_);refine Pk (Ub (wJ h n (i+1) _ _ a (ze c f h) (by omega) λc b a=>wpAny_pure ?_));have k:items.toList.drop i=items[i]::items.toList.drop (i+1):=by simp[Yk,g]
  have:=d c (by lia) (f.trans a)
  simp_all
def tB{A:Around}{s:Shared}{Q:yad->Shared->Prop}(g:A.handled=none)(a:s.heap.IsList l items)
  (h:∀h',Heap.ExtBut s.heap.objs.size s.heap h'->Q items.toList {s with heap:=h'}):wpAny (model prog w) A (unpackItems (.ref l) items.size none) Q E s:=by
 have f:l≠s.heap.objs.size:=by obtain⟨o,c,_⟩:=a;exact QU (Qp c)
 refine Pk ?_;refine Pk (zC0 a.typeIs F.slot_list_iter.lookup ?_);refine wpAny_pure ?_;refine Pk (Ub (wpAny_pyIter_list a ?_));have b:(s.heap.push {cls:=.type "list_iterator", data:=.fields #[.ref l,rawInt 0]}).IsList l items:=by obtain⟨o,c,r⟩:=a;exact⟨o,QN _ c,r⟩
 refine Pk (Ub (wJ f items.size 0 _ _ ⟨_,Sv _ rfl,rfl,rfl⟩ b (by lia) λi c d=>?_));have a:List.take items.size (List.drop 0 items.toList)=items.toList:=by simp_all [List.drop_zero,ZG]
 rw[a];rw[Po (by simp)];have a:i.IsList l items:=ze b d f;refine Pk (Ub (wpAny_pyNext_list_end g c a (by simp) λb a=>?_));refine wpAny_pure (h b λb o c e=>a b o c (d.extBut b o c (QN _ e)))
def t8(n:Nat)(t:X7):DG:=λd b Q=>∃a,(d=.tup a∨∃ t,d=.lst t a)/\a.length=n/\t a b Q
def ua{t:X7}{n:Nat}(C:X.calm=true)(h:va X es t)(z:(assignEach es X.env).length=n:=by rfl)(G:(assignEach es X.env).findIdx? (·.1)=none:=by rfl):X6 X (.Tuple es k pos) (t8 n t):=by
 intro c s i H W x d v u Q I r y B j;obtain⟨E,f,A,j⟩:=j;rcases f with f|⟨M,f⟩;subst f;obtain⟨a,k,q,n,g⟩:=B.RA;subst q;cases y;obtain⟨J,d,m,L⟩:=I.tuple n.w;refine assign_Tuple_tuple (I.ok.hd C) m (by simp[z,<- A,<- d.length,g.len]) G λp l=>?_
 have w:Inv X c i H {s with heap:=p}:=I.kept (t':=s.toks) λb o e=>l b o (QU (Qp e)) e
 exact h c _ i H W x E k _ Q w r (by lia) g j;subst f;obtain⟨a,k,q,_,n,g⟩:=B.Se;subst q;cases y;obtain⟨J,d,m,L⟩:=I.list n;refine Pk (wpAny_standAt ?_);unfold unpack;rw[G,show(assignEach es X.env).length=J.toArray.size by simp[z,<- A,<- d.length,g.len]];refine Pk (Ub (tB (I.ok.hd C) m.isList λp l=>?_));have w:Inv X c i H {s with heap:=p}:=I.kept (t':=s.toks) λb o e=>l b o (QU (Qp e)) e
 exact h c _ i H W x E k _ Q w r (by lia) g j
def LP(te:DE)(g:DG):DS:=λE a=>te a λd=>g d a E.nx
def Mf{e:Expr}{te:DE}(f:P5 X e te)(j:X6 X tg g)(hs:swapsWithSole [tg] e pos.line X.env=pure false:=by rfl)(d:swappedStores [tg] e X.env=pure none:=by rfl)
  (l:(assignEach [tg] X.env).map (·.2)=[assign tg X.env]:=by rfl):Sf X (.Assign [tg] e pos) (LP te g):=by
 intro a s b H W c E I r h;refine wpAny_Assign_stores (Px (f a s b H W c _ I r h) λu g m=>?_) hs d;obtain⟨v,o,d,n,h,f,k,i⟩:=m;rw[l];exact Px (j a g b o W c d v u _ n (r.same f) h k i) λ_ p i=>(by obtain⟨d,g,k,h,j,c,a,b⟩:=i;exact⟨d,g,k,j,(Qk.same f).trans c,h,a,b⟩)
def YD(K:yac)(W:Own)(H:Hp)(J:It)(ds:yas):Prop:=∀(f:yak) (b:Hp),(∀a c,Ql K H a c->Ql K b a c)->(∀t a c,¬W.bad t a->RU K H t a c->¬f t a/\RU K b t a c)->(∀a o,Xl o->H a=some o->b a=some o)->∀i,(i<ds.length->J.go i b)/\(∀x a,J.yld i b x a->i<ds.length->aw b a/\∃d,ds[i]?=some d/\Den K f a d x)/\(ds.length<=i->J.stop i b)
inductive IDP (X:Cx) (pins:yab) (σ:St) (W:Own) (H:Hp) (tg:Expr) (R:yas->Prop) (Xg:Value) (s2:Shared):Prop
 |mk (it:Addr) (fp:yae) (tn:Nat->Heap->Prop) (J:It) (H':Hp) (ds:yas) (_:Xg=.ref it) (_:Inv X pins σ H' s2) (_:aw H H') (_:Turn X.prog X.w X.K tg J fp it tn) (_:tn 0 s2.heap) (_:∀b∈fp,eU X pins H' b) (_:YD X.K W H' J ds) (_:R ds)
def VQ(X:Cx)(f b:Expr)(wi:DA):Prop :=
 ∀ (a:yab) (s:Shared) (c:St) (H:Hp) (W:Own) (d:Ro) (R:yas->Prop),Inv X a c H s->Rel X W H c d->wi d R →
  wpAny (model X.prog X.w) X.A (eval b X.env) (λv b=>wpAny (model X.prog X.w) X.A (pyIter v) (IDP X a c W H f R) X.xe b) X.xe s
def VQ.of{b:DA}(h:PI X tg iter wi)(k:∀a H W ρ R,Rel X W H a ρ->b ρ R->wi a H λJ H'=>aw H H'/\∃ds,YD X.K W H' J ds/\R ds):VQ X tg iter b:=by
 intro b s a H W ρ R I r c;refine Px (h b s a H _ I (k a H W ρ R r c)) λv j a=>Px a λXg i b=>?_
 obtain⟨a,c,tn,J,H',e,g,T,st,d,f,ds,y,q⟩:=b;exact⟨a,c,tn,J,H',ds,e,g,f,T,st,d,y,q⟩
def IP(b:DE):DA:=λa R=>b a λd=>∃t a,d=.lst t a/\R a
def aP(h:P5 X iter ti):VQ X tg iter (IP ti):=by
 refine VQ.of (B2 h.pe) λp H W a R r b=>⟨W,a,_,r,b,λv H1 d h c q=>?_⟩
 obtain⟨k,j,rfl,q⟩:=q;obtain⟨a,b,rfl,l,g,f⟩:=c.Sr;refine⟨a,rfl,⟨b,g.1⟩,h,j,?_,q⟩;intro P' o n h m i;have c:SqL X.K o a b:=(h _ a b l g).2.1;have s:=f.len;refine⟨λa=>?_,λx H3 y a=>?_,λa=>⟨b,c,by lia⟩⟩;obtain⟨v,g,_⟩:=f.get (i:=i) (d:=j[i]) (by simp[a]);exact⟨b,v,c,g⟩;obtain⟨a,y⟩:=y;subst a;obtain⟨d,g,a⟩:=f.bJ (y b c);exact⟨aw.refl _,d,g,Den.map n h m d _ a⟩
noncomputable def jH(lo step:Int)(n:Nat):yas:=(List.range n).map λ(i:Nat)=>D.int (lo+i*step)
def Ii(lo step:Int)(n:Nat):(jH lo step n).length=n:=by simp[jH]
def Ih{lo step:Int}{n i:Nat}(h:i<n):(jH lo step n)[i]?=some (D.int (lo+i*step)):=by simp[jH,h]
def Lv(lo c:Int)(n:Nat):It:=⟨λi _=>i<n,λi H x a=>a=H/\x=.int (lo+i*c),λi _=>n<=i⟩
def IF(K:yac)(W:Own)(H:Hp)(lo c:Int)(n:Nat):YD K W H (Lv lo c n) (jH lo c n):=λP' H' _ _ _ i=>by
 rw[Ii];refine⟨λh=>h,λx H3 y a=>?_,λh=>h⟩;obtain⟨e,b⟩:=y
 simp_all [aw.refl,Ih,Den.int]
def A9{P:Program}{w:World}{K:yac}{a:Expr}(b:Addr)(lo c:Int)(n:Nat):Turn P w K a (Lv lo c n) [b] b (λi h=>IsRangeIter h b (lo+(i:Nat)*c) ((n:Int) - (i:Nat)) c) where
 mem:=by simp
 obj:=by grind
 keep:=λi h d st k=>k b (by simp) _ st
 item:=by
  intro X y x z j i a s o H E I g st f;subst y x z;obtain⟨q,p,B,m,l,k⟩:=g b (by simp);have W:=Walks.range (prog:=X.prog) (w:=X.w) (I.ok.hd j) b lo c n;refine W.item i s _ _ f st λv d r A w C=>?_
  obtain⟨t,rfl⟩:=A;have A:Inv X a o H {s with heap:=d,toks:=r}:=I.turned (by grind) q p m l k;exact⟨_,rfl,C4 (s:={s with heap:=d,toks:=r}) (n := "range_iterator") w rfl rfl (by decide) ⟨.int (lo+i*c),H,A,⟨t,rfl⟩,⟨rfl,rfl⟩,w,by simp_all⟩⟩
 done:=by intro X y x z j i a s o H E I g st f;obtain⟨q,p,B,m,l,k⟩:=g b (by simp);exact wpAny_pyNext_range_end (I.ok.hd j) st (by have:n<=i:=f;lia) λd c=>⟨rfl,I.turned (t':=s.toks) (λb o a e=>c b o a e) q p m l k⟩
 self:=λ_ _ _ _ _ st h=>wpAny_pyIter_rangeiter st h
def kM(lo a c:Int):Nat:=(Builtin.Range.rangeSize lo a c).toNat
def xb{a b c:Int}(l:-(2 ^ 40)<=a)(YF:a<2 ^ 40)(k:-(2 ^ 40)<=b)(X8:b<2 ^ 40)(j:0<c)(U8:c<2 ^ 20):Builtin.Range.small a b c=true/\0<=Builtin.Range.rangeSize a b c:=by
 have f:a<b->0<=(b - a - 1) / c/\(b - a - 1) / c<=b - a - 1:=λh=>⟨Int.ediv_nonneg (by lia) (by lia),Int.ediv_le_self _ (by lia)⟩
 have d:a<b->(b - a - 1) / c*c<=b - a - 1:=λh=>Int.ediv_mul_le _ (by lia)
 unfold Builtin.Range.small Builtin.Range.rangeSize;rw[Pt (by simp_all)];by_cases h:a<b;obtain⟨i,g⟩:=f h;have f:=d h;rw[Pt h];generalize (b - a - 1) / c=q at i g f ⊢;simp only[Builtin.Range.rangeFitsLong,Yo,Bool.or_eq_true,decide_eq_true_eq,beq_iff_eq];constructor;rw[Pt (by simp_all)];simp
 lia
 lia
 rw[Po h];simp only[Builtin.Range.rangeFitsLong,Yo,Bool.or_eq_true,decide_eq_true_eq,beq_iff_eq];constructor;simp;lia
 lia
def w5{R:yas->Prop}{lo a c:Int}{t u:Tok}{d:Nat}(I:Inv X pins σ H s)(j:-(2 ^ 40)<=lo)(i:lo<2 ^ 40)(h:-(2 ^ 40)<=a)(g:a<2 ^ 40)(f:0<c)(h6:c<2 ^ 20)
  (q:R (jH lo c (kM lo a c))):wpAny (model X.prog X.w) X.A (pyIter (.ref s.heap.objs.size)) (IDP X pins σ W H tg R) E {s with heap:=s.heap.push {cls:=.type "range", data:=.fields #[.int lo t,.int a u,.int c v]},toks:=d}:=by
 obtain⟨b,k⟩:=xb j i h g f h6;refine wpAny_pyIter_range (IsRange.new ..) b ?_;have f:Inv X pins σ H {s with heap:=s.heap.push {cls:=.type "range", data:=.fields #[.int lo t,.int a u,.int c v]},toks:=d}:=I.kept λb o e=>QN _ e
 refine⟨(s.heap.push {cls:=.type "range", data:=.fields #[.int lo t,.int a u,.int c v]}).objs.size,[(s.heap.push {cls:=.type "range", data:=.fields #[.int lo t,.int a u,.int c v]}).objs.size],_,_,H,_,rfl,
  f.kept (t':=d) λb o e=>QN _ e,aw.refl H,A9 _ lo c (kM lo a c),?_,λb d=>?_,IF _ _ _ _ _ _,q⟩
 have h:lo+((0:Nat):Int)*c=lo:=by simp
 have g:((kM lo a c:Nat):Int) - ((0:Nat):Int)=Builtin.Range.rangeSize lo a c:=by unfold kM;lia
 show IsRangeIter _ _ (lo+((0:Nat):Int)*c) (((kM lo a c:Nat):Int) - ((0:Nat):Int)) c;rw[h,g];exact Sv _ rfl;have e:b=(s.heap.push {cls:=.type "range", data:=.fields #[.int lo t,.int a u,.int c v]}).objs.size:=by simpa using d
 subst e;exact f.Xf (Qu _) (f.PW.fresh (Qu _))
def CR3(i:Int):Prop:=-(2 ^ 40)<=i/\i<2 ^ 40
def CT(b:DA):DA:=λa R=>b a λa=>∃i j:Int,a=[.int i,.int j]/\CR3 i/\CR3 j/\R (jH i 1 (kM i j 1))
def IV(b:DA):DA:=λa R=>b a λa=>∃j:Int,a=[.int j]/\CR3 j/\R (jH 0 1 (kM 0 j 1))
def wO {a b:Expr} {p pos:Pos} (M:Gl X "range") (L:X.mg "range" = none) (O:Uo X [a,b] ta) (hs:starEach [a,b] X.env=(false,eval a X.env)::starEach [b] X.env:=by rfl) (YG:(backTo pos (starEach [b] X.env)).any (·.1)=false:=by rfl) :
  VQ X tg (.Call (.Name "range" p) [a,b] [] pos) (CT ta):=by
 intro c s g H W k R I r h;refine Call_ (cE I M L boot_range (PyProof.Rows.callWith_type1 (Px (O pos c s g H W k _ I r h) λus s1 Py=>?_) hs YG));obtain⟨vs,H1,f,I1,C,T,N,E⟩:=Py;obtain⟨i,j,e,⟨a1,a2⟩,⟨b1,b2⟩,q⟩:=E;subst e;obtain⟨v1,u1,rfl,Y,U⟩:=gA N;have j:=Y.QH;have i:=U.QH;subst j i;cases C with
 |cons B d =>
  cases d with
  |cons A d =>
   cases d;obtain⟨t,rfl⟩:=B;obtain⟨t',rfl⟩:=A;refine call_range_2 ?_;exact Px (w5 (W:=W) (R:=R) I1 a1 a2 b1 b2 (by decide) (by decide) q) λXg s2 Qr=>(by obtain⟨G,Q,tn,J,H',f,z,y,x,w,o,n,m,l⟩:=Qr;exact⟨G,Q,tn,J,H',f,z,y,T.trans x,w,o,n,m,l⟩)
def jg {a:Expr} {p pos:Pos} (f:Gl X "range") (d:X.mg "range" = none) (g:Uo X [a] ta) (hs:starEach [a] X.env=(false,eval a X.env)::starEach [] X.env:=by rfl) (i:(backTo pos (starEach [] X.env)).any (·.1)=false:=by rfl) :
  VQ X tg (.Call (.Name "range" p) [a] [] pos) (IV ta):=by
 intro a s b H W c R I r h;refine Call_ (cE I f d boot_range (PyProof.Rows.callWith_type1 (Px (g pos a s b H W c _ I r h) λy A f=>?_) hs i));obtain⟨w,H1,a,i,c,m,d,b⟩:=f;obtain⟨j,e,⟨h,g⟩,q⟩:=b;subst e;obtain⟨x,rfl,f⟩:=mZ d;have b:=f.QH;subst b;cases c with
 |cons c b =>
  cases b;obtain⟨t,rfl⟩:=c;refine call_range_1 ?_;exact Px (w5 (W:=W) (R:=R) i (by decide) (by decide) h g (by decide) (by decide) q) λXg z n=>(by obtain⟨k,l,tn,J,o,a,j,i,h,g,f,d,c,b⟩:=n;exact⟨k,l,tn,J,o,a,j,i,m.trans h,g,f,d,c,b⟩)
def yE(wi:DA)(g:DG)(tb:DS):DS:=λE a=>wi a λb=>∃Pv:Nat->Ro->Prop,Pv 0 a ∧
 (∀j x a,b[j]?=some x->Pv j a->g x a λc=>tb {E with nx:=Pv (j+1),ct:=Pv (j+1),bk:=E.nx} c)/\∀a,Pv b.length a->E.nx a
def bT(w:PassesOwn (model X.prog X.w) X.A X.env X.xe)(hc:X.calm=true)(b:VQ X tg iter wi)(G:X6 X tg g)(j:c6 X body tb)
  (hs:∀x,foldedSetIterable iter X.env x=pure x:=by intro _;rfl):Sf X (.For tg iter body [] pos) (yE wi g tb):=by
 intro a s g H W l E I r h;refine wpAny_For (Px (b a s g H W l _ I r h) λv s1 b=>Px b λXg s2 b=>?_) hs;obtain⟨it,C,tn,J,B,k,e,y,N,T,s,m,p,Pv,q,f,pd⟩:=b;subst e;have d:=r.same N;have U:∀{c:Hp},(∀b∈C,c b=none)->∀b∈C,eU X a c b:=λh b j=>⟨h b j,(m b j).2⟩
 refine codeAny_forLoop_any (λn h=>∃i o A c z,n=k.length - i/\i<=k.length/\Inv X a A c h/\tn i h.heap/\(∀b∈C,c b=none)/\Qk W B o c/\Rel X o c A z/\Pv i z) ?_ k.length ⟨0,W,g,B,l,by simp,RS _,y,s,λb j=>(m b j).1,Qk.refl W B,d,q⟩;rintro n s3 ⟨i,Q,I,J,E,en,hle,I3,Zk,Zm,s,L,p3⟩;obtain⟨g,h,ys⟩:=p Q.bad J (Mv d s) (Mu L s) (Mw d s) i;by_cases Y:i<k.length
 ·refine WK w (Px (T.item X rfl rfl rfl hc i a s3 I J X.xe I3 (U Zm) Zk (g Y)) λrr s4 ⟨u,M,d⟩=>?_);subst M;refine WK w (Px d λ_ q y=>?_);obtain⟨x,m,I5,r,p,O,g⟩:=y;obtain⟨l,d,hd,SV⟩:=h x m p Y;have h:=I5.pinned (U g) (T.obj _ _ O);have g:=L.same l;refine WK w (Px (G _ q I m Q E d x u _ h g r SV (f i d E hd p3)) λ_ g y=>?_);obtain⟨q,p,x,f,r,f6,h,m⟩:=y;refine WK w (Px (j _ g p x q f _ r h m) λf s7 g=>?_);obtain⟨p,G,q,x,h,g⟩:=g;have r:Qk W B p q:=s.trans ((Qk.same l).trans (f6.trans h));have h:Qk W H p q:=(Qk.same N).trans r;have again:∀{l:Ro},Rel X p q G l->Pv (i+1) l->∃m,m<n/\∃i o A c z,m=k.length - i/\i<=k.length/\Inv X a A c s7/\tn i s7.heap/\(∀b∈C,c b=none)/\Qk W B o c/\Rel X o c A z/\Pv i z:=fun {l} c m=>by
   refine⟨k.length - (i+1),by lia,i+1,p,G,q,l,rfl,Y,x.QV,T.keep _ _ _ O λb j o e=>(x.pin (b,o) (SO _ (SO _ (fH j e)))).1,λb j=>?_,r,c,m⟩;obtain⟨o,e,d⟩:=T.obj _ _ O b j;exact(x.pin (b,o) (SO _ (SO _ (fH j e)))).2.1
  cases f with
  |next=>obtain⟨l,c,b⟩:=g;exact again c b
  |cont=>obtain⟨l,c,b⟩:=g;exact again c b
  |brk=>obtain⟨l,c,g⟩:=g;exact⟨p,G,q,x.QV,h,l,c,g⟩
  |ret v=>obtain⟨b,f,c,d,g⟩:=g;exact⟨p,G,q,x.QV,h,b,f,c,d,g⟩
 have e:i=k.length:=by lia
 refine WK w (Px (T.done X rfl rfl rfl hc i a s3 I J X.xe I3 (U Zm) Zk (ys (by lia))) λrr s4 y=>?_);obtain⟨M,a⟩:=y;subst M;subst e;exact Za ⟨Q,I,J,a,(Qk.same N).trans s,E,L,pd E p3⟩
def LX(i j:Nat)(b:DA):DS:=λE a=>b a λb=>∃d e,b=[d,e]/\E.nx ((a.set i (some (.val d))).set j (some (.val e)))
def Mh{x y:Str}{a b:Expr}{kt k2 ZW}(i j:Nat)(B:X.calm=true)(C:X.N.Nodup)(E:i≠j)(p:Uo X [a,b] ta)(o:X.N[i]?=some x:=by rfl)(n:X.N[j]?=some y:=by rfl)
  (z:X.env.scope.names.lookup x=some .local:=by rfl) (w:X.env.scope.names.lookup y=some .local:=by rfl)
  (A:swappedStores [.Tuple [.Name x px,.Name y py] kt pt] (.Tuple [a,b] k2 ZW) X.env=pure (some [x,y]):=by rfl)
  (hs:swapsWithSole [.Tuple [.Name x px,.Name y py] kt pt] (.Tuple [a,b] k2 ZW) pos.line X.env=pure false:=by rfl) :
  Sf X (.Assign [.Tuple [.Name x px,.Name y py] kt pt] (.Tuple [a,b] k2 ZW) pos) (LX i j ta):=by
 have l:PA X [a,b] (λb H Q=>∃W c h,Rel X W H b c/\ta c h/\∀d a g,aw H a->aj X.K W.bad a g d->h g->Q d a):=by intro pos f s b H Q I q;obtain⟨W,c,h,r,m,k⟩:=q;exact Px (p pos f s b H W c h I r m) λG J s=>(by obtain⟨d,a,g,x,h,f,m,p⟩:=s;exact⟨d,a,x,h,k d a g f m p⟩)
 refine Sf.of (Nj B C o n E z w l A hs) λb H W c E r k h=>?_
 refine⟨W,c,_,r,h,λd a g f m q=>?_⟩;obtain⟨d,e,rfl,q⟩:=q;obtain⟨v,u,rfl,g,d⟩:=gA m;have h:i<b.length:=by rw[k];exact(RQ.mp o).1
 have c:j<(b.set i (some v)).length:=by rw[XS,k];exact(RQ.mp n).1
 have b:=(r.same f).put h g;exact⟨v,u,rfl,_,_,(Qk.same f).trans ((Qk.drop W a i).trans (Qk.drop _ a j)),b.put c (d.P4 λ_ _=>Own.Qq),q⟩
end
def di(N:yah)(ds:yas):Ro:=ds.map (λd=>some (.val d))++List.replicate (N.length - ds.length) none
theorem Rel.start{X:Cx}{P:Addr->Prop}{H:Hp}(c:∀a,P a->∃o,H a=some o)(h:aj X.K (λt a=>t=true∨P a) H ds vs)(n:X.Qj=H)(b:jE X.K H):Rel X ⟨P,λ_=>none,λa=>∃o,H a=some o⟩ H (start N vs) (di N ds) where
 val:=λi d e=>by
  unfold di at e;have l:=h.len;by_cases m:i<ds.length
  ·rw[V2 (by simp_all),QZ]at e;cases q:ds[i]? with
   |none=>simp_all
   |some g =>
    have f:g=d:=by simp_all
    subst f;obtain⟨v,p,f⟩:=h.get q;refine⟨v,?_,f.P4 λk a z=>?_⟩;unfold L2.start
    simp_all [V2,QZ]
    ·rcases z with z|⟨j,z⟩| ⟨z,_⟩
     all_goals lia
  simp_all [Wy,zCu]
 own:=λi d e=>by unfold di at e;grind
 inj:=by lia
 kn:=by lia
 ke:=by lia
 bt:=c
 st:=λ_ z=>z
 ent:=by simp_all [aw.refl]
 tab:=b
def bN.there(x:bN P w H h a o):∃u,h.get? a=some u:=by
 cases o with
 |lst a=>obtain⟨_,_,_,_,e⟩:=x;exact⟨_,e⟩
 |tup a=>obtain⟨_,_,_,a,e,_⟩:=x;exact⟨a,e⟩
 |dK b=>obtain⟨_,_,_,_,a,_,_,e,_⟩:=x;exact⟨a,e⟩
 |dT b=>obtain⟨_,_,_,_,a,_,_,e,_⟩:=x;exact⟨a,e⟩
 |set S n=>obtain⟨a,_,_,_,e,_⟩:=x;exact⟨a,e⟩
 |ins C i b=>obtain⟨_,_,_,e,_⟩:=x;exact⟨_,e⟩
 |own y=>exact x
 |xd b=>obtain⟨_,⟨a,_,_,e,_⟩,_⟩:=x;exact⟨a,e⟩
 |rng lo g=>obtain⟨_,_,_,e⟩:=x;exact⟨_,e⟩
 |frz a u=>obtain⟨e,_⟩:=x;exact⟨a,e⟩
 |U4 d=>exact⟨_,x⟩
 |met f y=>exact⟨_,x⟩
 |ext c=>obtain⟨_,e,_⟩:=x;exact e
def R8.keptT {h' : Heap} (x : R8 P w H h) (k : ∀ b u, (∃ o, H b = some o) -> h.get? b = some u -> h'.get? b = some u) : R8 P w H h' := λa o e =>
 (x a o e).S9 (λb u a q => k b u (by
  rcases a with z | z;subst z; exact ⟨o, e⟩;exact ⟨_, z⟩) q) (λ_ q => q) λ_ _ q => q
structure Fl(P:Program)(w:World)(l:List Env)(h₀:Heap)(Qj H:Hp)(B h:Heap):Prop where
 un:Un (Ue l) [] Qj H h₀ h
 PW:R8 P w H h
 fr:∀b∈Ue l,Qj b=none/\∃o,h₀.get? b=some o/\∀vs,o.data ≠ .fields vs
 cov:∀b o,h.get? b=some o->((∃u,H b=some u)∨∃ o',h₀.get? b=some o')->b∉Ue l->B.get? b=some o
section
variable{P:Program}{w:World}{l:List Env}{h₀:Heap}{Qj H:Hp}{B h h':Heap}
theorem Fl.free(F:Fl P w l h₀ Qj H B h){b:Addr}(a:b∈Ue l):H b=none:=by obtain⟨n,o,e,_⟩:=F.fr b a;exact F.un.free b o e n (by simp)
def Fl.step(F:Fl P w l h₀ Qj H B h)(st:B.StaysIn h')(i:h.UpToSlots h'):Fl P w l h₀ Qj H B h':=by
 have g:∀b o,b∈Ue l->h₀.get? b=some o->∃a,h'.get? b=some {o with slots:=a}:=λb o a e=>by obtain⟨n,d,c,j⟩:=F.fr b a;rw[e]at c;cases c;obtain⟨r,f⟩:=F.un.slot b o e n a (by simp);obtain⟨m,k⟩:=i b _ f j;exact⟨m,k⟩
 have i:∀b o,h.get? b=some o->((∃u,H b=some u)∨∃ d,h₀.get? b=some d)->b∉Ue l->h'.get? b=some o:=λb o e c n=>st b o (F.cov b o e c n)
 refine⟨⟨λb o e n a j=>i b o (F.un.keep b o e n a j) (.inr ⟨o,e⟩) a,λb o e n a j=>g b o a e,F.un.free,λb o e j=>?_,F.un.TF,F.un.Ts,F.un.TH⟩,PD.R8.keptT F.PW (λb u p e=>i b u e (.inl p) λz=>?_),F.fr,λb o e c n=>?_⟩;by_cases a:b∈Ue l;obtain⟨m,k⟩:=g b o a e;exact⟨_,k⟩;obtain⟨d,f⟩:=F.un.there b o e j;exact⟨d,i b d f (.inr ⟨o,e⟩) a⟩;obtain⟨o,q⟩:=p;rw[F.free z]at q;cases q;have:∃a,h.get? b=some a:=by
  rcases c with⟨u,c⟩| ⟨d,c⟩;exact PD.bN.there (F.PW b u c);exact F.un.there b d c (by simp)
 obtain⟨a,f⟩:=this;have q:=i b a f c n;rw[e]at q;cases q;exact F.cov b o f c n
end
def CX1(P:Program)(w:World):CXT:=λa H s E e b=>∃(d c:Addr) (f:Hp) (B:Heap) (g:Value),e=.ref d/\b.os=s.os/\AllBare b.gens/\Fl P w a s.heap H f B b.heap/\aw H f/\f d=none/\s.heap.get? d=none ∧
 Heap.FlyingW B a d (.ref c) g b.heap/\E (.ref c) none f
def Jh:Passes (CX1 P w) X E0:=λ_ _ _ _ _ _ _ h=>by
 obtain⟨_,_,_,_,_,_,_,_,_,_,_,_,_,z⟩:=h
 lia
def MadeX(X:Cx)(Ed:Value->Prop):Prop:=∀(a:yab) (b:St) (H:Hp) (W:Own) (f:Ro) (s:Shared) (e c:Addr) (g:yad) (d:Heap),Inv X a b H s->Rel X W H b f->Heap.MadeExcOf s.heap d e (.ref c) g->Ed (.ref c)->X.xe (.ref e) {s with heap:=d}
def eJ(X:Cx)(Ed:Value->Prop):Prop:=∀(a:yab) (b:St) (H:Hp) (W:Own) (c:Ro) (s:Shared) (e:Value) (d:Shared),Inv X a b H s->Rel X W H b c->CX1 X.prog X.w X.stack H s (λc _ _=>Ed c) e d->X.xe e d
section
variable{P:Program}{w:World}{K:yac}{mg:yam}{base:Heap}{N:yah}{qual:Str}{sc:Scope}{f:Addr}{cd:Value}{A:Around}{outer:List Env}{P7:Shared}{Qj:Hp}{E:XK}
def yq{B:Heap}(I:Inv (dA (CX1 P w) P w K mg base N qual sc f cd A outer P7 Qj E) pins σ H s)(l:aw Qj H)(k:H e=none)(p:P7.heap.get? e=none)
  (g:∀b o,s.heap.get? b=some o->((∃u,H b=some u)∨∃ a,P7.heap.get? b=some a)->b∉Ue (envOfC qual sc P7.heap.objs.size f cd::outer)->B.get? b=some o)
  (h:Heap.FlyingW B outer e (.ref c) a0 h') (i:s.heap.UpToSlots h') (m:E (.ref c) none H):CX1 P w outer Qj P7 E (.ref e) {s with heap:=h'}:=by
 have j:∀b,((∃u,H b=some u)∨∃ a,P7.heap.get? b=some a)->b∉Ue outer->b∉Ue (envOfC qual sc P7.heap.objs.size f cd::outer):=λb c n z=>by
  rcases c with⟨u,c⟩| ⟨a,c⟩;have:=I.UL b z
  lia
  rcases Qg.mp (I.TJ b z)with q|q;have t:=Qp c;have r:P7.heap.objs.size<=b:=by rw[q];exact I.ok.above
  lia
  exact n q
 have F:Fl P w outer P7.heap Qj H B s.heap:=⟨I.base,I.PW,λb a=>⟨I.ok.Zh b a,by obtain⟨_,o,e,d⟩:=I.ok.Ta.mem a;exact⟨o,e,d⟩⟩,λb o e c n=>g b o e c (j b c n)⟩
 exact⟨e,c,H,B,a0,rfl,I.os,I.bare,F.step h.1 i,l,k,p,h,m⟩
def N6{Ed:Value->Prop}(m:∀c a H',aw Qj H'->Ed c->E c a H'):MadeX (dA (CX1 P w) P w K mg base N qual sc f cd A outer P7 Qj E) Ed:=by
 intro g p H W x s e c y h' I r c l;refine wpAny_leaves_madeW (base:=PySem.W.hideAll s.heap (Ue (envOfC qual sc P7.heap.objs.size f cd::outer))) (h:=s.heap) (outer:=outer) I.ok.frames rfl (λb o q=>PySem.W.of_hideAll _ q)
  (PySem.W.funFrames_hide I.stack λa d b h=>zCy.mpr ⟨a,d,h⟩) c λn t i _ _ h=>?_
 have j:∀{a:Heap},(∀b o,a.get? b=some o->∃d,s.heap.get? b=some d)->a.get? e=none:=fun {a} k=>by
  cases q:a.get? e with
  |none=>rfl
  |some o =>
   obtain⟨d,a⟩:=k e o q;rw[c.new]at a
   lia
 refine yq (s:=s) (h':=n) I r.ent ?_ (j λb o q=>I.base.there b o q (by intro z;cases z)) (λb o q _ n=>PySem.W.hideAll_get _ q n) i (λb o q d=>?_) (m _ _ _ r.ent l);cases q:H e with
 |none=>rfl
 |some u =>
  obtain⟨o,z⟩:=PD.bN.there (I.PW e u q)
  simp_all
 exact h b o (c.keeps b o q) d
def Ky{Ed:Value->Prop}(l:∀c a H',aw Qj H'->Ed c->E c a H'):eJ (dA (CX1 P w) P w K mg base N qual sc f cd A outer P7 Qj E) Ed:=by
 intro d p H W t s e i I r b;obtain⟨e,c,H',B,x,rfl,os,a,F,c,j,Zq,g,k⟩:=b;refine wpAny_leaves_onW (outer:=outer) I.ok.frames rfl g λm h g=>?_
 have n:=I.U9 os F.un F.PW a (by intro b z;cases z);refine yq (s:=i) (h':=m) n (r.ent.trans c) j ?_ (λb o q z n=>F.cov b o q (z.elim .inl λi=>(by obtain⟨a,z⟩:=i;exact .inr (I.base.there b a z (by intro q;cases q)))) n) h g (l _ _ _ (r.ent.trans c) k);cases q:P7.heap.get? e with
 |none=>rfl
 |some o =>
  obtain⟨a,u⟩:=I.base.there e o q (by intro z;cases z)
  lia
end
section
variable{X:Cx}{k:Nat}{f:Addr}{fd:FuncData}{ps:yah}{sp:DSp}{x:Str}{p pos:Pos}{e:Expr}{es:yai}{t:DA}
def Nq{dds:yas}{g:yaa}(F:aK X.prog X.w X.K X.mg X.base (CX1 X.prog X.w) k f fd ps (aM X.K sp))(m:b6 k X.A)(n:Binds X.K fd ps dsv)(h:Vals (dds.map rW) dsv)(hs:∀d∈dds,xM d)
 (I:Inv X pins σ H s) (a:Rel X W H σ ρ) (r:Vals vs us) (i:aj X.K W.bad H ds vs)
  (q:sp (bb ds++dds) Q Ed) (l:∀e b,CX1 X.prog X.w X.stack H s (λc _ _=>Ed c) e b->g e b):wpAny (model X.prog X.w) X.A (call (.ref f) us) (DP X pins σ W H Q) g s:=by
 have g:Vals (vs++dds.map rW) (us++dsv):=r.append h;have j:aM X.K sp (vs++dds.map rW) H (λv h=>aw H h/\∃d,Den X.K W.bad h d v/\Q d) (λc _ _=>Ed c) :=
  ⟨W.bad false,bb ds++dds,Q,Ed,a.tab,a.tracked false,(aj.aG (λ_ _=>Own.Tb) ds vs i).append (aj.vV hs),q,λd v h e i h=>⟨e,d,Den.back a.tracked i,h⟩,λ_ _ _ _ z=>z⟩
 have a:(us++dsv).length=ps.length:=by rw[<- g.length];exact F.len _ _ _ _ j
 refine wpAny_call (codeAny_mono (F.run X.A X.stack s H ⟨us,[]⟩ (us++dsv) (vs++dds.map rW) _ _ m I.env0 (n s us I.Ug a) g j) λc b a=>?_);cases c with
 |error c=>exact l c b a
 |ok b =>
  cases b with
  |ret u =>
   obtain⟨v,j,c,g,b,d,i,h⟩:=I.after a;exact⟨v,j,d,c,g,b,i,h⟩
  |next=>exact False.elim a
  |brk=>exact False.elim a
  |cont=>exact False.elim a
end
set_option tactic.hygienic true in
def JS{K:yac}(X:K.In h)(q:PySem.W.excIn K C bmB newId=true):∃tl N nm c bs d sn sub ab col dd k0 k1 k2 k3 k5 mN,
  h.get? C=some (excClassObj nm c C N bs tl d sn sub ab col dd k0 k1 k2 k3 k5 newId)/\h.Ns N mN/\mN "__init__" = none/\OwnTail h bmB tl:=by
 unfold PySem.W.excIn at q;split at q
 next dd cd sl ho =>
  split at q
  next C' tl k0 k1 k2 k3 n k5 hm hs =>
   simp only[Yo,beq_iff_eq,zCf]at q;obtain⟨⟨⟨⟨⟨i,f⟩,a⟩,h⟩,e⟩,b⟩:=q;subst i f;cases cd with
   |mk nm bs g f c d sn sub ab col j =>
    simp only at hm a e b;subst hm a;have a:sl=#[k0,k1,k2,k3,some (.builtin n),k5]:=by apply Array.ext';rw[hs]
    subst a;exact⟨tl,f,nm,c,bs,d,sn,sub,ab,col,dd,k0,k1,k2,k3,k5,_,X _ _ ho,.of_isNs (PySem.W.isNs_of_in X e),PySem.W.nsMap_none_of_in X e b,PySem.W.tail_of_in X h⟩
  next=>cases q
 next=>cases q
abbrev DX:yad:=[.type "ValueError", .type "Exception", .type "BaseException", .type "object"]
section
variable{X:Cx}{pos:Pos}
def Hd {e:Expr} {es:yai} (i:MadeX X Ed) (j:Gl X x) (c:X.mg x=some (.ref C)) (q:PySem.W.excIn X.K C DX "ValueError.__new__" = true) (l:X.calm=true) (m:Uo X (e::es) t)
  (f:starEach (e::es) X.env=(false,eval e X.env)::starEach es X.env:=by rfl) (u:(backTo cpos (starEach es X.env)).any (·.1)=false:=by rfl) (p:(x==("__debug__" : Str))=false:=by decide) :
  Sf X (.Raise (some (.Call (.Name x np) (e::es) [] cpos)) none pos) (λ_ ρ=>t ρ λds=>ds.length<=sizeLine/\Ed (.ref C)):=by
 intro a s d H W ρ E I r h;obtain⟨e,N,nm,g,bs,k,sn,sub,ab,col,dd,k0,k1,k2,k3,k5,mN,o,n,b,T⟩:=JS I.ok.mod.Zf q;have FB:=PySem.F.excBase_ValueError;refine wpAny_Raise_call_subT (C:=C) (nm:=nm) (q:=g) (N:=N) (bs:=bs) (bm:=e) (hdct:=k) (sn:=sn) (sub:=sub) (ab:=ab) (col:=col) (dd:=dd) (k0:=k0) (k1:=k1) (k2:=k2) (k3:=k3) (k5:=k5) FB (mN:=mN) (T.hasType FB.hasBase) (I.ok.hd l)
  (by rw[f];show(false || (backTo cpos (starEach es X.env)).any (·.1))=false;rw[u];rfl) b (kr I j c ⟨rfl,?_⟩ p)
 have b:=m cpos a s d H W ρ _ I r h;rw[f]at b ⊢;refine Calls.evalArgs_plain (Px b λe f l=>?_);obtain⟨w,m,ds,b,g,k,j,z,h⟩:=l;exact⟨rfl,by rw[<- j.len,g.length]at z;exact z,b.bk _ _ o,n.keeps b.bk,T.keeps b.bk,λg j c=>i a d m W ρ f j C e g b (r.same k) c h⟩
def nj{st:Stmt}:Sf X st (λ_ _=>False):=λ_ _ _ _ _ _ _ _ _ h=>h.elim
theorem Rel.wish(r:Rel X W H σ ρ)(E:yaa):Rel (X.wish E) W H σ ρ:=⟨r.val,r.own,r.inj,r.kn,r.ke,r.bt,r.st,r.ent,r.tab⟩
def Rel.Q3(r:Rel (X.wish E) W H σ ρ):Rel X W H σ ρ:=⟨r.val,r.own,r.inj,r.kn,r.ke,r.bt,r.st,r.ent,r.tab⟩
theorem X4.Q3(h:X4 (X.wish XE) pins W H E f s'):X4 X pins W H E f s':=by
 obtain⟨b,c,d,I,a,q⟩:=h;refine⟨b,c,d,I.Q3,a,?_⟩;cases f with
 |next=>obtain⟨a,r,q⟩:=q;exact⟨a,r.Q3,q⟩
 |brk=>obtain⟨a,r,q⟩:=q;exact⟨a,r.Q3,q⟩
 |cont=>obtain⟨a,r,q⟩:=q;exact⟨a,r.Q3,q⟩
 |ret u=>exact q
theorem c6.XZ{st:yal}{t:DS}(h:c6 X.XZ st t):c6 X st t:=λa s b H W c E I r d =>
 Tv (h a s b H W c E (I.wish _) (r.wish _) d) (λ_ _ q=>q.Q3) λ_ _ z=>False.elim z
noncomputable abbrev Cx.markX(X:Cx)(e:Value):Cx:={X with A:=X.A.mark (some e),calm:=false,xe:=λ_ _=>False}
def Inv.marked(I:Inv X pins σ H s)(e:Value):Inv (Cx.markX X e) pins σ H s :=
 have a:=I.ok
 ⟨⟨a.mod,a.kind,a.glob,a.blt,a.above,a.inj,a.has,a.WN,(λz=>by cases z),a.frames,a.stk,a.exf,a.bs,a.Zg,a.VG,a.Xe,a.Ta,a.Zh⟩,I.os,I.bare,I.base,I.loc,I.cell,I.free,I.Rx,I.pin,I.PW,I.len⟩
def Inv.unmark(J:Inv (Cx.markX X e) pins σ H s)(a:X.Ok):Inv X pins σ H s :=
 ⟨a,J.os,J.bare,J.base,J.loc,J.cell,J.free,J.Rx,J.pin,J.PW,J.len⟩
def Rel.marked(r:Rel X W H σ ρ)(e:Value):Rel (Cx.markX X e) W H σ ρ:=⟨r.val,r.own,r.inj,r.kn,r.ke,r.bt,r.st,r.ent,r.tab⟩
def Rel.unmark(r:Rel (Cx.markX X e) W H σ ρ):Rel X W H σ ρ:=⟨r.val,r.own,r.inj,r.kn,r.ke,r.bt,r.st,r.ent,r.tab⟩
def Inv.track(I:Inv X a σ H s)(d:H e=none)(h0:X.P7.heap.get? e=none)(k:e≠X.env.locals)(h:∀x c,X.env.cells.lookup x=some c->c≠e)(j:∀p∈X.pn++a,p.1≠e)
  (i:bN X.prog X.w (L2.upd H e o) s.heap e o):Inv X a σ (L2.upd H e o) s:=by
 refine⟨I.ok,I.os,I.bare,⟨I.base.keep,I.base.slot,λb u q n x=>?_,I.base.there,λb f q=>?_,λb u f q=>?_,λb g q=>?_⟩,I.loc,I.cell,by rw[aC (Ne.symm k)];exact I.free,λx c q=>by rw[aC (h x c q)];exact I.Rx x c q,λp q=>?_,λb u q=>?_,I.len⟩;rw[aC (by lia)];exact I.base.free b u q n x;have:=I.base.TF b f q;rw[aC (aT this d)];exact this;have:=I.base.Ts b u f q;rw[aC (aT this d)];exact this;obtain⟨a,this⟩:=I.base.TH b g q;exact⟨a,by rw[aC (aT this d)];exact this⟩;obtain⟨h,g,a⟩:=I.pin p q;exact⟨h,by rw[aC (j p q)];exact g,a⟩;by_cases a:b=e;grind [aJ];rw[aC a]at q;exact(I.PW b u q).S9 (λc v _ z=>z) (λc z=>by rw[aC (aT z d)];exact z) λc f z=>by rw[aC (aT z d)];exact z
def Fd{i:Nat}{n:Str}{Q:Unit->Shared->Prop}(I:Inv X pins σ H s)(w:X.N.Nodup)(u:X.N[i]?=some n)(b:X.env.scope.names.lookup n=some .local)
  (h:∀a,Inv X pins (σ.set i none) H a->Q () a):wpAny M A (do bindName X.env n .none;unbindBehindTheSuite X.env n pos) Q E s:=by
 obtain⟨m,a,t⟩:=id I.loc;refine wpAny_nameGoes_keeps b a (by rw[I.ok.kind];rfl) λB v c f=>h _ ?_
 have a:∀b o,X.P7.heap.get? b=some o->b≠X.env.locals:=λb o e=>QU (R7 (Qp e) I.ok.above)
 refine⟨I.ok,I.os,I.bare,⟨λb o e z h g=>(f.2 b (a b o e)).trans (I.base.keep b o e z h g),λb o e z h g=>?_,I.base.free,λb o e g=>?_,I.base.TF,I.base.Ts,I.base.TH⟩,⟨_,c,λj y l d k x=>?_⟩,λy c e=>?_,I.free,I.Rx,λp s=>?_,λb r e=>?_,by simpa using I.len⟩;obtain⟨m,d⟩:=I.base.slot b o e z h g;exact⟨m,(f.2 b (a b o e)).trans d⟩;obtain⟨h,d⟩:=I.base.there b o e g;exact⟨h,(f.2 b (a b o e)).trans d⟩;by_cases a:j=i
 simp_all [List.getElem?_set]
 rw[Sq (Ne.symm a)]at k;obtain⟨g,h,q⟩:=t j y l d k x;refine⟨g,h,?_⟩;rcases q with⟨k,e⟩| ⟨k,c,e,z⟩;refine .inl ⟨k,?_⟩;have:y≠n:=λe=>a (sA w d (e ▸ u))
 simp[this,e];exact .inr ⟨k,c,e,z.sameBut f (I.Yu y c e)⟩;obtain⟨a,z⟩:=I.cell y c e;exact⟨a,z.sameBut f (I.Yu y c e)⟩;obtain⟨e,z,g,h,d⟩:=I.pin p s;exact⟨(f.2 p.1 g).trans e,z,g,h,d⟩;refine(I.PW b r e).S9 (λc a a q=>(f.2 c ?_).trans q) (λ_ q=>q) λ_ _ q=>q
 intro z;rcases a with a|a;rw[<- a,z,I.free]at e;cases e;rw[z,I.free]at a;cases a
def Rel.unset{i:Nat}(r:Rel X W H σ ρ)(l:i<σ.length):Rel X (W.drop i) H (σ.set i none) (ρ.set i none):=by
 have f:∀{j:Nat} {x:Sl},(ρ.set i none)[j]?=some (some x)->j≠i/\ρ[j]?=some (some x):=fun {j x} h=>by by_cases b:j=i;subst b;rw[List.getElem?_set]at h;simp at h;rw[Sq (Ne.symm b)]at h;exact⟨b,h⟩
 have g:∀{j:Nat} {a:Addr},(W.drop i).O j=some a->j≠i/\W.O j=some a:=fun {j a} h=>by have c:(if j=i then none else W.O j)=some a:=h;by_cases d:j=i;rw[Pt d]at c;cases c;rw[Po d]at c;exact⟨d,c⟩
 refine⟨λj d h=>?_,λj m h=>?_,λj k a e c=>r.inj j k a (g e).2 (g c).2,λj a h=>r.kn j a (g h).2,λj a h=>r.ke j a (g h).2,r.bt,r.st,r.ent,r.tab⟩;obtain⟨b,h⟩:=f h;obtain⟨v,e,c⟩:=r.val j d h;exact⟨v,by rw[Sq (Ne.symm b)];exact e,c.P4 λ_ _=>Own.Qq⟩;obtain⟨b,h⟩:=f h;obtain⟨a,d,e,c,g,f⟩:=r.own j m h;exact⟨a,d,by show(if j=i then none else W.O j)=_;rw[Po b];exact e,by rw[Sq (Ne.symm b)];exact c,g,by rw[XS];exact f.P4 (λ_ _=>Own.Qq) (Own.SU l)⟩
def G7(K:yac)(C:Addr)(i:Nat)(sp:DSp)(t:DA)(a:DS):DS:=λE b=>t b λc=>sp (bb c) (λ_=>E.nx b) λd=>∃c,d=.ref c/\gF K c/\PySem.W.exmOne K (.ref c) (.ref C)=some true ∧
 a ⟨λa=>E.nx (a.set i none),E.rt,λa=>E.bk (a.set i none),λa=>E.ct (a.set i none)⟩ (b.set i (some (.val (.exc c))))
def Mj{n:Str}{ep:Pos}{e:Expr}{es:yai}{a:Stmt}{c:yal}(i:Nat)(F:aK X.prog X.w X.K X.mg X.base (CX1 X.prog X.w) k f fd ps (aM X.K sp))(d:b6 k X.A)(m:X.mg g=some (.ref f))(q:PySem.W.keepIn X.K (.ref f)=true)(w:Binds X.K fd ps [])
  (hN:X.N.Nodup) (YH:X.mg x=some (.ref C)) (r:Uo X.XZ (e::es) t) (G:∀v,c6 (Cx.markX X v) (a::c) su) (b:Gl X g:=by rfl) (J:Gl X x:=by rfl) (l:X.N[i]?=some n:=by rfl) (j:X.env.scope.names.lookup n=some .local:=by rfl)
  (L:X.ex=[]:=by rfl) (Q:X.stack=X.env::X.outer:=by rfl) (o:X.env.frame=some X.env.locals:=by rfl) (y:(g==("__debug__" : Str))=false:=by decide) (M:(x==("__debug__" : Str))=false:=by decide) (u:starEach (e::es) X.env=(false,eval e X.env)::starEach es X.env:=by rfl) (B:(backTo cp (starEach es X.env)).any (·.1)=false:=by rfl)
  (hs:swapsWith (.Call (.Name g p) (e::es) [] cp) none ep.line X.env=pure false:=by rfl) :
  Sf X (.Try [.Expr (.Call (.Name g p) (e::es) [] cp) ep] [.ExceptHandler (some (.Name x np)) (some n) (a::c) U] [] [] pos) (G7 X.K C i sp t su):=by
 intro a s g H W A E I c h;refine wpAny_Try_except (XR (wpAny_Expr_any (VE (kr I b m ?_ y)) I.quiet hs));refine PySem.W.callWith_K (h₀:=X.base) I.ok.mod.Zf q (Tv (r cp a s g H W A _ (I.wish _) (c.wish _) h) (λus s1 ⟨vs,H1,ds,e,r,N,b,q⟩=>⟨e.Q3.Ug,?_⟩) λ_ _ z=>False.elim z) u B;have e:=e.Q3;have O:=c.same N;have C:i<g.length:=Inv.Vb I l;refine Tv (Nq (dds:=[]) (dsv:=[]) F d w .nil (by simp) e O r b (by rw[W4];exact q) λer y m=>?_) (λu s2 c=>(by obtain⟨v,f,d,d,r2,b,hd2,n⟩:=c;exact Za (Za ⟨W,g,f,d,Qk.same (N.trans b),A,O.same b,n⟩))) λ_ _ z=>z
 obtain⟨d,c,k,B,u,rfl,os,f,Ff,T,Y,w,h,c',b,xk,E,t⟩:=m;cases b;have b:X.A.frames=some (X.env::X.outer):=by rw[<- Q];exact I.ok.frames
 rw[Q]at h;refine wpAny_looks_onW b o h λh4 b r=>wpAny_landsW b λs o h=>?_
 have Q:=(Ff.step b.1 r).step o.1 h;have I5:Inv X a g k {y with heap:=s}:=e.U9 os Q.un Q.PW f (by intro b z;cases z);have h:∀{r:Heap},Heap.FlyingW B (X.env::X.outer) d (.ref c) u r->ExcAt d c r:=fun {r} x=>by obtain⟨s,u,r,n,B,_⟩:=x.first;exact⟨s,u,r,n,B⟩
 refine wpAny_handleBy_cons (codeAny_handlers_test (kr (Inv.marked I5 (.ref d)) J YH ?_ M)) (by intro q;cases q);refine(PySem.W.exm_one I5.Ug (ExcAt.ty (h o)) E).here ?_;refine codeAny_handlers_suite_as (lands_againW o λh6 x E=>?_);have o:=Q.step x.1 E;have E:Inv X a g k {y with heap:=h6}:=e.U9 os o.un o.PW f (by intro b z;cases z);have f:Inv X a g (L2.upd k d (.ext (ExcAt d c))) {y with heap:=h6}:=by
  refine Inv.track E Y ?_ ?_ (λy c' q z=>?_) (λp U z=>?_) ⟨h x,?_,λh1 h2 q z=>?_⟩;cases q:X.P7.heap.get? d with
  |none=>rfl
  |some o =>
   by_cases m:d∈X.ex;rw[L]at m;cases m;obtain⟨o',b⟩:=e.base.there d o q m;rw[w]at b;cases b
  intro z;obtain⟨m,⟨o,_,_,q,_⟩,_⟩:=e.loc;rw[<- z,w]at q;cases q;obtain⟨w',o,b,_⟩:=e.cell y c' q;rw[z,w]at b;cases b;have:=(e.pin p U).1;rw[z,w]at this;cases this;obtain⟨s,u,r,_⟩:=h x;exact⟨s,r⟩;obtain⟨s,u,r,n,B⟩:=q;exact⟨s,u,z _ r,n,B⟩
 have b:aw k (L2.upd k d (.ext (ExcAt d c))):=aw.upd Y;refine c8 (X:=Cx.markX X (.ref d)) (v:=.ref d) (Inv.marked f (.ref d)) hN l (.inl j) rfl (λf h=>?_) (.inr j);have e:Rel X (W.drop i) (L2.upd k d (.ext (ExcAt d c))) (g.set i (some (.ref d))) (A.set i (some (.val (.exc c)))):=((O.same T).same b).put C (Den.exc aJ xk);refine Tv (G (.ref d) a f _ _ _ _ _ h (Rel.marked e _) t) (λf s8 c=>?_) λ_ _ z=>False.elim z
 obtain⟨a,σ8,d,e,h,c⟩:=c;have g:Qk W H (a.drop i) d:=(Qk.same ((N.trans T).trans b)).trans ((Qk.drop W _ i).trans (h.trans (Qk.drop a d i)));refine Fd (Inv.unmark e I.ok) hN l j λs9 b=>⟨a.drop i,_,d,b,g,?_⟩
 cases f with
 |next=>obtain⟨d,a,b⟩:=c;exact⟨_,(Rel.unmark a).unset (Inv.Vb (Inv.unmark e I.ok) l),b⟩
 |brk=>obtain⟨d,a,b⟩:=c;exact⟨_,(Rel.unmark a).unset (Inv.Vb (Inv.unmark e I.ok) l),b⟩
 |cont=>obtain⟨d,a,b⟩:=c;exact⟨_,(Rel.unmark a).unset (Inv.Vb (Inv.unmark e I.ok) l),b⟩
 |ret v=>obtain⟨d,f,a,e,b⟩:=c;exact⟨d,f,a,e.P4 λ_ _=>Own.Qq,b⟩
def LR(K:yac)(c:Value)(te:DE):DE:=λa Q=>te a λd=>∃b,PySem.W.kitOne K (X2 d) c=some b/\Q (.bl b)
def jW {p:Pos} {c:Value} (E:Gl X "isinstance") (C:X.mg "isinstance" = none) (B:PE X (.Name x p') (tC cv)) (w:∀u,RelV cv u->u=c) (G:P5 X e te)
  (n:starEach [e,.Name x p'] X.env=(false,eval e X.env)::starEach [.Name x p'] X.env:=by rfl) (M:starEach [.Name x p'] X.env=(false,eval (.Name x p') X.env)::starEach [] X.env:=by rfl) (L:(backTo pos (starEach [.Name x p'] X.env)).any (·.1)=false:=by rfl) :
  P5 X (.Call (.Name "isinstance" p) [e,.Name x p'] [] pos) (LR X.K c te):=by
 intro f s q H W r Q I a h;have j:PA X [e,.Name x p'] (qZ (Dd X te) (qZ (tC cv) DL)):=gR G.pe (gR B mG M) n;refine VE (cE I E C boot_isinstance ?_ (by decide) (by decide));refine PyProof.Rows.callWith_builtin1 (Px (j pos f s q H (λm g=>∃v d,m=[v,cv]/\aw H g/\Den X.K W.bad g d v/\∃b,PySem.W.kitOne X.K (X2 d) c=some b/\Q (.bl b)) I ⟨W,r,_,a,h,λv g d l k i=>⟨v,d,rfl,l,k,i⟩⟩) λO T N=>?_) n L;obtain⟨m,g,o,u,v,d,J,l,k,b,A,i⟩:=N;subst J;cases u with
 |cons z a =>
  cases a with
  |cons y a =>
   cases a;have:=w _ y;subst this;exact zf o k z A λt=>⟨.bl _,g,_,o.tok t,rfl,l,Den.bl _,i⟩
end
def Cr(base:Heap)(l:List Env)(e:Addr)(cls a0:Value)(h:Heap):Prop:=base.StaysIn h/\base.get? e=none/\h.FunFrames base l/\∃a,h.TracedAtW base e cls a0 a
section
variable{M:Model}{A:Around}{E:yaa}{s:Shared}{base:Heap}{l outer:List Env}{env:Env}{e L:Addr}{cls a0:Value}
def Kj{Q:Unit->Shared->Prop}(d:A.frames=some (env::outer))(f:env.frame=some L)(R:Cr base (env::outer) e cls a0 s.heap)
  (h:∀h',Cr base (env::outer) e cls a0 h'->s.heap.UpToSlots h'->Q () {s with heap:=h'}):wpAny M A (noteFrame (.ref e) env) Q E s:=by
 obtain⟨y,p,x,q,u,c,T,w,t,k,o,g3,j,z,r,i,g,b⟩:=id R;by_cases a:(q==rawInt L)=true;have m:q=rawInt L:=by simp_all
 subst m;exact wpAny_noteFrame_againW (base:=base) (cls:=cls) (a0:=a0) f ⟨u,c,T,w,t,k,o,g3,j,z,r,i,g,b⟩ (h _ R (Heap.UpToSlots.refl _));obtain⟨q,m⟩:=o;subst q;unfold noteFrame;simp only[f];refine Pk (TC k g3 j ?_);refine Pk (TC i g b ?_);rw[Po a];refine Pk (zDA i g (Yj.mp b).1 ?_);have Ru:∀b,b≠T->(s.heap.update T (Obj.mapFields (·.setIfInBounds 3 Value.none))).get? b=s.heap.get? b:=λb a=>WC _ _ (Ne.symm a)
 have n:∀b o,s.heap.get? b=some o->(∀c,o.data ≠ .fields c)->b≠T:=λb o a c q=>by simp_all
 refine wpAny_entryW (base:=base) d (x.of_keeps (by simp_all)) f ((Ru e (Ne.symm r)).trans k) (λb o a=>(Ru b (by lia)).trans (y b o a)) p g3 (Yj.mp j).1 m λh' j=>?_
 obtain⟨i,g,f,d⟩:=j;exact h h' ⟨i,p,g,_,f⟩ λb o a c=>d b o (by simp_all) c
def Hw{Q:Unit->Shared->Prop}(a:A.frames=some (env::outer))(b:env.frame=some L)(R:Cr base (env::outer) e cls a0 s.heap)
  (h:∀h',Heap.FlyingW base outer e cls a0 h'->s.heap.UpToSlots h'->Q () {s with heap:=h'}):wpAny M A (leaving env (.ref e)) Q E s:=by
 refine Pk (Kj a b R λj f b=>?_);obtain⟨d,g,c,k,a⟩:=f;refine wpAny_setFlight_noneW (base:=base) d c a λi f a d c=>?_
 obtain⟨_,_,a⟩:=a;exact h i ⟨f,g,a,d⟩ (b.trans λb o d a=>⟨o.slots,c b o d a⟩)
end
def CF(X:Cx)(Ed:Value->Prop):Prop:=∀(b:yab) (f:St) (H:Hp) (W:Own) (g:Ro) (s a:Shared) (d c:Addr) (e:Hp) (B:Heap) (h:Value),Inv X b f H s->Rel X W H f g->a.os=s.os->AllBare a.gens->Fl X.prog X.w X.stack s.heap H e B a.heap->aw H e->e d=none->s.heap.get? d=none →
 Cr B X.stack d (.ref c) h a.heap->Ed (.ref c)->X.xe (.ref d) a
section
variable{P:Program}{w:World}{K:yac}{mg:yam}{base:Heap}{N:yah}{qual:Str}{sc:Scope}{f:Addr}{cd:Value}{A:Around}{outer:List Env}{P7:Shared}{Qj:Hp}{E:XK}
def N2{Ed:Value->Prop}(l:∀c a H',aw Qj H'->Ed c->E c a H'):CF (dA (CX1 P w) P w K mg base N qual sc f cd A outer P7 Qj E) Ed:=by
 intro d p H W t s i e c H' B x I r os a F c j Zq R k;refine Hw (outer:=outer) I.ok.frames rfl R λm h g=>?_
 have n:=I.U9 os F.un F.PW a (by intro b z;cases z);refine yq (s:=i) (h':=m) n (r.ent.trans c) j ?_ (λb o q z n=>F.cov b o q (z.elim .inl λi=>(by obtain⟨a,z⟩:=i;exact .inr (I.base.there b a z (by intro q;cases q)))) n) h g (l _ _ _ (r.ent.trans c) k);cases q:P7.heap.get? e with
 |none=>rfl
 |some o =>
  obtain⟨a,u⟩:=I.base.there e o q (by intro z;cases z)
  lia
end
section
variable{P:Program}{w:World}{K:yac}{mg:yam}{base:Heap}
structure aD(K:yac)(x qual:Str)(st:Stmt)(f:Addr)(fd:FuncData):Prop where
 ex:∃(oc:Value) (od:Option Addr) (dV kV doc pm:Value) (an:Option Addr) (Rw ct:Value) (X1:Array (yan)),
  fd=PySem.W.fnOf x qual (fE st) (cY st) (ak st) dV kV doc pm an Rw ct/\K.lookup f=some ⟨oc,od,.func fd,X1⟩/\PySem.W.codeIn K Rw qual=true
 kp:PySem.W.keepIn K (.ref f)=true
def aD.okC{x a:Str}{st:Stmt}{f:Addr}{d:FuncData}{N ps:yah}{k:Nat}{sp:DSp}(F:aD K x a st f d)(S:aE N ps (ak st))(c:∀ds Q E,sp ds Q E->ds.length=ps.length)
  (n:∀(b:Value),d.code=b->∀(A:Around) (outer:List Env) (s:Shared) (H:Hp) (E:XK) (Ed:Value->Prop),b6 k (A.deeper (envOfC a (ak st) s.heap.objs.size f b))->MadeX (dA (CX1 P w) P w K mg base N a (ak st) f b A outer s H E) Ed->eJ (dA (CX1 P w) P w K mg base N a (ak st) f b A outer s H E) Ed->CF (dA (CX1 P w) P w K mg base N a (ak st) f b A outer s H E) Ed →
   ∃ t,c6 (dA (CX1 P w) P w K mg base N a (ak st) f b A outer s H E) (cY st) t/\∀ds Q,sp ds Q Ed->t {nx:=λ_=>Q .Qe,rt:=Q} (di N ds)):aK P w K mg base (CX1 P w) (k+1) f d ps (aM K sp):=by
 obtain⟨B,y,C,kV,m,u,I,b,G,X1,rfl,lk,a⟩:=F.ex;refine I0 lk a S (λa H Q E h=>?_) λA outer s H a Q E i h=>?_
 obtain⟨_,ds,_,_,_,_,e,d,_⟩:=h;rw[e.len];exact c ds _ _ d;obtain⟨o,ds,p,Ed,j,l,e,d,g,a⟩:=h;obtain⟨t,c,k⟩:=n b rfl A outer s H E Ed i (N6 a) (Ky a) (N2 a);refine⟨_,c.ps,⟨o,λ_=>none,λa=>∃o,H a=some o⟩,_,_,Rel.start l e rfl j,k ds p d,λb PC c Pu f r q=>?_,λb c v d f h q=>?_,λ_ _ _ _ _ _ q=>q,λ_ _ _ _ _ _ q=>q⟩;exact g .Qe .Qe c ⟨λb o e n=>f.kp b o (by lia) e n,f.tb,f.ok⟩ Den.Qe q;refine g d v c ⟨λb o e n=>f.kp b o (by lia) e n,f.tb,f.ok⟩ (h.P4 λt a z=>?_) q;rcases z with z|z;exact .inl (by rw[f.B];exact z);exact .inr (.inr ⟨z.1,by rw[f.S];exact z.2⟩)
def aD.okX{x a:Str}{st:Stmt}{f:Addr}{d:FuncData}{N ps:yah}{k:Nat}{sp:DSp}(F:aD K x a st f d)(S:aE N ps (ak st))(c:∀ds Q E,sp ds Q E->ds.length=ps.length)
  (e:∀(b:Value) (A:Around) (outer:List Env) (s:Shared) (H:Hp) (E:XK) (Ed:Value->Prop),b6 k (A.deeper (envOfC a (ak st) s.heap.objs.size f b))->MadeX (dA (CX1 P w) P w K mg base N a (ak st) f b A outer s H E) Ed->eJ (dA (CX1 P w) P w K mg base N a (ak st) f b A outer s H E) Ed->CF (dA (CX1 P w) P w K mg base N a (ak st) f b A outer s H E) Ed →
   ∃ t,c6 (dA (CX1 P w) P w K mg base N a (ak st) f b A outer s H E) (cY st) t/\∀ds Q,sp ds Q Ed->t {nx:=λ_=>Q .Qe,rt:=Q} (di N ds)):aK P w K mg base (CX1 P w) (k+1) f d ps (aM K sp):=aD.okC F S c λb _=>e b
def aD.okN{x a:Str}{st:Stmt}{f:Addr}{d:FuncData}{N ps:yah}{k:Nat}{sp:DSp}(F:aD K x a st f d)(S:aE N ps (ak st))(c:∀ds Q E,sp ds Q E->ds.length=ps.length)
  (e:∀(b:Value) (A:Around) (outer:List Env) (s:Shared) (H:Hp) (E:XK),b6 k (A.deeper (envOfC a (ak st) s.heap.objs.size f b)) →
   ∃ t,c6 (dA (CX1 P w) P w K mg base N a (ak st) f b A outer s H E).XZ (cY st) t/\∀ds Q Ed,sp ds Q Ed->t {nx:=λ_=>Q .Qe,rt:=Q} (di N ds)):aK P w K mg base (CX1 P w) (k+1) f d ps (aM K sp) :=
 aD.okX F S c λb A outer s H E Ed c _ _ _=>by obtain⟨t,a,k⟩:=e b A outer s H E c;exact⟨t,a.XZ,λds Q h=>k ds Q Ed h⟩
def BI{x a:Str}{st:Stmt}{f:Addr}{m:Value}{j i:Option Addr}{n:Array (yan)}{g kV b e d h:Value}(l:K.lookup f=some ⟨m,j,.func (PySem.W.fnOf x a (fE st) (cY st) (ak st) g kV b e i d h),n⟩)
  (c:PySem.W.codeIn K d a=true) (k:PySem.W.keepIn K (.ref f)=true):aD K x a st f (PySem.W.fnOf x a (fE st) (cY st) (ak st) g kV b e i d h):=⟨⟨m,j,g,kV,b,e,i,d,h,n,rfl,l,c⟩,k⟩
end
open PySem PySem.Spec PyProof.Rows L2
def QG(P:Program)(w:World)(K:yac)(a:yam)(base:Heap)(x:Str)(k:Nat)(ps:yah)(sp:DSp):Prop :=
 ∃ f b,aK P w K a base (CX1 P w) k f b ps (aM K sp)/\a x=some (.ref f)/\PySem.W.keepIn K (.ref f)=true/\Binds K b ps []
section
variable{X:Cx}{k:Nat}{ps:yah}{sp:DSp}{x:Str}{p pos:Pos}{e:Expr}{es:yai}{t:DA}
def JK (h:QG X.prog X.w X.K X.mg X.base x k ps sp) (a:b6 k X.A) (i:Uo X (e::es) t) (d:Gl X x:=by rfl) (j:(x==("__debug__" : Str))=false:=by decide)
  (g:starEach (e::es) X.env=(false,eval e X.env)::starEach es X.env:=by rfl) (l:(backTo pos (starEach es X.env)).any (·.1)=false:=by rfl):P5 X (.Call (.Name x p) (e::es) [] pos) (xE sp [] t):=by
 obtain⟨f,m,F,b,c,f⟩:=h;exact G8 (dds:=[]) (dsv:=[]) F a d b c f .nil (by simp) Jh i j g l
def av (h:QG X.prog X.w X.K X.mg X.base x k ps sp) (a:b6 n X.A) (f:Uo X (e::es) t) (b:k<=n:=by decide) (c:Gl X x:=by rfl) (g:(x==("__debug__" : Str))=false:=by decide)
  (d:starEach (e::es) X.env=(false,eval e X.env)::starEach es X.env:=by rfl) (i:(backTo pos (starEach es X.env)).any (·.1)=false:=by rfl):P5 X (.Call (.Name x p) (e::es) [] pos) (xE sp [] t):=JK h (a.mono b) f c g d i
def JO{n:Str}{ep:Pos}{f:Stmt}{m:yal}(i:Nat)(h:QG X.prog X.w X.K X.mg X.base x k ps sp)(o:b6 k X.A)(u:X.N.Nodup)(w:X.mg y=some (.ref C))(s:Uo X.XZ (e::es) t)(a:∀v,c6 (Cx.markX X v) (f::m) su)
  (d:Gl X x:=by rfl) (c:Gl X y:=by rfl) (q:X.N[i]?=some n:=by rfl) (b:X.env.scope.names.lookup n=some .local:=by rfl)
  (g:X.ex=[]:=by rfl) (A:X.stack=X.env::X.outer:=by rfl) (j:X.env.frame=some X.env.locals:=by rfl) (z:(x==("__debug__" : Str))=false:=by decide) (l:(y==("__debug__" : Str))=false:=by decide) (r:starEach (e::es) X.env=(false,eval e X.env)::starEach es X.env:=by rfl) (B:(backTo cp (starEach es X.env)).any (·.1)=false:=by rfl)
  (hs:swapsWith (.Call (.Name x p) (e::es) [] cp) none ep.line X.env=pure false:=by rfl) :
  Sf X (.Try [.Expr (.Call (.Name x p) (e::es) [] cp) ep] [.ExceptHandler (some (.Name y np)) (some n) (f::m) hp] [] [] pos) (G7 X.K C i sp t su):=by
 obtain⟨f,E,F,f,m,n⟩:=h;exact Mj i F o f m n u w s a d c q b g A j z l r B hs
end
theorem LN{CX:CXT}{P:Program}{w:World}{K:yac}{c:yam}{base:Heap}{N:yah}{a:Str}{b:Scope}{f:Addr}{d:Value}{A:Around}{outer:List Env}{s:Shared}{H:Hp}{E:XK}:(dA CX P w K c base N a b f d A outer s H E).K=K:=rfl
theorem Lf(c:Addr):X2 (.exc c)=.ref c:=rfl
theorem EV(c:Addr):eK (.exc c)=false:=rfl
def sp1(R:D->(D->Prop)->Prop):DSp:=λb Q _=>∃a,b=[a]/\R a Q
def uK:DSp:=λb Q _=>∃a:yaf,b=[.lst false (a.map .int)]/\a.length<=63/\Q (.bl true)
theorem wI{K:yac}{P:yak}{H:Hp}:∀ns:yaf,aj K P H (ns.map D.int) (ns.map V.int)
 |[]=>aj.nil
 |n::r=>aj.cons (Den.int n) (wI r)
def MR{K:yac}{H:Hp}{a:Addr}{ns:yaf}(b:ns.length<=63)(e:SqL K H a (ns.map V.int))(c:jE K H):aM K uK [.ref a] H (λv _=>v=.bl true) λ_ _ _=>False :=
 ⟨λ_=>False,[.lst false (ns.map D.int)],λd=>d=.bl true,λ_=>False,c,by lia,aj.one (Den.lst (by lia) (.any e) (wI ns)),⟨ns,rfl,b,rfl⟩,λd v H' _ a e=>by subst e;exact a.X3,λ_ _ _ _ z=>z.elim⟩
def walk{l:PySem.W.OpenLaw}{q:Program}{a:yah}{n:(yam)->Heap->Prop}{i:World->Heap->Prop}{d:DefRec}{K:Params->yac}{k:Nat}{x:Str}(m:l.most=some 63)(c:d.params.defaults=[])(j:b6 k callerA)
  (o:∀(w:World) (h:Heap),i w h->(K w.params).In h) (y:∀w:World,tabOf (K w.params)=none)
  (F:∀(w:World) (b:yam) (g:Addr) (h:Heap),(K w.params).In h->h.Ns mainGlobals b->b d.name=some (.ref g) →
   ∃ e:FuncData,(∀(s:Shared) (u:Value),BindsTo s e ⟨[u],[]⟩ [(x,u)])/\∀base:Heap,(K w.params).In base->base.Ns mainGlobals b->aK l.prog w (K w.params) b base (CX1 l.prog w) k g e [x] (aM (K w.params) uK)) :
  PySem.W.WalkO q a n i l.row.toRowW d [] (λf vs=>PySem.call f vs) :=
 L2.Lh (n:=63) (k:=k) (x:=x) (CX:=λw=>CX1 l.prog w) (sp:=λw=>aM (K w.params) uK) m (by decide) c j o F (λw _ a t a c b=>MR a b ⟨λP r e=>(by rcases c P with z|⟨o,p,z⟩<;>rw[z]at e<;>cases e),by grind⟩) λ_ _ _ _ _ z=>by obtain⟨_,_,_,_,_,_,_,_,_,_,_,_,_,q⟩:=z;lia
def Z7{b:Type}(a:b)(r:List b):Rz (a::r) 0=some a:=bD (j:=0) rfl
def YI{c:Type}(a b:c)(r:List c):Rz (a::b::r) 1=some b:=bD (j:=1) rfl
def at2{d:Type}(a b c:d)(r:List d):Rz (a::b::c::r) 2=some c:=bD (j:=2) rfl
def at3{e:Type}(a b c d:e)(r:List e):Rz (a::b::c::d::r) 3=some d:=bD (j:=3) rfl
theorem Ia(ds:yas)(i:Int)(Q:D->Prop):vK (.tup ds) (.int i) Q=∃d,Rz ds i=some d/\Q d:=rfl
theorem sI(t:Bool)(ds:yas)(i:Int)(Q:D->Prop):vK (.lst t ds) (.int i) Q=∃d,Rz ds i=some d/\Q d:=rfl
theorem dJ(i:Int):aG (.int i)=.int i:=rfl
theorem IB(b:Bool):aG (.bl b)=.bl b:=rfl
theorem Gf:aG .Qe=.Qe:=rfl
theorem Gg(x:Str):aG (.str x)=.str x:=rfl
theorem Gd(c:Addr):aG (.exc c)=.exc c:=rfl
theorem cX(ds:yas):aG (.tup ds)=.tup (bb ds):=rfl
theorem bG(t:Bool)(ds:yas):aG (.lst t ds)=.lst false (bb ds):=rfl
theorem bM:bb []=[]:=rfl
theorem br(d:D)(ds:yas):bb (d::ds)=aG d::bb ds:=rfl
theorem cV{a:Type}(f:a->D)(h:∀x,aG (f x)=f x):∀xs:List a,bb (xs.map f)=xs.map f
 |[]=>by rw[XT,bb]
 |x::r=>by rw[QO,bb,h,cV f h r]
def cM(ns:yaf):bb (ns.map D.int)=ns.map D.int:=cV _ dJ ns
theorem B9(C:Int->Int->Prop)(g:Int->Int->D)(i j:Int)(Q:D->Prop):Zn C g (.int i) (.int j) Q=(C i j/\Q (g i j)):=rfl
theorem kL(g:Int->Int->D)(i j:Int)(Q:D->Prop):gY g (.int i) (.int j) Q=Q (g i j):=rfl
theorem L7(d:D)(r:Ro)(Q:D->Prop):lS 0 (some (.val d)::r) Q=Q d:=rfl
theorem L8(n:Nat)(x:Option Sl)(r:Ro)(Q:D->Prop):lS (n+1) (x::r) Q=lS n r Q:=rfl
theorem Oj(x y:Option Sl)(r:Ro):List.set (x::r) 0 y=y::r:=rfl
theorem Ol(n:Nat)(x y:Option Sl)(r:Ro):List.set (x::r) (n+1) y=x::List.set r n y:=rfl
def NX(k:Bool)(R:Bool->Prop):(∃c,(D.bl k)=.bl c/\R c)=R k:=by apply propext;constructor;rintro⟨c,e,q⟩;cases e;exact q;intro q;exact⟨k,rfl,q⟩
def Mq(k:Int)(R:Int->Prop):(∃c,(D.int k)=.int c/\R c)=R k:=by apply propext;constructor;rintro⟨c,e,q⟩;cases e;exact q;intro q;exact⟨k,rfl,q⟩
def JR{a:Type}(k:a)(R:a->Prop):(∃c,some k=some c/\R c)=R k:=by apply propext;constructor;rintro⟨c,e,q⟩;cases e;exact q;intro q;exact⟨k,rfl,q⟩
def Xp(a b c:D):([a,b,c]:yas).length<=sizeLine:=by simp_all [sizeLine_eq]
def UP(a b:D):([a,b]:yas).length<=sizeLine:=by simp_all [sizeLine_eq]
def sz1(a:D):([a]:yas).length<=sizeLine:=by simp_all [sizeLine_eq]
theorem sz4(a b c d:D):([a,b,c,d]:yas).length<=sizeLine:=by simp_all [sizeLine_eq]
def Kd(t:Bool)(xs:yas)(R:yas->Prop):(∃ys,((∃t',[D.lst t xs]=[.lst t' ys]) ∨ [D.lst t xs]=[.tup ys])/\R ys)=R xs:=by lia
def Ke(xs:yas)(R:yas->Prop):(∃ys,((∃t',[D.tup xs]=[.lst t' ys]) ∨ [D.tup xs]=[.tup ys])/\R ys)=R xs:=by lia
def M9(a b:D)(R:D->D->Prop):(∃d e,[a,b]=[d,e]/\R d e)=R a b:=by lia
def J9 (ds:yas):YE "tuple" (.tup ds)=true:=by
 show(("tuple" : String) == "tuple" || (("tuple" : String) == "bool" && ("tuple" : String) == "int"))=true;decide
def J6 (t:Bool) (ds:yas):YE "list" (.lst t ds)=true:=by
 show(("list" : String) == "list" || (("list" : String) == "bool" && ("list" : String) == "int"))=true;decide
def E2 (ds:yas):YE "list" (.tup ds)=false:=by
 show(("tuple" : String) == "list" || (("tuple" : String) == "bool" && ("list" : String) == "int"))=false;decide
def J5 (i:Int):YE "int" (.int i)=true:=by
 show(("int" : String) == "int" || (("int" : String) == "bool" && ("int" : String) == "int"))=true;decide
def Dc (i:Int):YE "bool" (.int i)=false:=by
 show(("int" : String) == "bool" || (("int" : String) == "bool" && ("bool" : String) == "int"))=false;decide
theorem EY:eK .Qe=true:=rfl
theorem EZ(ds:yas):eK (.tup ds)=false:=rfl
theorem EX(t:Bool)(ds:yas):eK (.lst t ds)=false:=rfl
theorem EW(i:Int):eK (.int i)=false:=rfl
def BS(i:Int):okD (.int i):=by unfold okD;rw[R9,VA]<;>first|exact⟨rfl,rfl⟩| (intros;contradiction)
def Kn:okD .Qe:=by unfold okD;rw[R9,VA]<;>first|exact⟨rfl,rfl⟩| (intros;contradiction)
def EL(a b c x y z:Int):eqD (.tup [.int a,.int b,.int c]) (.tup [.int x,.int y,.int z])=(decide (a=x) && (decide (b=y) && decide (c=z))):=by unfold eqD;simp only[R9,dF,PyData.eqv,PyData.eqvAll,Bool.and_true];rfl
noncomputable abbrev T3(a b c:Int):D:=.tup [.int a,.int b,.int c]
def CD.lit{n:Int}(h:n≠0/\n.natAbs<2 ^ 64:=by decide):CD i n:=⟨h.1,R7 h.2 (Ym (by decide) (by decide))⟩
def KR(a b:Int)(R:Int->Int->Prop):(∃i j:Int,[D.int a,D.int b]=[.int i,.int j]/\R i j)=R a b:=by lia
def KQ(a:Int)(R:Int->Prop):(∃i:Int,[D.int a]=[.int i]/\R i)=R a:=by lia
def GN{ns:yaf}{k:Int}(h0:0<=k)(b:k<ns.length):Rz (ns.map D.int) k=some (.int (ns.getD k.toNat 0)):=by
 have e:k=((k.toNat:Nat):Int):=by lia
 have a:k.toNat<ns.length:=by lia
 have q:Rz (ns.map D.int) ((k.toNat:Nat):Int)=some (.int (ns.getD k.toNat 0)):=bD (by simp[QZ,Qw a,Q2]);rw[<- e]at q;exact q
def AL{xs ys:yaf}(h:xs.map D.int=ys.map D.int):xs=ys:=by
 induction xs generalizing ys with
 |nil=>simp_all
 |cons x r ih=>cases ys with
  |nil=>simp at h
  |cons y q =>
   grind
def MA(n:Nat)(t:X7)(ds:yas)(h:ds.length=n)(ρ:Ro)(Q:Ro->Prop):t8 n t (.tup ds) ρ Q=t ds ρ Q:=by
 apply propext;unfold t8;constructor;rintro⟨WR,e,_,h⟩;rcases e with e|⟨_,e⟩;cases e;exact h;cases e;intro q;exact⟨ds,.inl rfl,h,q⟩
def gdc(g:DG)(u:X7)(x:D)(r:yas)(ρ:Ro)(Q:Ro->Prop):my g u (x::r) ρ Q=g x ρ λa=>u r a Q:=by
 apply propext;unfold my;constructor
 simp_all
 intro h;exact⟨x,r,rfl,h⟩
def gdn(ρ:Ro)(Q:Ro->Prop):t6 [] ρ Q=Q ρ:=by unfold t6;simp
def OJ(d c:DG)(a b:D)(ρ:Ro)(Q:Ro->Prop):t8 2 (my d (my c t6)) (.tup [a,b]) ρ Q=d a ρ λe=>c b e Q:=by
 (first|rw[MA 2 _ _ rfl]|rw[MA 4 _ _ rfl]);simp only[gdc,gdn]
section
variable{X:Cx}{pos:Pos}
def Rel.putG{i:Nat}{o:HO}(r:Rel X W H σ ρ)(E:i<σ.length)(c:aw H H')(g:H p=none)(C:X.K.lookup p=none)(h':H' p=some o)(G:dw X.K (λt b=>W.bad t b∨b=p) H' (W.sub σ.length i) x o) :
  Rel X ((W.drop i).put i p) H' (σ.set i (some (.ref p))) (ρ.set i (some (.ob x)))/\Qk W H ((W.drop i).put i p) H':=by
 have m:∀j a,((W.drop i).put i p).O j=some a->(j=i/\a=p)∨(j≠i/\W.O j=some a):=λj a h=>by have f:(if j=i then some p else(if j=i then none else W.O j))=some a:=h;by_cases e:j=i;rw[Pt e]at f;cases f;exact .inl ⟨e,rfl⟩;rw[Po e,Po e]at f;exact .inr ⟨e,f⟩
 have A:((W.drop i).put i p).O i=some p:=by show(if i=i then some p else _)=_;rw[Pt rfl]
 have s:∀j,j≠i->((W.drop i).put i p).O j=W.O j:=λj n=>by show(if j=i then some p else(if j=i then none else W.O j))=_;rw[Po n,Po n]
 have I:∀j k b,W.sub σ.length j k=some b->((W.drop i).put i p).sub σ.length j k=some b:=λj k b e=>(s _ (qv E)).trans e
 have B:∀t a,((W.drop i).put i p).bad t a->W.bad t a∨a=p:=λt a z=>by
  rcases z with z|⟨j,z⟩| z;exact .inl (.inl z);rcases m j a z with⟨_,q⟩| ⟨_,q⟩;exact .inr q;exact .inl (.inr (.inl ⟨j,q⟩));exact .inl (.inr (.inr z))
 have u:∀{t:Bool} {a:Addr} {e:yar},RU X.K H t a e->a≠p:=fun {t a e} q z=>by
  subst z;rcases q.1 with(q|⟨o,q⟩)|⟨o,Pp,n,q,_⟩;rw[g]at q;cases q;rw[g]at q;cases q;rw[C]at q;cases q
 have J:∀(d:D) (v:V),Den X.K W.bad H d v->Den X.K ((W.drop i).put i p).bad H' d v:=Den.map (λ_ _ q=>Ql.same c q) (λt a e n q=>⟨λz=>(B t a z).elim n (u q),q.same c⟩) (λa _ n q=>c.kp a _ q n.nt);have y:∀(w:yas) (l:yar),aj X.K W.bad H w l->aj X.K ((W.drop i).put i p).bad H' w l:=aj.map (λ_ _ q=>Ql.same c q) (λt a e n q=>⟨λz=>(B t a z).elim n (u q),q.same c⟩) (λa _ n q=>c.kp a _ q n.nt);refine⟨⟨λj d h=>?_,λj x h=>?_,λj k a f u=>?_,λj a f=>?_,λj a f=>?_,λa h=>let ⟨_,q⟩:=r.bt a h;c.ex q,λa h=>let ⟨_,q⟩:=r.st a h;c.ex q,r.ent.trans c,r.tab.same c⟩,rfl,rfl,λb o _ q n=>c.kp b o q n,λj a h=>?_,c.tb,c.ok⟩;by_cases l:j=i;subst l;rw[List.getElem?_set]at h;split at h;split at h<;>cases h
 lia
 rw[Sq (Ne.symm l)]at h;obtain⟨w,f,u⟩:=r.val j d h;exact⟨w,by rw[Sq (Ne.symm l)];exact f,J d w u⟩;by_cases l:j=i;subst l;rw[List.getElem?_set]at h;split at h;split at h;cases h;exact⟨p,_,A,by simp[E],h',by rw[XS];exact G.P4 (λt a z=>B t a z) (I _)⟩;cases h
 lia
 rw[Sq (Ne.symm l)]at h;obtain⟨a,e,f,u,i,d⟩:=r.own j x h;exact⟨a,e,(s j l).trans f,by rw[Sq (Ne.symm l)];exact u,c.kp _ _ i d.WQ.nt,by rw[XS];exact d.map y λk b q=>⟨I j k b q,λ_ z=>c _ _ z⟩⟩;rcases m j a f with⟨d,b⟩| ⟨d,b⟩<;>rcases m k a u with⟨l,i⟩| ⟨l,i⟩;rw[d,l];subst b;obtain⟨_,_,e,q,_⟩:=r.kn k _ i;rw[g]at q;cases q;subst i;obtain⟨_,_,e,q,_⟩:=r.kn j _ b;rw[g]at q;cases q;exact r.inj j k a b i;rcases m j a f with⟨d,b⟩| ⟨d,b⟩;subst b;exact⟨C,⟨λz=>(by obtain⟨o,q⟩:=r.bt _ z;rw[g]at q;cases q),λz=>(by obtain⟨o,q⟩:=r.st _ z;rw[g]at q;cases q)⟩,_,h',G.WQ⟩;obtain⟨n,l,e,k,i⟩:=r.kn j a b;exact⟨n,l,e,c.kp _ _ k i.nt,i⟩;rcases m j a f with⟨d,b⟩| ⟨d,b⟩;subst b;exact r.ent.free g;exact r.ke j a b;rcases m j a h with⟨d,b⟩| ⟨d,b⟩;subst b;exact .inr g;exact .inl ⟨j,b⟩
def Rel.We{i:Nat}(r:Rel X W H σ ρ)(e:i<σ.length)(a:aw H H')(c:H p=none)(d:X.K.lookup p=none)(h':H' p=some (.lst vs))(f:aj X.K (λt b=>W.bad t b∨b=p) H' ds vs) :
  Rel X ((W.drop i).put i p) H' (σ.set i (some (.ref p))) (ρ.set i (some (.own ds)))/\Qk W H ((W.drop i).put i p) H':=r.putG e a c d h' (.lst f)
def aj.apart{K:yac}{H:Hp}(n:H a=none)(k:K.lookup a=none)(h:aj K P H ds d)(c:NT o:=by exact True.intro):aj K (λt b=>P t b∨b=a) (L2.upd H a o) ds d :=
 aj.map (λ_ _ q=>Ql.same (aw.upd n c) q) (λt b e p q=>⟨(λz=>z.elim p λz=>by
  subst z;rcases q.1 with(q|⟨o,q⟩)|⟨o,Pp,m,q,_⟩
  all_goals lia),q.same (aw.upd n c)⟩) (λb _ m q=>(aw.upd n c).kp b _ q m.nt) ds d h
def Rel.mutG{i:Nat}{a:Addr}{o:HO}(r:Rel X W H σ ρ)(d:ρ[i]?=some (some (.ob x)))(f:W.O i=some a)(B:σ[i]?=some (some (.ref a)))(m:H a=some o)(g:jA o)(l:dw X.K W.bad H (W.sub σ.length i) x' o') :
  Rel X W (L2.upd H a o') σ (ρ.set i (some (.ob x')))/\Qk W H W (L2.upd H a o'):=by
 have h:∀t,W.bad t a:=λ_=>.inr (.inl ⟨i,f⟩)
 have A:∀b c,Ql X.K H b c->Ql X.K (L2.upd H a o') b c:=λb c q=>q.imp (λq=>by rw[aC (qP q m (by intro z;subst z;exact g))];exact q) id
 have x:∀t b c,¬W.bad t b->RU X.K H t b c->¬W.bad t b/\RU X.K (L2.upd H a o') t b c:=λt b c n q=>by
  have s:b≠a:=λe=>n (e ▸ h t)
  refine⟨n,?_,λz=>⟨by rw[aC s];exact(q.2 z).1,(q.2 z).2⟩⟩;rcases q.1 with(q|⟨u,q⟩)|q;exact .inl (.inl (by rw[aC s];exact q));exact .inl (.inr ⟨u,by rw[aC s];exact q⟩);exact .inr q
 have t:∀b u,Xl u->H b=some u->L2.upd H a o' b=some u:=λb u n q=>by rw[aC (qP q m (by intro z;subst z;exact g.sol n))];exact q
 have C:i<ρ.length:=(RQ.mp d).1;have h:i<σ.length:=(RQ.mp B).1;have n:∀j k b,W.sub σ.length j k=some b->W.sub σ.length j k=some b/\∀d,H b=some (.lst d)->L2.upd H a o' b=some (.lst d):=λj k b q=>⟨q,λd z=>by rw[aC (λe=>qv h (r.inj _ _ a (by rw[<- e];exact q) f))];exact z⟩
 have w:∀b u,H b=some u->∃d,L2.upd H a o' b=some d:=λb u q=>by by_cases p:b=a;subst p;exact⟨_,aJ⟩;exact⟨u,by rw[aC p];exact q⟩
 refine⟨⟨λj d h=>?_,λj y h=>?_,r.inj,λj b k=>?_,r.ke,λb k=>let ⟨u,q⟩:=r.bt b k;w b u q,λb k=>let ⟨u,q⟩:=r.st b k;w b u q,r.ent.ins (r.ke i a f) m g l.WQ.nt,r.tab.upd l.WQ.nt (.inr ⟨o,m,g.ne,g.nt⟩)⟩,Qk.upd f m g l.WQ.nt⟩;by_cases g:j=i;subst g;rw[V4 C]at h;cases h;rw[Sq (Ne.symm g)]at h;obtain⟨w,m,o⟩:=r.val j d h;exact⟨w,m,Den.map A x t d w o⟩;by_cases g:j=i;subst g;rw[V4 C]at h;cases h;exact⟨a,o',f,B,aJ,l.map (aj.map A x t) (n _)⟩;rw[Sq (Ne.symm g)]at h;obtain⟨b,c,m,o,q,d⟩:=r.own j y h;have s:b≠a:=λe=>g (r.inj j i a (by rw[<- e];exact m) f)
 exact⟨b,c,m,o,by rw[aC s];exact q,d.map (aj.map A x t) (n _)⟩;obtain⟨g,f,c,e,d⟩:=r.kn j b k;refine⟨g,f,?_⟩;by_cases p:b=a;subst p;exact⟨_,aJ,l.WQ⟩;exact⟨c,by rw[aC p];exact e,d⟩
def Rel.WQ{i:Nat}{a:Addr}(r:Rel X W H σ ρ)(f:ρ[i]?=some (some (.own ds)))(c:W.O i=some a)(b:σ[i]?=some (some (.ref a)))(e:H a=some (.lst vs))(d:aj X.K W.bad H WR vs') :
  Rel X W (L2.upd H a (.lst vs')) σ (ρ.set i (some (.own WR)))/\Qk W H W (L2.upd H a (.lst vs')):=r.mutG f c b e True.intro (.lst d)
variable{es:yai}{t:DA}
def LV(i:Nat)(t:DA):DS:=λE a=>t a λb=>b.length<=sizeLine/\E.nx (a.set i (some (.own b)))
def fY{x:Str}(i:Nat)(n:X.N.Nodup)(h:Uo X es t)(j:X.N[i]?=some x:=by rfl)(l:Loc X.env.scope x:=by first|exact Or.inl rfl|exact Or.inr rfl)
  (hs:swapsWith (.List es YJ) (some (.Name x pos')) pos.line X.env=pure false:=by rfl) (m:X.fn x=true∨X.env.scope.names.lookup x=some .local:=by first|exact .inl rfl|exact .inr rfl|assumption) :
  Sf X (.Assign [.Name x pos'] (.List es YJ) pos) (LV i t):=by
 intro a s b H W c E I r d;refine zC7 (wpAny_List_spliced (Px (h YJ a s b H W c _ I r d) λk d a=>?_)) hs;obtain⟨f,b,y,c,g,i,h,z,q⟩:=a;rw[<- h.len]at z;refine⟨by rw[<- g.length];exact z,?_⟩;have a:b d.heap.objs.size=none:=c.PW.fresh (Qu _);have p:=c.laid (o:=.lst f) (t':=d.toks) (λb u e=>QN _ e) (Qu _) ⟨z,k,0,g,Sv _ rfl⟩;have b:=(r.same i).We (Inv.Vb c j) (aw.upd (o:=.lst f) a) a (Inv.Sg c) aJ (aj.apart a (Inv.Sg c) h);exact c8 (v:=.ref d.heap.objs.size) p n j l rfl (λw a=>⟨_,_,_,a,(Qk.same i).trans b.2,_,b.1,q⟩) m
def Bl(i:Nat)(te:DE):DS:=λE a=>∃b,a[i]?=some (some (.own b))/\te a λd=>b.length<sizeLine/\E.nx (a.set i (some (.own (b++[d]))))
def jd{x:Str}{a:Pos}(i:Nat)(f:P5 X e te)(d:X.N[i]?=some x:=by rfl)(c:WM X.env.scope x:=by first|exact Or.inl rfl|exact Or.inr (Or.inl rfl)|exact Or.inr (Or.inr rfl))
  (g:(x==("__debug__" : Str))=false:=by decide) (k:(x==("__classdict__" : Str))=false:=by decide)
  (m:attributeBase (.Name x px) "append" X.env (eval (.Name x px) X.env)=eval (.Name x px) X.env:=by rfl)
  (h:((backTo cpos (starEach [e] X.env)).all (λx=>!x.1) && (backToKw cpos (keywordEach [] X.env)).all (λx=>x.1.isSome) && decide ([e].length+([]:List Keyword).length+(if([]:List Keyword).isEmpty then 0 else 1)<30))=true:=by rfl)
  (l:(a.endLine==cpos.line)=true:=by rfl) (b:starEach [e] X.env=(false,eval e X.env)::starEach [] X.env:=by rfl) (j:(backTo cpos (starEach [] X.env)).any (·.1)=false:=by rfl)
  (hs:swapsWith (.Call (.Attribute (.Name x px) "append" a) [e] [] cpos) none pos.line X.env=pure false:=by rfl) :
  Sf X (.Expr (.Call (.Attribute (.Name x px) "append" a) [e] [] cpos) pos) (Bl i te):=by
 have a:=ku (pos:=pos) (Ds PySem.F.plainAttrs_list PySem.F.slot_list_append PySem.F.type_list_append pL (fg d c g k) (gR f.pe mG b) m h l b j) hs;refine Sf.of a λn H W b E r o h=>?_
 obtain⟨d,g,h⟩:=h;obtain⟨a,c,j,e,f,l⟩:=r.pN i d g;refine⟨.ref a,e,.inl ⟨rfl,_,SqL.of f⟩,W,b,_,r,h,λv H' d b k q=>?_⟩;obtain⟨z,q⟩:=q;have d:=b _ _ f;have h:=r.same b;have f:=l.same b;refine⟨a,c,v,rfl,rfl,d,by rw[f.len];exact z,?_⟩;obtain⟨a,i⟩:=h.WQ (vs':=c++[v]) g j e d (f.append (aj.one k));exact⟨W,_,(Qk.same b).trans i,a,q⟩
def Rel.freeze{X:Cx}{i:Nat}(r:Rel X W H σ ρ)(e:ρ[i]?=some (some (.own ds))):Rel X (W.drop i) H σ (ρ.set i (some (.val (.lst true ds)))):=by
 obtain⟨a,l,b,c,g,h⟩:=r.pN i ds e;have f:i<σ.length:=(RQ.mp c).1;have X9:i<ρ.length:=(RQ.mp e).1;have e:¬(W.drop i).bad true a:=λz=>by
  rcases z with z|⟨j,z⟩| ⟨_,z⟩
  rotate_right
  exact(r.kn i a b).2.1.2 z;exact(r.kn i a b).2.1.1 z;have c:(if j=i then none else W.O j)=some a:=z;by_cases d:j=i
  lia
  rw[Po d]at c;exact d (r.inj j i a c b)
 have m:Den X.K (W.drop i).bad H (.lst true ds) (.ref a):=Den.lst e (.new g (r.kn i a b).1) (h.P4 λ_ _=>Own.Qq);refine⟨λj x h=>?_,λj x h=>?_,λj k b a d=>?_,λj b a=>?_,λj b a=>?_,r.bt,r.st,r.ent,r.tab⟩;by_cases c:j=i
 simp_all
 rw[Sq (Ne.symm c)]at h;obtain⟨w,a,d⟩:=r.val j x h;exact⟨w,a,d.P4 λ_ _=>Own.Qq⟩;by_cases c:j=i
 simp_all
 rw[Sq (Ne.symm c)]at h;obtain⟨b,c,a,d,g,e⟩:=r.own j x h;exact⟨b,c,by show(if j=i then none else W.O j)=_;lia,d,g,e.P4 (λ_ _=>Own.Qq) (Own.SU f)⟩;have c:(if j=i then none else W.O j)=some b:=a;have e:(if k=i then none else W.O k)=some b:=d;by_cases d:j=i
 lia
 by_cases f:k=i
 lia
 rw[Po d]at c;rw[Po f]at e;exact r.inj j k b c e;have c:(if j=i then none else W.O j)=some b:=a;by_cases d:j=i
 lia
 rw[Po d]at c;exact r.kn j b c;have c:(if j=i then none else W.O j)=some b:=a;by_cases d:j=i
 lia
 rw[Po d]at c;exact r.ke j b c
def Bo(i:Nat)(t:DS):DS:=λE a=>∃b,a[i]?=some (some (.own b))/\t E (a.set i (some (.val (.lst true b))))
def cK{t:DS}(i:Nat)(h:c6 X sts t):c6 X sts (Bo i t):=by intro a s c H W d E I r b;obtain⟨f,e,b⟩:=b;exact Px (h a s c H (W.drop i) _ E I (r.freeze e) b) λ_ _ z=>z.up (Qk.drop W H i)
end
noncomputable def et(env:Env)(ns:yah):List (Str×Addr):=ns.filterMap λn=>(env.cells.lookup n).map λc=>(n,c)
theorem mX:∀{ns:yah} {x:Str} {c:Addr},(et env ns).lookup x=some c->env.cells.lookup x=some c
 |[],_,_,h=>by cases h
 |n::r,x,c,h=>by
  unfold et at h;rw[zDK]at h;cases e:env.cells.lookup n with
  |none =>
   rw[e]at h;exact mX (ns:=r) h
  |some b =>
   rw[e]at h;have a:List.lookup x ((n,b)::et env r)=some c:=h;rw[zDF]at a;cases q:x==n with
   |true =>
    lia
   |false =>
    rw[q]at a;exact mX (ns:=r) a
theorem rR{env:Env}:∀{ns:yah} {x:Str} {c:Addr},x∈ns->env.cells.lookup x=some c->(et env ns).lookup x=some c
 |[],_,_,h,_=>by cases h
 |n::r,x,c,h,e=>by
  unfold et;rw[zDK];by_cases a:x=n;subst a;rw[e];show List.lookup x ((x,c)::_)=some c;simp[zDF];have b:x∈r:=by
   rcases Qg.mp h with z|z;exact absurd z a;exact z
  have ih:=rR (ns:=r) b e;cases q:env.cells.lookup n with
  |none=>exact ih
  |some b =>
   show List.lookup x ((n,b)::et env r)=some c;rw[zDF];have:(x==n)=false:=by simpa using a
   rw[this];exact ih
structure YK(osc sc:Scope)(xs ns:yah):Prop where
 kind:sc.kind=.function
 Xr:∀y∈sc.names,y.2 ≠ .cell
 names:∀y∈sc.names,y.2=.local->sc.names.lookup y.1=some .local
 tgt:∀x∈xs,sc.names.lookup x=some .local
 free:∀y∈sc.names,y.2=.free->y.1∈ns/\osc.names.lookup y.1=some .cell
 cells:∀n∈ns,sc.names.lookup n=some .free/\osc.names.lookup n=some .cell
 nd:(xs++ns).Nodup
def bI(X:Cx)(a:Scope)(ns xs:yah)(C:Addr)(d:Shared)(e:Hp)(b:yae)(c:yaa):Cx :=
 {X with N:=xs++ns,P7:=d,Qj:=e,env:=compEnvC a (et X.env ns) C X.env,outer:=X.stack,stack:=X.stack,ex:=b,fn:=λ_=>false,pn:=[],xe:=c}
theorem mH{env:Env}(b:env.scope.kind=.function):∀{a:List (Str×NameKind)} {n:Str},a.lookup n=some .free->env.kindOf n=some .cell →
  (a.map λ(n,k)=>if(k==NameKind.free && env.scope.kind==.function && env.kindOf n==some .cell)then(n,NameKind.cell)else(n,k)).lookup n=some .cell
 |[],_,h,_=>by simp at h
 |(m,k)::r,n,h,c=>by have ih:=@mH env b r n;grind
theorem lV{env:Env}:∀{a:List (Str×NameKind)} {n:Str} {k:NameKind},
  (a.map λ(n,k)=>if(k==NameKind.free && env.scope.kind==.function && env.kindOf n==some .cell)then(n,NameKind.cell)else(n,k)).lookup n=some k->(k=.cell∨k=.free) →
  (∃y∈a,y.1=n/\y.2=.free)∨∃ y∈a,y.1=n/\y.2=.cell
 |[],_,_,h,_=>by simp at h
 |(m,j)::r,n,k,h,d=>by
  have a:List.lookup n ((if(j==NameKind.free && env.scope.kind==.function && env.kindOf m==some .cell)=true then(m,NameKind.cell)else(m,j))::(r.map λ(n,k)=>if(k==NameKind.free && env.scope.kind==.function && env.kindOf n==some .cell)then(n,NameKind.cell)else(n,k)))=some k:=h;have c:((∃y∈r,y.1=n/\y.2=.free)∨∃ y∈r,y.1=n/\y.2=.cell)->((∃y∈(m,j)::r,y.1=n/\y.2=.free)∨∃ y∈(m,j)::r,y.1=n/\y.2=.cell):=by grind
  cases hx:n==m with
  |true =>
   have e:n=m:=by simp_all
   by_cases b:(j==NameKind.free && env.scope.kind==.function && env.kindOf n==some .cell)=true
   simp_all
   grind
  |false =>
   by_cases b:(j==NameKind.free && env.scope.kind==.function && env.kindOf m==some .cell)=true;rw[Pt b]at a;simp only[zDF,hx]at a;exact c (lV a d);rw[Po b]at a;simp only[zDF,hx]at a;exact c (lV a d)
def bJ(ρ:Ro)(j:Nat):Option Sl:=match ρ[j]? with
 |some (some (.val d))=>some (.val d)
 |_=>none
def kH(a:St)(j:Nat):Option V:=match a[j]? with
 |some (some v)=>some v
 |_=>none
section
variable{X:Cx}{pins:yab}{σ:St}{H:Hp}{s:Shared}{sc:Scope}{ns:yah}{js:yag}{xs:yah}{fp:yae}
def Inv.comp{t:Shared}{B:Hp}{C:Addr}(I:Inv X pins σ H s)(S:YK X.env.scope sc xs ns)(Y:js.length=ns.length/\∀(i:Nat) (j:Nat) (n:Str),js[i]?=some j->ns[i]?=some n->X.N[j]?=some n)(T:∀b∈fp,eU X pins H b)(N:∀b∈fp,∃o,s.heap.get? b=some o)(hC:s.heap.objs.size<=C)
  (Yv:t.os=s.os) (hg:AllBare t.gens) (A:∀b o,s.heap.get? b=some o->t.heap.get? b=some o) (UA:t.heap.Ns C λ_=>none) (Z9:B C=none) (hs:aw H B) (a:∀b o,s.heap.get? b=some o->H b=none->B b=none) (PW:R8 X.prog X.w B t.heap) :
  Inv (bI X sc ns xs C s H fp XE) [] (List.replicate xs.length none++js.map (kH σ)) B t:=by
 have kd:X.env.scope.kind=.function:=I.ok.kind;have E:∀y c,(et X.env ns).lookup y=some c->X.env.cells.lookup y=some c:=λy c e=>mX e
 have g:∀y c,(et X.env ns).lookup y=some c->∃v,s.heap.IsCell c v:=λy c e=>I.cell y c (E y c e)
 refine⟨⟨I.ok.mod,S.kind,I.ok.glob,I.ok.blt,hC,λy z c f d=>I.ok.inj y z c (E y c f) (E z c d),λy x=>?_,λy c h _=>(by cases h),I.ok.hd,I.ok.frames,.inl rfl,λb l=>?_,I.bs,QM I.ok.Zg I.sz,λb o e l=>?_,λb l z=>?_,I.stack,I.UL⟩,
  Yv,hg,⟨λb o e n _ _=>A b o e,λb o e n _ _=>⟨o.slots,A b o e⟩,λb o e n _=>a b o e n,λb o e _=>⟨o,A b o e⟩,λb xs e=>hs b _ e,λb o u e=>hs b _ e,λb h e=>hs.tb b h e⟩,⟨_,UA,λi y v f d h3=>?_⟩,λy c e=>?_,Z9,λy c e=>?_,λp h=>absurd (show p∈([]:yab)from h) (by simp),PW,?_⟩
 -- every cell of the block is one of the body's
 have VM:∃k,((relabel sc X.env).names.lookup y=some k)/\(k=.cell∨k=.free):=by
  rcases x with x|x;exact⟨_,x,.inl rfl⟩;exact⟨_,x,.inr rfl⟩
 obtain⟨k,f,d⟩:=VM;rcases lV (env:=X.env) f d with⟨z,L,J,O⟩| ⟨z,L,J,O⟩;obtain⟨m1,m2⟩:=S.free z L O;subst J;obtain⟨c,hc⟩:=I.ok.has z.1 (.inl m2);exact⟨c,rR m1 hc⟩;exact absurd O (S.Xr z L);refine⟨λz=>?_,λy c e z=>?_⟩;have z':b=C:=z;obtain⟨o,h⟩:=N b l;have R6:=Qp h;rw[z']at R6;exact absurd (R7 R6 hC) (Xa _);exact(T b l).2.2.2.2.1 y c (E y c e) z;obtain⟨f0,f1,f2,p,f4,f5⟩:=T b l;rcases p with p|p;exact I.ok.VG b o e p;exact absurd (R7 (Qp (I.ok.bs b o e).1) p) (Xa _);obtain⟨f0,f1,f2,p,f4,f5⟩:=T b l;rcases Qg.mp (I.TJ b z)with e|e;exact f1 e;exact f2 e;by_cases M:i<xs.length;rw[V2 (by simpa using M),zCu,Pt M]at d;cases d;have U:ns[i - xs.length]?=some y:=by have f:(xs++ns)[i]?=some y:=f;rw[Wy (by lia)]at f;exact f
 have r:(js.map (kH σ))[i - xs.length]?=some (some v):=by rw[Wy (by simpa using M)]at d;simpa using d
 generalize i - xs.length=i at U r;rw[QZ]at r;cases e:js[i]? with
 |none=>rw[e]at r;cases r
 |some j =>
  rw[e]at r;have G:kH σ j=some v:=Uy r;have h5:σ[j]?=some (some v):=by unfold kH at G;split at G;rename_i u q;cases G;exact q;cases G
  have hN:=Y.2 i j y e U;have w:y∈ns:=Rt U;obtain⟨c1,Q⟩:=S.cells y w;obtain⟨m,hm,hl⟩:=I.loc;obtain⟨u,ru,lk⟩:=hl j y v hN h5 (.inr (.inl Q));refine⟨u,ru,?_⟩;rcases lk with⟨k1,_⟩| ⟨_,c,J,o,h,m⟩;have UR:X.env.scope.names.lookup y=some .local:=k1;rw[Q]at UR;cases UR;exact .inr ⟨.inl (mH kd c1 Q),c,rR w J,o,A c o h,m⟩
 obtain⟨v,z⟩:=g y c e;obtain⟨o,h,m⟩:=z;exact⟨v,o,A c o h,m⟩;obtain⟨v,o,h,m⟩:=g y c e;exact a c o h (I.Rx y c (E y c e));show(List.replicate xs.length none++js.map (kH σ)).length=(xs++ns).length;simp[Y.1]
def YL(X:Cx)(a:yai)(t:DT):Prop :=
 ∀ (pins:yab) (s:Shared) (σ:St) (H:Hp) (W:Own) (b:Ro) (Q:Bool->Prop),Inv X pins σ H s->Rel X W H σ b->t b Q →
  wpAny (model X.prog X.w) X.A (forIn a true λc r=>if r=true then do let ok←isTrue c X.env (eval c X.env);pure (ForInStep.yield ok)else pure (ForInStep.yield r)) (DTP X pins σ H Q) X.xe s
def yD:DT:=λ_ Q=>Q true
def bF{X:Cx}:YL X [] yD:=λ_ s σ H W a Q I r h=>wpAny_tests_nil ⟨H,I,aw.refl H,h⟩
def uO{X:Cx}(h:Va X c t):YL X [c] t:=λpins s σ H W a Q I r q=>wpAny_tests_one (h pins s σ H W a Q I r q)
def kA(n:Nat)(b ρ:Ro):Prop:=∃a:Ro,a.length=n/\ρ=a++b
def Er{s:Shared}{R:Result->Shared->Prop}{g:Expr}{i:Value}(I:Nat->Shared->Prop)
  (b:∀n s,I n s->wpAny (model prog w) A (pyNext it) (λr k=>match r with
   |none=>R (.ok .next) k
   |some v=>wpAny (model prog w) A (letOwnedTupleGo target it v) (λ_ a=>wpAny (model prog w) A (assign target env v) (λ_ o =>
     wpAny (model prog w) A (forIn ifs true λc r=>if r=true then do let f←isTrue c env (eval c env);pure (ForInStep.yield f)else pure (ForInStep.yield r)) (λf j=>if f=true then wpAny (model prog w) A (eval elt env) (λx l =>
       wpAny (model prog w) A (call (.builtin "list.append") [i,x]) (λ_ d=>∃m,m<n/\I m d) (notedBy (model prog w) A env λe z=>R (.error e) z) l) (notedBy (model prog w) A env λe z=>R (.error e) z) j
      else∃m,m<n/\I m j) (notedBy (model prog w) A env λe z=>R (.error e) z) o) (notedBy (model prog w) A env λe z=>R (.error e) z) a) (notedBy (model prog w) A env λe z=>R (.error e) z) k) (notedBy (model prog w) A env λe z=>R (.error e) z) s)
  (n:Nat) (h:I n s):codeAny (model prog w) A (.compLoop (.ListComp elt [⟨target,g,ifs,0⟩] scope pos) 0 it i env) R s:=by
 refine codeAny_loop rfl I (λm z a=>?_) n h;refine wpAny_noted ?_;rw[compTurn_list];refine Pk (wpAny_standAt (Pk (Tv (b m z a) (λr E a=>?_) λ_ _ q=>q)));cases r with
 |none=>exact wpAny_pure a
 |some v =>
  refine Pk (Tv a (λ_ C a=>?_) λ_ _ q=>q);refine Pk (Tv a (λ_ B g3=>Pk (Tv g3 (λf u a=>?_) λ_ _ q=>q)) λ_ _ q=>q);cases f with
  |false=>exact wpAny_pure ⟨rfl,a⟩
  |true=>exact Pk (Pk (Tv a (λy t a=>Pk (Tv a (λ_ p a=>wpAny_pure (wpAny_pure ⟨rfl,a⟩)) λ_ _ q=>q)) λ_ _ q=>q))
def Rel.mutB{X:Cx}{H:Hp}{σ:St}(r:Rel X W H σ ρ)(g:W.B a)(f:H a=some (.lst vs))(h0:X.Qj a=none) :
  Rel X W (L2.upd H a (.lst vs')) σ ρ/\∀ds i,aj X.K W.bad H ds i->aj X.K W.bad (L2.upd H a (.lst vs')) ds i:=by
 have m:∀b c,Ql X.K H b c->Ql X.K (L2.upd H a (.lst vs')) b c:=λb c q=>q.imp (λq=>by rw[aC (qP q f (by intro z;cases z))];exact q) id
 have l:∀t b c,¬W.bad t b->RU X.K H t b c->¬W.bad t b/\RU X.K (L2.upd H a (.lst vs')) t b c:=λt b c n q=>by
  have c:b≠a:=λe=>n (.inl (e ▸ g))
  refine⟨n,?_,λz=>⟨by rw[aC c];exact(q.2 z).1,(q.2 z).2⟩⟩;rcases q.1 with(q|⟨o,q⟩)|q;exact .inl (.inl (by rw[aC c];exact q));exact .inl (.inr ⟨o,by rw[aC c];exact q⟩);exact .inr q
 have k:∀b u,Xl u->H b=some u->L2.upd H a (.lst vs') b=some u:=λb u n q=>by rw[aC (qP q f (by intro z;subst z;exact n))];exact q
 have c:∀b o,H b=some o->∃d,L2.upd H a (.lst vs') b=some d:=λb o q=>by by_cases d:b=a;subst d;exact⟨_,aJ⟩;exact⟨o,by rw[aC d];exact q⟩
 refine⟨⟨λj d h=>?_,λj y h=>?_,r.inj,λj b a=>?_,r.ke,λb a=>let ⟨o,q⟩:=r.bt b a;c b o q,λb a=>let ⟨o,q⟩:=r.st b a;c b o q,r.ent.ins h0 f True.intro True.intro,r.tab.upd True.intro (.inr ⟨_,f,(λ_ z=>by cases z),True.intro⟩)⟩,aj.map m l k⟩;obtain⟨v,c,f⟩:=r.val j d h;exact⟨v,c,Den.map m l k d v f⟩;obtain⟨b,o,c,f,n,d⟩:=r.own j y h;exact⟨b,o,c,f,by rw[aC (λe=>(r.kn j b c).2.1.1 (by rw[e];exact g))];exact n,d.map (aj.map m l k) λk c q=>⟨q,λi z=>by rw[aC (λe=>(r.kn _ c q).2.1.1 (by rw[e];exact g))];exact z⟩⟩;obtain⟨h,c,o,f,d⟩:=r.kn j b a;exact⟨h,c,o,by rw[aC (λe=>c.1 (by rw[e];exact g))];exact f,d⟩
def Dh(X:Cx)(sc:Scope)(ns:yah)(RR:Value->Addr->Result->Shared->Prop)(D C:Addr):yaa:=notedBy (model X.prog X.w) X.A (compEnvC sc (et X.env ns) C X.env) λe a=>RR (.ref D) C (.error e) a
def eJ.no{X:Cx}:eJ X λ_=>False:=λ_ _ _ _ _ _ _ _ _ _ h=>by obtain⟨_,_,_,_,_,_,_,_,_,_,_,_,_,z⟩:=h;exact z.elim
end
abbrev DM:=Ro->(LI->Prop)->Prop
def Oz(K:yac)(P:yak)(H H':Hp):LI->V->Prop
 |.own d,v=>∃a c,v=.ref a/\H a=none/\K.lookup a=none/\H' a=some (.lst c)/\aj K (λt b=>P t b∨b=a) H' d c
 |.val d,v=>Den K P H' d v
inductive MDP (X:Cx) (pins:yab) (σ:St) (W:Own) (H:Hp) (Q:LI->Prop) (u:Value) (s':Shared):Prop
 |mk (v:V) (H':Hp) (li:LI) (_:Inv X pins σ H' s') (_:RelV v u) (_:aw H H') (_:Oz X.K W.bad H H' li v) (_:Q li)
def PEM(X:Cx)(e:Expr)(t:DM):Prop :=
 ∀ (a:yab) (s:Shared) (b:St) (H:Hp) (W:Own) (c:Ro) (Q:LI->Prop),Inv X a b H s->Rel X W H b c->t c Q →
  wpAny (model X.prog X.w) X.A (eval e X.env) (MDP X a b W H Q) X.xe s
structure iD(K:yac)(H:Hp)(D:Addr)(n:Nat)(bs:yaj):Prop where
 ok:∀k b,bs k=some b->k<n/\H b=none/\K.lookup b=none/\b≠D
 inj:∀k l b,bs k=some b->bs l=some b->k=l
def iD.nil{K:yac}{H:Hp}{D:Addr}{n:Nat}:iD K H D n λ_=>none:=⟨by lia,by lia⟩
def iD.up{K:yac}{H:Hp}{D:Addr}{n m:Nat}{bs:yaj}(h:iD K H D n bs)(l:n<=m):iD K H D m bs:=⟨λk b q=>let ⟨a,r⟩:=h.ok k b q;⟨R7 a l,r⟩,h.inj⟩
def iD.put{K:yac}{H:Hp}{D a:Addr}{c:List LI}{x:LI}{bs:yaj}(h:iD K H D c.length bs)(n:H a=none)(k:K.lookup a=none)(d:a≠D)(f:∀k,bs k=some a->False) :
  iD K H D (c++[x]).length λk=>if k=c.length then some a else bs k:=⟨λl b q=>by
  rw[Sw,zC9];by_cases e:l=c.length;rw[Pt e]at q;cases q;exact⟨by lia,n,k,d⟩;rw[Po e]at q;obtain⟨i,a⟩:=h.ok l b q;exact⟨by lia,a⟩,λl m b d a=>by
  by_cases g:l=c.length;by_cases e:m=c.length;rw[g,e];rw[Pt g]at d;rw[Po e]at a;cases d;exact(f m a).elim;by_cases e:m=c.length;rw[Po g]at d;rw[Pt e]at a;cases a;exact(f l d).elim;rw[Po g]at d;rw[Po e]at a;exact h.inj l m b d a⟩
section
variable{K:yac}{P:yak}{H:Hp}{B:yaj}
theorem bC.TM(f:Den K P H d v):∀{k:Nat} {xs:List LI} {vs:yar},bC K P H B k xs vs->bC K P H B k (xs++[.val d]) (vs++[v])
 |k,[],_,h=>by subst h;simp only[WJ,bC];simp_all
 |k,.own i::r,_,h=>by obtain⟨b,d,u,rfl,c,a,g,e⟩:=h;exact⟨b,d,_,rfl,c,a,g,bC.TM f e⟩
 |k,.val e::r,_,h=>by obtain⟨w,u,rfl,c,a⟩:=h;exact⟨w,_,rfl,c,bC.TM f a⟩
theorem bC.TN{a:Addr}:∀{k:Nat} {xs:List LI} {vs:yar},bC K P H B k xs vs->B (k+xs.length)=some a->H a=some (.lst ws)->aj K P H ds ws->bC K P H B k (xs++[.own ds]) (vs++[.ref a])
 |k,[],_,h,f,d,c=>by subst h;exact⟨a,ws,[],rfl,by simp_all,d,c,rfl⟩
 |k,.own l::r,_,h,f,d,c=>by obtain⟨b,e,u,rfl,g,a,j,i⟩:=h;exact⟨b,e,_,rfl,g,a,j,bC.TN i (by rw[<- f];congr 1;simp;lia) d c⟩
 |k,.val e::r,_,h,f,d,c=>by obtain⟨w,u,rfl,g,a⟩:=h;exact⟨w,_,rfl,g,bC.TN a (by rw[<- f];congr 1;simp;lia) d c⟩
end
section
variable{X:Cx}
def Rel.ban{o:HO}(r:Rel X W H σ ρ)(c:aw H H')(y:H p=none)(A:X.K.lookup p=none)(h':H' p=some o) :
  Rel X ⟨λb=>W.B b∨b=p,W.O,W.S⟩ H' σ ρ/\∀ds vs,aj X.K W.bad H ds vs->aj X.K (Own.bad ⟨λb=>W.B b∨b=p,W.O,W.S⟩) H' ds vs:=by
 have i:∀t a,Own.bad ⟨λb=>W.B b∨b=p,W.O,W.S⟩ t a->W.bad t a∨a=p:=λt a z=>by
  rcases z with(z|z)|z|z;exact .inl (.inl z);exact .inr z;exact .inl (.inr (.inl z));exact .inl (.inr (.inr z))
 have h:∀{t:Bool} {a:Addr} {e:yar},RU X.K H t a e->a≠p:=fun {t a e} q z=>by
  rcases q.1 with(q|⟨o,q⟩)|⟨o,Pp,n,q,_⟩
  all_goals lia
 have m:∀(d:D) (v:V),Den X.K W.bad H d v->Den X.K (Own.bad ⟨λb=>W.B b∨b=p,W.O,W.S⟩) H' d v:=Den.map (λ_ _ q=>Ql.same c q) (λt a e n q=>⟨λz=>(i t a z).elim n (h q),q.same c⟩) (λa _ n q=>c.kp a _ q n.nt);have g:∀(ds:yas) (f:yar),aj X.K W.bad H ds f->aj X.K (Own.bad ⟨λb=>W.B b∨b=p,W.O,W.S⟩) H' ds f:=aj.map (λ_ _ q=>Ql.same c q) (λt a e n q=>⟨λz=>(i t a z).elim n (h q),q.same c⟩) (λa _ n q=>c.kp a _ q n.nt);refine⟨⟨λj d h=>?_,λj x h=>?_,r.inj,λj a f=>?_,r.ke,λa h=>?_,λa h=>let ⟨_,q⟩:=r.st a h;c.ex q,r.ent.trans c,r.tab.same c⟩,g⟩;obtain⟨w,f,i⟩:=r.val j d h
 simp_all
 obtain⟨a,e,f,i,k,d⟩:=r.own j x h;exact⟨a,e,f,i,c.kp _ _ k d.WQ.nt,d.map g λl b q=>⟨q,λ_ z=>c _ _ z⟩⟩;obtain⟨g,⟨u,s⟩,e,d,b⟩:=r.kn j a f;exact⟨g,by lia,e,c.kp _ _ d b.nt,b⟩;rcases h with h|h;obtain⟨_,q⟩:=r.bt a h;exact c.ex q;grind
end
section
variable{X:Cx}{pins:yab}{σ:St}{H:Hp}{s:Shared}{sc:Scope}{ns:yah}{js:yag}{xs:yah}{fp:yae}
def Wt(X:Cx)(sc:Scope)(ns xs:yah)(cl:List (Str×Addr))(fn:Str->Bool)(C:Addr)(b:Shared)(c:Hp)(fp:yae)(a:yaa):Cx :=
 {X with N:=xs++ns,P7:=b,Qj:=c,env:=compEnvC sc cl C X.env,outer:=X.stack,stack:=X.stack,ex:=fp,fn:=fn,pn:=[],xe:=a}
def fJ(X:Cx)(sc:Scope)(cl:List (Str×Addr))(RR:Value->Addr->Result->Shared->Prop)(D C:Addr):yaa:=notedBy (model X.prog X.w) X.A (compEnvC sc cl C X.env) λe a=>RR (.ref D) C (.error e) a
inductive CLI (K:yac) (Y:Cx) (H:Hp) (fp:yae) (Ad:Addr) (ds:yas) (W':Own) (tn:Nat->Heap->Prop) (m:Nat) (cp:Ro) (Pv:Nat->List LI->Prop) (n:Nat) (s':Shared):Prop
 |mk (i:Nat) (W2:Own) (VI:St) (RL:Ro) (H':Hp) (out:List LI) (vs:yar) (bs:yaj) (_:n=ds.length - i) (_:i<=ds.length) (_:Inv Y [] VI H' s') (_:tn i s'.heap) (_:∀b∈fp,H' b=none) (_:H' Ad=some (.lst vs)) (_:W2.B=(λa=>W'.B a∨∃ k,bs k=some a)/\W2.S=W'.S) (_:iD K H Ad out.length bs) (_:∀k b,bs k=some b->∃us,H' b=some (.lst us)) (_:bC K W2.bad H' bs 0 out vs) (_:aw H H') (_:Rel Y W2 H' VI RL) (_:kA m cp RL) (_:Pv i out) (_:out.length<=i)
set_option tactic.hygienic true in
def Et{G:Expr}{R5:Heap}(hc:X.calm=true)
  (he:PEM (Wt X sc ns xs cl fn C s H fp (fJ X sc cl RR w C)) elt te) (ht:YL (Wt X sc ns xs cl fn C s H fp (fJ X sc cl RR w C)) ifs tc) (hg:X6 (Wt X sc ns xs cl fn C s H fp (fJ X sc cl RR w C)) tg g) (I:Inv X pins σ H s) (r:Rel X W H σ ρ) (T:Turn X.prog X.w X.K tg J fp it tn) (st:tn 0 s.heap) (WS:∀b∈fp,eU X pins H b) (yd:YD X.K W H J ds) (hz:ds.length<=sizeLine)
  (Pv:Nat->List LI->Prop) (p0:Pv 0 []) (step:∀j d f h,ds[j]?=some d->Pv j f->kA xs.length (js.map (bJ ρ)) h->g d h λQ=>kA xs.length (js.map (bJ ρ)) Q/\tc Q λb=>if b=true then te Q (λe=>Pv (j+1) (f++[e]))else Pv (j+1) f)
  (hRR:∀(a:Shared) (H':Hp) (i:yam) (f:List LI) (bs:yaj),Inv X pins σ H' a->aw H H'->a.heap.Ns C i->H' C=none->C≠X.env.locals->X.P7.heap.objs.size<=C->(∀y c,X.env.cells.lookup y=some c->c≠C)->(∀p∈X.pn++pins,p.1≠C) →
   (H w=none/\X.K.lookup w=none/\∃vs,H' w=some (.lst vs)/\iD X.K H w f.length bs/\(∀k b,bs k=some b->∃A,H' b=some (.lst A))/\bC X.K (λt b=>W.bad t b∨b=w∨∃ k,bs k=some b) H' bs 0 f vs)->Pv ds.length f->RR (.ref w) C (.ok .next) a)
  (Ya:H w=none) (hKD:X.K.lookup w=none) (O:s.heap.objs.size<=w) (US:s.heap.objs.size<=C) (old:∀b o,s.heap.get? b=some o->R5.get? b=some o) (hcl:∀y c,cl.lookup y=some c->X.env.cells.lookup y=some c∨s.heap.objs.size<=c)
  (I1:Inv (Wt X sc ns xs cl fn C s H fp (fJ X sc cl RR w C)) [] (List.replicate xs.length none++js.map (kH σ)) (L2.upd H w (.lst [])) {s with heap:=R5,toks:=s.toks+([]:List (Str×Value)).length}) :
  codeAny (model X.prog X.w) X.A (.compStart (.ListComp elt [⟨tg,G,ifs,0⟩] sc pos) 0 (.ref it) (.ref w) (compEnvC sc cl C X.env)) (RR (.ref w) C) {s with heap:=R5,toks:=s.toks+([]:List (Str×Value)).length}:=by
 have N:∀b∈fp,∃o,s.heap.get? b=some o:=λb g=>let ⟨o,e,_⟩:=T.obj 0 s.heap st b g;⟨o,e⟩
 have h:∀{a:Addr} {ws:yar},SqL X.K H a ws->a≠w:=fun {a ws} q z=>by
  subst z;rcases q with(q|⟨o,q⟩)|⟨o,Pp,n,q,_⟩;rw[Ya]at q;cases q;rw[Ya]at q;cases q;rw[hKD]at q;cases q
 let B:Own:=⟨λa=>W.bad false a∨a=w,λ_=>none,W.S⟩
 have UQ:∀t a,B.bad t a↔(W.bad t a∨a=w):=λt a=>⟨λz=>by
  rcases z with(z|z)|⟨_,q⟩| ⟨Y,U⟩;exact .inl (Own.Tb z);exact .inr z;cases q;exact .inl (.inr (.inr ⟨Y,U⟩)),λz=>by
  rcases z with z|z;rcases z with z|z|z;exact .inl (.inl (.inl z));exact .inl (.inl (.inr (.inl z)));exact .inr (.inr z);exact .inl (.inr z)⟩
 have hT:∀{H':Hp},aw H H'->∀a vs,Ql X.K H a vs->Ql X.K H' a vs:=λl a vs q=>Ql.same l q
 have hL:∀{H':Hp},aw H H'->∀t a vs,¬W.bad t a->RU X.K H t a vs->¬B.bad t a/\RU X.K H' t a vs:=λl t a vs n q=>⟨λz=>((UQ t a).mp z).elim n (h q.1),q.same l⟩
 have L:Rel (Wt X sc ns xs cl fn C s H fp (fJ X sc cl RR w C)) B (L2.upd H w (.lst [])) (List.replicate xs.length none++js.map (kH σ)) (List.replicate xs.length none++js.map (bJ ρ)):=by
  have l:aw H (L2.upd H w (.lst [])):=aw.upd Ya;have M:∀{i:Nat} {z:Sl},(List.replicate xs.length none++js.map (bJ ρ))[i]?=some (some z)->¬i<xs.length/\(js.map (bJ ρ))[i - xs.length]?=some (some z):=fun {i z} h=>by by_cases J:i<xs.length;rw[V2 (by simpa using J),zCu,Pt J]at h;cases h;rw[Wy (by simpa using J)]at h;exact⟨J,by simpa using h⟩
  refine⟨λi d h=>?_,λi x h=>?_,λi j a h _=>(by cases h),λi a h=>(by cases h),λi a h=>(by cases h),λa h=>?_,λa h=>?_,l,r.tab.same l⟩;obtain⟨J,m⟩:=M h;rw[QZ]at m;cases e:js[i - xs.length]? with
  |none=>rw[e]at m;cases m
  |some j =>
   rw[e]at m;have E:bJ ρ j=some (.val d):=Uy m;have h5:ρ[j]?=some (some (.val d)):=by unfold bJ at E;split at E;rename_i u q;cases E;exact q;cases E
   obtain⟨v,e1,e2⟩:=r.val j d h5;refine⟨v,?_,Den.map (hT l) (hL l) (λa _ n q=>l.kp a _ q n.nt) d v e2⟩;rw[Wy (by simpa using J)];show(js.map (kH σ))[i - (List.replicate xs.length (none:Option V)).length]?=some (some v);rw[List.length_replicate,QZ,e];show some (kH σ j)=some (some v);unfold kH;rw[e1]
  obtain⟨J,m⟩:=M h;rw[QZ]at m;cases e:js[i - xs.length]? with
  |none=>rw[e]at m;cases m
  |some j =>
   rw[e]at m;have E:bJ ρ j=some (.ob x):=Uy m;unfold bJ at E;split at E<;>cases E
  rcases h with h|h;obtain⟨o,q⟩:=r.tracked false a h;exact l.ex q;rw[h];exact⟨_,aJ⟩;obtain⟨o,q⟩:=r.st a h;exact l.ex q
 have Xu:∀{H':Hp},(∀b∈fp,H' b=none)->∀b∈fp,eU (Wt X sc ns xs cl fn C s H fp (fJ X sc cl RR w C)) [] H' b:=λhn b g=>by
  obtain⟨f0,r,f2,M,m,J⟩:=WS b g;obtain⟨o,j⟩:=N b g;refine⟨hn b g,λz=>?_,λz=>?_,.inl g,λy c e z=>(hcl y c e).elim (λe=>m y c e z) λq=>absurd (Qp j) (by rw[<- z];exact XY.mpr q),λp hp=>absurd (show p∈([]:yab)from hp) (by simp)⟩;have z':b=C:=z;have R6:=Qp j;rw[z']at R6;exact absurd (R7 R6 US) (Xa _);rcases Qg.mp (I.TJ b z)with e|e;exact r e;exact f2 e
 have WO:∀b∈fp,(b∈X.ex∨X.P7.heap.objs.size<=b)/\b≠X.env.locals/\(∀x c,X.env.cells.lookup x=some c->c≠b)/\∀p∈X.pn++pins,p.1≠b:=λb g=>by obtain⟨f0,r,f2,M,m,J⟩:=WS b g;exact⟨M,r,m,J⟩
 have BD0:B.B w:=.inr rfl;have M:∀m:Shared,m={s with heap:=R5,toks:=s.toks+([]:List (Str×Value)).length} →
   codeAny (model X.prog X.w) X.A (.compLoop (.ListComp elt [⟨tg,G,ifs,0⟩] sc pos) 0 (.ref it) (.ref w) (compEnvC sc cl C X.env)) (RR (.ref w) C) m:=by
  rintro m rfl;refine Er (CLI X.K (Wt X sc ns xs cl fn C s H fp (fJ X sc cl RR w C)) H fp w ds B tn xs.length (js.map (bJ ρ)) Pv) ?_ ds.length
   ⟨0,B,_,_,_,[],[],λ_=>none,by simp,RS _,I1,T.keep 0 s.heap R5 st (λb g o e=>old b o e),λb g=>?_,aJ,⟨by funext a;simp,rfl⟩,iD.nil,(λ_ _ h=>by cases h),by simp only[bC],aw.upd Ya,L,⟨_,by simp,rfl⟩,p0,Qu _⟩
  rotate_left
  obtain⟨o,j⟩:=N b g;rw[aC (λz=>absurd (Qp j) (by rw[z];exact XY.mpr O))];exact(WS b g).1;rintro n s3 ⟨i,W2,VI,Q,H3,f,vs,bs,en,hle,I3,Zk,Zm,hD3,L,YM,hls,N,x,r,G,p3,ol⟩;have J:∀{j:Own} {H':Hp} {O:St} {m:Ro},(j.B=(λa=>B.B a∨∃ k,bs k=some a)/\j.S=B.S)->Rel (Wt X sc ns xs cl fn C s H fp (fJ X sc cl RR w C)) j H' O m->aw H H'->∀t a vs,¬W.bad t a->RU X.K H t a vs->¬j.bad t a/\RU X.K H' t a vs:=fun {j H' O m} hw rl l t a vs n q=>by
   refine⟨λz=>?_,q.same l⟩;rcases z with z|⟨k,z⟩| ⟨Y,U⟩;rw[hw.1]at z;rcases z with z|⟨k,z⟩;exact(hL l t a vs n q).1 (.inl z);obtain⟨_,O,kk,_⟩:=YM.ok k a z;rcases q.1 with(j|⟨o,j⟩)|⟨o,Pp,m,j,_⟩;rw[O]at j;cases j;rw[O]at j;cases j;rw[kk]at j;cases j;have O:H a=none:=rl.ke k a z;rcases q.1 with(j|⟨o,j⟩)|⟨o,Pp,m,j,_⟩;rw[O]at j;cases j;rw[O]at j;cases j;have kk:X.K.lookup a=none:=(rl.kn k a z).1;rw[kk]at j;cases j;rw[hw.2]at U;exact(hL l t a vs n q).1 (.inr (.inr ⟨Y,U⟩))
  obtain⟨j,l,ys⟩:=yd W2.bad H3 (hT x) (J L r x) (λa _ n q=>x.kp a _ q n.nt) i;by_cases R6:i<ds.length;refine Px (T.item (Wt X sc ns xs cl fn C s H fp (fJ X sc cl RR w C)) rfl rfl rfl hc i [] s3 _ H3 _ I3 (Xu Zm) Zk (j R6)) λrr s4 ⟨u,hr,E⟩=>?_
  subst hr;refine Px E λ_ s5 J=>?_
  obtain⟨Y,H5,I5,r5,U,Xh,j⟩:=J;obtain⟨E,d,hd,SV⟩:=l Y H5 U R6;have U:=I5.pinned (Xu j) (T.obj _ _ Xh);have Zo:=r.same E;have l:aw H H5:=x.trans E;refine Tv (hg _ s5 VI H5 W2 Q d Y u _ U Zo r5 SV (step i d f Q hd p3 G)) (λ_ s6 J=>?_) (λ_ _ z=>z);obtain⟨r,ZX,H6,U,I6,j,u,Q,q6⟩:=J;have G:r.B=(λa=>B.B a∨∃ k,bs k=some a)/\r.S=B.S:=⟨j.B.trans L.1,j.S.trans L.2⟩;have Y:aw H H6:=⟨λb o e n=>j.kp b o (λk z=>by have O:H b=none:=Zo.ke k b z;rw[e]at O;cases O) (l.kp b o e n) n,(λb n e=>by obtain⟨O,e1⟩:=l.tb b n e;obtain⟨n,e2⟩:=j.tb b _ e1;exact⟨O++n,by rw[e2,Array.append_assoc]⟩),λh=>j.ok (l.ok h)⟩;have BD:B.B w:=.inr rfl;have hD6:H6 w=some (.lst vs):=j.keep w _ (λk z=>(Zo.kn k w z).2.1.1 (by rw[L.1];exact .inl BD)) (E _ _ hD3);have h:bC X.K W2.bad H5 bs 0 f vs:=N.map (λ_ _ z=>z.same E) λ_ _ q=>⟨q,λ_ z=>E _ _ z⟩
  have n:∀k b,bs k=some b->∃A,H6 b=some (.lst A):=λk b q=>let ⟨A,z⟩:=hls k b q;⟨A,j.keep b _ (λl y=>(Zo.kn l b y).2.1.1 (by rw[L.1];exact .inr ⟨k,q⟩)) (E _ _ z)⟩
  have E:bC X.K r.bad H6 bs 0 f vs:=h.map (λ_ _ z=>aj.fwd Zo u j z) λk b q=>⟨q,λA z=>j.keep b _ (λl y=>(Zo.kn l b y).2.1.1 (by rw[L.1];exact .inr ⟨k,q⟩)) z⟩
  have Zr:∀{h:St} {l:Hp} {O:Shared},Inv (Wt X sc ns xs cl fn C s H fp (fJ X sc cl RR w C)) ([]++pQ fp s5.heap) h l O->tn (i+1) O.heap/\∀b∈fp,l b=none:=fun {h l O} h=>by refine⟨T.keep _ _ _ Xh λb g o e=>(h.pin (b,o) (SO _ (SO _ (fH g e)))).1,λb g=>?_⟩;obtain⟨o,e,_⟩:=T.obj _ _ Xh b g;exact(h.pin (b,o) (SO _ (SO _ (fH g e)))).2.1
  refine Tv (ht _ s6 _ H6 r _ _ I6 u q6) (λb O J=>?_) (λ_ _ z=>z);obtain⟨l,h,j,q7⟩:=J;cases b with
  |false =>
   rw[Po V5]at q7;rw[Po V5];obtain⟨t7,f7⟩:=Zr h;exact⟨ds.length - (i+1),by lia,i+1,r,ZX,U,l,f,vs,bs,rfl,R6,h.QV,t7,f7,j _ _ hD6,G,YM,(λk b q=>let ⟨A,z⟩:=n k b q;⟨A,j _ _ z⟩),E.map (λ_ _ z=>z.same j) (λ_ _ q=>⟨q,λ_ z=>j _ _ z⟩),Y.trans j,u.same j,Q,q7,by lia⟩
  |true =>
   rw[Pt rfl]at q7;rw[Pt rfl];refine Tv (he _ O _ l r _ _ h (u.same j) q7) (λu8 s8 J=>?_) (λ_ _ z=>z);obtain⟨v8,H8,e8,I8,r8,h,hd8,q8⟩:=J;have YN:=j.trans h;have hD8:=YN _ _ hD6;have O:=u.same j;have u:bC X.K r.bad l bs 0 f vs:=E.map (λ_ _ z=>z.same j) λ_ _ q=>⟨q,λ_ z=>j _ _ z⟩
   have smH:aw H H8:=Y.trans YN;obtain⟨W8,l,hW8,E,hls8,rl8,hds8,hlen8⟩:∃(W8:Own) (l:yaj),(W8.B=(λa=>B.B a∨∃ k,l k=some a)/\W8.S=B.S)/\iD X.K H w (f++[e8]).length l/\(∀k b,l k=some b->∃A,H8 b=some (.lst A))/\Rel (Wt X sc ns xs cl fn C s H fp (fJ X sc cl RR w C)) W8 H8 ZX U/\bC X.K W8.bad H8 l 0 (f++[e8]) (vs++[v8])/\vs.length=f.length:=by
    have ln:=u.len;cases e8 with
    |val d =>
     refine⟨r,bs,G,YM.up (by simp),(λk b q=>let ⟨A,z⟩:=n k b q;⟨A,YN _ _ z⟩),O.same h,?_,ln⟩;exact(u.map (λ_ _ z=>z.same h) λ_ _ q=>⟨q,λ_ z=>h _ _ z⟩).TM hd8
    |own WR =>
     obtain⟨a,ws,rfl,d,ka,B,VS⟩:=hd8;obtain⟨rb,db⟩:=O.ban h d ka B;have nH:H a=none:=(Y.trans j).free d;have Y:a≠w:=λz=>by rw[z,j _ _ hD6]at d;cases d
     refine⟨⟨λb=>r.B b∨b=a,r.O,r.S⟩,λk=>if k=f.length then some a else bs k,⟨?_,G.2⟩,YM.put nH ka Y (λk z=>?_),(λk b q=>?_),rb,?_,ln⟩
     funext b
     show(r.B b∨b=a)=_;rw[G.1];refine propext ⟨λz=>?_,λz=>?_⟩;rcases z with(z|⟨k,z⟩)|z;exact .inl z;exact .inr ⟨k,by show(if k=f.length then some a else bs k)=some b;rw[Po (QU (YM.ok k b z).1)];exact z⟩;exact .inr ⟨f.length,by show(if f.length=f.length then some a else bs f.length)=some b;rw[Pt rfl,z]⟩;rcases z with z|⟨k,z⟩;exact .inl (.inl z);have z:(if k=f.length then some a else bs k)=some b:=z;by_cases j:k=f.length;rw[Pt j]at z;cases z;exact .inr rfl;rw[Po j]at z;exact .inl (.inr ⟨k,z⟩);obtain⟨o,r⟩:=O.bt a (by rw[G.1];exact .inr ⟨k,z⟩);rw[r]at d;cases d;have q:(if k=f.length then some a else bs k)=some b:=q;by_cases j:k=f.length;rw[Pt j]at q;cases q;exact⟨_,B⟩;rw[Po j]at q;obtain⟨A,z⟩:=n k b q;exact⟨A,YN _ _ z⟩;refine bC.TN (u.map (B':=λk=>if k=f.length then some a else bs k) (λds vs z=>db ds vs z) λk b q=>⟨by show(if k=f.length then some a else bs k)=some b;rw[Po (QU (YM.ok k b q).1)];exact q,λ_ z=>h _ _ z⟩) (by simp) B (VS.P4 λt b z=>?_);rcases z with(z|z)|z|z;exact .inl (.inl z);exact .inr z;exact .inl (.inr (.inl z));exact .inl (.inr (.inr z))
   have j:W8.B w:=by rw[hW8.1];exact .inl BD
   refine Tv (pL (X:=Wt X sc ns xs cl fn C s H fp (fJ X sc cl RR w C)) _ s8 _ H8 (.ref w) [v8] (.ref w) [u8] (λ_ H'=>H'=L2.upd H8 w (.lst (vs++[v8]))) I8 rfl (.cons r8 .nil) ⟨w,vs,v8,rfl,rfl,hD8,by rw[hlen8];lia,rfl⟩) (λ_ s9 J=>?_) (λ_ _ z=>z);obtain⟨v9,H9,n,_,d⟩:=J;subst d;obtain⟨r,u⟩:=Zr n;obtain⟨d,h⟩:=rl8.mutB (vs':=vs++[v8]) j hD8 Ya;exact⟨ds.length - (i+1),by lia,i+1,W8,ZX,U,_,f++[e8],vs++[v8],l,rfl,R6,n.QV,r,u,aJ,hW8,E,(λk b q=>let ⟨A,z⟩:=hls8 k b q;⟨A,by rw[aC (E.ok k b q).2.2.2];exact z⟩),hds8.map h (λk b q=>⟨q,λA z=>by rw[aC (E.ok k b q).2.2.2];exact z⟩),smH.ins Ya hD8 True.intro True.intro,d,Q,q8,by rw[Sw,zC9];lia⟩
  have e:i=ds.length:=by lia
  refine Px (T.done (Wt X sc ns xs cl fn C s H fp (fJ X sc cl RR w C)) rfl rfl rfl hc i [] s3 _ H3 _ I3 (Xu Zm) Zk (ys (by lia))) λrr s4 J=>?_
  obtain⟨hr,d⟩:=J;subst hr;subst e;have i:Inv X pins σ H3 s4:=I.U9 d.os d.base d.PW d.bare WO;obtain⟨m,h,_⟩:=d.loc;exact hRR s4 H3 m f bs i x h d.free (λz=>absurd I.lt (by rw[<- z];exact XY.mpr US)) (QM I.sz US) (λy c e z=>by
   obtain⟨v,q⟩:=I.cell y c e;exact absurd q.lt (by rw[z];exact XY.mpr US)) (λp hp z=>absurd (Qp (I.pin p hp).1) (by rw[z];exact XY.mpr US))
   ⟨Ya,hKD,_,hD3,YM,hls,N.map (λ_ _ z=>z.P4 λt a z=>(by
    rcases z with z|z;rcases(UQ t a).mpr (.inl z)with q|⟨k,q⟩| q;exact .inl (by rw[L.1];exact .inl q);cases q;exact .inr (.inr ⟨q.1,by rw[L.2];exact q.2⟩);rcases z with z|z;exact .inl (by rw[L.1];exact .inl (z ▸ BD0));exact .inl (by rw[L.1];exact .inr z))) λ_ _ q=>⟨q,λ_ z=>z⟩⟩ p3
 exact codeAny_compStart_list (M _ rfl) (T.self _ 0 _ _ _ (T.keep 0 s.heap R5 st (λb g o e=>old b o e)) (M _ rfl))
set_option tactic.hygienic true in
def AF{u m w:Expr}{q:yai}{pos:Pos}{g:DG}{te:DM}{tc:DT}{W:Own}{ρ:Ro}{J:It}{N:Addr}{tn:Nat->Heap->Prop}{ds:yas}{E:yaa}{RR:Value->Addr->Result->Shared->Prop}(hc:X.calm=true)(S:YK X.env.scope sc xs ns)
  (hj:js.length=ns.length/\∀(i:Nat) (j:Nat) (n:Str),js[i]?=some j->ns[i]?=some n->X.N[j]?=some n)
  {Ed:Value->Prop} (he:∀(C:Addr) (h:Shared) (l:Hp) (fp:yae) (f:yaa),eJ (bI X sc ns xs C h l fp f) Ed->PEM (bI X sc ns xs C h l fp f) u te) (ht:∀(C:Addr) (h:Shared) (l:Hp) (fp:yae) (f:yaa),eJ (bI X sc ns xs C h l fp f) Ed->YL (bI X sc ns xs C h l fp f) q tc)
  (O:∀D C:Addr,eJ (bI X sc ns xs C s H fp (Dh X sc ns RR D C)) Ed) (I:Inv X pins σ H s) (r:Rel X W H σ ρ) (hg:∀(C:Addr) (h:Shared) (l:Hp) (fp:yae) (f:yaa),X6 (bI X sc ns xs C h l fp f) w g) (T:Turn X.prog X.w X.K w J fp N tn) (st:tn 0 s.heap) (Y:∀b∈fp,eU X pins H b) (yd:YD X.K W H J ds) (hz:ds.length<=sizeLine)
  (Pv:Nat->List LI->Prop) (p0:Pv 0 []) (step:∀j d a G,ds[j]?=some d->Pv j a->kA xs.length (js.map (bJ ρ)) G->g d G λz=>kA xs.length (js.map (bJ ρ)) z/\tc z λb=>if b=true then te z (λe=>Pv (j+1) (a++[e]))else Pv (j+1) a)
  (A:∀(D C:Addr) (x:Shared) (H':Hp) (M:yam) (a:List LI) (bs:yaj),Inv X pins σ H' x->aw H H'->x.heap.Ns C M->H' C=none->C≠X.env.locals->X.P7.heap.objs.size<=C->(∀y c,X.env.cells.lookup y=some c->c≠C)->(∀p∈X.pn++pins,p.1≠C) →
   (H D=none/\X.K.lookup D=none/\∃vs,H' D=some (.lst vs)/\iD X.K H D a.length bs/\(∀k b,bs k=some b->∃L,H' b=some (.lst L))/\bC X.K (λt b=>W.bad t b∨b=D∨∃ k,bs k=some b) H' bs 0 a vs)->Pv ds.length a->RR (.ref D) C (.ok .next) x) :
  wpAny (model X.prog X.w) X.A (newList []) (λo U=>wpAny (model X.prog X.w) X.A (newFunctionEnv sc X.env.globals (et X.env ns) [] X.env.qual none .none (some X.env)) (λB Q =>
   codeAny (model X.prog X.w) X.A (.compStart (.ListComp u [⟨w,m,q,0⟩] sc pos) 0 (.ref N) o {B with scope:=relabel sc X.env}) (RR o B.locals) Q) E U) E s:=by
 refine XQ (wpAny_newFunctionEnv S.Xr (by intro y a;simp at a) (λk L j=>?_) S.kind);dsimp only at L j ⊢;generalize YO:s.heap.push {cls:=.type "list", dict:=none,data:=.seq ([]:yad).toArray}=HP at L j ⊢;have G:HP.objs.size=s.heap.objs.size+1:=by rw[<- YO,Yr]
 have f:s.heap.objs.size≠HP.objs.size:=by rw[G];exact QU (W5 _)
 have M:s.heap.objs.size<=HP.objs.size:=by rw[G];exact Nat.le_succ _
 have h:∀b,b<s.heap.objs.size->b≠HP.objs.size:=λb t=>by rw[G];exact QU (Y7 t)
 have a:∀b o,s.heap.get? b=some o->k.get? b=some o:=λb o e=>j.extBut b o (h b (Qp e)) (QN _ (YO ▸ QN _ e))
 have U:k.get? s.heap.objs.size=some {cls:=.type "list", data:=.seq ([]:yad).toArray}:=j.extBut _ _ f (QN _ (YO ▸ Sv _ rfl));generalize eD:s.heap.objs.size=D at f U;generalize eC:HP.objs.size=C at *;have Q:H D=none:=by rw[<- eD];exact I.PW.fresh (Qu _)
 have x:X.K.lookup D=none:=by rw[<- eD];exact Inv.Sg I
 have B:H C=none:=I.PW.fresh M;have p:∀b∈fp,∃o,s.heap.get? b=some o:=λb t=>let ⟨o,e,_⟩:=T.obj 0 s.heap st b t;⟨o,e⟩
 have d:s.heap.objs.size<=D:=Nat.le_of_eq eD;have l:R8 X.prog X.w (L2.upd H D (.lst [])) k:=I.PW.laid a d ⟨RS _,[],0,.nil,U⟩;have i:∀o,L2.upd H D o C=none:=λo=>by rw[aC (Ne.symm f)];exact B
 have I1:Inv (bI X sc ns xs C s H fp (Dh X sc ns RR D C)) [] (List.replicate xs.length none++js.map (kH σ)) (L2.upd H D (.lst [])) {s with heap:=k,toks:=s.toks+([]:List (Str×Value)).length} :=
  Inv.comp I S hj Y p M rfl I.bare a L (i _) (aw.upd Q) (λb o e n=>by rw[aC (λz=>absurd (Qp e) (by rw[z];exact XY.mpr d))];exact n) l
 exact Et (cl:=et X.env ns) (fn:=λ_=>false) hc (he C s H fp _ (O D C)) (ht C s H fp _ (O D C)) (hg C s H fp _) I r T st Y yd hz Pv p0 step (A D C) Q x d M a (λy c e=>.inl (mX e)) I1
end
theorem bC.vals{K:yac}{P:yak}{H:Hp}{B:yaj}:∀{ds:yas} {k:Nat} {vs:yar},bC K P H B k (ds.map .val) vs->aj K P H ds vs
 |[],_,_,h=>by subst h;exact aj.nil
 |d::r,_,_,h=>by obtain⟨v,u,rfl,b,a⟩:=h;exact aj.cons b a.vals
def Mn(h:P5 X e te):PEM X e λρ Q=>te ρ λd=>Q (.val d):=λa s b H W ρ Q I r t=>Tv (h a s b H W ρ _ I r t) (λ_ _ e=>(by obtain⟨v,f,d,a,b,c,q,z⟩:=e;exact⟨v,f,.val d,a,b,c,q,z⟩)) λ_ _ z=>z
section
variable{X:Cx}{pins:yab}{σ:St}{H:Hp}{s:Shared}{sc:Scope}{ns:yah}{js:yag}{xs:yah}{fp:yae}
def mY{o k x:Expr}{l:yai}{pos:Pos}{g:DG}{te:DE}{tc:DT}{W:Own}{ρ:Ro}{J:It}{G:Addr}{tn:Nat->Heap->Prop}{ds:yas}{E:yaa}{RR:Value->Addr->Result->Shared->Prop}(hc:X.calm=true)(S:YK X.env.scope sc xs ns)
  (Y:js.length=ns.length/\∀(i:Nat) (j:Nat) (n:Str),js[i]?=some j->ns[i]?=some n->X.N[j]?=some n)
  {Ed:Value->Prop} (he:∀(C:Addr) (h:Shared) (m:Hp) (fp:yae) (f:yaa),eJ (bI X sc ns xs C h m fp f) Ed->P5 (bI X sc ns xs C h m fp f) o te) (U:∀(C:Addr) (h:Shared) (m:Hp) (fp:yae) (f:yaa),eJ (bI X sc ns xs C h m fp f) Ed->YL (bI X sc ns xs C h m fp f) l tc)
  (O:∀D C:Addr,eJ (bI X sc ns xs C s H fp (Dh X sc ns RR D C)) Ed) (I:Inv X pins σ H s) (r:Rel X W H σ ρ) (hg:∀(C:Addr) (h:Shared) (m:Hp) (fp:yae) (f:yaa),X6 (bI X sc ns xs C h m fp f) x g) (T:Turn X.prog X.w X.K x J fp G tn) (st:tn 0 s.heap) (WS:∀b∈fp,eU X pins H b) (M:YD X.K W H J ds) (hz:ds.length<=sizeLine)
  (Pv:Nat->yas->Prop) (N:Pv 0 []) (step:∀j d a w,ds[j]?=some d->Pv j a->kA xs.length (js.map (bJ ρ)) w->g d w λB=>kA xs.length (js.map (bJ ρ)) B/\tc B λb=>if b=true then te B (λe=>Pv (j+1) (a++[e]))else Pv (j+1) a)
  (A:∀(D C:Addr) (u:Shared) (H':Hp) (z:yam) (a:List PD.D),Inv X pins σ H' u->aw H H'->u.heap.Ns C z->H' C=none->C≠X.env.locals->X.P7.heap.objs.size<=C->(∀y c,X.env.cells.lookup y=some c->c≠C)->(∀p∈X.pn++pins,p.1≠C) →
   (H D=none/\X.K.lookup D=none/\∃vs,H' D=some (.lst vs)/\aj X.K (λt b=>W.bad t b∨b=D) H' a vs)->Pv ds.length a->RR (.ref D) C (.ok .next) u) :
  wpAny (model X.prog X.w) X.A (newList []) (λq Sx=>wpAny (model X.prog X.w) X.A (newFunctionEnv sc X.env.globals (et X.env ns) [] X.env.qual none .none (some X.env)) (λL Q =>
   codeAny (model X.prog X.w) X.A (.compStart (.ListComp o [⟨x,k,l,0⟩] sc pos) 0 (.ref G) q {L with scope:=relabel sc X.env}) (RR q L.locals) Q) E Sx) E s:=by
 have e:∀k l,(∃q,l.map LI.val=q.map LI.val/\Pv k q)=Pv k l:=λk l=>propext ⟨λc=>(by obtain⟨q,a,b⟩:=c;exact(List.map_inj_right (λ_ _=>LI.val.inj)).mp a ▸ b),λb=>⟨l,rfl,b⟩⟩
 refine AF (te:=λρ Q=>te ρ λd=>Q (.val d)) hc S Y (λC h m fp f p=>Mn (he C h m fp f p)) U O I r hg T st WS M hz (λk o=>∃q,o=q.map LI.val/\Pv k q) ⟨[],rfl,N⟩ ?_ ?_;rintro j d _ w c ⟨q,rfl,a⟩ cr;have f:∀x,q.map LI.val++[LI.val x]=(q++[x]).map LI.val:=λx=>by rw[Sb];rfl
 simp only[f,e];exact step j d q w c a cr;rintro D C u H' z _ bs n c m l k j i h ⟨g,f,vs,e,_,_,d⟩ ⟨q,rfl,a⟩;exact A D C u H' z q n c m l k j i h ⟨g,f,vs,e,d.vals.P4 λt b z=>z.elim .inl λz=>.inr (.inl z)⟩ a
def y8{X:Cx}{sc:Scope}{ns:yah}{x:Str}{fp:yae}(S:YK X.env.scope sc [x] ns):X6 (bI X sc ns [x] C Pw PT fp XE) (.Name x px) (pI 0) :=
 have a:(compEnvC sc (et X.env ns) C X.env).scope.names.lookup x=some .local:=lookup_relabel_local (S.tgt x (by simp))
 bu (X:=bI X sc ns [x] C Pw PT fp XE) 0 S.nd rfl (.inl a) (.inr a)
def Jo{ds:yas}{Pv:Nat->yas->Prop}{tc:DT}{te:DE}{a:Ro}(step:∀j d c,ds[j]?=some d->Pv j c->tc (some (.val d)::a) λb=>if b=true then te (some (.val d)::a) (λe=>Pv (j+1) (c++[e]))else Pv (j+1) c) :
  ∀ j d c f,ds[j]?=some d->Pv j c->kA 1 a f->pI 0 d f λg=>kA 1 a g/\tc g λb=>if b=true then te g (λe=>Pv (j+1) (c++[e]))else Pv (j+1) c:=by
 rintro j d c f f b ⟨a,e,rfl⟩
 match a,e with
 |[a],_=>exact⟨⟨[some (.val d)],rfl,rfl⟩,step j d c f b⟩
def qG(wi:DA)(js:yag)(tc:DT)(te:DE):DE:=λc Q=>wi c λf=>f.length<=sizeLine/\∃Pv:Nat->yas->Prop,Pv 0 [] ∧
 (∀j d a,f[j]?=some d->Pv j a->tc (some (.val d)::js.map (bJ c)) λb=>if b=true then te (some (.val d)::js.map (bJ c)) (λe=>Pv (j+1) (a++[e]))else Pv (j+1) a)/\∀a,Pv f.length a->Q (.lst true a)
def aS(N:yah)(ns:yah)(js:yag):Prop:=js.length=ns.length/\∀(i:Nat) (j:Nat) (n:Str),js[i]?=some j->ns[i]?=some n->N[j]?=some n
def aS.nil:aS N [] []:=⟨rfl,λi j n h=>by simp at h⟩
def aS.cons{ns:yah}{js:yag}{n:Str}(j:Nat)(h:aS N ns js)(e:N[j]?=some n:=by rfl):aS N (n::ns) (j::js):=⟨by simp[h.1],λi c m b a=>by
 cases i with
 |zero=>simp at b a;subst b a;exact e
 |succ i=>exact h.2 i c m (by simpa using b) (by simpa using a)⟩
variable{elt iter:Expr}{ifs:yai}{px pos:Pos}{te:DE}{tc:DT}{wi:DA}{x:Str}
def bP(n:X.calm=true)(S:YK X.env.scope sc [x] ns)(l:aS X.N ns js)(e:VQ X (.Name x px) iter wi)(k:∀(C:Addr) (b:Shared) (c:Hp) (fp:yae) (a:yaa),YL (bI X sc ns [x] C b c fp a) ifs tc)
  (m:∀(C:Addr) (b:Shared) (c:Hp) (fp:yae) (a:yaa),P5 (bI X sc ns [x] C b c fp a) elt te) (f:closureFor sc X.env=pure (et X.env ns):=by rfl) (hs:∀x,foldedSetIterable iter X.env x=pure x:=by intro _;rfl) :
  P5 X (.ListComp elt [⟨.Name x px,iter,ifs,0⟩] sc pos) (qG wi js tc te):=by
 intro pins s σ H W d Q I r h;refine wpAny_comprehension_free (use:=none) rfl hs f S.kind S.names (Px (e pins s σ H W d _ I r h) λv B d=>Px d λXg A d=>?_);obtain⟨E,fp,tn,J,H2,L,e,q,j,T,p,o,f,h,Pv,g,step,i⟩:=d;subst e;refine mY (RR:=λd C=>compPost (model X.prog X.w) X.A X.xe none (DP X pins σ W H Q) d C) n S l (Ed:=λ_=>False) (λC b c fp a _=>m C b c fp a) (λC b c fp a _=>k C b c fp a) (λ_ _=>eJ.no) q (r.same j) (λC b c fp a=>y8 S) T p o f h Pv g (Jo step) ?_;intro D C l b c a w k q p h g f d ⟨m,n,y,o,u⟩ pv;have t:Den X.K W.bad b (.lst true a) (.ref D):=Den.lst ((r.same j).fresh m) (.new o n) (u.P4 λ_ _ z=>.inl z);refine⟨c,q,λG c=>?_⟩;exact⟨.ref D,b,_,w.turned (t':=l.toks) (λb o l e=>(c.2 b l).trans e) p h (.inr g) f d,rfl,j.trans k,t,i a pv⟩
def fF{y:Str}{a:Pos}(i:Nat)(A:X.N.Nodup)(t:X.calm=true)(S:YK X.env.scope sc [x] ns)(o:aS X.N ns js)(j:VQ X (.Name x px) iter wi)(n:∀(C:Addr) (c:Shared) (d:Hp) (fp:yae) (b:yaa),YL (bI X sc ns [x] C c d fp b) ifs tc)
  (q:∀(C:Addr) (c:Shared) (d:Hp) (fp:yae) (b:yaa),P5 (bI X sc ns [x] C c d fp b) elt te) (p:X.N[i]?=some y:=by rfl) (f:X.env.scope.names.lookup y=some .local:=by rfl) (k:closureFor sc X.env=pure (et X.env ns):=by rfl) (hs:∀x,foldedSetIterable iter X.env x=pure x:=by intro _;rfl)
  (e:swapsWith (.ListComp elt [⟨.Name x px,iter,ifs,0⟩] sc pos) (some (.Name y py)) a.line X.env=pure true:=by rfl) :
  Sf X (.Assign [.Name y py] (.ListComp elt [⟨.Name x px,iter,ifs,0⟩] sc pos) a) (G5 i (qG wi js tc te)):=by
 intro pins s σ H W g E I r h;rw[exec_Assign_Name_used _ _ _ _ e];refine Pk (wpAny_standAt (Pk ?_));refine Pk (Tv (wpAny_comprehension_free (use:=some (assign (.Name y py) X.env)) (Q:=λ_ a=>X4 X pins W H E .next a) rfl hs k S.kind S.names
  (Px (j pins s σ H W g _ I r h) λv N e=>Px e λXg M g=>?_)) (λ_ a e=>wpAny_pure (wpAny_pure e)) λ_ _ e=>e)
 obtain⟨O,fp,tn,J,H2,Y,e,z,h,T,w,u,j,m,Pv,k,step,l⟩:=g;subst e;refine mY (RR:=λg C=>compPost (model X.prog X.w) X.A X.xe (some (assign (.Name y py) X.env)) (λ_ a=>X4 X pins W H E .next a) g C) t S o (Ed:=λ_=>False) (λC c d fp b _=>q C c d fp b) (λC c d fp b _=>n C c d fp b) (λ_ _=>eJ.no) z (r.same h) (λC c d fp b=>y8 S) T w u j m Pv k (Jo step) ?_;intro D C a m w c t n E B g k d j ⟨a,b,L,o,q⟩ pv;have G:Den X.K W.bad m (.lst true c) (.ref D):=Den.lst ((r.same h).fresh a) (.new o b) (q.P4 λ_ _ z=>.inl z);have u:=(r.same h).same n;refine wpAny_assign_Name (xc (v:=.ref D) t A p (.inl f) rfl (λo A q=>?_) (.inr f));obtain⟨a,b,f⟩:=q;have r:C≠a:=by
  rcases f with z|z;rw[z];exact g;exact λq=>d y a z q.symm
 refine⟨w,E.sameBut b r,λU a=>?_⟩;refine⟨W.drop i,_,m,A.turned (t':=o.toks) (λb o f e=>(a.2 b f).trans e) B g (.inr k) d j,(Qk.same (h.trans n)).trans (Qk.drop W m i),_,u.put (Inv.Vb t p) G,l c pv⟩
end
noncomputable def LM(osc a:Scope)(xs ns:yah):Bool :=
 decide (a.kind=.function) && (a.names.all λy=>decide (y.2 ≠ .cell)) && (a.names.all λy=>decide (y.2=.local->a.names.lookup y.1=some .local)) && (xs.all λx=>decide (a.names.lookup x=some .local)) &&
 (a.names.all λy=>decide (y.2=.free->y.1∈ns/\osc.names.lookup y.1=some .cell)) && (ns.all λn=>decide (a.names.lookup n=some .free/\osc.names.lookup n=some .cell)) && decide (xs++ns).Nodup
def aX(h:LM osc sc xs ns=true):YK osc sc xs ns:=by unfold LM at h;simp only[Yo]at h;obtain⟨⟨⟨⟨⟨⟨a,f⟩,b⟩,e⟩,d⟩,h6⟩,c⟩:=h;exact⟨WZ a,λy a=>WZ (zDE.mp f y a),λy a=>WZ (zDE.mp b y a),λx b=>WZ (zDE.mp e x b),λy a=>WZ (zDE.mp d y a),λn a=>WZ (zDE.mp h6 n a),WZ c⟩
inductive Yc:yai->yah->Prop where
 |nil:Yc [] []
 |cons {x:Str} {p:Pos} {es:yai} {xs:yah} (h:Yc es xs):Yc (.Name x p::es) (x::xs)
def pH:Nat->Nat->X7
 |_,0=>t6
 |i,n+1=>my (pI i) (pH (i+1) n)
theorem tZ:∀(ys:yas) (b a c:Ro) (Q:Ro->Prop),a.length=ys.length->Q (b++ys.map (λd=>some (Sl.val d))++c)->pH b.length ys.length ys (b++a++c) Q
 |[],b,a,c,Q,f,h=>by have:a=[]:=zC4 f;subst this;exact⟨rfl,h⟩
 |d::r,b,a,c,Q,f,h=>by
  match a,f with
  |a::q,f =>
   refine⟨d,r,rfl,?_⟩;show pH (b.length+1) r.length r ((b++a::q++c).set b.length (some (.val d))) Q;have e:(b++a::q++c).set b.length (some (Sl.val d))=(b++[some (Sl.val d)])++q++c:=by rw[WH,List.set_append_right _ _ (Qu _),Nat.sub_self];simp
   have a:b.length+1=(b++[some (Sl.val d)]).length:=by simp
   rw[e,a];refine tZ r _ q c Q (by simpa using f) ?_;simpa using h
section
variable{X:Cx}{sc:Scope}{ns xs:yah}{js:yag}
theorem Yc.len:∀{es:yai} {ys:yah},Yc es ys->(assignEach es env).length=ys.length/\(assignEach es env).findIdx? (·.1)=none
 |_,_,.nil=>⟨rfl,rfl⟩
 |_,_,.cons (x:=x) (p:=p) (es:=es) h=>by obtain⟨b,a⟩:=Yc.len (env:=env) h;have e:assignEach (.Name x p::es) env=(false,assign (.Name x p) env)::assignEach es env:=rfl;rw[e];refine⟨by rw[SQ,b];rfl,?_⟩;rw[List.findIdx?_cons,a];rfl
theorem ud(S:YK X.env.scope sc xs ns):∀{es:yai} {ys:yah} (i:Nat),Yc es ys->(∀k y,ys[k]?=some y->xs[i+k]?=some y)->va (bI X sc ns xs C Pw PT fp XE) es (pH i ys.length)
 |_,_,_,.nil,_=>qM
 |_,_,i,.cons (x:=x) (xs:=ys) h,c=>by
  have a:xs[i]?=some x:=c 0 x rfl;have b:(compEnvC sc (et X.env ns) C X.env).scope.names.lookup x=some .local:=lookup_relabel_local (S.tgt x (Rt a));have d:(xs++ns)[i]?=some x:=by rw[V2 (RQ.mp a).1];exact a
  exact gG (bu (X:=bI X sc ns xs C Pw PT fp XE) i S.nd d (.inl b) (.inr b)) (ud S (i+1) h λk y e=>by
   have:=c (k+1) y e
   lia)
variable{elt iter:Expr}{ifs es:yai}{kt:Nat}{tp pos:Pos}{te:DE}{tc:DT}{wi:DA}
def kg(ys:yas):Ro:=ys.map λd=>some (Sl.val d)
def Ew(n:Nat)(wi:DA)(js:yag)(tc:DT)(te:DE):DE:=λe Q=>wi e λf=>f.length<=sizeLine/\∃Pv:Nat->yas->Prop,Pv 0 [] ∧
 (∀j d a,f[j]?=some d->Pv j a->∃c,(d=.tup c∨∃ t,d=.lst t c)/\c.length=n/\tc (kg c++js.map (bJ e)) λb=>if b=true then te (kg c++js.map (bJ e)) (λe=>Pv (j+1) (a++[e]))else Pv (j+1) a)/\∀a,Pv f.length a->Q (.lst true a)
def stepT{n:Nat}{ds:yas}{Pv:Nat->yas->Prop}{c:Ro}(step:∀j d a,ds[j]?=some d->Pv j a->∃ys,(d=.tup ys∨∃ t,d=.lst t ys)/\ys.length=n/\tc (kg ys++c) λb=>if b=true then te (kg ys++c) (λe=>Pv (j+1) (a++[e]))else Pv (j+1) a) :
  ∀ j d a f,ds[j]?=some d->Pv j a->kA n c f->t8 n (pH 0 n) d f λg=>kA n c g/\tc g λb=>if b=true then te g (λe=>Pv (j+1) (a++[e]))else Pv (j+1) a:=by
 rintro j d a f k g ⟨f,i,rfl⟩;obtain⟨ys,e,b,h⟩:=step j d a k g;refine⟨ys,e,b,?_⟩;subst b;exact tZ ys [] f c _ i ⟨⟨kg ys,by simp[kg],rfl⟩,h⟩
def kF(k:X.calm=true)(S:YK X.env.scope sc xs ns)(q:aS X.N ns js)(g:Yc es xs)(j:VQ X (.Tuple es kt tp) iter wi)(p:∀(C:Addr) (c:Shared) (d:Hp) (a:yae) (b:yaa),YL (bI X sc ns xs C c d a b) ifs tc)
  (t:∀(C:Addr) (c:Shared) (d:Hp) (a:yae) (b:yaa),P5 (bI X sc ns xs C c d a b) elt te) (l:closureFor sc X.env=pure (et X.env ns):=by rfl) (hs:∀x,foldedSetIterable iter X.env x=pure x:=by intro _;rfl) :
  P5 X (.ListComp elt [⟨.Tuple es kt tp,iter,ifs,0⟩] sc pos) (Ew xs.length wi js tc te):=by
 intro f s i H W e Q I r h;refine wpAny_comprehension_free (use:=none) rfl hs l S.kind S.names (Px (j f s i H W e _ I r h) λv E e=>Px e λXg B h=>?_);obtain⟨G,a,tn,J,H2,M,e,w,l,T,u,s,m,o,Pv,n,step,j⟩:=h;subst e;refine mY (RR:=λh C=>compPost (model X.prog X.w) X.A X.xe none (DP X f i W H Q) h C) k S q (Ed:=λ_=>False) (λC c d a b _=>t C c d a b) (λC c d a b _=>p C c d a b) (λ_ _=>eJ.no) w (r.same l) (λC c d a b=>ua (X:=bI X sc ns xs C c d a b) k (ud S 0 g λk y q=>by simpa using q) (Yc.len g).1 (Yc.len g).2) T u s m o Pv n (stepT step) ?_;intro D C m b c a u k q p i h f d ⟨g,n,A,o,t⟩ pv;have s:Den X.K W.bad b (.lst true a) (.ref D):=Den.lst ((r.same l).fresh g) (.new o n) (t.P4 λ_ _ z=>.inl z);refine⟨c,q,λL c=>?_⟩;exact⟨.ref D,b,_,u.turned (t':=m.toks) (λb o g e=>(c.2 b g).trans e) p i (.inr h) f d,rfl,l.trans k,s,j a pv⟩
end
def jc{b:Type}{n:Nat}{wi:DA}{js:yag}{tc:DT}{te:DE}{Q:D->Prop}(a:List b)(f:b->yas)(c:b->Bool)(g:b->D)(d:∀R:yas->Prop,R (a.map λz=>.tup (f z))->wi ρ R)(hz:a.length<=sizeLine)(h:∀z,(f z).length=n)
  (l:∀z∈a,∀K:Bool->Prop,K (c z)->tc (kg (f z)++js.map (bJ ρ)) K) (k:∀z∈a,c z=true->∀K:D->Prop,K (g z)->te (kg (f z)++js.map (bJ ρ)) K) (q:Q (.lst true ((a.filter c).map g))):Ew n wi js tc te ρ Q:=by
 refine d _ ⟨by simp_all,λj b=>b=((a.take j).filter c).map g,by simp,λj d b c d=>?_,λb d=>?_⟩;rw[QZ]at c;cases ex:a[j]? with
 |none=>simp_all
 |some x =>
  rw[ex]at c;have i:x∈a:=Rt ex;have e:a.take (j+1)=a.take j++[x]:=by simp_all [Ys]
  grind
 grind
def MX(b:Bool):okD (.bl b):=by unfold okD;rw[R9,VA]<;>first|exact⟨rfl,rfl⟩| (intros;contradiction)
def HB(i:Int):okD (.int i)=True:=eq_true (BS i)
def Km(b:Bool):okD (.bl b)=True:=eq_true (MX b)
def HC:okD .Qe=True:=eq_true Kn
def ko(i j:Int):eqD (.int i) (.int j)=decide (i=j):=by rfl
def EK(i j:Bool):eqD (.bl i) (.bl j)=decide (i=j):=by
 cases i<;>cases j<;>rfl
def ML(t:Bool)(xs:yas)(R:yas->Prop):(∃t' ds,D.lst t xs=.lst t' ds/\R ds)=R xs:=by lia
def JT(ds:yas)(r:Ro)(R:yas->Prop):(∃a,(some (Sl.own ds)::r)[0]?=some (some (Sl.own a))/\R a)=R ds:=by apply propext;constructor;rintro⟨_,e,q⟩;have a:some (some (Sl.own ds))=some (some (Sl.own _)):=e;cases a;exact q;intro q;exact⟨ds,rfl,q⟩
theorem JU(n:Nat)(x:Option Sl)(r:Ro)(R:yas->Prop):(∃a,(x::r)[n+1]?=some (some (Sl.own a))/\R a)=(∃a,r[n]?=some (some (Sl.own a))/\R a):=rfl
theorem MB(d:D)(r:Ro):bJ (some (.val d)::r) 0=some (.val d):=rfl
theorem MD(r:Ro):bJ (none::r) 0=none:=rfl
theorem MC(n:Nat)(x:Option Sl)(r:Ro):bJ (x::r) (n+1)=bJ r n:=rfl
def LC{x y z:Int}(h:¬(x=0/\y=0/\z=0))(i:Bd n x)(g:Bd n y)(hz:Bd n z):Bd n (PM.RG x y z l):=by
 unfold Bd at *;rw[PM.BB];have c:=zC8.mpr (PM.rX x y z);have b:=zC8.mpr (PM.vp x y z);have a:=zC8.mpr (PM.vq x y z);simp only[Int.natAbs_natCast]at c b a;by_cases f:x=0;by_cases d:y=0;have j:z≠0:=λe=>h ⟨f,d,e⟩
 have:=Nat.le_of_dvd (by lia) a
 lia
 have:=Nat.le_of_dvd (by lia) b
 lia
 have:=Nat.le_of_dvd (by lia) c
 lia
noncomputable def sg(n:Int):Int:=if 0<n then 1 else if n<0 then -1 else 0
def rk(a0 c e a b d:Int):Int:=if sg (c*a - b*a0)=0 then sg (e*a - d*a0)else sg (c*a - b*a0)
noncomputable def sw(a0 f e h d c g b a:Int):Int:=a0*(d*a - b*c)+h*(b*e - f*a)+g*(f*c - d*e)
structure Pl(n:Nat)(a b c:Int):Prop where
 pos:0<a
 low:PM.g3 a b c=1
 b0:Bd n a
 b1:Bd n b
 b2:Bd n c
def jX{d k x y z:Int}(f:d∣k*x)(e:d∣k*y)(c:d∣k*z)(b:PM.g3 x y z=1):d∣k:=by
 have a:d∣(Int.gcd (k*x) (k*y):Int):=zCw f e;rw[zDC]at a;have e:d∣k*(Int.gcd x y:Int):=by
  have:((k.natAbs*Int.gcd x y:Nat):Int)∣k*(Int.gcd x y:Int):=by rw[Int.natCast_mul];exact Int.mul_dvd_mul (Int.natAbs_dvd.mpr (by simp_all)) (by simp_all)
  exact Zc a this
 have a:d∣(Int.gcd (k*(Int.gcd x y:Int)) (k*z):Int):=zCw e c;rw[zDC]at a;have c:Int.gcd (Int.gcd x y:Int) z=1:=b;rw[c,Nat.mul_one]at a;exact Zc a (Int.natAbs_dvd.mpr (by simp_all))
def Nf(b x y:Int):D:=T3 (b.fdiv (PM.RG b x y b)) (x.fdiv (PM.RG b x y b)) (y.fdiv (PM.RG b x y b))
structure Pa(d:D)(b x y:Int):Prop where
 ex:∃p q r,d=T3 p q r/\Bd 4000 p/\Bd 4000 q/\Bd 4000 r/\0<p/\p*x=b*q/\p*y=b*r/\PM.g3 p q r=1
end PD
namespace PZ
open PySem PySem.Spec PyProof.Rows
def Td:Bool->Heap->Addr->Addr->Nat->Prop
 |true,h,b,a,i=>h.IsListIter b a i
 |false,h,b,a,i=>h.IsTupleIter b a i
def Sm:Bool->Heap->Addr->yao->Prop
 |true,h,a,b=>h.IsList a b
 |false,h,a,b=>h.IsTuple a b
def jh:Bool->String
 |true => "list_iterator"
 |false => "tuple_iterator"
section
variable{k:Bool}{h h':Heap}{it a b:Addr}{i:Nat}{xs:yao}
def Td.of(x:Td k h it a i)(e:∀o,h.get? it=some o->h'.get? it=some o):Td k h' it a i:=by
 cases k with
 |true=>obtain⟨o,c,r⟩:=x;exact⟨o,e o c,r⟩
 |false=>obtain⟨o,c,r⟩:=x;exact⟨o,e o c,r⟩
def Sm.of(x:Sm k h a xs)(e:∀o,h.get? a=some o->h'.get? a=some o):Sm k h' a xs:=by
 cases k with
 |true=>obtain⟨o,c,r⟩:=x;exact⟨o,e o c,r⟩
 |false=>obtain⟨o,c,r⟩:=x;exact⟨o,e o c,r⟩
def Td.obj(x:Td k h it a i):∃o,h.get? it=some o/\o.cls=.type (jh k)/\o.data=.fields #[.ref a,.int i 0]:=by
 cases k with
 |true=>exact x
 |false=>exact x
def Sm.obj(x:Sm k h a xs):∃o n,h.get? a=some o/\o.data=.seq xs n:=by
 cases k with
 |true=>obtain⟨o,c,_,n,r⟩:=x;exact⟨o,n,c,r⟩
 |false=>obtain⟨o,c,_,n,r⟩:=x;exact⟨o,n,c,r⟩
end
section
variable{prog:Program}{w:World}{A:Around}{E:yaa}{s:Shared}{k:Bool}{it a:Addr}{i:Nat}{xs:yao}
def ur{x:Value}{Q:yaa}(d:Td k s.heap it a i)(hs:Sm k s.heap a xs)(f:xs[i]?=some x)(g:∀h',Td k h' it a (i+1)->Heap.SameBut it s.heap h'->Q x {s with heap:=h'}) :
  wpAny (model prog w) A (Builtin.SmallTypes.nextOf (.ref it)) Q E s:=by
 cases k with
 |true=>exact wpAny_nextOf_list_item d hs f g
 |false =>
  obtain⟨o,c,j,b⟩:=id d;obtain⟨l,h,_,m,e⟩:=hs;refine Pk (Yl (name:=Str.ofString "__next__") (zCt d) F.slot_tuple_iterator_next (Wj F.slot_tuple_iterator_next (zCt d) F.entry_tuple_iterator_next ?_ (F.args_tuple_iterator_next_1 _)));show wpAny _ _ (field (.ref it) 0 >>= _) _ _ s;refine Pk (TC c b (x:=.ref a) rfl ?_);refine Pk (TC c b (x:=.int i 0) rfl ?_);refine Pk (Wl h e ?_);simp only[Int.toNat_natCast,f];refine Pk (zDA c b (by simp) (wpAny_pure ⟨x,rfl,wpAny_pure (g _ ⟨_,WY _ c (Obj.isFreed_of_fields (Obj.data_mapFields b _)),(Obj.cls_mapFields ..).trans j,by rw[Obj.data_mapFields b];simp[rawInt]⟩ (Y5 ..))⟩))
def Dg(d:A.handled=none)(b:Td k s.heap it a i)(hs:Sm k s.heap a xs)(g:xs[i]?=none)
  (h:∀h' e,Heap.ExtBut it s.heap h'->(∃o,h'.get? e=some o/\o.cls=.type "StopIteration")->E (.ref e) {s with heap:=h'}):wpAny (model prog w) A (Builtin.SmallTypes.nextOf (.ref it)) Q E s:=by
 cases k with
 |true=>exact wpAny_nextOf_list_end d b hs g h
 |false =>
  obtain⟨o,c,p,f⟩:=id b;obtain⟨l,j,_,n,e⟩:=hs;refine Pk (Yl (name:=Str.ofString "__next__") (zCt b) F.slot_tuple_iterator_next (Wj F.slot_tuple_iterator_next (zCt b) F.entry_tuple_iterator_next ?_ (F.args_tuple_iterator_next_1 _)));show wpAny _ _ (field (.ref it) 0 >>= _) _ _ s;refine Pk (TC c f (x:=.ref a) rfl ?_);refine Pk (TC c f (x:=.int i 0) rfl ?_);refine Pk (Wl j e ?_);simp only[Int.toNat_natCast,g];refine Pk (wpAny_rule (Pk (zDA c f (by simp) ?_)));refine Pk ?_;refine Pk (m:=firstArgMember _ _) (wpAny_of_eq (a:=Value.none) (by rfl) ?_);refine XQ ?_ (by size_fits);refine Pk (wpAny_handled ?_);first|rw[show A.in1.handled=none from d]|rw[d]
  exact Pk (wpAny_pure (wpAny_throw (h _ _ (((Y5 ..).extBut.push _).push _) ⟨_,Sv _ rfl,rfl⟩)))
end
structure Ap(z TI TO i1 i2:Addr):Prop where
 a1:TI≠z
 a2:TO≠z
 a3:i1≠z
 a4:i2≠z
 a5:TI≠TO
 a6:TI≠i1
 a7:TI≠i2
 a8:TO≠i1
 a9:TO≠i2
 b1:i1≠i2
structure Out(z TO i1 i2 l:Addr):Prop where
 c1:l≠z
 c2:l≠TO
 c3:l≠i1
 c4:l≠i2
structure Zs(k1 k2:Bool)(z TI TO i1 i2 l1 l2:Addr)(i:Nat)(h:Heap):Prop where
 z:IsZip h z TI TO .none
 ti:IsPair h TI (.ref i1) (.ref i2)
 to:∃a b,IsPair h TO a b
 s1:Td k1 h i1 l1 i
 s2:Td k2 h i2 l2 i
section
variable{prog:Program}{w:World}{A:Around}{E:yaa}{s:Shared}{k1 k2:Bool}{z TI TO i1 i2 l1 l2:Addr}{i:Nat}{xs ys:yao}
def Jq{x y:Value}{Q:yan->Shared->Prop}(D:Ap z TI TO i1 i2)(l:Out z TO i1 i2 l1)(j:Out z TO i1 i2 l2)(Z:Zs k1 k2 z TI TO i1 i2 l1 l2 i s.heap)(f:Sm k1 s.heap l1 xs)(r:Sm k2 s.heap l2 ys)(h:xs[i]?=some x)(t:ys[i]?=some y)
  (G:∀h',IsZip h' z TI TO (rawInt s.heap.objs.size)->IsPair h' TI (.ref i1) (.ref i2)->IsPair h' TO x y->Td k1 h' i1 l1 (i+1)->Td k2 h' i2 l2 (i+1)->IsPair h' s.heap.objs.size x y →
   (∀c o,c≠z->c≠TO->c≠i1->c≠i2->s.heap.get? c=some o->h'.get? c=some o)->Q (some (.ref s.heap.objs.size)) {s with heap:=h'}):wpAny (model prog w) A (pyNext (.ref z)) Q E s:=by
 obtain⟨d,C,⟨a,b,m⟩,k,B⟩:=Z;have e:s.TypeIs (.ref z) "zip" := ⟨_,d,rfl⟩;unfold pyNext;refine Pk (Ze (Yl (name:=Str.ofString "__next__") e F.slot_zip_next (Wj F.slot_zip_next e F.entry_zip_next ?_ (F.args_zip_next_1 _))));show wpAny _ _ (field (.ref z) 2 >>= _) _ _ _;refine Pk (TC d rfl (x:=.bool false) rfl ?_);show wpAny _ _ (field (.ref z) 3 >>= _) _ _ _;refine Pk (TC d rfl (x:=.ref TI) rfl (Pk (Wl C rfl ?_)));refine Pk ?_;unfold Builtin.SmallTypes.ownedTupleIsFree;refine Pk (TC d rfl (x:=.none) rfl (wpAny_pure ?_));simp only[if_true];refine Pk (wpAny_rule (Pk (TC d rfl (x:=.ref TO) rfl ?_)));refine Pk (ZI d (by simp) λd (u:IsZip d z TI TO .ellipsis) p=>Pk ?_);have g:∀c o,c≠z->s.heap.get? c=some o->d.get? c=some o:=λc o n e=>p.extBut c o n e
 refine Pk (Pk (wpAny_onRaise ?_));show wpAny _ _ (Builtin.SmallTypes.nextOf (.ref i1) >>= _) _ _ _;refine Pk (ur (s:={s with heap:=d}) (k.of λo e=>g _ o D.a3 e) (f.of λo e=>g _ o l.c1 e) h λh d l=>wpAny_pure ?_);have f:IsPair h TO a b:=l.extBut _ _ D.a8 (g _ _ D.a2 m);refine Pk (Wl f rfl (Pk (wpAny_updateSeq_pair f λg3 (q:IsPair g3 TO x b) k=>Pk (wpAny_letGo (wpAny_pure ?_)))));have m:∀c o,c≠z->c≠TO->c≠i1->s.heap.get? c=some o->g3.get? c=some o:=λc o f d h e=>k.extBut c o d (l.extBut c o h (g c o f e))
 refine Pk (Pk (wpAny_onRaise ?_));show wpAny _ _ (Builtin.SmallTypes.nextOf (.ref i2) >>= _) _ _ _;refine Pk (ur (s:={s with heap:=g3}) (B.of λo e=>m _ o D.a4 (Ne.symm D.a9) (Ne.symm D.b1) e) (r.of λo e=>m _ o j.c1 j.c2 j.c3 e) t λr g j=>wpAny_pure ?_);have a:IsPair r TO x b:=j.extBut _ _ D.a9 q;refine Pk (Wl a rfl (Pk (wpAny_updateSeq_pair a λa (q:IsPair a TO x y) b=>Pk (wpAny_letGo (wpAny_pure (wpAny_pure ?_))))));refine Pk (Wl q rfl (Pk (wpAny_newTuple ?_)));have r:a.objs.size=s.heap.objs.size:=by rw[b.1,j.1,k.1,l.1,p.1]
 have t:∀c o,c≠z->c≠TO->c≠i1->c≠i2->s.heap.get? c=some o->a.get? c=some o:=λc o f d h g e=>b.extBut c o d (j.extBut c o g (m c o f d h e))
 have p:IsZip a z TI TO .ellipsis:=b.extBut _ _ (Ne.symm D.a2) (j.extBut _ _ (Ne.symm D.a4) (k.extBut _ _ (Ne.symm D.a2) (l.extBut _ _ (Ne.symm D.a3) u)));have l:Td k1 a i1 l1 (i+1):=d.of λo e=>b.extBut _ o (Ne.symm D.a8) (j.extBut _ o D.b1 (k.extBut _ o (Ne.symm D.a8) e))
 have k:Td k2 a i2 l2 (i+1):=g.of λo e=>b.extBut _ o (Ne.symm D.a9) e
 have m:z<a.objs.size:=Qp p;refine Pk ?_;unfold Builtin.SmallTypes.ownedTupleHandOut;have b:IsZip (a.push {cls:=.type "tuple", data:=.seq #[x,y]}) z TI TO .ellipsis:=QN _ p;refine Pk (ZI b (by simp) λj (b:IsZip j z TI TO (rawInt a.objs.size)) B=>ZI b (by simp) λj (p:IsZip j z TI TO (rawInt a.objs.size)) u=>wpAny_pure ?_);have b:∀c o,c≠z->a.get? c=some o->j.get? c=some o:=λc o n e=>u.extBut c o n (B.extBut c o n (QN _ e))
 have p8:IsPair j a.objs.size x y:=u.extBut _ _ (Vw m) (B.extBut _ _ (Vw m) (Sv _ rfl));refine⟨_,rfl,?_⟩;rw[r]at p p8;refine wpAny_pure ?_;show Q (some (.ref a.objs.size)) _;rw[r];exact G j p (b _ _ D.a1 (t _ _ D.a1 D.a5 D.a6 D.a7 C)) (b _ _ D.a2 q) (l.of λo e=>b _ o D.a3 e) (k.of λo e=>b _ o D.a4 e) p8 λc o f d h g e=>b c o f (t c o f d h g e)
def Jr{Q:yan->Shared->Prop}(C:A.handled=none)(D:Ap z TI TO i1 i2)(I:Out z TO i1 i2 l1)(u:Out z TO i1 i2 l2)(Z:Zs k1 k2 z TI TO i1 i2 l1 l2 i s.heap)(B:Sm k1 s.heap l1 xs)(J:Sm k2 s.heap l2 ys)(N:xs[i]?=none∨ys[i]?=none)
  (G:∀h',(∀c o,c≠z->c≠TO->c≠i1->c≠i2->s.heap.get? c=some o->h'.get? c=some o)->Q none {s with heap:=h'}):wpAny (model prog w) A (pyNext (.ref z)) Q E s:=by
 obtain⟨d,f,⟨a,b,O⟩,H,M⟩:=Z;have e:s.TypeIs (.ref z) "zip" := ⟨_,d,rfl⟩;unfold pyNext;refine Pk (Ze (Yl (name:=Str.ofString "__next__") e F.slot_zip_next (Wj F.slot_zip_next e F.entry_zip_next ?_ (F.args_zip_next_1 _))));show wpAny _ _ (field (.ref z) 2 >>= _) _ _ _;refine Pk (TC d rfl (x:=.bool false) rfl ?_);refine Pk (TC d rfl (x:=.ref TI) rfl (Pk (Wl f rfl ?_)));refine Pk ?_;refine Pk (TC d rfl (x:=.none) rfl (wpAny_pure ?_));simp only[if_true];refine Pk (wpAny_rule (Pk (TC d rfl (x:=.ref TO) rfl ?_)));refine Pk (ZI d (by simp) λm (y:IsZip m z TI TO .ellipsis) d=>Pk ?_);have g:∀c o,c≠z->s.heap.get? c=some o->m.get? c=some o:=λc o n e=>d.extBut c o n e
 refine Pk (Pk (wpAny_onRaise ?_));cases hx:xs[i]? with
 |none =>
  refine Pk (Dg (s:={s with heap:=m}) C (H.of λo e=>g _ o D.a3 e) (B.of λo e=>g _ o I.c1 e) hx λt e h r=>?_);obtain⟨n,f,k⟩:=r;have d:IsZip t z TI TO .ellipsis:=h _ _ (Ne.symm D.a3) y;have p:e≠z:=λq=>by subst q;rw[d]at f;cases f;simp at k
  refine ZI d (by simp) λg3 _ l=>Pk (ZP (T := "StopIteration") (b:=true) ⟨n,l.extBut _ _ p f,k⟩ isSubtype_stop ?_)
  exact wpAny_pure (G g3 λc o d _ j _ q=>l.extBut c o d (h c o j (g c o d q)))
 |some x =>
  have L:ys[i]?=none:=by
   rcases N with q|q;rw[hx]at q;cases q;exact q
  refine Pk (ur (s:={s with heap:=m}) (H.of λo e=>g _ o D.a3 e) (B.of λo e=>g _ o I.c1 e) hx λt m h=>wpAny_pure ?_);have x:IsPair t TO a b:=h.extBut _ _ D.a8 (g _ _ D.a2 O);refine Pk (Wl x rfl (Pk (wpAny_updateSeq_pair x λg3 U l=>Pk (wpAny_letGo (wpAny_pure ?_)))));have a:∀c o,c≠z->c≠TO->c≠i1->s.heap.get? c=some o->g3.get? c=some o:=λc o d m j e=>l.extBut c o m (h.extBut c o j (g c o d e))
  refine Pk (Pk (wpAny_onRaise ?_));refine Pk (Dg (s:={s with heap:=g3}) C (M.of λo e=>a _ o D.a4 (Ne.symm D.a9) (Ne.symm D.b1) e) (J.of λo e=>a _ o u.c1 u.c2 u.c3 e) L λu e t r=>?_);obtain⟨n,f,k⟩:=r;have g:IsZip u z TI TO .ellipsis:=t _ _ (Ne.symm D.a4) (l.extBut _ _ (Ne.symm D.a2) (h.extBut _ _ (Ne.symm D.a3) y));have p:e≠z:=λq=>by subst q;rw[g]at f;cases f;simp at k
  refine ZI g (by simp) λg _ e=>Pk (ZP (T := "StopIteration") (b:=true) ⟨n,e.extBut _ _ p f,k⟩ isSubtype_stop ?_)
  exact wpAny_pure (G g λc o d m j b q=>e.extBut c o d (t c o b (a c o d m j q)))
def Jb{Q:yaa}(q:Sm k s.heap a xs)(b:Q (.ref s.heap.objs.size) {s with heap:=s.heap.push {cls:=.type (jh k),data:=.fields #[.ref a,.int 0 0]} }):wpAny (model prog w) A (pyIter (.ref a)) Q E s:=by
 cases k with
 |true=>exact wpAny_pyIter_list q b
 |false=>exact wpAny_pyIter_tuple q b
end
abbrev zp1(k1:Bool)(h:Heap)(l1:Addr):Heap:=h.push {cls:=.type (jh k1),data:=.fields #[.ref l1,.int 0 0]}
abbrev zp2(k1 k2:Bool)(h:Heap)(l1 l2:Addr):Heap:=(zp1 k1 h l1).push {cls:=.type (jh k2),data:=.fields #[.ref l2,.int 0 0]}
abbrev zp3 (k1 k2:Bool) (h:Heap) (l1 l2:Addr):Heap:=(zp2 k1 k2 h l1 l2).push {cls:=.type "tuple", data:=.seq #[.ref h.objs.size,.ref (zp1 k1 h l1).objs.size]}
abbrev zp4 (k1 k2:Bool) (h:Heap) (l1 l2:Addr):Heap:=(zp3 k1 k2 h l1 l2).push {cls:=.type "tuple", data:=.seq #[.none,.none]}
abbrev zp5 (k1 k2:Bool) (h:Heap) (l1 l2:Addr):Heap:=(zp4 k1 k2 h l1 l2).push {cls:=.type "zip", data:=.fields #[.none,.bool false,.bool false,.ref (zp2 k1 k2 h l1 l2).objs.size,.ref (zp3 k1 k2 h l1 l2).objs.size]}
def O8 (k1 k2:Bool) (l1 l2:Addr) (xs ys:yao):Meets (Builtin.«zip.__new__» ⟨[.type "zip", .ref l1,.ref l2],[]⟩) (λ_ R s=>Sm k1 s.heap l1 xs/\Sm k2 s.heap l2 ys/\R (.ok (.ret (.ref (zp4 k1 k2 s.heap l1 l2).objs.size))) {s with heap:=zp5 k1 k2 s.heap l1 l2}) :=
 .of_wp λb w A R s h=>by
  obtain⟨e,g,d,a,os⟩:=s;obtain⟨i,f,h⟩:=h;have c:=sub_zip;have j:Sm k1 (Shared.heap ⟨e,g,d,a,os⟩) l1 xs:=i;have i:Sm k2 (Shared.heap ⟨e.push {cls:=.type (jh k1),data:=.fields #[.ref l1,.int 0 0]},g,d,a,os⟩) l2 ys:=f.of λo e=>QN _ e
  wp_walk using Jb j,Jb i
  exact⟨_,rfl,h⟩
section
variable{prog:Program}{w:World}{A:Around}{E:yaa}{s:Shared}{k1 k2:Bool}{l1 l2:Addr}{xs ys:yao}
def Jp{Q:yaa}(d:Sm k1 s.heap l1 xs)(b:Sm k2 s.heap l2 ys)
  (k:∀h',Zs k1 k2 (s.heap.objs.size+4) (s.heap.objs.size+2) (s.heap.objs.size+3) s.heap.objs.size (s.heap.objs.size+1) l1 l2 0 h'->(∀c o,s.heap.get? c=some o->h'.get? c=some o)->Q (.ref (s.heap.objs.size+4)) {s with heap:=h'}) :
  wpAny (model prog w) A (call (.type "zip") [.ref l1,.ref l2]) Q E s:=by
 refine callType_new F.called_zip (by decide) (F.typeCall_zip_2 _ _) (F.newCall_zip_2 _ _) (λa=>F.args_object_init_3 a _ _) F.entry_zip_new (O8 k1 k2 l1 l2 xs ys) ⟨d,b,?_⟩;have i:(zp1 k1 s.heap l1).objs.size=s.heap.objs.size+1:=Yr ..;have h:(zp2 k1 k2 s.heap l1 l2).objs.size=s.heap.objs.size+2:=by rw[Yr,i]
 have g:(zp3 k1 k2 s.heap l1 l2).objs.size=s.heap.objs.size+3:=by rw[Yr,h]
 have m:(zp4 k1 k2 s.heap l1 l2).objs.size=s.heap.objs.size+4:=by rw[Yr,g]
 have a:∀c o,(zp4 k1 k2 s.heap l1 l2).get? c=some o->(zp5 k1 k2 s.heap l1 l2).get? c=some o:=λc o e=>QN _ e
 have b:∀c o,(zp3 k1 k2 s.heap l1 l2).get? c=some o->(zp5 k1 k2 s.heap l1 l2).get? c=some o:=λc o e=>a c o (QN _ e)
 have d:∀c o,(zp2 k1 k2 s.heap l1 l2).get? c=some o->(zp5 k1 k2 s.heap l1 l2).get? c=some o:=λc o e=>b c o (QN _ e)
 have f:∀c o,(zp1 k1 s.heap l1).get? c=some o->(zp5 k1 k2 s.heap l1 l2).get? c=some o:=λc o e=>d c o (QN _ e)
 have l:(zp5 k1 k2 s.heap l1 l2).get? (zp4 k1 k2 s.heap l1 l2).objs.size=some _:=Sv _ rfl;have n:=a _ _ (Sv (zp3 k1 k2 s.heap l1 l2) (o:={cls:=.type "tuple", data:=.seq #[.none,.none]}) rfl);have g3:=b _ _ (Sv (zp2 k1 k2 s.heap l1 l2) (o:={cls:=.type "tuple", data:=.seq #[.ref s.heap.objs.size,.ref (zp1 k1 s.heap l1).objs.size]}) rfl);have p:=d _ _ (Sv (zp1 k1 s.heap l1) (o:={cls:=.type (jh k2),data:=.fields #[.ref l2,.int 0 0]}) rfl);have q:=f _ _ (Sv s.heap (o:={cls:=.type (jh k1),data:=.fields #[.ref l1,.int 0 0]}) rfl);have j:=k (zp5 k1 k2 s.heap l1 l2);rw[h,g,m]at l;rw[g]at n;rw[i,h]at g3;rw[i]at p;have b:∀{k:Bool} {h:Heap} {d a:Addr},h.get? d=some {cls:=.type (jh k),data:=.fields #[.ref a,.int 0 0]}->Td k h d a 0:=fun {k h d a} e=>by
  cases k with
  |true=>exact⟨_,e,rfl,rfl⟩
  |false=>exact⟨_,e,rfl,rfl⟩
 rw[m];exact⟨⟨_,l,rfl⟩,j ⟨l,g3,⟨_,_,n⟩,b q,b p⟩ λc o e=>f c o (QN _ e)⟩
end
end PZ
namespace PD
open PySem PySem.Spec PyProof.Rows L2 PZ
def UC(K:yac):Bool->Hp->Addr->yar->Prop
 |true=>SqL K
 |false=>L2.Ql K
section
variable{X:Cx}{pins:yab}{σ:St}{H:Hp}{s:Shared}{k:Bool}{a:Addr}{xs:yar}
theorem UC.list(I:Inv X pins σ H s)(h:UC X.K k H a xs):∃b:yad,Vals xs b/\Sm k s.heap a b.toArray:=by
 cases k with
 |true =>
  obtain⟨b,r,p,_⟩:=I.list h;exact⟨b,r,p.isList⟩
 |false =>
  obtain⟨b,r,p,_⟩:=I.tuple h;exact⟨b,r,p⟩
theorem UC.inj(I:Inv X pins σ H s)(h:UC X.K k H a xs)(h':UC X.K k H a ys):xs=ys:=by
 cases k with
 |true=>exact I.TL h h'
 |false=>exact I.Uz h h'
def UC.ne(I:Inv X pins σ H s)(f:eU X pins H b)(h:UC X.K k H a xs):a≠b:=λe=>by
 subst e;obtain⟨m,l,j,c,i,g⟩:=f;have d:∀o,X.K.lookup a=some o->False:=λo q=>by
  have b:=I.ok.mod.Zf a o q;rcases c with z|z;exact I.ok.VG a o b z;exact absurd (R7 (Qp (I.ok.bs a o b).1) z) (by simp_all)
 cases k with
 |true =>
  rcases h with(h|⟨o,h⟩)|⟨o,b,n,h,_⟩
  all_goals lia
 |false =>
  rcases h with(h|⟨o,h⟩)|⟨o,b,n,h,_⟩
  all_goals lia
end
def Itz(K:yac)(k1 k2:Bool)(a b:Addr):It :=
 ⟨λi H=>∃d c x y,UC K k1 H a d/\UC K k2 H b c/\d[i]?=some x/\c[i]?=some y,
  λi H v e=>∃T x y,v=.ref T/\H T=none/\e=L2.upd H T (.tup [x,y])/\(∀d,UC K k1 H a d->d[i]?=some x)/\∀c,UC K k2 H b c->c[i]?=some y,
  λi H=>∃d c,UC K k1 H a d/\UC K k2 H b c/\(d[i]?=none∨c[i]?=none)⟩
def Iy{P:Program}{w:World}{K:yac}{es:yai}{d:Nat}{c:Pos}(k1 k2:Bool)(a b z TI TO i1 i2:Addr)(D:Ap z TI TO i1 i2) :
  Turn P w K (.Tuple es d c) (Itz K k1 k2 a b) [z,TI,TO,i1,i2] z (λi h=>Zs k1 k2 z TI TO i1 i2 a b i h) where
 mem:=by simp
 obj:=λi h st c d=>by
  obtain⟨C,J,⟨x,y,G⟩,r,m⟩:=st;simp only[Qg,Uw,or_false]at d;rcases d with e|e|e|e|e<;>subst e;exact⟨_,C,λv q=>by cases q⟩;exact⟨_,J,λv q=>by cases q⟩;exact⟨_,G,λv q=>by cases q⟩;obtain⟨o,g,_,t⟩:=r.obj;exact⟨o,g,λv q=>by rw[t]at q;cases q⟩;obtain⟨o,g,_,t⟩:=m.obj;exact⟨o,g,λv q=>by rw[t]at q;cases q⟩
 keep:=λi h h' st w=>by obtain⟨C,J,⟨x,y,G⟩,r,m⟩:=st;exact⟨w z (by simp) _ C,w TI (by simp) _ J,⟨x,y,w TO (by simp) _ G⟩,r.of λo e=>w i1 (by simp) o e,m.of λo e=>w i2 (by simp) o e⟩
 item:=by
  intro X hP Y hK d i B s σ H E I f st hg;subst hP Y hK;obtain⟨xs,ys,x,y,g,t,hx,hy⟩:=hg;obtain⟨us,O,U⟩:=g.list I;obtain⟨ws,N,T⟩:=t.list I;obtain⟨u,p,ru⟩:=O.get hx;obtain⟨v,n,rv⟩:=N.get hy;have j:∀{k:Bool} {l:Addr} {M:yar},UC X.K k H l M->Out z TO i1 i2 l:=λq=>⟨q.ne I (f z (by simp)),q.ne I (f TO (by simp)),q.ne I (f i1 (by simp)),q.ne I (f i2 (by simp))⟩
  refine Jq D (j g) (j t) st U T (x:=u) (y:=v) (by simpa using p) (by simpa using n) λh' n ti to r m pr w=>⟨_,rfl,wpAny_letOwnedTupleGo_zip n λL Q sb=>?_⟩
  have n:s.heap.objs.size<=s.heap.objs.size:=Qu _;have nz:s.heap.objs.size≠z:=Vw (Qp st.z);have A:H s.heap.objs.size=none:=I.PW.fresh n;have p:∀c o,c ∉ [z,TI,TO,i1,i2]->s.heap.get? c=some o->L.get? c=some o:=λc o n e=>by simp only[Qg,Uw,or_false,not_or]at n;exact sb.extBut c o n.1 (w c o n.1 n.2.2.1 n.2.2.2.1 n.2.2.2.2 e)
  have VJ:Zs k1 k2 z TI TO i1 i2 a b (i+1) L:=⟨Q,sb.extBut _ _ D.a1 ti,⟨_,_,sb.extBut _ _ D.a2 to⟩,r.of λo e=>sb.extBut _ o D.a3 e,m.of λo e=>sb.extBut _ o D.a4 e⟩;have Q:IsPair L s.heap.objs.size u v:=sb.extBut _ _ nz pr;have lo:∀c ∈ [z,TI,TO,i1,i2],c≠s.heap.objs.size:=λc d e=>by
   have a:c<s.heap.objs.size:=by
    obtain⟨C,J,⟨x',y',G⟩,m,b⟩:=st;simp only[Qg,Uw,or_false]at d;rcases d with q|q|q|q|q<;>subst q;exact Qp C;exact Qp J;exact Qp G;obtain⟨o,g,_⟩:=m.obj;exact Qp g;obtain⟨o,g,_⟩:=b.obj;exact Qp g
   rw[e]at a;exact Xa _ a
  refine⟨.ref s.heap.objs.size,L2.upd H s.heap.objs.size (.tup [x,y]),?_,rfl,⟨_,x,y,rfl,A,rfl,λxs' q=>by rw[q.inj I g];exact hx,λys' q=>by rw[q.inj I t];exact hy⟩,VJ,λc d=>by rw[aC (lo c d)];exact(f c d).1⟩;have b:∀c o,H c=some o->c ∉ [z,TI,TO,i1,i2]:=λc o e d=>by have:=(f c d).1;rw[e]at this;cases this
  refine L2.Inv.step (s:=s) (h':=L) (g':=s.gens) (d':=s.drawn) (t':=s.toks) (ch:=[z,TI,TO,i1,i2]) I (λc d=>?_) (λc o _ _ n e _=>p c o n e) (λc o _ _ n e _=>⟨o.slots,p c o n e⟩) (λc o _ e n=>by rw[aC (QU (Qp e))];exact n) (λc o n e=>⟨o,p c o n e⟩)
   (λc ls e=>by rw[aC (aT e A)];exact e) (λc o ls e=>by rw[aC (aT e A)];exact e) (λc ps e=>⟨#[],by rw[aC (aT e A),e];simp⟩) (λm y=>?_) (λc o e=>?_) I.bare
  obtain⟨f0,L,f2,J,G,C⟩:=f c d;exact⟨J,L,G,C⟩;obtain⟨o,To,ep,x,r⟩:=y;exact⟨o,To,ep,p _ o (λq=>(f _ q).2.1 rfl) x,r⟩;by_cases a:c=s.heap.objs.size;subst a;rw[aJ]at e;cases e;exact⟨by rw[sizeLine_eq];show 2<=16777216;decide,[u,v],.cons ru (.cons rv .nil),⟨_,Q,rfl,_,rfl⟩⟩;rw[aC a]at e;refine(I.PW c o e).S9 (λd' a u q=>p d' a ?_ q) (λd' q=>by rw[aC (aT q A)];exact q) λd' ls q=>by rw[aC (aT q A)];exact q
  rcases u with q'|q';rw[q'];exact b c o e;exact b d' _ q'
 done:=by
  intro X hP Y hK d i B s σ H E I f st hg;subst hP Y hK;obtain⟨xs,ys,g,t,i⟩:=hg;obtain⟨us,O,U⟩:=g.list I;obtain⟨ws,N,T⟩:=t.list I;have j:∀{k:Bool} {l:Addr} {M:yar},UC X.K k H l M->Out z TO i1 i2 l:=λq=>⟨q.ne I (f z (by simp)),q.ne I (f TO (by simp)),q.ne I (f i1 (by simp)),q.ne I (f i2 (by simp))⟩
  refine Jr (I.ok.hd d) D (j g) (j t) st U T (i.imp (λq=>by simpa using O.none_of q) λq=>by simpa using N.none_of q) λh' w=>⟨rfl,?_⟩
  have p:∀c o,c ∉ [z,TI,TO,i1,i2]->s.heap.get? c=some o->h'.get? c=some o:=λc o n e=>by simp only[Qg,Uw,or_false,not_or]at n;exact w c o n.1 n.2.2.1 n.2.2.2.1 n.2.2.2.2 e
  have b:∀c o,H c=some o->c ∉ [z,TI,TO,i1,i2]:=λc o e d=>by have:=(f c d).1;rw[e]at this;cases this
  refine L2.Inv.step (s:=s) (h':=h') (g':=s.gens) (d':=s.drawn) (t':=s.toks) (ch:=[z,TI,TO,i1,i2]) I (λc d=>?_) (λc o _ _ n e _=>p c o n e) (λc o _ _ n e _=>⟨o.slots,p c o n e⟩) (λ_ _ _ _ n=>n) (λc o n e=>⟨o,p c o n e⟩) (λ_ _ e=>e) (λ_ _ _ e=>e) (λc ps e=>⟨#[],by rw[e];simp⟩) (λm y=>?_) (λc o e=>?_) I.bare;obtain⟨f0,L,f2,J,G,C⟩:=f c d;exact⟨J,L,G,C⟩;obtain⟨o,To,ep,x,r⟩:=y;exact⟨o,To,ep,p _ o (λq=>(f _ q).2.1 rfl) x,r⟩;refine(I.PW c o e).S9 (λd' a u q=>p d' a ?_ q) (λ_ q=>q) λ_ _ q=>q
  rcases u with q'|q';rw[q'];exact b c o e;exact b d' _ q'
 self:=λ_ _ _ _ _ st h=>wpAny_pyIter_zip st.z h
def ip:D->Option (Bool×yas)
 |.lst _ a=>some (true,a)
 |.tup a=>some (false,a)
 |_=>none
section
variable{X:Cx}
def Den.seq{k:Bool}{ds:yas}(h:Den X.K P H d v)(e:ip d=some (k,ds)):∃a vs,v=.ref a/\UC X.K k H a vs/\aj X.K P H ds vs ∧
  ∀ (P':yak) (H':Hp),(∀a vs,Ql X.K H a vs->Ql X.K H' a vs)->(∀t a vs,¬P t a->RU X.K H t a vs->¬P' t a/\RU X.K H' t a vs)->UC X.K k H' a vs:=by
 cases d with
 |lst t f =>
  cases e;obtain⟨a,vs,c,p,q,b⟩:=h.Sr;exact⟨a,vs,c,q.1,b,λP' H' _ d=>(d t a vs p q).2.1⟩
 |tup f =>
  cases e;obtain⟨a,vs,c,q,b⟩:=h.RA;exact⟨a,vs,c,q.w,b,λP' H' b _=>(b a vs q).w⟩
 |Qe=>cases e
 |bl _=>cases e
 |int _=>cases e
 |str _=>cases e
 |exc _=>cases e
 |obj _ _ _=>cases e
 |Um=>cases e
 |ra _=>cases e
 |S6 _ _=>cases e
def Ma(b:DA):DA:=λa R=>b a λg=>∃d c f e b a,g=[d,c]/\ip d=some (f,b)/\ip c=some (e,a)/\R (List.zipWith (λx y=>D.tup [x,y]) b a)
def ug {a b:Expr} {p:Pos} (hg:Gl X "zip") (hm:X.mg "zip" = none) (ha:Uo X [a,b] ta) (hs:starEach [a,b] X.env=(false,eval a X.env)::starEach [b] X.env:=by rfl) (YG:(backTo pos (starEach [b] X.env)).any (·.1)=false:=by rfl) :
  VQ X (.Tuple es kt tp) (.Call (.Name "zip" p) [a,b] [] pos) (Ma ta):=by
 intro m s σ H W ρ R I r h;refine Call_ (cE I hg hm boot_zip (PyProof.Rows.callWith_type1 (Px (ha pos m s σ H W ρ _ I r h) λus f Py=>?_) hs YG));obtain⟨vs,H1,ds,n,r1,e1,hd,q1⟩:=Py;obtain⟨d1,d2,k1,k2,o,z,e,g1,g2,q⟩:=q1;subst e;obtain⟨v1,v2,rfl,VO,M⟩:=gA hd;obtain⟨l1,O,e2,C,l,up1⟩:=VO.seq g1;obtain⟨l2,N,e3,B,k,A⟩:=M.seq g2;subst e2 e3;cases r1 with
 |cons ra G =>
  cases G with
  |cons rb G =>
   cases G;cases ra;cases rb;obtain⟨us1,_,p1⟩:=C.list n;obtain⟨us2,_,p2⟩:=B.list n;have nn:∀j:Nat,f.heap.objs.size<=f.heap.objs.size+j:=λj=>ZO _ j
   refine Jp p1 p2 λh' Z kp=>?_
   refine wpAny_pyIter_zip Z.z ?_;have Dz:Ap (f.heap.objs.size+4) (f.heap.objs.size+2) (f.heap.objs.size+3) f.heap.objs.size (f.heap.objs.size+1):=by constructor<;>simp
   refine⟨f.heap.objs.size+4,[f.heap.objs.size+4,f.heap.objs.size+2,f.heap.objs.size+3,f.heap.objs.size,f.heap.objs.size+1],_,_,H1,_,rfl,n.kept (t':=f.toks) kp,e1,Iy k1 k2 l1 l2 _ _ _ _ _ Dz,Z,λc hc=>?_,?_,q⟩;have U8:f.heap.objs.size<=c:=by
    simp at hc;rcases hc with q|q|q|q|q<;>subst q<;>first|exact nn _|exact Qu _
   exact n.Xf U8 (n.PW.fresh U8);intro P' w t u hX i;have Q:=up1 P' w t u;have g:=A P' w t u;have n1:=l.len;have n2:=k.len;have Y:(List.zipWith (λx y=>D.tup [x,y]) o z).length=min o.length z.length:=List.length_zipWith;refine⟨λd=>?_,λv H3 y d=>?_,λd=>⟨O,N,Q,g,?_⟩⟩;obtain⟨x,L,_⟩:=l.get (i:=i) (d:=o[i]'(by lia)) (by simp);obtain⟨y,J,_⟩:=k.get (i:=i) (d:=z[i]'(by lia)) (by simp);exact⟨O,N,x,y,Q,g,L,J⟩;obtain⟨T,x,U,e,nT,eH,L,J⟩:=y;subst e eH;obtain⟨dx,UU,Uh⟩:=l.bJ (L O Q);obtain⟨dy,Xx,VM⟩:=k.bJ (J N g);have E:aw w (L2.upd w T (.tup [x,U])):=aw.upd nT;refine⟨E,.tup [dx,dy],by simp[List.getElem?_zipWith,UU,Xx],Den.tup (Ql.of aJ) (aj.cons ((Den.map t u hX dx x Uh).same E) (aj.one ((Den.map t u hX dy U VM).same E)))⟩;by_cases hz:o.length<=i;exact .inl (Y3 (by lia));exact .inr (Y3 (by lia))
end
open PySem PySem.Spec PyProof.Rows L2
inductive FDP (X:Cx) (pins:yab) (σ:St) (W:Own) (H:Hp) (Q:yas->Prop) (u:Value) (s':Shared):Prop
 |mk (a:Addr) (vs:yar) (H':Hp) (ds:yas) (_:u=.ref a) (_:Inv X pins σ H' s') (_:aw H H') (_:H a=none) (_:X.K.lookup a=none) (_:H' a=some (.lst vs)) (_:aj X.K (λt b=>W.bad t b∨b=a) H' ds vs) (_:Q ds)
def TP(X:Cx)(e:Expr)(t:DA):Prop :=
 ∀ (a:yab) (s:Shared) (b:St) (H:Hp) (W:Own) (c:Ro) (Q:yas->Prop),Inv X a b H s->Rel X W H b c->t c Q →
  wpAny (model X.prog X.w) X.A (eval e X.env) (FDP X a b W H Q) X.xe s
def LS(t:DA):DE:=λa Q=>t a λa=>Q (.lst true a)
section
variable{X:Cx}{e:Expr}{t:DA}{pos:Pos}
def TP.VW(h:TP X e t):P5 X e (LS t):=by
 intro a s b H W c Q I r d;refine Px (h a s b H W c _ I r d) λu j f=>?_
 obtain⟨a,i,h,l,e,g,b,n,k,d,c,q⟩:=f;subst e;exact⟨.ref a,h,_,g,rfl,b,Den.lst (r.fresh n) (.new d k) (c.P4 λ_ _ z=>.inl z),q⟩
def TP.of(h:PE X e te)(k:∀c H W ρ Q,Rel X W H c ρ->t ρ Q->te c H λv H'=>∃a vs ds d,v=.ref a/\aw H d/\d a=none/\H'=L2.upd d a (.lst vs)/\aj X.K W.bad d ds vs/\Q ds)(f:∀b c H s a vs,Inv X b c H s->H a=some (.lst vs)->X.K.lookup a=none):TP X e t:=by
 intro b s c H W ρ Q I r g;refine Px (h b s c H _ I (k c H W ρ Q r g)) λu j i=>?_
 obtain⟨v,H',b,g,a,vs,ds,d,e,c,n,h,d,q⟩:=i;subst e h;cases g;exact⟨a,vs,_,ds,rfl,b,c.trans (aw.upd n),c.free n,f _ _ _ _ a vs b aJ,aJ,aj.apart n (f _ _ _ _ a vs b aJ) d,q⟩
def Inv.kno{o:HO}(I:Inv X pins σ H s)(h:H a=some o):X.K.lookup a=none:=by
 cases e:X.K.lookup a with
 |none=>rfl
 |some b =>
  have:=(I.bs a b (I.ok.mod.Zf a b e)).2
  lia
def IT(i:Nat)(t:DA):DS:=λE a=>t a λb=>E.nx (a.set i (some (.own b)))
def JM{x:Str}(i:Nat)(m:X.N.Nodup)(f:TP X e t)(b:X.N[i]?=some x:=by rfl)(j:Loc X.env.scope x:=by first|exact Or.inl rfl|exact Or.inr rfl)(hs:swapsWith e (some (.Name x pos')) pos.line X.env=pure false:=by rfl)
  (l:X.fn x=true∨X.env.scope.names.lookup x=some .local:=by first|exact .inl rfl|exact .inr rfl|assumption):Sf X (.Assign [.Name x pos'] e pos) (IT i t):=by
 intro a s c H W d E I r h;refine zC7 (Px (f a s c H W d _ I r h) λu y o=>?_) hs;obtain⟨a,q,p,z,f,c,d,n,k,i,h,g⟩:=o;subst f;obtain⟨f,o⟩:=r.We (Inv.Vb c b) d n k i h;exact c8 (v:=.ref a) c m b j rfl (λw a=>⟨_,_,p,a,o,_,f,g⟩) l
end
mutual
def kJ:D->Bool
 |.tup a=>dO a
 |.obj _ _ a=>dO a
 |.S6 _ a=>dO a
 |.ra _=>false
 |.lst _ _=>false
 |_=>true
def dO:yas->Bool
 |[]=>true
 |d::a=>kJ d && dO a
end
mutual
def dj:D->Bool
 |.tup a=>gw a
 |.obj _ _ a=>gw a
 |.S6 _ a=>gw a
 |.ra _=>false
 |.lst t a=>t && gw a
 |_=>true
def gw:yas->Bool
 |[]=>true
 |d::a=>dj d && gw a
end
section
variable{K:yac}{P P':yak}{H:Hp}
mutual
theorem Den.Wu:∀(d:D) (v:V),kJ d=true->Den K P H d v->Den K P' H d v
 |.Qe,_,_,h=>by simpa only[Den]using h
 |.bl _,_,_,h=>by simpa only[Den]using h
 |.int _,_,_,h=>by simpa only[Den]using h
 |.str _,_,_,h=>by simpa only[Den]using h
 |.exc _,_,_,h=>by simpa only[Den]using h
 |.obj C f c,_,n,h=>by rw[kJ]at n;simp only[Den]at h ⊢;obtain⟨a,d,b,e,q,l,k,r⟩:=h;exact⟨a,d,b,e,q,l,k,aj.Wu c b n r⟩
 |.Um,_,_,h=>by simpa only[Den]using h
 |.S6 g c,_,n,h=>by rw[kJ]at n;simp only[Den]at h ⊢;obtain⟨a,o,d,b,e,q,l,k,r⟩:=h;exact⟨a,o,d,b,e,q,l,k,aj.Wu c b n r⟩
 |.ra _,_,n,_=>by rw[kJ]at n;cases n
 |.lst _ _,_,n,_=>by rw[kJ]at n;cases n
 |.tup c,_,n,h=>by rw[kJ]at n;simp only[Den]at h ⊢;obtain⟨a,b,e,q,r⟩:=h;exact⟨a,b,e,q,aj.Wu c b n r⟩
theorem aj.Wu:∀(ds:yas) (vs:yar),dO ds=true->aj K P H ds vs->aj K P' H ds vs
 |[],_,_,h=>by simpa only[aj]using h
 |d::ds,_,n,h=>by rw[dO,Yo]at n;simp only[aj]at h ⊢;obtain⟨v,r,e,b,a⟩:=h;exact⟨v,r,e,Den.Wu d v n.1 b,aj.Wu ds r n.2 a⟩
end
mutual
theorem Den.Vg(k:∀a,P' true a->P true a):∀(d:D) (v:V),dj d=true->Den K P H d v->Den K P' H d v
 |.Qe,_,_,h=>by simpa only[Den]using h
 |.bl _,_,_,h=>by simpa only[Den]using h
 |.int _,_,_,h=>by simpa only[Den]using h
 |.str _,_,_,h=>by simpa only[Den]using h
 |.exc _,_,_,h=>by simpa only[Den]using h
 |.obj C g c,_,n,h=>by rw[dj]at n;simp only[Den]at h ⊢;obtain⟨a,d,b,e,q,l,f,r⟩:=h;exact⟨a,d,b,e,q,l,f,aj.Vg k c b n r⟩
 |.Um,_,_,h=>by simpa only[Den]using h
 |.S6 i c,_,n,h=>by rw[dj]at n;simp only[Den]at h ⊢;obtain⟨a,o,d,b,e,q,l,f,r⟩:=h;exact⟨a,o,d,b,e,q,l,f,aj.Vg k c b n r⟩
 |.ra _,_,n,_=>by rw[dj]at n;cases n
 |.lst t c,_,n,h=>by rw[dj,Yo]at n;obtain⟨f,d⟩:=n;subst f;simp only[Den]at h ⊢;obtain⟨a,b,e,p,q,r⟩:=h;exact⟨a,b,e,λz=>p (k a z),q,aj.Vg k c b d r⟩
 |.tup c,_,n,h=>by rw[dj]at n;simp only[Den]at h ⊢;obtain⟨a,b,e,q,r⟩:=h;exact⟨a,b,e,q,aj.Vg k c b n r⟩
theorem aj.Vg(k:∀a,P' true a->P true a):∀(ds:yas) (vs:yar),gw ds=true->aj K P H ds vs->aj K P' H ds vs
 |[],_,_,h=>by simpa only[aj]using h
 |d::ds,_,n,h=>by rw[gw,Yo]at n;simp only[aj]at h ⊢;obtain⟨v,r,e,b,a⟩:=h;exact⟨v,r,e,Den.Vg k d v n.1 b,aj.Vg k ds r n.2 a⟩
end
end
def Own.soft(W:Own)(i:Nat)(a:Addr):Own:=⟨W.B,λj=>if j=i then none else W.O j,λb=>W.S b∨b=a⟩
section
variable{X:Cx}
theorem Rel.soft{i:Nat}(r:Rel X W H σ ρ)(e:ρ[i]?=some (some (.own ds))):∃a,W.O i=some a/\Rel X (W.soft i a) H σ (ρ.set i (some (.val (.lst false ds))))/\∀b,W.bad true b->(W.soft i a).bad true b:=by
 obtain⟨a,u,g,n,o,s⟩:=r.pN i ds e;have q:i<ρ.length:=(RQ.mp e).1;have e:∀j b,(W.soft i a).O j=some b->j≠i/\W.O j=some b:=λj b h=>by
  have l:(if j=i then none else W.O j)=some b:=h
  lia
 have c:∀t b,(W.soft i a).bad t b->W.bad t b:=λt b z=>by
  rcases z with z|⟨j,z⟩| ⟨d,z2⟩;exact .inl z;exact .inr (.inl ⟨j,(e j b z).2⟩);rcases z2 with z2|z2;exact .inr (.inr ⟨d,z2⟩);subst z2;exact .inr (.inl ⟨i,g⟩)
 have p:¬(W.soft i a).bad false a:=λz=>by
  rcases z with z|⟨j,z⟩| ⟨d,_⟩;exact(r.kn i a g).2.1.1 z;exact(e j a z).1 (r.inj j i a (e j a z).2 g);cases d
 refine⟨a,g,⟨λj d h=>?_,λj x h=>?_,λj k b l m=>r.inj j k b (e j b l).2 (e k b m).2,λj b h=>?_,λj b h=>r.ke j b (e j b h).2,r.bt,λb h=>?_,r.ent,r.tab⟩,λb z=>?_⟩;by_cases f:j=i;subst f;rw[V4 q]at h;cases h;exact⟨.ref a,n,Den.lst p (.any (SqL.of o)) (s.P4 c)⟩;rw[Sq (Ne.symm f)]at h;obtain⟨w,l,m⟩:=r.val j d h;exact⟨w,l,m.P4 c⟩;by_cases f:j=i
 simp_all
 rw[Sq (Ne.symm f)]at h;obtain⟨b,a,l,m,p,d⟩:=r.own j x h;exact⟨b,a,by show(if j=i then none else W.O j)=_;rw[Po f];exact l,m,p,d.P4 c λk c q=>(by show(if Z4 σ.length j k=i then none else W.O (Z4 σ.length j k))=_;rw[Po (qv (RQ.mp n).1)];exact q)⟩
 obtain⟨k,⟨d,c⟩,a⟩:=r.kn j b (e j b h).2;refine⟨k,⟨d,λz=>z.elim c λz=>?_⟩,a⟩;subst z;exact(e j b h).1 (r.inj j i b (e j b h).2 g);rcases h with h|h;exact r.st b h;subst h;exact⟨_,o⟩;rcases z with z|⟨j,z⟩| ⟨_,z⟩;exact .inl z;by_cases f:j=i;subst f;rw[g]at z;cases z;exact .inr (.inr ⟨rfl,.inr rfl⟩);exact .inr (.inl ⟨j,by show(if j=i then none else W.O j)=_;rw[Po f];exact z⟩);exact .inr (.inr ⟨rfl,.inl z⟩)
variable{e:Expr}{te:DE}{tt:DT}{ta:DA}
def IX(i:Nat)(t:DE):DE:=λa Q=>∃b,a[i]?=some (some (.own b))/\t (a.set i (some (.val (.lst false b)))) λd=>dj d=true/\Q d
def Ey(i:Nat)(t:DT):DT:=λa Q=>∃b,a[i]?=some (some (.own b))/\t (a.set i (some (.val (.lst false b)))) Q
def Bs(i:Nat)(h:P5 X e te):P5 X e (IX i te):=by intro b s d H W k Q I r c;obtain⟨n,g,c⟩:=c;obtain⟨a,m,f,a⟩:=r.soft g;exact Px (h b s d H _ _ _ I f c) λu l h=>(by obtain⟨v,j,d,i,b,f,c,g,q⟩:=h;exact⟨v,j,d,i,b,f,Den.Vg a d v g c,q⟩)
def Bz(i:Nat)(h:Va X e tt):Va X e (Ey i tt):=by intro b s d H W g Q I r c;obtain⟨l,f,c⟩:=c;obtain⟨a,k,a,j⟩:=r.soft f;exact h b s d H _ _ _ I a c
end
section
variable{X:Cx}{pos:Pos}
theorem aj.take{K:yac}{P:yak}{H:Hp}:∀{ds:yas} {vs:yar} (n:Nat),aj K P H ds vs->aj K P H (ds.take n) (vs.take n)
 |_,_,0,_=>by simp_all [List.take_zero,aj.nil]
 |[],_,_+1,h=>by subst h;exact aj.nil
 |x::r,_,n+1,h=>by obtain⟨u,w,rfl,b,a⟩:=h;exact aj.cons b (aj.take n a)
theorem aj.drop{K:yac}{P:yak}{H:Hp}:∀{ds:yas} {vs:yar} (n:Nat),aj K P H ds vs->aj K P H (ds.drop n) (vs.drop n)
 |_,_,0,h=>by grind
 |[],_,_+1,h=>by subst h;exact aj.nil
 |x::r,_,n+1,h=>by obtain⟨u,w,rfl,b,a⟩:=h;exact aj.drop n a
theorem aj.rev{K:yac}{P:yak}{H:Hp}:∀{ds:yas} {vs:yar},aj K P H ds vs->aj K P H ds.reverse vs.reverse
 |[],_,h=>by subst h;exact aj.nil
 |x::r,_,h=>by
  obtain⟨u,w,rfl,b,a⟩:=h
  simp_all [zCi,aj.rev,append,aj.one]
def xF(i:Nat)(C:yas->Prop)(f:yas->yas):DS:=λE b=>∃a,b[i]?=some (some (.own a))/\C a/\E.nx (b.set i (some (.own (f a))))
def yO {x name:Str} {id:String} {e c b:Pos} {j:V->yar->Hp->VK->Prop} {C:yas->Prop} {f:yas->yas} (g:yar->yar) (i:Nat) (d:Slot "list" name id) (h:typeOf (.builtin id)=pure (.type "method_descriptor")) (m:MtM X id j)
  (l:∀(a:Addr) (vs:yar) (ds:yas) (H:Hp) (Q:VK),H a=some (.lst vs)->vs.length=ds.length->C ds->(∀v,Q v (L2.upd H a (.lst (g vs))))->j (.ref a) [] H Q) (o:∀(K:yac) (P:yak) (H:Hp) (ds:yas) (vs:yar),aj K P H ds vs->aj K P H (f ds) (g vs))
  (n:X.N[i]?=some x:=by rfl) (k:WM X.env.scope x:=by first|exact Or.inl rfl|exact Or.inr (Or.inl rfl)|exact Or.inr (Or.inr rfl)) (p:(x==("__debug__" : Str))=false:=by decide) (q:(x==("__classdict__" : Str))=false:=by decide)
  (s:attributeBase (.Name x e) name X.env (eval (.Name x e) X.env)=eval (.Name x e) X.env:=by rfl) (r:(c.endLine==b.line)=true:=by rfl)
  (hs:swapsWith (.Call (.Attribute (.Name x e) name c) [] [] b) none pos.line X.env=pure false:=by rfl):Sf X (.Expr (.Call (.Attribute (.Name x e) name c) [] [] b) pos) (xF i C f):=by
 have b:=ku (pos:=pos) (zN PySem.F.plainAttrs_list d h m (fg n k p q) s r) hs;refine Sf.of b λt H W u E r w h=>?_
 obtain⟨ds,d,j,h⟩:=h;obtain⟨a,vs,g,c,b,e⟩:=r.pN i ds d;obtain⟨f,i⟩:=r.WQ d g c b (o _ _ _ ds vs e);exact⟨.ref a,c,.inl ⟨rfl,_,SqL.of b⟩,l a vs ds H _ b e.len j λv=>⟨W,_,i,f,h⟩⟩
theorem aj.dropLast{K:yac}{P:yak}{H:Hp}{ds:yas}{vs:yar}(h:aj K P H ds vs):aj K P H ds.dropLast vs.dropLast:=by rw[List.dropLast_eq_take,List.dropLast_eq_take,h.len];exact h.take _
def Mi {x:Str} {c b a:Pos} (i:Nat) (e:X.N[i]?=some x:=by rfl) (d:WM X.env.scope x:=by first|exact Or.inl rfl|exact Or.inr (Or.inl rfl)|exact Or.inr (Or.inr rfl)) (f:(x==("__debug__" : Str))=false:=by decide) (j:(x==("__classdict__" : Str))=false:=by decide)
  (l:attributeBase (.Name x c) "pop" X.env (eval (.Name x c) X.env)=eval (.Name x c) X.env:=by rfl) (k:(b.endLine==a.line)=true:=by rfl)
  (hs:swapsWith (.Call (.Attribute (.Name x c) "pop" b) [] [] a) none pos.line X.env=pure false:=by rfl):Sf X (.Expr (.Call (.Attribute (.Name x c) "pop" b) [] [] a) pos) (xF i (λds=>0<ds.length) List.dropLast) :=
 yO List.dropLast i PySem.F.slot_list_pop PySem.F.type_list_pop Fc (λa b ds H Q g m n q=>by
  have c:b.length - 1<b.length:=by omega
  exact⟨a,b,b[b.length - 1],rfl,rfl,g,by simp[c],q _⟩) (λ_ _ _ _ _ h=>h.dropLast) e d f j l k hs
def Hc {x:Str} {b a:Pos} (i:Nat) (d:X.N[i]?=some x:=by rfl) (c:WM X.env.scope x:=by first|exact Or.inl rfl|exact Or.inr (Or.inl rfl)|exact Or.inr (Or.inr rfl)) (e:(x==("__debug__" : Str))=false:=by decide) (g:(x==("__classdict__" : Str))=false:=by decide)
  (k:attributeBase (.Name x px) "clear" X.env (eval (.Name x px) X.env)=eval (.Name x px) X.env:=by rfl) (j:(b.endLine==a.line)=true:=by rfl)
  (hs:swapsWith (.Call (.Attribute (.Name x px) "clear" b) [] [] a) none pos.line X.env=pure false:=by rfl):Sf X (.Expr (.Call (.Attribute (.Name x px) "clear" b) [] [] a) pos) (xF i (λ_=>True) λ_=>[]) :=
 yO (λ_=>[]) i PySem.F.slot_list_clear PySem.F.type_list_clear zA (λa b n H Q f l m q=>⟨a,b,rfl,rfl,f,q _⟩) (λ_ _ _ _ _ h=>aj.nil) d c e g k j hs
def OH(i:Nat)(f:Int->Int->Int)(te:DE):DS:=λE c=>∃a,c[i]?=some (some (.val (.int a)))/\te c λd=>∃b,d=.int b/\E.nx (c.set i (some (.val (.int (f a b)))))
def Mg{x:Str}(i:Nat)(h:X.N.Nodup)(g:P5 X e te)(b:PIp X op (ipI f))(c:X.N[i]?=some x:=by rfl)(a:Loc X.env.scope x:=by first|exact Or.inl rfl|exact Or.inr rfl)
  (d:X.fn x=true∨X.env.scope.names.lookup x=some .local:=by first|exact .inl rfl|exact .inr rfl|assumption):Sf X (.AugAssign (.Name x pos') op e pos) (OH i f te):=by
 refine Sf.of (Nh h c a g.pe b d) λe H W b E r g h=>?_
 obtain⟨a,j,h⟩:=h;obtain⟨v,d,f⟩:=r.val i _ j;have z:=f.QH;subst z;refine⟨.int a,d,W,b,_,r,h,λk h d d f q=>?_⟩;obtain⟨b,rfl,q⟩:=q;have z:=f.QH;subst z;have f:i<e.length:=by rw[g];exact(RQ.mp c).1
 exact⟨a,b,rfl,rfl,W.drop i,_,(Qk.same d).trans (Qk.drop W h i),(r.same d).put f (Den.int _),q⟩
variable{e:Expr}{te:DE}{p:Pos}
def IW(te:DE):DA:=λa Q=>te a λd=>∃k a,ip d=some (k,a)/\Q a
def yN{K:yac}{P:yak}{H:Hp}{d:D}{v:V}{k:Bool}{ds:yas}(h:Den K P H d v)(e:ip d=some (k,ds)):∃a vs,v=.ref a/\(SqL K H a vs∨Ql K H a vs)/\aj K P H ds vs:=by
 cases d with
 |lst t d =>
  cases e;obtain⟨a,vs,c,p,q,b⟩:=h.Se;exact⟨a,vs,c,.inl q,b⟩
 |tup d =>
  cases e;obtain⟨a,vs,c,q,b⟩:=h.RA;exact⟨a,vs,c,.inr q,b⟩
 |Qe=>cases e
 |bl _=>cases e
 |int _=>cases e
 |str _=>cases e
 |exc _=>cases e
 |obj _ _ _=>cases e
 |Um=>cases e
 |ra _=>cases e
 |S6 _ _=>cases e
def vj (c:Gl X "list") (b:X.mg "list" = none) (d:P5 X e te) (a:starEach [e] X.env=(false,eval e X.env)::starEach [] X.env:=by rfl) (f:(backTo pos (starEach [] X.env)).any (·.1)=false:=by rfl):TP X (.Call (.Name "list" p) [e] [] pos) (IW te):=by
 refine TP.of (FC yn c b boot_list (gR d.pe mG a) (by decide) (by decide) a f) (λn H W a Q r h=>?_) λ_ _ _ _ _ _ I h=>Inv.kno I h
 refine⟨W,a,_,r,h,λv m d h d q=>?_⟩;obtain⟨k,i,g,q⟩:=q;obtain⟨a,b,f,c,j⟩:=yN d g;subst f;exact⟨a,b,rfl,c.imp id Ql.w,λl a=>⟨l,b,i,m,rfl,h,a,rfl,j,q⟩⟩
theorem cc{K:yac}{P:yak}{H:Hp}:∀{ns:yaf} {vs:yar},aj K P H (ns.map D.int) vs->vs=ns.map V.int
 |[],_,h=>by simpa only[XT,aj]using h
 |n::r,_,h=>by obtain⟨v,w,rfl,b,a⟩:=h;rw[b.QH,cc a];rfl
def o8 (w:X.calm=true):fy X (.builtin "sum") (λds Q=>∃(t:Bool) (ns:yaf),ds=[.lst t (ns.map D.int)]/\Q (.int ns.sum)):=by
 intro d s A H W ds C E Q I G r u q;obtain⟨t,ns,e,q⟩:=q;subst e;obtain⟨v,rfl,x⟩:=mZ u;obtain⟨a,B,y,_,n,m⟩:=x.Se;subst y;cases r with
 |cons j i =>
  cases i;cases j;obtain⟨h,c,k,_⟩:=I.list n;rw[cc m]at c;have f:=intsAre_of c;obtain⟨b,g⟩:=f.allInts.items;have o:s.heap.IsList a (intItems b):=by rw[<- g];exact k.isList
  refine sum_intListG (I.ok.hd w) o λM J L l=>?_
  have z:preSum (numAt b) b.size=ns.sum:=by rw[preSum_eq,ZG (by simp),<- nums_intItems,<- g,show h.toArray.toList=h from rfl,f.numsOf]
  rw[z];exact⟨.int ns.sum,H,_,I.kept l,⟨_,rfl⟩,aw.refl H,Den.int _,q⟩
theorem Vals.rev:∀{xs:yar} {a:yad},Vals xs a->Vals xs.reverse a.reverse
 |_,_,.nil=>.nil
 |_,_,.cons r t=>by rw[zCi,zCi];exact(Vals.rev t).append (.cons r .nil)
def cutD(xs:yas)(lo a:yaq):yas:=(xs.drop (HT.Qy xs.length 0 lo)).take (HT.Qy xs.length xs.length a - HT.Qy xs.length 0 lo)
def aj.cut{K:yac}{P:yak}{H:Hp}{ds:yas}{vs:yar}(lo a:yaq)(h:aj K P H ds vs):aj K P H (cutD ds lo a) (pf vs lo a):=by unfold cutD pf;rw[h.len];exact(h.drop _).take _
abbrev DO:=Ro->(yaq->Prop)->Prop
def Yf(X:Cx)(e:Option Expr)(t:DO):Prop :=
 ∀ (a:yab) (s:Shared) (b:St) (H:Hp) (W:Own) (c:Ro) (Q:yaq->Prop),Inv X a b H s->Rel X W H b c->t c Q →
  wpAny (model X.prog X.w) X.A (evalPart e X.env) (λu d=>∃o c,Inv X a b c d/\IsPart u o/\aw H c/\Q o) X.xe s
def dD:DO:=λ_ Q=>Q none
def tQ(te:DE):DO:=λa Q=>te a λd=>∃i,d=.int i/\Q (some i)
def cu:Yf X none dD:=by intro a s b H W c Q I r h;exact wpAny_pure ⟨none,H,I,.none,aw.refl H,h⟩
def cH(d:P5 X e te):Yf X (some e) (tQ te):=by
 intro a s b H W c Q I r h;refine Px (d a s b H W c _ I r h) λu j f=>?_
 obtain⟨v,h,d,g,a,d,b,i,c,q⟩:=f;subst c;have z:=b.QH;subst z;obtain⟨t,rfl⟩:=a;exact⟨some i,h,g,.int i t,d,q⟩
variable{lo hi st:Option Expr}{tl th ts:DO}{p2:Pos}
def sV{R:D->yaq->yaq->yaq->Prop}(n:P5 X e te)(m:Yf X lo tl)(o:Yf X hi th)(q:Yf X st ts)(I:Inv X pins σ H s)(r:Rel X W H σ ρ)
  (h:te ρ λd=>tl ρ λl=>th ρ λu=>ts ρ λk=>R d l u k)
  (A:∀(v:V) (a g f i:Value) (l u k:yaq) (d:D) (b:Addr) (H':Hp) (j:Shared),Inv X pins σ H' j->aw H H'->RelV v a->Den X.K W.bad H' d v->j.heap.IsSliceOf b g f i->IsPart g l->IsPart f u->IsPart i k->R d l u k →
   ∃ T id,typeLookup (.type T) "__getitem__" = pure (some (.builtin id))/\j.TypeIs a T/\wpAny (model X.prog X.w) X.A (getItem a (.ref b)) Q X.xe j)
  (c:∀a b,∃ops,subscripted (.Slice lo hi st p2) false a b=operate ops (getItem a b)):wpAny (model X.prog X.w) X.A (eval (.Subscript e (.Slice lo hi st p2) pos) X.env) Q X.xe s:=by
 refine Subscript_ (Px (n pins s σ H W ρ _ I r h) λa h n=>?_);obtain⟨v,x,d,w,t,s,B,j⟩:=n;have b:=r.same s;refine wpAny_Slice (Px (m pins h σ x W ρ _ w b j) λg h ⟨l,w,r,y,j,m⟩=>Px (o pins h σ w W ρ _ r (b.same j) m) λf h ⟨u,w,r,x,m,o⟩=>Px (q pins h σ w W ρ _ r ((b.same j).same m) o) λi h n=>?_);obtain⟨k,r,b,z,o,w⟩:=n;have C:Inv X pins σ r {h with heap:=h.heap.push {cls:=.type "slice", data:=.fields #[g,f,i]} }:=b.kept (t':=h.toks) λb ob q=>QN _ q
 obtain⟨T,id,q,b,n⟩:=A v a g f i l u k d h.heap.objs.size r _ C (s.trans (j.trans (m.trans o))) t (B.same (j.trans (m.trans o))) (Heap.IsSliceOf.new ..) y x z w;obtain⟨ops,d⟩:=c a (.ref h.heap.objs.size);exact tail_any (ops:=ops) b q n d
def L3(te:DE)(tl th:DO):DA:=λa Q=>te a λd=>tl a λl=>th a λu=>∃t a,d=.lst t a/\Q (cutD a l u)
def L4(te:DE)(tl th:DO):DE:=λa Q=>te a λd=>tl a λl=>th a λu=>∃a,d=.tup a/\¬(HT.Qy a.length 0 l=0/\HT.Qy a.length a.length u=a.length)/\Q (.tup (cutD a l u))
def rG(f:yar->yar)(g:yas->yas)(I:Inv X pins σ H' s)(r:Rel X W H' σ ρ)(d:aw H H')(c:RelV v vv)(o:Den X.K W.bad H' (.lst tg ds) v)(hs:s.heap.IsSliceOf sl vl vu vk)(j:IsPart vl l)(i:IsPart vu u)(m:IsPart vk k)(k0:k≠some 0)
  (n:∀b:yad,∃g':yad->yad,slicePick b.toArray l u k=(g' b).toArray/\∀vs,Vals vs b->Vals (f vs) (g' b)/\(f vs).length<=vs.length) (t:∀vs,aj X.K W.bad H' ds vs->aj X.K W.bad H' (g ds) (f vs)) {Q:yas->Prop} (q:Q (g ds)) :
  ∃ T id,typeLookup (.type T) "__getitem__" = pure (some (.builtin id))/\s.TypeIs vv T/\wpAny (model X.prog X.w) X.A (getItem vv (.ref sl)) (FDP X pins σ W H Q) X.xe s:=by
 obtain⟨a,vs,a,_,l,r⟩:=o.Se;subst a;cases c;obtain⟨b,c,a,k⟩:=I.list l;have h:=c.length;refine⟨"list", _,slot_list_getitem.lookup,a.isList.typeIs,?_⟩;refine wpAny_getItem_list_slice a.isList hs j i m k0 ?_ (by rw[S8]<;>lia);obtain⟨g',e,i⟩:=n b;rw[e];obtain⟨a,j⟩:=i vs c;have c:H' s.heap.objs.size=none:=I.PW.fresh (Qu _);refine⟨s.heap.objs.size,f vs,_,g ds,rfl,I.laid (t':=s.toks) (o:=.lst (f vs)) (λb ob q=>QN _ q) (Qu _) ⟨QM j k,_,0,a,Sv _ rfl⟩,d.trans (aw.upd c),d.free c,Inv.Sg I,aJ,aj.apart c (Inv.Sg I) (t vs r),q⟩
def eZ(i:P5 X e te)(c:Yf X lo tl)(g:Yf X hi th):TP X (.Subscript e (.Slice lo hi none p2) pos) (L3 te tl th):=by
 intro f s w H W b Q I r h;refine sV (st:=none) (ts:=dD) (R:=λd l u k=>k=none/\∃t a,d=.lst t a/\Q (cutD a l u)) i c g cu I r ?_ ?_ (λ_ _=>⟨_,rfl⟩);have c:(λd=>tl b λl=>th b λu=>dD b λk=>k=none/\∃t a,d=D.lst t a/\Q (cutD a l u))=λd=>tl b λl=>th b λu=>∃t a,d=D.lst t a/\Q (cutD a l u):=by
  funext d
  congr 1
  funext l
  congr 1
  funext u
  exact propext ⟨λz=>z.2,λz=>⟨rfl,z⟩⟩
 rw[c];exact h;intro v x A y B l u k d C H' E o c d k j h g i b;obtain⟨m,t,a,n,q⟩:=b;subst m n;exact rG (λb=>pf b l u) (λa=>cutD a l u) o (r.same c) c d k j h g i (by simp) (λa=>⟨λa=>(a.drop (HT.Qy a.length 0 l)).take (HT.Qy a.length a.length u - HT.Qy a.length 0 l),xA a l u,λb a=>⟨by unfold pf;rw[a.length];exact(a.drop _).take _,rD b l u⟩⟩) (λb a=>a.cut l u) q
def LZ(te:DE):DA:=λa Q=>te a λd=>∃t a,d=.lst t a/\Q a.reverse
def Md(c:P5 X e te):TP X (.Subscript e (.Slice none none (some (.UnaryOp .USub (.Constant (.int 1) j pc) f)) p2) pos) (LZ te):=by
 intro g s w H W b Q I r h;refine sV (ts:=tQ (yH (dC (.int 1)))) (tl:=dD) (th:=dD) (R:=λd l u k=>l=none/\u=none/\k=some (-1)/\∃t a,d=.lst t a/\Q a.reverse) c cu cu (cH (bU ae)) I r ?_ ?_ (λ_ _=>⟨_,rfl⟩);have c:(λd=>dD b λl=>dD b λu=>tQ (yH (dC (.int 1))) b λk=>l=none/\u=none/\k=some (-1)/\∃t a,d=D.lst t a/\Q a.reverse)=λd=>∃t a,d=D.lst t a/\Q a.reverse:=by
  simp only[dD,tQ,yH,dC,true_and]
  simp_all
 rw[c];exact h;intro v x z y A l u k d B H' C o b d k j h f i l;obtain⟨c,n,m,t,a,a,q⟩:=l;subst c n m a;exact rG List.reverse List.reverse o (r.same b) b d k j h f i (by decide) (λa=>⟨List.reverse,PySem.W.krv_pick a.toArray,λa b=>⟨Vals.rev b,by grind⟩⟩) (λa a=>a.rev) q
end
section
variable{prog:Program}{w:World}{A:Around}{E:yaa}{s:Shared}{p q:Addr}{us ws:yad}{Q:yaa}
def OB(c:s.heap.IsList p us.toArray)(m:s.heap.IsList q ws.toArray)(hz:us.length+ws.length<=sizeLine)
  (h:Q (.ref s.heap.objs.size) {s with heap:=s.heap.push {cls:=.type "list", data:=.seq (us++ws).toArray} }):wpAny (model prog w) A (binaryOp .Add (.ref p) (.ref q)) Q E s:=by
 obtain⟨⟨t,l,o,g⟩,b,a,j,g3⟩:=id c;obtain⟨⟨r,k,n,f⟩,e,d,i,c⟩:=id m;simp only at a g3 d c;subst a g3 d c;refine concat_meets ⟨_,b,rfl⟩ ⟨_,e,rfl⟩ noFill_list_add seq_list_add PySem.F.slot_list_add PySem.F.entry_list_add (PySem.F.args_list_add_2 _ _) (list_addW p q us.toArray ws.toArray j i l k g f (by simpa using hz)) ⟨b,e,?_⟩;rw[show us.toArray++ws.toArray=(us++ws).toArray by simp];exact h
def jF(b:IsTup s.heap p us.toArray)(i:IsTup s.heap q ws.toArray)(hz:us.length+ws.length<=sizeLine)(h0:us=[]->Q (.ref q) s)(j:ws=[]->Q (.ref p) s)
  (h:Q (.ref s.heap.objs.size) {s with heap:=s.heap.push {cls:=.type "tuple", data:=.seq (us++ws).toArray} }):wpAny (model prog w) A (binaryOp .Add (.ref p) (.ref q)) Q E s:=by
 obtain⟨⟨t,h,o,d⟩,a,k,f,g3⟩:=id b;obtain⟨⟨r,g,n,c⟩,b,m,e,l⟩:=id i;subst k g3 m l;by_cases i:us=[];exact concat_meets ⟨_,a,rfl⟩ ⟨_,b,rfl⟩ noFill_tuple_add seq_tuple_add PySem.F.slot_tuple_add PySem.F.entry_tuple_add (PySem.F.args_tuple_add_2 _ _) (tuple_addW0 p q us.toArray ws.toArray f e h g d c (by simp[i])) ⟨a,b,h0 i⟩;by_cases i:ws=[];exact concat_meets ⟨_,a,rfl⟩ ⟨_,b,rfl⟩ noFill_tuple_add seq_tuple_add PySem.F.slot_tuple_add PySem.F.entry_tuple_add (PySem.F.args_tuple_add_2 _ _) (tuple_addW1 p q us.toArray ws.toArray f e h g d c (by simp_all) (by simp[i])) ⟨a,b,j i⟩;refine concat_meets ⟨_,a,rfl⟩ ⟨_,b,rfl⟩ noFill_tuple_add seq_tuple_add PySem.F.slot_tuple_add PySem.F.entry_tuple_add (PySem.F.args_tuple_add_2 _ _) (tuple_addW2 p q us.toArray ws.toArray f e h g d c (by simp_all) (by simp_all) (by simp_all)) ⟨a,b,?_⟩;grind
end
section
variable{X:Cx}{pos:Pos}
def xK:RD2:=λx y Q=>match x,y with
 |.int i,.int j=>Q (.int (i+j))
 |.tup b,.tup a=>b.length+a.length<=sizeLine/\Q (.tup (b++a))
 |.lst _ b,.lst _ a=>b.length+a.length<=sizeLine/\Q (.lst true (b++a))
 |_,_=>False
theorem Ea(i j:Int)(Q:D->Prop):xK (.int i) (.int j) Q=Q (.int (i+j)):=rfl
theorem Lx(t u:Bool)(xs ys:yas)(Q:D->Prop):xK (.lst t xs) (.lst u ys) Q=(xs.length+ys.length<=sizeLine/\Q (.lst true (xs++ys))):=rfl
def Ki{W:Own}{H:Hp}{t:Bool}(b:∀t a,W.bad t a->∃o,H a=some o)(h:H a=none):¬W.bad t a:=by grind
set_option tactic.hygienic true in
def aZ:Rb X (binaryOp .Add) xK:=by
 intro a s b H W x y v u c d Q I A w z n m q;cases x<;>cases y<;>first|exact q.elim|skip
 exact MV a s b H W _ _ v u c d Q I A w z n m q;rename_i E C;obtain⟨p,l,y,g,k⟩:=n.RA;obtain⟨B,d,x,f,c⟩:=m.RA;subst y x;cases w;cases z;obtain⟨o,j,t,_⟩:=I.tuple g.w;obtain⟨a,i,r,_⟩:=I.tuple f.w;obtain⟨N,q⟩:=q;have M:=k.len;have L:=c.len;have J:=j.length;have G:=i.length;have b:o.length+a.length<=sizeLine:=by omega
 have h:H s.heap.objs.size=none:=I.PW.fresh (Qu _);refine jF t r b (λe=>?_) (λe=>?_) ?_;subst e;have:l=[]:=by grind
 subst this;have:E=[]:=by grind
 subst this;exact⟨.ref B,H,_,I,rfl,aw.refl H,m,q⟩;subst e;have:d=[]:=by grind
 subst this;have:C=[]:=by grind
 subst this;rw[W4]at q;exact⟨.ref p,H,_,I,rfl,aw.refl H,n,q⟩;exact⟨.ref s.heap.objs.size,L2.upd H s.heap.objs.size (.tup (l++d)),_,I.laid (t':=s.toks) (λb u e=>QN _ e) (Qu _) ⟨by simp_all,o++a,j.append i,⟨_,Sv _ rfl,rfl,_,rfl⟩⟩,rfl,aw.upd h,Den.tup (Ql.of aJ) ((k.append c).same (aw.upd h)),q⟩;obtain⟨p,l,y,_,g,k⟩:=n.Se;obtain⟨B,d,x,_,f,c⟩:=m.Se;subst y x;cases w;cases z;obtain⟨o,j,t,_⟩:=I.list g;obtain⟨a,i,r,_⟩:=I.list f;obtain⟨N,q⟩:=q;have M:=k.len;have L:=c.len;have J:=j.length;have G:=i.length;have h:H s.heap.objs.size=none:=I.PW.fresh (Qu _);refine OB t.isList r.isList (by omega) ?_;exact⟨.ref s.heap.objs.size,L2.upd H s.heap.objs.size (.lst (l++d)),_,I.laid (t':=s.toks) (λb u e=>QN _ e) (Qu _) ⟨by grind,o++a,0,j.append i,Sv _ rfl⟩,rfl,aw.upd h,Den.lst (Ki A h) (.new aJ (Inv.Sg I)) ((k.append c).same (aw.upd h)),q⟩
def okI(x:D):Prop:=okD x/\(R9 x).depth<64
def KN:RD2:=λx y Q=>okI x/\okD y/\∃a,(y=.tup a∨∃ t,y=.lst t a)/\Q (.bl (!a.any λz=>eqD z x))
theorem ya(x:D):∀ys:yas,(dF ys).any (λy=>PyData.eqv y (R9 x))=ys.any λz=>eqD z x
 |[]=>by rfl
 |y::r=>by rw[dF,List.any_cons,List.any_cons,ya x r];rfl
def BM{A:Around}{d:PyData}(b:d.depth<64)(a:A.units+64<cLine):A.units+1+min (PyData.depthAll xs) d.depth<cLine:=by lia
def nL(i:X.A.units+64<cLine):Rb X (compareOp .NotIn) KN:=by
 intro a s j H W x y v u l m Q I _ n o r p q;obtain⟨b,f,k,e,q⟩:=q;obtain⟨z,h⟩:=eY I x v l r n b.1.1;obtain⟨w,g⟩:=eY I y u m p o f.1;have c:DP X a j W H Q (.bool (!(dF k).any λy=>PyData.eqv y (R9 x))) s:=by rw[ya];exact⟨.bl _,H,_,I,rfl,aw.refl H,Den.bl _,q⟩
 rcases e with e|⟨t,e⟩;subst e;have d:=f.2;exact SeqAt.notIn_tuple_reads g h (SeqAt.canLay_of_shaped d) (SeqAt.canLay_of_shaped b.1.2) (BM b.2 i) c;subst e;have d:=f.2;exact SeqAt.notIn_list_reads g h (SeqAt.canLay_of_shaped d) (SeqAt.canLay_of_shaped b.1.2) (BM b.2 i) c
def vC(i:Int):okI (.int i)=True:=eq_true ⟨BS i,by rw[R9,PyData.depth];decide⟩
end
def PKD(X:Cx)(kws:List Keyword)(t:DA):Prop :=
 ∀ (c:Pos) (a:yab) (s:Shared) (b:St) (H:Hp) (W:Own) (d:Ro) (Q:yas->Prop),Inv X a b H s->Rel X W H b d->t d Q →
  wpAny (model X.prog X.w) X.A (evalAll ((backToKw c (keywordEach kws X.env)).map (·.2))) (DAP X a b W H Q) X.xe s
def Ht:Key->D
 |.inl i=>.int i
 |.inr x=>.str x
section
variable{κ:Type} [DecidableEq κ] {K:yac}{P:yak}{H:Hp}
noncomputable def dN(kvs:List (κ×D))(k:κ):Option D:=(kvs.find? λa=>decide (a.1=k)).map (·.2)
def putD(kvs:List (κ×D))(k:κ)(d:D):List (κ×D):=if(dN kvs k).isSome=true then kvs.map (λa=>if a.1=k then(a.1,d)else a)else kvs++[(k,d)]
def uq(p:κ×D)(r:List (κ×D))(k:κ):dN (p::r) k=if p.1=k then some p.2 else dN r k:=by unfold dN;grind
theorem si:∀{kvs:List (κ×D)} {kws:List (κ×V)} {k:κ},kws.map (·.1)=kvs.map (·.1)->aj K P H (kvs.map (·.2)) (kws.map (·.2))->match dN kvs k with|some d=>∃v,eI kws k=some v/\Den K P H d v|none=>eI kws k=none
 |[],kws,k,e,_=>by
  have:kws=[]:=by simp_all
  subst this;exact IC
 |p::r,[],k,e,_=>by simp at e
 |p::r,q::s,k,e,h=>by
  simp at e;simp at h;obtain⟨v,u,a,f,b⟩:=h;simp at a;obtain⟨a,c⟩:=a;subst c;rw[uq];by_cases z:p.1=k
  simp_all [Pt,oI]
  rw[Po z,oH (by simp_all)];exact si e.2 b
def vt{kvs:List (κ×D)}{kws:List (κ×V)}{d:D}(e:kws.map (·.1)=kvs.map (·.1))(h:aj K P H (kvs.map (·.2)) (kws.map (·.2)))(l:dN kvs k=some d):∃v,eI kws k=some v/\Den K P H d v:=by have:=si (k:=k) e h;rw[l]at this;exact this
def zH{kvs:List (κ×D)}{kws:List (κ×V)}(e:kws.map (·.1)=kvs.map (·.1))(h:aj K P H (kvs.map (·.2)) (kws.map (·.2)))(l:dN kvs k=none):eI kws k=none:=by have:=si (k:=k) e h;rw[l]at this;exact this
def Ir{kvs:List (κ×D)}{kws:List (κ×V)}(e:kws.map (·.1)=kvs.map (·.1))(h:aj K P H (kvs.map (·.2)) (kws.map (·.2))):(eI kws k).isSome=(dN kvs k).isSome:=by
 cases l:dN kvs k with
 |none=>rw[zH e h l];rfl
 |some d =>
  obtain⟨v,q,_⟩:=vt e h l;rw[q];rfl
theorem zS:∀{kvs:List (κ×D)} {kws:List (κ×V)} {k:κ} {d:D} {v:V},kws.map (·.1)=kvs.map (·.1)->aj K P H (kvs.map (·.2)) (kws.map (·.2))->Den K P H d v →
  (kws.map λa=>if a.1=k then(a.1,v)else a).map (·.1)=(kvs.map λa=>if a.1=k then(a.1,d)else a).map (·.1)/\aj K P H ((kvs.map λa=>if a.1=k then(a.1,d)else a).map (·.2)) ((kws.map λa=>if a.1=k then(a.1,v)else a).map (·.2))
 |[],kws,k,d,v,e,_,_=>by simp_all
 |p::r,[],k,d,v,e,_,_=>by simp at e
 |p::r,q::s,k,d,v,e,h,b=>by
  simp at e;simp at h;obtain⟨g,u,a,l,c⟩:=h;simp at a;obtain⟨a,f⟩:=a;subst f;obtain⟨j,i⟩:=zS (k:=k) e.2 c b;by_cases z:p.1=k
  all_goals simp_all [Pt,aj.cons,Po]
def KH{kvs:List (κ×D)}{kws:List (κ×V)}(e:kws.map (·.1)=kvs.map (·.1))(h:aj K P H (kvs.map (·.2)) (kws.map (·.2)))(a:Den K P H d v) :
  (putK kws k v).map (·.1)=(putD kvs k d).map (·.1)/\aj K P H ((putD kvs k d).map (·.2)) ((putK kws k v).map (·.2)):=by
 unfold putK putD;rw[tE,Ir e h];by_cases z:(dN kvs k).isSome=true;rw[Pt z,Pt z];exact zS e h a;rw[Po z,Po z,Sb,Sb,Sb,Sb,e];exact⟨rfl,h.append (aj.one a)⟩
end
def Bw{K:yac}{P:yak}{H:Hp}{k:Key}{v:V}(h:Den K P H (Ht k) v):v=kV k:=by
 cases k with
 |inl i=>exact h.QH
 |inr x=>exact h.Yz
def PPD(X:Cx)(pos:Pos)(keys:List (Option Expr))(a:yai)(t:Ro->(List (D×D)->Prop)->Prop):Prop :=
 ∀ (b:yab) (s:Shared) (c:St) (H:Hp) (W:Own) (d:Ro) (Q:List (D×D)->Prop),Inv X b c H s->Rel X W H c d->t d Q →
  wpAny (model X.prog X.w) X.A (evalPairs (pairTrees keys a X.env pos)) (λf g=>∃d a e,Inv X b c a g/\VV d f/\aw H a/\aj X.K W.bad a (e.map (·.1)) (d.map (·.1))/\aj X.K W.bad a (e.map (·.2)) (d.map (·.2))/\Q e) X.xe s
section
variable{X:Cx}{pos:Pos}
def Rel.ownK(r:Rel X W H σ ρ){i:Nat}(h:ρ[i]?=some (some (.ob (.dk kvs)))):∃a kws,W.O i=some a/\σ[i]?=some (some (.ref a))/\H a=some (.dK kws)/\kws.map (·.1)=kvs.map (·.1)/\aj X.K W.bad H (kvs.map (·.2)) (kws.map (·.2)):=by
 obtain⟨a,o,f,d,c,b⟩:=r.own i _ h;cases b with
 |dk e b=>exact⟨a,_,f,d,c,e,b⟩
end
def Mr(kvs:List (Key×D))(r:Ro)(R:List (Key×D)->Prop):(∃ys,(some (Sl.ob (.dk kvs))::r)[0]?=some (some (Sl.ob (.dk ys)))/\R ys)=R kvs:=by grind
theorem Ms(n:Nat)(x:Option Sl)(r:Ro)(R:List (Key×D)->Prop):(∃ys,(x::r)[n+1]?=some (some (Sl.ob (.dk ys)))/\R ys)=(∃ys,r[n]?=some (some (Sl.ob (.dk ys)))/\R ys):=rfl
def K0(t:Bool)(xs:yas)(R:yas->Prop):(∃k ds,ip (.lst t xs)=some (k,ds)/\R ds)=R xs:=by apply propext;constructor;rintro⟨_,_,e,q⟩;cases e;exact q;intro q;exact⟨_,_,rfl,q⟩
def Lm{k1 k2:Bool}{xs ys:yas}(g:ip a=some (k1,xs))(f:ip b=some (k2,ys))(R:yas->Prop):(∃e d k1 k2 c vs,[a,b]=[e,d]/\ip e=some (k1,c)/\ip d=some (k2,vs)/\R (List.zipWith (λx y=>D.tup [x,y]) c vs))=R (List.zipWith (λx y=>D.tup [x,y]) xs ys):=by grind
def NN(t u:Bool)(xs ys:yas)(R:yas->Prop):(∃c b k1 k2 a vs,[D.lst t xs,D.lst u ys]=[c,b]/\ip c=some (k1,a)/\ip b=some (k2,vs)/\R (List.zipWith (λx y=>D.tup [x,y]) a vs))=R (List.zipWith (λx y=>D.tup [x,y]) xs ys):=Lm rfl rfl R
def Jx(b:Bool):dj (.bl b)=true:=by rw[dj]<;>(intros;contradiction)
def GH(b:Int):dj (.int b)=true:=by rw[dj]<;>(intros;contradiction)
def GJ:dj .Qe=true:=by rw[dj]<;>(intros;contradiction)
def LA{ds:yas}{k:Int}{Q:D->Prop}(h0:0<=k)(b:k<ds.length)(h:∀d∈ds,Q d):∃d,Rz ds k=some d/\Q d:=by
 have e:k=((k.toNat:Nat):Int):=by lia
 have a:k.toNat<ds.length:=by lia
 refine⟨ds[k.toNat],?_,h _ (Uu a)⟩;have q:Rz ds ((k.toNat:Nat):Int)=some ds[k.toNat]:=bD (by simp);rw[<- e]at q;exact q
def comp_map{a:Type}{wi:DA}{js:yag}{tc:DT}{te:DE}{Q:D->Prop}(xs:List a)(f:a->D)(c:a->Bool)(g:a->D)(b:∀R:yas->Prop,R (xs.map f)->wi ρ R)(hz:xs.length<=sizeLine)
  (k:∀x∈xs,∀K:Bool->Prop,K (c x)->tc (some (.val (f x))::js.map (bJ ρ)) K) (i:∀x∈xs,c x=true->∀K:D->Prop,K (g x)->te (some (.val (f x))::js.map (bJ ρ)) K) (q:Q (.lst true ((xs.filter c).map g))):qG wi js tc te ρ Q:=by
 refine b _ ⟨by simp_all,λj a=>a=((xs.take j).filter c).map g,by simp,λj d a b c=>?_,λa c=>?_⟩;rw[QZ]at b;cases ex:xs[j]? with
 |none=>simp_all
 |some x =>
  rw[ex]at b;have h:x∈xs:=Rt ex;have e:xs.take (j+1)=xs.take j++[x]:=by simp_all [Ys]
  grind
 grind
def BH{b:Type}{wi:DA}{g:DG}{tb:DS}{E:k8}(xs:List b)(f:b->D)(Pv:List b->Ro->Prop)(i:∀R:yas->Prop,R (xs.map f)->wi ρ R)(d:Pv [] ρ)
  (c:∀(done:List b) (x:b) (a:Ro),x∈xs->done.length<xs.length->Pv done a->g (f x) a λh=>tb {E with nx:=Pv (done++[x]),ct:=Pv (done++[x]),bk:=E.nx} h) (e:∀a,Pv xs a->E.nx a):yE wi g tb E ρ:=by
 refine i _ ⟨λj=>Pv (xs.take j),by simpa using d,λj d a b d=>?_,λa d=>e a (by rw[Pq,ZG (Qu _)]at d;exact d)⟩;rw[QZ]at b;cases ex:xs[j]? with
 |none=>rw[ex]at b;cases b
 |some x =>
  rw[ex]at b;cases b;have k:=(RQ.mp ex).1;have b:xs.take (j+1)=xs.take j++[x]:=by rw[Ys,ex];rfl
  show g (f x) a λh=>tb {E with nx:=Pv (xs.take (j+1)),ct:=Pv (xs.take (j+1)),bk:=E.nx} h
  rw[b];exact c (xs.take j) x a (Rt ex) (by rw[Uv];lia) d
structure Q1(n:Nat)(d:D):Prop where
 pl:VA d=true
 lay:(R9 d).canLay0=true
 dp:(R9 d).depth<=n
structure kC(n:Nat)(ds:yas):Prop where
 pl:pR ds=true
 lay:PyData.canLayAll0 (dF ds)=true
 dp:PyData.depthAll (dF ds)<=n
def Q1.ok(h:Q1 n d)(a:n<=64:=by decide):okD d:=⟨h.pl,by unfold SeqAt.shaped;rw[h.lay,V6 (QM h.dp a)];rfl⟩
theorem Q1.okI(h:Q1 n d)(a:n<64:=by decide):okI d:=⟨h.ok (V7 a),ZH h.dp a⟩
theorem Q1.int(n:Nat)(i:Int):Q1 n (.int i):=⟨by rw[VA]<;>(intros;contradiction),by rw[R9,PyData.canLay0],by rw[R9,PyData.depth];lia⟩
def kC.nil(n:Nat):kC n []:=⟨by rw[pR],by rw[dF,PyData.canLayAll0],by rw[dF,PyData.depthAll];lia⟩
def kC.cons(h:Q1 n d)(h':kC n ds):kC n (d::ds):=⟨by rw[pR,h.pl,h'.pl];rfl,by rw[dF,PyData.canLayAll0,h.lay,h'.lay];rfl,by exact Nat.max_le.mpr ⟨h.dp,h'.dp⟩⟩
theorem kC.of:∀{ds:yas},(∀d∈ds,Q1 n d)->kC n ds
 |[],_=>.nil n
 |d::r,h=>.cons (h d T9) (kC.of λx a=>h x (by grind))
theorem Q1.tup(h:kC n ds):Q1 (n+1) (.tup ds):=⟨by exact h.pl,by exact h.lay,by exact Nat.succ_le_succ h.dp⟩
theorem Q1.lst(h:kC n ds):Q1 (n+1) (.lst t ds):=⟨by exact h.pl,by exact h.lay,by exact Nat.succ_le_succ h.dp⟩
theorem Q1.map{a:Type}{f:a->D}{xs:List a}(h:∀x,Q1 n (f x)):Q1 (n+1) (.lst t (xs.map f)):=Q1.lst (kC.of λd a=>by obtain⟨x,_,rfl⟩:=P6.mp a;exact h x)
def lT(xs ys:yas):Bool:=PyData.eqvAll (dF xs) (dF ys)
def BC(t u:Bool)(xs ys:yas):eqD (.lst t xs) (.lst u ys)=lT xs ys:=by unfold eqD lT;rw[R9,R9,PyData.eqv]
def BF(xs ys:yas):eqD (.tup xs) (.tup ys)=lT xs ys:=by unfold eqD lT;rw[R9,R9,PyData.eqv]
def yV:lT [] []=true:=by unfold lT;rw[dF,PyData.eqvAll]
def lg(x y:D)(xs ys:yas):lT (x::xs) (y::ys)=(eqD x y && lT xs ys):=by unfold lT eqD;rw[dF,dF,PyData.eqvAll]
def BE(x y:Str):eqD (.str x) (.str y)=(x==y):=by unfold eqD;rw[R9,R9,PyData.eqv]
def JQ:eqD .Qe .Qe=true:=by unfold eqD;rw[R9,PyData.eqv]
mutual
theorem nu:∀d:D,eqD d d=true
 |.Qe=>JQ
 |.bl b=>by rw[EK];simp
 |.int i=>by rw[ko];simp
 |.str x=>by rw[BE];simp
 |.exc _=>by unfold eqD;rw[R9,PyData.eqv]
 |.obj _ _ _=>by unfold eqD;rw[R9,PyData.eqv]
 |.Um=>by unfold eqD;rw[R9,PyData.eqv]
 |.S6 _ _=>by unfold eqD;rw[R9,PyData.eqv]
 |.ra _=>by unfold eqD;rw[R9,PyData.eqv]
 |.tup a=>by rw[BF];exact lh a
 |.lst t a=>by rw[BC];exact lh a
theorem lh:∀ds:yas,lT ds ds=true
 |[]=>yV
 |d::r=>by rw[lg,nu d,lh r];rfl
end
def yU(t u:Bool)(xs:yas):eqD (.lst t xs) (.lst u xs)=true:=by rw[BC];exact lh xs
section
variable{X:Cx}{a b c:Expr}{ta tb tc:DE}{pos:Pos}
def Eu(r e:RD2)(ta tb tc:DE):DE:=λd Q=>ta d λx=>tb d λy=>r x y λz=>∃k,z=.bl k/\if k=true then tc d λu=>e y u Q else Q (.bl false)
def Ex(e:DE):DA:=λd R=>e d λd=>∃e,d=.tup e/\R e
def ET(h:P5 X iter ti):VQ X tg iter (Ex ti):=by
 refine VQ.of (Nd h.pe) λo H W d R r e=>⟨W,d,_,r,e,λv H1 d i g q=>?_⟩
 obtain⟨k,rfl,q⟩:=q;obtain⟨p,e,rfl,f,h⟩:=g.RA;refine⟨p,rfl,⟨e,f.w⟩,i,k,?_,q⟩;intro P' H' j n m i;have g:=(j p e f).w;have s:=h.len;refine⟨λf=>?_,λx H3 y f=>?_,λf=>⟨e,g,by lia⟩⟩;obtain⟨v,l,_⟩:=h.get (i:=i) (d:=k[i]) (by simp[f]);exact⟨e,v,g,l⟩;obtain⟨f,y⟩:=y;subst f;obtain⟨d,i,f⟩:=h.bJ (y e g);exact⟨aw.refl _,d,i,Den.map j n m d _ f⟩
def MM(xs:yas)(R:yas->Prop):(∃ds,D.tup xs=.tup ds/\R ds)=R xs:=by lia
variable{e:Expr}{te:DE}{lo hi:Option Expr}{tl th:DO}{p2:Pos}
def pD(o:P5 X e te)(m:Yf X lo tl)(n:Yf X hi th):P5 X (.Subscript e (.Slice lo hi none p2) pos) (L4 te tl th):=by
 intro i s j H W g Q I r h;refine sV (st:=none) (ts:=dD) (R:=λd l u k=>k=none/\∃f,d=.tup f/\¬(HT.Qy f.length 0 l=0/\HT.Qy f.length f.length u=f.length)/\Q (.tup (PD.cutD f l u))) o m n cu I r ?_ ?_ (λ_ _=>⟨_,rfl⟩);have m:(λd=>tl g λl=>th g λu=>dD g λk=>k=none/\∃f,d=D.tup f/\¬(HT.Qy f.length 0 l=0/\HT.Qy f.length f.length u=f.length)/\Q (.tup (PD.cutD f l u)))=λd=>tl g λl=>th g λu=>∃f,d=D.tup f/\¬(HT.Qy f.length 0 l=0/\HT.Qy f.length f.length u=f.length)/\Q (.tup (PD.cutD f l u)):=by
  funext d
  congr 1
  funext l
  congr 1
  funext u
  exact propext ⟨λz=>z.2,λz=>⟨rfl,z⟩⟩
 rw[m];exact h;intro v m o n J l u k d d g s G r t B z x w h k;obtain⟨p,f,f,y,q⟩:=k;subst p f;cases h;obtain⟨p,k,f,A,h⟩:=B.RA;subst f;obtain⟨T,id,E,C,B⟩:=Nv i s j g (.ref p) m o n l u d (λi d=>aw g d/\∃f,Den X.K W.bad d f i/\Q f) G t z x w ⟨p,k,rfl,A.w,by rw[h.len];exact y,λd g=>⟨aw.upd g,_,Den.tup (Ql.of aJ) ((h.cut l u).same (aw.upd g)),q⟩⟩;exact⟨T,id,E,C,Px B λ_ L k=>(by obtain⟨g,m,l,h,i,f,j,d⟩:=k;exact⟨g,m,f,l,h,r.trans i,j,d⟩)⟩
end
section
variable{X:Cx}{pos:Pos}
def PFL(X:Cx)(i:Nat)(es:yai)(t:Ro->(List (yas)->Prop)->Prop):Prop :=
 ∀ (pos:Pos) (b:yab) (s:Shared) (a:St) (H:Hp) (W:Own) (f:Ro) (k:Nat) (Q:List (yas)->Prop),Inv X b a H s->Rel X W H a f->i<a.length->f[i]?=some none->t f Q →
  wpAny (model X.prog X.w) X.A (spliced (backTo pos (starEach es X.env))) (λh j=>∃g e d c,Inv X b a e j/\Vals g h/\aw H e/\Rel X d e a f/\Qk W H d e/\bC X.K d.bad e (d.sub a.length i) k (c.map LI.own) g/\(∀l,l<k->d.sub a.length i l=W.sub a.length i l)/\Q c) X.xe s
variable{e:Expr}{te:DE}{tt:DT}{ta:DA}
end
section
variable{X:Cx}{pins:yab}{σ:St}{H:Hp}
structure Pc(X:Cx)(pins:yab)(H:Hp)(s:Shared)(l f S I:Addr)(fo:Obj)(j:Nat)(vb:Value)(k:Int):Prop where
 fo:s.heap.get? f=some fo
 ff:eU X pins H f
 so:∃tb n,s.heap.get? S=some (seqObj "list" #[vb,.int k tb] n)
 sf:eU X pins H S
 io:s.heap.IsListIter I l j
 jf:eU X pins H I
 fS:f≠S
 fI:f≠I
 SI:S≠I
 lI:l≠I
end
section
variable{X:Cx}{pos:Pos}
def Bn(i:Nat)(te:DE):DS:=λE a=>∃c,a[i]?=some (some (.own c))/\te a λd=>∃b,d=.lst true b/\c.length+b.length<=sizeLine/\E.nx (a.set i (some (.own (c++b))))
def je{x:Str}{a:Pos}(i:Nat)(f:P5 X e te)(d:X.N[i]?=some x:=by rfl)(c:WM X.env.scope x:=by first|exact Or.inl rfl|exact Or.inr (Or.inl rfl)|exact Or.inr (Or.inr rfl))
  (g:(x==("__debug__" : Str))=false:=by decide) (k:(x==("__classdict__" : Str))=false:=by decide)
  (m:attributeBase (.Name x px) "extend" X.env (eval (.Name x px) X.env)=eval (.Name x px) X.env:=by rfl)
  (h:((backTo cpos (starEach [e] X.env)).all (λx=>!x.1) && (backToKw cpos (keywordEach [] X.env)).all (λx=>x.1.isSome) && decide ([e].length+([]:List Keyword).length+(if([]:List Keyword).isEmpty then 0 else 1)<30))=true:=by rfl)
  (l:(a.endLine==cpos.line)=true:=by rfl) (b:starEach [e] X.env=(false,eval e X.env)::starEach [] X.env:=by rfl) (j:(backTo cpos (starEach [] X.env)).any (·.1)=false:=by rfl)
  (hs:swapsWith (.Call (.Attribute (.Name x px) "extend" a) [e] [] cpos) none pos.line X.env=pure false:=by rfl) :
  Sf X (.Expr (.Call (.Attribute (.Name x px) "extend" a) [e] [] cpos) pos) (Bn i te):=by
 have a:=ku (pos:=pos) (Ds PySem.F.plainAttrs_list PySem.F.slot_list_extend PySem.F.type_list_extend Fb (fg d c g k) (gR f.pe mG b) m h l b j) hs;refine Sf.of a λp H W b E r s h=>?_
 obtain⟨c,k,h⟩:=h;obtain⟨a,f,l,g,j,o⟩:=r.pN i c k;refine⟨.ref a,g,.inl ⟨rfl,_,SqL.of j⟩,W,b,_,r,h,λv h d e n q=>?_⟩;obtain⟨i,rfl,z,q⟩:=q;obtain⟨b,c,rfl,_,m,d⟩:∃b c,v=.ref b/\¬W.bad true b/\RU X.K h true b c/\aj X.K W.bad h i c:=by simpa only[Den]using n
 have h:=e _ _ j;have j:=r.same e;have i:=o.same e;refine⟨a,b,f,c,rfl,rfl,h,(m.2 rfl).1,by rw[i.len,d.len];exact z,?_⟩;obtain⟨a,b⟩:=j.WQ (vs':=f++c) k l g h (i.append d);exact⟨W,_,(Qk.same e).trans b,a,q⟩
inductive KDP (X:Cx) (pins:yab) (σ:St) (W:Own) (H:Hp) (Q:D->Prop) (u:Value) (s':Shared):Prop
 |mk (b:Addr) (vs:yar) (H':Hp) (ds:yas) (_:u=.ref b) (_:Inv X pins σ H' s') (_:aw H H') (_:H' b=some (.tup vs)) (_:aj X.K W.bad H' ds vs) (_:Q (.tup ds))
def PEK(X:Cx)(e:Expr)(t:DE):Prop :=
 ∀ (a:yab) (s:Shared) (b:St) (H:Hp) (W:Own) (c:Ro) (Q:D->Prop),Inv X a b H s->Rel X W H b c->t c Q →
  wpAny (model X.prog X.w) X.A (eval e X.env) (KDP X a b W H Q) X.xe s
end
def NY(ys:yas)(R:yas->Prop):(∃xs,D.lst true ys=.lst true xs/\R xs)=R ys:=by apply propext;constructor;rintro⟨xs,e,q⟩;cases e;exact q;intro q;exact⟨ys,rfl,q⟩
def bL{c:Type}{wi:DA}{g:DG}{tb:DS}{E:k8}(xs:List c)(f:c->D)(Pv:Nat->Ro->Prop)(h:∀R:yas->Prop,R (xs.map f)->wi ρ R)(d:Pv 0 ρ)
  (b:∀(j:Nat) (x:c) (a:Ro),xs[j]?=some x->Pv j a->g (f x) a λi=>tb {E with nx:=Pv (j+1),ct:=Pv (j+1),bk:=E.nx} i) (e:∀a,Pv xs.length a->E.nx a):yE wi g tb E ρ:=by
 refine h _ ⟨Pv,d,λj d a c d=>?_,λa d=>e a (by rw[Pq]at d;exact d)⟩;rw[QZ]at c;cases ex:xs[j]? with
 |none=>rw[ex]at c;cases c
 |some x =>
  rw[ex]at c;cases c;exact b j x a ex d
inductive KPs (K:yac) (P:yak) (H:Hp):List (yas×D)->List (Value×Value)->Prop
 |nil:KPs K P H [] []
 |cons {b:Addr} {vs:yar} {ks:yas} {d:D} {x:V} {u:Value} {ds:List (yas×D)} {ws:List (Value×Value)} (hb:H b=some (.tup vs)) (hk:aj K P H ks vs) (hd:Den K P H d x) (r:RelV x u) (t:KPs K P H ds ws):KPs K P H ((ks,d)::ds) ((.ref b,u)::ws)
def PPK(X:Cx)(pos:Pos)(keys:List (Option Expr))(a:yai)(t:Ro->(List (yas×D)->Prop)->Prop):Prop :=
 ∀ (b:yab) (s:Shared) (c:St) (H:Hp) (W:Own) (d:Ro) (Q:List (yas×D)->Prop),Inv X b c H s->Rel X W H c d->t d Q →
  wpAny (model X.prog X.w) X.A (evalPairs (pairTrees keys a X.env pos)) (λe f=>∃a d,Inv X b c a f/\aw H a/\KPs X.K W.bad a d e/\Q d) X.xe s
section
variable{X:Cx}{pos:Pos}
inductive KPi (H:Hp):List (List Key×Int)->List (Value×Value)->Prop
 |nil:KPi H [] []
 |cons {b:Addr} {k:List Key} {n:Int} {u:Value} {ds:List (List Key×Int)} {ws:List (Value×Value)} (hb:H b=some (.tup (k.map kV))) (r:RelV (.int n) u) (t:KPi H ds ws):KPi H ((k,n)::ds) ((.ref b,u)::ws)
def JE (g:X.calm=true):fy X (.builtin "max") (λds Q=>(∃i j:Int,ds=[.int i,.int j]/\Q (.int (max i j)))∨∃ (t:Bool) (ns:yaf),ds=[.lst t (ns.map D.int)]/\0<ns.length/\∀m,m∈ns->(∀n∈ns,n<=m)->Q (.int m)):=by
 intro a s c H W ds d h Q I k r b q;rcases q with⟨i,j,e,q⟩| ⟨t,ns,e,f,q⟩;exact LG g a s c H W ds d h Q I k r b ⟨i,j,e,q⟩;subst e;obtain⟨v,rfl,c⟩:=mZ b;obtain⟨a,l,b,_,e,d⟩:=c.Se;subst b;cases r with
 |cons c b =>
  cases b;cases c;obtain⟨Pp,b,c,_⟩:=I.list e;rw[cc d]at b;have d:=intsAre_of b;obtain⟨b,e⟩:=d.allInts.items;have h:s.heap.IsList a (intItems b):=by rw[<- e];exact c.isList
  have c:ns=b.toList.map (·.1):=by rw[<- d.numsOf,<- nums_intItems,<- e]
  have a:0<b.size:=by rw[c,Pq,Tp]at f;exact f
  refine max_intList (I.ok.hd g) h a λy u p a e=>?_
  obtain⟨o,rfl⟩:=intItems_at a;obtain⟨w,g⟩:=argBest_gt (numAt b) (b.size - 1);have d:∀j,j<b.size->b.toList.map (·.1) ≠ []->numAt b j∈ns:=λj a _=>by
   rw[c,numAt_eq];have:(b.toList.map (·.1))[j]?=some ((b.toList.map (·.1)).getD j 0):=by simp[a]
   exact Rt this
  refine⟨.int _,H,_,I.kept e,⟨_,rfl⟩,aw.refl H,Den.int _,q _ (d _ (by omega) (by rw[<- c];exact Y2 f)) λn d=>?_⟩;rw[c]at d;obtain⟨j,a,c⟩:=WD d;have:numAt b j=n:=by rw[numAt_eq,<- c];simp only[Q2,Qw a,zDH]
  rw[<- this];rw[Pq,Tp]at a;exact g j (by omega)
end
end PD
namespace PZ
open PySem PySem.Spec PyProof.Rows
abbrev IG (h:Heap) (T:Addr) (a b c:Value):Prop:=h.get? T=some {cls:=.type "tuple", data:=.seq #[a,b,c]}
structure Ap3(z TI TO i1 i2 i3:Addr):Prop where
 a1:TI≠z
 a2:TO≠z
 a3:i1≠z
 a4:i2≠z
 a5:i3≠z
 b1:TI≠TO
 b2:TI≠i1
 b3:TI≠i2
 b4:TI≠i3
 c1:TO≠i1
 c2:TO≠i2
 c3:TO≠i3
 d1:i1≠i2
 d2:i1≠i3
 d3:i2≠i3
structure Pf(z TO i1 i2 i3 l:Addr):Prop where
 c1:l≠z
 c2:l≠TO
 c3:l≠i1
 c4:l≠i2
 c5:l≠i3
structure Ph(z TI TO i1 i2 i3 l1 l2 l3:Addr)(i:Nat)(h:Heap):Prop where
 z:IsZip h z TI TO .none
 ti:IG h TI (.ref i1) (.ref i2) (.ref i3)
 to:∃a b c,IG h TO a b c
 s1:Td true h i1 l1 i
 s2:Td true h i2 l2 i
 s3:Td true h i3 l3 i
end PZ
namespace PD
open PySem PySem.Spec PyProof.Rows L2 PZ
section
variable{X:Cx}
noncomputable def TQ(xs ys a:yas):yas:=List.zipWith (λf z=>f z) (List.zipWith (λx y z=>D.tup [x,y,z]) xs ys) a
end
end PD
namespace ST
open PySem PySem.SetTable
def S:Nat->Nat
 |0=>0
 |n+1=>5*S n+1
theorem tM:∀n,5 ^ n=4*S n+1
 |0=>rfl
 |n+1=>by rw[Xb,tM n];show _=4*(5*S n+1)+1;lia
theorem CI(m:Nat):∀n,S (n+m)=5 ^ m*S n+S m
 |0=>by simp[S]
 |n+1=>by rw[show n+1+m=(n+m)+1 by lia];show 5*S (n+m)+1=5 ^ m*(5*S n+1)+S m;rw[CI m n,tM m];grind
theorem IH:∀k,∃o,S (2 ^ k)=2 ^ k*(2*o+1)
 |0=>⟨0,rfl⟩
 |k+1=>by obtain⟨o,e⟩:=IH k;refine⟨o+(2*o+1)*(2 ^ k*(2*o+1)),?_⟩;rw[show 2 ^ (k+1)=2 ^ k+2 ^ k by rw[Xb];lia,CI,tM,e];grind
theorem round:∀(k x e:Nat),e<2 ^ k->∃n,n<2 ^ k/\(5 ^ n*x+S n) % 2 ^ k=e
 |0,x,e,h=>⟨0,by decide,by lia⟩
 |k+1,x,e,h=>by
  obtain⟨n,g,q⟩:=round k x (e % 2 ^ k) (Xc _ (Nat.two_pow_pos k));obtain⟨o,b⟩:=IH k;have f:=Nat.two_pow_pos k;have a:2 ^ (k+1)=2*2 ^ k:=by lia
  generalize hv:5 ^ n*x+S n=v at q;have UD:5 ^ (n+2 ^ k)*x+S (n+2 ^ k)=v+2 ^ k+2 ^ (k+1)*(o+2*(2*o+1)*v):=by rw[CI,Nat.pow_add,tM (2 ^ k),b,a,<- hv];grind
  generalize 2 ^ k=p at *;rw[a]at h ⊢;by_cases z:v % (2*p)=e;exact⟨n,by lia,by rw[hv];exact z⟩;refine⟨n+p,by lia,?_⟩;rw[UD,a,Nat.add_mul_mod_self_left];have i:v % (2*p) % p=v % p:=Nat.mod_mul_left_mod v 2 p;have d:v % (2*p)<2*p:=Xc _ (by lia);rw[Nat.add_mod,Ux (show p<2*p by lia)];generalize v % (2*p)=u at *;have a:u=u % p∨u=u % p+p:=by
   by_cases c:u<p
   left;rw[Ux c]
   right
   have:u % p=u - p:=by rw[Nat.mod_eq_sub_mod (by lia),Ux (by lia)]
   lia
  have b:e=e % p∨e=e % p+p:=by
   by_cases c:e<p
   left;rw[Ux c]
   right
   have:e % p=e - p:=by rw[Nat.mod_eq_sub_mod (by lia),Ux (by lia)]
   lia
  rcases a with a|a<;>rcases b with b|b
  lia
  rw[Ux (by lia)];lia;rw[Nat.mod_eq_sub_mod (by lia),Ux (by lia)];lia
  lia
noncomputable def runs(mask:Nat):Nat->Nat->Nat->yag
 |0,_,_=>[]
 |c+1,i,a=>List.range' i (runEnd mask i+1 - i)++runs mask c (leap mask i a).1 (leap mask i a).2
theorem pU(mask c i pt:Nat):runs mask (c+1) i pt=List.range' i (runEnd mask i+1 - i)++runs mask c (leap mask i pt).1 (leap mask i pt).2:=rfl
def cS(mask:Nat)(h:Int):yag:=runs mask (turns mask) (bits h % (mask+1)) (bits h)
theorem jo{mask i:Nat}(h:i<=mask):i<=runEnd mask i/\runEnd mask i<=mask/\runEnd mask i<=i+9:=by unfold runEnd;lia
def qO(mask i pt:Nat):(leap mask i pt).1<=mask:=by
 have:(leap mask i pt).1<mask+1:=Xc _ (by simp_all)
 lia
theorem Ce{mask:Nat}:∀{c i pt:Nat},i<=mask->∀x∈runs mask c i pt,x<=mask
 |0,_,_,_,x,h=>by cases h
 |c+1,i,pt,a,x,h=>by
  rcases RH.mp h with z|z;grind [List.mem_range'_1,jo];exact Ce (qO _ _ _) x z
theorem zV{mask:Nat}:∀{c i pt:Nat},i<=mask->(runs mask c i pt).length<=10*c
 |0,_,_,_=>Qu _
 |c+1,i,pt,a=>by have ih:=zV (c:=c) (pt:=(leap mask i pt).2) (qO mask i pt);have:=jo a;unfold runs;grind
def df(mask:Nat):Nat->Nat×Nat->Nat×Nat
 |0,p=>p
 |n+1,p=>df mask n (leap mask p.1 p.2)
theorem uC{mask:Nat}:∀{n c i pt:Nat},∀x∈runs mask c (df mask n (i,pt)).1 (df mask n (i,pt)).2,x∈runs mask (n+c) i pt
 |0,c,i,pt,x,h=>by rw[V8];exact h
 |n+1,c,i,pt,x,h=>by have:=uC (n:=n) (c:=c) (i:=(leap mask i pt).1) (pt:=(leap mask i pt).2) x h;rw[show n+1+c=(n+c)+1 by lia];exact SO _ this
def FR{mask c i:Nat}(h:i<=mask):i∈runs mask (c+1) i pt:=by refine Vu _ ?_;grind [List.mem_range'_1,jo]
theorem zr(mask:Nat):∀(n:Nat) (p:Nat×Nat),(df mask n p).2=p.2 / 32 ^ n
 |0,p=>by simp[df]
 |n+1,p=>by show(df mask n (leap mask p.1 p.2)).2=_;rw[zr mask n];show p.2 / 32 / 32 ^ n=_;rw[Nat.div_div_eq_div_mul,Xb,Nat.mul_comm]
theorem um{mask k:Nat}(a:mask+1=2 ^ k):∀(n i:Nat),i<=mask->(df mask n (i,0)).1=(5 ^ n*i+S n) % 2 ^ k
 |0,i,h=>by rw[Nat.pow_zero,Nat.one_mul];show i=(i+0) % 2 ^ k;rw[Nat.add_zero,Ux (by lia)]
 |n+1,i,h=>by
  have e:leap mask i 0=((i*5+1) % (mask+1),0):=by unfold leap;simp
  show(df mask n (leap mask i 0)).1=_;rw[e,um a n _ (by have:=Xc (i*5+1) (show 0<mask+1 by lia);lia),a];have a:(5 ^ n*((i*5+1) % 2 ^ k)+S n) % 2 ^ k=(5 ^ n*(i*5+1)+S n) % 2 ^ k:=by rw[Nat.add_mod,Nat.mul_mod,Nat.mod_mod,<- Nat.mul_mod,<- Nat.add_mod]
  rw[a,Xb];congr 1;show _=5 ^ n*5*i+(5*S n+1);have:=tM n;grind
theorem wV(mask:Nat):∀(m n:Nat) (p:Nat×Nat),df mask (m+n) p=df mask n (df mask m p)
 |0,n,p=>by rw[V8];rfl
 |m+1,n,p=>by rw[show m+1+n=(m+n)+1 by lia];exact wV mask m n _
theorem zq(mask:Nat):∀(n:Nat) (p:Nat×Nat),p.1<=mask->(df mask n p).1<=mask
 |0,_,h=>h
 |n+1,p,_=>zq mask n _ (qO _ _ _)
def cover{mask k:Nat}(c:mask+1=2 ^ k)(h:Int){e:Nat}(g:e<=mask):e∈cS mask h:=by
 have d:bits h<2 ^ 64:=by
  unfold bits
  lia
 have a:bits h % (mask+1)<=mask:=by have:=Xc (bits h) (show 0<mask+1 by lia);lia
 generalize hp:(bits h % (mask+1),bits h)=p;have b:p.1<=mask:=by rw[<- hp];exact a
 have z:(df mask 13 p).2=0:=by rw[zr,<- hp];exact Nat.div_eq_of_lt (R7 d (by decide))
 have a:=zq mask 13 p b;obtain⟨n,f,b⟩:=round k (df mask 13 p).1 e (by lia);have j:(df mask (13+n) p).1=e:=by rw[wV];have:df mask 13 p=((df mask 13 p).1,0):=Prod.ext rfl z;rw[this,um c n _ a];exact b
 have:=uC (mask:=mask) (n:=13+n) (c:=(mask - n)+2) (i:=bits h % (mask+1)) (pt:=bits h) e (by simp_all [FR])
 unfold cS turns;grind
def jC(xs:yap):Prop:=∀a b:Nat,a<b->b<xs.size->xs.getD a 0<xs.getD b 0
theorem rQ{j:Nat}(c:jC xs):∀(fuel lo b:Nat),lo<=b->b<=xs.size->b - lo<=fuel->(∀a,a<lo->xs.getD a 0<j)->(∀a,b<=a->a<xs.size->j<=xs.getD a 0) →
  (below.go xs j fuel lo b<=xs.size)/\(∀a,a<below.go xs j fuel lo b->xs.getD a 0<j)/\∀a,below.go xs j fuel lo b<=a->a<xs.size->j<=xs.getD a 0
 |0,lo,b,h,g,e,f,d=>by
  have:lo=b:=by omega
  subst this;exact⟨g,f,d⟩
 |fuel+1,lo,b,h,g,e,f,d=>by
  unfold below.go;by_cases h:lo<b;rw[Pt h];have k:(lo+b) / 2<b/\lo<=(lo+b) / 2:=by omega
  have e:xs.getD ((lo+b) / 2) j=xs.getD ((lo+b) / 2) 0:=by
   have:(lo+b) / 2<xs.size:=by omega
   simp[Array.getD,this]
  simp only[e];split;rename_i z;refine rQ c fuel _ b (by omega) g (by omega) (λa i=>?_) d;by_cases e:a=(lo+b) / 2;rw[e];exact z;exact Nat.lt_trans (c a ((lo+b) / 2) (by omega) (by omega)) z;rename_i z;refine rQ c fuel lo _ (by omega) (by omega) (by omega) f λa i i=>?_
  by_cases e:a=(lo+b) / 2;rw[e];omega;have:=c ((lo+b) / 2) a (by omega) i;omega;rw[Po h];have:lo=b:=by omega
  subst this;exact⟨g,f,d⟩
def jV(b:jC xs)(j:Nat):below xs j<=xs.size/\(∀a,a<below xs j->xs.getD a 0<j)/\∀a,below xs j<=a->a<xs.size->j<=xs.getD a 0 :=
 rQ b xs.size 0 xs.size (RS _) (Qu _) (by lia) (by lia) (by lia)
def dZ{xs:yap}{a x:Nat}(h:xs[a]?=some x):xs.getD a 0=x/\a<xs.size:=by
 obtain⟨l,e⟩:=Yj.mp h
 simp_all
def uf{xs:yap}{a:Nat}(h:a<xs.size):xs[a]?=some (xs.getD a 0):=by simp_all
def below_at(b:jC xs){a j:Nat}(h:xs[a]?=some j):below xs j=a:=by
 obtain⟨e,l⟩:=dZ h;obtain⟨i,d,c⟩:=jV b j;have g:¬a<below xs j:=λz=>by have:=d a z;omega
 have f:¬below xs j<a:=λz=>by have:=c (below xs j) (Qu _) (by omega);have:=b _ a z l;omega
 omega
def w9{t:SetTable}(b:jC t.place){a j:Nat}(h:t.place[a]?=some j):t.slot j=.live a:=by unfold SetTable.slot;rw[below_at b h];simp[h]
def DF{t:SetTable}(a:jC t.place)(b:t.dummies=#[]){j:Nat}(h:j∉t.place.toList):t.slot j=.empty:=by
 have n:¬((t.place[below t.place j]?==some j)=true):=λz=>by
  have e:t.place[below t.place j]?=some j:=by simp_all
  exact h (by obtain⟨l,q⟩:=Yj.mp e;rw[<- q];exact Array.getElem_mem_toList l)
 unfold SetTable.slot;have:has #[] j=false:=by unfold has;simp
 simp_all
def ahead(mask:Nat)(c:Nat)(p:Probe):yag:=List.range' p.j (p.more+1)++runs mask c (leap mask p.i p.perturb).1 (leap mask p.i p.perturb).2
def Az(t:SetTable)(h:Int):∃c,cS t.mask h=ahead t.mask c (t.probeStart h):=by
 refine⟨t.mask+14,?_⟩;unfold cS ahead turns probeStart;show runs t.mask ((t.mask+14)+1) _ _=_;rw[pU];have a:bits h % (t.mask+1)<=t.mask:=by have:=Xc (bits h) (show 0<t.mask+1 by lia);lia
 have:=jo a;simp only;rw[show runEnd t.mask (bits h % (t.mask+1))+1 - bits h % (t.mask+1)=runEnd t.mask (bits h % (t.mask+1)) - bits h % (t.mask+1)+1 by lia]
def CK(t:SetTable){x:Nat}{r:yag}(e:ahead t.mask c p=x::r):p.j=x/\(r=[]∨∃ a,r=ahead t.mask a (t.advance p)):=by
 unfold ahead at e;rw[List.range'_succ,WG]at e;obtain⟨b,a⟩:=List.cons.inj e;refine⟨b,?_⟩;unfold SetTable.advance;by_cases b:p.more > 0
 right
 refine⟨c,?_⟩;rw[Pt b,<- a];unfold ahead;simp only;rw[show p.more - 1+1=p.more by lia];have d:p.more=0:=by lia
 rw[d]at a;simp only[List.range'_zero,WJ]at a;cases c with
 |zero=>left;rw[<- a];rfl
 |succ c =>
  right
  refine⟨c,?_⟩;rw[Po b,<- a];have a:=qO t.mask p.i p.perturb;have:=jo a;unfold ahead;rw[pU];simp only;rw[show runEnd t.mask (leap t.mask p.i p.perturb).1+1 - (leap t.mask p.i p.perturb).1=runEnd t.mask (leap t.mask p.i p.perturb).1 - (leap t.mask p.i p.perturb).1+1 by lia]
theorem zP{t:SetTable}(w:jC t.place)(H:t.dummies=#[])(hashAt:Nat->Int)(h:Int):∀(l:yag) (g c:Nat) (p:Probe),ahead t.mask c p=l->l.length<=g->(∃x∈l,x∉t.place.toList)->p.dummy=none →
  (∃f j d,l=f++j::d/\(∀x∈f,∃a,t.place[a]?=some x/\hashAt a≠h)/\j∉t.place.toList/\probe.go t hashAt h g p=some (.empty j none)) ∨
  ∃ f j d a q k,l=f++j::d/\(∀x∈f,∃a,t.place[a]?=some x/\hashAt a≠h)/\t.place[a]?=some j/\hashAt a=h/\d=ahead t.mask k q/\q.dummy=none/\probe.go t hashAt h g p=some (.candidate j a q)
 |[],_,_,_,_,_,m,_=>by obtain⟨x,m,_⟩:=m;cases m
 |x::r,0,_,_,_,B,_,_=>by simp at B
 |x::r,g+1,c,p,e,B,m,n=>by
  obtain⟨M,L⟩:=CK t e;subst M;unfold probe.go;by_cases u:p.j∈t.place.toList;obtain⟨a,A,N⟩:=WD u;have C:t.place[a]?=some p.j:=by rw[<- Vt,Qw A,N]
  rw[w9 w C];have J:∃x∈r,x∉t.place.toList:=by
   obtain⟨y,i,G⟩:=m;rcases Qg.mp i with z|z;subst z;exact absurd u G;exact⟨y,z,G⟩
  have E:∃k,r=ahead t.mask k (t.advance p):=by
   rcases L with z|z;obtain⟨y,i,_⟩:=J;rw[z]at i;cases i;exact z
  have o:(t.advance p).dummy=none:=by unfold SetTable.advance;split<;>exact n
  obtain⟨k,I⟩:=E;simp only;by_cases s:hashAt a=h
  right
  rw[Pt (by simpa using s)];exact⟨[],p.j,r,a,t.advance p,k,rfl,by simp,C,s,I,o,rfl⟩;rw[Po (by simpa using s)];have good:∃a,t.place[a]?=some p.j/\hashAt a≠h:=⟨a,C,s⟩;rcases zP w H hashAt h r g k (t.advance p) I.symm (by simp at B;omega) J o with⟨f,j,d,e1,e2,e3,e4⟩| ⟨f,j,d,b,q,c2,e1,e2,e3,e4,e5,e6,e7⟩
  left
  refine⟨p.j::f,j,d,by rw[e1];rfl,λy i=>?_,e3,e4⟩;rcases Qg.mp i with z|z;rw[z];exact good;exact e2 y z
  right
  refine⟨p.j::f,j,d,b,q,c2,by rw[e1];rfl,λy i=>?_,e3,e4,e5,e6,e7⟩;rcases Qg.mp i with z|z;rw[z];exact good;exact e2 y z
  left
  rw[DF w H u];exact⟨[],p.j,r,rfl,by simp,u,by simp[n]⟩
structure Tab(t:SetTable)(hs:yaf):Prop where
 k:∃k,t.mask+1=2 ^ (k+1)
 rise:jC t.place
 le:∀x∈t.place.toList,x<=t.mask
 dum:t.dummies=#[]
 len:t.place.size=hs.length
 room:t.place.size<=t.mask
 reach:∀(a x:Nat) (h:Int),t.place[a]?=some x->hs[a]?=some h->∃pre post,cS t.mask h=pre++x::post/\∀y∈pre,y∈t.place.toList
theorem Tab.fits(T:Tab t hs):t.fits hs.length=true:=by
 unfold SetTable.fits SetTable.fill;rw[T.dum];simp[T.len];have:=T.len;have:=T.room
 lia
def Tab.stays(T:Tab t hs):t.gaveWay=false:=by
 obtain⟨k,e⟩:=T.k;unfold SetTable.gaveWay
 lia
def Ig(d:jC xs){a b x y:Nat}(f:xs[a]?=some x)(e:xs[b]?=some y)(h:x<y):a<b:=by
 obtain⟨j,c⟩:=dZ f;obtain⟨i,g⟩:=dZ e;rcases ZM a b with z|z|z;exact z
 lia
 have:=d b a z c
 lia
def BQ{xs:yap}{x:Nat}(h:x∈xs.toList):∃a:Nat,xs[a]?=some x:=by obtain⟨a,b,c⟩:=WD h;exact⟨a,by rw[<- Vt,Qw b,c]⟩
def get_mem{xs:yap}{a x:Nat}(h:xs[a]?=some x):x∈xs.toList:=by obtain⟨l,q⟩:=Yj.mp h;rw[<- q];exact Array.getElem_mem_toList l
def JX(g:jC xs){mask:Nat}(hs:xs.size<=mask):∃e,e<=mask/\e∉xs.toList:=by
 refine ZC λa=>?_
 have d:∀e,e<=mask->e∈xs.toList:=λe b=>ZC λn=>a ⟨e,b,n⟩
 have f:∀j,j<=mask->∃a,xs[a]?=some j/\j<=a:=by
  intro j
  induction j with
  |zero=>intro h;obtain⟨a,c⟩:=BQ (d 0 h);exact⟨a,c,RS _⟩
  |succ j ih =>
   intro h;obtain⟨a,c,i⟩:=ih (by lia);obtain⟨b,e⟩:=BQ (d (j+1) h);have:=Ig g c e (by lia);exact⟨b,e,by lia⟩
 obtain⟨a,c,k⟩:=f mask (Qu _);have:=(dZ c).2
 lia
def Tab.empty(T:Tab t hs)(h:Int):∃x∈cS t.mask h,x∉t.place.toList:=by obtain⟨e,c,a⟩:=JX T.rise T.room;obtain⟨k,b⟩:=T.k;exact⟨e,cover b h c,a⟩
def uT(mask:Nat)(h:Int):(cS mask h).length<=10*turns mask:=zV (by have:=Xc (bits h) (show 0<mask+1 by lia);lia)
def qu(mask:Nat)(h:Int):∀x∈cS mask h,x<=mask:=Ce (by have:=Xc (bits h) (show 0<mask+1 by lia);lia)
def nC{a:Type}(xs:Array a)(p:Nat)(x:a):(insertAt xs p x).toList=xs.toList.take p++x::xs.toList.drop p:=by
 unfold insertAt
 simp_all [ZG,zCq,Tp,Qu]
def get_ins{b:Type}{l:List b}{p:Nat}(c:p<=l.length)(x:b)(a:Nat):(l.take p++x::l.drop p)[a]?=if a<p then l[a]? else if a=p then some x else l[a - 1]?:=by by_cases h:a<p;rw[Pt h,V2 (by rw[Uv];lia),List.getElem?_take,Pt h];rw[Po h,Wy (by rw[Uv];lia),Uv,Nat.min_eq_left c];by_cases e:a=p;rw[Pt e,e,Nat.sub_self];rfl;rw[Po e,show a - p=(a - p - 1)+1 by lia,List.getElem?_cons_succ,List.getElem?_drop,show p+(a - p - 1)=a - 1 by lia]
theorem Tab.put(T:Tab t hs){j:Nat}{i f:yag}(n:j∉t.place.toList)(p:cS t.mask h=i++j::f)(A:∀y∈i,y∈t.place.toList)(b:t.place.size+1<=t.mask) :
  Tab (t.put j).1 (hs.take (t.put j).2++h::hs.drop (t.put j).2)/\(t.put j).2<=hs.length/\(t.put j).1.mask=t.mask/\(t.put j).1.place.size=t.place.size+1:=by
 have c:(t.put j).1.place=insertAt t.place (below t.place j) j:=rfl;have r:(t.put j).2=below t.place j:=rfl;have e:(t.put j).1.mask=t.mask:=rfl;have d:(t.put j).1.dummies=#[]:=by
  show(if has t.dummies j then _ else t.dummies)=_;rw[T.dum];have:has #[] j=false:=by unfold has;simp
  rw[this];rfl
 obtain⟨a,E,C⟩:=jV T.rise j;have g:below t.place j<=t.place.toList.length:=by rw[Tp];exact a
 have s:below t.place j<=hs.length:=by rw[<- T.len];exact a
 have o:∀a,(t.put j).1.place[a]?=if a<below t.place j then t.place[a]? else if a=below t.place j then some j else t.place[a - 1]?:=λa=>by rw[c,<- Vt,nC,get_ins g,Vt,Vt]
 have k:(t.put j).1.place.size=t.place.size+1:=by
  rw[c,<- Tp,nC,Sw,Uv,SQ,zCq,Tp]
  lia
 have m:∀x,x∈(t.put j).1.place.toList↔x=j∨x∈t.place.toList:=λx=>by
  rw[c,nC,RH,Qg];constructor;rintro(z|z|z);exact .inr (zCo z);exact .inl z;exact .inr (List.mem_of_mem_drop z);rintro(z|z);exact .inr (.inl z);rw[<- zCb (below t.place j) t.place.toList]at z;rcases RH.mp z with q|q;exact .inl q;exact .inr (.inr q)
 refine⟨⟨T.k,?_,?_,d,?_,by rw[k];exact b,?_⟩,s,e,k⟩;intro a b l c;rw[k]at c;have g:=uf (xs:=(t.put j).1.place) (a:=a) (by rw[k];lia);have d:=uf (xs:=(t.put j).1.place) (a:=b) (by rw[k];exact c);rw[o a]at g;rw[o b]at d;have w:∀c,c<t.place.size->t.place.getD c 0≠j:=λc c e=>n (by rw[<- e];exact get_mem (uf c))
 by_cases e:a<below t.place j;rw[Pt e]at g;obtain⟨B,u⟩:=dZ g;have:=E a e;by_cases n:b<below t.place j;rw[Pt n]at d;obtain⟨q,c⟩:=dZ d;have:=T.rise a b l c
 lia
 rw[Po n]at d;by_cases l:b=below t.place j;rw[Pt l]at d;have:=Uy d
 lia
 rw[Po l]at d;obtain⟨q,c⟩:=dZ d;have:=T.rise a (b - 1) (by lia) c
 lia
 rw[Po e]at g;have n:¬b<below t.place j:=by lia
 have l:¬b=below t.place j:=by lia
 rw[Po n,Po l]at d;obtain⟨q,c⟩:=dZ d;by_cases d:a=below t.place j;rw[Pt d]at g;have:=Uy g;have:=C (b - 1) (by lia) c;have:=w (b - 1) c
 lia
 rw[Po d]at g;obtain⟨B,u⟩:=dZ g;have:=T.rise (a - 1) (b - 1) (by lia) c
 lia
 intro x b;rcases(m x).mp b with z|z;subst z;exact qu t.mask h x (by rw[p];simp);exact T.le x z;rw[k,r,Sw,Uv,SQ,zCq,<- T.len]
 lia
 intro a x n b c;rw[o a]at b;rw[r,get_ins s]at c;have g:∀{l:yag},(∀y∈l,y∈t.place.toList)->∀y∈l,y∈(t.put j).1.place.toList:=λk y h=>(m y).mpr (.inr (k y h))
 by_cases e:a<below t.place j;rw[Pt e]at b c;obtain⟨m,l,k,h⟩:=T.reach a x n b c;exact⟨m,l,k,g h⟩;rw[Po e]at b c;by_cases d:a=below t.place j;rw[Pt d]at b c;cases b;cases c;exact⟨i,f,p,g A⟩;rw[Po d]at b c;obtain⟨m,l,k,h⟩:=T.reach (a - 1) x n b c;exact⟨m,l,k,g h⟩
theorem wM(mask:Nat)(owner:Array (Option Nat)):∀(fuel i pt:Nat),layClean.free mask owner fuel i pt=(runs mask fuel i pt).find? λy=>(owner.getD y (some 0)).isNone
 |0,_,_=>rfl
 |fuel+1,i,pt=>by
  rw[pU,List.find?_append,List.range'_eq_map_range,List.find?_map];unfold layClean.free;have ih:=wM mask owner fuel (leap mask i pt).1 (leap mask i pt).2;have a:((λy=>(owner.getD y (some 0)).isNone)∘λx=>i+x)=λk=>(owner.getD (i+k) (some 0)).isNone:=rfl
  rw[a];cases(List.range (runEnd mask i+1 - i)).find? λk=>(owner.getD (i+k) (some 0)).isNone with
  |some k=>rfl
  |none=>exact ih
structure Ow(mask:Nat)(hs:yaf)(owner:Array (Option Nat)):Prop where
 size:owner.size=mask+1
 cnt:(owner.toList.filter Option.isSome).length=hs.length
 at_:∀(i:Nat) (h:Int),hs[i]?=some h->∃j:Nat,owner[j]?=some (some i)/\∃pre post,cS mask h=pre++j::post/\∀y∈pre,∃q,owner[y]?=some (some q)
 lt:∀j i:Nat,owner[j]?=some (some i)->i<hs.length
 inj:∀j j' i:Nat,owner[j]?=some (some i)->owner[j']?=some (some i)->j=j'
theorem tX{a:Type}{p:a->Bool}:∀{l:List a} {x:a},l.find? p=some x->∃c b,l=c++x::b/\p x=true/\∀y∈c,p y=false
 |[],_,h=>by cases h
 |a::r,x,h=>by
  rw[List.find?_cons]at h;cases pa:p a with
  |true=>rw[pa]at h;cases h;exact⟨[],r,rfl,pa,by simp⟩
  |false =>
   rw[pa]at h;obtain⟨c,b,e,d,f⟩:=tX h;refine⟨a::c,b,by simp_all,d,λy g=>?_⟩;grind
theorem tW{c:Type}{p:c->Bool}:∀{l:List c} {j:Nat} {a b:c},l[j]?=some a->p a=false->p b=true->((l.set j b).filter p).length=(l.filter p).length+1
 |[],_,_,_,h,_,_=>by simp at h
 |x::r,0,a,b,h,d,c=>by grind
 |x::r,j+1,a,b,h,d,c=>by
  have ih:=tW (l:=r) (j:=j) (by simpa using h) d c;by_cases c:p x=true
  all_goals simp_all
def Ow.step{mask k:Nat}(g:mask+1=2 ^ k){hs:yaf}{owner:Array (Option Nat)}(O:Ow mask hs owner)(w:hs.length<=mask)(h:Int) :
  ∃ j,layClean.free mask owner (turns mask) (bits h % (mask+1)) (bits h)=some j/\Ow mask (hs++[h]) (owner.setIfInBounds j (some hs.length)):=by
 have i:∃e:Nat,e<=mask/\owner[e]?=some none:=by
  refine ZC λd=>?_
  have b:∀x∈owner.toList,Option.isSome x=true:=λx f=>by
   obtain⟨e,c,a⟩:=WD f;rw[Tp,O.size]at c;cases x with
   |some _=>rfl
   |none=>exact absurd ⟨e,by lia,by rw[<- Vt,Qw (by rw[Tp,O.size];exact c),a]⟩ d
  have:=O.cnt;rw[Tq.mpr b,Tp,O.size]at this
  lia
 have f:∀y,y<=mask->((owner.getD y (some 0)).isNone=true↔owner[y]?=some none):=λy b=>by
  have l:y<owner.size:=by rw[O.size];lia
  simp[Array.getD,l]
 obtain⟨e,c,a⟩:=i;have d:((cS mask h).find? λy=>(owner.getD y (some 0)).isNone).isSome=true:=by rw[List.find?_isSome];exact⟨e,cover g h c,(f e c).mpr a⟩
 obtain⟨j,a⟩:=Option.isSome_iff_exists.mp d;obtain⟨k,e,l,c,o⟩:=tX a;have d:j<=mask:=qu mask h j (by rw[l];simp);have i:=(f j d).mp c;have d:j<owner.size:=by rw[O.size];lia
 refine⟨j,by rw[wM];exact a,?_⟩;have g:∀y:Nat,(owner.setIfInBounds j (some hs.length))[y]?=if j=y then some (some hs.length)else owner[y]?:=λy=>by rw[Array.getElem?_setIfInBounds];by_cases c:j=y;rw[Pt c,Pt c,Pt d];rw[Po c,Po c]
 have d:∀(y q:Nat),owner[y]?=some (some q)->(owner.setIfInBounds j (some hs.length))[y]?=some (some q):=λy q b=>by rw[g,Po (λc=>by subst c;rw[i]at b;cases b)];exact b
 refine⟨by rw[Array.size_setIfInBounds];exact O.size,?_,?_,?_,?_⟩;rw[Array.toList_setIfInBounds,tW (a:=none) (by rw[Vt];exact i) rfl rfl,O.cnt,Sw];rfl;intro i u a;by_cases c:i<hs.length;rw[V2 c]at a;obtain⟨t,s,r,p,n,m⟩:=O.at_ i u a;exact⟨t,d _ _ s,r,p,n,λy b=>let ⟨q,z⟩:=m y b;⟨q,d _ _ z⟩⟩;have m:i=hs.length:=by
  have:=(RQ.mp a).1;simp at this
  lia
 subst m;simp at a;subst a;refine⟨j,by rw[g,Pt rfl],k,e,l,λy b=>?_⟩;have k:y<=mask:=qu mask h y (by rw[l];simp[b]);have e:=o y b;have a:y<owner.size:=by rw[O.size];lia
 cases oy:owner[y]with
 |none =>
  have:=(f y k).mpr (by rw[Wz a,oy]);rw[this]at e;cases e
 |some q=>exact⟨q,d y q (by rw[Wz a,oy])⟩
 intro y i b;rw[g]at b;by_cases c:j=y;rw[Pt c]at b;cases b;simp;rw[Po c]at b;have:=O.lt y i b;simp
 lia
 intro y d i b a;rw[g]at b a;by_cases c:j=y<;>by_cases e:j=d
 lia
 rw[Pt c]at b;rw[Po e]at a;cases b;have:=O.lt d _ a
 lia
 rw[Po c]at b;rw[Pt e]at a;cases a;have:=O.lt y _ b
 lia
 rw[Po c]at b;rw[Po e]at a;exact O.inj y d i b a
theorem zp{mask k:Nat}(b:mask+1=2 ^ k):∀(rest hs:yaf) (owner:Array (Option Nat)),Ow mask hs owner->hs.length+rest.length<=mask+1 →
  ∃ c,rest.foldl (λ(a:Option (Array (Option Nat)×Nat)) h=>do
   let (owner,k)←a
   let j←layClean.free mask owner (turns mask) (bits h % (mask+1)) (bits h)
   pure (owner.setIfInBounds j (some k),k+1)) (some (owner,hs.length))=some (c,(hs++rest).length)/\Ow mask (hs++rest) c
 |[],hs,owner,O,_=>by simp_all
 |h::r,hs,owner,O,a=>by rw[SQ]at a;obtain⟨j,e,a⟩:=O.step b (by lia) h;obtain⟨d,f,Q⟩:=zp b r (hs++[h]) _ a (by grind);grind
def AK{mask k:Nat}(b:mask+1=2 ^ k)(a:Array Int)(d:a.size<=mask+1):∃owner,layClean mask a=some owner/\Ow mask a.toList owner:=by
 have O:Ow mask [] (Array.replicate (mask+1) none):=by
  refine⟨by simp,by simp,by simp,λj i h=>?_,λj c i h _=>?_⟩
  all_goals simp_all [Array.getElem?_replicate]
 obtain⟨o,e,Q⟩:=zp b a.toList [] _ O (by simp_all);unfold layClean;grind
def live(mask:Nat)(owner:Array (Option Nat)):List (Nat×Nat):=(List.range (mask+1)).filterMap λj=>(owner.getD j none).map (j,·)
def iE{mask:Nat}{hs:yaf}{owner:Array (Option Nat)}(O:Ow mask hs owner){j i:Nat}:(j,i)∈live mask owner↔owner[j]?=some (some i):=by
 unfold live;rw[zCy];constructor;rintro⟨y,a,e⟩;rw[U2]at a;obtain⟨q,c,b⟩:=Wi.mp e;cases b;have l:j<owner.size:=by rw[O.size];exact a
 simp_all
 intro h;obtain⟨l,e⟩:=Yj.mp h;refine⟨j,by rw[U2,<- O.size];exact l,?_⟩
 simp_all
def se(mask:Nat)(owner:Array (Option Nat)):(live mask owner).map (·.1)=(List.range (mask+1)).filter λj=>(owner.getD j none).isSome:=by
 unfold live
 induction List.range (mask+1)with
 |nil=>rfl
 |cons a r ih =>
  cases e:owner.getD a none with
  |none=>simp_all
  |some q=>simp_all
def Hx{mask:Nat}{hs:yaf}{owner:Array (Option Nat)}(O:Ow mask hs owner):(live mask owner).length=hs.length:=by
 have b:(live mask owner).length=((live mask owner).map (·.1)).length:=by simp
 have a:owner.toList=(List.range (mask+1)).map λj=>owner.getD j none:=by
  apply List.ext_getElem?;intro j;rw[QZ,Vt];by_cases c:j<mask+1;have l:j<owner.size:=by rw[O.size];exact c
  simp_all
  rw[Y3 (by simp_all),zCV (by rw[O.size];lia)];rfl
 rw[b,se,<- O.cnt,a,List.filter_map,Pq];rfl
def wW(mask:Nat)(owner:Array (Option Nat)):((live mask owner).map (·.1)).Pairwise (·<·):=by rw[se];exact List.Pairwise.filter _ List.pairwise_lt_range
def KP{l:yag}(h:l.Pairwise (·<·)):jC l.toArray:=by
 intro a b c e;have d:b<l.length:=by simp_all
 have:=WA.mp h a b (by lia) d c;simp[Array.getD,show a<l.length by lia,d];exact this
def Kc{mask k:Nat}(N:mask+1=2 ^ (k+1))(finger moves:Nat)(led plain:Bool){V:Type}(es:Array (Int×V))(B:es.size<=mask) :
  ∃ t c,laid mask finger moves led plain (es.map (·.1))=some (t,c)/\t.mask=mask/\t.led=led/\t.plain=plain ∧
   ∃ d:List (Int×V),(c.filterMap (es[·]?)).toList=d/\d.length=es.size/\Tab t (d.map (·.1))/\t.place.size=es.size ∧
    (∀(a:Nat) (e:Int×V),d[a]?=some e->∃i:Nat,c[a]?=some i/\es[i]?=some e)/\(∀i:Nat,i<es.size->∃a:Nat,c[a]?=some i)/\∀(a b i:Nat),c[a]?=some i->c[b]?=some i->a=b:=by
 obtain⟨c,eo,O⟩:=AK N (es.map (·.1)) (by rw[Array.size_map];lia);have f:(es.map (·.1)).toList.length=es.size:=by simp
 refine⟨{mask,place:=((live mask c).map (·.1)).toArray,dummies:=#[],finger,led,moves,plain},((live mask c).map (·.2)).toArray,by unfold laid;rw[eo];rfl,rfl,rfl,rfl,?_⟩;have A:=Hx O;rw[f]at A;have w:∀p∈live mask c,p.2<es.size:=λp hp=>by have:=O.lt p.1 p.2 ((iE O).mp hp);rw[f]at this;exact this
 have m:∀l:List (Nat×Nat),(∀p∈l,p.2<es.size)->(((l.map (·.2)).filterMap λi=>es[i]?).map some)=l.map λp=>es[p.2]?:=λl B=>by
  induction l with
  |nil=>rfl
  |cons p r ih =>
   have o:=B p (by simp);rw[QO,List.filterMap_cons_some (Wz o),QO,QO,ih λq d=>B q (by simp[d]),Wz o]
 have Q:∀a:Nat,((((live mask c).map (·.2)).filterMap λi=>es[i]?)[a]?).map some=((live mask c)[a]?).map λp=>es[p.2]?:=λa=>by have:=congrArg (λl=>l[a]?) (m _ w);simp only[QZ]at this;exact this
 refine⟨((live mask c).map (·.2)).filterMap λi=>es[i]?,by simp,?_,?_,?_,?_,?_,?_⟩;have:=congrArg List.length (m _ w);rw[Pq,Pq]at this;rw[this,A];refine⟨⟨k,N⟩,KP (wW mask c),?_,rfl,?_,?_,?_⟩;intro x J;have E:x∈(live mask c).map (·.1):=by simpa using J
 rw[se,Yp,U2]at E;show x<=mask
 lia
 have:=congrArg List.length (m _ w);rw[Pq,Pq]at this;rw[S8,Pq,Pq,this];rw[S8,Pq,A];exact B;intro a x h J C;have E:((live mask c).map (·.1))[a]?=some x:=by simpa using J
 rw[QZ]at E;obtain⟨p,d,M⟩:=Wi.mp E;have g:=Q a;rw[d]at g;have o:=w p (Rt d);rw[QZ]at C;obtain⟨e,ee,eh⟩:=Wi.mp C;rw[ee,Option.map_some,Option.map_some,Wz o]at g;have L:=Uy (Uy g);obtain⟨j',o',G,n,ev,q⟩:=O.at_ p.2 h (by rw[<- eh,L,<- Vt]at *;rw[Vt,Array.getElem?_map,Wz o];rfl)
 have H:=(iE O).mp (show(p.1,p.2)∈live mask c from Rt d);have:=O.inj j' p.1 p.2 o' H;subst this;subst M;refine⟨G,n,ev,λy hy=>?_⟩;obtain⟨z,hz⟩:=q y hy;simp only[P6];exact⟨(y,z),(iE O).mpr hz,rfl⟩;rw[S8,Pq,A];intro a e he;have g:=Q a;rw[he]at g;cases d:(live mask c)[a]? with
 |none=>rw[d]at g;cases g
 |some p =>
  rw[d]at g;exact⟨p.2,by simp[d],(Uy g).symm⟩
 intro i hi;obtain⟨h,C⟩:∃h,(es.map (·.1)).toList[i]?=some h:=⟨_,Qw (by rw[f];exact hi)⟩;obtain⟨j,H,_⟩:=O.at_ i h C;obtain⟨a,I,ea⟩:=WD ((iE O).mpr H);exact⟨a,by simp[Qw I,ea]⟩;intro a b i ha hb;have U:((live mask c).map (·.2))[a]?=some i:=by simpa using ha
 have Y:((live mask c).map (·.2))[b]?=some i:=by simpa using hb
 rw[QZ]at U Y;obtain⟨p,d,M⟩:=Wi.mp U;obtain⟨q,T,e2⟩:=Wi.mp Y;have o1:=(iE O).mp (show(p.1,p.2)∈live mask c from Rt d);have o2:=(iE O).mp (show(q.1,q.2)∈live mask c from Rt T);have ej:=O.inj p.1 q.1 i (by rw[<- M];exact o1) (by rw[<- e2];exact o2);have r:=wW mask c;have I:=(RQ.mp d);have lb:=(RQ.mp T);obtain⟨u,t⟩:=I;obtain⟨s,j⟩:=lb;rcases ZM a b with z|z|z;have:=WA.mp r a b (by rw[Pq];exact u) (by rw[Pq];exact s) z;rw[VF,VF,t,j]at this
 lia
 exact z;have:=WA.mp r b a (by rw[Pq];exact s) (by rw[Pq];exact u) z;rw[VF,VF,t,j]at this
 lia
theorem xZ:∀(fuel a n:Nat),n<a*2 ^ fuel->∃m,sizeAbove.go n fuel a=a*2 ^ m/\n<a*2 ^ m
 |0,a,n,h=>⟨0,by simp[sizeAbove.go],h⟩
 |fuel+1,a,n,h=>by
  unfold sizeAbove.go;by_cases c:a<=n
  ·obtain⟨m,d,b⟩:=xZ fuel (a*2) n (by simp_all [Xb,Nat.mul_assoc,Nat.mul_comm]);refine⟨m+1,?_,?_⟩
   all_goals simp_all [Xb,Nat.mul_assoc,Nat.mul_comm]
  rw[Po c];exact⟨0,by simp,by lia⟩
def above{n:Nat}(h:n<2 ^ 60):∃k,sizeAbove n - 1+1=2 ^ (k+1)/\n<=sizeAbove n - 1:=by
 obtain⟨m,a,b⟩:=xZ 64 8 n (R7 h (by decide));have e:sizeAbove n=8*2 ^ m:=a;refine⟨m+2,?_,by lia⟩
 lia
end ST
namespace SW
open PySem PySem.SetTable ST
section
variable{prog:Program}{w:World}{A:Around}{E:yaa}{s:Shared}
abbrev TK(prog:Program)(w:World):HeapKind prog w (yaf):=tupleKind (intKind prog w)
theorem items_int:∀{ks:yaf} {vs:yad},ItemsAre (intKind prog w) ks vs->∀v∈vs,∃n t,v=Value.int n t
 |_,_,.nil,v,h=>by cases h
 |_,_,.cons h t,v,a=>by
  rcases Qg.mp a with z|z;subst z;obtain⟨t,e⟩:=Value.isInt_shape h;exact⟨_,t,e⟩;exact items_int t v z
def wZ{Q:Bool->Shared->Prop}(e:(TK prog w).is s.heap k b)(l:Q false s):wpAny (model prog w) A (ofAClassStatement 8 (.ref b)) Q E s:=by
 obtain⟨o,a,n,d,h,g,f⟩:=e;unfold ofAClassStatement;refine Pk (wpAny_typeOf (T := "tuple") ⟨o,d,h⟩ ?_);refine Pk (wpAny_pure ?_);refine Pk (Wl d g ?_);refine Pk ?_;rw[<- Array.forIn_toList];refine wpAny_forIn_list _ (λrest r c=>r.1=none/\c=s/\∀v∈rest,∃n t,v=Value.int n t) _ ?_ ?_ _ _ ⟨rfl,rfl,items_int f⟩;rintro v rest r c ⟨j,rfl,i⟩;obtain⟨m,t,rfl⟩:=i v (by simp_all);exact wpAny_pure ⟨rfl,rfl,by simp_all⟩
 simp_all [wpAny_pure]
def ER{Q:Bool->Shared->Prop}(e:(TK prog w).is s.heap k b)(l:Q true s):wpAny (model prog w) A (hashByValue 8 (.ref b)) Q E s:=by
 obtain⟨o,a,n,d,h,g,f⟩:=e;refine Pk (zC0 (T := "tuple") ⟨o,d,h⟩ F.slot_tuple_hash.lookup ?_);refine Pk (Wl d g ?_);refine Pk ?_;rw[<- Array.forIn_toList];refine wpAny_forIn_list _ (λrest r c=>r.1=none/\c=s/\∀v∈rest,∃n t,v=Value.int n t) _ ?_ ?_ _ _ ⟨rfl,rfl,items_int f⟩;rintro v rest r c ⟨j,rfl,i⟩;obtain⟨m,t,rfl⟩:=i v (by simp_all);exact wpAny_pure ⟨rfl,rfl,by simp_all⟩
 simp_all [wpAny_pure]
def DD{vs:yad}{Q:Bool->Shared->Prop}(f:(TK prog w).is s.heap k b)(i:∀v∈vs,∃d c,v=Value.ref c/\(TK prog w).is s.heap d c)(m:Q false s) :
  wpAny (model prog w) A (searchCouldBeSeen (.ref b) vs) Q E s:=by
 refine Pk (wpAny_forIn_list _ (λrest r e=>r.1=none/\e=s/\∀v∈rest,∃d c,v=Value.ref c/\(TK prog w).is s.heap d c) _ ?_ ?_ _ _ ⟨rfl,rfl,i⟩);rintro v rest r e ⟨l,rfl,j⟩;have h:∀u∈rest,∃d c,u=Value.ref c/\(TK prog w).is e.heap d c:=by simp_all
 obtain⟨d,c,rfl,g⟩:=j v (by simp_all);by_cases a:((b==c) || (carriedByValue (.ref b) && carriedByValue (.ref c)))=true;rw[Pt a];exact wpAny_pure ⟨rfl,rfl,h⟩;rw[Po a];refine Pk ((TK prog w).quiet f ?_);refine Pk ((TK prog w).quiet g ?_);refine Pk (wZ f ?_);refine Pk (wZ g ?_);exact wpAny_pure ⟨rfl,rfl,h⟩
 simp_all [wpAny_pure]
theorem rJ{o:Obj}{xs:List (yaf×Addr)}{Q:SetFound->Shared->Prop}(hu:A.units<cLine)(hk:(TK prog w).is s.heap k b)
  (ho:s.heap.get? a=some o) (hd:o.data=.set es ep t) (he:es.toList=xs.map λx=>((TK prog w).hash x.1,Value.ref x.2)) (YS:∀x∈xs,(TK prog w).is s.heap x.1 x.2) (T:Tab t (xs.map λx=>(TK prog w).hash x.1))
  (YR:k∈xs.map (·.1)->Q (.there none) s) (O:k∉xs.map (·.1)->∀j d f,cS t.mask ((TK prog w).hash k)=d++j::f->(∀y∈d,y∈t.place.toList)->j∉t.place.toList->Q (.free j false) s) :
  ∀ (fuel:Nat) (l done:yag) (c:Nat) (st:Option Probe),ahead t.mask c (st.getD (t.probeStart ((TK prog w).hash k)))=l->cS t.mask ((TK prog w).hash k)=done++l →
   (∀y∈done,∃(i:Nat) (x:yaf×Addr),t.place[i]?=some y/\xs[i]?=some x/\x.1≠k)->l.length<fuel->(st.getD (t.probeStart ((TK prog w).hash k))).dummy=none->wpAny (model prog w) A (setSearchFrom a (.ref b) ((TK prog w).hash k) true fuel st) Q E s
 |0,_,_,_,_,_,_,_,hf,_=>absurd hf (Nat.not_lt_zero _)
 |fuel+1,l,done,c,st,e1,e2,J,hf,hdm=>by
  have sz:es.size=xs.length:=by rw[<- Tp,he,Pq]
  have H:t.fits es.size=true:=by have:=T.fits;rw[Pq]at this;rw[sz];exact this
  have psz:t.place.size=xs.length:=by have:=T.len;rw[Pq]at this;exact this
  have n:∀(i:Nat) (x:yaf×Addr),xs[i]?=some x->es[i]?=some ((TK prog w).hash x.1,Value.ref x.2):=λi x p=>by rw[<- Vt,he,QZ,p];rfl
  have g:∀i y:Nat,t.place[i]?=some y->∃x,xs[i]?=some x:=λi y u=>by have:=(dZ u).2;exact⟨xs[i]'(by lia),Qw (by lia)⟩
  have hat:∀(i:Nat) (x:yaf×Addr),xs[i]?=some x->(es[i]?.map (·.1)).getD 0=(TK prog w).hash x.1:=λi x p=>by rw[n i x p];rfl
  have dpl:∀y∈done,y∈t.place.toList:=λy u=>let ⟨i,_,r,_⟩:=J y u;get_mem r
  have emp:∃x∈l,x∉t.place.toList:=by
   obtain⟨x,p,e⟩:=T.empty ((TK prog w).hash k);rw[e2]at p;rcases RH.mp p with z|z;exact absurd (dpl x z) e;exact⟨x,z,e⟩
  have ll:l.length<=10*turns t.mask:=by
   have:=uT t.mask ((TK prog w).hash k);rw[e2,Sw]at this
   lia
  unfold setSearchFrom;refine Pk (WI ho hd H ?_);dsimp only;rw[T.stays];simp only[VC,if_false];generalize hm:t.probe _ ((TK prog w).hash k) (st.getD (t.probeStart ((TK prog w).hash k)))=m;rcases zP T.rise T.dum (λi=>(es[i]?.map (·.1)).getD 0) ((TK prog w).hash k) l (10*turns t.mask) c _ e1 ll emp hdm with⟨d,j,f,q1,q2,I,q4⟩| ⟨d,j,f,i,q,c',q1,q2,I,q4,q5,q6,q7⟩;have em:m=some (.empty j none):=hm.symm.trans q4;subst em;dsimp only;have N:cS t.mask ((TK prog w).hash k)=(done++d)++j::f:=by rw[e2,q1,WH]
  have hpp:∀y∈done++d,y∈t.place.toList:=λy u=>by
   rcases RH.mp u with z|z;exact dpl y z;obtain⟨i,r,_⟩:=q2 y z;exact get_mem r
  refine wpAny_pure (O (λU=>?_) j _ f N hpp I);obtain⟨x,p,C⟩:=P6.mp U;obtain⟨G,li,ei⟩:=WD p;have B:xs[G]?=some x:=by rw[Qw li,ei]
  have L:=uf (xs:=t.place) (a:=G) (by lia);obtain⟨YT,post0,v0,p0⟩:=T.reach G _ ((TK prog w).hash k) L (by rw[QZ,B,<- C];rfl);have x0:t.place.getD G 0∈done++d:=by
   have h:YT.length<(done++d).length:=by
    refine ZC λnl=>?_
    have e:(cS t.mask ((TK prog w).hash k))[(done++d).length]?=some j:=by rw[N,Wy (Qu _),Nat.sub_self];rfl
    rw[v0]at e;by_cases Y:(done++d).length<YT.length;rw[V2 Y]at e;exact I (p0 j (Rt e));have M:(done++d).length=YT.length:=by lia
    rw[M,Wy (Qu _),Nat.sub_self]at e;have:t.place.getD G 0=j:=Uy e;exact I (by rw[<- this];exact get_mem L)
   have e:(cS t.mask ((TK prog w).hash k))[YT.length]?=some (t.place.getD G 0):=by rw[v0,Wy (Qu _),Nat.sub_self];rfl
   rw[N,V2 h]at e;exact Rt e
  have same:∀h:Nat,t.place[h]?=some (t.place.getD G 0)->h=G:=λh h'=>(below_at T.rise h').symm.trans (below_at T.rise L)
  rcases RH.mp x0 with z|z;obtain⟨h,x',r,M,h3⟩:=J _ z;have:=same h r;subst this;rw[B]at M;cases M;exact h3 C;obtain⟨h,r,M⟩:=q2 _ z;have:=same h r;subst this;exact M (by rw[hat h x B,C]);have em:m=some (.candidate j i q):=hm.symm.trans q7;subst em;dsimp only;obtain⟨x,B⟩:=g i j I;have p:=YS x (Rt B);have stored:∀v∈(es.filter (·.1==(TK prog w).hash k)).toList.map (·.2),∃k' c,v=Value.ref c/\(TK prog w).is s.heap k' c:=λv N=>by
   obtain⟨e,he',rfl⟩:=P6.mp N;have Y:e∈es.toList:=by have:=Array.mem_toList_iff.mp he';exact Array.mem_toList_iff.mpr (Array.mem_filter.mp this).1
   rw[he]at Y;obtain⟨y,u,rfl⟩:=P6.mp Y;exact⟨y.1,y.2,rfl,YS y u⟩
  have go:wpAny (model prog w) A (do
    let some (_,y):=es[i]?|unsupported "internal:set-entry"
    let equal←holding [y] (eqBool y (.ref b))
    let (To,_,t')←setState a
    if true && equal then return SetFound.there none
    let some same:=t'.sameMemory t.moves t.mask|unsupported "set.changed-during-lookup:is-the-new-block-at-the-old-address"
    let still←match(if same then t'.slot j else .empty)with
     |.live h=>match To[h]? with
      |some (_,e)=>do pure (if←isSame e y then some h else none)
      |none=>pure none
     |_=>pure none
    match still with
    |none=>rule "set.search.anew"; setSearchFrom a (.ref b) ((TK prog w).hash k) true fuel none
    |some h=>if equal then return .there (some h)else setSearchFrom a (.ref b) ((TK prog w).hash k) true fuel (some q)) Q E s:=by
   rw[n i x B];dsimp only;refine Pk (Ub ((TK prog w).eqBool hu p hk ?_));refine Pk (WI ho hd H ?_);dsimp only;by_cases C:x.1=k;rw[Pt (by simp[C])];exact wpAny_pure (YR (P6.mpr ⟨x,Rt B,C⟩));rw[Po (by simp[C])];have sm:t.sameMemory t.moves t.mask=some true:=by unfold SetTable.sameMemory;simp
   rw[sm];dsimp only;rw[Pt rfl,w9 T.rise I];dsimp only;rw[n i x B];dsimp only;refine Pk (wpAny_isSame_ref_self ?_);simp only[if_true];refine Pk (wpAny_pure ?_);dsimp only;rw[Po (by simp[C])];refine rJ hu hk ho hd he YS T YR O fuel f (done++d++[j]) c' (some q) q5.symm (by rw[e2,q1];simp) (λy u=>?_) (by rw[q1,Sw,SQ]at hf;lia) q6;rcases RH.mp u with z|z;rcases RH.mp z with z|z;exact J y z;obtain⟨h,r,M⟩:=q2 y z;obtain⟨x',e⟩:=g h y r;exact⟨h,x',r,e,λY=>M (by rw[hat h x' e,Y])⟩;simp at z;subst z;exact⟨i,x,I,B,C⟩
  by_cases e:t.led=true;rw[Po (by simp[e])];exact go;rw[Pt (by simp[e])];refine Pk (DD hk stored ?_);simp only[VC,if_false];exact go
theorem x9:∀(fuel a n:Nat),sizeAbove.go n fuel a<=max a (2*n)
 |0,a,n=>by unfold sizeAbove.go;lia
 |fuel+1,a,n=>by
  unfold sizeAbove.go;split;have:=x9 fuel (a*2) n
  lia
  lia
structure jD(prog:Program)(w:World)(h:Heap)(a:Addr)(xs:List (yaf×Addr)):Prop where
 ex:∃o es ep t,h.get? a=some o/\o.ExactSet/\o.data=.set es ep t/\es.toList=xs.map (λx=>((TK prog w).hash x.1,Value.ref x.2))/\Tab t (xs.map λx=>(TK prog w).hash x.1)/\(t.plain=true/\t.led=!w.params.followText "set-order")/\t.place.size*5<t.mask*3/\t.mask<=8191
 is_:∀x∈xs,(TK prog w).is h x.1 x.2
 nd:(xs.map (·.1)).Nodup
def lA {o:Obj} (e:(TK prog w).is h k b) (j:h.get? a=some o) (l:o.cls=.type "set") (hs:Heap.SameBut a h h'):(TK prog w).is h' k b:=by
 obtain⟨d,c,n,h,i,g,f⟩:=e;have e:b≠a:=by lia
 exact⟨d,c,n,hs.extBut b d e h,i,g,f⟩
def Ib{xs:List (yaf×Addr)}{o:Obj}{c:Nat}{Q:Unit->Shared->Prop}(B:s.heap.get? a=some o)(m:o.ExactSet)(C:o.data=.set es ep t)(d:es.toList=xs.map λx=>((TK prog w).hash x.1,Value.ref x.2))
  (T:Tab t (xs.map λx=>(TK prog w).hash x.1)) (U:t.plain=true/\t.led=!w.params.followText "set-order") (YS:∀x∈xs,(TK prog w).is s.heap x.1 x.2) (N:(xs.map (·.1)).Nodup) (hw:c=4*xs.length) (hn:0<xs.length) (hl:xs.length<=1000)
  (hQ:∀h' ys,Heap.SameBut a s.heap h'->jD prog w h' a ys->ys.length=xs.length->(∀y,y∈ys↔y∈xs)->Q () {s with heap:=h'}):wpAny (model prog w) A (setRelay a c) Q E s:=by
 have G:es.size=xs.length:=by rw[<- Tp,d,Pq]
 have u:t.fits es.size=true:=by have:=T.fits;rw[Pq]at this;rw[G];exact this
 obtain⟨k,l,eb⟩:=above (n:=c) (by lia);have up:sizeAbove c<=max 8 (2*c):=x9 64 8 c;generalize hzs:(xs.map λx=>((TK prog w).hash x.1,x)).toArray=f;have n:f.size=xs.length:=by rw[<- hzs];simp
 have g:∀i:Nat,f[i]?=xs[i]?.map λx=>((TK prog w).hash x.1,x):=λi=>by rw[<- hzs];simp
 have j:∀i:Nat,es[i]?=xs[i]?.map λx=>((TK prog w).hash x.1,Value.ref x.2):=λi=>by rw[<- Vt,d,QZ]
 have e:es.map (·.1)=f.map (·.1):=by apply Array.ext_getElem?;intro i;rw[Array.getElem?_map,Array.getElem?_map,g,j];cases xs[i]?<;>rfl
 obtain⟨h,b,k,O,m2,m3,d,p,L,T,f3,I,Q,f6⟩:=Kc l t.finger (t.movedTo (sizeAbove c - 1)) t.led t.plain f (by lia);have er:t.relaid (es.map (·.1)) c=some (h,b):=by unfold SetTable.relaid;rw[e];exact k
 generalize Xz:d.map (·.2)=ys;have t:∀l:yag,(l.filterMap λi=>es[i]?)=(l.filterMap λi=>f[i]?).map λz=>(z.1,Value.ref z.2.2):=λl=>by
  induction l with
  |nil=>rfl
  |cons i r ih =>
   cases e:xs[i]? with
   |none=>rw[List.filterMap_cons_none (by rw[j,e];rfl),List.filterMap_cons_none (by rw[g,e];rfl),ih]
   |some x=>rw[List.filterMap_cons_some (by rw[j,e];rfl),List.filterMap_cons_some (by rw[g,e];rfl),QO,ih]
 have k:b.toList.filterMap (λi=>f[i]?)=d:=by rw[<- p];simp
 have p:∀z∈d,z=((TK prog w).hash z.2.1,z.2)/\z.2∈xs:=λz c=>by obtain⟨q,l,j⟩:=WD c;obtain⟨i,_,f⟩:=I q z (by rw[Qw l,j]);rw[g]at f;obtain⟨x,J,e⟩:=Wi.mp f;subst e;exact⟨rfl,Rt J⟩
 have f:(b.filterMap λi=>es[i]?).toList=ys.map λx=>((TK prog w).hash x.1,Value.ref x.2):=by
  have:(b.filterMap λi=>es[i]?).toList=b.toList.filterMap λi=>es[i]?:=by simp
  rw[this,t,k,<- Xz,QP];apply Yn;intro z c;obtain⟨e,_⟩:=p z c;show(z.1,Value.ref z.2.2)=((TK prog w).hash z.2.1,Value.ref z.2.2);rw[show z.1=(TK prog w).hash z.2.1 from congrArg (·.1) e]
 have H:d.map (·.1)=ys.map λx=>(TK prog w).hash x.1:=by rw[<- Xz,QP];apply Yn;intro z c;obtain⟨e,_⟩:=p z c;exact congrArg (·.1) e
 have M:ys.length=xs.length:=by rw[<- Xz,Pq,L,n]
 have L:∀y,y∈ys↔y∈xs:=λy=>by
  rw[<- Xz];constructor;intro j;obtain⟨z,c,rfl⟩:=P6.mp j;exact(p z c).2;intro j;obtain⟨i,p,t⟩:=WD j;obtain⟨q,r⟩:=Q i (by rw[n];exact p);have c:((TK prog w).hash y.1,y)∈d:=by rw[<- k,zCy];refine⟨i,?_,by rw[g,Qw p,t];rfl⟩;rw[<- Vt]at r;exact Rt r
  exact P6.mpr ⟨_,c,rfl⟩
 have r:(ys.map (·.1)).Nodup:=by
  rw[<- Xz,QP];refine WA.mpr λp q c l hpq e=>?_
  rw[Pq]at c l;simp only[VF,Function.comp]at e;obtain⟨i,Y,Q⟩:=I p d[p] (Qw c);obtain⟨k,t,c⟩:=I q d[q] (Qw l);rw[g]at Q c;obtain⟨x,J,I⟩:=Wi.mp Q;obtain⟨l,g,d⟩:=Wi.mp c;rw[<- I,<- d]at e;have I:x.1=l.1:=e;obtain⟨l,e⟩:=RQ.mp J;obtain⟨d,c⟩:=RQ.mp g;have g:i=k:=by
   rcases ZM i k with z|z|z;have:=WA.mp N i k (by rw[Pq];exact l) (by rw[Pq];exact d) z;rw[VF,VF,e,c]at this;exact absurd I this;exact z;have:=WA.mp N k i (by rw[Pq];exact d) (by rw[Pq];exact l) z;rw[VF,VF,e,c]at this;exact absurd I.symm this
  subst g;have:=f6 p q i Y t
  lia
 unfold setRelay;refine Pk (WI B C u ?_);dsimp only;rw[Po (by rw[sizeLine_eq];lia),er];have c:(b.filterMap λi=>es[i]?).size=es.size:=by rw[<- Tp,f,Pq,M,G]
 refine Pk ?_;show wpAny _ _ (if((b.filterMap λi=>es[i]?).size != es.size)=true then _ else pure (b.filterMap (λi=>es[i]?),h)) _ _ _;rw[Po (by rw[c];simp)];refine wpAny_pure ?_;refine wpAny_storeSet_of B C ?_ (by rw[c,G,sizeLine_eq];lia);have c:(s.heap.update a (Obj.putSet (b.filterMap λi=>es[i]?) h)).get? a=some {o with data:=.set (b.filterMap λi=>es[i]?) (ep+1) h}:=by have:=WY (Obj.putSet (b.filterMap λi=>es[i]?) h) B (by rw[putSet_of _ _ C];rfl);rw[putSet_of _ _ C]at this;exact this
 rw[H]at T;refine hQ _ ys (Y5 ..) ⟨⟨_,_,ep+1,h,c,m,rfl,f,T,⟨by rw[m3];exact U.1,by rw[m2];exact U.2⟩,by rw[O,f3,n];lia,by rw[O];lia⟩,λy j=>lA (YS y ((L y).mp j)) B m.1 (Y5 ..),r⟩ M L
def Ly{Q:Bool->Shared->Prop}(hu:A.units<cLine)(S:jD prog w s.heap a xs)(U:(TK prog w).is s.heap k b)(hl:xs.length<1000)
  (hQ:∀h' ys b',Heap.SameBut a s.heap h'->jD prog w h' a ys->ys.length<=xs.length+1->(∀m,m∈ys.map (·.1)↔m∈xs.map (·.1)∨m=k)->(∀y∈ys,y∈xs∨y=(k,b))->Q b' {s with heap:=h',toks:=s.toks+(TK prog w).draws k}) :
  wpAny (model prog w) A (setAdd a (.ref b)) Q E s:=by
 unfold setAdd;refine Ub (Pk ((TK prog w).pyHash hu U ?_));generalize hs':({s with toks:=s.toks+(TK prog w).draws k}:Shared)=f;have Y:f.heap=s.heap:=by rw[<- hs']
 obtain⟨⟨o,n,ep,t,u,i,I,he,T,QW,hlo,O⟩,YS,nd⟩:=S;rw[<- Y]at u U;have h:∀x∈xs,(TK prog w).is f.heap x.1 x.2:=by rw[Y];exact YS
 have sz:n.size=xs.length:=by rw[<- Tp,he,Pq]
 have C:t.fits n.size=true:=by have:=T.fits;rw[Pq]at this;rw[sz];exact this
 have psz:t.place.size=xs.length:=by have:=T.len;rw[Pq]at this;exact this
 have l:∀(h':Heap) (b':Bool),Q b' {s with heap:=h',toks:=s.toks+(TK prog w).draws k}->Q b' {f with heap:=h'}:=λh' b' q=>by rw[<- hs'];exact q
 unfold setAddHashed;refine Ub ?_;unfold setAddHashedIn;refine Pk (WI u I C ?_);dsimp only;rw[Po (by unfold byScan;simp[Value.scannable])];obtain⟨c,ec⟩:=Az t ((TK prog w).hash k);have vl:=uT t.mask ((TK prog w).hash k);unfold setSearch;refine Pk (rJ hu U u I he h T (λYR=>?_) (λhno j pre post hv hp hj=>?_) 100000 _ [] c none ec.symm (by simp) (by simp) (by unfold turns at vl;lia) rfl);dsimp only;refine wpAny_pure ?_;have e:f={f with heap:=f.heap}:=by cases f;rfl
 rw[e];refine l _ _ (hQ f.heap xs _ (by rw[Y];exact Heap.SameBut.refl a s.heap) ⟨⟨o,n,ep,t,u,i,I,he,T,QW,hlo,O⟩,h,nd⟩ (by lia) (λm=>⟨.inl,λz=>z.elim id λz=>by subst z;exact YR⟩) λy g=>.inl g);dsimp only;refine Pk (WI u I C ?_);dsimp only;obtain⟨T',pl,pm,ps⟩:=T.put hj hv hp (by lia);rw[Pq]at pl;have hpp:(t.put j).1.plain=true:=QW.1;have N:(t.put j).1.plain=true/\(t.put j).1.led=!w.params.followText "set-order" := QW;rw[hpp];simp only[if_true];refine Pk (ER U ?_);simp only[if_true];generalize hp2:(t.put j).2=p at *;generalize ht2:(t.put j).1=r at *;have H:(insertAt n p ((TK prog w).hash k,Value.ref b)).toList=(xs.take p++(k,b)::xs.drop p).map λx=>((TK prog w).hash x.1,Value.ref x.2):=by rw[nC,he,Sb,QO,List.map_take,List.map_drop]
 have B:(xs.take p++(k,b)::xs.drop p).length=xs.length+1:=by
  rw[Sw,Uv,SQ,zCq]
  lia
 have L:(insertAt n p ((TK prog w).hash k,Value.ref b)).size=xs.length+1:=by rw[<- Tp,H,Pq,B]
 have d:∀y,y∈xs.take p++(k,b)::xs.drop p↔y=(k,b)∨y∈xs:=λy=>by
  rw[RH,Qg];constructor;rintro(z|z|z);exact .inr (zCo z);exact .inl z;exact .inr (List.mem_of_mem_drop z);rintro(z|z);exact .inr (.inl z);rw[<- zCb p xs]at z;rcases RH.mp z with q|q;exact .inl q;exact .inr (.inr q)
 have J:((xs.take p++(k,b)::xs.drop p).map (·.1)).Nodup:=by
  rw[Sb,QO];have n0:=nd;have h0:=hno;rw[<- zCb p xs,Sb]at n0 h0;rw[zCg]at n0 ⊢;obtain⟨n1,n2,n3⟩:=n0;rw[RH,not_or]at h0;refine⟨n1,Wk.mpr ⟨h0.2,n2⟩,λx hx y g=>?_⟩;rcases Qg.mp g with z|z;intro e;subst e;subst z;exact h0.1 hx;exact n3 x hx y z
 have XB:∀zs:List (yaf×Addr),(∀y,y∈zs↔y∈xs.take p++(k,b)::xs.drop p)->∀m,m∈zs.map (·.1)↔m∈xs.map (·.1)∨m=k:=λzs hz m=>by
  constructor;intro h1;obtain⟨y,g,e⟩:=P6.mp h1;rcases(d y).mp ((hz y).mp g)with q|q;subst q;exact .inr e.symm;exact .inl (P6.mpr ⟨y,q,e⟩);rintro(h1|h1);obtain⟨y,g,e⟩:=P6.mp h1;exact P6.mpr ⟨y,(hz y).mpr ((d y).mpr (.inr g)),e⟩;subst h1;exact P6.mpr ⟨(m,b),(hz _).mpr ((d _).mpr (.inl rfl)),rfl⟩
 refine Pk (wpAny_storeSet_of u I ?_ (by rw[L,sizeLine_eq];lia));have hg:(f.heap.update a (Obj.putSet (insertAt n p ((TK prog w).hash k,Value.ref b)) r)).get? a=some {o with data:=.set (insertAt n p ((TK prog w).hash k,Value.ref b)) (ep+1) r}:=by have:=WY (Obj.putSet (insertAt n p ((TK prog w).hash k,Value.ref b)) r) u (by rw[putSet_of _ _ I];rfl);rw[putSet_of _ _ I]at this;exact this
 have sb:=Y5 f.heap a (Obj.putSet (insertAt n p ((TK prog w).hash k,Value.ref b)) r);generalize hh2:f.heap.update a (Obj.putSet (insertAt n p ((TK prog w).hash k,Value.ref b)) r)=h2 at hg sb ⊢;have T2:Tab r ((xs.take p++(k,b)::xs.drop p).map λx=>(TK prog w).hash x.1):=by rw[Sb,QO,List.map_take,List.map_drop];exact T'
 have M:∀x∈xs.take p++(k,b)::xs.drop p,(TK prog w).is h2 x.1 x.2:=λx hx=>by
  rcases(d x).mp hx with z|z;subst z;exact lA U u i.1 sb;exact lA (h x z) u i.1 sb
 by_cases tf:r.tooFull=true;rw[Pt (by simp[tf])];refine Pk (Ib (s:={f with heap:=h2}) (xs:=xs.take p++(k,b)::xs.drop p) hg i rfl H T2 N M J ?_ (by lia) (by lia) λh3 ys sb3 S3 yl ym=>?_);rw[B,sz];unfold SetTable.grown;rw[Po (by lia)]
 lia
 refine wpAny_pure (l h3 true (hQ h3 ys true (by rw[<- Y];exact sb.trans sb3) S3 ?_ (XB ys ym) λy g=>?_))
 lia
 rcases(d y).mp ((ym y).mp g)with q|q;exact .inr q;exact .inl q;rw[Po (by simp[tf])];refine wpAny_pure (l h2 true (hQ h2 _ true (by rw[<- Y];exact sb) ⟨⟨_,_,ep+1,r,hg,i,rfl,H,T2,N,?_,by rw[pm];exact O⟩,M,J⟩ (by lia) (XB _ λ_=>Iff.rfl) λy g=>?_));have G:r.tooFull=false:=by simpa using tf
 unfold SetTable.tooFull SetTable.fill at G;rw[T2.dum]at G;simp at G
 lia
 rcases(d y).mp g with q|q;exact .inr q;exact .inl q
end
def wK:entryFor table "set.update.loop" = some Builtin.«set.update.loop»:=entryFor_of_tree (by kernel_rfl)
def FG:plainId "set.update.loop" = true:=by decide +kernel
section
variable{prog:Program}{w:World}{A:Around}{E:yaa}{s:Shared}
def mC{h':Heap}(c:(TK prog w).is h k b)(e:∀o,h.get? b=some o->h'.get? b=some o):(TK prog w).is h' k b:=by obtain⟨b,a,n,d,r⟩:=c;exact⟨b,a,n,e b d,r⟩
def key_ne {o:Obj} (d:(TK prog w).is h k b) (g:h.get? a=some o) (i:o.cls=.type T) (j:T ≠ "tuple"):b≠a:=λe=>by
 obtain⟨f,c,n,VH,U8,_⟩:=d
 lia
def jD.ext{h':Heap}(S:jD prog w h a xs)(e:∀o,h.get? a=some o->h'.get? a=some o)(c:∀x∈xs,(TK prog w).is h' x.1 x.2):jD prog w h' a xs:=by obtain⟨⟨o,d,f,t,b,r⟩,_,a⟩:=S;exact⟨⟨o,d,f,t,e o b,r⟩,c,a⟩
def Kg {a I l : Addr} {items : yao} {R : Result -> Shared -> Prop} (e : A.handled = none) (L : A.in1.units < cLine) (h : a ≠ I) (C : a ≠ l) (d : l ≠ I) (T : items.size <= 900) (ks : Nat -> yaf) :
  ∀ (m i : Nat) (s : Shared) (xs : List (yaf × Addr)), items.size - i = m -> i <= items.size -> (s.heap.IsListIter I l i /\ s.heap.IsList l items) -> jD prog w s.heap a xs -> xs.length <= i →
   (∀ (j : Nat) (v : Value), items[j]? = some v -> ∃ c, v = .ref c /\ (TK prog w).is s.heap (ks j) c) -> (∀ k, k ∈ xs.map (·.1) ↔ ∃ j, j < i /\ k = ks j) -> (∀ x ∈ xs, ∃ j, j < i /\ items[j]? = some (.ref x.2)) →
   (∀ h' r ys, (∀ b o, b ≠ a -> b ≠ I -> s.heap.get? b = some o -> h'.get? b = some o) -> jD prog w h' a ys -> ys.length <= items.size -> (∀ k, k ∈ ys.map (·.1) ↔ ∃ j, j < items.size /\ k = ks j) -> (∀ x ∈ ys, ∃ j, j < items.size /\ items[j]? = some (.ref x.2)) →
    R (.ok (.ret .none)) { s with heap := h', toks := r }) -> codeAny (model prog w) A (.builtin "set.update.loop" ⟨[.ref a, .ref I], []⟩) R s := by
 have W := Walks.list (prog := prog) (w := w) (A := A.in1) (show A.in1.handled = none from e) I l d items;intro m
 induction m with
 | zero =>
  intro i s xs H J st S t B g f G;have e : i = items.size := by lia
  subst e;refine Yq wK ?_;refine Pk (W.done s _ _ st λh' r q => ?_);obtain ⟨⟨o, y, z, _⟩, _⟩ := st;have n : ∀ b o, b ≠ I -> s.heap.get? b = some o -> h'.get? b = some o := λb o d e => q b o (by simpa using d) e
  refine wpAny_pure (G h' r xs (λb o _ d e => n b o d e) (S.ext (λo e => n a o h e) λx p => ?_) t g f);exact mC (S.is_ x p) λu e => n _ u (key_ne (S.is_ x p) y z (by decide)) e
 | succ m ih =>
  intro i s xs H J st S t B g f G;have J : i < items.size := by lia
  refine Yq wK ?_;refine Pk (W.item i s _ _ J st λv h' r H M q => ?_);obtain ⟨⟨o, y, z, _⟩, _⟩ := id st;have n : ∀ b o, b ≠ I -> s.heap.get? b = some o -> h'.get? b = some o := λb o d e => q b o (by simpa using d) e
  have t : ∀ {k : yaf} {c : Addr}, (TK prog w).is s.heap k c -> (TK prog w).is h' k c := λq => mC q λu e => n _ u (key_ne q y z (by decide)) e
  have m : jD prog w h' a xs := S.ext (λo e => n a o h e) λx p => t (S.is_ x p)
  obtain ⟨c, rfl, a⟩ := B i v H;refine Pk (Ub (Ly (s := { s with heap := h', toks := r }) L m (t a) (by lia) λr ys U sb N O L y => ?_));obtain ⟨⟨Q, _, _, _, u, a, _⟩, _, _⟩ := id m;have m : ∀ {k : yaf} {c : Addr}, (TK prog w).is h' k c -> (TK prog w).is r k c := λq => lA q u a.1 sb
  have a : r.IsListIter I l (i + 1) /\ r.IsList l items := W.frame _ _ _ M λb d o e => by
   refine sb.extBut b o (λq => ?_) e;subst q;simp at d;rcases d with z | z;exact h z;exact C z
  refine wpAny_pure ⟨zDJ FG _, ih (i + 1) _ ys (by lia) J a N (by lia) (λj v a => ?_) (λk => ?_) (λx p => ?_) λC c h d J l r u => ?_⟩;obtain ⟨I, e, q⟩ := B j v a;exact ⟨I, e, m (t q)⟩;rw [L k, g k];constructor;rintro (⟨j, a, e⟩ | e);exact ⟨j, by lia, e⟩;exact ⟨i, by lia, e⟩;rintro ⟨j, a, e⟩;by_cases z : j < i;exact .inl ⟨j, z, e⟩;have : j = i := by lia
  subst this;exact .inr e;rcases y x p with z | z;obtain ⟨j, a, e⟩ := f x z;exact ⟨j, by lia, e⟩;subst z;exact ⟨i, by lia, H⟩;exact G C c h (λb o a c e => d b o a c (sb.extBut b o a (n b o c e))) J l r u
end
def xC (a:Value):checkTypeCall "set" ⟨[a],[]⟩=pure ():=by kernel_rfl
def zD (a:Value):checkBuiltinCall "set.__new__" ⟨[.type "set", a],[]⟩=pure ():=by kernel_rfl
section
variable{prog:Program}{w:World}{A:Around}{E:yaa}{s:Shared}
def xr(a:Value){Q₁:yaa}
  (h:∀led:Bool,led=(!w.params.followText "set-order")->Q₁ (.ref s.heap.objs.size) {s with heap:=s.heap.push {cls:=.type "set", dict:=none,data:=.set #[] 0 (.fresh 0 0 led)} }) :
  codeAny (model prog w) A (.call (.builtin "set.__new__") ⟨[.type "set", a],[]⟩) (wants Q₁ E) s:=by
 refine codeAny_of_tree ?_;refine Pk (wpAny_of_eq (zD a) (wpAny_pure ⟨zDJ F.plain_set_new _,Yq F.entry_set_new ?_⟩));unfold Builtin.«set.__new__» Builtin.Frozenset.newClass;have b:=sub_set_self;wp_walk;refine wpAny_askSetting (wpAny_pure ?_);refine Pk (wpAny_alloc (wpAny_pure ?_));exact wpAny_pure (h _ rfl)
def AD {x:Value} {Q:Unit->Shared->Prop} (b:s.TypeIs self "set") (c:Q () s):wpAny M A (checkBuiltinCall "set.__init__" ⟨[self,x],[]⟩) Q E s:=by refine Pk (ZP b sub_set_self ?_);refine Pk (m:=Bind.printed "*" false _ _) (PyProof.Rows.printed_star (self:=self) rfl b λa=>?_);exact wpAny_pure c
set_option maxHeartbeats 1000000 in
def Eo {x:Value} {Q:yaa} (h:∀led:Bool,led=(!w.params.followText "set-order")->wpAny (model prog w) A.in1.in1 (Builtin.«set.__init__» ⟨[.ref s.heap.objs.size,x],[]⟩)
   (λc b=>match c with|.done f=>wants (λr a=>r=.none/\Q (.ref s.heap.objs.size) a) E (.ok f) b|.again d=>d.quiet=true/\codeAny (model prog w) A.in1 d (wants (λr a=>r=.none/\Q (.ref s.heap.objs.size) a) E) b)
   (λe b=>wants (λr a=>r=.none/\Q (.ref s.heap.objs.size) a) E (.error e) b) {s with heap:=s.heap.push {cls:=.type "set", dict:=none,data:=.set #[] 0 (.fresh 0 0 led)} }) :
  wpAny (model prog w) A (call (.type "set") [x]) Q E s:=by
 obtain⟨c,n,j⟩:=F.called_set.mro;have g:=F.called_set.made;have i:=F.called_set.sub;refine wpAny_call (codeAny_of_tree ?_);show wpAny _ _ (callAny (.type "set") _) _ _ _;refine wpAny_pure ⟨Code.quiet_builtin _ (by decide +kernel),Yq F.entry_type_call ?_⟩;rw[Around.under_plain (weight_type_call_type "set" [x] []) rfl];have q:=F.called_set.notType;have p:=F.called_set.canCreate;have l:=xC x
 repeat (any_goals (first|assumption|wp_step))
 refine codeAny_mono (xr (E:=E) x (Q₁:=λc d=>∃led:Bool,led=(!w.params.followText "set-order")/\c=.ref s.heap.objs.size/\d={s with heap:=s.heap.push {cls:=.type "set", dict:=none,data:=.set #[] 0 (.fresh 0 0 led)} }) λled b=>⟨led,b,rfl,rfl⟩) λr d d=>?_
 cases r with
 |error e=>exact d
 |ok f =>
  cases f with
  |ret c =>
   obtain⟨led,b,rfl,rfl⟩:=d;have c:Shared.TypeIs {s with heap:=s.heap.push {cls:=.type "set", dict:=none,data:=.set #[] 0 (.fresh 0 0 led)} } (.ref s.heap.objs.size) "set" := ⟨_,Sv _ rfl,rfl⟩;have k:=F.called_set.init.lookup;have m:=F.called_set.init.bind (.ref s.heap.objs.size)
   repeat (any_goals (first|assumption|wp_step))
   refine codeAny_mono (codeAny_call_builtin (R:=wants (λr a=>r=.none/\Q (.ref s.heap.objs.size) a) E) F.called_set.init.plain F.entry_set_init (AD c (h led b))) λb a c=>?_
   cases b with
   |error e=>exact c
   |ok a =>
    cases a with
    |ret r =>
     obtain⟨rfl,o⟩:=c
     repeat (any_goals (first|assumption|wp_step))
    |_=>exact c.elim
  |_=>exact d.elim
def JY (led:Bool) (a:led=!w.params.followText "set-order"):jD prog w (s.heap.push {cls:=.type "set", dict:=none,data:=.set #[] 0 (.fresh 0 0 led)}) s.heap.objs.size []:=by refine⟨⟨_,#[],0,_,Sv _ rfl,⟨rfl,rfl,rfl⟩,rfl,rfl,?_,⟨rfl,a⟩,by show 0*5<7*3;decide,by show 7<=8191;decide⟩,by simp,by simp⟩;refine⟨⟨2,rfl⟩,λa b _ b=>absurd b (Nat.not_lt_zero _),(λx b=>by cases b),rfl,rfl,RS _,λa x h b=>?_⟩;have:(#[]:yap)[a]?=some x:=b;simp at this
def Ny:isSubtype (.type "list") (.type "set")=pure false:=by kernel_rfl
def Nx:isSubtype (.type "list") (.type "frozenset")=pure false:=by kernel_rfl
def call_set_list{Q:yaa}(p:A.handled=none)(i:A.in1.in1.in1.units<cLine)(e:s.heap.IsList l items)(m:items.size<=900)(ks:Nat->yaf)
  (n:∀(j:Nat) (v:Value),items[j]?=some v->∃c,v=.ref c/\(TK prog w).is s.heap (ks j) c)
  (r:∀h' g ys,(∀b o,s.heap.get? b=some o->h'.get? b=some o)->jD prog w h' s.heap.objs.size ys->ys.length<=items.size->(∀k,k∈ys.map (·.1)↔∃ j,j<items.size/\k=ks j)->(∀x∈ys,∃j,j<items.size/\items[j]?=some (.ref x.2)) →
   Q (.ref s.heap.objs.size) {s with heap:=h',toks:=g}):wpAny (model prog w) A (call (.type "set") [.ref l]) Q E s:=by
 refine Eo λled d=>?_
 have t:(s.heap.push {cls:=.type "set", dict:=none,data:=.set #[] 0 (.fresh 0 0 led)}).get? s.heap.objs.size=some {cls:=.type "set", dict:=none,data:=.set #[] 0 (.fresh 0 0 led)}:=Sv _ rfl;have h:l<s.heap.objs.size:=by obtain⟨o,a,_⟩:=e;exact Qp a
 have f:Shared.TypeIs {s with heap:=s.heap.push {cls:=.type "set", dict:=none,data:=.set #[] 0 (.fresh 0 0 led)} } (.ref l) "list" := by obtain⟨o,a,k,_⟩:=e;exact⟨o,QN _ a,k⟩
 have k:=JY (prog:=prog) (w:=w) (s:=s) led d;have d:(s.heap.push {cls:=.type "set", dict:=none,data:=.set #[] 0 (.fresh 0 0 led)}).IsList l items:=e.push _;have sz1:(s.heap.push {cls:=.type "set", dict:=none,data:=.set #[] 0 (.fresh 0 0 led)}).objs.size=s.heap.objs.size+1:=Yr ..;have a:∀b o,s.heap.get? b=some o->(s.heap.push {cls:=.type "set", dict:=none,data:=.set #[] 0 (.fresh 0 0 led)}).get? b=some o:=λb o e=>QN _ e
 unfold Builtin.«set.__init__» noKeywords
 wp_walk
 refine wpAny_of_eq Ny ?_;refine ZP f Nx ?_;simp only[VC,if_false];refine Pk (wpAny_typeOf f ?_);rw[Po (by decide)];generalize s.heap.push {cls:=.type "set", dict:=none,data:=.set #[] 0 (.fresh 0 0 led)}=h1 at *;refine Pk (wpAny_pyIter_list d ?_);refine Pk (wpAny_runValue ?_);have f:s.heap.objs.size≠h1.objs.size:=by lia
 refine Kg (A:=A.in1.in1) (I:=h1.objs.size) (l:=l) (items:=items) p i f (Vw h) (QU (by rw[sz1];exact Y7 h)) m ks items.size 0 {s with heap:=h1.push {cls:=.type "list_iterator", data:=.fields #[.ref l,.int 0 0]} } [] (by lia) (RS _) ⟨⟨_,Sv _ rfl,rfl,rfl⟩,d.push _⟩ (k.ext (λo e=>QN _ e) (by simp)) (Qu _) (λj v k=>?_) (by simp) (by simp) λh' g ys i S d f h=>?_
 obtain⟨c,e,q⟩:=n j v k;exact⟨c,e,mC q λo e=>QN _ (a c o e)⟩;refine wpAny_pure (wpAny_pure ⟨rfl,r h' g ys (λb o e=>?_) S d f h⟩);have c:b<s.heap.objs.size:=Qp e;exact i b o (QU c) (QU (by rw[sz1];exact Y7 c)) (QN _ (a b o e))
end
theorem tV{a:Type}:∀(l:List a) (i:Nat) (h:i<l.length),(l[i]::l.eraseIdx i).Perm l
 |[],_,h=>absurd h (by simp_all)
 |x::l,0,_=>List.Perm.refl _
 |x::l,i+1,h=>by have r:=tV l i (by simp_all);exact(List.Perm.swap x _ _).trans (List.Perm.cons x r)
theorem B3{b:Type}(next:Nat->Nat):∀(fuel k:Nat) (left:List b) (a:Array b),left.length=fuel->(pickOrder.go next fuel k left a).toList.Perm (a.toList++left)
 |0,k,left,a,e=>by
  have:left=[]:=by grind
  subst this;simp[pickOrder.go]
 |fuel+1,k,left,a,e=>by
  have c:0<left.length:=by lia
  have b:next k % left.length<left.length:=Xc _ c;unfold pickOrder.go;rw[Qw b];have r:=B3 next fuel (k+1) (left.eraseIdx (next k % left.length)) (a.push left[next k % left.length]) (by grind);refine r.trans ?_;rw[Array.toList_push,WH];exact(List.perm_append_left_iff _).mpr (tV left _ b)
def FD{a:Type}(next:Nat->Nat)(xs:Array a):(pickOrder next xs).toList.Perm xs.toList:=by have:=B3 next xs.size 0 xs.toList #[] (by simp);simpa [pickOrder]using this
def CN(a:jC xs):below xs 0=0:=by
 obtain⟨d,b,c⟩:=jV a 0;rcases Nat.eq_zero_or_pos (below xs 0)with z|z;exact z;have:=b 0 z;lia
def CL(c:jC xs){a j:Nat}(h:xs[a]?=some j):below xs (j+1)=a+1:=by
 obtain⟨g,e,d⟩:=jV c (j+1);obtain⟨b,f⟩:=Yj.mp h;have i:xs.getD a 0=j:=by simp[Array.getD,b,f]
 rcases ZM (below xs (j+1)) (a+1)with z|z|z;have:=d a (by lia) b
 lia
 exact z;have q:=e (a+1) z;have b:a+1<xs.size:=by lia
 have:=c a (a+1) (by lia) b
 lia
def dI:Slot "set_iterator" "__next__" "set_iterator.__next__" :=
 .of (owner := "set_iterator") (n := "__next__") (by kernel_rfl) (by decide +kernel) (by decide +kernel) (by decide +kernel) (.inl (by decide +kernel)) (by kernel_rfl)
def p6:Slot "set_iterator" "__iter__" "set_iterator.__iter__" :=
 .of (owner := "set_iterator") (n := "__iter__") (by kernel_rfl) (by decide +kernel) (by decide +kernel) (by decide +kernel) (.inl (by decide +kernel)) (by kernel_rfl)
def oM:entryFor table "set_iterator.__next__" = some Builtin.«set_iterator.__next__»:=entryFor_of_tree (by kernel_rfl)
def xt:entryFor table "set_iterator.__iter__" = some Builtin.«dict_keyiterator.__iter__»:=entryFor_alias (id' := "dict_keyiterator.__iter__") (by kernel_rfl) rfl (by decide +kernel) (by kernel_rfl)
def yT:entryFor table "set.__iter__" = some Builtin.«frozenset.__iter__»:=entryFor_alias (id' := "frozenset.__iter__") (by kernel_rfl) rfl (by decide +kernel) (by kernel_rfl)
def oX (a:Value):argsOk "set_iterator.__next__" ⟨[a],[]⟩:=by kernel_rfl
def yb (a:Value):argsOk "set_iterator.__iter__" ⟨[a],[]⟩:=by kernel_rfl
noncomputable def fx (w:World) (a:Addr) (es:Array (Int×Value)) (ep:Nat):Array (Int×Value):=if w.params.followText "set-order" = true then pickOrder (w.params.setOrder a ep) es else es
def rO(w:World)(a:Addr)(es:Array (Int×Value))(ep:Nat):(fx w a es ep).toList.Perm es.toList:=by
 unfold fx;split;exact FD _ _
 simp_all
def mr(w:World)(a:Addr)(es:Array (Int×Value))(ep:Nat):(fx w a es ep).size=es.size:=by
 have:=(rO w a es ep).length_eq
 simp_all
def u9(w:World)(h:Heap)(I a:Addr)(t:SetTable)(n ep i:Nat):Prop :=
 ∃ o b,h.get? I=some o/\o.cls=.type "set_iterator" /\ o.data=.fields #[.int (b:Nat) 0,.int (i:Nat) 0,.ref a,.int (n:Nat) 0,.int (ep:Nat) 0]/\(w.params.followText "set-order" = false->below t.place b=i)
section
variable{prog:Program}{w:World}{A:Around}{E:yaa}{s:Shared}
def vW (x:u9 w s.heap I a t n ep i):s.TypeIs (.ref I) "set_iterator" := by obtain⟨o,_,a,b,_⟩:=x;exact⟨o,a,b⟩
def uI{a:Addr}{o:Obj}{es:Array (Int×Value)}{ep b i:Nat}{t:SetTable}{hs:yaf}{Q:Option (Value×Nat)->Shared->Prop}(d:s.heap.get? a=some o)(e:o.data=.set es ep t)(T:Tab t hs)(f:hs.length=es.size)
  (k:t.plain=true/\t.led=!w.params.followText "set-order") (g:w.params.followText "set-order" = false->below t.place b=i)
  (j:∀z,(fx w a es ep)[i]?.map (·.2)=z.map (·.1)->(∀p,z=some p->w.params.followText "set-order" = false->below t.place p.2=i+1)->Q z s):wpAny (model prog w) A (setNext a b i ep) Q E s:=by
 have b:t.fits es.size=true:=by rw[<- f];exact T.fits
 refine Pk (WI d e b ?_);show wpAny _ _ (if w.params.followText "set-order" = true then _ else _) _ _ _;by_cases c:w.params.followText "set-order" = true;rw[Pt c];simp;refine Pk (Pk (WI d e b ?_));show wpAny _ _ (if w.params.followText "set-order" = true then _ else _) _ _ _;rw[Pt c];refine Pk (wpAny_askSetting (wpAny_pure ?_));refine wpAny_pure (j _ ?_ ?_);unfold fx;rw[Pt c];show _=Option.map _ (Option.map _ (pickOrder (w.params.setOrder a ep) es)[i]?);cases(pickOrder (w.params.setOrder a ep) es)[i]?<;>rfl;intro p _ h;rw[c]at h;cases h;have a:w.params.followText "set-order" = false:=by simpa using c
 rw[Po c];split;rename_i h;have b:(!t.plain && decide (es.size > 1))=true:=h;rw[k.1]at b;simp at b;refine Pk ?_;show wpAny _ _ (if(!t.led && !es.isEmpty)=true then unsupported "set:maker-not-led" else pure ()) _ _ _;rw[Po (by rw[k.2,a];simp)];refine wpAny_pure (wpAny_pure (j _ ?_ ?_));unfold fx;rw[Po c,g a];cases e:es[i]? with
 |none=>rfl
 |some z =>
  have b:i<es.size:=(Yj.mp e).1;have c:t.place[i]?=some (t.place[i]'(by rw[T.len,f];exact b)):=Wz _;rw[c];rfl
 intro p b _;rw[g a]at b;split at b;rename_i j e;cases b;exact CL T.rise e;cases b
def K4{o:Obj}{x:Int×Value}{Q:yan->Shared->Prop}(k:s.heap.get? a=some o)(n:o.data=.set es ep t)(T:Tab t hs)(l:hs.length=es.size)
  (H:t.plain=true/\t.led=!w.params.followText "set-order") (st:u9 w s.heap I a t es.size ep i) (u:(fx w a es ep)[i]?=some x)
  (C:∀h',u9 w h' I a t es.size ep (i+1)->Heap.SameBut I s.heap h'->Q (some x.2) {s with heap:=h'}):wpAny (model prog w) A (pyNext (.ref I)) Q E s:=by
 obtain⟨J,j,h,f,b,B⟩:=id st;have q:=vW st;have c:t.fits es.size=true:=by rw[<- l];exact T.fits
 refine Pk (Ze (Yl (name:=Str.ofString "__next__") q dI (Wj dI q oM ?_ (oX _))));refine Pk (m:=slotArgs "__next__" 0 ⟨[.ref I],[]⟩) (wpAny_pure ?_);refine Pk (wpAny_fieldsOf h b ?_);dsimp only;refine Pk (Pk (WI k n c (wpAny_pure ?_)));rw[Po (by simp)];simp;refine Pk (uI k n T l H B λz e y=>?_);rw[u]at e;cases z with
 |none=>cases e
 |some p =>
  obtain⟨v,d⟩:=p;have G:x.2=v:=Uy e;subst G;refine Pk (zDA h b (by simp) ?_);have r:=WY (Obj.mapFields (·.setIfInBounds 0 (rawInt (d:Nat)))) h (Obj.isFreed_of_fields (Obj.data_mapFields b _));have g:=Obj.data_mapFields b (·.setIfInBounds 0 (rawInt (d:Nat)));refine Pk (zDA r g (by simp) ?_);refine wpAny_pure ⟨_,rfl,wpAny_pure (C _ ⟨_,d,WY _ r (Obj.isFreed_of_fields (Obj.data_mapFields g _)),(Obj.cls_mapFields ..).trans ((Obj.cls_mapFields ..).trans f),?_,y _ rfl⟩ ((Y5 ..).trans (Y5 ..)))⟩;rw[Obj.data_mapFields g];simp[rawInt]
def Nu{o:Obj}{Q:yan->Shared->Prop}(k:A.handled=none)(e:s.heap.get? a=some o)(g:o.data=.set es ep t)(T:Tab t hs)(f:hs.length=es.size)
  (p:t.plain=true/\t.led=!w.params.followText "set-order") (st:u9 w s.heap I a t es.size ep i) (j:(fx w a es ep)[i]?=none)
  (q:∀h',Heap.ExtBut I s.heap h'->Q none {s with heap:=h'}):wpAny (model prog w) A (pyNext (.ref I)) Q E s:=by
 obtain⟨r,d,i,l,b,n⟩:=id st;have h:=vW st;have c:t.fits es.size=true:=by rw[<- f];exact T.fits
 refine Pk (Ze (Yl (name:=Str.ofString "__next__") h dI (Wj dI h oM ?_ (oX _))));refine Pk (m:=slotArgs "__next__" 0 ⟨[.ref I],[]⟩) (wpAny_pure ?_);refine Pk (wpAny_fieldsOf i b ?_);dsimp only;refine Pk (Pk (WI e g c (wpAny_pure ?_)));rw[Po (by simp)];simp;refine Pk (uI e g T f p n λz c u=>?_);rw[j]at c;cases z with
 |some p=>cases c
 |none =>
  refine Pk (zDA i b (by simp) ?_);refine Pk ?_;refine Pk (m:=firstArgMember _ _) (wpAny_of_eq (a:=Value.none) (by first|rfl|(rfl)) ?_);refine XQ ?_ (by size_fits);refine Pk (wpAny_handled ?_);rw[show A.in1.handled=none from k];refine Pk (wpAny_pure (wpAny_throw ?_));refine Pk (ZP (T := "StopIteration") (b:=true) ⟨_,Sv _ rfl,rfl⟩ isSubtype_stop ?_);exact wpAny_pure (q _ (((Y5 ..).extBut.push _).push _))
def K5{Q:yaa}(st:u9 w s.heap I a t n ep i)(h:Q (.ref I) s):wpAny (model prog w) A (pyIter (.ref I)) Q E s:=by have a:=vW st;refine wpAny_pyIter_slot a p6 (Wj p6 a xt ?_ (yb _));exact wpAny_pure ⟨_,rfl,"set_iterator", _,a,dI.lookup,h⟩
def Gj (k:A.handled=none) (I a:Addr) (e:a≠I) {o:Obj} (g:o.data=.set es ep t) (T:Tab t hs) (f:hs.length=es.size) (j:t.plain=true/\t.led=!w.params.followText "set-order") :
  Walks prog w A I [I,a] [I] es.size (λi v=>∃x,(fx w a es ep)[i]?=some x/\x.2=v) (λi h=>u9 w h I a t es.size ep i/\h.get? a=some o) where
 sub:=by grind
 frame:=λ_ _ _ st b=>⟨by obtain⟨⟨o,c,d,r⟩,_⟩:=st;exact⟨o,c,b I (by simp) o d,r⟩,b a (by simp) o st.2⟩
 item:=λi s Q E l st c=>by
  have b:i<(fx w a es ep).size:=by simp_all [mr]
  refine K4 st.2 g T f j st.1 (Wz b) λd b sb=>?_
  exact c _ d s.toks (by simp_all) ⟨b,sb.extBut a o e st.2⟩ λb o a e=>sb.extBut b o (by grind) e
 done:=λs Q E st c=>Nu k st.2 g T f j st.1 (by simp_all [zCV,mr,Qu]) λd sb=>c d s.toks λb o a e=>sb b o (by grind) e
 self:=λ_ _ _ _ st c=>K5 st.1 c
def Hs {o:Obj} {Q:yaa} (c:s.heap.get? a=some o) (b:o.cls=.type "set") (d:o.data=.set es ep t) (T:Tab t hs) (f:hs.length=es.size) (QW:t.plain=true)
  (g:Q (.ref s.heap.objs.size) {s with heap:=s.heap.push {cls:=.type "set_iterator", data:=.fields #[.int 0 0,.int 0 0,.ref a,.int (es.size:Nat) 0,.int (ep:Nat) 0]} }):wpAny (model prog w) A (pyIter (.ref a)) Q E s:=by
 have e:s.TypeIs (.ref a) "set" := ⟨o,c,b⟩;have b:t.fits es.size=true:=by rw[<- f];exact T.fits
 refine wpAny_pyIter_slot e F.slot_set_iter (Wj F.slot_set_iter e yT ?_ (F.args_set_iter_1 _));refine Pk (m:=Builtin.Frozenset.slot0 "__iter__" ⟨[.ref a],[]⟩) (wpAny_pure ?_);refine Pk (Pk (Pk (WI c d b (wpAny_pure (wpAny_pure ?_)))));refine Pk (Pk (WI c d b ?_));refine Pk (Pk (wpAny_askSetting (wpAny_pure (wpAny_pure ?_))));split;rename_i h;have i:(!(w.params.followText "set-order") && (!t.plain && decide (es.size > 1)))=true:=h
 simp_all
 refine Pk (wpAny_pure ?_);refine Pk (Pk (WI c d b (wpAny_pure ?_)));refine Pk (XQ ?_ (by size_fits));exact wpAny_pure ⟨_,rfl,"set_iterator", _,⟨_,Sv _ rfl,rfl⟩,dI.lookup,g⟩
def AE {o:Obj} {Q:yad->Shared->Prop} (r:A.handled=none) (f:s.heap.get? a=some o) (e:o.cls=.type "set") (p:o.data=.set es ep t) (T:Tab t hs) (n:hs.length=es.size) (q:t.plain=true/\t.led=!w.params.followText "set-order") (C:es.size<=1000)
  (u:∀c (d:yad),(∀b o,s.heap.get? b=some o->c.heap.get? b=some o)->c.gens=s.gens->c.drawn=s.drawn->c.os=s.os->s.heap.objs.size<=c.heap.objs.size->d=(fx w a es ep).toList.map (·.2)->Q d c):wpAny (model prog w) A (collect (.ref a)) Q E s:=by
 unfold collect;have i:a<s.heap.objs.size:=Qp f;refine Pk (wpAny_runValue (Yq F.entry_proto_collect ?_));rw[Around.under_plainId F.plain_proto_collect _];refine Pk (XQ ?_);refine wpAny_pure ⟨zDJ F.plain_list_iadd _,Yq F.entry_list_iadd ?_⟩;rw[Around.under_plainId F.plain_list_iadd _];show wpAny _ A.in1 (Builtin.List.listExtendWith (.ref s.heap.objs.size) (.ref a) (.ref s.heap.objs.size)) _ _ _;generalize hH:s.heap.push {cls:=.type "list", data:=.seq ([]:yad).toArray}=H;have h:H.objs.size=s.heap.objs.size+1:=by rw[<- hH,Yr]
 have k:H.get? a=some o:=hH ▸ QN _ f;have d:Shared.TypeIs {s with heap:=H} (.ref a) "set" := ⟨o,k,e⟩;unfold Builtin.List.listExtendWith;refine Pk (wpAny_typeOf d ?_);have g:Builtin.List.listSameRef (.ref s.heap.objs.size) (.ref a)=false:=by have:s.heap.objs.size≠a:=Vw i;simp[Builtin.List.listSameRef,this]
 have f:(Value.type "set" == Value.type "list")=false:=by decide
 have d:(Value.type "set" == Value.type "tuple")=false:=by decide
 simp only[g,f,d,Bool.or_false,VC,if_false];refine Pk (Hs k e p T n q.1 ?_);generalize YO:H.push {cls:=.type "set_iterator", data:=.fields #[.int 0 0,.int 0 0,.ref a,.int (es.size:Nat) 0,.int (ep:Nat) 0]}=f;have d:Shared.TypeIs {s with heap:=f} (.ref a) "set" := ⟨o,YO ▸ QN _ k,e⟩;refine Pk (Ub ?_);unfold Builtin.List.listLengthHint;refine Pk (zC0 d F.slot_set_len.lookup ?_)
 wp_delta
 refine Pk (ZP (T := "set") (b:=true) d (by rw[isSubtype_type];kernel_rfl) ?_);show wpAny _ A.in1 (typeOf (Value.ref a) >>= _) _ _ _;refine Pk (wpAny_typeOf d ?_);refine wpAny_pure ?_;rw[Pt (by decide)];refine Pk (wpAny_rule ?_);refine Pk ?_;have d:f.get? s.heap.objs.size=some {cls:=.type "list", data:=.seq ([]:yad).toArray}:=YO ▸ QN _ (hH ▸ Sv _ rfl);refine Pk (zC1 d rfl ?_);have e:=WY (Obj.mapSeq (·.push Value.none)) d rfl;refine zC1 (hz:=by seq_fits) e rfl ?_;have d:=WY (Obj.mapSeq (·.pop)) e rfl;have Ru:∀b o,b≠s.heap.objs.size->f.get? b=some o->((f.update s.heap.objs.size (Obj.mapSeq (·.push Value.none))).update s.heap.objs.size (Obj.mapSeq (·.pop))).get? b=some o :=
  λb o j e=>(WC _ _ (Ne.symm j)).trans ((WC _ _ (Ne.symm j)).trans e)
 have t:f.get? H.objs.size=some {cls:=.type "set_iterator", data:=.fields #[.int 0 0,.int 0 0,.ref a,.int (es.size:Nat) 0,.int (ep:Nat) 0]}:=YO ▸ Sv _ rfl;have g:H.objs.size≠s.heap.objs.size:=by lia
 have l:a≠H.objs.size:=QU (by rw[h];exact Y7 i);have m:s.heap.objs.size ∉ [H.objs.size,a]:=λf=>by
  rcases Qg.mp f with z|z;exact g z.symm;exact absurd (SM.mp z) (Vw i)
 have W:=Gj (prog:=prog) (w:=w) (A:=A.in1) r H.objs.size a l p T n q;refine wpAny_pure ⟨zDJ F.plain_extend_loop _,codeAny_extend_loopS W.toS (by rw[sizeLine_eq];lia) _ m _ es.size 0 _ _ _ rfl (RS _)
  ⟨⟨_,0,Ru _ _ g t,rfl,rfl,λ_=>CN T.rise⟩,Ru _ _ (QU i) (YO ▸ QN _ k)⟩ d (ItemsOf.nil _) λc a G f d l=>?_⟩
 show wpAny _ A (load s.heap.objs.size >>= _) _ _ c;refine Pk (wpAny_load d ?_);have i:∀b o,s.heap.get? b=some o->c.heap.get? b=some o:=λb k e=>by
  have g:=Qp e;refine f.heap b k (λj=>?_) (Ru _ _ (QU g) (YO ▸ QN _ (hH ▸ QN _ e)));rcases Qg.mp j with z|z;exact absurd g (z ▸ Xa _);rw[SM.mp z,h]at g;exact absurd g (XY.mpr (Nat.le_succ _))
 refine wpAny_pure (u c a.toList i f.gens f.drawn f.os (V7 (Qp d)) ?_);obtain⟨y,c⟩:=l;apply List.ext_getElem?;intro j;rw[Vt,QZ,Vt];by_cases B:j<es.size;have b:j<a.size:=by lia
 obtain⟨x,a,d⟩:=c j _ (Wz b);rw[Wz b,a];simp[d];rw[zCV (by lia),zCV (by rw[mr];lia)];rfl
end
end SW
namespace SS
open PySem PySem.W PyProof.Rows
def good{a:Type}(r:Nat->Nat)(n:Nat)(G:a->Prop):KasT a->Prop
 |.ret a=>G a
 |.ask i j k=>i<n/\j<n/\good r n G (k (decide (r i<r j)))
theorem gQ{b c:Type}{r:Nat->Nat}{n:Nat}{G:b->Prop}{e:c->Prop}{f:b->KasT c}(d:∀a,G a->good r n e (f a)):∀t:KasT b,good r n G t->good r n e (t.bind f)
 |.ret a,h=>d a h
 |.ask _ _ k,⟨c,b,a⟩=>⟨c,b,gQ d _ a⟩
theorem good_mono{b:Type}{G d:b->Prop}(c:∀a,G a->d a):∀t:KasT b,good r n G t->good r n d t
 |.ret a,h=>c a h
 |.ask _ _ _,⟨d,b,a⟩=>⟨d,b,good_mono c _ a⟩
theorem BL{c:Type}{r:Nat->Nat}{n:Nat}{G:c->Prop}{b:Nat->Nat->(Bool->Shared->Prop)->Shared->Prop}{Q:c->Shared->Prop}(e:∀i j C,i<n->j<n->C (decide (r i<r j)) s->b i j C s)(d:∀a,G a->Q a s):∀t:KasT c,good r n G t->t.kasWp b Q s
 |.ret a,h=>d a h
 |.ask i j k,⟨c,b,a⟩=>e i j _ c b (BL e d _ a)
section
variable{r:Nat->Nat}{n:Nat}
def v(r:Nat->Nat)(p:yap)(k:Nat):Nat:=r (p.getD k 0)
def S(r:Nat->Nat)(p:yap)(k:Nat):Prop:=∀i j,i<=j->j<k->v r p i<=v r p j
def D(r:Nat->Nat)(p:yap)(k:Nat):Prop:=∀i j,i<=j->j<k->v r p j<=v r p i
structure Ok(n:Nat)(p:yap):Prop where
 perm:p.Perm (List.toArray (List.range n))
theorem Ok.size(h:Ok n p):p.size=n:=by have:=h.perm.size_eq;simpa using this
def Ok.lt(h:Ok n p){k:Nat}(b:k<n):p.getD k 0<n:=by
 have a:=h.size;have m:p[k]'(by lia)∈p.toList:=by simp
 have:=(zDI.mp h.perm).mem_iff.mp m
 simp_all
def Ar{p q:yap}{a b:Nat}(h:p[a]?=q[b]?):v r p a=v r q b:=by
 unfold v
 simp_all
theorem DV{p:yap}{j:Nat}(a:j<=p.size)(k:Nat):v r (kas_rev p i j) k=if i<=k/\k<j then v r p (i+j - 1 - k)else v r p k:=by have h:=getElem?_mirror_all (i:=i) a k;split;rename_i c;rw[Pt c]at h;exact Ar h;rename_i c;rw[Po c]at h;exact Ar h
def Ok.rev(h:Ok n p)(i j:Nat):Ok n (kas_rev p i j):=⟨(mirror_perm p i j _).trans h.perm⟩
theorem Ok.bubble(h:Ok n p)(k d:Nat):Ok n (PyProof.Rows.bubble p k d):=⟨(bubble_perm p k d).trans h.perm⟩
def Aq{p:yap}{k l:Nat}(b:k<p.size)(d:l<=k)(a:Nat):v r (PyProof.Rows.bubble p k (k - l)) a=if a=l then v r p k else if l<a/\a<=k then v r p (a - 1)else v r p a:=by have h:=getElem?_bubble b (k - l) (by lia) a;rw[show k - (k - l)=l by lia]at h;split;rename_i c;rw[Pt c]at h;exact Ar h;rename_i c;rw[Po c]at h;split;rename_i a;rw[Pt a]at h;exact Ar h;rename_i a;rw[Po a]at h;exact Ar h
theorem yc(O:Ok n p):∀(f m:Nat),1<=m->m+f<=n->S r p m->good r n (λa=>m<=a/\a<=m+f/\S r p a/\(a<m+f->v r p a<v r p (a - 1))) (kas_asc p f m)
 |0,m,_,_,h=>⟨Qu _,Qu _,h,by lia⟩
 |f+1,m,g,e,h=>by
  refine⟨O.lt (by lia),O.lt (by lia),?_⟩;by_cases c:r (p.getD m 0)<r (p.getD (m - 1) 0);simp only[c,decide_true,if_true];exact⟨Qu _,by lia,h,λ_=>c⟩;simp only[c,decide_false,VC,if_false];have a:S r p (m+1):=λi j b d=>by
   rcases Yt j m with z|z;exact h i j b z;have:j=m:=by lia
   subst this;rcases Yt i j with y|y;have:=h i (j - 1) (by lia) (by lia);have k:v r p (j - 1)<=v r p j:=Y8 c
   lia
   grind
  exact good_mono (by lia) _ (yc O f (m+1) (by lia) (by lia) a)
theorem v_eq{p:yap}{i j:Nat}(b:j<=p.size)(h:∀a,i<=a->a<j->v r p a=v r p (j - 1))(k:Nat):v r (kas_rev p i j) k=v r p k:=by grind [DV]
def D.cong(e:∀a,v r q a=v r p a)(h:D r p k):D r q k:=λi j a b=>by rw[e,e];exact h i j a b
theorem qH:∀(f:Nat) (p:yap) (m q:Nat),Ok n p->m+f<=n->q+1<=m->D r p m->(∀a,m - (q+1)<=a->a<m->v r p a=v r p (m - 1)) →
  good r n (λz=>Ok n z.1/\m<=z.2.1/\z.2.1<=m+f/\D r z.1 z.2.1/\z.2.2+1<=z.2.1/\∀a,z.2.1 - (z.2.2+1)<=a->a<z.2.1->v r z.1 a=v r z.1 (z.2.1 - 1)) (kas_desc f p m q)
 |0,p,m,q,O,_,l,d,b=>⟨O,Qu _,Qu _,d,l,b⟩
 |f+1,p,m,q,O,x,l,d,b=>by
  have os:=O.size;unfold kas_desc;refine⟨O.lt (by lia),O.lt (by lia),?_⟩;have o:v r p m<=v r p (m - 1)->D r p (m+1):=λc i j e A=>by
   rcases Yt j m with z|z;exact d i j e z;have:j=m:=by lia
   subst this;rcases Yt i j with y|y;have:=d i (j - 1) (by lia) (by lia)
   lia
   have:i=j:=by lia
   subst this;exact Qu _
  by_cases c:r (p.getD m 0)<r (p.getD (m - 1) 0);simp only[c,decide_true,if_true];have t:D r p (m+1):=o (V7 c);split;have e:=v_eq (r:=r) (p:=p) (i:=m - (q+1)) (j:=m) (by lia) b;exact good_mono (λz k=>(by obtain⟨j,w,u,i,h,g⟩:=k;exact⟨j,by lia,by lia,i,h,g⟩)) _ (qH f (kas_rev p (m - (q+1)) m) (m+1) 0 (O.rev _ _) (by lia) (by lia) (t.cong e) λa s e=>by
   have:a=m:=by lia
   subst this;rfl)
  exact good_mono (λz k=>(by obtain⟨j,w,u,i,h,g⟩:=k;exact⟨j,by lia,by lia,i,h,g⟩)) _ (qH f p (m+1) 0 O (by lia) (by lia) t λa s e=>by
   have:a=m:=by lia
   subst this;rfl)
  simp only[c,decide_false,VC,if_false];refine⟨O.lt (by lia),O.lt (by lia),?_⟩;by_cases c:r (p.getD (m - 1) 0)<r (p.getD m 0);simp only[c,decide_true,if_true];exact⟨O,Qu _,ZO _ _,d,l,b⟩;simp only[c,decide_false,VC,if_false];have c:v r p m=v r p (m - 1):=by unfold v;lia
  exact good_mono (λz k=>(by obtain⟨j,w,u,i,h,g⟩:=k;exact⟨j,by lia,by lia,i,h,g⟩)) _ (qH f p (m+1) (q+1) O (by lia) (by lia) (o (Nat.le_of_eq c)) λa s e=>by
   rcases Yt a m with z|z;rw[b a (by lia) z];exact c.symm;have:a=m:=by lia
   subst this;rfl)
def Cj{p:yap}{m:Nat}(O:Ok n p)(a:1<=m)(f:m<=n)(c:D r p m):good r n (λz=>Ok n z.2/\1<=z.1/\z.1<=n/\S r z.2 z.1) (kas_tail3 m n p):=by
 have os:=O.size;have b:S r (kas_rev p 0 m) m:=λi j RT g=>by rw[DV (by lia),DV (by lia),Pt (by lia),Pt (by lia)];exact c _ _ (by lia) (by lia)
 refine gQ (λe d=>?_) _ (yc (O.rev 0 m) (n - m) m a (by lia) b);obtain⟨c,h,b,_⟩:=d;exact⟨O.rev _ _,QM a c,by lia,b⟩
def BX{p:yap}{m:Nat}(O:Ok n p)(d:m+1<=n)(a:D r p (m+1)):good r n (λz=>Ok n z.2/\1<=z.1/\z.1<=n/\S r z.2 z.1) (kas_descPart m n p):=by
 refine gQ (λz c=>?_) _ (qH (n - (m+1)) p (m+1) 0 O (by omega) (by omega) a (by grind));obtain⟨a,h,g,b,f,e⟩:=c;have os:=a.size;split;exact Cj (a.rev _ _) (by omega) (by omega) (b.cong (by grind [v_eq]))
 simp_all [Cj]
def GY(O:Ok n p)(k:1<=n):good r n (λz=>Ok n z.2/\1<=z.1/\z.1<=n/\S r z.2 z.1) (kas_count n p):=by
 have os:=O.size;unfold kas_count;refine gQ (λm ⟨a,s,d,e⟩=>?_) _ (yc (r:=r) O (n - 1) 1 (Qu _) (by lia) λi j h g=>by
  have:i=j:=by lia
  subst this;exact Qu _)
 split;rename_i c;have b:m=n:=by simpa using c
 exact⟨O,a,by lia,d⟩;rename_i c;have b:m≠n:=by simpa using c
 have f:=e (by lia);split;refine⟨O.lt (by lia),O.lt (by lia),?_⟩;by_cases c:r (p.getD 0 0)<r (p.getD (m - 1) 0);simp only[c,decide_true,if_true];exact⟨O,a,by lia,d⟩;simp only[c,decide_false,VC,if_false];have b:∀a,0<=a->a<m->v r p a=v r p (m - 1):=λa _ e=>by
  have q:=d 0 a (by lia) e;have o:=d a (m - 1) (by lia) (by lia);have l:v r p (m - 1)<=v r p 0:=Y8 c
  lia
 have e:=v_eq (r:=r) (p:=p) (i:=0) (j:=m) (by lia) b;refine BX (O.rev _ _) (by lia) λi j h g=>?_
 rw[e,e];rcases Yt j m with z|z;rw[b i (by lia) (by lia),b j (by lia) z];exact Qu _;have:j=m:=by lia
 subst this;rcases Yt i j with y|y;rw[b i (by lia) y];exact V7 f;have:i=j:=by lia
 subst this;exact Qu _;have a:m=1:=by lia
 subst a;refine BX O (by lia) λi j h g=>?_
 rcases Yt i j with y|y;have b:i=0:=by lia
 have a:j=1:=by lia
 subst b a;exact V7 f;have:i=j:=by lia
 subst this;exact Qu _
theorem sE{k:Nat}(O:Ok n p)(g:k<n)(hs:S r p k):∀(f l h:Nat),l<=h->h<=k->h - l<=f->(∀a,a<l->v r p a<=v r p k)->(∀a,h<=a->a<k->v r p k<=v r p a) →
  good r n (λb=>b<=k/\(∀a,a<b->v r p a<=v r p k)/\∀a,b<=a->a<k->v r p k<=v r p a) (kas_place p k f l h)
 |0,l,h,i,c,e,d,b=>by
  have:l=h:=by lia
  subst this;exact⟨c,d,b⟩
 |f+1,l,h,i,c,e,d,b=>by
  unfold kas_place;split;have:l=h:=by lia
  subst this;exact⟨c,d,b⟩;refine⟨O.lt (by lia),O.lt (by lia),?_⟩;by_cases c:r (p.getD k 0)<r (p.getD ((l+h) / 2) 0);simp only[c,decide_true,if_true];refine sE O g hs f l ((l+h) / 2) (by lia) (by lia) (by lia) d λa e d=>?_
  have:=hs ((l+h) / 2) a e d;have d:v r p k<v r p ((l+h) / 2):=c
  lia
  simp only[c,decide_false,VC,if_false];refine sE O g hs f ((l+h) / 2+1) h (by lia) (by lia) (by lia) (λa j=>?_) b;have:=hs a ((l+h) / 2) (by lia) (by lia);have d:v r p ((l+h) / 2)<=v r p k:=Y8 c
  lia
theorem Ej:∀(f:Nat) (p:yap) (k:Nat),Ok n p->k+f=n->S r p k->good r n (λz=>Ok n z/\S r z n) (kas_bin f p k)
 |0,p,k,O,a,b=>by
  have:k=n:=by lia
  subst this;exact⟨O,b⟩
 |f+1,p,k,O,a,b=>by
  have os:=O.size;unfold kas_bin;refine gQ (λl ⟨c,g,e⟩=>Ej f _ (k+1) (O.bubble k (k - l)) (by lia) λi j RT h=>?_) _ (sE O (by lia) b k 0 k (by lia) (by lia) (by lia) (λa d=>absurd d (Nat.not_lt_zero _)) λa o m=>by lia);rw[Aq (by lia) c,Aq (by lia) c]
  repeat' split
  all_goals first
   |exact Qu _
   |(exfalso;lia)
   |exact e _ (by lia) (by lia)
   |exact g _ (by lia)
   |exact b _ _ (by lia) (by lia)
def K6(a:1<=n):good r n (λz=>Ok n z/\S r z n) (kas_sort n):=by
 refine gQ (λz c=>?_) _ (GY (r:=r) ⟨Array.Perm.refl _⟩ a);obtain⟨b,e,d,a⟩:=c;split;grind [Ej];have:z.1=n:=by lia
 rw[this]at a;exact⟨b,a⟩
end
end SS
namespace SW
open PySem PySem.SetTable ST PySem.W PyProof.Rows
noncomputable def lexLt:yaf->yaf->Bool
 |_,[]=>false
 |[],_::_=>true
 |a::x,b::y=>if a=b then lexLt x y else decide (a<b)
theorem kI:∀x,lexLt x x=false
 |[]=>rfl
 |a::x=>by unfold lexLt;rw[Pt rfl];exact kI x
theorem rF:∀x y z,lexLt x y=true->lexLt y z=true->lexLt x z=true
 |_,[],_,h,_=>by unfold lexLt at h;lia
 |_,_::_,[],_,h=>by unfold lexLt at h;lia
 |[],_::_,_::_,_,_=>rfl
 |a::x,b::y,c::z,e,d=>by
  unfold lexLt at e d ⊢;split at e<;>split at d;rename_i g f;rw[Pt (g.trans f)];exact rF x y z e d
  all_goals lia
theorem lU:∀x y,lexLt x y=false->x=y∨lexLt y x=true
 |[],[],_=>.inl rfl
 |[],_::_,h=>by unfold lexLt at h;lia
 |_::_,[],_=>.inr rfl
 |a::x,b::y,h=>by
  unfold lexLt at h ⊢;split at h;rename_i e
  simp_all [lU]
  lia
theorem yx{a:Type}(p q:a->Bool):∀l:List a,(∀z∈l,p z=true->q z=true)->(∃z∈l,p z=false/\q z=true)->l.countP p<l.countP q
 |[],_,⟨_,h,_⟩=>by cases h
 |x::l,h,⟨z,a,c,b⟩=>by
  rw[List.countP_cons,List.countP_cons];have d:l.countP p<=l.countP q:=List.countP_mono_left (by grind);rcases Qg.mp a with y|y
  lia
  have ih:=yx p q l (by grind) ⟨z,y,c,b⟩;grind
def rank(K:List (yaf))(x:yaf):Nat:=K.countP λy=>lexLt y x
def B8{K:List (yaf)}{x y:yaf}(g:x∈K)(f:y∈K):decide (rank K x<rank K y)=lexLt x y:=by
 have e:∀a b,a∈K->lexLt a b=true->rank K a<rank K b:=λa b d h=>yx _ _ K (λz _ c=>rF z a b c h) ⟨a,d,kI a,h⟩
 grind [lU]
section
variable{prog:Program}{w:World}{A:Around}{E:yaa}{s:Shared}
def MS{f:Bool}{Q:Bool->Shared->Prop}:∀{k d:yaf} {g vs:yad} (i:Nat),PySem.ItemsAre (intKind prog w) k g->PySem.ItemsAre (intKind prog w) d vs->f=decide (k.length<d.length)->Q (lexLt k d) s->KatLex prog w A b f Q (g.zip vs) i s:=by
 intro k d g vs i h
 induction h generalizing d vs i with
 |nil =>
  intro l j q;cases l with
  |nil=>rw[j];exact q
  |cons _ _=>rw[j];exact q
 |@cons a u x g o r ih =>
  intro l j q;cases l with
  |nil=>rw[j];exact q
  |@cons c p y vs n m =>
   obtain⟨t,rfl⟩:=Value.isInt_shape o;obtain⟨z,rfl⟩:=Value.isInt_shape n;refine kat_cons (wpAny_eqBool_int ?_);by_cases e:a=c;subst e;rw[show(a==a)=true by simp];refine kat_yes (ih (i+1) m ?_ ?_)
   simp_all
   unfold lexLt at q
   lia
   rw[show(a==c)=false by simp[e]];unfold lexLt at q;rw[Po e]at q;refine kat_no ?_;cases(b && i==0)with
   |true=>exact oneLt_int q
   |false=>exact kat_one _ _ (PySem.P.lt_int q)
def Ep{Q:Bool->Shared->Prop}(f:(TK prog w).is s.heap k x)(a:(TK prog w).is s.heap k' y)(q:Q (lexLt k k') s):wpAny (model prog w) A (keyLt' (tuples' b) (.ref x) (.ref y)) Q E s:=by
 obtain⟨o,d,n,g,r,i,e⟩:=f;obtain⟨m,c,p,j,U8,l,f⟩:=a;have a:∀{k:yaf} {b:yad},PySem.ItemsAre (intKind prog w) k b->k.length=b.length:=λh=>by
  induction h with
  |nil=>rfl
  |cons _ _ ih=>simp[ih]
 refine kat_lt g i j l (MS 0 e f ?_ q);rw[a e,a f,Tp,Tp]
theorem Cm:∀{cs:yae} (K:Nat->yaf) (off:Nat),(∀(j:Nat) (c:Addr),cs[j]?=some c->(TK prog w).is s.heap (K (off+j)) c/\K (off+j) ≠ [])->∃d,KatTups s.heap (cs.map Value.ref) d/\d.length=cs.length/\∀v∈d,∃n t,v=Value.int n t
 |[],_,_,_=>⟨[],KatTups.nil,rfl,by grind⟩
 |c::cs,K,off,h=>by
  obtain⟨d,t,l,r⟩:=Cm (cs:=cs) K (off+1) λj c a=>by
   have:=h (j+1) c a
   lia
  obtain⟨⟨o,a,n,f,i,g,b⟩,e⟩:=h 0 c rfl;generalize K off=p at b e;generalize hL:a.toList=L at b;cases b with
  |nil=>lia
  |@cons a u x k c m =>
   obtain⟨b,rfl⟩:=Value.isInt_shape c;refine⟨.int a b::d,KatTups.cons f i g ?_ t,by simp[l],λv q=>?_⟩;rw[<- Vt,hL];rfl;grind
def AI{cs:yae}{K:Nat->yaf}{Q:SortKind->Shared->Prop}(QX:0<cs.length)(h:∀(j:Nat) (c:Addr),cs[j]?=some c->(TK prog w).is s.heap (K j) c/\K j ≠ [])(q:Q (tuples' true) s):wpAny (model prog w) A (keyKind' (cs.map Value.ref).toArray) Q E s:=by
 obtain⟨e,t,l,b⟩:=Cm (s:=s) (cs:=cs) K 0 λj c a=>by rw[V8];exact h j c a
 refine kat_kind (T:=.type "int") t (by lia) (λv a=>?_) (by decide) q;obtain⟨n,d,rfl⟩:=b v a;exact Looks.of_pure rfl
def Jz{cs:yae}{K:Nat->yaf}{G:yap->Shared->Prop}(g:1<=cs.length)(h:∀(j:Nat) (c:Addr),cs[j]?=some c->(TK prog w).is s.heap (K j) c)
  (e:∀p:yap,SS.Ok cs.length p->(∀i j,i<=j->j<cs.length->lexLt (K (p.getD j 0)) (K (p.getD i 0))=false)->G p s):(kas_sort cs.length).kasWp (kas_ask prog w A (tuples' true) (cs.map Value.ref)) G s:=by
 have a:∀i,i<cs.length->K i∈(List.range cs.length).map K:=λi c=>P6.mpr ⟨i,U2.mpr c,rfl⟩
 refine SS.BL (r:=λi=>rank ((List.range cs.length).map K) (K i)) (n:=cs.length) (λi j C c b d=>?_) (λp ⟨O,S⟩=>e p O λi j f b=>?_) _ (SS.K6 g);unfold kas_ask;have g:(cs.map Value.ref).getD i Value.none=.ref cs[i]:=by simp[c]
 have e:(cs.map Value.ref).getD j Value.none=.ref cs[j]:=by simp[b]
 rw[g,e];refine Ep (h i _ (Qw c)) (h j _ (Qw b)) ?_;rw[B8 (a i c) (a j b)]at d;exact d;have:=S i j f b;unfold SS.v at this;have e:=B8 (a _ (O.lt b)) (a _ (O.lt (ZH f b)));rw[<- e];exact decide_eq_false (XY.mpr this)
theorem Cp{a:Type}:∀l:List a,(l.zip l).map (·.2)=l
 |[]=>rfl
 |x::l=>by simp[Cp l]
def range_getD{a:Type}(l:List a)(d:a):(List.range l.length).map (λi=>l.getD i d)=l:=by
 apply List.ext_getElem
 all_goals simp_all
def zx {cs:yae} {K:Nat->yaf} {P:PySem.Fin->Shared->Prop} (m:s.heap.get? a=some (seqObj "list" (cs.map Value.ref).toArray n)) (q:cs.length<64)
  (h:∀(j:Nat) (c:Addr),cs[j]?=some c->(TK prog w).is s.heap (K j) c/\K j ≠ [])
  (r:∀h' (p:yap) l,SS.Ok cs.length p->(∀i j,i<=j->j<cs.length->lexLt (K (p.getD j 0)) (K (p.getD i 0))=false)->(∀b o,b≠a->s.heap.get? b=some o->h'.get? b=some o) →
   h'.get? a=some (seqObj "list" (List.toArray (p.toList.map λi=>(cs.map Value.ref).getD i Value.none)) l)->P (.done (.ret .none)) {s with heap:=h'}):wpAny (model prog w) A (Builtin.«list.sort» ⟨[.ref a],[]⟩) P E s:=by
 have f:(cs.map Value.ref).length=cs.length:=Pq ..;obtain⟨d,e⟩:∃d,(s.heap.update a (Obj.mapSeq λ_=>(#[]:yao))).get? a=some (seqObj "list" #[] d):=⟨_,get?_update_seq m λ_=>#[]⟩;rw[list_sort_plain];refine Pk (listItems_at m rfl ?_);refine Pk (listUpdate_at m rfl ?_ (by rw[S8,sizeLine_eq];lia) (RS _));refine Pk (seqEpoch_at e rfl ?_);refine Pk (wpAny_newTuple ?_ (by show(cs.map Value.ref).length<=_;rw[sizeLine_eq];lia));refine Pk (wpAny_newList ?_ (RS _));refine Ub ?_;have g:(((s.heap.update a (Obj.mapSeq λ_=>(#[]:yao))).push (seqObj "tuple" (cs.map Value.ref).toArray 0)).push (seqObj "list" #[] 0)).get? a=some (seqObj "list" #[] d):=QN _ (QN _ e);have Ru:∀b o,b≠a->s.heap.get? b=some o->(((s.heap.update a (Obj.mapSeq λ_=>(#[]:yao))).push (seqObj "tuple" (cs.map Value.ref).toArray 0)).push (seqObj "list" #[] 0)).get? b=some o:=λb o n e =>
  QN _ (QN _ ((WC _ _ (Ne.symm n)).trans e))
 generalize ((s.heap.update a (Obj.mapSeq λ_=>(#[]:yao))).push (seqObj "tuple" (cs.map Value.ref).toArray 0)).push (seqObj "list" #[] 0)=H at g Ru ⊢;have k:∀(p:yap) (d:yao),SS.Ok cs.length p->(∀i j,i<=j->j<cs.length->lexLt (K (p.getD j 0)) (K (p.getD i 0))=false)->d=List.toArray (p.toList.map λi=>(cs.map Value.ref).getD i Value.none)->P (.done (.ret .none)) {s with heap:=H.update a (Obj.mapSeq λ_=>d)}:=λp d O S e=>by subst e;obtain⟨l,d⟩:∃l,(H.update a (Obj.mapSeq λ_=>List.toArray (p.toList.map λi=>(cs.map Value.ref).getD i Value.none))).get? a=some (seqObj "list" (List.toArray (p.toList.map λi=>(cs.map Value.ref).getD i Value.none)) l):=⟨_,get?_update_seq g λ_=>List.toArray (p.toList.map λi=>(cs.map Value.ref).getD i Value.none)⟩;exact r _ p l O S (λb o n e=>(WC _ _ (Ne.symm n)).trans (Ru b o n e)) d
 dsimp only;by_cases a:(cs.map Value.ref).toArray.size<2;rw[Pt a,Pt a];refine Pk (wpAny_pure ?_);rw[StateT.run_pure];refine Pk (wpAny_pure ?_);dsimp only;refine Pk (seqEpoch_at g rfl ?_);refine Pk (listUpdate_at g rfl ?_ (hsz2:=by rw[Array.size_map];show(pairsOf (cs.map Value.ref)).size<=_;rw[pairsOf_size,sizeLine_eq];lia));simp only[bne_self_eq_false,VC,if_false];refine wpAny_pure (k (List.toArray (List.range cs.length)) _ ⟨Array.Perm.refl _⟩ (λi j RT b=>?_) ?_);have:i=j:=by rw[S8,f]at a;lia
 subst this;exact kI _;show((cs.map Value.ref).toArray.zip (cs.map Value.ref).toArray).map (·.2)=_;have e:=range_getD (cs.map Value.ref) Value.none;rw[f]at e;rw[e];simp[Cp];rw[Po a,Po a];rw[S8,f]at a;have l:∀(j:Nat) (c:Addr),cs[j]?=some c->(TK prog w).is H (K j) c/\K j ≠ []:=λj c b=>by obtain⟨a,d⟩:=h j c b;exact⟨mC a λo e=>Ru c o (key_ne a m rfl (by decide)) e,d⟩
 refine Pk (AI (s:={s with heap:=H}) (by lia) l ?_);refine Pk (Tv (kat_run (s:={s with heap:=H}) (ks:=cs.map Value.ref) (vs:=cs.map Value.ref) (Q:=λd a=>a={s with heap:=H}/\∃p:yap,arrOf d=p.map (kas_item ((cs.map Value.ref).toArray.zip (cs.map Value.ref).toArray))/\failedOf d=none/\SS.Ok cs.length p/\∀i j,i<=j->j<cs.length->lexLt (K (p.getD j 0)) (K (p.getD i 0))=false)
  (G:=λp a=>a={s with heap:=H}/\SS.Ok cs.length p/\∀i j,i<=j->j<cs.length->lexLt (K (p.getD j 0)) (K (p.getD i 0))=false)
  rfl (by rw[f];lia) (by rw[f];exact q) (λp d a t o n q=>(by obtain⟨m,i,h⟩:=q;exact⟨m,p,o,n,i,h⟩)) ?_) ?_ λ_ _ e=>e)
 rw[f];exact Jz (s:={s with heap:=H}) (by lia) (λj c b=>(l j c b).1) λp O S=>⟨rfl,O,S⟩
 rintro⟨⟨⟩,d⟩ a ⟨rfl,p,b,c,O,S⟩;dsimp only;have a:=kat_snds (ks:=cs.map Value.ref) (vs:=cs.map Value.ref) rfl b;rw[a];refine Pk (seqEpoch_at g rfl ?_);refine Pk (listUpdate_at g rfl ?_ (RS _) (by rw[S8,Pq,Tp,O.size,sizeLine_eq];lia));rw[c];simp only[bne_self_eq_false,VC,if_false];exact wpAny_pure (k p _ O S rfl)
def HQ{a b:Type}{f:a->b}{l m:List b}(h:l.Perm m):∀xs:List a,m=xs.map f->∃c:List a,c.Perm xs/\l=c.map f:=by
 induction h with
 |nil=>simp_all
 |cons a _ ih =>
  intro xs e;cases xs with
  |nil=>cases e
  |cons x xs =>
   injection e with e1 e2;obtain⟨c,p,q⟩:=ih xs e2;exact⟨x::c,p.cons x,by grind⟩
 |swap a b l =>
  intro xs e
  match xs,e with
  |[],e=>cases e
  |[_],e=>simp at e
  |x::y::xs,e =>
   exact⟨y::x::xs,List.Perm.swap x y xs,by grind⟩
 |trans _ _ b a =>
  intro xs e;obtain⟨c,p,q⟩:=a xs e;obtain⟨a,e,d⟩:=b c q;exact⟨a,e.trans p,d⟩
def DH{a:Addr}{xs:List (yaf×Addr)}{Q:yaa}(i:A.handled=none)(X:jD prog w s.heap a xs)(u:xs.length<64)(G:∀x∈xs,x.1 ≠ [])
  (r:∀s' (D:Addr) (ys:List (yaf×Addr)) c,(∀b o,s.heap.get? b=some o->s'.heap.get? b=some o)->s'.gens=s.gens->s'.drawn=s.drawn->s'.os=s.os->s.heap.objs.size<=D->ys.Perm xs->ys.Pairwise (λx y=>lexLt x.1 y.1=true) →
   s'.heap.get? D=some (seqObj "list" (ys.map λy=>Value.ref y.2).toArray c)->Q (.ref D) s'):wpAny (model prog w) A (call (.builtin "sorted") [.ref a]) Q E s:=by
 obtain⟨⟨o,h,l,t,f,d,j,g,T,k,_,_⟩,x,q⟩:=X;have e:h.size=xs.length:=by rw[<- Tp,g,Pq]
 refine Calls.call_function_entry kind_sorted plain_sorted entry_sorted (args_sorted1 _) ?_;refine Pk (m:=checkCount "sorted" 1 1 _) (wpAny_pure ?_);refine Pk (AE (show A.in1.handled=none from i) f d.1 j T (by rw[Pq,e]) k (by lia) λf e j B y g3 m n=>?_);obtain⟨d,k,i⟩:=HQ (rO w a h l) xs g;have a:e=(d.map (·.2)).map Value.ref:=by rw[n,i,QP,QP];rfl
 have l:d.length=xs.length:=k.length_eq;have h:(d.map (·.2)).length=xs.length:=by rw[Pq,l]
 subst a;refine Pk (wpAny_newList ?_ (by rw[Pq,h,sizeLine_eq];lia));have a:(f.heap.push (seqObj "list" ((d.map (·.2)).map Value.ref).toArray 0)).get? f.heap.objs.size=some (seqObj "list" ((d.map (·.2)).map Value.ref).toArray 0):=Sv _ rfl;have n:∀b o,s.heap.get? b=some o->(f.heap.push (seqObj "list" ((d.map (·.2)).map Value.ref).toArray 0)).get? b=some o:=λb o e=>QN _ (j b o e)
 refine Pk (Ub (Wj slot_list_sort ⟨_,a,rfl⟩ entry_list_sort ?body (args_list_sort _)))
 case body =>
  refine zx (s:={f with heap:=f.heap.push (seqObj "list" ((d.map (·.2)).map Value.ref).toArray 0)}) (K:=λj=>(d.getD j ([],0)).1) a (by lia) (λj c a=>?_) λH p C O S Ru t=>?_
  rw[QZ]at a;obtain⟨z,i,e⟩:=Wi.mp a;have g:d.getD j ([],0)=z:=by rw[Q2,i];rfl
  have c:z∈xs:=k.mem_iff.mp (Rt i);subst e;rw[g];exact⟨mC (x z c) λo e=>n _ o e,G z c⟩;have g:(p.toList.map λi=>d.getD i ([],0)).Perm xs:=by
   have x:=(zDI.mp O.perm).map λi=>d.getD i ([],0)
   have c:=range_getD d ([],0);rw[l,<- h]at c;refine(x.trans ?_).trans k;rw[c]
  refine⟨_,rfl,wpAny_pure ⟨_,rfl,r _ f.heap.objs.size (p.toList.map λi=>d.getD i ([],0)) C (λb o e=>?_) B y g3 m g ?_ ?_⟩⟩;exact Ru b o (QU (R7 (Qp e) m)) (n b o e);refine WA.mpr λi j b a h=>?_
  have c:((p.toList.map λi=>d.getD i ([],0)).map (·.1)).Nodup:=(g.map (·.1)).nodup_iff.mpr q;have f:=WA.mp c i j (by rw[Pq];exact b) (by rw[Pq];exact a) h;rw[Pq,Tp]at b a;have c:=S i j (by lia) (by rw[<- O.size];exact a);have h:p.getD i 0=p[i]:=by simp[Array.getD,b]
  have g:p.getD j 0=p[j]:=by simp[Array.getD,a]
  rw[h,g]at c;simp at f ⊢;rcases lU _ _ c with e|e;exact absurd e.symm f;exact e;refine t.trans ?_;congr 3;rw[QP (l:=p.toList)];refine Yn λi b=>?_
  have a:i<d.length:=by have:=(zDI.mp O.perm).mem_iff.mp b;simpa using this
  simp[a]
end
end SW
namespace PD
open PySem PySem.Spec PyProof.Rows L2
section
variable{X:Cx}{pos:Pos}
def boot_sorted:bootBuiltins "sorted" = some (.builtin "sorted"):=by kernel_rfl
def boot_set:bootBuiltins "set" = some (.type "set"):=by kernel_rfl
theorem uh:∀{ns:yaf} {a:yad},Vals (ns.map V.int) a->PySem.ItemsAre (intKind prog w) ns a
 |[],a,r=>by cases r;exact .nil
 |n::ns,a,r=>by
  cases r with
  |cons h t =>
   obtain⟨b,rfl⟩:=h;exact .cons (by simp[intKind,Value.isInt]) (uh t)
def BN{k:yaf}(I:Inv X pins σ H s)(h:Ql X.K H a (k.map V.int)):(SW.TK X.prog X.w).is s.heap k a:=by obtain⟨c,r,⟨o,e,b,n,a⟩,_⟩:=I.tuple h.w;exact⟨o,c.toArray,n,e,b,a,by simpa using uh r⟩
def MF(a:b6 k A):A.in1.in1.in1.units<cLine:=ZH (Nat.add_le_add_left (by decide:3<=64) _) a.units
def tupI(k:yaf):D:=.tup (k.map D.int)
def Oo{K:yac}{P:yak}{H:Hp}{k:yaf}{v:V}(h:Den K P H (tupI k) v):∃a,v=.ref a/\Ql K H a (k.map V.int):=by
 obtain⟨a,b,e,q,a⟩:=h.RA;rw[cc a]at q
 simp_all
def D9(ys ks:List (yaf)):Prop:=ys.Pairwise (λx y=>SW.lexLt x y=true)/\∀k,k∈ys↔k∈ks
def G6(te:DE):DA:=λa Q=>te a λd=>∃t a,d=.lst t (a.map tupI)/\a.length<64/\(∀k∈a,k ≠ [])/\∀b,D9 b a->Q (b.map tupI)
def CW {e:Expr} {te:DE} {p M w:Pos} (hc:X.calm=true) (hu:X.A.in1.in1.in1.units<cLine) (hg:Gl X "sorted") (hm:X.mg "sorted" = none) (hg2:Gl X "set") (hm2:X.mg "set" = none) (he:P5 X e te)
  (RI:starEach [.Call (.Name "set" M) [e] [] w] X.env=(false,eval (.Call (.Name "set" M) [e] [] w) X.env)::starEach [] X.env:=by rfl) (QW:(backTo pos (starEach [] X.env)).any (·.1)=false:=by rfl)
  (Tt:starEach [e] X.env=(false,eval e X.env)::starEach [] X.env:=by rfl) (XF:(backTo w (starEach [] X.env)).any (·.1)=false:=by rfl) :
  TP X (.Call (.Name "sorted" p) [.Call (.Name "set" M) [e] [] w] [] pos) (G6 te):=by
 intro g s U H W ρ Q I r h;refine VE (cE I hg hm boot_sorted ?_ (by decide) (by decide));refine PyProof.Rows.callWith_builtin1 ?_ RI QW;rw[RI];show wpAny _ _ (spliced ((false,eval (.Call (.Name "set" M) [e] [] w) X.env)::backTo pos (starEach [] X.env))) _ _ s;refine Calls.spliced_cons ?_;refine VE (cE I hg2 hm2 boot_set ?_ (by decide) (by decide));refine PyProof.Rows.callWith_type1 ?_ Tt XF;rw[Tt];show wpAny _ _ (spliced ((false,eval e X.env)::backTo w (starEach [] X.env))) _ _ s;refine Calls.spliced_cons (Px (he g s U H W ρ _ I r h) λu J Py=>?_);obtain⟨v,o,d,x,L,e1,hd,t,f,ed,lk,QX,q⟩:=Py;subst ed;obtain⟨l,vs,ev,_,hq,hw⟩:=hd.Se;subst ev;cases L;refine wpAny_pure ?_;obtain⟨T,L,pl,_⟩:=x.list hq;have hh:=x.ok.hd hc;have lvs:vs.length=f.length:=by rw[hw.len,Pq]
 have l:T.length=f.length:=by rw[<- L.length,lvs]
 have G:∀(j:Nat) (k:yaf),f[j]?=some k->∃c:Addr,T[j]?=some (Value.ref c)/\Ql X.K o c (k.map V.int):=λj k hk=>by obtain⟨v,ev,hv⟩:=hw.get (i:=j) (d:=tupI k) (by rw[QZ,hk];rfl);obtain⟨c,rfl,hc⟩:=Oo hv;obtain⟨u,eu,ru⟩:=L.get ev;cases ru;exact⟨c,eu,hc⟩
 refine SW.call_set_list hh hu pl.isList (by rw[S8];lia) (λj=>f.getD j []) (λj v hj=>?_) λh2 A Y kp S yl yk yi=>?_
 have Uj:T[j]?=some v:=by simpa using hj
 have a:j<f.length:=by rw[<- l];exact(RQ.mp Uj).1
 obtain⟨c,E,O⟩:=G j f[j] (Qw a);rw[Uj]at E;cases E;rw[show f.getD j []=f[j]by simp[a]];exact⟨c,rfl,BN x O⟩;have I2:L2.Inv X g U o {J with heap:=h2,toks:=A}:=x.kept kp;refine wpAny_pure ?_;rw[S8]at yl yk yi;have m:∀k,k∈Y.map (·.1)↔k∈f:=λk=>by rw[yk k];constructor;rintro⟨j,a,e⟩;rw[l]at a;rw[e,show f.getD j []=f[j]by simp[a]];exact Uu a;intro hk;obtain⟨j,a,e⟩:=WD hk;exact⟨j,by rw[l];exact a,by rw[<- e];simp[a]⟩
 have den:∀y∈Y,Ql X.K o y.2 (y.1.map V.int):=λy N=>by
  obtain⟨j,a,n⟩:=yi y N;have b:T[j]?=some (.ref y.2):=by simpa using n
  rw[l]at a;obtain⟨c,E,O⟩:=G j f[j] (Qw a);rw[b]at E;cases E;have i:=BN I2 O;rw[(SW.TK X.prog X.w).inj (S.is_ y N) i];exact O
 refine SW.DH (s:={J with heap:=h2,toks:=A}) hh S (by lia) (λy N=>QX _ ((m _).mp (P6.mpr ⟨y,N,rfl⟩))) λB D i c Wv g1 g2 g3 le C sz hD=>?_
 have lz:i.length=Y.length:=C.length_eq;have es:B={J with heap:=B.heap,toks:=B.toks}:=by cases B;dsimp only at g1 g2 g3 ⊢;subst g1 g2 g3;rfl
 have t:J.heap.objs.size<=D:=by obtain⟨_,_,_,_,ho,_⟩:=S.ex;exact V7 (R7 (Qp ho) le)
 have nD:o D=none:=x.PW.fresh t;have I3:L2.Inv X g U (L2.upd o D (.lst (i.map λz=>V.ref z.2))) B:=by
  rw[es];refine x.laid (λb u e=>Wv b u (kp b u e)) t ⟨by rw[Pq,sizeLine_eq];lia,i.map λz=>Value.ref z.2,c,?_,hD⟩;clear C sz hD lz
  induction i with
  |nil=>exact .nil
  |cons z i ih=>exact .cons rfl ih
 have dz:aj X.K W.bad o ((i.map (·.1)).map tupI) (i.map λz=>V.ref z.2):=by
  have Sd:∀z∈i,Ql X.K o z.2 (z.1.map V.int):=λz t=>den z (C.mem_iff.mp t)
  clear C sz hD lz I3
  induction i with
  |nil=>exact rfl
  |cons z i ih =>
   refine aj.cons (Den.tup (Sd z T9) ?_) (ih λz t=>Sd z (R4 _ t));show aj X.K W.bad o (z.1.map PD.D.int) (z.1.map V.int);generalize z.1=k
   induction k with
   |nil=>exact rfl
   |cons n k b=>exact aj.cons (Den.int n) b
 have b:=Inv.kno I3 aJ;refine⟨D,_,_,_,rfl,I3,e1.trans (aw.upd nD),e1.free nD,b,aJ,aj.apart nD b dz,q _ ⟨?_,λk=>?_⟩⟩;exact zCh.mpr sz;rw[(C.map (·.1)).mem_iff];exact m k
theorem C9{K:yac}{P:yak}{H:Hp}:∀k:yaf,aj K P H (k.map PD.D.int) (k.map V.int)
 |[]=>rfl
 |n::k=>aj.cons (Den.int n) (C9 k)
end
end PD
namespace HT
open PySem PyProof.Rows
section
open PySem.SeqAt
open PySem.AutoSeq1 (wpAny_loadPart')
open PySem.MeetsSeq PySem.MeetsSeq2 PySem.MeetsSeq3
end
end HT
namespace PD
open PySem PySem.Spec PyProof.Rows L2
section
variable{X:Cx}{pos:Pos}
def JF (G:X.calm=true):fy X (.builtin "min") (λds Q=>∃(t:Bool) (ns:yaf),ds=[.lst t (ns.map D.int)]/\0<ns.length/\∀m,m∈ns->(∀n∈ns,m<=n)->Q (.int m)):=by
 intro k s O H W ds U Y Q I tr r E q;obtain⟨t,ns,e,h,q⟩:=q;subst e;obtain⟨v,rfl,J⟩:=mZ E;obtain⟨a,T,M,_,B,A⟩:=J.Se;subst M;cases r with
 |cons u p =>
  cases p;cases u;obtain⟨Pp,i,w,_⟩:=I.list B;rw[cc A]at i;have l:=intsAre_of i;obtain⟨b,o⟩:=l.allInts.items;have C:s.heap.IsList a (intItems b):=by rw[<- o];exact w.isList
  have d:ns=b.toList.map (·.1):=by rw[<- l.numsOf,<- nums_intItems,<- o]
  have f:0<b.size:=by rw[d,Pq,Tp]at h;exact h
  refine min_intList (I.ok.hd G) C f λy h' tk z x=>?_
  obtain⟨tt,rfl⟩:=intItems_at z;obtain⟨g1,L⟩:=argBest_lt (numAt b) (b.size - 1);have g:∀j,j<b.size->b.toList.map (·.1) ≠ []->numAt b j∈ns:=λj c _=>by
   rw[d,numAt_eq];have:(b.toList.map (·.1))[j]?=some ((b.toList.map (·.1)).getD j 0):=by simp[c]
   exact Rt this
  refine⟨.int _,H,_,I.kept x,⟨_,rfl⟩,aw.refl H,Den.int _,q _ (g _ (by omega) (by rw[<- d];exact Y2 h)) λn m=>?_⟩;rw[d]at m;obtain⟨j,c,N⟩:=WD m;have:numAt b j=n:=by rw[numAt_eq,<- N];simp only[Q2,Qw c,zDH]
  rw[<- this];rw[Pq,Tp]at c;exact L j (by omega)
end
end PD
namespace SW
open PySem PySem.SetTable ST PySem.W PyProof.Rows
section
variable{prog:Program}{w:World}{A:Around}{E:yaa}{s:Shared}
structure Pg(prog:Program)(w:World)(h:Heap)(a:Addr)(xs:List (Int×Tok)):Prop where
 ex:∃o es ep t,h.get? a=some o/\o.ExactSet/\o.data=.set es ep t/\es.toList=xs.map (λx=>((intKind prog w).hash x.1,Value.int x.1 x.2))/\Tab t (xs.map λx=>(intKind prog w).hash x.1)/\(t.plain=true/\t.led=!w.params.followText "set-order")/\7<=t.mask
 nd:(xs.map (·.1)).Nodup
theorem uj:∀ps:List (Int×Value),(∀p∈ps,∃t,p.2=Value.int p.1 t)->IntsAre (ps.map (·.2)) (ps.map (·.1))
 |[],_=>.nil
 |(k,v)::r,h=>by obtain⟨t,e⟩:=h (k,v) T9;have a:v=Value.int k t:=e;subst a;exact .cons _ _ (uj r λp b=>h p (by simp_all))
theorem zd:∀{vs:yad} {ns:yaf},IntsAre vs ns->∀p∈ns.zip vs,∃t,p.2=Value.int p.1 t
 |_,_,.nil,p,h=>by cases h
 |_,_,.cons _ _ r,p,h=>by
  rcases Qg.mp h with z|z;grind;exact zd r p z
def Df {vs:yad} {P:PySem.Fin->Shared->Prop} (e:s.heap.get? a=some (seqObj "list" vs.toArray n)) (h:IntsAre vs ns) (q:vs.length<64)
  (x:∀h' (c:yad) (d:yaf) i,IntsAre c d->d.Perm ns->d.Pairwise (·<=·)->(∀b o,b≠a->s.heap.get? b=some o->h'.get? b=some o)->h'.get? a=some (seqObj "list" c.toArray i)->P (.done (.ret .none)) {s with heap:=h'}):wpAny (model prog w) A (Builtin.«list.sort» ⟨[.ref a],[]⟩) P E s:=by
 have u:ns.length=vs.length:=h.length.symm;obtain⟨c,d⟩:∃c,(s.heap.update a (Obj.mapSeq λ_=>(#[]:yao))).get? a=some (seqObj "list" #[] c):=⟨_,get?_update_seq e λ_=>#[]⟩;rw[list_sort_plain];refine Pk (listItems_at e rfl ?_);refine Pk (listUpdate_at e rfl ?_ (by rw[S8,sizeLine_eq];lia) (RS _));refine Pk (seqEpoch_at d rfl ?_);refine Pk (wpAny_newTuple ?_ (by show vs.length<=_;rw[sizeLine_eq];lia));refine Pk (wpAny_newList ?_ (RS _));refine Ub ?_;have f:(((s.heap.update a (Obj.mapSeq λ_=>(#[]:yao))).push (seqObj "tuple" vs.toArray 0)).push (seqObj "list" #[] 0)).get? a=some (seqObj "list" #[] c):=QN _ (QN _ d);have Ru:∀b o,b≠a->s.heap.get? b=some o->(((s.heap.update a (Obj.mapSeq λ_=>(#[]:yao))).push (seqObj "tuple" vs.toArray 0)).push (seqObj "list" #[] 0)).get? b=some o:=λb o j e =>
  QN _ (QN _ ((WC _ _ (Ne.symm j)).trans e))
 generalize ((s.heap.update a (Obj.mapSeq λ_=>(#[]:yao))).push (seqObj "tuple" vs.toArray 0)).push (seqObj "list" #[] 0)=H at f Ru ⊢;have k:∀d:Array Keyed,d.Perm (vs.toArray.zip vs.toArray)->SortedTo d d.size->P (.done (.ret .none)) {s with heap:=H.update a (Obj.mapSeq λ_=>d.map (·.2))}:=λd g m=>by
  obtain⟨c,n,p,t⟩:=ksk_out (b:=false) (keys:=vs.toArray) (vs:=vs) (kz:=ns) h g m;have l:d.map (·.2)=List.toArray (c.map Prod.snd):=by have:(d.map (·.2)).toList=c.map Prod.snd:=p;rw[<- this,Array.toArray_toList]
  have r:=zd h;rw[l];obtain⟨i,d⟩:∃i,(H.update a (Obj.mapSeq λ_=>List.toArray (c.map Prod.snd))).get? a=some (seqObj "list" (List.toArray (c.map Prod.snd)) i):=⟨_,get?_update_seq f λ_=>List.toArray (c.map Prod.snd)⟩;refine x _ (c.map Prod.snd) (c.map Prod.fst) i (uj c λp a=>r p (n.mem_iff.mp a)) ?_ (zCh.mpr t) (λb o j e=>(WC _ _ (Ne.symm j)).trans (Ru b o j e)) d;have:=n.map Prod.fst;rw[zCr (Nat.le_of_eq u)]at this;exact this
 dsimp only;have b:(vs.toArray.zip vs.toArray).size=vs.length:=by rw[Array.size_zip,S8,Nat.min_self]
 by_cases a:vs.toArray.size<2;rw[Pt a,Pt a];refine Pk (wpAny_pure ?_);rw[StateT.run_pure];refine Pk (wpAny_pure ?_);dsimp only;refine Pk (seqEpoch_at f rfl ?_);refine Pk (listUpdate_at f rfl ?_ (hsz2:=by rw[Array.size_map];rw[b,sizeLine_eq];lia));simp only[bne_self_eq_false,VC,if_false];refine wpAny_pure (k (vs.toArray.zip vs.toArray) (Array.Perm.refl _) λi j RT c=>?_);rw[b]at c;rw[S8]at a;have:i=j:=by lia
 subst this;exact Uc _;rw[Po a,Po a];rw[S8]at a;rw[ksk_kind (keys:=vs.toArray) h (by rw[S8];lia)];refine Pk (wpAny_pure ?_);refine Pk (Tv (wpS_sortRuns (a₀:=vs.toArray.zip vs.toArray) (st:=SortSt.mk' oneType' (vs.toArray.zip vs.toArray) #[] 7 none)
  (Q:=λ_ a=>(arrOf a).Perm (vs.toArray.zip vs.toArray)/\failedOf a=none/\SortedTo (arrOf a) (vs.toArray.zip vs.toArray).size)
  (ksk_intKeys (keys:=vs.toArray) h) ⟨Array.Perm.refl _,rfl,rfl,rfl⟩ (by rw[b];lia) (by rw[b];exact q) λa h d c=>⟨h,d,c⟩) ?_ λ_ _ e=>e)
 rintro⟨⟨⟩,a⟩ y ⟨rfl,g,c,m⟩;dsimp only;refine Pk (seqEpoch_at f rfl ?_);refine Pk (listUpdate_at f rfl ?_ (RS _) (by rw[Array.size_map,g.size_eq,b,sizeLine_eq];lia));rw[c];simp;exact wpAny_pure (k (arrOf a) g (by rw[g.size_eq];exact m))
end
end SW
namespace PD
open PySem PySem.Spec PyProof.Rows L2
section
variable{X:Cx}{pos:Pos}
theorem gS:∀{a:yad} {b:yaf},IntsAre a b->Vals (b.map V.int) a
 |_,_,.nil=>.nil
 |_,_,.cons n t r=>.cons ⟨t,rfl⟩ (gS r)
theorem tR{K:yac}{P:yak}{H:Hp}:∀a:yaf,aj K P H (a.map D.int) (a.map V.int)
 |[]=>rfl
 |n::a=>aj.cons (Den.int n) (tR a)
end
section
variable{X:Cx}
inductive BDQ (X:Cx) (pins:yab) (P:yak) (Q:D->Prop) (f:Flow) (s1:Shared):Prop
 |mk (u:Value) (v:V) (d:D) (PC:St) (H':Hp) (_:f=.ret u) (_:Inv X pins PC H' s1) (_:RelV v u) (_:aw X.Qj H') (_:Den X.K P H' d v) (_:Q d)
abbrev BDP(X:Cx)(pins:yab)(W:Own)(Q:D->Prop):Flow->Shared->Prop:=BDQ X pins (λt a=>W.B a∨(t=true/\W.S a)) Q
abbrev DB:=(D->Prop)->Ro->Prop
def Ww(X:Cx)(d:yal)(t:DB):Prop :=
 ∀ (b:yab) (s:Shared) (a:St) (H:Hp) (W:Own) (c:Ro) (Q:D->Prop),Inv X b a H s->Rel X W H a c->(∀a o,X.Qj a=some o->W.S a)->t Q c →
  wpAny (model X.prog X.w) X.A (execs d X.env) (BDP X b W Q) X.xe s
theorem Qk.ent(f:Qk W H W' H')(r:Rel X W H σ ρ):aw X.Qj H' where
 kp:=λb o e n=>f.kp b o (λi z=>by have:=r.ke i b z;lia) (r.ent.kp b o e n) n
 tb:=λb a e=>by obtain⟨g,c⟩:=r.ent.tb b a e;obtain⟨d,h⟩:=f.tb b _ c;grind
 ok:=λk=>f.ok (r.ent.ok k)
def yM{K:yac}{W b:Own}{H H':Hp}{d:D}{v:V}(f:Qk W H b H')(h:Den K b.bad H' d v):Den K (λt a=>W.B a∨(t=true/\W.S a)) H' d v:=h.P4 λt a z=>by
 rcases z with z|z;exact .inl (by rw[f.B];exact z);exact .inr (.inr ⟨z.1,by rw[f.S];exact z.2⟩)
def EC(t:DS)(u:DB):DB:=λQ a=>t {nx:=u Q,rt:=Q} a
def kh{st:Stmt}{rest:yal}{t:DS}{u:DB}(e:Sf X st t)(j:Ww X rest u):Ww X (st::rest) (EC t u):=by
 intro a s b H W c Q I r d h;refine XR (Px (e a s b H W c _ I r h) λf c e=>?_);obtain⟨k,g,i,h,b,q⟩:=e;cases f with
 |next =>
  obtain⟨f,e,q⟩:=q;refine Px (j a c g i k f Q h e (by rw[b.S];exact d) q) λo n ⟨w,v,d,k,m,e,l,c,j,a,f⟩=>⟨w,v,d,k,m,e,l,c,j,?_,f⟩
  rw[b.B,b.S]at a;exact a
 |ret w =>
  obtain⟨v,d,c,a,f⟩:=q;exact⟨w,v,d,g,i,rfl,h,c,b.ent r,yM b a,f⟩
 |brk=>obtain⟨_,_,q⟩:=q;exact q.elim
 |cont=>obtain⟨_,_,q⟩:=q;exact q.elim
def IY(t:DS):DB:=λQ a=>t {nx:=λ_=>False,rt:=Q} a
def LD{st:Stmt}{t:DS}(d:Sf X st t):Ww X [st] (IY t):=by
 intro a s b H W c Q I r k h;refine XR (Px (d a s b H W c _ I r h) λf j b=>?_);obtain⟨W',g,i,h,a,q⟩:=b;cases f with
 |next=>obtain⟨_,_,q⟩:=q;exact q.elim
 |ret w =>
  obtain⟨v,d,b,e,c⟩:=q;exact⟨w,v,d,g,i,rfl,h,b,a.ent r,yM a e,c⟩
 |brk=>obtain⟨_,_,q⟩:=q;exact q.elim
 |cont=>obtain⟨_,_,q⟩:=q;exact q.elim
def N4(X:Cx)(t:DB):TS:=λD a H=>∃W b Q,Rel X W H a b/\(∀a o,X.Qj a=some o->W.S a)/\t Q b/\∀b v d,aw X.Qj b->Den X.K (λt a=>W.B a∨(t=true/\W.S a)) b d v->Q d->D.rt v b
def Ww.ps(h:Ww X ss t):ZU X ss (N4 X t):=by
 intro a s b H D I q;obtain⟨W,c,Q,r,d,e,k⟩:=q;refine Px (h a s b H W c Q I r d e) λf l h=>?_
 obtain⟨u,v,d,i,a,e,j,c,b,g,f⟩:=h;subst e;exact⟨v,i,a,j,c,k a v d b g f⟩
theorem Ww.XZ(h:Ww X.XZ ss t):Ww X ss t:=λa s b H W c Q I r d e =>
 Tv (h a s b H W c Q (I.wish _) (r.wish _) d e) (λ_ _ f=>(by obtain⟨u,v,d,g,i,e,h,a,b,c,q⟩:=f;exact⟨u,v,d,g,i,e,h.Q3,a,b,c,q⟩)) λ_ _ z=>False.elim z
end
section
variable{P:Program}{w:World}{K:yac}{mg:yam}{base:Heap}
def aD.okB{x a:Str}{st:Stmt}{f:Addr}{d:FuncData}{N ps:yah}{k:Nat}{sp:DSp}(F:aD K x a st f d)(S:aE N ps (ak st))(c:∀ds Q E,sp ds Q E->ds.length=ps.length)
  (m:∀(b:Value) (A:Around) (outer:List Env) (s:Shared) (H:Hp) (E:XK),b6 k (A.deeper (envOfC a (ak st) s.heap.objs.size f b)) →
   ∃ t,Ww (dA (CX1 P w) P w K mg base N a (ak st) f b A outer s H E).XZ (cY st) t/\∀ds Q Ed,sp ds Q Ed->t Q (di N ds)):aK P w K mg base (CX1 P w) (k+1) f d ps (aM K sp):=by
 obtain⟨u,r,z,kV,l,p,C,b,B,X1,rfl,lk,a⟩:=F.ex;refine I0 lk a S (λa H Q E h=>?_) λA outer s H a Q E g h=>?_
 obtain⟨_,ds,_,_,_,_,e,d,_⟩:=h;rw[e.len];exact c ds _ _ d;obtain⟨n,ds,c,Ed,i,j,e,d,f,y⟩:=h;obtain⟨t,a,k⟩:=m b A outer s H E g;refine⟨_,a.XZ.ps,⟨n,λ_=>none,λa=>∃o,H a=some o⟩,_,c,Rel.start j e rfl i,λa o e=>⟨o,e⟩,k ds c Ed d,λc v d a b q=>?_⟩;exact f d v c a b q
end
section
variable{X:Cx}
def Rel.forget(r:Rel X W H σ ρ)(i:Nat):Rel X W H σ (ρ.set i none) where
 val:=λj d h=>by
  by_cases e:j=i
  ·subst e;by_cases l:j<ρ.length
   all_goals simp_all
  rw[Sq (Ne.symm e)]at h;exact r.val j d h
 own:=λj d h=>by
  by_cases e:j=i
  ·subst e;by_cases l:j<ρ.length
   all_goals simp_all
  rw[Sq (Ne.symm e)]at h;exact r.own j d h
 inj:=r.inj
 kn:=r.kn
 ke:=r.ke
 bt:=r.bt
 st:=r.st
 ent:=r.ent
 tab:=r.tab
def Rel.apart{H':Hp}{Z:Addr->Prop}(r:Rel X W H σ ρ)(g:∀a,¬Z a->H' a=H a)(l:∀a,Z a->∃h o,H a=some (.lst h)/\H' a=some (.lst o))(p:∀i a,W.O i=some a->¬Z a)
  (A:∀(j:Nat) (d:D) (v:V),ρ[j]?=some (some (Sl.val d))->σ[j]?=some (some v)->Den X.K W.bad H d v->Den X.K (λt a=>W.bad t a∨Z a) H d v)
  (B:∀(j:Nat) (x:OS),ρ[j]?=some (some (Sl.ob x))->∃f,x=OS.lst f/\dO f=true) (m:aw X.Qj H') (k:jE X.K H'):Rel X W H' σ ρ:=by
 have y:∀c e,Ql X.K H c e->Ql X.K H' c e:=λc e q=>q.imp (λq=>by rw[g c λz=>by obtain⟨h,_,b,_⟩:=l c z;rw[b]at q;cases q];exact q) id
 have s:∀c u,Xl u->H c=some u->H' c=some u:=λc u n q=>by rw[g c λz=>by obtain⟨h,_,b,_⟩:=l c z;rw[b]at q;cases q;exact n];exact q
 have w:∀t c e,¬(W.bad t c∨Z c)->RU X.K H t c e->¬W.bad t c/\RU X.K H' t c e:=λt c e n q=>by
  have e:=g c λz=>n (.inr z)
  refine⟨λz=>n (.inl z),?_,λz=>⟨by rw[e];exact(q.2 z).1,(q.2 z).2⟩⟩;rcases q.1 with(q|⟨u,q⟩)|q;exact .inl (.inl (by rw[e];exact q));exact .inl (.inr ⟨u,by rw[e];exact q⟩);exact .inr q
 have i:∀c u,H c=some u->∃e,H' c=some e:=λc u q=>by by_cases z:Z c;obtain⟨_,o,_,e⟩:=l c z;exact⟨_,e⟩;exact⟨u,by rw[g c z];exact q⟩
 refine⟨λj d h=>?_,λj x h=>?_,r.inj,λj a h=>?_,r.ke,λa h=>let ⟨u,q⟩:=r.bt a h;i a u q,λa h=>let ⟨u,q⟩:=r.st a h;i a u q,m,k⟩;obtain⟨v,b,e⟩:=r.val j d h;exact⟨v,b,Den.map y w s d v (A j d v h b e)⟩;obtain⟨f,rfl,d⟩:=B j x h;obtain⟨a,c,b,e,k,i⟩:=r.pN j f h;refine⟨a,.lst c,b,e,by rw[g a (p j a b)];exact k,.lst ?_⟩;exact aj.map y w s f c (aj.Wu f c d i);obtain⟨e,d,o,c,b⟩:=r.kn j a h;exact⟨e,d,o,by rw[g a (p j a h)];exact c,b⟩
end
def FL(K:yac)(x:Str)(st:Stmt):Prop:=∃(f:Addr) (e:Value) (d:Option Addr) (kV g c:Value) (i:Option Addr) (a h:Value) (b:Array (yan)),
 PySem.W.nsIn K mainGlobals x=some (some (.ref f))/\K.lookup f=some ⟨e,d,.func (PySem.W.fnOf x x (fE st) (cY st) (ak st) .none kV g c i a h),b⟩/\PySem.W.codeIn K a x=true/\PySem.W.keepIn K (.ref f)=true
def FL.mk{K:yac}{x:Str}{st:Stmt}{f:Addr}{j:Value}{i:Option Addr}{kV k h:Value}{m:Option Addr}{e l:Value}{g:Array (yan)}(a:PySem.W.nsIn K mainGlobals x=some (some (.ref f)))
  (b:K.lookup f=some ⟨j,i,.func (PySem.W.fnOf x x (fE st) (cY st) (ak st) .none kV k h m e l),g⟩) (c:PySem.W.codeIn K e x=true) (d:PySem.W.keepIn K (.ref f)=true):FL K x st:=⟨f,j,i,kV,k,h,m,e,l,g,a,b,c,d⟩
def ON{c:Type}:∀{b:List c},b.length=1->∃a,b=[a]
 |[a],_=>⟨a,rfl⟩
def OO{d:Type}:∀{c:List d},c.length=2->∃a b,c=[a,b]
 |[a,b],_=>⟨a,b,rfl⟩
def OP{e:Type}:∀{d:List e},d.length=3->∃a b c,d=[a,b,c]
 |[a,b,c],_=>⟨a,b,c,rfl⟩
def OQ{f:Type}:∀{e:List f},e.length=4->∃a b c d,e=[a,b,c,d]
 |[a,b,c,d],_=>by lia
def OR{g:Type}:∀{f:List g},f.length=5->∃a b c d e,f=[a,b,c,d,e]
 |[a,b,c,d,e],_=>by lia
def FL.has{K:yac}{x:Str}{st:Stmt}{h:Heap}{c:yam}{k:Nat}{ps:yah}{sp:DSp}(e:FL K x st)(P:Program)(w:World)(base:Heap)(X:K.In h)(G:h.Ns mainGlobals c)
  (n:∀{f:Addr} {g:FuncData},aD K x x st f g->aK P w K c base (CX1 P w) k f g ps (aM K sp))
  (r:∀(kV i d:Value) (m:Option Addr) (l j:Value) (b:yad),b.length=ps.length->bindArgs (PySem.W.fnOf x x (fE st) (cY st) (ak st) .none kV i d m l j) ⟨b,[]⟩=pure (ps.zip b):=by
   intro _ _ _ _ _ _ b a
   first
    |(obtain⟨_,rfl⟩:=ON a;rfl)
    |(obtain⟨_,_,rfl⟩:=OO a;rfl)
    |(obtain⟨_,_,_,rfl⟩:=OP a;rfl)
    |(obtain⟨_,_,_,_,rfl⟩:=OQ a;rfl)
    |(obtain⟨_,_,_,_,_,rfl⟩:=OR a;rfl)
    |(cases zC4 a;rfl)):QG P w K c base x k ps sp:=by
 obtain⟨f,q,p,kV,i,d,m,l,j,o,a,b,c,d⟩:=e;exact⟨f,_,n (BI b c d),PySem.W.mg_of X G a,d,.all (by simp_all)⟩
section
variable{X:Cx}
def yI(i:Nat)(t:DB):DB:=λQ a=>t Q (a.set i none)
def Eg(i:Nat)(h:Ww X ss t):Ww X ss (yI i t):=λa s b H W e Q I r c d=>h a s b H W _ Q I (r.forget i) c d
end
end PD
namespace HT
open PySem PyProof.Rows
section
open PySem.SeqAt
open PySem.AutoSeq1 (wpAny_loadPart')
open PySem.MeetsSeq PySem.MeetsSeq2 PySem.MeetsSeq3
end
end HT
namespace PD
open PySem PySem.Spec PyProof.Rows L2 PZ
def ESt(e b l:Addr)(i:Nat)(h:Heap):Prop:=(∃a,IsEnum h e b (i:Int) a)/\h.IsListIter b l i
def Ite(K:yac)(a:Addr):It :=
 ⟨λi H=>∃b x,SqL K H a b/\b[i]?=some x,
  λi H v c=>∃T x,v=.ref T/\H T=none/\c=L2.upd H T (.tup [.int (i:Int),x])/\∀b,SqL K H a b->b[i]?=some x,
  λi H=>∃b,SqL K H a b/\b[i]?=none⟩
def F9{P:Program}{w:World}{K:yac}{es:yai}{c:Nat}{b:Pos}(a e d:Addr)(D:e≠d) :
  Turn P w K (.Tuple es c b) (Ite K a) [e,d] e (λi h=>ESt e d a i h) where
 mem:=by simp
 obj:=λi h st c b=>by
  obtain⟨⟨f,l⟩,g⟩:=st;simp only[Qg,Uw,or_false]at b;rcases b with q|q<;>subst q;exact⟨_,l,λv q=>by cases q⟩;obtain⟨o,j,_,k⟩:=g;exact⟨o,j,λv q=>by rw[k]at q;cases q⟩
 keep:=λi h h' st y=>by obtain⟨⟨f,l⟩,g⟩:=st;obtain⟨o,j,r⟩:=g;exact⟨⟨f,y e (by simp) _ l⟩,o,y d (by simp) _ j,r⟩
 item:=by
  intro X O J Q b i A s σ H E I t st N;subst O J Q;obtain⟨xs,x,j,M⟩:=N;obtain⟨us,B,G⟩:=UC.list (k:=true) I j;obtain⟨u,g,ru⟩:=B.get M;obtain⟨⟨f,l⟩,p⟩:=st;refine wpAny_pyNext_enum_item l p G (x:=u) (by simpa using g) D λh' g C z sz' y=>⟨_,rfl,wpAny_letOwnedTupleGo_enum g λm U sb=>?_⟩
  have g:s.heap.objs.size<=s.heap.objs.size:=Qu _;have L:s.heap.objs.size≠e:=Vw (Qp l);obtain⟨oi,n,ri⟩:=id p;have T:s.heap.objs.size≠d:=Vw (Qp n);have w:H s.heap.objs.size=none:=I.PW.fresh g;have g:∀c o,c ∉ [e,d]->s.heap.get? c=some o->m.get? c=some o:=λc o n q=>by simp at n;exact sb.extBut c o n.1 (y c o n.1 n.2 q)
  have Y:ESt e d a (i+1) m:=by
   refine⟨⟨u,?_⟩,?_⟩;have:((i+1:Nat):Int)=(i:Int)+1:=by lia
   rw[this];exact U;obtain⟨o,j,r⟩:=C;exact⟨o,sb.extBut _ o (Ne.symm D) j,r⟩
  have C:m.get? s.heap.objs.size=some {cls:=.type "tuple", data:=.seq #[.int i s.toks,u]}:=sb.extBut _ _ L z;have lo:∀c ∈ [e,d],c≠s.heap.objs.size:=λc b=>by
   simp only[Qg,Uw,or_false]at b;rcases b with q|q<;>subst q;exact Ne.symm L;exact Ne.symm T
  refine⟨.ref s.heap.objs.size,L2.upd H s.heap.objs.size (.tup [.int (i:Int),x]),?_,rfl,⟨_,x,rfl,w,rfl,λxs' q=>by rw[I.TL q j];exact M⟩,Y,λc b=>by rw[aC (lo c b)];exact(t c b).1⟩;have x:∀c o,H c=some o->c ∉ [e,d]:=λc o q b=>by have:=(t c b).1;rw[q]at this;cases this
  refine L2.Inv.step (s:=s) (h':=m) (g':=s.gens) (d':=s.drawn) (t':=s.toks+1) (ch:=[e,d]) I (λc b=>?_) (λc o _ _ n q _=>g c o n q) (λc o _ _ n q _=>⟨o.slots,g c o n q⟩) (λc o _ q n=>by rw[aC (QU (Qp q))];exact n) (λc o n q=>⟨o,g c o n q⟩)
   (λc ls q=>by rw[aC (aT q w)];exact q) (λc o ls q=>by rw[aC (aT q w)];exact q) (λc ps q=>⟨#[],by rw[aC (aT q w),q];simp⟩) (λm M=>?_) (λc o q=>?_) I.bare
  obtain⟨f0,f1,f2,Y,U,T⟩:=t c b;exact⟨Y,f1,U,T⟩;obtain⟨o,To,ep,L,r⟩:=M;exact⟨o,To,ep,g _ o (λq=>(t _ q).2.1 rfl) L,r⟩;by_cases a:c=s.heap.objs.size;subst a;rw[aJ]at q;cases q;exact⟨by rw[sizeLine_eq];show 2<=16777216;decide,[.int i s.toks,u],.cons ⟨_,rfl⟩ (.cons ru .nil),⟨_,C,rfl,_,rfl⟩⟩;rw[aC a]at q;refine(I.PW c o q).S9 (λd' a u z=>g d' a ?_ z) (λd' z=>by rw[aC (aT z w)];exact z) λd' ls z=>by rw[aC (aT z w)];exact z
  rcases u with q'|q';rw[q'];exact x c o q;exact x d' _ q'
 done:=by
  intro X O J Q b i A s σ H E I t st N;subst O J Q;obtain⟨xs,j,i⟩:=N;obtain⟨us,B,G⟩:=UC.list (k:=true) I j;obtain⟨⟨f,l⟩,p⟩:=st;refine wpAny_pyNext_enum_end (I.ok.hd b) l p G (by simpa using B.none_of i) λh' y=>⟨rfl,?_⟩
  have g:∀c o,c ∉ [e,d]->s.heap.get? c=some o->h'.get? c=some o:=λc o n q=>by simp at n;exact y c o n.2 q
  have x:∀c o,H c=some o->c ∉ [e,d]:=λc o q b=>by have:=(t c b).1;rw[q]at this;cases this
  refine L2.Inv.step (s:=s) (h':=h') (g':=s.gens) (d':=s.drawn) (t':=s.toks) (ch:=[e,d]) I (λc b=>?_) (λc o _ _ n q _=>g c o n q) (λc o _ _ n q _=>⟨o.slots,g c o n q⟩) (λ_ _ _ _ n=>n) (λc o n q=>⟨o,g c o n q⟩) (λ_ _ q=>q) (λ_ _ _ q=>q) (λc ps q=>⟨#[],by rw[q];simp⟩) (λm M=>?_) (λc o q=>?_) I.bare;obtain⟨f0,f1,f2,Y,U,T⟩:=t c b;exact⟨Y,f1,U,T⟩;obtain⟨o,To,ep,L,r⟩:=M;exact⟨o,To,ep,g _ o (λq=>(t _ q).2.1 rfl) L,r⟩;refine(I.PW c o q).S9 (λd' a u z=>g d' a ?_ z) (λ_ z=>z) λ_ _ z=>z
  rcases u with q'|q';rw[q'];exact x c o q;exact x d' _ q'
 self:=λ_ _ _ _ _ st h=>by obtain⟨⟨f,l⟩,_⟩:=st;exact wpAny_pyIter_enum l h
section
variable{X:Cx}
def nr:Nat->yas->yas
 |_,[]=>[]
 |n,d::r=>.tup [.int (n:Int),d]::nr (n+1) r
theorem pG:∀(n:Nat) (ds:yas),(nr n ds).length=ds.length
 |_,[]=>rfl
 |n,d::r=>by rw[nr,SQ,pG (n+1) r,SQ]
theorem pF:∀(n:Nat) (ds:yas) (i:Nat) (d:D),ds[i]?=some d->(nr n ds)[i]?=some (.tup [.int ((n+i:Nat):Int),d])
 |_,[],_,_,h=>by cases h
 |n,x::r,0,d,h=>by
  cases h;rfl
 |n,x::r,i+1,d,h=>by
  rw[nr,List.getElem?_cons_succ,pF (n+1) r i d h]
  lia
def IM(b:DA):DA:=λa R=>b a λb=>∃t a,b=[.lst t a]/\R (nr 0 a)
def J2 {es:yai} {d:Nat} {c:Pos} {a:Expr} {b:DA} {p pos:Pos} (f:Gl X "enumerate") (e:X.mg "enumerate" = none) (g:Uo X [a] b) (hs:starEach [a] X.env=(false,eval a X.env)::starEach [] X.env:=by rfl) (i:(backTo pos (starEach [] X.env)).any (·.1)=false:=by rfl) :
  VQ X (.Tuple es d c) (.Call (.Name "enumerate" p) [a] [] pos) (IM b):=by
 intro a s b H W c R I r h;refine Call_ (cE I f e boot_enumerate (PyProof.Rows.callWith_type1 (Px (g pos a s b H W c _ I r h) λz a b=>?_) hs i));obtain⟨u,p,ds,d,g,m,f,c⟩:=b;obtain⟨t,b,e,q⟩:=c;subst e;obtain⟨w,B,rfl,k,rfl⟩:=f;obtain⟨l,f,i,c,h,o⟩:=k.seq (k:=true) (ds:=b) rfl;subst i;cases g with
 |cons i g =>
  cases g;cases i;obtain⟨n,_,g⟩:=UC.list (k:=true) d c;refine call_enumerate_list g λG c i A g=>?_
  refine wpAny_pyIter_enum c ?_;refine⟨a.heap.objs.size+1,[a.heap.objs.size+1,a.heap.objs.size],_,_,p,_,rfl,d.kept (t':=a.toks) g,m,F9 l _ _ (by simp),⟨⟨_,c⟩,i⟩,λc E=>?_,?_,q⟩;have g:a.heap.objs.size<=c:=by grind
  exact d.Xf g (d.PW.fresh g);intro d a k m p i;have c:SqL X.K a l f:=o d a k m;have C:=h.len;have j:=pG 0 b;refine⟨λd=>?_,λv H3 y d=>?_,λd=>⟨f,c,by grind⟩⟩;obtain⟨x,g,_⟩:=h.get (i:=i) (d:=b[i]'(by lia)) (by simp);exact⟨f,x,c,g⟩;obtain⟨T,x,e,l,d,g⟩:=y;subst e d;obtain⟨d,o,e⟩:=h.bJ (g f c);have c:aw a (L2.upd a T (.tup [.int (i:Int),x])):=aw.upd l;refine⟨c,.tup [.int (i:Int),d],by rw[pF 0 b i d o,V8],Den.tup (Ql.of aJ) (aj.cons (Den.int _) (aj.one ((Den.map k m p d x e).same c)))⟩
end
open PySem PySem.Spec PyProof.Rows L2
section
variable{X:Cx}
def PSV(X:Cx)(st:Stmt)(i:Nat)(t:DE):Prop :=
 ∀ (a:yab) (s:Shared) (b:St) (H:Hp) (W:Own) (c:Ro) (Q:D->Prop),Inv X a b H s->Rel X W H b c->t c Q →
  wpAny (model X.prog X.w) X.A (exec st X.env) (λf e=>f=.next/\∃v c d,Inv X a (b.set i (some v)) c e/\aw H c/\Den X.K W.bad c d v/\Q d) X.xe s
def Nw{K:yac}{H:Hp}{a:Addr}{vs b:yar}(q:SqL K H a vs)(h:H a=some (.lst b))(k:K.lookup a=none):vs=b:=by
 rcases q with(q|⟨u,q⟩)|⟨o,Pp,n,q,_⟩
 all_goals lia
end
end PD
namespace SW
open PySem PySem.SetTable ST PySem.W PyProof.Rows L2
section
variable{prog:Program}{w:World}{A:Around}{E:yaa}{s:Shared}
theorem r9:∀{vs:yad} {ns:yaf},vs.length=ns.length->(∀(j:Nat) (v:Value),vs[j]?=some v->∃n t,ns[j]?=some n/\v=Value.int n t)->IntsAre vs ns
 |[],[],_,_=>.nil
 |v::vs,n::ns,h,k=>by obtain⟨m,t,e,a⟩:=k 0 v rfl;cases(show n=m from Uy e);subst a;exact .cons n t (r9 (Nat.succ.inj h) λj u a=>k (j+1) u a)
def Ae{a:Addr}{ks:yaf}{Q:yaa}(i:A.handled=none)(j:(a==sysModules)=false)(dd:s.heap.DictOf (bZ prog w) a kvs)(n:kvs.map (·.1)=ks.map Sum.inl)(z:ks.length<64)
  (u:∀(d:Heap) (l:Nat) s' (f:yad) (g:yaf) c,(∀b o,s.heap.get? b=some o->d.get? b=some o)->(∀b o,d.get? b=some o->s'.heap.get? b=some o)->s'.gens=s.gens->s'.drawn=s.drawn->s'.os=s.os->IntsAre f g->g.Perm ks->g.Pairwise (·<·) →
   s'.heap.get? d.objs.size=some (seqObj "list" f.toArray c)->Q (.ref d.objs.size) s'):wpAny (model prog w) A (call (.builtin "sorted") [.ref a]) Q E s:=by
 obtain⟨o,q,ep,e,c,a,p,k,h⟩:=dd;have lk:kvs.length=ks.length:=by have:=congrArg List.length n;simpa using this
 refine Calls.call_function_entry kind_sorted plain_sorted entry_sorted (args_sorted1 _) ?_;refine Pk (m:=checkCount "sorted" 1 1 _) (wpAny_pure ?_);refine Pk (PySem.W.kdu_collect (PySem.W.kdl_dict (knd:=bZ prog w) (kvs:=kvs) (ep:=ep) j) (show A.in1.handled=none from i) ⟨o,q,e,c,a,p,k,h⟩ (by rw[sizeLine_eq];lia) λd l a p c=>?_);have m:a.toList.length=ks.length:=by rw[Tp,c.1,lk]
 have r:IntsAre a.toList ks:=r9 m λj v i=>by
  obtain⟨k,x,e,q⟩:=c.2 j v (by simpa using i);have G:(kvs.map (·.1))[j]?=some k:=by rw[QZ,e];rfl
  rcases b9 (show nE k v=true from q)with⟨i,t,c,C⟩| ⟨y,t,c,_⟩
  all_goals simp_all
 have c:ks.Nodup:=by rw[n]at h;exact(zCh.mp h).imp λh e=>h (by rw[e])
 refine Pk (wpAny_newList ?_ (by rw[m,sizeLine_eq];lia));have h:(d.push (seqObj "list" a.toList.toArray 0)).get? d.objs.size=some (seqObj "list" a.toList.toArray 0):=Sv _ rfl;have m:∀b o,d.get? b=some o->(d.push (seqObj "list" a.toList.toArray 0)).get? b=some o:=λb o e=>QN _ e
 refine Pk (Ub (Wj slot_list_sort ⟨_,h,rfl⟩ entry_list_sort ?body (args_list_sort _)))
 case body =>
  refine Df (s:={s with heap:=d.push (seqObj "list" a.toList.toArray 0),toks:=l}) h r (by lia) λB f g k i a h Ru j=>?_
  refine⟨_,rfl,wpAny_pure ⟨_,rfl,u d l _ f g k p (λb o e=>?_) rfl rfl rfl i a ?_ j⟩⟩;exact Ru b o (QU (Qp e)) (m b o e);have b:g.Nodup:=a.nodup_iff.mpr c;exact(h.and b).imp fun {x y} q=>by lia
end
end SW
namespace PD
open PySem PySem.Spec PyProof.Rows L2
section
variable{X:Cx}{pos:Pos}
def Bq(i:Nat):DS:=λE a=>E.nx (a.set i (some (.ob (.dk []))))
def EH{x:Str}(i:Nat)(g:X.N.Nodup)(d:X.N[i]?=some x:=by rfl)(e:Loc X.env.scope x:=by first|exact Or.inl rfl|exact Or.inr rfl)(hs:swapsWith (.Dict [] [] dpos) (some (.Name x pos')) pos.line X.env=pure false:=by rfl)
  (f:X.fn x=true∨X.env.scope.names.lookup x=some .local:=by first|exact .inl rfl|exact .inr rfl|assumption):Sf X (.Assign [.Name x pos'] (.Dict [] [] dpos) pos) (Bq i):=by
 intro b s j H W k E I r q;have c:=I.PW.fresh (Qu s.heap.objs.size);have h:=I.laid (a:=s.heap.objs.size) (o:=.dK []) (h':=s.heap.push {cls:=.type "dict", data:=.dict #[]}) (t':=s.toks) (λ_ _ q=>QN _ q) (Qu _) (Hb s.heap I.big);refine zC7 (wpAny_Dict_empty ?_) hs;have a:=r.putG (x:=.dk []) (Inv.Vb I d) (H':=L2.upd H s.heap.objs.size (.dK [])) (aw.upd c) c (Inv.Sg I) aJ (.dk rfl aj.nil);exact c8 (v:=.ref s.heap.objs.size) h g d e rfl (λl c=>⟨_,_,_,c,a.2,_,a.1,q⟩) f
def IU(i:Nat)(b te:DE):DS:=λE c=>∃a,c[i]?=some (some (.ob (.dk a)))/\te c λd=>b c λk=>∃b:Key,k=Ht b/\a.length<sizeLine/\E.nx (c.set i (some (.ob (.dk (putD a b d)))))
def JN {x:Str} (i:Nat) (c:X.A.units+1<cLine) (f:P5 X b tb) (d:P5 X e te) (g:X.N[i]?=some x:=by rfl) (a:WM X.env.scope x:=by first|exact Or.inl rfl|exact Or.inr (Or.inl rfl)|exact Or.inr (Or.inr rfl)) (j:(x==("__debug__" : Str))=false:=by decide)
  (h:(x==("__classdict__" : Str))=false:=by decide) (hs:swapsWith e (some (.Subscript (.Name x px) b tpos)) pos.line X.env=pure false:=by rfl):Sf X (.Assign [.Subscript (.Name x px) b tpos] e pos) (IU i tb te):=by
 refine Sf.of (KD c (fg g a j h) f.pe d.pe hs) λt H W c E r y h=>?_
 obtain⟨p,l,h⟩:=h;obtain⟨a,b,n,i,k,m,s⟩:=r.ownK l;refine⟨W,c,_,r,h,λv H1 d d j q=>⟨.ref a,i,W,c,_,r.same d,q,λu H2 A c g e=>?_⟩⟩;obtain⟨f,rfl,w,e⟩:=e;have z:=Bw g;subst z;have o:b.length<sizeLine:=by have:=congrArg List.length m;simp at this;lia
 have b:=c _ _ (d _ _ k);obtain⟨h,g⟩:=KH (k:=f) m (s.same (d.trans c)) (j.same c);obtain⟨f,j⟩:=((r.same d).same c).mutG l n i b True.intro (.dk h g);exact⟨a,_,rfl,xQ.k b o,W,_,(Qk.same (d.trans c)).trans j,f,e⟩
def IL(i:Nat)(tb c:DE):DE:=λb Q=>∃a,b[i]?=some (some (.ob (.dk a)))/\tb b λk=>c b λz=>∃b:Key,k=Ht b/\Q ((dN a b).getD z)
def JL {x:Str} {a:Pos} (i:Nat) (d:X.A.units+1<cLine) (g:P5 X b tb) (e:P5 X f tf) (h:X.N[i]?=some x:=by rfl) (c:WM X.env.scope x:=by first|exact Or.inl rfl|exact Or.inr (Or.inl rfl)|exact Or.inr (Or.inr rfl)) (j:(x==("__debug__" : Str))=false:=by decide)
  (k:(x==("__classdict__" : Str))=false:=by decide) (m:M2 X (.Name x px) "get" a b f pos:=by exact⟨rfl,rfl,rfl,rfl⟩):P5 X (.Call (.Attribute (.Name x px) "get" a) [b,f] [] pos) (IL i tb tf):=by
 refine P5.of (HN d (fg h c j k) g.pe e.pe m) λn H W f Q r h=>?_
 obtain⟨g,d,h⟩:=h;obtain⟨a,b,s,c,k,e,m⟩:=r.ownK d;refine⟨.ref a,c,a,rfl,.inl ⟨b,.inl k⟩,W,f,_,r,h,λv H1 d c j q=>⟨W,f,_,r.same c,q,λo H2 t i h f=>?_⟩⟩;obtain⟨a,rfl,f⟩:=f;have z:=Bw j;subst z;refine⟨eI b a,oS.k (i _ _ (c _ _ k)),c.trans i,_,?_,f⟩;cases l:dN g a with
 |none=>rw[zH e m l];exact h
 |some d =>
  obtain⟨p,b,a⟩:=vt e m l;rw[b];exact a.same (c.trans i)
theorem Gn{a b:Type}:∀{ks:List a} {kvs:List (a×b)},kvs.map (·.1)=ks->kvs=ks.zip (kvs.map (·.2))
 |[],[],_=>rfl
 |k::ks,p::r,h=>by have c:=Gn (List.cons.inj h).2;grind
def Rel.YU{i:Nat}{ks:yaf}{ds:yas}(r:Rel X W H σ ρ)(b:ds.length=ks.length)(e:ρ[i]?=some (some (.ob (.dk ((ks.map Sum.inl).zip ds))))) :
  ∃ a kws,H a=some (.dK kws)/\∀ob,Rel X (W.drop i) (L2.upd H a (.frz ob (.dK kws))) σ (ρ.set i (some (.val (.S6 ks ds))))/\Qk W H (W.drop i) (L2.upd H a (.frz ob (.dK kws))):=by
 obtain⟨a,kws,m,y,c,w,G⟩:=r.ownK e;refine⟨a,kws,c,λob=>?_⟩;have g:jA (HO.dK kws):=True.intro;have o:NT (HO.frz ob (.dK kws)):=True.intro;have lk:((ks.map Sum.inl:List Key).zip ds).map (·.1)=ks.map Sum.inl:=zCr (by rw[Pq,b];exact Qu _);have d:((ks.map Sum.inl:List Key).zip ds).map (·.2)=ds:=List.map_snd_zip (by rw[Pq,b];exact Qu _);rw[lk]at w;rw[d]at G;have h:i<σ.length:=(RQ.mp y).1;have A:i<ρ.length:=(RQ.mp e).1;have f:∀t,W.bad t a:=λ_=>.inr (.inl ⟨i,m⟩)
 have E:∀b d,Ql X.K H b d->Ql X.K (L2.upd H a (.frz ob (.dK kws))) b d:=λb d q=>q.imp (λq=>by rw[aC (qP q c (by intro z;cases z))];exact q) id
 have C:∀t b d,¬W.bad t b->RU X.K H t b d->¬W.bad t b/\RU X.K (L2.upd H a (.frz ob (.dK kws))) t b d:=λt b d n q=>by
  have l:b≠a:=λe=>n (e ▸ f t)
  refine⟨n,?_,λz=>⟨by rw[aC l];exact(q.2 z).1,(q.2 z).2⟩⟩;rcases q.1 with(q|⟨u,q⟩)|q;exact .inl (.inl (by rw[aC l];exact q));exact .inl (.inr ⟨u,by rw[aC l];exact q⟩);exact .inr q
 have B:∀b u,Xl u->H b=some u->L2.upd H a (.frz ob (.dK kws)) b=some u:=λb u n q=>by rw[aC (qP q c (by intro z;subst z;exact g.sol n))];exact q
 have s:∀j k b,W.sub σ.length j k=some b->(W.drop i).sub σ.length j k=some b/\∀f,H b=some (.lst f)->L2.upd H a (.frz ob (.dK kws)) b=some (.lst f):=λj k b q=>⟨Own.SU h k b q,λf z=>by rw[aC (λe=>qv h (r.inj _ _ a (by rw[<- e];exact q) m))];exact z⟩
 have t:∀b u,H b=some u->∃f,L2.upd H a (.frz ob (.dK kws)) b=some f:=λb u q=>by by_cases f:b=a;subst f;exact⟨_,aJ⟩;exact⟨u,by rw[aC f];exact q⟩
 have z:∀{ds:yas} {vs:yar},aj X.K W.bad H ds vs->aj X.K (W.drop i).bad (L2.upd H a (.frz ob (.dK kws))) ds vs:=λq=>(aj.map E C B _ _ q).P4 λ_ _=>Own.Qq
 refine⟨⟨λj x h=>?_,λj x h=>?_,λj k b f n=>?_,λj b f=>?_,λj b f=>?_,λb p=>let ⟨u,q⟩:=r.bt b p;t b u q,λb p=>let ⟨u,q⟩:=r.st b p;t b u q,r.ent.ins (r.ke i a m) c g o,r.tab.upd o (.inr ⟨_,c,g.ne,g.nt⟩)⟩,(Qk.upd m c g o).trans (Qk.drop W _ i)⟩;by_cases c:j=i;subst c;rw[V4 A]at h;cases h;have g:(kws.map (·.2)).length=ks.length:=by rw[Pq];have:=congrArg List.length w;simpa using this
 refine⟨.ref a,y,Den.S6 (o:=ob) (vs:=kws.map (·.2)) ?_ g (z G)⟩;rw[<- Gn w];exact aJ;rw[Sq (Ne.symm c)]at h;obtain⟨w,f,n⟩:=r.val j x h;exact⟨w,f,(Den.map E C B _ _ n).P4 λ_ _=>Own.Qq⟩;by_cases c:j=i;subst c;rw[V4 A]at h;cases h;rw[Sq (Ne.symm c)]at h;obtain⟨b,d,f,n,o,g⟩:=r.own j x h;have l:b≠a:=λe=>c (r.inj j i a (by rw[<- e];exact f) m)
 exact⟨b,d,by show(if j=i then none else W.O j)=_;rw[Po c];exact f,n,by rw[aC l];exact o,g.map (λ_ _ q=>z q) (s _)⟩;have c:(if j=i then none else W.O j)=some b:=f;have h:(if k=i then none else W.O k)=some b:=n;by_cases g:j=i;rw[Pt g]at c;cases c;by_cases n:k=i;rw[Pt n]at h;cases h;rw[Po g]at c;rw[Po n]at h;exact r.inj j k b c h;have c:(if j=i then none else W.O j)=some b:=f;by_cases g:j=i;rw[Pt g]at c;cases c;rw[Po g]at c;obtain⟨o,n,d,k,h⟩:=r.kn j b c;have l:b≠a:=λe=>g (r.inj j i a (by rw[<- e];exact c) m)
 exact⟨o,n,d,by rw[aC l];exact k,h⟩;have c:(if j=i then none else W.O j)=some b:=f;by_cases g:j=i;rw[Pt g]at c;cases c;rw[Po g]at c;exact r.ke j b c
def G1(i:Nat)(t:DS):DS:=λE c=>∃(a:yaf) (b:yas),b.length=a.length/\c[i]?=some (some (.ob (.dk ((a.map Sum.inl).zip b))))/\t E (c.set i (some (.val (.S6 a b))))
def AH(i:Nat)(h:c6 X sts t):c6 X sts (G1 i t):=by intro b s j H W u E I r g;obtain⟨w,x,d,e,g⟩:=g;obtain⟨a,c,m,k⟩:=r.YU d e;obtain⟨z,q,p,d,n⟩:=IZ I.PW m;have e:=n;obtain⟨o,_,_,l,_⟩:=e;obtain⟨e,f⟩:=k o;have k:Inv X b j (L2.upd H a (.frz o (.dK c))) s:=vg (ob:=.frz o (.dK c)) (h':=s.heap) (t':=s.toks) I (by rw[m];exact True.intro) (Heap.SameBut.refl _ _) ⟨o,l⟩ ⟨l,z,q,p,d,n⟩;exact Px (h b s j _ (W.drop i) _ E k e g) λ_ _ z=>z.up f
def L5(b tb:DE):DE:=λa Q=>b a λx=>tb a λk=>∃(a:yaf) (b:yas) (n:Int) (d:D),x=.S6 a b/\k=.int n/\b.length=a.length/\dN ((a.map Sum.inl:List Key).zip b) (.inl n)=some d/\Q d
def Mc(B:X.A.units+1<cLine)(I:P5 X a ta)(G:P5 X b tb)(hs:GC b:=by intro _ _;rfl):P5 X (.Subscript a b pos) (L5 ta tb):=by
 refine P5.of (Kz B I.pe G.pe hs) λN H W k Q r h=>?_
 refine⟨W,k,_,r,h,λv H1 d s E q=>⟨W,k,_,r.same s,q,λO H2 T i g e=>?_⟩⟩;obtain⟨d,j,n,L,rfl,rfl,m,lk,e⟩:=e;obtain⟨c,o,kws,q,J,C,p,l,M⟩:=E.YA;have z:=g.QH;subst J z;have y:((d.map Sum.inl:List Key).zip j).map (·.1)=d.map Sum.inl:=zCr (by rw[Pq,m];exact Qu _);have x:((d.map Sum.inl:List Key).zip j).map (·.2)=j:=List.map_snd_zip (by rw[Pq,m];exact Qu _);have w:kws.map (·.1)=d.map Sum.inl:=by rw[p];exact zCr (by rw[Pq,l];exact Qu _)
 have u:kws.map (·.2)=q:=by rw[p];exact List.map_snd_zip (by rw[Pq,l];exact Qu _)
 obtain⟨t,A,f⟩:=vt (kws:=kws) (w.trans y.symm) (by rw[x,u];exact M) lk;exact⟨c,t,rfl,.inl ⟨kws,.inl n,.inr ⟨o,i _ _ C⟩,rfl,A.symm⟩,s.trans i,L,f.same i,e⟩
def Ez(te:DE):DA:=λa Q=>te a λx=>∃(b:yaf) (a:yas),x=.S6 b a/\b.length<64/\∀a:yaf,a.Perm b->a.Pairwise (·<·)->Q (a.map D.int)
def Ha {p:Pos} (t:X.calm=true) (g:Gl X "sorted") (d:X.mg "sorted" = none) (i:P5 X e te)
  (b:starEach [e] X.env=(false,eval e X.env)::starEach [] X.env:=by rfl) (j:(backTo pos (starEach [] X.env)).any (·.1)=false:=by rfl) :
  TP X (.Call (.Name "sorted" p) [e] [] pos) (Ez te):=by
 intro a s f H W c Q I r h;refine VE (cE I g d boot_sorted ?_ (by decide) (by decide));refine PyProof.Rows.callWith_builtin1 ?_ b j;rw[b];show wpAny _ _ (spliced ((false,eval e X.env)::backTo pos (starEach [] X.env))) _ _ s;refine Calls.spliced_cons (Px (i a s f H W c _ I r h) λu k g=>?_);obtain⟨v,j,d,i,b,n,e,h,B,c,lk,q⟩:=g;subst c;obtain⟨c,o,d,x,m,l,o,g,QB⟩:=e.YA;subst m;cases b;refine wpAny_pure ?_;have m:=i.ok.hd t;obtain⟨_,z,e,y,b,p⟩:=i.PW c _ l;have c:d.map (·.1)=h.map Sum.inl:=by rw[o];exact zCr (by rw[Pq,g];exact Qu _)
 refine SW.Ae m e p (by rw[<- b.keys];exact c) lk λc o b d g u r w m e g3 h l p s=>?_
 have t:b={k with heap:=b.heap,toks:=b.toks}:=by cases b;dsimp only at m e g3 ⊢;subst m e g3;rfl
 have m:L2.Inv X a f j {k with heap:=c,toks:=o}:=i.kept r;have e:j c.objs.size=none:=m.PW.fresh (Qu _);have A:=l.length_eq;have i:L2.Inv X a f (L2.upd j c.objs.size (.lst (g.map V.int))) b:=by rw[t];exact m.laid (t':=b.toks) (h':=b.heap) w (Qu _) ⟨by rw[Pq,sizeLine_eq];lia,d,u,gS h,s⟩
 have a:=Inv.kno i aJ;exact⟨c.objs.size,_,_,_,rfl,i,n.trans (aw.upd e),n.free e,a,aJ,aj.apart e a (tR g),q g l p⟩
end
end PD
namespace PZ
open PySem PySem.Spec PyProof.Rows
def ZHe (h:Heap) (z TI TO a:Addr) (f:Bool):Prop:=h.get? z=some {cls:=.type "zip", dict:=none,data:=.fields #[rawInt a,.bool f,.bool false,.ref TI,.ref TO],slots:=#[]}
section
variable{prog:Program}{w:World}{A:Around}{E:yaa}{s:Shared}{k1 k2:Bool}{z TI TO i1 i2 l1 l2 a:Addr}{f:Bool}{i:Nat}{xs ys:yao}{oa:Obj}
def za{Q:Bool->Shared->Prop}(hz:ZHe s.heap z TI TO a f)(b:s.heap.get? a=some oa)(h:∀g,ZHe g z TI TO a true->Heap.SameBut z s.heap g->Q false {s with heap:=g}):wpAny (model prog w) A (Builtin.SmallTypes.ownedTupleIsFree (.ref z)) Q E s:=by
 refine Pk (TC hz rfl (x:=rawInt a) rfl ?_);show wpAny _ _ (loadIfAlive ((a:Int).toNat) >>= _) _ _ _;refine Pk (PySem.W.kdx_alive b ?_);refine Pk (TC hz rfl (x:=.bool f) rfl ?_);cases f with
 |true=>simp_all [Po,wpAny_pure,Heap.SameBut.refl]
 |false=>exact Pk (ZI hz (by simp) λg (c:ZHe g z TI TO a true) b=>wpAny_pure (h g c b))
def Gk{x y:Value}{Q:yan->Shared->Prop}(D:Ap z TI TO i1 i2)(r:Out z TO i1 i2 l1)(j:Out z TO i1 i2 l2)(hz:ZHe s.heap z TI TO a f)(d:s.heap.get? a=some oa)(l:IsPair s.heap TI (.ref i1) (.ref i2))(m:Td k1 s.heap i1 l1 i)(B:Td k2 s.heap i2 l2 i)
  (g:Sm k1 s.heap l1 xs) (q:Sm k2 s.heap l2 ys) (h:xs[i]?=some x) (t:ys[i]?=some y)
  (u:∀h',ZHe h' z TI TO a true->IsPair h' TI (.ref i1) (.ref i2)->Td k1 h' i1 l1 (i+1)->Td k2 h' i2 l2 (i+1)->IsPair h' s.heap.objs.size x y->(∀c o,c≠z->c≠i1->c≠i2->s.heap.get? c=some o->h'.get? c=some o)->Q (some (.ref s.heap.objs.size)) {s with heap:=h'}):wpAny (model prog w) A (pyNext (.ref z)) Q E s:=by
 have b:s.TypeIs (.ref z) "zip" := ⟨_,hz,rfl⟩;refine Pk (Ze (Yl (name:=Str.ofString "__next__") b F.slot_zip_next (Wj F.slot_zip_next b F.entry_zip_next ?_ (F.args_zip_next_1 _))));show wpAny _ _ (field (.ref z) 2 >>= _) _ _ _;refine Pk (TC hz rfl (x:=.bool false) rfl ?_);refine Pk (TC hz rfl (x:=.ref TI) rfl (Pk (Wl l rfl ?_)));refine Pk (za hz d λd p k=>?_);simp only[VC,if_false];have b:∀c o,c≠z->s.heap.get? c=some o->d.get? c=some o:=λc o n e=>k.extBut c o n e
 refine Pk (Pk (Pk (Ub ?_)));refine Pk (ur (s:={s with heap:=d}) (m.of λo e=>b _ o D.a3 e) (g.of λo e=>b _ o r.c1 e) h λh r g=>wpAny_pure (wpAny_pure ?_));have d:∀c o,c≠z->c≠i1->s.heap.get? c=some o->h.get? c=some o:=λc o n m e=>g.extBut c o m (b c o n e)
 refine Pk (Pk (Ub ?_));refine Pk (ur (s:={s with heap:=h}) (B.of λo e=>d _ o D.a4 (Ne.symm D.b1) e) (q.of λo e=>d _ o j.c1 j.c3 e) t λg3 q b=>wpAny_pure (wpAny_pure ?_));refine wpAny_pure ?_;show wpAny _ _ (newTuple [x,y] >>= _) _ _ _;have j:g3.objs.size=s.heap.objs.size:=by rw[b.1,g.1,k.1]
 have h:∀c o,c≠z->c≠i1->c≠i2->s.heap.get? c=some o->g3.get? c=some o:=λc o n m k e=>b.extBut c o k (d c o n m e)
 refine Pk (wpAny_newTuple (wpAny_pure ⟨_,rfl,wpAny_pure ?_⟩));rw[j];refine u _ ?_ ?_ (r.of λo e=>?_) (q.of λo e=>?_) ?_ λc o n m k e=>?_
 exact QN _ (b.extBut _ _ (Ne.symm D.a4) (g.extBut _ _ (Ne.symm D.a3) p));exact QN _ (h _ _ D.a1 D.a6 D.a7 l);exact QN _ (b.extBut _ _ D.b1 e);exact QN _ e;rw[<- j];exact Sv _ rfl;exact QN _ (h c o n m k e)
def Gm{Q:yan->Shared->Prop}(j:A.handled=none)(D:Ap z TI TO i1 i2)(p:Out z TO i1 i2 l1)(hz:ZHe s.heap z TI TO a f)(d:s.heap.get? a=some oa)(e:IsPair s.heap TI (.ref i1) (.ref i2))(l:Td k1 s.heap i1 l1 i)(g:Sm k1 s.heap l1 xs)(h:xs[i]?=none)
  (k:∀h',(∀c o,c≠z->c≠i1->s.heap.get? c=some o->h'.get? c=some o)->Q none {s with heap:=h'}):wpAny (model prog w) A (pyNext (.ref z)) Q E s:=by
 have b:s.TypeIs (.ref z) "zip" := ⟨_,hz,rfl⟩;refine Pk (Ze (Yl (name:=Str.ofString "__next__") b F.slot_zip_next (Wj F.slot_zip_next b F.entry_zip_next ?_ (F.args_zip_next_1 _))));show wpAny _ _ (field (.ref z) 2 >>= _) _ _ _;refine Pk (TC hz rfl (x:=.bool false) rfl ?_);refine Pk (TC hz rfl (x:=.ref TI) rfl (Pk (Wl e rfl ?_)));refine Pk (za hz d λb r m=>?_);simp only[VC,if_false];have d:∀c o,c≠z->s.heap.get? c=some o->b.get? c=some o:=λc o n e=>m.extBut c o n e
 refine Pk (Pk (Pk (Ub ?_)));refine Pk (Dg (s:={s with heap:=b}) j (l.of λo e=>d _ o D.a3 e) (g.of λo e=>d _ o p.c1 e) h λj e l b=>?_);obtain⟨e,g,h⟩:=b;exact Pk (ZP (T := "StopIteration") (b:=true) ⟨e,g,h⟩ isSubtype_stop (wpAny_pure (k j λc o n m q=>l c o m (d c o n q))))
def ZL(k1 k2:Bool)(z TI TO i1 i2 l1 l2 S:Addr)(i:Nat)(h:Heap):Prop:=(i=0/\Zs k1 k2 z TI TO i1 i2 l1 l2 0 h)∨((∃a f oa,ZHe h z TI TO a f/\h.get? a=some oa/\a≠S/\a≠z/\a≠TO/\a≠i1/\a≠i2)/\IsPair h TI (.ref i1) (.ref i2)/\Td k1 h i1 l1 i/\Td k2 h i2 l2 i)
def ZL.keep{h':Heap}(x:ZL k1 k2 z TI TO i1 i2 l1 l2 S i h)(k:z≠S)(j:TI≠S)(l:TO≠S)(g:i1≠S)(d:i2≠S)(c:∀b o,b≠S->h.get? b=some o->h'.get? b=some o):ZL k1 k2 z TI TO i1 i2 l1 l2 S i h':=by
 rcases x with⟨e,Z⟩| ⟨⟨a,f,oa,u,t,h,r⟩,p,n,m⟩;obtain⟨q,C,⟨a,b,B⟩,y,x⟩:=Z;exact .inl ⟨e,c _ _ k q,c _ _ j C,⟨a,b,c _ _ l B⟩,y.of λo q=>c _ o g q,x.of λo q=>c _ o d q⟩;exact .inr ⟨⟨a,f,oa,c _ _ k u,c _ _ h t,h,r⟩,c _ _ j p,n.of λo q=>c _ o g q,m.of λo q=>c _ o d q⟩
def ZL.item{x y:Value}{Q:yan->Shared->Prop}(D:Ap z TI TO i1 i2)(C:Out z TO i1 i2 l1)(B:Out z TO i1 i2 l2)(Z:ZL k1 k2 z TI TO i1 i2 l1 l2 S i s.heap)(L:S<s.heap.objs.size)(b:z<s.heap.objs.size/\TO<s.heap.objs.size/\i1<s.heap.objs.size/\i2<s.heap.objs.size)(l:Sm k1 s.heap l1 xs)(k:Sm k2 s.heap l2 ys)(t:xs[i]?=some x)(r:ys[i]?=some y)
  (u:∀h',ZL k1 k2 z TI TO i1 i2 l1 l2 S (i+1) h'->IsPair h' s.heap.objs.size x y->(∀c o,c≠z->c≠TO->c≠i1->c≠i2->s.heap.get? c=some o->h'.get? c=some o)->Q (some (.ref s.heap.objs.size)) {s with heap:=h'}):wpAny (model prog w) A (pyNext (.ref z)) Q E s:=by
 obtain⟨Q,O,N,M⟩:=b;rcases Z with⟨rfl,Z⟩| ⟨⟨a,f,oa,J,q,I,p,H,n,m⟩,G,y,d⟩;refine Jq D C B Z l k t r λh' j h _ g e x b=>u h' (.inr ⟨⟨s.heap.objs.size,false,_,j,x,Vw L,Vw Q,Vw O,Vw N,Vw M⟩,h,g,e⟩) x b
 refine Gk D C B J q G y d l k t r λh' j h d g e b=>u h' (.inr ⟨⟨a,true,oa,j,b a oa p n m q,I,p,H,n,m⟩,h,d,g⟩) e λc o h _ g d e=>b c o h g d e
def ZL.stop{Q:yan->Shared->Prop}(e:A.handled=none)(D:Ap z TI TO i1 i2)(h:Out z TO i1 i2 l1)(q:Out z TO i1 i2 l2)(Z:ZL k1 k2 z TI TO i1 i2 l1 l2 S i s.heap)(b:Sm k1 s.heap l1 xs)(j:Sm k2 s.heap l2 ys)(d:xs[i]?=none)
  (g:∀h',(∀c o,c≠z->c≠TO->c≠i1->c≠i2->s.heap.get? c=some o->h'.get? c=some o)->Q none {s with heap:=h'}):wpAny (model prog w) A (pyNext (.ref z)) Q E s:=by
 rcases Z with⟨rfl,Z⟩| ⟨⟨a,f,oa,p,m,y,x,u,t,r⟩,l,k,n⟩;exact Jr e D h q Z b j (.inl d) g;exact Gm e D h p m l k b d λh' h=>g h' λc o d _ b _ e=>h c o d b e
end
structure ZT(h:Heap)(xs ys:yao)(B:Addr)(as:yae):Prop where
 nd:as.Nodup
 ab:∀a∈as,B<=a
 pr:∀(j:Nat) (a:Addr),as[j]?=some a->∃x y,xs[j]?=some x/\ys[j]?=some y/\IsPair h a x y
section
variable{prog:Program}{w:World}{A:Around}{E:yaa}{s:Shared}{k1 k2:Bool}{z TI TO i1 i2 l1 l2 S B:Addr}{xs ys:yao}{R:Result->Shared->Prop}
def Ov(j:A.handled=none)(D:Ap z TI TO i1 i2)(t:Out z TO i1 i2 l1)(r:Out z TO i1 i2 l2)(sB:S<B)(e:z<B/\TO<B/\i1<B/\i2<B)(g:z≠S/\TI≠S/\TO≠S/\i1≠S/\i2≠S/\l1≠S/\l2≠S)(hn:xs.size<=sizeLine)(hxy:xs.size=ys.size)(d:Value){h0:Heap}
  (u:∀h' n a c f,(∀b o,b≠S->b≠z->b≠TO->b≠i1->b≠i2->h0.get? b=some o->h'.get? b=some o)->h'.get? S=some {cls:=.type "list", dict:=none,data:=.seq a c,slots:=#[]}->a.toList=f.map Value.ref->f.length=xs.size->ZT h' xs ys B f->R (.ok (.ret d)) {s with heap:=h',toks:=n}) :
  ∀ (k i:Nat) (h:Heap) (n c:Nat) (a:yao) (f:yae),xs.size - i=k->i<=xs.size->ZL k1 k2 z TI TO i1 i2 l1 l2 S i h->Sm k1 h l1 xs->Sm k2 h l2 ys->B<=h.objs.size->(∀b o,b≠S->b≠z->b≠TO->b≠i1->b≠i2->h0.get? b=some o->h.get? b=some o) →
   h.get? S=some {cls:=.type "list", dict:=none,data:=.seq a c,slots:=#[]}->a.toList=f.map Value.ref->f.length=i->ZT h xs ys B f->codeAny (model prog w) A (.builtin "list.extend.loop" ⟨[.ref S,.ref z,d],[]⟩) R {s with heap:=h,toks:=n}:=by
 obtain⟨n1,n2,n3,n4,n5,n6,n7⟩:=g;have q:∀{b c:Addr},c<B->B<=b->b≠c:=λhc d=>Vw (R7 hc d)
 obtain⟨z1,Y,U,Q⟩:=e;intro k
 induction k with
 |zero =>
  intro i h n c a f hk hi m M L p kp hS O I T;refine Yq PySem.F.entry_extend_loop ?_;refine Pk (ZL.stop (s:={s with heap:=h,toks:=n}) (A:=A.in1) j D t r m M L (zCV (by lia)) λh' l=>?_);have J:∀b,B<=b->∀o,h.get? b=some o->h'.get? b=some o:=λb d o e=>l b o (q z1 d) (q Y d) (q U d) (q Q d) e
  exact wpAny_pure (u h' n a c f (λb o N H G C u e=>l b o H G C u (kp b o N H G C u e)) (l S _ (Ne.symm n1) (Ne.symm n3) (Ne.symm n4) (Ne.symm n5) hS) O (by lia)
   ⟨T.nd,T.ab,λj b g=>let ⟨x,y,e1,e2,e3⟩:=T.pr j b g;⟨x,y,e1,e2,J b (T.ab b (Rt g)) _ e3⟩⟩)
 |succ k ih =>
  intro i h n c a f hk hi m M L p kp hS O I T;have lt:i<xs.size:=by lia
  have hx:xs[i]?=some xs[i]:=Wz lt;have hy:ys[i]?=some ys[i]:=Wz (by lia);have sz:a.size=i:=by rw[<- Tp,O,Pq,I]
  refine Yq PySem.F.entry_extend_loop ?_;refine Pk (ZL.item (s:={s with heap:=h,toks:=n}) (S:=S) D t r m (R7 sB p) ⟨R7 z1 p,R7 Y p,R7 U p,R7 Q p⟩ M L hx hy λh' hZ' tp l=>?_);dsimp only at tp l ⊢;have J:=l S _ (Ne.symm n1) (Ne.symm n3) (Ne.symm n4) (Ne.symm n5) hS;have k:∀b o,b≠S->h'.get? b=some o->(h'.update S (Obj.mapSeq (·.push (Value.ref h.objs.size)))).get? b=some o:=λb o m e=>(WC _ _ (Ne.symm m)).trans e
  have nS:h.objs.size≠S:=Vw (R7 sB p);have m:=k _ _ nS tp;refine Pk (zC1 J rfl (wpAny_pure ⟨zDJ PySem.F.plain_extend_loop _,ih (i+1) _ n _ (a.push (Value.ref h.objs.size)) (f++[h.objs.size]) (by lia) lt (hZ'.keep n1 n2 n3 n4 n5 k) (M.of λo e=>k _ o n6 (l _ o t.c1 t.c2 t.c3 t.c4 e)) (L.of λo e=>k _ o n7 (l _ o r.c1 r.c2 r.c3 r.c4 e)) ?_
   (λb o N H G C u e=>k b o N (l b o H G C u (kp b o N H G C u e))) (WY _ J rfl) (by rw[Array.toList_push,O,Sb];rfl) (by rw[Sw,I];rfl) ⟨?_,λb d=>?_,λj b g=>?_⟩⟩) (by rw[sz];lia) (by rw[Array.size_push,sz];lia))
  exact V7 (ZH p (Qp m));refine zCg.mpr ⟨T.nd,by simp,λb d c hc=>?_⟩;obtain⟨j,g⟩:=List.getElem?_of_mem d;obtain⟨_,_,_,_,e⟩:=T.pr j b g;rw[SM.mp hc];exact QU (Qp e);rcases RH.mp d with d|d;exact T.ab b d;rw[SM.mp d];exact p;rcases ZM j f.length with c|c|c;rw[V2 c]at g;obtain⟨x,y,e1,e2,e3⟩:=T.pr j b g;have a:=T.ab b (Rt g);exact⟨x,y,e1,e2,k b _ (q sB a) (l b _ (q z1 a) (q Y a) (q U a) (q Q a) e3)⟩;subst c;have e:h.objs.size=b:=by simpa using g
  subst e;exact⟨xs[i],ys[i],by rw[I];exact hx,by rw[I];exact hy,m⟩;rw[Y3 (by rw[Sw,zC9];lia)]at g;cases g
end
def DY:typeLookup (.type "zip") "__len__" = pure none:=by kernel_rfl
def Bc:typeLookup (.type "zip") "__length_hint__" = pure none:=by kernel_rfl
section
variable{prog:Program}{w:World}{A:Around}{E:yaa}{s:Shared}{k1 k2:Bool}{z TI TO i1 i2 l1 l2 S B:Addr}{xs ys:yao}
def Td.lt(x:Td k h it a i):it<h.objs.size:=let ⟨_,e,_⟩:=x.obj;Qp e
def Sm.lt{xs:yao}(x:Sm k h a xs):a<h.objs.size:=let ⟨_,_,e,_⟩:=x.obj;Qp e
def Ll{R:Result->Shared->Prop}(u:A.handled=none)(D:Ap z TI TO i1 i2)(G:Out z TO i1 i2 l1)(C:Out z TO i1 i2 l2)(Z:Zs k1 k2 z TI TO i1 i2 l1 l2 0 s.heap)(r:Sm k1 s.heap l1 xs)(q:Sm k2 s.heap l2 ys)(t:xs.size<=sizeLine)(h:xs.size=ys.size)(p:S<B)(H:B<=s.heap.objs.size)(n:z<B/\TO<B/\i1<B/\i2<B)
  (a:z≠S/\TI≠S/\TO≠S/\i1≠S/\i2≠S/\l1≠S/\l2≠S) (y:Nat) (k:s.heap.get? S=some {cls:=.type "list", data:=.seq #[] y})
  (x:∀h' m d c j,(∀b o,b≠S->b≠z->b≠TO->b≠i1->b≠i2->s.heap.get? b=some o->h'.get? b=some o)->h'.get? S=some {cls:=.type "list", dict:=none,data:=.seq d c,slots:=#[]}->d.toList=j.map Value.ref->j.length=xs.size->ZT h' xs ys B j->R (.ok (.ret .none)) {s with heap:=h',toks:=m}) :
  wpAny (model prog w) A.in1 (Builtin.List.listExtendWith (.ref S) (.ref z) .none) (λi g=>match i with|.done f=>R (.ok f) g|.again l=>l.quiet=true/\codeAny (model prog w) A l R g) (λe g=>R (.error e) g) s:=by
 have hz:=Z.z;have c:s.TypeIs (.ref z) "zip" := ⟨_,hz,rfl⟩;refine Pk (wpAny_typeOf (T := "zip") c ?_);have d:Builtin.List.listSameRef (.ref S) (.ref z)=false:=by simp[Builtin.List.listSameRef,Ne.symm a.1]
 simp only[d,show(Value.type "zip" == Value.type "list")=false by decide,show(Value.type "zip" == Value.type "tuple")=false by decide,Bool.or_false,VC,if_false];refine Pk (wpAny_pyIter_zip hz (Pk (Ub ?_)));refine Pk (zC0 c DY ?_);refine Pk (zC0 c Bc (wpAny_pure ?_));refine Pk (wpAny_rule (Pk ?_));have c:=WY (Obj.mapSeq (·.push Value.none)) k rfl;refine Pk (zC1 k rfl (zC1 (hz:=by seq_fits) c rfl (wpAny_pure ⟨zDJ PySem.F.plain_extend_loop _,?_⟩)));have g3:=WY (Obj.mapSeq (·.pop)) c rfl;have c:∀b o,b≠S->s.heap.get? b=some o->((s.heap.update S (Obj.mapSeq (·.push Value.none))).update S (Obj.mapSeq (·.pop))).get? b=some o:=λb o m e=>(WC _ _ (Ne.symm m)).trans ((WC _ _ (Ne.symm m)).trans e)
 refine Ov (s:=s) (h0:=s.heap) u D G C p n a t h .none x xs.size 0 _ _ _ _ [] (Nat.sub_zero _) (RS _) (ZL.keep (.inl ⟨rfl,Z⟩) a.1 a.2.1 a.2.2.1 a.2.2.2.1 a.2.2.2.2.1 c) (r.of λo e=>c _ o a.2.2.2.2.2.1 e) (q.of λo e=>c _ o a.2.2.2.2.2.2 e) ?_ (λb o m _ _ _ _ e=>c b o m e) g3 rfl rfl ⟨List.nodup_nil,λ_ h=>(by cases h),λj a h=>by simp at h⟩
 simp_all
def Ou{Q:yaa}(N:A.handled=none)(D:Ap z TI TO i1 i2)(U:Out z TO i1 i2 l1)(T:Out z TO i1 i2 l2)(Z:Zs k1 k2 z TI TO i1 i2 l1 l2 0 s.heap)(G:Sm k1 s.heap l1 xs)(C:Sm k2 s.heap l2 ys)(M:xs.size<=sizeLine)(l:xs.size=ys.size)
  (O:∀h' j d c g,(∀b o,b≠z->b≠TO->b≠i1->b≠i2->s.heap.get? b=some o->h'.get? b=some o)->h'.get? s.heap.objs.size=some {cls:=.type "list", dict:=none,data:=.seq d c,slots:=#[]}->d.toList=g.map Value.ref->g.length=xs.size->ZT h' xs ys (s.heap.objs.size+1) g->Q (.ref s.heap.objs.size) {s with heap:=h',toks:=j}) :
  wpAny (model prog w) A (call (.type "list") [.ref z]) Q E s:=by
 refine callType_codes (Q₁:=λa e=>a=.ref s.heap.objs.size/\e={s with heap:=s.heap.push {cls:=.type "list", data:=.seq #[]} }) PySem.F.called_list (PySem.F.typeCall_list_1 _) PySem.F.entry_list_init (code_list_new _ ⟨rfl,rfl⟩) λa e a=>?_
 obtain⟨rfl,rfl⟩:=a;have i:(s.heap.push {cls:=.type "list", data:=.seq #[]}).get? s.heap.objs.size=some {cls:=.type "list", data:=.seq #[]}:=Sv _ rfl;have L:∀b o,s.heap.get? b=some o->(s.heap.push {cls:=.type "list", data:=.seq #[]}).get? b=some o:=λb o e=>QN _ e
 have a:z<s.heap.objs.size/\TI<s.heap.objs.size/\TO<s.heap.objs.size/\i1<s.heap.objs.size/\i2<s.heap.objs.size/\l1<s.heap.objs.size/\l2<s.heap.objs.size:=by obtain⟨k,y,⟨_,_,x⟩,p,n⟩:=Z;exact⟨Qp k,Qp y,Qp x,p.lt,n.lt,G.lt,C.lt⟩
 obtain⟨u,J,t,r,q,I,H⟩:=a;have a:∀{b:Addr},b<s.heap.objs.size->b<s.heap.objs.size+1:=λh=>Y7 h
 refine⟨⟨_,i,rfl⟩,PySem.F.args_list_init_2 _ _,?_⟩;refine Pk ?_;refine Pk (Wl i rfl (wpAny_pure ?_));have h:=WY (Obj.mapSeq (λ_=>(#[]:yao))) i rfl;have f:∀b o,b≠s.heap.objs.size->s.heap.get? b=some o->((s.heap.push {cls:=.type "list", data:=.seq #[]}).update s.heap.objs.size (Obj.mapSeq (λ_=>(#[]:yao)))).get? b=some o:=λb o m e=>(WC _ _ (Ne.symm m)).trans (L b o e)
 refine Pk (zC1 i rfl (Pk (wpAny_letGo ?_)));refine Ll (A:=A.in1) (B:=s.heap.objs.size+1) (k1:=k1) (k2:=k2) (TI:=TI) (TO:=TO) (l1:=l1) (l2:=l2) (xs:=xs) (ys:=ys) N D U T ?_ (G.of λo e=>f _ o (QU I) e) (C.of λo e=>f _ o (QU H) e) M l (W5 _) ?_ ⟨a u,a t,a r,a q⟩ ⟨QU u,QU J,QU t,QU r,QU q,QU I,QU H⟩ _ h λh' j d c g h l m i T=>?_
 obtain⟨k,y,⟨a,b,x⟩,p,n⟩:=Z;exact⟨f _ _ (QU u) k,f _ _ (QU J) y,⟨a,b,f _ _ (QU t) x⟩,p.of λo e=>f _ o (QU r) e,n.of λo e=>f _ o (QU q) e⟩
 simp_all
 exact⟨rfl,O h' j d c g (λb o g d c a e=>h b o (QU (Qp e)) g d c a (f b o (QU (Qp e)) e)) l m i T⟩
end
end PZ
namespace PD
open PySem PySem.Spec PyProof.Rows L2 PZ
def fe(H:Hp)(n:Addr)(N:List (Addr×HO)):Hp:=λb=>if b<n then H b else(N.find? λp=>decide (p.1=b)).map (·.2)
def mD{n b:Addr}(h:b<n):fe H n N b=H b:=Pt h
theorem BG{b:Addr}{u:HO}:∀{N:List (Addr×HO)},(N.map (·.1)).Nodup->(b,u)∈N->(N.find? λp=>decide (p.1=b))=some (b,u)
 |[],_,m=>by cases m
 |p::r,a,m=>by
  rw[QO,Wk]at a;rw[List.find?_cons];rcases Qg.mp m with e|m;rw[<- e,V6 rfl];rw[decide_eq_false λe=>a.1 (by rw[e];exact P6.mpr ⟨_,m,rfl⟩)];exact BG a.2 m
def BO{n b:Addr}{u:HO}{N:List (Addr×HO)}(a:(N.map (·.1)).Nodup)(h:n<=b)(m:(b,u)∈N):fe H n N b=some u:=by unfold fe;rw[Po (by simp_all),BG a m];rfl
def zo{n b:Addr}{u:HO}(h:¬b<n)(e:fe H n N b=some u):(b,u)∈N:=by unfold fe at e;rw[Po h]at e;obtain⟨p,a,rfl⟩:=Wi.mp e;grind
section
variable{X:Cx}{pins:yab}{σ:St}{H:Hp}{s:Shared}
theorem Inv.fe{h':Heap}{t':Nat}{N:List (Addr×HO)}(I:Inv X pins σ H s)(k:∀b u,s.heap.get? b=some u->h'.get? b=some u)(d:∀b u,(b,u)∈N->bN X.prog X.w (PD.fe H s.heap.objs.size N) h' b u) :
  Inv X pins σ (PD.fe H s.heap.objs.size N) {s with heap:=h',toks:=t'}:=by
 have lt:∀{b u},H b=some u->PD.fe H s.heap.objs.size N b=some u:=fun {b u} e=>by rw[mD (I.PW.lt e)];exact e
 refine L2.Inv.un I ⟨λb a q _ _ _=>k b a q,λb a q _ _ _=>⟨a.slots,k b a q⟩,λb a q n _=>by rw[mD (Qp q)];exact n,λb a q _=>⟨a,k b a q⟩,λb a q=>lt q,λb o u q=>lt q,λb f q=>⟨#[],by rw[lt q];simp⟩⟩ λb u e=>?_
 by_cases h:b<s.heap.objs.size;rw[mD h]at e;exact(I.PW b u e).S9 (λc v _ q=>k c v q) (λc q=>lt q) λc a q=>lt q
 exact d b u (zo h e)
def FT{N:List (Addr×HO)}(I:Inv X pins σ H s)(c:∀b u,(b,u)∈N->∀ps,u ≠ .U4 ps):aw H (PD.fe H s.heap.objs.size N):=by
 have a:∀{b u},H b=some u->PD.fe H s.heap.objs.size N b=some u:=fun {b u} e=>by rw[mD (I.PW.lt e)];exact e
 refine⟨λb o q _=>a q,by simp_all,λT P ps e=>?_⟩;by_cases h:P<s.heap.objs.size;rw[mD h]at e;obtain⟨a,b⟩:=T P ps e;grind;exact absurd rfl (c P _ (zo h e) ps)
end
theorem xf:∀a:yae,Vals (a.map V.ref) (a.map Value.ref)
 |[]=>.nil
 |_::r=>.cons rfl (xf r)
theorem aj.of_get{K:yac}{P:yak}{H:Hp}:∀{ds:yas} {vs:yar},ds.length=vs.length->(∀(j:Nat) d v,ds[j]?=some d->vs[j]?=some v->Den K P H d v)->aj K P H ds vs
 |[],[],_,_=>aj.nil
 |d::ds,v::vs,h,k=>aj.cons (k 0 d v rfl rfl) (aj.of_get (Nat.succ.inj h) λj d a c b=>k (j+1) d a c b)
section
variable{X:Cx}{pos:Pos}
def yG(b:DA):DA:=λa R=>b a λg=>∃d c f e a b,g=[d,c]/\ip d=some (f,a)/\ip c=some (e,b)/\a.length=b.length/\a.length<=1000/\R (List.zipWith (λx y=>D.tup [x,y]) a b)
def CV {a b:Expr} {ta:DA} {p A L:Pos} (hc:X.calm=true) (hg:Gl X "list") (hm:X.mg "list" = none) (hg2:Gl X "zip") (hm2:X.mg "zip" = none) (ha:Uo X [a,b] ta)
  (RI:starEach [.Call (.Name "zip" A) [a,b] [] L] X.env=(false,eval (.Call (.Name "zip" A) [a,b] [] L) X.env)::starEach [] X.env:=by rfl) (QW:(backTo pos (starEach [] X.env)).any (·.1)=false:=by rfl)
  (hs:starEach [a,b] X.env=(false,eval a X.env)::starEach [b] X.env:=by rfl) (YG:(backTo L (starEach [b] X.env)).any (·.1)=false:=by rfl) :
  TP X (.Call (.Name "list" p) [.Call (.Name "zip" A) [a,b] [] L] [] pos) (yG ta):=by
 intro w s σ H W ρ Q I r h;refine VE (cE I hg hm boot_list ?_ (by decide) (by decide));refine PyProof.Rows.callWith_type1 ?_ RI QW;rw[RI];show wpAny _ _ (spliced ((false,eval (.Call (.Name "zip" A) [a,b] [] L) X.env)::backTo pos (starEach [] X.env))) _ _ s;refine Calls.spliced_cons ?_;refine Call_ (cE I hg2 hm2 boot_zip (PyProof.Rows.callWith_type1 (Px (ha L w s σ H W ρ _ I r h) λus f Py=>?_) hs YG));obtain⟨vs,B,ds,M,r1,e1,hd,q1⟩:=Py;obtain⟨d1,d2,k1,k2,xs,ys,e,g1,g2,lxy,l1000,q⟩:=q1;subst e;obtain⟨v1,v2,rfl,VO,hd2⟩:=gA hd;obtain⟨l1,J,e2,sq1,dn1,_⟩:=VO.seq g1;obtain⟨l2,G,e3,sq2,dn2,_⟩:=hd2.seq g2;subst e2 e3;cases r1 with
 |cons ra rr =>
  cases rr with
  |cons rb rr =>
   cases rr;cases ra;cases rb;obtain⟨us1,rv1,p1⟩:=sq1.list M;obtain⟨us2,rv2,A⟩:=sq2.list M;have n1:=dn1.len;have n2:=dn2.len;have m1:=rv1.length;have m2:=rv2.length;refine Jp p1 A λg Z kp=>?_
   refine wpAny_pure ?_;have Dz:Ap (f.heap.objs.size+4) (f.heap.objs.size+2) (f.heap.objs.size+3) f.heap.objs.size (f.heap.objs.size+1):=by constructor<;>simp
   have E:∀{c:Addr} (j:Nat),c<f.heap.objs.size->c≠f.heap.objs.size+j:=λj h=>QU (R7 h (ZO _ j))
   have O:∀{l:Addr},l<f.heap.objs.size->Out (f.heap.objs.size+4) (f.heap.objs.size+3) f.heap.objs.size (f.heap.objs.size+1) l:=λh=>⟨E 4 h,E 3 h,QU h,E 1 h⟩
   refine Ou (s:={f with heap:=g}) (M.ok.hd hc) Dz (O p1.lt) (O A.lt) Z (p1.of λo e=>kp _ o e) (A.of λo e=>kp _ o e) (by rw[S8,sizeLine_eq];lia) (by rw[S8,S8];lia) λh2 tk acc c k SN hD ea la T=>?_
   have K:∀b o,f.heap.get? b=some o->h2.get? b=some o:=λb o e=>SN b o (E 4 (Qp e)) (E 3 (Qp e)) (QU (Qp e)) (E 1 (Qp e)) (kp b o e)
   have zl:f.heap.objs.size<g.objs.size:=ZH (ZO _ 4) (Qp Z.z);dsimp only at hD T;rw[S8]at la;have nD:g.objs.size∉k:=λz=>absurd (T.ab _ z) (Nat.not_le.mpr (W5 _))
   let N:List (Addr×HO):=(g.objs.size,.lst (k.map V.ref))::(k.zip (J.zip G)).map λt=>(t.1,.tup [t.2.1,t.2.2])
   have hN:N.map (·.1)=g.objs.size::k:=by show g.objs.size::((k.zip (J.zip G)).map λt=>(t.1,HO.tup [t.2.1,t.2.2])).map (·.1)=_;rw[QP];congr 1;exact zCr (by rw[zCx];lia)
   have ndN:(N.map (·.1)).Nodup:=by rw[hN];exact Wk.mpr ⟨nD,T.nd⟩
   have get:∀{j:Nat} {b:Addr},k[j]?=some b->∃Y U x y,J[j]?=some Y/\G[j]?=some U/\RelV Y x/\RelV U y/\IsPair h2 b x y/\(b,HO.tup [Y,U])∈N:=fun {j b} C=>by obtain⟨lj,_⟩:=RQ.mp C;obtain⟨x,y,hx,hy,hp⟩:=T.pr j b C;have g1:J[j]?=some (J[j]'(by lia)):=Qw _;have g2:G[j]?=some (G[j]'(by lia)):=Qw _;obtain⟨x',ex,rx⟩:=rv1.get g1;obtain⟨y',ey,ry⟩:=rv2.get g2;rw[List.getElem?_toArray,ex]at hx;rw[List.getElem?_toArray,ey]at hy;cases hx;cases hy;refine⟨_,_,x,y,g1,g2,rx,ry,hp,R4 _ (P6.mpr ⟨(b,J[j]'(by lia),G[j]'(by lia)),?_,rfl⟩)⟩;refine Rt (i:=j) ?_;rw[zCm];exact⟨C,by rw[zCm];exact⟨g1,g2⟩⟩
   have ok:∀b u,(b,u)∈N->bN X.prog X.w (PD.fe B f.heap.objs.size N) h2 b u:=λb u m=>by
    rcases Qg.mp m with e|m;cases e;exact⟨by rw[Pq,sizeLine_eq];lia,k.map Value.ref,c,xf k,by rw[<- ea];simpa using hD⟩;obtain⟨t,tm,e⟩:=P6.mp m;cases e;obtain⟨j,C⟩:=List.getElem?_of_mem tm;rw[zCm]at C;obtain⟨Y,U,x,y,e1,e2,rx,ry,hp,_⟩:=get C.1;have d:=C.2;rw[zCm,e1,e2]at d;obtain⟨i,n⟩:=d;cases i;cases n;exact⟨by rw[sizeLine_eq];show 2<=16777216;decide,[x,y],.cons rx (.cons ry .nil),⟨_,hp,rfl,_,rfl⟩⟩
   have I2:Inv X w σ (PD.fe B f.heap.objs.size N) {f with heap:=h2,toks:=tk}:=Inv.fe M K ok;have sm:aw B (PD.fe B f.heap.objs.size N):=FT M λb u m ps e=>by
    rcases Qg.mp m with z|m;cases z;cases e;obtain⟨t,_,z⟩:=P6.mp m;cases z;cases e
   have eD:PD.fe B f.heap.objs.size N g.objs.size=some (.lst (k.map V.ref)):=BO ndN (V7 zl) T9;have fD:B g.objs.size=none:=M.PW.fresh (V7 zl);refine⟨g.objs.size,_,_,_,rfl,I2,e1.trans sm,e1.free fD,Inv.kno I2 eD,eD,aj.of_get (by rw[List.length_zipWith,Pq];lia) λj d v hdj hvj=>?_,q⟩;rw[QZ]at hvj;obtain⟨b,hb,rfl⟩:=Wi.mp hvj;obtain⟨Y,U,x,y,e1',e2',rx,ry,hp,mN⟩:=get hb;obtain⟨dx,gx,Uh⟩:=dn1.bJ e1';obtain⟨dy,gy,VM⟩:=dn2.bJ e2';rw[List.getElem?_zipWith,gx,gy]at hdj;cases hdj;have hbn:f.heap.objs.size<=b:=QM (V7 (Y7 zl)) (T.ab b (Rt hb));have P':∀{d:D} {v:V},Den X.K W.bad B d v->Den X.K (λt b=>W.bad t b∨b=g.objs.size) (PD.fe B f.heap.objs.size N) d v:=λhq=>Den.map (λ_ _ z=>Ql.same sm z) (λt a' vs' np z=>⟨λz'=>z'.elim np λz'=>by
    subst z';rcases z.1 with(i|⟨o,i⟩)|⟨o,Pp,n,i,_⟩;rw[fD]at i;cases i;rw[fD]at i;cases i;exact absurd (Inv.kno I2 eD) (by rw[i];simp),z.same sm⟩) (λa' o' n z=>sm.kp a' o' z n.nt) _ _ hq
   exact Den.tup (Ql.of (BO ndN hbn mN)) (aj.cons (P' Uh) (aj.one (P' VM)))
end
open PySem PySem.Spec PyProof.Rows L2
section
variable{X:Cx}{a b c:Expr}{ta tb tc:DE}{pos:Pos}
def He(n:Rb X (compareOp op) r)(G:Rb X (compareOp op') r')(d:P5 X a ta)(k:P5 X b tb)(C:P5 X c tc)(q:lastMarks [op,op'] [b,c]=false:=by with_unfolding_all rfl):Va X (.Compare a [op,op'] [b,c] pos) (dB (Eu r r' ta tb tc)):=by
 intro e s f H W o Q I l h;refine isTrue_chain (Px (d e s f H W o _ I l h) λv g ⟨d,r,x,p,h,j,m,i⟩=>test_link (Px (k e g f r W o _ p (l.same j) i) λu g ⟨r,w,y,p,s,i,t,k⟩=>
  Px (n e g f w W x y d r v u _ p ((l.same j).same i).tracked h s (m.same i) t k) λd B ⟨A,x,z,w,g,n,p,k,h,m⟩=>?_)) q
 subst h;have q:=p.X3;subst q;cases g;refine zCk ?_;have g:=((l.same j).same i).same n;cases k with
 |false =>
  obtain⟨k,h,m⟩:=m;cases h;exact ite_ff ⟨x,w,j.trans (i.trans n),m⟩
 |true =>
  refine ite_tt (test_last (Px (C e B f x W o _ w g m) λm w ⟨o,I,E,H,x,l,C,B⟩=>Px (G e w f I W y E r o u m _ H (g.same l).tracked s x (t.same (n.trans l)) C B) λd J g=>?_));obtain⟨A,o,z,m,d,f,p,k,h,e⟩:=g;subst h;have q:=p.X3;subst q;cases d;exact zCk ⟨o,m,j.trans (i.trans (n.trans (l.trans f))),e⟩
end
section
variable{X:Cx}{pos:Pos}
theorem BR(f:Nat->Int):∀n,((List.range n).map f).Nodup->firstMet f n=(List.range n).map f
 |0,_=>rfl
 |n+1,h=>by
  rw[List.range_succ,Sb,zCg]at h;rw[firstMet_succ,BR f n h.1,List.range_succ,Sb];refine Po λz=>?_
  obtain⟨x,a,e⟩:=List.any_eq_true.mp z;exact h.2.2 x a (f n) (by simp) (by simpa using e)
theorem wQ:∀{ns:yaf} {a:yad},Vals (ns.map V.int) a->IntsAre a ns
 |[],a,r=>by rw[XT]at r;cases r;exact .nil
 |n::ns,a,r=>by
  rw[QO]at r;cases r with
  |cons h t =>
   obtain⟨b,rfl⟩:=h;exact .cons _ _ (wQ t)
def Bp(te:DE):DE:=λa Q=>te a λd=>∃(t:Bool) (a:yaf),d=.lst t (a.map D.int)/\a.Nodup/\a.length<=900/\Q (.int (a.length:Int))
def EF {p b:Pos} (w:X.calm=true) (l:Gl X "len") (k:X.mg "len" = none) (d:Gl X "set") (c:X.mg "set" = none) (m:P5 X e te)
  (i:starEach [.Call (.Name "set" b) [e] [] Q4] X.env=(false,eval (.Call (.Name "set" b) [e] [] Q4) X.env)::starEach [] X.env:=by rfl) (o:(backTo pos (starEach [] X.env)).any (·.1)=false:=by rfl)
  (f:starEach [e] X.env=(false,eval e X.env)::starEach [] X.env:=by rfl) (n:(backTo Q4 (starEach [] X.env)).any (·.1)=false:=by rfl) :
  P5 X (.Call (.Name "len" p) [.Call (.Name "set" b) [e] [] Q4] [] pos) (Bp te):=by
 intro a s g H W j Q I r h;refine VE (cE I l k So ?_ (by decide) (by decide));refine PyProof.Rows.callWith_builtin1 ?_ i o;rw[i];show wpAny _ _ (spliced ((false,eval (.Call (.Name "set" b) [e] [] Q4) X.env)::backTo pos (starEach [] X.env))) _ _ s;refine Calls.spliced_cons ?_;refine VE (cE I d c boot_set ?_ (by decide) (by decide));refine PyProof.Rows.callWith_type1 ?_ f n;rw[f];show wpAny _ _ (spliced ((false,eval e X.env)::backTo Q4 (starEach [] X.env))) _ _ s;refine Calls.spliced_cons (Px (m a s g H W j _ I r h) λu h j=>?_);obtain⟨v,m,d,f,b,p,i,t,ns,c,n,lk,q⟩:=j;subst c;obtain⟨l,x,j,_,c,d⟩:=i.Se;subst j;cases b;rw[cc d]at c;refine wpAny_pure ?_;obtain⟨k,b,l,_⟩:=f.list c;have o:=f.ok.hd w;have c:k.length=ns.length:=by rw[<- b.length,Pq]
 have j:(List.range ns.length).map (λi=>ns.getD i 0)=ns:=List.ext_getElem? λi=>by by_cases d:i<ns.length;simp[d];simp[d,XY.mp d]
 have fm:firstMet (λi=>ns.getD i 0) k.toArray.size=ns:=by rw[S8,c,BR _ _ (by rw[j];exact n),j]
 refine PySem.call_set_list o l.isList (ns:=ns) (by simpa using wQ b) (by rw[S8];unfold scanBound;lia) λd c S i=>?_
 rw[fm]at S;have j:L2.Inv X a g m {h with heap:=d,toks:=c}:=f.kept λb u e=>i b u (Qp e) e
 refine wpAny_pure ?_;obtain⟨o,e,a,y,z,t,b,_,_,f,g⟩:=S.objOf;refine call_len_set (s:={h with heap:=d,toks:=c}) e a b g (by lia) ?_;exact⟨.int (ns.length:Int),m,_,j.tok _,⟨_,by rw[f]⟩,p,Den.int _,q⟩
def yF(te:DE):DA:=λa R=>te a λd=>∃n:Nat,d=.int (n:Int)/\n<=900/\R (((List.range n).map λ(k:Nat)=>(k:Int)).map D.int)
def CU {p a:Pos} (o:X.calm=true) (l:Gl X "list") (k:X.mg "list" = none) (c:Gl X "range") (b:X.mg "range" = none) (m:P5 X e te)
  (g:starEach [.Call (.Name "range" a) [e] [] Q4] X.env=(false,eval (.Call (.Name "range" a) [e] [] Q4) X.env)::starEach [] X.env:=by rfl) (q:(backTo pos (starEach [] X.env)).any (·.1)=false:=by rfl)
  (d:starEach [e] X.env=(false,eval e X.env)::starEach [] X.env:=by rfl) (n:(backTo Q4 (starEach [] X.env)).any (·.1)=false:=by rfl) :
  TP X (.Call (.Name "list" p) [.Call (.Name "range" a) [e] [] Q4] [] pos) (yF te):=by
 intro f s i H W j Q I r h;refine VE (cE I l k boot_list ?_ (by decide) (by decide));refine PyProof.Rows.callWith_type1 ?_ g q;rw[g];show wpAny _ _ (spliced ((false,eval (.Call (.Name "range" a) [e] [] Q4) X.env)::backTo pos (starEach [] X.env))) _ _ s;refine Calls.spliced_cons ?_;refine VE (cE I c b boot_range ?_ (by decide) (by decide));refine PyProof.Rows.callWith_type1 ?_ d n;rw[d];show wpAny _ _ (spliced ((false,eval e X.env)::backTo Q4 (starEach [] X.env))) _ _ s;refine Calls.spliced_cons (Px (m f s i H W j _ I r h) λu g j=>?_);obtain⟨v,r,d,h,a,p,b,n,c,A,q⟩:=j;subst c;cases b.QH;obtain⟨j,rfl⟩:=a;refine wpAny_pure (call_range_1 (wpAny_pure ?_));obtain⟨d,z⟩:=xb (a:=0) (b:=(n:Int)) (c:=1) (by decide) (by decide) (by lia) (by lia) (by decide) (by decide);have a:Builtin.Range.rangeSize 0 (n:Int) 1=(n:Nat):=by unfold Builtin.Range.rangeSize;simp;lia
 refine call_list_range (n:=n) (h.ok.hd o) (IsRange.new ..) d a (by lia) λm c a x k w d=>?_
 have y:∀b o,g.heap.get? b=some o->m.get? b=some o:=λb o e=>k b o (QN _ e)
 have l:g.heap.objs.size<=(g.heap.push {cls:=.type "range", data:=.fields #[.int 0 g.toks,.int (n:Int) j,.int 1 (g.toks+1)]}).objs.size:=by rw[Yr];exact Nat.le_succ _
 have b:r _=none:=h.PW.fresh l;have u:IntsAre a.toList ((List.range n).map λ(k:Nat)=>(k:Int)):=SW.r9 (by simp[d.1]) λj v s=>by
  have o:a[j]?=some v:=by simpa using s
  have s:j<n:=by rw[<- d.1];exact(Yj.mp o).1
  obtain⟨t,e⟩:=d.2 j v o;exact⟨(j:Int),t,by simp[s],by rw[e];simp⟩
 have d:L2.Inv X f i (L2.upd r _ (.lst (((List.range n).map λ(k:Nat)=>(k:Int)).map V.int))) {g with heap:=m,toks:=c} :=
  h.laid y l ⟨by rw[sizeLine_eq];simp;lia,a.toList,x,gS u,by simpa using w⟩
 have a:=Inv.kno d aJ;exact⟨_,_,_,_,rfl,d,p.trans (aw.upd b),p.free b,a,aJ,aj.apart b a (C9 _),q⟩
def KT1 (K:yac) (b:Addr) (ns:yaf):Prop:=∃(d:Option Addr) (a:yao) (n:Nat) (c:Array (yan)),K.lookup b=some ⟨.type "tuple", d,.seq a n,c⟩/\a.size<=9/\Vals (ns.map V.int) a.toList
def KTs(K:yac):yae->List (yaf)->Prop
 |[],a=>a=[]
 |b::c,a=>∃n r,a=n::r/\KT1 K b n/\KTs K c r
def KTT (K:yac) (f:yam) (x:Str) (g:List (yaf)):Prop:=∃(a:Addr) (c:yae) (e:Option Addr) (b:yao) (n:Nat) (d:Array (yan)),f x=some (.ref a)/\K.lookup a=some ⟨.type "tuple", e,.seq b n,d⟩/\b.size<=9/\b.toList=c.map Value.ref/\KTs K c g
theorem q9{K:yac}{P:yak}{H:Hp}:∀{bs:yae} {a:List (yaf)},KTs K bs a->Vals (bs.map V.ref) (bs.map Value.ref)/\aj K P H (a.map tupI) (bs.map V.ref)
 |[],_,h=>by cases(show _=[]from h);exact⟨.nil,rfl⟩
 |b::bs,_,h=>by obtain⟨n,r,rfl,⟨_,a,_,_,e,z,v⟩,h⟩:=h;exact⟨.cons rfl (q9 (P:=P) (H:=H) h).1,aj.cons (Den.tup (.inr ⟨_,a,_,e,rfl,rfl,QM z (by rw[sizeLine_eq];lia),v⟩) (C9 _)) (q9 h).2⟩
def G9 {x:Str} {a:List (yaf)} (h:KTT X.K X.mg x a) (c:Gl X x:=by rfl) (d:(x==("__debug__" : Str))=false:=by decide):P5 X (.Name x pos) (dC (.tup (a.map tupI))):=by obtain⟨a,l,k,i,n,j,b,e,z,g,f⟩:=h;exact P5.of (qS (v:=.ref a) c b rfl d) λ_ H W _ _ _ q=>⟨aw.refl H,_,Den.tup (.inr ⟨_,i,n,e,rfl,rfl,QM z (by rw[sizeLine_eq];lia),by rw[g];exact(q9 (P:=W.bad) (H:=H) f).1⟩) (q9 f).2,q⟩
end
section
variable{X:Cx}
def gT(t:Bool)(g:yaf×yaf):D:=.tup [.lst t (g.1.map D.int),.lst t (g.2.map D.int)]
def gD(t:Bool)(b:List (yaf×yaf))(a:D):D:=.tup [.lst t (b.map (gT t)),a]
def Lg(h:aG pl=pl):aG (gD true a pl)=gD false a pl:=by
 have e:bb (a.map (gT true))=a.map (gT false):=by
  induction a with
  |nil=>rfl
  |cons g a ih=>rw[QO,br,ih];simp only[gT,aG,br,bM,cM,QO]
 simp only[gD,aG,br,bM,h,e]
def NA{y:Str}{pos:Pos}(i:Nat)(k:X.N.Nodup)(d:P5 X e te)(g:X.N[i]?=some y:=by rfl)(f:Loc X.env.scope y:=by first|exact Or.inl rfl|exact Or.inr rfl)(hs:swapsWith e (some (.Name y py)) pos.line X.env=pure false:=by rfl)
  (j:X.fn y=true∨X.env.scope.names.lookup y=some .local:=by first|exact .inl rfl|exact .inr rfl|assumption):PSV X (.Assign [.Name y py] e pos) i te:=by
 intro a s b H W c Q I r h;refine zC7 (Px (d a s b H W c Q I r h) λu m e=>?_) hs;obtain⟨v,i,d,h,a,c,b,q⟩:=e;exact c8 h k g f a (λl a=>⟨rfl,v,i,d,a,c,b,q⟩) j
def Cq(d:D):Prop:=∀(K:yac) (P:yak) (H:Hp) (v:V),Den K P H d v->Den K (λt a=>P t a∨P true a) H d v
def Gr(d:D):Prop:=∀(K:yac) (P:yak) (H:Hp) (v:V) (Z:Addr->Prop),(∀a o,H a=some o->K.lookup a=none) →
 (∀a,Z a->∃b,H a=some (.lst b)/\∀u r,b=u::r->(∃i,u=.int i)∨∃ t x b,u=.ref t/\Ql K H t (.ref x::b))->Den K P H d v->Den K (λt a=>P t a∨Z a) H d v
def GI{d:D}(h:kJ d=true):Cq d:=λ_ _ _ v a=>Den.Wu d v h a
def oW{ds:yas}(h:dO ds=true):Cq (.lst true ds):=λ_ _ _ v b=>by obtain⟨a,c,rfl,n,q,a⟩:=b.Sr;exact Den.lst (λz=>n (z.elim id id)) q (aj.Wu _ _ h a)
def zG(ns:yaf):dO (ns.map D.int)=true:=by
 induction ns with
 |nil=>rfl
 |cons n ns ih=>exact ih
def Lz{e:List (yaf×yaf)}{d:D}(h:kJ d=true):Cq (gD true e d):=λK P H v g=>by
 obtain⟨a,m,rfl,q,c⟩:=g.RA;obtain⟨x,y,rfl,a,k⟩:=gA c;obtain⟨b,j,rfl,f,b,i⟩:=a.Sr;refine Den.tup q (aj.cons (Den.lst (λz=>f (z.elim id id)) b ?_) (aj.cons (Den.Wu d y h k) rfl));clear c a f b q g
 induction e generalizing j with
 |nil=>exact i
 |cons g e ih =>
  obtain⟨v,r,rfl,d,b⟩:=i;refine aj.cons ?_ (ih _ b);obtain⟨t,l,rfl,q,c⟩:=d.RA;obtain⟨x,z,rfl,a,b⟩:=gA c;exact Den.tup q (aj.cons (oW (zG _) K P H x a) (aj.cons (oW (zG _) K P H z b) rfl))
def JW{d:D}(h:kJ d=true):Gr d:=λ_ _ _ v _ _ _ a=>Den.Wu d v h a
def Iu{K:yac}{H:Hp}{t:Addr}{i:Int}{x:Addr}{r xs:yar}(f:∀a o,H a=some o->K.lookup a=none)(h:Ql K H t (.int i::r))(k:Ql K H t (.ref x::xs)):False:=by
 rcases h with h|⟨o,i,n,h,_,g,_,e⟩<;>rcases k with k|⟨j,d,m,k,_,c,_,b⟩;rw[h]at k;cases k;rw[f t _ h]at k;cases k;rw[f t _ k]at h;cases h;rw[h]at k;cases k;rw[g]at c;cases c;generalize i.toList=l at e b;cases e with
 |cons a _=>cases b with
  |cons b _=>obtain⟨t,rfl⟩:=a;cases b
def Hh{t:Bool}{i:Int}{ws ds:yas}(h:dO (.tup (.int i::ws)::ds)=true):Gr (.lst t (.tup (.int i::ws)::ds)):=λK P H v Z d e c=>by
 obtain⟨a,m,rfl,n,q,b⟩:=c.Sr;refine Den.lst (λz=>z.elim n λz=>?_) q (aj.Wu _ _ h b);obtain⟨p,c,g⟩:=e a z;have e:=Nw q.1 c (d a _ c);obtain⟨o,r,rfl,f,_⟩:=b;obtain⟨x,a,rfl,b,c⟩:=f.RA;obtain⟨l,k,rfl,f,_⟩:=c;have c:=Den.QH f;subst c;rcases g _ _ e.symm with⟨i,z⟩| ⟨t,j,a,z,a⟩;cases z;cases z;exact Iu d b a
theorem Mz{K:yac}{P:yak}{H:Hp}:∀{b:List (yaf×yaf)} {vs:yar},(∀g∈b,g.1.length<=9/\g.2.length<=9)->aj K P H (b.map (gT true)) vs →
  ∃ a:yae,(∀v∈vs,∃t c e,v=.ref t/\Ql K H t [.ref c,.ref e]/\c∈a/\e∈a)/\∀z∈a,∃ns:yaf,H z=some (.lst (ns.map V.int))/\ns.length<=9/\¬P true z/\K.lookup z=none
 |[],vs,_,h=>by cases(show vs=[]from h);exact⟨[],by simp,by simp⟩
 |g::b,vs,d,h=>by
  obtain⟨v,r,e,b,f⟩:=h;subst e;obtain⟨a,o,n⟩:=Mz (λg q=>d g (R4 _ q)) f;obtain⟨t,s,rfl,q,h⟩:=b.RA;obtain⟨x,y,rfl,f,k⟩:=gA h;obtain⟨c,w,rfl,j,h,m⟩:=f.Sr;obtain⟨e,u,rfl,i,f,l⟩:=k.Sr;cases cc m;cases cc l;refine⟨c::e::a,λv b=>?_,λz a=>?_⟩;rcases Qg.mp b with rfl|b;exact⟨t,c,e,rfl,q,by simp,by simp⟩;obtain⟨c,k,e,q,p,m,l⟩:=o v b;exact⟨c,k,e,q,p,by simp[m],by simp[l]⟩;rcases Qg.mp a with rfl|a;exact⟨_,(h.2 rfl).1,(d g (by simp)).1,j,(h.2 rfl).2⟩;rcases Qg.mp a with rfl|a;exact⟨_,(f.2 rfl).1,(d g (by simp)).2,i,(f.2 rfl).2⟩;exact n z a
def NI{H:Hp}{d:yae}{k:Nat}{c:Addr}{ws:yar}(h:∀a∈d,∃b,H a=some (.lst b)/\b.length<=k)(f:ws.length<=k):∀a∈d,∃b,L2.upd H c (.lst ws) a=some (.lst b)/\b.length<=k:=λa b=>by by_cases e:a=c;subst e;exact⟨ws,aJ,f⟩;rw[aC e];exact h a b
def aw.off{H':Hp}{Z:Addr->Prop}(e:aw G H)(n:∀a,Z a->G a=none)(c:∀a,¬Z a->H' a=H a)(ok:dm H->dm H'):aw G H' where
 kp:=λb o h a=>by rw[c b λz=>by rw[n b z]at h;cases h];exact e.kp b o h a
 tb:=λb a h=>by rw[c b λz=>by rw[n b z]at h;cases h];exact e.tb b a h
 ok:=λk=>ok (e.ok k)
def NF(K:yac)(ix i1 i2:Nat):TS:=NC (Ja K (tOp (HZ K) (wj ix) (tC (.int 0)))) (My K 2 (C2 (C3 i1) (C2 (C3 i2) Mx)))
 (ND (xO (tBM K "list" B7 (wj i1) (qZ (tC (.int 0)) DL))) (xO (Iv K "list" FK (wj i2))))
def O4 (K:yac) (ix:Nat):TS:=xO (Iv K "list" Nk (tOp (HZ K) (wj ix) (tC (.int 0))))
def OT{K:yac}{ix i1 i2:Nat}{g:St}{H:Hp}{h b:Addr}{i:V}{vs:yar}{f:yae}{D:Ends}(m:g[ix]?=some (some (.ref h)))(B:i1<g.length)(A:i2<g.length)(k:i1≠i2)(n:Ql K H h [.ref b,i])
  (q:H b=some (.lst vs)) (o:b∉f) (C:∀v∈vs,∃t c e,v=.ref t/\Ql K H t [.ref c,.ref e]/\c∈f/\e∈f) (hz:∀z∈f,∃d,H z=some (.lst d)/\d.length<=9) (E:vs.length<=9)
  (r:∀l H',(∀j,j≠i1->j≠i2->l[j]?=g[j]?)->(∀a,a∉f->H' a=H a)->(∀z∈f,∃d,H' z=some (.lst d))->D.nx l H'):NF K ix i1 i2 D g H:=by
 refine⟨.ref h,m,h,_,0,.ref b,rfl,rfl,n.w,rfl,b,rfl,⟨vs,SqL.of q⟩,λi m l H'=>m=vs.length - i/\i<=vs.length/\(∀j,j≠i1->j≠i2->l[j]?=g[j]?)/\l.length=g.length/\(∀a,a∉f->H' a=H a)/\∀z∈f,∃d,H' z=some (.lst d)/\d.length<=9+i,
  ⟨_,rfl,RS _,λ_ _ _=>rfl,rfl,λ_ _=>rfl,hz⟩,λi m l H' ⟨L,J,u,p,n,m⟩=>?_⟩
 have s:H' b=some (.lst vs):=by rw[n b o];exact q
 by_cases h:i<vs.length;refine .inr ⟨⟨vs,vs[i],SqL.of s,Qw h⟩,_,λo q (h:i+1<=vs.length/\(∀j,j≠i1->j≠i2->o[j]?=g[j]?)/\o.length=g.length/\(∀a,a∉f->q a=H a)/\∀z∈f,∃d,q z=some (.lst d)/\d.length<=9+(i+1))=>⟨vs.length - (i+1),by lia,rfl,h⟩,λx g f=>?_⟩;obtain⟨h,f⟩:=f;subst h;have h:=f vs (SqL.of s);obtain⟨t,c,e,rfl,q,y,w⟩:=C x (Rt h);have f:Ql K g t [.ref c,.ref e]:=q.imp (λq=>by rw[n t λz=>by obtain⟨d,g,_⟩:=hz t z;rw[g]at q;cases q];exact q) id;refine⟨t,_,rfl,f.w,rfl,.ref c,_,rfl,.ref e,_,rfl,rfl,?_⟩;obtain⟨o,g,I⟩:=m c y;have C:((l.set i1 (some (.ref c))).set i2 (some (.ref e)))[i1]?=some (some (.ref c)):=by rw[Sq (Ne.symm k),V4 (by rw[p];exact B)]
 have B:((l.set i1 (some (.ref c))).set i2 (some (.ref e)))[i2]?=some (some (.ref e)):=V4 (by rw[XS,p];exact A);have t:=NI (k:=9+(i+1)) (c:=c) (ws:=o++[V.int 0]) (λa f=>by obtain⟨d,h,i⟩:=m a f;exact⟨d,h,by lia⟩) (by rw[Sw];simp;lia);obtain⟨k,A,G⟩:=t e w;refine⟨.ref c,C,.inl ⟨rfl,o,SqL.of g⟩,c,o,.int 0,rfl,rfl,g,by rw[sizeLine_eq];lia,.ref e,B,.inl ⟨rfl,k,SqL.of A⟩,e,k,rfl,rfl,A,by lia,λj a b=>?_,by rw[XS,XS,p],λa f=>?_,NI t (RS _)⟩;rw[Sq (Ne.symm b),Sq (Ne.symm a)];exact u j a b;have h:a≠e:=λz=>f (z ▸ w)
 have i:a≠c:=λz=>f (z ▸ y)
 rw[aC h,aC i];exact n a f;exact .inl ⟨⟨vs,SqL.of s,by lia⟩,r l H' u n λz q=>by obtain⟨d,x,_⟩:=m z q;exact⟨d,x⟩⟩
end
section
variable{X:Cx}{pos:Pos}
theorem B6(ns:yaf):∀k,k<=ns.length->preSum (λi=>ns.getD i 0) k=(ns.take k).sum
 |0,_=>by simp[preSum]
 |k+1,h=>by
  rw[Ys,List.sum_append,<- B6 ns k (by lia)];have l:k<ns.length:=by lia
  simp[preSum,l]
def JG (w:X.calm=true):fy X (.builtin "sum") (λds Q=>∃ns:yaf,ds=[.tup (ns.map D.int)]/\Q (.int ns.sum)):=by
 intro h s B H W ds E G Q I J r u q;obtain⟨ns,e,q⟩:=q;subst e;obtain⟨v,rfl,y⟩:=mZ u;obtain⟨a,C,z,p,o⟩:=y.RA;subst z;cases r with
 |cons l k =>
  cases k;cases l;obtain⟨g,c,d,_⟩:=I.tuple p.w;rw[cc o]at c;have n:=intsAre_of c;have m:g.length=ns.length:=by rw[<- c.length,Pq]
  have j:a<s.heap.objs.size:=by obtain⟨_,e,_⟩:=d;exact Qp e
  refine call_sum_walkG (wpAny_pyIter_tuple d ?_);refine⟨s.heap.objs.size,[s.heap.objs.size,a],[s.heap.objs.size],g.toArray.size,_,_,λi=>ns.getD i 0,rfl,Walks.tuple (A:=X.A.in1) (I.ok.hd w) _ a (QU j) g.toArray,⟨⟨_,Sv _ rfl,rfl,rfl⟩,d.push _⟩,λb f=>?_,λi v x=>?_,λN L M t=>?_⟩;rw[Yr];rcases Qg.mp f with rfl|f;exact W5 _;rw[SM.mp f];exact Y7 j;exact IntsAre.int_at n i v (by simpa using x);rw[S8,m,B6 ns _ (Qu _),Vv];exact⟨.int ns.sum,H,_,I.kept (LSm.kept_iter t),⟨_,rfl⟩,aw.refl H,Den.int _,q⟩
end
section
variable{X:Cx}{k:Nat}{ps:yah}{sp:DSp}{x:Str}{p pos:Pos}{e:Expr}{es:yai}{t:DA}
theorem Den.ra{K:yac}{P:yak}{H:Hp}{a:Addr}{vs:yar}(p:¬P false a)(q:RU K H false a vs):Den K P H (.ra a) (.ref a):=by simp only[Den];exact⟨True.intro,p,vs,q⟩
def Bm(sp:DSp)(t:DA):DE:=λa Q=>t a λa=>∃c x b,a=[c,.tup [x,.lst true b]]/\∀a,sp [aG c,.tup [aG x,.ra a]] (λd=>∃z,d=.tup [z,.ra a]/\Q (.tup [z,.lst true b])) λ_=>False
def EE (h:QG X.prog X.w X.K X.mg X.base x k ps sp) (B:b6 k X.A) (l:Uo X (e::es) t) (i:Gl X x:=by rfl) (m:(x==("__debug__" : Str))=false:=by decide)
  (j:starEach (e::es) X.env=(false,eval e X.env)::starEach es X.env:=by rfl) (n:(backTo pos (starEach es X.env)).any (·.1)=false:=by rfl):P5 X (.Call (.Name x p) (e::es) [] pos) (Bm sp t):=by
 obtain⟨f,fd,F,f,g,C⟩:=h;intro a s b H W c Q I d h;refine VE (kr I i f ?_ m);refine PySem.W.callWith_K (h₀:=X.base) I.ok.mod.Zf g (Px (l pos a s b H W c _ I d h) λY s1 ⟨T,g,ds,u,r,o,a,q⟩=>⟨u.Ug,?_⟩) j n;obtain⟨s,x,G,rfl,q⟩:=q;obtain⟨w,U,rfl,c,i⟩:=gA a;obtain⟨y,M,rfl,z,a⟩:=i.RA;obtain⟨O,N,rfl,A,f⟩:=gA a;obtain⟨b,bs,rfl,n,m,E⟩:=f.Sr;have j:=d.same o;have l:∀{d:D} {v:V},Den X.K W.bad g d v->Den X.K (λt a=>t=true∨W.bad false a) g (aG d) v:=λh=>Den.aG (λ_ _=>Own.Tb) _ _ h
 have f:aj X.K (λt a=>t=true∨W.bad false a) g [aG s,.tup [aG x,.ra b]] [w,.ref y] :=
  aj.cons (l c) (aj.cons (Den.tup z (aj.cons (l A) (aj.cons (Den.ra (λz=>z.elim (λz=>by cases z) λz=>n (Own.Tb z)) (RU.any m.1)) rfl))) rfl)
 refine Px (FQ (Q:=λv a=>aw g a/\∃d,Den X.K W.bad a d v/\Q d) F B C .nil Jh u r ⟨W.bad false,[aG s,.tup [aG x,.ra b]]++[],_,λ_=>False,j.tab,j.tracked false,f,q b,λd v a e c b=>?_,λ_ _ _ _ z=>z.elim⟩)
  λu s2 g=>(by obtain⟨v,l,h,a,f,d,c,i⟩:=g;exact⟨v,l,d,h,a,o.trans f,c,i⟩)
 obtain⟨z,a,d⟩:=b;subst a;obtain⟨t',Zw,rfl,b,a⟩:=(Den.back j.tracked c).RA;obtain⟨L,J,rfl,f,c⟩:=gA a;obtain⟨a,_⟩:=c.ra_;subst a;exact⟨e,_,Den.tup b (aj.cons f (aj.cons (Den.lst n (m.same e) (E.same e)) aj.nil)),d⟩
end
section
variable{X:Cx}
def Br(ix iy i1 i2:Nat)(f:DE)(t:DB):DB:=λQ b=>∃(a:List (yaf×yaf)) (c:D),b[ix]?=some (some (.val (gD true a c)))/\aG c=c/\a ≠ []/\a.length<=9/\(∀g∈a,g.1.length<=9/\g.2.length<=9) ∧
 (∀d,some (Sl.val d)∈b.set ix none->Gr d)/\(∀x,some (Sl.ob x)∈b->∃e,x=OS.lst e/\dO e=true) ∧
 f (b.set ix (some (.val (gD false a c)))) λe =>
  (∀d,some (Sl.val d)∈((b.set ix (some (.val (gD false a c)))).set iy (some (.val e))).set ix none->Cq d) ∧
  t Q (((((b.set ix (some (.val (gD false a c)))).set iy (some (.val e))).set ix none).set i1 none).set i2 none)
def Eh{d c b:Stmt}{rest:yal}{a:DE}{t:DB}{U x2 y:Str}{ix iy i1 i2:Nat}(hy:X.N[iy]?=some y)(hn1:X.N[i1]?=some U)(hn2:X.N[i2]?=some x2)
  (ne:ix≠iy/\i1≠i2/\ix≠i1/\ix≠i2) (P1:PSV X d iy a) (PF:PS X c (NF X.K ix i1 i2)) (PP:PS X b (O4 X.K ix)) (h5:Ww X rest t) :
  Ww X (d::c::b::rest) (Br ix iy i1 i2 a t):=by
 intro p s M H W d Q I r s0 ht;obtain⟨x,N,j,A,gn,gl,i,c,E,ht⟩:=ht;obtain⟨v,Y,b⟩:=r.val ix _ j;have y:=b;obtain⟨C,ws,rfl,qT,a⟩:=b.RA;obtain⟨w0,w1,rfl,e,_⟩:=gA a;obtain⟨b,g,rfl,h,f,a⟩:=e.Sr;have L:=(f.2 rfl).1;have kb:=(f.2 rfl).2;obtain⟨m,J,B⟩:=Mz i a;have f:g.length=x.length:=by rw[a.len,Pq]
 have hbz:b∉m:=λz=>by
  obtain⟨G,e,_⟩:=B b z;rw[L]at e;have i:g=G.map V.int:=HO.lst.inj (Uy e);have lp:0<g.length:=by rw[f];exact zCs.mpr gn
  obtain⟨t,_,_,q,_⟩:=J g[0] (Uu lp);have a:g[0]∈G.map V.int:=i ▸ Uu lp;rw[q]at a;obtain⟨n,_,f⟩:=P6.mp a;cases f
 have hZ:∀a∈b::m,(∃k,H a=some (.lst k))/\¬W.bad true a:=λa ha=>by
  rcases Qg.mp ha with rfl|ha;exact⟨⟨_,L⟩,h⟩;obtain⟨G,e,_,n,_⟩:=B a ha;exact⟨⟨_,e⟩,n⟩
 have nO:∀i a,W.O i=some a->a∉b::m:=λi a h z=>(hZ a z).2 (.inr (.inl ⟨i,h⟩))
 let W2:Own:=⟨W.B,W.O,λa=>W.S a∨a∈b::m⟩
 have u:∀t a,W2.bad t a->W.bad t a∨a∈b::m:=λt a z=>by
  rcases z with z|z|⟨w,z2|z2⟩;exact .inl (.inl z);exact .inl (.inr (.inl z));exact .inl (.inr (.inr ⟨w,z2⟩));exact .inr z2
 have O:ix<d.length:=(RQ.mp j).1;have f:∀{j:Nat} {z:Option Sl} {o:Option Sl},j≠ix->(d.set ix o)[j]?=some z->d[j]?=some z:=λe h=>by rw[Sq (Ne.symm e)]at h;exact h
 have l:Rel X W2 H M (d.set ix (some (.val (gD false x N)))):=by
  refine⟨λj d h=>?_,λj x h=>?_,r.inj,λj a h=>?_,r.ke,r.bt,λa h=>?_,r.ent,r.tab⟩;by_cases e:j=ix;subst e;rw[V4 O]at h;cases h;rw[<- Lg A];exact⟨_,Y,(Den.aG (P':=W.bad false) (λ_ _=>Own.Tb) _ _ y).P4 λt a z=>by
   cases t with
   |true=>exact .inl rfl
   |false =>
    rcases z with z|z|⟨w,_⟩;exact .inr (.inl z);exact .inr (.inr (.inl z));cases w⟩
  obtain⟨w,y,A⟩:=r.val j d (f e h);refine⟨w,y,(c d (Rt (by rw[Sq (Ne.symm e)];exact f e h)) X.K _ H w (λa=>a∈b::m) (λa o q=>Inv.kno I q) (λa ha=>?_) A).P4 u⟩;rcases Qg.mp ha with rfl|ha;refine⟨g,L,λu r N=>.inr ?_⟩;obtain⟨t,c,e,y,A,_⟩:=J u (by rw[N];exact T9);exact⟨t,c,_,y,A⟩;obtain⟨G,e,_⟩:=B a ha;refine⟨_,e,λu r N=>.inl ?_⟩;cases G with
  |nil=>cases N
  |cons n G=>cases N;exact⟨n,rfl⟩
  have e:j≠ix:=λe=>by subst e;rw[V4 O]at h;cases h
  obtain⟨T,rfl,hn⟩:=E x (Rt (f e h));obtain⟨a,g,y,A,N,O⟩:=r.pN j T (f e h);exact⟨a,.lst g,y,A,N,.lst (aj.Wu T g hn O)⟩;obtain⟨y,⟨A,N⟩,O⟩:=r.kn j a h;exact⟨y,⟨A,λz=>z.elim N (nO j a h)⟩,O⟩;rcases h with h|h;exact r.st a h;obtain⟨k,e⟩:=(hZ a h).1;exact⟨_,e⟩
 have T:iy<M.length:=Inv.Vb I hy;refine XR (Px (P1 p s M H W2 _ _ I l ht) λf O Py=>?_);obtain⟨H,v1,s,d1,I3,r,I,Sd,ht⟩:=Py;subst H;have r3:=(l.same r).put T I;have T:(M.set iy (some v1))[ix]?=some (some (V.ref C)):=by rw[Sq (Ne.symm ne.1)];exact Y
 have Y:Ql X.K s C [.ref b,w1]:=Ql.same r qT;have I:s b=some (.lst g):=r _ _ L;have H:∀z∈m,∃k,s z=some (.lst k)/\k.length<=9:=λz q=>by obtain⟨G,e,l,_⟩:=B z q;exact⟨_,r _ _ e,by rw[Pq];exact l⟩
 refine XR (Px (PF p O _ s {nx:=λO L=>(∀j,j≠i1->j≠i2->O[j]?=(M.set iy (some v1))[j]?)/\(∀a,a∉m->L a=s a)/\∀z∈m,∃k,L z=some (.lst k),rt:=λ_ _=>False} I3
  (OT T (Inv.Vb I3 hn1) (Inv.Vb I3 hn2) ne.2.1 Y I hbz (λv q=>by obtain⟨t,c,e,a1,G,B⟩:=J v q;exact⟨t,c,e,a1,Ql.same r G,B⟩) H (by lia) λO L a b c=>⟨a,b,c⟩)) λf s4 q=>?_)
 cases f with
 |ret w=>obtain⟨_,_,_,_,_,z⟩:=q;exact z.elim
 |brk=>obtain⟨_,_,_,z⟩:=q;exact z.elim
 |cont=>obtain⟨_,_,_,z⟩:=q;exact z.elim
 |next =>
 obtain⟨r,H4,I4,B,G,hz4⟩:=q;have J:H4 b=some (.lst g):=by rw[G b hbz];exact I
 have sx4:r[ix]?=some (some (V.ref C)):=by rw[B ix ne.2.2.1 ne.2.2.2];exact T
 have T:Ql X.K H4 C [.ref b,w1]:=Y.imp (λq=>by rw[G C λz=>by obtain⟨k,y,_⟩:=H C z;rw[y]at q;cases q];exact q) id;have lp:g.length - 1<g.length:=by have:=zCs.mpr gn;lia
 refine XR (Px (PP p s4 r H4 {nx:=λO L=>O=r/\L=L2.upd H4 b (.lst g.dropLast),rt:=λ_ _=>False} I4 ⟨.ref C,sx4,C,_,0,.ref b,rfl,rfl,T.w,rfl,.inl ⟨rfl,g,SqL.of J⟩,b,g,_,rfl,rfl,J,Qw lp,rfl,rfl⟩) λf s5 q=>?_);cases f with
 |ret w=>obtain⟨_,_,_,_,_,z⟩:=q;exact z.elim
 |brk=>obtain⟨_,_,_,z⟩:=q;exact z.elim
 |cont=>obtain⟨_,_,_,z⟩:=q;exact z.elim
 |next =>
 obtain⟨T,J,Y,rfl,C⟩:=q;have g:∀a,a∉b::m->J a=s a:=λa h=>by
  have U:a≠b:=λz=>h (z ▸ T9)
  rw[C,aC U];exact G a λz=>h (R4 _ z)
 have r:∀a,a∈b::m->∃k G,s a=some (.lst k)/\J a=some (.lst G):=λa h=>by by_cases e:a=b;subst e;exact⟨_,_,I,by rw[C];exact aJ⟩;have h:=(Qg.mp h).resolve_left e;obtain⟨k,U,_⟩:=H a h;obtain⟨G,x2⟩:=hz4 a h;exact⟨k,G,U,by rw[C,aC e];exact x2⟩
 have H:∀{a:Addr} {o:HO},s a=some o->(∀k,o ≠ .lst k)->a∉b::m:=λh n z=>by obtain⟨k,_,x,_⟩:=r _ z;rw[h]at x;cases x;exact n k rfl
 have C:dm s->dm J:=λk P s n=>by rw[g P λz=>by obtain⟨_,G,_,x⟩:=r P z;rw[x]at n;cases n]at n;obtain⟨G,I⟩:=k P s n;refine⟨G,λk U h=>?_⟩;obtain⟨c,G,n⟩:=I k U h;exact⟨c,G,by rw[g c (H n (by intro _ z;cases z))];exact n⟩
 have n:jE X.K J:=⟨C r3.tab.ok,λP q=>by obtain⟨s,z⟩:=r3.tab.at' P q;exact⟨s,by rw[g P (H z (by intro _ z;cases z))];exact z⟩⟩;have s:aw X.Qj J:=aw.off (Z:=λa=>a∈b::m) r3.ent (λa z=>by
  cases e:X.Qj a with
  |none=>rfl
  |some o=>exact absurd (.inr (.inr ⟨rfl,s0 a o e⟩)) (hZ a z).2) g C
 have c:∀{l:Ro} {i j:Nat} {z:Sl},(l.set i none)[j]?=some (some z)->j≠i/\l[j]?=some (some z):=fun {l i j z} h=>by by_cases e:j=i;subst e;by_cases q:j<l.length;rw[V4 q]at h;cases h;rw[Y3 (by rw[XS];lia)]at h;cases h;rw[Sq (Ne.symm e)]at h;exact⟨e,h⟩
 have C:∀{l:Ro} {i j:Nat} {d:D} {x:OS},(l.set i (some (.val d)))[j]?=some (some (.ob x))->l[j]?=some (some (.ob x)):=fun {l i j d x} h=>by by_cases e:j=i;subst e;by_cases q:j<l.length;rw[V4 q]at h;cases h;rw[Y3 (by rw[XS];lia)]at h;cases h;rw[Sq (Ne.symm e)]at h;exact h
 have k:=(((r3.forget ix).forget i1).forget i2).apart (Z:=λa=>a∈b::m) g r (λi a b=>by
  have z:(if i=iy then none else W.O i)=some a:=b;split at z;cases z;exact nO i a z) (λj d v b _ g=>(Sd d (Rt (c (c b).2).2) _ _ _ _ g).P4 λt a z=>z.imp id λz=>.inr (.inr ⟨rfl,.inr z⟩))
  (λj x b=>E x (Rt (C (C (c (c (c b).2).2).2)))) s n
 have g:T.length=(M.set iy (some v1)).length:=Y.len.trans I3.len.symm;have b:Rel X (W2.drop iy) J T _:=⟨λj d h=>by
  obtain⟨w,y,A⟩:=k.val j d h;exact⟨w,by rw[B j (c (c h).2).1 (c h).1];exact y,A⟩,λj x h=>by
  obtain⟨a,o,y,A,N⟩:=k.own j x h;rw[<- g]at N;exact⟨a,o,y,by rw[B j (c (c h).2).1 (c h).1];exact A,N⟩,k.inj,k.kn,k.ke,k.bt,k.st,k.ent,k.tab⟩
 exact Px (h5 p s5 _ J _ _ Q Y b (λa o e=>.inl (s0 a o e)) ht) λf s6 f=>(by obtain⟨u,v,d,O,L,G,g,c,b,e,q⟩:=f;exact⟨u,v,d,O,L,G,g,c,b,e.P4 (λt a z=>z.elim .inl λz=>.inr ⟨z.1,.inl z.2⟩),q⟩)
end
end PD
namespace LW
open PySem PySem.Spec PyProof.Rows L2 PD
seal PD.c6 PD.Sf PD.P5 PD.Va PD.Ui PD.Uo PD.VQ PD.X6 PD.va PD.YL PD.TP PD.PKD PD.PPD PD.Yf PD.PFL PD.PPK PD.PEK
local macro_rules|`(tactic|kd_p)=>`(tactic| exact ⟨rfl, rfl, rfl, by decide +kernel, rfl, by decide +kernel, by decide +kernel⟩)
def top(i:Nat):Stmt:=PySem.Challenge.pw_halvecut_k62_three_groups.main.body.getD i (.Pass ⟨0,0,0,0⟩)
abbrev z9:Stmt:=top 7
abbrev gK:Stmt:=top 8
abbrev nY:Stmt:=top 9
abbrev pY:Stmt:=top 10
abbrev qY:Stmt:=top 11
abbrev vS:Stmt:=top 13
abbrev zZ:Stmt:=top 14
abbrev kQ:Stmt:=top 15
abbrev pW:Stmt:=top 16
abbrev sO:Stmt:=top 17
abbrev vQ:Stmt:=top 19
abbrev nZ:Stmt:=top 20
abbrev vR:Stmt:=top 21
abbrev vO:Stmt:=top 22
abbrev Aa:Stmt:=top 23
abbrev zW:Stmt:=top 24
abbrev pX:Stmt:=top 25
abbrev vP:Stmt:=top 27
abbrev uE:Stmt:=top 28
abbrev jO:Stmt:=top 29
abbrev nU:Stmt:=top 30
abbrev sQ:Stmt:=top 32
abbrev iJ:Stmt:=top 33
abbrev gJ:Stmt:=top 34
abbrev dg:Stmt:=top 35
abbrev pV:Stmt:=top 36
abbrev jq:Stmt:=top 38
abbrev ie:Stmt:=top 40
abbrev lJ:Stmt:=top 41
abbrev sM:Stmt:=top 42
abbrev jK:Stmt:=top 43
abbrev j2:Stmt:=top 44
abbrev uD:Stmt:=top 45
abbrev fO:Stmt:=top 47
abbrev j1:Stmt:=top 48
abbrev fq:Stmt:=top 49
abbrev j6:Stmt:=top 53
abbrev lK:Stmt:=top 54
abbrev mJ:Stmt:=top 55
abbrev jJ:Stmt:=top 56
abbrev iO:Stmt:=top 57
abbrev lY:Stmt:=top 59
abbrev jL:Stmt:=top 60
abbrev kP:Stmt:=top 61
abbrev nX:Stmt:=top 62
abbrev lX:Stmt:=top 63
abbrev jM:Stmt:=top 64
abbrev iN:Stmt:=top 65
abbrev nW:Stmt:=top 66
abbrev gg:Stmt:=top 67
abbrev nV:Stmt:=top 68
abbrev jN:Stmt:=top 69
abbrev j5:Stmt:=top 70
abbrev j4:Stmt:=top 71
abbrev sN:Stmt:=top 52
abbrev iK:Stmt:=top 52
abbrev iL:Stmt:=top 52
abbrev iM:Stmt:=top 52
def KY:aE ["number"] ["number"] (ak z9):=by kd_p
def dq:aE ["one", "other", "rest"] ["one", "other"] (ak gK):=by kd_p
def lL:aE ["numbers", "divisor", "number"] ["numbers"] (ak nY):=by kd_p
def n9:aE ["triple", "lead", "divisor"] ["triple", "lead"] (ak pY):=by kd_p
def gL:aE ["count", "size", "found", "length", "longer", "pick", "first"] ["count", "size"] (ak qY):=by kd_p
def Ip:aE ["gauge", "place"] ["gauge", "place"] (ak vS):=by kd_p
def KW:aE ["gauge", "place"] ["gauge", "place"] (ak zZ):=by kd_p
def xx:aE ["gauge", "other", "share"] ["gauge", "other", "share"] (ak kQ):=by kd_p
def Dx:aE ["one", "other"] ["one", "other"] (ak pW):=by kd_p
def FV:aE ["place", "way"] ["place", "way"] (ak sO):=by kd_p
def Il:aE ["by", "x", "y"] ["by", "x", "y"] (ak vQ):=by kd_p
def A0:aE ["spot"] ["spot"] (ak nZ):=by kd_p
def Im:aE ["one", "two", "three"] ["one", "two", "three"] (ak vR):=by kd_p
def Ik:aE ["one", "other"] ["one", "other"] (ak vO):=by kd_p
def KZ:aE ["one", "other"] ["one", "other"] (ak Aa):=by kd_p
def KU:aE ["way"] ["way"] (ak zW):=by kd_p
def Dy:aE ["way"] ["way"] (ak pX):=by kd_p
def sR:aE ["places", "kept", "each"] ["places"] (ak vP):=by kd_p
def Cf:aE ["spots", "places"] ["spots"] (ak uE):=by kd_p
def iQ:aE ["one", "other", "along", "across"] ["one", "other"] (ak jO):=by kd_p
def FU:aE ["corners"] ["corners"] (ak nU):=by kd_p
def FW:aE ["way"] ["way"] (ak sQ):=by kd_p
def uF:aE ["one", "other"] ["one", "other"] (ak iJ):=by kd_p
def rj:aE ["one", "other"] ["one", "other"] (ak gJ):=by kd_p
def eB:aE ["one", "two", "three", "turns"] ["one", "two", "three"] (ak dg):=by kd_p
def Dw:aE ["ways"] ["ways"] (ak pV):=by kd_p
def ik:aE ["spots", "place", "ways", "size", "numbers", "shares"] ["spots", "place"] (ak jq):=by kd_p
def gM:aE ["one", "other", "gauge", "here", "there"] ["one", "other", "gauge"] (ak ie):=by kd_p
def ig:aE ["corners", "gauge", "kept", "index", "one", "other"] ["corners", "gauge"] (ak lJ):=by kd_p
def pZ:aE ["corners", "gauges", "gauge"] ["corners", "gauges"] (ak sM):=by kd_p
def fP:aE ["corners", "gauges", "last"] ["corners", "gauges"] (ak jK):=by kd_p
def AY:aE ["gauges", "numbers", "shares"] ["gauges", "numbers", "shares"] (ak j2):=by kd_p
def mK:aE ["corners", "gauges", "last", "others", "numbers", "shares"] ["corners", "gauges"] (ak uD):=by kd_p
def eQ:aE ["lists", "found", "index", "spots"] ["lists"] (ak fO):=by kd_p
def gh:aE ["owned", "shares", "sums", "number", "share", "owner"] ["owned", "shares"] (ak j1):=by kd_p
def dW:aE ["lists", "owned", "gauges", "first", "shared"] ["lists"] (ak fq):=by kd_p
def A4:aE ["spots", "numbers"] ["spots", "numbers"] (ak j6):=by kd_p
def DC:aE ["group", "part"] ["group", "part"] (ak lK):=by kd_p
def sS:aE ["spots", "sizes", "groups", "found"] ["spots", "sizes"] (ak mJ):=by kd_p
def iP:aE ["spots", "choices", "sizes", "found"] ["spots", "choices"] (ak jJ):=by kd_p
def uH:aE ["spots"] ["spots"] (ak iO):=by kd_p
def Ab:aE ["_law_found"] ["_law_found"] (ak lY):=by kd_p
def vU:aE ["_law_script", "_law_k"] ["_law_script", "_law_k"] (ak jL):=by kd_p
def dX:aE ["_law_cell", "_law_many", "_law_found", "_law_number", "_law_k"] ["_law_cell", "_law_many"] (ak kP):=by kd_p
def lZ:aE ["_law_kind", "_law_xs", "_law_k", "_law_rim", "_law_far"] ["_law_kind", "_law_xs", "_law_k"] (ak nX):=by kd_p
def kR:aE ["_law_first", "_law_cells", "_law_spots_here", "_law_cell"] ["_law_first", "_law_cells"] (ak lX):=by kd_p
def fQ:aE ["_law_one", "_law_other", "_law_here", "_law_there"] ["_law_one", "_law_other"] (ak jM):=by kd_p
def uG:aE ["_law_found"] ["_law_found"] (ak iN):=by kd_p
def rH:aE ["_law_found", "_law_least", "_law_most", "_law_number"] ["_law_found", "_law_least", "_law_most"] (ak nW):=by kd_p
def dH:aE ["_law_group_here", "_law_spots_here", "_law_spot_here", "_law_k", "_law_right", "_law_above", "_law_numbers", "_law_shares"] ["_law_group_here", "_law_spots_here", "_law_spot_here"] (ak gg):=by kd_p
def jb:aE ["_law_found", "_law_spots_here", "_law_numbers", "_law_group_here"] ["_law_found", "_law_spots_here"] (ak nV):=by kd_p
def fR:aE ["_law_spots_here", "_law_caught", "error"] ["_law_spots_here"] (ak jN):=by kd_p
def AZ:aE ["_law_found"] ["_law_found"] (ak j5):=by kd_p
def jv:aE ["_law_script", "_law_first", "_law_spots_here", "_law_handed", "_law_found", "_law_old", "_law_numbers", "_law_shares"] ["_law_script"] (ak j4):=by kd_p
def w8:aE ["numbers", "sizes", "found", "pick", "group", "rest"] ["numbers", "sizes"] (ak sN):=by kd_p
def jr:aE ["numbers", "sizes", "found", "pick", "group", "rest"] ["numbers", "sizes"] (ak iK):=by kd_p
def jt:aE ["numbers", "sizes", "found", "pick", "group", "rest"] ["numbers", "sizes"] (ak iL):=by kd_p
def ju:aE ["numbers", "sizes", "found", "pick", "group", "rest"] ["numbers", "sizes"] (ak iM):=by kd_p
structure QC where
 PlaneError:Addr
 NoPlace:Addr
 NoDots:Addr
 TooFew:Addr
 TooMany:Addr
structure QI(K:yac)(mg:yam)(κ:QC):Prop where
 Qz:mg "PlaneError" = some (.ref κ.PlaneError)
 RV:mg "NoPlace" = some (.ref κ.NoPlace)
 RM:mg "NoDots" = some (.ref κ.NoDots)
 Rc:mg "TooFew" = some (.ref κ.TooFew)
 Rh:mg "TooMany" = some (.ref κ.TooMany)
 SX:PD.KTT K mg "SIZES_OF_THREE" [[1,3,3],[2,2,3]]
 Ri:PySem.W.excIn K κ.TooFew DX "ValueError.__new__" = true
 RN:PX.gF K κ.TooFew
 Qa:PySem.W.kitOne K (.ref κ.TooFew) (.ref κ.PlaneError)=some true
 Qn:PySem.W.kitOne K (.ref κ.TooFew) (.ref κ.NoPlace)=some false
 Qb:PySem.W.kitOne K (.ref κ.TooFew) (.ref κ.NoDots)=some false
 Qc:PySem.W.kitOne K (.ref κ.TooFew) (.ref κ.TooFew)=some true
 P8:PySem.W.kitOne K (.ref κ.TooFew) (.ref κ.TooMany)=some false
 PN:PySem.W.kitOne K (.ref κ.TooFew) (.type "ValueError")=some true
 PO:PySem.W.exmOne K (.ref κ.TooFew) (.ref κ.PlaneError)=some true
 Qt:PySem.W.exmOne K (.ref κ.TooFew) (.ref κ.TooFew)=some true
noncomputable def sg(n:Int):Int:=if 0<n then 1 else if n<0 then -1 else 0
def rk(a0 c e a b d:Int):Int:=if sg (c*a - b*a0)=0 then sg (e*a - d*a0)else sg (c*a - b*a0)
noncomputable def sw(a0 f e h d c g b a:Int):Int:=a0*(d*a - b*c)+h*(b*e - f*a)+g*(f*c - d*e)
structure Pl(n:Nat)(a b c:Int):Prop where
 pos:0<a
 low:PM.g3 a b c=1
 b0:Bd n a
 b1:Bd n b
 b2:Bd n c
def jX{d k x y z:Int}(f:d∣k*x)(e:d∣k*y)(c:d∣k*z)(b:PM.g3 x y z=1):d∣k:=by
 have a:d∣(Int.gcd (k*x) (k*y):Int):=zCw f e;rw[zDC]at a;have e:d∣k*(Int.gcd x y:Int):=by
  have:((k.natAbs*Int.gcd x y:Nat):Int)∣k*(Int.gcd x y:Int):=by rw[Int.natCast_mul];exact Int.mul_dvd_mul (Int.natAbs_dvd.mpr (by simp_all)) (by simp_all)
  exact Zc a this
 have a:d∣(Int.gcd (k*(Int.gcd x y:Int)) (k*z):Int):=zCw e c;rw[zDC]at a;have c:Int.gcd (Int.gcd x y:Int) z=1:=b;rw[c,Nat.mul_one]at a;exact Zc a (Int.natAbs_dvd.mpr (by simp_all))
abbrev Sp:=Int×Int
abbrev yat:=List (List Sp)
abbrev yau:=List Sp
def PL(p:Sp):D:=.tup [.int p.1,.int p.2]
def Cg(h:PL p=PL q):p=q:=by
 unfold PL at h
 lia
theorem jy{a:Type}{f:a->D}(b:∀{p q},f p=f q->p=q):∀{ps qs:List a},ps.map f=qs.map f->ps=qs
 |[],[],_=>rfl
 |[],_::_,h=>by simp at h
 |_::_,[],h=>by simp at h
 |p::ps,q::qs,h=>by simp at h;rw[b h.1,jy b h.2]
def Ci{ps qs:yau}(h:ps.map PL=qs.map PL):ps=qs:=jy Cg h
theorem oE(p:Sp):aG (PL p)=PL p:=by unfold PL;simp only[cX,br,bM,dJ]
def cW(ps:yau):bb (ps.map PL)=ps.map PL:=cV PL oE ps
def QJ(p:Sp):D:=.tup [.int 1,.int p.1,.int p.2]
def B4(h:QJ p=QJ q):p=q:=by
 unfold QJ at h
 lia
def KC{ps qs:yau}(h:ps.map QJ=qs.map QJ):ps=qs:=jy B4 h
def oD(p:Sp):aG (QJ p)=QJ p:=by unfold QJ;simp only[cX,br,bM,dJ]
def oG(ps:yau):bb (ps.map QJ)=ps.map QJ:=cV QJ oD ps
def cr(a b e:Sp):Int:=sw 1 a.1 a.2 1 b.1 b.2 1 e.1 e.2
def cQ:yau->Sp->yau
 |b::a::r,e=>if cr a b e<=0 then cQ (a::r) e else b::a::r
 |l,_=>l
def bQ:yau->yau->yau
 |acc,[]=>acc
 |acc,e::a=>bQ (e::cQ acc e) a
theorem rC(x:Sp):∀(acc done:yau),bQ acc (done++[x])=x::cQ (bQ acc done) x
 |acc,[]=>rfl
 |acc,e::a=>by show bQ (e::cQ acc e) (a++[x])=_;rw[rC x _ a];rfl
theorem sG:∀(st:yau) (e:Sp),∃c,st=c++cQ st e
 |[],e=>⟨[],rfl⟩
 |[b],e=>⟨[],rfl⟩
 |b::a::r,e=>by
  unfold cQ;split;obtain⟨c,q⟩:=sG (a::r) e;grind
  simp_all
def HV(st:yau)(e:Sp):(cQ st e).length<=st.length:=by obtain⟨a,q⟩:=sG st e;grind
def Ee{a:Type}(xs:List a)(u v:a):Rz (xs++[u]++[v]) (-2)=some u:=by have:=bD (xs:=xs++[u]++[v]) (j:=xs.length) (v:=u) (by simp);unfold Rz at this ⊢;rw[show ixN (xs++[u]++[v]).length (-2)=some xs.length by unfold ixN;simp;lia];simp
def fm{a b:Int}(c:0<b):0<=a.fmod b/\a.fmod b<b:=⟨zC2 a c,Int.fmod_lt_of_pos a c⟩
def YV{n:Nat}{x:Int}(m:Nat)(h:x.natAbs<m)(a:m<=2 ^ n):Bd n x:=R7 h a
def p12:((10:Int) ^ (12:Int).toNat)=1000000000000:=by decide
def GZ:Gq 10 12:=⟨by decide,by decide,by decide⟩
def WT(p:Sp):yaf:=[p.1,p.2]
def Jn(ps:yau):ps.map PL=(ps.map WT).map PD.tupI:=by rw[QP];rfl
def cO(ys ps:yau):Prop:=ys.Pairwise (λp q=>p.1<q.1∨(p.1=q.1/\p.2<q.2))/\∀p,p∈ys↔p∈ps
def FN{ps:yau}(h:PD.D9 a (ps.map WT)):∃ys:yau,a=ys.map WT/\cO ys ps:=by
 obtain⟨b,d⟩:=h;have c:∀z∈a,∃p:Sp,z=WT p:=by grind
 have f:∃ys:yau,a=ys.map WT:=by
  clear b d
  induction a with
  |nil=>exact⟨[],rfl⟩
  |cons z a ih =>
   obtain⟨p,e⟩:=c z T9;obtain⟨ys,g⟩:=ih λz a=>c z (R4 _ a)
   exact⟨p::ys,by rw[e,g];rfl⟩
 obtain⟨ys,rfl⟩:=f;have a:∀{p q:Sp},WT p=WT q->p=q:=fun {p q} e=>by
  unfold WT at e
  lia
 refine⟨ys,rfl,?_,λp=>?_⟩;refine(zCh.mp b).imp fun {p q} e=>?_
 unfold WT SW.lexLt at e;split at e;rename_i b;unfold SW.lexLt at e;split at e;cases e;exact .inr ⟨b,by simpa using e⟩;exact .inl (by simpa using e);constructor;intro c;obtain⟨q,b,e⟩:=P6.mp ((d (WT p)).mp (P6.mpr ⟨p,c,rfl⟩));rw[<- a e];exact b;intro c;obtain⟨q,b,e⟩:=P6.mp ((d (WT p)).mpr (P6.mpr ⟨p,c,rfl⟩));rw[<- a e];exact b
def yB(xs:yas):PD.cutD xs none (some (-1))=xs.dropLast:=by
 unfold PD.cutD;rw[List.dropLast_eq_take];have b:HT.Qy xs.length 0 none=0:=rfl;have a:HT.Qy xs.length xs.length (some (-1))=xs.length - 1:=by
  unfold HT.Qy;cases xs with
  |nil=>rfl
  |cons x xs=>simp;lia
 rw[b,a];simp
theorem gI:∀(acc ps:yau),(bQ acc ps).length<=acc.length+ps.length
 |acc,[]=>Qu _
 |acc,e::a=>by have:=gI (e::cQ acc e) a;have b:=HV acc e;show(bQ (e::cQ acc e) a).length<=_;grind
theorem Fe:∀{ys ps:yau},ys.Nodup->(∀p∈ys,p∈ps)->ys.length<=ps.length
 |[],_,_,_=>RS _
 |y::ys,ps,a,h=>by obtain⟨c,b⟩:=Wk.mp a;have r:=Fe (ps:=ps.erase y) b (by grind);grind
def sH(h:cO ys ps):ys.length<=ps.length:=by
 have a:ys.Nodup:=h.1.imp fun {p q} c e=>by lia
 exact Fe a λp a=>(h.2 p).mp a
def aQ(ys:yau):yau:=(bQ [] ys).reverse
def aV(ys:yau):yau:=if ys.length<2 then ys else(aQ ys).dropLast++(aQ ys.reverse).dropLast
def yw{a:Type}{wi:DA}{js:yag}{te:DE}{Q:D->Prop}{P:List a->Prop}(f g:a->D)(b:∀R:yas->Prop,(∀ys,P ys->R (ys.map f))->wi ρ R)(hz:∀ys,P ys->ys.length<=sizeLine)
  (c:∀ys,P ys->∀x∈ys,∀K:D->Prop,K (g x)->te (some (.val (f x))::js.map (bJ ρ)) K) (q:∀ys,P ys->Q (.lst true (ys.map g))):qG wi js yD te ρ Q:=by
 refine b _ λys a=>?_
 have:=PD.comp_map (wi:=λ_ R=>R (ys.map f)) (js:=js) (tc:=yD) (te:=te) (ρ:=ρ) (Q:=Q) ys f (λ_=>true) g (λR h=>h) (hz ys a) (λx b K k=>k) (λx b _ K k=>c ys a x b K k) (by rw[Tq.mpr (λ_ _=>rfl)];exact q ys a);exact this
structure SB(p:Sp):Prop where
 x:Bd 60 p.1
 y:Bd 60 p.2
def gH(p q:Sp):Prop:=p.1<q.1∨(p.1=q.1/\p.2<q.2)
def cJ(a b e:Sp):cr a b e=(b.1 - a.1)*(e.2 - a.2) - (b.2 - a.2)*(e.1 - a.1):=by unfold cr sw;grind
def fA(A B:Int)(p:Sp):Int:=A*p.1+B*p.2
def cx(a b c d:Sp):Int:=(b.1 - a.1)*(d.2 - c.2) - (b.2 - a.2)*(d.1 - c.1)
def CQ(A B:Int)(a b c d e g:Sp):cx a b e g*(fA A B d - fA A B c)=cx c d e g*(fA A B b - fA A B a)+cx a b c d*(fA A B g - fA A B e):=by unfold cx fA;grind
def HW{x y:Int}(h:0<x*y)(a:0<y):0<x:=by by_cases c:0<x;exact c;have:=Rv (show 0<=-x by lia) (Q7 a);grind
def MT{x y:Int}(h:0<=x*y)(a:0<y):0<=x:=by
 by_cases c:0<=x;exact c;have:=U3 (show 0 < -x by lia) a
 lia
def IJ(j:fA A B a<fA A B b)(h:fA A B c<fA A B d)(f:fA A B e<fA A B g)(p:0<cx a b c d)(q:0<=cx c d e g):0<cx a b e g:=by have i:=CQ A B a b c d e g;have u:=Rv q (show 0<=fA A B b - fA A B a by lia);have v:=U3 p (show 0<fA A B g - fA A B e by lia);exact HW (y:=fA A B d - fA A B c) (by lia) (by lia)
def II(j:fA A B a<fA A B b)(h:fA A B c<fA A B d)(f:fA A B e<fA A B g)(p:0<=cx a b c d)(q:0<cx c d e g):0<cx a b e g:=by have i:=CQ A B a b c d e g;have u:=U3 q (show 0<fA A B b - fA A B a by lia);have v:=Rv p (show 0<=fA A B g - fA A B e by lia);exact HW (y:=fA A B d - fA A B c) (by lia) (by lia)
def NR(j:fA A B a<fA A B b)(h:fA A B c<fA A B d)(f:fA A B e<fA A B g)(p:0<=cx a b c d)(q:0<=cx c d e g):0<=cx a b e g:=by have i:=CQ A B a b c d e g;have u:=Rv q (show 0<=fA A B b - fA A B a by lia);have v:=Rv p (show 0<=fA A B g - fA A B e by lia);exact MT (y:=fA A B d - fA A B c) (by lia) (by lia)
def cx1(a b e:Sp):cr a b e=cx a b a e:=by rw[cJ];rfl
def cx2(a b e:Sp):cr a b e=cx a b b e:=by rw[cJ];unfold cx;grind
def cx3(a b e:Sp):cr a b e=cx a e b e:=by rw[cJ];unfold cx;grind
def cx4(a b e:Sp):cr a b e=cx e a a b:=by rw[cJ];unfold cx;grind
def cx5(a b e:Sp):cr a b e=cx e b a b:=by rw[cJ];unfold cx;grind
def JI(a b c d:Sp):cx a b c d=- cx c d a b:=by unfold cx;grind
def LH(a b:Sp):cr a b a=0:=by rw[cJ];grind
def LJ(a b:Sp):cr a b b=0:=by rw[cJ];grind
structure Zx(A B:Int)(st done:yau):Prop where
 e2:∀b a r,(b::a::r) <:+ st->∀p∈done,0<=cr a b p
 e3:∀c b a r,(c::b::a::r) <:+ st->0<cr a b c
 ord:st.Pairwise λb a=>fA A B a<fA A B b
 mem:∀p∈st,p∈done
 top:∀b r,st=b::r->∀p∈done,fA A B p<=fA A B b
 bot:done ≠ []->∃pre a,st=pre++[a]/\∀p∈done,fA A B a<=fA A B p
def DK{b a:Sp}{r st:yau}(h:b::a::r <:+ st)(o:st.Pairwise R):R b a:=by obtain⟨c,rfl⟩:=h;exact(UK.mp (zDG.mp o).2.1).1 a T9
theorem FI(I:Zx A B st0 done)(d:∀p∈done,fA A B p<fA A B x):∀(st:yau),st <:+ st0->(∀b r,st=b::r->∀p∈done,fA A B b<fA A B p->0<=cr b x p) →
  (∀b a r,cQ st x=b::a::r->0<cr a b x)/\(∀b r,cQ st x=b::r->∀p∈done,fA A B b<fA A B p->0<=cr b x p)
 |[],_,h=>⟨λb a r e=>(by cases e),λb r e=>(by cases e)⟩
 |[b],_,h=>⟨λb a r e=>(by cases e),h⟩
 |b::a::r,s,h=>by
  unfold cQ;split;rename_i c;refine FI I d (a::r) (List.IsSuffix.trans (List.suffix_cons _ _) s) λj i e p g f=>?_
  cases e;have o:=DK s I.ord;have e:=I.e2 b a r s p g;have b:=d a (I.mem a (s.subset (by simp)));rw[cx1]at e c ⊢;rw[JI]at c;exact NR b o f (by lia) e
  simp_all
theorem far(I:Zx A B st0 done)(c:∀p∈done,fA A B p<fA A B x):∀(st:yau),st <:+ st0->(∀b a r,st=b::a::r->0<cr a b x)->∀b a r,b::a::r <:+ st->0<cr a b x
 |[],_,_=>λb a r e=>by have:=e.length_le;simp at this
 |b::st,s,h=>λf g b e=>by
  rcases List.suffix_cons_iff.mp e with q|q;exact h _ _ _ q.symm;refine far I c st (List.IsSuffix.trans (List.suffix_cons _ _) s) (λa i r d=>?_) f g b q;subst d;have d:=h _ _ _ rfl;have b:=I.e3 _ _ _ _ s;have g:=DK s I.ord;have f:=DK (List.IsSuffix.trans (List.suffix_cons _ _) s) I.ord;have e:=c a (I.mem a (s.subset (by simp)));rw[cx2]at b ⊢;rw[cx1]at d;exact IJ f g e b (Q7 d)
theorem B5:∀{st:yau},st ≠ []->cQ st x ≠ []
 |[],h=>absurd rfl h
 |[b],_=>by simp[cQ]
 |b::a::r,_=>by
  unfold cQ;split
  all_goals simp_all [B5]
def Hr{A B:Int}{st done:yau}{x:Sp}(I:Zx A B st done)(h:∀p∈done,fA A B p<fA A B x)(m:∀p∈done,∀q∈done,fA A B p=fA A B q->p=q)(u:done=[]->st=[]):Zx A B (x::cQ st x) (done++[x]):=by
 have s:cQ st x <:+ st:=by obtain⟨f,q⟩:=sG st x;exact⟨f,q.symm⟩
 obtain⟨n,w⟩:=FI I h st (List.suffix_refl _) λb r e p d y=>absurd (I.top b r e p d) (by lia)
 have F:=far I h _ s n;refine⟨λb a r e p d=>?_,λc b a r e=>?_,?_,λp d=>?_,λb r e p d=>?_,λ_=>?_⟩;rcases List.suffix_cons_iff.mp e with q|q;injection q with l b;subst l;rcases RH.mp d with d|d;rcases ZJ (fA A B p) (fA A B a)with c|c|c;rcases r with _|⟨z,r⟩;obtain⟨f,C,g,i⟩:=I.bot (List.ne_nil_of_mem d);rw[<- b]at s;obtain⟨k,j⟩:=s;rw[g]at j;have:=List.append_inj_right' j (by simp);simp at this;have:=i p d
 subst_vars
 lia
 have i:=n _ _ _ b.symm;rw[<- b]at s;have r:=I.e2 _ _ _ s p d;have o:=DK s I.ord;have t:=h a (I.mem a (s.subset (by simp)));rw[cx2]at i;rw[cx5]at r;rw[cx4];exact Q7 (II c o t r i);rw[m p d a (I.mem a (s.subset (by rw[<- b];simp))) c,LH];exact Uc _;exact w _ _ b.symm p d c;rw[SM.mp d,LJ];exact Uc _;rcases RH.mp d with d|d;exact I.e2 _ _ _ (q.trans s) p d;rw[SM.mp d];exact Q7 (F _ _ _ q);rcases List.suffix_cons_iff.mp e with q|q;injection q with l b;subst l;exact n _ _ _ b.symm;exact I.e3 _ _ _ _ (q.trans s);exact UK.mpr ⟨λa b=>h a (I.mem a (s.subset b)),I.ord.sublist s.sublist⟩;rcases Qg.mp d with q|q;rw[q];simp;exact Vu _ (I.mem p (s.subset q));injection e with g j;subst g;rcases RH.mp d with q|q;exact Q7 (h p q);rw[SM.mp q];exact Uc _;by_cases b:done=[];rw[u b,b];exact⟨[],x,rfl,λp d=>by simp at d;rw[d];exact Uc _⟩;obtain⟨f,a,g,i⟩:=I.bot b;obtain⟨k,j⟩:=s;have f:cQ st x ≠ []:=B5 (by rw[g];simp);obtain⟨b,c,e⟩:∃b c,cQ st x=b++[c]:=⟨_,_,(zB1 f).symm⟩;have:c=a:=by rw[e,g,<- WH]at j;have:=List.append_inj_right' j (by simp);simpa using this
 subst this;refine⟨x::b,c,by rw[e];rfl,λp d=>?_⟩;rcases RH.mp d with q|q;exact i p q;rw[SM.mp q];exact Q7 (h c (I.mem c (by rw[g];simp)))
theorem wR:∀(es st done:yau),Zx A B st done->(done=[]->st=[])->(done++es).Pairwise (λp q=>fA A B p<fA A B q)->Zx A B (bQ st es) (done++es)
 |[],st,done,I,_,_=>by rw[W4];exact I
 |x::es,st,done,I,f,o=>by
  obtain⟨d,g,c⟩:=zDG.mp o;have a:∀(l:yau),l.Pairwise (λp q=>fA A B p<fA A B q)->∀p∈l,∀q∈l,fA A B p=fA A B q->p=q:=by
   intro l
   induction l with
   |nil=>simp_all
   |cons y l ih =>
    intro o p b q h e;obtain⟨u,v⟩:=UK.mp o;grind
  have:=wR es (x::cQ st x) (done++[x]) (Hr I (λp b=>c p b x T9) (a done d) f) (by simp) (by simp_all);rw[WH]at this;exact this
def J4(A B:Int):Zx A B [] []:=⟨by grind,by simp_all,.nil,λp a=>a,by lia,by lia⟩
def MI{ys:yau}(o:ys.Pairwise λp q=>fA A B p<fA A B q):Zx A B (bQ [] ys) ys:=by
 have:=wR ys [] [] (J4 A B) (λ_=>rfl) (by simp_all)
 simp_all
structure Way(A B:Int)(ps:yau)(n:Nat)(l:Nat->Sp):Prop where
 two:2<=n
 Q9:∀i,i+1<n->∀p∈ps,0<=cr (l i) (l (i+1)) p
 UW:∀i,i+2<n->0<cr (l i) (l (i+1)) (l (i+2))
 rise:∀i j,i<j->j<n->fA A B (l i)<fA A B (l j)
 mem:∀i,i<n->l i∈ps
 lo:∀p∈ps,fA A B (l 0)<=fA A B p
 hi:∀p∈ps,fA A B p<=fA A B (l (n - 1))
def cD(A B:Int)(p:Sp):fA (-A) (-B) p=- fA A B p:=by unfold fA;grind
def Iw{n m:Nat}(L:Way A B ps (n+2) l)(U:Way (-A) (-B) ps (m+2) u)(f:l (n+1)=u 0)(h:0<n+m):0<cr (l n) (l (n+1)) (u 1):=by
 have d:=L.rise n (n+1) (by simp_all) (by simp_all);have c:=U.rise 0 1 Nat.one_pos (by lia);rw[cD,cD,Int.neg_lt_neg_iff]at c;rw[f]at d ⊢;have g:cr (l n) (u 0) (u 1)=cx (u 1) (u 0) (l n) (u 0):=by rw[cJ];unfold cx;grind
 rw[g];cases n with
 |succ a =>
  have b:=L.UW a (by simp_all);have o:=L.rise a (a+2) (by lia) (by simp_all);have e:=U.Q9 0 (by lia) (l a) (L.mem a (by lia));have h:l (a+2)=u 0:=f;rw[h]at o b;have g:cr (u 0) (u 1) (l a)=cx (u 1) (u 0) (l a) (u 0):=by rw[cJ];unfold cx;grind
  rw[g]at e;rw[cx3]at b;exact II (A:=A) (B:=B) c o d e b
 |zero =>
  cases m with
  |zero=>lia
  |succ m =>
   have b:=U.UW 0 (by lia);have o:=U.rise 0 2 (by decide) (by lia);rw[cD,cD,Int.neg_lt_neg_iff]at o;have e:=L.Q9 0 (by simp_all) (u 2) (U.mem 2 (by lia));have h:l (0+1)=u 0:=f;rw[h]at e;have g:cr (l 0) (u 0) (u 2)=cx (u 2) (u 0) (l 0) (u 0):=by rw[cJ];unfold cx;grind
   have i:cr (u 0) (u 1) (u 2)=cx (u 1) (u 0) (u 2) (u 0):=by rw[cJ];unfold cx;grind
   rw[g]at e;have a:0<cx (u 1) (u 0) (u 2) (u 0):=by simp_all
   exact IJ (A:=A) (B:=B) c o d a e
def Ca{n m:Nat}{h:Nat->Sp}(L:Way A B ps (n+2) l)(U:Way (-A) (-B) ps (m+2) u)(o:l (n+1)=u 0)(q:u (m+1)=l 0)(i:0<n+m)
  (b:∀k,k<n+2->h k=l k) (d:∀j,j<m+1->h (n+1+j)=u j):(∀k,k<n+m+2->∀p∈ps,0<=cr (h ((k+(n+m+2) - 1) % (n+m+2))) (h k) p)/\0<cr (h 0) (h 1) (h 2):=by
 refine⟨λk r p f=>?_,?_⟩;cases k with
 |zero =>
  have e:(0+(n+m+2) - 1) % (n+m+2)=n+1+m:=by simp_all [V8,Ux,W5,Nat.add_right_comm]
  rw[e,d m (by simp_all),b 0 (by simp_all),<- q];exact U.Q9 m (by simp_all) p f
 |succ k =>
  have e:(k+1+(n+m+2) - 1) % (n+m+2)=k:=by
   rw[Nat.add_right_comm]
   simp_all [zCj,Ux,zC6]
  rw[e];by_cases c:k+1<n+2;rw[b k (zC6 c),b (k+1) c];exact L.Q9 k c p f;obtain⟨j,rfl⟩:=Nat.le.dest (Nat.le_of_succ_le_succ (Y8 c));have g:j+1<m+1:=by lia
  rw[d j (zC6 g),Nat.add_assoc,d (j+1) g];exact U.Q9 j (Y7 g) p f
 cases n with
 |succ a =>
  have z:2<a+1+2:=by lia
  rw[b 0 (XX _),b 1 (by simp_all),b 2 z];exact L.UW 0 z
 |zero =>
  have z:1<m+1:=by lia
  rw[b 0 (by decide),b 1 (by decide),show h 2=u 1 from d 1 z];exact Iw L U o i
def uV{ys:yau}(o:ys.Pairwise λp q=>fA A B p<fA A B q)(d:2<=ys.length):Way A B ys (aQ ys).length λi=>(aQ ys).getD i (0,0):=by
 have I:=MI o;obtain⟨c,a,h,l⟩:=I.bot (by intro e;rw[e]at d;simp at d);have g:2<=(aQ ys).length:=by
  unfold aQ;rw[WE,h];rcases c with _|⟨b,c⟩;have t:=I.top a [] (by simpa using h);rcases ys with _|⟨f,_|⟨c,r⟩⟩;simp at d;simp at d;have q:=(UK.mp o).1 c (by simp);have n:=l f (by simp);have f:=t c (by simp)
  lia
  simp
 have sp1:∀i,i<(aQ ys).length->(aQ ys)[i]?=some ((aQ ys).getD i (0,0)):=λi c=>by rw[Q2,Qw c];rfl
 have k:bQ [] ys=(aQ ys).reverse:=by unfold aQ;rw[List.reverse_reverse]
 refine⟨g,λi c p d=>?_,λi c=>?_,λi j m g=>?_,λi c=>?_,λp d=>?_,λp d=>?_⟩;refine I.e2 _ _ ((aQ ys).take i).reverse ⟨((aQ ys).drop (i+2)).reverse,?_⟩ p d;rw[k];have q:=zCb i (aQ ys);rw[Yk (show i<(aQ ys).length by lia),Yk c]at q;have f:=congrArg List.reverse q;simp only[Q2,Qw (show i<(aQ ys).length by lia),Qw c,zDH];simpa only[List.reverse_append,zCi,WH,WG,WJ]using f;refine I.e3 _ _ _ ((aQ ys).take i).reverse ⟨((aQ ys).drop (i+3)).reverse,?_⟩;rw[k];have q:=zCb i (aQ ys);rw[Yk (show i<(aQ ys).length by lia),Yk (show i+1<(aQ ys).length by lia),Yk c]at q;have f:=congrArg List.reverse q;simp only[Q2,Qw (show i<(aQ ys).length by lia),Qw (show i+1<(aQ ys).length by lia),Qw c,zDH];simpa only[List.reverse_append,zCi,WH,WG,WJ]using f;have f:(aQ ys).Pairwise λa b=>fA A B a<fA A B b:=by exact List.pairwise_reverse.mpr I.ord
 have:=(WA.mp f) i j (by lia) g m;simp only[Q2,Qw (show i<(aQ ys).length by lia),Qw g,zDH];exact this;refine I.mem _ ?_;rw[k,List.mem_reverse];exact Rt (sp1 i c);have:(aQ ys).getD 0 (0,0)=a:=by unfold aQ;rw[h];simp
 rw[this];exact l p d;have e:=sp1 ((aQ ys).length - 1) (by lia);generalize (aQ ys).getD ((aQ ys).length - 1) (0,0)=b at e ⊢;refine I.top b (bQ [] ys).tail ?_ p d;rw[<- zDN]at e;unfold aQ at e;cases hc:bQ [] ys with
 |nil=>rw[hc]at e;simp at e
 |cons x r=>rw[hc]at e;simp at e;rw[e];rfl
theorem yX:∀{l:yau},l.Pairwise (λp q=>fA A B p<fA A B q)->∀p∈l,∀q∈l,fA A B p=fA A B q->p=q
 |[],_,p,a=>by cases a
 |y::l,o,p,a=>λq b e=>by
  obtain⟨u,v⟩:=UK.mp o;rcases Qg.mp a with a|a<;>rcases Qg.mp b with b|b;rw[a,b];have:=u q b;rw[a]at e;lia;have:=u p a;rw[b]at e;lia;exact yX v p a q b e
def Way.to{ps qs:yau}(h:∀p,p∈qs↔p∈ps)(W:Way A B ps n l):Way A B qs n l :=
 ⟨W.two,λi b p a=>W.Q9 i b p ((h p).mp a),W.UW,W.rise,λi b=>(h _).mpr (W.mem i b),λp a=>W.lo p ((h p).mp a),λp a=>W.hi p ((h p).mp a)⟩
theorem GU:∀ys:yau,∃M:Int,0<M/\∀p∈ys,-M<p.2/\p.2<M
 |[]=>⟨1,by decide,λp a=>by cases a⟩
 |y::ys=>by
  obtain⟨M,b,h⟩:=GU ys;refine⟨M+y.2.natAbs+1,by lia,λp a=>?_⟩;rcases Qg.mp a with q|q;rw[q];lia;have:=h p q;lia
def uo{M:Int}{p q:Sp}(h0:0<M)(b:-M<p.2/\p.2<M)(a:-M<q.2/\q.2<M)(h:gH p q):fA (2*M) 1 p<fA (2*M) 1 q:=by
 unfold fA;rcases h with h|⟨d,c⟩;have:=zCM (show p.1+1<=q.1 by lia) (show 0<=2*M by lia)
 lia
 lia
def bS(hs:yau)(k:Nat):Sp:=hs.getD ((k+hs.length - 1) % hs.length) (0,0)
structure mU(hs ps:yau):Prop where
 mem:∀p∈hs,p∈ps
 len:hs.length<=2*ps.length
 Vh:ps ≠ []->∃a r,hs=a::r/\∀p∈ps,¬gH p a
 one:∀a,hs=[a]->∀p∈ps,p=a
 two:∀a b,hs=[a,b]->a≠b/\∀p∈ps,cr a b p=0/\¬gH b p
 Q9:2<hs.length->∀k,k<hs.length->∀p∈ps,0<=cr (bS hs k) (hs.getD k (0,0)) p
 UW:2<hs.length->0<cr (hs.getD 0 (0,0)) (hs.getD 1 (0,0)) (hs.getD 2 (0,0))
def bV(h:cO ys ps):mU (aV ys) ps:=by
 have H:=sH h;obtain⟨o,f⟩:=h;unfold aV;by_cases c:ys.length<2;rw[Pt c];refine⟨λp d=>(f p).mp d,by lia,λe=>?_,λa e p d=>?_,λa b e=>?_,λq=>absurd q (by lia),λq=>absurd q (by lia)⟩;rcases ys with _|⟨y,_|⟨z,r⟩⟩;cases ps with
 |nil=>exact absurd rfl e
 |cons y r=>have:=(f y).mpr T9;cases this
 refine⟨y,[],rfl,λp d=>?_⟩;have:=(f p).mpr d;rw[SM.mp this];exact λq=>q.elim (XU _) λq=>XU _ q.2
 exact absurd c (by simp);have:=(f p).mpr d;rw[e]at this;exact SM.mp this;rw[e]at c;simp at c;rw[Po c];obtain⟨M,m,i⟩:=GU ys;have k:ys.Pairwise λp q=>fA (2*M) 1 p<fA (2*M) 1 q:=by refine List.Pairwise.imp_of_mem ?_ o;intro p q d g h;exact uo m (i p d) (i q g) h
 have n:ys.reverse.Pairwise λp q=>fA (-(2*M)) (-1) p<fA (-(2*M)) (-1) q:=by refine List.pairwise_reverse.mpr (k.imp ?_);intro p q h;rw[cD,cD];exact Int.neg_lt_neg h
 have L:=(uV k (Y8 c)).to (qs:=ps) λp=>(f p).symm
 have U:=(uV n (by rw[WE];exact Y8 c)).to (qs:=ps) λp=>by rw[List.mem_reverse];exact(f p).symm
 have h:(aQ ys).length<=ys.length:=by have:=gI [] ys;unfold aQ;rw[WE];simpa using this
 have c:(aQ ys.reverse).length<=ys.length:=by have:=gI [] ys.reverse;unfold aQ;rw[WE];simpa using this
 generalize aQ ys=l at L h ⊢;generalize aQ ys.reverse=u at U c ⊢;have j:∀p∈ps,∀q∈ps,fA (2*M) 1 p=fA (2*M) 1 q->p=q:=λp d q g e=>yX k p ((f p).mpr d) q ((f q).mpr g) e
 have y:∀p∈ps,∀q∈ps,fA (2*M) 1 p<=fA (2*M) 1 q->¬gH q p:=λp d q g e x =>
  Int.not_le_of_gt (uo m (i q ((f q).mpr g)) (i p ((f p).mpr d)) x) e
 generalize 2*M=A at L U j y;clear k n i m o f;obtain⟨n,o⟩:∃n,l.length=n+2:=⟨l.length - 2,by have:=L.two;lia⟩;obtain⟨m,f⟩:∃m,u.length=m+2:=⟨u.length - 2,by have:=U.two;lia⟩;have c:(l.dropLast++u.dropLast).length=n+m+2:=by
  rw[Sw,XO,XO,o,f];show n+1+(m+1)=_
  lia
 have g:∀{w:yau} {x:Sp},x∈w.dropLast->x∈w:=fun {w x} h=>(List.dropLast_sublist w).subset h
 have C:∀{w:yau} {i:Nat} (h:i<w.length),w.getD i (0,0)=w[i]:=fun {w i} h=>by rw[Q2,Qw h];rfl
 rw[o]at L;rw[f]at U;have w:l.getD (n+1) (0,0)=u.getD 0 (0,0):=by have s:=L.mem (n+1) (W5 _);have k:=U.mem 0 (XX _);have x:=L.hi _ k;have t:=U.lo _ s;rw[cD,cD]at t;exact j _ s _ k (ZQ (zDD t) x)
 have B:u.getD (m+1) (0,0)=l.getD 0 (0,0):=by have s:=L.mem 0 (XX _);have k:=U.mem (m+1) (W5 _);have x:=L.lo _ k;have t:=U.hi _ s;rw[cD,cD]at t;exact j _ k _ s (ZQ (zDD t) x)
 have x:∀j,j<m+1->(l.dropLast++u.dropLast).getD (n+1+j) (0,0)=u.getD j (0,0):=λj k=>by
  have ld:l.dropLast.length=n+1:=by rw[XO,o];rfl
  rw[Q2,Q2,Wy (by rw[ld];exact ZO _ _),ld,Nat.add_sub_cancel_left,zC3,f,Pt (show j<m+2 - 1 from k)]
 have s:∀k,k<n+2->(l.dropLast++u.dropLast).getD k (0,0)=l.getD k (0,0):=λk j=>by
  rcases Nat.lt_or_eq_of_le (Nat.le_of_lt_succ j)with z|z;rw[Q2,Q2,V2 (by rw[XO,o];exact z),zC3,o,Pt (show k<n+2 - 1 from z)];rw[z,w];exact x 0 (XX _)
 have t:=s 0 (XX _);refine⟨λp d=>?_,by rw[c];lia,λe=>?_,λa e=>?_,λa b e=>?_,λq=>?_,λq=>?_⟩;rcases RH.mp d with z|z;obtain⟨i,h,e⟩:=List.mem_iff_getElem.mp (g z);rw[<- e,<- C h];exact L.mem i (by rw[<- o];exact h);obtain⟨i,h,e⟩:=List.mem_iff_getElem.mp (g z);rw[<- e,<- C h];exact U.mem i (by rw[<- f];exact h);cases hh:l.dropLast++u.dropLast with
 |nil=>rw[hh]at c;exact absurd c (by simp)
 |cons a r =>
  rw[hh]at t;refine⟨a,r,rfl,λp d=>?_⟩;rw[show a=l.getD 0 (0,0)from t];exact y _ (L.mem 0 (XX _)) p d (L.lo p d)
 rw[e]at c;simp at c;have f:n=0/\m=0:=by rw[e]at c;simp at c;lia
 obtain⟨rfl,rfl⟩:=f;have f:=s 1 (by decide);rw[e]at t f;have h:a=l.getD 0 (0,0):=t;have e:b=l.getD 1 (0,0):=f;have f:l.getD 1 (0,0)=u.getD 0 (0,0):=w;have g:u.getD 1 (0,0)=l.getD 0 (0,0):=B;refine⟨λi=>?_,λp d=>?_⟩;have:=L.rise 0 1 (by decide) (by decide);rw[<- h,<- e,i]at this;exact XU _ this;have m:=L.Q9 0 (by decide) p d;have l:=U.Q9 0 (by decide) p d;have i:=L.hi p d;have G:0<=cr a b p:=by rw[h,e];exact m
 have E:0<=cr b a p:=by rw[e,f,h,<- g];exact l
 have f:fA A 1 p<=fA A 1 b:=by rw[e];exact i
 have I:cr b a p=- cr a b p:=by rw[cJ,cJ];grind
 refine⟨by lia,y p d b ?_ f⟩;rw[e];exact L.mem 1 (by decide);intro k j p d;rw[c]at j q;have R:=(Ca L U w B (by lia) s x).1 k j p d;unfold bS;rw[c];exact R;rw[c]at q;exact(Ca L U w B (by lia) s x).2
def ye{a:Type}(xs:List a)(j b:Nat)(d:j<xs.length)(e:b<=xs.length):Rz xs ((j:Int) - (b:Int))=xs[(j+xs.length - b) % xs.length]?:=by
 unfold Rz ixN;by_cases c:b<=j;rw[Pt (by lia),Pt (by lia),show j+xs.length - b=j - b+xs.length by lia,zCj,Ux (by lia)];show xs[((j:Int) - (b:Int)).toNat]?=_;congr 1
 lia
 rw[Po (by lia),Pt (by lia),Ux (by lia)];show xs[((j:Int) - (b:Int)+(xs.length:Int)).toNat]?=_;congr 1
 lia
theorem Jm(lo a:Int):kM lo a 1=(a - lo).toNat:=by
 unfold kM Builtin.Range.rangeSize
 lia
def zT(n:Nat):jH 0 1 (kM 0 (n:Int) 1)=(List.range' 0 n).map λ(k:Nat)=>D.int (k:Int):=by unfold jH;grind [Jm,List.range'_eq_map_range,List.map_map,List.map_congr_left]
def JH{a:Type}(f:a->D)(xs:List a):PD.cutD (xs.map f) (some 1) (some 31)=((xs.drop 1).take 30).map f:=by
 unfold PD.cutD;have b:HT.Qy (xs.map f).length 0 (some 1)=min 1 (xs.map f).length:=HT.qX _ _ 1;have a:HT.Qy (xs.map f).length (xs.map f).length (some 31)=min 31 (xs.map f).length:=HT.qX _ _ 31;rw[b,a];cases xs with
 |nil=>rfl
 |cons x xs =>
  simp only[QO,SQ,Pq,List.drop_succ_cons,List.drop_zero];rw[show min 1 (xs.length+1)=1 by lia];show List.take _ (xs.map f)=_;rw[List.map_take];by_cases c:xs.length<=30;rw[ZG (by rw[Pq];lia),ZG (by rw[Pq];lia)];rw[show min 31 (xs.length+1) - 1=30 by lia]
def MY(p:Sp):Q1 1 (PL p):=Q1.tup (.cons (.int _ _) (.cons (.int _ _) (.nil _)))
def Fm(p:Sp):Q1 1 (QJ p):=Q1.tup (.cons (.int _ _) (.cons (.int _ _) (.cons (.int _ _) (.nil _))))
noncomputable def dM(a:yag):Nat:=match a.getLast? with
 |none=>0
 |some l=>l+1
def UD(n:Nat)(a:yag):List (yag):=(List.range' (dM a) (n - dM a)).map λk=>a++[k]
def PV(n:Nat):Nat->List (yag)
 |0=>[[]]
 |j+1=>(PV n j).flatMap (UD n)
def Sa(a:yag):D:=.lst true (a.map λ(k:Nat)=>D.int (k:Int))
theorem bW:∀{j:Nat} {a:yag},a∈PV n j->a.length=j/\∀k∈a,k<n
 |0,a,h=>by
  simp only[PV,SM]at h
  simp_all
 |j+1,a,h=>by simp only[PV,ZN]at h;obtain⟨q,a,h⟩:=h;obtain⟨c,b⟩:=bW a;unfold UD at h;grind
theorem vA(n:Nat):∀j:Nat,(PV n j).length<=n ^ j
 |0=>by simp[PV]
 |j+1=>by
  have ih:=vA n j;have:∀l:List (yag),(l.flatMap (UD n)).length<=l.length*n:=by
   intro l
   induction l with
   |nil=>simp
   |cons a r ih =>
    rw[zC5,Sw,SQ,Nat.add_mul];have:(UD n a).length<=n:=by unfold UD;grind
    lia
  refine QM (this _) ?_
  simp_all [Xb,Y4]
def Cb(a b:Nat):jH (a:Int) 1 (kM a b 1)=(List.range' a (b - a)).map λ(k:Nat)=>D.int (k:Int):=by
 unfold jH
 simp_all [Jm,List.range'_eq_map_range,QP,Yn]
theorem yY(n:Nat):∀l:List (yag),(l.flatMap (UD n)).length<=l.length*n
 |[]=>by simp
 |a::r=>by
  rw[zC5,Sw,SQ,Nat.add_mul];have:=yY n r;have:(UD n a).length<=n:=by unfold UD;grind
  lia
def JA{a:yag}(h:a ≠ []){Q:D->Prop}(q:Q (.int ((dM a:Nat) - 1:Int))):∃d,Rz (a.map λ(k:Nat)=>D.int (k:Int)) (-1)=some d/\Q d:=by
 obtain⟨r,l,rfl⟩:∃r l,a=r++[l]:=⟨a.dropLast,a.getLast h,(zB1 h).symm⟩;refine⟨.int l,?_,?_⟩;unfold Rz ixN;have e:(-1+((r.length:Int)+1)).toNat=r.length:=by lia
 have l:(1:Int)<=(r.length:Int)+1:=by lia
 simp_all
 have:((dM (r++[l]):Nat):Int) - 1=l:=by unfold dM;simp
 simp_all
abbrev Tr:=Int×Int×Int
abbrev yav:=List (Int×Tr)
abbrev yaw:=List Tr
noncomputable def tn(a b:Sp):Int:=a.1*b.2 - b.1*a.2
def Qf(a b:Sp):Int:=a.1*b.1+a.2*b.2
def Pz(h:Tr)(p:Sp):Sp:=(h.1*p.1 - 1*h.2.1,h.1*p.2 - 1*h.2.2)
noncomputable def Pj(g h:Tr):Int:=g.1*h.1+g.2.1*h.2.1+g.2.2*h.2.2
noncomputable def eV(a b:Sp):Tr:=(a.1*b.2 - b.1*a.2,a.2*1 - b.2*1,1*b.1 - 1*a.1)
def cA(a w:Sp):Tr:=(-(w.1*a.1+w.2*a.2),w.1*1,w.2*1)
def Vi(a:Sp):Sp:=(-a.1,-a.2)
noncomputable def UE(a:Sp):Sp:=(-a.2,a.1)
noncomputable def aU(a b:Sp):Sp:=if a=b then(1,0)else(1*b.1 - 1*a.1,1*b.2 - 1*a.2)
def eS(a b:Sp):yaw:=[cA a (aU a b),cA b (Vi (aU a b)),cA a (UE (aU a b)),cA a (Vi (UE (aU a b)))]
def aO(hs:yau):yaw:=if hs.length<3 then eS (hs.getD 0 (0,0)) (hs.getD (hs.length - 1) (0,0))else(List.range' 0 hs.length).map λk=>eV (bS hs k) (hs.getD k (0,0))
def uX(a:Sp):Prop:=a=(0,0)
def iC(a b:Sp):Prop:=tn a b=0/\Qf a b<0
def d6(a b e:Sp):Prop:=(0<tn b e/\0<tn e a/\0<tn a b)∨(tn b e<0/\tn e a<0/\tn a b<0)
def cI(a b:Sp):tn a b=- tn b a:=by unfold tn;grind
def mR(a:Sp):tn a a=0:=by unfold tn;grind
def rT(a b:Sp):Qf a b=Qf b a:=by unfold Qf;grind
def iC.symm(h:iC a b):iC b a:=⟨by have:=cI a b;have:=h.1;lia,by rw[rT];exact h.2⟩
def d6.YX(h:d6 a b e):d6 b e a:=by unfold d6 at h ⊢;lia
def d6.swap(h:d6 a b e):d6 b a e:=by
 unfold d6 at h ⊢;have:=cI a b;have:=cI b e;have:=cI e a
 lia
def Zy(a:Int):0<=a*a:=by
 rcases Int.le_total 0 a with h|h;exact Rv h h;have:=Rv (show 0<=-a by lia) (show 0<=-a by lia)
 lia
def kj{w:Sp}(h:w≠(0,0)):0<Qf w w:=by
 obtain⟨a,b⟩:=w;unfold Qf;dsimp only;have f:=Zy a;have e:=Zy b;by_cases d:a=0;by_cases c:b=0
 lia
 have:b*b≠0:=by simp_all
 omega;have:a*a≠0:=by simp_all
 omega
def ve{b c:Sp}{y z:Int}(e:0<y)(hz:0<z)(h:y*b.1+z*c.1=0)(g:y*b.2+z*c.2=0):uX b∨iC b c:=by
 by_cases a:b=(0,0);exact .inl a
 right
 have p:=kj a;have t:z*tn b c=0:=by
  have:z*tn b c=b.1*(y*b.2+z*c.2) - b.2*(y*b.1+z*c.1):=by unfold tn;grind
  simp_all
 have d:z*Qf b c=- (y*Qf b b):=by
  have:z*Qf b c+y*Qf b b=b.1*(y*b.1+z*c.1)+b.2*(y*b.2+z*c.2):=by unfold Qf;grind
  grind
 have f:=U3 e p;refine⟨?_,?_⟩;rcases Ua.mp t with q|q<;>lia;by_cases q:Qf b c<0;exact q;have:=Rv (Q7 hz) (show 0<=Qf b c by lia)
 lia
def GS(a b c:Sp):tn b c*a.1+tn c a*b.1+tn a b*c.1=0/\tn b c*a.2+tn c a*b.2+tn a b*c.2=0:=by unfold tn;constructor<;>grind
def sD{c:Sp}{z:Int}(hz:0<z)(b:z*c.1=0)(a:z*c.2=0):uX c:=by
 rcases Ua.mp b with q|q
 lia
 rcases Ua.mp a with r|r
 lia
 exact Prod.ext q r
def JD(i:0<=tn b c)(h:0<=tn c a)(hz:0<=tn a b)(hs:0<tn b c+tn c a+tn a b) :
  uX a∨uX b∨uX c∨iC a b∨iC b c∨iC c a∨d6 a b c:=by
 obtain⟨e,d⟩:=GS a b c;by_cases f:tn b c=0;rw[f,WL]at e d;by_cases g:tn c a=0;rw[g,WL]at e d;exact .inr (.inr (.inl (sD (z:=tn a b) (by lia) (by lia) (by lia))));by_cases f:tn a b=0;rw[f,WL]at e d;exact .inr (.inl (sD (z:=tn c a) (by lia) (by lia) (by lia)));rcases ve (b:=b) (c:=c) (y:=tn c a) (z:=tn a b) (by lia) (by lia) (by lia) (by lia)with q|q;exact .inr (.inl q);exact .inr (.inr (.inr (.inr (.inl q))));by_cases g:tn c a=0;rw[g,WL]at e d;by_cases f:tn a b=0;rw[f,WL]at e d;exact .inl (sD (z:=tn b c) (by lia) (by lia) (by lia));rcases ve (b:=c) (c:=a) (y:=tn a b) (z:=tn b c) (by lia) (by lia) (by lia) (by lia)with q|q;exact .inr (.inr (.inl q));exact .inr (.inr (.inr (.inr (.inr (.inl q)))));by_cases f:tn a b=0;rw[f,WL]at e d;rcases ve (b:=a) (c:=b) (y:=tn b c) (z:=tn c a) (by lia) (by lia) (by lia) (by lia)with q|q;exact .inl q;exact .inr (.inr (.inr (.inl q)));exact .inr (.inr (.inr (.inr (.inr (.inr (.inl ⟨by lia,by lia,by lia⟩))))))
def lP(h:Tr)(ps:yau):Prop:=(∃p∈ps,uX (Pz h p))∨(∃p∈ps,∃q∈ps,iC (Pz h p) (Pz h q))∨∃ p∈ps,∃q∈ps,∃r∈ps,d6 (Pz h p) (Pz h q) (Pz h r)
def GR{ps:yau}{p q r:Sp}(d:p∈ps)(b:q∈ps)(a:r∈ps)(e:0<=tn (Pz h q) (Pz h r))(c:0<=tn (Pz h r) (Pz h p))(hz:0<=tn (Pz h p) (Pz h q))(hs:0<tn (Pz h q) (Pz h r)+tn (Pz h r) (Pz h p)+tn (Pz h p) (Pz h q)):lP h ps:=by
 rcases JD e c hz hs with c|c|c|c|c|c|c;exact .inl ⟨_,d,c⟩;exact .inl ⟨_,b,c⟩;exact .inl ⟨_,a,c⟩;exact .inr (.inl ⟨_,d,_,b,c⟩);exact .inr (.inl ⟨_,b,_,a,c⟩);exact .inr (.inl ⟨_,a,_,d,c⟩);exact .inr (.inr ⟨_,d,_,b,_,a,c⟩)
def Hl(h:Tr)(a b:Sp):tn (Pz h a) (Pz h b)=h.1*Pj (eV a b) h:=by unfold tn Pz Pj eV;grind
def J1(h:Tr)(a w:Sp):Pj (cA a w) h=- Qf w (Pz h a):=by unfold Pj cA Qf Pz;grind
def NG(h:Tr)(a b c:Sp):tn (Pz h b) (Pz h c)+tn (Pz h c) (Pz h a)+tn (Pz h a) (Pz h b)=h.1*(h.1*cr a b c):=by rw[cJ];unfold tn Pz;grind
def MQ(u v w:Sp):Qf u v*Qf u w+tn u v*tn u w=Qf u u*Qf v w:=by unfold Qf tn;grind
def wo{u:Sp}(a:u≠(0,0))(c:Qf u v=0)(b:tn u v=0):v=(0,0):=by
 have p:=kj a;have l:=MQ u v v;rw[c,b]at l;by_cases c:v=(0,0);exact c;have:=U3 p (kj c)
 lia
def F3{ps:yau}{a b:Sp}(k:a∈ps)(bm:b∈ps)(c:∀g∈eS a b,0<=Pj g h):lP h ps:=by
 have j:=c _ (T9);have g:=c _ (R4 _ T9);have f:=c _ (R4 _ (R4 _ T9));have e:=c _ (R4 _ (R4 _ (R4 _ T9)));rw[J1]at j g f e;have i:aU a b≠(0,0):=by unfold aU;grind
 have n:Qf (Vi (aU a b)) (Pz h b)=- Qf (aU a b) (Pz h b):=by unfold Qf Vi;grind
 have m:Qf (UE (aU a b)) (Pz h a)=tn (aU a b) (Pz h a):=by unfold Qf UE tn;grind
 have l:Qf (Vi (UE (aU a b))) (Pz h a)=- tn (aU a b) (Pz h a):=by unfold Qf Vi UE tn;grind
 rw[n,Int.neg_neg]at g;rw[m]at f;rw[l,Int.neg_neg]at e;have d:tn (aU a b) (Pz h a)=0:=ZQ (Int.neg_nonneg.mp f) e;have c:Qf (aU a b) (Pz h a)<=0:=Int.neg_nonneg.mp j;clear j f e n m l;by_cases e:a=b;subst e;exact .inl ⟨a,k,wo i (ZQ c g) d⟩;have f:Pz h b=((Pz h a).1+h.1*(aU a b).1,(Pz h a).2+h.1*(aU a b).2):=by unfold aU;rw[Po e];unfold Pz;rw[Prod.mk.injEq];constructor<;>grind
 have tb:tn (aU a b) (Pz h b)=0:=by
  rw[f];have:tn (aU a b) ((Pz h a).1+h.1*(aU a b).1,(Pz h a).2+h.1*(aU a b).2)=tn (aU a b) (Pz h a):=by unfold tn;grind
  rw[this,d]
 have e:tn (Pz h a) (Pz h b)=0:=by
  rw[f];have:tn (Pz h a) ((Pz h a).1+h.1*(aU a b).1,(Pz h a).2+h.1*(aU a b).2)=- (h.1*tn (aU a b) (Pz h a)):=by unfold tn;grind
  rw[this,d,XW,Int.neg_zero]
 have l:=MQ (aU a b) (Pz h a) (Pz h b);rw[tb,XW,Int.add_zero]at l;by_cases j:Qf (aU a b) (Pz h a)=0;exact .inl ⟨a,k,wo i j d⟩;by_cases f:Qf (aU a b) (Pz h b)=0;exact .inl ⟨b,bm,wo i f tb⟩;have d:=Wh (Int.lt_iff_le_and_ne.mpr ⟨c,j⟩) (Int.lt_iff_le_and_ne.mpr ⟨g,Ne.symm f⟩);refine .inr (.inl ⟨a,k,b,bm,e,?_⟩);rw[l]at d;by_cases q:Qf (Pz h a) (Pz h b)<0;exact q;exact absurd d (Vy.mpr (Rv (Q7 (kj i)) (Vy.mp q)))
def Hg{h:Tr}{ps:yau}{c:Nat->Sp}{N:Nat}(h0:0<h.1)(g:∀i,i<N->c i∈ps)(l:∀i,i+1<N->0<=tn (Pz h (c i)) (Pz h (c (i+1))))(k:0<cr (c 0) (c 1) (c 2)) :
  ∀ d i,N=i+d+3->0<=tn (Pz h (c (i+d+2))) (Pz h (c 0))->0<=tn (Pz h (c 0)) (Pz h (c (i+1)))->(i=0∨0<tn (Pz h (c 0)) (Pz h (c (i+1))))->lP h ps:=by
 have TQ:∀i,i+2<N->0<=tn (Pz h (c (i+2))) (Pz h (c 0))->0<=tn (Pz h (c 0)) (Pz h (c (i+1)))->(i=0∨0<tn (Pz h (c 0)) (Pz h (c (i+1))))->lP h ps:=λi b a e f=>by
  have j:=l (i+1) b;refine GR (g 0 (ZH (RS _) b)) (g (i+1) (zC6 b)) (g (i+2) b) j a e ?_;rcases f with q|q;subst q;rw[NG];exact U3 h0 (U3 h0 k);exact Int.add_pos_of_nonneg_of_pos (Int.add_nonneg j a) q
 intro d
 induction d with
 |zero =>
  intro i g a e f;exact TQ i (by rw[g];exact W5 _) a e f
 |succ d ih =>
  intro i g a e f;have b:i+2<N:=by rw[g];lia
  by_cases z:0<tn (Pz h (c 0)) (Pz h (c (i+2)));have c:i+1+d+2=i+(d+1)+2:=by lia
  exact ih (i+1) (by rw[g];lia) (by rw[c];exact a) (Q7 z) (.inr z);refine TQ i b ?_ e f;rw[cI];exact Int.neg_nonneg_of_nonpos (Vy.mp z)
def pM{h:Tr}(g:mU hs ps)(c:ps ≠ [])(h0:0<h.1)(a:∀b∈aO hs,0<=Pj b h):lP h ps:=by
 obtain⟨p,o,b,_⟩:=g.Vh c;have e:0<hs.length:=by rw[b];exact XX _
 have j:∀i,i<hs.length->hs.getD i (0,0)∈ps:=λi b=>by rw[Q2,Qw b];exact g.mem _ (Uu _)
 unfold aO at a;by_cases c:hs.length<3;rw[Pt c]at a;exact F3 (j 0 e) (j (hs.length - 1) (Nat.sub_lt e Nat.one_pos)) a;rw[Po c]at a;obtain⟨d,l⟩:∃d,hs.length=0+d+3:=⟨hs.length - 3,by lia⟩;have m:∀k,k<hs.length->0<=tn (Pz h (bS hs k)) (Pz h (hs.getD k (0,0))):=λk f=>by rw[Hl];exact Rv (Q7 h0) (a _ (P6.mpr ⟨k,ZK.mpr ⟨RS _,by rw[V8];exact f⟩,rfl⟩))
 have n:bS hs 0=hs.getD (0+d+2) (0,0):=by unfold bS;rw[V8,l];show hs.getD ((0+d+2) % (0+d+3)) _=_;rw[Ux (W5 _)]
 have a:∀k,k+1<hs.length->bS hs (k+1)=hs.getD k (0,0):=λk f=>by unfold bS;rw[Nat.add_right_comm];show hs.getD ((k+hs.length) % hs.length) _=_;rw[zCj,Ux (zC6 f)]
 have f:∀i,i+1<hs.length->0<=tn (Pz h (hs.getD i (0,0))) (Pz h (hs.getD (i+1) (0,0))):=λi b=>by have:=m (i+1) b;rw[a i b]at this;exact this
 have a:=m 0 e;rw[n]at a;exact Hg (c:=λi=>hs.getD i (0,0)) h0 j f (g.UW (by lia)) d 0 l a (f 0 (by lia)) (.inl rfl)
def wy{u v x y:Int}(e:u*y=v*x)(a:0<u∨(u=0/\0<v))(b:0<x∨(x=0/\0<=y)):0<=u*x+v*y:=by
 rcases a with a|⟨a,d⟩;have c:(u*x+v*y)*u=(u*u+v*v)*x:=by grind
 refine MT (y:=u) ?_ a;rw[c];refine Rv (Int.add_nonneg (Zy u) (Zy v)) ?_
 lia
 subst a;rw[WL]at e ⊢;rw[Int.zero_add];rcases Ua.mp e.symm with q|q
 lia
 rcases b with r|r
 lia
 exact Rv (Q7 d) r.2
def vB(h:¬gH q p):0<q.1 - p.1∨(q.1 - p.1=0/\0<=q.2 - p.2):=by
 unfold gH at h
 lia
def IA{a b:Sp}{g:Tr}(j:a≠b)(h:¬gH b a)(f:¬gH p a)(e:¬gH b p)(h0:cr a b p=0)(c:g∈eS a b):0<=Pj g (1,p.1,p.2):=by
 have d:∀w a:Sp,Pj (cA a w) (1,p.1,p.2)=w.1*(p.1 - a.1)+w.2*(p.2 - a.2):=λw a=>by unfold Pj cA;grind
 rw[cJ]at h0;have g:(b.1 - a.1)*(p.2 - a.2)=(b.2 - a.2)*(p.1 - a.1):=Int.eq_of_sub_eq_zero h0;have k:(b.1 - a.1)*(b.2 - p.2)=(b.2 - a.2)*(b.1 - p.1):=by grind
 have i:0<b.1 - a.1∨(b.1 - a.1=0/\0<b.2 - a.2):=by
  rcases vB h with q|⟨q,r⟩;exact .inl q;refine .inr ⟨q,?_⟩;grind
 have a:=wy g i (vB f);have l:=wy k i (vB e);unfold eS aU at c;rw[Po j]at c;simp at c;rcases c with q|q|q|q<;>rw[q,d]<;>simp only[Vi,UE,Vx];exact a;grind;rw[Uk,g,Int.add_left_neg];exact Uc _
 simp_all [Int.neg_neg,Uk,Int.add_right_neg,Uc]
def i4(g:mU hs ps)(c:ps ≠ []){b:Tr}(a:b∈aO hs){p:Sp}(f:p∈ps):0<=Pj b (1,p.1,p.2):=by
 obtain⟨k,e,h,d⟩:=g.Vh c;unfold aO at a;by_cases c:hs.length<3;rcases e with _|⟨j,_|⟨z,r⟩⟩;have e:=g.one k h p f;subst e;rw[h]at a;have i:∀w:Sp,Pj (cA p w) (1,p.1,p.2)=0:=λw=>by unfold Pj cA;grind
 unfold eS at a;simp at a;rcases a with q|q|q|q<;>rw[q,i]<;>exact Uc _;have e:=g.two k j h;rw[h]at a;exact IA e.1 (d j (g.mem j (by simp_all))) (d p f) (e.2 p f).2 (e.2 p f).1 a;rw[h]at c;exact absurd c (by simp);rw[Po c]at a;obtain⟨k,l,e⟩:=P6.mp a;have c:k<hs.length:=by simp_all
 have a:Pj b (1,p.1,p.2)=cr (bS hs k) (hs.getD k (0,0)) p:=by rw[<- e,cJ];unfold Pj eV;grind
 rw[a];exact g.Q9 (by lia) k c p f
def bH(w:Sp):Int:=((w.1.natAbs:Nat):Int)+((w.2.natAbs:Nat):Int)
def cg:Int->yaf->Int
 |d,[]=>d
 |d,x::a=>cg ((Int.gcd d x:Nat):Int) a
def dE(xs:yaf):yaf:=xs.map λx=>x.fdiv (cg 0 xs)
def mV(a:Sp):Option (yaf):=if bH a=0 then some [1]else none
def lR(a b:Sp):Option (yaf):=if tn a b=0/\Qf a b<0 then some (dE [bH b,bH a])else none
def jG(a b e:Sp):Option (yaf) :=
 if 0<tn b e/\0<tn e a/\0<tn a b then some (dE [tn b e,tn e a,tn a b])
 else if tn b e<0/\tn e a<0/\tn a b<0 then some (dE [-tn b e,-tn e a,-tn a b])else none
def d9:yau->Option (yaf)
 |[]=>none
 |[a]=>mV a
 |[a,b]=>lR a b
 |a::b::e::_=>jG a b e
def Ur(ws:yau)(a:yag):yau:=a.map λk=>ws.getD k (0,0)
def cw(ws:yau):List (yag)->Option (yag×yaf)
 |[]=>none
 |pk::r=>match d9 (Ur ws pk)with
  |some a=>some (pk,a)
  |none=>cw ws r
def cT(n:Nat):List (yag):=PV n 1++(PV n 2++PV n 3)
def pJ:bH a=0↔a=(0,0):=by unfold bH;grind
theorem wX:∀{a:List (yag)},cw ws a=none->∀b∈a,d9 (Ur ws b)=none
 |[],_,b,h=>by cases h
 |a::r,e,b,h=>by
  unfold cw at e;cases hb:d9 (Ur ws a)with
  |some s=>simp_all
  |none =>
   rw[hb]at e;rcases Qg.mp h with q|q
   lia
   exact wX e b q
def sj{n i:Nat}(h:i<n):[i]∈PV n 1:=by simp only[PV,zC5,List.flatMap_nil,W4];exact P6.mpr ⟨i,ZK.mpr ⟨RS _,by simp[dM];exact h⟩,rfl⟩
def sk{n i j:Nat}(h:i<j)(a:j<n):[i,j]∈PV n 2:=by
 have:=sj (n:=n) (i:=i) (by lia);refine ZN.mpr ⟨[i],this,P6.mpr ⟨j,ZK.mpr ?_,rfl⟩⟩;simp[dM]
 lia
def Hz{n i j k:Nat}(h:i<j)(b:j<k)(a:k<n):[i,j,k]∈PV n 3:=by
 have:=sk (n:=n) h (by lia);refine ZN.mpr ⟨[i,j],this,P6.mpr ⟨k,ZK.mpr ?_,rfl⟩⟩;simp[dM]
 lia
def JB(h:iC a b):lR a b≠none:=by unfold lR;have c:tn a b=0/\Qf a b<0:=h;rw[Pt c];simp
def JC(h:d6 a b e):jG a b e≠none:=by
 unfold jG;rcases h with h|h;rw[Pt h];simp;rw[Po (by lia),Pt h];simp
def GQ(n:lP h ps):cw (ps.map (Pz h)) (cT ps.length)≠none:=by
 intro e;have N:=wX e;have c:∀{i:Nat} {p:Sp},ps[i]?=some p->(ps.map (Pz h)).getD i (0,0)=Pz h p:=fun {i p} q=>by rw[Q2,QZ,q];rfl
 have m:∀{i:Nat} {p:Sp},ps[i]?=some p->i<ps.length:=fun {i p} q=>(RQ.mp q).1
 have g:∀i j p q,ps[i]?=some p->ps[j]?=some q->i<j->iC (Pz h p) (Pz h q)->False:=λi j p q e d l b=>by have:=N [i,j] (SO _ (Vu _ (sk l (m d))));unfold Ur at this;simp only[QO,XT,c e,c d]at this;exact JB b this
 have a:∀i j k p q r,ps[i]?=some p->ps[j]?=some q->ps[k]?=some r->i<j->j<k->d6 (Pz h p) (Pz h q) (Pz h r)->False:=λi j k p q r e d f l o b=>by have:=N [i,j,k] (SO _ (SO _ (Hz l o (m f))));unfold Ur at this;simp only[QO,XT,c e,c d,c f]at this;exact JC b this
 rcases n with⟨p,l,b⟩| ⟨p,l,q,n,b⟩| ⟨p,l,q,n,r,o,b⟩;obtain⟨i,e⟩:=zCA.mp l;have:=N [i] (Vu _ (sj (m e)));unfold Ur at this;simp only[QO,XT,c e]at this;have c:mV (Pz h p)=none:=this;unfold mV at c;rw[Pt (pJ.mpr b)]at c;cases c;obtain⟨i,e⟩:=zCA.mp l;obtain⟨j,d⟩:=zCA.mp n;rcases ZM i j with c|c|c;exact g i j p q e d c b;subst c;rw[e]at d;cases d;have m:=b.2;unfold Qf at m;have:=Zy (Pz h p).1;have:=Zy (Pz h p).2
 lia
 exact g j i q p d e c b.symm
 ·obtain⟨i,e⟩:=zCA.mp l;obtain⟨j,d⟩:=zCA.mp n;obtain⟨k,f⟩:=zCA.mp o;have g:∀{i j:Nat} {p q r:Sp},ps[i]?=some p->ps[j]?=some q->d6 (Pz h p) (Pz h q) r->i≠j:=fun {i j p q r} e d b c=>by
   subst c;rw[e]at d;cases d;unfold d6 at b;rw[mR]at b
   lia
  have c:=g e d b;have m:=g d f b.YX;have l:=g f e b.YX.YX;rcases Y6 c with h|h
  ·rcases Y6 m with g|g;exact a i j k p q r e d f h g b
   ·rcases Y6 l with c|c;exact a k i j r p q f e d c h b.YX.YX
    ·exact a i k j p r q e f d c g b.YX.YX.swap
  ·rcases Y6 m with g|g
   ·rcases Y6 l with c|c;exact a j k i q r p d f e g c b.YX
    ·exact a j i k q p r d e f h c b.swap
   ·exact a k j i r q p f d e g h b.YX.swap
theorem yZ(k:Int)(a:0<=k):∀(xs:yaf) (d:Int),cg (k*d) (xs.map (k*·))=k*cg d xs
 |[],d=>rfl
 |x::xs,d=>by show cg ((Int.gcd (k*d) (k*x):Nat):Int) (xs.map (k*·))=_;rw[zDC,Int.natCast_mul,Int.natAbs_of_nonneg a,yZ k a xs];rfl
structure Snt(A B C E g:Int)(w v:Sp):Prop where
 x:g*v.1=A*w.1+B*w.2
 y:g*v.2=C*w.1+E*w.2
def Fz(h:tn a b=0):Qf b b*a.1+(-(Qf a b))*b.1=0/\Qf b b*a.2+(-(Qf a b))*b.2=0:=by
 have d:Qf b b*a.1+(-(Qf a b))*b.1=b.2*tn a b:=by unfold Qf tn;grind
 have c:Qf b b*a.2+(-(Qf a b))*b.2=- (b.1*tn a b):=by unfold Qf tn;grind
 simp_all
def sd{a:Sp}(h:a≠(0,0)):0<bH a:=by
 have:bH a≠0:=λe=>h (pJ.mp e)
 unfold bH at this ⊢
 lia
def PK(g:Tr):D:=T3 g.1 g.2.1 g.2.2
def K8(h:PK p=PK q):p=q:=by
 unfold PK T3 at h
 lia
def K9{ps qs:yaw}(h:ps.map PK=qs.map PK):ps=qs:=jy K8 h
def gP(p:Tr):aG (PK p)=PK p:=by unfold PK T3;simp only[cX,br,bM,dJ]
def uS(ps:yaw):bb (ps.map PK)=ps.map PK:=cV PK gP ps
def oL:Option (yaf)->D
 |none=>.Qe
 |some a=>.lst true (a.map D.int)
structure WB(n:Nat)(w:Sp):Prop where
 x:Bd n w.1
 y:Bd n w.2
structure PB(n:Nat)(h:Tr):Prop where
 b0:0<h.1
 b:Bd 100 h.1
 x:Bd n h.2.1
 y:Bd n h.2.2
theorem WB.mono{m:Nat}(h:WB n w)(a:n<=m):WB m w:=⟨h.x.mono a,h.y.mono a⟩
def WB.sb(h:WB 60 w):SB w:=⟨h.x,h.y⟩
def S7(b:Bd n x)(a:Bd m y)(c:n<=1000:=by decide)(d:m<=1000:=by decide):CM x y:=.inr (.inr ⟨b.mono (QM c (by decide)),a.mono (QM d (by decide))⟩)
theorem wN(x:Int):∀(d:Int) (xs:yaf),cg d (xs++[x])=((Int.gcd (cg d xs) x:Nat):Int)
 |d,[]=>rfl
 |d,y::a=>wN x _ a
def vw(h:WB n w):Bd (n+2) (bH w):=by
 have b:=h.x;have a:=h.y;unfold Bd bH at *
 lia
def J0{x:Int}(h:x≠0):0<Int.gcd ((Int.gcd 0 d:Nat):Int) x:=Int.gcd_pos_iff.mpr (.inr h)
def EM(a:Bd n x)(h:x≠0):Bd n ((Int.gcd d x:Nat):Int):=by
 unfold Bd at *;have:=Nat.le_of_dvd (by lia) (Int.gcd_dvd_natAbs_right d x)
 lia
def oZ(h:Bd n x):Bd n (-x):=by unfold Bd at *;lia
def Mo(p q:Sp):eqD (QJ p) (QJ q)=decide (p=q):=by
 unfold QJ;rw[BF,lg,lg,lg,yV,ko,ko,ko,Bool.and_true]
 lia
def Ec{a:Type}{xs:List a}{v:a}(h0:0<xs.length)(h:xs[xs.length - 1]?=some v):Rz xs (-1)=some v:=by unfold Rz ixN;rw[Po (by lia),Pt (by lia)];rw[show(-1+(xs.length:Int)).toNat=xs.length - 1 by lia];exact h
structure GB(g:Tr):Prop where
 a:Bd 200 g.1
 b:Bd 200 g.2.1
 c:Bd 200 g.2.2
def GK(d:SB a)(c:SB b):WB 62 (aU a b):=by unfold aU;split;exact⟨by unfold Bd;decide,by unfold Bd;decide⟩;exact⟨by rw[Vx,Vx];exact Bd.mono (m:=61) (c.x.sub d.x) (by decide),by show Bd 62 (1*b.2 - 1*a.2);rw[Vx,Vx];exact Bd.mono (m:=61) (c.y.sub d.y) (by decide)⟩
def mW(hs:yau):(aO hs).length<=hs.length+4:=by
 unfold aO eS;split
 all_goals simp_all
def vL(n:Nat):Nat->List (yag)
 |0=>PV n 1++(PV n 2++(PV n 3++[]))
 |1=>PV n 2++(PV n 3++[])
 |2=>PV n 3++[]
 |_=>[]
def FO(n:Nat){j:Nat}(h:j<3):vL n j=PV n (j+1)++vL n (j+1):=by
 rcases j with _|_|_|j;rfl;rfl;rfl
 lia
def Ic(n:Nat):cT n=vL n 0:=by
 show PV n 1++(PV n 2++PV n 3)=PV n 1++(PV n 2++(PV n 3++[]))
 simp_all
def E9(ws:yau)(a:yag)(r:List (yag)):cw ws (a::r)=match d9 (Ur ws a)with
  |some b=>some (a,b)
  |none=>cw ws r:=rfl
def NW{g p b:Int}(a:0<g)(e:g*p=b)(h:Bd n b):Bd n p:=by
 unfold Bd at *;rw[<- e,Zb]at h;have:1*p.natAbs<=g.natAbs*p.natAbs:=Y4 _ (by lia)
 lia
def p4:((10:Int) ^ (4:Int).toNat)=10000:=by decide
def p8:((10:Int) ^ (8:Int).toNat)=100000000:=by decide
def Ko(n:Nat)(x:Str)(a:PyData.strOk x=true):Q1 n (.str x):=⟨by rw[VA]<;>(intros;contradiction),by exact a,by rw[R9,PyData.depth];lia⟩
def Hj{a:Int}(c:Bd 402 b)(h:b≠0):Bd 1000 (cg 0 [a,b]):=(EM c h).mono (by decide)
def Es{a:Type}{wi:DA}{js:yag}{tc:DT}{te:DE}{Q:D->Prop}{P:List a->Prop}(f:a->D)(c:a->Bool)(g:a->D)(b:∀R:yas->Prop,(∀ys,P ys->R (ys.map f))->wi ρ R)(hz:∀ys,P ys->ys.length<=sizeLine)
  (e:∀ys,P ys->∀x∈ys,∀K:Bool->Prop,K (c x)->tc (some (.val (f x))::js.map (bJ ρ)) K)
  (d:∀ys,P ys->∀x∈ys,∀K:D->Prop,K (g x)->te (some (.val (f x))::js.map (bJ ρ)) K) (q:∀ys,P ys->Q (.lst true ((ys.filter c).map g))):qG wi js tc te ρ Q:=by
 refine b _ λys a=>?_
 have:=PD.comp_map (wi:=λ_ R=>R (ys.map f)) (js:=js) (tc:=tc) (te:=te) (ρ:=ρ) (Q:=Q) ys f c g (λR h=>h) (hz ys a) (λx b K k=>e ys a x b K k) (λx b _ K k=>d ys a x b K k) (q ys a);exact this
def zR:∀{xs ys ps:yau},cO xs ps->cO ys ps->xs=ys:=by
 have g:∀(xs ys:yau),xs.Pairwise (λp q=>gH p q)->ys.Pairwise (λp q=>gH p q)->(∀p,p∈xs↔p∈ys)->xs=ys:=by
  intro xs
  induction xs with
  |nil =>
   intro ys _ _ h;cases ys with
   |nil=>rfl
   |cons y ys=>grind [List.mem_cons_self]
  |cons x xs ih =>
   intro ys b a h;cases ys with
   |nil=>grind [List.mem_cons_self]
   |cons y ys =>
    obtain⟨d,j⟩:=UK.mp b;obtain⟨b,i⟩:=UK.mp a;have c:x=y:=by
     rcases Qg.mp ((h x).mp T9)with e|e;exact e;rcases Qg.mp ((h y).mpr T9)with e'|e'
     lia
     have a:=b x e;have b:=d y e';unfold gH at a b;omega
    subst c;have f:∀p:Sp,¬gH p p:=λp=>by unfold gH;omega
    grind
 intro xs ys ps b a;exact g xs ys b.1 a.1 λp=>(b.2 p).trans (a.2 p).symm
def okX(x:Int):Prop:=0<=x/\x<2147483647
def wsum(a:yaf)(ws:yau):Sp:=((List.zipWith (λs (w:Sp)=>s*w.1) a ws).sum,(List.zipWith (λs (w:Sp)=>s*w.2) a ws).sum)
theorem rY:∀(d:Int) (xs:yaf),cg d xs∣d/\∀x∈xs,cg d xs∣x
 |d,[]=>⟨Int.dvd_refl _,by simp⟩
 |d,x::xs=>by
  obtain⟨a,b⟩:=rY ((Int.gcd d x:Nat):Int) xs;refine⟨Zc a (Int.gcd_dvd_left _ _),λy c=>?_⟩;rcases Qg.mp c with z|z;rw[z];exact Zc a (Int.gcd_dvd_right _ _);exact b y z
theorem y4:∀(d:Int) (xs:yaf),0<=d->0<=cg d xs
 |d,[],h=>h
 |d,x::xs,_=>y4 _ xs (by simp_all)
structure CG(xs:yaf):Prop where
 pos:∀s∈dE xs,0<s
 one:cg 0 (dE xs)=1
 back:∃g:Int,0<g/\(dE xs).map (g*·)=xs
def mF{xs:yaf}(a:xs ≠ [])(h:∀x∈xs,0<x):CG xs:=by
 obtain⟨d,b⟩:=zCl xs a;have c:0<cg 0 xs:=by
  have a:=y4 0 xs (Uc _);have:cg 0 xs≠0:=λe=>by have:=(rY 0 xs).2 d b;rw[e]at this;grind
  lia
 have a:(dE xs).map (cg 0 xs*·)=xs:=by
  unfold dE;rw[QP];have:∀x∈xs,((cg 0 xs*·)∘λx=>x.fdiv (cg 0 xs)) x=x:=λx f=>by simp_all [Int.fdiv_eq_ediv_of_dvd,rY,Int.mul_ediv_cancel']
  rw[Yn this,List.map_id']
 refine⟨λs g=>?_,?_,_,c,a⟩;have i:cg 0 xs*s∈xs:=by grind
 exact HW (y:=cg 0 xs) (by simp_all [S4]) c;have:=yZ (cg 0 xs) (Q7 c) (dE xs) 0;rw[a,XW]at this;have a:cg 0 xs*1=cg 0 xs*cg 0 (dE xs):=by lia
 exact(zDL (by lia) a).symm
structure xD(ws:yau)(sh:yaf):Prop where
 len:sh.length=ws.length
 pos:∀s∈sh,0<s
 one:cg 0 sh=1
 sum:wsum sh ws=(0,0)
def Ld(h:iC a b):bH b*a.1+bH a*b.1=0/\bH b*a.2+bH a*b.2=0:=by
 have c:b≠(0,0):=λe=>by have:=h.2;unfold Qf at this;simp_all
 obtain⟨g,f⟩:=Fz h.1;have d:=kj c;have c:0 < -(Qf a b):=by have:=h.2;lia
 generalize Qf b b=x at g f d;generalize -(Qf a b)=y at g f c;have l:x*bH a=y*bH b:=by
  have g:x.natAbs*a.1.natAbs=y.natAbs*b.1.natAbs:=by rw[<- Zb,<- Zb];lia
  have f:x.natAbs*a.2.natAbs=y.natAbs*b.2.natAbs:=by rw[<- Zb,<- Zb];lia
  have h:=congrArg (λn:Nat=>(n:Int)) g;have g:=congrArg (λn:Nat=>(n:Int)) f;simp only[Int.natCast_mul,Int.natAbs_of_nonneg (Q7 d),Int.natAbs_of_nonneg (Q7 c)]at h g;unfold bH
  simp_all [Int.mul_add]
 have z:∀u v:Int,x*u+y*v=0->bH b*u+bH a*v=0:=λu v e=>by
  have:x*(bH b*u+bH a*v)=bH b*(x*u+y*v)+v*(x*bH a - y*bH b):=by grind
  rw[e,l,Int.sub_self,XW,XW,Int.add_zero]at this;exact(Ua.mp this).resolve_left (by lia)
 simp_all
def tI(L:CG xs)(h:wsum xs ws=(0,0)):wsum (dE xs) ws=(0,0):=by
 obtain⟨g,d,c⟩:=L.back;have b:∀(f:Sp->Int) (l:yaf) (a:yau),(List.zipWith (λs w=>s*f w) (l.map (g*·)) a).sum=g*(List.zipWith (λs w=>s*f w) l a).sum:=λf l=>by
  induction l with
  |nil=>simp_all
  |cons s l ih =>
   intro a;cases a with
   |nil=>simp
   |cons u a =>
    simp;rw[ih a,Int.mul_add,Int.mul_assoc]
 unfold wsum at h ⊢;rw[<- c]at h;rw[b (λw=>w.1),b (λw=>w.2)]at h;have z:∀t:Int,g*t=0->t=0:=λt e=>(Ua.mp e).resolve_left (by lia)
 simp_all
def oY{ws:yau}{f:yaf}(n:ws.length<=3)(h:d9 ws=some f):xD ws f:=by
 rcases ws with _|⟨a,_|⟨b,_|⟨e,_|⟨z,r⟩⟩⟩⟩;cases h;have d:mV a=some f:=h;unfold mV at d;split at d;rename_i c;cases d;have:=pJ.mp c;subst this;exact⟨rfl,by simp,rfl,by unfold wsum;simp⟩
 lia
 ·have d:lR a b=some f:=h;unfold lR at d;split at d
  ·rename_i c;cases d;have i:iC a b:=c;have m:a≠(0,0):=λe=>by have:=c.2;unfold Qf at this;simp_all
   have l:b≠(0,0):=λe=>by have:=c.2;unfold Qf at this;simp_all
   have L:=mF (xs:=[bH b,bH a]) (by simp) λx g=>by
    simp at g;rcases g with rfl|rfl
    all_goals simp_all [sd]
   obtain⟨k,j⟩:=Ld i;refine⟨by unfold dE;simp,L.pos,L.one,tI L ?_⟩;unfold wsum
   simp_all
  lia
 have d:jG a b e=some f:=h;obtain⟨p,o⟩:=GS a b e;unfold jG at d;split at d;cases d;have L:=mF (xs:=[tn b e,tn e a,tn a b]) (by simp) (by simp_all);refine⟨by unfold dE;simp,L.pos,L.one,tI L ?_⟩;unfold wsum
 simp_all [Int.add_assoc]
 split at d;cases d;have L:=mF (xs:=[-tn b e,-tn e a,-tn a b]) (by simp) (by grind);refine⟨by unfold dE;simp,L.pos,L.one,tI L ?_⟩;unfold wsum;simp;grind
 lia
 simp_all
theorem wY:∀{b:List (yag)} {c:yag} {a:yaf},cw ws b=some (c,a)->c∈b/\d9 (Ur ws c)=some a
 |[],_,_,h=>by cases h
 |p::q,c,a,h=>by
  rw[show cw ws (p::q)=(match d9 (Ur ws p)with|some a=>some (p,a)|none=>cw ws q)from rfl]at h;cases hb:d9 (Ur ws p)with
  |none =>
   rw[hb]at h;obtain⟨a,b⟩:=wY h;grind
  |some s =>
   grind
theorem nF:∀{j:Nat} {a:yag},a∈PV n j->a.Pairwise (·<·)
 |0,a,h=>by
  simp only[PV,SM]at h
  simp_all
 |j+1,a,h=>by
  simp only[PV,ZN]at h;obtain⟨q,a,h⟩:=h;have ih:=nF a;obtain⟨k,a,rfl⟩:=P6.mp h;rw[ZK]at a;refine zDG.mpr ⟨ih,by simp_all,λx b y a=>?_⟩;rw[SM.mp a];have d:x<dM q:=by
   unfold dM;cases e:q.getLast? with
   |none=>simp_all
   |some l =>
    obtain⟨c,rfl⟩:=List.getLast?_eq_some_iff.mp e;rcases RH.mp b with z|z;have:=(zDG.mp ih).2.2 x z l (by simp)
    lia
    simp_all
  lia
theorem qQ:∀ps:yau,dO (ps.map PL)=true
 |[]=>by rw[XT,dO]
 |p::r=>by rw[QO,dO,qQ r];unfold PL;simp only[kJ,dO,Bool.and_true]
def sX(ps:yau)(ws:yaf):Int:=(List.zipWith (λ(p:Sp) w=>p.1*w) ps ws).sum
def sY(ps:yau)(ws:yaf):Int:=(List.zipWith (λ(p:Sp) w=>p.2*w) ps ws).sum
structure oV(ps:yau)(h:Tr)(pk:yag)(sh:yaf):Prop where
 l0:0<pk.length
 l3:pk.length<=3
 ls:sh.length=pk.length
 rise:pk.Pairwise (·<·)
 lt:∀k∈pk,k<ps.length
 pos:∀s∈sh,0<s
 bd:∀s∈sh,Bd 900 s
 one:cg 0 sh=1
 x:sh.sum*h.2.1=h.1*sX (pk.map λk=>ps.getD k (0,0)) sh
 y:sh.sum*h.2.2=h.1*sY (pk.map λk=>ps.getD k (0,0)) sh
theorem Av(h:Tr):∀(qs:yau) (c:yaf),c.length=qs.length->(wsum c (qs.map (Pz h))).1=h.1*sX qs c - c.sum*h.2.1/\(wsum c (qs.map (Pz h))).2=h.1*sY qs c - c.sum*h.2.2
 |[],[],_=>by unfold wsum sX sY;simp
 |[],_::_,h=>by simp at h
 |_::_,[],h=>by simp at h
 |q::qs,s::c,d=>by obtain⟨a,b⟩:=Av h qs c (by simp_all);unfold wsum sX at a;unfold wsum sY at b;unfold wsum sX sY;simp at a b ⊢;rw[a,b];unfold Pz;grind
def zw(L:CG xs)(h:∀x∈xs,Bd n x):∀s∈dE xs,Bd n s:=λs a=>by obtain⟨g,b,c⟩:=L.back;have:g*s∈(dE xs).map (g*·):=P6.mpr ⟨s,a,rfl⟩;rw[c]at this;exact NW b rfl (h _ this)
def yh{ws:yau}{f:yaf}(g:∀w∈ws,WB 400 w)(l:ws.length<=3)(h:d9 ws=some f):∀s∈f,Bd 900 s:=by
 rcases ws with _|⟨a,_|⟨b,_|⟨e,_|⟨z,r⟩⟩⟩⟩;cases h;have d:mV a=some f:=h;unfold mV at d;split at d;cases d;intro s c;rw[SM.mp c];unfold Bd
 lia
 lia
 ·have d:lR a b=some f:=h;unfold lR at d;split at d
  ·rename_i c;cases d;have k:a≠(0,0):=λe=>by have:=c.2;unfold Qf at this;simp_all
   have j:b≠(0,0):=λe=>by have:=c.2;unfold Qf at this;simp_all
   have L:=mF (xs:=[bH b,bH a]) (by simp) λx c=>by
    simp at c;rcases c with rfl|rfl
    all_goals simp_all [sd]
   refine zw L λx c=>?_
   simp at c;rcases c with rfl|rfl;exact(vw (g b (by simp))).mono (by decide);exact(vw (g a (by simp))).mono (by decide)
  lia
 ·have d:jG a b e=some f:=h;have i:=g a (by simp);have h:=g b (by simp);have f:=g e (by simp);have p:Bd 900 (tn b e):=Bd.mono (m:=801) ((h.x.mul f.y).sub (f.x.mul h.y)) (by decide);have o:Bd 900 (tn e a):=Bd.mono (m:=801) ((f.x.mul i.y).sub (i.x.mul f.y)) (by decide);have n:Bd 900 (tn a b):=Bd.mono (m:=801) ((i.x.mul h.y).sub (h.x.mul i.y)) (by decide);unfold jG at d;split at d;cases d;have L:=mF (xs:=[tn b e,tn e a,tn a b]) (by simp) (by simp_all);refine zw L λx c=>?_
  grind
  ·split at d
   ·cases d;have L:=mF (xs:=[-tn b e,-tn e a,-tn a b]) (by simp) (by simp_all);refine zw L λx c=>?_
    simp at c;rcases c with rfl|rfl|rfl
    all_goals simp_all [oZ]
   lia
 simp_all
def N3{ps:yau}{a:yag}{d:yaf}(C:∀p∈ps,WB 40 p)(f:PB 160 h)(e:cw (ps.map (Pz h)) (cT ps.length)=some (a,d)):oV ps h a d:=by
 obtain⟨z,c⟩:=wY e;have b:∃j,0<j/\j<=3/\a∈PV ps.length j:=by unfold cT at z;grind
 obtain⟨j,H,G,n⟩:=b;obtain⟨l,q⟩:=bW n;have o:Ur (ps.map (Pz h)) a=(a.map λk=>ps.getD k (0,0)).map (Pz h):=by
  unfold Ur
  simp_all
 have x:(Ur (ps.map (Pz h)) a).length=j:=by unfold Ur;rw[Pq,l]
 have u:∀w∈Ur (ps.map (Pz h)) a,WB 400 w:=λw i=>by rw[o]at i;obtain⟨p,y,rfl⟩:=P6.mp i;obtain⟨k,A,rfl⟩:=P6.mp y;have lk:=q k A;have B:=C (ps.getD k (0,0)) (by rw[Q2,Qw lk];exact Uu lk);refine⟨?_,?_⟩;show Bd 400 (h.1*_ - 1*h.2.1);rw[Vx];exact Bd.mono (m:=161) (((f.b.mul B.x).mono (by decide)).sub f.x) (by decide);show Bd 400 (h.1*_ - 1*h.2.2);rw[Vx];exact Bd.mono (m:=161) (((f.b.mul B.y).mono (by decide)).sub f.y) (by decide)
 have B:=oY (by lia) c;have E:=yh u (by lia) c;have s:=B.sum;have g:d.length=a.length:=by rw[B.len,x,l]
 rw[o]at s;obtain⟨t,r⟩:=Av h (a.map λk=>ps.getD k (0,0)) d (by rw[g,Pq]);rw[s]at t r;exact⟨by lia,by lia,g,nF n,q,B.pos,E,B.one,by lia,by lia⟩
noncomputable def PY(a b:Tr):Tr:=(a.2.1*b.2.2 - a.2.2*b.2.1,a.2.2*b.1 - a.1*b.2.2,a.1*b.2.1 - a.2.1*b.1)
def Q5(a b c:Tr):Int:=Pj (PY a b) c
def fG(a b c:Tr):Q5 a b c=Q5 b c a:=by unfold Q5 Pj PY;grind
def rV(a b c:Tr):Q5 a b c=- Q5 b a c:=by unfold Q5 Pj PY;grind
def EI(a c:Tr):Q5 a a c=0:=by unfold Q5 Pj PY;grind
def qJ(a b:Tr):Q5 a b a=0:=by unfold Q5 Pj PY;grind
def qK(a b:Tr):Q5 a b b=0:=by unfold Q5 Pj PY;grind
structure Zz(q a b:Tr)(m s t:Int):Prop where
 m0:0<m
 s0:0<s
 t0:0<t
 e1:m*q.1=s*a.1+t*b.1
 e2:m*q.2.1=s*a.2.1+t*b.2.1
 e3:m*q.2.2=s*a.2.2+t*b.2.2
def Zz.gv(C:Zz q a b m s t)(g:Tr):m*Pj g q=s*Pj g a+t*Pj g b:=by have e:=C.e1;have d:=C.e2;have c:=C.e3;unfold Pj;grind
def Zz.nng(C:Zz q a b m s t)(d:0<=Pj g a)(c:0<=Pj g b):0<=Pj g q:=by
 have h:=C.gv g;have f:=Rv (Q7 C.s0) d;have e:=Rv (Q7 C.t0) c;have:0<=m*Pj g q:=by lia
 exact XN this C.m0
def Zz.zero(C:Zz q a b m s t)(d:Pj g a=0)(c:Pj g b=0):Pj g q=0:=by
 have h:=C.gv g;rw[d,c]at h;have a:m*Pj g q=0:=by lia
 rcases Ua.mp a with z|z;have:=C.m0;lia;exact z
def aR(g:Tr)(a:Tr->Tr->Tr):Tr->yaw->yaw
 |_,[]=>[]
 |p,c::r=>(if Pj g p*Pj g c<0 then[a p c]else[])++((if 0<=Pj g c then[c]else[])++aR g a c r)
def WU(g:Tr)(a:Tr->Tr->Tr):Prop:=∀p c:Tr,0<p.1->0<c.1->Pj g p*Pj g c<0->(∃m s t,Zz (a p c) p c m s t)/\Pj g (a p c)=0
theorem tG(B:WU g a):∀(l:yaw) (p:Tr),(∀x∈p::l,0<x.1)->(∀x∈p::l,0<=Pj d x)->∀y∈aR g a p l,0<=Pj d y
 |[],_,_,_=>λy a=>by cases a
 |c::r,p,d,b=>λy a=>by
  rcases RH.mp a with q|q;split at q;rename_i a;rw[SM.mp q];obtain⟨⟨m,s,t,C⟩,_⟩:=B p c (d p (by simp)) (d c (by simp)) a;exact C.nng (b p (by simp)) (b c (by simp));cases q;rcases RH.mp q with q|q
  simp_all
  exact tG B r c (λx a=>d x (R4 _ a)) (λx a=>b x (R4 _ a)) y q
theorem tH(B:WU g a):∀(l:yaw) (p:Tr),(∀x∈p::l,0<x.1)->∀y∈aR g a p l,0<y.1
 |[],_,_=>λy b=>by cases b
 |c::r,p,a=>λy b=>by
  rcases RH.mp b with q|q;split at q;rename_i b;rw[SM.mp q];obtain⟨⟨m,s,t,C⟩,_⟩:=B p c (a p (by simp)) (a c (by simp)) b;have e:=U3 C.s0 (a p (by simp));have d:=U3 C.t0 (a c (by simp));have:=C.e1;exact Ud.mp λz=>by have:=Int.mul_nonpos_of_nonneg_of_nonpos (Q7 C.m0) z;lia
  cases q;rcases RH.mp q with q|q
  simp_all
  exact tH B r c (λx b=>a x (R4 _ b)) y q
theorem iZ(g:Tr)(d:Tr->Tr->Tr):∀(a:yaw) (p c:Tr) (b:yaw),aR g d p (a++c::b)=aR g d p (a++[c])++aR g d c b
 |[],p,c,b=>by simp only[WJ,aR,W4,WH]
 |x::a,p,c,b=>by simp only[WG,aR,iZ g d a x c b,WH]
theorem xh(B:WU g a):∀(l:yaw) (p:Tr),(∀x∈p::l,0<x.1)->∀y∈aR g a p l,0<=Pj g y
 |[],_,_=>λy a=>by cases a
 |c::r,p,b=>λy a=>by
  rcases RH.mp a with q|q;split at q;rename_i a;rw[SM.mp q,(B p c (b p (by simp)) (b c (by simp)) a).2]
  lia
  grind;rcases RH.mp q with q|q;grind;exact xh B r c (λx d=>b x (by simp_all)) y q
theorem qw:∀(l:yaw) (p:Tr) {x:Tr},x∈l->0<=Pj g x->x∈aR g qf p l
 |[],_,_,h,_=>by cases h
 |c::r,p,x,h,a=>by
  unfold aR;rcases Qg.mp h with rfl|h
  all_goals simp_all [Pt,SO,qw]
theorem oK(B:WU g a):∀(l:yaw) (p z:Tr),(∀x∈p::l,0<x.1)->0<z.1->Pj g p*Pj g z<0->∃y∈aR g a p (l++[z]),Pj g y=0/\∀d:Tr,(∀x∈p::(l++[z]),0<=Pj d x)->0<=Pj d y
 |[],p,z,i,k,f=>by obtain⟨⟨m,s,t,C⟩,e⟩:=B p z (i p (by simp)) k f;refine⟨a p z,?_,e,λd h=>C.nng (h p (by simp)) (h z (by simp))⟩;rw[WJ];unfold aR;rw[Pt f];simp
 |c::r,p,z,i,k,f=>by
  rcases ZJ (Pj g p*Pj g c) 0 with q|q|q;obtain⟨⟨m,s,t,C⟩,e⟩:=B p c (i p (by simp)) (i c (by simp)) q;refine⟨a p c,?_,e,λd h=>C.nng (h p (by simp)) (h c (by simp))⟩;rw[WG];unfold aR;rw[Pt q];simp;have a:Pj g p≠0:=λe=>by rw[e,WL]at f;exact XU _ f
  have b:Pj g c=0:=(Ua.mp q).resolve_left a;exact⟨c,qw _ _ (by simp) (by lia),b,λd h=>h c (by simp)⟩;have j:Pj g c*Pj g z<0:=by
   rcases Int.lt_or_gt_of_ne (show Pj g p≠0 from λe=>by rw[e,WL]at f;exact XU _ f)with a|a;have b:0<Pj g z:=Ud.mp λb=>Ud.mpr f (zBk (Q7 a) b)
   have d:Pj g c<0:=Ud.mp λd=>Ud.mpr q (zBO (Q7 a) d)
   exact Wh d b;have b:Pj g z<0:=Ud.mp λb=>Ud.mpr f (Rv (Q7 a) b)
   have d:0<Pj g c:=Ud.mp λd=>Ud.mpr q (Int.mul_nonpos_of_nonneg_of_nonpos (Q7 a) d)
   exact Y1 d b
  obtain⟨y,b,e,h⟩:=oK B r c z (λx a=>i x (R4 _ a)) k j;refine⟨y,?_,e,λd k=>h d λx a=>k x (R4 _ a)⟩;exact SO _ (SO _ b)
def Vj(l:yaw):Prop:=∀x y z,List.Sublist [x,y,z] l->0<=Q5 x y z
def Vj.sub{k:yaw}(h:Vj l)(s:k.Sublist l):Vj k:=λx y z q=>h x y z (q.trans s)
def lQ:yaw->Prop
 |[]=>True
 |p::r=>r.Pairwise (λa b=>0<=Q5 p a b)/\lQ r
theorem Vj.p:∀{l:yaw},Vj l->lQ l
 |[],_=>True.intro
 |p::r,h=>⟨List.pairwise_iff_forall_sublist.mpr fun {a b} s=>h p a b (s.cons_cons p),Vj.p (h.sub (List.sublist_cons_self p r))⟩
theorem lQ.t:∀{l:yaw},lQ l->Vj l
 |[],_,_,_,_,s=>by cases s
 |p::r,h,x,y,z,s=>by
  cases s with
  |cons _ s=>exact lQ.t h.2 x y z s
  |cons_cons _ s=>exact List.pairwise_iff_forall_sublist.mp h.1 s
theorem lO(B:WU g f):∀(l:yaw) (p:Tr),(∀x∈p::l,0<x.1)->(p::l).Pairwise (λa b=>0<=Q5 d a b)->(p::aR g f p l).Pairwise (λa b=>0<=Q5 d a b)
 |[],_,_,h=>h
 |c::r,p,i,h=>by
  have j:∀x∈c::r,0<x.1:=λx e=>i x (R4 _ e)
  obtain⟨e,k⟩:=UK.mp h;have ih:=lO B r c j k;obtain⟨n,h⟩:=UK.mp ih;have l:∀w∈aR g f c r,0<=Q5 d p w:=tG B r c j (d:=PY d p) e;have j:0<=Q5 d p c:=e c (by simp);unfold aR;by_cases k:Pj g p*Pj g c<0;obtain⟨⟨m,s,t,C⟩,e⟩:=B p c (i p (by simp)) (i c (by simp)) k;have q:0<=Q5 d p (f p c):=C.nng (g:=PY d p) (by show 0<=Q5 d p p;rw[qK];exact Uc _) j;have e:∀x,0<=Q5 d p x->0<=Q5 d c x->0<=Q5 d (f p c) x:=λx a b=>by rw[fG,fG]at a b ⊢;exact C.nng (g:=PY x d) a b
  have o:0<=Q5 d (f p c) c:=e c j (by rw[qK];exact Uc _);by_cases b:0<=Pj g c
  simp_all
  rw[Po b]
  simp_all
  rw[Po k];by_cases b:0<=Pj g c;rw[Pt b];refine UK.mpr ⟨λa c=>?_,ih⟩;simp at c;rcases c with rfl|c;exact j;exact l a c;rw[Po b];exact UK.mpr ⟨l,h⟩
theorem As(B:WU g qf):∀(l:yaw) (p:Tr),(∀x∈p::l,0<x.1)->lQ (p::l)->lQ (p::aR g qf p l)
 |[],_,_,h=>h
 |c::r,p,f,h=>by
  have i:∀x∈c::r,0<x.1:=λx a=>f x (R4 _ a)
  have ih:=As B r c i h.2;have j:(p::c::r).Pairwise λa b=>0<=Q5 p a b:=UK.mpr ⟨λa _=>by rw[EI];exact Uc _,h.1⟩
  have e:=(UK.mp (lO (d:=p) B (c::r) p f j)).2;refine⟨e,?_⟩;have e:(c::r).Pairwise λa b=>0<=Q5 p a b:=h.1
  have j:=lO (d:=p) B r c i e;have e:(c::r).Pairwise λa b=>0<=Q5 c a b:=UK.mpr ⟨λa _=>by rw[EI];exact Uc _,h.2.1⟩
  have h:=lO (d:=c) B r c i e;unfold aR;by_cases d:Pj g p*Pj g c<0;rw[Pt d];obtain⟨⟨m,s,t,C⟩,e⟩:=B p c (f p (by simp)) (f c (by simp)) d;have e:(c::aR g qf c r).Pairwise λa b=>0<=Q5 (qf p c) a b:=by refine List.Pairwise.imp ?_ (List.pairwise_and_iff.mpr ⟨j,h⟩);intro a b ⟨x,y⟩;rw[fG]at x y ⊢;exact C.nng (g:=PY a b) x y
  by_cases a:0<=Pj g c;rw[Pt a];exact⟨e,ih⟩;rw[Po a];exact⟨(UK.mp e).2,ih.2⟩;rw[Po d];by_cases a:0<=Pj g c;rw[Pt a];exact ih;rw[Po a];exact ih.2
def F7{l:yaw}{a:Tr}(h:Vj (l++[a])):Vj (a::(l++[a])):=λx y z s=>by
 cases s with
 |cons _ s=>exact h x y z s
 |cons_cons _ s =>
  obtain⟨d,b,e,f,c⟩:=List.sublist_append_iff.mp s;rcases b with _|⟨w,b⟩;rw[W4]at e;subst e;have:=h y z a (by have:[y,z,a]=[y,z]++[a]:=rfl;exact f.append (List.Sublist.refl _))
  rw[fG];exact this;have f:b=[]:=by have:=c.length_le;simp at this;exact this
  subst f;have b:w=a:=SM.mp (c.subset (by simp));subst b;rcases d with _|⟨u,_|⟨v,d⟩⟩;cases e;cases e;rw[qJ];exact Uc _;exact absurd (congrArg List.length e) (by simp)
def XJ(l:yaw)(X:Tr):Prop:=∀h:Tr,(∀p∈l,0<=Pj h p)->0<=Pj h X
def Qs(g u v:Tr):Tr:=(Pj g v*u.1 - Pj g u*v.1,Pj g v*u.2.1 - Pj g u*v.2.1,Pj g v*u.2.2 - Pj g u*v.2.2)
theorem qy(g u v h:Tr):Pj h (Qs g u v)=Pj g v*Pj h u - Pj g u*Pj h v:=by unfold Qs Pj;grind
def FA(b:Pj g y=0)(a:Q5 u v y=0):Pj h y*(Qs g u v).1=y.1*Pj h (Qs g u v):=by unfold Q5 Pj PY at a;unfold Qs Pj at *;grind
def Le(l:Pj g y1=0)(p:Pj g y2=0)(q:Q5 u v y1<=0)(m:0<=Q5 u v y2)(e:0<y1.1)(n:0<y2.1)(j:0<=Pj h y1)(o:0<=Pj h y2):0<=Pj h (Qs g u v)*(Qs g u v).1:=by
 by_cases z:Q5 u v y1=0;have k:=FA (h:=h) l z;have d:0<=(Qs g u v).1*(Qs g u v).1:=Zy _;have:0<=y1.1*(Pj h (Qs g u v)*(Qs g u v).1):=by
  have:y1.1*(Pj h (Qs g u v)*(Qs g u v).1)=Pj h y1*((Qs g u v).1*(Qs g u v).1):=by rw[<- Int.mul_assoc,<- k,Int.mul_assoc]
  rw[this];exact Rv j d
 exact XN this e;have i:Q5 u v y1<0:=by lia
 generalize ha:Q5 u v y1=a at *;generalize hb:Q5 u v y2=b at *
 let y:Tr:=(b*y1.1 - a*y2.1,b*y1.2.1 - a*y2.2.1,b*y1.2.2 - a*y2.2.2)
 have c:∀f:Tr,Pj f y=b*Pj f y1 - a*Pj f y2:=λf=>by unfold Pj;grind
 have k:=FA (h:=h) (u:=u) (v:=v) (y:=y) (g:=g) (by rw[c,l,p];simp) (by
  show Pj (PY u v) y=0;rw[c];show b*Q5 u v y1 - a*Q5 u v y2=0;rw[ha,hb,S4]
  lia)
 rw[c]at k;have c:0<y.1:=by
  show 0<b*y1.1 - a*y2.1;have:=Rv m (Q7 e);have:=Wh i n
  lia
 have n:0<=b*Pj h y1 - a*Pj h y2:=by
  have:=Rv m j;have:=zBO (Q7 i) o
  lia
 have d:0<=(Qs g u v).1*(Qs g u v).1:=Zy _;have:0<=y.1*(Pj h (Qs g u v)*(Qs g u v).1):=by
  have:y.1*(Pj h (Qs g u v)*(Qs g u v).1)=(b*Pj h y1 - a*Pj h y2)*((Qs g u v).1*(Qs g u v).1):=by rw[<- Int.mul_assoc,<- k,Int.mul_assoc]
  rw[this];exact Rv n d
 exact XN this c
def yC(B:WU g qf){A C D:yaw}{u v z:Tr}(hz:A++u::(C++v::D)=(A++u::(C++v::D)).dropLast++[z])(TQ:Vj (A++u::(C++v::D)))(pos:∀x∈A++u::(C++v::D),0<x.1)
  (j:Pj g u*Pj g v<0) (k:∀y∈aR g qf z (A++u::(C++v::D)),0<=Pj h y):0<=Pj h (Qs g u v)*(Qs g u v).1:=by
 have e:0<u.1:=pos u (by simp);have d:0<v.1:=pos v (by simp);have a:∀x∈C,0<x.1:=λx hx=>pos x (by simp[hx])
 have m:∀x∈A,0<x.1:=λx hx=>pos x (by simp[hx])
 have l:∀x∈D,0<x.1:=λx hx=>pos x (by simp[hx])
 have i:aR g qf z (A++u::(C++v::D))=aR g qf z (A++[u])++(aR g qf u (C++[v])++aR g qf v D):=by rw[iZ g qf A z u,iZ g qf C u v]
 obtain⟨b,g,r,c⟩:=oK B C u v (λx hx=>by
  rcases Qg.mp hx with rfl|hx;exact e;exact a x hx) d j
 have p:0<b.1:=tH B (C++[v]) u (λx hx=>by
  simp at hx;rcases hx with rfl|hx|rfl;exact e;exact a x hx;exact d) b g
 have n:Q5 u v b<=0:=by
  have:=c (PY v u) λx hx=>by
   show 0<=Q5 v u x;simp at hx;rcases hx with rfl|hx|rfl;rw[qK];exact Uc _;have t:=TQ u x v (by
    have a:List.Sublist [u,x,v] (u::(C++v::D)):=by refine List.Sublist.cons_cons u ?_;have:[x,v]=[x]++[v]:=rfl;rw[this];exact(ZF.mpr hx).append (ZF.mpr (by simp))
    exact a.trans (ZE _ _))
   rw[fG,fG]at t;exact t;rw[qJ];exact Uc _
  have q:0<=Q5 v u b:=this;rw[rV]
  lia
 have s:∀x∈v::D++(A++[u]),0<=Q5 u v x:=λx hx=>by
  simp at hx;rcases hx with rfl|hx|hx|rfl;rw[qK];exact Uc _;exact TQ u v x (by
   have a:List.Sublist [u,v,x] (u::(C++v::D)):=by refine List.Sublist.cons_cons u ?_;exact(List.Sublist.cons_cons v (ZF.mpr hx)).trans (ZE _ _)
   exact a.trans (ZE _ _))
  have t:=TQ x u v (by have:[x,u,v]=[x]++[u,v]:=rfl;rw[this];refine(ZF.mpr hx).append (List.Sublist.cons_cons u ?_);exact(ZF.mpr (by simp)).trans (ZE _ _))
  rw[fG]at t;exact t;rw[qJ];exact Uc _
 obtain⟨a,c,f,t⟩:=oK B (D++A) v u (λx hx=>by
  simp at hx;rcases hx with rfl|hx|hx;exact d;exact l x hx;exact m x hx) e (by rw[S4];exact j)
 have o:0<a.1:=tH B (D++A++[u]) v (λx hx=>by
  simp only[Qg,RH,Uw,or_false]at hx;rcases hx with rfl|(hx|hx)|rfl;exact d;exact l x hx;exact m x hx;exact e) a c
 have j:0<=Q5 u v a:=t (PY u v) λx hx=>s x (by
  simp only[Qg,RH,Uw,or_false,WG]at hx ⊢;rcases hx with hx|(hx|hx)|hx;exact .inl hx;exact .inr (.inl hx);exact .inr (.inr (.inl hx));exact .inr (.inr (.inr hx)))
 have l:0<=Pj h b:=k b (by rw[i];exact SO _ (Vu _ g));have g:0<=Pj h a:=by
  apply k a;rw[i];have:∃b,v::D=b++[z]:=by
   have a:v::D ≠ []:=by simp
   refine⟨(v::D).dropLast,?_⟩;have e:(A++u::(C++v::D)).getLast?=some z:=by rw[hz];simp
   have f:(A++u::(C++v::D)).getLast?=(v::D).getLast?:=by
    have:A++u::(C++v::D)=(A++u::C)++(v::D):=by simp
    rw[this,List.getLast?_append,zCN a];rfl
   rw[f,zCN a]at e;have d:=(zB1 a).symm;rw[Uy e]at d;exact d
  obtain⟨b,a⟩:=this;rcases b with _|⟨w,b⟩;cases a;exact Vu _ c;rw[WG]at a;cases a;have e:b++[z]++A++[u]=b++z::(A++[u]):=by simp
  rw[e,iZ]at c;rcases RH.mp c with q|q;exact SO _ (SO _ q);exact Vu _ q
 exact Le r f n j p o l g
def F1{l:yaw}{a b:Tr}(d:a∈l)(c:b∈l)(e:a≠b):(∃A C D,l=A++a::(C++b::D))∨∃ A C D,l=A++b::(C++a::D):=by
 obtain⟨A,R,rfl⟩:=zCY d;rcases RH.mp c with q|q;obtain⟨b,a,rfl⟩:=zCY q;exact .inr ⟨b,a,R,by simp⟩;rcases Qg.mp q with q|q
 simp_all
 obtain⟨b,a,rfl⟩:=zCY q;exact .inl ⟨A,b,a,rfl⟩
theorem sy(g h:Tr):∀l:yaw,(∃n∈l,Pj g n<0/\Pj h n<0)->∃n∈l,Pj g n<0/\Pj h n<0/\∀m∈l,Pj g m<0->Pj g n*Pj h m<=Pj h n*Pj g m
 |[],⟨_,hn,_⟩=>by cases hn
 |x::r,l=>by
  by_cases j:∃n∈r,Pj g n<0/\Pj h n<0;obtain⟨n,hn,i,f,o⟩:=sy g h r j;by_cases c:Pj g x<0/\¬(Pj g n*Pj h x<=Pj h n*Pj g x);obtain⟨a,p⟩:=c;have b:Pj h x<0:=by
   have:0<Pj h n*Pj g x:=ZD f a;exact Ud.mp λz=>by
    have:=zBO (Q7 i) z
    lia
  refine⟨x,by simp,a,b,λm hm d=>?_⟩;rcases Qg.mp hm with rfl|hm;rw[S4];exact Uc _;have k:=o m hm d;have a:0<=(-Pj g x)*(Pj h n*Pj g m - Pj g n*Pj h m):=Rv (by lia) (by lia);have b:0<=(-Pj g m)*(Pj g n*Pj h x - Pj h n*Pj g x):=Rv (by lia) (by lia);have e:(-Pj g x)*(Pj h n*Pj g m - Pj g n*Pj h m)+(-Pj g m)*(Pj g n*Pj h x - Pj h n*Pj g x)=(-Pj g n)*(Pj h x*Pj g m - Pj g x*Pj h m):=by grind
  have:0<=(-Pj g n)*(Pj h x*Pj g m - Pj g x*Pj h m):=by lia
  have:=XN this (by lia)
  lia
  refine⟨n,R4 _ hn,i,f,λm hm d=>?_⟩;rcases Qg.mp hm with rfl|hm;exact Decidable.byContradiction λz=>c ⟨d,z⟩
  exact o m hm d;obtain⟨n,hn,i,f⟩:=l;rcases Qg.mp hn with rfl|hn;refine⟨n,by simp,i,f,λm hm d=>?_⟩;rcases Qg.mp hm with rfl|hm;rw[S4];exact Uc _;have:0<=Pj h m:=Vy.mp λz=>j ⟨m,hm,d,z⟩
  have a:=zBO (Q7 i) this;have b:=ZD f d
  lia
  exact absurd ⟨n,hn,i,f⟩ j
def IE(B:WU g qf){l:yaw}{z:Tr}(hz:l=l.dropLast++[z])(TQ:Vj l)(pos:∀x∈l,0<x.1)(s:XJ l X)(w:0<=Pj g X):XJ (aR g qf z l) X:=λh f=>by
 have m:∀p∈l,0<=Pj g p->0<=Pj h p:=λp b q=>f p (qw l z b q)
 by_cases o:∃n∈l,Pj g n<0/\Pj h n<0;obtain⟨n,d,c,t,e⟩:=sy g h l o
 let k:Tr:=(Pj h n*g.1 - Pj g n*h.1,Pj h n*g.2.1 - Pj g n*h.2.1,Pj h n*g.2.2 - Pj g n*h.2.2)
 have a:∀p:Tr,Pj k p=Pj h n*Pj g p - Pj g n*Pj h p:=λp=>by show Pj (Pj h n*g.1 - Pj g n*h.1,Pj h n*g.2.1 - Pj g n*h.2.1,Pj h n*g.2.2 - Pj g n*h.2.2) p=_;unfold Pj;grind
 have u:∀p∈l,0<=Pj k p:=λp b=>by
  rw[a];rcases ZJ (Pj g p) 0 with q|q|q;have:=e p b q
  lia
  rw[q,XW];have:=zBO (Q7 c) (m p b (by lia))
  lia
  have l:p≠n:=λe=>by rw[e]at q;lia
  have j:=pos n d;have i:=pos p b;rcases F1 b d l with⟨A,C,D,rfl⟩| ⟨A,C,D,rfl⟩;have r:=yC B hz TQ pos (Y1 q c) f;rw[qy]at r;have d:(Qs g p n).1<0:=by
   show Pj g n*p.1 - Pj g p*n.1<0;have:=Wh c i;have:=U3 q j
   lia
  have e:Pj g n*Pj h p - Pj g p*Pj h n<=0:=Vy.mp λz=>by
   have:=Y1 z d
   lia
  rw[S4 (Pj h n)]
  lia
  have r:=yC B hz TQ pos (Wh c q) f;rw[qy]at r;have d:0<(Qs g n p).1:=by
   show 0<Pj g p*n.1 - Pj g n*p.1;have:=Wh c i;have:=U3 q j
   lia
  have e:0<=Pj g p*Pj h n - Pj g n*Pj h p:=Vy.mp λz=>by
   have:=Wh z d
   lia
  rw[S4 (Pj h n)];exact e
 have d:=s k u;rw[a]at d;have a:=zBO (Q7 t) w;exact Vy.mp λz=>by
  have:=ZD c z
  lia
 refine s h λp b=>?_
 by_cases q:0<=Pj g p;exact m p b q;exact Vy.mp λz=>o ⟨p,b,by lia,z⟩
def Us(R:Tr->Tr->Prop):yaw->Prop
 |[]=>True
 |[_]=>True
 |a::b::r=>R a b/\Us R (b::r)
def Us.tail{a:Tr}:∀{l:yaw},Us R (a::l)->Us R l
 |[],_=>True.intro
 |_::_,h=>h.2
theorem ki:∀(l:yaw) (x:Tr) (k:yaw),Us R (l++x::k)↔Us R (l++[x])/\Us R (x::k)
 |[],x,k=>by simp[Us]
 |[a],x,k=>by simp[Us]
 |a::b::l,x,k=>by have:=ki (R:=R) (b::l) x k;simp only[WG,Us]at this ⊢;rw[this,and_assoc]
def Sh(G:Tr->Prop)(a b:Tr):Prop:=∃e,G e/\Pj e a=0/\Pj e b=0
theorem oJ(B:WU g qf){G:Tr->Prop}(i:G g):∀(l:yaw) (p x:Tr),(∀y∈p::l,0<y.1)->((x=p/\0<=Pj g p)∨(Pj g x=0/\Pj g p<0))->Us (Sh G) (p::l)->Us (Sh G) (x::aR g qf p l)
 |[],_,_,_,_,_=>True.intro
 |c::r,p,x,b,a,h=>by
  have f:∀y∈c::r,0<y.1:=λy d=>b y (R4 _ d)
  obtain⟨⟨e,j,k,l⟩,d⟩:=h;have ih:=λx a=>oJ B i r c x f a d
  unfold aR;by_cases f:Pj g p*Pj g c<0;rw[Pt f];obtain⟨⟨m,s,t,C⟩,h⟩:=B p c (b p (by simp)) (b c (by simp)) f;have d:Pj e (qf p c)=0:=C.zero k l;by_cases b:0<=Pj g c;rw[Pt b];refine⟨?_,⟨e,j,d,l⟩,ih c (.inl ⟨rfl,b⟩)⟩;rcases a with⟨rfl,_⟩| ⟨a,_⟩;exact⟨e,j,k,d⟩;exact⟨g,i,a,h⟩;rw[Po b];refine⟨?_,ih _ (.inr ⟨h,by lia⟩)⟩;rcases a with⟨rfl,_⟩| ⟨a,_⟩;exact⟨e,j,k,d⟩;exact⟨g,i,a,h⟩;rw[Po f];by_cases b:0<=Pj g c;rw[Pt b];refine⟨?_,ih c (.inl ⟨rfl,b⟩)⟩;rcases a with⟨rfl,_⟩| ⟨a,d⟩;exact⟨e,j,k,l⟩;have:Pj g c=0:=by
   rcases Int.lt_or_eq_of_le b with q|q;exact absurd (Wh d q) f;exact q.symm
  exact⟨g,i,a,this⟩;rw[Po b];refine ih x ?_;rcases a with⟨rfl,d⟩| ⟨a,_⟩
  right
  refine⟨?_,by lia⟩;rcases Int.lt_or_eq_of_le d with q|q;exact absurd (Y1 q (by lia)) f;exact q.symm;exact .inr ⟨a,by lia⟩
theorem xg(B:WU g qf){G:Tr->Prop}(b:G g):∀(l:yaw) (p:Tr),(∀y∈p::l,0<y.1)->Us (Sh G) (p::l)->Us (Sh G) (aR g qf p l)
 |[],_,_,_=>True.intro
 |c::r,p,a,h=>by
  by_cases k:0<=Pj g p;exact(oJ B b (c::r) p p a (by simp_all) h).tail;have i:∀y∈c::r,0<y.1:=λy o=>a y (by simp_all)
  obtain⟨⟨e,l,n,j⟩,f⟩:=h;unfold aR;by_cases d:Pj g p*Pj g c<0;rw[Pt d];obtain⟨⟨m,s,t,C⟩,q⟩:=B p c (a p (by simp)) (a c (by simp)) d;have h:Pj e (qf p c)=0:=C.zero n j;by_cases a:0<=Pj g c;rw[Pt a];exact⟨⟨e,l,h,j⟩,oJ B b r c c i (by simp_all) f⟩;exact absurd (ZD (Ud.mp k) (Ud.mp a)) (by lia);rw[Po d];by_cases a:0<=Pj g c;rw[Pt a];exact oJ B b r c c i (by simp_all) f;rw[Po a];exact xg B b r c i f
def Cyc(R:Tr->Tr->Prop)(l:yaw):Prop:=∀k z,l=k++[z]->Us R (z::l)
def ID(B:WU g qf){G:Tr->Prop}(a:G g){l:yaw}{z:Tr}(hz:l=l.dropLast++[z])(pos:∀y∈l,0<y.1)(h:Cyc (Sh G) l):Cyc (Sh G) (aR g qf z l):=λk y d=>by
 have f:=h _ z hz;have c:Us (Sh G) (z::(l++l)):=by grind [List.cons_append,ki]
 have b:z∈l:=by rw[hz];simp
 have e:=xg B a (l++l) z (λy a=>by
  simp at a;rcases a with rfl|a;exact pos y b;exact pos y a) c
 grind [iZ,ki]
noncomputable def TR:yaw->yaw->yaw
 |_,[]=>[]
 |seen,x::r=>if x∈seen then TR seen r else x::TR (seen++[x]) r
theorem vi:∀(l seen:yaw),(TR seen l).Sublist l
 |[],_=>List.Sublist.slnil
 |x::r,seen=>by
  unfold TR;split
  all_goals simp_all [vi]
theorem vh:∀(l seen:yaw) {x:Tr},x∈l->x∈seen∨x∈TR seen l
 |[],_,_,h=>by cases h
 |y::r,seen,x,h=>by
  unfold TR;rcases Qg.mp h with rfl|h;grind
  ·split
   simp_all [vh]
   ·rcases vh r (seen++[y]) h with q|q
    all_goals grind
theorem wG:∀(l seen:yaw),l.Nodup->(∀x∈l,x∉seen)->TR seen l=l
 |[],_,_,_=>rfl
 |x::r,seen,h,c=>by
  obtain⟨a,b⟩:=Wk.mp h;unfold TR;rw[Po (c x (by simp)),wG r (seen++[x]) b λy b q=>by
   rcases RH.mp q with q|q;exact c y (R4 _ b) q;exact a (by rw[<- SM.mp q];exact b)]
theorem pA:∀(l seen:yaw) (v:Tr) (k:yaw),v∈seen∨v∈l->TR seen (l++v::k)=TR seen (l++k)
 |[],seen,v,k,h=>by
  rw[WJ,WJ]
  conv=>lhs;unfold TR
  grind
 |x::r,seen,v,k,h=>by rw[WG,WG];unfold TR;split;refine pA r seen v k ?_;grind;congr 1;refine pA r _ v k ?_;grind
theorem rM:∀l:yaw,¬l.Nodup->∃A v C,l=A++v::C/\v∈A
 |[],h=>by simp_all
 |x::r,h=>by by_cases a:x∈r;obtain⟨A,C,rfl⟩:=zCY a;exact⟨x::A,x,C,rfl,by simp⟩;obtain⟨A,v,C,e,b⟩:=rM r (by grind);exact⟨x::A,v,C,by simp_all,by simp_all⟩
def Kf(j:Pj e a=0)(i:Pj e v=0)(h:Q5 v a b=0)(c:PY v a≠(0,0,0)):Pj e b=0:=by
 have g:Pj e b*(PY v a).1=0:=by unfold Q5 Pj PY at *;grind
 have f:Pj e b*(PY v a).2.1=0:=by unfold Q5 Pj PY at *;grind
 have d:Pj e b*(PY v a).2.2=0:=by unfold Q5 Pj PY at *;grind
 refine Decidable.byContradiction λz=>c ?_
 have m:=(Ua.mp g).resolve_left z;have l:=(Ua.mp f).resolve_left z;have k:=(Ua.mp d).resolve_left z;grind
structure Pr(p:Tr):Prop where
 pos:0<p.1
 low:PM.g3 p.1 p.2.1 p.2.2=1
def yA(b:Pr v)(c:Pr a)(h:PY v a=(0,0,0)):v=a:=by
 unfold PY at h;simp at h;obtain⟨n,m,l⟩:=h;have f:v.2.1*a.1=a.2.1*v.1:=by lia
 have e:v.2.2*a.1=a.2.2*v.1:=by lia
 have h:v.1∣a.1:=jX (d:=v.1) (k:=a.1) (x:=v.1) (y:=v.2.1) (z:=v.2.2) (by simp_all) (by simp_all [S4,Int.dvd_mul_left]) (by simp_all [S4,Int.dvd_mul_left]) b.low;have g:a.1∣v.1:=jX (d:=a.1) (k:=v.1) (x:=a.1) (y:=a.2.1) (z:=a.2.2) (by simp_all) (by rw[S4,<- f];exact Int.dvd_mul_left _ _) (by rw[S4,<- e];exact Int.dvd_mul_left _ _) c.low;have d:=c.pos;have pv:=b.pos;have e:v.1=a.1:=by
  have j:=Int.le_of_dvd d h;have i:=Int.le_of_dvd pv g
  lia
 grind [Int.eq_of_mul_eq_mul_right]
theorem ED:∀(n:Nat) (l:yaw),l.length<=n->Vj l->(∀p∈l,Pr p)->Cyc (Sh G) l->Cyc (Sh G) (TR [] l)
 |n,l,i,TQ,t,cy=>by
  by_cases B:l.Nodup;rw[wG l [] B (by simp)];exact cy;obtain⟨A,v,C,rfl,E⟩:=rM l B;rw[pA A [] v C (.inr E)];cases n with
  |zero=>simp at i
  |succ n =>
  have sub:(A++C).Sublist (A++v::C):=(List.Sublist.refl A).append (List.sublist_cons_self v C);refine ED n (A++C) (by simp at i ⊢;lia) (TQ.sub sub) (λp a=>t p (sub.subset a)) ?_;obtain⟨h,r,rfl⟩:=zCY E;obtain⟨K,a,d⟩:∃K a,h++v::r=K++[a]:=⟨_,_,(zB1 (by simp:h++v::r ≠ [])).symm⟩;have L:a=v∨∃ f,r=f++[a]:=by
   rcases List.eq_nil_or_concat r with rfl|⟨f,w,rfl⟩
   left
   have:=congrArg List.getLast? d;simp at this;exact this.symm
   right
   have e:h++v::f.concat w=(h++v::f)++[w]:=by simp
   rw[e]at d;have:=(List.append_inj' d rfl).2;cases this;exact⟨f,by simp⟩
  have pv:Pr v:=t v (by simp);have O:Pr a:=t a (by rw[d];simp)
  have g:∀b,Sh G a v->Sh G v b->(a≠v->Q5 v a b=0)->Sh G a b:=λb N M Q=>by by_cases q:a=v;rw[q];exact M;obtain⟨e,Y,H,ev⟩:=N;exact⟨e,Y,H,Kf H ev (Q q) λz=>q (yA pv O z).symm⟩
  rw[d];rw[d]at cy TQ;rcases C with _|⟨b,C⟩;have c:=cy (K++[a]) v (by simp);intro k z m;rw[W4]at m ⊢;have ez:a=z:=by have:=congrArg List.getLast? m;simp at this;exact this
  subst ez;have j:Us (Sh G) ((v::K)++a::[v]):=by simpa using c
  rw[ki]at j;obtain⟨x,w,_⟩:=j;rcases hA:K++[a]with _|⟨b,R⟩;simp at hA;have o:Us (Sh G) (v::b::R):=by rw[<- hA];exact x
  refine⟨g b w o.1 λu=>?_,o.2⟩;obtain⟨f,rfl⟩:=L.resolve_left u;rcases h with _|⟨b',h⟩;rw[<- d]at hA;cases hA;rw[qJ];rw[<- d]at hA;cases hA;have y:=TQ b v a (by rw[<- d];refine List.Sublist.trans ?_ (List.sublist_append_left _ _);refine List.Sublist.cons_cons b ?_;refine List.Sublist.trans ?_ (ZE _ _);refine List.Sublist.cons_cons v ?_;exact ZE _ _)
  have s:=TQ b a v (by rw[<- d];refine List.Sublist.cons_cons b ?_;have:[a,v]=[a]++[v]:=rfl;rw[this];refine List.Sublist.append ?_ (List.Sublist.refl _);exact ZF.mpr (by simp))
  rw[fG]at y;rw[fG,rV]at s
  lia
  intro k z m;have c:=cy (((K++[a])++v::b::C).dropLast) z (by
   have J:(K++[a]++v::b::C).getLast?=some z:=by
    have U:(K++[a]++b::C).getLast?=some z:=by rw[m];simp
    have T:(K++[a]++b::C).getLast?=(b::C).getLast?:=by rw[List.getLast?_append,zCN (by simp:b::C ≠ [])];rfl
    have I:(K++[a]++v::b::C)=(K++[a]++[v])++b::C:=by simp
    rw[I,List.getLast?_append,<- T,U];rfl
   have i:K++[a]++v::b::C ≠ []:=by simp
   rw[zCN i]at J;have I:=(zB1 i).symm;rw[Uy J]at I;exact I)
  have j:Us (Sh G) ((z::K)++a::(v::b::C)):=by simpa using c
  rw[ki]at j;obtain⟨x,w,o,I⟩:=j;have:z::(K++[a]++b::C)=(z::K)++a::(b::C):=by simp
  rw[this,ki];refine⟨x,g b w o λu=>?_,I⟩;obtain⟨f,rfl⟩:=L.resolve_left u;have y:=TQ v a b (by
   rw[<- d];have:h++v::(f++[a])++v::b::C=(h++(v::f))++(a::(v::(b::C))):=by simp
   rw[this];have:[v,a,b]=[v]++[a,b]:=rfl;rw[this];refine List.Sublist.append (ZF.mpr (by simp)) (List.Sublist.cons_cons a ?_);exact List.Sublist.cons _ (List.Sublist.cons_cons b (List.nil_sublist _)))
  have s:=TQ a v b (by
   have:K++[a]++v::b::C=K++(a::v::b::C):=by simp
   rw[this];refine List.Sublist.trans ?_ (ZE _ _);exact List.Sublist.cons_cons a (List.Sublist.cons_cons v (List.Sublist.cons_cons b (List.nil_sublist _))))
  rw[rV]at s
  lia
def UX(w:Tr):Tr:=(w.1.fdiv (PM.RG w.1 w.2.1 w.2.2 w.1),w.2.1.fdiv (PM.RG w.1 w.2.1 w.2.2 w.1),w.2.2.fdiv (PM.RG w.1 w.2.1 w.2.2 w.1))
def da(g p c:Tr):Tr:=UX (Qs g p c)
def FF{w:Tr}(h:w.1≠0):Pr (UX w):=⟨PM.KO h (PM.rX _ _ _) λz=>h z.1,PM.Np λz=>h z.1⟩
def Ng{w:Tr}(a:Pr q)(e:w.1*q.2.1=q.1*w.2.1)(c:w.1*q.2.2=q.1*w.2.2):∃m,w.1=m*q.1/\w.2.1=m*q.2.1/\w.2.2=m*q.2.2:=by obtain⟨m,b⟩:q.1∣w.1:=jX (d:=q.1) (k:=w.1) (x:=q.1) (y:=q.2.1) (z:=q.2.2) (by simp_all) (by simp_all) (by simp_all) a.low;have p:=a.pos;grind [Int.mul_comm,Int.mul_assoc,Int.eq_of_mul_eq_mul_left]
def Au{p c:Tr}(e:0<p.1)(f:0<c.1)(d:Pj g p*Pj g c<0):(Pj g p<0/\0<Pj g c/\0<(Qs g p c).1)∨(0<Pj g p/\Pj g c<0/\(Qs g p c).1<0):=by
 rcases Int.lt_or_gt_of_ne (show Pj g p≠0 from by lia)with a|a
 left
 have b:0<Pj g c:=Ud.mp λb=>Ud.mpr d (zBk (Q7 a) b)
 refine⟨a,b,?_⟩;show 0<Pj g c*p.1 - Pj g p*c.1;have:=U3 b e;have:=Wh a f
 lia
 right
 have b:Pj g c<0:=Ud.mp λb=>Ud.mpr d (Rv (Q7 a) b)
 refine⟨a,b,?_⟩;show Pj g c*p.1 - Pj g p*c.1<0;have:=Wh b e;have:=U3 a f
 lia
def Em(g:Tr):WU g (da g):=λp c b d a=>by
 have k:=Au b d a;have h:=PM.cZ (l:=(Qs g p c).1) (PM.rX (Qs g p c).1 (Qs g p c).2.1 (Qs g p c).2.2);have f:=PM.cZ (l:=(Qs g p c).1) (PM.vp (Qs g p c).1 (Qs g p c).2.1 (Qs g p c).2.2);have e:=PM.cZ (l:=(Qs g p c).1) (PM.vq (Qs g p c).1 (Qs g p c).2.1 (Qs g p c).2.2);have a:(Qs g p c).1≠0:=by rcases k with⟨_,_,q⟩| ⟨_,_,q⟩<;>lia
 have i:PM.g3 (Qs g p c).1 (Qs g p c).2.1 (Qs g p c).2.2≠0:=λz=>a (PM.BJ.mp z).1
 have C:∃m s t,Zz (da g p c) p c m s t/\s*Pj g p+t*Pj g c=0:=by
  rcases k with⟨a,b,q⟩| ⟨a,b,q⟩;have d:PM.RG (Qs g p c).1 (Qs g p c).2.1 (Qs g p c).2.2 (Qs g p c).1=(PM.g3 (Qs g p c).1 (Qs g p c).2.1 (Qs g p c).2.2:Int):=by unfold PM.RG;rw[Po (by lia)]
  refine⟨PM.g3 (Qs g p c).1 (Qs g p c).2.1 (Qs g p c).2.2,Pj g c,-Pj g p,⟨by lia,b,by lia,?_,?_,?_⟩,by rw[Uk,S4];lia⟩;show _*((Qs g p c).1.fdiv _)=_;rw[<- d,S4,h,Uk];rfl;show _*((Qs g p c).2.1.fdiv _)=_;rw[<- d,S4,f,Uk];rfl;show _*((Qs g p c).2.2.fdiv _)=_;rw[<- d,S4,e,Uk];rfl;have d:-PM.RG (Qs g p c).1 (Qs g p c).2.1 (Qs g p c).2.2 (Qs g p c).1=(PM.g3 (Qs g p c).1 (Qs g p c).2.1 (Qs g p c).2.2:Int):=by unfold PM.RG;rw[Pt (by lia),Int.neg_neg]
  refine⟨PM.g3 (Qs g p c).1 (Qs g p c).2.1 (Qs g p c).2.2,-Pj g c,Pj g p,⟨by lia,by lia,a,?_,?_,?_⟩,by rw[Uk,S4];lia⟩;show _*((Qs g p c).1.fdiv _)=_;rw[<- d,Uk,S4,h,Uk];show -(Pj g c*p.1 - Pj g p*c.1)=_
  lia
  show _*((Qs g p c).2.1.fdiv _)=_;rw[<- d,Uk,S4,f,Uk];show -(Pj g c*p.2.1 - Pj g p*c.2.1)=_
  lia
  show _*((Qs g p c).2.2.fdiv _)=_;rw[<- d,Uk,S4,e,Uk];show -(Pj g c*p.2.2 - Pj g p*c.2.2)=_
  lia
 obtain⟨m,s,t,C,z⟩:=C;refine⟨⟨m,s,t,C⟩,?_⟩;have:=C.gv g;rw[z]at this;exact(Ua.mp this).resolve_left (by have:=C.m0;lia)
def LF{p c:Tr}(b:0<p.1)(d:0<c.1)(a:Pj g p*Pj g c<0):Pr (da g p c):=FF (by rcases Au b d a with⟨_,_,q⟩| ⟨_,_,q⟩<;>omega)
def LL{e:Tr}(b:e≠(0,0,0))(ep:Pj e p=0)(a:Pj g p≠0):PY e g≠(0,0,0):=λz=>b (by
 unfold PY at z;simp at z;obtain⟨i,h,f⟩:=z;have d:e.1*Pj g p=0:=by unfold Pj at *;grind
 have c:e.2.1*Pj g p=0:=by unfold Pj at *;grind
 have b:e.2.2*Pj g p=0:=by unfold Pj at *;grind
 have l:=(Ua.mp d).resolve_right a;have k:=(Ua.mp c).resolve_right a;have j:=(Ua.mp b).resolve_right a
 lia)
def Fx(f:Pr q)(i:Pj e q=0)(h:Pj g q=0)(d:PY e g≠(0,0,0)):∃m,m≠0/\(PY e g).1=m*q.1/\(PY e g).2.1=m*q.2.1/\(PY e g).2.2=m*q.2.2:=by obtain⟨m,c,b,a⟩:=Ng (w:=PY e g) f (by unfold Pj at *;unfold PY;grind) (by unfold Pj at *;unfold PY;grind);refine⟨m,λz=>d ?_,c,b,a⟩;rw[z,WL]at c b a;exact Prod.ext c (Prod.ext b a)
def Fy(i:Pr q)(G:Pj e q=0)(E:Pj g q=0)(y:PY e g≠(0,0,0)):q=UX (PY e g):=by
 obtain⟨m,n,o,C,B⟩:=Fx i G E y;have j:(PY e g).1≠0:=by rw[o];exact Int.mul_ne_zero n (by have:=i.pos;lia)
 have A:=FF j;have x:=PM.cZ (l:=(PY e g).1) (PM.rX (PY e g).1 (PY e g).2.1 (PY e g).2.2);have u:=PM.cZ (l:=(PY e g).1) (PM.vp (PY e g).1 (PY e g).2.1 (PY e g).2.2);have s:=PM.cZ (l:=(PY e g).1) (PM.vq (PY e g).1 (PY e g).2.1 (PY e g).2.2);have H:PM.RG (PY e g).1 (PY e g).2.1 (PY e g).2.2 (PY e g).1≠0:=PM.yQ λz=>j z.1
 apply yA i A;have w:(UX (PY e g)).1*PM.RG (PY e g).1 (PY e g).2.1 (PY e g).2.2 (PY e g).1=m*q.1:=by rw[<- o];exact x
 have t:(UX (PY e g)).2.1*PM.RG (PY e g).1 (PY e g).2.1 (PY e g).2.2 (PY e g).1=m*q.2.1:=by rw[<- C];exact u
 have r:(UX (PY e g)).2.2*PM.RG (PY e g).1 (PY e g).2.1 (PY e g).2.2 (PY e g).1=m*q.2.2:=by rw[<- B];exact s
 generalize PM.RG (PY e g).1 (PY e g).2.1 (PY e g).2.2 (PY e g).1=d at *;generalize UX (PY e g)=p at *;unfold PY;have k:∀a b f c:Int,a*d=m*f->b*d=m*c->f*b - c*a=0:=λa b f c h I=>by
  have:m*d*(f*b - c*a)=0:=by grind
  exact(Ua.mp this).resolve_left (Int.mul_ne_zero n H)
 simp_all
def fB(g:Tr)(l:yaw):yaw:=match l.getLast? with
 |none=>[]
 |some z=>TR [] (aR g (da g) z l)
structure GB3(n:Nat)(e:Tr):Prop where
 ne:e≠(0,0,0)
 c:Bd (2*n+2) e.1
 a:Bd (n+1) e.2.1
 b:Bd (n+1) e.2.2
structure CB(n:Nat)(p:Tr):Prop where
 b:Bd (2*n+3) p.1
 x:Bd (3*n+4) p.2.1
 y:Bd (3*n+4) p.2.2
structure Cor(n:Nat)(Gs Z l:yaw):Prop where
 TQ:Vj l
 pr:∀p∈l,Pr p
 cb:∀p∈l,CB n p
 cyc:Cyc (Sh (·∈Gs)) l
 mem:∀p∈l,p∈Z
 len:l.length<=Z.length
def NP{k:Nat}(i:Bd n a)(h:Bd m b)(g:Bd m c)(f:Bd n d)(e:n+m+1=k):Bd k (a*b - c*d):=by subst e;have b:=i.mul h;have a:=g.mul f;rw[Nat.add_comm m n]at a;exact b.sub a
def yR{m q w:Int}(a:m≠0)(e:w=m*q)(h:Bd n w):Bd n q:=by
 unfold Bd at *;rw[e,Zb]at h;have:q.natAbs<=m.natAbs*q.natAbs:=Nat.le_mul_of_pos_left _ (by lia)
 lia
theorem uU:∀(l:yaw) (p:Tr) {y:Tr},y∈aR g (da g) p l->y∈l∨∃ a b,a∈p::l/\b∈l/\List.Sublist [a,b] (p::l)/\Pj g a*Pj g b<0/\y=da g a b/\∀R:Tr->Tr->Prop,Us R (p::l)->R a b
 |[],_,_,h=>by cases h
 |c::r,p,y,h=>by
  rcases RH.mp h with q|q;split at q;rename_i d;exact .inr ⟨p,c,by simp,by simp,List.Sublist.cons_cons p (List.Sublist.cons_cons c (List.nil_sublist _)),d,SM.mp q,λR d=>d.1⟩;cases q;rcases RH.mp q with q|q;split at q;rw[SM.mp q];exact .inl (by simp);cases q;rcases uU r c q with q|⟨a,b,h,g,f,e,c,h6⟩;exact .inl (R4 _ q);exact .inr ⟨a,b,R4 _ h,R4 _ g,f.cons p,e,c,λR d=>h6 R d.2⟩
theorem yJ:∀(l seen:yaw),(TR seen l).Nodup/\∀x∈TR seen l,x∉seen
 |[],_=>⟨List.nodup_nil,λ_ h=>(by cases h)⟩
 |x::r,seen=>by
  unfold TR;split;exact yJ r seen;rename_i q;obtain⟨a,b⟩:=yJ r (seen++[x]);refine⟨Wk.mpr ⟨λh=>b x h (by simp),a⟩,λy hy=>?_⟩;rcases Qg.mp hy with rfl|hy;exact q;exact λz=>b y hy (Vu _ z)
def zj{l:yaw}{z:Tr}(h:l.getLast?=some z):l=l.dropLast++[z]:=by
 have a:l ≠ []:=by grind
 grind [List.getLast?_eq_some_getLast,List.dropLast_concat_getLast,Option.some.inj]
theorem zF:∀{l Z:yaw},l.Nodup->(∀x∈l,x∈Z)->l.length<=Z.length
 |[],_,_,_=>RS _
 |x::r,Z,h,c=>by obtain⟨a,b⟩:=Wk.mp h;obtain⟨A,C,rfl⟩:=zCY (c x (by simp));have:=zF (l:=r) (Z:=A++C) b (by grind);grind
def GW{i Z:yaw}{g:Tr}(w:∀e∈i,GB3 n e)(J:g∈i)(Y:∀e∈i,UX (PY e g)∈Z)(C:Cor n i Z l):Cor n i Z (fB g l):=by
 unfold fB;cases hl:l.getLast? with
 |none=>exact⟨λ_ _ _ s=>(by cases s),λ_ h=>(by cases h),λ_ h=>(by cases h),λk z e=>(by simp at e),λ_ h=>(by cases h),RS _⟩
 |some z =>
  have o:=zj hl;have d:∀x∈l,0<x.1:=λx hx=>(C.pr x hx).pos
  have O:z∈l:=by rw[o];simp
  have h:∀x∈z::l,0<x.1:=λx hx=>by
   rcases Qg.mp hx with rfl|hx;exact d x O;exact d x hx
  have B:=Em g;have j:Vj (z::l):=by have:=F7 (l:=l.dropLast) (a:=z) (by rw[<- o];exact C.TQ);rw[<- o]at this;exact this
  have f:Vj (aR g (da g) z l):=lQ.t (As B l z h j.p).2;have cy:=ID B (G:=(·∈i)) J o d C.cyc;have c:∀y∈aR g (da g) z l,Pr y/\CB n y/\y∈Z:=λy Q=>by
   rcases uU l z Q with q|⟨a,b,U,T,_,p,rfl,hR⟩;exact⟨C.pr y q,C.cb y q,C.mem y q⟩;have G:=h a U;have A:=d b T;have r:=LF G A p;obtain⟨e,u,N,eb⟩:=hR _ (C.cyc _ z o);obtain⟨⟨m,s,t,K⟩,L⟩:=B a b G A p;have M:=K.zero N eb;have I:=LL (w e u).ne N (show Pj g a≠0 from λz=>by rw[z,WL]at p;exact XU _ p);refine⟨r,?_,?_⟩;obtain⟨m,t,h1,h2,h3⟩:=Fx r M L I;have E:=w e u;have H:=w g J;exact⟨yR t h1 (NP (k:=2*n+3) E.a H.b E.b H.a (by lia)),yR t h2 (Bd.mono ((E.b.mul H.c).sub (Nat.add_comm _ _ ▸ E.c.mul H.b)) (by lia)),yR t h3 (Bd.mono ((E.c.mul H.a).sub (Nat.add_comm _ _ ▸ E.a.mul H.c)) (by lia))⟩;rw[Fy r M L I];exact Y e u
  have sub:=vi (aR g (da g) z l) [];exact⟨f.sub sub,λp b=>(c p (sub.subset b)).1,λp b=>(c p (sub.subset b)).2.1,ED _ _ (Qu _) f (λp b=>(c p b).1) cy,λp b=>(c p (sub.subset b)).2.2,zF (yJ _ _).1 λp b=>(c p (sub.subset b)).2.2⟩
def tO(TQ:Vj l)(a:∀p∈l,Pr p):(∀X,XJ l X->0<=Pj g X->XJ (fB g l) X)/\(∀y∈fB g l,0<=Pj g y)/\∀d,(∀p∈l,0<=Pj d p)->∀y∈fB g l,0<=Pj d y:=by
 unfold fB;cases hl:l.getLast? with
 |none =>
  have e:=zCn.mp hl;subst e;exact⟨λX h _=>h,λ_ h=>(by cases h),λ_ _ _ h=>by cases h⟩
 |some z =>
  have e:=zj hl;have b:∀x∈l,0<x.1:=λx hx=>(a x hx).pos
  have c:z∈l:=by rw[e];simp
  have a:∀x∈z::l,0<x.1:=λx hx=>by
   rcases Qg.mp hx with rfl|hx;exact b x c;exact b x hx
  have B:=Em g;have sub:=vi (aR g (da g) z l) [];refine⟨λX g i h f=>IE B e TQ b g i h λp e=>?_,λy b=>xh B l z a y (sub.subset b),λd d y b=>tG B l z a (λx hx=>?_) y (sub.subset b)⟩;exact f p ((vh _ [] e).resolve_left (by simp));rcases Qg.mp hx with rfl|hx;exact d x c;exact d x hx
def aW(a l:yaw):yaw:=a.foldl (λl g=>fB g l) l
def MH(h:XJ l X)(a:0<X.1):l ≠ []:=λe=>by
 have:=h (-1,0,0) (by simp_all);unfold Pj at this
 lia
def sT(p:Sp):Tr:=(1,p.1,p.2)
def Ml(a b c:Sp):Q5 (sT a) (sT b) (sT c)=cr a b c:=by rw[cJ];unfold Q5 sT Pj PY;grind
def xP{A B:Int}{x y z:Sp}(b:0<A*y.1+B*y.2)(a:0<=A*x.1+B*x.2)(hz:0<=A*z.1+B*z.2)(d:0<=tn x y)(c:0<=tn y z):0<=tn x z:=by
 have e:(A*y.1+B*y.2)*tn x z=(A*z.1+B*z.2)*tn x y+(A*x.1+B*x.2)*tn y z:=by unfold tn;grind
 have g:=Rv hz d;have f:=Rv a c;exact XN (a:=A*y.1+B*y.2) (by rw[e];omega) b
def sb(a b:Sp):Sp:=(a.1 - b.1,a.2 - b.2)
def gW(a b c:Sp):cr a b c=tn (sb b a) (sb c a):=by rw[cJ];unfold tn sb;grind
theorem gB(A B:Int)(a b:Sp):A*(sb a b).1+B*(sb a b).2=fA A B a - fA A B b:=by unfold sb fA;grind
def Cn(L:Way A B ps n l){i j k:Nat}(d:i<j)(c:j<k)(a:k<n):0<=cr (l i) (l j) (l k):=by
 have b:=L.Q9 j (by lia) (l i) (L.mem i (by lia));have m:=L.Q9 j (by lia) (l k) (L.mem k a);have h:=L.rise i j d (by lia);have g:=L.rise j (j+1) (by lia) (by lia);have f:=L.rise j k c a;have:=xP (A:=A) (B:=B) (x:=sb (l j) (l i)) (y:=sb (l (j+1)) (l j)) (z:=sb (l k) (l j)) (by rw[gB];lia) (by grind [gB]) (by grind [gB]) (by
  rw[cJ]at b;unfold tn sb
  lia) (by simp_all [gW])
 rw[gW];have e:tn (sb (l j) (l i)) (sb (l k) (l i))=tn (sb (l j) (l i)) (sb (l k) (l j)):=by unfold tn sb;grind
 simp_all
def Co{m:Nat}(L:Way A B ps n l)(U:Way (-A) (-B) ps (m+2) u)(p:u (m+1)=l 0){i j k:Nat}(s:i<j)(d:j<n)(g:k<m+2):0<=cr (l i) (l j) (u k):=by
 have f:=U.mem k g;have o:=L.rise i j s d;by_cases h:fA A B (u k)<=fA A B (l i);have b:=L.Q9 i (by lia) (u k) f;have c:=L.Q9 i (by lia) (l j) (L.mem j d);have r:=L.rise i (i+1) (by lia) (by lia);have:=xP (A:=A) (B:=B) (x:=sb (l i) (u k)) (y:=sb (l (i+1)) (l i)) (z:=sb (l j) (l i)) (by rw[gB];lia) (by rw[gB];lia) (by rw[gB];lia) (by
  rw[gW]at b;have:tn (sb (l i) (u k)) (sb (l (i+1)) (l i))=tn (sb (l (i+1)) (l i)) (sb (u k) (l i)):=by unfold tn sb;grind
  rw[this];exact b) (by rw[<- gW];exact c)
 rw[gW];have e:tn (sb (l j) (l i)) (sb (u k) (l i))=tn (sb (l i) (u k)) (sb (l j) (l i)):=by unfold tn sb;grind
 rw[e];exact this;by_cases w:fA A B (l j)<=fA A B (u k);obtain⟨a,rfl⟩:∃a,j=a+1:=⟨j - 1,by lia⟩;have b:=L.Q9 a d (u k) f;have c:=L.Q9 a d (l i) (L.mem i (by lia));have r:=L.rise a (a+1) (by lia) d;have:=xP (A:=A) (B:=B) (x:=sb (l (a+1)) (l i)) (y:=sb (l (a+1)) (l a)) (z:=sb (u k) (l (a+1))) (by rw[gB];lia) (by rw[gB];lia) (by rw[gB];lia) (by
  rw[gW]at c;have:tn (sb (l (a+1)) (l i)) (sb (l (a+1)) (l a))=tn (sb (l (a+1)) (l a)) (sb (l i) (l a)):=by unfold tn sb;grind
  rw[this];exact c) (by
  rw[gW]at b;have:tn (sb (l (a+1)) (l a)) (sb (u k) (l (a+1)))=tn (sb (l (a+1)) (l a)) (sb (u k) (l a)):=by unfold tn sb;grind
  rw[this];exact b)
 rw[gW];have e:tn (sb (l (a+1)) (l i)) (sb (u k) (l i))=tn (sb (l (a+1)) (l i)) (sb (u k) (l (a+1))):=by unfold tn sb;grind
 rw[e];exact this;have t:k<m+1:=by
  rcases Nat.lt_or_eq_of_le (Nat.le_of_lt_succ g)with q|q;exact q;exfalso;rw[q,p]at h;exact h (L.lo _ (L.mem i (by lia)))
 have b:=U.Q9 k (by lia) (l i) (L.mem i (by lia));have c:=U.Q9 k (by lia) (l j) (L.mem j d);have r:=U.rise k (k+1) (by lia) (by lia);rw[cD,cD]at r;have:=xP (A:=A) (B:=B) (x:=sb (l j) (u k)) (y:=sb (u k) (u (k+1))) (z:=sb (u k) (l i)) (by rw[gB];lia) (by rw[gB];lia) (by rw[gB];lia) (by
  rw[gW]at c;have:tn (sb (l j) (u k)) (sb (u k) (u (k+1)))=tn (sb (u (k+1)) (u k)) (sb (l j) (u k)):=by unfold tn sb;grind
  rw[this];exact c) (by
  rw[gW]at b;have:tn (sb (u k) (u (k+1))) (sb (u k) (l i))=tn (sb (u (k+1)) (u k)) (sb (l i) (u k)):=by unfold tn sb;grind
  rw[this];exact b)
 rw[gW];have e:tn (sb (l j) (l i)) (sb (u k) (l i))=tn (sb (l j) (u k)) (sb (u k) (l i)):=by unfold tn sb;grind
 rw[e];exact this
def LK(a b c:Sp):cr a b c=cr b c a:=by rw[cJ,cJ];grind
def Ie{n m:Nat}{h:Nat->Sp}(L:Way A B ps (n+2) l)(U:Way (-A) (-B) ps (m+2) u)(o:l (n+1)=u 0)(p:u (m+1)=l 0)
  (b:∀k,k<n+2->h k=l k) (c:∀j,j<m+1->h (n+1+j)=u j) {i j k:Nat} (g:i<j) (q:j<k) (d:k<n+m+2):0<=cr (h i) (h j) (h k):=by
 have r:Way (-(-A)) (-(-B)) ps (n+2) l:=by rw[Int.neg_neg,Int.neg_neg];exact L
 have a:∀k,n+1<=k->k<n+m+2->h k=u (k - (n+1)):=λk t s=>by
  have:=c (k - (n+1)) (by lia);rw[<- this];congr 1
  lia
 by_cases c:i<n+2;by_cases e:j<n+2;by_cases f:k<n+2;rw[b i c,b j e,b k f];exact Cn L g q f;rw[b i c,b j e,a k (by lia) d];exact Co L U p g e (by lia);rw[b i c,a j (by lia) (by lia),a k (by lia) d,LK];exact Co U r o (by lia) (by lia) c;rw[a i (by lia) (by lia),a j (by lia) (by lia),a k (by lia) d];exact Cn U (by lia) (by lia) (by lia)
theorem Ck:∀{l:yaw},(∀i j k (c:i<j) (b:j<k) (a:k<l.length),0<=Q5 (l[i]'(by lia)) (l[j]'(by lia)) (l[k]'a))->lQ l
 |[],_=>True.intro
 |p::r,h=>⟨WA.mpr λi j e d q=>h 0 (i+1) (j+1) (by lia) (by lia) (by simp_all),Ck λi j k c b a=>h (i+1) (j+1) (k+1) (by lia) (by lia) (by simp_all)⟩
def zc(h:cO ys ps):Vj ((aV ys).map sT)/\(1<(aV ys).length->∀k,k<(aV ys).length->bS (aV ys) k≠(aV ys).getD k (0,0)):=by
 have t:=sH h;obtain⟨o,a⟩:=h;unfold aV;by_cases c:ys.length<2;rw[Pt c];refine⟨λx y z s=>?_,λq=>absurd q (by lia)⟩;have:=s.length_le;simp at this
 lia
 rw[Po c];obtain⟨M,j,g⟩:=GU ys;have i:ys.Pairwise λp q=>fA (2*M) 1 p<fA (2*M) 1 q:=by refine List.Pairwise.imp_of_mem ?_ o;intro p q f d h;exact uo j (g p f) (g q d) h
 have m:ys.reverse.Pairwise λp q=>fA (-(2*M)) (-1) p<fA (-(2*M)) (-1) q:=by refine List.pairwise_reverse.mpr (i.imp ?_);intro p q h;rw[cD,cD];exact Int.neg_lt_neg h
 have L:=(uV i (Y8 c)).to (qs:=ps) λp=>(a p).symm
 have U:=(uV m (by rw[WE];exact Y8 c)).to (qs:=ps) λp=>by rw[List.mem_reverse];exact(a p).symm
 have c:(aQ ys).length<=ys.length:=by have:=gI [] ys;unfold aQ;rw[WE];simpa using this
 have b:(aQ ys.reverse).length<=ys.length:=by have:=gI [] ys.reverse;unfold aQ;rw[WE];simpa using this
 generalize aQ ys=l at L c ⊢;generalize aQ ys.reverse=u at U b ⊢;have b:∀p∈ps,∀q∈ps,fA (2*M) 1 p=fA (2*M) 1 q->p=q:=λp f q d e=>yX i p ((a p).mpr f) q ((a q).mpr d) e
 have c:∀p∈ps,∀q∈ps,fA (2*M) 1 p<=fA (2*M) 1 q->¬gH q p:=λp f q d e x =>
  Int.not_le_of_gt (uo j (g q ((a q).mpr d)) (g p ((a p).mpr f)) x) e
 generalize 2*M=A at L U b c;clear i m g j o a;obtain⟨n,g⟩:∃n,l.length=n+2:=⟨l.length - 2,by have:=L.two;lia⟩;obtain⟨m,a⟩:∃m,u.length=m+2:=⟨u.length - 2,by have:=U.two;lia⟩;have c:(l.dropLast++u.dropLast).length=n+m+2:=by
  rw[Sw,XO,XO,g,a];show n+1+(m+1)=_
  lia
 have r:∀{w:yau} {x:Sp},x∈w.dropLast->x∈w:=fun {w x} d=>(List.dropLast_sublist w).subset d
 have o:∀{w:yau} {i:Nat} (d:i<w.length),w.getD i (0,0)=w[i]:=fun {w i} d=>by rw[Q2,Qw d];rfl
 rw[g]at L;rw[a]at U;have p:l.getD (n+1) (0,0)=u.getD 0 (0,0):=by have f:=L.mem (n+1) (W5 _);have d:=U.mem 0 (XX _);have j:=L.hi _ d;have h:=U.lo _ f;rw[cD,cD]at h;exact b _ f _ d (ZQ (zDD h) j)
 have s:u.getD (m+1) (0,0)=l.getD 0 (0,0):=by have f:=L.mem 0 (XX _);have d:=U.mem (m+1) (W5 _);have j:=L.lo _ d;have h:=U.hi _ f;rw[cD,cD]at h;exact b _ d _ f (ZQ (zDD h) j)
 have f:∀j,j<m+1->(l.dropLast++u.dropLast).getD (n+1+j) (0,0)=u.getD j (0,0):=λj b=>by
  have ld:l.dropLast.length=n+1:=by rw[XO,g];rfl
  rw[Q2,Q2,Wy (by rw[ld];exact ZO _ _),ld,Nat.add_sub_cancel_left,zC3,a,Pt (show j<m+2 - 1 from b)]
 have d:∀k,k<n+2->(l.dropLast++u.dropLast).getD k (0,0)=l.getD k (0,0):=λk a=>by
  rcases Nat.lt_or_eq_of_le (Nat.le_of_lt_succ a)with z|z;rw[Q2,Q2,V2 (by rw[XO,g];exact z),zC3,g,Pt (show k<n+2 - 1 from z)];rw[z,p];exact f 0 (XX _)
 constructor
 rotate_left
 intro _ k a e;rw[c]at a;unfold bS at e;rw[c]at e;have b:∀k,n+1<=k->k<n+m+2->(l.dropLast++u.dropLast).getD k (0,0)=u.getD (k - (n+1)) (0,0):=λk C B=>by
  have:=f (k - (n+1)) (by lia);rw[<- this];congr 1
  lia
 cases k with
 |zero =>
  have g:(0+(n+m+2) - 1) % (n+m+2)=n+m+1:=by rw[Ux (by lia)];lia
  rw[g,b _ (by lia) (by lia),d 0 (by lia),<- s]at e;have:=U.rise (n+m+1 - (n+1)) (m+1) (by lia) (by lia);rw[e]at this;exact XU _ this
 |succ k =>
  have g:(k+1+(n+m+2) - 1) % (n+m+2)=k:=by
   have:k+1+(n+m+2) - 1=k+(n+m+2):=by lia
   rw[this,zCj,Ux (by lia)]
  rw[g]at e;by_cases q:k+1<n+2;rw[d k (by lia),d (k+1) q]at e;have:=L.rise k (k+1) (by lia) q;rw[e]at this;exact XU _ this;rw[b k (by lia) (by lia),b (k+1) (by lia) a]at e;have:=U.rise (k - (n+1)) (k+1 - (n+1)) (by lia) (by lia);rw[e]at this;exact XU _ this
 apply lQ.t;apply Ck;intro i j k e b a;rw[Pq,c]at a;have R:=Ie L U p s d f e b a;rw[o (by rw[c];lia),o (by rw[c];lia),o (by rw[c];lia)]at R;rw[VF,VF,VF,Ml];exact R
def Of(p:Sp):Pr (sT p):=⟨by show(0:Int)<1;decide,by
 show PM.g3 1 p.1 p.2=1;unfold PM.g3
 simp_all⟩
def qN(h X:Tr)(p:Sp):X.1*Pj h (sT p) - Pj h X=h.2.1*(Pz X p).1+h.2.2*(Pz X p).2:=by unfold Pj sT Pz;grind
def rZ{X:Tr}(h0:0<X.1)(B:lP X hs):XJ (hs.map sT) X:=λh a=>by
 have i:∀p∈hs,0<=X.1*Pj h (sT p):=λp i=>Rv (Q7 h0) (a _ (P6.mpr ⟨p,i,rfl⟩))
 have k:∀p∈hs,∀q∈hs,∀s t:Int,0<s->0<t->s*(Pz X p).1+t*(Pz X q).1=0->s*(Pz X p).2+t*(Pz X q).2=0->0<=Pj h X:=λp d q f s t g b u o=>by
  have n:=qN h X p;have m:=qN h X q;have y:=Rv (Q7 g) (i p d);have x:=Rv (Q7 b) (i q f);have e:(s+t)*Pj h X=s*(X.1*Pj h (sT p))+t*(X.1*Pj h (sT q)):=by grind
  exact XN (a:=s+t) (by rw[e];lia) (by lia)
 have c:∀p∈hs,∀q∈hs,∀r∈hs,∀s t w:Int,0<s->0<t->0<w->s*(Pz X p).1+t*(Pz X q).1+w*(Pz X r).1=0->s*(Pz X p).2+t*(Pz X q).2+w*(Pz X r).2=0->0<=Pj h X:=λp d q f r j s t w g b l u o=>by
  have n:=qN h X p;have m:=qN h X q;have g3:=qN h X r;have y:=Rv (Q7 g) (i p d);have x:=Rv (Q7 b) (i q f);have z:=Rv (Q7 l) (i r j);have e:(s+t+w)*Pj h X=s*(X.1*Pj h (sT p))+t*(X.1*Pj h (sT q))+w*(X.1*Pj h (sT r)):=by grind
  exact XN (a:=s+t+w) (by rw[e];lia) (by lia)
 rcases B with⟨p,d,b⟩| ⟨p,d,q,f,b⟩| ⟨p,d,q,f,r,j,b⟩;have g:=qN h X p;have a:Pz X p=(0,0):=b;rw[a,XW,XW]at g;have:=i p d
 lia
 obtain⟨g,a⟩:=Fz b.1;have h:Pz X q≠(0,0):=λe=>by have:=b.2;rw[e]at this;unfold Qf at this;simp at this
 exact k p d q f _ _ (kj h) (by have:=b.2;lia) g a;obtain⟨g,a⟩:=GS (Pz X p) (Pz X q) (Pz X r);rcases b with⟨h,e,b⟩| ⟨h,e,b⟩;exact c p d q f r j _ _ _ h e b g a;exact c p d q f r j (-tn (Pz X q) (Pz X r)) (-tn (Pz X r) (Pz X p)) (-tn (Pz X p) (Pz X q)) (by lia) (by lia) (by lia) (by rw[Uk,Uk,Uk];lia) (by rw[Uk,Uk,Uk];lia)
def C5(g:mU hs ps)(d:ps ≠ []):mU hs hs:=by refine⟨λ_ h=>h,by lia,λ_=>?_,λa e p c=>g.one a e p (g.mem p c),λa b e=>⟨(g.two a b e).1,λp c=>(g.two a b e).2 p (g.mem p c)⟩,λq k b p c=>g.Q9 q k b p (g.mem p c),g.UW⟩;obtain⟨a,r,e,b⟩:=g.Vh d;exact⟨a,r,e,λp c=>b p (g.mem p c)⟩
def mB(g:mU hs ps)(b:ps ≠ []):hs ≠ []:=by
 obtain⟨a,r,e,_⟩:=g.Vh b
 lia
def Hq{X:Tr}(g:mU hs ps)(a:ps ≠ [])(h0:0<X.1)(c:∀b∈aO hs,0<=Pj b X):XJ (hs.map sT) X :=
 rZ h0 (pM (C5 g a) (mB g a) h0 c)
def yz(a b:Sp):Pj (eV a b) (sT a)=0/\Pj (eV a b) (sT b)=0:=by constructor<;>(unfold Pj eV sT;grind)
def qL(a w:Sp):Pj (cA a w) (sT a)=0:=by unfold Pj cA sT;grind
theorem yp{R:Tr->Tr->Prop}:∀{l:yaw},(∀i (h:i+1<l.length),R (l[i]'(by lia)) l[i+1])->Us R l
 |[],_=>True.intro
 |[_],_=>True.intro
 |a::b::r,h=>⟨h 0 (by simp),yp λi c=>h (i+1) (by simp_all)⟩
def Ho{hs:yau}{g:yaw}(i:hs ≠ [])(j:∀b∈aO hs,b∈g):Cyc (Sh (·∈g)) (hs.map sT):=λk z l=>by
 by_cases c:hs.length<3;have h:aO hs=eS (hs.getD 0 (0,0)) (hs.getD (hs.length - 1) (0,0)):=by unfold aO;rw[Pt c]
 have n:∃e∈g,∀p∈hs,Pj e (sT p)=0:=by
  refine⟨cA (hs.getD 0 (0,0)) (UE (aU (hs.getD 0 (0,0)) (hs.getD (hs.length - 1) (0,0)))),j _ (by rw[h];unfold eS;simp),λp f=>?_⟩;rcases hs with _|⟨a,_|⟨b,_|⟨d,r⟩⟩⟩;exact absurd rfl i;rw[SM.mp f];exact qL _ _;simp at f;rcases f with rfl|rfl;exact qL _ _;show Pj (cA a (UE (aU a p))) (sT p)=0;unfold aU;split;rename_i e;rw[<- e];exact qL _ _;unfold Pj cA sT UE;grind;simp at c;lia
 obtain⟨e,m,f⟩:=n;have a:∀x∈hs.map sT,Pj e x=0:=λx hx=>by obtain⟨p,b,rfl⟩:=P6.mp hx;exact f p b
 have d:z∈hs.map sT:=by rw[l];simp
 have b:∀x∈z::hs.map sT,Pj e x=0:=λx hx=>by
  rcases Qg.mp hx with rfl|hx;exact a x d;exact a x hx
 exact yp λi a=>⟨e,m,b _ (Uu _),b _ (Uu _)⟩
 have h:aO hs=(List.range' 0 hs.length).map λk=>eV (bS hs k) (hs.getD k (0,0)):=by unfold aO;rw[Po c]
 have b:∀{i:Nat} (a:i<hs.length),hs.getD i (0,0)=hs[i]:=fun {i} a=>by rw[Q2,Qw a];rfl
 have d:∀i (a:i<hs.length),Sh (·∈g) (sT (bS hs i)) (sT hs[i]):=λi a=>by obtain⟨f,c⟩:=yz (bS hs i) (hs.getD i (0,0));refine⟨_,j (eV (bS hs i) (hs.getD i (0,0))) (by rw[h];exact P6.mpr ⟨i,by simp[a],rfl⟩),f,?_⟩;rw[<- b a];exact c
 have f:z=sT (bS hs 0):=by
  have c:(hs.map sT).getLast?=some z:=by rw[l];simp
  rw[List.getLast?_map,zDN]at c;unfold bS;have:(0+hs.length - 1) % hs.length=hs.length - 1:=by rw[V8];exact Ux (by lia)
  rw[this,b (by lia)];rw[Qw (by lia)]at c;exact(Uy c).symm
 refine yp λi a=>?_
 cases i with
 |zero =>
  show Sh _ z ((hs.map sT)[0]'_);rw[f,VF];exact d 0 (by lia)
 |succ i =>
  show Sh _ ((hs.map sT)[i]'_) ((hs.map sT)[i+1]'_);rw[VF,VF];simp at a;have:=d (i+1) (by lia);unfold bS at this;have e:(i+1+hs.length - 1) % hs.length=i:=by
   have:i+1+hs.length - 1=i+hs.length:=by lia
   rw[this,zCj];exact Ux (by lia)
  rw[e,b (by lia)]at this;exact this
def GL(d:WB n a)(c:WB n b):WB (n+1) (aU a b)/\aU a b≠(0,0):=by unfold aU;split;exact⟨⟨by unfold Bd;grind,by unfold Bd;simp_all [Nat.pow_pos]⟩,by simp⟩;rename_i e;refine⟨⟨?_,?_⟩,λz=>e ?_⟩;rw[Vx,Vx];exact c.x.sub d.x;show Bd _ (1*b.2 - 1*a.2);rw[Vx,Vx];exact c.y.sub d.y;grind
def JV(c:WB n a)(b:WB (n+1) w)(h0:w≠(0,0)):GB3 n (cA a w):=by
 unfold cA;refine⟨λz=>h0 ?_,?_,?_,?_⟩
 lia
 exact Bd.mono (Bd.neg ((b.x.mul c.x).add (b.y.mul c.y))) (by lia);rw[Int.mul_one];exact b.x;show Bd _ (w.2*1);rw[Int.mul_one];exact b.y
def HX{hs:yau}(a:hs ≠ [])(k:Nat):bS hs k∈hs:=by unfold bS;have:(k+hs.length - 1) % hs.length<hs.length:=Xc _ (zCs.mpr a);grind
def getD_mem{hs:yau}{k:Nat}(h:k<hs.length):hs.getD k (0,0)∈hs:=by rw[Q2,Qw h];exact Uu _
def Ek{hs:yau}(i:hs ≠ [])(j:1<hs.length->∀k,k<hs.length->bS hs k≠hs.getD k (0,0))(g:∀p∈hs,WB n p):∀b∈aO hs,GB3 n b:=λb b=>by
 unfold aO at b;split at b
 ·have a:0<hs.length:=zCs.mpr i;have e:=g _ (getD_mem (hs:=hs) (k:=0) a);have c:=g _ (getD_mem (hs:=hs) (k:=hs.length - 1) (by lia));obtain⟨f,h⟩:=GL e c;generalize hs.getD 0 (0,0)=a at *;generalize hs.getD (hs.length - 1) (0,0)=d at *;unfold eS at b;simp at b;generalize aU a d=w at *;have l:WB (n+1) (Vi w)/\Vi w≠(0,0):=⟨⟨f.x.neg,f.y.neg⟩,λz=>h (by
   unfold Vi at z;simp only[Prod.mk.injEq]at z;exact Prod.ext (by lia) (by lia))⟩
  have a:WB (n+1) (UE w)/\UE w≠(0,0):=⟨⟨f.y.neg,f.x⟩,λz=>h (by unfold UE at z;simp at z;exact Prod.ext (by lia) (by lia))⟩
  have bl:WB (n+1) (Vi (UE w))/\Vi (UE w)≠(0,0):=⟨⟨a.1.x.neg,a.1.y.neg⟩,λz=>a.2 (by generalize UE w=v at *;unfold Vi at z;simp only[Prod.mk.injEq]at z;exact Prod.ext (by lia) (by lia))⟩
  rcases b with rfl|rfl|rfl|rfl
  all_goals simp_all [JV]
 obtain⟨k,a,rfl⟩:=P6.mp b;have b:k<hs.length:=by simp at a;exact a
 have a:=j (by lia) k b;have e:=g _ (HX i k);have c:=g _ (getD_mem b);generalize hs.getD k (0,0)=d at *;unfold eV;refine⟨λz=>a ?_,?_,?_,?_⟩;simp at z;exact Prod.ext (by lia) (by lia);exact Bd.mono ((e.x.mul c.y).sub (c.x.mul e.y)) (by lia);rw[Int.mul_one,Int.mul_one];exact e.y.sub c.y;rw[Vx,Vx];exact c.x.sub e.x
def Hn{a Z:yaw}(h:cO ys ps)(c:ps ≠ [])(d:∀p∈ps,WB n p)(i:∀b∈aO (aV ys),b∈a)(e:∀p∈aV ys,sT p∈Z)(f:(aV ys).length<=Z.length):Cor n a Z ((aV ys).map sT):=by
 have g:=bV h;have w:∀p∈aV ys,WB n p:=λp a=>d p (g.mem p a)
 refine⟨(zc h).1,λp a=>?_,λp a=>?_,Ho (mB g c) i,λp a=>?_,by rw[Pq];exact f⟩;obtain⟨q,_,rfl⟩:=P6.mp a;exact Of q;obtain⟨q,b,rfl⟩:=P6.mp a;refine⟨?_,(w q b).x.mono (by lia),(w q b).y.mono (by lia)⟩;show Bd _ 1;unfold Bd;exact R7 (show 1<2 ^ 1 by decide) (Ym (by decide) (by lia));obtain⟨q,b,rfl⟩:=P6.mp a;exact e q b
def Gi(g:Tr)(a:Tr->Tr->Tr)(z:Tr)(l:yaw)(c:Tr):aR g a z (l++[c])=aR g a z l++((if Pj g (l.getLastD z)*Pj g c<0 then[a (l.getLastD z) c]else[])++(if 0<=Pj g c then[c]else[])):=by
 rcases List.eq_nil_or_concat l with rfl|⟨k,p,rfl⟩;simp only[WJ,aR,W4,List.getLastD_nil];rfl;rw[List.concat_eq_append,WH];show aR g a z (k++p::[c])=_;rw[iZ];simp only[aR,W4]
 simp_all
theorem tF(g:Tr)(a:Tr->Tr->Tr):∀(l:yaw) (z:Tr),(aR g a z l).length<=2*l.length
 |[],_=>Qu _
 |c::r,z=>by unfold aR;have:=tF g a r c;rw[Sw,Sw,SQ];grind
theorem ph:∀(l s a:yaw),(∀x,x∈s↔x∈a)->TR s l=TR a l
 |[],_,_,_=>rfl
 |x::r,s,a,h=>by unfold TR;by_cases q:x∈s;rw[Pt q,Pt ((h x).mp q)];exact ph r s a h;rw[Po q,Po λz=>q ((h x).mpr z)];congr 1;exact ph r _ _ λy=>by simp[h y]
theorem yK(z:Tr):∀(l a:yaw),((List.range' a.length l.length).filter λk=>!((a++l).take k).any λy=>decide (y=(a++l).getD k z)).map (λk=>(a++l).getD k z)=TR a l
 |[],a=>rfl
 |x::r,a=>by
  have ih:=yK z r (a++[x]);have e:a++[x]++r=a++x::r:=by simp
  rw[e]at ih;have b:(a++x::r).getD a.length z=x:=by simp[Q2]
  have c:(a++x::r).take a.length=a:=by simp
  rw[SQ,List.range'_succ,List.filter_cons,b,c];have c:(a.any λy=>decide (y=x))=decide (x∈a):=by rw[zCv];simp
  rw[c];have c:(a++[x]).length=a.length+1:=by simp
  rw[c]at ih;unfold TR;by_cases q:x∈a;rw[Pt q,Po (by simp[q]),ih];exact ph r _ _ λy=>by simp only[RH,SM];exact⟨λh=>h.elim id λe=>e ▸ q,.inl⟩
  rw[Po q,Pt (by simp[q]),QO,b,ih]
def Nr(a b:Int):(sg a*sg b<0)↔a*b<0:=by
 unfold sg;rcases ZJ a 0 with c|c|c
 ·rw[Po (by lia),Pt c];rcases ZJ b 0 with a|a|a;rw[Po (by lia),Pt a];have:=ZD c a;constructor<;>intro<;>lia
  all_goals simp_all [Pt,Wh]
 simp_all
 rw[Pt c];rcases ZJ b 0 with a|a|a;rw[Po (by lia),Pt a]
 simp_all [Y1]
 simp_all
 rw[Pt a];have:=U3 c a;constructor<;>intro<;>lia
def Nt(a:Int):(0<=sg a)↔0<=a:=by
 unfold sg
 lia
def Mp(p q:Tr):eqD (PK p) (PK q)=decide (p=q):=by unfold PK;rw[EL];obtain⟨a,b,c⟩:=p;obtain⟨d,e,f⟩:=q;rw[zCv];simp
def BU(p:Tr):Q1 1 (PK p):=Q1.tup (.cons (.int _ _) (.cons (.int _ _) (.cons (.int _ _) (.nil _))))
def cN(ps:yau):D:=.lst false (ps.map PL)
def Hy(h:cN p=cN q):p=q:=by unfold cN at h;simp at h;exact Ci h
def Kh{ps qs:yat}(h:ps.map cN=qs.map cN):ps=qs:=jy Hy h
def tD(p:yau):aG (cN p)=cN p:=by unfold cN;rw[bG,cW]
def DR(ps:yat):bb (ps.map cN)=ps.map cN:=cV cN tD ps
def bO:yat->yat->Prop
 |[],[]=>True
 |ys::a,b::c=>cO ys b/\bO a c
 |_,_=>False
theorem bO.len:∀{yss Ls:yat},bO yss Ls->yss.length=Ls.length
 |[],[],_=>rfl
 |_::_,_::_,a=>by rw[SQ,SQ,bO.len a.2]
 |[],_::_,a=>a.elim
 |_::_,[],a=>a.elim
theorem bO.snoc:∀{yss Ls:yat} {ys ps:yau},bO yss Ls->cO ys ps->bO (yss++[ys]) (Ls++[ps])
 |[],[],_,_,_,h=>⟨h,True.intro⟩
 |_::_,_::_,_,_,a,h=>⟨a.1,bO.snoc a.2 h⟩
 |[],_::_,_,_,a,_=>a.elim
 |_::_,[],_,_,a,_=>a.elim
theorem bO.ex:∀{yss Ls:yat},bO yss Ls->∀ys∈yss,∃ps∈Ls,cO ys ps
 |[],_,_,_,h=>by cases h
 |y::yss,p::Ls,a,ys,h=>by
  rcases Qg.mp h with rfl|h;exact⟨p,by simp,a.1⟩;obtain⟨ps,m,r⟩:=bO.ex a.2 ys h;exact⟨ps,R4 _ m,r⟩
 |_::_,[],a,_,_=>a.elim
theorem bO.ex2:∀{yss Ls:yat},bO yss Ls->∀ps∈Ls,∃ys∈yss,cO ys ps
 |_,[],_,_,h=>by cases h
 |y::yss,p::Ls,a,ps,h=>by
  rcases Qg.mp h with rfl|h;exact⟨y,by simp,a.1⟩;obtain⟨ys,m,r⟩:=bO.ex2 a.2 ps h;exact⟨ys,R4 _ m,r⟩
 |[],_::_,a,_,_=>a.elim
def bq:Nat->yat->yav
 |_,[]=>[]
 |n,a::r=>((aO (aV a)).map λg=>((n:Int),g))++bq (n+1) r
theorem uz:∀(yss:yat) (n:Nat) (ys:yau),bq n (yss++[ys])=bq n yss++(aO (aV ys)).map λg=>(((n+yss.length:Nat):Int),g)
 |[],n,ys=>by simp[bq]
 |y::yss,n,ys=>by
  rw[WG,bq,bq,uz yss (n+1) ys,WH,SQ]
  lia
theorem pP:∀{yss:yat} {n:Nat} {x:Int×Tr},x∈bq n yss->∃ys∈yss,x.2∈aO (aV ys)
 |[],_,_,h=>by cases h
 |y::yss,n,x,h=>by
  rcases RH.mp h with h|h;grind;obtain⟨ys,m,q⟩:=pP h;grind
theorem pO:∀{yss:yat} (n:Nat) {ys:yau} {g:Tr},ys∈yss->g∈aO (aV ys)->g∈(bq n yss).map (·.2)
 |[],_,_,_,h,_=>by cases h
 |y::yss,n,ys,g,h,a=>by
  rw[bq,Sb];rcases Qg.mp h with rfl|h;grind;exact SO _ (pO (n+1) h a)
theorem lB{B:Nat}:∀(yss:yat) (n:Nat),(∀ys∈yss,(aO (aV ys)).length<=B)->(bq n yss).length<=B*yss.length
 |[],_,_=>RS _
 |y::yss,n,h=>by
  rw[bq,Sw,Pq,SQ,Nat.mul_succ];have:=h y (by simp);have:=lB yss (n+1) λz a=>h z (by simp_all)
  lia
def TU(x:Int×Tr):D:=.tup [.int x.1,PK x.2]
def An(x:Int×Tr):aG (TU x)=TU x:=by unfold TU;simp only[cX,br,bM,dJ,gP]
def DU(xs:yav):bb (xs.map TU)=xs.map TU:=cV TU An xs
def cU(r:yag×yaf):D:=.tup [Sa r.1,.lst true (r.2.map D.int)]
def i5 (y:Tr) (a:List (yag×yaf)):D:=.tup [.str "meet", PK y,.lst true (a.map cU)]
structure LsOk(Ls:yat):Prop where
 l0:0<Ls.length
 l8:Ls.length<=8∨(Ls.length<=21/\∀ps∈Ls,ps.length<=5)
 ne:∀ps∈Ls,0<ps.length
 le:∀ps∈Ls,ps.length<=30
 bd:∀ps∈Ls,∀p∈ps,WB 40 p
def mT(Ls:yat)(X:Tr):Prop:=0<X.1/\∀a∈Ls,∀g:Tr,(∀p∈a,0<=Pj g (1,p.1,p.2))->0<=Pj g X
def CB.pb{y:Tr}(h:CB 40 y)(p:Pr y):PB 160 y:=⟨p.pos,h.b.mono (by decide),h.x.mono (by decide),h.y.mono (by decide)⟩
def C1{a:Type}(f:a->D)(z:a)(xs:List a):nr 0 (xs.map f)=(List.range' 0 xs.length).map λk=>D.tup [.int ((k:Nat):Int),f (xs.getD k z)]:=by apply List.ext_getElem?;intro i;by_cases h:i<xs.length;rw[pF 0 (xs.map f) i (f xs[i]) (by rw[QZ,Qw h];rfl),QZ,Qw (by rw[VD];exact h),zCO,V8,V8,Nat.one_mul,Option.map_some,Q2,Qw h];rfl;rw[Y3 (by rw[pG,Pq];lia),Y3 (by rw[Pq,VD];lia)]
def c9(r:yag×yaf):D:=.tup [.lst false (r.1.map λ(k:Nat)=>D.int (k:Int)),.lst false (r.2.map D.int)]
def uQ(r:yag×yaf):aG (cU r)=c9 r:=by
 have e:r.1.map (λ(k:Nat)=>D.int (k:Int))=(r.1.map λ(k:Nat)=>(k:Int)).map D.int:=by simp_all
 unfold cU c9 Sa;rw[e];simp only[cX,br,bM,bG,cM]
theorem k7:∀a:List (yag×yaf),bb (a.map cU)=a.map c9
 |[]=>bM
 |r::a=>by simp_all [QO,br,uQ,k7]
def rN(r:yag×yaf):aG (c9 r)=c9 r:=by
 have e:r.1.map (λ(k:Nat)=>D.int (k:Int))=(r.1.map λ(k:Nat)=>(k:Int)).map D.int:=by simp_all
 unfold c9;rw[e];simp only[cX,br,bM,bG,cM]
def pK(ps:yau):D:=.lst true (ps.map PL)
def uP(ps:yau):aG (pK ps)=cN ps:=by unfold pK cN;rw[bG,cW]
theorem mq:∀Ls:yat,bb (Ls.map pK)=Ls.map cN
 |[]=>bM
 |p::r=>by simp_all [QO,br,uP,mq]
theorem xN:∀(l:yaf),(∀x∈l,Bd n x)->Bd (n+l.length) l.sum
 |[],_=>by unfold Bd;simp_all [Nat.pow_pos]
 |x::r,h=>by exact Bd.add (m:=n+r.length) ((h x (by simp)).mono (by lia)) (xN r λy a=>h y (by grind))
def zX(ps:yau)(a:List (Nat×Int)):Int:=(a.map λz=>z.2*(ps.getD z.1 (0,0)).1).sum
def zY(ps:yau)(a:List (Nat×Int)):Int:=(a.map λz=>z.2*(ps.getD z.1 (0,0)).2).sum
theorem NL(ps:yau):∀(b:yag) (a:yaf),zX ps (b.zip a)=sX (b.map λk=>ps.getD k (0,0)) a
 |[],_=>by unfold zX sX;simp
 |_::_,[]=>by unfold zX sX;simp
 |k::b,s::a=>by have:=NL ps b a;unfold zX sX at this ⊢;rw[zCz,QO,Zd,this,QO,zCW,Zd,S4]
theorem NM(ps:yau):∀(b:yag) (a:yaf),zY ps (b.zip a)=sY (b.map λk=>ps.getD k (0,0)) a
 |[],_=>by unfold zY sY;simp
 |_::_,[]=>by unfold zY sY;simp
 |k::b,s::a=>by have:=NM ps b a;unfold zY sY at this ⊢;rw[zCz,QO,Zd,this,QO,zCW,Zd,S4]
theorem tJ:∀(b:yag) (a:yaf),List.zipWith (λx y=>D.tup [x,y]) ((b.map λ(k:Nat)=>(k:Int)).map D.int) (a.map D.int)=(b.zip a).map λz=>D.tup [.int ((z.1:Nat):Int),.int z.2]
 |[],_=>rfl
 |_::_,[]=>rfl
 |k::b,s::a=>by rw[QO,QO,QO,zCW,tJ b a,zCz,QO]
theorem k9{a:Type}(f:a->D)(h:∀x,dj (f x)=true):∀xs:List a,gw (xs.map f)=true
 |[]=>rfl
 |x::r=>by rw[QO,gw,h x,k9 f h r];rfl
def Eb(r:yag×yaf):dj (cU r)=true:=by unfold cU Sa;rw[dj,gw,dj,k9 _ (λ_=>rfl),gw,dj,k9 _ (λ_=>rfl)];rfl
def HD(r:yag×yaf):Q1 2 (cU r):=Q1.tup (.cons (Q1.map λ(_:Nat)=>Q1.int 0 _) (.cons (Q1.map (Q1.int 0)) (.nil _)))
structure Pd(m:Sp)(ps:yau):Prop where
 l0:0<ps.length
 l3:ps.length<=3
 bd:∀p∈ps,WB 40 p
 inn:∀g:Tr,(∀p∈ps,0<=Pj g (1,p.1,p.2))->0<=Pj g (1,m.1,m.2)
def plk(a b c d:Sp):tn a b*tn c d=tn a c*tn b d - tn a d*tn b c:=by unfold tn;grind
theorem yW(t:Sp):∀V:yau,(∃v∈V,0<tn t v)->∃v∈V,0<tn t v/\∀w∈V,0<tn t w->0<=tn v w
 |[],h=>by obtain⟨v,b,_⟩:=h;cases b
 |x::V,h=>by
  by_cases d:∃v∈V,0<tn t v
  ·obtain⟨v,vm,b,g⟩:=yW t V d;by_cases f:0<tn t x/\tn v x<0;refine⟨x,T9,f.1,λw a c=>?_⟩;rcases Qg.mp a with e|wm;rw[e,mR];exact Uc _;have k:=plk t v x w;have i:=Rv (Q7 f.1) (g w wm c);have f:=U3 c (show 0 < - tn v x by lia);rw[Int.mul_neg]at f;exact XN (by rw[k];lia) b
   ·refine⟨v,R4 _ vm,b,λw a c=>?_⟩;rcases Qg.mp a with e|wm
    all_goals simp_all
  obtain⟨v,vm,b⟩:=h;rcases Qg.mp vm with e|vm;subst e;refine⟨v,T9,b,λw a c=>?_⟩;rcases Qg.mp a with e|wm;rw[e,mR];exact Uc _;exact absurd ⟨w,wm,c⟩ d;exact absurd ⟨v,vm,b⟩ d
theorem DQ{a:Type}(f:a->Int):∀V:List a,∃M:Int,0<M/\∀v∈V,f v<=M
 |[]=>⟨1,by decide,by simp_all⟩
 |x::V=>by obtain⟨M,d,c⟩:=DQ f V;refine⟨M+(f x).toNat,by lia,λv b=>?_⟩;grind
def sq_pos{t:Sp}(d:t≠(0,0)):0<Qf t t:=by
 obtain⟨a,b⟩:=t;show 0<a*a+b*b;have f:0<=a*a:=by rcases Int.le_total 0 a with h|h;exact Rv h h;exact zBk h h
 have e:0<=b*b:=by rcases Int.le_total 0 b with h|h;exact Rv h h;exact zBk h h
 by_cases c:a=0;have a:b≠0:=by lia
 have:=Int.mul_ne_zero a a;omega;have:=Int.mul_ne_zero c c;omega
def Mt{t:Sp}(a:t≠(0,0))(V:yau)(g:∀d:Sp,(∀v∈V,0<=Qf v d)->0<=Qf t d):(∃v∈V,tn t v=0/\0<Qf t v)∨∃ v∈V,∃w∈V,tn t v<0/\0<tn t w/\0<tn v w:=by
 refine ZC λb=>?_
 have f:∀v∈V,tn t v=0->Qf t v<=0:=λv d h=>Vy.mp λz=>b (.inl ⟨v,d,h,z⟩)
 have j:=sq_pos a;by_cases L:∃v∈V,0<tn t v;obtain⟨w,i,k,ext⟩:=yW t V L;have a:=g (-w.2,w.1) λv d=>by
  have e:Qf v (-w.2,w.1)=tn w v:=by unfold Qf tn;grind
  rw[e];rcases ZJ (tn t v) 0 with c|c|c;refine Vy.mp λz=>b (.inr ⟨v,d,w,i,c,k,?_⟩)
  rw[cI];lia;have k:Qf t t*tn w v=Qf t v*tn w t+tn t v*Qf w t:=by unfold Qf tn;grind
  rw[c,WL,Int.add_zero]at k;have q:=zBk (f v d c) (show tn w t<=0 by rw[cI];lia);rw[<- k]at q;exact XN q j;exact ext v d c
 have e:Qf t (-w.2,w.1)=tn w t:=by unfold Qf tn;grind
 rw[e,cI]at a
 lia
 obtain⟨M,j,i⟩:=DQ (λv=>Qf v t) V;have a:=g (M*t.2 - t.1,- (M*t.1) - t.2) λv d=>by
  have e:Qf v (M*t.2 - t.1,- (M*t.1) - t.2)=M*(- tn t v) - Qf v t:=by unfold Qf tn;grind
  rw[e];have h:=Vy.mp λz=>L ⟨v,d,z⟩
  by_cases c:tn t v=0;have:=f v d c;rw[rT]at this;rw[c];lia;have b:M*1<=M*(- tn t v):=zCM (by lia) (Q7 j);have:=i v d
  lia
 have e:Qf t (M*t.2 - t.1,- (M*t.1) - t.2)=- Qf t t:=by unfold Qf;grind
 lia
def vc(g:Tr):Sp:=(g.2.1,g.2.2)
def N1(g:Tr)(N b a:Int)(p:Tr):Pj g (N*p.1,N*p.2.1+b,N*p.2.2+a)=N*Pj g p+Qf (vc g) (b,a):=by unfold Pj Qf vc;grind
def LB{a C:yaw}(d:C ≠ [])(pos:∀p∈C,0<p.1)(o:∀p∈C,Pj g p<0)(r:∀h∈a,∀p∈C,0<=Pj h p)
  (sp:∀X:Tr,0<X.1->(∀h∈a,0<=Pj h X)->XJ C X) (f:vc g≠(0,0)) :
  ∃ p:Tr,0<p.1/\Pj g p<0/\((∃h∈a,Pj h p=0/\iC (vc h) (vc g))∨∃ h∈a,∃k∈a,Pj h p=0/\Pj k p=0/\d6 (vc h) (vc k) (vc g)):=by
 obtain⟨c,b⟩:=zCl C d;have m:∀p:Tr,Pj (-1,0,0) p=- p.1:=λp=>by unfold Pj;grind
 obtain⟨p,n,d,_,i⟩:=sy g (-1,0,0) C ⟨c,b,o c b,by rw[m];have:=pos c b;lia⟩;have j:=pos p n;refine⟨p,j,d,?_⟩;have b:(- g.2.1,- g.2.2)≠((0,0):Sp):=λe=>f (by have d:=congrArg Prod.fst e;have c:=congrArg Prod.snd e;dsimp only at d c;unfold vc;rw[show g.2.1=0 by lia,show g.2.2=0 by lia])
 have l:=Mt b ((a.filter λh=>decide (Pj h p=0)).map vc) λd b=>by
  obtain⟨N,q,t⟩:=DQ (λh=>- Qf (vc h) d) a;have s:∀h∈a,0<=Pj h (N*p.1,N*p.2.1+d.1,N*p.2.2+d.2):=λh f=>by
   rw[N1];by_cases c:Pj h p=0;rw[c,XW,Int.zero_add];exact b _ (P6.mpr ⟨h,Yp.mpr ⟨f,V6 c⟩,rfl⟩);have b:N*1<=N*Pj h p:=zCM (by have:=r h f p n;lia) (Q7 q);have:=t h f;show 0<=N*Pj h p+Qf (vc h) d
   lia
  have I:=sp _ (U3 q j) s (Pj g p - p.1*g.1,- (p.1*g.2.1),- (p.1*g.2.2)) λy n=>by
   have b:=i y n (o y n);rw[m,m]at b;have e:Pj (Pj g p - p.1*g.1,- (p.1*g.2.1),- (p.1*g.2.2)) y=Pj g p*y.1 - p.1*Pj g y:=by unfold Pj;grind
   rw[e];rw[Int.mul_neg,Uk]at b
   lia
  have e:Pj (Pj g p - p.1*g.1,- (p.1*g.2.1),- (p.1*g.2.2)) (N*p.1,N*p.2.1+d.1,N*p.2.2+d.2)=p.1*Qf (- g.2.1,- g.2.2) d:=by unfold Pj Qf;grind
  rw[e]at I;exact XN I j
 have d:∀v∈(a.filter λh=>decide (Pj h p=0)).map vc,∃h∈a,Pj h p=0/\vc h=v:=λv a=>by obtain⟨h,f,e⟩:=P6.mp a;obtain⟨a,b⟩:=Yp.mp f;exact⟨h,a,WZ b,e⟩
 have i:∀v:Sp,tn (- g.2.1,- g.2.2) v=- tn (vc g) v:=λv=>by unfold tn vc;grind
 have m:∀v:Sp,Qf (- g.2.1,- g.2.2) v=- Qf (vc g) v:=λv=>by unfold Qf vc;grind
 rcases l with⟨v,e,a,b⟩| ⟨v,e,w,j,a,b,c⟩;obtain⟨h,f,g,rfl⟩:=d v e;rw[i]at a;rw[m]at b;exact .inl ⟨h,f,g,by rw[cI];lia,by rw[rT];lia⟩;obtain⟨h,f,g,rfl⟩:=d v e;obtain⟨k,l,e,rfl⟩:=d w j;rw[i]at a b;refine .inr ⟨h,f,k,l,g,e,.inl ⟨?_,?_,c⟩⟩;rw[cI];exact b
 lia
theorem yt{a Z:yaw}(i:∀e∈a,GB3 n e)(j:∀e∈a,∀g∈a,UX (PY e g)∈Z):∀(f l:yaw),(∀g∈f,g∈a)->Cor n a Z l →
  Cor n a Z (aW f l)/\(∀X,XJ l X->(∀g∈f,0<=Pj g X)->XJ (aW f l) X)/\(∀g∈f,∀y∈aW f l,0<=Pj g y)/\∀d,(∀p∈l,0<=Pj d p)->∀y∈aW f l,0<=Pj d y
 |[],l,_,C=>⟨C,λ_ I _=>I,λ_ h=>(by cases h),λ_ h=>h⟩
 |g::f,l,h,C=>by
  obtain⟨n,m,k⟩:=tO (g:=g) C.TQ C.pr;obtain⟨a,b,c,d⟩:=yt i j f (fB g l) (λx f=>h x (R4 _ f)) (GW i (h g (by simp)) (λe i=>j e i g (h g (by simp))) C);refine⟨a,λX I a=>b X (n X I (a g (by simp))) λx f=>a x (R4 _ f),λx f y a=>?_,λe i=>d e (k e i)⟩;rcases Qg.mp f with rfl|f;exact d x m y a;exact c x f y a
def PQ(yss:yat):yaw:=(bq 0 yss).map (·.2)
def F0(yss:yat):yaw:=(aV (yss.getD 0 [])).map sT
def El{hs:yau}(c:hs ≠ []){b:Tr}(a:b∈aO hs):∃p:Sp,Pj b (sT p)=0:=by
 unfold aO at a;split at a;unfold eS at a;simp only[Qg,Uw,or_false]at a;rcases a with e|e|e|e<;>(rw[e];exact⟨_,qL _ _⟩);obtain⟨k,_,e⟩:=P6.mp a;rw[<- e];exact⟨_,(yz _ _).1⟩
def Oq(h:GB3 n b)(e:Pj b (sT p)=0):vc b≠(0,0):=λz=>h.ne (by have c:b.2.1=0:=congrArg Prod.fst z;have a:b.2.2=0:=congrArg Prod.snd z;unfold Pj sT at e;grind)
structure qD(yss:yat):Prop where
 zs:∃Z:yaw,Z.length<=300000/\∀j,Cor 40 (PQ yss) Z (aW ((PQ yss).take j) (F0 yss))
 inc:∀j X,0<X.1->(∀b∈aO (aV (yss.getD 0 [])),0<=Pj b X)->(∀g∈(PQ yss).take j,0<=Pj g X)->XJ (aW ((PQ yss).take j) (F0 yss)) X
 ov:∀j,∀g∈(PQ yss).take j,∀y∈aW ((PQ yss).take j) (F0 yss),0<=Pj g y
 gb:∀g∈PQ yss,GB3 40 g/\vc g≠(0,0)
 pos:0<(PQ yss).length
 le:(PQ yss).length<=512
 ne:F0 yss ≠ []
 own:∀j,∀b∈aO (aV (yss.getD 0 [])),∀y∈aW ((PQ yss).take j) (F0 yss),0<=Pj b y
 hd:∃r,PQ yss=aO (aV (yss.getD 0 []))++r
 cn:∀y∈aW (PQ yss) (F0 yss),y∈F0 yss∨∃ e∈PQ yss,∃g∈PQ yss,y=UX (PY e g)
def CP{hs:yau}(h:hs.length<=10):(aO hs).length<=10:=by
 unfold aO eS;split
 all_goals simp_all
def nB(L:LsOk Ls)(K:bO yss Ls):qD yss:=by
 have o:∀a∈yss,∃b∈Ls,cO a b:=K.ex;have t:∀g∈PQ yss,GB3 40 g/\vc g≠(0,0):=λg k=>by obtain⟨x,d,rfl⟩:=P6.mp k;obtain⟨a,c,n⟩:=pP d;obtain⟨b,e,r⟩:=o a c;have c:=bV r;have d:=Y2 (L.ne b e);have B:=Ek (mB c d) (zc r).2 (λp m=>L.bd b e p (c.mem p m)) x.2 n;obtain⟨p,m⟩:=El (mB c d) n;exact⟨B,Oq B m⟩
 obtain⟨j,Lr,rfl⟩:∃p r,Ls=p::r:=by
  cases Ls with
  |nil=>exact absurd L.l0 (by simp)
  |cons p r=>exact⟨p,r,rfl⟩
 obtain⟨d,f,rfl⟩:∃p r,yss=p::r:=by
  cases yss with
  |nil=>exact K.elim
  |cons p r=>exact⟨p,r,rfl⟩
 have s:cO d j:=K.1;have h:=bV s;have i:=Y2 (L.ne j (by simp));have C:=K.len;have lo:(bq 0 (d::f)).length<=512:=by
  rcases L.l8 with c|⟨c,l⟩;have:=lB (B:=64) (d::f) 0 λa c=>by
   obtain⟨b,e,r⟩:=o a c;have:=(bV r).len;have:=L.le b e;have:=mW (aV a)
   lia
  lia
  have:=lB (B:=10) (d::f) 0 λa c=>by obtain⟨b,e,r⟩:=o a c;have:=(bV r).len;have:=l b e;exact CP (by lia)
  lia
 have w:∃r,PQ (d::f)=aO (aV d)++r:=by refine⟨(bq 1 f).map (·.2),?_⟩;unfold PQ;rw[bq,Sb,QP];congr 1;exact List.map_id'' (λ_=>rfl) _
 have y:∀b∈aO (aV d),b∈PQ (d::f):=λb n=>pO 0 (by simp) n
 have A:0<(PQ (d::f)).length:=by
  unfold PQ;rw[Pq,bq,Sw,Pq];have:0<(aO (aV d)).length:=by unfold aO;split;unfold eS;simp;rw[Pq,VD];lia
  lia
 have q:(PQ (d::f)).length<=512:=by unfold PQ;rw[Pq];lia
 have u:F0 (d::f)=(aV d).map sT:=rfl
 let Z:yaw:=(aV d).map sT++(PQ (d::f)).flatMap λe=>(PQ (d::f)).map λg=>UX (PY e g)
 have z:Z.length<=300000:=by
  show((aV d).map sT++(PQ (d::f)).flatMap λe=>(PQ (d::f)).map λg=>UX (PY e g)).length<=300000;generalize PQ (d::f)=c at q ⊢;rw[Sw,Pq];have H:=h.len;have G:=L.le j (by simp);have E:(c.flatMap λe=>c.map λg=>UX (PY e g)).length<=512*512:=by
   have x:∀l:yaw,(l.flatMap λe=>c.map λg=>UX (PY e g)).length<=l.length*512:=λl=>by
    induction l with
    |nil=>simp
    |cons a r ih =>
     rw[zC5,Sw,Pq,SQ,Nat.succ_mul]
     lia
   have:=x c;have:c.length*512<=512*512:=Y4 _ q
   lia
  lia
 have c:∀e∈PQ (d::f),∀g∈PQ (d::f),UX (PY e g)∈Z:=λe a g k=>SO _ (ZN.mpr ⟨e,a,P6.mpr ⟨g,k,rfl⟩⟩)
 have l:Cor 40 (PQ (d::f)) Z (F0 (d::f)):=Hn s i (L.bd j (by simp)) y (λp m=>Vu _ (P6.mpr ⟨p,m,rfl⟩)) (by have e:((aV d).map sT).length=(aV d).length:=Pq _;show _<=((aV d).map sT++_).length;rw[Sw,e];exact ZO _ _)
 have run:=λj=>yt (λe a=>(t e a).1) c ((PQ (d::f)).take j) _ (λg k=>(List.take_sublist j _).subset k) l
 refine⟨⟨Z,z,λj=>(run j).1⟩,λj X c n k=>(run j).2.1 X (Hq h i c n) k,λj=>(run j).2.2.1,t,A,q,?_,λj b n=>(run j).2.2.2 b λp m=>?_,w,λy o=>?_⟩;rw[u];intro z;exact mB h i (List.map_eq_nil_iff.mp z);rw[u]at m;obtain⟨q,b,rfl⟩:=P6.mp m;exact i4 h i n (h.mem q b);have m:=(run (PQ (d::f)).length).1.mem y (by rw[Vv];exact o);rcases RH.mp m with m|m;exact .inl m;obtain⟨e,a,m⟩:=ZN.mp m;obtain⟨g,k,rfl⟩:=P6.mp m;exact .inr ⟨e,a,g,k,rfl⟩
theorem Bk:∀a:yaw,aW a []=[]
 |[]=>rfl
 |g::a=>Bk a
theorem Bj(a b l:yaw):aW (a++b) l=aW b (aW a l):=List.foldl_append
def GX{G:yaw}{j:Nat}(h:aW (G.take i) F=[])(RT:i<=j):aW (G.take j) F=[]:=by grind [List.take_add,Nat.add_sub_cancel',Bj,Bk]
theorem yu{G F:yaw}(d:F ≠ []):∀n,aW (G.take n) F=[]->∃a,a<n/\(∀j,j<=a->aW (G.take j) F ≠ [])/\aW (G.take (a+1)) F=[]
 |0,h=>absurd h d
 |n+1,h=>by by_cases c:aW (G.take n) F=[];obtain⟨k,e,a,b⟩:=yu d n c;exact⟨k,by lia,a,b⟩;exact⟨n,by lia,λj a z=>c (GX z a),h⟩
def yv{G:yaw}{k:Nat}{g:Tr}(h:G[k]?=some g):aW (G.take (k+1)) F=fB g (aW (G.take k) F):=by rw[List.take_add_one,h,Bj];rfl
def UG(G:yaw)(a:yag):yau:=a.map λk=>vc (G.getD k (0,0,0))
def o9(G:yaw)(b:yag)(a:yaf):Int:=((b.zip a).map λz=>(G.getD z.1 (0,0,0)).1*z.2).sum
def gU(G:yaw)(a:Nat):List (yag)->Option (yag×yaf)
 |[]=>none
 |o::r=>match d9 (UG G (o++[a]))with
  |some b=>if o9 G (o++[a]) b<0 then some (o++[a],b)else gU G a r
  |none=>gU G a r
set_option tactic.hygienic true in
theorem wz:∀{L:List (yag)} {a:yag} {b:yaf},gU G last L=some (a,b)->(∃o∈L,a=o++[last])/\d9 (UG G a)=some b/\o9 G a b<0
 |[],_,_,h=>by cases h
 |o::r,a,b,h=>by
  have d:gU G last r=some (a,b)->(∃c∈o::r,a=c++[last])/\d9 (UG G a)=some b/\o9 G a b<0:=λh=>by
   obtain⟨⟨c,m,e⟩,q⟩:=wz h
   simp_all
  unfold gU at h;split at h
  ·split at h
   all_goals simp_all
  exact d h
theorem qF{a:Nat}:∀{L:List (yag)} {o:yag} {b:yaf},o∈L->d9 (UG G (o++[a]))=some b->o9 G (o++[a]) b<0->∃r,gU G a L=some r
 |[],_,_,m,_,_=>by cases m
 |x::r,o,b,m,d,c=>by
  unfold gU;split;split
  lia
  rcases Qg.mp m with e|m
  lia
  exact qF m d c;rcases Qg.mp m with e|m
  lia
  exact qF m d c
def Fg{p c t v:Int}(d:0<p)(b:0<t)(a:v<0)(e:p*c=t*v):c<0:=by have h:=Y1 b a;exact Ud.mp λz=>by have:=Rv (Q7 d) z;lia
def OF{p:Tr}(B:xD [vc h,vc g] a)(h0:0<p.1)(d:Pj h p=0)(c:Pj g p<0):∃s t,a=[s,t]/\h.1*s+g.1*t<0:=by
 obtain⟨s,t,rfl⟩:∃s t,a=[s,t]:=by
  have:=B.len;rcases a with _|⟨s,_|⟨t,_|⟨u,r⟩⟩⟩
  all_goals simp_all
 have b:=B.sum;unfold wsum vc at b;simp at b;have a:=B.pos t (by simp);refine⟨s,t,rfl,Fg h0 a c ?_⟩;unfold Pj at *;grind
def OG{p:Tr}(B:xD [vc h,vc k,vc g] a)(h0:0<p.1)(e:Pj h p=0)(d:Pj k p=0)(c:Pj g p<0):∃s t u,a=[s,t,u]/\h.1*s+(k.1*t+g.1*u)<0:=by
 obtain⟨s,t,u,rfl⟩:∃s t u,a=[s,t,u]:=by
  have:=B.len;rcases a with _|⟨s,_|⟨t,_|⟨u,_|⟨v,r⟩⟩⟩⟩
  all_goals simp_all
 have b:=B.sum;unfold wsum vc at b;simp at b;have a:=B.pos u (by simp);refine⟨s,t,u,rfl,Fg h0 a c ?_⟩;unfold Pj at *;grind
def wk{G:yaw}{h:Tr}(m:h∈G.take n):∃i,i<n/\G.getD i (0,0,0)=h:=by obtain⟨i,a,e⟩:=WD m;rw[Uv]at a;exact⟨i,by lia,by grind⟩
def tN(S:qD yss)(e:aW (PQ yss) (F0 yss)=[]) :
  ∃ a,a<(PQ yss).length/\(∀j,j<=a->aW ((PQ yss).take j) (F0 yss) ≠ [])/\aW ((PQ yss).take (a+1)) (F0 yss)=[]/\∃r,gU (PQ yss) a (PV a 1++PV a 2)=some r:=by
 obtain⟨a,f,k,b⟩:=yu S.ne (PQ yss).length (by rw[Vv];exact e);refine⟨a,f,k,b,?_⟩;obtain⟨Z,_,c⟩:=S.zs;have e:=c a;have i:(PQ yss)[a]?=some (PQ yss)[a]:=Qw f;have gD:(PQ yss).getD a (0,0,0)=(PQ yss)[a]:=by rw[Q2,i];rfl
 have c:∀y∈aW ((PQ yss).take a) (F0 yss),Pj (PQ yss)[a] y<0:=λy d=>Ud.mp λz=>by have l:=(tO (g:=(PQ yss)[a]) e.TQ e.pr).1 y (λh g=>g y d) z;rw[yv i]at b;exact MH l (e.pr y d).pos b
 have l:=k a (Qu _);obtain⟨g,b⟩:=zCl _ l;obtain⟨r,k⟩:=S.hd;have o:(aO (aV (yss.getD 0 []))).length<=a:=XY.mp (by
  intro z;have n:a<(aO (aV (yss.getD 0 []))).length:=by lia
  have m:(PQ yss)[a]∈aO (aV (yss.getD 0 [])):=by
   have q:(PQ yss)[a]?=(aO (aV (yss.getD 0 [])))[a]?:=by rw[k,V2 n]
   rw[i]at q;exact Rt q.symm
  have:=S.own a _ m g b;have:=c g b
  lia)
 have sub:∀b∈aO (aV (yss.getD 0 [])),b∈(PQ yss).take a:=λb g=>by rw[k,List.take_append];refine Vu _ ?_;rw[ZG o];exact g
 obtain⟨p,A,C,i⟩:=LB l (λy d=>(e.pr y d).pos) c (S.ov a) (λX d c=>S.inc a X d (λb g=>c b (sub b g)) c) (S.gb _ (Uu f)).2;rcases i with⟨h,c,e,B⟩| ⟨h,c,k,m,e,l,B⟩;obtain⟨i,q,d⟩:=wk c;have w:UG (PQ yss) ([i]++[a])=[vc h,vc (PQ yss)[a]]:=by show[vc ((PQ yss).getD i (0,0,0)),vc ((PQ yss).getD a (0,0,0))]=_;rw[d,gD]
 have g:d9 [vc h,vc (PQ yss)[a]]=some (dE [bH (vc (PQ yss)[a]),bH (vc h)]):=Pt B;obtain⟨s,t,x,y⟩:=OF (oY (by simp) g) A e C;refine qF (o:=[i]) (Vu _ (sj q)) (by rw[w,g]) ?_;rw[x];show([((PQ yss).getD i (0,0,0)).1*s,((PQ yss).getD a (0,0,0)).1*t]:yaf).sum<0;rw[d,gD];simp;exact y;obtain⟨i,q,d⟩:=wk c;obtain⟨j,n,f⟩:=wk m;have m:i≠j:=λz=>by
  rw[z,f]at d;rw[d]at B;unfold d6 at B;have:=mR (vc h)
  lia
 have z:∀(i j:Nat) (h k:Tr),i<j->j<a->(PQ yss).getD i (0,0,0)=h->(PQ yss).getD j (0,0,0)=k->Pj h p=0->Pj k p=0->d6 (vc h) (vc k) (vc (PQ yss)[a])->∃r,gU (PQ yss) a (PV a 1++PV a 2)=some r:=λi j h k p n d f e l B=>by
  have w:UG (PQ yss) ([i,j]++[a])=[vc h,vc k,vc (PQ yss)[a]]:=by show[vc ((PQ yss).getD i (0,0,0)),vc ((PQ yss).getD j (0,0,0)),vc ((PQ yss).getD a (0,0,0))]=_;rw[d,f,gD]
  obtain⟨c,g⟩:∃c,d9 [vc h,vc k,vc (PQ yss)[a]]=some c:=by
   show∃c,jG _ _ _=some c;unfold jG;split;exact⟨_,rfl⟩;rename_i c;rcases B with b|b;exact absurd b c;exact⟨_,Pt b⟩
  obtain⟨s,t,u,x,y⟩:=OG (oY (by simp) g) A e l C;refine qF (o:=[i,j]) (SO _ (sk p n)) (by rw[w,g]) ?_;rw[x];show([((PQ yss).getD i (0,0,0)).1*s,((PQ yss).getD j (0,0,0)).1*t,((PQ yss).getD a (0,0,0)).1*u]:yaf).sum<0;rw[d,f,gD];simp;exact y
 rcases Y6 m with c|c;exact z i j h k c n d f e l B;refine z j i k h c q f d l e ?_;unfold d6 at B ⊢;have H:=cI (vc h) (vc k);have G:=cI (vc k) (vc (PQ yss)[a]);have E:=cI (vc (PQ yss)[a]) (vc h)
 lia
def jF(h g:Tr)(s:Int):Tr:=(h.1+g.1*s,h.2.1+g.2.1*s,h.2.2+g.2.2*s)
def Tx(T:yav)(o:Int):Option Tr:=(T.find? λx=>decide (x.1=o)).map (·.2)
def ptT(T:yav)(o:Int)(h:Tr):yav:=if(Tx T o).isSome=true then T.map (λx=>if x.1=o then(x.1,h)else x)else T++[(o,h)]
def stT(T:yav)(x:Int×Tr×Int):yav:=ptT T x.1 (jF ((Tx T x.1).getD (0,0,0)) x.2.1 x.2.2)
def cq(xs:List (Int×Tr×Int)):yav:=xs.foldl stT []
def mE(p:Int×Tr)(r:yav)(o:Int):Tx (p::r) o=if p.1=o then some p.2 else Tx r o:=by unfold Tx;grind
theorem BP:∀{T:yav},Tx T o=none->o∉T.map (·.1)
 |[],_=>by simp
 |p::r,h=>by
  rw[mE]at h;by_cases e:p.1=o
  lia
  ·rw[QO,Qg];rintro(z|z)
   all_goals simp_all [BP]
theorem zu{h:Tr}:∀{T:yav},Tx T o=some h->(o,h)∈T
 |[],q=>by cases q
 |p::r,q=>by
  rw[mE]at q;by_cases e:p.1=o;grind
  simp_all [Po,R4,zu]
theorem De{x:Int×Tr}:∀{T:yav},(T.map (·.1)).Nodup->x∈T->Tx T x.1=some x.2
 |[],_,m=>by cases m
 |p::r,a,m=>by
  rw[QO,Wk]at a;rw[mE];rcases Qg.mp m with e|m
  lia
  rw[Po (by grind)];exact De a.2 m
theorem Cc(o:Int)(h:Tr):∀T:yav,(T.map λx=>if x.1=o then(x.1,h)else x).map (·.1)=T.map (·.1)
 |[]=>rfl
 |p::r=>by
  rw[QO,QO,QO,Cc o h r]
  lia
theorem Cd{o:Int}(h:Tr):∀{T:yav},o∉T.map (·.1)->(T.map λx=>if x.1=o then(x.1,h)else x)=T
 |[],_=>rfl
 |p::r,n=>by rw[QO,Qg]at n;rw[QO,Cd h λz=>n (.inr z),Po λe=>n (.inl e.symm)]
theorem FP{h h0:Tr}(f:Tr->Int):∀{T:yav},(T.map (·.1)).Nodup->Tx T o=some h0->((T.map λx=>if x.1=o then(x.1,h)else x).map λx=>f x.2).sum=(T.map λx=>f x.2).sum - f h0+f h
 |[],_,q=>by cases q
 |p::r,a,q=>by
  rw[QO,Wk]at a;rw[mE]at q;rw[QO,QO,Zd,QO,Zd];by_cases e:p.1=o;rw[Pt e]at q;rw[Pt e,Cd h (by rw[<- e];exact a.1)]
  lia
  rw[Po e]at q;rw[Po e,FP f a.2 q]
  lia
structure xY(P:Nat->Int->Tr->Prop)(done:List (Int×Tr×Int))(T:yav):Prop where
 nd:(T.map (·.1)).Nodup
 le:T.length<=done.length
 ok:∀x∈T,P done.length x.1 x.2
 sm:∀f:Tr->Int,f (0,0,0)=0->(∀h g s,f (jF h g s)=f h+f g*s)->(T.map λx=>f x.2).sum=(done.map λx=>f x.2.1*x.2.2).sum
def xY.step{P:Nat->Int->Tr->Prop}(d:∀n o h,P n o h->P (n+1) o h)(I:xY P done T){x:Int×Tr×Int}(h0:P 0 x.1 (0,0,0))(hs:∀n h,P n x.1 h->P (n+1) x.1 (jF h x.2.1 x.2.2)):xY P (done++[x]) (stT T x):=by
 have j:∀n,P n x.1 (0,0,0):=λn=>by
  induction n with
  |zero=>exact h0
  |succ n ih=>exact d n _ _ ih
 unfold stT ptT;cases hl:Tx T x.1 with
 |none =>
  have k:=BP hl;rw[Po (by simp)];refine⟨?_,by rw[Sw,Sw];exact Nat.add_le_add_right I.le _,λy c=>?_,λf i g=>?_⟩;rw[Sb,zCg];refine⟨I.nd,by simp,λa l b a=>?_⟩;rw[QO,XT,SM]at a;rw[a];exact λe=>k (e ▸ l)
  rw[Sw];rcases RH.mp c with c|c;exact d _ _ _ (I.ok y c);rw[SM.mp c];exact hs _ _ (j _);rw[Sb,Sb,List.sum_append,List.sum_append,I.sm f i g];have e:=g (0,0,0) x.2.1 x.2.2;show _+(f (jF (0,0,0) x.2.1 x.2.2)+0)=_+(f x.2.1*x.2.2+0);rw[e,i]
  lia
 |some h =>
  rw[Pt (by simp)];refine⟨by rw[Cc];exact I.nd,by rw[Pq,Sw];exact Nat.le_succ_of_le I.le,λy c=>?_,λf i g=>?_⟩;rw[Sw];obtain⟨z,a,e⟩:=P6.mp c;by_cases c:z.1=x.1;rw[Pt c]at e;rw[<- e];rw[c];exact hs _ _ (I.ok _ (zu hl));rw[Po c]at e;rw[<- e];exact d _ _ _ (I.ok z a);rw[FP f I.nd hl,Sb,List.sum_append,I.sm f i g];have e:=g h x.2.1 x.2.2;show _ - f h+f (jF h x.2.1 x.2.2)=_+(f x.2.1*x.2.2+0);rw[e]
  lia
theorem vM{P:Nat->Int->Tr->Prop}(a:∀n o h,P n o h->P (n+1) o h)(xs:List (Int×Tr×Int))(h0:∀x∈xs,P 0 x.1 (0,0,0))(hs:∀x∈xs,∀n h,P n x.1 h->P (n+1) x.1 (jF h x.2.1 x.2.2)):∀n,xY P (xs.take n) (cq (xs.take n))
 |0=>⟨by simp[cq],by simp[cq],λx b=>by simp[cq]at b,λf _ _=>by simp[cq]⟩
 |n+1=>by
  by_cases c:n<xs.length;have e:xs.take (n+1)=xs.take n++[xs[n]]:=by rw[List.take_add_one,Qw c];rfl
  rw[e];have m:xs[n]∈xs:=Uu c;unfold cq;rw[List.foldl_append];exact(vM a xs h0 hs n).step a (h0 _ m) (hs _ m);have e:xs.take (n+1)=xs.take n:=by grind [List.take_of_length_le]
  rw[e];exact vM a xs h0 hs n
def jI(T:yav)(a:yaf):yav:=a.map λo=>(o,(Tx T o).getD (0,0,0))
def KS{T:yav}{a:yaf}(c:(T.map (·.1)).Nodup)(b:a.Perm (T.map (·.1))):(jI T a).Perm T:=by
 have e:(T.map (·.1)).map (λo=>(o,(Tx T o).getD (0,0,0)))=T:=by rw[QP];refine(Yn λx d=>?_).trans (List.map_id T);grind [De]
 have:=b.map (λo=>(o,(Tx T o).getD (0,0,0)));rw[e]at this;exact this
structure TB(n:Nat)(h:Tr):Prop where
 c:Bd n h.1
 a:Bd n h.2.1
 b:Bd n h.2.2
structure Cs(Ls:yat)(rs:yav):Prop where
 l2:2<=rs.length
 l3:rs.length<=3
 rise:(rs.map (·.1)).Pairwise (·<·)
 own:∀x∈rs,∃i:Nat,i<Ls.length/\x.1=(i:Int)/\∀p∈Ls.getD i [],0<=Pj x.2 (1,p.1,p.2)
 bd:∀x∈rs,TB 990 x.2
 c0:(rs.map λx=>x.2.1).sum<0
 a0:(rs.map λx=>x.2.2.1).sum=0
 b0:(rs.map λx=>x.2.2.2).sum=0
theorem EO(X:Tr):∀a:yav,(a.map λx=>Pj x.2 X).sum=(a.map λx=>x.2.1).sum*X.1+(a.map λx=>x.2.2.1).sum*X.2.1+(a.map λx=>x.2.2.2).sum*X.2.2
 |[]=>by simp
 |x::r=>by simp;rw[EO X r];unfold Pj;grind
theorem Ak{a:Type}(f:a->Int):∀xs:List a,(∀x∈xs,0<=f x)->0<=(xs.map f).sum
 |[],_=>by simp
 |x::r,h=>by
  rw[QO,Zd];have:=h x T9;have:=Ak f r (by simp_all)
  lia
def Ef{a:yav}(b:(a.map λx=>x.2.1).sum<0)(a0:(a.map λx=>x.2.2.1).sum=0)(c:(a.map λx=>x.2.2.2).sum=0){X:Tr}(h0:0<X.1)(h:∀x∈a,0<=Pj x.2 X):False:=by
 have e:=EO X a;rw[a0,c]at e;have:=Ak (λx:Int×Tr=>Pj x.2 X) a h;have:=Wh b h0
 lia
def Vk(yss:yat)(b:yag)(a:yaf):List (Int×Tr×Int):=(b.zip a).map λz=>(((bq 0 yss).getD z.1 (0,0,0,0)).1,((bq 0 yss).getD z.1 (0,0,0,0)).2,z.2)
theorem zM:∀{yss:yat} {n:Nat} {x:Int×Tr},x∈bq n yss->∃(i:Nat) (ys:yau),x.1=((n+i:Nat):Int)/\yss[i]?=some ys/\x.2∈aO (aV ys)
 |[],_,_,h=>by cases h
 |ys::r,n,x,h=>by
  rcases RH.mp h with q|q;obtain⟨g,a,rfl⟩:=P6.mp q;exact⟨0,ys,rfl,rfl,a⟩;obtain⟨i,a,d,c,b⟩:=zM q;exact⟨i+1,a,by lia,c,b⟩
theorem bO.at_:∀{yss Ls:yat} {i:Nat} {ys:yau},bO yss Ls->yss[i]?=some ys->∃ps,Ls[i]?=some ps/\cO ys ps
 |[],[],_,_,_,h=>by simp at h
 |[],_::_,_,_,k,_=>k.elim
 |_::_,[],_,_,k,_=>k.elim
 |y::r,p::q,0,ys,k,h=>by
  cases(show y=ys from Uy h);exact⟨p,rfl,k.1⟩
 |y::r,p::q,i+1,ys,k,h=>bO.at_ (yss:=r) (Ls:=q) k.2 h
def ME(yss:yat)(k:Nat):(PQ yss).getD k (0,0,0)=((bq 0 yss).getD k (0,0,0,0)).2:=by unfold PQ;rw[Q2,Q2,QZ];cases(bq 0 yss)[k]?<;>rfl
def K3(yss:yat)(f:Tr->Int):∀(b:yag) (a:yaf),((Vk yss b a).map λx=>f x.2.1*x.2.2).sum=((b.zip a).map λz=>f ((PQ yss).getD z.1 (0,0,0))*z.2).sum:=λb a=>by
 unfold Vk;rw[QP];congr 1;exact Yn λz _=>by show f _*_=_;rw[ME]
theorem Aw(G:yaw):∀(d:yag) (c:yaf),d.length=c.length->((d.zip c).map λz=>(G.getD z.1 (0,0,0)).2.1*z.2).sum=(wsum c (UG G d)).1/\((d.zip c).map λz=>(G.getD z.1 (0,0,0)).2.2*z.2).sum=(wsum c (UG G d)).2
 |[],[],_=>⟨rfl,rfl⟩
 |k::d,s::c,h=>by obtain⟨a,b⟩:=Aw G d c (Nat.succ.inj h);unfold wsum UG at a b ⊢;simp at a b ⊢;rw[a,b];unfold vc;exact⟨by rw[S4],by rw[S4]⟩
def Jc{o:yag}(h:o∈PV last 1++PV last 2):o.length<=2/\∀k∈o,k<last:=by grind [bW]
structure GG(yss:yat)(pk:yag)(sh:yaf):Prop where
 l3:pk.length<=3
 lt:∀k∈pk,k<(bq 0 yss).length
 Yi:xD (UG (PQ yss) pk) sh
 bs:∀s∈sh,Bd 900 s
 neg:o9 (PQ yss) pk sh<0
def Du(S:qD yss){a:Nat}{b:yag}{c:yaf}(j:a<(PQ yss).length)(e:gU (PQ yss) a (PV a 1++PV a 2)=some (b,c)):GG yss b c:=by
 obtain⟨⟨o,a,l⟩,d,f⟩:=wz e;obtain⟨i,g⟩:=Jc a;have h:(PQ yss).length=(bq 0 yss).length:=Pq _;have c:b.length<=3:=by grind
 have lt':∀k∈b,k<(PQ yss).length:=by grind
 have a:(UG (PQ yss) b).length<=3:=by unfold UG;rw[Pq];exact c
 refine⟨c,by simp_all,oY a d,yh (λw b=>?_) a d,f⟩;obtain⟨k,a,rfl⟩:=P6.mp b;have q:=Qw (lt' k a);rw[Q2,q];have B:=(S.gb _ (Uu (lt' k a))).1;exact⟨B.a.mono (by decide),B.b.mono (by decide)⟩
def HS{a:yaf}(h:a.Perm b):a.sum=b.sum:=by
 induction h with
 |nil=>rfl
 |cons x _ ih=>simp_all
 |swap x y l=>simp;lia
 |trans _ _ d c=>lia
def Lw(Ls:yat)(n:Nat)(o:Int)(h:Tr):Prop:=(∃i:Nat,i<Ls.length/\o=(i:Int)/\∀q∈Ls.getD i [],0<=Pj h (1,q.1,q.2))/\TB (983+n) h
def zU(L:LsOk Ls)(K:bO yss Ls)(S:qD yss)(p:GG yss g f):∀n,xY (Lw Ls) ((Vk yss g f).take n) (cq ((Vk yss g f).take n)):=by
 have c:∀x∈Vk yss g f,(∃i:Nat,i<Ls.length/\x.1=(i:Int)/\∀q∈Ls.getD i [],0<=Pj x.2.1 (1,q.1,q.2))/\TB 82 x.2.1/\0<x.2.2/\Bd 900 x.2.2:=λx d=>by
  obtain⟨z,j,e⟩:=P6.mp d;have h:=(W9 (a:=z.1) (b:=z.2) j);have t:=p.lt _ h.1;have k:(bq 0 yss).getD z.1 (0,0,0,0)∈bq 0 yss:=by grind
  obtain⟨i,s,r,a,o⟩:=zM k;obtain⟨j,b,rk⟩:=K.at_ a;have a:j∈Ls:=Rt b;have m:=bV rk;have l:=Y2 (L.ne j a);have B:=(S.gb _ (P6.mpr ⟨_,k,rfl⟩)).1;rw[<- e];refine⟨⟨i,(RQ.mp b).1,by rw[r];lia,λq a=>?_⟩,⟨B.c.mono (by decide),B.a.mono (by decide),B.b.mono (by decide)⟩,p.Yi.pos _ h.2,p.bs _ h.2⟩;rw[Q2,b]at a;exact i4 m l o a
 exact vM (P:=Lw Ls) (λn o h q=>⟨q.1,q.2.c.mono (by lia),q.2.a.mono (by lia),q.2.b.mono (by lia)⟩) (Vk yss g f) (λx d=>by
  obtain⟨⟨i,a,e,_⟩,_⟩:=c x d;refine⟨⟨i,a,e,λq _=>?_⟩,?_⟩;have:Pj (0,0,0) (1,q.1,q.2)=0:=by unfold Pj;grind
  lia
  have z:∀n,Bd n 0:=λn=>by unfold Bd;exact Nat.two_pow_pos n
  exact⟨z _,z _,z _⟩) (λx d n h q=>by
  obtain⟨⟨i,a,e,f⟩,B,b,sb⟩:=c x d;obtain⟨⟨j,c,u,d⟩,H⟩:=q;have a:j=i:=by lia
  subst a;have m:∀{y:Int},Bd 82 y->Bd (983+n) (y*x.2.2):=λa=>(a.mul sb).mono (by lia)
  refine⟨⟨j,c,e,λw a=>?_⟩,H.c.add (m B.c),H.a.add (m B.a),H.b.add (m B.b)⟩;have k:Pj (jF h x.2.1 x.2.2) (1,w.1,w.2)=Pj h (1,w.1,w.2)+Pj x.2.1 (1,w.1,w.2)*x.2.2:=by unfold Pj jF;grind
  rw[k];exact Int.add_nonneg (d w a) (Rv (f w a) (Q7 b)))
def AB(L:LsOk Ls)(K:bO yss Ls)(S:qD yss)(p:GG yss pk sh){b:yaf}(a:b.Perm ((cq (Vk yss pk sh)).map (·.1)))(k:b.Pairwise (·<·)) :
  Cs Ls (jI (cq (Vk yss pk sh)) b):=by
 have i:pk.length=sh.length:=by have:=p.Yi.len;unfold UG at this;rw[Pq]at this;exact this.symm
 have m:(Vk yss pk sh).length<=3:=by unfold Vk;rw[Pq,zCx];have:=p.l3;lia
 have I:=zU L K S p (Vk yss pk sh).length;rw[Vv]at I;generalize hT:cq (Vk yss pk sh)=T at I a ⊢;have c:=KS I.nd a;have n:=c.length_eq;have o:=I.le;have a:∀f:Tr->Int,f (0,0,0)=0->(∀h g s,f (jF h g s)=f h+f g*s)->((jI T b).map λx=>f x.2).sum=((pk.zip sh).map λz=>f ((PQ yss).getD z.1 (0,0,0))*z.2).sum:=λf e d=>by rw[HS (c.map λx=>f x.2),I.sm f e d,K3]
 have e:((jI T b).map λx=>x.2.1).sum<0:=by rw[a (λh=>h.1) rfl λ_ _ _=>rfl];exact p.neg
 obtain⟨f,d⟩:=Aw (PQ yss) pk sh i;have j:((jI T b).map λx=>x.2.2.1).sum=0:=by rw[a (λh=>h.2.1) rfl λ_ _ _=>rfl,f,p.Yi.sum]
 have g:((jI T b).map λx=>x.2.2.2).sum=0:=by rw[a (λh=>h.2.2) rfl λ_ _ _=>rfl,d,p.Yi.sum]
 have a:∀x∈jI T b,∃i:Nat,i<Ls.length/\x.1=(i:Int)/\∀q∈Ls.getD i [],0<=Pj x.2 (1,q.1,q.2):=λx d=>(I.ok x (c.mem_iff.mp d)).1
 refine⟨?_,by lia,?_,a,λx d=>?_,e,j,g⟩;generalize jI T b=f at *;rcases f with _|⟨x,_|⟨y,r⟩⟩;simp at e;exfalso;obtain⟨i,f,_,h⟩:=a x (by simp);have q:=Qw f;obtain⟨w,l⟩:=zCl _ (Y2 (L.ne Ls[i] (Uu f)));refine Ef e j g (X:=(1,w.1,w.2)) (show(0:Int)<1 by decide) λy a=>?_
 rw[SM.mp a];exact h w (by rw[Q2,q];exact l);simp;unfold jI;rw[QP];show(b.map id).Pairwise _;rw[List.map_id];exact k;obtain⟨_,B⟩:=I.ok x (c.mem_iff.mp d);exact⟨B.c.mono (by lia),B.a.mono (by lia),B.b.mono (by lia)⟩
structure Pe(Ls:yat):Prop where
 l5:Ls.length<=5
 le:∀ps∈Ls,ps.length<=5
structure xX(Ls:yat)(y:Tr)(rs:List (yag×yaf)):Prop where
 pr:Pr y
 cb:CB 40 y
 len:rs.length=Ls.length
 ok:∀i,i<Ls.length->oV (Ls.getD i []) y (rs.getD i ([],[])).1 (rs.getD i ([],[])).2
 com:mT Ls y
def nJ(L:LsOk Ls)(K:bO yss Ls)(S:qD yss){y:Tr}(e:y∈aW (PQ yss) (F0 yss)) :
  (∀ps∈Ls,cw (ps.map (Pz y)) (cT ps.length)=some ((cw (ps.map (Pz y)) (cT ps.length)).getD ([],[])))/\xX Ls y (Ls.map λps=>(cw (ps.map (Pz y)) (cT ps.length)).getD ([],[])):=by
 obtain⟨Z,_,a⟩:=S.zs;have b:=a (PQ yss).length;have d:=S.ov (PQ yss).length;rw[Vv]at b d;have c:=b.pr y e;have cy:=b.cb y e;have f:∀ps∈Ls,lP y ps:=λps a=>by obtain⟨j,g,b⟩:=K.ex2 ps a;exact pM (bV b) (Y2 (L.ne ps a)) c.pos λb h=>d b (pO 0 g h) y e
 have b:∀ps∈Ls,cw (ps.map (Pz y)) (cT ps.length)=some ((cw (ps.map (Pz y)) (cT ps.length)).getD ([],[])):=λps a=>by
  have:=GQ (f ps a);cases hm:cw (ps.map (Pz y)) (cT ps.length)with
  |none=>simp_all
  |some r=>rfl
 refine⟨b,c,cy,by grind,λi k=>?_,c.pos,λps a g e=>?_⟩;have d:Ls[i]?=some Ls[i]:=by simp_all
 have a:Ls[i]∈Ls:=Uu _;rw[Q2,d,Q2,QZ,d];exact N3 (L.bd _ a) (cy.pb c) (b _ a);refine rZ c.pos (f ps a) g λp b=>?_
 obtain⟨q,a,rfl⟩:=P6.mp b;exact e q a
def vf (a:yav):D:=.tup [.str "bar", .lst true (a.map TU)]
def MU(B:Cs Ls rs)(C:mT Ls X):False :=
 Ef B.c0 B.a0 B.b0 C.1 λx b=>by obtain⟨i,c,_,a⟩:=B.own x b;refine C.2 (Ls.getD i []) ?_ x.2 a;grind
theorem oC{c:Type}{f:c->D}(d:∀a b,f a=f b->a=b):∀{xs ys:List c},xs.map f=ys.map f->xs=ys
 |[],[],_=>rfl
 |[],_::_,h=>by simp at h
 |_::_,[],h=>by simp at h
 |a::r,b::q,h=>by rw[d a b (by simp_all),oC d (List.cons.inj h).2]
def Kl{xs ys:yav}(h:xs.map TU=ys.map TU):xs=ys:=oC (λa b e=>by
 simp only[TU,PK,T3,D.tup.injEq,zDM,D.int.injEq,and_true]at e
 lia) h
def eE(z:Nat×Int):D:=.tup [.int ((z.1:Nat):Int),.int z.2]
def K1{xs ys:List (Nat×Int)}(h:xs.map eE=ys.map eE):xs=ys:=oC (λa b e=>by simp only[eE,D.tup.injEq,zDM,D.int.injEq,and_true]at e;grind) h
def Ao(z:Nat×Int):aG (eE z)=eE z:=by unfold eE;simp only[cX,br,bM,dJ]
def uR(a:List (Nat×Int)):bb (a.map eE)=a.map eE:=cV eE Ao a
theorem wq:∀(b:yag) (a:yaf),List.zipWith (λx y=>D.tup [x,y]) (b.map λ(k:Nat)=>D.int (k:Int)) (a.map D.int)=(b.zip a).map eE
 |[],_=>by simp
 |_::_,[]=>by simp
 |k::b,s::a=>by rw[QO,QO,zCW,wq b a,zCz,QO];rfl
def gN(os:yav)(a:List (Nat×Int)):List (Int×Tr×Int):=a.map λz=>((os.getD z.1 (0,0,0,0)).1,(os.getD z.1 (0,0,0,0)).2,z.2)
def mn(T:yav):List (Key×D):=T.map λx=>(Sum.inl x.1,PK x.2)
theorem nG(o:Int):∀T:yav,dN (mn T) (Sum.inl o)=(Tx T o).map PK
 |[]=>rfl
 |x::r=>by show dN ((Sum.inl x.1,PK x.2)::mn r) (Sum.inl o)=_;rw[uq,mE,nG o r];grind
def KI(T:yav)(o:Int)(h:Tr):putD (mn T) (Sum.inl o) (PK h)=mn (ptT T o h):=by
 unfold putD ptT;rw[nG,Option.isSome_map];by_cases c:(Tx T o).isSome=true;rw[Pt c,Pt c];unfold mn;rw[QP,QP];refine Yn λx _=>?_
 lia
 unfold mn
 simp_all
theorem wt:∀T:yav,(((T.map (·.1)).map Sum.inl:List Key).zip (T.map λx=>PK x.2))=mn T
 |[]=>rfl
 |x::r=>by show(Sum.inl x.1,PK x.2)::_=(Sum.inl x.1,PK x.2)::mn r;rw[<- wt r];rfl
def pN(ps:yau):LI:=.own (ps.map PL)
theorem w6:∀{a yss Ls:yat},bO a Ls->bO yss Ls->a=yss
 |[],[],_,_,_=>rfl
 |[],_::_,[],_,h=>h.elim
 |[],_::_,_::_,h,_=>h.elim
 |_::_,[],[],h,_=>h.elim
 |_::_,[],_::_,_,h=>h.elim
 |_::_,_::_,[],h,_=>h.elim
 |x::a,y::yss,_::_,h,k=>by rw[zR h.1 k.1,w6 h.2 k.2]
abbrev VB(y:Tr)(ps:yau):yag×yaf:=(cw (ps.map (Pz y)) (cT ps.length)).getD ([],[])
def HmR (Ls : yat) (d : D) : Prop := ∃ a, bO a Ls ∧
  ((∃ y rest, aW (PQ a) (F0 a) = y :: rest /\ d = i5 y (Ls.map (VB y))) ∨
   ∃ b e c f, aW (PQ a) (F0 a) = [] /\ b < (PQ a).length /\ (∀ j, j <= b -> aW ((PQ a).take j) (F0 a) ≠ []) /\ aW ((PQ a).take (b + 1)) (F0 a) = [] ∧
    gU (PQ a) b (PV b 1 ++ PV b 2) = some (e, c) /\ f.Perm ((cq (Vk a e c)).map (·.1)) /\ f.Pairwise (· < ·) /\ d = vf (jI (cq (Vk a e c)) f))
def HR:∀{a b:yaf},a.Perm b->a.Pairwise (·<·)->b.Pairwise (·<·)->a=b:=fun {a b} p b a=>p.eq_of_pairwise (by lia) b a
def zb(h:HmR Ls a)(k:HmR Ls b):a=b:=by
 obtain⟨f,rk,h⟩:=h;obtain⟨d,a,k⟩:=k;rw[w6 a rk]at k;rcases h with⟨y,r,e,rfl⟩| ⟨i,x,u,z,e,B,s,r,q,p,h6,rfl⟩<;>rcases k with⟨t,w,a,rfl⟩| ⟨j,l,g,m,a,A,o,n,b,k,h,rfl⟩;rw[e]at a;cases a;rfl;rw[e]at a;cases a;rw[e]at a;cases a;have a:i=j:=by
  rcases ZM i j with c|c|c;exact absurd r (o (i+1) c);exact c;exact absurd n (s (j+1) c)
 subst a;rw[q]at b;cases b;rw[HR (p.trans k.symm) h6 h]
def C6(L:LsOk Ls)(h:HmR Ls d):(∃y,d=i5 y (Ls.map (VB y))/\xX Ls y (Ls.map (VB y))/\∀ps∈Ls,cw (ps.map (Pz y)) (cT ps.length)=some (VB y ps))∨∃ a,d=vf a/\Cs Ls a:=by
 obtain⟨b,rk,h⟩:=h;have St:=nB L rk;rcases h with⟨y,r,e,rfl⟩| ⟨i,j,g,k,e,e,m,l,d,c,h6,rfl⟩;obtain⟨a,f⟩:=nJ L rk St (y:=y) (by simp_all);exact .inl ⟨y,rfl,f,a⟩;exact .inr ⟨_,rfl,AB L rk St (Du St e d) c h6⟩
def Hi{c:Type}{wi:DA}{g:DG}{tb:DS}{E:k8}(xs:List c)(f:c->D)(Pv:Ro->Prop)(h:∀R:yas->Prop,R (xs.map f)->wi ρ R)(e:Pv ρ)
  (b:∀(x:c) (a:Ro),x∈xs->Pv a->g (f x) a λi=>tb {E with nx:=Pv,ct:=Pv,bk:=E.nx} i) (d:∀a,Pv a->E.nx a):yE wi g tb E ρ :=
 PD.bL xs f (λ_ ρ=>Pv ρ) h e (λ_ x a c e=>b x a (Rt c) e) d
def bE(ns:yaf)(a:yag):yaf:=a.map λi=>ns.getD i 0
def cL(ns a:yaf):yaf:=ns.filter λn=>!a.contains n
def Ut:yag->yaf->List (List (yaf))
 |[],_=>[[]]
 |k::c,a=>(PV a.length k).flatMap λb=>(Ut c (cL a (bE a b))).map (bE a b::·)
theorem zQ(x:Sp):∀l:yau,l.Pairwise (λp q=>p.1<q.1∨(p.1=q.1/\p.2<q.2))->∃k:yau,k.Pairwise (λp q=>p.1<q.1∨(p.1=q.1/\p.2<q.2))/\∀p,p∈k↔p=x∨p∈l
 |[],_=>⟨[x],by simp,by simp⟩
 |y::l,h=>by
  obtain⟨e,a⟩:=UK.mp h;by_cases c:x=y;exact⟨y::l,h,by simp_all⟩;by_cases d:x.1<y.1∨(x.1=y.1/\x.2<y.2);exact⟨x::y::l,UK.mpr ⟨by grind,h⟩,by simp_all⟩
  ·obtain⟨k,c,b⟩:=zQ x l a;refine⟨y::k,UK.mpr ⟨λz a=>?_,c⟩,by grind⟩;rcases(b z).mp a with rfl|a
   all_goals grind
theorem vJ:∀ps:yau,∃ys,cO ys ps
 |[]=>⟨[],by simp[cO]⟩
 |p::ps=>by obtain⟨ys,h,m⟩:=vJ ps;obtain⟨k,a,b⟩:=zQ p ys h;exact⟨k,a,by grind⟩
theorem Jl:∀Ls:yat,∃yss,bO yss Ls
 |[]=>⟨[],trivial⟩
 |p::Ls=>by obtain⟨a,h⟩:=vJ p;obtain⟨yss,k⟩:=Jl Ls;exact⟨a::yss,h,k⟩
def OE:∀a∈PV 7 5,∀b∈PV 7 5,∀c∈PV 7 5,∃i ∈ [0,1,2,3,4,5,6],i∈a/\i∈b/\i∈c:=by decide +kernel
def NQ{Q:Nat->yag->Prop}:∀d:yag,d.length<=3->(∀k∈d,∃S∈PV 7 5,Q k S)->∃i,i<7/\∀k∈d,∃S,Q k S/\i∈S:=by
 intro d t h;have e:∀a b c,(∃S∈PV 7 5,Q a S)->(∃S∈PV 7 5,Q b S)->(∃S∈PV 7 5,Q c S)->∃i,i<7/\∀k ∈ [a,b,c],∃S,Q k S/\i∈S:=by intro a b c ⟨A,f,o⟩ ⟨B,l,n⟩ ⟨C,j,m⟩;obtain⟨i,_,g,s,p⟩:=OE A f B l C j;refine⟨i,(bW f).2 i g,λk f=>?_⟩;grind
 rcases d with _|⟨a,_|⟨b,_|⟨c,_|⟨d,r⟩⟩⟩⟩;exact⟨0,by lia,by simp⟩;obtain⟨i,d,q⟩:=e a a a (h a (by simp)) (h a (by simp)) (h a (by simp));exact⟨i,d,by simp_all⟩;obtain⟨i,d,q⟩:=e a a b (h a (by simp)) (h a (by simp)) (h b (by simp));exact⟨i,d,λk f=>q k (by grind)⟩;exact e a b c (h a (by simp)) (h b (by simp)) (h c (by simp))
 simp_all
theorem NO(G:yaw)(X:Tr):∀a:List (Nat×Int),(a.map λz=>Pj (G.getD z.1 (0,0,0)) X*z.2).sum=(a.map λz=>(G.getD z.1 (0,0,0)).1*z.2).sum*X.1+(a.map λz=>(G.getD z.1 (0,0,0)).2.1*z.2).sum*X.2.1+(a.map λz=>(G.getD z.1 (0,0,0)).2.2*z.2).sum*X.2.2
 |[]=>by simp
 |z::a=>by simp only[QO,Zd,NO G X a];unfold Pj;grind
def L21(P:Nat->Sp):yat:=(PV 7 5).map λS=>S.map P
def OU{P:Nat->Sp}(d:∀i,i<7->WB 40 (P i)):LsOk (L21 P):=by
 have e:(PV 7 5).length=21:=by decide +kernel
 have f:∀a∈L21 P,a.length=5:=λa h=>by obtain⟨S,b,rfl⟩:=P6.mp h;rw[Pq];exact(bW b).1
 refine⟨by unfold L21;grind,.inr ⟨by unfold L21;grind,by grind⟩,by simp_all,by grind,λa h p a=>?_⟩;obtain⟨S,b,rfl⟩:=P6.mp h;obtain⟨i,c,rfl⟩:=P6.mp a;exact d i ((bW b).2 i c)
def HM(K:bO yss (L21 P)){e:Tr}(a:e∈PQ yss):∃S∈PV 7 5,∀i∈S,0<=Pj e (sT (P i)):=by obtain⟨x,c,rfl⟩:=P6.mp a;obtain⟨a,b,d⟩:=pP c;obtain⟨f,c,r⟩:=K.ex a b;obtain⟨S,a,rfl⟩:=P6.mp c;exact⟨S,a,λi a=>i4 (bV r) (λz=>by simp_all) d (P6.mpr ⟨i,a,rfl⟩)⟩
def In5(P:Nat->Sp)(X:Tr):Prop:=∀S∈PV 7 5,∀g:Tr,(∀i∈S,0<=Pj g (sT (P i)))->0<=Pj g X
def Oe(h:0<(UX (PY e g)).1):Pj e (UX (PY e g))=0/\Pj g (UX (PY e g))=0/\(PY e g).1≠0:=by
 have c:Pj e (PY e g)=0:=by unfold Pj PY;grind
 have b:Pj g (PY e g)=0:=by unfold Pj PY;grind
 generalize PY e g=w at *;have j:=PM.cZ (l:=w.1) (PM.rX w.1 w.2.1 w.2.2);have i:=PM.cZ (l:=w.1) (PM.vp w.1 w.2.1 w.2.2);have f:=PM.cZ (l:=w.1) (PM.vq w.1 w.2.1 w.2.2);unfold UX at *;generalize PM.RG w.1 w.2.1 w.2.2 w.1=d at *;have a:d≠0:=λz=>by simp_all
 unfold Pj at *;refine⟨?_,?_,λz=>by simp_all⟩;refine(Ua.mp (?_:_*d=0)).resolve_right a;grind;refine(Ua.mp (?_:_*d=0)).resolve_right a;grind
def center{P:Nat->Sp}(a:∀i,i<7->WB 40 (P i)):∃X:Tr,0<X.1/\In5 P X/\((∃i,i<7/\X=sT (P i))∨∃ e g:Tr,Pj e X=0/\Pj g X=0/\(PY e g).1≠0/\(∃S∈PV 7 5,∀i∈S,0<=Pj e (sT (P i)))/\∃S∈PV 7 5,∀i∈S,0<=Pj g (sT (P i))):=by
 have L:=OU a;obtain⟨a,K⟩:=Jl (L21 P);have S:=nB L K;cases ec:aW (PQ a) (F0 a)with
 |nil =>
  obtain⟨h,d,_,_,⟨c,f⟩,b⟩:=tN S ec;have p:=Du S d b;obtain⟨i,u,d⟩:=NQ (Q:=λk S=>∀i∈S,0<=Pj ((PQ a).getD k (0,0,0)) (sT (P i))) c p.l3 λk b=>by
   have lk:=p.lt k b;refine HM K ?_;have:k<(PQ a).length:=by unfold PQ;rw[Pq];exact lk
   rw[Q2,Qw this];exact Uu this
  have b:c.length=f.length:=by have:=p.Yi.len;unfold UG at this;rw[Pq]at this;exact this.symm
  have z:=NO (PQ a) (sT (P i)) (c.zip f);have w:=Aw (PQ a) c f b;have b:=p.Yi.sum;have n:=p.neg;unfold o9 at n;rw[w.1,w.2,b]at z;have b:0<=((c.zip f).map λz=>Pj ((PQ a).getD z.1 (0,0,0)) (sT (P i))*z.2).sum:=Ak _ _ λx c=>by obtain⟨S,q,m⟩:=d x.1 (W9 c).1;exact Rv (q i m) (Q7 (p.Yi.pos x.2 (W9 c).2))
  rw[z]at b;unfold sT at b;omega
 |cons y r =>
  have j:y∈aW (PQ a) (F0 a):=by rw[ec];simp
  have M:=(nJ L K S j).2;refine⟨y,M.pr.pos,λT f g c=>M.com.2 (T.map P) (P6.mpr ⟨T,f,rfl⟩) g λp b=>?_,?_⟩;obtain⟨i,d,rfl⟩:=P6.mp b;exact c i d;rcases S.cn y j with m|⟨e,l,g,c,rfl⟩;obtain⟨q,k,rfl⟩:=P6.mp m;have t:=L.l0;have s:=K.len;have:0<a.length:=by omega
  have j:a.getD 0 []∈a:=by rw[Q2,Qw this];exact Uu this
  obtain⟨o,b,rk⟩:=K.ex _ j;obtain⟨T,f,rfl⟩:=P6.mp b;obtain⟨i,d,e⟩:=P6.mp ((bV rk).mem q k);exact .inl ⟨i,(bW f).2 i d,by rw[e]⟩;obtain⟨d,b,a⟩:=Oe M.pr.pos;exact .inr ⟨e,g,d,b,a,HM K l,HM K c⟩
def UH(ks:yag):List (List (yag)):=(Ut ks [0,1,2,3,4,5,6]).map λg=>g.map λG=>G.map Int.toNat
def ng(g:Tr):Tr:=(-g.1,-g.2.1,-g.2.2)
def nK(g x:Tr):Pj (ng g) x=- Pj g x:=by unfold Pj ng;grind
theorem Ei(f:Nat->Int):∀S:yag,∃M:Int,0<M/\∀i∈S,- f i<M
 |[]=>⟨1,by lia,by simp⟩
 |i::S=>by obtain⟨M,h,k⟩:=Ei f S;exact⟨M+(f i).natAbs,by lia,by grind⟩
def no5{X:Tr}(h:0<X.1)(H:In5 P X)(f:Pj g X=0)(b:Pj v X=0){S:yag}(a:S∈PV 7 5)(q:∀i∈S,0<Pj g (sT (P i))∨(Pj g (sT (P i))=0/\0<Pj v (sT (P i)))):False:=by
 obtain⟨M,c,d⟩:=Ei (λi=>Pj v (sT (P i))) S;have e:∀x:Tr,Pj (M*g.1+v.1 - 1,M*g.2.1+v.2.1,M*g.2.2+v.2.2) x=M*Pj g x+Pj v x - x.1:=λx=>by unfold Pj;grind
 have:=H S a (M*g.1+v.1 - 1,M*g.2.1+v.2.1,M*g.2.2+v.2.2) λi a=>by
  rw[e];have l:=d i a;show 0<=M*_+_ - 1;rcases q i a with q|⟨q,r⟩;have:=zCM (show 1<=Pj g (sT (P i))by lia) (Q7 c)
  lia
  lia
 rw[e,f,b]at this
 lia
def Oy{a b c d:Nat}(t:a<7)(o:b<7)(s:c<7)(j:d<7)(ab:a≠b)(r:a≠c)(ad:a≠d)(n:b≠c)(l:b≠d)(q:c≠d):∃A B T,[A,B,T]∈UH [2,2,3]/\a∈A/\b∈A/\c∈B/\d∈B/\∀x ∈ [a,b],∀y ∈ [c,d],∃S∈PV 7 5,∀i∈S,i=x∨i=y∨i∈T:=by
 have h:∀b∈List.range 7,∀a∈List.range b,∀d∈List.range 7,∀c∈List.range d,a≠c->a≠d->b≠c->b≠d->[[a,b],[c,d],(List.range 7).filter λi=>!([a,b,c,d].contains i)]∈UH [2,2,3]/\∀x ∈ [a,b],∀y ∈ [c,d],((List.range 7).filter λi=>!([a,b,c,d].contains i) || i==x || i==y)∈PV 7 5:=by decide +kernel
 have g:∀a b c d,a<b->b<7->c<d->d<7->a≠c->a≠d->b≠c->b≠d->∃T,[[a,b],[c,d],T]∈UH [2,2,3]/\∀x ∈ [a,b],∀y ∈ [c,d],∃S∈PV 7 5,∀i∈S,i=x∨i=y∨i∈T:=λa b c d ab o q j u p f e=>by obtain⟨k,m⟩:=h b (U2.mpr o) a (U2.mpr ab) d (U2.mpr j) c (U2.mpr q) u p f e;refine⟨_,k,λx f y e=>⟨_,m x f y e,λi w=>?_⟩⟩;grind
 rcases Y6 ab with p|p<;>rcases Y6 q with q|q;obtain⟨T,k,m⟩:=g a b c d p o q j r ad n l;exact⟨_,_,T,k,by simp,by simp,by simp,by simp,m⟩;obtain⟨T,k,m⟩:=g a b d c p o q s ad r l n;exact⟨_,_,T,k,by simp,by simp,by simp,by simp,λx f y e=>m x f y (by simp at e ⊢;lia)⟩;obtain⟨T,k,m⟩:=g b a c d p t q j n l r ad;exact⟨_,_,T,k,by simp,by simp,by simp,by simp,λx f y e=>m x (by simp at f ⊢;lia) y e⟩;obtain⟨T,k,m⟩:=g b a d c p t q s l n ad r;exact⟨_,_,T,k,by simp,by simp,by simp,by simp,λx f y e=>m x (by simp at f ⊢;lia) y (by simp at e ⊢;lia)⟩
def M8(c:(PY e f).1≠0)(i:Pj e z=0)(d:Pj f z=0)(j:Pj e X=0)(h:Pj f X=0)(g:Tr):z.1*Pj g X=X.1*Pj g z:=by
 have k:∀y:Tr,Pj e y=0->Pj f y=0->(PY e f).1*y.2.1=y.1*(PY e f).2.1/\(PY e f).1*y.2.2=y.1*(PY e f).2.2:=λy b a=>by unfold Pj at b a;unfold PY;grind
 obtain⟨q,p⟩:=k z i d;obtain⟨o,n⟩:=k X j h;have m:z.1*X.2.1=X.1*z.2.1:=zDL c (by grind);have l:z.1*X.2.2=X.1*z.2.2:=zDL c (by grind);unfold Pj;grind
def BV{P:Nat->Sp}(c:(PY e f).1≠0)(h:Pj e X=0)(d:Pj f X=0)(j:Pj e (sT (P a))=0)(i:Pj e (sT (P b))=0)(g:Tr):(Pj f (sT (P b)) - Pj f (sT (P a)))*Pj g X=X.1*(Pj f (sT (P b))*Pj g (sT (P a)) - Pj f (sT (P a))*Pj g (sT (P b))):=by have:=M8 (z:=Qs f (sT (P a)) (sT (P b))) c (by grind [qy]) (by rw[qy];grind) h d g;rw[qy]at this;rw[<- this];unfold Qs sT;grind
def BW{P:Nat->Sp}{X:Tr}(h:0<X.1)(c:(PY e f).1≠0)(n:Pj e X=0)(k:Pj f X=0)(m:Pj e (sT (P a))=0)(l:Pj e (sT (P b))=0)(r:Pj f (sT (P a))<0)(j:0<Pj f (sT (P b)))(i:0<=Pj g (sT (P a)))(d:0<=Pj g (sT (P b))):0<=Pj g X:=by have e:=BV c n k m l g;have p:=Rv (Q7 j) i;have c:=Rv (show 0<=- Pj f (sT (P a))by lia) d;rw[Uk]at c;have o:=Rv (Q7 h) (show 0<=Pj f (sT (P b))*Pj g (sT (P a)) - Pj f (sT (P a))*Pj g (sT (P b))by lia);exact Vy.mp λq=>by have:=Y1 (show 0<Pj f (sT (P b)) - Pj f (sT (P a))by lia) q;lia
def w4{P:Nat->Sp}{X:Tr}(h:0<X.1)(c:(PY e f).1≠0)(n:Pj e X=0)(k:Pj f X=0)(m:Pj e (sT (P a))=0)(l:Pj e (sT (P b))=0)(j:Pj f (sT (P a))<0)(i:0<Pj f (sT (P b)))(d:Pj g X=0):0<Pj g (sT (P a))∨0<Pj g (sT (P b))∨Pj g (sT (P b))=0:=by
 have e:=BV c n k m l g;rw[d,XW]at e;have o:=(Ua.mp e.symm).resolve_left (by lia);by_cases q:Pj g (sT (P b))<0;have:=ZD j q;exact .inl (Ud.mp λz=>by have:=Rv (Q7 i) (show 0<=- Pj g (sT (P a))by lia);rw[Int.mul_neg]at this;lia)
 lia
def ZA(X g:Tr):Tr:=(X.1*g.1 - Pj g X,X.1*g.2.1,X.1*g.2.2)
def F4(X g x:Tr):Pj (ZA X g) x=X.1*Pj g x - Pj g X*x.1:=by unfold ZA Pj;grind
def tvA{X:Tr}(h:0<X.1)(H:In5 P X)(l:Pj e X=0)(o:Pj f X=0)(c:(PY e f).1≠0)(s:∃S∈PV 7 5,∀i∈S,0<=Pj e (sT (P i)))(r:∃S∈PV 7 5,∀i∈S,0<=Pj f (sT (P i)))(n:∀i,i<7->¬(Pj e (sT (P i))=0/\Pj f (sT (P i))=0)):∃g∈UH [2,2,3],mT (g.map λG=>G.map P) X:=by
 have k:∀(e f:Tr),Pj e X=0->Pj f X=0->(∃S∈PV 7 5,∀i∈S,0<=Pj e (sT (P i)))->(∀i,i<7->¬(Pj e (sT (P i))=0/\Pj f (sT (P i))=0))->∃b,b<7/\Pj e (sT (P b))=0/\0<Pj f (sT (P b)):=λe f l o ⟨S,p,q⟩ n=>ZC λd=>no5 h H l (v:=ng f) (by rw[nK];lia) p λi j=>by
  have a:=(bW p).2 i j;have:=q i j;rw[nK];by_cases z:Pj e (sT (P i))=0;have:=n i a;exact .inr ⟨z,Ud.mp λy=>d ⟨i,a,z,by lia⟩⟩
  lia
 have d:Pj (ng f) X=0:=by rw[nK];lia
 have m:Pj (ng e) X=0:=by rw[nK];lia
 obtain⟨a,M,G,A⟩:=k e (ng f) l d s λi j=>by rw[nK];have:=n i j;lia
 obtain⟨b,J,E,w⟩:=k e f l o s n;obtain⟨u,x,s,B⟩:=k f (ng e) o m r λi j=>by rw[nK];have:=n i j;lia
 obtain⟨d,I,t,C⟩:=k f e o l r λi j=>by have:=n i j;lia
 rw[nK]at A B;obtain⟨A,B,T,m,L,B,n,dB,A⟩:=Oy M J x I (λz=>by subst z;lia) (λz=>by subst z;lia) (λz=>by subst z;lia) (λz=>by subst z;lia) (λz=>by subst z;lia) (λz=>by subst z;lia);have Q:(PY f e).1=-(PY e f).1:=by unfold PY;grind
 have r:(PY f e).1≠0:=by lia
 refine⟨_,m,h,λN k g m=>?_⟩;simp only[QO,XT,Qg,Uw,or_false]at k;rcases k with rfl|rfl|rfl;exact BW h c l o G E (by lia) w (m (P a) (P6.mpr ⟨a,L,rfl⟩)) (m (P b) (P6.mpr ⟨b,B,rfl⟩));exact BW h r o l s t (by lia) C (m (P u) (P6.mpr ⟨u,n,rfl⟩)) (m (P d) (P6.mpr ⟨d,dB,rfl⟩));refine Vy.mp λO=>?_
 have n:Pj (ZA X g) X=0:=by rw[F4];grind
 have z:∀i∈T,0<Pj (ZA X g) (sT (P i)):=λi j=>by rw[F4];have:=Rv (Q7 h) (m (P i) (P6.mpr ⟨i,j,rfl⟩));show 0<X.1*Pj g (sT (P i)) - Pj g X*1;have e:Pj g (sT (P i))=Pj g (1,(P i).1,(P i).2):=rfl;rw[e];lia
 have k:∀x:Tr,Pj (e.1+f.1,e.2.1+f.2.1,e.2.2+f.2.2) x=Pj e x+Pj f x:=λx=>by unfold Pj;grind
 obtain⟨x,m,B⟩:∃x ∈ [a,b],0<Pj (ZA X g) (sT (P x))∨(Pj (ZA X g) (sT (P x))=0/\0<Pj (e.1+f.1,e.2.1+f.2.1,e.2.2+f.2.2) (sT (P x))):=by
  rcases w4 h c l o G E (by lia) w n with q|q|q;exact⟨a,by simp,.inl q⟩;exact⟨b,by simp,.inl q⟩;exact⟨b,by simp,.inr ⟨q,by rw[k];lia⟩⟩
 obtain⟨y,a,c⟩:∃x ∈ [u,d],0<Pj (ZA X g) (sT (P x))∨(Pj (ZA X g) (sT (P x))=0/\0<Pj (e.1+f.1,e.2.1+f.2.1,e.2.2+f.2.2) (sT (P x))):=by
  rcases w4 h r o l s t (by lia) C n with q|q|q;exact⟨u,by simp,.inl q⟩;exact⟨d,by simp,.inl q⟩;exact⟨d,by simp,.inr ⟨q,by rw[k];lia⟩⟩
 obtain⟨S,p,b⟩:=A x m y a;refine no5 h H n (v:=(e.1+f.1,e.2.1+f.2.1,e.2.2+f.2.2)) (by rw[k];lia) p λi j=>?_
 rcases b i j with rfl|rfl|q;exact B;exact c;exact .inl (z i q)
def zy{l:yag}(h:l.Pairwise (·<·)):l.Nodup:=h.imp (by lia)
def QS(p w:Sp):Int:=p.1*w.1+p.2*w.2
def gO(o p:Sp):Tr:=(-(p.1*o.1+p.2*o.2),p.1,p.2)
def tY(o p q:Sp):Pj (gO o p) (sT q)=QS p (sb q o):=by unfold Pj gO sT QS sb;grind
def Vd(P:Nat->Sp)(o:Sp)(T:yag):Prop:=∀p:Sp,¬∀ i∈T,0<QS p (sb (P i) o)
def DW(h:Vd P o T)(b:∀i∈T,0<=Pj g (sT (P i))):0<=Pj g (sT o):=Vy.mp λc=>h (vc g) λi a=>by
 have:=b i a;have e:QS (vc g) (sb (P i) o)=Pj g (sT (P i)) - Pj g (sT o):=by unfold QS vc sb Pj sT;grind
 lia
def Gh{S:yag}(m:S ≠ [])(h:Vd P o S):∃a∈S,∃b∈S,∃c∈S,Vd P o [a,b,c]:=by
 obtain⟨l,r⟩:=vJ (S.map P);have e:S.map P ≠ []:=by simp_all
 have B:lP (sT o) (S.map P):=pM (bV r) e (show(0:Int)<1 by decide) λb f=>DW h λi d=>i4 (bV r) e f (P6.mpr ⟨i,d,rfl⟩)
 have f:∀a b c,lP (sT o) [P a,P b,P c]->Vd P o [a,b,c]:=λa b c B p a=>by
  have e:∀x:Tr,Pj ((gO o p).1 - 1,(gO o p).2.1,(gO o p).2.2) x=Pj (gO o p) x - x.1:=λx=>by unfold Pj;grind
  have q:=rZ (show 0<(sT o).1 from(by decide:(0:Int)<1)) B ((gO o p).1 - 1,(gO o p).2.1,(gO o p).2.2) λx g=>by
   obtain⟨y,c,rfl⟩:=P6.mp g;have:0<QS p (sb y o):=by
    simp at c;rcases c with rfl|rfl|rfl
    all_goals simp_all
   rw[e,tY];show 0<=_ - (1:Int)
   lia
  rw[e,tY]at q;have z:QS p (sb o o)=0:=by unfold QS sb;grind
  rw[z]at q;exact absurd (show(0:Int)<=0 - 1 from q) (by decide)
 rcases B with⟨p,a,b⟩| ⟨p,a,q,e,b⟩| ⟨p,a,q,e,r,g,b⟩;obtain⟨i,d,rfl⟩:=P6.mp a;exact⟨i,d,i,d,i,d,f i i i (.inl ⟨_,by simp,b⟩)⟩;obtain⟨i,d,rfl⟩:=P6.mp a;obtain⟨j,c,rfl⟩:=P6.mp e;exact⟨i,d,j,c,j,c,f i j j (.inr (.inl ⟨_,by simp,_,by simp,b⟩))⟩;obtain⟨i,d,rfl⟩:=P6.mp a;obtain⟨j,c,rfl⟩:=P6.mp e;obtain⟨k,a,rfl⟩:=P6.mp g;exact⟨i,d,j,c,k,a,f i j k (.inr (.inr ⟨_,by simp,_,by simp,_,by simp,b⟩))⟩
def pig:∀l:yag,l.length<=6->∃x,x<7/\x∉l:=by
 have c:∀(Z l:yag),Z.Nodup->(∀x∈Z,x∈l)->Z.length<=l.length:=λZ=>by
  induction Z with
  |nil=>simp
  |cons z Z ih =>
   intro l a h;obtain⟨d,b⟩:=Wk.mp a;have:=ih (l.erase z) b (by grind);grind
 intro l h;refine ZC λn=>?_
 have:=c (List.range 7) l List.nodup_range (by simp_all);grind
def Ox{i a b c:Nat}(p:i<7)(l:a<7)(h:b<7)(f:c<7)(ab:a≠b)(j:a≠c)(g:b≠c)(o:i≠a)(n:i≠b)(m:i≠c):∃B C,[[i],B,C]∈UH [1,3,3]/\a∈B/\b∈B/\c∈B/\∀k,k<7->k≠i->k≠a->k≠b->k≠c->k∈C:=by
 have e:∀a∈List.range 7,∀b∈List.range 7,∀c∈List.range 7,a≠b->a≠c->b≠c->((List.range 7).filter λi=>i==a || i==b || i==c)∈PV 7 3:=by decide +kernel
 have d:∀T∈PV 7 3,∀i∈List.range 7,i∉T->[[i],T,(List.range 7).filter λk=>!(k==i || T.contains k)]∈UH [1,3,3]:=by decide +kernel
 refine⟨_,_,d _ (e a (by simp_all) b (by simp_all) c (by simp_all) ab j g) i (by simp_all) (by simp_all),by simp[l],by simp[h],by simp[f],by simp_all⟩
def Ru(i k:Nat):Nat:=if k<i then k else k+1
def D5(a b c d e:Bool):Bool:=a.toNat+b.toNat+c.toNat+d.toNat+e.toNat==2 || a.toNat+b.toNat+c.toNat+d.toNat+e.toNat==3
def tb(L:List Bool)(a b:Nat):Bool:=if a<b then L.getD (a*(11 - a) / 2+b - a - 1) false else !(L.getD (b*(11 - b) / 2+a - b - 1) false)
def cy(f:Nat->Nat->Bool):yag->Bool
 |[a,b,c]=>(f a b && f b c && f c a) || (f b a && f c b && f a c)
 |_=>false
def off(s:yag):yag:=(List.range 6).filter λi=>!s.contains i
def O5:∀o n m l k,D5 o n m l k=true->∀j i h g,D5 (!o) j i h g=true->∀f e d,D5 (!n) (!j) f e d=true->∀c b,D5 (!m) (!i) (!f) c b=true->∀a,D5 (!l) (!h) (!e) (!c) a=true->D5 (!k) (!g) (!d) (!b) (!a)=true →
  ((PV 6 3).any λs=>cy (tb [o,n,m,l,k,j,i,h,g,f,e,d,c,b,a]) s && cy (tb [o,n,m,l,k,j,i,h,g,f,e,d,c,b,a]) (off s))=true:=by decide +kernel
def OD:∀f e d c b a:Bool,(∀Q∈PV 6 5,¬∀ k∈Q,[f,e,d,c,b,a].getD k false=true)->f.toNat+e.toNat+d.toNat+c.toNat+b.toNat+a.toNat<=4:=by decide +kernel
def OV:∀i∈List.range 7,∀Q∈PV 6 5,Q.map (Ru i)∈PV 7 5:=by decide +kernel
def Jk:∀i∈List.range 7,∀j∈List.range 7,i≠j->((List.range 7).filter λk=>!(k==i || k==j))∈PV 7 5:=by decide +kernel
def NS{e d c b a p o g3 n m l k j i f:Bool}(A:e=true->p=true)(z:d=true->o=true)(y:c=true->g3=true)(p4:b=true->n=true)(w:a=true->m=true)(u:e=false->l=true)(t:d=false->k=true)(s:c=false->j=true)(r:b=false->i=true)(q:a=false->f=true)
  (g:p.toNat+o.toNat+g3.toNat+n.toNat+m.toNat<=3) (h:l.toNat+k.toNat+j.toNat+i.toNat+f.toNat<=3):D5 e d c b a=true:=by
 have k:∀{x g h:Bool},(x=true->g=true)->(x=false->h=true)->x.toNat<=g.toNat/\1<=x.toNat+h.toNat:=by simp_all
 have:=k A u;have:=k z t;have:=k y s;have:=k p4 r;have:=k w q;unfold D5
 lia
def h6(H:In5 P (sT (P i0))){S:yag}(a:S∈PV 7 5)(h:∀i∈S,0<QS p (sb (P i) (P i0))∨(QS p (sb (P i) (P i0))=0/\0<QS q (sb (P i) (P i0)))):False:=by
 have z:∀p:Sp,Pj (gO (P i0) p) (sT (P i0))=0:=λp=>by rw[tY];unfold QS sb;grind
 exact no5 (show(0:Int)<1 by decide) H (z p) (z q) a λi a=>by rw[tY,tY];exact h i a
def vn{w:Sp}(h:w≠(0,0)):0<QS w w:=by have:=sq_pos h;unfold Qf at this;unfold QS;exact this
def Al{d a b c:Nat}(l:d<7)(u:a<7)(r:b<7)(o:c<7)(ab:a≠b)(s:a≠c)(p:b≠c)(j:d≠a)(i:d≠b)(h:d≠c)(f:Vd P (P d) [a,b,c]){T:yag}(n:∀k∈T,k<7/\k≠d/\k≠a/\k≠b/\k≠c)(e:Vd P (P d) T):∃g∈UH [1,3,3],mT (g.map λG=>G.map P) (sT (P d)):=by
 obtain⟨B,C,m,t,q,k,c⟩:=Ox l u r o ab s p j i h;refine⟨_,m,show(0:Int)<1 by decide,λw a g b=>?_⟩;simp only[QO,XT,Qg,Uw,or_false]at a;rcases a with rfl|rfl|rfl;exact b (P d) (by simp);refine DW f λi a=>b (P i) (P6.mpr ⟨i,?_,rfl⟩)
 simp only[Qg,Uw,or_false]at a;rcases a with rfl|rfl|rfl;exact t;exact q;exact k;exact DW e λi a=>b (P i) (P6.mpr ⟨i,by obtain⟨g,f,e,d,b⟩:=n i a;exact c i g f e d b,rfl⟩)
def O6{d j:Nat}(l:d<7)(H:In5 P (sT (P d)))(h:j<7)(a:j≠d)(m:sb (P j) (P d)=(0,0)):∃g∈UH [1,3,3],mT (g.map λG=>G.map P) (sT (P d)):=by
 have f:=Jk d (U2.mpr l) j (U2.mpr h) a.symm;have v:Vd P (P d) ((List.range 7).filter λk=>!(k==d || k==j)):=λp g=>h6 H (q:=p) f λi a=>.inl (g i a)
 obtain⟨a,s,b,r,c,q,i⟩:=Gh (λe=>by rw[e]at f;exact absurd (bW f).1 (by decide)) v;obtain⟨x,f,o⟩:=pig [d,j,a,b,c] (by simp);obtain⟨y,e,n⟩:=pig [d,j,a,b,c,x] (by simp);simp only[Qg,Uw,or_false,not_or]at o n;simp only[Yp,U2,zCf,zDB,zCQ]at s r q;refine Al l h f e (by lia) (by lia) (by lia) (by lia) (by lia) (by lia) (λp g=>?_) (λk a=>?_) i;have:=g j (by simp);rw[m]at this;unfold QS at this;simp at this;simp only[Qg,Uw,or_false]at a;rcases a with rfl|rfl|rfl<;>lia
def O7{b a o:Nat}(n:b<7)(H:In5 P (sT (P b)))(j:a<7)(f:o<7)(I:a≠b)(E:o≠b)(C:tn (sb (P a) (P b)) (sb (P o) (P b))=0)(r:QS (sb (P a) (P b)) (sb (P o) (P b))<0)(c:sb (P a) (P b)≠(0,0)):∃g∈UH [1,3,3],mT (g.map λG=>G.map P) (sT (P b)):=by
 have l:=vn c;have A:a≠o:=λe=>by subst e;lia
 have c:∀p,QS (sb (P a) (P b)) (sb (P a) (P b))*QS p (sb (P o) (P b))=QS (sb (P a) (P b)) (sb (P o) (P b))*QS p (sb (P a) (P b)):=λp=>by unfold QS tn at *;grind
 have t:∀p,0<QS p (sb (P a) (P b))∨0<QS p (sb (P o) (P b))∨QS p (sb (P a) (P b))=0:=λp=>by
  by_cases q:QS p (sb (P a) (P b))<0;have:=ZD r q;rw[<- c]at this;exact .inr (.inl (Ud.mp λy=>by have:=Rv (Q7 l) (show 0<=- QS p (sb (P o) (P b))by lia);rw[Int.mul_neg]at this;lia))
  lia
 have s:Vd P (P b) ((List.range 7).filter λk=>!(k==b || k==a || k==o)):=λp h=>by
  have d:∀x y,x<7->y<7->((x=a/\y=o)∨(x=o/\y=a))->¬(0<QS p (sb (P x) (P b))∨(QS p (sb (P x) (P b))=0/\0<QS (sb (P a) (P b)) (sb (P x) (P b)))):=λx y m i B g=>h6 H (p:=p) (q:=sb (P a) (P b)) (Jk b (U2.mpr n) y (U2.mpr i) (by lia)) λi u=>by
   simp only[Yp,U2,zCf,zDB,zCQ]at u;by_cases e:i=x;subst e;exact g;refine .inl (h i ?_);simp only[Yp,U2,zCf,zDB,zCQ]
   lia
  rcases t p with q|q|q;exact d a o j f (.inl ⟨rfl,rfl⟩) (.inl q);exact d o a f j (.inr ⟨rfl,rfl⟩) (.inl q);exact d a o j f (.inl ⟨rfl,rfl⟩) (.inr ⟨q,l⟩)
 obtain⟨g,e,d⟩:=pig [b,a,o] (by simp);simp only[Qg,Uw,or_false,not_or]at d;obtain⟨u,z,t,y,q,w,i⟩:=Gh (S:=(List.range 7).filter λk=>!(k==b || k==a || k==o)) (List.ne_nil_of_mem (a:=g) (by simp[e,d])) s;obtain⟨x,m,d⟩:=pig [b,a,o,u,t,q] (by simp);simp only[Qg,Uw,or_false,not_or]at d;simp only[Yp,U2,zCf,zDB,zCQ]at z y w;refine Al n j f m A (by lia) (by lia) (by lia) (by lia) (by lia) (λp h=>?_) (λk b=>?_) i;have d:=h a (by simp);have a:=h o (by simp);have:=c p;have:=U3 l a;have:=Wh r d
 lia
 simp only[Qg,Uw,or_false]at b;rcases b with rfl|rfl|rfl<;>lia
def V3(w:Nat->Sp)(a b c:Nat):Prop:=∀p:Sp,0<QS p (w a)->0<QS p (w b)->0<QS p (w c)->False
def tbA{A:Nat->Nat->Bool}(c:∀a b,a<b->A b a=!A a b){a:Nat}(e:a<6)(d:b<6)(n:a≠b):tb [A 0 1,A 0 2,A 0 3,A 0 4,A 0 5,A 1 2,A 1 3,A 1 4,A 1 5,A 2 3,A 2 4,A 2 5,A 3 4,A 3 5,A 4 5] a b=A a b:=by
 rcases a with _|_|_|_|_|_|a<;>rcases b with _|_|_|_|_|_|b
 all_goals first|lia|rfl|exact Eq.symm ((c _ _ (by lia)).trans rfl)|(refine Eq.symm ((c _ _ ?_).trans ?_);lia;rfl)
def cyT{A:Nat->Nat->Bool}(e:∀a b,a<b->A b a=!A a b){l:yag}(h6:∀k∈l,k<6)(i:l.Nodup)(h:cy (tb [A 0 1,A 0 2,A 0 3,A 0 4,A 0 5,A 1 2,A 1 3,A 1 4,A 1 5,A 2 3,A 2 4,A 2 5,A 3 4,A 3 5,A 4 5]) l=true):∃a b c,l=[a,b,c]/\((A a b=true/\A b c=true/\A c a=true)∨(A a c=true/\A c b=true/\A b a=true)):=by
 rcases l with _|⟨a,_|⟨b,_|⟨c,_|⟨d,r⟩⟩⟩⟩;cases h;cases h;cases h;have g:=h6 a (by simp);have f:=h6 b (by simp);have d:=h6 c (by simp);simp only[Wk,Qg,Uw,or_false,not_or]at i;refine⟨a,b,c,rfl,?_⟩;unfold cy at h;dsimp only at h;rw[tbA e g f (by lia),tbA e f d (by lia),tbA e d g (by lia),tbA e f g (by lia),tbA e d f (by lia),tbA e g d (by lia)]at h;simp only[Bool.or_eq_true,Yo]at h;rcases h with⟨⟨x,y⟩,z⟩| ⟨⟨x,y⟩,z⟩;exact .inl ⟨x,y,z⟩;exact .inr ⟨z,y,x⟩;cases h
def Nz(G:Nat->Nat){a:Nat}(h:a<6):G 0+G 1+G 2+G 3+G 4+G 5=G a+(G (Ru a 0)+G (Ru a 1)+G (Ru a 2)+G (Ru a 3)+G (Ru a 4)):=by
 rcases a with _|_|_|_|_|_|a
 all_goals first|lia|(simp[Ru];lia)
def WV(w:Nat->Sp)(p q:Sp)(k:Nat):Bool:=decide (0<QS p (w k)∨(QS p (w k)=0/\0<QS q (w k)))
def Og{w:Nat->Sp}(j:∀a b,a<6->b<6->tn (w a) (w b)=0->0<QS (w a) (w b))(cnt:∀p q:Sp,(WV w p q 0).toNat+(WV w p q 1).toNat+(WV w p q 2).toNat+(WV w p q 3).toNat+(WV w p q 4).toNat+(WV w p q 5).toNat<=4) :
  ∃ a b c,[a,b,c]∈PV 6 3/\V3 w a b c/\∃d e f,off [a,b,c]=[d,e,f]/\V3 w d e f:=by
 obtain⟨A,f⟩:∃A:Nat->Nat->Bool,A=λa b=>if a<b then decide (0<=tn (w a) (w b))else !decide (0<=tn (w b) (w a)):=⟨_,rfl⟩
 have g:∀a b,A a b=true->0<=tn (w a) (w b)/\(tn (w a) (w b)=0->a<b):=λa b h=>by
  have:=cI (w a) (w b);rw[f]at h;dsimp only at h;split at h;exact⟨WZ h,λ_=>by assumption⟩;have:=of_decide_eq_false (zCf _ ▸ h)
  lia
 have z:∀a b,A a b=false->tn (w a) (w b)<=0:=λa b h=>by have:=cI (w a) (w b);rw[f]at h;dsimp only at h;split at h;have:=of_decide_eq_false h;lia;have:=WZ (Bool.not_eq_false' _ ▸ h);lia
 have d:∀a b,a<b->A b a=!A a b:=λa b h=>by rw[f];simp only[h,if_true,show¬b<a by lia,if_false]
 clear f;have f:∀a,a<6->D5 (A a (Ru a 0)) (A a (Ru a 1)) (A a (Ru a 2)) (A a (Ru a 3)) (A a (Ru a 4))=true:=λa i=>by
  have o:∀b,QS (-(w a).2,(w a).1) (w b)=tn (w a) (w b):=λb=>by unfold QS tn;grind
  have n:∀b,QS ((w a).2,-(w a).1) (w b)=- tn (w a) (w b):=λb=>by unfold QS tn;grind
  have l:∀b,b<6->A a b=true->WV w (-(w a).2,(w a).1) (w a) b=true:=λb k h=>V6 (by
   rw[o];have:=g a b h;have:=j a b i k
   lia)
  have m:∀b,b<6->A a b=false->WV w ((w a).2,-(w a).1) (w a) b=true:=λb k h=>V6 (by
   rw[n];have:=z a b h;have:=j a b i k
   lia)
  have t:tn (w a) (w a)=0:=mR (w a);have s:WV w (-(w a).2,(w a).1) (w a) a=true:=V6 (.inr ⟨by rw[o,t],j a a i i t⟩);have r:WV w ((w a).2,-(w a).1) (w a) a=true:=V6 (.inr ⟨by rw[n,t];rfl,j a a i i t⟩);have o:=cnt (-(w a).2,(w a).1) (w a);have n:=cnt ((w a).2,-(w a).1) (w a);rw[Nz (λk=>(WV w (-(w a).2,(w a).1) (w a) k).toNat) i,s]at o;rw[Nz (λk=>(WV w ((w a).2,-(w a).1) (w a) k).toNat) i,r]at n;have i:∀k,k<5->Ru a k<6:=λk r=>by unfold Ru;split<;>lia
  have s:true.toNat=1:=rfl;rw[s]at o n;exact NS (l _ (i 0 (by decide))) (l _ (i 1 (by decide))) (l _ (i 2 (by decide))) (l _ (i 3 (by decide))) (l _ (i 4 (by decide))) (m _ (i 0 (by decide))) (m _ (i 1 (by decide))) (m _ (i 2 (by decide))) (m _ (i 3 (by decide))) (m _ (i 4 (by decide))) (Nat.le_of_add_le_add_left o) (Nat.le_of_add_le_add_left n)
 have u:∀a b c,A a b=true->A b c=true->A c a=true->V3 w a b c:=λa b c y x l p s m i=>by
  obtain⟨G,E⟩:=g a b y;obtain⟨C,B⟩:=g b c x;obtain⟨o,n⟩:=g c a l;clear g z d f cnt j y x l;have e:tn (w b) (w c)*QS p (w a)+tn (w c) (w a)*QS p (w b)+tn (w a) (w b)*QS p (w c)=0:=by unfold tn QS;grind
  have N:=Rv C (Q7 s);have M:=Rv o (Q7 m);have L:=Rv G (Q7 i);have J:=B ((Ua.mp (show tn (w b) (w c)*QS p (w a)=0 by lia)).resolve_right (by lia));have I:=n ((Ua.mp (show tn (w c) (w a)*QS p (w b)=0 by lia)).resolve_right (by lia));have H:=E ((Ua.mp (show tn (w a) (w b)*QS p (w c)=0 by lia)).resolve_right (by lia))
  lia
 have g:∀{l:yag},(∀k∈l,k<6)->l.Nodup->cy (tb [A 0 1,A 0 2,A 0 3,A 0 4,A 0 5,A 1 2,A 1 3,A 1 4,A 1 5,A 2 3,A 2 4,A 2 5,A 3 4,A 3 5,A 4 5]) l=true->∃a b c,l=[a,b,c]/\V3 w a b c:=λh6 j h=>by
  obtain⟨a,b,c,e,q⟩:=cyT d h6 j h;refine⟨a,b,c,e,?_⟩;rcases q with⟨x,y,z⟩| ⟨x,y,z⟩;exact u a b c x y z;exact λp s m i=>u a c b x y z p s i m
 have t:=O5 (A 0 1) (A 0 2) (A 0 3) (A 0 4) (A 0 5) (f 0 (by decide)) (A 1 2) (A 1 3) (A 1 4) (A 1 5) (by rw[<- d 0 1 (by decide)];exact f 1 (by decide)) (A 2 3) (A 2 4) (A 2 5) (by rw[<- d 0 2 (by decide),<- d 1 2 (by decide)];exact f 2 (by decide))
  (A 3 4) (A 3 5) (by rw[<- d 0 3 (by decide),<- d 1 3 (by decide),<- d 2 3 (by decide)];exact f 3 (by decide)) (A 4 5) (by rw[<- d 0 4 (by decide),<- d 1 4 (by decide),<- d 2 4 (by decide),<- d 3 4 (by decide)];exact f 4 (by decide)) (by rw[<- d 0 5 (by decide),<- d 1 5 (by decide),<- d 2 5 (by decide),<- d 3 5 (by decide),<- d 4 5 (by decide)];exact f 5 (by decide))
 obtain⟨s,d,t⟩:=List.any_eq_true.mp t;obtain⟨h,f⟩:=Bool.and_eq_true_iff.mp t;obtain⟨a,b,c,rfl,e⟩:=g (bW d).2 (zy (nF d)) h;exact⟨a,b,c,d,e,g (l:=off [a,b,c]) (λk r=>by unfold off at r;simp at r;exact r.1) (List.nodup_range.filter _) f⟩
def tvB{l:Nat}(s:l<7)(H:In5 P (sT (P l))):∃g∈UH [1,3,3],mT (g.map λG=>G.map P) (sT (P l)):=by
 by_cases z:∃j,j<7/\j≠l/\sb (P j) (P l)=(0,0);obtain⟨j,c,b,a⟩:=z;exact O6 s H c b a;have r:∀j,j<7->j≠l->sb (P j) (P l)≠(0,0):=λj b a e=>z ⟨j,b,a,e⟩
 by_cases u:∃a o,a<7/\o<7/\a≠l/\o≠l/\tn (sb (P a) (P l)) (sb (P o) (P l))=0/\QS (sb (P a) (P l)) (sb (P o) (P l))<0;obtain⟨a,o,c,g,b,m,i,d⟩:=u;exact O7 s H c g b m i d (r a c b);have g:∀k,k<6->Ru l k<7/\Ru l k≠l:=λk n=>by unfold Ru;split<;>lia
 have m:∀j k,j≠k->Ru l j≠Ru l k:=λj k h=>by unfold Ru;split<;>split<;>lia
 obtain⟨a,b,c,t,B,d,e,f,C,A⟩:=Og (w:=λk=>sb (P (Ru l k)) (P l)) (λa o j p i=>by
  have w:¬QS (sb (P (Ru l a)) (P l)) (sb (P (Ru l o)) (P l))<0:=λq=>u ⟨_,_,(g a j).1,(g o p).1,(g a j).2,(g o p).2,i,q⟩
  have:=U3 (vn (r _ (g a j).1 (g a j).2)) (vn (r _ (g o p).1 (g o p).2));refine Ud.mp λq=>?_
  have o:=ZQ q (Vy.mp w);have e:∀x y:Sp,QS x x*QS y y=QS x y*QS x y+tn x y*tn x y:=λx y=>by unfold QS tn;grind
  rw[e,o,i]at this;exact absurd this (by decide)) λp q=>OD _ _ _ _ _ _ λQ o h=>h6 H (p:=p) (q:=q) (OV l (U2.mpr s) Q o) λi i=>by
  obtain⟨k,n,rfl⟩:=P6.mp i;have E:=(bW o).2 k n;have:=h k n;rcases k with _|_|_|_|_|_|k
  all_goals first|exact WZ this|lia
 have h:=(bW t).2;have j:=h a (by simp);have q:=h b (by simp);have o:=h c (by simp);have r:=nF t;simp only[UK,Qg,Uw,or_false]at r;have w:=r.1 b (by simp);have u:=r.1 c (by simp);have t:=r.2.1 c (by simp);have i:∀{x y z:Nat},V3 (λk=>sb (P (Ru l k)) (P l)) x y z->Vd P (P l) [Ru l x,Ru l y,Ru l z]:=λv p h=>v p (h _ (by simp)) (h _ (by simp)) (h _ (by simp))
 refine Al s (g a j).1 (g b q).1 (g c o).1 (m a b (QU w)) (m a c (QU u)) (m b c (QU t)) (g a j).2.symm (g b q).2.symm (g c o).2.symm (i B) (λk n=>?_) (i A);obtain⟨x,h,rfl⟩:∃x ∈ [d,e,f],k=Ru l x:=by simp at n ⊢;exact n
 rw[<- C]at h;unfold off at h;simp at h;exact⟨(g x h.1).1,(g x h.1).2,m x a h.2.1,m x b h.2.2.1,m x c h.2.2.2⟩
def Iz{P:Nat->Sp}(b:∀i,i<7->WB 40 (P i)):∃g∈UH [1,3,3]++UH [2,2,3],∃X,mT (g.map λG=>G.map P) X:=by
 obtain⟨X,h,H,a⟩:=center b;rcases a with⟨i,a,rfl⟩| ⟨e,f,d,b,c,k,j⟩;obtain⟨g,m,C⟩:=tvB a H;exact⟨g,Vu _ m,_,C⟩;by_cases n:∃i,i<7/\Pj e (sT (P i))=0/\Pj f (sT (P i))=0;obtain⟨i,a,p,o⟩:=n;obtain⟨g,m,C⟩:=tvB a λS l g f=>by have:=H S l g f;have e:=M8 (z:=sT (P i)) c p o d b g;rw[show(sT (P i)).1=1 from rfl,Vx]at e;exact Vy.mp λq=>by have:=Y1 h q;lia
 exact⟨g,Vu _ m,_,C⟩;obtain⟨g,m,C⟩:=tvA h H d b c k j λi a z=>n ⟨i,a,z.1,z.2⟩
 exact⟨g,SO _ m,_,C⟩
def Tu(ps:yau)(g:List (yag)):yat:=g.map λG=>G.map λi=>ps.getD i (0,0)
def grO(ps:yau)(g:List (yag))(y:Tr):List (yag×yaf):=(g.zip ((Tu ps g).map (VB y))).map λz=>(z.2.1.map λk=>z.1.getD k 0,z.2.2)
def WW(qs:List (yag×yaf))(y:Tr):D:=.tup [.lst true (qs.map cU),PK y]
def Dt(ps:yau):List (List (yag))->Option (List (yag×yaf)×Tr)->Prop
 |[],r=>r=none
 |g::dl,r=>(∃y,HmR (Tu ps g) (i5 y ((Tu ps g).map (VB y)))/\r=some (grO ps g y,y))∨∃ a,HmR (Tu ps g) (vf a)/\Dt ps dl r
def nI:i5 y rs≠vf xs:=λh=>by simp[i5,vf]at h
def E8(h:i5 y rs=i5 z xs):y=z:=by
 simp only[i5,D.tup.injEq,zDM]at h;have:=h.2.1;simp only[PK,T3,D.tup.injEq,zDM,D.int.injEq,and_true]at this
 lia
theorem EJ:∀{dl:List (List (yag))} {r s:Option (List (yag×yaf)×Tr)},Dt ps dl r->Dt ps dl s->r=s
 |[],_,_,h,k=>h.trans k.symm
 |g::dl,_,_,h,k=>by
  rcases h with⟨y,h,rfl⟩| ⟨d,h,b⟩<;>rcases k with⟨z,k,rfl⟩| ⟨c,k,a⟩;rw[E8 (zb h k)];exact absurd (zb h k) nI;exact absurd (zb k h) nI;exact EJ b a
theorem yP:∀{dl:List (List (yag))} {r:Option (List (yag×yaf)×Tr)},Dt ps dl r->(r=none->Dt ps dr s)->(∀x,r=some x->s=some x)->Dt ps (dl++dr) s
 |[],_,h,a,_=>a h
 |g::dl,_,h,a,b=>by
  rcases h with⟨y,h,rfl⟩| ⟨c,h,d⟩;exact .inl ⟨y,h,b _ rfl⟩;exact .inr ⟨c,h,yP d a b⟩
structure xR(ps:yau)(qs:List (yag×yaf))(y:Tr):Prop where
 pr:Pr y
 cb:CB 40 y
 two:qs.length=3
 ok:∀q∈qs,oV ps y q.1 q.2
 nd:(qs.flatMap (·.1)).Nodup
def y9{A:yag}{k:Nat}(h:k<A.length):A.getD k 0∈A:=by rw[Q2,Qw h];exact Uu h
def MG{ps:yau}{A:yag}(I:oV (A.map λi=>ps.getD i (0,0)) y a sh)(l:A.Pairwise (·<·))(h:∀i∈A,i<ps.length):oV ps y (a.map λk=>A.getD k 0) sh:=by
 have c:∀k∈a,k<A.length:=λk d=>by have:=I.lt k d;rwa [Pq]at this
 have e:(a.map λk=>A.getD k 0).map (λk=>ps.getD k (0,0))=a.map λk=>(A.map λi=>ps.getD i (0,0)).getD k (0,0):=by simp_all
 refine⟨by rw[Pq];exact I.l0,by rw[Pq];exact I.l3,by rw[Pq];exact I.ls,zCh.mpr (I.rise.imp_of_mem fun {a b} j i f=>?_),λk d=>?_,I.pos,I.bd,I.one,by rw[e];exact I.x,by rw[e];exact I.y⟩;have g:=c a j;have e:=c b i;rw[Q2,Qw g,Q2,Qw e];exact WA.mp l a b g e f;obtain⟨j,a,rfl⟩:=P6.mp d;exact h _ (y9 (c j a))
theorem uW:∀{g:List (yag)} {z:yag×(yag×yaf)},z∈g.zip ((Tu ps g).map (VB y))->z.1∈g/\z.2=VB y (z.1.map λi=>ps.getD i (0,0))
 |G::g,z,h=>by
  rcases Qg.mp (show z∈(G,VB y (G.map λi=>ps.getD i (0,0)))::g.zip ((Tu ps g).map (VB y))from h)with rfl|h
  simp_all
  have:=uW h;grind
def C8(M:xX (Tu ps g) y ((Tu ps g).map (VB y))){z:yag×(yag×yaf)}(h:z∈g.zip ((Tu ps g).map (VB y))):oV (z.1.map λi=>ps.getD i (0,0)) y z.2.1 z.2.2:=by
 obtain⟨a,c⟩:=uW h;obtain⟨i,b,e⟩:=WD a;have a:i<(Tu ps g).length:=by unfold Tu;simp_all
 have:=M.ok i a;have d:(Tu ps g)[i]?=some (z.1.map λi=>ps.getD i (0,0)):=by unfold Tu;simp_all
 simp_all
theorem zC{b:Type}(f:b->yag)(G:b->yag):∀a:List b,(a.map G).flatten.Nodup->(∀z∈a,(f z).Nodup/\∀k∈f z,k∈G z)->(a.flatMap f).Nodup
 |[],_,_=>by simp
 |z::a,h,q=>by obtain⟨_,b,g⟩:=zCg.mp h;refine zCg.mpr ⟨(q z (by simp)).1,zC f G a b λx c=>q x (by simp_all),λa e b d=>?_⟩;grind
def YZ:List (List (yag)):=UH [1,3,3]++UH [2,2,3]
def CY:∀g∈YZ,g.length=3/\(∀G∈g,G ≠ []/\G.length<=3/\(∀i∈G,i<7)/\G.Pairwise (·<·))/\g.flatten.Nodup:=by decide +kernel
def Jd{ps:yau}(i:7<=ps.length)(d:∀p∈ps,WB 40 p){g:List (yag)}(a:g∈YZ):LsOk (Tu ps g):=by
 obtain⟨b,ok,_⟩:=CY g a;have e:(Tu ps g).length=3:=by unfold Tu;grind
 refine⟨by lia,by lia,λx h=>?_,λx h=>?_,λx h p c=>?_⟩<;>obtain⟨G,f,rfl⟩:=P6.mp h
 all_goals grind
theorem By{ps:yau}(l:7<=ps.length)(f:∀p∈ps,WB 40 p):∀{dl:List (List (yag))} {r:Option (List (yag×yaf)×Tr)},(∀g∈dl,g∈YZ)->(∃g∈dl,∃X,mT (Tu ps g) X)->Dt ps dl r->∃qs y,r=some (qs,y)/\xR ps qs y
 |[],_,_,⟨_,h,_⟩,_=>by cases h
 |g::dl,r,c,⟨p,b,X,C⟩,h=>by
  have L:=Jd l f (c g T9);rcases h with⟨y,h,rfl⟩| ⟨a,h,n⟩;refine⟨_,_,rfl,?_⟩;rcases C6 L h with⟨z,e,M,_⟩| ⟨a,e,_⟩;cases E8 e;obtain⟨a,i,t⟩:=CY g (c _ T9);have j:(g.zip ((Tu ps g).map (VB y))).length=3:=by unfold Tu;rw[zCx,Pq,Pq,a];rfl
  have d:∀z∈g.zip ((Tu ps g).map (VB y)),oV ps y (z.2.1.map λk=>z.1.getD k 0) z.2.2:=λz a=>by have o:=i z.1 (uW a).1;exact MG (C8 M a) o.2.2.2 λi m=>by have:=o.2.2.1 i m;lia
  refine⟨M.pr,M.cb,by unfold grO;rw[Pq];exact j,λq i=>?_,?_⟩;obtain⟨z,a,rfl⟩:=P6.mp i;exact d z a;unfold grO;rw[List.flatMap_map];refine zC _ (·.1) _ (by grind [List.map_fst_zip,List.length_map]) λz a=>⟨zy (d z a).rise,λk d=>?_⟩
  obtain⟨j,i,rfl⟩:=P6.mp d;have:=(C8 M a).lt j i;rw[Pq]at this;exact y9 this;exact absurd e nI;rcases Qg.mp b with rfl|b;rcases C6 L h with⟨z,e,_⟩| ⟨s,e,B⟩;exact absurd e.symm nI;exact(MU B C).elim;exact By l f (λg q=>c g (R4 _ q)) ⟨p,b,X,C⟩ n
def BA{ps:yau}(b:7<=ps.length)(a:∀p∈ps,WB 40 p)(h:Dt ps YZ r):∃qs y,r=some (qs,y)/\xR ps qs y :=
 By b a (λ_ q=>q) (Iz λi c=>by grind) h
def Vl(g:List (yaf)):D:=.lst true (g.map λG=>.lst true (G.map D.int))
def OI:∀ks ∈ [[1,3,3],[2,2,3]],Ut ks [0,1,2,3,4,5,6]=(UH ks).map λg=>g.map λG=>G.map λ(k:Nat)=>(k:Int):=by decide +kernel
theorem kG{a b:Type}{f:a->List b}{B:Nat}:∀{l:List a},(∀x∈l,(f x).length<=B)->(l.flatMap f).length<=l.length*B
 |[],_=>by simp
 |x::l,h=>by
  rw[zC5,Sw,SQ,Nat.succ_mul];have:=h x (by simp);have:=kG λy q=>h y (R4 _ q)
  lia
def cR(ns a:yaf):(cL ns a).length<=ns.length:=List.length_filter_le _ _
def xH{n k:Nat}(a:n<=7)(b:k<=3):(PV n k).length<=35:=(by decide +kernel:∀n∈List.range 8,∀k∈List.range 4,(PV n k).length<=35) n (by grind) k (by grind)
theorem dY:∀(ks:yag) (ns:yaf),ns.length<=7->(∀k∈ks,k<=3)->(Ut ks ns).length<=35 ^ ks.length
 |[],_,_,_=>by simp[Ut]
 |k::ks,ns,c,d=>by
  have a:=kG (l:=PV ns.length k) (f:=λb=>(Ut ks (cL ns (bE ns b))).map (bE ns b::·)) (B:=35 ^ ks.length) λb _=>by rw[Pq];exact dY ks _ (QM (cR _ _) c) λk q=>d k (R4 _ q)
  refine QM a ?_;rw[SQ,Xb,Nat.mul_comm];exact Nat.mul_le_mul_left _ (xH c (d k (by simp)))
theorem qI:∀{ks:yag} {ns:yaf} {o:List (yaf)},o∈Ut ks ns->o.length=ks.length
 |[],_,_,h=>by simp only[Ut,SM]at h;subst h;rfl
 |k::ks,ns,o,h=>by obtain⟨b,_,h⟩:=ZN.mp h;obtain⟨x,a,rfl⟩:=P6.mp h;rw[SQ,SQ,qI a]
def q0{a b:Type}{f:a->List b}{l:List a}{j:Nat}{x:a}(h:l[j]?=some x):(l.take (j+1)).flatMap f=(l.take j).flatMap f++f x:=by simp_all [Ys,List.flatMap_append]
theorem qE(n:Int):∀a:yaf,(a.map D.int).any (λz=>eqD z (.int n))=a.contains n
 |[]=>rfl
 |g::a=>by rw[QO,List.any_cons,qE n a,ko,List.contains_cons];congr 1;by_cases h:g=n;subst h;simp;rw[decide_eq_false h];exact(zCQ.mpr (Ne.symm h)).symm
def CZ:Option (List (yag×yaf)×Tr)->D
 |none=>.Qe
 |some z=>WW z.1 z.2
def WX(qs:List (yag×yaf))(y:Tr):D:=.tup [.lst false (qs.map c9),PK y]
def Am(qs:List (yag×yaf))(y:Tr):aG (WW qs y)=WX qs y:=by unfold WW WX;rw[cX,br,br,bM,bG,k7];rfl
theorem Gp{d c:Type}(a:d->D)(b:c->D):∀(xs:List d) (ys:List c),List.zipWith (λx y=>D.tup [x,y]) (xs.map a) (ys.map b)=(xs.zip ys).map λz=>D.tup [a z.1,b z.2]
 |[],_=>rfl
 |_::_,[]=>rfl
 |x::xs,y::ys=>by simp_all [QO,zCW,zCz,Gp]
def Hk(A:yag)(k:Nat):(A.map λ(k:Nat)=>(k:Int)).getD k 0=((A.getD k 0:Nat):Int):=by rw[Q2,Q2,QZ];cases A[k]?<;>rfl
def G0{a:Type}(f:a->D)(xs:List a)(k:Nat):PD.cutD (xs.map f) none (some (k:Int))=(xs.take k).map f:=by
 unfold PD.cutD;have c:HT.Qy (xs.map f).length 0 none=0:=rfl;have b:HT.Qy (xs.map f).length (xs.map f).length (some (k:Int))=min k (xs.map f).length:=HT.qX _ _ k
 simp_all
def Jy(qs:List (yag×yaf))(y:Tr):dj (WW qs y)=true:=by unfold WW PK T3;simp only[dj,gw,k9 _ Eb,Bool.and_true]
def Y0(q:yag×yaf):yaf×yaf:=(q.1.map λ(k:Nat)=>(k:Int),q.2)
def BK(q:yag×yaf):gT true (Y0 q)=cU q/\gT false (Y0 q)=c9 q:=by
 have e:(q.1.map λ(k:Nat)=>(k:Int)).map D.int=q.1.map λ(k:Nat)=>D.int (k:Int):=by rw[QP];rfl
 unfold gT cU c9 Sa Y0;rw[e];exact⟨rfl,rfl⟩
def NZ(qs:List (yag×yaf))(y:Tr):gD true (qs.map Y0) (PK y)=WW qs y/\gD false (qs.map Y0) (PK y)=WX qs y:=by unfold gD WW WX;rw[QP,QP,show gT true∘Y0=cU from funext λq=>(BK q).1,show gT false∘Y0=c9 from funext λq=>(BK q).2];exact⟨rfl,rfl⟩
def Ge(qs:List (yag×yaf))(y:Tr):aG (WX qs y)=WX qs y:=by unfold WX;rw[cX,br,br,bM,bG,cV c9 rN];rfl
def Fj(r:yag×yaf):Q1 2 (c9 r):=Q1.tup (.cons (Q1.map λ(_:Nat)=>Q1.int 0 _) (.cons (Q1.map (Q1.int 0)) (.nil _)))
def Jg(qs:List (yag×yaf))(y:Tr):okD (WW qs y)/\okD (WX qs y):=by have t:Q1 3 (PK y):=Q1.tup (.cons (Q1.int 2 _) (.cons (Q1.int 2 _) (.cons (Q1.int 2 _) (.nil _))));exact⟨(Q1.tup (.cons (Q1.map HD) (.cons t (.nil _)))).ok,(Q1.tup (.cons (Q1.map Fj) (.cons t (.nil _)))).ok⟩
def OY{m:Int}(h0:0<=m)(h6:m<6):∃a b:Int,Rz [D.tup [.int 900,.int 10],D.tup [.int 310,.int 870],D.tup [.int (-720),.int 540],D.tup [.int (-750),.int (-510)],D.tup [.int 260,.int (-890)],D.tup [.int 880,.int (-300)]] m=some (D.tup [.int a,.int b])/\Bd 12 a/\Bd 12 b:=by
 have e:m=0∨m=1∨m=2∨m=3∨m=4∨m=5:=by lia
 rcases e with rfl|rfl|rfl|rfl|rfl|rfl<;>exact⟨_,_,rfl,by unfold Bd;decide,by unfold Bd;decide⟩
def Fi{a b:yav}:a.map TU=b.map TU↔a=b:=⟨Kl,λe=>by rw[e]⟩
def E6{a b:yat}:a.map cN=b.map cN↔a=b:=⟨Kh,λe=>by rw[e]⟩
def FY{a b:List (Nat×Int)}:a.map eE=b.map eE↔a=b:=⟨K1,by lia⟩
def FH{a b:yau}:a.map QJ=b.map QJ↔a=b:=⟨KC,by lia⟩
def F2{a b:yau}:a.map PL=b.map PL↔a=b:=⟨Ci,by lia⟩
def F8{a b:yaw}:a.map PK=b.map PK↔a=b:=⟨K9,by lia⟩
def FE:QJ a=QJ b↔a=b:=⟨B4,by lia⟩
def FZ:PL a=PL b↔a=b:=⟨Cg,by lia⟩
def E7{a b:yaf}:a.map D.int=b.map D.int↔a=b:=⟨AL,by lia⟩
local macro_rules|`(tactic|z_go)=>do
 let l := ("T3 List.cons.injEq D.int.injEq D.tup.injEq D.lst.injEq and_true true_and and_imp E7 Fi E6 FY FH F2 F8 FE FZ".splitOn " ").toArray.map λs => Lean.mkIdent s.toName
 `(tactic| (apply propext; constructor; (intro h; repeat (first | (obtain ⟨e, h⟩ := h; revert e; simp only [$[$l:ident],*]; intros; subst_vars; assumption) | obtain ⟨_, h⟩ := h)); (intro q; repeat (first | exact ⟨rfl, q⟩ | apply Exists.intro))))
section
variable(κ:QC)(Q:D->Prop)(Ed:Value->Prop)
abbrev qW(n:Int):Prop:=Q (.int (sg n))
def wc(κ:QC):DSp:=λa Q Ed=>∃(n:Int),a=[.int n]/\qW Q n
def DI (n:Int):wc κ [.int n] Q Ed=qW Q n:=by z_go
abbrev fU(a:Int)(b:Int):Prop:=Q (.int (Int.gcd a b:Int))
def fW(κ:QC):DSp:=λc Q Ed=>∃(a:Int) (b:Int),c=[.int a,.int b]/\fU Q a b
def oo (a:Int) (b:Int):fW κ [.int a,.int b] Q Ed=fU Q a b:=by z_go
abbrev jk(ns:yaf):Prop:=ns.length<100/\cg 0 ns≠0/\Bd 1000 (cg 0 ns)/\Q (.lst true ((dE ns).map D.int))
def jx(κ:QC):DSp:=λb Q Ed=>∃(a:yaf),b=[.lst false (a.map D.int)]/\jk Q a
def kY (ns:yaf):jx κ [.lst false (ns.map D.int)] Q Ed=jk Q ns:=by z_go
abbrev nP(n:Int)(s:Int):Prop:=∃m t:Nat,n=(m:Int)/\s=(t:Int)/\m<=1000/\t<=3/\m ^ t<=1000000/\Q (.lst true ((PV m t).map Sa))
def tq(κ:QC):DSp:=λa Q Ed=>∃(n:Int) (s:Int),a=[.int n,.int s]/\nP Q n s
def A6 (n:Int) (s:Int):tq κ [.int n,.int s] Q Ed=nP Q n s:=by z_go
abbrev sL(g0 g1 g2:Int)(p0 p1 p2:Int):Prop:=Bd 1000 g0/\Bd 1000 g1/\Bd 1000 g2/\Bd 1000 p0/\Bd 1000 p1/\Bd 1000 p2/\Q (.int (g0*p0+g1*p1+g2*p2))
def tw(κ:QC):DSp:=λg Q Ed=>∃(f e d:Int) (c b a:Int),g=[T3 f e d,T3 c b a]/\sL Q f e d c b a
def A8 (f e d:Int) (c b a:Int):tw κ [T3 f e d,T3 c b a] Q Ed=sL Q f e d c b a:=by z_go
abbrev ky(g0 g1 g2:Int)(p0 p1 p2:Int):Prop:=Bd 1000 g0/\Bd 1000 g1/\Bd 1000 g2/\Bd 1000 p0/\Bd 1000 p1/\Bd 1000 p2/\Q (.int (sg (g0*p0+g1*p1+g2*p2)))
def iX(κ:QC):DSp:=λg Q Ed=>∃(f e d:Int) (c b a:Int),g=[T3 f e d,T3 c b a]/\ky Q f e d c b a
def kf (f e d:Int) (c b a:Int):iX κ [T3 f e d,T3 c b a] Q Ed=ky Q f e d c b a:=by z_go
abbrev jY(a0 a1 a2:Int)(b0 b1 b2:Int):Prop:=Bd 200 a0/\Bd 200 a1/\Bd 200 a2/\Bd 200 b0/\Bd 200 b1/\Bd 200 b2/\Q (T3 (a1*b2 - b1*a2) (a2*b0 - b2*a0) (a0*b1 - b0*a1))
def j8(κ:QC):DSp:=λg Q Ed=>∃(f e d:Int) (c b a:Int),g=[T3 f e d,T3 c b a]/\jY Q f e d c b a
def oN (a0 e d:Int) (c b a:Int):j8 κ [T3 a0 e d,T3 c b a] Q Ed=jY Q a0 e d c b a:=by z_go
abbrev lH(p0 p1 p2:Int)(w:Sp):Prop:=Bd 200 p0/\Bd 200 p1/\Bd 200 p2/\WB 200 w/\Q (T3 (-(w.1*p1+w.2*p2)) (w.1*p0) (w.2*p0))
def dh(κ:QC):DSp:=λd Q Ed=>∃(c b a:Int) (w:Sp),d=[T3 c b a,PL w]/\lH Q c b a w
def qp (c b a:Int) (w:Sp):dh κ [T3 c b a,PL w] Q Ed=lH Q c b a w:=by z_go
abbrev i9(d:D):Prop:=∃p:Sp,d=PL p/\Q (QJ p)
def mj(κ:QC):DSp:=λa Q Ed=>∃(d:D),a=[d]/\i9 Q d
def v7 (d:D):mj κ [d] Q Ed=i9 Q d:=by z_go
abbrev nR(a0 a1 a2:Int)(b0 b1 b2:Int)(c0 c1 c2:Int):Prop:=Bd 1000 a0/\Bd 1000 a1/\Bd 1000 a2/\Bd 1000 b0/\Bd 1000 b1/\Bd 1000 b2/\Bd 1000 c0/\Bd 1000 c1/\Bd 1000 c2/\Q (.int (sw a0 a1 a2 b0 b1 b2 c0 c1 c2))
def oA(κ:QC):DSp:=λj Q Ed=>∃(i h g:Int) (f e d:Int) (c b a:Int),j=[T3 i h g,T3 f e d,T3 c b a]/\nR Q i h g f e d c b a
def rL (a0 h g:Int) (f e d:Int) (c b a:Int):oA κ [T3 a0 h g,T3 f e d,T3 c b a] Q Ed=nR Q a0 h g f e d c b a:=by z_go
abbrev kN(a0 a1 a2:Int)(b0 b1 b2:Int):Prop:=Bd 200 a0/\Bd 200 a1/\Bd 200 a2/\Bd 200 b0/\Bd 200 b1/\Bd 200 b2/\Q (.tup [.int (a0*b1 - b0*a1),.int (a0*b2 - b0*a2)])
def kS(κ:QC):DSp:=λg Q Ed=>∃(f e d:Int) (c b a:Int),g=[T3 f e d,T3 c b a]/\kN Q f e d c b a
def l7 (a0 e d:Int) (c b a:Int):kS κ [T3 a0 e d,T3 c b a] Q Ed=kN Q a0 e d c b a:=by z_go
abbrev vN(a:Sp)(b:Sp):Prop:=WB 400 a/\WB 400 b/\Q (.int (tn a b))
def wg(κ:QC):DSp:=λc Q Ed=>∃(a:Sp) (b:Sp),c=[PL a,PL b]/\vN Q a b
def DJ (a:Sp) (b:Sp):wg κ [PL a,PL b] Q Ed=vN Q a b:=by z_go
abbrev qV(w:Sp):Prop:=Q (PL (Vi w))
def mL(κ:QC):DSp:=λa Q Ed=>∃(w:Sp),a=[PL w]/\qV Q w
theorem uL (w:Sp):mL κ [PL w] Q Ed=qV Q w:=by z_go
abbrev jZ(w:Sp):Prop:=Q (PL (UE w))
def j9(κ:QC):DSp:=λa Q Ed=>∃(w:Sp),a=[PL w]/\jZ Q w
theorem oO (w:Sp):j9 κ [PL w] Q Ed=jZ Q w:=by z_go
abbrev nM(ps:yau):Prop:=ps.length<64/\(∀p∈ps,SB p)/\Q (.lst true ((bQ [] ps).reverse.map QJ))
def sW(κ:QC):DSp:=λb Q Ed=>∃(a:yau),b=[.lst false (a.map QJ)]/\nM Q a
def rK (ps:yau):sW κ [.lst false (ps.map QJ)] Q Ed=nM Q ps:=by z_go
abbrev kx(ps:yau):Prop:=ps.length<64/\(∀p∈ps,SB p)/\∀ys,cO ys ps->ys.length<=ps.length->Q (.lst true ((aV ys).map QJ))
def mP(κ:QC):DSp:=λb Q Ed=>∃(a:yau),b=[.lst false (a.map PL)]/\kx Q a
def ot (ps:yau):mP κ [.lst false (ps.map PL)] Q Ed=kx Q ps:=by z_go
abbrev fN(a:Sp)(b:Sp):Prop:=SB a/\SB b/\Q (.lst true ((eS a b).map PK))
def iY(κ:QC):DSp:=λc Q Ed=>∃(a:Sp) (b:Sp),c=[QJ a,QJ b]/\fN Q a b
def jU (a:Sp) (b:Sp):iY κ [QJ a,QJ b] Q Ed=fN Q a b:=by z_go
abbrev lC(hs:yau):Prop:=0<hs.length/\hs.length<200/\(∀p∈hs,SB p)/\Q (.lst true ((aO hs).map PK))
def qa(κ:QC):DSp:=λb Q Ed=>∃(a:yau),b=[.lst false (a.map QJ)]/\lC Q a
def qg (hs:yau):qa κ [.lst false (hs.map QJ)] Q Ed=lC Q hs:=by z_go
abbrev pT(w:Sp):Prop:=Q (.int (bH w))
def qq(κ:QC):DSp:=λa Q Ed=>∃(w:Sp),a=[PL w]/\pT Q w
def Aj (w:Sp):qq κ [PL w] Q Ed=pT Q w:=by z_go
abbrev gZ(a:Sp)(b:Sp):Prop:=WB 400 a/\WB 400 b/\Q (.bl (decide (tn a b=0/\Qf a b<0)))
def iq(κ:QC):DSp:=λc Q Ed=>∃(a:Sp) (b:Sp),c=[PL a,PL b]/\gZ Q a b
def p9 (a:Sp) (b:Sp):iq κ [PL a,PL b] Q Ed=gZ Q a b:=by z_go
abbrev fT(a:Sp)(b:Sp):Prop:=WB 400 a/\WB 400 b/\Q (oL (lR a b))
def fV(κ:QC):DSp:=λc Q Ed=>∃(a:Sp) (b:Sp),c=[PL a,PL b]/\fT Q a b
def oh (a:Sp) (b:Sp):fV κ [PL a,PL b] Q Ed=fT Q a b:=by z_go
abbrev eA(a:Sp)(b:Sp)(e:Sp):Prop:=WB 400 a/\WB 400 b/\WB 400 e/\Q (oL (jG a b e))
def eG(κ:QC):DSp:=λc Q Ed=>∃(a:Sp) (b:Sp) (e:Sp),c=[PL a,PL b,PL e]/\eA Q a b e
def l9 (a:Sp) (b:Sp) (e:Sp):eG κ [PL a,PL b,PL e] Q Ed=eA Q a b e:=by z_go
abbrev hJ(ws:yau):Prop:=0<ws.length/\ws.length<4/\(∀w∈ws,WB 400 w)/\Q (oL (d9 ws))
def og(κ:QC):DSp:=λb Q Ed=>∃(a:yau),b=[.lst false (a.map PL)]/\hJ Q a
def jP (ws:yau):og κ [.lst false (ws.map PL)] Q Ed=hJ Q ws:=by z_go
abbrev nQ(x y z:Int)(l:Int):Prop:=¬(x=0/\y=0/\z=0)/\Bd 4000 x/\Bd 4000 y/\Bd 4000 z/\Q (T3 (x.fdiv (PM.RG x y z l)) (y.fdiv (PM.RG x y z l)) (z.fdiv (PM.RG x y z l)))
def oz(κ:QC):DSp:=λa Q Ed=>∃(x y z:Int) (l:Int),a=[T3 x y z,.int l]/\nQ Q x y z l
def xB (x y z:Int) (l:Int):oz κ [T3 x y z,.int l] Q Ed=nQ Q x y z l:=by z_go
abbrev sJ(b:Int)(x:Int)(y:Int):Prop:=b≠0/\Bd 4000 b/\Bd 4000 x/\Bd 4000 y/\Q (Nf b x y)
def tu(κ:QC):DSp:=λa Q Ed=>∃(b:Int) (x:Int) (y:Int),a=[.int b,.int x,.int y]/\sJ Q b x y
def A7 (b:Int) (x:Int) (y:Int):tu κ [.int b,.int x,.int y] Q Ed=sJ Q b x y:=by z_go
abbrev hU (ps:yau) (h0 h1 h2:Int):Prop:=0<ps.length/\ps.length<=30/\(∀p∈ps,SB p)/\PB 160 (h0,h1,h2)/\∃r,cw (ps.map (Pz (h0,h1,h2))) (cT ps.length)=some r/\Q (.tup [.str "in", Sa r.1,.lst true (r.2.map D.int)])
def kc(κ:QC):DSp:=λe Q Ed=>∃(a:yau) (d c b:Int),e=[.lst false (a.map PL),T3 d c b]/\hU Q a d c b
def oP (ps:yau) (h0 b a:Int):kc κ [.lst false (ps.map PL),T3 h0 b a] Q Ed=hU Q ps h0 b a:=by z_go
abbrev dP(a0 a1 a2:Int)(b0 b1 b2:Int)(g0 g1 g2:Int):Prop:=Bd 200 a0/\Bd 200 a1/\Bd 200 a2/\Bd 200 b0/\Bd 200 b1/\Bd 200 b2/\Bd 200 g0/\Bd 200 g1/\Bd 200 g2/\(Qs (g0,g1,g2) (a0,a1,a2) (b0,b1,b2)).1≠0/\Q (PK (da (g0,g1,g2) (a0,a1,a2) (b0,b1,b2)))
def dQ(κ:QC):DSp:=λj Q Ed=>∃(i h g:Int) (f e d:Int) (c b a:Int),j=[T3 i h g,T3 f e d,T3 c b a]/\dP Q i h g f e d c b a
def iB (a0 h g:Int) (f e d:Int) (c b a:Int):dQ κ [T3 a0 h g,T3 f e d,T3 c b a] Q Ed=dP Q a0 h g f e d c b a:=by z_go
abbrev fL(cs:yaw)(g0 g1 g2:Int):Prop:=cs.length<=300000/\(∀p∈cs,0<p.1/\CB 40 p)/\Bd 200 g0/\Bd 200 g1/\Bd 200 g2/\Q (.lst true ((fB (g0,g1,g2) cs).map PK))
def ir(κ:QC):DSp:=λe Q Ed=>∃(d:yaw) (c b a:Int),e=[.lst false (d.map PK),T3 c b a]/\fL Q d c b a
def jQ (cs:yaw) (c b a:Int):ir κ [.lst false (cs.map PK),T3 c b a] Q Ed=fL Q cs c b a:=by z_go
abbrev jj(cs:yaw)(gs:yaw):Prop:=0<gs.length/\gs.length<=1000/\(∀j,j<gs.length->(aW (gs.take j) cs).length<=300000/\∀p∈aW (gs.take j) cs,0<p.1/\CB 40 p)/\(∀g∈gs,Bd 200 g.1/\Bd 200 g.2.1/\Bd 200 g.2.2)/\Q (.lst true ((aW gs cs).map PK))
def qh(κ:QC):DSp:=λc Q Ed=>∃(b:yaw) (a:yaw),c=[.lst false (b.map PK),.lst false (a.map PK)]/\jj Q b a
def qi (cs:yaw) (a:yaw):qh κ [.lst false (cs.map PK),.lst false (a.map PK)] Q Ed=jj Q cs a:=by z_go
abbrev eO(Ls:yat):Prop:=LsOk Ls/\∀yss,bO yss Ls->Q (.lst true ((bq 0 yss).map TU))
def iw(κ:QC):DSp:=λb Q Ed=>∃(a:yat),b=[.lst false (a.map cN)]/\eO Q a
def qr (Ls:yat):iw κ [.lst false (Ls.map cN)] Q Ed=eO Q Ls:=by z_go
abbrev dU(a0 a1 a2:Int)(b0 b1 b2:Int)(s:Int):Prop:=TB 990 (a0,a1,a2)/\TB 82 (b0,b1,b2)/\Bd 900 s/\Q (PK (jF (a0,a1,a2) (b0,b1,b2) s))
def gE(κ:QC):DSp:=λg Q Ed=>∃(f e d:Int) (c b a:Int) (s:Int),g=[T3 f e d,T3 c b a,.int s]/\dU Q f e d c b a s
def kZ (a0 e d:Int) (c b a:Int) (s:Int):gE κ [T3 a0 e d,T3 c b a,.int s] Q Ed=dU Q a0 e d c b a s:=by z_go
abbrev iG(cs:yaw)(gs:yaw):Prop:=gs.length<=1000/\(∀j,j<=gs.length->(aW (gs.take j) cs).length<=300000/\∀p∈aW (gs.take j) cs,0<p.1/\CB 40 p)/\(∀g∈gs,Bd 200 g.1/\Bd 200 g.2.1/\Bd 200 g.2.2)/\∃last:Nat,last<gs.length/\(∀j,j<=last->aW (gs.take j) cs ≠ [])/\aW (gs.take (last+1)) cs=[]/\Q (.int (last:Int))
def iS(κ:QC):DSp:=λc Q Ed=>∃(b:yaw) (a:yaw),c=[.lst false (b.map PK),.lst false (a.map PK)]/\iG Q b a
def ro (cs:yaw) (a:yaw):iS κ [.lst false (cs.map PK),.lst false (a.map PK)] Q Ed=iG Q cs a:=by z_go
abbrev i6(gs:yaw)(ns:yaf)(sh:yaf):Prop:=∃pk:yag,ns=pk.map (λ(k:Nat)=>(k:Int))/\pk.length=sh.length/\pk.length<=3/\(∀k∈pk,k<gs.length)/\(∀g∈gs,Bd 200 g.1)/\(∀s∈sh,Bd 900 s)/\Q (.int (o9 gs pk sh))
def md(κ:QC):DSp:=λd Q Ed=>∃(c:yaw) (b:yaf) (a:yaf),d=[.lst false (c.map PK),.lst false (b.map D.int),.lst false (a.map D.int)]/\i6 Q c b a
def mO (b:yaw) (ns:yaf) (a:yaf):md κ [.lst false (b.map PK),.lst false (ns.map D.int),.lst false (a.map D.int)] Q Ed=i6 Q b ns a:=by z_go
abbrev mI(cs:yaw)(gs:yaw):Prop:=gs.length<=1000/\(∀j,j<=gs.length->(aW (gs.take j) cs).length<=300000/\∀p∈aW (gs.take j) cs,0<p.1/\CB 40 p)/\(∀g∈gs,Bd 200 g.1/\Bd 200 g.2.1/\Bd 200 g.2.2)/\∃last:Nat,last<gs.length/\(∀j,j<=last->aW (gs.take j) cs ≠ [])/\aW (gs.take (last+1)) cs=[]/\∃r:yag×yaf,gU gs last (PV last 1++PV last 2)=some r/\Q (.lst true ((r.1.zip r.2).map eE))
def vX(κ:QC):DSp:=λc Q Ed=>∃(b:yaw) (a:yaw),c=[.lst false (b.map PK),.lst false (a.map PK)]/\mI Q b a
def uM (cs:yaw) (a:yaw):vX κ [.lst false (cs.map PK),.lst false (a.map PK)] Q Ed=mI Q cs a:=by z_go
abbrev gc(os:yav)(zs:List (Nat×Int)):Prop:=zs.length<=3/\(∀z∈zs,z.1<os.length/\Bd 900 z.2)/\(∀x∈os,TB 82 x.2)/\(∀n,∀x∈cq ((gN os zs).take n),TB (983+n) x.2)/\(∀n,(cq ((gN os zs).take n)).length<=n)/\((cq (gN os zs)).map (·.1)).Nodup/\∀ms:yaf,ms.Perm ((cq (gN os zs)).map (·.1))->ms.Pairwise (·<·)->Q (.lst true ((jI (cq (gN os zs)) ms).map TU))
def ma(κ:QC):DSp:=λb Q Ed=>∃(os:yav) (a:List (Nat×Int)),b=[.lst false (os.map TU),.lst false (a.map eE)]/\gc Q os a
def mM (os:yav) (a:List (Nat×Int)):ma κ [.lst false (os.map TU),.lst false (a.map eE)] Q Ed=gc Q os a:=by z_go
abbrev dS(Ls:yat):Prop:=LsOk Ls/\∀d,HmR Ls d->Q d
def jR(κ:QC):DSp:=λb Q Ed=>∃(a:yat),b=[.lst false (a.map cN)]/\dS Q a
def kT (Ls:yat):jR κ [.lst false (Ls.map cN)] Q Ed=dS Q Ls:=by z_go
abbrev kO(a:Int):Prop:=Q (.bl true)
def kW(κ:QC):DSp:=λb Q Ed=>∃(a:Int),b=[.int a]/\kO Q a
def uN (a:Int):kW κ [.int a] Q Ed=kO Q a:=by z_go
abbrev iH(ns:yaf)(k:Int):Prop:=0<=k/\ns.length<=63/\∀v:Int,Q (.int v)
def iT(κ:QC):DSp:=λb Q Ed=>∃(a:yaf) (k:Int),b=[.lst false (a.map D.int),.int k]/\iH Q a k
def rq (ns:yaf) (k:Int):iT κ [.lst false (ns.map D.int),.int k] Q Ed=iH Q ns k:=by z_go
abbrev iI(a:Int)(b:Int):Prop:=Q (.int (Int.gcd a b:Int))
def iU(κ:QC):DSp:=λc Q Ed=>∃(a:Int) (b:Int),c=[.int a,.int b]/\iI Q a b
def rA (a:Int) (b:Int):iU κ [.int a,.int b] Q Ed=iI Q a b:=by z_go
abbrev eN(h0 h1 h2:Int):Prop:=Pr (h0,h1,h2)/\Q (.bl true)
def eR(κ:QC):DSp:=λd Q Ed=>∃(c b a:Int),d=[T3 c b a]/\eN Q c b a
def jw (h0 b a:Int):eR κ [T3 h0 b a] Q Ed=eN Q h0 b a:=by z_go
abbrev gC(c:Int)(m:Int):Prop:=0<=m/\m<1000/\∀xs:yaf,xs.length=m.toNat->(∀x∈xs,0<=x/\x<2147483647)->Q (.lst true (xs.map D.int))
def jS(κ:QC):DSp:=λa Q Ed=>∃(c:Int) (m:Int),a=[.int c,.int m]/\gC Q c m
def tj (c:Int) (m:Int):jS κ [.int c,.int m] Q Ed=gC Q c m:=by z_go
abbrev gf(k:Int)(xs:yaf)(m:Int):Prop:=0<=k/\k<=4/\0<=m/\xs.length=2/\(∀x∈xs,0<=x/\x<2147483647)/\∀p:Sp,WB 40 p->Q (PL p)
def mi(κ:QC):DSp:=λb Q Ed=>∃(k:Int) (a:yaf) (m:Int),b=[.int k,.lst false (a.map D.int),.int m]/\gf Q k a m
def mQ (k:Int) (xs:yaf) (m:Int):mi κ [.int k,.lst false (xs.map D.int),.int m] Q Ed=gf Q k xs m:=by z_go
abbrev pS(ns:yaf)(d:D):Prop:=d=.tup []/\Q (.lst true [.lst true []])
def qj(κ:QC):DSp:=λb Q Ed=>∃(a:yaf) (d:D),b=[.lst false (a.map D.int),d]/\pS Q a d
def Af (ns:yaf) (d:D):qj κ [.lst false (ns.map D.int),d] Q Ed=pS Q ns d:=by z_go
abbrev lD(ns:yaf)(d:D):Prop:=∃k:Nat,d=.tup [.int (k:Int)]/\k<=3/\ns.length<=7/\Q (.lst true ((Ut [k] ns).map Vl))
def qk(κ:QC):DSp:=λb Q Ed=>∃(a:yaf) (d:D),b=[.lst false (a.map D.int),d]/\lD Q a d
def Ag (ns:yaf) (d:D):qk κ [.lst false (ns.map D.int),d] Q Ed=lD Q ns d:=by z_go
abbrev lE(ns:yaf)(d:D):Prop:=∃k i:Nat,d=.tup [.int (k:Int),.int (i:Int)]/\k<=3/\i<=3/\ns.length<=7/\Q (.lst true ((Ut [k,i] ns).map Vl))
def ql(κ:QC):DSp:=λb Q Ed=>∃(a:yaf) (d:D),b=[.lst false (a.map D.int),d]/\lE Q a d
def Ah (ns:yaf) (d:D):ql κ [.lst false (ns.map D.int),d] Q Ed=lE Q ns d:=by z_go
abbrev lF(ns:yaf)(d:D):Prop:=∃k i l:Nat,d=.tup [.int (k:Int),.int (i:Int),.int (l:Int)]/\k<=3/\i<=3/\l<=3/\ns.length<=7/\Q (.lst true ((Ut [k,i,l] ns).map Vl))
def qo(κ:QC):DSp:=λb Q Ed=>∃(a:yaf) (d:D),b=[.lst false (a.map D.int),d]/\lF Q a d
def Ai (ns:yaf) (d:D):qo κ [.lst false (ns.map D.int),d] Q Ed=lF Q ns d:=by z_go
abbrev ja(ps:yau)(ks:yaf):Prop:=∃is:yag,ks=(is.map λ(k:Nat)=>(k:Int))/\(∀i∈is,i<ps.length)/\is.length<=30/\Q (pK (is.map λi=>ps.getD i (0,0)))
def ml(κ:QC):DSp:=λc Q Ed=>∃(a:yau) (b:yaf),c=[.lst false (a.map PL),.lst false (b.map D.int)]/\ja Q a b
def we (ps:yau) (ks:yaf):ml κ [.lst false (ps.map PL),.lst false (ks.map D.int)] Q Ed=ja Q ps ks:=by z_go
abbrev hW(ks:yaf)(d:D):Prop:=∃(pk:yag) (x:D),d=.tup [.lst false (pk.map λ(k:Nat)=>D.int (k:Int)),x]/\pk.length<=30/\(∀k∈pk,k<ks.length)/\Q (.tup [.lst true ((pk.map λk=>ks.getD k 0).map D.int),x])
def ow(κ:QC):DSp:=λb Q Ed=>∃(a:yaf) (d:D),b=[.lst false (a.map D.int),d]/\hW Q a d
def oQ (ks:yaf) (d:D):ow κ [.lst false (ks.map D.int),d] Q Ed=hW Q ks d:=by z_go
abbrev nN(ps:yau)(d:D):Prop:=∃k j l:Nat,d=.tup [.int (k:Int),.int (j:Int),.int (l:Int)]/\((k=1/\j=3/\l=3)∨(k=2/\j=2/\l=3))/\7<=ps.length/\ps.length<=30/\(∀p∈ps,WB 40 p)/\∀r,Dt ps (UH [k,j,l]) r->Q (CZ r)
def sZ(κ:QC):DSp:=λb Q Ed=>∃(a:yau) (d:D),b=[.lst false (a.map PL),d]/\nN Q a d
def A5 (ps:yau) (d:D):sZ κ [.lst false (ps.map PL),d] Q Ed=nN Q ps d:=by z_go
abbrev fM(ps:yau)(d:D):Prop:=d=.tup [.tup [.int 1,.int 3,.int 3],.tup [.int 2,.int 2,.int 3]]/\7<=ps.length/\ps.length<=30/\(∀p∈ps,WB 40 p)/\∀qs y,Dt ps YZ (some (qs,y))->xR ps qs y->Q (WW qs y)
def iR(κ:QC):DSp:=λb Q Ed=>∃(a:yau) (d:D),b=[.lst false (a.map PL),d]/\fM Q a d
def rn (ps:yau) (d:D):iR κ [.lst false (ps.map PL),d] Q Ed=fM Q ps d:=by z_go
abbrev cP(ps:yau):Prop:=ps.length<=30/\(∀p∈ps,WB 40 p)/\(ps.length<7->Ed (.ref κ.TooFew))/\(7<=ps.length->∀qs y,Dt ps YZ (some (qs,y))->xR ps qs y->Q (WW qs y))
def iA(κ:QC):DSp:=λb Q Ed=>∃(a:yau),b=[.lst false (a.map PL)]/\cP κ Q Ed a
def ft (ps:yau):iA κ [.lst false (ps.map PL)] Q Ed=cP κ Q Ed ps:=by z_go
abbrev fk(f:Int)(cs:yaf):Prop:=cs.length<=30/\∀ps:yau,7<=ps.length->ps.length<=30->(∀p∈ps,WB 40 p)->Q (.lst true (ps.map PL))
def kU(κ:QC):DSp:=λb Q Ed=>∃(f:Int) (a:yaf),b=[.int f,.lst false (a.map D.int)]/\fk Q f a
def lN (f:Int) (cs:yaf):kU κ [.int f,.lst false (cs.map D.int)] Q Ed=fk Q f cs:=by z_go
abbrev lW(ns:yaf)(a:Int)(d:D):Prop:=1<=ns.length/\ns.length<=3/\(∀n∈ns,a<=n)/\(d=.Qe∨∃ m:Int,d=.int m/\∀n∈ns,n<m)/\Q (.bl true)
def mh(κ:QC):DSp:=λc Q Ed=>∃(b:yaf) (a:Int) (d:D),c=[.lst false (b.map D.int),.int a,d]/\lW Q b a d
def vZ (ns:yaf) (a:Int) (d:D):mh κ [.lst false (ns.map D.int),.int a,d] Q Ed=lW Q ns a d:=by z_go
abbrev fh(d:D)(ps:yau)(h0 h1 h2:Int):Prop:=∃pk sh,d=c9 (pk,sh)/\oV ps (h0,h1,h2) pk sh/\ps.length<=30/\(∀p∈ps,WB 40 p)/\CB 40 (h0,h1,h2)/\Q (.bl true)
def iu(κ:QC):DSp:=λf Q Ed=>∃(d:D) (a:yau) (e c b:Int),f=[d,.lst false (a.map PL),T3 e c b]/\fh Q d a e c b
def lM (d:D) (ps:yau) (h0 b a:Int):iu κ [d,.lst false (ps.map PL),T3 h0 b a] Q Ed=fh Q d ps h0 b a:=by z_go
abbrev d5(d:D)(ps:yau):Prop:=(∃qs y,d=WX qs y/\xR ps qs y)/\ps.length<=30/\(∀p∈ps,WB 40 p)/\Q (.bl true)
def me(κ:QC):DSp:=λb Q Ed=>∃(d:D) (a:yau),b=[d,.lst false (a.map PL)]/\d5 Q d a
def iV (d:D) (ps:yau):me κ [d,.lst false (ps.map PL)] Q Ed=d5 Q d ps:=by z_go
abbrev dG(ps:yau):Prop:=ps.length<7/\(∀p∈ps,WB 40 p)/\Q (.bl true)
def iW(κ:QC):DSp:=λb Q Ed=>∃(a:yau),b=[.lst false (a.map PL)]/\dG Q a
def jT (ps:yau):iW κ [.lst false (ps.map PL)] Q Ed=dG Q ps:=by z_go
abbrev i8(d:D):Prop:=∃qs y,d=WX qs y/\qs.length<=9/\Q (WW qs y)
def mf(κ:QC):DSp:=λa Q Ed=>∃(d:D),a=[d]/\i8 Q d
def vY (d:D):mf κ [d] Q Ed=i8 Q d:=by z_go
end
section
variable(P:Program)(w:World)(K:yac)(mg:yam)(base:Heap)(κ:QC)
abbrev Lu:Prop:=QG P w K mg base "sign" 1 ["number"] (wc κ)
abbrev kB:Prop:=QG P w K mg base "common_divisor" 1 ["one", "other"] (fW κ)
abbrev xV:Prop:=QG P w K mg base "lowest" 2 ["numbers"] (jx κ)
abbrev mv:Prop:=QG P w K mg base "picks" 1 ["count", "size"] (tq κ)
abbrev Bf:Prop:=QG P w K mg base "value" 1 ["gauge", "place"] (tw κ)
abbrev Lq:Prop:=QG P w K mg base "side" 2 ["gauge", "place"] (iX κ)
abbrev DZ:Prop:=QG P w K mg base "crossed" 1 ["one", "other"] (j8 κ)
abbrev GA:Prop:=QG P w K mg base "facing" 1 ["place", "way"] (dh κ)
abbrev tL:Prop:=QG P w K mg base "place_of" 1 ["spot"] (mj κ)
abbrev Jv:Prop:=QG P w K mg base "swing" 1 ["one", "two", "three"] (oA κ)
abbrev Be:Prop:=QG P w K mg base "arrow" 1 ["one", "other"] (kS κ)
abbrev D8:Prop:=QG P w K mg base "turn" 1 ["one", "other"] (wg κ)
abbrev Lo:Prop:=QG P w K mg base "back" 1 ["way"] (mL κ)
abbrev D3:Prop:=QG P w K mg base "left_of" 1 ["way"] (j9 κ)
abbrev Js:Prop:=QG P w K mg base "chain" 2 ["places"] (sW κ)
abbrev D0:Prop:=QG P w K mg base "hull" 3 ["spots"] (mP κ)
abbrev xq:Prop:=QG P w K mg base "thin_bounds" 2 ["one", "other"] (iY κ)
abbrev Gu:Prop:=QG P w K mg base "bounds" 3 ["corners"] (qa κ)
abbrev xU:Prop:=QG P w K mg base "length" 1 ["way"] (qq κ)
abbrev uY:Prop:=QG P w K mg base "are_opposite" 2 ["one", "other"] (iq κ)
abbrev rP:Prop:=QG P w K mg base "balance_of_two" 3 ["one", "other"] (fV κ)
abbrev oU:Prop:=QG P w K mg base "balance_of_three" 3 ["one", "two", "three"] (eG κ)
abbrev wu:Prop:=QG P w K mg base "balance" 4 ["ways"] (og κ)
abbrev D7:Prop:=QG P w K mg base "reduced" 2 ["triple", "lead"] (oz κ)
abbrev Ju:Prop:=QG P w K mg base "place" 3 ["by", "x", "y"] (tu κ)
abbrev D4:Prop:=QG P w K mg base "mixture" 5 ["spots", "place"] (kc κ)
abbrev tK:Prop:=QG P w K mg base "place_between" 4 ["one", "other", "gauge"] (dQ κ)
abbrev wx:Prop:=QG P w K mg base "clipped" 5 ["corners", "gauge"] (ir κ)
abbrev Gv:Prop:=QG P w K mg base "common" 6 ["corners", "gauges"] (qh κ)
abbrev u0:Prop:=QG P w K mg base "owned_gauges" 4 ["lists"] (iw κ)
abbrev xW:Prop:=QG P w K mg base "with_share" 1 ["gauge", "other", "share"] (gE κ)
abbrev xj:Prop:=QG P w K mg base "last_needed" 6 ["corners", "gauges"] (iS κ)
abbrev Cv:Prop:=QG P w K mg base "constant" 1 ["gauges", "numbers", "shares"] (md κ)
abbrev Lp:Prop:=QG P w K mg base "bars" 7 ["corners", "gauges"] (vX κ)
abbrev Cu:Prop:=QG P w K mg base "bar_rows" 2 ["owned", "shares"] (ma κ)
abbrev xS:Prop:=QG P w K mg base "hulls_meet" 8 ["lists"] (jR κ)
abbrev rB:Prop:=QG P w K mg base "_law_whole" 1 ["_law_found"] (kW κ)
abbrev xn:Prop:=QG P w K mg base "_law_cell_at" 1 ["_law_script", "_law_k"] (iT κ)
abbrev xo:Prop:=QG P w K mg base "_law_divisor" 1 ["_law_one", "_law_other"] (iU κ)
abbrev uZ:Prop:=QG P w K mg base "_law_is_place" 2 ["_law_found"] (eR κ)
abbrev xT:Prop:=QG P w K mg base "_law_stream" 1 ["_law_cell", "_law_many"] (jS κ)
abbrev CA:Prop:=QG P w K mg base "_law_spot" 1 ["_law_kind", "_law_xs", "_law_k"] (mi κ)
abbrev Gw:Prop:=QG P w K mg base "deals" 1 ["numbers", "sizes"] (qj κ)
abbrev Gx:Prop:=QG P w K mg base "deals" 2 ["numbers", "sizes"] (qk κ)
abbrev Gy:Prop:=QG P w K mg base "deals" 3 ["numbers", "sizes"] (ql κ)
abbrev Gz:Prop:=QG P w K mg base "deals" 4 ["numbers", "sizes"] (qo κ)
abbrev CC:Prop:=QG P w K mg base "spots_at" 1 ["spots", "numbers"] (ml κ)
abbrev D6:Prop:=QG P w K mg base "part_of" 1 ["group", "part"] (ow κ)
abbrev Jt:Prop:=QG P w K mg base "dealt" 9 ["spots", "sizes"] (sZ κ)
abbrev xi:Prop:=QG P w K mg base "first_dealt" 10 ["spots", "choices"] (iR κ)
abbrev mw:Prop:=QG P w K mg base "three_groups" 11 ["spots"] (iA κ)
abbrev Ay:Prop:=QG P w K mg base "_law_spots" 2 ["_law_first", "_law_cells"] (kU κ)
abbrev Cz:Prop:=QG P w K mg base "_law_list" 2 ["_law_found", "_law_least", "_law_most"] (mh κ)
abbrev Ax:Prop:=QG P w K mg base "_law_group" 3 ["_law_group_here", "_law_spots_here", "_law_spot_here"] (iu κ)
abbrev Cw:Prop:=QG P w K mg base "_law_good" 4 ["_law_found", "_law_spots_here"] (me κ)
abbrev xp:Prop:=QG P w K mg base "_law_refused" 12 ["_law_spots_here"] (iW κ)
abbrev Cy:Prop:=QG P w K mg base "_law_held" 1 ["_law_found"] (mf κ)
end
local macro_rules|`(tactic|fin2)=>`(tactic| (intro ds Q E h; repeat (first | (cases h.1; rfl) | refine Exists.elim h λ_ h => ?_)))
section
variable{P:Program}{w:World}{K:yac}{mg:yam}{base:Heap}{κ:QC}{f:Addr}{fd:FuncData}
def OZ(x:Str)(N:yah)(d:D)(ds:yas):di (x::N) (d::ds)=some (.val d)::di N ds:=by unfold di;simp
def O1(x:Str)(N:yah):di (x::N) []=none::di N []:=by unfold di;simp[List.replicate_succ]
theorem O0:di [] []=[]:=rfl
local macro_rules|`(tactic|x_go)=>do
 let l := ("OZ O1 O0".splitOn " ").toArray.map λs => Lean.mkIdent s.toName
 `(tactic| simp only [$[$l:ident],*])
local macro_rules|`(tactic|lk)=>do
 let l := ("L0 IQ G5 LY LQ dOp dB LO dOr LU IK IS dIf yH dC tP CS L6 G4 xE dCB dIs L7 L8 Oj Ol B9 kL Nl Nn HB Km HC ko EK EL ML IP LV Bl Bo JT JU yD MB MD MC List.map_cons List.map_nil OJ dJ IB Gf Gg Gd cX bG bM br cM Ia sI NX Mq JR List.append_nil List.cons_append List.nil_append Kd Ke M9 J9 J6 E2 J5 Dc EY EZ EX EW true_and LR G7 LN Lf EV false_and and_false false_or or_false exists_false CT IV KR KQ pI LP LX Bool.false_eq_true Bool.true_eq_false if_false if_true decide_eq_true_eq Bool.not_eq_eq_eq_not Bool.not_true Bool.not_false decide_eq_false_iff_not ite_not Ea Lx IX Ey LS L3 LZ IW tQ dD IT xF Mr Ms K0 NN Jx GH GJ Ma Eu Ex MM L4 List.set_cons_zero List.set_cons_succ Bn NY DI oo kY A6 A8 kf oN qp v7 rL l7 DJ uL oO rK ot jU qg Aj p9 oh l9 jP xB A7 oP iB jQ qi qr kZ ro mO uM mM kT uN rq rA jw tj mQ Af Ag Ah Ai we oQ A5 rn ft lN vZ lM iV jT vY qW fU jk nP sL ky jY lH i9 nR kN vN qV jZ nM kx fN lC pT gZ fT eA hJ nQ sJ hU dP fL jj eO dU iG i6 mI gc dS kO iH iI eN gC gf pS lD lE lF ja hW nN fM cP fk lW fh d5 dG i8 kg oE cW oD oG gP uS EC IY IM tD DR An DU uQ k7 uP mq Bq IU IL L5 Ez yG Ao uR yF Bp Bm".splitOn " ").toArray.map λs => Lean.mkIdent s.toName
 `(tactic| try simp only [Z7, YI, at2, at3, $[$l:ident],*])
def Kt (F:aD K "sign" "sign" z9 f fd) (C:QI K mg κ)    : aK P w K mg base (CX1 P w) 1 f fd ["number"] (aM K (wc κ)):=by
 refine aD.okN F KY (by fin2) λ_ _ _ _ _ _ a=>⟨_,(aq (aY (aH xI (dv 0) ae) (ar (ay ae)) aN) (aq (aY (aH fK (dv 0) ae) (ar (ay (bU ae))) aN) (ar (ay ae)))),?_⟩
 rintro b Q Ed ⟨n,rfl,h⟩;x_go;unfold qW at h;lk;unfold sg at h
 lia
def rh (F:aD K "common_divisor" "common_divisor" gK f fd) (C:QI K mg κ)   (a:mg "abs" = none):aK P w K mg base (CX1 P w) 1 f fd ["one", "other"] (aM K (fW κ)):=by
 refine aD.okN F dq (by fin2) λ_ _ _ _ _ _ d=>⟨_,(aq (nk PassesOwn.never (aH kK (dv 1) ae) (aq (aL 2 dq.nd (ax cG (dv 0) (dv 1))) (aq (aL 0 dq.nd (dv 1)) (ar (aL 1 dq.nd (dv 2)))))) (ar (ay (aF o5 (by rfl) a boot_abs (aa (dv 0) ah))))),?_⟩
 rintro e Q Ed ⟨a,b,rfl,h⟩;refine⟨λm c=>∃(x y:Int) (r:Option Sl),c=[some (.val (.int x)),some (.val (.int y)),r]/\Int.gcd x y=Int.gcd a b/\m=y.natAbs,⟨_,a,b,none,rfl,rfl,rfl⟩,?_⟩;rintro m c ⟨x,y,r,rfl,b,rfl⟩;lk;by_cases a:y=0
 simp_all
 rw[Po a];exact⟨a,_,PM.wL x a,y,x.fmod y,_,rfl,(PM.y6 x y).trans b,rfl⟩
def Fw (F:aD K "lowest" "lowest" nY f fd) (C:QI K mg κ)  (b:kB P w K mg base κ)  : aK P w K mg base (CX1 P w) 2 f fd ["numbers"] (aM K (jx κ)):=by
 refine aD.okN F lL (by fin2) λ_ _ _ _ _ _ a=>⟨_,(aq (aL 1 lL.nd ae) (aq (bT PassesOwn.never rfl (aP (dv 0)) (bu 2 lL.nd) (ar (aL 1 lL.nd (av b a (aa (dv 1) (aa (dv 2) ah)))))) (ar (ay (bP (by rfl) (by exact aX (osc:=ak nY) (xs:=["number"]) (ns:=["divisor"]) (by decide +kernel)) (aS.cons 1 aS.nil) (aP (dv 0)) (λ_ _ _ _ _=>bF) (λ_ _ _ _ _=>(ax iF (dv 0) (dv 1)))))))),?_⟩
 rintro i Q Ed ⟨ns,rfl,h⟩;x_go;obtain⟨g,c,d,h⟩:=h;lk;refine PD.bL ns D.int (λj b=>∃a:Option Sl,b=[some (.val (.lst false (ns.map D.int))),some (.val (.int (cg 0 (ns.take j)))),a]) (λR q=>?_) ⟨none,rfl⟩ ?_ ?_;lk;exact q;rintro j x e b ⟨a,rfl⟩;lk
 simp_all [Ys,wN]
 rintro e ⟨a,rfl⟩;rw[Vv];lk;refine PD.comp_map ns D.int (λ_=>true) (λx=>.int (x.fdiv (cg 0 ns))) (λR q=>?_) (by rw[sizeLine_eq];lia) (λx b K a=>?_) (λx b _ K a=>?_) ?_;lk;exact q;exact a;exact⟨⟨c,d.mono (by decide)⟩,a⟩;rw[Tq.mpr (λ_ _=>rfl)];unfold dE at h;rw[QP]at h;exact h
def HH (F:aD K "picks" "picks" qY f fd) (C:QI K mg κ)   (a:mg "range" = none):aK P w K mg base (CX1 P w) 1 f fd ["count", "size"] (aM K (tq κ)):=by
 refine aD.okN F gL (by fin2) λ_ _ _ _ _ _ B=>⟨_,(aq (aL 2 gL.nd (bR (aa (bR ah) ah))) (aq (bT PassesOwn.never rfl (jg (by rfl) a (aa (dv 1) ah)) (bu 3 gL.nd) (aq (fY 4 gL.nd ah) (aq (bT PassesOwn.never rfl (aP (dv 2)) (bu 5 gL.nd) (aq (aL 6 gL.nd (rS (aH xI (dv 3) ae) (ax aZ (au (dv 5) (bU ae)) ae) ae)) (ar (je 4 (bP (by rfl) (by exact aX (osc:=ak qY) (xs:=["number"]) (ns:=["pick"]) (by decide +kernel)) (aS.cons 5 aS.nil) (wO (by rfl) a (aa (dv 6) (aa (dv 0) ah))) (λ_ _ _ _ _=>bF) (λ_ _ _ _ _=>(ax aZ (dv 1) (bR (aa (dv 0) ah))))))))) (cK 4 (ar (aL 2 gL.nd (dv 4))))))) (ar (ay (dv 2))))),?_⟩
 rintro I Q Ed ⟨n,s,rfl,h⟩;x_go;unfold nP at h;obtain⟨m,t,rfl,rfl,E,A,a,h⟩:=h;have i:∀j,j<=t->m ^ j<=1000000:=λj b=>by
  rcases Nat.eq_zero_or_pos m with z|z;rw[z];rcases Nat.eq_zero_or_pos j with y|y;rw[y];decide;rw[Nat.zero_pow y];decide;exact QM (Ym z b) a
 lk;refine⟨RS _,by rw[sizeLine_eq];decide,?_⟩;refine PD.bL (List.range' 0 t) (λ(k:Nat)=>D.int (k:Int)) (λj a=>∃o n d c:Option Sl,a=[some (.val (.int m)),some (.val (.int t)),some (.val (.lst true ((PV m j).map Sa))),o,n,d,c]) (λR q=>?_) ⟨none,none,none,none,rfl⟩ ?_ ?_;lk;rw[zT];exact⟨⟨by lia,by lia⟩,q⟩;rintro j x r e ⟨o,n,d,c,rfl⟩;obtain⟨b,g⟩:=RQ.mp e;rw[VD]at b;rw[zCO]at g;have b:x=j:=by lia
 subst b;lk;refine⟨RS _,?_⟩;refine PD.BH (PV m x) Sa (λdone a=>∃d c:Option Sl,a=[some (.val (.int m)),some (.val (.int t)),some (.val (.lst true ((PV m x).map Sa))),some (.val (.int x)),some (.own ((done.flatMap (UD m)).map Sa)),d,c]) (λR q=>?_) ⟨_,_,rfl⟩ ?_ ?_;lk;exact q;rintro done a p e j ⟨d,c,rfl⟩;obtain⟨b,g⟩:=bW e;have G:dM a<=m:=by
  unfold dM;cases e:a.getLast? with
  |none=>exact RS _
  |some l=>have:=g l (List.mem_of_getLast? e);exact this
 have dl:done.length*m<=1000000:=QM (Y4 m (QM (V7 j) (vA m x))) (by rw[<- Xb];exact i _ (by lia));have H:=yY m done;have u:(UD m a).length<=1000:=by unfold UD;rw[Pq,VD];lia
 have rest:∀(v:D) (g:D->Prop),v=.int (dM a)->g (.lst true ((UD m a).map Sa))->qG (CT (tP (lS 6) (tP (lS 0) CS))) [5] yD (dOp xK (lS 1) (G4 (tP (lS 0) CS))) [some (.val (.int m)),some (.val (.int t)),some (.val (.lst true ((PV m x).map Sa))),some (.val (.int x)),some (.own ((done.flatMap (UD m)).map Sa)),some (.val (Sa a)),some (.val v)] g:=by
  rintro v g rfl i;refine PD.comp_map (List.range' (dM a) (m - dM a)) (λ(k:Nat)=>D.int (k:Int)) (λ_=>true) (λk=>Sa (a++[k])) (λR q=>?_) (by rw[VD,sizeLine_eq];lia) (λk j K g=>?_) (λk j _ K g=>?_) ?_;lk;rw[Cb];exact⟨⟨by lia,by lia⟩,⟨by lia,by lia⟩,q⟩;lk;exact g;unfold Sa at g ⊢;lk;rw[Sb]at g;refine⟨sz1 _,?_,g⟩;rw[Pq,sizeLine_eq,b];show x+1<=_
  lia
  rw[Tq.mpr (λ_ _=>rfl)];unfold UD at i;rw[QP]at i;exact i
 have g:∀v:D,∃xs,D.lst true ((UD m a).map Sa)=D.lst true xs/\(List.map Sa (List.flatMap (UD m) done)).length+xs.length<=sizeLine/\∃d c:Option Sl,([some (Sl.val (D.int m)),some (Sl.val (D.int t)),some (Sl.val (D.lst true (List.map Sa (PV m x)))),some (Sl.val (D.int x)),some (Sl.own (List.map Sa (List.flatMap (UD m) done)++xs)),some (Sl.val (Sa a)),some (Sl.val v)]:Ro)=[some (Sl.val (D.int m)),some (Sl.val (D.int t)),some (Sl.val (D.lst true (List.map Sa (PV m x)))),some (Sl.val (D.int x)),some (Sl.own (List.map Sa (List.flatMap (UD m) (done++[a])))),d,c]:=λv =>
  ⟨_,rfl,by rw[Pq,Pq,sizeLine_eq];lia,_,_,by rw[List.flatMap_append,Sb,List.flatMap_singleton]⟩
 lk;by_cases i:x=0;subst i;have:a=[]:=zC4 b;subst this;rw[Po (by lia)];exact rest _ _ rfl (g _);rw[Pt (by lia)];have j:a ≠ []:=λe=>i (by rw[<- b,e];rfl)
 show vK (.lst true (a.map λ(k:Nat)=>D.int (k:Int))) _ _;rw[sI];refine JA j ?_;rw[Ea];exact rest _ _ (by congr 1;lia) (g _);rintro p ⟨d,c,rfl⟩;lk;exact⟨_,_,_,_,rfl⟩;rintro r ⟨o,n,d,c,rfl⟩;lk;rw[VD];exact h
def HK (F:aD K "value" "value" vS f fd) (C:QI K mg κ)    : aK P w K mg base (CX1 P w) 1 f fd ["gauge", "place"] (aM K (tw κ)):=by
 refine aD.okN F Ip (by fin2) λ_ _ _ _ _ _ g=>⟨_,(ar (ay (ax aZ (ax aZ (ax aI (au (dv 0) ae) (au (dv 1) ae)) (ax aI (au (dv 0) ae) (au (dv 1) ae))) (ax aI (au (dv 0) ae) (au (dv 1) ae))))),?_⟩
 rintro l Q Ed ⟨k,j,i,e,d,c,rfl,h⟩;x_go;have m:∀{x y:Int},Bd 1000 x->Bd 1000 y->CM x y:=λb a=>.inr (.inr ⟨b.mono (by decide),a.mono (by decide)⟩)
 lk
 simp_all
def Ks (F:aD K "side" "side" zZ f fd) (C:QI K mg κ)  (b:Lu P w K mg base κ) (c:Bf P w K mg base κ)  : aK P w K mg base (CX1 P w) 2 f fd ["gauge", "place"] (aM K (iX κ)):=by
 refine aD.okN F KW (by fin2) λ_ _ _ _ _ _ a=>⟨_,(ar (ay (av b a (aa (av c a (aa (dv 0) (aa (dv 1) ah))) ah)))),?_⟩
 rintro l Q Ed ⟨k,j,i,g,e,d,rfl,h⟩;x_go;lk
 simp_all
def Dl (F:aD K "crossed" "crossed" pW f fd) (C:QI K mg κ)    : aK P w K mg base (CX1 P w) 1 f fd ["one", "other"] (aM K (j8 κ)):=by
 refine aD.okN F Dx (by fin2) λ_ _ _ _ _ _ l=>⟨_,(ar (ay (bg (aa (ax bK (ax aI (au (dv 0) ae) (au (dv 1) ae)) (ax aI (au (dv 1) ae) (au (dv 0) ae))) (aa (ax bK (ax aI (au (dv 0) ae) (au (dv 1) ae)) (ax aI (au (dv 1) ae) (au (dv 0) ae))) (aa (ax bK (ax aI (au (dv 0) ae) (au (dv 1) ae)) (ax aI (au (dv 1) ae) (au (dv 0) ae))) ah)))))),?_⟩
 rintro m Q Ed ⟨s,r,q,p,o,n,rfl,h⟩;x_go;obtain⟨i,g,e,d,c,b,h⟩:=h;have a:∀{x y:Int},Bd 200 x->Bd 200 y->CM x y:=λk j=>.inr (.inr ⟨k.mono (by decide),j.mono (by decide)⟩)
 lk;exact⟨a g b,a c e,a e d,a b i,a i c,a d g,Xp _ _ _,h⟩
def Fu (F:aD K "facing" "facing" sO f fd) (C:QI K mg κ)    : aK P w K mg base (CX1 P w) 1 f fd ["place", "way"] (aM K (dh κ)):=by
 refine aD.okN F FV (by fin2) λ_ _ _ _ _ _ j=>⟨_,(ar (ay (bg (aa (bU (ax aZ (ax aI (au (dv 1) ae) (au (dv 0) ae)) (ax aI (au (dv 1) ae) (au (dv 0) ae)))) (aa (ax aI (au (dv 1) ae) (au (dv 0) ae)) (aa (ax aI (au (dv 1) ae) (au (dv 0) ae)) ah)))))),?_⟩
 rintro k Q Ed ⟨i,g,e,w,rfl,h⟩;x_go;obtain⟨b,d,c,a,h⟩:=h;unfold PL;lk;exact⟨S7 a.x d,S7 a.y c,S7 a.x b,S7 a.y b,Xp _ _ _,h⟩
def AW (F:aD K "place_of" "place_of" nZ f fd) (C:QI K mg κ)    : aK P w K mg base (CX1 P w) 1 f fd ["spot"] (aM K (mj κ)):=by
 refine aD.okN F A0 (by fin2) λ_ _ _ _ _ _ a=>⟨_,(ar (ay (bg (aa ae (aa (au (dv 0) ae) (aa (au (dv 0) ae) ah)))))),?_⟩
 rintro b Q Ed ⟨d,rfl,h⟩;x_go;unfold i9 at h;obtain⟨p,rfl,q⟩:=h;unfold PL;lk;exact⟨Xp _ _ _,q⟩
def HJ (F:aD K "swing" "swing" vR f fd) (C:QI K mg κ)    : aK P w K mg base (CX1 P w) 1 f fd ["one", "two", "three"] (aM K (oA κ)):=by
 refine aD.okN F Im (by fin2) λ_ _ _ _ _ _ l=>⟨_,(ar (ay (ax aZ (ax aZ (ax aI (au (dv 0) ae) (ax bK (ax aI (au (dv 1) ae) (au (dv 2) ae)) (ax aI (au (dv 2) ae) (au (dv 1) ae)))) (ax aI (au (dv 1) ae) (ax bK (ax aI (au (dv 2) ae) (au (dv 0) ae)) (ax aI (au (dv 0) ae) (au (dv 2) ae))))) (ax aI (au (dv 2) ae) (ax bK (ax aI (au (dv 0) ae) (au (dv 1) ae)) (ax aI (au (dv 1) ae) (au (dv 0) ae))))))),?_⟩
 rintro u Q Ed ⟨L,J,I,H,G,E,B,A,z,rfl,h⟩;x_go;obtain⟨t,i,g,n,e,d,m,c,b,h⟩:=h;have a:∀{x y:Int},Bd 1000 x->Bd 1000 y->CM x y:=λj k=>.inr (.inr ⟨j.mono (by decide),k.mono (by decide)⟩)
 have k:∀{x p q r s:Int},Bd 1000 x->Bd 1000 p->Bd 1000 q->Bd 1000 r->Bd 1000 s->CM x (p*q - r*s):=λj q p l o=>.inr (.inr ⟨j.mono (by decide),((q.mul p).sub (l.mul o)).mono (by decide)⟩)
 lk;exact⟨a e b,a c d,k t e b c d,a c g,a i b,k n c g i b,a i d,a e g,k m i d e g,h⟩
def HE (F:aD K "arrow" "arrow" vO f fd) (C:QI K mg κ)    : aK P w K mg base (CX1 P w) 1 f fd ["one", "other"] (aM K (kS κ)):=by
 refine aD.okN F Ik (by fin2) λ_ _ _ _ _ _ i=>⟨_,(ar (ay (bg (aa (ax bK (ax aI (au (dv 0) ae) (au (dv 1) ae)) (ax aI (au (dv 1) ae) (au (dv 0) ae))) (aa (ax bK (ax aI (au (dv 0) ae) (au (dv 1) ae)) (ax aI (au (dv 1) ae) (au (dv 0) ae))) ah))))),?_⟩
 rintro j Q Ed ⟨p,o,n,m,l,k,rfl,h⟩;x_go;obtain⟨b,g,e,a,d,c,h⟩:=h;lk;exact⟨S7 b d,S7 a g,S7 b c,S7 a e,UP _ _,h⟩
def Ku (F:aD K "turn" "turn" Aa f fd) (C:QI K mg κ)    : aK P w K mg base (CX1 P w) 1 f fd ["one", "other"] (aM K (wg κ)):=by
 refine aD.okN F KZ (by fin2) λ_ _ _ _ _ _ c=>⟨_,(ar (ay (ax bK (ax aI (au (dv 0) ae) (au (dv 1) ae)) (ax aI (au (dv 1) ae) (au (dv 0) ae))))),?_⟩
 rintro d Q Ed ⟨a,b,rfl,h⟩;x_go;obtain⟨b,a,h⟩:=h;unfold PL;lk;exact⟨S7 b.x a.y,S7 a.x b.y,h⟩
def Kp (F:aD K "back" "back" zW f fd) (C:QI K mg κ)    : aK P w K mg base (CX1 P w) 1 f fd ["way"] (aM K (mL κ)):=by
 refine aD.okN F KU (by fin2) λ_ _ _ _ _ _ a=>⟨_,(ar (ay (bg (aa (bU (au (dv 0) ae)) (aa (bU (au (dv 0) ae)) ah))))),?_⟩
 rintro b Q Ed ⟨w,rfl,h⟩;x_go;unfold qV at h;unfold PL at h ⊢;lk;exact⟨UP _ _,h⟩
def Dm (F:aD K "left_of" "left_of" pX f fd) (C:QI K mg κ)    : aK P w K mg base (CX1 P w) 1 f fd ["way"] (aM K (j9 κ)):=by
 refine aD.okN F Dy (by fin2) λ_ _ _ _ _ _ a=>⟨_,(ar (ay (bg (aa (bU (au (dv 0) ae)) (aa (au (dv 0) ae) ah))))),?_⟩
 rintro b Q Ed ⟨w,rfl,h⟩;x_go;unfold jZ at h;unfold PL at h ⊢;lk;exact⟨UP _ _,h⟩
def HF (F:aD K "chain" "chain" vP f fd) (C:QI K mg κ)  (b:Jv P w K mg base κ) (c:mg "len" = none):aK P w K mg base (CX1 P w) 2 f fd ["places"] (aM K (sW κ)):=by
 refine aD.okN F sR (by fin2) λ_ _ _ _ _ _ a=>⟨_,(aq (fY 1 sR.nd ah) (aq (bT PassesOwn.never rfl (aP (dv 0)) (bu 2 sR.nd) (aq (nk PassesOwn.never (Bz 1 (Ui.pt (yS (aH xI (aF bf (by rfl) c So (aa (dv 1) ah)) ae) (vo (aH xJ (av b a (aa (au (dv 1) (bU ae)) (aa (au (dv 1) (bU ae)) (aa (dv 2) ah)))) ae))))) (ar (Mi 1))) (ar (jd 1 (dv 2))))) (cK 1 (ar (ay (dv 1)))))),?_⟩
 rintro t Q Ed ⟨a,rfl,h⟩;x_go;obtain⟨s,i,h⟩:=h;lk;refine⟨RS _,?_⟩;refine PD.BH a QJ (λdone b=>∃v:Option Sl,b=[some (.val (.lst false (a.map QJ))),some (.own ((bQ [] done).reverse.map QJ)),v]/\(bQ [] done).length<=done.length/\∀p∈bQ [] done,SB p) ?_ ?_ ?_ ?_;intro R c;lk;exact c;exact⟨none,rfl,Qu _,by simp[bQ]⟩
 ·rintro done x q c R6 ⟨v,rfl,e,d⟩;refine⟨λm b=>∃st:yau,b=[some (.val (.lst false (a.map QJ))),some (.own (st.reverse.map QJ)),some (.val (QJ x))]/\m=st.length/\cQ st x=cQ (bQ [] done) x/\st.length<=done.length/\∀p∈st,SB p,⟨_,_,rfl,rfl,rfl,e,d⟩,?_⟩;rintro m b ⟨st,rfl,rfl,j,o,g⟩;have d:cQ st x=st->((st.reverse.map QJ).length<sizeLine/\∃v:Option Sl,([some (.val (.lst false (a.map QJ))),some (.own (st.reverse.map QJ++[QJ x])),some (.val (QJ x))]:Ro)=[some (.val (.lst false (a.map QJ))),some (.own ((bQ [] (done++[x])).reverse.map QJ)),v]/\(bQ [] (done++[x])).length<=(done++[x]).length/\∀p∈bQ [] (done++[x]),SB p):=λe=>by
   have a:bQ [] (done++[x])=x::st:=by rw[rC,<- j,e]
   rw[a];refine⟨by rw[Pq,WE,sizeLine_eq];lia,_,by rw[zCi,Sb];rfl,by simp;lia,λp e=>?_⟩;rcases Qg.mp e with z|z;rw[z];exact i x c;exact g p z
  lk;rcases st with _|⟨b,_|⟨a,r⟩⟩;exact d rfl;exact d rfl
  ·rw[Pt (by simp;lia)];have k:(b::a::r).reverse.map QJ=r.reverse.map QJ++[QJ a]++[QJ b]:=by simp
   have n:=g a (by simp);have m:=g b (by simp);have l:=i x c;have c:Bd 1000 1:=by unfold Bd;decide
   refine⟨_,by rw[k];exact Ee _ _ _,_,by rw[k];exact GO _ _,?_⟩;show oA κ [T3 1 a.1 a.2,T3 1 b.1 b.2,T3 1 x.1 x.2] _ _;rw[rL,nR];refine⟨c,n.x.mono (by decide),n.y.mono (by decide),c,m.x.mono (by decide),m.y.mono (by decide),c,l.x.mono (by decide),l.y.mono (by decide),?_⟩;refine⟨_,rfl,?_⟩;by_cases c:sw 1 a.1 a.2 1 b.1 b.2 1 x.1 x.2<=0
   ·have i:cr a b x<=0:=c;rw[Pt (by simpa using c)];refine⟨by simp,(a::r).length,by simp,a::r,?_,rfl,?_,?_,λp e=>g p (R4 _ e)⟩;simp
    ·rw[<- j];conv=>rhs;unfold cQ
     rw[Pt i]
    simp at o ⊢;lia
   have i:¬cr a b x<=0:=c;rw[Po (by simpa using c)];exact d (by unfold cQ;rw[Po i])
 rintro q ⟨v,rfl,_⟩;lk;exact h
def Kr (F:aD K "hull" "hull" uE f fd) (C:QI K mg κ)  (b:Js P w K mg base κ) (d:tL P w K mg base κ) (g:mg "len" = none) (c:mg "set" = none) (e:mg "sorted" = none):aK P w K mg base (CX1 P w) 3 f fd ["spots"] (aM K (mP κ)):=by
 refine aD.okN F Cf (by fin2) λ_ _ _ _ _ _ a=>⟨_,(aq (fF 1 Cf.nd (by rfl) (by exact aX (osc:=ak uE) (xs:=["spot"]) (ns:=[]) (by decide +kernel)) aS.nil (aP ((CW rfl (by exact MF a) (by rfl) e (by rfl) c (dv 0))).VW) (λ_ _ _ _ _=>bF) (λ_ _ _ _ _=>(av d a (aa (dv 0) ah)))) (aq (aY (aH fK (aF bf (by rfl) g So (aa (dv 1) ah)) ae) (ar (ay (dv 1))) aN) (ar (ay (ax aZ (TP.VW (eZ (av b a (aa (dv 1) ah)) cu (cH (bU ae)))) (TP.VW (eZ (av b a (aa (TP.VW (Md (dv 1))) ah)) cu (cH (bU ae))))))))),?_⟩
 rintro o Q Ed ⟨c,rfl,h⟩;x_go;unfold kx at h;obtain⟨n,i,h⟩:=h;lk;refine yw (P:=λa=>cO a c/\a.length<=c.length) PL QJ (λR g=>?_) (λa b=>by rw[sizeLine_eq];omega) (λa b x m K k=>?_) λa b=>?_
 refine⟨false,c.map WT,by rw[Jn],by rw[Pq];omega,λk d=>?_,λj c=>?_⟩;obtain⟨p,_,e⟩:=P6.mp d;rw[<- e];exact List.cons_ne_nil _ _;obtain⟨a,rfl,b⟩:=FN c;rw[<- Jn];exact⟨true,_,rfl,g a ⟨b,sH b⟩⟩;lk;exact⟨x,oE x,k⟩;have l:=b.2;have g:∀p∈a,SB p:=λp e=>i p ((b.1.2 p).mp e)
 have d:=h a b.1 b.2;have c:=gI [] a;have b:=gI [] a.reverse;simp only[Y9,WE]at c b;unfold aV at d;lk;rw[Pq];split;rename_i c;rw[Pt (by omega)]at d;exact d;rename_i c;rw[Po (by omega)]at d;refine⟨by omega,g,?_⟩;rw[<- List.map_reverse,oG,rK,nM];refine⟨by rw[WE];omega,λp e=>g p (List.mem_reverse.mp e),true,_,rfl,?_⟩;rw[yB,yB];refine⟨?_,?_⟩;rw[XO,XO,Pq,Pq,WE,WE,sizeLine_eq];omega;rw[<- List.map_dropLast,<- List.map_dropLast,<- Sb];exact d
def vI (F:aD K "thin_bounds" "thin_bounds" jO f fd) (C:QI K mg κ)  (e:Be P w K mg base κ) (c:Lo P w K mg base κ) (b:GA P w K mg base κ) (d:D3 P w K mg base κ)  : aK P w K mg base (CX1 P w) 2 f fd ["one", "other"] (aM K (iY κ)):=by
 refine aD.okN F iQ (by fin2) λ_ _ _ _ _ _ a=>⟨_,(aq (aL 2 iQ.nd (rS (aH (Jf (by exact a.units)) (dv 0) (dv 1)) (av e a (aa (dv 0) (aa (dv 1) ah))) (bg (aa ae (aa ae ah))))) (aq (aL 3 iQ.nd (av d a (aa (dv 2) ah))) (ar (ay (bR (aa (av b a (aa (dv 0) (aa (dv 2) ah))) (aa (av b a (aa (dv 1) (aa (av c a (aa (dv 2) ah)) ah))) (aa (av b a (aa (dv 0) (aa (dv 3) ah))) (aa (av b a (aa (dv 0) (aa (av c a (aa (dv 3) ah)) ah))) ah))))))))),?_⟩
 rintro r Q Ed ⟨a,b,rfl,h⟩;x_go;obtain⟨l,k,h⟩:=h;have j:Bd 200 1:=by unfold Bd;decide
 have q:∀(p w:Sp) (K:D->Prop),SB p->WB 62 w->K (PK (cA p w))->dh κ [QJ p,PL w] K λ_=>False:=λp w K d c e=>by show dh κ [T3 1 p.1 p.2,PL w] K _;rw[qp,lH];exact⟨j,d.x.mono (by decide),d.y.mono (by decide),c.mono (by decide),e⟩
 have n:∀{w:Sp},WB 62 w->WB 62 (Vi w):=λc=>⟨oZ c.x,oZ c.y⟩
 have m:∀{w:Sp},WB 62 w->WB 62 (UE w):=λc=>⟨oZ c.y,c.x⟩
 have i:∀w:Sp,WB 62 w->Q (.lst true ([cA a w,cA b (Vi w),cA a (UE w),cA a (Vi (UE w))].map PK))->j9 κ [PL w] (λd=>dh κ [QJ a,PL w] (λx=>mL κ [PL w] (λe=>dh κ [QJ b,aG e] (λg=>dh κ [QJ a,aG d] (λe=>mL κ [aG d] (λd=>dh κ [QJ a,aG d] (λd=>[x,g,e,d].length<=sizeLine/\Q (D.lst true [x,g,e,d])) λ_=>False) λ_=>False) λ_=>False) λ_=>False) λ_=>False) λ_=>False) λ_=>False:=λw c o=>by grind [oO,uL,oE,sz4]
 unfold eS aU at h;lk;refine⟨(Fm a).ok,(Fm b).ok,?_⟩;by_cases c:a=b;rw[Pt c]at h;rw[Po (by rw[c,nu];simp)];exact⟨UP _ _,i (1,0) ⟨by unfold Bd;decide,by unfold Bd;decide⟩ h⟩;rw[Po c]at h;rw[Pt (by rw[Mo];simpa using c)];show kS κ [T3 1 a.1 a.2,T3 1 b.1 b.2] _ _;rw[l7,kN];refine⟨j,l.x.mono (by decide),l.y.mono (by decide),j,k.x.mono (by decide),k.y.mono (by decide),?_⟩;have d:=GK l k;unfold aU at d;rw[Po c]at d;exact i (1*b.1 - 1*a.1,1*b.2 - 1*a.2) d h
def Fn (F:aD K "bounds" "bounds" nU f fd) (C:QI K mg κ)  (c:DZ P w K mg base κ) (d:xq P w K mg base κ) (b:mg "len" = none) (e:mg "range" = none):aK P w K mg base (CX1 P w) 3 f fd ["corners"] (aM K (qa κ)):=by
 refine aD.okN F FU (by fin2) λ_ _ _ _ _ _ a=>⟨_,(aq (aY (aH fK (aF bf (by rfl) b So (aa (dv 0) ah)) ae) (ar (ay (av d a (aa (au (dv 0) ae) (aa (au (dv 0) (bU ae)) ah))))) aN) (ar (ay (bP (by rfl) (by exact aX (osc:=ak nU) (xs:=["index"]) (ns:=["corners"]) (by decide +kernel)) (aS.cons 0 aS.nil) (jg (by rfl) e (aa (aF bf (by rfl) b So (aa (dv 0) ah)) ah)) (λ_ _ _ _ _=>bF) (λ_ _ _ _ _=>(av c a (aa (au (dv 1) (ax bK (dv 0) ae)) (aa (au (dv 1) (dv 0)) ah)))))))),?_⟩
 rintro n Q Ed ⟨a,rfl,h⟩;x_go;obtain⟨b,l,c,h⟩:=h;unfold aO at h;have e:∀i,i<a.length->a[i]?=some (a.getD i (0,0)):=by grind
 have d:∀i,i<a.length->SB (a.getD i (0,0)):=λi m=>c _ (by simp_all)
 lk;rw[Pq];by_cases c:a.length<3;rw[Pt (by lia)];rw[Pt c]at h;refine⟨_,bD (j:=0) (by rw[QZ,e 0 b];rfl),_,Ec (by rw[Pq];exact b) (by rw[Pq,QZ,e _ (by lia)];rfl),?_⟩;rw[oD,oD,jU,fN];exact⟨d 0 b,d _ (by lia),h⟩;rw[Po (by lia)];rw[Po c]at h;refine PD.comp_map (List.range' 0 a.length) (λ(k:Nat)=>D.int (k:Int)) (λ_=>true) (λk=>PK (eV (bS a k) (a.getD k (0,0)))) (λR q=>?_) (by grind [List.length_range',sizeLine_eq]) (λk g K c=>?_) (λk g _ K c=>?_) ?_;lk;rw[Pq,zT];exact⟨⟨by lia,by lia⟩,q⟩;lk;exact c;have i:k<a.length:=by grind
 have g:(k+a.length - 1) % a.length<a.length:=Xc _ b;have YI:Rz (a.map QJ) ((k:Int) - 1)=some (QJ (bS a k)):=by have:=ye (a.map QJ) k 1 (by simp_all) (by rw[Pq];exact b);rw[Pq,QZ,e _ g]at this;exact this
 have Z7:Rz (a.map QJ) (k:Int)=some (QJ (a.getD k (0,0))):=bD (by simp_all);have e:SB (bS a k):=d _ g;have g:=d k i;have b:Bd 200 1:=by unfold Bd;decide
 lk;refine⟨_,YI,_,Z7,?_⟩;show j8 κ [T3 1 (bS a k).1 (bS a k).2,T3 1 (a.getD k (0,0)).1 (a.getD k (0,0)).2] _ _;rw[oN,jY];exact⟨b,e.x.mono (by decide),e.y.mono (by decide),b,g.x.mono (by decide),g.y.mono (by decide),c⟩;rw[Tq.mpr (λ_ _=>rfl)];rw[QP]at h;exact h
def Fv (F:aD K "length" "length" sQ f fd) (C:QI K mg κ)   (a:mg "abs" = none):aK P w K mg base (CX1 P w) 1 f fd ["way"] (aM K (qq κ)):=by
 refine aD.okN F FW (by fin2) λ_ _ _ _ _ _ b=>⟨_,(ar (ay (ax aZ (aF o5 (by rfl) a boot_abs (aa (au (dv 0) ae) ah)) (aF o5 (by rfl) a boot_abs (aa (au (dv 0) ae) ah))))),?_⟩
 rintro c Q Ed ⟨w,rfl,h⟩;x_go;unfold PL;lk;exact h
def uv (F:aD K "are_opposite" "are_opposite" iJ f fd) (C:QI K mg κ)  (b:D8 P w K mg base κ)  : aK P w K mg base (CX1 P w) 2 f fd ["one", "other"] (aM K (iq κ)):=by
 refine aD.okN F uF (by fin2) λ_ _ _ _ _ _ a=>⟨_,(ar (ay (pB (kE cF (av b a (aa (dv 0) (aa (dv 1) ah))) ae) (pC (kE fK (ax aZ (ax aI (au (dv 0) ae) (au (dv 1) ae)) (ax aI (au (dv 0) ae) (au (dv 1) ae))) ae))))),?_⟩
 rintro g Q Ed ⟨a,b,rfl,h⟩;x_go;obtain⟨e,d,h⟩:=h;lk;refine⟨e,d,?_⟩;by_cases c:tn a b=0;rw[Pt c];unfold PL;lk;refine⟨S7 e.x d.x,S7 e.y d.y,?_⟩;have e:decide (tn a b=0/\Qf a b<0)=decide (a.1*b.1+a.2*b.2<0):=by rw[decide_eq_decide];exact⟨λq=>q.2,λq=>⟨c,q⟩⟩
 simp_all
 simp_all
def rg (F:aD K "balance_of_two" "balance_of_two" gJ f fd) (C:QI K mg κ)  (c:uY P w K mg base κ) (b:xU P w K mg base κ) (d:xV P w K mg base κ)  : aK P w K mg base (CX1 P w) 3 f fd ["one", "other"] (aM K (fV κ)):=by
 refine aD.okN F rj (by fin2) λ_ _ _ _ _ _ a=>⟨_,(aq (aY (cf (cC (av c a (aa (dv 0) (aa (dv 1) ah))))) (ar (ay dR)) aN) (ar (ay (av d a (aa (bR (aa (av b a (aa (dv 1) ah)) (aa (av b a (aa (dv 0) ah)) ah))) ah))))),?_⟩
 rintro j Q Ed ⟨a,b,rfl,h⟩;x_go;obtain⟨d,c,h⟩:=h;lk;refine⟨d,c,?_⟩;unfold lR at h;split;rename_i c;rw[Pt c]at h;have g:a≠(0,0):=λe=>by have:=c.2;unfold Qf at this;simp_all
 have i:=sd g;have e:Bd 402 (bH a):=vw d;refine⟨UP _ _,?_⟩;show jx κ [D.lst false ([bH b,bH a].map D.int)] _ _;rw[kY,jk];have g:=J0 (d:=bH b) (x:=bH a) (by lia);exact⟨by simp,by show((Int.gcd ((Int.gcd 0 (bH b):Nat):Int) (bH a):Nat):Int)≠0;lia,Hj e (by lia),h⟩;rename_i c;rw[Po c]at h;exact h
def oR (F:aD K "balance_of_three" "balance_of_three" dg f fd) (C:QI K mg κ)  (e:xV P w K mg base κ) (b:D8 P w K mg base κ) (d:mg "max" = none) (c:mg "min" = none):aK P w K mg base (CX1 P w) 3 f fd ["one", "two", "three"] (aM K (eG κ)):=by
 refine aD.okN F eB (by fin2) λ_ _ _ _ _ _ a=>⟨_,(aq (aL 3 eB.nd (bR (aa (av b a (aa (dv 1) (aa (dv 2) ah))) (aa (av b a (aa (dv 2) (aa (dv 0) ah))) (aa (av b a (aa (dv 0) (aa (dv 1) ah))) ah))))) (aq (aY (aH fK (aF (JE rfl) (by rfl) d boot_max (aa (dv 3) ah)) ae) (ar (fF 3 eB.nd (by rfl) (by exact aX (osc:=ak dg) (xs:=["each"]) (ns:=[]) (by decide +kernel)) aS.nil (aP (dv 3)) (λ_ _ _ _ _=>bF) (λ_ _ _ _ _=>(bU (dv 0))))) aN) (aq (aY (aH xJ (aF (JF rfl) (by rfl) c boot_min (aa (dv 3) ah)) ae) (ar (ay dR)) aN) (ar (ay (av e a (aa (dv 3) ah))))))),?_⟩
 rintro E Q Ed ⟨a,b,e,rfl,h⟩;x_go;obtain⟨d,c,g,h⟩:=h;have i:Bd 801 (tn a b):=(d.x.mul c.y).sub (c.x.mul d.y);unfold jG at h;generalize e1:tn b e=x at *;generalize e2:tn e a=y at *;generalize e3:tn a b=z at *;have b:∀u v w:Int,Bd 801 w->0<w->Q (.lst true ((dE [u,v,w]).map D.int))->jx κ [D.lst false ([u,v,w].map D.int)] Q λ_=>False:=λu v w e j q=>by
  rw[kY,jk];have a:w≠0:=by lia
  have B:0<Int.gcd ((Int.gcd ((Int.gcd 0 u:Nat):Int) v:Nat):Int) w:=Int.gcd_pos_iff.mpr (.inr a);exact⟨by simp,by show((Int.gcd ((Int.gcd ((Int.gcd 0 u:Nat):Int) v:Nat):Int) w:Nat):Int)≠0;lia,(EM e a).mono (by decide),q⟩
 lk;refine⟨c,g,g,d,d,c,?_⟩;rw[e1,e2,e3];refine⟨Xp _ _ _,.inr ⟨true,[x,y,z],rfl,by simp,λm c a=>?_⟩⟩;have A:=a x (by simp);have t:=a y (by simp);have s:=a z (by simp);have r:m=x∨m=y∨m=z:=by simpa using c
 split;rename_i c;refine PD.comp_map [x,y,z] D.int (λ_=>true) (λk=>.int (-k)) (λR q=>?_) (by rw[sizeLine_eq];simp) (λk d K a=>?_) (λk d _ K a=>?_) ?_;lk;exact q;lk;exact a;lk;exact a;refine⟨true,[-x,-y,-z],rfl,by simp,λn d a=>?_⟩;have e:n=-x∨n=-y∨n=-z:=by simpa using d
 rw[Po (by lia)]at h ⊢;rw[Pt (by lia)]at h;exact b _ _ _ (oZ i) (by lia) h;rename_i c;refine⟨true,[x,y,z],rfl,by simp,λn d a=>?_⟩;have e:n=x∨n=y∨n=z:=by simpa using d
 have p:=a x (by simp);have o:=a y (by simp);have l:=a z (by simp);split;rename_i d;rw[Po (by lia),Po (by lia)]at h;exact h;rename_i d;rw[Pt (by lia)]at h;exact b _ _ _ i (by lia) h
def Dj (F:aD K "balance" "balance" pV f fd) (C:QI K mg κ)  (e:oU P w K mg base κ) (d:rP P w K mg base κ) (c:xU P w K mg base κ) (b:mg "len" = none):aK P w K mg base (CX1 P w) 4 f fd ["ways"] (aM K (og κ)):=by
 refine aD.okN F Dw (by fin2) λ_ _ _ _ _ _ a=>⟨_,(aq (aY (aH cF (aF bf (by rfl) b So (aa (dv 0) ah)) ae) (ar (ay (rS (aH cF (av c a (aa (au (dv 0) ae) ah)) ae) (bR (aa ae ah)) dR))) aN) (aq (aY (aH cF (aF bf (by rfl) b So (aa (dv 0) ah)) ae) (ar (ay (av d a (aa (au (dv 0) ae) (aa (au (dv 0) ae) ah))))) aN) (ar (ay (av e a (aa (au (dv 0) ae) (aa (au (dv 0) ae) (aa (au (dv 0) ae) ah)))))))),?_⟩
 rintro j Q Ed ⟨a,rfl,h⟩;x_go;obtain⟨c,g,i,h⟩:=h;rcases a with _|⟨a,_|⟨b,_|⟨e,_|⟨z,r⟩⟩⟩⟩;simp at c;have d:Q (oL (mV a)):=h;unfold mV at d;lk;by_cases c:bH a=0;rw[Pt c]at d ⊢;exact⟨sz1 _,d⟩;rw[Po c]at d ⊢;exact d;have d:Q (oL (lR a b)):=h;lk
 simp_all
 have d:Q (oL (jG a b e)):=h;lk
 simp_all
 simp at g
 lia
def Dq (F:aD K "reduced" "reduced" pY f fd) (C:QI K mg κ)  (b:kB P w K mg base κ)  : aK P w K mg base (CX1 P w) 2 f fd ["triple", "lead"] (aM K (oz κ)):=by
 refine aD.okN F n9 (by fin2) λ_ _ _ _ _ _ a=>⟨_,(aq (aL 2 n9.nd (av b a (aa (av b a (aa (au (dv 0) ae) (aa (au (dv 0) ae) ah))) (aa (au (dv 0) ae) ah)))) (aq (aY (aH fK (dv 1) ae) (ar (aL 2 n9.nd (bU (dv 2)))) aN) (ar (ay (bg (aa (ax iF (au (dv 0) ae) (dv 2)) (aa (ax iF (au (dv 0) ae) (dv 2)) (aa (ax iF (au (dv 0) ae) (dv 2)) ah)))))))),?_⟩
 rintro i Q Ed ⟨x,y,z,l,rfl,h⟩;x_go;obtain⟨d,g,b,e,h⟩:=h;have c:=PM.yQ (l:=l) d;have a:=(LC (l:=l) d g b e).mono (show 4000<=8000 by decide);lk;have b:((Int.gcd (Int.gcd x y:Int) z:Nat):Int)=(PM.g3 x y z:Int):=rfl;rw[b];have b:∀g:Int,g=PM.RG x y z l->CD x g/\CD y g/\CD z g/\([D.int (x.fdiv g),.int (y.fdiv g),.int (z.fdiv g)]:yas).length<=sizeLine/\Q (.tup [.int (x.fdiv g),.int (y.fdiv g),.int (z.fdiv g)]):=by rintro g rfl;exact⟨⟨c,a⟩,⟨c,a⟩,⟨c,a⟩,Xp _ _ _,h⟩
 by_cases a:l<0;rw[Pt (by simp_all)];exact b _ (by unfold PM.RG;simp_all);rw[Po (by simp_all)];exact b _ (by unfold PM.RG;rw[Po a])
def HI (F:aD K "place" "place" vQ f fd) (C:QI K mg κ)  (b:D7 P w K mg base κ)  : aK P w K mg base (CX1 P w) 3 f fd ["by", "x", "y"] (aM K (tu κ)):=by
 refine aD.okN F Il (by fin2) λ_ _ _ _ _ _ a=>⟨_,(aq (aY (aH cF (dv 0) ae) (ar nj) aN) (ar (ay (av b a (aa (bg (aa (dv 0) (aa (dv 1) (aa (dv 2) ah)))) (aa (dv 0) ah)))))),?_⟩
 rintro e Q Ed ⟨b,x,y,rfl,h⟩;x_go;obtain⟨a,d,c,b,h⟩:=h;lk;rw[Po a];exact⟨Xp _ _ _,λz=>a z.1,d,c,b,h⟩
def Dn (F:aD K "mixture" "mixture" jq f fd) (C:QI K mg κ)  (Sn:Be P w K mg base κ) (Rf:wu P w K mg base κ) (Qh:mv P w K mg base κ) (QQ:tL P w K mg base κ) (U:mg "len" = none):aK P w K mg base (CX1 P w) 5 f fd ["spots", "place"] (aM K (kc κ)):=by
 refine aD.okN F ik (by fin2) λ_ _ _ _ _ _ C=>⟨_,(aq (aY (aH cF (aF bf (by rfl) U So (aa (dv 0) ah)) ae) (ar nj) aN) (aq (aL 2 ik.nd (bP (by rfl) (by exact aX (osc:=ak jq) (xs:=["spot"]) (ns:=["place"]) (by decide +kernel)) (aS.cons 1 aS.nil) (aP (dv 0)) (λ_ _ _ _ _=>bF) (λ_ _ _ _ _=>(av Sn C (aa (dv 1) (aa (av QQ C (aa (dv 0) ah)) ah)))))) (aq (bT PassesOwn.never rfl (ET (bg (aa ae (aa ae (aa ae ah))))) (bu 3 ik.nd) (ar (bT PassesOwn.never rfl (aP (av Qh C (aa (aF bf (by rfl) U So (aa (dv 0) ah)) (aa (dv 3) ah)))) (bu 4 ik.nd) (aq (aL 5 ik.nd (av Rf C (aa (bP (by rfl) (by exact aX (osc:=ak jq) (xs:=["number"]) (ns:=["ways"]) (by decide +kernel)) (aS.cons 2 aS.nil) (aP (dv 4)) (λ_ _ _ _ _=>bF) (λ_ _ _ _ _=>(au (dv 1) (dv 0)))) ah))) (ar (aY (aH qR (dv 5) dR) (ar (ay (bg (aa pE (aa (dv 4) (aa (dv 5) ah)))))) aN)))))) (ar nj)))),?_⟩
 rintro ds Q Ed ⟨a,d,g,e,rfl,h⟩;x_go;unfold hU at h;obtain⟨hz,hl,O,t,res,o,h⟩:=h;have o1:Bd 200 1:=by unfold Bd;decide
 have YH:cw (a.map (Pz (d,g,e))) (cT a.length)=cw (a.map (Pz (d,g,e))) (vL a.length 0):=by rw[Ic]
 have Y:∀w∈a.map (Pz (d,g,e)),WB 400 w:=λw A=>by obtain⟨p,E,rfl⟩:=P6.mp A;have B:=O p E;refine⟨?_,?_⟩;show Bd 400 (d*p.1 - 1*g);rw[Vx];exact Bd.mono (m:=161) ((t.b.mul B.x).sub t.x) (by decide);show Bd 400 (d*p.2 - 1*e);rw[Vx];exact Bd.mono (m:=161) ((t.b.mul B.y).sub t.y) (by decide)
 lk;rw[Pq,Po (by lia)];refine PD.comp_map a PL (λ_=>true) (λp=>PL (Pz (d,g,e) p)) (λR q=>?_) (by rw[sizeLine_eq];lia) (λp E K u=>?_) (λp E _ K u=>?_) ?_;lk;exact q;lk;exact u;have B:=O p E;lk;refine⟨p,rfl,?_⟩;show kS κ [T3 d g e,T3 1 p.1 p.2] _ _;rw[l7,kN];exact⟨t.b.mono (by decide),t.x.mono (by decide),t.y.mono (by decide),o1,B.x.mono (by decide),B.y.mono (by decide),u⟩;rw[Tq.mpr (λ_ _=>rfl)];have em:a.map (λp=>PL (Pz (d,g,e) p))=(a.map (Pz (d,g,e))).map PL:=by rw[QP];rfl
 rw[em];have wl:(a.map (Pz (d,g,e))).length=a.length:=Pq _;generalize a.map (Pz (d,g,e))=b at *;refine PD.bL [1,2,3] (λ(k:Nat)=>D.int (k:Int)) (λj H=>∃I n l:Option Sl,H=[some (.val (.lst false (a.map PL))),some (.val (T3 d g e)),some (.val (.lst true (b.map PL))),I,n,l]/\cw b (cT a.length)=cw b (vL a.length j)) (λR q=>?_) ⟨none,none,none,rfl,YH⟩ ?_ ?_;lk;exact⟨Xp _ _ _,q⟩;rintro j s J G ⟨I,n,l,rfl,c⟩;have r:j<3/\s=j+1:=by
  rcases j with _|_|_|j;simp at G;lia;simp at G;lia;simp at G;lia;simp at G
 obtain⟨r,rfl⟩:=r;rw[FO _ r]at c;lk;refine PD.bL (PV a.length (j+1)) Sa (λi H=>∃n l:Option Sl,H=[some (.val (.lst false (a.map PL))),some (.val (T3 d g e)),some (.val (.lst true (b.map PL))),some (.val (.int ((j+1:Nat):Int))),n,l]/\cw b (cT a.length)=cw b ((PV a.length (j+1)).drop i++vL a.length (j+1))) (λR q=>?_) ⟨n,l,rfl,c⟩ ?_ ?_;lk;exact⟨a.length,j+1,by rw[Pq],rfl,by lia,by lia,QM (zCP hl (j+1)) (QM (Ym (by decide) (show j+1<=3 by lia)) (by decide)),q⟩;rintro i x J N ⟨n,l,rfl,c⟩;obtain⟨XD,ei⟩:=RQ.mp N;rw[Yk XD,ei,WG,E9]at c;obtain⟨pl,M⟩:=bW (Rt N);have T:∀k,k<b.length->b[k]?=some (b.getD k (0,0)):=λk y=>by rw[Q2,Qw y];rfl
 lk;refine PD.comp_map x (λ(k:Nat)=>D.int (k:Int)) (λ_=>true) (λk=>PL (b.getD k (0,0))) (λR q=>?_) (by rw[sizeLine_eq];lia) (λk y K u=>?_) (λk y _ K u=>?_) ?_;unfold Sa;lk;exact q;lk;exact u;lk;exact⟨_,bD (by rw[QZ,T k (by have:=M k y;lia)];rfl),u⟩;rw[Tq.mpr (λ_ _=>rfl)];have ep:x.map (λk=>PL (b.getD k (0,0)))=(Ur b x).map PL:=by unfold Ur;rw[QP];rfl
 have lp:(Ur b x).length=j+1:=by unfold Ur;rw[Pq,pl]
 rw[ep,bG,cW,jP,hJ];refine⟨by lia,by lia,λw A=>?_,?_⟩;unfold Ur at A;obtain⟨k,y,rfl⟩:=P6.mp A;exact Y _ (Rt (T k (by have:=M k y;lia)));cases hb2:d9 (Ur b x)with
 |none =>
  rw[hb2]at c;rw[Po (show¬eK (oL none)=false by decide)];exact⟨_,_,rfl,c⟩
 |some L =>
  rw[hb2]at c;have z:cw b (cT a.length)=some (x,L):=c;rw[o]at z;cases z;rw[Pt (show eK (oL (some L))=false from rfl)];exact⟨Xp _ _ _,h⟩
 rintro J ⟨n,l,rfl,c⟩;rw[List.drop_length,WJ]at c;exact⟨_,_,_,rfl,c⟩;rintro J ⟨I,n,l,rfl,c⟩;have z:cw b (cT a.length)=none:=c;rw[o]at z;cases z
def sC (F:aD K "place_between" "place_between" ie f fd) (C:QI K mg κ)  (c:Ju P w K mg base κ) (b:Bf P w K mg base κ)  : aK P w K mg base (CX1 P w) 4 f fd ["one", "other", "gauge"] (aM K (dQ κ)):=by
 refine aD.okN F gM (by fin2) λ_ _ _ _ _ _ a=>⟨_,(aq (aL 3 gM.nd (av b a (aa (dv 2) (aa (dv 0) ah)))) (aq (aL 4 gM.nd (av b a (aa (dv 2) (aa (dv 1) ah)))) (ar (ay (av c a (aa (ax bK (ax aI (dv 4) (au (dv 0) ae)) (ax aI (dv 3) (au (dv 1) ae))) (aa (ax bK (ax aI (dv 4) (au (dv 0) ae)) (ax aI (dv 3) (au (dv 1) ae))) (aa (ax bK (ax aI (dv 4) (au (dv 0) ae)) (ax aI (dv 3) (au (dv 1) ae))) ah)))))))),?_⟩
 rintro A Q Ed ⟨z,y,j,u,t,s,q,p,o,rfl,h⟩;x_go;obtain⟨g,e,d,c,b,a,l,n,k,r,h⟩:=h;have m:∀{x:Int},Bd 200 x->Bd 1000 x:=λh=>h.mono (by decide)
 have i:Bd 402 (q*z+p*y+o*j):=((l.mul g).add (n.mul e)).add ((k.mul d).mono (by decide));have j:Bd 402 (q*u+p*t+o*s):=((l.mul c).add (n.mul b)).add ((k.mul a).mono (by decide));lk;refine⟨m l,m n,m k,m g,m e,m d,m l,m n,m k,m c,m b,m a,S7 j g,S7 i c,S7 j e,S7 i b,S7 j d,S7 i a,r,?_,?_,?_,?_⟩;exact((j.mul g).sub (i.mul c)).mono (by decide);exact((j.mul e).sub (i.mul b)).mono (by decide);exact((j.mul d).sub (i.mul a)).mono (by decide);exact h
def Dk (F:aD K "clipped" "clipped" lJ f fd) (C:QI K mg κ)  (e:tK P w K mg base κ) (a:Lq P w K mg base κ) (b:mg "len" = none) (d:mg "range" = none):aK P w K mg base (CX1 P w) 5 f fd ["corners", "gauge"] (aM K (ir κ)):=by
 refine aD.okN F ig (by fin2) λ_ _ _ _ _ _ c=>⟨_,(aq (fY 2 ig.nd ah) (aq (bT PassesOwn.never rfl (jg (by rfl) d (aa (aF bf (by rfl) b So (aa (dv 0) ah)) ah)) (bu 3 ig.nd) (aq (aL 4 ig.nd (au (dv 0) (ax bK (dv 3) ae))) (aq (aL 5 ig.nd (au (dv 0) (dv 3))) (aq (aY (aH fK (ax aI (av a c (aa (dv 1) (aa (dv 4) ah))) (av a c (aa (dv 1) (aa (dv 5) ah)))) ae) (ar (jd 2 (av e c (aa (dv 4) (aa (dv 5) (aa (dv 1) ah)))))) aN) (ar (aY (aH Di (av a c (aa (dv 1) (aa (dv 5) ah))) ae) (ar (jd 2 (dv 5))) aN)))))) (cK 2 (ar (ay (bP (by rfl) (by exact aX (osc:=ak lJ) (xs:=["index"]) (ns:=["kept"]) (by decide +kernel)) (aS.cons 2 aS.nil) (jg (by rfl) d (aa (aF bf (by rfl) b So (aa (dv 2) ah)) ah)) (λ_ _ _ _ _=>(uO (aH (nL (by exact c.units)) (au (dv 1) (dv 0)) (TP.VW (eZ (dv 1) cu (cH (dv 0))))))) (λ_ _ _ _ _=>(au (dv 1) (dv 0))))))))),?_⟩
 rintro ds Q Ed ⟨a,g,d,b,rfl,h⟩;x_go;unfold fL at h;obtain⟨hl,u,B,C,A,h⟩:=h;have m:∀{x:Int},Bd 200 x->Bd 1000 x:=λh=>h.mono (by decide)
 have y:∀p∈a,Bd 200 p.1/\Bd 200 p.2.1/\Bd 200 p.2.2:=λp e=>⟨(u p e).2.b.mono (by decide),(u p e).2.x.mono (by decide),(u p e).2.y.mono (by decide)⟩
 have t:∀{i:yaw} {k:Nat} {p:Tr},i[k]?=some p->Rz (i.map PK) (k:Int)=some (PK p):=fun {i k p} e=>bD (by rw[QZ,e];rfl)
 lk;refine⟨RS _,?_⟩;refine PD.bL (List.range' 0 a.length) (λ(k:Nat)=>D.int (k:Int)) (λj e=>∃r o n:Option Sl,e=[some (.val (.lst false (a.map PK))),some (.val (T3 g d b)),some (.own ((aR (g,d,b) (da (g,d,b)) (a.getLastD (0,0,0)) (a.take j)).map PK)),r,o,n]) (λR q=>?_) ⟨none,none,none,rfl⟩ ?_ ?_;lk;rw[Pq,zT];exact⟨⟨by lia,by lia⟩,q⟩;rintro j k Pu l ⟨r,o,n,rfl⟩;obtain⟨e,i⟩:=RQ.mp l;rw[VD]at e;rw[zCO,V8,Nat.one_mul]at i;subst i;have s:a[j]?=some a[j]:=Qw e;have U:Rz (a.map PK) ((j:Int) - 1)=some (PK ((a.take j).getLastD (a.getLastD (0,0,0)))):=by
  have:=ye (a.map PK) j 1 (by rw[Pq];exact e) (by rw[Pq];lia);rw[show((j:Int) - 1)=((j:Int) - ((1:Nat):Int))from rfl,this,Pq,QZ];have i:a[(j+a.length - 1) % a.length]?=some ((a.take j).getLastD (a.getLastD (0,0,0))):=by
   cases j with
   |zero =>
    have:(0+a.length - 1) % a.length=a.length - 1:=by rw[V8];exact Ux (by lia)
    rw[this,List.take_zero,List.getLastD_nil,<- zDN,zCE];cases hq:a.getLast? with
    |none=>rw[zCn]at hq;rw[hq]at e;exact absurd e (by simp)
    |some z=>rfl
   |succ j =>
    have:(j+1+a.length - 1) % a.length=j:=by rw[show j+1+a.length - 1=j+a.length by lia,zCj];exact Ux (by lia)
    rw[this,zCE,List.getLast?_take];simp;rw[Qw (by lia)];rfl
  rw[i];rfl
 have H:(a.take j).getLastD (a.getLastD (0,0,0))∈a:=by
  rw[zCE];cases hq:(a.take j).getLast? with
  |some z=>exact(List.take_sublist j a).subset (List.mem_of_getLast? hq)
  |none =>
   rw[Option.getD_none,zCE];cases c:a.getLast? with
   |some z=>exact List.mem_of_getLast? c
   |none=>rw[zCn]at c;rw[c]at e;exact absurd e (by simp)
 have E:=tF (g,d,b) (da (g,d,b)) (a.take j) (a.getLastD (0,0,0));have tl:(a.take j).length<=a.length:=by rw[Uv];lia
 have l:=Gi (g,d,b) (da (g,d,b)) (a.getLastD (0,0,0)) (a.take j) a[j];rw[show a.take j++[a[j]]=a.take (j+1)by rw[Ys,s];rfl]at l;generalize (a.take j).getLastD (a.getLastD (0,0,0))=p at U H l;have G:a[j]∈a:=Uu _;generalize Vz:a[j]=c at s G l;generalize aR (g,d,b) (da (g,d,b)) (a.getLastD (0,0,0)) (a.take j)=K at E l ⊢;obtain⟨T,Q,O⟩:=y p H;obtain⟨N,M,L⟩:=y c G;have Y:K.length<=600000:=by lia
 have y:∀(e:yaw) (J I:D),e.length<=600001->aR (g,d,b) (da (g,d,b)) (a.getLastD (0,0,0)) (a.take (j+1))=e++(if 0<=Pj (g,d,b) c then[c]else[])->iX κ [T3 g d b,PK c] (λx=>gY (λi j=>D.bl (decide (j<=i))) x (D.int 0) λx=>∃k,x=D.bl k/\if k=true then(e.map PK).length<sizeLine/\∃r o n:Option Sl,([some (.val (.lst false (a.map PK))),some (.val (T3 g d b)),some (.own (e.map PK++[PK c])),some (.val (.int j)),some (.val J),some (.val I)]:Ro)=[some (.val (.lst false (a.map PK))),some (.val (T3 g d b)),some (.own ((aR (g,d,b) (da (g,d,b)) (a.getLastD (0,0,0)) (a.take (j+1))).map PK)),r,o,n]else∃r o n:Option Sl,([some (.val (.lst false (a.map PK))),some (.val (T3 g d b)),some (.own (e.map PK)),some (.val (.int j)),some (.val J),some (.val I)]:Ro)=[some (.val (.lst false (a.map PK))),some (.val (T3 g d b)),some (.own ((aR (g,d,b) (da (g,d,b)) (a.getLastD (0,0,0)) (a.take (j+1))).map PK)),r,o,n]) λ_=>False:=λe J I Y e=>by show iX κ [T3 g d b,T3 c.1 c.2.1 c.2.2] _ _;rw[kf,ky,e];refine⟨m B,m C,m A,m N,m M,m L,?_⟩;rw[kL];refine⟨_,rfl,?_⟩;have i:(0<=sg (g*c.1+d*c.2.1+b*c.2.2))↔0<=Pj (g,d,b) c:=Nt _;by_cases q:0<=Pj (g,d,b) c;rw[Pt q,Pt (V6 (i.mpr q))];exact⟨by rw[Pq,sizeLine_eq];lia,_,_,_,by rw[Sb];rfl⟩;rw[Po q,Po (by rw[decide_eq_true_eq];exact λz=>q (i.mp z)),W4];exact⟨_,_,_,rfl⟩
 lk;refine⟨_,U,_,t s,?_⟩;rw[gP,gP];show iX κ [T3 g d b,T3 p.1 p.2.1 p.2.2] _ _;rw[kf,ky];refine⟨m B,m C,m A,m T,m Q,m O,?_⟩;show iX κ [T3 g d b,T3 c.1 c.2.1 c.2.2] _ _;rw[kf,ky];refine⟨m B,m C,m A,m N,m M,m L,?_⟩;have i:(sg (g*p.1+d*p.2.1+b*p.2.2)*sg (g*c.1+d*c.2.1+b*c.2.2)<0)↔Pj (g,d,b) p*Pj (g,d,b) c<0:=Nr _ _;have j:∀x:Int,Bd 64 (sg x):=λx=>by unfold sg Bd;split;exact(by decide);split<;>decide
 rw[B9,kL];refine⟨.inl (j _),_,rfl,?_⟩;by_cases q:Pj (g,d,b) p*Pj (g,d,b) c<0;rw[Pt (V6 (i.mpr q))];rw[Pt q]at l;show dQ κ [T3 p.1 p.2.1 p.2.2,T3 c.1 c.2.1 c.2.2,T3 g d b] _ _;rw[iB,dP];refine⟨T,Q,O,N,M,L,B,C,A,?_,by rw[Pq,sizeLine_eq];lia,?_⟩;rcases Au (u p H).1 (u c G).1 q with⟨_,_,z⟩| ⟨_,_,z⟩<;>exact λe=>by rw[e]at z;exact XU _ z
 have:=y (K++[da (g,d,b) p c]) (PK p) (PK c) (by simp;lia) (by rw[l,WH]);rw[Sb]at this;exact this;rw[Po (by rw[decide_eq_true_eq];exact λz=>q (i.mp z))];rw[Po q,WJ]at l;exact y K (PK p) (PK c) (by lia) l;rintro Pu ⟨r,o,n,rfl⟩;rw[VD,Vv];have E:=tF (g,d,b) (da (g,d,b)) a (a.getLastD (0,0,0));have c:fB (g,d,b) a=TR [] (aR (g,d,b) (da (g,d,b)) (a.getLastD (0,0,0)) a):=by
  unfold fB;cases hq:a.getLast? with
  |none =>
   rw[zCn]at hq;subst hq;rfl
  |some z=>rw[zCE,hq];rfl
 rw[c]at h;generalize aR (g,d,b) (da (g,d,b)) (a.getLastD (0,0,0)) a=K at E h ⊢;have d:∀k,k<K.length->K[k]?=some (K.getD k (0,0,0)):=λk a=>by rw[Q2,Qw a];rfl
 have g:∀k,k<=K.length->PD.cutD (K.map PK) none (some (k:Int))=(K.take k).map PK:=λk a=>by unfold PD.cutD;rw[HT.Ij,HT.qX,List.drop_zero,Nat.sub_zero,Pq,Nat.min_eq_left a,List.map_take]
 have e:∀(l:yaw) (x:Tr),(l.map PK).any (λz=>eqD z (PK x))=l.any λy=>decide (y=x):=λl x=>by
  rw[List.any_map];congr 1
  funext y
  exact Mp y x
 lk;refine PD.comp_map (List.range' 0 K.length) (λ(k:Nat)=>D.int (k:Int)) (λk=>!(K.take k).any λy=>decide (y=K.getD k (0,0,0))) (λk=>PK (K.getD k (0,0,0))) (λR q=>?_) (by rw[VD,sizeLine_eq];lia) (λk a c b=>?_) (λk a _ c b=>?_) ?_;lk;rw[Pq,zT];exact⟨⟨by lia,by lia⟩,q⟩;have c:k<K.length:=by rw[ZK]at a;lia
 lk;refine⟨_,t (d k c),?_⟩;rw[g k (by lia)];refine⟨?_,?_⟩;exact(BU _).okI;exact⟨(Q1.map BU).ok,_,.inr ⟨_,rfl⟩,_,rfl,by rw[e];exact b⟩;have c:k<K.length:=by rw[ZK]at a;lia
 lk;exact⟨_,t (d k c),b⟩;have a:=yK (0,0,0) K [];rw[Y9,WJ]at a;rw[<- a,QP]at h;exact h
def Fo (F:aD K "common" "common" sM f fd) (C:QI K mg κ)  (b:wx P w K mg base κ)  : aK P w K mg base (CX1 P w) 6 f fd ["corners", "gauges"] (aM K (qh κ)):=by
 refine aD.okN F pZ (by fin2) λ_ _ _ _ _ _ a=>⟨_,(aq (bT PassesOwn.never rfl (aP (dv 1)) (bu 2 pZ.nd) (ar (aL 0 pZ.nd (av b a (aa (dv 0) (aa (dv 2) ah)))))) (ar (ay (dv 0)))),?_⟩
 rintro u Q Ed ⟨b,a,rfl,h⟩;x_go;unfold jj at h;obtain⟨k,r,e,i,h⟩:=h;lk;refine PD.bL a PK (λj c=>∃(t:Bool) (v:Option Sl),(0<j->t=true)/\c=[some (.val (.lst t ((aW (a.take j) b).map PK))),some (.val (.lst false (a.map PK))),v]) (λR q=>?_) ⟨false,none,λq=>absurd q (by lia),rfl⟩ ?_ ?_;lk;exact q;rintro j g p c ⟨t,v,d,rfl⟩;obtain⟨n,s⟩:=RQ.mp c;obtain⟨m,l⟩:=e j n;obtain⟨o,n,e⟩:=i g (Rt c);lk;show ir κ [.lst false ((aW (a.take j) b).map PK),T3 g.1 g.2.1 g.2.2] _ _;rw[jQ,fL];refine⟨m,l,o,n,e,?_⟩;have e:aW (a.take (j+1)) b=fB g (aW (a.take j) b):=by unfold aW;rw[Ys,c];simp[List.foldl_append]
 exact⟨true,_,λ_=>rfl,by rw[e]⟩;rintro p ⟨t,v,d,rfl⟩;rw[Vv,d k];lk;exact h
def ux (F:aD K "owned_gauges" "owned_gauges" fO f fd) (C:QI K mg κ)  (c:Gu P w K mg base κ) (b:D0 P w K mg base κ) (d:mg "enumerate" = none):aK P w K mg base (CX1 P w) 4 f fd ["lists"] (aM K (iw κ)):=by
 refine aD.okN F eQ (by fin2) λ_ _ _ _ _ _ a=>⟨_,(aq (fY 1 eQ.nd ah) (aq (bT PassesOwn.never rfl (J2 (by rfl) d (aa (dv 0) ah)) (ua (n:=2) rfl (gG (bu 2 eQ.nd) (gG (bu 3 eQ.nd) qM))) (ar (je 1 (bP (by rfl) (by exact aX (osc:=ak fO) (xs:=["gauge"]) (ns:=["index"]) (by decide +kernel)) (aS.cons 2 aS.nil) (aP (av c a (aa (av b a (aa (dv 3) ah)) ah))) (λ_ _ _ _ _=>bF) (λ_ _ _ _ _=>(bg (aa (dv 1) (aa (dv 0) ah)))))))) (cK 1 (ar (ay (dv 1)))))),?_⟩
 rintro E Q Ed ⟨a,rfl,h⟩;x_go;unfold eO at h;obtain⟨L,h⟩:=h;lk;refine⟨RS _,?_⟩;refine PD.bL (List.range' 0 a.length) (λ(k:Nat)=>D.tup [.int (k:Int),cN (a.getD k [])]) (λj c=>∃(b:yat) (o n:Option Sl),bO b (a.take j)/\c=[some (.val (.lst false (a.map cN))),some (.own ((bq 0 b).map TU)),o,n]) (λR q=>?_) ⟨[],none,none,True.intro,rfl⟩ ?_ ?_;lk;refine⟨_,_,rfl,?_⟩;rw[C1 cN []];exact q;rintro j k y e ⟨b,o,n,rk,rfl⟩;obtain⟨d,c⟩:=RQ.mp e;rw[VD]at d;rw[zCO,V8,Nat.one_mul]at c;subst c;have i:a[j]?=some a[j]:=Qw d;have c:a.getD j []=a[j]:=by rw[Q2,i];rfl
 have l:a[j]∈a:=Uu _;rw[c];generalize hps:a[j]=d at i l;have s:b.length=j:=by rw[rk.len,Uv];lia
 have z:(bq 0 b).length<=64*b.length:=lB _ 0 λc e=>by
  obtain⟨g,k,r⟩:=rk.ex c e;have e:=(List.take_sublist j a).subset k;have:=(bV r).len;have:=L.le g e;have:=mW (aV c)
  lia
 have A:=L.l8;lk;refine Es (P:=λa:yaw=>∃c,cO c d/\a=aO (aV c)/\a.length<1000) PK (λ_=>true) (λg=>TU ((j:Int),g)) (λR x=>?_) (λa k=>by obtain⟨_,_,_,q⟩:=k;rw[sizeLine_eq];lia) (λa k g e K q=>?_) (λa k g e K q=>?_) λa k=>?_
 lk;have u:=L.le d l;have e:∀p∈d,SB p:=λp a=>((L.bd d l p a).mono (by decide)).sb
 show mP κ [.lst false (d.map PL)] _ _;rw[ot,kx];refine⟨by lia,e,λc m t=>?_⟩;have g:=bV m;have B:=g.len;have sb:∀p∈aV c,SB p:=λp a=>e p (g.mem p a)
 have p:0<(aV c).length:=by obtain⟨a,r,e,_⟩:=g.Vh (Y2 (L.ne d l));rw[e];simp
 have bl:=mW (aV c);rw[bG,oG,qg,lC];exact⟨p,by lia,sb,_,_,rfl,x _ ⟨c,m,rfl,by lia⟩⟩;lk;exact q;lk;exact⟨UP _ _,q⟩;obtain⟨c,m,rfl,u⟩:=k;rw[Tq.mpr (λ_ _=>rfl)];refine⟨_,rfl,by rw[Pq,Pq,sizeLine_eq];lia,b++[c],some (.val (.int (j:Int))),some (.val (cN d)),?_,?_⟩;rw[Ys,i];exact rk.snoc m;rw[uz,Sb,s,V8,QP];rfl;rintro y ⟨b,o,n,rk,rfl⟩;rw[VD,Vv]at rk;lk;exact h b rk
def xw (F:aD K "with_share" "with_share" kQ f fd) (C:QI K mg κ)    : aK P w K mg base (CX1 P w) 1 f fd ["gauge", "other", "share"] (aM K (gE κ)):=by
 refine aD.okN F xx (by fin2) λ_ _ _ _ _ _ b=>⟨_,(ar (ay (bg (aa (ax aZ (au (dv 0) ae) (ax aI (au (dv 1) ae) (dv 2))) (aa (ax aZ (au (dv 0) ae) (ax aI (au (dv 1) ae) (dv 2))) (aa (ax aZ (au (dv 0) ae) (ax aI (au (dv 1) ae) (dv 2))) ah)))))),?_⟩
 rintro c Q Ed ⟨k,j,i,g,e,d,s,rfl,h⟩;x_go;unfold dU at h;obtain⟨A,B,a,h⟩:=h;lk;exact⟨S7 B.c a,S7 B.a a,S7 B.b a,Xp _ _ _,h⟩
def vE (F:aD K "last_needed" "last_needed" jK f fd) (C:QI K mg κ)  (b:wx P w K mg base κ) (c:mg "len" = none):aK P w K mg base (CX1 P w) 6 f fd ["corners", "gauges"] (aM K (iS κ)):=by
 refine aD.okN F fP (by fin2) λ_ _ _ _ _ _ a=>⟨_,(aq (aL 2 fP.nd (bU ae)) (aq (nk PassesOwn.never (aH xI (aF bf (by rfl) c So (aa (dv 0) ah)) ae) (aq (Mg 2 fP.nd ae MJ) (ar (aL 0 fP.nd (av b a (aa (dv 0) (aa (au (dv 1) (dv 2)) ah))))))) (ar (ay (dv 2))))),?_⟩
 rintro p Q Ed ⟨g,b,rfl,h⟩;obtain⟨o,e,k,a,n,d,q,h⟩:=h;lk;refine⟨λm c=>∃(j:Nat) (t:Bool),j<=a+1/\m=a+1 - j/\c=[some (.val (.lst t ((aW (b.take j) g).map PK))),some (.val (.lst false (b.map PK))),some (.val (.int ((j:Int) - 1)))],⟨_,0,false,by lia,rfl,rfl⟩,?_⟩;rintro m c ⟨j,t,i,rfl,rfl⟩;lk;rw[Pq];by_cases c:j=a+1
 simp_all
 have c:=d j (by lia);rw[Pt (by have:=zCs.mpr c;lia)];obtain⟨l,h⟩:=e j (by lia);have c:b[j]?=some (b[j]'(by lia)):=Qw _;have d:=k _ (Uu (show j<b.length by lia));refine⟨_,rfl,?_⟩;lk;have e:Rz (b.map PK) (j:Int)=some (PK (b[j]'(by lia))):=bD (by rw[QZ,c];rfl);rw[show((j:Int) - 1+1)=(j:Int)by lia];refine⟨_,e,?_⟩;show ir κ [.lst false ((aW (b.take j) g).map PK),T3 (b[j]'(by lia)).1 (b[j]'(by lia)).2.1 (b[j]'(by lia)).2.2] _ _;rw[jQ,fL];refine⟨l,h,d.1,d.2.1,d.2.2,a+1 - (j+1),by lia,j+1,true,by lia,rfl,?_⟩;rw[yv c,show(((j+1:Nat):Int) - 1)=(j:Int)by lia]
def AQ (F:aD K "constant" "constant" j2 f fd) (C:QI K mg κ)   (b:mg "sum" = none) (a:mg "zip" = none):aK P w K mg base (CX1 P w) 1 f fd ["gauges", "numbers", "shares"] (aM K (md κ)):=by
 refine aD.okN F AY (by fin2) λ_ _ _ _ _ _ t=>⟨_,(ar (ay (aF (o8 rfl) (by rfl) b boot_sum (aa (kF (by rfl) (by exact aX (osc:=ak j2) (xs:=["number", "share"]) (ns:=["gauges"]) (by decide +kernel)) (aS.cons 0 aS.nil) (.cons (.cons .nil)) (ug (by rfl) a (aa (dv 1) (aa (dv 2) ah))) (λ_ _ _ _ _=>bF) (λ_ _ _ _ _=>(ax aI (au (au (dv 2) (dv 0)) ae) (dv 1)))) ah)))),?_⟩
 rintro u Q Ed ⟨c,ns,g,rfl,h⟩;x_go;obtain⟨d,rfl,r,s,p,m,l,h⟩:=h;have o:∀k∈d,c[k]?=some (c.getD k (0,0,0)):=by simp_all
 lk;refine PD.jc (d.zip g) (λz=>[.int ((z.1:Nat):Int),.int z.2]) (λ_=>true) (λz=>.int ((c.getD z.1 (0,0,0)).1*z.2)) (λR q=>?_) (by grind [List.length_zip,sizeLine_eq]) (λ_=>rfl) (λz j K i=>?_) (λz j _ K i=>?_) ?_;lk;have e:=wq d g;rw[QP];rw[show(List.map ((λn=>D.int n)∘λ(k:Nat)=>(k:Int)) d)=d.map (λ(k:Nat)=>D.int (k:Int))from rfl,e];exact q;exact i;have e:=W9 (a:=z.1) (b:=z.2) j;have YI:Rz (c.map PK) ((z.1:Nat):Int)=some (PK (c.getD z.1 (0,0,0))):=bD (by simp_all);refine⟨_,YI,?_⟩;have a:=m _ (Rt (o z.1 e.1));rw[show PK (c.getD z.1 (0,0,0))=D.tup [.int (c.getD z.1 (0,0,0)).1,.int (c.getD z.1 (0,0,0)).2.1,.int (c.getD z.1 (0,0,0)).2.2]from rfl];lk;exact⟨S7 a (l _ e.2),i⟩;rw[Tq.mpr (λ_ _=>rfl)];refine⟨true,(d.zip g).map λz=>(c.getD z.1 (0,0,0)).1*z.2,by rw[QP];rfl,?_⟩;exact h
def Kq (F:aD K "bars" "bars" uD f fd) (C:QI K mg κ)  (d:wu P w K mg base κ) (c:Cv P w K mg base κ) (e:xj P w K mg base κ) (b:mv P w K mg base κ) (h:mg "list" = none) (g:mg "zip" = none):aK P w K mg base (CX1 P w) 7 f fd ["corners", "gauges"] (aM K (vX κ)):=by
 refine aD.okN F mK (by fin2) λ_ _ _ _ _ _ a=>⟨_,(aq (aL 2 mK.nd (av e a (aa (dv 0) (aa (dv 1) ah)))) (ar (bT PassesOwn.never rfl (aP (ax aZ (av b a (aa (dv 2) (aa ae ah))) (av b a (aa (dv 2) (aa ae ah))))) (bu 3 mK.nd) (aq (aL 4 mK.nd (ax aZ (dv 3) (bR (aa (dv 2) ah)))) (aq (aL 5 mK.nd (av d a (aa (bP (by rfl) (by exact aX (osc:=ak uD) (xs:=["number"]) (ns:=["gauges"]) (by decide +kernel)) (aS.cons 1 aS.nil) (aP (dv 4)) (λ_ _ _ _ _=>bF) (λ_ _ _ _ _=>(pD (au (dv 1) (dv 0)) (cH ae) cu))) ah))) (ar (aY (Ui.pt (yS (aH qR (dv 5) dR) (vo (aH fK (av c a (aa (dv 1) (aa (dv 4) (aa (dv 5) ah)))) ae)))) (ar (ay ((CV rfl (by rfl) h (by rfl) g (aa (dv 4) (aa (dv 5) ah)))).VW)) aN))))))),?_⟩
 rintro t Q Ed ⟨k,l,rfl,h⟩;x_go;unfold mI at h;obtain⟨e,d,p,a,g,c,i,r,b,h⟩:=h;lk;refine⟨e,d,p,a,g,c,i,?_⟩;have c:∀i,i<=2->(PV a i).length<=1000000:=λi d=>QM (vA a i) (QM (zCP (show a<=1000 by lia) i) (QM (Ym (by decide) d) (by decide)))
 refine PD.bL (PV a 1++PV a 2) Sa (λj d=>∃n m i:Option Sl,gU l a ((PV a 1++PV a 2).drop j)=some r/\d=[some (.val (.lst false (k.map PK))),some (.val (.lst false (l.map PK))),some (.val (.int (a:Int))),n,m,i]) (λR q=>?_) ⟨none,none,none,b,rfl⟩ ?_ ?_;lk;have e:=Sb (f:=Sa) (l₁:=PV a 1) (l₂:=PV a 2);rw[e]at q;refine⟨a,1,rfl,rfl,by lia,by decide,by rw[Nat.pow_one];lia,a,2,rfl,rfl,by lia,by decide,QM (zCP (show a<=1000 by lia) 2) (by decide),?_,q⟩;have:=c 1 (by decide);have:=c 2 (by decide);rw[Pq,Pq,sizeLine_eq]
 lia
 rintro j o r b ⟨n,m,i,d,rfl⟩;obtain⟨e,c⟩:=RQ.mp b;rw[Yk e,c]at d;obtain⟨s,e⟩:=Jc (Rt b);have lt':∀k∈o++[a],k<l.length:=λk c=>by
  rcases RH.mp c with q|q;have:=e k q;lia;rw[SM.mp q];exact g
 have j:∀k∈o++[a],l[k]?=some (l.getD k (0,0,0)):=λk c=>by rw[Q2,Qw (lt' k c)];rfl
 have b:(o.map λ(k:Nat)=>D.int (k:Int))++[D.int (a:Int)]=(o++[a]).map λ(k:Nat)=>D.int (k:Int):=by rw[Sb];rfl
 unfold Sa;lk;have lo:(o++[a]).length<=3:=by rw[Sw,zC9];lia
 refine⟨sz1 _,by rw[Pq,sizeLine_eq];show _+1<=_;lia,?_⟩;rw[b];refine PD.comp_map (o++[a]) (λ(k:Nat)=>D.int (k:Int)) (λ_=>true) (λk=>PL (vc (l.getD k (0,0,0)))) (λR q=>?_) (by rw[sizeLine_eq];lia) (λk c K b=>?_) (λk c _ K b=>?_) ?_;lk;exact q;lk;exact b;lk;have e:Rz (l.map PK) ((k:Nat):Int)=some (PK (l.getD k (0,0,0))):=bD (by rw[QZ,j k c];rfl);exact⟨_,e,_,rfl,by show¬(HT.Qy 3 0 (some 1)=0/\_);exact λz=>absurd z.1 (by decide),b⟩;rw[Tq.mpr (λ_ _=>rfl)];have q:(o++[a]).map (λk=>PL (vc (l.getD k (0,0,0))))=(UG l (o++[a])).map PL:=by unfold UG;rw[QP];rfl
 have g:(UG l (o++[a])).length=(o++[a]).length:=by unfold UG;rw[Pq]
 have e:∀w∈UG l (o++[a]),WB 400 w:=λw b=>by obtain⟨k,c,rfl⟩:=P6.mp b;have b:=p _ (Rt (j k c));exact⟨b.2.1.mono (by decide),b.2.2.mono (by decide)⟩
 rw[q,bG,cW,jP,hJ];refine⟨by rw[g];simp,by lia,e,?_⟩;unfold gU at d;cases hb2:d9 (UG l (o++[a]))with
 |none =>
  rw[hb2]at d;rw[Po (show¬eK (oL none)=false by decide)];exact⟨_,_,_,d,rfl⟩
 |some b =>
  rw[hb2]at d;have B:=oY (by lia) hb2;have j:=yh e (by lia) hb2;have e:(o++[a]).length=b.length:=by rw[B.len,g]
  have g:(o++[a]).map (λ(k:Nat)=>D.int (k:Int))=((o++[a]).map λ(k:Nat)=>(k:Int)).map D.int:=by rw[QP];rfl
  rw[Pt (show eK (oL (some b))=false from rfl)];have c:aG (oL (some b))=.lst false (b.map D.int):=by show aG (.lst true (b.map D.int))=_;rw[bG,cM]
  rw[c];have c:bb ((o++[a]).map (λ(k:Nat)=>D.int (k:Int)))=((o++[a]).map λ(k:Nat)=>(k:Int)).map D.int:=by rw[g,cM]
  rw[c,mO,i6];refine⟨o++[a],rfl,e,lo,lt',λg c=>(p g c).1,j,?_⟩;rw[kL];refine⟨_,rfl,?_⟩;by_cases c:o9 l (o++[a]) b<0;dsimp only at d;rw[Pt c]at d;cases d;rw[Pt (V6 c)];refine⟨_,_,true,true,_,_,rfl,rfl,rfl,by rw[Pq,Pq];exact e,by rw[Pq];lia,?_⟩;rw[wq];exact h;dsimp only at d;rw[Po c]at d;rw[Po (by rw[decide_eq_true_eq];exact c)];exact⟨_,_,_,d,rfl⟩
 rintro r ⟨n,m,i,d,rfl⟩;rw[List.drop_length]at d;cases d
def AO (F:aD K "bar_rows" "bar_rows" j1 f fd) (C:QI K mg κ)  (b:xW P w K mg base κ) (c:mg "sorted" = none):aK P w K mg base (CX1 P w) 2 f fd ["owned", "shares"] (aM K (ma κ)):=by
 refine aD.okN F gh (by fin2) λ_ _ _ _ _ _ a=>⟨_,(aq (EH 2 gh.nd) (aq (bT PassesOwn.never rfl (aP (dv 1)) (ua (n:=2) rfl (gG (bu 3 gh.nd) (gG (bu 4 gh.nd) qM))) (aq (aL 5 gh.nd (au (au (dv 0) (dv 3)) ae)) (ar (JN 2 (by exact C7 a) (dv 5) (av b a (aa (JL 2 (by exact C7 a) (dv 5) (bg (aa ae (aa ae (aa ae ah))))) (aa (au (au (dv 0) (dv 3)) ae) (aa (dv 4) ah)))))))) (AH 2 (ar (ay (bP (by rfl) (by exact aX (osc:=ak j1) (xs:=["owner"]) (ns:=["sums"]) (by decide +kernel)) (aS.cons 2 aS.nil) (aP ((Ha rfl (by rfl) c (dv 2))).VW) (λ_ _ _ _ _=>bF) (λ_ _ _ _ _=>(bg (aa (dv 0) (aa (Mc (by exact C7 a) (dv 1) (dv 0)) ah)))))))))),?_⟩
 rintro y Q Ed ⟨os,a,rfl,h⟩;x_go;unfold gc at h;obtain⟨u,o,g,tb,l,m,h⟩:=h;lk;have d:∀z∈a,os[z.1]?=some (os.getD z.1 (0,0,0,0)):=λz b=>by rw[Q2,Qw (o z b).1];rfl
 refine PD.bL a eE (λj b=>∃k i e:Option Sl,b=[some (.val (.lst false (os.map TU))),some (.val (.lst false (a.map eE))),some (.ob (.dk (mn (cq ((gN os a).take j))))),k,i,e]) (λR q=>?_) ⟨none,none,none,rfl⟩ ?_ ?_;lk;exact q;rintro j z t b ⟨k,i,e,rfl⟩;have c:=Rt b;have s:j<a.length:=(RQ.mp b).1;have YI:Rz (os.map TU) ((z.1:Nat):Int)=some (.tup [.int (os.getD z.1 (0,0,0,0)).1,PK (os.getD z.1 (0,0,0,0)).2]):=bD (by rw[QZ,d z c];rfl);have p:=g _ (Rt (d z c));have d:cq ((gN os a).take (j+1))=stT (cq ((gN os a).take j)) ((os.getD z.1 (0,0,0,0)).1,(os.getD z.1 (0,0,0,0)).2,z.2):=by unfold cq;rw[List.take_add_one,show(gN os a)[j]?=some ((os.getD z.1 (0,0,0,0)).1,(os.getD z.1 (0,0,0,0)).2,z.2)by unfold gN;rw[QZ,b];rfl,List.foldl_append];rfl
 rw[d];have b:=tb j;have d:=l j;generalize cq ((gN os a).take j)=T at b d ⊢;generalize os.getD z.1 (0,0,0,0)=g at YI p ⊢;have d:∀n,Bd n 0:=λn=>by unfold Bd;simp;exact Nat.two_pow_pos n
 have j:TB 990 ((Tx T g.1).getD (0,0,0)):=by
  cases hl:Tx T g.1 with
  |none=>exact⟨d _,d _,d _⟩
  |some x=>have q:=b _ (zu hl);exact⟨q.c.mono (by lia),q.a.mono (by lia),q.b.mono (by lia)⟩
 have b:((Tx T g.1).map PK).getD (D.tup [D.int 0,D.int 0,D.int 0])=PK ((Tx T g.1).getD (0,0,0)):=by cases Tx T g.1<;>rfl
 unfold eE;lk;refine⟨_,YI,?_⟩;lk;refine⟨Xp _ _ _,Sum.inl g.1,rfl,_,YI,?_⟩;lk;rw[nG,b,gP];show gE κ [T3 ((Tx T g.1).getD (0,0,0)).1 ((Tx T g.1).getD (0,0,0)).2.1 ((Tx T g.1).getD (0,0,0)).2.2,T3 g.2.1 g.2.2.1 g.2.2.2,.int z.2] _ _;rw[kZ,dU];refine⟨j,p,(o z c).2,Sum.inl g.1,rfl,by unfold mn;rw[Pq,sizeLine_eq];lia,some (.val (.int ((z.1:Nat):Int))),some (.val (.int z.2)),some (.val (.int g.1)),?_⟩;rw[KI];rfl;rintro t ⟨k,i,e,rfl⟩;have b:a.length=(gN os a).length:=by unfold gN;rw[Pq]
 rw[b,Vv];generalize j:cq (gN os a)=T at m h;have r:T.length<=3:=by
  have q:=l a.length;rw[b,Vv,j]at q
  lia
 refine⟨T.map (·.1),T.map λx=>PK x.2,by rw[Pq,Pq],by rw[wt];rfl,?_⟩;lk;refine yw (P:=λa:yaf=>a.Perm (T.map (·.1))/\a.Pairwise (·<·)) (λn=>D.int n) (λo=>TU (o,(Tx T o).getD (0,0,0))) (λR d=>?_) (λa b=>by have:=b.1.length_eq;rw[Pq]at this;rw[sizeLine_eq];lia) (λa b o e K c=>?_) λa b=>?_
 lk;exact⟨_,_,rfl,by rw[Pq];lia,λa p q=>d a ⟨p,q⟩⟩;obtain⟨x,d,g⟩:=P6.mp (b.1.mem_iff.mp e);have lk:=De m d;rw[g]at lk;lk;refine⟨_,_,_,PK x.2,rfl,rfl,by rw[Pq,Pq],?_,UP _ _,?_⟩;rw[wt,nG,lk];rfl;rw[lk]at c;exact c;have q:=h a b.1 b.2;unfold jI at q;rw[QP]at q;exact q
def xu (F:aD K "hulls_meet" "hulls_meet" fq f fd) (C:QI K mg κ)  (g:Cu P w K mg base κ) (b:Lp P w K mg base κ) (e:Gv P w K mg base κ) (d:D0 P w K mg base κ) (c:D4 P w K mg base κ) (h:u0 P w K mg base κ) (i:mg "len" = none):aK P w K mg base (CX1 P w) 8 f fd ["lists"] (aM K (jR κ)):=by
 refine aD.okN F dW (by fin2) λ_ _ _ _ _ _ a=>⟨_,(aq (aL 1 dW.nd (av h a (aa (dv 0) ah))) (aq (fF 2 dW.nd (by rfl) (by exact aX (osc:=ak fq) (xs:=["pair"]) (ns:=[]) (by decide +kernel)) aS.nil (aP (dv 1)) (λ_ _ _ _ _=>bF) (λ_ _ _ _ _=>(au (dv 0) ae))) (aq (aL 3 dW.nd (av d a (aa (au (dv 0) ae) ah))) (aq (aL 4 dW.nd (av e a (aa (dv 3) (aa (dv 2) ah)))) (aq (aY (aH cF (aF bf (by rfl) i So (aa (dv 4) ah)) ae) (ar (ay (bg (aa pE (aa (av g a (aa (dv 1) (aa (av b a (aa (dv 3) (aa (dv 2) ah))) ah))) ah))))) aN) (ar (ay (bg (aa pE (aa (au (dv 4) ae) (aa (bP (by rfl) (by exact aX (osc:=ak fq) (xs:=["spots"]) (ns:=["shared"]) (by decide +kernel)) (aS.cons 4 aS.nil) (aP (dv 0)) (λ_ _ _ _ _=>bF) (λ_ _ _ _ _=>(pD (av c a (aa (dv 0) (aa (au (dv 1) ae) ah))) (cH ae) cu))) ah))))))))))),?_⟩
 rintro H Q Ed ⟨s,rfl,h⟩;x_go;unfold dS at h;obtain⟨L,h⟩:=h;lk;refine⟨L,λc rk=>?_⟩;have St:=nB L rk;have n:(bq 0 c).length<=512:=by have q:=St.le;unfold PQ at q;rw[Pq]at q;exact q
 refine PD.comp_map (bq 0 c) TU (λ_=>true) (λx=>PK x.2) (λR q=>?_) (by rw[sizeLine_eq];lia) (λx m K k=>?_) (λx m _ K k=>?_) ?_;lk;exact q;lk;exact k;unfold TU;lk;exact k;rw[Tq.mpr (λ_ _=>rfl)];have a:(bq 0 c).map (λx=>PK x.2)=(PQ c).map PK:=by unfold PQ;rw[QP];rfl
 rw[a];obtain⟨a,Lr,d⟩:∃p r,s=p::r:=by
  cases s with
  |nil=>exact absurd L.l0 (by simp)
  |cons p r=>exact⟨p,r,rfl⟩
 obtain⟨i,A,g⟩:∃p r,c=p::r:=by
  cases c with
  |nil=>rw[d]at rk;exact rk.elim
  |cons p r=>exact⟨p,r,rfl⟩
 have b:a∈s:=by rw[d];simp
 have e:cO i a:=by rw[d,g]at rk;exact rk.1
 have l:c.getD 0 []=i:=by rw[g];rfl
 refine⟨cN a,bD (j:=0) (by rw[d];rfl),?_⟩;rw[tD];show mP κ [.lst false (a.map PL)] _ _;rw[ot,kx];refine⟨by have:=L.le a b;lia,λp o=>((L.bd a b p o).mono (by decide)).sb,λb d _=>?_⟩;have a:=zR d e;have d:(aV b).map QJ=(F0 c).map PK:=by unfold F0;rw[l,a,QP];rfl
 have a:∀(t:Bool) (l:yaw),aG (.lst t (l.map PK))=.lst false (l.map PK):=λt l=>by rw[bG,uS]
 rw[d,a,a,qi,jj];obtain⟨Z,d,a⟩:=St.zs;have b:∀j,(aW ((PQ c).take j) (F0 c)).length<=300000/\∀p∈aW ((PQ c).take j) (F0 c),0<p.1/\CB 40 p:=λj=>⟨QM (a j).len d,λp o=>⟨((a j).pr p o).pos,(a j).cb p o⟩⟩
 have a:∀g∈PQ c,Bd 200 g.1/\Bd 200 g.2.1/\Bd 200 g.2.2:=λg d=>by have B:=(St.gb g d).1;exact⟨B.c.mono (by decide),B.a.mono (by decide),B.b.mono (by decide)⟩
 have G:(PQ c).length<=512:=by unfold PQ;rw[Pq];exact n
 refine⟨St.pos,by lia,λj _=>b j,a,?_⟩;cases hc:aW (PQ c) (F0 c)with
 |nil =>
  refine⟨[],.inl ⟨true,rfl⟩,?_⟩;rw[Pt (show(((([]:yas).length:Nat):Int))=0 from rfl),uM,mI];obtain⟨d,r,u,y,⟨g,e⟩,i⟩:=tN St hc;refine⟨by lia,λj _=>b j,a,d,r,u,y,(g,e),i,?_⟩;have P:=Du St r i;have t:=zU L rk St P;have a:(g.zip e).length<=3:=by rw[zCx];have:=P.l3;lia
  have b:gN (bq 0 c) (g.zip e)=Vk c g e:=rfl;rw[bG,uR,mM,gc,b];refine⟨a,λz l=>⟨P.lt _ (W9 (a:=z.1) (b:=z.2) l).1,P.bs _ (W9 (a:=z.1) (b:=z.2) l).2⟩,λx m=>?_,λn x m=>?_,λn=>?_,?_,λb l a=>⟨UP _ _,h _ ⟨c,rk,.inr ⟨d,g,e,b,hc,r,u,y,i,l,a,rfl⟩⟩⟩⟩;have B:=(St.gb x.2 (P6.mpr ⟨x,m,rfl⟩)).1;exact⟨B.c.mono (by decide),B.a.mono (by decide),B.b.mono (by decide)⟩;have q:=((t n).ok x m).2;have E:((Vk c g e).take n).length<=n:=by rw[Uv];lia
  exact⟨q.c.mono (by lia),q.a.mono (by lia),q.b.mono (by lia)⟩;have q:=(t n).le;rw[Uv]at q
  lia
  have q:=(t (Vk c g e).length).nd;rw[Vv]at q;exact q
 |cons y rest =>
  have a:y∈aW (PQ c) (F0 c):=by rw[hc];simp
  obtain⟨e,d⟩:=nJ L rk St a;have Z7:Rz ((y::rest).map PK) 0=some (PK y):=bD (j:=0) rfl;have b:=h _ ⟨c,rk,.inl ⟨y,rest,hc,rfl⟩⟩;refine⟨_,.inl ⟨true,rfl⟩,?_⟩;rw[Po (by rw[Pq,SQ];lia),sI];generalize y::rest=I at Z7 ⊢;refine⟨_,Z7,?_⟩;refine PD.comp_map s cN (λ_=>true) (λa=>cU ((cw (a.map (Pz y)) (cT a.length)).getD ([],[]))) (λR q=>?_) (by have:=L.l8;rw[sizeLine_eq];lia) (λx m K k=>?_) (λa l _ K k=>?_) ?_;lk;exact q;lk;exact k;lk;refine⟨_,Z7,?_⟩;rw[gP];show kc κ [.lst false (a.map PL),T3 y.1 y.2.1 y.2.2] _ _;rw[oP,hU];refine⟨L.ne a l,L.le a l,λp o=>((L.bd a l p o).mono (by decide)).sb,d.cb.pb d.pr,_,e a l,?_⟩;exact⟨_,rfl,by show¬(HT.Qy 3 0 (some 1)=0/\_);exact λz=>absurd z.1 (by decide),k⟩;rw[Tq.mpr (λ_ _=>rfl)];refine⟨Xp _ _ _,?_⟩;unfold i5 at b;rw[QP]at b;exact b
def zL (F:aD K "_law_whole" "_law_whole" lY f fd) (C:QI K mg κ)   (c:mg "bool" = none) (b:mg "int" = none) (a:mg "isinstance" = none):aK P w K mg base (CX1 P w) 1 f fd ["_law_found"] (aM K (kW κ)):=by
 refine aD.okN F Ab (by fin2) λ_ _ _ _ _ _ d=>⟨_,(ar (ay (pB (eW (by rfl) a (by rfl) b boot_int (.inl rfl) (dv 0)) (pC (yL (eW (by rfl) a (by rfl) c boot_bool (.inr (.inl rfl)) (dv 0))))))),?_⟩
 rintro e Q Ed ⟨a,rfl,h⟩;lk;exact h
def vF (F:aD K "_law_cell_at" "_law_cell_at" jL f fd) (C:QI K mg κ)   (a:mg "len" = none):aK P w K mg base (CX1 P w) 1 f fd ["_law_script", "_law_k"] (aM K (iT κ)):=by
 refine aD.okN F vU (by fin2) λ_ _ _ _ _ _ c=>⟨_,(aq (aY (aH fK (dv 1) (aF bf (by rfl) a So (aa (dv 0) ah))) (ar (ay (au (dv 0) (dv 1)))) aN) (ar (ay ae))),?_⟩
 rintro d Q Ed ⟨b,k,rfl,h⟩;x_go;lk
 simp_all [Pt,Pq,GN,Po]
def vG (F:aD K "_law_divisor" "_law_divisor" jM f fd) (C:QI K mg κ)   (a:mg "abs" = none):aK P w K mg base (CX1 P w) 1 f fd ["_law_one", "_law_other"] (aM K (iU κ)):=by
 refine aD.okN F fQ (by fin2) λ_ _ _ _ _ _ e=>⟨_,(aq (aL 2 fQ.nd (aF o5 (by rfl) a boot_abs (aa (dv 0) ah))) (aq (aL 3 fQ.nd (aF o5 (by rfl) a boot_abs (aa (dv 1) ah))) (aq (nk PassesOwn.never (aH kK (dv 3) ae) (ar (Mh 2 3 rfl fQ.nd (by decide) (aa (dv 3) (aa (ax cG (dv 2) (dv 3)) ah))))) (ar (ay (dv 2)))))),?_⟩
 rintro g Q Ed ⟨a,b,rfl,h⟩;x_go;lk;refine⟨λm c=>∃(x y:Int),c=[some (.val (.int a)),some (.val (.int b)),some (.val (.int x)),some (.val (.int y))]/\Int.gcd x y=Int.gcd a b/\m=y.natAbs/\0<=x/\0<=y,⟨_,_,_,rfl,PM.JZ a b,rfl,by lia,by lia⟩,?_⟩;rintro m c ⟨x,y,rfl,c,rfl,d,b⟩;lk;by_cases a:y=0;subst a;rw[PM.EN]at c
 lia
 rw[Po a];refine⟨a,?_⟩;exact⟨_,PM.wL x a,y,x.fmod y,rfl,(PM.y6 x y).trans c,rfl,b,zC2 x (by lia)⟩
def uw (F:aD K "_law_is_place" "_law_is_place" iN f fd) (C:QI K mg κ)  (c:xo P w K mg base κ) (b:rB P w K mg base κ) (g:mg "isinstance" = none) (e:mg "len" = none) (d:mg "tuple" = none):aK P w K mg base (CX1 P w) 2 f fd ["_law_found"] (aM K (eR κ)):=by
 refine aD.okN F uG (by fin2) λ_ _ _ _ _ _ a=>⟨_,(aq (aY (Ui.pt (de (cf (cC (eW (by rfl) g (by rfl) d boot_tuple (.inr (.inr (.inl rfl))) (dv 0)))) (fZ (aH kK (aF bf (by rfl) e So (aa (dv 0) ah)) ae)))) (ar (ay fC)) aN) (aq (aY (Ui.pt (de (cf (cC (av b a (aa (au (dv 0) ae) ah)))) (de (cf (cC (av b a (aa (au (dv 0) ae) ah)))) (de (cf (cC (av b a (aa (au (dv 0) ae) ah)))) (fZ (aH fK (au (dv 0) ae) ae)))))) (ar (ay fC)) aN) (ar (ay (kE cF (av c a (aa (av c a (aa (au (dv 0) ae) (aa (au (dv 0) ae) ah))) (aa (au (dv 0) ae) ah))) ae))))),?_⟩
 rintro k Q Ed ⟨c,b,a,rfl,h⟩;x_go;obtain⟨⟨i,j⟩,h⟩:=h;have d:(((Int.gcd (Int.gcd c b:Int) a:Nat)):Int)=1:=by
  have e:((PM.g3 c b a:Nat):Int)=1:=by lia
  exact e
 lk;rw[Pt (by rfl),Po (by lia),V6 d];exact h
def xv (F:aD K "_law_stream" "_law_stream" kP f fd) (C:QI K mg κ)   (a:mg "range" = none):aK P w K mg base (CX1 P w) 1 f fd ["_law_cell", "_law_many"] (aM K (jS κ)):=by
 refine aD.okN F dX (by fin2) λ_ _ _ _ _ _ o=>⟨_,(aq (fY 2 dX.nd ah) (aq (aL 3 dX.nd (ax aZ (ax cG (dv 0) ae) ae)) (aq (bT PassesOwn.never rfl (jg (by rfl) a (aa (dv 1) ah)) (bu 4 dX.nd) (aq (aL 3 dX.nd (ax cG (ax aZ (ax aZ (ax aI (dv 3) ae) (ax aI (dv 4) (dv 4))) ae) ae)) (ar (jd 2 (ax iF (dv 3) ae))))) (cK 2 (ar (ay (dv 2))))))),?_⟩
 rintro u Q Ed ⟨c,m,rfl,h⟩;x_go;unfold gC at h;obtain⟨s,p,h⟩:=h;obtain⟨n,rfl⟩:∃n:Nat,m=n:=⟨m.toNat,by lia⟩;lk;have t:=fm (a:=c) (b:=2147483647) (by decide);refine⟨RS _,by decide,?_⟩;refine PD.bL (List.range' 0 n) (λ(k:Nat)=>D.int (k:Int)) (λj e=>∃(d:yaf) (r:Int) (v:Option Sl),e=[some (.val (.int c)),some (.val (.int n)),some (.own (d.map D.int)),some (.val (.int r)),v]/\d.length=j/\(∀x∈d,0<=x/\x<2147483647)/\0<=r/\r<2147531918) (λR q=>?_) ⟨[],_,none,rfl,rfl,by simp,by lia,by lia⟩ ?_ ?_;lk;rw[zT];exact⟨⟨by lia,by lia⟩,q⟩;rintro j k n e ⟨d,r,v,rfl,c,g,j,i⟩;obtain⟨m,l⟩:=RQ.mp e;rw[VD]at m;rw[zCO]at l;lk;have e:=fm (a:=r*48271+(k:Int)*k+11) (b:=2147483647) (by decide);generalize (r*48271+(k:Int)*k+11).fmod 2147483647=a at e ⊢;refine⟨.inl (by unfold Bd;lia),.inl (by unfold Bd;lia),by decide,CD.lit,by rw[Pq,sizeLine_eq];lia,d++[a.fdiv 7],_,_,by rw[Sb];rfl,by simp[c],?_,e.1,by lia⟩;intro z b;rcases RH.mp b with q|q;exact g z q;simp at q;subst q;have e:=Int.fdiv_eq_ediv_of_nonneg a (show(0:Int)<=7 by decide);rw[e]
 lia
 rintro n ⟨d,r,v,rfl,c,g,j,i⟩;rw[VD]at c;lk;exact h d (by rw[c];lia) g
def AV (F:aD K "_law_spot" "_law_spot" nX f fd) (C:QI K mg κ)    : aK P w K mg base (CX1 P w) 1 f fd ["_law_kind", "_law_xs", "_law_k"] (aM K (mi κ)):=by
 refine aD.okN F lZ (by fin2) λ_ _ _ _ _ _ r=>⟨_,(aq (aY (aH cF (dv 0) ae) (aq (aL 4 lZ.nd (ax bK (ax aI ae (ax zI ae ae)) ae)) (ar (ay (bg (aa (ax aZ (ax bK (ax cG (ax aI (au (dv 1) ae) ae) (dv 4)) (ax zI ae ae)) ae) (aa (ax aZ (ax bK (ax cG (ax aI (au (dv 1) ae) ae) (dv 4)) (ax zI ae ae)) ae) ah)))))) aN) (aq (aY (aH cF (dv 0) ae) (ar (ay (bg (aa (ax bK (ax cG (au (dv 1) ae) ae) ae) (aa (ax aI (ax bK (ax cG (au (dv 1) ae) ae) ae) (ax bK (ax cG (au (dv 1) ae) ae) ae)) ah))))) aN) (aq (aY (aH cF (dv 0) ae) (ar (ay (bg (aa (ax bK (ax cG (au (dv 1) ae) ae) ae) (aa (ax bK (ax cG (au (dv 1) ae) ae) ae) ah))))) aN) (aq (aL 3 lZ.nd (bR (aa (bg (aa ae (aa ae ah))) (aa (bg (aa ae (aa ae ah))) (aa (bg (aa (bU ae) (aa ae ah))) (aa (bg (aa (bU ae) (aa (bU ae) ah))) (aa (bg (aa ae (aa (bU ae) ah))) (aa (bg (aa ae (aa (bU ae) ah))) ah)))))))) (aq (aY (aH fK (dv 2) (ax aZ ae (dv 0))) (ar (ay (bg (aa (ax aZ (au (au (dv 3) (dv 2)) ae) (ax cG (au (dv 1) ae) ae)) (aa (ax aZ (au (au (dv 3) (dv 2)) ae) (ax cG (au (dv 1) ae) ae)) ah))))) aN) (ar (ay (bg (aa (ax bK (ax cG (au (dv 1) ae) ae) ae) (aa (ax bK (ax cG (au (dv 1) ae) ae) ae) ah)))))))))),?_⟩
 rintro u Q Ed ⟨k,a,m,rfl,h⟩;x_go;unfold gf at h;obtain⟨o,l,j,b,d,h⟩:=h;obtain⟨x,y,rfl⟩:∃x y:Int,a=[x,y]:=by
  match a,b with
  |[x,y],_=>exact⟨x,y,rfl⟩
 have q:=d x (by simp);have p:=d y (by simp);lk;have c:∀a b:Int,Bd 40 a->Bd 40 b->([D.int a,.int b]:yas).length<=sizeLine/\Q (.tup [.int a,.int b]):=λa b e d=>⟨UP _ _,h (a,b) ⟨e,d⟩⟩
 have i:=λn:Int=>fm (a:=n) (b:=5) (by decide)
 have e:=λn:Int=>fm (a:=n) (b:=25) (by decide)
 have d:=λn:Int=>fm (a:=n) (b:=41) (by decide)
 have h:=λn:Int=>fm (a:=n) (b:=601) (by decide)
 have g:=λn:Int=>fm (a:=n) (b:=2*1000000000000 - 1) (by decide)
 split;rw[p12];refine⟨GZ,.inl (by unfold Bd;decide),.inr (.inl (by unfold Bd;decide)),by decide,GZ,.inr (.inl (by unfold Bd;decide)),by decide,GZ,c _ _ (YV 1000000000001 (by have:=g (x*982451653);lia) (by decide)) (YV 1000000000001 (by have:=g (y*961748941);lia) (by decide))⟩;split;have s:=e x;have e:Bd 8 (x.fmod 25 - 12):=YV 20 (by lia) (by decide);generalize x.fmod 25 - 12=t at e ⊢;exact⟨by decide,by decide,by decide,.inl (e.mono (by decide)),c _ _ (e.mono (by decide)) ((e.mul e).mono (by decide))⟩;split;exact⟨by decide,by decide,c _ _ (YV 10 (by have:=i x;lia) (by decide)) (YV 10 (by have:=i y;lia) (by decide))⟩;refine⟨UP _ _,UP _ _,UP _ _,UP _ _,UP _ _,UP _ _,by rw[sizeLine_eq];decide,?_⟩;split;obtain⟨a,b,e,b,a⟩:=OY j (by lia);refine⟨_,e,?_⟩;lk;refine⟨by decide,_,e,?_⟩;lk;exact⟨by decide,c _ _ ((b.add (YV 50 (by have:=d x;lia) (by decide):Bd 12 (x.fmod 41))).mono (by decide)) ((a.add (YV 50 (by have:=d y;lia) (by decide):Bd 12 (y.fmod 41))).mono (by decide))⟩;exact⟨by decide,by decide,c _ _ (YV 1000 (by have:=h x;lia) (by decide)) (YV 1000 (by have:=h y;lia) (by decide))⟩
def Fp (F:aD K "deals" "deals" sN f fd) (C:QI K mg κ)   (a:mg "len" = none):aK P w K mg base (CX1 P w) 1 f fd ["numbers", "sizes"] (aM K (qj κ)):=by
 refine aD.okN F w8 (by fin2) λ_ _ _ _ _ _ c=>⟨_,(aq (aY (aH cF (aF bf (by rfl) a So (aa (dv 1) ah)) ae) (ar (ay (bR (aa (bR ah) ah)))) aN) (aq (fY 2 w8.nd ah) (aq nj (cK 2 (ar (ay (dv 2))))))),?_⟩
 rintro e Q Ed ⟨b,d,rfl,h⟩;x_go;obtain⟨rfl,h⟩:=h;lk;split
 simp_all [RS,sizeLine_eq]
 simp_all
def Fq (F:aD K "deals" "deals" iK f fd) (C:QI K mg κ)  (c:Gw P w K mg base κ) (d:mv P w K mg base κ) (b:mg "len" = none):aK P w K mg base (CX1 P w) 2 f fd ["numbers", "sizes"] (aM K (qk κ)):=by
 refine aD.okN F jr (by fin2) λ_ _ _ _ _ _ a=>⟨_,(aq (aY (aH cF (aF bf (by rfl) b So (aa (dv 1) ah)) ae) (ar (ay (bR (aa (bR ah) ah)))) aN) (aq (fY 2 jr.nd ah) (aq (bT PassesOwn.never rfl (aP (av d a (aa (aF bf (by rfl) b So (aa (dv 0) ah)) (aa (au (dv 1) ae) ah)))) (bu 3 jr.nd) (aq (aL 4 jr.nd (bP (by rfl) (by exact aX (osc:=ak iK) (xs:=["index"]) (ns:=["numbers"]) (by decide +kernel)) (aS.cons 0 aS.nil) (aP (dv 3)) (λ_ _ _ _ _=>bF) (λ_ _ _ _ _=>(au (dv 1) (dv 0))))) (aq (fF 5 jr.nd (by rfl) (by exact aX (osc:=ak iK) (xs:=["number"]) (ns:=["group"]) (by decide +kernel)) (aS.cons 4 aS.nil) (aP (dv 0)) (λ_ _ _ _ _=>(uO (aH (nL (by exact a.units)) (dv 0) (dv 1)))) (λ_ _ _ _ _=>(dv 0))) (ar (je 2 (bP (by rfl) (by exact aX (osc:=ak iK) (xs:=["others"]) (ns:=["group"]) (by decide +kernel)) (aS.cons 4 aS.nil) (aP (av c a (aa (dv 5) (aa (pD (dv 1) (cH ae) cu) ah)))) (λ_ _ _ _ _=>bF) (λ_ _ _ _ _=>(ax aZ (bR (aa (dv 1) ah)) (dv 0))))))))) (cK 2 (ar (ay (dv 2))))))),?_⟩
 rintro u Q Ed ⟨ns,d,rfl,h⟩;x_go;unfold lD at h;obtain⟨k,rfl,p,d,h⟩:=h;lk;rw[Po (by simp<;>lia)];refine⟨RS _,?_⟩;have c:∀{a:yag},a∈PV ns.length k->a.length=k/\∀i∈a,i<ns.length:=λh=>bW h
 refine PD.bL (PV ns.length k) Sa (λj b=>∃m g e:Option Sl,b=[some (.val (.lst false (ns.map D.int))),some (.val (.tup (.int (k:Int)::([])))),some (.own ((((PV ns.length k).take j).flatMap λa=>(Ut ([]) (cL ns (bE ns a))).map (bE ns a::·)).map Vl)),m,g,e]) (λR q=>?_) ⟨none,none,none,rfl⟩ ?_ ?_;lk;exact⟨ns.length,k,by rw[Pq],rfl,by lia,by lia,QM (zCP d k) (QM (Ym (by decide) p) (by decide)),q⟩;rintro j a s r ⟨m,g,e,rfl⟩;obtain⟨t,n⟩:=c (Rt r);lk;refine PD.comp_map a (λ(i:Nat)=>D.int (i:Int)) (λ_=>true) (λi=>D.int (ns.getD i 0)) (λR q=>?_) (by rw[sizeLine_eq];lia) (λi c K b=>?_) (λi c _ K b=>?_) ?_;unfold Sa;lk;exact q;lk;exact b;lk;have l:=n i c;exact⟨_,bD (by rw[QZ,Qw l,Q2,Qw l];rfl),b⟩;rw[Tq.mpr (λ_ _=>rfl),show(a.map λi=>D.int (ns.getD i 0))=(bE ns a).map D.int by unfold bE;rw[QP];rfl];lk;refine PD.comp_map ns D.int (λn=>!(bE ns a).contains n) D.int (λR q=>?_) (by rw[sizeLine_eq];lia) (λn c K b=>?_) (λn c _ K b=>?_) ?_;lk;exact q;lk;refine⟨of_eq_true (vC n),(Q1.map (Q1.int 0)).ok,_,.inr ⟨_,rfl⟩,_,rfl,?_⟩;rw[qE];exact b;lk;exact b;rw[show ns.filter (λn=>!(bE ns a).contains n)=cL ns (bE ns a)from rfl];lk;refine PD.comp_map (Ut ([]) (cL ns (bE ns a))) Vl (λ_=>true) (λo=>Vl (bE ns a::o)) (λR q=>?_) ?_ (λn c K b=>?_) (λn c _ K b=>?_) ?_;lk;exact⟨λz=>absurd (show HT.Qy 1 0 (some 1)=0 from z.1) (by decide),rfl,q⟩;have:=dY ([]) (cL ns (bE ns a)) (QM (cR _ _) d) (by simp);rw[sizeLine_eq];simp only[SQ,Y9]at this
 lia
 lk;exact b;have i:=qI c;unfold Vl at b ⊢;rw[QO]at b;lk;exact⟨by rw[sizeLine_eq];simp,by rw[Pq,i,sizeLine_eq];simp,b⟩;rw[Tq.mpr (λ_ _=>rfl)];have i:=kG (l:=(PV ns.length k).take j) (f:=λa=>(Ut ([]) (cL ns (bE ns a))).map (bE ns a::·)) (B:=1225) λa _=>by rw[Pq];exact QM (dY _ _ (QM (cR _ _) d) (by simp)) (by simp)
 have c:((PV ns.length k).take j).length<=35:=QM (List.length_take_le' _ _) (xH d p);have b:=dY ([]) (cL ns (bE ns a)) (QM (cR _ _) d) (by simp);simp only[SQ,Y9]at b;lk;refine⟨?_,_,_,_,by rw[q0 r,Sb,QP];rfl⟩;rw[Pq,Pq,sizeLine_eq];have x:=QM i (Y4 1225 c)
 lia
 rintro s ⟨m,g,e,rfl⟩;rw[Vv];lk;exact h
def Fs (F:aD K "deals" "deals" iL f fd) (C:QI K mg κ)  (c:Gx P w K mg base κ) (d:mv P w K mg base κ) (b:mg "len" = none):aK P w K mg base (CX1 P w) 3 f fd ["numbers", "sizes"] (aM K (ql κ)):=by
 refine aD.okN F jt (by fin2) λ_ _ _ _ _ _ a=>⟨_,(aq (aY (aH cF (aF bf (by rfl) b So (aa (dv 1) ah)) ae) (ar (ay (bR (aa (bR ah) ah)))) aN) (aq (fY 2 jt.nd ah) (aq (bT PassesOwn.never rfl (aP (av d a (aa (aF bf (by rfl) b So (aa (dv 0) ah)) (aa (au (dv 1) ae) ah)))) (bu 3 jt.nd) (aq (aL 4 jt.nd (bP (by rfl) (by exact aX (osc:=ak iL) (xs:=["index"]) (ns:=["numbers"]) (by decide +kernel)) (aS.cons 0 aS.nil) (aP (dv 3)) (λ_ _ _ _ _=>bF) (λ_ _ _ _ _=>(au (dv 1) (dv 0))))) (aq (fF 5 jt.nd (by rfl) (by exact aX (osc:=ak iL) (xs:=["number"]) (ns:=["group"]) (by decide +kernel)) (aS.cons 4 aS.nil) (aP (dv 0)) (λ_ _ _ _ _=>(uO (aH (nL (by exact a.units)) (dv 0) (dv 1)))) (λ_ _ _ _ _=>(dv 0))) (ar (je 2 (bP (by rfl) (by exact aX (osc:=ak iL) (xs:=["others"]) (ns:=["group"]) (by decide +kernel)) (aS.cons 4 aS.nil) (aP (av c a (aa (dv 5) (aa (pD (dv 1) (cH ae) cu) ah)))) (λ_ _ _ _ _=>bF) (λ_ _ _ _ _=>(ax aZ (bR (aa (dv 1) ah)) (dv 0))))))))) (cK 2 (ar (ay (dv 2))))))),?_⟩
 rintro u Q Ed ⟨ns,d,rfl,h⟩;x_go;unfold lE at h;obtain⟨k,i,rfl,p,c,d,h⟩:=h;lk;rw[Po (by simp<;>lia)];refine⟨RS _,?_⟩;have l:∀{a:yag},a∈PV ns.length k->a.length=k/\∀i∈a,i<ns.length:=λh=>bW h
 refine PD.bL (PV ns.length k) Sa (λj b=>∃m g e:Option Sl,b=[some (.val (.lst false (ns.map D.int))),some (.val (.tup (.int (k:Int)::([.int (i:Int)])))),some (.own ((((PV ns.length k).take j).flatMap λa=>(Ut ([i]) (cL ns (bE ns a))).map (bE ns a::·)).map Vl)),m,g,e]) (λR q=>?_) ⟨none,none,none,rfl⟩ ?_ ?_;lk;exact⟨ns.length,k,by rw[Pq],rfl,by lia,by lia,QM (zCP d k) (QM (Ym (by decide) p) (by decide)),q⟩;rintro j a s r ⟨m,g,e,rfl⟩;obtain⟨t,n⟩:=l (Rt r);lk;refine PD.comp_map a (λ(i:Nat)=>D.int (i:Int)) (λ_=>true) (λi=>D.int (ns.getD i 0)) (λR q=>?_) (by rw[sizeLine_eq];lia) (λi c K b=>?_) (λi c _ K b=>?_) ?_;unfold Sa;lk;exact q;lk;exact b;lk;have l:=n i c;exact⟨_,bD (by rw[QZ,Qw l,Q2,Qw l];rfl),b⟩;rw[Tq.mpr (λ_ _=>rfl),show(a.map λi=>D.int (ns.getD i 0))=(bE ns a).map D.int by unfold bE;rw[QP];rfl];lk;refine PD.comp_map ns D.int (λn=>!(bE ns a).contains n) D.int (λR q=>?_) (by rw[sizeLine_eq];lia) (λn c K b=>?_) (λn c _ K b=>?_) ?_;lk;exact q;lk;refine⟨of_eq_true (vC n),(Q1.map (Q1.int 0)).ok,_,.inr ⟨_,rfl⟩,_,rfl,?_⟩;rw[qE];exact b;lk;exact b;rw[show ns.filter (λn=>!(bE ns a).contains n)=cL ns (bE ns a)from rfl];lk;refine PD.comp_map (Ut ([i]) (cL ns (bE ns a))) Vl (λ_=>true) (λo=>Vl (bE ns a::o)) (λR q=>?_) ?_ (λn c K b=>?_) (λn c _ K b=>?_) ?_;lk;exact⟨λz=>absurd (show HT.Qy 2 0 (some 1)=0 from z.1) (by decide),i,rfl,c,QM (cR _ _) d,q⟩;have:=dY ([i]) (cL ns (bE ns a)) (QM (cR _ _) d) (by simpa using c);rw[sizeLine_eq];simp only[SQ,Y9]at this
 lia
 lk;exact b;have n:=qI c;unfold Vl at b ⊢;rw[QO]at b;lk;exact⟨by rw[sizeLine_eq];simp,by rw[Pq,n,sizeLine_eq];simp,b⟩;rw[Tq.mpr (λ_ _=>rfl)];have n:=kG (l:=(PV ns.length k).take j) (f:=λa=>(Ut ([i]) (cL ns (bE ns a))).map (bE ns a::·)) (B:=1225) λa _=>by rw[Pq];exact QM (dY _ _ (QM (cR _ _) d) (by simpa using c)) (by simp)
 have l:((PV ns.length k).take j).length<=35:=QM (List.length_take_le' _ _) (xH d p);have b:=dY ([i]) (cL ns (bE ns a)) (QM (cR _ _) d) (by simpa using c);simp only[SQ,Y9]at b;lk;refine⟨?_,_,_,_,by rw[q0 r,Sb,QP];rfl⟩;rw[Pq,Pq,sizeLine_eq];have x:=QM n (Y4 1225 l)
 lia
 rintro s ⟨m,g,e,rfl⟩;rw[Vv];lk;exact h
def Ft (F:aD K "deals" "deals" iM f fd) (C:QI K mg κ)  (c:Gy P w K mg base κ) (d:mv P w K mg base κ) (b:mg "len" = none):aK P w K mg base (CX1 P w) 4 f fd ["numbers", "sizes"] (aM K (qo κ)):=by
 refine aD.okN F ju (by fin2) λ_ _ _ _ _ _ a=>⟨_,(aq (aY (aH cF (aF bf (by rfl) b So (aa (dv 1) ah)) ae) (ar (ay (bR (aa (bR ah) ah)))) aN) (aq (fY 2 ju.nd ah) (aq (bT PassesOwn.never rfl (aP (av d a (aa (aF bf (by rfl) b So (aa (dv 0) ah)) (aa (au (dv 1) ae) ah)))) (bu 3 ju.nd) (aq (aL 4 ju.nd (bP (by rfl) (by exact aX (osc:=ak iM) (xs:=["index"]) (ns:=["numbers"]) (by decide +kernel)) (aS.cons 0 aS.nil) (aP (dv 3)) (λ_ _ _ _ _=>bF) (λ_ _ _ _ _=>(au (dv 1) (dv 0))))) (aq (fF 5 ju.nd (by rfl) (by exact aX (osc:=ak iM) (xs:=["number"]) (ns:=["group"]) (by decide +kernel)) (aS.cons 4 aS.nil) (aP (dv 0)) (λ_ _ _ _ _=>(uO (aH (nL (by exact a.units)) (dv 0) (dv 1)))) (λ_ _ _ _ _=>(dv 0))) (ar (je 2 (bP (by rfl) (by exact aX (osc:=ak iM) (xs:=["others"]) (ns:=["group"]) (by decide +kernel)) (aS.cons 4 aS.nil) (aP (av c a (aa (dv 5) (aa (pD (dv 1) (cH ae) cu) ah)))) (λ_ _ _ _ _=>bF) (λ_ _ _ _ _=>(ax aZ (bR (aa (dv 1) ah)) (dv 0))))))))) (cK 2 (ar (ay (dv 2))))))),?_⟩
 rintro x Q Ed ⟨ns,d,rfl,h⟩;x_go;unfold lF at h;obtain⟨k,i,l,rfl,r,c,e,d,h⟩:=h;lk;rw[Po (by simp<;>lia)];refine⟨RS _,?_⟩;have o:∀{a:yag},a∈PV ns.length k->a.length=k/\∀i∈a,i<ns.length:=λh=>bW h
 refine PD.bL (PV ns.length k) Sa (λj b=>∃p m g:Option Sl,b=[some (.val (.lst false (ns.map D.int))),some (.val (.tup (.int (k:Int)::([.int (i:Int),.int (l:Int)])))),some (.own ((((PV ns.length k).take j).flatMap λa=>(Ut ([i,l]) (cL ns (bE ns a))).map (bE ns a::·)).map Vl)),p,m,g]) (λR q=>?_) ⟨none,none,none,rfl⟩ ?_ ?_;lk;exact⟨ns.length,k,by rw[Pq],rfl,by lia,by lia,QM (zCP d k) (QM (Ym (by decide) r) (by decide)),q⟩;rintro j a t s ⟨p,m,g,rfl⟩;obtain⟨u,n⟩:=o (Rt s);lk;refine PD.comp_map a (λ(i:Nat)=>D.int (i:Int)) (λ_=>true) (λi=>D.int (ns.getD i 0)) (λR q=>?_) (by rw[sizeLine_eq];lia) (λi c K b=>?_) (λi c _ K b=>?_) ?_;unfold Sa;lk;exact q;lk;exact b;lk;have l:=n i c;exact⟨_,bD (by rw[QZ,Qw l,Q2,Qw l];rfl),b⟩;rw[Tq.mpr (λ_ _=>rfl),show(a.map λi=>D.int (ns.getD i 0))=(bE ns a).map D.int by unfold bE;rw[QP];rfl];lk;refine PD.comp_map ns D.int (λn=>!(bE ns a).contains n) D.int (λR q=>?_) (by rw[sizeLine_eq];lia) (λn c K b=>?_) (λn c _ K b=>?_) ?_;lk;exact q;lk;refine⟨of_eq_true (vC n),(Q1.map (Q1.int 0)).ok,_,.inr ⟨_,rfl⟩,_,rfl,?_⟩;rw[qE];exact b;lk;exact b;rw[show ns.filter (λn=>!(bE ns a).contains n)=cL ns (bE ns a)from rfl];lk;refine PD.comp_map (Ut ([i,l]) (cL ns (bE ns a))) Vl (λ_=>true) (λo=>Vl (bE ns a::o)) (λR q=>?_) ?_ (λn c K b=>?_) (λn c _ K b=>?_) ?_;lk;exact⟨λz=>absurd (show HT.Qy 3 0 (some 1)=0 from z.1) (by decide),i,l,rfl,c,e,QM (cR _ _) d,q⟩;have:=dY ([i,l]) (cL ns (bE ns a)) (QM (cR _ _) d) (by simp;exact⟨c,e⟩);rw[sizeLine_eq];simp only[SQ,Y9]at this
 lia
 lk;exact b;have n:=qI c;unfold Vl at b ⊢;rw[QO]at b;lk;exact⟨by rw[sizeLine_eq];simp,by rw[Pq,n,sizeLine_eq];simp,b⟩;rw[Tq.mpr (λ_ _=>rfl)];have o:=kG (l:=(PV ns.length k).take j) (f:=λa=>(Ut ([i,l]) (cL ns (bE ns a))).map (bE ns a::·)) (B:=1225) λa _=>by rw[Pq];exact QM (dY _ _ (QM (cR _ _) d) (by simp;exact⟨c,e⟩)) (by simp)
 have n:((PV ns.length k).take j).length<=35:=QM (List.length_take_le' _ _) (xH d r);have b:=dY ([i,l]) (cL ns (bE ns a)) (QM (cR _ _) d) (by simp;exact⟨c,e⟩);simp only[SQ,Y9]at b;lk;refine⟨?_,_,_,_,by rw[q0 s,Sb,QP];rfl⟩;rw[Pq,Pq,sizeLine_eq];have y:=QM o (Y4 1225 n)
 lia
 rintro t ⟨p,m,g,rfl⟩;rw[Vv];lk;exact h
def AX (F:aD K "spots_at" "spots_at" j6 f fd) (C:QI K mg κ)    : aK P w K mg base (CX1 P w) 1 f fd ["spots", "numbers"] (aM K (ml κ)):=by
 refine aD.okN F A4 (by fin2) λ_ _ _ _ _ _ e=>⟨_,(ar (ay (bP (by rfl) (by exact aX (osc:=ak j6) (xs:=["number"]) (ns:=["spots"]) (by decide +kernel)) (aS.cons 0 aS.nil) (aP (dv 1)) (λ_ _ _ _ _=>bF) (λ_ _ _ _ _=>(au (dv 1) (dv 0)))))),?_⟩
 rintro j Q Ed ⟨a,d,rfl,h⟩;x_go;unfold ja at h;obtain⟨b,rfl,c,g,h⟩:=h;lk;refine PD.comp_map b (λ(k:Nat)=>D.int (k:Int)) (λ_=>true) (λi=>PL (a.getD i (0,0))) (λR q=>?_) (by rw[sizeLine_eq];lia) (λi b K a=>?_) (λi b _ K a=>?_) ?_;lk;rw[QP];exact q;lk;exact a;lk;have l:=c i b;exact⟨_,bD (by rw[QZ,Qw l,Q2,Qw l];rfl),a⟩;rw[Tq.mpr (λ_ _=>rfl)];unfold pK at h;rw[QP]at h;exact h
def Dp (F:aD K "part_of" "part_of" lK f fd) (C:QI K mg κ)    : aK P w K mg base (CX1 P w) 1 f fd ["group", "part"] (aM K (ow κ)):=by
 refine aD.okN F DC (by fin2) λ_ _ _ _ _ _ e=>⟨_,(ar (ay (bg (aa (bP (by rfl) (by exact aX (osc:=ak lK) (xs:=["index"]) (ns:=["group"]) (by decide +kernel)) (aS.cons 0 aS.nil) (aP (au (dv 1) ae)) (λ_ _ _ _ _=>bF) (λ_ _ _ _ _=>(au (dv 1) (dv 0)))) (aa (au (dv 1) ae) ah))))),?_⟩
 rintro j Q Ed ⟨b,d,rfl,h⟩;x_go;unfold hW at h;obtain⟨a,x,rfl,g,c,h⟩:=h;lk;refine PD.comp_map a (λ(k:Nat)=>D.int (k:Int)) (λ_=>true) (λk=>D.int (b.getD k 0)) (λR q=>?_) (by rw[sizeLine_eq];lia) (λi b K a=>?_) (λi b _ K a=>?_) ?_;lk;exact q;lk;exact a;lk;have l:=c i b;exact⟨_,bD (by rw[QZ,Qw l,Q2,Qw l];rfl),a⟩;rw[Tq.mpr (λ_ _=>rfl)];lk;rw[QP]at h;exact⟨UP _ _,h⟩
def HG (F:aD K "dealt" "dealt" mJ f fd) (C:QI K mg κ)  (b:Gz P w K mg base κ) (d:xS P w K mg base κ) (a:D6 P w K mg base κ) (c:CC P w K mg base κ) (i:mg "list" = none) (h:mg "range" = none) (g:mg "sum" = none) (e:mg "zip" = none):aK P w K mg base (CX1 P w) 9 f fd ["spots", "sizes"] (aM K (sZ κ)):=by
 refine aD.okN F sS (by fin2) λ_ _ _ _ _ _ m=>⟨_,(aq (bT PassesOwn.never rfl (aP (av b m (aa ((CU rfl (by rfl) i (by rfl) h (aF (JG rfl) (by rfl) g boot_sum (aa (dv 1) ah)))).VW (aa (dv 1) ah)))) (bu 2 sS.nd) (aq (aL 3 sS.nd (av d m (aa (bP (by rfl) (by exact aX (osc:=ak mJ) (xs:=["group"]) (ns:=["spots"]) (by decide +kernel)) (aS.cons 0 aS.nil) (aP (dv 2)) (λ_ _ _ _ _=>bF) (λ_ _ _ _ _=>(av c m (aa (dv 1) (aa (dv 0) ah))))) ah))) (ar (aY (aH (Je (by exact m.units)) (au (dv 3) ae) pE) (ar (ay (bg (aa (kF (by rfl) (by exact aX (osc:=ak mJ) (xs:=["group", "part"]) (ns:=[]) (by decide +kernel)) aS.nil (.cons (.cons .nil)) (ug (by rfl) e (aa (dv 2) (aa (au (dv 3) ae) ah))) (λ_ _ _ _ _=>bF) (λ_ _ _ _ _=>(EE a (m.mono (by decide)) (aa (dv 0) (aa (dv 1) ah))))) (aa (au (dv 3) ae) ah))))) aN)))) (ar (ay dR))),?_⟩
 rintro N Q Ed ⟨b,d,rfl,h⟩;x_go;unfold nN at h;obtain⟨k,j,l,rfl,a,u,J,t,h⟩:=h;have x:Ut [k,j,l] [0,1,2,3,4,5,6]=(UH [k,j,l]).map λg=>g.map λG=>G.map λ(k:Nat)=>(k:Int):=by
  rcases a with⟨rfl,rfl,rfl⟩| ⟨rfl,rfl,rfl⟩<;>exact OI _ (by simp)
 have p:∀g∈UH [k,j,l],g∈YZ:=λg c=>by
  rcases a with⟨rfl,rfl,rfl⟩| ⟨rfl,rfl,rfl⟩;exact Vu _ c;exact SO _ c
 have a:(k:Int)+((j:Int)+((l:Int)+0))=7/\k<=3/\j<=3/\l<=3:=by lia
 generalize UH [k,j,l]=dl at *;lk;refine PD.bL dl (λg=>Vl (g.map λG=>G.map λ(k:Nat)=>(k:Int))) (λi e=>∃o n:Option Sl,e=[some (.val (.lst false (b.map PL))),some (.val (.tup [.int (k:Int),.int (j:Int),.int (l:Int)])),o,n]/\∀r,Dt b (dl.drop i) r->Q (CZ r)) (λR q=>?_) ⟨none,none,rfl,h⟩ ?_ ?_;lk;refine⟨[(k:Int),(j:Int),(l:Int)],rfl,7,?_,by decide,k,j,l,rfl,a.2.1,a.2.2.1,a.2.2.2,by decide,?_⟩;show D.int ((k:Int)+((j:Int)+((l:Int)+0)))=_;rw[a.1];rfl;rw[show(List.range 7).map (λ(k:Nat)=>(k:Int))=[0,1,2,3,4,5,6]from rfl,x,QP];exact q;rintro i g A e ⟨o,n,rfl,h⟩;obtain⟨j,a⟩:=RQ.mp e;rw[Yk j,a]at h;have c:=p g (Rt e);have L:=Jd u t c;obtain⟨M,l,_⟩:=CY g c;have j:∀G∈g,G.length<=3/\∀i∈G,i<b.length:=λG a=>⟨(l G a).2.1,λi e=>by have:=(l G a).2.2.1 i e;lia⟩
 unfold Vl;lk;refine PD.comp_map g (λG=>D.lst true ((G.map λ(k:Nat)=>(k:Int)).map D.int)) (λ_=>true) (λG=>pK (G.map λi=>b.getD i (0,0))) (λR q=>?_) (by rw[sizeLine_eq];lia) (λG a K c=>?_) (λG a _ K c=>?_) ?_;lk;rw[QP];exact q;lk;exact c;obtain⟨g3,j⟩:=j G a;lk;exact⟨G,rfl,j,by lia,c⟩;rw[Tq.mpr (λ_ _=>rfl),show(g.map λG=>pK (G.map λi=>b.getD i (0,0)))=(Tu b g).map pK by unfold Tu;rw[QP];rfl,bG,mq,kT,dS];refine⟨L,λd i=>?_⟩;have c:∀x:Str,PyData.strOk x=true->okD (.str x):=λx a=>(Ko 0 x a).ok
 rcases C6 L i with⟨y,rfl,e,B⟩| ⟨l,rfl,_⟩;unfold i5;lk;rw[nu,Pt rfl];refine⟨c _ (by decide +kernel),c _ (by decide +kernel),?_⟩;have j:=h (some (grO b g y,y)) (.inl ⟨y,i,rfl⟩);have E:(Tu b g).length=g.length:=Pq _;refine PD.jc (g.zip ((Tu b g).map (VB y))) (λz=>[D.lst true ((z.1.map λ(k:Nat)=>(k:Int)).map D.int),cU z.2]) (λ_=>true) (λz=>cU (z.2.1.map (λk=>z.1.getD k 0),z.2.2)) (λR q=>?_) (by rw[zCx,sizeLine_eq];lia) (λ_=>rfl) (λz a K d=>?_) (λz a _ K d=>?_) ?_;lk;rw[show(g.map λG=>G.map λ(k:Nat)=>(k:Int)).map (λG=>D.lst true (G.map D.int))=g.map λG=>D.lst true ((G.map λ(k:Nat)=>(k:Int)).map D.int)by rw[QP];rfl,Gp];exact q;lk;exact d;have s:=uW a;have I:=C8 e a;have e:(z.2.1.map λ(k:Nat)=>D.int (k:Int))=(z.2.1.map λ(k:Nat)=>(k:Int)).map D.int:=by rw[QP];rfl
 have H:=I.l3;unfold cU Sa at d ⊢;lk;refine⟨_,_,_,rfl,λa=>?_⟩;rw[e,bG,bG,cM,cM,<- e,oQ,hW];refine⟨z.2.1,.ra a,rfl,by lia,λk d=>by rw[Pq];have:=I.lt k d;rwa [Pq]at this,_,rfl,?_⟩;rw[show(z.2.1.map λk=>(z.1.map λ(k:Nat)=>(k:Int)).getD k 0).map D.int=(z.2.1.map λk=>z.1.getD k 0).map λ(k:Nat)=>D.int (k:Int)by rw[QP,QP];exact Yn λk _=>congrArg D.int (Hk z.1 k)];exact d;rw[Tq.mpr (λ_ _=>rfl)];lk;rw[show(g.zip ((Tu b g).map (VB y))).map (λz=>cU (z.2.1.map (λk=>z.1.getD k 0),z.2.2))=(grO b g y).map cU by unfold grO;rw[QP];rfl];exact⟨UP _ _,j⟩;unfold vf;lk;rw[Po (by rw[BE];decide)];exact⟨c _ (by decide +kernel),c _ (by decide +kernel),_,_,rfl,λr m=>h r (.inr ⟨l,i,m⟩)⟩;rintro A ⟨o,n,rfl,h⟩;rw[List.drop_length]at h;lk;exact h none rfl
def vD (F:aD K "first_dealt" "first_dealt" jJ f fd) (C:QI K mg κ)  (A:Jt P w K mg base κ)  : aK P w K mg base (CX1 P w) 10 f fd ["spots", "choices"] (aM K (iR κ)):=by
 refine aD.okN F iP (by fin2) λ_ _ _ _ _ _ b=>⟨_,(aq (bT PassesOwn.never rfl (ET (dv 1)) (bu 2 iP.nd) (aq (aL 3 iP.nd (av A b (aa (dv 0) (aa (dv 2) ah)))) (ar (aY (aH qR (dv 3) dR) (ar (ay (dv 3))) aN)))) (ar (ay dR))),?_⟩
 rintro E Q Ed ⟨g,d,rfl,h⟩;x_go;unfold fM at h;obtain⟨rfl,m,u,l,h⟩:=h;lk;refine PD.bL [(1,3,3),(2,2,3)] (λ(z:Nat×Nat×Nat)=>D.tup [.int (z.1:Int),.int (z.2.1:Int),.int (z.2.2:Int)]) (λi a=>∃j d:Option Sl,a=[some (.val (.lst false (g.map PL))),some (.val (.tup [.tup [.int 1,.int 3,.int 3],.tup [.int 2,.int 2,.int 3]])),j,d]/\(i=0∨(i=1/\Dt g (UH [1,3,3]) none)∨(i=2/\Dt g YZ none))) (λR q=>?_) ⟨none,none,rfl,.inl rfl⟩ ?_ ?_;lk;exact q;rintro i z B k ⟨j,d,rfl,a⟩;have n:(i=0/\z=(1,3,3))∨(i=1/\z=(2,2,3)):=by
  rcases i with _|_|i;exact .inl ⟨rfl,(Uy k).symm⟩;exact .inr ⟨rfl,(Uy k).symm⟩;simp at k
 lk;refine⟨z.1,z.2.1,z.2.2,rfl,?_,m,u,l,λr b=>?_⟩;rcases n with⟨_,rfl⟩| ⟨_,rfl⟩;exact .inl ⟨rfl,rfl,rfl⟩;exact .inr ⟨rfl,rfl,rfl⟩;have c:∀x,Dt g YZ (some x)->Q (WW x.1 x.2):=λx o=>by obtain⟨t,y,e,G⟩:=BA m l o;cases e;exact h t y o G
 rcases n with⟨rfl,rfl⟩| ⟨rfl,rfl⟩;cases r with
 |none =>
  rw[Po (by simp[CZ,eK])];exact⟨_,_,rfl,.inr (.inl ⟨rfl,b⟩)⟩
 |some x =>
  rw[Pt (by rfl)];exact c x (yP b (λe=>by cases e) λ_ e=>e)
 rcases a with a|⟨_,a⟩| ⟨a,_⟩;cases a;have p:=yP (s:=r) a (λ_=>b) λ_ e=>by cases e
 cases r with
 |none =>
  rw[Po (by simp[CZ,eK])];exact⟨_,_,rfl,.inr (.inr ⟨rfl,p⟩)⟩
 |some x =>
  rw[Pt (by rfl)];exact c x p
 cases a;rintro B ⟨j,d,rfl,a⟩;rcases a with a|⟨a,_⟩| ⟨_,a⟩;cases a;cases a;obtain⟨_,_,e,_⟩:=BA m l a;cases e
def uy (F:aD K "three_groups" "three_groups" iO f fd) (C:QI K mg κ)  (c:xi P w K mg base κ) (d:mg "len" = none):aK P w K mg base (CX1 P w) 11 f fd ["spots"] (aM K (iA κ)):=by
 refine aD.okX F uH (by fin2) λ_ _ _ _ _ _ Ed b a e i=>⟨_,(aq (aY (aH fK (aF bf (by rfl) d So (aa (dv 0) ah)) ae) (ar (Hd a (by rfl) C.Rc C.Ri rfl (aa pE ah))) aN) (ar (ay (av c b (aa (dv 0) (aa (G9 C.SX) ah)))))),?_⟩
 rintro j Q ⟨g,rfl,h⟩;x_go;unfold cP at h;obtain⟨a,c,b,h⟩:=h;lk;rw[Pq];split;exact⟨by rw[sizeLine_eq];simp,b (by lia)⟩;exact⟨rfl,by lia,a,c,h (by lia)⟩
def zK (F:aD K "_law_spots" "_law_spots" lX f fd) (C:QI K mg κ)  (c:CA P w K mg base κ) (b:xT P w K mg base κ) (d:mg "len" = none):aK P w K mg base (CX1 P w) 2 f fd ["_law_first", "_law_cells"] (aM K (kU κ)):=by
 refine aD.okN F kR (by fin2) λ_ _ _ _ _ _ a=>⟨_,(aq (fY 2 kR.nd ah) (aq (bT PassesOwn.never rfl (aP (TP.VW (eZ (ax aZ (dv 1) (av b a (aa (dv 0) (aa (ax aZ ae (ax cG (ax iF (dv 0) ae) ae)) ah)))) cu (cH ae)))) (bu 3 kR.nd) (ar (jd 2 (Bs 2 (av c a (aa (au (bR (aa ae (aa ae (aa ae (aa ae (aa ae (aa ae ah))))))) (ax cG (dv 0) ae)) (aa (av b a (aa (dv 3) (aa ae ah))) (aa (aF bf (by rfl) d So (aa (dv 2) ah)) ah)))))))) (cK 2 (ar (ay (dv 2)))))),?_⟩
 rintro s Q Ed ⟨f,c,rfl,h⟩;x_go;unfold fk at h;obtain⟨o,h⟩:=h;have r:=fm (a:=f.fdiv 30) (b:=4) (by decide);have d:=fm (a:=f) (b:=6) (by decide);lk;refine⟨RS _,?_⟩;unfold yE;lk;refine⟨CD.lit,by decide,by lia,by lia,λa n u=>⟨by rw[Pq,Pq,sizeLine_eq];lia,?_⟩⟩;rw[<- Sb,show PD.cutD ((c++a).map D.int) none (some 30)=((c++a).take 30).map D.int from G0 _ _ 30];refine⟨λj b=>∃(a:yau) (v:Option Sl),b=[some (.val (.int f)),some (.val (.lst false (c.map D.int))),some (.own (a.map PL)),v]/\a.length=j/\∀p∈a,WB 40 p,⟨[],none,rfl,rfl,by simp⟩,?_,?_⟩;rintro j x l b ⟨a,v,rfl,e,g⟩;rw[QZ]at b;obtain⟨c,c,rfl⟩:=Wi.mp b;have b:=(RQ.mp c).1;rw[Uv]at b;lk;refine⟨by rw[sizeLine_eq];decide,by decide,LA d.1 (by have:=d.2;simpa using this) λd c=>⟨by decide,by decide,λm k b=>?_⟩⟩;obtain⟨t,rfl,j,i⟩:∃t:Int,d=.int t/\0<=t/\t<=4:=by
  simp only[Qg,Uw,or_false]at c;rcases c with rfl|rfl|rfl|rfl|rfl|rfl<;>exact⟨_,rfl,by decide,by decide⟩
 rw[dJ,mQ,gf];refine⟨j,i,by lia,by rw[k];rfl,b,λp c=>⟨rfl,by rw[Pq,sizeLine_eq];lia,a++[p],_,by rw[Sb];rfl,by rw[Sw,e];rfl,λq b=>?_⟩⟩;rcases RH.mp b with b|b;exact g q b;rw[SM.mp b];exact c;rintro l ⟨a,v,rfl,e,g⟩;rw[Pq,Uv,Sw]at e;lk;exact h a (by lia) (by lia) g
def AU (F:aD K "_law_list" "_law_list" nW f fd) (C:QI K mg κ)  (b:rB P w K mg base κ) (d:mg "isinstance" = none) (c:mg "len" = none) (e:mg "list" = none):aK P w K mg base (CX1 P w) 2 f fd ["_law_found", "_law_least", "_law_most"] (aM K (mh κ)):=by
 refine aD.okN F rH (by fin2) λ_ _ _ _ _ _ a=>⟨_,(aq (aY (Ui.pt (de (cf (cC (eW (by rfl) d (by rfl) e boot_list (.inr (.inr (.inr (.inl rfl)))) (dv 0)))) (fZ (cf (He xJ xJ ae (aF bf (by rfl) c So (aa (dv 0) ah)) ae))))) (ar (ay fC)) aN) (aq (bT PassesOwn.never rfl (aP (dv 0)) (bu 3 rH.nd) (ar (aY (Ui.pt (de (cf (cC (av b a (aa (dv 3) ah)))) (de (aH fK (dv 3) (dv 1)) (fZ (Ui.pt (yS (aH qR (dv 2) dR) (vo (aH Di (dv 3) (dv 2))))))))) (ar (ay fC)) aN))) (ar (ay fC)))),?_⟩
 rintro o Q Ed ⟨b,a,d,rfl,h⟩;x_go;obtain⟨l,k,g,e,h⟩:=h;lk;rw[Pq,Pt (by lia),Pt (by lia)];refine Hi b D.int (λc=>∃v:Option Sl,c=[some (.val (.lst false (b.map D.int))),some (.val (.int a)),some (.val d),v]) (λR q=>?_) ⟨none,rfl⟩ ?_ ?_;lk;exact q;rintro n c a ⟨v,rfl⟩;have j:=g n a;rcases e with rfl|⟨m,rfl,b⟩;lk
 lia
 have i:=b n a;lk
 lia
 rintro c ⟨v,rfl⟩;exact h
def zJ (F:aD K "_law_group" "_law_group" gg f fd) (C:QI K mg κ)  (Y:Cz P w K mg base κ) (Pm:mg "isinstance" = none) (t:mg "len" = none) (PJ:mg "range" = none) (B:mg "sum" = none) (Qx:mg "tuple" = none) (QY:mg "zip" = none):aK P w K mg base (CX1 P w) 3 f fd ["_law_group_here", "_law_spots_here", "_law_spot_here"] (aM K (iu κ)):=by
 refine aD.okN F dH (by fin2) λ_ _ _ _ _ _ M=>⟨_,(aq (aY (Ui.pt (de (cf (cC (eW (by rfl) Pm (by rfl) Qx boot_tuple (.inr (.inr (.inl rfl))) (dv 0)))) (fZ (aH kK (aF bf (by rfl) t So (aa (dv 0) ah)) ae)))) (ar (ay fC)) aN) (aq (Mf (dv 0) (ua (n:=2) rfl (gG (bu 6 dH.nd) (gG (bu 7 dH.nd) qM)))) (aq (aY (Ui.pt (de (cf (cC (av Y M (aa (dv 6) (aa ae (aa (aF bf (by rfl) t So (aa (dv 1) ah)) ah)))))) (de (cf (cC (av Y M (aa (dv 7) (aa ae (aa dR ah)))))) (fZ (aH kK (aF bf (by rfl) t So (aa (dv 6) ah)) (aF bf (by rfl) t So (aa (dv 7) ah))))))) (ar (ay fC)) aN) (aq (bT PassesOwn.never rfl (wO (by rfl) PJ (aa ae (aa (aF bf (by rfl) t So (aa (dv 6) ah)) ah))) (bu 3 dH.nd) (ar (aY (aH Di (au (dv 6) (ax bK (dv 3) ae)) (au (dv 6) (dv 3))) (ar (ay fC)) aN))) (aq (aL 4 dH.nd (aF (o8 rfl) (by rfl) B boot_sum (aa (kF (by rfl) (by exact aX (osc:=ak gg) (xs:=["_law_number", "_law_share"]) (ns:=["_law_spots_here"]) (by decide +kernel)) (aS.cons 1 aS.nil) (.cons (.cons .nil)) (ug (by rfl) QY (aa (dv 6) (aa (dv 7) ah))) (λ_ _ _ _ _=>bF) (λ_ _ _ _ _=>(ax aI (dv 1) (au (au (dv 2) (dv 0)) ae)))) ah))) (aq (aL 5 dH.nd (aF (o8 rfl) (by rfl) B boot_sum (aa (kF (by rfl) (by exact aX (osc:=ak gg) (xs:=["_law_number", "_law_share"]) (ns:=["_law_spots_here"]) (by decide +kernel)) (aS.cons 1 aS.nil) (.cons (.cons .nil)) (ug (by rfl) QY (aa (dv 6) (aa (dv 7) ah))) (λ_ _ _ _ _=>bF) (λ_ _ _ _ _=>(ax aI (dv 1) (au (au (dv 2) (dv 0)) ae)))) ah))) (ar (ay (pB (kE cF (ax aI (au (dv 2) ae) (aF (o8 rfl) (by rfl) B boot_sum (aa (dv 7) ah))) (ax aI (dv 4) (au (dv 2) ae))) (pC (kE cF (ax aI (au (dv 2) ae) (aF (o8 rfl) (by rfl) B boot_sum (aa (dv 7) ah))) (ax aI (dv 5) (au (dv 2) ae))))))))))))),?_⟩
 rintro ds Q Ed ⟨d,g,r,A,y,rfl,h⟩;x_go;unfold fh at h;obtain⟨c,e,rfl,I,hl,hb,H,h⟩:=h;have ek:(c.map λ(k:Nat)=>D.int (k:Int))=(c.map λ(k:Nat)=>(k:Int)).map D.int:=by rw[QP];rfl
 unfold c9;rw[ek];have lk:(c.map λ(k:Nat)=>(k:Int)).length=c.length:=Pq _;have l0:=I.l0;have l3:=I.l3;have L:=I.ls;have O:∀i (N:i<c.length),(c.map λ(k:Nat)=>(k:Int))[i]?=some ((c[i]:Nat):Int):=λi N=>by rw[QZ,Qw N];rfl
 have J:∀k,k<g.length->g[k]?=some (g.getD k (0,0)):=λk m=>by rw[Q2,Qw m];rfl
 lk;rw[Pt (by rfl),lk];refine⟨by lia,by lia,λn s=>?_,.inr λn s=>?_,by lia,by lia,λn s=>by have:=I.pos n s;lia,.inl True.intro,?_⟩;obtain⟨k,_,rfl⟩:=P6.mp s
 lia
 obtain⟨k,m,rfl⟩:=P6.mp s;rw[Pq];have:=I.lt k m
 lia
 rw[Pt (by rw[Pq,lk,Pq,L])];refine PD.bL (List.range' 1 (c.length - 1)) (λ(k:Nat)=>D.int (k:Int)) (λ_ ρ=>∃E:Option Sl,ρ=[some (.val (.tup [.lst false ((c.map λ(k:Nat)=>(k:Int)).map D.int),.lst false (e.map D.int)])),some (.val (.lst false (g.map PL))),some (.val (T3 r A y)),E,none,none,some (.val (.lst false ((c.map λ(k:Nat)=>(k:Int)).map D.int))),some (.val (.lst false (e.map D.int)))]) (λR q=>?_) ⟨none,rfl⟩ ?_ ?_;lk;rw[Pq,lk];have:=Cb 1 c.length;rw[show((1:Nat):Int)=1 from rfl]at this;rw[this];exact⟨⟨by lia,by lia⟩,⟨by lia,by lia⟩,q⟩;rintro j k Pu hj ⟨E,rfl⟩;obtain⟨Uj,ej⟩:=RQ.mp hj;rw[VD]at Uj;rw[zCO,Nat.one_mul]at ej;obtain⟨o,rfl⟩:∃o,k=o+1:=⟨j,by lia⟩;have m:o+1<c.length:=by lia
 lk;have a1:Rz ((c.map λ(k:Nat)=>(k:Int)).map D.int) (((o+1:Nat):Int) - 1)=some (D.int ((c[o]:Nat):Int)):=by rw[show(((o+1:Nat):Int) - 1)=(o:Int)by lia];exact bD (j:=o) (by rw[QZ,O o (by lia)];rfl)
 refine⟨_,a1,_,bD (j:=o+1) (by rw[QZ,O (o+1) m];rfl),?_⟩;rw[kL];refine⟨_,rfl,?_⟩;rw[Po (by rw[decide_eq_true_eq];have:=WA.mp I.rise o (o+1) (by lia) m (by lia);lia)];exact⟨_,rfl⟩;rintro Pu ⟨E,rfl⟩;have zl:(c.zip e).length=c.length:=by rw[zCx,L,Nat.min_self]
 have p:∀z∈c.zip e,z.1<g.length/\Bd 900 z.2:=λz l=>⟨I.lt _ (W9 (a:=z.1) (b:=z.2) l).1,I.bd _ (W9 (a:=z.1) (b:=z.2) l).2⟩
 have u:∀z∈c.zip e,WB 40 (g.getD z.1 (0,0)):=λz l=>hb _ (Rt (J z.1 (p z l).1))
 have bs:=xN e I.bd;have bX:Bd 1000 (zX g (c.zip e)):=(xN ((c.zip e).map λz=>z.2*(g.getD z.1 (0,0)).1) (n:=940) λx G=>by obtain⟨z,l,rfl⟩:=P6.mp G;exact((p z l).2.mul (u z l).x).mono (by lia)).mono (by rw[Pq];lia)
 have bY:Bd 1000 (zY g (c.zip e)):=(xN ((c.zip e).map λz=>z.2*(g.getD z.1 (0,0)).2) (n:=940) λx G=>by obtain⟨z,l,rfl⟩:=P6.mp G;exact((p z l).2.mul (u z l).y).mono (by lia)).mono (by rw[Pq];lia)
 lk;refine PD.jc (c.zip e) (λz=>[.int ((z.1:Nat):Int),.int z.2]) (λ_=>true) (λz=>.int (z.2*(g.getD z.1 (0,0)).1)) (λR q=>?_) (by rw[sizeLine_eq];lia) (λ_=>rfl) (λz l K m=>?_) (λz l _ K m=>?_) ?_;lk;rw[tJ];exact q;lk;exact m;lk;refine⟨_,bD (by rw[QZ,J z.1 (p z l).1];rfl),?_⟩;rw[show PL (g.getD z.1 (0,0))=D.tup [.int (g.getD z.1 (0,0)).1,.int (g.getD z.1 (0,0)).2]from rfl];lk;exact⟨S7 (p z l).2 (u z l).x,m⟩;rw[Tq.mpr (λ_ _=>rfl)];lk;refine⟨true,(c.zip e).map λz=>z.2*(g.getD z.1 (0,0)).1,by rw[QP];rfl,?_⟩;refine PD.jc (c.zip e) (λz=>[.int ((z.1:Nat):Int),.int z.2]) (λ_=>true) (λz=>.int (z.2*(g.getD z.1 (0,0)).2)) (λR q=>?_) (by rw[sizeLine_eq];lia) (λ_=>rfl) (λz l K m=>?_) (λz l _ K m=>?_) ?_;lk;rw[tJ];exact q;lk;exact m;lk;refine⟨_,bD (by rw[QZ,J z.1 (p z l).1];rfl),?_⟩;rw[show PL (g.getD z.1 (0,0))=D.tup [.int (g.getD z.1 (0,0)).1,.int (g.getD z.1 (0,0)).2]from rfl];lk;exact⟨S7 (p z l).2 (u z l).y,m⟩;rw[Tq.mpr (λ_ _=>rfl)];have U:Bd 1000 e.sum:=bs.mono (by lia);have T:Bd 1000 r:=H.b.mono (by decide);have c1:Bd 1000 A:=H.x.mono (by decide);have c2:Bd 1000 y:=H.y.mono (by decide);have ex:e.sum*A=r*zX g (c.zip e):=by rw[NL];exact I.x
 have ey:e.sum*y=r*zY g (c.zip e):=by rw[NM];exact I.y
 refine⟨true,(c.zip e).map λz=>z.2*(g.getD z.1 (0,0)).2,by rw[QP];rfl,false,e,rfl,S7 c1 U,S7 bX T,?_⟩;rw[show((c.zip e).map λz=>z.2*(g.getD z.1 (0,0)).1).sum=zX g (c.zip e)from rfl,Pt (show A*e.sum=zX g (c.zip e)*r by rw[S4,ex,S4])];refine⟨false,e,rfl,S7 c2 U,S7 bY T,?_⟩;rw[show((c.zip e).map λz=>z.2*(g.getD z.1 (0,0)).2).sum=zY g (c.zip e)from rfl,V6 (show y*e.sum=zY g (c.zip e)*r by rw[S4,ey,S4])];exact h
def AR (F:aD K "_law_good" "_law_good" nV f fd) (C:QI K mg κ)  (e:Ax P w K mg base κ) (g:uZ P w K mg base κ) (c:mg "isinstance" = none) (a:mg "len" = none) (j:mg "list" = none) (d:mg "set" = none) (h:mg "tuple" = none):aK P w K mg base (CX1 P w) 4 f fd ["_law_found", "_law_spots_here"] (aM K (me κ)):=by
 refine aD.okN F jb (by fin2) λ_ _ _ _ _ _ b=>⟨_,(aq (aY (Ui.pt (de (cf (cC (eW (by rfl) c (by rfl) h boot_tuple (.inr (.inr (.inl rfl))) (dv 0)))) (de (aH kK (aF bf (by rfl) a So (aa (dv 0) ah)) ae) (fZ (cf (cC (av g b (aa (au (dv 0) ae) ah)))))))) (ar (ay fC)) aN) (aq (aY (Ui.pt (de (cf (cC (eW (by rfl) c (by rfl) j boot_list (.inr (.inr (.inr (.inl rfl)))) (au (dv 0) ae)))) (fZ (aH kK (aF bf (by rfl) a So (aa (au (dv 0) ae) ah)) ae)))) (ar (ay fC)) aN) (aq (aL 2 jb.nd (bR ah)) (aq (bT PassesOwn.never rfl (aP (au (dv 0) ae)) (bu 3 jb.nd) (aq (aY (cf (cC (av e b (aa (dv 3) (aa (dv 1) (aa (au (dv 0) ae) ah)))))) (ar (ay fC)) aN) (ar (aL 2 jb.nd (ax aZ (dv 2) (au (dv 3) ae)))))) (ar (ay (kE cF (EF rfl (by rfl) a (by rfl) d (dv 2)) (aF bf (by rfl) a So (aa (dv 2) ah))))))))),?_⟩
 rintro p Q Ed ⟨d,c,rfl,h⟩;x_go;unfold d5 at h;obtain⟨⟨a,y,rfl,G⟩,g,l,h⟩:=h;unfold WX;lk;rw[Pt (by rfl)];show eR κ [T3 y.1 y.2.1 y.2.2] _ _;rw[jw,eN];refine⟨G.pr,true,rfl,?_⟩;have n:=G.two;rw[Po (by decide),Pq,Pt (by lia)];refine⟨RS _,?_⟩;refine PD.bL a c9 (λj d=>∃b:Option Sl,d=[some (.val (.tup [.lst false (a.map c9),PK y])),some (.val (.lst false (c.map PL))),some (.val (.lst true ((((a.take j).flatMap (·.1)).map λ(k:Nat)=>(k:Int)).map D.int))),b]) (λR q=>?_) ⟨none,rfl⟩ ?_ ?_;lk;exact q;rintro j q m d ⟨b,rfl⟩;have e:=G.ok q (Rt d);have i:j<3:=by have:=(RQ.mp d).1;lia
 lk;rw[rN];show iu κ [c9 q,D.lst false (c.map PL),T3 y.1 y.2.1 y.2.2] _ _;rw[lM,fh];refine⟨q.1,q.2,rfl,e,g,l,G.cb,true,rfl,?_⟩;rw[Po (by decide),show c9 q=D.tup [.lst false (q.1.map λ(k:Nat)=>D.int (k:Int)),.lst false (q.2.map D.int)]from rfl];lk;have g:=kG (l:=a.take j) (f:=λ(q:yag×yaf)=>q.1) (B:=3) λq c=>(G.ok q (zCo c)).l3
 have r:(a.take j).length<=3:=by rw[Uv];lia
 have o:=e.l3;have e:((((a.take (j+1)).flatMap (·.1)).map λ(k:Nat)=>(k:Int)).map D.int)=((((a.take j).flatMap (·.1)).map λ(k:Nat)=>(k:Int)).map D.int)++(q.1.map λ(k:Nat)=>D.int (k:Int)):=by rw[q0 d,Sb,Sb,show(q.1.map λ(k:Nat)=>D.int (k:Int))=(q.1.map λ(k:Nat)=>(k:Int)).map D.int by rw[QP];rfl]
 rw[e];exact⟨by rw[Pq,Pq,Pq,sizeLine_eq];lia,_,rfl⟩;rintro m ⟨b,rfl⟩;rw[Vv];lk;have g:=kG (l:=a) (f:=λ(q:yag×yaf)=>q.1) (B:=3) λq c=>(G.ok q c).l3
 refine⟨true,_,rfl,zCh.mpr (G.nd.imp λh e=>h (by lia)),by rw[Pq];lia,?_⟩;rw[Pq (f:=D.int),V6 rfl];exact h
def vH (F:aD K "_law_refused" "_law_refused" jN f fd) (C:QI K mg κ)  (d:mw P w K mg base κ) (c:mg "ValueError" = none) (a:mg "isinstance" = none):aK P w K mg base (CX1 P w) 12 f fd ["_law_spots_here"] (aM K (iW κ)):=by
 refine aD.okN F fR (by fin2) λ_ _ _ _ _ _ b=>⟨_,(aq (aL 1 fR.nd dR) (aq (JO 2 d (b.mono (by decide)) fR.nd C.Qz (aa (dv 0) ah) (λ_=>(ar (aL 1 fR.nd (dv 2))))) (aq (aY (Ui.pt (de (aH MW (dv 1) dR) (de (cf (cC (jW (by rfl) a (qS (v:=.ref κ.TooFew) (by rfl) C.Rc rfl) (λu h=>h) (dv 1)))) (fZ (cf (cC (jW (by rfl) a (BY (v:=.ty "ValueError") (by rfl) c (by rfl) rfl) (λu h=>h) (dv 1)))))))) (ar (ay fC)) aN) (ar (ay (pB (yL (jW (by rfl) a (qS (v:=.ref κ.TooMany) (by rfl) C.Rh rfl) (λu h=>h) (dv 1))) (pC (yL (jW (by rfl) a (qS (v:=.ref κ.NoDots) (by rfl) C.RM rfl) (λu h=>h) (dv 1)))))))))),?_⟩
 rintro i Q Ed ⟨e,rfl,h⟩;x_go;unfold dG at h;obtain⟨g,a,h⟩:=h;lk;refine⟨by lia,a,λ_=>⟨_,rfl,C.RN,C.PO,true,C.Qc,?_⟩,λa=>absurd a (by lia)⟩;rw[Po (by decide)];refine⟨true,C.PN,?_⟩;rw[Po (by decide)];refine⟨false,C.P8,?_⟩;rw[Pt rfl];exact⟨false,C.Qb,h⟩
def AS (F:aD K "_law_held" "_law_held" j5 f fd) (C:QI K mg κ)   (a:mg "list" = none):aK P w K mg base (CX1 P w) 1 f fd ["_law_found"] (aM K (mf κ)):=by
 refine aD.okN F AZ (by fin2) λ_ _ _ _ _ _ c=>⟨_,(ar (ay (bg (aa (kF (by rfl) (by exact aX (osc:=ak j5) (xs:=["_law_numbers", "_law_shares"]) (ns:=[]) (by decide +kernel)) aS.nil (.cons (.cons .nil)) (aP (au (dv 0) ae)) (λ_ _ _ _ _=>bF) (λ_ _ _ _ _=>(bg (aa ((vj (by rfl) a (dv 0))).VW (aa ((vj (by rfl) a (dv 1))).VW ah))))) (aa (au (dv 0) ae) ah))))),?_⟩
 rintro g Q Ed ⟨d,rfl,h⟩;x_go;unfold i8 at h;obtain⟨a,y,rfl,e,h⟩:=h;unfold WX;lk;refine PD.jc a (λq=>[.lst false (q.1.map λ(k:Nat)=>D.int (k:Int)),.lst false (q.2.map D.int)]) (λ_=>true) cU (λR q=>?_) (by rw[sizeLine_eq];lia) (λ_=>rfl) (λz b K a=>?_) (λz b _ K a=>?_) ?_;lk;exact q;lk;exact a;unfold cU Sa at a;lk;exact⟨UP _ _,a⟩;rw[Tq.mpr (λ_ _=>rfl)];lk;exact⟨UP _ _,h⟩
def MZ (F:aD K "law" "law" j4 f fd) (C:QI K mg κ)  (RE:xn P w K mg base κ) (H:Cw P w K mg base κ) (SF:Cy P w K mg base κ) (RF:xp P w K mg base κ) (Sk:Ay P w K mg base κ) (t:mw P w K mg base κ) (P9:mg "list" = none):aK P w K mg base (CX1 P w) 13 f fd ["_law_script"] (aM K uK):=by
 refine aD.okB F jv (by fin2) λ_ _ _ _ _ _ c=>⟨_,(kh (aL 1 jv.nd (av RE c (aa (dv 0) (aa ae ah)))) (kh (aL 2 jv.nd (av Sk c (aa (dv 1) (aa (TP.VW (eZ (dv 0) (cH ae) (cH ae))) ah)))) (kh (JM 3 jv.nd (vj (by rfl) P9 (dv 2))) (kh (aL 4 jv.nd (Bs 3 (av t c (aa (dv 3) ah)))) (kh (aY (Bz 3 (Ui.pt (de (cf (cC (av H c (aa (dv 4) (aa (dv 2) ah))))) (de (aH (Jf (by exact c.units)) (dv 3) (dv 2)) (fZ (cf (cC (av RF c (aa (TP.VW (eZ (dv 2) cu (cH (ax cG (ax iF (dv 1) ae) ae)))) ah))))))))) (ar (ay fC)) aN) (Eg 0 (Eh (ix:=4) (iy:=5) (i1:=6) (i2:=7) (by rfl) (by rfl) (by rfl) (by decide) (NA 5 jv.nd (av SF c (aa (dv 4) ah))) (Ni PassesOwn.never rfl (B2 (Ji zh (fg (i:=4) (by rfl) (by first|exact Or.inl rfl|exact Or.inr (Or.inl rfl)|exact Or.inr (Or.inr rfl)) (by decide) (by decide)) uA (by intro _ _;rfl))) (Nc rfl (zO (BZ (i:=6) jv.nd (by rfl) (by first|exact Or.inl rfl|exact Or.inr rfl)) (zO (BZ (i:=7) jv.nd (by rfl) (by first|exact Or.inl rfl|exact Or.inr rfl)) KA))) (HY (ku (Ds PySem.F.plainAttrs_list PySem.F.slot_list_append PySem.F.type_list_append pL (fg (i:=6) (by rfl) (by first|exact Or.inl rfl|exact Or.inr (Or.inl rfl)|exact Or.inr (Or.inr rfl)) (by decide) (by decide)) (gR uA mG)) (by rfl)) (KG (ku (zN PySem.F.plainAttrs_list PySem.F.slot_list_clear PySem.F.type_list_clear zA (fg (i:=7) (by rfl) (by first|exact Or.inl rfl|exact Or.inr (Or.inl rfl)|exact Or.inr (Or.inr rfl)) (by decide) (by decide))) (by rfl))))) (ku (zN PySem.F.plainAttrs_list PySem.F.slot_list_pop PySem.F.type_list_pop Fc (Ji zh (fg (i:=4) (by rfl) (by first|exact Or.inl rfl|exact Or.inr (Or.inl rfl)|exact Or.inr (Or.inr rfl)) (by decide) (by decide)) uA (by intro _ _;rfl))) (by rfl)) (kh (Hc 3) (LD (ay (pB (kE (Je (by exact c.units)) (av t c (aa (dv 2) ah)) (dv 5)) (pC (av H c (aa (av t c (aa (TP.VW (eZ (dv 2) cu (cH ae))) ah)) (aa (TP.VW (eZ (dv 2) cu (cH ae))) ah))))))))))))))),?_⟩
 rintro ds Q Ed ⟨ns,rfl,O,h⟩;x_go;have m:∀(b:Bool) (u:yau),okD (.lst b (u.map PL)):=λb u=>(Q1.map MY).ok
 lk;refine⟨by decide,O,λv=>?_⟩;have f7:=fm (a:=v.fdiv 6) (b:=7) (by decide);rw[JH,cM,lN,fk];refine⟨by rw[Uv];lia,λa B j n=>⟨_,_,rfl,?_⟩⟩;rw[cW,ft,cP];refine⟨j,n,λz=>absurd z (by lia),λ_ l y k G=>⟨Jy l y,?_⟩⟩;rw[Am,bG,cW,iV,d5];refine⟨⟨l,y,rfl,G⟩,j,n,true,rfl,?_⟩;rw[Po (by decide)];refine⟨m _ _,m _ _,?_⟩;rw[yU,Po (by decide)];refine⟨CD.lit,by decide,true,_,rfl,?_⟩;rw[show(v.fdiv 6).fmod 7=((((v.fdiv 6).fmod 7).toNat:Nat):Int)by lia,G0,cW,jT,dG];refine⟨by rw[Uv];lia,λp r=>n p (zCo r),true,rfl,?_⟩;rw[Po (by decide)];obtain⟨E,eF⟩:=NZ l y;have L:a ≠ []:=λz=>by rw[z]at B;cases B
 have A:=G.two;have Y:l.map Y0 ≠ []:=λz=>by rw[List.map_eq_nil_iff.mp z]at A;cases A
 unfold yI Br;refine⟨l.map Y0,PK y,by rw[E];rfl,rfl,Y,by rw[Pq];lia,λg T=>?_,λd k=>?_,λx C=>?_,?_⟩;obtain⟨q,N,rfl⟩:=P6.mp T;have I:=G.ok q N;have l3:=I.l3;have ls:=I.ls;exact⟨by show(q.1.map _).length<=9;rw[Pq];lia,by show q.2.length<=9;lia⟩;simp at k;rcases k with rfl|rfl;exact JW rfl;cases a with
 |nil=>exact absurd rfl L
 |cons p a=>exact Hh (i:=p.1) (ws:=[.int p.2]) (ds:=a.map PL) (qQ (p::a))
 simp at C;exact⟨_,C,qQ a⟩;rw[eF];lk;rw[Ge];refine⟨l,y,rfl,by lia,λd k=>?_,j,n,λz=>by lia,λ_ J y2 s G2=>?_⟩;simp at k;rcases k with rfl|rfl|rfl;exact GI rfl;exact oW (qQ a);rw[<- E];exact Lz rfl;have e:=EJ k s;cases e;refine⟨(Jg _ _).1,(Jg _ _).1,?_⟩;rw[nu,Pt rfl,show PD.cutD (a.map PL) none (some 7)=(a.take 7).map PL from G0 _ _ 7,cW,ft,cP];have M:(a.take 7).length=7:=by rw[Uv];lia
 have g:∀p∈a.take 7,WB 40 p:=λp r=>n p (zCo r)
 refine⟨by lia,g,λz=>by lia,λ_ o x U G3=>?_⟩;rw[Am,iV,d5];exact⟨⟨o,x,rfl,G3⟩,by lia,g,h⟩
end
def all_mk {l:PySem.W.OpenLaw} {K:yac} (X:K.In h) (G:h.Ns mainGlobals mg) (r:mg "law" = some (.ref fa))
 {SY:Option Addr} {S1:Array (yan)}
 {SG:Option Addr} {SH:Array (yan)}
 {SJ:Option Addr} {SK:Array (yan)}
  {g:Option Addr} {e:Array (yan)} {i:Value}
  (e0:FL K "sign" z9)
  (e1:FL K "common_divisor" gK)
  (e2:FL K "lowest" nY)
  (e3:FL K "picks" qY)
  (e4:FL K "value" vS)
  (e5:FL K "side" zZ)
  (e6:FL K "crossed" pW)
  (e7:FL K "facing" sO)
  (e8:FL K "place_of" nZ)
  (e9:FL K "swing" vR)
  (e10:FL K "arrow" vO)
  (e11:FL K "turn" Aa)
  (e12:FL K "back" zW)
  (e13:FL K "left_of" pX)
  (e14:FL K "chain" vP)
  (e15:FL K "hull" uE)
  (e16:FL K "thin_bounds" jO)
  (e17:FL K "bounds" nU)
  (e18:FL K "length" sQ)
  (e19:FL K "are_opposite" iJ)
  (e20:FL K "balance_of_two" gJ)
  (e21:FL K "balance_of_three" dg)
  (e22:FL K "balance" pV)
  (e23:FL K "reduced" pY)
  (e24:FL K "place" vQ)
  (e25:FL K "mixture" jq)
  (e26:FL K "place_between" ie)
  (e27:FL K "clipped" lJ)
  (e28:FL K "common" sM)
  (e29:FL K "owned_gauges" fO)
  (e30:FL K "with_share" kQ)
  (e31:FL K "last_needed" jK)
  (e32:FL K "constant" j2)
  (e33:FL K "bars" uD)
  (e34:FL K "bar_rows" j1)
  (e35:FL K "hulls_meet" fq)
  (e36:FL K "_law_whole" lY)
  (e37:FL K "_law_cell_at" jL)
  (Y:FL K "_law_divisor" jM)
  (U:FL K "_law_is_place" iN)
  (T:FL K "_law_stream" kP)
  (Q:FL K "_law_spot" nX)
  (O:FL K "deals" sN)
  (N:FL K "deals" iK)
  (M:FL K "deals" iL)
  (L:FL K "deals" iM)
  (J:FL K "spots_at" j6)
  (I:FL K "part_of" lK)
  (H:FL K "dealt" mJ)
  (E:FL K "first_dealt" jJ)
  (B:FL K "three_groups" iO)
  (A:FL K "_law_spots" lX)
  (z:FL K "_law_list" nW)
  (y:FL K "_law_group" gg)
  (x:FL K "_law_good" nV)
  (u:FL K "_law_refused" jN)
  (t:FL K "_law_held" j5)
  (C:PySem.W.nsIn K mainGlobals "law" = some (some (.ref f57))) (p:K.lookup f57=some ⟨i,g,.func (PySem.W.fnOf "law" "law" (fE j4) (cY j4) (ak j4) .none kV57 dc57 pm57 an57 cd57 ct57),e⟩) (c57:PySem.W.codeIn K cd57 "law" = true) (q:PySem.W.keepIn K (.ref f57)=true)
  (Qz:PySem.W.nsIn K mainGlobals "PlaneError" = some (some (.ref R3)))
  (RV:PySem.W.nsIn K mainGlobals "NoPlace" = some (some (.ref UI)))
  (RM:PySem.W.nsIn K mainGlobals "NoDots" = some (some (.ref Vm)))
  (Rc:PySem.W.nsIn K mainGlobals "TooFew" = some (some (.ref Qi)))
  (Rh:PySem.W.nsIn K mainGlobals "TooMany" = some (some (.ref UJ)))
  (QK:PySem.W.nsIn K mainGlobals "SIZES_OF_THREE" = some (some (.ref Ry))) (QL:K.lookup Ry=some ⟨.type "tuple", SY,.seq #[.ref Rq,.ref Rr] Wg,S1⟩)
  (QE:K.lookup Rq=some ⟨.type "tuple", SG,.seq #[.int 1 Vn,.int 3 Vo,.int 3 Vp] V0,SH⟩)
  (QF:K.lookup Rr=some ⟨.type "tuple", SJ,.seq #[.int 2 Vq,.int 2 Vr,.int 3 Vs] V1,SK⟩)
  (Ri:PySem.W.excIn K Qi DX "ValueError.__new__" = true)
  (RN:PX.Hf K Qi=true)
  (Qa:PySem.W.kitOne K (.ref Qi) (.ref R3)=some true)
  (Qn:PySem.W.kitOne K (.ref Qi) (.ref UI)=some false)
  (Qb:PySem.W.kitOne K (.ref Qi) (.ref Vm)=some false)
  (Qc:PySem.W.kitOne K (.ref Qi) (.ref Qi)=some true)
  (P8:PySem.W.kitOne K (.ref Qi) (.ref UJ)=some false)
  (PN:PySem.W.kitOne K (.ref Qi) (.type "ValueError")=some true)
  (PO:PySem.W.exmOne K (.ref Qi) (.ref R3)=some true)
  (Qt:PySem.W.exmOne K (.ref Qi) (.ref Qi)=some true)
  (Qo:PySem.W.nsIn K mainGlobals "ValueError" = some none) (j:PySem.W.nsIn K mainGlobals "abs" = some none) (SA:PySem.W.nsIn K mainGlobals "bool" = some none) (Qv:PySem.W.nsIn K mainGlobals "enumerate" = some none) (T4:PySem.W.nsIn K mainGlobals "int" = some none) (b:PySem.W.nsIn K mainGlobals "isinstance" = some none) (a:PySem.W.nsIn K mainGlobals "len" = some none) (d:PySem.W.nsIn K mainGlobals "list" = some none) (TV:PySem.W.nsIn K mainGlobals "max" = some none) (TX:PySem.W.nsIn K mainGlobals "min" = some none) (c:PySem.W.nsIn K mainGlobals "range" = some none) (n:PySem.W.nsIn K mainGlobals "set" = some none) (o:PySem.W.nsIn K mainGlobals "sorted" = some none) (m:PySem.W.nsIn K mainGlobals "sum" = some none) (k:PySem.W.nsIn K mainGlobals "tuple" = some none) (f:PySem.W.nsIn K mainGlobals "zip" = some none) :
  ∃ fd:FuncData,(∀(s:Shared) (v:Value),BindsTo s fd ⟨[v],[]⟩ [("_law_script", v)])/\∀base:Heap,K.In base->base.Ns mainGlobals mg->aK l.prog w K mg base (CX1 l.prog w) 13 fa fd ["_law_script"] (aM K uK):=by
 have e:=r.symm.trans (PySem.W.mg_of X G C);cases e;have Qo:=PySem.W.mg_none_of X G Qo;have j:=PySem.W.mg_none_of X G j;have SA:=PySem.W.mg_none_of X G SA;have Qv:=PySem.W.mg_none_of X G Qv;have T4:=PySem.W.mg_none_of X G T4;have b:=PySem.W.mg_none_of X G b;have a:=PySem.W.mg_none_of X G a;have d:=PySem.W.mg_none_of X G d;have TV:=PySem.W.mg_none_of X G TV;have TX:=PySem.W.mg_none_of X G TX;have c:=PySem.W.mg_none_of X G c;have n:=PySem.W.mg_none_of X G n;have o:=PySem.W.mg_none_of X G o;have m:=PySem.W.mg_none_of X G m;have k:=PySem.W.mg_none_of X G k;have f:=PySem.W.mg_none_of X G f;have C:QI K mg ⟨R3,UI,Vm,Qi,UJ⟩:=⟨PySem.W.mg_of X G Qz,PySem.W.mg_of X G RV,PySem.W.mg_of X G RM,PySem.W.mg_of X G Rc,PySem.W.mg_of X G Rh,⟨Ry,[Rq,Rr],_,_,_,_,PySem.W.mg_of X G QK,QL,by simp,rfl,⟨_,_,rfl,⟨_,_,_,_,QE,by simp,(.cons ⟨_,rfl⟩ (.cons ⟨_,rfl⟩ (.cons ⟨_,rfl⟩ .nil)))⟩,⟨_,_,rfl,⟨_,_,_,_,QF,by simp,(.cons ⟨_,rfl⟩ (.cons ⟨_,rfl⟩ (.cons ⟨_,rfl⟩ .nil)))⟩,rfl⟩⟩⟩,Ri,PX.gF.of RN,Qa,Qn,Qb,Qc,P8,PN,PO,Qt⟩;refine⟨PySem.W.fnOf "law" "law" (fE j4) (cY j4) (ak j4) .none kV57 dc57 pm57 an57 cd57 ct57,λs v=>.of_eq rfl,λbase _ _=>?_⟩;have g:=e0.has l.prog w base X G λF=>Kt F C
 have PR:=e1.has l.prog w base X G λF=>rh F C j
 have RP:=e2.has l.prog w base X G λF=>Fw F C PR
 have e:=e3.has l.prog w base X G λF=>HH F C c
 have s:=e4.has l.prog w base X G λF=>HK F C
 have TY:=e5.has l.prog w base X G λF=>Ks F C g s
 have Tg:=e6.has l.prog w base X G λF=>Dl F C
 have RO:=e7.has l.prog w base X G λF=>Fu F C
 have QQ:=e8.has l.prog w base X G λF=>AW F C
 have g:=e9.has l.prog w base X G λF=>HJ F C
 have h:=e10.has l.prog w base X G λF=>HE F C
 have i:=e11.has l.prog w base X G λF=>Ku F C
 have r:=e12.has l.prog w base X G λF=>Kp F C
 have Tf:=e13.has l.prog w base X G λF=>Dm F C
 have Tz:=e14.has l.prog w base X G λF=>HF F C g a
 have g:=e15.has l.prog w base X G λF=>Kr F C Tz QQ a n o
 have RB:=e16.has l.prog w base X G λF=>vI F C h r RO Tf
 have TZ:=e17.has l.prog w base X G λF=>Fn F C Tg RB a c
 have r:=e18.has l.prog w base X G λF=>Fv F C j
 have Rk:=e19.has l.prog w base X G λF=>uv F C i
 have QR:=e20.has l.prog w base X G λF=>rg F C Rk r RP
 have QD:=e21.has l.prog w base X G λF=>oR F C RP i TV TX
 have i:=e22.has l.prog w base X G λF=>Dj F C QD QR r a
 have Th:=e23.has l.prog w base X G λF=>Dq F C PR
 have r:=e24.has l.prog w base X G λF=>HI F C Th
 have Tj:=e25.has l.prog w base X G λF=>Dn F C h i e QQ a
 have Q6:=e26.has l.prog w base X G λF=>sC F C r s
 have h:=e27.has l.prog w base X G λF=>Dk F C Q6 TY a c
 have r:=e28.has l.prog w base X G λF=>Fo F C h
 have Rm:=e29.has l.prog w base X G λF=>ux F C TZ g Qv
 have RX:=e30.has l.prog w base X G λF=>xw F C
 have RC:=e31.has l.prog w base X G λF=>vE F C h a
 have s:=e32.has l.prog w base X G λF=>AQ F C m f
 have h:=e33.has l.prog w base X G λF=>Kq F C i s RC e d f
 have i:=e34.has l.prog w base X G λF=>AO F C RX o
 have RY:=e35.has l.prog w base X G λF=>xu F C i h r g Tj Rm a
 have g:=e36.has l.prog w base X G λF=>zL F C SA T4 b
 have RE:=e37.has l.prog w base X G λF=>vF F C a
 have h:=Y.has l.prog w base X G λF=>vG F C j
 have r:=U.has l.prog w base X G λF=>uw F C h g b a k
 have s:=T.has l.prog w base X G λF=>xv F C c
 have j:=Q.has l.prog w base X G λF=>AV F C
 have h:=O.has l.prog w base X G λF=>Fp F C a
 have i:=N.has l.prog w base X G λF=>Fq F C h e a
 have h:=M.has l.prog w base X G λF=>Fs F C i e a
 have i:=L.has l.prog w base X G λF=>Ft F C h e a
 have o:=J.has l.prog w base X G λF=>AX F C
 have h:=I.has l.prog w base X G λF=>Dp F C
 have e:=H.has l.prog w base X G λF=>HG F C i RY h o d c m f
 have h:=E.has l.prog w base X G λF=>vD F C e
 have e:=B.has l.prog w base X G λF=>uy F C h a
 have h:=A.has l.prog w base X G λF=>zK F C j s a
 have i:=z.has l.prog w base X G λF=>AU F C g b a d
 have g:=y.has l.prog w base X G λF=>zJ F C i b a c m k f
 have f:=x.has l.prog w base X G λF=>AR F C g r b a d n k
 have c:=u.has l.prog w base X G λF=>vH F C e Qo b
 have a:=t.has l.prog w base X G λF=>AS F C d
 exact MZ (BI (st:=j4) p c57 q) C RE f a c h e d
end LW
def PySem.W.Fast.te5436929106800986204:True:=trivial
def PySem.W.Fast.tw1606073568083196686:PySem.Program:=PySem.Challenge.pw_halvecut_k62_three_groups
theorem PySem.W.Fast.te1606073568083196686:PySem.Challenge.pw_halvecut_k62_three_groups=PySem.W.Fast.tw1606073568083196686:=rfl
namespace PySem.W.Fast
def tw11872747867402634500:=()
def tw17007926070028205264:=()
def tw923953052775885762:=()
def tw833953453041509793:=()
def tw9100739298126432600:=()
def tw11743653281565942761:=()
def tw6448861140850364017:=()
def tw5096613700261948345:=()
def tw15186746267778098363:=()
def tw4264732904588654955:=()
def tw15333454033132509910:=()
def tw12429924108335122716:=()
def tw495758252238291159:=()
def tw14605812685279854975:=()
def tw6585899778890703019:=()
def tw8855860927211567504:=()
def tw11832053882650378585:=()
def tw18301392310263872644:=()
def tw4820935850452488661:=()
def tw1543293949251016179:=()
def tw6084929912927936241:=()
def tw8829972671974534578:=()
def tw14372390842905772272:=()
def tw4646326220659400592:=()
def tw799936671014662276:=()
def tw3236778727197891860:=()
def tw286960093012024879:=()
def tw1681503142841971361:=()
def tw17540989581626882136:=()
def tw5653118056235041524:=()
def tw12241412112711323528:=()
def tw3388621633311496783:=()
def tw6978465461846183133:=()
def tw2546263186110778128:=()
def tw10335139854992082386:=()
def tw13138932792687703648:=()
def tw1009880537856627244:=()
def tw12177676916251373875:=()
def tw17420097946923615902:=()
def tw4925321095129314047:=()
def tw14283100075677757175:=()
def tw13627896237216341297:=()
def tw1259643092501303876:=()
def tw9465160903457857312:=()
def tw14771920773476762651:=()
def tw5586462107253215471:=()
def tw9799929647533809347:=()
def tw2779331752155256905:=()
def tw16642230548325989226:=()
def tw9083006003688261218:=()
def tw14647090116929176225:=()
def tw1856779259252667377:=()
def tw1614286871401238292:=()
def tw12012387575653074302:=()
def tw15239141909323381969:=()
def tw3212290289887486680:=()
def tw11705329905340890241:=()
def tw11734342115265288511:=()
def tw10553344452202207706:=()
def tw12202250398360061539:=()
def tw8041773402257170334:=()
def tw11658452978406053450:=()
def tw18149494099918041982:=()
def tw14022639422597144925:=()
def tw14111081320308808857:=()
def tw11711031338551580689:=()
def tw1912006406223218753:=()
def tw5437784698732810750:=()
def tw9854735189336973942:=()
def tw5363216557713530730:=()
def tw12781719516861182358:=()
def tw1638681928786436189:=()
def tw16083458094102829513:=()
def tw7976005810082231352:=()
def tw6418880763211104756:=()
def tw8285218538234339781:=()
def tw6386851911548347980:=()
def tw6932723135141150158:=()
def tw17523728398393815039:=()
def tw5262639852829790423:=()
def tw4188991426250321775:=()
def tw4885862213950028980:=()
def tw14021261400401549626:=()
def tw5233434741462065220:=()
def tw10766657358327666424:=()
def tw13509818294527665102:=()
def tw1729352926634797911:=()
def tw13808622333495107749:=()
def tw8904582987098899101:=()
def tw5298356959630825570:=()
def tw16740977812921423832:=()
def tw13213154088554430697:=()
def tw14220032831336038761:=()
def tw7817174260072927005:=()
def tw14195374209793361445:=()
def tw3563412697921308199:=()
def tw9878979103855304164:=()
def tw11844785060312258327:=()
def tw15907805161851309013:=()
def tw18259417964699345548:=()
def tw16444785491193758045:=()
def tw18259573800751101920:=()
def tw10279232136707419171:=()
def tw17451783318946239474:=()
def tw827404587746416854:=()
def tw9359801416176928311:=()
def tw8914143596430296921:=()
def tw15645451426273771250:=()
def tw16116519639611348150:=()
def tw3984998436191280455:=()
def tw17048696919506916439:=()
def tw17050923285099054956:=()
def tw12899743328462671247:=()
def tw11954410745276473015:=()
def tw10582126205176595694:=()
def tw5631451286213397609:=()
def tw7205761379302293390:=()
def tw12775183509776910860:=()
def tw4421431249729927227:=()
def tw7145050711700326338:=()
def tw7942719047208867163:=()
def tw1494824061074231229:=()
def tw8035369559248395769:=()
def tw14290873317939256157:=()
def tw12997679039534736807:=()
def tw14191969981623975967:=()
def tw3077464910665519872:=()
def tw7452324661361944830:=()
def tw10799053369822059589:=()
def tw5559289330289770943:=()
def tw10081124649536193696:=()
def tw8372282440203250313:=()
def tw6160911978943824785:=()
def tw13021700050030025864:=()
def tw11346147870747443896:=()
def tw3287914844741598412:=()
def tw5021658506470925210:=()
def tw17909467402253172468:=()
def tw7095471791034219947:=()
def tw5293847086634571918:=()
def tw15225049054276188754:=()
def tw14430599900393852328:=()
def tw7354171663103195607:=()
def tw4111656036952567008:=()
def tw16113183401636647575:=()
def tw14224036648763142560:=()
def tw14800299127987295036:=()
def tw2236826801227769362:=()
def tw3169785196457453685:=()
def tw16929341590263788549:=()
def tw5434300925784300353:=()
def tw944882172647555565:=()
def tw9179494498882152071:=()
def tw10438230970113365329:=()
def tw9260415453787890592:=()
def tw5727504834286751276:=()
def tw2105159767959165052:=()
def tw18434105791095728654:=()
def tw440170028669766301:=()
def tw11276070522772247655:=()
def tw5045178329209531902:=()
def tw3113697074507704190:=()
def tw59800994208169019:=()
def tw1404406306585560502:=()
def tw3935143418111421487:=()
def tw13289109203297823601:=()
def tw6087585562705613585:=()
def tw563040482968250227:=()
def tw9473253036172947728:=()
def tw9112771377720186869:=()
def tw8921236702812992252:=()
def tw9297254177281644018:=()
def tw12371242390943639634:=()
def tw5538387818853698276:=()
def tw9374778129093567621:=()
def tw4472186542343023191:=()
def tw12669826171366634807:=()
def tw2526251029111538707:=()
def tw15858423880323680519:=()
def tw1373048689288131953:=()
def tw6765370120963615868:=()
def tw283289963776330821:=()
def tw2270642950318441307:=()
def tw7327735260217410583:=()
def tw13916705978416941229:=()
def tw10250026681605168025:=()
def tw7418141380356570993:=()
def tw5803678989319912525:=()
def tw10536515511216768605:=()
def tw17170623730403856499:=()
def tw9899486659277500945:=()
def tw3605787687303243681:=()
def tw13740146391703746886:=()
def tw5340066715011822484:=()
def tw13475369958701483413:=()
def tw5664565180536737862:=()
def tw8005549510724853357:=()
def tw11194068900614921499:=()
def tw10501327738787194032:=()
def tw3709634309449020348:=()
def tw1107234932796053473:=()
def tw10762883959567266991:=()
def tw5211695203292987847:=()
def tw3635352701764037210:=()
def tw1557178008657788785:=()
def tw1527522542257208690:=()
def tw3307905723799065020:=()
def tw211643192310556208:=()
def tw1312866023977001201:=()
def tw7807625723615822119:=()
def tw5238511008833117035:=()
def tw3086158522087961190:=()
def tw15363259190026316099:=()
def tw122673399869174664:=()
def tw9869244143191570904:=()
def tw12019501484118137097:=()
def tw7242041999946172925:=()
def tw7073288980453495971:=()
def tw9726717076740027081:=()
def tw6163152500731642169:=()
def tw1058192461892743656:=()
def tw2885064827233364240:=()
def tw17704999420204206616:=()
def tw6406067110407857540:=()
def tw7567709232980754724:=()
def tw11992188506000644745:=()
def tw1603397245866567843:=()
def tw7387568816896579648:=()
def tw4521701613609465714:=()
def tw10044406631022037011:=()
def tw1380449914058905898:=()
def tw11195482210060634745:=()
def tw8224118753952457540:=()
def tw11929153145811501196:=()
def tw13688548583324429480:=()
def tw5875361096133199992:=()
def tw16179985684729234032:=()
def tw11221086850008186735:=()
def tw9451556653523946890:=()
def tw7412328540806820447:=()
end PySem.W.Fast
open PySem PySem.W PyProof.Rows
set_option maxRecDepth 100000 in
set_option maxHeartbeats 0 in
theorem PySem.Challenge.cw_halvecut_k62_three_groups_holds : PySem.Challenge.rw_halvecut_k62_three_groups.Holds := by
 w_on; o_law; k_head; (case hw => w_witness2)
 k_fill
 refine PD.walk (l := PySem.Challenge.rw_halvecut_k62_three_groups) (k := 13) (x := "_law_script") rfl rfl ⟨rfl, by decide, by decide⟩ (λw h Y => PySem.W.kIn_of Y) (λw => by kernel_rfl) ?F
 case F =>
  intro w d e h b G a
  refine' LW.all_mk b G a ?e0 ?e1 ?e2 ?e3 ?e4 ?e5 ?e6 ?e7 ?e8 ?e9 ?e10 ?e11 ?e12 ?e13 ?e14 ?e15 ?e16 ?e17 ?e18 ?e19 ?e20 ?e21 ?e22 ?e23 ?e24 ?e25 ?e26 ?e27 ?e28 ?e29 ?e30 ?e31 ?e32 ?e33 ?e34 ?e35 ?e36 ?e37 ?e38 ?e39 ?e40 ?e41 ?e42 ?e43 ?e44 ?e45 ?e46 ?e47 ?e48 ?e49 ?e50 ?e51 ?e52 ?e53 ?e54 ?e55 ?e56 ?a57 ?l57 ?c57 ?k57 ?Qz ?RV ?RM ?Rc ?Rh ?QK ?QL ?QE ?QF ?Ri ?RN ?Qa ?Qn ?Qb ?Qc ?P8 ?PN ?PO ?Qt ?Qo ?Rj ?SA ?Qv ?T4 ?Pm ?Pn ?P9 ?TV ?TX ?PJ ?Su ?QA ?Q8 ?Qx ?QY
  all_goals try (refine' PD.FL.mk ?a ?l ?c ?k; (case a => k_is); (case l => k_is); (case c => k_is); (case k => k_is))
  (case a57 => k_is)
  (case l57 => k_is)
  (case c57 => k_is)
  (case k57 => k_is)
  (case Qz => k_is)
  (case RV => k_is)
  (case RM => k_is)
  (case Rc => k_is)
  (case Rh => k_is)
  (case QK => k_is)
  (case QL => k_is)
  (case QE => k_is)
  (case QF => k_is)
  (case Ri => kernel_rfl)
  (case RN => kernel_rfl)
  (case Qa => kernel_rfl)
  (case Qn => kernel_rfl)
  (case Qb => kernel_rfl)
  (case Qc => kernel_rfl)
  (case P8 => kernel_rfl)
  (case PN => kernel_rfl)
  (case PO => kernel_rfl)
  (case Qt => kernel_rfl)
  (case Qo => k_is)
  (case Rj => k_is)
  (case SA => k_is)
  (case Qv => k_is)
  (case T4 => k_is)
  (case Pm => k_is)
  (case Pn => k_is)
  (case P9 => k_is)
  (case TV => k_is)
  (case TX => k_is)
  (case PJ => k_is)
  (case Su => k_is)
  (case QA => k_is)
  (case Q8 => k_is)
  (case Qx => k_is)
  (case QY => k_is)
