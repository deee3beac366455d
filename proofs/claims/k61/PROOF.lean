import PyProof.Rows.All
import Wide.All
import OpenK.AllK
import Wide.FinOn
import Lean
import PyProof.EqAt
import PyProof.EqKinds
import PyProof.TupleCall
import PySem.Challenge.RW_halvecut_k61_two_groups
set_option compiler.extract_closed false
set_option bootstrap.genMatcherCode false
set_option tactic.hygienic false
set_option Elab.async false
set_option linter.all false set_option autoImplicit true set_option relaxedAutoImplicit true
set_option maxRecDepth 100000
noncomputable section
abbrev yaa:=PySem.Value->PySem.Shared->Prop
abbrev yab:=List (PySem.Addr×PySem.Obj)
abbrev yac:=PySem.W.Frag
abbrev yad:=List PySem.Value
abbrev yae:=List PySem.Addr
abbrev yaf:=List Int
abbrev yag:=List Nat
abbrev yah:=List PySem.Str
abbrev yai:=List PySem.Expr
abbrev yaj:=Nat->Option PySem.Addr
abbrev yak:=Bool->PySem.Addr->Prop
abbrev yal:=List PySem.Stmt
abbrev yam:=PySem.Str->Option PySem.Value
abbrev yan:=Option PySem.Value
abbrev yao:=Array PySem.Value
abbrev yap:=Array Nat
abbrev yaq:=Option Int
def Oa:=@PySem.wpAny_bind
def Of:=@List.length_map
def O2:=@List.getElem?_eq_getElem
def Py:=@List.getD_eq_getElem?_getD
def Oc:=@if_neg
def Po:=@PySem.Heap.get?_push_of_some
def OK:=@List.mem_cons
def Og:=@if_pos
def Pz:=@List.mem_cons_of_mem
def QH:=@List.getElem?_eq_some_iff
def OY:=@PySem.Heap.lt_size
def OZ:=@List.mem_map
def Ql:=@List.mem_of_getElem?
def PO:=@List.getElem?_map
def O5:=@Nat.le_refl
def Pj:=@List.map_cons
def Rc:=@List.getElem?_set_ne
def Pp:=@List.map_map
def Qn:=@List.mem_append
def QX:=@List.length_append
def QY:=@List.mem_singleton
def QZ:=@Nat.lt_of_lt_of_le
def PL:=@Nat.le_trans
def Rw:=@List.mem_append_right
def PY:=@Nat.ne_of_lt
def Rh:=@PySem.Heap.get?_push_size
def Q1:=@List.map_append
def QU:=@Int.mul_nonneg
def RB:=@List.mem_cons_self
def QI:=@Int.le_of_lt
def RY:=@Array.length_toList
def RF:=@List.size_toArray
def Sd:=@List.filter_eq_self
def RG:=@List.length_cons
def QS:=@Nat.zero_le
def SE:=@List.getElem_mem
def UO:=@List.getElem?_append_left
def Rx:=@Int.mul_comm
def Ua:=@Array.getElem?_toList
def U6:=@Int.mul_neg_of_neg_of_pos
def S4:=@List.length_take
def S5:=@Nat.mod_eq_of_lt
def SO:=@Option.some.inj
def Vp:=@List.getElem?_append_right
def UP:=@List.getElem?_set_self
def Vq:=@Array.getElem?_eq_getElem
def Wt:=@Int.nonneg_of_mul_nonneg_right
def Uj:=@List.mem_append_left
def Vr:=@List.pairwise_iff_getElem
def Uk:=@Bool.false_eq_true
def Ub:=@List.length_range'
def U7:=@Option.map_eq_some_iff
def SF:=@PySem.wpAny_holding
def Ul:=@List.length_reverse
def TN:=@List.not_mem_nil
def Um:=@List.pairwise_cons
def Uo:=@PySem.wpAny_Call_Name_kw
def Vs:=@PySem.Heap.get?_update_other
def R8:=@Int.le_refl
def Se:=@PySem.wpAny_field
def UQ:=@Bool.false_ne_true
def SG:=@Int.neg_mul
def Uc:=@Int.mul_eq_zero
def UR:=@List.cons_append
def Up:=@List.getElem_map
def Rr:=@PySem.boot_len
def R9:=@PySem.wpAny_mono
def US:=@List.append_assoc
def WX:=@Array.getElem?_eq_some_iff
def VN:=@PySem.Heap.get?_update_self
def Vt:=@List.getElem_of_mem
def WY:=@List.drop_eq_getElem_cons
def UT:=@List.take_length
def U8:=@List.append_nil
def U9:=@List.nil_append
def Va:=@PySem.wpAny_call_entry
def WZ:=@PySem.wpAny_callSpecial?_slot
def Zf:=@Int.mul_nonpos_of_nonpos_of_nonneg
def Vu:=@PySem.wpAny_setState_of
def Yq:=@List.eq_nil_of_length_eq_zero
def Wu:=@List.length_dropLast
def XR:=@List.ne_nil_of_length_pos
def W4:=@List.take_of_length_le
def Ud:=@Nat.ne_of_gt
def Vv:=@PySem.wpAny_execs_cons
def Wv:=@List.map_congr_left
def W5:=@List.getElem?_eq_none
def Vb:=@PySem.wpAny_seqItems
def Tz:=@Int.not_le
def Vw:=@List.nodup_cons
def W9:=@Nat.pow_le_pow_right
def Vx:=@PySem.wpAny_passesOwn
def Ue:=@Int.mul_pos
def VO:=@List.lookup_cons
def VP:=@Nat.lt_succ_self
def Yr:=@List.sublist_append_right
def Z7:=@Int.mul_nonneg_of_nonpos_of_nonpos
def Ww:=@PySem.wpAny_newObj_type
def Zg:=@List.dropLast_concat_getLast
def UU:=@Nat.le_of_lt
def UW:=@Nat.zero_add
def Uq:=@Int.one_mul
def VQ:=@List.length_set
def Vy:=@List.map_nil
def Ys:=@List.singleton_sublist
def Xa:=@Int.lt_trichotomy
def XS:=@PySem.Heap.SameBut.update
def Zh:=@Int.mul_neg_of_pos_of_neg
def Zi:=@Int.mul_pos_of_neg_of_neg
def Z8:=@List.getLast?_eq_some_getLast
def Xb:=@Bool.and_eq_true
def Vz:=@Int.mul_zero
def VA:=@Int.zero_mul
def VR:=@Nat.lt_irrefl
def Wx:=@decide_eq_true
def XT:=@List.mem_range'_1
def XU:=@Nat.lt_succ_of_lt
def XW:=@of_decide_eq_true
def Xc:=@List.of_mem_zip
def Xd:=@PySem.codeAny_builtin
def Xe:=@PySem.wpAny_execs_nil
def Yt:=@List.length_pos_iff
def Zj:=@List.zipWith_cons_cons
def VS:=@Nat.pow_succ
def Wy:=@Int.lt_irrefl
def XX:=@Nat.le_add_right
def XY:=@Nat.le_of_not_lt
def Xf:=@PySem.Heap.size_push
def Zk:=@List.mem_iff_getElem?
def Xg:=@List.take_succ
def Yu:=@Nat.lt_of_le_of_lt
def Yv:=@PySem.wpAny_setField_rec
def Z9:=@Classical.byContradiction
def zCJ:=@List.getLastD_eq_getLast?
def Zm:=@Nat.mul_le_mul_right
def Wz:=@Nat.succ_pos
def Yw:=@Nat.lt_trichotomy
def Zn:=@List.getElem_range'
def Zo:=@Nat.pow_le_pow_left
def XZ:=@Int.natAbs_mul
def Yx:=@PySem.wpAny_isInstance
def zCR:=@Array.getElem?_eq_none
def VT:=@Int.not_lt
def VU:=@Nat.mod_lt
def Zp:=@List.append_of_mem
def Zq:=@List.zip_cons_cons
def Xh:=@Nat.lt_or_ge
def Zr:=@Nat.lt_or_gt_of_ne
def Yy:=@List.length_nil
def zCZ:=@List.length_singleton
def zCa:=@List.take_append_drop
def UX:=@if_true
def X0:=@Int.dvd_trans
def X1:=@List.sum_cons
def X2:=@PySem.wpAny_attempt
def Zs:=@List.flatMap_cons
def Zt:=@List.pairwise_map
def Zu:=@List.reverse_cons
def Zv:=@Nat.add_mod_right
def Zw:=@PySem.wpAny_truthy_bool
def zCk:=@List.exists_mem_of_ne_nil
def zCl:=@List.getElem?_zip_eq_some
def zCm:=@List.getLast?_eq_none_iff
def zCn:=@List.mem_of_mem_take
def WA:=@Nat.not_lt
def zCp:=@List.filterMap_cons_some
def Zx:=@List.length_drop
def Zy:=@List.map_fst_zip
def Zz:=@List.mem_flatMap
def zCt:=@PySem.Heap.IsTupleIter.typeIs
def zCu:=@List.getElem?_replicate
def Yz:=@Int.mul_assoc
def ZA:=@Bool.eq_iff_iff
def ZC:=@Int.dvd_coe_gcd
def ZD:=@Int.le_antisymm
def zCz:=@List.cons.injEq
def zC0:=@List.mem_filterMap
def ZE:=@PySem.wpAny_specialOf
def ZF:=@PySem.wpAny_updateSeq
def zC3:=@Int.fmod_nonneg_of_pos
def zC4:=@List.getElem?_dropLast
def zC5:=@Int.mul_le_mul_of_nonneg_left
def zC6:=@List.nodup_append
def zC7:=@Nat.lt_of_succ_lt
def zC8:=@PySem.wpAny_Assign_Name
def zC9:=@Int.natAbs_dvd_natAbs
def ZG:=@PySem.wpAny_setField
def zDB:=@Int.dvd_mul_left
def zDC:=@Int.gcd_mul_left
def zDD:=@Int.le_of_neg_le_neg
def zDE:=@List.all_eq_true
def zDF:=@List.mem_reverse
def zDG:=@List.pairwise_append
def zDH:=@Option.getD_some
def WC:=@Prod.ext
def zDJ:=@Array.perm_iff_toList_perm
def ZH:=@PySem.plainId_quiet
def zDL:=@List.filterMap_cons
def zDM:=@Int.eq_of_mul_eq_mul_left
def zDN:=@List.getLast?_eq_getElem?
def zDO:=@List.length_zip
def zDP:=@List.mem_filter
def zDQ:=@List.mem_range
namespace L2
open PySem PySem.Spec PyProof.Rows
abbrev Key:=Sum Int Str
def mD:Key->Value->Bool
 |.inl k,v=>Value.isInt k v
 |.inr x,v=>Value.isStrOf x v
def NI(w:World):Key->Int
 |.inl k=>hashInt k
 |.inr x=>hashStr w x
def bN:∀{k:Key} {v:Value},mD k v=true->(∃i t,k=Sum.inl i/\v=Value.int i t)∨(∃x t,k=Sum.inr x/\v=Value.str x t)
 |.inl i,v,h=>by obtain⟨t,e⟩:=Value.isInt_shape (k:=i) (v:=v) h;exact .inl ⟨i,t,rfl,e⟩
 |.inr x,v,h=>by obtain⟨t,e⟩:=Value.isStrOf_shape (x:=x) (v:=v) h;exact .inr ⟨x,t,rfl,e⟩
def Eg(i:Int)(t:Tok):mD (.inl i) (.int i t)=true:=by simp[mD,Value.isInt]
def Eh(x:Str)(t:Tok):mD (.inr x) (.str x t)=true:=by simp[mD,Value.isStrOf]
def LX(a b:Int):decide ((Sum.inl a:Key)=Sum.inl b)=(a==b):=by lia
def LY(a b:Str):decide ((Sum.inr a:Key)=Sum.inr b)=decide (a=b):=by lia
def bL(prog:Program)(w:World):PySem.KeyKind prog w Key where
 is:=mD
 hash:=NI w
 inj:=λv a b b a=>by
  rcases bN b with⟨i,t,rfl,rfl⟩| ⟨x,t,rfl,rfl⟩
  ·rcases bN a with⟨j,u,rfl,e⟩| ⟨y,u,rfl,e⟩
   all_goals lia
  ·rcases bN a with⟨j,u,rfl,e⟩| ⟨y,u,rfl,e⟩
   all_goals lia
 byValue:=λk v h=>by
  rcases bN h with⟨i,t,rfl,rfl⟩| ⟨x,t,rfl,rfl⟩<;>rfl
 pyHash:=λa h=>by
  rcases bN a with⟨i,t,rfl,rfl⟩| ⟨x,t,rfl,rfl⟩;exact wpAny_pyHash_int h;exact wpAny_pyHash_str h
 eqBool:=λb a h=>by
  rcases bN b with⟨i,t,rfl,rfl⟩| ⟨x,t,rfl,rfl⟩;rcases bN a with⟨j,u,rfl,rfl⟩| ⟨y,u,rfl,rfl⟩;rw[LX]at h;exact wpAny_eqBool_int h;exact SeqAt.EqAt.int_str i t y u _ _ _ _ h;rcases bN a with⟨j,u,rfl,rfl⟩| ⟨y,u,rfl,rfl⟩;exact SeqAt.EqAt.str_int x t j u _ _ _ _ h;rw[LY]at h;exact wpAny_eqBool_str h
 «strs»:=λk x t v h=>by
  rcases bN h with⟨i,u,rfl,e⟩| ⟨y,u,rfl,e⟩
  lia
  injection e with e1 _;subst e1;cases v<;>rfl
def zP(prog:Program)(w:World)(i:Int)(t:Tok):(bL prog w).is (.inl i) (.int i t)=true:=Eg i t
def zQ(prog:Program)(w:World)(x:Str)(t:Tok):(bL prog w).is (.inr x) (.str x t)=true:=Eh x t
inductive V where
 |ON|bl (b:Bool)|int (i:Int)|str (x:Str)|VW (b:Array UInt8)|flt (b:UInt64)|ref (a:Addr)|ty (n:String)
 deriving DecidableEq
abbrev yar:=List V
def RelV:V->Value->Prop
 |.ON,u=>u=Value.none
 |.bl b,u=>u=Value.bool b
 |.int i,u=>∃t,u=Value.int i t
 |.str x,u=>∃t,u=Value.str x t
 |.VW b,u=>∃t,u=Value.bytes b t
 |.flt b,u=>∃t,u=Value.float b t
 |.ref a,u=>u=Value.ref a
 |.ty n,u=>u=Value.type n
abbrev Vals:yar->yad->Prop:=Paired RelV
theorem Vals.length(r:Vals xs us):xs.length=us.length:=Paired.length r
theorem Vals.get:∀{xs:yar} {a:yad} {i:Nat} {x:V},Vals xs a->xs[i]?=some x->∃u,a[i]?=some u/\RelV x u
 |_,_,_,_,.nil,e=>by simp at e
 |_,_,0,_,.cons r _,e=>by simp at e;subst e;exact⟨_,rfl,r⟩
 |_,_,i+1,x,.cons _ t,e=>by obtain⟨u,b,a⟩:=Vals.get (i:=i) (x:=x) t (by simpa using e);exact⟨u,by simpa using b,a⟩
theorem Vals.append:∀{xs ys:yar} {a ws:yad},Vals xs a->Vals ys ws->Vals (xs++ys) (a++ws)
 |_,_,_,_,.nil,s=>s
 |_,_,_,_,.cons r t,s=>.cons r (Vals.append t s)
theorem Vals.take:∀{xs:yar} {a:yad} (n:Nat),Vals xs a->Vals (xs.take n) (a.take n)
 |_,_,0,_=>.nil
 |_,_,_+1,.nil=>.nil
 |_,_,n+1,.cons r t=>.cons r (Vals.take n t)
theorem Vals.drop:∀{xs:yar} {a:yad} (n:Nat),Vals xs a->Vals (xs.drop n) (a.drop n)
 |_,_,0,r=>r
 |_,_,_+1,.nil=>.nil
 |_,_,n+1,.cons _ t=>Vals.drop n t
def Vals.none_of:∀{xs:yar} {a:yad} {i:Nat},Vals xs a->xs[i]?=none->a[i]?=none:=fun {xs a i} r e=>by
 have b:=r.length
 simp_all
def ja:Option V->yan->Prop
 |some v,some u=>RelV v u
 |none,none=>True
 |_,_=>False
def KV{a:Type}:List (a×V)->List (a×Value)->Prop:=Paired λ(p:a×V) (q:a×Value)=>p.1=q.1/\RelV p.2 q.2
def kV:Key->V
 |.inl i=>.int i
 |.inr x=>.str x
inductive HO where
 |lst (xs:yar)
 |tup (xs:yar)
 |dK (kvs:List (Key×V))|dT (kvs:List (List Key×V))
 |set (S:Int->Bool) (n:Nat)
 |ins (C dx:Addr) (fs:List (Str×V))
 |own (x:Addr)
 |xd (fs:List (Str×V))
 |met (f x:Addr)
 |rng (lo hi:Int)
 |frz (o:Obj) (u:HO)
 |TC (ps:yao)
 |ext (φ:Heap->Prop)
abbrev Hp:=Addr->Option HO
def upd(H:Hp)(a:Addr)(o:HO):Hp:=λb=>if b=a then some o else H b
theorem aD:upd H a o a=some o:=by unfold upd;rw[Og rfl]
theorem aw{a b:Addr}(h:b≠a):upd H a o b=H b:=by unfold upd;rw[Oc h]
def pS{H:Hp}{o u:HO}(h:H a=some o)(h':H b=some u)(d:o≠u):a≠b:=by lia
def aL{H:Hp}{o:HO}(h:H a=some o)(h':H b=none):a≠b:=by lia
section
variable(P:Program)(w:World)
def bD(H:Hp)(h:Heap)(a:Addr):HO->Prop
 |.lst c=>c.length<=sizeLine/\∃(b:yad) (n:Nat),Vals c b/\h.get? a=some {cls:=.type "list", data:=.seq b.toArray n}
 |.tup c=>c.length<=sizeLine/\∃b:yad,Vals c b/\IsTup h a b.toArray
 |.dK b=>b.length<=sizeLine/\(a==sysModules)=false/\∃d,KV b d/\h.DictOf (bL P w) a d
 |.dT b=>b.length<=sizeLine/\(a==sysModules)=false/\∃c:List (List Key×Addr×Value),
   Paired (λ(p:List Key×V) (q:List Key×Addr×Value)=>p.1=q.1/\H q.2.1=some (.tup (p.1.map kV))/\RelV p.2 q.2.2) b c ∧
   ∃ o b d,h.get? a=some o/\o.ExactDict/\o.data=.dict b d/\b.toList=c.map (entryOfKey (tupleKind (bL P w)))/\(c.map (·.1)).Nodup
 |.set S n=>h.SetOf (intKind P w) a S n
 |.ins C d c=>H d=some (.own a)/\c.length<=1000/\d≠a/\h.get? a=some (PySem.W.instObj C d) ∧
   ∃ b,h.Ns1 d b/\(∀f,ja (c.lookup f) (b f))/\PySem.Within b (c.map (·.1))
 |.own _=>∃o,h.get? a=some o
 |.xd c=>∃b,h.Ns1 a b/\∀f,ja (c.lookup f) (b f)
 |.rng lo b=>∃t u v,h.get? a=some {cls:=.type "range", data:=.fields #[.int lo t,.int b u,.int 1 v]}
 |.frz o u=>h.get? a=some o/\bD H h a u
 |.TC b=>h.get? a=some {cls:=.none,data:=.fields b}
 |.met f x=>h.get? a=some (PySem.W.methodObj (.ref f) (.ref x))
 |.ext b=>b h/\(∃o,h.get? a=some o)/\∀d c:Heap,b d->(∀o,d.get? a=some o->c.get? a=some o)->b c
def Q0(H:Hp)(h:Heap):Prop:=∀a o,H a=some o->bD P w H h a o
end
section
variable{P:Program}{w:World}{H H':Hp}{h h':Heap}{a:Addr}{o:HO}
theorem bD.lt(x:bD P w H h a o):a<h.objs.size:=by
 cases o with
 |lst b=>obtain⟨_,_,_,_,e⟩:=x;exact OY e
 |tup b=>obtain⟨_,_,_,p⟩:=x;exact p.lt
 |dK b=>obtain⟨_,_,_,_,o,_,_,e,_⟩:=x;exact OY e
 |dT b=>obtain⟨_,_,_,_,o,_,_,e,_⟩:=x;exact OY e
 |set S n=>obtain⟨o,_,_,_,e,_⟩:=x;exact OY e
 |ins C i b=>obtain⟨_,_,_,e,_⟩:=x;exact OY e
 |own y=>obtain⟨_,e⟩:=x;exact OY e
 |xd b=>obtain⟨_,⟨_,_,_,e,_⟩,_⟩:=x;exact OY e
 |rng lo g=>obtain⟨_,_,_,e⟩:=x;exact OY e
 |frz ob u=>obtain⟨e,_⟩:=x;exact OY e
 |TC d=>exact OY (show h.get? a=some _ from x)
 |met f y=>exact OY (show h.get? a=some _ from x)
 |ext c=>obtain⟨_,⟨_,e⟩,_⟩:=x;exact OY e
theorem Paired.YA{d c:Type}{F G:d->c->Prop}:∀{l₁:List d} {l₂:List c},Paired F l₁ l₂->(∀a b,F a b->G a b)->Paired G l₁ l₂
 |_,_,.nil,_=>.nil
 |_,_,.cons r t,f=>.cons (f _ _ r) (Paired.YA t f)
def bD.RH(x:bD P w H h a o)(k:∀b u,(b=a∨H b=some (.own a))->h.get? b=some u->h'.get? b=some u)
  (m:∀b,H b=some (.own a)->H' b=some (.own a)) (j:∀b xs,H b=some (.tup xs)->H' b=some (.tup xs)):bD P w H' h' a o:=by
 induction o with
 |lst xs=>obtain⟨z,d,n,r,e⟩:=x;exact⟨z,d,n,r,k _ _ (.inl rfl) e⟩
 |tup xs=>obtain⟨z,d,r,b,e,c⟩:=x;exact⟨z,d,r,b,k _ _ (.inl rfl) e,c⟩
 |dK d=>obtain⟨z,y,i,r,b,f,g,e,c⟩:=x;exact⟨z,y,i,r,b,f,g,k _ _ (.inl rfl) e,c⟩
 |dT d =>
  obtain⟨z,y,xs,r,b,f,g,e,c⟩:=x;exact⟨z,y,xs,Paired.YA r λp q z=>⟨z.1,j _ _ z.2.1,z.2.2⟩,b,f,g,k _ _ (.inl rfl) e,c⟩
 |set S n=>obtain⟨b,f,g,t,e,c⟩:=x;exact⟨b,f,g,t,k _ _ (.inl rfl) e,c⟩
 |ins C E n =>
  obtain⟨d,z,l,e,j,⟨i,f,g,s,c⟩,r⟩:=x;exact⟨m _ d,z,l,k _ _ (.inl rfl) e,j,⟨i,f,g,k _ _ (.inr d) s,c⟩,r⟩
 |own y=>obtain⟨b,e⟩:=x;exact⟨b,k _ _ (.inl rfl) e⟩
 |xd n=>obtain⟨j,⟨i,f,g,e,c⟩,r⟩:=x;exact⟨j,⟨i,f,g,k _ _ (.inl rfl) e,c⟩,r⟩
 |rng lo B=>obtain⟨t,u,v,e⟩:=x;exact⟨t,u,v,k _ _ (.inl rfl) e⟩
 |frz b u ih=>obtain⟨e,q⟩:=x;exact⟨k _ _ (.inl rfl) e,ih q⟩
 |TC b =>
  have e:h.get? a=some {cls:=.none,data:=.fields b}:=x;show h'.get? a=some {cls:=.none,data:=.fields b};exact k a _ (.inl rfl) e
 |met f y =>
  have e:h.get? a=some (PySem.W.methodObj (.ref f) (.ref y)):=x;show h'.get? a=some (PySem.W.methodObj (.ref f) (.ref y));exact k a _ (.inl rfl) e
 |ext A=>obtain⟨p,⟨o,e⟩,st⟩:=x;exact⟨st _ _ p λo q=>k _ _ (.inl rfl) q,⟨o,k _ _ (.inl rfl) e⟩,st⟩
theorem Q0.lt(x:Q0 P w H h)(e:H a=some o):a<h.objs.size:=(x a o e).lt
def Q0.fresh(x:Q0 P w H h)(e:h.objs.size<=a):H a=none:=by
 cases q:H a with
 |none=>rfl
 |some u=>exact absurd (QZ (x.lt q) e) (VR _)
def Q0.kept(x:Q0 P w H h)(k:∀b u,h.get? b=some u->h'.get? b=some u):Q0 P w H h':=λa o e =>
 (x a o e).RH (λb u _ q=>k b u q) (λ_ q=>q) λ_ _ q=>q
def Q0.laid(x:Q0 P w H h)(k:∀b u,h.get? b=some u->h'.get? b=some u)(c:h.objs.size<=a)(f:bD P w (upd H a o) h' a o):Q0 P w (upd H a o) h':=λb u e=>by have d:=x.fresh c;by_cases c:b=a;grind [aD];rw[aw c]at e;exact(x b u e).RH (λc v _ q=>k c v q) (λc q=>by rw[aw (aL q d)];exact q) λc g q=>by rw[aw (aL q d)];exact q
end
def Rd(H:Hp)(a:Addr)(u:HO):Prop:=H a=some u∨∃ o,H a=some (.frz o u)
def Rd.ok(r:Rd H a u)(x:Q0 P w H h):bD P w H h a u:=by
 rcases r with r|⟨o,r⟩;exact x a u r;obtain⟨_,q⟩:=x a _ r;exact q
def Mut:Option HO->Prop
 |some (.lst _)=>True
 |some (.dK _)=>True
 |some (.dT _)=>True
 |some (.set _ _)=>True
 |some (.ins _ _ _)=>True
 |some (.ext _)=>True
 |_=>False
section
variable{P:Program}{w:World}{H:Hp}{h h':Heap}{x e:Addr}{o':HO}
def Q0.write(j:Q0 P w H h)(a:Mut (H x))(o:e=x∨H e=some (.own x))(k:∀b u,b≠e->h.get? b=some u->h'.get? b=some u)(d:∃u,h'.get? e=some u)
  (l:bD P w (upd H x o') h' x o'):Q0 P w (upd H x o') h':=λb u q=>by
 have i:∀c y,H c=some (.own y)->c≠x:=λc y r z=>by subst z;rw[r]at a;exact a
 have g:∀c f,H c=some (.tup f)->c≠x:=λc f r z=>by subst z;rw[r]at a;exact a
 by_cases a:b=x;grind [aD];rw[aw a]at q;by_cases m:b=e;have a:H b=some (.own x):=by lia
 rw[q]at a;cases a;obtain⟨v,n⟩:=d;exact⟨v,by lia⟩;refine(j b u q).RH (λc v p r=>k c v ?_ r) (by grind [aw]) (by grind [aw]);grind
end
structure Un(fs ex:yae)(H H':Hp)(h h':Heap):Prop where
 keep:∀b o,h.get? b=some o->H b=none->b∉fs->b∉ex->h'.get? b=some o
 slot:∀b o,h.get? b=some o->H b=none->b∈fs->b∉ex->∃sl,h'.get? b=some {o with slots:=sl}
 free:∀b o,h.get? b=some o->H b=none->b∉ex->H' b=none
 there:∀b o,h.get? b=some o->b∉ex->∃o',h'.get? b=some o'
 Sf:∀b xs,H b=some (.tup xs)->H' b=some (.tup xs)
 RZ:∀b o u,H b=some (.frz o u)->H' b=some (.frz o u)
 Sg:∀b ps,H b=some (.TC ps)->∃more,H' b=some (.TC (ps++more))
section
variable{fs fs' ex ex':yae}{H H1 H2:Hp}{h h1 h2 h':Heap}{a x e:Addr}{o:HO}
def Un.any(u:Un fs ex H H1 h h1){ob:Obj}(q:h.get? b=some ob)(n:H b=none)(c:b∉ex):∃d,h1.get? b=some {ob with slots:=d}:=by by_cases d:b∈fs;exact u.slot b ob q n d c;exact⟨ob.slots,u.keep b ob q n d c⟩
def Un.kept(k:∀b u,h.get? b=some u->h'.get? b=some u):Un fs ex H H h h' :=
 ⟨λb c q _ _ _=>k b c q,λb c q _ _ _=>⟨c.slots,k b c q⟩,λ_ _ _ n _=>n,λb c q _=>⟨c,k b c q⟩,λ_ _ q=>q,λ_ _ _ q=>q,λ_ d q=>⟨#[],by rw[q];simp⟩⟩
def Un.refl:Un fs ex H H h h:=Un.kept λ_ _ q=>q
def Un.laid(k:∀b u,h.get? b=some u->h'.get? b=some u)(d:h.objs.size<=a)(c:H a=none):Un fs ex H (upd H a o) h h' where
 keep:=λb u q _ _ _=>k b u q
 slot:=λb u q _ _ _=>⟨u.slots,k b u q⟩
 free:=λb u q n _=>by rw[aw (PY (QZ (OY q) d))];exact n
 there:=by grind
 Sf:=λb d q=>by rw[aw (aL q c)];exact q
 RZ:=λb u d q=>by rw[aw (aL q c)];exact q
 Sg:=λb f q=>⟨#[],by rw[aw (aL q c),q];simp⟩
def Un.write(c:Mut (H x))(j:e=x∨H e=some (.own x))(k:∀b u,b≠e->h.get? b=some u->h'.get? b=some u)(f:∃u,h'.get? e=some u):Un fs ex H (upd H x o) h h':=by
 have i:∀b,H b=none->b≠x:=λb n z=>by subst z;rw[n]at c;exact c
 have d:∀b,H b=none->b≠e:=by lia
 have c:∀b u,H b=some u->¬Mut (some u)->b≠x:=by lia
 refine⟨λb u q n _ _=>k b u (d b n) q,λb u q n _ _=>⟨u.slots,k b u (d b n) q⟩,by grind [aw],λb u q _=>?_,
  λb d q=>by rw[aw (c b _ q λz=>z)];exact q,λb u d q=>by rw[aw (c b _ q λz=>z)];exact q,λb g q=>⟨#[],by rw[aw (c b _ q λz=>z),q];simp⟩⟩
 grind
end
noncomputable def trk(h:Heap)(H:Hp):yae:=(List.range h.objs.size).filter λa=>(H a).isSome
def mB(h:Heap)(H:Hp):Heap:=PySem.W.hideAll h (trk h H)
def D5(h:Heap)(H:Hp):(mB h H).objs.size=h.objs.size:=PySem.W.hideAll_size _ _
def Gy{h:Heap}{H:Hp}{o:Obj}(e:h.get? b=some o)(n:H b=none):(mB h H).get? b=some o :=
 PySem.W.hideAll_get _ e λa=>by have q:(H b).isSome=true:=(zDP.mp a).2;rw[n]at q;simp at q
def Jy{o:Obj}(e:(mB h H).get? b=some o):h.get? b=some o/\H b=none:=by
 have a:h.get? b=some o:=PySem.W.of_hideAll (trk h H) e;refine⟨a,?_⟩;cases q:H b with
 |none=>rfl
 |some x =>
  have c:b∈trk h H:=zDP.mpr ⟨zDQ.mpr (OY a),by simp[q]⟩;have z:(mB h H).get? b=none:=PySem.W.hideAll_none (trk h H) c
  lia
noncomputable def Iz(g h:Heap)(L:Addr):yab:=(List.range h.objs.size).filterMap λa=>if a=L∨(g.get? a).isSome=true then none else(h.get? a).map λo=>(a,o)
def rest(g h:Heap)(L d:Addr):yab:=(Iz g h L).filter λp=>decide (p.1≠d)
structure Mod(K:yac)(mg:yam)(base:Heap):Prop where
 X3:K.In base
 glob:base.Ns mainGlobals mg
 blt:∃mb,base.Ns builtinsNs mb/\∀x:Str,x ≠ "__name__" -> mb x=bootBuiltins x
 nolimit:base.NoLimit
structure Cx where
 prog:Program
 w:World
 K:yac
 mg:yam
 base:Heap
 A:Around
 N:yah
 OG:Shared
 OR:Hp
 env:Env
 outer:List Env
 stack:List Env
 ex:yae
 fn:Str->Bool
 calm:Bool
 pn:yab
 xe:yaa
noncomputable def SH(l:List Env):yae:=l.filterMap (·.frame)
abbrev Cx.fs(X:Cx):yae:=SH X.outer
def VB(a:Scope)(x:Str):Prop:=a.names.lookup x=some .local∨a.names.lookup x=some .cell∨a.names.lookup x=some .free
def Loc(a:Scope)(x:Str):Prop:=a.names.lookup x=some .local∨a.names.lookup x=some .cell
def Look(env:Env)(h:Heap)(m:yam)(x:Str)(u:Value):Prop :=
 (env.kindOf x=some .local/\m x=some u)∨((env.kindOf x=some .cell∨env.kindOf x=some .free)/\∃c,env.cells.lookup x=some c/\h.IsCell c (some u))
structure Cx.Ok(X:Cx):Prop where
 mod:Mod X.K X.mg X.base
 kind:X.env.scope.kind=.function
 glob:X.env.globals=mainGlobals
 blt:X.env.builtins=builtinsNs
 above:X.OG.heap.objs.size<=X.env.locals
 inj:∀x y c,X.env.cells.lookup x=some c->X.env.cells.lookup y=some c->x=y
 has:∀x,(X.env.kindOf x=some .cell∨X.env.kindOf x=some .free)->∃c,X.env.cells.lookup x=some c
 VC:∀x c,X.fn x=true->X.env.cells.lookup x=some c->X.OG.heap.objs.size<=c
 hd:X.calm=true->X.A.handled=none
 frames:X.A.frames=some X.stack
 stk:X.stack=X.outer∨(X.stack=X.env::X.outer/\X.env.frame=some X.env.locals)
 exf:∀b∈X.ex,b≠X.env.locals/\∀x c,X.env.cells.lookup x=some c->c≠b
 bs:∀b o,X.base.get? b=some o->X.OG.heap.get? b=some o/\X.OR b=none
 X4:X.base.objs.size<=X.OG.heap.objs.size
 Ur:∀b o,X.base.get? b=some o->b∉X.ex
 VX:∀b∈X.ex,b∉X.fs
 RI:X.OG.heap.FunFrames X.base X.outer
 X5:∀b∈X.fs,X.OR b=none
structure Inv(X:Cx)(pins:yab)(σ:List (Option V))(H:Hp)(s:Shared):Prop where
 ok:X.Ok
 os:s.os=X.OG.os
 bare:AllBare s.gens
 base:Un X.fs X.ex X.OR H X.OG.heap s.heap
 loc:∃m,s.heap.Ns X.env.locals m/\∀(i:Nat) (x:Str) (v:V),X.N[i]?=some x->σ[i]?=some (some v)->VB X.env.scope x->∃u,RelV v u/\Look X.env s.heap m x u
 cell:∀x c,X.env.cells.lookup x=some c->∃v,s.heap.IsCell c v
 free:H X.env.locals=none
 Qo:∀x c,X.env.cells.lookup x=some c->H c=none
 pin:∀p∈X.pn++pins,s.heap.get? p.1=some p.2/\H p.1=none/\p.1≠X.env.locals/\p.1∉X.fs/\∀v,p.2.data ≠ .cell v
 OB:Q0 X.prog X.w H s.heap
 len:σ.length=X.N.length
section
variable{X:Cx}{pins:yab}{σ:List (Option V)}{H H':Hp}{s:Shared}{h':Heap}
def Cx.Ok.nofr(a:X.Ok){o:Obj}(e:X.base.get? b=some o):b∉X.fs:=λb=>by
 have:=(a.RI.mem b).1
 lia
theorem Inv.bs(I:Inv X pins σ H s):∀b o,X.base.get? b=some o->s.heap.get? b=some o/\H b=none:=λb o e =>
 ⟨I.base.keep b o (I.ok.bs b o e).1 (I.ok.bs b o e).2 (I.ok.nofr e) (I.ok.Ur b o e),I.base.free b o (I.ok.bs b o e).1 (I.ok.bs b o e).2 (I.ok.Ur b o e)⟩
def Inv.bk(I:Inv X pins σ H s):∀b o,X.base.get? b=some o->s.heap.get? b=some o:=λb o e=>(I.bs b o e).1
theorem Inv.mod(I:Inv X pins σ H s):Mod X.K X.mg X.base:=I.ok.mod
def Inv.SJ(I:Inv X pins σ H s):X.K.In s.heap:=I.ok.mod.X3.keeps I.bk
theorem Inv.lt(I:Inv X pins σ H s):X.env.locals<s.heap.objs.size:=let ⟨_,hn,_⟩:=I.loc;hn.lt
def Inv.sz(I:Inv X pins σ H s):X.OG.heap.objs.size<=s.heap.objs.size:=PL I.ok.above (UU I.lt)
def Inv.nofs(I:Inv X pins σ H s){a:Addr}(h:s.heap.objs.size<=a):a∉X.fs:=λb=>by obtain⟨_,o,a,_⟩:=I.ok.RI.mem b;exact absurd (QZ (OY a) (PL I.sz h)) (VR _)
def Inv.Xi(I:Inv X pins σ H s):∀x c,X.env.cells.lookup x=some c->c≠X.env.locals:=λx c e z=>by
 obtain⟨v,o,b,d⟩:=I.cell x c e;obtain⟨m,⟨a,f,g,Us,Te,_⟩,_⟩:=I.loc
 lia
theorem Inv.RI(I:Inv X pins σ H s):s.heap.FunFrames X.base X.outer:=by
 have c:∀(l:List Env),(∀b∈SH l,b∈X.fs)->X.OG.heap.FunFrames X.base l->s.heap.FunFrames X.base l:=by
  intro l
  induction l with
  |nil=>intro _ _;trivial
  |cons m r ih =>
   intro d a;obtain⟨j,⟨L,o,f,i,h,k⟩,g⟩:=a;have a:L∈X.fs:=d L (by unfold SH;simp_all);obtain⟨n,e⟩:=I.base.slot L o h (I.ok.X5 L a) a λz=>I.ok.VX L z a
   exact⟨j,⟨L,_,f,i,e,k⟩,ih (λb a=>d b (by unfold SH;rw[zDL,f];exact Pz _ a)) g⟩
 exact c X.outer (λ_ a=>a) I.ok.RI
theorem Inv.stack(I:Inv X pins σ H s):s.heap.FunFrames X.base X.stack:=by
 rcases I.ok.stk with e|⟨e,b⟩;rw[e];exact I.RI;rw[e];obtain⟨m,a,_⟩:=I.loc;refine .cons (by rw[I.ok.kind];decide) b a ?_ I.RI;exact Heap.get?_none_of_le (PL I.ok.X4 I.ok.above)
def Inv.Si(I:Inv X pins σ H s):∀b∈SH X.stack,b∈X.env.locals::X.fs:=λb a=>by
 rcases I.ok.stk with e|⟨e,b⟩;rw[e]at a;exact Pz _ a;rw[e]at a;unfold SH at a;rw[zDL,b]at a;exact a
def Inv.Tf(I:Inv X pins σ H s):∀b∈SH X.stack,H b=none:=λb hb=>by
 rcases OK.mp (I.Si b hb)with e|hb;rw[e];exact I.free;obtain⟨_,o,a,_⟩:=I.ok.RI.mem hb;exact I.base.free b o a (I.ok.X5 b hb) λz=>I.ok.VX b z hb
def Inv.step{t':Nat}{d':Drawn}{ch:yae}(I:Inv X pins σ H s)
  (w:∀b∈ch,(b∈X.ex∨X.OG.heap.objs.size<=b)/\b≠X.env.locals/\(∀x c,X.env.cells.lookup x=some c->c≠b)/\∀p∈X.pn++pins,p.1≠b)
  (g:∀b o,b≠X.env.locals->b∉X.fs->b∉ch->s.heap.get? b=some o->H b=none->h'.get? b=some o)
  (i:∀b o,b≠X.env.locals->b∈X.fs->b∉ch->s.heap.get? b=some o->H b=none->∃j,h'.get? b=some {o with slots:=j}) (f:∀b o,b∉ch->s.heap.get? b=some o->H b=none->H' b=none)
  (k:∀b o,b∉ch->s.heap.get? b=some o->∃r,h'.get? b=some r)
  (C:∀b xs,H b=some (.tup xs)->H' b=some (.tup xs)) (J:∀b o u,H b=some (.frz o u)->H' b=some (.frz o u)) (G:∀b ps,H b=some (.TC ps)->∃a,H' b=some (.TC (ps++a)))
  (ns:∀m,s.heap.Ns X.env.locals m->h'.Ns X.env.locals m) (L:Q0 X.prog X.w H' h') (A:AllBare g') :
  Inv X pins σ H' {s with heap:=h',gens:=g',drawn:=d',toks:=t'}:=by
 have E:∀b o,X.OG.heap.get? b=some o->b≠X.env.locals:=λb o e=>PY (QZ (OY e) I.ok.above)
 have h:∀b o,X.OG.heap.get? b=some o->b∉X.ex->b∉ch:=λb o e a l=>by
  rcases(w b l).1 with z|z;exact a z;exact absurd (QZ (OY e) z) (VR _)
 have d:∀x c,X.env.cells.lookup x=some c->∀v,s.heap.IsCell c v->h'.IsCell c v:=λx c e v ⟨o,t,B⟩=>by
  have y:c∉ch:=λz=>(w c z).2.2.1 x c e rfl
  by_cases n:c∈X.fs;obtain⟨j,q⟩:=i c o (I.Xi x c e) n y t (I.Qo x c e);exact⟨_,q,B⟩;exact⟨o,g c o (I.Xi x c e) n y t (I.Qo x c e),B⟩
 refine⟨I.ok,I.os,A,⟨λb o e n l a=>?_,λb o e n l a=>?_,λb o e n a=>?_,λb o e a=>?_,λb xs e=>C b xs (I.base.Sf b xs e),λb o xs e=>J b o xs (I.base.RZ b o xs e),λb ps e=>?_⟩,?_,λx c e=>?_,?_,λx c e=>?_,λp C=>?_,L,I.len⟩;exact g b o (E b o e) l (h b o e a) (I.base.keep b o e n l a) (I.base.free b o e n a);obtain⟨j,j⟩:=I.base.slot b o e n l a;obtain⟨A,q⟩:=i b _ (E b o e) l (h b o e a) j (I.base.free b o e n a);exact⟨A,q⟩;obtain⟨r,j⟩:=I.base.there b o e a;exact f b r (h b o e a) j (I.base.free b o e n a);obtain⟨r,j⟩:=I.base.there b o e a;exact k b r (h b o e a) j;obtain⟨h,j⟩:=I.base.Sg b ps e;obtain⟨a,q⟩:=G b _ j;exact⟨h++a,by rw[q,Array.append_assoc]⟩;obtain⟨m,a,b⟩:=I.loc;refine⟨m,ns m a,λi x v j q a=>?_⟩;obtain⟨u,r,l⟩:=b i x v j q a;refine⟨u,r,?_⟩;rcases l with l|⟨k,c,e,z⟩;exact .inl l;exact .inr ⟨k,c,e,d x c e _ z⟩;obtain⟨v,z⟩:=I.cell x c e;exact⟨v,d x c e v z⟩;obtain⟨m,⟨o,_,_,t,_⟩,_⟩:=I.loc;exact f _ o (λz=>(w _ z).2.1 rfl) t I.free;obtain⟨v,o,t,B⟩:=I.cell x c e;exact f c o (λz=>(w c z).2.2.1 x c e rfl) t (I.Qo x c e);obtain⟨e,n,b,a,d⟩:=I.pin p C;have y:p.1∉ch:=λz=>(w p.1 z).2.2.2 p C rfl
 exact⟨g p.1 p.2 b a y e n,f p.1 p.2 y e n,b,a,d⟩
def Inv.un{t':Nat}(I:Inv X pins σ H s)(u:Un X.fs [] H H' s.heap h')(h:Q0 X.prog X.w H' h'):Inv X pins σ H' {s with heap:=h',toks:=t'}:=by
 obtain⟨m,⟨o,l,p,c,r⟩,_⟩:=id I.loc;obtain⟨i,f⟩:=u.any c I.free (by simp);exact I.step (g':=s.gens) (d':=s.drawn) (ch:=[]) (λ_ z=>nomatch z) (λb o _ a _ e n=>u.keep b o e n a (by simp)) (λb o _ a _ e n=>u.slot b o e n a (by simp)) (λb o _ e n=>u.free b o e n (by simp)) (λb o _ e=>u.there b o e (by simp)) u.Sf u.RZ u.Sg (λk e=>by obtain⟨j,g,a,b,d⟩:=e;rw[c]at b;cases b;exact⟨_,g,a,f,d⟩) h I.bare
def Inv.call{t':Nat}{d':Drawn}(I:Inv X pins σ H s)(u:Un (SH X.stack) ch H H' s.heap h')(i:Q0 X.prog X.w H' h')(g:AllBare g')
  (a:∀b∈ch,(b∈X.ex∨X.OG.heap.objs.size<=b)/\b≠X.env.locals/\(∀x c,X.env.cells.lookup x=some c->c≠b)/\∀p∈X.pn++pins,p.1≠b) :
  Inv X pins σ H' {s with heap:=h',gens:=g',drawn:=d',toks:=t'}:=by
 obtain⟨m,⟨o,q,t,d,r⟩,_⟩:=id I.loc;obtain⟨j,c⟩:=u.any d I.free λz=>(a _ z).2.1 rfl
 exact I.step (ch:=ch) a (λb o c f a e n=>u.keep b o e n (λz=>(OK.mp (I.Si b z)).elim c f) a) (λb o _ _ a e n=>u.any e n a) (λb o a e n=>u.free b o e n a) (λb o a e=>u.there b o e a) u.Sf u.RZ u.Sg (λl f=>by obtain⟨k,h,a,b,e⟩:=f;rw[d]at b;cases b;exact⟨_,h,a,c,e⟩) i g
def Inv.turned{t':Nat}{a:Addr}(I:Inv X pins σ H s)(k:∀b o,b≠a->s.heap.get? b=some o->h'.get? b=some o)(d:H a=none)(g:a≠X.env.locals)
  (q:a∈X.ex∨X.OG.heap.objs.size<=a) (l:∀x c,X.env.cells.lookup x=some c->c≠a) (j:∀p∈X.pn++pins,p.1≠a):Inv X pins σ H {s with heap:=h',toks:=t'}:=by
 have f:∀b u,H b=some u->b≠a:=λb u e z=>by rw[z,d]at e;cases e
 refine I.step (g':=s.gens) (d':=s.drawn) (ch:=[a]) (λb i=>?_) (λb o _ _ d e _=>k b o (λz=>d (by simp[z])) e) (λb o _ _ d e _=>⟨o.slots,k b o (λz=>d (by simp[z])) e⟩) (λ_ _ _ _ n=>n)
  (λb o d e=>⟨o,k b o (λz=>d (by simp[z])) e⟩) (λ_ _ e=>e) (λ_ _ _ e=>e) (λb t e=>⟨#[],by rw[e];simp⟩) (λm h=>?_) (λb u e=>?_) I.bare
 have e:b=a:=by simpa using i
 subst e;exact⟨q,g,l,j⟩;obtain⟨o,i,j,a,r⟩:=h;exact⟨o,i,j,k _ o (Ne.symm g) a,r⟩;refine(I.OB b u e).RH (λc v d q=>k c v ?_ q) (λ_ q=>q) λ_ _ q=>q
 rcases d with z|z;rw[z];exact f b u e;exact f c _ z
def Inv.tok(I:Inv X pins σ H s)(t:Nat):Inv X pins σ H {s with toks:=t}:=I.un (h':=s.heap) (t':=t) Un.refl I.OB
theorem Inv.kept{t':Nat}(I:Inv X pins σ H s)(k:∀b u,s.heap.get? b=some u->h'.get? b=some u):Inv X pins σ H {s with heap:=h',toks:=t'}:=I.un (Un.kept k) (I.OB.kept k)
theorem Inv.laid{a:Addr}{t':Nat}(I:Inv X pins σ H s)(k:∀b u,s.heap.get? b=some u->h'.get? b=some u)(d:s.heap.objs.size<=a)(c:bD X.prog X.w (upd H a o) h' a o) :
  Inv X pins σ (upd H a o) {s with heap:=h',toks:=t'}:=I.un (Un.laid k d (I.OB.fresh d)) (I.OB.laid k d c)
theorem Inv.write{e:Addr}{t':Nat}(I:Inv X pins σ H s)(d:Mut (H x))(f:e=x∨H e=some (.own x))(k:∀b u,b≠e->s.heap.get? b=some u->h'.get? b=some u)(a:∃u,h'.get? e=some u)
  (c:bD X.prog X.w (upd H x o) h' x o):Inv X pins σ (upd H x o) {s with heap:=h',toks:=t'}:=I.un (Un.write d f k a) (I.OB.write d f k a c)
def Inv.UY{a:yab}(I:Inv X pins σ H s)(h:∀p∈a,s.heap.get? p.1=some p.2/\H p.1=none/\p.1≠X.env.locals/\p.1∉X.fs/\∀v,p.2.data ≠ .cell v):Inv X a σ H s :=
 ⟨I.ok,I.os,I.bare,I.base,I.loc,I.cell,I.free,I.Qo,λp a=>(Qn.mp a).elim (λz=>I.pin p (Uj _ z)) (h p),I.OB,I.len⟩
def qZ{N:yah}(c:N.Nodup){i j:Nat}{x:Str}(a:N[i]?=some x)(b:N[j]?=some x):i=j:=by obtain⟨f,d⟩:=QH.mp a;obtain⟨e,a⟩:=QH.mp b;exact(List.getElem_inj c).mp (d.trans a.symm)
def vW{i:Nat}{x:Str}{Q:Unit->Shared->Prop}(I:Inv X pins σ H s)(hN:X.N.Nodup)(L:X.N[i]?=some x)(t:Loc X.env.scope x)(r:RelV v u)
  (h:∀b,Inv X pins (σ.set i (some v)) H b->(∃a,Heap.SameBut a s.heap b.heap/\(a=X.env.locals∨X.env.cells.lookup x=some a))->Q () b) (G:X.fn x=true∨X.env.scope.names.lookup x=some .local:=by first|exact .inl rfl|exact .inr rfl|assumption):wpAny M A (storeName X.env x u) Q E s:=by
 obtain⟨m,hn,hl⟩:=id I.loc;have d:(X.env.scope.kind==.class || (X.env.scope.kind==.module && X.env.locals != X.env.globals))=false:=by rw[I.ok.kind];rfl
 have A:i<σ.length:=by rw[I.len];exact(QH.mp L).1
 have Xi:=I.Xi;have f:∀{a:Addr} {h':Heap},(∃o,s.heap.get? a=some o/\H a=none)->Heap.SameBut a s.heap h'->Q0 X.prog X.w H h':=fun {a h'} j a b c e=>by
  obtain⟨_,_,g⟩:=j;refine(I.OB b c e).RH (λc M l q=>(a.2 c ?_).trans q) (λ_ q=>q) λ_ _ q=>q
  rintro rfl;rcases l with rfl|l;rw[g]at e;cases e;rw[g]at l;cases l
 rcases t with hk|hk;refine wpAny_storeName_local hk hn (λh' g a=>?_) d;obtain⟨oL,_,_,d,_⟩:=id hn;refine h _ ⟨I.ok,I.os,I.bare,⟨λb o e n E t=>?_,λb o e n E t=>?_,I.base.free,λb o e t=>?_,I.base.Sf,I.base.RZ,I.base.Sg⟩,⟨_,g,λj y O g w e3=>?_⟩,λy c e=>?_,I.free,I.Qo,λp hp=>?_,f ⟨oL,d,I.free⟩ a,by simpa using I.len⟩ ⟨_,a,.inl rfl⟩;exact(a.2 b (PY (QZ (OY e) I.ok.above))).trans (I.base.keep b o e n E t);obtain⟨T,g⟩:=I.base.slot b o e n E t;exact⟨T,(a.2 b (PY (QZ (OY e) I.ok.above))).trans g⟩;obtain⟨Y,g⟩:=I.base.there b o e t;exact⟨Y,(a.2 b (PY (QZ (OY e) I.ok.above))).trans g⟩;by_cases B:j=i;subst B;rw[L]at g;cases g;rw[UP A]at w;cases w;exact⟨u,r,.inl ⟨hk,by simp⟩⟩;rw[Rc (Ne.symm B)]at w;obtain⟨Q,U,q⟩:=hl j y O g w e3;refine⟨Q,U,?_⟩;rcases q with⟨k,e⟩| ⟨k,c,e,z⟩;refine .inl ⟨k,?_⟩;have:y≠x:=λe=>B (qZ hN g (e ▸ L))
 simp[this,e];exact .inr ⟨k,c,e,z.sameBut a (Xi y c e)⟩;obtain⟨M,z⟩:=I.cell y c e;exact⟨M,z.sameBut a (Xi y c e)⟩;obtain⟨e,n,N,nf,d⟩:=I.pin p hp;exact⟨(a.2 p.1 N).trans e,n,N,nf,d⟩;have C:X.fn x=true:=by
  rcases G with z|z;exact z;rw[z]at hk;cases hk
 obtain⟨c,l⟩:=I.ok.has x (.inl hk);obtain⟨M,z⟩:=I.cell x c l;refine wpAny_storeName_cell I.ok.kind hk l z (λh' TQ a=>?_);obtain⟨oc,J,G⟩:=id z;refine h {s with heap:=h'} ⟨I.ok,I.os,I.bare,⟨λb o e n E t=>?_,λb o e n E t=>?_,I.base.free,λb o e t=>?_,I.base.Sf,I.base.RZ,I.base.Sg⟩,⟨m,hn.sameBut a (Ne.symm (Xi x c l)),λj y O g w e3=>?_⟩,λy h e=>?_,I.free,I.Qo,λp hp=>?_,f ⟨oc,J,I.Qo x c l⟩ a,by simpa using I.len⟩ ⟨c,a,.inr l⟩;exact(a.2 b (PY (QZ (OY e) (I.ok.VC x c C l)))).trans (I.base.keep b o e n E t);obtain⟨T,g⟩:=I.base.slot b o e n E t;exact⟨T,(a.2 b (PY (QZ (OY e) (I.ok.VC x c C l)))).trans g⟩;obtain⟨Y,g⟩:=I.base.there b o e t;exact⟨Y,(a.2 b (PY (QZ (OY e) (I.ok.VC x c C l)))).trans g⟩;by_cases B:j=i;subst B;rw[L]at g;cases g;rw[UP A]at w;cases w;exact⟨u,r,.inr ⟨.inl hk,c,l,TQ⟩⟩;rw[Rc (Ne.symm B)]at w;obtain⟨Q,U,q⟩:=hl j y O g w e3;refine⟨Q,U,?_⟩;rcases q with q|⟨k,h,e,b⟩;exact .inl q;refine .inr ⟨k,h,e,b.sameBut a ?_⟩;rintro rfl;exact B (qZ hN g (I.ok.inj _ _ _ e l ▸ L));by_cases b:h=c;subst b;exact⟨_,TQ⟩;obtain⟨f,c⟩:=I.cell y h e;exact⟨f,c.sameBut a b⟩;obtain⟨e,n,N,nf,d⟩:=I.pin p hp;refine⟨(a.2 p.1 ?_).trans e,n,N,nf,d⟩;intro q;rw[q,J]at e;have a:oc=p.2:=SO e;exact d M (by rw[<- a];exact G)
def cN{i:Nat}{x:Str}{Q:Unit->Shared->Prop}(I:Inv X pins σ H s)(e:X.N.Nodup)(c:X.N[i]?=some x)(b:Loc X.env.scope x)(r:RelV v u)
  (h:∀a,Inv X pins (σ.set i (some v)) H a->Q () a) (d:X.fn x=true∨X.env.scope.names.lookup x=some .local:=by first|exact .inl rfl|exact .inr rfl|assumption):wpAny M A (storeName X.env x u) Q E s :=
 vW I e c b r (λa b _=>h a b) d
def Inv.TR{a:Shared}(I:Inv X pins σ H s)(d:a.os=s.os)(u:Un (SH X.stack) ch H H' s.heap a.heap)(h:Q0 X.prog X.w H' a.heap)(f:AllBare a.gens)
  (g:∀b∈ch,(b∈X.ex∨X.OG.heap.objs.size<=b)/\b≠X.env.locals/\(∀x c,X.env.cells.lookup x=some c->c≠b)/\∀p∈X.pn++pins,p.1≠b):Inv X pins σ H' a:=by
 obtain⟨h',g',d',t',b⟩:=a;have e:b=s.os:=d;subst e;exact I.call (g':=g') (t':=t') (d':=d') u h f g
end
abbrev XK:=Value->Option Addr->Hp->Prop
abbrev St:=List (Option V)
abbrev VK:=V->Hp->Prop
abbrev TE:=St->Hp->VK->Prop
abbrev TT:=St->Hp->(Bool->Hp->Prop)->Prop
abbrev TA:=St->Hp->(yar->Hp->Prop)->Prop
structure Ends where
 nx:St->Hp->Prop
 rt:VK
 bk:St->Hp->Prop:=λ_ _=>False
 ct:St->Hp->Prop:=λ_ _=>False
abbrev TS:=Ends->St->Hp->Prop
def EP(X:Cx)(a:yab)(c:St)(Q:VK)(u:Value)(d:Shared):Prop:=∃v b,Inv X a c b d/\RelV v u/\Q v b
def AP(X:Cx)(a:yab)(d:St)(Q:yar->Hp->Prop)(e:yad)(f:Shared):Prop:=∃b c,Inv X a d c f/\Vals b e/\Q b c
def SP(X:Cx)(a:yab)(D:Ends)(f:Flow)(d:Shared):Prop :=
 match f with
 |.next=>∃c b,Inv X a c b d/\D.nx c b
 |.brk=>∃c b,Inv X a c b d/\D.bk c b
 |.cont=>∃c b,Inv X a c b d/\D.ct c b
 |.ret u=>∃v c b,Inv X a c b d/\RelV v u/\D.rt v b
def PE(X:Cx)(e:Expr)(t:TE):Prop :=
 ∀ (a:yab) (s:Shared) (b:St) (H:Hp) (Q:VK),Inv X a b H s->t b H Q->wpAny (model X.prog X.w) X.A (eval e X.env) (EP X a b Q) X.xe s
def PA(X:Cx)(es:yai)(t:TA):Prop :=
 ∀ (c:Pos) (a:yab) (s:Shared) (b:St) (H:Hp) (Q:yar->Hp->Prop),Inv X a b H s->t b H Q->wpAny (model X.prog X.w) X.A (spliced (backTo c (starEach es X.env))) (AP X a b Q) X.xe s
def PS(X:Cx)(st:Stmt)(t:TS):Prop :=
 ∀ (a:yab) (s:Shared) (b:St) (H:Hp) (D:Ends),Inv X a b H s->t D b H->wpAny (model X.prog X.w) X.A (exec st X.env) (SP X a D) X.xe s
def YC(X:Cx)(st:yal)(t:TS):Prop :=
 ∀ (a:yab) (s:Shared) (b:St) (H:Hp) (D:Ends),Inv X a b H s->t D b H->wpAny (model X.prog X.w) X.A (execs st X.env) (SP X a D) X.xe s
def Oj{b:Type}{t:Sem b}{Q c:b->Shared->Prop}{M:Model}{A:Around}{E:yaa}{s:Shared}(h:wpAny M A t Q E s)(d:∀a s,Q a s->c a s):wpAny M A t c E s:=R9 h d λ_ _ x=>x
section
variable{X:Cx}
def u7(i:Nat):TE:=λa H Q=>∃v,a[i]?=some (some v)/\Q v H
def tC(v:V):TE:=λ_ H Q=>Q v H
def eR {i:Nat} {x:Str} (j:X.N[i]?=some x) (b:VB X.env.scope x) (d:(x==("__debug__" : Str))=false:=by decide) (k:(x==("__classdict__" : Str))=false:=by decide):PE X (.Name x pos) (u7 i):=by
 intro a s c H Q I h;obtain⟨v,e,h⟩:=h;obtain⟨m,f,g⟩:=I.loc;obtain⟨u,r,l⟩:=g i x v j e b;have b:EP X a c Q u s:=⟨v,H,I,r,h⟩;rcases l with⟨a,g⟩| ⟨a,c,c,e⟩;exact wpAny_Name (wpAny_loadName_local I.ok.kind a f g b) d;rcases a with a|a;exact wpAny_Name (wpAny_loadName_cell I.ok.kind a c e b) d;exact wpAny_Name (wpAny_loadName_free I.ok.kind a c e b k) d
def tH{i j pos}:PE X (.Constant (.int i) j pos) (tC (.int i)):=λ_ _ _ H _ I h=>wpAny_Constant_int ⟨.int i,H,I.tok _,⟨_,rfl⟩,h⟩
def Ni{b j pos}:PE X (.Constant (.bool b) j pos) (tC (.bl b)):=λ_ _ _ H _ I h=>Constant_bool ⟨.bl b,H,I,rfl,h⟩
def Mh{j pos}:PE X (.Constant .none j pos) (tC .ON):=λ_ _ _ H _ I h=>Constant_none ⟨.ON,H,I,rfl,h⟩
def Mi{x j pos}:PE X (.Constant (.str x) j pos) (tC (.str x)):=λ_ _ _ H _ I h=>Calls.Constant_str ⟨.str x,H,I.tok _,⟨_,rfl⟩,h⟩
def Gl(X:Cx)(x:Str):Prop:=X.env.kindOf x=some .globalImplicit
def jU{u:Value}{Q:yaa}(I:Inv X pins σ H s)(b:Gl X x)(a:X.mg x=some u)(h:Q u s)
  (c:(x==("__debug__" : Str))=false:=by decide):wpAny (model X.prog X.w) X.A (eval (.Name x pos) X.env) Q E s :=
 Calls.Name_function_global I.ok.kind b (Calls.loadGlobal_global (by rw[I.ok.glob];exact I.mod.glob.keeps I.bk) a h) c
def cc{u:Value}{Q:yaa}(I:Inv X pins σ H s)(d:Gl X x)(c:X.mg x=none)(a:bootBuiltins x=some u)(h:Q u s)
  (b:x ≠ "__name__" := by decide) (e:(x==("__debug__" : Str))=false:=by decide):wpAny (model X.prog X.w) X.A (eval (.Name x pos) X.env) Q E s:=by
 obtain⟨i,g,f⟩:=I.mod.blt;exact Calls.Name_function_global I.ok.kind d (Calls.loadGlobal_builtin (by rw[I.ok.glob];exact I.mod.glob.keeps I.bk) c (by rw[I.ok.blt];exact g.keeps I.bk) ((f x b).trans a) h) e
def pV {u:Value} (b:Gl X x) (a:X.mg x=some u) (r:RelV v u) (c:(x==("__debug__" : Str))=false:=by decide):PE X (.Name x pos) (tC v) :=
 λ_ _ _ H _ I h=>jU I b a ⟨v,H,I,r,h⟩ c
def A7 {u:Value} (d:Gl X x) (c:X.mg x=none) (a:bootBuiltins x=some u) (r:RelV v u) (b:x ≠ "__name__" := by decide) (e:(x==("__debug__" : Str))=false:=by decide):PE X (.Name x pos) (tC v) :=
 λ_ _ _ H _ I h=>cc I d c a ⟨v,H,I,r,h⟩ b e
variable{a b:Expr}{ta tb:TE}{pos:Pos}
def yL(b:Expr){c:CmpOp}(h:c ≠ .In)(f:c ≠ .NotIn):behindInMarks c b=false:=by
 have e:(c==CmpOp.In)=false:=by lia
 have d:(c==CmpOp.NotIn)=false:=by lia
 cases b<;>simp[behindInMarks,e,d]
variable{tA tB':TT}{rest:yai}
end
def SqL(K:yac)(H:Hp)(a:Addr)(xs:yar):Prop :=
 Rd H a (.lst xs) ∨
  ∃ (o:Obj) (b:yao) (n:Nat),K.lookup a=some o/\o.cls=.type "list" /\ o.dict=none/\o.data=.seq b n/\b.size<=sizeLine/\Vals xs b.toList
def OT(K:yac)(H:Hp)(a:Addr)(xs:yar):Prop :=
 Rd H a (.tup xs) ∨
  ∃ (o:Obj) (b:yao) (n:Nat),K.lookup a=some o/\o.cls=.type "tuple" /\ o.data=.seq b n/\b.size<=sizeLine/\Vals xs b.toList
noncomputable def Nz:Value->Option V
 |.none=>some .ON
 |.bool b=>some (.bl b)
 |.int i _=>some (.int i)
 |.str x _=>some (.str x)
 |.bytes b _=>some (.VW b)
 |.float b _=>some (.flt b)
 |.ref a=>some (.ref a)
 |.type n=>some (.ty n)
 |_=>none
def RelV.abs(r:RelV x u):Nz u=some x:=by
 cases x with
 |ON=>cases r;rfl
 |bl _=>cases r;rfl
 |int _=>obtain⟨t,rfl⟩:=r;rfl
 |str _=>obtain⟨t,rfl⟩:=r;rfl
 |VW _=>obtain⟨t,rfl⟩:=r;rfl
 |flt _=>obtain⟨t,rfl⟩:=r;rfl
 |ref _=>cases r;rfl
 |ty _=>cases r;rfl
theorem RelV.inj(r:RelV x u)(q:RelV y u):x=y:=SO (r.abs.symm.trans q.abs)
theorem Vals.inj:∀{xs ys:yar} {a:yad},Vals xs a->Vals ys a->xs=ys
 |_,_,_,.nil,.nil=>rfl
 |_,_,_,.cons r t,.cons b a=>by rw[r.inj b,Vals.inj t a]
section
variable{X:Cx}{pins:yab}{σ:St}{H:Hp}{s:Shared}{a:Addr}{xs ys:yar}
def SqL.of{K:yac}(h:H a=some (.lst xs)):SqL K H a xs:=.inl (.inl h)
def OT.of{K:yac}(h:H a=some (.tup xs)):OT K H a xs:=.inl (.inl h)
def Inv.list(I:Inv X pins σ H s)(h:SqL X.K H a xs):∃b:yad,Vals xs b/\PlainL s.heap a b.toArray/\xs.length<=sizeLine:=by
 rcases h with h|⟨o,b,n,d,g,f,c,i,r⟩;obtain⟨z,b,n,r,e⟩:=h.ok I.OB;exact⟨b,r,⟨_,n,e,rfl,rfl,rfl⟩,z⟩;refine⟨b.toList,r,⟨o,n,I.SJ a o d,g,f,by simpa using c⟩,?_⟩;have e:=r.length;simp only[RY]at e
 lia
def Inv.tuple(I:Inv X pins σ H s)(h:OT X.K H a xs):∃b:yad,Vals xs b/\IsTup s.heap a b.toArray/\xs.length<=sizeLine:=by
 rcases h with h|⟨o,b,n,c,d,g,f,r⟩;obtain⟨z,b,r,p⟩:=h.ok I.OB;exact⟨b,r,p,z⟩;refine⟨b.toList,r,⟨o,I.SJ a o c,d,n,by simp_all⟩,?_⟩;have e:=r.length
 simp_all
def Inv.Sj(I:Inv X pins σ H s)(h:SqL X.K H a xs)(h':SqL X.K H a ys):xs=ys:=by
 obtain⟨f,r,⟨o,n,e,_,_,d⟩,_⟩:=I.list h;obtain⟨b,c,⟨g,i,d,_,_,j⟩,_⟩:=I.list h';rw[e]at d;have:f=b:=by lia
 subst this;exact r.inj c
def Inv.S6(I:Inv X pins σ H s)(h:OT X.K H a xs)(h':OT X.K H a ys):xs=ys:=by
 obtain⟨f,r,⟨o,e,_,n,d⟩,_⟩:=I.tuple h;obtain⟨b,c,⟨g,d,_,i,j⟩,_⟩:=I.tuple h';rw[e]at d;have:f=b:=by lia
 subst this;exact r.inj c
end
noncomputable abbrev Cx.wish(X:Cx)(E:yaa):Cx:={X with xe:=E}
abbrev Cx.WD(X:Cx):Cx:=X.wish λ_ _=>False
theorem Cx.Ok.wish{X:Cx}(a:X.Ok)(E:yaa):(X.wish E).Ok :=
 ⟨a.mod,a.kind,a.glob,a.blt,a.above,a.inj,a.has,a.VC,a.hd,a.frames,a.stk,a.exf,a.bs,a.X4,a.Ur,a.VX,a.RI,a.X5⟩
def Cx.Ok.PQ{X:Cx}(a:(X.wish E).Ok):X.Ok :=
 ⟨a.mod,a.kind,a.glob,a.blt,a.above,a.inj,a.has,a.VC,a.hd,a.frames,a.stk,a.exf,a.bs,a.X4,a.Ur,a.VX,a.RI,a.X5⟩
section
variable{X:Cx}{pins:yab}{σ:St}{H:Hp}{s:Shared}{E:yaa}
theorem Inv.wish(I:Inv X pins σ H s)(E:yaa):Inv (X.wish E) pins σ H s:=⟨I.ok.wish E,I.os,I.bare,I.base,I.loc,I.cell,I.free,I.Qo,I.pin,I.OB,I.len⟩
theorem Inv.PQ(I:Inv (X.wish E) pins σ H s):Inv X pins σ H s:=⟨I.ok.PQ,I.os,I.bare,I.base,I.loc,I.cell,I.free,I.Qo,I.pin,I.OB,I.len⟩
end
section
variable{X:Cx}{st:Stmt}{rest:yal}{t u:TS}{e:Expr}{te:TE}{pos:Pos}
def MG(t u:TS):TS:=λD a H=>t {D with nx:=u D} a H
def Hb(d:PS X st t)(c:YC X rest u):YC X (st::rest) (MG t u):=by
 intro a s b H D I h;refine Vv (Oj (d a s b H {D with nx:=u D} I h) λf b q=>?_);cases f with
 |next =>
  obtain⟨d,g,f,q⟩:=q;exact c a b d g D f q
 |ret v=>exact q
 |brk=>exact q
 |cont=>exact q
def JR(c:PS X st t):YC X [st] t:=by
 intro a s b H D I h;refine Vv (Oj (c a s b H D I h) λf d q=>?_);cases f with
 |next=>exact Xe q
 |ret v=>exact q
 |brk=>exact q
 |cont=>exact q
def Inv.quiet(I:Inv X pins σ H s):interactive X.env=false:=by simp[interactive,I.ok.kind]
def wU(te:TE):TS:=λD a H=>te a H λ_ b=>D.nx a b
def jV(c:PE X e te)(hs:swapsWith e none pos.line X.env=pure false:=by rfl):PS X (.Expr e pos) (wU te):=by intro a s b H D I h;exact wpAny_Expr_any (Oj (c a s b H _ I h) λv g c=>(by obtain⟨x,f,d,i,a⟩:=c;exact⟨b,f,d,a⟩)) I.quiet hs
end
abbrev TG:=V->St->Hp->(St->Hp->Prop)->Prop
abbrev TGs:=yar->St->Hp->(St->Hp->Prop)->Prop
def PG(X:Cx)(a:Expr)(t:TG):Prop :=
 ∀ (b:yab) (s:Shared) (c:St) (H:Hp) (v:V) (u:Value) (Q:St->Hp->Prop),Inv X b c H s->RelV v u->t v c H Q →
  wpAny (model X.prog X.w) X.A (assign a X.env u) (λ_ d=>∃a c,Inv X b a c d/\Q a c) X.xe s
def PGs(X:Cx)(ts:yai)(t:TGs):Prop :=
 ∀ (a:yab) (s:Shared) (b:St) (H:Hp) (c:yar) (d:yad) (Q:St->Hp->Prop),Inv X a b H s->Vals c d->t c b H Q →
  wpAny (model X.prog X.w) X.A (assignInOrder ((assignEach ts X.env).map (·.2)) d) (λ_ d=>∃b c,Inv X a b c d/\Q b c) X.xe s
abbrev TIp:=V->V->Hp->VK->Prop
def PIp(X:Cx)(c:Operator)(t:TIp):Prop :=
 ∀ (a:yab) (s:Shared) (b:St) (H:Hp) (x y:V) (v u:Value) (Q:VK),Inv X a b H s->RelV x v->RelV y u->t x y H Q →
  wpAny (model X.prog X.w) X.A (inplaceOp c v u) (EP X a b Q) X.xe s
section
variable{X:Cx}{pos:Pos}
def B8(i:Nat):TG:=λv a H Q=>Q (a.set i (some v)) H
def A8{i:Nat}{x:Str}(e:X.N.Nodup)(c:X.N[i]?=some x)(b:Loc X.env.scope x)(d:X.fn x=true∨X.env.scope.names.lookup x=some .local:=by first|exact .inl rfl|exact .inr rfl|assumption):PG X (.Name x pos) (B8 i):=by intro a s f H v u Q I r h;exact wpAny_assign_Name (cN I e c b r (λg b=>⟨_,H,b,h⟩) d)
def LF:TGs:=λb a H Q=>b=[]/\Q a H
def B7(t:TG)(u:TGs):TGs:=λb a H Q=>∃v r,b=v::r/\t v a H λa b=>u r a b Q
def JO:PGs X [] LF:=by intro a s b H c d Q I r h;obtain⟨e,h⟩:=h;subst e;exact assignInOrder_nil ⟨b,H,I,h⟩
def yV(d:PG X e t)(f:PGs X es u)
  (hs:(assignEach (e::es) X.env).map (·.2)=assign e X.env::(assignEach es X.env).map (·.2):=by rfl):PGs X (e::es) (B7 t u):=by
 intro a s b H j l Q I r h;obtain⟨v,k,c,h⟩:=h;subst c;cases r with
 |cons r c =>
  rw[hs];refine assignInOrder_cons (Oj (d a s b H _ _ _ I r h) λ_ b g=>?_);obtain⟨e,i,h,d⟩:=g;exact f a b e i _ _ Q h c d
def LG(K:yac)(n:Nat)(t:TGs):TG:=λv c H Q=>∃a b,v=.ref a/\OT K H a b/\b.length=n/\t b c H Q
def Mj{n:Nat}(l:X.calm=true)(h:PGs X es t)
  (i:(assignEach es X.env).length=n:=by rfl) (m:(assignEach es X.env).findIdx? (·.1)=none:=by rfl):PG X (.Tuple es k pos) (LG X.K n t):=by
 intro c s f H v u Q I r d;obtain⟨a,g,a,e,j,d⟩:=d;subst a;cases r;obtain⟨Oe,a,b,p⟩:=I.tuple e;refine assign_Tuple_tuple (I.ok.hd l) b (by simp[i,<- j,a.length]) m λb i=>?_
 have j:Inv X c f H {s with heap:=b}:=I.kept (t':=s.toks) λb o e=>i b o (PY (OY e)) e
 exact h c _ f H g _ Q j (by simpa using a) d
def NX(i j:Nat)(b:TA):TS:=λD a H=>b a H λb c=>∃v w,b=[v,w]/\D.nx ((a.set i (some v)).set j (some w)) c
def Mq{i j:Nat}{x y:Str}{a b:Expr}{e:TA}{d c pt:Pos}{kt k2 YF}(z:X.calm=true)(m:X.N.Nodup)(u:X.N[i]?=some x)(t:X.N[j]?=some y)(A:i≠j)
  (l:X.env.scope.names.lookup x=some .local) (k:X.env.scope.names.lookup y=some .local) (f:PA X [a,b] e)
  (r:swappedStores [.Tuple [.Name x d,.Name y c] kt pt] (.Tuple [a,b] k2 YF) X.env=pure (some [x,y]))
  (hs:swapsWithSole [.Tuple [.Name x d,.Name y c] kt pt] (.Tuple [a,b] k2 YF) pos.line X.env=pure false:=by rfl) :
  PS X (.Assign [.Tuple [.Name x d,.Name y c] kt pt] (.Tuple [a,b] k2 YF) pos) (NX i j e):=by
 intro a s e H D I h;refine Oa (wpAny_standAt ?_);refine Oa (wpAny_pure ?_);refine Oa (Tuple_ (Oj (f _ a s e H _ I h) λi f c=>?_));obtain⟨B,h,o,n,g⟩:=c;obtain⟨v,w,c,g⟩:=g;subst c;obtain⟨d,c,rfl,j,s⟩:∃d c,i=[d,c]/\RelV v d/\RelV w c:=by
  cases n with
  |cons p q =>
   cases q with
   |cons n i =>
    cases i;exact⟨_,_,rfl,p,n⟩
 refine Ww ?_ (by show 2<=sizeLine;decide);have i:Inv X a e h {f with heap:=f.heap.push {cls:=.type "tuple", data:=.seq [d,c].toArray} }:=o.kept (t':=f.toks) λb o e=>Po _ e
 rw[r];refine Oa (wpAny_pure ?_);refine Oa (wpAny_rule (Oa (unpackItems_tuple (items:=#[d,c]) (I.ok.hd z) (IsTup.new f.heap _) λh' a=>?_)));have c:=i.kept (h':=h') (t':=f.toks) λb o e=>a b o (PY (OY e)) e
 refine Oa (assignInOrder_cons (wpAny_bindName (cN c m t (.inl k) s (λE a=>?_) (.inr k))));refine assignInOrder_cons (wpAny_bindName (cN a m u (.inl l) j (λC a=>assignInOrder_nil (wpAny_pure ?_)) (.inr l)));rw[List.set_comm _ _ (Ne.symm A)]at a;exact⟨_,h,a,g⟩
def NW(i:Nat)(te:TE)(b:TIp):TS:=λD a H=>∃x,a[i]?=some (some x)/\te a H λy c=>b x y c λz b=>D.nx (a.set i (some z)) b
def Mo{i:Nat}{x:Str}{e:Expr}{te:TE}{c:Operator}{b:TIp}{a:Pos}(q:X.N.Nodup)(g:X.N[i]?=some x)(d:Loc X.env.scope x)(p:PE X e te)(j:PIp X c b)(o:X.fn x=true∨X.env.scope.names.lookup x=some .local:=by first|exact .inl rfl|exact .inr rfl|assumption) :
  PS X (.AugAssign (.Name x a) c e pos) (NW i te b):=by
 intro a s f H D I h;obtain⟨v,t,h⟩:=h;obtain⟨m,m,n⟩:=I.loc;have b:VB X.env.scope x:=by rcases d with k|k;exact .inl k;exact .inr (.inl k)
 obtain⟨u,r,l⟩:=n i x v g t b;refine wpAny_AugAssign_Name ?_;have i:wpAny (model X.prog X.w) X.A (eval e X.env) (λw e=>wpAny (model X.prog X.w) X.A (inplaceOp c u w) (λr b=>wpAny (model X.prog X.w) X.A (storeName X.env x r) (λ_=>SP X a D .next) X.xe b) X.xe e) X.xe s:=by
  refine Oj (p a s f H _ I h) λw c b=>?_
  obtain⟨y,p,n,e,h⟩:=b;refine Oj (j a c f p v y u w _ n r e h) λz C b=>?_
  obtain⟨A,f,e,a,c⟩:=b;exact cN e q g d a (λB a=>⟨_,f,a,c⟩) o
 rcases l with⟨a,b⟩| ⟨a,c,c,e⟩;exact wpAny_loadName_local I.ok.kind a m b i;rcases a with a|a;exact wpAny_loadName_cell I.ok.kind a c e i;rcases d with k|k;have:X.env.scope.names.lookup x=some .free:=a
 lia
 have:X.env.scope.names.lookup x=some .free:=a
 lia
def ipI(f:Int->Int->Int):TIp:=λx y H Q=>∃i j,x=.int i/\y=.int j/\Q (.int (f i j)) H
def LR:PIp X .Add (ipI λi j=>i+j):=by intro a s f H x y v u Q I c b h;obtain⟨i,j,e,d,q⟩:=h;subst e;subst d;obtain⟨t,rfl⟩:=c;obtain⟨g,rfl⟩:=b;exact iadd_int ⟨.int _,H,I.tok _,⟨_,rfl⟩,q⟩
end
structure It where
 go:Nat->Hp->Prop
 yld:Nat->Hp->V->Hp->Prop
 stop:Nat->Hp->Prop
def dN(X:Cx)(a:yab)(H:Hp)(b:Addr):Prop :=
 H b=none/\b≠X.env.locals/\b∉X.fs/\(b∈X.ex∨X.OG.heap.objs.size<=b)/\(∀x c,X.env.cells.lookup x=some c->c≠b)/\∀p∈X.pn++a,p.1≠b
def Inv.VY{H':Hp}{b:Addr}(I:Inv X pins σ H s)(a:s.heap.objs.size<=b)(c:H' b=none):dN X pins H' b:=by refine⟨c,Ud (QZ I.lt a),I.nofs a,.inr (PL I.sz a),λx c e z=>?_,λp a z=>?_⟩;obtain⟨v,q⟩:=I.cell x c e;exact absurd (QZ q.lt (by simp_all)) (VR _);exact absurd (QZ (OY (I.pin p a).1) (by simp_all)) (VR _)
structure Turn(P:Program)(w:World)(K:yac)(tg:Expr)(J:It)(fp:yae)(it:Addr)(tn:Nat->Heap->Prop):Prop where
 mem:it∈fp
 obj:∀i h,tn i h->∀b∈fp,∃o,h.get? b=some o/\∀v,o.data ≠ .cell v
 keep:∀i h h',tn i h->(∀b∈fp,∀o,h.get? b=some o->h'.get? b=some o)->tn i h'
 item:∀(X:Cx),X.prog=P->X.w=w->X.K=K->X.calm=true->∀(i:Nat) (pins:yab) (s:Shared) (σ:St) (H:Hp) (E:yaa),Inv X pins σ H s->(∀b∈fp,dN X pins H b)->tn i s.heap->J.go i H →
  wpAny (model P w) X.A (pyNext (.ref it)) (λr s1=>∃u,r=some u ∧
   wpAny (model P w) X.A (letOwnedTupleGo tg (.ref it) u) (λ_ s2=>∃x H',Inv X pins σ H' s2/\RelV x u/\J.yld i H x H'/\tn (i+1) s2.heap/\∀b∈fp,H' b=none) E s1) E s
 done:∀(X:Cx),X.prog=P->X.w=w->X.K=K->X.calm=true->∀(i:Nat) (pins:yab) (s:Shared) (σ:St) (H:Hp) (E:yaa),Inv X pins σ H s->(∀b∈fp,dN X pins H b)->tn i s.heap->J.stop i H →
  wpAny (model P w) X.A (pyNext (.ref it)) (λr s1=>r=none/\Inv X pins σ H s1) E s
 self:∀(A:Around) (i:Nat) (s:Shared) (Q:yaa) (E:yaa),tn i s.heap->Q (.ref it) s->wpAny (model P w) A (pyIter (.ref it)) Q E s
abbrev TI:=St->Hp->(It->Hp->Prop)->Prop
def PIE(X:Cx)(a:yab)(f:St)(g:Expr)(R:It->Hp->Prop)(h:Value)(b:Shared):Prop :=
 ∃ (d:Addr) (e:yae) (tn:Nat->Heap->Prop) (J:It) (c:Hp),h=.ref d/\Inv X a f c b/\Turn X.prog X.w X.K g J e d tn/\tn 0 b.heap/\(∀b∈e,dN X a c b)/\R J c
def PI(X:Cx)(d b:Expr)(wi:TI):Prop :=
 ∀ (a:yab) (s:Shared) (c:St) (H:Hp) (R:It->Hp->Prop),Inv X a c H s->wi c H R →
  wpAny (model X.prog X.w) X.A (eval b X.env) (λv b=>wpAny (model X.prog X.w) X.A (pyIter v) (PIE X a c d R) X.xe b) X.xe s
def B9 {s : Shared} {o : Obj} {Q : Unit -> Shared -> Prop} (b : s.heap.get? it = some o) (e : o.cls = .type n) (d : o.data = .fields vs)
    (c : ["enumerate", "zip", "dict_itemiterator", "dict_reverseitemiterator", "odict_iterator", "itertools.zip_longest", "itertools.pairwise"].contains n = false) (a : Q () s) : wpAny M A (letOwnedTupleGo tg (.ref it) u) Q E s := by
  unfold letOwnedTupleGo;cases tg <;> first
    | exact wpAny_pure a
    | (cases u <;> first
        | exact wpAny_pure a
        | (refine Oa (wpAny_load b ?_)
           rw [e, d];show wpAny M A (if (["enumerate", "zip", "dict_itemiterator", "dict_reverseitemiterator", "odict_iterator", "itertools.zip_longest", "itertools.pairwise"].contains n && vs[0]? == some (rawInt _)) = true then _ else _) Q E s;rw [Oc (by intro h; rw [c, Bool.false_and] at h; cases h)];exact wpAny_pure a))
def Itl(K:yac)(a:Addr):It :=
 ⟨λi H=>∃b x,SqL K H a b/\b[i]?=some x,λi H x c=>c=H/\∀b,SqL K H a b->b[i]?=some x,λi H=>∃b,SqL K H a b/\b.length<=i⟩
def Itt(K:yac)(a:Addr):It :=
 ⟨λi H=>∃b x,OT K H a b/\b[i]?=some x,λi H x c=>c=H/\∀b,OT K H a b->b[i]?=some x,λi H=>∃b,OT K H a b/\b.length<=i⟩
def Fj{P:Program}{w:World}{K:yac}{b:Expr}(a f:Addr):Turn P w K b (Itl K a) [f] f (λi h=>h.IsListIter f a i) where
 mem:=by simp
 obj:=λi h st b g=>by
  have e:b=f:=by simpa using g
  subst e;obtain⟨o,e,c,d⟩:=st;exact⟨o,e,λv z=>by rw[d]at z;cases z⟩
 keep:=λi h l st k=>st.at λo e=>k f (by simp) o e
 item:=by
  intro X t q w J i a s G H E I k st r;subst t q w;obtain⟨M,x,j,n⟩:=r;obtain⟨T,m,p,O⟩:=I.list j;obtain⟨u,L,N⟩:=m.get n;obtain⟨C,B,Q,A,z,y⟩:=k f (by simp);refine wpAny_pyNext_list_item st p.isList (x:=u) (by simpa using L) λl L sb=>?_
  have U:Inv X a G H {s with heap:=l}:=I.turned (t':=s.toks) (λb o g e=>(sb.2 b g).trans e) C B A z y;obtain⟨o,e,c,d⟩:=id L;exact⟨u,rfl,B9 (s:={s with heap:=l}) e c d (by decide) ⟨x,H,U,N,⟨rfl,λY c=>by rw[I.Sj c j];exact n⟩,L,λb g=>(k b g).1⟩⟩
 done:=by intro X t q w J i a s G H E I k st r;subst t q w;obtain⟨M,j,n⟩:=r;obtain⟨T,m,p,O⟩:=I.list j;obtain⟨C,B,Q,A,z,y⟩:=k f (by simp);have hl:=m.length;exact wpAny_pyNext_list_end (I.ok.hd J) st p.isList (by simp;lia) λl a=>⟨rfl,I.turned (t':=s.toks) (λb o g e=>a b o g e) C B A z y⟩
 self:=λ_ _ _ _ _ st h=>wpAny_pyIter_listiter st h
def CU{P:Program}{w:World}{K:yac}{b:Expr}(a g:Addr):Turn P w K b (Itt K a) [g] g (λi h=>h.IsTupleIter g a i) where
 mem:=by simp
 obj:=λi h st b l=>by
  have e:b=g:=by simp_all
  obtain⟨o,e,c,d⟩:=st;grind
 keep:=λi h m st k=>st.at λo e=>k g (by simp) o e
 item:=by
  intro X w q y M i f s L H E I t st r;subst w q y;obtain⟨O,x,j,n⟩:=r;obtain⟨J,k,p,T⟩:=I.tuple j;obtain⟨u,hu,Q⟩:=k.get n;obtain⟨G,C,U,B,A,z⟩:=t g (by simp);refine wpAny_pyNext_tuple_item st (show s.heap.IsTuple a J.toArray from p) (x:=u) (by simp_all) λm N sb=>?_
  have Y:Inv X f L H {s with heap:=m}:=I.turned (t':=s.toks) (λb o l e=>(sb.2 b l).trans e) G C B A z;obtain⟨o,e,c,d⟩:=id N;exact⟨u,rfl,B9 (s:={s with heap:=m}) e c d (by decide) ⟨x,H,Y,Q,⟨rfl,λys c=>by rw[I.S6 c j];exact n⟩,N,by simp_all⟩⟩
 done:=by intro X w q y M i f s L H E I t st r;subst w q y;obtain⟨O,j,n⟩:=r;obtain⟨J,k,p,T⟩:=I.tuple j;obtain⟨G,C,U,B,A,z⟩:=t g (by simp);have hl:=k.length;exact wpAny_pyNext_tuple_end (I.ok.hd M) st (show s.heap.IsTuple a J.toArray from p) (by simp_all) λm a=>⟨rfl,I.turned (t':=s.toks) (λb o l e=>a b o l e) G C B A z⟩
 self:=λ_ _ _ _ _ st h=>wpAny_pyIter_tupleiter st h
section
variable{X:Cx}{tg:Expr}
def HY(K:yac)(tl:TE):TI:=λa H R=>tl a H λx b=>∃a,x=.ref a/\(∃c,SqL K b a c)/\R (Itl K a) b
def NH(K:yac)(tl:TE):TI:=λa H R=>tl a H λx b=>∃a,x=.ref a/\(∃c,OT K b a c)/\R (Itt K a) b
def A9{l:Expr}{tl:TE}(c:PE X l tl):PI X tg l (HY X.K tl):=by
 intro a s b H R I h;refine Oj (c a s b H _ I h) λv c a=>?_
 obtain⟨x,h,d,b,f⟩:=a;obtain⟨a,e,⟨i,g⟩,q⟩:=f;subst e;cases b;obtain⟨Oe,j,p,k⟩:=d.list g;refine wpAny_pyIter_list p.isList ?_;refine⟨c.heap.objs.size,[c.heap.objs.size],_,_,h,rfl,d.kept (t':=c.toks) λb o e=>Po _ e,Fj a _,⟨_,Rh _ rfl,rfl,rfl⟩,λb m=>?_,q⟩;have e:b=c.heap.objs.size:=by simp_all
 subst e;exact d.VY (O5 _) (d.OB.fresh (O5 _))
def Ml{l:Expr}{tl:TE}(c:PE X l tl):PI X tg l (NH X.K tl):=by
 intro a s b H R I h;refine Oj (c a s b H _ I h) λv c a=>?_
 obtain⟨x,h,d,b,f⟩:=a;obtain⟨a,e,⟨i,g⟩,q⟩:=f;subst e;cases b;obtain⟨b,j,p,k⟩:=d.tuple g;refine wpAny_pyIter_tuple (show c.heap.IsTuple a b.toArray from p) ?_;refine⟨c.heap.objs.size,[c.heap.objs.size],_,_,h,rfl,d.kept (t':=c.toks) λb o e=>Po _ e,CU a _,⟨_,Rh _ rfl,rfl,rfl⟩,λb m=>?_,q⟩;have e:b=c.heap.objs.size:=by simp_all
 subst e;exact d.VY (O5 _) (d.OB.fresh (O5 _))
def MF(wi:TI)(g:TG)(e:TS):TS:=λD a H=>wi a H λJ b=>∃W:Nat->Nat->St->Hp->Prop,(∃m,W 0 m a b)/\∀i m a H,W i m a H →
 (J.stop i H/\D.nx a H)∨(J.go i H/\∃N:St->Hp->Prop,(∀d b,N d b->∃c,c<m/\W (i+1) c d b)/\∀x b,J.yld i H x b->g x a b λa b=>e {D with nx:=N,ct:=N,bk:=D.nx} a b)
def oK(a:yae)(h:Heap):yab:=a.filterMap λb=>(h.get? b).map λo=>(b,o)
def fi{a:yae}{h:Heap}{b:Addr}{o:Obj}(c:b∈a)(e:h.get? b=some o):(b,o)∈oK a h:=zC0.mpr ⟨b,c,by rw[e];rfl⟩
def Et{p:Addr×Obj}(a:p∈oK fp h):p.1∈fp/\h.get? p.1=some p.2:=by
 obtain⟨b,c,e⟩:=zC0.mp a;cases q:h.get? b with
 |none=>grind
 |some o =>
  grind
def Inv.pinned{a:yae}(I:Inv X pins σ H s)(d:∀b∈a,dN X pins H b)(c:∀b∈a,∃o,s.heap.get? b=some o/\∀v,o.data ≠ .cell v):Inv X (pins++oK a s.heap) σ H s :=
 I.UY λp a=>(Qn.mp a).elim (λz=>I.pin p (Rw _ z)) λz=>by obtain⟨a,e⟩:=Et z;obtain⟨h,g,f,_⟩:=d p.1 a;obtain⟨o,b,d⟩:=c p.1 a;rw[e]at b;cases b;exact⟨e,h,g,f,d⟩
def Inv.PC{a b:yab}(I:Inv X (a++b) σ H s):Inv X a σ H s:=I.UY λp a=>I.pin p (Rw _ (Uj _ a))
def Mp(j:PassesOwn (model X.prog X.w) X.A X.env X.xe)(p:X.calm=true)(b:PI X tg iter wi)(y:PG X tg g)(c:YC X body tb)
  (hs:∀x,foldedSetIterable iter X.env x=pure x:=by intro _;rfl):PS X (.For tg iter body [] pos) (MF wi g tb):=by
 intro a s g H D I h;refine wpAny_For (Oj (b a s g H _ I h) λv E b=>Oj b λVd C b=>?_) hs;obtain⟨G,k,tn,J,u,e,t,T,s,o,W,⟨r,q⟩,f⟩:=b;subst e;have m:∀{d:Hp},(∀b∈k,d b=none)->∀b∈k,dN X a d b:=λh b c=>⟨h b c,(o b c).2⟩
 refine codeAny_forLoop_any (λn h=>∃i l d,Inv X a l d h/\tn i h.heap/\(∀b∈k,d b=none)/\W i n l d) ?_ r ⟨0,g,u,t,s,λb c=>(o b c).1,q⟩;rintro n o ⟨i,g,h,t,s,q,r⟩;rcases f i n g h r with⟨f,w⟩| ⟨A,N,z,step⟩;refine Vx j (Oj (T.done X rfl rfl rfl p i a o g h X.xe t (m q) s f) λr u ⟨f,B⟩=>?_);subst f;exact Xe ⟨g,h,B,w⟩
 ·refine Vx j (Oj (T.item X rfl rfl rfl p i a o g h X.xe t (m q) s A) λr u ⟨u,f,h⟩=>?_);subst f;refine Vx j (Oj h λ_ q h=>?_);obtain⟨x,r,w,t,s,p,f⟩:=h;have o:=w.pinned (m f) (T.obj _ _ p);refine Vx j (Oj (y _ q g r x u _ o t (step x r s)) λ_ f h=>?_);obtain⟨m,r,o,g⟩:=h;refine Vx j (Oj (c _ f m r _ o g) λf o j=>?_);have again:∀{g:St} {h:Hp},Inv X (a++oK k q.heap) g h o->N g h->∃m,m<n/\∃i l d,Inv X a l d o/\tn i o.heap/\(∀b∈k,d b=none)/\W i m l d:=fun {g h} a k=>by
   obtain⟨l,m,d⟩:=z g h k;refine⟨l,m,i+1,g,h,a.PC,T.keep _ _ _ p λb c o e=>(a.pin (b,o) (Rw _ (Rw _ (fi c e)))).1,λb c=>?_,d⟩;obtain⟨o,e,d⟩:=T.obj _ _ p b c;exact(a.pin (b,o) (Rw _ (Rw _ (fi c e)))).2.1
  cases f with
  |next=>obtain⟨g,h,a,k⟩:=j;exact again a k
  |cont=>obtain⟨g,h,a,k⟩:=j;exact again a k
  |brk=>obtain⟨g,h,a,j⟩:=j;exact⟨g,h,a.PC,j⟩
  |ret v=>obtain⟨b,g,h,a,c,j⟩:=j;exact⟨b,g,h,a.PC,c,j⟩
end
abbrev R2:=V->V->Hp->VK->Prop
def SQ(X:Cx)(f:Value->Value->Sem Value)(r:R2):Prop :=
 ∀ (a:yab) (s:Shared) (b:St) (H:Hp) (x y:V) (v u:Value) (Q:VK),Inv X a b H s->RelV x v->RelV y u->r x y H Q →
  wpAny (model X.prog X.w) X.A (f v u) (EP X a b Q) X.xe s
def UnR(X:Cx)(f:Value->Sem Value)(r:V->Hp->VK->Prop):Prop :=
 ∀ (a:yab) (s:Shared) (b:St) (H:Hp) (x:V) (v:Value) (Q:VK),Inv X a b H s->RelV x v->r x H Q →
  wpAny (model X.prog X.w) X.A (f v) (EP X a b Q) X.xe s
def pF(X:Cx)(f:Value)(r:yar->Hp->VK->Prop):Prop :=
 ∀ (a:yab) (s:Shared) (b:St) (H:Hp) (c:yar) (d:yad) (Q:VK),Inv X a b H s->Vals c d->r c H Q →
  wpAny (model X.prog X.w) X.A (call f d) (EP X a b Q) X.xe s
def tOp(r:R2)(c b:TE):TE:=λa H Q=>c a H λx c=>b a c λy a=>r x y a Q
def rI(C:Int->Int->Prop)(g:Int->Int->V):R2:=λx y H Q=>∃i j,x=.int i/\y=.int j/\C i j/\Q (g i j) H
def WE(g:Int->Int->V):R2:=λx y H Q=>∃i j,x=.int i/\y=.int j/\Q (g i j) H
def rU(g:Int->V):V->Hp->VK->Prop:=λx H Q=>∃i,x=.int i/\Q (g i) H
section
variable{X:Cx}{a b c:Expr}{ta tb tc:TE}{pos:Pos}
def NB(k:PE X a ta)(n:PE X b tb){d:yab}{s:Shared}{e:St}{H:Hp}{R:V->V->Hp->Prop}(I:Inv X d e H s)
  (h:ta e H λx j=>tb e j λy g=>R x y g) {Q:yaa} {f:Value->Value->Sem Value}
  (m:∀v u i x y g,Inv X d e g i->RelV x v->RelV y u->R x y g->wpAny (model X.prog X.w) X.A (f v u) Q X.xe i) :
  wpAny (model X.prog X.w) X.A (eval a X.env) (λv l=>wpAny (model X.prog X.w) X.A (eval b X.env) (λu o=>wpAny (model X.prog X.w) X.A (f v u) Q X.xe o) X.xe l) X.xe s:=by
 refine Oj (k d s e H _ I h) λv h f=>?_
 obtain⟨x,j,o,k,l⟩:=f;refine Oj (n d h e j _ o l) λu i f=>?_
 obtain⟨y,g,h,d,e⟩:=f;exact m v u i x y g h k d e
def opI{f:Value->Value->Sem Value}{C:Int->Int->Prop}{g:Int->Int->Int}
  (rule:∀(i j:Int) (t u:Tok) (s:Shared) (Q:yaa) (E:yaa),C i j->Q (.int (g i j) s.toks) {s with toks:=s.toks+1}->wpAny (model X.prog X.w) X.A (f (.int i t) (.int j u)) Q E s) :
  SQ X f (rI C λi j=>.int (g i j)):=by
 intro d s l H x y v u Q I e f h;obtain⟨i,j,rfl,rfl,k,q⟩:=h;obtain⟨t,rfl⟩:=e;obtain⟨e,rfl⟩:=f;exact rule i j t e s _ _ k ⟨.int (g i j),H,I.tok _,⟨_,rfl⟩,q⟩
def Mb{f:Value->Value->Sem Value}{g:Int->Int->Int}
  (rule:∀(i j:Int) (t u:Tok) (s:Shared) (Q:yaa) (E:yaa),Q (.int (g i j) s.toks) {s with toks:=s.toks+1}->wpAny (model X.prog X.w) X.A (f (.int i t) (.int j u)) Q E s) :
  SQ X f (WE λi j=>.int (g i j)):=by
 intro d s k H x y v u Q I e f h;obtain⟨i,j,rfl,rfl,q⟩:=h;obtain⟨t,rfl⟩:=e;obtain⟨e,rfl⟩:=f;exact rule i j t e s _ _ ⟨.int (g i j),H,I.tok _,⟨_,rfl⟩,q⟩
def Cw{f:Value->Value->Sem Value}{g:Int->Int->Bool}
  (rule:∀(i j:Int) (t u:Tok) (s:Shared) (Q:yaa) (E:yaa),Q (.bool (g i j)) s->wpAny (model X.prog X.w) X.A (f (.int i t) (.int j u)) Q E s) :
  SQ X f (WE λi j=>.bl (g i j)):=by
 intro d s k H x y v u Q I e f h;obtain⟨i,j,rfl,rfl,q⟩:=h;obtain⟨t,rfl⟩:=e;obtain⟨e,rfl⟩:=f;exact rule i j t e s _ _ ⟨.bl (g i j),H,I,rfl,q⟩
def FA(i j:Int):Prop:=0<=j/\j<=1000000/\i.natAbs<2 ^ 64
def Mc:SQ X (binaryOp .Add) (WE λi j=>.int (i+j)):=Mb λ_ _ _ _ _ _ _ q=>add_int q
def Mf:SQ X (binaryOp .Sub) (WE λi j=>.int (i - j)):=Mb λ_ _ _ _ _ _ _ q=>sub_int q
def JJ:SQ X (binaryOp .Mod) (rI (λ_ j=>j≠0) λi j=>.int (i.fmod j)):=opI λ_ _ _ _ _ _ _ d q=>mod_int' d q
def Me:SQ X (binaryOp .Pow) (rI FA λi j=>.int (i ^ j.toNat)):=opI λ_ _ _ _ _ _ _ d q=>pow_int_small d.1 d.2.1 d.2.2 q
def unI{f:Value->Sem Value}{g:Int->Int}
  (rule:∀(i:Int) (t:Tok) (s:Shared) (Q:yaa) (E:yaa),Q (.int (g i) s.toks) {s with toks:=s.toks+1}->wpAny (model X.prog X.w) X.A (f (.int i t)) Q E s) :
  UnR X f (rU λi=>.int (g i)):=by
 intro d s j H x v Q I e h;obtain⟨i,rfl,q⟩:=h;obtain⟨t,rfl⟩:=e;exact rule i t s _ _ ⟨.int (g i),H,I.tok _,⟨_,rfl⟩,q⟩
def MJ:UnR X (unaryOp .USub) (rU λi=>.int (-i)):=unI λ_ _ _ _ _ q=>neg_int q
end
def uR:V->V->Bool
 |.ON,.ON=>true|.ON,.int _=>true|.int _,.ON=>true|.ON,.bl _=>true|.bl _,.ON=>true|.ON,.str _=>true|.str _,.ON=>true
 |.int _,.int _=>true|.bl _,.bl _=>true|.str _,.str _=>true|.VW _,.VW _=>true
 |.int _,.str _=>true|.str _,.int _=>true|.bl _,.str _=>true|.str _,.bl _=>true
 |_,_=>false
def rEq:R2:=λx y H Q=>uR x y=true/\Q (.bl (decide (x=y))) H
def rNe:R2:=λx y H Q=>uR x y=true/\Q (.bl (!decide (x=y))) H
def AD:decide (V.int i=V.int j)=(i==j):=by rw[ZA];simp
def DR:decide (V.bl i=V.bl j)=(i==j):=by rw[ZA];simp
def AE:decide (V.str i=V.str j)=(i==j):=by rw[ZA];simp
def AB:decide (V.VW i=V.VW j)=(i.toList==j.toList):=by
 rw[ZA]
 simp_all
section
variable{X:Cx}{a b c:Expr}{ta tb tc:TE}{pos:Pos}
def aV{Q:VK}{d:Bool}(I:Inv X pins σ H s)(q:Q (.bl k) H)(e:k=d):EP X pins σ Q (.bool d) s:=by subst e;exact⟨.bl k,H,I,rfl,q⟩
def Nb:SQ X (compareOp .Eq) rEq:=by
 intro k s l H x y v u Q I g d h;obtain⟨f,q⟩:=h;cases x with
 |ON =>
  cases g;cases y with
  |ON=>cases d;exact PySem.EqNone.eq_none_none (aV I q (by simp))
  |bl j=>cases d;exact PySem.EqNone.eq_none_bool (aV I q (by simp))
  |int j=>obtain⟨e,rfl⟩:=d;exact PySem.EqNone.eq_none_int (aV I q (by simp))
  |str j=>obtain⟨e,rfl⟩:=d;exact PySem.EqNone.eq_none_str (aV I q (by simp))
  |_=>exact absurd (show false=true from f) UQ
 |bl i =>
  cases g;cases y with
  |ON=>cases d;exact PySem.EqNone.eq_bool_none (aV I q (by simp))
  |bl j=>cases d;exact eq_bool (aV I q DR)
  |str j=>obtain⟨e,rfl⟩:=d;exact PySem.EqMixed.eq_bool_str (aV I q (by simp))
  |_=>exact absurd (show false=true from f) UQ
 |int i =>
  obtain⟨t,rfl⟩:=g;cases y with
  |ON=>cases d;exact PySem.EqNone.eq_int_none (aV I q (by simp))
  |int j=>obtain⟨e,rfl⟩:=d;exact eq_int (aV I q AD)
  |str j=>obtain⟨e,rfl⟩:=d;exact PySem.EqMixed.eq_int_str (aV I q (by simp))
  |_=>exact absurd (show false=true from f) UQ
 |str i =>
  obtain⟨t,rfl⟩:=g;cases y with
  |ON=>cases d;exact PySem.EqNone.eq_str_none (aV I q (by simp))
  |bl j=>cases d;exact PySem.EqMixed.eq_str_bool (aV I q (by simp))
  |int j=>obtain⟨e,rfl⟩:=d;exact PySem.EqMixed.eq_str_int (aV I q (by simp))
  |str j=>obtain⟨e,rfl⟩:=d;exact eq_str (aV I q AE)
  |_=>exact absurd (show false=true from f) UQ
 |VW i =>
  obtain⟨t,rfl⟩:=g;cases y with
  |VW j=>obtain⟨e,rfl⟩:=d;exact PySem.W.eq_bytes (aV I q AB)
  |_=>exact absurd (show false=true from f) UQ
 |_=>cases y<;>exact absurd (show false=true from f) UQ
def Nh:SQ X (compareOp .NotEq) rNe:=by
 intro k s l H x y v u Q I g d h;obtain⟨f,q⟩:=h;cases x with
 |ON =>
  cases g;cases y with
  |ON=>cases d;exact PySem.EqNone.ne_none_none (aV I q (by simp))
  |bl j=>cases d;exact PySem.EqNone.ne_none_bool (aV I q (by simp))
  |int j=>obtain⟨e,rfl⟩:=d;exact PySem.EqNone.ne_none_int (aV I q (by simp))
  |str j=>obtain⟨e,rfl⟩:=d;exact PySem.EqNone.ne_none_str (aV I q (by simp))
  |_=>exact absurd (show false=true from f) UQ
 |bl i =>
  cases g;cases y with
  |ON=>cases d;exact PySem.EqNone.ne_bool_none (aV I q (by simp))
  |bl j=>cases d;exact ne_bool (aV I q (congrArg not DR))
  |str j=>obtain⟨e,rfl⟩:=d;exact PySem.EqMixed.ne_bool_str (aV I q (by simp))
  |_=>exact absurd (show false=true from f) UQ
 |int i =>
  obtain⟨t,rfl⟩:=g;cases y with
  |ON=>cases d;exact PySem.EqNone.ne_int_none (aV I q (by simp))
  |int j=>obtain⟨e,rfl⟩:=d;exact ne_int (aV I q (congrArg not AD))
  |str j=>obtain⟨e,rfl⟩:=d;exact PySem.EqMixed.ne_int_str (aV I q (by simp))
  |_=>exact absurd (show false=true from f) UQ
 |str i =>
  obtain⟨t,rfl⟩:=g;cases y with
  |ON=>cases d;exact PySem.EqNone.ne_str_none (aV I q (by simp))
  |bl j=>cases d;exact PySem.EqMixed.ne_str_bool (aV I q (by simp))
  |int j=>obtain⟨e,rfl⟩:=d;exact PySem.EqMixed.ne_str_int (aV I q (by simp))
  |str j=>obtain⟨e,rfl⟩:=d;exact ne_str (aV I q (congrArg not AE))
  |_=>exact absurd (show false=true from f) UQ
 |VW i =>
  obtain⟨t,rfl⟩:=g;cases y with
  |VW j=>obtain⟨e,rfl⟩:=d;exact PySem.W.ne_bytes (aV I q (congrArg not AB))
  |_=>exact absurd (show false=true from f) UQ
 |_=>cases y<;>exact absurd (show false=true from f) UQ
def Ng:SQ X (compareOp .Lt) (WE λi j=>.bl (decide (i<j))):=Cw λ_ _ _ _ _ _ _ q=>lt_int q
def Nf:SQ X (compareOp .LtE) (WE λi j=>.bl (decide (i<=j))):=Cw λ_ _ _ _ _ _ _ q=>le_int q
def Nd:SQ X (compareOp .Gt) (WE λi j=>.bl (decide (j<i))):=Cw λ_ _ _ _ _ _ _ q=>gt_int q
def Nc:SQ X (compareOp .GtE) (WE λi j=>.bl (decide (j<=i))):=Cw λ_ _ _ _ _ _ _ q=>ge_int q
def Md:SQ X (compareOp .Is) (λx y H Q=>y=.ON/\Q (.bl (decide (x=.ON))) H):=by
 intro d s g H x y v u Q I f e h;obtain⟨rfl,q⟩:=h;cases e;refine is_none_gen (aV I q ?_);cases x<;>first
  |(rfl)
  |(obtain⟨t,rfl⟩:=f;rfl)
def JL:SQ X (compareOp .IsNot) (λx y H Q=>y=.ON/\Q (.bl (!decide (x=.ON))) H):=by
 intro d s g H x y v u Q I f e h;obtain⟨rfl,q⟩:=h;cases e;refine isnot_none_gen (aV I q ?_);cases x<;>first
  |(rfl)
  |(obtain⟨t,rfl⟩:=f;rfl)
def yE:(sizeLine:Nat)<2 ^ 63:=by decide
def vals1{x:V}(r:Vals [x] us):∃u,us=[u]/\RelV x u:=by
 cases r with
 |cons e d=>cases d;simp_all
def vals2{x y:V}(r:Vals [x,y] us):∃u d,us=[u,d]/\RelV x u/\RelV y d:=by
 cases r with
 |cons f d =>
  cases d with
  |cons e d=>cases d;exact⟨_,_,rfl,f,e⟩
def F2:pF X (.builtin "abs") (λxs H Q=>∃i,xs=[.int i]/\Q (.int (if i<0 then -i else i)) H):=by intro d s e H xs f Q I r h;obtain⟨i,rfl,q⟩:=h;obtain⟨u,rfl,t,rfl⟩:=vals1 r;exact call_abs_int λu g=>⟨.int (if i<0 then -i else i),H,I.tok _,⟨_,rfl⟩,q⟩
def Dr (d:X.calm=true):pF X (.builtin "max") (λxs H Q=>∃i j,xs=[.int i,.int j]/\Q (.int (if j > i then j else i)) H):=by
 intro e s f H xs l Q I r h;obtain⟨i,j,rfl,q⟩:=h;obtain⟨u,g,rfl,⟨t,rfl⟩,⟨n,rfl⟩⟩:=vals2 r;refine max_two_ints (I.ok.hd d) λo m k=>⟨_,H,I.kept k,?_,q⟩
 by_cases d:j > i;rw[Og d,Og d];exact⟨_,rfl⟩;rw[Oc d,Oc d];exact⟨_,rfl⟩
end
structure FK(h:Heap)(x dx C:Addr)(mA:yam):Prop where
 obj:h.get? x=some (PySem.W.instObj C dx)
 ns:h.Ns1 dx mA
 ne:dx≠x
set_option tactic.hygienic true in
def Ei{h:Heap}(n:h.Ns1 dx mA):∃a,h.get? dx=some a/\∀name,PySem.W.lookIn name a=some (mA name):=by
 obtain⟨o,f,i,a,d,c,_,b⟩:=n;refine⟨o,a,λname=>?_⟩;have e:=b name;unfold nsFind findBy at e;rw[<- Array.find?_toList]at e;unfold PySem.W.lookIn;rw[d];dsimp only;split;grind;have a:f.toList.any (·.refKey)=false:=by rw[List.any_eq_false];intro y g;obtain⟨z,t,a⟩:=c y (by grind);simp[DictEntry.refKey,a]
 grind
def FK.look(I:FK h x dx C mA):∃a,PySem.W.InstAt h x (PySem.W.instObj C dx) C (some a)/\∀name,PySem.W.lookIn name a=some (mA name) :=
 let ⟨a,ho,hl⟩:=Ei I.ns
 ⟨a,⟨I.obj,rfl,rfl,ho⟩,hl⟩
def ja.some_of{v:V}(r:ja (some v) o):∃u,o=some u/\RelV v u:=by
 cases o with
 |none=>exact(show False from r).elim
 |some u=>exact⟨u,rfl,r⟩
structure Pg(K:yac)(C:Addr):Prop where
 pg:PySem.W.plainGet K C Str.empty=true
 hd:PySem.W.hasDictIn K C=true
 po:PySem.W.plainOver K C=true
 sa:PySem.W.findIn K (.ref C) "__setattr__" = some (some (.builtin "object.__setattr__"))
structure Con(K:yac)(C:Addr)(f:Str)(v:V)(u:Value):Prop where
 at_:PySem.W.findIn K (.ref C) f=some (some u)
 rel:RelV v u
 get:PySem.W.specialIn K u "__get__" = some none
 cp:PySem.W.copiedNames.contains f=false
structure Meth(K:yac)(C:Addr)(m:Str)(f:Addr):Prop where
 at_:PySem.W.findIn K (.ref C) m=some (some (.ref f))
 fn:PySem.W.isFn K (.ref f)=true
 kp:PySem.W.keepIn K (.ref f)=true
section
variable{X:Cx}{pins:yab}{σ:St}{H:Hp}{s:Shared}{A:Around}{E:yaa}{Q:yaa}{c:Value}{b:Bool}
inductive j4 (K:yac) (H:Hp):V->Value->Prop where
 |ON:j4 K H .ON (.type "NoneType")
 |bl (x:Bool):j4 K H (.bl x) (.type "bool")
 |int (i:Int):j4 K H (.int i) (.type "int")
 |str (x:Str):j4 K H (.str x) (.type "str")
 |flt (x:UInt64):j4 K H (.flt x) (.type "float")
 |lst {a:Addr} {xs:yar} (e:H a=some (.lst xs)):j4 K H (.ref a) (.type "list")
 |frz {a:Addr} {o:Obj} {xs:yar} (e:H a=some (.frz o (.lst xs))):j4 K H (.ref a) (.type "list")
 |tup {a:Addr} {xs:yar} (e:H a=some (.tup xs)):j4 K H (.ref a) (.type "tuple")
 |dK {a:Addr} {kvs:List (Key×V)} (e:H a=some (.dK kvs)):j4 K H (.ref a) (.type "dict")
 |dT {a:Addr} {kvs:List (List Key×V)} (e:H a=some (.dT kvs)):j4 K H (.ref a) (.type "dict")
 |ins {a C dx:Addr} {fs:List (Str×V)} (e:H a=some (.ins C dx fs)) (cl:Pg K C) (ha:PySem.W.findIn K (.ref C) "__class__" = some (some (.builtin "object.__class__")))
   (hn:PySem.W.specialIn K (.builtin "object.__class__") "__get__" = some (some (.builtin "getset_descriptor.__get__"))) (htk:PySem.W.takesIn K (.builtin "object.__class__")=some true)
   (hm:PySem.W.mroIn K C (.type "object")=some true):j4 K H (.ref a) (.ref C)
end
structure bM(k:Nat)(A:Around):Prop where
 hd:A.handled=none
 dp:A.depth+3*k+5<recursionLimit
 un:A.units+16*k+200<cLine
def bM.mono{j:Nat}(r:bM k A)(h:j<=k):bM j A:=⟨r.hd,by have:=r.dp;lia,by have:=r.un;lia⟩
theorem bM.deeper{k:Nat}(r:bM (k+1) A)(env:Env):bM k (A.deeper env) :=
 ⟨r.hd,by have:=r.dp;show A.depth+1+3*k+5<_;lia,by have:=r.un;show A.units+3+16*k+200<_;lia⟩
theorem bM.depth(r:bM k A):A.depth<recursionLimit:=by have:=r.dp;lia
theorem bM.units(r:bM k A):A.units+64<cLine:=by have:=r.un;lia
def CT:TA:=λ_ H Q=>Q [] H
def p5(c:TE)(b:TA):TA:=λa H Q=>c a H λx c=>b a c λa b=>Q (x::a) b
section
variable{X:Cx}{e:Expr}{es:yai}{te:TE}{t:TA}{pos:Pos}
def lW:PA X [] CT:=λ_ _ _ _ H Q I h=>Calls.spliced_nil ⟨[],H,I,.nil,h⟩
def gw(c:PE X e te)(g:PA X es t)(hs:starEach (e::es) X.env=(false,eval e X.env)::starEach es X.env:=by rfl):PA X (e::es) (p5 te t):=by intro pos a s b H Q I h;rw[hs];refine Calls.spliced_cons (Oj (c a s b H _ I h) λu c h=>?_);obtain⟨x,j,i,d,f⟩:=h;exact Oj (g pos a c b j _ i f) λk l f=>(by obtain⟨a,h,g,b,c⟩:=f;exact⟨x::a,h,g,.cons d b,c⟩)
end
abbrev Sp:=yar->Hp->VK->XK->Prop
abbrev CXT:=List Env->Hp->Shared->XK->yaa
structure BE(P:Program)(w:World)(K:yac)(mg:yam)(base:Heap)(A:Around)(outer:List Env)(s:Shared)(H:Hp):Prop where
 frames:A.frames=some outer
 mod:Mod K mg base
 bs:∀b o,base.get? b=some o->s.heap.get? b=some o/\H b=none
 X4:base.objs.size<=s.heap.objs.size
 RI:s.heap.FunFrames base outer
 X5:∀b∈SH outer,H b=none
 OB:Q0 P w H s.heap
 bare:AllBare s.gens
def CE(outer:List Env)(P:Program)(w:World)(H:Hp)(s:Shared)(Q:VK)(u:Value)(a:Shared):Prop :=
 ∃ v b,a.os=s.os/\AllBare a.gens/\Un (SH outer) [] H b s.heap a.heap/\Q0 P w b a.heap/\RelV v u/\Q v b
def CR(CX:CXT)(outer:List Env)(P:Program)(w:World)(H:Hp)(s:Shared)(Q:VK)(E:XK)(r:Result)(a:Shared):Prop :=
 match r with
 |.ok (.ret u)=>CE outer P w H s Q u a
 |.ok _=>False
 |.error e=>CX outer H s E e a
structure aF(P:Program)(w:World)(K:yac)(mg:yam)(base:Heap)(CX:CXT)(k:Nat)(f:Addr)(fd:FuncData)(ps:yah)(sp:Sp):Prop where
 len:∀vs H Q E,sp vs H Q E->vs.length=ps.length
 run:∀(A:Around) (outer:List Env) (s:Shared) (H:Hp) (args:Args) (us:yad) (vs:yar) (Q:VK) (E:XK),bM k A->BE P w K mg base A outer s H->BindsTo s fd args (ps.zip us)->Vals vs us->sp vs H Q E →
  codeAny (model P w) A (.call (.ref f) args) (CR CX outer P w H s Q E) s
section
variable{X:Cx}{pins:yab}{σ:St}{H:Hp}{s s':Shared}
def Inv.env0(I:Inv X pins σ H s):BE X.prog X.w X.K X.mg X.base X.A X.stack s H :=
 ⟨I.ok.frames,I.ok.mod,I.bs,PL I.ok.X4 I.sz,I.stack,I.Tf,I.OB,I.bare⟩
def Inv.after(I:Inv X pins σ H s)(h:CE X.stack X.prog X.w H s Q u s'):EP X pins σ Q u s':=by obtain⟨v,f,os,a,un,e,r,q⟩:=h;obtain⟨c,g,d,t,b⟩:=s';obtain rfl:b=s.os:=os;exact⟨v,f,I.call (h':=c) (g':=g) (d':=d) (t':=t) (ch:=[]) un e a (λb z=>by simp_all),r,q⟩
end
def Binds(K:yac)(b:FuncData)(ps:yah)(ds:yad):Prop :=
 ∀ (s:Shared) (a:yad),K.In s.heap->(a++ds).length=ps.length->BindsTo s b ⟨a,[]⟩ (ps.zip (a++ds))
def Binds.all{K:yac}{b:FuncData}{ps:yah}(h:∀a:yad,a.length=ps.length->bindArgs b ⟨a,[]⟩=pure (ps.zip a)):Binds K b ps []:=λs a _ b=>by rw[U8]at b ⊢;exact .of_eq (h a b)
def Passes(CX:CXT)(X:Cx)(E:XK):Prop:=∀(a:yab) (c:St) (H:Hp) (s:Shared) (e:Value) (b:Shared),Inv X a c H s->CX X.stack H s E e b->X.xe e b
section
variable{X:Cx}{CX:CXT}{k:Nat}{f C:Addr}{fd:FuncData}{ps:yah}{sp:Sp}{dvs:yar}{ds:yad}{E:XK}{x m:Str}{p pos apos:Pos}{e o:Expr}{es:yai}{ta:TE}{t:TA}
def EY(F:aF X.prog X.w X.K X.mg X.base CX k f fd ps sp)(b:bM k X.A)(g:Binds X.K fd ps ds)(d:Vals dvs ds)(c:Passes CX X E)
  (I:Inv X pins σ H s) (r:Vals vs us) (h:sp (vs++dvs) H Q E):wpAny (model X.prog X.w) X.A (call (.ref f) us) (EP X pins σ Q) X.xe s:=by
 have a:Vals (vs++dvs) (us++ds):=r.append d;have d:(us++ds).length=ps.length:=by rw[<- a.length];exact F.len _ _ _ _ h
 refine wpAny_call (codeAny_mono (F.run X.A X.stack s H ⟨us,[]⟩ (us++ds) (vs++dvs) Q E b I.env0 (g s us I.SJ d) a h) λr b a=>?_);cases r with
 |error e=>exact c pins σ H s e b I a
 |ok b =>
  cases b with
  |ret u=>exact I.after a
  |next=>exact False.elim a
  |brk=>exact False.elim a
  |cont=>exact False.elim a
structure Mk(K:yac)(C f:Addr):Prop where
 makes:PySem.W.makesIn K C=true
 init:PySem.W.findIn K (.ref C) "__init__" = some (some (.ref f))
 fn:PySem.W.isFn K (.ref f)=true
 kp:PySem.W.keepIn K (.ref C)=true
end
section
variable{X:Cx}{CX:CXT}{k:Nat}{f C:Addr}{fd:FuncData}{ps ks:yah}{sp:Sp}{E:XK}{x m:Str}{p pos apos kpos:Pos}{e o:Expr}{es:yai}{kws:List Keyword}{te ta:TE}{t tk:TA}{nm:Option Str}
structure N1(K:yac)(fd:FuncData)(ps ks:yah)(g:yad->yad->yad)(gV:yar->yar->yar):Prop where
 to:∀(s:Shared) (us ws:yad),K.In s.heap->(g us ws).length=ps.length->BindsTo s fd ⟨us,ks.zip ws⟩ (ps.zip (g us ws))
 rel:∀{vs:yar} {us:yad} {zs:yar} {ws:yad},Vals vs us->Vals zs ws->Vals (gV vs zs) (g us ws)
variable{g:yad->yad->yad}{gV:yar->yar->yar}
end
structure ay(N P:yah)(sc:Scope):Prop where
 kind:sc.kind=.function
 co:sc.isCoroutine=false
 gen:sc.isGenerator=false
 nd:N.Nodup
 pre:N.take P.length=P
 par:∀x∈P,sc.names.lookup x=some .local∨sc.names.lookup x=some .cell
 YH:∀y∈sc.names,y.2 ≠ .free
theorem vq{kindOf:Str->Option NameKind}{x:Str}:∀{a:List (Str×Value)} {m:yam},(∀v,(x,v)∉a)->bindL kindOf a m x=m x
 |[],_,_=>rfl
 |(n,v)::r,m,h=>by
  unfold bindL;rw[vq (by grind)];split
  all_goals grind
theorem vo{kindOf:Str->Option NameKind}{x:Str}:∀{a:List (Str×Value)} {m:yam},(∀v,(x,v)∉a)->bindC kindOf a m x=m x
 |[],_,_=>rfl
 |(n,v)::r,m,h=>by
  unfold bindC;rw[vo (by grind)];split
  all_goals grind
theorem vp{kindOf:Str->Option NameKind}{x:Str}{v:Value}:∀{P:yah} {vs:yad} {i:Nat} {m:yam},P.Nodup->P[i]?=some x->vs[i]?=some v->kindOf x=some .local →
  bindL kindOf (P.zip vs) m x=some v
 |[],_,_,_,_,h,_,_=>by simp at h
 |_::_,[],_,_,_,_,h,_=>by simp at h
 |p::P,w::vs,0,m,d,c,b,a=>by simp at c b;subst c;subst b;show bindL kindOf ((p,w)::P.zip vs) m p=_;unfold bindL;rw[vq λv e=>(Vw.mp d).1 (Xc e).1,Og a];simp
 |p::P,w::vs,i+1,m,d,c,b,a=>by unfold bindL;exact vp (i:=i) (by grind) (by simp_all) (by simp_all) a
theorem vn{kindOf:Str->Option NameKind}{x:Str}{v:Value}:∀{P:yah} {vs:yad} {i:Nat} {m:yam},P.Nodup->P[i]?=some x->vs[i]?=some v->kindOf x≠some .local →
  bindC kindOf (P.zip vs) m x=some v
 |[],_,_,_,_,h,_,_=>by simp at h
 |_::_,[],_,_,_,_,h,_=>by simp at h
 |p::P,w::vs,0,m,d,c,b,a=>by simp at c b;subst c;subst b;show bindC kindOf ((p,w)::P.zip vs) m p=_;unfold bindC;rw[vo λv e=>(Vw.mp d).1 (Xc e).1,Oc a];simp
 |p::P,w::vs,i+1,m,d,c,b,a=>by unfold bindC;exact vn (i:=i) (by grind) (by simp_all) (by simp_all) a
noncomputable def start(N:yah)(vs:yar):St:=vs.map some++List.replicate (N.length - vs.length) none
noncomputable def c6(CX:CXT)(P:Program)(w:World)(K:yac)(mg:yam)(base:Heap)(N:yah)(b:Str)(a:Scope)(f:Addr)(c:Value)(A:Around)(outer:List Env)(s:Shared)(H:Hp)(E:XK):Cx where
 prog:=P
 w:=w
 K:=K
 mg:=mg
 base:=base
 A:=A.deeper (envOfC b a s.heap.objs.size f c)
 N:=N
 OG:=s
 OR:=H
 env:=envOfC b a s.heap.objs.size f c
 outer:=outer
 stack:=envOfC b a s.heap.objs.size f c::outer
 ex:=[]
 calm:=true
 fn:=λ_=>true
 pn:=[]
 xe:=λe d=>wpAny (model P w) (A.deeper (envOfC b a s.heap.objs.size f c)) (leaving (envOfC b a s.heap.objs.size f c) e) (λ_ a=>CX outer H s E e a) (λb a=>CX outer H s E b a) d
def xq{a:Scope}(h:a.names.lookup x=some .cell):∃c,(cellsFrom n a.names []).lookup x=some c:=by have q:=PySem.W.cellsFrom_some a.names n [] (.inl h);exact Option.isSome_iff_exists.mp q
def D8{CX:CXT}{P:Program}{w:World}{K:yac}{h:yam}{base:Heap}{N ps:yah}{c:Str}{a:Scope}{f:Addr}{g:Value}{A:Around}{outer:List Env}{s e:Shared}{H:Hp}{E:XK}{b:yad}{vs:yar}
  (S:ay N ps a) (i:A.handled=none) (d:BE P w K h base A outer s H) (o:vs.length=ps.length) (r:Vals vs b)
  (x:InCallC s s.heap.objs.size (bindL (envOfC c a s.heap.objs.size f g).kindOf (ps.zip b) λ_=>none) (cellsFrom (s.heap.objs.size+1) a.names []) (bindC (envOfC c a s.heap.objs.size f g).kindOf (ps.zip b) λ_=>none) e) :
  Inv (c6 CX P w K h base N c a f g A outer s H E) [] (start N vs) H e:=by
 have PH:ps.length<=N.length:=by have:=congrArg List.length S.pre;grind
 obtain⟨k,m,rfl,l⟩:=x.done;have e:∀b:Addr,b∉(c6 CX P w K h base N c a f g A outer s H E).ex:=λb z=>absurd (show b∈([]:yae)from z) (by simp)
 refine⟨⟨d.mod,S.kind,rfl,rfl,O5 _,λy z c k j=>?_,λy f=>?_,λy c _ h=>?_,λ_=>i,Around.frames_deeper d.frames,.inr ⟨rfl,rfl⟩,λb z=>absurd z (e b),d.bs,d.X4,λb _ _=>e b,by simp_all,d.RI,d.X5⟩,
  rfl,d.bare,Un.kept l,⟨_,x.toInCall.ns,λi y v k j t=>?_⟩,λy c h=>⟨_,x.cell y c h⟩,d.OB.fresh (O5 _),λy c h=>?_,λp g=>absurd (show p∈([]:yab)from g) (by simp),d.OB.kept l,?_⟩
 exact name_of_addr x.apart (PySem.mem_of_lookup k) (PySem.mem_of_lookup j);rcases f with f|f;exact xq f;exact absurd rfl (S.YH _ (PySem.mem_of_lookup f));exact UU (x.above y c (PySem.mem_of_lookup h))
 ·have b:i<vs.length:=by
   unfold start at j;by_cases b:i<vs.length
   all_goals simp_all [Vp,zCu]
  have b:vs[i]?=some v:=by
   unfold start at j
   simp_all [UO,PO]
  obtain⟨u,f,e⟩:=r.get b;have g:ps[i]?=some y:=by rw[<- S.pre,List.getElem?_take_of_lt (by lia)];exact k
  have b:ps.Nodup:=by rw[<- S.pre];exact S.nd.sublist (List.take_sublist _ _)
  refine⟨u,e,?_⟩;rcases S.par y (Ql g)with k|k;exact .inl ⟨k,vp b g f k⟩;obtain⟨c,e⟩:=xq (n:=s.heap.objs.size+1) k;refine .inr ⟨.inl k,c,e,?_⟩;have q:=x.cell y c e;rw[vn b g f (by show a.names.lookup y≠_;rw[k];decide)]at q;exact q
 exact d.OB.fresh (UU (x.above y c (PySem.mem_of_lookup h)));unfold start;show _=N.length;grind
def HW{CX:CXT}{P:Program}{w:World}{K:yac}{i:yam}{base:Heap}{k:Nat}{f:Addr}{name c:Str}{b:Arguments}{d:yal}{a:Scope}{l kV h j g m q:Value}{n o:Option Addr}
  {r:Array (yan)} {N ps:yah} {sp:Sp} (lk:K.lookup f=some ⟨q,o,.func (PySem.W.fnOf name c b d a l kV h j n g m),r⟩) (C:PySem.W.codeIn K g c=true) (S:ay N ps a)
  (e:∀vs H Q E,sp vs H Q E->vs.length=ps.length)
  (B:∀(A:Around) (outer:List Env) (s:Shared) (H:Hp) (vs:yar) (Q:VK) (E:XK),bM k (A.deeper (envOfC c a s.heap.objs.size f g))->sp vs H Q E →
   ∃ t,YC (c6 CX P w K i base N c a f g A outer s H E) d t/\t {nx:=λ_ H'=>Q .ON H',rt:=Q} (start N vs) H) :
  aF P w K i base CX (k+1) f (PySem.W.fnOf name c b d a l kV h j n g m) ps sp:=by
 refine⟨e,λA outer s H p m vs Q E j d x r k=>?_⟩;have u:=e _ _ _ _ k;have l:K.In s.heap:=d.mod.X3.keeps λb o e=>(d.bs b o e).1
 have h:s.heap.NoLimit:=d.mod.nolimit.keeps λb o e=>(d.bs b o e).1
 have b:∀y∈ps.zip m,a.names.lookup y.1=some .local∨(a.names.lookup y.1=some .cell/\((cellsFrom (s.heap.objs.size+1) a.names []).lookup y.1).isSome=true):=λ⟨n,v⟩ m=>by
  rcases S.par n (Xc m).1 with q|q;exact .inl q
  simp_all [PySem.W.cellsFrom_some]
 refine codeAny_call_function j.depth (l _ _ lk) rfl S.co S.gen rfl (PySem.W.codeRec_of l C) (x _ _ _ _ ?_);refine wpAny_newFunctionEnv_cells S.kind b λz l b x=>?_
 subst l;refine⟨h.keeps x.toInCall.keep,codeAny_func ?_⟩;obtain⟨t,h,l⟩:=B A outer s H vs Q E (j.deeper _) k;have I:Inv (c6 CX P w K i base N c a f g A outer s H E) [] (start N vs) H b:=D8 S j.hd d u r x;refine R9 (h [] b (start N vs) H _ I l) (λj h b=>?_) λe h b=>b
 have d:∀{e:St} {H':Hp} {v:V} {u:Value},Inv (c6 CX P w K i base N c a f g A outer s H E) [] e H' h->RelV v u->Q v H'->CE outer P w H s Q u h :=
  fun {e H' v u} J a q=>⟨v,H',J.os,J.bare,J.base,J.OB,a,q⟩
 cases j with
 |ret u =>
  obtain⟨v,e,H',J,a,q⟩:=b;exact d J a q
 |next =>
  obtain⟨e,H',J,q⟩:=b;exact d (v:=V.ON) (u:=Value.none) J rfl q
 |brk =>
  obtain⟨_,_,_,q⟩:=b
  simp_all
 |cont =>
  obtain⟨_,_,_,q⟩:=b
  simp_all
section
variable{X:Cx}{x:Str}{p pos:Pos}{e:Expr}{es:yai}{t:TA}{id T:String}{r:yar->Hp->VK->Prop}
def tCB(r:yar->Hp->VK->Prop)(t:TA):TE:=λa H Q=>t a H λa b=>r a b Q
def EK (j:pF X (.type T) r) (g:Gl X x) (f:X.mg x=none) (c:bootBuiltins x=some (.type T)) (k:PA X (e::es) t) (d:x ≠ "__name__" := by decide) (l:(x==("__debug__" : Str))=false:=by decide)
  (i:starEach (e::es) X.env=(false,eval e X.env)::starEach es X.env:=by rfl) (m:(backTo pos (starEach es X.env)).any (·.1)=false:=by rfl):PE X (.Call (.Name x p) (e::es) [] pos) (tCB r t):=by
 intro a s b H Q I h;refine Uo (cc I g f c ?_ d l);exact PyProof.Rows.callWith_type1 (Oj (k pos a s b H _ I h) λd f k=>(by obtain⟨c,n,l,g,h⟩:=k;exact j a f b n c d Q l g h)) i m
end
end L2
namespace HT
open PySem PyProof.Rows
noncomputable def lexLt:yaf->yaf->Bool
 |[],[]=>false
 |[],_::_=>true
 |_::_,[]=>false
 |x::b,y::a=>if x=y then lexLt b a else decide (x<y)
section
open PySem.SeqAt
open PySem.AutoSeq1 (wpAny_loadPart')
open PySem.MeetsSeq PySem.MeetsSeq2 PySem.MeetsSeq3
end
section
variable{prog:Program}{w:World}{A:Around}{E:yaa}{s:Shared}
noncomputable def Pa(n d:Nat):yaq->Nat
 |none=>d
 |some v=>if v<0 then(v+(n:Int)).toNat else min v.toNat n
theorem Hk(n d:Nat):Pa n d none=d:=rfl
def pZ(n d k:Nat):Pa n d (some (k:Int))=min k n:=by
 show(if(k:Int)<0 then((k:Int)+(n:Int)).toNat else min (k:Int).toNat n)=min k n
 simp_all [Oc,Int.toNat_natCast]
def Aq(v:Int)(n d:Nat):(if v<0 then max (v+(n:Int)) 0 else min v (n:Int))=((Pa n d (some v):Nat):Int):=by
 show(if v<0 then max (v+(n:Int)) 0 else min v (n:Int))=(((if v<0 then(v+(n:Int)).toNat else min v.toNat n):Nat):Int)
 lia
theorem BQ(lo a:yaq)(n:Nat):Builtin.Slice.sliceAdjust lo a 1 (n:Int)=(((Pa n 0 lo:Nat):Int),((Pa n n a:Nat):Int)):=by
 have b:¬((1:Int)<0):=by lia
 unfold Builtin.Slice.sliceAdjust;refine WC ?_ ?_;cases lo with
 |none=>rfl
 |some v=>exact Aq v n 0
 cases a with
 |none=>rfl
 |some v=>exact Aq v n n
theorem Cz(i j:Nat):Builtin.Slice.slicePlaces (i:Int) (j:Int) 1=j - i:=by
 unfold Builtin.Slice.slicePlaces
 lia
def tO{Q:yaq->Shared->Prop}(p:IsPart v o)(h:Q o s):wpAny (model prog w) A (Builtin.Slice.slicePartIndex v) Q E s:=by
 cases p with
 |none=>exact slicePart_none h
 |int i t=>exact slicePart_int h
def rH{c:Addr}{b a:Value}{lo d:yaq}{n:Nat}{Q:Int×Int×Nat->Shared->Prop}(hs:s.heap.IsSliceOf c b a .none)(f:IsPart b lo)(e:IsPart a d)
  (h:Q (((Pa n 0 lo:Nat):Int),1,Pa n n d - Pa n 0 lo) s):wpAny (model prog w) A (Builtin.Slice.sliceApplied (.ref c) (pure (n:Int))) Q E s:=by
 obtain⟨os,c,g,d⟩:=id hs;refine Oa (Oa (Se c d (x:=b) rfl (Oa (Se c d (x:=a) rfl (Oa (Se c d (x:=.none) rfl (wpAny_pure ?_)))))));refine Oa (slicePart_none ?_);refine Oa (tO f (Oa (tO e (Oa (wpAny_pure ?_)))));grind [BQ,Cz,wpAny_pure]
def G7(xs:yao)(i k:Nat):((List.range k).filterMap λ(m:Nat)=>xs[((i:Int)+(m:Int)*1).toNat]?).toArray=((xs.toList.drop i).take k).toArray:=by
 have e:(λ(m:Nat)=>xs[((i:Int)+(m:Int)*1).toNat]?)=λm=>xs[i+m]?:=by grind
 have:=pick_run xs i k;have a:((λx=>xs[x]?)∘λx=>i+x)=λm=>xs[i+m]?:=rfl
 simp_all
def qa{t d:Addr}{items:yao}{e c:Value}{lo a:yaq}{Q:yaa}(b:IsTup s.heap t items)(hs:s.heap.IsSliceOf d e c .none)(i:IsPart e lo)(g:IsPart c a)
  (k:¬(Pa items.size 0 lo=0/\Pa items.size items.size a=items.size))
  (h:Q (.ref s.heap.objs.size) {s with heap:=s.heap.push {cls:=.type "tuple", data:=.seq ((items.toList.drop (Pa items.size 0 lo)).take (Pa items.size items.size a - Pa items.size 0 lo)).toArray} })
  (hsz:items.size<=sizeLine):wpAny (model prog w) A (getItem (.ref t) (.ref d)) Q E s:=by
 have c:sizeOk (.seq ((items.toList.drop (Pa items.size 0 lo)).take (Pa items.size items.size a - Pa items.size 0 lo)).toArray):=by
  show((items.toList.drop (Pa items.size 0 lo)).take (Pa items.size items.size a - Pa items.size 0 lo)).toArray.size<=sizeLine;rw[RF,S4,Zx,RY]
  lia
 obtain⟨os,j,e,Pe⟩:=id hs;have f:s.TypeIs (.ref d) "slice" := ⟨os,j,e⟩;unfold getItem
 try with_reducible refine SF ?_
 refine Oa (wpAny_sequenceKey b.typeIs (by decide) ?_);refine Oa (WZ (name:=Str.ofString "__getitem__") b.typeIs PyProof.Rows.slot_tuple_getitem
  (Va PyProof.Rows.slot_tuple_getitem b.typeIs entry_tuple_getitem ?_ (args_tuple_getitem _ _)))
 show wpAny _ _ (Builtin.Tuple.tupleItemsOf (.ref t) >>= _) _ _ s;refine Oa (tupleItemsOf_ b ?_);refine Oa (wpAny_typeOf f ?_);refine Oa (rH hs i g ?_);have b:¬((((Pa items.size 0 lo:Nat):Int)==0 && (1:Int)==1 && (Pa items.size items.size a - Pa items.size 0 lo)==items.size)=true):=by lia
 show wpAny _ _ (if(((Pa items.size 0 lo:Nat):Int)==0 && (1:Int)==1 && (Pa items.size items.size a - Pa items.size 0 lo)==items.size)=true then _ else _) _ _ s;rw[Oc b,G7]
 first
  |exact Oa (m:=Builtin.Tuple.tupleExact _) (Ww (wpAny_pure ⟨_,rfl,wpAny_pure h⟩) c)
  |exact Oa (m:=Builtin.Tuple.tupleExact _) (Ww (Oa (wpAny_pure (wpAny_pure ⟨_,rfl,wpAny_pure h⟩))) c)
  |exact Oa (Oa (m:=Builtin.Tuple.tupleExact _) (Ww (wpAny_pure (wpAny_pure ⟨_,rfl,wpAny_pure h⟩)) c))
  |exact Oa (Oa (m:=Builtin.Tuple.tupleExact _) (Ww (wpAny_pure ⟨_,rfl,wpAny_pure h⟩) c))
end
end HT
namespace L2
open PySem PySem.Spec PyProof.Rows
abbrev TO:=St->Hp->(yaq->Hp->Prop)->Prop
def intsAre_of{ns:yaf}:∀{a:yad},Vals (ns.map V.int) a->IntsAre a ns:=by
 induction ns with
 |nil=>intro a r;cases r;exact .nil
 |cons n ns ih =>
  intro a r;cases r with
  |cons b a =>
   obtain⟨t,e⟩:=b;subst e;exact .cons n t (ih a)
section
variable{X:Cx}{e:Expr}{te:TE}{lo hi:Option Expr}{tl th:TO}{pos p2:Pos}
def SlR(X:Cx)(r:V->yaq->yaq->Hp->VK->Prop):Prop :=
 ∀ (a:yab) (s:Shared) (b:St) (H:Hp) (x:V) (v d c:Value) (lo hi:yaq) (f:Addr) (Q:VK),Inv X a b H s->RelV x v->s.heap.IsSliceOf f d c .none->IsPart d lo->IsPart c hi->r x lo hi H Q →
  ∃ T id,typeLookup (.type T) "__getitem__" = pure (some (.builtin id))/\s.TypeIs v T/\wpAny (model X.prog X.w) X.A (getItem v (.ref f)) (EP X a b Q) X.xe s
def nZ(xs:yar)(lo hi:yaq):yar:=(xs.drop (HT.Pa xs.length 0 lo)).take (HT.Pa xs.length xs.length hi - HT.Pa xs.length 0 lo)
def qu(xs:yar)(lo hi:yaq):(nZ xs lo hi).length<=xs.length:=by
 unfold nZ;rw[S4,Zx]
 lia
def NR(K:yac):V->yaq->yaq->Hp->VK->Prop:=λx lo hi H Q=>∃a b,x=.ref a/\OT K H a b ∧
 ¬ (HT.Pa b.length 0 lo=0/\HT.Pa b.length b.length hi=b.length)/\∀p,H p=none->Q (.ref p) (upd H p (.tup (nZ b lo hi)))
def MA:SlR X (NR X.K):=by
 intro d s l H x v n m lo hi p Q I b j g f h;obtain⟨a,c,rfl,a,i,q⟩:=h;cases b;obtain⟨k,r,b,h⟩:=I.tuple a;have a:k.toArray.size=c.length:=by exact r.length.symm
 refine⟨"tuple", _,PyProof.Rows.slot_tuple_getitem.lookup,b.typeIs,?_⟩;refine HT.qa b j g f (by rw[a];exact i) ?_ (by simp_all);rw[a];refine⟨.ref s.heap.objs.size,_,I.laid (t':=s.toks) (o:=.tup (nZ c lo hi)) (λb ob q=>Po _ q) (O5 _) ?_,rfl,q _ (I.OB.fresh (O5 _))⟩;exact⟨PL (qu c lo hi) h,_,(r.drop (HT.Pa c.length 0 lo)).take (HT.Pa c.length c.length hi - HT.Pa c.length 0 lo),IsTup.new _ _⟩
end
noncomputable def ixN(n:Nat)(i:Int):Option Nat:=if 0<=i then(if i<n then some i.toNat else none)else if -(n:Int)<=i then some (i+n).toNat else none
def Qw{a:Type}(xs:List a)(i:Int):Option a:=(ixN xs.length i).bind λj=>xs[j]?
def Jo{j:Nat}(h:ixN n i=some j):seqIndex? i n=some j/\j<n/\-(n:Int)<=i/\i<n:=by
 unfold ixN at h;by_cases b:0<=i;rw[Og b]at h;by_cases a:i<n;grind [Option.some.inj,seqIndex_of]
 simp_all
 rw[Oc b]at h;by_cases a:-(n:Int)<=i;rw[Og a]at h;grind [Option.some.inj,seqIndex_neg]
 simp_all
def Ao{a:Type}{xs:List a}{i:Int}{v:a}(h:Qw xs i=some v):∃j,seqIndex? i xs.length=some j/\xs[j]?=some v/\j<xs.length/\-(xs.length:Int)<=i/\i<xs.length:=by
 unfold Qw at h;cases e:ixN xs.length i with
 |none=>simp_all
 |some j =>
  rw[e]at h;obtain⟨d,c,b,a⟩:=Jo e;exact⟨j,d,h,c,b,a⟩
def bf{a:Type}{xs:List a}{j:Nat}{v:a}(h:xs[j]?=some v):Qw xs (j:Int)=some v:=by
 have b:j<xs.length:=(QH.mp h).1;have e:ixN xs.length (j:Int)=some j:=by
  unfold ixN
  simp_all
 unfold Qw;rw[e];exact h
def FW{a:Type}(xs:List a)(v:a):Qw (xs++[v]) (-1)=some v:=by
 have b:(xs++[v]).length=xs.length+1:=by simp
 have e:ixN (xs++[v]).length (-1)=some xs.length:=by unfold ixN;grind
 unfold Qw
 simp_all
def An(b:Expr):Prop:=∀o i,subscripted b false o i=operate [o,i] (getItem o i)
def IxR(X:Cx)(r:R2):Prop :=
 ∀ (c a:Expr) (b:yab) (s:Shared) (d:St) (H:Hp) (x y:V) (v u:Value) (Q:VK),Inv X b d H s->RelV x v->RelV y u->r x y H Q →
  subscripted a false v u=operate [v,u] (getItem v u)->wpAny (model X.prog X.w) X.A (subscriptTail c a v u) (EP X b d Q) X.xe s
def MtR(X:Cx)(id:String)(r:V->yar->Hp->VK->Prop):Prop :=
 ∀ (a:yab) (s:Shared) (b:St) (H:Hp) (x:V) (c:yar) (v:Value) (d:yad) (Q:VK),Inv X a b H s->RelV x v->Vals c d->r x c H Q →
  wpAny (model X.prog X.w) X.A (call (.builtin id) (v::d)) (EP X a b Q) X.xe s
section
variable{X:Cx}{a b:Expr}{ta tb:TE}{pos:Pos}
def Ig(i:IxR X r)(f:PE X a ta)(e:PE X b tb)(hs:An b):PE X (.Subscript a b pos) (tOp r ta tb):=by intro c s d H Q I h;exact Subscript_ (NB f e I h λv u e x y j h g f q=>i a b c e d j x y v u Q h g f q (hs _ _))
def NQ(K:yac):R2:=λx y H Q=>∃p c i v,x=.ref p/\y=.int i/\SqL K H p c/\Qw c i=some v/\Q v H
def Hc(K:yac):R2:=λx y H Q=>∃p c i v,x=.ref p/\y=.int i/\OT K H p c/\Qw c i=some v/\Q v H
def Jp:IxR X (NQ X.K):=by
 intro e f c s k H x y v u Q I g d h l;obtain⟨p,A,i,z,rfl,rfl,j,n,q⟩:=h;cases g;obtain⟨t,rfl⟩:=d;obtain⟨u,r,g,B⟩:=I.list j;obtain⟨j,m,d,G,t,p⟩:=Ao n;obtain⟨w,o,h⟩:=r.get d;have E:=r.length;have C:=yE;have d:EP X c k Q w s:=⟨z,H,I,h,q⟩;by_cases n:0<=i;have h:i.toNat=j:=by
  rw[seqIndex_of n p]at m
  lia
 exact item_listR g.isList n (by lia) (by rw[h];simpa using o) d l;have h:(i+(u.toArray.size:Int)).toNat=j:=by
  rw[seqIndex_neg (by lia) t]at m
  simp_all
 exact subscriptTail_builtinR (x:=w) g.isList.typeIs slot_list_getitem.lookup
  (wpAny_getItem_list_neg (Q:=λr i=>r=w/\EP X c k Q r i) g.isList (by lia) (by simp_all) (by lia) (by rw[h];simpa using o) ⟨rfl,d⟩) l
def yw:IxR X (Hc X.K):=by
 intro d e c s g H x y v u Q I j f h k;obtain⟨p,m,i,z,rfl,rfl,i,l,q⟩:=h;cases j;obtain⟨t,rfl⟩:=f;obtain⟨Oe,r,h,n⟩:=I.tuple i;obtain⟨j,G,f,E,C,B⟩:=Ao l;obtain⟨w,l,i⟩:=r.get f;have A:=r.length;have o:=yE;have f:EP X c g Q w s:=⟨z,H,I,i,q⟩;exact subscriptTail_builtinR (x:=w) h.typeIs slot_tuple_getitem.lookup
  (getItem_tuple (j:=j) (Q:=λr i=>r=w/\EP X c g Q r i) h (by lia) (by lia) (by simp_all) (by simpa using l) ⟨rfl,f⟩) k
theorem Inv.lst(I:Inv X pins σ H s)(h:H p=some (.lst xs)) :
  ∃ (c:yad) (n:Nat),Vals xs c/\s.heap.get? p=some {cls:=.type "list", data:=.seq c.toArray n}/\xs.length<=sizeLine:=by
 obtain⟨z,c,n,r,e⟩:=I.OB p _ h;exact⟨c,n,r,e,z⟩
def zc(lo c:yaq)(n:Nat):(sliceBounds lo c none n).1=((HT.Pa n 0 lo:Nat):Int)/\(sliceBounds lo c none n).2.1=((HT.Pa n n c:Nat):Int)/\(sliceBounds lo c none n).2.2=1:=by
 refine⟨?_,?_,rfl⟩;cases lo with
 |none=>simp[sliceBounds,HT.Pa]
 |some i =>
  simp only[sliceBounds,HT.Pa,Option.getD_none,show(1:Int) > 0 by decide,UX];by_cases h:i<0;simp only[h,UX]<;>lia;simp only[h,if_false]<;>lia
 cases c with
 |none=>simp[sliceBounds,HT.Pa]
 |some i =>
  simp only[sliceBounds,HT.Pa,Option.getD_none,show(1:Int) > 0 by decide,UX];by_cases h:i<0;simp only[h,UX]<;>lia;simp only[h,if_false]<;>lia
def wC(c:yad)(lo d:yaq):slicePick c.toArray lo d none=((c.drop (HT.Pa c.length 0 lo)).take (HT.Pa c.length c.length d - HT.Pa c.length 0 lo)).toArray:=by obtain⟨g,f,e⟩:=zc lo d c.toArray.size;unfold slicePick;rw[g,f,e];simp only[sliceRange_one,pick_run,RF]<;>rfl
def xo:pF X (.builtin "len") (λxs H Q=>∃p ys,xs=[.ref p]/\(SqL X.K H p ys∨OT X.K H p ys)/\Q (.int ys.length) H):=by
 intro g s j H xs k Q I r h;obtain⟨p,ys,rfl,c,q⟩:=h;obtain⟨u,rfl,d⟩:=vals1 r;cases d;have l:=yE;rcases c with c|c;obtain⟨i,e,f,h⟩:=I.list c;have d:=e.length;exact Calls.call_len_list f.isList (by simp only[RF]<;>lia) ⟨.int ys.length,H,I.tok _,⟨s.toks+1,by grind⟩,q⟩;obtain⟨i,e,f,h⟩:=I.tuple c;have d:=e.length;exact len_tuple f (by simp only[RF]<;>lia) ⟨.int ys.length,H,I.tok _,⟨s.toks+1,by simp_all⟩,q⟩
def xp:pF X (.type "list") (λxs H Q=>∃p ys,xs=[.ref p]/\(SqL X.K H p ys∨OT X.K H p ys)/\∀l,H l=none->Q (.ref l) (upd H l (.lst ys))):=by
 intro e s i H xs t Q I r h;obtain⟨p,ys,rfl,hq,q⟩:=h;obtain⟨u,rfl,c⟩:=vals1 r;cases c;have k:∀(d:yad),Vals ys d->ys.length<=sizeLine->∀(c:Heap) (g:Nat),(∀b f,s.heap.get? b=some f->c.get? b=some f) →
   c.get? s.heap.objs.size=some {cls:=.type "list", dict:=none,data:=.seq d.toArray g,slots:=#[]}->EP X e i Q (.ref s.heap.objs.size) {s with heap:=c}:=λd f i c g h e =>
  ⟨.ref s.heap.objs.size,_,I.laid (t':=s.toks) h (O5 _) (show bD X.prog X.w _ c _ (.lst ys)from⟨i,d,g,f,e⟩),rfl,q _ (I.OB.fresh (O5 _))⟩
 rcases hq with hq|hq;obtain⟨d,f,l,i⟩:=I.list hq;have j:=f.length;obtain⟨o,m,r,n,q⟩:=l.isList;exact call_list_seq p (.inl rfl) m r q (λc g h e=>k d f i c g h e) (by simp_all);obtain⟨d,f,l,i⟩:=I.tuple hq;have j:=f.length;obtain⟨o,m,r,n,q⟩:=l;exact call_list_seq p (.inr rfl) m r q (λc g h e=>k d f i c g h e) (by simp_all)
def WH(K:yac)(T:String)(x:V)(H:Hp):Prop:=match x with
 |.str _=>T = "str"
 |.int _=>T = "int"
 |.ref p=>(T = "list" /\∃c,SqL K H p c)∨(T = "tuple" /\∃o,K.lookup p=some o/\o.cls=.type "tuple" /\ o.dict=none) ∨
   (T = "dict" /\ ((∃c,H p=some (.dK c))∨∃ c,H p=some (.dT c)))∨(T = "set" /\∃S n,H p=some (.set S n))
 |_=>False
def Fm(I:Inv X pins σ H s)(r:RelV x v)(f:WH X.K T x H) :
  s.TypeIs v T/\∀a,v=.ref a->∃ob,s.heap.get? a=some ob/\ob.dict=none:=by
 cases x with
 |str z =>
  obtain⟨t,rfl⟩:=r;cases(show T = "str" from f);grind [typeIs_str]
 |int i =>
  obtain⟨t,rfl⟩:=r;cases(show T = "int" from f);grind [typeIs_int]
 |ref p =>
  cases r;rcases f with⟨rfl,j,c⟩| ⟨rfl,o,d,i,h⟩| ⟨rfl,d⟩| ⟨rfl,S,n,d⟩;obtain⟨Oe,_,g,_⟩:=I.list c;refine⟨g.isList.typeIs,λa e=>?_⟩;obtain⟨o,n,e,c,h,_⟩:=g
  simp_all
  refine⟨⟨o,I.SJ p o d,i⟩,λa e=>?_⟩;cases e;exact⟨o,I.SJ _ o d,h⟩;have z:∃o,s.heap.get? p=some o/\o.ExactDict:=by
   rcases d with⟨c,d⟩| ⟨c,d⟩;obtain⟨_,_,_,_,o,_,_,e,c,_⟩:=I.OB p _ d
   simp_all
   obtain⟨_,_,_,_,o,_,_,e,c,_⟩:=I.OB p _ d
   simp_all
  obtain⟨o,e,c⟩:=z;refine⟨⟨o,e,c.1⟩,λa g=>?_⟩;cases g;exact⟨o,e,c.2.1⟩;obtain⟨o,_,_,_,e,c,_⟩:=I.OB p _ d;refine⟨⟨o,e,c.1⟩,λa g=>?_⟩;cases g;exact⟨o,e,c.2.1⟩
 |_=>exact False.elim f
def Ht(K:yac)(T:String)(r:V->yar->Hp->VK->Prop)(d:TE):TE:=λc H Q=>d c H λx c=>WH K T x c/\r x [] c Q
def tBM(K:yac)(T:String)(r:V->yar->Hp->VK->Prop)(d:TE)(t:TA):TE:=λc H Q=>d c H λx d=>WH K T x d/\t c d λc d=>r x c d Q
variable{o e:Expr}{es:yai}{to:TE}{t:TA}{name:Str}{apos cpos:Pos}{T id:String}{r:V->yar->Hp->VK->Prop}
def yU (m:PlainAttrs T) (d:Slot T name id) (f:typeOf (.builtin id)=pure (.type "method_descriptor")) (n:MtR X id r) (i:PE X o to)
  (k:attributeBase o name X.env (eval o X.env)=eval o X.env:=by rfl) (j:(apos.endLine==cpos.line)=true:=by rfl):PE X (.Call (.Attribute o name apos) [] [] cpos) (Ht X.K T r to):=by
 intro c s g H Q I h;refine wpAny_Call_method0_late k j (Oj (i c s g H _ I h) λv k p=>?_);obtain⟨x,s,i,h,j,l⟩:=p;obtain⟨q,p⟩:=Fm i h j;exact⟨T,id,m,d,f,q,p,Calls.callWith_builtin rfl (PySem.evalArgs_none (n c k g s x [] v [] Q i h .nil l))⟩
def Cy (m:PlainAttrs T) (d:Slot T name id) (g:typeOf (.builtin id)=pure (.type "method_descriptor")) (n:MtR X id r) (i:PE X o to) (p:PA X (e::es) t)
  (l:attributeBase o name X.env (eval o X.env)=eval o X.env:=by rfl)
  (j:((backTo cpos (starEach (e::es) X.env)).all (λx=>!x.1) && (backToKw cpos (keywordEach [] X.env)).all (λx=>x.1.isSome)
   && decide ((e::es).length+([]:List Keyword).length+(if([]:List Keyword).isEmpty then 0 else 1)<30))=true:=by rfl)
  (k:(apos.endLine==cpos.line)=true:=by rfl) (hs:starEach (e::es) X.env=(false,eval e X.env)::starEach es X.env:=by rfl) (Ti:(backTo cpos (starEach es X.env)).any (·.1)=false:=by rfl) :
  PE X (.Call (.Attribute o name apos) (e::es) [] cpos) (tBM X.K T r to t):=by
 intro c s f H Q I h;refine wpAny_Call_method_late l j k rfl (Oj (i c s f H _ I h) λv k q=>?_);obtain⟨x,u,i,h,j,l⟩:=q;obtain⟨s,q⟩:=Fm i h j;refine⟨T,id,m,d,g,s,q,?_⟩;have d:=p cpos c k f u _ i l;rw[hs]at d ⊢;refine Calls.callWith_builtin (by simp_all) (Calls.evalArgs_plain ?_);exact Oj d λg i l=>(by obtain⟨d,p,m,j,k⟩:=l;exact n c i f p x d v g Q m h j k)
end
def MtM(X:Cx)(id:String)(r:V->yar->Hp->VK->Prop):Prop :=
 ∀ (a:yab) (s:Shared) (b:St) (H:Hp) (x:V) (c:yar) (v:Value) (d:yad) (Q:VK),Inv X a b H s->RelV x v->Vals c d->r x c H Q →
  wpAny (model X.prog X.w) X.A (call (.builtin id) (v::d)) (EP X a b Q) X.xe s
def Vals.one:∀{x:V} {a:yad},Vals [x] a->∃u,a=[u]/\RelV x u
 |_,_,.cons r .nil=>⟨_,rfl,r⟩
def Vals.zero:∀{a:yad},Vals [] a->a=[]
 |_,.nil=>rfl
theorem Vals.dropLast(h:Vals xs us):Vals xs.dropLast us.dropLast:=by
 induction h with
 |nil=>exact .nil
 |cons r t ih =>
  cases t with
  |nil=>exact .nil
  |cons q a=>exact .cons r ih
section
variable{X:Cx}{pins:yab}{σ:St}{H:Hp}{s:Shared}{l b:Addr}{xs ys zs:yar}
def Inv.Xk{a its':yad}{f:yao->yao}{t':Nat}(I:Inv X pins σ H s)(g:H l=some (.lst xs))
  (e:s.heap.get? l=some {cls:=.type "list", data:=.seq a.toArray n}) (d:f a.toArray=its'.toArray) (c:Vals ys its') (hz:ys.length<=sizeLine) :
  Inv X pins σ (upd H l (.lst ys)) {s with heap:=s.heap.update l (Obj.mapSeq f),toks:=t'}:=by
 have q:=PySem.IsL.update e f;rw[d]at q;refine I.write (x:=l) (e:=l) (by rw[g];exact trivial) (.inl rfl) (λh u d a=>(Vs s.heap (Obj.mapSeq f) (Ne.symm d)).trans a) ⟨_,q⟩ ?_;exact⟨hz,its',_,c,q⟩
def Inv.V2 (I:Inv X pins σ H s) (c:H l=some (.lst xs)):xs.length<=sizeLine/\∃(a:yad) (n:Nat),Vals xs a/\xs.length=a.length/\s.heap.get? l=some {cls:=.type "list", data:=.seq a.toArray n}:=by obtain⟨z,a,n,r,e⟩:=I.OB l _ c;exact⟨z,a,n,r,r.length,e⟩
def GO{n:Nat}(h:n<=sizeLine):Builtin.List.listTooLong n=false:=by
 unfold Builtin.List.listTooLong
 lia
end
section
variable{X:Cx}
def Bh:V->yar->Hp->VK->Prop:=λx b H Q=>∃l a y,x=.ref l/\b=[y]/\H l=some (.lst a)/\a.length<sizeLine/\Q .ON (upd H l (.lst (a++[y])))
def oG:MtM X "list.append" Bh:=by intro a s g H x j v k Q I c d h;obtain⟨l,i,y,rfl,rfl,b,m,q⟩:=h;cases c;obtain⟨u,rfl,f⟩:=d.one;obtain⟨z,c,n,r,o,e⟩:=I.V2 b;refine call_meets F.slot_list_append ⟨_,e,rfl⟩ F.entry_list_append (F.args_list_append_2 _ _) (PySem.list_append l c.toArray n u (by grind)) ⟨e,?_⟩;refine⟨.ON,_,I.Xk (its':=c++[u]) b e (by simp) (r.append (.cons f .nil)) ?_,rfl,q⟩;grind
def JU:V->yar->Hp->VK->Prop:=λx d H Q=>∃l b c a,x=.ref l/\d=[.ref b]/\H l=some (.lst c)/\H b=some (.lst a)/\c.length+a.length<=sizeLine/\Q .ON (upd H l (.lst (c++a)))
def En:MtM X "list.extend" JU:=by
 intro g s o H x y v A Q I a c h;obtain⟨l,b,w,p,rfl,rfl,i,f,B,q⟩:=h;cases a;obtain⟨u,rfl,a⟩:=c.one;cases a;obtain⟨z,c,n,r,C,e⟩:=I.V2 i;obtain⟨t,d,j,h,k,m⟩:=I.V2 f;have f:c.toArray.size+d.toArray.size<=sizeLine:=by grind
 have a:¬(!c.toArray.isEmpty && Builtin.List.listTooLong (c.toArray.size+d.toArray.size))=true:=by
  rw[GO f,Bool.and_false]
  lia
 refine call_meets F.slot_list_extend ⟨_,e,rfl⟩ F.entry_list_extend (F.args_list_extend_2 _ _)
  (AutoSeq1.list_extend_list_list_0 l c.toArray n b d.toArray j a (by lia) (by lia)) ⟨e,m,?_⟩
 refine⟨.ON,_,I.Xk (its':=c++d) i e (by simp) (r.append h) ?_,rfl,q⟩
 simp_all
def Mr:V->yar->Hp->VK->Prop:=λx b H Q=>∃l a y,x=.ref l/\b=[]/\H l=some (.lst a)/\a[a.length - 1]?=some y/\Q y (upd H l (.lst a.dropLast))
def Eo:MtM X "list.pop" Mr:=by
 intro b s g H x j v k Q I a d h;obtain⟨l,i,y,rfl,rfl,c,f,q⟩:=h;cases a;have a:=d.zero;subst a;obtain⟨z,a,n,r,o,e⟩:=I.V2 c;obtain⟨u,m,d⟩:=r.get f;have f:a.toArray[a.toArray.size - 1]?=some u:=by simp_all
 refine call_meets F.slot_list_pop ⟨_,e,rfl⟩ F.entry_list_pop (F.args_list_pop_1 _) (MeetsSeq.list_pop_last l a.toArray n u f (by grind)) ⟨e,?_⟩;refine⟨y,_,I.Xk (its':=a.dropLast) c e ?_ r.dropLast ?_,d,q⟩
 all_goals grind
def EU:V->yar->Hp->VK->Prop:=λx b H Q=>∃l a,x=.ref l/\b=[]/\H l=some (.lst a)/\Q .ON (upd H l (.lst []))
def yJ:MtM X "list.clear" EU:=by intro b s f H x i v j Q I a d h;obtain⟨l,g,rfl,rfl,c,q⟩:=h;cases a;have a:=d.zero;subst a;obtain⟨z,a,n,r,k,e⟩:=I.V2 c;refine call_meets F.slot_list_clear ⟨_,e,rfl⟩ F.entry_list_clear (F.args_list_clear_1 _) (AutoSeq1.list_clear_list_0 l a.toArray n (by simp_all)) ⟨e,?_⟩;exact⟨.ON,_,I.Xk (its':=[]) (ys:=[]) c e rfl .nil (QS _),rfl,q⟩
end
section
variable{prog:Program}{w:World}{A:Around}{E:yaa}{s:Shared}
set_option maxRecDepth 100000 in
end
end L2
namespace Att
open PySem PySem.W PySem.Calls PyProof.Rows
def sV:∀(ns:yaf) (vs:yad),WellAll P h vs (ns.map WData.int)->IntsAre vs ns:=by
 intro ns
 induction ns with
 |nil =>
  intro vs w;cases w;exact .nil
 |cons n ns ih =>
  intro vs w;cases w with
  |cons a b =>
   cases a;exact .cons _ _ (ih _ b)
def E6{l:OpenLaw}{n:Nat}(p:l.most=some n)
  (e:l.row.toRowW.claim.pre args=true) (b:WellAll P h vals args) :
  ∃ a vs ns,vals=[Value.ref a]/\args=[WData.list (ns.map WData.int)]/\h.get? a=some {cls:=.type "list", data:=.seq vs.toArray}/\IntsAre vs ns/\ns.length<=n:=by
 have c:WShape.hasAll [] args [.list .int]=true:=(pre_splitW e).1;have h:l.pre.holds [] {args:=args}=true:=(pre_splitW e).2;obtain⟨d,r,rfl,k,j⟩:=hasAllW_cons c;obtain rfl:=hasAllW_nil j;obtain⟨o,rfl,i⟩:=hasW_list k;obtain⟨ns,rfl⟩:=items_int i;have a:ns.length<=n:=by
  have d:(WTm.not (.lt (.lit (.int (n:Int))) (.len (.arg 0)))).holds [] {args:=[.list (ns.map .int)]}=true:=by
   have d:=(holds_andW h).1
   simp_all
  have q:=condW_of d (w_not (w_lt w_lit (w_len_list (w_arg rfl))));grind
 cases b with
 |cons f d =>
  cases d;cases f with
  |list g m=>exact⟨_,_,ns,rfl,rfl,g,sV ns _ m,a⟩
def ET(l:OpenLaw)(args:List WData):l.row.toRowW.claim.post args (.bool true) args=true :=
 postW_of (r:=l.row.toRowW) (X:=(true==true))
  (show WShape.has [] (.bool true) .bool=true by first|rfl|decide|simp[WShape.has,WShape.arms,WShape.armsAll])
  (show(WTm.eq .res (.lit (.bool true))).value [] {args:=args,res:=some (.bool true),after:=args}=some (.bool (true==true))from w_eq_bool (w_res rfl) w_lit) rfl
def zE{l:OpenLaw}{n:Nat}{x:World->Heap->Prop}{d:DefRec}
  (z:l.most=some n) (c:d.params.defaults=[])
  (call:∀(w:World) (p b:Shared) (i m:yam) (g:Addr) (o:Obj) (k j e:Value) (a:Addr) (vs:yad) (ns:yaf),
   Ground q loose [] XP w p i m b.heap->x w b.heap →
   b.heap.get? g=some o->o.data=.func (docDef d.name d.params d.body d.scope k j e)->b.heap.CodeRec j d.name->i d.name=some (.ref g) →
   b.heap.get? a=some {cls:=.type "list", data:=.seq vs.toArray}->IntsAre vs ns->ns.length<=n->b.gens=#[] →
   codeAny (model l.prog w) callerA (.call (.ref g) ⟨[.ref a],[]⟩) (λr h=>r=.ok (.ret (.bool true))/\OldK b.heap h.heap/\h.os=b.os/\AllBare h.gens) b) :
  WalkO q loose XP x l.row.toRowW d [] (λf vs=>PySem.call f vs):=by
 intro w p b i m G Y g o k j e C kV q B H d n x u s I E t y f A;obtain rfl:C=.none:=Dflts.none d c;obtain rfl:kV=.none:=Dflts.noKw d;obtain⟨a,vs,ns,rfl,rfl,C,c,d⟩:=E6 z E f;refine enter_call (codeAny_mono (call w p b i m g o k j e a vs ns G Y q (fd_plain B) H n C c d x) λr h a=>?_);obtain⟨rfl,d,c,b⟩:=a;exact⟨.inl ⟨.bool true,.bool true,[],rfl,λ_=>rfl,.bool true,ET l _,by grind⟩,d,c,b⟩
section
variable{prog:Program}{w:World}{A:Around}{E:yaa}{s:Shared}{K:Frag}
def ledger(h:Heap)(L d:Addr):yab:=(List.range h.objs.size).filterMap λa=>if a=L∨a=d then none else(h.get? a).map λo=>(a,o)
end
end Att
namespace L2
open PySem PySem.Spec PyProof.Rows
theorem gA:∀{vs:yad} {ns:yaf},IntsAre vs ns->Vals (ns.map V.int) vs
 |_,_,.nil=>.nil
 |_,_,.cons n t h=>.cons ⟨t,rfl⟩ (gA h)
def FN(H:Hp):Prop:=∀b,H b=none∨∃ o a,H b=some (.frz o (.lst a))
def GI{K:yac}{x:Str}{c:Shared}{vs:yad}
  (L:K.In c.heap) (I:c.heap.Ns mainGlobals mg) (f:c.heap.Ns builtinsNs mb) (y:∀x:Str,x ≠ "__name__" -> mb x=bootBuiltins x) (l:c.heap.NoLimit) (N:c.gens=#[])
  (t:c.heap.get? a=some {cls:=.type "list", data:=.seq vs.toArray}) (b:IntsAre vs ns) (B:ns.length<=sizeLine) (M:bM k callerA)
  (F:∀base:Heap,K.In base->base.Ns mainGlobals mg->aF P w K mg base CX k fa fd [x] sp) (j:∀(s:Shared) (u:Value),BindsTo s fd ⟨[u],[]⟩ [(x,u)])
  (T:∀H:Hp,FN H->SqL K H a (ns.map V.int)->sp [.ref a] H (λv _=>v=.bl true) λ_ _ _=>False)
  (z:∀H e g,CX [] H c (λ_ _ _=>False) e g->False) :
  codeAny (model P w) callerA (.call (.ref fa) ⟨[.ref a],[]⟩) (λr g=>r=.ok (.ret (.bool true))/\OldK c.heap g.heap/\g.os=c.os/\AllBare g.gens) c:=by
 have A:=gA b;have k:=b.length;have i:∀H:Hp,FN H->SqL K H a (ns.map V.int)->Q0 P w H c.heap->(∀b,H b≠none->b=a)->(H a≠none->K.lookup a=none) →
   codeAny (model P w) callerA (.call (.ref fa) ⟨[.ref a],[]⟩) (λr g=>r=.ok (.ret (.bool true))/\OldK c.heap g.heap/\g.os=c.os/\AllBare g.gens) c:=by
  intro H C O J E Q;have G:∀{b:Addr} {o:Obj},c.heap.get? b=some o->H b=none->(mB c.heap H).get? b=some o:=λe n=>Gy e n
  have s:∀{b:Addr} {o:Obj} {n:Array DictEntry} {p:Nat},c.heap.get? b=some o->o.data=.dict n p->H b=none:=fun {b o n p} e d=>by
   cases q:H b with
   |none=>rfl
   |some u =>
    have x:b=a:=E b (by rw[q];simp);subst x;rw[t]at e;cases e;have h:Data.seq vs.toArray _=Data.dict n p:=d;cases h
  have h:∀{b:Addr} {m:yam},c.heap.Ns b m->(mB c.heap H).Ns b m:=fun {b m} m=>(by obtain⟨o,n,p,e,d,r⟩:=m;exact⟨o,n,p,G e (s e d),d,r⟩)
  have d:K.In (mB c.heap H):=λb o e=>G (L b o e) (by
   cases q:H b with
   |none=>rfl
   |some u =>
    have x:b=a:=E b (by rw[q];simp);subst x;rw[Q (by rw[q];simp)]at e;cases e)
  have m:Mod K mg (mB c.heap H):=⟨d,h I,⟨mb,h f,y⟩,let ⟨mc,h1,h2⟩:=l;⟨mc,h h1,h2⟩⟩;have l:BE P w K mg (mB c.heap H) callerA [] c H:=⟨rfl,m,λb o e=>Jy e,Nat.le_of_eq (D5 _ _),trivial,λb f=>absurd (show b∈([]:yae)from f) (by simp),J,.of_eq N⟩;refine codeAny_mono ((F _ d (h I)).run callerA [] c H ⟨[.ref a],[]⟩ [.ref a] [.ref a] _ _ M l (j c (.ref a)) (.cons rfl .nil) (T H C O)) λr g h=>?_
  cases r with
  |error e=>exact(z H e g h).elim
  |ok c =>
   cases c with
   |next=>exact False.elim h
   |brk=>exact False.elim h
   |cont=>exact False.elim h
   |ret u =>
    obtain⟨v,H',os,d,g,c,j,q⟩:=h;have h:v=.bl true:=q;subst h;obtain rfl:u=Value.bool true:=j;refine⟨rfl,OldK.of_keep λb o e=>?_,os,d⟩;cases q:H b with
    |none=>exact g.keep b o e q (by intro z;exact absurd (show b∈([]:yae)from z) (by simp)) (by simp)
    |some u =>
     rcases C b with z|⟨d,U,z⟩;rw[q]at z;cases z;have h:=g.RZ b d _ z;obtain⟨d,_⟩:=J b _ z;obtain⟨g,_⟩:=c b _ h;rw[e]at d;cases d;exact g
 cases hk:K.lookup a with
 |some o =>
  have e:=L a o hk;rw[t]at e;cases e;refine i (λ_=>none) (λ_=>.inl rfl) (.inr ⟨_,vs.toArray,_,hk,rfl,rfl,rfl,by rw[RF,k];exact B,by simpa using A⟩) (λb u z=>by have c:(none:Option HO)=some u:=z;cases c) (λb z=>absurd rfl z) λz=>absurd rfl z
 |none =>
  refine i (λb=>if b=a then some (.frz {cls:=.type "list", data:=.seq vs.toArray} (.lst (ns.map V.int)))else none) (λb=>?_) (.inl (.inr ⟨{cls:=.type "list", data:=.seq vs.toArray},Og rfl⟩)) (λb u z=>?_) (λb z=>?_) λ_=>hk
  by_cases f:b=a;exact .inr ⟨_,_,Og f⟩;exact .inl (Oc f);by_cases f:b=a;have c:=(Og f).symm.trans z;cases c;subst f;exact⟨t,by rw[Of];exact B,vs,_,A,t⟩;have c:=(Oc f).symm.trans z;cases c;by_cases f:b=a;exact f;exact absurd (Oc f) z
def Kl{l:PySem.W.OpenLaw}{n:Nat}{c:World->Heap->Prop}{d:DefRec}{K:Params->yac}{CX:World->CXT}{sp:World->Sp}{x:Str}
  (o:l.most=some n) (m:n<=sizeLine) (b:d.params.defaults=[]) (t:bM k callerA)
  (y:∀(w:World) (h:Heap),c w h->(K w.params).In h)
  (F:∀(w:World) (g:yam) (i:Addr) (h:Heap),(K w.params).In h->h.Ns mainGlobals g->g d.name=some (.ref i) →
   ∃ r:FuncData,(∀(s:Shared) (u:Value),BindsTo s r ⟨[u],[]⟩ [(x,u)]) ∧
    ∀ base:Heap,(K w.params).In base->base.Ns mainGlobals g->aF l.prog w (K w.params) g base (CX w) k i r [x] (sp w))
  (A:∀(w:World) (H:Hp) (a:Addr) (ns:yaf),ns.length<=n->FN H->SqL (K w.params) H a (ns.map V.int)->sp w [.ref a] H (λv _=>v=.bl true) λ_ _ _=>False)
  (p:∀(w:World) (H:Hp) (s:Shared) (e:Value) (j:Shared),CX w [] H s (λ_ _ _=>False) e j->False) :
  PySem.W.WalkO q loose XP c l.row.toRowW d [] (λf vs=>PySem.call f vs):=by
 refine Att.zE o b λw OG q g C i o B J z a vs ns G Y E I RC d n c b h=>?_
 have f:=y w _ Y;obtain⟨r,k,l⟩:=F w g i _ f G.T.g d;exact GI f G.T.g G.T.b G.T.builtins G.T.nolimit h n c (PL b m) t l k (λH d c=>A w H a ns b d c) λH e j=>p w H q e j
def fg(s:Stmt):Arguments:=match s with
 |.FunctionDef _ a _ _ _ _ _ _ _ _=>a
 |_=>{posonlyargs:=[],args:=[],vararg:=none,kwonlyargs:=[],kw_defaults:=[],kwarg:=none,defaults:=[]}
def cK(s:Stmt):yal:=match s with
 |.FunctionDef _ _ b _ _ _ _ _ _ _=>b
 |_=>[]
def ai(s:Stmt):Scope:=match s with
 |.FunctionDef _ _ _ _ _ _ a _ _ _=>a
 |_=>{kind:=.function,names:=[],isGenerator:=false,isCoroutine:=false}
abbrev E0:XK:=λ_ _ _=>False
structure Fun(K:yac)(x qual:Str)(st:Stmt)(f:Addr)(fd:FuncData):Prop where
 ex:∃(oc:Value) (od:Option Addr) (kV doc pm:Value) (an:Option Addr) (Qm ct:Value) (WG:Array (yan)),
  fd=PySem.W.fnOf x qual (fg st) (cK st) (ai st) .none kV doc pm an Qm ct/\K.lookup f=some ⟨oc,od,.func fd,WG⟩/\PySem.W.codeIn K Qm qual=true
 kp:PySem.W.keepIn K (.ref f)=true
def Cc(a:bM k A):A.units+1<cLine:=Yu (by lia) a.units
section
variable{X:Cx}
def pv (i:Nat) {x:Str} (c:X.N[i]?=some x:=by rfl) (a:VB X.env.scope x:=by first|exact Or.inl rfl|exact Or.inr (Or.inl rfl)|exact Or.inr (Or.inr rfl)) (b:(x==("__debug__" : Str))=false:=by decide)
  (d:(x==("__classdict__" : Str))=false:=by decide):PE X (.Name x pos) (u7 i):=eR c a b d
end
def ar(H H':Hp):Prop:=∀b o,H b=some o->H' b=some o
def ar.refl(H:Hp):ar H H:=λ_ _ h=>h
def ar.trans(a:ar H H1)(b:ar H1 H2):ar H H2:=λc o h=>b c o (a c o h)
def ar.free(e:ar H H')(h:H' l=Option.none):H l=Option.none:=by
 cases q:H l with
 |none=>rfl
 |some o =>
  rw[e l o q]at h
  lia
def ar.seq{K:yac}{H H':Hp}{a:Addr}{xs:yar}(e:ar H H')(h:SqL K H a xs):SqL K H' a xs:=by
 rcases h with(h|⟨o,h⟩)|h;exact .inl (.inl (e _ _ h));exact .inl (.inr ⟨o,e _ _ h⟩);exact .inr h
end L2
set_option maxHeartbeats 4000000
namespace L2
open PySem PySem.Spec PyProof.Rows
section
variable{κ:Type} [DecidableEq κ]
def dX(kvs:List (κ×V))(k:κ):Option V:=(kvs.find? λa=>decide (a.1=k)).map (·.2)
noncomputable def putK(kvs:List (κ×V))(k:κ)(v:V):List (κ×V) :=
 if(kvs.any λa=>decide (a.1=k))=true then kvs.map (λa=>if a.1=k then(a.1,v)else a)else kvs++[(k,v)]
theorem Hy:dX ([]:List (κ×V)) k=none:=rfl
def nu{p:κ×V}{r:List (κ×V)}{k:κ}(e:p.1=k):dX (p::r) k=some p.2:=by simp[dX,e]
def nr{p:κ×V}{r:List (κ×V)}{k:κ}(e:¬p.1=k):dX (p::r) k=dX r k:=by simp[dX,e]
theorem rT(k:κ):∀kvs:List (κ×V),(kvs.any λa=>decide (a.1=k))=(dX kvs k).isSome
 |[]=>rfl
 |p::r=>by
  rw[List.any_cons];by_cases e:p.1=k;simp only[nu e,Wx e,Bool.true_or,Option.isSome_some]
  simp_all [nr,decide_eq_false,Bool.false_or,rT]
theorem qv(kvs:List (κ×V))(k:κ)(v:V):(putK kvs k v).length<=kvs.length+1:=by unfold putK;split;rw[Of];lia;rw[QX,RG,Yy];lia
def ja.Ve(r:ja o u):o.isSome=u.isSome:=by
 cases o with
 |none=>cases u with
  |none=>rfl
  |some _=>exact(show False from r).elim
 |some _=>cases u with
  |none=>exact(show False from r).elim
  |some _=>rfl
theorem ja.getD(r:ja o u)(rd:RelV d d'):RelV (o.getD d) (u.getD d'):=by
 cases o with
 |none=>cases u with
  |none=>exact rd
  |some _=>exact(show False from r).elim
 |some _=>cases u with
  |none=>exact(show False from r).elim
  |some _=>exact r
def KV.val(r:KV kvs vs)(k:κ):ja (dX kvs k) (valueAt vs k):=by
 induction r with
 |nil=>exact True.intro
 |@cons p q g a h t ih =>
  obtain⟨d,f⟩:=h;by_cases e:p.1=k;have c:q.1=k:=d.symm.trans e;have b:valueAt (q::a) k=some q.2:=by simp[valueAt,c]
  rw[nu e,b];exact f;have c:¬q.1=k:=λz=>e (d.trans z)
  have b:valueAt (q::a) k=valueAt a k:=by simp[valueAt,c]
  rw[nr e,b];exact ih
theorem KV.any(r:KV kvs vs)(k:κ):(kvs.any λa=>decide (a.1=k))=vs.any λa=>decide (a.1=k):=by
 induction r with
 |nil=>rfl
 |cons h t ih=>simp_all
def KV.YK(r:KV kvs vs)(k:κ)(b:RelV y u) :
  KV (kvs.map λa=>if a.1=k then(a.1,y)else a) (vs.map λa=>if a.1=k then(a.1,u)else a):=by
 induction r with
 |nil=>exact .nil
 |@cons p q d c h t ih =>
  refine .cons ?_ ih
  lia
def KV.put(r:KV kvs vs)(k:κ)(a:RelV y u):KV (putK kvs k y) (stored vs k u):=by unfold putK stored;rw[r.any k];by_cases e:(vs.any λb=>decide (b.1=k))=true;rw[Og e,Og e];exact r.YK k a;rw[Oc e,Oc e];exact Paired.snoc r ⟨rfl,a⟩
def KV.keys{kvs:List (κ×V)}{vs:List (κ×Value)}(r:KV kvs vs):kvs.map (·.1)=vs.map (·.1):=by
 induction r with
 |nil=>rfl
 |cons h t ih=>grind
theorem KV.length(r:KV kvs vs):kvs.length=vs.length:=Paired.length r
end
def wJ(r:RelV (kV k) u):(bL P w).is k u=true:=by
 cases k with
 |inl i=>obtain⟨t,e⟩:=(show∃t,u=Value.int i t from r);simp_all [zP]
 |inr x=>obtain⟨t,e⟩:=(show∃t,u=Value.str x t from r);simp_all [zQ]
theorem vJ:∀{ks:List Key} {a:yad},Vals (ks.map kV) a->ItemsAre (bL P w) ks a
 |[],_,r=>by cases r;exact .nil
 |k::ks,_,r=>by
  cases r with
  |cons h t=>exact .cons (wJ h) (vJ t)
abbrev KT(H:Hp):List (List Key×V)->List (List Key×Addr×Value)->Prop:=Paired λp q=>p.1=q.1/\H q.2.1=some (.tup (p.1.map kV))/\RelV p.2 q.2.2
def KT.val(r:KT H kvs xs)(k:List Key):ja (dX kvs k) ((atKey xs k).map (·.2)):=by
 induction r with
 |nil=>exact True.intro
 |@cons p q g a h t ih =>
  obtain⟨d,_,f⟩:=h;by_cases e:p.1=k;have c:q.1=k:=d.symm.trans e;have b:atKey (q::a) k=some q.2:=by simp[atKey,List.find?_cons,c]
  rw[nu e,b];exact f;have c:¬q.1=k:=λz=>e (d.trans z)
  have b:atKey (q::a) k=atKey a k:=by simp[atKey,List.find?_cons,c]
  rw[nr e,b];exact ih
def KT.YK(r:KT H kvs xs)(k:List Key)(c:RelV y u) :
  KT H (kvs.map λa=>if a.1=k then(a.1,y)else a) (xs.map (putAt k u)):=by
 induction r with
 |nil=>exact .nil
 |@cons p q g f h t ih =>
  rw[Pj,Pj];refine .cons ?_ ih;obtain⟨a,b,d⟩:=h;unfold putAt;by_cases e:p.1=k;rw[Og e,Og (a.symm.trans e)];exact⟨a,b,c⟩;rw[Oc e,Oc (λz=>e (a.trans z))];exact⟨a,b,d⟩
def KT.put(r:KT H kvs xs)(k:List Key)(c:H b=some (.tup (k.map kV)))(a:RelV y u) :
  KT H (putK kvs k y) (storedH xs k b u):=by
 have e:(kvs.any λb=>decide (b.1=k))=(atKey xs k).isSome:=by rw[rT,(r.val k).Ve,Option.isSome_map]
 unfold putK storedH;rw[e];by_cases q:(atKey xs k).isSome=true;rw[Og q,Og q];exact r.YK k a;rw[Oc q,Oc q];exact Paired.snoc r ⟨rfl,c,a⟩
def KT.keeps{H':Hp}(r:KT H kvs xs)(a:∀b ys,H b=some (.tup ys)->H' b=some (.tup ys)):KT H' kvs xs :=
 Paired.YA r λ_ _ z=>⟨z.1,a _ _ z.2.1,z.2.2⟩
section
variable{P:Program}{w:World}{H:Hp}{h:Heap}{a:Addr}
def Ii(b:Q0 P w H h)(e:Rd H a u):bD P w H h a u:=e.ok b
def sC(b:Q0 P w H h)(e:Rd H a (.dK kvs)):kvs.length<=sizeLine/\(a==sysModules)=false/\∃vs,KV kvs vs/\h.DictOf (bL P w) a vs :=
 show bD P w H h a (.dK kvs)from Ii b e
def HV(b:Q0 P w H h)(e:H a=some (.dK kvs)):kvs.length<=sizeLine/\(a==sysModules)=false/\∃vs,KV kvs vs/\h.DictOf (bL P w) a vs:=sC b (.inl e)
def sZ{ks:List Key}(b:Q0 P w H h)(e:H a=some (.tup (ks.map kV))):(tupleKind (bL P w)).is h ks a:=by obtain⟨_,g,r,o,f,d,n,c⟩:=(show bD P w H h a (.tup (ks.map kV))from b a _ e);exact⟨o,g.toArray,n,f,d,c,by simpa using vJ r⟩
def sE(d:Q0 P w H h)(e:Rd H a (.dT kvs)):kvs.length<=sizeLine/\(a==sysModules)=false ∧
  ∃ xs,KT H kvs xs/\h.DictOfH (tupleKind (bL P w)) a xs:=by
 obtain⟨z,y,xs,r,o,j,k,i,g,f,b,c⟩:=(show bD P w H h a (.dT kvs)from Ii d e);refine⟨z,y,xs,r,o,j,k,i,g,f,b,λx b=>?_,c⟩;have c:∀{l:List (List Key×V)} {m:List (List Key×Addr×Value)},KT H l m->∀x∈m,(tupleKind (bL P w)).is h x.1 x.2.1:=by
  intro l m q
  induction q with
  |nil=>intro x b;exact nomatch b
  |@cons p q s n f t ih =>
   intro x b;rcases OK.mp b with e|b;subst e;exact sZ d (by rw[<- f.1];exact f.2.1);exact ih x b
 exact c r x b
def MW(b:Q0 P w H h)(e:H a=some (.dT kvs)):kvs.length<=sizeLine/\(a==sysModules)=false ∧
  ∃ xs,KT H kvs xs/\h.DictOfH (tupleKind (bL P w)) a xs:=sE b (.inl e)
end
def nN(H:Hp)(a:Addr)(y:V)(r:Option V):Prop :=
 (∃c k,Rd H a (.dK c)/\y=kV k/\r=dX c k)∨∃ c k b,Rd H a (.dT c)/\y=.ref b/\H b=some (.tup (k.map kV))/\r=dX c k
def wW(H:Hp)(a:Addr)(y v:V)(H':Hp):Prop :=
 (∃c k,H a=some (.dK c)/\y=kV k/\c.length<sizeLine/\H'=upd H a (.dK (putK c k v))) ∨
 ∃ c k b,H a=some (.dT c)/\y=.ref b/\H b=some (.tup (k.map kV))/\c.length<sizeLine/\H'=upd H a (.dT (putK c k v))
theorem nN.k{H:Hp}{a:Addr}{kvs:List (Key×V)}{k:Key}(e:H a=some (.dK kvs)):nN H a (kV k) (dX kvs k):=.inl ⟨kvs,k,.inl e,rfl,rfl⟩
theorem wW.k{H:Hp}{a:Addr}{kvs:List (Key×V)}{k:Key}{v:V}(e:H a=some (.dK kvs))(b:kvs.length<sizeLine):wW H a (kV k) v (upd H a (.dK (putK kvs k v))):=.inl ⟨kvs,k,e,rfl,b,rfl⟩
section
variable{X:Cx}{pins:yab}{σ:St}{H:Hp}{s:Shared}{a:Addr}{y v:V}{u r:Value}{o:Option V}{A:Around}{E:yaa}
def Inv.big(I:Inv X pins σ H s):sysModules<s.heap.objs.size:=by have h:mainGlobals<s.heap.objs.size:=(I.mod.glob.keeps I.bk).lt;exact Nat.lt_trans (by decide) h
def DI{Q:yaa}(q:A.units+1<cLine)(I:Inv X pins σ H s)(g:nN H a y (some v))(m:RelV y u)(h:∀d b,Inv X pins σ H b->RelV v d->Q d b) :
  wpAny (model X.prog X.w) A (getItem (.ref a) u) Q E s:=by
 rcases g with⟨b,k,e,g,l⟩| ⟨b,k,b,e,g,t,l⟩;subst g;obtain⟨z,p,n,c,i⟩:=sC I.OB e;obtain⟨d,f,j⟩:=ja.some_of (v:=v) (o:=valueAt n k) (by rw[l];exact c.val k);exact wpAny_getItem_of (wJ m) i.mapOf f (h d _ (I.tok _) j);subst g;cases(show u=Value.ref b from m);obtain⟨z,p,b,c,i⟩:=sE I.OB e;obtain⟨d,f,j⟩:=ja.some_of (v:=v) (o:=(atKey b k).map (·.2)) (by rw[l];exact c.val k);obtain⟨p,c,b⟩:=U7.mp f;refine wpAny_getItem_heap (tupleKind_room_in1 q) (sZ I.OB t) i c ?_;rw[b];exact h d _ (I.tok _) j
def uk{t':Nat}(I:Inv X pins σ H s)(b:Mut (H a))(hs:Heap.SameBut a s.heap h')(d:∃q,h'.get? a=some q)(c:bD X.prog X.w (upd H a ob) h' a ob) :
  Inv X pins σ (upd H a ob) {s with heap:=h',toks:=t'} :=
 I.write (x:=a) (e:=a) b (.inl rfl) (λb q e z=>(hs.2 b e).trans z) d c
def Lj{h':Heap}{kvs:List (Key×V)}(z:kvs.length<=sizeLine)(c:(a==sysModules)=false)(b:KV kvs vs)(dd:h'.DictOf (bL P w) a vs) :
  bD P w H' h' a (.dK kvs):=⟨z,c,vs,b,dd⟩
def DJ{Q:Unit->Shared->Prop}(G:A.units+1<cLine)(I:Inv X pins σ H s)(g:wW H a y v H')(w:RelV y u)(x:RelV v r)(h:∀b,Inv X pins σ H' b->Q () b) :
  wpAny (model X.prog X.w) A (setItem (.ref a) u r) Q E s:=by
 rcases g with⟨d,k,e,n,l,p⟩| ⟨d,k,b,e,n,C,l,p⟩;subst n p;obtain⟨z,m,f,c,t⟩:=HV I.OB e;have i:f.length<=sizeLine:=by rw[<- c.length];exact z
 have l:(putK d k v).length<=sizeLine:=by grind [qv]
 refine wpAny_setItem_pairs (hsz:=i) (wJ w) t λB g j=>h _ ?_
 have J:∃q,B.get? a=some q:=let ⟨q,_,_,f,_⟩:=g;⟨q,f⟩;exact uk I (by rw[e];exact True.intro) j J (Lj l m (c.put k x) g);subst n p;cases(show u=Value.ref b from w);obtain⟨z,m,b,c,t⟩:=MW I.OB e;have i:b.length<=sizeLine:=by rw[<- Paired.length c];exact z
 have l:(putK d k v).length<=sizeLine:=by grind [qv]
 refine wpAny_setItem_heap (hsz:=i) (tupleKind_room_in1 G) (sZ I.OB C) t λB g j=>h _ ?_
 obtain⟨q,n,p,f,i,h,d,_,b⟩:=g;refine uk I (by rw[e];exact True.intro) j ⟨q,f⟩ ⟨l,m,_,(c.put k C x).keeps λc L c=>?_,q,n,p,f,i,h,d,b⟩;rw[aw (by lia)];exact c
end
def FJ(i:Expr):Prop:=∀a b,subscripted i false a b=operate [a,b] (getItem a b)
def Ke{prog:Program}{w:World}{A:Around}{E:yaa}{s:Shared}{env:Env}{b a:Expr}{pos:Pos}{T id:String}{Q:yaa}
  (e:typeLookup (.type T) "__getitem__" = pure (some (.builtin id))) (hs:FJ a)
  (h:wpAny (model prog w) A (eval b env) (λo d=>wpAny (model prog w) A (eval a env) (λi c=>c.TypeIs o T/\wpAny (model prog w) A (getItem o i) Q E c) E d) E s) :
  wpAny (model prog w) A (eval (.Subscript b a pos) env) Q E s:=by
 refine Subscript_ (R9 h (λo d d=>R9 d (λi c d=>?_) λ_ _ x=>x) λ_ _ x=>x);obtain⟨f,d⟩:=d;refine Oa ?_;refine Oa (ZE f e ?_);have g:wpAny (model prog w) A (subscripted a false o i) (λr a=>wpAny (model prog w) A (letTemporaryGo b o r >>= λ_=>pure r) Q E a) E c:=by rw[hs o i];exact wpAny_operating (R9 d (λr a a=>Oa (wpAny_letTemporaryGo (wpAny_pure a))) λ_ _ x=>x)
 grind [wpAny_pure,wpAny_bind]
def zJ (I:Inv X pins σ H s) (g:nN H a y o):s.TypeIs (.ref a) "dict" := by
 rcases g with⟨a,k,e,_,_⟩| ⟨a,k,b,e,_,_,_⟩;obtain⟨_,_,d,_,a⟩:=sC I.OB e;exact a.typeIs;obtain⟨_,_,c,_,a⟩:=sE I.OB e;exact a.typeIs
def Nr(c b:TE):TE:=λa H Q=>c a H λx c=>b a c λy b=>∃a v,x=.ref a/\nN b a y (some v)/\Q v b
def Nn(d a c:TE):TS:=λD b H=>c b H λv c=>d b c λx c=>a b c λy d=>∃a c,x=.ref a/\wW d a y v c/\D.nx b c
section
variable{X:Cx}{o i e value:Expr}{pos pos' tpos:Pos}{td ty tv:TE}
def JN(n:X.A.units+1<cLine)(p:PE X o td)(q:PE X i ty)(hs:FJ i):PE X (.Subscript o i pos) (Nr td ty):=by intro b s c H Q I h;refine Ke PySem.F.slot_dict_getitem.lookup hs (Oj (p b s c H _ I h) λu f ⟨x,C,A,k,m⟩=>Oj (q b f c C _ A m) λL J w=>?_);obtain⟨y,B,d,j,a,v,r,g,l⟩:=w;subst r;obtain rfl:u=Value.ref a:=k;exact⟨zJ d g,DI n d g j λE G z t=>⟨v,B,z,t,l⟩⟩
def JQ(t:X.A.units+1<cLine)(w:PE X o td)(z:PE X i ty)(q:PE X value tv)(hs:swapsWith value (some (.Subscript o i pos')) pos.line X.env=pure false) :
  PS X (.Assign [.Subscript o i pos'] value pos) (Nn td ty tv):=by
 intro b s c H D I h;refine wpAny_Assign_Subscript (Oj (q b s c H _ I h) λr f ⟨v,N,J,l,p⟩=>Oj (w b f c N _ J p) λu d ⟨x,M,G,k,n⟩=>Oj (z b d c M _ G n) λT Q B=>?_) hs;obtain⟨y,H3,E,j,a,L,A,g,m⟩:=B;subst A;obtain rfl:u=Value.ref a:=k;exact DJ t E g j l λO C=>⟨c,L,C,m⟩
end
def Gj (h:Heap) (a:sysModules<h.objs.size):bD P w H (h.push {cls:=.type "dict", data:=.dict #[]}) h.objs.size (.dK []) :=
 ⟨QS _,beq_eq_false_iff_ne.mpr (Ne.symm (PY a)),[],.nil,Heap.DictOf.new h⟩
abbrev VV:List (V×V)->List (Value×Value)->Prop:=Paired λp q=>RelV p.1 q.1/\RelV p.2 q.2
structure M1(X:Cx)(o:Expr)(m:Str)(apos:Pos)(e:Expr)(cpos:Pos):Prop where
 base:attributeBase o m X.env (eval o X.env)=eval o X.env
 few:((backTo cpos (starEach [e] X.env)).all (λx=>!x.1) && (backToKw cpos (keywordEach [] X.env)).all (λx=>x.1.isSome)
  && decide (([e]:yai).length+([]:List Keyword).length+(if([]:List Keyword).isEmpty then 0 else 1)<30))=true
 line:(apos.endLine==cpos.line)=true
 trees:backTo cpos (starEach [e] X.env)=[(false,eval e X.env)]
structure M2(X:Cx)(o:Expr)(m:Str)(apos:Pos)(e f:Expr)(cpos:Pos):Prop where
 base:attributeBase o m X.env (eval o X.env)=eval o X.env
 few:((backTo cpos (starEach [e,f] X.env)).all (λx=>!x.1) && (backToKw cpos (keywordEach [] X.env)).all (λx=>x.1.isSome)
  && decide (([e,f]:yai).length+([]:List Keyword).length+(if([]:List Keyword).isEmpty then 0 else 1)<30))=true
 line:(apos.endLine==cpos.line)=true
 trees:backTo cpos (starEach [e,f] X.env)=[(false,eval e X.env),(false,eval f X.env)]
def IsD(H:Hp)(a:Addr):Prop:=(∃b,Rd H a (.dK b))∨∃ b,Rd H a (.dT b)
def LS(I:Inv X pins σ H s)(d:IsD H a) :
  s.TypeIs (.ref a) "dict" /\ (∀b,Value.ref a=.ref b->∃ob,s.heap.get? b=some ob/\ob.dict=none)/\(a==sysModules)=false:=by
 rcases d with⟨a,e⟩| ⟨a,e⟩;obtain⟨_,c,h,_,a⟩:=sC I.OB e;refine⟨a.typeIs,λb q=>?_,c⟩;cases q;obtain⟨ob,_,_,f,d,_⟩:=a;exact⟨ob,f,d.2.1⟩;obtain⟨_,c,g,_,a⟩:=sE I.OB e;refine⟨a.typeIs,λb q=>?_,c⟩;cases q;obtain⟨ob,_,_,f,d,_⟩:=a;exact⟨ob,f,d.2.1⟩
section
variable{X:Cx}{pins:yab}{σ:St}{H:Hp}{s:Shared}{a:Addr}{y d:V}{u r:Value}{o:Option V}{A:Around}{E:yaa}
def Lf{Q:yaa}(m:A.units+1<cLine)(I:Inv X pins σ H s)(g:nN H a y o)(j:RelV y u)(rd:RelV d r)(h:∀b c,Inv X pins σ H c->RelV (o.getD d) b->Q b c) :
  wpAny (model X.prog X.w) A (call (.builtin "dict.get") [.ref a,u,r]) Q E s:=by
 rcases g with⟨b,k,e,i,l⟩| ⟨b,k,b,e,i,n,l⟩;subst i;obtain⟨z,g,p,c,f⟩:=sC I.OB e;refine call_meetsIn PySem.F.slot_dict_get f.typeIs PySem.F.entry_dict_get (PySem.F.args_dict_get_3 _ _ _) (meets_dict_get_default (bL X.prog X.w) a (wJ j) g r) ⟨_,f.mapOf,h _ _ (I.tok _) ?_⟩;rw[l];exact(c.val k).getD rd;subst i;cases(show u=Value.ref b from j);obtain⟨z,g,i,c,f⟩:=sE I.OB e;refine call_meetsIn PySem.F.slot_dict_get f.typeIs PySem.F.entry_dict_get (PySem.F.args_dict_get_3 _ _ _) (meetsH_dict_get_default (tupleKind (bL X.prog X.w)) a b g r) ⟨tupleKind_room_in1 m,k,i,sZ I.OB n,f,h _ _ (I.tok _) ?_⟩;rw[l];exact(c.val k).getD rd
end
def ME(a d e:TE):TE:=λb H Q=>a b H λx c=>∃a,x=.ref a/\IsD c a/\d b c λy c=>e b c λz b=>∃o,nN b a y o/\Q (o.getD z) b
section
variable{X:Cx}{o e f:Expr}{apos cpos:Pos}{td ty tx:TE}
def G1 (k:X.A.units+1<cLine) (a:PE X o td) (n:PE X e ty) (l:PE X f tx) (m:M2 X o "get" apos e f cpos):PE X (.Call (.Attribute o "get" apos) [e,f] [] cpos) (ME td ty tx):=by
 intro b s c H Q I h;refine wpAny_Call_method m.base m.few m.line PySem.F.plainAttrs_dict PySem.F.slot_dict_get PySem.F.type_dict_get (Oj (a b s c H _ I h) λu i q=>?_);obtain⟨x,r,g,h,a,p,d,j⟩:=q;subst p;obtain rfl:u=Value.ref a:=h;obtain⟨h,a,_⟩:=LS g d;refine⟨h,a,?_⟩;rw[m.trees];refine Calls.callWith_builtin rfl (Calls.evalArgs_plain (Calls.spliced_cons (Oj (n b i c r _ g j) λC a ⟨y,i,h,d,g⟩=>
  Calls.spliced_cons (Oj (l b a c i _ h g) λE A ⟨z,h,c,a,B,g,b⟩=>Calls.spliced_nil ?_))))
 exact Lf k c g d a λt w c a=>⟨_,h,c,a,b⟩
end
end L2
namespace PM
def yh(a b:Int):Int.gcd b (a.fmod b)=Int.gcd a b:=by
 have h:=Int.fmod_add_mul_fdiv a b;have c:a=a.fmod b+a.fdiv b*b:=by simp_all [Rx]
 rw[Int.gcd_comm a b]
 conv=>rhs;rw[c]
 rw[Int.gcd_add_mul_right_right]
def vD(a:Int){b:Int}(d:b≠0):(a.fmod b).natAbs<b.natAbs:=by
 by_cases h:0<b;have g:=Int.fmod_lt_of_pos a h;have c:=zC3 a h;omega;have e:a.fmod b=-((-a).fmod (-b)):=by simp_all
 have c:=Int.fmod_lt_of_pos (-a) (b:=-b) (by omega);have f:=zC3 (-a) (b:=-b) (by omega);omega
noncomputable def g3(x y z:Int):Nat:=Int.gcd (Int.gcd x y:Int) z
def uw(x y z:Int):(g3 x y z:Int)∣x:=X0 (Int.gcd_dvd_left _ _) (Int.gcd_dvd_left _ _)
theorem yb(x y z:Int):(g3 x y z:Int)∣y:=X0 (Int.gcd_dvd_left _ _) (Int.gcd_dvd_right _ _)
theorem yc(x y z:Int):(g3 x y z:Int)∣z:=Int.gcd_dvd_right _ _
def Lq{x y z d:Int}(c:d∣x)(b:d∣y)(a:d∣z):d∣(g3 x y z:Int):=ZC (ZC c b) a
def ux:g3 x y z=0↔x=0/\y=0/\z=0:=by
 unfold g3;rw[Int.gcd_eq_zero_iff];constructor;rintro⟨h,a⟩;have d:Int.gcd x y=0:=by lia
 obtain⟨c,b⟩:=Int.gcd_eq_zero_iff.mp d;exact⟨c,b,a⟩;rintro⟨c,b,a⟩;subst c b a;simp
def Qp(x y z l:Int):Int:=if l<0 then -(g3 x y z:Int)else(g3 x y z:Int)
def xT{x y z:Int}(h:¬(x=0/\y=0/\z=0)):Qp x y z l≠0:=by
 have:g3 x y z≠0:=λe=>h (ux.mp e)
 unfold Qp;split<;>omega
def AJ(x y z l:Int):(Qp x y z l).natAbs=g3 x y z:=by unfold Qp;split<;>lia
def IW{x y z t:Int}(h:(g3 x y z:Int)∣t):Qp x y z l∣t:=by unfold Qp;split;exact Int.neg_dvd.mpr h;exact h
def dJ{x y z t:Int}(h:(g3 x y z:Int)∣t):t.fdiv (Qp x y z l)*Qp x y z l=t:=by have a:=IW (l:=l) h;rw[Int.fdiv_eq_ediv_of_dvd a];exact Int.ediv_mul_cancel a
def Mv{x y z:Int}(h:¬(x=0/\y=0/\z=0)):g3 (x.fdiv (Qp x y z l)) (y.fdiv (Qp x y z l)) (z.fdiv (Qp x y z l))=1:=by
 have j:=dJ (l:=l) (uw x y z);have o:=dJ (l:=l) (yb x y z);have n:=dJ (l:=l) (yc x y z);have p:=xT (l:=l) h;have f:=AJ x y z l;generalize x.fdiv (Qp x y z l)=a at j ⊢;generalize y.fdiv (Qp x y z l)=b at o ⊢;generalize z.fdiv (Qp x y z l)=c at n ⊢;generalize Qp x y z l=g at *;have m:(g3 a b c:Int)*g∣(g3 x y z:Int):=by
  refine Lq ?_ ?_ ?_;rw[<- j];exact Int.mul_dvd_mul (uw a b c) (by simp_all)
  all_goals grind [Int.mul_dvd_mul,yb,Int.dvd_refl,yc]
 have d:g3 a b c*g.natAbs∣g.natAbs:=by
  have:=zC9.mpr m
  simp_all [XZ]
 have k:0<g.natAbs:=by lia
 have:=Nat.le_of_dvd k d;have q:g3 a b c≠0:=by
  intro e
  simp_all
 rcases Xh (g3 a b c) 2 with i|i
 lia
 have:2*g.natAbs<=g3 a b c*g.natAbs:=Zm _ i
 lia
def JX{x y z l:Int}(d:l≠0)(a:(g3 x y z:Int)∣l)(h:¬(x=0/\y=0/\z=0)):0<l.fdiv (Qp x y z l):=by
 have e:=dJ (l:=l) a;have f:g3 x y z≠0:=λe=>h (ux.mp e)
 have b:(l<0/\Qp x y z l<0)∨(0<l/\0<Qp x y z l):=by
  unfold Qp;split
  left;omega
  right;omega
 generalize l.fdiv (Qp x y z l)=a at e ⊢;generalize Qp x y z l=g at *;rcases Xa a 0 with a|a|a;exfalso;rcases b with⟨c,b⟩| ⟨c,b⟩;have:=Zi a b;omega;have:=U6 a b;omega;subst a;simp at e;omega;exact a
def D0(a:Int):Int.gcd a 0=a.natAbs:=by simp
def Jf(a b:Int):Int.gcd ((a.natAbs:Nat):Int) ((b.natAbs:Nat):Int)=Int.gcd a b:=by unfold Int.gcd;simp
end PM
namespace PX
open PySem PySem.W PySem.Spec PySem.Calls PyProof.Rows PySem.Builtin.ObjectAttr PySem.Builtin.Getset_descriptor
def ExcAt(e c:Addr)(h:Heap):Prop:=∃o a,h.get? e=some o/\o.cls=.ref c/\o.data=.fields a
def ExcAt.ty(p:ExcAt e c h):Looks M h (typeOf (.ref e)) (.ref c):=by obtain⟨o,d,b,a,_⟩:=p;exact a ▸ (Looks.ld b).andThen .now
noncomputable def Gp(K:Frag)(c:Addr):Bool :=
 (clsIn K c).isSome && findIn K (.ref c) "__getattribute__" == some (some (.builtin "BaseException.__getattribute__"))
 && findIn K (.ref c) "__getattr__" == some none && findIn K (.ref c) "__class__" == some (some (.builtin "object.__class__"))
 && specialIn K (.builtin "object.__class__") "__get__" == some (some (.builtin "getset_descriptor.__get__"))
 && takesIn K (.builtin "object.__class__")==some true
 && mroIn K c (.type "object")==some true && mroIn K c (.type "BaseException")==some true
 && kitOne K (.ref c) (.type "int")==some false && kitOne K (.ref c) (.type "bool")==some false && kitOne K (.ref c) (.type "tuple")==some false
 && kitOne K (.ref c) (.type "list")==some false && kitOne K (.ref c) (.type "str")==some false
structure BO(K:Frag)(c:Addr):Prop where
 pg:plainGet K c "__class__" = true
 hd:hasDictIn K c=true
 at_:findIn K (.ref c) "__class__" = some (some (.builtin "object.__class__"))
 get:specialIn K (.builtin "object.__class__") "__get__" = some (some (.builtin "getset_descriptor.__get__"))
 takes:takesIn K (.builtin "object.__class__")=some true
 obj:mroIn K c (.type "object")=some true
 not:∀T,(T = "int" ∨ T = "bool" ∨ T = "tuple" ∨ T = "list" ∨ T = "str")->kitOne K (.ref c) (.type T)=some false
structure fT(K:Frag)(c:Addr):Prop where
 cls:(clsIn K c).isSome=true
 ga:findIn K (.ref c) "__getattribute__" = some (some (.builtin "BaseException.__getattribute__"))
 hook:findIn K (.ref c) "__getattr__" = some none
 at_:findIn K (.ref c) "__class__" = some (some (.builtin "object.__class__"))
 get:specialIn K (.builtin "object.__class__") "__get__" = some (some (.builtin "getset_descriptor.__get__"))
 takes:takesIn K (.builtin "object.__class__")=some true
 obj:mroIn K c (.type "object")=some true
 exc:mroIn K c (.type "BaseException")=some true
 not:∀T,(T = "int" ∨ T = "bool" ∨ T = "tuple" ∨ T = "list" ∨ T = "str")->kitOne K (.ref c) (.type T)=some false
def fT.of{K:Frag}{c:Addr}(h:Gp K c=true):fT K c:=by unfold Gp at h;simp at h;obtain⟨⟨⟨⟨⟨⟨⟨⟨⟨⟨⟨⟨m,g⟩,f⟩,e⟩,d⟩,c⟩,b⟩,a⟩,n⟩,l⟩,k⟩,j⟩,i⟩:=h;exact⟨m,g,f,e,d,c,b,a,by lia⟩
section
variable{prog:Program}{w:World}{A:Around}{E:yaa}{s:Shared}{K:Frag}{e c:Addr}
def Nv {R:Result->Shared->Prop} {a:Value} (X:K.In s.heap) (p:ExcAt e c s.heap) (d:mroIn K c (.type "object")=some true) (b:R (.ok (.ret (.ref c))) s) :
  codeAny (model prog w) A (.call (.builtin "getset_descriptor.__get__") ⟨[.builtin "object.__class__", .ref e,a],[]⟩) R s:=by
 have La:=p.ty (M:=model prog w);have Lb:=looks_mroIn (M:=model prog w) X d;refine codeAny_call_builtin (KF.slot_gs.plain) KF.entry_gs (KF.slot_gs.check _ _ _ _ _ _ _ _ KF.type_class (KF.args_gs _ _ _) ?_);unfold Builtin.«getset_descriptor.__get__» descrGet;refine Oa (wpAny_pure ?_);unfold descrGetter descrCheckInstance descrNameAndClass isInstance;simp only[KF.owner_class]
 repeat lk
 refine⟨Code.quiet_builtin _ (by decide +kernel),Xd KF.entry_class ?_⟩
 repeat lk
 exact b
def MM (k:fT K c) (X:K.In h):Looks M h (find (.ref e) (.ref c) "__class__") (.bind (.builtin "getset_descriptor.__get__") (.builtin "object.__class__")):=by have d:=looks_findIn (M:=M) X k.at_;have b:Looks M h (getOf (some (.builtin "object.__class__"))) (some (.builtin "getset_descriptor.__get__")):=looks_specialIn X k.get;have a:=looks_takesIn (M:=M) X k.takes;refine d.andThen (b.andThen ?_);exact(show Looks M h (dataDescriptor? (some (.builtin "object.__class__")) (some (.builtin "getset_descriptor.__get__"))) (some (.builtin "getset_descriptor.__get__", .builtin "object.__class__"))from a.andThen .now).andThen (Looks.tag .now)
def Kn{a:Tok}{Q:Fin->Shared->Prop}(k:fT K c)(X:K.In s.heap)(p:ExcAt e c s.heap)(b:Q (.done (.ret (.ref c))) s) :
  wpAny (model prog w) A (Builtin.«object.__getattribute__» ⟨[.ref e,.str "__class__" a],[]⟩) Q E s:=by
 have d:=p.ty (M:=model prog w);have a:=MM (M:=model prog w) (e:=e) k X;refine Oa (wpAny_pure ?_);refine Oa (wpAny_pure ?_);refine Oa (d.at (Oa (a.at ?_)));unfold bindTo
 repeat (first|with_reducible refine Oa ?_|with_reducible refine SF ?_)
 refine wpAny_call (Nv X p k.obj ?_);exact wpAny_pure b
def Km{a:Value}{Q:Unit->Shared->Prop}(k:fT K c)(X:K.In s.heap)(p:ExcAt e c s.heap)(b:Q () s) :
  wpAny M A (checkBuiltinCall "BaseException.__getattribute__" ⟨[.ref e,a],[]⟩) Q E s:=by
 obtain⟨h,g,l,t,os⟩:=s;have d:builtinKind "BaseException.__getattribute__" = some .slot:=by decide +kernel
 have f:splitId "BaseException.__getattribute__" = some ("BaseException", "__getattribute__"):=by decide +kernel
 have j:=F.args_bexc_ga (.ref e) a;have i:=p.ty (M:=M);have g:=looks_mroIn (M:=M) X k.exc;have a:Looks M h (isInstance (.ref e) (.type "BaseException")) true:=i.andThen g;simp only[checkBuiltinCall,d,f];refine Oa (a.at ?_)
 repeat (first|wp_step)
 exact b
def x_call{a:Tok}{R:Result->Shared->Prop}(k:fT K c)(X:K.In s.heap)(p:ExcAt e c s.heap)(b:R (.ok (.ret (.ref c))) s) :
  codeAny (model prog w) A (.call (.builtin "BaseException.__getattribute__") ⟨[.ref e,.str "__class__" a],[]⟩) R s :=
 codeAny_call_builtin F.excAttr_ValueError.ga.plain F.entry_bexc_ga (Km k X p (Kn k X p b))
def ML{Q:yan->Shared->Prop}(k:fT K c)(X:K.In s.heap)(p:ExcAt e c s.heap)(b:Q (some (.ref c)) {s with toks:=s.toks+1}) :
  wpAny (model prog w) A (getAttr? (.ref e) "__class__") Q E s:=by
 have f:=p.ty (M:=model prog w);have d:=looks_findIn (M:=model prog w) X k.ga;have a:=looks_findIn (M:=model prog w) X k.hook;have g:=F.excAttr_ValueError.ga.bind (.ref e);refine Oa (wpAny_mkText (Oa (X2 (SF (Oa (f.at (Oa (d.at ?_))))))));have PJ:(Value.builtin "BaseException.__getattribute__" == Value.builtin "object.__getattribute__")=false:=by decide +kernel
 refine Oa (a.at ?_);refine Oa (X2 (SF ?_));refine wpAny_call (x_call k X p ?_);refine wpAny_pure (a:=Value.ref c) ?_;exact wpAny_pure b
set_option tactic.hygienic true in
def GH(k:fT K c):KitX K (.ref e) (.ref c) (ExcAt e c) where
 ty:=λ_ _ _ p=>p.ty
 it:=λ_ _ X _=>by have h:=k.cls;unfold clsIn at h;split at h;rename_i l j g a f;intro A' Q' E' o b q;exact Oa (wpAny_loadPart (b _ _ (X _ _ f)) (wpAny_pure q));cases h
 ne:=λh i r Oe n m X d=>by
  have h:=k.cls;refine Bool.eq_false_iff.mpr λq=>?_
  have z:c=i:=by lia
  subst z;unfold clsIn at h;split at h;rename_i l j g a f;cases(X _ _ f).symm.trans d;cases h
 ca:=λX p b=>ML k X p b
end
end PX
namespace PD
open PySem PySem.Spec PyProof.Rows L2 PX
abbrev St:=L2.St
def NT:HO->Prop
 |.TC _=>False
 |_=>True
def NJ:Str := "lightest.<locals>.<lambda>"
def Kq(c:Addr):Heap->Prop:=λh=>h.CodeRec (.ref c) NJ
def cX(H:Hp):Prop:=∀P a,H P=some (.TC a)->TriplesOk a.toList/\∀b d,codeAmong b a.toList=some d->∃c,d=.ref c/\H c=some (.ext (Kq c))
noncomputable def tabOf(K:yac):Option Addr :=
 match PySem.W.nsIn K mainGlobals "lightest" with
 |some (some (.ref f))=>(match K.lookup f with
  |some ⟨_,_,.func a,_⟩=>(match a.code with
   |.ref c=>(match K.lookup c with
    |some ⟨_,_,.fields a,_⟩=>(match(a[11]?:yan)with
     |some (.ref P)=>if(K.lookup P).isNone=true then some P else none
     |_=>none)
    |_=>none)
   |_=>none)
  |_=>none)
 |_=>none
structure ar(H H':Hp):Prop where
 kp:∀b o,H b=some o->NT o->H' b=some o
 tb:∀b ps,H b=some (.TC ps)->∃more,H' b=some (.TC (ps++more))
 ok:cX H->cX H'
def ar.app(e:ar H H')(b:Addr)(o:HO)(h:H b=some o)(a:NT o:=by first|exact True.intro|assumption):H' b=some o:=e.kp b o h a
instance {H H':Hp}:CoeFun (ar H H') (λ_=>∀(b:Addr) (o:HO),H b=some o->(nt:NT o:=by first|exact True.intro|assumption)->H' b=some o):=⟨@ar.app H H'⟩
def ar.refl(H:Hp):ar H H:=⟨by lia,by simp_all,id⟩
def ar.trans(a:ar H H1)(b:ar H1 H2):ar H H2:=⟨λc o h n=>b.kp c o (a.kp c o h n) n,λc d h=>by obtain⟨e,g⟩:=a.tb c d h;obtain⟨d,f⟩:=b.tb c _ g;exact⟨e++d,by rw[f,Array.append_assoc]⟩,λh=>b.ok (a.ok h)⟩
def ar.ex(e:ar H H'){o:HO}(h:H b=some o):∃a,H' b=some a:=by
 by_cases n:NT o;exact⟨o,e.kp b o h n⟩;cases o with
 |TC a =>
  obtain⟨m,q⟩:=e.tb b a h;exact⟨_,q⟩
 |_=>exact absurd True.intro n
def ar.free(e:ar H H')(h:H' l=Option.none):H l=Option.none:=by
 cases q:H l with
 |none=>rfl
 |some o =>
  obtain⟨a,z⟩:=e.ex q
  lia
def ar.seq{K:yac}{H H':Hp}{a:Addr}{xs:yar}(e:ar H H')(h:SqL K H a xs):SqL K H' a xs:=by
 rcases h with(h|⟨o,h⟩)|h;exact .inl (.inl (e _ _ h));exact .inl (.inr ⟨o,e _ _ h⟩);exact .inr h
theorem cX.upd{H:Hp}(n:NT o)(f:H p=none∨∃ u,H p=some u/\(∀a,u ≠ .ext a)/\NT u)(h:cX H):cX (upd H p o):=by
 intro P a e;have b:P≠p:=λz=>by subst z;rw[aD]at e;cases e;exact n
 rw[aw b]at e;obtain⟨c,b⟩:=h P a e;refine⟨c,λa e q=>?_⟩;obtain⟨c,d,g⟩:=b a e q;refine⟨c,d,?_⟩;rw[aw λz=>?_]
 all_goals grind
structure jd(K:yac)(H:Hp):Prop where
 ok:cX H
 at':∀P,tabOf K=some P->∃ps,H P=some (.TC ps)
def jd.same{K:yac}{H H':Hp}(h:jd K H)(e:ar H H'):jd K H':=⟨e.ok h.ok,λP q=>by obtain⟨a,z⟩:=h.at' P q;obtain⟨m,z⟩:=e.tb P a z;exact⟨_,z⟩⟩
theorem jd.upd{K:yac}{H:Hp}{p:Addr}{o:HO}(h:jd K H)(n:NT o)(a:H p=none∨∃ u,H p=some u/\(∀b,u ≠ .ext b)/\NT u):jd K (upd H p o):=⟨cX.upd n a h.ok,λP q=>by
 obtain⟨b,z⟩:=h.at' P q;refine⟨b,?_⟩;rw[aw λe=>?_];exact z;subst e;rcases a with a|⟨u,a,_,b⟩
 lia
 rw[a]at z;cases z;exact b⟩
inductive D where
 |ON|bl (b:Bool)|int (i:Int)|str (x:Str)|tup (ds:List D)|lst (t:Bool) (ds:List D)|exc (c:Addr)|obj (C:Addr) (ns:yah) (ds:List D)|SR|RD (ks:yaf) (ds:List D)|ra (a:Addr)
abbrev yas:=List D
def V3:HO->Prop
 |.ext _=>True|.ins _ _ _=>True|.frz _ (.dK _)=>True|_=>False
def V3.nt(h:V3 o):NT o:=by cases o<;>first|exact True.intro|exact h.elim
def QK(K:yac)(H:Hp)(t:Bool)(a:Addr)(vs:yar):Prop:=SqL K H a vs/\(t=true->H a=some (.lst vs)/\K.lookup a=none)
def QK.same{K:yac}{H H':Hp}{t:Bool}{a:Addr}{vs:yar}(e:ar H H')(q:QK K H t a vs):QK K H' t a vs:=⟨e.seq q.1,λz=>⟨e _ _ (q.2 z).1,(q.2 z).2⟩⟩
def QK.any{K:yac}{H:Hp}{a:Addr}{vs:yar}(q:SqL K H a vs):QK K H false a vs:=⟨q,λz=>by cases z⟩
def QK.new{K:yac}{H:Hp}(q:H a=some (.lst vs))(k:K.lookup a=none):QK K H t a vs:=⟨SqL.of q,λ_=>⟨q,k⟩⟩
def OT(K:yac)(H:Hp)(a:Addr)(xs:yar):Prop:=H a=some (.tup xs) ∨
 ∃ (o:Obj) (b:yao) (n:Nat),K.lookup a=some o/\o.cls=.type "tuple" /\ o.data=.seq b n/\b.size<=sizeLine/\Vals xs b.toList
def OT.w{K:yac}{H:Hp}{a:Addr}{xs:yar}(h:OT K H a xs):L2.OT K H a xs:=h.imp .inl id
def OT.of{K:yac}{H:Hp}{a:Addr}{xs:yar}(h:H a=some (.tup xs)):OT K H a xs:=.inl h
mutual
def Den(K:yac)(P:yak)(H:Hp):D->V->Prop
 |.ON,v=>v=.ON
 |.bl b,v=>v=.bl b
 |.int i,v=>v=.int i
 |.str x,v=>v=.str x
 |.tup d,v=>∃a b,v=.ref a/\OT K H a b/\ah K P H d b
 |.lst t d,v=>∃a b,v=.ref a/\¬P t a/\QK K H t a b/\ah K P H d b
 |.exc c,v=>∃e,v=.ref e/\H e=some (.ext (ExcAt e c))/\fT K c
 |.SR,v=>∃a,v=.ref a/\H a=some (.ext (PySem.W.KitAt a "dict"))
 |.obj C c d,v=>∃a e b,v=.ref a/\H a=some (.ins C e (c.zip b))/\b.length=c.length/\BO K C/\ah K P H d b
 |.RD e d,v=>∃a o c b,v=.ref a/\H a=some (.frz o (.dK c))/\c=(e.map Sum.inl).zip b/\b.length=e.length/\ah K P H d b
 |.ra a,v=>v=.ref a/\¬P false a/\∃b,QK K H false a b
def ah(K:yac)(P:yak)(H:Hp):yas->yar->Prop
 |[],a=>a=[]
 |d::b,a=>∃v r,a=v::r/\Den K P H d v/\ah K P H b r
end
section
variable{K:yac}{P P':yak}{H H':Hp}
mutual
theorem Den.map(g:∀a vs,OT K H a vs->OT K H' a vs)(f:∀t a vs,¬P t a->QK K H t a vs->¬P' t a/\QK K H' t a vs)(b:∀a o,V3 o->H a=some o->H' a=some o):∀(d:D) (v:V),Den K P H d v->Den K P' H' d v
 |.ON,_,h=>by simpa only[Den]using h
 |.bl _,_,h=>by simpa only[Den]using h
 |.int _,_,h=>by simpa only[Den]using h
 |.str _,_,h=>by simpa only[Den]using h
 |.tup d,_,h=>by simp only[Den]at h ⊢;obtain⟨a,vs,e,q,r⟩:=h;exact⟨a,vs,e,g a vs q,ah.map g f b d vs r⟩
 |.lst t d,_,h=>by simp only[Den]at h ⊢;obtain⟨a,vs,e,p,q,r⟩:=h;exact⟨a,vs,e,(f t a vs p q).1,(f t a vs p q).2,ah.map g f b d vs r⟩
 |.exc c,_,h=>by simp only[Den]at h ⊢;obtain⟨a,e,q,k⟩:=h;exact⟨a,e,b a _ True.intro q,k⟩
 |.obj C i d,_,h=>by simp only[Den]at h ⊢;obtain⟨a,c,vs,e,q,l,k,r⟩:=h;exact⟨a,c,vs,e,b a _ True.intro q,l,k,ah.map g f b d vs r⟩
 |.SR,_,h=>by simp only[Den]at h ⊢;obtain⟨a,e,q⟩:=h;exact⟨a,e,b a _ True.intro q⟩
 |.RD j d,_,h=>by simp only[Den]at h ⊢;obtain⟨a,o,c,vs,e,q,l,k,r⟩:=h;exact⟨a,o,c,vs,e,b a _ True.intro q,l,k,ah.map g f b d vs r⟩
 |.ra a,_,h=>by simp only[Den]at h ⊢;obtain⟨e,p,vs,q⟩:=h;obtain⟨c,b⟩:=f false a vs p q;exact⟨e,c,vs,b⟩
theorem ah.map(c:∀a vs,OT K H a vs->OT K H' a vs)(f:∀t a vs,¬P t a->QK K H t a vs->¬P' t a/\QK K H' t a vs)(b:∀a o,V3 o->H a=some o->H' a=some o):∀(ds:yas) (vs:yar),ah K P H ds vs->ah K P' H' ds vs
 |[],_,h=>by simpa only[ah]using h
 |d::ds,_,h=>by simp only[ah]at h ⊢;obtain⟨v,r,e,g,a⟩:=h;exact⟨v,r,e,Den.map c f b d v g,ah.map c f b ds r a⟩
end
end
def OT.same{K:yac}{H H':Hp}{a:Addr}{xs:yar}(e:ar H H')(h:OT K H a xs):OT K H' a xs:=h.imp (e _ _) id
section
variable{K:yac}{P:yak}{H H':Hp}
theorem Den.same(e:ar H H')(h:Den K P H d v):Den K P H' d v:=Den.map (λ_ _ q=>OT.same e q) (λ_ _ _ p q=>⟨p,q.same e⟩) (λa _ n q=>e.kp a _ q n.nt) d v h
theorem ah.same(e:ar H H')(h:ah K P H ds vs):ah K P H' ds vs:=ah.map (λ_ _ q=>OT.same e q) (λ_ _ _ p q=>⟨p,q.same e⟩) (λa _ n q=>e.kp a _ q n.nt) ds vs h
def Den.OC{P':yak}(e:∀t a,P' t a->P t a)(h:Den K P H d v):Den K P' H d v:=Den.map (λ_ _ q=>q) (λ_ _ _ p q=>⟨λz=>p (e _ _ z),q⟩) (λ_ _ _ q=>q) d v h
def ah.OC{P':yak}(e:∀t a,P' t a->P t a)(h:ah K P H ds vs):ah K P' H ds vs:=ah.map (λ_ _ q=>q) (by grind) (by lia) ds vs h
theorem ah.len:∀{ds:yas} {vs:yar},ah K P H ds vs->vs.length=ds.length
 |[],_,h=>by simp only[ah]at h;simp_all
 |d::ds,_,h=>by obtain⟨v,r,rfl,_,a⟩:=h;simp[ah.len a]
theorem ah.get:∀{ds:yas} {vs:yar} {i:Nat} {d:D},ah K P H ds vs->ds[i]?=some d->∃v,vs[i]?=some v/\Den K P H d v
 |[],_,_,_,_,e=>by simp at e
 |d::ds,_,0,_,h,e=>by simp only[ah]at h;obtain⟨v,r,rfl,a,_⟩:=h;simp at e;subst e;exact⟨v,rfl,a⟩
 |d::ds,_,i+1,x,h,e=>by simp only[ah]at h;obtain⟨v,r,rfl,_,a⟩:=h;obtain⟨u,c,b⟩:=ah.get (i:=i) (d:=x) a (by simpa using e);exact⟨u,by simpa using c,b⟩
theorem ah.bA:∀{ds:yas} {vs:yar} {i:Nat} {v:V},ah K P H ds vs->vs[i]?=some v->∃d,ds[i]?=some d/\Den K P H d v
 |[],_,_,_,h,e=>by simp only[ah]at h;simp_all
 |d::ds,_,0,_,h,e=>by simp only[ah]at h;grind
 |d::ds,_,i+1,x,h,e=>by
  obtain⟨v,r,rfl,_,a⟩:=h;obtain⟨u,c,b⟩:=ah.bA (i:=i) (v:=x) a (by simpa using e)
  simp_all
theorem ah.append:∀{ds es:yas} {vs a:yar},ah K P H ds vs->ah K P H es a->ah K P H (ds++es) (vs++a)
 |[],_,_,_,h,a=>by simp only[ah]at h;simp_all
 |d::ds,_,_,_,h,a=>by obtain⟨v,r,rfl,c,b⟩:=h;exact⟨v,_,rfl,c,ah.append b a⟩
def ah.one(h:Den K P H d v):ah K P H [d] [v]:=by simp only[ah];exact⟨v,[],rfl,h,rfl⟩
def ah.nil:ah K P H [] []:=by simp only[ah]
def ah.cons(h:Den K P H d v)(h':ah K P H ds vs):ah K P H (d::ds) (v::vs):=by exact⟨v,vs,rfl,h,h'⟩
def Den.Pk(h:Den K P H (.int i) v):v=.int i:=by simpa only[Den]using h
def Den.WI(h:Den K P H (.bl b) v):v=.bl b:=by simpa only[Den]using h
def Den.V4(h:Den K P H .ON v):v=.ON:=by simpa only[Den]using h
def Den.Xn(h:Den K P H (.str x) v):v=.str x:=by simpa only[Den]using h
theorem Den.int(i:Int):Den K P H (.int i) (.int i):=by simp only[Den]
theorem Den.bl(b:Bool):Den K P H (.bl b) (.bl b):=by simp only[Den]
theorem Den.ON:Den K P H .ON .ON:=by simp only[Den]
theorem Den.str(x:Str):Den K P H (.str x) (.str x):=by simp only[Den]
def Den.Qq(h:Den K P H (.tup ds) v):∃a vs,v=.ref a/\OT K H a vs/\ah K P H ds vs:=by simpa only[Den]using h
def Den.Rf(h:Den K P H (.lst t ds) v):∃a vs,v=.ref a/\¬P t a/\QK K H t a vs/\ah K P H ds vs:=by simpa only[Den]using h
def Den.Q3(h:Den K P H (.lst t ds) v):∃a vs,v=.ref a/\¬P t a/\SqL K H a vs/\ah K P H ds vs:=by obtain⟨a,vs,e,d,c,b⟩:=h.Rf;exact⟨a,vs,e,d,c.1,b⟩
def Den.dic_ (h:Den K P H .SR v):∃a,v=.ref a/\H a=some (.ext (PySem.W.KitAt a "dict")):=by simpa only[Den]using h
theorem Den.SR (h:H a=some (.ext (PySem.W.KitAt a "dict"))):Den K P H .SR (.ref a):=by simp only[Den];exact⟨a,rfl,h⟩
def Den.YL(h:Den K P H (.obj C ns ds) v):∃a b vs,v=.ref a/\H a=some (.ins C b (ns.zip vs))/\vs.length=ns.length/\BO K C/\ah K P H ds vs:=by simpa only[Den]using h
theorem Den.obj{ns:yah}(h:H a=some (.ins C dx (ns.zip vs)))(l:vs.length=ns.length)(k:BO K C)(d:ah K P H ds vs):Den K P H (.obj C ns ds) (.ref a):=by exact⟨a,dx,vs,rfl,h,l,k,d⟩
def Den.ra_(h:Den K P H (.ra a) v):v=.ref a/\¬P false a/\∃vs,QK K H false a vs:=by simpa only[Den]using h
def Den.Xo(h:Den K P H (.RD ks ds) v):∃a o kws vs,v=.ref a/\H a=some (.frz o (.dK kws))/\kws=(ks.map Sum.inl).zip vs/\vs.length=ks.length/\ah K P H ds vs:=by simpa only[Den]using h
theorem Den.RD{ks:yaf}(h:H a=some (.frz o (.dK ((ks.map Sum.inl).zip vs))))(l:vs.length=ks.length)(d:ah K P H ds vs):Den K P H (.RD ks ds) (.ref a):=by exact⟨a,o,_,vs,rfl,h,rfl,l,d⟩
def Den.YM(h:Den K P H (.exc c) v):∃e,v=.ref e/\H e=some (.ext (ExcAt e c))/\fT K c:=by simpa only[Den]using h
theorem Den.exc(h:H e=some (.ext (ExcAt e c)))(k:fT K c):Den K P H (.exc c) (.ref e):=by simp only[Den];exact⟨e,rfl,h,k⟩
theorem Den.tup(h:OT K H a vs)(h':ah K P H ds vs):Den K P H (.tup ds) (.ref a):=by exact⟨a,vs,rfl,h,h'⟩
theorem Den.lst(p:¬P t a)(h:QK K H t a vs)(h':ah K P H ds vs):Den K P H (.lst t ds) (.ref a):=by exact⟨a,vs,rfl,p,h,h'⟩
end
inductive LI where
 |own (ds:yas)|val (d:D)
inductive OS where
 |lst (ds:yas)|dk (kvs:List (Key×D))|dt (kvs:List (List Key×D))|ll (xs:List LI)
inductive Sl where
 |val (d:D)
 |ob (x:OS)
abbrev Sl.own(ds:yas):Sl:=.ob (.lst ds)
def aY(K:yac)(P:yak)(H:Hp)(B:yaj):Nat->List LI->yar->Prop
 |_,[],a=>a=[]
 |k,.own d::r,a=>∃b c u,a=.ref b::u/\B k=some b/\H b=some (.lst c)/\ah K P H d c/\aY K P H B (k+1) r u
 |k,.val d::r,a=>∃v u,a=v::u/\Den K P H d v/\aY K P H B (k+1) r u
theorem aY.map{K:yac}{P P':yak}{H H':Hp}{B B':yaj}(c:∀ds vs,ah K P H ds vs->ah K P' H' ds vs)(f:∀k b,B k=some b->B' k=some b/\∀a,H b=some (.lst a)->H' b=some (.lst a)):∀{k:Nat} {xs:List LI} {vs:yar},aY K P H B k xs vs->aY K P' H' B' k xs vs
 |_,[],_,h=>by simpa only[aY]using h
 |k,.own ds::r,_,h=>by obtain⟨b,a,u,e,g,l,j,i⟩:=h;exact⟨b,a,u,e,(f k b g).1,(f k b g).2 a l,c ds a j,aY.map c f i⟩
 |k,.val d::r,_,h=>by obtain⟨v,u,e,g,l⟩:=h;have j:=c [d] [v] (ah.one g);obtain⟨m,n,a,i,_⟩:=j;cases a;exact⟨v,u,e,i,aY.map c f l⟩
theorem aY.len{K:yac}{P:yak}{H:Hp}{B:yaj}:∀{k:Nat} {xs:List LI} {vs:yar},aY K P H B k xs vs->vs.length=xs.length
 |_,[],_,h=>by simp only[aY]at h;simp_all
 |k,.own e::r,_,h=>by obtain⟨b,c,u,rfl,_,_,_,a⟩:=h;simp[aY.len a]
 |k,.val d::r,_,h=>by obtain⟨v,u,rfl,_,a⟩:=h;simp[aY.len a]
inductive cZ (K:yac) (P:yak) (H:Hp) (B:yaj):OS->HO->Prop where
 |lst {ds:yas} {vs:yar} (h:ah K P H ds vs):cZ K P H B (.lst ds) (.lst vs)
 |ll {xs:List LI} {vs:yar} (h:aY K P H B 0 xs vs):cZ K P H B (.ll xs) (.lst vs)
 |dk {kvs:List (Key×D)} {kws:List (Key×V)} (e:kws.map (·.1)=kvs.map (·.1)) (h:ah K P H (kvs.map (·.2)) (kws.map (·.2))):cZ K P H B (.dk kvs) (.dK kws)
 |dt {kvs:List (List Key×D)} {kws:List (List Key×V)} (e:kws.map (·.1)=kvs.map (·.1)) (h:ah K P H (kvs.map (·.2)) (kws.map (·.2))):cZ K P H B (.dt kvs) (.dT kws)
def i9:HO->Prop
 |.lst _=>True|.dK _=>True|.dT _=>True|_=>False
def i9.nt(h:i9 o):NT o:=by cases o<;>first|exact True.intro|exact h.elim
def i9.sol(h:i9 o):¬V3 o:=by cases o<;>first|exact h.elim|exact λz=>z
def i9.ne(h:i9 o):∀a,o ≠ .ext a:=λ_ e=>by subst e;exact h
section
variable{K:yac}{P P':yak}{H H':Hp}{B B':yaj}{x:OS}{o:HO}
theorem cZ.map(k:∀ds vs,ah K P H ds vs->ah K P' H' ds vs)(c:∀k b,B k=some b->B' k=some b/\∀a,H b=some (.lst a)->H' b=some (.lst a))(h:cZ K P H B x o):cZ K P' H' B' x o:=by
 cases h with
 |lst h=>exact .lst (k _ _ h)
 |ll h=>exact .ll (h.map k c)
 |dk e h=>exact .dk e (k _ _ h)
 |dt e h=>exact .dt e (k _ _ h)
theorem cZ.same(e:ar H H')(h:cZ K P H B x o):cZ K P H' B x o:=h.map (λ_ _ z=>z.same e) λ_ _ q=>⟨q,λ_ z=>e _ _ z⟩
theorem cZ.OC(e:∀t a,P' t a->P t a)(c:∀k b,B k=some b->B' k=some b)(h:cZ K P H B x o):cZ K P' H B' x o:=h.map (λ_ _ z=>z.OC e) λk b q=>⟨c k b q,λ_ z=>z⟩
def cZ.VE(h:cZ K P H B x o):i9 o:=by cases h<;>exact True.intro
def cZ.Q3(h:cZ K P H B (.lst ds) o):∃vs,o=.lst vs/\ah K P H ds vs:=by
 cases h with
 |lst h=>exact⟨_,rfl,h⟩
end
abbrev Ro:=List (Option Sl)
structure Own where
 B:Addr->Prop
 O:yaj
 S:Addr->Prop
def Own.bad(W:Own)(t:Bool)(a:Addr):Prop:=W.B a∨(∃i,W.O i=some a)∨(t=true/\W.S a)
def Own.drop(W:Own)(i:Nat):Own:=⟨W.B,λj=>if j=i then none else W.O j,W.S⟩
def Own.put(W:Own)(i:Nat)(a:Addr):Own:=⟨W.B,λj=>if j=i then some a else W.O j,W.S⟩
def Own.O0{W:Own}(h:(W.drop i).bad t a):W.bad t a:=by
 rcases h with h|⟨j,h⟩| h;exact .inl h;have b:(if j=i then none else W.O j)=some a:=h;by_cases e:j=i
 lia
 rw[Oc e]at b;exact .inr (.inl ⟨j,b⟩);exact .inr (.inr h)
def Own.RJ{W:Own}(h:W.bad false a):W.bad t a:=by
 rcases h with h|h|⟨h,_⟩;exact .inl h;exact .inr (.inl h)
 lia
def YN(n i k:Nat):Nat:=n*(k+1)+i
def pD{n j:Nat}(h:j<n):YN n i k≠j:=λe=>by
 unfold YN at e
 lia
abbrev Own.sub(W:Own)(n i:Nat)(k:Nat):Option Addr:=W.O (YN n i k)
def Own.Rz{W:Own}{n i:Nat}(h:i<n)(k:Nat)(b:Addr)(e:W.sub n j k=some b):(W.drop i).sub n j k=some b:=by show(if YN n j k=i then none else W.O (YN n j k))=_;rw[Oc (pD h)];exact e
structure Rel(X:Cx)(W:Own)(H:Hp)(σ:St)(ρ:Ro):Prop where
 val:∀(i:Nat) (d:D),ρ[i]?=some (some (Sl.val d))->∃v,σ[i]?=some (some v)/\Den X.K W.bad H d v
 own:∀(i:Nat) (x:OS),ρ[i]?=some (some (Sl.ob x))->∃a o,W.O i=some a/\σ[i]?=some (some (.ref a))/\H a=some o/\cZ X.K W.bad H (W.sub σ.length i) x o
 inj:∀i j a,W.O i=some a->W.O j=some a->i=j
 kn:∀i a,W.O i=some a->X.K.lookup a=none/\(¬W.B a/\¬W.S a)/\∃o,H a=some o/\i9 o
 ke:∀i a,W.O i=some a->X.OR a=none
 bt:∀a,W.B a->∃o,H a=some o
 st:∀a,W.S a->∃o,H a=some o
 ent:ar X.OR H
 tab:jd X.K H
theorem Rel.same(r:Rel X W H σ ρ)(e:ar H H'):Rel X W H' σ ρ where
 val:=λi d h=>let ⟨v,h1,h2⟩:=r.val i d h;⟨v,h1,h2.same e⟩
 own:=λi b h=>let ⟨a,vs,h1,h2,h3,h4⟩:=r.own i b h;⟨a,vs,h1,h2,e.kp _ _ h3 h4.VE.nt,h4.same e⟩
 inj:=r.inj
 kn:=λi a h=>let ⟨h1,h2,o,h3,h4⟩:=r.kn i a h;⟨h1,h2,o,e.kp _ _ h3 h4.nt,h4⟩
 ke:=r.ke
 bt:=λa h=>let ⟨_,q⟩:=r.bt a h;e.ex q
 st:=λa h=>let ⟨_,q⟩:=r.st a h;e.ex q
 ent:=r.ent.trans e
 tab:=r.tab.same e
def Rel.oH(r:Rel X W H σ ρ)(i:Nat)(ds:yas)(h:ρ[i]?=some (some (Sl.own ds))):∃a vs,W.O i=some a/\σ[i]?=some (some (.ref a))/\H a=some (.lst vs)/\ah X.K W.bad H ds vs:=by obtain⟨a,o,g,f,d,c⟩:=r.own i _ h;obtain⟨vs,e,b⟩:=c.Q3;subst e;exact⟨a,vs,g,f,d,b⟩
def Rel.tracked(r:Rel X W H σ ρ)(t:Bool)(a:Addr)(h:W.bad t a):∃o,H a=some o:=by
 rcases h with h|⟨i,h⟩| ⟨_,h⟩;exact r.bt a h;obtain⟨_,_,o,q,_⟩:=r.kn i a h;exact⟨_,q⟩;exact r.st a h
def Rel.fresh(r:Rel X W H σ ρ)(h:H p=none):¬W.bad t p:=λz=>by
 obtain⟨o,q⟩:=r.tracked t p z
 lia
structure OQ(W:Own)(H:Hp)(W':Own)(H':Hp):Prop where
 B:W'.B=W.B
 S:W'.S=W.S
 kp:∀b o,(∀i,W.O i≠some b)->H b=some o->NT o->H' b=some o
 new:∀i a,W'.O i=some a->(∃j,W.O j=some a)∨H a=none
 tb:∀b ps,H b=some (.TC ps)->∃more,H' b=some (.TC (ps++more))
 ok:cX H->cX H'
def OQ.keep(f:OQ W H W' H')(b:Addr)(o:HO)(h:∀i,W.O i≠some b)(q:H b=some o)(a:NT o:=by first|exact True.intro|assumption):H' b=some o:=f.kp b o h q a
def OQ.ex(f:OQ W H W' H'){b:Addr}{o:HO}(h:∀i,W.O i≠some b)(q:H b=some o):∃a,H' b=some a:=by
 by_cases n:NT o;exact⟨o,f.kp b o h q n⟩;cases o with
 |TC a =>
  obtain⟨m,e⟩:=f.tb b a q;exact⟨_,e⟩
 |_=>exact absurd True.intro n
def OQ.refl(W:Own)(H:Hp):OQ W H W H:=⟨rfl,rfl,by lia,λi _ h=>.inl ⟨i,h⟩,by simp_all,id⟩
theorem OQ.trans(a:OQ W H W1 H1)(b:OQ W1 H1 W2 H2):OQ W H W2 H2:=by
 refine⟨b.B.trans a.B,b.S.trans a.S,λx o n h t=>b.kp x o (λi z=>?_) (a.kp x o n h t) t,λi x h=>?_,λc d h=>?_,λh=>b.ok (a.ok h)⟩
 ·rcases a.new i x z with⟨j,q⟩| q
  all_goals grind
 rcases b.new i x h with⟨j,q⟩| q;exact a.new j x q;by_cases z:∃j,W.O j=some x
 simp_all
 refine .inr ?_;cases e:H x with
 |none=>rfl
 |some o =>
  obtain⟨f,this⟩:=a.ex (by simp_all) e
  lia
 obtain⟨k,e⟩:=a.tb c d h;obtain⟨g,l⟩:=b.tb c _ e;grind
def OQ.same(e:ar H H'):OQ W H W H':=⟨rfl,rfl,λ_ _ _ h n=>e.kp _ _ h n,λi _ h=>.inl ⟨i,h⟩,e.tb,e.ok⟩
def ar.ins(e:ar OR H){o:HO}(h0:OR a=none)(f:H a=some o)(c:i9 o)(d:NT o'):ar OR (upd H a o') :=
 ⟨λb u h n=>by rw[aw (aL h h0)];exact e.kp b u h n,λb a h=>by rw[aw (aL h h0)];exact e.tb b a h,λh=>cX.upd d (.inr ⟨o,f,c.ne,c.nt⟩) (e.ok h)⟩
theorem OQ.upd{W:Own}{H:Hp}{a:Addr}{o:HO}(f:W.O i=some a)(d:H a=some o)(c:i9 o)(g:NT o'):OQ W H W (upd H a o') :=
 ⟨rfl,rfl,λb u n h _=>by rw[aw λe=>n i (by rw[e];exact f)];exact h,λj _ h=>.inl ⟨j,h⟩,λb k h=>⟨#[],by rw[aw (λe=>by subst e;rw[d]at h;cases h;exact c),h];simp⟩,cX.upd g (.inr ⟨o,d,c.ne,c.nt⟩)⟩
structure mf where
 nx:Ro->Prop
 rt:D->Prop
 bk:Ro->Prop:=λ_=>False
 ct:Ro->Prop:=λ_=>False
abbrev DE:=Ro->(D->Prop)->Prop
abbrev DT:=Ro->(Bool->Prop)->Prop
abbrev DA:=Ro->(yas->Prop)->Prop
abbrev DS:=mf->Ro->Prop
def DP(X:Cx)(a:yab)(c:St)(W:Own)(H:Hp)(Q:D->Prop)(u:Value)(e:Shared):Prop :=
 ∃ v b d,Inv X a c b e/\RelV v u/\ar H b/\Den X.K W.bad b d v/\Q d
def DTP(X:Cx)(a:yab)(d:St)(H:Hp)(Q:Bool->Prop)(b:Bool)(e:Shared):Prop :=
 ∃ c,Inv X a d c e/\ar H c/\Q b
def DAP(X:Cx)(a:yab)(e:St)(W:Own)(H:Hp)(Q:yas->Prop)(f:yad)(g:Shared):Prop :=
 ∃ c b d,Inv X a e b g/\Vals c f/\ar H b/\ah X.K W.bad b d c/\Q d
def WJ(X:Cx)(a:yab)(W:Own)(H:Hp)(E:mf)(f:Flow)(e:Shared):Prop :=
 ∃ c d b,Inv X a d b e/\OQ W H c b ∧
 match f with
 |.next=>∃a,Rel X c b d a/\E.nx a
 |.brk=>∃a,Rel X c b d a/\E.bk a
 |.cont=>∃a,Rel X c b d a/\E.ct a
 |.ret u=>∃v d,RelV v u/\Den X.K c.bad b d v/\E.rt d
def OD(X:Cx)(e:Expr)(t:DE):Prop :=
 ∀ (a:yab) (s:Shared) (b:St) (H:Hp) (W:Own) (c:Ro) (Q:D->Prop),Inv X a b H s->Rel X W H b c->t c Q →
  wpAny (model X.prog X.w) X.A (eval e X.env) (DP X a b W H Q) X.xe s
def TH(X:Cx)(e:Expr)(t:DT):Prop :=
 ∀ (a:yab) (s:Shared) (b:St) (H:Hp) (W:Own) (c:Ro) (Q:Bool->Prop),Inv X a b H s->Rel X W H b c->t c Q →
  wpAny (model X.prog X.w) X.A (isTrue e X.env (eval e X.env)) (DTP X a b H Q) X.xe s
def Sk(X:Cx)(e:Expr)(t:DT):Prop :=
 ∀ (b:Sem Value) (a:yab) (s:Shared) (c:St) (H:Hp) (W:Own) (d:Ro) (Q:Bool->Prop),Inv X a c H s->Rel X W H c d->t d Q →
  wpAny (model X.prog X.w) X.A (isTrue e X.env b) (DTP X a c H Q) X.xe s
def Sk.pt(h:Sk X e t):TH X e t:=h _
def SU(X:Cx)(es:yai)(t:DA):Prop :=
 ∀ (c:Pos) (a:yab) (s:Shared) (b:St) (H:Hp) (W:Own) (d:Ro) (Q:yas->Prop),Inv X a b H s->Rel X W H b d->t d Q →
  wpAny (model X.prog X.w) X.A (spliced (backTo c (starEach es X.env))) (DAP X a b W H Q) X.xe s
def Q4(X:Cx)(st:Stmt)(t:DS):Prop :=
 ∀ (a:yab) (s:Shared) (b:St) (H:Hp) (W:Own) (c:Ro) (E:mf),Inv X a b H s->Rel X W H b c->t E c →
  wpAny (model X.prog X.w) X.A (exec st X.env) (WJ X a W H E) X.xe s
def cM(X:Cx)(st:yal)(t:DS):Prop :=
 ∀ (a:yab) (s:Shared) (b:St) (H:Hp) (W:Own) (c:Ro) (E:mf),Inv X a b H s->Rel X W H b c->t E c →
  wpAny (model X.prog X.w) X.A (execs st X.env) (WJ X a W H E) X.xe s
def Cg(X:Cx)(t:DE):TE:=λc H Q=>∃W a b,Rel X W H c a/\t a b/\∀v a d,ar H a->Den X.K W.bad a d v->b d->Q v a
def M9(X:Cx)(t:DS):TS:=λD b H=>∃W a f,Rel X W H b a/\t f a ∧
 (∀b c a e,OQ W H b a->Rel X b a c e->f.nx e->D.nx c a) ∧
 (∀b a v d,OQ W H b a->Den X.K b.bad a d v->f.rt d->D.rt v a) ∧
 (∀b c a e,OQ W H b a->Rel X b a c e->f.bk e->D.bk c a) ∧
 (∀b c a e,OQ W H b a->Rel X b a c e->f.ct e->D.ct c a)
section
variable{X:Cx}
def OD.pe(h:OD X e t):PE X e (Cg X t):=by intro a s b H Q I q;obtain⟨W,c,e,r,d,k⟩:=q;exact Oj (h a s b H W c e I r d) λu i g=>(by obtain⟨v,a,d,h,b,f,e,c⟩:=g;exact⟨v,a,h,b,k v a d f e c⟩)
def cM.ps{st:yal}{t:DS}(h:cM X st t):YC X st (M9 X t):=by
 intro a s b H D I q;obtain⟨W,c,e,r,d,m,l,k,j⟩:=q;refine Oj (h a s b H W c e I r d) λf n b=>?_
 obtain⟨h,c,a,i,g,q⟩:=b;cases f with
 |next=>obtain⟨e,d,b⟩:=q;exact⟨c,a,i,m h c a e g d b⟩
 |brk=>obtain⟨e,d,b⟩:=q;exact⟨c,a,i,k h c a e g d b⟩
 |cont=>obtain⟨e,d,b⟩:=q;exact⟨c,a,i,j h c a e g d b⟩
 |ret u=>obtain⟨v,d,e,f,b⟩:=q;exact⟨v,c,a,i,e,l h a v d g f b⟩
def OD.of{t:DE}(h:PE X e te)(k:∀a H W ρ Q,Rel X W H a ρ->t ρ Q->te a H λv H'=>ar H H'/\∃d,Den X.K W.bad H' d v/\Q d):OD X e t:=by intro b s a H W ρ Q I r c;exact Oj (h b s a H _ I (k a H W ρ Q r c)) λu g e=>(by obtain⟨v,H',f,a,c,d,b,q⟩:=e;exact⟨v,H',d,f,a,c,b,q⟩)
end
section
variable{X:Cx}{a b c:Expr}{ta tb:DE}{pos:Pos}
def kW(i:Nat):DE:=λd Q=>match d[i]? with
 |some (some (.val d))=>Q d
 |_=>False
set_option tactic.hygienic true in
def IM(h:kW i ρ Q):∃d,ρ[i]?=some (some (.val d))/\Q d:=by unfold kW at h;split at h;rename_i d e;exact⟨d,e,h⟩;exact h.elim
def dC(d:D):DE:=λ_ Q=>Q d
def dv (i:Nat) {x:Str} {pos:Pos} (f:X.N[i]?=some x:=by rfl) (d:VB X.env.scope x:=by first|exact Or.inl rfl|exact Or.inr (Or.inl rfl)|exact Or.inr (Or.inr rfl)) (e:(x==("__debug__" : Str))=false:=by decide)
  (g:(x==("__classdict__" : Str))=false:=by decide):OD X (.Name x pos) (kW i) :=
 OD.of (eR f d e g) λh H W j Q r f=>by obtain⟨d,e,q⟩:=IM f;obtain⟨v,g,f⟩:=r.val i d e;exact⟨v,g,ar.refl H,d,f,q⟩
def ae{i j pos}:OD X (.Constant (.int i) j pos) (dC (.int i)):=OD.of tH λ_ H _ _ _ _ q=>⟨ar.refl H,_,Den.int i,q⟩
def fe{i j pos}:OD X (.Constant (.bool i) j pos) (dC (.bl i)):=OD.of Ni λ_ H _ _ _ _ q=>⟨ar.refl H,_,Den.bl i,q⟩
def dA{j pos}:OD X (.Constant .none j pos) (dC .ON):=OD.of Mh λ_ H _ _ _ _ q=>⟨ar.refl H,_,Den.ON,q⟩
def ot{x j pos}:OD X (.Constant (.str x) j pos) (dC (.str x)):=OD.of Mi λ_ H _ _ _ _ q=>⟨ar.refl H,_,Den.str x,q⟩
abbrev RD2:=D->D->(D->Prop)->Prop
def P8(X:Cx)(f:Value->Value->Sem Value)(r:RD2):Prop :=
 ∀ (d:yab) (s:Shared) (e:St) (H:Hp) (W:Own) (x y:D) (v u:V) (g h:Value) (Q:D->Prop),Inv X d e H s->(∀t a,W.bad t a->∃o,H a=some o)->RelV v g->RelV u h->Den X.K W.bad H x v->Den X.K W.bad H y u->r x y Q →
  wpAny (model X.prog X.w) X.A (f g h) (DP X d e W H Q) X.xe s
def ZM(r:RD2)(ta tb:DE):DE:=λd Q=>ta d λx=>tb d λy=>r x y Q
def BW(m:OD X a ta)(q:OD X b tb){d:yab}{s:Shared}{g:St}{H:Hp}{W:Own}{ρ:Ro}{R:D->D->Prop}(I:Inv X d g H s)(r:Rel X W H g ρ)(h:ta ρ λx=>tb ρ λy=>R x y)
  {l:Type} {Q:l->Shared->Prop} {f:Value->Value->Sem l}
  (p:∀i j k v u x y e,Inv X d g e k->ar H e->RelV v i->RelV u j->Den X.K W.bad e x v->Den X.K W.bad e y u->R x y->wpAny (model X.prog X.w) X.A (f i j) Q X.xe k) :
  wpAny (model X.prog X.w) X.A (eval a X.env) (λv n=>wpAny (model X.prog X.w) X.A (eval b X.env) (λu o=>wpAny (model X.prog X.w) X.A (f v u) Q X.xe o) X.xe n) X.xe s:=by
 refine Oj (m d s g H W ρ _ I r h) λi l f=>?_
 obtain⟨v,t,x,s,m,h,o,n⟩:=f;refine Oj (q d l g t W ρ _ s (r.same h) n) λj k f=>?_
 obtain⟨u,e,y,q,g,d,n,l⟩:=f;exact p i j k v u x y e q (h.trans d) m g (o.same d) n l
def DP.up(e:ar H H1)(h:DP X pins σ W H1 Q u s'):DP X pins σ W H Q u s':=by obtain⟨v,i,d,I,r,g,f,q⟩:=h;exact⟨v,i,d,I,r,e.trans g,f,q⟩
def au{d:Operator}{r:RD2}(o:P8 X (binaryOp d) r)(i:OD X a ta)(e:OD X b tb):OD X (.BinOp a d b pos) (ZM r ta tb):=by intro d s g H W t Q I f h;refine wpAny_BinOp (BW i e I f h λh i j v u x y r p e k l n m q=>?_);exact Oj (o d j g r W x y v u h i Q p (f.same e).tracked k l n m q) λ_ _ z=>z.up e
def MT{rd:D->(D->Prop)->Prop}(n:UnR X (unaryOp op) r)(i:OD X a ta)
  (k:∀P H d v Q,Den X.K P H d v->rd d Q->r v H λe H'=>ar H H'/\∃d',Den X.K P H' d' e/\Q d'):OD X (.UnaryOp op a pos) (λρ Q=>ta ρ λx=>rd x Q):=by
 intro e s f H W ρ Q I g h;refine UnaryOp_ (Oj (i e s f H W ρ _ I g h) λh i p=>?_);obtain⟨v,g,x,q,j,o,m,l⟩:=p;exact Oj (n e i f g v h _ q j (k _ g x v Q m l)) λu t j=>(by obtain⟨e,l,k,f,i,d,h,g⟩:=j;exact⟨e,l,d,k,f,o.trans i,h,g⟩)
def xI(ta:DE):DE:=λd Q=>ta d λx=>∃i,x=.int i/\Q (.int (-i))
def b6(d:OD X a ta):OD X (.UnaryOp .USub a pos) (xI ta) :=
 MT (rd:=λx Q=>∃i,x=.int i/\Q (.int (-i))) MJ d λP H d v Q d ⟨i,e,q⟩=>by subst e;exact⟨i,d.Pk,ar.refl H,_,Den.int _,q⟩
def P8.of{rd:RD2}(h:SQ X f r)(k:∀P H x y v u Q,Den X.K P H x v->Den X.K P H y u->rd x y Q->r v u H λd H'=>ar H H'/\∃d',Den X.K P H' d' d/\Q d'):P8 X f rd:=by intro d s e H W x y v u f g Q I _ i j m l q;exact Oj (h d s e H v u f g _ I i j (k _ H x y v u Q m l q)) λ_ n j=>(by obtain⟨e,l,k,f,i,d,h,g⟩:=j;exact⟨e,l,d,k,f,i,h,g⟩)
def Ya(C:Int->Int->Prop)(g:Int->Int->D):RD2:=λx y Q=>match x,y with
 |.int i,.int j=>C i j/\Q (g i j)
 |_,_=>False
def gG(g:Int->Int->D):RD2:=λx y Q=>match x,y with
 |.int i,.int j=>Q (g i j)
 |_,_=>False
def Mt(h:Ya C g x y Q):∃i j,x=.int i/\y=.int j/\C i j/\Q (g i j):=by unfold Ya at h;split at h;exact⟨_,_,rfl,rfl,h⟩;exact h.elim
def pW(h:gG g x y Q):∃i j,x=.int i/\y=.int j/\Q (g i j):=by unfold gG at h;split at h;exact⟨_,_,rfl,rfl,h⟩;exact h.elim
def P8.ofI{g:Int->Int->Int}(h:SQ X f (rI C λi j=>.int (g i j))):P8 X f (Ya C λi j=>.int (g i j)) :=
 P8.of h λP H x y v u Q e d z=>by obtain⟨i,j,h,g,f,q⟩:=Mt z;subst h g;exact⟨i,j,e.Pk,d.Pk,f,ar.refl H,_,Den.int _,q⟩
def P8.ofI0{g:Int->Int->Int}(h:SQ X f (WE λi j=>.int (g i j))):P8 X f (gG λi j=>.int (g i j)) :=
 P8.of h λP H x y v u Q e d z=>by obtain⟨i,j,g,f,q⟩:=pW z;subst g f;exact⟨i,j,e.Pk,d.Pk,ar.refl H,_,Den.int _,q⟩
def P8.Xp{g:Int->Int->Bool}(h:SQ X f (WE λi j=>.bl (g i j))):P8 X f (gG λi j=>.bl (g i j)) :=
 P8.of h λP H x y v u Q e d z=>by obtain⟨i,j,g,f,q⟩:=pW z;subst g f;exact⟨i,j,e.Pk,d.Pk,ar.refl H,_,Den.bl _,q⟩
def L6:P8 X (binaryOp .Add) (gG λi j=>.int (i+j)):=P8.ofI0 Mc
def bo:P8 X (binaryOp .Sub) (gG λi j=>.int (i - j)):=P8.ofI0 Mf
def fP:P8 X (compareOp .Lt) (gG λi j=>.bl (decide (i<j))):=P8.Xp Ng
def wL:P8 X (compareOp .LtE) (gG λi j=>.bl (decide (i<=j))):=P8.Xp Nf
def wK:P8 X (compareOp .Gt) (gG λi j=>.bl (decide (j<i))):=P8.Xp Nd
def Cn:P8 X (compareOp .GtE) (gG λi j=>.bl (decide (j<=i))):=P8.Xp Nc
def Bd(n:Nat)(x:Int):Prop:=x.natAbs<2 ^ n
def Bd.mono{n:Nat}(h:Bd m x)(l:m<=n):Bd n x:=QZ h (W9 (by decide) l)
def Bd.mul(h:Bd m x)(h':Bd n y):Bd (m+n) (x*y):=by unfold Bd at *;rw[XZ,Nat.pow_add];exact Nat.mul_lt_mul'' h h'
def Bd.add(h:Bd m x)(h':Bd m y):Bd (m+1) (x+y):=by
 unfold Bd at *;rw[VS];have:=Int.natAbs_add_le x y
 lia
def Bd.sub(h:Bd m x)(h':Bd m y):Bd (m+1) (x - y):=by
 unfold Bd at *;rw[VS];have:=Int.natAbs_sub_le x y
 lia
def Bd.neg(h:Bd m x):Bd m (-x):=by
 unfold Bd at *
 simp_all
def Bd.bits(h:Bd n x):Builtin.Int.intBits x<=n:=by
 unfold Builtin.Int.intBits;split
 lia
 have d:x.natAbs≠0:=by simp_all
 have:=(Nat.log2_lt d).mpr h
 lia
def CM(i j:Int):Prop:=Bd 64 i∨Bd 64 j∨(Bd 100000 i/\Bd 100000 j)
def CM.ok(h:CM i j):IntMulOk i j:=by
 rcases h with h|h|⟨h,d⟩;exact .of_left h.bits;exact .of_right h.bits;exact .of_bits (PL h.bits (by decide)) (PL d.bits (by decide))
def JK:SQ X (binaryOp .Mult) (rI CM λi j=>.int (i*j)):=opI λ_ _ _ _ _ _ _ d q=>mul_int q d.ok
def aA:P8 X (binaryOp .Mult) (Ya CM λi j=>.int (i*j)):=P8.ofI JK
def CD(_:Int)(j:Int):Prop:=j≠0/\Bd 8000 j
def CD.noPy(h:CD i j):Builtin.divisionGoesByPylong i j=false:=by
 refine PyProof.noPylong_of_log2 ?_;have d:j.natAbs≠0:=λe=>h.1 (Int.natAbs_eq_zero.mp e)
 have:=(Nat.log2_lt d).mpr h.2
 lia
def G0:SQ X (binaryOp .FloorDiv) (rI CD λi j=>.int (i.fdiv j)):=opI λ_ _ _ _ _ _ _ d q=>floordiv_int d.1 q (.inl d.noPy)
def hW:P8 X (binaryOp .FloorDiv) (Ya CD λi j=>.int (i.fdiv j)):=P8.ofI G0
def bT:P8 X (binaryOp .Mod) (Ya (λ_ j=>j≠0) λi j=>.int (i.fmod j)):=P8.ofI JJ
def yP:P8 X (binaryOp .Pow) (Ya FA λi j=>.int (i ^ j.toNat)):=P8.ofI Me
def dB(t:DE):DT:=λd Q=>t d λx=>∃k,x=.bl k/\Q k
def j5{d:CmpOp}{r:RD2}(o:P8 X (compareOp d) r)(i:OD X a ta)(e:OD X b tb)(p:behindInMarks d b=false:=by first|exact yL _ (by decide) (by decide)|rfl):OD X (.Compare a [d] [b] pos) (ZM r ta tb):=by intro d s g H W t Q I f h;refine wpAny_Compare1 (BW i e I f h λh i j v u x y s r e k l n m q=>?_) p;exact Oj (o d j g s W x y v u h i Q r (f.same e).tracked k l n m q) λ_ _ z=>z.up e
def aC(J:P8 X (compareOp op) r)(O:OD X a ta)(N:OD X b tb)(L:behindInMarks op b=false:=by first|exact yL _ (by decide) (by decide)|rfl):TH X (.Compare a [op] [b] pos) (dB (ZM r ta tb)):=by
 intro e s f H W l Q I g h;refine wpAny_isTrue_Compare1 (Oj (O e s f H W l _ I g h) λm p ⟨v,H1,x,I1,q,j,G,C⟩=>Oj (N e p f H1 W l _ I1 (g.same j) C) λn o ⟨u,H2,y,I2,t,i,E,B⟩=>
  Oj (J e o f H2 W x y v u m n _ I2 ((g.same j).same i).tracked q t (G.same i) E B) λc s3 ⟨z,H3,d,Y,w,U,M,k,T,A⟩=>?_) L
 subst T;have d:=M.WI;subst d;cases w;exact Zw ⟨H3,Y,j.trans (i.trans U),A⟩
def bQ(h:OD X e t)(j:∀d,isTrue e X.env d=(do let v←d;standAt e.pos;holding [v] (truthy v)):=by intro _;rfl):TH X e (dB t):=by intro d s e H W f Q I g i;refine isTrue_plain (Oj (h d s e H W f _ I g i) λl m h=>?_) (j _);obtain⟨v,j,x,i,d,g,f,k,e,q⟩:=h;subst e;have e:=f.WI;subst e;cases d;exact Zw ⟨j,i,g,q⟩
variable{tA tB':DT}{rest:yai}
def KP(t u:DT):DT:=λd Q=>t d λc=>if c=true then u d Q else Q false
def dOr(t u:DT):DT:=λd Q=>t d λc=>if c=true then Q true else u d Q
def KW(t:DT):DT:=λd Q=>t d λc=>Q (!c)
def uv(i:TH X a tA):Sk X (.BoolOp .And [a] pos) tA:=by
 intro j d s e H W f Q I g h;refine isTrue_and (Oj (i d s e H W f Q I g h) λc k e=>?_);cases c with
 |true=>exact isTrue_and_nil e
 |false=>exact e
def eO(i:TH X a tA):Sk X (.BoolOp .Or [a] pos) tA:=by
 intro j d s e H W f Q I g h;refine isTrue_or (Oj (i d s e H W f Q I g h) λc k e=>?_);cases c with
 |false=>exact isTrue_or_nil e
 |true=>exact e
def xV(e:TH X a tA)(n:Sk X (.BoolOp .And (b::rest) pos) tB'):Sk X (.BoolOp .And (a::b::rest) pos) (KP tA tB'):=by
 intro l d s f H W g Q I i h;refine isTrue_and (Oj (e d s f H W g _ I i h) λc m o=>?_);obtain⟨k,j,e,h⟩:=o;cases c with
 |true=>exact Oj (n l d m f k W g Q j (i.same e) h) λ_ _ g=>(by obtain⟨l,i,f,d⟩:=g;exact⟨l,i,e.trans f,d⟩)
 |false=>exact⟨k,j,e,h⟩
def cP(e:TH X a tA)(n:Sk X (.BoolOp .Or (b::rest) pos) tB'):Sk X (.BoolOp .Or (a::b::rest) pos) (dOr tA tB'):=by
 intro l d s f H W g Q I i h;refine isTrue_or (Oj (e d s f H W g _ I i h) λc m o=>?_);obtain⟨k,j,e,h⟩:=o;cases c with
 |true=>exact⟨k,j,e,h⟩
 |false=>exact Oj (n l d m f k W g Q j (i.same e) h) λ_ _ g=>(by obtain⟨i,h,f,d⟩:=g;exact⟨i,h,e.trans f,d⟩)
def bK(i:TH X a tA):TH X (.UnaryOp .Not a pos) (KW tA):=by intro d s e H W f Q I g h;exact isTrue_not (i d s e H W f (λc=>Q (!c)) I g h)
def HG(ta tb:DE):DE:=λd Q=>ta d λx=>∃c,x=.bl c/\if c=true then tb d Q else Q (.bl false)
def HL(ta:DE):DE:=λd Q=>ta d λx=>∃c,x=.bl c/\Q (.bl (!c))
def oo{op}(h:OD X a t):OD X (.BoolOp op [a] pos) t:=λd s e H W f Q I g i=>BoolOp_one (h d s e H W f Q I g i)
def oh(e:OD X a ta)(p:OD X (.BoolOp .And (b::rest) pos) tb):OD X (.BoolOp .And (a::b::rest) pos) (HG ta tb):=by
 intro d s f H W g Q I i h;refine BoolOp_and (Oj (e d s f H W g _ I i h) λr l q=>?_);obtain⟨v,k,x,j,m,e,o,c,n,h⟩:=q;subst n;have n:=o.WI;subst n;cases m;refine Zw ?_;cases c with
 |true=>exact Oj (p d l f k W g Q j (i.same e) h) λ_ _ z=>z.up e
 |false=>exact⟨.bl false,k,_,j,rfl,e,Den.bl _,h⟩
def xN(i:OD X a ta):OD X (.UnaryOp .Not a pos) (HL ta):=by intro d s e H W f Q I g h;refine UnaryOp_ (Oj (i d s e H W f _ I g h) λl m i=>?_);obtain⟨v,k,x,j,d,h,g,c,f,e⟩:=i;subst f;have f:=g.WI;subst f;cases d;exact not_of (Zw ⟨.bl (!c),k,_,j,rfl,h,Den.bl _,e⟩)
def dIf(t:DT)(ta tb:DE):DE:=λd Q=>t d λc=>if c=true then ta d Q else tb d Q
def qL(d:TH X c tA)(o:OD X a ta)(n:OD X b tb):OD X (.IfExp c a b pos) (dIf tA ta tb):=by
 intro e s g H W i Q I j h;refine wpAny_IfExp (Oj (d e s g H W i _ I j h) λd h p=>?_);obtain⟨m,l,f,k⟩:=p;cases d with
 |true=>exact Oj (o e h g m W i Q l (j.same f) k) λ_ _ z=>z.up f
 |false=>exact Oj (n e h g m W i Q l (j.same f) k) λ_ _ z=>z.up f
def uH:RD2:=λx y Q=>match x,y with
 |.tup e,.int i=>∃d,Qw e i=some d/\Q d
 |.lst _ e,.int i=>∃d,Qw e i=some d/\Q d
 |_,_=>False
def JV(h:uH x y Q):∃ds i d,(x=.tup ds∨∃ t,x=.lst t ds)/\y=.int i/\Qw ds i=some d/\Q d:=by unfold uH at h;split at h;obtain⟨d,h⟩:=h;exact⟨_,_,d,.inl rfl,rfl,h⟩;obtain⟨d,h⟩:=h;exact⟨_,_,d,.inr ⟨_,rfl⟩,rfl,h⟩;exact h.elim
def xj{K:yac}{P:yak}{H:Hp}{ds:yas}{vs:yar}{i:Int}{d:D}(h:ah K P H ds vs)(e:Qw ds i=some d):∃v,Qw vs i=some v/\Den K P H d v:=by
 unfold Qw at e ⊢;rw[h.len];cases q:ixN ds.length i with
 |none=>simp_all
 |some j =>
  rw[q]at e;exact h.get e
def ao(f:OD X a ta)(e:OD X b tb)(hs:An b:=by intro _ _;rfl):OD X (.Subscript a b pos) (ZM uH ta tb):=by
 intro j s C H W T Q I d h;refine Subscript_ (BW f e I d h λE G H v u x y h N e I J L f q=>?_)
 replace q:=JV q
 obtain⟨Y,i,d,m,g,M,q⟩:=q;subst g;have g:=f.Pk;subst g;have l:∀(f:V),Den X.K W.bad h d f->ar h h/\∃g,Den X.K W.bad h g f/\Q g:=λf k=>⟨ar.refl _,d,k,q⟩
 rcases m with m|⟨U,m⟩;subst m;obtain⟨p,o,t,s,k⟩:=L.Qq;subst t;obtain⟨f,x,w⟩:=xj k M;exact Oj (yw a b j H C h _ _ E G (λf d=>ar h d/\∃g,Den X.K W.bad d g f/\Q g) N I J ⟨p,o,i,f,rfl,rfl,s.w,x,l f w⟩ (hs _ _))
  λ_ O z=>(by obtain⟨n,B,A,q,u,g,y,r⟩:=z;exact⟨n,B,g,A,q,e.trans u,y,r⟩)
 subst m;obtain⟨p,o,t,_,s,k⟩:=L.Q3;subst t;obtain⟨f,x,w⟩:=xj k M;exact Oj (Jp a b j H C h _ _ E G (λf d=>ar h d/\∃g,Den X.K W.bad d g f/\Q g) N I J ⟨p,o,i,f,rfl,rfl,s,x,l f w⟩ (hs _ _))
  λ_ O z=>(by obtain⟨n,B,A,q,u,g,y,r⟩:=z;exact⟨n,B,g,A,q,e.trans u,y,r⟩)
end
section
variable{X:Cx}{e:Expr}{es:yai}{te:DE}{t:DA}{pos:Pos}
def BY:DA:=λ_ Q=>Q []
def sj(c:DE)(b:DA):DA:=λa Q=>c a λx=>b a λa=>Q (x::a)
def af:SU X [] BY:=λ_ _ _ _ H W a Q I _ h=>Calls.spliced_nil ⟨[],H,[],I,.nil,ar.refl H,ah.nil,h⟩
def aa(f:OD X e te)(k:SU X es t)(hs:starEach (e::es) X.env=(false,eval e X.env)::starEach es X.env:=by rfl):SU X (e::es) (sj te t):=by intro pos a s b H W c Q I d h;rw[hs];show wpAny _ _ (spliced ((false,eval e X.env)::backTo pos (starEach es X.env))) _ _ s;refine Calls.spliced_cons (Oj (f a s b H W c _ I d h) λu g l=>?_);obtain⟨v,n,x,m,h,f,j,i⟩:=l;exact Oj (k pos a g b n W c _ m (d.same f) i) λo p k=>(by obtain⟨d,m,c,l,g,b,a,i⟩:=k;exact⟨v::d,m,x::c,l,.cons h g,f.trans b,ah.cons (j.same b) a,i⟩)
theorem ar.upd{H:Hp}(h:H p=none)(n:NT o:=by exact True.intro):ar H (upd H p o):=⟨λb u e _=>by rw[aw (aL e h)];exact e,λb a e=>⟨#[],by rw[aw (aL e h),e];simp⟩,cX.upd n (.inl h)⟩
def K7(t:DA):DE:=λa Q=>t a λa=>a.length<=sizeLine/\Q (.tup a)
def Gb(t:DA):DE:=λa Q=>t a λa=>a.length<=sizeLine/\Q (.lst true a)
def aQ{x1}(h:SU X es t):OD X (.Tuple es x1 pos) (K7 t):=by intro a s b H W c Q I d f;refine wpAny_Tuple_spliced (Oj (h pos a s b H W c _ I d f) λh a c=>?_);obtain⟨g,f,j,b,r,i,d,z,q⟩:=c;rw[<- d.len]at z;refine⟨by rw[<- r.length];exact z,?_⟩;have c:f a.heap.objs.size=none:=b.OB.fresh (O5 _);refine⟨.ref a.heap.objs.size,L2.upd f a.heap.objs.size (.tup g),_,b.laid (t':=a.toks) (λb u e=>Po _ e) (O5 _) ⟨z,h,r,⟨_,Rh _ rfl,rfl,_,rfl⟩⟩,rfl,i.trans (ar.upd c),Den.tup (OT.of aD) (d.same (ar.upd c)),q⟩
def Inv.Q5(I:Inv X pins σ H s):X.K.lookup s.heap.objs.size=none:=by
 cases e:X.K.lookup s.heap.objs.size with
 |none=>rfl
 |some o=>exact absurd (OY (I.SJ _ _ e)) (VR _)
def bO(h:SU X es t):OD X (.List es pos) (Gb t):=by
 intro a s b H W c Q I f d;refine wpAny_List_spliced (Oj (h pos a s b H W c _ I f d) λj a c=>?_);obtain⟨i,b,k,d,r,h,g,z,q⟩:=c;rw[<- g.len]at z;refine⟨by rw[<- r.length];exact z,?_⟩;have c:b a.heap.objs.size=none:=d.OB.fresh (O5 _);exact⟨.ref a.heap.objs.size,L2.upd b a.heap.objs.size (.lst i),_,d.laid (t':=a.toks) (λb u e=>Po _ e) (O5 _) ⟨z,j,0,r,Rh _ rfl⟩,rfl,h.trans (ar.upd c),
  Den.lst ((f.same h).fresh c) (.new aD (Inv.Q5 d)) (g.same (ar.upd c)),q⟩
end
abbrev DSp:=yas->(D->Prop)->(Value->Prop)->Prop
def aH(K:yac)(sp:DSp):Sp:=λd H Q E=>∃(P:Addr->Prop) (b:yas) (c:D->Prop) (e:Value->Prop),jd K H/\(∀a,P a->∃o,H a=some o)/\ah K (λt a=>t=true∨P a) H b d/\sp b c e ∧
 (∀d v b,ar H b->Den K (λt a=>P a∨(t=true/\∃o,H a=some o)) b d v->c d->Q v b)/\∀c a b,ar H b->e c->E c a b
mutual
def aB:D->D
 |.tup a=>.tup (aU a)
 |.lst _ a=>.lst false (aU a)
 |.obj C b a=>.obj C b (aU a)
 |.SR=>.SR
 |.RD b a=>.RD b (aU a)
 |.ra a=>.ra a
 |.ON=>.ON|.bl b=>.bl b|.int i=>.int i|.str x=>.str x|.exc c=>.exc c
def aU:yas->yas
 |[]=>[]
 |d::a=>aB d::aU a
end
section
variable{K:yac}{P:yak}{P':Addr->Prop}{H:Hp}
mutual
theorem Den.aB(h:∀t a,P' a->P t a):∀(d:D) (v:V),Den K P H d v->Den K (λt a=>t=true∨P' a) H (PD.aB d) v
 |.ON,_,q=>by simpa only[Den,PD.aB]using q
 |.bl _,_,q=>by simpa only[Den,PD.aB]using q
 |.int _,_,q=>by simpa only[Den,PD.aB]using q
 |.str _,_,q=>by simpa only[Den,PD.aB]using q
 |.exc _,_,q=>by simpa only[Den,PD.aB]using q
 |.tup f,_,q=>by simp only[Den,PD.aB]at q ⊢;obtain⟨a,b,e,d,c⟩:=q;exact⟨a,b,e,d,ah.aB h f b c⟩
 |.obj C i f,_,q=>by simp only[Den,PD.aB]at q ⊢;obtain⟨a,g,b,e,d,l,k,c⟩:=q;exact⟨a,g,b,e,d,l,k,ah.aB h f b c⟩
 |.SR,_,q=>by simpa only[Den,PD.aB]using q
 |.RD j f,_,q=>by simp only[Den,PD.aB]at q ⊢;obtain⟨a,o,g,b,e,d,l,k,c⟩:=q;exact⟨a,o,g,b,e,d,l,k,ah.aB h f b c⟩
 |.ra a,_,q=>by simp only[Den,PD.aB]at q ⊢;obtain⟨e,p,b,q⟩:=q;exact⟨e,λz=>z.elim (λz=>by cases z) λz=>p (h _ _ z),b,q⟩
 |.lst t f,_,q=>by simp only[Den,PD.aB]at q ⊢;obtain⟨a,b,e,p,d,c⟩:=q;exact⟨a,b,e,λz=>z.elim (λz=>by cases z) λz=>p (h t a z),.any d.1,ah.aB h f b c⟩
theorem ah.aB(h:∀t a,P' a->P t a):∀(ds:yas) (vs:yar),ah K P H ds vs->ah K (λt a=>t=true∨P' a) H (PD.aU ds) vs
 |[],_,q=>by simpa only[ah,PD.aU]using q
 |d::ds,_,q=>by simp only[ah,PD.aU]at q ⊢;obtain⟨v,r,e,b,a⟩:=q;exact⟨v,r,e,Den.aB h d v b,ah.aB h ds r a⟩
end
end
def Den.back{K:yac}{W:Own}{H H':Hp}{d:D}{v:V}(b:∀t a,W.bad t a->∃o,H a=some o)(h:Den K (λt a=>W.bad false a∨(t=true/\∃o,H a=some o)) H' d v):Den K W.bad H' d v :=
 h.OC λt a z=>by
  cases t with
  |false=>exact .inl z
  |true=>exact .inr ⟨rfl,b true a z⟩
section
variable{X:Cx}{CX:CXT}{k:Nat}{f:Addr}{fd:FuncData}{ps:yah}{sp:DSp}{x:Str}{p pos:Pos}{e:Expr}{es:yai}{t:DA}
def wH(sp:DSp)(dds:yas)(t:DA):DE:=λa Q=>t a λa=>sp (aU a++dds) Q λ_=>False
def qO:D->V
 |.ON=>.ON|.bl b=>.bl b|.int i=>.int i|.str x=>.str x|_=>.ON
def wO:D->Prop
 |.tup _=>False|.lst _ _=>False|.exc _=>False|.obj _ _ _=>False|.SR=>False|.RD _ _=>False|.ra _=>False|_=>True
theorem ah.uR{K:yac}{P:yak}{H:Hp}:∀{dds:yas},(∀d∈dds,wO d)->ah K P H dds (dds.map qO)
 |[],_=>ah.nil
 |d::r,h=>by
  refine ah.cons ?_ (ah.uR λx a=>h x (Pz _ a));have:=h d RB;cases d with
  |ON=>exact Den.ON
  |bl b=>exact Den.bl b
  |int i=>exact Den.int i
  |str x=>exact Den.str x
  |tup _=>exact this.elim
  |lst _ _=>exact this.elim
  |exc _=>exact this.elim
  |obj _ _ _=>exact this.elim
  |SR=>exact this.elim
  |RD _ _=>exact this.elim
  |ra _=>exact this.elim
def Nm{dds:yas}(F:aF X.prog X.w X.K X.mg X.base CX k f fd ps (aH X.K sp))(g:bM k X.A)(i:Binds X.K fd ps dsv)(h:Vals (dds.map qO) dsv)(hs:∀d∈dds,wO d)(c:Passes CX X E0)
 (I:Inv X pins σ H s) (a:Rel X W H σ ρ) (r:Vals vs us) (j:ah X.K W.bad H ds vs)
  (q:sp (aU ds++dds) Q λ_=>False):wpAny (model X.prog X.w) X.A (call (.ref f) us) (DP X pins σ W H Q) X.xe s:=by
 refine Oj (EY (Q:=λv b=>ar H b/\∃d,Den X.K W.bad b d v/\Q d) F g i h c I r ⟨W.bad false,aU ds++dds,Q,λ_=>False,a.tab,a.tracked false,(ah.aB (λ_ _=>Own.RJ) ds vs j).append (ah.uR hs),q,λd v b e c b=>⟨e,d,Den.back a.tracked c,b⟩,λ_ _ _ _ z=>z.elim⟩)
  λu l h=>(by obtain⟨v,j,i,a,g,d,c,b⟩:=h;exact⟨v,j,d,i,a,g,c,b⟩)
def Gg{dds:yas}(F:aF X.prog X.w X.K X.mg X.base CX k f fd ps (aH X.K sp))(i:bM k X.A)(m:Gl X x)(j:X.mg x=some (.ref f))(l:PySem.W.keepIn X.K (.ref f)=true)(u:Binds X.K fd ps dsv)(o:Vals (dds.map qO) dsv)(hs:∀d∈dds,wO d)(g:Passes CX X E0)
  (q:SU X (e::es) t) (r:(x==("__debug__" : Str))=false:=by decide) (n:starEach (e::es) X.env=(false,eval e X.env)::starEach es X.env:=by rfl) (w:(backTo pos (starEach es X.env)).any (·.1)=false:=by rfl) :
  OD X (.Call (.Name x p) (e::es) [] pos) (wH sp dds t):=by
 intro a s c H W d Q I b h;refine Uo (jU I m j ?_ r);refine PySem.W.callWith_K (h₀:=X.base) I.ok.mod.X3 l (Oj (q pos a s c H W d _ I b h) λA B ⟨y,H1,C,c,r,a,d,q⟩=>⟨c.SJ,?_⟩) n w;exact Oj (Nm F i u o hs g c (b.same a) r d q) λ_ _ z=>z.up a
def dCB(r:yas->(D->Prop)->Prop)(t:DA):DE:=λa Q=>t a λa=>r a Q
def eZ(X:Cx)(f:Value)(r:yas->(D->Prop)->Prop):Prop :=
 ∀ (b:yab) (s:Shared) (c:St) (H:Hp) (W:Own) (h:yas) (d:yar) (g:yad) (Q:D->Prop),Inv X b c H s->(∀t a,W.bad t a->∃o,H a=some o)->Vals d g->ah X.K W.bad H h d->r h Q →
  wpAny (model X.prog X.w) X.A (call f g) (DP X b c W H Q) X.xe s
def eZ.of{f:Value}{rd:yas->(D->Prop)->Prop}(h:pF X f r)(k:∀P H ds vs Q,(∀t a,P t a->∃o,H a=some o)->ah X.K P H ds vs->rd ds Q->r vs H λb H'=>ar H H'/\∃d',Den X.K P H' d' b/\Q d'):eZ X f rd:=by intro a s c H W ds vs d Q I g r b q;exact Oj (h a s c H vs d _ I r (k _ H ds vs Q g b q)) λ_ m i=>(by obtain⟨a,l,j,c,h,d,b,g⟩:=i;exact⟨a,l,d,j,c,h,b,g⟩)
variable{id T:String}{r:yas->(D->Prop)->Prop}
def az (m:eZ X (.builtin id) r) (l:Gl X x) (j:X.mg x=none) (g:bootBuiltins x=some (.builtin id)) (n:SU X (e::es) t) (i:x ≠ "__name__" := by decide) (o:(x==("__debug__" : Str))=false:=by decide)
  (u:starEach (e::es) X.env=(false,eval e X.env)::starEach es X.env:=by rfl) (w:(backTo pos (starEach es X.env)).any (·.1)=false:=by rfl) :
  OD X (.Call (.Name x p) (e::es) [] pos) (dCB r t):=by
 intro a s b H W d Q I c h;refine Uo (cc I l j g ?_ i o);exact PyProof.Rows.callWith_builtin1 (Oj (n pos a s b H W d _ I c h) λh i o=>(by obtain⟨g,y,n,s,j,d,l,q⟩:=o;exact Oj (m a i b y W n g h Q s (c.same d).tracked j l q) λ_ _ z=>z.up d)) u w
end
mutual
noncomputable def QL:D->PyData
 |.ON=>.none
 |.bl b=>.bool b
 |.int i=>.int i
 |.str x=>.str x
 |.tup a=>.tuple (cC a)
 |.lst _ a=>.list (cC a)
 |.exc _=>.none
 |.obj _ _ _=>.none
 |.RD _ _=>.none
 |.ra _=>.none
 |.SR=>.none
noncomputable def cC:yas->List PyData
 |[]=>[]
 |d::a=>QL d::cC a
end
mutual
def Ug:D->Bool
 |.tup a=>oM a
 |.lst _ a=>oM a
 |.exc _=>false
 |.obj _ _ _=>false
 |.RD _ _=>false
 |.ra _=>false
 |.SR=>false
 |_=>true
def oM:yas->Bool
 |[]=>true
 |d::a=>Ug d && oM a
end
def eqD(x y:D):Bool:=PyData.eqv (QL x) (QL y)
def okD(x:D):Prop:=Ug x=true/\SeqAt.shaped (QL x)=true
section
variable{X:Cx}{pins:yab}{σ:St}{H:Hp}{s:Shared}{P:yak}
mutual
theorem eJ(I:Inv X pins σ H s):∀(d:D) (v:V) (u:Value),Den X.K P H d v->RelV v u->Ug d=true->∃c,Reads s.heap u (QL d) c
 |.ON,_,_,h,r,_=>by have e:=h.V4;subst e;cases r;rw[QL];exact⟨_,.none⟩
 |.bl b,_,_,h,r,_=>by have e:=h.WI;subst e;cases r;rw[QL];exact⟨_,.bool b⟩
 |.int i,_,_,h,r,_=>by have e:=h.Pk;subst e;obtain⟨t,rfl⟩:=r;rw[QL];exact⟨_,.int i t⟩
 |.str x,_,_,h,r,_=>by have e:=h.Xn;subst e;obtain⟨t,rfl⟩:=r;rw[QL];exact⟨_,.str x t⟩
 |.tup m,_,_,h,r,b=>by rw[Ug]at b;obtain⟨a,d,e,g,i⟩:=h.Qq;subst e;cases r;obtain⟨p,f,⟨o,l,k,n,j⟩,_⟩:=I.tuple g.w;obtain⟨c,q⟩:=mr I m d p i f b;rw[QL];exact⟨c,reads_tuple_at l k j (by simpa using q)⟩
 |.lst _ m,_,_,h,r,b=>by rw[Ug]at b;obtain⟨a,d,e,_,g,i⟩:=h.Q3;subst e;cases r;obtain⟨p,f,⟨o,n,l,k,_,j⟩,_⟩:=I.list g;obtain⟨c,q⟩:=mr I m d p i f b;rw[QL];exact⟨_,reads_list_at l k j (by simpa using q)⟩
 |.exc _,_,_,_,_,b=>by rw[Ug]at b;cases b
 |.obj _ _ _,_,_,_,_,b=>by rw[Ug]at b;cases b
 |.RD _ _,_,_,_,_,b=>by rw[Ug]at b;cases b
 |.ra _,_,_,_,_,b=>by rw[Ug]at b;cases b
 |.SR,_,_,_,_,b=>by rw[Ug]at b;cases b
theorem mr(I:Inv X pins σ H s):∀(ds:yas) (vs:yar) (a:yad),ah X.K P H ds vs->Vals vs a->oM ds=true->∃b,ReadsAll s.heap a (cC ds) b
 |[],_,_,h,r,_=>by simp only[ah]at h;subst h;cases r;rw[cC];exact⟨_,.nil⟩
 |d::ds,_,_,h,r,a=>by
  rw[oM,Xb]at a;simp only[ah]at h;obtain⟨v,i,rfl,g,f⟩:=h;cases r with
  |cons e c =>
   obtain⟨b,q⟩:=eJ I d v _ g e a.1;obtain⟨j,b⟩:=mr I ds _ _ f c a.2;rw[cC];exact⟨_,.cons q b⟩
end
def Ms:RD2:=λx y Q=>okD x/\okD y/\Q (.bl (eqD x y))
def Mu:RD2:=λx y Q=>okD x/\okD y/\Q (.bl (!eqD x y))
def Ic(j:X.A.units+64<cLine):P8 X (compareOp .Eq) Ms:=by intro pins s σ H W x y v u c d Q I _ e f i h q;obtain⟨b,a,q⟩:=q;obtain⟨l,g⟩:=eJ I x v c i e b.1;obtain⟨k,c⟩:=eJ I y u d h f a.1;exact eq_dataH g c b.2 a.2 j ⟨.bl _,H,_,I,rfl,ar.refl H,Den.bl _,q⟩
def Co(j:X.A.units+64<cLine):P8 X (compareOp .NotEq) Mu:=by intro pins s σ H W x y v u c d Q I _ e f i h q;obtain⟨b,a,q⟩:=q;obtain⟨l,g⟩:=eJ I x v c i e b.1;obtain⟨k,c⟩:=eJ I y u d h f a.1;exact ne_dataH g c b.2 a.2 j ⟨.bl _,H,_,I,rfl,ar.refl H,Den.bl _,q⟩
def bS:P8 X (compareOp .Eq) (gG λi j=>.bl (decide (i=j))):=P8.of Nb λP H x y v u Q d c z=>by
 obtain⟨i,j,f,e,q⟩:=pW z;subst f e;have a:=d.Pk;have b:=c.Pk;subst a b;refine⟨rfl,ar.refl H,_,Den.bl _,?_⟩
 simp_all
def kf:P8 X (compareOp .NotEq) (gG λi j=>.bl (!decide (i=j))):=P8.of Nh λP H x y v u Q d c z=>by
 obtain⟨i,j,f,e,q⟩:=pW z;subst f e;have a:=d.Pk;have b:=c.Pk;subst a b;refine⟨rfl,ar.refl H,_,Den.bl _,?_⟩
 simp_all
def dZ:D->Bool
 |.ON=>true
 |_=>false
def vw{K:yac}{d:D}{v:V}(h:Den K P H d v):decide (v=.ON)=dZ d:=by
 cases d with
 |ON=>have:=h.V4;subst this;rfl
 |bl b=>have:=h.WI;subst this;rfl
 |int b=>have:=h.Pk;subst this;rfl
 |str b=>have:=h.Xn;subst this;rfl
 |tup d=>obtain⟨a,b,e,_⟩:=h.Qq;subst e;rfl
 |lst _ d=>obtain⟨a,b,e,_⟩:=h.Q3;subst e;rfl
 |exc c=>obtain⟨a,e,_⟩:=h.YM;subst e;rfl
 |obj C f d=>obtain⟨a,i,b,e,_⟩:=h.YL;subst e;rfl
 |SR=>obtain⟨a,e,_⟩:=h.dic_;subst e;rfl
 |RD g d=>obtain⟨a,_,_,b,e,_⟩:=h.Xo;subst e;rfl
 |ra a=>have e:=h.ra_.1;subst e;rfl
def L7:P8 X (compareOp .Is) (λx y Q=>y=.ON/\Q (.bl (dZ x))):=P8.of Md λP H x y v u Q b a ⟨e,q⟩=>by subst e;refine⟨a.V4,ar.refl H,_,Den.bl _,?_⟩;rw[vw b];exact q
def pU:P8 X (compareOp .IsNot) (λx y Q=>y=.ON/\Q (.bl (!dZ x))):=P8.of JL λP H x y v u Q b a ⟨e,q⟩=>by subst e;refine⟨a.V4,ar.refl H,_,Den.bl _,?_⟩;rw[vw b];exact q
end
section
variable{X:Cx}
def nX:eZ X (.builtin "abs") (λds Q=>∃i:Int,ds=[.int i]/\Q (.int (i.natAbs:Int))):=eZ.of F2 λP H ds a Q _ b ⟨i,e,q⟩=>by
 subst e;obtain⟨v,r,rfl,d,c⟩:∃v r,a=v::r/\Den X.K P H (.int i) v/\ah X.K P H [] r:=by simpa only[ah]using b
 have b:=d.Pk;have a:r=[]:=by simpa only[ah]using c
 subst b a;refine⟨i,rfl,ar.refl H,_,Den.int _,?_⟩
 lia
def fN{K:yac}{P:yak}{H:Hp}{x y:D}{vs:yar}(h:ah K P H [x,y] vs):∃v u,vs=[v,u]/\Den K P H x v/\Den K P H y u:=by simp only[ah]at h;obtain⟨v,r,e,c,u,f,d,b,a⟩:=h;subst d a e;exact⟨v,u,rfl,c,b⟩
def mq{K:yac}{P:yak}{H:Hp}{x:D}{vs:yar}(h:ah K P H [x] vs):∃v,vs=[v]/\Den K P H x v:=by simp only[ah]at h;obtain⟨v,r,e,a,b⟩:=h;subst b e;exact⟨v,rfl,a⟩
def KG (b:X.calm=true):eZ X (.builtin "max") (λds Q=>∃i j:Int,ds=[.int i,.int j]/\Q (.int (max i j))):=eZ.of (Dr b) λP H ds h Q _ a ⟨i,j,e,q⟩=>by
 subst e;obtain⟨v,u,rfl,d,c⟩:=fN a;have g:=d.Pk;have f:=c.Pk;subst g f;refine⟨i,j,rfl,ar.refl H,_,Den.int _,?_⟩;have:(if j > i then j else i)=max i j:=by split<;>lia
 rw[this];exact q
def bg:eZ X (.builtin "len") (λds Q=>∃xs,((∃t,ds=[.lst t xs])∨ds=[.tup xs])/\Q (.int (xs.length:Int))):=eZ.of xo λP H ds h Q _ g ⟨xs,e,q⟩=>by
 rcases e with⟨i,e⟩| e;subst e;obtain⟨v,rfl,f⟩:=mq g;obtain⟨a,b,e,_,d,c⟩:=f.Q3;subst e;refine⟨a,b,rfl,.inl d,ar.refl H,_,Den.int _,?_⟩;rw[c.len];exact q;subst e;obtain⟨v,rfl,f⟩:=mq g;obtain⟨a,b,e,d,c⟩:=f.Qq;subst e;refine⟨a,b,rfl,.inr d.w,ar.refl H,_,Den.int _,?_⟩;rw[c.len];exact q
noncomputable def Vf:D->String
 |.ON => "NoneType" | .bl _ => "bool" | .int _ => "int" | .str _ => "str" | .tup _ => "tuple" | .lst _ _ => "list" | .exc _ => "object" | .obj _ _ _ => "object" | .SR => "dict" | .RD _ _ => "dict" | .ra _ => "list"
def WH:D->Value
 |.exc c=>.ref c
 |.obj C _ _=>.ref C
 |d=>.type (Vf d)
variable{e:Expr}{te:DE}{p p' pos:Pos}{T:String}{x:Str}
def Jj(x:bD P w H h a (.ins C dx fs)):∃b,PySem.W.InstAt h a (PySem.W.instObj C dx) C (some b):=by obtain⟨d,z,c,a,f,n,r,q⟩:=x;obtain⟨b,d,_⟩:=FK.look ⟨a,n,c⟩;exact⟨b,d⟩
def yv{Q:yaa}{b:Bool}(I:Inv X pins σ H s)(h:Den X.K P H d v)(r:RelV v u)
  (e:PySem.W.kitOne X.K (WH d) c=some b) (q:∀a,Q (.bool b) {s with toks:=a}):wpAny (model X.prog X.w) A (call (.builtin "isinstance") [u,c]) Q E s:=by
 cases d with
 |ON=>have z:=h.V4;subst z;cases r;exact PySem.W.kia_one PySem.W.kitx_none I.SJ True.intro e (by lia) q
 |bl y=>have z:=h.WI;subst z;cases r;exact PySem.W.kia_one PySem.W.kitx_bool I.SJ True.intro e (by lia) q
 |int i=>have z:=h.Pk;subst z;obtain⟨t,rfl⟩:=r;exact PySem.W.kia_one PySem.W.kitx_int I.SJ True.intro e (by lia) q
 |str y=>have z:=h.Xn;subst z;obtain⟨t,rfl⟩:=r;exact PySem.W.kia_one PySem.W.kitx_str I.SJ True.intro e (by lia) q
 |tup g =>
  obtain⟨a,f,z,b,_⟩:=h.Qq;subst z;cases r;obtain⟨l,i,⟨o,d,c,n,j⟩,_⟩:=I.tuple b.w;exact PySem.W.kia_one PySem.W.kitx_tuple I.SJ ⟨o,d,c⟩ e (by lia) q
 |lst _ g =>
  obtain⟨a,f,z,_,b,_⟩:=h.Q3;subst z;cases r;obtain⟨l,i,⟨o,n,d,c,_,j⟩,_⟩:=I.list b;exact PySem.W.kia_one PySem.W.kitx_list I.SJ ⟨o,d,c⟩ e (by lia) q
 |exc L =>
  obtain⟨a,z,b,k⟩:=h.YM;subst z;cases r;exact PySem.W.kia_one (GH k) I.SJ (I.OB a _ b).1 e (by lia) q
 |obj C B g =>
  obtain⟨a,J,f,z,b,_,k,_⟩:=h.YL;subst z;cases r;obtain⟨w,s⟩:=Jj (I.OB a _ b);exact PySem.W.kia_one (PySem.W.kitx_own k.pg k.hd k.at_ k.get k.takes k.obj) I.SJ s e (by lia) q
 |SR =>
  obtain⟨a,z,b⟩:=h.dic_;subst z;cases r;exact PySem.W.kia_one PySem.W.kitx_dict I.SJ (I.OB a _ b).1 e (by lia) q
 |RD G g =>
  obtain⟨a,o,m,f,z,b,_⟩:=h.Xo;subst z;cases r;obtain⟨_,_,_,_,_,g,_,_,s,k,_⟩:=I.OB a _ b;exact PySem.W.kia_one PySem.W.kitx_dict I.SJ ⟨g,s,k.1⟩ e (by lia) q
 |ra a =>
  obtain⟨z,_,f,b⟩:=h.ra_;subst z;cases r;obtain⟨l,i,⟨o,n,d,c,_,j⟩,_⟩:=I.list b.1;exact PySem.W.kia_one PySem.W.kitx_list I.SJ ⟨o,d,c⟩ e (λz=>nomatch z) q
def zM(K:yac)(S T:String):PySem.W.kitOne K (.type S) (.type T)=if S=T then some true else if PySem.W.kitMeta T=true then(fastBuiltinMro S).map (·.contains (.type T))else none:=by
 unfold PySem.W.kitOne PySem.W.kitCls PySem.W.subIn
 lia
def Xr (T:String) (d:D):Bool:=Vf d==T || (Vf d == "bool" && T == "int")
def kit_ans (K:yac) (d:D) (b:∀c,d=.exc c->fT K c) (g:∀C ns ds,d=.obj C ns ds->BO K C) (a:T = "int" ∨ T = "bool" ∨ T = "tuple" ∨ T = "list" ∨ T = "str"):PySem.W.kitOne K (WH d) (.type T)=some (Xr T d):=by
 by_cases f:∃c,d=.exc c;obtain⟨c,rfl⟩:=f;show PySem.W.kitOne K (.ref c) (.type T)=_;rw[(b c rfl).not T a];show _=some ("object" == T || ("object" == "bool" && T == "int"));rcases a with e|e|e|e|e<;>subst e<;>decide +kernel;by_cases b:∃C ns ds,d=.obj C ns ds;obtain⟨C,ns,ds,rfl⟩:=b;show PySem.W.kitOne K (.ref C) (.type T)=_;rw[(g C ns ds rfl).not T a];show _=some ("object" == T || ("object" == "bool" && T == "int"));rcases a with e|e|e|e|e<;>subst e<;>decide +kernel;have c:WH d=.type (Vf d):=by cases d<;>first|rfl|exact absurd ⟨_,rfl⟩ f|exact absurd ⟨_,_,_,rfl⟩ b
 rw[c,zM];unfold Xr;have c:Vf d = "NoneType" ∨ Vf d = "bool" ∨ Vf d = "int" ∨ Vf d = "str" ∨ Vf d = "tuple" ∨ Vf d = "list" ∨ Vf d = "dict" := by cases d<;>first|exact absurd ⟨_,rfl⟩ f|exact absurd ⟨_,_,_,rfl⟩ b|simp[Vf]
 generalize Vf d=S at c ⊢;rcases a with e|e|e|e|e<;>subst e<;>rcases c with e|e|e|e|e|e|e<;>subst e<;>decide +kernel
def dIs(T:String)(te:DE):DE:=λa Q=>te a λd=>Q (.bl (Xr T d))
def eI (n:Gl X "isinstance") (m:X.mg "isinstance" = none) (f:Gl X x) (d:X.mg x=none) (k:bootBuiltins x=some (.type T)) (q:T = "int" ∨ T = "bool" ∨ T = "tuple" ∨ T = "list" ∨ T = "str") (o:OD X e te)
  (l:x ≠ "__name__" := by decide) (t:(x==("__debug__" : Str))=false:=by decide)
  (i:starEach [e,.Name x p'] X.env=(false,eval e X.env)::starEach [.Name x p'] X.env:=by rfl) (u:starEach [.Name x p'] X.env=(false,eval (.Name x p') X.env)::starEach [] X.env:=by rfl) (r:(backTo pos (starEach [.Name x p'] X.env)).any (·.1)=false:=by rfl) :
  OD X (.Call (.Name "isinstance" p) [e,.Name x p'] [] pos) (dIs T te):=by
 intro b s g H W j Q I a h;have c:PA X [e,.Name x p'] (p5 (Cg X te) (p5 (tC (.ty T)) CT)):=gw o.pe (gw (A7 f d k rfl l t) lW u) i;refine Uo (cc I n m boot_isinstance ?_ (by decide) (by decide));refine PyProof.Rows.callWith_builtin1 (Oj (c pos b s g H (λc f=>∃v d,c=[v,.ty T]/\ar H f/\Den X.K W.bad f d v/\Q (.bl (Xr T d))) I ⟨W,j,_,a,h,λv f d h b g=>⟨v,d,rfl,h,b,g⟩⟩) λw y k=>?_) i r;obtain⟨c,f,i,c,v,d,j,h,b,g⟩:=k;subst j;cases c with
 |cons j a =>
  cases a with
  |cons c a =>
   cases a;cases(show _=Value.type T from c);exact yv i b j (kit_ans X.K d (λc z=>by subst z;exact b.YM.choose_spec.2.2) (λC A B z=>by subst z;obtain⟨_,_,_,_,_,_,k,_⟩:=b.YL;exact k) q) λa=>⟨.bl _,f,_,i.tok a,rfl,h,Den.bl _,g⟩
end
section
variable{X:Cx}{pos:Pos}
def WJ.up(g:OQ W0 H0 W H)(h:WJ X pins W H E f s'):WJ X pins W0 H0 E f s':=by obtain⟨b,c,d,I,a,q⟩:=h;exact⟨b,c,d,I,g.trans a,q⟩
variable{st:Stmt}{rest:yal}{t u:DS}{e:Expr}{te:DE}
def HK:DS:=λE a=>E.nx a
def K3(t u:DS):DS:=λE a=>t {E with nx:=u E} a
def aG:cM X [] HK:=λ_ _ a H W b E I r h=>Xe ⟨W,a,H,I,OQ.refl W H,b,r,h⟩
def aj(d:Q4 X st t)(j:cM X rest u):cM X (st::rest) (K3 t u):=by
 intro a s b H W c E I r h;refine Vv (Oj (d a s b H W c {E with nx:=u E} I r h) λf i k=>?_);obtain⟨c,d,h,g,b,q⟩:=k;cases f with
 |next =>
  obtain⟨k,f,q⟩:=q;exact Oj (j a i d h c k E g f q) λ_ _ z=>z.up b
 |ret v=>exact⟨c,d,h,g,b,q⟩
 |brk=>exact⟨c,d,h,g,b,q⟩
 |cont=>exact⟨c,d,h,g,b,q⟩
def ak(d:Q4 X st t):cM X [st] t:=by
 intro a s b H W c E I r h;refine Vv (Oj (d a s b H W c E I r h) λf g q=>?_);cases f with
 |next=>exact Xe q
 |ret v=>exact q
 |brk=>exact q
 |cont=>exact q
def K0(te:DE):DS:=λE a=>te a E.rt
def av(d:OD X e te):Q4 X (.Return (some e) pos) (K0 te):=by intro a s b H W c E I r h;exact wpAny_Return_some (Oj (d a s b H W c _ I r h) λu k h=>(by obtain⟨v,j,d,i,a,g,f,c⟩:=h;exact⟨W,b,j,i,OQ.same g,v,d,a,f,c⟩))
def KR(c:DT)(t u:DS):DS:=λE a=>c a λb=>if b=true then t E a else u E a
def aR(d:TH X c tc)(l:cM X a t)(k:cM X b u):Q4 X (.If c a b pos) (KR tc t u):=by
 intro a s c H W f E I r h;refine wpAny_If (Oj (d a s c H W f _ I r h) λd g m=>?_);obtain⟨j,i,b,h⟩:=m;cases d with
 |true=>exact Oj (l a g c j W f E i (r.same b) h) λ_ _ z=>z.up (OQ.same b)
 |false=>exact Oj (k a g c j W f E i (r.same b) h) λ_ _ z=>z.up (OQ.same b)
def Rel.put{X:Cx}{i:Nat}(r:Rel X W H σ ρ)(f:i<σ.length)(c:Den X.K W.bad H d v):Rel X (W.drop i) H (σ.set i (some v)) (ρ.set i (some (.val d))) where
 val:=λj x h=>by
  by_cases b:j=i;subst b;refine⟨v,by simp[f],?_⟩;by_cases a:j<ρ.length;rw[UP a]at h;cases h;exact c.OC λ_ _=>Own.O0
  simp_all
  rw[Rc (Ne.symm b)]at h;obtain⟨w,c,d⟩:=r.val j x h;exact⟨w,by simp_all [Rc,Ne.symm],d.OC λ_ _=>Own.O0⟩
 own:=λj x h=>by
  by_cases b:j=i
  ·subst b;by_cases a:j<ρ.length
   all_goals simp_all
  rw[Rc (Ne.symm b)]at h;obtain⟨a,g,c,d,l,k⟩:=r.own j x h;exact⟨a,g,by show(if j=i then none else W.O j)=_;lia,by rw[Rc (Ne.symm b)];exact d,l,by rw[VQ];exact k.OC (λ_ _=>Own.O0) (Own.Rz f)⟩
 inj:=λj k a c d=>by
  have b:(if j=i then none else W.O j)=some a:=c;have f:(if k=i then none else W.O k)=some a:=d;by_cases d:j=i
  lia
  by_cases g:k=i
  lia
  rw[Oc d]at b;rw[Oc g]at f;exact r.inj j k a b f
 kn:=λj a c=>by
  have b:(if j=i then none else W.O j)=some a:=c;by_cases d:j=i
  lia
  rw[Oc d]at b;exact r.kn j a b
 ke:=λj a c=>by
  have b:(if j=i then none else W.O j)=some a:=c;by_cases d:j=i
  lia
  rw[Oc d]at b;exact r.ke j a b
 bt:=r.bt
 st:=r.st
 ent:=r.ent
 tab:=r.tab
theorem OQ.drop(W:Own)(H:Hp)(i:Nat):OQ W H (W.drop i) H:=⟨rfl,rfl,by lia,λj a h=>by have b:(if j=i then none else W.O j)=some a:=h;grind,by simp_all,id⟩
def Inv.TJ{i:Nat}{x:Str}(I:Inv X pins σ H s)(a:X.N[i]?=some x):i<σ.length:=by rw[I.len];exact(QH.mp a).1
def Gd(i:Nat)(te:DE):DS:=λE a=>te a λd=>E.nx (a.set i (some (.val d)))
def aE{x:Str}(i:Nat)(l:X.N.Nodup)(f:OD X e te)(b:X.N[i]?=some x:=by rfl)(j:Loc X.env.scope x:=by first|exact Or.inl rfl|exact Or.inr rfl)(hs:swapsWith e (some (.Name x pos')) pos.line X.env=pure false:=by rfl)
  (k:X.fn x=true∨X.env.scope.names.lookup x=some .local:=by first|exact .inl rfl|exact .inr rfl|assumption):Q4 X (.Assign [.Name x pos'] e pos) (Gd i te):=by
 intro a s c H W d E I r h;refine zC8 (Oj (f a s c H W d _ I r h) λu o m=>?_) hs;obtain⟨v,f,d,c,d,a,h,g⟩:=m;exact cN c l b j d (λn d=>⟨W.drop i,_,f,d,(OQ.same a).trans (OQ.drop W f i),_,(r.same a).put (Inv.TJ c b) h,g⟩) k
def Q4.of{t:DS}(h:PS X st ts)(k:∀f H W ρ E,Rel X W H f ρ->f.length=X.N.length->t E ρ->ts ⟨(λc H'=>∃a b,OQ W H a H'/\Rel X a H' c b/\E.nx b),(λv H'=>∃a d,OQ W H a H'/\Den X.K a.bad H' d v/\E.rt d),
   (λc H'=>∃a b,OQ W H a H'/\Rel X a H' c b/\E.bk b),(λc H'=>∃a b,OQ W H a H'/\Rel X a H' c b/\E.ct b)⟩ f H):Q4 X st t:=by
 intro g s f H W ρ E I r i;refine Oj (h g s f H _ I (k f H W ρ E r I.len i)) λf j q=>?_
 cases f with
 |next=>obtain⟨c,H',g,a,b,f,h,q⟩:=q;exact⟨a,c,H',g,f,b,h,q⟩
 |brk=>obtain⟨c,H',g,a,b,f,h,q⟩:=q;exact⟨a,c,H',g,f,b,h,q⟩
 |cont=>obtain⟨c,H',g,a,b,f,h,q⟩:=q;exact⟨a,c,H',g,f,b,h,q⟩
 |ret u=>obtain⟨v,c,H',g,b,a,d,f,h,q⟩:=q;exact⟨a,c,H',g,f,v,d,b,h,q⟩
def Ld(c:DT)(d:DS):DS:=λE a=>∃W:Nat->Ro->Prop,(∃m,W m a)/\∀m a,W m a->c a λb=>if b=true then d {E with nx:=λc=>∃b,b<m/\W b c,ct:=λc=>∃b,b<m/\W b c,bk:=E.nx} a else E.nx a
def mw(f:PassesOwn (model X.prog X.w) X.A X.env X.xe)(o:TH X c tc)(y:cM X body tb):Q4 X (.While c body [] pos) (Ld tc tb):=by
 intro a s i H W j E I r h;obtain⟨p,⟨m,k⟩,b⟩:=h;refine wpAny_While (codeAny_whileLoop (λn l=>∃d g c h,Inv X a g c l/\OQ W H d c/\Rel X d c g h/\p n h) ?_ m ⟨W,i,H,j,I,OQ.refl W H,r,k⟩);rintro n h ⟨g,q,k,i,j,d,m,c⟩;refine Vx f (Oj (o a h q k g i _ j m (b n i c)) λb h c=>?_);obtain⟨x,w,p,s⟩:=c;have c:=d.trans (OQ.same (W:=g) p);cases b with
 |true =>
  refine Vx f (Oj (y a h q x g i _ w (m.same p) s) λf z a=>?_);obtain⟨d,h,k,j,b,a⟩:=a;cases f with
  |next =>
   obtain⟨r,l,n,o,f⟩:=a;exact⟨n,o,d,h,k,r,j,c.trans b,l,f⟩
  |cont =>
   obtain⟨r,l,n,o,f⟩:=a;exact⟨n,o,d,h,k,r,j,c.trans b,l,f⟩
  |brk=>exact⟨d,h,k,j,c.trans b,a⟩
  |ret v=>exact⟨d,h,k,j,c.trans b,a⟩
 |false =>
  exact Xe ⟨g,q,x,w,c,i,m.same p,s⟩
def LD{X:Cx}(r:Rel X W H σ ρ)(f:OQ W H W' H')(a:Addr)(o:HO)(n:V3 o)(q:H a=some o):H' a=some o :=
 f.kp a _ (λi z=>by obtain⟨_,_,c,b,m⟩:=r.kn i a z;rw[q]at b;cases b;exact m.sol n) q n.nt
def LC{X:Cx}(r:Rel X W H σ ρ)(f:OQ W H W' H')(a:Addr)(vs:yar)(q:OT X.K H a vs):OT X.K H' a vs:=by
 rcases q with q|q;exact .inl (f.keep a _ (λi e=>by obtain⟨_,_,c,b,m⟩:=r.kn i a e;rw[b]at q;cases q;exact m) q)
 exact .inr q
def LB{X:Cx}(d:Rel X W' H' Oo Oh)(f:OQ W H W' H')(t:Bool)(a:Addr)(vs:yar)(p:¬W.bad t a)(q:QK X.K H t a vs):¬W'.bad t a/\QK X.K H' t a vs:=by
 have c:∀i,W.O i≠some a:=λi e=>p (.inr (.inl ⟨i,e⟩))
 refine⟨λb=>?_,?_,λz=>⟨f.keep a _ c (q.2 z).1,(q.2 z).2⟩⟩;rcases b with b|⟨i,b⟩| ⟨e,b⟩;rw[f.B]at b;exact p (.inl b);rcases f.new i a b with⟨j,z⟩| z
 simp_all
 rcases q.1 with(q|⟨o,q⟩)|⟨o,Oe,n,q,_⟩
 lia
 lia
 rw[(d.kn i a b).1]at q;lia;rw[f.S]at b;exact p (.inr (.inr ⟨e,b⟩));rcases q.1 with(q|⟨o,q⟩)|q;exact .inl (.inl (f.keep a _ c q));exact .inl (.inr ⟨o,f.keep a _ c q⟩);exact .inr q
def Den.fwd{X:Cx}(r:Rel X W H σ ρ)(a:Rel X W' H' Oo Oh)(f:OQ W H W' H')(h:Den X.K W.bad H d v):Den X.K W'.bad H' d v :=
 Den.map (LC r f) (LB a f) (LD r f) d v h
abbrev DG:=D->Ro->(Ro->Prop)->Prop
def WL(X:Cx)(a:Expr)(g:DG):Prop :=
 ∀ (b:yab) (s:Shared) (c:St) (H:Hp) (W:Own) (f:Ro) (d:D) (v:V) (u:Value) (Q:Ro->Prop),Inv X b c H s->Rel X W H c f->RelV v u->Den X.K W.bad H d v->g d f Q →
  wpAny (model X.prog X.w) X.A (assign a X.env u) (λ_ g=>∃c d a f,Inv X b d a g/\OQ W H c a/\Rel X c a d f/\Q f) X.xe s
abbrev WM:=yas->Ro->(Ro->Prop)->Prop
def ug(X:Cx)(ts:yai)(t:WM):Prop :=
 ∀ (a:yab) (s:Shared) (b:St) (H:Hp) (W:Own) (c:Ro) (g:yas) (d:yar) (f:yad) (Q:Ro->Prop),Inv X a b H s->Rel X W H b c->Vals d f->ah X.K W.bad H g d->t g c Q →
  wpAny (model X.prog X.w) X.A (assignInOrder ((assignEach ts X.env).map (·.2)) f) (λ_ g=>∃c d b f,Inv X a d b g/\OQ W H c b/\Rel X c b d f/\Q f) X.xe s
theorem ah.fwd{X:Cx}(r:Rel X W H σ ρ)(a:Rel X W' H' Oo Oh)(f:OQ W H W' H'):∀{ds:yas} {vs:yar},ah X.K W.bad H ds vs->ah X.K W'.bad H' ds vs
 |[],_,h=>by simpa only[ah]using h
 |d::ds,_,h=>by obtain⟨v,q,e,c,b⟩:=h;exact⟨v,q,e,Den.fwd r a f c,ah.fwd r a f b⟩
def oC(i:Nat):DG:=λd a Q=>Q (a.set i (some (.val d)))
def aZ{x:Str}(i:Nat)(j:X.N.Nodup)(b:X.N[i]?=some x:=by rfl)(f:Loc X.env.scope x:=by first|exact Or.inl rfl|exact Or.inr rfl)
  (g:X.fn x=true∨X.env.scope.names.lookup x=some .local:=by first|exact .inl rfl|exact .inr rfl|assumption):WL X (.Name x pos) (oC i):=by
 intro a s k H W l d v u Q I r c d h;exact wpAny_assign_Name (cN I j b f c (λm c=>⟨W.drop i,_,H,_,c,OQ.drop W H i,r.put (Inv.TJ I b) d,h⟩) g)
def sL:WM:=λb a Q=>b=[]/\Q a
def lQ(g:DG)(u:WM):WM:=λb a Q=>∃d r,b=d::r/\g d a λa=>u r a Q
def pO:ug X [] sL:=by intro a s b H W c j d f Q I r g i h;obtain⟨e,h⟩:=h;exact assignInOrder_nil ⟨W,b,H,c,I,OQ.refl W H,r,h⟩
def fU{e:Expr}{u:WM}(l:WL X e g)(k:ug X es u)(hs:(assignEach (e::es) X.env).map (·.2)=assign e X.env::(assignEach es X.env).map (·.2):=by rfl):ug X (e::es) (lQ g u):=by
 intro a s c H W f z w x Q I r i j h;obtain⟨d,n,b,h⟩:=h;subst b;obtain⟨v,g,m,o,b⟩:=j;subst m;cases i with
 |cons j i =>
  rw[hs];refine assignInOrder_cons (Oj (l a s c H W f d v _ _ I r j o h) λ_ f o=>?_);obtain⟨l,j,q,m,p,d,c,h⟩:=o;exact Oj (k a f j q l m n g _ Q p c i (ah.fwd r c d b) h) λ_ y i=>(by obtain⟨f,g,k,h,j,c,a,b⟩:=i;exact⟨f,g,k,h,j,d.trans c,a,b⟩)
def yu{h:Heap}(b:h.IsList l items)(hs:Heap.SameBut it h h')(c:l≠it):h'.IsList l items:=by obtain⟨o,a,r⟩:=b;exact⟨o,(hs.2 l c).trans a,r⟩
theorem vB{a l:Addr}(h:l≠a):∀(n i:Nat) (s:Shared) (Q:yad->Shared->Prop),s.heap.IsListIter a l i->s.heap.IsList l items->i+n<=items.size →
  (∀h',h'.IsListIter a l (i+n)->Heap.SameBut a s.heap h'->Q ((items.toList.drop i).take n) {s with heap:=h'})->wpAny (model prog w) A (draw (.ref a) n) Q E s
 |0,i,s,Q,a,_,_,d=>by
  show wpAny _ _ (pure []) Q E s
  simp_all [wpAny_pure,Heap.SameBut.refl]
 |n+1,i,s,Q,a,c,j,d=>by
  have g:i<items.size:=by omega
  refine Oa (wpAny_pyNext_list_item a c (x:=items[i]) (by simp[g]) λQV a f=>?_);refine Oa (SF (vB h n (i+1) _ _ a (yu c f h) (by omega) λc b a=>wpAny_pure ?_));have k:items.toList.drop i=items[i]::items.toList.drop (i+1):=by simp[WY,g]
  have:=d c (by lia) (f.trans a)
  simp_all
def rQ{A:Around}{s:Shared}{Q:yad->Shared->Prop}(g:A.handled=none)(a:s.heap.IsList l items)
  (h:∀h',Heap.ExtBut s.heap.objs.size s.heap h'->Q items.toList {s with heap:=h'}):wpAny (model prog w) A (unpackItems (.ref l) items.size none) Q E s:=by
 have f:l≠s.heap.objs.size:=by obtain⟨o,c,_⟩:=a;exact PY (OY c)
 refine Oa ?_;refine Oa (ZE a.typeIs F.slot_list_iter.lookup ?_);refine wpAny_pure ?_;refine Oa (SF (wpAny_pyIter_list a ?_));have b:(s.heap.push {cls:=.type "list_iterator", data:=.fields #[.ref l,rawInt 0]}).IsList l items:=by obtain⟨o,c,r⟩:=a;exact⟨o,Po _ c,r⟩
 refine Oa (SF (vB f items.size 0 _ _ ⟨_,Rh _ rfl,rfl,rfl⟩ b (by lia) λi c d=>?_));have a:List.take items.size (List.drop 0 items.toList)=items.toList:=by simp_all [List.drop_zero,W4]
 rw[a];rw[Oc (by simp)];have a:i.IsList l items:=yu b d f;refine Oa (SF (wpAny_pyNext_list_end g c a (by simp) λb a=>?_));refine wpAny_pure (h b λb o c e=>a b o c (d.extBut b o c (Po _ e)))
def sM(n:Nat)(t:WM):DG:=λd b Q=>∃a,(d=.tup a∨∃ t,d=.lst t a)/\a.length=n/\t a b Q
def sN{t:WM}{n:Nat}(C:X.calm=true)(h:ug X es t)(z:(assignEach es X.env).length=n:=by rfl)(G:(assignEach es X.env).findIdx? (·.1)=none:=by rfl):WL X (.Tuple es k pos) (sM n t):=by
 intro c s i H W x d v u Q I r y B j;obtain⟨E,f,A,j⟩:=j;rcases f with f|⟨M,f⟩;subst f;obtain⟨a,k,q,n,g⟩:=B.Qq;subst q;cases y;obtain⟨J,d,m,L⟩:=I.tuple n.w;refine assign_Tuple_tuple (I.ok.hd C) m (by simp[z,<- A,<- d.length,g.len]) G λp l=>?_
 have w:Inv X c i H {s with heap:=p}:=I.kept (t':=s.toks) λb o e=>l b o (PY (OY e)) e
 exact h c _ i H W x E k _ Q w r (by lia) g j;subst f;obtain⟨a,k,q,_,n,g⟩:=B.Q3;subst q;cases y;obtain⟨J,d,m,L⟩:=I.list n;refine Oa (wpAny_standAt ?_);unfold unpack;rw[G,show(assignEach es X.env).length=J.toArray.size by simp[z,<- A,<- d.length,g.len]];refine Oa (SF (rQ (I.ok.hd C) m.isList λp l=>?_));have w:Inv X c i H {s with heap:=p}:=I.kept (t':=s.toks) λb o e=>l b o (PY (OY e)) e
 exact h c _ i H W x E k _ Q w r (by lia) g j
def KQ(te:DE)(g:DG):DS:=λE a=>te a λd=>g d a E.nx
def Lk{e:Expr}{te:DE}(f:OD X e te)(j:WL X tg g)(hs:swapsWithSole [tg] e pos.line X.env=pure false:=by rfl)(d:swappedStores [tg] e X.env=pure none:=by rfl)
  (l:(assignEach [tg] X.env).map (·.2)=[assign tg X.env]:=by rfl):Q4 X (.Assign [tg] e pos) (KQ te g):=by
 intro a s b H W c E I r h;refine wpAny_Assign_stores (Oj (f a s b H W c _ I r h) λu g m=>?_) hs d;obtain⟨v,o,d,n,h,f,k,i⟩:=m;rw[l];exact Oj (j a g b o W c d v u _ n (r.same f) h k i) λ_ p i=>(by obtain⟨d,g,k,h,j,c,a,b⟩:=i;exact⟨d,g,k,j,(OQ.same f).trans c,h,a,b⟩)
def YD(K:yac)(W:Own)(H:Hp)(J:It)(ds:yas):Prop:=∀(f:yak) (b:Hp),(∀a c,OT K H a c->OT K b a c)->(∀t a c,¬W.bad t a->QK K H t a c->¬f t a/\QK K b t a c)->(∀a o,V3 o->H a=some o->b a=some o)->∀i,(i<ds.length->J.go i b)/\(∀x a,J.yld i b x a->i<ds.length->ar b a/\∃d,ds[i]?=some d/\Den K f a d x)/\(ds.length<=i->J.stop i b)
def UA(X:Cx)(i b:Expr)(wi:DA):Prop :=
 ∀ (a:yab) (s:Shared) (d:St) (H:Hp) (W:Own) (c:Ro) (R:yas->Prop),Inv X a d H s->Rel X W H d c->wi c R →
  wpAny (model X.prog X.w) X.A (eval b X.env) (λv j=>wpAny (model X.prog X.w) X.A (pyIter v) (λk b=>∃(f:Addr) (g:yae) (tn:Nat->Heap->Prop) (J:It) (c:Hp) (h:yas),k=.ref f/\Inv X a d c b/\ar H c ∧
   Turn X.prog X.w X.K i J g f tn/\tn 0 b.heap/\(∀b∈g,dN X a c b)/\YD X.K W c J h/\R h) X.xe j) X.xe s
def UA.of{b:DA}(h:PI X tg iter wi)(k:∀a H W ρ R,Rel X W H a ρ->b ρ R->wi a H λJ H'=>ar H H'/\∃ds,YD X.K W H' J ds/\R ds):UA X tg iter b:=by
 intro b s a H W ρ R I r c;refine Oj (h b s a H _ I (k a H W ρ R r c)) λv j a=>Oj a λVd i b=>?_
 obtain⟨a,c,tn,J,H',e,g,T,st,d,f,ds,y,q⟩:=b;exact⟨a,c,tn,J,H',ds,e,g,f,T,st,d,y,q⟩
def HJ(b:DE):DA:=λa R=>b a λd=>∃t a,d=.lst t a/\R a
def aN(h:OD X iter ti):UA X tg iter (HJ ti):=by
 refine UA.of (A9 h.pe) λp H W a R r b=>⟨W,a,_,r,b,λv H1 d h c q=>?_⟩
 obtain⟨k,j,rfl,q⟩:=q;obtain⟨a,b,rfl,l,g,f⟩:=c.Rf;refine⟨a,rfl,⟨b,g.1⟩,h,j,?_,q⟩;intro P' o n h m i;have c:SqL X.K o a b:=(h _ a b l g).2.1;have s:=f.len;refine⟨λa=>?_,λx H3 y a=>?_,λa=>⟨b,c,by lia⟩⟩;obtain⟨v,g,_⟩:=f.get (i:=i) (d:=j[i]) (by simp[a]);exact⟨b,v,c,g⟩;obtain⟨a,y⟩:=y;subst a;obtain⟨d,g,a⟩:=f.bA (y b c);exact⟨ar.refl _,d,g,Den.map n h m d _ a⟩
noncomputable def jh(lo step:Int)(n:Nat):yas:=(List.range n).map λ(i:Nat)=>D.int (lo+i*step)
def Hj(lo step:Int)(n:Nat):(jh lo step n).length=n:=by simp[jh]
def Hi{lo step:Int}{n i:Nat}(h:i<n):(jh lo step n)[i]?=some (D.int (lo+i*step)):=by simp[jh,h]
def Kv(lo c:Int)(n:Nat):It:=⟨λi _=>i<n,λi H x a=>a=H/\x=.int (lo+i*c),λi _=>n<=i⟩
def HB(K:yac)(W:Own)(H:Hp)(lo c:Int)(n:Nat):YD K W H (Kv lo c n) (jh lo c n):=λP' H' _ _ _ i=>by
 rw[Hj];refine⟨λh=>h,λx H3 y a=>?_,λh=>h⟩;obtain⟨e,b⟩:=y
 simp_all [ar.refl,Hi,Den.int]
def Aj{P:Program}{w:World}{K:yac}{a:Expr}(d:Addr)(lo c:Int)(n:Nat):Turn P w K a (Kv lo c n) [d] d (λi h=>IsRangeIter h d (lo+(i:Nat)*c) ((n:Int) - (i:Nat)) c) where
 mem:=by simp
 obj:=λi h st b f=>by
  have e:b=d:=by simpa using f
  subst e;exact⟨_,st,λv z=>by have a:Data.fields _=Data.cell v:=z;cases a⟩
 keep:=λi h j st k=>k d (by simp) _ st
 item:=by
  intro X p k q m i a s B H E I g st l;subst p k q;obtain⟨A,z,J,y,x,r⟩:=g d (by simp);have W:=Walks.range (prog:=X.prog) (w:=X.w) (I.ok.hd m) d lo c n;refine W.item i s _ _ l st λv j w o C G=>?_
  obtain⟨t,rfl⟩:=o;have L:Inv X a B H {s with heap:=j,toks:=w}:=I.turned (λb o f e=>G b o (by simpa using f) e) A z y x r;exact⟨_,rfl,B9 (s:={s with heap:=j,toks:=w}) (n := "range_iterator") C rfl rfl (by decide) ⟨.int (lo+i*c),H,L,⟨t,rfl⟩,⟨rfl,rfl⟩,C,λb f=>(g b f).1⟩⟩
 done:=by intro X p k q m i a s B H E I g st l;subst p k q;obtain⟨A,z,J,y,x,r⟩:=g d (by simp);exact wpAny_pyNext_range_end (I.ok.hd m) st (by have:n<=i:=l;lia) λj a=>⟨rfl,I.turned (t':=s.toks) (λb o f e=>a b o f e) A z y x r⟩
 self:=λ_ _ _ _ _ st h=>wpAny_pyIter_rangeiter st h
def k8(lo a c:Int):Nat:=(Builtin.Range.rangeSize lo a c).toNat
def vV{a b c:Int}(l:-(2 ^ 40)<=a)(Xs:a<2 ^ 40)(k:-(2 ^ 40)<=b)(VF:b<2 ^ 40)(j:0<c)(TQ:c<2 ^ 20):Builtin.Range.small a b c=true/\0<=Builtin.Range.rangeSize a b c:=by
 have f:a<b->0<=(b - a - 1) / c/\(b - a - 1) / c<=b - a - 1:=λh=>⟨Int.ediv_nonneg (by lia) (by lia),Int.ediv_le_self _ (by lia)⟩
 have d:a<b->(b - a - 1) / c*c<=b - a - 1:=λh=>Int.ediv_mul_le _ (by lia)
 unfold Builtin.Range.small Builtin.Range.rangeSize;rw[Og (by simp_all)];by_cases h:a<b;obtain⟨i,g⟩:=f h;have f:=d h;rw[Og h];generalize (b - a - 1) / c=q at i g f ⊢;simp only[Builtin.Range.rangeFitsLong,Xb,Bool.or_eq_true,decide_eq_true_eq,beq_iff_eq];constructor;rw[Og (by simp_all)];simp
 lia
 lia
 rw[Oc h];simp only[Builtin.Range.rangeFitsLong,Xb,Bool.or_eq_true,decide_eq_true_eq,beq_iff_eq];constructor;simp;lia
 lia
def vR{R:yas->Prop}{lo a c:Int}{t u:Tok}{d:Nat}(I:Inv X pins σ H s)(n:-(2 ^ 40)<=lo)(m:lo<2 ^ 40)(l:-(2 ^ 40)<=a)(k:a<2 ^ 40)(j:0<c)(i:c<2 ^ 20)
  (q:R (jh lo c (k8 lo a c))):wpAny (model X.prog X.w) X.A (pyIter (.ref s.heap.objs.size)) (λo f=>∃(g:Addr) (h:yae) (tn:Nat->Heap->Prop) (J:It) (H':Hp) (ds:yas),o=.ref g/\Inv X pins σ H' f/\ar H H' ∧
   Turn X.prog X.w X.K tg J h g tn/\tn 0 f.heap/\(∀b∈h,dN X pins H' b)/\YD X.K W H' J ds/\R ds) E {s with heap:=s.heap.push {cls:=.type "range", data:=.fields #[.int lo t,.int a u,.int c v]},toks:=d}:=by
 obtain⟨sm,p⟩:=vV n m l k j i;refine wpAny_pyIter_range (IsRange.new ..) sm ?_;have f:Inv X pins σ H {s with heap:=s.heap.push {cls:=.type "range", data:=.fields #[.int lo t,.int a u,.int c v]},toks:=d}:=I.kept λb o e=>Po _ e
 refine⟨(s.heap.push {cls:=.type "range", data:=.fields #[.int lo t,.int a u,.int c v]}).objs.size,[(s.heap.push {cls:=.type "range", data:=.fields #[.int lo t,.int a u,.int c v]}).objs.size],_,_,H,_,rfl,
  f.kept (t':=d) λb o e=>Po _ e,ar.refl H,Aj _ lo c (k8 lo a c),?_,λb r=>?_,HB _ _ _ _ _ _,q⟩
 have g:lo+((0:Nat):Int)*c=lo:=by simp
 have d:((k8 lo a c:Nat):Int) - ((0:Nat):Int)=Builtin.Range.rangeSize lo a c:=by unfold k8;lia
 rw[g,d];exact Rh _ rfl;have e:b=(s.heap.push {cls:=.type "range", data:=.fields #[.int lo t,.int a u,.int c v]}).objs.size:=by simp_all
 subst e;exact f.VY (O5 _) (f.OB.fresh (O5 _))
def CR3(i:Int):Prop:=-(2 ^ 40)<=i/\i<2 ^ 40
def BZ(b:DA):DA:=λa R=>b a λa=>∃i j:Int,a=[.int i,.int j]/\CR3 i/\CR3 j/\R (jh i 1 (k8 i j 1))
def HQ(b:DA):DA:=λa R=>b a λa=>∃j:Int,a=[.int j]/\CR3 j/\R (jh 0 1 (k8 0 j 1))
def vG {a b:Expr} {p pos:Pos} (M:Gl X "range") (L:X.mg "range" = none) (O:SU X [a,b] ta) (hs:starEach [a,b] X.env=(false,eval a X.env)::starEach [b] X.env:=by rfl) (Xt:(backTo pos (starEach [b] X.env)).any (·.1)=false:=by rfl) :
  UA X tg (.Call (.Name "range" p) [a,b] [] pos) (BZ ta):=by
 intro c s g H W k R I r h;refine Call_ (cc I M L boot_range (PyProof.Rows.callWith_type1 (Oj (O pos c s g H W k _ I r h) λus s1 Ol=>?_) hs Xt));obtain⟨vs,H1,f,I1,C,T,N,E⟩:=Ol;obtain⟨i,j,e,⟨a1,a2⟩,⟨b1,b2⟩,q⟩:=E;subst e;obtain⟨v1,u1,rfl,Y,U⟩:=fN N;have j:=Y.Pk;have i:=U.Pk;subst j i;cases C with
 |cons B d =>
  cases d with
  |cons A d =>
   cases d;obtain⟨t,rfl⟩:=B;obtain⟨t',rfl⟩:=A;refine call_range_2 ?_;exact Oj (vR (W:=W) (R:=R) I1 a1 a2 b1 b2 (by decide) (by decide) q) λVd s2 O3=>(by obtain⟨G,Q,tn,J,H',f,z,y,x,w,o,n,m,l⟩:=O3;exact⟨G,Q,tn,J,H',f,z,y,T.trans x,w,o,n,m,l⟩)
def iT {a:Expr} {p pos:Pos} (f:Gl X "range") (d:X.mg "range" = none) (g:SU X [a] ta) (hs:starEach [a] X.env=(false,eval a X.env)::starEach [] X.env:=by rfl) (i:(backTo pos (starEach [] X.env)).any (·.1)=false:=by rfl) :
  UA X tg (.Call (.Name "range" p) [a] [] pos) (HQ ta):=by
 intro a s b H W c R I r h;refine Call_ (cc I f d boot_range (PyProof.Rows.callWith_type1 (Oj (g pos a s b H W c _ I r h) λy A f=>?_) hs i));obtain⟨w,H1,a,i,c,m,d,b⟩:=f;obtain⟨j,e,⟨h,g⟩,q⟩:=b;subst e;obtain⟨x,rfl,f⟩:=mq d;have b:=f.Pk;subst b;cases c with
 |cons c b =>
  cases b;obtain⟨t,rfl⟩:=c;refine call_range_1 ?_;exact Oj (vR (W:=W) (R:=R) i (by decide) (by decide) h g (by decide) (by decide) q) λVd z n=>(by obtain⟨k,l,tn,J,o,a,j,i,h,g,f,d,c,b⟩:=n;exact⟨k,l,tn,J,o,a,j,i,m.trans h,g,f,d,c,b⟩)
def xF(wi:DA)(g:DG)(c:DS):DS:=λE a=>wi a λb=>∃Pv:Nat->Ro->Prop,Pv 0 a ∧
 (∀j x a,b[j]?=some x->Pv j a->g x a λd=>c {E with nx:=Pv (j+1),ct:=Pv (j+1),bk:=E.nx} d)/\∀a,Pv b.length a->E.nx a
def bJ(w:PassesOwn (model X.prog X.w) X.A X.env X.xe)(hc:X.calm=true)(b:UA X tg iter wi)(G:WL X tg g)(j:cM X body tb)
  (hs:∀x,foldedSetIterable iter X.env x=pure x:=by intro _;rfl):Q4 X (.For tg iter body [] pos) (xF wi g tb):=by
 intro a s g H W l E I r h;refine wpAny_For (Oj (b a s g H W l _ I r h) λv s1 b=>Oj b λVd s2 b=>?_) hs;obtain⟨it,C,tn,J,B,k,e,z,N,T,s,m,p,Pv,q,f,pd⟩:=b;subst e;have d:=r.same N;have U:∀{c:Hp},(∀b∈C,c b=none)->∀b∈C,dN X a c b:=λh b j=>⟨h b j,(m b j).2⟩
 refine codeAny_forLoop_any (λn h=>∃i o y c A,n=k.length - i/\i<=k.length/\Inv X a y c h/\tn i h.heap/\(∀b∈C,c b=none)/\OQ W B o c/\Rel X o c y A/\Pv i A) ?_ k.length ⟨0,W,g,B,l,by simp,QS _,z,s,λb j=>(m b j).1,OQ.refl W B,d,q⟩;rintro n s3 ⟨i,O,I,J,E,en,hle,I3,X8,X9,s,L,p3⟩;obtain⟨g,h,ys⟩:=p O.bad J (LC d s) (LB L s) (LD d s) i;by_cases Y:i<k.length
 ·refine Vx w (Oj (T.item X rfl rfl rfl hc i a s3 I J X.xe I3 (U X9) X8 (g Y)) λrr s4 ⟨u,M,d⟩=>?_);subst M;refine Vx w (Oj d λ_ q z=>?_);obtain⟨x,m,I5,r,p,Q,g⟩:=z;obtain⟨l,d,hd,RA⟩:=h x m p Y;have h:=I5.pinned (U g) (T.obj _ _ Q);have g:=L.same l;refine Vx w (Oj (G _ q I m O E d x u _ h g r RA (f i d E hd p3)) λ_ g z=>?_);obtain⟨q,p,x,f,r,f6,h,m⟩:=z;refine Vx w (Oj (j _ g p x q f _ r h m) λf s7 g=>?_);obtain⟨p,G,q,x,h,g⟩:=g;have r:OQ W B p q:=s.trans ((OQ.same l).trans (f6.trans h));have h:OQ W H p q:=(OQ.same N).trans r;have again:∀{l:Ro},Rel X p q G l->Pv (i+1) l->∃m,m<n/\∃i o y c A,m=k.length - i/\i<=k.length/\Inv X a y c s7/\tn i s7.heap/\(∀b∈C,c b=none)/\OQ W B o c/\Rel X o c y A/\Pv i A:=fun {l} c m=>by
   refine⟨k.length - (i+1),by lia,i+1,p,G,q,l,rfl,Y,x.PC,T.keep _ _ _ Q λb j o e=>(x.pin (b,o) (Rw _ (Rw _ (fi j e)))).1,λb j=>?_,r,c,m⟩;obtain⟨o,e,d⟩:=T.obj _ _ Q b j;exact(x.pin (b,o) (Rw _ (Rw _ (fi j e)))).2.1
  cases f with
  |next=>obtain⟨l,c,b⟩:=g;exact again c b
  |cont=>obtain⟨l,c,b⟩:=g;exact again c b
  |brk=>obtain⟨l,c,g⟩:=g;exact⟨p,G,q,x.PC,h,l,c,g⟩
  |ret v=>obtain⟨b,f,c,d,g⟩:=g;exact⟨p,G,q,x.PC,h,b,f,c,d,g⟩
 have e:i=k.length:=by lia
 refine Vx w (Oj (T.done X rfl rfl rfl hc i a s3 I J X.xe I3 (U X9) X8 (ys (by lia))) λrr s4 z=>?_);obtain⟨M,a⟩:=z;subst M;subst e;exact Xe ⟨O,I,J,a,(OQ.same N).trans s,E,L,pd E p3⟩
def KZ(i j:Nat)(b:DA):DS:=λE a=>b a λb=>∃d e,b=[d,e]/\E.nx ((a.set i (some (.val d))).set j (some (.val e)))
def Lm{x y:Str}{a b:Expr}{kt k2 YF}(i j:Nat)(B:X.calm=true)(C:X.N.Nodup)(E:i≠j)(p:SU X [a,b] ta)(o:X.N[i]?=some x:=by rfl)(n:X.N[j]?=some y:=by rfl)
  (z:X.env.scope.names.lookup x=some .local:=by rfl) (w:X.env.scope.names.lookup y=some .local:=by rfl)
  (A:swappedStores [.Tuple [.Name x px,.Name y py] kt pt] (.Tuple [a,b] k2 YF) X.env=pure (some [x,y]):=by rfl)
  (hs:swapsWithSole [.Tuple [.Name x px,.Name y py] kt pt] (.Tuple [a,b] k2 YF) pos.line X.env=pure false:=by rfl) :
  Q4 X (.Assign [.Tuple [.Name x px,.Name y py] kt pt] (.Tuple [a,b] k2 YF) pos) (KZ i j ta):=by
 have l:PA X [a,b] (λb H Q=>∃W c h,Rel X W H b c/\ta c h/\∀d a g,ar H a->ah X.K W.bad a g d->h g->Q d a):=by intro pos f s b H Q I q;obtain⟨W,c,h,r,m,k⟩:=q;exact Oj (p pos f s b H W c h I r m) λG J s=>(by obtain⟨d,a,g,x,h,f,m,p⟩:=s;exact⟨d,a,x,h,k d a g f m p⟩)
 refine Q4.of (Mq B C o n E z w l A hs) λb H W c E r k h=>?_
 refine⟨W,c,_,r,h,λd a g f m q=>?_⟩;obtain⟨d,e,rfl,q⟩:=q;obtain⟨v,u,rfl,g,d⟩:=fN m;have h:i<b.length:=by rw[k];exact(QH.mp o).1
 have c:j<(b.set i (some v)).length:=by rw[VQ,k];exact(QH.mp n).1
 have b:=(r.same f).put h g;exact⟨v,u,rfl,_,_,(OQ.same f).trans ((OQ.drop W a i).trans (OQ.drop _ a j)),b.put c (d.OC λ_ _=>Own.O0),q⟩
end
def cU(N:yah)(ds:yas):Ro:=ds.map (λd=>some (.val d))++List.replicate (N.length - ds.length) none
theorem Rel.start{X:Cx}{P:Addr->Prop}{H:Hp}(c:∀a,P a->∃o,H a=some o)(h:ah X.K (λt a=>t=true∨P a) H ds vs)(n:X.OR=H)(b:jd X.K H):Rel X ⟨P,λ_=>none,λa=>∃o,H a=some o⟩ H (start N vs) (cU N ds) where
 val:=λi d e=>by
  unfold cU at e;have l:=h.len;by_cases m:i<ds.length
  ·rw[UO (by simp_all),PO]at e;cases q:ds[i]? with
   |none=>simp_all
   |some g =>
    have f:g=d:=by simp_all
    subst f;obtain⟨v,p,f⟩:=h.get q;refine⟨v,?_,f.OC λk a z=>?_⟩;unfold L2.start
    simp_all [UO,PO]
    ·rcases z with z|⟨j,z⟩| ⟨z,_⟩
     all_goals lia
  simp_all [Vp,zCu]
 own:=λi d e=>by unfold cU at e;grind
 inj:=by lia
 kn:=by lia
 ke:=by lia
 bt:=c
 st:=λ_ z=>z
 ent:=by simp_all [ar.refl]
 tab:=b
def bD.there(x:bD P w H h a o):∃u,h.get? a=some u:=by
 cases o with
 |lst a=>obtain⟨_,_,_,_,e⟩:=x;exact⟨_,e⟩
 |tup a=>obtain⟨_,_,_,a,e,_⟩:=x;exact⟨a,e⟩
 |dK b=>obtain⟨_,_,_,_,a,_,_,e,_⟩:=x;exact⟨a,e⟩
 |dT b=>obtain⟨_,_,_,_,a,_,_,e,_⟩:=x;exact⟨a,e⟩
 |set S n=>obtain⟨a,_,_,_,e,_⟩:=x;exact⟨a,e⟩
 |ins C i b=>obtain⟨_,_,_,e,_⟩:=x;exact⟨_,e⟩
 |own y=>exact x
 |xd b=>obtain⟨_,⟨a,_,_,e,_⟩,_⟩:=x;exact⟨a,e⟩
 |rng lo g=>obtain⟨_,_,_,e⟩:=x;exact⟨_,e⟩
 |frz a u=>obtain⟨e,_⟩:=x;exact⟨a,e⟩
 |TC d=>exact⟨_,x⟩
 |met f y=>exact⟨_,x⟩
 |ext c=>obtain⟨_,e,_⟩:=x;exact e
def Q0.keptT {h' : Heap} (x : Q0 P w H h) (k : ∀ b u, (∃ o, H b = some o) -> h.get? b = some u -> h'.get? b = some u) : Q0 P w H h' := λa o e =>
 (x a o e).RH (λb u a q => k b u (by
  rcases a with z | z;subst z; exact ⟨o, e⟩;exact ⟨_, z⟩) q) (λ_ q => q) λ_ _ q => q
structure Fl(P:Program)(w:World)(l:List Env)(h₀:Heap)(OR H:Hp)(B h:Heap):Prop where
 un:Un (SH l) [] OR H h₀ h
 OB:Q0 P w H h
 fr:∀b∈SH l,OR b=none/\∃o,h₀.get? b=some o/\∀vs,o.data ≠ .fields vs
 Yd:∀b o,h.get? b=some o->((∃u,H b=some u)∨∃ o',h₀.get? b=some o')->b∉SH l->B.get? b=some o
section
variable{P:Program}{w:World}{l:List Env}{h₀:Heap}{OR H:Hp}{B h h':Heap}
theorem Fl.free(F:Fl P w l h₀ OR H B h){b:Addr}(a:b∈SH l):H b=none:=by obtain⟨n,o,e,_⟩:=F.fr b a;exact F.un.free b o e n (by simp)
def Fl.step(F:Fl P w l h₀ OR H B h)(st:B.StaysIn h')(i:h.UpToSlots h'):Fl P w l h₀ OR H B h':=by
 have g:∀b o,b∈SH l->h₀.get? b=some o->∃a,h'.get? b=some {o with slots:=a}:=λb o a e=>by obtain⟨n,d,c,j⟩:=F.fr b a;rw[e]at c;cases c;obtain⟨r,f⟩:=F.un.slot b o e n a (by simp);obtain⟨m,k⟩:=i b _ f j;exact⟨m,k⟩
 have i:∀b o,h.get? b=some o->((∃u,H b=some u)∨∃ d,h₀.get? b=some d)->b∉SH l->h'.get? b=some o:=λb o e c n=>st b o (F.Yd b o e c n)
 refine⟨⟨λb o e n a j=>i b o (F.un.keep b o e n a j) (.inr ⟨o,e⟩) a,λb o e n a j=>g b o a e,F.un.free,λb o e j=>?_,F.un.Sf,F.un.RZ,F.un.Sg⟩,PD.Q0.keptT F.OB (λb u p e=>i b u e (.inl p) λz=>?_),F.fr,λb o e c n=>?_⟩;by_cases a:b∈SH l;obtain⟨m,k⟩:=g b o a e;exact⟨_,k⟩;obtain⟨d,f⟩:=F.un.there b o e j;exact⟨d,i b d f (.inr ⟨o,e⟩) a⟩;obtain⟨o,q⟩:=p;rw[F.free z]at q;cases q;have:∃a,h.get? b=some a:=by
  rcases c with⟨u,c⟩| ⟨d,c⟩;exact PD.bD.there (F.OB b u c);exact F.un.there b d c (by simp)
 obtain⟨a,f⟩:=this;have q:=i b a f c n;rw[e]at q;cases q;exact F.Yd b o f c n
end
def CX1(P:Program)(w:World):CXT:=λa H s E e b=>∃(d c:Addr) (f:Hp) (B:Heap) (g:Value),e=.ref d/\b.os=s.os/\AllBare b.gens/\Fl P w a s.heap H f B b.heap/\ar H f/\f d=none/\s.heap.get? d=none ∧
 Heap.FlyingW B a d (.ref c) g b.heap/\E (.ref c) none f
def Ie:Passes (CX1 P w) X E0:=λ_ _ _ _ _ _ _ h=>by obtain⟨_,_,_,_,_,_,_,_,_,_,_,_,_,z⟩:=h;exact z.elim
def MadeX(X:Cx)(Ed:Value->Prop):Prop:=∀(a:yab) (b:St) (H:Hp) (W:Own) (f:Ro) (s:Shared) (e c:Addr) (g:yad) (d:Heap),Inv X a b H s->Rel X W H b f->Heap.MadeExcOf s.heap d e (.ref c) g->Ed (.ref c)->X.xe (.ref e) {s with heap:=d}
def dY(X:Cx)(Ed:Value->Prop):Prop:=∀(a:yab) (b:St) (H:Hp) (W:Own) (c:Ro) (s:Shared) (e:Value) (d:Shared),Inv X a b H s->Rel X W H b c->CX1 X.prog X.w X.stack H s (λc _ _=>Ed c) e d->X.xe e d
section
variable{P:Program}{w:World}{K:yac}{mg:yam}{base:Heap}{N:yah}{qual:Str}{sc:Scope}{f:Addr}{cd:Value}{A:Around}{outer:List Env}{OG:Shared}{OR:Hp}{E:XK}
def xt{B:Heap}(I:Inv (c6 (CX1 P w) P w K mg base N qual sc f cd A outer OG OR E) pins σ H s)(k:ar OR H)(j:H e=none)(m:OG.heap.get? e=none)
  (p:∀b o,s.heap.get? b=some o->((∃u,H b=some u)∨∃ a,OG.heap.get? b=some a)->b∉SH (envOfC qual sc OG.heap.objs.size f cd::outer)->B.get? b=some o)
  (g:Heap.FlyingW B outer e (.ref c) a0 h') (h:s.heap.UpToSlots h') (l:E (.ref c) none H):CX1 P w outer OR OG E (.ref e) {s with heap:=h'}:=by
 have i:∀b,((∃u,H b=some u)∨∃ a,OG.heap.get? b=some a)->b∉SH outer->b∉SH (envOfC qual sc OG.heap.objs.size f cd::outer):=λb c n z=>by
  rcases c with⟨u,c⟩| ⟨a,c⟩;have:=I.Tf b z
  lia
  rcases OK.mp (I.Si b z)with q|q;have t:=OY c;have r:OG.heap.objs.size<=b:=by rw[q];exact I.ok.above
  lia
  exact n q
 have F:Fl P w outer OG.heap OR H B s.heap:=⟨I.base,I.OB,λb a=>⟨I.ok.X5 b a,by obtain⟨_,o,e,d⟩:=I.ok.RI.mem a;exact⟨o,e,d⟩⟩,λb o e c n=>p b o e c (i b c n)⟩
 exact⟨e,c,H,B,a0,rfl,I.os,I.bare,F.step g.1 h,k,j,m,g,l⟩
def Na{Ed:Value->Prop}(m:∀c a H',ar OR H'->Ed c->E c a H'):MadeX (c6 (CX1 P w) P w K mg base N qual sc f cd A outer OG OR E) Ed:=by
 intro g p H W x s e c y h' I r c l;refine wpAny_leaves_madeW (base:=PySem.W.hideAll s.heap (SH (envOfC qual sc OG.heap.objs.size f cd::outer))) (h:=s.heap) (outer:=outer) I.ok.frames rfl (λb o q=>PySem.W.of_hideAll _ q)
  (PySem.W.funFrames_hide I.stack λa d b h=>zC0.mpr ⟨a,d,h⟩) c λn t i _ _ h=>?_
 have j:∀{a:Heap},(∀b o,a.get? b=some o->∃d,s.heap.get? b=some d)->a.get? e=none:=fun {a} k=>by
  cases q:a.get? e with
  |none=>rfl
  |some o =>
   obtain⟨d,a⟩:=k e o q;rw[c.new]at a
   lia
 refine xt (s:=s) (h':=n) I r.ent ?_ (j λb o q=>I.base.there b o q (by intro z;cases z)) (λb o q _ n=>PySem.W.hideAll_get _ q n) i (λb o q d=>?_) (m _ _ _ r.ent l);cases q:H e with
 |none=>rfl
 |some u =>
  obtain⟨o,z⟩:=PD.bD.there (I.OB e u q)
  simp_all
 exact h b o (c.keeps b o q) d
def JM{Ed:Value->Prop}(k:∀c a H',ar OR H'->Ed c->E c a H'):dY (c6 (CX1 P w) P w K mg base N qual sc f cd A outer OG OR E) Ed:=by
 intro d p H W t s e h I r b;obtain⟨e,c,H',B,x,rfl,os,a,F,sm,i,Ye,c,j⟩:=b;refine wpAny_leaves_onW (outer:=outer) I.ok.frames rfl c λl g c=>?_
 have m:=I.TR os F.un F.OB a (by intro b z;cases z);refine xt (s:=h) (h':=l) m (r.ent.trans sm) i ?_ (λb o q z n=>F.Yd b o q (z.elim .inl λh=>(by obtain⟨a,z⟩:=h;exact .inr (I.base.there b a z (by intro q;cases q)))) n) g c (k _ _ _ (r.ent.trans sm) j);cases q:OG.heap.get? e with
 |none=>rfl
 |some o =>
  obtain⟨a,u⟩:=I.base.there e o q (by intro z;cases z)
  lia
end
section
variable{X:Cx}{k:Nat}{f:Addr}{fd:FuncData}{ps:yah}{sp:DSp}{x:Str}{p pos:Pos}{e:Expr}{es:yai}{t:DA}
def Mw{dds:yas}{g:yaa}(F:aF X.prog X.w X.K X.mg X.base (CX1 X.prog X.w) k f fd ps (aH X.K sp))(m:bM k X.A)(n:Binds X.K fd ps dsv)(h:Vals (dds.map qO) dsv)(hs:∀d∈dds,wO d)
 (I:Inv X pins σ H s) (a:Rel X W H σ ρ) (r:Vals vs us) (i:ah X.K W.bad H ds vs)
  (q:sp (aU ds++dds) Q Ed) (l:∀e b,CX1 X.prog X.w X.stack H s (λc _ _=>Ed c) e b->g e b):wpAny (model X.prog X.w) X.A (call (.ref f) us) (DP X pins σ W H Q) g s:=by
 have g:Vals (vs++dds.map qO) (us++dsv):=r.append h;have j:aH X.K sp (vs++dds.map qO) H (λv h=>ar H h/\∃d,Den X.K W.bad h d v/\Q d) (λc _ _=>Ed c) :=
  ⟨W.bad false,aU ds++dds,Q,Ed,a.tab,a.tracked false,(ah.aB (λ_ _=>Own.RJ) ds vs i).append (ah.uR hs),q,λd v h e i h=>⟨e,d,Den.back a.tracked i,h⟩,λ_ _ _ _ z=>z⟩
 have a:(us++dsv).length=ps.length:=by rw[<- g.length];exact F.len _ _ _ _ j
 refine wpAny_call (codeAny_mono (F.run X.A X.stack s H ⟨us,[]⟩ (us++dsv) (vs++dds.map qO) _ _ m I.env0 (n s us I.SJ a) g j) λc b a=>?_);cases c with
 |error c=>exact l c b a
 |ok b =>
  cases b with
  |ret u =>
   obtain⟨v,j,c,g,b,d,i,h⟩:=I.after a;exact⟨v,j,d,c,g,b,i,h⟩
  |next=>exact False.elim a
  |brk=>exact False.elim a
  |cont=>exact False.elim a
end
set_option tactic.hygienic true in
def IZ{K:yac}(X:K.In h)(q:PySem.W.excIn K C bmB newId=true):∃tl N nm c bs d sn sub ab col dd k0 k1 k2 k3 k5 mN,
  h.get? C=some (excClassObj nm c C N bs tl d sn sub ab col dd k0 k1 k2 k3 k5 newId)/\h.Ns N mN/\mN "__init__" = none/\OwnTail h bmB tl:=by
 unfold PySem.W.excIn at q;split at q
 next dd cd sl ho =>
  split at q
  next C' tl k0 k1 k2 k3 n k5 hm hs =>
   simp only[Xb,beq_iff_eq,Bool.not_eq_true']at q;obtain⟨⟨⟨⟨⟨i,f⟩,a⟩,h⟩,e⟩,b⟩:=q;subst i f;cases cd with
   |mk nm bs g f c d sn sub ab col j =>
    simp only at hm a e b;subst hm a;have a:sl=#[k0,k1,k2,k3,some (.builtin n),k5]:=by apply Array.ext';rw[hs]
    subst a;exact⟨tl,f,nm,c,bs,d,sn,sub,ab,col,dd,k0,k1,k2,k3,k5,_,X _ _ ho,.of_isNs (PySem.W.isNs_of_in X e),PySem.W.nsMap_none_of_in X e b,PySem.W.tail_of_in X h⟩
  next=>cases q
 next=>cases q
abbrev C1:yad:=[.type "ValueError", .type "Exception", .type "BaseException", .type "object"]
section
variable{X:Cx}{pos:Pos}
def Gm {e:Expr} {es:yai} (i:MadeX X Ed) (j:Gl X x) (c:X.mg x=some (.ref C)) (q:PySem.W.excIn X.K C C1 "ValueError.__new__" = true) (l:X.calm=true) (m:SU X (e::es) t)
  (f:starEach (e::es) X.env=(false,eval e X.env)::starEach es X.env:=by rfl) (u:(backTo cpos (starEach es X.env)).any (·.1)=false:=by rfl) (p:(x==("__debug__" : Str))=false:=by decide) :
  Q4 X (.Raise (some (.Call (.Name x np) (e::es) [] cpos)) none pos) (λ_ ρ=>t ρ λds=>ds.length<=sizeLine/\Ed (.ref C)):=by
 intro a s d H W ρ E I r h;obtain⟨e,N,nm,g,bs,k,sn,sub,ab,col,dd,k0,k1,k2,k3,k5,mN,o,n,b,T⟩:=IZ I.ok.mod.X3 q;have FB:=PySem.F.excBase_ValueError;refine wpAny_Raise_call_subT (C:=C) (nm:=nm) (q:=g) (N:=N) (bs:=bs) (bm:=e) (hdct:=k) (sn:=sn) (sub:=sub) (ab:=ab) (col:=col) (dd:=dd) (k0:=k0) (k1:=k1) (k2:=k2) (k3:=k3) (k5:=k5) FB (mN:=mN) (T.hasType FB.hasBase) (I.ok.hd l)
  (by rw[f];show(false || (backTo cpos (starEach es X.env)).any (·.1))=false;rw[u];rfl) b (jU I j c ⟨rfl,?_⟩ p)
 have b:=m cpos a s d H W ρ _ I r h;rw[f]at b ⊢;refine Calls.evalArgs_plain (Oj b λe f l=>?_);obtain⟨w,m,ds,b,g,k,j,z,h⟩:=l;exact⟨rfl,by rw[<- j.len,g.length]at z;exact z,b.bk _ _ o,n.keeps b.bk,T.keeps b.bk,λg j c=>i a d m W ρ f j C e g b (r.same k) c h⟩
def mv{st:Stmt}:Q4 X st (λ_ _=>False):=λ_ _ _ _ _ _ _ _ _ h=>h.elim
theorem Rel.wish(r:Rel X W H σ ρ)(E:yaa):Rel (X.wish E) W H σ ρ:=⟨r.val,r.own,r.inj,r.kn,r.ke,r.bt,r.st,r.ent,r.tab⟩
def Rel.PQ(r:Rel (X.wish E) W H σ ρ):Rel X W H σ ρ:=⟨r.val,r.own,r.inj,r.kn,r.ke,r.bt,r.st,r.ent,r.tab⟩
theorem WJ.PQ(h:WJ (X.wish XE) pins W H E f s'):WJ X pins W H E f s':=by
 obtain⟨b,c,d,I,a,q⟩:=h;refine⟨b,c,d,I.PQ,a,?_⟩;cases f with
 |next=>obtain⟨a,r,q⟩:=q;exact⟨a,r.PQ,q⟩
 |brk=>obtain⟨a,r,q⟩:=q;exact⟨a,r.PQ,q⟩
 |cont=>obtain⟨a,r,q⟩:=q;exact⟨a,r.PQ,q⟩
 |ret u=>exact q
theorem cM.WD{st:yal}{t:DS}(h:cM X.WD st t):cM X st t:=λa s b H W c E I r d =>
 R9 (h a s b H W c E (I.wish _) (r.wish _) d) (λ_ _ q=>q.PQ) λ_ _ z=>False.elim z
noncomputable abbrev Cx.markX(X:Cx)(e:Value):Cx:={X with A:=X.A.mark (some e),calm:=false,xe:=λ_ _=>False}
def Inv.marked(I:Inv X pins σ H s)(e:Value):Inv (Cx.markX X e) pins σ H s :=
 have a:=I.ok
 ⟨⟨a.mod,a.kind,a.glob,a.blt,a.above,a.inj,a.has,a.VC,(λz=>by cases z),a.frames,a.stk,a.exf,a.bs,a.X4,a.Ur,a.VX,a.RI,a.X5⟩,I.os,I.bare,I.base,I.loc,I.cell,I.free,I.Qo,I.pin,I.OB,I.len⟩
def Inv.unmark(J:Inv (Cx.markX X e) pins σ H s)(a:X.Ok):Inv X pins σ H s :=
 ⟨a,J.os,J.bare,J.base,J.loc,J.cell,J.free,J.Qo,J.pin,J.OB,J.len⟩
def Rel.marked(r:Rel X W H σ ρ)(e:Value):Rel (Cx.markX X e) W H σ ρ:=⟨r.val,r.own,r.inj,r.kn,r.ke,r.bt,r.st,r.ent,r.tab⟩
def Rel.unmark(r:Rel (Cx.markX X e) W H σ ρ):Rel X W H σ ρ:=⟨r.val,r.own,r.inj,r.kn,r.ke,r.bt,r.st,r.ent,r.tab⟩
def Inv.track(I:Inv X a σ H s)(d:H e=none)(h0:X.OG.heap.get? e=none)(k:e≠X.env.locals)(h:∀x c,X.env.cells.lookup x=some c->c≠e)(j:∀p∈X.pn++a,p.1≠e)
  (i:bD X.prog X.w (L2.upd H e o) s.heap e o):Inv X a σ (L2.upd H e o) s:=by
 refine⟨I.ok,I.os,I.bare,⟨I.base.keep,I.base.slot,λb u q n x=>?_,I.base.there,λb f q=>?_,λb u f q=>?_,λb g q=>?_⟩,I.loc,I.cell,by rw[aw (Ne.symm k)];exact I.free,λx c q=>by rw[aw (h x c q)];exact I.Qo x c q,λp q=>?_,λb u q=>?_,I.len⟩;rw[aw (by lia)];exact I.base.free b u q n x;have:=I.base.Sf b f q;rw[aw (aL this d)];exact this;have:=I.base.RZ b u f q;rw[aw (aL this d)];exact this;obtain⟨a,this⟩:=I.base.Sg b g q;exact⟨a,by rw[aw (aL this d)];exact this⟩;obtain⟨h,g,a⟩:=I.pin p q;exact⟨h,by rw[aw (j p q)];exact g,a⟩;by_cases a:b=e;grind [aD];rw[aw a]at q;exact(I.OB b u q).RH (λc v _ z=>z) (λc z=>by rw[aw (aL z d)];exact z) λc f z=>by rw[aw (aL z d)];exact z
def Ep{i:Nat}{n:Str}{Q:Unit->Shared->Prop}(I:Inv X pins σ H s)(w:X.N.Nodup)(u:X.N[i]?=some n)(b:X.env.scope.names.lookup n=some .local)
  (h:∀a,Inv X pins (σ.set i none) H a->Q () a):wpAny M A (do bindName X.env n .none;unbindBehindTheSuite X.env n pos) Q E s:=by
 obtain⟨m,a,t⟩:=id I.loc;refine wpAny_nameGoes_keeps b a (by rw[I.ok.kind];rfl) λB v c a=>h _ ?_
 have h:∀b o,X.OG.heap.get? b=some o->b≠X.env.locals:=λb o e=>PY (QZ (OY e) I.ok.above)
 refine⟨I.ok,I.os,I.bare,⟨λb o e z g f=>(a.2 b (h b o e)).trans (I.base.keep b o e z g f),λb o e z g f=>?_,I.base.free,λb o e f=>?_,I.base.Sf,I.base.RZ,I.base.Sg⟩,⟨_,c,λj y l d k x=>?_⟩,λy c e=>?_,I.free,I.Qo,λp s=>?_,λb r e=>?_,by simpa using I.len⟩;obtain⟨m,d⟩:=I.base.slot b o e z g f;exact⟨m,(a.2 b (h b o e)).trans d⟩;obtain⟨g,d⟩:=I.base.there b o e f;exact⟨g,(a.2 b (h b o e)).trans d⟩;by_cases f:j=i
 simp_all [List.getElem?_set]
 rw[Rc (Ne.symm f)]at k;obtain⟨g,h,q⟩:=t j y l d k x;refine⟨g,h,?_⟩;rcases q with⟨k,e⟩| ⟨k,c,e,z⟩;refine .inl ⟨k,?_⟩;have:y≠n:=λe=>f (qZ w d (e ▸ u))
 simp[this,e];exact .inr ⟨k,c,e,z.sameBut a (I.Xi y c e)⟩;obtain⟨f,z⟩:=I.cell y c e;exact⟨f,z.sameBut a (I.Xi y c e)⟩;obtain⟨e,z,g,h,d⟩:=I.pin p s;exact⟨(a.2 p.1 g).trans e,z,g,h,d⟩;refine(I.OB b r e).RH (λc f b q=>(a.2 c ?_).trans q) (λ_ q=>q) λ_ _ q=>q
 intro z;rcases b with b|b;rw[<- b,z,I.free]at e;cases e;rw[z,I.free]at b;cases b
def Rel.unset{i:Nat}(r:Rel X W H σ ρ)(l:i<σ.length):Rel X (W.drop i) H (σ.set i none) (ρ.set i none):=by
 have f:∀{j:Nat} {x:Sl},(ρ.set i none)[j]?=some (some x)->j≠i/\ρ[j]?=some (some x):=fun {j x} h=>by by_cases b:j=i;subst b;rw[List.getElem?_set]at h;simp at h;rw[Rc (Ne.symm b)]at h;exact⟨b,h⟩
 have g:∀{j:Nat} {a:Addr},(W.drop i).O j=some a->j≠i/\W.O j=some a:=fun {j a} h=>by have c:(if j=i then none else W.O j)=some a:=h;by_cases d:j=i;rw[Og d]at c;cases c;rw[Oc d]at c;exact⟨d,c⟩
 refine⟨λj d h=>?_,λj m h=>?_,λj k a e c=>r.inj j k a (g e).2 (g c).2,λj a h=>r.kn j a (g h).2,λj a h=>r.ke j a (g h).2,r.bt,r.st,r.ent,r.tab⟩;obtain⟨b,h⟩:=f h;obtain⟨v,e,c⟩:=r.val j d h;exact⟨v,by rw[Rc (Ne.symm b)];exact e,c.OC λ_ _=>Own.O0⟩;obtain⟨b,h⟩:=f h;obtain⟨a,d,e,c,g,f⟩:=r.own j m h;exact⟨a,d,by show(if j=i then none else W.O j)=_;rw[Oc b];exact e,by rw[Rc (Ne.symm b)];exact c,g,by rw[VQ];exact f.OC (λ_ _=>Own.O0) (Own.Rz l)⟩
def Gf(K:yac)(C:Addr)(i:Nat)(sp:DSp)(t:DA)(a:DS):DS:=λE b=>t b λc=>sp (aU c) (λ_=>E.nx b) λd=>∃c,d=.ref c/\fT K c/\PySem.W.exmOne K (.ref c) (.ref C)=some true ∧
 a ⟨λa=>E.nx (a.set i none),E.rt,λa=>E.bk (a.set i none),λa=>E.ct (a.set i none)⟩ (b.set i (some (.val (.exc c))))
def Lo{n:Str}{ep:Pos}{e:Expr}{es:yai}{a:Stmt}{c:yal}(i:Nat)(F:aF X.prog X.w X.K X.mg X.base (CX1 X.prog X.w) k f fd ps (aH X.K sp))(d:bM k X.A)(m:X.mg g=some (.ref f))(q:PySem.W.keepIn X.K (.ref f)=true)(w:Binds X.K fd ps [])
  (Y:X.N.Nodup) (Xu:X.mg x=some (.ref C)) (r:SU X.WD (e::es) t) (G:∀v,cM (Cx.markX X v) (a::c) su) (b:Gl X g:=by rfl) (J:Gl X x:=by rfl) (l:X.N[i]?=some n:=by rfl) (j:X.env.scope.names.lookup n=some .local:=by rfl)
  (L:X.ex=[]:=by rfl) (Q:X.stack=X.env::X.outer:=by rfl) (o:X.env.frame=some X.env.locals:=by rfl) (y:(g==("__debug__" : Str))=false:=by decide) (M:(x==("__debug__" : Str))=false:=by decide) (u:starEach (e::es) X.env=(false,eval e X.env)::starEach es X.env:=by rfl) (B:(backTo cp (starEach es X.env)).any (·.1)=false:=by rfl)
  (hs:swapsWith (.Call (.Name g p) (e::es) [] cp) none ep.line X.env=pure false:=by rfl) :
  Q4 X (.Try [.Expr (.Call (.Name g p) (e::es) [] cp) ep] [.ExceptHandler (some (.Name x np)) (some n) (a::c) T] [] [] pos) (Gf X.K C i sp t su):=by
 intro a s g H W A E I c h;refine wpAny_Try_except (Vv (wpAny_Expr_any (Uo (jU I b m ?_ y)) I.quiet hs));refine PySem.W.callWith_K (h₀:=X.base) I.ok.mod.X3 q (R9 (r cp a s g H W A _ (I.wish _) (c.wish _) h) (λus s1 ⟨vs,H1,ds,e,r,N,b,q⟩=>⟨e.PQ.SJ,?_⟩) λ_ _ z=>False.elim z) u B;have e:=e.PQ;have O:=c.same N;have C:i<g.length:=Inv.TJ I l;refine R9 (Mw (dds:=[]) (dsv:=[]) F d w .nil (by simp) e O r b (by rw[U8];exact q) λer y m=>?_) (λu s2 c=>(by obtain⟨v,f,d,d,r2,b,hd2,n⟩:=c;exact Xe (Xe ⟨W,g,f,d,OQ.same (N.trans b),A,O.same b,n⟩))) λ_ _ z=>z
 obtain⟨d,c,k,B,u,rfl,os,f,Ff,sm,U,w,h,c',b,xk,E,t⟩:=m;cases b;have b:X.A.frames=some (X.env::X.outer):=by rw[<- Q];exact I.ok.frames
 rw[Q]at h;refine wpAny_looks_onW b o h λh4 b r=>wpAny_landsW b λs o h=>?_
 have Q:=(Ff.step b.1 r).step o.1 h;have I5:Inv X a g k {y with heap:=s}:=e.TR os Q.un Q.OB f (by intro b z;cases z);have h:∀{r:Heap},Heap.FlyingW B (X.env::X.outer) d (.ref c) u r->ExcAt d c r:=fun {r} x=>by obtain⟨s,u,r,n,B,_⟩:=x.first;exact⟨s,u,r,n,B⟩
 refine wpAny_handleBy_cons (codeAny_handlers_test (jU (Inv.marked I5 (.ref d)) J Xu ?_ M)) (by intro q;cases q);refine(PySem.W.exm_one I5.SJ (ExcAt.ty (h o)) E).here ?_;refine codeAny_handlers_suite_as (lands_againW o λo x J=>?_);have E:=Q.step x.1 J;have J:Inv X a g k {y with heap:=o}:=e.TR os E.un E.OB f (by intro b z;cases z);have f:Inv X a g (L2.upd k d (.ext (ExcAt d c))) {y with heap:=o}:=by
  refine Inv.track J U ?_ ?_ (λy c' q z=>?_) (λp T z=>?_) ⟨h x,?_,λh1 h2 q z=>?_⟩;cases q:X.OG.heap.get? d with
  |none=>rfl
  |some o =>
   by_cases m:d∈X.ex;rw[L]at m;cases m;obtain⟨o',b⟩:=e.base.there d o q m;rw[w]at b;cases b
  intro z;obtain⟨m,⟨o,_,_,q,_⟩,_⟩:=e.loc;rw[<- z,w]at q;cases q;obtain⟨w',o,b,_⟩:=e.cell y c' q;rw[z,w]at b;cases b;have:=(e.pin p T).1;rw[z,w]at this;cases this;obtain⟨s,u,r,_⟩:=h x;exact⟨s,r⟩;obtain⟨s,u,r,n,B⟩:=q;exact⟨s,u,z _ r,n,B⟩
 have b:ar k (L2.upd k d (.ext (ExcAt d c))):=ar.upd U;refine cN (X:=Cx.markX X (.ref d)) (v:=.ref d) (Inv.marked f (.ref d)) Y l (.inl j) rfl (λf h=>?_) (.inr j);have e:Rel X (W.drop i) (L2.upd k d (.ext (ExcAt d c))) (g.set i (some (.ref d))) (A.set i (some (.val (.exc c)))):=((O.same sm).same b).put C (Den.exc aD xk);refine R9 (G (.ref d) a f _ _ _ _ _ h (Rel.marked e _) t) (λf s8 c=>?_) λ_ _ z=>False.elim z
 obtain⟨a,σ8,d,e,h,c⟩:=c;have g:OQ W H (a.drop i) d:=(OQ.same ((N.trans sm).trans b)).trans ((OQ.drop W _ i).trans (h.trans (OQ.drop a d i)));refine Ep (Inv.unmark e I.ok) Y l j λs9 b=>⟨a.drop i,_,d,b,g,?_⟩
 cases f with
 |next=>obtain⟨d,a,b⟩:=c;exact⟨_,(Rel.unmark a).unset (Inv.TJ (Inv.unmark e I.ok) l),b⟩
 |brk=>obtain⟨d,a,b⟩:=c;exact⟨_,(Rel.unmark a).unset (Inv.TJ (Inv.unmark e I.ok) l),b⟩
 |cont=>obtain⟨d,a,b⟩:=c;exact⟨_,(Rel.unmark a).unset (Inv.TJ (Inv.unmark e I.ok) l),b⟩
 |ret v=>obtain⟨d,f,a,e,b⟩:=c;exact⟨d,f,a,e.OC λ_ _=>Own.O0,b⟩
def KS(K:yac)(c:Value)(te:DE):DE:=λa Q=>te a λd=>∃b,PySem.W.kitOne K (WH d) c=some b/\Q (.bl b)
def jC {p:Pos} {c:Value} (E:Gl X "isinstance") (C:X.mg "isinstance" = none) (B:PE X (.Name x p') (tC cv)) (w:∀u,RelV cv u->u=c) (G:OD X e te)
  (n:starEach [e,.Name x p'] X.env=(false,eval e X.env)::starEach [.Name x p'] X.env:=by rfl) (M:starEach [.Name x p'] X.env=(false,eval (.Name x p') X.env)::starEach [] X.env:=by rfl) (L:(backTo pos (starEach [.Name x p'] X.env)).any (·.1)=false:=by rfl) :
  OD X (.Call (.Name "isinstance" p) [e,.Name x p'] [] pos) (KS X.K c te):=by
 intro f s q H W r Q I a h;have j:PA X [e,.Name x p'] (p5 (Cg X te) (p5 (tC cv) CT)):=gw G.pe (gw B lW M) n;refine Uo (cc I E C boot_isinstance ?_ (by decide) (by decide));refine PyProof.Rows.callWith_builtin1 (Oj (j pos f s q H (λm g=>∃v d,m=[v,cv]/\ar H g/\Den X.K W.bad g d v/\∃b,PySem.W.kitOne X.K (WH d) c=some b/\Q (.bl b)) I ⟨W,r,_,a,h,λv g d l k i=>⟨v,d,rfl,l,k,i⟩⟩) λO T N=>?_) n L;obtain⟨m,g,o,u,v,d,J,l,k,b,A,i⟩:=N;subst J;cases u with
 |cons z a =>
  cases a with
  |cons y a =>
   cases a;have:=w _ y;subst this;exact yv o k z A λt=>⟨.bl _,g,_,o.tok t,rfl,l,Den.bl _,i⟩
end
def BA(base:Heap)(l:List Env)(e:Addr)(cls a0:Value)(h:Heap):Prop:=base.StaysIn h/\base.get? e=none/\h.FunFrames base l/\∃a,h.TracedAtW base e cls a0 a
section
variable{M:Model}{A:Around}{E:yaa}{s:Shared}{base:Heap}{l outer:List Env}{env:Env}{e L:Addr}{cls a0:Value}
def Jx{Q:Unit->Shared->Prop}(d:A.frames=some (env::outer))(f:env.frame=some L)(R:BA base (env::outer) e cls a0 s.heap)
  (h:∀h',BA base (env::outer) e cls a0 h'->s.heap.UpToSlots h'->Q () {s with heap:=h'}):wpAny M A (noteFrame (.ref e) env) Q E s:=by
 obtain⟨y,p,x,q,u,c,T,w,t,k,o,g3,j,z,r,i,g,b⟩:=id R;by_cases a:(q==rawInt L)=true;have m:q=rawInt L:=by simp_all
 subst m;exact wpAny_noteFrame_againW (base:=base) (cls:=cls) (a0:=a0) f ⟨u,c,T,w,t,k,o,g3,j,z,r,i,g,b⟩ (h _ R (Heap.UpToSlots.refl _));obtain⟨q,m⟩:=o;subst q;unfold noteFrame;simp only[f];refine Oa (Se k g3 j ?_);refine Oa (Se i g b ?_);rw[Oc a];refine Oa (ZG i g (WX.mp b).1 ?_);have g:∀b,b≠T->(s.heap.update T (Obj.mapFields (·.setIfInBounds 3 Value.none))).get? b=s.heap.get? b:=λb a=>Vs _ _ (Ne.symm a)
 have n:∀b o,s.heap.get? b=some o->(∀c,o.data ≠ .fields c)->b≠T:=λb o a c q=>by simp_all
 refine wpAny_entryW (base:=base) d (x.of_keeps (by simp_all)) f ((g e (Ne.symm r)).trans k) (λb o a=>(g b (by lia)).trans (y b o a)) p g3 (WX.mp j).1 m λh' j=>?_
 obtain⟨i,g,f,d⟩:=j;exact h h' ⟨i,p,g,_,f⟩ λb o a c=>d b o (by simp_all) c
def GJ{Q:Unit->Shared->Prop}(a:A.frames=some (env::outer))(b:env.frame=some L)(R:BA base (env::outer) e cls a0 s.heap)
  (h:∀h',Heap.FlyingW base outer e cls a0 h'->s.heap.UpToSlots h'->Q () {s with heap:=h'}):wpAny M A (leaving env (.ref e)) Q E s:=by
 refine Oa (Jx a b R λj f b=>?_);obtain⟨d,g,c,k,a⟩:=f;refine wpAny_setFlight_noneW (base:=base) d c a λi f a d c=>?_
 obtain⟨_,_,a⟩:=a;exact h i ⟨f,g,a,d⟩ (b.trans λb o d a=>⟨o.slots,c b o d a⟩)
end
def BM(X:Cx)(Ed:Value->Prop):Prop:=∀(b:yab) (f:St) (H:Hp) (W:Own) (g:Ro) (s a:Shared) (d c:Addr) (e:Hp) (B:Heap) (h:Value),Inv X b f H s->Rel X W H f g->a.os=s.os->AllBare a.gens->Fl X.prog X.w X.stack s.heap H e B a.heap->ar H e->e d=none->s.heap.get? d=none →
 BA B X.stack d (.ref c) h a.heap->Ed (.ref c)->X.xe (.ref d) a
section
variable{P:Program}{w:World}{K:yac}{mg:yam}{base:Heap}{N:yah}{qual:Str}{sc:Scope}{f:Addr}{cd:Value}{A:Around}{outer:List Env}{OG:Shared}{OR:Hp}{E:XK}
def M5{Ed:Value->Prop}(k:∀c a H',ar OR H'->Ed c->E c a H'):BM (c6 (CX1 P w) P w K mg base N qual sc f cd A outer OG OR E) Ed:=by
 intro d p H W t s h e c H' B x I r os a F sm i Ye R j;refine GJ (outer:=outer) I.ok.frames rfl R λl g c=>?_
 have m:=I.TR os F.un F.OB a (by intro b z;cases z);refine xt (s:=h) (h':=l) m (r.ent.trans sm) i ?_ (λb o q z n=>F.Yd b o q (z.elim .inl λh=>(by obtain⟨a,z⟩:=h;exact .inr (I.base.there b a z (by intro q;cases q)))) n) g c (k _ _ _ (r.ent.trans sm) j);cases q:OG.heap.get? e with
 |none=>rfl
 |some o =>
  obtain⟨a,u⟩:=I.base.there e o q (by intro z;cases z)
  lia
end
section
variable{P:Program}{w:World}{K:yac}{mg:yam}{base:Heap}
structure ax(K:yac)(x qual:Str)(st:Stmt)(f:Addr)(fd:FuncData):Prop where
 ex:∃(oc:Value) (od:Option Addr) (dV kV doc pm:Value) (an:Option Addr) (Qm ct:Value) (WG:Array (yan)),
  fd=PySem.W.fnOf x qual (fg st) (cK st) (ai st) dV kV doc pm an Qm ct/\K.lookup f=some ⟨oc,od,.func fd,WG⟩/\PySem.W.codeIn K Qm qual=true
 kp:PySem.W.keepIn K (.ref f)=true
def ax.okC{x a:Str}{st:Stmt}{f:Addr}{d:FuncData}{N ps:yah}{k:Nat}{sp:DSp}(F:ax K x a st f d)(S:ay N ps (ai st))(c:∀ds Q E,sp ds Q E->ds.length=ps.length)
  (n:∀(b:Value),d.code=b->∀(A:Around) (outer:List Env) (s:Shared) (H:Hp) (E:XK) (Ed:Value->Prop),bM k (A.deeper (envOfC a (ai st) s.heap.objs.size f b))->MadeX (c6 (CX1 P w) P w K mg base N a (ai st) f b A outer s H E) Ed->dY (c6 (CX1 P w) P w K mg base N a (ai st) f b A outer s H E) Ed->BM (c6 (CX1 P w) P w K mg base N a (ai st) f b A outer s H E) Ed →
   ∃ t,cM (c6 (CX1 P w) P w K mg base N a (ai st) f b A outer s H E) (cK st) t/\∀ds Q,sp ds Q Ed->t {nx:=λ_=>Q .ON,rt:=Q} (cU N ds)):aF P w K mg base (CX1 P w) (k+1) f d ps (aH K sp):=by
 obtain⟨B,y,C,kV,m,u,I,b,G,WG,rfl,lk,a⟩:=F.ex;refine HW lk a S (λa H Q E h=>?_) λA outer s H a Q E i h=>?_
 obtain⟨_,ds,_,_,_,_,e,d,_⟩:=h;rw[e.len];exact c ds _ _ d;obtain⟨o,ds,p,Ed,j,l,e,d,g,a⟩:=h;obtain⟨t,c,k⟩:=n b rfl A outer s H E Ed i (Na a) (JM a) (M5 a);refine⟨_,c.ps,⟨o,λ_=>none,λa=>∃o,H a=some o⟩,_,_,Rel.start l e rfl j,k ds p d,λb Oo c Oh f r q=>?_,λb c v d f h q=>?_,λ_ _ _ _ _ _ q=>q,λ_ _ _ _ _ _ q=>q⟩;exact g .ON .ON c ⟨λb o e n=>f.kp b o (by lia) e n,f.tb,f.ok⟩ Den.ON q;refine g d v c ⟨λb o e n=>f.kp b o (by lia) e n,f.tb,f.ok⟩ (h.OC λt a z=>?_) q;rcases z with z|z;exact .inl (by rw[f.B];exact z);exact .inr (.inr ⟨z.1,by rw[f.S];exact z.2⟩)
def ax.okX{x a:Str}{st:Stmt}{f:Addr}{d:FuncData}{N ps:yah}{k:Nat}{sp:DSp}(F:ax K x a st f d)(S:ay N ps (ai st))(c:∀ds Q E,sp ds Q E->ds.length=ps.length)
  (e:∀(b:Value) (A:Around) (outer:List Env) (s:Shared) (H:Hp) (E:XK) (Ed:Value->Prop),bM k (A.deeper (envOfC a (ai st) s.heap.objs.size f b))->MadeX (c6 (CX1 P w) P w K mg base N a (ai st) f b A outer s H E) Ed->dY (c6 (CX1 P w) P w K mg base N a (ai st) f b A outer s H E) Ed->BM (c6 (CX1 P w) P w K mg base N a (ai st) f b A outer s H E) Ed →
   ∃ t,cM (c6 (CX1 P w) P w K mg base N a (ai st) f b A outer s H E) (cK st) t/\∀ds Q,sp ds Q Ed->t {nx:=λ_=>Q .ON,rt:=Q} (cU N ds)):aF P w K mg base (CX1 P w) (k+1) f d ps (aH K sp):=ax.okC F S c λb _=>e b
def ax.okN{x a:Str}{st:Stmt}{f:Addr}{d:FuncData}{N ps:yah}{k:Nat}{sp:DSp}(F:ax K x a st f d)(S:ay N ps (ai st))(c:∀ds Q E,sp ds Q E->ds.length=ps.length)
  (e:∀(b:Value) (A:Around) (outer:List Env) (s:Shared) (H:Hp) (E:XK),bM k (A.deeper (envOfC a (ai st) s.heap.objs.size f b)) →
   ∃ t,cM (c6 (CX1 P w) P w K mg base N a (ai st) f b A outer s H E).WD (cK st) t/\∀ds Q Ed,sp ds Q Ed->t {nx:=λ_=>Q .ON,rt:=Q} (cU N ds)):aF P w K mg base (CX1 P w) (k+1) f d ps (aH K sp) :=
 ax.okX F S c λb A outer s H E Ed c _ _ _=>by obtain⟨t,a,k⟩:=e b A outer s H E c;exact⟨t,a.WD,λds Q h=>k ds Q Ed h⟩
def AQ{x a:Str}{st:Stmt}{f:Addr}{m:Value}{j i:Option Addr}{n:Array (yan)}{g kV b e d h:Value}(l:K.lookup f=some ⟨m,j,.func (PySem.W.fnOf x a (fg st) (cK st) (ai st) g kV b e i d h),n⟩)
  (c:PySem.W.codeIn K d a=true) (k:PySem.W.keepIn K (.ref f)=true):ax K x a st f (PySem.W.fnOf x a (fg st) (cK st) (ai st) g kV b e i d h):=⟨⟨m,j,g,kV,b,e,i,d,h,n,rfl,l,c⟩,k⟩
end
open PySem PySem.Spec PyProof.Rows L2
def Ph(P:Program)(w:World)(K:yac)(a:yam)(base:Heap)(x:Str)(k:Nat)(ps:yah)(sp:DSp):Prop :=
 ∃ f b,aF P w K a base (CX1 P w) k f b ps (aH K sp)/\a x=some (.ref f)/\PySem.W.keepIn K (.ref f)=true/\Binds K b ps []
section
variable{X:Cx}{k:Nat}{ps:yah}{sp:DSp}{x:Str}{p pos:Pos}{e:Expr}{es:yai}{t:DA}
def IP (h:Ph X.prog X.w X.K X.mg X.base x k ps sp) (a:bM k X.A) (i:SU X (e::es) t) (d:Gl X x:=by rfl) (j:(x==("__debug__" : Str))=false:=by decide)
  (g:starEach (e::es) X.env=(false,eval e X.env)::starEach es X.env:=by rfl) (l:(backTo pos (starEach es X.env)).any (·.1)=false:=by rfl):OD X (.Call (.Name x p) (e::es) [] pos) (wH sp [] t):=by
 obtain⟨f,m,F,b,c,f⟩:=h;exact Gg (dds:=[]) (dsv:=[]) F a d b c f .nil (by simp) Ie i j g l
def aq (h:Ph X.prog X.w X.K X.mg X.base x k ps sp) (a:bM n X.A) (f:SU X (e::es) t) (b:k<=n:=by decide) (c:Gl X x:=by rfl) (g:(x==("__debug__" : Str))=false:=by decide)
  (d:starEach (e::es) X.env=(false,eval e X.env)::starEach es X.env:=by rfl) (i:(backTo pos (starEach es X.env)).any (·.1)=false:=by rfl):OD X (.Call (.Name x p) (e::es) [] pos) (wH sp [] t):=IP h (a.mono b) f c g d i
def IV{n:Str}{ep:Pos}{f:Stmt}{m:yal}(i:Nat)(h:Ph X.prog X.w X.K X.mg X.base x k ps sp)(o:bM k X.A)(u:X.N.Nodup)(w:X.mg y=some (.ref C))(s:SU X.WD (e::es) t)(a:∀v,cM (Cx.markX X v) (f::m) su)
  (d:Gl X x:=by rfl) (c:Gl X y:=by rfl) (q:X.N[i]?=some n:=by rfl) (b:X.env.scope.names.lookup n=some .local:=by rfl)
  (g:X.ex=[]:=by rfl) (A:X.stack=X.env::X.outer:=by rfl) (j:X.env.frame=some X.env.locals:=by rfl) (z:(x==("__debug__" : Str))=false:=by decide) (l:(y==("__debug__" : Str))=false:=by decide) (r:starEach (e::es) X.env=(false,eval e X.env)::starEach es X.env:=by rfl) (B:(backTo cp (starEach es X.env)).any (·.1)=false:=by rfl)
  (hs:swapsWith (.Call (.Name x p) (e::es) [] cp) none ep.line X.env=pure false:=by rfl) :
  Q4 X (.Try [.Expr (.Call (.Name x p) (e::es) [] cp) ep] [.ExceptHandler (some (.Name y np)) (some n) (f::m) hp] [] [] pos) (Gf X.K C i sp t su):=by
 obtain⟨f,E,F,f,m,n⟩:=h;exact Lo i F o f m n u w s a d c q b g A j z l r B hs
end
theorem KO{CX:CXT}{P:Program}{w:World}{K:yac}{c:yam}{base:Heap}{N:yah}{a:Str}{b:Scope}{f:Addr}{d:Value}{A:Around}{outer:List Env}{s:Shared}{H:Hp}{E:XK}:(c6 CX P w K c base N a b f d A outer s H E).K=K:=rfl
theorem Kj(c:Addr):WH (.exc c)=.ref c:=rfl
theorem D9(c:Addr):dZ (.exc c)=false:=rfl
def sp1(R:D->(D->Prop)->Prop):DSp:=λb Q _=>∃a,b=[a]/\R a Q
def tP:DSp:=λb Q _=>∃a:yaf,b=[.lst false (a.map .int)]/\a.length<=63/\Q (.bl true)
theorem vA{K:yac}{P:yak}{H:Hp}:∀ns:yaf,ah K P H (ns.map D.int) (ns.map V.int)
 |[]=>ah.nil
 |n::r=>ah.cons (Den.int n) (vA r)
def L0{K:yac}{H:Hp}{a:Addr}{ns:yaf}(b:ns.length<=63)(e:SqL K H a (ns.map V.int))(c:jd K H):aH K tP [.ref a] H (λv _=>v=.bl true) λ_ _ _=>False :=
 ⟨λ_=>False,[.lst false (ns.map D.int)],λd=>d=.bl true,λ_=>False,c,by lia,ah.one (Den.lst (by lia) (.any e) (vA ns)),⟨ns,rfl,b,rfl⟩,λd v H' _ a e=>by subst e;exact a.WI,λ_ _ _ _ z=>z.elim⟩
def walk{l:PySem.W.OpenLaw}{q:Program}{a:yah}{n:(yam)->Heap->Prop}{i:World->Heap->Prop}{d:DefRec}{K:Params->yac}{k:Nat}{x:Str}(m:l.most=some 63)(c:d.params.defaults=[])(j:bM k callerA)
  (o:∀(w:World) (h:Heap),i w h->(K w.params).In h) (y:∀w:World,tabOf (K w.params)=none)
  (F:∀(w:World) (b:yam) (g:Addr) (h:Heap),(K w.params).In h->h.Ns mainGlobals b->b d.name=some (.ref g) →
   ∃ e:FuncData,(∀(s:Shared) (u:Value),BindsTo s e ⟨[u],[]⟩ [(x,u)])/\∀base:Heap,(K w.params).In base->base.Ns mainGlobals b->aF l.prog w (K w.params) b base (CX1 l.prog w) k g e [x] (aH (K w.params) tP)) :
  PySem.W.WalkO q a n i l.row.toRowW d [] (λf vs=>PySem.call f vs) :=
 L2.Kl (n:=63) (k:=k) (x:=x) (CX:=λw=>CX1 l.prog w) (sp:=λw=>aH (K w.params) tP) m (by decide) c j o F (λw _ a t a c b=>L0 a b ⟨λP r e=>(by rcases c P with z|⟨o,p,z⟩<;>rw[z]at e<;>cases e),by grind⟩) λ_ _ _ _ _ z=>by obtain⟨_,_,_,_,_,_,_,_,_,_,_,_,_,q⟩:=z;lia
def YR{b:Type}(a:b)(r:List b):Qw (a::r) 0=some a:=bf (j:=0) rfl
def Xv{c:Type}(a b:c)(r:List c):Qw (a::b::r) 1=some b:=bf (j:=1) rfl
def at2{d:Type}(a b c:d)(r:List d):Qw (a::b::c::r) 2=some c:=bf (j:=2) rfl
def at3{e:Type}(a b c d:e)(r:List e):Qw (a::b::c::d::r) 3=some d:=bf (j:=3) rfl
theorem Hd(ds:yas)(i:Int)(Q:D->Prop):uH (.tup ds) (.int i) Q=∃d,Qw ds i=some d/\Q d:=rfl
theorem ro(t:Bool)(ds:yas)(i:Int)(Q:D->Prop):uH (.lst t ds) (.int i) Q=∃d,Qw ds i=some d/\Q d:=rfl
theorem eX(i:Int):aB (.int i)=.int i:=rfl
theorem Hx(b:Bool):aB (.bl b)=.bl b:=rfl
theorem Fp:aB .ON=.ON:=rfl
theorem Fq(x:Str):aB (.str x)=.str x:=rfl
theorem Fn(c:Addr):aB (.exc c)=.exc c:=rfl
theorem cJ(ds:yas):aB (.tup ds)=.tup (aU ds):=rfl
theorem bq(t:Bool)(ds:yas):aB (.lst t ds)=.lst false (aU ds):=rfl
theorem bC:aU []=[]:=rfl
theorem aW(d:D)(ds:yas):aU (d::ds)=aB d::aU ds:=rfl
theorem cI{a:Type}(f:a->D)(h:∀x,aB (f x)=f x):∀xs:List a,aU (xs.map f)=xs.map f
 |[]=>by rw[Vy,aU]
 |x::r=>by rw[Pj,aU,h,cI f h r]
def cn(ns:yaf):aU (ns.map D.int)=ns.map D.int:=cI _ eX ns
theorem Bj(C:Int->Int->Prop)(g:Int->Int->D)(i j:Int)(Q:D->Prop):Ya C g (.int i) (.int j) Q=(C i j/\Q (g i j)):=rfl
theorem kg(g:Int->Int->D)(i j:Int)(Q:D->Prop):gG g (.int i) (.int j) Q=Q (g i j):=rfl
theorem K8(d:D)(r:Ro)(Q:D->Prop):kW 0 (some (.val d)::r) Q=Q d:=rfl
theorem K9(n:Nat)(x:Option Sl)(r:Ro)(Q:D->Prop):kW (n+1) (x::r) Q=kW n r Q:=rfl
theorem Np(x y:Option Sl)(r:Ro):List.set (x::r) 0 y=y::r:=rfl
theorem Nq(n:Nat)(x y:Option Sl)(r:Ro):List.set (x::r) (n+1) y=x::List.set r n y:=rfl
def MZ(k:Bool)(R:Bool->Prop):(∃c,(D.bl k)=.bl c/\R c)=R k:=by apply propext;constructor;rintro⟨c,e,q⟩;cases e;exact q;intro q;exact⟨k,rfl,q⟩
def Lx(k:Int)(R:Int->Prop):(∃c,(D.int k)=.int c/\R c)=R k:=by apply propext;constructor;rintro⟨c,e,q⟩;cases e;exact q;intro q;exact⟨k,rfl,q⟩
def IY{a:Type}(k:a)(R:a->Prop):(∃c,some k=some c/\R c)=R k:=by apply propext;constructor;rintro⟨c,e,q⟩;cases e;exact q;intro q;exact⟨k,rfl,q⟩
def Uh(a b c:D):([a,b,c]:yas).length<=sizeLine:=by simp_all [sizeLine_eq]
def TL(a b:D):([a,b]:yas).length<=sizeLine:=by simp_all [sizeLine_eq]
def ZN(a:D):([a]:yas).length<=sizeLine:=by simp_all [sizeLine_eq]
theorem sz4(a b c d:D):([a,b,c,d]:yas).length<=sizeLine:=by simp_all [sizeLine_eq]
def Jr(t:Bool)(xs:yas)(R:yas->Prop):(∃ys,((∃t',[D.lst t xs]=[.lst t' ys]) ∨ [D.lst t xs]=[.tup ys])/\R ys)=R xs:=by
 apply propext;constructor;rintro⟨c,e,q⟩;rcases e with⟨_,e⟩| e;cases e;exact q;cases e;intro q;exact⟨xs,.inl ⟨t,rfl⟩,q⟩
def Js(xs:yas)(R:yas->Prop):(∃ys,((∃t',[D.tup xs]=[.lst t' ys]) ∨ [D.tup xs]=[.tup ys])/\R ys)=R xs:=by
 apply propext;constructor;rintro⟨c,e,q⟩;rcases e with⟨_,e⟩| e;cases e;cases e;exact q;intro q;exact⟨xs,.inr rfl,q⟩
def Mg(a b:D)(R:D->D->Prop):(∃d e,[a,b]=[d,e]/\R d e)=R a b:=by apply propext;constructor;rintro⟨_,_,e,q⟩;cases e;exact q;intro q;exact⟨a,b,rfl,q⟩
def Jn (ds:yas):Xr "tuple" (.tup ds)=true:=by
 show(("tuple" : String) == "tuple" || (("tuple" : String) == "bool" && ("tuple" : String) == "int"))=true;decide
def Jm (t:Bool) (ds:yas):Xr "list" (.lst t ds)=true:=by
 show(("list" : String) == "list" || (("list" : String) == "bool" && ("list" : String) == "int"))=true;decide
def Ef (ds:yas):Xr "list" (.tup ds)=false:=by
 show(("tuple" : String) == "list" || (("tuple" : String) == "bool" && ("list" : String) == "int"))=false;decide
def Jl (i:Int):Xr "int" (.int i)=true:=by
 show(("int" : String) == "int" || (("int" : String) == "bool" && ("int" : String) == "int"))=true;decide
def Ce (i:Int):Xr "bool" (.int i)=false:=by
 show(("int" : String) == "bool" || (("int" : String) == "bool" && ("bool" : String) == "int"))=false;decide
theorem Ec:dZ .ON=true:=rfl
theorem Ee(ds:yas):dZ (.tup ds)=false:=rfl
theorem Eb(t:Bool)(ds:yas):dZ (.lst t ds)=false:=rfl
theorem Ea(i:Int):dZ (.int i)=false:=rfl
def A0(i:Int):okD (.int i):=by unfold okD;rw[QL,Ug]<;>first|exact⟨rfl,rfl⟩| (intros;contradiction)
def JB:okD .ON:=by unfold okD;rw[QL,Ug]<;>first|exact⟨rfl,rfl⟩| (intros;contradiction)
def DY(a b c x y z:Int):eqD (.tup [.int a,.int b,.int c]) (.tup [.int x,.int y,.int z])=(decide (a=x) && (decide (b=y) && decide (c=z))):=by unfold eqD;simp only[QL,cC,PyData.eqv,PyData.eqvAll,Bool.and_true];rfl
noncomputable abbrev T3(a b c:Int):D:=.tup [.int a,.int b,.int c]
def CD.lit{n:Int}(h:n≠0/\n.natAbs<2 ^ 64:=by decide):CD i n:=⟨h.1,QZ h.2 (W9 (by decide) (by decide))⟩
def J0(a b:Int)(R:Int->Int->Prop):(∃i j:Int,[D.int a,D.int b]=[.int i,.int j]/\R i j)=R a b:=by apply propext;constructor;rintro⟨_,_,e,q⟩;cases e;exact q;intro q;exact⟨a,b,rfl,q⟩
def JZ(a:Int)(R:Int->Prop):(∃i:Int,[D.int a]=[.int i]/\R i)=R a:=by apply propext;constructor;rintro⟨_,e,q⟩;cases e;exact q;intro q;exact⟨a,rfl,q⟩
def FV{ns:yaf}{k:Int}(h0:0<=k)(b:k<ns.length):Qw (ns.map D.int) k=some (.int (ns.getD k.toNat 0)):=by
 have e:k=((k.toNat:Nat):Int):=by lia
 have a:k.toNat<ns.length:=by lia
 have q:Qw (ns.map D.int) ((k.toNat:Nat):Int)=some (.int (ns.getD k.toNat 0)):=bf (by simp[PO,O2 a,Py]);rw[<- e]at q;exact q
def zO{xs ys:yaf}(h:xs.map D.int=ys.map D.int):xs=ys:=by
 induction xs generalizing ys with
 |nil=>simp_all
 |cons x r ih=>cases ys with
  |nil=>simp at h
  |cons y q =>
   grind
def LJ(n:Nat)(t:WM)(ds:yas)(h:ds.length=n)(ρ:Ro)(Q:Ro->Prop):sM n t (.tup ds) ρ Q=t ds ρ Q:=by
 apply propext;unfold sM;constructor;rintro⟨VG,e,_,h⟩;rcases e with e|⟨_,e⟩;cases e;exact h;cases e;intro q;exact⟨ds,.inl rfl,h,q⟩
def gdc(g:DG)(u:WM)(x:D)(r:yas)(ρ:Ro)(Q:Ro->Prop):lQ g u (x::r) ρ Q=g x ρ λa=>u r a Q:=by
 apply propext;unfold lQ;constructor
 simp_all
 intro h;exact⟨x,r,rfl,h⟩
def gdn(ρ:Ro)(Q:Ro->Prop):sL [] ρ Q=Q ρ:=by unfold sL;simp
def NG(d c:DG)(a b:D)(ρ:Ro)(Q:Ro->Prop):sM 2 (lQ d (lQ c sL)) (.tup [a,b]) ρ Q=d a ρ λe=>c b e Q:=by
 (first|rw[LJ 2 _ _ rfl]|rw[LJ 4 _ _ rfl]);simp only[gdc,gdn]
section
variable{X:Cx}{pos:Pos}
def Rel.putG{i:Nat}{o:HO}(r:Rel X W H σ ρ)(C:i<σ.length)(sm:ar H H')(f:H p=none)(B:X.K.lookup p=none)(h':H' p=some o)(E:cZ X.K (λt b=>W.bad t b∨b=p) H' (W.sub σ.length i) x o) :
  Rel X ((W.drop i).put i p) H' (σ.set i (some (.ref p))) (ρ.set i (some (.ob x)))/\OQ W H ((W.drop i).put i p) H':=by
 have l:∀j a,((W.drop i).put i p).O j=some a->(j=i/\a=p)∨(j≠i/\W.O j=some a):=λj a h=>by have c:(if j=i then some p else(if j=i then none else W.O j))=some a:=h;by_cases e:j=i;rw[Og e]at c;cases c;exact .inl ⟨e,rfl⟩;rw[Oc e,Oc e]at c;exact .inr ⟨e,c⟩
 have y:((W.drop i).put i p).O i=some p:=by show(if i=i then some p else _)=_;rw[Og rfl]
 have m:∀j,j≠i->((W.drop i).put i p).O j=W.O j:=λj n=>by show(if j=i then some p else(if j=i then none else W.O j))=_;rw[Oc n,Oc n]
 have G:∀j k b,W.sub σ.length j k=some b->((W.drop i).put i p).sub σ.length j k=some b:=λj k b e=>(m _ (pD C)).trans e
 have A:∀t a,((W.drop i).put i p).bad t a->W.bad t a∨a=p:=λt a z=>by
  rcases z with z|⟨j,z⟩| z;exact .inl (.inl z);rcases l j a z with⟨_,q⟩| ⟨_,q⟩;exact .inr q;exact .inl (.inr (.inl ⟨j,q⟩));exact .inl (.inr (.inr z))
 have s:∀{t:Bool} {a:Addr} {e:yar},QK X.K H t a e->a≠p:=fun {t a e} q z=>by
  subst z;rcases q.1 with(q|⟨o,q⟩)|⟨o,Oe,n,q,_⟩;rw[f]at q;cases q;rw[f]at q;cases q;rw[B]at q;cases q
 have I:∀(d:D) (v:V),Den X.K W.bad H d v->Den X.K ((W.drop i).put i p).bad H' d v:=Den.map (λ_ _ q=>OT.same sm q) (λt a e n q=>⟨λz=>(A t a z).elim n (s q),q.same sm⟩) (λa _ n q=>sm.kp a _ q n.nt);have u:∀(w:yas) (g:yar),ah X.K W.bad H w g->ah X.K ((W.drop i).put i p).bad H' w g:=ah.map (λ_ _ q=>OT.same sm q) (λt a e n q=>⟨λz=>(A t a z).elim n (s q),q.same sm⟩) (λa _ n q=>sm.kp a _ q n.nt);refine⟨⟨λj d h=>?_,λj x h=>?_,λj k a c s=>?_,λj a c=>?_,λj a c=>?_,λa h=>let ⟨_,q⟩:=r.bt a h;sm.ex q,λa h=>let ⟨_,q⟩:=r.st a h;sm.ex q,r.ent.trans sm,r.tab.same sm⟩,rfl,rfl,λb o _ q n=>sm.kp b o q n,λj a h=>?_,sm.tb,sm.ok⟩;by_cases g:j=i;subst g;rw[List.getElem?_set]at h;split at h;split at h<;>cases h
 lia
 rw[Rc (Ne.symm g)]at h;obtain⟨w,c,s⟩:=r.val j d h;exact⟨w,by rw[Rc (Ne.symm g)];exact c,I d w s⟩;by_cases g:j=i;subst g;rw[List.getElem?_set]at h;split at h;split at h;cases h;exact⟨p,_,y,by simp[C],h',by rw[VQ];exact E.OC (λt a z=>A t a z) (G _)⟩;cases h
 lia
 rw[Rc (Ne.symm g)]at h;obtain⟨a,e,c,s,i,d⟩:=r.own j x h;exact⟨a,e,(m j g).trans c,by rw[Rc (Ne.symm g)];exact s,sm.kp _ _ i d.VE.nt,by rw[VQ];exact d.map u λk b q=>⟨G j k b q,λ_ z=>sm _ _ z⟩⟩;rcases l j a c with⟨d,b⟩| ⟨d,b⟩<;>rcases l k a s with⟨i,g⟩| ⟨i,g⟩;rw[d,i];subst b;obtain⟨_,_,e,q,_⟩:=r.kn k _ g;rw[f]at q;cases q;subst g;obtain⟨_,_,e,q,_⟩:=r.kn j _ b;rw[f]at q;cases q;exact r.inj j k a b g;rcases l j a c with⟨d,b⟩| ⟨d,b⟩;subst b;exact⟨B,⟨λz=>(by obtain⟨o,q⟩:=r.bt _ z;rw[f]at q;cases q),λz=>(by obtain⟨o,q⟩:=r.st _ z;rw[f]at q;cases q)⟩,_,h',E.VE⟩;obtain⟨m,k,e,i,g⟩:=r.kn j a b;exact⟨m,k,e,sm.kp _ _ i g.nt,g⟩;rcases l j a c with⟨d,b⟩| ⟨d,b⟩;subst b;exact r.ent.free f;exact r.ke j a b;rcases l j a h with⟨d,b⟩| ⟨d,b⟩;subst b;exact .inr f;exact .inl ⟨j,b⟩
def Rel.U2{i:Nat}(r:Rel X W H σ ρ)(d:i<σ.length)(sm:ar H H')(a:H p=none)(c:X.K.lookup p=none)(h':H' p=some (.lst vs))(e:ah X.K (λt b=>W.bad t b∨b=p) H' ds vs) :
  Rel X ((W.drop i).put i p) H' (σ.set i (some (.ref p))) (ρ.set i (some (.own ds)))/\OQ W H ((W.drop i).put i p) H':=r.putG d sm a c h' (.lst e)
def ah.apart{K:yac}{H:Hp}(n:H a=none)(k:K.lookup a=none)(h:ah K P H ds d)(c:NT o:=by exact True.intro):ah K (λt b=>P t b∨b=a) (L2.upd H a o) ds d :=
 ah.map (λ_ _ q=>OT.same (ar.upd n c) q) (λt b e p q=>⟨(λz=>z.elim p λz=>by
  subst z;rcases q.1 with(q|⟨o,q⟩)|⟨o,Oe,m,q,_⟩
  all_goals lia),q.same (ar.upd n c)⟩) (λb _ m q=>(ar.upd n c).kp b _ q m.nt) ds d h
def Rel.mutG{i:Nat}{a:Addr}{o:HO}(r:Rel X W H σ ρ)(d:ρ[i]?=some (some (.ob x)))(f:W.O i=some a)(B:σ[i]?=some (some (.ref a)))(m:H a=some o)(g:i9 o)(l:cZ X.K W.bad H (W.sub σ.length i) x' o') :
  Rel X W (L2.upd H a o') σ (ρ.set i (some (.ob x')))/\OQ W H W (L2.upd H a o'):=by
 have h:∀t,W.bad t a:=λ_=>.inr (.inl ⟨i,f⟩)
 have A:∀b c,OT X.K H b c->OT X.K (L2.upd H a o') b c:=λb c q=>q.imp (λq=>by rw[aw (pS q m (by intro z;subst z;exact g))];exact q) id
 have x:∀t b c,¬W.bad t b->QK X.K H t b c->¬W.bad t b/\QK X.K (L2.upd H a o') t b c:=λt b c n q=>by
  have s:b≠a:=λe=>n (e ▸ h t)
  refine⟨n,?_,λz=>⟨by rw[aw s];exact(q.2 z).1,(q.2 z).2⟩⟩;rcases q.1 with(q|⟨u,q⟩)|q;exact .inl (.inl (by rw[aw s];exact q));exact .inl (.inr ⟨u,by rw[aw s];exact q⟩);exact .inr q
 have t:∀b u,V3 u->H b=some u->L2.upd H a o' b=some u:=λb u n q=>by rw[aw (pS q m (by intro z;subst z;exact g.sol n))];exact q
 have C:i<ρ.length:=(QH.mp d).1;have h:i<σ.length:=(QH.mp B).1;have n:∀j k b,W.sub σ.length j k=some b->W.sub σ.length j k=some b/\∀d,H b=some (.lst d)->L2.upd H a o' b=some (.lst d):=λj k b q=>⟨q,λd z=>by rw[aw (λe=>pD h (r.inj _ _ a (by rw[<- e];exact q) f))];exact z⟩
 have w:∀b u,H b=some u->∃d,L2.upd H a o' b=some d:=λb u q=>by by_cases p:b=a;subst p;exact⟨_,aD⟩;exact⟨u,by rw[aw p];exact q⟩
 refine⟨⟨λj d h=>?_,λj y h=>?_,r.inj,λj b k=>?_,r.ke,λb k=>let ⟨u,q⟩:=r.bt b k;w b u q,λb k=>let ⟨u,q⟩:=r.st b k;w b u q,r.ent.ins (r.ke i a f) m g l.VE.nt,r.tab.upd l.VE.nt (.inr ⟨o,m,g.ne,g.nt⟩)⟩,OQ.upd f m g l.VE.nt⟩;by_cases g:j=i;subst g;rw[UP C]at h;cases h;rw[Rc (Ne.symm g)]at h;obtain⟨w,m,o⟩:=r.val j d h;exact⟨w,m,Den.map A x t d w o⟩;by_cases g:j=i;subst g;rw[UP C]at h;cases h;exact⟨a,o',f,B,aD,l.map (ah.map A x t) (n _)⟩;rw[Rc (Ne.symm g)]at h;obtain⟨b,c,m,o,q,d⟩:=r.own j y h;have s:b≠a:=λe=>g (r.inj j i a (by rw[<- e];exact m) f)
 exact⟨b,c,m,o,by rw[aw s];exact q,d.map (ah.map A x t) (n _)⟩;obtain⟨g,f,c,e,d⟩:=r.kn j b k;refine⟨g,f,?_⟩;by_cases p:b=a;subst p;exact⟨_,aD,l.VE⟩;exact⟨c,by rw[aw p];exact e,d⟩
def Rel.VE{i:Nat}{a:Addr}(r:Rel X W H σ ρ)(f:ρ[i]?=some (some (.own ds)))(c:W.O i=some a)(b:σ[i]?=some (some (.ref a)))(e:H a=some (.lst vs))(d:ah X.K W.bad H VG vs') :
  Rel X W (L2.upd H a (.lst vs')) σ (ρ.set i (some (.own VG)))/\OQ W H W (L2.upd H a (.lst vs')):=r.mutG f c b e True.intro (.lst d)
variable{es:yai}{t:DA}
def KY(i:Nat)(t:DA):DS:=λE a=>t a λb=>b.length<=sizeLine/\E.nx (a.set i (some (.own b)))
def gE{x:Str}(i:Nat)(n:X.N.Nodup)(h:SU X es t)(j:X.N[i]?=some x:=by rfl)(l:Loc X.env.scope x:=by first|exact Or.inl rfl|exact Or.inr rfl)
  (hs:swapsWith (.List es Xw) (some (.Name x pos')) pos.line X.env=pure false:=by rfl) (m:X.fn x=true∨X.env.scope.names.lookup x=some .local:=by first|exact .inl rfl|exact .inr rfl|assumption) :
  Q4 X (.Assign [.Name x pos'] (.List es Xw) pos) (KY i t):=by
 intro a s b H W c E I r d;refine zC8 (wpAny_List_spliced (Oj (h Xw a s b H W c _ I r d) λk d a=>?_)) hs;obtain⟨f,b,y,c,g,i,h,z,q⟩:=a;rw[<- h.len]at z;refine⟨by rw[<- g.length];exact z,?_⟩;have a:b d.heap.objs.size=none:=c.OB.fresh (O5 _);have p:=c.laid (o:=.lst f) (t':=d.toks) (λb u e=>Po _ e) (O5 _) ⟨z,k,0,g,Rh _ rfl⟩;have b:=(r.same i).U2 (Inv.TJ c j) (ar.upd (o:=.lst f) a) a (Inv.Q5 c) aD (ah.apart a (Inv.Q5 c) h);exact cN (v:=.ref d.heap.objs.size) p n j l rfl (λw a=>⟨_,_,_,a,(OQ.same i).trans b.2,_,b.1,q⟩) m
def Au(i:Nat)(te:DE):DS:=λE a=>∃b,a[i]?=some (some (.own b))/\te a λd=>b.length<sizeLine/\E.nx (a.set i (some (.own (b++[d]))))
def iS{x:Str}{a:Pos}(i:Nat)(f:OD X e te)(d:X.N[i]?=some x:=by rfl)(c:VB X.env.scope x:=by first|exact Or.inl rfl|exact Or.inr (Or.inl rfl)|exact Or.inr (Or.inr rfl))
  (g:(x==("__debug__" : Str))=false:=by decide) (k:(x==("__classdict__" : Str))=false:=by decide)
  (m:attributeBase (.Name x px) "append" X.env (eval (.Name x px) X.env)=eval (.Name x px) X.env:=by rfl)
  (h:((backTo cpos (starEach [e] X.env)).all (λx=>!x.1) && (backToKw cpos (keywordEach [] X.env)).all (λx=>x.1.isSome) && decide ([e].length+([]:List Keyword).length+(if([]:List Keyword).isEmpty then 0 else 1)<30))=true:=by rfl)
  (l:(a.endLine==cpos.line)=true:=by rfl) (b:starEach [e] X.env=(false,eval e X.env)::starEach [] X.env:=by rfl) (j:(backTo cpos (starEach [] X.env)).any (·.1)=false:=by rfl)
  (hs:swapsWith (.Call (.Attribute (.Name x px) "append" a) [e] [] cpos) none pos.line X.env=pure false:=by rfl) :
  Q4 X (.Expr (.Call (.Attribute (.Name x px) "append" a) [e] [] cpos) pos) (Au i te):=by
 have a:=jV (pos:=pos) (Cy PySem.F.plainAttrs_list PySem.F.slot_list_append PySem.F.type_list_append oG (eR d c g k) (gw f.pe lW b) m h l b j) hs;refine Q4.of a λn H W b E r o h=>?_
 obtain⟨d,g,h⟩:=h;obtain⟨a,c,j,e,f,l⟩:=r.oH i d g;refine⟨.ref a,e,.inl ⟨rfl,_,SqL.of f⟩,W,b,_,r,h,λv H' d b k q=>?_⟩;obtain⟨z,q⟩:=q;have d:=b _ _ f;have h:=r.same b;have f:=l.same b;refine⟨a,c,v,rfl,rfl,d,by rw[f.len];exact z,?_⟩;obtain⟨a,i⟩:=h.VE (vs':=c++[v]) g j e d (f.append (ah.one k));exact⟨W,_,(OQ.same b).trans i,a,q⟩
def Rel.freeze{X:Cx}{i:Nat}(r:Rel X W H σ ρ)(e:ρ[i]?=some (some (.own ds))):Rel X (W.drop i) H σ (ρ.set i (some (.val (.lst true ds)))):=by
 obtain⟨a,l,b,c,g,h⟩:=r.oH i ds e;have f:i<σ.length:=(QH.mp c).1;have WN:i<ρ.length:=(QH.mp e).1;have e:¬(W.drop i).bad true a:=λz=>by
  rcases z with z|⟨j,z⟩| ⟨_,z⟩
  rotate_right
  exact(r.kn i a b).2.1.2 z;exact(r.kn i a b).2.1.1 z;have c:(if j=i then none else W.O j)=some a:=z;by_cases d:j=i
  lia
  rw[Oc d]at c;exact d (r.inj j i a c b)
 have m:Den X.K (W.drop i).bad H (.lst true ds) (.ref a):=Den.lst e (.new g (r.kn i a b).1) (h.OC λ_ _=>Own.O0);refine⟨λj x h=>?_,λj x h=>?_,λj k b a d=>?_,λj b a=>?_,λj b a=>?_,r.bt,r.st,r.ent,r.tab⟩;by_cases c:j=i
 simp_all
 rw[Rc (Ne.symm c)]at h;obtain⟨w,a,d⟩:=r.val j x h;exact⟨w,a,d.OC λ_ _=>Own.O0⟩;by_cases c:j=i
 simp_all
 rw[Rc (Ne.symm c)]at h;obtain⟨b,c,a,d,g,e⟩:=r.own j x h;exact⟨b,c,by show(if j=i then none else W.O j)=_;lia,d,g,e.OC (λ_ _=>Own.O0) (Own.Rz f)⟩;have c:(if j=i then none else W.O j)=some b:=a;have e:(if k=i then none else W.O k)=some b:=d;by_cases d:j=i
 lia
 by_cases f:k=i
 lia
 rw[Oc d]at c;rw[Oc f]at e;exact r.inj j k b c e;have c:(if j=i then none else W.O j)=some b:=a;by_cases d:j=i
 lia
 rw[Oc d]at c;exact r.kn j b c;have c:(if j=i then none else W.O j)=some b:=a;by_cases d:j=i
 lia
 rw[Oc d]at c;exact r.ke j b c
def Ax(i:Nat)(t:DS):DS:=λE a=>∃b,a[i]?=some (some (.own b))/\t E (a.set i (some (.val (.lst true b))))
def cG{t:DS}(i:Nat)(h:cM X sts t):cM X sts (Ax i t):=by intro a s c H W d E I r b;obtain⟨f,e,b⟩:=b;exact Oj (h a s c H (W.drop i) _ E I (r.freeze e) b) λ_ _ z=>z.up (OQ.drop W H i)
end
noncomputable def dP(env:Env)(ns:yah):List (Str×Addr):=ns.filterMap λn=>(env.cells.lookup n).map λc=>(n,c)
theorem ml:∀{ns:yah} {x:Str} {c:Addr},(dP env ns).lookup x=some c->env.cells.lookup x=some c
 |[],_,_,h=>by cases h
 |n::r,x,c,h=>by
  unfold dP at h;rw[zDL]at h;cases e:env.cells.lookup n with
  |none =>
   rw[e]at h;exact ml (ns:=r) h
  |some b =>
   rw[e]at h;have a:List.lookup x ((n,b)::dP env r)=some c:=h;rw[VO]at a;cases q:x==n with
   |true =>
    lia
   |false =>
    rw[q]at a;exact ml (ns:=r) a
theorem qJ{env:Env}:∀{ns:yah} {x:Str} {c:Addr},x∈ns->env.cells.lookup x=some c->(dP env ns).lookup x=some c
 |[],_,_,h,_=>by cases h
 |n::r,x,c,h,e=>by
  unfold dP;rw[zDL];by_cases a:x=n;subst a;rw[e];show List.lookup x ((x,c)::_)=some c;simp[VO];have b:x∈r:=by
   rcases OK.mp h with z|z;exact absurd z a;exact z
  have ih:=qJ (ns:=r) b e;cases q:env.cells.lookup n with
  |none=>exact ih
  |some b =>
   show List.lookup x ((n,b)::dP env r)=some c;rw[VO];have:(x==n)=false:=by simpa using a
   rw[this];exact ih
structure Xx(osc sc:Scope)(xs ns:yah):Prop where
 kind:sc.kind=.function
 V8:∀y∈sc.names,y.2 ≠ .cell
 names:∀y∈sc.names,y.2=.local->sc.names.lookup y.1=some .local
 tgt:∀x∈xs,sc.names.lookup x=some .local
 free:∀y∈sc.names,y.2=.free->y.1∈ns/\osc.names.lookup y.1=some .cell
 cells:∀n∈ns,sc.names.lookup n=some .free/\osc.names.lookup n=some .cell
 nd:(xs++ns).Nodup
def bu(X:Cx)(a:Scope)(ns xs:yah)(C:Addr)(d:Shared)(e:Hp)(b:yae)(c:yaa):Cx :=
 {X with N:=xs++ns,OG:=d,OR:=e,env:=compEnvC a (dP X.env ns) C X.env,outer:=X.stack,stack:=X.stack,ex:=b,fn:=λ_=>false,pn:=[],xe:=c}
theorem lX{env:Env}(b:env.scope.kind=.function):∀{a:List (Str×NameKind)} {n:Str},a.lookup n=some .free->env.kindOf n=some .cell →
  (a.map λ(n,k)=>if(k==NameKind.free && env.scope.kind==.function && env.kindOf n==some .cell)then(n,NameKind.cell)else(n,k)).lookup n=some .cell
 |[],_,h,_=>by simp at h
 |(m,k)::r,n,h,a=>by
  have ih:=@lX env b r n;show List.lookup n ((if(k==NameKind.free && env.scope.kind==.function && env.kindOf m==some .cell)=true then(m,NameKind.cell)else(m,k))::_)=_;cases hx:n==m with
  |true =>
   simp only[VO,hx]at h;cases h;have e:n=m:=by simpa using hx
   subst e;rw[b,a];simp[VO]
  |false =>
   simp only[VO,hx]at h;by_cases b:(k==NameKind.free && env.scope.kind==.function && env.kindOf m==some .cell)=true;rw[Og b];simp only[VO,hx];exact ih h a;rw[Oc b];simp only[VO,hx];exact ih h a
theorem k7{env:Env}:∀{a:List (Str×NameKind)} {n:Str} {k:NameKind},
  (a.map λ(n,k)=>if(k==NameKind.free && env.scope.kind==.function && env.kindOf n==some .cell)then(n,NameKind.cell)else(n,k)).lookup n=some k->(k=.cell∨k=.free) →
  (∃y∈a,y.1=n/\y.2=.free)∨∃ y∈a,y.1=n/\y.2=.cell
 |[],_,_,h,_=>by simp at h
 |(m,j)::r,n,k,h,b=>by
  have a:List.lookup n ((if(j==NameKind.free && env.scope.kind==.function && env.kindOf m==some .cell)=true then(m,NameKind.cell)else(m,j))::(r.map λ(n,k)=>if(k==NameKind.free && env.scope.kind==.function && env.kindOf n==some .cell)then(n,NameKind.cell)else(n,k)))=some k:=h;have d:((∃y∈r,y.1=n/\y.2=.free)∨∃ y∈r,y.1=n/\y.2=.cell)->((∃y∈(m,j)::r,y.1=n/\y.2=.free)∨∃ y∈(m,j)::r,y.1=n/\y.2=.cell):=λz=>by
   rcases z with⟨y,c,q⟩| ⟨y,c,q⟩;exact .inl ⟨y,Pz _ c,q⟩;exact .inr ⟨y,Pz _ c,q⟩
  cases hx:n==m with
  |true =>
   have e:n=m:=by simpa using hx
   subst e;by_cases c:(j==NameKind.free && env.scope.kind==.function && env.kindOf n==some .cell)=true;have:j=.free:=by simp only[Xb]at c;exact beq_iff_eq.mp c.1.1
   exact .inl ⟨(n,j),RB,rfl,this⟩;rw[Oc c]at a;simp only[VO,hx]at a;cases a;rcases b with b|b;exact .inr ⟨(n,j),RB,rfl,b⟩;exact .inl ⟨(n,j),RB,rfl,b⟩
  |false =>
   by_cases c:(j==NameKind.free && env.scope.kind==.function && env.kindOf m==some .cell)=true;rw[Og c]at a;simp only[VO,hx]at a;exact d (k7 a b);rw[Oc c]at a;simp only[VO,hx]at a;exact d (k7 a b)
def bA(ρ:Ro)(j:Nat):Option Sl:=match ρ[j]? with
 |some (some (.val d))=>some (.val d)
 |_=>none
def j8(a:St)(j:Nat):Option V:=match a[j]? with
 |some (some v)=>some v
 |_=>none
section
variable{X:Cx}{pins:yab}{σ:St}{H:Hp}{s:Shared}{sc:Scope}{ns:yah}{js:yag}{xs:yah}{fp:yae}
def Inv.comp{t:Shared}{E:Hp}{C:Addr}(I:Inv X pins σ H s)(S:Xx X.env.scope sc xs ns)(U:js.length=ns.length/\∀(i:Nat) (j:Nat) (n:Str),js[i]?=some j->ns[i]?=some n->X.N[j]?=some n)(Q:∀b∈fp,dN X pins H b)(ZO:∀b∈fp,∃o,s.heap.get? b=some o)(Y:s.heap.objs.size<=C)
  (Xj:t.os=s.os) (hg:AllBare t.gens) (A:∀b o,s.heap.get? b=some o->t.heap.get? b=some o) (S7:t.heap.Ns C λ_=>none) (YT:E C=none) (hs:ar H E) (a:∀b o,s.heap.get? b=some o->H b=none->E b=none) (OB:Q0 X.prog X.w E t.heap) :
  Inv (bu X sc ns xs C s H fp XE) [] (List.replicate xs.length none++js.map (j8 σ)) E t:=by
 have kd:X.env.scope.kind=.function:=I.ok.kind;have B:∀y c,(dP X.env ns).lookup y=some c->X.env.cells.lookup y=some c:=λy c e=>ml e
 have g:∀y c,(dP X.env ns).lookup y=some c->∃v,s.heap.IsCell c v:=λy c e=>I.cell y c (B y c e)
 refine⟨⟨I.ok.mod,S.kind,I.ok.glob,I.ok.blt,Y,λy z c f d=>I.ok.inj y z c (B y c f) (B z c d),λy x=>?_,λy c h _=>(by cases h),I.ok.hd,I.ok.frames,.inl rfl,λb l=>?_,I.bs,PL I.ok.X4 I.sz,λb o e l=>?_,λb l z=>?_,I.stack,I.Tf⟩,
  Xj,hg,⟨λb o e n _ _=>A b o e,λb o e n _ _=>⟨o.slots,A b o e⟩,λb o e n _=>a b o e n,λb o e _=>⟨o,A b o e⟩,λb xs e=>hs b _ e,λb o u e=>hs b _ e,λb h e=>hs.tb b h e⟩,⟨_,S7,λi y v f d h3=>?_⟩,λy c e=>?_,YT,λy c e=>?_,λp h=>absurd (show p∈([]:yab)from h) (by simp),OB,?_⟩
 -- every cell of the block is one of the body's
 have Uw:∃k,((relabel sc X.env).names.lookup y=some k)/\(k=.cell∨k=.free):=by
  rcases x with x|x;exact⟨_,x,.inl rfl⟩;exact⟨_,x,.inr rfl⟩
 obtain⟨k,f,d⟩:=Uw;rcases k7 (env:=X.env) f d with⟨z,L,J,N⟩| ⟨z,L,J,N⟩;obtain⟨m1,m2⟩:=S.free z L N;subst J;obtain⟨c,hc⟩:=I.ok.has z.1 (.inl m2);exact⟨c,qJ m1 hc⟩;exact absurd N (S.V8 z L);refine⟨λz=>?_,λy c e z=>?_⟩;have z':b=C:=z;obtain⟨o,h⟩:=ZO b l;have QW:=OY h;rw[z']at QW;exact absurd (QZ QW Y) (VR _);exact(Q b l).2.2.2.2.1 y c (B y c e) z;obtain⟨f0,f1,f2,p,f4,f5⟩:=Q b l;rcases p with p|p;exact I.ok.Ur b o e p;exact absurd (QZ (OY (I.ok.bs b o e).1) p) (VR _);obtain⟨f0,f1,f2,p,f4,f5⟩:=Q b l;rcases OK.mp (I.Si b z)with e|e;exact f1 e;exact f2 e;by_cases M:i<xs.length;rw[UO (by simpa using M),zCu,Og M]at d;cases d;have T:ns[i - xs.length]?=some y:=by have f:(xs++ns)[i]?=some y:=f;rw[Vp (by lia)]at f;exact f
 have r:(js.map (j8 σ))[i - xs.length]?=some (some v):=by rw[Vp (by simpa using M)]at d;simpa using d
 generalize i - xs.length=i at T r;rw[PO]at r;cases e:js[i]? with
 |none=>rw[e]at r;cases r
 |some j =>
  rw[e]at r;have G:j8 σ j=some v:=SO r;have h5:σ[j]?=some (some v):=by unfold j8 at G;split at G;rename_i u q;cases G;exact q;cases G
  have hN:=U.2 i j y e T;have w:y∈ns:=Ql T;obtain⟨c1,O⟩:=S.cells y w;obtain⟨m,hm,hl⟩:=I.loc;obtain⟨u,ru,lk⟩:=hl j y v hN h5 (.inr (.inl O));refine⟨u,ru,?_⟩;rcases lk with⟨k1,_⟩| ⟨_,c,J,o,h,m⟩;have Tn:X.env.scope.names.lookup y=some .local:=k1;rw[O]at Tn;cases Tn;exact .inr ⟨.inl (lX kd c1 O),c,qJ w J,o,A c o h,m⟩
 obtain⟨v,z⟩:=g y c e;obtain⟨o,h,m⟩:=z;exact⟨v,o,A c o h,m⟩;obtain⟨v,o,h,m⟩:=g y c e;exact a c o h (I.Qo y c (B y c e));show(List.replicate xs.length none++js.map (j8 σ)).length=(xs++ns).length;simp[U.1]
def Xy(X:Cx)(a:yai)(t:DT):Prop :=
 ∀ (pins:yab) (s:Shared) (σ:St) (H:Hp) (W:Own) (b:Ro) (Q:Bool->Prop),Inv X pins σ H s->Rel X W H σ b->t b Q →
  wpAny (model X.prog X.w) X.A (forIn a true λc r=>if r=true then do let ok←isTrue c X.env (eval c X.env);pure (ForInStep.yield ok)else pure (ForInStep.yield r)) (DTP X pins σ H Q) X.xe s
def xE:DT:=λ_ Q=>Q true
def bB{X:Cx}:Xy X [] xE:=λ_ s σ H W a Q I r h=>wpAny_tests_nil ⟨H,I,ar.refl H,h⟩
def zo{X:Cx}(h:TH X c t):Xy X [c] t:=λpins s σ H W a Q I r q=>wpAny_tests_one (h pins s σ H W a Q I r q)
def jY(n:Nat)(b ρ:Ro):Prop:=∃a:Ro,a.length=n/\ρ=a++b
def Dv{s:Shared}{R:Result->Shared->Prop}{g:Expr}{i:Value}(I:Nat->Shared->Prop)
  (b:∀n s,I n s->wpAny (model prog w) A (pyNext it) (λr k=>match r with
   |none=>R (.ok .next) k
   |some v=>wpAny (model prog w) A (letOwnedTupleGo target it v) (λ_ a=>wpAny (model prog w) A (assign target env v) (λ_ o =>
     wpAny (model prog w) A (forIn ifs true λc r=>if r=true then do let f←isTrue c env (eval c env);pure (ForInStep.yield f)else pure (ForInStep.yield r)) (λf j=>if f=true then wpAny (model prog w) A (eval elt env) (λx l =>
       wpAny (model prog w) A (call (.builtin "list.append") [i,x]) (λ_ d=>∃m,m<n/\I m d) (notedBy (model prog w) A env λe z=>R (.error e) z) l) (notedBy (model prog w) A env λe z=>R (.error e) z) j
      else∃m,m<n/\I m j) (notedBy (model prog w) A env λe z=>R (.error e) z) o) (notedBy (model prog w) A env λe z=>R (.error e) z) a) (notedBy (model prog w) A env λe z=>R (.error e) z) k) (notedBy (model prog w) A env λe z=>R (.error e) z) s)
  (n:Nat) (h:I n s):codeAny (model prog w) A (.compLoop (.ListComp elt [⟨target,g,ifs,0⟩] scope pos) 0 it i env) R s:=by
 refine codeAny_loop rfl I (λm z a=>?_) n h;refine wpAny_noted ?_;rw[compTurn_list];refine Oa (wpAny_standAt (Oa (R9 (b m z a) (λr E a=>?_) λ_ _ q=>q)));cases r with
 |none=>exact wpAny_pure a
 |some v =>
  refine Oa (R9 a (λ_ C a=>?_) λ_ _ q=>q);refine Oa (R9 a (λ_ B g3=>Oa (R9 g3 (λf u a=>?_) λ_ _ q=>q)) λ_ _ q=>q);cases f with
  |false=>exact wpAny_pure ⟨rfl,a⟩
  |true=>exact Oa (Oa (R9 a (λy t a=>Oa (R9 a (λ_ p a=>wpAny_pure (wpAny_pure ⟨rfl,a⟩)) λ_ _ q=>q)) λ_ _ q=>q))
def Rel.mutB{X:Cx}{H:Hp}{σ:St}(r:Rel X W H σ ρ)(g:W.B a)(f:H a=some (.lst vs))(h0:X.OR a=none) :
  Rel X W (L2.upd H a (.lst vs')) σ ρ/\∀ds i,ah X.K W.bad H ds i->ah X.K W.bad (L2.upd H a (.lst vs')) ds i:=by
 have m:∀b c,OT X.K H b c->OT X.K (L2.upd H a (.lst vs')) b c:=λb c q=>q.imp (λq=>by rw[aw (pS q f (by intro z;cases z))];exact q) id
 have l:∀t b c,¬W.bad t b->QK X.K H t b c->¬W.bad t b/\QK X.K (L2.upd H a (.lst vs')) t b c:=λt b c n q=>by
  have c:b≠a:=λe=>n (.inl (e ▸ g))
  refine⟨n,?_,λz=>⟨by rw[aw c];exact(q.2 z).1,(q.2 z).2⟩⟩;rcases q.1 with(q|⟨o,q⟩)|q;exact .inl (.inl (by rw[aw c];exact q));exact .inl (.inr ⟨o,by rw[aw c];exact q⟩);exact .inr q
 have k:∀b u,V3 u->H b=some u->L2.upd H a (.lst vs') b=some u:=λb u n q=>by rw[aw (pS q f (by intro z;subst z;exact n))];exact q
 have c:∀b o,H b=some o->∃d,L2.upd H a (.lst vs') b=some d:=λb o q=>by by_cases d:b=a;subst d;exact⟨_,aD⟩;exact⟨o,by rw[aw d];exact q⟩
 refine⟨⟨λj d h=>?_,λj y h=>?_,r.inj,λj b a=>?_,r.ke,λb a=>let ⟨o,q⟩:=r.bt b a;c b o q,λb a=>let ⟨o,q⟩:=r.st b a;c b o q,r.ent.ins h0 f True.intro True.intro,r.tab.upd True.intro (.inr ⟨_,f,(λ_ z=>by cases z),True.intro⟩)⟩,ah.map m l k⟩;obtain⟨v,c,f⟩:=r.val j d h;exact⟨v,c,Den.map m l k d v f⟩;obtain⟨b,o,c,f,n,d⟩:=r.own j y h;exact⟨b,o,c,f,by rw[aw (λe=>(r.kn j b c).2.1.1 (by rw[e];exact g))];exact n,d.map (ah.map m l k) λk c q=>⟨q,λi z=>by rw[aw (λe=>(r.kn _ c q).2.1.1 (by rw[e];exact g))];exact z⟩⟩;obtain⟨h,c,o,f,d⟩:=r.kn j b a;exact⟨h,c,o,by rw[aw (λe=>c.1 (by rw[e];exact g))];exact f,d⟩
def Cm(X:Cx)(sc:Scope)(ns:yah)(RR:Value->Addr->Result->Shared->Prop)(D C:Addr):yaa:=notedBy (model X.prog X.w) X.A (compEnvC sc (dP X.env ns) C X.env) λe a=>RR (.ref D) C (.error e) a
def dY.no{X:Cx}:dY X λ_=>False:=λ_ _ _ _ _ _ _ _ _ _ h=>by obtain⟨_,_,_,_,_,_,_,_,_,_,_,_,_,z⟩:=h;exact z.elim
end
abbrev DM:=Ro->(LI->Prop)->Prop
def Ny(K:yac)(P:yak)(H H':Hp):LI->V->Prop
 |.own d,v=>∃a c,v=.ref a/\H a=none/\K.lookup a=none/\H' a=some (.lst c)/\ah K (λt b=>P t b∨b=a) H' d c
 |.val d,v=>Den K P H' d v
def PEM(X:Cx)(e:Expr)(t:DM):Prop :=
 ∀ (a:yab) (s:Shared) (b:St) (H:Hp) (W:Own) (c:Ro) (Q:LI->Prop),Inv X a b H s->Rel X W H b c->t c Q →
  wpAny (model X.prog X.w) X.A (eval e X.env) (λu e=>∃v c d,Inv X a b c e/\RelV v u/\ar H c/\Ny X.K W.bad H c d v/\Q d) X.xe s
structure gZ(K:yac)(H:Hp)(D:Addr)(n:Nat)(bs:yaj):Prop where
 ok:∀k b,bs k=some b->k<n/\H b=none/\K.lookup b=none/\b≠D
 inj:∀k l b,bs k=some b->bs l=some b->k=l
def gZ.nil{K:yac}{H:Hp}{D:Addr}{n:Nat}:gZ K H D n λ_=>none:=⟨by lia,by lia⟩
def gZ.up{K:yac}{H:Hp}{D:Addr}{n m:Nat}{bs:yaj}(h:gZ K H D n bs)(l:n<=m):gZ K H D m bs:=⟨λk b q=>let ⟨a,r⟩:=h.ok k b q;⟨QZ a l,r⟩,h.inj⟩
def gZ.put{K:yac}{H:Hp}{D a:Addr}{c:List LI}{x:LI}{bs:yaj}(h:gZ K H D c.length bs)(n:H a=none)(k:K.lookup a=none)(d:a≠D)(f:∀k,bs k=some a->False) :
  gZ K H D (c++[x]).length λk=>if k=c.length then some a else bs k:=⟨λl b q=>by
  rw[QX,zCZ];by_cases e:l=c.length;rw[Og e]at q;cases q;exact⟨by lia,n,k,d⟩;rw[Oc e]at q;obtain⟨i,a⟩:=h.ok l b q;exact⟨by lia,a⟩,λl m b d a=>by
  by_cases g:l=c.length;by_cases e:m=c.length;rw[g,e];rw[Og g]at d;rw[Oc e]at a;cases d;exact(f m a).elim;by_cases e:m=c.length;rw[Oc g]at d;rw[Og e]at a;cases a;exact(f l d).elim;rw[Oc g]at d;rw[Oc e]at a;exact h.inj l m b d a⟩
section
variable{K:yac}{P:yak}{H:Hp}{B:yaj}
theorem aY.Sm(f:Den K P H d v):∀{k:Nat} {xs:List LI} {vs:yar},aY K P H B k xs vs->aY K P H B k (xs++[.val d]) (vs++[v])
 |k,[],_,h=>by subst h;simp only[U9,aY];simp_all
 |k,.own i::r,_,h=>by obtain⟨b,d,u,rfl,c,a,g,e⟩:=h;exact⟨b,d,_,rfl,c,a,g,aY.Sm f e⟩
 |k,.val e::r,_,h=>by obtain⟨w,u,rfl,c,a⟩:=h;exact⟨w,_,rfl,c,aY.Sm f a⟩
theorem aY.Sn{a:Addr}:∀{k:Nat} {xs:List LI} {vs:yar},aY K P H B k xs vs->B (k+xs.length)=some a->H a=some (.lst ws)->ah K P H ds ws->aY K P H B k (xs++[.own ds]) (vs++[.ref a])
 |k,[],_,h,f,d,c=>by subst h;exact⟨a,ws,[],rfl,by simp_all,d,c,rfl⟩
 |k,.own l::r,_,h,f,d,c=>by obtain⟨b,e,u,rfl,g,a,j,i⟩:=h;exact⟨b,e,_,rfl,g,a,j,aY.Sn i (by rw[<- f];congr 1;simp;lia) d c⟩
 |k,.val e::r,_,h,f,d,c=>by obtain⟨w,u,rfl,g,a⟩:=h;exact⟨w,_,rfl,g,aY.Sn a (by rw[<- f];congr 1;simp;lia) d c⟩
end
section
variable{X:Cx}
def Rel.ban{o:HO}(r:Rel X W H σ ρ)(sm:ar H H')(u:H p=none)(y:X.K.lookup p=none)(h':H' p=some o) :
  Rel X ⟨λb=>W.B b∨b=p,W.O,W.S⟩ H' σ ρ/\∀ds vs,ah X.K W.bad H ds vs->ah X.K (Own.bad ⟨λb=>W.B b∨b=p,W.O,W.S⟩) H' ds vs:=by
 have h:∀t a,Own.bad ⟨λb=>W.B b∨b=p,W.O,W.S⟩ t a->W.bad t a∨a=p:=λt a z=>by
  rcases z with(z|z)|z|z;exact .inl (.inl z);exact .inr z;exact .inl (.inr (.inl z));exact .inl (.inr (.inr z))
 have g:∀{t:Bool} {a:Addr} {c:yar},QK X.K H t a c->a≠p:=fun {t a c} q z=>by
  rcases q.1 with(q|⟨o,q⟩)|⟨o,Oe,n,q,_⟩
  all_goals lia
 have k:∀(d:D) (v:V),Den X.K W.bad H d v->Den X.K (Own.bad ⟨λb=>W.B b∨b=p,W.O,W.S⟩) H' d v:=Den.map (λ_ _ q=>OT.same sm q) (λt a c n q=>⟨λz=>(h t a z).elim n (g q),q.same sm⟩) (λa _ n q=>sm.kp a _ q n.nt);have f:∀(ds:yas) (e:yar),ah X.K W.bad H ds e->ah X.K (Own.bad ⟨λb=>W.B b∨b=p,W.O,W.S⟩) H' ds e:=ah.map (λ_ _ q=>OT.same sm q) (λt a c n q=>⟨λz=>(h t a z).elim n (g q),q.same sm⟩) (λa _ n q=>sm.kp a _ q n.nt);refine⟨⟨λj d h=>?_,λj x h=>?_,r.inj,λj a e=>?_,r.ke,λa h=>?_,λa h=>let ⟨_,q⟩:=r.st a h;sm.ex q,r.ent.trans sm,r.tab.same sm⟩,f⟩;obtain⟨w,e,g⟩:=r.val j d h
 simp_all
 obtain⟨a,c,e,g,i,d⟩:=r.own j x h;exact⟨a,c,e,g,sm.kp _ _ i d.VE.nt,d.map f λl b q=>⟨q,λ_ z=>sm _ _ z⟩⟩;obtain⟨f,⟨s,m⟩,c,d,b⟩:=r.kn j a e;exact⟨f,by lia,c,sm.kp _ _ d b.nt,b⟩;rcases h with h|h;obtain⟨_,q⟩:=r.bt a h;exact sm.ex q;grind
end
section
variable{X:Cx}{pins:yab}{σ:St}{H:Hp}{s:Shared}{sc:Scope}{ns:yah}{js:yag}{xs:yah}{fp:yae}
def U3(X:Cx)(sc:Scope)(ns xs:yah)(cl:List (Str×Addr))(fn:Str->Bool)(C:Addr)(b:Shared)(c:Hp)(fp:yae)(a:yaa):Cx :=
 {X with N:=xs++ns,OG:=b,OR:=c,env:=compEnvC sc cl C X.env,outer:=X.stack,stack:=X.stack,ex:=fp,fn:=fn,pn:=[],xe:=a}
def d5(X:Cx)(sc:Scope)(cl:List (Str×Addr))(RR:Value->Addr->Result->Shared->Prop)(D C:Addr):yaa:=notedBy (model X.prog X.w) X.A (compEnvC sc cl C X.env) λe a=>RR (.ref D) C (.error e) a
set_option tactic.hygienic true in
def Dx{m:Expr}{QV:Heap}(hc:X.calm=true)
  (he:PEM (U3 X sc ns xs cl fn C s H fp (d5 X sc cl RR w C)) elt te) (ht:Xy (U3 X sc ns xs cl fn C s H fp (d5 X sc cl RR w C)) ifs tc) (hg:WL (U3 X sc ns xs cl fn C s H fp (d5 X sc cl RR w C)) tg g) (I:Inv X pins σ H s) (r:Rel X W H σ ρ) (T:Turn X.prog X.w X.K tg J fp it tn) (st:tn 0 s.heap) (VH:∀b∈fp,dN X pins H b) (yd:YD X.K W H J ds) (hz:ds.length<=sizeLine)
  (Pv:Nat->List LI->Prop) (p0:Pv 0 []) (step:∀j d f a,ds[j]?=some d->Pv j f->jY xs.length (js.map (bA ρ)) a->g d a λL=>jY xs.length (js.map (bA ρ)) L/\tc L λb=>if b=true then te L (λe=>Pv (j+1) (f++[e]))else Pv (j+1) f)
  (hRR:∀(M:Shared) (H':Hp) (h:yam) (f:List LI) (bs:yaj),Inv X pins σ H' M->ar H H'->M.heap.Ns C h->H' C=none->C≠X.env.locals->X.OG.heap.objs.size<=C->(∀y c,X.env.cells.lookup y=some c->c≠C)->(∀p∈X.pn++pins,p.1≠C) →
   (H w=none/\X.K.lookup w=none/\∃vs,H' w=some (.lst vs)/\gZ X.K H w f.length bs/\(∀k b,bs k=some b->∃A,H' b=some (.lst A))/\aY X.K (λt b=>W.bad t b∨b=w∨∃ k,bs k=some b) H' bs 0 f vs)->Pv ds.length f->RR (.ref w) C (.ok .next) M)
  (WO:H w=none) (hKD:X.K.lookup w=none) (Y:s.heap.objs.size<=w) (To:s.heap.objs.size<=C) (old:∀b o,s.heap.get? b=some o->QV.get? b=some o) (N:∀y c,cl.lookup y=some c->X.env.cells.lookup y=some c∨s.heap.objs.size<=c)
  (I1:Inv (U3 X sc ns xs cl fn C s H fp (d5 X sc cl RR w C)) [] (List.replicate xs.length none++js.map (j8 σ)) (L2.upd H w (.lst [])) {s with heap:=QV,toks:=s.toks+([]:List (Str×Value)).length}) :
  codeAny (model X.prog X.w) X.A (.compStart (.ListComp elt [⟨tg,m,ifs,0⟩] sc pos) 0 (.ref it) (.ref w) (compEnvC sc cl C X.env)) (RR (.ref w) C) {s with heap:=QV,toks:=s.toks+([]:List (Str×Value)).length}:=by
 have ZO:∀b∈fp,∃o,s.heap.get? b=some o:=λb g=>let ⟨o,e,_⟩:=T.obj 0 s.heap st b g;⟨o,e⟩
 have h:∀{a:Addr} {ws:yar},SqL X.K H a ws->a≠w:=fun {a ws} q z=>by
  subst z;rcases q with(q|⟨o,q⟩)|⟨o,Oe,n,q,_⟩;rw[WO]at q;cases q;rw[WO]at q;cases q;rw[hKD]at q;cases q
 let B:Own:=⟨λa=>W.bad false a∨a=w,λ_=>none,W.S⟩
 have Tj:∀t a,B.bad t a↔(W.bad t a∨a=w):=λt a=>⟨λz=>by
  rcases z with(z|z)|⟨_,q⟩| ⟨U,Q⟩;exact .inl (Own.RJ z);exact .inr z;cases q;exact .inl (.inr (.inr ⟨U,Q⟩)),λz=>by
  rcases z with z|z;rcases z with z|z|z;exact .inl (.inl (.inl z));exact .inl (.inl (.inr (.inl z)));exact .inr (.inr z);exact .inl (.inr z)⟩
 have hT:∀{H':Hp},ar H H'->∀a vs,OT X.K H a vs->OT X.K H' a vs:=λsm a vs q=>OT.same sm q
 have hL:∀{H':Hp},ar H H'->∀t a vs,¬W.bad t a->QK X.K H t a vs->¬B.bad t a/\QK X.K H' t a vs:=λsm t a vs n q=>⟨λz=>((Tj t a).mp z).elim n (h q.1),q.same sm⟩
 have O:Rel (U3 X sc ns xs cl fn C s H fp (d5 X sc cl RR w C)) B (L2.upd H w (.lst [])) (List.replicate xs.length none++js.map (j8 σ)) (List.replicate xs.length none++js.map (bA ρ)):=by
  have sm:ar H (L2.upd H w (.lst [])):=ar.upd WO;have J:∀{i:Nat} {z:Sl},(List.replicate xs.length none++js.map (bA ρ))[i]?=some (some z)->¬i<xs.length/\(js.map (bA ρ))[i - xs.length]?=some (some z):=fun {i z} h=>by by_cases G:i<xs.length;rw[UO (by simpa using G),zCu,Og G]at h;cases h;rw[Vp (by simpa using G)]at h;exact⟨G,by simpa using h⟩
  refine⟨λi d h=>?_,λi x h=>?_,λi j a h _=>(by cases h),λi a h=>(by cases h),λi a h=>(by cases h),λa h=>?_,λa h=>?_,sm,r.tab.same sm⟩;obtain⟨G,l⟩:=J h;rw[PO]at l;cases e:js[i - xs.length]? with
  |none=>rw[e]at l;cases l
  |some j =>
   rw[e]at l;have E:bA ρ j=some (.val d):=SO l;have h5:ρ[j]?=some (some (.val d)):=by unfold bA at E;split at E;rename_i u q;cases E;exact q;cases E
   obtain⟨v,e1,e2⟩:=r.val j d h5;refine⟨v,?_,Den.map (hT sm) (hL sm) (λa _ n q=>sm.kp a _ q n.nt) d v e2⟩;rw[Vp (by simpa using G)];show(js.map (j8 σ))[i - (List.replicate xs.length (none:Option V)).length]?=some (some v);rw[List.length_replicate,PO,e];show some (j8 σ j)=some (some v);unfold j8;rw[e1]
  obtain⟨G,l⟩:=J h;rw[PO]at l;cases e:js[i - xs.length]? with
  |none=>rw[e]at l;cases l
  |some j =>
   rw[e]at l;have E:bA ρ j=some (.ob x):=SO l;unfold bA at E;split at E<;>cases E
  rcases h with h|h;obtain⟨o,q⟩:=r.tracked false a h;exact sm.ex q;rw[h];exact⟨_,aD⟩;obtain⟨o,q⟩:=r.st a h;exact sm.ex q
 have Wb:∀{H':Hp},(∀b∈fp,H' b=none)->∀b∈fp,dN (U3 X sc ns xs cl fn C s H fp (d5 X sc cl RR w C)) [] H' b:=λhn b g=>by
  obtain⟨f0,r,f2,J,l,G⟩:=VH b g;obtain⟨o,j⟩:=ZO b g;refine⟨hn b g,λz=>?_,λz=>?_,.inl g,λy c e z=>(N y c e).elim (λe=>l y c e z) λq=>absurd (OY j) (by rw[<- z];exact WA.mpr q),λp hp=>absurd (show p∈([]:yab)from hp) (by simp)⟩;have N:b=C:=z;have QW:=OY j;rw[N]at QW;exact absurd (QZ QW To) (VR _);rcases OK.mp (I.Si b z)with e|e;exact r e;exact f2 e
 have VD:∀b∈fp,(b∈X.ex∨X.OG.heap.objs.size<=b)/\b≠X.env.locals/\(∀x c,X.env.cells.lookup x=some c->c≠b)/\∀p∈X.pn++pins,p.1≠b:=λb g=>by obtain⟨f0,r,f2,J,l,G⟩:=VH b g;exact⟨J,r,l,G⟩
 have BD0:B.B w:=.inr rfl;have J:∀l:Shared,l={s with heap:=QV,toks:=s.toks+([]:List (Str×Value)).length} →
   codeAny (model X.prog X.w) X.A (.compLoop (.ListComp elt [⟨tg,m,ifs,0⟩] sc pos) 0 (.ref it) (.ref w) (compEnvC sc cl C X.env)) (RR (.ref w) C) l:=by
  rintro l rfl;refine Dv (λn M=>∃(i:Nat) (N:Own) (Ut:St) (L:Ro) (H':Hp) (f:List LI) (vs:yar) (bs:yaj),n=ds.length - i/\i<=ds.length/\Inv (U3 X sc ns xs cl fn C s H fp (d5 X sc cl RR w C)) [] Ut H' M/\tn i M.heap/\(∀b∈fp,H' b=none) ∧
   H' w=some (.lst vs)/\(N.B=(λa=>B.B a∨∃ k,bs k=some a)/\N.S=B.S)/\gZ X.K H w f.length bs/\(∀k b,bs k=some b->∃A,H' b=some (.lst A))/\aY X.K N.bad H' bs 0 f vs/\ar H H'/\Rel (U3 X sc ns xs cl fn C s H fp (d5 X sc cl RR w C)) N H' Ut L/\jY xs.length (js.map (bA ρ)) L/\Pv i f/\f.length<=i) ?_ ds.length
   ⟨0,B,_,_,_,[],[],λ_=>none,by simp,QS _,I1,T.keep 0 s.heap QV st (λb g o e=>old b o e),λb g=>?_,aD,⟨by funext a;simp,rfl⟩,gZ.nil,(λ_ _ h=>by cases h),by simp only[aY],ar.upd WO,O,⟨_,by simp,rfl⟩,p0,O5 _⟩
  rotate_left
  obtain⟨o,j⟩:=ZO b g;rw[aw (λz=>absurd (OY j) (by rw[z];exact WA.mpr Y))];exact(VH b g).1;rintro n s3 ⟨i,N,Ut,L,H3,f,vs,bs,en,hle,I3,X8,X9,hD3,G,Y,hls,M,Yf,r,O,p3,ol⟩;have x:∀{j:Own} {H':Hp} {m:St} {l:Ro},(j.B=(λa=>B.B a∨∃ k,bs k=some a)/\j.S=B.S)->Rel (U3 X sc ns xs cl fn C s H fp (d5 X sc cl RR w C)) j H' m l->ar H H'->∀t a vs,¬W.bad t a->QK X.K H t a vs->¬j.bad t a/\QK X.K H' t a vs:=fun {j H' m l} hw rl sm t a vs n q=>by
   refine⟨λz=>?_,q.same sm⟩;rcases z with z|⟨k,z⟩| ⟨U,Q⟩;rw[hw.1]at z;rcases z with z|⟨k,z⟩;exact(hL sm t a vs n q).1 (.inl z);obtain⟨_,l,kk,_⟩:=Y.ok k a z;rcases q.1 with(j|⟨o,j⟩)|⟨o,Oe,m,j,_⟩;rw[l]at j;cases j;rw[l]at j;cases j;rw[kk]at j;cases j;have l:H a=none:=rl.ke k a z;rcases q.1 with(j|⟨o,j⟩)|⟨o,Oe,m,j,_⟩;rw[l]at j;cases j;rw[l]at j;cases j;have kk:X.K.lookup a=none:=(rl.kn k a z).1;rw[kk]at j;cases j;rw[hw.2]at Q;exact(hL sm t a vs n q).1 (.inr (.inr ⟨U,Q⟩))
  obtain⟨j,U,ys⟩:=yd N.bad H3 (hT Yf) (x G r Yf) (λa _ n q=>Yf.kp a _ q n.nt) i;by_cases QW:i<ds.length;refine Oj (T.item (U3 X sc ns xs cl fn C s H fp (d5 X sc cl RR w C)) rfl rfl rfl hc i [] s3 _ H3 _ I3 (Wb X9) X8 (j QW)) λrr s4 ⟨u,hr,E⟩=>?_
  subst hr;refine Oj E λ_ s5 x=>?_
  obtain⟨Q,H5,I5,r5,E,VZ,j⟩:=x;obtain⟨e5,d,hd,RA⟩:=U Q H5 E QW;have E:=I5.pinned (Wb j) (T.obj _ _ VZ);have Yb:=r.same e5;have U:ar H H5:=Yf.trans e5;refine R9 (hg _ s5 Ut H5 N L d Q u _ E Yb r5 RA (step i d f L hd p3 O)) (λ_ s6 x=>?_) (λ_ _ z=>z);obtain⟨j,YG,H6,O,I6,E,r,L,q6⟩:=x;have u:j.B=(λa=>B.B a∨∃ k,bs k=some a)/\j.S=B.S:=⟨E.B.trans G.1,E.S.trans G.2⟩;have Q:ar H H6:=⟨λb o e n=>E.kp b o (λk z=>by have l:H b=none:=Yb.ke k b z;rw[e]at l;cases l) (U.kp b o e n) n,(λb l e=>by obtain⟨n,e1⟩:=U.tb b l e;obtain⟨l,e2⟩:=E.tb b _ e1;exact⟨n++l,by rw[e2,Array.append_assoc]⟩),λh=>E.ok (U.ok h)⟩;have BD:B.B w:=.inr rfl;have U:H6 w=some (.lst vs):=E.keep w _ (λk z=>(Yb.kn k w z).2.1.1 (by rw[G.1];exact .inl BD)) (e5 _ _ hD3);have h:aY X.K N.bad H5 bs 0 f vs:=M.map (λ_ _ z=>z.same e5) λ_ _ q=>⟨q,λ_ z=>e5 _ _ z⟩
  have YU:∀k b,bs k=some b->∃A,H6 b=some (.lst A):=λk b q=>let ⟨A,z⟩:=hls k b q;⟨A,E.keep b _ (λl y=>(Yb.kn l b y).2.1.1 (by rw[G.1];exact .inr ⟨k,q⟩)) (e5 _ _ z)⟩
  have n:aY X.K j.bad H6 bs 0 f vs:=h.map (λ_ _ z=>ah.fwd Yb r E z) λk b q=>⟨q,λA z=>E.keep b _ (λl y=>(Yb.kn l b y).2.1.1 (by rw[G.1];exact .inr ⟨k,q⟩)) z⟩
  have Yg:∀{h:St} {N:Hp} {E:Shared},Inv (U3 X sc ns xs cl fn C s H fp (d5 X sc cl RR w C)) ([]++oK fp s5.heap) h N E->tn (i+1) E.heap/\∀b∈fp,N b=none:=fun {h N E} l=>by refine⟨T.keep _ _ _ VZ λb g o e=>(l.pin (b,o) (Rw _ (Rw _ (fi g e)))).1,λb g=>?_⟩;obtain⟨o,e,_⟩:=T.obj _ _ VZ b g;exact(l.pin (b,o) (Rw _ (Rw _ (fi g e)))).2.1
  refine R9 (ht _ s6 _ H6 j _ _ I6 r q6) (λb E x=>?_) (λ_ _ z=>z);obtain⟨N,l,h,q7⟩:=x;cases b with
  |false =>
   rw[Oc UQ]at q7;rw[Oc UQ];obtain⟨t7,f7⟩:=Yg l;exact⟨ds.length - (i+1),by lia,i+1,j,YG,O,N,f,vs,bs,rfl,QW,l.PC,t7,f7,h _ _ U,u,Y,(λk b q=>let ⟨A,z⟩:=YU k b q;⟨A,h _ _ z⟩),n.map (λ_ _ z=>z.same h) (λ_ _ q=>⟨q,λ_ z=>h _ _ z⟩),Q.trans h,r.same h,L,q7,by lia⟩
  |true =>
   rw[Og rfl]at q7;rw[Og rfl];refine R9 (he _ E _ N j _ _ l (r.same h) q7) (λu8 s8 x=>?_) (λ_ _ z=>z);obtain⟨v8,H8,e8,I8,r8,ZP,hd8,q8⟩:=x;have XA:=h.trans ZP;have E:=XA _ _ U;have l:=r.same h;have YV:aY X.K j.bad N bs 0 f vs:=n.map (λ_ _ z=>z.same h) λ_ _ q=>⟨q,λ_ z=>h _ _ z⟩
   have smH:ar H H8:=Q.trans XA;obtain⟨r,N,hW8,YW,hls8,rl8,hds8,n⟩:∃(r:Own) (N:yaj),(r.B=(λa=>B.B a∨∃ k,N k=some a)/\r.S=B.S)/\gZ X.K H w (f++[e8]).length N/\(∀k b,N k=some b->∃A,H8 b=some (.lst A))/\Rel (U3 X sc ns xs cl fn C s H fp (d5 X sc cl RR w C)) r H8 YG O/\aY X.K r.bad H8 N 0 (f++[e8]) (vs++[v8])/\vs.length=f.length:=by
    have ln:=YV.len;cases e8 with
    |val d =>
     refine⟨j,bs,u,Y.up (by simp),(λk b q=>let ⟨A,z⟩:=YU k b q;⟨A,XA _ _ z⟩),l.same ZP,?_,ln⟩;exact(YV.map (λ_ _ z=>z.same ZP) λ_ _ q=>⟨q,λ_ z=>ZP _ _ z⟩).Sm hd8
    |own VG =>
     obtain⟨a,ws,rfl,d,ka,B,UC⟩:=hd8;obtain⟨rb,db⟩:=l.ban ZP d ka B;have nH:H a=none:=(Q.trans h).free d;have Q:a≠w:=λz=>by rw[z,h _ _ U]at d;cases d
     refine⟨⟨λb=>j.B b∨b=a,j.O,j.S⟩,λk=>if k=f.length then some a else bs k,⟨?_,u.2⟩,Y.put nH ka Q (λk z=>?_),(λk b q=>?_),rb,?_,ln⟩
     funext b
     show(j.B b∨b=a)=_;rw[u.1];refine propext ⟨λz=>?_,λz=>?_⟩;rcases z with(z|⟨k,z⟩)|z;exact .inl z;exact .inr ⟨k,by show(if k=f.length then some a else bs k)=some b;rw[Oc (PY (Y.ok k b z).1)];exact z⟩;exact .inr ⟨f.length,by show(if f.length=f.length then some a else bs f.length)=some b;rw[Og rfl,z]⟩;rcases z with z|⟨k,z⟩;exact .inl (.inl z);have z:(if k=f.length then some a else bs k)=some b:=z;by_cases h:k=f.length;rw[Og h]at z;cases z;exact .inr rfl;rw[Oc h]at z;exact .inl (.inr ⟨k,z⟩);obtain⟨o,j⟩:=l.bt a (by rw[u.1];exact .inr ⟨k,z⟩);rw[j]at d;cases d;have q:(if k=f.length then some a else bs k)=some b:=q;by_cases h:k=f.length;rw[Og h]at q;cases q;exact⟨_,B⟩;rw[Oc h]at q;obtain⟨A,z⟩:=YU k b q;exact⟨A,XA _ _ z⟩;refine aY.Sn (YV.map (B':=λk=>if k=f.length then some a else bs k) (λds vs z=>db ds vs z) λk b q=>⟨by show(if k=f.length then some a else bs k)=some b;rw[Oc (PY (Y.ok k b q).1)];exact q,λ_ z=>ZP _ _ z⟩) (by simp) B (UC.OC λt b z=>?_);rcases z with(z|z)|z|z;exact .inl (.inl z);exact .inr z;exact .inl (.inr (.inl z));exact .inl (.inr (.inr z))
   have j:r.B w:=by rw[hW8.1];exact .inl BD
   refine R9 (oG (X:=U3 X sc ns xs cl fn C s H fp (d5 X sc cl RR w C)) _ s8 _ H8 (.ref w) [v8] (.ref w) [u8] (λ_ H'=>H'=L2.upd H8 w (.lst (vs++[v8]))) I8 rfl (.cons r8 .nil) ⟨w,vs,v8,rfl,rfl,E,by rw[n];lia,rfl⟩) (λ_ s9 x=>?_) (λ_ _ z=>z);obtain⟨v9,H9,l,_,d⟩:=x;subst d;obtain⟨n,u⟩:=Yg l;obtain⟨d,h⟩:=rl8.mutB (vs':=vs++[v8]) j E WO;exact⟨ds.length - (i+1),by lia,i+1,r,YG,O,_,f++[e8],vs++[v8],N,rfl,QW,l.PC,n,u,aD,hW8,YW,(λk b q=>let ⟨A,z⟩:=hls8 k b q;⟨A,by rw[aw (YW.ok k b q).2.2.2];exact z⟩),hds8.map h (λk b q=>⟨q,λA z=>by rw[aw (YW.ok k b q).2.2.2];exact z⟩),smH.ins WO E True.intro True.intro,d,L,q8,by rw[QX,zCZ];lia⟩
  have e:i=ds.length:=by lia
  refine Oj (T.done (U3 X sc ns xs cl fn C s H fp (d5 X sc cl RR w C)) rfl rfl rfl hc i [] s3 _ H3 _ I3 (Wb X9) X8 (ys (by lia))) λrr s4 x=>?_
  obtain⟨hr,d⟩:=x;subst hr;subst e;have i:Inv X pins σ H3 s4:=I.TR d.os d.base d.OB d.bare VD;obtain⟨m,h,_⟩:=d.loc;exact hRR s4 H3 m f bs i Yf h d.free (λz=>absurd I.lt (by rw[<- z];exact WA.mpr To)) (PL I.sz To) (λy c e z=>by
   obtain⟨v,q⟩:=I.cell y c e;exact absurd q.lt (by rw[z];exact WA.mpr To)) (λp hp z=>absurd (OY (I.pin p hp).1) (by rw[z];exact WA.mpr To))
   ⟨WO,hKD,_,hD3,Y,hls,M.map (λ_ _ z=>z.OC λt a z=>(by
    rcases z with z|z;rcases(Tj t a).mpr (.inl z)with q|⟨k,q⟩| q;exact .inl (by rw[G.1];exact .inl q);cases q;exact .inr (.inr ⟨q.1,by rw[G.2];exact q.2⟩);rcases z with z|z;exact .inl (by rw[G.1];exact .inl (z ▸ BD0));exact .inl (by rw[G.1];exact .inr z))) λ_ _ q=>⟨q,λ_ z=>z⟩⟩ p3
 exact codeAny_compStart_list (J _ rfl) (T.self _ 0 _ _ _ (T.keep 0 s.heap QV st (λb g o e=>old b o e)) (J _ rfl))
set_option tactic.hygienic true in
def zI{u m w:Expr}{q:yai}{pos:Pos}{g:DG}{te:DM}{tc:DT}{W:Own}{ρ:Ro}{J:It}{M:Addr}{tn:Nat->Heap->Prop}{ds:yas}{E:yaa}{RR:Value->Addr->Result->Shared->Prop}(hc:X.calm=true)(S:Xx X.env.scope sc xs ns)
  (hj:js.length=ns.length/\∀(i:Nat) (j:Nat) (n:Str),js[i]?=some j->ns[i]?=some n->X.N[j]?=some n)
  {Ed:Value->Prop} (he:∀(C:Addr) (h:Shared) (l:Hp) (fp:yae) (f:yaa),dY (bu X sc ns xs C h l fp f) Ed->PEM (bu X sc ns xs C h l fp f) u te) (ht:∀(C:Addr) (h:Shared) (l:Hp) (fp:yae) (f:yaa),dY (bu X sc ns xs C h l fp f) Ed->Xy (bu X sc ns xs C h l fp f) q tc)
  (N:∀D C:Addr,dY (bu X sc ns xs C s H fp (Cm X sc ns RR D C)) Ed) (I:Inv X pins σ H s) (r:Rel X W H σ ρ) (hg:∀(C:Addr) (h:Shared) (l:Hp) (fp:yae) (f:yaa),WL (bu X sc ns xs C h l fp f) w g) (T:Turn X.prog X.w X.K w J fp M tn) (st:tn 0 s.heap) (U:∀b∈fp,dN X pins H b) (Y:YD X.K W H J ds) (hz:ds.length<=sizeLine)
  (Pv:Nat->List LI->Prop) (p0:Pv 0 []) (step:∀j d a G,ds[j]?=some d->Pv j a->jY xs.length (js.map (bA ρ)) G->g d G λz=>jY xs.length (js.map (bA ρ)) z/\tc z λb=>if b=true then te z (λe=>Pv (j+1) (a++[e]))else Pv (j+1) a)
  (A:∀(D C:Addr) (x:Shared) (H':Hp) (O:yam) (a:List LI) (bs:yaj),Inv X pins σ H' x->ar H H'->x.heap.Ns C O->H' C=none->C≠X.env.locals->X.OG.heap.objs.size<=C->(∀y c,X.env.cells.lookup y=some c->c≠C)->(∀p∈X.pn++pins,p.1≠C) →
   (H D=none/\X.K.lookup D=none/\∃vs,H' D=some (.lst vs)/\gZ X.K H D a.length bs/\(∀k b,bs k=some b->∃L,H' b=some (.lst L))/\aY X.K (λt b=>W.bad t b∨b=D∨∃ k,bs k=some b) H' bs 0 a vs)->Pv ds.length a->RR (.ref D) C (.ok .next) x) :
  wpAny (model X.prog X.w) X.A (newList []) (λo Ri=>wpAny (model X.prog X.w) X.A (newFunctionEnv sc X.env.globals (dP X.env ns) [] X.env.qual none .none (some X.env)) (λB Q =>
   codeAny (model X.prog X.w) X.A (.compStart (.ListComp u [⟨w,m,q,0⟩] sc pos) 0 (.ref M) o {B with scope:=relabel sc X.env}) (RR o B.locals) Q) E Ri) E s:=by
 refine Ww (wpAny_newFunctionEnv S.V8 (by intro y a;simp at a) (λk G j=>?_) S.kind);dsimp only at G j ⊢;generalize XB:s.heap.push {cls:=.type "list", dict:=none,data:=.seq ([]:yad).toArray}=HP at G j ⊢;have B:HP.objs.size=s.heap.objs.size+1:=by rw[<- XB,Xf]
 have f:s.heap.objs.size≠HP.objs.size:=by rw[B];exact PY (VP _)
 have L:s.heap.objs.size<=HP.objs.size:=by rw[B];exact Nat.le_succ _
 have h:∀b,b<s.heap.objs.size->b≠HP.objs.size:=λb p=>by rw[B];exact PY (XU p)
 have a:∀b o,s.heap.get? b=some o->k.get? b=some o:=λb o e=>j.extBut b o (h b (OY e)) (Po _ (XB ▸ Po _ e))
 have O:k.get? s.heap.objs.size=some {cls:=.type "list", data:=.seq ([]:yad).toArray}:=j.extBut _ _ f (Po _ (XB ▸ Rh _ rfl));generalize eD:s.heap.objs.size=D at f O;generalize eC:HP.objs.size=C at *;have Q:H D=none:=by rw[<- eD];exact I.OB.fresh (O5 _)
 have t:X.K.lookup D=none:=by rw[<- eD];exact Inv.Q5 I
 have x:H C=none:=I.OB.fresh L;have ZO:∀b∈fp,∃o,s.heap.get? b=some o:=λb p=>let ⟨o,e,_⟩:=T.obj 0 s.heap st b p;⟨o,e⟩
 have d:s.heap.objs.size<=D:=Nat.le_of_eq eD;have l:Q0 X.prog X.w (L2.upd H D (.lst [])) k:=I.OB.laid a d ⟨QS _,[],0,.nil,O⟩;have i:∀o,L2.upd H D o C=none:=λo=>by rw[aw (Ne.symm f)];exact x
 have I1:Inv (bu X sc ns xs C s H fp (Cm X sc ns RR D C)) [] (List.replicate xs.length none++js.map (j8 σ)) (L2.upd H D (.lst [])) {s with heap:=k,toks:=s.toks+([]:List (Str×Value)).length} :=
  Inv.comp I S hj U ZO L rfl I.bare a G (i _) (ar.upd Q) (λb o e n=>by rw[aw (λz=>absurd (OY e) (by rw[z];exact WA.mpr d))];exact n) l
 exact Dx (cl:=dP X.env ns) (fn:=λ_=>false) hc (he C s H fp _ (N D C)) (ht C s H fp _ (N D C)) (hg C s H fp _) I r T st U Y hz Pv p0 step (A D C) Q t d L a (λy c e=>.inl (ml e)) I1
end
theorem aY.vals{K:yac}{P:yak}{H:Hp}{B:yaj}:∀{ds:yas} {k:Nat} {vs:yar},aY K P H B k (ds.map .val) vs->ah K P H ds vs
 |[],_,_,h=>by subst h;exact ah.nil
 |d::r,_,_,h=>by obtain⟨v,u,rfl,b,a⟩:=h;exact ah.cons b a.vals
def Lu(h:OD X e te):PEM X e λρ Q=>te ρ λd=>Q (.val d):=λa s b H W ρ Q I r t=>R9 (h a s b H W ρ _ I r t) (λ_ _ e=>(by obtain⟨v,f,d,a,b,c,q,z⟩:=e;exact⟨v,f,.val d,a,b,c,q,z⟩)) λ_ _ z=>z
section
variable{X:Cx}{pins:yab}{σ:St}{H:Hp}{s:Shared}{sc:Scope}{ns:yah}{js:yag}{xs:yah}{fp:yae}
def mn{o k x:Expr}{l:yai}{pos:Pos}{g:DG}{te:DE}{tc:DT}{W:Own}{ρ:Ro}{J:It}{G:Addr}{tn:Nat->Heap->Prop}{ds:yas}{E:yaa}{RR:Value->Addr->Result->Shared->Prop}(hc:X.calm=true)(S:Xx X.env.scope sc xs ns)
  (Y:js.length=ns.length/\∀(i:Nat) (j:Nat) (n:Str),js[i]?=some j->ns[i]?=some n->X.N[j]?=some n)
  {Ed:Value->Prop} (he:∀(C:Addr) (h:Shared) (m:Hp) (fp:yae) (f:yaa),dY (bu X sc ns xs C h m fp f) Ed->OD (bu X sc ns xs C h m fp f) o te) (U:∀(C:Addr) (h:Shared) (m:Hp) (fp:yae) (f:yaa),dY (bu X sc ns xs C h m fp f) Ed->Xy (bu X sc ns xs C h m fp f) l tc)
  (O:∀D C:Addr,dY (bu X sc ns xs C s H fp (Cm X sc ns RR D C)) Ed) (I:Inv X pins σ H s) (r:Rel X W H σ ρ) (hg:∀(C:Addr) (h:Shared) (m:Hp) (fp:yae) (f:yaa),WL (bu X sc ns xs C h m fp f) x g) (T:Turn X.prog X.w X.K x J fp G tn) (st:tn 0 s.heap) (VH:∀b∈fp,dN X pins H b) (M:YD X.K W H J ds) (hz:ds.length<=sizeLine)
  (Pv:Nat->yas->Prop) (N:Pv 0 []) (step:∀j d a w,ds[j]?=some d->Pv j a->jY xs.length (js.map (bA ρ)) w->g d w λB=>jY xs.length (js.map (bA ρ)) B/\tc B λb=>if b=true then te B (λe=>Pv (j+1) (a++[e]))else Pv (j+1) a)
  (A:∀(D C:Addr) (u:Shared) (H':Hp) (z:yam) (a:List PD.D),Inv X pins σ H' u->ar H H'->u.heap.Ns C z->H' C=none->C≠X.env.locals->X.OG.heap.objs.size<=C->(∀y c,X.env.cells.lookup y=some c->c≠C)->(∀p∈X.pn++pins,p.1≠C) →
   (H D=none/\X.K.lookup D=none/\∃vs,H' D=some (.lst vs)/\ah X.K (λt b=>W.bad t b∨b=D) H' a vs)->Pv ds.length a->RR (.ref D) C (.ok .next) u) :
  wpAny (model X.prog X.w) X.A (newList []) (λq Ri=>wpAny (model X.prog X.w) X.A (newFunctionEnv sc X.env.globals (dP X.env ns) [] X.env.qual none .none (some X.env)) (λL Q =>
   codeAny (model X.prog X.w) X.A (.compStart (.ListComp o [⟨x,k,l,0⟩] sc pos) 0 (.ref G) q {L with scope:=relabel sc X.env}) (RR q L.locals) Q) E Ri) E s:=by
 have e:∀k l,(∃q,l.map LI.val=q.map LI.val/\Pv k q)=Pv k l:=λk l=>propext ⟨λc=>(by obtain⟨q,a,b⟩:=c;exact(List.map_inj_right (λ_ _=>LI.val.inj)).mp a ▸ b),λb=>⟨l,rfl,b⟩⟩
 refine zI (te:=λρ Q=>te ρ λd=>Q (.val d)) hc S Y (λC h m fp f p=>Lu (he C h m fp f p)) U O I r hg T st VH M hz (λk o=>∃q,o=q.map LI.val/\Pv k q) ⟨[],rfl,N⟩ ?_ ?_;rintro j d _ w c ⟨q,rfl,a⟩ cr;have f:∀x,q.map LI.val++[LI.val x]=(q++[x]).map LI.val:=λx=>by rw[Q1];rfl
 simp only[f,e];exact step j d q w c a cr;rintro D C u H' z _ bs m sm l k j i h g ⟨f,e,vs,d,_,_,c⟩ ⟨q,rfl,a⟩;exact A D C u H' z q m sm l k j i h g ⟨f,e,vs,d,c.vals.OC λt b z=>z.elim .inl λz=>.inr (.inl z)⟩ a
def yj{X:Cx}{sc:Scope}{ns:yah}{x:Str}{fp:yae}(S:Xx X.env.scope sc [x] ns):WL (bu X sc ns [x] C Oi OA fp XE) (.Name x px) (oC 0) :=
 have a:(compEnvC sc (dP X.env ns) C X.env).scope.names.lookup x=some .local:=lookup_relabel_local (S.tgt x (by simp))
 aZ (X:=bu X sc ns [x] C Oi OA fp XE) 0 S.nd rfl (.inl a) (.inr a)
def Il{ds:yas}{Pv:Nat->yas->Prop}{tc:DT}{te:DE}{a:Ro}(step:∀j d c,ds[j]?=some d->Pv j c->tc (some (.val d)::a) λb=>if b=true then te (some (.val d)::a) (λe=>Pv (j+1) (c++[e]))else Pv (j+1) c) :
  ∀ j d c f,ds[j]?=some d->Pv j c->jY 1 a f->oC 0 d f λg=>jY 1 a g/\tc g λb=>if b=true then te g (λe=>Pv (j+1) (c++[e]))else Pv (j+1) c:=by
 rintro j d c f f b ⟨a,e,rfl⟩
 match a,e with
 |[a],_=>exact⟨⟨[some (.val d)],rfl,rfl⟩,step j d c f b⟩
def pJ(wi:DA)(js:yag)(tc:DT)(te:DE):DE:=λc Q=>wi c λf=>f.length<=sizeLine/\∃Pv:Nat->yas->Prop,Pv 0 [] ∧
 (∀j d a,f[j]?=some d->Pv j a->tc (some (.val d)::js.map (bA c)) λb=>if b=true then te (some (.val d)::js.map (bA c)) (λe=>Pv (j+1) (a++[e]))else Pv (j+1) a)/\∀a,Pv f.length a->Q (.lst true a)
def aP(N:yah)(ns:yah)(js:yag):Prop:=js.length=ns.length/\∀(i:Nat) (j:Nat) (n:Str),js[i]?=some j->ns[i]?=some n->N[j]?=some n
def aP.nil:aP N [] []:=⟨rfl,λi j n h=>by simp at h⟩
def aP.cons{ns:yah}{js:yag}{n:Str}(j:Nat)(h:aP N ns js)(e:N[j]?=some n:=by rfl):aP N (n::ns) (j::js):=⟨by simp[h.1],λi c m b a=>by
 cases i with
 |zero=>simp at b a;subst b a;exact e
 |succ i=>exact h.2 i c m (by simpa using b) (by simpa using a)⟩
variable{elt iter:Expr}{ifs:yai}{px pos:Pos}{te:DE}{tc:DT}{wi:DA}{x:Str}
def bI(n:X.calm=true)(S:Xx X.env.scope sc [x] ns)(l:aP X.N ns js)(e:UA X (.Name x px) iter wi)(k:∀(C:Addr) (b:Shared) (c:Hp) (fp:yae) (a:yaa),Xy (bu X sc ns [x] C b c fp a) ifs tc)
  (m:∀(C:Addr) (b:Shared) (c:Hp) (fp:yae) (a:yaa),OD (bu X sc ns [x] C b c fp a) elt te) (f:closureFor sc X.env=pure (dP X.env ns):=by rfl) (hs:∀x,foldedSetIterable iter X.env x=pure x:=by intro _;rfl) :
  OD X (.ListComp elt [⟨.Name x px,iter,ifs,0⟩] sc pos) (pJ wi js tc te):=by
 intro pins s σ H W d Q I r h;refine wpAny_comprehension_free (use:=none) rfl hs f S.kind S.names (Oj (e pins s σ H W d _ I r h) λv A d=>Oj d λVd y d=>?_);obtain⟨B,fp,tn,J,H2,G,e,q,h,T,p,o,f,j,Pv,i,step,g⟩:=d;subst e;refine mn (RR:=λd C=>compPost (model X.prog X.w) X.A X.xe none (DP X pins σ W H Q) d C) n S l (Ed:=λ_=>False) (λC b c fp a _=>m C b c fp a) (λC b c fp a _=>k C b c fp a) (λ_ _=>dY.no) q (r.same h) (λC b c fp a=>yj S) T p o f j Pv i (Il step) ?_;intro D C i b c a u sm o p n f m d ⟨j,k,w,l,t⟩ pv;have q:Den X.K W.bad b (.lst true a) (.ref D):=Den.lst ((r.same h).fresh j) (.new l k) (t.OC λ_ _ z=>.inl z);refine⟨c,o,λE c=>?_⟩;exact⟨.ref D,b,_,u.turned (t':=i.toks) (λb o i e=>(c.2 b i).trans e) p n (.inr f) m d,rfl,h.trans sm,q,g a pv⟩
def gF{y:Str}{a:Pos}(i:Nat)(w:X.N.Nodup)(t:X.calm=true)(S:Xx X.env.scope sc [x] ns)(p:aP X.N ns js)(j:UA X (.Name x px) iter wi)(o:∀(C:Addr) (c:Shared) (d:Hp) (fp:yae) (b:yaa),Xy (bu X sc ns [x] C c d fp b) ifs tc)
  (q:∀(C:Addr) (c:Shared) (d:Hp) (fp:yae) (b:yaa),OD (bu X sc ns [x] C c d fp b) elt te) (l:X.N[i]?=some y:=by rfl) (f:X.env.scope.names.lookup y=some .local:=by rfl) (k:closureFor sc X.env=pure (dP X.env ns):=by rfl) (hs:∀x,foldedSetIterable iter X.env x=pure x:=by intro _;rfl)
  (e:swapsWith (.ListComp elt [⟨.Name x px,iter,ifs,0⟩] sc pos) (some (.Name y py)) a.line X.env=pure true:=by rfl) :
  Q4 X (.Assign [.Name y py] (.ListComp elt [⟨.Name x px,iter,ifs,0⟩] sc pos) a) (Gd i (pJ wi js tc te)):=by
 intro pins s σ H W g E I r h;rw[exec_Assign_Name_used _ _ _ _ e];refine Oa (wpAny_standAt (Oa ?_));refine Oa (R9 (wpAny_comprehension_free (use:=some (assign (.Name y py) X.env)) (Q:=λ_ a=>WJ X pins W H E .next a) rfl hs k S.kind S.names
  (Oj (j pins s σ H W g _ I r h) λv M e=>Oj e λVd L h=>?_)) (λ_ a e=>wpAny_pure (wpAny_pure e)) λ_ _ e=>e)
 obtain⟨N,fp,tn,J,H2,U,e,A,g,T,z,u,k,n,Pv,m,step,j⟩:=h;subst e;refine mn (RR:=λh C=>compPost (model X.prog X.w) X.A X.xe (some (assign (.Name y py) X.env)) (λ_ a=>WJ X pins W H E .next a) h C) t S p (Ed:=λ_=>False) (λC c d fp b _=>q C c d fp b) (λC c d fp b _=>o C c d fp b) (λ_ _=>dY.no) A (r.same g) (λC c d fp b=>yj S) T z u k n Pv m (Il step) ?_;intro D C a k u c p sm B A n h m d ⟨a,b,G,o,q⟩ pv;have E:Den X.K W.bad k (.lst true c) (.ref D):=Den.lst ((r.same g).fresh a) (.new o b) (q.OC λ_ _ z=>.inl z);have t:=(r.same g).same sm;refine wpAny_assign_Name (vW (v:=.ref D) p w l (.inl f) rfl (λo w q=>?_) (.inr f));obtain⟨a,b,f⟩:=q;have r:C≠a:=by
  rcases f with z|z;rw[z];exact n;exact λq=>m y a z q.symm
 refine⟨u,B.sameBut b r,λO a=>?_⟩;refine⟨W.drop i,_,k,w.turned (t':=o.toks) (λb o f e=>(a.2 b f).trans e) A n (.inr h) m d,(OQ.same (g.trans sm)).trans (OQ.drop W k i),_,t.put (Inv.TJ p l) E,j c pv⟩
end
noncomputable def KN(osc a:Scope)(xs ns:yah):Bool :=
 decide (a.kind=.function) && (a.names.all λy=>decide (y.2 ≠ .cell)) && (a.names.all λy=>decide (y.2=.local->a.names.lookup y.1=some .local)) && (xs.all λx=>decide (a.names.lookup x=some .local)) &&
 (a.names.all λy=>decide (y.2=.free->y.1∈ns/\osc.names.lookup y.1=some .cell)) && (ns.all λn=>decide (a.names.lookup n=some .free/\osc.names.lookup n=some .cell)) && decide (xs++ns).Nodup
def aX(h:KN osc sc xs ns=true):Xx osc sc xs ns:=by unfold KN at h;simp only[Xb]at h;obtain⟨⟨⟨⟨⟨⟨a,g⟩,b⟩,f⟩,e⟩,d⟩,c⟩:=h;exact⟨XW a,λy a=>XW (zDE.mp g y a),λy a=>XW (zDE.mp b y a),λx b=>XW (zDE.mp f x b),λy a=>XW (zDE.mp e y a),λn a=>XW (zDE.mp d n a),XW c⟩
inductive WR:yai->yah->Prop where
 |nil:WR [] []
 |cons {x:Str} {p:Pos} {es:yai} {xs:yah} (h:WR es xs):WR (.Name x p::es) (x::xs)
def oA:Nat->Nat->WM
 |_,0=>sL
 |i,n+1=>lQ (oC i) (oA (i+1) n)
theorem sJ:∀(ys:yas) (b a c:Ro) (Q:Ro->Prop),a.length=ys.length->Q (b++ys.map (λd=>some (Sl.val d))++c)->oA b.length ys.length ys (b++a++c) Q
 |[],b,a,c,Q,f,h=>by have:a=[]:=Yq f;subst this;exact⟨rfl,h⟩
 |d::r,b,a,c,Q,f,h=>by
  match a,f with
  |a::q,f =>
   refine⟨d,r,rfl,?_⟩;show oA (b.length+1) r.length r ((b++a::q++c).set b.length (some (.val d))) Q;have e:(b++a::q++c).set b.length (some (Sl.val d))=(b++[some (Sl.val d)])++q++c:=by rw[US,List.set_append_right _ _ (O5 _),Nat.sub_self];simp
   have a:b.length+1=(b++[some (Sl.val d)]).length:=by simp
   rw[e,a];refine sJ r _ q c Q (by simpa using f) ?_;simpa using h
section
variable{X:Cx}{sc:Scope}{ns xs:yah}{js:yag}
theorem WR.len:∀{es:yai} {ys:yah},WR es ys->(assignEach es env).length=ys.length/\(assignEach es env).findIdx? (·.1)=none
 |_,_,.nil=>⟨rfl,rfl⟩
 |_,_,.cons (x:=x) (p:=p) (es:=es) h=>by obtain⟨b,a⟩:=WR.len (env:=env) h;have e:assignEach (.Name x p::es) env=(false,assign (.Name x p) env)::assignEach es env:=rfl;rw[e];refine⟨by rw[RG,b];rfl,?_⟩;rw[List.findIdx?_cons,a];rfl
theorem sO(S:Xx X.env.scope sc xs ns):∀{es:yai} {ys:yah} (i:Nat),WR es ys->(∀k y,ys[k]?=some y->xs[i+k]?=some y)->ug (bu X sc ns xs C Oi OA fp XE) es (oA i ys.length)
 |_,_,_,.nil,_=>pO
 |_,_,i,.cons (x:=x) (xs:=ys) h,c=>by
  have a:xs[i]?=some x:=c 0 x rfl;have b:(compEnvC sc (dP X.env ns) C X.env).scope.names.lookup x=some .local:=lookup_relabel_local (S.tgt x (Ql a));have d:(xs++ns)[i]?=some x:=by rw[UO (QH.mp a).1];exact a
  exact fU (aZ (X:=bu X sc ns xs C Oi OA fp XE) i S.nd d (.inl b) (.inr b)) (sO S (i+1) h λk y e=>by
   have:=c (k+1) y e
   lia)
variable{elt iter:Expr}{ifs es:yai}{kt:Nat}{tp pos:Pos}{te:DE}{tc:DT}{wi:DA}
def jP(ys:yas):Ro:=ys.map λd=>some (Sl.val d)
def DC(n:Nat)(wi:DA)(js:yag)(tc:DT)(te:DE):DE:=λe Q=>wi e λf=>f.length<=sizeLine/\∃Pv:Nat->yas->Prop,Pv 0 [] ∧
 (∀j d a,f[j]?=some d->Pv j a->∃c,(d=.tup c∨∃ t,d=.lst t c)/\c.length=n/\tc (jP c++js.map (bA e)) λb=>if b=true then te (jP c++js.map (bA e)) (λe=>Pv (j+1) (a++[e]))else Pv (j+1) a)/\∀a,Pv f.length a->Q (.lst true a)
def stepT{n:Nat}{ds:yas}{Pv:Nat->yas->Prop}{c:Ro}(step:∀j d a,ds[j]?=some d->Pv j a->∃ys,(d=.tup ys∨∃ t,d=.lst t ys)/\ys.length=n/\tc (jP ys++c) λb=>if b=true then te (jP ys++c) (λe=>Pv (j+1) (a++[e]))else Pv (j+1) a) :
  ∀ j d a f,ds[j]?=some d->Pv j a->jY n c f->sM n (oA 0 n) d f λg=>jY n c g/\tc g λb=>if b=true then te g (λe=>Pv (j+1) (a++[e]))else Pv (j+1) a:=by
 rintro j d a f k g ⟨f,i,rfl⟩;obtain⟨ys,e,b,h⟩:=step j d a k g;refine⟨ys,e,b,?_⟩;subst b;exact sJ ys [] f c _ i ⟨⟨jP ys,by simp[jP],rfl⟩,h⟩
def j6(l:X.calm=true)(S:Xx X.env.scope sc xs ns)(q:aP X.N ns js)(g:WR es xs)(i:UA X (.Tuple es kt tp) iter wi)(p:∀(C:Addr) (c:Shared) (d:Hp) (a:yae) (b:yaa),Xy (bu X sc ns xs C c d a b) ifs tc)
  (t:∀(C:Addr) (c:Shared) (d:Hp) (a:yae) (b:yaa),OD (bu X sc ns xs C c d a b) elt te) (j:closureFor sc X.env=pure (dP X.env ns):=by rfl) (hs:∀x,foldedSetIterable iter X.env x=pure x:=by intro _;rfl) :
  OD X (.ListComp elt [⟨.Tuple es kt tp,iter,ifs,0⟩] sc pos) (DC xs.length wi js tc te):=by
 intro f s k H W e Q I r h;refine wpAny_comprehension_free (use:=none) rfl hs j S.kind S.names (Oj (i f s k H W e _ I r h) λv E e=>Oj e λVd B j=>?_);obtain⟨G,a,tn,J,H2,M,e,w,i,T,u,s,m,o,Pv,n,step,h⟩:=j;subst e;refine mn (RR:=λj C=>compPost (model X.prog X.w) X.A X.xe none (DP X f k W H Q) j C) l S q (Ed:=λ_=>False) (λC c d a b _=>t C c d a b) (λC c d a b _=>p C c d a b) (λ_ _=>dY.no) w (r.same i) (λC c d a b=>sN (X:=bu X sc ns xs C c d a b) l (sO S 0 g λk y q=>by simpa using q) (WR.len g).1 (WR.len g).2) T u s m o Pv n (stepT step) ?_;intro D C j b c a t sm o p n f m d ⟨g,k,A,l,s⟩ pv;have q:Den X.K W.bad b (.lst true a) (.ref D):=Den.lst ((r.same i).fresh g) (.new l k) (s.OC λ_ _ z=>.inl z);refine⟨c,o,λL c=>?_⟩;exact⟨.ref D,b,_,t.turned (t':=j.toks) (λb o g e=>(c.2 b g).trans e) p n (.inr f) m d,rfl,i.trans sm,q,h a pv⟩
end
def iR{b:Type}{n:Nat}{wi:DA}{js:yag}{tc:DT}{te:DE}{Q:D->Prop}(a:List b)(f:b->yas)(c:b->Bool)(g:b->D)(d:∀R:yas->Prop,R (a.map λz=>.tup (f z))->wi ρ R)(hz:a.length<=sizeLine)(h:∀z,(f z).length=n)
  (l:∀z∈a,∀K:Bool->Prop,K (c z)->tc (jP (f z)++js.map (bA ρ)) K) (k:∀z∈a,c z=true->∀K:D->Prop,K (g z)->te (jP (f z)++js.map (bA ρ)) K) (q:Q (.lst true ((a.filter c).map g))):DC n wi js tc te ρ Q:=by
 refine d _ ⟨by simp_all,λj b=>b=((a.take j).filter c).map g,by simp,λj d b c d=>?_,λb d=>?_⟩;rw[PO]at c;cases ex:a[j]? with
 |none=>simp_all
 |some x =>
  rw[ex]at c;have i:x∈a:=Ql ex;have e:a.take (j+1)=a.take j++[x]:=by simp_all [Xg]
  grind
 grind
def L8(b:Bool):okD (.bl b):=by unfold okD;rw[QL,Ug]<;>first|exact⟨rfl,rfl⟩| (intros;contradiction)
def GP(i:Int):okD (.int i)=True:=eq_true (A0 i)
def JA(b:Bool):okD (.bl b)=True:=eq_true (L8 b)
def GQ:okD .ON=True:=eq_true JB
def jT(i j:Int):eqD (.int i) (.int j)=decide (i=j):=by rfl
def DX(i j:Bool):eqD (.bl i) (.bl j)=decide (i=j):=by
 cases i<;>cases j<;>rfl
def LU(t:Bool)(xs:yas)(R:yas->Prop):(∃t' ds,D.lst t xs=.lst t' ds/\R ds)=R xs:=by apply propext;constructor;rintro⟨_,_,e,q⟩;cases e;exact q;intro q;exact⟨t,xs,rfl,q⟩
def I0(ds:yas)(r:Ro)(R:yas->Prop):(∃a,(some (Sl.own ds)::r)[0]?=some (some (Sl.own a))/\R a)=R ds:=by apply propext;constructor;rintro⟨_,e,q⟩;have a:some (some (Sl.own ds))=some (some (Sl.own _)):=e;cases a;exact q;intro q;exact⟨ds,rfl,q⟩
theorem Ja(n:Nat)(x:Option Sl)(r:Ro)(R:yas->Prop):(∃a,(x::r)[n+1]?=some (some (Sl.own a))/\R a)=(∃a,r[n]?=some (some (Sl.own a))/\R a):=rfl
theorem LK(d:D)(r:Ro):bA (some (.val d)::r) 0=some (.val d):=rfl
theorem LM(r:Ro):bA (none::r) 0=none:=rfl
theorem LL(n:Nat)(x:Option Sl)(r:Ro):bA (x::r) (n+1)=bA r n:=rfl
def KA{x y z:Int}(h:¬(x=0/\y=0/\z=0))(i:Bd n x)(g:Bd n y)(hz:Bd n z):Bd n (PM.Qp x y z l):=by
 unfold Bd at *;rw[PM.AJ];have c:=zC9.mpr (PM.uw x y z);have b:=zC9.mpr (PM.yb x y z);have a:=zC9.mpr (PM.yc x y z);simp only[Int.natAbs_natCast]at c b a;by_cases f:x=0;by_cases d:y=0;have j:z≠0:=λe=>h ⟨f,d,e⟩
 have:=Nat.le_of_dvd (by lia) a
 lia
 have:=Nat.le_of_dvd (by lia) b
 lia
 have:=Nat.le_of_dvd (by lia) c
 lia
noncomputable def sg(n:Int):Int:=if 0<n then 1 else if n<0 then -1 else 0
def rk(a0 c e a b d:Int):Int:=if sg (c*a - b*a0)=0 then sg (e*a - d*a0)else sg (c*a - b*a0)
noncomputable def sw(a0 f e h d c g b a:Int):Int:=a0*(d*a - b*c)+h*(b*e - f*a)+g*(f*c - d*e)
structure Pl(n:Nat)(a b c:Int):Prop where
 pos:0<a
 low:PM.g3 a b c=1
 b0:Bd n a
 b1:Bd n b
 b2:Bd n c
def jD{d k x y z:Int}(f:d∣k*x)(e:d∣k*y)(c:d∣k*z)(b:PM.g3 x y z=1):d∣k:=by
 have a:d∣(Int.gcd (k*x) (k*y):Int):=ZC f e;rw[zDC]at a;have e:d∣k*(Int.gcd x y:Int):=by
  have:((k.natAbs*Int.gcd x y:Nat):Int)∣k*(Int.gcd x y:Int):=by rw[Int.natCast_mul];exact Int.mul_dvd_mul (Int.natAbs_dvd.mpr (by simp_all)) (by simp_all)
  exact X0 a this
 have a:d∣(Int.gcd (k*(Int.gcd x y:Int)) (k*z):Int):=ZC e c;rw[zDC]at a;have c:Int.gcd (Int.gcd x y:Int) z=1:=b;rw[c,Nat.mul_one]at a;exact X0 a (Int.natAbs_dvd.mpr (by simp_all))
def Mm(b x y:Int):D:=T3 (b.fdiv (PM.Qp b x y b)) (x.fdiv (PM.Qp b x y b)) (y.fdiv (PM.Qp b x y b))
structure N2(d:D)(b x y:Int):Prop where
 ex:∃p q r,d=T3 p q r/\Bd 4000 p/\Bd 4000 q/\Bd 4000 r/\0<p/\p*x=b*q/\p*y=b*r/\PM.g3 p q r=1
end PD
namespace PZ
open PySem PySem.Spec PyProof.Rows
def RL:Bool->Heap->Addr->Addr->Nat->Prop
 |true,h,b,a,i=>h.IsListIter b a i
 |false,h,b,a,i=>h.IsTupleIter b a i
def Q9:Bool->Heap->Addr->yao->Prop
 |true,h,a,b=>h.IsList a b
 |false,h,a,b=>h.IsTuple a b
def iU:Bool->String
 |true => "list_iterator"
 |false => "tuple_iterator"
section
variable{k:Bool}{h h':Heap}{it a b:Addr}{i:Nat}{xs:yao}
def RL.of(x:RL k h it a i)(e:∀o,h.get? it=some o->h'.get? it=some o):RL k h' it a i:=by
 cases k with
 |true=>obtain⟨o,c,r⟩:=x;exact⟨o,e o c,r⟩
 |false=>obtain⟨o,c,r⟩:=x;exact⟨o,e o c,r⟩
def Q9.of(x:Q9 k h a xs)(e:∀o,h.get? a=some o->h'.get? a=some o):Q9 k h' a xs:=by
 cases k with
 |true=>obtain⟨o,c,r⟩:=x;exact⟨o,e o c,r⟩
 |false=>obtain⟨o,c,r⟩:=x;exact⟨o,e o c,r⟩
def RL.obj(x:RL k h it a i):∃o,h.get? it=some o/\o.cls=.type (iU k)/\o.data=.fields #[.ref a,.int i 0]:=by
 cases k with
 |true=>exact x
 |false=>exact x
def Q9.obj(x:Q9 k h a xs):∃o n,h.get? a=some o/\o.data=.seq xs n:=by
 cases k with
 |true=>obtain⟨o,c,_,n,r⟩:=x;exact⟨o,n,c,r⟩
 |false=>obtain⟨o,c,_,n,r⟩:=x;exact⟨o,n,c,r⟩
end
section
variable{prog:Program}{w:World}{A:Around}{E:yaa}{s:Shared}{k:Bool}{it a:Addr}{i:Nat}{xs:yao}
def tB{x:Value}{Q:yaa}(d:RL k s.heap it a i)(hs:Q9 k s.heap a xs)(f:xs[i]?=some x)(g:∀h',RL k h' it a (i+1)->Heap.SameBut it s.heap h'->Q x {s with heap:=h'}) :
  wpAny (model prog w) A (Builtin.SmallTypes.nextOf (.ref it)) Q E s:=by
 cases k with
 |true=>exact wpAny_nextOf_list_item d hs f g
 |false =>
  obtain⟨o,c,j,b⟩:=id d;obtain⟨l,h,_,m,e⟩:=hs;refine Oa (WZ (name:=Str.ofString "__next__") (zCt d) F.slot_tuple_iterator_next (Va F.slot_tuple_iterator_next (zCt d) F.entry_tuple_iterator_next ?_ (F.args_tuple_iterator_next_1 _)));show wpAny _ _ (field (.ref it) 0 >>= _) _ _ s;refine Oa (Se c b (x:=.ref a) rfl ?_);refine Oa (Se c b (x:=.int i 0) rfl ?_);refine Oa (Vb h e ?_);simp only[Int.toNat_natCast,f];refine Oa (ZG c b (by simp) (wpAny_pure ⟨x,rfl,wpAny_pure (g _ ⟨_,VN _ c (Obj.isFreed_of_fields (Obj.data_mapFields b _)),(Obj.cls_mapFields ..).trans j,by rw[Obj.data_mapFields b];simp[rawInt]⟩ (XS ..))⟩))
def Ck(d:A.handled=none)(b:RL k s.heap it a i)(hs:Q9 k s.heap a xs)(g:xs[i]?=none)
  (h:∀h' e,Heap.ExtBut it s.heap h'->(∃o,h'.get? e=some o/\o.cls=.type "StopIteration")->E (.ref e) {s with heap:=h'}):wpAny (model prog w) A (Builtin.SmallTypes.nextOf (.ref it)) Q E s:=by
 cases k with
 |true=>exact wpAny_nextOf_list_end d b hs g h
 |false =>
  obtain⟨o,c,p,f⟩:=id b;obtain⟨l,j,_,n,e⟩:=hs;refine Oa (WZ (name:=Str.ofString "__next__") (zCt b) F.slot_tuple_iterator_next (Va F.slot_tuple_iterator_next (zCt b) F.entry_tuple_iterator_next ?_ (F.args_tuple_iterator_next_1 _)));show wpAny _ _ (field (.ref it) 0 >>= _) _ _ s;refine Oa (Se c f (x:=.ref a) rfl ?_);refine Oa (Se c f (x:=.int i 0) rfl ?_);refine Oa (Vb j e ?_);simp only[Int.toNat_natCast,g];refine Oa (wpAny_rule (Oa (ZG c f (by simp) ?_)));refine Oa ?_;refine Oa (m:=firstArgMember _ _) (wpAny_of_eq (a:=Value.none) (by rfl) ?_);refine Ww ?_ (by size_fits);refine Oa (wpAny_handled ?_);first|rw[show A.in1.handled=none from d]|rw[d]
  exact Oa (wpAny_pure (wpAny_throw (h _ _ (((XS ..).extBut.push _).push _) ⟨_,Rh _ rfl,rfl⟩)))
end
structure Ap(z TI TO i1 i2:Addr):Prop where
 a1:TI≠z
 a2:TO≠z
 a3:i1≠z
 a4:i2≠z
 a5:TI≠TO
 a6:TI≠i1
 a7:TI≠i2
 a8:TO≠i1
 a9:TO≠i2
 b1:i1≠i2
structure Out(z TO i1 i2 l:Addr):Prop where
 c1:l≠z
 c2:l≠TO
 c3:l≠i1
 c4:l≠i2
structure Yh(k1 k2:Bool)(z TI TO i1 i2 l1 l2:Addr)(i:Nat)(h:Heap):Prop where
 z:IsZip h z TI TO .none
 ti:IsPair h TI (.ref i1) (.ref i2)
 to:∃a b,IsPair h TO a b
 s1:RL k1 h i1 l1 i
 s2:RL k2 h i2 l2 i
section
variable{prog:Program}{w:World}{A:Around}{E:yaa}{s:Shared}{k1 k2:Bool}{z TI TO i1 i2 l1 l2:Addr}{i:Nat}{xs ys:yao}
def Ip{x y:Value}{Q:yan->Shared->Prop}(D:Ap z TI TO i1 i2)(l:Out z TO i1 i2 l1)(j:Out z TO i1 i2 l2)(Z:Yh k1 k2 z TI TO i1 i2 l1 l2 i s.heap)(f:Q9 k1 s.heap l1 xs)(r:Q9 k2 s.heap l2 ys)(h:xs[i]?=some x)(t:ys[i]?=some y)
  (G:∀h',IsZip h' z TI TO (rawInt s.heap.objs.size)->IsPair h' TI (.ref i1) (.ref i2)->IsPair h' TO x y->RL k1 h' i1 l1 (i+1)->RL k2 h' i2 l2 (i+1)->IsPair h' s.heap.objs.size x y →
   (∀c o,c≠z->c≠TO->c≠i1->c≠i2->s.heap.get? c=some o->h'.get? c=some o)->Q (some (.ref s.heap.objs.size)) {s with heap:=h'}):wpAny (model prog w) A (pyNext (.ref z)) Q E s:=by
 obtain⟨d,C,⟨a,b,m⟩,k,B⟩:=Z;have e:s.TypeIs (.ref z) "zip" := ⟨_,d,rfl⟩;unfold pyNext;refine Oa (X2 (WZ (name:=Str.ofString "__next__") e F.slot_zip_next (Va F.slot_zip_next e F.entry_zip_next ?_ (F.args_zip_next_1 _))));show wpAny _ _ (field (.ref z) 2 >>= _) _ _ _;refine Oa (Se d rfl (x:=.bool false) rfl ?_);show wpAny _ _ (field (.ref z) 3 >>= _) _ _ _;refine Oa (Se d rfl (x:=.ref TI) rfl (Oa (Vb C rfl ?_)));refine Oa ?_;unfold Builtin.SmallTypes.ownedTupleIsFree;refine Oa (Se d rfl (x:=.none) rfl (wpAny_pure ?_));simp only[UX];refine Oa (wpAny_rule (Oa (Se d rfl (x:=.ref TO) rfl ?_)));refine Oa (Yv d (by simp) λd (u:IsZip d z TI TO .ellipsis) p=>Oa ?_);have g:∀c o,c≠z->s.heap.get? c=some o->d.get? c=some o:=λc o n e=>p.extBut c o n e
 refine Oa (Oa (wpAny_onRaise ?_));show wpAny _ _ (Builtin.SmallTypes.nextOf (.ref i1) >>= _) _ _ _;refine Oa (tB (s:={s with heap:=d}) (k.of λo e=>g _ o D.a3 e) (f.of λo e=>g _ o l.c1 e) h λh d l=>wpAny_pure ?_);have f:IsPair h TO a b:=l.extBut _ _ D.a8 (g _ _ D.a2 m);refine Oa (Vb f rfl (Oa (wpAny_updateSeq_pair f λg3 (q:IsPair g3 TO x b) k=>Oa (wpAny_letGo (wpAny_pure ?_)))));have m:∀c o,c≠z->c≠TO->c≠i1->s.heap.get? c=some o->g3.get? c=some o:=λc o f d h e=>k.extBut c o d (l.extBut c o h (g c o f e))
 refine Oa (Oa (wpAny_onRaise ?_));show wpAny _ _ (Builtin.SmallTypes.nextOf (.ref i2) >>= _) _ _ _;refine Oa (tB (s:={s with heap:=g3}) (B.of λo e=>m _ o D.a4 (Ne.symm D.a9) (Ne.symm D.b1) e) (r.of λo e=>m _ o j.c1 j.c2 j.c3 e) t λr g j=>wpAny_pure ?_);have a:IsPair r TO x b:=j.extBut _ _ D.a9 q;refine Oa (Vb a rfl (Oa (wpAny_updateSeq_pair a λa (q:IsPair a TO x y) b=>Oa (wpAny_letGo (wpAny_pure (wpAny_pure ?_))))));refine Oa (Vb q rfl (Oa (wpAny_newTuple ?_)));have r:a.objs.size=s.heap.objs.size:=by rw[b.1,j.1,k.1,l.1,p.1]
 have t:∀c o,c≠z->c≠TO->c≠i1->c≠i2->s.heap.get? c=some o->a.get? c=some o:=λc o f d h g e=>b.extBut c o d (j.extBut c o g (m c o f d h e))
 have p:IsZip a z TI TO .ellipsis:=b.extBut _ _ (Ne.symm D.a2) (j.extBut _ _ (Ne.symm D.a4) (k.extBut _ _ (Ne.symm D.a2) (l.extBut _ _ (Ne.symm D.a3) u)));have l:RL k1 a i1 l1 (i+1):=d.of λo e=>b.extBut _ o (Ne.symm D.a8) (j.extBut _ o D.b1 (k.extBut _ o (Ne.symm D.a8) e))
 have k:RL k2 a i2 l2 (i+1):=g.of λo e=>b.extBut _ o (Ne.symm D.a9) e
 have m:z<a.objs.size:=OY p;refine Oa ?_;unfold Builtin.SmallTypes.ownedTupleHandOut;have b:IsZip (a.push {cls:=.type "tuple", data:=.seq #[x,y]}) z TI TO .ellipsis:=Po _ p;refine Oa (Yv b (by simp) λj (b:IsZip j z TI TO (rawInt a.objs.size)) B=>Yv b (by simp) λj (p:IsZip j z TI TO (rawInt a.objs.size)) u=>wpAny_pure ?_);have b:∀c o,c≠z->a.get? c=some o->j.get? c=some o:=λc o n e=>u.extBut c o n (B.extBut c o n (Po _ e))
 have p8:IsPair j a.objs.size x y:=u.extBut _ _ (Ud m) (B.extBut _ _ (Ud m) (Rh _ rfl));refine⟨_,rfl,?_⟩;rw[r]at p p8;refine wpAny_pure ?_;show Q (some (.ref a.objs.size)) _;rw[r];exact G j p (b _ _ D.a1 (t _ _ D.a1 D.a5 D.a6 D.a7 C)) (b _ _ D.a2 q) (l.of λo e=>b _ o D.a3 e) (k.of λo e=>b _ o D.a4 e) p8 λc o f d h g e=>b c o f (t c o f d h g e)
def Ir{Q:yan->Shared->Prop}(C:A.handled=none)(D:Ap z TI TO i1 i2)(I:Out z TO i1 i2 l1)(u:Out z TO i1 i2 l2)(Z:Yh k1 k2 z TI TO i1 i2 l1 l2 i s.heap)(B:Q9 k1 s.heap l1 xs)(J:Q9 k2 s.heap l2 ys)(N:xs[i]?=none∨ys[i]?=none)
  (G:∀h',(∀c o,c≠z->c≠TO->c≠i1->c≠i2->s.heap.get? c=some o->h'.get? c=some o)->Q none {s with heap:=h'}):wpAny (model prog w) A (pyNext (.ref z)) Q E s:=by
 obtain⟨d,f,⟨a,b,O⟩,H,M⟩:=Z;have e:s.TypeIs (.ref z) "zip" := ⟨_,d,rfl⟩;unfold pyNext;refine Oa (X2 (WZ (name:=Str.ofString "__next__") e F.slot_zip_next (Va F.slot_zip_next e F.entry_zip_next ?_ (F.args_zip_next_1 _))));show wpAny _ _ (field (.ref z) 2 >>= _) _ _ _;refine Oa (Se d rfl (x:=.bool false) rfl ?_);refine Oa (Se d rfl (x:=.ref TI) rfl (Oa (Vb f rfl ?_)));refine Oa ?_;refine Oa (Se d rfl (x:=.none) rfl (wpAny_pure ?_));simp only[UX];refine Oa (wpAny_rule (Oa (Se d rfl (x:=.ref TO) rfl ?_)));refine Oa (Yv d (by simp) λm (y:IsZip m z TI TO .ellipsis) d=>Oa ?_);have g:∀c o,c≠z->s.heap.get? c=some o->m.get? c=some o:=λc o n e=>d.extBut c o n e
 refine Oa (Oa (wpAny_onRaise ?_));cases hx:xs[i]? with
 |none =>
  refine Oa (Ck (s:={s with heap:=m}) C (H.of λo e=>g _ o D.a3 e) (B.of λo e=>g _ o I.c1 e) hx λt e h r=>?_);obtain⟨n,f,k⟩:=r;have d:IsZip t z TI TO .ellipsis:=h _ _ (Ne.symm D.a3) y;have p:e≠z:=λq=>by subst q;rw[d]at f;cases f;simp at k
  refine Yv d (by simp) λg3 _ l=>Oa (Yx (T := "StopIteration") (b:=true) ⟨n,l.extBut _ _ p f,k⟩ isSubtype_stop ?_)
  exact wpAny_pure (G g3 λc o d _ j _ q=>l.extBut c o d (h c o j (g c o d q)))
 |some x =>
  have L:ys[i]?=none:=by
   rcases N with q|q;rw[hx]at q;cases q;exact q
  refine Oa (tB (s:={s with heap:=m}) (H.of λo e=>g _ o D.a3 e) (B.of λo e=>g _ o I.c1 e) hx λt m h=>wpAny_pure ?_);have x:IsPair t TO a b:=h.extBut _ _ D.a8 (g _ _ D.a2 O);refine Oa (Vb x rfl (Oa (wpAny_updateSeq_pair x λg3 U l=>Oa (wpAny_letGo (wpAny_pure ?_)))));have a:∀c o,c≠z->c≠TO->c≠i1->s.heap.get? c=some o->g3.get? c=some o:=λc o d m j e=>l.extBut c o m (h.extBut c o j (g c o d e))
  refine Oa (Oa (wpAny_onRaise ?_));refine Oa (Ck (s:={s with heap:=g3}) C (M.of λo e=>a _ o D.a4 (Ne.symm D.a9) (Ne.symm D.b1) e) (J.of λo e=>a _ o u.c1 u.c2 u.c3 e) L λu e t r=>?_);obtain⟨n,f,k⟩:=r;have g:IsZip u z TI TO .ellipsis:=t _ _ (Ne.symm D.a4) (l.extBut _ _ (Ne.symm D.a2) (h.extBut _ _ (Ne.symm D.a3) y));have p:e≠z:=λq=>by subst q;rw[g]at f;cases f;simp at k
  refine Yv g (by simp) λg _ e=>Oa (Yx (T := "StopIteration") (b:=true) ⟨n,e.extBut _ _ p f,k⟩ isSubtype_stop ?_)
  exact wpAny_pure (G g λc o d m j b q=>e.extBut c o d (t c o b (a c o d m j q)))
def HZ{Q:yaa}(q:Q9 k s.heap a xs)(b:Q (.ref s.heap.objs.size) {s with heap:=s.heap.push {cls:=.type (iU k),data:=.fields #[.ref a,.int 0 0]} }):wpAny (model prog w) A (pyIter (.ref a)) Q E s:=by
 cases k with
 |true=>exact wpAny_pyIter_list q b
 |false=>exact wpAny_pyIter_tuple q b
end
abbrev zp1(k1:Bool)(h:Heap)(l1:Addr):Heap:=h.push {cls:=.type (iU k1),data:=.fields #[.ref l1,.int 0 0]}
abbrev zp2(k1 k2:Bool)(h:Heap)(l1 l2:Addr):Heap:=(zp1 k1 h l1).push {cls:=.type (iU k2),data:=.fields #[.ref l2,.int 0 0]}
abbrev zp3 (k1 k2:Bool) (h:Heap) (l1 l2:Addr):Heap:=(zp2 k1 k2 h l1 l2).push {cls:=.type "tuple", data:=.seq #[.ref h.objs.size,.ref (zp1 k1 h l1).objs.size]}
abbrev zp4 (k1 k2:Bool) (h:Heap) (l1 l2:Addr):Heap:=(zp3 k1 k2 h l1 l2).push {cls:=.type "tuple", data:=.seq #[.none,.none]}
abbrev YX (k1 k2:Bool) (h:Heap) (l1 l2:Addr):Heap:=(zp4 k1 k2 h l1 l2).push {cls:=.type "zip", data:=.fields #[.none,.bool false,.bool false,.ref (zp2 k1 k2 h l1 l2).objs.size,.ref (zp3 k1 k2 h l1 l2).objs.size]}
def NZ (k1 k2:Bool) (l1 l2:Addr) (xs ys:yao):Meets (Builtin.«zip.__new__» ⟨[.type "zip", .ref l1,.ref l2],[]⟩) (λ_ R s=>Q9 k1 s.heap l1 xs/\Q9 k2 s.heap l2 ys/\R (.ok (.ret (.ref (zp4 k1 k2 s.heap l1 l2).objs.size))) {s with heap:=YX k1 k2 s.heap l1 l2}) :=
 .of_wp λb w A R s h=>by
  obtain⟨e,g,d,a,os⟩:=s;obtain⟨i,f,h⟩:=h;have c:=sub_zip;have j:Q9 k1 (Shared.heap ⟨e,g,d,a,os⟩) l1 xs:=i;have i:Q9 k2 (Shared.heap ⟨e.push {cls:=.type (iU k1),data:=.fields #[.ref l1,.int 0 0]},g,d,a,os⟩) l2 ys:=f.of λo e=>Po _ e
  wp_walk using HZ j,HZ i
  exact⟨_,rfl,h⟩
section
variable{prog:Program}{w:World}{A:Around}{E:yaa}{s:Shared}{k1 k2:Bool}{l1 l2:Addr}{xs ys:yao}
def Im{Q:yaa}(d:Q9 k1 s.heap l1 xs)(b:Q9 k2 s.heap l2 ys)
  (k:∀h',Yh k1 k2 (s.heap.objs.size+4) (s.heap.objs.size+2) (s.heap.objs.size+3) s.heap.objs.size (s.heap.objs.size+1) l1 l2 0 h'->(∀c o,s.heap.get? c=some o->h'.get? c=some o)->Q (.ref (s.heap.objs.size+4)) {s with heap:=h'}) :
  wpAny (model prog w) A (call (.type "zip") [.ref l1,.ref l2]) Q E s:=by
 refine callType_new F.called_zip (by decide) (F.typeCall_zip_2 _ _) (F.newCall_zip_2 _ _) (λa=>F.args_object_init_3 a _ _) F.entry_zip_new (NZ k1 k2 l1 l2 xs ys) ⟨d,b,?_⟩;have h:(zp1 k1 s.heap l1).objs.size=s.heap.objs.size+1:=Xf ..;have g:(zp2 k1 k2 s.heap l1 l2).objs.size=s.heap.objs.size+2:=by rw[Xf,h]
 have f:(zp3 k1 k2 s.heap l1 l2).objs.size=s.heap.objs.size+3:=by rw[Xf,g]
 have l:(zp4 k1 k2 s.heap l1 l2).objs.size=s.heap.objs.size+4:=by rw[Xf,f]
 have a:∀c o,(zp4 k1 k2 s.heap l1 l2).get? c=some o->(YX k1 k2 s.heap l1 l2).get? c=some o:=λc o e=>Po _ e
 have b:∀c o,(zp3 k1 k2 s.heap l1 l2).get? c=some o->(YX k1 k2 s.heap l1 l2).get? c=some o:=λc o e=>a c o (Po _ e)
 have d:∀c o,(zp2 k1 k2 s.heap l1 l2).get? c=some o->(YX k1 k2 s.heap l1 l2).get? c=some o:=λc o e=>b c o (Po _ e)
 have p:∀c o,(zp1 k1 s.heap l1).get? c=some o->(YX k1 k2 s.heap l1 l2).get? c=some o:=λc o e=>d c o (Po _ e)
 have j:(YX k1 k2 s.heap l1 l2).get? (zp4 k1 k2 s.heap l1 l2).objs.size=some _:=Rh _ rfl;have m:=a _ _ (Rh (zp3 k1 k2 s.heap l1 l2) (o:={cls:=.type "tuple", data:=.seq #[.none,.none]}) rfl);have g3:=b _ _ (Rh (zp2 k1 k2 s.heap l1 l2) (o:={cls:=.type "tuple", data:=.seq #[.ref s.heap.objs.size,.ref (zp1 k1 s.heap l1).objs.size]}) rfl);have n:=d _ _ (Rh (zp1 k1 s.heap l1) (o:={cls:=.type (iU k2),data:=.fields #[.ref l2,.int 0 0]}) rfl);have q:=p _ _ (Rh s.heap (o:={cls:=.type (iU k1),data:=.fields #[.ref l1,.int 0 0]}) rfl);have i:=k (YX k1 k2 s.heap l1 l2);rw[g,f,l]at j;rw[f]at m;rw[h,g]at g3;rw[h]at n;have b:∀{k:Bool} {h:Heap} {d a:Addr},h.get? d=some {cls:=.type (iU k),data:=.fields #[.ref a,.int 0 0]}->RL k h d a 0:=fun {k h d a} e=>by
  cases k with
  |true=>exact⟨_,e,rfl,rfl⟩
  |false=>exact⟨_,e,rfl,rfl⟩
 rw[l];exact⟨⟨_,j,rfl⟩,i ⟨j,g3,⟨_,_,m⟩,b q,b n⟩ λc o e=>p c o (Po _ e)⟩
end
end PZ
namespace PD
open PySem PySem.Spec PyProof.Rows L2 PZ
def S9(K:yac):Bool->Hp->Addr->yar->Prop
 |true=>SqL K
 |false=>L2.OT K
section
variable{X:Cx}{pins:yab}{σ:St}{H:Hp}{s:Shared}{k:Bool}{a:Addr}{xs:yar}
theorem S9.list(I:Inv X pins σ H s)(h:S9 X.K k H a xs):∃b:yad,Vals xs b/\Q9 k s.heap a b.toArray:=by
 cases k with
 |true =>
  obtain⟨b,r,p,_⟩:=I.list h;exact⟨b,r,p.isList⟩
 |false =>
  obtain⟨b,r,p,_⟩:=I.tuple h;exact⟨b,r,p⟩
theorem S9.inj(I:Inv X pins σ H s)(h:S9 X.K k H a xs)(h':S9 X.K k H a ys):xs=ys:=by
 cases k with
 |true=>exact I.Sj h h'
 |false=>exact I.S6 h h'
def S9.ne(I:Inv X pins σ H s)(f:dN X pins H b)(h:S9 X.K k H a xs):a≠b:=λe=>by
 subst e;obtain⟨m,l,j,c,i,g⟩:=f;have d:∀o,X.K.lookup a=some o->False:=λo q=>by
  have b:=I.ok.mod.X3 a o q;rcases c with z|z;exact I.ok.Ur a o b z;exact absurd (QZ (OY (I.ok.bs a o b).1) z) (by simp_all)
 cases k with
 |true =>
  rcases h with(h|⟨o,h⟩)|⟨o,b,n,h,_⟩
  all_goals lia
 |false =>
  rcases h with(h|⟨o,h⟩)|⟨o,b,n,h,_⟩
  all_goals lia
end
def Itz(K:yac)(k1 k2:Bool)(a b:Addr):It :=
 ⟨λi H=>∃d c x y,S9 K k1 H a d/\S9 K k2 H b c/\d[i]?=some x/\c[i]?=some y,
  λi H v e=>∃T x y,v=.ref T/\H T=none/\e=L2.upd H T (.tup [x,y])/\(∀d,S9 K k1 H a d->d[i]?=some x)/\∀c,S9 K k2 H b c->c[i]?=some y,
  λi H=>∃d c,S9 K k1 H a d/\S9 K k2 H b c/\(d[i]?=none∨c[i]?=none)⟩
def Hv{P:Program}{w:World}{K:yac}{es:yai}{d:Nat}{c:Pos}(k1 k2:Bool)(a b z TI TO i1 i2:Addr)(D:Ap z TI TO i1 i2) :
  Turn P w K (.Tuple es d c) (Itz K k1 k2 a b) [z,TI,TO,i1,i2] z (λi h=>Yh k1 k2 z TI TO i1 i2 a b i h) where
 mem:=by simp
 obj:=λi h st c d=>by
  obtain⟨C,J,⟨x,y,G⟩,r,m⟩:=st;simp only[OK,TN,or_false]at d;rcases d with e|e|e|e|e<;>subst e;exact⟨_,C,λv q=>by cases q⟩;exact⟨_,J,λv q=>by cases q⟩;exact⟨_,G,λv q=>by cases q⟩;obtain⟨o,g,_,t⟩:=r.obj;exact⟨o,g,λv q=>by rw[t]at q;cases q⟩;obtain⟨o,g,_,t⟩:=m.obj;exact⟨o,g,λv q=>by rw[t]at q;cases q⟩
 keep:=λi h h' st w=>by obtain⟨C,J,⟨x,y,G⟩,r,m⟩:=st;exact⟨w z (by simp) _ C,w TI (by simp) _ J,⟨x,y,w TO (by simp) _ G⟩,r.of λo e=>w i1 (by simp) o e,m.of λo e=>w i2 (by simp) o e⟩
 item:=by
  intro X hP Y hK d i B s σ H E I f st hg;subst hP Y hK;obtain⟨xs,ys,x,y,g,t,hx,hy⟩:=hg;obtain⟨us,O,U⟩:=g.list I;obtain⟨ws,N,T⟩:=t.list I;obtain⟨u,p,ru⟩:=O.get hx;obtain⟨v,n,rv⟩:=N.get hy;have j:∀{k:Bool} {l:Addr} {M:yar},S9 X.K k H l M->Out z TO i1 i2 l:=λq=>⟨q.ne I (f z (by simp)),q.ne I (f TO (by simp)),q.ne I (f i1 (by simp)),q.ne I (f i2 (by simp))⟩
  refine Ip D (j g) (j t) st U T (x:=u) (y:=v) (by simpa using p) (by simpa using n) λh' n ti to r m pr w=>⟨_,rfl,wpAny_letOwnedTupleGo_zip n λL Q sb=>?_⟩
  have n:s.heap.objs.size<=s.heap.objs.size:=O5 _;have nz:s.heap.objs.size≠z:=Ud (OY st.z);have A:H s.heap.objs.size=none:=I.OB.fresh n;have p:∀c o,c ∉ [z,TI,TO,i1,i2]->s.heap.get? c=some o->L.get? c=some o:=λc o n e=>by simp only[OK,TN,or_false,not_or]at n;exact sb.extBut c o n.1 (w c o n.1 n.2.2.1 n.2.2.2.1 n.2.2.2.2 e)
  have Uu:Yh k1 k2 z TI TO i1 i2 a b (i+1) L:=⟨Q,sb.extBut _ _ D.a1 ti,⟨_,_,sb.extBut _ _ D.a2 to⟩,r.of λo e=>sb.extBut _ o D.a3 e,m.of λo e=>sb.extBut _ o D.a4 e⟩;have Q:IsPair L s.heap.objs.size u v:=sb.extBut _ _ nz pr;have lo:∀c ∈ [z,TI,TO,i1,i2],c≠s.heap.objs.size:=λc d e=>by
   have a:c<s.heap.objs.size:=by
    obtain⟨C,J,⟨x',y',G⟩,m,b⟩:=st;simp only[OK,TN,or_false]at d;rcases d with q|q|q|q|q<;>subst q;exact OY C;exact OY J;exact OY G;obtain⟨o,g,_⟩:=m.obj;exact OY g;obtain⟨o,g,_⟩:=b.obj;exact OY g
   rw[e]at a;exact VR _ a
  refine⟨.ref s.heap.objs.size,L2.upd H s.heap.objs.size (.tup [x,y]),?_,rfl,⟨_,x,y,rfl,A,rfl,λxs' q=>by rw[q.inj I g];exact hx,λys' q=>by rw[q.inj I t];exact hy⟩,Uu,λc d=>by rw[aw (lo c d)];exact(f c d).1⟩;have b:∀c o,H c=some o->c ∉ [z,TI,TO,i1,i2]:=λc o e d=>by have:=(f c d).1;rw[e]at this;cases this
  refine L2.Inv.step (s:=s) (h':=L) (g':=s.gens) (d':=s.drawn) (t':=s.toks) (ch:=[z,TI,TO,i1,i2]) I (λc d=>?_) (λc o _ _ n e _=>p c o n e) (λc o _ _ n e _=>⟨o.slots,p c o n e⟩) (λc o _ e n=>by rw[aw (PY (OY e))];exact n) (λc o n e=>⟨o,p c o n e⟩)
   (λc ls e=>by rw[aw (aL e A)];exact e) (λc o ls e=>by rw[aw (aL e A)];exact e) (λc ps e=>⟨#[],by rw[aw (aL e A),e];simp⟩) (λm y=>?_) (λc o e=>?_) I.bare
  obtain⟨f0,L,f2,J,G,C⟩:=f c d;exact⟨J,L,G,C⟩;obtain⟨o,RX,ep,x,r⟩:=y;exact⟨o,RX,ep,p _ o (λq=>(f _ q).2.1 rfl) x,r⟩;by_cases a:c=s.heap.objs.size;subst a;rw[aD]at e;cases e;exact⟨by rw[sizeLine_eq];show 2<=16777216;decide,[u,v],.cons ru (.cons rv .nil),⟨_,Q,rfl,_,rfl⟩⟩;rw[aw a]at e;refine(I.OB c o e).RH (λd' a u q=>p d' a ?_ q) (λd' q=>by rw[aw (aL q A)];exact q) λd' ls q=>by rw[aw (aL q A)];exact q
  rcases u with q'|q';rw[q'];exact b c o e;exact b d' _ q'
 done:=by
  intro X hP Y hK d i B s σ H E I f st hg;subst hP Y hK;obtain⟨xs,ys,g,t,i⟩:=hg;obtain⟨us,O,U⟩:=g.list I;obtain⟨ws,N,T⟩:=t.list I;have j:∀{k:Bool} {l:Addr} {M:yar},S9 X.K k H l M->Out z TO i1 i2 l:=λq=>⟨q.ne I (f z (by simp)),q.ne I (f TO (by simp)),q.ne I (f i1 (by simp)),q.ne I (f i2 (by simp))⟩
  refine Ir (I.ok.hd d) D (j g) (j t) st U T (i.imp (λq=>by simpa using O.none_of q) λq=>by simpa using N.none_of q) λh' w=>⟨rfl,?_⟩
  have p:∀c o,c ∉ [z,TI,TO,i1,i2]->s.heap.get? c=some o->h'.get? c=some o:=λc o n e=>by simp only[OK,TN,or_false,not_or]at n;exact w c o n.1 n.2.2.1 n.2.2.2.1 n.2.2.2.2 e
  have b:∀c o,H c=some o->c ∉ [z,TI,TO,i1,i2]:=λc o e d=>by have:=(f c d).1;rw[e]at this;cases this
  refine L2.Inv.step (s:=s) (h':=h') (g':=s.gens) (d':=s.drawn) (t':=s.toks) (ch:=[z,TI,TO,i1,i2]) I (λc d=>?_) (λc o _ _ n e _=>p c o n e) (λc o _ _ n e _=>⟨o.slots,p c o n e⟩) (λ_ _ _ _ n=>n) (λc o n e=>⟨o,p c o n e⟩) (λ_ _ e=>e) (λ_ _ _ e=>e) (λc ps e=>⟨#[],by rw[e];simp⟩) (λm y=>?_) (λc o e=>?_) I.bare;obtain⟨f0,L,f2,J,G,C⟩:=f c d;exact⟨J,L,G,C⟩;obtain⟨o,RX,ep,x,r⟩:=y;exact⟨o,RX,ep,p _ o (λq=>(f _ q).2.1 rfl) x,r⟩;refine(I.OB c o e).RH (λd' a u q=>p d' a ?_ q) (λ_ q=>q) λ_ _ q=>q
  rcases u with q'|q';rw[q'];exact b c o e;exact b d' _ q'
 self:=λ_ _ _ _ _ st h=>wpAny_pyIter_zip st.z h
def gP:D->Option (Bool×yas)
 |.lst _ a=>some (true,a)
 |.tup a=>some (false,a)
 |_=>none
section
variable{X:Cx}
def Den.seq{k:Bool}{ds:yas}(h:Den X.K P H d v)(e:gP d=some (k,ds)):∃a vs,v=.ref a/\S9 X.K k H a vs/\ah X.K P H ds vs ∧
  ∀ (P':yak) (H':Hp),(∀a vs,OT X.K H a vs->OT X.K H' a vs)->(∀t a vs,¬P t a->QK X.K H t a vs->¬P' t a/\QK X.K H' t a vs)->S9 X.K k H' a vs:=by
 cases d with
 |lst t f =>
  cases e;obtain⟨a,vs,c,p,q,b⟩:=h.Rf;exact⟨a,vs,c,q.1,b,λP' H' _ d=>(d t a vs p q).2.1⟩
 |tup f =>
  cases e;obtain⟨a,vs,c,q,b⟩:=h.Qq;exact⟨a,vs,c,q.w,b,λP' H' b _=>(b a vs q).w⟩
 |ON=>cases e
 |bl _=>cases e
 |int _=>cases e
 |str _=>cases e
 |exc _=>cases e
 |obj _ _ _=>cases e
 |SR=>cases e
 |ra _=>cases e
 |RD _ _=>cases e
def Le(b:DA):DA:=λa R=>b a λg=>∃d c f e b a,g=[d,c]/\gP d=some (f,b)/\gP c=some (e,a)/\R (List.zipWith (λx y=>D.tup [x,y]) b a)
def sS {a b:Expr} {p:Pos} (hg:Gl X "zip") (hm:X.mg "zip" = none) (ha:SU X [a,b] ta) (hs:starEach [a,b] X.env=(false,eval a X.env)::starEach [b] X.env:=by rfl) (Xt:(backTo pos (starEach [b] X.env)).any (·.1)=false:=by rfl) :
  UA X (.Tuple es kt tp) (.Call (.Name "zip" p) [a,b] [] pos) (Le ta):=by
 intro k s σ H W ρ R I r h;refine Call_ (cc I hg hm boot_zip (PyProof.Rows.callWith_type1 (Oj (ha pos k s σ H W ρ _ I r h) λus f Ol=>?_) hs Xt));obtain⟨vs,H1,ds,l,r1,e1,hd,q1⟩:=Ol;obtain⟨d1,d2,k1,k2,m,u,e,g1,g2,q⟩:=q1;subst e;obtain⟨v1,v2,rfl,Uy,E⟩:=fN hd;obtain⟨l1,M,e2,z,J,up1⟩:=Uy.seq g1;obtain⟨l2,L,e3,w,G,ZU⟩:=E.seq g2;subst e2 e3;cases r1 with
 |cons ra A =>
  cases A with
  |cons rb A =>
   cases A;cases ra;cases rb;obtain⟨us1,_,p1⟩:=z.list l;obtain⟨us2,_,p2⟩:=w.list l;have nn:∀j:Nat,f.heap.objs.size<=f.heap.objs.size+j:=λj=>XX _ j
   refine Im p1 p2 λh' Z kp=>?_
   refine wpAny_pyIter_zip Z.z ?_;have Dz:Ap (f.heap.objs.size+4) (f.heap.objs.size+2) (f.heap.objs.size+3) f.heap.objs.size (f.heap.objs.size+1):=by constructor<;>simp
   refine⟨f.heap.objs.size+4,[f.heap.objs.size+4,f.heap.objs.size+2,f.heap.objs.size+3,f.heap.objs.size,f.heap.objs.size+1],_,_,H1,_,rfl,l.kept (t':=f.toks) kp,e1,Hv k1 k2 l1 l2 _ _ _ _ _ Dz,Z,λc U=>?_,?_,q⟩;have TQ:f.heap.objs.size<=c:=by
    simp at U;rcases U with q|q|q|q|q<;>subst q<;>first|exact nn _|exact O5 _
   exact l.VY TQ (l.OB.fresh TQ);intro P' t n o Y i;have N:=up1 P' t n o;have g:=ZU P' t n o;have n1:=J.len;have n2:=G.len;have Q:(List.zipWith (λx y=>D.tup [x,y]) m u).length=min m.length u.length:=List.length_zipWith;refine⟨λd=>?_,λv H3 y d=>?_,λd=>⟨M,L,N,g,?_⟩⟩;obtain⟨x,C,_⟩:=J.get (i:=i) (d:=m[i]'(by lia)) (by simp);obtain⟨y,B,_⟩:=G.get (i:=i) (d:=u[i]'(by lia)) (by simp);exact⟨M,L,x,y,N,g,C,B⟩;obtain⟨T,x,O,e,nT,eH,C,B⟩:=y;subst e eH;obtain⟨dx,Tq,SM⟩:=J.bA (C M N);obtain⟨dy,Wf,Uw⟩:=G.bA (B L g);have sm:ar t (L2.upd t T (.tup [x,O])):=ar.upd nT;refine⟨sm,.tup [dx,dy],by simp[List.getElem?_zipWith,Tq,Wf],Den.tup (OT.of aD) (ah.cons ((Den.map n o Y dx x SM).same sm) (ah.one ((Den.map n o Y dy O Uw).same sm)))⟩;by_cases hz:m.length<=i;exact .inl (W5 (by lia));exact .inr (W5 (by lia))
end
open PySem PySem.Spec PyProof.Rows L2
def R3(X:Cx)(e:Expr)(t:DA):Prop :=
 ∀ (b:yab) (s:Shared) (d:St) (H:Hp) (W:Own) (a:Ro) (Q:yas->Prop),Inv X b d H s->Rel X W H d a->t a Q →
  wpAny (model X.prog X.w) X.A (eval e X.env) (λu g=>∃a e c f,u=.ref a/\Inv X b d c g/\ar H c/\H a=none/\X.K.lookup a=none/\c a=some (.lst e)/\ah X.K (λt b=>W.bad t b∨b=a) c f e/\Q f) X.xe s
def KU(t:DA):DE:=λa Q=>t a λa=>Q (.lst true a)
section
variable{X:Cx}{e:Expr}{t:DA}{pos:Pos}
def R3.TZ(h:R3 X e t):OD X e (KU t):=by
 intro a s b H W c Q I r d;refine Oj (h a s b H W c _ I r d) λu j d=>?_
 obtain⟨a,i,g,l,e,f,sm,n,k,c,b,q⟩:=d;subst e;exact⟨.ref a,g,_,f,rfl,sm,Den.lst (r.fresh n) (.new c k) (b.OC λ_ _ z=>.inl z),q⟩
def R3.of(h:PE X e te)(k:∀c H W ρ Q,Rel X W H c ρ->t ρ Q->te c H λv H'=>∃a vs ds d,v=.ref a/\ar H d/\d a=none/\H'=L2.upd d a (.lst vs)/\ah X.K W.bad d ds vs/\Q ds)(f:∀b c H s a vs,Inv X b c H s->H a=some (.lst vs)->X.K.lookup a=none):R3 X e t:=by
 intro b s c H W ρ Q I r g;refine Oj (h b s c H _ I (k c H W ρ Q r g)) λu i h=>?_
 obtain⟨v,H',b,c,a,vs,ds,d,e,sm,n,g,d,q⟩:=h;subst e g;cases c;exact⟨a,vs,_,ds,rfl,b,sm.trans (ar.upd n),sm.free n,f _ _ _ _ a vs b aD,aD,ah.apart n (f _ _ _ _ a vs b aD) d,q⟩
def Inv.YY{o:HO}(I:Inv X pins σ H s)(h:H a=some o):X.K.lookup a=none:=by
 cases e:X.K.lookup a with
 |none=>rfl
 |some b =>
  have:=(I.bs a b (I.ok.mod.X3 a b e)).2
  lia
def HM(i:Nat)(t:DA):DS:=λE a=>t a λb=>E.nx (a.set i (some (.own b)))
def IT{x:Str}(i:Nat)(l:X.N.Nodup)(f:R3 X e t)(b:X.N[i]?=some x:=by rfl)(g:Loc X.env.scope x:=by first|exact Or.inl rfl|exact Or.inr rfl)(hs:swapsWith e (some (.Name x pos')) pos.line X.env=pure false:=by rfl)
  (j:X.fn x=true∨X.env.scope.names.lookup x=some .local:=by first|exact .inl rfl|exact .inr rfl|assumption):Q4 X (.Assign [.Name x pos'] e pos) (HM i t):=by
 intro a s c H W d E I r h;refine zC8 (Oj (f a s c H W d _ I r h) λu w m=>?_) hs;obtain⟨a,p,o,y,d,c,sm,n,k,i,h,f⟩:=m;subst d;obtain⟨d,m⟩:=r.U2 (Inv.TJ c b) sm n k i h;exact cN (v:=.ref a) c l b g rfl (λq a=>⟨_,_,o,a,m,_,d,f⟩) j
end
mutual
def kc:D->Bool
 |.tup a=>di a
 |.obj _ _ a=>di a
 |.RD _ a=>di a
 |.ra _=>false
 |.lst _ _=>false
 |_=>true
def di:yas->Bool
 |[]=>true
 |d::a=>kc d && di a
end
mutual
def cV:D->Bool
 |.tup a=>fM a
 |.obj _ _ a=>fM a
 |.RD _ a=>fM a
 |.ra _=>false
 |.lst t a=>t && fM a
 |_=>true
def fM:yas->Bool
 |[]=>true
 |d::a=>cV d && fM a
end
section
variable{K:yac}{P P':yak}{H:Hp}
mutual
theorem Den.Vj:∀(d:D) (v:V),kc d=true->Den K P H d v->Den K P' H d v
 |.ON,_,_,h=>by simpa only[Den]using h
 |.bl _,_,_,h=>by simpa only[Den]using h
 |.int _,_,_,h=>by simpa only[Den]using h
 |.str _,_,_,h=>by simpa only[Den]using h
 |.exc _,_,_,h=>by simpa only[Den]using h
 |.obj C f c,_,n,h=>by rw[kc]at n;simp only[Den]at h ⊢;obtain⟨a,d,b,e,q,l,k,r⟩:=h;exact⟨a,d,b,e,q,l,k,ah.Vj c b n r⟩
 |.SR,_,_,h=>by simpa only[Den]using h
 |.RD g c,_,n,h=>by rw[kc]at n;simp only[Den]at h ⊢;obtain⟨a,o,d,b,e,q,l,k,r⟩:=h;exact⟨a,o,d,b,e,q,l,k,ah.Vj c b n r⟩
 |.ra _,_,n,_=>by rw[kc]at n;cases n
 |.lst _ _,_,n,_=>by rw[kc]at n;cases n
 |.tup c,_,n,h=>by rw[kc]at n;simp only[Den]at h ⊢;obtain⟨a,b,e,q,r⟩:=h;exact⟨a,b,e,q,ah.Vj c b n r⟩
theorem ah.Vj:∀(ds:yas) (vs:yar),di ds=true->ah K P H ds vs->ah K P' H ds vs
 |[],_,_,h=>by simpa only[ah]using h
 |d::ds,_,n,h=>by rw[di,Xb]at n;simp only[ah]at h ⊢;obtain⟨v,r,e,b,a⟩:=h;exact⟨v,r,e,Den.Vj d v n.1 b,ah.Vj ds r n.2 a⟩
end
mutual
theorem Den.T1(k:∀a,P' true a->P true a):∀(d:D) (v:V),cV d=true->Den K P H d v->Den K P' H d v
 |.ON,_,_,h=>by simpa only[Den]using h
 |.bl _,_,_,h=>by simpa only[Den]using h
 |.int _,_,_,h=>by simpa only[Den]using h
 |.str _,_,_,h=>by simpa only[Den]using h
 |.exc _,_,_,h=>by simpa only[Den]using h
 |.obj C g c,_,n,h=>by rw[cV]at n;simp only[Den]at h ⊢;obtain⟨a,d,b,e,q,l,f,r⟩:=h;exact⟨a,d,b,e,q,l,f,ah.T1 k c b n r⟩
 |.SR,_,_,h=>by simpa only[Den]using h
 |.RD i c,_,n,h=>by rw[cV]at n;simp only[Den]at h ⊢;obtain⟨a,o,d,b,e,q,l,f,r⟩:=h;exact⟨a,o,d,b,e,q,l,f,ah.T1 k c b n r⟩
 |.ra _,_,n,_=>by rw[cV]at n;cases n
 |.lst t c,_,n,h=>by rw[cV,Xb]at n;obtain⟨f,d⟩:=n;subst f;simp only[Den]at h ⊢;obtain⟨a,b,e,p,q,r⟩:=h;exact⟨a,b,e,λz=>p (k a z),q,ah.T1 k c b d r⟩
 |.tup c,_,n,h=>by rw[cV]at n;simp only[Den]at h ⊢;obtain⟨a,b,e,q,r⟩:=h;exact⟨a,b,e,q,ah.T1 k c b n r⟩
theorem ah.T1(k:∀a,P' true a->P true a):∀(ds:yas) (vs:yar),fM ds=true->ah K P H ds vs->ah K P' H ds vs
 |[],_,_,h=>by simpa only[ah]using h
 |d::ds,_,n,h=>by rw[fM,Xb]at n;simp only[ah]at h ⊢;obtain⟨v,r,e,b,a⟩:=h;exact⟨v,r,e,Den.T1 k d v n.1 b,ah.T1 k ds r n.2 a⟩
end
end
def Own.soft(W:Own)(i:Nat)(a:Addr):Own:=⟨W.B,λj=>if j=i then none else W.O j,λb=>W.S b∨b=a⟩
section
variable{X:Cx}
theorem Rel.soft{i:Nat}(r:Rel X W H σ ρ)(e:ρ[i]?=some (some (.own ds))):∃a,W.O i=some a/\Rel X (W.soft i a) H σ (ρ.set i (some (.val (.lst false ds))))/\∀b,W.bad true b->(W.soft i a).bad true b:=by
 obtain⟨a,u,g,n,o,s⟩:=r.oH i ds e;have q:i<ρ.length:=(QH.mp e).1;have e:∀j b,(W.soft i a).O j=some b->j≠i/\W.O j=some b:=λj b h=>by
  have l:(if j=i then none else W.O j)=some b:=h
  lia
 have c:∀t b,(W.soft i a).bad t b->W.bad t b:=λt b z=>by
  rcases z with z|⟨j,z⟩| ⟨d,z2⟩;exact .inl z;exact .inr (.inl ⟨j,(e j b z).2⟩);rcases z2 with z2|z2;exact .inr (.inr ⟨d,z2⟩);subst z2;exact .inr (.inl ⟨i,g⟩)
 have p:¬(W.soft i a).bad false a:=λz=>by
  rcases z with z|⟨j,z⟩| ⟨d,_⟩;exact(r.kn i a g).2.1.1 z;exact(e j a z).1 (r.inj j i a (e j a z).2 g);cases d
 refine⟨a,g,⟨λj d h=>?_,λj x h=>?_,λj k b l m=>r.inj j k b (e j b l).2 (e k b m).2,λj b h=>?_,λj b h=>r.ke j b (e j b h).2,r.bt,λb h=>?_,r.ent,r.tab⟩,λb z=>?_⟩;by_cases f:j=i;subst f;rw[UP q]at h;cases h;exact⟨.ref a,n,Den.lst p (.any (SqL.of o)) (s.OC c)⟩;rw[Rc (Ne.symm f)]at h;obtain⟨w,l,m⟩:=r.val j d h;exact⟨w,l,m.OC c⟩;by_cases f:j=i
 simp_all
 rw[Rc (Ne.symm f)]at h;obtain⟨b,a,l,m,p,d⟩:=r.own j x h;exact⟨b,a,by show(if j=i then none else W.O j)=_;rw[Oc f];exact l,m,p,d.OC c λk c q=>(by show(if YN σ.length j k=i then none else W.O (YN σ.length j k))=_;rw[Oc (pD (QH.mp n).1)];exact q)⟩
 obtain⟨k,⟨d,c⟩,a⟩:=r.kn j b (e j b h).2;refine⟨k,⟨d,λz=>z.elim c λz=>?_⟩,a⟩;subst z;exact(e j b h).1 (r.inj j i b (e j b h).2 g);rcases h with h|h;exact r.st b h;subst h;exact⟨_,o⟩;rcases z with z|⟨j,z⟩| ⟨_,z⟩;exact .inl z;by_cases f:j=i;subst f;rw[g]at z;cases z;exact .inr (.inr ⟨rfl,.inr rfl⟩);exact .inr (.inl ⟨j,by show(if j=i then none else W.O j)=_;rw[Oc f];exact z⟩);exact .inr (.inr ⟨rfl,.inl z⟩)
variable{e:Expr}{te:DE}{tt:DT}{ta:DA}
def HS(i:Nat)(t:DE):DE:=λa Q=>∃b,a[i]?=some (some (.own b))/\t (a.set i (some (.val (.lst false b)))) λd=>cV d=true/\Q d
def DF(i:Nat)(t:DT):DT:=λa Q=>∃b,a[i]?=some (some (.own b))/\t (a.set i (some (.val (.lst false b)))) Q
def IS(i:Nat)(h:OD X e te):OD X e (HS i te):=by intro b s d H W k Q I r c;obtain⟨n,g,c⟩:=c;obtain⟨a,m,f,a⟩:=r.soft g;exact Oj (h b s d H _ _ _ I f c) λu l h=>(by obtain⟨v,j,d,i,b,f,c,g,q⟩:=h;exact⟨v,j,d,i,b,f,Den.T1 a d v g c,q⟩)
def AH(i:Nat)(h:TH X e tt):TH X e (DF i tt):=by intro b s d H W g Q I r c;obtain⟨l,f,c⟩:=c;obtain⟨a,k,a,j⟩:=r.soft f;exact h b s d H _ _ _ I a c
end
section
variable{X:Cx}{pos:Pos}
theorem ah.take{K:yac}{P:yak}{H:Hp}:∀{ds:yas} {vs:yar} (n:Nat),ah K P H ds vs->ah K P H (ds.take n) (vs.take n)
 |_,_,0,_=>by simp_all [List.take_zero,ah.nil]
 |[],_,_+1,h=>by subst h;exact ah.nil
 |x::r,_,n+1,h=>by obtain⟨u,w,rfl,b,a⟩:=h;exact ah.cons b (ah.take n a)
theorem ah.drop{K:yac}{P:yak}{H:Hp}:∀{ds:yas} {vs:yar} (n:Nat),ah K P H ds vs->ah K P H (ds.drop n) (vs.drop n)
 |_,_,0,h=>by grind
 |[],_,_+1,h=>by subst h;exact ah.nil
 |x::r,_,n+1,h=>by obtain⟨u,w,rfl,b,a⟩:=h;exact ah.drop n a
theorem ah.rev{K:yac}{P:yak}{H:Hp}:∀{ds:yas} {vs:yar},ah K P H ds vs->ah K P H ds.reverse vs.reverse
 |[],_,h=>by subst h;exact ah.nil
 |x::r,_,h=>by
  obtain⟨u,w,rfl,b,a⟩:=h
  simp_all [Zu,ah.rev,append,ah.one]
def wI(i:Nat)(C:yas->Prop)(f:yas->yas):DS:=λE b=>∃a,b[i]?=some (some (.own a))/\C a/\E.nx (b.set i (some (.own (f a))))
def xR {x name:Str} {id:String} {e c b:Pos} {j:V->yar->Hp->VK->Prop} {C:yas->Prop} {f:yas->yas} (g:yar->yar) (i:Nat) (d:Slot "list" name id) (h:typeOf (.builtin id)=pure (.type "method_descriptor")) (m:MtM X id j)
  (l:∀(a:Addr) (vs:yar) (ds:yas) (H:Hp) (Q:VK),H a=some (.lst vs)->vs.length=ds.length->C ds->(∀v,Q v (L2.upd H a (.lst (g vs))))->j (.ref a) [] H Q) (o:∀(K:yac) (P:yak) (H:Hp) (ds:yas) (vs:yar),ah K P H ds vs->ah K P H (f ds) (g vs))
  (n:X.N[i]?=some x:=by rfl) (k:VB X.env.scope x:=by first|exact Or.inl rfl|exact Or.inr (Or.inl rfl)|exact Or.inr (Or.inr rfl)) (p:(x==("__debug__" : Str))=false:=by decide) (q:(x==("__classdict__" : Str))=false:=by decide)
  (s:attributeBase (.Name x e) name X.env (eval (.Name x e) X.env)=eval (.Name x e) X.env:=by rfl) (r:(c.endLine==b.line)=true:=by rfl)
  (hs:swapsWith (.Call (.Attribute (.Name x e) name c) [] [] b) none pos.line X.env=pure false:=by rfl):Q4 X (.Expr (.Call (.Attribute (.Name x e) name c) [] [] b) pos) (wI i C f):=by
 have b:=jV (pos:=pos) (yU PySem.F.plainAttrs_list d h m (eR n k p q) s r) hs;refine Q4.of b λt H W u E r w h=>?_
 obtain⟨ds,d,j,h⟩:=h;obtain⟨a,vs,g,c,b,e⟩:=r.oH i ds d;obtain⟨f,i⟩:=r.VE d g c b (o _ _ _ ds vs e);exact⟨.ref a,c,.inl ⟨rfl,_,SqL.of b⟩,l a vs ds H _ b e.len j λv=>⟨W,_,i,f,h⟩⟩
theorem ah.dropLast{K:yac}{P:yak}{H:Hp}{ds:yas}{vs:yar}(h:ah K P H ds vs):ah K P H ds.dropLast vs.dropLast:=by rw[List.dropLast_eq_take,List.dropLast_eq_take,h.len];exact h.take _
def Ln {x:Str} {c b a:Pos} (i:Nat) (e:X.N[i]?=some x:=by rfl) (d:VB X.env.scope x:=by first|exact Or.inl rfl|exact Or.inr (Or.inl rfl)|exact Or.inr (Or.inr rfl)) (f:(x==("__debug__" : Str))=false:=by decide) (j:(x==("__classdict__" : Str))=false:=by decide)
  (l:attributeBase (.Name x c) "pop" X.env (eval (.Name x c) X.env)=eval (.Name x c) X.env:=by rfl) (k:(b.endLine==a.line)=true:=by rfl)
  (hs:swapsWith (.Call (.Attribute (.Name x c) "pop" b) [] [] a) none pos.line X.env=pure false:=by rfl):Q4 X (.Expr (.Call (.Attribute (.Name x c) "pop" b) [] [] a) pos) (wI i (λds=>0<ds.length) List.dropLast) :=
 xR List.dropLast i PySem.F.slot_list_pop PySem.F.type_list_pop Eo (λa b ds H Q g m n q=>by
  have c:b.length - 1<b.length:=by omega
  exact⟨a,b,b[b.length - 1],rfl,rfl,g,by simp[c],q _⟩) (λ_ _ _ _ _ h=>h.dropLast) e d f j l k hs
def Gk {x:Str} {b a:Pos} (i:Nat) (d:X.N[i]?=some x:=by rfl) (c:VB X.env.scope x:=by first|exact Or.inl rfl|exact Or.inr (Or.inl rfl)|exact Or.inr (Or.inr rfl)) (e:(x==("__debug__" : Str))=false:=by decide) (g:(x==("__classdict__" : Str))=false:=by decide)
  (k:attributeBase (.Name x px) "clear" X.env (eval (.Name x px) X.env)=eval (.Name x px) X.env:=by rfl) (j:(b.endLine==a.line)=true:=by rfl)
  (hs:swapsWith (.Call (.Attribute (.Name x px) "clear" b) [] [] a) none pos.line X.env=pure false:=by rfl):Q4 X (.Expr (.Call (.Attribute (.Name x px) "clear" b) [] [] a) pos) (wI i (λ_=>True) λ_=>[]) :=
 xR (λ_=>[]) i PySem.F.slot_list_clear PySem.F.type_list_clear yJ (λa b n H Q f l m q=>⟨a,b,rfl,rfl,f,q _⟩) (λ_ _ _ _ _ h=>ah.nil) d c e g k j hs
def NF(i:Nat)(f:Int->Int->Int)(te:DE):DS:=λE c=>∃a,c[i]?=some (some (.val (.int a)))/\te c λd=>∃b,d=.int b/\E.nx (c.set i (some (.val (.int (f a b)))))
def Ll{x:Str}(i:Nat)(h:X.N.Nodup)(g:OD X e te)(b:PIp X op (ipI f))(c:X.N[i]?=some x:=by rfl)(a:Loc X.env.scope x:=by first|exact Or.inl rfl|exact Or.inr rfl)
  (d:X.fn x=true∨X.env.scope.names.lookup x=some .local:=by first|exact .inl rfl|exact .inr rfl|assumption):Q4 X (.AugAssign (.Name x pos') op e pos) (NF i f te):=by
 refine Q4.of (Mo h c a g.pe b d) λe H W b E r g h=>?_
 obtain⟨a,j,h⟩:=h;obtain⟨v,d,f⟩:=r.val i _ j;have z:=f.Pk;subst z;refine⟨.int a,d,W,b,_,r,h,λk h d d f q=>?_⟩;obtain⟨b,rfl,q⟩:=q;have z:=f.Pk;subst z;have f:i<e.length:=by rw[g];exact(QH.mp c).1
 exact⟨a,b,rfl,rfl,W.drop i,_,(OQ.same d).trans (OQ.drop W h i),(r.same d).put f (Den.int _),q⟩
variable{e:Expr}{te:DE}{p:Pos}
def HR(te:DE):DA:=λa Q=>te a λd=>∃k a,gP d=some (k,a)/\Q a
def xP{K:yac}{P:yak}{H:Hp}{d:D}{v:V}{k:Bool}{ds:yas}(h:Den K P H d v)(e:gP d=some (k,ds)):∃a vs,v=.ref a/\(SqL K H a vs∨OT K H a vs)/\ah K P H ds vs:=by
 cases d with
 |lst t d =>
  cases e;obtain⟨a,vs,c,p,q,b⟩:=h.Q3;exact⟨a,vs,c,.inl q,b⟩
 |tup d =>
  cases e;obtain⟨a,vs,c,q,b⟩:=h.Qq;exact⟨a,vs,c,.inr q,b⟩
 |ON=>cases e
 |bl _=>cases e
 |int _=>cases e
 |str _=>cases e
 |exc _=>cases e
 |obj _ _ _=>cases e
 |SR=>cases e
 |ra _=>cases e
 |RD _ _=>cases e
def uq (c:Gl X "list") (b:X.mg "list" = none) (d:OD X e te) (a:starEach [e] X.env=(false,eval e X.env)::starEach [] X.env:=by rfl) (f:(backTo pos (starEach [] X.env)).any (·.1)=false:=by rfl):R3 X (.Call (.Name "list" p) [e] [] pos) (HR te):=by
 refine R3.of (EK xp c b boot_list (gw d.pe lW a) (by decide) (by decide) a f) (λn H W a Q r h=>?_) λ_ _ _ _ _ _ I h=>Inv.YY I h
 refine⟨W,a,_,r,h,λv m d h d q=>?_⟩;obtain⟨k,i,g,q⟩:=q;obtain⟨a,b,f,c,j⟩:=xP d g;subst f;exact⟨a,b,rfl,c.imp id OT.w,λl a=>⟨l,b,i,m,rfl,h,a,rfl,j,q⟩⟩
theorem bP{K:yac}{P:yak}{H:Hp}:∀{ns:yaf} {vs:yar},ah K P H (ns.map D.int) vs->vs=ns.map V.int
 |[],_,h=>by simpa only[Vy,ah]using h
 |n::r,_,h=>by obtain⟨v,w,rfl,b,a⟩:=h;rw[b.Pk,bP a];rfl
def nY (w:X.calm=true):eZ X (.builtin "sum") (λds Q=>∃(t:Bool) (ns:yaf),ds=[.lst t (ns.map D.int)]/\Q (.int ns.sum)):=by
 intro d s A H W ds C E Q I G r u q;obtain⟨t,ns,e,q⟩:=q;subst e;obtain⟨v,rfl,x⟩:=mq u;obtain⟨a,B,y,_,n,m⟩:=x.Q3;subst y;cases r with
 |cons j i =>
  cases i;cases j;obtain⟨h,c,k,_⟩:=I.list n;rw[bP m]at c;have f:=intsAre_of c;obtain⟨b,g⟩:=f.allInts.items;have o:s.heap.IsList a (intItems b):=by rw[<- g];exact k.isList
  refine sum_intListG (I.ok.hd w) o λM J L l=>?_
  have z:preSum (numAt b) b.size=ns.sum:=by rw[preSum_eq,W4 (by simp),<- nums_intItems,<- g,show h.toArray.toList=h from rfl,f.numsOf]
  rw[z];exact⟨.int ns.sum,H,_,I.kept l,⟨_,rfl⟩,ar.refl H,Den.int _,q⟩
theorem Vals.rev:∀{xs:yar} {a:yad},Vals xs a->Vals xs.reverse a.reverse
 |_,_,.nil=>.nil
 |_,_,.cons r t=>by rw[Zu,Zu];exact(Vals.rev t).append (.cons r .nil)
def cutD(xs:yas)(lo a:yaq):yas:=(xs.drop (HT.Pa xs.length 0 lo)).take (HT.Pa xs.length xs.length a - HT.Pa xs.length 0 lo)
def ah.cut{K:yac}{P:yak}{H:Hp}{ds:yas}{vs:yar}(lo a:yaq)(h:ah K P H ds vs):ah K P H (cutD ds lo a) (nZ vs lo a):=by unfold cutD nZ;rw[h.len];exact(h.drop _).take _
abbrev DO:=Ro->(yaq->Prop)->Prop
def WU(X:Cx)(e:Option Expr)(t:DO):Prop :=
 ∀ (a:yab) (s:Shared) (b:St) (H:Hp) (W:Own) (c:Ro) (Q:yaq->Prop),Inv X a b H s->Rel X W H b c->t c Q →
  wpAny (model X.prog X.w) X.A (evalPart e X.env) (λu d=>∃o c,Inv X a b c d/\IsPart u o/\ar H c/\Q o) X.xe s
def c7:DO:=λ_ Q=>Q none
def sk(te:DE):DO:=λa Q=>te a λd=>∃i,d=.int i/\Q (some i)
def cf:WU X none c7:=by intro a s b H W c Q I r h;exact wpAny_pure ⟨none,H,I,.none,ar.refl H,h⟩
def cw(d:OD X e te):WU X (some e) (sk te):=by
 intro a s b H W c Q I r h;refine Oj (d a s b H W c _ I r h) λu j f=>?_
 obtain⟨v,h,d,g,a,d,b,i,c,q⟩:=f;subst c;have z:=b.Pk;subst z;obtain⟨t,rfl⟩:=a;exact⟨some i,h,g,.int i t,d,q⟩
variable{lo hi st:Option Expr}{tl th ts:DO}{p2:Pos}
def rJ{R:D->yaq->yaq->yaq->Prop}(n:OD X e te)(m:WU X lo tl)(o:WU X hi th)(q:WU X st ts)(I:Inv X pins σ H s)(r:Rel X W H σ ρ)
  (h:te ρ λd=>tl ρ λl=>th ρ λu=>ts ρ λk=>R d l u k)
  (A:∀(v:V) (a g f i:Value) (l u k:yaq) (d:D) (b:Addr) (H':Hp) (j:Shared),Inv X pins σ H' j->ar H H'->RelV v a->Den X.K W.bad H' d v->j.heap.IsSliceOf b g f i->IsPart g l->IsPart f u->IsPart i k->R d l u k →
   ∃ T id,typeLookup (.type T) "__getitem__" = pure (some (.builtin id))/\j.TypeIs a T/\wpAny (model X.prog X.w) X.A (getItem a (.ref b)) Q X.xe j)
  (c:∀a b,∃ops,subscripted (.Slice lo hi st p2) false a b=operate ops (getItem a b)):wpAny (model X.prog X.w) X.A (eval (.Subscript e (.Slice lo hi st p2) pos) X.env) Q X.xe s:=by
 refine Subscript_ (Oj (n pins s σ H W ρ _ I r h) λa h n=>?_);obtain⟨v,x,d,w,t,s,B,j⟩:=n;have b:=r.same s;refine wpAny_Slice (Oj (m pins h σ x W ρ _ w b j) λg h ⟨l,w,r,y,j,m⟩=>Oj (o pins h σ w W ρ _ r (b.same j) m) λf h ⟨u,w,r,x,m,o⟩=>Oj (q pins h σ w W ρ _ r ((b.same j).same m) o) λi h n=>?_);obtain⟨k,r,b,z,o,w⟩:=n;have C:Inv X pins σ r {h with heap:=h.heap.push {cls:=.type "slice", data:=.fields #[g,f,i]} }:=b.kept (t':=h.toks) λb ob q=>Po _ q
 obtain⟨T,id,q,b,n⟩:=A v a g f i l u k d h.heap.objs.size r _ C (s.trans (j.trans (m.trans o))) t (B.same (j.trans (m.trans o))) (Heap.IsSliceOf.new ..) y x z w;obtain⟨ops,d⟩:=c a (.ref h.heap.objs.size);exact tail_any (ops:=ops) b q n d
def K4(te:DE)(tl th:DO):DA:=λa Q=>te a λd=>tl a λl=>th a λu=>∃t a,d=.lst t a/\Q (cutD a l u)
def K5(te:DE)(tl th:DO):DE:=λa Q=>te a λd=>tl a λl=>th a λu=>∃a,d=.tup a/\¬(HT.Pa a.length 0 l=0/\HT.Pa a.length a.length u=a.length)/\Q (.tup (cutD a l u))
def qy(f:yar->yar)(g:yas->yas)(I:Inv X pins σ H' s)(r:Rel X W H' σ ρ)(sm:ar H H')(m:RelV v vv)(z:Den X.K W.bad H' (.lst tg ds) v)(hs:s.heap.IsSliceOf sl vl vu vk)(o:IsPart vl l)(n:IsPart vu u)(w:IsPart vk k)(k0:k≠some 0)
  (x:∀c:yad,∃g':yad->yad,slicePick c.toArray l u k=(g' c).toArray/\∀vs,Vals vs c->Vals (f vs) (g' c)/\(f vs).length<=vs.length) (y:∀vs,ah X.K W.bad H' ds vs->ah X.K W.bad H' (g ds) (f vs)) {Q:yas->Prop} (q:Q (g ds)) :
  ∃ T id,typeLookup (.type T) "__getitem__" = pure (some (.builtin id))/\s.TypeIs vv T/\wpAny (model X.prog X.w) X.A (getItem vv (.ref sl)) (λi j=>∃a vs d ds,i=.ref a/\Inv X pins σ d j/\ar H d/\H a=none/\X.K.lookup a=none/\d a=some (.lst vs)/\ah X.K (λt b=>W.bad t b∨b=a) d ds vs/\Q ds) X.xe s:=by
 obtain⟨a,vs,a,_,j,l⟩:=z.Q3;subst a;cases m;obtain⟨c,d,a,i⟩:=I.list j;have h:=d.length;refine⟨"list", _,slot_list_getitem.lookup,a.isList.typeIs,?_⟩;refine wpAny_getItem_list_slice a.isList hs o n w k0 ?_ (by rw[RF]<;>lia);obtain⟨g',e,j⟩:=x c;rw[e];obtain⟨a,k⟩:=j vs d;have c:H' s.heap.objs.size=none:=I.OB.fresh (O5 _);refine⟨s.heap.objs.size,f vs,_,g ds,rfl,I.laid (t':=s.toks) (o:=.lst (f vs)) (λb ob q=>Po _ q) (O5 _) ⟨PL k i,_,0,a,Rh _ rfl⟩,sm.trans (ar.upd c),sm.free c,Inv.Q5 I,aD,ah.apart c (Inv.Q5 I) (y vs l),q⟩
def eK(i:OD X e te)(f:WU X lo tl)(g:WU X hi th):R3 X (.Subscript e (.Slice lo hi none p2) pos) (K4 te tl th):=by
 intro c s o H W b Q I r h;refine rJ (st:=none) (ts:=c7) (R:=λd l u k=>k=none/\∃t a,d=.lst t a/\Q (cutD a l u)) i f g cf I r ?_ ?_ (λ_ _=>⟨_,rfl⟩);have f:(λd=>tl b λl=>th b λu=>c7 b λk=>k=none/\∃t a,d=D.lst t a/\Q (cutD a l u))=λd=>tl b λl=>th b λu=>∃t a,d=D.lst t a/\Q (cutD a l u):=by
  funext d
  congr 1
  funext l
  congr 1
  funext u
  exact propext ⟨λz=>z.2,λz=>⟨rfl,z⟩⟩
 rw[f];exact h;intro v w y x A l u k d B H' C n sm d j i g f h b;obtain⟨k,t,a,m,q⟩:=b;subst k m;exact qy (λb=>nZ b l u) (λa=>cutD a l u) n (r.same sm) sm d j i g f h (by simp) (λa=>⟨λa=>(a.drop (HT.Pa a.length 0 l)).take (HT.Pa a.length a.length u - HT.Pa a.length 0 l),wC a l u,λb a=>⟨by unfold nZ;rw[a.length];exact(a.drop _).take _,qu b l u⟩⟩) (λb a=>a.cut l u) q
def K1(te:DE):DA:=λa Q=>te a λd=>∃t a,d=.lst t a/\Q a.reverse
def xQ(c:OD X e te):R3 X (.Subscript e (.Slice none none (some (.UnaryOp .USub (.Constant (.int 1) j pc) f)) p2) pos) (K1 te):=by
 intro g s o H W b Q I r h;refine rJ (ts:=sk (xI (dC (.int 1)))) (tl:=c7) (th:=c7) (R:=λd l u k=>l=none/\u=none/\k=some (-1)/\∃t a,d=.lst t a/\Q a.reverse) c cf cf (cw (b6 ae)) I r ?_ ?_ (λ_ _=>⟨_,rfl⟩);have c:(λd=>c7 b λl=>c7 b λu=>sk (xI (dC (.int 1))) b λk=>l=none/\u=none/\k=some (-1)/\∃t a,d=D.lst t a/\Q a.reverse)=λd=>∃t a,d=D.lst t a/\Q a.reverse:=by
  simp only[c7,sk,xI,dC,true_and]
  simp_all
 rw[c];exact h;intro v w y x z l u k d A H' B n sm b j i d f h k;obtain⟨c,m,l,t,a,a,q⟩:=k;subst c m l a;exact qy List.reverse List.reverse n (r.same sm) sm b j i d f h (by decide) (λa=>⟨List.reverse,PySem.W.krv_pick a.toArray,λa b=>⟨Vals.rev b,by grind⟩⟩) (λa a=>a.rev) q
end
section
variable{prog:Program}{w:World}{A:Around}{E:yaa}{s:Shared}{p q:Addr}{us ws:yad}{Q:yaa}
def NA(c:s.heap.IsList p us.toArray)(m:s.heap.IsList q ws.toArray)(hz:us.length+ws.length<=sizeLine)
  (h:Q (.ref s.heap.objs.size) {s with heap:=s.heap.push {cls:=.type "list", data:=.seq (us++ws).toArray} }):wpAny (model prog w) A (binaryOp .Add (.ref p) (.ref q)) Q E s:=by
 obtain⟨⟨t,l,o,g⟩,b,a,j,g3⟩:=id c;obtain⟨⟨r,k,n,f⟩,e,d,i,c⟩:=id m;simp only at a g3 d c;subst a g3 d c;refine concat_meets ⟨_,b,rfl⟩ ⟨_,e,rfl⟩ noFill_list_add seq_list_add PySem.F.slot_list_add PySem.F.entry_list_add (PySem.F.args_list_add_2 _ _) (list_addW p q us.toArray ws.toArray j i l k g f (by simpa using hz)) ⟨b,e,?_⟩;rw[show us.toArray++ws.toArray=(us++ws).toArray by simp];exact h
def je(b:IsTup s.heap p us.toArray)(i:IsTup s.heap q ws.toArray)(hz:us.length+ws.length<=sizeLine)(h0:us=[]->Q (.ref q) s)(j:ws=[]->Q (.ref p) s)
  (h:Q (.ref s.heap.objs.size) {s with heap:=s.heap.push {cls:=.type "tuple", data:=.seq (us++ws).toArray} }):wpAny (model prog w) A (binaryOp .Add (.ref p) (.ref q)) Q E s:=by
 obtain⟨⟨t,h,o,d⟩,a,k,f,g3⟩:=id b;obtain⟨⟨r,g,n,c⟩,b,m,e,l⟩:=id i;subst k g3 m l;by_cases i:us=[];exact concat_meets ⟨_,a,rfl⟩ ⟨_,b,rfl⟩ noFill_tuple_add seq_tuple_add PySem.F.slot_tuple_add PySem.F.entry_tuple_add (PySem.F.args_tuple_add_2 _ _) (tuple_addW0 p q us.toArray ws.toArray f e h g d c (by simp[i])) ⟨a,b,h0 i⟩;by_cases i:ws=[];exact concat_meets ⟨_,a,rfl⟩ ⟨_,b,rfl⟩ noFill_tuple_add seq_tuple_add PySem.F.slot_tuple_add PySem.F.entry_tuple_add (PySem.F.args_tuple_add_2 _ _) (tuple_addW1 p q us.toArray ws.toArray f e h g d c (by simp_all) (by simp[i])) ⟨a,b,j i⟩;refine concat_meets ⟨_,a,rfl⟩ ⟨_,b,rfl⟩ noFill_tuple_add seq_tuple_add PySem.F.slot_tuple_add PySem.F.entry_tuple_add (PySem.F.args_tuple_add_2 _ _) (tuple_addW2 p q us.toArray ws.toArray f e h g d c (by simp_all) (by simp_all) (by simp_all)) ⟨a,b,?_⟩;grind
end
section
variable{X:Cx}{pos:Pos}
def wN:RD2:=λx y Q=>match x,y with
 |.int i,.int j=>Q (.int (i+j))
 |.tup b,.tup a=>b.length+a.length<=sizeLine/\Q (.tup (b++a))
 |.lst _ b,.lst _ a=>b.length+a.length<=sizeLine/\Q (.lst true (b++a))
 |_,_=>False
theorem Dd(i j:Int)(Q:D->Prop):wN (.int i) (.int j) Q=Q (.int (i+j)):=rfl
theorem Kx(t u:Bool)(xs ys:yas)(Q:D->Prop):wN (.lst t xs) (.lst u ys) Q=(xs.length+ys.length<=sizeLine/\Q (.lst true (xs++ys))):=rfl
def Jw{W:Own}{H:Hp}{t:Bool}(b:∀t a,W.bad t a->∃o,H a=some o)(h:H a=none):¬W.bad t a:=by grind
set_option tactic.hygienic true in
def bc:P8 X (binaryOp .Add) wN:=by
 intro a s b H W x y v u c d Q I A w z n m q;cases x<;>cases y<;>first|exact q.elim|skip
 exact L6 a s b H W _ _ v u c d Q I A w z n m q;rename_i L b;obtain⟨p,l,y,g,k⟩:=n.Qq;obtain⟨B,d,x,f,c⟩:=m.Qq;subst y x;cases w;cases z;obtain⟨o,j,t,_⟩:=I.tuple g.w;obtain⟨a,i,r,_⟩:=I.tuple f.w;obtain⟨M,q⟩:=q;have J:=k.len;have G:=c.len;have E:=j.length;have C:=i.length;have e:o.length+a.length<=sizeLine:=by omega
 have h:H s.heap.objs.size=none:=I.OB.fresh (O5 _);refine je t r e (λe=>?_) (λe=>?_) ?_;subst e;have:l=[]:=Yq (by simpa using E);subst this;have:L=[]:=Yq (by simpa using J.symm);subst this;exact⟨.ref B,H,_,I,rfl,ar.refl H,m,q⟩;subst e;have:d=[]:=Yq (by simpa using C);subst this;have:b=[]:=Yq (by simpa using G.symm);subst this;rw[U8]at q;exact⟨.ref p,H,_,I,rfl,ar.refl H,n,q⟩;exact⟨.ref s.heap.objs.size,L2.upd H s.heap.objs.size (.tup (l++d)),_,I.laid (t':=s.toks) (λb u e=>Po _ e) (O5 _) ⟨by rw[QX];omega,o++a,j.append i,⟨_,Rh _ rfl,rfl,_,rfl⟩⟩,rfl,ar.upd h,Den.tup (OT.of aD) ((k.append c).same (ar.upd h)),q⟩;obtain⟨p,l,y,_,g,k⟩:=n.Q3;obtain⟨B,d,x,_,f,c⟩:=m.Q3;subst y x;cases w;cases z;obtain⟨o,j,t,_⟩:=I.list g;obtain⟨a,i,r,_⟩:=I.list f;obtain⟨M,q⟩:=q;have J:=k.len;have G:=c.len;have E:=j.length;have C:=i.length;have h:H s.heap.objs.size=none:=I.OB.fresh (O5 _);refine NA t.isList r.isList (by omega) ?_;exact⟨.ref s.heap.objs.size,L2.upd H s.heap.objs.size (.lst (l++d)),_,I.laid (t':=s.toks) (λb u e=>Po _ e) (O5 _) ⟨by rw[QX];omega,o++a,0,j.append i,Rh _ rfl⟩,rfl,ar.upd h,Den.lst (Jw A h) (.new aD (Inv.Q5 I)) ((k.append c).same (ar.upd h)),q⟩
def okI(x:D):Prop:=okD x/\(QL x).depth<64
def JW:RD2:=λx y Q=>okI x/\okD y/\∃a,(y=.tup a∨∃ t,y=.lst t a)/\Q (.bl (!a.any λz=>eqD z x))
theorem xf(x:D):∀ys:yas,(cC ys).any (λy=>PyData.eqv y (QL x))=ys.any λz=>eqD z x
 |[]=>by rfl
 |y::r=>by rw[cC,List.any_cons,List.any_cons,xf x r];rfl
def AU{A:Around}{d:PyData}(b:d.depth<64)(a:A.units+64<cLine):A.units+1+min (PyData.depthAll xs) d.depth<cLine:=by
 have:min (PyData.depthAll xs) d.depth<=d.depth:=Nat.min_le_right _ _
 lia
def q9(i:X.A.units+64<cLine):P8 X (compareOp .NotIn) JW:=by
 intro a s j H W x y v u l m Q I _ n o r p q;obtain⟨b,f,k,e,q⟩:=q;obtain⟨z,h⟩:=eJ I x v l r n b.1.1;obtain⟨w,g⟩:=eJ I y u m p o f.1;have c:DP X a j W H Q (.bool (!(cC k).any λy=>PyData.eqv y (QL x))) s:=by rw[xf];exact⟨.bl _,H,_,I,rfl,ar.refl H,Den.bl _,q⟩
 rcases e with e|⟨t,e⟩;subst e;have d:=f.2;exact SeqAt.notIn_tuple_reads g h (SeqAt.canLay_of_shaped d) (SeqAt.canLay_of_shaped b.1.2) (AU b.2 i) c;subst e;have d:=f.2;exact SeqAt.notIn_list_reads g h (SeqAt.canLay_of_shaped d) (SeqAt.canLay_of_shaped b.1.2) (AU b.2 i) c
def A4(i:Int):okI (.int i)=True:=eq_true ⟨A0 i,by rw[QL,PyData.depth];decide⟩
end
def PKD(X:Cx)(kws:List Keyword)(t:DA):Prop :=
 ∀ (c:Pos) (a:yab) (s:Shared) (b:St) (H:Hp) (W:Own) (d:Ro) (Q:yas->Prop),Inv X a b H s->Rel X W H b d->t d Q →
  wpAny (model X.prog X.w) X.A (evalAll ((backToKw c (keywordEach kws X.env)).map (·.2))) (DAP X a b W H Q) X.xe s
def GG:Key->D
 |.inl i=>.int i
 |.inr x=>.str x
section
variable{κ:Type} [DecidableEq κ] {K:yac}{P:yak}{H:Hp}
noncomputable def dh(kvs:List (κ×D))(k:κ):Option D:=(kvs.find? λa=>decide (a.1=k)).map (·.2)
def putD(kvs:List (κ×D))(k:κ)(d:D):List (κ×D):=if(dh kvs k).isSome=true then kvs.map (λa=>if a.1=k then(a.1,d)else a)else kvs++[(k,d)]
def tu(p:κ×D)(r:List (κ×D))(k:κ):dh (p::r) k=if p.1=k then some p.2 else dh r k:=by unfold dh;grind
theorem qV:∀{kvs:List (κ×D)} {kws:List (κ×V)} {k:κ},kws.map (·.1)=kvs.map (·.1)->ah K P H (kvs.map (·.2)) (kws.map (·.2))->match dh kvs k with|some d=>∃v,dX kws k=some v/\Den K P H d v|none=>dX kws k=none
 |[],kws,k,e,_=>by
  have:kws=[]:=by simp_all
  subst this;exact Hy
 |p::r,[],k,e,_=>by simp at e
 |p::r,q::s,k,e,h=>by
  simp at e;simp at h;obtain⟨v,u,a,f,b⟩:=h;simp at a;obtain⟨a,c⟩:=a;subst c;rw[tu];by_cases z:p.1=k
  simp_all [Og,nu]
  rw[Oc z,nr (by simp_all)];exact qV e.2 b
def uy{kvs:List (κ×D)}{kws:List (κ×V)}{d:D}(e:kws.map (·.1)=kvs.map (·.1))(h:ah K P H (kvs.map (·.2)) (kws.map (·.2)))(l:dh kvs k=some d):∃v,dX kws k=some v/\Den K P H d v:=by have:=qV (k:=k) e h;rw[l]at this;exact this
def yO{kvs:List (κ×D)}{kws:List (κ×V)}(e:kws.map (·.1)=kvs.map (·.1))(h:ah K P H (kvs.map (·.2)) (kws.map (·.2)))(l:dh kvs k=none):dX kws k=none:=by have:=qV (k:=k) e h;rw[l]at this;exact this
def Hr{kvs:List (κ×D)}{kws:List (κ×V)}(e:kws.map (·.1)=kvs.map (·.1))(h:ah K P H (kvs.map (·.2)) (kws.map (·.2))):(dX kws k).isSome=(dh kvs k).isSome:=by
 cases l:dh kvs k with
 |none=>rw[yO e h l];rfl
 |some d =>
  obtain⟨v,q,_⟩:=uy e h l;rw[q];rfl
theorem yY:∀{kvs:List (κ×D)} {kws:List (κ×V)} {k:κ} {d:D} {v:V},kws.map (·.1)=kvs.map (·.1)->ah K P H (kvs.map (·.2)) (kws.map (·.2))->Den K P H d v →
  (kws.map λa=>if a.1=k then(a.1,v)else a).map (·.1)=(kvs.map λa=>if a.1=k then(a.1,d)else a).map (·.1)/\ah K P H ((kvs.map λa=>if a.1=k then(a.1,d)else a).map (·.2)) ((kws.map λa=>if a.1=k then(a.1,v)else a).map (·.2))
 |[],kws,k,d,v,e,_,_=>by simp_all
 |p::r,[],k,d,v,e,_,_=>by simp at e
 |p::r,q::s,k,d,v,e,h,b=>by
  simp at e;simp at h;obtain⟨g,u,a,l,c⟩:=h;simp at a;obtain⟨a,f⟩:=a;subst f;obtain⟨j,i⟩:=yY (k:=k) e.2 c b;by_cases z:p.1=k
  all_goals simp_all [Og,ah.cons,Oc]
def JS{kvs:List (κ×D)}{kws:List (κ×V)}(e:kws.map (·.1)=kvs.map (·.1))(h:ah K P H (kvs.map (·.2)) (kws.map (·.2)))(a:Den K P H d v) :
  (putK kws k v).map (·.1)=(putD kvs k d).map (·.1)/\ah K P H ((putD kvs k d).map (·.2)) ((putK kws k v).map (·.2)):=by
 unfold putK putD;rw[rT,Hr e h];by_cases z:(dh kvs k).isSome=true;rw[Og z,Og z];exact yY e h a;rw[Oc z,Oc z,Q1,Q1,Q1,Q1,e];exact⟨rfl,h.append (ah.one a)⟩
end
def AF{K:yac}{P:yak}{H:Hp}{k:Key}{v:V}(h:Den K P H (GG k) v):v=kV k:=by
 cases k with
 |inl i=>exact h.Pk
 |inr x=>exact h.Xn
def PPD(X:Cx)(pos:Pos)(keys:List (Option Expr))(a:yai)(t:Ro->(List (D×D)->Prop)->Prop):Prop :=
 ∀ (b:yab) (s:Shared) (c:St) (H:Hp) (W:Own) (d:Ro) (Q:List (D×D)->Prop),Inv X b c H s->Rel X W H c d->t d Q →
  wpAny (model X.prog X.w) X.A (evalPairs (pairTrees keys a X.env pos)) (λf g=>∃d a e,Inv X b c a g/\VV d f/\ar H a/\ah X.K W.bad a (e.map (·.1)) (d.map (·.1))/\ah X.K W.bad a (e.map (·.2)) (d.map (·.2))/\Q e) X.xe s
section
variable{X:Cx}{pos:Pos}
def Rel.YZ(r:Rel X W H σ ρ){i:Nat}(h:ρ[i]?=some (some (.ob (.dk kvs)))):∃a kws,W.O i=some a/\σ[i]?=some (some (.ref a))/\H a=some (.dK kws)/\kws.map (·.1)=kvs.map (·.1)/\ah X.K W.bad H (kvs.map (·.2)) (kws.map (·.2)):=by
 obtain⟨a,o,f,d,c,b⟩:=r.own i _ h;cases b with
 |dk e b=>exact⟨a,_,f,d,c,e,b⟩
end
def Ly(kvs:List (Key×D))(r:Ro)(R:List (Key×D)->Prop):(∃ys,(some (Sl.ob (.dk kvs))::r)[0]?=some (some (Sl.ob (.dk ys)))/\R ys)=R kvs:=by grind
theorem Lz(n:Nat)(x:Option Sl)(r:Ro)(R:List (Key×D)->Prop):(∃ys,(x::r)[n+1]?=some (some (Sl.ob (.dk ys)))/\R ys)=(∃ys,r[n]?=some (some (Sl.ob (.dk ys)))/\R ys):=rfl
def J6(t:Bool)(xs:yas)(R:yas->Prop):(∃k ds,gP (.lst t xs)=some (k,ds)/\R ds)=R xs:=by apply propext;constructor;rintro⟨_,_,e,q⟩;cases e;exact q;intro q;exact⟨_,_,rfl,q⟩
def Kp{k1 k2:Bool}{xs ys:yas}(f:gP a=some (k1,xs))(d:gP b=some (k2,ys))(R:yas->Prop):(∃g e k1 k2 c vs,[a,b]=[g,e]/\gP g=some (k1,c)/\gP e=some (k2,vs)/\R (List.zipWith (λx y=>D.tup [x,y]) c vs))=R (List.zipWith (λx y=>D.tup [x,y]) xs ys):=by apply propext;constructor;rintro⟨_,_,_,_,_,_,e,b,a,q⟩;cases e;rw[f]at b;rw[d]at a;cases b;cases a;exact q;intro q;exact⟨_,_,_,_,_,_,rfl,f,d,q⟩
def MQ(t u:Bool)(xs ys:yas)(R:yas->Prop):(∃c b k1 k2 a vs,[D.lst t xs,D.lst u ys]=[c,b]/\gP c=some (k1,a)/\gP b=some (k2,vs)/\R (List.zipWith (λx y=>D.tup [x,y]) a vs))=R (List.zipWith (λx y=>D.tup [x,y]) xs ys):=Kp rfl rfl R
def IA(b:Bool):cV (.bl b)=true:=by rw[cV]<;>(intros;contradiction)
def FP(b:Int):cV (.int b)=true:=by rw[cV]<;>(intros;contradiction)
def FR:cV .ON=true:=by rw[cV]<;>(intros;contradiction)
def Di{ds:yas}{k:Int}{Q:D->Prop}(h0:0<=k)(b:k<ds.length)(h:∀d∈ds,Q d):∃d,Qw ds k=some d/\Q d:=by
 have e:k=((k.toNat:Nat):Int):=by lia
 have a:k.toNat<ds.length:=by lia
 refine⟨ds[k.toNat],?_,h _ (SE a)⟩;have q:Qw ds ((k.toNat:Nat):Int)=some ds[k.toNat]:=bf (by simp);rw[<- e]at q;exact q
def comp_map{a:Type}{wi:DA}{js:yag}{tc:DT}{te:DE}{Q:D->Prop}(xs:List a)(f:a->D)(c:a->Bool)(g:a->D)(b:∀R:yas->Prop,R (xs.map f)->wi ρ R)(hz:xs.length<=sizeLine)
  (k:∀x∈xs,∀K:Bool->Prop,K (c x)->tc (some (.val (f x))::js.map (bA ρ)) K) (i:∀x∈xs,c x=true->∀K:D->Prop,K (g x)->te (some (.val (f x))::js.map (bA ρ)) K) (q:Q (.lst true ((xs.filter c).map g))):pJ wi js tc te ρ Q:=by
 refine b _ ⟨by simp_all,λj a=>a=((xs.take j).filter c).map g,by simp,λj d a b c=>?_,λa c=>?_⟩;rw[PO]at b;cases ex:xs[j]? with
 |none=>simp_all
 |some x =>
  rw[ex]at b;have h:x∈xs:=Ql ex;have e:xs.take (j+1)=xs.take j++[x]:=by simp_all [Xg]
  grind
 grind
def AO{b:Type}{wi:DA}{g:DG}{e:DS}{E:mf}(xs:List b)(f:b->D)(Pv:List b->Ro->Prop)(j:∀R:yas->Prop,R (xs.map f)->wi ρ R)(d:Pv [] ρ)
  (c:∀(done:List b) (x:b) (a:Ro),x∈xs->done.length<xs.length->Pv done a->g (f x) a λi=>e {E with nx:=Pv (done++[x]),ct:=Pv (done++[x]),bk:=E.nx} i) (h:∀a,Pv xs a->E.nx a):xF wi g e E ρ:=by
 refine j _ ⟨λj=>Pv (xs.take j),by simpa using d,λj d a b d=>?_,λa d=>h a (by rw[Of,W4 (O5 _)]at d;exact d)⟩;rw[PO]at b;cases ex:xs[j]? with
 |none=>rw[ex]at b;cases b
 |some x =>
  rw[ex]at b;cases b;have k:=(QH.mp ex).1;have b:xs.take (j+1)=xs.take j++[x]:=by rw[Xg,ex];rfl
  show g (f x) a λi=>e {E with nx:=Pv (xs.take (j+1)),ct:=Pv (xs.take (j+1)),bk:=E.nx} i
  rw[b];exact c (xs.take j) x a (Ql ex) (by rw[S4];lia) d
structure P4(n:Nat)(d:D):Prop where
 pl:Ug d=true
 lay:(QL d).canLay0=true
 dp:(QL d).depth<=n
structure j2(n:Nat)(ds:yas):Prop where
 pl:oM ds=true
 lay:PyData.canLayAll0 (cC ds)=true
 dp:PyData.depthAll (cC ds)<=n
def P4.ok(h:P4 n d)(a:n<=64:=by decide):okD d:=⟨h.pl,by unfold SeqAt.shaped;rw[h.lay,Wx (PL h.dp a)];rfl⟩
theorem P4.okI(h:P4 n d)(a:n<64:=by decide):okI d:=⟨h.ok (UU a),Yu h.dp a⟩
theorem P4.int(n:Nat)(i:Int):P4 n (.int i):=⟨by rw[Ug]<;>(intros;contradiction),by rw[QL,PyData.canLay0],by rw[QL,PyData.depth];lia⟩
def j2.nil(n:Nat):j2 n []:=⟨by rw[oM],by rw[cC,PyData.canLayAll0],by rw[cC,PyData.depthAll];lia⟩
def j2.cons(h:P4 n d)(h':j2 n ds):j2 n (d::ds):=⟨by rw[oM,h.pl,h'.pl];rfl,by rw[cC,PyData.canLayAll0,h.lay,h'.lay];rfl,by exact Nat.max_le.mpr ⟨h.dp,h'.dp⟩⟩
theorem j2.of:∀{ds:yas},(∀d∈ds,P4 n d)->j2 n ds
 |[],_=>.nil n
 |d::r,h=>.cons (h d RB) (j2.of λx a=>h x (by grind))
theorem P4.tup(h:j2 n ds):P4 (n+1) (.tup ds):=⟨by exact h.pl,by exact h.lay,by exact Nat.succ_le_succ h.dp⟩
theorem P4.lst(h:j2 n ds):P4 (n+1) (.lst t ds):=⟨by exact h.pl,by exact h.lay,by exact Nat.succ_le_succ h.dp⟩
theorem P4.map{a:Type}{f:a->D}{xs:List a}(h:∀x,P4 n (f x)):P4 (n+1) (.lst t (xs.map f)):=P4.lst (j2.of λd a=>by obtain⟨x,_,rfl⟩:=OZ.mp a;exact h x)
def kY(xs ys:yas):Bool:=PyData.eqvAll (cC xs) (cC ys)
def AK(t u:Bool)(xs ys:yas):eqD (.lst t xs) (.lst u ys)=kY xs ys:=by unfold eqD kY;rw[QL,QL,PyData.eqv]
def AM(xs ys:yas):eqD (.tup xs) (.tup ys)=kY xs ys:=by unfold eqD kY;rw[QL,QL,PyData.eqv]
def xY:kY [] []=true:=by unfold kY;rw[cC,PyData.eqvAll]
def kG(x y:D)(xs ys:yas):kY (x::xs) (y::ys)=(eqD x y && kY xs ys):=by unfold kY eqD;rw[cC,cC,PyData.eqvAll]
def AL(x y:Str):eqD (.str x) (.str y)=(x==y):=by unfold eqD;rw[QL,QL,PyData.eqv]
def IX:eqD .ON .ON=true:=by unfold eqD;rw[QL,PyData.eqv]
mutual
theorem j7:∀d:D,eqD d d=true
 |.ON=>IX
 |.bl b=>by rw[DX];simp
 |.int i=>by rw[jT];simp
 |.str x=>by rw[AL];simp
 |.exc _=>by unfold eqD;rw[QL,PyData.eqv]
 |.obj _ _ _=>by unfold eqD;rw[QL,PyData.eqv]
 |.SR=>by unfold eqD;rw[QL,PyData.eqv]
 |.RD _ _=>by unfold eqD;rw[QL,PyData.eqv]
 |.ra _=>by unfold eqD;rw[QL,PyData.eqv]
 |.tup a=>by rw[AM];exact kH a
 |.lst t a=>by rw[AK];exact kH a
theorem kH:∀ds:yas,kY ds ds=true
 |[]=>xY
 |d::r=>by rw[kG,j7 d,kH r];rfl
end
def xX(t u:Bool)(xs:yas):eqD (.lst t xs) (.lst u xs)=true:=by rw[AK];exact kH xs
section
variable{X:Cx}{a b c:Expr}{ta tb tc:DE}{pos:Pos}
def Dy(r e:RD2)(ta tb tc:DE):DE:=λd Q=>ta d λx=>tb d λy=>r x y λz=>∃k,z=.bl k/\if k=true then tc d λu=>e y u Q else Q (.bl false)
def DD(e:DE):DA:=λd R=>e d λd=>∃e,d=.tup e/\R e
def D6(h:OD X iter ti):UA X tg iter (DD ti):=by
 refine UA.of (Ml h.pe) λo H W d R r e=>⟨W,d,_,r,e,λv H1 d i g q=>?_⟩
 obtain⟨k,rfl,q⟩:=q;obtain⟨p,e,rfl,f,h⟩:=g.Qq;refine⟨p,rfl,⟨e,f.w⟩,i,k,?_,q⟩;intro P' H' j n m i;have g:=(j p e f).w;have s:=h.len;refine⟨λf=>?_,λx H3 y f=>?_,λf=>⟨e,g,by lia⟩⟩;obtain⟨v,l,_⟩:=h.get (i:=i) (d:=k[i]) (by simp[f]);exact⟨e,v,g,l⟩;obtain⟨f,y⟩:=y;subst f;obtain⟨d,i,f⟩:=h.bA (y e g);exact⟨ar.refl _,d,i,Den.map j n m d _ f⟩
def LV(xs:yas)(R:yas->Prop):(∃ds,D.tup xs=.tup ds/\R ds)=R xs:=by apply propext;constructor;rintro⟨_,e,q⟩;cases e;exact q;intro q;exact⟨xs,rfl,q⟩
variable{e:Expr}{te:DE}{lo hi:Option Expr}{tl th:DO}{p2:Pos}
def sy(o:OD X e te)(m:WU X lo tl)(n:WU X hi th):OD X (.Subscript e (.Slice lo hi none p2) pos) (K5 te tl th):=by
 intro i s j H W g Q I r h;refine rJ (st:=none) (ts:=c7) (R:=λd l u k=>k=none/\∃f,d=.tup f/\¬(HT.Pa f.length 0 l=0/\HT.Pa f.length f.length u=f.length)/\Q (.tup (PD.cutD f l u))) o m n cf I r ?_ ?_ (λ_ _=>⟨_,rfl⟩);have m:(λd=>tl g λl=>th g λu=>c7 g λk=>k=none/\∃f,d=D.tup f/\¬(HT.Pa f.length 0 l=0/\HT.Pa f.length f.length u=f.length)/\Q (.tup (PD.cutD f l u)))=λd=>tl g λl=>th g λu=>∃f,d=D.tup f/\¬(HT.Pa f.length 0 l=0/\HT.Pa f.length f.length u=f.length)/\Q (.tup (PD.cutD f l u)):=by
  funext d
  congr 1
  funext l
  congr 1
  funext u
  exact propext ⟨λz=>z.2,λz=>⟨rfl,z⟩⟩
 rw[m];exact h;intro v g n m G l u k d o d r E sm s A y w t h k;obtain⟨p,f,f,x,q⟩:=k;subst p f;cases h;obtain⟨p,k,f,z,h⟩:=A.Qq;subst f;obtain⟨T,id,C,B,A⟩:=MA i r j d (.ref p) g n m l u o (λg f=>ar d f/\∃d,Den X.K W.bad f d g/\Q d) E s y w t ⟨p,k,rfl,z.w,by rw[h.len];exact x,λf g=>⟨ar.upd g,_,Den.tup (OT.of aD) ((h.cut l u).same (ar.upd g)),q⟩⟩;exact⟨T,id,C,B,Oj A λ_ J k=>(by obtain⟨g,m,l,h,i,d,j,f⟩:=k;exact⟨g,m,d,l,h,sm.trans i,j,f⟩)⟩
end
section
variable{X:Cx}{pos:Pos}
def PFL(X:Cx)(i:Nat)(es:yai)(t:Ro->(List (yas)->Prop)->Prop):Prop :=
 ∀ (pos:Pos) (b:yab) (s:Shared) (a:St) (H:Hp) (W:Own) (e:Ro) (k:Nat) (Q:List (yas)->Prop),Inv X b a H s->Rel X W H a e->i<a.length->e[i]?=some none->t e Q →
  wpAny (model X.prog X.w) X.A (spliced (backTo pos (starEach es X.env))) (λh j=>∃f d c g,Inv X b a d j/\Vals f h/\ar H d/\Rel X c d a e/\OQ W H c d/\aY X.K c.bad d (c.sub a.length i) k (g.map LI.own) f/\(∀l,l<k->c.sub a.length i l=W.sub a.length i l)/\Q g) X.xe s
variable{e:Expr}{te:DE}{tt:DT}{ta:DA}
end
section
variable{X:Cx}{pins:yab}{σ:St}{H:Hp}
structure N3(X:Cx)(pins:yab)(H:Hp)(s:Shared)(l f S I:Addr)(fo:Obj)(j:Nat)(vb:Value)(k:Int):Prop where
 fo:s.heap.get? f=some fo
 ff:dN X pins H f
 so:∃tb n,s.heap.get? S=some (seqObj "list" #[vb,.int k tb] n)
 sf:dN X pins H S
 io:s.heap.IsListIter I l j
 jf:dN X pins H I
 fS:f≠S
 fI:f≠I
 SI:S≠I
 lI:l≠I
end
section
variable{X:Cx}{pos:Pos}
def Aw(i:Nat)(te:DE):DS:=λE a=>∃c,a[i]?=some (some (.own c))/\te a λd=>∃b,d=.lst true b/\c.length+b.length<=sizeLine/\E.nx (a.set i (some (.own (c++b))))
def kF{x:Str}{a:Pos}(i:Nat)(f:OD X e te)(d:X.N[i]?=some x:=by rfl)(c:VB X.env.scope x:=by first|exact Or.inl rfl|exact Or.inr (Or.inl rfl)|exact Or.inr (Or.inr rfl))
  (g:(x==("__debug__" : Str))=false:=by decide) (k:(x==("__classdict__" : Str))=false:=by decide)
  (m:attributeBase (.Name x px) "extend" X.env (eval (.Name x px) X.env)=eval (.Name x px) X.env:=by rfl)
  (h:((backTo cpos (starEach [e] X.env)).all (λx=>!x.1) && (backToKw cpos (keywordEach [] X.env)).all (λx=>x.1.isSome) && decide ([e].length+([]:List Keyword).length+(if([]:List Keyword).isEmpty then 0 else 1)<30))=true:=by rfl)
  (l:(a.endLine==cpos.line)=true:=by rfl) (b:starEach [e] X.env=(false,eval e X.env)::starEach [] X.env:=by rfl) (j:(backTo cpos (starEach [] X.env)).any (·.1)=false:=by rfl)
  (hs:swapsWith (.Call (.Attribute (.Name x px) "extend" a) [e] [] cpos) none pos.line X.env=pure false:=by rfl) :
  Q4 X (.Expr (.Call (.Attribute (.Name x px) "extend" a) [e] [] cpos) pos) (Aw i te):=by
 have a:=jV (pos:=pos) (Cy PySem.F.plainAttrs_list PySem.F.slot_list_extend PySem.F.type_list_extend En (eR d c g k) (gw f.pe lW b) m h l b j) hs;refine Q4.of a λp H W b E r s h=>?_
 obtain⟨c,k,h⟩:=h;obtain⟨a,f,l,g,j,o⟩:=r.oH i c k;refine⟨.ref a,g,.inl ⟨rfl,_,SqL.of j⟩,W,b,_,r,h,λv h d e n q=>?_⟩;obtain⟨i,rfl,z,q⟩:=q;obtain⟨b,c,rfl,_,m,d⟩:∃b c,v=.ref b/\¬W.bad true b/\QK X.K h true b c/\ah X.K W.bad h i c:=by simpa only[Den]using n
 have h:=e _ _ j;have j:=r.same e;have i:=o.same e;refine⟨a,b,f,c,rfl,rfl,h,(m.2 rfl).1,by rw[i.len,d.len];exact z,?_⟩;obtain⟨a,b⟩:=j.VE (vs':=f++c) k l g h (i.append d);exact⟨W,_,(OQ.same e).trans b,a,q⟩
def PEK(X:Cx)(e:Expr)(t:DE):Prop :=
 ∀ (a:yab) (s:Shared) (d:St) (H:Hp) (W:Own) (b:Ro) (Q:D->Prop),Inv X a d H s->Rel X W H d b->t b Q →
  wpAny (model X.prog X.w) X.A (eval e X.env) (λu g=>∃b e c f,u=.ref b/\Inv X a d c g/\ar H c/\c b=some (.tup e)/\ah X.K W.bad c f e/\Q (.tup f)) X.xe s
end
def M3(ys:yas)(R:yas->Prop):(∃xs,D.lst true ys=.lst true xs/\R xs)=R ys:=by apply propext;constructor;rintro⟨xs,e,q⟩;cases e;exact q;intro q;exact⟨ys,rfl,q⟩
def bE{c:Type}{wi:DA}{g:DG}{d:DS}{E:mf}(xs:List c)(f:c->D)(Pv:Nat->Ro->Prop)(i:∀R:yas->Prop,R (xs.map f)->wi ρ R)(h:Pv 0 ρ)
  (b:∀(j:Nat) (x:c) (a:Ro),xs[j]?=some x->Pv j a->g (f x) a λk=>d {E with nx:=Pv (j+1),ct:=Pv (j+1),bk:=E.nx} k) (e:∀a,Pv xs.length a->E.nx a):xF wi g d E ρ:=by
 refine i _ ⟨Pv,h,λj d a c d=>?_,λa d=>e a (by rw[Of]at d;exact d)⟩;rw[PO]at c;cases ex:xs[j]? with
 |none=>rw[ex]at c;cases c
 |some x =>
  rw[ex]at c;cases c;exact b j x a ex d
inductive KPs (K:yac) (P:yak) (H:Hp):List (yas×D)->List (Value×Value)->Prop
 |nil:KPs K P H [] []
 |cons {b:Addr} {vs:yar} {ks:yas} {d:D} {x:V} {u:Value} {ds:List (yas×D)} {ws:List (Value×Value)} (hb:H b=some (.tup vs)) (hk:ah K P H ks vs) (hd:Den K P H d x) (r:RelV x u) (t:KPs K P H ds ws):KPs K P H ((ks,d)::ds) ((.ref b,u)::ws)
def PPK(X:Cx)(pos:Pos)(keys:List (Option Expr))(a:yai)(t:Ro->(List (yas×D)->Prop)->Prop):Prop :=
 ∀ (b:yab) (s:Shared) (c:St) (H:Hp) (W:Own) (d:Ro) (Q:List (yas×D)->Prop),Inv X b c H s->Rel X W H c d->t d Q →
  wpAny (model X.prog X.w) X.A (evalPairs (pairTrees keys a X.env pos)) (λe f=>∃a d,Inv X b c a f/\ar H a/\KPs X.K W.bad a d e/\Q d) X.xe s
section
variable{X:Cx}{pos:Pos}
inductive KPi (H:Hp):List (List Key×Int)->List (Value×Value)->Prop
 |nil:KPi H [] []
 |cons {b:Addr} {k:List Key} {n:Int} {u:Value} {ds:List (List Key×Int)} {ws:List (Value×Value)} (hb:H b=some (.tup (k.map kV))) (r:RelV (.int n) u) (t:KPi H ds ws):KPi H ((k,n)::ds) ((.ref b,u)::ws)
def IH (g:X.calm=true):eZ X (.builtin "max") (λds Q=>(∃i j:Int,ds=[.int i,.int j]/\Q (.int (max i j)))∨∃ (t:Bool) (ns:yaf),ds=[.lst t (ns.map D.int)]/\0<ns.length/\∀m,m∈ns->(∀n∈ns,n<=m)->Q (.int m)):=by
 intro a s c H W ds d h Q I k r b q;rcases q with⟨i,j,e,q⟩| ⟨t,ns,e,f,q⟩;exact KG g a s c H W ds d h Q I k r b ⟨i,j,e,q⟩;subst e;obtain⟨v,rfl,c⟩:=mq b;obtain⟨a,l,b,_,e,d⟩:=c.Q3;subst b;cases r with
 |cons c b =>
  cases b;cases c;obtain⟨Oe,b,c,_⟩:=I.list e;rw[bP d]at b;have d:=intsAre_of b;obtain⟨b,e⟩:=d.allInts.items;have h:s.heap.IsList a (intItems b):=by rw[<- e];exact c.isList
  have c:ns=b.toList.map (·.1):=by rw[<- d.numsOf,<- nums_intItems,<- e]
  have a:0<b.size:=by rw[c,Of,RY]at f;exact f
  refine max_intList (I.ok.hd g) h a λy u p a e=>?_
  obtain⟨o,rfl⟩:=intItems_at a;obtain⟨w,g⟩:=argBest_gt (numAt b) (b.size - 1);have d:∀j,j<b.size->b.toList.map (·.1) ≠ []->numAt b j∈ns:=λj a _=>by
   rw[c,numAt_eq];have:(b.toList.map (·.1))[j]?=some ((b.toList.map (·.1)).getD j 0):=by simp[a]
   exact Ql this
  refine⟨.int _,H,_,I.kept e,⟨_,rfl⟩,ar.refl H,Den.int _,q _ (d _ (by omega) (by rw[<- c];exact XR f)) λn d=>?_⟩;rw[c]at d;obtain⟨j,a,c⟩:=Vt d;have:numAt b j=n:=by rw[numAt_eq,<- c];simp only[Py,O2 a,zDH]
  rw[<- this];rw[Of,RY]at a;exact g j (by omega)
end
end PD
namespace PZ
open PySem PySem.Spec PyProof.Rows
abbrev HC (h:Heap) (T:Addr) (a b c:Value):Prop:=h.get? T=some {cls:=.type "tuple", data:=.seq #[a,b,c]}
structure Ap3(z TI TO i1 i2 i3:Addr):Prop where
 a1:TI≠z
 a2:TO≠z
 a3:i1≠z
 a4:i2≠z
 a5:i3≠z
 b1:TI≠TO
 b2:TI≠i1
 b3:TI≠i2
 b4:TI≠i3
 c1:TO≠i1
 c2:TO≠i2
 c3:TO≠i3
 d1:i1≠i2
 d2:i1≠i3
 d3:i2≠i3
structure N6(z TO i1 i2 i3 l:Addr):Prop where
 c1:l≠z
 c2:l≠TO
 c3:l≠i1
 c4:l≠i2
 c5:l≠i3
structure N8(z TI TO i1 i2 i3 l1 l2 l3:Addr)(i:Nat)(h:Heap):Prop where
 z:IsZip h z TI TO .none
 ti:HC h TI (.ref i1) (.ref i2) (.ref i3)
 to:∃a b c,HC h TO a b c
 s1:RL true h i1 l1 i
 s2:RL true h i2 l2 i
 s3:RL true h i3 l3 i
end PZ
namespace PD
open PySem PySem.Spec PyProof.Rows L2 PZ
section
variable{X:Cx}
noncomputable def So(xs ys a:yas):yas:=List.zipWith (λf z=>f z) (List.zipWith (λx y z=>D.tup [x,y,z]) xs ys) a
end
end PD
namespace ST
open PySem PySem.SetTable
def S:Nat->Nat
 |0=>0
 |n+1=>5*S n+1
theorem se:∀n,5 ^ n=4*S n+1
 |0=>rfl
 |n+1=>by rw[VS,se n];show _=4*(5*S n+1)+1;lia
theorem BP(m:Nat):∀n,S (n+m)=5 ^ m*S n+S m
 |0=>by simp[S]
 |n+1=>by rw[show n+1+m=(n+m)+1 by lia];show 5*S (n+m)+1=5 ^ m*(5*S n+1)+S m;rw[BP m n,se m];grind
theorem HD:∀k,∃o,S (2 ^ k)=2 ^ k*(2*o+1)
 |0=>⟨0,rfl⟩
 |k+1=>by obtain⟨o,e⟩:=HD k;refine⟨o+(2*o+1)*(2 ^ k*(2*o+1)),?_⟩;rw[show 2 ^ (k+1)=2 ^ k+2 ^ k by rw[VS];lia,BP,se,e];grind
theorem round:∀(k x e:Nat),e<2 ^ k->∃n,n<2 ^ k/\(5 ^ n*x+S n) % 2 ^ k=e
 |0,x,e,h=>⟨0,by decide,by lia⟩
 |k+1,x,e,h=>by
  obtain⟨n,g,q⟩:=round k x (e % 2 ^ k) (VU _ (Nat.two_pow_pos k));obtain⟨o,b⟩:=HD k;have f:=Nat.two_pow_pos k;have a:2 ^ (k+1)=2*2 ^ k:=by lia
  generalize hv:5 ^ n*x+S n=v at q;have Ta:5 ^ (n+2 ^ k)*x+S (n+2 ^ k)=v+2 ^ k+2 ^ (k+1)*(o+2*(2*o+1)*v):=by rw[BP,Nat.pow_add,se (2 ^ k),b,a,<- hv];grind
  generalize 2 ^ k=p at *;rw[a]at h ⊢;by_cases z:v % (2*p)=e;exact⟨n,by lia,by rw[hv];exact z⟩;refine⟨n+p,by lia,?_⟩;rw[Ta,a,Nat.add_mul_mod_self_left];have i:v % (2*p) % p=v % p:=Nat.mod_mul_left_mod v 2 p;have d:v % (2*p)<2*p:=VU _ (by lia);rw[Nat.add_mod,S5 (show p<2*p by lia)];generalize v % (2*p)=u at *;have a:u=u % p∨u=u % p+p:=by
   by_cases c:u<p
   left;rw[S5 c]
   right
   have:u % p=u - p:=by rw[Nat.mod_eq_sub_mod (by lia),S5 (by lia)]
   lia
  have b:e=e % p∨e=e % p+p:=by
   by_cases c:e<p
   left;rw[S5 c]
   right
   have:e % p=e - p:=by rw[Nat.mod_eq_sub_mod (by lia),S5 (by lia)]
   lia
  rcases a with a|a<;>rcases b with b|b
  lia
  rw[S5 (by lia)];lia;rw[Nat.mod_eq_sub_mod (by lia),S5 (by lia)];lia
  lia
noncomputable def runs(mask:Nat):Nat->Nat->Nat->yag
 |0,_,_=>[]
 |c+1,i,a=>List.range' i (runEnd mask i+1 - i)++runs mask c (leap mask i a).1 (leap mask i a).2
theorem oP(mask c i pt:Nat):runs mask (c+1) i pt=List.range' i (runEnd mask i+1 - i)++runs mask c (leap mask i pt).1 (leap mask i pt).2:=rfl
def cE(mask:Nat)(h:Int):yag:=runs mask (turns mask) (bits h % (mask+1)) (bits h)
theorem iX{mask i:Nat}(h:i<=mask):i<=runEnd mask i/\runEnd mask i<=mask/\runEnd mask i<=i+9:=by unfold runEnd;split<;>lia
def pQ(mask i pt:Nat):(leap mask i pt).1<=mask:=by
 have:(leap mask i pt).1<mask+1:=VU _ (by simp_all)
 lia
theorem Bo{mask:Nat}:∀{c i pt:Nat},i<=mask->∀x∈runs mask c i pt,x<=mask
 |0,_,_,_,x,h=>by cases h
 |c+1,i,pt,a,x,h=>by
  rcases Qn.mp h with z|z;grind [List.mem_range'_1,iX];exact Bo (pQ _ _ _) x z
theorem y6{mask:Nat}:∀{c i pt:Nat},i<=mask->(runs mask c i pt).length<=10*c
 |0,_,_,_=>O5 _
 |c+1,i,pt,a=>by have ih:=y6 (c:=c) (pt:=(leap mask i pt).2) (pQ mask i pt);have:=iX a;unfold runs;grind
def cR(mask:Nat):Nat->Nat×Nat->Nat×Nat
 |0,p=>p
 |n+1,p=>cR mask n (leap mask p.1 p.2)
theorem tI{mask:Nat}:∀{n c i pt:Nat},∀x∈runs mask c (cR mask n (i,pt)).1 (cR mask n (i,pt)).2,x∈runs mask (n+c) i pt
 |0,c,i,pt,x,h=>by rw[UW];exact h
 |n+1,c,i,pt,x,h=>by have:=tI (n:=n) (c:=c) (i:=(leap mask i pt).1) (pt:=(leap mask i pt).2) x h;rw[show n+1+c=(n+c)+1 by lia];exact Rw _ this
def EZ{mask c i:Nat}(h:i<=mask):i∈runs mask (c+1) i pt:=by refine Uj _ ?_;grind [List.mem_range'_1,iX]
theorem yC(mask:Nat):∀(n:Nat) (p:Nat×Nat),(cR mask n p).2=p.2 / 32 ^ n
 |0,p=>by simp[cR]
 |n+1,p=>by show(cR mask n (leap mask p.1 p.2)).2=_;rw[yC mask n];show p.2 / 32 / 32 ^ n=_;rw[Nat.div_div_eq_div_mul,VS,Nat.mul_comm]
theorem tj{mask k:Nat}(a:mask+1=2 ^ k):∀(n i:Nat),i<=mask->(cR mask n (i,0)).1=(5 ^ n*i+S n) % 2 ^ k
 |0,i,h=>by rw[Nat.pow_zero,Nat.one_mul];show i=(i+0) % 2 ^ k;rw[Nat.add_zero,S5 (by lia)]
 |n+1,i,h=>by
  have e:leap mask i 0=((i*5+1) % (mask+1),0):=by unfold leap;simp
  show(cR mask n (leap mask i 0)).1=_;rw[e,tj a n _ (by have:=VU (i*5+1) (show 0<mask+1 by lia);lia),a];have a:(5 ^ n*((i*5+1) % 2 ^ k)+S n) % 2 ^ k=(5 ^ n*(i*5+1)+S n) % 2 ^ k:=by rw[Nat.add_mod,Nat.mul_mod,Nat.mod_mod,<- Nat.mul_mod,<- Nat.add_mod]
  rw[a,VS];congr 1;show _=5 ^ n*5*i+(5*S n+1);have:=se n;grind
theorem vK(mask:Nat):∀(m n:Nat) (p:Nat×Nat),cR mask (m+n) p=cR mask n (cR mask m p)
 |0,n,p=>by rw[UW];rfl
 |m+1,n,p=>by rw[show m+1+n=(m+n)+1 by lia];exact vK mask m n _
theorem yB(mask:Nat):∀(n:Nat) (p:Nat×Nat),p.1<=mask->(cR mask n p).1<=mask
 |0,_,h=>h
 |n+1,p,_=>yB mask n _ (pQ _ _ _)
def cover{mask k:Nat}(c:mask+1=2 ^ k)(h:Int){e:Nat}(g:e<=mask):e∈cE mask h:=by
 have d:bits h<2 ^ 64:=by
  unfold bits
  lia
 have a:bits h % (mask+1)<=mask:=by have:=VU (bits h) (show 0<mask+1 by lia);lia
 generalize hp:(bits h % (mask+1),bits h)=p;have b:p.1<=mask:=by rw[<- hp];exact a
 have z:(cR mask 13 p).2=0:=by rw[yC,<- hp];exact Nat.div_eq_of_lt (QZ d (by decide))
 have a:=yB mask 13 p b;obtain⟨n,f,b⟩:=round k (cR mask 13 p).1 e (by lia);have j:(cR mask (13+n) p).1=e:=by rw[vK];have:cR mask 13 p=((cR mask 13 p).1,0):=WC rfl z;rw[this,tj c n _ a];exact b
 have:=tI (mask:=mask) (n:=13+n) (c:=(mask - n)+2) (i:=bits h % (mask+1)) (pt:=bits h) e (by simp_all [EZ])
 unfold cE turns;grind
def jb(xs:yap):Prop:=∀a b:Nat,a<b->b<xs.size->xs.getD a 0<xs.getD b 0
theorem qI{j:Nat}(c:jb xs):∀(fuel lo b:Nat),lo<=b->b<=xs.size->b - lo<=fuel->(∀a,a<lo->xs.getD a 0<j)->(∀a,b<=a->a<xs.size->j<=xs.getD a 0) →
  (below.go xs j fuel lo b<=xs.size)/\(∀a,a<below.go xs j fuel lo b->xs.getD a 0<j)/\∀a,below.go xs j fuel lo b<=a->a<xs.size->j<=xs.getD a 0
 |0,lo,b,h,g,e,f,d=>by
  have:lo=b:=by omega
  subst this;exact⟨g,f,d⟩
 |fuel+1,lo,b,h,g,e,f,d=>by
  unfold below.go;by_cases h:lo<b;rw[Og h];have k:(lo+b) / 2<b/\lo<=(lo+b) / 2:=by omega
  have e:xs.getD ((lo+b) / 2) j=xs.getD ((lo+b) / 2) 0:=by
   have:(lo+b) / 2<xs.size:=by omega
   simp[Array.getD,this]
  simp only[e];split;rename_i z;refine qI c fuel _ b (by omega) g (by omega) (λa i=>?_) d;by_cases e:a=(lo+b) / 2;rw[e];exact z;exact Nat.lt_trans (c a ((lo+b) / 2) (by omega) (by omega)) z;rename_i z;refine qI c fuel lo _ (by omega) (by omega) (by omega) f λa i i=>?_
  by_cases e:a=(lo+b) / 2;rw[e];omega;have:=c ((lo+b) / 2) a (by omega) i;omega;rw[Oc h];have:lo=b:=by omega
  subst this;exact⟨g,f,d⟩
def jB(b:jb xs)(j:Nat):below xs j<=xs.size/\(∀a,a<below xs j->xs.getD a 0<j)/\∀a,below xs j<=a->a<xs.size->j<=xs.getD a 0 :=
 qI b xs.size 0 xs.size (QS _) (O5 _) (by lia) (by lia) (by lia)
def dH{xs:yap}{a x:Nat}(h:xs[a]?=some x):xs.getD a 0=x/\a<xs.size:=by
 obtain⟨l,e⟩:=WX.mp h
 simp_all
def sQ{xs:yap}{a:Nat}(h:a<xs.size):xs[a]?=some (xs.getD a 0):=by simp_all
def below_at(b:jb xs){a j:Nat}(h:xs[a]?=some j):below xs j=a:=by
 obtain⟨e,l⟩:=dH h;obtain⟨i,d,c⟩:=jB b j;have g:¬a<below xs j:=λz=>by have:=d a z;omega
 have f:¬below xs j<a:=λz=>by have:=c (below xs j) (O5 _) (by omega);have:=b _ a z l;omega
 omega
def vU{t:SetTable}(b:jb t.place){a j:Nat}(h:t.place[a]?=some j):t.slot j=.live a:=by unfold SetTable.slot;rw[below_at b h];simp[h]
def CK{t:SetTable}(a:jb t.place)(b:t.dummies=#[]){j:Nat}(h:j∉t.place.toList):t.slot j=.empty:=by
 have n:¬((t.place[below t.place j]?==some j)=true):=λz=>by
  have e:t.place[below t.place j]?=some j:=by simp_all
  exact h (by obtain⟨l,q⟩:=WX.mp e;rw[<- q];exact Array.getElem_mem_toList l)
 unfold SetTable.slot;have:has #[] j=false:=by unfold has;simp
 simp_all
def ahead(mask:Nat)(c:Nat)(p:Probe):yag:=List.range' p.j (p.more+1)++runs mask c (leap mask p.i p.perturb).1 (leap mask p.i p.perturb).2
def zD(t:SetTable)(h:Int):∃c,cE t.mask h=ahead t.mask c (t.probeStart h):=by
 refine⟨t.mask+14,?_⟩;unfold cE ahead turns probeStart;show runs t.mask ((t.mask+14)+1) _ _=_;rw[oP];have a:bits h % (t.mask+1)<=t.mask:=by have:=VU (bits h) (show 0<t.mask+1 by lia);lia
 have:=iX a;simp only;rw[show runEnd t.mask (bits h % (t.mask+1))+1 - bits h % (t.mask+1)=runEnd t.mask (bits h % (t.mask+1)) - bits h % (t.mask+1)+1 by lia]
def BR(t:SetTable){x:Nat}{r:yag}(e:ahead t.mask c p=x::r):p.j=x/\(r=[]∨∃ a,r=ahead t.mask a (t.advance p)):=by
 unfold ahead at e;rw[List.range'_succ,UR]at e;obtain⟨b,a⟩:=List.cons.inj e;refine⟨b,?_⟩;unfold SetTable.advance;by_cases b:p.more > 0
 right
 refine⟨c,?_⟩;rw[Og b,<- a];unfold ahead;simp only;rw[show p.more - 1+1=p.more by lia];have d:p.more=0:=by lia
 rw[d]at a;simp only[List.range'_zero,U9]at a;cases c with
 |zero=>left;rw[<- a];rfl
 |succ c =>
  right
  refine⟨c,?_⟩;rw[Oc b,<- a];have a:=pQ t.mask p.i p.perturb;have:=iX a;unfold ahead;rw[oP];simp only;rw[show runEnd t.mask (leap t.mask p.i p.perturb).1+1 - (leap t.mask p.i p.perturb).1=runEnd t.mask (leap t.mask p.i p.perturb).1 - (leap t.mask p.i p.perturb).1+1 by lia]
theorem yW{t:SetTable}(m:jb t.place)(s:t.dummies=#[])(hashAt:Nat->Int)(h:Int):∀(l:yag) (b c:Nat) (p:Probe),ahead t.mask c p=l->l.length<=b->(∃x∈l,x∉t.place.toList)->p.dummy=none →
  (∃f j d,l=f++j::d/\(∀x∈f,∃a,t.place[a]?=some x/\hashAt a≠h)/\j∉t.place.toList/\probe.go t hashAt h b p=some (.empty j none)) ∨
  ∃ f j d a q g,l=f++j::d/\(∀x∈f,∃a,t.place[a]?=some x/\hashAt a≠h)/\t.place[a]?=some j/\hashAt a=h/\d=ahead t.mask g q/\q.dummy=none/\probe.go t hashAt h b p=some (.candidate j a q)
 |[],_,_,_,_,_,i,_=>by obtain⟨x,i,_⟩:=i;cases i
 |x::r,0,_,_,_,n,_,_=>by simp at n
 |x::r,b+1,c,p,e,n,i,k=>by
  obtain⟨c,u⟩:=BR t e;subst c;unfold probe.go;by_cases l:p.j∈t.place.toList;obtain⟨a,c,e⟩:=Vt l;have o:t.place[a]?=some p.j:=by rw[<- Ua,O2 c,e]
  rw[vU m o];have w:∃x∈r,x∉t.place.toList:=by
   obtain⟨y,c,e⟩:=i;rcases OK.mp c with z|z;subst z;exact absurd l e;exact⟨y,z,e⟩
  have i:∃g,r=ahead t.mask g (t.advance p):=by
   rcases u with z|z;obtain⟨y,c,_⟩:=w;rw[z]at c;cases c;exact z
  have e:(t.advance p).dummy=none:=by unfold SetTable.advance;split<;>exact k
  obtain⟨g,u⟩:=i;simp only;by_cases i:hashAt a=h
  right
  rw[Og (by simpa using i)];exact⟨[],p.j,r,a,t.advance p,g,rfl,by simp,o,i,u,e,rfl⟩;rw[Oc (by simpa using i)];have good:∃a,t.place[a]?=some p.j/\hashAt a≠h:=⟨a,o,i⟩;rcases yW m s hashAt h r b g (t.advance p) u.symm (by simp at n;omega) w e with⟨f,j,d,e1,e2,e3,e4⟩| ⟨f,j,d,b,q,c2,e1,e2,e3,e4,e5,e6,e7⟩
  left
  refine⟨p.j::f,j,d,by rw[e1];rfl,λy c=>?_,e3,e4⟩;rcases OK.mp c with z|z;rw[z];exact good;exact e2 y z
  right
  refine⟨p.j::f,j,d,b,q,c2,by rw[e1];rfl,λy c=>?_,e3,e4,e5,e6,e7⟩;rcases OK.mp c with z|z;rw[z];exact good;exact e2 y z
  left
  rw[CK m s l];exact⟨[],p.j,r,rfl,by simp,l,by simp[k]⟩
structure Tab(t:SetTable)(hs:yaf):Prop where
 k:∃k,t.mask+1=2 ^ (k+1)
 rise:jb t.place
 le:∀x∈t.place.toList,x<=t.mask
 dum:t.dummies=#[]
 len:t.place.size=hs.length
 room:t.place.size<=t.mask
 reach:∀(a x:Nat) (h:Int),t.place[a]?=some x->hs[a]?=some h->∃pre post,cE t.mask h=pre++x::post/\∀y∈pre,y∈t.place.toList
theorem Tab.fits(T:Tab t hs):t.fits hs.length=true:=by
 unfold SetTable.fits SetTable.fill;rw[T.dum];simp[T.len];have:=T.len;have:=T.room
 lia
def Tab.stays(T:Tab t hs):t.gaveWay=false:=by
 obtain⟨k,e⟩:=T.k;unfold SetTable.gaveWay
 lia
def Hh(d:jb xs){a b x y:Nat}(f:xs[a]?=some x)(e:xs[b]?=some y)(h:x<y):a<b:=by
 obtain⟨j,c⟩:=dH f;obtain⟨i,g⟩:=dH e;rcases Yw a b with z|z|z;exact z
 lia
 have:=d b a z c
 lia
def AY{xs:yap}{x:Nat}(h:x∈xs.toList):∃a:Nat,xs[a]?=some x:=by obtain⟨a,b,c⟩:=Vt h;exact⟨a,by rw[<- Ua,O2 b,c]⟩
def get_mem{xs:yap}{a x:Nat}(h:xs[a]?=some x):x∈xs.toList:=by obtain⟨l,q⟩:=WX.mp h;rw[<- q];exact Array.getElem_mem_toList l
def Jd(g:jb xs){mask:Nat}(hs:xs.size<=mask):∃e,e<=mask/\e∉xs.toList:=by
 refine Z9 λa=>?_
 have d:∀e,e<=mask->e∈xs.toList:=λe b=>Z9 λn=>a ⟨e,b,n⟩
 have f:∀j,j<=mask->∃a,xs[a]?=some j/\j<=a:=by
  intro j
  induction j with
  |zero=>intro h;obtain⟨a,c⟩:=AY (d 0 h);exact⟨a,c,QS _⟩
  |succ j ih =>
   intro h;obtain⟨a,c,i⟩:=ih (by lia);obtain⟨b,e⟩:=AY (d (j+1) h);have:=Hh g c e (by lia);exact⟨b,e,by lia⟩
 obtain⟨a,c,k⟩:=f mask (O5 _);have:=(dH c).2
 lia
def Tab.empty(T:Tab t hs)(h:Int):∃x∈cE t.mask h,x∉t.place.toList:=by obtain⟨e,c,a⟩:=Jd T.rise T.room;obtain⟨k,b⟩:=T.k;exact⟨e,cover b h c,a⟩
def tX(mask:Nat)(h:Int):(cE mask h).length<=10*turns mask:=y6 (by have:=VU (bits h) (show 0<mask+1 by lia);lia)
def pC(mask:Nat)(h:Int):∀x∈cE mask h,x<=mask:=Bo (by have:=VU (bits h) (show 0<mask+1 by lia);lia)
def mC{a:Type}(xs:Array a)(p:Nat)(x:a):(insertAt xs p x).toList=xs.toList.take p++x::xs.toList.drop p:=by
 unfold insertAt
 simp_all [W4,Zx,RY,O5]
def get_ins{b:Type}{l:List b}{p:Nat}(c:p<=l.length)(x:b)(a:Nat):(l.take p++x::l.drop p)[a]?=if a<p then l[a]? else if a=p then some x else l[a - 1]?:=by by_cases h:a<p;rw[Og h,UO (by rw[S4];lia),List.getElem?_take,Og h];rw[Oc h,Vp (by rw[S4];lia),S4,Nat.min_eq_left c];by_cases e:a=p;rw[Og e,e,Nat.sub_self];rfl;rw[Oc e,show a - p=(a - p - 1)+1 by lia,List.getElem?_cons_succ,List.getElem?_drop,show p+(a - p - 1)=a - 1 by lia]
theorem Tab.put(T:Tab t hs){j:Nat}{i f:yag}(l:j∉t.place.toList)(p:cE t.mask h=i++j::f)(A:∀y∈i,y∈t.place.toList)(b:t.place.size+1<=t.mask) :
  Tab (t.put j).1 (hs.take (t.put j).2++h::hs.drop (t.put j).2)/\(t.put j).2<=hs.length/\(t.put j).1.mask=t.mask/\(t.put j).1.place.size=t.place.size+1:=by
 have c:(t.put j).1.place=insertAt t.place (below t.place j) j:=rfl;have r:(t.put j).2=below t.place j:=rfl;have e:(t.put j).1.mask=t.mask:=rfl;have d:(t.put j).1.dummies=#[]:=by
  show(if has t.dummies j then _ else t.dummies)=_;rw[T.dum];have:has #[] j=false:=by unfold has;simp
  rw[this];rfl
 obtain⟨a,n,C⟩:=jB T.rise j;have g:below t.place j<=t.place.toList.length:=by rw[RY];exact a
 have s:below t.place j<=hs.length:=by rw[<- T.len];exact a
 have o:∀a,(t.put j).1.place[a]?=if a<below t.place j then t.place[a]? else if a=below t.place j then some j else t.place[a - 1]?:=λa=>by rw[c,<- Ua,mC,get_ins g,Ua,Ua]
 have k:(t.put j).1.place.size=t.place.size+1:=by
  rw[c,<- RY,mC,QX,S4,RG,Zx,RY]
  lia
 have m:∀x,x∈(t.put j).1.place.toList↔x=j∨x∈t.place.toList:=λx=>by
  rw[c,mC,Qn,OK];constructor;rintro(z|z|z);exact .inr (zCn z);exact .inl z;exact .inr (List.mem_of_mem_drop z);rintro(z|z);exact .inr (.inl z);rw[<- zCa (below t.place j) t.place.toList]at z;rcases Qn.mp z with q|q;exact .inl q;exact .inr (.inr q)
 refine⟨⟨T.k,?_,?_,d,?_,by rw[k];exact b,?_⟩,s,e,k⟩;intro a b E c;rw[k]at c;have g:=sQ (xs:=(t.put j).1.place) (a:=a) (by rw[k];lia);have d:=sQ (xs:=(t.put j).1.place) (a:=b) (by rw[k];exact c);rw[o a]at g;rw[o b]at d;have w:∀c,c<t.place.size->t.place.getD c 0≠j:=λc c e=>l (by rw[<- e];exact get_mem (sQ c))
 by_cases e:a<below t.place j;rw[Og e]at g;obtain⟨B,u⟩:=dH g;have:=n a e;by_cases n:b<below t.place j;rw[Og n]at d;obtain⟨q,c⟩:=dH d;have:=T.rise a b E c
 lia
 rw[Oc n]at d;by_cases l:b=below t.place j;rw[Og l]at d;have:=SO d
 lia
 rw[Oc l]at d;obtain⟨q,c⟩:=dH d;have:=T.rise a (b - 1) (by lia) c
 lia
 rw[Oc e]at g;have n:¬b<below t.place j:=by lia
 have l:¬b=below t.place j:=by lia
 rw[Oc n,Oc l]at d;obtain⟨q,c⟩:=dH d;by_cases d:a=below t.place j;rw[Og d]at g;have:=SO g;have:=C (b - 1) (by lia) c;have:=w (b - 1) c
 lia
 rw[Oc d]at g;obtain⟨B,u⟩:=dH g;have:=T.rise (a - 1) (b - 1) (by lia) c
 lia
 intro x b;rcases(m x).mp b with z|z;subst z;exact pC t.mask h x (by rw[p];simp);exact T.le x z;rw[k,r,QX,S4,RG,Zx,<- T.len]
 lia
 intro a x n b c;rw[o a]at b;rw[r,get_ins s]at c;have g:∀{l:yag},(∀y∈l,y∈t.place.toList)->∀y∈l,y∈(t.put j).1.place.toList:=λk y h=>(m y).mpr (.inr (k y h))
 by_cases e:a<below t.place j;rw[Og e]at b c;obtain⟨m,l,k,h⟩:=T.reach a x n b c;exact⟨m,l,k,g h⟩;rw[Oc e]at b c;by_cases d:a=below t.place j;rw[Og d]at b c;cases b;cases c;exact⟨i,f,p,g A⟩;rw[Oc d]at b c;obtain⟨m,l,k,h⟩:=T.reach (a - 1) x n b c;exact⟨m,l,k,g h⟩
theorem vE(mask:Nat)(owner:Array (Option Nat)):∀(fuel i pt:Nat),layClean.free mask owner fuel i pt=(runs mask fuel i pt).find? λy=>(owner.getD y (some 0)).isNone
 |0,_,_=>rfl
 |fuel+1,i,pt=>by
  rw[oP,List.find?_append,List.range'_eq_map_range,List.find?_map];unfold layClean.free;have ih:=vE mask owner fuel (leap mask i pt).1 (leap mask i pt).2;have a:((λy=>(owner.getD y (some 0)).isNone)∘λx=>i+x)=λk=>(owner.getD (i+k) (some 0)).isNone:=rfl
  rw[a];cases(List.range (runEnd mask i+1 - i)).find? λk=>(owner.getD (i+k) (some 0)).isNone with
  |some k=>rfl
  |none=>exact ih
structure Ow(mask:Nat)(hs:yaf)(owner:Array (Option Nat)):Prop where
 size:owner.size=mask+1
 cnt:(owner.toList.filter Option.isSome).length=hs.length
 at_:∀(i:Nat) (h:Int),hs[i]?=some h->∃j:Nat,owner[j]?=some (some i)/\∃pre post,cE mask h=pre++j::post/\∀y∈pre,∃q,owner[y]?=some (some q)
 lt:∀j i:Nat,owner[j]?=some (some i)->i<hs.length
 inj:∀j j' i:Nat,owner[j]?=some (some i)->owner[j']?=some (some i)->j=j'
theorem sI{a:Type}{p:a->Bool}:∀{l:List a} {x:a},l.find? p=some x->∃c b,l=c++x::b/\p x=true/\∀y∈c,p y=false
 |[],_,h=>by cases h
 |a::r,x,h=>by
  rw[List.find?_cons]at h;cases pa:p a with
  |true=>rw[pa]at h;cases h;exact⟨[],r,rfl,pa,by simp⟩
  |false =>
   rw[pa]at h;obtain⟨c,b,e,d,f⟩:=sI h;refine⟨a::c,b,by simp_all,d,λy g=>?_⟩;grind
theorem sH{c:Type}{p:c->Bool}:∀{l:List c} {j:Nat} {a b:c},l[j]?=some a->p a=false->p b=true->((l.set j b).filter p).length=(l.filter p).length+1
 |[],_,_,_,h,_,_=>by simp at h
 |x::r,0,a,b,h,d,c=>by grind
 |x::r,j+1,a,b,h,d,c=>by
  have ih:=sH (l:=r) (j:=j) (by simpa using h) d c;by_cases c:p x=true
  all_goals simp_all
def Ow.step{mask k:Nat}(g:mask+1=2 ^ k){hs:yaf}{owner:Array (Option Nat)}(O:Ow mask hs owner)(w:hs.length<=mask)(h:Int) :
  ∃ j,layClean.free mask owner (turns mask) (bits h % (mask+1)) (bits h)=some j/\Ow mask (hs++[h]) (owner.setIfInBounds j (some hs.length)):=by
 have i:∃e:Nat,e<=mask/\owner[e]?=some none:=by
  refine Z9 λd=>?_
  have b:∀x∈owner.toList,Option.isSome x=true:=λx f=>by
   obtain⟨e,c,a⟩:=Vt f;rw[RY,O.size]at c;cases x with
   |some _=>rfl
   |none=>exact absurd ⟨e,by lia,by rw[<- Ua,O2 (by rw[RY,O.size];exact c),a]⟩ d
  have:=O.cnt;rw[Sd.mpr b,RY,O.size]at this
  lia
 have f:∀y,y<=mask->((owner.getD y (some 0)).isNone=true↔owner[y]?=some none):=λy b=>by
  have l:y<owner.size:=by rw[O.size];lia
  simp[Array.getD,l]
 obtain⟨e,c,a⟩:=i;have d:((cE mask h).find? λy=>(owner.getD y (some 0)).isNone).isSome=true:=by rw[List.find?_isSome];exact⟨e,cover g h c,(f e c).mpr a⟩
 obtain⟨j,a⟩:=Option.isSome_iff_exists.mp d;obtain⟨k,e,l,c,o⟩:=sI a;have d:j<=mask:=pC mask h j (by rw[l];simp);have i:=(f j d).mp c;have d:j<owner.size:=by rw[O.size];lia
 refine⟨j,by rw[vE];exact a,?_⟩;have g:∀y:Nat,(owner.setIfInBounds j (some hs.length))[y]?=if j=y then some (some hs.length)else owner[y]?:=λy=>by rw[Array.getElem?_setIfInBounds];by_cases c:j=y;rw[Og c,Og c,Og d];rw[Oc c,Oc c]
 have d:∀(y q:Nat),owner[y]?=some (some q)->(owner.setIfInBounds j (some hs.length))[y]?=some (some q):=λy q b=>by rw[g,Oc (λc=>by subst c;rw[i]at b;cases b)];exact b
 refine⟨by rw[Array.size_setIfInBounds];exact O.size,?_,?_,?_,?_⟩;rw[Array.toList_setIfInBounds,sH (a:=none) (by rw[Ua];exact i) rfl rfl,O.cnt,QX];rfl;intro i u a;by_cases c:i<hs.length;rw[UO c]at a;obtain⟨t,s,r,p,n,m⟩:=O.at_ i u a;exact⟨t,d _ _ s,r,p,n,λy b=>let ⟨q,z⟩:=m y b;⟨q,d _ _ z⟩⟩;have m:i=hs.length:=by
  have:=(QH.mp a).1;simp at this
  lia
 subst m;simp at a;subst a;refine⟨j,by rw[g,Og rfl],k,e,l,λy b=>?_⟩;have k:y<=mask:=pC mask h y (by rw[l];simp[b]);have e:=o y b;have a:y<owner.size:=by rw[O.size];lia
 cases oy:owner[y]with
 |none =>
  have:=(f y k).mpr (by rw[Vq a,oy]);rw[this]at e;cases e
 |some q=>exact⟨q,d y q (by rw[Vq a,oy])⟩
 intro y i b;rw[g]at b;by_cases c:j=y;rw[Og c]at b;cases b;simp;rw[Oc c]at b;have:=O.lt y i b;simp
 lia
 intro y d i b a;rw[g]at b a;by_cases c:j=y<;>by_cases e:j=d
 lia
 rw[Og c]at b;rw[Oc e]at a;cases b;have:=O.lt d _ a
 lia
 rw[Oc c]at b;rw[Og e]at a;cases a;have:=O.lt y _ b
 lia
 rw[Oc c]at b;rw[Oc e]at a;exact O.inj y d i b a
theorem yA{mask k:Nat}(b:mask+1=2 ^ k):∀(rest hs:yaf) (owner:Array (Option Nat)),Ow mask hs owner->hs.length+rest.length<=mask+1 →
  ∃ c,rest.foldl (λ(a:Option (Array (Option Nat)×Nat)) h=>do
   let (owner,k)←a
   let j←layClean.free mask owner (turns mask) (bits h % (mask+1)) (bits h)
   pure (owner.setIfInBounds j (some k),k+1)) (some (owner,hs.length))=some (c,(hs++rest).length)/\Ow mask (hs++rest) c
 |[],hs,owner,O,_=>⟨owner,by simp,by rw[U8];exact O⟩
 |h::r,hs,owner,O,a=>by
  rw[RG]at a;obtain⟨j,c,e⟩:=O.step b (by lia) h;obtain⟨a,d,Q⟩:=yA b r (hs++[h]) _ e (by rw[QX];simp;lia);refine⟨a,?_,by rw[US]at Q;exact Q⟩;rw[List.foldl_cons];have:(do
   let (owner,k)←(some (owner,hs.length):Option (Array (Option Nat)×Nat))
   let j←layClean.free mask owner (turns mask) (bits h % (mask+1)) (bits h)
   pure (owner.setIfInBounds j (some k),k+1))=some (owner.setIfInBounds j (some hs.length),(hs++[h]).length):=by
   show(layClean.free mask owner (turns mask) (bits h % (mask+1)) (bits h) >>= _)=_;rw[c];simp
  rw[this,d];simp
def zN{mask k:Nat}(b:mask+1=2 ^ k)(a:Array Int)(d:a.size<=mask+1):∃owner,layClean mask a=some owner/\Ow mask a.toList owner:=by
 have O:Ow mask [] (Array.replicate (mask+1) none):=by
  refine⟨by simp,by simp,by simp,λj i h=>?_,λj c i h _=>?_⟩
  all_goals simp_all [Array.getElem?_replicate]
 obtain⟨o,e,Q⟩:=yA b a.toList [] _ O (by simp_all);unfold layClean;grind
def live(mask:Nat)(owner:Array (Option Nat)):List (Nat×Nat):=(List.range (mask+1)).filterMap λj=>(owner.getD j none).map (j,·)
def hU{mask:Nat}{hs:yaf}{owner:Array (Option Nat)}(O:Ow mask hs owner){j i:Nat}:(j,i)∈live mask owner↔owner[j]?=some (some i):=by
 unfold live;rw[zC0];constructor;rintro⟨y,a,e⟩;rw[zDQ]at a;obtain⟨q,c,b⟩:=U7.mp e;cases b;have l:j<owner.size:=by rw[O.size];exact a
 simp_all
 intro h;obtain⟨l,e⟩:=WX.mp h;refine⟨j,by rw[zDQ,<- O.size];exact l,?_⟩
 simp_all
def qU(mask:Nat)(owner:Array (Option Nat)):(live mask owner).map (·.1)=(List.range (mask+1)).filter λj=>(owner.getD j none).isSome:=by
 unfold live
 induction List.range (mask+1)with
 |nil=>rfl
 |cons a r ih =>
  cases e:owner.getD a none with
  |none=>rw[List.filterMap_cons_none (by rw[e];rfl),List.filter_cons_of_neg (by simp[e]),ih]
  |some q=>rw[zCp (by rw[e];rfl),List.filter_cons_of_pos (by simp[e]),Pj,ih]
def GK{mask:Nat}{hs:yaf}{owner:Array (Option Nat)}(O:Ow mask hs owner):(live mask owner).length=hs.length:=by
 have b:(live mask owner).length=((live mask owner).map (·.1)).length:=by simp
 have a:owner.toList=(List.range (mask+1)).map λj=>owner.getD j none:=by
  apply List.ext_getElem?;intro j;rw[PO,Ua];by_cases c:j<mask+1;have l:j<owner.size:=by rw[O.size];exact c
  simp_all
  rw[W5 (by simp_all),zCR (by rw[O.size];lia)];rfl
 rw[b,qU,<- O.cnt,a,List.filter_map,Of];rfl
def vL(mask:Nat)(owner:Array (Option Nat)):((live mask owner).map (·.1)).Pairwise (·<·):=by rw[qU];exact List.Pairwise.filter _ List.pairwise_lt_range
def JY{l:yag}(h:l.Pairwise (·<·)):jb l.toArray:=by
 intro a b d e;have c:b<l.length:=by simp_all
 have:=Vr.mp h a b (by lia) c d;simp[Array.getD,show a<l.length by lia,c];exact this
def Jq{mask k:Nat}(N:mask+1=2 ^ (k+1))(finger moves:Nat)(led plain:Bool){V:Type}(es:Array (Int×V))(B:es.size<=mask) :
  ∃ t c,laid mask finger moves led plain (es.map (·.1))=some (t,c)/\t.mask=mask/\t.led=led/\t.plain=plain ∧
   ∃ d:List (Int×V),(c.filterMap (es[·]?)).toList=d/\d.length=es.size/\Tab t (d.map (·.1))/\t.place.size=es.size ∧
    (∀(a:Nat) (e:Int×V),d[a]?=some e->∃i:Nat,c[a]?=some i/\es[i]?=some e)/\(∀i:Nat,i<es.size->∃a:Nat,c[a]?=some i)/\∀(a b i:Nat),c[a]?=some i->c[b]?=some i->a=b:=by
 obtain⟨c,eo,O⟩:=zN N (es.map (·.1)) (by rw[Array.size_map];lia);have f:(es.map (·.1)).toList.length=es.size:=by simp
 refine⟨{mask,place:=((live mask c).map (·.1)).toArray,dummies:=#[],finger,led,moves,plain},((live mask c).map (·.2)).toArray,by unfold laid;rw[eo];rfl,rfl,rfl,rfl,?_⟩;have A:=GK O;rw[f]at A;have w:∀p∈live mask c,p.2<es.size:=λp hp=>by have:=O.lt p.1 p.2 ((hU O).mp hp);rw[f]at this;exact this
 have m:∀l:List (Nat×Nat),(∀p∈l,p.2<es.size)->(((l.map (·.2)).filterMap λi=>es[i]?).map some)=l.map λp=>es[p.2]?:=λl B=>by
  induction l with
  |nil=>rfl
  |cons p r ih =>
   have o:=B p (by simp);rw[Pj,zCp (Vq o),Pj,Pj,ih λq d=>B q (by simp[d]),Vq o]
 have Q:∀a:Nat,((((live mask c).map (·.2)).filterMap λi=>es[i]?)[a]?).map some=((live mask c)[a]?).map λp=>es[p.2]?:=λa=>by have:=congrArg (λl=>l[a]?) (m _ w);simp only[PO]at this;exact this
 refine⟨((live mask c).map (·.2)).filterMap λi=>es[i]?,by simp,?_,?_,?_,?_,?_,?_⟩;have:=congrArg List.length (m _ w);rw[Of,Of]at this;rw[this,A];refine⟨⟨k,N⟩,JY (vL mask c),?_,rfl,?_,?_,?_⟩;intro x J;have E:x∈(live mask c).map (·.1):=by simpa using J
 rw[qU,zDP,zDQ]at E;show x<=mask
 lia
 have:=congrArg List.length (m _ w);rw[Of,Of]at this;rw[RF,Of,Of,this];rw[RF,Of,A];exact B;intro a x h J C;have E:((live mask c).map (·.1))[a]?=some x:=by simpa using J
 rw[PO]at E;obtain⟨p,d,M⟩:=U7.mp E;have g:=Q a;rw[d]at g;have o:=w p (Ql d);rw[PO]at C;obtain⟨e,ee,eh⟩:=U7.mp C;rw[ee,Option.map_some,Option.map_some,Vq o]at g;have L:=SO (SO g);obtain⟨j',o',G,n,ev,q⟩:=O.at_ p.2 h (by rw[<- eh,L,<- Ua]at *;rw[Ua,Array.getElem?_map,Vq o];rfl)
 have H:=(hU O).mp (show(p.1,p.2)∈live mask c from Ql d);have:=O.inj j' p.1 p.2 o' H;subst this;subst M;refine⟨G,n,ev,λy hy=>?_⟩;obtain⟨z,hz⟩:=q y hy;simp only[OZ];exact⟨(y,z),(hU O).mpr hz,rfl⟩;rw[RF,Of,A];intro a e he;have g:=Q a;rw[he]at g;cases d:(live mask c)[a]? with
 |none=>rw[d]at g;cases g
 |some p =>
  rw[d]at g;exact⟨p.2,by simp[d],(SO g).symm⟩
 intro i hi;obtain⟨h,C⟩:∃h,(es.map (·.1)).toList[i]?=some h:=⟨_,O2 (by rw[f];exact hi)⟩;obtain⟨j,H,_⟩:=O.at_ i h C;obtain⟨a,I,ea⟩:=Vt ((hU O).mpr H);exact⟨a,by simp[O2 I,ea]⟩;intro a b i ha hb;have U:((live mask c).map (·.2))[a]?=some i:=by simpa using ha
 have Y:((live mask c).map (·.2))[b]?=some i:=by simpa using hb
 rw[PO]at U Y;obtain⟨p,d,M⟩:=U7.mp U;obtain⟨q,T,e2⟩:=U7.mp Y;have o1:=(hU O).mp (show(p.1,p.2)∈live mask c from Ql d);have o2:=(hU O).mp (show(q.1,q.2)∈live mask c from Ql T);have ej:=O.inj p.1 q.1 i (by rw[<- M];exact o1) (by rw[<- e2];exact o2);have r:=vL mask c;have I:=(QH.mp d);have lb:=(QH.mp T);obtain⟨u,t⟩:=I;obtain⟨s,j⟩:=lb;rcases Yw a b with z|z|z;have:=Vr.mp r a b (by rw[Of];exact u) (by rw[Of];exact s) z;rw[Up,Up,t,j]at this
 lia
 exact z;have:=Vr.mp r b a (by rw[Of];exact s) (by rw[Of];exact u) z;rw[Up,Up,t,j]at this
 lia
theorem xb:∀(fuel a n:Nat),n<a*2 ^ fuel->∃m,sizeAbove.go n fuel a=a*2 ^ m/\n<a*2 ^ m
 |0,a,n,h=>⟨0,by simp[sizeAbove.go],h⟩
 |fuel+1,a,n,h=>by
  unfold sizeAbove.go;by_cases c:a<=n
  ·obtain⟨m,d,b⟩:=xb fuel (a*2) n (by simp_all [VS,Nat.mul_assoc,Nat.mul_comm]);refine⟨m+1,?_,?_⟩
   all_goals simp_all [VS,Nat.mul_assoc,Nat.mul_comm]
  rw[Oc c];exact⟨0,by simp,by lia⟩
def above{n:Nat}(h:n<2 ^ 60):∃k,sizeAbove n - 1+1=2 ^ (k+1)/\n<=sizeAbove n - 1:=by
 obtain⟨m,a,b⟩:=xb 64 8 n (QZ h (by decide));have e:sizeAbove n=8*2 ^ m:=a;refine⟨m+2,?_,by lia⟩
 lia
end ST
namespace SW
open PySem PySem.SetTable ST
section
variable{prog:Program}{w:World}{A:Around}{E:yaa}{s:Shared}
abbrev TK(prog:Program)(w:World):HeapKind prog w (yaf):=tupleKind (intKind prog w)
theorem items_int:∀{ks:yaf} {vs:yad},ItemsAre (intKind prog w) ks vs->∀v∈vs,∃n t,v=Value.int n t
 |_,_,.nil,v,h=>by cases h
 |_,_,.cons h t,v,a=>by
  rcases OK.mp a with z|z;subst z;obtain⟨t,e⟩:=Value.isInt_shape h;exact⟨_,t,e⟩;exact items_int t v z
def vO{Q:Bool->Shared->Prop}(e:(TK prog w).is s.heap k b)(l:Q false s):wpAny (model prog w) A (ofAClassStatement 8 (.ref b)) Q E s:=by
 obtain⟨o,a,n,d,h,g,f⟩:=e;unfold ofAClassStatement;refine Oa (wpAny_typeOf (T := "tuple") ⟨o,d,h⟩ ?_);refine Oa (wpAny_pure ?_);refine Oa (Vb d g ?_);refine Oa ?_;rw[<- Array.forIn_toList];refine wpAny_forIn_list _ (λrest r c=>r.1=none/\c=s/\∀v∈rest,∃n t,v=Value.int n t) _ ?_ ?_ _ _ ⟨rfl,rfl,items_int f⟩;rintro v rest r c ⟨j,rfl,i⟩;obtain⟨m,t,rfl⟩:=i v (by simp_all);exact wpAny_pure ⟨rfl,rfl,by simp_all⟩
 simp_all [wpAny_pure]
def D4{Q:Bool->Shared->Prop}(e:(TK prog w).is s.heap k b)(l:Q true s):wpAny (model prog w) A (hashByValue 8 (.ref b)) Q E s:=by
 obtain⟨o,a,n,d,h,g,f⟩:=e;refine Oa (ZE (T := "tuple") ⟨o,d,h⟩ F.slot_tuple_hash.lookup ?_);refine Oa (Vb d g ?_);refine Oa ?_;rw[<- Array.forIn_toList];refine wpAny_forIn_list _ (λrest r c=>r.1=none/\c=s/\∀v∈rest,∃n t,v=Value.int n t) _ ?_ ?_ _ _ ⟨rfl,rfl,items_int f⟩;rintro v rest r c ⟨j,rfl,i⟩;obtain⟨m,t,rfl⟩:=i v (by simp_all);exact wpAny_pure ⟨rfl,rfl,by simp_all⟩
 simp_all [wpAny_pure]
def CH{vs:yad}{Q:Bool->Shared->Prop}(f:(TK prog w).is s.heap k b)(i:∀v∈vs,∃d c,v=Value.ref c/\(TK prog w).is s.heap d c)(m:Q false s) :
  wpAny (model prog w) A (searchCouldBeSeen (.ref b) vs) Q E s:=by
 refine Oa (wpAny_forIn_list _ (λrest r e=>r.1=none/\e=s/\∀v∈rest,∃d c,v=Value.ref c/\(TK prog w).is s.heap d c) _ ?_ ?_ _ _ ⟨rfl,rfl,i⟩);rintro v rest r e ⟨l,rfl,j⟩;have h:∀u∈rest,∃d c,u=Value.ref c/\(TK prog w).is e.heap d c:=by simp_all
 obtain⟨d,c,rfl,g⟩:=j v (by simp_all);by_cases a:((b==c) || (carriedByValue (.ref b) && carriedByValue (.ref c)))=true;rw[Og a];exact wpAny_pure ⟨rfl,rfl,h⟩;rw[Oc a];refine Oa ((TK prog w).quiet f ?_);refine Oa ((TK prog w).quiet g ?_);refine Oa (vO f ?_);refine Oa (vO g ?_);exact wpAny_pure ⟨rfl,rfl,h⟩
 simp_all [wpAny_pure]
theorem qA{o:Obj}{xs:List (yaf×Addr)}{Q:SetFound->Shared->Prop}(hu:A.units<cLine)(hk:(TK prog w).is s.heap k b)
  (ho:s.heap.get? a=some o) (hd:o.data=.set es ep t) (he:es.toList=xs.map λx=>((TK prog w).hash x.1,Value.ref x.2)) (XG:∀x∈xs,(TK prog w).is s.heap x.1 x.2) (T:Tab t (xs.map λx=>(TK prog w).hash x.1))
  (XF:k∈xs.map (·.1)->Q (.there none) s) (ZJ:k∉xs.map (·.1)->∀j d f,cE t.mask ((TK prog w).hash k)=d++j::f->(∀y∈d,y∈t.place.toList)->j∉t.place.toList->Q (.free j false) s) :
  ∀ (fuel:Nat) (l done:yag) (c:Nat) (st:Option Probe),ahead t.mask c (st.getD (t.probeStart ((TK prog w).hash k)))=l->cE t.mask ((TK prog w).hash k)=done++l →
   (∀y∈done,∃(i:Nat) (x:yaf×Addr),t.place[i]?=some y/\xs[i]?=some x/\x.1≠k)->l.length<fuel->(st.getD (t.probeStart ((TK prog w).hash k))).dummy=none->wpAny (model prog w) A (setSearchFrom a (.ref b) ((TK prog w).hash k) true fuel st) Q E s
 |0,_,_,_,_,_,_,_,hf,_=>absurd hf (Nat.not_lt_zero _)
 |fuel+1,l,done,c,st,e1,e2,J,hf,hdm=>by
  have sz:es.size=xs.length:=by rw[<- RY,he,Of]
  have H:t.fits es.size=true:=by have:=T.fits;rw[Of]at this;rw[sz];exact this
  have psz:t.place.size=xs.length:=by have:=T.len;rw[Of]at this;exact this
  have n:∀(i:Nat) (x:yaf×Addr),xs[i]?=some x->es[i]?=some ((TK prog w).hash x.1,Value.ref x.2):=λi x p=>by rw[<- Ua,he,PO,p];rfl
  have g:∀i y:Nat,t.place[i]?=some y->∃x,xs[i]?=some x:=λi y u=>by have:=(dH u).2;exact⟨xs[i]'(by lia),O2 (by lia)⟩
  have Y:∀(i:Nat) (x:yaf×Addr),xs[i]?=some x->(es[i]?.map (·.1)).getD 0=(TK prog w).hash x.1:=λi x p=>by rw[n i x p];rfl
  have dpl:∀y∈done,y∈t.place.toList:=λy u=>let ⟨i,_,r,_⟩:=J y u;get_mem r
  have emp:∃x∈l,x∉t.place.toList:=by
   obtain⟨x,p,e⟩:=T.empty ((TK prog w).hash k);rw[e2]at p;rcases Qn.mp p with z|z;exact absurd (dpl x z) e;exact⟨x,z,e⟩
  have ll:l.length<=10*turns t.mask:=by
   have:=tX t.mask ((TK prog w).hash k);rw[e2,QX]at this
   lia
  unfold setSearchFrom;refine Oa (Vu ho hd H ?_);dsimp only;rw[T.stays];simp only[Uk,if_false];generalize hm:t.probe _ ((TK prog w).hash k) (st.getD (t.probeStart ((TK prog w).hash k)))=m;rcases yW T.rise T.dum (λi=>(es[i]?.map (·.1)).getD 0) ((TK prog w).hash k) l (10*turns t.mask) c _ e1 ll emp hdm with⟨d,j,f,q1,q2,I,q4⟩| ⟨d,j,f,i,q,c',q1,q2,I,q4,q5,q6,q7⟩;have em:m=some (.empty j none):=hm.symm.trans q4;subst em;dsimp only;have N:cE t.mask ((TK prog w).hash k)=(done++d)++j::f:=by rw[e2,q1,US]
  have hpp:∀y∈done++d,y∈t.place.toList:=λy u=>by
   rcases Qn.mp u with z|z;exact dpl y z;obtain⟨i,r,_⟩:=q2 y z;exact get_mem r
  refine wpAny_pure (ZJ (λO=>?_) j _ f N hpp I);obtain⟨x,p,C⟩:=OZ.mp O;obtain⟨G,li,ei⟩:=Vt p;have B:xs[G]?=some x:=by rw[O2 li,ei]
  have L:=sQ (xs:=t.place) (a:=G) (by lia);obtain⟨XH,post0,v0,p0⟩:=T.reach G _ ((TK prog w).hash k) L (by rw[PO,B,<- C];rfl);have x0:t.place.getD G 0∈done++d:=by
   have h:XH.length<(done++d).length:=by
    refine Z9 λnl=>?_
    have e:(cE t.mask ((TK prog w).hash k))[(done++d).length]?=some j:=by rw[N,Vp (O5 _),Nat.sub_self];rfl
    rw[v0]at e;by_cases U:(done++d).length<XH.length;rw[UO U]at e;exact I (p0 j (Ql e));have M:(done++d).length=XH.length:=by lia
    rw[M,Vp (O5 _),Nat.sub_self]at e;have:t.place.getD G 0=j:=SO e;exact I (by rw[<- this];exact get_mem L)
   have e:(cE t.mask ((TK prog w).hash k))[XH.length]?=some (t.place.getD G 0):=by rw[v0,Vp (O5 _),Nat.sub_self];rfl
   rw[N,UO h]at e;exact Ql e
  have same:∀h:Nat,t.place[h]?=some (t.place.getD G 0)->h=G:=λh h'=>(below_at T.rise h').symm.trans (below_at T.rise L)
  rcases Qn.mp x0 with z|z;obtain⟨h,x',r,M,h3⟩:=J _ z;have:=same h r;subst this;rw[B]at M;cases M;exact h3 C;obtain⟨h,r,M⟩:=q2 _ z;have:=same h r;subst this;exact M (by rw[Y h x B,C]);have em:m=some (.candidate j i q):=hm.symm.trans q7;subst em;dsimp only;obtain⟨x,B⟩:=g i j I;have p:=XG x (Ql B);have stored:∀v∈(es.filter (·.1==(TK prog w).hash k)).toList.map (·.2),∃k' c,v=Value.ref c/\(TK prog w).is s.heap k' c:=λv N=>by
   obtain⟨e,Wh,rfl⟩:=OZ.mp N;have U:e∈es.toList:=by have:=Array.mem_toList_iff.mp Wh;exact Array.mem_toList_iff.mpr (Array.mem_filter.mp this).1
   rw[he]at U;obtain⟨y,u,rfl⟩:=OZ.mp U;exact⟨y.1,y.2,rfl,XG y u⟩
  have go:wpAny (model prog w) A (do
    let some (_,y):=es[i]?|unsupported "internal:set-entry"
    let equal←holding [y] (eqBool y (.ref b))
    let (RX,_,t')←setState a
    if true && equal then return SetFound.there none
    let some same:=t'.sameMemory t.moves t.mask|unsupported "set.changed-during-lookup:is-the-new-block-at-the-old-address"
    let still←match(if same then t'.slot j else .empty)with
     |.live h=>match RX[h]? with
      |some (_,e)=>do pure (if←isSame e y then some h else none)
      |none=>pure none
     |_=>pure none
    match still with
    |none=>rule "set.search.anew"; setSearchFrom a (.ref b) ((TK prog w).hash k) true fuel none
    |some h=>if equal then return .there (some h)else setSearchFrom a (.ref b) ((TK prog w).hash k) true fuel (some q)) Q E s:=by
   rw[n i x B];dsimp only;refine Oa (SF ((TK prog w).eqBool hu p hk ?_));refine Oa (Vu ho hd H ?_);dsimp only;by_cases C:x.1=k;rw[Og (by simp[C])];exact wpAny_pure (XF (OZ.mpr ⟨x,Ql B,C⟩));rw[Oc (by simp[C])];have sm:t.sameMemory t.moves t.mask=some true:=by unfold SetTable.sameMemory;simp
   rw[sm];dsimp only;rw[Og rfl,vU T.rise I];dsimp only;rw[n i x B];dsimp only;refine Oa (wpAny_isSame_ref_self ?_);simp only[UX];refine Oa (wpAny_pure ?_);dsimp only;rw[Oc (by simp[C])];refine qA hu hk ho hd he XG T XF ZJ fuel f (done++d++[j]) c' (some q) q5.symm (by rw[e2,q1];simp) (λy u=>?_) (by rw[q1,QX,RG]at hf;lia) q6;rcases Qn.mp u with z|z;rcases Qn.mp z with z|z;exact J y z;obtain⟨h,r,M⟩:=q2 y z;obtain⟨x',e⟩:=g h y r;exact⟨h,x',r,e,λU=>M (by rw[Y h x' e,U])⟩;simp at z;subst z;exact⟨i,x,I,B,C⟩
  by_cases e:t.led=true;rw[Oc (by simp[e])];exact go;rw[Og (by simp[e])];refine Oa (CH hk stored ?_);simp only[Uk,if_false];exact go
theorem xc:∀(fuel a n:Nat),sizeAbove.go n fuel a<=max a (2*n)
 |0,a,n=>by unfold sizeAbove.go;lia
 |fuel+1,a,n=>by
  unfold sizeAbove.go;split;have:=xc fuel (a*2) n
  lia
  lia
structure jc(prog:Program)(w:World)(h:Heap)(a:Addr)(xs:List (yaf×Addr)):Prop where
 ex:∃o es ep t,h.get? a=some o/\o.ExactSet/\o.data=.set es ep t/\es.toList=xs.map (λx=>((TK prog w).hash x.1,Value.ref x.2))/\Tab t (xs.map λx=>(TK prog w).hash x.1)/\(t.plain=true/\t.led=!w.params.followText "set-order")/\t.place.size*5<t.mask*3/\t.mask<=8191
 is_:∀x∈xs,(TK prog w).is h x.1 x.2
 nd:(xs.map (·.1)).Nodup
def kI {o:Obj} (e:(TK prog w).is h k b) (j:h.get? a=some o) (l:o.cls=.type "set") (hs:Heap.SameBut a h h'):(TK prog w).is h' k b:=by
 obtain⟨d,c,n,h,i,g,f⟩:=e;have e:b≠a:=by lia
 exact⟨d,c,n,hs.extBut b d e h,i,g,f⟩
def He{xs:List (yaf×Addr)}{o:Obj}{c:Nat}{Q:Unit->Shared->Prop}(B:s.heap.get? a=some o)(m:o.ExactSet)(C:o.data=.set es ep t)(d:es.toList=xs.map λx=>((TK prog w).hash x.1,Value.ref x.2))
  (T:Tab t (xs.map λx=>(TK prog w).hash x.1)) (U:t.plain=true/\t.led=!w.params.followText "set-order") (XG:∀x∈xs,(TK prog w).is s.heap x.1 x.2) (N:(xs.map (·.1)).Nodup) (hw:c=4*xs.length) (hn:0<xs.length) (hl:xs.length<=1000)
  (hQ:∀h' ys,Heap.SameBut a s.heap h'->jc prog w h' a ys->ys.length=xs.length->(∀y,y∈ys↔y∈xs)->Q () {s with heap:=h'}):wpAny (model prog w) A (setRelay a c) Q E s:=by
 have G:es.size=xs.length:=by rw[<- RY,d,Of]
 have u:t.fits es.size=true:=by have:=T.fits;rw[Of]at this;rw[G];exact this
 obtain⟨k,l,eb⟩:=above (n:=c) (by lia);have up:sizeAbove c<=max 8 (2*c):=xc 64 8 c;generalize Y1:(xs.map λx=>((TK prog w).hash x.1,x)).toArray=f;have n:f.size=xs.length:=by rw[<- Y1];simp
 have g:∀i:Nat,f[i]?=xs[i]?.map λx=>((TK prog w).hash x.1,x):=λi=>by rw[<- Y1];simp
 have j:∀i:Nat,es[i]?=xs[i]?.map λx=>((TK prog w).hash x.1,Value.ref x.2):=λi=>by rw[<- Ua,d,PO]
 have e:es.map (·.1)=f.map (·.1):=by apply Array.ext_getElem?;intro i;rw[Array.getElem?_map,Array.getElem?_map,g,j];cases xs[i]?<;>rfl
 obtain⟨h,b,k,O,m2,m3,d,p,L,T,f3,I,Q,f6⟩:=Jq l t.finger (t.movedTo (sizeAbove c - 1)) t.led t.plain f (by lia);have er:t.relaid (es.map (·.1)) c=some (h,b):=by unfold SetTable.relaid;rw[e];exact k
 generalize XI:d.map (·.2)=ys;have t:∀l:yag,(l.filterMap λi=>es[i]?)=(l.filterMap λi=>f[i]?).map λz=>(z.1,Value.ref z.2.2):=λl=>by
  induction l with
  |nil=>rfl
  |cons i r ih =>
   cases e:xs[i]? with
   |none=>rw[List.filterMap_cons_none (by rw[j,e];rfl),List.filterMap_cons_none (by rw[g,e];rfl),ih]
   |some x=>rw[zCp (by rw[j,e];rfl),zCp (by rw[g,e];rfl),Pj,ih]
 have k:b.toList.filterMap (λi=>f[i]?)=d:=by rw[<- p];simp
 have p:∀z∈d,z=((TK prog w).hash z.2.1,z.2)/\z.2∈xs:=λz c=>by obtain⟨q,l,j⟩:=Vt c;obtain⟨i,_,f⟩:=I q z (by rw[O2 l,j]);rw[g]at f;obtain⟨x,J,e⟩:=U7.mp f;subst e;exact⟨rfl,Ql J⟩
 have f:(b.filterMap λi=>es[i]?).toList=ys.map λx=>((TK prog w).hash x.1,Value.ref x.2):=by
  have:(b.filterMap λi=>es[i]?).toList=b.toList.filterMap λi=>es[i]?:=by simp
  rw[this,t,k,<- XI,Pp];apply Wv;intro z c;obtain⟨e,_⟩:=p z c;show(z.1,Value.ref z.2.2)=((TK prog w).hash z.2.1,Value.ref z.2.2);rw[show z.1=(TK prog w).hash z.2.1 from congrArg (·.1) e]
 have H:d.map (·.1)=ys.map λx=>(TK prog w).hash x.1:=by rw[<- XI,Pp];apply Wv;intro z c;obtain⟨e,_⟩:=p z c;exact congrArg (·.1) e
 have M:ys.length=xs.length:=by rw[<- XI,Of,L,n]
 have L:∀y,y∈ys↔y∈xs:=λy=>by
  rw[<- XI];constructor;intro j;obtain⟨z,c,rfl⟩:=OZ.mp j;exact(p z c).2;intro j;obtain⟨i,p,t⟩:=Vt j;obtain⟨q,r⟩:=Q i (by rw[n];exact p);have c:((TK prog w).hash y.1,y)∈d:=by rw[<- k,zC0];refine⟨i,?_,by rw[g,O2 p,t];rfl⟩;rw[<- Ua]at r;exact Ql r
  exact OZ.mpr ⟨_,c,rfl⟩
 have r:(ys.map (·.1)).Nodup:=by
  rw[<- XI,Pp];refine Vr.mpr λp q c l hpq e=>?_
  rw[Of]at c l;simp only[Up,Function.comp]at e;obtain⟨i,Y,Q⟩:=I p d[p] (O2 c);obtain⟨k,t,c⟩:=I q d[q] (O2 l);rw[g]at Q c;obtain⟨x,J,I⟩:=U7.mp Q;obtain⟨l,g,d⟩:=U7.mp c;rw[<- I,<- d]at e;have I:x.1=l.1:=e;obtain⟨l,e⟩:=QH.mp J;obtain⟨d,c⟩:=QH.mp g;have g:i=k:=by
   rcases Yw i k with z|z|z;have:=Vr.mp N i k (by rw[Of];exact l) (by rw[Of];exact d) z;rw[Up,Up,e,c]at this;exact absurd I this;exact z;have:=Vr.mp N k i (by rw[Of];exact d) (by rw[Of];exact l) z;rw[Up,Up,e,c]at this;exact absurd I.symm this
  subst g;have:=f6 p q i Y t
  lia
 unfold setRelay;refine Oa (Vu B C u ?_);dsimp only;rw[Oc (by rw[sizeLine_eq];lia),er];have c:(b.filterMap λi=>es[i]?).size=es.size:=by rw[<- RY,f,Of,M,G]
 refine Oa ?_;show wpAny _ _ (if((b.filterMap λi=>es[i]?).size != es.size)=true then _ else pure (b.filterMap (λi=>es[i]?),h)) _ _ _;rw[Oc (by rw[c];simp)];refine wpAny_pure ?_;refine wpAny_storeSet_of B C ?_ (by rw[c,G,sizeLine_eq];lia);have c:(s.heap.update a (Obj.putSet (b.filterMap λi=>es[i]?) h)).get? a=some {o with data:=.set (b.filterMap λi=>es[i]?) (ep+1) h}:=by have:=VN (Obj.putSet (b.filterMap λi=>es[i]?) h) B (by rw[putSet_of _ _ C];rfl);rw[putSet_of _ _ C]at this;exact this
 rw[H]at T;refine hQ _ ys (XS ..) ⟨⟨_,_,ep+1,h,c,m,rfl,f,T,⟨by rw[m3];exact U.1,by rw[m2];exact U.2⟩,by rw[O,f3,n];lia,by rw[O];lia⟩,λy j=>kI (XG y ((L y).mp j)) B m.1 (XS ..),r⟩ M L
def Ky{Q:Bool->Shared->Prop}(hu:A.units<cLine)(S:jc prog w s.heap a xs)(O:(TK prog w).is s.heap k b)(hl:xs.length<1000)
  (hQ:∀h' ys Y,Heap.SameBut a s.heap h'->jc prog w h' a ys->ys.length<=xs.length+1->(∀l,l∈ys.map (·.1)↔l∈xs.map (·.1)∨l=k)->(∀y∈ys,y∈xs∨y=(k,b))->Q Y {s with heap:=h',toks:=s.toks+(TK prog w).draws k}) :
  wpAny (model prog w) A (setAdd a (.ref b)) Q E s:=by
 unfold setAdd;refine SF (Oa ((TK prog w).pyHash hu O ?_));generalize hs':({s with toks:=s.toks+(TK prog w).draws k}:Shared)=f;have U:f.heap=s.heap:=by rw[<- hs']
 obtain⟨⟨o,m,ep,t,r,h,H,he,T,PH,hlo,N⟩,XG,nd⟩:=S;rw[<- U]at r O;have Y2:∀x∈xs,(TK prog w).is f.heap x.1 x.2:=by rw[U];exact XG
 have sz:m.size=xs.length:=by rw[<- RY,he,Of]
 have B:t.fits m.size=true:=by have:=T.fits;rw[Of]at this;rw[sz];exact this
 have psz:t.place.size=xs.length:=by have:=T.len;rw[Of]at this;exact this
 have i:∀(h':Heap) (Y:Bool),Q Y {s with heap:=h',toks:=s.toks+(TK prog w).draws k}->Q Y {f with heap:=h'}:=λh' Y q=>by rw[<- hs'];exact q
 unfold setAddHashed;refine SF ?_;unfold setAddHashedIn;refine Oa (Vu r H B ?_);dsimp only;rw[Oc (by unfold byScan;simp[Value.scannable])];obtain⟨c,ec⟩:=zD t ((TK prog w).hash k);have vl:=tX t.mask ((TK prog w).hash k);unfold setSearch;refine Oa (qA hu O r H he Y2 T (λXF=>?_) (λZJ j pre post hv hp hj=>?_) 100000 _ [] c none ec.symm (by simp) (by simp) (by unfold turns at vl;lia) rfl);dsimp only;refine wpAny_pure ?_;have e:f={f with heap:=f.heap}:=by cases f;rfl
 rw[e];refine i _ _ (hQ f.heap xs _ (by rw[U];exact Heap.SameBut.refl a s.heap) ⟨⟨o,m,ep,t,r,h,H,he,T,PH,hlo,N⟩,Y2,nd⟩ (by lia) (λl=>⟨.inl,λz=>z.elim id λz=>by subst z;exact XF⟩) λy g=>.inl g);dsimp only;refine Oa (Vu r H B ?_);dsimp only;obtain⟨T',pl,pm,ps⟩:=T.put hj hv hp (by lia);rw[Of]at pl;have hpp:(t.put j).1.plain=true:=PH.1;have M:(t.put j).1.plain=true/\(t.put j).1.led=!w.params.followText "set-order" := PH;rw[hpp];simp only[UX];refine Oa (D4 O ?_);simp only[UX];generalize hp2:(t.put j).2=p at *;generalize ht2:(t.put j).1=n at *;have G:(insertAt m p ((TK prog w).hash k,Value.ref b)).toList=(xs.take p++(k,b)::xs.drop p).map λx=>((TK prog w).hash x.1,Value.ref x.2):=by rw[mC,he,Q1,Pj,List.map_take,List.map_drop]
 have u:(xs.take p++(k,b)::xs.drop p).length=xs.length+1:=by
  rw[QX,S4,RG,Zx]
  lia
 have J:(insertAt m p ((TK prog w).hash k,Value.ref b)).size=xs.length+1:=by rw[<- RY,G,Of,u]
 have d:∀y,y∈xs.take p++(k,b)::xs.drop p↔y=(k,b)∨y∈xs:=λy=>by
  rw[Qn,OK];constructor;rintro(z|z|z);exact .inr (zCn z);exact .inl z;exact .inr (List.mem_of_mem_drop z);rintro(z|z);exact .inr (.inl z);rw[<- zCa p xs]at z;rcases Qn.mp z with q|q;exact .inl q;exact .inr (.inr q)
 have I:((xs.take p++(k,b)::xs.drop p).map (·.1)).Nodup:=by
  rw[Q1,Pj];have n0:=nd;have h0:=ZJ;rw[<- zCa p xs,Q1]at n0 h0;rw[zC6]at n0 ⊢;obtain⟨n1,n2,n3⟩:=n0;rw[Qn,not_or]at h0;refine⟨n1,Vw.mpr ⟨h0.2,n2⟩,λx hx y g=>?_⟩;rcases OK.mp g with z|z;intro e;subst e;subst z;exact h0.1 hx;exact n3 x hx y z
 have Wj:∀zs:List (yaf×Addr),(∀y,y∈zs↔y∈xs.take p++(k,b)::xs.drop p)->∀l,l∈zs.map (·.1)↔l∈xs.map (·.1)∨l=k:=λzs hz l=>by
  constructor;intro h1;obtain⟨y,g,e⟩:=OZ.mp h1;rcases(d y).mp ((hz y).mp g)with q|q;subst q;exact .inr e.symm;exact .inl (OZ.mpr ⟨y,q,e⟩);rintro(h1|h1);obtain⟨y,g,e⟩:=OZ.mp h1;exact OZ.mpr ⟨y,(hz y).mpr ((d y).mpr (.inr g)),e⟩;subst h1;exact OZ.mpr ⟨(l,b),(hz _).mpr ((d _).mpr (.inl rfl)),rfl⟩
 refine Oa (wpAny_storeSet_of r H ?_ (by rw[J,sizeLine_eq];lia));have hg:(f.heap.update a (Obj.putSet (insertAt m p ((TK prog w).hash k,Value.ref b)) n)).get? a=some {o with data:=.set (insertAt m p ((TK prog w).hash k,Value.ref b)) (ep+1) n}:=by have:=VN (Obj.putSet (insertAt m p ((TK prog w).hash k,Value.ref b)) n) r (by rw[putSet_of _ _ H];rfl);rw[putSet_of _ _ H]at this;exact this
 have sb:=XS f.heap a (Obj.putSet (insertAt m p ((TK prog w).hash k,Value.ref b)) n);generalize hh2:f.heap.update a (Obj.putSet (insertAt m p ((TK prog w).hash k,Value.ref b)) n)=h2 at hg sb ⊢;have T2:Tab n ((xs.take p++(k,b)::xs.drop p).map λx=>(TK prog w).hash x.1):=by rw[Q1,Pj,List.map_take,List.map_drop];exact T'
 have L:∀x∈xs.take p++(k,b)::xs.drop p,(TK prog w).is h2 x.1 x.2:=λx hx=>by
  rcases(d x).mp hx with z|z;subst z;exact kI O r h.1 sb;exact kI (Y2 x z) r h.1 sb
 by_cases tf:n.tooFull=true;rw[Og (by simp[tf])];refine Oa (He (s:={f with heap:=h2}) (xs:=xs.take p++(k,b)::xs.drop p) hg h rfl G T2 M L I ?_ (by lia) (by lia) λh3 ys sb3 S3 yl ym=>?_);rw[u,sz];unfold SetTable.grown;rw[Oc (by lia)]
 lia
 refine wpAny_pure (i h3 true (hQ h3 ys true (by rw[<- U];exact sb.trans sb3) S3 ?_ (Wj ys ym) λy g=>?_))
 lia
 rcases(d y).mp ((ym y).mp g)with q|q;exact .inr q;exact .inl q;rw[Oc (by simp[tf])];refine wpAny_pure (i h2 true (hQ h2 _ true (by rw[<- U];exact sb) ⟨⟨_,_,ep+1,n,hg,h,rfl,G,T2,M,?_,by rw[pm];exact N⟩,L,I⟩ (by lia) (Wj _ λ_=>Iff.rfl) λy g=>?_));have C:n.tooFull=false:=by simpa using tf
 unfold SetTable.tooFull SetTable.fill at C;rw[T2.dum]at C;simp at C
 lia
 rcases(d y).mp g with q|q;exact .inr q;exact .inl q
end
def vC:entryFor table "set.update.loop" = some Builtin.«set.update.loop»:=entryFor_of_tree (by kernel_rfl)
def EO:plainId "set.update.loop" = true:=by decide +kernel
section
variable{prog:Program}{w:World}{A:Around}{E:yaa}{s:Shared}
def lS{h':Heap}(c:(TK prog w).is h k b)(e:∀o,h.get? b=some o->h'.get? b=some o):(TK prog w).is h' k b:=by obtain⟨b,a,n,d,r⟩:=c;exact⟨b,a,n,e b d,r⟩
def key_ne {o:Obj} (d:(TK prog w).is h k b) (g:h.get? a=some o) (i:o.cls=.type T) (j:T ≠ "tuple"):b≠a:=λe=>by
 obtain⟨f,c,n,Us,TQ,_⟩:=d
 lia
def jc.ext{h':Heap}(S:jc prog w h a xs)(e:∀o,h.get? a=some o->h'.get? a=some o)(c:∀x∈xs,(TK prog w).is h' x.1 x.2):jc prog w h' a xs:=by obtain⟨⟨o,d,f,t,b,r⟩,_,a⟩:=S;exact⟨⟨o,d,f,t,e o b,r⟩,c,a⟩
def Ju {a I l : Addr} {items : yao} {R : Result -> Shared -> Prop} (e : A.handled = none) (J : A.in1.units < cLine) (h : a ≠ I) (B : a ≠ l) (d : l ≠ I) (T : items.size <= 900) (ks : Nat -> yaf) :
  ∀ (m i : Nat) (s : Shared) (xs : List (yaf × Addr)), items.size - i = m -> i <= items.size -> (s.heap.IsListIter I l i /\ s.heap.IsList l items) -> jc prog w s.heap a xs -> xs.length <= i →
   (∀ (j : Nat) (v : Value), items[j]? = some v -> ∃ c, v = .ref c /\ (TK prog w).is s.heap (ks j) c) -> (∀ k, k ∈ xs.map (·.1) ↔ ∃ j, j < i /\ k = ks j) -> (∀ x ∈ xs, ∃ j, j < i /\ items[j]? = some (.ref x.2)) →
   (∀ h' r ys, (∀ b o, b ≠ a -> b ≠ I -> s.heap.get? b = some o -> h'.get? b = some o) -> jc prog w h' a ys -> ys.length <= items.size -> (∀ k, k ∈ ys.map (·.1) ↔ ∃ j, j < items.size /\ k = ks j) -> (∀ x ∈ ys, ∃ j, j < items.size /\ items[j]? = some (.ref x.2)) →
    R (.ok (.ret .none)) { s with heap := h', toks := r }) -> codeAny (model prog w) A (.builtin "set.update.loop" ⟨[.ref a, .ref I], []⟩) R s := by
 have W := Walks.list (prog := prog) (w := w) (A := A.in1) (show A.in1.handled = none from e) I l d items;intro m
 induction m with
 | zero =>
  intro i s xs H L st S G y g f C;have e : i = items.size := by lia
  subst e;refine Xd vC ?_;refine Oa (W.done s _ _ st λh' r q => ?_);obtain ⟨⟨o, u, z, _⟩, _⟩ := st;have n : ∀ b o, b ≠ I -> s.heap.get? b = some o -> h'.get? b = some o := λb o d e => q b o (by simpa using d) e
  refine wpAny_pure (C h' r xs (λb o _ d e => n b o d e) (S.ext (λo e => n a o h e) λx p => ?_) G g f);exact lS (S.is_ x p) λt e => n _ t (key_ne (S.is_ x p) u z (by decide)) e
 | succ m ih =>
  intro i s xs H L st S G y g f C;have H : i < items.size := by lia
  refine Xd vC ?_;refine Oa (W.item i s _ _ H st λv h' r G M q => ?_);obtain ⟨⟨o, u, z, _⟩, _⟩ := id st;have n : ∀ b o, b ≠ I -> s.heap.get? b = some o -> h'.get? b = some o := λb o d e => q b o (by simpa using d) e
  have m : ∀ {k : yaf} {c : Addr}, (TK prog w).is s.heap k c -> (TK prog w).is h' k c := λq => lS q λt e => n _ t (key_ne q u z (by decide)) e
  have t : jc prog w h' a xs := S.ext (λo e => n a o h e) λx p => m (S.is_ x p)
  obtain ⟨c, rfl, a⟩ := y i v G;refine Oa (SF (Ky (s := { s with heap := h', toks := r }) J t (m a) (by lia) λr ys U sb N O J u => ?_));obtain ⟨⟨Q, _, _, _, z, a, _⟩, _, _⟩ := id t;have L : ∀ {k : yaf} {c : Addr}, (TK prog w).is h' k c -> (TK prog w).is r k c := λq => kI q z a.1 sb
  have a : r.IsListIter I l (i + 1) /\ r.IsList l items := W.frame _ _ _ M λb d o e => by
   refine sb.extBut b o (λq => ?_) e;subst q;simp at d;rcases d with z | z;exact h z;exact B z
  refine wpAny_pure ⟨ZH EO _, ih (i + 1) _ ys (by lia) H a N (by lia) (λj v a => ?_) (λk => ?_) (λx p => ?_) λB c h d I l r t => ?_⟩;obtain ⟨H, e, q⟩ := y j v a;exact ⟨H, e, L (m q)⟩;rw [J k, g k];constructor;rintro (⟨j, a, e⟩ | e);exact ⟨j, by lia, e⟩;exact ⟨i, by lia, e⟩;rintro ⟨j, a, e⟩;by_cases z : j < i;exact .inl ⟨j, z, e⟩;have : j = i := by lia
  subst this;exact .inr e;rcases u x p with z | z;obtain ⟨j, a, e⟩ := f x z;exact ⟨j, by lia, e⟩;subst z;exact ⟨i, by lia, G⟩;exact C B c h (λb o a c e => d b o a c (sb.extBut b o a (n b o c e))) I l r t
end
def wF (a:Value):checkTypeCall "set" ⟨[a],[]⟩=pure ():=by kernel_rfl
def yK (a:Value):checkBuiltinCall "set.__new__" ⟨[.type "set", a],[]⟩=pure ():=by kernel_rfl
section
variable{prog:Program}{w:World}{A:Around}{E:yaa}{s:Shared}
def wo(a:Value){Q₁:yaa}
  (h:∀led:Bool,led=(!w.params.followText "set-order")->Q₁ (.ref s.heap.objs.size) {s with heap:=s.heap.push {cls:=.type "set", dict:=none,data:=.set #[] 0 (.fresh 0 0 led)} }) :
  codeAny (model prog w) A (.call (.builtin "set.__new__") ⟨[.type "set", a],[]⟩) (wants Q₁ E) s:=by
 refine codeAny_of_tree ?_;refine Oa (wpAny_of_eq (yK a) (wpAny_pure ⟨ZH F.plain_set_new _,Xd F.entry_set_new ?_⟩));unfold Builtin.«set.__new__» Builtin.Frozenset.newClass;have b:=sub_set_self;wp_walk;refine wpAny_askSetting (wpAny_pure ?_);refine Oa (wpAny_alloc (wpAny_pure ?_));exact wpAny_pure (h _ rfl)
def zG {x:Value} {Q:Unit->Shared->Prop} (b:s.TypeIs self "set") (c:Q () s):wpAny M A (checkBuiltinCall "set.__init__" ⟨[self,x],[]⟩) Q E s:=by refine Oa (Yx b sub_set_self ?_);refine Oa (m:=Bind.printed "*" false _ _) (PyProof.Rows.printed_star (self:=self) rfl b λa=>?_);exact wpAny_pure c
set_option maxHeartbeats 1000000 in
def Ds {x:Value} {Q:yaa} (h:∀led:Bool,led=(!w.params.followText "set-order")->wpAny (model prog w) A.in1.in1 (Builtin.«set.__init__» ⟨[.ref s.heap.objs.size,x],[]⟩)
   (λc b=>match c with|.done f=>wants (λr a=>r=.none/\Q (.ref s.heap.objs.size) a) E (.ok f) b|.again d=>d.quiet=true/\codeAny (model prog w) A.in1 d (wants (λr a=>r=.none/\Q (.ref s.heap.objs.size) a) E) b)
   (λe b=>wants (λr a=>r=.none/\Q (.ref s.heap.objs.size) a) E (.error e) b) {s with heap:=s.heap.push {cls:=.type "set", dict:=none,data:=.set #[] 0 (.fresh 0 0 led)} }) :
  wpAny (model prog w) A (call (.type "set") [x]) Q E s:=by
 obtain⟨c,n,j⟩:=F.called_set.mro;have g:=F.called_set.made;have i:=F.called_set.sub;refine wpAny_call (codeAny_of_tree ?_);show wpAny _ _ (callAny (.type "set") _) _ _ _;refine wpAny_pure ⟨Code.quiet_builtin _ (by decide +kernel),Xd F.entry_type_call ?_⟩;rw[Around.under_plain (weight_type_call_type "set" [x] []) rfl];have q:=F.called_set.notType;have p:=F.called_set.canCreate;have l:=wF x
 repeat (any_goals (first|assumption|wp_step))
 refine codeAny_mono (wo (E:=E) x (Q₁:=λc d=>∃led:Bool,led=(!w.params.followText "set-order")/\c=.ref s.heap.objs.size/\d={s with heap:=s.heap.push {cls:=.type "set", dict:=none,data:=.set #[] 0 (.fresh 0 0 led)} }) λled b=>⟨led,b,rfl,rfl⟩) λr d d=>?_
 cases r with
 |error e=>exact d
 |ok f =>
  cases f with
  |ret c =>
   obtain⟨led,b,rfl,rfl⟩:=d;have c:Shared.TypeIs {s with heap:=s.heap.push {cls:=.type "set", dict:=none,data:=.set #[] 0 (.fresh 0 0 led)} } (.ref s.heap.objs.size) "set" := ⟨_,Rh _ rfl,rfl⟩;have k:=F.called_set.init.lookup;have m:=F.called_set.init.bind (.ref s.heap.objs.size)
   repeat (any_goals (first|assumption|wp_step))
   refine codeAny_mono (codeAny_call_builtin (R:=wants (λr a=>r=.none/\Q (.ref s.heap.objs.size) a) E) F.called_set.init.plain F.entry_set_init (zG c (h led b))) λb a c=>?_
   cases b with
   |error e=>exact c
   |ok a =>
    cases a with
    |ret r =>
     obtain⟨rfl,o⟩:=c
     repeat (any_goals (first|assumption|wp_step))
    |_=>exact c.elim
  |_=>exact d.elim
def Je (led:Bool) (a:led=!w.params.followText "set-order"):jc prog w (s.heap.push {cls:=.type "set", dict:=none,data:=.set #[] 0 (.fresh 0 0 led)}) s.heap.objs.size []:=by refine⟨⟨_,#[],0,_,Rh _ rfl,⟨rfl,rfl,rfl⟩,rfl,rfl,?_,⟨rfl,a⟩,by show 0*5<7*3;decide,by show 7<=8191;decide⟩,by simp,by simp⟩;refine⟨⟨2,rfl⟩,λa b _ b=>absurd b (Nat.not_lt_zero _),(λx b=>by cases b),rfl,rfl,QS _,λa x h b=>?_⟩;have:(#[]:yap)[a]?=some x:=b;simp at this
def MD:isSubtype (.type "list") (.type "set")=pure false:=by kernel_rfl
def MC:isSubtype (.type "list") (.type "frozenset")=pure false:=by kernel_rfl
def call_set_list{Q:yaa}(p:A.handled=none)(i:A.in1.in1.in1.units<cLine)(e:s.heap.IsList l items)(m:items.size<=900)(ks:Nat->yaf)
  (n:∀(j:Nat) (v:Value),items[j]?=some v->∃c,v=.ref c/\(TK prog w).is s.heap (ks j) c)
  (r:∀h' f ys,(∀b o,s.heap.get? b=some o->h'.get? b=some o)->jc prog w h' s.heap.objs.size ys->ys.length<=items.size->(∀k,k∈ys.map (·.1)↔∃ j,j<items.size/\k=ks j)->(∀x∈ys,∃j,j<items.size/\items[j]?=some (.ref x.2)) →
   Q (.ref s.heap.objs.size) {s with heap:=h',toks:=f}):wpAny (model prog w) A (call (.type "set") [.ref l]) Q E s:=by
 refine Ds λled d=>?_
 have t:(s.heap.push {cls:=.type "set", dict:=none,data:=.set #[] 0 (.fresh 0 0 led)}).get? s.heap.objs.size=some {cls:=.type "set", dict:=none,data:=.set #[] 0 (.fresh 0 0 led)}:=Rh _ rfl;have h:l<s.heap.objs.size:=by obtain⟨o,a,_⟩:=e;exact OY a
 have g:Shared.TypeIs {s with heap:=s.heap.push {cls:=.type "set", dict:=none,data:=.set #[] 0 (.fresh 0 0 led)} } (.ref l) "list" := by obtain⟨o,a,k,_⟩:=e;exact⟨o,Po _ a,k⟩
 have k:=Je (prog:=prog) (w:=w) (s:=s) led d;have d:(s.heap.push {cls:=.type "set", dict:=none,data:=.set #[] 0 (.fresh 0 0 led)}).IsList l items:=e.push _;have ZN:(s.heap.push {cls:=.type "set", dict:=none,data:=.set #[] 0 (.fresh 0 0 led)}).objs.size=s.heap.objs.size+1:=Xf ..;have a:∀b o,s.heap.get? b=some o->(s.heap.push {cls:=.type "set", dict:=none,data:=.set #[] 0 (.fresh 0 0 led)}).get? b=some o:=λb o e=>Po _ e
 unfold Builtin.«set.__init__» noKeywords
 wp_walk
 refine wpAny_of_eq MD ?_;refine Yx g MC ?_;simp only[Uk,if_false];refine Oa (wpAny_typeOf g ?_);rw[Oc (by decide)];generalize s.heap.push {cls:=.type "set", dict:=none,data:=.set #[] 0 (.fresh 0 0 led)}=h1 at *;refine Oa (wpAny_pyIter_list d ?_);refine Oa (wpAny_runValue ?_);have g:s.heap.objs.size≠h1.objs.size:=by lia
 refine Ju (A:=A.in1.in1) (I:=h1.objs.size) (l:=l) (items:=items) p i g (Ud h) (PY (by rw[ZN];exact XU h)) m ks items.size 0 {s with heap:=h1.push {cls:=.type "list_iterator", data:=.fields #[.ref l,.int 0 0]} } [] (by lia) (QS _) ⟨⟨_,Rh _ rfl,rfl,rfl⟩,d.push _⟩ (k.ext (λo e=>Po _ e) (by simp)) (O5 _) (λj v k=>?_) (by simp) (by simp) λh' f ys i S d g h=>?_
 obtain⟨c,e,q⟩:=n j v k;exact⟨c,e,lS q λo e=>Po _ (a c o e)⟩;refine wpAny_pure (wpAny_pure ⟨rfl,r h' f ys (λb o e=>?_) S d g h⟩);have c:b<s.heap.objs.size:=OY e;exact i b o (PY c) (PY (by rw[ZN];exact XU c)) (Po _ (a b o e))
end
theorem sG{a:Type}:∀(l:List a) (i:Nat) (h:i<l.length),(l[i]::l.eraseIdx i).Perm l
 |[],_,h=>absurd h (by simp_all)
 |x::l,0,_=>List.Perm.refl _
 |x::l,i+1,h=>by have r:=sG l i (by simp_all);exact(List.Perm.swap x _ _).trans (List.Perm.cons x r)
theorem Bc{b:Type}(next:Nat->Nat):∀(fuel k:Nat) (left:List b) (a:Array b),left.length=fuel->(pickOrder.go next fuel k left a).toList.Perm (a.toList++left)
 |0,k,left,a,e=>by
  have:left=[]:=by grind
  subst this;simp[pickOrder.go]
 |fuel+1,k,left,a,e=>by
  have c:0<left.length:=by lia
  have b:next k % left.length<left.length:=VU _ c;unfold pickOrder.go;rw[O2 b];have r:=Bc next fuel (k+1) (left.eraseIdx (next k % left.length)) (a.push left[next k % left.length]) (by grind);refine r.trans ?_;rw[Array.toList_push,US];exact(List.perm_append_left_iff _).mpr (sG left _ b)
def EL{a:Type}(next:Nat->Nat)(xs:Array a):(pickOrder next xs).toList.Perm xs.toList:=by have:=Bc next xs.size 0 xs.toList #[] (by simp);simpa [pickOrder]using this
def BV(a:jb xs):below xs 0=0:=by
 obtain⟨d,b,c⟩:=jB a 0;rcases Nat.eq_zero_or_pos (below xs 0)with z|z;exact z;have:=b 0 z;lia
def BU(c:jb xs){a j:Nat}(h:xs[a]?=some j):below xs (j+1)=a+1:=by
 obtain⟨g,e,d⟩:=jB c (j+1);obtain⟨b,f⟩:=WX.mp h;have i:xs.getD a 0=j:=by simp[Array.getD,b,f]
 rcases Yw (below xs (j+1)) (a+1)with z|z|z;have:=d a (by lia) b
 lia
 exact z;have q:=e (a+1) z;have b:a+1<xs.size:=by lia
 have:=c a (a+1) (by lia) b
 lia
def de:Slot "set_iterator" "__next__" "set_iterator.__next__" :=
 .of (owner := "set_iterator") (n := "__next__") (by kernel_rfl) (by decide +kernel) (by decide +kernel) (by decide +kernel) (.inl (by decide +kernel)) (by kernel_rfl)
def oW:Slot "set_iterator" "__iter__" "set_iterator.__iter__" :=
 .of (owner := "set_iterator") (n := "__iter__") (by kernel_rfl) (by decide +kernel) (by decide +kernel) (by decide +kernel) (.inl (by decide +kernel)) (by kernel_rfl)
def nF:entryFor table "set_iterator.__next__" = some Builtin.«set_iterator.__next__»:=entryFor_of_tree (by kernel_rfl)
def wq:entryFor table "set_iterator.__iter__" = some Builtin.«dict_keyiterator.__iter__»:=entryFor_alias (id' := "dict_keyiterator.__iter__") (by kernel_rfl) rfl (by decide +kernel) (by kernel_rfl)
def xW:entryFor table "set.__iter__" = some Builtin.«frozenset.__iter__»:=entryFor_alias (id' := "frozenset.__iter__") (by kernel_rfl) rfl (by decide +kernel) (by kernel_rfl)
def nU (a:Value):argsOk "set_iterator.__next__" ⟨[a],[]⟩:=by kernel_rfl
def xg (a:Value):argsOk "set_iterator.__iter__" ⟨[a],[]⟩:=by kernel_rfl
noncomputable def eY (w:World) (a:Addr) (es:Array (Int×Value)) (ep:Nat):Array (Int×Value):=if w.params.followText "set-order" = true then pickOrder (w.params.setOrder a ep) es else es
def qF(w:World)(a:Addr)(es:Array (Int×Value))(ep:Nat):(eY w a es ep).toList.Perm es.toList:=by
 unfold eY;split;exact EL _ _
 simp_all
def lO(w:World)(a:Addr)(es:Array (Int×Value))(ep:Nat):(eY w a es ep).size=es.size:=by have:=(qF w a es ep).length_eq;simpa using this
def uf(w:World)(h:Heap)(I a:Addr)(t:SetTable)(n ep i:Nat):Prop :=
 ∃ o b,h.get? I=some o/\o.cls=.type "set_iterator" /\ o.data=.fields #[.int (b:Nat) 0,.int (i:Nat) 0,.ref a,.int (n:Nat) 0,.int (ep:Nat) 0]/\(w.params.followText "set-order" = false->below t.place b=i)
section
variable{prog:Program}{w:World}{A:Around}{E:yaa}{s:Shared}
def uS (x:uf w s.heap I a t n ep i):s.TypeIs (.ref I) "set_iterator" := by obtain⟨o,_,a,b,_⟩:=x;exact⟨o,a,b⟩
def tN{a:Addr}{o:Obj}{es:Array (Int×Value)}{ep b i:Nat}{t:SetTable}{hs:yaf}{Q:Option (Value×Nat)->Shared->Prop}(d:s.heap.get? a=some o)(e:o.data=.set es ep t)(T:Tab t hs)(f:hs.length=es.size)
  (k:t.plain=true/\t.led=!w.params.followText "set-order") (g:w.params.followText "set-order" = false->below t.place b=i)
  (j:∀z,(eY w a es ep)[i]?.map (·.2)=z.map (·.1)->(∀p,z=some p->w.params.followText "set-order" = false->below t.place p.2=i+1)->Q z s):wpAny (model prog w) A (setNext a b i ep) Q E s:=by
 have b:t.fits es.size=true:=by rw[<- f];exact T.fits
 refine Oa (Vu d e b ?_);show wpAny _ _ (if w.params.followText "set-order" = true then _ else _) _ _ _;by_cases c:w.params.followText "set-order" = true;rw[Og c];simp;refine Oa (Oa (Vu d e b ?_));show wpAny _ _ (if w.params.followText "set-order" = true then _ else _) _ _ _;rw[Og c];refine Oa (wpAny_askSetting (wpAny_pure ?_));refine wpAny_pure (j _ ?_ ?_);unfold eY;rw[Og c];show _=Option.map _ (Option.map _ (pickOrder (w.params.setOrder a ep) es)[i]?);cases(pickOrder (w.params.setOrder a ep) es)[i]?<;>rfl;intro p _ h;rw[c]at h;cases h;have a:w.params.followText "set-order" = false:=by simpa using c
 rw[Oc c];split;rename_i h;have b:(!t.plain && decide (es.size > 1))=true:=h;rw[k.1]at b;simp at b;refine Oa ?_;show wpAny _ _ (if(!t.led && !es.isEmpty)=true then unsupported "set:maker-not-led" else pure ()) _ _ _;rw[Oc (by rw[k.2,a];simp)];refine wpAny_pure (wpAny_pure (j _ ?_ ?_));unfold eY;rw[Oc c,g a];cases e:es[i]? with
 |none=>rfl
 |some z =>
  have b:i<es.size:=(WX.mp e).1;have c:t.place[i]?=some (t.place[i]'(by rw[T.len,f];exact b)):=Vq _;rw[c];rfl
 intro p b _;rw[g a]at b;split at b;rename_i j e;cases b;exact BU T.rise e;cases b
def Kb{o:Obj}{x:Int×Value}{Q:yan->Shared->Prop}(c:s.heap.get? a=some o)(h:o.data=.set es ep t)(T:Tab t hs)(g:hs.length=es.size)
  (n:t.plain=true/\t.led=!w.params.followText "set-order") (st:uf w s.heap I a t es.size ep i) (j:(eY w a es ep)[i]?=some x)
  (l:∀h',uf w h' I a t es.size ep (i+1)->Heap.SameBut I s.heap h'->Q (some x.2) {s with heap:=h'}):wpAny (model prog w) A (pyNext (.ref I)) Q E s:=by
 obtain⟨q,f,e,d,b,k⟩:=id st;have i:=uS st;have a:t.fits es.size=true:=by rw[<- g];exact T.fits
 refine Oa (X2 (WZ (name:=Str.ofString "__next__") i de (Va de i nF ?_ (nU _))));refine Oa (m:=slotArgs "__next__" 0 ⟨[.ref I],[]⟩) (wpAny_pure ?_);refine Oa (wpAny_fieldsOf e b ?_);dsimp only;refine Oa (Oa (Vu c h a (wpAny_pure ?_)));rw[Oc (by simp)];simp;refine Oa (tN c h T g n k λz c h=>?_);rw[j]at c;cases z with
 |none=>cases c
 |some p =>
  obtain⟨v,a⟩:=p;have g:x.2=v:=SO c;subst g;refine Oa (ZG e b (by simp) ?_);have g:=VN (Obj.mapFields (·.setIfInBounds 0 (rawInt (a:Nat)))) e (Obj.isFreed_of_fields (Obj.data_mapFields b _));have c:=Obj.data_mapFields b (·.setIfInBounds 0 (rawInt (a:Nat)));refine Oa (ZG g c (by simp) ?_);refine wpAny_pure ⟨_,rfl,wpAny_pure (l _ ⟨_,a,VN _ g (Obj.isFreed_of_fields (Obj.data_mapFields c _)),(Obj.cls_mapFields ..).trans ((Obj.cls_mapFields ..).trans d),?_,h _ rfl⟩ ((XS ..).trans (XS ..)))⟩;rw[Obj.data_mapFields c];simp[rawInt]
def Mz{o:Obj}{Q:yan->Shared->Prop}(k:A.handled=none)(d:s.heap.get? a=some o)(f:o.data=.set es ep t)(T:Tab t hs)(e:hs.length=es.size)
  (p:t.plain=true/\t.led=!w.params.followText "set-order") (st:uf w s.heap I a t es.size ep i) (j:(eY w a es ep)[i]?=none)
  (q:∀h',Heap.ExtBut I s.heap h'->Q none {s with heap:=h'}):wpAny (model prog w) A (pyNext (.ref I)) Q E s:=by
 obtain⟨r,c,h,l,i,n⟩:=id st;have g:=uS st;have b:t.fits es.size=true:=by rw[<- e];exact T.fits
 refine Oa (X2 (WZ (name:=Str.ofString "__next__") g de (Va de g nF ?_ (nU _))));refine Oa (m:=slotArgs "__next__" 0 ⟨[.ref I],[]⟩) (wpAny_pure ?_);refine Oa (wpAny_fieldsOf h i ?_);dsimp only;refine Oa (Oa (Vu d f b (wpAny_pure ?_)));rw[Oc (by simp)];simp;refine Oa (tN d f T e p n λz b u=>?_);rw[j]at b;cases z with
 |some p=>cases b
 |none =>
  refine Oa (ZG h i (by simp) ?_);refine Oa ?_;refine Oa (m:=firstArgMember _ _) (wpAny_of_eq (a:=Value.none) (by first|rfl|(rfl)) ?_);refine Ww ?_ (by size_fits);refine Oa (wpAny_handled ?_);rw[show A.in1.handled=none from k];refine Oa (wpAny_pure (wpAny_throw ?_));refine Oa (Yx (T := "StopIteration") (b:=true) ⟨_,Rh _ rfl,rfl⟩ isSubtype_stop ?_);exact wpAny_pure (q _ (((XS ..).extBut.push _).push _))
def Kc{Q:yaa}(st:uf w s.heap I a t n ep i)(h:Q (.ref I) s):wpAny (model prog w) A (pyIter (.ref I)) Q E s:=by have a:=uS st;refine wpAny_pyIter_slot a oW (Va oW a wq ?_ (xg _));exact wpAny_pure ⟨_,rfl,"set_iterator", _,a,de.lookup,h⟩
def Ft (k:A.handled=none) (I a:Addr) (e:a≠I) {o:Obj} (g:o.data=.set es ep t) (T:Tab t hs) (f:hs.length=es.size) (j:t.plain=true/\t.led=!w.params.followText "set-order") :
  Walks prog w A I [I,a] [I] es.size (λi v=>∃x,(eY w a es ep)[i]?=some x/\x.2=v) (λi h=>uf w h I a t es.size ep i/\h.get? a=some o) where
 sub:=by grind
 frame:=λ_ _ _ st b=>⟨by obtain⟨⟨o,c,d,r⟩,_⟩:=st;exact⟨o,c,b I (by simp) o d,r⟩,b a (by simp) o st.2⟩
 item:=λi s Q E l st c=>by
  have b:i<(eY w a es ep).size:=by simp_all [lO]
  refine Kb st.2 g T f j st.1 (Vq b) λd b sb=>?_
  exact c _ d s.toks (by simp_all) ⟨b,sb.extBut a o e st.2⟩ λb o a e=>sb.extBut b o (by grind) e
 done:=λs Q E st c=>Mz k st.2 g T f j st.1 (by simp_all [zCR,lO,O5]) λd sb=>c d s.toks λb o a e=>sb b o (by grind) e
 self:=λ_ _ _ _ st c=>Kc st.1 c
def GF {o:Obj} {Q:yaa} (c:s.heap.get? a=some o) (b:o.cls=.type "set") (d:o.data=.set es ep t) (T:Tab t hs) (f:hs.length=es.size) (PH:t.plain=true)
  (g:Q (.ref s.heap.objs.size) {s with heap:=s.heap.push {cls:=.type "set_iterator", data:=.fields #[.int 0 0,.int 0 0,.ref a,.int (es.size:Nat) 0,.int (ep:Nat) 0]} }):wpAny (model prog w) A (pyIter (.ref a)) Q E s:=by
 have e:s.TypeIs (.ref a) "set" := ⟨o,c,b⟩;have b:t.fits es.size=true:=by rw[<- f];exact T.fits
 refine wpAny_pyIter_slot e F.slot_set_iter (Va F.slot_set_iter e xW ?_ (F.args_set_iter_1 _));refine Oa (m:=Builtin.Frozenset.slot0 "__iter__" ⟨[.ref a],[]⟩) (wpAny_pure ?_);refine Oa (Oa (Oa (Vu c d b (wpAny_pure (wpAny_pure ?_)))));refine Oa (Oa (Vu c d b ?_));refine Oa (Oa (wpAny_askSetting (wpAny_pure (wpAny_pure ?_))));split;rename_i h;have i:(!(w.params.followText "set-order") && (!t.plain && decide (es.size > 1)))=true:=h
 simp_all
 refine Oa (wpAny_pure ?_);refine Oa (Oa (Vu c d b (wpAny_pure ?_)));refine Oa (Ww ?_ (by size_fits));exact wpAny_pure ⟨_,rfl,"set_iterator", _,⟨_,Rh _ rfl,rfl⟩,de.lookup,g⟩
def zH {o:Obj} {Q:yad->Shared->Prop} (u:A.handled=none) (f:s.heap.get? a=some o) (e:o.cls=.type "set") (q:o.data=.set es ep t) (T:Tab t hs) (p:hs.length=es.size) (r:t.plain=true/\t.led=!w.params.followText "set-order") (C:es.size<=1000)
  (x:∀c (d:yad),(∀b o,s.heap.get? b=some o->c.heap.get? b=some o)->c.gens=s.gens->c.drawn=s.drawn->c.os=s.os->s.heap.objs.size<=c.heap.objs.size->d=(eY w a es ep).toList.map (·.2)->Q d c):wpAny (model prog w) A (collect (.ref a)) Q E s:=by
 unfold collect;have i:a<s.heap.objs.size:=OY f;refine Oa (wpAny_runValue (Xd F.entry_proto_collect ?_));rw[Around.under_plainId F.plain_proto_collect _];refine Oa (Ww ?_);refine wpAny_pure ⟨ZH F.plain_list_iadd _,Xd F.entry_list_iadd ?_⟩;rw[Around.under_plainId F.plain_list_iadd _];show wpAny _ A.in1 (Builtin.List.listExtendWith (.ref s.heap.objs.size) (.ref a) (.ref s.heap.objs.size)) _ _ _;generalize hH:s.heap.push {cls:=.type "list", data:=.seq ([]:yad).toArray}=H;have h:H.objs.size=s.heap.objs.size+1:=by rw[<- hH,Xf]
 have k:H.get? a=some o:=hH ▸ Po _ f;have d:Shared.TypeIs {s with heap:=H} (.ref a) "set" := ⟨o,k,e⟩;unfold Builtin.List.listExtendWith;refine Oa (wpAny_typeOf d ?_);have g:Builtin.List.listSameRef (.ref s.heap.objs.size) (.ref a)=false:=by have:s.heap.objs.size≠a:=Ud i;simp[Builtin.List.listSameRef,this]
 have f:(Value.type "set" == Value.type "list")=false:=by decide
 have d:(Value.type "set" == Value.type "tuple")=false:=by decide
 simp only[g,f,d,Bool.or_false,Uk,if_false];refine Oa (GF k e q T p r.1 ?_);generalize XB:H.push {cls:=.type "set_iterator", data:=.fields #[.int 0 0,.int 0 0,.ref a,.int (es.size:Nat) 0,.int (ep:Nat) 0]}=f;have d:Shared.TypeIs {s with heap:=f} (.ref a) "set" := ⟨o,XB ▸ Po _ k,e⟩;refine Oa (SF ?_);unfold Builtin.List.listLengthHint;refine Oa (ZE d F.slot_set_len.lookup ?_)
 wp_delta
 refine Oa (Yx (T := "set") (b:=true) d (by rw[isSubtype_type];kernel_rfl) ?_);show wpAny _ A.in1 (typeOf (Value.ref a) >>= _) _ _ _;refine Oa (wpAny_typeOf d ?_);refine wpAny_pure ?_;rw[Og (by decide)];refine Oa (wpAny_rule ?_);refine Oa ?_;have d:f.get? s.heap.objs.size=some {cls:=.type "list", data:=.seq ([]:yad).toArray}:=XB ▸ Po _ (hH ▸ Rh _ rfl);refine Oa (ZF d rfl ?_);have e:=VN (Obj.mapSeq (·.push Value.none)) d rfl;refine ZF (hz:=by seq_fits) e rfl ?_;have d:=VN (Obj.mapSeq (·.pop)) e rfl;have n:∀b o,b≠s.heap.objs.size->f.get? b=some o->((f.update s.heap.objs.size (Obj.mapSeq (·.push Value.none))).update s.heap.objs.size (Obj.mapSeq (·.pop))).get? b=some o :=
  λb o j e=>(Vs _ _ (Ne.symm j)).trans ((Vs _ _ (Ne.symm j)).trans e)
 have t:f.get? H.objs.size=some {cls:=.type "set_iterator", data:=.fields #[.int 0 0,.int 0 0,.ref a,.int (es.size:Nat) 0,.int (ep:Nat) 0]}:=XB ▸ Rh _ rfl;have g:H.objs.size≠s.heap.objs.size:=by lia
 have l:a≠H.objs.size:=PY (by rw[h];exact XU i);have m:s.heap.objs.size ∉ [H.objs.size,a]:=λf=>by
  rcases OK.mp f with z|z;exact g z.symm;exact absurd (QY.mp z) (Ud i)
 have W:=Ft (prog:=prog) (w:=w) (A:=A.in1) u H.objs.size a l q T p r;refine wpAny_pure ⟨ZH F.plain_extend_loop _,codeAny_extend_loopS W.toS (by rw[sizeLine_eq];lia) _ m _ es.size 0 _ _ _ rfl (QS _)
  ⟨⟨_,0,n _ _ g t,rfl,rfl,λ_=>BV T.rise⟩,n _ _ (PY i) (XB ▸ Po _ k)⟩ d (ItemsOf.nil _) λc a G f d l=>?_⟩
 show wpAny _ A (load s.heap.objs.size >>= _) _ _ c;refine Oa (wpAny_load d ?_);have i:∀b o,s.heap.get? b=some o->c.heap.get? b=some o:=λb k e=>by
  have g:=OY e;refine f.heap b k (λj=>?_) (n _ _ (PY g) (XB ▸ Po _ (hH ▸ Po _ e)));rcases OK.mp j with z|z;exact absurd g (z ▸ VR _);rw[QY.mp z,h]at g;exact absurd g (WA.mpr (Nat.le_succ _))
 refine wpAny_pure (x c a.toList i f.gens f.drawn f.os (UU (OY d)) ?_);obtain⟨y,c⟩:=l;apply List.ext_getElem?;intro j;rw[Ua,PO,Ua];by_cases B:j<es.size;have b:j<a.size:=by lia
 obtain⟨x,a,d⟩:=c j _ (Vq b);rw[Vq b,a];simp[d];rw[zCR (by lia),zCR (by rw[lO];lia)];rfl
end
end SW
namespace SS
open PySem PySem.W PyProof.Rows
def good{a:Type}(r:Nat->Nat)(n:Nat)(G:a->Prop):KasT a->Prop
 |.ret a=>G a
 |.ask i j k=>i<n/\j<n/\good r n G (k (decide (r i<r j)))
theorem gh{b c:Type}{r:Nat->Nat}{n:Nat}{G:b->Prop}{e:c->Prop}{f:b->KasT c}(d:∀a,G a->good r n e (f a)):∀t:KasT b,good r n G t->good r n e (t.bind f)
 |.ret a,h=>d a h
 |.ask _ _ k,⟨c,b,a⟩=>⟨c,b,gh d _ a⟩
theorem good_mono{b:Type}{G d:b->Prop}(c:∀a,G a->d a):∀t:KasT b,good r n G t->good r n d t
 |.ret a,h=>c a h
 |.ask _ _ _,⟨d,b,a⟩=>⟨d,b,good_mono c _ a⟩
theorem AS{c:Type}{r:Nat->Nat}{n:Nat}{G:c->Prop}{b:Nat->Nat->(Bool->Shared->Prop)->Shared->Prop}{Q:c->Shared->Prop}(e:∀i j C,i<n->j<n->C (decide (r i<r j)) s->b i j C s)(d:∀a,G a->Q a s):∀t:KasT c,good r n G t->t.kasWp b Q s
 |.ret a,h=>d a h
 |.ask i j k,⟨c,b,a⟩=>e i j _ c b (AS e d _ a)
section
variable{r:Nat->Nat}{n:Nat}
def v(r:Nat->Nat)(p:yap)(k:Nat):Nat:=r (p.getD k 0)
def S(r:Nat->Nat)(p:yap)(k:Nat):Prop:=∀i j,i<=j->j<k->v r p i<=v r p j
def D(r:Nat->Nat)(p:yap)(k:Nat):Prop:=∀i j,i<=j->j<k->v r p j<=v r p i
structure Ok(n:Nat)(p:yap):Prop where
 perm:p.Perm (List.toArray (List.range n))
theorem Ok.size(h:Ok n p):p.size=n:=by have:=h.perm.size_eq;simpa using this
def Ok.lt(h:Ok n p){k:Nat}(b:k<n):p.getD k 0<n:=by
 have a:=h.size;have m:p[k]'(by lia)∈p.toList:=by simp
 have:=(zDJ.mp h.perm).mem_iff.mp m
 simp_all
def zt{p q:yap}{a b:Nat}(h:p[a]?=q[b]?):v r p a=v r q b:=by
 unfold v
 simp_all
def CZ{p:yap}{j:Nat}(a:j<=p.size)(k:Nat):v r (kas_rev p i j) k=if i<=k/\k<j then v r p (i+j - 1 - k)else v r p k:=by have h:=getElem?_mirror_all (i:=i) a k;split;rename_i c;rw[Og c]at h;exact zt h;rename_i c;rw[Oc c]at h;exact zt h
def Ok.rev(h:Ok n p)(i j:Nat):Ok n (kas_rev p i j):=⟨(mirror_perm p i j _).trans h.perm⟩
theorem Ok.bubble(h:Ok n p)(k d:Nat):Ok n (PyProof.Rows.bubble p k d):=⟨(bubble_perm p k d).trans h.perm⟩
def zr{p:yap}{k l:Nat}(b:k<p.size)(d:l<=k)(a:Nat):v r (PyProof.Rows.bubble p k (k - l)) a=if a=l then v r p k else if l<a/\a<=k then v r p (a - 1)else v r p a:=by have h:=getElem?_bubble b (k - l) (by lia) a;rw[show k - (k - l)=l by lia]at h;split;rename_i c;rw[Og c]at h;exact zt h;rename_i c;rw[Oc c]at h;split;rename_i a;rw[Og a]at h;exact zt h;rename_i a;rw[Oc a]at h;exact zt h
theorem xh(O:Ok n p):∀(f m:Nat),1<=m->m+f<=n->S r p m->good r n (λa=>m<=a/\a<=m+f/\S r p a/\(a<m+f->v r p a<v r p (a - 1))) (kas_asc p f m)
 |0,m,_,_,h=>⟨O5 _,O5 _,h,by lia⟩
 |f+1,m,g,e,h=>by
  refine⟨O.lt (by lia),O.lt (by lia),?_⟩;by_cases c:r (p.getD m 0)<r (p.getD (m - 1) 0);simp only[c,decide_true,UX];exact⟨O5 _,by lia,h,λ_=>c⟩;simp only[c,decide_false,Uk,if_false];have a:S r p (m+1):=λi j b d=>by
   rcases Xh j m with z|z;exact h i j b z;have:j=m:=by lia
   subst this;rcases Xh i j with y|y;have:=h i (j - 1) (by lia) (by lia);have k:v r p (j - 1)<=v r p j:=XY c
   lia
   grind
  exact good_mono (by lia) _ (xh O f (m+1) (by lia) (by lia) a)
def v_eq{p:yap}{i j:Nat}(b:j<=p.size)(h:∀a,i<=a->a<j->v r p a=v r p (j - 1))(k:Nat):v r (kas_rev p i j) k=v r p k:=by rw[CZ b];split;rename_i c;rw[h k c.1 c.2,h (i+j - 1 - k) (by omega) (by omega)];rfl
def D.cong(e:∀a,v r q a=v r p a)(h:D r p k):D r q k:=λi j a b=>by rw[e,e];exact h i j a b
theorem pK:∀(f:Nat) (p:yap) (m q:Nat),Ok n p->m+f<=n->q+1<=m->D r p m->(∀a,m - (q+1)<=a->a<m->v r p a=v r p (m - 1)) →
  good r n (λz=>Ok n z.1/\m<=z.2.1/\z.2.1<=m+f/\D r z.1 z.2.1/\z.2.2+1<=z.2.1/\∀a,z.2.1 - (z.2.2+1)<=a->a<z.2.1->v r z.1 a=v r z.1 (z.2.1 - 1)) (kas_desc f p m q)
 |0,p,m,q,O,_,l,d,b=>⟨O,O5 _,O5 _,d,l,b⟩
 |f+1,p,m,q,O,x,l,d,b=>by
  have os:=O.size;unfold kas_desc;refine⟨O.lt (by lia),O.lt (by lia),?_⟩;have o:v r p m<=v r p (m - 1)->D r p (m+1):=λc i j e A=>by
   rcases Xh j m with z|z;exact d i j e z;have:j=m:=by lia
   subst this;rcases Xh i j with y|y;have:=d i (j - 1) (by lia) (by lia)
   lia
   have:i=j:=by lia
   subst this;exact O5 _
  by_cases c:r (p.getD m 0)<r (p.getD (m - 1) 0);simp only[c,decide_true,UX];have t:D r p (m+1):=o (UU c);split;have e:=v_eq (r:=r) (p:=p) (i:=m - (q+1)) (j:=m) (by lia) b;exact good_mono (λz k=>(by obtain⟨j,w,u,i,h,g⟩:=k;exact⟨j,by lia,by lia,i,h,g⟩)) _ (pK f (kas_rev p (m - (q+1)) m) (m+1) 0 (O.rev _ _) (by lia) (by lia) (t.cong e) λa s e=>by
   have:a=m:=by lia
   subst this;rfl)
  exact good_mono (λz k=>(by obtain⟨j,w,u,i,h,g⟩:=k;exact⟨j,by lia,by lia,i,h,g⟩)) _ (pK f p (m+1) 0 O (by lia) (by lia) t λa s e=>by
   have:a=m:=by lia
   subst this;rfl)
  simp only[c,decide_false,Uk,if_false];refine⟨O.lt (by lia),O.lt (by lia),?_⟩;by_cases c:r (p.getD (m - 1) 0)<r (p.getD m 0);simp only[c,decide_true,UX];exact⟨O,O5 _,XX _ _,d,l,b⟩;simp only[c,decide_false,Uk,if_false];have c:v r p m=v r p (m - 1):=by unfold v;lia
  exact good_mono (λz k=>(by obtain⟨j,w,u,i,h,g⟩:=k;exact⟨j,by lia,by lia,i,h,g⟩)) _ (pK f p (m+1) (q+1) O (by lia) (by lia) (o (Nat.le_of_eq c)) λa s e=>by
   rcases Xh a m with z|z;rw[b a (by lia) z];exact c.symm;have:a=m:=by lia
   subst this;rfl)
def Bs{p:yap}{m:Nat}(O:Ok n p)(a:1<=m)(f:m<=n)(c:D r p m):good r n (λz=>Ok n z.2/\1<=z.1/\z.1<=n/\S r z.2 z.1) (kas_tail3 m n p):=by
 have os:=O.size;have b:S r (kas_rev p 0 m) m:=λi j QJ g=>by rw[CZ (by lia),CZ (by lia),Og (by lia),Og (by lia)];exact c _ _ (by lia) (by lia)
 refine gh (λe d=>?_) _ (xh (O.rev 0 m) (n - m) m a (by lia) b);obtain⟨c,h,b,_⟩:=d;exact⟨O.rev _ _,PL a c,by lia,b⟩
def A6{p:yap}{m:Nat}(O:Ok n p)(e:m+1<=n)(a:D r p (m+1)):good r n (λz=>Ok n z.2/\1<=z.1/\z.1<=n/\S r z.2 z.1) (kas_descPart m n p):=by
 unfold kas_descPart;refine gh (λz ⟨b,j,i,c,h,d⟩=>?_) _ (pK (n - (m+1)) p (m+1) 0 O (by omega) (by omega) a λa g f=>by
  have:a=m:=by omega
  subst this;rfl)
 have os:=b.size;split;exact Bs (b.rev _ _) (by omega) (by omega) (c.cong (v_eq (by omega) d));exact Bs b (by omega) (by omega) c
def F7(O:Ok n p)(k:1<=n):good r n (λz=>Ok n z.2/\1<=z.1/\z.1<=n/\S r z.2 z.1) (kas_count n p):=by
 have os:=O.size;unfold kas_count;refine gh (λm ⟨a,s,d,e⟩=>?_) _ (xh (r:=r) O (n - 1) 1 (O5 _) (by lia) λi j h g=>by
  have:i=j:=by lia
  subst this;exact O5 _)
 split;rename_i c;have b:m=n:=by simpa using c
 exact⟨O,a,by lia,d⟩;rename_i c;have b:m≠n:=by simpa using c
 have f:=e (by lia);split;refine⟨O.lt (by lia),O.lt (by lia),?_⟩;by_cases c:r (p.getD 0 0)<r (p.getD (m - 1) 0);simp only[c,decide_true,UX];exact⟨O,a,by lia,d⟩;simp only[c,decide_false,Uk,if_false];have b:∀a,0<=a->a<m->v r p a=v r p (m - 1):=λa _ e=>by
  have q:=d 0 a (by lia) e;have o:=d a (m - 1) (by lia) (by lia);have l:v r p (m - 1)<=v r p 0:=XY c
  lia
 have e:=v_eq (r:=r) (p:=p) (i:=0) (j:=m) (by lia) b;refine A6 (O.rev _ _) (by lia) λi j h g=>?_
 rw[e,e];rcases Xh j m with z|z;rw[b i (by lia) (by lia),b j (by lia) z];exact O5 _;have:j=m:=by lia
 subst this;rcases Xh i j with y|y;rw[b i (by lia) y];exact UU f;have:i=j:=by lia
 subst this;exact O5 _;have a:m=1:=by lia
 subst a;refine A6 O (by lia) λi j h g=>?_
 rcases Xh i j with y|y;have b:i=0:=by lia
 have a:j=1:=by lia
 subst b a;exact UU f;have:i=j:=by lia
 subst this;exact O5 _
theorem rh{k:Nat}(O:Ok n p)(g:k<n)(hs:S r p k):∀(f l h:Nat),l<=h->h<=k->h - l<=f->(∀a,a<l->v r p a<=v r p k)->(∀a,h<=a->a<k->v r p k<=v r p a) →
  good r n (λb=>b<=k/\(∀a,a<b->v r p a<=v r p k)/\∀a,b<=a->a<k->v r p k<=v r p a) (kas_place p k f l h)
 |0,l,h,i,c,e,d,b=>by
  have:l=h:=by lia
  subst this;exact⟨c,d,b⟩
 |f+1,l,h,i,c,e,d,b=>by
  unfold kas_place;split;have:l=h:=by lia
  subst this;exact⟨c,d,b⟩;refine⟨O.lt (by lia),O.lt (by lia),?_⟩;by_cases c:r (p.getD k 0)<r (p.getD ((l+h) / 2) 0);simp only[c,decide_true,UX];refine rh O g hs f l ((l+h) / 2) (by lia) (by lia) (by lia) d λa e d=>?_
  have:=hs ((l+h) / 2) a e d;have d:v r p k<v r p ((l+h) / 2):=c
  lia
  simp only[c,decide_false,Uk,if_false];refine rh O g hs f ((l+h) / 2+1) h (by lia) (by lia) (by lia) (λa j=>?_) b;have:=hs a ((l+h) / 2) (by lia) (by lia);have d:v r p ((l+h) / 2)<=v r p k:=XY c
  lia
theorem Dm:∀(f:Nat) (p:yap) (k:Nat),Ok n p->k+f=n->S r p k->good r n (λz=>Ok n z/\S r z n) (kas_bin f p k)
 |0,p,k,O,a,b=>by
  have:k=n:=by lia
  subst this;exact⟨O,b⟩
 |f+1,p,k,O,a,b=>by
  have os:=O.size;unfold kas_bin;refine gh (λl ⟨c,g,e⟩=>Dm f _ (k+1) (O.bubble k (k - l)) (by lia) λi j QJ h=>?_) _ (rh O (by lia) b k 0 k (by lia) (by lia) (by lia) (λa d=>absurd d (Nat.not_lt_zero _)) λa o m=>by lia);rw[zr (by lia) c,zr (by lia) c]
  repeat' split
  all_goals first
   |exact O5 _
   |(exfalso;lia)
   |exact e _ (by lia) (by lia)
   |exact g _ (by lia)
   |exact b _ _ (by lia) (by lia)
def Kd(a:1<=n):good r n (λz=>Ok n z/\S r z n) (kas_sort n):=by
 unfold kas_sort;refine gh (λz c=>?_) _ (F7 (r:=r) ⟨Array.Perm.refl _⟩ a);obtain⟨b,e,d,a⟩:=c;split;rw[show max z.1 1=z.1 by lia];exact Dm _ _ _ b (by lia) a;have:z.1=n:=by lia
 rw[this]at a;exact⟨b,a⟩
end
end SS
namespace SW
open PySem PySem.SetTable ST PySem.W PyProof.Rows
noncomputable def lexLt:yaf->yaf->Bool
 |_,[]=>false
 |[],_::_=>true
 |a::x,b::y=>if a=b then lexLt x y else decide (a<b)
theorem j9:∀x,lexLt x x=false
 |[]=>rfl
 |a::x=>by unfold lexLt;rw[Og rfl];exact j9 x
theorem qw:∀x y z,lexLt x y=true->lexLt y z=true->lexLt x z=true
 |_,[],_,h,_=>by unfold lexLt at h;cases h
 |_,_::_,[],_,h=>by unfold lexLt at h;cases h
 |[],_::_,_::_,_,_=>rfl
 |a::x,b::y,c::z,e,d=>by
  unfold lexLt at e d ⊢;split at e<;>split at d;rename_i g f;rw[Og (g.trans f)];exact qw x y z e d;rename_i g f;subst g;rw[Oc f];exact d;rename_i g f;subst f;rw[Oc g];exact e;have j:a<b:=by simpa using e
  have i:b<c:=by simpa using d
  rw[Oc (by omega)];simp;omega
theorem kZ:∀x y,lexLt x y=false->x=y∨lexLt y x=true
 |[],[],_=>.inl rfl
 |[],_::_,h=>by unfold lexLt at h;lia
 |_::_,[],_=>.inr rfl
 |a::x,b::y,h=>by
  unfold lexLt at h ⊢;split at h;rename_i e
  simp_all [kZ]
  lia
theorem xy{a:Type}(p q:a->Bool):∀l:List a,(∀z∈l,p z=true->q z=true)->(∃z∈l,p z=false/\q z=true)->l.countP p<l.countP q
 |[],_,⟨_,h,_⟩=>by cases h
 |x::l,h,⟨z,a,c,b⟩=>by
  rw[List.countP_cons,List.countP_cons];have d:l.countP p<=l.countP q:=List.countP_mono_left (by grind);rcases OK.mp a with y|y
  lia
  have ih:=xy p q l (by grind) ⟨z,y,c,b⟩;grind
def rank(K:List (yaf))(x:yaf):Nat:=K.countP λy=>lexLt y x
def Bi{K:List (yaf)}{x y:yaf}(g:x∈K)(f:y∈K):decide (rank K x<rank K y)=lexLt x y:=by
 have c:∀a b,a∈K->lexLt a b=true->rank K a<rank K b:=λa b e h=>xy _ _ K (λz _ d=>qw z a b d h) ⟨a,e,j9 a,h⟩
 cases e:lexLt x y with
 |true=>simpa using c x y g e
 |false =>
  rcases kZ x y e with z|z;subst z;simp;have:=c y x f z;simp
  lia
section
variable{prog:Program}{w:World}{A:Around}{E:yaa}{s:Shared}
def L3{f:Bool}{Q:Bool->Shared->Prop}:∀{k d:yaf} {j vs:yad} (i:Nat),PySem.ItemsAre (intKind prog w) k j->PySem.ItemsAre (intKind prog w) d vs->f=decide (k.length<d.length)->Q (lexLt k d) s->KatLex prog w A b f Q (j.zip vs) i s:=by
 intro k d j vs i h
 induction h generalizing d vs i with
 |nil =>
  intro l g q;refine kat_nil ?_;cases l with
  |nil=>rw[g];exact q
  |cons _ _=>rw[g];exact q
 |@cons a u x j o r ih =>
  intro l g q;cases l with
  |nil=>refine kat_nil ?_;rw[g];exact q
  |@cons c p y vs n m =>
   obtain⟨t,rfl⟩:=Value.isInt_shape o;obtain⟨z,rfl⟩:=Value.isInt_shape n;refine kat_cons (wpAny_eqBool_int ?_);by_cases e:a=c;subst e;rw[show(a==a)=true by simp];refine kat_yes (ih (i+1) m ?_ ?_);rw[g];simp;unfold lexLt at q;rw[Og rfl]at q;exact q;rw[show(a==c)=false by simp[e]];unfold lexLt at q;rw[Oc e]at q;refine kat_no ?_;cases(b && i==0)with
   |true=>exact oneLt_int q
   |false=>exact kat_one _ _ (PySem.P.lt_int q)
def Du{Q:Bool->Shared->Prop}(f:(TK prog w).is s.heap k x)(a:(TK prog w).is s.heap k' y)(q:Q (lexLt k k') s):wpAny (model prog w) A (keyLt' (tuples' b) (.ref x) (.ref y)) Q E s:=by
 obtain⟨o,d,n,g,r,i,e⟩:=f;obtain⟨m,c,p,j,TQ,l,f⟩:=a;have a:∀{k:yaf} {b:yad},PySem.ItemsAre (intKind prog w) k b->k.length=b.length:=λh=>by
  induction h with
  |nil=>rfl
  |cons _ _ ih=>simp[ih]
 refine kat_lt g i j l (L3 0 e f ?_ q);rw[a e,a f,RY,RY]
theorem Bu:∀{cs:yae} (K:Nat->yaf) (a:Nat),(∀(j:Nat) (c:Addr),cs[j]?=some c->(TK prog w).is s.heap (K (a+j)) c/\K (a+j) ≠ [])->∃e,KatTups s.heap (cs.map Value.ref) e/\e.length=cs.length/\∀v∈e,∃n t,v=Value.int n t
 |[],_,_,_=>⟨[],KatTups.nil,rfl,λ_ h=>by cases h⟩
 |c::cs,K,a,h=>by
  obtain⟨e,t,l,i⟩:=Bu (cs:=cs) K (a+1) λj c b=>by have:=h (j+1) c b;rw[show a+(j+1)=a+1+j by lia]at this;exact this
  obtain⟨⟨o,d,n,g,k,j,b⟩,f⟩:=h 0 c rfl;rw[Nat.add_zero]at b f;generalize K a=q at b f;generalize hL:d.toList=L at b;cases b with
  |nil=>exact absurd rfl f
  |@cons a u x m c p =>
   obtain⟨b,rfl⟩:=Value.isInt_shape c;refine⟨.int a b::e,KatTups.cons g k j ?_ t,by simp[l],λv c=>?_⟩;rw[<- Ua,hL];rfl;rcases OK.mp c with z|z;exact⟨a,b,z⟩;exact i v z
def zL{cs:yae}{K:Nat->yaf}{Q:SortKind->Shared->Prop}(PJ:0<cs.length)(h:∀(j:Nat) (c:Addr),cs[j]?=some c->(TK prog w).is s.heap (K j) c/\K j ≠ [])(q:Q (tuples' true) s):wpAny (model prog w) A (keyKind' (cs.map Value.ref).toArray) Q E s:=by
 obtain⟨e,t,l,b⟩:=Bu (s:=s) (cs:=cs) K 0 λj c a=>by rw[UW];exact h j c a
 refine kat_kind (T:=.type "int") t (by lia) (λv a=>?_) (by decide) q;obtain⟨n,d,rfl⟩:=b v a;exact Looks.of_pure rfl
def IC{cs:yae}{K:Nat->yaf}{G:yap->Shared->Prop}(g:1<=cs.length)(h:∀(j:Nat) (c:Addr),cs[j]?=some c->(TK prog w).is s.heap (K j) c)
  (e:∀p:yap,SS.Ok cs.length p->(∀i j,i<=j->j<cs.length->lexLt (K (p.getD j 0)) (K (p.getD i 0))=false)->G p s):(kas_sort cs.length).kasWp (kas_ask prog w A (tuples' true) (cs.map Value.ref)) G s:=by
 have a:∀i,i<cs.length->K i∈(List.range cs.length).map K:=λi c=>OZ.mpr ⟨i,zDQ.mpr c,rfl⟩
 refine SS.AS (r:=λi=>rank ((List.range cs.length).map K) (K i)) (n:=cs.length) (λi j C c b d=>?_) (λp ⟨O,S⟩=>e p O λi j f b=>?_) _ (SS.Kd g);unfold kas_ask;have g:(cs.map Value.ref).getD i Value.none=.ref cs[i]:=by simp[c]
 have e:(cs.map Value.ref).getD j Value.none=.ref cs[j]:=by simp[b]
 rw[g,e];refine Du (h i _ (O2 c)) (h j _ (O2 b)) ?_;rw[Bi (a i c) (a j b)]at d;exact d;have:=S i j f b;unfold SS.v at this;have e:=Bi (a _ (O.lt b)) (a _ (O.lt (Yu f b)));rw[<- e];exact decide_eq_false (WA.mpr this)
theorem By{a:Type}:∀l:List a,(l.zip l).map (·.2)=l
 |[]=>rfl
 |x::l=>by simp[By l]
def range_getD{a:Type}(l:List a)(d:a):(List.range l.length).map (λi=>l.getD i d)=l:=by apply List.ext_getElem;simp;intro i b a;simp;rw[O2 a];rfl
def yH {cs:yae} {K:Nat->yaf} {P:PySem.Fin->Shared->Prop} (m:s.heap.get? a=some (seqObj "list" (cs.map Value.ref).toArray n)) (q:cs.length<64)
  (h:∀(j:Nat) (c:Addr),cs[j]?=some c->(TK prog w).is s.heap (K j) c/\K j ≠ [])
  (t:∀h' (p:yap) l,SS.Ok cs.length p->(∀i j,i<=j->j<cs.length->lexLt (K (p.getD j 0)) (K (p.getD i 0))=false)->(∀b o,b≠a->s.heap.get? b=some o->h'.get? b=some o) →
   h'.get? a=some (seqObj "list" (List.toArray (p.toList.map λi=>(cs.map Value.ref).getD i Value.none)) l)->P (.done (.ret .none)) {s with heap:=h'}):wpAny (model prog w) A (Builtin.«list.sort» ⟨[.ref a],[]⟩) P E s:=by
 have f:(cs.map Value.ref).length=cs.length:=Of ..;obtain⟨d,e⟩:∃d,(s.heap.update a (Obj.mapSeq λ_=>(#[]:yao))).get? a=some (seqObj "list" #[] d):=⟨_,get?_update_seq m λ_=>#[]⟩;rw[list_sort_plain];refine Oa (listItems_at m rfl ?_);refine Oa (listUpdate_at m rfl ?_ (by rw[RF,sizeLine_eq];lia) (QS _));refine Oa (seqEpoch_at e rfl ?_);refine Oa (wpAny_newTuple ?_ (by show(cs.map Value.ref).length<=_;rw[sizeLine_eq];lia));refine Oa (wpAny_newList ?_ (QS _));refine SF ?_;have g:(((s.heap.update a (Obj.mapSeq λ_=>(#[]:yao))).push (seqObj "tuple" (cs.map Value.ref).toArray 0)).push (seqObj "list" #[] 0)).get? a=some (seqObj "list" #[] d):=Po _ (Po _ e);have r:∀b o,b≠a->s.heap.get? b=some o->(((s.heap.update a (Obj.mapSeq λ_=>(#[]:yao))).push (seqObj "tuple" (cs.map Value.ref).toArray 0)).push (seqObj "list" #[] 0)).get? b=some o:=λb o n e =>
  Po _ (Po _ ((Vs _ _ (Ne.symm n)).trans e))
 generalize ((s.heap.update a (Obj.mapSeq λ_=>(#[]:yao))).push (seqObj "tuple" (cs.map Value.ref).toArray 0)).push (seqObj "list" #[] 0)=H at g r ⊢;have k:∀(p:yap) (d:yao),SS.Ok cs.length p->(∀i j,i<=j->j<cs.length->lexLt (K (p.getD j 0)) (K (p.getD i 0))=false)->d=List.toArray (p.toList.map λi=>(cs.map Value.ref).getD i Value.none)->P (.done (.ret .none)) {s with heap:=H.update a (Obj.mapSeq λ_=>d)}:=λp d O S e=>by subst e;obtain⟨l,d⟩:∃l,(H.update a (Obj.mapSeq λ_=>List.toArray (p.toList.map λi=>(cs.map Value.ref).getD i Value.none))).get? a=some (seqObj "list" (List.toArray (p.toList.map λi=>(cs.map Value.ref).getD i Value.none)) l):=⟨_,get?_update_seq g λ_=>List.toArray (p.toList.map λi=>(cs.map Value.ref).getD i Value.none)⟩;exact t _ p l O S (λb o n e=>(Vs _ _ (Ne.symm n)).trans (r b o n e)) d
 dsimp only;by_cases a:(cs.map Value.ref).toArray.size<2;rw[Og a,Og a];refine Oa (wpAny_pure ?_);rw[StateT.run_pure];refine Oa (wpAny_pure ?_);dsimp only;refine Oa (seqEpoch_at g rfl ?_);refine Oa (listUpdate_at g rfl ?_ (hsz2:=by rw[Array.size_map];show(pairsOf (cs.map Value.ref)).size<=_;rw[pairsOf_size,sizeLine_eq];lia));simp only[bne_self_eq_false,Uk,if_false];refine wpAny_pure (k (List.toArray (List.range cs.length)) _ ⟨Array.Perm.refl _⟩ (λi j QJ b=>?_) ?_);have:i=j:=by rw[RF,f]at a;lia
 subst this;exact j9 _;show((cs.map Value.ref).toArray.zip (cs.map Value.ref).toArray).map (·.2)=_;have e:=range_getD (cs.map Value.ref) Value.none;rw[f]at e;rw[e];simp[By];rw[Oc a,Oc a];rw[RF,f]at a;have l:∀(j:Nat) (c:Addr),cs[j]?=some c->(TK prog w).is H (K j) c/\K j ≠ []:=λj c b=>by obtain⟨a,d⟩:=h j c b;exact⟨lS a λo e=>r c o (key_ne a m rfl (by decide)) e,d⟩
 refine Oa (zL (s:={s with heap:=H}) (by lia) l ?_);refine Oa (R9 (kat_run (s:={s with heap:=H}) (ks:=cs.map Value.ref) (vs:=cs.map Value.ref) (Q:=λd a=>a={s with heap:=H}/\∃p:yap,arrOf d=p.map (kas_item ((cs.map Value.ref).toArray.zip (cs.map Value.ref).toArray))/\failedOf d=none/\SS.Ok cs.length p/\∀i j,i<=j->j<cs.length->lexLt (K (p.getD j 0)) (K (p.getD i 0))=false)
  (G:=λp a=>a={s with heap:=H}/\SS.Ok cs.length p/\∀i j,i<=j->j<cs.length->lexLt (K (p.getD j 0)) (K (p.getD i 0))=false)
  rfl (by rw[f];lia) (by rw[f];exact q) (λp d a u o n q=>(by obtain⟨m,i,h⟩:=q;exact⟨m,p,o,n,i,h⟩)) ?_) ?_ λ_ _ e=>e)
 rw[f];exact IC (s:={s with heap:=H}) (by lia) (λj c b=>(l j c b).1) λp O S=>⟨rfl,O,S⟩
 rintro⟨⟨⟩,d⟩ a ⟨rfl,p,b,c,O,S⟩;dsimp only;have a:=kat_snds (ks:=cs.map Value.ref) (vs:=cs.map Value.ref) rfl b;rw[a];refine Oa (seqEpoch_at g rfl ?_);refine Oa (listUpdate_at g rfl ?_ (QS _) (by rw[RF,Of,RY,O.size,sizeLine_eq];lia));rw[c];simp only[bne_self_eq_false,Uk,if_false];exact wpAny_pure (k p _ O S rfl)
def G4{a b:Type}{f:a->b}{l m:List b}(h:l.Perm m):∀xs:List a,m=xs.map f->∃c:List a,c.Perm xs/\l=c.map f:=by
 induction h with
 |nil=>simp_all
 |cons a _ ih =>
  intro xs e;cases xs with
  |nil=>cases e
  |cons x xs =>
   injection e with e1 e2;obtain⟨c,p,q⟩:=ih xs e2;exact⟨x::c,p.cons x,by grind⟩
 |swap a b l =>
  intro xs e
  match xs,e with
  |[],e=>cases e
  |[_],e=>simp at e
  |x::y::xs,e =>
   exact⟨y::x::xs,List.Perm.swap x y xs,by grind⟩
 |trans _ _ b a =>
  intro xs e;obtain⟨c,p,q⟩:=a xs e;obtain⟨a,e,d⟩:=b c q;exact⟨a,e.trans p,d⟩
def CO{a:Addr}{xs:List (yaf×Addr)}{Q:yaa}(i:A.handled=none)(X:jc prog w s.heap a xs)(u:xs.length<64)(H:∀x∈xs,x.1 ≠ [])
  (r:∀s' (D:Addr) (ys:List (yaf×Addr)) c,(∀b o,s.heap.get? b=some o->s'.heap.get? b=some o)->s'.gens=s.gens->s'.drawn=s.drawn->s'.os=s.os->s.heap.objs.size<=D->ys.Perm xs->ys.Pairwise (λx y=>lexLt x.1 y.1=true) →
   s'.heap.get? D=some (seqObj "list" (ys.map λy=>Value.ref y.2).toArray c)->Q (.ref D) s'):wpAny (model prog w) A (call (.builtin "sorted") [.ref a]) Q E s:=by
 obtain⟨⟨o,h,l,t,f,d,j,g,T,k,_,_⟩,x,q⟩:=X;have e:h.size=xs.length:=by rw[<- RY,g,Of]
 refine Calls.call_function_entry kind_sorted plain_sorted entry_sorted (args_sorted1 _) ?_;refine Oa (m:=checkCount "sorted" 1 1 _) (wpAny_pure ?_);refine Oa (zH (show A.in1.handled=none from i) f d.1 j T (by rw[Of,e]) k (by lia) λf e j B y g3 m n=>?_);obtain⟨d,k,i⟩:=G4 (qF w a h l) xs g;have a:e=(d.map (·.2)).map Value.ref:=by rw[n,i,Pp,Pp];rfl
 have l:d.length=xs.length:=k.length_eq;have h:(d.map (·.2)).length=xs.length:=by rw[Of,l]
 subst a;refine Oa (wpAny_newList ?_ (by rw[Of,h,sizeLine_eq];lia));have a:(f.heap.push (seqObj "list" ((d.map (·.2)).map Value.ref).toArray 0)).get? f.heap.objs.size=some (seqObj "list" ((d.map (·.2)).map Value.ref).toArray 0):=Rh _ rfl;have n:∀b o,s.heap.get? b=some o->(f.heap.push (seqObj "list" ((d.map (·.2)).map Value.ref).toArray 0)).get? b=some o:=λb o e=>Po _ (j b o e)
 refine Oa (SF (Va slot_list_sort ⟨_,a,rfl⟩ entry_list_sort ?body (args_list_sort _)))
 case body =>
  refine yH (s:={f with heap:=f.heap.push (seqObj "list" ((d.map (·.2)).map Value.ref).toArray 0)}) (K:=λj=>(d.getD j ([],0)).1) a (by lia) (λj c a=>?_) λI p C O S G t=>?_
  rw[PO]at a;obtain⟨z,i,e⟩:=U7.mp a;have g:d.getD j ([],0)=z:=by rw[Py,i];rfl
  have c:z∈xs:=k.mem_iff.mp (Ql i);subst e;rw[g];exact⟨lS (x z c) λo e=>n _ o e,H z c⟩;have g:(p.toList.map λi=>d.getD i ([],0)).Perm xs:=by
   have x:=(zDJ.mp O.perm).map λi=>d.getD i ([],0)
   have c:=range_getD d ([],0);rw[l,<- h]at c;refine(x.trans ?_).trans k;rw[c]
  refine⟨_,rfl,wpAny_pure ⟨_,rfl,r _ f.heap.objs.size (p.toList.map λi=>d.getD i ([],0)) C (λb o e=>?_) B y g3 m g ?_ ?_⟩⟩;exact G b o (PY (QZ (OY e) m)) (n b o e);refine Vr.mpr λi j b a h=>?_
  have c:((p.toList.map λi=>d.getD i ([],0)).map (·.1)).Nodup:=(g.map (·.1)).nodup_iff.mpr q;have f:=Vr.mp c i j (by rw[Of];exact b) (by rw[Of];exact a) h;rw[Of,RY]at b a;have c:=S i j (by lia) (by rw[<- O.size];exact a);have h:p.getD i 0=p[i]:=by simp[Array.getD,b]
  have g:p.getD j 0=p[j]:=by simp[Array.getD,a]
  rw[h,g]at c;simp at f ⊢;rcases kZ _ _ c with e|e;exact absurd e.symm f;exact e;refine t.trans ?_;congr 3;rw[Pp (l:=p.toList)];refine Wv λi b=>?_
  have a:i<d.length:=by have:=(zDJ.mp O.perm).mem_iff.mp b;simpa using this
  simp[a]
end
end SW
namespace PD
open PySem PySem.Spec PyProof.Rows L2
section
variable{X:Cx}{pos:Pos}
def boot_sorted:bootBuiltins "sorted" = some (.builtin "sorted"):=by kernel_rfl
def boot_set:bootBuiltins "set" = some (.type "set"):=by kernel_rfl
theorem sU:∀{ns:yaf} {a:yad},Vals (ns.map V.int) a->PySem.ItemsAre (intKind prog w) ns a
 |[],a,r=>by rw[Vy]at r;cases r;exact .nil
 |n::ns,a,r=>by
  rw[Pj]at r;cases r with
  |cons h t =>
   obtain⟨b,rfl⟩:=h;exact .cons (by simp[intKind,Value.isInt]) (sU t)
def AV{k:yaf}(I:Inv X pins σ H s)(h:OT X.K H a (k.map V.int)):(SW.TK X.prog X.w).is s.heap k a:=by obtain⟨c,r,⟨o,e,b,n,a⟩,_⟩:=I.tuple h.w;exact⟨o,c.toArray,n,e,b,a,by simpa using sU r⟩
def LO(a:bM k A):A.in1.in1.in1.units<cLine:=Yu (Nat.add_le_add_left (by decide:3<=64) _) a.units
def tupI(k:yaf):D:=.tup (k.map D.int)
def Nt{K:yac}{P:yak}{H:Hp}{k:yaf}{v:V}(h:Den K P H (tupI k) v):∃a,v=.ref a/\OT K H a (k.map V.int):=by obtain⟨a,c,e,q,b⟩:=h.Qq;rw[bP b]at q;exact⟨a,e,q⟩
def Dc(ys ks:List (yaf)):Prop:=ys.Pairwise (λx y=>SW.lexLt x y=true)/\∀k,k∈ys↔k∈ks
def Ge(te:DE):DA:=λa Q=>te a λd=>∃t a,d=.lst t (a.map tupI)/\a.length<64/\(∀k∈a,k ≠ [])/\∀b,Dc b a->Q (b.map tupI)
def B4 {e:Expr} {te:DE} {p M w:Pos} (hc:X.calm=true) (hu:X.A.in1.in1.in1.units<cLine) (hg:Gl X "sorted") (hm:X.mg "sorted" = none) (Y4:Gl X "set") (Y5:X.mg "set" = none) (he:OD X e te)
  (Qx:starEach [.Call (.Name "set" M) [e] [] w] X.env=(false,eval (.Call (.Name "set" M) [e] [] w) X.env)::starEach [] X.env:=by rfl) (PH:(backTo pos (starEach [] X.env)).any (·.1)=false:=by rfl)
  (R0:starEach [e] X.env=(false,eval e X.env)::starEach [] X.env:=by rfl) (Wm:(backTo w (starEach [] X.env)).any (·.1)=false:=by rfl) :
  R3 X (.Call (.Name "sorted" p) [.Call (.Name "set" M) [e] [] w] [] pos) (Ge te):=by
 intro g s U H W ρ Q I r h;refine Uo (cc I hg hm boot_sorted ?_ (by decide) (by decide));refine PyProof.Rows.callWith_builtin1 ?_ Qx PH;rw[Qx];show wpAny _ _ (spliced ((false,eval (.Call (.Name "set" M) [e] [] w) X.env)::backTo pos (starEach [] X.env))) _ _ s;refine Calls.spliced_cons ?_;refine Uo (cc I Y4 Y5 boot_set ?_ (by decide) (by decide));refine PyProof.Rows.callWith_type1 ?_ R0 Wm;rw[R0];show wpAny _ _ (spliced ((false,eval e X.env)::backTo w (starEach [] X.env))) _ _ s;refine Calls.spliced_cons (Oj (he g s U H W ρ _ I r h) λu J Ol=>?_);obtain⟨v,o,d,x,L,e1,hd,t,f,ed,lk,PJ,q⟩:=Ol;subst ed;obtain⟨l,vs,ev,_,hq,hw⟩:=hd.Q3;subst ev;cases L;refine wpAny_pure ?_;obtain⟨T,L,pl,_⟩:=x.list hq;have hh:=x.ok.hd hc;have lvs:vs.length=f.length:=by rw[hw.len,Of]
 have l:T.length=f.length:=by rw[<- L.length,lvs]
 have G:∀(j:Nat) (k:yaf),f[j]?=some k->∃c:Addr,T[j]?=some (Value.ref c)/\OT X.K o c (k.map V.int):=λj k hk=>by obtain⟨v,ev,hv⟩:=hw.get (i:=j) (d:=tupI k) (by rw[PO,hk];rfl);obtain⟨c,rfl,hc⟩:=Nt hv;obtain⟨u,eu,ru⟩:=L.get ev;cases ru;exact⟨c,eu,hc⟩
 refine SW.call_set_list hh hu pl.isList (by rw[RF];lia) (λj=>f.getD j []) (λj v hj=>?_) λh2 A Y kp S yl yk yi=>?_
 have SN:T[j]?=some v:=by simpa using hj
 have a:j<f.length:=by rw[<- l];exact(QH.mp SN).1
 obtain⟨c,E,O⟩:=G j f[j] (O2 a);rw[SN]at E;cases E;rw[show f.getD j []=f[j]by simp[a]];exact⟨c,rfl,AV x O⟩;have I2:L2.Inv X g U o {J with heap:=h2,toks:=A}:=x.kept kp;refine wpAny_pure ?_;rw[RF]at yl yk yi;have m:∀k,k∈Y.map (·.1)↔k∈f:=λk=>by rw[yk k];constructor;rintro⟨j,a,e⟩;rw[l]at a;rw[e,show f.getD j []=f[j]by simp[a]];exact SE a;intro hk;obtain⟨j,a,e⟩:=Vt hk;exact⟨j,by rw[l];exact a,by rw[<- e];simp[a]⟩
 have den:∀y∈Y,OT X.K o y.2 (y.1.map V.int):=λy N=>by
  obtain⟨j,a,n⟩:=yi y N;have b:T[j]?=some (.ref y.2):=by simpa using n
  rw[l]at a;obtain⟨c,E,O⟩:=G j f[j] (O2 a);rw[b]at E;cases E;have i:=AV I2 O;rw[(SW.TK X.prog X.w).inj (S.is_ y N) i];exact O
 refine SW.CO (s:={J with heap:=h2,toks:=A}) hh S (by lia) (λy N=>PJ _ ((m _).mp (OZ.mpr ⟨y,N,rfl⟩))) λB D i c Vk g1 g2 g3 le C sz hD=>?_
 have lz:i.length=Y.length:=C.length_eq;have es:B={J with heap:=B.heap,toks:=B.toks}:=by cases B;dsimp only at g1 g2 g3 ⊢;subst g1 g2 g3;rfl
 have t:J.heap.objs.size<=D:=by obtain⟨_,_,_,_,ho,_⟩:=S.ex;exact UU (QZ (OY ho) le)
 have nD:o D=none:=x.OB.fresh t;have I3:L2.Inv X g U (L2.upd o D (.lst (i.map λz=>V.ref z.2))) B:=by
  rw[es];refine x.laid (λb u e=>Vk b u (kp b u e)) t ⟨by rw[Of,sizeLine_eq];lia,i.map λz=>Value.ref z.2,c,?_,hD⟩;clear C sz hD lz
  induction i with
  |nil=>exact .nil
  |cons z i ih=>exact .cons rfl ih
 have dz:ah X.K W.bad o ((i.map (·.1)).map tupI) (i.map λz=>V.ref z.2):=by
  have Q2:∀z∈i,OT X.K o z.2 (z.1.map V.int):=λz t=>den z (C.mem_iff.mp t)
  clear C sz hD lz I3
  induction i with
  |nil=>exact rfl
  |cons z i ih =>
   refine ah.cons (Den.tup (Q2 z RB) ?_) (ih λz t=>Q2 z (Pz _ t));show ah X.K W.bad o (z.1.map PD.D.int) (z.1.map V.int);generalize z.1=k
   induction k with
   |nil=>exact rfl
   |cons n k b=>exact ah.cons (Den.int n) b
 have b:=Inv.YY I3 aD;refine⟨D,_,_,_,rfl,I3,e1.trans (ar.upd nD),e1.free nD,b,aD,ah.apart nD b dz,q _ ⟨?_,λk=>?_⟩⟩;exact Zt.mpr sz;rw[(C.map (·.1)).mem_iff];exact m k
theorem Cd{K:yac}{P:yak}{H:Hp}:∀k:yaf,ah K P H (k.map PD.D.int) (k.map V.int)
 |[]=>rfl
 |n::k=>ah.cons (Den.int n) (Cd k)
end
end PD
namespace HT
open PySem PyProof.Rows
section
open PySem.SeqAt
open PySem.AutoSeq1 (wpAny_loadPart')
open PySem.MeetsSeq PySem.MeetsSeq2 PySem.MeetsSeq3
end
end HT
namespace PD
open PySem PySem.Spec PyProof.Rows L2
section
variable{X:Cx}{pos:Pos}
def II (G:X.calm=true):eZ X (.builtin "min") (λds Q=>∃(t:Bool) (ns:yaf),ds=[.lst t (ns.map D.int)]/\0<ns.length/\∀m,m∈ns->(∀n∈ns,m<=n)->Q (.int m)):=by
 intro k s O H W ds U Y Q I tr r E q;obtain⟨t,ns,e,h,q⟩:=q;subst e;obtain⟨v,rfl,J⟩:=mq E;obtain⟨a,T,M,_,B,A⟩:=J.Q3;subst M;cases r with
 |cons u p =>
  cases p;cases u;obtain⟨Oe,i,w,_⟩:=I.list B;rw[bP A]at i;have l:=intsAre_of i;obtain⟨b,o⟩:=l.allInts.items;have C:s.heap.IsList a (intItems b):=by rw[<- o];exact w.isList
  have d:ns=b.toList.map (·.1):=by rw[<- l.numsOf,<- nums_intItems,<- o]
  have f:0<b.size:=by rw[d,Of,RY]at h;exact h
  refine min_intList (I.ok.hd G) C f λy h' tk z x=>?_
  obtain⟨tt,rfl⟩:=intItems_at z;obtain⟨g1,L⟩:=argBest_lt (numAt b) (b.size - 1);have g:∀j,j<b.size->b.toList.map (·.1) ≠ []->numAt b j∈ns:=λj c _=>by
   rw[d,numAt_eq];have:(b.toList.map (·.1))[j]?=some ((b.toList.map (·.1)).getD j 0):=by simp[c]
   exact Ql this
  refine⟨.int _,H,_,I.kept x,⟨_,rfl⟩,ar.refl H,Den.int _,q _ (g _ (by omega) (by rw[<- d];exact XR h)) λn m=>?_⟩;rw[d]at m;obtain⟨j,c,N⟩:=Vt m;have:numAt b j=n:=by rw[numAt_eq,<- N];simp only[Py,O2 c,zDH]
  rw[<- this];rw[Of,RY]at c;exact L j (by omega)
end
end PD
namespace SW
open PySem PySem.SetTable ST PySem.W PyProof.Rows
section
variable{prog:Program}{w:World}{A:Around}{E:yaa}{s:Shared}
structure N7(prog:Program)(w:World)(h:Heap)(a:Addr)(xs:List (Int×Tok)):Prop where
 ex:∃o es ep t,h.get? a=some o/\o.ExactSet/\o.data=.set es ep t/\es.toList=xs.map (λx=>((intKind prog w).hash x.1,Value.int x.1 x.2))/\Tab t (xs.map λx=>(intKind prog w).hash x.1)/\(t.plain=true/\t.led=!w.params.followText "set-order")/\7<=t.mask
 nd:(xs.map (·.1)).Nodup
theorem sW:∀ps:List (Int×Value),(∀p∈ps,∃t,p.2=Value.int p.1 t)->IntsAre (ps.map (·.2)) (ps.map (·.1))
 |[],_=>.nil
 |(k,v)::r,h=>by obtain⟨t,e⟩:=h (k,v) RB;have a:v=Value.int k t:=e;subst a;exact .cons _ _ (sW r λp a=>h p (Pz _ a))
theorem yt:∀{vs:yad} {ns:yaf},IntsAre vs ns->∀p∈ns.zip vs,∃t,p.2=Value.int p.1 t
 |_,_,.nil,p,h=>by cases h
 |_,_,.cons _ _ r,p,h=>by
  rcases OK.mp h with z|z;exact⟨_,by rw[z]⟩;exact yt r p z
def Cj {vs:yad} {P:PySem.Fin->Shared->Prop} (e:s.heap.get? a=some (seqObj "list" vs.toArray n)) (h:IntsAre vs ns) (q:vs.length<64)
  (y:∀h' (c:yad) (d:yaf) i,IntsAre c d->d.Perm ns->d.Pairwise (·<=·)->(∀b o,b≠a->s.heap.get? b=some o->h'.get? b=some o)->h'.get? a=some (seqObj "list" c.toArray i)->P (.done (.ret .none)) {s with heap:=h'}):wpAny (model prog w) A (Builtin.«list.sort» ⟨[.ref a],[]⟩) P E s:=by
 have x:ns.length=vs.length:=h.length.symm;obtain⟨c,d⟩:∃c,(s.heap.update a (Obj.mapSeq λ_=>(#[]:yao))).get? a=some (seqObj "list" #[] c):=⟨_,get?_update_seq e λ_=>#[]⟩;rw[list_sort_plain];refine Oa (listItems_at e rfl ?_);refine Oa (listUpdate_at e rfl ?_ (by rw[RF,sizeLine_eq];lia) (QS _));refine Oa (seqEpoch_at d rfl ?_);refine Oa (wpAny_newTuple ?_ (by show vs.length<=_;rw[sizeLine_eq];lia));refine Oa (wpAny_newList ?_ (QS _));refine SF ?_;have f:(((s.heap.update a (Obj.mapSeq λ_=>(#[]:yao))).push (seqObj "tuple" vs.toArray 0)).push (seqObj "list" #[] 0)).get? a=some (seqObj "list" #[] c):=Po _ (Po _ d);have r:∀b o,b≠a->s.heap.get? b=some o->(((s.heap.update a (Obj.mapSeq λ_=>(#[]:yao))).push (seqObj "tuple" vs.toArray 0)).push (seqObj "list" #[] 0)).get? b=some o:=λb o j e =>
  Po _ (Po _ ((Vs _ _ (Ne.symm j)).trans e))
 generalize ((s.heap.update a (Obj.mapSeq λ_=>(#[]:yao))).push (seqObj "tuple" vs.toArray 0)).push (seqObj "list" #[] 0)=H at f r ⊢;have k:∀d:Array Keyed,d.Perm (vs.toArray.zip vs.toArray)->SortedTo d d.size->P (.done (.ret .none)) {s with heap:=H.update a (Obj.mapSeq λ_=>d.map (·.2))}:=λd g m=>by
  obtain⟨c,n,p,u⟩:=ksk_out (b:=false) (keys:=vs.toArray) (vs:=vs) (kz:=ns) h g m;have l:d.map (·.2)=List.toArray (c.map Prod.snd):=by have:(d.map (·.2)).toList=c.map Prod.snd:=p;rw[<- this,Array.toArray_toList]
  have t:=yt h;rw[l];obtain⟨i,d⟩:∃i,(H.update a (Obj.mapSeq λ_=>List.toArray (c.map Prod.snd))).get? a=some (seqObj "list" (List.toArray (c.map Prod.snd)) i):=⟨_,get?_update_seq f λ_=>List.toArray (c.map Prod.snd)⟩;refine y _ (c.map Prod.snd) (c.map Prod.fst) i (sW c λp a=>t p (n.mem_iff.mp a)) ?_ (Zt.mpr u) (λb o j e=>(Vs _ _ (Ne.symm j)).trans (r b o j e)) d;have:=n.map Prod.fst;rw[Zy (Nat.le_of_eq x)]at this;exact this
 dsimp only;have b:(vs.toArray.zip vs.toArray).size=vs.length:=by rw[Array.size_zip,RF,Nat.min_self]
 by_cases a:vs.toArray.size<2;rw[Og a,Og a];refine Oa (wpAny_pure ?_);rw[StateT.run_pure];refine Oa (wpAny_pure ?_);dsimp only;refine Oa (seqEpoch_at f rfl ?_);refine Oa (listUpdate_at f rfl ?_ (hsz2:=by rw[Array.size_map];rw[b,sizeLine_eq];lia));simp only[bne_self_eq_false,Uk,if_false];refine wpAny_pure (k (vs.toArray.zip vs.toArray) (Array.Perm.refl _) λi j QJ c=>?_);rw[b]at c;rw[RF]at a;have:i=j:=by lia
 subst this;exact R8 _;rw[Oc a,Oc a];rw[RF]at a;rw[ksk_kind (keys:=vs.toArray) h (by rw[RF];lia)];refine Oa (wpAny_pure ?_);refine Oa (R9 (wpS_sortRuns (a₀:=vs.toArray.zip vs.toArray) (st:=SortSt.mk' oneType' (vs.toArray.zip vs.toArray) #[] 7 none)
  (Q:=λ_ a=>(arrOf a).Perm (vs.toArray.zip vs.toArray)/\failedOf a=none/\SortedTo (arrOf a) (vs.toArray.zip vs.toArray).size)
  (ksk_intKeys (keys:=vs.toArray) h) ⟨Array.Perm.refl _,rfl,rfl,rfl⟩ (by rw[b];lia) (by rw[b];exact q) λa h d c=>⟨h,d,c⟩) ?_ λ_ _ e=>e)
 rintro⟨⟨⟩,a⟩ z ⟨rfl,g,c,m⟩;dsimp only;refine Oa (seqEpoch_at f rfl ?_);refine Oa (listUpdate_at f rfl ?_ (QS _) (by rw[Array.size_map,g.size_eq,b,sizeLine_eq];lia));rw[c];simp;exact wpAny_pure (k (arrOf a) g (by rw[g.size_eq];exact m))
end
end SW
namespace PD
open PySem PySem.Spec PyProof.Rows L2
section
variable{X:Cx}{pos:Pos}
theorem gA:∀{a:yad} {b:yaf},IntsAre a b->Vals (b.map V.int) a
 |_,_,.nil=>.nil
 |_,_,.cons n t r=>.cons ⟨t,rfl⟩ (gA r)
theorem sA{K:yac}{P:yak}{H:Hp}:∀a:yaf,ah K P H (a.map D.int) (a.map V.int)
 |[]=>rfl
 |n::a=>ah.cons (Den.int n) (sA a)
end
section
variable{X:Cx}
def BDP(X:Cx)(a:yab)(W:Own)(Q:D->Prop)(f:Flow)(c:Shared):Prop :=
 ∃ u v d e b,f=.ret u/\Inv X a e b c/\RelV v u/\ar X.OR b/\Den X.K (λt a=>W.B a∨(t=true/\W.S a)) b d v/\Q d
abbrev DB:=(D->Prop)->Ro->Prop
def Vl(X:Cx)(d:yal)(t:DB):Prop :=
 ∀ (b:yab) (s:Shared) (a:St) (H:Hp) (W:Own) (c:Ro) (Q:D->Prop),Inv X b a H s->Rel X W H a c->(∀a o,X.OR a=some o->W.S a)->t Q c →
  wpAny (model X.prog X.w) X.A (execs d X.env) (BDP X b W Q) X.xe s
theorem OQ.ent(f:OQ W H W' H')(r:Rel X W H σ ρ):ar X.OR H' where
 kp:=λb o e n=>f.kp b o (λi z=>by have:=r.ke i b z;lia) (r.ent.kp b o e n) n
 tb:=λb a e=>by obtain⟨g,c⟩:=r.ent.tb b a e;obtain⟨d,h⟩:=f.tb b _ c;grind
 ok:=λk=>f.ok (r.ent.ok k)
def xO{K:yac}{W b:Own}{H H':Hp}{d:D}{v:V}(f:OQ W H b H')(h:Den K b.bad H' d v):Den K (λt a=>W.B a∨(t=true/\W.S a)) H' d v:=h.OC λt a z=>by
 rcases z with z|z;exact .inl (by rw[f.B];exact z);exact .inr (.inr ⟨z.1,by rw[f.S];exact z.2⟩)
def DK(t:DS)(u:DB):DB:=λQ a=>t {nx:=u Q,rt:=Q} a
def jQ{st:Stmt}{rest:yal}{t:DS}{u:DB}(e:Q4 X st t)(j:Vl X rest u):Vl X (st::rest) (DK t u):=by
 intro a s b H W c Q I r d h;refine Vv (Oj (e a s b H W c _ I r h) λf c e=>?_);obtain⟨k,g,i,h,b,q⟩:=e;cases f with
 |next =>
  obtain⟨f,e,q⟩:=q;refine Oj (j a c g i k f Q h e (by rw[b.S];exact d) q) λn m ⟨w,v,d,j,l,e,k,c,sm,a,f⟩=>⟨w,v,d,j,l,e,k,c,sm,?_,f⟩
  rw[b.B,b.S]at a;exact a
 |ret w =>
  obtain⟨v,d,c,a,f⟩:=q;exact⟨w,v,d,g,i,rfl,h,c,b.ent r,xO b a,f⟩
 |brk=>simp_all
 |cont=>simp_all
def HU(t:DS):DB:=λQ a=>t {nx:=λ_=>False,rt:=Q} a
def KC{st:Stmt}{t:DS}(d:Q4 X st t):Vl X [st] (HU t):=by
 intro a s b H W c Q I r k h;refine Vv (Oj (d a s b H W c _ I r h) λf j b=>?_);obtain⟨W',g,i,h,a,q⟩:=b;cases f with
 |next=>obtain⟨_,_,q⟩:=q;exact q.elim
 |ret w =>
  obtain⟨v,d,b,e,c⟩:=q;exact⟨w,v,d,g,i,rfl,h,b,a.ent r,xO a e,c⟩
 |brk=>obtain⟨_,_,q⟩:=q;exact q.elim
 |cont=>obtain⟨_,_,q⟩:=q;exact q.elim
def M8(X:Cx)(t:DB):TS:=λD a H=>∃W b Q,Rel X W H a b/\(∀a o,X.OR a=some o->W.S a)/\t Q b/\∀b v d,ar X.OR b->Den X.K (λt a=>W.B a∨(t=true/\W.S a)) b d v->Q d->D.rt v b
def Vl.ps(h:Vl X ss t):YC X ss (M8 X t):=by
 intro a s b H D I q;obtain⟨W,c,Q,r,d,e,k⟩:=q;refine Oj (h a s b H W c Q I r d e) λf j h=>?_
 obtain⟨u,v,d,g,a,e,i,b,sm,f,c⟩:=h;subst e;exact⟨v,g,a,i,b,k a v d sm f c⟩
theorem Vl.WD(h:Vl X.WD ss t):Vl X ss t:=λa s b H W c Q I r d e =>
 R9 (h a s b H W c Q (I.wish _) (r.wish _) d e) (λ_ _ b=>(by obtain⟨u,v,d,a,f,e,c,q⟩:=b;exact⟨u,v,d,a,f,e,c.PQ,q⟩)) λ_ _ z=>False.elim z
end
section
variable{P:Program}{w:World}{K:yac}{mg:yam}{base:Heap}
def ax.okB{x a:Str}{st:Stmt}{f:Addr}{d:FuncData}{N ps:yah}{k:Nat}{sp:DSp}(F:ax K x a st f d)(S:ay N ps (ai st))(c:∀ds Q E,sp ds Q E->ds.length=ps.length)
  (m:∀(b:Value) (A:Around) (outer:List Env) (s:Shared) (H:Hp) (E:XK),bM k (A.deeper (envOfC a (ai st) s.heap.objs.size f b)) →
   ∃ t,Vl (c6 (CX1 P w) P w K mg base N a (ai st) f b A outer s H E).WD (cK st) t/\∀ds Q Ed,sp ds Q Ed->t Q (cU N ds)):aF P w K mg base (CX1 P w) (k+1) f d ps (aH K sp):=by
 obtain⟨u,r,z,kV,l,p,C,b,B,WG,rfl,lk,a⟩:=F.ex;refine HW lk a S (λa H Q E h=>?_) λA outer s H a Q E g h=>?_
 obtain⟨_,ds,_,_,_,_,e,d,_⟩:=h;rw[e.len];exact c ds _ _ d;obtain⟨n,ds,c,Ed,i,j,e,d,f,y⟩:=h;obtain⟨t,a,k⟩:=m b A outer s H E g;refine⟨_,a.WD.ps,⟨n,λ_=>none,λa=>∃o,H a=some o⟩,_,c,Rel.start j e rfl i,λa o e=>⟨o,e⟩,k ds c Ed d,λb v d sm a q=>?_⟩;exact f d v b sm a q
end
section
variable{X:Cx}
def Rel.forget(r:Rel X W H σ ρ)(i:Nat):Rel X W H σ (ρ.set i none) where
 val:=λj d h=>by
  by_cases e:j=i
  ·subst e;by_cases l:j<ρ.length
   all_goals simp_all
  rw[Rc (Ne.symm e)]at h;exact r.val j d h
 own:=λj d h=>by
  by_cases e:j=i
  ·subst e;by_cases l:j<ρ.length
   all_goals simp_all
  rw[Rc (Ne.symm e)]at h;exact r.own j d h
 inj:=r.inj
 kn:=r.kn
 ke:=r.ke
 bt:=r.bt
 st:=r.st
 ent:=r.ent
 tab:=r.tab
def Rel.apart{H':Hp}{Z:Addr->Prop}(r:Rel X W H σ ρ)(g:∀a,¬Z a->H' a=H a)(l:∀a,Z a->∃h o,H a=some (.lst h)/\H' a=some (.lst o))(p:∀i a,W.O i=some a->¬Z a)
  (A:∀(j:Nat) (d:D) (v:V),ρ[j]?=some (some (Sl.val d))->σ[j]?=some (some v)->Den X.K W.bad H d v->Den X.K (λt a=>W.bad t a∨Z a) H d v)
  (B:∀(j:Nat) (x:OS),ρ[j]?=some (some (Sl.ob x))->∃f,x=OS.lst f/\di f=true) (m:ar X.OR H') (k:jd X.K H'):Rel X W H' σ ρ:=by
 have y:∀c e,OT X.K H c e->OT X.K H' c e:=λc e q=>q.imp (λq=>by rw[g c λz=>by obtain⟨h,_,b,_⟩:=l c z;rw[b]at q;cases q];exact q) id
 have s:∀c u,V3 u->H c=some u->H' c=some u:=λc u n q=>by rw[g c λz=>by obtain⟨h,_,b,_⟩:=l c z;rw[b]at q;cases q;exact n];exact q
 have w:∀t c e,¬(W.bad t c∨Z c)->QK X.K H t c e->¬W.bad t c/\QK X.K H' t c e:=λt c e n q=>by
  have e:=g c λz=>n (.inr z)
  refine⟨λz=>n (.inl z),?_,λz=>⟨by rw[e];exact(q.2 z).1,(q.2 z).2⟩⟩;rcases q.1 with(q|⟨u,q⟩)|q;exact .inl (.inl (by rw[e];exact q));exact .inl (.inr ⟨u,by rw[e];exact q⟩);exact .inr q
 have i:∀c u,H c=some u->∃e,H' c=some e:=λc u q=>by by_cases z:Z c;obtain⟨_,o,_,e⟩:=l c z;exact⟨_,e⟩;exact⟨u,by rw[g c z];exact q⟩
 refine⟨λj d h=>?_,λj x h=>?_,r.inj,λj a h=>?_,r.ke,λa h=>let ⟨u,q⟩:=r.bt a h;i a u q,λa h=>let ⟨u,q⟩:=r.st a h;i a u q,m,k⟩;obtain⟨v,b,e⟩:=r.val j d h;exact⟨v,b,Den.map y w s d v (A j d v h b e)⟩;obtain⟨f,rfl,d⟩:=B j x h;obtain⟨a,c,b,e,k,i⟩:=r.oH j f h;refine⟨a,.lst c,b,e,by rw[g a (p j a b)];exact k,.lst ?_⟩;exact ah.map y w s f c (ah.Vj f c d i);obtain⟨e,d,o,c,b⟩:=r.kn j a h;exact⟨e,d,o,by rw[g a (p j a h)];exact c,b⟩
end
def FL(K:yac)(x:Str)(st:Stmt):Prop:=∃(f:Addr) (e:Value) (d:Option Addr) (kV g c:Value) (i:Option Addr) (a h:Value) (b:Array (yan)),
 PySem.W.nsIn K mainGlobals x=some (some (.ref f))/\K.lookup f=some ⟨e,d,.func (PySem.W.fnOf x x (fg st) (cK st) (ai st) .none kV g c i a h),b⟩/\PySem.W.codeIn K a x=true/\PySem.W.keepIn K (.ref f)=true
def FL.mk{K:yac}{x:Str}{st:Stmt}{f:Addr}{j:Value}{i:Option Addr}{kV k h:Value}{m:Option Addr}{e l:Value}{g:Array (yan)}(a:PySem.W.nsIn K mainGlobals x=some (some (.ref f)))
  (b:K.lookup f=some ⟨j,i,.func (PySem.W.fnOf x x (fg st) (cK st) (ai st) .none kV k h m e l),g⟩) (c:PySem.W.codeIn K e x=true) (d:PySem.W.keepIn K (.ref f)=true):FL K x st:=⟨f,j,i,kV,k,h,m,e,l,g,a,b,c,d⟩
def NK{c:Type}:∀{b:List c},b.length=1->∃a,b=[a]
 |[a],_=>⟨a,rfl⟩
def NL{d:Type}:∀{c:List d},c.length=2->∃a b,c=[a,b]
 |[a,b],_=>⟨a,b,rfl⟩
def NM{e:Type}:∀{d:List e},d.length=3->∃a b c,d=[a,b,c]
 |[a,b,c],_=>⟨a,b,c,rfl⟩
def NN{f:Type}:∀{e:List f},e.length=4->∃a b c d,e=[a,b,c,d]
 |[a,b,c,d],_=>⟨a,b,c,d,rfl⟩
def NO{g:Type}:∀{f:List g},f.length=5->∃a b c d e,f=[a,b,c,d,e]
 |[a,b,c,d,e],_=>⟨a,b,c,d,e,rfl⟩
def FL.has{K:yac}{x:Str}{st:Stmt}{h:Heap}{c:yam}{k:Nat}{ps:yah}{sp:DSp}(e:FL K x st)(P:Program)(w:World)(base:Heap)(X:K.In h)(G:h.Ns mainGlobals c)
  (n:∀{f:Addr} {g:FuncData},ax K x x st f g->aF P w K c base (CX1 P w) k f g ps (aH K sp))
  (r:∀(kV i d:Value) (m:Option Addr) (l j:Value) (b:yad),b.length=ps.length->bindArgs (PySem.W.fnOf x x (fg st) (cK st) (ai st) .none kV i d m l j) ⟨b,[]⟩=pure (ps.zip b):=by
   intro _ _ _ _ _ _ b a
   first
    |(obtain⟨_,rfl⟩:=NK a;rfl)
    |(obtain⟨_,_,rfl⟩:=NL a;rfl)
    |(obtain⟨_,_,_,rfl⟩:=NM a;rfl)
    |(obtain⟨_,_,_,_,rfl⟩:=NN a;rfl)
    |(obtain⟨_,_,_,_,_,rfl⟩:=NO a;rfl)
    |(cases Yq a;rfl)):Ph P w K c base x k ps sp:=by
 obtain⟨f,q,p,kV,i,d,m,l,j,o,a,b,c,d⟩:=e;exact⟨f,_,n (AQ b c d),PySem.W.mg_of X G a,d,.all (by simp_all)⟩
section
variable{X:Cx}
def xJ(i:Nat)(t:DB):DB:=λQ a=>t Q (a.set i none)
def Dk(i:Nat)(h:Vl X ss t):Vl X ss (xJ i t):=λa s b H W e Q I r c d=>h a s b H W _ Q I (r.forget i) c d
end
end PD
namespace HT
open PySem PyProof.Rows
section
open PySem.SeqAt
open PySem.AutoSeq1 (wpAny_loadPart')
open PySem.MeetsSeq PySem.MeetsSeq2 PySem.MeetsSeq3
end
end HT
namespace PD
open PySem PySem.Spec PyProof.Rows L2 PZ
def ESt(e b l:Addr)(i:Nat)(h:Heap):Prop:=(∃a,IsEnum h e b (i:Int) a)/\h.IsListIter b l i
def Ite(K:yac)(a:Addr):It :=
 ⟨λi H=>∃b x,SqL K H a b/\b[i]?=some x,
  λi H v c=>∃T x,v=.ref T/\H T=none/\c=L2.upd H T (.tup [.int (i:Int),x])/\∀b,SqL K H a b->b[i]?=some x,
  λi H=>∃b,SqL K H a b/\b[i]?=none⟩
def Fi{P:Program}{w:World}{K:yac}{es:yai}{c:Nat}{b:Pos}(a e d:Addr)(D:e≠d) :
  Turn P w K (.Tuple es c b) (Ite K a) [e,d] e (λi h=>ESt e d a i h) where
 mem:=by simp
 obj:=λi h st c b=>by
  obtain⟨⟨f,l⟩,g⟩:=st;simp only[OK,TN,or_false]at b;rcases b with q|q<;>subst q;exact⟨_,l,λv q=>by cases q⟩;obtain⟨o,j,_,k⟩:=g;exact⟨o,j,λv q=>by rw[k]at q;cases q⟩
 keep:=λi h h' st y=>by obtain⟨⟨f,l⟩,g⟩:=st;obtain⟨o,j,r⟩:=g;exact⟨⟨f,y e (by simp) _ l⟩,o,y d (by simp) _ j,r⟩
 item:=by
  intro X O J Q b i A s σ H E I t st N;subst O J Q;obtain⟨xs,x,j,M⟩:=N;obtain⟨us,B,G⟩:=S9.list (k:=true) I j;obtain⟨u,g,ru⟩:=B.get M;obtain⟨⟨f,l⟩,p⟩:=st;refine wpAny_pyNext_enum_item l p G (x:=u) (by simpa using g) D λh' g C z sz' y=>⟨_,rfl,wpAny_letOwnedTupleGo_enum g λm U sb=>?_⟩
  have g:s.heap.objs.size<=s.heap.objs.size:=O5 _;have L:s.heap.objs.size≠e:=Ud (OY l);obtain⟨oi,n,ri⟩:=id p;have T:s.heap.objs.size≠d:=Ud (OY n);have w:H s.heap.objs.size=none:=I.OB.fresh g;have g:∀c o,c ∉ [e,d]->s.heap.get? c=some o->m.get? c=some o:=λc o n q=>by simp at n;exact sb.extBut c o n.1 (y c o n.1 n.2 q)
  have Y:ESt e d a (i+1) m:=by
   refine⟨⟨u,?_⟩,?_⟩;have:((i+1:Nat):Int)=(i:Int)+1:=by lia
   rw[this];exact U;obtain⟨o,j,r⟩:=C;exact⟨o,sb.extBut _ o (Ne.symm D) j,r⟩
  have C:m.get? s.heap.objs.size=some {cls:=.type "tuple", data:=.seq #[.int i s.toks,u]}:=sb.extBut _ _ L z;have lo:∀c ∈ [e,d],c≠s.heap.objs.size:=λc b=>by
   simp only[OK,TN,or_false]at b;rcases b with q|q<;>subst q;exact Ne.symm L;exact Ne.symm T
  refine⟨.ref s.heap.objs.size,L2.upd H s.heap.objs.size (.tup [.int (i:Int),x]),?_,rfl,⟨_,x,rfl,w,rfl,λxs' q=>by rw[I.Sj q j];exact M⟩,Y,λc b=>by rw[aw (lo c b)];exact(t c b).1⟩;have x:∀c o,H c=some o->c ∉ [e,d]:=λc o q b=>by have:=(t c b).1;rw[q]at this;cases this
  refine L2.Inv.step (s:=s) (h':=m) (g':=s.gens) (d':=s.drawn) (t':=s.toks+1) (ch:=[e,d]) I (λc b=>?_) (λc o _ _ n q _=>g c o n q) (λc o _ _ n q _=>⟨o.slots,g c o n q⟩) (λc o _ q n=>by rw[aw (PY (OY q))];exact n) (λc o n q=>⟨o,g c o n q⟩)
   (λc ls q=>by rw[aw (aL q w)];exact q) (λc o ls q=>by rw[aw (aL q w)];exact q) (λc ps q=>⟨#[],by rw[aw (aL q w),q];simp⟩) (λm M=>?_) (λc o q=>?_) I.bare
  obtain⟨f0,f1,f2,Y,U,T⟩:=t c b;exact⟨Y,f1,U,T⟩;obtain⟨o,RX,ep,L,r⟩:=M;exact⟨o,RX,ep,g _ o (λq=>(t _ q).2.1 rfl) L,r⟩;by_cases a:c=s.heap.objs.size;subst a;rw[aD]at q;cases q;exact⟨by rw[sizeLine_eq];show 2<=16777216;decide,[.int i s.toks,u],.cons ⟨_,rfl⟩ (.cons ru .nil),⟨_,C,rfl,_,rfl⟩⟩;rw[aw a]at q;refine(I.OB c o q).RH (λd' a u z=>g d' a ?_ z) (λd' z=>by rw[aw (aL z w)];exact z) λd' ls z=>by rw[aw (aL z w)];exact z
  rcases u with q'|q';rw[q'];exact x c o q;exact x d' _ q'
 done:=by
  intro X O J Q b i A s σ H E I t st N;subst O J Q;obtain⟨xs,j,i⟩:=N;obtain⟨us,B,G⟩:=S9.list (k:=true) I j;obtain⟨⟨f,l⟩,p⟩:=st;refine wpAny_pyNext_enum_end (I.ok.hd b) l p G (by simpa using B.none_of i) λh' y=>⟨rfl,?_⟩
  have g:∀c o,c ∉ [e,d]->s.heap.get? c=some o->h'.get? c=some o:=λc o n q=>by simp at n;exact y c o n.2 q
  have x:∀c o,H c=some o->c ∉ [e,d]:=λc o q b=>by have:=(t c b).1;rw[q]at this;cases this
  refine L2.Inv.step (s:=s) (h':=h') (g':=s.gens) (d':=s.drawn) (t':=s.toks) (ch:=[e,d]) I (λc b=>?_) (λc o _ _ n q _=>g c o n q) (λc o _ _ n q _=>⟨o.slots,g c o n q⟩) (λ_ _ _ _ n=>n) (λc o n q=>⟨o,g c o n q⟩) (λ_ _ q=>q) (λ_ _ _ q=>q) (λc ps q=>⟨#[],by rw[q];simp⟩) (λm M=>?_) (λc o q=>?_) I.bare;obtain⟨f0,f1,f2,Y,U,T⟩:=t c b;exact⟨Y,f1,U,T⟩;obtain⟨o,RX,ep,L,r⟩:=M;exact⟨o,RX,ep,g _ o (λq=>(t _ q).2.1 rfl) L,r⟩;refine(I.OB c o q).RH (λd' a u z=>g d' a ?_ z) (λ_ z=>z) λ_ _ z=>z
  rcases u with q'|q';rw[q'];exact x c o q;exact x d' _ q'
 self:=λ_ _ _ _ _ st h=>by obtain⟨⟨f,l⟩,_⟩:=st;exact wpAny_pyIter_enum l h
section
variable{X:Cx}
def my:Nat->yas->yas
 |_,[]=>[]
 |n,d::r=>.tup [.int (n:Int),d]::my (n+1) r
theorem oz:∀(n:Nat) (ds:yas),(my n ds).length=ds.length
 |_,[]=>rfl
 |n,d::r=>by rw[my,RG,oz (n+1) r,RG]
theorem ow:∀(n:Nat) (ds:yas) (i:Nat) (d:D),ds[i]?=some d->(my n ds)[i]?=some (.tup [.int ((n+i:Nat):Int),d])
 |_,[],_,_,h=>by cases h
 |n,x::r,0,d,h=>by
  cases h;rfl
 |n,x::r,i+1,d,h=>by
  rw[my,List.getElem?_cons_succ,ow (n+1) r i d h]
  lia
def HI(b:DA):DA:=λa R=>b a λb=>∃t a,b=[.lst t a]/\R (my 0 a)
def Ji {es:yai} {d:Nat} {c:Pos} {a:Expr} {b:DA} {p pos:Pos} (f:Gl X "enumerate") (e:X.mg "enumerate" = none) (g:SU X [a] b) (hs:starEach [a] X.env=(false,eval a X.env)::starEach [] X.env:=by rfl) (i:(backTo pos (starEach [] X.env)).any (·.1)=false:=by rfl) :
  UA X (.Tuple es d c) (.Call (.Name "enumerate" p) [a] [] pos) (HI b):=by
 intro a s b H W c R I r h;refine Call_ (cc I f e boot_enumerate (PyProof.Rows.callWith_type1 (Oj (g pos a s b H W c _ I r h) λz a b=>?_) hs i));obtain⟨u,p,ds,d,g,m,f,c⟩:=b;obtain⟨t,b,e,q⟩:=c;subst e;obtain⟨w,B,rfl,k,rfl⟩:=f;obtain⟨l,f,i,c,h,o⟩:=k.seq (k:=true) (ds:=b) rfl;subst i;cases g with
 |cons i g =>
  cases g;cases i;obtain⟨n,_,g⟩:=S9.list (k:=true) d c;refine call_enumerate_list g λE c i A g=>?_
  refine wpAny_pyIter_enum c ?_;refine⟨a.heap.objs.size+1,[a.heap.objs.size+1,a.heap.objs.size],_,_,p,_,rfl,d.kept (t':=a.toks) g,m,Fi l _ _ (by simp),⟨⟨_,c⟩,i⟩,λc g=>?_,?_,q⟩;have i:a.heap.objs.size<=c:=by
   simp only[OK,TN,or_false]at g;rcases g with q|q<;>subst q;exact XX _ _;exact O5 _
  exact d.VY i (d.OB.fresh i);intro d a k m p i;have c:SqL X.K a l f:=o d a k m;have C:=h.len;have j:=oz 0 b;refine⟨λd=>?_,λv H3 y d=>?_,λd=>⟨f,c,W5 (by lia)⟩⟩;obtain⟨x,g,_⟩:=h.get (i:=i) (d:=b[i]'(by lia)) (by simp);exact⟨f,x,c,g⟩;obtain⟨T,x,e,l,d,g⟩:=y;subst e d;obtain⟨d,e,o⟩:=h.bA (g f c);have sm:ar a (L2.upd a T (.tup [.int (i:Int),x])):=ar.upd l;refine⟨sm,.tup [.int (i:Int),d],by rw[ow 0 b i d e,UW],Den.tup (OT.of aD) (ah.cons (Den.int _) (ah.one ((Den.map k m p d x o).same sm)))⟩
end
open PySem PySem.Spec PyProof.Rows L2
section
variable{X:Cx}
def PSV(X:Cx)(st:Stmt)(i:Nat)(t:DE):Prop :=
 ∀ (a:yab) (s:Shared) (b:St) (H:Hp) (W:Own) (c:Ro) (Q:D->Prop),Inv X a b H s->Rel X W H b c->t c Q →
  wpAny (model X.prog X.w) X.A (exec st X.env) (λf e=>f=.next/\∃v c d,Inv X a (b.set i (some v)) c e/\ar H c/\Den X.K W.bad c d v/\Q d) X.xe s
def MB{K:yac}{H:Hp}{a:Addr}{vs b:yar}(q:SqL K H a vs)(h:H a=some (.lst b))(k:K.lookup a=none):vs=b:=by
 rcases q with(q|⟨u,q⟩)|⟨o,Oe,n,q,_⟩
 all_goals lia
end
end PD
namespace SW
open PySem PySem.SetTable ST PySem.W PyProof.Rows L2
section
variable{prog:Program}{w:World}{A:Around}{E:yaa}{s:Shared}
theorem qR:∀{vs:yad} {ns:yaf},vs.length=ns.length->(∀(j:Nat) (v:Value),vs[j]?=some v->∃n t,ns[j]?=some n/\v=Value.int n t)->IntsAre vs ns
 |[],[],_,_=>.nil
 |v::vs,n::ns,h,k=>by obtain⟨m,t,e,a⟩:=k 0 v rfl;cases(show n=m from SO e);subst a;exact .cons n t (qR (Nat.succ.inj h) λj u a=>k (j+1) u a)
def zd{a:Addr}{ks:yaf}{Q:yaa}(i:A.handled=none)(j:(a==sysModules)=false)(dd:s.heap.DictOf (bL prog w) a kvs)(n:kvs.map (·.1)=ks.map Sum.inl)(z:ks.length<64)
  (u:∀(d:Heap) (l:Nat) s' (f:yad) (g:yaf) c,(∀b o,s.heap.get? b=some o->d.get? b=some o)->(∀b o,d.get? b=some o->s'.heap.get? b=some o)->s'.gens=s.gens->s'.drawn=s.drawn->s'.os=s.os->IntsAre f g->g.Perm ks->g.Pairwise (·<·) →
   s'.heap.get? d.objs.size=some (seqObj "list" f.toArray c)->Q (.ref d.objs.size) s'):wpAny (model prog w) A (call (.builtin "sorted") [.ref a]) Q E s:=by
 obtain⟨o,q,ep,e,c,a,p,k,h⟩:=dd;have lk:kvs.length=ks.length:=by have:=congrArg List.length n;simpa using this
 refine Calls.call_function_entry kind_sorted plain_sorted entry_sorted (args_sorted1 _) ?_;refine Oa (m:=checkCount "sorted" 1 1 _) (wpAny_pure ?_);refine Oa (PySem.W.kdu_collect (PySem.W.kdl_dict (knd:=bL prog w) (kvs:=kvs) (ep:=ep) j) (show A.in1.handled=none from i) ⟨o,q,e,c,a,p,k,h⟩ (by rw[sizeLine_eq];lia) λd l a p c=>?_);have m:a.toList.length=ks.length:=by rw[RY,c.1,lk]
 have r:IntsAre a.toList ks:=qR m λj v i=>by
  obtain⟨k,x,e,q⟩:=c.2 j v (by simpa using i);have G:(kvs.map (·.1))[j]?=some k:=by rw[PO,e];rfl
  rcases bN (show mD k v=true from q)with⟨i,t,c,C⟩| ⟨y,t,c,_⟩
  all_goals simp_all
 have c:ks.Nodup:=by rw[n]at h;exact(Zt.mp h).imp λh e=>h (by rw[e])
 refine Oa (wpAny_newList ?_ (by rw[m,sizeLine_eq];lia));have h:(d.push (seqObj "list" a.toList.toArray 0)).get? d.objs.size=some (seqObj "list" a.toList.toArray 0):=Rh _ rfl;have n:∀b o,d.get? b=some o->(d.push (seqObj "list" a.toList.toArray 0)).get? b=some o:=λb o e=>Po _ e
 refine Oa (SF (Va slot_list_sort ⟨_,h,rfl⟩ entry_list_sort ?body (args_list_sort _)))
 case body =>
  refine Cj (s:={s with heap:=d.push (seqObj "list" a.toList.toArray 0),toks:=l}) h r (by lia) λB f g k i a h m j=>?_
  refine⟨_,rfl,wpAny_pure ⟨_,rfl,u d l _ f g k p (λb o e=>?_) rfl rfl rfl i a ?_ j⟩⟩;exact m b o (PY (OY e)) (n b o e);have b:g.Nodup:=a.nodup_iff.mpr c;exact(h.and b).imp fun {x y} q=>by lia
end
end SW
namespace PD
open PySem PySem.Spec PyProof.Rows L2
section
variable{X:Cx}{pos:Pos}
def Az(i:Nat):DS:=λE a=>E.nx (a.set i (some (.ob (.dk []))))
def DU{x:Str}(i:Nat)(g:X.N.Nodup)(d:X.N[i]?=some x:=by rfl)(e:Loc X.env.scope x:=by first|exact Or.inl rfl|exact Or.inr rfl)(hs:swapsWith (.Dict [] [] dpos) (some (.Name x pos')) pos.line X.env=pure false:=by rfl)
  (f:X.fn x=true∨X.env.scope.names.lookup x=some .local:=by first|exact .inl rfl|exact .inr rfl|assumption):Q4 X (.Assign [.Name x pos'] (.Dict [] [] dpos) pos) (Az i):=by
 intro b s j H W k E I r q;have c:=I.OB.fresh (O5 s.heap.objs.size);have h:=I.laid (a:=s.heap.objs.size) (o:=.dK []) (h':=s.heap.push {cls:=.type "dict", data:=.dict #[]}) (t':=s.toks) (λ_ _ q=>Po _ q) (O5 _) (Gj s.heap I.big);refine zC8 (wpAny_Dict_empty ?_) hs;have a:=r.putG (x:=.dk []) (Inv.TJ I d) (H':=L2.upd H s.heap.objs.size (.dK [])) (ar.upd c) c (Inv.Q5 I) aD (.dk rfl ah.nil);exact cN (v:=.ref s.heap.objs.size) h g d e rfl (λl c=>⟨_,_,_,c,a.2,_,a.1,q⟩) f
def HN(i:Nat)(b te:DE):DS:=λE c=>∃a,c[i]?=some (some (.ob (.dk a)))/\te c λd=>b c λk=>∃b:Key,k=GG b/\a.length<sizeLine/\E.nx (c.set i (some (.ob (.dk (putD a b d)))))
def IU {x:Str} (i:Nat) (c:X.A.units+1<cLine) (f:OD X b tb) (d:OD X e te) (g:X.N[i]?=some x:=by rfl) (a:VB X.env.scope x:=by first|exact Or.inl rfl|exact Or.inr (Or.inl rfl)|exact Or.inr (Or.inr rfl)) (j:(x==("__debug__" : Str))=false:=by decide)
  (h:(x==("__classdict__" : Str))=false:=by decide) (hs:swapsWith e (some (.Subscript (.Name x px) b tpos)) pos.line X.env=pure false:=by rfl):Q4 X (.Assign [.Subscript (.Name x px) b tpos] e pos) (HN i tb te):=by
 refine Q4.of (JQ c (eR g a j h) f.pe d.pe hs) λt H W c E r y h=>?_
 obtain⟨p,l,h⟩:=h;obtain⟨a,b,n,i,k,m,s⟩:=r.YZ l;refine⟨W,c,_,r,h,λv H1 d d j q=>⟨.ref a,i,W,c,_,r.same d,q,λu H2 A c g e=>?_⟩⟩;obtain⟨f,rfl,w,e⟩:=e;have z:=AF g;subst z;have o:b.length<sizeLine:=by have:=congrArg List.length m;simp at this;lia
 have b:=c _ _ (d _ _ k);obtain⟨h,g⟩:=JS (k:=f) m (s.same (d.trans c)) (j.same c);obtain⟨f,j⟩:=((r.same d).same c).mutG l n i b True.intro (.dk h g);exact⟨a,_,rfl,wW.k b o,W,_,(OQ.same (d.trans c)).trans j,f,e⟩
def HH(i:Nat)(d c:DE):DE:=λb Q=>∃a,b[i]?=some (some (.ob (.dk a)))/\d b λk=>c b λz=>∃b:Key,k=GG b/\Q ((dh a b).getD z)
def IQ {x:Str} {a:Pos} (i:Nat) (d:X.A.units+1<cLine) (g:OD X b tb) (e:OD X f tf) (h:X.N[i]?=some x:=by rfl) (c:VB X.env.scope x:=by first|exact Or.inl rfl|exact Or.inr (Or.inl rfl)|exact Or.inr (Or.inr rfl)) (j:(x==("__debug__" : Str))=false:=by decide)
  (k:(x==("__classdict__" : Str))=false:=by decide) (m:M2 X (.Name x px) "get" a b f pos:=by exact⟨rfl,rfl,rfl,rfl⟩):OD X (.Call (.Attribute (.Name x px) "get" a) [b,f] [] pos) (HH i tb tf):=by
 refine OD.of (G1 d (eR h c j k) g.pe e.pe m) λn H W f Q r h=>?_
 obtain⟨g,d,h⟩:=h;obtain⟨a,b,s,c,k,e,m⟩:=r.YZ d;refine⟨.ref a,c,a,rfl,.inl ⟨b,.inl k⟩,W,f,_,r,h,λv H1 d c j q=>⟨W,f,_,r.same c,q,λo H2 t i h f=>?_⟩⟩;obtain⟨a,rfl,f⟩:=f;have z:=AF j;subst z;refine⟨dX b a,nN.k (i _ _ (c _ _ k)),c.trans i,_,?_,f⟩;cases l:dh g a with
 |none=>rw[yO e m l];exact h
 |some d =>
  obtain⟨p,b,a⟩:=uy e m l;rw[b];exact a.same (c.trans i)
theorem Fx{a b:Type}:∀{ks:List a} {kvs:List (a×b)},kvs.map (·.1)=ks->kvs=ks.zip (kvs.map (·.2))
 |[],[],_=>rfl
 |k::ks,p::r,h=>by have b:p.1=k:=(List.cons.inj h).1;have a:=Fx (List.cons.inj h).2;show p::r=(k,p.2)::ks.zip (r.map (·.2));rw[<- a,<- b]
def Rel.XJ{i:Nat}{ks:yaf}{ds:yas}(r:Rel X W H σ ρ)(b:ds.length=ks.length)(e:ρ[i]?=some (some (.ob (.dk ((ks.map Sum.inl).zip ds))))) :
  ∃ a kws,H a=some (.dK kws)/\∀ob,Rel X (W.drop i) (L2.upd H a (.frz ob (.dK kws))) σ (ρ.set i (some (.val (.RD ks ds))))/\OQ W H (W.drop i) (L2.upd H a (.frz ob (.dK kws))):=by
 obtain⟨a,kws,m,y,c,w,G⟩:=r.YZ e;refine⟨a,kws,c,λob=>?_⟩;have g:i9 (HO.dK kws):=True.intro;have o:NT (HO.frz ob (.dK kws)):=True.intro;have lk:((ks.map Sum.inl:List Key).zip ds).map (·.1)=ks.map Sum.inl:=Zy (by rw[Of,b];exact O5 _);have d:((ks.map Sum.inl:List Key).zip ds).map (·.2)=ds:=List.map_snd_zip (by rw[Of,b];exact O5 _);rw[lk]at w;rw[d]at G;have h:i<σ.length:=(QH.mp y).1;have A:i<ρ.length:=(QH.mp e).1;have f:∀t,W.bad t a:=λ_=>.inr (.inl ⟨i,m⟩)
 have E:∀b d,OT X.K H b d->OT X.K (L2.upd H a (.frz ob (.dK kws))) b d:=λb d q=>q.imp (λq=>by rw[aw (pS q c (by intro z;cases z))];exact q) id
 have C:∀t b d,¬W.bad t b->QK X.K H t b d->¬W.bad t b/\QK X.K (L2.upd H a (.frz ob (.dK kws))) t b d:=λt b d n q=>by
  have l:b≠a:=λe=>n (e ▸ f t)
  refine⟨n,?_,λz=>⟨by rw[aw l];exact(q.2 z).1,(q.2 z).2⟩⟩;rcases q.1 with(q|⟨u,q⟩)|q;exact .inl (.inl (by rw[aw l];exact q));exact .inl (.inr ⟨u,by rw[aw l];exact q⟩);exact .inr q
 have B:∀b u,V3 u->H b=some u->L2.upd H a (.frz ob (.dK kws)) b=some u:=λb u n q=>by rw[aw (pS q c (by intro z;subst z;exact g.sol n))];exact q
 have s:∀j k b,W.sub σ.length j k=some b->(W.drop i).sub σ.length j k=some b/\∀f,H b=some (.lst f)->L2.upd H a (.frz ob (.dK kws)) b=some (.lst f):=λj k b q=>⟨Own.Rz h k b q,λf z=>by rw[aw (λe=>pD h (r.inj _ _ a (by rw[<- e];exact q) m))];exact z⟩
 have t:∀b u,H b=some u->∃f,L2.upd H a (.frz ob (.dK kws)) b=some f:=λb u q=>by by_cases f:b=a;subst f;exact⟨_,aD⟩;exact⟨u,by rw[aw f];exact q⟩
 have z:∀{ds:yas} {vs:yar},ah X.K W.bad H ds vs->ah X.K (W.drop i).bad (L2.upd H a (.frz ob (.dK kws))) ds vs:=λq=>(ah.map E C B _ _ q).OC λ_ _=>Own.O0
 refine⟨⟨λj x h=>?_,λj x h=>?_,λj k b f n=>?_,λj b f=>?_,λj b f=>?_,λb p=>let ⟨u,q⟩:=r.bt b p;t b u q,λb p=>let ⟨u,q⟩:=r.st b p;t b u q,r.ent.ins (r.ke i a m) c g o,r.tab.upd o (.inr ⟨_,c,g.ne,g.nt⟩)⟩,(OQ.upd m c g o).trans (OQ.drop W _ i)⟩;by_cases c:j=i;subst c;rw[UP A]at h;cases h;have g:(kws.map (·.2)).length=ks.length:=by rw[Of];have:=congrArg List.length w;simpa using this
 refine⟨.ref a,y,Den.RD (o:=ob) (vs:=kws.map (·.2)) ?_ g (z G)⟩;rw[<- Fx w];exact aD;rw[Rc (Ne.symm c)]at h;obtain⟨w,f,n⟩:=r.val j x h;exact⟨w,f,(Den.map E C B _ _ n).OC λ_ _=>Own.O0⟩;by_cases c:j=i;subst c;rw[UP A]at h;cases h;rw[Rc (Ne.symm c)]at h;obtain⟨b,d,f,n,o,g⟩:=r.own j x h;have l:b≠a:=λe=>c (r.inj j i a (by rw[<- e];exact f) m)
 exact⟨b,d,by show(if j=i then none else W.O j)=_;rw[Oc c];exact f,n,by rw[aw l];exact o,g.map (λ_ _ q=>z q) (s _)⟩;have c:(if j=i then none else W.O j)=some b:=f;have h:(if k=i then none else W.O k)=some b:=n;by_cases g:j=i;rw[Og g]at c;cases c;by_cases n:k=i;rw[Og n]at h;cases h;rw[Oc g]at c;rw[Oc n]at h;exact r.inj j k b c h;have c:(if j=i then none else W.O j)=some b:=f;by_cases g:j=i;rw[Og g]at c;cases c;rw[Oc g]at c;obtain⟨o,n,d,k,h⟩:=r.kn j b c;have l:b≠a:=λe=>g (r.inj j i a (by rw[<- e];exact c) m)
 exact⟨o,n,d,by rw[aw l];exact k,h⟩;have c:(if j=i then none else W.O j)=some b:=f;by_cases g:j=i;rw[Og g]at c;cases c;rw[Oc g]at c;exact r.ke j b c
def Ga(i:Nat)(t:DS):DS:=λE c=>∃(a:yaf) (b:yas),b.length=a.length/\c[i]?=some (some (.ob (.dk ((a.map Sum.inl).zip b))))/\t E (c.set i (some (.val (.RD a b))))
def zK(i:Nat)(h:cM X sts t):cM X sts (Ga i t):=by intro b s j H W u E I r g;obtain⟨w,x,d,e,g⟩:=g;obtain⟨a,c,l,k⟩:=r.XJ d e;obtain⟨z,q,n,d,m⟩:=HV I.OB l;have f:=m;obtain⟨o,_,_,e,_⟩:=f;obtain⟨p,f⟩:=k o;have k:Inv X b j (L2.upd H a (.frz o (.dK c))) s:=uk (ob:=.frz o (.dK c)) (h':=s.heap) (t':=s.toks) I (by rw[l];exact True.intro) (Heap.SameBut.refl _ _) ⟨o,e⟩ ⟨e,z,q,n,d,m⟩;exact Oj (h b s j _ (W.drop i) _ E k p g) λ_ _ z=>z.up f
def K6(c b:DE):DE:=λa Q=>c a λx=>b a λk=>∃(a:yaf) (b:yas) (n:Int) (d:D),x=.RD a b/\k=.int n/\b.length=a.length/\dh ((a.map Sum.inl:List Key).zip b) (.inl n)=some d/\Q d
def Lg(B:X.A.units+1<cLine)(I:OD X a ta)(G:OD X b tb)(hs:FJ b:=by intro _ _;rfl):OD X (.Subscript a b pos) (K6 ta tb):=by
 refine OD.of (JN B I.pe G.pe hs) λN H W k Q r h=>?_
 refine⟨W,k,_,r,h,λv H1 d s E q=>⟨W,k,_,r.same s,q,λO H2 T i g e=>?_⟩⟩;obtain⟨d,j,n,L,rfl,rfl,m,lk,e⟩:=e;obtain⟨c,o,kws,q,J,C,p,l,M⟩:=E.Xo;have z:=g.Pk;subst J z;have y:((d.map Sum.inl:List Key).zip j).map (·.1)=d.map Sum.inl:=Zy (by rw[Of,m];exact O5 _);have x:((d.map Sum.inl:List Key).zip j).map (·.2)=j:=List.map_snd_zip (by rw[Of,m];exact O5 _);have w:kws.map (·.1)=d.map Sum.inl:=by rw[p];exact Zy (by rw[Of,l];exact O5 _)
 have u:kws.map (·.2)=q:=by rw[p];exact List.map_snd_zip (by rw[Of,l];exact O5 _)
 obtain⟨t,A,f⟩:=uy (kws:=kws) (w.trans y.symm) (by rw[x,u];exact M) lk;exact⟨c,t,rfl,.inl ⟨kws,.inl n,.inr ⟨o,i _ _ C⟩,rfl,A.symm⟩,s.trans i,L,f.same i,e⟩
def DH(te:DE):DA:=λa Q=>te a λx=>∃(b:yaf) (a:yas),x=.RD b a/\b.length<64/\∀a:yaf,a.Perm b->a.Pairwise (·<·)->Q (a.map D.int)
def Gi {p:Pos} (t:X.calm=true) (g:Gl X "sorted") (d:X.mg "sorted" = none) (i:OD X e te)
  (b:starEach [e] X.env=(false,eval e X.env)::starEach [] X.env:=by rfl) (j:(backTo pos (starEach [] X.env)).any (·.1)=false:=by rfl) :
  R3 X (.Call (.Name "sorted" p) [e] [] pos) (DH te):=by
 intro a s f H W c Q I r h;refine Uo (cc I g d boot_sorted ?_ (by decide) (by decide));refine PyProof.Rows.callWith_builtin1 ?_ b j;rw[b];show wpAny _ _ (spliced ((false,eval e X.env)::backTo pos (starEach [] X.env))) _ _ s;refine Calls.spliced_cons (Oj (i a s f H W c _ I r h) λu k g=>?_);obtain⟨v,j,d,i,b,n,e,h,A,c,lk,q⟩:=g;subst c;obtain⟨c,o,d,w,m,l,o,g,Pe⟩:=e.Xo;subst m;cases b;refine wpAny_pure ?_;have m:=i.ok.hd t;obtain⟨_,z,e,x,b,p⟩:=i.OB c _ l;have c:d.map (·.1)=h.map Sum.inl:=by rw[o];exact Zy (by rw[Of,g];exact O5 _)
 refine SW.zd m e p (by rw[<- b.keys];exact c) lk λc o b d g t p u m e g3 h l sm r=>?_
 have s:b={k with heap:=b.heap,toks:=b.toks}:=by cases b;dsimp only at m e g3 ⊢;subst m e g3;rfl
 have m:L2.Inv X a f j {k with heap:=c,toks:=o}:=i.kept p;have e:j c.objs.size=none:=m.OB.fresh (O5 _);have y:=l.length_eq;have i:L2.Inv X a f (L2.upd j c.objs.size (.lst (g.map V.int))) b:=by rw[s];exact m.laid (t':=b.toks) (h':=b.heap) u (O5 _) ⟨by rw[Of,sizeLine_eq];lia,d,t,gA h,r⟩
 have a:=Inv.YY i aD;exact⟨c.objs.size,_,_,_,rfl,i,n.trans (ar.upd e),n.free e,a,aD,ah.apart e a (sA g),q g l sm⟩
end
end PD
namespace PZ
open PySem PySem.Spec PyProof.Rows
def Y6 (h:Heap) (z TI TO a:Addr) (f:Bool):Prop:=h.get? z=some {cls:=.type "zip", dict:=none,data:=.fields #[rawInt a,.bool f,.bool false,.ref TI,.ref TO],slots:=#[]}
section
variable{prog:Program}{w:World}{A:Around}{E:yaa}{s:Shared}{k1 k2:Bool}{z TI TO i1 i2 l1 l2 a:Addr}{f:Bool}{i:Nat}{xs ys:yao}{oa:Obj}
def yn{Q:Bool->Shared->Prop}(hz:Y6 s.heap z TI TO a f)(b:s.heap.get? a=some oa)(h:∀g,Y6 g z TI TO a true->Heap.SameBut z s.heap g->Q false {s with heap:=g}):wpAny (model prog w) A (Builtin.SmallTypes.ownedTupleIsFree (.ref z)) Q E s:=by
 refine Oa (Se hz rfl (x:=rawInt a) rfl ?_);show wpAny _ _ (loadIfAlive ((a:Int).toNat) >>= _) _ _ _;refine Oa (PySem.W.kdx_alive b ?_);refine Oa (Se hz rfl (x:=.bool f) rfl ?_);cases f with
 |true=>simp_all [Oc,wpAny_pure,Heap.SameBut.refl]
 |false=>exact Oa (Yv hz (by simp) λg (c:Y6 g z TI TO a true) b=>wpAny_pure (h g c b))
def Fv{x y:Value}{Q:yan->Shared->Prop}(D:Ap z TI TO i1 i2)(r:Out z TO i1 i2 l1)(j:Out z TO i1 i2 l2)(hz:Y6 s.heap z TI TO a f)(d:s.heap.get? a=some oa)(l:IsPair s.heap TI (.ref i1) (.ref i2))(m:RL k1 s.heap i1 l1 i)(B:RL k2 s.heap i2 l2 i)
  (g:Q9 k1 s.heap l1 xs) (q:Q9 k2 s.heap l2 ys) (h:xs[i]?=some x) (t:ys[i]?=some y)
  (u:∀h',Y6 h' z TI TO a true->IsPair h' TI (.ref i1) (.ref i2)->RL k1 h' i1 l1 (i+1)->RL k2 h' i2 l2 (i+1)->IsPair h' s.heap.objs.size x y->(∀c o,c≠z->c≠i1->c≠i2->s.heap.get? c=some o->h'.get? c=some o)->Q (some (.ref s.heap.objs.size)) {s with heap:=h'}):wpAny (model prog w) A (pyNext (.ref z)) Q E s:=by
 have b:s.TypeIs (.ref z) "zip" := ⟨_,hz,rfl⟩;refine Oa (X2 (WZ (name:=Str.ofString "__next__") b F.slot_zip_next (Va F.slot_zip_next b F.entry_zip_next ?_ (F.args_zip_next_1 _))));show wpAny _ _ (field (.ref z) 2 >>= _) _ _ _;refine Oa (Se hz rfl (x:=.bool false) rfl ?_);refine Oa (Se hz rfl (x:=.ref TI) rfl (Oa (Vb l rfl ?_)));refine Oa (yn hz d λd p k=>?_);simp only[Uk,if_false];have b:∀c o,c≠z->s.heap.get? c=some o->d.get? c=some o:=λc o n e=>k.extBut c o n e
 refine Oa (Oa (Oa (SF ?_)));refine Oa (tB (s:={s with heap:=d}) (m.of λo e=>b _ o D.a3 e) (g.of λo e=>b _ o r.c1 e) h λh r g=>wpAny_pure (wpAny_pure ?_));have d:∀c o,c≠z->c≠i1->s.heap.get? c=some o->h.get? c=some o:=λc o n m e=>g.extBut c o m (b c o n e)
 refine Oa (Oa (SF ?_));refine Oa (tB (s:={s with heap:=h}) (B.of λo e=>d _ o D.a4 (Ne.symm D.b1) e) (q.of λo e=>d _ o j.c1 j.c3 e) t λg3 q b=>wpAny_pure (wpAny_pure ?_));refine wpAny_pure ?_;show wpAny _ _ (newTuple [x,y] >>= _) _ _ _;have j:g3.objs.size=s.heap.objs.size:=by rw[b.1,g.1,k.1]
 have h:∀c o,c≠z->c≠i1->c≠i2->s.heap.get? c=some o->g3.get? c=some o:=λc o n m k e=>b.extBut c o k (d c o n m e)
 refine Oa (wpAny_newTuple (wpAny_pure ⟨_,rfl,wpAny_pure ?_⟩));rw[j];refine u _ ?_ ?_ (r.of λo e=>?_) (q.of λo e=>?_) ?_ λc o n m k e=>?_
 exact Po _ (b.extBut _ _ (Ne.symm D.a4) (g.extBut _ _ (Ne.symm D.a3) p));exact Po _ (h _ _ D.a1 D.a6 D.a7 l);exact Po _ (b.extBut _ _ D.b1 e);exact Po _ e;rw[<- j];exact Rh _ rfl;exact Po _ (h c o n m k e)
def Fw{Q:yan->Shared->Prop}(j:A.handled=none)(D:Ap z TI TO i1 i2)(p:Out z TO i1 i2 l1)(hz:Y6 s.heap z TI TO a f)(d:s.heap.get? a=some oa)(e:IsPair s.heap TI (.ref i1) (.ref i2))(l:RL k1 s.heap i1 l1 i)(g:Q9 k1 s.heap l1 xs)(h:xs[i]?=none)
  (k:∀h',(∀c o,c≠z->c≠i1->s.heap.get? c=some o->h'.get? c=some o)->Q none {s with heap:=h'}):wpAny (model prog w) A (pyNext (.ref z)) Q E s:=by
 have b:s.TypeIs (.ref z) "zip" := ⟨_,hz,rfl⟩;refine Oa (X2 (WZ (name:=Str.ofString "__next__") b F.slot_zip_next (Va F.slot_zip_next b F.entry_zip_next ?_ (F.args_zip_next_1 _))));show wpAny _ _ (field (.ref z) 2 >>= _) _ _ _;refine Oa (Se hz rfl (x:=.bool false) rfl ?_);refine Oa (Se hz rfl (x:=.ref TI) rfl (Oa (Vb e rfl ?_)));refine Oa (yn hz d λb r m=>?_);simp only[Uk,if_false];have d:∀c o,c≠z->s.heap.get? c=some o->b.get? c=some o:=λc o n e=>m.extBut c o n e
 refine Oa (Oa (Oa (SF ?_)));refine Oa (Ck (s:={s with heap:=b}) j (l.of λo e=>d _ o D.a3 e) (g.of λo e=>d _ o p.c1 e) h λj e l b=>?_);obtain⟨e,g,h⟩:=b;exact Oa (Yx (T := "StopIteration") (b:=true) ⟨e,g,h⟩ isSubtype_stop (wpAny_pure (k j λc o n m q=>l c o m (d c o n q))))
def ZL(k1 k2:Bool)(z TI TO i1 i2 l1 l2 S:Addr)(i:Nat)(h:Heap):Prop:=(i=0/\Yh k1 k2 z TI TO i1 i2 l1 l2 0 h)∨((∃a f oa,Y6 h z TI TO a f/\h.get? a=some oa/\a≠S/\a≠z/\a≠TO/\a≠i1/\a≠i2)/\IsPair h TI (.ref i1) (.ref i2)/\RL k1 h i1 l1 i/\RL k2 h i2 l2 i)
def ZL.keep{h':Heap}(x:ZL k1 k2 z TI TO i1 i2 l1 l2 S i h)(k:z≠S)(j:TI≠S)(l:TO≠S)(g:i1≠S)(d:i2≠S)(c:∀b o,b≠S->h.get? b=some o->h'.get? b=some o):ZL k1 k2 z TI TO i1 i2 l1 l2 S i h':=by
 rcases x with⟨e,Z⟩| ⟨⟨a,f,oa,u,t,h,r⟩,p,n,m⟩;obtain⟨q,C,⟨a,b,B⟩,y,x⟩:=Z;exact .inl ⟨e,c _ _ k q,c _ _ j C,⟨a,b,c _ _ l B⟩,y.of λo q=>c _ o g q,x.of λo q=>c _ o d q⟩;exact .inr ⟨⟨a,f,oa,c _ _ k u,c _ _ h t,h,r⟩,c _ _ j p,n.of λo q=>c _ o g q,m.of λo q=>c _ o d q⟩
def ZL.item{x y:Value}{Q:yan->Shared->Prop}(D:Ap z TI TO i1 i2)(C:Out z TO i1 i2 l1)(B:Out z TO i1 i2 l2)(Z:ZL k1 k2 z TI TO i1 i2 l1 l2 S i s.heap)(L:S<s.heap.objs.size)(b:z<s.heap.objs.size/\TO<s.heap.objs.size/\i1<s.heap.objs.size/\i2<s.heap.objs.size)(l:Q9 k1 s.heap l1 xs)(k:Q9 k2 s.heap l2 ys)(t:xs[i]?=some x)(r:ys[i]?=some y)
  (u:∀h',ZL k1 k2 z TI TO i1 i2 l1 l2 S (i+1) h'->IsPair h' s.heap.objs.size x y->(∀c o,c≠z->c≠TO->c≠i1->c≠i2->s.heap.get? c=some o->h'.get? c=some o)->Q (some (.ref s.heap.objs.size)) {s with heap:=h'}):wpAny (model prog w) A (pyNext (.ref z)) Q E s:=by
 obtain⟨Q,O,N,M⟩:=b;rcases Z with⟨rfl,Z⟩| ⟨⟨a,f,oa,J,q,I,p,H,n,m⟩,G,y,d⟩;refine Ip D C B Z l k t r λh' j h _ g e x b=>u h' (.inr ⟨⟨s.heap.objs.size,false,_,j,x,Ud L,Ud Q,Ud O,Ud N,Ud M⟩,h,g,e⟩) x b
 refine Fv D C B J q G y d l k t r λh' j h d g e b=>u h' (.inr ⟨⟨a,true,oa,j,b a oa p n m q,I,p,H,n,m⟩,h,d,g⟩) e λc o h _ g d e=>b c o h g d e
def ZL.stop{Q:yan->Shared->Prop}(e:A.handled=none)(D:Ap z TI TO i1 i2)(h:Out z TO i1 i2 l1)(q:Out z TO i1 i2 l2)(Z:ZL k1 k2 z TI TO i1 i2 l1 l2 S i s.heap)(b:Q9 k1 s.heap l1 xs)(j:Q9 k2 s.heap l2 ys)(d:xs[i]?=none)
  (g:∀h',(∀c o,c≠z->c≠TO->c≠i1->c≠i2->s.heap.get? c=some o->h'.get? c=some o)->Q none {s with heap:=h'}):wpAny (model prog w) A (pyNext (.ref z)) Q E s:=by
 rcases Z with⟨rfl,Z⟩| ⟨⟨a,f,oa,p,m,y,x,u,t,r⟩,l,k,n⟩;exact Ir e D h q Z b j (.inl d) g;exact Fw e D h p m l k b d λh' h=>g h' λc o d _ b _ e=>h c o d b e
end
structure ZT(h:Heap)(xs ys:yao)(B:Addr)(as:yae):Prop where
 nd:as.Nodup
 ab:∀a∈as,B<=a
 pr:∀(j:Nat) (a:Addr),as[j]?=some a->∃x y,xs[j]?=some x/\ys[j]?=some y/\IsPair h a x y
section
variable{prog:Program}{w:World}{A:Around}{E:yaa}{s:Shared}{k1 k2:Bool}{z TI TO i1 i2 l1 l2 S B:Addr}{xs ys:yao}{R:Result->Shared->Prop}
def Nx(j:A.handled=none)(D:Ap z TI TO i1 i2)(t:Out z TO i1 i2 l1)(r:Out z TO i1 i2 l2)(sB:S<B)(e:z<B/\TO<B/\i1<B/\i2<B)(g:z≠S/\TI≠S/\TO≠S/\i1≠S/\i2≠S/\l1≠S/\l2≠S)(hn:xs.size<=sizeLine)(hxy:xs.size=ys.size)(d:Value){h0:Heap}
  (u:∀h' n a c f,(∀b o,b≠S->b≠z->b≠TO->b≠i1->b≠i2->h0.get? b=some o->h'.get? b=some o)->h'.get? S=some {cls:=.type "list", dict:=none,data:=.seq a c,slots:=#[]}->a.toList=f.map Value.ref->f.length=xs.size->ZT h' xs ys B f->R (.ok (.ret d)) {s with heap:=h',toks:=n}) :
  ∀ (k i:Nat) (h:Heap) (n c:Nat) (a:yao) (f:yae),xs.size - i=k->i<=xs.size->ZL k1 k2 z TI TO i1 i2 l1 l2 S i h->Q9 k1 h l1 xs->Q9 k2 h l2 ys->B<=h.objs.size->(∀b o,b≠S->b≠z->b≠TO->b≠i1->b≠i2->h0.get? b=some o->h.get? b=some o) →
   h.get? S=some {cls:=.type "list", dict:=none,data:=.seq a c,slots:=#[]}->a.toList=f.map Value.ref->f.length=i->ZT h xs ys B f->codeAny (model prog w) A (.builtin "list.extend.loop" ⟨[.ref S,.ref z,d],[]⟩) R {s with heap:=h,toks:=n}:=by
 obtain⟨n1,n2,n3,n4,n5,n6,n7⟩:=g;have q:∀{b c:Addr},c<B->B<=b->b≠c:=λhc d=>Ud (QZ hc d)
 obtain⟨z1,Y,U,Q⟩:=e;intro k
 induction k with
 |zero =>
  intro i h n c a f hk hi m M L p kp hS O I T;refine Xd PySem.F.entry_extend_loop ?_;refine Oa (ZL.stop (s:={s with heap:=h,toks:=n}) (A:=A.in1) j D t r m M L (zCR (by lia)) λh' l=>?_);have J:∀b,B<=b->∀o,h.get? b=some o->h'.get? b=some o:=λb d o e=>l b o (q z1 d) (q Y d) (q U d) (q Q d) e
  exact wpAny_pure (u h' n a c f (λb o N H G C u e=>l b o H G C u (kp b o N H G C u e)) (l S _ (Ne.symm n1) (Ne.symm n3) (Ne.symm n4) (Ne.symm n5) hS) O (by lia)
   ⟨T.nd,T.ab,λj b g=>let ⟨x,y,e1,e2,e3⟩:=T.pr j b g;⟨x,y,e1,e2,J b (T.ab b (Ql g)) _ e3⟩⟩)
 |succ k ih =>
  intro i h n c a f hk hi m M L p kp hS O I T;have lt:i<xs.size:=by lia
  have hx:xs[i]?=some xs[i]:=Vq lt;have hy:ys[i]?=some ys[i]:=Vq (by lia);have sz:a.size=i:=by rw[<- RY,O,Of,I]
  refine Xd PySem.F.entry_extend_loop ?_;refine Oa (ZL.item (s:={s with heap:=h,toks:=n}) (S:=S) D t r m (QZ sB p) ⟨QZ z1 p,QZ Y p,QZ U p,QZ Q p⟩ M L hx hy λh' hZ' tp l=>?_);dsimp only at tp l ⊢;have J:=l S _ (Ne.symm n1) (Ne.symm n3) (Ne.symm n4) (Ne.symm n5) hS;have k:∀b o,b≠S->h'.get? b=some o->(h'.update S (Obj.mapSeq (·.push (Value.ref h.objs.size)))).get? b=some o:=λb o m e=>(Vs _ _ (Ne.symm m)).trans e
  have nS:h.objs.size≠S:=Ud (QZ sB p);have m:=k _ _ nS tp;refine Oa (ZF J rfl (wpAny_pure ⟨ZH PySem.F.plain_extend_loop _,ih (i+1) _ n _ (a.push (Value.ref h.objs.size)) (f++[h.objs.size]) (by lia) lt (hZ'.keep n1 n2 n3 n4 n5 k) (M.of λo e=>k _ o n6 (l _ o t.c1 t.c2 t.c3 t.c4 e)) (L.of λo e=>k _ o n7 (l _ o r.c1 r.c2 r.c3 r.c4 e)) ?_
   (λb o N H G C u e=>k b o N (l b o H G C u (kp b o N H G C u e))) (VN _ J rfl) (by rw[Array.toList_push,O,Q1];rfl) (by rw[QX,I];rfl) ⟨?_,λb d=>?_,λj b g=>?_⟩⟩) (by rw[sz];lia) (by rw[Array.size_push,sz];lia))
  exact UU (Yu p (OY m));refine zC6.mpr ⟨T.nd,by simp,λb d c hc=>?_⟩;obtain⟨j,g⟩:=List.getElem?_of_mem d;obtain⟨_,_,_,_,e⟩:=T.pr j b g;rw[QY.mp hc];exact PY (OY e);rcases Qn.mp d with d|d;exact T.ab b d;rw[QY.mp d];exact p;rcases Yw j f.length with c|c|c;rw[UO c]at g;obtain⟨x,y,e1,e2,e3⟩:=T.pr j b g;have a:=T.ab b (Ql g);exact⟨x,y,e1,e2,k b _ (q sB a) (l b _ (q z1 a) (q Y a) (q U a) (q Q a) e3)⟩;subst c;have e:h.objs.size=b:=by simpa using g
  subst e;exact⟨xs[i],ys[i],by rw[I];exact hx,by rw[I];exact hy,m⟩;rw[W5 (by rw[QX,zCZ];lia)]at g;cases g
end
def C2:typeLookup (.type "zip") "__len__" = pure none:=by kernel_rfl
def Ak:typeLookup (.type "zip") "__length_hint__" = pure none:=by kernel_rfl
section
variable{prog:Program}{w:World}{A:Around}{E:yaa}{s:Shared}{k1 k2:Bool}{z TI TO i1 i2 l1 l2 S B:Addr}{xs ys:yao}
def RL.lt(x:RL k h it a i):it<h.objs.size:=let ⟨_,e,_⟩:=x.obj;OY e
def Q9.lt{xs:yao}(x:Q9 k h a xs):a<h.objs.size:=let ⟨_,_,e,_⟩:=x.obj;OY e
def Ko{R:Result->Shared->Prop}(u:A.handled=none)(D:Ap z TI TO i1 i2)(G:Out z TO i1 i2 l1)(C:Out z TO i1 i2 l2)(Z:Yh k1 k2 z TI TO i1 i2 l1 l2 0 s.heap)(r:Q9 k1 s.heap l1 xs)(q:Q9 k2 s.heap l2 ys)(t:xs.size<=sizeLine)(h:xs.size=ys.size)(p:S<B)(H:B<=s.heap.objs.size)(n:z<B/\TO<B/\i1<B/\i2<B)
  (a:z≠S/\TI≠S/\TO≠S/\i1≠S/\i2≠S/\l1≠S/\l2≠S) (y:Nat) (k:s.heap.get? S=some {cls:=.type "list", data:=.seq #[] y})
  (x:∀h' m d c j,(∀b o,b≠S->b≠z->b≠TO->b≠i1->b≠i2->s.heap.get? b=some o->h'.get? b=some o)->h'.get? S=some {cls:=.type "list", dict:=none,data:=.seq d c,slots:=#[]}->d.toList=j.map Value.ref->j.length=xs.size->ZT h' xs ys B j->R (.ok (.ret .none)) {s with heap:=h',toks:=m}) :
  wpAny (model prog w) A.in1 (Builtin.List.listExtendWith (.ref S) (.ref z) .none) (λi g=>match i with|.done f=>R (.ok f) g|.again l=>l.quiet=true/\codeAny (model prog w) A l R g) (λe g=>R (.error e) g) s:=by
 have hz:=Z.z;have c:s.TypeIs (.ref z) "zip" := ⟨_,hz,rfl⟩;refine Oa (wpAny_typeOf (T := "zip") c ?_);have d:Builtin.List.listSameRef (.ref S) (.ref z)=false:=by simp[Builtin.List.listSameRef,Ne.symm a.1]
 simp only[d,show(Value.type "zip" == Value.type "list")=false by decide,show(Value.type "zip" == Value.type "tuple")=false by decide,Bool.or_false,Uk,if_false];refine Oa (wpAny_pyIter_zip hz (Oa (SF ?_)));refine Oa (ZE c C2 ?_);refine Oa (ZE c Ak (wpAny_pure ?_));refine Oa (wpAny_rule (Oa ?_));have c:=VN (Obj.mapSeq (·.push Value.none)) k rfl;refine Oa (ZF k rfl (ZF (hz:=by seq_fits) c rfl (wpAny_pure ⟨ZH PySem.F.plain_extend_loop _,?_⟩)));have g3:=VN (Obj.mapSeq (·.pop)) c rfl;have c:∀b o,b≠S->s.heap.get? b=some o->((s.heap.update S (Obj.mapSeq (·.push Value.none))).update S (Obj.mapSeq (·.pop))).get? b=some o:=λb o m e=>(Vs _ _ (Ne.symm m)).trans ((Vs _ _ (Ne.symm m)).trans e)
 refine Nx (s:=s) (h0:=s.heap) u D G C p n a t h .none x xs.size 0 _ _ _ _ [] (Nat.sub_zero _) (QS _) (ZL.keep (.inl ⟨rfl,Z⟩) a.1 a.2.1 a.2.2.1 a.2.2.2.1 a.2.2.2.2.1 c) (r.of λo e=>c _ o a.2.2.2.2.2.1 e) (q.of λo e=>c _ o a.2.2.2.2.2.2 e) ?_ (λb o m _ _ _ _ e=>c b o m e) g3 rfl rfl ⟨List.nodup_nil,λ_ h=>(by cases h),λj a h=>by simp at h⟩
 simp_all
def Nw{Q:yaa}(N:A.handled=none)(D:Ap z TI TO i1 i2)(U:Out z TO i1 i2 l1)(T:Out z TO i1 i2 l2)(Z:Yh k1 k2 z TI TO i1 i2 l1 l2 0 s.heap)(G:Q9 k1 s.heap l1 xs)(C:Q9 k2 s.heap l2 ys)(M:xs.size<=sizeLine)(l:xs.size=ys.size)
  (O:∀h' j d c g,(∀b o,b≠z->b≠TO->b≠i1->b≠i2->s.heap.get? b=some o->h'.get? b=some o)->h'.get? s.heap.objs.size=some {cls:=.type "list", dict:=none,data:=.seq d c,slots:=#[]}->d.toList=g.map Value.ref->g.length=xs.size->ZT h' xs ys (s.heap.objs.size+1) g->Q (.ref s.heap.objs.size) {s with heap:=h',toks:=j}) :
  wpAny (model prog w) A (call (.type "list") [.ref z]) Q E s:=by
 refine callType_codes (Q₁:=λa e=>a=.ref s.heap.objs.size/\e={s with heap:=s.heap.push {cls:=.type "list", data:=.seq #[]} }) PySem.F.called_list (PySem.F.typeCall_list_1 _) PySem.F.entry_list_init (code_list_new _ ⟨rfl,rfl⟩) λa e a=>?_
 obtain⟨rfl,rfl⟩:=a;have i:(s.heap.push {cls:=.type "list", data:=.seq #[]}).get? s.heap.objs.size=some {cls:=.type "list", data:=.seq #[]}:=Rh _ rfl;have L:∀b o,s.heap.get? b=some o->(s.heap.push {cls:=.type "list", data:=.seq #[]}).get? b=some o:=λb o e=>Po _ e
 have a:z<s.heap.objs.size/\TI<s.heap.objs.size/\TO<s.heap.objs.size/\i1<s.heap.objs.size/\i2<s.heap.objs.size/\l1<s.heap.objs.size/\l2<s.heap.objs.size:=by obtain⟨k,y,⟨_,_,x⟩,p,n⟩:=Z;exact⟨OY k,OY y,OY x,p.lt,n.lt,G.lt,C.lt⟩
 obtain⟨u,J,t,r,q,I,H⟩:=a;have a:∀{b:Addr},b<s.heap.objs.size->b<s.heap.objs.size+1:=λh=>XU h
 refine⟨⟨_,i,rfl⟩,PySem.F.args_list_init_2 _ _,?_⟩;refine Oa ?_;refine Oa (Vb i rfl (wpAny_pure ?_));have h:=VN (Obj.mapSeq (λ_=>(#[]:yao))) i rfl;have f:∀b o,b≠s.heap.objs.size->s.heap.get? b=some o->((s.heap.push {cls:=.type "list", data:=.seq #[]}).update s.heap.objs.size (Obj.mapSeq (λ_=>(#[]:yao)))).get? b=some o:=λb o m e=>(Vs _ _ (Ne.symm m)).trans (L b o e)
 refine Oa (ZF i rfl (Oa (wpAny_letGo ?_)));refine Ko (A:=A.in1) (B:=s.heap.objs.size+1) (k1:=k1) (k2:=k2) (TI:=TI) (TO:=TO) (l1:=l1) (l2:=l2) (xs:=xs) (ys:=ys) N D U T ?_ (G.of λo e=>f _ o (PY I) e) (C.of λo e=>f _ o (PY H) e) M l (VP _) ?_ ⟨a u,a t,a r,a q⟩ ⟨PY u,PY J,PY t,PY r,PY q,PY I,PY H⟩ _ h λh' j d c g h l m i T=>?_
 obtain⟨k,y,⟨a,b,x⟩,p,n⟩:=Z;exact⟨f _ _ (PY u) k,f _ _ (PY J) y,⟨a,b,f _ _ (PY t) x⟩,p.of λo e=>f _ o (PY r) e,n.of λo e=>f _ o (PY q) e⟩
 simp_all
 exact⟨rfl,O h' j d c g (λb o g d c a e=>h b o (PY (OY e)) g d c a (f b o (PY (OY e)) e)) l m i T⟩
end
end PZ
namespace PD
open PySem PySem.Spec PyProof.Rows L2 PZ
def eQ(H:Hp)(n:Addr)(N:List (Addr×HO)):Hp:=λb=>if b<n then H b else(N.find? λp=>decide (p.1=b)).map (·.2)
def lT{n b:Addr}(h:b<n):eQ H n N b=H b:=Og h
theorem AN{b:Addr}{u:HO}:∀{N:List (Addr×HO)},(N.map (·.1)).Nodup->(b,u)∈N->(N.find? λp=>decide (p.1=b))=some (b,u)
 |[],_,m=>by cases m
 |p::r,a,m=>by
  rw[Pj,Vw]at a;rw[List.find?_cons];rcases OK.mp m with e|m;rw[<- e,Wx rfl];rw[decide_eq_false λe=>a.1 (by rw[e];exact OZ.mpr ⟨_,m,rfl⟩)];exact AN a.2 m
def AW{n b:Addr}{u:HO}{N:List (Addr×HO)}(a:(N.map (·.1)).Nodup)(h:n<=b)(m:(b,u)∈N):eQ H n N b=some u:=by unfold eQ;rw[Oc (by simp_all),AN a m];rfl
def yz{n b:Addr}{u:HO}(h:¬b<n)(e:eQ H n N b=some u):(b,u)∈N:=by
 unfold eQ at e;rw[Oc h]at e;obtain⟨p,a,rfl⟩:=U7.mp e;have z:p.1=b:=by simpa using List.find?_some a
 rw[<- z];exact List.mem_of_find?_eq_some a
section
variable{X:Cx}{pins:yab}{σ:St}{H:Hp}{s:Shared}
theorem Inv.eQ{h':Heap}{t':Nat}{N:List (Addr×HO)}(I:Inv X pins σ H s)(k:∀b u,s.heap.get? b=some u->h'.get? b=some u)(d:∀b u,(b,u)∈N->bD X.prog X.w (PD.eQ H s.heap.objs.size N) h' b u) :
  Inv X pins σ (PD.eQ H s.heap.objs.size N) {s with heap:=h',toks:=t'}:=by
 have lt:∀{b u},H b=some u->PD.eQ H s.heap.objs.size N b=some u:=fun {b u} e=>by rw[lT (I.OB.lt e)];exact e
 refine L2.Inv.un I ⟨λb a q _ _ _=>k b a q,λb a q _ _ _=>⟨a.slots,k b a q⟩,λb a q n _=>by rw[lT (OY q)];exact n,λb a q _=>⟨a,k b a q⟩,λb a q=>lt q,λb o u q=>lt q,λb f q=>⟨#[],by rw[lt q];simp⟩⟩ λb u e=>?_
 by_cases h:b<s.heap.objs.size;rw[lT h]at e;exact(I.OB b u e).RH (λc v _ q=>k c v q) (λc q=>lt q) λc a q=>lt q
 exact d b u (yz h e)
def E2{N:List (Addr×HO)}(I:Inv X pins σ H s)(f:∀b u,(b,u)∈N->∀ps,u ≠ .TC ps):ar H (PD.eQ H s.heap.objs.size N):=by
 have d:∀{b u},H b=some u->PD.eQ H s.heap.objs.size N b=some u:=fun {b u} e=>by rw[lT (I.OB.lt e)];exact e
 refine⟨λb o q _=>d q,λb ps q=>⟨#[],by rw[d q];simp⟩,λT P ps e=>?_⟩;by_cases h:P<s.heap.objs.size;rw[lT h]at e;obtain⟨a,b⟩:=T P ps e;exact⟨a,λa g q=>let ⟨c,e1,e2⟩:=b a g q;⟨c,e1,d e2⟩⟩;exact absurd rfl (f P _ (yz h e) ps)
end
theorem vX:∀a:yae,Vals (a.map V.ref) (a.map Value.ref)
 |[]=>.nil
 |_::r=>.cons rfl (vX r)
theorem ah.of_get{K:yac}{P:yak}{H:Hp}:∀{ds:yas} {vs:yar},ds.length=vs.length->(∀(j:Nat) d v,ds[j]?=some d->vs[j]?=some v->Den K P H d v)->ah K P H ds vs
 |[],[],_,_=>ah.nil
 |d::ds,v::vs,h,k=>ah.cons (k 0 d v rfl rfl) (ah.of_get (Nat.succ.inj h) λj d a c b=>k (j+1) d a c b)
section
variable{X:Cx}{pos:Pos}
def xH(b:DA):DA:=λa R=>b a λg=>∃d c f e a b,g=[d,c]/\gP d=some (f,a)/\gP c=some (e,b)/\a.length=b.length/\a.length<=1000/\R (List.zipWith (λx y=>D.tup [x,y]) a b)
def B3 {a b:Expr} {ta:DA} {p A L:Pos} (hc:X.calm=true) (hg:Gl X "list") (hm:X.mg "list" = none) (Y4:Gl X "zip") (Y5:X.mg "zip" = none) (ha:SU X [a,b] ta)
  (Qx:starEach [.Call (.Name "zip" A) [a,b] [] L] X.env=(false,eval (.Call (.Name "zip" A) [a,b] [] L) X.env)::starEach [] X.env:=by rfl) (PH:(backTo pos (starEach [] X.env)).any (·.1)=false:=by rfl)
  (hs:starEach [a,b] X.env=(false,eval a X.env)::starEach [b] X.env:=by rfl) (Xt:(backTo L (starEach [b] X.env)).any (·.1)=false:=by rfl) :
  R3 X (.Call (.Name "list" p) [.Call (.Name "zip" A) [a,b] [] L] [] pos) (xH ta):=by
 intro w s σ H W ρ Q I r h;refine Uo (cc I hg hm boot_list ?_ (by decide) (by decide));refine PyProof.Rows.callWith_type1 ?_ Qx PH;rw[Qx];show wpAny _ _ (spliced ((false,eval (.Call (.Name "zip" A) [a,b] [] L) X.env)::backTo pos (starEach [] X.env))) _ _ s;refine Calls.spliced_cons ?_;refine Call_ (cc I Y4 Y5 boot_zip (PyProof.Rows.callWith_type1 (Oj (ha L w s σ H W ρ _ I r h) λus f Ol=>?_) hs Xt));obtain⟨vs,B,ds,M,r1,e1,hd,q1⟩:=Ol;obtain⟨d1,d2,k1,k2,xs,ys,e,g1,g2,lxy,l1000,q⟩:=q1;subst e;obtain⟨v1,v2,rfl,Uy,hd2⟩:=fN hd;obtain⟨l1,J,e2,sq1,ZV,_⟩:=Uy.seq g1;obtain⟨l2,G,e3,sq2,ZW,_⟩:=hd2.seq g2;subst e2 e3;cases r1 with
 |cons ra rr =>
  cases rr with
  |cons rb rr =>
   cases rr;cases ra;cases rb;obtain⟨us1,rv1,p1⟩:=sq1.list M;obtain⟨us2,rv2,A⟩:=sq2.list M;have n1:=ZV.len;have n2:=ZW.len;have m1:=rv1.length;have m2:=rv2.length;refine Im p1 A λg Z kp=>?_
   refine wpAny_pure ?_;have Dz:Ap (f.heap.objs.size+4) (f.heap.objs.size+2) (f.heap.objs.size+3) f.heap.objs.size (f.heap.objs.size+1):=by constructor<;>simp
   have E:∀{c:Addr} (j:Nat),c<f.heap.objs.size->c≠f.heap.objs.size+j:=λj h=>PY (QZ h (XX _ j))
   have O:∀{l:Addr},l<f.heap.objs.size->Out (f.heap.objs.size+4) (f.heap.objs.size+3) f.heap.objs.size (f.heap.objs.size+1) l:=λh=>⟨E 4 h,E 3 h,PY h,E 1 h⟩
   refine Nw (s:={f with heap:=g}) (M.ok.hd hc) Dz (O p1.lt) (O A.lt) Z (p1.of λo e=>kp _ o e) (A.of λo e=>kp _ o e) (by rw[RF,sizeLine_eq];lia) (by rw[RF,RF];lia) λh2 tk acc c k Rt hD ea la T=>?_
   have K:∀b o,f.heap.get? b=some o->h2.get? b=some o:=λb o e=>Rt b o (E 4 (OY e)) (E 3 (OY e)) (PY (OY e)) (E 1 (OY e)) (kp b o e)
   have zl:f.heap.objs.size<g.objs.size:=Yu (XX _ 4) (OY Z.z);dsimp only at hD T;rw[RF]at la;have nD:g.objs.size∉k:=λz=>absurd (T.ab _ z) (Nat.not_le.mpr (VP _))
   let N:List (Addr×HO):=(g.objs.size,.lst (k.map V.ref))::(k.zip (J.zip G)).map λt=>(t.1,.tup [t.2.1,t.2.2])
   have hN:N.map (·.1)=g.objs.size::k:=by show g.objs.size::((k.zip (J.zip G)).map λt=>(t.1,HO.tup [t.2.1,t.2.2])).map (·.1)=_;rw[Pp];congr 1;exact Zy (by rw[zDO];lia)
   have ndN:(N.map (·.1)).Nodup:=by rw[hN];exact Vw.mpr ⟨nD,T.nd⟩
   have get:∀{j:Nat} {b:Addr},k[j]?=some b->∃Y U x y,J[j]?=some Y/\G[j]?=some U/\RelV Y x/\RelV U y/\IsPair h2 b x y/\(b,HO.tup [Y,U])∈N:=fun {j b} C=>by obtain⟨lj,_⟩:=QH.mp C;obtain⟨x,y,hx,hy,hp⟩:=T.pr j b C;have g1:J[j]?=some (J[j]'(by lia)):=O2 _;have g2:G[j]?=some (G[j]'(by lia)):=O2 _;obtain⟨x',ex,rx⟩:=rv1.get g1;obtain⟨y',ey,ry⟩:=rv2.get g2;rw[List.getElem?_toArray,ex]at hx;rw[List.getElem?_toArray,ey]at hy;cases hx;cases hy;refine⟨_,_,x,y,g1,g2,rx,ry,hp,Pz _ (OZ.mpr ⟨(b,J[j]'(by lia),G[j]'(by lia)),?_,rfl⟩)⟩;refine Ql (i:=j) ?_;rw[zCl];exact⟨C,by rw[zCl];exact⟨g1,g2⟩⟩
   have ok:∀b u,(b,u)∈N->bD X.prog X.w (PD.eQ B f.heap.objs.size N) h2 b u:=λb u m=>by
    rcases OK.mp m with e|m;cases e;exact⟨by rw[Of,sizeLine_eq];lia,k.map Value.ref,c,vX k,by rw[<- ea];simpa using hD⟩;obtain⟨t,tm,e⟩:=OZ.mp m;cases e;obtain⟨j,C⟩:=List.getElem?_of_mem tm;rw[zCl]at C;obtain⟨Y,U,x,y,e1,e2,rx,ry,hp,_⟩:=get C.1;have d:=C.2;rw[zCl,e1,e2]at d;obtain⟨i,n⟩:=d;cases i;cases n;exact⟨by rw[sizeLine_eq];show 2<=16777216;decide,[x,y],.cons rx (.cons ry .nil),⟨_,hp,rfl,_,rfl⟩⟩
   have I2:Inv X w σ (PD.eQ B f.heap.objs.size N) {f with heap:=h2,toks:=tk}:=Inv.eQ M K ok;have sm:ar B (PD.eQ B f.heap.objs.size N):=E2 M λb u m ps e=>by
    rcases OK.mp m with z|m;cases z;cases e;obtain⟨t,_,z⟩:=OZ.mp m;cases z;cases e
   have eD:PD.eQ B f.heap.objs.size N g.objs.size=some (.lst (k.map V.ref)):=AW ndN (UU zl) RB;have fD:B g.objs.size=none:=M.OB.fresh (UU zl);refine⟨g.objs.size,_,_,_,rfl,I2,e1.trans sm,e1.free fD,Inv.YY I2 eD,eD,ah.of_get (by rw[List.length_zipWith,Of];lia) λj d v hdj hvj=>?_,q⟩;rw[PO]at hvj;obtain⟨b,hb,rfl⟩:=U7.mp hvj;obtain⟨Y,U,x,y,e1',e2',rx,ry,hp,mN⟩:=get hb;obtain⟨dx,gx,SM⟩:=ZV.bA e1';obtain⟨dy,gy,Uw⟩:=ZW.bA e2';rw[List.getElem?_zipWith,gx,gy]at hdj;cases hdj;have hbn:f.heap.objs.size<=b:=PL (UU (XU zl)) (T.ab b (Ql hb));have P':∀{d:D} {v:V},Den X.K W.bad B d v->Den X.K (λt b=>W.bad t b∨b=g.objs.size) (PD.eQ B f.heap.objs.size N) d v:=λhq=>Den.map (λ_ _ z=>OT.same sm z) (λt a' vs' np z=>⟨λz'=>z'.elim np λz'=>by
    subst z';rcases z.1 with(i|⟨o,i⟩)|⟨o,Oe,n,i,_⟩;rw[fD]at i;cases i;rw[fD]at i;cases i;exact absurd (Inv.YY I2 eD) (by rw[i];simp),z.same sm⟩) (λa' o' n z=>sm.kp a' o' z n.nt) _ _ hq
   exact Den.tup (OT.of (AW ndN hbn mN)) (ah.cons (P' SM) (ah.one (P' Uw)))
end
open PySem PySem.Spec PyProof.Rows L2
section
variable{X:Cx}{a b c:Expr}{ta tb tc:DE}{pos:Pos}
def Gn(n:P8 X (compareOp op) r)(G:P8 X (compareOp op') r')(d:OD X a ta)(k:OD X b tb)(C:OD X c tc)(q:lastMarks [op,op'] [b,c]=false:=by with_unfolding_all rfl):TH X (.Compare a [op,op'] [b,c] pos) (dB (Dy r r' ta tb tc)):=by
 intro e s f H W o Q I l h;refine isTrue_chain (Oj (d e s f H W o _ I l h) λv g ⟨d,r,x,p,h,j,m,i⟩=>test_link (Oj (k e g f r W o _ p (l.same j) i) λu g ⟨r,w,y,p,s,i,t,k⟩=>
  Oj (n e g f w W x y d r v u _ p ((l.same j).same i).tracked h s (m.same i) t k) λd B ⟨A,x,z,w,g,n,p,k,h,m⟩=>?_)) q
 subst h;have q:=p.WI;subst q;cases g;refine Zw ?_;have g:=((l.same j).same i).same n;cases k with
 |false =>
  obtain⟨k,h,m⟩:=m;cases h;exact ite_ff ⟨x,w,j.trans (i.trans n),m⟩
 |true =>
  refine ite_tt (test_last (Oj (C e B f x W o _ w g m) λm w ⟨o,I,E,H,x,l,C,B⟩=>Oj (G e w f I W y E r o u m _ H (g.same l).tracked s x (t.same (n.trans l)) C B) λd J g=>?_));obtain⟨A,o,z,m,d,f,p,k,h,e⟩:=g;subst h;have q:=p.WI;subst q;cases d;exact Zw ⟨o,m,j.trans (i.trans (n.trans (l.trans f))),e⟩
end
section
variable{X:Cx}{pos:Pos}
theorem AZ(f:Nat->Int):∀n,((List.range n).map f).Nodup->firstMet f n=(List.range n).map f
 |0,_=>rfl
 |n+1,h=>by
  rw[List.range_succ,Q1,zC6]at h;rw[firstMet_succ,AZ f n h.1,List.range_succ,Q1];refine Oc λz=>?_
  obtain⟨x,a,e⟩:=List.any_eq_true.mp z;exact h.2.2 x a (f n) (by simp) (by simpa using e)
theorem vH:∀{ns:yaf} {a:yad},Vals (ns.map V.int) a->IntsAre a ns
 |[],a,r=>by rw[Vy]at r;cases r;exact .nil
 |n::ns,a,r=>by
  rw[Pj]at r;cases r with
  |cons h t =>
   obtain⟨b,rfl⟩:=h;exact .cons _ _ (vH t)
def Ay(te:DE):DE:=λa Q=>te a λd=>∃(t:Bool) (a:yaf),d=.lst t (a.map D.int)/\a.Nodup/\a.length<=900/\Q (.int (a.length:Int))
def DQ {p b:Pos} (w:X.calm=true) (j:Gl X "len") (i:X.mg "len" = none) (m:Gl X "set") (l:X.mg "set" = none) (k:OD X e te)
  (d:starEach [.Call (.Name "set" b) [e] [] PR] X.env=(false,eval (.Call (.Name "set" b) [e] [] PR) X.env)::starEach [] X.env:=by rfl) (o:(backTo pos (starEach [] X.env)).any (·.1)=false:=by rfl)
  (c:starEach [e] X.env=(false,eval e X.env)::starEach [] X.env:=by rfl) (n:(backTo PR (starEach [] X.env)).any (·.1)=false:=by rfl) :
  OD X (.Call (.Name "len" p) [.Call (.Name "set" b) [e] [] PR] [] pos) (Ay te):=by
 intro a s g H W f Q I r h;refine Uo (cc I j i Rr ?_ (by decide) (by decide));refine PyProof.Rows.callWith_builtin1 ?_ d o;rw[d];show wpAny _ _ (spliced ((false,eval (.Call (.Name "set" b) [e] [] PR) X.env)::backTo pos (starEach [] X.env))) _ _ s;refine Calls.spliced_cons ?_;refine Uo (cc I m l boot_set ?_ (by decide) (by decide));refine PyProof.Rows.callWith_type1 ?_ c n;rw[c];show wpAny _ _ (spliced ((false,eval e X.env)::backTo PR (starEach [] X.env))) _ _ s;refine Calls.spliced_cons (Oj (k a s g H W f _ I r h) λu h j=>?_);obtain⟨v,m,d,f,b,p,i,t,ns,c,n,lk,q⟩:=j;subst c;obtain⟨l,x,j,_,c,d⟩:=i.Q3;subst j;cases b;rw[bP d]at c;refine wpAny_pure ?_;obtain⟨k,b,l,_⟩:=f.list c;have o:=f.ok.hd w;have c:k.length=ns.length:=by rw[<- b.length,Of]
 have j:(List.range ns.length).map (λi=>ns.getD i 0)=ns:=List.ext_getElem? λi=>by by_cases d:i<ns.length;simp[d];simp[d,WA.mp d]
 have fm:firstMet (λi=>ns.getD i 0) k.toArray.size=ns:=by rw[RF,c,AZ _ _ (by rw[j];exact n),j]
 refine PySem.call_set_list o l.isList (ns:=ns) (by simpa using vH b) (by rw[RF];unfold scanBound;lia) λd c S i=>?_
 rw[fm]at S;have j:L2.Inv X a g m {h with heap:=d,toks:=c}:=f.kept λb u e=>i b u (OY e) e
 refine wpAny_pure ?_;obtain⟨o,e,a,y,z,t,b,_,_,f,g⟩:=S.objOf;refine call_len_set (s:={h with heap:=d,toks:=c}) e a b g (by lia) ?_;exact⟨.int (ns.length:Int),m,_,j.tok _,⟨_,by rw[f]⟩,p,Den.int _,q⟩
def xG(te:DE):DA:=λa R=>te a λd=>∃n:Nat,d=.int (n:Int)/\n<=900/\R (((List.range n).map λ(k:Nat)=>(k:Int)).map D.int)
def B2 {p a:Pos} (l:X.calm=true) (j:Gl X "list") (g:X.mg "list" = none) (n:Gl X "range") (m:X.mg "range" = none) (k:OD X e te)
  (c:starEach [.Call (.Name "range" a) [e] [] PR] X.env=(false,eval (.Call (.Name "range" a) [e] [] PR) X.env)::starEach [] X.env:=by rfl) (q:(backTo pos (starEach [] X.env)).any (·.1)=false:=by rfl)
  (b:starEach [e] X.env=(false,eval e X.env)::starEach [] X.env:=by rfl) (o:(backTo PR (starEach [] X.env)).any (·.1)=false:=by rfl) :
  R3 X (.Call (.Name "list" p) [.Call (.Name "range" a) [e] [] PR] [] pos) (xG te):=by
 intro f s i H W d Q I r h;refine Uo (cc I j g boot_list ?_ (by decide) (by decide));refine PyProof.Rows.callWith_type1 ?_ c q;rw[c];show wpAny _ _ (spliced ((false,eval (.Call (.Name "range" a) [e] [] PR) X.env)::backTo pos (starEach [] X.env))) _ _ s;refine Calls.spliced_cons ?_;refine Uo (cc I n m boot_range ?_ (by decide) (by decide));refine PyProof.Rows.callWith_type1 ?_ b o;rw[b];show wpAny _ _ (spliced ((false,eval e X.env)::backTo PR (starEach [] X.env))) _ _ s;refine Calls.spliced_cons (Oj (k f s i H W d _ I r h) λu g j=>?_);obtain⟨v,r,d,h,a,p,b,n,c,A,q⟩:=j;subst c;cases b.Pk;obtain⟨j,rfl⟩:=a;refine wpAny_pure (call_range_1 (wpAny_pure ?_));obtain⟨sm,z⟩:=vV (a:=0) (b:=(n:Int)) (c:=1) (by decide) (by decide) (by lia) (by lia) (by decide) (by decide);have a:Builtin.Range.rangeSize 0 (n:Int) 1=(n:Nat):=by unfold Builtin.Range.rangeSize;simp;lia
 refine call_list_range (n:=n) (h.ok.hd l) (IsRange.new ..) sm a (by lia) λm c a x k w d=>?_
 have y:∀b o,g.heap.get? b=some o->m.get? b=some o:=λb o e=>k b o (Po _ e)
 have l:g.heap.objs.size<=(g.heap.push {cls:=.type "range", data:=.fields #[.int 0 g.toks,.int (n:Int) j,.int 1 (g.toks+1)]}).objs.size:=by rw[Xf];exact Nat.le_succ _
 have b:r _=none:=h.OB.fresh l;have u:IntsAre a.toList ((List.range n).map λ(k:Nat)=>(k:Int)):=SW.qR (by simp[d.1]) λj v s=>by
  have o:a[j]?=some v:=by simpa using s
  have s:j<n:=by rw[<- d.1];exact(WX.mp o).1
  obtain⟨t,e⟩:=d.2 j v o;exact⟨(j:Int),t,by simp[s],by rw[e];simp⟩
 have d:L2.Inv X f i (L2.upd r _ (.lst (((List.range n).map λ(k:Nat)=>(k:Int)).map V.int))) {g with heap:=m,toks:=c} :=
  h.laid y l ⟨by rw[sizeLine_eq];simp;lia,a.toList,x,gA u,by simpa using w⟩
 have a:=Inv.YY d aD;exact⟨_,_,_,_,rfl,d,p.trans (ar.upd b),p.free b,a,aD,ah.apart b a (Cd _),q⟩
def KT1 (K:yac) (b:Addr) (ns:yaf):Prop:=∃(d:Option Addr) (a:yao) (n:Nat) (c:Array (yan)),K.lookup b=some ⟨.type "tuple", d,.seq a n,c⟩/\a.size<=9/\Vals (ns.map V.int) a.toList
def KTs(K:yac):yae->List (yaf)->Prop
 |[],a=>a=[]
 |b::c,a=>∃n r,a=n::r/\KT1 K b n/\KTs K c r
def KTT (K:yac) (f:yam) (x:Str) (g:List (yaf)):Prop:=∃(a:Addr) (c:yae) (e:Option Addr) (b:yao) (n:Nat) (d:Array (yan)),f x=some (.ref a)/\K.lookup a=some ⟨.type "tuple", e,.seq b n,d⟩/\b.size<=9/\b.toList=c.map Value.ref/\KTs K c g
theorem p9{K:yac}{P:yak}{H:Hp}:∀{bs:yae} {a:List (yaf)},KTs K bs a->Vals (bs.map V.ref) (bs.map Value.ref)/\ah K P H (a.map tupI) (bs.map V.ref)
 |[],_,h=>by cases(show _=[]from h);exact⟨.nil,rfl⟩
 |b::bs,_,h=>by obtain⟨n,r,rfl,⟨_,a,_,_,e,z,v⟩,h⟩:=h;exact⟨.cons rfl (p9 (P:=P) (H:=H) h).1,ah.cons (Den.tup (.inr ⟨_,a,_,e,rfl,rfl,PL z (by rw[sizeLine_eq];lia),v⟩) (Cd _)) (p9 h).2⟩
def Gh {x:Str} {a:List (yaf)} (h:KTT X.K X.mg x a) (c:Gl X x:=by rfl) (d:(x==("__debug__" : Str))=false:=by decide):OD X (.Name x pos) (dC (.tup (a.map tupI))):=by obtain⟨a,l,k,i,n,j,b,e,z,g,f⟩:=h;exact OD.of (pV (v:=.ref a) c b rfl d) λ_ H W _ _ _ q=>⟨ar.refl H,_,Den.tup (.inr ⟨_,i,n,e,rfl,rfl,PL z (by rw[sizeLine_eq];lia),by rw[g];exact(p9 (P:=W.bad) (H:=H) f).1⟩) (p9 f).2,q⟩
end
section
variable{X:Cx}
def gT(t:Bool)(g:yaf×yaf):D:=.tup [.lst t (g.1.map D.int),.lst t (g.2.map D.int)]
def gD(t:Bool)(b:List (yaf×yaf))(a:D):D:=.tup [.lst t (b.map (gT t)),a]
def Kk(h:aB pl=pl):aB (gD true a pl)=gD false a pl:=by
 have e:aU (a.map (gT true))=a.map (gT false):=by
  induction a with
  |nil=>rfl
  |cons g a ih=>rw[Pj,aW,ih];simp only[gT,aB,aW,bC,cn,Pj]
 simp only[gD,aB,aW,bC,h,e]
def Fd{y:Str}{pos:Pos}(i:Nat)(k:X.N.Nodup)(d:OD X e te)(g:X.N[i]?=some y:=by rfl)(f:Loc X.env.scope y:=by first|exact Or.inl rfl|exact Or.inr rfl)(hs:swapsWith e (some (.Name y py)) pos.line X.env=pure false:=by rfl)
  (j:X.fn y=true∨X.env.scope.names.lookup y=some .local:=by first|exact .inl rfl|exact .inr rfl|assumption):PSV X (.Assign [.Name y py] e pos) i te:=by
 intro a s b H W c Q I r h;refine zC8 (Oj (d a s b H W c Q I r h) λu m e=>?_) hs;obtain⟨v,i,d,h,a,c,b,q⟩:=e;exact cN h k g f a (λl a=>⟨rfl,v,i,d,a,c,b,q⟩) j
def Bz(d:D):Prop:=∀(K:yac) (P:yak) (H:Hp) (v:V),Den K P H d v->Den K (λt a=>P t a∨P true a) H d v
def FC(d:D):Prop:=∀(K:yac) (P:yak) (H:Hp) (v:V) (Z:Addr->Prop),(∀a o,H a=some o->K.lookup a=none) →
 (∀a,Z a->∃b,H a=some (.lst b)/\∀u r,b=u::r->(∃i,u=.int i)∨∃ t x b,u=.ref t/\OT K H t (.ref x::b))->Den K P H d v->Den K (λt a=>P t a∨Z a) H d v
def FQ{d:D}(h:kc d=true):Bz d:=λ_ _ _ v a=>Den.Vj d v h a
def nR{ds:yas}(h:di ds=true):Bz (.lst true ds):=λ_ _ _ v b=>by obtain⟨a,c,rfl,n,q,a⟩:=b.Rf;exact Den.lst (λz=>n (z.elim id id)) q (ah.Vj _ _ h a)
def yN(ns:yaf):di (ns.map D.int)=true:=by
 induction ns with
 |nil=>rfl
 |cons n ns ih=>exact ih
def De{e:List (yaf×yaf)}{d:D}(h:kc d=true):Bz (gD true e d):=λK P H v g=>by
 obtain⟨a,m,rfl,q,c⟩:=g.Qq;obtain⟨x,y,rfl,a,k⟩:=fN c;obtain⟨b,j,rfl,f,b,i⟩:=a.Rf;refine Den.tup q (ah.cons (Den.lst (λz=>f (z.elim id id)) b ?_) (ah.cons (Den.Vj d y h k) rfl));clear c a f b q g
 induction e generalizing j with
 |nil=>exact i
 |cons g e ih =>
  obtain⟨v,r,rfl,d,b⟩:=i;refine ah.cons ?_ (ih _ b);obtain⟨t,l,rfl,q,c⟩:=d.Qq;obtain⟨x,z,rfl,a,b⟩:=fN c;exact Den.tup q (ah.cons (nR (yN _) K P H x a) (ah.cons (nR (yN _) K P H z b) rfl))
def Jc{d:D}(h:kc d=true):FC d:=λ_ _ _ v _ _ _ a=>Den.Vj d v h a
def Hs{K:yac}{H:Hp}{t:Addr}{i:Int}{x:Addr}{r xs:yar}(f:∀a o,H a=some o->K.lookup a=none)(h:OT K H t (.int i::r))(k:OT K H t (.ref x::xs)):False:=by
 rcases h with h|⟨o,i,n,h,_,g,_,e⟩<;>rcases k with k|⟨j,d,m,k,_,c,_,b⟩;rw[h]at k;cases k;rw[f t _ h]at k;cases k;rw[f t _ k]at h;cases h;rw[h]at k;cases k;rw[g]at c;cases c;generalize i.toList=l at e b;cases e with
 |cons a _=>cases b with
  |cons b _=>obtain⟨t,rfl⟩:=a;cases b
def Gr{t:Bool}{i:Int}{ws ds:yas}(h:di (.tup (.int i::ws)::ds)=true):FC (.lst t (.tup (.int i::ws)::ds)):=λK P H v Z d e c=>by
 obtain⟨a,m,rfl,n,q,b⟩:=c.Rf;refine Den.lst (λz=>z.elim n λz=>?_) q (ah.Vj _ _ h b);obtain⟨p,c,g⟩:=e a z;have e:=MB q.1 c (d a _ c);obtain⟨o,r,rfl,f,_⟩:=b;obtain⟨x,a,rfl,b,c⟩:=f.Qq;obtain⟨l,k,rfl,f,_⟩:=c;have c:=Den.Pk f;subst c;rcases g _ _ e.symm with⟨i,z⟩| ⟨t,j,a,z,a⟩;cases z;cases z;exact Hs d b a
theorem LH{K:yac}{P:yak}{H:Hp}:∀{b:List (yaf×yaf)} {vs:yar},(∀g∈b,g.1.length<=9/\g.2.length<=9)->ah K P H (b.map (gT true)) vs →
  ∃ a:yae,(∀v∈vs,∃t c e,v=.ref t/\OT K H t [.ref c,.ref e]/\c∈a/\e∈a)/\∀z∈a,∃ns:yaf,H z=some (.lst (ns.map V.int))/\ns.length<=9/\¬P true z/\K.lookup z=none
 |[],vs,_,h=>by cases(show vs=[]from h);exact⟨[],by simp,by simp⟩
 |g::b,vs,d,h=>by
  obtain⟨v,r,e,b,f⟩:=h;subst e;obtain⟨a,o,n⟩:=LH (λg q=>d g (Pz _ q)) f;obtain⟨t,s,rfl,q,h⟩:=b.Qq;obtain⟨x,y,rfl,f,k⟩:=fN h;obtain⟨c,w,rfl,j,h,m⟩:=f.Rf;obtain⟨e,u,rfl,i,f,l⟩:=k.Rf;cases bP m;cases bP l;refine⟨c::e::a,λv b=>?_,λz a=>?_⟩;rcases OK.mp b with rfl|b;exact⟨t,c,e,rfl,q,by simp,by simp⟩;obtain⟨c,k,e,q,p,m,l⟩:=o v b;exact⟨c,k,e,q,p,by simp[m],by simp[l]⟩;rcases OK.mp a with rfl|a;exact⟨_,(h.2 rfl).1,(d g (by simp)).1,j,(h.2 rfl).2⟩;rcases OK.mp a with rfl|a;exact⟨_,(f.2 rfl).1,(d g (by simp)).2,i,(f.2 rfl).2⟩;exact n z a
def MK{H:Hp}{d:yae}{k:Nat}{c:Addr}{ws:yar}(h:∀a∈d,∃b,H a=some (.lst b)/\b.length<=k)(f:ws.length<=k):∀a∈d,∃b,L2.upd H c (.lst ws) a=some (.lst b)/\b.length<=k:=λa b=>by by_cases e:a=c;subst e;exact⟨ws,aD,f⟩;rw[aw e];exact h a b
def ar.off{H':Hp}{Z:Addr->Prop}(e:ar G H)(n:∀a,Z a->G a=none)(c:∀a,¬Z a->H' a=H a)(ok:cX H->cX H'):ar G H' where
 kp:=λb o h a=>by rw[c b λz=>by rw[n b z]at h;cases h];exact e.kp b o h a
 tb:=λb a h=>by rw[c b λz=>by rw[n b z]at h;cases h];exact e.tb b a h
 ok:=λk=>ok (e.ok k)
def MH(K:yac)(ix i1 i2:Nat):TS:=MF (HY K (tOp (Hc K) (u7 ix) (tC (.int 0)))) (LG K 2 (B7 (B8 i1) (B7 (B8 i2) LF)))
 (MG (wU (tBM K "list" Bh (u7 i1) (p5 (tC (.int 0)) CT))) (wU (Ht K "list" EU (u7 i2))))
def NY (K:yac) (ix:Nat):TS:=wU (Ht K "list" Mr (tOp (Hc K) (u7 ix) (tC (.int 0))))
def NP{K:yac}{ix i1 i2:Nat}{g:St}{H:Hp}{h b:Addr}{i:V}{vs:yar}{f:yae}{D:Ends}(m:g[ix]?=some (some (.ref h)))(B:i1<g.length)(A:i2<g.length)(k:i1≠i2)(o:OT K H h [.ref b,i])
  (q:H b=some (.lst vs)) (n:b∉f) (C:∀v∈vs,∃t c e,v=.ref t/\OT K H t [.ref c,.ref e]/\c∈f/\e∈f) (hz:∀z∈f,∃d,H z=some (.lst d)/\d.length<=9) (E:vs.length<=9)
  (p:∀l H',(∀j,j≠i1->j≠i2->l[j]?=g[j]?)->(∀a,a∉f->H' a=H a)->(∀z∈f,∃d,H' z=some (.lst d))->D.nx l H'):MH K ix i1 i2 D g H:=by
 refine⟨.ref h,m,h,_,0,.ref b,rfl,rfl,o.w,rfl,b,rfl,⟨vs,SqL.of q⟩,λi m l H'=>m=vs.length - i/\i<=vs.length/\(∀j,j≠i1->j≠i2->l[j]?=g[j]?)/\l.length=g.length/\(∀a,a∉f->H' a=H a)/\∀z∈f,∃d,H' z=some (.lst d)/\d.length<=9+i,
  ⟨_,rfl,QS _,λ_ _ _=>rfl,rfl,λ_ _=>rfl,hz⟩,λi m l H' ⟨L,J,u,o,m,r⟩=>?_⟩
 have s:H' b=some (.lst vs):=by rw[m b n];exact q
 by_cases h:i<vs.length;refine .inr ⟨⟨vs,vs[i],SqL.of s,O2 h⟩,_,λn q (h:i+1<=vs.length/\(∀j,j≠i1->j≠i2->n[j]?=g[j]?)/\n.length=g.length/\(∀a,a∉f->q a=H a)/\∀z∈f,∃d,q z=some (.lst d)/\d.length<=9+(i+1))=>⟨vs.length - (i+1),by lia,rfl,h⟩,λx h f=>?_⟩;obtain⟨g,f⟩:=f;subst g;have g:=f vs (SqL.of s);obtain⟨t,c,e,rfl,q,y,w⟩:=C x (Ql g);have f:OT K h t [.ref c,.ref e]:=q.imp (λq=>by rw[m t λz=>by obtain⟨d,g,_⟩:=hz t z;rw[g]at q;cases q];exact q) id;refine⟨t,_,rfl,f.w,rfl,.ref c,_,rfl,.ref e,_,rfl,rfl,?_⟩;obtain⟨n,g,I⟩:=r c y;have C:((l.set i1 (some (.ref c))).set i2 (some (.ref e)))[i1]?=some (some (.ref c)):=by rw[Rc (Ne.symm k),UP (by rw[o];exact B)]
 have B:((l.set i1 (some (.ref c))).set i2 (some (.ref e)))[i2]?=some (some (.ref e)):=UP (by rw[VQ,o];exact A);have t:=MK (k:=9+(i+1)) (c:=c) (ws:=n++[V.int 0]) (λa f=>by obtain⟨d,h,i⟩:=r a f;exact⟨d,h,by lia⟩) (by rw[QX];simp;lia);obtain⟨k,A,G⟩:=t e w;refine⟨.ref c,C,.inl ⟨rfl,n,SqL.of g⟩,c,n,.int 0,rfl,rfl,g,by rw[sizeLine_eq];lia,.ref e,B,.inl ⟨rfl,k,SqL.of A⟩,e,k,rfl,rfl,A,by lia,λj a b=>?_,by rw[VQ,VQ,o],λa f=>?_,MK t (QS _)⟩;rw[Rc (Ne.symm b),Rc (Ne.symm a)];exact u j a b;have h:a≠e:=λz=>f (z ▸ w)
 have i:a≠c:=λz=>f (z ▸ y)
 rw[aw h,aw i];exact m a f;exact .inl ⟨⟨vs,SqL.of s,by lia⟩,p l H' u m λz q=>by obtain⟨d,x,_⟩:=r z q;exact⟨d,x⟩⟩
def AA(ix iy im i1 i2:Nat)(f h:DE)(tc:DT)(t:DB):DB:=λQ c=>∃(a:List (yaf×yaf)) (e:D),c[ix]?=some (some (.val (gD true a e)))/\aB e=e/\a ≠ []/\a.length<=9/\(∀g∈a,g.1.length<=9/\g.2.length<=9) ∧
 (∀d,some (Sl.val d)∈c.set ix none->FC d)/\(∀x,some (Sl.ob x)∈c->∃b,x=OS.lst b/\di b=true) ∧
 f (c.set ix (some (.val (gD false a e)))) λf=>h ((c.set ix (some (.val (gD false a e)))).set iy (some (.val f))) λg=>tc (((c.set ix (some (.val (gD false a e)))).set iy (some (.val f))).set im (some (.val g))) λb=>b=false ∧
  (∀d,some (Sl.val d)∈(((c.set ix (some (.val (gD false a e)))).set iy (some (.val f))).set im (some (.val g))).set ix none->Bz d) ∧
  t Q ((((((c.set ix (some (.val (gD false a e)))).set iy (some (.val f))).set im (some (.val g))).set ix none).set i1 none).set i2 none)
def Dl{s1 s2 sF sP:Stmt}{c:Expr}{a:yal}{p3:Pos}{rest:yal}{t1 t2:DE}{tc:DT}{t:DB}{x1 x2 y m:Str}{ix iy im i1 i2:Nat}(hy:X.N[iy]?=some y)(hm:X.N[im]?=some m)(hn1:X.N[i1]?=some x1)(hn2:X.N[i2]?=some x2)
  (ne:ix≠iy/\ix≠im/\i1≠i2/\ix≠i1/\ix≠i2) (P1:PSV X s1 iy t1) (P2:PSV X s2 im t2) (P3:TH X c tc) (PF:PS X sF (MH X.K ix i1 i2)) (PP:PS X sP (NY X.K ix)) (h5:Vl X rest t) :
  Vl X (s1::s2::.If c a [] p3::sF::sP::rest) (AA ix iy im i1 i2 t1 t2 tc t):=by
 intro g s σ H W ρ Q I r s0 T;obtain⟨gs,pl,ex,ut,gn,gl,gb,hfar,hown,T⟩:=T;obtain⟨v,sx,hd⟩:=r.val ix _ ex;have hdF:=hd;obtain⟨U,ws,rfl,qT,hws⟩:=hd.Qq;obtain⟨w0,w1,rfl,hw0,_⟩:=fN hws;obtain⟨b,p,rfl,nb,qb,hvs⟩:=hw0.Rf;have hb:=(qb.2 rfl).1;have kb:=(qb.2 rfl).2;obtain⟨B,hit,Y1⟩:=LH gb hvs;have lv:p.length=gs.length:=by rw[hvs.len,Of]
 have hbz:b∉B:=λz=>by
  obtain⟨ns,e,_⟩:=Y1 b z;rw[hb]at e;have h:p=ns.map V.int:=HO.lst.inj (SO e);have lp:0<p.length:=by rw[lv];exact Yt.mpr gn
  obtain⟨t,_,_,q,_⟩:=hit p[0] (SE lp);have d:p[0]∈ns.map V.int:=h ▸ SE lp;rw[q]at d;obtain⟨n,_,f⟩:=OZ.mp d;cases f
 have hZ:∀a∈b::B,(∃A,H a=some (.lst A))/\¬W.bad true a:=λa ha=>by
  rcases OK.mp ha with rfl|ha;exact⟨⟨_,hb⟩,nb⟩;obtain⟨ns,e,_,n,_⟩:=Y1 a ha;exact⟨⟨_,e⟩,n⟩
 have nO:∀i a,W.O i=some a->a∉b::B:=λi a h z=>(hZ a z).2 (.inr (.inl ⟨i,h⟩))
 let W2:Own:=⟨W.B,W.O,λa=>W.S a∨a∈b::B⟩
 have bad2:∀t a,W2.bad t a->W.bad t a∨a∈b::B:=λt a z=>by
  rcases z with z|z|⟨z1,z2|z2⟩;exact .inl (.inl z);exact .inl (.inr (.inl z));exact .inl (.inr (.inr ⟨z1,z2⟩));exact .inr z2
 have xl:ix<ρ.length:=(QH.mp ex).1;have O:∀{j:Nat} {z:Option Sl} {o:Option Sl},j≠ix->(ρ.set ix o)[j]?=some z->ρ[j]?=some z:=λe h=>by rw[Rc (Ne.symm e)]at h;exact h
 have Y:Rel X W2 H σ (ρ.set ix (some (.val (gD false gs pl)))):=by
  refine⟨λj d h=>?_,λj x h=>?_,r.inj,λj a h=>?_,r.ke,r.bt,λa h=>?_,r.ent,r.tab⟩;by_cases e:j=ix;subst e;rw[UP xl]at h;cases h;rw[<- Kk ut];exact⟨_,sx,(Den.aB (P':=W.bad false) (λ_ _=>Own.RJ) _ _ hdF).OC λt a z=>by
   cases t with
   |true=>exact .inl rfl
   |false =>
    rcases z with z|z|⟨z1,_⟩;exact .inr (.inl z);exact .inr (.inr (.inl z));cases z1⟩
  obtain⟨w,C,G⟩:=r.val j d (O e h);refine⟨w,C,(hfar d (Ql (by rw[Rc (Ne.symm e)];exact O e h)) X.K _ H w (λa=>a∈b::B) (λa o q=>Inv.YY I q) (λa ha=>?_) G).OC bad2⟩;rcases OK.mp ha with rfl|ha;refine⟨p,hb,λu r f=>.inr ?_⟩;obtain⟨t,c,e,C,G,_⟩:=hit u (by rw[f];exact RB);exact⟨t,c,_,C,G⟩;obtain⟨ns,e,_⟩:=Y1 a ha;refine⟨_,e,λu r f=>.inl ?_⟩;cases ns with
  |nil=>cases f
  |cons n ns=>cases f;exact⟨n,rfl⟩
  have e:j≠ix:=λe=>by subst e;rw[UP xl]at h;cases h
  obtain⟨l,rfl,E⟩:=hown x (Ql (O e h));obtain⟨a,p,C,G,h3,k⟩:=r.oH j l (O e h);exact⟨a,.lst p,C,G,h3,.lst (ah.Vj l p E k)⟩;obtain⟨C,⟨G,h3⟩,k⟩:=r.kn j a h;exact⟨C,⟨G,λz=>z.elim h3 (nO j a h)⟩,k⟩;rcases h with h|h;exact r.st a h;obtain⟨A,e⟩:=(hZ a h).1;exact⟨_,e⟩
 have iy1:iy<σ.length:=Inv.TJ I hy;have im1:im<σ.length:=Inv.TJ I hm;refine Vv (Oj (P1 g s σ H W2 _ _ I Y T) λf s1' Ol=>?_);obtain⟨ef,v1,H1,d1,I1,sm1,Uy,T⟩:=Ol;subst ef;have r1:=(Y.same sm1).put iy1 Uy;refine Vv (Oj (P2 g s1' _ H1 _ _ _ I1 r1 T) λf s2' Ol=>?_);obtain⟨ef,v2,H2,d2,I2,sm2,hd2,T⟩:=Ol;subst ef;have r2:=(r1.same sm2).put (by rw[VQ];exact im1) hd2;refine Vv (wpAny_If (Oj (P3 g s2' _ H2 _ _ _ I2 r2 T) λbb s3' Ol=>?_));obtain⟨L,I3,Yf,eb,Q2,T⟩:=Ol;subst eb;refine Xe ?_;have M:ar H L:=sm1.trans (sm2.trans Yf);have r3:=r2.same Yf;have sx3:((σ.set iy (some v1)).set im (some v2))[ix]?=some (some (V.ref U)):=by rw[Rc (Ne.symm ne.2.1),Rc (Ne.symm ne.1)];exact sx
 have qT3:OT X.K L U [.ref b,w1]:=OT.same M qT;have hb3:L b=some (.lst p):=M _ _ hb;have hz3:∀z∈B,∃A,L z=some (.lst A)/\A.length<=9:=λz q=>by obtain⟨ns,e,l,_⟩:=Y1 z q;exact⟨_,M _ _ e,by rw[Of];exact l⟩
 refine Vv (Oj (PF g s3' _ L {nx:=λOo H'=>(∀j,j≠i1->j≠i2->Oo[j]?=((σ.set iy (some v1)).set im (some v2))[j]?)/\(∀a,a∉B->H' a=L a)/\∀z∈B,∃A,H' z=some (.lst A),rt:=λ_ _=>False} I3
  (NP sx3 (Inv.TJ I3 hn1) (Inv.TJ I3 hn2) ne.2.2.1 qT3 hb3 hbz (λv q=>by obtain⟨t,c,e,J,E,k⟩:=hit v q;exact⟨t,c,e,J,OT.same M E,k⟩) hz3 (by lia) λOo H' a b c=>⟨a,b,c⟩)) λf s4 q=>?_)
 cases f with
 |ret w=>obtain⟨_,_,_,_,_,z⟩:=q;exact z.elim
 |brk=>obtain⟨_,_,_,z⟩:=q;exact z.elim
 |cont=>obtain⟨_,_,_,z⟩:=q;exact z.elim
 |next =>
 obtain⟨σ4,H4,I4,hs4,ag4,hz4⟩:=q;have hb4:H4 b=some (.lst p):=by rw[ag4 b hbz];exact hb3
 have sx4:σ4[ix]?=some (some (V.ref U)):=by rw[hs4 ix ne.2.2.2.1 ne.2.2.2.2];exact sx3
 have qT4:OT X.K H4 U [.ref b,w1]:=qT3.imp (λq=>by rw[ag4 U λz=>by obtain⟨A,C,_⟩:=hz3 U z;rw[C]at q;cases q];exact q) id;have lp:p.length - 1<p.length:=by have:=Yt.mpr gn;lia
 refine Vv (Oj (PP g s4 σ4 H4 {nx:=λOo H'=>Oo=σ4/\H'=L2.upd H4 b (.lst p.dropLast),rt:=λ_ _=>False} I4 ⟨.ref U,sx4,U,_,0,.ref b,rfl,rfl,qT4.w,rfl,.inl ⟨rfl,p,SqL.of hb4⟩,b,p,_,rfl,rfl,hb4,O2 lp,rfl,rfl⟩) λf s5 q=>?_);cases f with
 |ret w=>obtain⟨_,_,_,_,_,z⟩:=q;exact z.elim
 |brk=>obtain⟨_,_,_,z⟩:=q;exact z.elim
 |cont=>obtain⟨_,_,_,z⟩:=q;exact z.elim
 |next =>
 obtain⟨σ5,H5,I5,rfl,eH5⟩:=q;have J:∀a,a∉b::B->H5 a=L a:=λa h=>by
  have x1:a≠b:=λz=>h (z ▸ RB)
  rw[eH5,aw x1];exact ag4 a λz=>h (Pz _ z)
 have ls5:∀a,a∈b::B->∃A Yl,L a=some (.lst A)/\H5 a=some (.lst Yl):=λa h=>by by_cases e:a=b;subst e;exact⟨_,_,hb3,by rw[eH5];exact aD⟩;have h:=(OK.mp h).resolve_left e;obtain⟨A,x1,_⟩:=hz3 a h;obtain⟨Yl,x2⟩:=hz4 a h;exact⟨A,Yl,x1,by rw[eH5,aw e];exact x2⟩
 have nz:∀{a:Addr} {o:HO},L a=some o->(∀A,o ≠ .lst A)->a∉b::B:=λh n z=>by obtain⟨A,_,x,_⟩:=ls5 _ z;rw[h]at x;cases x;exact n A rfl
 have ok5:cX L->cX H5:=λk P ps hP=>by rw[J P λz=>by obtain⟨_,Yl,_,x⟩:=ls5 P z;rw[x]at hP;cases hP]at hP;obtain⟨k1,k2⟩:=k P ps hP;refine⟨k1,λpos cv h=>?_⟩;obtain⟨c,e1,e2⟩:=k2 pos cv h;exact⟨c,e1,by rw[J c (nz e2 (by intro _ z;cases z))];exact e2⟩
 have tab5:jd X.K H5:=⟨ok5 r3.tab.ok,λP q=>by obtain⟨ps,z⟩:=r3.tab.at' P q;exact⟨ps,by rw[J P (nz z (by intro _ z;cases z))];exact z⟩⟩;have ent5:ar X.OR H5:=ar.off (Z:=λa=>a∈b::B) r3.ent (λa z=>by
  cases e:X.OR a with
  |none=>rfl
  |some o=>exact absurd (.inr (.inr ⟨rfl,s0 a o e⟩)) (hZ a z).2) J ok5
 have E:∀{l:Ro} {i j:Nat} {z:Sl},(l.set i none)[j]?=some (some z)->j≠i/\l[j]?=some (some z):=fun {l i j z} h=>by by_cases e:j=i;subst e;by_cases q:j<l.length;rw[UP q]at h;cases h;rw[W5 (by rw[VQ];lia)]at h;cases h;rw[Rc (Ne.symm e)]at h;exact⟨e,h⟩
 have ub:∀{l:Ro} {i j:Nat} {d:D} {x:OS},(l.set i (some (.val d)))[j]?=some (some (.ob x))->l[j]?=some (some (.ob x)):=fun {l i j d x} h=>by by_cases e:j=i;subst e;by_cases q:j<l.length;rw[UP q]at h;cases h;rw[W5 (by rw[VQ];lia)]at h;cases h;rw[Rc (Ne.symm e)]at h;exact h
 have N:=(((r3.forget ix).forget i1).forget i2).apart (Z:=λa=>a∈b::B) J ls5 (λi a ho=>by
  have z:(if i=im then none else if i=iy then none else W.O i)=some a:=ho;split at z;cases z;split at z;cases z;exact nO i a z) (λj d v hj _ hdv=>(Q2 d (Ql (E (E hj).2).2) _ _ _ _ hdv).OC λt a z=>z.imp id λz=>.inr (.inr ⟨rfl,.inr z⟩))
  (λj x hj=>hown x (Ql (ub (ub (ub (E (E (E hj).2).2).2))))) ent5 tab5
 have le:σ5.length=((σ.set iy (some v1)).set im (some v2)).length:=I5.len.trans I3.len.symm;have r5:Rel X ((W2.drop iy).drop im) H5 σ5 _:=⟨λj d h=>by
  obtain⟨w,C,G⟩:=N.val j d h;exact⟨w,by rw[hs4 j (E (E h).2).1 (E h).1];exact C,G⟩,λj x h=>by
  obtain⟨a,o,C,G,h3⟩:=N.own j x h;rw[<- le]at h3;exact⟨a,o,C,by rw[hs4 j (E (E h).2).1 (E h).1];exact G,h3⟩,N.inj,N.kn,N.ke,N.bt,N.st,N.ent,N.tab⟩
 exact Oj (h5 g s5 _ H5 _ _ Q I5 r5 (λa o e=>.inl (s0 a o e)) T) λf s6 O3=>(by obtain⟨u,v,d,Oo,H',e1,I',rv,sm',Te,q⟩:=O3;exact⟨u,v,d,Oo,H',e1,I',rv,sm',Te.OC (λt a z=>z.elim .inl λz=>.inr ⟨z.1,.inl z.2⟩),q⟩)
end
section
variable{X:Cx}{pos:Pos}
theorem Bg(ns:yaf):∀k,k<=ns.length->preSum (λi=>ns.getD i 0) k=(ns.take k).sum
 |0,_=>by simp[preSum]
 |k+1,h=>by
  rw[Xg,List.sum_append,<- Bg ns k (by lia)];have l:k<ns.length:=by lia
  simp[preSum,l]
def IJ (w:X.calm=true):eZ X (.builtin "sum") (λds Q=>∃ns:yaf,ds=[.tup (ns.map D.int)]/\Q (.int ns.sum)):=by
 intro h s B H W ds E G Q I J r u q;obtain⟨ns,e,q⟩:=q;subst e;obtain⟨v,rfl,y⟩:=mq u;obtain⟨a,C,z,p,o⟩:=y.Qq;subst z;cases r with
 |cons l k =>
  cases k;cases l;obtain⟨g,c,d,_⟩:=I.tuple p.w;rw[bP o]at c;have n:=intsAre_of c;have m:g.length=ns.length:=by rw[<- c.length,Of]
  have j:a<s.heap.objs.size:=by obtain⟨_,e,_⟩:=d;exact OY e
  refine call_sum_walkG (wpAny_pyIter_tuple d ?_);refine⟨s.heap.objs.size,[s.heap.objs.size,a],[s.heap.objs.size],g.toArray.size,_,_,λi=>ns.getD i 0,rfl,Walks.tuple (A:=X.A.in1) (I.ok.hd w) _ a (PY j) g.toArray,⟨⟨_,Rh _ rfl,rfl,rfl⟩,d.push _⟩,λb f=>?_,λi v x=>?_,λN L M t=>?_⟩;rw[Xf];rcases OK.mp f with rfl|f;exact VP _;rw[QY.mp f];exact XU j;exact IntsAre.int_at n i v (by simpa using x);rw[RF,m,Bg ns _ (O5 _),UT];exact⟨.int ns.sum,H,_,I.kept (LSm.kept_iter t),⟨_,rfl⟩,ar.refl H,Den.int _,q⟩
end
section
variable{X:Cx}{k:Nat}{ps:yah}{sp:DSp}{x:Str}{p pos:Pos}{e:Expr}{es:yai}{t:DA}
theorem Den.ra{K:yac}{P:yak}{H:Hp}{a:Addr}{vs:yar}(p:¬P false a)(q:QK K H false a vs):Den K P H (.ra a) (.ref a):=by simp only[Den];exact⟨True.intro,p,vs,q⟩
def Av(sp:DSp)(t:DA):DE:=λa Q=>t a λa=>∃c x b,a=[c,.tup [x,.lst true b]]/\∀a,sp [aB c,.tup [aB x,.ra a]] (λd=>∃z,d=.tup [z,.ra a]/\Q (.tup [z,.lst true b])) λ_=>False
def DN (h:Ph X.prog X.w X.K X.mg X.base x k ps sp) (B:bM k X.A) (l:SU X (e::es) t) (i:Gl X x:=by rfl) (m:(x==("__debug__" : Str))=false:=by decide)
  (j:starEach (e::es) X.env=(false,eval e X.env)::starEach es X.env:=by rfl) (n:(backTo pos (starEach es X.env)).any (·.1)=false:=by rfl):OD X (.Call (.Name x p) (e::es) [] pos) (Av sp t):=by
 obtain⟨f,fd,F,f,g,C⟩:=h;intro a s b H W c Q I d h;refine Uo (jU I i f ?_ m);refine PySem.W.callWith_K (h₀:=X.base) I.ok.mod.X3 g (Oj (l pos a s b H W c _ I d h) λY s1 ⟨T,g,ds,u,r,o,a,q⟩=>⟨u.SJ,?_⟩) j n;obtain⟨s,x,G,rfl,q⟩:=q;obtain⟨w,U,rfl,c,i⟩:=fN a;obtain⟨y,M,rfl,z,a⟩:=i.Qq;obtain⟨O,N,rfl,A,f⟩:=fN a;obtain⟨b,bs,rfl,n,m,E⟩:=f.Rf;have j:=d.same o;have l:∀{d:D} {v:V},Den X.K W.bad g d v->Den X.K (λt a=>t=true∨W.bad false a) g (aB d) v:=λh=>Den.aB (λ_ _=>Own.RJ) _ _ h
 have f:ah X.K (λt a=>t=true∨W.bad false a) g [aB s,.tup [aB x,.ra b]] [w,.ref y] :=
  ah.cons (l c) (ah.cons (Den.tup z (ah.cons (l A) (ah.cons (Den.ra (λz=>z.elim (λz=>by cases z) λz=>n (Own.RJ z)) (QK.any m.1)) rfl))) rfl)
 refine Oj (EY (Q:=λv a=>ar g a/\∃d,Den X.K W.bad a d v/\Q d) F B C .nil Ie u r ⟨W.bad false,[aB s,.tup [aB x,.ra b]]++[],_,λ_=>False,j.tab,j.tracked false,f,q b,λd v a e c b=>?_,λ_ _ _ _ z=>z.elim⟩)
  λu s2 g=>(by obtain⟨v,l,h,a,f,d,c,i⟩:=g;exact⟨v,l,d,h,a,o.trans f,c,i⟩)
 obtain⟨z,a,d⟩:=b;subst a;obtain⟨t',Yl,rfl,b,a⟩:=(Den.back j.tracked c).Qq;obtain⟨L,J,rfl,f,c⟩:=fN a;obtain⟨a,_⟩:=c.ra_;subst a;exact⟨e,_,Den.tup b (ah.cons f (ah.cons (Den.lst n (m.same e) (E.same e)) ah.nil)),d⟩
end
end PD
namespace LW
open PySem PySem.Spec PyProof.Rows L2 PD
seal PD.cM PD.Q4 PD.OD PD.TH PD.Sk PD.SU PD.UA PD.WL PD.ug PD.Xy PD.R3 PD.PKD PD.PPD PD.WU PD.PFL PD.PPK PD.PEK
local macro_rules|`(tactic|kd_p)=>`(tactic| exact ⟨rfl, rfl, rfl, by decide +kernel, rfl, by decide +kernel, by decide +kernel⟩)
def top(i:Nat):Stmt:=PySem.Challenge.pw_halvecut_k61_two_groups.main.body.getD i (.Pass ⟨0,0,0,0⟩)
abbrev y9:Stmt:=top 7
abbrev fY:Stmt:=top 8
abbrev mQ:Stmt:=top 9
abbrev oU:Stmt:=top 10
abbrev p4:Stmt:=top 11
abbrev uP:Stmt:=top 13
abbrev y8:Stmt:=top 14
abbrev kr:Stmt:=top 15
abbrev oR:Stmt:=top 16
abbrev rD:Stmt:=top 17
abbrev uN:Stmt:=top 19
abbrev mR:Stmt:=top 20
abbrev uO:Stmt:=top 21
abbrev uL:Stmt:=top 22
abbrev za:Stmt:=top 23
abbrev y7:Stmt:=top 24
abbrev oS:Stmt:=top 25
abbrev uM:Stmt:=top 27
abbrev tK:Stmt:=top 28
abbrev jt:Stmt:=top 29
abbrev mL:Stmt:=top 30
abbrev rE:Stmt:=top 32
abbrev ig:Stmt:=top 33
abbrev fX:Stmt:=top 34
abbrev cS:Stmt:=top 35
abbrev oQ:Stmt:=top 36
abbrev iY:Stmt:=top 38
abbrev gK:Stmt:=top 40
abbrev kN:Stmt:=top 41
abbrev rB:Stmt:=top 42
abbrev jk:Stmt:=top 43
abbrev jH:Stmt:=top 44
abbrev tJ:Stmt:=top 45
abbrev fu:Stmt:=top 47
abbrev jG:Stmt:=top 48
abbrev eW:Stmt:=top 49
abbrev jK:Stmt:=top 53
abbrev kO:Stmt:=top 54
abbrev lZ:Stmt:=top 55
abbrev jj:Stmt:=top 56
abbrev ko:Stmt:=top 57
abbrev lg:Stmt:=top 59
abbrev jo:Stmt:=top 60
abbrev kj:Stmt:=top 61
abbrev mP:Stmt:=top 62
abbrev k9:Stmt:=top 63
abbrev jq:Stmt:=top 64
abbrev iq:Stmt:=top 65
abbrev mO:Stmt:=top 66
abbrev fK:Stmt:=top 67
abbrev mM:Stmt:=top 68
abbrev jr:Stmt:=top 69
abbrev jJ:Stmt:=top 70
abbrev jI:Stmt:=top 71
abbrev rC:Stmt:=top 52
abbrev ik:Stmt:=top 52
abbrev ip:Stmt:=top 52
def J4:ay ["number"] ["number"] (ai y9):=by kd_p
def cY:ay ["one", "other", "rest"] ["one", "other"] (ai fY):=by kd_p
def kP:ay ["numbers", "divisor", "number"] ["numbers"] (ai mQ):=by kd_p
def mS:ay ["triple", "lead", "divisor"] ["triple", "lead"] (ai oU):=by kd_p
def fZ:ay ["count", "size", "found", "length", "longer", "pick", "first"] ["count", "size"] (ai p4):=by kd_p
def Ho:ay ["gauge", "place"] ["gauge", "place"] (ai uP):=by kd_p
def J3:ay ["gauge", "place"] ["gauge", "place"] (ai y8):=by kd_p
def wA:ay ["gauge", "other", "share"] ["gauge", "other", "share"] (ai kr):=by kd_p
def CC:ay ["one", "other"] ["one", "other"] (ai oR):=by kd_p
def E4:ay ["place", "way"] ["place", "way"] (ai rD):=by kd_p
def Hm:ay ["by", "x", "y"] ["by", "x", "y"] (ai uN):=by kd_p
def Ac:ay ["spot"] ["spot"] (ai mR):=by kd_p
def Hn:ay ["one", "two", "three"] ["one", "two", "three"] (ai uO):=by kd_p
def Hl:ay ["one", "other"] ["one", "other"] (ai uL):=by kd_p
def J5:ay ["one", "other"] ["one", "other"] (ai za):=by kd_p
def J2:ay ["way"] ["way"] (ai y7):=by kd_p
def CF:ay ["way"] ["way"] (ai oS):=by kd_p
def rF:ay ["places", "kept", "each"] ["places"] (ai uM):=by kd_p
def Bp:ay ["spots", "places"] ["spots"] (ai tK):=by kd_p
def iu:ay ["one", "other", "along", "across"] ["one", "other"] (ai jt):=by kd_p
def E3:ay ["corners"] ["corners"] (ai mL):=by kd_p
def E5:ay ["way"] ["way"] (ai rE):=by kd_p
def tL:ay ["one", "other"] ["one", "other"] (ai ig):=by kd_p
def qi:ay ["one", "other"] ["one", "other"] (ai fX):=by kd_p
def dS:ay ["one", "two", "three", "turns"] ["one", "two", "three"] (ai cS):=by kd_p
def CA:ay ["ways"] ["ways"] (ai oQ):=by kd_p
def gO:ay ["spots", "place", "ways", "size", "numbers", "shares"] ["spots", "place"] (ai iY):=by kd_p
def gc:ay ["one", "other", "gauge", "here", "there"] ["one", "other", "gauge"] (ai gK):=by kd_p
def gL:ay ["corners", "gauge", "kept", "index", "one", "other"] ["corners", "gauge"] (ai kN):=by kd_p
def oV:ay ["corners", "gauges", "gauge"] ["corners", "gauges"] (ai rB):=by kd_p
def fx:ay ["corners", "gauges", "last"] ["corners", "gauges"] (ai jk):=by kd_p
def Aa:ay ["gauges", "numbers", "shares"] ["gauges", "numbers", "shares"] (ai jH):=by kd_p
def l6:ay ["corners", "gauges", "last", "others", "numbers", "shares"] ["corners", "gauges"] (ai tJ):=by kd_p
def eB:ay ["lists", "found", "index", "spots"] ["lists"] (ai fu):=by kd_p
def fL:ay ["owned", "shares", "sums", "number", "share", "owner"] ["owned", "shares"] (ai jG):=by kd_p
def dF:ay ["lists", "owned", "gauges", "first", "shared"] ["lists"] (ai eW):=by kd_p
def Ae:ay ["spots", "numbers"] ["spots", "numbers"] (ai jK):=by kd_p
def CG:ay ["group", "part"] ["group", "part"] (ai kO):=by kd_p
def rG:ay ["spots", "sizes", "groups", "found"] ["spots", "sizes"] (ai lZ):=by kd_p
def ir:ay ["spots", "choices", "sizes", "found"] ["spots", "choices"] (ai jj):=by kd_p
def wz:ay ["spots"] ["spots"] (ai ko):=by kd_p
def zb:ay ["_law_found"] ["_law_found"] (ai lg):=by kd_p
def uQ:ay ["_law_script", "_law_k"] ["_law_script", "_law_k"] (ai jo):=by kd_p
def dG:ay ["_law_cell", "_law_many", "_law_found", "_law_number", "_law_k"] ["_law_cell", "_law_many"] (ai kj):=by kd_p
def lh:ay ["_law_kind", "_law_xs", "_law_way", "_law_far", "_law_step"] ["_law_kind", "_law_xs", "_law_way"] (ai mP):=by kd_p
def gN:ay ["_law_first", "_law_cells", "_law_least", "_law_way", "_law_spots_here", "_law_cell"] ["_law_first", "_law_cells", "_law_least"] (ai k9):=by kd_p
def fy:ay ["_law_one", "_law_other", "_law_here", "_law_there"] ["_law_one", "_law_other"] (ai jq):=by kd_p
def tM:ay ["_law_found"] ["_law_found"] (ai iq):=by kd_p
def qz:ay ["_law_found", "_law_least", "_law_most", "_law_number"] ["_law_found", "_law_least", "_law_most"] (ai mO):=by kd_p
def da:ay ["_law_group_here", "_law_spots_here", "_law_spot_here", "_law_k", "_law_right", "_law_above", "_law_numbers", "_law_shares"] ["_law_group_here", "_law_spots_here", "_law_spot_here"] (ai fK):=by kd_p
def iQ:ay ["_law_found", "_law_spots_here", "_law_many", "_law_numbers", "_law_group_here"] ["_law_found", "_law_spots_here", "_law_many"] (ai mM):=by kd_p
def fz:ay ["_law_spots_here", "_law_caught", "error"] ["_law_spots_here"] (ai jr):=by kd_p
def Ab:ay ["_law_found"] ["_law_found"] (ai jJ):=by kd_p
def gM:ay ["_law_script", "_law_first", "_law_spots_here", "_law_handed", "_law_found", "_law_old", "_law_other", "_law_numbers", "_law_shares"] ["_law_script"] (ai jI):=by kd_p
def vT:ay ["numbers", "sizes", "found", "pick", "group", "rest"] ["numbers", "sizes"] (ai rC):=by kd_p
def iZ:ay ["numbers", "sizes", "found", "pick", "group", "rest"] ["numbers", "sizes"] (ai ik):=by kd_p
def i5:ay ["numbers", "sizes", "found", "pick", "group", "rest"] ["numbers", "sizes"] (ai ip):=by kd_p
structure Pg where
 PlaneError:Addr
 NoPlace:Addr
 NoDots:Addr
 TooFew:Addr
 TooMany:Addr
structure Pn(K:yac)(mg:yam)(κ:Pg):Prop where
 Pc:mg "PlaneError" = some (.ref κ.PlaneError)
 QM:mg "NoPlace" = some (.ref κ.NoPlace)
 QB:mg "NoDots" = some (.ref κ.NoDots)
 P9:mg "TooFew" = some (.ref κ.TooFew)
 Qc:mg "TooMany" = some (.ref κ.TooMany)
 R4:PD.KTT K mg "SIZES_OF_TWO" [[1,3],[2,2]]
 Qe:PySem.W.excIn K κ.TooFew C1 "ValueError.__new__" = true
 QC:PX.fT K κ.TooFew
 OJ:PySem.W.kitOne K (.ref κ.TooFew) (.ref κ.PlaneError)=some true
 OW:PySem.W.kitOne K (.ref κ.TooFew) (.ref κ.NoPlace)=some false
 OL:PySem.W.kitOne K (.ref κ.TooFew) (.ref κ.NoDots)=some false
 OM:PySem.W.kitOne K (.ref κ.TooFew) (.ref κ.TooFew)=some true
 OH:PySem.W.kitOne K (.ref κ.TooFew) (.ref κ.TooMany)=some false
 Ox:PySem.W.kitOne K (.ref κ.TooFew) (.type "ValueError")=some true
 Oy:PySem.W.exmOne K (.ref κ.TooFew) (.ref κ.PlaneError)=some true
 O1:PySem.W.exmOne K (.ref κ.TooFew) (.ref κ.TooFew)=some true
noncomputable def sg(n:Int):Int:=if 0<n then 1 else if n<0 then -1 else 0
def rk(a0 c e a b d:Int):Int:=if sg (c*a - b*a0)=0 then sg (e*a - d*a0)else sg (c*a - b*a0)
noncomputable def sw(a0 f e h d c g b a:Int):Int:=a0*(d*a - b*c)+h*(b*e - f*a)+g*(f*c - d*e)
structure Pl(n:Nat)(a b c:Int):Prop where
 pos:0<a
 low:PM.g3 a b c=1
 b0:Bd n a
 b1:Bd n b
 b2:Bd n c
def jD{d k x y z:Int}(f:d∣k*x)(e:d∣k*y)(c:d∣k*z)(b:PM.g3 x y z=1):d∣k:=by
 have a:d∣(Int.gcd (k*x) (k*y):Int):=ZC f e;rw[zDC]at a;have e:d∣k*(Int.gcd x y:Int):=by
  have:((k.natAbs*Int.gcd x y:Nat):Int)∣k*(Int.gcd x y:Int):=by rw[Int.natCast_mul];exact Int.mul_dvd_mul (Int.natAbs_dvd.mpr (by simp_all)) (by simp_all)
  exact X0 a this
 have a:d∣(Int.gcd (k*(Int.gcd x y:Int)) (k*z):Int):=ZC e c;rw[zDC]at a;have c:Int.gcd (Int.gcd x y:Int) z=1:=b;rw[c,Nat.mul_one]at a;exact X0 a (Int.natAbs_dvd.mpr (by simp_all))
abbrev Sp:=Int×Int
abbrev yat:=List (List Sp)
abbrev yau:=List Sp
def Ov(p:Sp):D:=.tup [.int p.1,.int p.2]
def Bq(h:Ov p=Ov q):p=q:=by
 unfold Ov at h
 lia
theorem i8{a:Type}{f:a->D}(b:∀{p q},f p=f q->p=q):∀{ps qs:List a},ps.map f=qs.map f->ps=qs
 |[],[],_=>rfl
 |[],_::_,h=>by simp at h
 |_::_,[],h=>by simp at h
 |p::ps,q::qs,h=>by simp at h;rw[b h.1,i8 b h.2]
def Br{ps qs:yau}(h:ps.map Ov=qs.map Ov):ps=qs:=i8 Bq h
theorem nj(p:Sp):aB (Ov p)=Ov p:=by unfold Ov;simp only[cJ,aW,bC,eX]
def cq(ps:yau):aU (ps.map Ov)=ps.map Ov:=cI Ov nj ps
def Pm(p:Sp):D:=.tup [.int 1,.int p.1,.int p.2]
def Be(h:Pm p=Pm q):p=q:=by
 unfold Pm at h
 lia
def JP{ps qs:yau}(h:ps.map Pm=qs.map Pm):ps=qs:=i8 Be h
def nh(p:Sp):aB (Pm p)=Pm p:=by unfold Pm;simp only[cJ,aW,bC,eX]
def nk(ps:yau):aU (ps.map Pm)=ps.map Pm:=cI Pm nh ps
def cr(a b e:Sp):Int:=sw 1 a.1 a.2 1 b.1 b.2 1 e.1 e.2
def cB:yau->Sp->yau
 |b::a::r,e=>if cr a b e<=0 then cB (a::r) e else b::a::r
 |l,_=>l
def bF:yau->yau->yau
 |acc,[]=>acc
 |acc,e::a=>bF (e::cB acc e) a
theorem qr(x:Sp):∀(acc done:yau),bF acc (done++[x])=x::cB (bF acc done) x
 |acc,[]=>rfl
 |acc,e::a=>by show bF (e::cB acc e) (a++[x])=_;rw[qr x _ a];rfl
theorem rj:∀(st:yau) (e:Sp),∃c,st=c++cB st e
 |[],e=>⟨[],rfl⟩
 |[b],e=>⟨[],rfl⟩
 |b::a::r,e=>by unfold cB;split;obtain⟨c,q⟩:=rj (a::r) e;exact⟨b::c,by rw[UR,<- q]⟩;exact⟨[],rfl⟩
def G8(st:yau)(e:Sp):(cB st e).length<=st.length:=by obtain⟨a,q⟩:=rj st e;grind
def Dh{a:Type}(xs:List a)(u v:a):Qw (xs++[u]++[v]) (-2)=some u:=by have:=bf (xs:=xs++[u]++[v]) (j:=xs.length) (v:=u) (by simp);unfold Qw at this ⊢;rw[show ixN (xs++[u]++[v]).length (-2)=some xs.length by unfold ixN;simp;lia];simp
def fm{a b:Int}(c:0<b):0<=a.fmod b/\a.fmod b<b:=⟨zC3 a c,Int.fmod_lt_of_pos a c⟩
def Ym{n:Nat}{x:Int}(m:Nat)(h:x.natAbs<m)(a:m<=2 ^ n):Bd n x:=QZ h a
def p12:((10:Int) ^ (12:Int).toNat)=1000000000000:=by decide
def F8:FA 10 12:=⟨by decide,by decide,by decide⟩
def VI(p:Sp):yaf:=[p.1,p.2]
def Ik(ps:yau):ps.map Ov=(ps.map VI).map PD.tupI:=by rw[Pp];rfl
def cO(ys ps:yau):Prop:=ys.Pairwise (λp q=>p.1<q.1∨(p.1=q.1/\p.2<q.2))/\∀p,p∈ys↔p∈ps
def EV{ps:yau}(h:PD.Dc a (ps.map VI)):∃ys:yau,a=ys.map VI/\cO ys ps:=by
 obtain⟨d,b⟩:=h;have f:∀z∈a,∃p:Sp,z=VI p:=λz c=>by obtain⟨p,_,e⟩:=OZ.mp ((b z).mp c);exact⟨p,e.symm⟩
 have g:∃ys:yau,a=ys.map VI:=by
  clear d b
  induction a with
  |nil=>exact⟨[],rfl⟩
  |cons z a ih =>
   obtain⟨p,e⟩:=f z RB;obtain⟨ys,a⟩:=ih λz c=>f z (Pz _ c)
   exact⟨p::ys,by rw[e,a];rfl⟩
 obtain⟨ys,rfl⟩:=g;have a:∀{p q:Sp},VI p=VI q->p=q:=fun {p q} e=>by unfold VI at e;simp only[zCz,and_true]at e;exact WC e.1 e.2
 refine⟨ys,rfl,?_,λp=>?_⟩;refine(Zt.mp d).imp fun {p q} e=>?_
 unfold VI SW.lexLt at e;split at e;rename_i c;unfold SW.lexLt at e;split at e;cases e;exact .inr ⟨c,by simpa using e⟩;exact .inl (by simpa using e);constructor;intro d;obtain⟨q,c,e⟩:=OZ.mp ((b (VI p)).mp (OZ.mpr ⟨p,d,rfl⟩));rw[<- a e];exact c;intro d;obtain⟨q,c,e⟩:=OZ.mp ((b (VI p)).mpr (OZ.mpr ⟨p,d,rfl⟩));rw[<- a e];exact c
def xC(xs:yas):PD.cutD xs none (some (-1))=xs.dropLast:=by
 unfold PD.cutD;rw[List.dropLast_eq_take];have b:HT.Pa xs.length 0 none=0:=rfl;have a:HT.Pa xs.length xs.length (some (-1))=xs.length - 1:=by
  unfold HT.Pa;cases xs with
  |nil=>rfl
  |cons x xs=>simp;lia
 rw[b,a];simp
theorem fW:∀(acc ps:yau),(bF acc ps).length<=acc.length+ps.length
 |acc,[]=>O5 _
 |acc,e::a=>by
  have:=fW (e::cB acc e) a;have b:=G8 acc e;show(bF (e::cB acc e) a).length<=_;simp at this ⊢
  lia
theorem Er:∀{ys ps:yau},ys.Nodup->(∀p∈ys,p∈ps)->ys.length<=ps.length
 |[],_,_,_=>QS _
 |y::ys,ps,b,h=>by
  obtain⟨d,c⟩:=Vw.mp b;have m:=h y RB;have r:=Er (ps:=ps.erase y) c λp a=>(List.mem_erase_of_ne (λe=>by subst e;exact d a)).mpr (h p (Pz _ a))
  rw[List.length_erase_of_mem m]at r;have:0<ps.length:=List.length_pos_of_mem m;rw[RG]
  lia
def rn(h:cO ys ps):ys.length<=ps.length:=by
 have a:ys.Nodup:=h.1.imp fun {p q} c e=>by subst e;lia
 exact Er a λp a=>(h.2 p).mp a
def aK(ys:yau):yau:=(bF [] ys).reverse
def aO(ys:yau):yau:=if ys.length<2 then ys else(aK ys).dropLast++(aK ys.reverse).dropLast
def xx{a:Type}{wi:DA}{js:yag}{te:DE}{Q:D->Prop}{P:List a->Prop}(f g:a->D)(b:∀R:yas->Prop,(∀ys,P ys->R (ys.map f))->wi ρ R)(hz:∀ys,P ys->ys.length<=sizeLine)
  (c:∀ys,P ys->∀x∈ys,∀K:D->Prop,K (g x)->te (some (.val (f x))::js.map (bA ρ)) K) (q:∀ys,P ys->Q (.lst true (ys.map g))):pJ wi js xE te ρ Q:=by
 refine b _ λys a=>?_
 have:=PD.comp_map (wi:=λ_ R=>R (ys.map f)) (js:=js) (tc:=xE) (te:=te) (ρ:=ρ) (Q:=Q) ys f (λ_=>true) g (λR h=>h) (hz ys a) (λx b K k=>k) (λx b _ K k=>c ys a x b K k) (by rw[Sd.mpr (λ_ _=>rfl)];exact q ys a);exact this
structure SB(p:Sp):Prop where
 x:Bd 60 p.1
 y:Bd 60 p.2
def fV(p q:Sp):Prop:=p.1<q.1∨(p.1=q.1/\p.2<q.2)
def cg(a b e:Sp):cr a b e=(b.1 - a.1)*(e.2 - a.2) - (b.2 - a.2)*(e.1 - a.1):=by unfold cr sw;grind
def fA(A B:Int)(p:Sp):Int:=A*p.1+B*p.2
def cx(a b c d:Sp):Int:=(b.1 - a.1)*(d.2 - c.2) - (b.2 - a.2)*(d.1 - c.1)
def BX(A B:Int)(a b c d e g:Sp):cx a b e g*(fA A B d - fA A B c)=cx c d e g*(fA A B b - fA A B a)+cx a b c d*(fA A B g - fA A B e):=by unfold cx fA;grind
def G9{x y:Int}(h:0<x*y)(a:0<y):0<x:=by
 by_cases c:0<x;exact c;have:=QU (show 0<=-x by lia) (QI a);rw[SG]at this
 lia
def L4{x y:Int}(h:0<=x*y)(a:0<y):0<=x:=by
 by_cases c:0<=x;exact c;have:=Ue (show 0 < -x by lia) a;rw[SG]at this
 lia
def HF(j:fA A B a<fA A B b)(h:fA A B c<fA A B d)(f:fA A B e<fA A B g)(p:0<cx a b c d)(q:0<=cx c d e g):0<cx a b e g:=by have i:=BX A B a b c d e g;have u:=QU q (show 0<=fA A B b - fA A B a by lia);have v:=Ue p (show 0<fA A B g - fA A B e by lia);exact G9 (y:=fA A B d - fA A B c) (by lia) (by lia)
def HE(j:fA A B a<fA A B b)(h:fA A B c<fA A B d)(f:fA A B e<fA A B g)(p:0<=cx a b c d)(q:0<cx c d e g):0<cx a b e g:=by have i:=BX A B a b c d e g;have u:=Ue q (show 0<fA A B b - fA A B a by lia);have v:=QU p (show 0<=fA A B g - fA A B e by lia);exact G9 (y:=fA A B d - fA A B c) (by lia) (by lia)
def MS(j:fA A B a<fA A B b)(h:fA A B c<fA A B d)(f:fA A B e<fA A B g)(p:0<=cx a b c d)(q:0<=cx c d e g):0<=cx a b e g:=by have i:=BX A B a b c d e g;have u:=QU q (show 0<=fA A B b - fA A B a by lia);have v:=QU p (show 0<=fA A B g - fA A B e by lia);exact L4 (y:=fA A B d - fA A B c) (by lia) (by lia)
def cx1(a b e:Sp):cr a b e=cx a b a e:=by rw[cg];rfl
def cx2(a b e:Sp):cr a b e=cx a b b e:=by rw[cg];unfold cx;grind
def cx3(a b e:Sp):cr a b e=cx a e b e:=by rw[cg];unfold cx;grind
def cx4(a b e:Sp):cr a b e=cx e a a b:=by rw[cg];unfold cx;grind
def cx5(a b e:Sp):cr a b e=cx e b a b:=by rw[cg];unfold cx;grind
def IL(a b c d:Sp):cx a b c d=- cx c d a b:=by unfold cx;grind
def KH(a b:Sp):cr a b a=0:=by rw[cg];grind
def KI(a b:Sp):cr a b b=0:=by rw[cg];grind
structure Yn(A B:Int)(st done:yau):Prop where
 e2:∀b a r,(b::a::r) <:+ st->∀p∈done,0<=cr a b p
 e3:∀c b a r,(c::b::a::r) <:+ st->0<cr a b c
 ord:st.Pairwise λb a=>fA A B a<fA A B b
 mem:∀p∈st,p∈done
 top:∀b r,st=b::r->∀p∈done,fA A B p<=fA A B b
 bot:done ≠ []->∃pre a,st=pre++[a]/\∀p∈done,fA A B a<=fA A B p
def CS{b a:Sp}{r st:yau}(h:b::a::r <:+ st)(o:st.Pairwise R):R b a:=by obtain⟨c,rfl⟩:=h;exact(Um.mp (zDG.mp o).2.1).1 a RB
theorem ES(I:Yn A B st0 done)(d:∀p∈done,fA A B p<fA A B x):∀(st:yau),st <:+ st0->(∀b r,st=b::r->∀p∈done,fA A B b<fA A B p->0<=cr b x p) →
  (∀b a r,cB st x=b::a::r->0<cr a b x)/\(∀b r,cB st x=b::r->∀p∈done,fA A B b<fA A B p->0<=cr b x p)
 |[],_,h=>⟨λb a r e=>(by cases e),λb r e=>(by cases e)⟩
 |[b],_,h=>⟨λb a r e=>(by cases e),h⟩
 |b::a::r,s,h=>by
  unfold cB;split;rename_i c;refine ES I d (a::r) (List.IsSuffix.trans (List.suffix_cons _ _) s) λk g e p j i=>?_
  cases e;have o:=CS s I.ord;have f:=I.e2 b a r s p j;have b:=d a (I.mem a (s.subset (by simp)));rw[cx1]at f c ⊢;rw[IL]at c;exact MS b o i (by lia) f;rename_i c;refine⟨λk l g e=>?_,h⟩;cases e
  lia
theorem far(I:Yn A B st0 done)(c:∀p∈done,fA A B p<fA A B x):∀(st:yau),st <:+ st0->(∀b a r,st=b::a::r->0<cr a b x)->∀b a r,b::a::r <:+ st->0<cr a b x
 |[],_,_=>λb a r e=>by have:=e.length_le;simp at this
 |b::st,s,h=>λf g b e=>by
  rcases List.suffix_cons_iff.mp e with q|q;exact h _ _ _ q.symm;refine far I c st (List.IsSuffix.trans (List.suffix_cons _ _) s) (λa i r d=>?_) f g b q;subst d;have d:=h _ _ _ rfl;have b:=I.e3 _ _ _ _ s;have g:=CS s I.ord;have f:=CS (List.IsSuffix.trans (List.suffix_cons _ _) s) I.ord;have e:=c a (I.mem a (s.subset (by simp)));rw[cx2]at b ⊢;rw[cx1]at d;exact HF f g e b (QI d)
theorem Bf:∀{st:yau},st ≠ []->cB st x ≠ []
 |[],h=>absurd rfl h
 |[b],_=>by simp[cB]
 |b::a::r,_=>by unfold cB;split;exact Bf (by simp);simp
def GD{A B:Int}{st done:yau}{x:Sp}(I:Yn A B st done)(h:∀p∈done,fA A B p<fA A B x)(m:∀p∈done,∀q∈done,fA A B p=fA A B q->p=q)(u:done=[]->st=[]):Yn A B (x::cB st x) (done++[x]):=by
 have s:cB st x <:+ st:=by obtain⟨f,q⟩:=rj st x;exact⟨f,q.symm⟩
 obtain⟨n,w⟩:=ES I h st (List.suffix_refl _) λb r e p d y=>absurd (I.top b r e p d) (by lia)
 have F:=far I h _ s n;refine⟨λb a r e p d=>?_,λc b a r e=>?_,?_,λp d=>?_,λb r e p d=>?_,λ_=>?_⟩;rcases List.suffix_cons_iff.mp e with q|q;injection q with l b;subst l;rcases Qn.mp d with d|d;rcases Xa (fA A B p) (fA A B a)with c|c|c;rcases r with _|⟨z,r⟩;obtain⟨f,C,g,i⟩:=I.bot (List.ne_nil_of_mem d);rw[<- b]at s;obtain⟨k,j⟩:=s;rw[g]at j;have:=List.append_inj_right' j (by simp);simp at this;have:=i p d
 subst_vars
 lia
 have i:=n _ _ _ b.symm;rw[<- b]at s;have r:=I.e2 _ _ _ s p d;have o:=CS s I.ord;have t:=h a (I.mem a (s.subset (by simp)));rw[cx2]at i;rw[cx5]at r;rw[cx4];exact QI (HE c o t r i);rw[m p d a (I.mem a (s.subset (by rw[<- b];simp))) c,KH];exact R8 _;exact w _ _ b.symm p d c;rw[QY.mp d,KI];exact R8 _;rcases Qn.mp d with d|d;exact I.e2 _ _ _ (q.trans s) p d;rw[QY.mp d];exact QI (F _ _ _ q);rcases List.suffix_cons_iff.mp e with q|q;injection q with l b;subst l;exact n _ _ _ b.symm;exact I.e3 _ _ _ _ (q.trans s);exact Um.mpr ⟨λa b=>h a (I.mem a (s.subset b)),I.ord.sublist s.sublist⟩;rcases OK.mp d with q|q;rw[q];simp;exact Uj _ (I.mem p (s.subset q));injection e with g j;subst g;rcases Qn.mp d with q|q;exact QI (h p q);rw[QY.mp q];exact R8 _;by_cases b:done=[];rw[u b,b];exact⟨[],x,rfl,λp d=>by simp at d;rw[d];exact R8 _⟩;obtain⟨f,a,g,i⟩:=I.bot b;obtain⟨k,j⟩:=s;have f:cB st x ≠ []:=Bf (by rw[g];simp);obtain⟨c,b,e⟩:∃c b,cB st x=c++[b]:=⟨_,_,(Zg f).symm⟩;have:b=a:=by rw[e,g,<- US]at j;have:=List.append_inj_right' j (by simp);simpa using this
 subst this;refine⟨x::c,b,by rw[e];rfl,λp d=>?_⟩;rcases Qn.mp d with q|q;exact i p q;rw[QY.mp q];exact QI (h b (I.mem b (by rw[g];simp)))
theorem vI:∀(es st done:yau),Yn A B st done->(done=[]->st=[])->(done++es).Pairwise (λp q=>fA A B p<fA A B q)->Yn A B (bF st es) (done++es)
 |[],st,done,I,_,_=>by rw[U8];exact I
 |x::es,st,done,I,h,o=>by
  obtain⟨g,i,f⟩:=zDG.mp o;have d:∀(l:yau),l.Pairwise (λp q=>fA A B p<fA A B q)->∀p∈l,∀q∈l,fA A B p=fA A B q->p=q:=by
   intro l
   induction l with
   |nil=>intro _ p c;cases c
   |cons y l ih =>
    intro o p c q b e;obtain⟨u,v⟩:=Um.mp o;rcases OK.mp c with a|a<;>rcases OK.mp b with b|b;rw[a,b];have:=u q b;rw[a]at e;lia;have:=u p a;rw[b]at e;lia;exact ih v p a q b e
  have:=vI es (x::cB st x) (done++[x]) (GD I (λp c=>f p c x RB) (d done g) h) (by simp) (by rw[US];exact o);rw[US]at this;exact this
def Jk(A B:Int):Yn A B [] []:=⟨λb a r e=>by have:=e.length_le;simp at this,λc b a r e=>by have:=e.length_le;simp at this,.nil,λp a=>a,λb r e=>(by cases e),λh=>absurd rfl h⟩
def LQ{ys:yau}(o:ys.Pairwise λp q=>fA A B p<fA A B q):Yn A B (bF [] ys) ys:=by
 have:=vI ys [] [] (Jk A B) (λ_=>rfl) (by simp_all)
 simp_all
structure Way(A B:Int)(ps:yau)(n:Nat)(l:Nat->Sp):Prop where
 two:2<=n
 P6:∀i,i+1<n->∀p∈ps,0<=cr (l i) (l (i+1)) p
 Ts:∀i,i+2<n->0<cr (l i) (l (i+1)) (l (i+2))
 rise:∀i j,i<j->j<n->fA A B (l i)<fA A B (l j)
 mem:∀i,i<n->l i∈ps
 lo:∀p∈ps,fA A B (l 0)<=fA A B p
 hi:∀p∈ps,fA A B p<=fA A B (l (n - 1))
def b9(A B:Int)(p:Sp):fA (-A) (-B) p=- fA A B p:=by unfold fA;grind
def Hu{n m:Nat}(L:Way A B ps (n+2) l)(U:Way (-A) (-B) ps (m+2) u)(f:l (n+1)=u 0)(h:0<n+m):0<cr (l n) (l (n+1)) (u 1):=by
 have d:=L.rise n (n+1) (by simp_all) (by simp_all);have c:=U.rise 0 1 Nat.one_pos (by lia);rw[b9,b9,Int.neg_lt_neg_iff]at c;rw[f]at d ⊢;have g:cr (l n) (u 0) (u 1)=cx (u 1) (u 0) (l n) (u 0):=by rw[cg];unfold cx;grind
 rw[g];cases n with
 |succ a =>
  have b:=L.Ts a (by simp_all);have o:=L.rise a (a+2) (by lia) (by simp_all);have e:=U.P6 0 (by lia) (l a) (L.mem a (by lia));have h:l (a+2)=u 0:=f;rw[h]at o b;have g:cr (u 0) (u 1) (l a)=cx (u 1) (u 0) (l a) (u 0):=by rw[cg];unfold cx;grind
  rw[g]at e;rw[cx3]at b;exact HE (A:=A) (B:=B) c o d e b
 |zero =>
  cases m with
  |zero=>lia
  |succ m =>
   have b:=U.Ts 0 (by lia);have o:=U.rise 0 2 (by decide) (by lia);rw[b9,b9,Int.neg_lt_neg_iff]at o;have e:=L.P6 0 (by simp_all) (u 2) (U.mem 2 (by lia));have h:l (0+1)=u 0:=f;rw[h]at e;have g:cr (l 0) (u 0) (u 2)=cx (u 2) (u 0) (l 0) (u 0):=by rw[cg];unfold cx;grind
   have i:cr (u 0) (u 1) (u 2)=cx (u 1) (u 0) (u 2) (u 0):=by rw[cg];unfold cx;grind
   rw[g]at e;have a:0<cx (u 1) (u 0) (u 2) (u 0):=by simp_all
   exact HF (A:=A) (B:=B) c o d a e
def Bk{n m:Nat}{h:Nat->Sp}(L:Way A B ps (n+2) l)(U:Way (-A) (-B) ps (m+2) u)(g:l (n+1)=u 0)(c:u (m+1)=l 0)(f:0<n+m)
  (b:∀k,k<n+2->h k=l k) (d:∀j,j<m+1->h (n+1+j)=u j):(∀k,k<n+m+2->∀p∈ps,0<=cr (h ((k+(n+m+2) - 1) % (n+m+2))) (h k) p)/\0<cr (h 0) (h 1) (h 2):=by
 refine⟨λk i p a=>?_,?_⟩;cases k with
 |zero =>
  have e:(0+(n+m+2) - 1) % (n+m+2)=n+1+m:=by simp_all [UW,S5,VP,Nat.add_right_comm]
  rw[e,d m (by simp_all),b 0 (by simp_all),<- c];exact U.P6 m (by simp_all) p a
 |succ k =>
  have e:(k+1+(n+m+2) - 1) % (n+m+2)=k:=by
   rw[Nat.add_right_comm]
   simp_all [Zv,S5,zC7]
  rw[e];by_cases c:k+1<n+2;rw[b k (zC7 c),b (k+1) c];exact L.P6 k c p a;obtain⟨j,rfl⟩:=Nat.le.dest (Nat.le_of_succ_le_succ (XY c));have c:j+1<m+1:=by lia
  rw[d j (zC7 c),Nat.add_assoc,d (j+1) c];exact U.P6 j (XU c) p a
 cases n with
 |succ a =>
  have z:2<a+1+2:=by lia
  rw[b 0 (Wz _),b 1 (by simp_all),b 2 z];exact L.Ts 0 z
 |zero =>
  have z:1<m+1:=by lia
  rw[b 0 (by decide),b 1 (by decide),show h 2=u 1 from d 1 z];exact Hu L U g f
def tZ{ys:yau}(o:ys.Pairwise λp q=>fA A B p<fA A B q)(d:2<=ys.length):Way A B ys (aK ys).length λi=>(aK ys).getD i (0,0):=by
 have I:=LQ o;obtain⟨c,a,h,l⟩:=I.bot (by intro e;rw[e]at d;simp at d);have g:2<=(aK ys).length:=by
  unfold aK;rw[Ul,h];rcases c with _|⟨b,c⟩;have t:=I.top a [] (by simpa using h);rcases ys with _|⟨f,_|⟨c,r⟩⟩;simp at d;simp at d;have q:=(Um.mp o).1 c (by simp);have n:=l f (by simp);have f:=t c (by simp)
  lia
  simp
 have sp1:∀i,i<(aK ys).length->(aK ys)[i]?=some ((aK ys).getD i (0,0)):=λi c=>by rw[Py,O2 c];rfl
 have k:bF [] ys=(aK ys).reverse:=by unfold aK;rw[List.reverse_reverse]
 refine⟨g,λi c p d=>?_,λi c=>?_,λi j m g=>?_,λi c=>?_,λp d=>?_,λp d=>?_⟩;refine I.e2 _ _ ((aK ys).take i).reverse ⟨((aK ys).drop (i+2)).reverse,?_⟩ p d;rw[k];have q:=zCa i (aK ys);rw[WY (show i<(aK ys).length by lia),WY c]at q;have f:=congrArg List.reverse q;simp only[Py,O2 (show i<(aK ys).length by lia),O2 c,zDH];simpa only[List.reverse_append,Zu,US,UR,U9]using f;refine I.e3 _ _ _ ((aK ys).take i).reverse ⟨((aK ys).drop (i+3)).reverse,?_⟩;rw[k];have q:=zCa i (aK ys);rw[WY (show i<(aK ys).length by lia),WY (show i+1<(aK ys).length by lia),WY c]at q;have f:=congrArg List.reverse q;simp only[Py,O2 (show i<(aK ys).length by lia),O2 (show i+1<(aK ys).length by lia),O2 c,zDH];simpa only[List.reverse_append,Zu,US,UR,U9]using f;have f:(aK ys).Pairwise λa b=>fA A B a<fA A B b:=by exact List.pairwise_reverse.mpr I.ord
 have:=(Vr.mp f) i j (by lia) g m;simp only[Py,O2 (show i<(aK ys).length by lia),O2 g,zDH];exact this;refine I.mem _ ?_;rw[k,zDF];exact Ql (sp1 i c);have:(aK ys).getD 0 (0,0)=a:=by unfold aK;rw[h];simp
 rw[this];exact l p d;have e:=sp1 ((aK ys).length - 1) (by lia);generalize (aK ys).getD ((aK ys).length - 1) (0,0)=b at e ⊢;refine I.top b (bF [] ys).tail ?_ p d;rw[<- zDN]at e;unfold aK at e;cases hc:bF [] ys with
 |nil=>rw[hc]at e;simp at e
 |cons x r=>rw[hc]at e;simp at e;rw[e];rfl
theorem x9:∀{l:yau},l.Pairwise (λp q=>fA A B p<fA A B q)->∀p∈l,∀q∈l,fA A B p=fA A B q->p=q
 |[],_,p,a=>by cases a
 |y::l,o,p,a=>λq b e=>by
  obtain⟨u,v⟩:=Um.mp o;rcases OK.mp a with a|a<;>rcases OK.mp b with b|b;rw[a,b];have:=u q b;rw[a]at e;lia;have:=u p a;rw[b]at e;lia;exact x9 v p a q b e
def Way.to{ps qs:yau}(h:∀p,p∈qs↔p∈ps)(W:Way A B ps n l):Way A B qs n l :=
 ⟨W.two,λi b p a=>W.P6 i b p ((h p).mp a),W.Ts,W.rise,λi b=>(h _).mpr (W.mem i b),λp a=>W.lo p ((h p).mp a),λp a=>W.hi p ((h p).mp a)⟩
theorem F1:∀ys:yau,∃M:Int,0<M/\∀p∈ys,-M<p.2/\p.2<M
 |[]=>⟨1,by decide,λp a=>by cases a⟩
 |y::ys=>by
  obtain⟨M,b,h⟩:=F1 ys;refine⟨M+y.2.natAbs+1,by lia,λp a=>?_⟩;rcases OK.mp a with q|q;rw[q];lia;have:=h p q;lia
def tq{M:Int}{p q:Sp}(h0:0<M)(b:-M<p.2/\p.2<M)(a:-M<q.2/\q.2<M)(h:fV p q):fA (2*M) 1 p<fA (2*M) 1 q:=by
 unfold fA;rcases h with h|⟨d,c⟩;have:=zC5 (show p.1+1<=q.1 by lia) (show 0<=2*M by lia)
 lia
 lia
def bH(hs:yau)(k:Nat):Sp:=hs.getD ((k+hs.length - 1) % hs.length) (0,0)
structure mh(hs ps:yau):Prop where
 mem:∀p∈hs,p∈ps
 len:hs.length<=2*ps.length
 T4:ps ≠ []->∃a r,hs=a::r/\∀p∈ps,¬fV p a
 one:∀a,hs=[a]->∀p∈ps,p=a
 two:∀a b,hs=[a,b]->a≠b/\∀p∈ps,cr a b p=0/\¬fV b p
 P6:2<hs.length->∀k,k<hs.length->∀p∈ps,0<=cr (bH hs k) (hs.getD k (0,0)) p
 Ts:2<hs.length->0<cr (hs.getD 0 (0,0)) (hs.getD 1 (0,0)) (hs.getD 2 (0,0))
def df(h:cO ys ps):mh (aO ys) ps:=by
 have H:=rn h;obtain⟨o,f⟩:=h;unfold aO;by_cases c:ys.length<2;rw[Og c];refine⟨λp d=>(f p).mp d,by lia,λe=>?_,λa e p d=>?_,λa b e=>?_,λq=>absurd q (by lia),λq=>absurd q (by lia)⟩;rcases ys with _|⟨y,_|⟨z,r⟩⟩;cases ps with
 |nil=>exact absurd rfl e
 |cons y r=>have:=(f y).mpr RB;cases this
 refine⟨y,[],rfl,λp d=>?_⟩;have:=(f p).mpr d;rw[QY.mp this];exact λq=>q.elim (Wy _) λq=>Wy _ q.2
 exact absurd c (by simp);have:=(f p).mpr d;rw[e]at this;exact QY.mp this;rw[e]at c;simp at c;rw[Oc c];obtain⟨M,m,i⟩:=F1 ys;have k:ys.Pairwise λp q=>fA (2*M) 1 p<fA (2*M) 1 q:=by refine List.Pairwise.imp_of_mem ?_ o;intro p q d g h;exact tq m (i p d) (i q g) h
 have n:ys.reverse.Pairwise λp q=>fA (-(2*M)) (-1) p<fA (-(2*M)) (-1) q:=by refine List.pairwise_reverse.mpr (k.imp ?_);intro p q h;rw[b9,b9];exact Int.neg_lt_neg h
 have L:=(tZ k (XY c)).to (qs:=ps) λp=>(f p).symm
 have U:=(tZ n (by rw[Ul];exact XY c)).to (qs:=ps) λp=>by rw[zDF];exact(f p).symm
 have h:(aK ys).length<=ys.length:=by have:=fW [] ys;unfold aK;rw[Ul];simpa using this
 have c:(aK ys.reverse).length<=ys.length:=by have:=fW [] ys.reverse;unfold aK;rw[Ul];simpa using this
 generalize aK ys=l at L h ⊢;generalize aK ys.reverse=u at U c ⊢;have j:∀p∈ps,∀q∈ps,fA (2*M) 1 p=fA (2*M) 1 q->p=q:=λp d q g e=>x9 k p ((f p).mpr d) q ((f q).mpr g) e
 have y:∀p∈ps,∀q∈ps,fA (2*M) 1 p<=fA (2*M) 1 q->¬fV q p:=λp d q g e x =>
  Int.not_le_of_gt (tq m (i q ((f q).mpr g)) (i p ((f p).mpr d)) x) e
 generalize 2*M=A at L U j y;clear k n i m o f;obtain⟨n,o⟩:∃n,l.length=n+2:=⟨l.length - 2,by have:=L.two;lia⟩;obtain⟨m,f⟩:∃m,u.length=m+2:=⟨u.length - 2,by have:=U.two;lia⟩;have c:(l.dropLast++u.dropLast).length=n+m+2:=by
  rw[QX,Wu,Wu,o,f];show n+1+(m+1)=_
  lia
 have g:∀{w:yau} {x:Sp},x∈w.dropLast->x∈w:=fun {w x} h=>(List.dropLast_sublist w).subset h
 have C:∀{w:yau} {i:Nat} (h:i<w.length),w.getD i (0,0)=w[i]:=fun {w i} h=>by rw[Py,O2 h];rfl
 rw[o]at L;rw[f]at U;have w:l.getD (n+1) (0,0)=u.getD 0 (0,0):=by have s:=L.mem (n+1) (VP _);have k:=U.mem 0 (Wz _);have x:=L.hi _ k;have t:=U.lo _ s;rw[b9,b9]at t;exact j _ s _ k (ZD (zDD t) x)
 have B:u.getD (m+1) (0,0)=l.getD 0 (0,0):=by have s:=L.mem 0 (Wz _);have k:=U.mem (m+1) (VP _);have x:=L.lo _ k;have t:=U.hi _ s;rw[b9,b9]at t;exact j _ k _ s (ZD (zDD t) x)
 have x:∀j,j<m+1->(l.dropLast++u.dropLast).getD (n+1+j) (0,0)=u.getD j (0,0):=λj k=>by
  have ld:l.dropLast.length=n+1:=by rw[Wu,o];rfl
  rw[Py,Py,Vp (by rw[ld];exact XX _ _),ld,Nat.add_sub_cancel_left,zC4,f,Og (show j<m+2 - 1 from k)]
 have s:∀k,k<n+2->(l.dropLast++u.dropLast).getD k (0,0)=l.getD k (0,0):=λk j=>by
  rcases Nat.lt_or_eq_of_le (Nat.le_of_lt_succ j)with z|z;rw[Py,Py,UO (by rw[Wu,o];exact z),zC4,o,Og (show k<n+2 - 1 from z)];rw[z,w];exact x 0 (Wz _)
 have t:=s 0 (Wz _);refine⟨λp d=>?_,by rw[c];lia,λe=>?_,λa e=>?_,λa b e=>?_,λq=>?_,λq=>?_⟩;rcases Qn.mp d with z|z;obtain⟨i,h,e⟩:=List.mem_iff_getElem.mp (g z);rw[<- e,<- C h];exact L.mem i (by rw[<- o];exact h);obtain⟨i,h,e⟩:=List.mem_iff_getElem.mp (g z);rw[<- e,<- C h];exact U.mem i (by rw[<- f];exact h);cases hh:l.dropLast++u.dropLast with
 |nil=>rw[hh]at c;exact absurd c (by simp)
 |cons a r =>
  rw[hh]at t;refine⟨a,r,rfl,λp d=>?_⟩;rw[show a=l.getD 0 (0,0)from t];exact y _ (L.mem 0 (Wz _)) p d (L.lo p d)
 rw[e]at c;simp at c;have f:n=0/\m=0:=by rw[e]at c;simp at c;lia
 obtain⟨rfl,rfl⟩:=f;have f:=s 1 (by decide);rw[e]at t f;have h:a=l.getD 0 (0,0):=t;have e:b=l.getD 1 (0,0):=f;have f:l.getD 1 (0,0)=u.getD 0 (0,0):=w;have g:u.getD 1 (0,0)=l.getD 0 (0,0):=B;refine⟨λi=>?_,λp d=>?_⟩;have:=L.rise 0 1 (by decide) (by decide);rw[<- h,<- e,i]at this;exact Wy _ this;have m:=L.P6 0 (by decide) p d;have l:=U.P6 0 (by decide) p d;have i:=L.hi p d;have G:0<=cr a b p:=by rw[h,e];exact m
 have E:0<=cr b a p:=by rw[e,f,h,<- g];exact l
 have f:fA A 1 p<=fA A 1 b:=by rw[e];exact i
 have I:cr b a p=- cr a b p:=by rw[cg,cg];grind
 refine⟨by lia,y p d b ?_ f⟩;rw[e];exact L.mem 1 (by decide);intro k j p d;rw[c]at j q;have R:=(Bk L U w B (by lia) s x).1 k j p d;unfold bH;rw[c];exact R;rw[c]at q;exact(Bk L U w B (by lia) s x).2
def xi{a:Type}(xs:List a)(j b:Nat)(d:j<xs.length)(e:b<=xs.length):Qw xs ((j:Int) - (b:Int))=xs[(j+xs.length - b) % xs.length]?:=by
 unfold Qw ixN;by_cases c:b<=j;rw[Og (by lia),Og (by lia),show j+xs.length - b=j - b+xs.length by lia,Zv,S5 (by lia)];show xs[((j:Int) - (b:Int)).toNat]?=_;congr 1
 lia
 rw[Oc (by lia),Og (by lia),S5 (by lia)];show xs[((j:Int) - (b:Int)+(xs.length:Int)).toNat]?=_;congr 1
 lia
def Ij(lo a:Int):k8 lo a 1=(a - lo).toNat:=by
 unfold k8 Builtin.Range.rangeSize;rw[Og (by decide)];by_cases h:lo<a;rw[Og h,Int.ediv_one]
 lia
 rw[Oc h]
 lia
def yZ(n:Nat):jh 0 1 (k8 0 (n:Int) 1)=(List.range' 0 n).map λ(k:Nat)=>D.int (k:Int):=by unfold jh;rw[Ij,show((n:Int) - 0).toNat=n by lia,List.range'_eq_map_range,Pp];apply Wv;intro k _;simp
def IK{a:Type}(f:a->D)(xs:List a):PD.cutD (xs.map f) (some 1) (some 31)=((xs.drop 1).take 30).map f:=by
 unfold PD.cutD;have b:HT.Pa (xs.map f).length 0 (some 1)=min 1 (xs.map f).length:=HT.pZ _ _ 1;have a:HT.Pa (xs.map f).length (xs.map f).length (some 31)=min 31 (xs.map f).length:=HT.pZ _ _ 31;rw[b,a];cases xs with
 |nil=>rfl
 |cons x xs =>
  simp only[Pj,RG,Of,List.drop_succ_cons,List.drop_zero];rw[show min 1 (xs.length+1)=1 by lia];show List.take _ (xs.map f)=_;rw[List.map_take];by_cases c:xs.length<=30;rw[W4 (by rw[Of];lia),W4 (by rw[Of];lia)];rw[show min 31 (xs.length+1) - 1=30 by lia]
def L9(p:Sp):P4 1 (Ov p):=P4.tup (.cons (.int _ _) (.cons (.int _ _) (.nil _)))
def Ex(p:Sp):P4 1 (Pm p):=P4.tup (.cons (.int _ _) (.cons (.int _ _) (.cons (.int _ _) (.nil _))))
noncomputable def dg(a:yag):Nat:=match a.getLast? with
 |none=>0
 |some l=>l+1
def Ta(n:Nat)(a:yag):List (yag):=(List.range' (dg a) (n - dg a)).map λk=>a++[k]
def O6(n:Nat):Nat->List (yag)
 |0=>[[]]
 |j+1=>(O6 n j).flatMap (Ta n)
def Ra(a:yag):D:=.lst true (a.map λ(k:Nat)=>D.int (k:Int))
theorem dI:∀{j:Nat} {a:yag},a∈O6 n j->a.length=j/\∀k∈a,k<n
 |0,a,h=>by simp only[O6,QY]at h;subst h;simp
 |j+1,a,h=>by
  simp only[O6,Zz]at h;obtain⟨q,a,h⟩:=h;obtain⟨c,b⟩:=dI a;unfold Ta at h;obtain⟨k,a,rfl⟩:=OZ.mp h;rw[XT]at a;refine⟨by simp[c],λx a=>?_⟩;rcases Qn.mp a with z|z;exact b x z;simp at z;subst z;lia
theorem pR(n:Nat):∀j:Nat,(O6 n j).length<=n ^ j
 |0=>by simp[O6]
 |j+1=>by
  have ih:=pR n j;simp only[O6];have:∀l:List (yag),(l.flatMap (Ta n)).length<=l.length*n:=by
   intro l
   induction l with
   |nil=>simp
   |cons a r ih =>
    rw[Zs,QX,RG,Nat.add_mul];have:(Ta n a).length<=n:=by unfold Ta;rw[Of,Ub];lia
    lia
  refine PL (this _) ?_;rw[VS];exact Zm _ ih
def Bl(a b:Nat):jh (a:Int) 1 (k8 a b 1)=(List.range' a (b - a)).map λ(k:Nat)=>D.int (k:Int):=by
 unfold jh
 simp_all [Ij,List.range'_eq_map_range,Pp,Wv]
theorem ya(n:Nat):∀l:List (yag),(l.flatMap (Ta n)).length<=l.length*n
 |[]=>by simp
 |a::r=>by
  rw[Zs,QX,RG,Nat.add_mul];have:=ya n r;have:(Ta n a).length<=n:=by unfold Ta;grind
  lia
def ID{a:yag}(h:a ≠ []){Q:D->Prop}(q:Q (.int ((dg a:Nat) - 1:Int))):∃d,Qw (a.map λ(k:Nat)=>D.int (k:Int)) (-1)=some d/\Q d:=by
 obtain⟨r,l,rfl⟩:∃r l,a=r++[l]:=⟨a.dropLast,a.getLast h,(Zg h).symm⟩;refine⟨.int l,?_,?_⟩;unfold Qw ixN;have e:(-1+((r.length:Int)+1)).toNat=r.length:=by lia
 have l:(1:Int)<=(r.length:Int)+1:=by lia
 simp_all
 have:((dg (r++[l]):Nat):Int) - 1=l:=by unfold dg;simp
 simp_all
abbrev Tr:=Int×Int×Int
abbrev yav:=List (Int×Tr)
abbrev yaw:=List Tr
noncomputable def tn(a b:Sp):Int:=a.1*b.2 - b.1*a.2
def OO(a b:Sp):Int:=a.1*b.1+a.2*b.2
def Om(h:Tr)(p:Sp):Sp:=(h.1*p.1 - 1*h.2.1,h.1*p.2 - 1*h.2.2)
noncomputable def N9(g h:Tr):Int:=g.1*h.1+g.2.1*h.2.1+g.2.2*h.2.2
noncomputable def eG(a b:Sp):Tr:=(a.1*b.2 - b.1*a.2,a.2*1 - b.2*1,1*b.1 - 1*a.1)
def bZ(a w:Sp):Tr:=(-(w.1*a.1+w.2*a.2),w.1*1,w.2*1)
def T5(a:Sp):Sp:=(-a.1,-a.2)
noncomputable def Tb(a:Sp):Sp:=(-a.2,a.1)
noncomputable def aM(a b:Sp):Sp:=if a=b then(1,0)else(1*b.1 - 1*a.1,1*b.2 - 1*a.2)
def fC(a b:Sp):yaw:=[bZ a (aM a b),bZ b (T5 (aM a b)),bZ a (Tb (aM a b)),bZ a (T5 (Tb (aM a b)))]
def aI(hs:yau):yaw:=if hs.length<3 then fC (hs.getD 0 (0,0)) (hs.getD (hs.length - 1) (0,0))else(List.range' 0 hs.length).map λk=>eG (bH hs k) (hs.getD k (0,0))
def t6(a:Sp):Prop:=a=(0,0)
def gY(a b:Sp):Prop:=tn a b=0/\OO a b<0
def dM(a b e:Sp):Prop:=(0<tn b e/\0<tn e a/\0<tn a b)∨(tn b e<0/\tn e a<0/\tn a b<0)
def cL(a b:Sp):tn a b=- tn b a:=by unfold tn;grind
def p6(a:Sp):tn a a=0:=by unfold tn;grind
def qM(a b:Sp):OO a b=OO b a:=by unfold OO;grind
def gY.symm(h:gY a b):gY b a:=⟨by have:=cL a b;have:=h.1;lia,by rw[qM];exact h.2⟩
def dM.XN(h:dM a b e):dM b e a:=by unfold dM at h ⊢;lia
def dM.swap(h:dM a b e):dM b a e:=by
 unfold dM at h ⊢;have:=cL a b;have:=cL b e;have:=cL e a
 lia
def Yo(a:Int):0<=a*a:=by
 rcases Int.le_total 0 a with h|h;exact QU h h;have:=QU (show 0<=-a by lia) (show 0<=-a by lia)
 lia
def jS{w:Sp}(h:w≠(0,0)):0<OO w w:=by
 obtain⟨a,b⟩:=w;unfold OO;dsimp only;have f:=Yo a;have e:=Yo b;by_cases d:a=0;by_cases c:b=0
 lia
 have:b*b≠0:=by simp_all
 omega;have:a*a≠0:=by simp_all
 omega
def ui{b c:Sp}{y z:Int}(e:0<y)(hz:0<z)(h:y*b.1+z*c.1=0)(g:y*b.2+z*c.2=0):t6 b∨gY b c:=by
 by_cases a:b=(0,0);exact .inl a
 right
 have p:=jS a;have t:z*tn b c=0:=by
  have:z*tn b c=b.1*(y*b.2+z*c.2) - b.2*(y*b.1+z*c.1):=by unfold tn;grind
  simp_all
 have d:z*OO b c=- (y*OO b b):=by
  have:z*OO b c+y*OO b b=b.1*(y*b.1+z*c.1)+b.2*(y*b.2+z*c.2):=by unfold OO;grind
  grind
 have f:=Ue e p;refine⟨?_,?_⟩;rcases Uc.mp t with q|q<;>lia;by_cases q:OO b c<0;exact q;have:=QU (QI hz) (show 0<=OO b c by lia)
 lia
def FZ(a b c:Sp):tn b c*a.1+tn c a*b.1+tn a b*c.1=0/\tn b c*a.2+tn c a*b.2+tn a b*c.2=0:=by unfold tn;constructor<;>grind
def rg{c:Sp}{z:Int}(hz:0<z)(b:z*c.1=0)(a:z*c.2=0):t6 c:=by
 rcases Uc.mp b with q|q
 lia
 rcases Uc.mp a with r|r
 lia
 exact WC q r
def IG(i:0<=tn b c)(h:0<=tn c a)(hz:0<=tn a b)(hs:0<tn b c+tn c a+tn a b) :
  t6 a∨t6 b∨t6 c∨gY a b∨gY b c∨gY c a∨dM a b c:=by
 obtain⟨e,d⟩:=FZ a b c;by_cases f:tn b c=0;rw[f,VA]at e d;by_cases g:tn c a=0;rw[g,VA]at e d;exact .inr (.inr (.inl (rg (z:=tn a b) (by lia) (by lia) (by lia))));by_cases f:tn a b=0;rw[f,VA]at e d;exact .inr (.inl (rg (z:=tn c a) (by lia) (by lia) (by lia)));rcases ui (b:=b) (c:=c) (y:=tn c a) (z:=tn a b) (by lia) (by lia) (by lia) (by lia)with q|q;exact .inr (.inl q);exact .inr (.inr (.inr (.inr (.inl q))));by_cases g:tn c a=0;rw[g,VA]at e d;by_cases f:tn a b=0;rw[f,VA]at e d;exact .inl (rg (z:=tn b c) (by lia) (by lia) (by lia));rcases ui (b:=c) (c:=a) (y:=tn a b) (z:=tn b c) (by lia) (by lia) (by lia) (by lia)with q|q;exact .inr (.inr (.inl q));exact .inr (.inr (.inr (.inr (.inr (.inl q)))));by_cases f:tn a b=0;rw[f,VA]at e d;rcases ui (b:=a) (c:=b) (y:=tn b c) (z:=tn c a) (by lia) (by lia) (by lia) (by lia)with q|q;exact .inl q;exact .inr (.inr (.inr (.inl q)));exact .inr (.inr (.inr (.inr (.inr (.inr (.inl ⟨by lia,by lia,by lia⟩))))))
def nM(h:Tr)(ps:yau):Prop:=(∃p∈ps,t6 (Om h p))∨(∃p∈ps,∃q∈ps,gY (Om h p) (Om h q))∨∃ p∈ps,∃q∈ps,∃r∈ps,dM (Om h p) (Om h q) (Om h r)
def FY{ps:yau}{p q r:Sp}(d:p∈ps)(b:q∈ps)(a:r∈ps)(e:0<=tn (Om h q) (Om h r))(c:0<=tn (Om h r) (Om h p))(hz:0<=tn (Om h p) (Om h q))(hs:0<tn (Om h q) (Om h r)+tn (Om h r) (Om h p)+tn (Om h p) (Om h q)):nM h ps:=by
 rcases IG e c hz hs with c|c|c|c|c|c|c;exact .inl ⟨_,d,c⟩;exact .inl ⟨_,b,c⟩;exact .inl ⟨_,a,c⟩;exact .inr (.inl ⟨_,d,_,b,c⟩);exact .inr (.inl ⟨_,b,_,a,c⟩);exact .inr (.inl ⟨_,a,_,d,c⟩);exact .inr (.inr ⟨_,d,_,b,_,a,c⟩)
def Gx(h:Tr)(a b:Sp):tn (Om h a) (Om h b)=h.1*N9 (eG a b) h:=by unfold tn Om N9 eG;grind
def Jh(h:Tr)(a w:Sp):N9 (bZ a w) h=- OO w (Om h a):=by unfold N9 bZ OO Om;grind
def MI(h:Tr)(a b c:Sp):tn (Om h b) (Om h c)+tn (Om h c) (Om h a)+tn (Om h a) (Om h b)=h.1*(h.1*cr a b c):=by rw[cg];unfold tn Om;grind
def LZ(u v w:Sp):OO u v*OO u w+tn u v*tn u w=OO u u*OO v w:=by unfold OO tn;grind
def vd{u:Sp}(a:u≠(0,0))(c:OO u v=0)(b:tn u v=0):v=(0,0):=by
 have p:=jS a;have l:=LZ u v v;rw[c,b]at l;by_cases c:v=(0,0);exact c;have:=Ue p (jS c)
 lia
def Fe{ps:yau}{a b:Sp}(k:a∈ps)(bm:b∈ps)(c:∀g∈fC a b,0<=N9 g h):nM h ps:=by
 have j:=c _ (RB);have g:=c _ (Pz _ RB);have f:=c _ (Pz _ (Pz _ RB));have e:=c _ (Pz _ (Pz _ (Pz _ RB)));rw[Jh]at j g f e;have i:aM a b≠(0,0):=by unfold aM;grind
 have n:OO (T5 (aM a b)) (Om h b)=- OO (aM a b) (Om h b):=by unfold OO T5;grind
 have m:OO (Tb (aM a b)) (Om h a)=tn (aM a b) (Om h a):=by unfold OO Tb tn;grind
 have l:OO (T5 (Tb (aM a b))) (Om h a)=- tn (aM a b) (Om h a):=by unfold OO T5 Tb tn;grind
 rw[n,Int.neg_neg]at g;rw[m]at f;rw[l,Int.neg_neg]at e;have d:tn (aM a b) (Om h a)=0:=ZD (Int.neg_nonneg.mp f) e;have c:OO (aM a b) (Om h a)<=0:=Int.neg_nonneg.mp j;clear j f e n m l;by_cases e:a=b;subst e;exact .inl ⟨a,k,vd i (ZD c g) d⟩;have f:Om h b=((Om h a).1+h.1*(aM a b).1,(Om h a).2+h.1*(aM a b).2):=by unfold aM;rw[Oc e];unfold Om;rw[Prod.mk.injEq];constructor<;>grind
 have m:tn (aM a b) (Om h b)=0:=by
  rw[f];have:tn (aM a b) ((Om h a).1+h.1*(aM a b).1,(Om h a).2+h.1*(aM a b).2)=tn (aM a b) (Om h a):=by unfold tn;grind
  rw[this,d]
 have e:tn (Om h a) (Om h b)=0:=by
  rw[f];have:tn (Om h a) ((Om h a).1+h.1*(aM a b).1,(Om h a).2+h.1*(aM a b).2)=- (h.1*tn (aM a b) (Om h a)):=by unfold tn;grind
  rw[this,d,Vz,Int.neg_zero]
 have l:=LZ (aM a b) (Om h a) (Om h b);rw[m,Vz,Int.add_zero]at l;by_cases j:OO (aM a b) (Om h a)=0;exact .inl ⟨a,k,vd i j d⟩;by_cases f:OO (aM a b) (Om h b)=0;exact .inl ⟨b,bm,vd i f m⟩;have d:=U6 (Int.lt_iff_le_and_ne.mpr ⟨c,j⟩) (Int.lt_iff_le_and_ne.mpr ⟨g,Ne.symm f⟩);refine .inr (.inl ⟨a,k,b,bm,e,?_⟩);rw[l]at d;by_cases q:OO (Om h a) (Om h b)<0;exact q;exact absurd d (VT.mpr (QU (QI (jS i)) (VT.mp q)))
def Gq{h:Tr}{ps:yau}{c:Nat->Sp}{N:Nat}(h0:0<h.1)(g:∀i,i<N->c i∈ps)(l:∀i,i+1<N->0<=tn (Om h (c i)) (Om h (c (i+1))))(k:0<cr (c 0) (c 1) (c 2)) :
  ∀ d i,N=i+d+3->0<=tn (Om h (c (i+d+2))) (Om h (c 0))->0<=tn (Om h (c 0)) (Om h (c (i+1)))->(i=0∨0<tn (Om h (c 0)) (Om h (c (i+1))))->nM h ps:=by
 have So:∀i,i+2<N->0<=tn (Om h (c (i+2))) (Om h (c 0))->0<=tn (Om h (c 0)) (Om h (c (i+1)))->(i=0∨0<tn (Om h (c 0)) (Om h (c (i+1))))->nM h ps:=λi b a e f=>by
  have j:=l (i+1) b;refine FY (g 0 (Yu (QS _) b)) (g (i+1) (zC7 b)) (g (i+2) b) j a e ?_;rcases f with q|q;subst q;rw[MI];exact Ue h0 (Ue h0 k);exact Int.add_pos_of_nonneg_of_pos (Int.add_nonneg j a) q
 intro d
 induction d with
 |zero =>
  intro i g a e f;exact So i (by rw[g];exact VP _) a e f
 |succ d ih =>
  intro i g a e f;have b:i+2<N:=by rw[g];lia
  by_cases z:0<tn (Om h (c 0)) (Om h (c (i+2)));have c:i+1+d+2=i+(d+1)+2:=by lia
  exact ih (i+1) (by rw[g];lia) (by rw[c];exact a) (QI z) (.inr z);refine So i b ?_ e f;rw[cL];exact Int.neg_nonneg_of_nonpos (VT.mp z)
def vP{h:Tr}(g:mh hs ps)(c:ps ≠ [])(h0:0<h.1)(a:∀b∈aI hs,0<=N9 b h):nM h ps:=by
 obtain⟨p,o,b,_⟩:=g.T4 c;have f:0<hs.length:=by rw[b];exact Wz _
 have l:∀i,i<hs.length->hs.getD i (0,0)∈ps:=λi b=>by rw[Py,O2 b];exact g.mem _ (SE _)
 unfold aI at a;by_cases c:hs.length<3;rw[Og c]at a;exact Fe (l 0 f) (l (hs.length - 1) (Nat.sub_lt f Nat.one_pos)) a;rw[Oc c]at a;obtain⟨d,e⟩:∃d,hs.length=0+d+3:=⟨hs.length - 3,by lia⟩;have m:∀k,k<hs.length->0<=tn (Om h (bH hs k)) (Om h (hs.getD k (0,0))):=λk j=>by rw[Gx];exact QU (QI h0) (a _ (OZ.mpr ⟨k,XT.mpr ⟨QS _,by rw[UW];exact j⟩,rfl⟩))
 have n:bH hs 0=hs.getD (0+d+2) (0,0):=by unfold bH;rw[UW,e];show hs.getD ((0+d+2) % (0+d+3)) _=_;rw[S5 (VP _)]
 have a:∀k,k+1<hs.length->bH hs (k+1)=hs.getD k (0,0):=λk j=>by unfold bH;rw[Nat.add_right_comm];show hs.getD ((k+hs.length) % hs.length) _=_;rw[Zv,S5 (zC7 j)]
 have j:∀i,i+1<hs.length->0<=tn (Om h (hs.getD i (0,0))) (Om h (hs.getD (i+1) (0,0))):=λi b=>by have:=m (i+1) b;rw[a i b]at this;exact this
 have a:=m 0 f;rw[n]at a;exact Gq (c:=λi=>hs.getD i (0,0)) h0 l j (g.Ts (by rw[e];lia)) d 0 e a (j 0 (by rw[e];lia)) (.inl rfl)
def vi{u v x y:Int}(e:u*y=v*x)(a:0<u∨(u=0/\0<v))(b:0<x∨(x=0/\0<=y)):0<=u*x+v*y:=by
 rcases a with a|⟨a,d⟩;have c:(u*x+v*y)*u=(u*u+v*v)*x:=by grind
 refine L4 (y:=u) ?_ a;rw[c];refine QU (Int.add_nonneg (Yo u) (Yo v)) ?_
 lia
 subst a;rw[VA]at e ⊢;rw[Int.zero_add];rcases Uc.mp e.symm with q|q
 lia
 rcases b with r|r
 lia
 exact QU (QI d) r.2
def uA(h:¬fV q p):0<q.1 - p.1∨(q.1 - p.1=0/\0<=q.2 - p.2):=by
 unfold fV at h
 lia
def Hw{a b:Sp}{g:Tr}(i:a≠b)(k:¬fV b a)(f:¬fV p a)(e:¬fV b p)(h0:cr a b p=0)(c:g∈fC a b):0<=N9 g (1,p.1,p.2):=by
 have d:∀w a:Sp,N9 (bZ a w) (1,p.1,p.2)=w.1*(p.1 - a.1)+w.2*(p.2 - a.2):=λw a=>by unfold N9 bZ;grind
 rw[cg]at h0;have g:(b.1 - a.1)*(p.2 - a.2)=(b.2 - a.2)*(p.1 - a.1):=Int.eq_of_sub_eq_zero h0;have j:(b.1 - a.1)*(b.2 - p.2)=(b.2 - a.2)*(b.1 - p.1):=by grind
 have h:0<b.1 - a.1∨(b.1 - a.1=0/\0<b.2 - a.2):=by
  rcases uA k with q|⟨q,r⟩;exact .inl q;refine .inr ⟨q,?_⟩;grind
 have a:=vi g h (uA f);have l:=vi j h (uA e);unfold fC aM at c;rw[Oc i]at c;simp at c;rcases c with q|q|q|q<;>rw[q,d]<;>simp only[T5,Tb,Uq];exact a;grind;rw[SG,g,Int.add_left_neg];exact R8 _
 simp_all [Int.neg_neg,SG,Int.add_right_neg,R8]
def qq(g:mh hs ps)(c:ps ≠ []){b:Tr}(a:b∈aI hs){p:Sp}(f:p∈ps):0<=N9 b (1,p.1,p.2):=by
 obtain⟨k,e,h,d⟩:=g.T4 c;unfold aI at a;by_cases c:hs.length<3;rcases e with _|⟨j,_|⟨z,r⟩⟩;have e:=g.one k h p f;subst e;rw[h]at a;have i:∀w:Sp,N9 (bZ p w) (1,p.1,p.2)=0:=λw=>by unfold N9 bZ;grind
 unfold fC at a;simp at a;rcases a with q|q|q|q<;>rw[q,i]<;>exact R8 _;have e:=g.two k j h;rw[h]at a;exact Hw e.1 (d j (g.mem j (by simp_all))) (d p f) (e.2 p f).2 (e.2 p f).1 a;rw[h]at c;exact absurd c (by simp);rw[Oc c]at a;obtain⟨k,l,e⟩:=OZ.mp a;have c:k<hs.length:=by simp_all
 have a:N9 b (1,p.1,p.2)=cr (bH hs k) (hs.getD k (0,0)) p:=by rw[<- e,cg];unfold N9 eG;grind
 rw[a];exact g.P6 (by lia) k c p f
def br(w:Sp):Int:=((w.1.natAbs:Nat):Int)+((w.2.natAbs:Nat):Int)
def bR:Int->yaf->Int
 |d,[]=>d
 |d,x::a=>bR ((Int.gcd d x:Nat):Int) a
def c8(xs:yaf):yaf:=xs.map λx=>x.fdiv (bR 0 xs)
def mi(a:Sp):Option (yaf):=if br a=0 then some [1]else none
def kU(a b:Sp):Option (yaf):=if tn a b=0/\OO a b<0 then some (c8 [br b,br a])else none
def jg(a b e:Sp):Option (yaf) :=
 if 0<tn b e/\0<tn e a/\0<tn a b then some (c8 [tn b e,tn e a,tn a b])
 else if tn b e<0/\tn e a<0/\tn a b<0 then some (c8 [-tn b e,-tn e a,-tn a b])else none
def dO:yau->Option (yaf)
 |[]=>none
 |[a]=>mi a
 |[a,b]=>kU a b
 |a::b::e::_=>jg a b e
def SY(ws:yau)(a:yag):yau:=a.map λk=>ws.getD k (0,0)
def bW(ws:yau):List (yag)->Option (yag×yaf)
 |[]=>none
 |pk::r=>match dO (SY ws pk)with
  |some a=>some (pk,a)
  |none=>bW ws r
def cF(n:Nat):List (yag):=O6 n 1++(O6 n 2++O6 n 3)
def oD:br a=0↔a=(0,0):=by
 unfold br;obtain⟨x,y⟩:=a;simp only[Prod.mk.injEq]
 lia
theorem vM:∀{a:List (yag)},bW ws a=none->∀b∈a,dO (SY ws b)=none
 |[],_,b,h=>by cases h
 |a::r,e,b,h=>by
  unfold bW at e;cases hb:dO (SY ws a)with
  |some s=>simp_all
  |none =>
   rw[hb]at e;rcases OK.mp h with q|q
   lia
   exact vM e b q
def qW{n i:Nat}(h:i<n):[i]∈O6 n 1:=by simp only[O6,Zs,List.flatMap_nil,U8];exact OZ.mpr ⟨i,XT.mpr ⟨QS _,by simp[dg];exact h⟩,rfl⟩
def qX{n i j:Nat}(h:i<j)(a:j<n):[i,j]∈O6 n 2:=by
 have:=qW (n:=n) (i:=i) (by lia);refine Zz.mpr ⟨[i],this,OZ.mpr ⟨j,XT.mpr ?_,rfl⟩⟩;simp[dg]
 lia
def GN{n i j k:Nat}(h:i<j)(b:j<k)(a:k<n):[i,j,k]∈O6 n 3:=by
 have:=qX (n:=n) h (by lia);refine Zz.mpr ⟨[i,j],this,OZ.mpr ⟨k,XT.mpr ?_,rfl⟩⟩;simp[dg]
 lia
def IE(h:gY a b):kU a b≠none:=by unfold kU;have c:tn a b=0/\OO a b<0:=h;rw[Og c];simp
def IF(h:dM a b e):jg a b e≠none:=by
 unfold jg;rcases h with h|h;rw[Og h];simp;rw[Oc (by lia),Og h];simp
def FX(n:nM h ps):bW (ps.map (Om h)) (cF ps.length)≠none:=by
 intro e;have N:=vM e;have c:∀{i:Nat} {p:Sp},ps[i]?=some p->(ps.map (Om h)).getD i (0,0)=Om h p:=fun {i p} q=>by rw[Py,PO,q];rfl
 have m:∀{i:Nat} {p:Sp},ps[i]?=some p->i<ps.length:=fun {i p} q=>(QH.mp q).1
 have g:∀i j p q,ps[i]?=some p->ps[j]?=some q->i<j->gY (Om h p) (Om h q)->False:=λi j p q e d l b=>by have:=N [i,j] (Rw _ (Uj _ (qX l (m d))));unfold SY at this;simp only[Pj,Vy,c e,c d]at this;exact IE b this
 have a:∀i j k p q r,ps[i]?=some p->ps[j]?=some q->ps[k]?=some r->i<j->j<k->dM (Om h p) (Om h q) (Om h r)->False:=λi j k p q r e d f l o b=>by have:=N [i,j,k] (Rw _ (Rw _ (GN l o (m f))));unfold SY at this;simp only[Pj,Vy,c e,c d,c f]at this;exact IF b this
 rcases n with⟨p,l,b⟩| ⟨p,l,q,n,b⟩| ⟨p,l,q,n,r,o,b⟩;obtain⟨i,e⟩:=Zk.mp l;have:=N [i] (Uj _ (qW (m e)));unfold SY at this;simp only[Pj,Vy,c e]at this;have c:mi (Om h p)=none:=this;unfold mi at c;rw[Og (oD.mpr b)]at c;cases c;obtain⟨i,e⟩:=Zk.mp l;obtain⟨j,d⟩:=Zk.mp n;rcases Yw i j with c|c|c;exact g i j p q e d c b;subst c;rw[e]at d;cases d;have m:=b.2;unfold OO at m;have:=Yo (Om h p).1;have:=Yo (Om h p).2
 lia
 exact g j i q p d e c b.symm
 ·obtain⟨i,e⟩:=Zk.mp l;obtain⟨j,d⟩:=Zk.mp n;obtain⟨k,f⟩:=Zk.mp o;have g:∀{i j:Nat} {p q r:Sp},ps[i]?=some p->ps[j]?=some q->dM (Om h p) (Om h q) r->i≠j:=fun {i j p q r} e d b c=>by
   subst c;rw[e]at d;cases d;unfold dM at b;rw[p6]at b
   lia
  have c:=g e d b;have m:=g d f b.XN;have l:=g f e b.XN.XN;rcases Zr c with h|h
  ·rcases Zr m with g|g;exact a i j k p q r e d f h g b
   ·rcases Zr l with c|c;exact a k i j r p q f e d c h b.XN.XN
    ·exact a i k j p r q e f d c g b.XN.XN.swap
  ·rcases Zr m with g|g
   ·rcases Zr l with c|c;exact a j k i q r p d f e g c b.XN
    ·exact a j i k q p r d e f h c b.swap
   ·exact a k j i r q p f d e g h b.XN.swap
theorem ye(k:Int)(a:0<=k):∀(xs:yaf) (d:Int),bR (k*d) (xs.map (k*·))=k*bR d xs
 |[],d=>rfl
 |x::xs,d=>by show bR ((Int.gcd (k*d) (k*x):Nat):Int) (xs.map (k*·))=_;rw[zDC,Int.natCast_mul,Int.natAbs_of_nonneg a,ye k a xs];rfl
structure Snt(A B C E g:Int)(w v:Sp):Prop where
 x:g*v.1=A*w.1+B*w.2
 y:g*v.2=C*w.1+E*w.2
def EI(h:tn a b=0):OO b b*a.1+(-(OO a b))*b.1=0/\OO b b*a.2+(-(OO a b))*b.2=0:=by
 have d:OO b b*a.1+(-(OO a b))*b.1=b.2*tn a b:=by unfold OO tn;grind
 have c:OO b b*a.2+(-(OO a b))*b.2=- (b.1*tn a b):=by unfold OO tn;grind
 simp_all
def qS{a:Sp}(h:a≠(0,0)):0<br a:=by
 have:br a≠0:=λe=>h (oD.mp e)
 unfold br at this ⊢
 lia
def Ou(g:Tr):D:=T3 g.1 g.2.1 g.2.2
def Kf(h:Ou p=Ou q):p=q:=by
 unfold Ou T3 at h
 lia
def Kg{ps qs:yaw}(h:ps.map Ou=qs.map Ou):ps=qs:=i8 Kf h
def gg(p:Tr):aB (Ou p)=Ou p:=by unfold Ou T3;simp only[cJ,aW,bC,eX]
def tW(ps:yaw):aU (ps.map Ou)=ps.map Ou:=cI Ou gg ps
def oL:Option (yaf)->D
 |none=>.ON
 |some a=>.lst true (a.map D.int)
structure WB(n:Nat)(w:Sp):Prop where
 x:Bd n w.1
 y:Bd n w.2
structure PB(n:Nat)(h:Tr):Prop where
 b0:0<h.1
 b:Bd 100 h.1
 x:Bd n h.2.1
 y:Bd n h.2.2
theorem WB.mono{m:Nat}(h:WB n w)(a:n<=m):WB m w:=⟨h.x.mono a,h.y.mono a⟩
def WB.sb(h:WB 60 w):SB w:=⟨h.x,h.y⟩
def RE(b:Bd n x)(a:Bd m y)(c:n<=1000:=by decide)(d:m<=1000:=by decide):CM x y:=.inr (.inr ⟨b.mono (PL c (by decide)),a.mono (PL d (by decide))⟩)
theorem vF(x:Int):∀(d:Int) (xs:yaf),bR d (xs++[x])=((Int.gcd (bR d xs) x:Nat):Int)
 |d,[]=>rfl
 |d,y::a=>vF x _ a
def uz(h:WB n w):Bd (n+2) (br w):=by
 have b:=h.x;have a:=h.y;unfold Bd br at *
 lia
def Jg{x:Int}(h:x≠0):0<Int.gcd ((Int.gcd 0 d:Nat):Int) x:=Int.gcd_pos_iff.mpr (.inr h)
def DZ(a:Bd n x)(h:x≠0):Bd n ((Int.gcd d x:Nat):Int):=by
 unfold Bd at *;have:=Nat.le_of_dvd (by lia) (Int.gcd_dvd_natAbs_right d x)
 lia
def nW(h:Bd n x):Bd n (-x):=by unfold Bd at *;lia
def Lv(p q:Sp):eqD (Pm p) (Pm q)=decide (p=q):=by
 unfold Pm;rw[AM,kG,kG,kG,xY,jT,jT,jT,Bool.and_true]
 lia
def Dg{a:Type}{xs:List a}{v:a}(h0:0<xs.length)(h:xs[xs.length - 1]?=some v):Qw xs (-1)=some v:=by unfold Qw ixN;rw[Oc (by lia),Og (by lia)];rw[show(-1+(xs.length:Int)).toNat=xs.length - 1 by lia];exact h
structure GB(g:Tr):Prop where
 a:Bd 200 g.1
 b:Bd 200 g.2.1
 c:Bd 200 g.2.2
def FT(d:SB a)(c:SB b):WB 62 (aM a b):=by unfold aM;split;exact⟨by unfold Bd;decide,by unfold Bd;decide⟩;exact⟨by rw[Uq,Uq];exact Bd.mono (m:=61) (c.x.sub d.x) (by decide),by show Bd 62 (1*b.2 - 1*a.2);rw[Uq,Uq];exact Bd.mono (m:=61) (c.y.sub d.y) (by decide)⟩
def mj(hs:yau):(aI hs).length<=hs.length+4:=by
 unfold aI fC;split
 all_goals simp_all
def uI(n:Nat):Nat->List (yag)
 |0=>O6 n 1++(O6 n 2++(O6 n 3++[]))
 |1=>O6 n 2++(O6 n 3++[])
 |2=>O6 n 3++[]
 |_=>[]
def EW(n:Nat){j:Nat}(h:j<3):uI n j=O6 n (j+1)++uI n (j+1):=by
 rcases j with _|_|_|j;rfl;rfl;rfl
 lia
def Hf(n:Nat):cF n=uI n 0:=by
 show O6 n 1++(O6 n 2++O6 n 3)=O6 n 1++(O6 n 2++(O6 n 3++[]))
 simp_all
def Em(ws:yau)(a:yag)(r:List (yag)):bW ws (a::r)=match dO (SY ws a)with
  |some b=>some (a,b)
  |none=>bW ws r:=rfl
def MX{g p b:Int}(a:0<g)(e:g*p=b)(h:Bd n b):Bd n p:=by
 unfold Bd at *;rw[<- e,XZ]at h;have:1*p.natAbs<=g.natAbs*p.natAbs:=Zm _ (by lia)
 lia
def p8:((10:Int) ^ (8:Int).toNat)=100000000:=by decide
def JC(n:Nat)(x:Str)(a:PyData.strOk x=true):P4 n (.str x):=⟨by rw[Ug]<;>(intros;contradiction),by exact a,by rw[QL,PyData.depth];lia⟩
def Gv{a:Int}(c:Bd 402 b)(h:b≠0):Bd 1000 (bR 0 [a,b]):=(DZ c h).mono (by decide)
def Dw{a:Type}{wi:DA}{js:yag}{tc:DT}{te:DE}{Q:D->Prop}{P:List a->Prop}(f:a->D)(c:a->Bool)(g:a->D)(b:∀R:yas->Prop,(∀ys,P ys->R (ys.map f))->wi ρ R)(hz:∀ys,P ys->ys.length<=sizeLine)
  (e:∀ys,P ys->∀x∈ys,∀K:Bool->Prop,K (c x)->tc (some (.val (f x))::js.map (bA ρ)) K)
  (d:∀ys,P ys->∀x∈ys,∀K:D->Prop,K (g x)->te (some (.val (f x))::js.map (bA ρ)) K) (q:∀ys,P ys->Q (.lst true ((ys.filter c).map g))):pJ wi js tc te ρ Q:=by
 refine b _ λys a=>?_
 have:=PD.comp_map (wi:=λ_ R=>R (ys.map f)) (js:=js) (tc:=tc) (te:=te) (ρ:=ρ) (Q:=Q) ys f c g (λR h=>h) (hz ys a) (λx b K k=>e ys a x b K k) (λx b _ K k=>d ys a x b K k) (q ys a);exact this
def yX:∀{xs ys ps:yau},cO xs ps->cO ys ps->xs=ys:=by
 have j:∀(xs ys:yau),xs.Pairwise (λp q=>fV p q)->ys.Pairwise (λp q=>fV p q)->(∀p,p∈xs↔p∈ys)->xs=ys:=by
  intro xs
  induction xs with
  |nil =>
   intro ys _ _ h;cases ys with
   |nil=>rfl
   |cons y ys=>have:=(h y).mpr RB;cases this
  |cons x xs ih =>
   intro ys b a h;cases ys with
   |nil=>have:=(h x).mp RB;cases this
   |cons y ys =>
    obtain⟨f,i⟩:=Um.mp b;obtain⟨d,g⟩:=Um.mp a;have c:x=y:=by
     rcases OK.mp ((h x).mp RB)with e|e;exact e;rcases OK.mp ((h y).mpr RB)with e'|e';exact e'.symm;have a:=d x e;have b:=f y e';unfold fV at a b;omega
    subst c;have a:∀p:Sp,¬fV p p:=λp=>by unfold fV;omega
    rw[ih ys i g λp=>⟨λb=>?_,λb=>?_⟩];rcases OK.mp ((h p).mp (Pz _ b))with e|e;have:=f p b;rw[e]at this;exact absurd this (a x);exact e;rcases OK.mp ((h p).mpr (Pz _ b))with e|e;have:=d p b;rw[e]at this;exact absurd this (a x);exact e
 intro xs ys ps b a;exact j xs ys b.1 a.1 λp=>(b.2 p).trans (a.2 p).symm
def okX(x:Int):Prop:=0<=x/\x<2147483647
def wsum(a:yaf)(ws:yau):Sp:=((List.zipWith (λs (w:Sp)=>s*w.1) a ws).sum,(List.zipWith (λs (w:Sp)=>s*w.2) a ws).sum)
theorem qP:∀(d:Int) (xs:yaf),bR d xs∣d/\∀x∈xs,bR d xs∣x
 |d,[]=>⟨Int.dvd_refl _,by simp⟩
 |d,x::xs=>by
  obtain⟨a,b⟩:=qP ((Int.gcd d x:Nat):Int) xs;refine⟨X0 a (Int.gcd_dvd_left _ _),λy c=>?_⟩;rcases OK.mp c with z|z;rw[z];exact X0 a (Int.gcd_dvd_right _ _);exact b y z
theorem yf:∀(d:Int) (xs:yaf),0<=d->0<=bR d xs
 |d,[],h=>h
 |d,x::xs,_=>yf _ xs (by simp_all)
structure BN(xs:yaf):Prop where
 pos:∀s∈c8 xs,0<s
 one:bR 0 (c8 xs)=1
 back:∃g:Int,0<g/\(c8 xs).map (g*·)=xs
def lV{xs:yaf}(a:xs ≠ [])(h:∀x∈xs,0<x):BN xs:=by
 obtain⟨d,b⟩:=zCk xs a;have c:0<bR 0 xs:=by
  have a:=yf 0 xs (R8 _);have:bR 0 xs≠0:=λe=>by have:=(qP 0 xs).2 d b;rw[e]at this;grind
  lia
 have a:(c8 xs).map (bR 0 xs*·)=xs:=by
  unfold c8;rw[Pp];have:∀x∈xs,((bR 0 xs*·)∘λx=>x.fdiv (bR 0 xs)) x=x:=λx f=>by simp_all [Int.fdiv_eq_ediv_of_dvd,qP,Int.mul_ediv_cancel']
  rw[Wv this,List.map_id']
 refine⟨λs g=>?_,?_,_,c,a⟩;have i:bR 0 xs*s∈xs:=by grind
 exact G9 (y:=bR 0 xs) (by simp_all [Rx]) c;have:=ye (bR 0 xs) (QI c) (c8 xs) 0;rw[a,Vz]at this;have a:bR 0 xs*1=bR 0 xs*bR 0 (c8 xs):=by lia
 exact(zDM (by lia) a).symm
structure wG(ws:yau)(sh:yaf):Prop where
 len:sh.length=ws.length
 pos:∀s∈sh,0<s
 one:bR 0 sh=1
 sum:wsum sh ws=(0,0)
def Kh(h:gY a b):br b*a.1+br a*b.1=0/\br b*a.2+br a*b.2=0:=by
 have c:b≠(0,0):=λe=>by have:=h.2;unfold OO at this;simp_all
 obtain⟨g,f⟩:=EI h.1;have d:=jS c;have c:0 < -(OO a b):=by have:=h.2;lia
 generalize OO b b=x at g f d;generalize -(OO a b)=y at g f c;have l:x*br a=y*br b:=by
  have g:x.natAbs*a.1.natAbs=y.natAbs*b.1.natAbs:=by rw[<- XZ,<- XZ];lia
  have f:x.natAbs*a.2.natAbs=y.natAbs*b.2.natAbs:=by rw[<- XZ,<- XZ];lia
  have h:=congrArg (λn:Nat=>(n:Int)) g;have g:=congrArg (λn:Nat=>(n:Int)) f;simp only[Int.natCast_mul,Int.natAbs_of_nonneg (QI d),Int.natAbs_of_nonneg (QI c)]at h g;unfold br
  simp_all [Int.mul_add]
 have z:∀u v:Int,x*u+y*v=0->br b*u+br a*v=0:=λu v e=>by
  have:x*(br b*u+br a*v)=br b*(x*u+y*v)+v*(x*br a - y*br b):=by grind
  rw[e,l,Int.sub_self,Vz,Vz,Int.add_zero]at this;exact(Uc.mp this).resolve_left (by lia)
 simp_all
def rY(L:BN xs)(h:wsum xs ws=(0,0)):wsum (c8 xs) ws=(0,0):=by
 obtain⟨g,d,c⟩:=L.back;have b:∀(f:Sp->Int) (l:yaf) (a:yau),(List.zipWith (λs w=>s*f w) (l.map (g*·)) a).sum=g*(List.zipWith (λs w=>s*f w) l a).sum:=λf l=>by
  induction l with
  |nil=>simp_all
  |cons s l ih =>
   intro a;cases a with
   |nil=>simp
   |cons u a =>
    simp;rw[ih a,Int.mul_add,Yz]
 unfold wsum at h ⊢;rw[<- c]at h;rw[b (λw=>w.1),b (λw=>w.2)]at h;have z:∀t:Int,g*t=0->t=0:=λt e=>(Uc.mp e).resolve_left (by lia)
 simp_all
def nV{ws:yau}{f:yaf}(n:ws.length<=3)(h:dO ws=some f):wG ws f:=by
 rcases ws with _|⟨a,_|⟨b,_|⟨e,_|⟨z,r⟩⟩⟩⟩;cases h;have d:mi a=some f:=h;unfold mi at d;split at d;rename_i c;cases d;have:=oD.mp c;subst this;exact⟨rfl,by simp,rfl,by unfold wsum;simp⟩
 lia
 ·have d:kU a b=some f:=h;unfold kU at d;split at d
  ·rename_i c;cases d;have i:gY a b:=c;have m:a≠(0,0):=λe=>by have:=c.2;unfold OO at this;simp_all
   have l:b≠(0,0):=λe=>by have:=c.2;unfold OO at this;simp_all
   have L:=lV (xs:=[br b,br a]) (by simp) λx g=>by
    simp at g;rcases g with rfl|rfl
    all_goals simp_all [qS]
   obtain⟨k,j⟩:=Kh i;refine⟨by unfold c8;simp,L.pos,L.one,rY L ?_⟩;unfold wsum
   simp_all
  lia
 have d:jg a b e=some f:=h;obtain⟨p,o⟩:=FZ a b e;unfold jg at d;split at d;cases d;have L:=lV (xs:=[tn b e,tn e a,tn a b]) (by simp) (by simp_all);refine⟨by unfold c8;simp,L.pos,L.one,rY L ?_⟩;unfold wsum
 simp_all [Int.add_assoc]
 split at d;cases d;have L:=lV (xs:=[-tn b e,-tn e a,-tn a b]) (by simp) (by grind);refine⟨by unfold c8;simp,L.pos,L.one,rY L ?_⟩;unfold wsum;simp;grind
 lia
 simp_all
theorem vN:∀{b:List (yag)} {c:yag} {a:yaf},bW ws b=some (c,a)->c∈b/\dO (SY ws c)=some a
 |[],_,_,h=>by cases h
 |p::q,c,a,h=>by
  rw[show bW ws (p::q)=(match dO (SY ws p)with|some a=>some (p,a)|none=>bW ws q)from rfl]at h;cases hb:dO (SY ws p)with
  |none =>
   rw[hb]at h;obtain⟨a,b⟩:=vN h;grind
  |some s =>
   grind
theorem yD:∀{j:Nat} {a:yag},a∈O6 n j->a.Pairwise (·<·)
 |0,a,h=>by
  simp only[O6,QY]at h
  simp_all
 |j+1,a,h=>by
  simp only[O6,Zz]at h;obtain⟨q,a,h⟩:=h;have ih:=yD a;obtain⟨k,a,rfl⟩:=OZ.mp h;rw[XT]at a;refine zDG.mpr ⟨ih,by simp_all,λx b y a=>?_⟩;rw[QY.mp a];have d:x<dg q:=by
   unfold dg;cases e:q.getLast? with
   |none=>simp_all
   |some l =>
    obtain⟨c,rfl⟩:=List.getLast?_eq_some_iff.mp e;rcases Qn.mp b with z|z;have:=(zDG.mp ih).2.2 x z l (by simp)
    lia
    simp_all
  lia
theorem pT:∀ps:yau,di (ps.map Ov)=true
 |[]=>by rw[Vy,di]
 |p::r=>by rw[Pj,di,pT r];unfold Ov;simp only[kc,di,Bool.and_true]
def sX(ps:yau)(ws:yaf):Int:=(List.zipWith (λ(p:Sp) w=>p.1*w) ps ws).sum
def sY(ps:yau)(ws:yaf):Int:=(List.zipWith (λ(p:Sp) w=>p.2*w) ps ws).sum
structure qH(ps:yau)(h:Tr)(pk:yag)(sh:yaf):Prop where
 l0:0<pk.length
 l3:pk.length<=3
 ls:sh.length=pk.length
 rise:pk.Pairwise (·<·)
 lt:∀k∈pk,k<ps.length
 pos:∀s∈sh,0<s
 bd:∀s∈sh,Bd 900 s
 one:bR 0 sh=1
 x:sh.sum*h.2.1=h.1*sX (pk.map λk=>ps.getD k (0,0)) sh
 y:sh.sum*h.2.2=h.1*sY (pk.map λk=>ps.getD k (0,0)) sh
theorem zx(h:Tr):∀(qs:yau) (c:yaf),c.length=qs.length->(wsum c (qs.map (Om h))).1=h.1*sX qs c - c.sum*h.2.1/\(wsum c (qs.map (Om h))).2=h.1*sY qs c - c.sum*h.2.2
 |[],[],_=>by unfold wsum sX sY;simp
 |[],_::_,h=>by simp at h
 |_::_,[],h=>by simp at h
 |q::qs,s::c,d=>by obtain⟨a,b⟩:=zx h qs c (by simp_all);unfold wsum sX at a;unfold wsum sY at b;unfold wsum sX sY;simp at a b ⊢;rw[a,b];unfold Om;grind
def yG(L:BN xs)(h:∀x∈xs,Bd n x):∀s∈c8 xs,Bd n s:=λs a=>by obtain⟨g,b,c⟩:=L.back;have:g*s∈(c8 xs).map (g*·):=OZ.mpr ⟨s,a,rfl⟩;rw[c]at this;exact MX b rfl (h _ this)
def xn{ws:yau}{f:yaf}(g:∀w∈ws,WB 400 w)(l:ws.length<=3)(h:dO ws=some f):∀s∈f,Bd 900 s:=by
 rcases ws with _|⟨a,_|⟨b,_|⟨e,_|⟨z,r⟩⟩⟩⟩;cases h;have d:mi a=some f:=h;unfold mi at d;split at d;cases d;intro s c;rw[QY.mp c];unfold Bd
 lia
 lia
 ·have d:kU a b=some f:=h;unfold kU at d;split at d
  ·rename_i c;cases d;have k:a≠(0,0):=λe=>by have:=c.2;unfold OO at this;simp_all
   have j:b≠(0,0):=λe=>by have:=c.2;unfold OO at this;simp_all
   have L:=lV (xs:=[br b,br a]) (by simp) λx c=>by
    simp at c;rcases c with rfl|rfl
    all_goals simp_all [qS]
   refine yG L λx c=>?_
   simp at c;rcases c with rfl|rfl;exact(uz (g b (by simp))).mono (by decide);exact(uz (g a (by simp))).mono (by decide)
  lia
 ·have d:jg a b e=some f:=h;have i:=g a (by simp);have h:=g b (by simp);have f:=g e (by simp);have p:Bd 900 (tn b e):=Bd.mono (m:=801) ((h.x.mul f.y).sub (f.x.mul h.y)) (by decide);have o:Bd 900 (tn e a):=Bd.mono (m:=801) ((f.x.mul i.y).sub (i.x.mul f.y)) (by decide);have n:Bd 900 (tn a b):=Bd.mono (m:=801) ((i.x.mul h.y).sub (h.x.mul i.y)) (by decide);unfold jg at d;split at d;cases d;have L:=lV (xs:=[tn b e,tn e a,tn a b]) (by simp) (by simp_all);refine yG L λx c=>?_
  grind
  ·split at d
   ·cases d;have L:=lV (xs:=[-tn b e,-tn e a,-tn a b]) (by simp) (by simp_all);refine yG L λx c=>?_
    simp at c;rcases c with rfl|rfl|rfl
    all_goals simp_all [nW]
   lia
 simp_all
def M7{ps:yau}{a:yag}{d:yaf}(C:∀p∈ps,WB 40 p)(f:PB 160 h)(e:bW (ps.map (Om h)) (cF ps.length)=some (a,d)):qH ps h a d:=by
 obtain⟨z,c⟩:=vN e;have b:∃j,0<j/\j<=3/\a∈O6 ps.length j:=by unfold cF at z;grind
 obtain⟨j,H,G,n⟩:=b;obtain⟨l,q⟩:=dI n;have o:SY (ps.map (Om h)) a=(a.map λk=>ps.getD k (0,0)).map (Om h):=by
  unfold SY
  simp_all
 have x:(SY (ps.map (Om h)) a).length=j:=by unfold SY;rw[Of,l]
 have u:∀w∈SY (ps.map (Om h)) a,WB 400 w:=λw i=>by rw[o]at i;obtain⟨p,y,rfl⟩:=OZ.mp i;obtain⟨k,A,rfl⟩:=OZ.mp y;have lk:=q k A;have B:=C (ps.getD k (0,0)) (by rw[Py,O2 lk];exact SE lk);refine⟨?_,?_⟩;show Bd 400 (h.1*_ - 1*h.2.1);rw[Uq];exact Bd.mono (m:=161) (((f.b.mul B.x).mono (by decide)).sub f.x) (by decide);show Bd 400 (h.1*_ - 1*h.2.2);rw[Uq];exact Bd.mono (m:=161) (((f.b.mul B.y).mono (by decide)).sub f.y) (by decide)
 have B:=nV (by lia) c;have E:=xn u (by lia) c;have s:=B.sum;have g:d.length=a.length:=by rw[B.len,x,l]
 rw[o]at s;obtain⟨t,r⟩:=zx h (a.map λk=>ps.getD k (0,0)) d (by rw[g,Of]);rw[s]at t r;exact⟨by lia,by lia,g,yD n,q,B.pos,E,B.one,by lia,by lia⟩
noncomputable def OU(a b:Tr):Tr:=(a.2.1*b.2.2 - a.2.2*b.2.1,a.2.2*b.1 - a.1*b.2.2,a.1*b.2.1 - a.2.1*b.1)
def PT(a b c:Tr):Int:=N9 (OU a b) c
def fh(a b c:Tr):PT a b c=PT b c a:=by unfold PT N9 OU;grind
def qN(a b c:Tr):PT a b c=- PT b a c:=by unfold PT N9 OU;grind
def DV(a c:Tr):PT a a c=0:=by unfold PT N9 OU;grind
def pL(a b:Tr):PT a b a=0:=by unfold PT N9 OU;grind
def pM(a b:Tr):PT a b b=0:=by unfold PT N9 OU;grind
structure Yp(q a b:Tr)(m s t:Int):Prop where
 m0:0<m
 s0:0<s
 t0:0<t
 e1:m*q.1=s*a.1+t*b.1
 e2:m*q.2.1=s*a.2.1+t*b.2.1
 e3:m*q.2.2=s*a.2.2+t*b.2.2
def Yp.gv(C:Yp q a b m s t)(g:Tr):m*N9 g q=s*N9 g a+t*N9 g b:=by have e:=C.e1;have d:=C.e2;have c:=C.e3;unfold N9;grind
def Yp.Z0(C:Yp q a b m s t)(d:0<=N9 g a)(c:0<=N9 g b):0<=N9 g q:=by
 have h:=C.gv g;have f:=QU (QI C.s0) d;have e:=QU (QI C.t0) c;have:0<=m*N9 g q:=by lia
 exact Wt this C.m0
def Yp.zero(C:Yp q a b m s t)(d:N9 g a=0)(c:N9 g b=0):N9 g q=0:=by
 have h:=C.gv g;rw[d,c]at h;have a:m*N9 g q=0:=by lia
 rcases Uc.mp a with z|z;have:=C.m0;lia;exact z
def aJ(g:Tr)(a:Tr->Tr->Tr):Tr->yaw->yaw
 |_,[]=>[]
 |p,c::r=>(if N9 g p*N9 g c<0 then[a p c]else[])++((if 0<=N9 g c then[c]else[])++aJ g a c r)
def VJ(g:Tr)(a:Tr->Tr->Tr):Prop:=∀p c:Tr,0<p.1->0<c.1->N9 g p*N9 g c<0->(∃m s t,Yp (a p c) p c m s t)/\N9 g (a p c)=0
theorem rW(B:VJ g a):∀(l:yaw) (p:Tr),(∀x∈p::l,0<x.1)->(∀x∈p::l,0<=N9 d x)->∀y∈aJ g a p l,0<=N9 d y
 |[],_,_,_=>λy a=>by cases a
 |c::r,p,d,b=>λy a=>by
  rcases Qn.mp a with q|q;split at q;rename_i a;rw[QY.mp q];obtain⟨⟨m,s,t,C⟩,_⟩:=B p c (d p (by simp)) (d c (by simp)) a;exact C.Z0 (b p (by simp)) (b c (by simp));cases q;rcases Qn.mp q with q|q
  simp_all
  exact rW B r c (λx a=>d x (Pz _ a)) (λx a=>b x (Pz _ a)) y q
theorem rX(B:VJ g d):∀(l:yaw) (p:Tr),(∀x∈p::l,0<x.1)->∀y∈aJ g d p l,0<y.1
 |[],_,_=>λy b=>by cases b
 |c::r,p,a=>λy b=>by
  unfold aJ at b;rcases Qn.mp b with q|q;split at q;rename_i b;rw[QY.mp q];obtain⟨⟨m,s,t,C⟩,_⟩:=B p c (a p (by simp)) (a c (by simp)) b;have h:=Ue C.s0 (a p (by simp));have f:=Ue C.t0 (a c (by simp));have:=C.e1;have e:0<m*(d p c).1:=by lia
  exact Tz.mp λz=>by have:=Int.mul_nonpos_of_nonneg_of_nonpos (QI C.m0) z;lia
  cases q;rcases Qn.mp q with q|q;split at q;rw[QY.mp q];exact a c (by simp);cases q;exact rX B r c (λx b=>a x (Pz _ b)) y q
theorem iI(g:Tr)(d:Tr->Tr->Tr):∀(a:yaw) (p c:Tr) (b:yaw),aJ g d p (a++c::b)=aJ g d p (a++[c])++aJ g d c b
 |[],p,c,b=>by simp only[U9,aJ,U8,US]
 |x::a,p,c,b=>by simp only[UR,aJ,iI g d a x c b,US]
theorem vZ(B:VJ g a):∀(l:yaw) (p:Tr),(∀x∈p::l,0<x.1)->∀y∈aJ g a p l,0<=N9 g y
 |[],_,_=>λy a=>by cases a
 |c::r,p,b=>λy a=>by
  unfold aJ at a;rcases Qn.mp a with q|q;split at q;rename_i a;rw[QY.mp q,(B p c (b p (by simp)) (b c (by simp)) a).2];exact R8 _;cases q;rcases Qn.mp q with q|q;split at q;rename_i a;rw[QY.mp q];exact a;cases q;exact vZ B r c (λx a=>b x (Pz _ a)) y q
theorem pE:∀(l:yaw) (p:Tr) {x:Tr},x∈l->0<=N9 g x->x∈aJ g qf p l
 |[],_,_,h,_=>by cases h
 |c::r,p,x,h,a=>by
  unfold aJ;rcases OK.mp h with rfl|h;rw[Og a];simp;exact Rw _ (Rw _ (pE r c h a))
theorem nE(B:VJ g a):∀(l:yaw) (p z:Tr),(∀x∈p::l,0<x.1)->0<z.1->N9 g p*N9 g z<0->∃y∈aJ g a p (l++[z]),N9 g y=0/\∀d:Tr,(∀x∈p::(l++[z]),0<=N9 d x)->0<=N9 d y
 |[],p,z,i,k,f=>by obtain⟨⟨m,s,t,C⟩,e⟩:=B p z (i p (by simp)) k f;refine⟨a p z,?_,e,λd h=>C.Z0 (h p (by simp)) (h z (by simp))⟩;rw[U9];unfold aJ;rw[Og f];simp
 |c::r,p,z,i,k,f=>by
  rcases Xa (N9 g p*N9 g c) 0 with q|q|q;obtain⟨⟨m,s,t,C⟩,e⟩:=B p c (i p (by simp)) (i c (by simp)) q;refine⟨a p c,?_,e,λd h=>C.Z0 (h p (by simp)) (h c (by simp))⟩;rw[UR];unfold aJ;rw[Og q];simp;have a:N9 g p≠0:=λe=>by rw[e,VA]at f;exact Wy _ f
  have b:N9 g c=0:=(Uc.mp q).resolve_left a;exact⟨c,pE _ _ (by simp) (by lia),b,λd h=>h c (by simp)⟩;have j:N9 g c*N9 g z<0:=by
   rcases Int.lt_or_gt_of_ne (show N9 g p≠0 from λe=>by rw[e,VA]at f;exact Wy _ f)with a|a;have b:0<N9 g z:=Tz.mp λb=>Tz.mpr f (Z7 (QI a) b)
   have d:N9 g c<0:=Tz.mp λd=>Tz.mpr q (Zf (QI a) d)
   exact U6 d b;have b:N9 g z<0:=Tz.mp λb=>Tz.mpr f (QU (QI a) b)
   have d:0<N9 g c:=Tz.mp λd=>Tz.mpr q (Int.mul_nonpos_of_nonneg_of_nonpos (QI a) d)
   exact Zh d b
  obtain⟨y,b,e,h⟩:=nE B r c z (λx a=>i x (Pz _ a)) k j;refine⟨y,?_,e,λd k=>h d λx a=>k x (Pz _ a)⟩;exact Rw _ (Rw _ b)
def T6(l:yaw):Prop:=∀x y z,List.Sublist [x,y,z] l->0<=PT x y z
def T6.sub{k:yaw}(h:T6 l)(s:k.Sublist l):T6 k:=λx y z q=>h x y z (q.trans s)
def kT:yaw->Prop
 |[]=>True
 |p::r=>r.Pairwise (λa b=>0<=PT p a b)/\kT r
theorem T6.p:∀{l:yaw},T6 l->kT l
 |[],_=>True.intro
 |p::r,h=>⟨List.pairwise_iff_forall_sublist.mpr fun {a b} s=>h p a b (s.cons_cons p),T6.p (h.sub (List.sublist_cons_self p r))⟩
theorem kT.t:∀{l:yaw},kT l->T6 l
 |[],_,_,_,_,s=>by cases s
 |p::r,h,x,y,z,s=>by
  cases s with
  |cons _ s=>exact kT.t h.2 x y z s
  |cons_cons _ s=>exact List.pairwise_iff_forall_sublist.mp h.1 s
theorem kS(B:VJ g f):∀(l:yaw) (p:Tr),(∀x∈p::l,0<x.1)->(p::l).Pairwise (λa b=>0<=PT d a b)->(p::aJ g f p l).Pairwise (λa b=>0<=PT d a b)
 |[],_,_,h=>h
 |c::r,p,i,h=>by
  have j:∀x∈c::r,0<x.1:=λx e=>i x (Pz _ e)
  obtain⟨e,k⟩:=Um.mp h;have ih:=kS B r c j k;obtain⟨n,h⟩:=Um.mp ih;have l:∀w∈aJ g f c r,0<=PT d p w:=rW B r c j (d:=OU d p) e;have j:0<=PT d p c:=e c (by simp);unfold aJ;by_cases k:N9 g p*N9 g c<0;obtain⟨⟨m,s,t,C⟩,e⟩:=B p c (i p (by simp)) (i c (by simp)) k;have q:0<=PT d p (f p c):=C.Z0 (g:=OU d p) (by show 0<=PT d p p;rw[pM];exact R8 _) j;have e:∀x,0<=PT d p x->0<=PT d c x->0<=PT d (f p c) x:=λx a b=>by rw[fh,fh]at a b ⊢;exact C.Z0 (g:=OU x d) a b
  have o:0<=PT d (f p c) c:=e c j (by rw[pM];exact R8 _);by_cases b:0<=N9 g c
  simp_all
  rw[Oc b]
  simp_all
  rw[Oc k];by_cases b:0<=N9 g c;rw[Og b];refine Um.mpr ⟨λa c=>?_,ih⟩;simp at c;rcases c with rfl|c;exact j;exact l a c;rw[Oc b];exact Um.mpr ⟨l,h⟩
theorem zu(B:VJ g qf):∀(l:yaw) (p:Tr),(∀x∈p::l,0<x.1)->kT (p::l)->kT (p::aJ g qf p l)
 |[],_,_,h=>h
 |c::r,p,f,h=>by
  have i:∀x∈c::r,0<x.1:=λx a=>f x (Pz _ a)
  have ih:=zu B r c i h.2;have j:(p::c::r).Pairwise λa b=>0<=PT p a b:=Um.mpr ⟨λa _=>by rw[DV];exact R8 _,h.1⟩
  have e:=(Um.mp (kS (d:=p) B (c::r) p f j)).2;refine⟨e,?_⟩;have e:(c::r).Pairwise λa b=>0<=PT p a b:=h.1
  have j:=kS (d:=p) B r c i e;have e:(c::r).Pairwise λa b=>0<=PT c a b:=Um.mpr ⟨λa _=>by rw[DV];exact R8 _,h.2.1⟩
  have h:=kS (d:=c) B r c i e;unfold aJ;by_cases d:N9 g p*N9 g c<0;rw[Og d];obtain⟨⟨m,s,t,C⟩,e⟩:=B p c (f p (by simp)) (f c (by simp)) d;have e:(c::aJ g qf c r).Pairwise λa b=>0<=PT (qf p c) a b:=by refine List.Pairwise.imp ?_ (List.pairwise_and_iff.mpr ⟨j,h⟩);intro a b ⟨x,y⟩;rw[fh]at x y ⊢;exact C.Z0 (g:=OU a b) x y
  by_cases a:0<=N9 g c;rw[Og a];exact⟨e,ih⟩;rw[Oc a];exact⟨(Um.mp e).2,ih.2⟩;rw[Oc d];by_cases a:0<=N9 g c;rw[Og a];exact ih;rw[Oc a];exact ih.2
def Fg{l:yaw}{a:Tr}(h:T6 (l++[a])):T6 (a::(l++[a])):=λx y z s=>by
 cases s with
 |cons _ s=>exact h x y z s
 |cons_cons _ s =>
  obtain⟨d,b,e,f,c⟩:=List.sublist_append_iff.mp s;rcases b with _|⟨w,b⟩;rw[U8]at e;subst e;have:=h y z a (by have:[y,z,a]=[y,z]++[a]:=rfl;exact f.append (List.Sublist.refl _))
  rw[fh];exact this;have f:b=[]:=by have:=c.length_le;simp at this;exact this
  subst f;have b:w=a:=QY.mp (c.subset (by simp));subst b;rcases d with _|⟨u,_|⟨v,d⟩⟩;cases e;cases e;rw[pL];exact R8 _;exact absurd (congrArg List.length e) (by simp)
def Wr(l:yaw)(X:Tr):Prop:=∀h:Tr,(∀p∈l,0<=N9 h p)->0<=N9 h X
def O4(g u v:Tr):Tr:=(N9 g v*u.1 - N9 g u*v.1,N9 g v*u.2.1 - N9 g u*v.2.1,N9 g v*u.2.2 - N9 g u*v.2.2)
def Fu(g u v h:Tr):N9 h (O4 g u v)=N9 g v*N9 h u - N9 g u*N9 h v:=by unfold O4 N9;grind
def EJ(b:N9 g y=0)(a:PT u v y=0):N9 h y*(O4 g u v).1=y.1*N9 h (O4 g u v):=by unfold PT N9 OU at a;unfold O4 N9 at *;dsimp only at *;grind
def Ki(l:N9 g y1=0)(p:N9 g y2=0)(q:PT u v y1<=0)(m:0<=PT u v y2)(e:0<y1.1)(n:0<y2.1)(j:0<=N9 h y1)(o:0<=N9 h y2):0<=N9 h (O4 g u v)*(O4 g u v).1:=by
 by_cases z:PT u v y1=0;have k:=EJ (h:=h) l z;have c:0<=(O4 g u v).1*(O4 g u v).1:=Yo _;have:0<=y1.1*(N9 h (O4 g u v)*(O4 g u v).1):=by
  have:y1.1*(N9 h (O4 g u v)*(O4 g u v).1)=N9 h y1*((O4 g u v).1*(O4 g u v).1):=by rw[<- Yz,<- k,Yz]
  rw[this];exact QU j c
 exact Wt this e;have i:PT u v y1<0:=by lia
 generalize ha:PT u v y1=a at *;generalize hb:PT u v y2=b at *
 let y:Tr:=(b*y1.1 - a*y2.1,b*y1.2.1 - a*y2.2.1,b*y1.2.2 - a*y2.2.2)
 have d:∀f:Tr,N9 f y=b*N9 f y1 - a*N9 f y2:=λf=>by unfold N9;grind
 have k:=EJ (h:=h) (u:=u) (v:=v) (y:=y) (g:=g) (by rw[d,l,p];simp) (by
  show N9 (OU u v) y=0;rw[d];show b*PT u v y1 - a*PT u v y2=0;rw[ha,hb,Rx]
  lia)
 rw[d]at k;have d:0<y.1:=by
  show 0<b*y1.1 - a*y2.1;have:=QU m (QI e);have:=U6 i n
  lia
 have n:0<=b*N9 h y1 - a*N9 h y2:=by
  have:=QU m j;have:=Zf (QI i) o
  lia
 have c:0<=(O4 g u v).1*(O4 g u v).1:=Yo _;have:0<=y.1*(N9 h (O4 g u v)*(O4 g u v).1):=by
  have:y.1*(N9 h (O4 g u v)*(O4 g u v).1)=(b*N9 h y1 - a*N9 h y2)*((O4 g u v).1*(O4 g u v).1):=by rw[<- Yz,<- k,Yz]
  rw[this];exact QU n c
 exact Wt this d
def xD(B:VJ g qf){A C D:yaw}{u v z:Tr}(hz:A++u::(C++v::D)=(A++u::(C++v::D)).dropLast++[z])(So:T6 (A++u::(C++v::D)))(pos:∀x∈A++u::(C++v::D),0<x.1)
  (j:N9 g u*N9 g v<0) (k:∀y∈aJ g qf z (A++u::(C++v::D)),0<=N9 h y):0<=N9 h (O4 g u v)*(O4 g u v).1:=by
 have e:0<u.1:=pos u (by simp);have d:0<v.1:=pos v (by simp);have a:∀x∈C,0<x.1:=λx hx=>pos x (by simp[hx])
 have m:∀x∈A,0<x.1:=λx hx=>pos x (by simp[hx])
 have l:∀x∈D,0<x.1:=λx hx=>pos x (by simp[hx])
 have i:aJ g qf z (A++u::(C++v::D))=aJ g qf z (A++[u])++(aJ g qf u (C++[v])++aJ g qf v D):=by rw[iI g qf A z u,iI g qf C u v]
 obtain⟨b,g,r,c⟩:=nE B C u v (λx hx=>by
  rcases OK.mp hx with rfl|hx;exact e;exact a x hx) d j
 have p:0<b.1:=rX B (C++[v]) u (λx hx=>by
  simp at hx;rcases hx with rfl|hx|rfl;exact e;exact a x hx;exact d) b g
 have n:PT u v b<=0:=by
  have:=c (OU v u) λx hx=>by
   show 0<=PT v u x;simp at hx;rcases hx with rfl|hx|rfl;rw[pM];exact R8 _;have t:=So u x v (by
    have a:List.Sublist [u,x,v] (u::(C++v::D)):=by refine List.Sublist.cons_cons u ?_;have:[x,v]=[x]++[v]:=rfl;rw[this];exact(Ys.mpr hx).append (Ys.mpr (by simp))
    exact a.trans (Yr _ _))
   rw[fh,fh]at t;exact t;rw[pL];exact R8 _
  have q:0<=PT v u b:=this;rw[qN]
  lia
 have s:∀x∈v::D++(A++[u]),0<=PT u v x:=λx hx=>by
  simp at hx;rcases hx with rfl|hx|hx|rfl;rw[pM];exact R8 _;exact So u v x (by
   have a:List.Sublist [u,v,x] (u::(C++v::D)):=by refine List.Sublist.cons_cons u ?_;exact(List.Sublist.cons_cons v (Ys.mpr hx)).trans (Yr _ _)
   exact a.trans (Yr _ _))
  have t:=So x u v (by have:[x,u,v]=[x]++[u,v]:=rfl;rw[this];refine(Ys.mpr hx).append (List.Sublist.cons_cons u ?_);exact(Ys.mpr (by simp)).trans (Yr _ _))
  rw[fh]at t;exact t;rw[pL];exact R8 _
 obtain⟨a,c,f,t⟩:=nE B (D++A) v u (λx hx=>by
  simp at hx;rcases hx with rfl|hx|hx;exact d;exact l x hx;exact m x hx) e (by rw[Rx];exact j)
 have o:0<a.1:=rX B (D++A++[u]) v (λx hx=>by
  simp only[OK,Qn,TN,or_false]at hx;rcases hx with rfl|(hx|hx)|rfl;exact d;exact l x hx;exact m x hx;exact e) a c
 have j:0<=PT u v a:=t (OU u v) λx hx=>s x (by
  simp only[OK,Qn,TN,or_false,UR]at hx ⊢;rcases hx with hx|(hx|hx)|hx;exact .inl hx;exact .inr (.inl hx);exact .inr (.inr (.inl hx));exact .inr (.inr (.inr hx)))
 have l:0<=N9 h b:=k b (by rw[i];exact Rw _ (Uj _ g));have g:0<=N9 h a:=by
  apply k a;rw[i];have:∃b,v::D=b++[z]:=by
   have a:v::D ≠ []:=by simp
   refine⟨(v::D).dropLast,?_⟩;have e:(A++u::(C++v::D)).getLast?=some z:=by rw[hz];simp
   have f:(A++u::(C++v::D)).getLast?=(v::D).getLast?:=by
    have:A++u::(C++v::D)=(A++u::C)++(v::D):=by simp
    rw[this,List.getLast?_append,Z8 a];rfl
   rw[f,Z8 a]at e;have d:=(Zg a).symm;rw[SO e]at d;exact d
  obtain⟨b,a⟩:=this;rcases b with _|⟨w,b⟩;cases a;exact Uj _ c;rw[UR]at a;cases a;have e:b++[z]++A++[u]=b++z::(A++[u]):=by simp
  rw[e,iI]at c;rcases Qn.mp c with q|q;exact Rw _ (Rw _ q);exact Uj _ q
 exact Ki r f n j p o l g
def E9{l:yaw}{a b:Tr}(e:a∈l)(d:b∈l)(c:a≠b):(∃A C D,l=A++a::(C++b::D))∨∃ A C D,l=A++b::(C++a::D):=by
 obtain⟨A,R,rfl⟩:=Zp e;rcases Qn.mp d with q|q;obtain⟨b,a,rfl⟩:=Zp q;exact .inr ⟨b,a,R,by simp⟩;rcases OK.mp q with q|q;exact absurd q.symm c;obtain⟨b,a,rfl⟩:=Zp q;exact .inl ⟨A,b,a,rfl⟩
theorem qY(g h:Tr):∀l:yaw,(∃n∈l,N9 g n<0/\N9 h n<0)->∃n∈l,N9 g n<0/\N9 h n<0/\∀m∈l,N9 g m<0->N9 g n*N9 h m<=N9 h n*N9 g m
 |[],⟨_,hn,_⟩=>by cases hn
 |x::r,l=>by
  by_cases j:∃n∈r,N9 g n<0/\N9 h n<0;obtain⟨n,hn,i,f,o⟩:=qY g h r j;by_cases c:N9 g x<0/\¬(N9 g n*N9 h x<=N9 h n*N9 g x);obtain⟨a,p⟩:=c;have b:N9 h x<0:=by
   have:0<N9 h n*N9 g x:=Zi f a;exact Tz.mp λz=>by
    have:=Zf (QI i) z
    lia
  refine⟨x,by simp,a,b,λm hm d=>?_⟩;rcases OK.mp hm with rfl|hm;rw[Rx];exact R8 _;have k:=o m hm d;have a:0<=(-N9 g x)*(N9 h n*N9 g m - N9 g n*N9 h m):=QU (by lia) (by lia);have b:0<=(-N9 g m)*(N9 g n*N9 h x - N9 h n*N9 g x):=QU (by lia) (by lia);have e:(-N9 g x)*(N9 h n*N9 g m - N9 g n*N9 h m)+(-N9 g m)*(N9 g n*N9 h x - N9 h n*N9 g x)=(-N9 g n)*(N9 h x*N9 g m - N9 g x*N9 h m):=by grind
  have:0<=(-N9 g n)*(N9 h x*N9 g m - N9 g x*N9 h m):=by lia
  have:=Wt this (by lia)
  lia
  refine⟨n,Pz _ hn,i,f,λm hm d=>?_⟩;rcases OK.mp hm with rfl|hm;exact Decidable.byContradiction λz=>c ⟨d,z⟩
  exact o m hm d;obtain⟨n,hn,i,f⟩:=l;rcases OK.mp hn with rfl|hn;refine⟨n,by simp,i,f,λm hm d=>?_⟩;rcases OK.mp hm with rfl|hm;rw[Rx];exact R8 _;have:0<=N9 h m:=VT.mp λz=>j ⟨m,hm,d,z⟩
  have a:=Zf (QI i) this;have b:=Zi f d
  lia
  exact absurd ⟨n,hn,i,f⟩ j
def HA(B:VJ g qf){l:yaw}{z:Tr}(hz:l=l.dropLast++[z])(So:T6 l)(pos:∀x∈l,0<x.1)(o:Wr l X)(w:0<=N9 g X):Wr (aJ g qf z l) X:=λh d=>by
 have j:∀p∈l,0<=N9 g p->0<=N9 h p:=λp b q=>d p (pE l z b q)
 by_cases m:∃n∈l,N9 g n<0/\N9 h n<0;obtain⟨n,a,c,t,e⟩:=qY g h l m
 let k:Tr:=(N9 h n*g.1 - N9 g n*h.1,N9 h n*g.2.1 - N9 g n*h.2.1,N9 h n*g.2.2 - N9 g n*h.2.2)
 have s:∀p:Tr,N9 k p=N9 h n*N9 g p - N9 g n*N9 h p:=λp=>by show N9 (N9 h n*g.1 - N9 g n*h.1,N9 h n*g.2.1 - N9 g n*h.2.1,N9 h n*g.2.2 - N9 g n*h.2.2) p=_;unfold N9;grind
 have u:∀p∈l,0<=N9 k p:=λp b=>by
  rw[s];rcases Xa (N9 g p) 0 with q|q|q;have:=e p b q
  lia
  rw[q,Vz];have:=Zf (QI c) (j p b (by lia))
  lia
  have l:p≠n:=λe=>by rw[e]at q;lia
  have i:=pos n a;have f:=pos p b;rcases E9 b a l with⟨A,C,D,rfl⟩| ⟨A,C,D,rfl⟩;have r:=xD B hz So pos (Zh q c) d;rw[Fu]at r;have a:(O4 g p n).1<0:=by
   show N9 g n*p.1 - N9 g p*n.1<0;have:=U6 c f;have:=Ue q i
   lia
  have e:N9 g n*N9 h p - N9 g p*N9 h n<=0:=VT.mp λz=>by
   have:=Zh z a
   lia
  rw[Rx (N9 h n)]
  lia
  have r:=xD B hz So pos (U6 c q) d;rw[Fu]at r;have a:0<(O4 g n p).1:=by
   show 0<N9 g p*n.1 - N9 g n*p.1;have:=U6 c f;have:=Ue q i
   lia
  have e:0<=N9 g p*N9 h n - N9 g n*N9 h p:=VT.mp λz=>by
   have:=U6 z a
   lia
  rw[Rx (N9 h n)];exact e
 have a:=o k u;rw[s]at a;have a:=Zf (QI t) w;exact VT.mp λz=>by
  have:=Zi c z
  lia
 refine o h λp b=>?_
 by_cases q:0<=N9 g p;exact j p b q;exact VT.mp λz=>m ⟨p,b,by lia,z⟩
def S1(R:Tr->Tr->Prop):yaw->Prop
 |[]=>True
 |[_]=>True
 |a::b::r=>R a b/\S1 R (b::r)
def S1.tail{a:Tr}:∀{l:yaw},S1 R (a::l)->S1 R l
 |[],_=>True.intro
 |_::_,h=>h.2
theorem jR:∀(l:yaw) (x:Tr) (k:yaw),S1 R (l++x::k)↔S1 R (l++[x])/\S1 R (x::k)
 |[],x,k=>by simp[S1]
 |[a],x,k=>by simp[S1]
 |a::b::l,x,k=>by have:=jR (R:=R) (b::l) x k;simp only[UR,S1]at this ⊢;rw[this,and_assoc]
def Sh(G:Tr->Prop)(a b:Tr):Prop:=∃e,G e/\N9 e a=0/\N9 e b=0
theorem nC(B:VJ g qf){G:Tr->Prop}(i:G g):∀(l:yaw) (p x:Tr),(∀y∈p::l,0<y.1)->((x=p/\0<=N9 g p)∨(N9 g x=0/\N9 g p<0))->S1 (Sh G) (p::l)->S1 (Sh G) (x::aJ g qf p l)
 |[],_,_,_,_,_=>True.intro
 |c::r,p,x,b,a,h=>by
  have f:∀y∈c::r,0<y.1:=λy d=>b y (Pz _ d)
  obtain⟨⟨e,j,k,l⟩,d⟩:=h;have ih:=λx a=>nC B i r c x f a d
  unfold aJ;by_cases f:N9 g p*N9 g c<0;rw[Og f];obtain⟨⟨m,s,t,C⟩,h⟩:=B p c (b p (by simp)) (b c (by simp)) f;have d:N9 e (qf p c)=0:=C.zero k l;by_cases b:0<=N9 g c;rw[Og b];refine⟨?_,⟨e,j,d,l⟩,ih c (.inl ⟨rfl,b⟩)⟩;rcases a with⟨rfl,_⟩| ⟨a,_⟩;exact⟨e,j,k,d⟩;exact⟨g,i,a,h⟩;rw[Oc b];refine⟨?_,ih _ (.inr ⟨h,by lia⟩)⟩;rcases a with⟨rfl,_⟩| ⟨a,_⟩;exact⟨e,j,k,d⟩;exact⟨g,i,a,h⟩;rw[Oc f];by_cases b:0<=N9 g c;rw[Og b];refine⟨?_,ih c (.inl ⟨rfl,b⟩)⟩;rcases a with⟨rfl,_⟩| ⟨a,d⟩;exact⟨e,j,k,l⟩;have:N9 g c=0:=by
   rcases Int.lt_or_eq_of_le b with q|q;exact absurd (U6 d q) f;exact q.symm
  exact⟨g,i,a,this⟩;rw[Oc b];refine ih x ?_;rcases a with⟨rfl,d⟩| ⟨a,_⟩
  right
  refine⟨?_,by lia⟩;rcases Int.lt_or_eq_of_le d with q|q;exact absurd (Zh q (by lia)) f;exact q.symm;exact .inr ⟨a,by lia⟩
theorem vY(B:VJ g qf){G:Tr->Prop}(b:G g):∀(l:yaw) (p:Tr),(∀y∈p::l,0<y.1)->S1 (Sh G) (p::l)->S1 (Sh G) (aJ g qf p l)
 |[],_,_,_=>True.intro
 |c::r,p,a,h=>by
  by_cases j:0<=N9 g p;exact(nC B b (c::r) p p a (.inl ⟨rfl,j⟩) h).tail;have i:∀y∈c::r,0<y.1:=λy d=>a y (Pz _ d)
  obtain⟨⟨e,l,n,k⟩,f⟩:=h;unfold aJ;by_cases d:N9 g p*N9 g c<0;rw[Og d];obtain⟨⟨m,s,t,C⟩,o⟩:=B p c (a p (by simp)) (a c (by simp)) d;have h:N9 e (qf p c)=0:=C.zero n k;by_cases a:0<=N9 g c;rw[Og a];exact⟨⟨e,l,h,k⟩,nC B b r c c i (.inl ⟨rfl,a⟩) f⟩;exact absurd (Zi (Tz.mp j) (Tz.mp a)) (by lia);rw[Oc d];by_cases a:0<=N9 g c;rw[Og a];exact nC B b r c c i (.inl ⟨rfl,a⟩) f;rw[Oc a];exact vY B b r c i f
def Z2(R:Tr->Tr->Prop)(l:yaw):Prop:=∀k z,l=k++[z]->S1 R (z::l)
def Hz(B:VJ g qf){G:Tr->Prop}(a:G g){l:yaw}{z:Tr}(hz:l=l.dropLast++[z])(pos:∀y∈l,0<y.1)(h:Z2 (Sh G) l):Z2 (Sh G) (aJ g qf z l):=λk y d=>by
 have f:=h _ z hz;have c:S1 (Sh G) (z::(l++l)):=by grind [List.cons_append,jR]
 have b:z∈l:=by rw[hz];simp
 have e:=vY B a (l++l) z (λy a=>by
  simp at a;rcases a with rfl|a;exact pos y b;exact pos y a) c
 grind [iI,jR]
noncomputable def Sq:yaw->yaw->yaw
 |_,[]=>[]
 |seen,x::r=>if x∈seen then Sq seen r else x::Sq (seen++[x]) r
theorem uo:∀(l seen:yaw),(Sq seen l).Sublist l
 |[],_=>List.Sublist.slnil
 |x::r,seen=>by
  unfold Sq;split
  all_goals simp_all [uo]
theorem um:∀(l seen:yaw) {x:Tr},x∈l->x∈seen∨x∈Sq seen l
 |[],_,_,h=>by cases h
 |y::r,seen,x,h=>by
  unfold Sq;rcases OK.mp h with rfl|h;grind
  ·split
   simp_all [um]
   ·rcases um r (seen++[y]) h with q|q
    all_goals grind
theorem vt:∀(l seen:yaw),l.Nodup->(∀x∈l,x∉seen)->Sq seen l=l
 |[],_,_,_=>rfl
 |x::r,seen,h,c=>by
  obtain⟨a,b⟩:=Vw.mp h;unfold Sq;rw[Oc (c x (by simp)),vt r (seen++[x]) b λy b q=>by
   rcases Qn.mp q with q|q;exact c y (Pz _ b) q;exact a (by rw[<- QY.mp q];exact b)]
theorem og:∀(l seen:yaw) (v:Tr) (k:yaw),v∈seen∨v∈l->Sq seen (l++v::k)=Sq seen (l++k)
 |[],seen,v,k,h=>by
  rw[U9,U9]
  conv=>lhs;unfold Sq
  grind
 |x::r,seen,v,k,h=>by rw[UR,UR];unfold Sq;split;refine og r seen v k ?_;grind;congr 1;refine og r _ v k ?_;grind
theorem qD:∀l:yaw,¬l.Nodup->∃A v C,l=A++v::C/\v∈A
 |[],h=>absurd List.nodup_nil h
 |x::r,h=>by
  by_cases a:x∈r;obtain⟨A,C,rfl⟩:=Zp a;exact⟨x::A,x,C,rfl,by simp⟩;obtain⟨A,v,C,e,b⟩:=qD r λq=>h (Vw.mpr ⟨a,q⟩)
  exact⟨x::A,v,C,by rw[e];rfl,Pz _ b⟩
def Jt(j:N9 e a=0)(i:N9 e v=0)(h:PT v a b=0)(c:OU v a≠(0,0,0)):N9 e b=0:=by
 have g:N9 e b*(OU v a).1=0:=by unfold PT N9 OU at *;grind
 have f:N9 e b*(OU v a).2.1=0:=by unfold PT N9 OU at *;grind
 have d:N9 e b*(OU v a).2.2=0:=by unfold PT N9 OU at *;grind
 refine Decidable.byContradiction λz=>c ?_
 have m:=(Uc.mp g).resolve_left z;have l:=(Uc.mp f).resolve_left z;have k:=(Uc.mp d).resolve_left z;grind
structure Pr(p:Tr):Prop where
 pos:0<p.1
 low:PM.g3 p.1 p.2.1 p.2.2=1
def xB(b:Pr v)(c:Pr a)(h:OU v a=(0,0,0)):v=a:=by
 unfold OU at h;simp at h;obtain⟨n,m,l⟩:=h;have f:v.2.1*a.1=a.2.1*v.1:=by lia
 have e:v.2.2*a.1=a.2.2*v.1:=by lia
 have h:v.1∣a.1:=jD (d:=v.1) (k:=a.1) (x:=v.1) (y:=v.2.1) (z:=v.2.2) (by simp_all) (by simp_all [Rx,zDB]) (by simp_all [Rx,zDB]) b.low;have g:a.1∣v.1:=jD (d:=a.1) (k:=v.1) (x:=a.1) (y:=a.2.1) (z:=a.2.2) (by simp_all) (by rw[Rx,<- f];exact zDB _ _) (by rw[Rx,<- e];exact zDB _ _) c.low;have d:=c.pos;have pv:=b.pos;have e:v.1=a.1:=by
  have j:=Int.le_of_dvd d h;have i:=Int.le_of_dvd pv g
  lia
 grind [Int.eq_of_mul_eq_mul_right]
theorem DL:∀(n:Nat) (l:yaw),l.length<=n->T6 l->(∀p∈l,Pr p)->Z2 (Sh G) l->Z2 (Sh G) (Sq [] l)
 |n,l,i,So,u,o=>by
  by_cases E:l.Nodup;rw[vt l [] E (by simp)];exact o;obtain⟨A,v,C,rfl,H⟩:=qD l E;rw[og A [] v C (.inr H)];cases n with
  |zero=>simp at i
  |succ n =>
  have sub:(A++C).Sublist (A++v::C):=(List.Sublist.refl A).append (List.sublist_cons_self v C);refine DL n (A++C) (by simp at i ⊢;lia) (So.sub sub) (λp a=>u p (sub.subset a)) ?_;obtain⟨h,s,rfl⟩:=Zp H;obtain⟨K,a,d⟩:∃K a,h++v::s=K++[a]:=⟨_,_,(Zg (by simp:h++v::s ≠ [])).symm⟩;have M:a=v∨∃ f,s=f++[a]:=by
   rcases List.eq_nil_or_concat s with rfl|⟨f,w,rfl⟩
   left
   have:=congrArg List.getLast? d;simp at this;exact this.symm
   right
   have e:h++v::f.concat w=(h++v::f)++[w]:=by simp
   rw[e]at d;have:=(List.append_inj' d rfl).2;cases this;exact⟨f,by simp⟩
  have pv:Pr v:=u v (by simp);have Q:Pr a:=u a (by rw[d];simp)
  have g:∀b,Sh G a v->Sh G v b->(a≠v->PT v a b=0)->Sh G a b:=λb O N T=>by by_cases q:a=v;rw[q];exact N;obtain⟨e,ge,I,ev⟩:=O;exact⟨e,ge,I,Jt I ev (T q) λz=>q (xB pv Q z).symm⟩
  rw[d];rw[d]at o So;rcases C with _|⟨b,C⟩;have c:=o (K++[a]) v (by simp);intro k z m;rw[U8]at m ⊢;have ez:a=z:=by have:=congrArg List.getLast? m;simp at this;exact this
  subst ez;have j:S1 (Sh G) ((v::K)++a::[v]):=by simpa using c
  rw[jR]at j;obtain⟨y,x,_⟩:=j;rcases hA:K++[a]with _|⟨b,R⟩;simp at hA;have r:S1 (Sh G) (v::b::R):=by rw[<- hA];exact y
  refine⟨g b x r.1 λw=>?_,r.2⟩;obtain⟨f,rfl⟩:=M.resolve_left w;rcases h with _|⟨b',h⟩;rw[<- d]at hA;cases hA;rw[pL];rw[<- d]at hA;cases hA;have B:=So b v a (by rw[<- d];refine List.Sublist.trans ?_ (List.sublist_append_left _ _);refine List.Sublist.cons_cons b ?_;refine List.Sublist.trans ?_ (Yr _ _);refine List.Sublist.cons_cons v ?_;exact Yr _ _)
  have t:=So b a v (by rw[<- d];refine List.Sublist.cons_cons b ?_;have:[a,v]=[a]++[v]:=rfl;rw[this];refine List.Sublist.append ?_ (List.Sublist.refl _);exact Ys.mpr (by simp))
  rw[fh]at B;rw[fh,qN]at t
  lia
  intro k z m;have c:=o (((K++[a])++v::b::C).dropLast) z (by
   have L:(K++[a]++v::b::C).getLast?=some z:=by
    have Y:(K++[a]++b::C).getLast?=some z:=by rw[m];simp
    have U:(K++[a]++b::C).getLast?=(b::C).getLast?:=by rw[List.getLast?_append,Z8 (by simp:b::C ≠ [])];rfl
    have J:(K++[a]++v::b::C)=(K++[a]++[v])++b::C:=by simp
    rw[J,List.getLast?_append,<- U,Y];rfl
   have i:K++[a]++v::b::C ≠ []:=by simp
   rw[Z8 i]at L;have J:=(Zg i).symm;rw[SO L]at J;exact J)
  have j:S1 (Sh G) ((z::K)++a::(v::b::C)):=by simpa using c
  rw[jR]at j;obtain⟨y,x,r,J⟩:=j;have:z::(K++[a]++b::C)=(z::K)++a::(b::C):=by simp
  rw[this,jR];refine⟨y,g b x r λw=>?_,J⟩;obtain⟨f,rfl⟩:=M.resolve_left w;have B:=So v a b (by
   rw[<- d];have:h++v::(f++[a])++v::b::C=(h++(v::f))++(a::(v::(b::C))):=by simp
   rw[this];have:[v,a,b]=[v]++[a,b]:=rfl;rw[this];refine List.Sublist.append (Ys.mpr (by simp)) (List.Sublist.cons_cons a ?_);exact List.Sublist.cons _ (List.Sublist.cons_cons b (List.nil_sublist _)))
  have t:=So a v b (by
   have:K++[a]++v::b::C=K++(a::v::b::C):=by simp
   rw[this];refine List.Sublist.trans ?_ (Yr _ _);exact List.Sublist.cons_cons a (List.Sublist.cons_cons v (List.Sublist.cons_cons b (List.nil_sublist _))))
  rw[qN]at t
  lia
def U5(w:Tr):Tr:=(w.1.fdiv (PM.Qp w.1 w.2.1 w.2.2 w.1),w.2.1.fdiv (PM.Qp w.1 w.2.1 w.2.2 w.1),w.2.2.fdiv (PM.Qp w.1 w.2.1 w.2.2 w.1))
def cQ(g p c:Tr):Tr:=U5 (O4 g p c)
def EN{w:Tr}(h:w.1≠0):Pr (U5 w):=⟨PM.JX h (PM.uw _ _ _) λz=>h z.1,PM.Mv λz=>h z.1⟩
def Mn{w:Tr}(e:Pr q)(c:w.1*q.2.1=q.1*w.2.1)(b:w.1*q.2.2=q.1*w.2.2):∃m,w.1=m*q.1/\w.2.1=m*q.2.1/\w.2.2=m*q.2.2:=by obtain⟨m,a⟩:q.1∣w.1:=jD (d:=q.1) (k:=w.1) (x:=q.1) (y:=q.2.1) (z:=q.2.2) (zDB _ _) (by rw[c];exact Int.dvd_mul_right _ _) (by rw[b];exact Int.dvd_mul_right _ _) e.low;have p:=e.pos;refine⟨m,by rw[a,Rx],?_,?_⟩;rw[a,Yz]at c;exact(zDM (by lia) c).symm;rw[a,Yz]at b;exact(zDM (by lia) b).symm
def zw{p c:Tr}(e:0<p.1)(f:0<c.1)(d:N9 g p*N9 g c<0):(N9 g p<0/\0<N9 g c/\0<(O4 g p c).1)∨(0<N9 g p/\N9 g c<0/\(O4 g p c).1<0):=by
 rcases Int.lt_or_gt_of_ne (show N9 g p≠0 from by lia)with a|a
 left
 have b:0<N9 g c:=Tz.mp λb=>Tz.mpr d (Z7 (QI a) b)
 refine⟨a,b,?_⟩;show 0<N9 g c*p.1 - N9 g p*c.1;have:=Ue b e;have:=U6 a f
 lia
 right
 have b:N9 g c<0:=Tz.mp λb=>Tz.mpr d (QU (QI a) b)
 refine⟨a,b,?_⟩;show N9 g c*p.1 - N9 g p*c.1<0;have:=U6 b e;have:=Ue a f
 lia
def Dq(g:Tr):VJ g (cQ g):=λp c b d a=>by
 have k:=zw b d a;have h:=PM.dJ (l:=(O4 g p c).1) (PM.uw (O4 g p c).1 (O4 g p c).2.1 (O4 g p c).2.2);have f:=PM.dJ (l:=(O4 g p c).1) (PM.yb (O4 g p c).1 (O4 g p c).2.1 (O4 g p c).2.2);have e:=PM.dJ (l:=(O4 g p c).1) (PM.yc (O4 g p c).1 (O4 g p c).2.1 (O4 g p c).2.2);have a:(O4 g p c).1≠0:=by rcases k with⟨_,_,q⟩| ⟨_,_,q⟩<;>lia
 have i:PM.g3 (O4 g p c).1 (O4 g p c).2.1 (O4 g p c).2.2≠0:=λz=>a (PM.ux.mp z).1
 have C:∃m s t,Yp (cQ g p c) p c m s t/\s*N9 g p+t*N9 g c=0:=by
  rcases k with⟨a,b,q⟩| ⟨a,b,q⟩;have d:PM.Qp (O4 g p c).1 (O4 g p c).2.1 (O4 g p c).2.2 (O4 g p c).1=(PM.g3 (O4 g p c).1 (O4 g p c).2.1 (O4 g p c).2.2:Int):=by unfold PM.Qp;rw[Oc (by lia)]
  refine⟨PM.g3 (O4 g p c).1 (O4 g p c).2.1 (O4 g p c).2.2,N9 g c,-N9 g p,⟨by lia,b,by lia,?_,?_,?_⟩,by rw[SG,Rx];lia⟩;show _*((O4 g p c).1.fdiv _)=_;rw[<- d,Rx,h,SG];rfl;show _*((O4 g p c).2.1.fdiv _)=_;rw[<- d,Rx,f,SG];rfl;show _*((O4 g p c).2.2.fdiv _)=_;rw[<- d,Rx,e,SG];rfl;have d:-PM.Qp (O4 g p c).1 (O4 g p c).2.1 (O4 g p c).2.2 (O4 g p c).1=(PM.g3 (O4 g p c).1 (O4 g p c).2.1 (O4 g p c).2.2:Int):=by unfold PM.Qp;rw[Og (by lia),Int.neg_neg]
  refine⟨PM.g3 (O4 g p c).1 (O4 g p c).2.1 (O4 g p c).2.2,-N9 g c,N9 g p,⟨by lia,by lia,a,?_,?_,?_⟩,by rw[SG,Rx];lia⟩;show _*((O4 g p c).1.fdiv _)=_;rw[<- d,SG,Rx,h,SG];show -(N9 g c*p.1 - N9 g p*c.1)=_
  lia
  show _*((O4 g p c).2.1.fdiv _)=_;rw[<- d,SG,Rx,f,SG];show -(N9 g c*p.2.1 - N9 g p*c.2.1)=_
  lia
  show _*((O4 g p c).2.2.fdiv _)=_;rw[<- d,SG,Rx,e,SG];show -(N9 g c*p.2.2 - N9 g p*c.2.2)=_
  lia
 obtain⟨m,s,t,C,z⟩:=C;refine⟨⟨m,s,t,C⟩,?_⟩;have:=C.gv g;rw[z]at this;exact(Uc.mp this).resolve_left (by have:=C.m0;lia)
def KD{p c:Tr}(b:0<p.1)(d:0<c.1)(a:N9 g p*N9 g c<0):Pr (cQ g p c):=EN (by rcases zw b d a with⟨_,_,q⟩| ⟨_,_,q⟩<;>omega)
def KL{e:Tr}(b:e≠(0,0,0))(ep:N9 e p=0)(a:N9 g p≠0):OU e g≠(0,0,0):=λz=>b (by
 unfold OU at z;simp at z;obtain⟨i,h,f⟩:=z;have d:e.1*N9 g p=0:=by unfold N9 at *;grind
 have c:e.2.1*N9 g p=0:=by unfold N9 at *;grind
 have b:e.2.2*N9 g p=0:=by unfold N9 at *;grind
 have l:=(Uc.mp d).resolve_right a;have k:=(Uc.mp c).resolve_right a;have j:=(Uc.mp b).resolve_right a
 lia)
def EG(f:Pr q)(i:N9 e q=0)(h:N9 g q=0)(d:OU e g≠(0,0,0)):∃m,m≠0/\(OU e g).1=m*q.1/\(OU e g).2.1=m*q.2.1/\(OU e g).2.2=m*q.2.2:=by obtain⟨m,c,b,a⟩:=Mn (w:=OU e g) f (by unfold N9 at *;unfold OU;grind) (by unfold N9 at *;unfold OU;grind);refine⟨m,λz=>d ?_,c,b,a⟩;rw[z,VA]at c b a;exact WC c (WC b a)
def EH(o:Pr q)(G:N9 e q=0)(E:N9 g q=0)(y:OU e g≠(0,0,0)):q=U5 (OU e g):=by
 obtain⟨m,s,t,C,B⟩:=EG o G E y;have r:(OU e g).1≠0:=by rw[t];exact Int.mul_ne_zero s (by have:=o.pos;lia)
 have A:=EN r;have x:=PM.dJ (l:=(OU e g).1) (PM.uw (OU e g).1 (OU e g).2.1 (OU e g).2.2);have w:=PM.dJ (l:=(OU e g).1) (PM.yb (OU e g).1 (OU e g).2.1 (OU e g).2.2);have u:=PM.dJ (l:=(OU e g).1) (PM.yc (OU e g).1 (OU e g).2.1 (OU e g).2.2);have H:PM.Qp (OU e g).1 (OU e g).2.1 (OU e g).2.2 (OU e g).1≠0:=PM.xT λz=>r z.1
 apply xB o A;have i:(U5 (OU e g)).1*PM.Qp (OU e g).1 (OU e g).2.1 (OU e g).2.2 (OU e g).1=m*q.1:=by rw[<- t];exact x
 have f:(U5 (OU e g)).2.1*PM.Qp (OU e g).1 (OU e g).2.1 (OU e g).2.2 (OU e g).1=m*q.2.1:=by rw[<- C];exact w
 have c:(U5 (OU e g)).2.2*PM.Qp (OU e g).1 (OU e g).2.1 (OU e g).2.2 (OU e g).1=m*q.2.2:=by rw[<- B];exact u
 generalize PM.Qp (OU e g).1 (OU e g).2.1 (OU e g).2.2 (OU e g).1=d at *;generalize U5 (OU e g)=p at *;unfold OU;have k:∀a b n j:Int,a*d=m*n->b*d=m*j->n*b - j*a=0:=λa b n j h I=>by
  have:m*d*(n*b - j*a)=0:=by grind
  exact(Uc.mp this).resolve_left (Int.mul_ne_zero s H)
 rw[k _ _ _ _ f c,k _ _ _ _ c i,k _ _ _ _ i f]
def fb(g:Tr)(l:yaw):yaw:=match l.getLast? with
 |none=>[]
 |some z=>Sq [] (aJ g (cQ g) z l)
structure Y8(n:Nat)(e:Tr):Prop where
 ne:e≠(0,0,0)
 c:Bd (2*n+2) e.1
 a:Bd (n+1) e.2.1
 b:Bd (n+1) e.2.2
structure CB(n:Nat)(p:Tr):Prop where
 b:Bd (2*n+3) p.1
 x:Bd (3*n+4) p.2.1
 y:Bd (3*n+4) p.2.2
structure Y9(n:Nat)(Gs Z l:yaw):Prop where
 So:T6 l
 pr:∀p∈l,Pr p
 cb:∀p∈l,CB n p
 cyc:Z2 (Sh (·∈Gs)) l
 mem:∀p∈l,p∈Z
 len:l.length<=Z.length
def MR{k:Nat}(i:Bd n a)(h:Bd m b)(g:Bd m c)(f:Bd n d)(e:n+m+1=k):Bd k (a*b - c*d):=by subst e;have b:=i.mul h;have a:=g.mul f;rw[Nat.add_comm m n]at a;exact b.sub a
def xU{m q w:Int}(a:m≠0)(e:w=m*q)(h:Bd n w):Bd n q:=by
 unfold Bd at *;rw[e,XZ]at h;have:q.natAbs<=m.natAbs*q.natAbs:=Nat.le_mul_of_pos_left _ (by lia)
 lia
theorem tY:∀(l:yaw) (p:Tr) {y:Tr},y∈aJ g (cQ g) p l->y∈l∨∃ a b,a∈p::l/\b∈l/\List.Sublist [a,b] (p::l)/\N9 g a*N9 g b<0/\y=cQ g a b/\∀R:Tr->Tr->Prop,S1 R (p::l)->R a b
 |[],_,_,h=>by cases h
 |c::r,p,y,h=>by
  rcases Qn.mp h with q|q;split at q;rename_i d;exact .inr ⟨p,c,by simp,by simp,List.Sublist.cons_cons p (List.Sublist.cons_cons c (List.nil_sublist _)),d,QY.mp q,λR d=>d.1⟩;cases q;rcases Qn.mp q with q|q;split at q;rw[QY.mp q];exact .inl (by simp);cases q;rcases tY r c q with q|⟨a,b,i,h,g,f,e,c⟩;exact .inl (Pz _ q);exact .inr ⟨a,b,Pz _ i,Pz _ h,g.cons p,f,e,λR d=>c R d.2⟩
theorem xK:∀(l seen:yaw),(Sq seen l).Nodup/\∀x∈Sq seen l,x∉seen
 |[],_=>⟨List.nodup_nil,λ_ h=>(by cases h)⟩
 |x::r,seen=>by
  unfold Sq;split;exact xK r seen;rename_i q;obtain⟨a,b⟩:=xK r (seen++[x]);refine⟨Vw.mpr ⟨λh=>b x h (by simp),a⟩,λy hy=>?_⟩;rcases OK.mp hy with rfl|hy;exact q;exact λz=>b y hy (Uj _ z)
def yx{l:yaw}{z:Tr}(h:l.getLast?=some z):l=l.dropLast++[z]:=by
 have a:l ≠ []:=λe=>by rw[e]at h;cases h
 rw[Z8 a]at h;have:=(Zg a).symm;rw[SO h]at this;exact this
theorem yM:∀{l Z:yaw},l.Nodup->(∀x∈l,x∈Z)->l.length<=Z.length
 |[],_,_,_=>QS _
 |x::r,Z,h,c=>by
  obtain⟨a,b⟩:=Vw.mp h;obtain⟨A,C,rfl⟩:=Zp (c x (by simp));have:=yM (l:=r) (Z:=A++C) b λy b=>by
   have:=c y (Pz _ b);simp only[Qn,OK]at this ⊢;rcases this with q|q|q;exact .inl q;rw[q]at b;exact absurd b a;exact .inr q
  simp at this ⊢
  lia
def F3{i Z:yaw}{g:Tr}(w:∀e∈i,Y8 n e)(J:g∈i)(Y:∀e∈i,U5 (OU e g)∈Z)(C:Y9 n i Z l):Y9 n i Z (fb g l):=by
 unfold fb;cases hl:l.getLast? with
 |none=>exact⟨λ_ _ _ s=>(by cases s),λ_ h=>(by cases h),λ_ h=>(by cases h),λk z e=>(by simp at e),λ_ h=>(by cases h),QS _⟩
 |some z =>
  have o:=yx hl;have d:∀x∈l,0<x.1:=λx hx=>(C.pr x hx).pos
  have O:z∈l:=by rw[o];simp
  have h:∀x∈z::l,0<x.1:=λx hx=>by
   rcases OK.mp hx with rfl|hx;exact d x O;exact d x hx
  have B:=Dq g;have j:T6 (z::l):=by have:=Fg (l:=l.dropLast) (a:=z) (by rw[<- o];exact C.So);rw[<- o]at this;exact this
  have f:T6 (aJ g (cQ g) z l):=kT.t (zu B l z h j.p).2;have cy:=Hz B (G:=(·∈i)) J o d C.cyc;have c:∀y∈aJ g (cQ g) z l,Pr y/\CB n y/\y∈Z:=λy Q=>by
   rcases tY l z Q with q|⟨a,b,U,T,_,p,rfl,hR⟩;exact⟨C.pr y q,C.cb y q,C.mem y q⟩;have G:=h a U;have A:=d b T;have r:=KD G A p;obtain⟨e,u,N,eb⟩:=hR _ (C.cyc _ z o);obtain⟨⟨m,s,t,K⟩,L⟩:=B a b G A p;have M:=K.zero N eb;have I:=KL (w e u).ne N (show N9 g a≠0 from λz=>by rw[z,VA]at p;exact Wy _ p);refine⟨r,?_,?_⟩;obtain⟨m,t,h1,h2,h3⟩:=EG r M L I;have E:=w e u;have H:=w g J;exact⟨xU t h1 (MR (k:=2*n+3) E.a H.b E.b H.a (by lia)),xU t h2 (Bd.mono ((E.b.mul H.c).sub (Nat.add_comm _ _ ▸ E.c.mul H.b)) (by lia)),xU t h3 (Bd.mono ((E.c.mul H.a).sub (Nat.add_comm _ _ ▸ E.a.mul H.c)) (by lia))⟩;rw[EH r M L I];exact Y e u
  have sub:=uo (aJ g (cQ g) z l) [];exact⟨f.sub sub,λp b=>(c p (sub.subset b)).1,λp b=>(c p (sub.subset b)).2.1,DL _ _ (O5 _) f (λp b=>(c p b).1) cy,λp b=>(c p (sub.subset b)).2.2,yM (xK _ _).1 λp b=>(c p (sub.subset b)).2.2⟩
def si(So:T6 l)(a:∀p∈l,Pr p):(∀X,Wr l X->0<=N9 g X->Wr (fb g l) X)/\(∀y∈fb g l,0<=N9 g y)/\∀d,(∀p∈l,0<=N9 d p)->∀y∈fb g l,0<=N9 d y:=by
 unfold fb;cases hl:l.getLast? with
 |none =>
  have e:=zCm.mp hl;subst e;exact⟨λX h _=>h,λ_ h=>(by cases h),λ_ _ _ h=>by cases h⟩
 |some z =>
  have e:=yx hl;have b:∀x∈l,0<x.1:=λx hx=>(a x hx).pos
  have c:z∈l:=by rw[e];simp
  have a:∀x∈z::l,0<x.1:=λx hx=>by
   rcases OK.mp hx with rfl|hx;exact b x c;exact b x hx
  have B:=Dq g;have sub:=uo (aJ g (cQ g) z l) [];refine⟨λX g i h f=>HA B e So b g i h λp e=>?_,λy b=>vZ B l z a y (sub.subset b),λd d y b=>rW B l z a (λx hx=>?_) y (sub.subset b)⟩;exact f p ((um _ [] e).resolve_left (by simp));rcases OK.mp hx with rfl|hx;exact d x c;exact d x hx
def aT(a l:yaw):yaw:=a.foldl (λl g=>fb g l) l
def LP(h:Wr l X)(a:0<X.1):l ≠ []:=λe=>by
 have:=h (-1,0,0) (by simp_all);unfold N9 at this
 lia
def sT(p:Sp):Tr:=(1,p.1,p.2)
def Lp(a b c:Sp):PT (sT a) (sT b) (sT c)=cr a b c:=by rw[cg];unfold PT sT N9 OU;grind
def wV{A B:Int}{x y z:Sp}(b:0<A*y.1+B*y.2)(a:0<=A*x.1+B*x.2)(hz:0<=A*z.1+B*z.2)(d:0<=tn x y)(c:0<=tn y z):0<=tn x z:=by
 have e:(A*y.1+B*y.2)*tn x z=(A*z.1+B*z.2)*tn x y+(A*x.1+B*x.2)*tn y z:=by unfold tn;grind
 have g:=QU hz d;have f:=QU a c;exact Wt (a:=A*y.1+B*y.2) (by rw[e];omega) b
def sb(a b:Sp):Sp:=(a.1 - b.1,a.2 - b.2)
def gC(a b c:Sp):cr a b c=tn (sb b a) (sb c a):=by rw[cg];unfold tn sb;grind
theorem fO(A B:Int)(a b:Sp):A*(sb a b).1+B*(sb a b).2=fA A B a - fA A B b:=by unfold sb fA;grind
def Bv(L:Way A B ps n l){i j k:Nat}(d:i<j)(c:j<k)(a:k<n):0<=cr (l i) (l j) (l k):=by
 have b:=L.P6 j (by lia) (l i) (L.mem i (by lia));have m:=L.P6 j (by lia) (l k) (L.mem k a);have h:=L.rise i j d (by lia);have g:=L.rise j (j+1) (by lia) (by lia);have f:=L.rise j k c a;have:=wV (A:=A) (B:=B) (x:=sb (l j) (l i)) (y:=sb (l (j+1)) (l j)) (z:=sb (l k) (l j)) (by rw[fO];lia) (by grind [fO]) (by grind [fO]) (by
  rw[cg]at b;unfold tn sb
  lia) (by simp_all [gC])
 rw[gC];have e:tn (sb (l j) (l i)) (sb (l k) (l i))=tn (sb (l j) (l i)) (sb (l k) (l j)):=by unfold tn sb;grind
 simp_all
def Bw{m:Nat}(L:Way A B ps n l)(U:Way (-A) (-B) ps (m+2) u)(p:u (m+1)=l 0){i j k:Nat}(s:i<j)(d:j<n)(g:k<m+2):0<=cr (l i) (l j) (u k):=by
 have f:=U.mem k g;have o:=L.rise i j s d;by_cases h:fA A B (u k)<=fA A B (l i);have b:=L.P6 i (by lia) (u k) f;have c:=L.P6 i (by lia) (l j) (L.mem j d);have r:=L.rise i (i+1) (by lia) (by lia);have:=wV (A:=A) (B:=B) (x:=sb (l i) (u k)) (y:=sb (l (i+1)) (l i)) (z:=sb (l j) (l i)) (by rw[fO];lia) (by rw[fO];lia) (by rw[fO];lia) (by
  rw[gC]at b;have:tn (sb (l i) (u k)) (sb (l (i+1)) (l i))=tn (sb (l (i+1)) (l i)) (sb (u k) (l i)):=by unfold tn sb;grind
  rw[this];exact b) (by rw[<- gC];exact c)
 rw[gC];have e:tn (sb (l j) (l i)) (sb (u k) (l i))=tn (sb (l i) (u k)) (sb (l j) (l i)):=by unfold tn sb;grind
 rw[e];exact this;by_cases w:fA A B (l j)<=fA A B (u k);obtain⟨a,rfl⟩:∃a,j=a+1:=⟨j - 1,by lia⟩;have b:=L.P6 a d (u k) f;have c:=L.P6 a d (l i) (L.mem i (by lia));have r:=L.rise a (a+1) (by lia) d;have:=wV (A:=A) (B:=B) (x:=sb (l (a+1)) (l i)) (y:=sb (l (a+1)) (l a)) (z:=sb (u k) (l (a+1))) (by rw[fO];lia) (by rw[fO];lia) (by rw[fO];lia) (by
  rw[gC]at c;have:tn (sb (l (a+1)) (l i)) (sb (l (a+1)) (l a))=tn (sb (l (a+1)) (l a)) (sb (l i) (l a)):=by unfold tn sb;grind
  rw[this];exact c) (by
  rw[gC]at b;have:tn (sb (l (a+1)) (l a)) (sb (u k) (l (a+1)))=tn (sb (l (a+1)) (l a)) (sb (u k) (l a)):=by unfold tn sb;grind
  rw[this];exact b)
 rw[gC];have e:tn (sb (l (a+1)) (l i)) (sb (u k) (l i))=tn (sb (l (a+1)) (l i)) (sb (u k) (l (a+1))):=by unfold tn sb;grind
 rw[e];exact this;have t:k<m+1:=by
  rcases Nat.lt_or_eq_of_le (Nat.le_of_lt_succ g)with q|q;exact q;exfalso;rw[q,p]at h;exact h (L.lo _ (L.mem i (by lia)))
 have b:=U.P6 k (by lia) (l i) (L.mem i (by lia));have c:=U.P6 k (by lia) (l j) (L.mem j d);have r:=U.rise k (k+1) (by lia) (by lia);rw[b9,b9]at r;have:=wV (A:=A) (B:=B) (x:=sb (l j) (u k)) (y:=sb (u k) (u (k+1))) (z:=sb (u k) (l i)) (by rw[fO];lia) (by rw[fO];lia) (by rw[fO];lia) (by
  rw[gC]at c;have:tn (sb (l j) (u k)) (sb (u k) (u (k+1)))=tn (sb (u (k+1)) (u k)) (sb (l j) (u k)):=by unfold tn sb;grind
  rw[this];exact c) (by
  rw[gC]at b;have:tn (sb (u k) (u (k+1))) (sb (u k) (l i))=tn (sb (u (k+1)) (u k)) (sb (l i) (u k)):=by unfold tn sb;grind
  rw[this];exact b)
 rw[gC];have e:tn (sb (l j) (l i)) (sb (u k) (l i))=tn (sb (l j) (u k)) (sb (u k) (l i)):=by unfold tn sb;grind
 rw[e];exact this
def KJ(a b c:Sp):cr a b c=cr b c a:=by rw[cg,cg];grind
def Hg{n m:Nat}{h:Nat->Sp}(L:Way A B ps (n+2) l)(U:Way (-A) (-B) ps (m+2) u)(o:l (n+1)=u 0)(p:u (m+1)=l 0)
  (a:∀k,k<n+2->h k=l k) (c:∀j,j<m+1->h (n+1+j)=u j) {i j k:Nat} (g:i<j) (q:j<k) (d:k<n+m+2):0<=cr (h i) (h j) (h k):=by
 have r:Way (-(-A)) (-(-B)) ps (n+2) l:=by rw[Int.neg_neg,Int.neg_neg];exact L
 have b:∀k,n+1<=k->k<n+m+2->h k=u (k - (n+1)):=λk t s=>by
  have:=c (k - (n+1)) (by lia);rw[<- this];congr 1
  lia
 by_cases c:i<n+2;by_cases e:j<n+2;by_cases f:k<n+2;rw[a i c,a j e,a k f];exact Bv L g q f;rw[a i c,a j e,b k (by lia) d];exact Bw L U p g e (by lia);rw[a i c,b j (by lia) (by lia),b k (by lia) d,KJ];exact Bw U r o (by lia) (by lia) c;rw[b i (by lia) (by lia),b j (by lia) (by lia),b k (by lia) d];exact Bv U (by lia) (by lia) (by lia)
theorem Bt:∀{l:yaw},(∀i j k (c:i<j) (b:j<k) (a:k<l.length),0<=PT (l[i]'(by lia)) (l[j]'(by lia)) (l[k]'a))->kT l
 |[],_=>True.intro
 |p::r,h=>⟨Vr.mpr λi j e d q=>h 0 (i+1) (j+1) (by lia) (by lia) (by simp_all),Bt λi j k c b a=>h (i+1) (j+1) (k+1) (by lia) (by lia) (by simp_all)⟩
def yp(h:cO ys ps):T6 ((aO ys).map sT)/\(1<(aO ys).length->∀k,k<(aO ys).length->bH (aO ys) k≠(aO ys).getD k (0,0)):=by
 have t:=rn h;obtain⟨o,a⟩:=h;unfold aO;by_cases c:ys.length<2;rw[Og c];refine⟨λx y z s=>?_,λq=>absurd q (by lia)⟩;have:=s.length_le;simp at this
 lia
 rw[Oc c];obtain⟨M,j,g⟩:=F1 ys;have i:ys.Pairwise λp q=>fA (2*M) 1 p<fA (2*M) 1 q:=by refine List.Pairwise.imp_of_mem ?_ o;intro p q f d h;exact tq j (g p f) (g q d) h
 have m:ys.reverse.Pairwise λp q=>fA (-(2*M)) (-1) p<fA (-(2*M)) (-1) q:=by refine List.pairwise_reverse.mpr (i.imp ?_);intro p q h;rw[b9,b9];exact Int.neg_lt_neg h
 have L:=(tZ i (XY c)).to (qs:=ps) λp=>(a p).symm
 have U:=(tZ m (by rw[Ul];exact XY c)).to (qs:=ps) λp=>by rw[zDF];exact(a p).symm
 have c:(aK ys).length<=ys.length:=by have:=fW [] ys;unfold aK;rw[Ul];simpa using this
 have b:(aK ys.reverse).length<=ys.length:=by have:=fW [] ys.reverse;unfold aK;rw[Ul];simpa using this
 generalize aK ys=l at L c ⊢;generalize aK ys.reverse=u at U b ⊢;have b:∀p∈ps,∀q∈ps,fA (2*M) 1 p=fA (2*M) 1 q->p=q:=λp f q d e=>x9 i p ((a p).mpr f) q ((a q).mpr d) e
 have c:∀p∈ps,∀q∈ps,fA (2*M) 1 p<=fA (2*M) 1 q->¬fV q p:=λp f q d e x =>
  Int.not_le_of_gt (tq j (g q ((a q).mpr d)) (g p ((a p).mpr f)) x) e
 generalize 2*M=A at L U b c;clear i m g j o a;obtain⟨n,g⟩:∃n,l.length=n+2:=⟨l.length - 2,by have:=L.two;lia⟩;obtain⟨m,a⟩:∃m,u.length=m+2:=⟨u.length - 2,by have:=U.two;lia⟩;have c:(l.dropLast++u.dropLast).length=n+m+2:=by
  rw[QX,Wu,Wu,g,a];show n+1+(m+1)=_
  lia
 have r:∀{w:yau} {x:Sp},x∈w.dropLast->x∈w:=fun {w x} d=>(List.dropLast_sublist w).subset d
 have o:∀{w:yau} {i:Nat} (d:i<w.length),w.getD i (0,0)=w[i]:=fun {w i} d=>by rw[Py,O2 d];rfl
 rw[g]at L;rw[a]at U;have p:l.getD (n+1) (0,0)=u.getD 0 (0,0):=by have f:=L.mem (n+1) (VP _);have d:=U.mem 0 (Wz _);have j:=L.hi _ d;have h:=U.lo _ f;rw[b9,b9]at h;exact b _ f _ d (ZD (zDD h) j)
 have s:u.getD (m+1) (0,0)=l.getD 0 (0,0):=by have f:=L.mem 0 (Wz _);have d:=U.mem (m+1) (VP _);have j:=L.lo _ d;have h:=U.hi _ f;rw[b9,b9]at h;exact b _ d _ f (ZD (zDD h) j)
 have f:∀j,j<m+1->(l.dropLast++u.dropLast).getD (n+1+j) (0,0)=u.getD j (0,0):=λj b=>by
  have ld:l.dropLast.length=n+1:=by rw[Wu,g];rfl
  rw[Py,Py,Vp (by rw[ld];exact XX _ _),ld,Nat.add_sub_cancel_left,zC4,a,Og (show j<m+2 - 1 from b)]
 have d:∀k,k<n+2->(l.dropLast++u.dropLast).getD k (0,0)=l.getD k (0,0):=λk a=>by
  rcases Nat.lt_or_eq_of_le (Nat.le_of_lt_succ a)with z|z;rw[Py,Py,UO (by rw[Wu,g];exact z),zC4,g,Og (show k<n+2 - 1 from z)];rw[z,p];exact f 0 (Wz _)
 constructor
 rotate_left
 intro _ k a e;rw[c]at a;unfold bH at e;rw[c]at e;have b:∀k,n+1<=k->k<n+m+2->(l.dropLast++u.dropLast).getD k (0,0)=u.getD (k - (n+1)) (0,0):=λk C B=>by
  have:=f (k - (n+1)) (by lia);rw[<- this];congr 1
  lia
 cases k with
 |zero =>
  have g:(0+(n+m+2) - 1) % (n+m+2)=n+m+1:=by rw[S5 (by lia)];lia
  rw[g,b _ (by lia) (by lia),d 0 (by lia),<- s]at e;have:=U.rise (n+m+1 - (n+1)) (m+1) (by lia) (by lia);rw[e]at this;exact Wy _ this
 |succ k =>
  have g:(k+1+(n+m+2) - 1) % (n+m+2)=k:=by
   have:k+1+(n+m+2) - 1=k+(n+m+2):=by lia
   rw[this,Zv,S5 (by lia)]
  rw[g]at e;by_cases q:k+1<n+2;rw[d k (by lia),d (k+1) q]at e;have:=L.rise k (k+1) (by lia) q;rw[e]at this;exact Wy _ this;rw[b k (by lia) (by lia),b (k+1) (by lia) a]at e;have:=U.rise (k - (n+1)) (k+1 - (n+1)) (by lia) (by lia);rw[e]at this;exact Wy _ this
 apply kT.t;apply Bt;intro i j k e b a;rw[Of,c]at a;have R:=Hg L U p s d f e b a;rw[o (by rw[c];lia),o (by rw[c];lia),o (by rw[c];lia)]at R;rw[Up,Up,Up,Lp];exact R
def Nj(p:Sp):Pr (sT p):=⟨by show(0:Int)<1;decide,by
 show PM.g3 1 p.1 p.2=1;unfold PM.g3
 simp_all⟩
def pP(h X:Tr)(p:Sp):X.1*N9 h (sT p) - N9 h X=h.2.1*(Om X p).1+h.2.2*(Om X p).2:=by unfold N9 sT Om;grind
def yq{X:Tr}(h0:0<X.1)(B:nM X hs):Wr (hs.map sT) X:=λh a=>by
 have i:∀p∈hs,0<=X.1*N9 h (sT p):=λp i=>QU (QI h0) (a _ (OZ.mpr ⟨p,i,rfl⟩))
 have k:∀p∈hs,∀q∈hs,∀s t:Int,0<s->0<t->s*(Om X p).1+t*(Om X q).1=0->s*(Om X p).2+t*(Om X q).2=0->0<=N9 h X:=λp d q f s t g b u o=>by
  have n:=pP h X p;have m:=pP h X q;have y:=QU (QI g) (i p d);have x:=QU (QI b) (i q f);have e:(s+t)*N9 h X=s*(X.1*N9 h (sT p))+t*(X.1*N9 h (sT q)):=by grind
  exact Wt (a:=s+t) (by rw[e];lia) (by lia)
 have c:∀p∈hs,∀q∈hs,∀r∈hs,∀s t w:Int,0<s->0<t->0<w->s*(Om X p).1+t*(Om X q).1+w*(Om X r).1=0->s*(Om X p).2+t*(Om X q).2+w*(Om X r).2=0->0<=N9 h X:=λp d q f r j s t w g b l u o=>by
  have n:=pP h X p;have m:=pP h X q;have g3:=pP h X r;have y:=QU (QI g) (i p d);have x:=QU (QI b) (i q f);have z:=QU (QI l) (i r j);have e:(s+t+w)*N9 h X=s*(X.1*N9 h (sT p))+t*(X.1*N9 h (sT q))+w*(X.1*N9 h (sT r)):=by grind
  exact Wt (a:=s+t+w) (by rw[e];lia) (by lia)
 rcases B with⟨p,d,b⟩| ⟨p,d,q,f,b⟩| ⟨p,d,q,f,r,j,b⟩;have g:=pP h X p;have a:Om X p=(0,0):=b;rw[a,Vz,Vz]at g;have:=i p d
 lia
 obtain⟨g,a⟩:=EI b.1;have h:Om X q≠(0,0):=λe=>by have:=b.2;rw[e]at this;unfold OO at this;simp at this
 exact k p d q f _ _ (jS h) (by have:=b.2;lia) g a;obtain⟨g,a⟩:=FZ (Om X p) (Om X q) (Om X r);rcases b with⟨h,e,b⟩| ⟨h,e,b⟩;exact c p d q f r j _ _ _ h e b g a;exact c p d q f r j (-tn (Om X q) (Om X r)) (-tn (Om X r) (Om X p)) (-tn (Om X p) (Om X q)) (by lia) (by lia) (by lia) (by rw[SG,SG,SG];lia) (by rw[SG,SG,SG];lia)
def Ca(g:mh hs ps)(d:ps ≠ []):mh hs hs:=by refine⟨λ_ h=>h,by lia,λ_=>?_,λa e p c=>g.one a e p (g.mem p c),λa b e=>⟨(g.two a b e).1,λp c=>(g.two a b e).2 p (g.mem p c)⟩,λq k b p c=>g.P6 q k b p (g.mem p c),g.Ts⟩;obtain⟨a,r,e,b⟩:=g.T4 d;exact⟨a,r,e,λp c=>b p (g.mem p c)⟩
def lR(g:mh hs ps)(b:ps ≠ []):hs ≠ []:=by
 obtain⟨a,r,e,_⟩:=g.T4 b
 lia
def GC{X:Tr}(g:mh hs ps)(a:ps ≠ [])(h0:0<X.1)(c:∀b∈aI hs,0<=N9 b X):Wr (hs.map sT) X :=
 yq h0 (vP (Ca g a) (lR g a) h0 c)
def xA(a b:Sp):N9 (eG a b) (sT a)=0/\N9 (eG a b) (sT b)=0:=by constructor<;>(unfold N9 eG sT;grind)
def pN(a w:Sp):N9 (bZ a w) (sT a)=0:=by unfold N9 bZ sT;grind
theorem xr{R:Tr->Tr->Prop}:∀{l:yaw},(∀i (h:i+1<l.length),R (l[i]'(by lia)) l[i+1])->S1 R l
 |[],_=>True.intro
 |[_],_=>True.intro
 |a::b::r,h=>⟨h 0 (by simp),xr λi c=>h (i+1) (by simp_all)⟩
def GA{hs:yau}{g:yaw}(i:hs ≠ [])(j:∀b∈aI hs,b∈g):Z2 (Sh (·∈g)) (hs.map sT):=λk z l=>by
 by_cases c:hs.length<3;have h:aI hs=fC (hs.getD 0 (0,0)) (hs.getD (hs.length - 1) (0,0)):=by unfold aI;rw[Og c]
 have n:∃e∈g,∀p∈hs,N9 e (sT p)=0:=by
  refine⟨bZ (hs.getD 0 (0,0)) (Tb (aM (hs.getD 0 (0,0)) (hs.getD (hs.length - 1) (0,0)))),j _ (by rw[h];unfold fC;simp),λp f=>?_⟩;rcases hs with _|⟨a,_|⟨b,_|⟨d,r⟩⟩⟩;exact absurd rfl i;rw[QY.mp f];exact pN _ _;simp at f;rcases f with rfl|rfl;exact pN _ _;show N9 (bZ a (Tb (aM a p))) (sT p)=0;unfold aM;split;rename_i e;rw[<- e];exact pN _ _;unfold N9 bZ sT Tb;grind;simp at c;lia
 obtain⟨e,m,f⟩:=n;have a:∀x∈hs.map sT,N9 e x=0:=λx hx=>by obtain⟨p,b,rfl⟩:=OZ.mp hx;exact f p b
 have d:z∈hs.map sT:=by rw[l];simp
 have b:∀x∈z::hs.map sT,N9 e x=0:=λx hx=>by
  rcases OK.mp hx with rfl|hx;exact a x d;exact a x hx
 exact xr λi a=>⟨e,m,b _ (SE _),b _ (SE _)⟩
 have h:aI hs=(List.range' 0 hs.length).map λk=>eG (bH hs k) (hs.getD k (0,0)):=by unfold aI;rw[Oc c]
 have b:∀{i:Nat} (a:i<hs.length),hs.getD i (0,0)=hs[i]:=fun {i} a=>by rw[Py,O2 a];rfl
 have d:∀i (a:i<hs.length),Sh (·∈g) (sT (bH hs i)) (sT hs[i]):=λi a=>by obtain⟨f,c⟩:=xA (bH hs i) (hs.getD i (0,0));refine⟨_,j (eG (bH hs i) (hs.getD i (0,0))) (by rw[h];exact OZ.mpr ⟨i,by simp[a],rfl⟩),f,?_⟩;rw[<- b a];exact c
 have f:z=sT (bH hs 0):=by
  have c:(hs.map sT).getLast?=some z:=by rw[l];simp
  rw[List.getLast?_map,zDN]at c;unfold bH;have:(0+hs.length - 1) % hs.length=hs.length - 1:=by rw[UW];exact S5 (by lia)
  rw[this,b (by lia)];rw[O2 (by lia)]at c;exact(SO c).symm
 refine xr λi a=>?_
 cases i with
 |zero =>
  show Sh _ z ((hs.map sT)[0]'_);rw[f,Up];exact d 0 (by lia)
 |succ i =>
  show Sh _ ((hs.map sT)[i]'_) ((hs.map sT)[i+1]'_);rw[Up,Up];simp at a;have:=d (i+1) (by lia);unfold bH at this;have e:(i+1+hs.length - 1) % hs.length=i:=by
   have:i+1+hs.length - 1=i+hs.length:=by lia
   rw[this,Zv];exact S5 (by lia)
  rw[e,b (by lia)]at this;exact this
def FU(d:WB n a)(c:WB n b):WB (n+1) (aM a b)/\aM a b≠(0,0):=by unfold aM;split;exact⟨⟨by unfold Bd;grind,by unfold Bd;simp_all [Nat.pow_pos]⟩,by simp⟩;rename_i e;refine⟨⟨?_,?_⟩,λz=>e ?_⟩;rw[Uq,Uq];exact c.x.sub d.x;show Bd _ (1*b.2 - 1*a.2);rw[Uq,Uq];exact c.y.sub d.y;grind
def Jb(c:WB n a)(b:WB (n+1) w)(h0:w≠(0,0)):Y8 n (bZ a w):=by
 unfold bZ;refine⟨λz=>h0 ?_,?_,?_,?_⟩
 lia
 exact Bd.mono (Bd.neg ((b.x.mul c.x).add (b.y.mul c.y))) (by lia);rw[Int.mul_one];exact b.x;show Bd _ (w.2*1);rw[Int.mul_one];exact b.y
def Ha{hs:yau}(a:hs ≠ [])(k:Nat):bH hs k∈hs:=by unfold bH;have:(k+hs.length - 1) % hs.length<hs.length:=VU _ (Yt.mpr a);rw[Py,O2 this];exact SE _
def getD_mem{hs:yau}{k:Nat}(h:k<hs.length):hs.getD k (0,0)∈hs:=by rw[Py,O2 h];exact SE _
def Dn{hs:yau}(i:hs ≠ [])(j:1<hs.length->∀k,k<hs.length->bH hs k≠hs.getD k (0,0))(g:∀p∈hs,WB n p):∀b∈aI hs,Y8 n b:=λb e=>by
 unfold aI at e;split at e
 ·have a:0<hs.length:=Yt.mpr i;have c:=g _ (getD_mem (hs:=hs) (k:=0) a);have b:=g _ (getD_mem (hs:=hs) (k:=hs.length - 1) (by lia));obtain⟨f,h⟩:=FU c b;generalize hs.getD 0 (0,0)=a at *;generalize hs.getD (hs.length - 1) (0,0)=d at *;unfold fC at e;simp at e;generalize aM a d=w at *;have l:WB (n+1) (T5 w)/\T5 w≠(0,0):=⟨⟨f.x.neg,f.y.neg⟩,λz=>h (by
   unfold T5 at z;simp only[Prod.mk.injEq]at z;exact WC (by lia) (by lia))⟩
  have a:WB (n+1) (Tb w)/\Tb w≠(0,0):=⟨⟨f.y.neg,f.x⟩,λz=>h (by unfold Tb at z;simp at z;exact WC (by lia) (by lia))⟩
  have bl:WB (n+1) (T5 (Tb w))/\T5 (Tb w)≠(0,0):=⟨⟨a.1.x.neg,a.1.y.neg⟩,λz=>a.2 (by generalize Tb w=v at *;unfold T5 at z;simp only[Prod.mk.injEq]at z;exact WC (by lia) (by lia))⟩
  rcases e with rfl|rfl|rfl|rfl
  all_goals simp_all [Jb]
 obtain⟨k,a,rfl⟩:=OZ.mp e;have e:k<hs.length:=by simp at a;exact a
 have a:=j (by lia) k e;have c:=g _ (Ha i k);have b:=g _ (getD_mem e);generalize hs.getD k (0,0)=d at *;unfold eG;refine⟨λz=>a ?_,?_,?_,?_⟩;simp at z;exact WC (by lia) (by lia);exact Bd.mono ((c.x.mul b.y).sub (b.x.mul c.y)) (by lia);rw[Int.mul_one,Int.mul_one];exact c.y.sub b.y;rw[Uq,Uq];exact b.x.sub c.x
def Gz{a Z:yaw}(h:cO ys ps)(c:ps ≠ [])(d:∀p∈ps,WB n p)(i:∀b∈aI (aO ys),b∈a)(e:∀p∈aO ys,sT p∈Z)(f:(aO ys).length<=Z.length):Y9 n a Z ((aO ys).map sT):=by
 have g:=df h;have w:∀p∈aO ys,WB n p:=λp a=>d p (g.mem p a)
 refine⟨(yp h).1,λp a=>?_,λp a=>?_,GA (lR g c) i,λp a=>?_,by rw[Of];exact f⟩;obtain⟨q,_,rfl⟩:=OZ.mp a;exact Nj q;obtain⟨q,b,rfl⟩:=OZ.mp a;refine⟨?_,(w q b).x.mono (by lia),(w q b).y.mono (by lia)⟩;show Bd _ 1;unfold Bd;exact QZ (show 1<2 ^ 1 by decide) (W9 (by decide) (by lia));obtain⟨q,b,rfl⟩:=OZ.mp a;exact e q b
def Fs(g:Tr)(a:Tr->Tr->Tr)(z:Tr)(l:yaw)(c:Tr):aJ g a z (l++[c])=aJ g a z l++((if N9 g (l.getLastD z)*N9 g c<0 then[a (l.getLastD z) c]else[])++(if 0<=N9 g c then[c]else[])):=by
 rcases List.eq_nil_or_concat l with rfl|⟨k,p,rfl⟩;simp only[U9,aJ,U8,List.getLastD_nil];rfl;rw[List.concat_eq_append,US];show aJ g a z (k++p::[c])=_;rw[iI];congr 1;simp only[aJ,U8];rw[List.getLastD_concat]
theorem rV(g:Tr)(a:Tr->Tr->Tr):∀(l:yaw) (z:Tr),(aJ g a z l).length<=2*l.length
 |[],_=>O5 _
 |c::r,z=>by unfold aJ;have:=rV g a r c;rw[QX,QX,RG];split<;>split<;>simp<;>lia
theorem n9:∀(l s a:yaw),(∀x,x∈s↔x∈a)->Sq s l=Sq a l
 |[],_,_,_=>rfl
 |x::r,s,a,h=>by unfold Sq;by_cases q:x∈s;rw[Og q,Og ((h x).mp q)];exact n9 r s a h;rw[Oc q,Oc λz=>q ((h x).mpr z)];congr 1;exact n9 r _ _ λy=>by simp[h y]
theorem xM(z:Tr):∀(l a:yaw),((List.range' a.length l.length).filter λk=>!((a++l).take k).any λy=>decide (y=(a++l).getD k z)).map (λk=>(a++l).getD k z)=Sq a l
 |[],a=>rfl
 |x::r,a=>by
  have ih:=xM z r (a++[x]);have e:a++[x]++r=a++x::r:=by simp
  rw[e]at ih;have b:(a++x::r).getD a.length z=x:=by simp[Py]
  have c:(a++x::r).take a.length=a:=by simp
  rw[RG,List.range'_succ,List.filter_cons,b,c];have c:(a.any λy=>decide (y=x))=decide (x∈a):=by rw[ZA];simp
  rw[c];have c:(a++[x]).length=a.length+1:=by simp
  rw[c]at ih;unfold Sq;by_cases q:x∈a;rw[Og q,Oc (by simp[q]),ih];exact n9 r _ _ λy=>by simp only[Qn,QY];exact⟨λh=>h.elim id λe=>e ▸ q,.inl⟩
  rw[Oc q,Og (by simp[q]),Pj,b,ih]
def Mx(a b:Int):(sg a*sg b<0)↔a*b<0:=by
 unfold sg;rcases Xa a 0 with c|c|c
 ·rw[Oc (by lia),Og c];rcases Xa b 0 with a|a|a;rw[Oc (by lia),Og a];have:=Zi c a;constructor<;>intro<;>lia
  all_goals simp_all [Og,U6]
 simp_all
 rw[Og c];rcases Xa b 0 with a|a|a;rw[Oc (by lia),Og a]
 simp_all [Zh]
 simp_all
 rw[Og a];have:=Ue c a;constructor<;>intro<;>lia
def My(a:Int):(0<=sg a)↔0<=a:=by unfold sg;split;constructor<;>intro<;>lia;split<;>(constructor<;>intro<;>lia)
def Lw(p q:Tr):eqD (Ou p) (Ou q)=decide (p=q):=by unfold Ou;rw[DY];obtain⟨a,b,c⟩:=p;obtain⟨d,e,f⟩:=q;rw[ZA];simp
def A5(p:Tr):P4 1 (Ou p):=P4.tup (.cons (.int _ _) (.cons (.int _ _) (.cons (.int _ _) (.nil _))))
def cu(ps:yau):D:=.lst false (ps.map Ov)
def GL(h:cu p=cu q):p=q:=by unfold cu at h;simp at h;exact Br h
def Jv{ps qs:yat}(h:ps.map cu=qs.map cu):ps=qs:=i8 GL h
def rS(p:yau):aB (cu p)=cu p:=by unfold cu;rw[bq,cq]
def CW(ps:yat):aU (ps.map cu)=ps.map cu:=cI cu rS ps
def bG:yat->yat->Prop
 |[],[]=>True
 |ys::a,b::c=>cO ys b/\bG a c
 |_,_=>False
theorem bG.len:∀{yss Ls:yat},bG yss Ls->yss.length=Ls.length
 |[],[],_=>rfl
 |_::_,_::_,a=>by rw[RG,RG,bG.len a.2]
 |[],_::_,a=>a.elim
 |_::_,[],a=>a.elim
theorem bG.snoc:∀{yss Ls:yat} {ys ps:yau},bG yss Ls->cO ys ps->bG (yss++[ys]) (Ls++[ps])
 |[],[],_,_,_,h=>⟨h,True.intro⟩
 |_::_,_::_,_,_,a,h=>⟨a.1,bG.snoc a.2 h⟩
 |[],_::_,_,_,a,_=>a.elim
 |_::_,[],_,_,a,_=>a.elim
theorem bG.ex:∀{yss Ls:yat},bG yss Ls->∀ys∈yss,∃ps∈Ls,cO ys ps
 |[],_,_,_,h=>by cases h
 |y::yss,p::Ls,a,ys,h=>by
  rcases OK.mp h with rfl|h;exact⟨p,by simp,a.1⟩;obtain⟨ps,m,r⟩:=bG.ex a.2 ys h;exact⟨ps,Pz _ m,r⟩
 |_::_,[],a,_,_=>a.elim
theorem bG.ex2:∀{yss Ls:yat},bG yss Ls->∀ps∈Ls,∃ys∈yss,cO ys ps
 |_,[],_,_,h=>by cases h
 |y::yss,p::Ls,a,ps,h=>by
  rcases OK.mp h with rfl|h;exact⟨y,by simp,a.1⟩;obtain⟨ys,m,r⟩:=bG.ex2 a.2 ps h;exact⟨ys,Pz _ m,r⟩
 |[],_::_,a,_,_=>a.elim
def aS:Nat->yat->yav
 |_,[]=>[]
 |n,a::r=>((aI (aO a)).map λg=>((n:Int),g))++aS (n+1) r
theorem tG:∀(yss:yat) (n:Nat) (ys:yau),aS n (yss++[ys])=aS n yss++(aI (aO ys)).map λg=>(((n+yss.length:Nat):Int),g)
 |[],n,ys=>by simp[aS]
 |y::yss,n,ys=>by
  rw[UR,aS,aS,tG yss (n+1) ys,US,RG];congr 4
  funext g
  congr 2
  lia
theorem vQ:∀{yss:yat} {n:Nat} {x:Int×Tr},x∈aS n yss->∃ys∈yss,x.2∈aI (aO ys)
 |[],_,_,h=>by cases h
 |y::yss,n,x,h=>by
  rw[aS]at h;rcases Qn.mp h with h|h;obtain⟨g,a,rfl⟩:=OZ.mp h;exact⟨y,by simp,a⟩;obtain⟨ys,m,q⟩:=vQ h;exact⟨ys,Pz _ m,q⟩
theorem oI:∀{yss:yat} (n:Nat) {ys:yau} {g:Tr},ys∈yss->g∈aI (aO ys)->g∈(aS n yss).map (·.2)
 |[],_,_,_,h,_=>by cases h
 |y::yss,n,ys,g,h,a=>by
  rw[aS,Q1];rcases OK.mp h with rfl|h;refine Uj _ ?_;rw[Pp];exact OZ.mpr ⟨g,a,rfl⟩;exact Rw _ (oI (n+1) h a)
theorem oJ{B:Nat}:∀(yss:yat) (n:Nat),(∀ys∈yss,(aI (aO ys)).length<=B)->(aS n yss).length<=B*yss.length
 |[],_,_=>QS _
 |y::yss,n,h=>by
  rw[aS,QX,Of,RG,Nat.mul_succ];have:=h y (by simp);have:=oJ yss (n+1) λz a=>h z (Pz _ a)
  lia
def Sr(x:Int×Tr):D:=.tup [.int x.1,Ou x.2]
def zp(x:Int×Tr):aB (Sr x)=Sr x:=by unfold Sr;simp only[cJ,aW,bC,eX,gg]
def CY(xs:yav):aU (xs.map Sr)=xs.map Sr:=cI Sr zp xs
def cA(r:yag×yaf):D:=.tup [Ra r.1,.lst true (r.2.map D.int)]
def iJ (y:Tr) (a:List (yag×yaf)):D:=.tup [.str "meet", Ou y,.lst true (a.map cA)]
structure LsOk(Ls:yat):Prop where
 l0:0<Ls.length
 l8:Ls.length<=8
 ne:∀ps∈Ls,0<ps.length
 le:∀ps∈Ls,ps.length<=30
 bd:∀ps∈Ls,∀p∈ps,WB 40 p
def BC(Ls:yat)(X:Tr):Prop:=0<X.1/\∀a∈Ls,∀g:Tr,(∀p∈a,0<=N9 g (1,p.1,p.2))->0<=N9 g X
def CB.pb{y:Tr}(h:CB 40 y)(p:Pr y):PB 160 y:=⟨p.pos,h.b.mono (by decide),h.x.mono (by decide),h.y.mono (by decide)⟩
def B6{a:Type}(f:a->D)(z:a)(xs:List a):my 0 (xs.map f)=(List.range' 0 xs.length).map λk=>D.tup [.int ((k:Nat):Int),f (xs.getD k z)]:=by apply List.ext_getElem?;intro i;by_cases h:i<xs.length;rw[ow 0 (xs.map f) i (f xs[i]) (by rw[PO,O2 h];rfl),PO,O2 (by rw[Ub];exact h),Zn,UW,UW,Nat.one_mul,Option.map_some,Py,O2 h];rfl;rw[W5 (by rw[oz,Of];lia),W5 (by rw[Of,Ub];lia)]
def cH(r:yag×yaf):D:=.tup [.lst false (r.1.map λ(k:Nat)=>D.int (k:Int)),.lst false (r.2.map D.int)]
def tU(r:yag×yaf):aB (cA r)=cH r:=by
 have e:r.1.map (λ(k:Nat)=>D.int (k:Int))=(r.1.map λ(k:Nat)=>(k:Int)).map D.int:=by simp_all
 unfold cA cH Ra;rw[e];simp only[cJ,aW,bC,bq,cn]
theorem kD:∀a:List (yag×yaf),aU (a.map cA)=a.map cH
 |[]=>bC
 |r::a=>by simp_all [Pj,aW,tU,kD]
def qE(r:yag×yaf):aB (cH r)=cH r:=by
 have e:r.1.map (λ(k:Nat)=>D.int (k:Int))=(r.1.map λ(k:Nat)=>(k:Int)).map D.int:=by simp_all
 unfold cH;rw[e];simp only[cJ,aW,bC,bq,cn]
def oE(ps:yau):D:=.lst true (ps.map Ov)
def tT(ps:yau):aB (oE ps)=cu ps:=by unfold oE cu;rw[bq,cq]
theorem lN:∀Ls:yat,aU (Ls.map oE)=Ls.map cu
 |[]=>bC
 |p::r=>by simp_all [Pj,aW,tT,lN]
theorem wR:∀(l:yaf),(∀x∈l,Bd n x)->Bd (n+l.length) l.sum
 |[],_=>by unfold Bd;simp_all [Nat.pow_pos]
 |x::r,h=>by exact Bd.add (m:=n+r.length) ((h x (by simp)).mono (by lia)) (wR r λy a=>h y (by grind))
def zX(ps:yau)(a:List (Nat×Int)):Int:=(a.map λz=>z.2*(ps.getD z.1 (0,0)).1).sum
def zY(ps:yau)(a:List (Nat×Int)):Int:=(a.map λz=>z.2*(ps.getD z.1 (0,0)).2).sum
theorem MN(ps:yau):∀(b:yag) (a:yaf),zX ps (b.zip a)=sX (b.map λk=>ps.getD k (0,0)) a
 |[],_=>by unfold zX sX;simp
 |_::_,[]=>by unfold zX sX;simp
 |k::b,s::a=>by have:=MN ps b a;unfold zX sX at this ⊢;rw[Zq,Pj,X1,this,Pj,Zj,X1,Rx]
theorem MP(ps:yau):∀(b:yag) (a:yaf),zY ps (b.zip a)=sY (b.map λk=>ps.getD k (0,0)) a
 |[],_=>by unfold zY sY;simp
 |_::_,[]=>by unfold zY sY;simp
 |k::b,s::a=>by have:=MP ps b a;unfold zY sY at this ⊢;rw[Zq,Pj,X1,this,Pj,Zj,X1,Rx]
theorem rZ:∀(b:yag) (a:yaf),List.zipWith (λx y=>D.tup [x,y]) ((b.map λ(k:Nat)=>(k:Int)).map D.int) (a.map D.int)=(b.zip a).map λz=>D.tup [.int ((z.1:Nat):Int),.int z.2]
 |[],_=>rfl
 |_::_,[]=>rfl
 |k::b,s::a=>by rw[Pj,Pj,Pj,Zj,rZ b a,Zq,Pj]
theorem kE{a:Type}(f:a->D)(h:∀x,cV (f x)=true):∀xs:List a,fM (xs.map f)=true
 |[]=>rfl
 |x::r=>by rw[Pj,fM,h x,kE f h r];rfl
def Df(r:yag×yaf):cV (cA r)=true:=by unfold cA Ra;rw[cV,fM,cV,kE _ (λ_=>rfl),fM,cV,kE _ (λ_=>rfl)];rfl
def GR(r:yag×yaf):P4 2 (cA r):=P4.tup (.cons (P4.map λ(_:Nat)=>P4.int 0 _) (.cons (P4.map (P4.int 0)) (.nil _)))
structure N4(m:Sp)(ps:yau):Prop where
 l0:0<ps.length
 l3:ps.length<=3
 bd:∀p∈ps,WB 40 p
 inn:∀g:Tr,(∀p∈ps,0<=N9 g (1,p.1,p.2))->0<=N9 g (1,m.1,m.2)
def plk(a b c d:Sp):tn a b*tn c d=tn a c*tn b d - tn a d*tn b c:=by unfold tn;grind
theorem xZ(t:Sp):∀V:yau,(∃v∈V,0<tn t v)->∃v∈V,0<tn t v/\∀w∈V,0<tn t w->0<=tn v w
 |[],h=>by obtain⟨v,b,_⟩:=h;cases b
 |x::V,h=>by
  by_cases d:∃v∈V,0<tn t v
  ·obtain⟨v,vm,b,g⟩:=xZ t V d;by_cases f:0<tn t x/\tn v x<0;refine⟨x,RB,f.1,λw a c=>?_⟩;rcases OK.mp a with e|wm;rw[e,p6];exact R8 _;have k:=plk t v x w;have i:=QU (QI f.1) (g w wm c);have f:=Ue c (show 0 < - tn v x by lia);rw[Int.mul_neg]at f;exact Wt (by rw[k];lia) b
   ·refine⟨v,Pz _ vm,b,λw a c=>?_⟩;rcases OK.mp a with e|wm
    all_goals simp_all
  obtain⟨v,vm,b⟩:=h;rcases OK.mp vm with e|vm;subst e;refine⟨v,RB,b,λw a c=>?_⟩;rcases OK.mp a with e|wm;rw[e,p6];exact R8 _;exact absurd ⟨w,wm,c⟩ d;exact absurd ⟨v,vm,b⟩ d
theorem CV{a:Type}(f:a->Int):∀V:List a,∃M:Int,0<M/\∀v∈V,f v<=M
 |[]=>⟨1,by decide,λv a=>by cases a⟩
 |x::V=>by
  obtain⟨M,c,b⟩:=CV f V;refine⟨M+(f x).toNat,by lia,λv a=>?_⟩;rcases OK.mp a with e|a;subst e;lia;have:=b v a;lia
def sq_pos{t:Sp}(d:t≠(0,0)):0<OO t t:=by
 obtain⟨a,b⟩:=t;show 0<a*a+b*b;have f:0<=a*a:=by rcases Int.le_total 0 a with h|h;exact QU h h;exact Z7 h h
 have e:0<=b*b:=by rcases Int.le_total 0 b with h|h;exact QU h h;exact Z7 h h
 by_cases c:a=0;have a:b≠0:=by lia
 have:=Int.mul_ne_zero a a;omega;have:=Int.mul_ne_zero c c;omega
def LA{t:Sp}(a:t≠(0,0))(V:yau)(g:∀d:Sp,(∀v∈V,0<=OO v d)->0<=OO t d):(∃v∈V,tn t v=0/\0<OO t v)∨∃ v∈V,∃w∈V,tn t v<0/\0<tn t w/\0<tn v w:=by
 refine Z9 λb=>?_
 have f:∀v∈V,tn t v=0->OO t v<=0:=λv d h=>VT.mp λz=>b (.inl ⟨v,d,h,z⟩)
 have j:=sq_pos a;by_cases L:∃v∈V,0<tn t v;obtain⟨w,i,k,ext⟩:=xZ t V L;have a:=g (-w.2,w.1) λv d=>by
  have e:OO v (-w.2,w.1)=tn w v:=by unfold OO tn;grind
  rw[e];rcases Xa (tn t v) 0 with c|c|c;refine VT.mp λz=>b (.inr ⟨v,d,w,i,c,k,?_⟩)
  rw[cL];lia;have k:OO t t*tn w v=OO t v*tn w t+tn t v*OO w t:=by unfold OO tn;grind
  rw[c,VA,Int.add_zero]at k;have q:=Z7 (f v d c) (show tn w t<=0 by rw[cL];lia);rw[<- k]at q;exact Wt q j;exact ext v d c
 have e:OO t (-w.2,w.1)=tn w t:=by unfold OO tn;grind
 rw[e,cL]at a
 lia
 obtain⟨M,j,i⟩:=CV (λv=>OO v t) V;have a:=g (M*t.2 - t.1,- (M*t.1) - t.2) λv d=>by
  have e:OO v (M*t.2 - t.1,- (M*t.1) - t.2)=M*(- tn t v) - OO v t:=by unfold OO tn;grind
  rw[e];have h:=VT.mp λz=>L ⟨v,d,z⟩
  by_cases c:tn t v=0;have:=f v d c;rw[qM]at this;rw[c];lia;have b:M*1<=M*(- tn t v):=zC5 (by lia) (QI j);have:=i v d
  lia
 have e:OO t (M*t.2 - t.1,- (M*t.1) - t.2)=- OO t t:=by unfold OO;grind
 lia
def vc(g:Tr):Sp:=(g.2.1,g.2.2)
def M4(g:Tr)(N b a:Int)(p:Tr):N9 g (N*p.1,N*p.2.1+b,N*p.2.2+a)=N*N9 g p+OO (vc g) (b,a):=by unfold N9 OO vc;grind
def Kz{a C:yaw}(d:C ≠ [])(pos:∀p∈C,0<p.1)(o:∀p∈C,N9 g p<0)(r:∀h∈a,∀p∈C,0<=N9 h p)
  (sp:∀X:Tr,0<X.1->(∀h∈a,0<=N9 h X)->Wr C X) (f:vc g≠(0,0)) :
  ∃ p:Tr,0<p.1/\N9 g p<0/\((∃h∈a,N9 h p=0/\gY (vc h) (vc g))∨∃ h∈a,∃k∈a,N9 h p=0/\N9 k p=0/\dM (vc h) (vc k) (vc g)):=by
 obtain⟨b,c⟩:=zCk C d;have m:∀p:Tr,N9 (-1,0,0) p=- p.1:=λp=>by unfold N9;grind
 obtain⟨p,n,d,_,i⟩:=qY g (-1,0,0) C ⟨b,c,o b c,by rw[m];have:=pos b c;lia⟩;have j:=pos p n;refine⟨p,j,d,?_⟩;have b:(- g.2.1,- g.2.2)≠((0,0):Sp):=λe=>f (by have d:=congrArg Prod.fst e;have c:=congrArg Prod.snd e;dsimp only at d c;unfold vc;rw[show g.2.1=0 by lia,show g.2.2=0 by lia])
 have l:=LA b ((a.filter λh=>decide (N9 h p=0)).map vc) λd b=>by
  obtain⟨N,q,t⟩:=CV (λh=>- OO (vc h) d) a;have s:∀h∈a,0<=N9 h (N*p.1,N*p.2.1+d.1,N*p.2.2+d.2):=λh f=>by
   rw[M4];by_cases c:N9 h p=0;rw[c,Vz,Int.zero_add];exact b _ (OZ.mpr ⟨h,zDP.mpr ⟨f,Wx c⟩,rfl⟩);have b:N*1<=N*N9 h p:=zC5 (by have:=r h f p n;lia) (QI q);have:=t h f;show 0<=N*N9 h p+OO (vc h) d
   lia
  have I:=sp _ (Ue q j) s (N9 g p - p.1*g.1,- (p.1*g.2.1),- (p.1*g.2.2)) λy n=>by
   have b:=i y n (o y n);rw[m,m]at b;have e:N9 (N9 g p - p.1*g.1,- (p.1*g.2.1),- (p.1*g.2.2)) y=N9 g p*y.1 - p.1*N9 g y:=by unfold N9;grind
   rw[e];rw[Int.mul_neg,SG]at b
   lia
  have e:N9 (N9 g p - p.1*g.1,- (p.1*g.2.1),- (p.1*g.2.2)) (N*p.1,N*p.2.1+d.1,N*p.2.2+d.2)=p.1*OO (- g.2.1,- g.2.2) d:=by unfold N9 OO;grind
  rw[e]at I;exact Wt I j
 have d:∀v∈(a.filter λh=>decide (N9 h p=0)).map vc,∃h∈a,N9 h p=0/\vc h=v:=λv a=>by obtain⟨h,f,e⟩:=OZ.mp a;obtain⟨a,b⟩:=zDP.mp f;exact⟨h,a,XW b,e⟩
 have i:∀v:Sp,tn (- g.2.1,- g.2.2) v=- tn (vc g) v:=λv=>by unfold tn vc;grind
 have m:∀v:Sp,OO (- g.2.1,- g.2.2) v=- OO (vc g) v:=λv=>by unfold OO vc;grind
 rcases l with⟨v,e,a,b⟩| ⟨v,e,w,j,a,b,c⟩;obtain⟨h,f,g,rfl⟩:=d v e;rw[i]at a;rw[m]at b;exact .inl ⟨h,f,g,by rw[cL];lia,by rw[qM];lia⟩;obtain⟨h,f,g,rfl⟩:=d v e;obtain⟨k,l,e,rfl⟩:=d w j;rw[i]at a b;refine .inr ⟨h,f,k,l,g,e,.inl ⟨?_,?_,c⟩⟩;rw[cL];exact b
 lia
theorem xu{a Z:yaw}(i:∀e∈a,Y8 n e)(j:∀e∈a,∀g∈a,U5 (OU e g)∈Z):∀(f l:yaw),(∀g∈f,g∈a)->Y9 n a Z l →
  Y9 n a Z (aT f l)/\(∀X,Wr l X->(∀g∈f,0<=N9 g X)->Wr (aT f l) X)/\(∀g∈f,∀y∈aT f l,0<=N9 g y)/\∀d,(∀p∈l,0<=N9 d p)->∀y∈aT f l,0<=N9 d y
 |[],l,_,C=>⟨C,λ_ I _=>I,λ_ h=>(by cases h),λ_ h=>h⟩
 |g::f,l,h,C=>by
  obtain⟨n,m,k⟩:=si (g:=g) C.So C.pr;obtain⟨a,b,c,d⟩:=xu i j f (fb g l) (λx f=>h x (Pz _ f)) (F3 i (h g (by simp)) (λe i=>j e i g (h g (by simp))) C);refine⟨a,λX I a=>b X (n X I (a g (by simp))) λx f=>a x (Pz _ f),λx f y a=>?_,λe i=>d e (k e i)⟩;rcases OK.mp f with rfl|f;exact d x m y a;exact c x f y a
def OF(yss:yat):yaw:=(aS 0 yss).map (·.2)
def F0(yss:yat):yaw:=(aO (yss.getD 0 [])).map sT
def Dp{hs:yau}(c:hs ≠ []){b:Tr}(a:b∈aI hs):∃p:Sp,N9 b (sT p)=0:=by
 unfold aI at a;split at a;unfold fC at a;simp only[OK,TN,or_false]at a;rcases a with e|e|e|e<;>(rw[e];exact⟨_,pN _ _⟩);obtain⟨k,_,e⟩:=OZ.mp a;rw[<- e];exact⟨_,(xA _ _).1⟩
def Nu(h:Y8 n b)(e:N9 b (sT p)=0):vc b≠(0,0):=λz=>h.ne (by have c:b.2.1=0:=congrArg Prod.fst z;have a:b.2.2=0:=congrArg Prod.snd z;unfold N9 sT at e;grind)
structure pH(yss:yat):Prop where
 zs:∃Z:yaw,Z.length<=300000/\∀j,Y9 40 (OF yss) Z (aT ((OF yss).take j) (F0 yss))
 inc:∀j X,0<X.1->(∀b∈aI (aO (yss.getD 0 [])),0<=N9 b X)->(∀g∈(OF yss).take j,0<=N9 g X)->Wr (aT ((OF yss).take j) (F0 yss)) X
 ov:∀j,∀g∈(OF yss).take j,∀y∈aT ((OF yss).take j) (F0 yss),0<=N9 g y
 gb:∀g∈OF yss,Y8 40 g/\vc g≠(0,0)
 pos:0<(OF yss).length
 le:(OF yss).length<=512
 ne:F0 yss ≠ []
 own:∀j,∀b∈aI (aO (yss.getD 0 [])),∀y∈aT ((OF yss).take j) (F0 yss),0<=N9 b y
 hd:∃r,OF yss=aI (aO (yss.getD 0 []))++r
def sR(L:LsOk Ls)(K:bG yss Ls):pH yss:=by
 have n:∀a∈yss,∃b∈Ls,cO a b:=K.ex;have s:∀g∈OF yss,Y8 40 g/\vc g≠(0,0):=λg m=>by obtain⟨x,d,rfl⟩:=OZ.mp m;obtain⟨a,c,k⟩:=vQ d;obtain⟨b,e,r⟩:=n a c;have c:=df r;have d:=XR (L.ne b e);have B:=Dn (lR c d) (yp r).2 (λp i=>L.bd b e p (c.mem p i)) x.2 k;obtain⟨p,i⟩:=Dp (lR c d) k;exact⟨B,Nu B i⟩
 obtain⟨j,Lr,rfl⟩:∃p r,Ls=p::r:=by
  cases Ls with
  |nil=>exact absurd L.l0 (by simp)
  |cons p r=>exact⟨p,r,rfl⟩
 obtain⟨c,d,rfl⟩:∃p r,yss=p::r:=by
  cases yss with
  |nil=>exact K.elim
  |cons p r=>exact⟨p,r,rfl⟩
 have o:cO c j:=K.1;have f:=df o;have h:=XR (L.ne j (by simp));have l:∀a∈c::d,(aI (aO a)).length<=64:=λa q=>by
  obtain⟨b,e,r⟩:=n a q;have:=(df r).len;have:=L.le b e;have:=mj (aO a)
  lia
 have lo:(aS 0 (c::d)).length<=64*(c::d).length:=oJ _ 0 l;have A:=K.len;have C:=L.l8;have u:∃r,OF (c::d)=aI (aO c)++r:=by refine⟨(aS 1 d).map (·.2),?_⟩;unfold OF;rw[aS,Q1,Pp];congr 1;exact List.map_id'' (λ_=>rfl) _
 have x:∀b∈aI (aO c),b∈OF (c::d):=λb k=>oI 0 (by simp) k
 have z:0<(OF (c::d)).length:=by
  unfold OF;rw[Of,aS,QX,Of];have:0<(aI (aO c)).length:=by unfold aI;split;unfold fC;simp;rw[Of,Ub];lia
  lia
 have q:(OF (c::d)).length<=512:=by unfold OF;rw[Of];lia
 have t:F0 (c::d)=(aO c).map sT:=rfl
 let Z:yaw:=(aO c).map sT++(OF (c::d)).flatMap λe=>(OF (c::d)).map λg=>U5 (OU e g)
 have y:Z.length<=300000:=by
  show((aO c).map sT++(OF (c::d)).flatMap λe=>(OF (c::d)).map λg=>U5 (OU e g)).length<=300000;generalize OF (c::d)=n at q ⊢;rw[QX,Of];have H:=f.len;have G:=L.le j (by simp);have E:(n.flatMap λe=>n.map λg=>U5 (OU e g)).length<=512*512:=by
   have w:∀l:yaw,(l.flatMap λe=>n.map λg=>U5 (OU e g)).length<=l.length*512:=λl=>by
    induction l with
    |nil=>simp
    |cons a r ih =>
     rw[Zs,QX,Of,RG,Nat.succ_mul]
     lia
   have:=w n
   lia
  lia
 have l:∀e∈OF (c::d),∀g∈OF (c::d),U5 (OU e g)∈Z:=λe a g m=>Rw _ (Zz.mpr ⟨e,a,OZ.mpr ⟨g,m,rfl⟩⟩)
 have n:Y9 40 (OF (c::d)) Z (F0 (c::d)):=Gz o h (L.bd j (by simp)) x (λp i=>Uj _ (OZ.mpr ⟨p,i,rfl⟩)) (by have e:((aO c).map sT).length=(aO c).length:=Of _;rw[QX,e];exact XX _ _)
 have run:=λj=>xu (λe a=>(s e a).1) l ((OF (c::d)).take j) _ (λg m=>(List.take_sublist j _).subset m) n
 refine⟨⟨Z,y,λj=>(run j).1⟩,λj X a k m=>(run j).2.1 X (GC f h a k) m,λj=>(run j).2.2.1,s,z,q,?_,λj b k=>(run j).2.2.2 b λp i=>?_,u⟩;rw[t];intro z;exact lR f h (List.map_eq_nil_iff.mp z);rw[t]at i;obtain⟨q,a,rfl⟩:=OZ.mp i;exact qq f h k (f.mem q a)
theorem As:∀a:yaw,aT a []=[]
 |[]=>rfl
 |g::a=>As a
theorem Ar(a b l:yaw):aT (a++b) l=aT b (aT a l):=List.foldl_append
def F4{G:yaw}{j:Nat}(h:aT (G.take i) F=[])(QJ:i<=j):aT (G.take j) F=[]:=by grind [List.take_add,Nat.add_sub_cancel',Ar,As]
theorem xv{G F:yaw}(d:F ≠ []):∀n,aT (G.take n) F=[]->∃a,a<n/\(∀j,j<=a->aT (G.take j) F ≠ [])/\aT (G.take (a+1)) F=[]
 |0,h=>absurd h d
 |n+1,h=>by by_cases c:aT (G.take n) F=[];obtain⟨k,e,a,b⟩:=xv d n c;exact⟨k,by lia,a,b⟩;exact⟨n,by lia,λj a z=>c (F4 z a),h⟩
def xw{G:yaw}{k:Nat}{g:Tr}(h:G[k]?=some g):aT (G.take (k+1)) F=fb g (aT (G.take k) F):=by rw[List.take_add_one,h,Ar];rfl
def Tt(G:yaw)(a:yag):yau:=a.map λk=>vc (G.getD k (0,0,0))
def qK(G:yaw)(b:yag)(a:yaf):Int:=((b.zip a).map λz=>(G.getD z.1 (0,0,0)).1*z.2).sum
def gB(G:yaw)(a:Nat):List (yag)->Option (yag×yaf)
 |[]=>none
 |o::r=>match dO (Tt G (o++[a]))with
  |some b=>if qK G (o++[a]) b<0 then some (o++[a],b)else gB G a r
  |none=>gB G a r
set_option tactic.hygienic true in
theorem vj:∀{L:List (yag)} {a:yag} {b:yaf},gB G last L=some (a,b)->(∃o∈L,a=o++[last])/\dO (Tt G a)=some b/\qK G a b<0
 |[],_,_,h=>by cases h
 |o::r,a,b,h=>by
  have d:gB G last r=some (a,b)->(∃c∈o::r,a=c++[last])/\dO (Tt G a)=some b/\qK G a b<0:=λh=>by
   obtain⟨⟨c,m,e⟩,q⟩:=vj h
   simp_all
  unfold gB at h;split at h
  ·split at h
   all_goals simp_all
  exact d h
theorem pI{a:Nat}:∀{L:List (yag)} {o:yag} {b:yaf},o∈L->dO (Tt G (o++[a]))=some b->qK G (o++[a]) b<0->∃r,gB G a L=some r
 |[],_,_,m,_,_=>by cases m
 |x::r,o,b,m,d,c=>by
  unfold gB;split;split
  lia
  rcases OK.mp m with e|m
  lia
  exact pI m d c;rcases OK.mp m with e|m
  lia
  exact pI m d c
def Es{p c t v:Int}(d:0<p)(b:0<t)(a:v<0)(e:p*c=t*v):c<0:=by have h:=Zh b a;rw[<- e]at h;exact Tz.mp λz=>by have:=QU (QI d) z;lia
def NC{p:Tr}(B:wG [vc h,vc g] a)(h0:0<p.1)(d:N9 h p=0)(c:N9 g p<0):∃s t,a=[s,t]/\h.1*s+g.1*t<0:=by
 obtain⟨s,t,rfl⟩:∃s t,a=[s,t]:=by
  have:=B.len;rcases a with _|⟨s,_|⟨t,_|⟨u,r⟩⟩⟩
  all_goals simp_all
 have b:=B.sum;unfold wsum vc at b;simp at b;have a:=B.pos t (by simp);refine⟨s,t,rfl,Es h0 a c ?_⟩;unfold N9 at *;grind
def ND{p:Tr}(B:wG [vc h,vc k,vc g] a)(h0:0<p.1)(e:N9 h p=0)(d:N9 k p=0)(c:N9 g p<0):∃s t u,a=[s,t,u]/\h.1*s+(k.1*t+g.1*u)<0:=by
 obtain⟨s,t,u,rfl⟩:∃s t u,a=[s,t,u]:=by
  have:=B.len;rcases a with _|⟨s,_|⟨t,_|⟨u,_|⟨v,r⟩⟩⟩⟩
  all_goals simp_all
 have b:=B.sum;unfold wsum vc at b;simp at b;have a:=B.pos u (by simp);refine⟨s,t,u,rfl,Es h0 a c ?_⟩;unfold N9 at *;grind
def u9{G:yaw}{h:Tr}(m:h∈G.take n):∃i,i<n/\G.getD i (0,0,0)=h:=by obtain⟨i,a,e⟩:=Vt m;rw[S4]at a;rw[List.getElem_take]at e;exact⟨i,by lia,by rw[Py,O2 (by lia),e];rfl⟩
def BS(S:pH yss)(e:aT (OF yss) (F0 yss)=[]) :
  ∃ a,a<(OF yss).length/\(∀j,j<=a->aT ((OF yss).take j) (F0 yss) ≠ [])/\aT ((OF yss).take (a+1)) (F0 yss)=[]/\∃r,gB (OF yss) a (O6 a 1++O6 a 2)=some r:=by
 obtain⟨a,f,k,i⟩:=xv S.ne (OF yss).length (by rw[UT];exact e);refine⟨a,f,k,i,?_⟩;obtain⟨Z,_,b⟩:=S.zs;have e:=b a;have b:(OF yss)[a]?=some (OF yss)[a]:=O2 f;have gD:(OF yss).getD a (0,0,0)=(OF yss)[a]:=by rw[Py,b];rfl
 have c:∀y∈aT ((OF yss).take a) (F0 yss),N9 (OF yss)[a] y<0:=λy d=>Tz.mp λz=>by have l:=(si (g:=(OF yss)[a]) e.So e.pr).1 y (λh g=>g y d) z;rw[xw b]at i;exact LP l (e.pr y d).pos i
 have l:=k a (O5 _);obtain⟨g,k⟩:=zCk _ l;obtain⟨r,i⟩:=S.hd;have o:(aI (aO (yss.getD 0 []))).length<=a:=WA.mp (by
  intro z;have n:a<(aI (aO (yss.getD 0 []))).length:=by lia
  have m:(OF yss)[a]∈aI (aO (yss.getD 0 [])):=by
   have q:(OF yss)[a]?=(aI (aO (yss.getD 0 [])))[a]?:=by rw[i,UO n]
   rw[b]at q;exact Ql q.symm
  have:=S.own a _ m g k;have:=c g k
  lia)
 have sub:∀b∈aI (aO (yss.getD 0 [])),b∈(OF yss).take a:=λb g=>by rw[i,List.take_append];refine Uj _ ?_;rw[W4 o];exact g
 obtain⟨p,A,C,i⟩:=Kz l (λy d=>(e.pr y d).pos) c (S.ov a) (λX d c=>S.inc a X d (λb g=>c b (sub b g)) c) (S.gb _ (SE f)).2;rcases i with⟨h,c,e,B⟩| ⟨h,c,k,m,e,l,B⟩;obtain⟨i,q,d⟩:=u9 c;have w:Tt (OF yss) ([i]++[a])=[vc h,vc (OF yss)[a]]:=by show[vc ((OF yss).getD i (0,0,0)),vc ((OF yss).getD a (0,0,0))]=_;rw[d,gD]
 have g:dO [vc h,vc (OF yss)[a]]=some (c8 [br (vc (OF yss)[a]),br (vc h)]):=Og B;obtain⟨s,t,x,y⟩:=NC (nV (by simp) g) A e C;refine pI (o:=[i]) (Uj _ (qW q)) (by rw[w,g]) ?_;rw[x];show([((OF yss).getD i (0,0,0)).1*s,((OF yss).getD a (0,0,0)).1*t]:yaf).sum<0;rw[d,gD];simp;exact y;obtain⟨i,q,d⟩:=u9 c;obtain⟨j,n,f⟩:=u9 m;have m:i≠j:=λz=>by
  rw[z,f]at d;rw[d]at B;unfold dM at B;have:=p6 (vc h)
  lia
 have z:∀(i j:Nat) (h k:Tr),i<j->j<a->(OF yss).getD i (0,0,0)=h->(OF yss).getD j (0,0,0)=k->N9 h p=0->N9 k p=0->dM (vc h) (vc k) (vc (OF yss)[a])->∃r,gB (OF yss) a (O6 a 1++O6 a 2)=some r:=λi j h k p n d f e l B=>by
  have w:Tt (OF yss) ([i,j]++[a])=[vc h,vc k,vc (OF yss)[a]]:=by show[vc ((OF yss).getD i (0,0,0)),vc ((OF yss).getD j (0,0,0)),vc ((OF yss).getD a (0,0,0))]=_;rw[d,f,gD]
  obtain⟨c,g⟩:∃c,dO [vc h,vc k,vc (OF yss)[a]]=some c:=by
   show∃c,jg _ _ _=some c;unfold jg;split;exact⟨_,rfl⟩;rename_i c;rcases B with b|b;exact absurd b c;exact⟨_,Og b⟩
  obtain⟨s,t,u,x,y⟩:=ND (nV (by simp) g) A e l C;refine pI (o:=[i,j]) (Rw _ (qX p n)) (by rw[w,g]) ?_;rw[x];show([((OF yss).getD i (0,0,0)).1*s,((OF yss).getD j (0,0,0)).1*t,((OF yss).getD a (0,0,0)).1*u]:yaf).sum<0;rw[d,f,gD];simp;exact y
 rcases Zr m with c|c;exact z i j h k c n d f e l B;refine z j i k h c q f d l e ?_;unfold dM at B ⊢;have H:=cL (vc h) (vc k);have G:=cL (vc k) (vc (OF yss)[a]);have E:=cL (vc (OF yss)[a]) (vc h)
 lia
def je(h g:Tr)(s:Int):Tr:=(h.1+g.1*s,h.2.1+g.2.1*s,h.2.2+g.2.2*s)
def R5(T:yav)(o:Int):Option Tr:=(T.find? λx=>decide (x.1=o)).map (·.2)
def ptT(T:yav)(o:Int)(h:Tr):yav:=if(R5 T o).isSome=true then T.map (λx=>if x.1=o then(x.1,h)else x)else T++[(o,h)]
def stT(T:yav)(x:Int×Tr×Int):yav:=ptT T x.1 (je ((R5 T x.1).getD (0,0,0)) x.2.1 x.2.2)
def bU(xs:List (Int×Tr×Int)):yav:=xs.foldl stT []
def lU(p:Int×Tr)(r:yav)(o:Int):R5 (p::r) o=if p.1=o then some p.2 else R5 r o:=by unfold R5;grind
theorem AX:∀{T:yav},R5 T o=none->o∉T.map (·.1)
 |[],_=>by simp
 |p::r,h=>by
  rw[lU]at h;by_cases e:p.1=o;rw[Og e]at h;cases h;rw[Oc e]at h;rw[Pj,OK];rintro(z|z);exact e z.symm;exact AX h z
theorem yF{h:Tr}:∀{T:yav},R5 T o=some h->(o,h)∈T
 |[],q=>by cases q
 |p::r,q=>by
  rw[lU]at q;by_cases e:p.1=o;grind
  simp_all [Oc,Pz,yF]
theorem Ci{x:Int×Tr}:∀{T:yav},(T.map (·.1)).Nodup->x∈T->R5 T x.1=some x.2
 |[],_,m=>by cases m
 |p::r,a,m=>by
  rw[Pj,Vw]at a;rw[lU];rcases OK.mp m with e|m;rw[e,Og rfl];rw[Oc λe=>a.1 (by rw[e];exact OZ.mpr ⟨x,m,rfl⟩)];exact Ci a.2 m
theorem Bm(o:Int)(h:Tr):∀T:yav,(T.map λx=>if x.1=o then(x.1,h)else x).map (·.1)=T.map (·.1)
 |[]=>rfl
 |p::r=>by rw[Pj,Pj,Pj,Bm o h r];by_cases e:p.1=o;rw[Og e];rw[Oc e]
theorem Bn{o:Int}(h:Tr):∀{T:yav},o∉T.map (·.1)->(T.map λx=>if x.1=o then(x.1,h)else x)=T
 |[],_=>rfl
 |p::r,n=>by rw[Pj,OK]at n;rw[Pj,Bn h λz=>n (.inr z),Oc λe=>n (.inl e.symm)]
theorem EX{h h0:Tr}(f:Tr->Int):∀{T:yav},(T.map (·.1)).Nodup->R5 T o=some h0->((T.map λx=>if x.1=o then(x.1,h)else x).map λx=>f x.2).sum=(T.map λx=>f x.2).sum - f h0+f h
 |[],_,q=>by cases q
 |p::r,a,q=>by
  rw[Pj,Vw]at a;rw[lU]at q;rw[Pj,Pj,X1,Pj,X1];by_cases e:p.1=o;rw[Og e]at q;rw[Og e,Bn h (by rw[<- e];exact a.1)]
  lia
  rw[Oc e]at q;rw[Oc e,EX f a.2 q]
  lia
structure w9(P:Nat->Int->Tr->Prop)(done:List (Int×Tr×Int))(T:yav):Prop where
 nd:(T.map (·.1)).Nodup
 le:T.length<=done.length
 ok:∀x∈T,P done.length x.1 x.2
 sm:∀f:Tr->Int,f (0,0,0)=0->(∀h g s,f (je h g s)=f h+f g*s)->(T.map λx=>f x.2).sum=(done.map λx=>f x.2.1*x.2.2).sum
def w9.step{P:Nat->Int->Tr->Prop}(d:∀n o h,P n o h->P (n+1) o h)(I:w9 P done T){x:Int×Tr×Int}(h0:P 0 x.1 (0,0,0))(hs:∀n h,P n x.1 h->P (n+1) x.1 (je h x.2.1 x.2.2)):w9 P (done++[x]) (stT T x):=by
 have j:∀n,P n x.1 (0,0,0):=λn=>by
  induction n with
  |zero=>exact h0
  |succ n ih=>exact d n _ _ ih
 unfold stT ptT;cases hl:R5 T x.1 with
 |none =>
  have k:=AX hl;rw[Oc (by simp)];refine⟨?_,by rw[QX,QX];exact Nat.add_le_add_right I.le _,λy c=>?_,λf i g=>?_⟩;rw[Q1,zC6];refine⟨I.nd,by simp,λa l b a=>?_⟩;rw[Pj,Vy,QY]at a;rw[a];exact λe=>k (e ▸ l)
  rw[QX];rcases Qn.mp c with c|c;exact d _ _ _ (I.ok y c);rw[QY.mp c];exact hs _ _ (j _);rw[Q1,Q1,List.sum_append,List.sum_append,I.sm f i g];have e:=g (0,0,0) x.2.1 x.2.2;show _+(f (je (0,0,0) x.2.1 x.2.2)+0)=_+(f x.2.1*x.2.2+0);rw[e,i]
  lia
 |some h =>
  rw[Og (by simp)];refine⟨by rw[Bm];exact I.nd,by rw[Of,QX];exact Nat.le_succ_of_le I.le,λy c=>?_,λf i g=>?_⟩;rw[QX];obtain⟨z,a,e⟩:=OZ.mp c;by_cases c:z.1=x.1;rw[Og c]at e;rw[<- e];rw[c];exact hs _ _ (I.ok _ (yF hl));rw[Oc c]at e;rw[<- e];exact d _ _ _ (I.ok z a);rw[EX f I.nd hl,Q1,List.sum_append,I.sm f i g];have e:=g h x.2.1 x.2.2;show _ - f h+f (je h x.2.1 x.2.2)=_+(f x.2.1*x.2.2+0);rw[e]
  lia
theorem uJ{P:Nat->Int->Tr->Prop}(a:∀n o h,P n o h->P (n+1) o h)(xs:List (Int×Tr×Int))(h0:∀x∈xs,P 0 x.1 (0,0,0))(hs:∀x∈xs,∀n h,P n x.1 h->P (n+1) x.1 (je h x.2.1 x.2.2)):∀n,w9 P (xs.take n) (bU (xs.take n))
 |0=>⟨by simp[bU],by simp[bU],λx b=>by simp[bU]at b,λf _ _=>by simp[bU]⟩
 |n+1=>by
  by_cases c:n<xs.length;have e:xs.take (n+1)=xs.take n++[xs[n]]:=by rw[List.take_add_one,O2 c];rfl
  rw[e];have m:xs[n]∈xs:=SE c;unfold bU;rw[List.foldl_append];exact(uJ a xs h0 hs n).step a (h0 _ m) (hs _ m);have e:xs.take (n+1)=xs.take n:=by rw[W4 (by lia),W4 (by lia)]
  rw[e];exact uJ a xs h0 hs n
def ji(T:yav)(a:yaf):yav:=a.map λo=>(o,(R5 T o).getD (0,0,0))
def J1{T:yav}{a:yaf}(c:(T.map (·.1)).Nodup)(b:a.Perm (T.map (·.1))):(ji T a).Perm T:=by
 have e:(T.map (·.1)).map (λo=>(o,(R5 T o).getD (0,0,0)))=T:=by rw[Pp];refine(Wv λx a=>?_).trans (List.map_id T);show(x.1,(R5 T x.1).getD (0,0,0))=x;rw[Ci c a];rfl
 have:=b.map (λo=>(o,(R5 T o).getD (0,0,0)));rw[e]at this;exact this
structure TB(n:Nat)(h:Tr):Prop where
 c:Bd n h.1
 a:Bd n h.2.1
 b:Bd n h.2.2
structure BB(Ls:yat)(rs:yav):Prop where
 l2:2<=rs.length
 l3:rs.length<=3
 rise:(rs.map (·.1)).Pairwise (·<·)
 own:∀x∈rs,∃i:Nat,i<Ls.length/\x.1=(i:Int)/\∀p∈Ls.getD i [],0<=N9 x.2 (1,p.1,p.2)
 bd:∀x∈rs,TB 990 x.2
 c0:(rs.map λx=>x.2.1).sum<0
 a0:(rs.map λx=>x.2.2.1).sum=0
 b0:(rs.map λx=>x.2.2.2).sum=0
theorem D3(X:Tr):∀a:yav,(a.map λx=>N9 x.2 X).sum=(a.map λx=>x.2.1).sum*X.1+(a.map λx=>x.2.2.1).sum*X.2.1+(a.map λx=>x.2.2.2).sum*X.2.2
 |[]=>by simp
 |x::r=>by simp;rw[D3 X r];unfold N9;grind
theorem Fc{a:Type}(f:a->Int):∀xs:List a,(∀x∈xs,0<=f x)->0<=(xs.map f).sum
 |[],_=>by simp
 |x::r,h=>by
  rw[Pj,X1];have:=h x RB;have:=Fc f r λy a=>h y (Pz _ a)
  lia
def Dj{a:yav}(b:(a.map λx=>x.2.1).sum<0)(a0:(a.map λx=>x.2.2.1).sum=0)(c:(a.map λx=>x.2.2.2).sum=0){X:Tr}(h0:0<X.1)(h:∀x∈a,0<=N9 x.2 X):False:=by
 have e:=D3 X a;rw[a0,c]at e;have:=Fc (λx:Int×Tr=>N9 x.2 X) a h;have:=U6 b h0
 lia
def T7(yss:yat)(b:yag)(a:yaf):List (Int×Tr×Int):=(b.zip a).map λz=>(((aS 0 yss).getD z.1 (0,0,0,0)).1,((aS 0 yss).getD z.1 (0,0,0,0)).2,z.2)
theorem yT:∀{yss:yat} {n:Nat} {x:Int×Tr},x∈aS n yss->∃(i:Nat) (ys:yau),x.1=((n+i:Nat):Int)/\yss[i]?=some ys/\x.2∈aI (aO ys)
 |[],_,_,h=>by cases h
 |ys::r,n,x,h=>by
  rw[aS]at h;rcases Qn.mp h with q|q;obtain⟨g,a,rfl⟩:=OZ.mp q;exact⟨0,ys,rfl,rfl,a⟩;obtain⟨i,a,d,c,b⟩:=yT q;exact⟨i+1,a,by rw[d];congr 1;lia,c,b⟩
theorem bG.at_:∀{yss Ls:yat} {i:Nat} {ys:yau},bG yss Ls->yss[i]?=some ys->∃ps,Ls[i]?=some ps/\cO ys ps
 |[],[],_,_,_,h=>by simp at h
 |[],_::_,_,_,k,_=>k.elim
 |_::_,[],_,_,k,_=>k.elim
 |y::r,p::q,0,ys,k,h=>by
  cases(show y=ys from SO h);exact⟨p,rfl,k.1⟩
 |y::r,p::q,i+1,ys,k,h=>bG.at_ (yss:=r) (Ls:=q) k.2 h
def LN(yss:yat)(k:Nat):(OF yss).getD k (0,0,0)=((aS 0 yss).getD k (0,0,0,0)).2:=by unfold OF;rw[Py,Py,PO];cases(aS 0 yss)[k]?<;>rfl
def Ka(yss:yat)(f:Tr->Int):∀(b:yag) (a:yaf),((T7 yss b a).map λx=>f x.2.1*x.2.2).sum=((b.zip a).map λz=>f ((OF yss).getD z.1 (0,0,0))*z.2).sum:=λb a=>by
 unfold T7;rw[Pp];congr 1;exact Wv λz _=>by show f _*_=_;rw[LN]
theorem Fy(G:yaw):∀(d:yag) (c:yaf),d.length=c.length->((d.zip c).map λz=>(G.getD z.1 (0,0,0)).2.1*z.2).sum=(wsum c (Tt G d)).1/\((d.zip c).map λz=>(G.getD z.1 (0,0,0)).2.2*z.2).sum=(wsum c (Tt G d)).2
 |[],[],_=>⟨rfl,rfl⟩
 |k::d,s::c,h=>by obtain⟨a,b⟩:=Fy G d c (Nat.succ.inj h);unfold wsum Tt at a b ⊢;simp only[Zq,Pj,X1,Zj]at a b ⊢;rw[a,b];unfold vc;exact⟨by rw[Rx],by rw[Rx]⟩
def Ia{o:yag}(h:o∈O6 last 1++O6 last 2):o.length<=2/\∀k∈o,k<last:=by
 rcases Qn.mp h with q|q;exact⟨by rw[(dI q).1];decide,(dI q).2⟩;exact⟨by rw[(dI q).1];decide,(dI q).2⟩
structure FO(yss:yat)(pk:yag)(sh:yaf):Prop where
 l3:pk.length<=3
 lt:∀k∈pk,k<(aS 0 yss).length
 Zb:wG (Tt (OF yss) pk) sh
 bs:∀s∈sh,Bd 900 s
 neg:qK (OF yss) pk sh<0
def Ih(S:pH yss){a:Nat}{b:yag}{c:yaf}(h:a<(OF yss).length)(e:gB (OF yss) a (O6 a 1++O6 a 2)=some (b,c)):FO yss b c:=by
 obtain⟨⟨o,a,c⟩,f,i⟩:=vj e;obtain⟨j,e⟩:=Ia a;have g:(OF yss).length=(aS 0 yss).length:=Of _;have d:b.length<=3:=by rw[c,QX,zCZ];lia
 have lt':∀k∈b,k<(OF yss).length:=λk a=>by
  rw[c]at a;rcases Qn.mp a with q|q;have:=e k q;lia;rw[QY.mp q];exact h
 have c:(Tt (OF yss) b).length<=3:=by unfold Tt;rw[Of];exact d
 refine⟨d,λk a=>by rw[<- g];exact lt' k a,nV c f,xn (λw b=>?_) c f,i⟩;obtain⟨k,a,rfl⟩:=OZ.mp b;have q:=O2 (lt' k a);rw[Py,q];have B:=(S.gb _ (SE (lt' k a))).1;exact⟨B.a.mono (by decide),B.b.mono (by decide)⟩
def G6{a:yaf}(h:a.Perm b):a.sum=b.sum:=by
 induction h with
 |nil=>rfl
 |cons x _ ih=>simp_all
 |swap x y l=>simp;lia
 |trans _ _ d c=>lia
def Kw(Ls:yat)(n:Nat)(o:Int)(h:Tr):Prop:=(∃i:Nat,i<Ls.length/\o=(i:Int)/\∀q∈Ls.getD i [],0<=N9 h (1,q.1,q.2))/\TB (983+n) h
def y4(L:LsOk Ls)(K:bG yss Ls)(S:pH yss)(p:FO yss g f):∀n,w9 (Kw Ls) ((T7 yss g f).take n) (bU ((T7 yss g f).take n)):=by
 have c:∀x∈T7 yss g f,(∃i:Nat,i<Ls.length/\x.1=(i:Int)/\∀q∈Ls.getD i [],0<=N9 x.2.1 (1,q.1,q.2))/\TB 82 x.2.1/\0<x.2.2/\Bd 900 x.2.2:=λx d=>by
  obtain⟨z,j,e⟩:=OZ.mp d;have h:=(Xc (a:=z.1) (b:=z.2) j);have a:=p.lt _ h.1;have k:(aS 0 yss).getD z.1 (0,0,0,0)∈aS 0 yss:=by rw[Py,O2 a];exact SE a
  obtain⟨i,s,r,a,o⟩:=yT k;obtain⟨j,b,rk⟩:=K.at_ a;have a:j∈Ls:=Ql b;have m:=df rk;have l:=XR (L.ne j a);have B:=(S.gb _ (OZ.mpr ⟨_,k,rfl⟩)).1;rw[<- e];refine⟨⟨i,(QH.mp b).1,by rw[r];congr 1;lia,λq a=>?_⟩,⟨B.c.mono (by decide),B.a.mono (by decide),B.b.mono (by decide)⟩,p.Zb.pos _ h.2,p.bs _ h.2⟩;rw[Py,b]at a;exact qq m l o a
 exact uJ (P:=Kw Ls) (λn o h q=>⟨q.1,q.2.c.mono (by lia),q.2.a.mono (by lia),q.2.b.mono (by lia)⟩) (T7 yss g f) (λx d=>by
  obtain⟨⟨i,a,e,_⟩,_⟩:=c x d;refine⟨⟨i,a,e,λq _=>?_⟩,?_⟩;have:N9 (0,0,0) (1,q.1,q.2)=0:=by unfold N9;grind
  lia
  have z:∀n,Bd n 0:=λn=>by unfold Bd;simp;exact Nat.two_pow_pos n
  exact⟨z _,z _,z _⟩) (λx d n h q=>by
  obtain⟨⟨i,a,e,f⟩,B,b,sb⟩:=c x d;obtain⟨⟨j,c,d,g⟩,H⟩:=q;have a:j=i:=by rw[e]at d;lia
  subst a;have m:∀{y:Int},Bd 82 y->Bd (983+n) (y*x.2.2):=λa=>(a.mul sb).mono (by lia)
  refine⟨⟨j,c,e,λw a=>?_⟩,H.c.add (m B.c),H.a.add (m B.a),H.b.add (m B.b)⟩;have k:N9 (je h x.2.1 x.2.2) (1,w.1,w.2)=N9 h (1,w.1,w.2)+N9 x.2.1 (1,w.1,w.2)*x.2.2:=by unfold N9 je;grind
  rw[k];exact Int.add_nonneg (g w a) (QU (f w a) (QI b)))
def zF(L:LsOk Ls)(K:bG yss Ls)(S:pH yss)(p:FO yss pk sh){b:yaf}(a:b.Perm ((bU (T7 yss pk sh)).map (·.1)))(k:b.Pairwise (·<·)) :
  BB Ls (ji (bU (T7 yss pk sh)) b):=by
 have i:pk.length=sh.length:=by have:=p.Zb.len;unfold Tt at this;rw[Of]at this;exact this.symm
 have m:(T7 yss pk sh).length<=3:=by unfold T7;rw[Of,zDO];have:=p.l3;lia
 have I:=y4 L K S p (T7 yss pk sh).length;rw[UT]at I;generalize hT:bU (T7 yss pk sh)=T at I a ⊢;have c:=J1 I.nd a;have n:=c.length_eq;have o:=I.le;have a:∀f:Tr->Int,f (0,0,0)=0->(∀h g s,f (je h g s)=f h+f g*s)->((ji T b).map λx=>f x.2).sum=((pk.zip sh).map λz=>f ((OF yss).getD z.1 (0,0,0))*z.2).sum:=λf e d=>by rw[G6 (c.map λx=>f x.2),I.sm f e d,Ka]
 have e:((ji T b).map λx=>x.2.1).sum<0:=by rw[a (λh=>h.1) rfl λ_ _ _=>rfl];exact p.neg
 obtain⟨f,d⟩:=Fy (OF yss) pk sh i;have j:((ji T b).map λx=>x.2.2.1).sum=0:=by rw[a (λh=>h.2.1) rfl λ_ _ _=>rfl,f,p.Zb.sum]
 have g:((ji T b).map λx=>x.2.2.2).sum=0:=by rw[a (λh=>h.2.2) rfl λ_ _ _=>rfl,d,p.Zb.sum]
 have a:∀x∈ji T b,∃i:Nat,i<Ls.length/\x.1=(i:Int)/\∀q∈Ls.getD i [],0<=N9 x.2 (1,q.1,q.2):=λx d=>(I.ok x (c.mem_iff.mp d)).1
 refine⟨?_,by lia,?_,a,λx d=>?_,e,j,g⟩;generalize ji T b=f at *;rcases f with _|⟨x,_|⟨y,r⟩⟩;simp at e;exfalso;obtain⟨i,f,_,h⟩:=a x (by simp);have q:=O2 f;obtain⟨w,l⟩:=zCk _ (XR (L.ne Ls[i] (SE f)));refine Dj e j g (X:=(1,w.1,w.2)) (show(0:Int)<1 by decide) λy a=>?_
 rw[QY.mp a];exact h w (by rw[Py,q];exact l);simp;unfold ji;rw[Pp];show(b.map id).Pairwise _;rw[List.map_id];exact k;obtain⟨_,B⟩:=I.ok x (c.mem_iff.mp d);exact⟨B.c.mono (by lia),B.a.mono (by lia),B.b.mono (by lia)⟩
structure N5(Ls:yat):Prop where
 l5:Ls.length<=5
 le:∀ps∈Ls,ps.length<=5
structure w8(Ls:yat)(y:Tr)(rs:List (yag×yaf)):Prop where
 pr:Pr y
 cb:CB 40 y
 len:rs.length=Ls.length
 ok:∀i,i<Ls.length->qH (Ls.getD i []) y (rs.getD i ([],[])).1 (rs.getD i ([],[])).2
 com:BC Ls y
def tw(L:LsOk Ls)(K:bG yss Ls)(S:pH yss){y:Tr}(e:y∈aT (OF yss) (F0 yss)) :
  (∀ps∈Ls,bW (ps.map (Om y)) (cF ps.length)=some ((bW (ps.map (Om y)) (cF ps.length)).getD ([],[])))/\w8 Ls y (Ls.map λps=>(bW (ps.map (Om y)) (cF ps.length)).getD ([],[])):=by
 obtain⟨Z,_,b⟩:=S.zs;have a:=b (OF yss).length;have d:=S.ov (OF yss).length;rw[UT]at a d;have c:=a.pr y e;have f:=a.cb y e;have h:∀ps∈Ls,nM y ps:=λps a=>by obtain⟨k,g,b⟩:=K.ex2 ps a;exact vP (df b) (XR (L.ne ps a)) c.pos λb i=>d b (oI 0 g i) y e
 have b:∀ps∈Ls,bW (ps.map (Om y)) (cF ps.length)=some ((bW (ps.map (Om y)) (cF ps.length)).getD ([],[])):=λps a=>by
  have:=FX (h ps a);cases hm:bW (ps.map (Om y)) (cF ps.length)with
  |none=>exact absurd hm this
  |some r=>rfl
 refine⟨b,c,f,by rw[Of],λi e=>?_,c.pos,λps a g j=>?_⟩;have d:Ls[i]?=some Ls[i]:=O2 e;have a:Ls[i]∈Ls:=SE _;rw[Py,d,Py,PO,d];exact M7 (L.bd _ a) (f.pb c) (b _ a);refine yq c.pos (h ps a) g λp b=>?_
 obtain⟨q,a,rfl⟩:=OZ.mp b;exact j q a
def uj (a:yav):D:=.tup [.str "bar", .lst true (a.map Sr)]
def L5(B:BB Ls rs)(C:BC Ls X):False :=
 Dj B.c0 B.a0 B.b0 C.1 λx c=>by obtain⟨i,a,_,b⟩:=B.own x c;refine C.2 (Ls.getD i []) ?_ x.2 b;rw[Py,O2 a];exact SE a
theorem ng{c:Type}{f:c->D}(d:∀a b,f a=f b->a=b):∀{xs ys:List c},xs.map f=ys.map f->xs=ys
 |[],[],_=>rfl
 |[],_::_,h=>by simp at h
 |_::_,[],h=>by simp at h
 |a::r,b::q,h=>by rw[d a b (by simp_all),ng d (List.cons.inj h).2]
def Jz{xs ys:yav}(h:xs.map Sr=ys.map Sr):xs=ys:=ng (λa b e=>by obtain⟨i,l,k,g⟩:=a;obtain⟨j,f,d,c⟩:=b;simp only[Sr,Ou,T3,D.tup.injEq,zCz,D.int.injEq,and_true]at e;obtain⟨rfl,rfl,rfl,rfl⟩:=e;rfl) h
def dU(z:Nat×Int):D:=.tup [.int ((z.1:Nat):Int),.int z.2]
def J9{xs ys:List (Nat×Int)}(h:xs.map dU=ys.map dU):xs=ys:=ng (λa b e=>by obtain⟨i,s⟩:=a;obtain⟨j,t⟩:=b;simp only[dU,D.tup.injEq,zCz,D.int.injEq,and_true]at e;obtain⟨c,rfl⟩:=e;rw[show i=j by lia]) h
def zq(z:Nat×Int):aB (dU z)=dU z:=by unfold dU;simp only[cJ,aW,bC,eX]
def tV(a:List (Nat×Int)):aU (a.map dU)=a.map dU:=cI dU zq a
theorem ve:∀(b:yag) (a:yaf),List.zipWith (λx y=>D.tup [x,y]) (b.map λ(k:Nat)=>D.int (k:Int)) (a.map D.int)=(b.zip a).map dU
 |[],_=>by simp
 |_::_,[]=>by simp
 |k::b,s::a=>by rw[Pj,Pj,Zj,ve b a,Zq,Pj];rfl
def gf(os:yav)(a:List (Nat×Int)):List (Int×Tr×Int):=a.map λz=>((os.getD z.1 (0,0,0,0)).1,(os.getD z.1 (0,0,0,0)).2,z.2)
def lM(T:yav):List (Key×D):=T.map λx=>(Sum.inl x.1,Ou x.2)
theorem mE(o:Int):∀T:yav,dh (lM T) (Sum.inl o)=(R5 T o).map Ou
 |[]=>rfl
 |x::r=>by show dh ((Sum.inl x.1,Ou x.2)::lM r) (Sum.inl o)=_;rw[tu,lU,mE o r];by_cases c:x.1=o;rw[Og c,Og (by rw[c])];rfl;rw[Oc c,Oc λe=>c (Sum.inl.inj e)]
def JT(T:yav)(o:Int)(h:Tr):putD (lM T) (Sum.inl o) (Ou h)=lM (ptT T o h):=by
 unfold putD ptT;rw[mE,Option.isSome_map];by_cases c:(R5 T o).isSome=true;rw[Og c,Og c];unfold lM;rw[Pp,Pp];refine Wv λx _=>?_
 show(if(Sum.inl x.1:Key)=Sum.inl o then _ else _)=((λy:Int×Tr=>((Sum.inl y.1:Key),Ou y.2)) (if x.1=o then(x.1,h)else x));by_cases e:x.1=o;rw[Og e,Og (by rw[e])];rw[Oc e,Oc λq=>e (Sum.inl.inj q)];rw[Oc c,Oc c];unfold lM;rw[Q1];rfl
theorem vf:∀T:yav,(((T.map (·.1)).map Sum.inl:List Key).zip (T.map λx=>Ou x.2))=lM T
 |[]=>rfl
 |x::r=>by show(Sum.inl x.1,Ou x.2)::_=(Sum.inl x.1,Ou x.2)::lM r;rw[<- vf r];rfl
def oH(ps:yau):LI:=.own (ps.map Ov)
theorem vS:∀{a yss Ls:yat},bG a Ls->bG yss Ls->a=yss
 |[],[],_,_,_=>rfl
 |[],_::_,[],_,h=>h.elim
 |[],_::_,_::_,h,_=>h.elim
 |_::_,[],[],h,_=>h.elim
 |_::_,[],_::_,_,h=>h.elim
 |_::_,_::_,[],h,_=>h.elim
 |x::a,y::yss,_::_,h,k=>by rw[yX h.1 k.1,vS h.2 k.2]
abbrev TM(y:Tr)(ps:yau):yag×yaf:=(bW (ps.map (Om y)) (cF ps.length)).getD ([],[])
def Z6 (Ls : yat) (d : D) : Prop := ∃ a, bG a Ls ∧
  ((∃ y rest, aT (OF a) (F0 a) = y :: rest /\ d = iJ y (Ls.map (TM y))) ∨
   ∃ b e c f, aT (OF a) (F0 a) = [] /\ b < (OF a).length /\ (∀ j, j <= b -> aT ((OF a).take j) (F0 a) ≠ []) /\ aT ((OF a).take (b + 1)) (F0 a) = [] ∧
    gB (OF a) b (O6 b 1 ++ O6 b 2) = some (e, c) /\ f.Perm ((bU (T7 a e c)).map (·.1)) /\ f.Pairwise (· < ·) /\ d = uj (ji (bU (T7 a e c)) f))
def G5:∀{a b:yaf},a.Perm b->a.Pairwise (·<·)->b.Pairwise (·<·)->a=b:=fun {a b} p b a=>p.eq_of_pairwise (by lia) b a
def yo(h:Z6 Ls a)(k:Z6 Ls b):a=b:=by
 obtain⟨f,rk,h⟩:=h;obtain⟨d,a,k⟩:=k;rw[vS a rk]at k;rcases h with⟨y,r,e,rfl⟩| ⟨i,z,w,A,e,C,t,s,r,q,p,rfl⟩<;>rcases k with⟨u,x,a,rfl⟩| ⟨j,l,g,m,a,B,o,n,b,k,h,rfl⟩;rw[e]at a;cases a;rfl;rw[e]at a;cases a;rw[e]at a;cases a;have a:i=j:=by
  rcases Yw i j with c|c|c;exact absurd s (o (i+1) c);exact c;exact absurd n (t (j+1) c)
 subst a;rw[r]at b;cases b;rw[G5 (q.trans k.symm) p h]
def Cb(L:LsOk Ls)(h:Z6 Ls d):(∃y,d=iJ y (Ls.map (TM y))/\w8 Ls y (Ls.map (TM y))/\∀ps∈Ls,bW (ps.map (Om y)) (cF ps.length)=some (TM y ps))∨∃ a,d=uj a/\BB Ls a:=by
 obtain⟨b,rk,h⟩:=h;have St:=sR L rk;rcases h with⟨y,r,e,rfl⟩| ⟨i,k,j,l,e,f,n,m,e,d,c,rfl⟩;obtain⟨a,g⟩:=tw L rk St (y:=y) (by simp_all);exact .inl ⟨y,rfl,g,a⟩;exact .inr ⟨_,rfl,zF L rk St (Ih St f e) d c⟩
def Gu{c:Type}{wi:DA}{g:DG}{e:DS}{E:mf}(xs:List c)(f:c->D)(Pv:Ro->Prop)(i:∀R:yas->Prop,R (xs.map f)->wi ρ R)(h:Pv ρ)
  (b:∀(x:c) (a:Ro),x∈xs->Pv a->g (f x) a λj=>e {E with nx:=Pv,ct:=Pv,bk:=E.nx} j) (d:∀a,Pv a->E.nx a):xF wi g e E ρ :=
 PD.bE xs f (λ_ ρ=>Pv ρ) i h (λ_ x a c e=>b x a (Ql c) e) d
def sm(f:Nat->Int)(G:yag):Int:=(G.map f).sum
def l7(f:Nat->Int)(i:Nat)(G:yag):sm f (i::G)=f i+sm f G:=by unfold sm;simp_all
theorem CN(g:Tr)(c:Nat->Int)(P:Nat->Sp):∀G:yag,N9 g (sm c G,sm (λi=>c i*(P i).1) G,sm (λi=>c i*(P i).2) G)=sm (λi=>c i*N9 g (1,(P i).1,(P i).2)) G
 |[]=>by unfold N9 sm;simp
 |i::G=>by have ih:=CN g c P G;unfold N9 at ih ⊢;simp only[l7]at ih ⊢;rw[<- ih];grind
theorem wQ{f:Nat->Int}:∀{G:yag},(∀i∈G,0<=f i)->0<=sm f G
 |[],_=>R8 _
 |i::G,h=>by rw[l7];have:=h i (by simp);have:=wQ λj q=>h j (Pz _ q);lia
theorem CL{f:Nat->Int}{i:Nat}:∀{G:yag},(∀j∈G,0<=f j)->i∈G->f i<=sm f G
 |j::G,h,hi=>by
  rw[l7];have a:=wQ λj q=>h j (Pz _ q)
  have b:=h j (by simp);rcases OK.mp hi with rfl|hi
  lia
  have:=CL (λj q=>h j (Pz _ q)) hi;lia
theorem oX(f:Nat->Int):∀G:yag,sm (λi=>- f i) G=- sm f G
 |[]=>rfl
 |i::G=>by rw[l7,l7,oX f G];lia
def dQ:List (List (yag)):=[[[0],[1,2,3]],[[1],[0,2,3]],[[2],[0,1,3]],[[3],[0,1,2]]]
def eN:List (List (yag)):=[[[0,1],[2,3]],[[0,2],[1,3]],[[0,3],[1,2]],[[1,2],[0,3]],[[1,3],[0,2]],[[2,3],[0,1]]]
def sD:∀g∈dQ++eN,∃A B,g=[A,B]/\A ≠ []/\B ≠ []/\A.length<=3/\B.length<=3/\(∀i∈A++B,i<4)/\A.Pairwise (·<·)/\B.Pairwise (·<·)/\(∀i∈A,i∉B)/\(∀i,i<4->i∈A∨i∈B)/\∀f:Nat->Int,sm f A+sm f B=f 0+f 1+f 2+f 3:=by
 intro g a;simp only[dQ,eN,UR,U9,OK,TN,or_false]at a;rcases a with rfl|rfl|rfl|rfl|rfl|rfl|rfl|rfl|rfl|rfl <;>
  exact⟨_,_,rfl,by decide,by decide,by decide,by decide,by decide,by decide,by decide,by decide,by decide,λf=>by simp[sm];lia⟩
def CI(w:Int):∃s,s ∈ [-1,0,(1:Int)]/\(0<=s->0<=w)/\(s<=0->w<=0)/\(0<w->s=1)/\(w<0->s=-1):=by
 rcases Xa w 0 with h|h|h;exact⟨-1,by decide,by lia,by lia,by lia,by lia⟩
 simp_all
 exact⟨1,by decide,by lia,by lia,by lia,by lia⟩
def Hq:∀a ∈ [-1,0,(1:Int)],∀b ∈ [-1,0,(1:Int)],∀c ∈ [-1,0,(1:Int)],∀d ∈ [-1,0,(1:Int)],1 ∈ [a,b,c,d] -> -1 ∈ [a,b,c,d] →
  ∃ g∈dQ++eN,∃e ∈ [-1,(1:Int)],(∀i∈g.getD 0 [],0<=e*[a,b,c,d].getD i 0)/\∀i∈g.getD 1 [],e*[a,b,c,d].getD i 0<=0:=by decide +kernel
def CJ{e s w:Int}(a:e=-1∨e=1)(p:0<=s->0<=w)(q:s<=0->w<=0):(0<=e*s->0<=e*w)/\(e*s<=0->e*w<=0):=by
 rcases a with rfl|rfl;exact⟨λh=>by have:=q (by lia);lia,λh=>by have:=p (by lia);lia⟩;exact⟨λh=>by have:=p (by lia);lia,λh=>by have:=q (by lia);lia⟩
def Lh(c k h e:Sp):∃j i g f:Int,(0<j∨0<i∨0<g∨0<f)/\j+i+g+f=0/\j*c.1+i*k.1+g*h.1+f*e.1=0/\j*c.2+i*k.2+g*h.2+f*e.2=0:=by
 have o:∃j i g f:Int,(j≠0∨i≠0∨g≠0∨f≠0)/\j+i+g+f=0/\j*c.1+i*k.1+g*h.1+f*e.1=0/\j*c.2+i*k.2+g*h.2+f*e.2=0:=by obtain⟨b,a⟩:=c;obtain⟨d,c⟩:=k;obtain⟨l,k⟩:=h;obtain⟨n,m⟩:=e;by_cases h:(d - b)*(k - a) - (l - b)*(c - a)=0;by_cases e:b=d/\a=c;obtain⟨rfl,rfl⟩:=e;exact⟨1,-1,0,0,by omega,by omega,by omega,by omega⟩;refine⟨(d - l)*(b - d)+(c - k)*(a - c),(l - b)*(b - d)+(k - a)*(a - c),(b - d)*(b - d)+(a - c)*(a - c),0,.inr (.inr (.inl ?_)),by grind,by grind,by grind⟩;have:=sq_pos (t:=(b - d,a - c)) (by lia);unfold OO at this;dsimp only at this;omega;exact⟨(l - d)*(m - c) - (n - d)*(k - c),-((l - b)*(m - a) - (n - b)*(k - a)),(d - b)*(m - a) - (n - b)*(c - a),-((d - b)*(k - a) - (l - b)*(c - a)),by simp_all,by grind,by grind,by grind⟩
 obtain⟨j,i,g,f,n,a,b,c⟩:=o;exact⟨j,i,g,f,by omega,a,b,c⟩
def Nl(P:Nat->Sp):∃g∈dQ++eN,∃X,BC (g.map λG=>G.map P) X:=by
 obtain⟨h,f,d,j,n,a,b,c⟩:=Lh (P 0) (P 1) (P 2) (P 3);obtain⟨o,r,Y,O,r0,y⟩:=CI h;obtain⟨m,q,U,N,r1,x⟩:=CI f;obtain⟨l,p,T,M,r2,u⟩:=CI d;obtain⟨k,i,Q,L,r3,e⟩:=CI j;have s:1 ∈ [o,m,l,k]:=by simp;lia
 have t:-1 ∈ [o,m,l,k]:=by simp only[OK,TN,or_false];by_cases G:h<0;exact .inl (y G).symm;by_cases E:f<0;exact .inr (.inl (x E).symm);by_cases C:d<0;exact .inr (.inr (.inl (u C).symm));exact .inr (.inr (.inr (e (by lia)).symm))
 obtain⟨g,I,e,J,h1,h2⟩:=Hq o r m q l p k i s t;obtain⟨A,B,rfl,_,_,_,_,H,_,_,_,Yd,z⟩:=sD g I;obtain⟨w,p⟩:∃w:Nat->Int,w=λi=>e*[h,f,d,j].getD i 0:=⟨_,rfl⟩
 have t:w 0=e*h:=by rw[p];rfl
 have s:w 1=e*f:=by rw[p];rfl
 have r:w 2=e*d:=by rw[p];rfl
 have q:w 3=e*j:=by rw[p];rfl
 have sg:∀i,i<4->(0<=e*[o,m,l,k].getD i 0->0<=w i)/\(e*[o,m,l,k].getD i 0<=0->w i<=0):=λi hi=>by
  have k:e=-1∨e=1:=by simpa using J
  rcases i with _|_|_|_|i;rw[t];exact CJ k Y O;rw[s];exact CJ k U N;rw[r];exact CJ k T M;rw[q];exact CJ k Q L
  lia
 have m:∀i∈A,0<=w i:=λi hi=>(sg i (H i (by simp[hi]))).1 (h1 i hi)
 have l:∀i∈B,0<=- w i:=λi hi=>by have:=(sg i (H i (by simp[hi]))).2 (h2 i hi);lia
 have y:=z w;have x:=z λi=>w i*(P i).1
 have u:=z λi=>w i*(P i).2
 have G:sm w A+sm w B=0:=by rw[y,t,s,r,q,show e*h+e*f+e*d+e*j=e*(h+f+d+j)by grind,a,Vz]
 have E:sm (λi=>w i*(P i).1) A+sm (λi=>w i*(P i).1) B=0:=by rw[x,t,s,r,q,show e*h*(P 0).1+e*f*(P 1).1+e*d*(P 2).1+e*j*(P 3).1=e*(h*(P 0).1+f*(P 1).1+d*(P 2).1+j*(P 3).1)by grind,b,Vz]
 have C:sm (λi=>w i*(P i).2) A+sm (λi=>w i*(P i).2) B=0:=by rw[u,t,s,r,q,show e*h*(P 0).2+e*f*(P 1).2+e*d*(P 2).2+e*j*(P 3).2=e*(h*(P 0).2+f*(P 1).2+d*(P 2).2+j*(P 3).2)by grind,c,Vz]
 clear p;refine⟨_,I,(sm w A,sm (λi=>w i*(P i).1) A,sm (λi=>w i*(P i).2) A),?_,λps a g b=>?_⟩;have k:e=-1∨e=1:=by simpa using J
 obtain⟨i,c,wi⟩:∃i,i<4/\w i≠0:=by
  rcases n with n|n|n|n;exact⟨0,by lia,by rw[t];rcases k with rfl|rfl<;>lia⟩;exact⟨1,by lia,by rw[s];rcases k with rfl|rfl<;>lia⟩;exact⟨2,by lia,by rw[r];rcases k with rfl|rfl<;>lia⟩;exact⟨3,by lia,by rw[q];rcases k with rfl|rfl<;>lia⟩
 show 0<sm w A;rcases Yd i c with hi|hi;have:=CL m hi;have:=m i hi
 lia
 have:=CL (f:=λi=>- w i) l hi;have:=l i hi;rw[oX]at *
 lia
 simp only[Pj,Vy,OK,TN,or_false]at a;rcases a with rfl|rfl;rw[CN];exact wQ λi hi=>QU (m i hi) (b _ (OZ.mpr ⟨i,hi,rfl⟩))
 have e:N9 g (sm w A,sm (λi=>w i*(P i).1) A,sm (λi=>w i*(P i).2) A)=sm (λi=>- w i*N9 g (1,(P i).1,(P i).2)) B:=by
  rw[<- CN g (λi=>- w i) P B];have d:sm (λi=>- w i) B=- sm w B:=oX _ _;have c:sm (λi=>- w i*(P i).1) B=- sm (λi=>w i*(P i).1) B:=by rw[<- oX];congr 1;funext i;grind
  have a:sm (λi=>- w i*(P i).2) B=- sm (λi=>w i*(P i).2) B:=by rw[<- oX];congr 1;funext i;grind
  unfold N9;dsimp only;rw[d,c,a];grind
 rw[e];exact wQ λi hi=>QU (l i hi) (b _ (OZ.mpr ⟨i,hi,rfl⟩))
def Rv(ps:yau)(g:List (yag)):yat:=g.map λG=>G.map λi=>ps.getD i (0,0)
def grO(ps:yau)(g:List (yag))(y:Tr):List (yag×yaf):=(g.zip ((Rv ps g).map (TM y))).map λz=>(z.2.1.map λk=>z.1.getD k 0,z.2.2)
def Ui(qs:List (yag×yaf))(y:Tr):D:=.tup [.lst true (qs.map cA),Ou y]
def Dt(ps:yau):List (List (yag))->Option (List (yag×yaf)×Tr)->Prop
 |[],r=>r=none
 |g::dl,r=>(∃y,Z6 (Rv ps g) (iJ y ((Rv ps g).map (TM y)))/\r=some (grO ps g y,y))∨∃ a,Z6 (Rv ps g) (uj a)/\Dt ps dl r
def mF:iJ y rs≠uj xs:=λh=>by simp[iJ,uj]at h
def El(h:iJ y rs=iJ z xs):y=z:=by
 simp only[iJ,D.tup.injEq,zCz]at h;have:=h.2.1;simp only[Ou,T3,D.tup.injEq,zCz,D.int.injEq,and_true]at this
 lia
theorem DW:∀{dl:List (List (yag))} {r s:Option (List (yag×yaf)×Tr)},Dt ps dl r->Dt ps dl s->r=s
 |[],_,_,h,k=>h.trans k.symm
 |g::dl,_,_,h,k=>by
  rcases h with⟨y,h,rfl⟩| ⟨d,h,b⟩<;>rcases k with⟨z,k,rfl⟩| ⟨c,k,a⟩;rw[El (yo h k)];exact absurd (yo h k) mF;exact absurd (yo k h) mF;exact DW b a
theorem xS:∀{dl:List (List (yag))} {r:Option (List (yag×yaf)×Tr)},Dt ps dl r->(r=none->Dt ps dr s)->(∀x,r=some x->s=some x)->Dt ps (dl++dr) s
 |[],_,h,a,_=>a h
 |g::dl,_,h,a,b=>by
  rcases h with⟨y,h,rfl⟩| ⟨c,h,d⟩;exact .inl ⟨y,h,b _ rfl⟩;exact .inr ⟨c,h,xS d a b⟩
structure wX(ps:yau)(qs:List (yag×yaf))(y:Tr):Prop where
 pr:Pr y
 cb:CB 40 y
 two:qs.length=2
 ok:∀q∈qs,qH ps y q.1 q.2
 nd:(qs.flatMap (·.1)).Nodup
def qQ{A:yag}{k:Nat}(h:k<A.length):A.getD k 0∈A:=by rw[Py,O2 h];exact SE h
def D7{ps:yau}{A:yag}(I:qH (A.map λi=>ps.getD i (0,0)) y a sh)(j:A.Pairwise (·<·))(g:∀i∈A,i<ps.length):qH ps y (a.map λk=>A.getD k 0) sh:=by
 have c:∀k∈a,k<A.length:=λk d=>by have:=I.lt k d;rwa [Of]at this
 have e:(a.map λk=>A.getD k 0).map (λk=>ps.getD k (0,0))=a.map λk=>(A.map λi=>ps.getD i (0,0)).getD k (0,0):=by simp_all
 refine⟨by rw[Of];exact I.l0,by rw[Of];exact I.l3,by rw[Of];exact I.ls,Zt.mpr (I.rise.imp_of_mem fun {a b} i h l=>?_),λk d=>?_,I.pos,I.bd,I.one,by rw[e];exact I.x,by rw[e];exact I.y⟩;have f:=c a i;have e:=c b h;rw[Py,O2 f,Py,O2 e];exact Vr.mp j a b f e l;obtain⟨j,a,rfl⟩:=OZ.mp d;exact g _ (qQ (c j a))
def yI{l:yag}(h:l.Pairwise (·<·)):l.Nodup:=h.imp λh e=>by lia
def Ib{ps:yau}(m:4<=ps.length)(j:∀p∈ps,WB 40 p){g:List (yag)}(f:g∈dQ++eN):LsOk (Rv ps g):=by
 obtain⟨A,B,rfl,l,k,o,n,d,_⟩:=sD g f;refine⟨by simp[Rv],by simp[Rv],λa h=>?_,λa h=>?_,λa h p e=>?_⟩
 ·simp only[Rv,Pj,Vy,OK,TN,or_false]at h;rcases h with rfl|rfl<;>rw[Of]
  ·exact Yt.mpr l
  ·exact Yt.mpr k
 ·simp only[Rv,Pj,Vy,OK,TN,or_false]at h;rcases h with rfl|rfl<;>rw[Of]<;>lia
 ·obtain⟨G,b,rfl⟩:=OZ.mp h;obtain⟨i,a,rfl⟩:=OZ.mp e;have c:i<ps.length:=by
   have:=d i (by rcases OK.mp b with rfl|b;simp[a];rw[QY.mp b]at a;simp[a])
   lia
  rw[Py,O2 c];exact j _ (SE c)
theorem AG{ps:yau}(m:4<=ps.length)(l:∀p∈ps,WB 40 p):∀{dl:List (List (yag))} {r:Option (List (yag×yaf)×Tr)},(∀g∈dl,g∈dQ++eN)->(∃g∈dl,∃X,BC (Rv ps g) X)->Dt ps dl r->∃qs y,r=some (qs,y)/\wX ps qs y
 |[],_,_,⟨_,h,_⟩,_=>by cases h
 |g::dl,r,d,⟨o,c,X,C⟩,h=>by
  have L:=Ib m l (d g RB);rcases h with⟨y,h,rfl⟩| ⟨a,h,n⟩;refine⟨_,_,rfl,?_⟩;rcases Cb L h with⟨z,e,M,_⟩| ⟨a,e,_⟩;cases El e;obtain⟨A,B,rfl,_,_,_,_,b,a,k,p,_⟩:=sD g (d _ RB);have j:=D7 (M.ok 0 (by simp[Rv])) a λi a=>by have:=b i (by simp[a]);lia
  have f:=D7 (M.ok 1 (by simp[Rv])) k λi a=>by have:=b i (by simp[a]);lia
  refine⟨M.pr,M.cb,rfl,λq hq=>?_,?_⟩;rcases OK.mp (show q ∈ [((TM y (A.map λi=>ps.getD i (0,0))).1.map λk=>A.getD k 0,(TM y (A.map λi=>ps.getD i (0,0))).2),((TM y (B.map λi=>ps.getD i (0,0))).1.map λk=>B.getD k 0,(TM y (B.map λi=>ps.getD i (0,0))).2)]from hq)with rfl|hq;exact j;rw[QY.mp hq];exact f;show(List.flatMap _ [_,_]).Nodup;simp only[Zs,List.flatMap_nil,U8];refine zC6.mpr ⟨yI j.rise,yI f.rise,λa a b f e=>?_⟩;obtain⟨k,b,rfl⟩:=OZ.mp a;obtain⟨j,i,rfl⟩:=OZ.mp f;have a:=(M.ok 0 (by simp[Rv])).lt k b;have f:=(M.ok 1 (by simp[Rv])).lt j i;have b:A.getD k 0∈A:=qQ (by simpa [Rv]using a);have a:B.getD j 0∈B:=qQ (by simpa [Rv]using f);exact p _ b (by rw[show A.getD k 0=B.getD j 0 from e];exact a);exact absurd e mF;rcases OK.mp c with rfl|c;rcases Cb L h with⟨z,e,_⟩| ⟨s,e,B⟩;exact absurd e.symm mF;exact(L5 B C).elim;exact AG m l (λg q=>d g (Pz _ q)) ⟨o,c,X,C⟩ n
def AI{ps:yau}(b:4<=ps.length)(a:∀p∈ps,WB 40 p)(h:Dt ps (dQ++eN) r):∃qs y,r=some (qs,y)/\wX ps qs y :=
 AG b a (λ_ q=>q) (Nl λi=>ps.getD i (0,0)) h
def bV(ns:yaf)(a:yag):yaf:=a.map λi=>ns.getD i 0
def d6(ns a:yaf):yaf:=ns.filter λn=>!a.contains n
def T8:yag->yaf->List (List (yaf))
 |[],_=>[[]]
 |k::c,a=>(O6 a.length k).flatMap λb=>(T8 c (d6 a (bV a b))).map (bV a b::·)
def VL(g:List (yaf)):D:=.lst true (g.map λG=>.lst true (G.map D.int))
def MU:T8 [1,3] [0,1,2,3]=dQ.map λg=>g.map λG=>G.map λ(k:Nat)=>(k:Int):=by decide +kernel
def MV:T8 [2,2] [0,1,2,3]=eN.map λg=>g.map λG=>G.map λ(k:Nat)=>(k:Int):=by decide +kernel
theorem lP{a b:Type}{f:a->List b}{B:Nat}:∀{l:List a},(∀x∈l,(f x).length<=B)->(l.flatMap f).length<=l.length*B
 |[],_=>by simp
 |x::l,h=>by
  rw[Zs,QX,RG,Nat.succ_mul];have:=h x (by simp);have:=lP λy q=>h y (Pz _ q)
  lia
def eS(ns a:yaf):(d6 ns a).length<=ns.length:=List.length_filter_le _ _
def Cf{n k:Nat}(a:n<=4)(b:k<=3):(O6 n k).length<=64:=PL (pR n k) (PL (Zo a k) (PL (W9 (by decide) b) (by decide)))
theorem hJ:∀(ks:yag) (ns:yaf),ns.length<=4->(∀k∈ks,k<=3)->(T8 ks ns).length<=64 ^ ks.length
 |[],_,_,_=>by simp[T8]
 |k::ks,ns,c,d=>by
  have a:=lP (l:=O6 ns.length k) (f:=λb=>(T8 ks (d6 ns (bV ns b))).map (bV ns b::·)) (B:=64 ^ ks.length) λb _=>by rw[Of];exact hJ ks _ (PL (eS _ _) c) λk q=>d k (Pz _ q)
  refine PL a ?_;rw[RG,VS,Nat.mul_comm];exact Nat.mul_le_mul_left _ (Cf c (d k (by simp)))
theorem ur:∀{ks:yag} {ns:yaf} {o:List (yaf)},o∈T8 ks ns->o.length=ks.length
 |[],_,_,h=>by simp only[T8,QY]at h;subst h;rfl
 |k::ks,ns,o,h=>by obtain⟨b,_,h⟩:=Zz.mp h;obtain⟨x,a,rfl⟩:=OZ.mp h;rw[RG,RG,ur a]
def va{a b:Type}{f:a->List b}{l:List a}{j:Nat}{x:a}(h:l[j]?=some x):(l.take (j+1)).flatMap f=(l.take j).flatMap f++f x:=by simp_all [Xg,List.flatMap_append]
theorem uh(n:Int):∀a:yaf,(a.map D.int).any (λz=>eqD z (.int n))=a.contains n
 |[]=>rfl
 |g::a=>by rw[Pj,List.any_cons,uh n a,jT,List.contains_cons];congr 1;by_cases h:g=n;subst h;simp;rw[decide_eq_false h];exact(beq_eq_false_iff_ne.mpr (Ne.symm h)).symm
def B5:Option (List (yag×yaf)×Tr)->D
 |none=>.ON
 |some z=>Ui z.1 z.2
theorem zy:∀{g:List (yag)} {z:yag×(yag×yaf)},z∈g.zip ((Rv ps g).map (TM y))->z.1∈g/\z.2=TM y (z.1.map λi=>ps.getD i (0,0))
 |G::g,z,h=>by
  rcases OK.mp (show z∈(G,TM y (G.map λi=>ps.getD i (0,0)))::g.zip ((Rv ps g).map (TM y))from h)with rfl|h
  simp_all
  have:=zy h;grind
def M6(M:w8 (Rv ps g) y ((Rv ps g).map (TM y))){z:yag×(yag×yaf)}(h:z∈g.zip ((Rv ps g).map (TM y))):qH (z.1.map λi=>ps.getD i (0,0)) y z.2.1 z.2.2:=by
 obtain⟨a,c⟩:=zy h;obtain⟨i,b,e⟩:=Vt a;have a:i<(Rv ps g).length:=by unfold Rv;simp_all
 have:=M.ok i a;have d:(Rv ps g)[i]?=some (z.1.map λi=>ps.getD i (0,0)):=by unfold Rv;simp_all
 simp_all
def UH(qs:List (yag×yaf))(y:Tr):D:=.tup [.lst false (qs.map cH),Ou y]
def rR(qs:List (yag×yaf))(y:Tr):aB (Ui qs y)=UH qs y:=by unfold Ui UH;rw[cJ,aW,aW,bC,bq,kD];rfl
theorem Fz{d c:Type}(a:d->D)(b:c->D):∀(xs:List d) (ys:List c),List.zipWith (λx y=>D.tup [x,y]) (xs.map a) (ys.map b)=(xs.zip ys).map λz=>D.tup [a z.1,b z.2]
 |[],_=>rfl
 |_::_,[]=>rfl
 |x::xs,y::ys=>by simp_all [Pj,Zj,Zq,Fz]
def Gw(A:yag)(k:Nat):(A.map λ(k:Nat)=>(k:Int)).getD k 0=((A.getD k 0:Nat):Int):=by rw[Py,Py,PO];cases A[k]?<;>rfl
def F9{a:Type}(f:a->D)(xs:List a)(k:Nat):PD.cutD (xs.map f) none (some (k:Int))=(xs.take k).map f:=by
 unfold PD.cutD;have c:HT.Pa (xs.map f).length 0 none=0:=rfl;have b:HT.Pa (xs.map f).length (xs.map f).length (some (k:Int))=min k (xs.map f).length:=HT.pZ _ _ k
 simp_all
def IB(qs:List (yag×yaf))(y:Tr):cV (Ui qs y)=true:=by unfold Ui Ou T3;simp only[cV,fM,kE _ Df,Bool.and_true]
def XQ(q:yag×yaf):yaf×yaf:=(q.1.map λ(k:Nat)=>(k:Int),q.2)
def AR(q:yag×yaf):gT true (XQ q)=cA q/\gT false (XQ q)=cH q:=by
 have e:(q.1.map λ(k:Nat)=>(k:Int)).map D.int=q.1.map λ(k:Nat)=>D.int (k:Int):=by rw[Pp];rfl
 unfold gT cA cH Ra XQ;rw[e];exact⟨rfl,rfl⟩
def HX(qs:List (yag×yaf))(y:Tr):gD true (qs.map XQ) (Ou y)=Ui qs y/\gD false (qs.map XQ) (Ou y)=UH qs y:=by unfold gD Ui UH;rw[Pp,Pp,show gT true∘XQ=cA from funext λq=>(AR q).1,show gT false∘XQ=cH from funext λq=>(AR q).2];exact⟨rfl,rfl⟩
def Fo(qs:List (yag×yaf))(y:Tr):aB (UH qs y)=UH qs y:=by unfold UH;rw[cJ,aW,aW,bC,bq,cI cH qE];rfl
def Nk(qs:List (yag×yaf))(y:Tr):QL (UH qs y)=QL (Ui qs y):=by
 have e:cC (qs.map cH)=cC (qs.map cA):=by
  induction qs with
  |nil=>rfl
  |cons q qs ih=>rw[Pj,Pj,cC,cC,ih];rfl
 unfold UH Ui;simp only[QL,cC,e]
def MY(qs:List (yag×yaf))(y:Tr):eqD (UH qs y) (Ui qs y)=true:=by unfold eqD;rw[Nk];exact j7 (Ui qs y)
def Ew(r:yag×yaf):P4 2 (cH r):=P4.tup (.cons (P4.map λ(_:Nat)=>P4.int 0 _) (.cons (P4.map (P4.int 0)) (.nil _)))
def wM(qs:List (yag×yaf))(y:Tr):okD (Ui qs y)/\okD (UH qs y):=by have t:P4 3 (Ou y):=P4.tup (.cons (P4.int 2 _) (.cons (P4.int 2 _) (.cons (P4.int 2 _) (.nil _))));exact⟨(P4.tup (.cons (P4.map GR) (.cons t (.nil _)))).ok,(P4.tup (.cons (P4.map Ew) (.cons t (.nil _)))).ok⟩
def Eu{a b:yav}:a.map Sr=b.map Sr↔a=b:=⟨Jz,λe=>by rw[e]⟩
def Ej{a b:yat}:a.map cu=b.map cu↔a=b:=⟨Jv,λe=>by rw[e]⟩
def E7{a b:List (Nat×Int)}:a.map dU=b.map dU↔a=b:=⟨J9,λe=>by rw[e]⟩
def ER{a b:yau}:a.map Pm=b.map Pm↔a=b:=⟨JP,λe=>by rw[e]⟩
def Fb{a b:yau}:a.map Ov=b.map Ov↔a=b:=⟨Br,λe=>by rw[e]⟩
def Fh{a b:yaw}:a.map Ou=b.map Ou↔a=b:=⟨Kg,λe=>by rw[e]⟩
def EM:Pm a=Pm b↔a=b:=⟨Be,λe=>by rw[e]⟩
def E8:Ov a=Ov b↔a=b:=⟨Bq,λe=>by rw[e]⟩
def Ek{a b:yaf}:a.map D.int=b.map D.int↔a=b:=⟨zO,by lia⟩
local macro_rules|`(tactic|z_go)=>do
 let l := ("T3 List.cons.injEq D.int.injEq D.tup.injEq D.lst.injEq and_true true_and and_imp Ek Eu Ej E7 ER Fb Fh EM E8".splitOn " ").toArray.map λs => Lean.mkIdent s.toName
 `(tactic| (apply propext; constructor; (intro h; repeat (first | (obtain ⟨e, h⟩ := h; revert e; simp only [$[$l:ident],*]; intros; subst_vars; assumption) | obtain ⟨_, h⟩ := h)); (intro q; repeat (first | exact ⟨rfl, q⟩ | apply Exists.intro))))
section
variable(κ:Pg)(Q:D->Prop)(Ed:Value->Prop)
abbrev pY(n:Int):Prop:=Q (.int (sg n))
def uY(κ:Pg):DSp:=λa Q Ed=>∃(n:Int),a=[.int n]/\pY Q n
def CP (n:Int):uY κ [.int n] Q Ed=pY Q n:=by z_go
abbrev fF(a:Int)(b:Int):Prop:=Q (.int (Int.gcd a b:Int))
def fH(κ:Pg):DSp:=λc Q Ed=>∃(a:Int) (b:Int),c=[.int a,.int b]/\fF Q a b
def mV (a:Int) (b:Int):fH κ [.int a,.int b] Q Ed=fF Q a b:=by z_go
abbrev iW(ns:yaf):Prop:=ns.length<100/\bR 0 ns≠0/\Bd 1000 (bR 0 ns)/\Q (.lst true ((c8 ns).map D.int))
def i7(κ:Pg):DSp:=λb Q Ed=>∃(a:yaf),b=[.lst false (a.map D.int)]/\iW Q a
def kB (ns:yaf):i7 κ [.lst false (ns.map D.int)] Q Ed=iW Q ns:=by z_go
abbrev mI(n:Int)(s:Int):Prop:=∃m t:Nat,n=(m:Int)/\s=(t:Int)/\m<=1000/\t<=3/\m ^ t<=1000000/\Q (.lst true ((O6 m t).map Ra))
def rN(κ:Pg):DSp:=λa Q Ed=>∃(n:Int) (s:Int),a=[.int n,.int s]/\mI Q n s
def Ag (n:Int) (s:Int):rN κ [.int n,.int s] Q Ed=mI Q n s:=by z_go
abbrev rA(g0 g1 g2:Int)(p0 p1 p2:Int):Prop:=Bd 1000 g0/\Bd 1000 g1/\Bd 1000 g2/\Bd 1000 p0/\Bd 1000 p1/\Bd 1000 p2/\Q (.int (g0*p0+g1*p1+g2*p2))
def rP(κ:Pg):DSp:=λg Q Ed=>∃(f e d:Int) (c b a:Int),g=[T3 f e d,T3 c b a]/\rA Q f e d c b a
def Ai (f e d:Int) (c b a:Int):rP κ [T3 f e d,T3 c b a] Q Ed=rA Q f e d c b a:=by z_go
abbrev jX(g0 g1 g2:Int)(p0 p1 p2:Int):Prop:=Bd 1000 g0/\Bd 1000 g1/\Bd 1000 g2/\Bd 1000 p0/\Bd 1000 p1/\Bd 1000 p2/\Q (.int (sg (g0*p0+g1*p1+g2*p2)))
def iG(κ:Pg):DSp:=λg Q Ed=>∃(f e d:Int) (c b a:Int),g=[T3 f e d,T3 c b a]/\jX Q f e d c b a
def jO (f e d:Int) (c b a:Int):iG κ [T3 f e d,T3 c b a] Q Ed=jX Q f e d c b a:=by z_go
abbrev jE(a0 a1 a2:Int)(b0 b1 b2:Int):Prop:=Bd 200 a0/\Bd 200 a1/\Bd 200 a2/\Bd 200 b0/\Bd 200 b1/\Bd 200 b2/\Q (T3 (a1*b2 - b1*a2) (a2*b0 - b2*a0) (a0*b1 - b0*a1))
def jL(κ:Pg):DSp:=λg Q Ed=>∃(f e d:Int) (c b a:Int),g=[T3 f e d,T3 c b a]/\jE Q f e d c b a
def nG (a0 e d:Int) (c b a:Int):jL κ [T3 a0 e d,T3 c b a] Q Ed=jE Q a0 e d c b a:=by z_go
abbrev kM(p0 p1 p2:Int)(w:Sp):Prop:=Bd 200 p0/\Bd 200 p1/\Bd 200 p2/\WB 200 w/\Q (T3 (-(w.1*p1+w.2*p2)) (w.1*p0) (w.2*p0))
def cT(κ:Pg):DSp:=λd Q Ed=>∃(c b a:Int) (w:Sp),d=[T3 c b a,Ov w]/\kM Q c b a w
def ph (c b a:Int) (w:Sp):cT κ [T3 c b a,Ov w] Q Ed=kM Q c b a w:=by z_go
abbrev iO(d:D):Prop:=∃p:Sp,d=Ov p/\Q (Pm p)
def lK(κ:Pg):DSp:=λa Q Ed=>∃(d:D),a=[d]/\iO Q d
def uX (d:D):lK κ [d] Q Ed=iO Q d:=by z_go
abbrev mK(a0 a1 a2:Int)(b0 b1 b2:Int)(c0 c1 c2:Int):Prop:=Bd 1000 a0/\Bd 1000 a1/\Bd 1000 a2/\Bd 1000 b0/\Bd 1000 b1/\Bd 1000 b2/\Bd 1000 c0/\Bd 1000 c1/\Bd 1000 c2/\Q (.int (sw a0 a1 a2 b0 b1 b2 c0 c1 c2))
def mZ(κ:Pg):DSp:=λj Q Ed=>∃(i h g:Int) (f e d:Int) (c b a:Int),j=[T3 i h g,T3 f e d,T3 c b a]/\mK Q i h g f e d c b a
def qC (a0 h g:Int) (f e d:Int) (c b a:Int):mZ κ [T3 a0 h g,T3 f e d,T3 c b a] Q Ed=mK Q a0 h g f e d c b a:=by z_go
abbrev kh(a0 a1 a2:Int)(b0 b1 b2:Int):Prop:=Bd 200 a0/\Bd 200 a1/\Bd 200 a2/\Bd 200 b0/\Bd 200 b1/\Bd 200 b2/\Q (.tup [.int (a0*b1 - b0*a1),.int (a0*b2 - b0*a2)])
def ku(κ:Pg):DSp:=λg Q Ed=>∃(f e d:Int) (c b a:Int),g=[T3 f e d,T3 c b a]/\kh Q f e d c b a
def lA (a0 e d:Int) (c b a:Int):ku κ [T3 a0 e d,T3 c b a] Q Ed=kh Q a0 e d c b a:=by z_go
abbrev uK(a:Sp)(b:Sp):Prop:=WB 400 a/\WB 400 b/\Q (.int (tn a b))
def u0(κ:Pg):DSp:=λc Q Ed=>∃(a:Sp) (b:Sp),c=[Ov a,Ov b]/\uK Q a b
def CQ (a:Sp) (b:Sp):u0 κ [Ov a,Ov b] Q Ed=uK Q a b:=by z_go
abbrev pX(w:Sp):Prop:=Q (Ov (T5 w))
def l9(κ:Pg):DSp:=λa Q Ed=>∃(w:Sp),a=[Ov w]/\pX Q w
theorem tQ (w:Sp):l9 κ [Ov w] Q Ed=pX Q w:=by z_go
abbrev jF(w:Sp):Prop:=Q (Ov (Tb w))
def jM(κ:Pg):DSp:=λa Q Ed=>∃(w:Sp),a=[Ov w]/\jF Q w
theorem nI (w:Sp):jM κ [Ov w] Q Ed=jF Q w:=by z_go
abbrev mG(ps:yau):Prop:=ps.length<64/\(∀p∈ps,SB p)/\Q (.lst true ((bF [] ps).reverse.map Pm))
def rK(κ:Pg):DSp:=λb Q Ed=>∃(a:yau),b=[.lst false (a.map Pm)]/\mG Q a
def qB (ps:yau):rK κ [.lst false (ps.map Pm)] Q Ed=mG Q ps:=by z_go
abbrev jW(ps:yau):Prop:=ps.length<64/\(∀p∈ps,SB p)/\∀ys,cO ys ps->ys.length<=ps.length->Q (.lst true ((aO ys).map Pm))
def me(κ:Pg):DSp:=λb Q Ed=>∃(a:yau),b=[.lst false (a.map Ov)]/\jW Q a
def mW (ps:yau):me κ [.lst false (ps.map Ov)] Q Ed=jW Q ps:=by z_go
abbrev ft(a:Sp)(b:Sp):Prop:=SB a/\SB b/\Q (.lst true ((fC a b).map Ou))
def iH(κ:Pg):DSp:=λc Q Ed=>∃(a:Sp) (b:Sp),c=[Pm a,Pm b]/\ft Q a b
def jA (a:Sp) (b:Sp):iH κ [Pm a,Pm b] Q Ed=ft Q a b:=by z_go
abbrev kJ(hs:yau):Prop:=0<hs.length/\hs.length<200/\(∀p∈hs,SB p)/\Q (.lst true ((aI hs).map Ou))
def oZ(κ:Pg):DSp:=λb Q Ed=>∃(a:yau),b=[.lst false (a.map Pm)]/\kJ Q a
def o5 (hs:yau):oZ κ [.lst false (hs.map Pm)] Q Ed=kJ Q hs:=by z_go
abbrev oO(w:Sp):Prop:=Q (.int (br w))
def pA(κ:Pg):DSp:=λa Q Ed=>∃(w:Sp),a=[Ov w]/\oO Q w
def zj (w:Sp):pA κ [Ov w] Q Ed=oO Q w:=by z_go
abbrev d9(a:Sp)(b:Sp):Prop:=WB 400 a/\WB 400 b/\Q (.bl (decide (tn a b=0/\OO a b<0)))
def gQ(κ:Pg):DSp:=λc Q Ed=>∃(a:Sp) (b:Sp),c=[Ov a,Ov b]/\d9 Q a b
def oY (a:Sp) (b:Sp):gQ κ [Ov a,Ov b] Q Ed=d9 Q a b:=by z_go
abbrev fE(a:Sp)(b:Sp):Prop:=WB 400 a/\WB 400 b/\Q (oL (kU a b))
def fG(κ:Pg):DSp:=λc Q Ed=>∃(a:Sp) (b:Sp),c=[Ov a,Ov b]/\fE Q a b
def mU (a:Sp) (b:Sp):fG κ [Ov a,Ov b] Q Ed=fE Q a b:=by z_go
abbrev dR(a:Sp)(b:Sp)(e:Sp):Prop:=WB 400 a/\WB 400 b/\WB 400 e/\Q (oL (jg a b e))
def dW(κ:Pg):DSp:=λc Q Ed=>∃(a:Sp) (b:Sp) (e:Sp),c=[Ov a,Ov b,Ov e]/\dR Q a b e
def lB (a:Sp) (b:Sp) (e:Sp):dW κ [Ov a,Ov b,Ov e] Q Ed=dR Q a b e:=by z_go
abbrev gH(ws:yau):Prop:=0<ws.length/\ws.length<4/\(∀w∈ws,WB 400 w)/\Q (oL (dO ws))
def mT(κ:Pg):DSp:=λb Q Ed=>∃(a:yau),b=[.lst false (a.map Ov)]/\gH Q a
def ju (ws:yau):mT κ [.lst false (ws.map Ov)] Q Ed=gH Q ws:=by z_go
abbrev mJ(x y z:Int)(l:Int):Prop:=¬(x=0/\y=0/\z=0)/\Bd 4000 x/\Bd 4000 y/\Bd 4000 z/\Q (T3 (x.fdiv (PM.Qp x y z l)) (y.fdiv (PM.Qp x y z l)) (z.fdiv (PM.Qp x y z l)))
def mY(κ:Pg):DSp:=λa Q Ed=>∃(x y z:Int) (l:Int),a=[T3 x y z,.int l]/\mJ Q x y z l
def wD (x y z:Int) (l:Int):mY κ [T3 x y z,.int l] Q Ed=mJ Q x y z l:=by z_go
abbrev rq(b:Int)(x:Int)(y:Int):Prop:=b≠0/\Bd 4000 b/\Bd 4000 x/\Bd 4000 y/\Q (Mm b x y)
def rO(κ:Pg):DSp:=λa Q Ed=>∃(b:Int) (x:Int) (y:Int),a=[.int b,.int x,.int y]/\rq Q b x y
def Ah (b:Int) (x:Int) (y:Int):rO κ [.int b,.int x,.int y] Q Ed=rq Q b x y:=by z_go
abbrev gI (ps:yau) (h0 h1 h2:Int):Prop:=0<ps.length/\ps.length<=30/\(∀p∈ps,SB p)/\PB 160 (h0,h1,h2)/\∃r,bW (ps.map (Om (h0,h1,h2))) (cF ps.length)=some r/\Q (.tup [.str "in", Ra r.1,.lst true (r.2.map D.int)])
def jN(κ:Pg):DSp:=λe Q Ed=>∃(a:yau) (d c b:Int),e=[.lst false (a.map Ov),T3 d c b]/\gI Q a d c b
def nJ (ps:yau) (h0 b a:Int):jN κ [.lst false (ps.map Ov),T3 h0 b a] Q Ed=gI Q ps h0 b a:=by z_go
abbrev dm(a0 a1 a2:Int)(b0 b1 b2:Int)(g0 g1 g2:Int):Prop:=Bd 200 a0/\Bd 200 a1/\Bd 200 a2/\Bd 200 b0/\Bd 200 b1/\Bd 200 b2/\Bd 200 g0/\Bd 200 g1/\Bd 200 g2/\(O4 (g0,g1,g2) (a0,a1,a2) (b0,b1,b2)).1≠0/\Q (Ou (cQ (g0,g1,g2) (a0,a1,a2) (b0,b1,b2)))
def dq(κ:Pg):DSp:=λj Q Ed=>∃(i h g:Int) (f e d:Int) (c b a:Int),j=[T3 i h g,T3 f e d,T3 c b a]/\dm Q i h g f e d c b a
def gW (a0 h g:Int) (f e d:Int) (c b a:Int):dq κ [T3 a0 h g,T3 f e d,T3 c b a] Q Ed=dm Q a0 h g f e d c b a:=by z_go
abbrev fk(cs:yaw)(g0 g1 g2:Int):Prop:=cs.length<=300000/\(∀p∈cs,0<p.1/\CB 40 p)/\Bd 200 g0/\Bd 200 g1/\Bd 200 g2/\Q (.lst true ((fb (g0,g1,g2) cs).map Ou))
def gR(κ:Pg):DSp:=λe Q Ed=>∃(d:yaw) (c b a:Int),e=[.lst false (d.map Ou),T3 c b a]/\fk Q d c b a
def jv (cs:yaw) (c b a:Int):gR κ [.lst false (cs.map Ou),T3 c b a] Q Ed=fk Q cs c b a:=by z_go
abbrev iV(cs:yaw)(gs:yaw):Prop:=0<gs.length/\gs.length<=1000/\(∀j,j<gs.length->(aT (gs.take j) cs).length<=300000/\∀p∈aT (gs.take j) cs,0<p.1/\CB 40 p)/\(∀g∈gs,Bd 200 g.1/\Bd 200 g.2.1/\Bd 200 g.2.2)/\Q (.lst true ((aT gs cs).map Ou))
def o6(κ:Pg):DSp:=λc Q Ed=>∃(b:yaw) (a:yaw),c=[.lst false (b.map Ou),.lst false (a.map Ou)]/\iV Q b a
def o7 (cs:yaw) (a:yaw):o6 κ [.lst false (cs.map Ou),.lst false (a.map Ou)] Q Ed=iV Q cs a:=by z_go
abbrev eA(Ls:yat):Prop:=LsOk Ls/\∀yss,bG yss Ls->Q (.lst true ((aS 0 yss).map Sr))
def gU(κ:Pg):DSp:=λb Q Ed=>∃(a:yat),b=[.lst false (a.map cu)]/\eA Q a
def pB (Ls:yat):gU κ [.lst false (Ls.map cu)] Q Ed=eA Q Ls:=by z_go
abbrev dE(a0 a1 a2:Int)(b0 b1 b2:Int)(s:Int):Prop:=TB 990 (a0,a1,a2)/\TB 82 (b0,b1,b2)/\Bd 900 s/\Q (Ou (je (a0,a1,a2) (b0,b1,b2) s))
def fR(κ:Pg):DSp:=λg Q Ed=>∃(f e d:Int) (c b a:Int) (s:Int),g=[T3 f e d,T3 c b a,.int s]/\dE Q f e d c b a s
def kC (a0 e d:Int) (c b a:Int) (s:Int):fR κ [T3 a0 e d,T3 c b a,.int s] Q Ed=dE Q a0 e d c b a s:=by z_go
abbrev ib(cs:yaw)(gs:yaw):Prop:=gs.length<=1000/\(∀j,j<=gs.length->(aT (gs.take j) cs).length<=300000/\∀p∈aT (gs.take j) cs,0<p.1/\CB 40 p)/\(∀g∈gs,Bd 200 g.1/\Bd 200 g.2.1/\Bd 200 g.2.2)/\∃last:Nat,last<gs.length/\(∀j,j<=last->aT (gs.take j) cs ≠ [])/\aT (gs.take (last+1)) cs=[]/\Q (.int (last:Int))
def iC(κ:Pg):DSp:=λc Q Ed=>∃(b:yaw) (a:yaw),c=[.lst false (b.map Ou),.lst false (a.map Ou)]/\ib Q b a
def qk (cs:yaw) (a:yaw):iC κ [.lst false (cs.map Ou),.lst false (a.map Ou)] Q Ed=ib Q cs a:=by z_go
abbrev iK(gs:yaw)(ns:yaf)(sh:yaf):Prop:=∃pk:yag,ns=pk.map (λ(k:Nat)=>(k:Int))/\pk.length=sh.length/\pk.length<=3/\(∀k∈pk,k<gs.length)/\(∀g∈gs,Bd 200 g.1)/\(∀s∈sh,Bd 900 s)/\Q (.int (qK gs pk sh))
def lD(κ:Pg):DSp:=λd Q Ed=>∃(c:yaw) (b:yaf) (a:yaf),d=[.lst false (c.map Ou),.lst false (b.map D.int),.lst false (a.map D.int)]/\iK Q c b a
def md (b:yaw) (ns:yaf) (a:yaf):lD κ [.lst false (b.map Ou),.lst false (ns.map D.int),.lst false (a.map D.int)] Q Ed=iK Q b ns a:=by z_go
abbrev lY(cs:yaw)(gs:yaw):Prop:=gs.length<=1000/\(∀j,j<=gs.length->(aT (gs.take j) cs).length<=300000/\∀p∈aT (gs.take j) cs,0<p.1/\CB 40 p)/\(∀g∈gs,Bd 200 g.1/\Bd 200 g.2.1/\Bd 200 g.2.2)/\∃last:Nat,last<gs.length/\(∀j,j<=last->aT (gs.take j) cs ≠ [])/\aT (gs.take (last+1)) cs=[]/\∃r:yag×yaf,gB gs last (O6 last 1++O6 last 2)=some r/\Q (.lst true ((r.1.zip r.2).map dU))
def uT(κ:Pg):DSp:=λc Q Ed=>∃(b:yaw) (a:yaw),c=[.lst false (b.map Ou),.lst false (a.map Ou)]/\lY Q b a
def tR (cs:yaw) (a:yaw):uT κ [.lst false (cs.map Ou),.lst false (a.map Ou)] Q Ed=lY Q cs a:=by z_go
abbrev fJ(os:yav)(zs:List (Nat×Int)):Prop:=zs.length<=3/\(∀z∈zs,z.1<os.length/\Bd 900 z.2)/\(∀x∈os,TB 82 x.2)/\(∀n,∀x∈bU ((gf os zs).take n),TB (983+n) x.2)/\(∀n,(bU ((gf os zs).take n)).length<=n)/\((bU (gf os zs)).map (·.1)).Nodup/\∀ms:yaf,ms.Perm ((bU (gf os zs)).map (·.1))->ms.Pairwise (·<·)->Q (.lst true ((ji (bU (gf os zs)) ms).map Sr))
def lC(κ:Pg):DSp:=λb Q Ed=>∃(os:yav) (a:List (Nat×Int)),b=[.lst false (os.map Sr),.lst false (a.map dU)]/\fJ Q os a
def ma (os:yav) (a:List (Nat×Int)):lC κ [.lst false (os.map Sr),.lst false (a.map dU)] Q Ed=fJ Q os a:=by z_go
abbrev dD(Ls:yat):Prop:=LsOk Ls/\∀d,Z6 Ls d->Q d
def jw(κ:Pg):DSp:=λb Q Ed=>∃(a:yat),b=[.lst false (a.map cu)]/\dD Q a
def kx (Ls:yat):jw κ [.lst false (Ls.map cu)] Q Ed=dD Q Ls:=by z_go
abbrev ki(a:Int):Prop:=Q (.bl true)
def kA(κ:Pg):DSp:=λb Q Ed=>∃(a:Int),b=[.int a]/\ki Q a
def tS (a:Int):kA κ [.int a] Q Ed=ki Q a:=by z_go
abbrev ic(ns:yaf)(k:Int):Prop:=0<=k/\ns.length<=63/\∀v:Int,Q (.int v)
def iD(κ:Pg):DSp:=λb Q Ed=>∃(a:yaf) (k:Int),b=[.lst false (a.map D.int),.int k]/\ic Q a k
def ql (ns:yaf) (k:Int):iD κ [.lst false (ns.map D.int),.int k] Q Ed=ic Q ns k:=by z_go
abbrev ie(a:Int)(b:Int):Prop:=Q (.int (Int.gcd a b:Int))
def iE(κ:Pg):DSp:=λc Q Ed=>∃(a:Int) (b:Int),c=[.int a,.int b]/\ie Q a b
def qo (a:Int) (b:Int):iE κ [.int a,.int b] Q Ed=ie Q a b:=by z_go
abbrev et(h0 h1 h2:Int):Prop:=Pr (h0,h1,h2)/\Q (.bl true)
def eE(κ:Pg):DSp:=λd Q Ed=>∃(c b a:Int),d=[T3 c b a]/\et Q c b a
def i6 (h0 b a:Int):eE κ [T3 h0 b a] Q Ed=et Q h0 b a:=by z_go
abbrev fQ(c:Int)(m:Int):Prop:=0<=m/\m<1000/\∀xs:yaf,xs.length=m.toNat->(∀x∈xs,0<=x/\x<2147483647)->Q (.lst true (xs.map D.int))
def jx(κ:Pg):DSp:=λa Q Ed=>∃(c:Int) (m:Int),a=[.int c,.int m]/\fQ Q c m
def rM (c:Int) (m:Int):jx κ [.int c,.int m] Q Ed=fQ Q c m:=by z_go
abbrev iN(k:Int)(xs:yaf)(w0 w1 w2:Int):Prop:=xs.length=2/\(∀x∈xs,0<=x/\x<2147483647)/\Bd 8 w0/\Bd 8 w1/\Bd 8 w2/\∀p:Sp,WB 40 p->Q (Ov p)
def lJ(κ:Pg):DSp:=λe Q Ed=>∃(k:Int) (a:yaf) (d c b:Int),e=[.int k,.lst false (a.map D.int),T3 d c b]/\iN Q k a d c b
def uW (k:Int) (xs:yaf) (c b a:Int):lJ κ [.int k,.lst false (xs.map D.int),T3 c b a] Q Ed=iN Q k xs c b a:=by z_go
abbrev oN(ns:yaf)(d:D):Prop:=d=.tup []/\Q (.lst true [.lst true []])
def o8(κ:Pg):DSp:=λb Q Ed=>∃(a:yaf) (d:D),b=[.lst false (a.map D.int),d]/\oN Q a d
def ze (ns:yaf) (d:D):o8 κ [.lst false (ns.map D.int),d] Q Ed=oN Q ns d:=by z_go
abbrev kK(ns:yaf)(d:D):Prop:=∃k:Nat,d=.tup [.int (k:Int)]/\k<=3/\ns.length<=4/\Q (.lst true ((T8 [k] ns).map VL))
def o9(κ:Pg):DSp:=λb Q Ed=>∃(a:yaf) (d:D),b=[.lst false (a.map D.int),d]/\kK Q a d
def zf (ns:yaf) (d:D):o9 κ [.lst false (ns.map D.int),d] Q Ed=kK Q ns d:=by z_go
abbrev kL(ns:yaf)(d:D):Prop:=∃k j:Nat,d=.tup [.int (k:Int),.int (j:Int)]/\k<=3/\j<=3/\ns.length<=4/\Q (.lst true ((T8 [k,j] ns).map VL))
def pf(κ:Pg):DSp:=λb Q Ed=>∃(a:yaf) (d:D),b=[.lst false (a.map D.int),d]/\kL Q a d
def zh (ns:yaf) (d:D):pf κ [.lst false (ns.map D.int),d] Q Ed=kL Q ns d:=by z_go
abbrev iP(ps:yau)(ks:yaf):Prop:=∃is:yag,ks=(is.map λ(k:Nat)=>(k:Int))/\(∀i∈is,i<ps.length)/\is.length<=30/\Q (oE (is.map λi=>ps.getD i (0,0)))
def lL(κ:Pg):DSp:=λc Q Ed=>∃(a:yau) (b:yaf),c=[.lst false (a.map Ov),.lst false (b.map D.int)]/\iP Q a b
def uZ (ps:yau) (ks:yaf):lL κ [.lst false (ps.map Ov),.lst false (ks.map D.int)] Q Ed=iP Q ps ks:=by z_go
abbrev gJ(ks:yaf)(d:D):Prop:=∃(pk:yag) (x:D),d=.tup [.lst false (pk.map λ(k:Nat)=>D.int (k:Int)),x]/\pk.length<=30/\(∀k∈pk,k<ks.length)/\Q (.tup [.lst true ((pk.map λk=>ks.getD k 0).map D.int),x])
def mX(κ:Pg):DSp:=λb Q Ed=>∃(a:yaf) (d:D),b=[.lst false (a.map D.int),d]/\gJ Q a d
def nK (ks:yaf) (d:D):mX κ [.lst false (ks.map D.int),d] Q Ed=gJ Q ks d:=by z_go
abbrev mH(ps:yau)(d:D):Prop:=∃k j:Nat,d=.tup [.int (k:Int),.int (j:Int)]/\((k=1/\j=3)∨(k=2/\j=2))/\4<=ps.length/\ps.length<=30/\(∀p∈ps,WB 40 p)/\∀r,Dt ps (if k=1 then dQ else eN) r->Q (B5 r)
def rL(κ:Pg):DSp:=λb Q Ed=>∃(a:yau) (d:D),b=[.lst false (a.map Ov),d]/\mH Q a d
def Af (ps:yau) (d:D):rL κ [.lst false (ps.map Ov),d] Q Ed=mH Q ps d:=by z_go
abbrev fq(ps:yau)(d:D):Prop:=d=.tup [.tup [.int 1,.int 3],.tup [.int 2,.int 2]]/\4<=ps.length/\ps.length<=30/\(∀p∈ps,WB 40 p)/\∀qs y,Dt ps (dQ++eN) (some (qs,y))->wX ps qs y->Q (Ui qs y)
def iw(κ:Pg):DSp:=λb Q Ed=>∃(a:yau) (d:D),b=[.lst false (a.map Ov),d]/\fq Q a d
def qj (ps:yau) (d:D):iw κ [.lst false (ps.map Ov),d] Q Ed=fq Q ps d:=by z_go
abbrev cD(ps:yau):Prop:=ps.length<=30/\(∀p∈ps,WB 40 p)/\(ps.length<4->Ed (.ref κ.TooFew))/\(4<=ps.length->∀qs y,Dt ps (dQ++eN) (some (qs,y))->wX ps qs y->Q (Ui qs y))
def jy(κ:Pg):DSp:=λb Q Ed=>∃(a:yau),b=[.lst false (a.map Ov)]/\cD κ Q Ed a
def dw (ps:yau):jy κ [.lst false (ps.map Ov)] Q Ed=cD κ Q Ed ps:=by z_go
abbrev eV(f:Int)(cs:yaf)(m:Int):Prop:=m=4/\cs.length<=30/\∀ps:yau,4<=ps.length->ps.length<=30->(∀p∈ps,WB 40 p)->Q (.lst true (ps.map Ov))
def ky(κ:Pg):DSp:=λb Q Ed=>∃(f:Int) (a:yaf) (m:Int),b=[.int f,.lst false (a.map D.int),.int m]/\eV Q f a m
def kR (f:Int) (cs:yaf) (m:Int):ky κ [.int f,.lst false (cs.map D.int),.int m] Q Ed=eV Q f cs m:=by z_go
abbrev iM(ns:yaf)(a:Int)(d:D):Prop:=1<=ns.length/\ns.length<=3/\(∀n∈ns,a<=n)/\(d=.ON∨∃ m:Int,d=.int m/\∀n∈ns,n<m)/\Q (.bl true)
def lH(κ:Pg):DSp:=λc Q Ed=>∃(b:yaf) (a:Int) (d:D),c=[.lst false (b.map D.int),.int a,d]/\iM Q b a d
def uV (ns:yaf) (a:Int) (d:D):lH κ [.lst false (ns.map D.int),.int a,d] Q Ed=iM Q ns a d:=by z_go
abbrev eU(d:D)(ps:yau)(h0 h1 h2:Int):Prop:=∃pk sh,d=cH (pk,sh)/\qH ps (h0,h1,h2) pk sh/\ps.length<=30/\(∀p∈ps,WB 40 p)/\CB 40 (h0,h1,h2)/\Q (.bl true)
def gS(κ:Pg):DSp:=λf Q Ed=>∃(d:D) (a:yau) (e c b:Int),f=[d,.lst false (a.map Ov),T3 e c b]/\eU Q d a e c b
def kQ (d:D) (ps:yau) (h0 b a:Int):gS κ [d,.lst false (ps.map Ov),T3 h0 b a] Q Ed=eU Q d ps h0 b a:=by z_go
abbrev cW(d:D)(ps:yau)(m:Int):Prop:=m=2/\(∃qs y,d=UH qs y/\wX ps qs y)/\ps.length<=30/\(∀p∈ps,WB 40 p)/\Q (.bl true)
def lE(κ:Pg):DSp:=λb Q Ed=>∃(d:D) (a:yau) (m:Int),b=[d,.lst false (a.map Ov),.int m]/\cW Q d a m
def fB (d:D) (ps:yau) (m:Int):lE κ [d,.lst false (ps.map Ov),.int m] Q Ed=cW Q d ps m:=by z_go
abbrev c9(ps:yau):Prop:=ps.length<4/\(∀p∈ps,WB 40 p)/\Q (.bl true)
def iF(κ:Pg):DSp:=λb Q Ed=>∃(a:yau),b=[.lst false (a.map Ov)]/\c9 Q a
def jz (ps:yau):iF κ [.lst false (ps.map Ov)] Q Ed=c9 Q ps:=by z_go
abbrev iL(d:D):Prop:=∃qs y,d=UH qs y/\qs.length<=9/\Q (Ui qs y)
def lF(κ:Pg):DSp:=λa Q Ed=>∃(d:D),a=[d]/\iL Q d
def uU (d:D):lF κ [d] Q Ed=iL Q d:=by z_go
end
section
variable(P:Program)(w:World)(K:yac)(mg:yam)(base:Heap)(κ:Pg)
abbrev Ku:Prop:=Ph P w K mg base "sign" 1 ["number"] (uY κ)
abbrev jZ:Prop:=Ph P w K mg base "common_divisor" 1 ["one", "other"] (fH κ)
abbrev w5:Prop:=Ph P w K mg base "lowest" 2 ["numbers"] (i7 κ)
abbrev pG:Prop:=Ph P w K mg base "picks" 1 ["count", "size"] (rN κ)
abbrev Am:Prop:=Ph P w K mg base "value" 1 ["gauge", "place"] (rP κ)
abbrev Kt:Prop:=Ph P w K mg base "side" 2 ["gauge", "place"] (iG κ)
abbrev C3:Prop:=Ph P w K mg base "crossed" 1 ["one", "other"] (jL κ)
abbrev FI:Prop:=Ph P w K mg base "facing" 1 ["place", "way"] (cT κ)
abbrev sd:Prop:=Ph P w K mg base "place_of" 1 ["spot"] (lK κ)
abbrev Iy:Prop:=Ph P w K mg base "swing" 1 ["one", "two", "three"] (mZ κ)
abbrev Al:Prop:=Ph P w K mg base "arrow" 1 ["one", "other"] (ku κ)
abbrev C9:Prop:=Ph P w K mg base "turn" 1 ["one", "other"] (u0 κ)
abbrev Kr:Prop:=Ph P w K mg base "back" 1 ["way"] (l9 κ)
abbrev C5:Prop:=Ph P w K mg base "left_of" 1 ["way"] (jM κ)
abbrev Iu:Prop:=Ph P w K mg base "chain" 2 ["places"] (rK κ)
abbrev C4:Prop:=Ph P w K mg base "hull" 3 ["spots"] (me κ)
abbrev wk:Prop:=Ph P w K mg base "thin_bounds" 2 ["one", "other"] (iH κ)
abbrev FD:Prop:=Ph P w K mg base "bounds" 3 ["corners"] (oZ κ)
abbrev w4:Prop:=Ph P w K mg base "length" 1 ["way"] (pA κ)
abbrev t8:Prop:=Ph P w K mg base "are_opposite" 2 ["one", "other"] (gQ κ)
abbrev qG:Prop:=Ph P w K mg base "balance_of_two" 3 ["one", "other"] (fG κ)
abbrev nP:Prop:=Ph P w K mg base "balance_of_three" 3 ["one", "two", "three"] (dW κ)
abbrev vg:Prop:=Ph P w K mg base "balance" 4 ["ways"] (mT κ)
abbrev C8:Prop:=Ph P w K mg base "reduced" 2 ["triple", "lead"] (mY κ)
abbrev Iw:Prop:=Ph P w K mg base "place" 3 ["by", "x", "y"] (rO κ)
abbrev C6:Prop:=Ph P w K mg base "mixture" 5 ["spots", "place"] (jN κ)
abbrev r9:Prop:=Ph P w K mg base "place_between" 4 ["one", "other", "gauge"] (dq κ)
abbrev vh:Prop:=Ph P w K mg base "clipped" 5 ["corners", "gauge"] (gR κ)
abbrev FE:Prop:=Ph P w K mg base "common" 6 ["corners", "gauges"] (o6 κ)
abbrev ud:Prop:=Ph P w K mg base "owned_gauges" 4 ["lists"] (gU κ)
abbrev w6:Prop:=Ph P w K mg base "with_share" 1 ["gauge", "other", "share"] (fR κ)
abbrev wc:Prop:=Ph P w K mg base "last_needed" 6 ["corners", "gauges"] (iC κ)
abbrev BG:Prop:=Ph P w K mg base "constant" 1 ["gauges", "numbers", "shares"] (lD κ)
abbrev Ks:Prop:=Ph P w K mg base "bars" 7 ["corners", "gauges"] (uT κ)
abbrev BF:Prop:=Ph P w K mg base "bar_rows" 2 ["owned", "shares"] (lC κ)
abbrev wY:Prop:=Ph P w K mg base "hulls_meet" 8 ["lists"] (jw κ)
abbrev qp:Prop:=Ph P w K mg base "_law_whole" 1 ["_law_found"] (kA κ)
abbrev we:Prop:=Ph P w K mg base "_law_cell_at" 1 ["_law_script", "_law_k"] (iD κ)
abbrev wg:Prop:=Ph P w K mg base "_law_divisor" 1 ["_law_one", "_law_other"] (iE κ)
abbrev ua:Prop:=Ph P w K mg base "_law_is_place" 2 ["_law_found"] (eE κ)
abbrev wZ:Prop:=Ph P w K mg base "_law_stream" 1 ["_law_cell", "_law_many"] (jx κ)
abbrev BK:Prop:=Ph P w K mg base "_law_spot" 1 ["_law_kind", "_law_xs", "_law_way"] (lJ κ)
abbrev FF:Prop:=Ph P w K mg base "deals" 1 ["numbers", "sizes"] (o8 κ)
abbrev FG:Prop:=Ph P w K mg base "deals" 2 ["numbers", "sizes"] (o9 κ)
abbrev FH:Prop:=Ph P w K mg base "deals" 3 ["numbers", "sizes"] (pf κ)
abbrev BL:Prop:=Ph P w K mg base "spots_at" 1 ["spots", "numbers"] (lL κ)
abbrev C7:Prop:=Ph P w K mg base "part_of" 1 ["group", "part"] (mX κ)
abbrev Iv:Prop:=Ph P w K mg base "dealt" 9 ["spots", "sizes"] (rL κ)
abbrev v7:Prop:=Ph P w K mg base "first_dealt" 10 ["spots", "choices"] (iw κ)
abbrev nQ:Prop:=Ph P w K mg base "two_groups" 11 ["spots"] (jy κ)
abbrev zC:Prop:=Ph P w K mg base "_law_spots" 2 ["_law_first", "_law_cells", "_law_least"] (ky κ)
abbrev BJ:Prop:=Ph P w K mg base "_law_list" 2 ["_law_found", "_law_least", "_law_most"] (lH κ)
abbrev zA:Prop:=Ph P w K mg base "_law_group" 3 ["_law_group_here", "_law_spots_here", "_law_spot_here"] (gS κ)
abbrev BH:Prop:=Ph P w K mg base "_law_good" 4 ["_law_found", "_law_spots_here", "_law_many"] (lE κ)
abbrev wj:Prop:=Ph P w K mg base "_law_refused" 12 ["_law_spots_here"] (iF κ)
abbrev BI:Prop:=Ph P w K mg base "_law_held" 1 ["_law_found"] (lF κ)
end
local macro_rules|`(tactic|fin2)=>`(tactic| (intro ds Q E h; repeat (first | (cases h.1; rfl) | refine Exists.elim h λ_ h => ?_)))
section
variable{P:Program}{w:World}{K:yac}{mg:yam}{base:Heap}{κ:Pg}{f:Addr}{fd:FuncData}
def NS(x:Str)(N:yah)(d:D)(ds:yas):cU (x::N) (d::ds)=some (.val d)::cU N ds:=by unfold cU;simp
def NV(x:Str)(N:yah):cU (x::N) []=none::cU N []:=by unfold cU;simp[List.replicate_succ]
theorem NU:cU [] []=[]:=rfl
local macro_rules|`(tactic|x_go)=>do
 let l := ("NS NV NU".splitOn " ").toArray.map λs => Lean.mkIdent s.toName
 `(tactic| simp only [$[$l:ident],*])
local macro_rules|`(tactic|lk)=>do
 let l := ("K3 HK Gd K0 KR ZM dB KP dOr KW HG HL dIf xI dC sj BY K7 Gb wH dCB dIs K8 K9 Np Nq Bj kg Ms Mu GP JA GQ jT DX DY LU HJ KY Au Ax I0 Ja xE LK LM LL List.map_cons List.map_nil NG eX Hx Fp Fq Fn cJ bq bC aW cn Hd ro MZ Lx IY List.append_nil List.cons_append List.nil_append Jr Js Mg Jn Jm Ef Jl Ce Ec Ee Eb Ea true_and KS Gf KO Kj D9 false_and and_false false_or or_false exists_false BZ HQ J0 JZ oC KQ KZ Bool.false_eq_true Bool.true_eq_false if_false if_true decide_eq_true_eq Bool.not_eq_eq_eq_not Bool.not_true Bool.not_false decide_eq_false_iff_not ite_not Dd Kx HS DF KU K4 K1 HR sk c7 HM wI Ly Lz J6 MQ IA FP FR Le Dy DD LV K5 List.set_cons_zero List.set_cons_succ Aw M3 CP mV kB Ag Ai jO nG ph uX qC lA CQ tQ nI qB mW jA o5 zj oY mU lB ju wD Ah nJ gW jv o7 pB kC qk md tR ma kx tS ql qo i6 rM uW ze zf zh uZ nK Af qj dw kR uV kQ fB jz uU pY fF iW mI rA jX jE kM iO mK kh uK pX jF mG jW ft kJ oO d9 fE dR gH mJ rq gI dm fk iV eA dE ib iK lY fJ dD ki ic ie et fQ iN oN kK kL iP gJ mH fq cD eV iM eU cW c9 iL jP nj cq nh nk gg tW DK HU HI rS CW zp CY tU kD tT lN Az HN HH K6 DH xH zq tV xG Ay Av".splitOn " ").toArray.map λs => Lean.mkIdent s.toName
 `(tactic| try simp only [YR, Xv, at2, at3, $[$l:ident],*])
def JH (F:ax K "sign" "sign" y9 f fd) (C:Pn K mg κ)    : aF P w K mg base (CX1 P w) 1 f fd ["number"] (aH K (uY κ)):=by
 refine ax.okN F J4 (by fin2) λ_ _ _ _ _ _ a=>⟨_,(aj (aR (aC wK (dv 0) ae) (ak (av ae)) aG) (aj (aR (aC fP (dv 0) ae) (ak (av (b6 ae))) aG) (ak (av ae)))),?_⟩
 rintro b Q Ed ⟨n,rfl,h⟩;x_go;unfold pY at h;lk;unfold sg at h
 lia
def qh (F:ax K "common_divisor" "common_divisor" fY f fd) (C:Pn K mg κ)   (a:mg "abs" = none):aF P w K mg base (CX1 P w) 1 f fd ["one", "other"] (aH K (fH κ)):=by
 refine ax.okN F cY (by fin2) λ_ _ _ _ _ _ d=>⟨_,(aj (mw PassesOwn.never (aC kf (dv 1) ae) (aj (aE 2 cY.nd (au bT (dv 0) (dv 1))) (aj (aE 0 cY.nd (dv 1)) (ak (aE 1 cY.nd (dv 2)))))) (ak (av (az nX (by rfl) a boot_abs (aa (dv 0) af))))),?_⟩
 rintro e Q Ed ⟨a,b,rfl,h⟩;refine⟨λm c=>∃(x y:Int) (r:Option Sl),c=[some (.val (.int x)),some (.val (.int y)),r]/\Int.gcd x y=Int.gcd a b/\m=y.natAbs,⟨_,a,b,none,rfl,rfl,rfl⟩,?_⟩;rintro m c ⟨x,y,r,rfl,b,rfl⟩;lk;by_cases a:y=0
 simp_all
 rw[Oc a];exact⟨a,_,PM.vD x a,y,x.fmod y,_,rfl,(PM.yh x y).trans b,rfl⟩
def EF (F:ax K "lowest" "lowest" mQ f fd) (C:Pn K mg κ)  (b:jZ P w K mg base κ)  : aF P w K mg base (CX1 P w) 2 f fd ["numbers"] (aH K (i7 κ)):=by
 refine ax.okN F kP (by fin2) λ_ _ _ _ _ _ a=>⟨_,(aj (aE 1 kP.nd ae) (aj (bJ PassesOwn.never rfl (aN (dv 0)) (aZ 2 kP.nd) (ak (aE 1 kP.nd (aq b a (aa (dv 1) (aa (dv 2) af)))))) (ak (av (bI (by rfl) (by exact aX (osc:=ai mQ) (xs:=["number"]) (ns:=["divisor"]) (by decide +kernel)) (aP.cons 1 aP.nil) (aN (dv 0)) (λ_ _ _ _ _=>bB) (λ_ _ _ _ _=>(au hW (dv 0) (dv 1)))))))),?_⟩
 rintro i Q Ed ⟨ns,rfl,h⟩;x_go;obtain⟨g,c,d,h⟩:=h;lk;refine PD.bE ns D.int (λj b=>∃a:Option Sl,b=[some (.val (.lst false (ns.map D.int))),some (.val (.int (bR 0 (ns.take j)))),a]) (λR q=>?_) ⟨none,rfl⟩ ?_ ?_;lk;exact q;rintro j x e b ⟨a,rfl⟩;lk
 simp_all [Xg,vF]
 rintro e ⟨a,rfl⟩;rw[UT];lk;refine PD.comp_map ns D.int (λ_=>true) (λx=>.int (x.fdiv (bR 0 ns))) (λR q=>?_) (by rw[sizeLine_eq];lia) (λx b K a=>?_) (λx b _ K a=>?_) ?_;lk;exact q;exact a;exact⟨⟨c,d.mono (by decide)⟩,a⟩;rw[Sd.mpr (λ_ _=>rfl)];unfold c8 at h;rw[Pp]at h;exact h
def GW (F:ax K "picks" "picks" p4 f fd) (C:Pn K mg κ)   (a:mg "range" = none):aF P w K mg base (CX1 P w) 1 f fd ["count", "size"] (aH K (rN κ)):=by
 refine ax.okN F fZ (by fin2) λ_ _ _ _ _ _ B=>⟨_,(aj (aE 2 fZ.nd (bO (aa (bO af) af))) (aj (bJ PassesOwn.never rfl (iT (by rfl) a (aa (dv 1) af)) (aZ 3 fZ.nd) (aj (gE 4 fZ.nd af) (aj (bJ PassesOwn.never rfl (aN (dv 2)) (aZ 5 fZ.nd) (aj (aE 6 fZ.nd (qL (aC wK (dv 3) ae) (au bc (ao (dv 5) (b6 ae)) ae) ae)) (ak (kF 4 (bI (by rfl) (by exact aX (osc:=ai p4) (xs:=["number"]) (ns:=["pick"]) (by decide +kernel)) (aP.cons 5 aP.nil) (vG (by rfl) a (aa (dv 6) (aa (dv 0) af))) (λ_ _ _ _ _=>bB) (λ_ _ _ _ _=>(au bc (dv 1) (bO (aa (dv 0) af))))))))) (cG 4 (ak (aE 2 fZ.nd (dv 4))))))) (ak (av (dv 2))))),?_⟩
 rintro I Q Ed ⟨n,s,rfl,h⟩;x_go;unfold mI at h;obtain⟨m,t,rfl,rfl,E,A,a,h⟩:=h;have i:∀j,j<=t->m ^ j<=1000000:=λj b=>by
  rcases Nat.eq_zero_or_pos m with z|z;rw[z];rcases Nat.eq_zero_or_pos j with y|y;rw[y];decide;rw[Nat.zero_pow y];decide;exact PL (W9 z b) a
 lk;refine⟨QS _,by rw[sizeLine_eq];decide,?_⟩;refine PD.bE (List.range' 0 t) (λ(k:Nat)=>D.int (k:Int)) (λj a=>∃o n d c:Option Sl,a=[some (.val (.int m)),some (.val (.int t)),some (.val (.lst true ((O6 m j).map Ra))),o,n,d,c]) (λR q=>?_) ⟨none,none,none,none,rfl⟩ ?_ ?_;lk;rw[yZ];exact⟨⟨by lia,by lia⟩,q⟩;rintro j x r e ⟨o,n,d,c,rfl⟩;obtain⟨b,g⟩:=QH.mp e;rw[Ub]at b;rw[Zn]at g;have b:x=j:=by lia
 subst b;lk;refine⟨QS _,?_⟩;refine PD.AO (O6 m x) Ra (λdone a=>∃d c:Option Sl,a=[some (.val (.int m)),some (.val (.int t)),some (.val (.lst true ((O6 m x).map Ra))),some (.val (.int x)),some (.own ((done.flatMap (Ta m)).map Ra)),d,c]) (λR q=>?_) ⟨_,_,rfl⟩ ?_ ?_;lk;exact q;rintro done a p e j ⟨d,c,rfl⟩;obtain⟨b,g⟩:=dI e;have G:dg a<=m:=by
  unfold dg;cases e:a.getLast? with
  |none=>exact QS _
  |some l=>have:=g l (List.mem_of_getLast? e);exact this
 have dl:done.length*m<=1000000:=PL (Zm m (PL (UU j) (pR m x))) (by rw[<- VS];exact i _ (by lia));have H:=ya m done;have u:(Ta m a).length<=1000:=by unfold Ta;rw[Of,Ub];lia
 have rest:∀(v:D) (g:D->Prop),v=.int (dg a)->g (.lst true ((Ta m a).map Ra))->pJ (BZ (sj (kW 6) (sj (kW 0) BY))) [5] xE (ZM wN (kW 1) (Gb (sj (kW 0) BY))) [some (.val (.int m)),some (.val (.int t)),some (.val (.lst true ((O6 m x).map Ra))),some (.val (.int x)),some (.own ((done.flatMap (Ta m)).map Ra)),some (.val (Ra a)),some (.val v)] g:=by
  rintro v g rfl i;refine PD.comp_map (List.range' (dg a) (m - dg a)) (λ(k:Nat)=>D.int (k:Int)) (λ_=>true) (λk=>Ra (a++[k])) (λR q=>?_) (by rw[Ub,sizeLine_eq];lia) (λk j K g=>?_) (λk j _ K g=>?_) ?_;lk;rw[Bl];exact⟨⟨by lia,by lia⟩,⟨by lia,by lia⟩,q⟩;lk;exact g;unfold Ra at g ⊢;lk;rw[Q1]at g;refine⟨ZN _,?_,g⟩;rw[Of,sizeLine_eq,b];show x+1<=_
  lia
  rw[Sd.mpr (λ_ _=>rfl)];unfold Ta at i;rw[Pp]at i;exact i
 have g:∀v:D,∃xs,D.lst true ((Ta m a).map Ra)=D.lst true xs/\(List.map Ra (List.flatMap (Ta m) done)).length+xs.length<=sizeLine/\∃d c:Option Sl,([some (Sl.val (D.int m)),some (Sl.val (D.int t)),some (Sl.val (D.lst true (List.map Ra (O6 m x)))),some (Sl.val (D.int x)),some (Sl.own (List.map Ra (List.flatMap (Ta m) done)++xs)),some (Sl.val (Ra a)),some (Sl.val v)]:Ro)=[some (Sl.val (D.int m)),some (Sl.val (D.int t)),some (Sl.val (D.lst true (List.map Ra (O6 m x)))),some (Sl.val (D.int x)),some (Sl.own (List.map Ra (List.flatMap (Ta m) (done++[a])))),d,c]:=λv =>
  ⟨_,rfl,by rw[Of,Of,sizeLine_eq];lia,_,_,by rw[List.flatMap_append,Q1,List.flatMap_singleton]⟩
 lk;by_cases i:x=0;subst i;have:a=[]:=Yq b;subst this;rw[Oc (by lia)];exact rest _ _ rfl (g _);rw[Og (by lia)];have j:a ≠ []:=λe=>i (by rw[<- b,e];rfl)
 show uH (.lst true (a.map λ(k:Nat)=>D.int (k:Int))) _ _;rw[ro];refine ID j ?_;rw[Dd];exact rest _ _ (by congr 1;lia) (g _);rintro p ⟨d,c,rfl⟩;lk;exact⟨_,_,_,_,rfl⟩;rintro r ⟨o,n,d,c,rfl⟩;lk;rw[Ub];exact h
def GZ (F:ax K "value" "value" uP f fd) (C:Pn K mg κ)    : aF P w K mg base (CX1 P w) 1 f fd ["gauge", "place"] (aH K (rP κ)):=by
 refine ax.okN F Ho (by fin2) λ_ _ _ _ _ _ g=>⟨_,(ak (av (au bc (au bc (au aA (ao (dv 0) ae) (ao (dv 1) ae)) (au aA (ao (dv 0) ae) (ao (dv 1) ae))) (au aA (ao (dv 0) ae) (ao (dv 1) ae))))),?_⟩
 rintro l Q Ed ⟨k,j,i,e,d,c,rfl,h⟩;x_go;have m:∀{x y:Int},Bd 1000 x->Bd 1000 y->CM x y:=λb a=>.inr (.inr ⟨b.mono (by decide),a.mono (by decide)⟩)
 lk
 simp_all
def JG (F:ax K "side" "side" y8 f fd) (C:Pn K mg κ)  (b:Ku P w K mg base κ) (c:Am P w K mg base κ)  : aF P w K mg base (CX1 P w) 2 f fd ["gauge", "place"] (aH K (iG κ)):=by
 refine ax.okN F J3 (by fin2) λ_ _ _ _ _ _ a=>⟨_,(ak (av (aq b a (aa (aq c a (aa (dv 0) (aa (dv 1) af))) af)))),?_⟩
 rintro l Q Ed ⟨k,j,i,g,e,d,rfl,h⟩;x_go;lk
 simp_all
def Cr (F:ax K "crossed" "crossed" oR f fd) (C:Pn K mg κ)    : aF P w K mg base (CX1 P w) 1 f fd ["one", "other"] (aH K (jL κ)):=by
 refine ax.okN F CC (by fin2) λ_ _ _ _ _ _ l=>⟨_,(ak (av (aQ (aa (au bo (au aA (ao (dv 0) ae) (ao (dv 1) ae)) (au aA (ao (dv 1) ae) (ao (dv 0) ae))) (aa (au bo (au aA (ao (dv 0) ae) (ao (dv 1) ae)) (au aA (ao (dv 1) ae) (ao (dv 0) ae))) (aa (au bo (au aA (ao (dv 0) ae) (ao (dv 1) ae)) (au aA (ao (dv 1) ae) (ao (dv 0) ae))) af)))))),?_⟩
 rintro m Q Ed ⟨s,r,q,p,o,n,rfl,h⟩;x_go;obtain⟨i,g,e,d,c,b,h⟩:=h;have a:∀{x y:Int},Bd 200 x->Bd 200 y->CM x y:=λk j=>.inr (.inr ⟨k.mono (by decide),j.mono (by decide)⟩)
 lk;exact⟨a g b,a c e,a e d,a b i,a i c,a d g,Uh _ _ _,h⟩
def ED (F:ax K "facing" "facing" rD f fd) (C:Pn K mg κ)    : aF P w K mg base (CX1 P w) 1 f fd ["place", "way"] (aH K (cT κ)):=by
 refine ax.okN F E4 (by fin2) λ_ _ _ _ _ _ j=>⟨_,(ak (av (aQ (aa (b6 (au bc (au aA (ao (dv 1) ae) (ao (dv 0) ae)) (au aA (ao (dv 1) ae) (ao (dv 0) ae)))) (aa (au aA (ao (dv 1) ae) (ao (dv 0) ae)) (aa (au aA (ao (dv 1) ae) (ao (dv 0) ae)) af)))))),?_⟩
 rintro k Q Ed ⟨i,g,e,w,rfl,h⟩;x_go;obtain⟨b,d,c,a,h⟩:=h;unfold Ov;lk;exact⟨RE a.x d,RE a.y c,RE a.x b,RE a.y b,Uh _ _ _,h⟩
def zZ (F:ax K "place_of" "place_of" mR f fd) (C:Pn K mg κ)    : aF P w K mg base (CX1 P w) 1 f fd ["spot"] (aH K (lK κ)):=by
 refine ax.okN F Ac (by fin2) λ_ _ _ _ _ _ a=>⟨_,(ak (av (aQ (aa ae (aa (ao (dv 0) ae) (aa (ao (dv 0) ae) af)))))),?_⟩
 rintro b Q Ed ⟨d,rfl,h⟩;x_go;unfold iO at h;obtain⟨p,rfl,q⟩:=h;unfold Ov;lk;exact⟨Uh _ _ _,q⟩
def GY (F:ax K "swing" "swing" uO f fd) (C:Pn K mg κ)    : aF P w K mg base (CX1 P w) 1 f fd ["one", "two", "three"] (aH K (mZ κ)):=by
 refine ax.okN F Hn (by fin2) λ_ _ _ _ _ _ l=>⟨_,(ak (av (au bc (au bc (au aA (ao (dv 0) ae) (au bo (au aA (ao (dv 1) ae) (ao (dv 2) ae)) (au aA (ao (dv 2) ae) (ao (dv 1) ae)))) (au aA (ao (dv 1) ae) (au bo (au aA (ao (dv 2) ae) (ao (dv 0) ae)) (au aA (ao (dv 0) ae) (ao (dv 2) ae))))) (au aA (ao (dv 2) ae) (au bo (au aA (ao (dv 0) ae) (ao (dv 1) ae)) (au aA (ao (dv 1) ae) (ao (dv 0) ae))))))),?_⟩
 rintro u Q Ed ⟨L,J,I,H,G,E,B,A,z,rfl,h⟩;x_go;obtain⟨t,i,g,n,e,d,m,c,b,h⟩:=h;have a:∀{x y:Int},Bd 1000 x->Bd 1000 y->CM x y:=λj k=>.inr (.inr ⟨j.mono (by decide),k.mono (by decide)⟩)
 have k:∀{x p q r s:Int},Bd 1000 x->Bd 1000 p->Bd 1000 q->Bd 1000 r->Bd 1000 s->CM x (p*q - r*s):=λj q p l o=>.inr (.inr ⟨j.mono (by decide),((q.mul p).sub (l.mul o)).mono (by decide)⟩)
 lk;exact⟨a e b,a c d,k t e b c d,a c g,a i b,k n c g i b,a i d,a e g,k m i d e g,h⟩
def GS (F:ax K "arrow" "arrow" uL f fd) (C:Pn K mg κ)    : aF P w K mg base (CX1 P w) 1 f fd ["one", "other"] (aH K (ku κ)):=by
 refine ax.okN F Hl (by fin2) λ_ _ _ _ _ _ i=>⟨_,(ak (av (aQ (aa (au bo (au aA (ao (dv 0) ae) (ao (dv 1) ae)) (au aA (ao (dv 1) ae) (ao (dv 0) ae))) (aa (au bo (au aA (ao (dv 0) ae) (ao (dv 1) ae)) (au aA (ao (dv 1) ae) (ao (dv 0) ae))) af))))),?_⟩
 rintro j Q Ed ⟨p,o,n,m,l,k,rfl,h⟩;x_go;obtain⟨b,g,e,a,d,c,h⟩:=h;lk;exact⟨RE b d,RE a g,RE b c,RE a e,TL _ _,h⟩
def JI (F:ax K "turn" "turn" za f fd) (C:Pn K mg κ)    : aF P w K mg base (CX1 P w) 1 f fd ["one", "other"] (aH K (u0 κ)):=by
 refine ax.okN F J5 (by fin2) λ_ _ _ _ _ _ c=>⟨_,(ak (av (au bo (au aA (ao (dv 0) ae) (ao (dv 1) ae)) (au aA (ao (dv 1) ae) (ao (dv 0) ae))))),?_⟩
 rintro d Q Ed ⟨a,b,rfl,h⟩;x_go;obtain⟨b,a,h⟩:=h;unfold Ov;lk;exact⟨RE b.x a.y,RE a.x b.y,h⟩
def JD (F:ax K "back" "back" y7 f fd) (C:Pn K mg κ)    : aF P w K mg base (CX1 P w) 1 f fd ["way"] (aH K (l9 κ)):=by
 refine ax.okN F J2 (by fin2) λ_ _ _ _ _ _ a=>⟨_,(ak (av (aQ (aa (b6 (ao (dv 0) ae)) (aa (b6 (ao (dv 0) ae)) af))))),?_⟩
 rintro b Q Ed ⟨w,rfl,h⟩;x_go;unfold pX at h;unfold Ov at h ⊢;lk;exact⟨TL _ _,h⟩
def Cs (F:ax K "left_of" "left_of" oS f fd) (C:Pn K mg κ)    : aF P w K mg base (CX1 P w) 1 f fd ["way"] (aH K (jM κ)):=by
 refine ax.okN F CF (by fin2) λ_ _ _ _ _ _ a=>⟨_,(ak (av (aQ (aa (b6 (ao (dv 0) ae)) (aa (ao (dv 0) ae) af))))),?_⟩
 rintro b Q Ed ⟨w,rfl,h⟩;x_go;unfold jF at h;unfold Ov at h ⊢;lk;exact⟨TL _ _,h⟩
def GU (F:ax K "chain" "chain" uM f fd) (C:Pn K mg κ)  (b:Iy P w K mg base κ) (c:mg "len" = none):aF P w K mg base (CX1 P w) 2 f fd ["places"] (aH K (rK κ)):=by
 refine ax.okN F rF (by fin2) λ_ _ _ _ _ _ a=>⟨_,(aj (gE 1 rF.nd af) (aj (bJ PassesOwn.never rfl (aN (dv 0)) (aZ 2 rF.nd) (aj (mw PassesOwn.never (AH 1 (Sk.pt (xV (aC wK (az bg (by rfl) c Rr (aa (dv 1) af)) ae) (uv (aC wL (aq b a (aa (ao (dv 1) (b6 ae)) (aa (ao (dv 1) (b6 ae)) (aa (dv 2) af)))) ae))))) (ak (Ln 1))) (ak (iS 1 (dv 2))))) (cG 1 (ak (av (dv 1)))))),?_⟩
 rintro t Q Ed ⟨a,rfl,h⟩;x_go;obtain⟨s,i,h⟩:=h;lk;refine⟨QS _,?_⟩;refine PD.AO a Pm (λdone b=>∃v:Option Sl,b=[some (.val (.lst false (a.map Pm))),some (.own ((bF [] done).reverse.map Pm)),v]/\(bF [] done).length<=done.length/\∀p∈bF [] done,SB p) ?_ ?_ ?_ ?_;intro R c;lk;exact c;exact⟨none,rfl,O5 _,by simp[bF]⟩
 ·rintro done x q c QW ⟨v,rfl,e,d⟩;refine⟨λm b=>∃st:yau,b=[some (.val (.lst false (a.map Pm))),some (.own (st.reverse.map Pm)),some (.val (Pm x))]/\m=st.length/\cB st x=cB (bF [] done) x/\st.length<=done.length/\∀p∈st,SB p,⟨_,_,rfl,rfl,rfl,e,d⟩,?_⟩;rintro m b ⟨st,rfl,rfl,j,o,g⟩;have d:cB st x=st->((st.reverse.map Pm).length<sizeLine/\∃v:Option Sl,([some (.val (.lst false (a.map Pm))),some (.own (st.reverse.map Pm++[Pm x])),some (.val (Pm x))]:Ro)=[some (.val (.lst false (a.map Pm))),some (.own ((bF [] (done++[x])).reverse.map Pm)),v]/\(bF [] (done++[x])).length<=(done++[x]).length/\∀p∈bF [] (done++[x]),SB p):=λe=>by
   have a:bF [] (done++[x])=x::st:=by rw[qr,<- j,e]
   rw[a];refine⟨by rw[Of,Ul,sizeLine_eq];lia,_,by rw[Zu,Q1];rfl,by simp;lia,λp e=>?_⟩;rcases OK.mp e with z|z;rw[z];exact i x c;exact g p z
  lk;rcases st with _|⟨b,_|⟨a,r⟩⟩;exact d rfl;exact d rfl
  ·rw[Og (by simp;lia)];have k:(b::a::r).reverse.map Pm=r.reverse.map Pm++[Pm a]++[Pm b]:=by simp
   have n:=g a (by simp);have m:=g b (by simp);have l:=i x c;have c:Bd 1000 1:=by unfold Bd;decide
   refine⟨_,by rw[k];exact Dh _ _ _,_,by rw[k];exact FW _ _,?_⟩;show mZ κ [T3 1 a.1 a.2,T3 1 b.1 b.2,T3 1 x.1 x.2] _ _;rw[qC,mK];refine⟨c,n.x.mono (by decide),n.y.mono (by decide),c,m.x.mono (by decide),m.y.mono (by decide),c,l.x.mono (by decide),l.y.mono (by decide),?_⟩;refine⟨_,rfl,?_⟩;by_cases c:sw 1 a.1 a.2 1 b.1 b.2 1 x.1 x.2<=0
   ·have i:cr a b x<=0:=c;rw[Og (by simpa using c)];refine⟨by simp,(a::r).length,by simp,a::r,?_,rfl,?_,?_,λp e=>g p (Pz _ e)⟩;simp
    ·rw[<- j];conv=>rhs;unfold cB
     rw[Og i]
    simp at o ⊢;lia
   have i:¬cr a b x<=0:=c;rw[Oc (by simpa using c)];exact d (by unfold cB;rw[Oc i])
 rintro q ⟨v,rfl,_⟩;lk;exact h
def JF (F:ax K "hull" "hull" tK f fd) (C:Pn K mg κ)  (b:Iu P w K mg base κ) (d:sd P w K mg base κ) (g:mg "len" = none) (c:mg "set" = none) (e:mg "sorted" = none):aF P w K mg base (CX1 P w) 3 f fd ["spots"] (aH K (me κ)):=by
 refine ax.okN F Bp (by fin2) λ_ _ _ _ _ _ a=>⟨_,(aj (gF 1 Bp.nd (by rfl) (by exact aX (osc:=ai tK) (xs:=["spot"]) (ns:=[]) (by decide +kernel)) aP.nil (aN ((B4 rfl (by exact LO a) (by rfl) e (by rfl) c (dv 0))).TZ) (λ_ _ _ _ _=>bB) (λ_ _ _ _ _=>(aq d a (aa (dv 0) af)))) (aj (aR (aC fP (az bg (by rfl) g Rr (aa (dv 1) af)) ae) (ak (av (dv 1))) aG) (ak (av (au bc (R3.TZ (eK (aq b a (aa (dv 1) af)) cf (cw (b6 ae)))) (R3.TZ (eK (aq b a (aa (R3.TZ (xQ (dv 1))) af)) cf (cw (b6 ae))))))))),?_⟩
 rintro o Q Ed ⟨c,rfl,h⟩;x_go;unfold jW at h;obtain⟨n,i,h⟩:=h;lk;refine xx (P:=λa=>cO a c/\a.length<=c.length) Ov Pm (λR g=>?_) (λa b=>by rw[sizeLine_eq];omega) (λa b x m K k=>?_) λa b=>?_
 refine⟨false,c.map VI,by rw[Ik],by rw[Of];omega,λk d=>?_,λj c=>?_⟩;obtain⟨p,_,e⟩:=OZ.mp d;rw[<- e];exact List.cons_ne_nil _ _;obtain⟨a,rfl,b⟩:=EV c;rw[<- Ik];exact⟨true,_,rfl,g a ⟨b,rn b⟩⟩;lk;exact⟨x,nj x,k⟩;have l:=b.2;have g:∀p∈a,SB p:=λp e=>i p ((b.1.2 p).mp e)
 have d:=h a b.1 b.2;have c:=fW [] a;have b:=fW [] a.reverse;simp only[Yy,Ul]at c b;unfold aO at d;lk;rw[Of];split;rename_i c;rw[Og (by omega)]at d;exact d;rename_i c;rw[Oc (by omega)]at d;refine⟨by omega,g,?_⟩;rw[<- List.map_reverse,nk,qB,mG];refine⟨by rw[Ul];omega,λp e=>g p (zDF.mp e),true,_,rfl,?_⟩;rw[xC,xC];refine⟨?_,?_⟩;rw[Wu,Wu,Of,Of,Ul,Ul,sizeLine_eq];omega;rw[<- List.map_dropLast,<- List.map_dropLast,<- Q1];exact d
def uG (F:ax K "thin_bounds" "thin_bounds" jt f fd) (C:Pn K mg κ)  (d:Al P w K mg base κ) (c:Kr P w K mg base κ) (b:FI P w K mg base κ) (e:C5 P w K mg base κ)  : aF P w K mg base (CX1 P w) 2 f fd ["one", "other"] (aH K (iH κ)):=by
 refine ax.okN F iu (by fin2) λ_ _ _ _ _ _ a=>⟨_,(aj (aE 2 iu.nd (qL (aC (Co (by exact a.units)) (dv 0) (dv 1)) (aq d a (aa (dv 0) (aa (dv 1) af))) (aQ (aa ae (aa ae af))))) (aj (aE 3 iu.nd (aq e a (aa (dv 2) af))) (ak (av (bO (aa (aq b a (aa (dv 0) (aa (dv 2) af))) (aa (aq b a (aa (dv 1) (aa (aq c a (aa (dv 2) af)) af))) (aa (aq b a (aa (dv 0) (aa (dv 3) af))) (aa (aq b a (aa (dv 0) (aa (aq c a (aa (dv 3) af)) af))) af))))))))),?_⟩
 rintro r Q Ed ⟨a,b,rfl,h⟩;x_go;obtain⟨l,k,h⟩:=h;have j:Bd 200 1:=by unfold Bd;decide
 have q:∀(p w:Sp) (K:D->Prop),SB p->WB 62 w->K (Ou (bZ p w))->cT κ [Pm p,Ov w] K λ_=>False:=λp w K d c e=>by show cT κ [T3 1 p.1 p.2,Ov w] K _;rw[ph,kM];exact⟨j,d.x.mono (by decide),d.y.mono (by decide),c.mono (by decide),e⟩
 have n:∀{w:Sp},WB 62 w->WB 62 (T5 w):=λc=>⟨nW c.x,nW c.y⟩
 have m:∀{w:Sp},WB 62 w->WB 62 (Tb w):=λc=>⟨nW c.y,c.x⟩
 have i:∀w:Sp,WB 62 w->Q (.lst true ([bZ a w,bZ b (T5 w),bZ a (Tb w),bZ a (T5 (Tb w))].map Ou))->jM κ [Ov w] (λd=>cT κ [Pm a,Ov w] (λx=>l9 κ [Ov w] (λe=>cT κ [Pm b,aB e] (λg=>cT κ [Pm a,aB d] (λe=>l9 κ [aB d] (λd=>cT κ [Pm a,aB d] (λd=>[x,g,e,d].length<=sizeLine/\Q (D.lst true [x,g,e,d])) λ_=>False) λ_=>False) λ_=>False) λ_=>False) λ_=>False) λ_=>False) λ_=>False:=λw c o=>by grind [nI,tQ,nj,sz4]
 unfold fC aM at h;lk;refine⟨(Ex a).ok,(Ex b).ok,?_⟩;by_cases c:a=b;rw[Og c]at h;rw[Oc (by rw[c,j7];simp)];exact⟨TL _ _,i (1,0) ⟨by unfold Bd;decide,by unfold Bd;decide⟩ h⟩;rw[Oc c]at h;rw[Og (by rw[Lv];simpa using c)];show ku κ [T3 1 a.1 a.2,T3 1 b.1 b.2] _ _;rw[lA,kh];refine⟨j,l.x.mono (by decide),l.y.mono (by decide),j,k.x.mono (by decide),k.y.mono (by decide),?_⟩;have d:=FT l k;unfold aM at d;rw[Oc c]at d;exact i (1*b.1 - 1*a.1,1*b.2 - 1*a.2) d h
def Ey (F:ax K "bounds" "bounds" mL f fd) (C:Pn K mg κ)  (c:C3 P w K mg base κ) (d:wk P w K mg base κ) (b:mg "len" = none) (e:mg "range" = none):aF P w K mg base (CX1 P w) 3 f fd ["corners"] (aH K (oZ κ)):=by
 refine ax.okN F E3 (by fin2) λ_ _ _ _ _ _ a=>⟨_,(aj (aR (aC fP (az bg (by rfl) b Rr (aa (dv 0) af)) ae) (ak (av (aq d a (aa (ao (dv 0) ae) (aa (ao (dv 0) (b6 ae)) af))))) aG) (ak (av (bI (by rfl) (by exact aX (osc:=ai mL) (xs:=["index"]) (ns:=["corners"]) (by decide +kernel)) (aP.cons 0 aP.nil) (iT (by rfl) e (aa (az bg (by rfl) b Rr (aa (dv 0) af)) af)) (λ_ _ _ _ _=>bB) (λ_ _ _ _ _=>(aq c a (aa (ao (dv 1) (au bo (dv 0) ae)) (aa (ao (dv 1) (dv 0)) af)))))))),?_⟩
 rintro n Q Ed ⟨a,rfl,h⟩;x_go;obtain⟨b,l,c,h⟩:=h;unfold aI at h;have e:∀i,i<a.length->a[i]?=some (a.getD i (0,0)):=by grind
 have d:∀i,i<a.length->SB (a.getD i (0,0)):=λi m=>c _ (by simp_all)
 lk;rw[Of];by_cases c:a.length<3;rw[Og (by lia)];rw[Og c]at h;refine⟨_,bf (j:=0) (by rw[PO,e 0 b];rfl),_,Dg (by rw[Of];exact b) (by rw[Of,PO,e _ (by lia)];rfl),?_⟩;rw[nh,nh,jA,ft];exact⟨d 0 b,d _ (by lia),h⟩;rw[Oc (by lia)];rw[Oc c]at h;refine PD.comp_map (List.range' 0 a.length) (λ(k:Nat)=>D.int (k:Int)) (λ_=>true) (λk=>Ou (eG (bH a k) (a.getD k (0,0)))) (λR q=>?_) (by grind [List.length_range',sizeLine_eq]) (λk g K c=>?_) (λk g _ K c=>?_) ?_;lk;rw[Of,yZ];exact⟨⟨by lia,by lia⟩,q⟩;lk;exact c;have i:k<a.length:=by grind
 have g:(k+a.length - 1) % a.length<a.length:=VU _ b;have Xv:Qw (a.map Pm) ((k:Int) - 1)=some (Pm (bH a k)):=by have:=xi (a.map Pm) k 1 (by simp_all) (by rw[Of];exact b);rw[Of,PO,e _ g]at this;exact this
 have YR:Qw (a.map Pm) (k:Int)=some (Pm (a.getD k (0,0))):=bf (by simp_all);have e:SB (bH a k):=d _ g;have g:=d k i;have b:Bd 200 1:=by unfold Bd;decide
 lk;refine⟨_,Xv,_,YR,?_⟩;show jL κ [T3 1 (bH a k).1 (bH a k).2,T3 1 (a.getD k (0,0)).1 (a.getD k (0,0)).2] _ _;rw[nG,jE];exact⟨b,e.x.mono (by decide),e.y.mono (by decide),b,g.x.mono (by decide),g.y.mono (by decide),c⟩;rw[Sd.mpr (λ_ _=>rfl)];rw[Pp]at h;exact h
def EE (F:ax K "length" "length" rE f fd) (C:Pn K mg κ)   (a:mg "abs" = none):aF P w K mg base (CX1 P w) 1 f fd ["way"] (aH K (pA κ)):=by
 refine ax.okN F E5 (by fin2) λ_ _ _ _ _ _ b=>⟨_,(ak (av (au bc (az nX (by rfl) a boot_abs (aa (ao (dv 0) ae) af)) (az nX (by rfl) a boot_abs (aa (ao (dv 0) ae) af))))),?_⟩
 rintro c Q Ed ⟨w,rfl,h⟩;x_go;unfold Ov;lk;exact h
def tD (F:ax K "are_opposite" "are_opposite" ig f fd) (C:Pn K mg κ)  (b:C9 P w K mg base κ)  : aF P w K mg base (CX1 P w) 2 f fd ["one", "other"] (aH K (gQ κ)):=by
 refine ax.okN F tL (by fin2) λ_ _ _ _ _ _ a=>⟨_,(ak (av (oh (j5 bS (aq b a (aa (dv 0) (aa (dv 1) af))) ae) (oo (j5 fP (au bc (au aA (ao (dv 0) ae) (ao (dv 1) ae)) (au aA (ao (dv 0) ae) (ao (dv 1) ae))) ae))))),?_⟩
 rintro g Q Ed ⟨a,b,rfl,h⟩;x_go;unfold d9 at h;obtain⟨e,d,h⟩:=h;lk;refine⟨e,d,?_⟩;by_cases c:tn a b=0;rw[Og c];unfold Ov;lk;refine⟨RE e.x d.x,RE e.y d.y,?_⟩;have e:decide (tn a b=0/\OO a b<0)=decide (a.1*b.1+a.2*b.2<0):=by rw[decide_eq_decide];exact⟨λq=>q.2,λq=>⟨c,q⟩⟩
 rw[e]at h;exact h;rw[Oc c];rw[decide_eq_false (λq=>c q.1)]at h;exact h
def qg (F:ax K "balance_of_two" "balance_of_two" fX f fd) (C:Pn K mg κ)  (c:t8 P w K mg base κ) (b:w4 P w K mg base κ) (d:w5 P w K mg base κ)  : aF P w K mg base (CX1 P w) 3 f fd ["one", "other"] (aH K (fG κ)):=by
 refine ax.okN F qi (by fin2) λ_ _ _ _ _ _ a=>⟨_,(aj (aR (bK (bQ (aq c a (aa (dv 0) (aa (dv 1) af))))) (ak (av dA)) aG) (ak (av (aq d a (aa (bO (aa (aq b a (aa (dv 1) af)) (aa (aq b a (aa (dv 0) af)) af))) af))))),?_⟩
 rintro j Q Ed ⟨a,b,rfl,h⟩;x_go;obtain⟨d,c,h⟩:=h;lk;refine⟨d,c,?_⟩;unfold kU at h;split;rename_i c;rw[Og c]at h;have g:a≠(0,0):=λe=>by have:=c.2;unfold OO at this;simp_all
 have i:=qS g;have e:Bd 402 (br a):=uz d;refine⟨TL _ _,?_⟩;show i7 κ [D.lst false ([br b,br a].map D.int)] _ _;rw[kB,iW];have g:=Jg (d:=br b) (x:=br a) (by lia);exact⟨by simp,by show((Int.gcd ((Int.gcd 0 (br b):Nat):Int) (br a):Nat):Int)≠0;lia,Gv e (by lia),h⟩;rename_i c;rw[Oc c]at h;exact h
def nL (F:ax K "balance_of_three" "balance_of_three" cS f fd) (C:Pn K mg κ)  (e:w5 P w K mg base κ) (b:C9 P w K mg base κ) (d:mg "max" = none) (c:mg "min" = none):aF P w K mg base (CX1 P w) 3 f fd ["one", "two", "three"] (aH K (dW κ)):=by
 refine ax.okN F dS (by fin2) λ_ _ _ _ _ _ a=>⟨_,(aj (aE 3 dS.nd (bO (aa (aq b a (aa (dv 1) (aa (dv 2) af))) (aa (aq b a (aa (dv 2) (aa (dv 0) af))) (aa (aq b a (aa (dv 0) (aa (dv 1) af))) af))))) (aj (aR (aC fP (az (IH rfl) (by rfl) d boot_max (aa (dv 3) af)) ae) (ak (gF 3 dS.nd (by rfl) (by exact aX (osc:=ai cS) (xs:=["each"]) (ns:=[]) (by decide +kernel)) aP.nil (aN (dv 3)) (λ_ _ _ _ _=>bB) (λ_ _ _ _ _=>(b6 (dv 0))))) aG) (aj (aR (aC wL (az (II rfl) (by rfl) c boot_min (aa (dv 3) af)) ae) (ak (av dA)) aG) (ak (av (aq e a (aa (dv 3) af))))))),?_⟩
 rintro E Q Ed ⟨a,b,e,rfl,h⟩;x_go;obtain⟨d,c,g,h⟩:=h;have i:Bd 801 (tn a b):=(d.x.mul c.y).sub (c.x.mul d.y);unfold jg at h;generalize e1:tn b e=x at *;generalize e2:tn e a=y at *;generalize e3:tn a b=z at *;have b:∀u v w:Int,Bd 801 w->0<w->Q (.lst true ((c8 [u,v,w]).map D.int))->i7 κ [D.lst false ([u,v,w].map D.int)] Q λ_=>False:=λu v w e j q=>by
  rw[kB,iW];have a:w≠0:=by lia
  have B:0<Int.gcd ((Int.gcd ((Int.gcd 0 u:Nat):Int) v:Nat):Int) w:=Int.gcd_pos_iff.mpr (.inr a);exact⟨by simp,by show((Int.gcd ((Int.gcd ((Int.gcd 0 u:Nat):Int) v:Nat):Int) w:Nat):Int)≠0;lia,(DZ e a).mono (by decide),q⟩
 lk;refine⟨c,g,g,d,d,c,?_⟩;rw[e1,e2,e3];refine⟨Uh _ _ _,.inr ⟨true,[x,y,z],rfl,by simp,λm c a=>?_⟩⟩;have A:=a x (by simp);have t:=a y (by simp);have s:=a z (by simp);have r:m=x∨m=y∨m=z:=by simpa using c
 split;rename_i c;refine PD.comp_map [x,y,z] D.int (λ_=>true) (λk=>.int (-k)) (λR q=>?_) (by rw[sizeLine_eq];simp) (λk d K a=>?_) (λk d _ K a=>?_) ?_;lk;exact q;lk;exact a;lk;exact a;refine⟨true,[-x,-y,-z],rfl,by simp,λn d a=>?_⟩;have e:n=-x∨n=-y∨n=-z:=by simpa using d
 rw[Oc (by lia)]at h ⊢;rw[Og (by lia)]at h;exact b _ _ _ (nW i) (by lia) h;rename_i c;refine⟨true,[x,y,z],rfl,by simp,λn d a=>?_⟩;have e:n=x∨n=y∨n=z:=by simpa using d
 have p:=a x (by simp);have o:=a y (by simp);have l:=a z (by simp);split;rename_i d;rw[Oc (by lia),Oc (by lia)]at h;exact h;rename_i d;rw[Og (by lia)]at h;exact b _ _ _ i (by lia) h
def Cp (F:ax K "balance" "balance" oQ f fd) (C:Pn K mg κ)  (e:nP P w K mg base κ) (d:qG P w K mg base κ) (c:w4 P w K mg base κ) (b:mg "len" = none):aF P w K mg base (CX1 P w) 4 f fd ["ways"] (aH K (mT κ)):=by
 refine ax.okN F CA (by fin2) λ_ _ _ _ _ _ a=>⟨_,(aj (aR (aC bS (az bg (by rfl) b Rr (aa (dv 0) af)) ae) (ak (av (qL (aC bS (aq c a (aa (ao (dv 0) ae) af)) ae) (bO (aa ae af)) dA))) aG) (aj (aR (aC bS (az bg (by rfl) b Rr (aa (dv 0) af)) ae) (ak (av (aq d a (aa (ao (dv 0) ae) (aa (ao (dv 0) ae) af))))) aG) (ak (av (aq e a (aa (ao (dv 0) ae) (aa (ao (dv 0) ae) (aa (ao (dv 0) ae) af)))))))),?_⟩
 rintro j Q Ed ⟨a,rfl,h⟩;x_go;obtain⟨c,g,i,h⟩:=h;rcases a with _|⟨a,_|⟨b,_|⟨e,_|⟨z,r⟩⟩⟩⟩;simp at c;have d:Q (oL (mi a)):=h;unfold mi at d;lk;by_cases c:br a=0;rw[Og c]at d ⊢;exact⟨ZN _,d⟩;rw[Oc c]at d ⊢;exact d;have d:Q (oL (kU a b)):=h;lk
 simp_all
 have d:Q (oL (jg a b e)):=h;lk
 simp_all
 simp at g
 lia
def Cv (F:ax K "reduced" "reduced" oU f fd) (C:Pn K mg κ)  (b:jZ P w K mg base κ)  : aF P w K mg base (CX1 P w) 2 f fd ["triple", "lead"] (aH K (mY κ)):=by
 refine ax.okN F mS (by fin2) λ_ _ _ _ _ _ a=>⟨_,(aj (aE 2 mS.nd (aq b a (aa (aq b a (aa (ao (dv 0) ae) (aa (ao (dv 0) ae) af))) (aa (ao (dv 0) ae) af)))) (aj (aR (aC fP (dv 1) ae) (ak (aE 2 mS.nd (b6 (dv 2)))) aG) (ak (av (aQ (aa (au hW (ao (dv 0) ae) (dv 2)) (aa (au hW (ao (dv 0) ae) (dv 2)) (aa (au hW (ao (dv 0) ae) (dv 2)) af)))))))),?_⟩
 rintro i Q Ed ⟨x,y,z,l,rfl,h⟩;x_go;obtain⟨d,g,b,e,h⟩:=h;have c:=PM.xT (l:=l) d;have a:=(KA (l:=l) d g b e).mono (show 4000<=8000 by decide);lk;have b:((Int.gcd (Int.gcd x y:Int) z:Nat):Int)=(PM.g3 x y z:Int):=rfl;rw[b];have b:∀g:Int,g=PM.Qp x y z l->CD x g/\CD y g/\CD z g/\([D.int (x.fdiv g),.int (y.fdiv g),.int (z.fdiv g)]:yas).length<=sizeLine/\Q (.tup [.int (x.fdiv g),.int (y.fdiv g),.int (z.fdiv g)]):=by rintro g rfl;exact⟨⟨c,a⟩,⟨c,a⟩,⟨c,a⟩,Uh _ _ _,h⟩
 by_cases a:l<0;rw[Og (by simp_all)];exact b _ (by unfold PM.Qp;simp_all);rw[Oc (by simp_all)];exact b _ (by unfold PM.Qp;rw[Oc a])
def GX (F:ax K "place" "place" uN f fd) (C:Pn K mg κ)  (b:C8 P w K mg base κ)  : aF P w K mg base (CX1 P w) 3 f fd ["by", "x", "y"] (aH K (rO κ)):=by
 refine ax.okN F Hm (by fin2) λ_ _ _ _ _ _ a=>⟨_,(aj (aR (aC bS (dv 0) ae) (ak mv) aG) (ak (av (aq b a (aa (aQ (aa (dv 0) (aa (dv 1) (aa (dv 2) af)))) (aa (dv 0) af)))))),?_⟩
 rintro e Q Ed ⟨b,x,y,rfl,h⟩;x_go;obtain⟨a,d,c,b,h⟩:=h;lk;rw[Oc a];exact⟨Uh _ _ _,λz=>a z.1,d,c,b,h⟩
def Ct (F:ax K "mixture" "mixture" iY f fd) (C:Pn K mg κ)  (Rb:Al P w K mg base κ) (Qa:vg P w K mg base κ) (O8:pG P w K mg base κ) (Pq:sd P w K mg base κ) (U:mg "len" = none):aF P w K mg base (CX1 P w) 5 f fd ["spots", "place"] (aH K (jN κ)):=by
 refine ax.okN F gO (by fin2) λ_ _ _ _ _ _ C=>⟨_,(aj (aR (aC bS (az bg (by rfl) U Rr (aa (dv 0) af)) ae) (ak mv) aG) (aj (aE 2 gO.nd (bI (by rfl) (by exact aX (osc:=ai iY) (xs:=["spot"]) (ns:=["place"]) (by decide +kernel)) (aP.cons 1 aP.nil) (aN (dv 0)) (λ_ _ _ _ _=>bB) (λ_ _ _ _ _=>(aq Rb C (aa (dv 1) (aa (aq Pq C (aa (dv 0) af)) af)))))) (aj (bJ PassesOwn.never rfl (D6 (aQ (aa ae (aa ae (aa ae af))))) (aZ 3 gO.nd) (ak (bJ PassesOwn.never rfl (aN (aq O8 C (aa (az bg (by rfl) U Rr (aa (dv 0) af)) (aa (dv 3) af)))) (aZ 4 gO.nd) (aj (aE 5 gO.nd (aq Qa C (aa (bI (by rfl) (by exact aX (osc:=ai iY) (xs:=["number"]) (ns:=["ways"]) (by decide +kernel)) (aP.cons 2 aP.nil) (aN (dv 4)) (λ_ _ _ _ _=>bB) (λ_ _ _ _ _=>(ao (dv 1) (dv 0)))) af))) (ak (aR (aC pU (dv 5) dA) (ak (av (aQ (aa ot (aa (dv 4) (aa (dv 5) af)))))) aG)))))) (ak mv)))),?_⟩
 rintro ds Q Ed ⟨a,d,g,e,rfl,h⟩;x_go;unfold gI at h;obtain⟨hz,hl,O,t,res,o,h⟩:=h;have o1:Bd 200 1:=by unfold Bd;decide
 have Xu:bW (a.map (Om (d,g,e))) (cF a.length)=bW (a.map (Om (d,g,e))) (uI a.length 0):=by rw[Hf]
 have Y:∀w∈a.map (Om (d,g,e)),WB 400 w:=λw A=>by obtain⟨p,E,rfl⟩:=OZ.mp A;have B:=O p E;refine⟨?_,?_⟩;show Bd 400 (d*p.1 - 1*g);rw[Uq];exact Bd.mono (m:=161) ((t.b.mul B.x).sub t.x) (by decide);show Bd 400 (d*p.2 - 1*e);rw[Uq];exact Bd.mono (m:=161) ((t.b.mul B.y).sub t.y) (by decide)
 lk;rw[Of,Oc (by lia)];refine PD.comp_map a Ov (λ_=>true) (λp=>Ov (Om (d,g,e) p)) (λR q=>?_) (by rw[sizeLine_eq];lia) (λp E K u=>?_) (λp E _ K u=>?_) ?_;lk;exact q;lk;exact u;have B:=O p E;lk;refine⟨p,rfl,?_⟩;show ku κ [T3 d g e,T3 1 p.1 p.2] _ _;rw[lA,kh];exact⟨t.b.mono (by decide),t.x.mono (by decide),t.y.mono (by decide),o1,B.x.mono (by decide),B.y.mono (by decide),u⟩;rw[Sd.mpr (λ_ _=>rfl)];have em:a.map (λp=>Ov (Om (d,g,e) p))=(a.map (Om (d,g,e))).map Ov:=by rw[Pp];rfl
 rw[em];have wl:(a.map (Om (d,g,e))).length=a.length:=Of _;generalize a.map (Om (d,g,e))=b at *;refine PD.bE [1,2,3] (λ(k:Nat)=>D.int (k:Int)) (λj H=>∃I n l:Option Sl,H=[some (.val (.lst false (a.map Ov))),some (.val (T3 d g e)),some (.val (.lst true (b.map Ov))),I,n,l]/\bW b (cF a.length)=bW b (uI a.length j)) (λR q=>?_) ⟨none,none,none,rfl,Xu⟩ ?_ ?_;lk;exact⟨Uh _ _ _,q⟩;rintro j s J G ⟨I,n,l,rfl,c⟩;have r:j<3/\s=j+1:=by
  rcases j with _|_|_|j;simp at G;lia;simp at G;lia;simp at G;lia;simp at G
 obtain⟨r,rfl⟩:=r;rw[EW _ r]at c;lk;refine PD.bE (O6 a.length (j+1)) Ra (λi H=>∃n l:Option Sl,H=[some (.val (.lst false (a.map Ov))),some (.val (T3 d g e)),some (.val (.lst true (b.map Ov))),some (.val (.int ((j+1:Nat):Int))),n,l]/\bW b (cF a.length)=bW b ((O6 a.length (j+1)).drop i++uI a.length (j+1))) (λR q=>?_) ⟨n,l,rfl,c⟩ ?_ ?_;lk;exact⟨a.length,j+1,by rw[Of],rfl,by lia,by lia,PL (Zo hl (j+1)) (PL (W9 (by decide) (show j+1<=3 by lia)) (by decide)),q⟩;rintro i x J N ⟨n,l,rfl,c⟩;obtain⟨Wl,ei⟩:=QH.mp N;rw[WY Wl,ei,UR,Em]at c;obtain⟨pl,M⟩:=dI (Ql N);have T:∀k,k<b.length->b[k]?=some (b.getD k (0,0)):=λk y=>by rw[Py,O2 y];rfl
 lk;refine PD.comp_map x (λ(k:Nat)=>D.int (k:Int)) (λ_=>true) (λk=>Ov (b.getD k (0,0))) (λR q=>?_) (by rw[sizeLine_eq];lia) (λk y K u=>?_) (λk y _ K u=>?_) ?_;unfold Ra;lk;exact q;lk;exact u;lk;exact⟨_,bf (by rw[PO,T k (by have:=M k y;lia)];rfl),u⟩;rw[Sd.mpr (λ_ _=>rfl)];have ep:x.map (λk=>Ov (b.getD k (0,0)))=(SY b x).map Ov:=by unfold SY;rw[Pp];rfl
 have lp:(SY b x).length=j+1:=by unfold SY;rw[Of,pl]
 rw[ep,bq,cq,ju,gH];refine⟨by lia,by lia,λw A=>?_,?_⟩;unfold SY at A;obtain⟨k,y,rfl⟩:=OZ.mp A;exact Y _ (Ql (T k (by have:=M k y;lia)));cases Zc:dO (SY b x)with
 |none =>
  rw[Zc]at c;rw[Oc (show¬dZ (oL none)=false by decide)];exact⟨_,_,rfl,c⟩
 |some L =>
  rw[Zc]at c;have z:bW b (cF a.length)=some (x,L):=c;rw[o]at z;cases z;rw[Og (show dZ (oL (some L))=false from rfl)];exact⟨Uh _ _ _,h⟩
 rintro J ⟨n,l,rfl,c⟩;rw[List.drop_length,U9]at c;exact⟨_,_,_,rfl,c⟩;rintro J ⟨I,n,l,rfl,c⟩;have z:bW b (cF a.length)=none:=c;rw[o]at z;cases z
def rf (F:ax K "place_between" "place_between" gK f fd) (C:Pn K mg κ)  (c:Iw P w K mg base κ) (b:Am P w K mg base κ)  : aF P w K mg base (CX1 P w) 4 f fd ["one", "other", "gauge"] (aH K (dq κ)):=by
 refine ax.okN F gc (by fin2) λ_ _ _ _ _ _ a=>⟨_,(aj (aE 3 gc.nd (aq b a (aa (dv 2) (aa (dv 0) af)))) (aj (aE 4 gc.nd (aq b a (aa (dv 2) (aa (dv 1) af)))) (ak (av (aq c a (aa (au bo (au aA (dv 4) (ao (dv 0) ae)) (au aA (dv 3) (ao (dv 1) ae))) (aa (au bo (au aA (dv 4) (ao (dv 0) ae)) (au aA (dv 3) (ao (dv 1) ae))) (aa (au bo (au aA (dv 4) (ao (dv 0) ae)) (au aA (dv 3) (ao (dv 1) ae))) af)))))))),?_⟩
 rintro A Q Ed ⟨z,y,j,u,t,s,q,p,o,rfl,h⟩;x_go;obtain⟨g,e,d,c,b,a,l,n,k,r,h⟩:=h;have m:∀{x:Int},Bd 200 x->Bd 1000 x:=λh=>h.mono (by decide)
 have i:Bd 402 (q*z+p*y+o*j):=((l.mul g).add (n.mul e)).add ((k.mul d).mono (by decide));have j:Bd 402 (q*u+p*t+o*s):=((l.mul c).add (n.mul b)).add ((k.mul a).mono (by decide));lk;refine⟨m l,m n,m k,m g,m e,m d,m l,m n,m k,m c,m b,m a,RE j g,RE i c,RE j e,RE i b,RE j d,RE i a,r,?_,?_,?_,?_⟩;exact((j.mul g).sub (i.mul c)).mono (by decide);exact((j.mul e).sub (i.mul b)).mono (by decide);exact((j.mul d).sub (i.mul a)).mono (by decide);exact h
def Cq (F:ax K "clipped" "clipped" kN f fd) (C:Pn K mg κ)  (e:r9 P w K mg base κ) (a:Kt P w K mg base κ) (d:mg "len" = none) (b:mg "range" = none):aF P w K mg base (CX1 P w) 5 f fd ["corners", "gauge"] (aH K (gR κ)):=by
 refine ax.okN F gL (by fin2) λ_ _ _ _ _ _ c=>⟨_,(aj (gE 2 gL.nd af) (aj (bJ PassesOwn.never rfl (iT (by rfl) b (aa (az bg (by rfl) d Rr (aa (dv 0) af)) af)) (aZ 3 gL.nd) (aj (aE 4 gL.nd (ao (dv 0) (au bo (dv 3) ae))) (aj (aE 5 gL.nd (ao (dv 0) (dv 3))) (aj (aR (aC fP (au aA (aq a c (aa (dv 1) (aa (dv 4) af))) (aq a c (aa (dv 1) (aa (dv 5) af)))) ae) (ak (iS 2 (aq e c (aa (dv 4) (aa (dv 5) (aa (dv 1) af)))))) aG) (ak (aR (aC Cn (aq a c (aa (dv 1) (aa (dv 5) af))) ae) (ak (iS 2 (dv 5))) aG)))))) (cG 2 (ak (av (bI (by rfl) (by exact aX (osc:=ai kN) (xs:=["index"]) (ns:=["kept"]) (by decide +kernel)) (aP.cons 2 aP.nil) (iT (by rfl) b (aa (az bg (by rfl) d Rr (aa (dv 2) af)) af)) (λ_ _ _ _ _=>(zo (aC (q9 (by exact c.units)) (ao (dv 1) (dv 0)) (R3.TZ (eK (dv 1) cf (cw (dv 0))))))) (λ_ _ _ _ _=>(ao (dv 1) (dv 0))))))))),?_⟩
 rintro ds Q Ed ⟨a,g,d,b,rfl,h⟩;x_go;unfold fk at h;obtain⟨hl,t,A,B,y,h⟩:=h;have m:∀{x:Int},Bd 200 x->Bd 1000 x:=λh=>h.mono (by decide)
 have u:∀p∈a,Bd 200 p.1/\Bd 200 p.2.1/\Bd 200 p.2.2:=λp e=>⟨(t p e).2.b.mono (by decide),(t p e).2.x.mono (by decide),(t p e).2.y.mono (by decide)⟩
 have s:∀{i:yaw} {k:Nat} {p:Tr},i[k]?=some p->Qw (i.map Ou) (k:Int)=some (Ou p):=fun {i k p} e=>bf (by rw[PO,e];rfl)
 lk;refine⟨QS _,?_⟩;refine PD.bE (List.range' 0 a.length) (λ(k:Nat)=>D.int (k:Int)) (λj e=>∃r o n:Option Sl,e=[some (.val (.lst false (a.map Ou))),some (.val (T3 g d b)),some (.own ((aJ (g,d,b) (cQ (g,d,b)) (a.getLastD (0,0,0)) (a.take j)).map Ou)),r,o,n]) (λR q=>?_) ⟨none,none,none,rfl⟩ ?_ ?_;lk;rw[Of,yZ];exact⟨⟨by lia,by lia⟩,q⟩;rintro j k Oh l ⟨r,o,n,rfl⟩;obtain⟨e,i⟩:=QH.mp l;rw[Ub]at e;rw[Zn,UW,Nat.one_mul]at i;subst i;have N:a[j]?=some a[j]:=O2 e;have U:Qw (a.map Ou) ((j:Int) - 1)=some (Ou ((a.take j).getLastD (a.getLastD (0,0,0)))):=by
  have:=xi (a.map Ou) j 1 (by rw[Of];exact e) (by rw[Of];lia);rw[show((j:Int) - 1)=((j:Int) - ((1:Nat):Int))from rfl,this,Of,PO];have i:a[(j+a.length - 1) % a.length]?=some ((a.take j).getLastD (a.getLastD (0,0,0))):=by
   cases j with
   |zero =>
    have:(0+a.length - 1) % a.length=a.length - 1:=by rw[UW];exact S5 (by lia)
    rw[this,List.take_zero,List.getLastD_nil,<- zDN,zCJ];cases hq:a.getLast? with
    |none=>rw[zCm]at hq;rw[hq]at e;exact absurd e (by simp)
    |some z=>rfl
   |succ j =>
    have:(j+1+a.length - 1) % a.length=j:=by rw[show j+1+a.length - 1=j+a.length by lia,Zv];exact S5 (by lia)
    rw[this,zCJ,List.getLast?_take];simp;rw[O2 (by lia)];rfl
  rw[i];rfl
 have G:(a.take j).getLastD (a.getLastD (0,0,0))∈a:=by
  rw[zCJ];cases hq:(a.take j).getLast? with
  |some z=>exact(List.take_sublist j a).subset (List.mem_of_getLast? hq)
  |none =>
   rw[Option.getD_none,zCJ];cases c:a.getLast? with
   |some z=>exact List.mem_of_getLast? c
   |none=>rw[zCm]at c;rw[c]at e;exact absurd e (by simp)
 have C:=rV (g,d,b) (cQ (g,d,b)) (a.take j) (a.getLastD (0,0,0));have tl:(a.take j).length<=a.length:=by rw[S4];lia
 have l:=Fs (g,d,b) (cQ (g,d,b)) (a.getLastD (0,0,0)) (a.take j) a[j];rw[show a.take j++[a[j]]=a.take (j+1)by rw[Xg,N];rfl]at l;generalize (a.take j).getLastD (a.getLastD (0,0,0))=p at U G l;have E:a[j]∈a:=SE _;generalize SK:a[j]=c at N E l;generalize aJ (g,d,b) (cQ (g,d,b)) (a.getLastD (0,0,0)) (a.take j)=K at C l ⊢;obtain⟨T,Q,O⟩:=u p G;obtain⟨M,L,J⟩:=u c E;have Y:K.length<=600000:=by lia
 have u:∀(e:yaw) (I H:D),e.length<=600001->aJ (g,d,b) (cQ (g,d,b)) (a.getLastD (0,0,0)) (a.take (j+1))=e++(if 0<=N9 (g,d,b) c then[c]else[])->iG κ [T3 g d b,Ou c] (λx=>gG (λi j=>D.bl (decide (j<=i))) x (D.int 0) λx=>∃k,x=D.bl k/\if k=true then(e.map Ou).length<sizeLine/\∃r o n:Option Sl,([some (.val (.lst false (a.map Ou))),some (.val (T3 g d b)),some (.own (e.map Ou++[Ou c])),some (.val (.int j)),some (.val I),some (.val H)]:Ro)=[some (.val (.lst false (a.map Ou))),some (.val (T3 g d b)),some (.own ((aJ (g,d,b) (cQ (g,d,b)) (a.getLastD (0,0,0)) (a.take (j+1))).map Ou)),r,o,n]else∃r o n:Option Sl,([some (.val (.lst false (a.map Ou))),some (.val (T3 g d b)),some (.own (e.map Ou)),some (.val (.int j)),some (.val I),some (.val H)]:Ro)=[some (.val (.lst false (a.map Ou))),some (.val (T3 g d b)),some (.own ((aJ (g,d,b) (cQ (g,d,b)) (a.getLastD (0,0,0)) (a.take (j+1))).map Ou)),r,o,n]) λ_=>False:=λe I H Y e=>by show iG κ [T3 g d b,T3 c.1 c.2.1 c.2.2] _ _;rw[jO,jX,e];refine⟨m A,m B,m y,m M,m L,m J,?_⟩;rw[kg];refine⟨_,rfl,?_⟩;have i:(0<=sg (g*c.1+d*c.2.1+b*c.2.2))↔0<=N9 (g,d,b) c:=My _;by_cases q:0<=N9 (g,d,b) c;rw[Og q,Og (Wx (i.mpr q))];exact⟨by rw[Of,sizeLine_eq];lia,_,_,_,by rw[Q1];rfl⟩;rw[Oc q,Oc (by rw[decide_eq_true_eq];exact λz=>q (i.mp z)),U8];exact⟨_,_,_,rfl⟩
 lk;refine⟨_,U,_,s N,?_⟩;rw[gg,gg];show iG κ [T3 g d b,T3 p.1 p.2.1 p.2.2] _ _;rw[jO,jX];refine⟨m A,m B,m y,m T,m Q,m O,?_⟩;show iG κ [T3 g d b,T3 c.1 c.2.1 c.2.2] _ _;rw[jO,jX];refine⟨m A,m B,m y,m M,m L,m J,?_⟩;have i:(sg (g*p.1+d*p.2.1+b*p.2.2)*sg (g*c.1+d*c.2.1+b*c.2.2)<0)↔N9 (g,d,b) p*N9 (g,d,b) c<0:=Mx _ _;have j:∀x:Int,Bd 64 (sg x):=λx=>by unfold sg Bd;split;exact(by decide);split<;>decide
 rw[Bj,kg];refine⟨.inl (j _),_,rfl,?_⟩;by_cases q:N9 (g,d,b) p*N9 (g,d,b) c<0;rw[Og (Wx (i.mpr q))];rw[Og q]at l;show dq κ [T3 p.1 p.2.1 p.2.2,T3 c.1 c.2.1 c.2.2,T3 g d b] _ _;rw[gW,dm];refine⟨T,Q,O,M,L,J,A,B,y,?_,by rw[Of,sizeLine_eq];lia,?_⟩;rcases zw (t p G).1 (t c E).1 q with⟨_,_,z⟩| ⟨_,_,z⟩<;>exact λe=>by rw[e]at z;exact Wy _ z
 have:=u (K++[cQ (g,d,b) p c]) (Ou p) (Ou c) (by simp;lia) (by rw[l,US]);rw[Q1]at this;exact this;rw[Oc (by rw[decide_eq_true_eq];exact λz=>q (i.mp z))];rw[Oc q,U9]at l;exact u K (Ou p) (Ou c) (by lia) l;rintro Oh ⟨r,o,n,rfl⟩;rw[Ub,UT];have C:=rV (g,d,b) (cQ (g,d,b)) a (a.getLastD (0,0,0));have c:fb (g,d,b) a=Sq [] (aJ (g,d,b) (cQ (g,d,b)) (a.getLastD (0,0,0)) a):=by
  unfold fb;cases hq:a.getLast? with
  |none =>
   rw[zCm]at hq;subst hq;rfl
  |some z=>rw[zCJ,hq];rfl
 rw[c]at h;generalize aJ (g,d,b) (cQ (g,d,b)) (a.getLastD (0,0,0)) a=K at C h ⊢;have d:∀k,k<K.length->K[k]?=some (K.getD k (0,0,0)):=λk a=>by rw[Py,O2 a];rfl
 have g:∀k,k<=K.length->PD.cutD (K.map Ou) none (some (k:Int))=(K.take k).map Ou:=λk a=>by unfold PD.cutD;rw[HT.Hk,HT.pZ,List.drop_zero,Nat.sub_zero,Of,Nat.min_eq_left a,List.map_take]
 have e:∀(l:yaw) (x:Tr),(l.map Ou).any (λz=>eqD z (Ou x))=l.any λy=>decide (y=x):=λl x=>by
  rw[List.any_map];congr 1
  funext y
  exact Lw y x
 lk;refine PD.comp_map (List.range' 0 K.length) (λ(k:Nat)=>D.int (k:Int)) (λk=>!(K.take k).any λy=>decide (y=K.getD k (0,0,0))) (λk=>Ou (K.getD k (0,0,0))) (λR q=>?_) (by rw[Ub,sizeLine_eq];lia) (λk a c b=>?_) (λk a _ c b=>?_) ?_;lk;rw[Of,yZ];exact⟨⟨by lia,by lia⟩,q⟩;have c:k<K.length:=by rw[XT]at a;lia
 lk;refine⟨_,s (d k c),?_⟩;rw[g k (by lia)];refine⟨?_,?_⟩;exact(A5 _).okI;exact⟨(P4.map A5).ok,_,.inr ⟨_,rfl⟩,_,rfl,by rw[e];exact b⟩;have c:k<K.length:=by rw[XT]at a;lia
 lk;exact⟨_,s (d k c),b⟩;have a:=xM (0,0,0) K [];rw[Yy,U9]at a;rw[<- a,Pp]at h;exact h
def Ez (F:ax K "common" "common" rB f fd) (C:Pn K mg κ)  (b:vh P w K mg base κ)  : aF P w K mg base (CX1 P w) 6 f fd ["corners", "gauges"] (aH K (o6 κ)):=by
 refine ax.okN F oV (by fin2) λ_ _ _ _ _ _ a=>⟨_,(aj (bJ PassesOwn.never rfl (aN (dv 1)) (aZ 2 oV.nd) (ak (aE 0 oV.nd (aq b a (aa (dv 0) (aa (dv 2) af)))))) (ak (av (dv 0)))),?_⟩
 rintro u Q Ed ⟨b,a,rfl,h⟩;x_go;unfold iV at h;obtain⟨k,r,e,i,h⟩:=h;lk;refine PD.bE a Ou (λj c=>∃(t:Bool) (v:Option Sl),(0<j->t=true)/\c=[some (.val (.lst t ((aT (a.take j) b).map Ou))),some (.val (.lst false (a.map Ou))),v]) (λR q=>?_) ⟨false,none,λq=>absurd q (by lia),rfl⟩ ?_ ?_;lk;exact q;rintro j g p c ⟨t,v,d,rfl⟩;obtain⟨n,s⟩:=QH.mp c;obtain⟨m,l⟩:=e j n;obtain⟨o,n,e⟩:=i g (Ql c);lk;show gR κ [.lst false ((aT (a.take j) b).map Ou),T3 g.1 g.2.1 g.2.2] _ _;rw[jv,fk];refine⟨m,l,o,n,e,?_⟩;have e:aT (a.take (j+1)) b=fb g (aT (a.take j) b):=by unfold aT;rw[Xg,c];simp[List.foldl_append]
 exact⟨true,_,λ_=>rfl,by rw[e]⟩;rintro p ⟨t,v,d,rfl⟩;rw[UT,d k];lk;exact h
def tF (F:ax K "owned_gauges" "owned_gauges" fu f fd) (C:Pn K mg κ)  (b:FD P w K mg base κ) (c:C4 P w K mg base κ) (d:mg "enumerate" = none):aF P w K mg base (CX1 P w) 4 f fd ["lists"] (aH K (gU κ)):=by
 refine ax.okN F eB (by fin2) λ_ _ _ _ _ _ a=>⟨_,(aj (gE 1 eB.nd af) (aj (bJ PassesOwn.never rfl (Ji (by rfl) d (aa (dv 0) af)) (sN (n:=2) rfl (fU (aZ 2 eB.nd) (fU (aZ 3 eB.nd) pO))) (ak (kF 1 (bI (by rfl) (by exact aX (osc:=ai fu) (xs:=["gauge"]) (ns:=["index"]) (by decide +kernel)) (aP.cons 2 aP.nil) (aN (aq b a (aa (aq c a (aa (dv 3) af)) af))) (λ_ _ _ _ _=>bB) (λ_ _ _ _ _=>(aQ (aa (dv 1) (aa (dv 0) af)))))))) (cG 1 (ak (av (dv 1)))))),?_⟩
 rintro E Q Ed ⟨a,rfl,h⟩;x_go;unfold eA at h;obtain⟨L,h⟩:=h;lk;refine⟨QS _,?_⟩;refine PD.bE (List.range' 0 a.length) (λ(k:Nat)=>D.tup [.int (k:Int),cu (a.getD k [])]) (λj c=>∃(b:yat) (n m:Option Sl),bG b (a.take j)/\c=[some (.val (.lst false (a.map cu))),some (.own ((aS 0 b).map Sr)),n,m]) (λR q=>?_) ⟨[],none,none,True.intro,rfl⟩ ?_ ?_;lk;refine⟨_,_,rfl,?_⟩;rw[B6 cu []];exact q;rintro j k y e ⟨b,n,m,rk,rfl⟩;obtain⟨d,c⟩:=QH.mp e;rw[Ub]at d;rw[Zn,UW,Nat.one_mul]at c;subst c;have s:a[j]?=some a[j]:=O2 d;have c:a.getD j []=a[j]:=by rw[Py,s];rfl
 have k:a[j]∈a:=SE _;rw[c];generalize hps:a[j]=d at s k;have t:b.length=j:=by rw[rk.len,S4];lia
 have z:(aS 0 b).length<=64*b.length:=oJ _ 0 λc e=>by
  obtain⟨g,i,r⟩:=rk.ex c e;have e:=(List.take_sublist j a).subset i;have:=(df r).len;have:=L.le g e;have:=mj (aO c)
  lia
 have A:=L.l8;lk;refine Dw (P:=λa:yaw=>∃c,cO c d/\a=aI (aO c)/\a.length<1000) Ou (λ_=>true) (λg=>Sr ((j:Int),g)) (λR x=>?_) (λa i=>by obtain⟨_,_,_,q⟩:=i;rw[sizeLine_eq];lia) (λa i g e K o=>?_) (λa i g e K o=>?_) λa i=>?_
 lk;have q:=L.le d k;have e:∀p∈d,SB p:=λp a=>((L.bd d k p a).mono (by decide)).sb
 show me κ [.lst false (d.map Ov)] _ _;rw[mW,jW];refine⟨by lia,e,λc l u=>?_⟩;have g:=df l;have B:=g.len;have sb:∀p∈aO c,SB p:=λp a=>e p (g.mem p a)
 have p:0<(aO c).length:=by obtain⟨a,r,e,_⟩:=g.T4 (XR (L.ne d k));rw[e];simp
 have bl:=mj (aO c);rw[bq,nk,o5,kJ];exact⟨p,by lia,sb,_,_,rfl,x _ ⟨c,l,rfl,by lia⟩⟩;lk;exact o;lk;exact⟨TL _ _,o⟩;obtain⟨c,l,rfl,q⟩:=i;rw[Sd.mpr (λ_ _=>rfl)];refine⟨_,rfl,by rw[Of,Of,sizeLine_eq];lia,b++[c],some (.val (.int (j:Int))),some (.val (cu d)),?_,?_⟩;rw[Xg,s];exact rk.snoc l;rw[tG,Q1,t,UW,Pp];rfl;rintro y ⟨b,n,m,rk,rfl⟩;rw[Ub,UT]at rk;lk;exact h b rk
def wy (F:ax K "with_share" "with_share" kr f fd) (C:Pn K mg κ)    : aF P w K mg base (CX1 P w) 1 f fd ["gauge", "other", "share"] (aH K (fR κ)):=by
 refine ax.okN F wA (by fin2) λ_ _ _ _ _ _ b=>⟨_,(ak (av (aQ (aa (au bc (ao (dv 0) ae) (au aA (ao (dv 1) ae) (dv 2))) (aa (au bc (ao (dv 0) ae) (au aA (ao (dv 1) ae) (dv 2))) (aa (au bc (ao (dv 0) ae) (au aA (ao (dv 1) ae) (dv 2))) af)))))),?_⟩
 rintro c Q Ed ⟨k,j,i,g,e,d,s,rfl,h⟩;x_go;unfold dE at h;obtain⟨A,B,a,h⟩:=h;lk;exact⟨RE B.c a,RE B.a a,RE B.b a,Uh _ _ _,h⟩
def uC (F:ax K "last_needed" "last_needed" jk f fd) (C:Pn K mg κ)  (b:vh P w K mg base κ) (c:mg "len" = none):aF P w K mg base (CX1 P w) 6 f fd ["corners", "gauges"] (aH K (iC κ)):=by
 refine ax.okN F fx (by fin2) λ_ _ _ _ _ _ a=>⟨_,(aj (aE 2 fx.nd (b6 ae)) (aj (mw PassesOwn.never (aC wK (az bg (by rfl) c Rr (aa (dv 0) af)) ae) (aj (Ll 2 fx.nd ae LR) (ak (aE 0 fx.nd (aq b a (aa (dv 0) (aa (ao (dv 1) (dv 2)) af))))))) (ak (av (dv 2))))),?_⟩
 rintro p Q Ed ⟨g,b,rfl,h⟩;obtain⟨o,e,k,a,n,d,q,h⟩:=h;lk;refine⟨λm c=>∃(j:Nat) (t:Bool),j<=a+1/\m=a+1 - j/\c=[some (.val (.lst t ((aT (b.take j) g).map Ou))),some (.val (.lst false (b.map Ou))),some (.val (.int ((j:Int) - 1)))],⟨_,0,false,by lia,rfl,rfl⟩,?_⟩;rintro m c ⟨j,t,i,rfl,rfl⟩;lk;rw[Of];by_cases c:j=a+1
 simp_all
 have c:=d j (by lia);rw[Og (by have:=Yt.mpr c;lia)];obtain⟨l,h⟩:=e j (by lia);have c:b[j]?=some (b[j]'(by lia)):=O2 _;have d:=k _ (SE (show j<b.length by lia));refine⟨_,rfl,?_⟩;lk;have e:Qw (b.map Ou) (j:Int)=some (Ou (b[j]'(by lia))):=bf (by rw[PO,c];rfl);rw[show((j:Int) - 1+1)=(j:Int)by lia];refine⟨_,e,?_⟩;show gR κ [.lst false ((aT (b.take j) g).map Ou),T3 (b[j]'(by lia)).1 (b[j]'(by lia)).2.1 (b[j]'(by lia)).2.2] _ _;rw[jv,fk];refine⟨l,h,d.1,d.2.1,d.2.2,a+1 - (j+1),by lia,j+1,true,by lia,rfl,?_⟩;rw[xw c,show(((j+1:Nat):Int) - 1)=(j:Int)by lia]
def zS (F:ax K "constant" "constant" jH f fd) (C:Pn K mg κ)   (b:mg "sum" = none) (a:mg "zip" = none):aF P w K mg base (CX1 P w) 1 f fd ["gauges", "numbers", "shares"] (aH K (lD κ)):=by
 refine ax.okN F Aa (by fin2) λ_ _ _ _ _ _ t=>⟨_,(ak (av (az (nY rfl) (by rfl) b boot_sum (aa (j6 (by rfl) (by exact aX (osc:=ai jH) (xs:=["number", "share"]) (ns:=["gauges"]) (by decide +kernel)) (aP.cons 0 aP.nil) (.cons (.cons .nil)) (sS (by rfl) a (aa (dv 1) (aa (dv 2) af))) (λ_ _ _ _ _=>bB) (λ_ _ _ _ _=>(au aA (ao (ao (dv 2) (dv 0)) ae) (dv 1)))) af)))),?_⟩
 rintro u Q Ed ⟨c,ns,g,rfl,h⟩;x_go;obtain⟨d,rfl,r,s,p,m,l,h⟩:=h;have o:∀k∈d,c[k]?=some (c.getD k (0,0,0)):=by simp_all
 lk;refine PD.iR (d.zip g) (λz=>[.int ((z.1:Nat):Int),.int z.2]) (λ_=>true) (λz=>.int ((c.getD z.1 (0,0,0)).1*z.2)) (λR q=>?_) (by grind [List.length_zip,sizeLine_eq]) (λ_=>rfl) (λz j K i=>?_) (λz j _ K i=>?_) ?_;lk;have e:=ve d g;rw[Pp];rw[show(List.map ((λn=>D.int n)∘λ(k:Nat)=>(k:Int)) d)=d.map (λ(k:Nat)=>D.int (k:Int))from rfl,e];exact q;exact i;have e:=Xc (a:=z.1) (b:=z.2) j;have Xv:Qw (c.map Ou) ((z.1:Nat):Int)=some (Ou (c.getD z.1 (0,0,0))):=bf (by simp_all);refine⟨_,Xv,?_⟩;have a:=m _ (Ql (o z.1 e.1));rw[show Ou (c.getD z.1 (0,0,0))=D.tup [.int (c.getD z.1 (0,0,0)).1,.int (c.getD z.1 (0,0,0)).2.1,.int (c.getD z.1 (0,0,0)).2.2]from rfl];lk;exact⟨RE a (l _ e.2),i⟩;rw[Sd.mpr (λ_ _=>rfl)];refine⟨true,(d.zip g).map λz=>(c.getD z.1 (0,0,0)).1*z.2,by rw[Pp];rfl,?_⟩;exact h
def JE (F:ax K "bars" "bars" tJ f fd) (C:Pn K mg κ)  (e:vg P w K mg base κ) (c:BG P w K mg base κ) (d:wc P w K mg base κ) (b:pG P w K mg base κ) (h:mg "list" = none) (g:mg "zip" = none):aF P w K mg base (CX1 P w) 7 f fd ["corners", "gauges"] (aH K (uT κ)):=by
 refine ax.okN F l6 (by fin2) λ_ _ _ _ _ _ a=>⟨_,(aj (aE 2 l6.nd (aq d a (aa (dv 0) (aa (dv 1) af)))) (ak (bJ PassesOwn.never rfl (aN (au bc (aq b a (aa (dv 2) (aa ae af))) (aq b a (aa (dv 2) (aa ae af))))) (aZ 3 l6.nd) (aj (aE 4 l6.nd (au bc (dv 3) (bO (aa (dv 2) af)))) (aj (aE 5 l6.nd (aq e a (aa (bI (by rfl) (by exact aX (osc:=ai tJ) (xs:=["number"]) (ns:=["gauges"]) (by decide +kernel)) (aP.cons 1 aP.nil) (aN (dv 4)) (λ_ _ _ _ _=>bB) (λ_ _ _ _ _=>(sy (ao (dv 1) (dv 0)) (cw ae) cf))) af))) (ak (aR (Sk.pt (xV (aC pU (dv 5) dA) (uv (aC fP (aq c a (aa (dv 1) (aa (dv 4) (aa (dv 5) af)))) ae)))) (ak (av ((B3 rfl (by rfl) h (by rfl) g (aa (dv 4) (aa (dv 5) af)))).TZ)) aG))))))),?_⟩
 rintro t Q Ed ⟨k,l,rfl,h⟩;x_go;unfold lY at h;obtain⟨e,d,p,a,g,c,i,r,b,h⟩:=h;lk;refine⟨e,d,p,a,g,c,i,?_⟩;have c:∀i,i<=2->(O6 a i).length<=1000000:=λi d=>PL (pR a i) (PL (Zo (show a<=1000 by lia) i) (PL (W9 (by decide) d) (by decide)))
 refine PD.bE (O6 a 1++O6 a 2) Ra (λj d=>∃n m i:Option Sl,gB l a ((O6 a 1++O6 a 2).drop j)=some r/\d=[some (.val (.lst false (k.map Ou))),some (.val (.lst false (l.map Ou))),some (.val (.int (a:Int))),n,m,i]) (λR q=>?_) ⟨none,none,none,b,rfl⟩ ?_ ?_;lk;have e:=Q1 (f:=Ra) (l₁:=O6 a 1) (l₂:=O6 a 2);rw[e]at q;refine⟨a,1,rfl,rfl,by lia,by decide,by rw[Nat.pow_one];lia,a,2,rfl,rfl,by lia,by decide,PL (Zo (show a<=1000 by lia) 2) (by decide),?_,q⟩;have:=c 1 (by decide);have:=c 2 (by decide);rw[Of,Of,sizeLine_eq]
 lia
 rintro j o r b ⟨n,m,i,d,rfl⟩;obtain⟨e,c⟩:=QH.mp b;rw[WY e,c]at d;obtain⟨s,e⟩:=Ia (Ql b);have lt':∀k∈o++[a],k<l.length:=λk c=>by
  rcases Qn.mp c with q|q;have:=e k q;lia;rw[QY.mp q];exact g
 have j:∀k∈o++[a],l[k]?=some (l.getD k (0,0,0)):=λk c=>by rw[Py,O2 (lt' k c)];rfl
 have b:(o.map λ(k:Nat)=>D.int (k:Int))++[D.int (a:Int)]=(o++[a]).map λ(k:Nat)=>D.int (k:Int):=by rw[Q1];rfl
 unfold Ra;lk;have lo:(o++[a]).length<=3:=by rw[QX,zCZ];lia
 refine⟨ZN _,by rw[Of,sizeLine_eq];show _+1<=_;lia,?_⟩;rw[b];refine PD.comp_map (o++[a]) (λ(k:Nat)=>D.int (k:Int)) (λ_=>true) (λk=>Ov (vc (l.getD k (0,0,0)))) (λR q=>?_) (by rw[sizeLine_eq];lia) (λk c K b=>?_) (λk c _ K b=>?_) ?_;lk;exact q;lk;exact b;lk;have e:Qw (l.map Ou) ((k:Nat):Int)=some (Ou (l.getD k (0,0,0))):=bf (by rw[PO,j k c];rfl);exact⟨_,e,_,rfl,by show¬(HT.Pa 3 0 (some 1)=0/\_);exact λz=>absurd z.1 (by decide),b⟩;rw[Sd.mpr (λ_ _=>rfl)];have q:(o++[a]).map (λk=>Ov (vc (l.getD k (0,0,0))))=(Tt l (o++[a])).map Ov:=by unfold Tt;rw[Pp];rfl
 have g:(Tt l (o++[a])).length=(o++[a]).length:=by unfold Tt;rw[Of]
 have e:∀w∈Tt l (o++[a]),WB 400 w:=λw b=>by obtain⟨k,c,rfl⟩:=OZ.mp b;have b:=p _ (Ql (j k c));exact⟨b.2.1.mono (by decide),b.2.2.mono (by decide)⟩
 rw[q,bq,cq,ju,gH];refine⟨by rw[g];simp,by lia,e,?_⟩;unfold gB at d;cases Zc:dO (Tt l (o++[a]))with
 |none =>
  rw[Zc]at d;rw[Oc (show¬dZ (oL none)=false by decide)];exact⟨_,_,_,d,rfl⟩
 |some b =>
  rw[Zc]at d;have B:=nV (by lia) Zc;have j:=xn e (by lia) Zc;have e:(o++[a]).length=b.length:=by rw[B.len,g]
  have g:(o++[a]).map (λ(k:Nat)=>D.int (k:Int))=((o++[a]).map λ(k:Nat)=>(k:Int)).map D.int:=by rw[Pp];rfl
  rw[Og (show dZ (oL (some b))=false from rfl)];have c:aB (oL (some b))=.lst false (b.map D.int):=by show aB (.lst true (b.map D.int))=_;rw[bq,cn]
  rw[c];have c:aU ((o++[a]).map (λ(k:Nat)=>D.int (k:Int)))=((o++[a]).map λ(k:Nat)=>(k:Int)).map D.int:=by rw[g,cn]
  rw[c,md,iK];refine⟨o++[a],rfl,e,lo,lt',λg c=>(p g c).1,j,?_⟩;rw[kg];refine⟨_,rfl,?_⟩;by_cases c:qK l (o++[a]) b<0;dsimp only at d;rw[Og c]at d;cases d;rw[Og (Wx c)];refine⟨_,_,true,true,_,_,rfl,rfl,rfl,by rw[Of,Of];exact e,by rw[Of];lia,?_⟩;rw[ve];exact h;dsimp only at d;rw[Oc c]at d;rw[Oc (by rw[decide_eq_true_eq];exact c)];exact⟨_,_,_,d,rfl⟩
 rintro r ⟨n,m,i,d,rfl⟩;rw[List.drop_length]at d;cases d
def zR (F:ax K "bar_rows" "bar_rows" jG f fd) (C:Pn K mg κ)  (b:w6 P w K mg base κ) (c:mg "sorted" = none):aF P w K mg base (CX1 P w) 2 f fd ["owned", "shares"] (aH K (lC κ)):=by
 refine ax.okN F fL (by fin2) λ_ _ _ _ _ _ a=>⟨_,(aj (DU 2 fL.nd) (aj (bJ PassesOwn.never rfl (aN (dv 1)) (sN (n:=2) rfl (fU (aZ 3 fL.nd) (fU (aZ 4 fL.nd) pO))) (aj (aE 5 fL.nd (ao (ao (dv 0) (dv 3)) ae)) (ak (IU 2 (by exact Cc a) (dv 5) (aq b a (aa (IQ 2 (by exact Cc a) (dv 5) (aQ (aa ae (aa ae (aa ae af))))) (aa (ao (ao (dv 0) (dv 3)) ae) (aa (dv 4) af)))))))) (zK 2 (ak (av (bI (by rfl) (by exact aX (osc:=ai jG) (xs:=["owner"]) (ns:=["sums"]) (by decide +kernel)) (aP.cons 2 aP.nil) (aN ((Gi rfl (by rfl) c (dv 2))).TZ) (λ_ _ _ _ _=>bB) (λ_ _ _ _ _=>(aQ (aa (dv 0) (aa (Lg (by exact Cc a) (dv 1) (dv 0)) af)))))))))),?_⟩
 rintro A Q Ed ⟨os,a,rfl,h⟩;x_go;unfold fJ at h;obtain⟨y,o,t,g,l,m,h⟩:=h;lk;have d:∀z∈a,os[z.1]?=some (os.getD z.1 (0,0,0,0)):=λz b=>by rw[Py,O2 (o z b).1];rfl
 refine PD.bE a dU (λj b=>∃k i e:Option Sl,b=[some (.val (.lst false (os.map Sr))),some (.val (.lst false (a.map dU))),some (.ob (.dk (lM (bU ((gf os a).take j))))),k,i,e]) (λR q=>?_) ⟨none,none,none,rfl⟩ ?_ ?_;lk;exact q;rintro j z u b ⟨k,i,e,rfl⟩;have c:=Ql b;have s:j<a.length:=(QH.mp b).1;have Xv:Qw (os.map Sr) ((z.1:Nat):Int)=some (.tup [.int (os.getD z.1 (0,0,0,0)).1,Ou (os.getD z.1 (0,0,0,0)).2]):=bf (by rw[PO,d z c];rfl);have p:=t _ (Ql (d z c));have d:bU ((gf os a).take (j+1))=stT (bU ((gf os a).take j)) ((os.getD z.1 (0,0,0,0)).1,(os.getD z.1 (0,0,0,0)).2,z.2):=by unfold bU;rw[List.take_add_one,show(gf os a)[j]?=some ((os.getD z.1 (0,0,0,0)).1,(os.getD z.1 (0,0,0,0)).2,z.2)by unfold gf;rw[PO,b];rfl,List.foldl_append];rfl
 rw[d];have b:=g j;have d:=l j;generalize bU ((gf os a).take j)=T at b d ⊢;generalize os.getD z.1 (0,0,0,0)=g at Xv p ⊢;have d:∀n,Bd n 0:=λn=>by unfold Bd;simp;exact Nat.two_pow_pos n
 have j:TB 990 ((R5 T g.1).getD (0,0,0)):=by
  cases hl:R5 T g.1 with
  |none=>exact⟨d _,d _,d _⟩
  |some x=>have q:=b _ (yF hl);exact⟨q.c.mono (by lia),q.a.mono (by lia),q.b.mono (by lia)⟩
 have b:((R5 T g.1).map Ou).getD (D.tup [D.int 0,D.int 0,D.int 0])=Ou ((R5 T g.1).getD (0,0,0)):=by cases R5 T g.1<;>rfl
 unfold dU;lk;refine⟨_,Xv,?_⟩;lk;refine⟨Uh _ _ _,Sum.inl g.1,rfl,_,Xv,?_⟩;lk;rw[mE,b,gg];show fR κ [T3 ((R5 T g.1).getD (0,0,0)).1 ((R5 T g.1).getD (0,0,0)).2.1 ((R5 T g.1).getD (0,0,0)).2.2,T3 g.2.1 g.2.2.1 g.2.2.2,.int z.2] _ _;rw[kC,dE];refine⟨j,p,(o z c).2,Sum.inl g.1,rfl,by unfold lM;rw[Of,sizeLine_eq];lia,some (.val (.int ((z.1:Nat):Int))),some (.val (.int z.2)),some (.val (.int g.1)),?_⟩;rw[JT];rfl;rintro u ⟨k,i,e,rfl⟩;have b:a.length=(gf os a).length:=by unfold gf;rw[Of]
 rw[b,UT];generalize j:bU (gf os a)=T at m h;have r:T.length<=3:=by
  have q:=l a.length;rw[b,UT,j]at q
  lia
 refine⟨T.map (·.1),T.map λx=>Ou x.2,by rw[Of,Of],by rw[vf];rfl,?_⟩;lk;refine xx (P:=λa:yaf=>a.Perm (T.map (·.1))/\a.Pairwise (·<·)) (λn=>D.int n) (λo=>Sr (o,(R5 T o).getD (0,0,0))) (λR d=>?_) (λa b=>by have:=b.1.length_eq;rw[Of]at this;rw[sizeLine_eq];lia) (λa b o e K c=>?_) λa b=>?_
 lk;exact⟨_,_,rfl,by rw[Of];lia,λa p q=>d a ⟨p,q⟩⟩;obtain⟨x,d,g⟩:=OZ.mp (b.1.mem_iff.mp e);have lk:=Ci m d;rw[g]at lk;lk;refine⟨_,_,_,Ou x.2,rfl,rfl,by rw[Of,Of],?_,TL _ _,?_⟩;rw[vf,mE,lk];rfl;rw[lk]at c;exact c;have q:=h a b.1 b.2;unfold ji at q;rw[Pp]at q;exact q
def wt (F:ax K "hulls_meet" "hulls_meet" eW f fd) (C:Pn K mg κ)  (d:BF P w K mg base κ) (b:Ks P w K mg base κ) (c:FE P w K mg base κ) (g:C4 P w K mg base κ) (e:C6 P w K mg base κ) (h:ud P w K mg base κ) (i:mg "len" = none):aF P w K mg base (CX1 P w) 8 f fd ["lists"] (aH K (jw κ)):=by
 refine ax.okN F dF (by fin2) λ_ _ _ _ _ _ a=>⟨_,(aj (aE 1 dF.nd (aq h a (aa (dv 0) af))) (aj (gF 2 dF.nd (by rfl) (by exact aX (osc:=ai eW) (xs:=["pair"]) (ns:=[]) (by decide +kernel)) aP.nil (aN (dv 1)) (λ_ _ _ _ _=>bB) (λ_ _ _ _ _=>(ao (dv 0) ae))) (aj (aE 3 dF.nd (aq g a (aa (ao (dv 0) ae) af))) (aj (aE 4 dF.nd (aq c a (aa (dv 3) (aa (dv 2) af)))) (aj (aR (aC bS (az bg (by rfl) i Rr (aa (dv 4) af)) ae) (ak (av (aQ (aa ot (aa (aq d a (aa (dv 1) (aa (aq b a (aa (dv 3) (aa (dv 2) af))) af))) af))))) aG) (ak (av (aQ (aa ot (aa (ao (dv 4) ae) (aa (bI (by rfl) (by exact aX (osc:=ai eW) (xs:=["spots"]) (ns:=["shared"]) (by decide +kernel)) (aP.cons 4 aP.nil) (aN (dv 0)) (λ_ _ _ _ _=>bB) (λ_ _ _ _ _=>(sy (aq e a (aa (dv 0) (aa (ao (dv 1) ae) af))) (cw ae) cf))) af))))))))))),?_⟩
 rintro H Q Ed ⟨s,rfl,h⟩;x_go;unfold dD at h;obtain⟨L,h⟩:=h;lk;refine⟨L,λc rk=>?_⟩;have St:=sR L rk;have n:(aS 0 c).length<=512:=by have q:=St.le;unfold OF at q;rw[Of]at q;exact q
 refine PD.comp_map (aS 0 c) Sr (λ_=>true) (λx=>Ou x.2) (λR q=>?_) (by rw[sizeLine_eq];lia) (λx m K k=>?_) (λx m _ K k=>?_) ?_;lk;exact q;lk;exact k;unfold Sr;lk;exact k;rw[Sd.mpr (λ_ _=>rfl)];have a:(aS 0 c).map (λx=>Ou x.2)=(OF c).map Ou:=by unfold OF;rw[Pp];rfl
 rw[a];obtain⟨a,Lr,d⟩:∃p r,s=p::r:=by
  cases s with
  |nil=>exact absurd L.l0 (by simp)
  |cons p r=>exact⟨p,r,rfl⟩
 obtain⟨i,A,g⟩:∃p r,c=p::r:=by
  cases c with
  |nil=>rw[d]at rk;exact rk.elim
  |cons p r=>exact⟨p,r,rfl⟩
 have b:a∈s:=by rw[d];simp
 have e:cO i a:=by rw[d,g]at rk;exact rk.1
 have l:c.getD 0 []=i:=by rw[g];rfl
 refine⟨cu a,bf (j:=0) (by rw[d];rfl),?_⟩;rw[rS];show me κ [.lst false (a.map Ov)] _ _;rw[mW,jW];refine⟨by have:=L.le a b;lia,λp o=>((L.bd a b p o).mono (by decide)).sb,λb d _=>?_⟩;have a:=yX d e;have d:(aO b).map Pm=(F0 c).map Ou:=by unfold F0;rw[l,a,Pp];rfl
 have a:∀(t:Bool) (l:yaw),aB (.lst t (l.map Ou))=.lst false (l.map Ou):=λt l=>by rw[bq,tW]
 rw[d,a,a,o7,iV];obtain⟨Z,d,a⟩:=St.zs;have b:∀j,(aT ((OF c).take j) (F0 c)).length<=300000/\∀p∈aT ((OF c).take j) (F0 c),0<p.1/\CB 40 p:=λj=>⟨PL (a j).len d,λp o=>⟨((a j).pr p o).pos,(a j).cb p o⟩⟩
 have a:∀g∈OF c,Bd 200 g.1/\Bd 200 g.2.1/\Bd 200 g.2.2:=λg d=>by have B:=(St.gb g d).1;exact⟨B.c.mono (by decide),B.a.mono (by decide),B.b.mono (by decide)⟩
 have G:(OF c).length<=512:=by unfold OF;rw[Of];exact n
 refine⟨St.pos,by lia,λj _=>b j,a,?_⟩;cases hc:aT (OF c) (F0 c)with
 |nil =>
  refine⟨[],.inl ⟨true,rfl⟩,?_⟩;rw[Og (show(((([]:yas).length:Nat):Int))=0 from rfl),tR,lY];obtain⟨d,r,u,y,⟨g,e⟩,i⟩:=BS St hc;refine⟨by lia,λj _=>b j,a,d,r,u,y,(g,e),i,?_⟩;have P:=Ih St r i;have t:=y4 L rk St P;have a:(g.zip e).length<=3:=by rw[zDO];have:=P.l3;lia
  have b:gf (aS 0 c) (g.zip e)=T7 c g e:=rfl;rw[bq,tV,ma,fJ,b];refine⟨a,λz l=>⟨P.lt _ (Xc (a:=z.1) (b:=z.2) l).1,P.bs _ (Xc (a:=z.1) (b:=z.2) l).2⟩,λx m=>?_,λn x m=>?_,λn=>?_,?_,λa l sm=>⟨TL _ _,h _ ⟨c,rk,.inr ⟨d,g,e,a,hc,r,u,y,i,l,sm,rfl⟩⟩⟩⟩;have B:=(St.gb x.2 (OZ.mpr ⟨x,m,rfl⟩)).1;exact⟨B.c.mono (by decide),B.a.mono (by decide),B.b.mono (by decide)⟩;have q:=((t n).ok x m).2;have E:((T7 c g e).take n).length<=n:=by rw[S4];lia
  exact⟨q.c.mono (by lia),q.a.mono (by lia),q.b.mono (by lia)⟩;have q:=(t n).le;rw[S4]at q
  lia
  have q:=(t (T7 c g e).length).nd;rw[UT]at q;exact q
 |cons y rest =>
  have a:y∈aT (OF c) (F0 c):=by rw[hc];simp
  obtain⟨e,d⟩:=tw L rk St a;have YR:Qw ((y::rest).map Ou) 0=some (Ou y):=bf (j:=0) rfl;have b:=h _ ⟨c,rk,.inl ⟨y,rest,hc,rfl⟩⟩;refine⟨_,.inl ⟨true,rfl⟩,?_⟩;rw[Oc (by rw[Of,RG];lia),ro];generalize y::rest=I at YR ⊢;refine⟨_,YR,?_⟩;refine PD.comp_map s cu (λ_=>true) (λa=>cA ((bW (a.map (Om y)) (cF a.length)).getD ([],[]))) (λR q=>?_) (by have:=L.l8;rw[sizeLine_eq];lia) (λx m K k=>?_) (λa l _ K k=>?_) ?_;lk;exact q;lk;exact k;lk;refine⟨_,YR,?_⟩;rw[gg];show jN κ [.lst false (a.map Ov),T3 y.1 y.2.1 y.2.2] _ _;rw[nJ,gI];refine⟨L.ne a l,L.le a l,λp o=>((L.bd a l p o).mono (by decide)).sb,d.cb.pb d.pr,_,e a l,?_⟩;exact⟨_,rfl,by show¬(HT.Pa 3 0 (some 1)=0/\_);exact λz=>absurd z.1 (by decide),k⟩;rw[Sd.mpr (λ_ _=>rfl)];refine⟨Uh _ _ _,?_⟩;unfold iJ at b;rw[Pp]at b;exact b
def yS (F:ax K "_law_whole" "_law_whole" lg f fd) (C:Pn K mg κ)   (c:mg "bool" = none) (b:mg "int" = none) (a:mg "isinstance" = none):aF P w K mg base (CX1 P w) 1 f fd ["_law_found"] (aH K (kA κ)):=by
 refine ax.okN F zb (by fin2) λ_ _ _ _ _ _ d=>⟨_,(ak (av (oh (eI (by rfl) a (by rfl) b boot_int (.inl rfl) (dv 0)) (oo (xN (eI (by rfl) a (by rfl) c boot_bool (.inr (.inl rfl)) (dv 0))))))),?_⟩
 rintro e Q Ed ⟨a,rfl,h⟩;lk;exact h
def uD (F:ax K "_law_cell_at" "_law_cell_at" jo f fd) (C:Pn K mg κ)   (a:mg "len" = none):aF P w K mg base (CX1 P w) 1 f fd ["_law_script", "_law_k"] (aH K (iD κ)):=by
 refine ax.okN F uQ (by fin2) λ_ _ _ _ _ _ c=>⟨_,(aj (aR (aC fP (dv 1) (az bg (by rfl) a Rr (aa (dv 0) af))) (ak (av (ao (dv 0) (dv 1)))) aG) (ak (av ae))),?_⟩
 rintro d Q Ed ⟨b,k,rfl,h⟩;x_go;lk
 simp_all [Og,Of,FV,Oc]
def uE (F:ax K "_law_divisor" "_law_divisor" jq f fd) (C:Pn K mg κ)   (a:mg "abs" = none):aF P w K mg base (CX1 P w) 1 f fd ["_law_one", "_law_other"] (aH K (iE κ)):=by
 refine ax.okN F fy (by fin2) λ_ _ _ _ _ _ e=>⟨_,(aj (aE 2 fy.nd (az nX (by rfl) a boot_abs (aa (dv 0) af))) (aj (aE 3 fy.nd (az nX (by rfl) a boot_abs (aa (dv 1) af))) (aj (mw PassesOwn.never (aC kf (dv 3) ae) (ak (Lm 2 3 rfl fy.nd (by decide) (aa (dv 3) (aa (au bT (dv 2) (dv 3)) af))))) (ak (av (dv 2)))))),?_⟩
 rintro g Q Ed ⟨a,b,rfl,h⟩;x_go;lk;refine⟨λm c=>∃(x y:Int),c=[some (.val (.int a)),some (.val (.int b)),some (.val (.int x)),some (.val (.int y))]/\Int.gcd x y=Int.gcd a b/\m=y.natAbs/\0<=x/\0<=y,⟨_,_,_,rfl,PM.Jf a b,rfl,by lia,by lia⟩,?_⟩;rintro m c ⟨x,y,rfl,c,rfl,d,b⟩;lk;by_cases a:y=0;subst a;rw[PM.D0]at c
 lia
 rw[Oc a];refine⟨a,?_⟩;exact⟨_,PM.vD x a,y,x.fmod y,rfl,(PM.yh x y).trans c,rfl,b,zC3 x (by lia)⟩
def tE (F:ax K "_law_is_place" "_law_is_place" iq f fd) (C:Pn K mg κ)  (c:wg P w K mg base κ) (b:qp P w K mg base κ) (e:mg "isinstance" = none) (d:mg "len" = none) (g:mg "tuple" = none):aF P w K mg base (CX1 P w) 2 f fd ["_law_found"] (aH K (eE κ)):=by
 refine ax.okN F tM (by fin2) λ_ _ _ _ _ _ a=>⟨_,(aj (aR (Sk.pt (cP (bK (bQ (eI (by rfl) e (by rfl) g boot_tuple (.inr (.inr (.inl rfl))) (dv 0)))) (eO (aC kf (az bg (by rfl) d Rr (aa (dv 0) af)) ae)))) (ak (av fe)) aG) (aj (aR (Sk.pt (cP (bK (bQ (aq b a (aa (ao (dv 0) ae) af)))) (cP (bK (bQ (aq b a (aa (ao (dv 0) ae) af)))) (cP (bK (bQ (aq b a (aa (ao (dv 0) ae) af)))) (eO (aC fP (ao (dv 0) ae) ae)))))) (ak (av fe)) aG) (ak (av (j5 bS (aq c a (aa (aq c a (aa (ao (dv 0) ae) (aa (ao (dv 0) ae) af))) (aa (ao (dv 0) ae) af))) ae))))),?_⟩
 rintro k Q Ed ⟨c,b,a,rfl,h⟩;x_go;obtain⟨⟨i,j⟩,h⟩:=h;have d:(((Int.gcd (Int.gcd c b:Int) a:Nat)):Int)=1:=by
  have e:((PM.g3 c b a:Nat):Int)=1:=by lia
  exact e
 lk;rw[Og (by rfl),Oc (by lia),Wx d];exact h
def wu (F:ax K "_law_stream" "_law_stream" kj f fd) (C:Pn K mg κ)   (a:mg "range" = none):aF P w K mg base (CX1 P w) 1 f fd ["_law_cell", "_law_many"] (aH K (jx κ)):=by
 refine ax.okN F dG (by fin2) λ_ _ _ _ _ _ o=>⟨_,(aj (gE 2 dG.nd af) (aj (aE 3 dG.nd (au bc (au bT (dv 0) ae) ae)) (aj (bJ PassesOwn.never rfl (iT (by rfl) a (aa (dv 1) af)) (aZ 4 dG.nd) (aj (aE 3 dG.nd (au bT (au bc (au bc (au aA (dv 3) ae) (au aA (dv 4) (dv 4))) ae) ae)) (ak (iS 2 (au hW (dv 3) ae))))) (cG 2 (ak (av (dv 2))))))),?_⟩
 rintro u Q Ed ⟨c,m,rfl,h⟩;x_go;unfold fQ at h;obtain⟨s,p,h⟩:=h;obtain⟨n,rfl⟩:∃n:Nat,m=n:=⟨m.toNat,by lia⟩;lk;have t:=fm (a:=c) (b:=2147483647) (by decide);refine⟨QS _,by decide,?_⟩;refine PD.bE (List.range' 0 n) (λ(k:Nat)=>D.int (k:Int)) (λj e=>∃(d:yaf) (r:Int) (v:Option Sl),e=[some (.val (.int c)),some (.val (.int n)),some (.own (d.map D.int)),some (.val (.int r)),v]/\d.length=j/\(∀x∈d,0<=x/\x<2147483647)/\0<=r/\r<2147531918) (λR q=>?_) ⟨[],_,none,rfl,rfl,by simp,by lia,by lia⟩ ?_ ?_;lk;rw[yZ];exact⟨⟨by lia,by lia⟩,q⟩;rintro j k n e ⟨d,r,v,rfl,c,g,j,i⟩;obtain⟨m,l⟩:=QH.mp e;rw[Ub]at m;rw[Zn]at l;lk;have e:=fm (a:=r*48271+(k:Int)*k+11) (b:=2147483647) (by decide);generalize (r*48271+(k:Int)*k+11).fmod 2147483647=a at e ⊢;refine⟨.inl (by unfold Bd;lia),.inl (by unfold Bd;lia),by decide,CD.lit,by rw[Of,sizeLine_eq];lia,d++[a.fdiv 7],_,_,by rw[Q1];rfl,by simp[c],?_,e.1,by lia⟩;intro z b;rcases Qn.mp b with q|q;exact g z q;simp at q;subst q;have e:=Int.fdiv_eq_ediv_of_nonneg a (show(0:Int)<=7 by decide);rw[e]
 lia
 rintro n ⟨d,r,v,rfl,c,g,j,i⟩;rw[Ub]at c;lk;exact h d (by rw[c];lia) g
def zW (F:ax K "_law_spot" "_law_spot" mP f fd) (C:Pn K mg κ)    : aF P w K mg base (CX1 P w) 1 f fd ["_law_kind", "_law_xs", "_law_way"] (aH K (lJ κ)):=by
 refine ax.okN F lh (by fin2) λ_ _ _ _ _ _ z=>⟨_,(aj (aR (aC bS (dv 0) ae) (ak (av (aQ (aa (au bo (au bT (ao (dv 1) ae) ae) ae) (aa (au bo (au bT (ao (dv 1) ae) ae) ae) af))))) aG) (aj (aR (aC bS (dv 0) ae) (ak (av (aQ (aa (au bo (au bT (ao (dv 1) ae) ae) ae) (aa (au bo (au bT (ao (dv 1) ae) ae) ae) af))))) aG) (aj (aR (aC bS (dv 0) ae) (aj (aE 3 lh.nd (au bo (au aA ae (au yP ae ae)) ae)) (ak (av (aQ (aa (au bc (au bo (au bT (au aA (ao (dv 1) ae) ae) (dv 3)) (au yP ae ae)) ae) (aa (au bc (au bo (au bT (au aA (ao (dv 1) ae) ae) (dv 3)) (au yP ae ae)) ae) af)))))) aG) (aj (aR (aC bS (dv 0) ae) (aj (aE 4 lh.nd (au bo (au bT (ao (dv 1) ae) ae) ae)) (ak (av (aQ (aa (au bc (au aA (dv 4) (ao (dv 2) ae)) (ao (dv 2) ae)) (aa (au bo (au aA (dv 4) (ao (dv 2) ae)) (ao (dv 2) ae)) af)))))) aG) (aj (aR (aC bS (dv 0) ae) (ak (av (aQ (aa (au bo (au bT (ao (dv 1) ae) ae) ae) (aa (au aA (au bo (au bT (ao (dv 1) ae) ae) ae) (au bo (au bT (ao (dv 1) ae) ae) ae)) af))))) aG) (ak (av (ao (bO (aa (aQ (aa ae (aa ae af))) (aa (aQ (aa ae (aa ae af))) (aa (aQ (aa ae (aa ae af))) (aa (aQ (aa ae (aa ae af))) (aa (aQ (aa (b6 ae) (aa ae af))) af)))))) (au bT (ao (dv 1) ae) ae))))))))),?_⟩
 rintro A Q Ed ⟨k,a,q,p,o,rfl,h⟩;x_go;unfold iN at h;obtain⟨b,d,m,l,j,h⟩:=h;obtain⟨x,y,rfl⟩:∃x y:Int,a=[x,y]:=by
  match a,b with
  |[x,y],_=>exact⟨x,y,rfl⟩
 have u:=d x (by simp);have r:=d y (by simp);lk;have c:∀a b:Int,Bd 40 a->Bd 40 b->([D.int a,.int b]:yas).length<=sizeLine/\Q (.tup [.int a,.int b]):=λa b e d=>⟨TL _ _,h (a,b) ⟨e,d⟩⟩
 have i:=λn:Int=>fm (a:=n) (b:=3) (by decide)
 have d:=λn:Int=>fm (a:=n) (b:=5) (by decide)
 have k:=λn:Int=>fm (a:=n) (b:=9) (by decide)
 have e:=λn:Int=>fm (a:=n) (b:=25) (by decide)
 have g:=λn:Int=>fm (a:=n) (b:=2*1000000000000 - 1) (by decide)
 split;exact⟨by decide,by decide,c _ _ (Ym 10 (by have:=i x;lia) (by decide)) (Ym 10 (by have:=i y;lia) (by decide))⟩;split;exact⟨by decide,by decide,c _ _ (Ym 10 (by have:=d x;lia) (by decide)) (Ym 10 (by have:=d y;lia) (by decide))⟩;split;rw[p12];refine⟨F8,.inl (by unfold Bd;decide),.inr (.inl (by unfold Bd;decide)),by decide,F8,.inr (.inl (by unfold Bd;decide)),by decide,F8,c _ _ (Ym 1000000000001 (by have:=g (x*982451653);lia) (by decide)) (Ym 1000000000001 (by have:=g (y*961748941);lia) (by decide))⟩;split;have s:=k x;have a:Bd 8 (x.fmod 9 - 4):=Ym 10 (by lia) (by decide);generalize x.fmod 9 - 4=t at a ⊢;have b:∀{v:Int},CM t v:=fun {v}=>.inl (a.mono (by decide))
 exact⟨by decide,b,b,c _ _ (((a.mul m).add (j.mono (by decide))).mono (by decide)) (((a.mul l).sub (j.mono (by decide))).mono (by decide))⟩;split;have s:=e x;have a:Bd 8 (x.fmod 25 - 12):=Ym 20 (by lia) (by decide);generalize x.fmod 25 - 12=t at a ⊢;exact⟨by decide,by decide,by decide,.inl (a.mono (by decide)),c _ _ (a.mono (by decide)) ((a.mul a).mono (by decide))⟩;refine⟨TL _ _,TL _ _,TL _ _,TL _ _,TL _ _,by rw[sizeLine_eq];decide,by decide,?_⟩;refine Di (d x).1 (by have:=(d x).2;simpa using this) λd a=>?_
 simp only[OK,TN,or_false]at a;rcases a with rfl|rfl|rfl|rfl|rfl<;>exact h (_,_) ⟨by unfold Bd;decide,by unfold Bd;decide⟩
def EA (F:ax K "deals" "deals" rC f fd) (C:Pn K mg κ)   (a:mg "len" = none):aF P w K mg base (CX1 P w) 1 f fd ["numbers", "sizes"] (aH K (o8 κ)):=by
 refine ax.okN F vT (by fin2) λ_ _ _ _ _ _ c=>⟨_,(aj (aR (aC bS (az bg (by rfl) a Rr (aa (dv 1) af)) ae) (ak (av (bO (aa (bO af) af)))) aG) (aj (gE 2 vT.nd af) (aj mv (cG 2 (ak (av (dv 2))))))),?_⟩
 rintro e Q Ed ⟨b,d,rfl,h⟩;x_go;obtain⟨rfl,h⟩:=h;lk;split
 simp_all [QS,sizeLine_eq]
 simp_all
def EB (F:ax K "deals" "deals" ik f fd) (C:Pn K mg κ)  (c:FF P w K mg base κ) (d:pG P w K mg base κ) (b:mg "len" = none):aF P w K mg base (CX1 P w) 2 f fd ["numbers", "sizes"] (aH K (o9 κ)):=by
 refine ax.okN F iZ (by fin2) λ_ _ _ _ _ _ a=>⟨_,(aj (aR (aC bS (az bg (by rfl) b Rr (aa (dv 1) af)) ae) (ak (av (bO (aa (bO af) af)))) aG) (aj (gE 2 iZ.nd af) (aj (bJ PassesOwn.never rfl (aN (aq d a (aa (az bg (by rfl) b Rr (aa (dv 0) af)) (aa (ao (dv 1) ae) af)))) (aZ 3 iZ.nd) (aj (aE 4 iZ.nd (bI (by rfl) (by exact aX (osc:=ai ik) (xs:=["index"]) (ns:=["numbers"]) (by decide +kernel)) (aP.cons 0 aP.nil) (aN (dv 3)) (λ_ _ _ _ _=>bB) (λ_ _ _ _ _=>(ao (dv 1) (dv 0))))) (aj (gF 5 iZ.nd (by rfl) (by exact aX (osc:=ai ik) (xs:=["number"]) (ns:=["group"]) (by decide +kernel)) (aP.cons 4 aP.nil) (aN (dv 0)) (λ_ _ _ _ _=>(zo (aC (q9 (by exact a.units)) (dv 0) (dv 1)))) (λ_ _ _ _ _=>(dv 0))) (ak (kF 2 (bI (by rfl) (by exact aX (osc:=ai ik) (xs:=["others"]) (ns:=["group"]) (by decide +kernel)) (aP.cons 4 aP.nil) (aN (aq c a (aa (dv 5) (aa (sy (dv 1) (cw ae) cf) af)))) (λ_ _ _ _ _=>bB) (λ_ _ _ _ _=>(au bc (bO (aa (dv 1) af)) (dv 0))))))))) (cG 2 (ak (av (dv 2))))))),?_⟩
 rintro u Q Ed ⟨ns,d,rfl,h⟩;x_go;unfold kK at h;obtain⟨k,rfl,p,d,h⟩:=h;lk;rw[Oc (by simp<;>lia)];refine⟨QS _,?_⟩;have c:∀{a:yag},a∈O6 ns.length k->a.length=k/\∀i∈a,i<ns.length:=λh=>dI h
 refine PD.bE (O6 ns.length k) Ra (λj b=>∃m g e:Option Sl,b=[some (.val (.lst false (ns.map D.int))),some (.val (.tup (.int (k:Int)::([])))),some (.own ((((O6 ns.length k).take j).flatMap λa=>(T8 ([]) (d6 ns (bV ns a))).map (bV ns a::·)).map VL)),m,g,e]) (λR q=>?_) ⟨none,none,none,rfl⟩ ?_ ?_;lk;exact⟨ns.length,k,by rw[Of],rfl,by lia,by lia,PL (Zo d k) (PL (W9 (by decide) p) (by decide)),q⟩;rintro j a s r ⟨m,g,e,rfl⟩;obtain⟨t,n⟩:=c (Ql r);lk;refine PD.comp_map a (λ(i:Nat)=>D.int (i:Int)) (λ_=>true) (λi=>D.int (ns.getD i 0)) (λR q=>?_) (by rw[sizeLine_eq];lia) (λi c K b=>?_) (λi c _ K b=>?_) ?_;unfold Ra;lk;exact q;lk;exact b;lk;have l:=n i c;exact⟨_,bf (by rw[PO,O2 l,Py,O2 l];rfl),b⟩;rw[Sd.mpr (λ_ _=>rfl),show(a.map λi=>D.int (ns.getD i 0))=(bV ns a).map D.int by unfold bV;rw[Pp];rfl];lk;refine PD.comp_map ns D.int (λn=>!(bV ns a).contains n) D.int (λR q=>?_) (by rw[sizeLine_eq];lia) (λn c K b=>?_) (λn c _ K b=>?_) ?_;lk;exact q;lk;refine⟨of_eq_true (A4 n),(P4.map (P4.int 0)).ok,_,.inr ⟨_,rfl⟩,_,rfl,?_⟩;rw[uh];exact b;lk;exact b;lk;refine PD.comp_map (T8 ([]) (d6 ns (bV ns a))) VL (λ_=>true) (λo=>VL (bV ns a::o)) (λR q=>?_) ?_ (λn c K b=>?_) (λn c _ K b=>?_) ?_;lk;exact⟨λz=>absurd (show HT.Pa 1 0 (some 1)=0 from z.1) (by decide),rfl,q⟩;have:=hJ ([]) (d6 ns (bV ns a)) (PL (eS _ _) d) (by simp);rw[sizeLine_eq];simp only[Yy]at this
 lia
 lk;exact b;have i:=ur c;unfold VL at b ⊢;rw[Pj]at b;lk;exact⟨by rw[sizeLine_eq];simp,by rw[Of,i,sizeLine_eq];simp,b⟩;rw[Sd.mpr (λ_ _=>rfl)];have i:=lP (l:=(O6 ns.length k).take j) (f:=λa=>(T8 ([]) (d6 ns (bV ns a))).map (bV ns a::·)) (B:=64) λa _=>by rw[Of];exact PL (hJ _ _ (PL (eS _ _) d) (by simp)) (by simp)
 have c:((O6 ns.length k).take j).length<=64:=PL (List.length_take_le' _ _) (Cf d p);have b:=hJ ([]) (d6 ns (bV ns a)) (PL (eS _ _) d) (by simp);simp only[Yy]at b;lk;refine⟨?_,_,_,_,by rw[va r,Q1,Pp];rfl⟩;rw[Of,Of,sizeLine_eq];have x:=PL i (Zm 64 c)
 lia
 rintro s ⟨m,g,e,rfl⟩;rw[UT];lk;exact h
def EC (F:ax K "deals" "deals" ip f fd) (C:Pn K mg κ)  (c:FG P w K mg base κ) (d:pG P w K mg base κ) (b:mg "len" = none):aF P w K mg base (CX1 P w) 3 f fd ["numbers", "sizes"] (aH K (pf κ)):=by
 refine ax.okN F i5 (by fin2) λ_ _ _ _ _ _ a=>⟨_,(aj (aR (aC bS (az bg (by rfl) b Rr (aa (dv 1) af)) ae) (ak (av (bO (aa (bO af) af)))) aG) (aj (gE 2 i5.nd af) (aj (bJ PassesOwn.never rfl (aN (aq d a (aa (az bg (by rfl) b Rr (aa (dv 0) af)) (aa (ao (dv 1) ae) af)))) (aZ 3 i5.nd) (aj (aE 4 i5.nd (bI (by rfl) (by exact aX (osc:=ai ip) (xs:=["index"]) (ns:=["numbers"]) (by decide +kernel)) (aP.cons 0 aP.nil) (aN (dv 3)) (λ_ _ _ _ _=>bB) (λ_ _ _ _ _=>(ao (dv 1) (dv 0))))) (aj (gF 5 i5.nd (by rfl) (by exact aX (osc:=ai ip) (xs:=["number"]) (ns:=["group"]) (by decide +kernel)) (aP.cons 4 aP.nil) (aN (dv 0)) (λ_ _ _ _ _=>(zo (aC (q9 (by exact a.units)) (dv 0) (dv 1)))) (λ_ _ _ _ _=>(dv 0))) (ak (kF 2 (bI (by rfl) (by exact aX (osc:=ai ip) (xs:=["others"]) (ns:=["group"]) (by decide +kernel)) (aP.cons 4 aP.nil) (aN (aq c a (aa (dv 5) (aa (sy (dv 1) (cw ae) cf) af)))) (λ_ _ _ _ _=>bB) (λ_ _ _ _ _=>(au bc (bO (aa (dv 1) af)) (dv 0))))))))) (cG 2 (ak (av (dv 2))))))),?_⟩
 rintro u Q Ed ⟨ns,d,rfl,h⟩;x_go;unfold kL at h;obtain⟨k,i,rfl,p,c,d,h⟩:=h;lk;rw[Oc (by simp<;>lia)];refine⟨QS _,?_⟩;have l:∀{a:yag},a∈O6 ns.length k->a.length=k/\∀i∈a,i<ns.length:=λh=>dI h
 refine PD.bE (O6 ns.length k) Ra (λj b=>∃m g e:Option Sl,b=[some (.val (.lst false (ns.map D.int))),some (.val (.tup (.int (k:Int)::([.int (i:Int)])))),some (.own ((((O6 ns.length k).take j).flatMap λa=>(T8 ([i]) (d6 ns (bV ns a))).map (bV ns a::·)).map VL)),m,g,e]) (λR q=>?_) ⟨none,none,none,rfl⟩ ?_ ?_;lk;exact⟨ns.length,k,by rw[Of],rfl,by lia,by lia,PL (Zo d k) (PL (W9 (by decide) p) (by decide)),q⟩;rintro j a s r ⟨m,g,e,rfl⟩;obtain⟨t,n⟩:=l (Ql r);lk;refine PD.comp_map a (λ(i:Nat)=>D.int (i:Int)) (λ_=>true) (λi=>D.int (ns.getD i 0)) (λR q=>?_) (by rw[sizeLine_eq];lia) (λi c K b=>?_) (λi c _ K b=>?_) ?_;unfold Ra;lk;exact q;lk;exact b;lk;have l:=n i c;exact⟨_,bf (by rw[PO,O2 l,Py,O2 l];rfl),b⟩;rw[Sd.mpr (λ_ _=>rfl),show(a.map λi=>D.int (ns.getD i 0))=(bV ns a).map D.int by unfold bV;rw[Pp];rfl];lk;refine PD.comp_map ns D.int (λn=>!(bV ns a).contains n) D.int (λR q=>?_) (by rw[sizeLine_eq];lia) (λn c K b=>?_) (λn c _ K b=>?_) ?_;lk;exact q;lk;refine⟨of_eq_true (A4 n),(P4.map (P4.int 0)).ok,_,.inr ⟨_,rfl⟩,_,rfl,?_⟩;rw[uh];exact b;lk;exact b;rw[show ns.filter (λn=>!(bV ns a).contains n)=d6 ns (bV ns a)from rfl];lk;refine PD.comp_map (T8 ([i]) (d6 ns (bV ns a))) VL (λ_=>true) (λo=>VL (bV ns a::o)) (λR q=>?_) ?_ (λn c K b=>?_) (λn c _ K b=>?_) ?_;lk;exact⟨λz=>absurd (show HT.Pa 2 0 (some 1)=0 from z.1) (by decide),i,rfl,c,PL (eS _ _) d,q⟩;have:=hJ ([i]) (d6 ns (bV ns a)) (PL (eS _ _) d) (by simpa using c);rw[sizeLine_eq];simp only[RG,Yy]at this
 lia
 lk;exact b;have n:=ur c;unfold VL at b ⊢;rw[Pj]at b;lk;exact⟨by rw[sizeLine_eq];simp,by rw[Of,n,sizeLine_eq];simp,b⟩;rw[Sd.mpr (λ_ _=>rfl)];have n:=lP (l:=(O6 ns.length k).take j) (f:=λa=>(T8 ([i]) (d6 ns (bV ns a))).map (bV ns a::·)) (B:=64) λa _=>by rw[Of];exact PL (hJ _ _ (PL (eS _ _) d) (by simpa using c)) (by simp)
 have l:((O6 ns.length k).take j).length<=64:=PL (List.length_take_le' _ _) (Cf d p);have b:=hJ ([i]) (d6 ns (bV ns a)) (PL (eS _ _) d) (by simpa using c);simp only[RG,Yy]at b;lk;refine⟨?_,_,_,_,by rw[va r,Q1,Pp];rfl⟩;rw[Of,Of,sizeLine_eq];have x:=PL n (Zm 64 l)
 lia
 rintro s ⟨m,g,e,rfl⟩;rw[UT];lk;exact h
def z9 (F:ax K "spots_at" "spots_at" jK f fd) (C:Pn K mg κ)    : aF P w K mg base (CX1 P w) 1 f fd ["spots", "numbers"] (aH K (lL κ)):=by
 refine ax.okN F Ae (by fin2) λ_ _ _ _ _ _ e=>⟨_,(ak (av (bI (by rfl) (by exact aX (osc:=ai jK) (xs:=["number"]) (ns:=["spots"]) (by decide +kernel)) (aP.cons 0 aP.nil) (aN (dv 1)) (λ_ _ _ _ _=>bB) (λ_ _ _ _ _=>(ao (dv 1) (dv 0)))))),?_⟩
 rintro j Q Ed ⟨a,d,rfl,h⟩;x_go;unfold iP at h;obtain⟨b,rfl,c,g,h⟩:=h;lk;refine PD.comp_map b (λ(k:Nat)=>D.int (k:Int)) (λ_=>true) (λi=>Ov (a.getD i (0,0))) (λR q=>?_) (by rw[sizeLine_eq];lia) (λi b K a=>?_) (λi b _ K a=>?_) ?_;lk;rw[Pp];exact q;lk;exact a;lk;have l:=c i b;exact⟨_,bf (by rw[PO,O2 l,Py,O2 l];rfl),a⟩;rw[Sd.mpr (λ_ _=>rfl)];unfold oE at h;rw[Pp]at h;exact h
def Cu (F:ax K "part_of" "part_of" kO f fd) (C:Pn K mg κ)    : aF P w K mg base (CX1 P w) 1 f fd ["group", "part"] (aH K (mX κ)):=by
 refine ax.okN F CG (by fin2) λ_ _ _ _ _ _ e=>⟨_,(ak (av (aQ (aa (bI (by rfl) (by exact aX (osc:=ai kO) (xs:=["index"]) (ns:=["group"]) (by decide +kernel)) (aP.cons 0 aP.nil) (aN (ao (dv 1) ae)) (λ_ _ _ _ _=>bB) (λ_ _ _ _ _=>(ao (dv 1) (dv 0)))) (aa (ao (dv 1) ae) af))))),?_⟩
 rintro j Q Ed ⟨b,d,rfl,h⟩;x_go;unfold gJ at h;obtain⟨a,x,rfl,g,c,h⟩:=h;lk;refine PD.comp_map a (λ(k:Nat)=>D.int (k:Int)) (λ_=>true) (λk=>D.int (b.getD k 0)) (λR q=>?_) (by rw[sizeLine_eq];lia) (λi b K a=>?_) (λi b _ K a=>?_) ?_;lk;exact q;lk;exact a;lk;have l:=c i b;exact⟨_,bf (by rw[PO,O2 l,Py,O2 l];rfl),a⟩;rw[Sd.mpr (λ_ _=>rfl)];lk;rw[Pp]at h;exact⟨TL _ _,h⟩
def GV (F:ax K "dealt" "dealt" lZ f fd) (C:Pn K mg κ)  (a:FH P w K mg base κ) (e:wY P w K mg base κ) (d:C7 P w K mg base κ) (b:BL P w K mg base κ) (j:mg "list" = none) (i:mg "range" = none) (h:mg "sum" = none) (g:mg "zip" = none):aF P w K mg base (CX1 P w) 9 f fd ["spots", "sizes"] (aH K (rL κ)):=by
 refine ax.okN F rG (by fin2) λ_ _ _ _ _ _ c=>⟨_,(aj (bJ PassesOwn.never rfl (aN (aq a c (aa ((B2 rfl (by rfl) j (by rfl) i (az (IJ rfl) (by rfl) h boot_sum (aa (dv 1) af)))).TZ (aa (dv 1) af)))) (aZ 2 rG.nd) (aj (aE 3 rG.nd (aq e c (aa (bI (by rfl) (by exact aX (osc:=ai lZ) (xs:=["group"]) (ns:=["spots"]) (by decide +kernel)) (aP.cons 0 aP.nil) (aN (dv 2)) (λ_ _ _ _ _=>bB) (λ_ _ _ _ _=>(aq b c (aa (dv 1) (aa (dv 0) af))))) af))) (ak (aR (aC (Ic (by exact c.units)) (ao (dv 3) ae) ot) (ak (av (aQ (aa (j6 (by rfl) (by exact aX (osc:=ai lZ) (xs:=["group", "part"]) (ns:=[]) (by decide +kernel)) aP.nil (.cons (.cons .nil)) (sS (by rfl) g (aa (dv 2) (aa (ao (dv 3) ae) af))) (λ_ _ _ _ _=>bB) (λ_ _ _ _ _=>(DN d (c.mono (by decide)) (aa (dv 0) (aa (dv 1) af))))) (aa (ao (dv 3) ae) af))))) aG)))) (ak (av dA))),?_⟩
 rintro N Q Ed ⟨b,d,rfl,h⟩;x_go;unfold mH at h;obtain⟨k,j,rfl,a,s,J,p,h⟩:=h;have t:T8 [k,j] [0,1,2,3]=(if k=1 then dQ else eN).map λg=>g.map λG=>G.map λ(k:Nat)=>(k:Int):=by
  rcases a with⟨rfl,rfl⟩| ⟨rfl,rfl⟩;exact MU;exact MV
 have n:∀g∈(if k=1 then dQ else eN),g∈dQ++eN:=λg e=>by split at e;exact Uj _ e;exact Rw _ e
 have a:(k:Int)+((j:Int)+0)=4/\k<=3/\j<=3:=by lia
 generalize (if k=1 then dQ else eN)=dl at *;lk;refine PD.bE dl (λg=>VL (g.map λG=>G.map λ(k:Nat)=>(k:Int))) (λi o=>∃m l:Option Sl,o=[some (.val (.lst false (b.map Ov))),some (.val (.tup [.int (k:Int),.int (j:Int)])),m,l]/\∀r,Dt b (dl.drop i) r->Q (B5 r)) (λR q=>?_) ⟨none,none,rfl,h⟩ ?_ ?_;lk;refine⟨[(k:Int),(j:Int)],rfl,4,?_,by decide,k,j,rfl,a.2.1,a.2.2,by decide,?_⟩;show D.int ((k:Int)+((j:Int)+0))=_;rw[a.1];rfl;rw[show(List.range 4).map (λ(k:Nat)=>(k:Int))=[0,1,2,3]from rfl,t,Pp];exact q;rintro i g t a ⟨m,l,rfl,h⟩;obtain⟨o,j⟩:=QH.mp a;rw[WY o,j]at h;have e:=n g (Ql a);have L:=Ib s p e;obtain⟨A,B,p,_,_,n,j,o,_⟩:=sD g e;have M:g.length=2:=by rw[p];rfl
 have e:∀G∈g,G.length<=3/\∀i∈G,i<b.length:=λG hG=>by
  rw[p]at hG;rcases OK.mp hG with rfl|hG;exact⟨n,λi a=>by have:=o i (by simp[a]);lia⟩;rw[QY.mp hG];exact⟨j,λi a=>by have:=o i (by simp[a]);lia⟩
 unfold VL;lk;refine PD.comp_map g (λG=>D.lst true ((G.map λ(k:Nat)=>(k:Int)).map D.int)) (λ_=>true) (λG=>oE (G.map λi=>b.getD i (0,0))) (λR q=>?_) (by rw[sizeLine_eq];lia) (λG hG K a=>?_) (λG hG _ K a=>?_) ?_;lk;rw[Pp];exact q;lk;exact a;obtain⟨g3,e⟩:=e G hG;lk;exact⟨G,rfl,e,by lia,a⟩;rw[Sd.mpr (λ_ _=>rfl),show(g.map λG=>oE (G.map λi=>b.getD i (0,0)))=(Rv b g).map oE by unfold Rv;rw[Pp];rfl,bq,lN,kx,dD];refine⟨L,λd j=>?_⟩;have i:∀x:Str,PyData.strOk x=true->okD (.str x):=λx a=>(JC 0 x a).ok
 rcases Cb L j with⟨y,rfl,e,u⟩| ⟨o,rfl,_⟩;unfold iJ;lk;rw[j7,Og rfl];refine⟨i _ (by decide +kernel),i _ (by decide +kernel),?_⟩;have n:=h (some (grO b g y,y)) (.inl ⟨y,j,rfl⟩);have E:(Rv b g).length=g.length:=Of _;refine PD.iR (g.zip ((Rv b g).map (TM y))) (λz=>[D.lst true ((z.1.map λ(k:Nat)=>(k:Int)).map D.int),cA z.2]) (λ_=>true) (λz=>cA (z.2.1.map (λk=>z.1.getD k 0),z.2.2)) (λR q=>?_) (by rw[zDO,sizeLine_eq];lia) (λ_=>rfl) (λz a K d=>?_) (λz a _ K d=>?_) ?_;lk;rw[show(g.map λG=>G.map λ(k:Nat)=>(k:Int)).map (λG=>D.lst true (G.map D.int))=g.map λG=>D.lst true ((G.map λ(k:Nat)=>(k:Int)).map D.int)by rw[Pp];rfl,Fz];exact q;lk;exact d;have ZX:=zy a;have I:=M6 e a;have e:(z.2.1.map λ(k:Nat)=>D.int (k:Int))=(z.2.1.map λ(k:Nat)=>(k:Int)).map D.int:=by rw[Pp];rfl
 have H:=I.l3;unfold cA Ra at d ⊢;lk;refine⟨_,_,_,rfl,λa=>?_⟩;rw[e,bq,bq,cn,cn,<- e,nK,gJ];refine⟨z.2.1,.ra a,rfl,by lia,λk d=>by rw[Of];have:=I.lt k d;rwa [Of]at this,_,rfl,?_⟩;rw[show(z.2.1.map λk=>(z.1.map λ(k:Nat)=>(k:Int)).getD k 0).map D.int=(z.2.1.map λk=>z.1.getD k 0).map λ(k:Nat)=>D.int (k:Int)by rw[Pp,Pp];exact Wv λk _=>congrArg D.int (Gw z.1 k)];exact d;rw[Sd.mpr (λ_ _=>rfl)];lk;rw[show(g.zip ((Rv b g).map (TM y))).map (λz=>cA (z.2.1.map (λk=>z.1.getD k 0),z.2.2))=(grO b g y).map cA by unfold grO;rw[Pp];rfl];exact⟨TL _ _,n⟩;unfold uj;lk;rw[Oc (by rw[AL];decide)];exact⟨i _ (by decide +kernel),i _ (by decide +kernel),_,_,rfl,λr c=>h r (.inr ⟨o,j,c⟩)⟩;rintro t ⟨m,l,rfl,h⟩;rw[List.drop_length]at h;lk;exact h none rfl
def uB (F:ax K "first_dealt" "first_dealt" jj f fd) (C:Pn K mg κ)  (A:Iv P w K mg base κ)  : aF P w K mg base (CX1 P w) 10 f fd ["spots", "choices"] (aH K (iw κ)):=by
 refine ax.okN F ir (by fin2) λ_ _ _ _ _ _ b=>⟨_,(aj (bJ PassesOwn.never rfl (D6 (dv 1)) (aZ 2 ir.nd) (aj (aE 3 ir.nd (aq A b (aa (dv 0) (aa (dv 2) af)))) (ak (aR (aC pU (dv 3) dA) (ak (av (dv 3))) aG)))) (ak (av dA))),?_⟩
 rintro E Q Ed ⟨g,d,rfl,h⟩;x_go;unfold fq at h;obtain⟨rfl,m,u,l,h⟩:=h;lk;refine PD.bE [(1,3),(2,2)] (λ(z:Nat×Nat)=>D.tup [.int (z.1:Int),.int (z.2:Int)]) (λi a=>∃j d:Option Sl,a=[some (.val (.lst false (g.map Ov))),some (.val (.tup [.tup [.int 1,.int 3],.tup [.int 2,.int 2]])),j,d]/\(i=0∨(i=1/\Dt g dQ none)∨(i=2/\Dt g (dQ++eN) none))) (λR q=>?_) ⟨none,none,rfl,.inl rfl⟩ ?_ ?_;lk;exact q;rintro i z B k ⟨j,d,rfl,a⟩;have n:(i=0/\z=(1,3))∨(i=1/\z=(2,2)):=by
  rcases i with _|_|i;exact .inl ⟨rfl,(SO k).symm⟩;exact .inr ⟨rfl,(SO k).symm⟩;simp at k
 lk;refine⟨z.1,z.2,rfl,?_,m,u,l,λr b=>?_⟩;rcases n with⟨_,rfl⟩| ⟨_,rfl⟩;exact .inl ⟨rfl,rfl⟩;exact .inr ⟨rfl,rfl⟩;have c:∀x,Dt g (dQ++eN) (some x)->Q (Ui x.1 x.2):=λx o=>by obtain⟨t,y,e,G⟩:=AI m l o;cases e;exact h t y o G
 rcases n with⟨rfl,rfl⟩| ⟨rfl,rfl⟩;rw[Og rfl]at b;cases r with
 |none =>
  rw[Oc (by simp[B5,dZ])];exact⟨_,_,rfl,.inr (.inl ⟨rfl,b⟩)⟩
 |some x =>
  rw[Og (by rfl)];exact c x (xS b (λe=>by cases e) λ_ e=>e)
 rw[Oc (by decide)]at b;rcases a with a|⟨_,a⟩| ⟨a,_⟩;cases a;have p:=xS (s:=r) a (λ_=>b) λ_ e=>by cases e
 cases r with
 |none =>
  rw[Oc (by simp[B5,dZ])];exact⟨_,_,rfl,.inr (.inr ⟨rfl,p⟩)⟩
 |some x =>
  rw[Og (by rfl)];exact c x p
 cases a;rintro B ⟨j,d,rfl,a⟩;rcases a with a|⟨a,_⟩| ⟨_,a⟩;cases a;cases a;obtain⟨_,_,e,_⟩:=AI m l a;cases e
def wx (F:ax K "two_groups" "two_groups" ko f fd) (C:Pn K mg κ)  (c:v7 P w K mg base κ) (d:mg "len" = none):aF P w K mg base (CX1 P w) 11 f fd ["spots"] (aH K (jy κ)):=by
 refine ax.okX F wz (by fin2) λ_ _ _ _ _ _ Ed b a e i=>⟨_,(aj (aR (aC fP (az bg (by rfl) d Rr (aa (dv 0) af)) ae) (ak (Gm a (by rfl) C.P9 C.Qe rfl (aa ot af))) aG) (ak (av (aq c b (aa (dv 0) (aa (Gh C.R4) af)))))),?_⟩
 rintro j Q ⟨g,rfl,h⟩;x_go;unfold cD at h;obtain⟨a,c,b,h⟩:=h;lk;rw[Of];split;exact⟨by rw[sizeLine_eq];simp,b (by lia)⟩;exact⟨rfl,by lia,a,c,h (by lia)⟩
def yR (F:ax K "_law_spots" "_law_spots" k9 f fd) (C:Pn K mg κ)  (c:BK P w K mg base κ) (b:wZ P w K mg base κ)  : aF P w K mg base (CX1 P w) 2 f fd ["_law_first", "_law_cells", "_law_least"] (aH K (ky κ)):=by
 refine ax.okN F gN (by fin2) λ_ _ _ _ _ _ a=>⟨_,(aj (aE 3 gN.nd (ao (bO (aa (aQ (aa ae (aa ae (aa ae af)))) (aa (aQ (aa ae (aa ae (aa ae af)))) (aa (aQ (aa ae (aa ae (aa (b6 ae) af)))) (aa (aQ (aa ae (aa (b6 ae) (aa ae af)))) (aa (aQ (aa ae (aa ae (aa ae af)))) af)))))) (au bT (au hW (dv 0) ae) ae))) (aj (gE 4 gN.nd af) (aj (bJ PassesOwn.never rfl (aN (R3.TZ (eK (au bc (dv 1) (aq b a (aa (dv 0) (aa (au bc (dv 2) (au bT (au hW (dv 0) ae) ae)) af)))) cf (cw ae)))) (aZ 5 gN.nd) (ak (iS 4 (aq c a (aa (au bT (dv 0) ae) (aa (aq b a (aa (dv 5) (aa ae af))) (aa (dv 3) af))))))) (cG 4 (ak (av (dv 4))))))),?_⟩
 rintro u Q Ed ⟨f,g,m,rfl,h⟩;x_go;unfold eV at h;obtain⟨rfl,s,h⟩:=h;have c:=λn:Int=>fm (a:=n) (b:=5) (by decide)
 have t:=fm (a:=f.fdiv 30) (b:=4) (by decide);lk;refine⟨Uh _ _ _,Uh _ _ _,Uh _ _ _,Uh _ _ _,Uh _ _ _,by rw[sizeLine_eq];decide,CD.lit,by decide,?_⟩;refine Di (c _).1 (by have:=(c (f.fdiv 6)).2;simpa using this) λd a=>⟨QS _,?_⟩
 obtain⟨e,c,b,rfl,l,k,i⟩:∃e c b:Int,d=T3 e c b/\Bd 8 e/\Bd 8 c/\Bd 8 b:=by
  simp only[OK,TN,or_false]at a;rcases a with rfl|rfl|rfl|rfl|rfl<;>exact⟨_,_,_,rfl,by unfold Bd;decide,by unfold Bd;decide,by unfold Bd;decide⟩
 unfold xF;lk;refine⟨CD.lit,by decide,by lia,by lia,λa r y=>⟨by rw[Of,Of,sizeLine_eq];lia,?_⟩⟩;rw[<- Q1,show PD.cutD ((g++a).map D.int) none (some 30)=((g++a).take 30).map D.int from F9 _ _ 30];refine⟨λj d=>∃(a:yau) (v:Option Sl),d=[some (.val (.int f)),some (.val (.lst false (g.map D.int))),some (.val (.int 4)),some (.val (T3 e c b)),some (.own (a.map Ov)),v]/\a.length=j/\∀p∈a,WB 40 p,⟨[],none,rfl,rfl,by simp⟩,?_,?_⟩;rintro j x g b ⟨a,v,rfl,d,e⟩;rw[PO]at b;obtain⟨c,c,rfl⟩:=U7.mp b;have b:=(QH.mp c).1;rw[S4]at b;lk;refine⟨by decide,by decide,by decide,λo c b=>?_⟩;refine⟨by rw[c];rfl,b,l,k,i,λp c=>⟨by rw[Of,sizeLine_eq];lia,a++[p],_,by rw[Q1];rfl,by rw[QX,d];rfl,λq b=>?_⟩⟩;rcases Qn.mp b with b|b;exact e q b;rw[QY.mp b];exact c;rintro g ⟨a,v,rfl,d,e⟩;rw[Of,S4,QX]at d;lk;exact h a (by lia) (by lia) e
def zV (F:ax K "_law_list" "_law_list" mO f fd) (C:Pn K mg κ)  (d:qp P w K mg base κ) (c:mg "isinstance" = none) (b:mg "len" = none) (e:mg "list" = none):aF P w K mg base (CX1 P w) 2 f fd ["_law_found", "_law_least", "_law_most"] (aH K (lH κ)):=by
 refine ax.okN F qz (by fin2) λ_ _ _ _ _ _ a=>⟨_,(aj (aR (Sk.pt (cP (bK (bQ (eI (by rfl) c (by rfl) e boot_list (.inr (.inr (.inr (.inl rfl)))) (dv 0)))) (eO (bK (Gn wL wL ae (az bg (by rfl) b Rr (aa (dv 0) af)) ae))))) (ak (av fe)) aG) (aj (bJ PassesOwn.never rfl (aN (dv 0)) (aZ 3 qz.nd) (ak (aR (Sk.pt (cP (bK (bQ (aq d a (aa (dv 3) af)))) (cP (aC fP (dv 3) (dv 1)) (eO (Sk.pt (xV (aC pU (dv 2) dA) (uv (aC Cn (dv 3) (dv 2))))))))) (ak (av fe)) aG))) (ak (av fe)))),?_⟩
 rintro o Q Ed ⟨b,a,d,rfl,h⟩;x_go;unfold iM at h;obtain⟨l,k,g,e,h⟩:=h;lk;rw[Of,Og (by lia),Og (by lia)];refine Gu b D.int (λc=>∃v:Option Sl,c=[some (.val (.lst false (b.map D.int))),some (.val (.int a)),some (.val d),v]) (λR q=>?_) ⟨none,rfl⟩ ?_ ?_;lk;exact q;rintro n c a ⟨v,rfl⟩;have j:=g n a;rcases e with rfl|⟨m,rfl,b⟩;lk;rw[Oc (by lia)];exact⟨_,rfl⟩;have i:=b n a;lk;rw[Oc (by lia),Oc (by lia)];exact⟨_,rfl⟩;rintro c ⟨v,rfl⟩;lk;exact h
def yQ (F:ax K "_law_group" "_law_group" fK f fd) (C:Pn K mg κ)  (Y:BJ P w K mg base κ) (Ob:mg "isinstance" = none) (t:mg "len" = none) (Ot:mg "range" = none) (B:mg "sum" = none) (O9:mg "tuple" = none) (PK:mg "zip" = none):aF P w K mg base (CX1 P w) 3 f fd ["_law_group_here", "_law_spots_here", "_law_spot_here"] (aH K (gS κ)):=by
 refine ax.okN F da (by fin2) λ_ _ _ _ _ _ M=>⟨_,(aj (aR (Sk.pt (cP (bK (bQ (eI (by rfl) Ob (by rfl) O9 boot_tuple (.inr (.inr (.inl rfl))) (dv 0)))) (eO (aC kf (az bg (by rfl) t Rr (aa (dv 0) af)) ae)))) (ak (av fe)) aG) (aj (Lk (dv 0) (sN (n:=2) rfl (fU (aZ 6 da.nd) (fU (aZ 7 da.nd) pO)))) (aj (aR (Sk.pt (cP (bK (bQ (aq Y M (aa (dv 6) (aa ae (aa (az bg (by rfl) t Rr (aa (dv 1) af)) af)))))) (cP (bK (bQ (aq Y M (aa (dv 7) (aa ae (aa dA af)))))) (eO (aC kf (az bg (by rfl) t Rr (aa (dv 6) af)) (az bg (by rfl) t Rr (aa (dv 7) af))))))) (ak (av fe)) aG) (aj (bJ PassesOwn.never rfl (vG (by rfl) Ot (aa ae (aa (az bg (by rfl) t Rr (aa (dv 6) af)) af))) (aZ 3 da.nd) (ak (aR (aC Cn (ao (dv 6) (au bo (dv 3) ae)) (ao (dv 6) (dv 3))) (ak (av fe)) aG))) (aj (aE 4 da.nd (az (nY rfl) (by rfl) B boot_sum (aa (j6 (by rfl) (by exact aX (osc:=ai fK) (xs:=["_law_number", "_law_share"]) (ns:=["_law_spots_here"]) (by decide +kernel)) (aP.cons 1 aP.nil) (.cons (.cons .nil)) (sS (by rfl) PK (aa (dv 6) (aa (dv 7) af))) (λ_ _ _ _ _=>bB) (λ_ _ _ _ _=>(au aA (dv 1) (ao (ao (dv 2) (dv 0)) ae)))) af))) (aj (aE 5 da.nd (az (nY rfl) (by rfl) B boot_sum (aa (j6 (by rfl) (by exact aX (osc:=ai fK) (xs:=["_law_number", "_law_share"]) (ns:=["_law_spots_here"]) (by decide +kernel)) (aP.cons 1 aP.nil) (.cons (.cons .nil)) (sS (by rfl) PK (aa (dv 6) (aa (dv 7) af))) (λ_ _ _ _ _=>bB) (λ_ _ _ _ _=>(au aA (dv 1) (ao (ao (dv 2) (dv 0)) ae)))) af))) (ak (av (oh (j5 bS (au aA (ao (dv 2) ae) (az (nY rfl) (by rfl) B boot_sum (aa (dv 7) af))) (au aA (dv 4) (ao (dv 2) ae))) (oo (j5 bS (au aA (ao (dv 2) ae) (az (nY rfl) (by rfl) B boot_sum (aa (dv 7) af))) (au aA (dv 5) (ao (dv 2) ae))))))))))))),?_⟩
 rintro ds Q Ed ⟨d,g,r,A,y,rfl,h⟩;x_go;unfold eU at h;obtain⟨c,e,rfl,I,hl,hb,H,h⟩:=h;have ek:(c.map λ(k:Nat)=>D.int (k:Int))=(c.map λ(k:Nat)=>(k:Int)).map D.int:=by rw[Pp];rfl
 unfold cH;rw[ek];have lk:(c.map λ(k:Nat)=>(k:Int)).length=c.length:=Of _;have l0:=I.l0;have l3:=I.l3;have L:=I.ls;have O:∀i (N:i<c.length),(c.map λ(k:Nat)=>(k:Int))[i]?=some ((c[i]:Nat):Int):=λi N=>by rw[PO,O2 N];rfl
 have J:∀k,k<g.length->g[k]?=some (g.getD k (0,0)):=λk m=>by rw[Py,O2 m];rfl
 lk;rw[Og (by rfl),lk];refine⟨by lia,by lia,λn s=>?_,.inr λn s=>?_,by lia,by lia,λn s=>by have:=I.pos n s;lia,.inl True.intro,?_⟩;obtain⟨k,_,rfl⟩:=OZ.mp s
 lia
 obtain⟨k,m,rfl⟩:=OZ.mp s;rw[Of];have:=I.lt k m
 lia
 rw[Og (by rw[Of,lk,Of,L])];refine PD.bE (List.range' 1 (c.length - 1)) (λ(k:Nat)=>D.int (k:Int)) (λ_ ρ=>∃E:Option Sl,ρ=[some (.val (.tup [.lst false ((c.map λ(k:Nat)=>(k:Int)).map D.int),.lst false (e.map D.int)])),some (.val (.lst false (g.map Ov))),some (.val (T3 r A y)),E,none,none,some (.val (.lst false ((c.map λ(k:Nat)=>(k:Int)).map D.int))),some (.val (.lst false (e.map D.int)))]) (λR q=>?_) ⟨none,rfl⟩ ?_ ?_;lk;rw[Of,lk];have:=Bl 1 c.length;rw[show((1:Nat):Int)=1 from rfl]at this;rw[this];exact⟨⟨by lia,by lia⟩,⟨by lia,by lia⟩,q⟩;rintro j k Oh hj ⟨E,rfl⟩;obtain⟨SN,ej⟩:=QH.mp hj;rw[Ub]at SN;rw[Zn,Nat.one_mul]at ej;obtain⟨o,rfl⟩:∃o,k=o+1:=⟨j,by lia⟩;have m:o+1<c.length:=by lia
 lk;have a1:Qw ((c.map λ(k:Nat)=>(k:Int)).map D.int) (((o+1:Nat):Int) - 1)=some (D.int ((c[o]:Nat):Int)):=by rw[show(((o+1:Nat):Int) - 1)=(o:Int)by lia];exact bf (j:=o) (by rw[PO,O o (by lia)];rfl)
 refine⟨_,a1,_,bf (j:=o+1) (by rw[PO,O (o+1) m];rfl),?_⟩;rw[kg];refine⟨_,rfl,?_⟩;rw[Oc (by rw[decide_eq_true_eq];have:=Vr.mp I.rise o (o+1) (by lia) m (by lia);lia)];exact⟨_,rfl⟩;rintro Oh ⟨E,rfl⟩;have zl:(c.zip e).length=c.length:=by rw[zDO,L,Nat.min_self]
 have p:∀z∈c.zip e,z.1<g.length/\Bd 900 z.2:=λz l=>⟨I.lt _ (Xc (a:=z.1) (b:=z.2) l).1,I.bd _ (Xc (a:=z.1) (b:=z.2) l).2⟩
 have u:∀z∈c.zip e,WB 40 (g.getD z.1 (0,0)):=λz l=>hb _ (Ql (J z.1 (p z l).1))
 have bs:=wR e I.bd;have bX:Bd 1000 (zX g (c.zip e)):=(wR ((c.zip e).map λz=>z.2*(g.getD z.1 (0,0)).1) (n:=940) λx G=>by obtain⟨z,l,rfl⟩:=OZ.mp G;exact((p z l).2.mul (u z l).x).mono (by lia)).mono (by rw[Of];lia)
 have bY:Bd 1000 (zY g (c.zip e)):=(wR ((c.zip e).map λz=>z.2*(g.getD z.1 (0,0)).2) (n:=940) λx G=>by obtain⟨z,l,rfl⟩:=OZ.mp G;exact((p z l).2.mul (u z l).y).mono (by lia)).mono (by rw[Of];lia)
 lk;refine PD.iR (c.zip e) (λz=>[.int ((z.1:Nat):Int),.int z.2]) (λ_=>true) (λz=>.int (z.2*(g.getD z.1 (0,0)).1)) (λR q=>?_) (by rw[sizeLine_eq];lia) (λ_=>rfl) (λz l K m=>?_) (λz l _ K m=>?_) ?_;lk;rw[rZ];exact q;lk;exact m;lk;refine⟨_,bf (by rw[PO,J z.1 (p z l).1];rfl),?_⟩;rw[show Ov (g.getD z.1 (0,0))=D.tup [.int (g.getD z.1 (0,0)).1,.int (g.getD z.1 (0,0)).2]from rfl];lk;exact⟨RE (p z l).2 (u z l).x,m⟩;rw[Sd.mpr (λ_ _=>rfl)];lk;refine⟨true,(c.zip e).map λz=>z.2*(g.getD z.1 (0,0)).1,by rw[Pp];rfl,?_⟩;refine PD.iR (c.zip e) (λz=>[.int ((z.1:Nat):Int),.int z.2]) (λ_=>true) (λz=>.int (z.2*(g.getD z.1 (0,0)).2)) (λR q=>?_) (by rw[sizeLine_eq];lia) (λ_=>rfl) (λz l K m=>?_) (λz l _ K m=>?_) ?_;lk;rw[rZ];exact q;lk;exact m;lk;refine⟨_,bf (by rw[PO,J z.1 (p z l).1];rfl),?_⟩;rw[show Ov (g.getD z.1 (0,0))=D.tup [.int (g.getD z.1 (0,0)).1,.int (g.getD z.1 (0,0)).2]from rfl];lk;exact⟨RE (p z l).2 (u z l).y,m⟩;rw[Sd.mpr (λ_ _=>rfl)];have U:Bd 1000 e.sum:=bs.mono (by lia);have T:Bd 1000 r:=H.b.mono (by decide);have c1:Bd 1000 A:=H.x.mono (by decide);have c2:Bd 1000 y:=H.y.mono (by decide);have ex:e.sum*A=r*zX g (c.zip e):=by rw[MN];exact I.x
 have ey:e.sum*y=r*zY g (c.zip e):=by rw[MP];exact I.y
 refine⟨true,(c.zip e).map λz=>z.2*(g.getD z.1 (0,0)).2,by rw[Pp];rfl,false,e,rfl,RE c1 U,RE bX T,?_⟩;rw[show((c.zip e).map λz=>z.2*(g.getD z.1 (0,0)).1).sum=zX g (c.zip e)from rfl,Og (show A*e.sum=zX g (c.zip e)*r by rw[Rx,ex,Rx])];refine⟨false,e,rfl,RE c2 U,RE bY T,?_⟩;rw[show((c.zip e).map λz=>z.2*(g.getD z.1 (0,0)).2).sum=zY g (c.zip e)from rfl,Wx (show y*e.sum=zY g (c.zip e)*r by rw[Rx,ey,Rx])];exact h
def zT (F:ax K "_law_good" "_law_good" mM f fd) (C:Pn K mg κ)  (g:zA P w K mg base κ) (e:ua P w K mg base κ) (c:mg "isinstance" = none) (a:mg "len" = none) (h:mg "list" = none) (d:mg "set" = none) (j:mg "tuple" = none):aF P w K mg base (CX1 P w) 4 f fd ["_law_found", "_law_spots_here", "_law_many"] (aH K (lE κ)):=by
 refine ax.okN F iQ (by fin2) λ_ _ _ _ _ _ b=>⟨_,(aj (aR (Sk.pt (cP (bK (bQ (eI (by rfl) c (by rfl) j boot_tuple (.inr (.inr (.inl rfl))) (dv 0)))) (cP (aC kf (az bg (by rfl) a Rr (aa (dv 0) af)) ae) (eO (bK (bQ (aq e b (aa (ao (dv 0) ae) af)))))))) (ak (av fe)) aG) (aj (aR (Sk.pt (cP (bK (bQ (eI (by rfl) c (by rfl) h boot_list (.inr (.inr (.inr (.inl rfl)))) (ao (dv 0) ae)))) (eO (aC kf (az bg (by rfl) a Rr (aa (ao (dv 0) ae) af)) (dv 2))))) (ak (av fe)) aG) (aj (aE 3 iQ.nd (bO af)) (aj (bJ PassesOwn.never rfl (aN (ao (dv 0) ae)) (aZ 4 iQ.nd) (aj (aR (bK (bQ (aq g b (aa (dv 4) (aa (dv 1) (aa (ao (dv 0) ae) af)))))) (ak (av fe)) aG) (ak (aE 3 iQ.nd (au bc (dv 3) (ao (dv 4) ae)))))) (ak (av (j5 bS (DQ rfl (by rfl) a (by rfl) d (dv 3)) (az bg (by rfl) a Rr (aa (dv 3) af))))))))),?_⟩
 rintro p Q Ed ⟨d,c,m,rfl,h⟩;x_go;unfold cW at h;obtain⟨rfl,⟨a,y,rfl,G⟩,g,l,h⟩:=h;unfold UH;lk;rw[Og (by rfl)];show eE κ [T3 y.1 y.2.1 y.2.2] _ _;rw[i6,et];refine⟨G.pr,true,rfl,?_⟩;have n:=G.two;rw[Oc (by decide),Of,Og (by lia)];refine⟨QS _,?_⟩;refine PD.bE a cH (λj d=>∃b:Option Sl,d=[some (.val (.tup [.lst false (a.map cH),Ou y])),some (.val (.lst false (c.map Ov))),some (.val (.int 2)),some (.val (.lst true ((((a.take j).flatMap (·.1)).map λ(k:Nat)=>(k:Int)).map D.int))),b]) (λR q=>?_) ⟨none,rfl⟩ ?_ ?_;lk;exact q;rintro j q m d ⟨b,rfl⟩;have e:=G.ok q (Ql d);have i:j<2:=by have:=(QH.mp d).1;lia
 lk;rw[qE];show gS κ [cH q,D.lst false (c.map Ov),T3 y.1 y.2.1 y.2.2] _ _;rw[kQ,eU];refine⟨q.1,q.2,rfl,e,g,l,G.cb,true,rfl,?_⟩;rw[Oc (by decide),show cH q=D.tup [.lst false (q.1.map λ(k:Nat)=>D.int (k:Int)),.lst false (q.2.map D.int)]from rfl];lk;have g:=lP (l:=a.take j) (f:=λ(q:yag×yaf)=>q.1) (B:=3) λq c=>(G.ok q (zCn c)).l3
 have r:(a.take j).length<=2:=by rw[S4];lia
 have o:=e.l3;have e:((((a.take (j+1)).flatMap (·.1)).map λ(k:Nat)=>(k:Int)).map D.int)=((((a.take j).flatMap (·.1)).map λ(k:Nat)=>(k:Int)).map D.int)++(q.1.map λ(k:Nat)=>D.int (k:Int)):=by rw[va d,Q1,Q1,show(q.1.map λ(k:Nat)=>D.int (k:Int))=(q.1.map λ(k:Nat)=>(k:Int)).map D.int by rw[Pp];rfl]
 rw[e];exact⟨by rw[Of,Of,Of,sizeLine_eq];lia,_,rfl⟩;rintro m ⟨b,rfl⟩;rw[UT];lk;have g:=lP (l:=a) (f:=λ(q:yag×yaf)=>q.1) (B:=3) λq c=>(G.ok q c).l3
 refine⟨true,_,rfl,Zt.mpr (G.nd.imp λh e=>h (by lia)),by rw[Of];lia,?_⟩;rw[Of (f:=D.int),Wx rfl];exact h
def uF (F:ax K "_law_refused" "_law_refused" jr f fd) (C:Pn K mg κ)  (d:nQ P w K mg base κ) (c:mg "ValueError" = none) (a:mg "isinstance" = none):aF P w K mg base (CX1 P w) 12 f fd ["_law_spots_here"] (aH K (iF κ)):=by
 refine ax.okN F fz (by fin2) λ_ _ _ _ _ _ b=>⟨_,(aj (aE 1 fz.nd dA) (aj (IV 2 d (b.mono (by decide)) fz.nd C.Pc (aa (dv 0) af) (λ_=>(ak (aE 1 fz.nd (dv 2))))) (aj (aR (Sk.pt (cP (aC L7 (dv 1) dA) (cP (bK (bQ (jC (by rfl) a (pV (v:=.ref κ.TooFew) (by rfl) C.P9 rfl) (λu h=>h) (dv 1)))) (eO (bK (bQ (jC (by rfl) a (A7 (v:=.ty "ValueError") (by rfl) c (by rfl) rfl) (λu h=>h) (dv 1)))))))) (ak (av fe)) aG) (ak (av (oh (xN (jC (by rfl) a (pV (v:=.ref κ.TooMany) (by rfl) C.Qc rfl) (λu h=>h) (dv 1))) (oo (xN (jC (by rfl) a (pV (v:=.ref κ.NoDots) (by rfl) C.QB rfl) (λu h=>h) (dv 1)))))))))),?_⟩
 rintro i Q Ed ⟨e,rfl,h⟩;x_go;unfold c9 at h;obtain⟨g,a,h⟩:=h;lk;refine⟨by lia,a,λ_=>⟨_,rfl,C.QC,C.Oy,true,C.OM,?_⟩,λa=>absurd a (by lia)⟩;rw[Oc (by decide)];refine⟨true,C.Ox,?_⟩;rw[Oc (by decide)];refine⟨false,C.OH,?_⟩;rw[Og rfl];exact⟨false,C.OL,h⟩
def zU (F:ax K "_law_held" "_law_held" jJ f fd) (C:Pn K mg κ)   (a:mg "list" = none):aF P w K mg base (CX1 P w) 1 f fd ["_law_found"] (aH K (lF κ)):=by
 refine ax.okN F Ab (by fin2) λ_ _ _ _ _ _ c=>⟨_,(ak (av (aQ (aa (j6 (by rfl) (by exact aX (osc:=ai jJ) (xs:=["_law_numbers", "_law_shares"]) (ns:=[]) (by decide +kernel)) aP.nil (.cons (.cons .nil)) (aN (ao (dv 0) ae)) (λ_ _ _ _ _=>bB) (λ_ _ _ _ _=>(aQ (aa ((uq (by rfl) a (dv 0))).TZ (aa ((uq (by rfl) a (dv 1))).TZ af))))) (aa (ao (dv 0) ae) af))))),?_⟩
 rintro g Q Ed ⟨d,rfl,h⟩;x_go;unfold iL at h;obtain⟨a,y,rfl,e,h⟩:=h;unfold UH;lk;refine PD.iR a (λq=>[.lst false (q.1.map λ(k:Nat)=>D.int (k:Int)),.lst false (q.2.map D.int)]) (λ_=>true) cA (λR q=>?_) (by rw[sizeLine_eq];lia) (λ_=>rfl) (λz b K a=>?_) (λz b _ K a=>?_) ?_;lk;exact q;lk;exact a;unfold cA Ra at a;lk;exact⟨TL _ _,a⟩;rw[Sd.mpr (λ_ _=>rfl)];lk;exact⟨TL _ _,h⟩
def Ma (F:ax K "law" "law" jI f fd) (C:Pn K mg κ)  (Qu:we P w K mg base κ) (A:BH P w K mg base κ) (Rq:BI P w K mg base κ) (Qv:wj P w K mg base κ) (Q8:zC P w K mg base κ) (s:nQ P w K mg base κ) (OI:mg "list" = none):aF P w K mg base (CX1 P w) 13 f fd ["_law_script"] (aH K tP):=by
 refine ax.okB F gM (by fin2) λ_ _ _ _ _ _ c=>⟨_,(jQ (aE 1 gM.nd (aq Qu c (aa (dv 0) (aa ae af)))) (jQ (aE 2 gM.nd (aq Q8 c (aa (dv 1) (aa (R3.TZ (eK (dv 0) (cw ae) (cw ae))) (aa ae af))))) (jQ (IT 3 gM.nd (uq (by rfl) OI (dv 2))) (jQ (aE 4 gM.nd (IS 3 (aq s c (aa (dv 3) af)))) (jQ (aR (AH 3 (Sk.pt (cP (bK (bQ (aq A c (aa (dv 4) (aa (dv 2) (aa ae af)))))) (cP (aC (Co (by exact c.units)) (dv 3) (dv 2)) (eO (bK (bQ (aq Qv c (aa (R3.TZ (eK (dv 2) cf (cw (au bT (dv 1) ae)))) af))))))))) (ak (av fe)) aG) (Dk 0 (Dl (ix:=4) (iy:=5) (im:=6) (i1:=7) (i2:=8) (by rfl) (by rfl) (by rfl) (by rfl) (by decide) (Fd 5 gM.nd (aq Rq c (aa (dv 4) af))) (Fd 6 gM.nd (aq s c (aa (R3.TZ (xQ (dv 2))) af))) (Sk.pt (cP (bK (bQ (aq A c (aa (dv 6) (aa (R3.TZ (xQ (dv 2))) (aa ae af)))))) (eO (aC (Co (by exact c.units)) (dv 4) (dv 5))))) (Mp PassesOwn.never rfl (A9 (Ig yw (eR (i:=4) (by rfl) (by first|exact Or.inl rfl|exact Or.inr (Or.inl rfl)|exact Or.inr (Or.inr rfl)) (by decide) (by decide)) tH (by intro _ _;rfl))) (Mj rfl (yV (A8 (i:=7) gM.nd (by rfl) (by first|exact Or.inl rfl|exact Or.inr rfl)) (yV (A8 (i:=8) gM.nd (by rfl) (by first|exact Or.inl rfl|exact Or.inr rfl)) JO))) (Hb (jV (Cy PySem.F.plainAttrs_list PySem.F.slot_list_append PySem.F.type_list_append oG (eR (i:=7) (by rfl) (by first|exact Or.inl rfl|exact Or.inr (Or.inl rfl)|exact Or.inr (Or.inr rfl)) (by decide) (by decide)) (gw tH lW)) (by rfl)) (JR (jV (yU PySem.F.plainAttrs_list PySem.F.slot_list_clear PySem.F.type_list_clear yJ (eR (i:=8) (by rfl) (by first|exact Or.inl rfl|exact Or.inr (Or.inl rfl)|exact Or.inr (Or.inr rfl)) (by decide) (by decide))) (by rfl))))) (jV (yU PySem.F.plainAttrs_list PySem.F.slot_list_pop PySem.F.type_list_pop Eo (Ig yw (eR (i:=4) (by rfl) (by first|exact Or.inl rfl|exact Or.inr (Or.inl rfl)|exact Or.inr (Or.inr rfl)) (by decide) (by decide)) tH (by intro _ _;rfl))) (by rfl)) (jQ (Gk 3) (KC (av (oh (j5 (Ic (by exact c.units)) (aq s c (aa (dv 2) af)) (dv 5)) (oo (aq A c (aa (aq s c (aa (R3.TZ (eK (dv 2) cf (cw ae))) af)) (aa (R3.TZ (eK (dv 2) cf (cw ae))) (aa ae af)))))))))))))))),?_⟩
 rintro ds Q Ed ⟨ns,rfl,Y,h⟩;x_go;have L:∀(b:Bool) (B:yau),okD (.lst b (B.map Ov)):=λb B=>(P4.map L9).ok
 lk;refine⟨by decide,Y,λv=>?_⟩;have f4:=fm (a:=v) (b:=4) (by decide);rw[IK,cn,kR,eV];refine⟨rfl,by rw[S4];lia,λa E j m=>⟨_,_,rfl,?_⟩⟩;rw[cq,dw,cD];refine⟨j,m,λz=>absurd z (by lia),λ_ k y l G=>⟨IB k y,?_⟩⟩;rw[rR,bq,cq,fB,cW];refine⟨rfl,⟨k,y,rfl,G⟩,j,m,true,rfl,?_⟩;rw[Oc (by decide)];refine⟨L _ _,L _ _,?_⟩;rw[xX,Oc (by decide)];refine⟨by decide,true,_,rfl,?_⟩;rw[show v.fmod 4=(((v.fmod 4).toNat:Nat):Int)by lia,F9,cq,jz,c9];refine⟨by rw[S4];lia,λp n=>m p (zCn n),true,rfl,?_⟩;rw[Oc (by decide)];obtain⟨J,eF⟩:=HX k y;have O:a ≠ []:=λz=>by rw[z]at E;cases E
 have C:=G.two;have gn:k.map XQ ≠ []:=λz=>by rw[List.map_eq_nil_iff.mp z]at C;cases C
 unfold xJ AA;refine⟨k.map XQ,Ou y,by rw[J];rfl,rfl,gn,by rw[Of];lia,λg hg=>?_,λd l=>?_,λx H=>?_,?_⟩;obtain⟨q,U,rfl⟩:=OZ.mp hg;have I:=G.ok q U;have l3:=I.l3;have ls:=I.ls;exact⟨by show(q.1.map _).length<=9;rw[Of];lia,by show q.2.length<=9;lia⟩;simp at l;rcases l with rfl|rfl;exact Jc rfl;cases a with
 |nil=>exact absurd rfl O
 |cons p a=>exact Gr (i:=p.1) (ws:=[.int p.2]) (ds:=a.map Ov) (pT (p::a))
 simp at H;exact⟨_,H,pT a⟩;rw[eF];lk;rw[Fo];refine⟨k,y,rfl,by lia,?_⟩;have o:∀p∈a.reverse,WB 40 p:=λp n=>m p (zDF.mp n)
 rw[<- List.map_reverse,cq,dw,cD];refine⟨by rw[Ul];exact j,o,λz=>absurd z (by rw[Ul];lia),λ_ g x Te G'=>?_⟩;rw[rR,fB,cW];refine⟨rfl,⟨g,x,rfl,G'⟩,by rw[Ul];exact j,o,true,rfl,?_⟩;rw[Oc (by decide)];refine⟨(wM k y).2,(wM k y).1,MY k y,λd l=>?_,j,m,λz=>by lia,λ_ N y2 u G2=>?_⟩;simp at l;rcases l with rfl|rfl|rfl|rfl;exact FQ rfl;exact nR (pT a);rw[<- J];exact De rfl;rw[<- (HX g x).1];exact De rfl;have e:=DW l u;cases e;refine⟨(wM _ _).1,(wM _ _).1,?_⟩;rw[j7,Og rfl,show PD.cutD (a.map Ov) none (some 4)=(a.take 4).map Ov from F9 _ _ 4,cq,dw,cD];have T:(a.take 4).length=4:=by rw[S4];lia
 have r:∀p∈a.take 4,WB 40 p:=λp n=>m p (zCn n)
 refine⟨by lia,r,λz=>by lia,λ_ t M hd3 G3=>?_⟩;rw[rR,fB,cW];exact⟨rfl,⟨t,M,rfl,G3⟩,by lia,r,h⟩
end
def all_mk {l:PySem.W.OpenLaw} {K:yac} (X:K.In h) (G:h.Ns mainGlobals mg) (r:mg "law" = some (.ref fa))
 {R6:Option Addr} {R7:Array (yan)}
 {RT:Option Addr} {RU:Array (yan)}
 {RV:Option Addr} {RW:Array (yan)}
  {g:Option Addr} {e:Array (yan)} {i:Value}
  (e0:FL K "sign" y9)
  (e1:FL K "common_divisor" fY)
  (e2:FL K "lowest" mQ)
  (e3:FL K "picks" p4)
  (e4:FL K "value" uP)
  (e5:FL K "side" y8)
  (e6:FL K "crossed" oR)
  (e7:FL K "facing" rD)
  (e8:FL K "place_of" mR)
  (e9:FL K "swing" uO)
  (e10:FL K "arrow" uL)
  (e11:FL K "turn" za)
  (e12:FL K "back" y7)
  (e13:FL K "left_of" oS)
  (e14:FL K "chain" uM)
  (e15:FL K "hull" tK)
  (e16:FL K "thin_bounds" jt)
  (e17:FL K "bounds" mL)
  (e18:FL K "length" rE)
  (e19:FL K "are_opposite" ig)
  (e20:FL K "balance_of_two" fX)
  (e21:FL K "balance_of_three" cS)
  (e22:FL K "balance" oQ)
  (e23:FL K "reduced" oU)
  (e24:FL K "place" uN)
  (e25:FL K "mixture" iY)
  (e26:FL K "place_between" gK)
  (e27:FL K "clipped" kN)
  (e28:FL K "common" rB)
  (e29:FL K "owned_gauges" fu)
  (e30:FL K "with_share" kr)
  (e31:FL K "last_needed" jk)
  (e32:FL K "constant" jH)
  (e33:FL K "bars" tJ)
  (e34:FL K "bar_rows" jG)
  (e35:FL K "hulls_meet" eW)
  (e36:FL K "_law_whole" lg)
  (Y:FL K "_law_cell_at" jo)
  (U:FL K "_law_divisor" jq)
  (T:FL K "_law_is_place" iq)
  (Q:FL K "_law_stream" kj)
  (O:FL K "_law_spot" mP)
  (N:FL K "deals" rC)
  (M:FL K "deals" ik)
  (L:FL K "deals" ip)
  (J:FL K "spots_at" jK)
  (I:FL K "part_of" kO)
  (H:FL K "dealt" lZ)
  (E:FL K "first_dealt" jj)
  (B:FL K "two_groups" ko)
  (A:FL K "_law_spots" k9)
  (z:FL K "_law_list" mO)
  (y:FL K "_law_group" fK)
  (x:FL K "_law_good" mM)
  (u:FL K "_law_refused" jr)
  (t:FL K "_law_held" jJ)
  (C:PySem.W.nsIn K mainGlobals "law" = some (some (.ref f56))) (p:K.lookup f56=some ⟨i,g,.func (PySem.W.fnOf "law" "law" (fg jI) (cK jI) (ai jI) .none kV56 dc56 pm56 an56 cd56 ct56),e⟩) (c56:PySem.W.codeIn K cd56 "law" = true) (q:PySem.W.keepIn K (.ref f56)=true)
  (Pc:PySem.W.nsIn K mainGlobals "PlaneError" = some (some (.ref QR)))
  (QM:PySem.W.nsIn K mainGlobals "NoPlace" = some (some (.ref Tc)))
  (QB:PySem.W.nsIn K mainGlobals "NoDots" = some (some (.ref T9)))
  (P9:PySem.W.nsIn K mainGlobals "TooFew" = some (some (.ref OP)))
  (Qc:PySem.W.nsIn K mainGlobals "TooMany" = some (some (.ref Td)))
  (PV:PySem.W.nsIn K mainGlobals "SIZES_OF_TWO" = some (some (.ref QT))) (PW:K.lookup QT=some ⟨.type "tuple", R6,.seq #[.ref QF,.ref QG] VM,R7⟩)
  (Pu:K.lookup QF=some ⟨.type "tuple", RT,.seq #[.int 1 UK,.int 3 UL] Vn,RU⟩)
  (Pw:K.lookup QG=some ⟨.type "tuple", RV,.seq #[.int 2 UM,.int 2 UN] Vo,RW⟩)
  (Qe:PySem.W.excIn K OP C1 "ValueError.__new__" = true)
  (QC:PX.Gp K OP=true)
  (OJ:PySem.W.kitOne K (.ref OP) (.ref QR)=some true)
  (OW:PySem.W.kitOne K (.ref OP) (.ref Tc)=some false)
  (OL:PySem.W.kitOne K (.ref OP) (.ref T9)=some false)
  (OM:PySem.W.kitOne K (.ref OP) (.ref OP)=some true)
  (OH:PySem.W.kitOne K (.ref OP) (.ref Td)=some false)
  (Ox:PySem.W.kitOne K (.ref OP) (.type "ValueError")=some true)
  (Oy:PySem.W.exmOne K (.ref OP) (.ref QR)=some true)
  (O1:PySem.W.exmOne K (.ref OP) (.ref OP)=some true)
  (OX:PySem.W.nsIn K mainGlobals "ValueError" = some none) (j:PySem.W.nsIn K mainGlobals "abs" = some none) (Rl:PySem.W.nsIn K mainGlobals "bool" = some none) (O7:PySem.W.nsIn K mainGlobals "enumerate" = some none) (Sy:PySem.W.nsIn K mainGlobals "int" = some none) (c:PySem.W.nsIn K mainGlobals "isinstance" = some none) (a:PySem.W.nsIn K mainGlobals "len" = some none) (d:PySem.W.nsIn K mainGlobals "list" = some none) (Ss:PySem.W.nsIn K mainGlobals "max" = some none) (Su:PySem.W.nsIn K mainGlobals "min" = some none) (b:PySem.W.nsIn K mainGlobals "range" = some none) (n:PySem.W.nsIn K mainGlobals "set" = some none) (o:PySem.W.nsIn K mainGlobals "sorted" = some none) (k:PySem.W.nsIn K mainGlobals "sum" = some none) (m:PySem.W.nsIn K mainGlobals "tuple" = some none) (f:PySem.W.nsIn K mainGlobals "zip" = some none) :
  ∃ fd:FuncData,(∀(s:Shared) (v:Value),BindsTo s fd ⟨[v],[]⟩ [("_law_script", v)])/\∀base:Heap,K.In base->base.Ns mainGlobals mg->aF l.prog w K mg base (CX1 l.prog w) 13 fa fd ["_law_script"] (aH K tP):=by
 have e:=r.symm.trans (PySem.W.mg_of X G C);cases e;have OX:=PySem.W.mg_none_of X G OX;have j:=PySem.W.mg_none_of X G j;have Rl:=PySem.W.mg_none_of X G Rl;have O7:=PySem.W.mg_none_of X G O7;have Sy:=PySem.W.mg_none_of X G Sy;have c:=PySem.W.mg_none_of X G c;have a:=PySem.W.mg_none_of X G a;have d:=PySem.W.mg_none_of X G d;have Ss:=PySem.W.mg_none_of X G Ss;have Su:=PySem.W.mg_none_of X G Su;have b:=PySem.W.mg_none_of X G b;have n:=PySem.W.mg_none_of X G n;have o:=PySem.W.mg_none_of X G o;have k:=PySem.W.mg_none_of X G k;have m:=PySem.W.mg_none_of X G m;have f:=PySem.W.mg_none_of X G f;have C:Pn K mg ⟨QR,Tc,T9,OP,Td⟩:=⟨PySem.W.mg_of X G Pc,PySem.W.mg_of X G QM,PySem.W.mg_of X G QB,PySem.W.mg_of X G P9,PySem.W.mg_of X G Qc,⟨QT,[QF,QG],_,_,_,_,PySem.W.mg_of X G PV,PW,by simp,rfl,⟨_,_,rfl,⟨_,_,_,_,Pu,by simp,(.cons ⟨_,rfl⟩ (.cons ⟨_,rfl⟩ .nil))⟩,⟨_,_,rfl,⟨_,_,_,_,Pw,by simp,(.cons ⟨_,rfl⟩ (.cons ⟨_,rfl⟩ .nil))⟩,rfl⟩⟩⟩,Qe,PX.fT.of QC,OJ,OW,OL,OM,OH,Ox,Oy,O1⟩;refine⟨PySem.W.fnOf "law" "law" (fg jI) (cK jI) (ai jI) .none kV56 dc56 pm56 an56 cd56 ct56,λs v=>.of_eq rfl,λbase _ _=>?_⟩;have g:=e0.has l.prog w base X G λF=>JH F C
 have Oz:=e1.has l.prog w base X G λF=>qh F C j
 have r:=e2.has l.prog w base X G λF=>EF F C Oz
 have e:=e3.has l.prog w base X G λF=>GW F C b
 have s:=e4.has l.prog w base X G λF=>GZ F C
 have Sv:=e5.has l.prog w base X G λF=>JG F C g s
 have RN:=e6.has l.prog w base X G λF=>Cr F C
 have QD:=e7.has l.prog w base X G λF=>ED F C
 have Pq:=e8.has l.prog w base X G λF=>zZ F C
 have h:=e9.has l.prog w base X G λF=>GY F C
 have g:=e10.has l.prog w base X G λF=>GS F C
 have Q6:=e11.has l.prog w base X G λF=>JI F C
 have i:=e12.has l.prog w base X G λF=>JD F C
 have RM:=e13.has l.prog w base X G λF=>Cs F C
 have Sb:=e14.has l.prog w base X G λF=>GU F C h a
 have h:=e15.has l.prog w base X G λF=>JF F C Sb Pq a n o
 have Qr:=e16.has l.prog w base X G λF=>uG F C g i QD RM
 have Sw:=e17.has l.prog w base X G λF=>Ey F C RN Qr a b
 have i:=e18.has l.prog w base X G λF=>EE F C j
 have Qg:=e19.has l.prog w base X G λF=>tD F C Q6
 have Pt:=e20.has l.prog w base X G λF=>qg F C Qg i r
 have Pf:=e21.has l.prog w base X G λF=>nL F C r Q6 Ss Su
 have r:=e22.has l.prog w base X G λF=>Cp F C Pf Pt i a
 have RO:=e23.has l.prog w base X G λF=>Cv F C Oz
 have i:=e24.has l.prog w base X G λF=>GX F C RO
 have RQ:=e25.has l.prog w base X G λF=>Ct F C g r e Pq a
 have PU:=e26.has l.prog w base X G λF=>rf F C i s
 have g:=e27.has l.prog w base X G λF=>Cq F C PU Sv a b
 have i:=e28.has l.prog w base X G λF=>Ez F C g
 have Qi:=e29.has l.prog w base X G λF=>tF F C Sw h O7
 have QO:=e30.has l.prog w base X G λF=>wy F C
 have Qs:=e31.has l.prog w base X G λF=>uC F C g a
 have s:=e32.has l.prog w base X G λF=>zS F C k f
 have g:=e33.has l.prog w base X G λF=>JE F C r s Qs e d f
 have r:=e34.has l.prog w base X G λF=>zR F C QO o
 have QP:=e35.has l.prog w base X G λF=>wt F C r g i h RQ Qi a
 have g:=e36.has l.prog w base X G λF=>yS F C Rl Sy c
 have r:=Y.has l.prog w base X G λF=>uD F C a
 have h:=U.has l.prog w base X G λF=>uE F C j
 have s:=T.has l.prog w base X G λF=>tE F C h g c a m
 have T:=Q.has l.prog w base X G λF=>wu F C b
 have j:=O.has l.prog w base X G λF=>zW F C
 have h:=N.has l.prog w base X G λF=>EA F C a
 have i:=M.has l.prog w base X G λF=>EB F C h e a
 have h:=L.has l.prog w base X G λF=>EC F C i e a
 have i:=J.has l.prog w base X G λF=>z9 F C
 have o:=I.has l.prog w base X G λF=>Cu F C
 have e:=H.has l.prog w base X G λF=>GV F C h QP o i d b k f
 have h:=E.has l.prog w base X G λF=>uB F C e
 have e:=B.has l.prog w base X G λF=>wx F C h a
 have i:=A.has l.prog w base X G λF=>yR F C j T
 have h:=z.has l.prog w base X G λF=>zV F C g c a d
 have g:=y.has l.prog w base X G λF=>yQ F C h c a b k m f
 have f:=x.has l.prog w base X G λF=>zT F C g s c a d n m
 have b:=u.has l.prog w base X G λF=>uF F C e OX c
 have a:=t.has l.prog w base X G λF=>zU F C d
 exact Ma (AQ (st:=jI) p c56 q) C r f a b i e d
end LW
def PySem.W.Fast.te11195103776816087682:True:=trivial
def PySem.W.Fast.tw3777864760148337285:PySem.Program:=PySem.Challenge.pw_halvecut_k61_two_groups
theorem PySem.W.Fast.te3777864760148337285:PySem.Challenge.pw_halvecut_k61_two_groups=PySem.W.Fast.tw3777864760148337285:=rfl
namespace PySem.W.Fast
def tw3604285794084097162:=()
def tw2213872138996158718:=()
def tw13518741562929217948:=()
def tw12253200770938475815:=()
def tw14546737306117426566:=()
def tw9998134282771029519:=()
def tw11470263770952069271:=()
def tw14601206798823334029:=()
def tw15907970134637218623:=()
def tw5991142700665707165:=()
def tw1666264332002655240:=()
def tw1802086897396417346:=()
def tw1885737288782978737:=()
def tw13835876305351379449:=()
def tw10361108683027622365:=()
def tw13147845794824781246:=()
def tw6949840465991350495:=()
def tw13392573715125414922:=()
def tw16287439539918985379:=()
def tw9716564802171034053:=()
def tw3981113957128568094:=()
def tw1574344746394267450:=()
def tw6291543017256157463:=()
def tw11263933497597197868:=()
def tw991190944631071678:=()
def tw14956736732495804426:=()
def tw10462063747257285641:=()
def tw13456329301897892391:=()
def tw10119777543163245702:=()
def tw9927165830664381722:=()
def tw17151078807191979606:=()
def tw14406562954462457897:=()
def tw5042557056967250859:=()
def tw13856064310694836030:=()
def tw16638040395500459596:=()
def tw3416820440928360882:=()
def tw15663303350193503534:=()
def tw3934832263616873337:=()
def tw9670601281523381509:=()
def tw1982322898129060464:=()
def tw3994534239698924753:=()
def tw17642347853128914775:=()
def tw7506570545633886666:=()
def tw8558237808374715927:=()
def tw12432242446633745902:=()
def tw6786595829276376875:=()
def tw10300029134013425653:=()
def tw12400741158663651951:=()
def tw13693675369649183716:=()
def tw3216163387703082697:=()
def tw8524159239009693677:=()
def tw10541548645722377276:=()
def tw7103753821429510:=()
def tw5740405907055143:=()
def tw7497686196858046778:=()
def tw6234300465044819861:=()
def tw8797329231505896304:=()
def tw10682192668740871927:=()
def tw16866458006513535312:=()
def tw8398348289645639604:=()
def tw9538464779052183376:=()
def tw9069659761522915271:=()
def tw17250568679645270457:=()
def tw9367457814568217583:=()
def tw15041528143677315044:=()
def tw10185045340674139844:=()
def tw11669935993268856875:=()
def tw11889603007636914743:=()
def tw2371583404803026609:=()
def tw16395710957325321128:=()
def tw7222252587563170504:=()
def tw8275071890769548754:=()
def tw4433808809135756319:=()
def tw6402174001301341191:=()
def tw3318540493922863409:=()
def tw7556550989414092544:=()
def tw4062654039931059226:=()
def tw12717024164293486032:=()
def tw17665211883552837753:=()
def tw724857429252270381:=()
def tw14173929512236962822:=()
def tw7814014073164904154:=()
def tw15968140664708642121:=()
def tw12214649255662487654:=()
def tw12573307690334416444:=()
def tw5358847049148537638:=()
def tw9274780002730537323:=()
def tw9828156158363202771:=()
def tw11033486066169490191:=()
def tw5878535343787515668:=()
def tw6191231402822368929:=()
def tw4393714155919979776:=()
def tw7833236647800580771:=()
def tw2818178804168956499:=()
def tw6077845035041758449:=()
def tw2888220966030734353:=()
def tw10508658957814844915:=()
def tw5091896035097085995:=()
def tw1686957528407844810:=()
def tw2579291184777246037:=()
def tw1165191228810580488:=()
def tw17756674238870654060:=()
def tw16530794411011729969:=()
def tw7991206499309526504:=()
def tw4746135791011550095:=()
def tw4817269646673690335:=()
def tw16899883686954427754:=()
def tw7544125256268503570:=()
def tw9293997515145377984:=()
def tw17458734732485201650:=()
def tw15023138157374392889:=()
def tw15644564939212744366:=()
def tw14121568417552326287:=()
def tw6002938917577511314:=()
def tw9724368160154091147:=()
def tw6027676915558677649:=()
def tw7457202181145839731:=()
def tw8796221618514578815:=()
def tw10019666045326804459:=()
def tw8287729306580241421:=()
def tw540102773149750121:=()
def tw7808500220117874540:=()
def tw4370057860966493633:=()
def tw17486450860229725728:=()
def tw17998309549522805968:=()
def tw6102083433106761116:=()
def tw18271669550124785185:=()
def tw6416396162020490674:=()
def tw3833677072633859959:=()
def tw15090377610966375022:=()
def tw3295065948907229337:=()
def tw7773172786223627803:=()
def tw1376691842067298859:=()
def tw2485315631583861198:=()
def tw6014923782774842222:=()
def tw17585569254010108752:=()
def tw680637285951400218:=()
def tw3251497716062696530:=()
def tw14954316723714993894:=()
def tw14131872523790377792:=()
def tw15802392157090478452:=()
def tw4585360364017007791:=()
def tw3477111352815237974:=()
def tw4325617120584549494:=()
def tw12188489381845908834:=()
def tw12056192968137270497:=()
def tw1681290533201397571:=()
def tw10574395897025377932:=()
def tw10289110216534231091:=()
def tw3016948121594507009:=()
def tw15086370537557451463:=()
def tw3831983431055401070:=()
def tw2630348891605670001:=()
def tw14362822073226107822:=()
def tw16810359260934242978:=()
def tw15959337888099457545:=()
def tw3678482349375393713:=()
def tw16267267420548282077:=()
def tw16617817761780848055:=()
def tw12294082955423508928:=()
def tw14528189186963866316:=()
def tw5455269884026459880:=()
def tw17906836465607168203:=()
def tw14820511580703123863:=()
def tw11366025834719416897:=()
def tw3422539328550582602:=()
def tw16058081515709409643:=()
def tw2499474940894841036:=()
def tw5507562864797854160:=()
def tw5125477915093400983:=()
def tw18092317871262656525:=()
def tw7724088859521234086:=()
def tw5932101425706190340:=()
def tw5701934574495745353:=()
def tw4241832363044098361:=()
def tw2824316380023531746:=()
def tw13194666356996616210:=()
def tw13035923736424269470:=()
def tw12835343095335901898:=()
def tw10381131790092311414:=()
def tw15509146736120291797:=()
def tw6058977000820853403:=()
def tw17822388549430413101:=()
def tw5160679001563517577:=()
def tw11319169790697227055:=()
def tw1249128485396324543:=()
def tw17556731336234923590:=()
def tw9835234526683228580:=()
def tw9785716875568853783:=()
def tw928706384841671041:=()
def tw9200175796394089790:=()
def tw8755209451535312190:=()
def tw848640548117953635:=()
def tw790749506061318561:=()
def tw7518518858111435370:=()
def tw7446532289738374455:=()
def tw7254323876041278906:=()
def tw7145371470614914205:=()
def tw7023255693012854907:=()
def tw6835508221288668642:=()
def tw661694699363814619:=()
def tw6454779668395510559:=()
def tw6003124818320526635:=()
def tw5974132425570511255:=()
def tw576833191930532933:=()
def tw5475869289527479970:=()
def tw475479861674549854:=()
def tw4752077942826868918:=()
def tw4558959345593159363:=()
def tw4493202130529656376:=()
def tw372132126303018903:=()
def tw3649416934114489964:=()
def tw3600541476214267662:=()
def tw2781950290054069766:=()
def tw2473817697202707695:=()
def tw2254665146535446311:=()
def tw2045466047418091572:=()
def tw18168502117588227362:=()
def tw1816360799137549804:=()
def tw17524180670212807735:=()
def tw17405384690569003519:=()
def tw17200973404098149137:=()
def tw16936744265477054643:=()
def tw16703693943839873521:=()
def tw15449188295045335013:=()
def tw14272178126506991853:=()
def tw1344172883508617386:=()
def tw13099367611530428396:=()
def tw13079171543044257907:=()
def tw13045751987918289118:=()
def tw12748812354642210058:=()
def tw12429724388748017713:=()
def tw11688612904191631958:=()
def tw11680638682546650136:=()
def tw11655491207571224423:=()
def tw11005414695796030744:=()
def tw10743275577430766562:=()
def tw10468693533960252591:=()
def tw10233143337996071541:=()
def tw10018132903931974469:=()
def tw6600825650631656421:=()
def tw45597556500444629:=()
def tw17520727110637445570:=()
def tw9565418939868196093:=()
def tw8973152732012607591:=()
def tw8042572359427060581:=()
def tw5516745754433525548:=()
def tw5458002340092036651:=()
def tw4843227882670085873:=()
def tw4595715410594479631:=()
def tw16102833053444159744:=()
def tw11717054023903914687:=()
def tw11147426424499214304:=()
def tw8276448204662280440:=()
def tw14225962133437396836:=()
def tw9981674537268695769:=()
def tw8986176171887721938:=()
def tw10328893230391644595:=()
def tw15010328550828696706:=()
def tw7613706129373176748:=()
def tw5327698438859080223:=()
def tw4320636769513202470:=()
def tw2918249193333334955:=()
def tw16505681402409139742:=()
def tw14884791999753627122:=()
def tw13854599839585730925:=()
def tw13518704205803207857:=()
def tw10851683546333178783:=()
def tw6786097989400149750:=()
def tw2688489154019747063:=()
def tw14999211404489139297:=()
def tw3889848466338310458:=()
def tw7042718656276299593:=()
def tw5837716006307053978:=()
def tw2337087337791068119:=()
def tw6534408613073051720:=()
def tw6468215559287938562:=()
def tw9913359962550067312:=()
def tw7747173430371057247:=()
def tw956014053885633108:=()
def tw9480713904733678526:=()
def tw8309367841356846714:=()
def tw7840288713564320118:=()
def tw4592038232359168703:=()
def tw122391518755673164:=()
end PySem.W.Fast
open PySem PySem.W PyProof.Rows
set_option maxRecDepth 100000 in
set_option maxHeartbeats 0 in
theorem PySem.Challenge.cw_halvecut_k61_two_groups_holds : PySem.Challenge.rw_halvecut_k61_two_groups.Holds := by
 w_on; o_law; k_head; (case hw => w_witness2)
 k_fill
 refine PD.walk (l := PySem.Challenge.rw_halvecut_k61_two_groups) (k := 13) (x := "_law_script") rfl rfl ⟨rfl, by decide, by decide⟩ (λw h Y => PySem.W.kIn_of Y) (λw => by kernel_rfl) ?F
 case F =>
  intro w d e h b G a
  refine' LW.all_mk b G a ?e0 ?e1 ?e2 ?e3 ?e4 ?e5 ?e6 ?e7 ?e8 ?e9 ?e10 ?e11 ?e12 ?e13 ?e14 ?e15 ?e16 ?e17 ?e18 ?e19 ?e20 ?e21 ?e22 ?e23 ?e24 ?e25 ?e26 ?e27 ?e28 ?e29 ?e30 ?e31 ?e32 ?e33 ?e34 ?e35 ?e36 ?e37 ?e38 ?e39 ?e40 ?e41 ?e42 ?e43 ?e44 ?e45 ?e46 ?e47 ?e48 ?e49 ?e50 ?e51 ?e52 ?e53 ?e54 ?e55 ?a56 ?l56 ?c56 ?k56 ?Pc ?QM ?QB ?P9 ?Qc ?PV ?PW ?Pu ?Pw ?Qe ?QC ?OJ ?OW ?OL ?OM ?OH ?Ox ?Oy ?O1 ?OX ?Qf ?Rl ?O7 ?Sy ?Ob ?Od ?OI ?Ss ?Su ?Ot ?Rg ?Pd ?P5 ?O9 ?PK
  all_goals try (refine' PD.FL.mk ?a ?l ?c ?k; (case a => k_is); (case l => k_is); (case c => k_is); (case k => k_is))
  (case a56 => k_is)
  (case l56 => k_is)
  (case c56 => k_is)
  (case k56 => k_is)
  (case Pc => k_is)
  (case QM => k_is)
  (case QB => k_is)
  (case P9 => k_is)
  (case Qc => k_is)
  (case PV => k_is)
  (case PW => k_is)
  (case Pu => k_is)
  (case Pw => k_is)
  (case Qe => kernel_rfl)
  (case QC => kernel_rfl)
  (case OJ => kernel_rfl)
  (case OW => kernel_rfl)
  (case OL => kernel_rfl)
  (case OM => kernel_rfl)
  (case OH => kernel_rfl)
  (case Ox => kernel_rfl)
  (case Oy => kernel_rfl)
  (case O1 => kernel_rfl)
  (case OX => k_is)
  (case Qf => k_is)
  (case Rl => k_is)
  (case O7 => k_is)
  (case Sy => k_is)
  (case Ob => k_is)
  (case Od => k_is)
  (case OI => k_is)
  (case Ss => k_is)
  (case Su => k_is)
  (case Ot => k_is)
  (case Rg => k_is)
  (case Pd => k_is)
  (case P5 => k_is)
  (case O9 => k_is)
  (case PK => k_is)
