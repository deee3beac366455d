import PyProof.Rows.All
import Wide.All
import OpenK.AllK
import Wide.FinOn
import Lean
import PyProof.EqAt
import PyProof.EqKinds
import PyProof.TupleCall
import PySem.Challenge.RW_halvecut_k63_whole_groups_of_spots
set_option compiler.extract_closed false
set_option bootstrap.genMatcherCode false
set_option tactic.hygienic false
set_option Elab.async false
set_option linter.all false set_option autoImplicit true set_option relaxedAutoImplicit true
set_option maxRecDepth 100000
noncomputable section
abbrev yaa:=PySem.Value->PySem.Shared->Prop
abbrev yab:=List (PySem.Addr×PySem.Obj)
abbrev yac:=PySem.W.Frag
abbrev yad:=List PySem.Value
abbrev yae:=List PySem.Addr
abbrev yaf:=List Int
abbrev yag:=List Nat
abbrev yah:=List PySem.Str
abbrev yai:=List PySem.Expr
abbrev yaj:=Nat->Option PySem.Addr
abbrev yak:=Bool->PySem.Addr->Prop
abbrev yal:=PySem.Str->Option PySem.Value
abbrev yam:=Option PySem.Value
abbrev yan:=Array PySem.Value
abbrev yao:=Array Nat
abbrev yap:=Option Int
def NY:=@PySem.wpAny_bind
def N3:=@List.length_map
def OH:=@List.getElem?_eq_getElem
def Pg:=@List.getD_eq_getElem?_getD
def N2:=@if_neg
def Ol:=@List.mem_map
def Ph:=@PySem.Heap.get?_push_of_some
def Ov:=@List.mem_cons
def N4:=@if_pos
def Ql:=@List.getElem?_eq_some_iff
def Pz:=@List.mem_cons_of_mem
def Pw:=@List.getElem?_map
def OI:=@PySem.Heap.lt_size
def Qh:=@List.mem_of_getElem?
def OP:=@Nat.le_refl
def O3:=@List.map_map
def Pq:=@List.map_cons
def PU:=@List.mem_append
def Pe:=@Nat.le_trans
def PV:=@Int.mul_nonneg
def QL:=@Nat.lt_of_lt_of_le
def QU:=@List.mem_singleton
def PK:=@Int.le_of_lt
def QZ:=@List.length_append
def Q7:=@PySem.Heap.get?_push_size
def PN:=@Nat.ne_of_lt
def RA:=@List.mem_append_right
def QE:=@List.map_append
def RN:=@List.filter_eq_self
def Rl:=@List.length_cons
def RS:=@Array.length_toList
def RO:=@List.mem_cons_self
def RB:=@List.size_toArray
def RP:=@List.not_mem_nil
def QI:=@Nat.zero_le
def RY:=@List.getElem_mem
def TC:=@List.getElem?_set_ne
def TF:=@List.mem_append_left
def UD:=@Int.mul_neg_of_neg_of_pos
def UE:=@List.getElem?_append_left
def Rp:=@Int.mul_comm
def Tb:=@List.length_range'
def Tc:=@List.pairwise_cons
def T9:=@Array.getElem?_toList
def Sz:=@Int.mul_eq_zero
def SA:=@Option.some.inj
def SU:=@Nat.mod_eq_of_lt
def Vg:=@List.getElem?_append_right
def Vh:=@Array.getElem?_eq_getElem
def Wh:=@Int.nonneg_of_mul_nonneg_right
def Vi:=@List.pairwise_iff_getElem
def Ui:=@Bool.false_eq_true
def SD:=@PySem.wpAny_holding
def QM:=@PySem.boot_len
def Vj:=@PySem.Heap.get?_update_other
def RZ:=@Int.le_refl
def Vk:=@Option.map_eq_some_iff
def Ua:=@List.length_take
def Ub:=@List.take_length
def R8:=@Int.neg_mul
def R9:=@PySem.wpAny_field
def UG:=@Bool.false_ne_true
def TG:=@List.mem_range
def Wi:=@List.drop_eq_getElem_cons
def UH:=@List.cons_append
def Uj:=@List.getElem_map
def UI:=@List.append_assoc
def WM:=@Array.getElem?_eq_some_iff
def Vy:=@PySem.Heap.get?_update_self
def Vl:=@List.getElem_of_mem
def Vm:=@List.length_reverse
def SE:=@Int.not_le
def Vn:=@PySem.wpAny_Call_Name_kw
def UZ:=@List.nil_append
def UJ:=@List.nodup_cons
def Vz:=@List.map_congr_left
def U0:=@PySem.wpAny_call_entry
def WN:=@PySem.wpAny_callSpecial?_slot
def Ze:=@Int.mul_nonpos_of_nonpos_of_nonneg
def Vo:=@PySem.wpAny_setState_of
def Yf:=@List.eq_nil_of_length_eq_zero
def XF:=@Int.mul_neg_of_pos_of_neg
def XG:=@Int.mul_pos_of_neg_of_neg
def Wj:=@List.length_dropLast
def XH:=@List.ne_nil_of_length_pos
def SV:=@PySem.wpAny_mono
def TH:=@Int.mul_pos
def UK:=@decide_eq_true
def Uc:=@Nat.ne_of_gt
def VA:=@of_decide_eq_true
def U1:=@PySem.wpAny_seqItems
def VB:=@List.append_nil
def WO:=@Nat.pow_le_pow_right
def Ud:=@Int.one_mul
def XI:=@List.getElem?_set_self
def VC:=@List.lookup_cons
def VD:=@Nat.lt_succ_self
def Yg:=@Classical.byContradiction
def Yh:=@List.sublist_append_right
def Z0:=@Int.mul_nonneg_of_nonpos_of_nonpos
def Wk:=@PySem.wpAny_newObj_type
def Zf:=@List.dropLast_concat_getLast
def UL:=@Nat.le_of_lt
def UM:=@Nat.zero_add
def VE:=@List.of_mem_zip
def XJ:=@Nat.mul_le_mul_right
def U2:=@Int.mul_zero
def Yi:=@List.singleton_sublist
def Yj:=@List.take_of_length_le
def WQ:=@Int.lt_trichotomy
def XM:=@PySem.Heap.SameBut.update
def Uk:=@Int.not_lt
def Yk:=@List.getElem?_eq_none
def Z1:=@List.getLast?_eq_some_getLast
def Vp:=@Int.zero_mul
def VF:=@List.map_nil
def XN:=@Nat.lt_or_gt_of_ne
def VG:=@Nat.lt_irrefl
def XO:=@List.mem_range'_1
def XQ:=@Nat.lt_succ_of_lt
def WR:=@List.length_nil
def WS:=@List.mem_filter
def WT:=@PySem.codeAny_builtin
def Yl:=@List.getElem_range'
def Zg:=@List.zipWith_cons_cons
def VH:=@Nat.pow_succ
def Wl:=@Int.lt_irrefl
def XR:=@Nat.le_add_right
def XS:=@Nat.le_of_not_lt
def WU:=@PySem.Heap.size_push
def Zh:=@List.mem_iff_getElem?
def WV:=@List.take_succ
def Ym:=@Nat.lt_of_le_of_lt
def Yn:=@PySem.wpAny_setField_rec
def Z2:=@Int.eq_of_mul_eq_mul_left
def Z3:=@List.getLastD_eq_getLast?
def Wm:=@Nat.succ_pos
def WW:=@List.sum_cons
def zCO:=@Int.mul_le_mul_of_nonneg_left
def Zi:=@Nat.pow_le_pow_left
def Zj:=@beq_eq_false_iff_ne
def Yo:=@Bool.and_eq_true
def XT:=@Int.natAbs_mul
def Yp:=@List.length_drop
def Yq:=@List.map_fst_zip
def Yr:=@List.mem_flatMap
def Ys:=@PySem.wpAny_isInstance
def Z4:=@Array.getElem?_eq_none
def VI:=@Nat.mod_lt
def VJ:=@Nat.not_lt
def Zk:=@List.append_of_mem
def Zm:=@List.zip_cons_cons
def WX:=@Nat.lt_or_ge
def Z5:=@List.length_singleton
def Yt:=@List.length_zip
def Z6:=@List.take_append_drop
def Yu:=@PySem.wpAny_passesOwn
def XU:=@Int.dvd_trans
def XW:=@PySem.wpAny_attempt
def Zn:=@Bool.not_eq_true'
def Zo:=@List.nodup_append
def Zp:=@List.pairwise_map
def Zq:=@List.reverse_cons
def Zr:=@Nat.add_mod_right
def Zs:=@Nat.lt_trichotomy
def Zt:=@PySem.wpAny_truthy_bool
def zCq:=@List.exists_mem_of_ne_nil
def zCr:=@List.getElem?_zip_eq_some
def zCs:=@List.getLast?_eq_none_iff
def zCt:=@List.filterMap_cons_some
def zCu:=@PySem.Heap.IsTupleIter.typeIs
def zCv:=@List.getElem?_replicate
def Yv:=@Int.mul_assoc
def Zu:=@Bool.eq_iff_iff
def Zv:=@Int.dvd_coe_gcd
def Zw:=@Int.le_antisymm
def Z7:=@List.cons.injEq
def Z8:=@List.mem_filterMap
def Zx:=@PySem.wpAny_specialOf
def Zy:=@PySem.wpAny_updateSeq
def zC4:=@Int.fmod_nonneg_of_pos
def zC5:=@List.getElem?_dropLast
def Z9:=@List.flatMap_cons
def zC7:=@Nat.lt_of_succ_lt
def zC8:=@Int.natAbs_dvd_natAbs
def Zz:=@PySem.wpAny_setField
def zDA:=@Bool.or_eq_false_iff
def zDB:=@Int.dvd_mul_left
def zDC:=@Int.gcd_mul_left
def zDD:=@Int.le_of_neg_le_neg
def zDE:=@List.all_eq_true
def zDF:=@List.pairwise_append
def zDG:=@Option.getD_some
def Wn:=@Prod.ext
def zDI:=@Array.perm_iff_toList_perm
def ZA:=@PySem.plainId_quiet
def zDK:=@List.filterMap_cons
def zDL:=@List.length_pos_iff
def zDM:=@List.getLast?_eq_getElem?
namespace L2
open PySem PySem.Spec PyProof.Rows
abbrev Key:=Sum Int Str
def mY:Key->Value->Bool
 |.inl k,v=>Value.isInt k v
 |.inr x,v=>Value.isStrOf x v
def Nr(w:World):Key->Int
 |.inl k=>hashInt k
 |.inr x=>hashStr w x
def bZ:∀{k:Key} {v:Value},mY k v=true->(∃i t,k=Sum.inl i/\v=Value.int i t)∨(∃x t,k=Sum.inr x/\v=Value.str x t)
 |.inl i,v,h=>by obtain⟨t,e⟩:=Value.isInt_shape (k:=i) (v:=v) h;exact .inl ⟨i,t,rfl,e⟩
 |.inr x,v,h=>by obtain⟨t,e⟩:=Value.isStrOf_shape (x:=x) (v:=v) h;exact .inr ⟨x,t,rfl,e⟩
def Ek(i:Int)(t:Tok):mY (.inl i) (.int i t)=true:=by simp[mY,Value.isInt]
def El(x:Str)(t:Tok):mY (.inr x) (.str x t)=true:=by simp[mY,Value.isStrOf]
def Lq(a b:Int):decide ((Sum.inl a:Key)=Sum.inl b)=(a==b):=by lia
def Lu(a b:Str):decide ((Sum.inr a:Key)=Sum.inr b)=decide (a=b):=by lia
def bW(prog:Program)(w:World):PySem.KeyKind prog w Key where
 is:=mY
 hash:=Nr w
 inj:=λv a b b a=>by
  rcases bZ b with⟨i,t,rfl,rfl⟩| ⟨x,t,rfl,rfl⟩
  ·rcases bZ a with⟨j,u,rfl,e⟩| ⟨y,u,rfl,e⟩
   all_goals lia
  ·rcases bZ a with⟨j,u,rfl,e⟩| ⟨y,u,rfl,e⟩
   all_goals lia
 byValue:=λk v h=>by
  rcases bZ h with⟨i,t,rfl,rfl⟩| ⟨x,t,rfl,rfl⟩<;>rfl
 pyHash:=λa h=>by
  rcases bZ a with⟨i,t,rfl,rfl⟩| ⟨x,t,rfl,rfl⟩;exact wpAny_pyHash_int h;exact wpAny_pyHash_str h
 eqBool:=λb a h=>by
  rcases bZ b with⟨i,t,rfl,rfl⟩| ⟨x,t,rfl,rfl⟩;rcases bZ a with⟨j,u,rfl,rfl⟩| ⟨y,u,rfl,rfl⟩;rw[Lq]at h;exact wpAny_eqBool_int h;exact SeqAt.EqAt.int_str i t y u _ _ _ _ h;rcases bZ a with⟨j,u,rfl,rfl⟩| ⟨y,u,rfl,rfl⟩;exact SeqAt.EqAt.str_int x t j u _ _ _ _ h;rw[Lu]at h;exact wpAny_eqBool_str h
 «strs»:=λk x t v h=>by
  rcases bZ h with⟨i,u,rfl,e⟩| ⟨y,u,rfl,e⟩
  lia
  injection e with e1 _;subst e1;cases v<;>rfl
def As(prog:Program)(w:World)(i:Int)(t:Tok):(bW prog w).is (.inl i) (.int i t)=true:=Ek i t
def Au(prog:Program)(w:World)(x:Str)(t:Tok):(bW prog w).is (.inr x) (.str x t)=true:=El x t
inductive V where
 |OD|bl (b:Bool)|int (i:Int)|str (x:Str)|VL (b:Array UInt8)|flt (b:UInt64)|ref (a:Addr)|ty (n:String)
 deriving DecidableEq
abbrev yaq:=List V
def RelV:V->Value->Prop
 |.OD,u=>u=Value.none
 |.bl b,u=>u=Value.bool b
 |.int i,u=>∃t,u=Value.int i t
 |.str x,u=>∃t,u=Value.str x t
 |.VL b,u=>∃t,u=Value.bytes b t
 |.flt b,u=>∃t,u=Value.float b t
 |.ref a,u=>u=Value.ref a
 |.ty n,u=>u=Value.type n
abbrev Vals:yaq->yad->Prop:=Paired RelV
theorem Vals.length(r:Vals xs us):xs.length=us.length:=Paired.length r
theorem Vals.get:∀{xs:yaq} {a:yad} {i:Nat} {x:V},Vals xs a->xs[i]?=some x->∃u,a[i]?=some u/\RelV x u
 |_,_,_,_,.nil,e=>by simp at e
 |_,_,0,_,.cons r _,e=>by simp at e;subst e;exact⟨_,rfl,r⟩
 |_,_,i+1,x,.cons _ t,e=>by obtain⟨u,b,a⟩:=Vals.get (i:=i) (x:=x) t (by simpa using e);exact⟨u,by simpa using b,a⟩
theorem Vals.append:∀{xs ys:yaq} {b a:yad},Vals xs b->Vals ys a->Vals (xs++ys) (b++a)
 |_,_,_,_,.nil,s=>s
 |_,_,_,_,.cons r t,s=>.cons r (Vals.append t s)
theorem Vals.take:∀{xs:yaq} {a:yad} (n:Nat),Vals xs a->Vals (xs.take n) (a.take n)
 |_,_,0,_=>.nil
 |_,_,_+1,.nil=>.nil
 |_,_,n+1,.cons r t=>.cons r (Vals.take n t)
theorem Vals.drop:∀{xs:yaq} {a:yad} (n:Nat),Vals xs a->Vals (xs.drop n) (a.drop n)
 |_,_,0,r=>r
 |_,_,_+1,.nil=>.nil
 |_,_,n+1,.cons _ t=>Vals.drop n t
def Vals.none_of:∀{xs:yaq} {a:yad} {i:Nat},Vals xs a->xs[i]?=none->a[i]?=none:=fun {xs a i} r e=>by
 have b:=r.length
 simp_all
def ju:Option V->yam->Prop
 |some v,some u=>RelV v u
 |none,none=>True
 |_,_=>False
def KV{a:Type}:List (a×V)->List (a×Value)->Prop:=Paired λ(p:a×V) (q:a×Value)=>p.1=q.1/\RelV p.2 q.2
def kV:Key->V
 |.inl i=>.int i
 |.inr x=>.str x
inductive HO where
 |lst (xs:yaq)
 |tup (xs:yaq)
 |dK (kvs:List (Key×V))|dT (kvs:List (List Key×V))
 |set (S:Int->Bool) (n:Nat)
 |ins (C dx:Addr) (fs:List (Str×V))
 |own (x:Addr)
 |xd (fs:List (Str×V))
 |met (f x:Addr)
 |rng (lo hi:Int)
 |frz (o:Obj) (u:HO)
 |TJ (ps:yan)
 |ext (φ:Heap->Prop)
abbrev Hp:=Addr->Option HO
def upd(H:Hp)(a:Addr)(o:HO):Hp:=λb=>if b=a then some o else H b
theorem aR:upd H a o a=some o:=by unfold upd;rw[N4 rfl]
theorem aC{a b:Addr}(h:b≠a):upd H a o b=H b:=by unfold upd;rw[N2 h]
def qJ{H:Hp}{o u:HO}(h:H a=some o)(h':H b=some u)(d:o≠u):a≠b:=by lia
def bf{H:Hp}{o:HO}(h:H a=some o)(h':H b=none):a≠b:=by lia
section
variable(P:Program)(w:World)
def bS(H:Hp)(h:Heap)(a:Addr):HO->Prop
 |.lst c=>c.length<=sizeLine/\∃(b:yad) (n:Nat),Vals c b/\h.get? a=some {cls:=.type "list", data:=.seq b.toArray n}
 |.tup c=>c.length<=sizeLine/\∃b:yad,Vals c b/\IsTup h a b.toArray
 |.dK b=>b.length<=sizeLine/\(a==sysModules)=false/\∃d,KV b d/\h.DictOf (bW P w) a d
 |.dT b=>b.length<=sizeLine/\(a==sysModules)=false/\∃c:List (List Key×Addr×Value),
   Paired (λ(p:List Key×V) (q:List Key×Addr×Value)=>p.1=q.1/\H q.2.1=some (.tup (p.1.map kV))/\RelV p.2 q.2.2) b c ∧
   ∃ o b d,h.get? a=some o/\o.ExactDict/\o.data=.dict b d/\b.toList=c.map (entryOfKey (tupleKind (bW P w)))/\(c.map (·.1)).Nodup
 |.set S n=>h.SetOf (intKind P w) a S n
 |.ins C d c=>H d=some (.own a)/\c.length<=1000/\d≠a/\h.get? a=some (PySem.W.instObj C d) ∧
   ∃ b,h.Ns1 d b/\(∀f,ju (c.lookup f) (b f))/\PySem.Within b (c.map (·.1))
 |.own _=>∃o,h.get? a=some o
 |.xd c=>∃b,h.Ns1 a b/\∀f,ju (c.lookup f) (b f)
 |.rng lo b=>∃t u v,h.get? a=some {cls:=.type "range", data:=.fields #[.int lo t,.int b u,.int 1 v]}
 |.frz o u=>h.get? a=some o/\bS H h a u
 |.TJ b=>h.get? a=some {cls:=.none,data:=.fields b}
 |.met f x=>h.get? a=some (PySem.W.methodObj (.ref f) (.ref x))
 |.ext b=>b h/\(∃o,h.get? a=some o)/\∀d c:Heap,b d->(∀o,d.get? a=some o->c.get? a=some o)->b c
def QJ(H:Hp)(h:Heap):Prop:=∀a o,H a=some o->bS P w H h a o
end
section
variable{P:Program}{w:World}{H H':Hp}{h h':Heap}{a:Addr}{o:HO}
theorem bS.lt(x:bS P w H h a o):a<h.objs.size:=by
 cases o with
 |lst b=>obtain⟨_,_,_,_,e⟩:=x;exact OI e
 |tup b=>obtain⟨_,_,_,p⟩:=x;exact p.lt
 |dK b=>obtain⟨_,_,_,_,o,_,_,e,_⟩:=x;exact OI e
 |dT b=>obtain⟨_,_,_,_,o,_,_,e,_⟩:=x;exact OI e
 |set S n=>obtain⟨o,_,_,_,e,_⟩:=x;exact OI e
 |ins C i b=>obtain⟨_,_,_,e,_⟩:=x;exact OI e
 |own y=>obtain⟨_,e⟩:=x;exact OI e
 |xd b=>obtain⟨_,⟨_,_,_,e,_⟩,_⟩:=x;exact OI e
 |rng lo g=>obtain⟨_,_,_,e⟩:=x;exact OI e
 |frz ob u=>obtain⟨e,_⟩:=x;exact OI e
 |TJ d=>exact OI (show h.get? a=some _ from x)
 |met f y=>exact OI (show h.get? a=some _ from x)
 |ext c=>obtain⟨_,⟨_,e⟩,_⟩:=x;exact OI e
theorem Paired.Yw{d c:Type}{F G:d->c->Prop}:∀{l₁:List d} {l₂:List c},Paired F l₁ l₂->(∀a b,F a b->G a b)->Paired G l₁ l₂
 |_,_,.nil,_=>.nil
 |_,_,.cons r t,f=>.cons (f _ _ r) (Paired.Yw t f)
def bS.Sa(x:bS P w H h a o)(k:∀b u,(b=a∨H b=some (.own a))->h.get? b=some u->h'.get? b=some u)
  (m:∀b,H b=some (.own a)->H' b=some (.own a)) (j:∀b xs,H b=some (.tup xs)->H' b=some (.tup xs)):bS P w H' h' a o:=by
 induction o with
 |lst xs=>obtain⟨z,d,n,r,e⟩:=x;exact⟨z,d,n,r,k _ _ (.inl rfl) e⟩
 |tup xs=>obtain⟨z,d,r,b,e,c⟩:=x;exact⟨z,d,r,b,k _ _ (.inl rfl) e,c⟩
 |dK d=>obtain⟨z,y,i,r,b,f,g,e,c⟩:=x;exact⟨z,y,i,r,b,f,g,k _ _ (.inl rfl) e,c⟩
 |dT d =>
  obtain⟨z,y,xs,r,b,f,g,e,c⟩:=x;exact⟨z,y,xs,Paired.Yw r λp q z=>⟨z.1,j _ _ z.2.1,z.2.2⟩,b,f,g,k _ _ (.inl rfl) e,c⟩
 |set S n=>obtain⟨b,f,g,t,e,c⟩:=x;exact⟨b,f,g,t,k _ _ (.inl rfl) e,c⟩
 |ins C E n =>
  obtain⟨d,z,l,e,j,⟨i,f,g,s,c⟩,r⟩:=x;exact⟨m _ d,z,l,k _ _ (.inl rfl) e,j,⟨i,f,g,k _ _ (.inr d) s,c⟩,r⟩
 |own y=>obtain⟨b,e⟩:=x;exact⟨b,k _ _ (.inl rfl) e⟩
 |xd n=>obtain⟨j,⟨i,f,g,e,c⟩,r⟩:=x;exact⟨j,⟨i,f,g,k _ _ (.inl rfl) e,c⟩,r⟩
 |rng lo B=>obtain⟨t,u,v,e⟩:=x;exact⟨t,u,v,k _ _ (.inl rfl) e⟩
 |frz b u ih=>obtain⟨e,q⟩:=x;exact⟨k _ _ (.inl rfl) e,ih q⟩
 |TJ b =>
  have e:h.get? a=some {cls:=.none,data:=.fields b}:=x;show h'.get? a=some {cls:=.none,data:=.fields b};exact k a _ (.inl rfl) e
 |met f y =>
  have e:h.get? a=some (PySem.W.methodObj (.ref f) (.ref y)):=x;show h'.get? a=some (PySem.W.methodObj (.ref f) (.ref y));exact k a _ (.inl rfl) e
 |ext A=>obtain⟨p,⟨o,e⟩,st⟩:=x;exact⟨st _ _ p λo q=>k _ _ (.inl rfl) q,⟨o,k _ _ (.inl rfl) e⟩,st⟩
theorem QJ.lt(x:QJ P w H h)(e:H a=some o):a<h.objs.size:=(x a o e).lt
def QJ.fresh(x:QJ P w H h)(e:h.objs.size<=a):H a=none:=by
 cases q:H a with
 |none=>rfl
 |some u=>exact absurd (QL (x.lt q) e) (VG _)
def QJ.kept(x:QJ P w H h)(k:∀b u,h.get? b=some u->h'.get? b=some u):QJ P w H h':=λa o e =>
 (x a o e).Sa (λb u _ q=>k b u q) (λ_ q=>q) λ_ _ q=>q
def QJ.laid(x:QJ P w H h)(k:∀b u,h.get? b=some u->h'.get? b=some u)(c:h.objs.size<=a)(f:bS P w (upd H a o) h' a o):QJ P w (upd H a o) h':=λb u e=>by have d:=x.fresh c;by_cases c:b=a;grind [aR];rw[aC c]at e;exact(x b u e).Sa (λc v _ q=>k c v q) (λc q=>by rw[aC (bf q d)];exact q) λc g q=>by rw[aC (bf q d)];exact q
end
def Rd(H:Hp)(a:Addr)(u:HO):Prop:=H a=some u∨∃ o,H a=some (.frz o u)
def Rd.ok(r:Rd H a u)(x:QJ P w H h):bS P w H h a u:=by
 rcases r with r|⟨o,r⟩;exact x a u r;obtain⟨_,q⟩:=x a _ r;exact q
def Mut:Option HO->Prop
 |some (.lst _)=>True
 |some (.dK _)=>True
 |some (.dT _)=>True
 |some (.set _ _)=>True
 |some (.ins _ _ _)=>True
 |some (.ext _)=>True
 |_=>False
section
variable{P:Program}{w:World}{H:Hp}{h h':Heap}{x e:Addr}{o':HO}
def QJ.write(j:QJ P w H h)(a:Mut (H x))(o:e=x∨H e=some (.own x))(k:∀b u,b≠e->h.get? b=some u->h'.get? b=some u)(d:∃u,h'.get? e=some u)
  (l:bS P w (upd H x o') h' x o'):QJ P w (upd H x o') h':=λb u q=>by
 have i:∀c y,H c=some (.own y)->c≠x:=λc y r z=>by subst z;rw[r]at a;exact a
 have g:∀c f,H c=some (.tup f)->c≠x:=λc f r z=>by subst z;rw[r]at a;exact a
 by_cases a:b=x;grind [aR];rw[aC a]at q;by_cases m:b=e;have a:H b=some (.own x):=by lia
 rw[q]at a;cases a;obtain⟨v,n⟩:=d;exact⟨v,by lia⟩;refine(j b u q).Sa (λc v p r=>k c v ?_ r) (by grind [aC]) (by grind [aC]);grind
end
structure Un(fs ex:yae)(H H':Hp)(h h':Heap):Prop where
 keep:∀b o,h.get? b=some o->H b=none->b∉fs->b∉ex->h'.get? b=some o
 slot:∀b o,h.get? b=some o->H b=none->b∈fs->b∉ex->∃sl,h'.get? b=some {o with slots:=sl}
 free:∀b o,h.get? b=some o->H b=none->b∉ex->H' b=none
 there:∀b o,h.get? b=some o->b∉ex->∃o',h'.get? b=some o'
 Td:∀b xs,H b=some (.tup xs)->H' b=some (.tup xs)
 SJ:∀b o u,H b=some (.frz o u)->H' b=some (.frz o u)
 Te:∀b ps,H b=some (.TJ ps)->∃more,H' b=some (.TJ (ps++more))
section
variable{fs fs' ex ex':yae}{H H1 H2:Hp}{h h1 h2 h':Heap}{a x e:Addr}{o:HO}
def Un.any(u:Un fs ex H H1 h h1){ob:Obj}(q:h.get? b=some ob)(n:H b=none)(c:b∉ex):∃d,h1.get? b=some {ob with slots:=d}:=by by_cases d:b∈fs;exact u.slot b ob q n d c;exact⟨ob.slots,u.keep b ob q n d c⟩
def Un.kept(k:∀b u,h.get? b=some u->h'.get? b=some u):Un fs ex H H h h' :=
 ⟨λb c q _ _ _=>k b c q,λb c q _ _ _=>⟨c.slots,k b c q⟩,λ_ _ _ n _=>n,λb c q _=>⟨c,k b c q⟩,λ_ _ q=>q,λ_ _ _ q=>q,λ_ d q=>⟨#[],by rw[q];simp⟩⟩
def Un.refl:Un fs ex H H h h:=Un.kept λ_ _ q=>q
def Un.laid(k:∀b u,h.get? b=some u->h'.get? b=some u)(d:h.objs.size<=a)(c:H a=none):Un fs ex H (upd H a o) h h' where
 keep:=λb u q _ _ _=>k b u q
 slot:=λb u q _ _ _=>⟨u.slots,k b u q⟩
 free:=λb u q n _=>by rw[aC (PN (QL (OI q) d))];exact n
 there:=by grind
 Td:=λb d q=>by rw[aC (bf q c)];exact q
 SJ:=λb u d q=>by rw[aC (bf q c)];exact q
 Te:=λb f q=>⟨#[],by rw[aC (bf q c),q];simp⟩
def Un.write(c:Mut (H x))(j:e=x∨H e=some (.own x))(k:∀b u,b≠e->h.get? b=some u->h'.get? b=some u)(f:∃u,h'.get? e=some u):Un fs ex H (upd H x o) h h':=by
 have i:∀b,H b=none->b≠x:=λb n z=>by subst z;rw[n]at c;exact c
 have d:∀b,H b=none->b≠e:=by lia
 have c:∀b u,H b=some u->¬Mut (some u)->b≠x:=by lia
 refine⟨λb u q n _ _=>k b u (d b n) q,λb u q n _ _=>⟨u.slots,k b u (d b n) q⟩,by grind [aC],λb u q _=>?_,
  λb d q=>by rw[aC (c b _ q λz=>z)];exact q,λb u d q=>by rw[aC (c b _ q λz=>z)];exact q,λb g q=>⟨#[],by rw[aC (c b _ q λz=>z),q];simp⟩⟩
 grind
end
noncomputable def trk(h:Heap)(H:Hp):yae:=(List.range h.objs.size).filter λa=>(H a).isSome
def mV(h:Heap)(H:Hp):Heap:=PySem.W.hideAll h (trk h H)
def Ea(h:Heap)(H:Hp):(mV h H).objs.size=h.objs.size:=PySem.W.hideAll_size _ _
def Gi{h:Heap}{H:Hp}{o:Obj}(e:h.get? b=some o)(n:H b=none):(mV h H).get? b=some o :=
 PySem.W.hideAll_get _ e λa=>by have q:(H b).isSome=true:=(WS.mp a).2;rw[n]at q;simp at q
def IY{o:Obj}(e:(mV h H).get? b=some o):h.get? b=some o/\H b=none:=by
 have a:h.get? b=some o:=PySem.W.of_hideAll (trk h H) e;refine⟨a,?_⟩;cases q:H b with
 |none=>rfl
 |some x =>
  have c:b∈trk h H:=WS.mpr ⟨TG.mpr (OI a),by simp[q]⟩;have z:(mV h H).get? b=none:=PySem.W.hideAll_none (trk h H) c
  lia
noncomputable def HV(g h:Heap)(L:Addr):yab:=(List.range h.objs.size).filterMap λa=>if a=L∨(g.get? a).isSome=true then none else(h.get? a).map λo=>(a,o)
def rest(g h:Heap)(L d:Addr):yab:=(HV g h L).filter λp=>decide (p.1≠d)
structure Mod(K:yac)(mg:yal)(base:Heap):Prop where
 Yx:K.In base
 glob:base.Ns mainGlobals mg
 blt:∃mb,base.Ns builtinsNs mb/\∀x:Str,x ≠ "__name__" -> mb x=bootBuiltins x
 nolimit:base.NoLimit
structure Cx where
 prog:Program
 w:World
 K:yac
 mg:yal
 base:Heap
 A:Around
 N:yah
 Oy:Shared
 OV:Hp
 env:Env
 outer:List Env
 stack:List Env
 ex:yae
 fn:Str->Bool
 calm:Bool
 pn:yab
 xe:yaa
noncomputable def SF(l:List Env):yae:=l.filterMap (·.frame)
abbrev Cx.fs(X:Cx):yae:=SF X.outer
def VM(a:Scope)(x:Str):Prop:=a.names.lookup x=some .local∨a.names.lookup x=some .cell∨a.names.lookup x=some .free
def Loc(a:Scope)(x:Str):Prop:=a.names.lookup x=some .local∨a.names.lookup x=some .cell
def Look(env:Env)(h:Heap)(m:yal)(x:Str)(u:Value):Prop :=
 (env.kindOf x=some .local/\m x=some u)∨((env.kindOf x=some .cell∨env.kindOf x=some .free)/\∃c,env.cells.lookup x=some c/\h.IsCell c (some u))
structure Cx.Ok(X:Cx):Prop where
 mod:Mod X.K X.mg X.base
 kind:X.env.scope.kind=.function
 glob:X.env.globals=mainGlobals
 blt:X.env.builtins=builtinsNs
 above:X.Oy.heap.objs.size<=X.env.locals
 inj:∀x y c,X.env.cells.lookup x=some c->X.env.cells.lookup y=some c->x=y
 has:∀x,(X.env.kindOf x=some .cell∨X.env.kindOf x=some .free)->∃c,X.env.cells.lookup x=some c
 VN:∀x c,X.fn x=true->X.env.cells.lookup x=some c->X.Oy.heap.objs.size<=c
 hd:X.calm=true->X.A.handled=none
 frames:X.A.frames=some X.stack
 stk:X.stack=X.outer∨(X.stack=X.env::X.outer/\X.env.frame=some X.env.locals)
 exf:∀b∈X.ex,b≠X.env.locals/\∀x c,X.env.cells.lookup x=some c->c≠b
 bs:∀b o,X.base.get? b=some o->X.Oy.heap.get? b=some o/\X.OV b=none
 Yy:X.base.objs.size<=X.Oy.heap.objs.size
 U3:∀b o,X.base.get? b=some o->b∉X.ex
 WY:∀b∈X.ex,b∉X.fs
 RT:X.Oy.heap.FunFrames X.base X.outer
 Yz:∀b∈X.fs,X.OV b=none
structure Inv(X:Cx)(pins:yab)(σ:List (Option V))(H:Hp)(s:Shared):Prop where
 ok:X.Ok
 os:s.os=X.Oy.os
 bare:AllBare s.gens
 base:Un X.fs X.ex X.OV H X.Oy.heap s.heap
 loc:∃m,s.heap.Ns X.env.locals m/\∀(i:Nat) (x:Str) (v:V),X.N[i]?=some x->σ[i]?=some (some v)->VM X.env.scope x->∃u,RelV v u/\Look X.env s.heap m x u
 cell:∀x c,X.env.cells.lookup x=some c->∃v,s.heap.IsCell c v
 free:H X.env.locals=none
 Q2:∀x c,X.env.cells.lookup x=some c->H c=none
 pin:∀p∈X.pn++pins,s.heap.get? p.1=some p.2/\H p.1=none/\p.1≠X.env.locals/\p.1∉X.fs/\∀v,p.2.data ≠ .cell v
 Om:QJ X.prog X.w H s.heap
 len:σ.length=X.N.length
section
variable{X:Cx}{pins:yab}{σ:List (Option V)}{H H':Hp}{s:Shared}{h':Heap}
def Cx.Ok.nofr(a:X.Ok){o:Obj}(e:X.base.get? b=some o):b∉X.fs:=λb=>by
 have:=(a.RT.mem b).1
 lia
theorem Inv.bs(I:Inv X pins σ H s):∀b o,X.base.get? b=some o->s.heap.get? b=some o/\H b=none:=λb o e =>
 ⟨I.base.keep b o (I.ok.bs b o e).1 (I.ok.bs b o e).2 (I.ok.nofr e) (I.ok.U3 b o e),I.base.free b o (I.ok.bs b o e).1 (I.ok.bs b o e).2 (I.ok.U3 b o e)⟩
def Inv.bk(I:Inv X pins σ H s):∀b o,X.base.get? b=some o->s.heap.get? b=some o:=λb o e=>(I.bs b o e).1
theorem Inv.mod(I:Inv X pins σ H s):Mod X.K X.mg X.base:=I.ok.mod
def Inv.Tf(I:Inv X pins σ H s):X.K.In s.heap:=I.ok.mod.Yx.keeps I.bk
theorem Inv.lt(I:Inv X pins σ H s):X.env.locals<s.heap.objs.size:=let ⟨_,hn,_⟩:=I.loc;hn.lt
def Inv.sz(I:Inv X pins σ H s):X.Oy.heap.objs.size<=s.heap.objs.size:=Pe I.ok.above (UL I.lt)
def Inv.nofs(I:Inv X pins σ H s){a:Addr}(h:s.heap.objs.size<=a):a∉X.fs:=λb=>by obtain⟨_,o,a,_⟩:=I.ok.RT.mem b;exact absurd (QL (OI a) (Pe I.sz h)) (VG _)
def Inv.YA(I:Inv X pins σ H s):∀x c,X.env.cells.lookup x=some c->c≠X.env.locals:=λx c e z=>by
 obtain⟨v,o,b,d⟩:=I.cell x c e;obtain⟨m,⟨a,f,g,Ul,UN,_⟩,_⟩:=I.loc
 lia
theorem Inv.RT(I:Inv X pins σ H s):s.heap.FunFrames X.base X.outer:=by
 have c:∀(l:List Env),(∀b∈SF l,b∈X.fs)->X.Oy.heap.FunFrames X.base l->s.heap.FunFrames X.base l:=by
  intro l
  induction l with
  |nil=>intro _ _;trivial
  |cons m r ih =>
   intro d a;obtain⟨j,⟨L,o,f,i,h,k⟩,g⟩:=a;have a:L∈X.fs:=d L (by unfold SF;simp_all);obtain⟨n,e⟩:=I.base.slot L o h (I.ok.Yz L a) a λz=>I.ok.WY L z a
   exact⟨j,⟨L,_,f,i,e,k⟩,ih (λb a=>d b (by unfold SF;rw[zDK,f];exact Pz _ a)) g⟩
 exact c X.outer (λ_ a=>a) I.ok.RT
theorem Inv.stack(I:Inv X pins σ H s):s.heap.FunFrames X.base X.stack:=by
 rcases I.ok.stk with e|⟨e,b⟩;rw[e];exact I.RT;rw[e];obtain⟨m,a,_⟩:=I.loc;refine .cons (by rw[I.ok.kind];decide) b a ?_ I.RT;exact Heap.get?_none_of_le (Pe I.ok.Yy I.ok.above)
def Inv.Sb(I:Inv X pins σ H s):∀b∈SF X.stack,b∈X.env.locals::X.fs:=λb a=>by
 rcases I.ok.stk with e|⟨e,b⟩;rw[e]at a;exact Pz _ a;rw[e]at a;unfold SF at a;rw[zDK,b]at a;exact a
def Inv.Tg(I:Inv X pins σ H s):∀b∈SF X.stack,H b=none:=λb hb=>by
 rcases Ov.mp (I.Sb b hb)with e|hb;rw[e];exact I.free;obtain⟨_,o,a,_⟩:=I.ok.RT.mem hb;exact I.base.free b o a (I.ok.Yz b hb) λz=>I.ok.WY b z hb
def Inv.step{t':Nat}{d':Drawn}{ch:yae}(I:Inv X pins σ H s)
  (y:∀b∈ch,(b∈X.ex∨X.Oy.heap.objs.size<=b)/\b≠X.env.locals/\(∀x c,X.env.cells.lookup x=some c->c≠b)/\∀p∈X.pn++pins,p.1≠b)
  (g:∀b o,b≠X.env.locals->b∉X.fs->b∉ch->s.heap.get? b=some o->H b=none->h'.get? b=some o)
  (i:∀b o,b≠X.env.locals->b∈X.fs->b∉ch->s.heap.get? b=some o->H b=none->∃j,h'.get? b=some {o with slots:=j}) (f:∀b o,b∉ch->s.heap.get? b=some o->H b=none->H' b=none)
  (k:∀b o,b∉ch->s.heap.get? b=some o->∃r,h'.get? b=some r)
  (E:∀b xs,H b=some (.tup xs)->H' b=some (.tup xs)) (J:∀b o u,H b=some (.frz o u)->H' b=some (.frz o u)) (G:∀b ps,H b=some (.TJ ps)->∃a,H' b=some (.TJ (ps++a)))
  (ns:∀m,s.heap.Ns X.env.locals m->h'.Ns X.env.locals m) (L:QJ X.prog X.w H' h') (B:AllBare g') :
  Inv X pins σ H' {s with heap:=h',gens:=g',drawn:=d',toks:=t'}:=by
 have w:∀b o,X.Oy.heap.get? b=some o->b≠X.env.locals:=λb o e=>PN (QL (OI e) I.ok.above)
 have h:∀b o,X.Oy.heap.get? b=some o->b∉X.ex->b∉ch:=λb o e a l=>by
  rcases(y b l).1 with z|z;exact a z;exact absurd (QL (OI e) z) (VG _)
 have d:∀x c,X.env.cells.lookup x=some c->∀v,s.heap.IsCell c v->h'.IsCell c v:=λx c e v ⟨o,t,C⟩=>by
  have A:c∉ch:=λz=>(y c z).2.2.1 x c e rfl
  by_cases n:c∈X.fs;obtain⟨j,q⟩:=i c o (I.YA x c e) n A t (I.Q2 x c e);exact⟨_,q,C⟩;exact⟨o,g c o (I.YA x c e) n A t (I.Q2 x c e),C⟩
 refine⟨I.ok,I.os,B,⟨λb o e n l a=>?_,λb o e n l a=>?_,λb o e n a=>?_,λb o e a=>?_,λb xs e=>E b xs (I.base.Td b xs e),λb o xs e=>J b o xs (I.base.SJ b o xs e),λb ps e=>?_⟩,?_,λx c e=>?_,?_,λx c e=>?_,λp E=>?_,L,I.len⟩;exact g b o (w b o e) l (h b o e a) (I.base.keep b o e n l a) (I.base.free b o e n a);obtain⟨j,j⟩:=I.base.slot b o e n l a;obtain⟨B,q⟩:=i b _ (w b o e) l (h b o e a) j (I.base.free b o e n a);exact⟨B,q⟩;obtain⟨r,j⟩:=I.base.there b o e a;exact f b r (h b o e a) j (I.base.free b o e n a);obtain⟨r,j⟩:=I.base.there b o e a;exact k b r (h b o e a) j;obtain⟨h,j⟩:=I.base.Te b ps e;obtain⟨a,q⟩:=G b _ j;exact⟨h++a,by rw[q,Array.append_assoc]⟩;obtain⟨m,a,b⟩:=I.loc;refine⟨m,ns m a,λi x v j q a=>?_⟩;obtain⟨u,r,l⟩:=b i x v j q a;refine⟨u,r,?_⟩;rcases l with l|⟨k,c,e,z⟩;exact .inl l;exact .inr ⟨k,c,e,d x c e _ z⟩;obtain⟨v,z⟩:=I.cell x c e;exact⟨v,d x c e v z⟩;obtain⟨m,⟨o,_,_,t,_⟩,_⟩:=I.loc;exact f _ o (λz=>(y _ z).2.1 rfl) t I.free;obtain⟨v,o,t,C⟩:=I.cell x c e;exact f c o (λz=>(y c z).2.2.1 x c e rfl) t (I.Q2 x c e);obtain⟨e,n,b,a,d⟩:=I.pin p E;have A:p.1∉ch:=λz=>(y p.1 z).2.2.2 p E rfl
 exact⟨g p.1 p.2 b a A e n,f p.1 p.2 A e n,b,a,d⟩
def Inv.un{t':Nat}(I:Inv X pins σ H s)(u:Un X.fs [] H H' s.heap h')(h:QJ X.prog X.w H' h'):Inv X pins σ H' {s with heap:=h',toks:=t'}:=by
 obtain⟨m,⟨o,l,p,c,r⟩,_⟩:=id I.loc;obtain⟨i,f⟩:=u.any c I.free (by simp);exact I.step (g':=s.gens) (d':=s.drawn) (ch:=[]) (λ_ z=>nomatch z) (λb o _ a _ e n=>u.keep b o e n a (by simp)) (λb o _ a _ e n=>u.slot b o e n a (by simp)) (λb o _ e n=>u.free b o e n (by simp)) (λb o _ e=>u.there b o e (by simp)) u.Td u.SJ u.Te (λk e=>by obtain⟨j,g,a,b,d⟩:=e;rw[c]at b;cases b;exact⟨_,g,a,f,d⟩) h I.bare
def Inv.call{t':Nat}{d':Drawn}(I:Inv X pins σ H s)(u:Un (SF X.stack) ch H H' s.heap h')(i:QJ X.prog X.w H' h')(g:AllBare g')
  (a:∀b∈ch,(b∈X.ex∨X.Oy.heap.objs.size<=b)/\b≠X.env.locals/\(∀x c,X.env.cells.lookup x=some c->c≠b)/\∀p∈X.pn++pins,p.1≠b) :
  Inv X pins σ H' {s with heap:=h',gens:=g',drawn:=d',toks:=t'}:=by
 obtain⟨m,⟨o,q,t,d,r⟩,_⟩:=id I.loc;obtain⟨j,c⟩:=u.any d I.free λz=>(a _ z).2.1 rfl
 exact I.step (ch:=ch) a (λb o c f a e n=>u.keep b o e n (λz=>(Ov.mp (I.Sb b z)).elim c f) a) (λb o _ _ a e n=>u.any e n a) (λb o a e n=>u.free b o e n a) (λb o a e=>u.there b o e a) u.Td u.SJ u.Te (λl f=>by obtain⟨k,h,a,b,e⟩:=f;rw[d]at b;cases b;exact⟨_,h,a,c,e⟩) i g
def Inv.turned{t':Nat}{a:Addr}(I:Inv X pins σ H s)(k:∀b o,b≠a->s.heap.get? b=some o->h'.get? b=some o)(d:H a=none)(g:a≠X.env.locals)
  (q:a∈X.ex∨X.Oy.heap.objs.size<=a) (l:∀x c,X.env.cells.lookup x=some c->c≠a) (j:∀p∈X.pn++pins,p.1≠a):Inv X pins σ H {s with heap:=h',toks:=t'}:=by
 have f:∀b u,H b=some u->b≠a:=λb u e z=>by rw[z,d]at e;cases e
 refine I.step (g':=s.gens) (d':=s.drawn) (ch:=[a]) (λb i=>?_) (λb o _ _ d e _=>k b o (λz=>d (by simp[z])) e) (λb o _ _ d e _=>⟨o.slots,k b o (λz=>d (by simp[z])) e⟩) (λ_ _ _ _ n=>n)
  (λb o d e=>⟨o,k b o (λz=>d (by simp[z])) e⟩) (λ_ _ e=>e) (λ_ _ _ e=>e) (λb t e=>⟨#[],by rw[e];simp⟩) (λm h=>?_) (λb u e=>?_) I.bare
 have e:b=a:=by simpa using i
 subst e;exact⟨q,g,l,j⟩;obtain⟨o,i,j,a,r⟩:=h;exact⟨o,i,j,k _ o (Ne.symm g) a,r⟩;refine(I.Om b u e).Sa (λc v d q=>k c v ?_ q) (λ_ q=>q) λ_ _ q=>q
 rcases d with z|z;rw[z];exact f b u e;exact f c _ z
def Inv.tok(I:Inv X pins σ H s)(t:Nat):Inv X pins σ H {s with toks:=t}:=I.un (h':=s.heap) (t':=t) Un.refl I.Om
theorem Inv.kept{t':Nat}(I:Inv X pins σ H s)(k:∀b u,s.heap.get? b=some u->h'.get? b=some u):Inv X pins σ H {s with heap:=h',toks:=t'}:=I.un (Un.kept k) (I.Om.kept k)
theorem Inv.laid{a:Addr}{t':Nat}(I:Inv X pins σ H s)(k:∀b u,s.heap.get? b=some u->h'.get? b=some u)(d:s.heap.objs.size<=a)(c:bS X.prog X.w (upd H a o) h' a o) :
  Inv X pins σ (upd H a o) {s with heap:=h',toks:=t'}:=I.un (Un.laid k d (I.Om.fresh d)) (I.Om.laid k d c)
theorem Inv.write{e:Addr}{t':Nat}(I:Inv X pins σ H s)(d:Mut (H x))(f:e=x∨H e=some (.own x))(k:∀b u,b≠e->s.heap.get? b=some u->h'.get? b=some u)(a:∃u,h'.get? e=some u)
  (c:bS X.prog X.w (upd H x o) h' x o):Inv X pins σ (upd H x o) {s with heap:=h',toks:=t'}:=I.un (Un.write d f k a) (I.Om.write d f k a c)
def Inv.UO{a:yab}(I:Inv X pins σ H s)(h:∀p∈a,s.heap.get? p.1=some p.2/\H p.1=none/\p.1≠X.env.locals/\p.1∉X.fs/\∀v,p.2.data ≠ .cell v):Inv X a σ H s :=
 ⟨I.ok,I.os,I.bare,I.base,I.loc,I.cell,I.free,I.Q2,λp a=>(PU.mp a).elim (λz=>I.pin p (TF _ z)) (h p),I.Om,I.len⟩
def zc{N:yah}(c:N.Nodup){i j:Nat}{x:Str}(a:N[i]?=some x)(b:N[j]?=some x):i=j:=by obtain⟨f,d⟩:=Ql.mp a;obtain⟨e,a⟩:=Ql.mp b;exact(List.getElem_inj c).mp (d.trans a.symm)
def wQ{i:Nat}{x:Str}{Q:Unit->Shared->Prop}(I:Inv X pins σ H s)(hN:X.N.Nodup)(hi:X.N[i]?=some x)(t:Loc X.env.scope x)(r:RelV v u)
  (h:∀b,Inv X pins (σ.set i (some v)) H b->(∃a,Heap.SameBut a s.heap b.heap/\(a=X.env.locals∨X.env.cells.lookup x=some a))->Q () b) (G:X.fn x=true∨X.env.scope.names.lookup x=some .local:=by first|exact .inl rfl|exact .inr rfl|assumption):wpAny M A (storeName X.env x u) Q E s:=by
 obtain⟨m,hn,hl⟩:=id I.loc;have d:(X.env.scope.kind==.class || (X.env.scope.kind==.module && X.env.locals != X.env.globals))=false:=by rw[I.ok.kind];rfl
 have A:i<σ.length:=by rw[I.len];exact(Ql.mp hi).1
 have YA:=I.YA;have f:∀{a:Addr} {h':Heap},(∃o,s.heap.get? a=some o/\H a=none)->Heap.SameBut a s.heap h'->QJ X.prog X.w H h':=fun {a h'} j a b c e=>by
  obtain⟨_,_,g⟩:=j;refine(I.Om b c e).Sa (λc L l q=>(a.2 c ?_).trans q) (λ_ q=>q) λ_ _ q=>q
  rintro rfl;rcases l with rfl|l;rw[g]at e;cases e;rw[g]at l;cases l
 rcases t with hk|hk;refine wpAny_storeName_local hk hn (λh' g a=>?_) d;obtain⟨oL,_,_,d,_⟩:=id hn;refine h _ ⟨I.ok,I.os,I.bare,⟨λb o e n E t=>?_,λb o e n E t=>?_,I.base.free,λb o e t=>?_,I.base.Td,I.base.SJ,I.base.Te⟩,⟨_,g,λj y N g w e3=>?_⟩,λy c e=>?_,I.free,I.Q2,λp hp=>?_,f ⟨oL,d,I.free⟩ a,by simpa using I.len⟩ ⟨_,a,.inl rfl⟩;exact(a.2 b (PN (QL (OI e) I.ok.above))).trans (I.base.keep b o e n E t);obtain⟨Q,g⟩:=I.base.slot b o e n E t;exact⟨Q,(a.2 b (PN (QL (OI e) I.ok.above))).trans g⟩;obtain⟨U,g⟩:=I.base.there b o e t;exact⟨U,(a.2 b (PN (QL (OI e) I.ok.above))).trans g⟩;by_cases B:j=i;subst B;rw[hi]at g;cases g;rw[XI A]at w;cases w;exact⟨u,r,.inl ⟨hk,by simp⟩⟩;rw[TC (Ne.symm B)]at w;obtain⟨O,T,q⟩:=hl j y N g w e3;refine⟨O,T,?_⟩;rcases q with⟨k,e⟩| ⟨k,c,e,z⟩;refine .inl ⟨k,?_⟩;have:y≠x:=λe=>B (zc hN g (e ▸ hi))
 simp[this,e];exact .inr ⟨k,c,e,z.sameBut a (YA y c e)⟩;obtain⟨L,z⟩:=I.cell y c e;exact⟨L,z.sameBut a (YA y c e)⟩;obtain⟨e,n,M,Y,d⟩:=I.pin p hp;exact⟨(a.2 p.1 M).trans e,n,M,Y,d⟩;have C:X.fn x=true:=by
  rcases G with z|z;exact z;rw[z]at hk;cases hk
 obtain⟨c,l⟩:=I.ok.has x (.inl hk);obtain⟨L,z⟩:=I.cell x c l;refine wpAny_storeName_cell I.ok.kind hk l z (λh' UP a=>?_);obtain⟨oc,J,G⟩:=id z;refine h {s with heap:=h'} ⟨I.ok,I.os,I.bare,⟨λb o e n E t=>?_,λb o e n E t=>?_,I.base.free,λb o e t=>?_,I.base.Td,I.base.SJ,I.base.Te⟩,⟨m,hn.sameBut a (Ne.symm (YA x c l)),λj y N g w e3=>?_⟩,λy h e=>?_,I.free,I.Q2,λp hp=>?_,f ⟨oc,J,I.Q2 x c l⟩ a,by simpa using I.len⟩ ⟨c,a,.inr l⟩;exact(a.2 b (PN (QL (OI e) (I.ok.VN x c C l)))).trans (I.base.keep b o e n E t);obtain⟨Q,g⟩:=I.base.slot b o e n E t;exact⟨Q,(a.2 b (PN (QL (OI e) (I.ok.VN x c C l)))).trans g⟩;obtain⟨U,g⟩:=I.base.there b o e t;exact⟨U,(a.2 b (PN (QL (OI e) (I.ok.VN x c C l)))).trans g⟩;by_cases B:j=i;subst B;rw[hi]at g;cases g;rw[XI A]at w;cases w;exact⟨u,r,.inr ⟨.inl hk,c,l,UP⟩⟩;rw[TC (Ne.symm B)]at w;obtain⟨O,T,q⟩:=hl j y N g w e3;refine⟨O,T,?_⟩;rcases q with q|⟨k,h,e,b⟩;exact .inl q;refine .inr ⟨k,h,e,b.sameBut a ?_⟩;rintro rfl;exact B (zc hN g (I.ok.inj _ _ _ e l ▸ hi));by_cases b:h=c;subst b;exact⟨_,UP⟩;obtain⟨f,c⟩:=I.cell y h e;exact⟨f,c.sameBut a b⟩;obtain⟨e,n,M,Y,d⟩:=I.pin p hp;refine⟨(a.2 p.1 ?_).trans e,n,M,Y,d⟩;intro q;rw[q,J]at e;have a:oc=p.2:=SA e;exact d L (by rw[<- a];exact G)
def gF{i:Nat}{x:Str}{Q:Unit->Shared->Prop}(I:Inv X pins σ H s)(d:X.N.Nodup)(hi:X.N[i]?=some x)(b:Loc X.env.scope x)(r:RelV v u)
  (h:∀a,Inv X pins (σ.set i (some v)) H a->Q () a) (c:X.fn x=true∨X.env.scope.names.lookup x=some .local:=by first|exact .inl rfl|exact .inr rfl|assumption):wpAny M A (storeName X.env x u) Q E s :=
 wQ I d hi b r (λa b _=>h a b) c
def Inv.VO{a:Shared}(I:Inv X pins σ H s)(d:a.os=s.os)(u:Un (SF X.stack) ch H H' s.heap a.heap)(h:QJ X.prog X.w H' a.heap)(f:AllBare a.gens)
  (g:∀b∈ch,(b∈X.ex∨X.Oy.heap.objs.size<=b)/\b≠X.env.locals/\(∀x c,X.env.cells.lookup x=some c->c≠b)/\∀p∈X.pn++pins,p.1≠b):Inv X pins σ H' a:=by
 obtain⟨h',g',d',t',b⟩:=a;have e:b=s.os:=d;subst e;exact I.call (g':=g') (t':=t') (d':=d') u h f g
end
abbrev XK:=Value->Option Addr->Hp->Prop
abbrev St:=List (Option V)
abbrev VK:=V->Hp->Prop
abbrev TE:=St->Hp->VK->Prop
abbrev TT:=St->Hp->(Bool->Hp->Prop)->Prop
abbrev TA:=St->Hp->(yaq->Hp->Prop)->Prop
structure Ends where
 nx:St->Hp->Prop
 rt:VK
 bk:St->Hp->Prop:=λ_ _=>False
 ct:St->Hp->Prop:=λ_ _=>False
abbrev TS:=Ends->St->Hp->Prop
def EP(X:Cx)(a:yab)(c:St)(Q:VK)(u:Value)(d:Shared):Prop:=∃v b,Inv X a c b d/\RelV v u/\Q v b
def AP(X:Cx)(a:yab)(d:St)(Q:yaq->Hp->Prop)(e:yad)(f:Shared):Prop:=∃b c,Inv X a d c f/\Vals b e/\Q b c
def SP(X:Cx)(a:yab)(D:Ends)(f:Flow)(d:Shared):Prop :=
 match f with
 |.next=>∃c b,Inv X a c b d/\D.nx c b
 |.brk=>∃c b,Inv X a c b d/\D.bk c b
 |.cont=>∃c b,Inv X a c b d/\D.ct c b
 |.ret u=>∃v c b,Inv X a c b d/\RelV v u/\D.rt v b
def PE(X:Cx)(e:Expr)(t:TE):Prop :=
 ∀ (a:yab) (s:Shared) (b:St) (H:Hp) (Q:VK),Inv X a b H s->t b H Q->wpAny (model X.prog X.w) X.A (eval e X.env) (EP X a b Q) X.xe s
def PA(X:Cx)(es:yai)(t:TA):Prop :=
 ∀ (c:Pos) (a:yab) (s:Shared) (b:St) (H:Hp) (Q:yaq->Hp->Prop),Inv X a b H s->t b H Q->wpAny (model X.prog X.w) X.A (spliced (backTo c (starEach es X.env))) (AP X a b Q) X.xe s
def PS(X:Cx)(st:Stmt)(t:TS):Prop :=
 ∀ (a:yab) (s:Shared) (b:St) (H:Hp) (D:Ends),Inv X a b H s->t D b H->wpAny (model X.prog X.w) X.A (exec st X.env) (SP X a D) X.xe s
def PSs(X:Cx)(st:List Stmt)(t:TS):Prop :=
 ∀ (a:yab) (s:Shared) (b:St) (H:Hp) (D:Ends),Inv X a b H s->t D b H->wpAny (model X.prog X.w) X.A (execs st X.env) (SP X a D) X.xe s
def Oa{b:Type}{t:Sem b}{Q c:b->Shared->Prop}{M:Model}{A:Around}{E:yaa}{s:Shared}(h:wpAny M A t Q E s)(d:∀a s,Q a s->c a s):wpAny M A t c E s:=SV h d λ_ _ x=>x
section
variable{X:Cx}
def Mc(i:Nat):TE:=λa H Q=>∃v,a[i]?=some (some v)/\Q v H
def tC(v:V):TE:=λ_ H Q=>Q v H
def kA {i:Nat} {x:Str} (j:X.N[i]?=some x) (b:VM X.env.scope x) (d:(x==("__debug__" : Str))=false:=by decide) (k:(x==("__classdict__" : Str))=false:=by decide):PE X (.Name x pos) (Mc i):=by
 intro a s c H Q I h;obtain⟨v,e,h⟩:=h;obtain⟨m,f,g⟩:=I.loc;obtain⟨u,r,l⟩:=g i x v j e b;have b:EP X a c Q u s:=⟨v,H,I,r,h⟩;rcases l with⟨a,g⟩| ⟨a,c,c,e⟩;exact wpAny_Name (wpAny_loadName_local I.ok.kind a f g b) d;rcases a with a|a;exact wpAny_Name (wpAny_loadName_cell I.ok.kind a c e b) d;exact wpAny_Name (wpAny_loadName_free I.ok.kind a c e b k) d
def LO{i j pos}:PE X (.Constant (.int i) j pos) (tC (.int i)):=λ_ _ _ H _ I h=>wpAny_Constant_int ⟨.int i,H,I.tok _,⟨_,rfl⟩,h⟩
def MR{b j pos}:PE X (.Constant (.bool b) j pos) (tC (.bl b)):=λ_ _ _ H _ I h=>Constant_bool ⟨.bl b,H,I,rfl,h⟩
def LP{j pos}:PE X (.Constant .none j pos) (tC .OD):=λ_ _ _ H _ I h=>Constant_none ⟨.OD,H,I,rfl,h⟩
def LQ{x j pos}:PE X (.Constant (.str x) j pos) (tC (.str x)):=λ_ _ _ H _ I h=>Calls.Constant_str ⟨.str x,H,I.tok _,⟨_,rfl⟩,h⟩
def Gl(X:Cx)(x:Str):Prop:=X.env.kindOf x=some .globalImplicit
def qH{u:Value}{Q:yaa}(I:Inv X pins σ H s)(b:Gl X x)(a:X.mg x=some u)(h:Q u s)
  (c:(x==("__debug__" : Str))=false:=by decide):wpAny (model X.prog X.w) X.A (eval (.Name x pos) X.env) Q E s :=
 Calls.Name_function_global I.ok.kind b (Calls.loadGlobal_global (by rw[I.ok.glob];exact I.mod.glob.keeps I.bk) a h) c
def cH{u:Value}{Q:yaa}(I:Inv X pins σ H s)(d:Gl X x)(c:X.mg x=none)(a:bootBuiltins x=some u)(h:Q u s)
  (b:x ≠ "__name__" := by decide) (e:(x==("__debug__" : Str))=false:=by decide):wpAny (model X.prog X.w) X.A (eval (.Name x pos) X.env) Q E s:=by
 obtain⟨i,g,f⟩:=I.mod.blt;exact Calls.Name_function_global I.ok.kind d (Calls.loadGlobal_builtin (by rw[I.ok.glob];exact I.mod.glob.keeps I.bk) c (by rw[I.ok.blt];exact g.keeps I.bk) ((f x b).trans a) h) e
def Jn {u:Value} (b:Gl X x) (a:X.mg x=some u) (r:RelV v u) (c:(x==("__debug__" : Str))=false:=by decide):PE X (.Name x pos) (tC v) :=
 λ_ _ _ H _ I h=>qH I b a ⟨v,H,I,r,h⟩ c
def Jl {u:Value} (d:Gl X x) (c:X.mg x=none) (a:bootBuiltins x=some u) (r:RelV v u) (b:x ≠ "__name__" := by decide) (e:(x==("__debug__" : Str))=false:=by decide):PE X (.Name x pos) (tC v) :=
 λ_ _ _ H _ I h=>cH I d c a ⟨v,H,I,r,h⟩ b e
variable{a b:Expr}{ta tb:TE}{pos:Pos}
def zb(b:Expr){c:CmpOp}(h:c ≠ .In)(f:c ≠ .NotIn):behindInMarks c b=false:=by
 have e:(c==CmpOp.In)=false:=by lia
 have d:(c==CmpOp.NotIn)=false:=by lia
 cases b<;>simp[behindInMarks,e,d]
variable{tA tB':TT}{rest:yai}
end
def SqL(K:yac)(H:Hp)(a:Addr)(xs:yaq):Prop :=
 Rd H a (.lst xs) ∨
  ∃ (o:Obj) (b:yan) (n:Nat),K.lookup a=some o/\o.cls=.type "list" /\ o.dict=none/\o.data=.seq b n/\b.size<=sizeLine/\Vals xs b.toList
def OZ(K:yac)(H:Hp)(a:Addr)(xs:yaq):Prop :=
 Rd H a (.tup xs) ∨
  ∃ (o:Obj) (b:yan) (n:Nat),K.lookup a=some o/\o.cls=.type "tuple" /\ o.data=.seq b n/\b.size<=sizeLine/\Vals xs b.toList
noncomputable def Nc:Value->Option V
 |.none=>some .OD
 |.bool b=>some (.bl b)
 |.int i _=>some (.int i)
 |.str x _=>some (.str x)
 |.bytes b _=>some (.VL b)
 |.float b _=>some (.flt b)
 |.ref a=>some (.ref a)
 |.type n=>some (.ty n)
 |_=>none
def RelV.abs(r:RelV x u):Nc u=some x:=by
 cases x with
 |OD=>cases r;rfl
 |bl _=>cases r;rfl
 |int _=>obtain⟨t,rfl⟩:=r;rfl
 |str _=>obtain⟨t,rfl⟩:=r;rfl
 |VL _=>obtain⟨t,rfl⟩:=r;rfl
 |flt _=>obtain⟨t,rfl⟩:=r;rfl
 |ref _=>cases r;rfl
 |ty _=>cases r;rfl
theorem RelV.inj(r:RelV x u)(q:RelV y u):x=y:=SA (r.abs.symm.trans q.abs)
theorem Vals.inj:∀{xs ys:yaq} {a:yad},Vals xs a->Vals ys a->xs=ys
 |_,_,_,.nil,.nil=>rfl
 |_,_,_,.cons r t,.cons b a=>by rw[r.inj b,Vals.inj t a]
section
variable{X:Cx}{pins:yab}{σ:St}{H:Hp}{s:Shared}{a:Addr}{xs ys:yaq}
def SqL.of{K:yac}(h:H a=some (.lst xs)):SqL K H a xs:=.inl (.inl h)
def OZ.of{K:yac}(h:H a=some (.tup xs)):OZ K H a xs:=.inl (.inl h)
def Inv.list(I:Inv X pins σ H s)(h:SqL X.K H a xs):∃b:yad,Vals xs b/\PlainL s.heap a b.toArray/\xs.length<=sizeLine:=by
 rcases h with h|⟨o,b,n,d,g,f,c,i,r⟩;obtain⟨z,b,n,r,e⟩:=h.ok I.Om;exact⟨b,r,⟨_,n,e,rfl,rfl,rfl⟩,z⟩;refine⟨b.toList,r,⟨o,n,I.Tf a o d,g,f,by simpa using c⟩,?_⟩;have e:=r.length;simp only[RS]at e
 lia
def Inv.tuple(I:Inv X pins σ H s)(h:OZ X.K H a xs):∃b:yad,Vals xs b/\IsTup s.heap a b.toArray/\xs.length<=sizeLine:=by
 rcases h with h|⟨o,b,n,c,d,g,f,r⟩;obtain⟨z,b,r,p⟩:=h.ok I.Om;exact⟨b,r,p,z⟩;refine⟨b.toList,r,⟨o,I.Tf a o c,d,n,by simp_all⟩,?_⟩;have e:=r.length
 simp_all
def Inv.Sd(I:Inv X pins σ H s)(h:SqL X.K H a xs)(h':SqL X.K H a ys):xs=ys:=by
 obtain⟨f,r,⟨o,n,e,_,_,d⟩,_⟩:=I.list h;obtain⟨b,c,⟨g,i,d,_,_,j⟩,_⟩:=I.list h';rw[e]at d;have:f=b:=by lia
 subst this;exact r.inj c
def Inv.SX(I:Inv X pins σ H s)(h:OZ X.K H a xs)(h':OZ X.K H a ys):xs=ys:=by
 obtain⟨f,r,⟨o,e,_,n,d⟩,_⟩:=I.tuple h;obtain⟨b,c,⟨g,d,_,i,j⟩,_⟩:=I.tuple h';rw[e]at d;have:f=b:=by lia
 subst this;exact r.inj c
end
noncomputable abbrev Cx.wish(X:Cx)(E:yaa):Cx:={X with xe:=E}
abbrev Cx.nox(X:Cx):Cx:=X.wish λ_ _=>False
theorem Cx.Ok.wish{X:Cx}(a:X.Ok)(E:yaa):(X.wish E).Ok :=
 ⟨a.mod,a.kind,a.glob,a.blt,a.above,a.inj,a.has,a.VN,a.hd,a.frames,a.stk,a.exf,a.bs,a.Yy,a.U3,a.WY,a.RT,a.Yz⟩
def Cx.Ok.Qu{X:Cx}(a:(X.wish E).Ok):X.Ok :=
 ⟨a.mod,a.kind,a.glob,a.blt,a.above,a.inj,a.has,a.VN,a.hd,a.frames,a.stk,a.exf,a.bs,a.Yy,a.U3,a.WY,a.RT,a.Yz⟩
section
variable{X:Cx}{pins:yab}{σ:St}{H:Hp}{s:Shared}{E:yaa}
theorem Inv.wish(I:Inv X pins σ H s)(E:yaa):Inv (X.wish E) pins σ H s:=⟨I.ok.wish E,I.os,I.bare,I.base,I.loc,I.cell,I.free,I.Q2,I.pin,I.Om,I.len⟩
theorem Inv.Qu(I:Inv (X.wish E) pins σ H s):Inv X pins σ H s:=⟨I.ok.Qu,I.os,I.bare,I.base,I.loc,I.cell,I.free,I.Q2,I.pin,I.Om,I.len⟩
end
section
variable{X:Cx}{st:Stmt}{rest:List Stmt}{t u:TS}{e:Expr}{te:TE}{pos:Pos}
def Inv.quiet(I:Inv X pins σ H s):interactive X.env=false:=by simp[interactive,I.ok.kind]
def M3(te:TE):TS:=λD a H=>te a H λ_ b=>D.nx a b
def vp(c:PE X e te)(hs:swapsWith e none pos.line X.env=pure false:=by rfl):PS X (.Expr e pos) (M3 te):=by intro a s b H D I h;exact wpAny_Expr_any (Oa (c a s b H _ I h) λv g c=>(by obtain⟨x,f,d,i,a⟩:=c;exact⟨b,f,d,a⟩)) I.quiet hs
end
abbrev TIp:=V->V->Hp->VK->Prop
def PIp(X:Cx)(c:Operator)(t:TIp):Prop :=
 ∀ (a:yab) (s:Shared) (b:St) (H:Hp) (x y:V) (v u:Value) (Q:VK),Inv X a b H s->RelV x v->RelV y u->t x y H Q →
  wpAny (model X.prog X.w) X.A (inplaceOp c v u) (EP X a b Q) X.xe s
section
variable{X:Cx}{pos:Pos}
def NL(i j:Nat)(b:TA):TS:=λD a H=>b a H λb c=>∃v w,b=[v,w]/\D.nx ((a.set i (some v)).set j (some w)) c
def LX{i j:Nat}{x y:Str}{a b:Expr}{e:TA}{d c pt:Pos}{kt k2 YC}(u:X.calm=true)(m:X.N.Nodup)(hi:X.N[i]?=some x)(t:X.N[j]?=some y)(z:i≠j)
  (l:X.env.scope.names.lookup x=some .local) (k:X.env.scope.names.lookup y=some .local) (f:PA X [a,b] e)
  (r:swappedStores [.Tuple [.Name x d,.Name y c] kt pt] (.Tuple [a,b] k2 YC) X.env=pure (some [x,y]))
  (hs:swapsWithSole [.Tuple [.Name x d,.Name y c] kt pt] (.Tuple [a,b] k2 YC) pos.line X.env=pure false:=by rfl) :
  PS X (.Assign [.Tuple [.Name x d,.Name y c] kt pt] (.Tuple [a,b] k2 YC) pos) (NL i j e):=by
 intro a s e H D I h;refine NY (wpAny_standAt ?_);refine NY (wpAny_pure ?_);refine NY (Tuple_ (Oa (f _ a s e H _ I h) λi f c=>?_));obtain⟨A,h,o,n,g⟩:=c;obtain⟨v,w,c,g⟩:=g;subst c;obtain⟨d,c,rfl,j,s⟩:∃d c,i=[d,c]/\RelV v d/\RelV w c:=by
  cases n with
  |cons p q =>
   cases q with
   |cons n i =>
    cases i;exact⟨_,_,rfl,p,n⟩
 refine Wk ?_ (by show 2<=sizeLine;decide);have i:Inv X a e h {f with heap:=f.heap.push {cls:=.type "tuple", data:=.seq [d,c].toArray} }:=o.kept (t':=f.toks) λb o e=>Ph _ e
 rw[r];refine NY (wpAny_pure ?_);refine NY (wpAny_rule (NY (unpackItems_tuple (items:=#[d,c]) (I.ok.hd u) (IsTup.new f.heap _) λh' a=>?_)));have c:=i.kept (h':=h') (t':=f.toks) λb o e=>a b o (PN (OI e)) e
 refine NY (assignInOrder_cons (wpAny_bindName (gF c m t (.inl k) s (λC a=>?_) (.inr k))));refine assignInOrder_cons (wpAny_bindName (gF a m hi (.inl l) j (λB a=>assignInOrder_nil (wpAny_pure ?_)) (.inr l)));rw[List.set_comm _ _ (Ne.symm z)]at a;exact⟨_,h,a,g⟩
def NJ(i:Nat)(te:TE)(b:TIp):TS:=λD a H=>∃x,a[i]?=some (some x)/\te a H λy c=>b x y c λz b=>D.nx (a.set i (some z)) b
def LV{i:Nat}{x:Str}{e:Expr}{te:TE}{c:Operator}{b:TIp}{a:Pos}(p:X.N.Nodup)(hi:X.N[i]?=some x)(d:Loc X.env.scope x)(o:PE X e te)(j:PIp X c b)(n:X.fn x=true∨X.env.scope.names.lookup x=some .local:=by first|exact .inl rfl|exact .inr rfl|assumption) :
  PS X (.AugAssign (.Name x a) c e pos) (NJ i te b):=by
 intro a s f H D I h;obtain⟨v,q,h⟩:=h;obtain⟨m,m,g⟩:=I.loc;have b:VM X.env.scope x:=by rcases d with k|k;exact .inl k;exact .inr (.inl k)
 obtain⟨u,r,l⟩:=g i x v hi q b;refine wpAny_AugAssign_Name ?_;have g:wpAny (model X.prog X.w) X.A (eval e X.env) (λw e=>wpAny (model X.prog X.w) X.A (inplaceOp c u w) (λr b=>wpAny (model X.prog X.w) X.A (storeName X.env x r) (λ_=>SP X a D .next) X.xe b) X.xe e) X.xe s:=by
  refine Oa (o a s f H _ I h) λw c b=>?_
  obtain⟨y,o,i,e,h⟩:=b;refine Oa (j a c f o v y u w _ i r e h) λz B b=>?_
  obtain⟨t,f,e,a,c⟩:=b;exact gF e p hi d a (λA a=>⟨_,f,a,c⟩) n
 rcases l with⟨a,b⟩| ⟨a,c,c,e⟩;exact wpAny_loadName_local I.ok.kind a m b g;rcases a with a|a;exact wpAny_loadName_cell I.ok.kind a c e g;rcases d with k|k;have:X.env.scope.names.lookup x=some .free:=a
 lia
 have:X.env.scope.names.lookup x=some .free:=a
 lia
def ipI(f:Int->Int->Int):TIp:=λx y H Q=>∃i j,x=.int i/\y=.int j/\Q (.int (f i j)) H
def Ll:PIp X .Add (ipI λi j=>i+j):=by intro a s f H x y v u Q I c b h;obtain⟨i,j,e,d,q⟩:=h;subst e;subst d;obtain⟨t,rfl⟩:=c;obtain⟨g,rfl⟩:=b;exact iadd_int ⟨.int _,H,I.tok _,⟨_,rfl⟩,q⟩
end
structure It where
 go:Nat->Hp->Prop
 yld:Nat->Hp->V->Hp->Prop
 stop:Nat->Hp->Prop
def eO(X:Cx)(a:yab)(H:Hp)(b:Addr):Prop :=
 H b=none/\b≠X.env.locals/\b∉X.fs/\(b∈X.ex∨X.Oy.heap.objs.size<=b)/\(∀x c,X.env.cells.lookup x=some c->c≠b)/\∀p∈X.pn++a,p.1≠b
def Inv.VP{H':Hp}{b:Addr}(I:Inv X pins σ H s)(a:s.heap.objs.size<=b)(c:H' b=none):eO X pins H' b:=by refine⟨c,Uc (QL I.lt a),I.nofs a,.inr (Pe I.sz a),λx c e z=>?_,λp a z=>?_⟩;obtain⟨v,q⟩:=I.cell x c e;exact absurd (QL q.lt (by simp_all)) (VG _);exact absurd (QL (OI (I.pin p a).1) (by simp_all)) (VG _)
structure Turn(P:Program)(w:World)(K:yac)(tg:Expr)(J:It)(fp:yae)(it:Addr)(tn:Nat->Heap->Prop):Prop where
 mem:it∈fp
 obj:∀i h,tn i h->∀b∈fp,∃o,h.get? b=some o/\∀v,o.data ≠ .cell v
 keep:∀i h h',tn i h->(∀b∈fp,∀o,h.get? b=some o->h'.get? b=some o)->tn i h'
 item:∀(X:Cx),X.prog=P->X.w=w->X.K=K->X.calm=true->∀(i:Nat) (pins:yab) (s:Shared) (σ:St) (H:Hp) (E:yaa),Inv X pins σ H s->(∀b∈fp,eO X pins H b)->tn i s.heap->J.go i H →
  wpAny (model P w) X.A (pyNext (.ref it)) (λr s1=>∃u,r=some u ∧
   wpAny (model P w) X.A (letOwnedTupleGo tg (.ref it) u) (λ_ s2=>∃x H',Inv X pins σ H' s2/\RelV x u/\J.yld i H x H'/\tn (i+1) s2.heap/\∀b∈fp,H' b=none) E s1) E s
 done:∀(X:Cx),X.prog=P->X.w=w->X.K=K->X.calm=true->∀(i:Nat) (pins:yab) (s:Shared) (σ:St) (H:Hp) (E:yaa),Inv X pins σ H s->(∀b∈fp,eO X pins H b)->tn i s.heap->J.stop i H →
  wpAny (model P w) X.A (pyNext (.ref it)) (λr s1=>r=none/\Inv X pins σ H s1) E s
 self:∀(A:Around) (i:Nat) (s:Shared) (Q:yaa) (E:yaa),tn i s.heap->Q (.ref it) s->wpAny (model P w) A (pyIter (.ref it)) Q E s
abbrev TI:=St->Hp->(It->Hp->Prop)->Prop
def PIE(X:Cx)(a:yab)(f:St)(g:Expr)(R:It->Hp->Prop)(h:Value)(b:Shared):Prop :=
 ∃ (d:Addr) (e:yae) (tn:Nat->Heap->Prop) (J:It) (c:Hp),h=.ref d/\Inv X a f c b/\Turn X.prog X.w X.K g J e d tn/\tn 0 b.heap/\(∀b∈e,eO X a c b)/\R J c
def PI(X:Cx)(d b:Expr)(wi:TI):Prop :=
 ∀ (a:yab) (s:Shared) (c:St) (H:Hp) (R:It->Hp->Prop),Inv X a c H s->wi c H R →
  wpAny (model X.prog X.w) X.A (eval b X.env) (λv b=>wpAny (model X.prog X.w) X.A (pyIter v) (PIE X a c d R) X.xe b) X.xe s
def Ck {s : Shared} {o : Obj} {Q : Unit -> Shared -> Prop} (b : s.heap.get? it = some o) (e : o.cls = .type n) (d : o.data = .fields vs)
    (c : ["enumerate", "zip", "dict_itemiterator", "dict_reverseitemiterator", "odict_iterator", "itertools.zip_longest", "itertools.pairwise"].contains n = false) (a : Q () s) : wpAny M A (letOwnedTupleGo tg (.ref it) u) Q E s := by
  unfold letOwnedTupleGo;cases tg <;> first
    | exact wpAny_pure a
    | (cases u <;> first
        | exact wpAny_pure a
        | (refine NY (wpAny_load b ?_)
           rw [e, d];show wpAny M A (if (["enumerate", "zip", "dict_itemiterator", "dict_reverseitemiterator", "odict_iterator", "itertools.zip_longest", "itertools.pairwise"].contains n && vs[0]? == some (rawInt _)) = true then _ else _) Q E s;rw [N2 (by intro h; rw [c, Bool.false_and] at h; cases h)];exact wpAny_pure a))
def Itl(K:yac)(a:Addr):It :=
 ⟨λi H=>∃b x,SqL K H a b/\b[i]?=some x,λi H x c=>c=H/\∀b,SqL K H a b->b[i]?=some x,λi H=>∃b,SqL K H a b/\b.length<=i⟩
def Itt(K:yac)(a:Addr):It :=
 ⟨λi H=>∃b x,OZ K H a b/\b[i]?=some x,λi H x c=>c=H/\∀b,OZ K H a b->b[i]?=some x,λi H=>∃b,OZ K H a b/\b.length<=i⟩
def Fi{P:Program}{w:World}{K:yac}{b:Expr}(a f:Addr):Turn P w K b (Itl K a) [f] f (λi h=>h.IsListIter f a i) where
 mem:=by simp
 obj:=λi h st b g=>by
  have e:b=f:=by simpa using g
  subst e;obtain⟨o,e,c,d⟩:=st;exact⟨o,e,λv z=>by rw[d]at z;cases z⟩
 keep:=λi h l st k=>st.at λo e=>k f (by simp) o e
 item:=by
  intro X t q w J i a s G H E I k st r;subst t q w;obtain⟨M,x,j,n⟩:=r;obtain⟨T,m,p,O⟩:=I.list j;obtain⟨u,L,N⟩:=m.get n;obtain⟨C,B,Q,A,z,y⟩:=k f (by simp);refine wpAny_pyNext_list_item st p.isList (x:=u) (by simpa using L) λl L sb=>?_
  have U:Inv X a G H {s with heap:=l}:=I.turned (t':=s.toks) (λb o g e=>(sb.2 b g).trans e) C B A z y;obtain⟨o,e,c,d⟩:=id L;exact⟨u,rfl,Ck (s:={s with heap:=l}) e c d (by decide) ⟨x,H,U,N,⟨rfl,λY c=>by rw[I.Sd c j];exact n⟩,L,λb g=>(k b g).1⟩⟩
 done:=by intro X t q w J i a s G H E I k st r;subst t q w;obtain⟨M,j,n⟩:=r;obtain⟨T,m,p,O⟩:=I.list j;obtain⟨C,B,Q,A,z,y⟩:=k f (by simp);have hl:=m.length;exact wpAny_pyNext_list_end (I.ok.hd J) st p.isList (by simp;lia) λl a=>⟨rfl,I.turned (t':=s.toks) (λb o g e=>a b o g e) C B A z y⟩
 self:=λ_ _ _ _ _ st h=>wpAny_pyIter_listiter st h
def C4{P:Program}{w:World}{K:yac}{b:Expr}(a g:Addr):Turn P w K b (Itt K a) [g] g (λi h=>h.IsTupleIter g a i) where
 mem:=by simp
 obj:=λi h st b l=>by
  have e:b=g:=by simp_all
  obtain⟨o,e,c,d⟩:=st;grind
 keep:=λi h m st k=>st.at λo e=>k g (by simp) o e
 item:=by
  intro X w q y M i f s L H E I t st r;subst w q y;obtain⟨O,x,j,n⟩:=r;obtain⟨J,k,p,T⟩:=I.tuple j;obtain⟨u,hu,Q⟩:=k.get n;obtain⟨G,C,U,B,A,z⟩:=t g (by simp);refine wpAny_pyNext_tuple_item st (show s.heap.IsTuple a J.toArray from p) (x:=u) (by simp_all) λm N sb=>?_
  have Y:Inv X f L H {s with heap:=m}:=I.turned (t':=s.toks) (λb o l e=>(sb.2 b l).trans e) G C B A z;obtain⟨o,e,c,d⟩:=id N;exact⟨u,rfl,Ck (s:={s with heap:=m}) e c d (by decide) ⟨x,H,Y,Q,⟨rfl,λys c=>by rw[I.SX c j];exact n⟩,N,by simp_all⟩⟩
 done:=by intro X w q y M i f s L H E I t st r;subst w q y;obtain⟨O,j,n⟩:=r;obtain⟨J,k,p,T⟩:=I.tuple j;obtain⟨G,C,U,B,A,z⟩:=t g (by simp);have hl:=k.length;exact wpAny_pyNext_tuple_end (I.ok.hd M) st (show s.heap.IsTuple a J.toArray from p) (by simp_all) λm a=>⟨rfl,I.turned (t':=s.toks) (λb o l e=>a b o l e) G C B A z⟩
 self:=λ_ _ _ _ _ st h=>wpAny_pyIter_tupleiter st h
section
variable{X:Cx}{tg:Expr}
def MF(K:yac)(tl:TE):TI:=λa H R=>tl a H λx b=>∃a,x=.ref a/\(∃c,SqL K b a c)/\R (Itl K a) b
def Nq(K:yac)(tl:TE):TI:=λa H R=>tl a H λx b=>∃a,x=.ref a/\(∃c,OZ K b a c)/\R (Itt K a) b
def Jo{l:Expr}{tl:TE}(c:PE X l tl):PI X tg l (MF X.K tl):=by
 intro a s b H R I h;refine Oa (c a s b H _ I h) λv c a=>?_
 obtain⟨x,h,d,b,f⟩:=a;obtain⟨a,e,⟨i,g⟩,q⟩:=f;subst e;cases b;obtain⟨N5,j,p,k⟩:=d.list g;refine wpAny_pyIter_list p.isList ?_;refine⟨c.heap.objs.size,[c.heap.objs.size],_,_,h,rfl,d.kept (t':=c.toks) λb o e=>Ph _ e,Fi a _,⟨_,Q7 _ rfl,rfl,rfl⟩,λb m=>?_,q⟩;have e:b=c.heap.objs.size:=by simp_all
 subst e;exact d.VP (OP _) (d.Om.fresh (OP _))
def LR{l:Expr}{tl:TE}(c:PE X l tl):PI X tg l (Nq X.K tl):=by
 intro a s b H R I h;refine Oa (c a s b H _ I h) λv c a=>?_
 obtain⟨x,h,d,b,f⟩:=a;obtain⟨a,e,⟨i,g⟩,q⟩:=f;subst e;cases b;obtain⟨b,j,p,k⟩:=d.tuple g;refine wpAny_pyIter_tuple (show c.heap.IsTuple a b.toArray from p) ?_;refine⟨c.heap.objs.size,[c.heap.objs.size],_,_,h,rfl,d.kept (t':=c.toks) λb o e=>Ph _ e,C4 a _,⟨_,Q7 _ rfl,rfl,rfl⟩,λb m=>?_,q⟩;have e:b=c.heap.objs.size:=by simp_all
 subst e;exact d.VP (OP _) (d.Om.fresh (OP _))
def ui(a:yae)(h:Heap):yab:=a.filterMap λb=>(h.get? b).map λo=>(b,o)
def jP{a:yae}{h:Heap}{b:Addr}{o:Obj}(c:b∈a)(e:h.get? b=some o):(b,o)∈ui a h:=Z8.mpr ⟨b,c,by rw[e];rfl⟩
def Eu{p:Addr×Obj}(a:p∈ui fp h):p.1∈fp/\h.get? p.1=some p.2:=by
 obtain⟨b,c,e⟩:=Z8.mp a;cases q:h.get? b with
 |none=>grind
 |some o =>
  grind
def Inv.pinned{a:yae}(I:Inv X pins σ H s)(d:∀b∈a,eO X pins H b)(c:∀b∈a,∃o,s.heap.get? b=some o/\∀v,o.data ≠ .cell v):Inv X (pins++ui a s.heap) σ H s :=
 I.UO λp a=>(PU.mp a).elim (λz=>I.pin p (RA _ z)) λz=>by obtain⟨a,e⟩:=Eu z;obtain⟨h,g,f,_⟩:=d p.1 a;obtain⟨o,b,d⟩:=c p.1 a;rw[e]at b;cases b;exact⟨e,h,g,f,d⟩
def Inv.QN{a b:yab}(I:Inv X (a++b) σ H s):Inv X a σ H s:=I.UO λp a=>I.pin p (RA _ (TF _ a))
end
abbrev R2:=V->V->Hp->VK->Prop
def SY(X:Cx)(f:Value->Value->Sem Value)(r:R2):Prop :=
 ∀ (a:yab) (s:Shared) (b:St) (H:Hp) (x y:V) (v u:Value) (Q:VK),Inv X a b H s->RelV x v->RelV y u->r x y H Q →
  wpAny (model X.prog X.w) X.A (f v u) (EP X a b Q) X.xe s
def UnR(X:Cx)(f:Value->Sem Value)(r:V->Hp->VK->Prop):Prop :=
 ∀ (a:yab) (s:Shared) (b:St) (H:Hp) (x:V) (v:Value) (Q:VK),Inv X a b H s->RelV x v->r x H Q →
  wpAny (model X.prog X.w) X.A (f v) (EP X a b Q) X.xe s
def sV(X:Cx)(f:Value)(r:yaq->Hp->VK->Prop):Prop :=
 ∀ (a:yab) (s:Shared) (b:St) (H:Hp) (c:yaq) (d:yad) (Q:VK),Inv X a b H s->Vals c d->r c H Q →
  wpAny (model X.prog X.w) X.A (call f d) (EP X a b Q) X.xe s
def rI(C:Int->Int->Prop)(g:Int->Int->V):R2:=λx y H Q=>∃i j,x=.int i/\y=.int j/\C i j/\Q (g i j) H
def Wo(g:Int->Int->V):R2:=λx y H Q=>∃i j,x=.int i/\y=.int j/\Q (g i j) H
def rU(g:Int->V):V->Hp->VK->Prop:=λx H Q=>∃i,x=.int i/\Q (g i) H
section
variable{X:Cx}{a b c:Expr}{ta tb tc:TE}{pos:Pos}
def opI{f:Value->Value->Sem Value}{C:Int->Int->Prop}{g:Int->Int->Int}
  (rule:∀(i j:Int) (t u:Tok) (s:Shared) (Q:yaa) (E:yaa),C i j->Q (.int (g i j) s.toks) {s with toks:=s.toks+1}->wpAny (model X.prog X.w) X.A (f (.int i t) (.int j u)) Q E s) :
  SY X f (rI C λi j=>.int (g i j)):=by
 intro d s l H x y v u Q I e f h;obtain⟨i,j,rfl,rfl,k,q⟩:=h;obtain⟨t,rfl⟩:=e;obtain⟨e,rfl⟩:=f;exact rule i j t e s _ _ k ⟨.int (g i j),H,I.tok _,⟨_,rfl⟩,q⟩
def LG{f:Value->Value->Sem Value}{g:Int->Int->Int}
  (rule:∀(i j:Int) (t u:Tok) (s:Shared) (Q:yaa) (E:yaa),Q (.int (g i j) s.toks) {s with toks:=s.toks+1}->wpAny (model X.prog X.w) X.A (f (.int i t) (.int j u)) Q E s) :
  SY X f (Wo λi j=>.int (g i j)):=by
 intro d s k H x y v u Q I e f h;obtain⟨i,j,rfl,rfl,q⟩:=h;obtain⟨t,rfl⟩:=e;obtain⟨e,rfl⟩:=f;exact rule i j t e s _ _ ⟨.int (g i j),H,I.tok _,⟨_,rfl⟩,q⟩
def CH{f:Value->Value->Sem Value}{g:Int->Int->Bool}
  (rule:∀(i j:Int) (t u:Tok) (s:Shared) (Q:yaa) (E:yaa),Q (.bool (g i j)) s->wpAny (model X.prog X.w) X.A (f (.int i t) (.int j u)) Q E s) :
  SY X f (Wo λi j=>.bl (g i j)):=by
 intro d s k H x y v u Q I e f h;obtain⟨i,j,rfl,rfl,q⟩:=h;obtain⟨t,rfl⟩:=e;obtain⟨e,rfl⟩:=f;exact rule i j t e s _ _ ⟨.bl (g i j),H,I,rfl,q⟩
def Fw(i j:Int):Prop:=0<=j/\j<=1000000/\i.natAbs<2 ^ 64
def LH:SY X (binaryOp .Add) (Wo λi j=>.int (i+j)):=LG λ_ _ _ _ _ _ _ q=>add_int q
def LK:SY X (binaryOp .Sub) (Wo λi j=>.int (i - j)):=LG λ_ _ _ _ _ _ _ q=>sub_int q
def Jh:SY X (binaryOp .Mod) (rI (λ_ j=>j≠0) λi j=>.int (i.fmod j)):=opI λ_ _ _ _ _ _ _ d q=>mod_int' d q
def LJ:SY X (binaryOp .Pow) (rI Fw λi j=>.int (i ^ j.toNat)):=opI λ_ _ _ _ _ _ _ d q=>pow_int_small d.1 d.2.1 d.2.2 q
def unI{f:Value->Sem Value}{g:Int->Int}
  (rule:∀(i:Int) (t:Tok) (s:Shared) (Q:yaa) (E:yaa),Q (.int (g i) s.toks) {s with toks:=s.toks+1}->wpAny (model X.prog X.w) X.A (f (.int i t)) Q E s) :
  UnR X f (rU λi=>.int (g i)):=by
 intro d s j H x v Q I e h;obtain⟨i,rfl,q⟩:=h;obtain⟨t,rfl⟩:=e;exact rule i t s _ _ ⟨.int (g i),H,I.tok _,⟨_,rfl⟩,q⟩
def Me:UnR X (unaryOp .USub) (rU λi=>.int (-i)):=unI λ_ _ _ _ _ q=>neg_int q
end
def zF:V->V->Bool
 |.OD,.OD=>true|.OD,.int _=>true|.int _,.OD=>true|.OD,.bl _=>true|.bl _,.OD=>true|.OD,.str _=>true|.str _,.OD=>true
 |.int _,.int _=>true|.bl _,.bl _=>true|.str _,.str _=>true|.VL _,.VL _=>true
 |.int _,.str _=>true|.str _,.int _=>true|.bl _,.str _=>true|.str _,.bl _=>true
 |_,_=>false
def rEq:R2:=λx y H Q=>zF x y=true/\Q (.bl (decide (x=y))) H
def rNe:R2:=λx y H Q=>zF x y=true/\Q (.bl (!decide (x=y))) H
def A5:decide (V.int i=V.int j)=(i==j):=by rw[Zu];simp
def DX:decide (V.bl i=V.bl j)=(i==j):=by rw[Zu];simp
def A6:decide (V.str i=V.str j)=(i==j):=by rw[Zu];simp
def A4:decide (V.VL i=V.VL j)=(i.toList==j.toList):=by
 rw[Zu]
 simp_all
section
variable{X:Cx}{a b c:Expr}{ta tb tc:TE}{pos:Pos}
def bo{Q:VK}{d:Bool}(I:Inv X pins σ H s)(q:Q (.bl k) H)(e:k=d):EP X pins σ Q (.bool d) s:=by subst e;exact⟨.bl k,H,I,rfl,q⟩
def MK:SY X (compareOp .Eq) rEq:=by
 intro k s l H x y v u Q I g d h;obtain⟨f,q⟩:=h;cases x with
 |OD =>
  cases g;cases y with
  |OD=>cases d;exact PySem.EqNone.eq_none_none (bo I q (by simp))
  |bl j=>cases d;exact PySem.EqNone.eq_none_bool (bo I q (by simp))
  |int j=>obtain⟨e,rfl⟩:=d;exact PySem.EqNone.eq_none_int (bo I q (by simp))
  |str j=>obtain⟨e,rfl⟩:=d;exact PySem.EqNone.eq_none_str (bo I q (by simp))
  |_=>exact absurd (show false=true from f) UG
 |bl i =>
  cases g;cases y with
  |OD=>cases d;exact PySem.EqNone.eq_bool_none (bo I q (by simp))
  |bl j=>cases d;exact eq_bool (bo I q DX)
  |str j=>obtain⟨e,rfl⟩:=d;exact PySem.EqMixed.eq_bool_str (bo I q (by simp))
  |_=>exact absurd (show false=true from f) UG
 |int i =>
  obtain⟨t,rfl⟩:=g;cases y with
  |OD=>cases d;exact PySem.EqNone.eq_int_none (bo I q (by simp))
  |int j=>obtain⟨e,rfl⟩:=d;exact eq_int (bo I q A5)
  |str j=>obtain⟨e,rfl⟩:=d;exact PySem.EqMixed.eq_int_str (bo I q (by simp))
  |_=>exact absurd (show false=true from f) UG
 |str i =>
  obtain⟨t,rfl⟩:=g;cases y with
  |OD=>cases d;exact PySem.EqNone.eq_str_none (bo I q (by simp))
  |bl j=>cases d;exact PySem.EqMixed.eq_str_bool (bo I q (by simp))
  |int j=>obtain⟨e,rfl⟩:=d;exact PySem.EqMixed.eq_str_int (bo I q (by simp))
  |str j=>obtain⟨e,rfl⟩:=d;exact eq_str (bo I q A6)
  |_=>exact absurd (show false=true from f) UG
 |VL i =>
  obtain⟨t,rfl⟩:=g;cases y with
  |VL j=>obtain⟨e,rfl⟩:=d;exact PySem.W.eq_bytes (bo I q A4)
  |_=>exact absurd (show false=true from f) UG
 |_=>cases y<;>exact absurd (show false=true from f) UG
def MQ:SY X (compareOp .NotEq) rNe:=by
 intro k s l H x y v u Q I g d h;obtain⟨f,q⟩:=h;cases x with
 |OD =>
  cases g;cases y with
  |OD=>cases d;exact PySem.EqNone.ne_none_none (bo I q (by simp))
  |bl j=>cases d;exact PySem.EqNone.ne_none_bool (bo I q (by simp))
  |int j=>obtain⟨e,rfl⟩:=d;exact PySem.EqNone.ne_none_int (bo I q (by simp))
  |str j=>obtain⟨e,rfl⟩:=d;exact PySem.EqNone.ne_none_str (bo I q (by simp))
  |_=>exact absurd (show false=true from f) UG
 |bl i =>
  cases g;cases y with
  |OD=>cases d;exact PySem.EqNone.ne_bool_none (bo I q (by simp))
  |bl j=>cases d;exact ne_bool (bo I q (congrArg not DX))
  |str j=>obtain⟨e,rfl⟩:=d;exact PySem.EqMixed.ne_bool_str (bo I q (by simp))
  |_=>exact absurd (show false=true from f) UG
 |int i =>
  obtain⟨t,rfl⟩:=g;cases y with
  |OD=>cases d;exact PySem.EqNone.ne_int_none (bo I q (by simp))
  |int j=>obtain⟨e,rfl⟩:=d;exact ne_int (bo I q (congrArg not A5))
  |str j=>obtain⟨e,rfl⟩:=d;exact PySem.EqMixed.ne_int_str (bo I q (by simp))
  |_=>exact absurd (show false=true from f) UG
 |str i =>
  obtain⟨t,rfl⟩:=g;cases y with
  |OD=>cases d;exact PySem.EqNone.ne_str_none (bo I q (by simp))
  |bl j=>cases d;exact PySem.EqMixed.ne_str_bool (bo I q (by simp))
  |int j=>obtain⟨e,rfl⟩:=d;exact PySem.EqMixed.ne_str_int (bo I q (by simp))
  |str j=>obtain⟨e,rfl⟩:=d;exact ne_str (bo I q (congrArg not A6))
  |_=>exact absurd (show false=true from f) UG
 |VL i =>
  obtain⟨t,rfl⟩:=g;cases y with
  |VL j=>obtain⟨e,rfl⟩:=d;exact PySem.W.ne_bytes (bo I q (congrArg not A4))
  |_=>exact absurd (show false=true from f) UG
 |_=>cases y<;>exact absurd (show false=true from f) UG
def MP:SY X (compareOp .Lt) (Wo λi j=>.bl (decide (i<j))):=CH λ_ _ _ _ _ _ _ q=>lt_int q
def MN:SY X (compareOp .LtE) (Wo λi j=>.bl (decide (i<=j))):=CH λ_ _ _ _ _ _ _ q=>le_int q
def MM:SY X (compareOp .Gt) (Wo λi j=>.bl (decide (j<i))):=CH λ_ _ _ _ _ _ _ q=>gt_int q
def ML:SY X (compareOp .GtE) (Wo λi j=>.bl (decide (j<=i))):=CH λ_ _ _ _ _ _ _ q=>ge_int q
def Jj:SY X (compareOp .IsNot) (λx y H Q=>y=.OD/\Q (.bl (!decide (x=.OD))) H):=by
 intro d s g H x y v u Q I f e h;obtain⟨rfl,q⟩:=h;cases e;refine isnot_none_gen (bo I q ?_);cases x<;>first
  |(rfl)
  |(obtain⟨t,rfl⟩:=f;rfl)
def yX:(sizeLine:Nat)<2 ^ 63:=by decide
def vals1{x:V}(r:Vals [x] us):∃u,us=[u]/\RelV x u:=by
 cases r with
 |cons e d=>cases d;simp_all
def vals2{x y:V}(r:Vals [x,y] us):∃u d,us=[u,d]/\RelV x u/\RelV y d:=by
 cases r with
 |cons f d =>
  cases d with
  |cons e d=>cases d;exact⟨_,_,rfl,f,e⟩
def FX:sV X (.builtin "abs") (λxs H Q=>∃i,xs=[.int i]/\Q (.int (if i<0 then -i else i)) H):=by intro d s e H xs f Q I r h;obtain⟨i,rfl,q⟩:=h;obtain⟨u,rfl,t,rfl⟩:=vals1 r;exact call_abs_int λu g=>⟨.int (if i<0 then -i else i),H,I.tok _,⟨_,rfl⟩,q⟩
def Dw (d:X.calm=true):sV X (.builtin "max") (λxs H Q=>∃i j,xs=[.int i,.int j]/\Q (.int (if j > i then j else i)) H):=by
 intro e s f H xs l Q I r h;obtain⟨i,j,rfl,q⟩:=h;obtain⟨u,g,rfl,⟨t,rfl⟩,⟨n,rfl⟩⟩:=vals2 r;refine max_two_ints (I.ok.hd d) λo m k=>⟨_,H,I.kept k,?_,q⟩
 by_cases d:j > i;rw[N4 d,N4 d];exact⟨_,rfl⟩;rw[N2 d,N2 d];exact⟨_,rfl⟩
def Dx (d:X.calm=true):sV X (.builtin "min") (λxs H Q=>∃i j,xs=[.int i,.int j]/\Q (.int (if j<i then j else i)) H):=by
 intro e s f H xs l Q I r h;obtain⟨i,j,rfl,q⟩:=h;obtain⟨u,g,rfl,⟨t,rfl⟩,⟨n,rfl⟩⟩:=vals2 r;refine min_two_ints (I.ok.hd d) λo m k=>⟨_,H,I.kept k,?_,q⟩
 by_cases d:j<i;rw[N4 d,N4 d];exact⟨_,rfl⟩;rw[N2 d,N2 d];exact⟨_,rfl⟩
end
structure FH(h:Heap)(x dx C:Addr)(mA:yal):Prop where
 obj:h.get? x=some (PySem.W.instObj C dx)
 ns:h.Ns1 dx mA
 ne:dx≠x
set_option tactic.hygienic true in
def Em{h:Heap}(n:h.Ns1 dx mA):∃a,h.get? dx=some a/\∀name,PySem.W.lookIn name a=some (mA name):=by
 obtain⟨o,f,i,a,d,c,_,b⟩:=n;refine⟨o,a,λname=>?_⟩;have e:=b name;unfold nsFind findBy at e;rw[<- Array.find?_toList]at e;unfold PySem.W.lookIn;rw[d];dsimp only;split;grind;have a:f.toList.any (·.refKey)=false:=by rw[List.any_eq_false];intro y g;obtain⟨z,t,a⟩:=c y (by grind);simp[DictEntry.refKey,a]
 grind
def FH.look(I:FH h x dx C mA):∃a,PySem.W.InstAt h x (PySem.W.instObj C dx) C (some a)/\∀name,PySem.W.lookIn name a=some (mA name) :=
 let ⟨a,ho,hl⟩:=Em I.ns
 ⟨a,⟨I.obj,rfl,rfl,ho⟩,hl⟩
def ju.some_of{v:V}(r:ju (some v) o):∃u,o=some u/\RelV v u:=by
 cases o with
 |none=>exact(show False from r).elim
 |some u=>exact⟨u,rfl,r⟩
structure OY(K:yac)(C:Addr):Prop where
 pg:PySem.W.plainGet K C Str.empty=true
 hd:PySem.W.hasDictIn K C=true
 po:PySem.W.plainOver K C=true
 sa:PySem.W.findIn K (.ref C) "__setattr__" = some (some (.builtin "object.__setattr__"))
structure Con(K:yac)(C:Addr)(f:Str)(v:V)(u:Value):Prop where
 at_:PySem.W.findIn K (.ref C) f=some (some u)
 rel:RelV v u
 get:PySem.W.specialIn K u "__get__" = some none
 cp:PySem.W.copiedNames.contains f=false
structure Meth(K:yac)(C:Addr)(m:Str)(f:Addr):Prop where
 at_:PySem.W.findIn K (.ref C) m=some (some (.ref f))
 fn:PySem.W.isFn K (.ref f)=true
 kp:PySem.W.keepIn K (.ref f)=true
section
variable{X:Cx}{pins:yab}{σ:St}{H:Hp}{s:Shared}{A:Around}{E:yaa}{Q:yaa}{c:Value}{b:Bool}
inductive kf (K:yac) (H:Hp):V->Value->Prop where
 |OD:kf K H .OD (.type "NoneType")
 |bl (x:Bool):kf K H (.bl x) (.type "bool")
 |int (i:Int):kf K H (.int i) (.type "int")
 |str (x:Str):kf K H (.str x) (.type "str")
 |flt (x:UInt64):kf K H (.flt x) (.type "float")
 |lst {a:Addr} {xs:yaq} (e:H a=some (.lst xs)):kf K H (.ref a) (.type "list")
 |frz {a:Addr} {o:Obj} {xs:yaq} (e:H a=some (.frz o (.lst xs))):kf K H (.ref a) (.type "list")
 |tup {a:Addr} {xs:yaq} (e:H a=some (.tup xs)):kf K H (.ref a) (.type "tuple")
 |dK {a:Addr} {kvs:List (Key×V)} (e:H a=some (.dK kvs)):kf K H (.ref a) (.type "dict")
 |dT {a:Addr} {kvs:List (List Key×V)} (e:H a=some (.dT kvs)):kf K H (.ref a) (.type "dict")
 |ins {a C dx:Addr} {fs:List (Str×V)} (e:H a=some (.ins C dx fs)) (cl:OY K C) (ha:PySem.W.findIn K (.ref C) "__class__" = some (some (.builtin "object.__class__")))
   (hn:PySem.W.specialIn K (.builtin "object.__class__") "__get__" = some (some (.builtin "getset_descriptor.__get__"))) (htk:PySem.W.takesIn K (.builtin "object.__class__")=some true)
   (hm:PySem.W.mroIn K C (.type "object")=some true):kf K H (.ref a) (.ref C)
end
structure cE(k:Nat)(A:Around):Prop where
 hd:A.handled=none
 dp:A.depth+3*k+5<recursionLimit
 un:A.units+16*k+200<cLine
def cE.mono{j:Nat}(r:cE k A)(h:j<=k):cE j A:=⟨r.hd,by have:=r.dp;lia,by have:=r.un;lia⟩
theorem cE.deeper{k:Nat}(r:cE (k+1) A)(env:Env):cE k (A.deeper env) :=
 ⟨r.hd,by have:=r.dp;show A.depth+1+3*k+5<_;lia,by have:=r.un;show A.units+3+16*k+200<_;lia⟩
theorem cE.depth(r:cE k A):A.depth<recursionLimit:=by have:=r.dp;lia
theorem cE.units(r:cE k A):A.units+64<cLine:=by have:=r.un;lia
def Mb:TA:=λ_ H Q=>Q [] H
def C3(c:TE)(b:TA):TA:=λa H Q=>c a H λx c=>b a c λa b=>Q (x::a) b
section
variable{X:Cx}{e:Expr}{es:yai}{te:TE}{t:TA}{pos:Pos}
def zq:PA X [] Mb:=λ_ _ _ _ H Q I h=>Calls.spliced_nil ⟨[],H,I,.nil,h⟩
def qK(c:PE X e te)(g:PA X es t)(hs:starEach (e::es) X.env=(false,eval e X.env)::starEach es X.env:=by rfl):PA X (e::es) (C3 te t):=by intro pos a s b H Q I h;rw[hs];refine Calls.spliced_cons (Oa (c a s b H _ I h) λu c h=>?_);obtain⟨x,j,i,d,f⟩:=h;exact Oa (g pos a c b j _ i f) λk l f=>(by obtain⟨a,h,g,b,c⟩:=f;exact⟨x::a,h,g,.cons d b,c⟩)
end
abbrev Sp:=yaq->Hp->VK->XK->Prop
abbrev CXT:=List Env->Hp->Shared->XK->yaa
structure BS(P:Program)(w:World)(K:yac)(mg:yal)(base:Heap)(A:Around)(outer:List Env)(s:Shared)(H:Hp):Prop where
 frames:A.frames=some outer
 mod:Mod K mg base
 bs:∀b o,base.get? b=some o->s.heap.get? b=some o/\H b=none
 Yy:base.objs.size<=s.heap.objs.size
 RT:s.heap.FunFrames base outer
 Yz:∀b∈SF outer,H b=none
 Om:QJ P w H s.heap
 bare:AllBare s.gens
def CE(outer:List Env)(P:Program)(w:World)(H:Hp)(s:Shared)(Q:VK)(u:Value)(a:Shared):Prop :=
 ∃ v b,a.os=s.os/\AllBare a.gens/\Un (SF outer) [] H b s.heap a.heap/\QJ P w b a.heap/\RelV v u/\Q v b
def CR(CX:CXT)(outer:List Env)(P:Program)(w:World)(H:Hp)(s:Shared)(Q:VK)(E:XK)(r:Result)(a:Shared):Prop :=
 match r with
 |.ok (.ret u)=>CE outer P w H s Q u a
 |.ok _=>False
 |.error e=>CX outer H s E e a
structure aI(P:Program)(w:World)(K:yac)(mg:yal)(base:Heap)(CX:CXT)(k:Nat)(f:Addr)(fd:FuncData)(ps:yah)(sp:Sp):Prop where
 len:∀vs H Q E,sp vs H Q E->vs.length=ps.length
 run:∀(A:Around) (outer:List Env) (s:Shared) (H:Hp) (args:Args) (us:yad) (vs:yaq) (Q:VK) (E:XK),cE k A->BS P w K mg base A outer s H->BindsTo s fd args (ps.zip us)->Vals vs us->sp vs H Q E →
  codeAny (model P w) A (.call (.ref f) args) (CR CX outer P w H s Q E) s
section
variable{X:Cx}{pins:yab}{σ:St}{H:Hp}{s s':Shared}
def Inv.env0(I:Inv X pins σ H s):BS X.prog X.w X.K X.mg X.base X.A X.stack s H :=
 ⟨I.ok.frames,I.ok.mod,I.bs,Pe I.ok.Yy I.sz,I.stack,I.Tg,I.Om,I.bare⟩
def Inv.after(I:Inv X pins σ H s)(h:CE X.stack X.prog X.w H s Q u s'):EP X pins σ Q u s':=by obtain⟨v,f,os,a,un,e,r,q⟩:=h;obtain⟨c,g,d,t,b⟩:=s';obtain rfl:b=s.os:=os;exact⟨v,f,I.call (h':=c) (g':=g) (d':=d) (t':=t) (ch:=[]) un e a (λb z=>by simp_all),r,q⟩
end
def Binds(K:yac)(b:FuncData)(ps:yah)(ds:yad):Prop :=
 ∀ (s:Shared) (a:yad),K.In s.heap->(a++ds).length=ps.length->BindsTo s b ⟨a,[]⟩ (ps.zip (a++ds))
def Binds.all{K:yac}{b:FuncData}{ps:yah}(h:∀a:yad,a.length=ps.length->bindArgs b ⟨a,[]⟩=pure (ps.zip a)):Binds K b ps []:=λs a _ b=>by rw[VB]at b ⊢;exact .of_eq (h a b)
def Passes(CX:CXT)(X:Cx)(E:XK):Prop:=∀(a:yab) (c:St) (H:Hp) (s:Shared) (e:Value) (b:Shared),Inv X a c H s->CX X.stack H s E e b->X.xe e b
section
variable{X:Cx}{CX:CXT}{k:Nat}{f C:Addr}{fd:FuncData}{ps:yah}{sp:Sp}{dvs:yaq}{ds:yad}{E:XK}{x m:Str}{p pos apos:Pos}{e o:Expr}{es:yai}{ta:TE}{t:TA}
def EZ(F:aI X.prog X.w X.K X.mg X.base CX k f fd ps sp)(b:cE k X.A)(g:Binds X.K fd ps ds)(d:Vals dvs ds)(c:Passes CX X E)
  (I:Inv X pins σ H s) (r:Vals vs us) (h:sp (vs++dvs) H Q E):wpAny (model X.prog X.w) X.A (call (.ref f) us) (EP X pins σ Q) X.xe s:=by
 have a:Vals (vs++dvs) (us++ds):=r.append d;have d:(us++ds).length=ps.length:=by rw[<- a.length];exact F.len _ _ _ _ h
 refine wpAny_call (codeAny_mono (F.run X.A X.stack s H ⟨us,[]⟩ (us++ds) (vs++dvs) Q E b I.env0 (g s us I.Tf d) a h) λr b a=>?_);cases r with
 |error e=>exact c pins σ H s e b I a
 |ok b =>
  cases b with
  |ret u=>exact I.after a
  |next=>exact False.elim a
  |brk=>exact False.elim a
  |cont=>exact False.elim a
structure Mk(K:yac)(C f:Addr):Prop where
 makes:PySem.W.makesIn K C=true
 init:PySem.W.findIn K (.ref C) "__init__" = some (some (.ref f))
 fn:PySem.W.isFn K (.ref f)=true
 kp:PySem.W.keepIn K (.ref C)=true
end
section
variable{X:Cx}{CX:CXT}{k:Nat}{f C:Addr}{fd:FuncData}{ps ks:yah}{sp:Sp}{E:XK}{x m:Str}{p pos apos kpos:Pos}{e o:Expr}{es:yai}{kws:List Keyword}{te ta:TE}{t tk:TA}{nm:Option Str}
structure NO(K:yac)(fd:FuncData)(ps ks:yah)(g:yad->yad->yad)(gV:yaq->yaq->yaq):Prop where
 to:∀(s:Shared) (us ws:yad),K.In s.heap->(g us ws).length=ps.length->BindsTo s fd ⟨us,ks.zip ws⟩ (ps.zip (g us ws))
 rel:∀{vs:yaq} {us:yad} {zs:yaq} {ws:yad},Vals vs us->Vals zs ws->Vals (gV vs zs) (g us ws)
variable{g:yad->yad->yad}{gV:yaq->yaq->yaq}
end
structure az(N P:yah)(sc:Scope):Prop where
 kind:sc.kind=.function
 co:sc.isCoroutine=false
 gen:sc.isGenerator=false
 nd:N.Nodup
 pre:N.take P.length=P
 par:∀x∈P,sc.names.lookup x=some .local∨sc.names.lookup x=some .cell
 YE:∀y∈sc.names,y.2 ≠ .free
theorem wg{kindOf:Str->Option NameKind}{x:Str}:∀{a:List (Str×Value)} {m:yal},(∀v,(x,v)∉a)->bindL kindOf a m x=m x
 |[],_,_=>rfl
 |(n,v)::r,m,h=>by
  unfold bindL;rw[wg (by grind)];split
  all_goals grind
theorem wc{kindOf:Str->Option NameKind}{x:Str}:∀{a:List (Str×Value)} {m:yal},(∀v,(x,v)∉a)->bindC kindOf a m x=m x
 |[],_,_=>rfl
 |(n,v)::r,m,h=>by
  unfold bindC;rw[wc (by grind)];split
  all_goals grind
theorem we{kindOf:Str->Option NameKind}{x:Str}{v:Value}:∀{P:yah} {vs:yad} {i:Nat} {m:yal},P.Nodup->P[i]?=some x->vs[i]?=some v->kindOf x=some .local →
  bindL kindOf (P.zip vs) m x=some v
 |[],_,_,_,_,h,_,_=>by simp at h
 |_::_,[],_,_,_,_,h,_=>by simp at h
 |p::P,w::vs,0,m,d,c,b,a=>by simp at c b;subst c;subst b;show bindL kindOf ((p,w)::P.zip vs) m p=_;unfold bindL;rw[wg λv e=>(UJ.mp d).1 (VE e).1,N4 a];simp
 |p::P,w::vs,i+1,m,d,c,b,a=>by unfold bindL;exact we (i:=i) (by grind) (by simp_all) (by simp_all) a
theorem v7{kindOf:Str->Option NameKind}{x:Str}{v:Value}:∀{P:yah} {vs:yad} {i:Nat} {m:yal},P.Nodup->P[i]?=some x->vs[i]?=some v->kindOf x≠some .local →
  bindC kindOf (P.zip vs) m x=some v
 |[],_,_,_,_,h,_,_=>by simp at h
 |_::_,[],_,_,_,_,h,_=>by simp at h
 |p::P,w::vs,0,m,d,c,b,a=>by simp at c b;subst c;subst b;show bindC kindOf ((p,w)::P.zip vs) m p=_;unfold bindC;rw[wc λv e=>(UJ.mp d).1 (VE e).1,N2 a];simp
 |p::P,w::vs,i+1,m,d,c,b,a=>by unfold bindC;exact v7 (i:=i) (by grind) (by simp_all) (by simp_all) a
noncomputable def start(N:yah)(vs:yaq):St:=vs.map some++List.replicate (N.length - vs.length) none
noncomputable def dE(CX:CXT)(P:Program)(w:World)(K:yac)(mg:yal)(base:Heap)(N:yah)(b:Str)(a:Scope)(f:Addr)(c:Value)(A:Around)(outer:List Env)(s:Shared)(H:Hp)(E:XK):Cx where
 prog:=P
 w:=w
 K:=K
 mg:=mg
 base:=base
 A:=A.deeper (envOfC b a s.heap.objs.size f c)
 N:=N
 Oy:=s
 OV:=H
 env:=envOfC b a s.heap.objs.size f c
 outer:=outer
 stack:=envOfC b a s.heap.objs.size f c::outer
 ex:=[]
 calm:=true
 fn:=λ_=>true
 pn:=[]
 xe:=λe d=>wpAny (model P w) (A.deeper (envOfC b a s.heap.objs.size f c)) (leaving (envOfC b a s.heap.objs.size f c) e) (λ_ a=>CX outer H s E e a) (λb a=>CX outer H s E b a) d
def xS{a:Scope}(h:a.names.lookup x=some .cell):∃c,(cellsFrom n a.names []).lookup x=some c:=by have q:=PySem.W.cellsFrom_some a.names n [] (.inl h);exact Option.isSome_iff_exists.mp q
def Ec{CX:CXT}{P:Program}{w:World}{K:yac}{h:yal}{base:Heap}{N ps:yah}{c:Str}{a:Scope}{f:Addr}{g:Value}{A:Around}{outer:List Env}{s e:Shared}{H:Hp}{E:XK}{b:yad}{vs:yaq}
  (S:az N ps a) (i:A.handled=none) (d:BS P w K h base A outer s H) (o:vs.length=ps.length) (r:Vals vs b)
  (x:InCallC s s.heap.objs.size (bindL (envOfC c a s.heap.objs.size f g).kindOf (ps.zip b) λ_=>none) (cellsFrom (s.heap.objs.size+1) a.names []) (bindC (envOfC c a s.heap.objs.size f g).kindOf (ps.zip b) λ_=>none) e) :
  Inv (dE CX P w K h base N c a f g A outer s H E) [] (start N vs) H e:=by
 have Qe:ps.length<=N.length:=by have:=congrArg List.length S.pre;grind
 obtain⟨k,m,rfl,l⟩:=x.done;have e:∀b:Addr,b∉(dE CX P w K h base N c a f g A outer s H E).ex:=λb z=>absurd (show b∈([]:yae)from z) (by simp)
 refine⟨⟨d.mod,S.kind,rfl,rfl,OP _,λy z c k j=>?_,λy f=>?_,λy c _ h=>?_,λ_=>i,Around.frames_deeper d.frames,.inr ⟨rfl,rfl⟩,λb z=>absurd z (e b),d.bs,d.Yy,λb _ _=>e b,by simp_all,d.RT,d.Yz⟩,
  rfl,d.bare,Un.kept l,⟨_,x.toInCall.ns,λi y v k j t=>?_⟩,λy c h=>⟨_,x.cell y c h⟩,d.Om.fresh (OP _),λy c h=>?_,λp g=>absurd (show p∈([]:yab)from g) (by simp),d.Om.kept l,?_⟩
 exact name_of_addr x.apart (PySem.mem_of_lookup k) (PySem.mem_of_lookup j);rcases f with f|f;exact xS f;exact absurd rfl (S.YE _ (PySem.mem_of_lookup f));exact UL (x.above y c (PySem.mem_of_lookup h))
 ·have b:i<vs.length:=by
   unfold start at j;by_cases b:i<vs.length
   all_goals simp_all [Vg,zCv]
  have b:vs[i]?=some v:=by
   unfold start at j
   simp_all [UE,Pw]
  obtain⟨u,f,e⟩:=r.get b;have g:ps[i]?=some y:=by rw[<- S.pre,List.getElem?_take_of_lt (by lia)];exact k
  have b:ps.Nodup:=by rw[<- S.pre];exact S.nd.sublist (List.take_sublist _ _)
  refine⟨u,e,?_⟩;rcases S.par y (Qh g)with k|k;exact .inl ⟨k,we b g f k⟩;obtain⟨c,e⟩:=xS (n:=s.heap.objs.size+1) k;refine .inr ⟨.inl k,c,e,?_⟩;have q:=x.cell y c e;rw[v7 b g f (by show a.names.lookup y≠_;rw[k];decide)]at q;exact q
 exact d.Om.fresh (UL (x.above y c (PySem.mem_of_lookup h)));unfold start;show _=N.length;grind
def MC{CX:CXT}{P:Program}{w:World}{K:yac}{i:yal}{base:Heap}{k:Nat}{f:Addr}{name c:Str}{b:Arguments}{d:List Stmt}{a:Scope}{l kV h j g m q:Value}{n o:Option Addr}
  {r:Array (yam)} {N ps:yah} {sp:Sp} (lk:K.lookup f=some ⟨q,o,.func (PySem.W.fnOf name c b d a l kV h j n g m),r⟩) (C:PySem.W.codeIn K g c=true) (S:az N ps a)
  (e:∀vs H Q E,sp vs H Q E->vs.length=ps.length)
  (B:∀(A:Around) (outer:List Env) (s:Shared) (H:Hp) (vs:yaq) (Q:VK) (E:XK),cE k (A.deeper (envOfC c a s.heap.objs.size f g))->sp vs H Q E →
   ∃ t,PSs (dE CX P w K i base N c a f g A outer s H E) d t/\t {nx:=λ_ H'=>Q .OD H',rt:=Q} (start N vs) H) :
  aI P w K i base CX (k+1) f (PySem.W.fnOf name c b d a l kV h j n g m) ps sp:=by
 refine⟨e,λA outer s H p m vs Q E j d x r k=>?_⟩;have u:=e _ _ _ _ k;have l:K.In s.heap:=d.mod.Yx.keeps λb o e=>(d.bs b o e).1
 have h:s.heap.NoLimit:=d.mod.nolimit.keeps λb o e=>(d.bs b o e).1
 have b:∀y∈ps.zip m,a.names.lookup y.1=some .local∨(a.names.lookup y.1=some .cell/\((cellsFrom (s.heap.objs.size+1) a.names []).lookup y.1).isSome=true):=λ⟨n,v⟩ m=>by
  rcases S.par n (VE m).1 with q|q;exact .inl q
  simp_all [PySem.W.cellsFrom_some]
 refine codeAny_call_function j.depth (l _ _ lk) rfl S.co S.gen rfl (PySem.W.codeRec_of l C) (x _ _ _ _ ?_);refine wpAny_newFunctionEnv_cells S.kind b λz l b x=>?_
 subst l;refine⟨h.keeps x.toInCall.keep,codeAny_func ?_⟩;obtain⟨t,h,l⟩:=B A outer s H vs Q E (j.deeper _) k;have I:Inv (dE CX P w K i base N c a f g A outer s H E) [] (start N vs) H b:=Ec S j.hd d u r x;refine SV (h [] b (start N vs) H _ I l) (λj h b=>?_) λe h b=>b
 have d:∀{e:St} {H':Hp} {v:V} {u:Value},Inv (dE CX P w K i base N c a f g A outer s H E) [] e H' h->RelV v u->Q v H'->CE outer P w H s Q u h :=
  fun {e H' v u} J a q=>⟨v,H',J.os,J.bare,J.base,J.Om,a,q⟩
 cases j with
 |ret u =>
  obtain⟨v,e,H',J,a,q⟩:=b;exact d J a q
 |next =>
  obtain⟨e,H',J,q⟩:=b;exact d (v:=V.OD) (u:=Value.none) J rfl q
 |brk =>
  obtain⟨_,_,_,q⟩:=b
  simp_all
 |cont =>
  obtain⟨_,_,_,q⟩:=b
  simp_all
end L2
namespace HT
open PySem PyProof.Rows
noncomputable def lexLt:yaf->yaf->Bool
 |[],[]=>false
 |[],_::_=>true
 |_::_,[]=>false
 |x::b,y::a=>if x=y then lexLt b a else decide (x<y)
section
open PySem.SeqAt
open PySem.AutoSeq1 (wpAny_loadPart')
open PySem.MeetsSeq PySem.MeetsSeq2 PySem.MeetsSeq3
end
section
variable{prog:Program}{w:World}{A:Around}{E:yaa}{s:Shared}
noncomputable def OU(n d:Nat):yap->Nat
 |none=>d
 |some v=>if v<0 then(v+(n:Int)).toNat else min v.toNat n
theorem G4(n d:Nat):OU n d none=d:=rfl
def vC(n d k:Nat):OU n d (some (k:Int))=min k n:=by
 show(if(k:Int)<0 then((k:Int)+(n:Int)).toNat else min (k:Int).toNat n)=min k n
 simp_all [N2,Int.toNat_natCast]
def AR(v:Int)(n d:Nat):(if v<0 then max (v+(n:Int)) 0 else min v (n:Int))=((OU n d (some v):Nat):Int):=by
 show(if v<0 then max (v+(n:Int)) 0 else min v (n:Int))=(((if v<0 then(v+(n:Int)).toNat else min v.toNat n):Nat):Int)
 lia
theorem B5(lo hi:yap)(n:Nat):Builtin.Slice.sliceAdjust lo hi 1 (n:Int)=(((OU n 0 lo:Nat):Int),((OU n n hi:Nat):Int)):=by
 have a:¬((1:Int)<0):=by lia
 unfold Builtin.Slice.sliceAdjust;refine Wn ?_ ?_;cases lo with
 |none=>rfl
 |some v=>exact AR v n 0
 cases hi with
 |none=>rfl
 |some v=>exact AR v n n
theorem CJ(i j:Nat):Builtin.Slice.slicePlaces (i:Int) (j:Int) 1=j - i:=by
 unfold Builtin.Slice.slicePlaces
 lia
def uw{Q:yap->Shared->Prop}(p:IsPart v o)(h:Q o s):wpAny (model prog w) A (Builtin.Slice.slicePartIndex v) Q E s:=by
 cases p with
 |none=>exact slicePart_none h
 |int i t=>exact slicePart_int h
def sE{c:Addr}{b a:Value}{lo hi:yap}{n:Nat}{Q:Int×Int×Nat->Shared->Prop}(hs:s.heap.IsSliceOf c b a .none)(f:IsPart b lo)(e:IsPart a hi)
  (h:Q (((OU n 0 lo:Nat):Int),1,OU n n hi - OU n 0 lo) s):wpAny (model prog w) A (Builtin.Slice.sliceApplied (.ref c) (pure (n:Int))) Q E s:=by
 obtain⟨os,c,g,d⟩:=id hs;refine NY (NY (R9 c d (x:=b) rfl (NY (R9 c d (x:=a) rfl (NY (R9 c d (x:=.none) rfl (wpAny_pure ?_)))))));refine NY (slicePart_none ?_);refine NY (uw f (NY (uw e (NY (wpAny_pure ?_)))));grind [B5,CJ,wpAny_pure]
def GR(xs:yan)(i k:Nat):((List.range k).filterMap λ(m:Nat)=>xs[((i:Int)+(m:Int)*1).toNat]?).toArray=((xs.toList.drop i).take k).toArray:=by
 have e:(λ(m:Nat)=>xs[((i:Int)+(m:Int)*1).toNat]?)=λm=>xs[i+m]?:=by grind
 have:=pick_run xs i k;have a:((λx=>xs[x]?)∘λx=>i+x)=λm=>xs[i+m]?:=rfl
 simp_all
def qS{t c:Addr}{items:yan}{d b:Value}{lo hi:yap}{Q:yaa}(a:IsTup s.heap t items)(hs:s.heap.IsSliceOf c d b .none)(g:IsPart d lo)(f:IsPart b hi)
  (j:¬(OU items.size 0 lo=0/\OU items.size items.size hi=items.size))
  (h:Q (.ref s.heap.objs.size) {s with heap:=s.heap.push {cls:=.type "tuple", data:=.seq ((items.toList.drop (OU items.size 0 lo)).take (OU items.size items.size hi - OU items.size 0 lo)).toArray} })
  (hsz:items.size<=sizeLine):wpAny (model prog w) A (getItem (.ref t) (.ref c)) Q E s:=by
 have b:sizeOk (.seq ((items.toList.drop (OU items.size 0 lo)).take (OU items.size items.size hi - OU items.size 0 lo)).toArray):=by
  show((items.toList.drop (OU items.size 0 lo)).take (OU items.size items.size hi - OU items.size 0 lo)).toArray.size<=sizeLine;rw[RB,Ua,Yp,RS]
  lia
 obtain⟨os,i,d,Pf⟩:=id hs;have e:s.TypeIs (.ref c) "slice" := ⟨os,i,d⟩;unfold getItem
 try with_reducible refine SD ?_
 refine NY (wpAny_sequenceKey a.typeIs (by decide) ?_);refine NY (WN (name:=Str.ofString "__getitem__") a.typeIs PyProof.Rows.slot_tuple_getitem
  (U0 PyProof.Rows.slot_tuple_getitem a.typeIs entry_tuple_getitem ?_ (args_tuple_getitem _ _)))
 show wpAny _ _ (Builtin.Tuple.tupleItemsOf (.ref t) >>= _) _ _ s;refine NY (tupleItemsOf_ a ?_);refine NY (wpAny_typeOf e ?_);refine NY (sE hs g f ?_);have a:¬((((OU items.size 0 lo:Nat):Int)==0 && (1:Int)==1 && (OU items.size items.size hi - OU items.size 0 lo)==items.size)=true):=by lia
 show wpAny _ _ (if(((OU items.size 0 lo:Nat):Int)==0 && (1:Int)==1 && (OU items.size items.size hi - OU items.size 0 lo)==items.size)=true then _ else _) _ _ s;rw[N2 a,GR]
 first
  |exact NY (m:=Builtin.Tuple.tupleExact _) (Wk (wpAny_pure ⟨_,rfl,wpAny_pure h⟩) b)
  |exact NY (m:=Builtin.Tuple.tupleExact _) (Wk (NY (wpAny_pure (wpAny_pure ⟨_,rfl,wpAny_pure h⟩))) b)
  |exact NY (NY (m:=Builtin.Tuple.tupleExact _) (Wk (wpAny_pure (wpAny_pure ⟨_,rfl,wpAny_pure h⟩)) b))
  |exact NY (NY (m:=Builtin.Tuple.tupleExact _) (Wk (wpAny_pure ⟨_,rfl,wpAny_pure h⟩) b))
end
end HT
namespace L2
open PySem PySem.Spec PyProof.Rows
abbrev TO:=St->Hp->(yap->Hp->Prop)->Prop
def intsAre_of{ns:yaf}:∀{a:yad},Vals (ns.map V.int) a->IntsAre a ns:=by
 induction ns with
 |nil=>intro a r;cases r;exact .nil
 |cons n ns ih =>
  intro a r;cases r with
  |cons b a =>
   obtain⟨t,e⟩:=b;subst e;exact .cons n t (ih a)
section
variable{X:Cx}{e:Expr}{te:TE}{lo hi:Option Expr}{tl th:TO}{pos p2:Pos}
def SlR(X:Cx)(r:V->yap->yap->Hp->VK->Prop):Prop :=
 ∀ (a:yab) (s:Shared) (b:St) (H:Hp) (x:V) (v d c:Value) (lo hi:yap) (f:Addr) (Q:VK),Inv X a b H s->RelV x v->s.heap.IsSliceOf f d c .none->IsPart d lo->IsPart c hi->r x lo hi H Q →
  ∃ T id,typeLookup (.type T) "__getitem__" = pure (some (.builtin id))/\s.TypeIs v T/\wpAny (model X.prog X.w) X.A (getItem v (.ref f)) (EP X a b Q) X.xe s
def oS(xs:yaq)(lo hi:yap):yaq:=(xs.drop (HT.OU xs.length 0 lo)).take (HT.OU xs.length xs.length hi - HT.OU xs.length 0 lo)
def rf(xs:yaq)(lo hi:yap):(oS xs lo hi).length<=xs.length:=by
 unfold oS;rw[Ua,Yp]
 lia
def NF(K:yac):V->yap->yap->Hp->VK->Prop:=λx lo hi H Q=>∃a b,x=.ref a/\OZ K H a b ∧
 ¬ (HT.OU b.length 0 lo=0/\HT.OU b.length b.length hi=b.length)/\∀p,H p=none->Q (.ref p) (upd H p (.tup (oS b lo hi)))
def L7:SlR X (NF X.K):=by
 intro d s l H x v n m lo hi p Q I b j g f h;obtain⟨a,c,rfl,a,i,q⟩:=h;cases b;obtain⟨k,r,b,h⟩:=I.tuple a;have a:k.toArray.size=c.length:=by exact r.length.symm
 refine⟨"tuple", _,PyProof.Rows.slot_tuple_getitem.lookup,b.typeIs,?_⟩;refine HT.qS b j g f (by rw[a];exact i) ?_ (by simp_all);rw[a];refine⟨.ref s.heap.objs.size,_,I.laid (t':=s.toks) (o:=.tup (oS c lo hi)) (λb ob q=>Ph _ q) (OP _) ?_,rfl,q _ (I.Om.fresh (OP _))⟩;exact⟨Pe (rf c lo hi) h,_,(r.drop (HT.OU c.length 0 lo)).take (HT.OU c.length c.length hi - HT.OU c.length 0 lo),IsTup.new _ _⟩
end
noncomputable def ixN(n:Nat)(i:Int):Option Nat:=if 0<=i then(if i<n then some i.toNat else none)else if -(n:Int)<=i then some (i+n).toNat else none
def Qm{a:Type}(xs:List a)(i:Int):Option a:=(ixN xs.length i).bind λj=>xs[j]?
def IL{j:Nat}(h:ixN n i=some j):seqIndex? i n=some j/\j<n/\-(n:Int)<=i/\i<n:=by
 unfold ixN at h;by_cases b:0<=i;rw[N4 b]at h;by_cases a:i<n;grind [Option.some.inj,seqIndex_of]
 simp_all
 rw[N2 b]at h;by_cases a:-(n:Int)<=i;rw[N4 a]at h;grind [Option.some.inj,seqIndex_neg]
 simp_all
def AO{a:Type}{xs:List a}{i:Int}{v:a}(h:Qm xs i=some v):∃j,seqIndex? i xs.length=some j/\xs[j]?=some v/\j<xs.length/\-(xs.length:Int)<=i/\i<xs.length:=by
 unfold Qm at h;cases e:ixN xs.length i with
 |none=>simp_all
 |some j =>
  rw[e]at h;obtain⟨d,c,b,a⟩:=IL e;exact⟨j,d,h,c,b,a⟩
def bb{a:Type}{xs:List a}{j:Nat}{v:a}(h:xs[j]?=some v):Qm xs (j:Int)=some v:=by
 have b:j<xs.length:=(Ql.mp h).1;have e:ixN xs.length (j:Int)=some j:=by
  unfold ixN
  simp_all
 unfold Qm;rw[e];exact h
def FR{a:Type}(xs:List a)(v:a):Qm (xs++[v]) (-1)=some v:=by
 have b:(xs++[v]).length=xs.length+1:=by simp
 have e:ixN (xs++[v]).length (-1)=some xs.length:=by unfold ixN;grind
 unfold Qm
 simp_all
def HU(b:Expr):Prop:=∀o i,subscripted b false o i=operate [o,i] (getItem o i)
def IxR(X:Cx)(r:R2):Prop :=
 ∀ (c a:Expr) (b:yab) (s:Shared) (d:St) (H:Hp) (x y:V) (v u:Value) (Q:VK),Inv X b d H s->RelV x v->RelV y u->r x y H Q →
  subscripted a false v u=operate [v,u] (getItem v u)->wpAny (model X.prog X.w) X.A (subscriptTail c a v u) (EP X b d Q) X.xe s
def MtR(X:Cx)(id:String)(r:V->yaq->Hp->VK->Prop):Prop :=
 ∀ (a:yab) (s:Shared) (b:St) (H:Hp) (x:V) (c:yaq) (v:Value) (d:yad) (Q:VK),Inv X a b H s->RelV x v->Vals c d->r x c H Q →
  wpAny (model X.prog X.w) X.A (call (.builtin id) (v::d)) (EP X a b Q) X.xe s
section
variable{X:Cx}{a b:Expr}{ta tb:TE}{pos:Pos}
def NB(K:yac):R2:=λx y H Q=>∃p c i v,x=.ref p/\y=.int i/\SqL K H p c/\Qm c i=some v/\Q v H
def NC(K:yac):R2:=λx y H Q=>∃p c i v,x=.ref p/\y=.int i/\OZ K H p c/\Qm c i=some v/\Q v H
def IM:IxR X (NB X.K):=by
 intro e f c s k H x y v u Q I g d h l;obtain⟨p,A,i,z,rfl,rfl,j,n,q⟩:=h;cases g;obtain⟨t,rfl⟩:=d;obtain⟨u,r,g,B⟩:=I.list j;obtain⟨j,m,d,G,t,p⟩:=AO n;obtain⟨w,o,h⟩:=r.get d;have E:=r.length;have C:=yX;have d:EP X c k Q w s:=⟨z,H,I,h,q⟩;by_cases n:0<=i;have h:i.toNat=j:=by
  rw[seqIndex_of n p]at m
  lia
 exact item_listR g.isList n (by lia) (by rw[h];simpa using o) d l;have h:(i+(u.toArray.size:Int)).toNat=j:=by
  rw[seqIndex_neg (by lia) t]at m
  simp_all
 exact subscriptTail_builtinR (x:=w) g.isList.typeIs slot_list_getitem.lookup
  (wpAny_getItem_list_neg (Q:=λr i=>r=w/\EP X c k Q r i) g.isList (by lia) (by simp_all) (by lia) (by rw[h];simpa using o) ⟨rfl,d⟩) l
def Lp:IxR X (NC X.K):=by
 intro d e c s g H x y v u Q I j f h k;obtain⟨p,m,i,z,rfl,rfl,i,l,q⟩:=h;cases j;obtain⟨t,rfl⟩:=f;obtain⟨N5,r,h,n⟩:=I.tuple i;obtain⟨j,G,f,E,C,B⟩:=AO l;obtain⟨w,l,i⟩:=r.get f;have A:=r.length;have o:=yX;have f:EP X c g Q w s:=⟨z,H,I,i,q⟩;exact subscriptTail_builtinR (x:=w) h.typeIs slot_tuple_getitem.lookup
  (getItem_tuple (j:=j) (Q:=λr i=>r=w/\EP X c g Q r i) h (by lia) (by lia) (by simp_all) (by simpa using l) ⟨rfl,f⟩) k
theorem Inv.lst(I:Inv X pins σ H s)(h:H p=some (.lst xs)) :
  ∃ (c:yad) (n:Nat),Vals xs c/\s.heap.get? p=some {cls:=.type "list", data:=.seq c.toArray n}/\xs.length<=sizeLine:=by
 obtain⟨z,c,n,r,e⟩:=I.Om p _ h;exact⟨c,n,r,e,z⟩
def zG(lo hi:yap)(n:Nat):(sliceBounds lo hi none n).1=((HT.OU n 0 lo:Nat):Int)/\(sliceBounds lo hi none n).2.1=((HT.OU n n hi:Nat):Int)/\(sliceBounds lo hi none n).2.2=1:=by
 refine⟨?_,?_,rfl⟩;cases lo with
 |none=>simp[sliceBounds,HT.OU]
 |some i =>
  simp only[sliceBounds,HT.OU,Option.getD_none,show(1:Int) > 0 by decide,if_true];by_cases h:i<0;simp only[h,if_true]<;>lia;simp only[h,if_false]<;>lia
 cases hi with
 |none=>simp[sliceBounds,HT.OU]
 |some i =>
  simp only[sliceBounds,HT.OU,Option.getD_none,show(1:Int) > 0 by decide,if_true];by_cases h:i<0;simp only[h,if_true]<;>lia;simp only[h,if_false]<;>lia
def xh(c:yad)(lo hi:yap):slicePick c.toArray lo hi none=((c.drop (HT.OU c.length 0 lo)).take (HT.OU c.length c.length hi - HT.OU c.length 0 lo)).toArray:=by obtain⟨f,e,d⟩:=zG lo hi c.toArray.size;unfold slicePick;rw[f,e,d];simp only[sliceRange_one,pick_run,RB]<;>rfl
def xR:sV X (.builtin "len") (λxs H Q=>∃p ys,xs=[.ref p]/\(SqL X.K H p ys∨OZ X.K H p ys)/\Q (.int ys.length) H):=by
 intro g s j H xs k Q I r h;obtain⟨p,ys,rfl,c,q⟩:=h;obtain⟨u,rfl,d⟩:=vals1 r;cases d;have l:=yX;rcases c with c|c;obtain⟨i,e,f,h⟩:=I.list c;have d:=e.length;exact Calls.call_len_list f.isList (by simp only[RB]<;>lia) ⟨.int ys.length,H,I.tok _,⟨s.toks+1,by grind⟩,q⟩;obtain⟨i,e,f,h⟩:=I.tuple c;have d:=e.length;exact len_tuple f (by simp only[RB]<;>lia) ⟨.int ys.length,H,I.tok _,⟨s.toks+1,by simp_all⟩,q⟩
def W5(K:yac)(T:String)(x:V)(H:Hp):Prop:=match x with
 |.str _=>T = "str"
 |.int _=>T = "int"
 |.ref p=>(T = "list" /\∃c,SqL K H p c)∨(T = "tuple" /\∃o,K.lookup p=some o/\o.cls=.type "tuple" /\ o.dict=none) ∨
   (T = "dict" /\ ((∃c,H p=some (.dK c))∨∃ c,H p=some (.dT c)))∨(T = "set" /\∃S n,H p=some (.set S n))
 |_=>False
def Fj(I:Inv X pins σ H s)(r:RelV x v)(f:W5 X.K T x H) :
  s.TypeIs v T/\∀a,v=.ref a->∃ob,s.heap.get? a=some ob/\ob.dict=none:=by
 cases x with
 |str z =>
  obtain⟨t,rfl⟩:=r;cases(show T = "str" from f);grind [typeIs_str]
 |int i =>
  obtain⟨t,rfl⟩:=r;cases(show T = "int" from f);grind [typeIs_int]
 |ref p =>
  cases r;rcases f with⟨rfl,j,c⟩| ⟨rfl,o,d,i,h⟩| ⟨rfl,d⟩| ⟨rfl,S,n,d⟩;obtain⟨N5,_,g,_⟩:=I.list c;refine⟨g.isList.typeIs,λa e=>?_⟩;obtain⟨o,n,e,c,h,_⟩:=g
  simp_all
  refine⟨⟨o,I.Tf p o d,i⟩,λa e=>?_⟩;cases e;exact⟨o,I.Tf _ o d,h⟩;have z:∃o,s.heap.get? p=some o/\o.ExactDict:=by
   rcases d with⟨c,d⟩| ⟨c,d⟩;obtain⟨_,_,_,_,o,_,_,e,c,_⟩:=I.Om p _ d
   simp_all
   obtain⟨_,_,_,_,o,_,_,e,c,_⟩:=I.Om p _ d
   simp_all
  obtain⟨o,e,c⟩:=z;refine⟨⟨o,e,c.1⟩,λa g=>?_⟩;cases g;exact⟨o,e,c.2.1⟩;obtain⟨o,_,_,_,e,c,_⟩:=I.Om p _ d;refine⟨⟨o,e,c.1⟩,λa g=>?_⟩;cases g;exact⟨o,e,c.2.1⟩
 |_=>exact False.elim f
def NK(K:yac)(T:String)(r:V->yaq->Hp->VK->Prop)(d:TE):TE:=λc H Q=>d c H λx c=>W5 K T x c/\r x [] c Q
def tBM(K:yac)(T:String)(r:V->yaq->Hp->VK->Prop)(d:TE)(t:TA):TE:=λc H Q=>d c H λx d=>W5 K T x d/\t c d λc d=>r x c d Q
variable{o e:Expr}{es:yai}{to:TE}{t:TA}{name:Str}{apos cpos:Pos}{T id:String}{r:V->yaq->Hp->VK->Prop}
def LN (m:PlainAttrs T) (d:Slot T name id) (f:typeOf (.builtin id)=pure (.type "method_descriptor")) (n:MtR X id r) (i:PE X o to)
  (k:attributeBase o name X.env (eval o X.env)=eval o X.env:=by rfl) (j:(apos.endLine==cpos.line)=true:=by rfl):PE X (.Call (.Attribute o name apos) [] [] cpos) (NK X.K T r to):=by
 intro c s g H Q I h;refine wpAny_Call_method0_late k j (Oa (i c s g H _ I h) λv k p=>?_);obtain⟨x,s,i,h,j,l⟩:=p;obtain⟨q,p⟩:=Fj i h j;exact⟨T,id,m,d,f,q,p,Calls.callWith_builtin rfl (PySem.evalArgs_none (n c k g s x [] v [] Q i h .nil l))⟩
def HE (m:PlainAttrs T) (d:Slot T name id) (g:typeOf (.builtin id)=pure (.type "method_descriptor")) (n:MtR X id r) (i:PE X o to) (p:PA X (e::es) t)
  (l:attributeBase o name X.env (eval o X.env)=eval o X.env:=by rfl)
  (j:((backTo cpos (starEach (e::es) X.env)).all (λx=>!x.1) && (backToKw cpos (keywordEach [] X.env)).all (λx=>x.1.isSome)
   && decide ((e::es).length+([]:List Keyword).length+(if([]:List Keyword).isEmpty then 0 else 1)<30))=true:=by rfl)
  (k:(apos.endLine==cpos.line)=true:=by rfl) (hs:starEach (e::es) X.env=(false,eval e X.env)::starEach es X.env:=by rfl) (Th:(backTo cpos (starEach es X.env)).any (·.1)=false:=by rfl) :
  PE X (.Call (.Attribute o name apos) (e::es) [] cpos) (tBM X.K T r to t):=by
 intro c s f H Q I h;refine wpAny_Call_method_late l j k rfl (Oa (i c s f H _ I h) λv k q=>?_);obtain⟨x,u,i,h,j,l⟩:=q;obtain⟨s,q⟩:=Fj i h j;refine⟨T,id,m,d,g,s,q,?_⟩;have d:=p cpos c k f u _ i l;rw[hs]at d ⊢;refine Calls.callWith_builtin (by simp_all) (Calls.evalArgs_plain ?_);exact Oa d λg i l=>(by obtain⟨d,p,m,j,k⟩:=l;exact n c i f p x d v g Q m h j k)
end
def MtM(X:Cx)(id:String)(r:V->yaq->Hp->VK->Prop):Prop :=
 ∀ (a:yab) (s:Shared) (b:St) (H:Hp) (x:V) (c:yaq) (v:Value) (d:yad) (Q:VK),Inv X a b H s->RelV x v->Vals c d->r x c H Q →
  wpAny (model X.prog X.w) X.A (call (.builtin id) (v::d)) (EP X a b Q) X.xe s
def Vals.one:∀{x:V} {a:yad},Vals [x] a->∃u,a=[u]/\RelV x u
 |_,_,.cons r .nil=>⟨_,rfl,r⟩
def Vals.zero:∀{a:yad},Vals [] a->a=[]
 |_,.nil=>rfl
theorem Vals.dropLast(h:Vals xs us):Vals xs.dropLast us.dropLast:=by
 induction h with
 |nil=>exact .nil
 |cons r t ih =>
  cases t with
  |nil=>exact .nil
  |cons q a=>exact .cons r ih
section
variable{X:Cx}{pins:yab}{σ:St}{H:Hp}{s:Shared}{l b:Addr}{xs ys zs:yaq}
def Inv.YG{a its':yad}{f:yan->yan}{t':Nat}(I:Inv X pins σ H s)(g:H l=some (.lst xs))
  (e:s.heap.get? l=some {cls:=.type "list", data:=.seq a.toArray n}) (d:f a.toArray=its'.toArray) (c:Vals ys its') (hz:ys.length<=sizeLine) :
  Inv X pins σ (upd H l (.lst ys)) {s with heap:=s.heap.update l (Obj.mapSeq f),toks:=t'}:=by
 have q:=PySem.IsL.update e f;rw[d]at q;refine I.write (x:=l) (e:=l) (by rw[g];exact trivial) (.inl rfl) (λh u d a=>(Vj s.heap (Obj.mapSeq f) (Ne.symm d)).trans a) ⟨_,q⟩ ?_;exact⟨hz,its',_,c,q⟩
def Inv.W9 (I:Inv X pins σ H s) (c:H l=some (.lst xs)):xs.length<=sizeLine/\∃(a:yad) (n:Nat),Vals xs a/\xs.length=a.length/\s.heap.get? l=some {cls:=.type "list", data:=.seq a.toArray n}:=by obtain⟨z,a,n,r,e⟩:=I.Om l _ c;exact⟨z,a,n,r,r.length,e⟩
def GA{n:Nat}(h:n<=sizeLine):Builtin.List.listTooLong n=false:=by
 unfold Builtin.List.listTooLong
 lia
end
section
variable{X:Cx}
def Jt:V->yaq->Hp->VK->Prop:=λx b H Q=>∃l a y,x=.ref l/\b=[y]/\H l=some (.lst a)/\a.length<sizeLine/\Q .OD (upd H l (.lst (a++[y])))
def wJ:MtM X "list.append" Jt:=by intro a s g H x j v k Q I c d h;obtain⟨l,i,y,rfl,rfl,b,m,q⟩:=h;cases c;obtain⟨u,rfl,f⟩:=d.one;obtain⟨z,c,n,r,o,e⟩:=I.W9 b;refine call_meets F.slot_list_append ⟨_,e,rfl⟩ F.entry_list_append (F.args_list_append_2 _ _) (PySem.list_append l c.toArray n u (by grind)) ⟨e,?_⟩;refine⟨.OD,_,I.YG (its':=c++[u]) b e (by simp) (r.append (.cons f .nil)) ?_,rfl,q⟩;grind
def Ju:V->yaq->Hp->VK->Prop:=λx d H Q=>∃l b c a,x=.ref l/\d=[.ref b]/\H l=some (.lst c)/\H b=some (.lst a)/\c.length+a.length<=sizeLine/\Q .OD (upd H l (.lst (c++a)))
def Er:MtM X "list.extend" Ju:=by
 intro g s o H x y v A Q I a c h;obtain⟨l,b,w,p,rfl,rfl,i,f,B,q⟩:=h;cases a;obtain⟨u,rfl,a⟩:=c.one;cases a;obtain⟨z,c,n,r,C,e⟩:=I.W9 i;obtain⟨t,d,j,h,k,m⟩:=I.W9 f;have f:c.toArray.size+d.toArray.size<=sizeLine:=by grind
 have a:¬(!c.toArray.isEmpty && Builtin.List.listTooLong (c.toArray.size+d.toArray.size))=true:=by
  rw[GA f,Bool.and_false]
  lia
 refine call_meets F.slot_list_extend ⟨_,e,rfl⟩ F.entry_list_extend (F.args_list_extend_2 _ _)
  (AutoSeq1.list_extend_list_list_0 l c.toArray n b d.toArray j a (by lia) (by lia)) ⟨e,m,?_⟩
 refine⟨.OD,_,I.YG (its':=c++d) i e (by simp) (r.append h) ?_,rfl,q⟩
 simp_all
def ND:V->yaq->Hp->VK->Prop:=λx b H Q=>∃l a y,x=.ref l/\b=[]/\H l=some (.lst a)/\a[a.length - 1]?=some y/\Q y (upd H l (.lst a.dropLast))
def Lz:MtM X "list.pop" ND:=by
 intro b s g H x j v k Q I a d h;obtain⟨l,i,y,rfl,rfl,c,f,q⟩:=h;cases a;have a:=d.zero;subst a;obtain⟨z,a,n,r,o,e⟩:=I.W9 c;obtain⟨u,m,d⟩:=r.get f;have f:a.toArray[a.toArray.size - 1]?=some u:=by simp_all
 refine call_meets F.slot_list_pop ⟨_,e,rfl⟩ F.entry_list_pop (F.args_list_pop_1 _) (MeetsSeq.list_pop_last l a.toArray n u f (by grind)) ⟨e,?_⟩;refine⟨y,_,I.YG (its':=a.dropLast) c e ?_ r.dropLast ?_,d,q⟩
 all_goals grind
end
section
variable{prog:Program}{w:World}{A:Around}{E:yaa}{s:Shared}
set_option maxRecDepth 100000 in
end
end L2
namespace Att
open PySem PySem.W PySem.Calls PyProof.Rows
def tV:∀(ns:yaf) (vs:yad),WellAll P h vs (ns.map WData.int)->IntsAre vs ns:=by
 intro ns
 induction ns with
 |nil =>
  intro vs w;cases w;exact .nil
 |cons n ns ih =>
  intro vs w;cases w with
  |cons a b =>
   cases a;exact .cons _ _ (ih _ b)
def E7{l:OpenLaw}{n:Nat}(p:l.most=some n)
  (e:l.row.toRowW.claim.pre args=true) (b:WellAll P h vals args) :
  ∃ a vs ns,vals=[Value.ref a]/\args=[WData.list (ns.map WData.int)]/\h.get? a=some {cls:=.type "list", data:=.seq vs.toArray}/\IntsAre vs ns/\ns.length<=n:=by
 have c:WShape.hasAll [] args [.list .int]=true:=(pre_splitW e).1;have h:l.pre.holds [] {args:=args}=true:=(pre_splitW e).2;obtain⟨d,r,rfl,k,j⟩:=hasAllW_cons c;obtain rfl:=hasAllW_nil j;obtain⟨o,rfl,i⟩:=hasW_list k;obtain⟨ns,rfl⟩:=items_int i;have a:ns.length<=n:=by
  have d:(WTm.not (.lt (.lit (.int (n:Int))) (.len (.arg 0)))).holds [] {args:=[.list (ns.map .int)]}=true:=by
   have d:=(holds_andW h).1
   simp_all
  have q:=condW_of d (w_not (w_lt w_lit (w_len_list (w_arg rfl))));grind
 cases b with
 |cons f d =>
  cases d;cases f with
  |list g m=>exact⟨_,_,ns,rfl,rfl,g,tV ns _ m,a⟩
def EV(l:OpenLaw)(args:List WData):l.row.toRowW.claim.post args (.bool true) args=true :=
 postW_of (r:=l.row.toRowW) (X:=(true==true))
  (show WShape.has [] (.bool true) .bool=true by first|rfl|decide|simp[WShape.has,WShape.arms,WShape.armsAll])
  (show(WTm.eq .res (.lit (.bool true))).value [] {args:=args,res:=some (.bool true),after:=args}=some (.bool (true==true))from w_eq_bool (w_res rfl) w_lit) rfl
def Ag{l:OpenLaw}{n:Nat}{x:World->Heap->Prop}{d:DefRec}
  (z:l.most=some n) (c:d.params.defaults=[])
  (call:∀(w:World) (p b:Shared) (i m:yal) (g:Addr) (o:Obj) (k j e:Value) (a:Addr) (vs:yad) (ns:yaf),
   Ground q loose [] XP w p i m b.heap->x w b.heap →
   b.heap.get? g=some o->o.data=.func (docDef d.name d.params d.body d.scope k j e)->b.heap.CodeRec j d.name->i d.name=some (.ref g) →
   b.heap.get? a=some {cls:=.type "list", data:=.seq vs.toArray}->IntsAre vs ns->ns.length<=n->b.gens=#[] →
   codeAny (model l.prog w) callerA (.call (.ref g) ⟨[.ref a],[]⟩) (λr h=>r=.ok (.ret (.bool true))/\OldK b.heap h.heap/\h.os=b.os/\AllBare h.gens) b) :
  WalkO q loose XP x l.row.toRowW d [] (λf vs=>PySem.call f vs):=by
 intro w p b i m G Y g o k j e C kV q B H d n x u s I E t y f A;obtain rfl:C=.none:=Dflts.none d c;obtain rfl:kV=.none:=Dflts.noKw d;obtain⟨a,vs,ns,rfl,rfl,C,c,d⟩:=E7 z E f;refine enter_call (codeAny_mono (call w p b i m g o k j e a vs ns G Y q (fd_plain B) H n C c d x) λr h a=>?_);obtain⟨rfl,d,c,b⟩:=a;exact⟨.inl ⟨.bool true,.bool true,[],rfl,λ_=>rfl,.bool true,EV l _,by grind⟩,d,c,b⟩
section
variable{prog:Program}{w:World}{A:Around}{E:yaa}{s:Shared}{K:Frag}
def ledger(h:Heap)(L d:Addr):yab:=(List.range h.objs.size).filterMap λa=>if a=L∨a=d then none else(h.get? a).map λo=>(a,o)
end
end Att
namespace L2
open PySem PySem.Spec PyProof.Rows
theorem gJ:∀{vs:yad} {ns:yaf},IntsAre vs ns->Vals (ns.map V.int) vs
 |_,_,.nil=>.nil
 |_,_,.cons n t h=>.cons ⟨t,rfl⟩ (gJ h)
def FI(H:Hp):Prop:=∀b,H b=none∨∃ o a,H b=some (.frz o (.lst a))
def Gv{K:yac}{x:Str}{c:Shared}{vs:yad}
  (L:K.In c.heap) (I:c.heap.Ns mainGlobals mg) (f:c.heap.Ns builtinsNs mb) (y:∀x:Str,x ≠ "__name__" -> mb x=bootBuiltins x) (l:c.heap.NoLimit) (N:c.gens=#[])
  (t:c.heap.get? a=some {cls:=.type "list", data:=.seq vs.toArray}) (hi:IntsAre vs ns) (B:ns.length<=sizeLine) (M:cE k callerA)
  (F:∀base:Heap,K.In base->base.Ns mainGlobals mg->aI P w K mg base CX k fa fd [x] sp) (j:∀(s:Shared) (u:Value),BindsTo s fd ⟨[u],[]⟩ [(x,u)])
  (T:∀H:Hp,FI H->SqL K H a (ns.map V.int)->sp [.ref a] H (λv _=>v=.bl true) λ_ _ _=>False)
  (z:∀H e g,CX [] H c (λ_ _ _=>False) e g->False) :
  codeAny (model P w) callerA (.call (.ref fa) ⟨[.ref a],[]⟩) (λr g=>r=.ok (.ret (.bool true))/\OldK c.heap g.heap/\g.os=c.os/\AllBare g.gens) c:=by
 have A:=gJ hi;have k:=hi.length;have i:∀H:Hp,FI H->SqL K H a (ns.map V.int)->QJ P w H c.heap->(∀b,H b≠none->b=a)->(H a≠none->K.lookup a=none) →
   codeAny (model P w) callerA (.call (.ref fa) ⟨[.ref a],[]⟩) (λr g=>r=.ok (.ret (.bool true))/\OldK c.heap g.heap/\g.os=c.os/\AllBare g.gens) c:=by
  intro H C O J E Q;have G:∀{b:Addr} {o:Obj},c.heap.get? b=some o->H b=none->(mV c.heap H).get? b=some o:=λe n=>Gi e n
  have s:∀{b:Addr} {o:Obj} {n:Array DictEntry} {p:Nat},c.heap.get? b=some o->o.data=.dict n p->H b=none:=fun {b o n p} e d=>by
   cases q:H b with
   |none=>rfl
   |some u =>
    have x:b=a:=E b (by rw[q];simp);subst x;rw[t]at e;cases e;have h:Data.seq vs.toArray _=Data.dict n p:=d;cases h
  have h:∀{b:Addr} {m:yal},c.heap.Ns b m->(mV c.heap H).Ns b m:=fun {b m} m=>(by obtain⟨o,n,p,e,d,r⟩:=m;exact⟨o,n,p,G e (s e d),d,r⟩)
  have d:K.In (mV c.heap H):=λb o e=>G (L b o e) (by
   cases q:H b with
   |none=>rfl
   |some u =>
    have x:b=a:=E b (by rw[q];simp);subst x;rw[Q (by rw[q];simp)]at e;cases e)
  have m:Mod K mg (mV c.heap H):=⟨d,h I,⟨mb,h f,y⟩,let ⟨mc,h1,h2⟩:=l;⟨mc,h h1,h2⟩⟩;have l:BS P w K mg (mV c.heap H) callerA [] c H:=⟨rfl,m,λb o e=>IY e,Nat.le_of_eq (Ea _ _),trivial,λb f=>absurd (show b∈([]:yae)from f) (by simp),J,.of_eq N⟩;refine codeAny_mono ((F _ d (h I)).run callerA [] c H ⟨[.ref a],[]⟩ [.ref a] [.ref a] _ _ M l (j c (.ref a)) (.cons rfl .nil) (T H C O)) λr g h=>?_
  cases r with
  |error e=>exact(z H e g h).elim
  |ok c =>
   cases c with
   |next=>exact False.elim h
   |brk=>exact False.elim h
   |cont=>exact False.elim h
   |ret u =>
    obtain⟨v,H',os,d,g,c,j,q⟩:=h;have h:v=.bl true:=q;subst h;obtain rfl:u=Value.bool true:=j;refine⟨rfl,OldK.of_keep λb o e=>?_,os,d⟩;cases q:H b with
    |none=>exact g.keep b o e q (by intro z;exact absurd (show b∈([]:yae)from z) (by simp)) (by simp)
    |some u =>
     rcases C b with z|⟨d,U,z⟩;rw[q]at z;cases z;have h:=g.SJ b d _ z;obtain⟨d,_⟩:=J b _ z;obtain⟨g,_⟩:=c b _ h;rw[e]at d;cases d;exact g
 cases hk:K.lookup a with
 |some o =>
  have e:=L a o hk;rw[t]at e;cases e;refine i (λ_=>none) (λ_=>.inl rfl) (.inr ⟨_,vs.toArray,_,hk,rfl,rfl,rfl,by rw[RB,k];exact B,by simpa using A⟩) (λb u z=>by have c:(none:Option HO)=some u:=z;cases c) (λb z=>absurd rfl z) λz=>absurd rfl z
 |none =>
  refine i (λb=>if b=a then some (.frz {cls:=.type "list", data:=.seq vs.toArray} (.lst (ns.map V.int)))else none) (λb=>?_) (.inl (.inr ⟨{cls:=.type "list", data:=.seq vs.toArray},N4 rfl⟩)) (λb u z=>?_) (λb z=>?_) λ_=>hk
  by_cases f:b=a;exact .inr ⟨_,_,N4 f⟩;exact .inl (N2 f);by_cases f:b=a;have c:=(N4 f).symm.trans z;cases c;subst f;exact⟨t,by rw[N3];exact B,vs,_,A,t⟩;have c:=(N2 f).symm.trans z;cases c;by_cases f:b=a;exact f;exact absurd (N2 f) z
def JT{l:PySem.W.OpenLaw}{n:Nat}{c:World->Heap->Prop}{d:DefRec}{K:Params->yac}{CX:World->CXT}{sp:World->Sp}{x:Str}
  (o:l.most=some n) (m:n<=sizeLine) (b:d.params.defaults=[]) (t:cE k callerA)
  (y:∀(w:World) (h:Heap),c w h->(K w.params).In h)
  (F:∀(w:World) (g:yal) (i:Addr) (h:Heap),(K w.params).In h->h.Ns mainGlobals g->g d.name=some (.ref i) →
   ∃ r:FuncData,(∀(s:Shared) (u:Value),BindsTo s r ⟨[u],[]⟩ [(x,u)]) ∧
    ∀ base:Heap,(K w.params).In base->base.Ns mainGlobals g->aI l.prog w (K w.params) g base (CX w) k i r [x] (sp w))
  (A:∀(w:World) (H:Hp) (a:Addr) (ns:yaf),ns.length<=n->FI H->SqL (K w.params) H a (ns.map V.int)->sp w [.ref a] H (λv _=>v=.bl true) λ_ _ _=>False)
  (p:∀(w:World) (H:Hp) (s:Shared) (e:Value) (j:Shared),CX w [] H s (λ_ _ _=>False) e j->False) :
  PySem.W.WalkO q loose XP c l.row.toRowW d [] (λf vs=>PySem.call f vs):=by
 refine Att.Ag o b λw Oy q g C i o B J z a vs ns G Y E I R0 d n c b h=>?_
 have f:=y w _ Y;obtain⟨r,k,l⟩:=F w g i _ f G.T.g d;exact Gv f G.T.g G.T.b G.T.builtins G.T.nolimit h n c (Pe b m) t l k (λH d c=>A w H a ns b d c) λH e j=>p w H q e j
def ft(s:Stmt):Arguments:=match s with
 |.FunctionDef _ a _ _ _ _ _ _ _ _=>a
 |_=>{posonlyargs:=[],args:=[],vararg:=none,kwonlyargs:=[],kw_defaults:=[],kwarg:=none,defaults:=[]}
def cS(s:Stmt):List Stmt:=match s with
 |.FunctionDef _ _ b _ _ _ _ _ _ _=>b
 |_=>[]
def aq(s:Stmt):Scope:=match s with
 |.FunctionDef _ _ _ _ _ _ a _ _ _=>a
 |_=>{kind:=.function,names:=[],isGenerator:=false,isCoroutine:=false}
abbrev E0:XK:=λ_ _ _=>False
structure Fun(K:yac)(x qual:Str)(st:Stmt)(f:Addr)(fd:FuncData):Prop where
 ex:∃(oc:Value) (od:Option Addr) (kV doc pm:Value) (an:Option Addr) (Qt ct:Value) (WZ:Array (yam)),
  fd=PySem.W.fnOf x qual (ft st) (cS st) (aq st) .none kV doc pm an Qt ct/\K.lookup f=some ⟨oc,od,.func fd,WZ⟩/\PySem.W.codeIn K Qt qual=true
 kp:PySem.W.keepIn K (.ref f)=true
def Cn(a:cE k A):A.units+1<cLine:=Ym (by lia) a.units
section
variable{X:Cx}
def pv (i:Nat) {x:Str} (c:X.N[i]?=some x:=by rfl) (a:VM X.env.scope x:=by first|exact Or.inl rfl|exact Or.inr (Or.inl rfl)|exact Or.inr (Or.inr rfl)) (b:(x==("__debug__" : Str))=false:=by decide)
  (d:(x==("__classdict__" : Str))=false:=by decide):PE X (.Name x pos) (Mc i):=kA c a b d
end
def aw(H H':Hp):Prop:=∀b o,H b=some o->H' b=some o
def aw.refl(H:Hp):aw H H:=λ_ _ h=>h
def aw.trans(a:aw H H1)(b:aw H1 H2):aw H H2:=λc o h=>b c o (a c o h)
def aw.free(e:aw H H')(h:H' l=Option.none):H l=Option.none:=by
 cases q:H l with
 |none=>rfl
 |some o =>
  rw[e l o q]at h
  lia
def aw.seq{K:yac}{H H':Hp}{a:Addr}{xs:yaq}(e:aw H H')(h:SqL K H a xs):SqL K H' a xs:=by
 rcases h with(h|⟨o,h⟩)|h;exact .inl (.inl (e _ _ h));exact .inl (.inr ⟨o,e _ _ h⟩);exact .inr h
end L2
set_option maxHeartbeats 4000000
namespace L2
open PySem PySem.Spec PyProof.Rows
section
variable{κ:Type} [DecidableEq κ]
def d6(kvs:List (κ×V))(k:κ):Option V:=(kvs.find? λa=>decide (a.1=k)).map (·.2)
noncomputable def putK(kvs:List (κ×V))(k:κ)(v:V):List (κ×V) :=
 if(kvs.any λa=>decide (a.1=k))=true then kvs.map (λa=>if a.1=k then(a.1,v)else a)else kvs++[(k,v)]
theorem Hg:d6 ([]:List (κ×V)) k=none:=rfl
def n9{p:κ×V}{r:List (κ×V)}{k:κ}(e:p.1=k):d6 (p::r) k=some p.2:=by simp[d6,e]
def n8{p:κ×V}{r:List (κ×V)}{k:κ}(e:¬p.1=k):d6 (p::r) k=d6 r k:=by simp[d6,e]
theorem sO(k:κ):∀kvs:List (κ×V),(kvs.any λa=>decide (a.1=k))=(d6 kvs k).isSome
 |[]=>rfl
 |p::r=>by
  rw[List.any_cons];by_cases e:p.1=k;simp only[n9 e,UK e,Bool.true_or,Option.isSome_some]
  simp_all [n8,decide_eq_false,Bool.false_or,sO]
theorem rg(kvs:List (κ×V))(k:κ)(v:V):(putK kvs k v).length<=kvs.length+1:=by unfold putK;split;rw[N3];lia;rw[QZ,Rl,WR];lia
def ju.U6(r:ju o u):o.isSome=u.isSome:=by
 cases o with
 |none=>cases u with
  |none=>rfl
  |some _=>exact(show False from r).elim
 |some _=>cases u with
  |none=>exact(show False from r).elim
  |some _=>rfl
theorem ju.getD(r:ju o u)(rd:RelV d d'):RelV (o.getD d) (u.getD d'):=by
 cases o with
 |none=>cases u with
  |none=>exact rd
  |some _=>exact(show False from r).elim
 |some _=>cases u with
  |none=>exact(show False from r).elim
  |some _=>exact r
def KV.val(r:KV kvs vs)(k:κ):ju (d6 kvs k) (valueAt vs k):=by
 induction r with
 |nil=>exact True.intro
 |@cons p q g a h t ih =>
  obtain⟨d,f⟩:=h;by_cases e:p.1=k;have c:q.1=k:=d.symm.trans e;have b:valueAt (q::a) k=some q.2:=by simp[valueAt,c]
  rw[n9 e,b];exact f;have c:¬q.1=k:=λz=>e (d.trans z)
  have b:valueAt (q::a) k=valueAt a k:=by simp[valueAt,c]
  rw[n8 e,b];exact ih
theorem KV.any(r:KV kvs vs)(k:κ):(kvs.any λa=>decide (a.1=k))=vs.any λa=>decide (a.1=k):=by
 induction r with
 |nil=>rfl
 |cons h t ih=>simp_all
def KV.YI(r:KV kvs vs)(k:κ)(b:RelV y u) :
  KV (kvs.map λa=>if a.1=k then(a.1,y)else a) (vs.map λa=>if a.1=k then(a.1,u)else a):=by
 induction r with
 |nil=>exact .nil
 |@cons p q d c h t ih =>
  refine .cons ?_ ih
  lia
def KV.put(r:KV kvs vs)(k:κ)(a:RelV y u):KV (putK kvs k y) (stored vs k u):=by unfold putK stored;rw[r.any k];by_cases e:(vs.any λb=>decide (b.1=k))=true;rw[N4 e,N4 e];exact r.YI k a;rw[N2 e,N2 e];exact Paired.snoc r ⟨rfl,a⟩
def KV.keys{kvs:List (κ×V)}{vs:List (κ×Value)}(r:KV kvs vs):kvs.map (·.1)=vs.map (·.1):=by
 induction r with
 |nil=>rfl
 |cons h t ih=>grind
theorem KV.length(r:KV kvs vs):kvs.length=vs.length:=Paired.length r
end
def xp(r:RelV (kV k) u):(bW P w).is k u=true:=by
 cases k with
 |inl i=>obtain⟨t,e⟩:=(show∃t,u=Value.int i t from r);simp_all [As]
 |inr x=>obtain⟨t,e⟩:=(show∃t,u=Value.str x t from r);simp_all [Au]
theorem wD:∀{ks:List Key} {a:yad},Vals (ks.map kV) a->ItemsAre (bW P w) ks a
 |[],_,r=>by cases r;exact .nil
 |k::ks,_,r=>by
  cases r with
  |cons h t=>exact .cons (xp h) (wD t)
abbrev KT(H:Hp):List (List Key×V)->List (List Key×Addr×Value)->Prop:=Paired λp q=>p.1=q.1/\H q.2.1=some (.tup (p.1.map kV))/\RelV p.2 q.2.2
def KT.val(r:KT H kvs xs)(k:List Key):ju (d6 kvs k) ((atKey xs k).map (·.2)):=by
 induction r with
 |nil=>exact True.intro
 |@cons p q g a h t ih =>
  obtain⟨d,_,f⟩:=h;by_cases e:p.1=k;have c:q.1=k:=d.symm.trans e;have b:atKey (q::a) k=some q.2:=by simp[atKey,List.find?_cons,c]
  rw[n9 e,b];exact f;have c:¬q.1=k:=λz=>e (d.trans z)
  have b:atKey (q::a) k=atKey a k:=by simp[atKey,List.find?_cons,c]
  rw[n8 e,b];exact ih
def KT.YI(r:KT H kvs xs)(k:List Key)(c:RelV y u) :
  KT H (kvs.map λa=>if a.1=k then(a.1,y)else a) (xs.map (putAt k u)):=by
 induction r with
 |nil=>exact .nil
 |@cons p q g f h t ih =>
  rw[Pq,Pq];refine .cons ?_ ih;obtain⟨a,b,d⟩:=h;unfold putAt;by_cases e:p.1=k;rw[N4 e,N4 (a.symm.trans e)];exact⟨a,b,c⟩;rw[N2 e,N2 (λz=>e (a.trans z))];exact⟨a,b,d⟩
def KT.put(r:KT H kvs xs)(k:List Key)(c:H b=some (.tup (k.map kV)))(a:RelV y u) :
  KT H (putK kvs k y) (storedH xs k b u):=by
 have e:(kvs.any λb=>decide (b.1=k))=(atKey xs k).isSome:=by rw[sO,(r.val k).U6,Option.isSome_map]
 unfold putK storedH;rw[e];by_cases q:(atKey xs k).isSome=true;rw[N4 q,N4 q];exact r.YI k a;rw[N2 q,N2 q];exact Paired.snoc r ⟨rfl,c,a⟩
def KT.keeps{H':Hp}(r:KT H kvs xs)(a:∀b ys,H b=some (.tup ys)->H' b=some (.tup ys)):KT H' kvs xs :=
 Paired.Yw r λ_ _ z=>⟨z.1,a _ _ z.2.1,z.2.2⟩
section
variable{P:Program}{w:World}{H:Hp}{h:Heap}{a:Addr}
def HF(b:QJ P w H h)(e:Rd H a u):bS P w H h a u:=e.ok b
def tH(b:QJ P w H h)(e:Rd H a (.dK kvs)):kvs.length<=sizeLine/\(a==sysModules)=false/\∃vs,KV kvs vs/\h.DictOf (bW P w) a vs :=
 show bS P w H h a (.dK kvs)from HF b e
def Hy(b:QJ P w H h)(e:H a=some (.dK kvs)):kvs.length<=sizeLine/\(a==sysModules)=false/\∃vs,KV kvs vs/\h.DictOf (bW P w) a vs:=tH b (.inl e)
def tX{ks:List Key}(b:QJ P w H h)(e:H a=some (.tup (ks.map kV))):(tupleKind (bW P w)).is h ks a:=by obtain⟨_,g,r,o,f,d,n,c⟩:=(show bS P w H h a (.tup (ks.map kV))from b a _ e);exact⟨o,g.toArray,n,f,d,c,by simpa using wD r⟩
def tI(d:QJ P w H h)(e:Rd H a (.dT kvs)):kvs.length<=sizeLine/\(a==sysModules)=false ∧
  ∃ xs,KT H kvs xs/\h.DictOfH (tupleKind (bW P w)) a xs:=by
 obtain⟨z,y,xs,r,o,j,k,i,g,f,b,c⟩:=(show bS P w H h a (.dT kvs)from HF d e);refine⟨z,y,xs,r,o,j,k,i,g,f,b,λx b=>?_,c⟩;have c:∀{l:List (List Key×V)} {m:List (List Key×Addr×Value)},KT H l m->∀x∈m,(tupleKind (bW P w)).is h x.1 x.2.1:=by
  intro l m q
  induction q with
  |nil=>intro x b;exact nomatch b
  |@cons p q s n f t ih =>
   intro x b;rcases Ov.mp b with e|b;subst e;exact tX d (by rw[<- f.1];exact f.2.1);exact ih x b
 exact c r x b
def My(b:QJ P w H h)(e:H a=some (.dT kvs)):kvs.length<=sizeLine/\(a==sysModules)=false ∧
  ∃ xs,KT H kvs xs/\h.DictOfH (tupleKind (bW P w)) a xs:=tI b (.inl e)
end
def oD(H:Hp)(a:Addr)(y:V)(r:Option V):Prop :=
 (∃c k,Rd H a (.dK c)/\y=kV k/\r=d6 c k)∨∃ c k b,Rd H a (.dT c)/\y=.ref b/\H b=some (.tup (k.map kV))/\r=d6 c k
def xx(H:Hp)(a:Addr)(y v:V)(H':Hp):Prop :=
 (∃c k,H a=some (.dK c)/\y=kV k/\c.length<sizeLine/\H'=upd H a (.dK (putK c k v))) ∨
 ∃ c k b,H a=some (.dT c)/\y=.ref b/\H b=some (.tup (k.map kV))/\c.length<sizeLine/\H'=upd H a (.dT (putK c k v))
theorem oD.k{H:Hp}{a:Addr}{kvs:List (Key×V)}{k:Key}(e:H a=some (.dK kvs)):oD H a (kV k) (d6 kvs k):=.inl ⟨kvs,k,.inl e,rfl,rfl⟩
theorem xx.k{H:Hp}{a:Addr}{kvs:List (Key×V)}{k:Key}{v:V}(e:H a=some (.dK kvs))(b:kvs.length<sizeLine):xx H a (kV k) v (upd H a (.dK (putK kvs k v))):=.inl ⟨kvs,k,e,rfl,b,rfl⟩
section
variable{X:Cx}{pins:yab}{σ:St}{H:Hp}{s:Shared}{a:Addr}{y v:V}{u r:Value}{o:Option V}{A:Around}{E:yaa}
def Inv.big(I:Inv X pins σ H s):sysModules<s.heap.objs.size:=by have h:mainGlobals<s.heap.objs.size:=(I.mod.glob.keeps I.bk).lt;exact Nat.lt_trans (by decide) h
def DR{Q:yaa}(q:A.units+1<cLine)(I:Inv X pins σ H s)(g:oD H a y (some v))(m:RelV y u)(h:∀d b,Inv X pins σ H b->RelV v d->Q d b) :
  wpAny (model X.prog X.w) A (getItem (.ref a) u) Q E s:=by
 rcases g with⟨b,k,e,g,l⟩| ⟨b,k,b,e,g,t,l⟩;subst g;obtain⟨z,p,n,c,i⟩:=tH I.Om e;obtain⟨d,f,j⟩:=ju.some_of (v:=v) (o:=valueAt n k) (by rw[l];exact c.val k);exact wpAny_getItem_of (xp m) i.mapOf f (h d _ (I.tok _) j);subst g;cases(show u=Value.ref b from m);obtain⟨z,p,b,c,i⟩:=tI I.Om e;obtain⟨d,f,j⟩:=ju.some_of (v:=v) (o:=(atKey b k).map (·.2)) (by rw[l];exact c.val k);obtain⟨p,c,b⟩:=Vk.mp f;refine wpAny_getItem_heap (tupleKind_room_in1 q) (tX I.Om t) i c ?_;rw[b];exact h d _ (I.tok _) j
def uV{t':Nat}(I:Inv X pins σ H s)(b:Mut (H a))(hs:Heap.SameBut a s.heap h')(d:∃q,h'.get? a=some q)(c:bS X.prog X.w (upd H a ob) h' a ob) :
  Inv X pins σ (upd H a ob) {s with heap:=h',toks:=t'} :=
 I.write (x:=a) (e:=a) b (.inl rfl) (λb q e z=>(hs.2 b e).trans z) d c
def KL{h':Heap}{kvs:List (Key×V)}(z:kvs.length<=sizeLine)(c:(a==sysModules)=false)(b:KV kvs vs)(dd:h'.DictOf (bW P w) a vs) :
  bS P w H' h' a (.dK kvs):=⟨z,c,vs,b,dd⟩
def DU{Q:Unit->Shared->Prop}(G:A.units+1<cLine)(I:Inv X pins σ H s)(g:xx H a y v H')(w:RelV y u)(x:RelV v r)(h:∀b,Inv X pins σ H' b->Q () b) :
  wpAny (model X.prog X.w) A (setItem (.ref a) u r) Q E s:=by
 rcases g with⟨d,k,e,n,l,p⟩| ⟨d,k,b,e,n,C,l,p⟩;subst n p;obtain⟨z,m,f,c,t⟩:=Hy I.Om e;have i:f.length<=sizeLine:=by rw[<- c.length];exact z
 have l:(putK d k v).length<=sizeLine:=by grind [rg]
 refine wpAny_setItem_pairs (hsz:=i) (xp w) t λB g j=>h _ ?_
 have J:∃q,B.get? a=some q:=let ⟨q,_,_,f,_⟩:=g;⟨q,f⟩;exact uV I (by rw[e];exact True.intro) j J (KL l m (c.put k x) g);subst n p;cases(show u=Value.ref b from w);obtain⟨z,m,b,c,t⟩:=My I.Om e;have i:b.length<=sizeLine:=by rw[<- Paired.length c];exact z
 have l:(putK d k v).length<=sizeLine:=by grind [rg]
 refine wpAny_setItem_heap (hsz:=i) (tupleKind_room_in1 G) (tX I.Om C) t λB g j=>h _ ?_
 obtain⟨q,n,p,f,i,h,d,_,b⟩:=g;refine uV I (by rw[e];exact True.intro) j ⟨q,f⟩ ⟨l,m,_,(c.put k C x).keeps λc L c=>?_,q,n,p,f,i,h,d,b⟩;rw[aC (by lia)];exact c
end
def FG(i:Expr):Prop:=∀a b,subscripted i false a b=operate [a,b] (getItem a b)
def JN{prog:Program}{w:World}{A:Around}{E:yaa}{s:Shared}{env:Env}{b a:Expr}{pos:Pos}{T id:String}{Q:yaa}
  (e:typeLookup (.type T) "__getitem__" = pure (some (.builtin id))) (hs:FG a)
  (h:wpAny (model prog w) A (eval b env) (λo d=>wpAny (model prog w) A (eval a env) (λi c=>c.TypeIs o T/\wpAny (model prog w) A (getItem o i) Q E c) E d) E s) :
  wpAny (model prog w) A (eval (.Subscript b a pos) env) Q E s:=by
 refine Subscript_ (SV h (λo d d=>SV d (λi c d=>?_) λ_ _ x=>x) λ_ _ x=>x);obtain⟨f,d⟩:=d;refine NY ?_;refine NY (Zx f e ?_);have g:wpAny (model prog w) A (subscripted a false o i) (λr a=>wpAny (model prog w) A (letTemporaryGo b o r >>= λ_=>pure r) Q E a) E c:=by rw[hs o i];exact wpAny_operating (SV d (λr a a=>NY (wpAny_letTemporaryGo (wpAny_pure a))) λ_ _ x=>x)
 grind [wpAny_pure,wpAny_bind]
def Al (I:Inv X pins σ H s) (g:oD H a y o):s.TypeIs (.ref a) "dict" := by
 rcases g with⟨a,k,e,_,_⟩| ⟨a,k,b,e,_,_,_⟩;obtain⟨_,_,d,_,a⟩:=tH I.Om e;exact a.typeIs;obtain⟨_,_,c,_,a⟩:=tI I.Om e;exact a.typeIs
def MZ(c b:TE):TE:=λa H Q=>c a H λx c=>b a c λy b=>∃a v,x=.ref a/\oD b a y (some v)/\Q v b
def MW(d a c:TE):TS:=λD b H=>c b H λv c=>d b c λx c=>a b c λy d=>∃a c,x=.ref a/\xx d a y v c/\D.nx b c
section
variable{X:Cx}{o i e value:Expr}{pos pos' tpos:Pos}{td ty tv:TE}
def Jm(n:X.A.units+1<cLine)(p:PE X o td)(hi:PE X i ty)(hs:FG i):PE X (.Subscript o i pos) (MZ td ty):=by intro b s c H Q I h;refine JN PySem.F.slot_dict_getitem.lookup hs (Oa (p b s c H _ I h) λu f ⟨x,B,z,k,m⟩=>Oa (hi b f c B _ z m) λJ G t=>?_);obtain⟨y,A,d,j,a,v,q,g,l⟩:=t;subst q;obtain rfl:u=Value.ref a:=k;exact⟨Al d g,DR n d g j λC E w r=>⟨v,A,w,r,l⟩⟩
def Jq(t:X.A.units+1<cLine)(w:PE X o td)(hi:PE X i ty)(q:PE X value tv)(hs:swapsWith value (some (.Subscript o i pos')) pos.line X.env=pure false) :
  PS X (.Assign [.Subscript o i pos'] value pos) (MW td ty tv):=by
 intro b s c H D I h;refine wpAny_Assign_Subscript (Oa (q b s c H _ I h) λr f ⟨v,M,G,l,p⟩=>Oa (w b f c M _ G p) λu d ⟨x,L,E,k,n⟩=>Oa (hi b d c L _ E n) λQ O A=>?_) hs;obtain⟨y,H3,C,j,a,J,z,g,m⟩:=A;subst z;obtain rfl:u=Value.ref a:=k;exact DU t C g j l λN B=>⟨c,J,B,m⟩
end
def F8 (h:Heap) (a:sysModules<h.objs.size):bS P w H (h.push {cls:=.type "dict", data:=.dict #[]}) h.objs.size (.dK []) :=
 ⟨QI _,Zj.mpr (Ne.symm (PN a)),[],.nil,Heap.DictOf.new h⟩
abbrev VV:List (V×V)->List (Value×Value)->Prop:=Paired λp q=>RelV p.1 q.1/\RelV p.2 q.2
structure M1(X:Cx)(o:Expr)(m:Str)(apos:Pos)(e:Expr)(cpos:Pos):Prop where
 base:attributeBase o m X.env (eval o X.env)=eval o X.env
 few:((backTo cpos (starEach [e] X.env)).all (λx=>!x.1) && (backToKw cpos (keywordEach [] X.env)).all (λx=>x.1.isSome)
  && decide (([e]:yai).length+([]:List Keyword).length+(if([]:List Keyword).isEmpty then 0 else 1)<30))=true
 line:(apos.endLine==cpos.line)=true
 trees:backTo cpos (starEach [e] X.env)=[(false,eval e X.env)]
structure M2(X:Cx)(o:Expr)(m:Str)(apos:Pos)(e f:Expr)(cpos:Pos):Prop where
 base:attributeBase o m X.env (eval o X.env)=eval o X.env
 few:((backTo cpos (starEach [e,f] X.env)).all (λx=>!x.1) && (backToKw cpos (keywordEach [] X.env)).all (λx=>x.1.isSome)
  && decide (([e,f]:yai).length+([]:List Keyword).length+(if([]:List Keyword).isEmpty then 0 else 1)<30))=true
 line:(apos.endLine==cpos.line)=true
 trees:backTo cpos (starEach [e,f] X.env)=[(false,eval e X.env),(false,eval f X.env)]
def IsD(H:Hp)(a:Addr):Prop:=(∃b,Rd H a (.dK b))∨∃ b,Rd H a (.dT b)
def Lm(I:Inv X pins σ H s)(d:IsD H a) :
  s.TypeIs (.ref a) "dict" /\ (∀b,Value.ref a=.ref b->∃ob,s.heap.get? b=some ob/\ob.dict=none)/\(a==sysModules)=false:=by
 rcases d with⟨a,e⟩| ⟨a,e⟩;obtain⟨_,c,h,_,a⟩:=tH I.Om e;refine⟨a.typeIs,λb q=>?_,c⟩;cases q;obtain⟨ob,_,_,f,d,_⟩:=a;exact⟨ob,f,d.2.1⟩;obtain⟨_,c,g,_,a⟩:=tI I.Om e;refine⟨a.typeIs,λb q=>?_,c⟩;cases q;obtain⟨ob,_,_,f,d,_⟩:=a;exact⟨ob,f,d.2.1⟩
section
variable{X:Cx}{pins:yab}{σ:St}{H:Hp}{s:Shared}{a:Addr}{y d:V}{u r:Value}{o:Option V}{A:Around}{E:yaa}
def KC{Q:yaa}(m:A.units+1<cLine)(I:Inv X pins σ H s)(g:oD H a y o)(j:RelV y u)(rd:RelV d r)(h:∀b c,Inv X pins σ H c->RelV (o.getD d) b->Q b c) :
  wpAny (model X.prog X.w) A (call (.builtin "dict.get") [.ref a,u,r]) Q E s:=by
 rcases g with⟨b,k,e,i,l⟩| ⟨b,k,b,e,i,n,l⟩;subst i;obtain⟨z,g,p,c,f⟩:=tH I.Om e;refine call_meetsIn PySem.F.slot_dict_get f.typeIs PySem.F.entry_dict_get (PySem.F.args_dict_get_3 _ _ _) (meets_dict_get_default (bW X.prog X.w) a (xp j) g r) ⟨_,f.mapOf,h _ _ (I.tok _) ?_⟩;rw[l];exact(c.val k).getD rd;subst i;cases(show u=Value.ref b from j);obtain⟨z,g,i,c,f⟩:=tI I.Om e;refine call_meetsIn PySem.F.slot_dict_get f.typeIs PySem.F.entry_dict_get (PySem.F.args_dict_get_3 _ _ _) (meetsH_dict_get_default (tupleKind (bW X.prog X.w)) a b g r) ⟨tupleKind_room_in1 m,k,i,tX I.Om n,f,h _ _ (I.tok _) ?_⟩;rw[l];exact(c.val k).getD rd
end
def Ma(a d e:TE):TE:=λb H Q=>a b H λx c=>∃a,x=.ref a/\IsD c a/\d b c λy c=>e b c λz b=>∃o,oD b a y o/\Q (o.getD z) b
section
variable{X:Cx}{o e f:Expr}{apos cpos:Pos}{td ty tx:TE}
def GO (k:X.A.units+1<cLine) (a:PE X o td) (n:PE X e ty) (l:PE X f tx) (m:M2 X o "get" apos e f cpos):PE X (.Call (.Attribute o "get" apos) [e,f] [] cpos) (Ma td ty tx):=by
 intro b s c H Q I h;refine wpAny_Call_method m.base m.few m.line PySem.F.plainAttrs_dict PySem.F.slot_dict_get PySem.F.type_dict_get (Oa (a b s c H _ I h) λu i q=>?_);obtain⟨x,r,g,h,a,p,d,j⟩:=q;subst p;obtain rfl:u=Value.ref a:=h;obtain⟨h,a,_⟩:=Lm g d;refine⟨h,a,?_⟩;rw[m.trees];refine Calls.callWith_builtin rfl (Calls.evalArgs_plain (Calls.spliced_cons (Oa (n b i c r _ g j) λC a ⟨y,i,h,d,g⟩=>
  Calls.spliced_cons (Oa (l b a c i _ h g) λE A ⟨z,h,c,a,B,g,b⟩=>Calls.spliced_nil ?_))))
 exact KC k c g d a λt w c a=>⟨_,h,c,a,b⟩
end
end L2
namespace PM
def yJ(a b:Int):Int.gcd b (a.fmod b)=Int.gcd a b:=by
 have h:=Int.fmod_add_mul_fdiv a b;have c:a=a.fmod b+a.fdiv b*b:=by simp_all [Rp]
 rw[Int.gcd_comm a b]
 conv=>rhs;rw[c]
 rw[Int.gcd_add_mul_right_right]
def wu(a:Int){b:Int}(d:b≠0):(a.fmod b).natAbs<b.natAbs:=by
 by_cases h:0<b;have g:=Int.fmod_lt_of_pos a h;have c:=zC4 a h;omega;have e:a.fmod b=-((-a).fmod (-b)):=by simp_all
 have c:=Int.fmod_lt_of_pos (-a) (b:=-b) (by omega);have f:=zC4 (-a) (b:=-b) (by omega);omega
noncomputable def g3(x y z:Int):Nat:=Int.gcd (Int.gcd x y:Int) z
def rM(x y z:Int):(g3 x y z:Int)∣x:=XU (Int.gcd_dvd_left _ _) (Int.gcd_dvd_left _ _)
theorem u5(x y z:Int):(g3 x y z:Int)∣y:=XU (Int.gcd_dvd_left _ _) (Int.gcd_dvd_right _ _)
theorem u6(x y z:Int):(g3 x y z:Int)∣z:=Int.gcd_dvd_right _ _
def KU{x y z d:Int}(c:d∣x)(b:d∣y)(a:d∣z):d∣(g3 x y z:Int):=Zv (Zv c b) a
def u9:g3 x y z=0↔x=0/\y=0/\z=0:=by
 unfold g3;rw[Int.gcd_eq_zero_iff];constructor;rintro⟨h,a⟩;have d:Int.gcd x y=0:=by lia
 obtain⟨c,b⟩:=Int.gcd_eq_zero_iff.mp d;exact⟨c,b,a⟩;rintro⟨c,b,a⟩;subst c b a;simp
def Qf(x y z l:Int):Int:=if l<0 then -(g3 x y z:Int)else(g3 x y z:Int)
def yz{x y z:Int}(h:¬(x=0/\y=0/\z=0)):Qf x y z l≠0:=by
 have:g3 x y z≠0:=λe=>h (u9.mp e)
 unfold Qf;split<;>omega
def A8(x y z l:Int):(Qf x y z l).natAbs=g3 x y z:=by unfold Qf;split<;>lia
def Im{x y z t:Int}(h:(g3 x y z:Int)∣t):Qf x y z l∣t:=by unfold Qf;split;exact Int.neg_dvd.mpr h;exact h
def cP{x y z t:Int}(h:(g3 x y z:Int)∣t):t.fdiv (Qf x y z l)*Qf x y z l=t:=by have a:=Im (l:=l) h;rw[Int.fdiv_eq_ediv_of_dvd a];exact Int.ediv_mul_cancel a
def L3{x y z:Int}(h:¬(x=0/\y=0/\z=0)):g3 (x.fdiv (Qf x y z l)) (y.fdiv (Qf x y z l)) (z.fdiv (Qf x y z l))=1:=by
 have j:=cP (l:=l) (rM x y z);have o:=cP (l:=l) (u5 x y z);have n:=cP (l:=l) (u6 x y z);have p:=yz (l:=l) h;have f:=A8 x y z l;generalize x.fdiv (Qf x y z l)=a at j ⊢;generalize y.fdiv (Qf x y z l)=b at o ⊢;generalize z.fdiv (Qf x y z l)=c at n ⊢;generalize Qf x y z l=g at *;have m:(g3 a b c:Int)*g∣(g3 x y z:Int):=by
  refine KU ?_ ?_ ?_;rw[<- j];exact Int.mul_dvd_mul (rM a b c) (by simp_all)
  all_goals grind [Int.mul_dvd_mul,u5,Int.dvd_refl,u6]
 have d:g3 a b c*g.natAbs∣g.natAbs:=by
  have:=zC8.mpr m
  simp_all [XT]
 have k:0<g.natAbs:=by lia
 have:=Nat.le_of_dvd k d;have q:g3 a b c≠0:=by
  intro e
  simp_all
 rcases WX (g3 a b c) 2 with i|i
 lia
 have:2*g.natAbs<=g3 a b c*g.natAbs:=XJ _ i
 lia
def Jx{x y z l:Int}(d:l≠0)(a:(g3 x y z:Int)∣l)(h:¬(x=0/\y=0/\z=0)):0<l.fdiv (Qf x y z l):=by
 have e:=cP (l:=l) a;have f:g3 x y z≠0:=λe=>h (u9.mp e)
 have b:(l<0/\Qf x y z l<0)∨(0<l/\0<Qf x y z l):=by
  unfold Qf;split
  left;omega
  right;omega
 generalize l.fdiv (Qf x y z l)=a at e ⊢;generalize Qf x y z l=g at *;rcases WQ a 0 with a|a|a;exfalso;rcases b with⟨c,b⟩| ⟨c,b⟩;have:=XG a b;omega;have:=UD a b;omega;subst a;simp at e;omega;exact a
def D7(a:Int):Int.gcd a 0=a.natAbs:=by simp
def IC(a b:Int):Int.gcd ((a.natAbs:Nat):Int) ((b.natAbs:Nat):Int)=Int.gcd a b:=by unfold Int.gcd;simp
end PM
namespace PX
open PySem PySem.W PySem.Spec PySem.Calls PyProof.Rows PySem.Builtin.ObjectAttr PySem.Builtin.Getset_descriptor
def ExcAt(e c:Addr)(h:Heap):Prop:=∃o a,h.get? e=some o/\o.cls=.ref c/\o.data=.fields a
def ExcAt.ty(p:ExcAt e c h):Looks M h (typeOf (.ref e)) (.ref c):=by obtain⟨o,d,b,a,_⟩:=p;exact a ▸ (Looks.ld b).andThen .now
noncomputable def Gd(K:Frag)(c:Addr):Bool :=
 (clsIn K c).isSome && findIn K (.ref c) "__getattribute__" == some (some (.builtin "BaseException.__getattribute__"))
 && findIn K (.ref c) "__getattr__" == some none && findIn K (.ref c) "__class__" == some (some (.builtin "object.__class__"))
 && specialIn K (.builtin "object.__class__") "__get__" == some (some (.builtin "getset_descriptor.__get__"))
 && takesIn K (.builtin "object.__class__")==some true
 && mroIn K c (.type "object")==some true && mroIn K c (.type "BaseException")==some true
 && kitOne K (.ref c) (.type "int")==some false && kitOne K (.ref c) (.type "bool")==some false && kitOne K (.ref c) (.type "tuple")==some false
 && kitOne K (.ref c) (.type "list")==some false && kitOne K (.ref c) (.type "str")==some false
structure B3(K:Frag)(c:Addr):Prop where
 pg:plainGet K c "__class__" = true
 hd:hasDictIn K c=true
 at_:findIn K (.ref c) "__class__" = some (some (.builtin "object.__class__"))
 get:specialIn K (.builtin "object.__class__") "__get__" = some (some (.builtin "getset_descriptor.__get__"))
 takes:takesIn K (.builtin "object.__class__")=some true
 obj:mroIn K c (.type "object")=some true
 not:∀T,(T = "int" ∨ T = "bool" ∨ T = "tuple" ∨ T = "list" ∨ T = "str")->kitOne K (.ref c) (.type T)=some false
structure gc(K:Frag)(c:Addr):Prop where
 cls:(clsIn K c).isSome=true
 ga:findIn K (.ref c) "__getattribute__" = some (some (.builtin "BaseException.__getattribute__"))
 hook:findIn K (.ref c) "__getattr__" = some none
 at_:findIn K (.ref c) "__class__" = some (some (.builtin "object.__class__"))
 get:specialIn K (.builtin "object.__class__") "__get__" = some (some (.builtin "getset_descriptor.__get__"))
 takes:takesIn K (.builtin "object.__class__")=some true
 obj:mroIn K c (.type "object")=some true
 exc:mroIn K c (.type "BaseException")=some true
 not:∀T,(T = "int" ∨ T = "bool" ∨ T = "tuple" ∨ T = "list" ∨ T = "str")->kitOne K (.ref c) (.type T)=some false
def gc.of{K:Frag}{c:Addr}(h:Gd K c=true):gc K c:=by unfold Gd at h;simp at h;obtain⟨⟨⟨⟨⟨⟨⟨⟨⟨⟨⟨⟨l,f⟩,e⟩,d⟩,c⟩,h6⟩,b⟩,a⟩,m⟩,k⟩,j⟩,i⟩,g⟩:=h;exact⟨l,f,e,d,c,h6,b,a,by lia⟩
section
variable{prog:Program}{w:World}{A:Around}{E:yaa}{s:Shared}{K:Frag}{e c:Addr}
def M6 {R:Result->Shared->Prop} {a:Value} (X:K.In s.heap) (p:ExcAt e c s.heap) (d:mroIn K c (.type "object")=some true) (b:R (.ok (.ret (.ref c))) s) :
  codeAny (model prog w) A (.call (.builtin "getset_descriptor.__get__") ⟨[.builtin "object.__class__", .ref e,a],[]⟩) R s:=by
 have La:=p.ty (M:=model prog w);have Lb:=looks_mroIn (M:=model prog w) X d;refine codeAny_call_builtin (KF.slot_gs.plain) KF.entry_gs (KF.slot_gs.check _ _ _ _ _ _ _ _ KF.type_class (KF.args_gs _ _ _) ?_);unfold Builtin.«getset_descriptor.__get__» descrGet;refine NY (wpAny_pure ?_);unfold descrGetter descrCheckInstance descrNameAndClass isInstance;simp only[KF.owner_class]
 repeat lk
 refine⟨Code.quiet_builtin _ (by decide +kernel),WT KF.entry_class ?_⟩
 repeat lk
 exact b
def Mh (k:gc K c) (X:K.In h):Looks M h (find (.ref e) (.ref c) "__class__") (.bind (.builtin "getset_descriptor.__get__") (.builtin "object.__class__")):=by have d:=looks_findIn (M:=M) X k.at_;have b:Looks M h (getOf (some (.builtin "object.__class__"))) (some (.builtin "getset_descriptor.__get__")):=looks_specialIn X k.get;have a:=looks_takesIn (M:=M) X k.takes;refine d.andThen (b.andThen ?_);exact(show Looks M h (dataDescriptor? (some (.builtin "object.__class__")) (some (.builtin "getset_descriptor.__get__"))) (some (.builtin "getset_descriptor.__get__", .builtin "object.__class__"))from a.andThen .now).andThen (Looks.tag .now)
def JV{a:Tok}{Q:Fin->Shared->Prop}(k:gc K c)(X:K.In s.heap)(p:ExcAt e c s.heap)(b:Q (.done (.ret (.ref c))) s) :
  wpAny (model prog w) A (Builtin.«object.__getattribute__» ⟨[.ref e,.str "__class__" a],[]⟩) Q E s:=by
 have d:=p.ty (M:=model prog w);have a:=Mh (M:=model prog w) (e:=e) k X;refine NY (wpAny_pure ?_);refine NY (wpAny_pure ?_);refine NY (d.at (NY (a.at ?_)));unfold bindTo
 repeat (first|with_reducible refine NY ?_|with_reducible refine SD ?_)
 refine wpAny_call (M6 X p k.obj ?_);exact wpAny_pure b
def JU{a:Value}{Q:Unit->Shared->Prop}(k:gc K c)(X:K.In s.heap)(p:ExcAt e c s.heap)(b:Q () s) :
  wpAny M A (checkBuiltinCall "BaseException.__getattribute__" ⟨[.ref e,a],[]⟩) Q E s:=by
 obtain⟨h,g,l,t,os⟩:=s;have d:builtinKind "BaseException.__getattribute__" = some .slot:=by decide +kernel
 have f:splitId "BaseException.__getattribute__" = some ("BaseException", "__getattribute__"):=by decide +kernel
 have j:=F.args_bexc_ga (.ref e) a;have i:=p.ty (M:=M);have g:=looks_mroIn (M:=M) X k.exc;have a:Looks M h (isInstance (.ref e) (.type "BaseException")) true:=i.andThen g;simp only[checkBuiltinCall,d,f];refine NY (a.at ?_)
 repeat (first|wp_step)
 exact b
def x_call{a:Tok}{R:Result->Shared->Prop}(k:gc K c)(X:K.In s.heap)(p:ExcAt e c s.heap)(b:R (.ok (.ret (.ref c))) s) :
  codeAny (model prog w) A (.call (.builtin "BaseException.__getattribute__") ⟨[.ref e,.str "__class__" a],[]⟩) R s :=
 codeAny_call_builtin F.excAttr_ValueError.ga.plain F.entry_bexc_ga (JU k X p (JV k X p b))
def Mg{Q:yam->Shared->Prop}(k:gc K c)(X:K.In s.heap)(p:ExcAt e c s.heap)(b:Q (some (.ref c)) {s with toks:=s.toks+1}) :
  wpAny (model prog w) A (getAttr? (.ref e) "__class__") Q E s:=by
 have f:=p.ty (M:=model prog w);have d:=looks_findIn (M:=model prog w) X k.ga;have a:=looks_findIn (M:=model prog w) X k.hook;have g:=F.excAttr_ValueError.ga.bind (.ref e);refine NY (wpAny_mkText (NY (XW (SD (NY (f.at (NY (d.at ?_))))))));have Px:(Value.builtin "BaseException.__getattribute__" == Value.builtin "object.__getattribute__")=false:=by decide +kernel
 refine NY (a.at ?_);refine NY (XW (SD ?_));refine wpAny_call (x_call k X p ?_);refine wpAny_pure (a:=Value.ref c) ?_;exact wpAny_pure b
set_option tactic.hygienic true in
def Gu(k:gc K c):KitX K (.ref e) (.ref c) (ExcAt e c) where
 ty:=λ_ _ _ p=>p.ty
 it:=λ_ _ X _=>by have h:=k.cls;unfold clsIn at h;split at h;rename_i l j g a f;intro A' Q' E' o b q;exact NY (wpAny_loadPart (b _ _ (X _ _ f)) (wpAny_pure q));cases h
 ne:=λh i r N5 n m X d=>by
  have h:=k.cls;refine Bool.eq_false_iff.mpr λq=>?_
  have z:c=i:=by lia
  subst z;unfold clsIn at h;split at h;rename_i l j g a f;cases(X _ _ f).symm.trans d;cases h
 ca:=λX p b=>Mg k X p b
end
end PX
namespace PD
open PySem PySem.Spec PyProof.Rows L2 PX
abbrev St:=L2.St
def NT:HO->Prop
 |.TJ _=>False
 |_=>True
def Nt:Str := "lightest.<locals>.<lambda>"
def JY(c:Addr):Heap->Prop:=λh=>h.CodeRec (.ref c) Nt
def fV(H:Hp):Prop:=∀P a,H P=some (.TJ a)->TriplesOk a.toList/\∀b d,codeAmong b a.toList=some d->∃c,d=.ref c/\H c=some (.ext (JY c))
noncomputable def tabOf(K:yac):Option Addr :=
 match PySem.W.nsIn K mainGlobals "lightest" with
 |some (some (.ref f))=>(match K.lookup f with
  |some ⟨_,_,.func a,_⟩=>(match a.code with
   |.ref c=>(match K.lookup c with
    |some ⟨_,_,.fields a,_⟩=>(match(a[11]?:yam)with
     |some (.ref P)=>if(K.lookup P).isNone=true then some P else none
     |_=>none)
    |_=>none)
   |_=>none)
  |_=>none)
 |_=>none
structure aw(H H':Hp):Prop where
 kp:∀b o,H b=some o->NT o->H' b=some o
 tb:∀b ps,H b=some (.TJ ps)->∃more,H' b=some (.TJ (ps++more))
 ok:fV H->fV H'
def aw.app(e:aw H H')(b:Addr)(o:HO)(h:H b=some o)(a:NT o:=by first|exact True.intro|assumption):H' b=some o:=e.kp b o h a
instance {H H':Hp}:CoeFun (aw H H') (λ_=>∀(b:Addr) (o:HO),H b=some o->(nt:NT o:=by first|exact True.intro|assumption)->H' b=some o):=⟨@aw.app H H'⟩
def aw.refl(H:Hp):aw H H:=⟨by lia,by simp_all,id⟩
def aw.trans(a:aw H H1)(b:aw H1 H2):aw H H2:=⟨λc o h n=>b.kp c o (a.kp c o h n) n,λc d h=>by obtain⟨e,g⟩:=a.tb c d h;obtain⟨d,f⟩:=b.tb c _ g;exact⟨e++d,by rw[f,Array.append_assoc]⟩,λh=>b.ok (a.ok h)⟩
def aw.ex(e:aw H H'){o:HO}(h:H b=some o):∃a,H' b=some a:=by
 by_cases n:NT o;exact⟨o,e.kp b o h n⟩;cases o with
 |TJ a =>
  obtain⟨m,q⟩:=e.tb b a h;exact⟨_,q⟩
 |_=>exact absurd True.intro n
def aw.free(e:aw H H')(h:H' l=Option.none):H l=Option.none:=by
 cases q:H l with
 |none=>rfl
 |some o =>
  obtain⟨a,z⟩:=e.ex q
  lia
def aw.seq{K:yac}{H H':Hp}{a:Addr}{xs:yaq}(e:aw H H')(h:SqL K H a xs):SqL K H' a xs:=by
 rcases h with(h|⟨o,h⟩)|h;exact .inl (.inl (e _ _ h));exact .inl (.inr ⟨o,e _ _ h⟩);exact .inr h
theorem fV.upd{H:Hp}(n:NT o)(f:H p=none∨∃ u,H p=some u/\(∀a,u ≠ .ext a)/\NT u)(h:fV H):fV (upd H p o):=by
 intro P a e;have b:P≠p:=λz=>by subst z;rw[aR]at e;cases e;exact n
 rw[aC b]at e;obtain⟨c,b⟩:=h P a e;refine⟨c,λa e q=>?_⟩;obtain⟨c,d,g⟩:=b a e q;refine⟨c,d,?_⟩;rw[aC λz=>?_]
 all_goals grind
structure lE(K:yac)(H:Hp):Prop where
 ok:fV H
 at':∀P,tabOf K=some P->∃ps,H P=some (.TJ ps)
def lE.same{K:yac}{H H':Hp}(h:lE K H)(e:aw H H'):lE K H':=⟨e.ok h.ok,λP q=>by obtain⟨a,z⟩:=h.at' P q;obtain⟨m,z⟩:=e.tb P a z;exact⟨_,z⟩⟩
theorem lE.upd{K:yac}{H:Hp}{p:Addr}{o:HO}(h:lE K H)(n:NT o)(a:H p=none∨∃ u,H p=some u/\(∀b,u ≠ .ext b)/\NT u):lE K (upd H p o):=⟨fV.upd n a h.ok,λP q=>by
 obtain⟨b,z⟩:=h.at' P q;refine⟨b,?_⟩;rw[aC λe=>?_];exact z;subst e;rcases a with a|⟨u,a,_,b⟩
 lia
 rw[a]at z;cases z;exact b⟩
inductive D where
 |OD|bl (b:Bool)|int (i:Int)|str (x:Str)|tup (ds:List D)|lst (t:Bool) (ds:List D)|exc (c:Addr)|obj (C:Addr) (ns:yah) (ds:List D)|TL|R4 (ks:yaf) (ds:List D)|ra (a:Addr)
abbrev yar:=List D
def Wq:HO->Prop
 |.ext _=>True|.ins _ _ _=>True|.frz _ (.dK _)=>True|_=>False
def Wq.nt(h:Wq o):NT o:=by cases o<;>first|exact True.intro|exact h.elim
def QG(K:yac)(H:Hp)(t:Bool)(a:Addr)(vs:yaq):Prop:=SqL K H a vs/\(t=true->H a=some (.lst vs)/\K.lookup a=none)
def QG.same{K:yac}{H H':Hp}{t:Bool}{a:Addr}{vs:yaq}(e:aw H H')(q:QG K H t a vs):QG K H' t a vs:=⟨e.seq q.1,λz=>⟨e _ _ (q.2 z).1,(q.2 z).2⟩⟩
def QG.any{K:yac}{H:Hp}{a:Addr}{vs:yaq}(q:SqL K H a vs):QG K H false a vs:=⟨q,λz=>by cases z⟩
def QG.new{K:yac}{H:Hp}(q:H a=some (.lst vs))(k:K.lookup a=none):QG K H t a vs:=⟨SqL.of q,λ_=>⟨q,k⟩⟩
def OZ(K:yac)(H:Hp)(a:Addr)(xs:yaq):Prop:=H a=some (.tup xs) ∨
 ∃ (o:Obj) (b:yan) (n:Nat),K.lookup a=some o/\o.cls=.type "tuple" /\ o.data=.seq b n/\b.size<=sizeLine/\Vals xs b.toList
def OZ.w{K:yac}{H:Hp}{a:Addr}{xs:yaq}(h:OZ K H a xs):L2.OZ K H a xs:=h.imp .inl id
def OZ.of{K:yac}{H:Hp}{a:Addr}{xs:yaq}(h:H a=some (.tup xs)):OZ K H a xs:=.inl h
mutual
def Den(K:yac)(P:yak)(H:Hp):D->V->Prop
 |.OD,v=>v=.OD
 |.bl b,v=>v=.bl b
 |.int i,v=>v=.int i
 |.str x,v=>v=.str x
 |.tup d,v=>∃a b,v=.ref a/\OZ K H a b/\aj K P H d b
 |.lst t d,v=>∃a b,v=.ref a/\¬P t a/\QG K H t a b/\aj K P H d b
 |.exc c,v=>∃e,v=.ref e/\H e=some (.ext (ExcAt e c))/\gc K c
 |.TL,v=>∃a,v=.ref a/\H a=some (.ext (PySem.W.KitAt a "dict"))
 |.obj C c d,v=>∃a e b,v=.ref a/\H a=some (.ins C e (c.zip b))/\b.length=c.length/\B3 K C/\aj K P H d b
 |.R4 e d,v=>∃a o c b,v=.ref a/\H a=some (.frz o (.dK c))/\c=(e.map Sum.inl).zip b/\b.length=e.length/\aj K P H d b
 |.ra a,v=>v=.ref a/\¬P false a/\∃b,QG K H false a b
def aj(K:yac)(P:yak)(H:Hp):yar->yaq->Prop
 |[],a=>a=[]
 |d::b,a=>∃v r,a=v::r/\Den K P H d v/\aj K P H b r
end
section
variable{K:yac}{P P':yak}{H H':Hp}
mutual
theorem Den.map(g:∀a vs,OZ K H a vs->OZ K H' a vs)(f:∀t a vs,¬P t a->QG K H t a vs->¬P' t a/\QG K H' t a vs)(b:∀a o,Wq o->H a=some o->H' a=some o):∀(d:D) (v:V),Den K P H d v->Den K P' H' d v
 |.OD,_,h=>by simpa only[Den]using h
 |.bl _,_,h=>by simpa only[Den]using h
 |.int _,_,h=>by simpa only[Den]using h
 |.str _,_,h=>by simpa only[Den]using h
 |.tup d,_,h=>by simp only[Den]at h ⊢;obtain⟨a,vs,e,q,r⟩:=h;exact⟨a,vs,e,g a vs q,aj.map g f b d vs r⟩
 |.lst t d,_,h=>by simp only[Den]at h ⊢;obtain⟨a,vs,e,p,q,r⟩:=h;exact⟨a,vs,e,(f t a vs p q).1,(f t a vs p q).2,aj.map g f b d vs r⟩
 |.exc c,_,h=>by simp only[Den]at h ⊢;obtain⟨a,e,q,k⟩:=h;exact⟨a,e,b a _ True.intro q,k⟩
 |.obj C i d,_,h=>by simp only[Den]at h ⊢;obtain⟨a,c,vs,e,q,l,k,r⟩:=h;exact⟨a,c,vs,e,b a _ True.intro q,l,k,aj.map g f b d vs r⟩
 |.TL,_,h=>by simp only[Den]at h ⊢;obtain⟨a,e,q⟩:=h;exact⟨a,e,b a _ True.intro q⟩
 |.R4 j d,_,h=>by simp only[Den]at h ⊢;obtain⟨a,o,c,vs,e,q,l,k,r⟩:=h;exact⟨a,o,c,vs,e,b a _ True.intro q,l,k,aj.map g f b d vs r⟩
 |.ra a,_,h=>by simp only[Den]at h ⊢;obtain⟨e,p,vs,q⟩:=h;obtain⟨c,b⟩:=f false a vs p q;exact⟨e,c,vs,b⟩
theorem aj.map(c:∀a vs,OZ K H a vs->OZ K H' a vs)(f:∀t a vs,¬P t a->QG K H t a vs->¬P' t a/\QG K H' t a vs)(b:∀a o,Wq o->H a=some o->H' a=some o):∀(ds:yar) (vs:yaq),aj K P H ds vs->aj K P' H' ds vs
 |[],_,h=>by simpa only[aj]using h
 |d::ds,_,h=>by simp only[aj]at h ⊢;obtain⟨v,r,e,g,a⟩:=h;exact⟨v,r,e,Den.map c f b d v g,aj.map c f b ds r a⟩
end
end
def OZ.same{K:yac}{H H':Hp}{a:Addr}{xs:yaq}(e:aw H H')(h:OZ K H a xs):OZ K H' a xs:=h.imp (e _ _) id
section
variable{K:yac}{P:yak}{H H':Hp}
theorem Den.same(e:aw H H')(h:Den K P H d v):Den K P H' d v:=Den.map (λ_ _ q=>OZ.same e q) (λ_ _ _ p q=>⟨p,q.same e⟩) (λa _ n q=>e.kp a _ q n.nt) d v h
theorem aj.same(e:aw H H')(h:aj K P H ds vs):aj K P H' ds vs:=aj.map (λ_ _ q=>OZ.same e q) (λ_ _ _ p q=>⟨p,q.same e⟩) (λa _ n q=>e.kp a _ q n.nt) ds vs h
def Den.OB{b:yak}(e:∀t a,b t a->P t a)(h:Den K P H d v):Den K b H d v:=Den.map (λ_ _ q=>q) (λ_ _ _ p q=>⟨λz=>p (e _ _ z),q⟩) (λ_ _ _ q=>q) d v h
def aj.OB{b:yak}(e:∀t a,b t a->P t a)(h:aj K P H ds vs):aj K b H ds vs:=aj.map (λ_ _ q=>q) (by grind) (by lia) ds vs h
theorem aj.len:∀{ds:yar} {vs:yaq},aj K P H ds vs->vs.length=ds.length
 |[],_,h=>by simp only[aj]at h;simp_all
 |d::ds,_,h=>by obtain⟨v,r,rfl,_,a⟩:=h;simp[aj.len a]
theorem aj.get:∀{ds:yar} {vs:yaq} {i:Nat} {d:D},aj K P H ds vs->ds[i]?=some d->∃v,vs[i]?=some v/\Den K P H d v
 |[],_,_,_,_,e=>by simp at e
 |d::ds,_,0,_,h,e=>by simp only[aj]at h;obtain⟨v,r,rfl,a,_⟩:=h;simp at e;subst e;exact⟨v,rfl,a⟩
 |d::ds,_,i+1,x,h,e=>by simp only[aj]at h;obtain⟨v,r,rfl,_,a⟩:=h;obtain⟨u,c,b⟩:=aj.get (i:=i) (d:=x) a (by simpa using e);exact⟨u,by simpa using c,b⟩
theorem aj.bF:∀{ds:yar} {vs:yaq} {i:Nat} {v:V},aj K P H ds vs->vs[i]?=some v->∃d,ds[i]?=some d/\Den K P H d v
 |[],_,_,_,h,e=>by simp only[aj]at h;simp_all
 |d::ds,_,0,_,h,e=>by simp only[aj]at h;grind
 |d::ds,_,i+1,x,h,e=>by
  obtain⟨v,r,rfl,_,a⟩:=h;obtain⟨u,c,b⟩:=aj.bF (i:=i) (v:=x) a (by simpa using e)
  simp_all
theorem aj.append:∀{ds es:yar} {vs a:yaq},aj K P H ds vs->aj K P H es a->aj K P H (ds++es) (vs++a)
 |[],_,_,_,h,a=>by simp only[aj]at h;simp_all
 |d::ds,_,_,_,h,a=>by obtain⟨v,r,rfl,c,b⟩:=h;exact⟨v,_,rfl,c,aj.append b a⟩
def aj.one(h:Den K P H d v):aj K P H [d] [v]:=by simp only[aj];exact⟨v,[],rfl,h,rfl⟩
def aj.nil:aj K P H [] []:=by simp only[aj]
def aj.cons(h:Den K P H d v)(h':aj K P H ds vs):aj K P H (d::ds) (v::vs):=by exact⟨v,vs,rfl,h,h'⟩
def Den.O6(h:Den K P H (.int i) v):v=.int i:=by simpa only[Den]using h
def Den.Wr(h:Den K P H (.bl b) v):v=.bl b:=by simpa only[Den]using h
def Den.Xc(h:Den K P H .OD v):v=.OD:=by simpa only[Den]using h
def Den.Xd(h:Den K P H (.str x) v):v=.str x:=by simpa only[Den]using h
theorem Den.int(i:Int):Den K P H (.int i) (.int i):=by simp only[Den]
theorem Den.bl(b:Bool):Den K P H (.bl b) (.bl b):=by simp only[Den]
theorem Den.OD:Den K P H .OD .OD:=by simp only[Den]
theorem Den.str(x:Str):Den K P H (.str x) (.str x):=by simp only[Den]
def Den.Ra(h:Den K P H (.tup ds) v):∃a vs,v=.ref a/\OZ K H a vs/\aj K P H ds vs:=by simpa only[Den]using h
def Den.UT(h:Den K P H (.lst t ds) v):∃a vs,v=.ref a/\¬P t a/\QG K H t a vs/\aj K P H ds vs:=by simpa only[Den]using h
def Den.Q0(h:Den K P H (.lst t ds) v):∃a vs,v=.ref a/\¬P t a/\SqL K H a vs/\aj K P H ds vs:=by obtain⟨a,vs,e,d,c,b⟩:=h.UT;exact⟨a,vs,e,d,c.1,b⟩
def Den.dic_ (h:Den K P H .TL v):∃a,v=.ref a/\H a=some (.ext (PySem.W.KitAt a "dict")):=by simpa only[Den]using h
theorem Den.TL (h:H a=some (.ext (PySem.W.KitAt a "dict"))):Den K P H .TL (.ref a):=by simp only[Den];exact⟨a,rfl,h⟩
def Den.YJ(h:Den K P H (.obj C ns ds) v):∃a b vs,v=.ref a/\H a=some (.ins C b (ns.zip vs))/\vs.length=ns.length/\B3 K C/\aj K P H ds vs:=by simpa only[Den]using h
theorem Den.obj{ns:yah}(h:H a=some (.ins C dx (ns.zip vs)))(l:vs.length=ns.length)(k:B3 K C)(d:aj K P H ds vs):Den K P H (.obj C ns ds) (.ref a):=by exact⟨a,dx,vs,rfl,h,l,k,d⟩
def Den.ra_(h:Den K P H (.ra a) v):v=.ref a/\¬P false a/\∃vs,QG K H false a vs:=by simpa only[Den]using h
def Den.Xe(h:Den K P H (.R4 ks ds) v):∃a o kws vs,v=.ref a/\H a=some (.frz o (.dK kws))/\kws=(ks.map Sum.inl).zip vs/\vs.length=ks.length/\aj K P H ds vs:=by simpa only[Den]using h
theorem Den.R4{ks:yaf}(h:H a=some (.frz o (.dK ((ks.map Sum.inl).zip vs))))(l:vs.length=ks.length)(d:aj K P H ds vs):Den K P H (.R4 ks ds) (.ref a):=by exact⟨a,o,_,vs,rfl,h,rfl,l,d⟩
def Den.YK(h:Den K P H (.exc c) v):∃e,v=.ref e/\H e=some (.ext (ExcAt e c))/\gc K c:=by simpa only[Den]using h
theorem Den.exc(h:H e=some (.ext (ExcAt e c)))(k:gc K c):Den K P H (.exc c) (.ref e):=by simp only[Den];exact⟨e,rfl,h,k⟩
theorem Den.tup(h:OZ K H a vs)(h':aj K P H ds vs):Den K P H (.tup ds) (.ref a):=by exact⟨a,vs,rfl,h,h'⟩
theorem Den.lst(p:¬P t a)(h:QG K H t a vs)(h':aj K P H ds vs):Den K P H (.lst t ds) (.ref a):=by exact⟨a,vs,rfl,p,h,h'⟩
end
inductive LI where
 |own (ds:yar)|val (d:D)
inductive OS where
 |lst (ds:yar)|dk (kvs:List (Key×D))|dt (kvs:List (List Key×D))|ll (xs:List LI)
inductive Sl where
 |val (d:D)
 |ob (x:OS)
abbrev Sl.own(ds:yar):Sl:=.ob (.lst ds)
def br(K:yac)(P:yak)(H:Hp)(B:yaj):Nat->List LI->yaq->Prop
 |_,[],a=>a=[]
 |k,.own d::r,a=>∃b c u,a=.ref b::u/\B k=some b/\H b=some (.lst c)/\aj K P H d c/\br K P H B (k+1) r u
 |k,.val d::r,a=>∃v u,a=v::u/\Den K P H d v/\br K P H B (k+1) r u
theorem br.map{K:yac}{P d:yak}{H H':Hp}{B B':yaj}(c:∀ds vs,aj K P H ds vs->aj K d H' ds vs)(f:∀k b,B k=some b->B' k=some b/\∀a,H b=some (.lst a)->H' b=some (.lst a)):∀{k:Nat} {xs:List LI} {vs:yaq},br K P H B k xs vs->br K d H' B' k xs vs
 |_,[],_,h=>by simpa only[br]using h
 |k,.own ds::r,_,h=>by obtain⟨b,a,u,e,g,l,j,i⟩:=h;exact⟨b,a,u,e,(f k b g).1,(f k b g).2 a l,c ds a j,br.map c f i⟩
 |k,.val d::r,_,h=>by obtain⟨v,u,e,g,l⟩:=h;have j:=c [d] [v] (aj.one g);obtain⟨m,n,a,i,_⟩:=j;cases a;exact⟨v,u,e,i,br.map c f l⟩
theorem br.len{K:yac}{P:yak}{H:Hp}{B:yaj}:∀{k:Nat} {xs:List LI} {vs:yaq},br K P H B k xs vs->vs.length=xs.length
 |_,[],_,h=>by simp only[br]at h;simp_all
 |k,.own e::r,_,h=>by obtain⟨b,c,u,rfl,_,_,_,a⟩:=h;simp[br.len a]
 |k,.val d::r,_,h=>by obtain⟨v,u,rfl,_,a⟩:=h;simp[br.len a]
inductive df (K:yac) (P:yak) (H:Hp) (B:yaj):OS->HO->Prop where
 |lst {ds:yar} {vs:yaq} (h:aj K P H ds vs):df K P H B (.lst ds) (.lst vs)
 |ll {xs:List LI} {vs:yaq} (h:br K P H B 0 xs vs):df K P H B (.ll xs) (.lst vs)
 |dk {kvs:List (Key×D)} {kws:List (Key×V)} (e:kws.map (·.1)=kvs.map (·.1)) (h:aj K P H (kvs.map (·.2)) (kws.map (·.2))):df K P H B (.dk kvs) (.dK kws)
 |dt {kvs:List (List Key×D)} {kws:List (List Key×V)} (e:kws.map (·.1)=kvs.map (·.1)) (h:aj K P H (kvs.map (·.2)) (kws.map (·.2))):df K P H B (.dt kvs) (.dT kws)
def jt:HO->Prop
 |.lst _=>True|.dK _=>True|.dT _=>True|_=>False
def jt.nt(h:jt o):NT o:=by cases o<;>first|exact True.intro|exact h.elim
def jt.sol(h:jt o):¬Wq o:=by cases o<;>first|exact h.elim|exact λz=>z
def jt.ne(h:jt o):∀a,o ≠ .ext a:=λ_ e=>by subst e;exact h
section
variable{K:yac}{P P':yak}{H H':Hp}{B B':yaj}{x:OS}{o:HO}
theorem df.map(k:∀ds vs,aj K P H ds vs->aj K P' H' ds vs)(c:∀k b,B k=some b->B' k=some b/\∀a,H b=some (.lst a)->H' b=some (.lst a))(h:df K P H B x o):df K P' H' B' x o:=by
 cases h with
 |lst h=>exact .lst (k _ _ h)
 |ll h=>exact .ll (h.map k c)
 |dk e h=>exact .dk e (k _ _ h)
 |dt e h=>exact .dt e (k _ _ h)
theorem df.same(e:aw H H')(h:df K P H B x o):df K P H' B x o:=h.map (λ_ _ z=>z.same e) λ_ _ q=>⟨q,λ_ z=>e _ _ z⟩
theorem df.OB(e:∀t a,P' t a->P t a)(c:∀k b,B k=some b->B' k=some b)(h:df K P H B x o):df K P' H B' x o:=h.map (λ_ _ z=>z.OB e) λk b q=>⟨c k b q,λ_ z=>z⟩
def df.Vr(h:df K P H B x o):jt o:=by cases h<;>exact True.intro
def df.Q0(h:df K P H B (.lst ds) o):∃vs,o=.lst vs/\aj K P H ds vs:=by
 cases h with
 |lst h=>exact⟨_,rfl,h⟩
end
abbrev Ro:=List (Option Sl)
structure Own where
 B:Addr->Prop
 O:yaj
 S:Addr->Prop
def Own.bad(W:Own)(t:Bool)(a:Addr):Prop:=W.B a∨(∃i,W.O i=some a)∨(t=true/\W.S a)
def Own.drop(W:Own)(i:Nat):Own:=⟨W.B,λj=>if j=i then none else W.O j,W.S⟩
def Own.put(W:Own)(i:Nat)(a:Addr):Own:=⟨W.B,λj=>if j=i then some a else W.O j,W.S⟩
def Own.O8{W:Own}(h:(W.drop i).bad t a):W.bad t a:=by
 rcases h with h|⟨j,h⟩| h;exact .inl h;have b:(if j=i then none else W.O j)=some a:=h;by_cases e:j=i
 lia
 rw[N2 e]at b;exact .inr (.inl ⟨j,b⟩);exact .inr (.inr h)
def Own.Ti{W:Own}(h:W.bad false a):W.bad t a:=by
 rcases h with h|h|⟨h,_⟩;exact .inl h;exact .inr (.inl h)
 lia
def YL(n i k:Nat):Nat:=n*(k+1)+i
def ql{n j:Nat}(h:j<n):YL n i k≠j:=λe=>by
 unfold YL at e
 lia
abbrev Own.sub(W:Own)(n i:Nat)(k:Nat):Option Addr:=W.O (YL n i k)
def Own.Sf{W:Own}{n i:Nat}(h:i<n)(k:Nat)(b:Addr)(e:W.sub n j k=some b):(W.drop i).sub n j k=some b:=by show(if YL n j k=i then none else W.O (YL n j k))=_;rw[N2 (ql h)];exact e
structure Rel(X:Cx)(W:Own)(H:Hp)(σ:St)(ρ:Ro):Prop where
 val:∀(i:Nat) (d:D),ρ[i]?=some (some (Sl.val d))->∃v,σ[i]?=some (some v)/\Den X.K W.bad H d v
 own:∀(i:Nat) (x:OS),ρ[i]?=some (some (Sl.ob x))->∃a o,W.O i=some a/\σ[i]?=some (some (.ref a))/\H a=some o/\df X.K W.bad H (W.sub σ.length i) x o
 inj:∀i j a,W.O i=some a->W.O j=some a->i=j
 kn:∀i a,W.O i=some a->X.K.lookup a=none/\(¬W.B a/\¬W.S a)/\∃o,H a=some o/\jt o
 ke:∀i a,W.O i=some a->X.OV a=none
 bt:∀a,W.B a->∃o,H a=some o
 st:∀a,W.S a->∃o,H a=some o
 ent:aw X.OV H
 tab:lE X.K H
theorem Rel.same(r:Rel X W H σ ρ)(e:aw H H'):Rel X W H' σ ρ where
 val:=λi d h=>let ⟨v,h1,h2⟩:=r.val i d h;⟨v,h1,h2.same e⟩
 own:=λi b h=>let ⟨a,vs,h1,h2,h3,h4⟩:=r.own i b h;⟨a,vs,h1,h2,e.kp _ _ h3 h4.Vr.nt,h4.same e⟩
 inj:=r.inj
 kn:=λi a h=>let ⟨h1,h2,o,h3,h4⟩:=r.kn i a h;⟨h1,h2,o,e.kp _ _ h3 h4.nt,h4⟩
 ke:=r.ke
 bt:=λa h=>let ⟨_,q⟩:=r.bt a h;e.ex q
 st:=λa h=>let ⟨_,q⟩:=r.st a h;e.ex q
 ent:=r.ent.trans e
 tab:=r.tab.same e
def Rel.vo(r:Rel X W H σ ρ)(i:Nat)(ds:yar)(h:ρ[i]?=some (some (Sl.own ds))):∃a vs,W.O i=some a/\σ[i]?=some (some (.ref a))/\H a=some (.lst vs)/\aj X.K W.bad H ds vs:=by obtain⟨a,o,g,f,d,c⟩:=r.own i _ h;obtain⟨vs,e,b⟩:=c.Q0;subst e;exact⟨a,vs,g,f,d,b⟩
def Rel.tracked(r:Rel X W H σ ρ)(t:Bool)(a:Addr)(h:W.bad t a):∃o,H a=some o:=by
 rcases h with h|⟨i,h⟩| ⟨_,h⟩;exact r.bt a h;obtain⟨_,_,o,q,_⟩:=r.kn i a h;exact⟨_,q⟩;exact r.st a h
def Rel.fresh(r:Rel X W H σ ρ)(h:H p=none):¬W.bad t p:=λz=>by
 obtain⟨o,q⟩:=r.tracked t p z
 lia
structure OK(W:Own)(H:Hp)(W':Own)(H':Hp):Prop where
 B:W'.B=W.B
 S:W'.S=W.S
 kp:∀b o,(∀i,W.O i≠some b)->H b=some o->NT o->H' b=some o
 new:∀i a,W'.O i=some a->(∃j,W.O j=some a)∨H a=none
 tb:∀b ps,H b=some (.TJ ps)->∃more,H' b=some (.TJ (ps++more))
 ok:fV H->fV H'
def OK.keep(f:OK W H W' H')(b:Addr)(o:HO)(h:∀i,W.O i≠some b)(q:H b=some o)(a:NT o:=by first|exact True.intro|assumption):H' b=some o:=f.kp b o h q a
def OK.ex(f:OK W H W' H'){b:Addr}{o:HO}(h:∀i,W.O i≠some b)(q:H b=some o):∃a,H' b=some a:=by
 by_cases n:NT o;exact⟨o,f.kp b o h q n⟩;cases o with
 |TJ a =>
  obtain⟨m,e⟩:=f.tb b a q;exact⟨_,e⟩
 |_=>exact absurd True.intro n
def OK.refl(W:Own)(H:Hp):OK W H W H:=⟨rfl,rfl,by lia,λi _ h=>.inl ⟨i,h⟩,by simp_all,id⟩
theorem OK.trans(a:OK W H W1 H1)(b:OK W1 H1 W2 H2):OK W H W2 H2:=by
 refine⟨b.B.trans a.B,b.S.trans a.S,λx o n h t=>b.kp x o (λi z=>?_) (a.kp x o n h t) t,λi x h=>?_,λc d h=>?_,λh=>b.ok (a.ok h)⟩
 ·rcases a.new i x z with⟨j,q⟩| q
  all_goals grind
 rcases b.new i x h with⟨j,q⟩| q;exact a.new j x q;by_cases z:∃j,W.O j=some x
 simp_all
 refine .inr ?_;cases e:H x with
 |none=>rfl
 |some o =>
  obtain⟨f,this⟩:=a.ex (by simp_all) e
  lia
 obtain⟨k,e⟩:=a.tb c d h;obtain⟨g,l⟩:=b.tb c _ e;grind
def OK.same(e:aw H H'):OK W H W H':=⟨rfl,rfl,λ_ _ _ h n=>e.kp _ _ h n,λi _ h=>.inl ⟨i,h⟩,e.tb,e.ok⟩
def aw.ins(e:aw OV H){o:HO}(h0:OV a=none)(f:H a=some o)(c:jt o)(d:NT o'):aw OV (upd H a o') :=
 ⟨λb u h n=>by rw[aC (bf h h0)];exact e.kp b u h n,λb a h=>by rw[aC (bf h h0)];exact e.tb b a h,λh=>fV.upd d (.inr ⟨o,f,c.ne,c.nt⟩) (e.ok h)⟩
theorem OK.upd{W:Own}{H:Hp}{a:Addr}{o:HO}(f:W.O i=some a)(d:H a=some o)(c:jt o)(g:NT o'):OK W H W (upd H a o') :=
 ⟨rfl,rfl,λb u n h _=>by rw[aC λe=>n i (by rw[e];exact f)];exact h,λj _ h=>.inl ⟨j,h⟩,λb k h=>⟨#[],by rw[aC (λe=>by subst e;rw[d]at h;cases h;exact c),h];simp⟩,fV.upd g (.inr ⟨o,d,c.ne,c.nt⟩)⟩
structure mF where
 nx:Ro->Prop
 rt:D->Prop
 bk:Ro->Prop:=λ_=>False
 ct:Ro->Prop:=λ_=>False
abbrev DE:=Ro->(D->Prop)->Prop
abbrev DT:=Ro->(Bool->Prop)->Prop
abbrev DA:=Ro->(yar->Prop)->Prop
abbrev DS:=mF->Ro->Prop
def DP(X:Cx)(a:yab)(c:St)(W:Own)(H:Hp)(Q:D->Prop)(u:Value)(e:Shared):Prop :=
 ∃ v b d,Inv X a c b e/\RelV v u/\aw H b/\Den X.K W.bad b d v/\Q d
def DTP(X:Cx)(a:yab)(d:St)(H:Hp)(Q:Bool->Prop)(b:Bool)(e:Shared):Prop :=
 ∃ c,Inv X a d c e/\aw H c/\Q b
def DAP(X:Cx)(a:yab)(e:St)(W:Own)(H:Hp)(Q:yar->Prop)(f:yad)(g:Shared):Prop :=
 ∃ c b d,Inv X a e b g/\Vals c f/\aw H b/\aj X.K W.bad b d c/\Q d
def Ws(X:Cx)(a:yab)(W:Own)(H:Hp)(E:mF)(f:Flow)(e:Shared):Prop :=
 ∃ c d b,Inv X a d b e/\OK W H c b ∧
 match f with
 |.next=>∃a,Rel X c b d a/\E.nx a
 |.brk=>∃a,Rel X c b d a/\E.bk a
 |.cont=>∃a,Rel X c b d a/\E.ct a
 |.ret u=>∃v d,RelV v u/\Den X.K c.bad b d v/\E.rt d
def Oo(X:Cx)(e:Expr)(t:DE):Prop :=
 ∀ (a:yab) (s:Shared) (b:St) (H:Hp) (W:Own) (c:Ro) (Q:D->Prop),Inv X a b H s->Rel X W H b c->t c Q →
  wpAny (model X.prog X.w) X.A (eval e X.env) (DP X a b W H Q) X.xe s
def TP(X:Cx)(e:Expr)(t:DT):Prop :=
 ∀ (a:yab) (s:Shared) (b:St) (H:Hp) (W:Own) (c:Ro) (Q:Bool->Prop),Inv X a b H s->Rel X W H b c->t c Q →
  wpAny (model X.prog X.w) X.A (isTrue e X.env (eval e X.env)) (DTP X a b H Q) X.xe s
def SK(X:Cx)(e:Expr)(t:DT):Prop :=
 ∀ (b:Sem Value) (a:yab) (s:Shared) (c:St) (H:Hp) (W:Own) (d:Ro) (Q:Bool->Prop),Inv X a c H s->Rel X W H c d->t d Q →
  wpAny (model X.prog X.w) X.A (isTrue e X.env b) (DTP X a c H Q) X.xe s
def SK.pt(h:SK X e t):TP X e t:=h _
def S4(X:Cx)(es:yai)(t:DA):Prop :=
 ∀ (c:Pos) (a:yab) (s:Shared) (b:St) (H:Hp) (W:Own) (d:Ro) (Q:yar->Prop),Inv X a b H s->Rel X W H b d->t d Q →
  wpAny (model X.prog X.w) X.A (spliced (backTo c (starEach es X.env))) (DAP X a b W H Q) X.xe s
def Rq(X:Cx)(st:Stmt)(t:DS):Prop :=
 ∀ (a:yab) (s:Shared) (b:St) (H:Hp) (W:Own) (c:Ro) (E:mF),Inv X a b H s->Rel X W H b c->t E c →
  wpAny (model X.prog X.w) X.A (exec st X.env) (Ws X a W H E) X.xe s
def c9(X:Cx)(st:List Stmt)(t:DS):Prop :=
 ∀ (a:yab) (s:Shared) (b:St) (H:Hp) (W:Own) (c:Ro) (E:mF),Inv X a b H s->Rel X W H b c->t E c →
  wpAny (model X.prog X.w) X.A (execs st X.env) (Ws X a W H E) X.xe s
def HB(X:Cx)(t:DE):TE:=λc H Q=>∃W a b,Rel X W H c a/\t a b/\∀v a d,aw H a->Den X.K W.bad a d v->b d->Q v a
def MH(X:Cx)(t:DS):TS:=λD b H=>∃W a f,Rel X W H b a/\t f a ∧
 (∀b c a e,OK W H b a->Rel X b a c e->f.nx e->D.nx c a) ∧
 (∀b a v d,OK W H b a->Den X.K b.bad a d v->f.rt d->D.rt v a) ∧
 (∀b c a e,OK W H b a->Rel X b a c e->f.bk e->D.bk c a) ∧
 (∀b c a e,OK W H b a->Rel X b a c e->f.ct e->D.ct c a)
section
variable{X:Cx}
def Oo.pe(h:Oo X e t):PE X e (HB X t):=by intro a s b H Q I q;obtain⟨W,c,e,r,d,k⟩:=q;exact Oa (h a s b H W c e I r d) λu i g=>(by obtain⟨v,a,d,h,b,f,e,c⟩:=g;exact⟨v,a,h,b,k v a d f e c⟩)
def c9.ps{st:List Stmt}{t:DS}(h:c9 X st t):PSs X st (MH X t):=by
 intro a s b H D I q;obtain⟨W,c,e,r,d,m,l,k,j⟩:=q;refine Oa (h a s b H W c e I r d) λf n b=>?_
 obtain⟨h,c,a,i,g,q⟩:=b;cases f with
 |next=>obtain⟨e,d,b⟩:=q;exact⟨c,a,i,m h c a e g d b⟩
 |brk=>obtain⟨e,d,b⟩:=q;exact⟨c,a,i,k h c a e g d b⟩
 |cont=>obtain⟨e,d,b⟩:=q;exact⟨c,a,i,j h c a e g d b⟩
 |ret u=>obtain⟨v,d,e,f,b⟩:=q;exact⟨v,c,a,i,e,l h a v d g f b⟩
def Oo.of{t:DE}(h:PE X e te)(k:∀a H W ρ Q,Rel X W H a ρ->t ρ Q->te a H λv H'=>aw H H'/\∃d,Den X.K W.bad H' d v/\Q d):Oo X e t:=by intro b s a H W ρ Q I r c;exact Oa (h b s a H _ I (k a H W ρ Q r c)) λu g e=>(by obtain⟨v,H',f,a,c,d,b,q⟩:=e;exact⟨v,H',d,f,a,c,b,q⟩)
end
section
variable{X:Cx}{a b c:Expr}{ta tb:DE}{pos:Pos}
def lJ(i:Nat):DE:=λd Q=>match d[i]? with
 |some (some (.val d))=>Q d
 |_=>False
set_option tactic.hygienic true in
def Ih(h:lJ i ρ Q):∃d,ρ[i]?=some (some (.val d))/\Q d:=by unfold lJ at h;split at h;rename_i d e;exact⟨d,e,h⟩;exact h.elim
def dC(d:D):DE:=λ_ Q=>Q d
def dv (i:Nat) {x:Str} {pos:Pos} (f:X.N[i]?=some x:=by rfl) (d:VM X.env.scope x:=by first|exact Or.inl rfl|exact Or.inr (Or.inl rfl)|exact Or.inr (Or.inr rfl)) (e:(x==("__debug__" : Str))=false:=by decide)
  (g:(x==("__classdict__" : Str))=false:=by decide):Oo X (.Name x pos) (lJ i) :=
 Oo.of (kA f d e g) λh H W j Q r f=>by obtain⟨d,e,q⟩:=Ih f;obtain⟨v,g,f⟩:=r.val i d e;exact⟨v,g,aw.refl H,d,f,q⟩
def ae{i j pos}:Oo X (.Constant (.int i) j pos) (dC (.int i)):=Oo.of LO λ_ H _ _ _ _ q=>⟨aw.refl H,_,Den.int i,q⟩
def fq{i j pos}:Oo X (.Constant (.bool i) j pos) (dC (.bl i)):=Oo.of MR λ_ H _ _ _ _ q=>⟨aw.refl H,_,Den.bl i,q⟩
def dh{j pos}:Oo X (.Constant .none j pos) (dC .OD):=Oo.of LP λ_ H _ _ _ _ q=>⟨aw.refl H,_,Den.OD,q⟩
def kh{x j pos}:Oo X (.Constant (.str x) j pos) (dC (.str x)):=Oo.of LQ λ_ H _ _ _ _ q=>⟨aw.refl H,_,Den.str x,q⟩
abbrev RD2:=D->D->(D->Prop)->Prop
def Qc(X:Cx)(f:Value->Value->Sem Value)(r:RD2):Prop :=
 ∀ (d:yab) (s:Shared) (e:St) (H:Hp) (W:Own) (x y:D) (v u:V) (g h:Value) (Q:D->Prop),Inv X d e H s->(∀t a,W.bad t a->∃o,H a=some o)->RelV v g->RelV u h->Den X.K W.bad H x v->Den X.K W.bad H y u->r x y Q →
  wpAny (model X.prog X.w) X.A (f g h) (DP X d e W H Q) X.xe s
def ZE(r:RD2)(ta tb:DE):DE:=λd Q=>ta d λx=>tb d λy=>r x y Q
def B9(m:Oo X a ta)(q:Oo X b tb){d:yab}{s:Shared}{g:St}{H:Hp}{W:Own}{ρ:Ro}{R:D->D->Prop}(I:Inv X d g H s)(r:Rel X W H g ρ)(h:ta ρ λx=>tb ρ λy=>R x y)
  {l:Type} {Q:l->Shared->Prop} {f:Value->Value->Sem l}
  (p:∀i j k v u x y e,Inv X d g e k->aw H e->RelV v i->RelV u j->Den X.K W.bad e x v->Den X.K W.bad e y u->R x y->wpAny (model X.prog X.w) X.A (f i j) Q X.xe k) :
  wpAny (model X.prog X.w) X.A (eval a X.env) (λv n=>wpAny (model X.prog X.w) X.A (eval b X.env) (λu o=>wpAny (model X.prog X.w) X.A (f v u) Q X.xe o) X.xe n) X.xe s:=by
 refine Oa (m d s g H W ρ _ I r h) λi l f=>?_
 obtain⟨v,t,x,s,m,h,o,n⟩:=f;refine Oa (q d l g t W ρ _ s (r.same h) n) λj k f=>?_
 obtain⟨u,e,y,q,g,d,n,l⟩:=f;exact p i j k v u x y e q (h.trans d) m g (o.same d) n l
def DP.up(e:aw H H1)(h:DP X pins σ W H1 Q u s'):DP X pins σ W H Q u s':=by obtain⟨v,i,d,I,r,g,f,q⟩:=h;exact⟨v,i,d,I,r,e.trans g,f,q⟩
def av{d:Operator}{r:RD2}(o:Qc X (binaryOp d) r)(i:Oo X a ta)(e:Oo X b tb):Oo X (.BinOp a d b pos) (ZE r ta tb):=by intro d s g H W t Q I f h;refine wpAny_BinOp (B9 i e I f h λh i j v u x y r p e k l n m q=>?_);exact Oa (o d j g r W x y v u h i Q p (f.same e).tracked k l n m q) λ_ _ z=>z.up e
def Mv{rd:D->(D->Prop)->Prop}(n:UnR X (unaryOp op) r)(i:Oo X a ta)
  (k:∀P H d v Q,Den X.K P H d v->rd d Q->r v H λe H'=>aw H H'/\∃d',Den X.K P H' d' e/\Q d'):Oo X (.UnaryOp op a pos) (λρ Q=>ta ρ λx=>rd x Q):=by
 intro e s f H W ρ Q I g h;refine UnaryOp_ (Oa (i e s f H W ρ _ I g h) λh i p=>?_);obtain⟨v,g,x,q,j,o,m,l⟩:=p;exact Oa (n e i f g v h _ q j (k _ g x v Q m l)) λu t j=>(by obtain⟨e,l,k,f,i,d,h,g⟩:=j;exact⟨e,l,d,k,f,o.trans i,h,g⟩)
def yh(ta:DE):DE:=λd Q=>ta d λx=>∃i,x=.int i/\Q (.int (-i))
def cF(d:Oo X a ta):Oo X (.UnaryOp .USub a pos) (yh ta) :=
 Mv (rd:=λx Q=>∃i,x=.int i/\Q (.int (-i))) Me d λP H d v Q d ⟨i,e,q⟩=>by subst e;exact⟨i,d.O6,aw.refl H,_,Den.int _,q⟩
def Qc.of{rd:RD2}(h:SY X f r)(k:∀P H x y v u Q,Den X.K P H x v->Den X.K P H y u->rd x y Q->r v u H λd H'=>aw H H'/\∃d',Den X.K P H' d' d/\Q d'):Qc X f rd:=by intro d s e H W x y v u f g Q I _ i j m l q;exact Oa (h d s e H v u f g _ I i j (k _ H x y v u Q m l q)) λ_ n j=>(by obtain⟨e,l,k,f,i,d,h,g⟩:=j;exact⟨e,l,d,k,f,i,h,g⟩)
def X0(C:Int->Int->Prop)(g:Int->Int->D):RD2:=λx y Q=>match x,y with
 |.int i,.int j=>C i j/\Q (g i j)
 |_,_=>False
def gP(g:Int->Int->D):RD2:=λx y Q=>match x,y with
 |.int i,.int j=>Q (g i j)
 |_,_=>False
def LZ(h:X0 C g x y Q):∃i j,x=.int i/\y=.int j/\C i j/\Q (g i j):=by unfold X0 at h;split at h;exact⟨_,_,rfl,rfl,h⟩;exact h.elim
def qL(h:gP g x y Q):∃i j,x=.int i/\y=.int j/\Q (g i j):=by unfold gP at h;split at h;exact⟨_,_,rfl,rfl,h⟩;exact h.elim
def Qc.ofI{g:Int->Int->Int}(h:SY X f (rI C λi j=>.int (g i j))):Qc X f (X0 C λi j=>.int (g i j)) :=
 Qc.of h λP H x y v u Q e d z=>by obtain⟨i,j,h,g,f,q⟩:=LZ z;subst h g;exact⟨i,j,e.O6,d.O6,f,aw.refl H,_,Den.int _,q⟩
def Qc.ofI0{g:Int->Int->Int}(h:SY X f (Wo λi j=>.int (g i j))):Qc X f (gP λi j=>.int (g i j)) :=
 Qc.of h λP H x y v u Q e d z=>by obtain⟨i,j,g,f,q⟩:=qL z;subst g f;exact⟨i,j,e.O6,d.O6,aw.refl H,_,Den.int _,q⟩
def Qc.Xf{g:Int->Int->Bool}(h:SY X f (Wo λi j=>.bl (g i j))):Qc X f (gP λi j=>.bl (g i j)) :=
 Qc.of h λP H x y v u Q e d z=>by obtain⟨i,j,g,f,q⟩:=qL z;subst g f;exact⟨i,j,e.O6,d.O6,aw.refl H,_,Den.bl _,q⟩
def LC:Qc X (binaryOp .Add) (gP λi j=>.int (i+j)):=Qc.ofI0 LH
def bL:Qc X (binaryOp .Sub) (gP λi j=>.int (i - j)):=Qc.ofI0 LK
def fB:Qc X (compareOp .Lt) (gP λi j=>.bl (decide (i<j))):=Qc.Xf MP
def xr:Qc X (compareOp .LtE) (gP λi j=>.bl (decide (i<=j))):=Qc.Xf MN
def ua:Qc X (compareOp .Gt) (gP λi j=>.bl (decide (j<i))):=Qc.Xf MM
def Cv:Qc X (compareOp .GtE) (gP λi j=>.bl (decide (j<=i))):=Qc.Xf ML
def Bd(n:Nat)(x:Int):Prop:=x.natAbs<2 ^ n
def Bd.mono{n:Nat}(h:Bd m x)(l:m<=n):Bd n x:=QL h (WO (by decide) l)
def Bd.mul(h:Bd m x)(h':Bd n y):Bd (m+n) (x*y):=by unfold Bd at *;rw[XT,Nat.pow_add];exact Nat.mul_lt_mul'' h h'
def Bd.add(h:Bd m x)(h':Bd m y):Bd (m+1) (x+y):=by
 unfold Bd at *;rw[VH];have:=Int.natAbs_add_le x y
 lia
def Bd.sub(h:Bd m x)(h':Bd m y):Bd (m+1) (x - y):=by
 unfold Bd at *;rw[VH];have:=Int.natAbs_sub_le x y
 lia
def Bd.neg(h:Bd m x):Bd m (-x):=by
 unfold Bd at *
 simp_all
def Bd.bits(h:Bd n x):Builtin.Int.intBits x<=n:=by
 unfold Builtin.Int.intBits;split
 lia
 have d:x.natAbs≠0:=by simp_all
 have:=(Nat.log2_lt d).mpr h
 lia
def CM(i j:Int):Prop:=Bd 64 i∨Bd 64 j∨(Bd 100000 i/\Bd 100000 j)
def CM.ok(h:CM i j):IntMulOk i j:=by
 rcases h with h|h|⟨h,d⟩;exact .of_left h.bits;exact .of_right h.bits;exact .of_bits (Pe h.bits (by decide)) (Pe d.bits (by decide))
def Ji:SY X (binaryOp .Mult) (rI CM λi j=>.int (i*j)):=opI λ_ _ _ _ _ _ _ d q=>mul_int q d.ok
def aF:Qc X (binaryOp .Mult) (X0 CM λi j=>.int (i*j)):=Qc.ofI Ji
def CD(_:Int)(j:Int):Prop:=j≠0/\Bd 8000 j
def CD.noPy(h:CD i j):Builtin.divisionGoesByPylong i j=false:=by
 refine PyProof.noPylong_of_log2 ?_;have d:j.natAbs≠0:=λe=>h.1 (Int.natAbs_eq_zero.mp e)
 have:=(Nat.log2_lt d).mpr h.2
 lia
def GL:SY X (binaryOp .FloorDiv) (rI CD λi j=>.int (i.fdiv j)):=opI λ_ _ _ _ _ _ _ d q=>floordiv_int d.1 q (.inl d.noPy)
def cU:Qc X (binaryOp .FloorDiv) (X0 CD λi j=>.int (i.fdiv j)):=Qc.ofI GL
def bR:Qc X (binaryOp .Mod) (X0 (λ_ j=>j≠0) λi j=>.int (i.fmod j)):=Qc.ofI Jh
def zf:Qc X (binaryOp .Pow) (X0 Fw λi j=>.int (i ^ j.toNat)):=Qc.ofI LJ
def dB(t:DE):DT:=λd Q=>t d λx=>∃k,x=.bl k/\Q k
def ma{d:CmpOp}{r:RD2}(o:Qc X (compareOp d) r)(i:Oo X a ta)(e:Oo X b tb)(p:behindInMarks d b=false:=by first|exact zb _ (by decide) (by decide)|rfl):Oo X (.Compare a [d] [b] pos) (ZE r ta tb):=by intro d s g H W t Q I f h;refine wpAny_Compare1 (B9 i e I f h λh i j v u x y s r e k l n m q=>?_) p;exact Oa (o d j g s W x y v u h i Q r (f.same e).tracked k l n m q) λ_ _ z=>z.up e
def aE(J:Qc X (compareOp op) r)(O:Oo X a ta)(N:Oo X b tb)(L:behindInMarks op b=false:=by first|exact zb _ (by decide) (by decide)|rfl):TP X (.Compare a [op] [b] pos) (dB (ZE r ta tb)):=by
 intro e s f H W l Q I g h;refine wpAny_isTrue_Compare1 (Oa (O e s f H W l _ I g h) λm p ⟨v,H1,x,I1,q,j,G,C⟩=>Oa (N e p f H1 W l _ I1 (g.same j) C) λn o ⟨u,H2,y,I2,t,i,E,B⟩=>
  Oa (J e o f H2 W x y v u m n _ I2 ((g.same j).same i).tracked q t (G.same i) E B) λc s3 ⟨z,H3,d,Y,w,U,M,k,T,A⟩=>?_) L
 subst T;have d:=M.Wr;subst d;cases w;exact Zt ⟨H3,Y,j.trans (i.trans U),A⟩
def cM(h:Oo X e t)(j:∀d,isTrue e X.env d=(do let v←d;standAt e.pos;holding [v] (truthy v)):=by intro _;rfl):TP X e (dB t):=by intro d s e H W f Q I g i;refine isTrue_plain (Oa (h d s e H W f _ I g i) λl m h=>?_) (j _);obtain⟨v,j,x,i,d,g,f,k,e,q⟩:=h;subst e;have e:=f.Wr;subst e;cases d;exact Zt ⟨j,i,g,q⟩
variable{tA tB':DT}{rest:yai}
def Kj(t u:DT):DT:=λd Q=>t d λc=>if c=true then u d Q else Q false
def dOr(t u:DT):DT:=λd Q=>t d λc=>if c=true then Q true else u d Q
def Kn(t:DT):DT:=λd Q=>t d λc=>Q (!c)
def u0(i:TP X a tA):SK X (.BoolOp .And [a] pos) tA:=by
 intro j d s e H W f Q I g h;refine isTrue_and (Oa (i d s e H W f Q I g h) λc k e=>?_);cases c with
 |true=>exact isTrue_and_nil e
 |false=>exact e
def gM(i:TP X a tA):SK X (.BoolOp .Or [a] pos) tA:=by
 intro j d s e H W f Q I g h;refine isTrue_or (Oa (i d s e H W f Q I g h) λc k e=>?_);cases c with
 |false=>exact isTrue_or_nil e
 |true=>exact e
def yB(e:TP X a tA)(n:SK X (.BoolOp .And (b::rest) pos) tB'):SK X (.BoolOp .And (a::b::rest) pos) (Kj tA tB'):=by
 intro l d s f H W g Q I i h;refine isTrue_and (Oa (e d s f H W g _ I i h) λc m o=>?_);obtain⟨k,j,e,h⟩:=o;cases c with
 |true=>exact Oa (n l d m f k W g Q j (i.same e) h) λ_ _ g=>(by obtain⟨l,i,f,d⟩:=g;exact⟨l,i,e.trans f,d⟩)
 |false=>exact⟨k,j,e,h⟩
def d9(e:TP X a tA)(n:SK X (.BoolOp .Or (b::rest) pos) tB'):SK X (.BoolOp .Or (a::b::rest) pos) (dOr tA tB'):=by
 intro l d s f H W g Q I i h;refine isTrue_or (Oa (e d s f H W g _ I i h) λc m o=>?_);obtain⟨k,j,e,h⟩:=o;cases c with
 |true=>exact⟨k,j,e,h⟩
 |false=>exact Oa (n l d m f k W g Q j (i.same e) h) λ_ _ g=>(by obtain⟨i,h,f,d⟩:=g;exact⟨i,h,e.trans f,d⟩)
def cG(i:TP X a tA):TP X (.UnaryOp .Not a pos) (Kn tA):=by intro d s e H W f Q I g h;exact isTrue_not (i d s e H W f (λc=>Q (!c)) I g h)
def Ho(ta tb:DE):DE:=λd Q=>ta d λx=>∃c,x=.bl c/\if c=true then tb d Q else Q (.bl false)
def Hu(ta:DE):DE:=λd Q=>ta d λx=>∃c,x=.bl c/\Q (.bl (!c))
def yq{op}(h:Oo X a t):Oo X (.BoolOp op [a] pos) t:=λd s e H W f Q I g i=>BoolOp_one (h d s e H W f Q I g i)
def yo(e:Oo X a ta)(p:Oo X (.BoolOp .And (b::rest) pos) tb):Oo X (.BoolOp .And (a::b::rest) pos) (Ho ta tb):=by
 intro d s f H W g Q I i h;refine BoolOp_and (Oa (e d s f H W g _ I i h) λr l q=>?_);obtain⟨v,k,x,j,m,e,o,c,n,h⟩:=q;subst n;have n:=o.Wr;subst n;cases m;refine Zt ?_;cases c with
 |true=>exact Oa (p d l f k W g Q j (i.same e) h) λ_ _ z=>z.up e
 |false=>exact⟨.bl false,k,_,j,rfl,e,Den.bl _,h⟩
def KG(i:Oo X a ta):Oo X (.UnaryOp .Not a pos) (Hu ta):=by intro d s e H W f Q I g h;refine UnaryOp_ (Oa (i d s e H W f _ I g h) λl m i=>?_);obtain⟨v,k,x,j,d,h,g,c,f,e⟩:=i;subst f;have f:=g.Wr;subst f;cases d;exact not_of (Zt ⟨.bl (!c),k,_,j,rfl,h,Den.bl _,e⟩)
def dIf(t:DT)(ta tb:DE):DE:=λd Q=>t d λc=>if c=true then ta d Q else tb d Q
def rJ(d:TP X c tA)(o:Oo X a ta)(n:Oo X b tb):Oo X (.IfExp c a b pos) (dIf tA ta tb):=by
 intro e s g H W i Q I j h;refine wpAny_IfExp (Oa (d e s g H W i _ I j h) λd h p=>?_);obtain⟨m,l,f,k⟩:=p;cases d with
 |true=>exact Oa (o e h g m W i Q l (j.same f) k) λ_ _ z=>z.up f
 |false=>exact Oa (n e h g m W i Q l (j.same f) k) λ_ _ z=>z.up f
def vt:RD2:=λx y Q=>match x,y with
 |.tup e,.int i=>∃d,Qm e i=some d/\Q d
 |.lst _ e,.int i=>∃d,Qm e i=some d/\Q d
 |_,_=>False
def Jv(h:vt x y Q):∃ds i d,(x=.tup ds∨∃ t,x=.lst t ds)/\y=.int i/\Qm ds i=some d/\Q d:=by unfold vt at h;split at h;obtain⟨d,h⟩:=h;exact⟨_,_,d,.inl rfl,rfl,h⟩;obtain⟨d,h⟩:=h;exact⟨_,_,d,.inr ⟨_,rfl⟩,rfl,h⟩;exact h.elim
def xO{K:yac}{P:yak}{H:Hp}{ds:yar}{vs:yaq}{i:Int}{d:D}(h:aj K P H ds vs)(e:Qm ds i=some d):∃v,Qm vs i=some v/\Den K P H d v:=by
 unfold Qm at e ⊢;rw[h.len];cases q:ixN ds.length i with
 |none=>simp_all
 |some j =>
  rw[q]at e;exact h.get e
def ar(f:Oo X a ta)(e:Oo X b tb)(hs:HU b:=by intro _ _;rfl):Oo X (.Subscript a b pos) (ZE vt ta tb):=by
 intro j s C H W T Q I d h;refine Subscript_ (B9 f e I d h λE G H v u x y h N e I J L f q=>?_)
 replace q:=Jv q
 obtain⟨Y,i,d,m,g,M,q⟩:=q;subst g;have g:=f.O6;subst g;have l:∀(f:V),Den X.K W.bad h d f->aw h h/\∃g,Den X.K W.bad h g f/\Q g:=λf k=>⟨aw.refl _,d,k,q⟩
 rcases m with m|⟨U,m⟩;subst m;obtain⟨p,o,t,s,k⟩:=L.Ra;subst t;obtain⟨f,x,w⟩:=xO k M;exact Oa (Lp a b j H C h _ _ E G (λf d=>aw h d/\∃g,Den X.K W.bad d g f/\Q g) N I J ⟨p,o,i,f,rfl,rfl,s.w,x,l f w⟩ (hs _ _))
  λ_ O z=>(by obtain⟨n,B,A,q,u,g,y,r⟩:=z;exact⟨n,B,g,A,q,e.trans u,y,r⟩)
 subst m;obtain⟨p,o,t,_,s,k⟩:=L.Q0;subst t;obtain⟨f,x,w⟩:=xO k M;exact Oa (IM a b j H C h _ _ E G (λf d=>aw h d/\∃g,Den X.K W.bad d g f/\Q g) N I J ⟨p,o,i,f,rfl,rfl,s,x,l f w⟩ (hs _ _))
  λ_ O z=>(by obtain⟨n,B,A,q,u,g,y,r⟩:=z;exact⟨n,B,g,A,q,e.trans u,y,r⟩)
end
section
variable{X:Cx}{e:Expr}{es:yai}{te:DE}{t:DA}{pos:Pos}
def Cd:DA:=λ_ Q=>Q []
def tD(c:DE)(b:DA):DA:=λa Q=>c a λx=>b a λa=>Q (x::a)
def ag:S4 X [] Cd:=λ_ _ _ _ H W a Q I _ h=>Calls.spliced_nil ⟨[],H,[],I,.nil,aw.refl H,aj.nil,h⟩
def aa(f:Oo X e te)(k:S4 X es t)(hs:starEach (e::es) X.env=(false,eval e X.env)::starEach es X.env:=by rfl):S4 X (e::es) (tD te t):=by intro pos a s b H W c Q I d h;rw[hs];show wpAny _ _ (spliced ((false,eval e X.env)::backTo pos (starEach es X.env))) _ _ s;refine Calls.spliced_cons (Oa (f a s b H W c _ I d h) λu g l=>?_);obtain⟨v,n,x,m,h,f,j,i⟩:=l;exact Oa (k pos a g b n W c _ m (d.same f) i) λo p k=>(by obtain⟨d,m,c,l,g,b,a,i⟩:=k;exact⟨v::d,m,x::c,l,.cons h g,f.trans b,aj.cons (j.same b) a,i⟩)
theorem aw.upd{H:Hp}(h:H p=none)(n:NT o:=by exact True.intro):aw H (upd H p o):=⟨λb u e _=>by rw[aC (bf e h)];exact e,λb a e=>⟨#[],by rw[aC (bf e h),e];simp⟩,fV.upd n (.inl h)⟩
def Kw(t:DA):DE:=λa Q=>t a λa=>a.length<=sizeLine/\Q (.tup a)
def F3(t:DA):DE:=λa Q=>t a λa=>a.length<=sizeLine/\Q (.lst true a)
def aQ{x1}(h:S4 X es t):Oo X (.Tuple es x1 pos) (Kw t):=by intro a s b H W c Q I d f;refine wpAny_Tuple_spliced (Oa (h pos a s b H W c _ I d f) λh a c=>?_);obtain⟨g,f,j,b,r,i,d,z,q⟩:=c;rw[<- d.len]at z;refine⟨by rw[<- r.length];exact z,?_⟩;have c:f a.heap.objs.size=none:=b.Om.fresh (OP _);refine⟨.ref a.heap.objs.size,L2.upd f a.heap.objs.size (.tup g),_,b.laid (t':=a.toks) (λb u e=>Ph _ e) (OP _) ⟨z,h,r,⟨_,Q7 _ rfl,rfl,_,rfl⟩⟩,rfl,i.trans (aw.upd c),Den.tup (OZ.of aR) (d.same (aw.upd c)),q⟩
def Inv.QQ(I:Inv X pins σ H s):X.K.lookup s.heap.objs.size=none:=by
 cases e:X.K.lookup s.heap.objs.size with
 |none=>rfl
 |some o=>exact absurd (OI (I.Tf _ _ e)) (VG _)
def bN(h:S4 X es t):Oo X (.List es pos) (F3 t):=by
 intro a s b H W c Q I f d;refine wpAny_List_spliced (Oa (h pos a s b H W c _ I f d) λj a c=>?_);obtain⟨i,b,k,d,r,h,g,z,q⟩:=c;rw[<- g.len]at z;refine⟨by rw[<- r.length];exact z,?_⟩;have c:b a.heap.objs.size=none:=d.Om.fresh (OP _);exact⟨.ref a.heap.objs.size,L2.upd b a.heap.objs.size (.lst i),_,d.laid (t':=a.toks) (λb u e=>Ph _ e) (OP _) ⟨z,j,0,r,Q7 _ rfl⟩,rfl,h.trans (aw.upd c),
  Den.lst ((f.same h).fresh c) (.new aR (Inv.QQ d)) (g.same (aw.upd c)),q⟩
end
abbrev DSp:=yar->(D->Prop)->(Value->Prop)->Prop
def aL(K:yac)(sp:DSp):Sp:=λd H Q E=>∃(P:Addr->Prop) (b:yar) (c:D->Prop) (e:Value->Prop),lE K H/\(∀a,P a->∃o,H a=some o)/\aj K (λt a=>t=true∨P a) H b d/\sp b c e ∧
 (∀d v b,aw H b->Den K (λt a=>P a∨(t=true/\∃o,H a=some o)) b d v->c d->Q v b)/\∀c a b,aw H b->e c->E c a b
mutual
def aK:D->D
 |.tup a=>.tup (bC a)
 |.lst _ a=>.lst false (bC a)
 |.obj C b a=>.obj C b (bC a)
 |.TL=>.TL
 |.R4 b a=>.R4 b (bC a)
 |.ra a=>.ra a
 |.OD=>.OD|.bl b=>.bl b|.int i=>.int i|.str x=>.str x|.exc c=>.exc c
def bC:yar->yar
 |[]=>[]
 |d::a=>aK d::bC a
end
section
variable{K:yac}{P:yak}{P':Addr->Prop}{H:Hp}
mutual
theorem Den.aK(h:∀t a,P' a->P t a):∀(d:D) (v:V),Den K P H d v->Den K (λt a=>t=true∨P' a) H (PD.aK d) v
 |.OD,_,q=>by simpa only[Den,PD.aK]using q
 |.bl _,_,q=>by simpa only[Den,PD.aK]using q
 |.int _,_,q=>by simpa only[Den,PD.aK]using q
 |.str _,_,q=>by simpa only[Den,PD.aK]using q
 |.exc _,_,q=>by simpa only[Den,PD.aK]using q
 |.tup f,_,q=>by simp only[Den,PD.aK]at q ⊢;obtain⟨a,b,e,d,c⟩:=q;exact⟨a,b,e,d,aj.aK h f b c⟩
 |.obj C i f,_,q=>by simp only[Den,PD.aK]at q ⊢;obtain⟨a,g,b,e,d,l,k,c⟩:=q;exact⟨a,g,b,e,d,l,k,aj.aK h f b c⟩
 |.TL,_,q=>by simpa only[Den,PD.aK]using q
 |.R4 j f,_,q=>by simp only[Den,PD.aK]at q ⊢;obtain⟨a,o,g,b,e,d,l,k,c⟩:=q;exact⟨a,o,g,b,e,d,l,k,aj.aK h f b c⟩
 |.ra a,_,q=>by simp only[Den,PD.aK]at q ⊢;obtain⟨e,p,b,q⟩:=q;exact⟨e,λz=>z.elim (λz=>by cases z) λz=>p (h _ _ z),b,q⟩
 |.lst t f,_,q=>by simp only[Den,PD.aK]at q ⊢;obtain⟨a,b,e,p,d,c⟩:=q;exact⟨a,b,e,λz=>z.elim (λz=>by cases z) λz=>p (h t a z),.any d.1,aj.aK h f b c⟩
theorem aj.aK(h:∀t a,P' a->P t a):∀(ds:yar) (vs:yaq),aj K P H ds vs->aj K (λt a=>t=true∨P' a) H (PD.bC ds) vs
 |[],_,q=>by simpa only[aj,PD.bC]using q
 |d::ds,_,q=>by simp only[aj,PD.bC]at q ⊢;obtain⟨v,r,e,b,a⟩:=q;exact⟨v,r,e,Den.aK h d v b,aj.aK h ds r a⟩
end
end
def Den.back{K:yac}{W:Own}{H H':Hp}{d:D}{v:V}(b:∀t a,W.bad t a->∃o,H a=some o)(h:Den K (λt a=>W.bad false a∨(t=true/\∃o,H a=some o)) H' d v):Den K W.bad H' d v :=
 h.OB λt a z=>by
  cases t with
  |false=>exact .inl z
  |true=>exact .inr ⟨rfl,b true a z⟩
section
variable{X:Cx}{CX:CXT}{k:Nat}{f:Addr}{fd:FuncData}{ps:yah}{sp:DSp}{x:Str}{p pos:Pos}{e:Expr}{es:yai}{t:DA}
def xl(sp:DSp)(dds:yar)(t:DA):DE:=λa Q=>t a λa=>sp (bC a++dds) Q λ_=>False
def Gb:D->V
 |.OD=>.OD|.bl b=>.bl b|.int i=>.int i|.str x=>.str x|_=>.OD
def CP:D->Prop
 |.tup _=>False|.lst _ _=>False|.exc _=>False|.obj _ _ _=>False|.TL=>False|.R4 _ _=>False|.ra _=>False|_=>True
theorem aj.zF{K:yac}{P:yak}{H:Hp}:∀{dds:yar},(∀d∈dds,CP d)->aj K P H dds (dds.map Gb)
 |[],_=>aj.nil
 |d::r,h=>by
  refine aj.cons ?_ (aj.zF λx a=>h x (Pz _ a));have:=h d RO;cases d with
  |OD=>exact Den.OD
  |bl b=>exact Den.bl b
  |int i=>exact Den.int i
  |str x=>exact Den.str x
  |tup _=>exact this.elim
  |lst _ _=>exact this.elim
  |exc _=>exact this.elim
  |obj _ _ _=>exact this.elim
  |TL=>exact this.elim
  |R4 _ _=>exact this.elim
  |ra _=>exact this.elim
def MV{dds:yar}(F:aI X.prog X.w X.K X.mg X.base CX k f fd ps (aL X.K sp))(g:cE k X.A)(i:Binds X.K fd ps dsv)(h:Vals (dds.map Gb) dsv)(hs:∀d∈dds,CP d)(c:Passes CX X E0)
 (I:Inv X pins σ H s) (a:Rel X W H σ ρ) (r:Vals vs us) (j:aj X.K W.bad H ds vs)
  (q:sp (bC ds++dds) Q λ_=>False):wpAny (model X.prog X.w) X.A (call (.ref f) us) (DP X pins σ W H Q) X.xe s:=by
 refine Oa (EZ (Q:=λv b=>aw H b/\∃d,Den X.K W.bad b d v/\Q d) F g i h c I r ⟨W.bad false,bC ds++dds,Q,λ_=>False,a.tab,a.tracked false,(aj.aK (λ_ _=>Own.Ti) ds vs j).append (aj.zF hs),q,λd v b e c b=>⟨e,d,Den.back a.tracked c,b⟩,λ_ _ _ _ z=>z.elim⟩)
  λu l h=>(by obtain⟨v,j,i,a,g,d,c,b⟩:=h;exact⟨v,j,d,i,a,g,c,b⟩)
def F6{dds:yar}(F:aI X.prog X.w X.K X.mg X.base CX k f fd ps (aL X.K sp))(i:cE k X.A)(m:Gl X x)(j:X.mg x=some (.ref f))(l:PySem.W.keepIn X.K (.ref f)=true)(u:Binds X.K fd ps dsv)(o:Vals (dds.map Gb) dsv)(hs:∀d∈dds,CP d)(g:Passes CX X E0)
  (q:S4 X (e::es) t) (r:(x==("__debug__" : Str))=false:=by decide) (n:starEach (e::es) X.env=(false,eval e X.env)::starEach es X.env:=by rfl) (w:(backTo pos (starEach es X.env)).any (·.1)=false:=by rfl) :
  Oo X (.Call (.Name x p) (e::es) [] pos) (xl sp dds t):=by
 intro a s c H W d Q I b h;refine Vn (qH I m j ?_ r);refine PySem.W.callWith_K (h₀:=X.base) I.ok.mod.Yx l (Oa (q pos a s c H W d _ I b h) λA B ⟨y,H1,C,c,r,a,d,q⟩=>⟨c.Tf,?_⟩) n w;exact Oa (MV F i u o hs g c (b.same a) r d q) λ_ _ z=>z.up a
def dCB(r:yar->(D->Prop)->Prop)(t:DA):DE:=λa Q=>t a λa=>r a Q
def dD(X:Cx)(f:Value)(r:yar->(D->Prop)->Prop):Prop :=
 ∀ (b:yab) (s:Shared) (c:St) (H:Hp) (W:Own) (h:yar) (d:yaq) (g:yad) (Q:D->Prop),Inv X b c H s->(∀t a,W.bad t a->∃o,H a=some o)->Vals d g->aj X.K W.bad H h d->r h Q →
  wpAny (model X.prog X.w) X.A (call f g) (DP X b c W H Q) X.xe s
def dD.of{f:Value}{rd:yar->(D->Prop)->Prop}(h:sV X f r)(k:∀P H ds vs Q,(∀t a,P t a->∃o,H a=some o)->aj X.K P H ds vs->rd ds Q->r vs H λb H'=>aw H H'/\∃d',Den X.K P H' d' b/\Q d'):dD X f rd:=by intro a s c H W ds vs d Q I g r b q;exact Oa (h a s c H vs d _ I r (k _ H ds vs Q g b q)) λ_ m i=>(by obtain⟨a,l,j,c,h,d,b,g⟩:=i;exact⟨a,l,d,j,c,h,b,g⟩)
variable{id T:String}{r:yar->(D->Prop)->Prop}
def aD (m:dD X (.builtin id) r) (l:Gl X x) (j:X.mg x=none) (g:bootBuiltins x=some (.builtin id)) (n:S4 X (e::es) t) (i:x ≠ "__name__" := by decide) (o:(x==("__debug__" : Str))=false:=by decide)
  (u:starEach (e::es) X.env=(false,eval e X.env)::starEach es X.env:=by rfl) (w:(backTo pos (starEach es X.env)).any (·.1)=false:=by rfl) :
  Oo X (.Call (.Name x p) (e::es) [] pos) (dCB r t):=by
 intro a s b H W d Q I c h;refine Vn (cH I l j g ?_ i o);exact PyProof.Rows.callWith_builtin1 (Oa (n pos a s b H W d _ I c h) λh i o=>(by obtain⟨g,y,n,s,j,d,l,q⟩:=o;exact Oa (m a i b y W n g h Q s (c.same d).tracked j l q) λ_ _ z=>z.up d)) u w
end
mutual
noncomputable def QK:D->PyData
 |.OD=>.none
 |.bl b=>.bool b
 |.int i=>.int i
 |.str x=>.str x
 |.tup a=>.tuple (dm a)
 |.lst _ a=>.list (dm a)
 |.exc _=>.none
 |.obj _ _ _=>.none
 |.R4 _ _=>.none
 |.ra _=>.none
 |.TL=>.none
noncomputable def dm:yar->List PyData
 |[]=>[]
 |d::a=>QK d::dm a
end
mutual
def Ue:D->Bool
 |.tup a=>pD a
 |.lst _ a=>pD a
 |.exc _=>false
 |.obj _ _ _=>false
 |.R4 _ _=>false
 |.ra _=>false
 |.TL=>false
 |_=>true
def pD:yar->Bool
 |[]=>true
 |d::a=>Ue d && pD a
end
def eqD(x y:D):Bool:=PyData.eqv (QK x) (QK y)
def okD(x:D):Prop:=Ue x=true/\SeqAt.shaped (QK x)=true
section
variable{X:Cx}{pins:yab}{σ:St}{H:Hp}{s:Shared}{P:yak}
mutual
theorem eS(I:Inv X pins σ H s):∀(d:D) (v:V) (u:Value),Den X.K P H d v->RelV v u->Ue d=true->∃c,Reads s.heap u (QK d) c
 |.OD,_,_,h,r,_=>by have e:=h.Xc;subst e;cases r;rw[QK];exact⟨_,.none⟩
 |.bl b,_,_,h,r,_=>by have e:=h.Wr;subst e;cases r;rw[QK];exact⟨_,.bool b⟩
 |.int i,_,_,h,r,_=>by have e:=h.O6;subst e;obtain⟨t,rfl⟩:=r;rw[QK];exact⟨_,.int i t⟩
 |.str x,_,_,h,r,_=>by have e:=h.Xd;subst e;obtain⟨t,rfl⟩:=r;rw[QK];exact⟨_,.str x t⟩
 |.tup m,_,_,h,r,b=>by rw[Ue]at b;obtain⟨a,d,e,g,i⟩:=h.Ra;subst e;cases r;obtain⟨p,f,⟨o,l,k,n,j⟩,_⟩:=I.tuple g.w;obtain⟨c,q⟩:=mO I m d p i f b;rw[QK];exact⟨c,reads_tuple_at l k j (by simpa using q)⟩
 |.lst _ m,_,_,h,r,b=>by rw[Ue]at b;obtain⟨a,d,e,_,g,i⟩:=h.Q0;subst e;cases r;obtain⟨p,f,⟨o,n,l,k,_,j⟩,_⟩:=I.list g;obtain⟨c,q⟩:=mO I m d p i f b;rw[QK];exact⟨_,reads_list_at l k j (by simpa using q)⟩
 |.exc _,_,_,_,_,b=>by rw[Ue]at b;cases b
 |.obj _ _ _,_,_,_,_,b=>by rw[Ue]at b;cases b
 |.R4 _ _,_,_,_,_,b=>by rw[Ue]at b;cases b
 |.ra _,_,_,_,_,b=>by rw[Ue]at b;cases b
 |.TL,_,_,_,_,b=>by rw[Ue]at b;cases b
theorem mO(I:Inv X pins σ H s):∀(ds:yar) (vs:yaq) (a:yad),aj X.K P H ds vs->Vals vs a->pD ds=true->∃b,ReadsAll s.heap a (dm ds) b
 |[],_,_,h,r,_=>by simp only[aj]at h;subst h;cases r;rw[dm];exact⟨_,.nil⟩
 |d::ds,_,_,h,r,a=>by
  rw[pD,Yo]at a;simp only[aj]at h;obtain⟨v,i,rfl,g,f⟩:=h;cases r with
  |cons e c =>
   obtain⟨b,q⟩:=eS I d v _ g e a.1;obtain⟨j,b⟩:=mO I ds _ _ f c a.2;rw[dm];exact⟨_,.cons q b⟩
end
def LY:RD2:=λx y Q=>okD x/\okD y/\Q (.bl (eqD x y))
def L0:RD2:=λx y Q=>okD x/\okD y/\Q (.bl (!eqD x y))
def HC(j:X.A.units+64<cLine):Qc X (compareOp .Eq) LY:=by intro pins s σ H W x y v u c d Q I _ e f i h q;obtain⟨b,a,q⟩:=q;obtain⟨l,g⟩:=eS I x v c i e b.1;obtain⟨k,c⟩:=eS I y u d h f a.1;exact eq_dataH g c b.2 a.2 j ⟨.bl _,H,_,I,rfl,aw.refl H,Den.bl _,q⟩
def MJ(j:X.A.units+64<cLine):Qc X (compareOp .NotEq) L0:=by intro pins s σ H W x y v u c d Q I _ e f i h q;obtain⟨b,a,q⟩:=q;obtain⟨l,g⟩:=eS I x v c i e b.1;obtain⟨k,c⟩:=eS I y u d h f a.1;exact ne_dataH g c b.2 a.2 j ⟨.bl _,H,_,I,rfl,aw.refl H,Den.bl _,q⟩
def bQ:Qc X (compareOp .Eq) (gP λi j=>.bl (decide (i=j))):=Qc.of MK λP H x y v u Q d c z=>by
 obtain⟨i,j,f,e,q⟩:=qL z;subst f e;have a:=d.O6;have b:=c.O6;subst a b;refine⟨rfl,aw.refl H,_,Den.bl _,?_⟩
 simp_all
def ky:Qc X (compareOp .NotEq) (gP λi j=>.bl (!decide (i=j))):=Qc.of MQ λP H x y v u Q d c z=>by
 obtain⟨i,j,f,e,q⟩:=qL z;subst f e;have a:=d.O6;have b:=c.O6;subst a b;refine⟨rfl,aw.refl H,_,Den.bl _,?_⟩
 simp_all
def dG:D->Bool
 |.OD=>true
 |_=>false
def DY{K:yac}{d:D}{v:V}(h:Den K P H d v):decide (v=.OD)=dG d:=by
 cases d with
 |OD=>have:=h.Xc;subst this;rfl
 |bl b=>have:=h.Wr;subst this;rfl
 |int b=>have:=h.O6;subst this;rfl
 |str b=>have:=h.Xd;subst this;rfl
 |tup d=>obtain⟨a,b,e,_⟩:=h.Ra;subst e;rfl
 |lst _ d=>obtain⟨a,b,e,_⟩:=h.Q0;subst e;rfl
 |exc c=>obtain⟨a,e,_⟩:=h.YK;subst e;rfl
 |obj C f d=>obtain⟨a,i,b,e,_⟩:=h.YJ;subst e;rfl
 |TL=>obtain⟨a,e,_⟩:=h.dic_;subst e;rfl
 |R4 g d=>obtain⟨a,_,_,b,e,_⟩:=h.Xe;subst e;rfl
 |ra a=>have e:=h.ra_.1;subst e;rfl
def ml:Qc X (compareOp .IsNot) (λx y Q=>y=.OD/\Q (.bl (!dG x))):=Qc.of Jj λP H x y v u Q b a ⟨e,q⟩=>by subst e;refine⟨a.Xc,aw.refl H,_,Den.bl _,?_⟩;rw[DY b];exact q
end
section
variable{X:Cx}
def oP:dD X (.builtin "abs") (λds Q=>∃i:Int,ds=[.int i]/\Q (.int (i.natAbs:Int))):=dD.of FX λP H ds a Q _ b ⟨i,e,q⟩=>by
 subst e;obtain⟨v,r,rfl,d,c⟩:∃v r,a=v::r/\Den X.K P H (.int i) v/\aj X.K P H [] r:=by simpa only[aj]using b
 have b:=d.O6;have a:r=[]:=by simpa only[aj]using c
 subst b a;refine⟨i,rfl,aw.refl H,_,Den.int _,?_⟩
 lia
def jN{K:yac}{P:yak}{H:Hp}{x y:D}{vs:yaq}(h:aj K P H [x,y] vs):∃v u,vs=[v,u]/\Den K P H x v/\Den K P H y u:=by simp only[aj]at h;obtain⟨v,r,e,c,u,f,d,b,a⟩:=h;subst d a e;exact⟨v,u,rfl,c,b⟩
def mM{K:yac}{P:yak}{H:Hp}{x:D}{vs:yaq}(h:aj K P H [x] vs):∃v,vs=[v]/\Den K P H x v:=by simp only[aj]at h;obtain⟨v,r,e,a,b⟩:=h;subst b e;exact⟨v,rfl,a⟩
def Kb (b:X.calm=true):dD X (.builtin "min") (λds Q=>∃i j:Int,ds=[.int i,.int j]/\Q (.int (min i j))):=dD.of (Dx b) λP H ds h Q _ a ⟨i,j,e,q⟩=>by
 subst e;obtain⟨v,u,rfl,d,c⟩:=jN a;have g:=d.O6;have f:=c.O6;subst g f;refine⟨i,j,rfl,aw.refl H,_,Den.int _,?_⟩
 lia
def Ka (b:X.calm=true):dD X (.builtin "max") (λds Q=>∃i j:Int,ds=[.int i,.int j]/\Q (.int (max i j))):=dD.of (Dw b) λP H ds h Q _ a ⟨i,j,e,q⟩=>by
 subst e;obtain⟨v,u,rfl,d,c⟩:=jN a;have g:=d.O6;have f:=c.O6;subst g f;refine⟨i,j,rfl,aw.refl H,_,Den.int _,?_⟩;have:(if j > i then j else i)=max i j:=by split<;>lia
 rw[this];exact q
def aY:dD X (.builtin "len") (λds Q=>∃xs,((∃t,ds=[.lst t xs])∨ds=[.tup xs])/\Q (.int (xs.length:Int))):=dD.of xR λP H ds h Q _ g ⟨xs,e,q⟩=>by
 rcases e with⟨i,e⟩| e;subst e;obtain⟨v,rfl,f⟩:=mM g;obtain⟨a,b,e,_,d,c⟩:=f.Q0;subst e;refine⟨a,b,rfl,.inl d,aw.refl H,_,Den.int _,?_⟩;rw[c.len];exact q;subst e;obtain⟨v,rfl,f⟩:=mM g;obtain⟨a,b,e,d,c⟩:=f.Ra;subst e;refine⟨a,b,rfl,.inr d.w,aw.refl H,_,Den.int _,?_⟩;rw[c.len];exact q
noncomputable def U8:D->String
 |.OD => "NoneType" | .bl _ => "bool" | .int _ => "int" | .str _ => "str" | .tup _ => "tuple" | .lst _ _ => "list" | .exc _ => "object" | .obj _ _ _ => "object" | .TL => "dict" | .R4 _ _ => "dict" | .ra _ => "list"
def W5:D->Value
 |.exc c=>.ref c
 |.obj C _ _=>.ref C
 |d=>.type (U8 d)
variable{e:Expr}{te:DE}{p p' pos:Pos}{T:String}{x:Str}
def IG(x:bS P w H h a (.ins C dx fs)):∃b,PySem.W.InstAt h a (PySem.W.instObj C dx) C (some b):=by obtain⟨d,z,c,a,f,n,r,q⟩:=x;obtain⟨b,d,_⟩:=FH.look ⟨a,n,c⟩;exact⟨b,d⟩
def Gp{Q:yaa}{b:Bool}(I:Inv X pins σ H s)(h:Den X.K P H d v)(r:RelV v u)
  (e:PySem.W.kitOne X.K (W5 d) c=some b) (q:∀a,Q (.bool b) {s with toks:=a}):wpAny (model X.prog X.w) A (call (.builtin "isinstance") [u,c]) Q E s:=by
 cases d with
 |OD=>have z:=h.Xc;subst z;cases r;exact PySem.W.kia_one PySem.W.kitx_none I.Tf True.intro e (by lia) q
 |bl y=>have z:=h.Wr;subst z;cases r;exact PySem.W.kia_one PySem.W.kitx_bool I.Tf True.intro e (by lia) q
 |int i=>have z:=h.O6;subst z;obtain⟨t,rfl⟩:=r;exact PySem.W.kia_one PySem.W.kitx_int I.Tf True.intro e (by lia) q
 |str y=>have z:=h.Xd;subst z;obtain⟨t,rfl⟩:=r;exact PySem.W.kia_one PySem.W.kitx_str I.Tf True.intro e (by lia) q
 |tup g =>
  obtain⟨a,f,z,b,_⟩:=h.Ra;subst z;cases r;obtain⟨l,i,⟨o,d,c,n,j⟩,_⟩:=I.tuple b.w;exact PySem.W.kia_one PySem.W.kitx_tuple I.Tf ⟨o,d,c⟩ e (by lia) q
 |lst _ g =>
  obtain⟨a,f,z,_,b,_⟩:=h.Q0;subst z;cases r;obtain⟨l,i,⟨o,n,d,c,_,j⟩,_⟩:=I.list b;exact PySem.W.kia_one PySem.W.kitx_list I.Tf ⟨o,d,c⟩ e (by lia) q
 |exc L =>
  obtain⟨a,z,b,k⟩:=h.YK;subst z;cases r;exact PySem.W.kia_one (Gu k) I.Tf (I.Om a _ b).1 e (by lia) q
 |obj C B g =>
  obtain⟨a,J,f,z,b,_,k,_⟩:=h.YJ;subst z;cases r;obtain⟨w,s⟩:=IG (I.Om a _ b);exact PySem.W.kia_one (PySem.W.kitx_own k.pg k.hd k.at_ k.get k.takes k.obj) I.Tf s e (by lia) q
 |TL =>
  obtain⟨a,z,b⟩:=h.dic_;subst z;cases r;exact PySem.W.kia_one PySem.W.kitx_dict I.Tf (I.Om a _ b).1 e (by lia) q
 |R4 G g =>
  obtain⟨a,o,m,f,z,b,_⟩:=h.Xe;subst z;cases r;obtain⟨_,_,_,_,_,g,_,_,s,k,_⟩:=I.Om a _ b;exact PySem.W.kia_one PySem.W.kitx_dict I.Tf ⟨g,s,k.1⟩ e (by lia) q
 |ra a =>
  obtain⟨z,_,f,b⟩:=h.ra_;subst z;cases r;obtain⟨l,i,⟨o,n,d,c,_,j⟩,_⟩:=I.list b.1;exact PySem.W.kia_one PySem.W.kitx_list I.Tf ⟨o,d,c⟩ e (λz=>nomatch z) q
def Ao(K:yac)(S T:String):PySem.W.kitOne K (.type S) (.type T)=if S=T then some true else if PySem.W.kitMeta T=true then(fastBuiltinMro S).map (·.contains (.type T))else none:=by
 unfold PySem.W.kitOne PySem.W.kitCls PySem.W.subIn
 lia
def Xh (T:String) (d:D):Bool:=U8 d==T || (U8 d == "bool" && T == "int")
def kit_ans (K:yac) (d:D) (b:∀c,d=.exc c->gc K c) (g:∀C ns ds,d=.obj C ns ds->B3 K C) (a:T = "int" ∨ T = "bool" ∨ T = "tuple" ∨ T = "list" ∨ T = "str"):PySem.W.kitOne K (W5 d) (.type T)=some (Xh T d):=by
 by_cases f:∃c,d=.exc c;obtain⟨c,rfl⟩:=f;show PySem.W.kitOne K (.ref c) (.type T)=_;rw[(b c rfl).not T a];show _=some ("object" == T || ("object" == "bool" && T == "int"));rcases a with e|e|e|e|e<;>subst e<;>decide +kernel;by_cases b:∃C ns ds,d=.obj C ns ds;obtain⟨C,ns,ds,rfl⟩:=b;show PySem.W.kitOne K (.ref C) (.type T)=_;rw[(g C ns ds rfl).not T a];show _=some ("object" == T || ("object" == "bool" && T == "int"));rcases a with e|e|e|e|e<;>subst e<;>decide +kernel;have c:W5 d=.type (U8 d):=by cases d<;>first|rfl|exact absurd ⟨_,rfl⟩ f|exact absurd ⟨_,_,_,rfl⟩ b
 rw[c,Ao];unfold Xh;have c:U8 d = "NoneType" ∨ U8 d = "bool" ∨ U8 d = "int" ∨ U8 d = "str" ∨ U8 d = "tuple" ∨ U8 d = "list" ∨ U8 d = "dict" := by cases d<;>first|exact absurd ⟨_,rfl⟩ f|exact absurd ⟨_,_,_,rfl⟩ b|simp[U8]
 generalize U8 d=S at c ⊢;rcases a with e|e|e|e|e<;>subst e<;>rcases c with e|e|e|e|e|e|e<;>subst e<;>decide +kernel
def dIs(T:String)(te:DE):DE:=λa Q=>te a λd=>Q (.bl (Xh T d))
def eR (o:Gl X "isinstance") (n:X.mg "isinstance" = none) (g:Gl X x) (f:X.mg x=none) (l:bootBuiltins x=some (.type T)) (r:T = "int" ∨ T = "bool" ∨ T = "tuple" ∨ T = "list" ∨ T = "str") (q:Oo X e te)
  (m:x ≠ "__name__" := by decide) (t:(x==("__debug__" : Str))=false:=by decide)
  (j:starEach [e,.Name x p'] X.env=(false,eval e X.env)::starEach [.Name x p'] X.env:=by rfl) (u:starEach [.Name x p'] X.env=(false,eval (.Name x p') X.env)::starEach [] X.env:=by rfl) (c:(backTo pos (starEach [.Name x p'] X.env)).any (·.1)=false:=by rfl) :
  Oo X (.Call (.Name "isinstance" p) [e,.Name x p'] [] pos) (dIs T te):=by
 intro b s i H W k Q I a h;have d:PA X [e,.Name x p'] (C3 (HB X te) (C3 (tC (.ty T)) Mb)):=qK q.pe (qK (Jl g f l rfl m t) zq u) j;refine Vn (cH I o n boot_isinstance ?_ (by decide) (by decide));refine PyProof.Rows.callWith_builtin1 (Oa (d pos b s i H (λi f=>∃v d,i=[v,.ty T]/\aw H f/\Den X.K W.bad f d v/\Q (.bl (Xh T d))) I ⟨W,k,_,a,h,λv f d h b g=>⟨v,d,rfl,h,b,g⟩⟩) λw y k=>?_) j c;obtain⟨i,f,i,c,v,d,j,h,b,g⟩:=k;subst j;cases c with
 |cons j a =>
  cases a with
  |cons c a =>
   cases a;cases(show _=Value.type T from c);exact Gp i b j (kit_ans X.K d (λc z=>by subst z;exact b.YK.choose_spec.2.2) (λC A B z=>by subst z;obtain⟨_,_,_,_,_,_,k,_⟩:=b.YJ;exact k) r) λa=>⟨.bl _,f,_,i.tok a,rfl,h,Den.bl _,g⟩
end
section
variable{X:Cx}{pos:Pos}
def Ws.up(g:OK W0 H0 W H)(h:Ws X pins W H E f s'):Ws X pins W0 H0 E f s':=by obtain⟨b,c,d,I,a,q⟩:=h;exact⟨b,c,d,I,g.trans a,q⟩
variable{st:Stmt}{rest:List Stmt}{t u:DS}{e:Expr}{te:DE}
def Ht:DS:=λE a=>E.nx a
def Ks(t u:DS):DS:=λE a=>t {E with nx:=u E} a
def aG:c9 X [] Ht:=λ_ _ a H W b E I r h=>wpAny_execs_nil ⟨W,a,H,I,OK.refl W H,b,r,h⟩
def ah(d:Rq X st t)(j:c9 X rest u):c9 X (st::rest) (Ks t u):=by
 intro a s b H W c E I r h;refine wpAny_execs_cons (Oa (d a s b H W c {E with nx:=u E} I r h) λf i k=>?_);obtain⟨c,d,h,g,b,q⟩:=k;cases f with
 |next =>
  obtain⟨k,f,q⟩:=q;exact Oa (j a i d h c k E g f q) λ_ _ z=>z.up b
 |ret v=>exact⟨c,d,h,g,b,q⟩
 |brk=>exact⟨c,d,h,g,b,q⟩
 |cont=>exact⟨c,d,h,g,b,q⟩
def ak(d:Rq X st t):c9 X [st] t:=by
 intro a s b H W c E I r h;refine wpAny_execs_cons (Oa (d a s b H W c E I r h) λf g q=>?_);cases f with
 |next=>exact wpAny_execs_nil q
 |ret v=>exact q
 |brk=>exact q
 |cont=>exact q
def Kq(te:DE):DS:=λE a=>te a E.rt
def ax(d:Oo X e te):Rq X (.Return (some e) pos) (Kq te):=by intro a s b H W c E I r h;exact wpAny_Return_some (Oa (d a s b H W c _ I r h) λu k h=>(by obtain⟨v,j,d,i,a,g,f,c⟩:=h;exact⟨W,b,j,i,OK.same g,v,d,a,f,c⟩))
def Kl(c:DT)(t u:DS):DS:=λE a=>c a λb=>if b=true then t E a else u E a
def aT(d:TP X c tc)(l:c9 X a t)(k:c9 X b u):Rq X (.If c a b pos) (Kl tc t u):=by
 intro a s c H W f E I r h;refine wpAny_If (Oa (d a s c H W f _ I r h) λd g m=>?_);obtain⟨j,i,b,h⟩:=m;cases d with
 |true=>exact Oa (l a g c j W f E i (r.same b) h) λ_ _ z=>z.up (OK.same b)
 |false=>exact Oa (k a g c j W f E i (r.same b) h) λ_ _ z=>z.up (OK.same b)
def Rel.put{X:Cx}{i:Nat}(r:Rel X W H σ ρ)(hi:i<σ.length)(c:Den X.K W.bad H d v):Rel X (W.drop i) H (σ.set i (some v)) (ρ.set i (some (.val d))) where
 val:=λj x h=>by
  by_cases b:j=i;subst b;refine⟨v,by simp[hi],?_⟩;by_cases a:j<ρ.length;rw[XI a]at h;cases h;exact c.OB λ_ _=>Own.O8
  simp_all
  rw[TC (Ne.symm b)]at h;obtain⟨w,c,d⟩:=r.val j x h;exact⟨w,by simp_all [TC,Ne.symm],d.OB λ_ _=>Own.O8⟩
 own:=λj x h=>by
  by_cases b:j=i
  ·subst b;by_cases a:j<ρ.length
   all_goals simp_all
  rw[TC (Ne.symm b)]at h;obtain⟨a,f,c,d,k,g⟩:=r.own j x h;exact⟨a,f,by show(if j=i then none else W.O j)=_;lia,by rw[TC (Ne.symm b)];exact d,k,by rw[List.length_set];exact g.OB (λ_ _=>Own.O8) (Own.Sf hi)⟩
 inj:=λj k a c d=>by
  have b:(if j=i then none else W.O j)=some a:=c;have f:(if k=i then none else W.O k)=some a:=d;by_cases d:j=i
  lia
  by_cases g:k=i
  lia
  rw[N2 d]at b;rw[N2 g]at f;exact r.inj j k a b f
 kn:=λj a c=>by
  have b:(if j=i then none else W.O j)=some a:=c;by_cases d:j=i
  lia
  rw[N2 d]at b;exact r.kn j a b
 ke:=λj a c=>by
  have b:(if j=i then none else W.O j)=some a:=c;by_cases d:j=i
  lia
  rw[N2 d]at b;exact r.ke j a b
 bt:=r.bt
 st:=r.st
 ent:=r.ent
 tab:=r.tab
theorem OK.drop(W:Own)(H:Hp)(i:Nat):OK W H (W.drop i) H:=⟨rfl,rfl,by lia,λj a h=>by have b:(if j=i then none else W.O j)=some a:=h;grind,by simp_all,id⟩
def Inv.Xi{i:Nat}{x:Str}(I:Inv X pins σ H s)(hi:X.N[i]?=some x):i<σ.length:=by rw[I.len];exact(Ql.mp hi).1
def F4(i:Nat)(te:DE):DS:=λE a=>te a λd=>E.nx (a.set i (some (.val d)))
def aH{x:Str}(i:Nat)(k:X.N.Nodup)(d:Oo X e te)(hi:X.N[i]?=some x:=by rfl)(g:Loc X.env.scope x:=by first|exact Or.inl rfl|exact Or.inr rfl)(hs:swapsWith e (some (.Name x pos')) pos.line X.env=pure false:=by rfl)
  (j:X.fn x=true∨X.env.scope.names.lookup x=some .local:=by first|exact .inl rfl|exact .inr rfl|assumption):Rq X (.Assign [.Name x pos'] e pos) (F4 i te):=by
 intro a s b H W c E I r h;refine wpAny_Assign_Name (Oa (d a s b H W c _ I r h) λu n l=>?_) hs;obtain⟨v,c,d,b,d,a,h,f⟩:=l;exact gF b k hi g d (λm d=>⟨W.drop i,_,c,d,(OK.same a).trans (OK.drop W c i),_,(r.same a).put (Inv.Xi b hi) h,f⟩) j
def Rq.of{t:DS}(h:PS X st ts)(k:∀f H W ρ E,Rel X W H f ρ->f.length=X.N.length->t E ρ->ts ⟨(λc H'=>∃a b,OK W H a H'/\Rel X a H' c b/\E.nx b),(λv H'=>∃a d,OK W H a H'/\Den X.K a.bad H' d v/\E.rt d),
   (λc H'=>∃a b,OK W H a H'/\Rel X a H' c b/\E.bk b),(λc H'=>∃a b,OK W H a H'/\Rel X a H' c b/\E.ct b)⟩ f H):Rq X st t:=by
 intro g s f H W ρ E I r i;refine Oa (h g s f H _ I (k f H W ρ E r I.len i)) λf j q=>?_
 cases f with
 |next=>obtain⟨c,H',g,a,b,f,h,q⟩:=q;exact⟨a,c,H',g,f,b,h,q⟩
 |brk=>obtain⟨c,H',g,a,b,f,h,q⟩:=q;exact⟨a,c,H',g,f,b,h,q⟩
 |cont=>obtain⟨c,H',g,a,b,f,h,q⟩:=q;exact⟨a,c,H',g,f,b,h,q⟩
 |ret u=>obtain⟨v,c,H',g,b,a,d,f,h,q⟩:=q;exact⟨a,c,H',g,f,v,d,b,h,q⟩
def Kz(c:DT)(tb:DS):DS:=λE a=>∃W:Nat->Ro->Prop,(∃m,W m a)/\∀m a,W m a->c a λb=>if b=true then tb {E with nx:=λc=>∃b,b<m/\W b c,ct:=λc=>∃b,b<m/\W b c,bk:=E.nx} a else E.nx a
def mR(g:PassesOwn (model X.prog X.w) X.A X.env X.xe)(p:TP X c tc)(y:c9 X body tb):Rq X (.While c body [] pos) (Kz tc tb):=by
 intro a s i H W j E I r h;obtain⟨o,⟨m,k⟩,b⟩:=h;refine wpAny_While (codeAny_whileLoop (λn l=>∃d f c h,Inv X a f c l/\OK W H d c/\Rel X d c f h/\o n h) ?_ m ⟨W,i,H,j,I,OK.refl W H,r,k⟩);rintro n i ⟨h,d,l,j,k,f,o,c⟩;refine Yu g (Oa (p a i d l h j _ k o (b n j c)) λb i c=>?_);obtain⟨x,w,q,s⟩:=c;have c:=f.trans (OK.same (W:=h) q);cases b with
 |true =>
  refine Yu g (Oa (y a i d x h j _ w (o.same q) s) λf z a=>?_);obtain⟨g,i,l,k,b,a⟩:=a;cases f with
  |next =>
   obtain⟨r,m,n,p,f⟩:=a;exact⟨n,p,g,i,l,r,k,c.trans b,m,f⟩
  |cont =>
   obtain⟨r,m,n,p,f⟩:=a;exact⟨n,p,g,i,l,r,k,c.trans b,m,f⟩
  |brk=>exact⟨g,i,l,k,c.trans b,a⟩
  |ret v=>exact⟨g,i,l,k,c.trans b,a⟩
 |false =>
  exact wpAny_execs_nil ⟨h,d,x,w,c,j,o.same q,s⟩
def K7{X:Cx}(r:Rel X W H σ ρ)(f:OK W H W' H')(a:Addr)(o:HO)(n:Wq o)(q:H a=some o):H' a=some o :=
 f.kp a _ (λi z=>by obtain⟨_,_,c,b,m⟩:=r.kn i a z;rw[q]at b;cases b;exact m.sol n) q n.nt
def K6{X:Cx}(r:Rel X W H σ ρ)(f:OK W H W' H')(a:Addr)(vs:yaq)(q:OZ X.K H a vs):OZ X.K H' a vs:=by
 rcases q with q|q;exact .inl (f.keep a _ (λi e=>by obtain⟨_,_,c,b,m⟩:=r.kn i a e;rw[b]at q;cases q;exact m) q)
 exact .inr q
def K5{X:Cx}(d:Rel X W' H' OE N7)(f:OK W H W' H')(t:Bool)(a:Addr)(vs:yaq)(p:¬W.bad t a)(q:QG X.K H t a vs):¬W'.bad t a/\QG X.K H' t a vs:=by
 have c:∀i,W.O i≠some a:=λi e=>p (.inr (.inl ⟨i,e⟩))
 refine⟨λb=>?_,?_,λz=>⟨f.keep a _ c (q.2 z).1,(q.2 z).2⟩⟩;rcases b with b|⟨i,b⟩| ⟨e,b⟩;rw[f.B]at b;exact p (.inl b);rcases f.new i a b with⟨j,z⟩| z
 simp_all
 rcases q.1 with(q|⟨o,q⟩)|⟨o,N5,n,q,_⟩
 lia
 lia
 rw[(d.kn i a b).1]at q;lia;rw[f.S]at b;exact p (.inr (.inr ⟨e,b⟩));rcases q.1 with(q|⟨o,q⟩)|q;exact .inl (.inl (f.keep a _ c q));exact .inl (.inr ⟨o,f.keep a _ c q⟩);exact .inr q
def Den.fwd{X:Cx}(r:Rel X W H σ ρ)(a:Rel X W' H' OE N7)(f:OK W H W' H')(h:Den X.K W.bad H d v):Den X.K W'.bad H' d v :=
 Den.map (K6 r f) (K5 a f) (K7 r f) d v h
abbrev DG:=D->Ro->(Ro->Prop)->Prop
def Wu(X:Cx)(a:Expr)(g:DG):Prop :=
 ∀ (b:yab) (s:Shared) (c:St) (H:Hp) (W:Own) (f:Ro) (d:D) (v:V) (u:Value) (Q:Ro->Prop),Inv X b c H s->Rel X W H c f->RelV v u->Den X.K W.bad H d v->g d f Q →
  wpAny (model X.prog X.w) X.A (assign a X.env u) (λ_ g=>∃c d a f,Inv X b d a g/\OK W H c a/\Rel X c a d f/\Q f) X.xe s
abbrev Wv:=yar->Ro->(Ro->Prop)->Prop
def uT(X:Cx)(ts:yai)(t:Wv):Prop :=
 ∀ (a:yab) (s:Shared) (b:St) (H:Hp) (W:Own) (c:Ro) (g:yar) (d:yaq) (f:yad) (Q:Ro->Prop),Inv X a b H s->Rel X W H b c->Vals d f->aj X.K W.bad H g d->t g c Q →
  wpAny (model X.prog X.w) X.A (assignInOrder ((assignEach ts X.env).map (·.2)) f) (λ_ g=>∃c d b f,Inv X a d b g/\OK W H c b/\Rel X c b d f/\Q f) X.xe s
theorem aj.fwd{X:Cx}(r:Rel X W H σ ρ)(a:Rel X W' H' OE N7)(f:OK W H W' H'):∀{ds:yar} {vs:yaq},aj X.K W.bad H ds vs->aj X.K W'.bad H' ds vs
 |[],_,h=>by simpa only[aj]using h
 |d::ds,_,h=>by obtain⟨v,q,e,c,b⟩:=h;exact⟨v,q,e,Den.fwd r a f c,aj.fwd r a f b⟩
def o9(i:Nat):DG:=λd a Q=>Q (a.set i (some (.val d)))
def aW{x:Str}(i:Nat)(g:X.N.Nodup)(hi:X.N[i]?=some x:=by rfl)(c:Loc X.env.scope x:=by first|exact Or.inl rfl|exact Or.inr rfl)
  (f:X.fn x=true∨X.env.scope.names.lookup x=some .local:=by first|exact .inl rfl|exact .inr rfl|assumption):Wu X (.Name x pos) (o9 i):=by
 intro a s j H W k d v u Q I r b d h;exact wpAny_assign_Name (gF I g hi c b (λl b=>⟨W.drop i,_,H,_,b,OK.drop W H i,r.put (Inv.Xi I hi) d,h⟩) f)
def tO:Wv:=λb a Q=>b=[]/\Q a
def md(g:DG)(u:Wv):Wv:=λb a Q=>∃d r,b=d::r/\g d a λa=>u r a Q
def qF:uT X [] tO:=by intro a s b H W c j d f Q I r g i h;obtain⟨e,h⟩:=h;exact assignInOrder_nil ⟨W,b,H,c,I,OK.refl W H,r,h⟩
def gf{e:Expr}{u:Wv}(l:Wu X e g)(k:uT X es u)(hs:(assignEach (e::es) X.env).map (·.2)=assign e X.env::(assignEach es X.env).map (·.2):=by rfl):uT X (e::es) (md g u):=by
 intro a s b H W f z w x Q I r i j h;obtain⟨d,n,c,h⟩:=h;subst c;obtain⟨v,g,m,o,c⟩:=j;subst m;cases i with
 |cons j i =>
  rw[hs];refine assignInOrder_cons (Oa (l a s b H W f d v _ _ I r j o h) λ_ h o=>?_);obtain⟨l,b,q,m,p,f,d,j⟩:=o;exact Oa (k a h b q l m n g _ Q p d i (aj.fwd r d f c) j) λ_ y i=>(by obtain⟨g,d,k,h,j,c,a,b⟩:=i;exact⟨g,d,k,h,j,f.trans c,a,b⟩)
def yR{h:Heap}(b:h.IsList l items)(hs:Heap.SameBut it h h')(c:l≠it):h'.IsList l items:=by obtain⟨o,a,r⟩:=b;exact⟨o,(hs.2 l c).trans a,r⟩
theorem wq{a l:Addr}(h:l≠a):∀(n i:Nat) (s:Shared) (Q:yad->Shared->Prop),s.heap.IsListIter a l i->s.heap.IsList l items->i+n<=items.size →
  (∀h',h'.IsListIter a l (i+n)->Heap.SameBut a s.heap h'->Q ((items.toList.drop i).take n) {s with heap:=h'})->wpAny (model prog w) A (draw (.ref a) n) Q E s
 |0,i,s,Q,a,_,_,d=>by
  show wpAny _ _ (pure []) Q E s
  simp_all [wpAny_pure,Heap.SameBut.refl]
 |n+1,i,s,Q,a,c,j,d=>by
  have g:i<items.size:=by omega
  refine NY (wpAny_pyNext_list_item a c (x:=items[i]) (by simp[g]) λQF a f=>?_);refine NY (SD (wq h n (i+1) _ _ a (yR c f h) (by omega) λc b a=>wpAny_pure ?_));have k:items.toList.drop i=items[i]::items.toList.drop (i+1):=by simp[Wi,g]
  have:=d c (by lia) (f.trans a)
  simp_all
def sM{A:Around}{s:Shared}{Q:yad->Shared->Prop}(g:A.handled=none)(a:s.heap.IsList l items)
  (h:∀h',Heap.ExtBut s.heap.objs.size s.heap h'->Q items.toList {s with heap:=h'}):wpAny (model prog w) A (unpackItems (.ref l) items.size none) Q E s:=by
 have f:l≠s.heap.objs.size:=by obtain⟨o,c,_⟩:=a;exact PN (OI c)
 refine NY ?_;refine NY (Zx a.typeIs F.slot_list_iter.lookup ?_);refine wpAny_pure ?_;refine NY (SD (wpAny_pyIter_list a ?_));have b:(s.heap.push {cls:=.type "list_iterator", data:=.fields #[.ref l,rawInt 0]}).IsList l items:=by obtain⟨o,c,r⟩:=a;exact⟨o,Ph _ c,r⟩
 refine NY (SD (wq f items.size 0 _ _ ⟨_,Q7 _ rfl,rfl,rfl⟩ b (by lia) λi c d=>?_));have a:List.take items.size (List.drop 0 items.toList)=items.toList:=by simp_all [List.drop_zero,Yj]
 rw[a];rw[N2 (by simp)];have a:i.IsList l items:=yR b d f;refine NY (SD (wpAny_pyNext_list_end g c a (by simp) λb a=>?_));refine wpAny_pure (h b λb o c e=>a b o c (d.extBut b o c (Ph _ e)))
def tP(n:Nat)(t:Wv):DG:=λd b Q=>∃a,(d=.tup a∨∃ t,d=.lst t a)/\a.length=n/\t a b Q
def tQ{t:Wv}{n:Nat}(C:X.calm=true)(h:uT X es t)(z:(assignEach es X.env).length=n:=by rfl)(G:(assignEach es X.env).findIdx? (·.1)=none:=by rfl):Wu X (.Tuple es k pos) (tP n t):=by
 intro c s i H W x d v u Q I r y B j;obtain⟨E,f,A,j⟩:=j;rcases f with f|⟨M,f⟩;subst f;obtain⟨a,k,q,n,g⟩:=B.Ra;subst q;cases y;obtain⟨J,d,m,L⟩:=I.tuple n.w;refine assign_Tuple_tuple (I.ok.hd C) m (by simp[z,<- A,<- d.length,g.len]) G λp l=>?_
 have w:Inv X c i H {s with heap:=p}:=I.kept (t':=s.toks) λb o e=>l b o (PN (OI e)) e
 exact h c _ i H W x E k _ Q w r (by lia) g j;subst f;obtain⟨a,k,q,_,n,g⟩:=B.Q0;subst q;cases y;obtain⟨J,d,m,L⟩:=I.list n;refine NY (wpAny_standAt ?_);unfold unpack;rw[G,show(assignEach es X.env).length=J.toArray.size by simp[z,<- A,<- d.length,g.len]];refine NY (SD (sM (I.ok.hd C) m.isList λp l=>?_));have w:Inv X c i H {s with heap:=p}:=I.kept (t':=s.toks) λb o e=>l b o (PN (OI e)) e
 exact h c _ i H W x E k _ Q w r (by lia) g j
def Kk(te:DE)(g:DG):DS:=λE a=>te a λd=>g d a E.nx
def KO{e:Expr}{te:DE}(f:Oo X e te)(j:Wu X tg g)(hs:swapsWithSole [tg] e pos.line X.env=pure false:=by rfl)(d:swappedStores [tg] e X.env=pure none:=by rfl)
  (l:(assignEach [tg] X.env).map (·.2)=[assign tg X.env]:=by rfl):Rq X (.Assign [tg] e pos) (Kk te g):=by
 intro a s b H W c E I r h;refine wpAny_Assign_stores (Oa (f a s b H W c _ I r h) λu g m=>?_) hs d;obtain⟨v,o,d,n,h,f,k,i⟩:=m;rw[l];exact Oa (j a g b o W c d v u _ n (r.same f) h k i) λ_ p i=>(by obtain⟨g,d,k,h,j,c,a,b⟩:=i;exact⟨g,d,k,j,(OK.same f).trans c,h,a,b⟩)
def YD(K:yac)(W:Own)(H:Hp)(J:It)(ds:yar):Prop:=∀(f:yak) (b:Hp),(∀a c,OZ K H a c->OZ K b a c)->(∀t a c,¬W.bad t a->QG K H t a c->¬f t a/\QG K b t a c)->(∀a o,Wq o->H a=some o->b a=some o)->∀i,(i<ds.length->J.go i b)/\(∀x a,J.yld i b x a->i<ds.length->aw b a/\∃d,ds[i]?=some d/\Den K f a d x)/\(ds.length<=i->J.stop i b)
def Ug(X:Cx)(i b:Expr)(wi:DA):Prop :=
 ∀ (a:yab) (s:Shared) (d:St) (H:Hp) (W:Own) (c:Ro) (R:yar->Prop),Inv X a d H s->Rel X W H d c->wi c R →
  wpAny (model X.prog X.w) X.A (eval b X.env) (λv j=>wpAny (model X.prog X.w) X.A (pyIter v) (λk b=>∃(f:Addr) (g:yae) (tn:Nat->Heap->Prop) (J:It) (c:Hp) (h:yar),k=.ref f/\Inv X a d c b/\aw H c ∧
   Turn X.prog X.w X.K i J g f tn/\tn 0 b.heap/\(∀b∈g,eO X a c b)/\YD X.K W c J h/\R h) X.xe j) X.xe s
def Ug.of{b:DA}(h:PI X tg iter wi)(k:∀a H W ρ R,Rel X W H a ρ->b ρ R->wi a H λJ H'=>aw H H'/\∃ds,YD X.K W H' J ds/\R ds):Ug X tg iter b:=by
 intro b s a H W ρ R I r c;refine Oa (h b s a H _ I (k a H W ρ R r c)) λv j a=>Oa a λU5 i b=>?_
 obtain⟨a,c,tn,J,H',e,g,T,st,d,f,ds,y,q⟩:=b;exact⟨a,c,tn,J,H',ds,e,g,f,T,st,d,y,q⟩
def Hs(b:DE):DA:=λa R=>b a λd=>∃t a,d=.lst t a/\R a
def aN(h:Oo X iter ti):Ug X tg iter (Hs ti):=by
 refine Ug.of (Jo h.pe) λp H W a R r b=>⟨W,a,_,r,b,λv H1 d h c q=>?_⟩
 obtain⟨k,j,rfl,q⟩:=q;obtain⟨a,b,rfl,l,g,f⟩:=c.UT;refine⟨a,rfl,⟨b,g.1⟩,h,j,?_,q⟩;intro P' o n h m i;have c:SqL X.K o a b:=(h _ a b l g).2.1;have s:=f.len;refine⟨λa=>?_,λx H3 y a=>?_,λa=>⟨b,c,by lia⟩⟩;obtain⟨v,g,_⟩:=f.get (i:=i) (d:=j[i]) (by simp[a]);exact⟨b,v,c,g⟩;obtain⟨a,y⟩:=y;subst a;obtain⟨d,g,a⟩:=f.bF (y b c);exact⟨aw.refl _,d,g,Den.map n h m d _ a⟩
noncomputable def ix(lo step:Int)(n:Nat):yar:=(List.range n).map λ(i:Nat)=>D.int (lo+i*step)
def G3(lo step:Int)(n:Nat):(ix lo step n).length=n:=by simp[ix]
def G2{lo step:Int}{n i:Nat}(h:i<n):(ix lo step n)[i]?=some (D.int (lo+i*step)):=by simp[ix,h]
def J3(lo c:Int)(n:Nat):It:=⟨λi _=>i<n,λi H x a=>a=H/\x=.int (lo+i*c),λi _=>n<=i⟩
def Hj(K:yac)(W:Own)(H:Hp)(lo c:Int)(n:Nat):YD K W H (J3 lo c n) (ix lo c n):=λP' H' _ _ _ i=>by
 rw[G3];refine⟨λh=>h,λx H3 y a=>?_,λh=>h⟩;obtain⟨e,b⟩:=y
 simp_all [aw.refl,G2,Den.int]
def AJ{P:Program}{w:World}{K:yac}{a:Expr}(d:Addr)(lo c:Int)(n:Nat):Turn P w K a (J3 lo c n) [d] d (λi h=>IsRangeIter h d (lo+(i:Nat)*c) ((n:Int) - (i:Nat)) c) where
 mem:=by simp
 obj:=λi h st b f=>by
  have e:b=d:=by simpa using f
  subst e;exact⟨_,st,λv z=>by have a:Data.fields _=Data.cell v:=z;cases a⟩
 keep:=λi h j st k=>k d (by simp) _ st
 item:=by
  intro X p k q m i a s B H E I g st l;subst p k q;obtain⟨A,z,J,y,x,r⟩:=g d (by simp);have W:=Walks.range (prog:=X.prog) (w:=X.w) (I.ok.hd m) d lo c n;refine W.item i s _ _ l st λv j w o C G=>?_
  obtain⟨t,rfl⟩:=o;have L:Inv X a B H {s with heap:=j,toks:=w}:=I.turned (λb o f e=>G b o (by simpa using f) e) A z y x r;exact⟨_,rfl,Ck (s:={s with heap:=j,toks:=w}) (n := "range_iterator") C rfl rfl (by decide) ⟨.int (lo+i*c),H,L,⟨t,rfl⟩,⟨rfl,rfl⟩,C,λb f=>(g b f).1⟩⟩
 done:=by intro X p k q m i a s B H E I g st l;subst p k q;obtain⟨A,z,J,y,x,r⟩:=g d (by simp);exact wpAny_pyNext_range_end (I.ok.hd m) st (by have:n<=i:=l;lia) λj a=>⟨rfl,I.turned (t':=s.toks) (λb o f e=>a b o f e) A z y x r⟩
 self:=λ_ _ _ _ _ st h=>wpAny_pyIter_rangeiter st h
def gQ(lo hi c:Int):Nat:=(Builtin.Range.rangeSize lo hi c).toNat
def wO{a b c:Int}(l:-(2 ^ 40)<=a)(Xj:a<2 ^ 40)(k:-(2 ^ 40)<=b)(ZF:b<2 ^ 40)(j:0<c)(UP:c<2 ^ 20):Builtin.Range.small a b c=true/\0<=Builtin.Range.rangeSize a b c:=by
 have f:a<b->0<=(b - a - 1) / c/\(b - a - 1) / c<=b - a - 1:=λh=>⟨Int.ediv_nonneg (by lia) (by lia),Int.ediv_le_self _ (by lia)⟩
 have d:a<b->(b - a - 1) / c*c<=b - a - 1:=λh=>Int.ediv_mul_le _ (by lia)
 unfold Builtin.Range.small Builtin.Range.rangeSize;rw[N4 (by simp_all)];by_cases h:a<b;obtain⟨i,g⟩:=f h;have f:=d h;rw[N4 h];generalize (b - a - 1) / c=q at i g f ⊢;simp only[Builtin.Range.rangeFitsLong,Yo,Bool.or_eq_true,decide_eq_true_eq,beq_iff_eq];constructor;rw[N4 (by simp_all)];simp
 lia
 lia
 rw[N2 h];simp only[Builtin.Range.rangeFitsLong,Yo,Bool.or_eq_true,decide_eq_true_eq,beq_iff_eq];constructor;simp;lia
 lia
def pE{R:yar->Prop}{lo hi c:Int}{t u:Tok}{a:Nat}(I:Inv X pins σ H s)(l:-(2 ^ 40)<=lo)(k:lo<2 ^ 40)(j:-(2 ^ 40)<=hi)(i:hi<2 ^ 40)(h:0<c)(h6:c<2 ^ 20)
  (q:R (ix lo c (gQ lo hi c))):wpAny (model X.prog X.w) X.A (pyIter (.ref s.heap.objs.size)) (λm d=>∃(f:Addr) (g:yae) (tn:Nat->Heap->Prop) (J:It) (H':Hp) (ds:yar),m=.ref f/\Inv X pins σ H' d/\aw H H' ∧
   Turn X.prog X.w X.K tg J g f tn/\tn 0 d.heap/\(∀b∈g,eO X pins H' b)/\YD X.K W H' J ds/\R ds) E {s with heap:=s.heap.push {cls:=.type "range", data:=.fields #[.int lo t,.int hi u,.int c v]},toks:=a}:=by
 obtain⟨sm,n⟩:=wO l k j i h h6;refine wpAny_pyIter_range (IsRange.new ..) sm ?_;have d:Inv X pins σ H {s with heap:=s.heap.push {cls:=.type "range", data:=.fields #[.int lo t,.int hi u,.int c v]},toks:=a}:=I.kept λb o e=>Ph _ e
 refine⟨(s.heap.push {cls:=.type "range", data:=.fields #[.int lo t,.int hi u,.int c v]}).objs.size,[(s.heap.push {cls:=.type "range", data:=.fields #[.int lo t,.int hi u,.int c v]}).objs.size],_,_,H,_,rfl,
  d.kept (t':=a) λb o e=>Ph _ e,aw.refl H,AJ _ lo c (gQ lo hi c),?_,λb p=>?_,Hj _ _ _ _ _ _,q⟩
 have f:lo+((0:Nat):Int)*c=lo:=by simp
 have a:((gQ lo hi c:Nat):Int) - ((0:Nat):Int)=Builtin.Range.rangeSize lo hi c:=by unfold gQ;lia
 rw[f,a];exact Q7 _ rfl;have e:b=(s.heap.push {cls:=.type "range", data:=.fields #[.int lo t,.int hi u,.int c v]}).objs.size:=by simp_all
 subst e;exact d.VP (OP _) (d.Om.fresh (OP _))
def CR3(i:Int):Prop:=-(2 ^ 40)<=i/\i<2 ^ 40
def Hx(b:DA):DA:=λa R=>b a λa=>∃i j c:Int,a=[.int i,.int j,.int c]/\CR3 i/\CR3 j/\0<c/\c<2 ^ 20/\R (ix i c (gQ i j c))
def Cf(b:DA):DA:=λa R=>b a λa=>∃i j:Int,a=[.int i,.int j]/\CR3 i/\CR3 j/\R (ix i 1 (gQ i j 1))
def Hw(b:DA):DA:=λa R=>b a λa=>∃j:Int,a=[.int j]/\CR3 j/\R (ix 0 1 (gQ 0 j 1))
def Eb {a b c:Expr} {p pos:Pos} (g:Gl X "range") (f:X.mg "range" = none) (i:S4 X [a,b,c] ta) (hs:starEach [a,b,c] X.env=(false,eval a X.env)::starEach [b,c] X.env:=by rfl) (j:(backTo pos (starEach [b,c] X.env)).any (·.1)=false:=by rfl) :
  Ug X tg (.Call (.Name "range" p) [a,b,c] [] pos) (Hx ta):=by
 intro a s b H W d R I r h;refine Call_ (cH I g f boot_range (PyProof.Rows.callWith_type1 (Oa (i pos a s b H W d _ I r h) λB L h=>?_) hs j));obtain⟨a,H1,b,y,d,n,g,f⟩:=h;obtain⟨i,j,c,e,⟨x,s⟩,⟨r,p⟩,o,m,q⟩:=f;subst e;obtain⟨A,C,z,e,l,h,f⟩:∃v u w,a=[v,u,w]/\v=.int i/\u=.int j/\w=.int c:=by
  simp only[aj,Den]at g
  lia
 subst e l h f;cases d with
 |cons f a =>
  cases a with
  |cons d a =>
   cases a with
   |cons c a =>
    cases a;obtain⟨t,rfl⟩:=f;obtain⟨E,rfl⟩:=d;obtain⟨k,rfl⟩:=c;refine call_range_3 (by omega) ?_ (by grind [PyProof.noPylong_small]);exact Oa (pE (W:=W) (R:=R) y x s r p o m q) λU5 G o=>(by obtain⟨l,m,tn,J,p,b,j,i,h,g,f,d,c,a⟩:=o;exact⟨l,m,tn,J,p,b,j,i,n.trans h,g,f,d,c,a⟩)
def wz {a b:Expr} {p pos:Pos} (M:Gl X "range") (L:X.mg "range" = none) (O:S4 X [a,b] ta) (hs:starEach [a,b] X.env=(false,eval a X.env)::starEach [b] X.env:=by rfl) (VS:(backTo pos (starEach [b] X.env)).any (·.1)=false:=by rfl) :
  Ug X tg (.Call (.Name "range" p) [a,b] [] pos) (Cf ta):=by
 intro c s g H W k R I r h;refine Call_ (cH I M L boot_range (PyProof.Rows.callWith_type1 (Oa (O pos c s g H W k _ I r h) λus s1 Oc=>?_) hs VS));obtain⟨vs,H1,f,I1,C,T,N,E⟩:=Oc;obtain⟨i,j,e,⟨a1,a2⟩,⟨b1,b2⟩,q⟩:=E;subst e;obtain⟨v1,u1,rfl,Y,U⟩:=jN N;have j:=Y.O6;have i:=U.O6;subst j i;cases C with
 |cons B d =>
  cases d with
  |cons A d =>
   cases d;obtain⟨t,rfl⟩:=B;obtain⟨t',rfl⟩:=A;refine call_range_2 ?_;exact Oa (pE (W:=W) (R:=R) I1 a1 a2 b1 b2 (by decide) (by decide) q) λU5 s2 OW=>(by obtain⟨G,Q,tn,J,H',f,z,y,x,w,o,n,m,l⟩:=OW;exact⟨G,Q,tn,J,H',f,z,y,T.trans x,w,o,n,m,l⟩)
def eV {a:Expr} {p pos:Pos} (f:Gl X "range") (d:X.mg "range" = none) (g:S4 X [a] ta) (hs:starEach [a] X.env=(false,eval a X.env)::starEach [] X.env:=by rfl) (i:(backTo pos (starEach [] X.env)).any (·.1)=false:=by rfl) :
  Ug X tg (.Call (.Name "range" p) [a] [] pos) (Hw ta):=by
 intro a s b H W c R I r h;refine Call_ (cH I f d boot_range (PyProof.Rows.callWith_type1 (Oa (g pos a s b H W c _ I r h) λy A f=>?_) hs i));obtain⟨w,H1,a,i,c,m,d,b⟩:=f;obtain⟨j,e,⟨h,g⟩,q⟩:=b;subst e;obtain⟨x,rfl,f⟩:=mM d;have b:=f.O6;subst b;cases c with
 |cons c b =>
  cases b;obtain⟨t,rfl⟩:=c;refine call_range_1 ?_;exact Oa (pE (W:=W) (R:=R) i (by decide) (by decide) h g (by decide) (by decide) q) λU5 z n=>(by obtain⟨k,l,tn,J,o,a,j,i,h,g,f,d,c,b⟩:=n;exact⟨k,l,tn,J,o,a,j,i,m.trans h,g,f,d,c,b⟩)
def Cc(wi:DA)(g:DG)(tb:DS):DS:=λE a=>wi a λb=>∃Pv:Nat->Ro->Prop,Pv 0 a ∧
 (∀j x a,b[j]?=some x->Pv j a->g x a λc=>tb {E with nx:=Pv (j+1),ct:=Pv (j+1),bk:=E.nx} c)/\∀a,Pv b.length a->E.nx a
def bI(w:PassesOwn (model X.prog X.w) X.A X.env X.xe)(hc:X.calm=true)(hi:Ug X tg iter wi)(hg:Wu X tg g)(j:c9 X body tb)
  (hs:∀x,foldedSetIterable iter X.env x=pure x:=by intro _;rfl):Rq X (.For tg iter body [] pos) (Cc wi g tb):=by
 intro a s g H W l E I r h;refine wpAny_For (Oa (hi a s g H W l _ I r h) λv s1 b=>Oa b λU5 s2 b=>?_) hs;obtain⟨it,G,tn,J,E,k,e,y,Q,T,s,m,p,Pv,q,f,pd⟩:=b;subst e;have d:=r.same Q;have Y:∀{c:Hp},(∀b∈G,c b=none)->∀b∈G,eO X a c b:=λh b j=>⟨h b j,(m b j).2⟩
 refine codeAny_forLoop_any (λn h=>∃i o B c C,n=k.length - i/\i<=k.length/\Inv X a B c h/\tn i h.heap/\(∀b∈G,c b=none)/\OK W E o c/\Rel X o c B C/\Pv i C) ?_ k.length ⟨0,W,g,E,l,by simp,QI _,y,s,λb j=>(m b j).1,OK.refl W E,d,q⟩;rintro n s3 ⟨i,W3,J,M,L,en,hle,I3,r,y,z,N,p3⟩;obtain⟨g,h,ys⟩:=p W3.bad M (K6 d z) (K5 N z) (K7 d z) i;by_cases QH:i<k.length
 ·refine Yu w (Oa (T.item X rfl rfl rfl hc i a s3 J M X.xe I3 (Y y) r (g QH)) λrr s4 ⟨u,O,d⟩=>?_);subst O;refine Yu w (Oa d λ_ q A=>?_);obtain⟨x,m,I5,s,p,U,g⟩:=A;obtain⟨l,d,I,Rr⟩:=h x m p QH;have h:=I5.pinned (Y g) (T.obj _ _ U);have g:=N.same l;refine Yu w (Oa (hg _ q J m W3 L d x u _ h g s Rr (f i d L I p3)) λ_ h A=>?_);obtain⟨q,f,x,g,s,f6,m,p⟩:=A;refine Yu w (Oa (j _ h f x q g _ s m p) λf s7 g=>?_);obtain⟨p,I,q,x,h,g⟩:=g;have s:OK W E p q:=z.trans ((OK.same l).trans (f6.trans h));have h:OK W H p q:=(OK.same Q).trans s;have again:∀{l:Ro},Rel X p q I l->Pv (i+1) l->∃m,m<n/\∃i o B c C,m=k.length - i/\i<=k.length/\Inv X a B c s7/\tn i s7.heap/\(∀b∈G,c b=none)/\OK W E o c/\Rel X o c B C/\Pv i C:=fun {l} c m=>by
   refine⟨k.length - (i+1),by lia,i+1,p,I,q,l,rfl,QH,x.QN,T.keep _ _ _ U λb j o e=>(x.pin (b,o) (RA _ (RA _ (jP j e)))).1,λb j=>?_,s,c,m⟩;obtain⟨o,e,d⟩:=T.obj _ _ U b j;exact(x.pin (b,o) (RA _ (RA _ (jP j e)))).2.1
  cases f with
  |next=>obtain⟨l,c,b⟩:=g;exact again c b
  |cont=>obtain⟨l,c,b⟩:=g;exact again c b
  |brk=>obtain⟨l,c,g⟩:=g;exact⟨p,I,q,x.QN,h,l,c,g⟩
  |ret v=>obtain⟨b,f,c,d,g⟩:=g;exact⟨p,I,q,x.QN,h,b,f,c,d,g⟩
 have e:i=k.length:=by lia
 refine Yu w (Oa (T.done X rfl rfl rfl hc i a s3 J M X.xe I3 (Y y) r (ys (by lia))) λrr s4 A=>?_);obtain⟨O,a⟩:=A;subst O;subst e;exact wpAny_execs_nil ⟨W3,J,M,a,(OK.same Q).trans z,L,N,pd L p3⟩
def Kp(i j:Nat)(b:DA):DS:=λE a=>b a λb=>∃d e,b=[d,e]/\E.nx ((a.set i (some (.val d))).set j (some (.val e)))
def KQ{x y:Str}{a b:Expr}{kt k2 YC}(i j:Nat)(A:X.calm=true)(B:X.N.Nodup)(C:i≠j)(o:S4 X [a,b] ta)(hi:X.N[i]?=some x:=by rfl)(n:X.N[j]?=some y:=by rfl)
  (w:X.env.scope.names.lookup x=some .local:=by rfl) (p:X.env.scope.names.lookup y=some .local:=by rfl)
  (z:swappedStores [.Tuple [.Name x px,.Name y py] kt pt] (.Tuple [a,b] k2 YC) X.env=pure (some [x,y]):=by rfl)
  (hs:swapsWithSole [.Tuple [.Name x px,.Name y py] kt pt] (.Tuple [a,b] k2 YC) pos.line X.env=pure false:=by rfl) :
  Rq X (.Assign [.Tuple [.Name x px,.Name y py] kt pt] (.Tuple [a,b] k2 YC) pos) (Kp i j ta):=by
 have l:PA X [a,b] (λb H Q=>∃W c h,Rel X W H b c/\ta c h/\∀d a g,aw H a->aj X.K W.bad a g d->h g->Q d a):=by intro pos f s b H Q I q;obtain⟨W,c,h,r,m,k⟩:=q;exact Oa (o pos f s b H W c h I r m) λG J s=>(by obtain⟨d,a,g,x,h,f,m,o⟩:=s;exact⟨d,a,x,h,k d a g f m o⟩)
 refine Rq.of (LX A B hi n C w p l z hs) λb H W c E r k h=>?_
 refine⟨W,c,_,r,h,λd a g f m q=>?_⟩;obtain⟨d,e,rfl,q⟩:=q;obtain⟨v,u,rfl,g,d⟩:=jN m;have h:i<b.length:=by rw[k];exact(Ql.mp hi).1
 have c:j<(b.set i (some v)).length:=by rw[List.length_set,k];exact(Ql.mp n).1
 have b:=(r.same f).put h g;exact⟨v,u,rfl,_,_,(OK.same f).trans ((OK.drop W a i).trans (OK.drop _ a j)),b.put c (d.OB λ_ _=>Own.O8),q⟩
end
def dA(N:yah)(ds:yar):Ro:=ds.map (λd=>some (.val d))++List.replicate (N.length - ds.length) none
theorem Rel.start{X:Cx}{P:Addr->Prop}{H:Hp}(c:∀a,P a->∃o,H a=some o)(h:aj X.K (λt a=>t=true∨P a) H ds vs)(n:X.OV=H)(b:lE X.K H):Rel X ⟨P,λ_=>none,λa=>∃o,H a=some o⟩ H (start N vs) (dA N ds) where
 val:=λi d e=>by
  unfold dA at e;have l:=h.len;by_cases m:i<ds.length
  ·rw[UE (by simp_all),Pw]at e;cases q:ds[i]? with
   |none=>simp_all
   |some g =>
    have f:g=d:=by simp_all
    subst f;obtain⟨v,p,f⟩:=h.get q;refine⟨v,?_,f.OB λk a z=>?_⟩;unfold L2.start
    simp_all [UE,Pw]
    ·rcases z with z|⟨j,z⟩| ⟨z,_⟩
     all_goals lia
  simp_all [Vg,zCv]
 own:=λi d e=>by unfold dA at e;grind
 inj:=by lia
 kn:=by lia
 ke:=by lia
 bt:=c
 st:=λ_ z=>z
 ent:=by simp_all [aw.refl]
 tab:=b
def bS.there(x:bS P w H h a o):∃u,h.get? a=some u:=by
 cases o with
 |lst a=>obtain⟨_,_,_,_,e⟩:=x;exact⟨_,e⟩
 |tup a=>obtain⟨_,_,_,a,e,_⟩:=x;exact⟨a,e⟩
 |dK b=>obtain⟨_,_,_,_,a,_,_,e,_⟩:=x;exact⟨a,e⟩
 |dT b=>obtain⟨_,_,_,_,a,_,_,e,_⟩:=x;exact⟨a,e⟩
 |set S n=>obtain⟨a,_,_,_,e,_⟩:=x;exact⟨a,e⟩
 |ins C i b=>obtain⟨_,_,_,e,_⟩:=x;exact⟨_,e⟩
 |own y=>exact x
 |xd b=>obtain⟨_,⟨a,_,_,e,_⟩,_⟩:=x;exact⟨a,e⟩
 |rng lo g=>obtain⟨_,_,_,e⟩:=x;exact⟨_,e⟩
 |frz a u=>obtain⟨e,_⟩:=x;exact⟨a,e⟩
 |TJ d=>exact⟨_,x⟩
 |met f y=>exact⟨_,x⟩
 |ext c=>obtain⟨_,e,_⟩:=x;exact e
def QJ.keptT {h' : Heap} (x : QJ P w H h) (k : ∀ b u, (∃ o, H b = some o) -> h.get? b = some u -> h'.get? b = some u) : QJ P w H h' := λa o e =>
 (x a o e).Sa (λb u a q => k b u (by
  rcases a with z | z;subst z; exact ⟨o, e⟩;exact ⟨_, z⟩) q) (λ_ q => q) λ_ _ q => q
structure Fl(P:Program)(w:World)(l:List Env)(h₀:Heap)(OV H:Hp)(B h:Heap):Prop where
 un:Un (SF l) [] OV H h₀ h
 Om:QJ P w H h
 fr:∀b∈SF l,OV b=none/\∃o,h₀.get? b=some o/\∀vs,o.data ≠ .fields vs
 X4:∀b o,h.get? b=some o->((∃u,H b=some u)∨∃ o',h₀.get? b=some o')->b∉SF l->B.get? b=some o
section
variable{P:Program}{w:World}{l:List Env}{h₀:Heap}{OV H:Hp}{B h h':Heap}
theorem Fl.free(F:Fl P w l h₀ OV H B h){b:Addr}(a:b∈SF l):H b=none:=by obtain⟨n,o,e,_⟩:=F.fr b a;exact F.un.free b o e n (by simp)
def Fl.step(F:Fl P w l h₀ OV H B h)(st:B.StaysIn h')(i:h.UpToSlots h'):Fl P w l h₀ OV H B h':=by
 have g:∀b o,b∈SF l->h₀.get? b=some o->∃a,h'.get? b=some {o with slots:=a}:=λb o a e=>by obtain⟨n,d,c,j⟩:=F.fr b a;rw[e]at c;cases c;obtain⟨r,f⟩:=F.un.slot b o e n a (by simp);obtain⟨m,k⟩:=i b _ f j;exact⟨m,k⟩
 have i:∀b o,h.get? b=some o->((∃u,H b=some u)∨∃ d,h₀.get? b=some d)->b∉SF l->h'.get? b=some o:=λb o e c n=>st b o (F.X4 b o e c n)
 refine⟨⟨λb o e n a j=>i b o (F.un.keep b o e n a j) (.inr ⟨o,e⟩) a,λb o e n a j=>g b o a e,F.un.free,λb o e j=>?_,F.un.Td,F.un.SJ,F.un.Te⟩,PD.QJ.keptT F.Om (λb u p e=>i b u e (.inl p) λz=>?_),F.fr,λb o e c n=>?_⟩;by_cases a:b∈SF l;obtain⟨m,k⟩:=g b o a e;exact⟨_,k⟩;obtain⟨d,f⟩:=F.un.there b o e j;exact⟨d,i b d f (.inr ⟨o,e⟩) a⟩;obtain⟨o,q⟩:=p;rw[F.free z]at q;cases q;have:∃a,h.get? b=some a:=by
  rcases c with⟨u,c⟩| ⟨d,c⟩;exact PD.bS.there (F.Om b u c);exact F.un.there b d c (by simp)
 obtain⟨a,f⟩:=this;have q:=i b a f c n;rw[e]at q;cases q;exact F.X4 b o f c n
end
def CX1(P:Program)(w:World):CXT:=λa H s E e b=>∃(d c:Addr) (f:Hp) (B:Heap) (g:Value),e=.ref d/\b.os=s.os/\AllBare b.gens/\Fl P w a s.heap H f B b.heap/\aw H f/\f d=none/\s.heap.get? d=none ∧
 Heap.FlyingW B a d (.ref c) g b.heap/\E (.ref c) none f
def HD:Passes (CX1 P w) X E0:=λ_ _ _ _ _ _ _ h=>by obtain⟨_,_,_,_,_,_,_,_,_,_,_,_,_,z⟩:=h;exact z.elim
def MadeX(X:Cx)(Ed:Value->Prop):Prop:=∀(a:yab) (b:St) (H:Hp) (W:Own) (f:Ro) (s:Shared) (e c:Addr) (g:yad) (d:Heap),Inv X a b H s->Rel X W H b f->Heap.MadeExcOf s.heap d e (.ref c) g->Ed (.ref c)->X.xe (.ref e) {s with heap:=d}
def d8(X:Cx)(Ed:Value->Prop):Prop:=∀(a:yab) (b:St) (H:Hp) (W:Own) (c:Ro) (s:Shared) (e:Value) (d:Shared),Inv X a b H s->Rel X W H b c->CX1 X.prog X.w X.stack H s (λc _ _=>Ed c) e d->X.xe e d
section
variable{P:Program}{w:World}{K:yac}{mg:yal}{base:Heap}{N:yah}{qual:Str}{sc:Scope}{f:Addr}{cd:Value}{A:Around}{outer:List Env}{Oy:Shared}{OV:Hp}{E:XK}
def xU{B:Heap}(I:Inv (dE (CX1 P w) P w K mg base N qual sc f cd A outer Oy OV E) pins σ H s)(l:aw OV H)(k:H e=none)(g:Oy.heap.get? e=none)
  (p:∀b o,s.heap.get? b=some o->((∃u,H b=some u)∨∃ a,Oy.heap.get? b=some a)->b∉SF (envOfC qual sc Oy.heap.objs.size f cd::outer)->B.get? b=some o)
  (h:Heap.FlyingW B outer e (.ref c) a0 h') (i:s.heap.UpToSlots h') (m:E (.ref c) none H):CX1 P w outer OV Oy E (.ref e) {s with heap:=h'}:=by
 have j:∀b,((∃u,H b=some u)∨∃ a,Oy.heap.get? b=some a)->b∉SF outer->b∉SF (envOfC qual sc Oy.heap.objs.size f cd::outer):=λb c n z=>by
  rcases c with⟨u,c⟩| ⟨a,c⟩;have:=I.Tg b z
  lia
  rcases Ov.mp (I.Sb b z)with q|q;have t:=OI c;have r:Oy.heap.objs.size<=b:=by rw[q];exact I.ok.above
  lia
  exact n q
 have F:Fl P w outer Oy.heap OV H B s.heap:=⟨I.base,I.Om,λb a=>⟨I.ok.Yz b a,by obtain⟨_,o,e,d⟩:=I.ok.RT.mem a;exact⟨o,e,d⟩⟩,λb o e c n=>p b o e c (j b c n)⟩
 exact⟨e,c,H,B,a0,rfl,I.os,I.bare,F.step h.1 i,l,k,g,h,m⟩
def MI{Ed:Value->Prop}(m:∀c a H',aw OV H'->Ed c->E c a H'):MadeX (dE (CX1 P w) P w K mg base N qual sc f cd A outer Oy OV E) Ed:=by
 intro g p H W x s e c y h' I r c l;refine wpAny_leaves_madeW (base:=PySem.W.hideAll s.heap (SF (envOfC qual sc Oy.heap.objs.size f cd::outer))) (h:=s.heap) (outer:=outer) I.ok.frames rfl (λb o q=>PySem.W.of_hideAll _ q)
  (PySem.W.funFrames_hide I.stack λa d b h=>Z8.mpr ⟨a,d,h⟩) c λn t i _ _ h=>?_
 have j:∀{a:Heap},(∀b o,a.get? b=some o->∃d,s.heap.get? b=some d)->a.get? e=none:=fun {a} k=>by
  cases q:a.get? e with
  |none=>rfl
  |some o =>
   obtain⟨d,a⟩:=k e o q;rw[c.new]at a
   lia
 refine xU (s:=s) (h':=n) I r.ent ?_ (j λb o q=>I.base.there b o q (by intro z;cases z)) (λb o q _ n=>PySem.W.hideAll_get _ q n) i (λb o q d=>?_) (m _ _ _ r.ent l);cases q:H e with
 |none=>rfl
 |some u =>
  obtain⟨o,z⟩:=PD.bS.there (I.Om e u q)
  simp_all
 exact h b o (c.keeps b o q) d
def Jk{Ed:Value->Prop}(l:∀c a H',aw OV H'->Ed c->E c a H'):d8 (dE (CX1 P w) P w K mg base N qual sc f cd A outer Oy OV E) Ed:=by
 intro d p H W t s e h I r b;obtain⟨e,c,H',B,x,rfl,os,a,F,sm,j,i,c,k⟩:=b;refine wpAny_leaves_onW (outer:=outer) I.ok.frames rfl c λm g c=>?_
 have n:=I.VO os F.un F.Om a (by intro b z;cases z);refine xU (s:=h) (h':=m) n (r.ent.trans sm) j ?_ (λb o q z n=>F.X4 b o q (z.elim .inl λh=>(by obtain⟨a,z⟩:=h;exact .inr (I.base.there b a z (by intro q;cases q)))) n) g c (l _ _ _ (r.ent.trans sm) k);cases q:Oy.heap.get? e with
 |none=>rfl
 |some o =>
  obtain⟨a,u⟩:=I.base.there e o q (by intro z;cases z)
  lia
end
set_option tactic.hygienic true in
def Iv{K:yac}(X:K.In h)(q:PySem.W.excIn K C bmB newId=true):∃tl N nm c bs d sn sub ab col dd k0 k1 k2 k3 k5 mN,
  h.get? C=some (excClassObj nm c C N bs tl d sn sub ab col dd k0 k1 k2 k3 k5 newId)/\h.Ns N mN/\mN "__init__" = none/\OwnTail h bmB tl:=by
 unfold PySem.W.excIn at q;split at q
 next dd cd sl ho =>
  split at q
  next C' tl k0 k1 k2 k3 n k5 hm hs =>
   simp only[Yo,beq_iff_eq,Zn]at q;obtain⟨⟨⟨⟨⟨i,f⟩,a⟩,h⟩,e⟩,b⟩:=q;subst i f;cases cd with
   |mk nm bs g f c d sn sub ab col j =>
    simp only at hm a e b;subst hm a;have a:sl=#[k0,k1,k2,k3,some (.builtin n),k5]:=by apply Array.ext';rw[hs]
    subst a;exact⟨tl,f,nm,c,bs,d,sn,sub,ab,col,dd,k0,k1,k2,k3,k5,_,X _ _ ho,.of_isNs (PySem.W.isNs_of_in X e),PySem.W.nsMap_none_of_in X e b,PySem.W.tail_of_in X h⟩
  next=>cases q
 next=>cases q
abbrev Dc:yad:=[.type "ValueError", .type "Exception", .type "BaseException", .type "object"]
section
variable{X:Cx}{pos:Pos}
def yv {e:Expr} {es:yai} (i:MadeX X Ed) (j:Gl X x) (c:X.mg x=some (.ref C)) (q:PySem.W.excIn X.K C Dc "ValueError.__new__" = true) (l:X.calm=true) (m:S4 X (e::es) t)
  (f:starEach (e::es) X.env=(false,eval e X.env)::starEach es X.env:=by rfl) (u:(backTo cpos (starEach es X.env)).any (·.1)=false:=by rfl) (p:(x==("__debug__" : Str))=false:=by decide) :
  Rq X (.Raise (some (.Call (.Name x np) (e::es) [] cpos)) none pos) (λ_ ρ=>t ρ λds=>ds.length<=sizeLine/\Ed (.ref C)):=by
 intro a s d H W ρ E I r h;obtain⟨e,N,nm,g,bs,k,sn,sub,ab,col,dd,k0,k1,k2,k3,k5,mN,o,n,b,T⟩:=Iv I.ok.mod.Yx q;have FB:=PySem.F.excBase_ValueError;refine wpAny_Raise_call_subT (C:=C) (nm:=nm) (q:=g) (N:=N) (bs:=bs) (bm:=e) (hdct:=k) (sn:=sn) (sub:=sub) (ab:=ab) (col:=col) (dd:=dd) (k0:=k0) (k1:=k1) (k2:=k2) (k3:=k3) (k5:=k5) FB (mN:=mN) (T.hasType FB.hasBase) (I.ok.hd l)
  (by rw[f];show(false || (backTo cpos (starEach es X.env)).any (·.1))=false;rw[u];rfl) b (qH I j c ⟨rfl,?_⟩ p)
 have b:=m cpos a s d H W ρ _ I r h;rw[f]at b ⊢;refine Calls.evalArgs_plain (Oa b λe f l=>?_);obtain⟨w,m,ds,b,g,k,j,z,h⟩:=l;exact⟨rfl,by rw[<- j.len,g.length]at z;exact z,b.bk _ _ o,n.keeps b.bk,T.keeps b.bk,λg j c=>i a d m W ρ f j C e g b (r.same k) c h⟩
def mQ{st:Stmt}:Rq X st (λ_ _=>False):=λ_ _ _ _ _ _ _ _ _ h=>h.elim
theorem Rel.wish(r:Rel X W H σ ρ)(E:yaa):Rel (X.wish E) W H σ ρ:=⟨r.val,r.own,r.inj,r.kn,r.ke,r.bt,r.st,r.ent,r.tab⟩
def Rel.Qu(r:Rel (X.wish E) W H σ ρ):Rel X W H σ ρ:=⟨r.val,r.own,r.inj,r.kn,r.ke,r.bt,r.st,r.ent,r.tab⟩
theorem Ws.Qu(h:Ws (X.wish XE) pins W H E f s'):Ws X pins W H E f s':=by
 obtain⟨b,c,d,I,a,q⟩:=h;refine⟨b,c,d,I.Qu,a,?_⟩;cases f with
 |next=>obtain⟨a,r,q⟩:=q;exact⟨a,r.Qu,q⟩
 |brk=>obtain⟨a,r,q⟩:=q;exact⟨a,r.Qu,q⟩
 |cont=>obtain⟨a,r,q⟩:=q;exact⟨a,r.Qu,q⟩
 |ret u=>exact q
theorem c9.nox{st:List Stmt}{t:DS}(h:c9 X.nox st t):c9 X st t:=λa s b H W c E I r d =>
 SV (h a s b H W c E (I.wish _) (r.wish _) d) (λ_ _ q=>q.Qu) λ_ _ z=>False.elim z
def Nm(K:yac)(C:Addr)(i:Nat)(sp:DSp)(t:DA)(a:DS):DS:=λE b=>t b λc=>sp (bC c) (λ_=>E.nx b) λd=>∃c,d=.ref c/\gc K c/\PySem.W.exmOne K (.ref c) (.ref C)=some true ∧
 a ⟨λa=>E.nx (a.set i none),E.rt,λa=>E.bk (a.set i none),λa=>E.ct (a.set i none)⟩ (b.set i (some (.val (.exc c))))
def Nl(K:yac)(c:Value)(te:DE):DE:=λa Q=>te a λd=>∃b,PySem.W.kitOne K (W5 d) c=some b/\Q (.bl b)
end
def BQ(base:Heap)(l:List Env)(e:Addr)(cls a0:Value)(h:Heap):Prop:=base.StaysIn h/\base.get? e=none/\h.FunFrames base l/\∃a,h.TracedAtW base e cls a0 a
section
variable{M:Model}{A:Around}{E:yaa}{s:Shared}{base:Heap}{l outer:List Env}{env:Env}{e L:Addr}{cls a0:Value}
def IX{Q:Unit->Shared->Prop}(d:A.frames=some (env::outer))(f:env.frame=some L)(R:BQ base (env::outer) e cls a0 s.heap)
  (h:∀h',BQ base (env::outer) e cls a0 h'->s.heap.UpToSlots h'->Q () {s with heap:=h'}):wpAny M A (noteFrame (.ref e) env) Q E s:=by
 obtain⟨y,p,x,q,u,c,T,w,t,k,o,g3,j,z,r,i,g,b⟩:=id R;by_cases a:(q==rawInt L)=true;have m:q=rawInt L:=by simp_all
 subst m;exact wpAny_noteFrame_againW (base:=base) (cls:=cls) (a0:=a0) f ⟨u,c,T,w,t,k,o,g3,j,z,r,i,g,b⟩ (h _ R (Heap.UpToSlots.refl _));obtain⟨q,m⟩:=o;subst q;unfold noteFrame;simp only[f];refine NY (R9 k g3 j ?_);refine NY (R9 i g b ?_);rw[N2 a];refine NY (Zz i g (WM.mp b).1 ?_);have Q1:∀b,b≠T->(s.heap.update T (Obj.mapFields (·.setIfInBounds 3 Value.none))).get? b=s.heap.get? b:=λb a=>Vj _ _ (Ne.symm a)
 have n:∀b o,s.heap.get? b=some o->(∀c,o.data ≠ .fields c)->b≠T:=λb o a c q=>by simp_all
 refine wpAny_entryW (base:=base) d (x.of_keeps (by simp_all)) f ((Q1 e (Ne.symm r)).trans k) (λb o a=>(Q1 b (by lia)).trans (y b o a)) p g3 (WM.mp j).1 m λh' j=>?_
 obtain⟨i,g,f,d⟩:=j;exact h h' ⟨i,p,g,_,f⟩ λb o a c=>d b o (by simp_all) c
def Gw{Q:Unit->Shared->Prop}(a:A.frames=some (env::outer))(b:env.frame=some L)(R:BQ base (env::outer) e cls a0 s.heap)
  (h:∀h',Heap.FlyingW base outer e cls a0 h'->s.heap.UpToSlots h'->Q () {s with heap:=h'}):wpAny M A (leaving env (.ref e)) Q E s:=by
 refine NY (IX a b R λj f b=>?_);obtain⟨d,g,c,k,a⟩:=f;refine wpAny_setFlight_noneW (base:=base) d c a λi f a d c=>?_
 obtain⟨_,_,a⟩:=a;exact h i ⟨f,g,a,d⟩ (b.trans λb o d a=>⟨o.slots,c b o d a⟩)
end
def BZ(X:Cx)(Ed:Value->Prop):Prop:=∀(b:yab) (f:St) (H:Hp) (W:Own) (g:Ro) (s a:Shared) (d c:Addr) (e:Hp) (B:Heap) (h:Value),Inv X b f H s->Rel X W H f g->a.os=s.os->AllBare a.gens->Fl X.prog X.w X.stack s.heap H e B a.heap->aw H e->e d=none->s.heap.get? d=none →
 BQ B X.stack d (.ref c) h a.heap->Ed (.ref c)->X.xe (.ref d) a
section
variable{P:Program}{w:World}{K:yac}{mg:yal}{base:Heap}{N:yah}{qual:Str}{sc:Scope}{f:Addr}{cd:Value}{A:Around}{outer:List Env}{Oy:Shared}{OV:Hp}{E:XK}
def ME{Ed:Value->Prop}(l:∀c a H',aw OV H'->Ed c->E c a H'):BZ (dE (CX1 P w) P w K mg base N qual sc f cd A outer Oy OV E) Ed:=by
 intro d p H W t s h e c H' B x I r os a F sm j i R k;refine Gw (outer:=outer) I.ok.frames rfl R λm g c=>?_
 have n:=I.VO os F.un F.Om a (by intro b z;cases z);refine xU (s:=h) (h':=m) n (r.ent.trans sm) j ?_ (λb o q z n=>F.X4 b o q (z.elim .inl λh=>(by obtain⟨a,z⟩:=h;exact .inr (I.base.there b a z (by intro q;cases q)))) n) g c (l _ _ _ (r.ent.trans sm) k);cases q:Oy.heap.get? e with
 |none=>rfl
 |some o =>
  obtain⟨a,u⟩:=I.base.there e o q (by intro z;cases z)
  lia
end
section
variable{P:Program}{w:World}{K:yac}{mg:yal}{base:Heap}
structure ay(K:yac)(x qual:Str)(st:Stmt)(f:Addr)(fd:FuncData):Prop where
 ex:∃(oc:Value) (od:Option Addr) (dV kV doc pm:Value) (an:Option Addr) (Qt ct:Value) (WZ:Array (yam)),
  fd=PySem.W.fnOf x qual (ft st) (cS st) (aq st) dV kV doc pm an Qt ct/\K.lookup f=some ⟨oc,od,.func fd,WZ⟩/\PySem.W.codeIn K Qt qual=true
 kp:PySem.W.keepIn K (.ref f)=true
def ay.okC{x a:Str}{st:Stmt}{f:Addr}{d:FuncData}{N ps:yah}{k:Nat}{sp:DSp}(F:ay K x a st f d)(S:az N ps (aq st))(c:∀ds Q E,sp ds Q E->ds.length=ps.length)
  (n:∀(b:Value),d.code=b->∀(A:Around) (outer:List Env) (s:Shared) (H:Hp) (E:XK) (Ed:Value->Prop),cE k (A.deeper (envOfC a (aq st) s.heap.objs.size f b))->MadeX (dE (CX1 P w) P w K mg base N a (aq st) f b A outer s H E) Ed->d8 (dE (CX1 P w) P w K mg base N a (aq st) f b A outer s H E) Ed->BZ (dE (CX1 P w) P w K mg base N a (aq st) f b A outer s H E) Ed →
   ∃ t,c9 (dE (CX1 P w) P w K mg base N a (aq st) f b A outer s H E) (cS st) t/\∀ds Q,sp ds Q Ed->t {nx:=λ_=>Q .OD,rt:=Q} (dA N ds)):aI P w K mg base (CX1 P w) (k+1) f d ps (aL K sp):=by
 obtain⟨B,y,C,kV,m,u,I,b,G,WZ,rfl,lk,a⟩:=F.ex;refine MC lk a S (λa H Q E h=>?_) λA outer s H a Q E i h=>?_
 obtain⟨_,ds,_,_,_,_,e,d,_⟩:=h;rw[e.len];exact c ds _ _ d;obtain⟨o,ds,p,Ed,j,l,e,d,g,a⟩:=h;obtain⟨t,c,k⟩:=n b rfl A outer s H E Ed i (MI a) (Jk a) (ME a);refine⟨_,c.ps,⟨o,λ_=>none,λa=>∃o,H a=some o⟩,_,_,Rel.start l e rfl j,k ds p d,λb OE c N7 f r q=>?_,λb c v d f h q=>?_,λ_ _ _ _ _ _ q=>q,λ_ _ _ _ _ _ q=>q⟩;exact g .OD .OD c ⟨λb o e n=>f.kp b o (by lia) e n,f.tb,f.ok⟩ Den.OD q;refine g d v c ⟨λb o e n=>f.kp b o (by lia) e n,f.tb,f.ok⟩ (h.OB λt a z=>?_) q;rcases z with z|z;exact .inl (by rw[f.B];exact z);exact .inr (.inr ⟨z.1,by rw[f.S];exact z.2⟩)
def ay.okX{x a:Str}{st:Stmt}{f:Addr}{d:FuncData}{N ps:yah}{k:Nat}{sp:DSp}(F:ay K x a st f d)(S:az N ps (aq st))(c:∀ds Q E,sp ds Q E->ds.length=ps.length)
  (e:∀(b:Value) (A:Around) (outer:List Env) (s:Shared) (H:Hp) (E:XK) (Ed:Value->Prop),cE k (A.deeper (envOfC a (aq st) s.heap.objs.size f b))->MadeX (dE (CX1 P w) P w K mg base N a (aq st) f b A outer s H E) Ed->d8 (dE (CX1 P w) P w K mg base N a (aq st) f b A outer s H E) Ed->BZ (dE (CX1 P w) P w K mg base N a (aq st) f b A outer s H E) Ed →
   ∃ t,c9 (dE (CX1 P w) P w K mg base N a (aq st) f b A outer s H E) (cS st) t/\∀ds Q,sp ds Q Ed->t {nx:=λ_=>Q .OD,rt:=Q} (dA N ds)):aI P w K mg base (CX1 P w) (k+1) f d ps (aL K sp):=ay.okC F S c λb _=>e b
def ay.okN{x a:Str}{st:Stmt}{f:Addr}{d:FuncData}{N ps:yah}{k:Nat}{sp:DSp}(F:ay K x a st f d)(S:az N ps (aq st))(c:∀ds Q E,sp ds Q E->ds.length=ps.length)
  (e:∀(b:Value) (A:Around) (outer:List Env) (s:Shared) (H:Hp) (E:XK),cE k (A.deeper (envOfC a (aq st) s.heap.objs.size f b)) →
   ∃ t,c9 (dE (CX1 P w) P w K mg base N a (aq st) f b A outer s H E).nox (cS st) t/\∀ds Q Ed,sp ds Q Ed->t {nx:=λ_=>Q .OD,rt:=Q} (dA N ds)):aI P w K mg base (CX1 P w) (k+1) f d ps (aL K sp) :=
 ay.okX F S c λb A outer s H E Ed c _ _ _=>by obtain⟨t,a,k⟩:=e b A outer s H E c;exact⟨t,a.nox,λds Q h=>k ds Q Ed h⟩
def Bf{x a:Str}{st:Stmt}{f:Addr}{m:Value}{j i:Option Addr}{n:Array (yam)}{g kV b e d h:Value}(l:K.lookup f=some ⟨m,j,.func (PySem.W.fnOf x a (ft st) (cS st) (aq st) g kV b e i d h),n⟩)
  (c:PySem.W.codeIn K d a=true) (k:PySem.W.keepIn K (.ref f)=true):ay K x a st f (PySem.W.fnOf x a (ft st) (cS st) (aq st) g kV b e i d h):=⟨⟨m,j,g,kV,b,e,i,d,h,n,rfl,l,c⟩,k⟩
end
open PySem PySem.Spec PyProof.Rows L2
def O4(P:Program)(w:World)(K:yac)(a:yal)(base:Heap)(x:Str)(k:Nat)(ps:yah)(sp:DSp):Prop :=
 ∃ f b,aI P w K a base (CX1 P w) k f b ps (aL K sp)/\a x=some (.ref f)/\PySem.W.keepIn K (.ref f)=true/\Binds K b ps []
section
variable{X:Cx}{k:Nat}{ps:yah}{sp:DSp}{x:Str}{p pos:Pos}{e:Expr}{es:yai}{t:DA}
def Ii (h:O4 X.prog X.w X.K X.mg X.base x k ps sp) (a:cE k X.A) (i:S4 X (e::es) t) (d:Gl X x:=by rfl) (j:(x==("__debug__" : Str))=false:=by decide)
  (g:starEach (e::es) X.env=(false,eval e X.env)::starEach es X.env:=by rfl) (l:(backTo pos (starEach es X.env)).any (·.1)=false:=by rfl):Oo X (.Call (.Name x p) (e::es) [] pos) (xl sp [] t):=by
 obtain⟨f,m,F,b,c,f⟩:=h;exact F6 (dds:=[]) (dsv:=[]) F a d b c f .nil (by simp) HD i j g l
def au (h:O4 X.prog X.w X.K X.mg X.base x k ps sp) (a:cE n X.A) (f:S4 X (e::es) t) (b:k<=n:=by decide) (c:Gl X x:=by rfl) (g:(x==("__debug__" : Str))=false:=by decide)
  (d:starEach (e::es) X.env=(false,eval e X.env)::starEach es X.env:=by rfl) (i:(backTo pos (starEach es X.env)).any (·.1)=false:=by rfl):Oo X (.Call (.Name x p) (e::es) [] pos) (xl sp [] t):=Ii h (a.mono b) f c g d i
end
theorem Ki{CX:CXT}{P:Program}{w:World}{K:yac}{c:yal}{base:Heap}{N:yah}{a:Str}{b:Scope}{f:Addr}{d:Value}{A:Around}{outer:List Env}{s:Shared}{H:Hp}{E:XK}:(dE CX P w K c base N a b f d A outer s H E).K=K:=rfl
theorem JS(c:Addr):W5 (.exc c)=.ref c:=rfl
theorem Ee(c:Addr):dG (.exc c)=false:=rfl
def sp1(R:D->(D->Prop)->Prop):DSp:=λb Q _=>∃a,b=[a]/\R a Q
def ux:DSp:=λb Q _=>∃a:yaf,b=[.lst false (a.map .int)]/\a.length<=63/\Q (.bl true)
theorem wo{K:yac}{P:yak}{H:Hp}:∀ns:yaf,aj K P H (ns.map D.int) (ns.map V.int)
 |[]=>aj.nil
 |n::r=>aj.cons (Den.int n) (wo r)
def Lw{K:yac}{H:Hp}{a:Addr}{ns:yaf}(b:ns.length<=63)(e:SqL K H a (ns.map V.int))(c:lE K H):aL K ux [.ref a] H (λv _=>v=.bl true) λ_ _ _=>False :=
 ⟨λ_=>False,[.lst false (ns.map D.int)],λd=>d=.bl true,λ_=>False,c,by lia,aj.one (Den.lst (by lia) (.any e) (wo ns)),⟨ns,rfl,b,rfl⟩,λd v H' _ a e=>by subst e;exact a.Wr,λ_ _ _ _ z=>z.elim⟩
def walk{l:PySem.W.OpenLaw}{q:Program}{a:yah}{n:(yal)->Heap->Prop}{i:World->Heap->Prop}{d:DefRec}{K:Params->yac}{k:Nat}{x:Str}(m:l.most=some 63)(c:d.params.defaults=[])(j:cE k callerA)
  (o:∀(w:World) (h:Heap),i w h->(K w.params).In h) (y:∀w:World,tabOf (K w.params)=none)
  (F:∀(w:World) (b:yal) (g:Addr) (h:Heap),(K w.params).In h->h.Ns mainGlobals b->b d.name=some (.ref g) →
   ∃ e:FuncData,(∀(s:Shared) (u:Value),BindsTo s e ⟨[u],[]⟩ [(x,u)])/\∀base:Heap,(K w.params).In base->base.Ns mainGlobals b->aI l.prog w (K w.params) b base (CX1 l.prog w) k g e [x] (aL (K w.params) ux)) :
  PySem.W.WalkO q a n i l.row.toRowW d [] (λf vs=>PySem.call f vs) :=
 L2.JT (n:=63) (k:=k) (x:=x) (CX:=λw=>CX1 l.prog w) (sp:=λw=>aL (K w.params) ux) m (by decide) c j o F (λw _ a t a c b=>Lw a b ⟨λP r e=>(by rcases c P with z|⟨o,p,z⟩<;>rw[z]at e<;>cases e),by grind⟩) λ_ _ _ _ _ z=>by obtain⟨_,_,_,_,_,_,_,_,_,_,_,_,_,q⟩:=z;lia
def YQ{b:Type}(a:b)(r:List b):Qm (a::r) 0=some a:=bb (j:=0) rfl
def Xk{c:Type}(a b:c)(r:List c):Qm (a::b::r) 1=some b:=bb (j:=1) rfl
def at2{d:Type}(a b c:d)(r:List d):Qm (a::b::c::r) 2=some c:=bb (j:=2) rfl
def at3{e:Type}(a b c d:e)(r:List e):Qm (a::b::c::d::r) 3=some d:=bb (j:=3) rfl
theorem GX(ds:yar)(i:Int)(Q:D->Prop):vt (.tup ds) (.int i) Q=∃d,Qm ds i=some d/\Q d:=rfl
theorem se(t:Bool)(ds:yar)(i:Int)(Q:D->Prop):vt (.lst t ds) (.int i) Q=∃d,Qm ds i=some d/\Q d:=rfl
theorem fg(i:Int):aK (.int i)=.int i:=rfl
theorem Hf(b:Bool):aK (.bl b)=.bl b:=rfl
theorem Fn:aK .OD=.OD:=rfl
theorem Fo(x:Str):aK (.str x)=.str x:=rfl
theorem Fm(c:Addr):aK (.exc c)=.exc c:=rfl
theorem c6(ds:yar):aK (.tup ds)=.tup (bC ds):=rfl
theorem bu(t:Bool)(ds:yar):aK (.lst t ds)=.lst false (bC ds):=rfl
theorem cg:bC []=[]:=rfl
theorem bO(d:D)(ds:yar):bC (d::ds)=aK d::bC ds:=rfl
theorem c8{a:Type}(f:a->D)(h:∀x,aK (f x)=f x):∀xs:List a,bC (xs.map f)=xs.map f
 |[]=>by rw[VF,bC]
 |x::r=>by rw[Pq,bC,h,c8 f h r]
def b6(ns:yaf):bC (ns.map D.int)=ns.map D.int:=c8 _ fg ns
theorem Bz(C:Int->Int->Prop)(g:Int->Int->D)(i j:Int)(Q:D->Prop):X0 C g (.int i) (.int j) Q=(C i j/\Q (g i j)):=rfl
theorem kB(g:Int->Int->D)(i j:Int)(Q:D->Prop):gP g (.int i) (.int j) Q=Q (g i j):=rfl
theorem Kx(d:D)(r:Ro)(Q:D->Prop):lJ 0 (some (.val d)::r) Q=Q d:=rfl
theorem Ky(n:Nat)(x:Option Sl)(r:Ro)(Q:D->Prop):lJ (n+1) (x::r) Q=lJ n r Q:=rfl
theorem MX(x y:Option Sl)(r:Ro):List.set (x::r) 0 y=y::r:=rfl
theorem MY(n:Nat)(x y:Option Sl)(r:Ro):List.set (x::r) (n+1) y=x::List.set r n y:=rfl
def MA(k:Bool)(R:Bool->Prop):(∃c,(D.bl k)=.bl c/\R c)=R k:=by apply propext;constructor;rintro⟨c,e,q⟩;cases e;exact q;intro q;exact⟨k,rfl,q⟩
def K0(k:Int)(R:Int->Prop):(∃c,(D.int k)=.int c/\R c)=R k:=by apply propext;constructor;rintro⟨c,e,q⟩;cases e;exact q;intro q;exact⟨k,rfl,q⟩
def Iu{a:Type}(k:a)(R:a->Prop):(∃c,some k=some c/\R c)=R k:=by apply propext;constructor;rintro⟨c,e,q⟩;cases e;exact q;intro q;exact⟨k,rfl,q⟩
def Uh(a b c:D):([a,b,c]:yar).length<=sizeLine:=by simp_all [sizeLine_eq]
def R5(a b:D):([a,b]:yar).length<=sizeLine:=by simp_all [sizeLine_eq]
def ZG(a:D):([a]:yar).length<=sizeLine:=by simp_all [sizeLine_eq]
theorem sz4(a b c d:D):([a,b,c,d]:yar).length<=sizeLine:=by simp_all [sizeLine_eq]
def IQ(t:Bool)(xs:yar)(R:yar->Prop):(∃ys,((∃t',[D.lst t xs]=[.lst t' ys]) ∨ [D.lst t xs]=[.tup ys])/\R ys)=R xs:=by
 apply propext;constructor;rintro⟨c,e,q⟩;rcases e with⟨_,e⟩| e;cases e;exact q;cases e;intro q;exact⟨xs,.inl ⟨t,rfl⟩,q⟩
def IS(xs:yar)(R:yar->Prop):(∃ys,((∃t',[D.tup xs]=[.lst t' ys]) ∨ [D.tup xs]=[.tup ys])/\R ys)=R xs:=by
 apply propext;constructor;rintro⟨c,e,q⟩;rcases e with⟨_,e⟩| e;cases e;cases e;exact q;intro q;exact⟨xs,.inr rfl,q⟩
def LM(a b:D)(R:D->D->Prop):(∃d e,[a,b]=[d,e]/\R d e)=R a b:=by apply propext;constructor;rintro⟨_,_,e,q⟩;cases e;exact q;intro q;exact⟨a,b,rfl,q⟩
def IK (ds:yar):Xh "tuple" (.tup ds)=true:=by
 show(("tuple" : String) == "tuple" || (("tuple" : String) == "bool" && ("tuple" : String) == "int"))=true;decide
def IJ (t:Bool) (ds:yar):Xh "list" (.lst t ds)=true:=by
 show(("list" : String) == "list" || (("list" : String) == "bool" && ("list" : String) == "int"))=true;decide
def Ej (ds:yar):Xh "list" (.tup ds)=false:=by
 show(("tuple" : String) == "list" || (("tuple" : String) == "bool" && ("list" : String) == "int"))=false;decide
def II (i:Int):Xh "int" (.int i)=true:=by
 show(("int" : String) == "int" || (("int" : String) == "bool" && ("int" : String) == "int"))=true;decide
def Cp (i:Int):Xh "bool" (.int i)=false:=by
 show(("int" : String) == "bool" || (("int" : String) == "bool" && ("bool" : String) == "int"))=false;decide
theorem Eh:dG .OD=true:=rfl
theorem Ei(ds:yar):dG (.tup ds)=false:=rfl
theorem Eg(t:Bool)(ds:yar):dG (.lst t ds)=false:=rfl
theorem Ef(i:Int):dG (.int i)=false:=rfl
def Bn(i:Int):okD (.int i):=by unfold okD;rw[QK,Ue]<;>first|exact⟨rfl,rfl⟩| (intros;contradiction)
def Ja:okD .OD:=by unfold okD;rw[QK,Ue]<;>first|exact⟨rfl,rfl⟩| (intros;contradiction)
def D4(a b c x y z:Int):eqD (.tup [.int a,.int b,.int c]) (.tup [.int x,.int y,.int z])=(decide (a=x) && (decide (b=y) && decide (c=z))):=by unfold eqD;simp only[QK,dm,PyData.eqv,PyData.eqvAll,Bool.and_true];rfl
noncomputable abbrev T3(a b c:Int):D:=.tup [.int a,.int b,.int c]
def CD.lit{n:Int}(h:n≠0/\n.natAbs<2 ^ 64:=by decide):CD i n:=⟨h.1,QL h.2 (WO (by decide) (by decide))⟩
def JB(a b d:Int)(R:Int->Int->Int->Prop):(∃i j c:Int,[D.int a,D.int b,D.int d]=[.int i,.int j,.int c]/\R i j c)=R a b d:=by lia
def JA(a b:Int)(R:Int->Int->Prop):(∃i j:Int,[D.int a,D.int b]=[.int i,.int j]/\R i j)=R a b:=by apply propext;constructor;rintro⟨_,_,e,q⟩;cases e;exact q;intro q;exact⟨a,b,rfl,q⟩
def Jz(a:Int)(R:Int->Prop):(∃i:Int,[D.int a]=[.int i]/\R i)=R a:=by apply propext;constructor;rintro⟨_,e,q⟩;cases e;exact q;intro q;exact⟨a,rfl,q⟩
def BB{lo hi c:Int}{j:Nat}(b:0<c)(h:j<gQ lo hi c):lo+j*c<hi:=by
 unfold gQ Builtin.Range.rangeSize at h;rw[N4 (by simp_all)]at h;by_cases a:lo<hi;rw[N4 a]at h;have a:(j:Int)<=(hi - lo - 1) / c:=by omega
 have d:=(Int.le_ediv_iff_mul_le b).mp a;omega
 simp_all
def FQ{ns:yaf}{k:Int}(h0:0<=k)(b:k<ns.length):Qm (ns.map D.int) k=some (.int (ns.getD k.toNat 0)):=by
 have e:k=((k.toNat:Nat):Int):=by lia
 have a:k.toNat<ns.length:=by lia
 have q:Qm (ns.map D.int) ((k.toNat:Nat):Int)=some (.int (ns.getD k.toNat 0)):=bb (by simp[Pw,OH a,Pg]);rw[<- e]at q;exact q
def Ar{xs ys:yaf}(h:xs.map D.int=ys.map D.int):xs=ys:=by
 induction xs generalizing ys with
 |nil=>simp_all
 |cons x r ih=>cases ys with
  |nil=>simp at h
  |cons y q =>
   grind
def K8(n:Nat)(t:Wv)(ds:yar)(h:ds.length=n)(ρ:Ro)(Q:Ro->Prop):tP n t (.tup ds) ρ Q=t ds ρ Q:=by
 apply propext;unfold tP;constructor;rintro⟨Vt,e,_,h⟩;rcases e with e|⟨_,e⟩;cases e;exact h;cases e;intro q;exact⟨ds,.inl rfl,h,q⟩
def gdc(g:DG)(u:Wv)(x:D)(r:yar)(ρ:Ro)(Q:Ro->Prop):md g u (x::r) ρ Q=g x ρ λa=>u r a Q:=by
 apply propext;unfold md;constructor
 simp_all
 intro h;exact⟨x,r,rfl,h⟩
def gdn(ρ:Ro)(Q:Ro->Prop):tO [] ρ Q=Q ρ:=by unfold tO;simp
def Np(d c:DG)(a b:D)(ρ:Ro)(Q:Ro->Prop):tP 2 (md d (md c tO)) (.tup [a,b]) ρ Q=d a ρ λe=>c b e Q:=by
 (first|rw[K8 2 _ _ rfl]|rw[K8 4 _ _ rfl]);simp only[gdc,gdn]
section
variable{X:Cx}{pos:Pos}
def Rel.putG{i:Nat}{o:HO}(r:Rel X W H σ ρ)(hi:i<σ.length)(sm:aw H H')(f:H p=none)(B:X.K.lookup p=none)(h':H' p=some o)(C:df X.K (λt b=>W.bad t b∨b=p) H' (W.sub σ.length i) x o) :
  Rel X ((W.drop i).put i p) H' (σ.set i (some (.ref p))) (ρ.set i (some (.ob x)))/\OK W H ((W.drop i).put i p) H':=by
 have l:∀j a,((W.drop i).put i p).O j=some a->(j=i/\a=p)∨(j≠i/\W.O j=some a):=λj a h=>by have c:(if j=i then some p else(if j=i then none else W.O j))=some a:=h;by_cases e:j=i;rw[N4 e]at c;cases c;exact .inl ⟨e,rfl⟩;rw[N2 e,N2 e]at c;exact .inr ⟨e,c⟩
 have y:((W.drop i).put i p).O i=some p:=by show(if i=i then some p else _)=_;rw[N4 rfl]
 have m:∀j,j≠i->((W.drop i).put i p).O j=W.O j:=λj n=>by show(if j=i then some p else(if j=i then none else W.O j))=_;rw[N2 n,N2 n]
 have E:∀j k b,W.sub σ.length j k=some b->((W.drop i).put i p).sub σ.length j k=some b:=λj k b e=>(m _ (ql hi)).trans e
 have A:∀t a,((W.drop i).put i p).bad t a->W.bad t a∨a=p:=λt a z=>by
  rcases z with z|⟨j,z⟩| z;exact .inl (.inl z);rcases l j a z with⟨_,q⟩| ⟨_,q⟩;exact .inr q;exact .inl (.inr (.inl ⟨j,q⟩));exact .inl (.inr (.inr z))
 have s:∀{t:Bool} {a:Addr} {e:yaq},QG X.K H t a e->a≠p:=fun {t a e} q z=>by
  subst z;rcases q.1 with(q|⟨o,q⟩)|⟨o,N5,n,q,_⟩;rw[f]at q;cases q;rw[f]at q;cases q;rw[B]at q;cases q
 have G:∀(d:D) (v:V),Den X.K W.bad H d v->Den X.K ((W.drop i).put i p).bad H' d v:=Den.map (λ_ _ q=>OZ.same sm q) (λt a e n q=>⟨λz=>(A t a z).elim n (s q),q.same sm⟩) (λa _ n q=>sm.kp a _ q n.nt);have u:∀(w:yar) (g:yaq),aj X.K W.bad H w g->aj X.K ((W.drop i).put i p).bad H' w g:=aj.map (λ_ _ q=>OZ.same sm q) (λt a e n q=>⟨λz=>(A t a z).elim n (s q),q.same sm⟩) (λa _ n q=>sm.kp a _ q n.nt);refine⟨⟨λj d h=>?_,λj x h=>?_,λj k a c s=>?_,λj a c=>?_,λj a c=>?_,λa h=>let ⟨_,q⟩:=r.bt a h;sm.ex q,λa h=>let ⟨_,q⟩:=r.st a h;sm.ex q,r.ent.trans sm,r.tab.same sm⟩,rfl,rfl,λb o _ q n=>sm.kp b o q n,λj a h=>?_,sm.tb,sm.ok⟩;by_cases g:j=i;subst g;rw[List.getElem?_set]at h;split at h;split at h<;>cases h
 lia
 rw[TC (Ne.symm g)]at h;obtain⟨w,c,s⟩:=r.val j d h;exact⟨w,by rw[TC (Ne.symm g)];exact c,G d w s⟩;by_cases g:j=i;subst g;rw[List.getElem?_set]at h;split at h;split at h;cases h;exact⟨p,_,y,by simp[hi],h',by rw[List.length_set];exact C.OB (λt a z=>A t a z) (E _)⟩;cases h
 lia
 rw[TC (Ne.symm g)]at h;obtain⟨a,e,c,s,i,d⟩:=r.own j x h;exact⟨a,e,(m j g).trans c,by rw[TC (Ne.symm g)];exact s,sm.kp _ _ i d.Vr.nt,by rw[List.length_set];exact d.map u λk b q=>⟨E j k b q,λ_ z=>sm _ _ z⟩⟩;rcases l j a c with⟨d,b⟩| ⟨d,b⟩<;>rcases l k a s with⟨i,g⟩| ⟨i,g⟩;rw[d,i];subst b;obtain⟨_,_,e,q,_⟩:=r.kn k _ g;rw[f]at q;cases q;subst g;obtain⟨_,_,e,q,_⟩:=r.kn j _ b;rw[f]at q;cases q;exact r.inj j k a b g;rcases l j a c with⟨d,b⟩| ⟨d,b⟩;subst b;exact⟨B,⟨λz=>(by obtain⟨o,q⟩:=r.bt _ z;rw[f]at q;cases q),λz=>(by obtain⟨o,q⟩:=r.st _ z;rw[f]at q;cases q)⟩,_,h',C.Vr⟩;obtain⟨m,k,e,i,g⟩:=r.kn j a b;exact⟨m,k,e,sm.kp _ _ i g.nt,g⟩;rcases l j a c with⟨d,b⟩| ⟨d,b⟩;subst b;exact r.ent.free f;exact r.ke j a b;rcases l j a h with⟨d,b⟩| ⟨d,b⟩;subst b;exact .inr f;exact .inl ⟨j,b⟩
def Rel.Xl{i:Nat}(r:Rel X W H σ ρ)(hi:i<σ.length)(sm:aw H H')(a:H p=none)(c:X.K.lookup p=none)(h':H' p=some (.lst vs))(d:aj X.K (λt b=>W.bad t b∨b=p) H' ds vs) :
  Rel X ((W.drop i).put i p) H' (σ.set i (some (.ref p))) (ρ.set i (some (.own ds)))/\OK W H ((W.drop i).put i p) H':=r.putG hi sm a c h' (.lst d)
def aj.apart{K:yac}{H:Hp}(n:H a=none)(k:K.lookup a=none)(h:aj K P H ds d)(c:NT o:=by exact True.intro):aj K (λt b=>P t b∨b=a) (L2.upd H a o) ds d :=
 aj.map (λ_ _ q=>OZ.same (aw.upd n c) q) (λt b e p q=>⟨(λz=>z.elim p λz=>by
  subst z;rcases q.1 with(q|⟨o,q⟩)|⟨o,N5,m,q,_⟩
  all_goals lia),q.same (aw.upd n c)⟩) (λb _ m q=>(aw.upd n c).kp b _ q m.nt) ds d h
def Rel.mutG{i:Nat}{a:Addr}{o:HO}(r:Rel X W H σ ρ)(d:ρ[i]?=some (some (.ob x)))(f:W.O i=some a)(B:σ[i]?=some (some (.ref a)))(m:H a=some o)(g:jt o)(l:df X.K W.bad H (W.sub σ.length i) x' o') :
  Rel X W (L2.upd H a o') σ (ρ.set i (some (.ob x')))/\OK W H W (L2.upd H a o'):=by
 have h:∀t,W.bad t a:=λ_=>.inr (.inl ⟨i,f⟩)
 have A:∀b c,OZ X.K H b c->OZ X.K (L2.upd H a o') b c:=λb c q=>q.imp (λq=>by rw[aC (qJ q m (by intro z;subst z;exact g))];exact q) id
 have x:∀t b c,¬W.bad t b->QG X.K H t b c->¬W.bad t b/\QG X.K (L2.upd H a o') t b c:=λt b c n q=>by
  have s:b≠a:=λe=>n (e ▸ h t)
  refine⟨n,?_,λz=>⟨by rw[aC s];exact(q.2 z).1,(q.2 z).2⟩⟩;rcases q.1 with(q|⟨u,q⟩)|q;exact .inl (.inl (by rw[aC s];exact q));exact .inl (.inr ⟨u,by rw[aC s];exact q⟩);exact .inr q
 have t:∀b u,Wq u->H b=some u->L2.upd H a o' b=some u:=λb u n q=>by rw[aC (qJ q m (by intro z;subst z;exact g.sol n))];exact q
 have C:i<ρ.length:=(Ql.mp d).1;have h:i<σ.length:=(Ql.mp B).1;have n:∀j k b,W.sub σ.length j k=some b->W.sub σ.length j k=some b/\∀d,H b=some (.lst d)->L2.upd H a o' b=some (.lst d):=λj k b q=>⟨q,λd z=>by rw[aC (λe=>ql h (r.inj _ _ a (by rw[<- e];exact q) f))];exact z⟩
 have w:∀b u,H b=some u->∃d,L2.upd H a o' b=some d:=λb u q=>by by_cases p:b=a;subst p;exact⟨_,aR⟩;exact⟨u,by rw[aC p];exact q⟩
 refine⟨⟨λj d h=>?_,λj y h=>?_,r.inj,λj b k=>?_,r.ke,λb k=>let ⟨u,q⟩:=r.bt b k;w b u q,λb k=>let ⟨u,q⟩:=r.st b k;w b u q,r.ent.ins (r.ke i a f) m g l.Vr.nt,r.tab.upd l.Vr.nt (.inr ⟨o,m,g.ne,g.nt⟩)⟩,OK.upd f m g l.Vr.nt⟩;by_cases g:j=i;subst g;rw[XI C]at h;cases h;rw[TC (Ne.symm g)]at h;obtain⟨w,m,o⟩:=r.val j d h;exact⟨w,m,Den.map A x t d w o⟩;by_cases g:j=i;subst g;rw[XI C]at h;cases h;exact⟨a,o',f,B,aR,l.map (aj.map A x t) (n _)⟩;rw[TC (Ne.symm g)]at h;obtain⟨b,c,m,o,q,d⟩:=r.own j y h;have s:b≠a:=λe=>g (r.inj j i a (by rw[<- e];exact m) f)
 exact⟨b,c,m,o,by rw[aC s];exact q,d.map (aj.map A x t) (n _)⟩;obtain⟨g,f,c,e,d⟩:=r.kn j b k;refine⟨g,f,?_⟩;by_cases p:b=a;subst p;exact⟨_,aR,l.Vr⟩;exact⟨c,by rw[aC p];exact e,d⟩
def Rel.Vr{i:Nat}{a:Addr}(r:Rel X W H σ ρ)(f:ρ[i]?=some (some (.own ds)))(c:W.O i=some a)(b:σ[i]?=some (some (.ref a)))(e:H a=some (.lst vs))(d:aj X.K W.bad H Vt vs') :
  Rel X W (L2.upd H a (.lst vs')) σ (ρ.set i (some (.own Vt)))/\OK W H W (L2.upd H a (.lst vs')):=r.mutG f c b e True.intro (.lst d)
variable{es:yai}{t:DA}
def Ko(i:Nat)(t:DA):DS:=λE a=>t a λb=>b.length<=sizeLine/\E.nx (a.set i (some (.own b)))
def eU{x:Str}(i:Nat)(m:X.N.Nodup)(h:S4 X es t)(hi:X.N[i]?=some x:=by rfl)(k:Loc X.env.scope x:=by first|exact Or.inl rfl|exact Or.inr rfl)
  (hs:swapsWith (.List es Xm) (some (.Name x pos')) pos.line X.env=pure false:=by rfl) (l:X.fn x=true∨X.env.scope.names.lookup x=some .local:=by first|exact .inl rfl|exact .inr rfl|assumption) :
  Rq X (.Assign [.Name x pos'] (.List es Xm) pos) (Ko i t):=by
 intro a s b H W c E I r d;refine wpAny_Assign_Name (wpAny_List_spliced (Oa (h Xm a s b H W c _ I r d) λj d a=>?_)) hs;obtain⟨f,b,w,c,g,i,h,z,q⟩:=a;rw[<- h.len]at z;refine⟨by rw[<- g.length];exact z,?_⟩;have a:b d.heap.objs.size=none:=c.Om.fresh (OP _);have n:=c.laid (o:=.lst f) (t':=d.toks) (λb u e=>Ph _ e) (OP _) ⟨z,j,0,g,Q7 _ rfl⟩;have b:=(r.same i).Xl (Inv.Xi c hi) (aw.upd (o:=.lst f) a) a (Inv.QQ c) aR (aj.apart a (Inv.QQ c) h);exact gF (v:=.ref d.heap.objs.size) n m hi k rfl (λp a=>⟨_,_,_,a,(OK.same i).trans b.2,_,b.1,q⟩) l
def AV(i:Nat)(te:DE):DS:=λE a=>∃b,a[i]?=some (some (.own b))/\te a λd=>b.length<sizeLine/\E.nx (a.set i (some (.own (b++[d]))))
def gH{x:Str}{a:Pos}(i:Nat)(d:Oo X e te)(hi:X.N[i]?=some x:=by rfl)(c:VM X.env.scope x:=by first|exact Or.inl rfl|exact Or.inr (Or.inl rfl)|exact Or.inr (Or.inr rfl))
  (f:(x==("__debug__" : Str))=false:=by decide) (j:(x==("__classdict__" : Str))=false:=by decide)
  (l:attributeBase (.Name x px) "append" X.env (eval (.Name x px) X.env)=eval (.Name x px) X.env:=by rfl)
  (g:((backTo cpos (starEach [e] X.env)).all (λx=>!x.1) && (backToKw cpos (keywordEach [] X.env)).all (λx=>x.1.isSome) && decide ([e].length+([]:List Keyword).length+(if([]:List Keyword).isEmpty then 0 else 1)<30))=true:=by rfl)
  (k:(a.endLine==cpos.line)=true:=by rfl) (b:starEach [e] X.env=(false,eval e X.env)::starEach [] X.env:=by rfl) (h:(backTo cpos (starEach [] X.env)).any (·.1)=false:=by rfl)
  (hs:swapsWith (.Call (.Attribute (.Name x px) "append" a) [e] [] cpos) none pos.line X.env=pure false:=by rfl) :
  Rq X (.Expr (.Call (.Attribute (.Name x px) "append" a) [e] [] cpos) pos) (AV i te):=by
 have a:=vp (pos:=pos) (HE PySem.F.plainAttrs_list PySem.F.slot_list_append PySem.F.type_list_append wJ (kA hi c f j) (qK d.pe zq b) l g k b h) hs;refine Rq.of a λm H W b E r n h=>?_
 obtain⟨d,g,h⟩:=h;obtain⟨a,c,j,e,f,l⟩:=r.vo i d g;refine⟨.ref a,e,.inl ⟨rfl,_,SqL.of f⟩,W,b,_,r,h,λv H' d b k q=>?_⟩;obtain⟨z,q⟩:=q;have d:=b _ _ f;have h:=r.same b;have f:=l.same b;refine⟨a,c,v,rfl,rfl,d,by rw[f.len];exact z,?_⟩;obtain⟨a,i⟩:=h.Vr (vs':=c++[v]) g j e d (f.append (aj.one k));exact⟨W,_,(OK.same b).trans i,a,q⟩
def Rel.freeze{X:Cx}{i:Nat}(r:Rel X W H σ ρ)(e:ρ[i]?=some (some (.own ds))):Rel X (W.drop i) H σ (ρ.set i (some (.val (.lst true ds)))):=by
 obtain⟨a,l,b,c,g,h⟩:=r.vo i ds e;have f:i<σ.length:=(Ql.mp c).1;have Wz:i<ρ.length:=(Ql.mp e).1;have e:¬(W.drop i).bad true a:=λz=>by
  rcases z with z|⟨j,z⟩| ⟨_,z⟩
  rotate_right
  exact(r.kn i a b).2.1.2 z;exact(r.kn i a b).2.1.1 z;have c:(if j=i then none else W.O j)=some a:=z;by_cases d:j=i
  lia
  rw[N2 d]at c;exact d (r.inj j i a c b)
 have m:Den X.K (W.drop i).bad H (.lst true ds) (.ref a):=Den.lst e (.new g (r.kn i a b).1) (h.OB λ_ _=>Own.O8);refine⟨λj x h=>?_,λj x h=>?_,λj k b a d=>?_,λj b a=>?_,λj b a=>?_,r.bt,r.st,r.ent,r.tab⟩;by_cases c:j=i
 simp_all
 rw[TC (Ne.symm c)]at h;obtain⟨w,a,d⟩:=r.val j x h;exact⟨w,a,d.OB λ_ _=>Own.O8⟩;by_cases c:j=i
 simp_all
 rw[TC (Ne.symm c)]at h;obtain⟨b,c,a,d,g,e⟩:=r.own j x h;exact⟨b,c,by show(if j=i then none else W.O j)=_;lia,d,g,e.OB (λ_ _=>Own.O8) (Own.Sf f)⟩;have c:(if j=i then none else W.O j)=some b:=a;have e:(if k=i then none else W.O k)=some b:=d;by_cases d:j=i
 lia
 by_cases f:k=i
 lia
 rw[N2 d]at c;rw[N2 f]at e;exact r.inj j k b c e;have c:(if j=i then none else W.O j)=some b:=a;by_cases d:j=i
 lia
 rw[N2 d]at c;exact r.kn j b c;have c:(if j=i then none else W.O j)=some b:=a;by_cases d:j=i
 lia
 rw[N2 d]at c;exact r.ke j b c
def AY(i:Nat)(t:DS):DS:=λE a=>∃b,a[i]?=some (some (.own b))/\t E (a.set i (some (.val (.lst true b))))
def b9{t:DS}(i:Nat)(h:c9 X sts t):c9 X sts (AY i t):=by intro a s c H W d E I r b;obtain⟨f,e,b⟩:=b;exact Oa (h a s c H (W.drop i) _ E I (r.freeze e) b) λ_ _ z=>z.up (OK.drop W H i)
end
noncomputable def dW(env:Env)(ns:yah):List (Str×Addr):=ns.filterMap λn=>(env.cells.lookup n).map λc=>(n,c)
theorem mJ:∀{ns:yah} {x:Str} {c:Addr},(dW env ns).lookup x=some c->env.cells.lookup x=some c
 |[],_,_,h=>by cases h
 |n::r,x,c,h=>by
  unfold dW at h;rw[zDK]at h;cases e:env.cells.lookup n with
  |none =>
   rw[e]at h;exact mJ (ns:=r) h
  |some b =>
   rw[e]at h;have a:List.lookup x ((n,b)::dW env r)=some c:=h;rw[VC]at a;cases q:x==n with
   |true =>
    lia
   |false =>
    rw[q]at a;exact mJ (ns:=r) a
theorem rG{env:Env}:∀{ns:yah} {x:Str} {c:Addr},x∈ns->env.cells.lookup x=some c->(dW env ns).lookup x=some c
 |[],_,_,h,_=>by cases h
 |n::r,x,c,h,e=>by
  unfold dW;rw[zDK];by_cases a:x=n;subst a;rw[e];show List.lookup x ((x,c)::_)=some c;simp[VC];have b:x∈r:=by
   rcases Ov.mp h with z|z;exact absurd z a;exact z
  have ih:=rG (ns:=r) b e;cases q:env.cells.lookup n with
  |none=>exact ih
  |some b =>
   show List.lookup x ((n,b)::dW env r)=some c;rw[VC];have:(x==n)=false:=by simpa using a
   rw[this];exact ih
structure Xn(osc sc:Scope)(xs ns:yah):Prop where
 kind:sc.kind=.function
 VU:∀y∈sc.names,y.2 ≠ .cell
 names:∀y∈sc.names,y.2=.local->sc.names.lookup y.1=some .local
 tgt:∀x∈xs,sc.names.lookup x=some .local
 free:∀y∈sc.names,y.2=.free->y.1∈ns/\osc.names.lookup y.1=some .cell
 cells:∀n∈ns,sc.names.lookup n=some .free/\osc.names.lookup n=some .cell
 nd:(xs++ns).Nodup
def bH(X:Cx)(a:Scope)(ns xs:yah)(C:Addr)(e:Shared)(d:Hp)(b:yae)(c:yaa):Cx :=
 {X with N:=xs++ns,Oy:=e,OV:=d,env:=compEnvC a (dW X.env ns) C X.env,outer:=X.stack,stack:=X.stack,ex:=b,fn:=λ_=>false,pn:=[],xe:=c}
theorem mn{env:Env}(b:env.scope.kind=.function):∀{a:List (Str×NameKind)} {n:Str},a.lookup n=some .free->env.kindOf n=some .cell →
  (a.map λ(n,k)=>if(k==NameKind.free && env.scope.kind==.function && env.kindOf n==some .cell)then(n,NameKind.cell)else(n,k)).lookup n=some .cell
 |[],_,h,_=>by simp at h
 |(m,k)::r,n,h,a=>by
  have ih:=@mn env b r n;show List.lookup n ((if(k==NameKind.free && env.scope.kind==.function && env.kindOf m==some .cell)=true then(m,NameKind.cell)else(m,k))::_)=_;cases hx:n==m with
  |true =>
   simp only[VC,hx]at h;cases h;have e:n=m:=by simpa using hx
   subst e;rw[b,a];simp[VC]
  |false =>
   simp only[VC,hx]at h;by_cases b:(k==NameKind.free && env.scope.kind==.function && env.kindOf m==some .cell)=true;rw[N4 b];simp only[VC,hx];exact ih h a;rw[N2 b];simp only[VC,hx];exact ih h a
theorem lN{env:Env}:∀{a:List (Str×NameKind)} {n:Str} {k:NameKind},
  (a.map λ(n,k)=>if(k==NameKind.free && env.scope.kind==.function && env.kindOf n==some .cell)then(n,NameKind.cell)else(n,k)).lookup n=some k->(k=.cell∨k=.free) →
  (∃y∈a,y.1=n/\y.2=.free)∨∃ y∈a,y.1=n/\y.2=.cell
 |[],_,_,h,_=>by simp at h
 |(m,j)::r,n,k,h,b=>by
  have a:List.lookup n ((if(j==NameKind.free && env.scope.kind==.function && env.kindOf m==some .cell)=true then(m,NameKind.cell)else(m,j))::(r.map λ(n,k)=>if(k==NameKind.free && env.scope.kind==.function && env.kindOf n==some .cell)then(n,NameKind.cell)else(n,k)))=some k:=h;have d:((∃y∈r,y.1=n/\y.2=.free)∨∃ y∈r,y.1=n/\y.2=.cell)->((∃y∈(m,j)::r,y.1=n/\y.2=.free)∨∃ y∈(m,j)::r,y.1=n/\y.2=.cell):=λz=>by
   rcases z with⟨y,c,q⟩| ⟨y,c,q⟩;exact .inl ⟨y,Pz _ c,q⟩;exact .inr ⟨y,Pz _ c,q⟩
  cases hx:n==m with
  |true =>
   have e:n=m:=by simpa using hx
   subst e;by_cases c:(j==NameKind.free && env.scope.kind==.function && env.kindOf n==some .cell)=true;have:j=.free:=by simp only[Yo]at c;exact beq_iff_eq.mp c.1.1
   exact .inl ⟨(n,j),RO,rfl,this⟩;rw[N2 c]at a;simp only[VC,hx]at a;cases a;rcases b with b|b;exact .inr ⟨(n,j),RO,rfl,b⟩;exact .inl ⟨(n,j),RO,rfl,b⟩
  |false =>
   by_cases c:(j==NameKind.free && env.scope.kind==.function && env.kindOf m==some .cell)=true;rw[N4 c]at a;simp only[VC,hx]at a;exact d (lN a b);rw[N2 c]at a;simp only[VC,hx]at a;exact d (lN a b)
def bF(ρ:Ro)(j:Nat):Option Sl:=match ρ[j]? with
 |some (some (.val d))=>some (.val d)
 |_=>none
def ko(a:St)(j:Nat):Option V:=match a[j]? with
 |some (some v)=>some v
 |_=>none
section
variable{X:Cx}{pins:yab}{σ:St}{H:Hp}{s:Shared}{sc:Scope}{ns:yah}{js:yag}{xs:yah}{fp:yae}
def Inv.comp{t:Shared}{B:Hp}{C:Addr}(I:Inv X pins σ H s)(S:Xn X.env.scope sc xs ns)(U:js.length=ns.length/\∀(i:Nat) (j:Nat) (n:Str),js[i]?=some j->ns[i]?=some n->X.N[j]?=some n)(Q:∀b∈fp,eO X pins H b)(ZH:∀b∈fp,∃o,s.heap.get? b=some o)(Y:s.heap.objs.size<=C)
  (W4:t.os=s.os) (hg:AllBare t.gens) (A:∀b o,s.heap.get? b=some o->t.heap.get? b=some o) (S1:t.heap.Ns C λ_=>none) (YS:B C=none) (hs:aw H B) (a:∀b o,s.heap.get? b=some o->H b=none->B b=none) (Om:QJ X.prog X.w B t.heap) :
  Inv (bH X sc ns xs C s H fp XE) [] (List.replicate xs.length none++js.map (ko σ)) B t:=by
 have kd:X.env.scope.kind=.function:=I.ok.kind;have E:∀y c,(dW X.env ns).lookup y=some c->X.env.cells.lookup y=some c:=λy c e=>mJ e
 have g:∀y c,(dW X.env ns).lookup y=some c->∃v,s.heap.IsCell c v:=λy c e=>I.cell y c (E y c e)
 refine⟨⟨I.ok.mod,S.kind,I.ok.glob,I.ok.blt,Y,λy z c f d=>I.ok.inj y z c (E y c f) (E z c d),λy x=>?_,λy c h _=>(by cases h),I.ok.hd,I.ok.frames,.inl rfl,λb l=>?_,I.bs,Pe I.ok.Yy I.sz,λb o e l=>?_,λb l z=>?_,I.stack,I.Tg⟩,
  W4,hg,⟨λb o e n _ _=>A b o e,λb o e n _ _=>⟨o.slots,A b o e⟩,λb o e n _=>a b o e n,λb o e _=>⟨o,A b o e⟩,λb xs e=>hs b _ e,λb o u e=>hs b _ e,λb h e=>hs.tb b h e⟩,⟨_,S1,λi y v f d h3=>?_⟩,λy c e=>?_,YS,λy c e=>?_,λp h=>absurd (show p∈([]:yab)from h) (by simp),Om,?_⟩
 -- every cell of the block is one of the body's
 have Um:∃k,((relabel sc X.env).names.lookup y=some k)/\(k=.cell∨k=.free):=by
  rcases x with x|x;exact⟨_,x,.inl rfl⟩;exact⟨_,x,.inr rfl⟩
 obtain⟨k,f,d⟩:=Um;rcases lN (env:=X.env) f d with⟨z,L,J,N⟩| ⟨z,L,J,N⟩;obtain⟨m1,m2⟩:=S.free z L N;subst J;obtain⟨c,hc⟩:=I.ok.has z.1 (.inl m2);exact⟨c,rG m1 hc⟩;exact absurd N (S.VU z L);refine⟨λz=>?_,λy c e z=>?_⟩;have z':b=C:=z;obtain⟨o,h⟩:=ZH b l;have QH:=OI h;rw[z']at QH;exact absurd (QL QH Y) (VG _);exact(Q b l).2.2.2.2.1 y c (E y c e) z;obtain⟨f0,f1,f2,p,f4,f5⟩:=Q b l;rcases p with p|p;exact I.ok.U3 b o e p;exact absurd (QL (OI (I.ok.bs b o e).1) p) (VG _);obtain⟨f0,f1,f2,p,f4,f5⟩:=Q b l;rcases Ov.mp (I.Sb b z)with e|e;exact f1 e;exact f2 e;by_cases M:i<xs.length;rw[UE (by simpa using M),zCv,N4 M]at d;cases d;have T:ns[i - xs.length]?=some y:=by have f:(xs++ns)[i]?=some y:=f;rw[Vg (by lia)]at f;exact f
 have r:(js.map (ko σ))[i - xs.length]?=some (some v):=by rw[Vg (by simpa using M)]at d;simpa using d
 generalize i - xs.length=i at T r;rw[Pw]at r;cases e:js[i]? with
 |none=>rw[e]at r;cases r
 |some j =>
  rw[e]at r;have G:ko σ j=some v:=SA r;have h5:σ[j]?=some (some v):=by unfold ko at G;split at G;rename_i u q;cases G;exact q;cases G
  have hN:=U.2 i j y e T;have w:y∈ns:=Qh T;obtain⟨c1,O⟩:=S.cells y w;obtain⟨m,hm,hl⟩:=I.loc;obtain⟨u,ru,lk⟩:=hl j y v hN h5 (.inr (.inl O));refine⟨u,ru,?_⟩;rcases lk with⟨k1,_⟩| ⟨_,c,J,o,h,m⟩;have Tn:X.env.scope.names.lookup y=some .local:=k1;rw[O]at Tn;cases Tn;exact .inr ⟨.inl (mn kd c1 O),c,rG w J,o,A c o h,m⟩
 obtain⟨v,z⟩:=g y c e;obtain⟨o,h,m⟩:=z;exact⟨v,o,A c o h,m⟩;obtain⟨v,o,h,m⟩:=g y c e;exact a c o h (I.Q2 y c (E y c e));show(List.replicate xs.length none++js.map (ko σ)).length=(xs++ns).length;simp[U.1]
def Xo(X:Cx)(a:yai)(t:DT):Prop :=
 ∀ (pins:yab) (s:Shared) (σ:St) (H:Hp) (W:Own) (b:Ro) (Q:Bool->Prop),Inv X pins σ H s->Rel X W H σ b->t b Q →
  wpAny (model X.prog X.w) X.A (forIn a true λc r=>if r=true then do let ok←isTrue c X.env (eval c X.env);pure (ForInStep.yield ok)else pure (ForInStep.yield r)) (DTP X pins σ H Q) X.xe s
def rH:DT:=λ_ Q=>Q true
def bE{X:Cx}:Xo X [] rH:=λ_ s σ H W a Q I r h=>wpAny_tests_nil ⟨H,I,aw.refl H,h⟩
def uC{X:Cx}(h:TP X c t):Xo X [c] t:=λpins s σ H W a Q I r q=>wpAny_tests_one (h pins s σ H W a Q I r q)
def j9(n:Nat)(b ρ:Ro):Prop:=∃a:Ro,a.length=n/\ρ=a++b
def DD{s:Shared}{R:Result->Shared->Prop}{g:Expr}{i:Value}(I:Nat->Shared->Prop)
  (b:∀n s,I n s->wpAny (model prog w) A (pyNext it) (λr k=>match r with
   |none=>R (.ok .next) k
   |some v=>wpAny (model prog w) A (letOwnedTupleGo target it v) (λ_ a=>wpAny (model prog w) A (assign target env v) (λ_ o =>
     wpAny (model prog w) A (forIn ifs true λc r=>if r=true then do let f←isTrue c env (eval c env);pure (ForInStep.yield f)else pure (ForInStep.yield r)) (λf j=>if f=true then wpAny (model prog w) A (eval elt env) (λx l =>
       wpAny (model prog w) A (call (.builtin "list.append") [i,x]) (λ_ d=>∃m,m<n/\I m d) (notedBy (model prog w) A env λe z=>R (.error e) z) l) (notedBy (model prog w) A env λe z=>R (.error e) z) j
      else∃m,m<n/\I m j) (notedBy (model prog w) A env λe z=>R (.error e) z) o) (notedBy (model prog w) A env λe z=>R (.error e) z) a) (notedBy (model prog w) A env λe z=>R (.error e) z) k) (notedBy (model prog w) A env λe z=>R (.error e) z) s)
  (n:Nat) (h:I n s):codeAny (model prog w) A (.compLoop (.ListComp elt [⟨target,g,ifs,0⟩] scope pos) 0 it i env) R s:=by
 refine codeAny_loop rfl I (λm z a=>?_) n h;refine wpAny_noted ?_;rw[compTurn_list];refine NY (wpAny_standAt (NY (SV (b m z a) (λr E a=>?_) λ_ _ q=>q)));cases r with
 |none=>exact wpAny_pure a
 |some v =>
  refine NY (SV a (λ_ C a=>?_) λ_ _ q=>q);refine NY (SV a (λ_ B g3=>NY (SV g3 (λf u a=>?_) λ_ _ q=>q)) λ_ _ q=>q);cases f with
  |false=>exact wpAny_pure ⟨rfl,a⟩
  |true=>exact NY (NY (SV a (λy t a=>NY (SV a (λ_ p a=>wpAny_pure (wpAny_pure ⟨rfl,a⟩)) λ_ _ q=>q)) λ_ _ q=>q))
def Rel.mutB{X:Cx}{H:Hp}{σ:St}(r:Rel X W H σ ρ)(g:W.B a)(f:H a=some (.lst vs))(h0:X.OV a=none) :
  Rel X W (L2.upd H a (.lst vs')) σ ρ/\∀ds i,aj X.K W.bad H ds i->aj X.K W.bad (L2.upd H a (.lst vs')) ds i:=by
 have m:∀b c,OZ X.K H b c->OZ X.K (L2.upd H a (.lst vs')) b c:=λb c q=>q.imp (λq=>by rw[aC (qJ q f (by intro z;cases z))];exact q) id
 have l:∀t b c,¬W.bad t b->QG X.K H t b c->¬W.bad t b/\QG X.K (L2.upd H a (.lst vs')) t b c:=λt b c n q=>by
  have c:b≠a:=λe=>n (.inl (e ▸ g))
  refine⟨n,?_,λz=>⟨by rw[aC c];exact(q.2 z).1,(q.2 z).2⟩⟩;rcases q.1 with(q|⟨o,q⟩)|q;exact .inl (.inl (by rw[aC c];exact q));exact .inl (.inr ⟨o,by rw[aC c];exact q⟩);exact .inr q
 have k:∀b u,Wq u->H b=some u->L2.upd H a (.lst vs') b=some u:=λb u n q=>by rw[aC (qJ q f (by intro z;subst z;exact n))];exact q
 have c:∀b o,H b=some o->∃d,L2.upd H a (.lst vs') b=some d:=λb o q=>by by_cases d:b=a;subst d;exact⟨_,aR⟩;exact⟨o,by rw[aC d];exact q⟩
 refine⟨⟨λj d h=>?_,λj y h=>?_,r.inj,λj b a=>?_,r.ke,λb a=>let ⟨o,q⟩:=r.bt b a;c b o q,λb a=>let ⟨o,q⟩:=r.st b a;c b o q,r.ent.ins h0 f True.intro True.intro,r.tab.upd True.intro (.inr ⟨_,f,(λ_ z=>by cases z),True.intro⟩)⟩,aj.map m l k⟩;obtain⟨v,c,f⟩:=r.val j d h;exact⟨v,c,Den.map m l k d v f⟩;obtain⟨b,o,c,f,n,d⟩:=r.own j y h;exact⟨b,o,c,f,by rw[aC (λe=>(r.kn j b c).2.1.1 (by rw[e];exact g))];exact n,d.map (aj.map m l k) λk c q=>⟨q,λi z=>by rw[aC (λe=>(r.kn _ c q).2.1.1 (by rw[e];exact g))];exact z⟩⟩;obtain⟨h,c,o,f,d⟩:=r.kn j b a;exact⟨h,c,o,by rw[aC (λe=>c.1 (by rw[e];exact g))];exact f,d⟩
def Cu(X:Cx)(sc:Scope)(ns:yah)(RR:Value->Addr->Result->Shared->Prop)(D C:Addr):yaa:=notedBy (model X.prog X.w) X.A (compEnvC sc (dW X.env ns) C X.env) λe a=>RR (.ref D) C (.error e) a
def d8.no{X:Cx}:d8 X λ_=>False:=λ_ _ _ _ _ _ _ _ _ _ h=>by obtain⟨_,_,_,_,_,_,_,_,_,_,_,_,_,z⟩:=h;exact z.elim
end
abbrev DM:=Ro->(LI->Prop)->Prop
def Nb(K:yac)(P:yak)(H H':Hp):LI->V->Prop
 |.own d,v=>∃a c,v=.ref a/\H a=none/\K.lookup a=none/\H' a=some (.lst c)/\aj K (λt b=>P t b∨b=a) H' d c
 |.val d,v=>Den K P H' d v
def PEM(X:Cx)(e:Expr)(t:DM):Prop :=
 ∀ (a:yab) (s:Shared) (b:St) (H:Hp) (W:Own) (c:Ro) (Q:LI->Prop),Inv X a b H s->Rel X W H b c->t c Q →
  wpAny (model X.prog X.w) X.A (eval e X.env) (λu e=>∃v c d,Inv X a b c e/\RelV v u/\aw H c/\Nb X.K W.bad H c d v/\Q d) X.xe s
structure iu(K:yac)(H:Hp)(D:Addr)(n:Nat)(bs:yaj):Prop where
 ok:∀k b,bs k=some b->k<n/\H b=none/\K.lookup b=none/\b≠D
 inj:∀k l b,bs k=some b->bs l=some b->k=l
def iu.nil{K:yac}{H:Hp}{D:Addr}{n:Nat}:iu K H D n λ_=>none:=⟨by lia,by lia⟩
def iu.up{K:yac}{H:Hp}{D:Addr}{n m:Nat}{bs:yaj}(h:iu K H D n bs)(l:n<=m):iu K H D m bs:=⟨λk b q=>let ⟨a,r⟩:=h.ok k b q;⟨QL a l,r⟩,h.inj⟩
def iu.put{K:yac}{H:Hp}{D a:Addr}{c:List LI}{x:LI}{bs:yaj}(h:iu K H D c.length bs)(n:H a=none)(k:K.lookup a=none)(d:a≠D)(f:∀k,bs k=some a->False) :
  iu K H D (c++[x]).length λk=>if k=c.length then some a else bs k:=⟨λl b q=>by
  rw[QZ,Z5];by_cases e:l=c.length;rw[N4 e]at q;cases q;exact⟨by lia,n,k,d⟩;rw[N2 e]at q;obtain⟨i,a⟩:=h.ok l b q;exact⟨by lia,a⟩,λl m b d a=>by
  by_cases g:l=c.length;by_cases e:m=c.length;rw[g,e];rw[N4 g]at d;rw[N2 e]at a;cases d;exact(f m a).elim;by_cases e:m=c.length;rw[N2 g]at d;rw[N4 e]at a;cases a;exact(f l d).elim;rw[N2 g]at d;rw[N2 e]at a;exact h.inj l m b d a⟩
section
variable{K:yac}{P:yak}{H:Hp}{B:yaj}
theorem br.Sg(f:Den K P H d v):∀{k:Nat} {xs:List LI} {vs:yaq},br K P H B k xs vs->br K P H B k (xs++[.val d]) (vs++[v])
 |k,[],_,h=>by subst h;simp only[UZ,br];simp_all
 |k,.own i::r,_,h=>by obtain⟨b,d,u,rfl,c,a,g,e⟩:=h;exact⟨b,d,_,rfl,c,a,g,br.Sg f e⟩
 |k,.val e::r,_,h=>by obtain⟨w,u,rfl,c,a⟩:=h;exact⟨w,_,rfl,c,br.Sg f a⟩
theorem br.Si{a:Addr}:∀{k:Nat} {xs:List LI} {vs:yaq},br K P H B k xs vs->B (k+xs.length)=some a->H a=some (.lst ws)->aj K P H ds ws->br K P H B k (xs++[.own ds]) (vs++[.ref a])
 |k,[],_,h,f,d,c=>by subst h;exact⟨a,ws,[],rfl,by simp_all,d,c,rfl⟩
 |k,.own l::r,_,h,f,d,c=>by obtain⟨b,e,u,rfl,g,a,j,i⟩:=h;exact⟨b,e,_,rfl,g,a,j,br.Si i (by rw[<- f];congr 1;simp;lia) d c⟩
 |k,.val e::r,_,h,f,d,c=>by obtain⟨w,u,rfl,g,a⟩:=h;exact⟨w,_,rfl,g,br.Si a (by rw[<- f];congr 1;simp;lia) d c⟩
end
section
variable{X:Cx}
def Rel.ban{o:HO}(r:Rel X W H σ ρ)(sm:aw H H')(u:H p=none)(y:X.K.lookup p=none)(h':H' p=some o) :
  Rel X ⟨λb=>W.B b∨b=p,W.O,W.S⟩ H' σ ρ/\∀ds vs,aj X.K W.bad H ds vs->aj X.K (Own.bad ⟨λb=>W.B b∨b=p,W.O,W.S⟩) H' ds vs:=by
 have h:∀t a,Own.bad ⟨λb=>W.B b∨b=p,W.O,W.S⟩ t a->W.bad t a∨a=p:=λt a z=>by
  rcases z with(z|z)|z|z;exact .inl (.inl z);exact .inr z;exact .inl (.inr (.inl z));exact .inl (.inr (.inr z))
 have g:∀{t:Bool} {a:Addr} {c:yaq},QG X.K H t a c->a≠p:=fun {t a c} q z=>by
  rcases q.1 with(q|⟨o,q⟩)|⟨o,N5,n,q,_⟩
  all_goals lia
 have k:∀(d:D) (v:V),Den X.K W.bad H d v->Den X.K (Own.bad ⟨λb=>W.B b∨b=p,W.O,W.S⟩) H' d v:=Den.map (λ_ _ q=>OZ.same sm q) (λt a c n q=>⟨λz=>(h t a z).elim n (g q),q.same sm⟩) (λa _ n q=>sm.kp a _ q n.nt);have f:∀(ds:yar) (e:yaq),aj X.K W.bad H ds e->aj X.K (Own.bad ⟨λb=>W.B b∨b=p,W.O,W.S⟩) H' ds e:=aj.map (λ_ _ q=>OZ.same sm q) (λt a c n q=>⟨λz=>(h t a z).elim n (g q),q.same sm⟩) (λa _ n q=>sm.kp a _ q n.nt);refine⟨⟨λj d h=>?_,λj x h=>?_,r.inj,λj a e=>?_,r.ke,λa h=>?_,λa h=>let ⟨_,q⟩:=r.st a h;sm.ex q,r.ent.trans sm,r.tab.same sm⟩,f⟩;obtain⟨w,e,g⟩:=r.val j d h
 simp_all
 obtain⟨a,c,e,g,i,d⟩:=r.own j x h;exact⟨a,c,e,g,sm.kp _ _ i d.Vr.nt,d.map f λl b q=>⟨q,λ_ z=>sm _ _ z⟩⟩;obtain⟨f,⟨s,m⟩,c,d,b⟩:=r.kn j a e;exact⟨f,by lia,c,sm.kp _ _ d b.nt,b⟩;rcases h with h|h;obtain⟨_,q⟩:=r.bt a h;exact sm.ex q;grind
end
section
variable{X:Cx}{pins:yab}{σ:St}{H:Hp}{s:Shared}{sc:Scope}{ns:yah}{js:yag}{xs:yah}{fp:yae}
def UU(X:Cx)(sc:Scope)(ns xs:yah)(cl:List (Str×Addr))(fn:Str->Bool)(C:Addr)(c:Shared)(b:Hp)(fp:yae)(a:yaa):Cx :=
 {X with N:=xs++ns,Oy:=c,OV:=b,env:=compEnvC sc cl C X.env,outer:=X.stack,stack:=X.stack,ex:=fp,fn:=fn,pn:=[],xe:=a}
def et(X:Cx)(sc:Scope)(cl:List (Str×Addr))(RR:Value->Addr->Result->Shared->Prop)(D C:Addr):yaa:=notedBy (model X.prog X.w) X.A (compEnvC sc cl C X.env) λe a=>RR (.ref D) C (.error e) a
set_option tactic.hygienic true in
def DH{m:Expr}{QF:Heap}(hc:X.calm=true)
  (he:PEM (UU X sc ns xs cl fn C s H fp (et X sc cl RR w C)) elt te) (ht:Xo (UU X sc ns xs cl fn C s H fp (et X sc cl RR w C)) ifs tc) (hg:Wu (UU X sc ns xs cl fn C s H fp (et X sc cl RR w C)) tg g) (I:Inv X pins σ H s) (r:Rel X W H σ ρ) (T:Turn X.prog X.w X.K tg J fp it tn) (st:tn 0 s.heap) (Vu:∀b∈fp,eO X pins H b) (yd:YD X.K W H J ds) (hz:ds.length<=sizeLine)
  (Pv:Nat->List LI->Prop) (p0:Pv 0 []) (step:∀j d f a,ds[j]?=some d->Pv j f->j9 xs.length (js.map (bF ρ)) a->g d a λL=>j9 xs.length (js.map (bF ρ)) L/\tc L λb=>if b=true then te L (λe=>Pv (j+1) (f++[e]))else Pv (j+1) f)
  (hRR:∀(N:Shared) (H':Hp) (h:yal) (f:List LI) (bs:yaj),Inv X pins σ H' N->aw H H'->N.heap.Ns C h->H' C=none->C≠X.env.locals->X.Oy.heap.objs.size<=C->(∀y c,X.env.cells.lookup y=some c->c≠C)->(∀p∈X.pn++pins,p.1≠C) →
   (H w=none/\X.K.lookup w=none/\∃vs,H' w=some (.lst vs)/\iu X.K H w f.length bs/\(∀k b,bs k=some b->∃A,H' b=some (.lst A))/\br X.K (λt b=>W.bad t b∨b=w∨∃ k,bs k=some b) H' bs 0 f vs)->Pv ds.length f->RR (.ref w) C (.ok .next) N)
  (WA:H w=none) (hKD:X.K.lookup w=none) (leD:s.heap.objs.size<=w) (To:s.heap.objs.size<=C) (old:∀b o,s.heap.get? b=some o->QF.get? b=some o) (O:∀y c,cl.lookup y=some c->X.env.cells.lookup y=some c∨s.heap.objs.size<=c)
  (I1:Inv (UU X sc ns xs cl fn C s H fp (et X sc cl RR w C)) [] (List.replicate xs.length none++js.map (ko σ)) (L2.upd H w (.lst [])) {s with heap:=QF,toks:=s.toks+([]:List (Str×Value)).length}) :
  codeAny (model X.prog X.w) X.A (.compStart (.ListComp elt [⟨tg,m,ifs,0⟩] sc pos) 0 (.ref it) (.ref w) (compEnvC sc cl C X.env)) (RR (.ref w) C) {s with heap:=QF,toks:=s.toks+([]:List (Str×Value)).length}:=by
 have ZH:∀b∈fp,∃o,s.heap.get? b=some o:=λb g=>let ⟨o,e,_⟩:=T.obj 0 s.heap st b g;⟨o,e⟩
 have h:∀{a:Addr} {ws:yaq},SqL X.K H a ws->a≠w:=fun {a ws} q z=>by
  subst z;rcases q with(q|⟨o,q⟩)|⟨o,N5,n,q,_⟩;rw[WA]at q;cases q;rw[WA]at q;cases q;rw[hKD]at q;cases q
 let B:Own:=⟨λa=>W.bad false a∨a=w,λ_=>none,W.S⟩
 have Tj:∀t a,B.bad t a↔(W.bad t a∨a=w):=λt a=>⟨λz=>by
  rcases z with(z|z)|⟨_,q⟩| ⟨Y,Q⟩;exact .inl (Own.Ti z);exact .inr z;cases q;exact .inl (.inr (.inr ⟨Y,Q⟩)),λz=>by
  rcases z with z|z;rcases z with z|z|z;exact .inl (.inl (.inl z));exact .inl (.inl (.inr (.inl z)));exact .inr (.inr z);exact .inl (.inr z)⟩
 have hT:∀{H':Hp},aw H H'->∀a vs,OZ X.K H a vs->OZ X.K H' a vs:=λsm a vs q=>OZ.same sm q
 have hL:∀{H':Hp},aw H H'->∀t a vs,¬W.bad t a->QG X.K H t a vs->¬B.bad t a/\QG X.K H' t a vs:=λsm t a vs n q=>⟨λz=>((Tj t a).mp z).elim n (h q.1),q.same sm⟩
 have J:Rel (UU X sc ns xs cl fn C s H fp (et X sc cl RR w C)) B (L2.upd H w (.lst [])) (List.replicate xs.length none++js.map (ko σ)) (List.replicate xs.length none++js.map (bF ρ)):=by
  have sm:aw H (L2.upd H w (.lst [])):=aw.upd WA;have M:∀{i:Nat} {z:Sl},(List.replicate xs.length none++js.map (bF ρ))[i]?=some (some z)->¬i<xs.length/\(js.map (bF ρ))[i - xs.length]?=some (some z):=fun {i z} h=>by by_cases G:i<xs.length;rw[UE (by simpa using G),zCv,N4 G]at h;cases h;rw[Vg (by simpa using G)]at h;exact⟨G,by simpa using h⟩
  refine⟨λi d h=>?_,λi x h=>?_,λi j a h _=>(by cases h),λi a h=>(by cases h),λi a h=>(by cases h),λa h=>?_,λa h=>?_,sm,r.tab.same sm⟩;obtain⟨G,l⟩:=M h;rw[Pw]at l;cases e:js[i - xs.length]? with
  |none=>rw[e]at l;cases l
  |some j =>
   rw[e]at l;have E:bF ρ j=some (.val d):=SA l;have U:ρ[j]?=some (some (.val d)):=by unfold bF at E;split at E;rename_i u q;cases E;exact q;cases E
   obtain⟨v,e1,e2⟩:=r.val j d U;refine⟨v,?_,Den.map (hT sm) (hL sm) (λa _ n q=>sm.kp a _ q n.nt) d v e2⟩;rw[Vg (by simpa using G)];show(js.map (ko σ))[i - (List.replicate xs.length (none:Option V)).length]?=some (some v);rw[List.length_replicate,Pw,e];show some (ko σ j)=some (some v);unfold ko;rw[e1]
  obtain⟨G,l⟩:=M h;rw[Pw]at l;cases e:js[i - xs.length]? with
  |none=>rw[e]at l;cases l
  |some j =>
   rw[e]at l;have E:bF ρ j=some (.ob x):=SA l;unfold bF at E;split at E<;>cases E
  rcases h with h|h;obtain⟨o,q⟩:=r.tracked false a h;exact sm.ex q;rw[h];exact⟨_,aR⟩;obtain⟨o,q⟩:=r.st a h;exact sm.ex q
 have VY:∀{H':Hp},(∀b∈fp,H' b=none)->∀b∈fp,eO (UU X sc ns xs cl fn C s H fp (et X sc cl RR w C)) [] H' b:=λhn b g=>by
  obtain⟨f0,r,U,M,l,G⟩:=Vu b g;obtain⟨o,j⟩:=ZH b g;refine⟨hn b g,λz=>?_,λz=>?_,.inl g,λy c e z=>(O y c e).elim (λe=>l y c e z) λq=>absurd (OI j) (by rw[<- z];exact VJ.mpr q),λp hp=>absurd (show p∈([]:yab)from hp) (by simp)⟩;have O:b=C:=z;have QH:=OI j;rw[O]at QH;exact absurd (QL QH To) (VG _);rcases Ov.mp (I.Sb b z)with e|e;exact r e;exact U e
 have Vq:∀b∈fp,(b∈X.ex∨X.Oy.heap.objs.size<=b)/\b≠X.env.locals/\(∀x c,X.env.cells.lookup x=some c->c≠b)/\∀p∈X.pn++pins,p.1≠b:=λb g=>by obtain⟨f0,r,U,M,l,G⟩:=Vu b g;exact⟨M,r,l,G⟩
 have BD0:B.B w:=.inr rfl;have M:∀l:Shared,l={s with heap:=QF,toks:=s.toks+([]:List (Str×Value)).length} →
   codeAny (model X.prog X.w) X.A (.compLoop (.ListComp elt [⟨tg,m,ifs,0⟩] sc pos) 0 (.ref it) (.ref w) (compEnvC sc cl C X.env)) (RR (.ref w) C) l:=by
  rintro l rfl;refine DD (λn N=>∃(i:Nat) (O:Own) (U:St) (L:Ro) (H':Hp) (f:List LI) (vs:yaq) (bs:yaj),n=ds.length - i/\i<=ds.length/\Inv (UU X sc ns xs cl fn C s H fp (et X sc cl RR w C)) [] U H' N/\tn i N.heap/\(∀b∈fp,H' b=none) ∧
   H' w=some (.lst vs)/\(O.B=(λa=>B.B a∨∃ k,bs k=some a)/\O.S=B.S)/\iu X.K H w f.length bs/\(∀k b,bs k=some b->∃A,H' b=some (.lst A))/\br X.K O.bad H' bs 0 f vs/\aw H H'/\Rel (UU X sc ns xs cl fn C s H fp (et X sc cl RR w C)) O H' U L/\j9 xs.length (js.map (bF ρ)) L/\Pv i f/\f.length<=i) ?_ ds.length
   ⟨0,B,_,_,_,[],[],λ_=>none,by simp,QI _,I1,T.keep 0 s.heap QF st (λb g o e=>old b o e),λb g=>?_,aR,⟨by funext a;simp,rfl⟩,iu.nil,(λ_ _ h=>by cases h),by simp only[br],aw.upd WA,J,⟨_,by simp,rfl⟩,p0,OP _⟩
  rotate_left
  obtain⟨o,j⟩:=ZH b g;rw[aC (λz=>absurd (OI j) (by rw[z];exact VJ.mpr leD))];exact(Vu b g).1;rintro n s3 ⟨i,O,U,L,H3,f,vs,bs,en,hle,I3,st3,fr3,hD3,G,Xp,hls,N,r,x,J,p3,ol⟩;have nb2:∀{j:Own} {H':Hp} {l:St} {m:Ro},(j.B=(λa=>B.B a∨∃ k,bs k=some a)/\j.S=B.S)->Rel (UU X sc ns xs cl fn C s H fp (et X sc cl RR w C)) j H' l m->aw H H'->∀t a vs,¬W.bad t a->QG X.K H t a vs->¬j.bad t a/\QG X.K H' t a vs:=fun {j H' l m} hw rl sm t a vs n q=>by
   refine⟨λz=>?_,q.same sm⟩;rcases z with z|⟨k,z⟩| ⟨Y,Q⟩;rw[hw.1]at z;rcases z with z|⟨k,z⟩;exact(hL sm t a vs n q).1 (.inl z);obtain⟨_,l,kk,_⟩:=Xp.ok k a z;rcases q.1 with(j|⟨o,j⟩)|⟨o,N5,m,j,_⟩;rw[l]at j;cases j;rw[l]at j;cases j;rw[kk]at j;cases j;have l:H a=none:=rl.ke k a z;rcases q.1 with(j|⟨o,j⟩)|⟨o,N5,m,j,_⟩;rw[l]at j;cases j;rw[l]at j;cases j;have kk:X.K.lookup a=none:=(rl.kn k a z).1;rw[kk]at j;cases j;rw[hw.2]at Q;exact(hL sm t a vs n q).1 (.inr (.inr ⟨Y,Q⟩))
  obtain⟨j,Q,ys⟩:=yd O.bad H3 (hT r) (nb2 G x r) (λa _ n q=>r.kp a _ q n.nt) i;by_cases QH:i<ds.length;refine Oa (T.item (UU X sc ns xs cl fn C s H fp (et X sc cl RR w C)) rfl rfl rfl hc i [] s3 _ H3 _ I3 (VY fr3) st3 (j QH)) λrr s4 ⟨u,hr,E⟩=>?_
  subst hr;refine Oa E λ_ s5 E=>?_
  obtain⟨Y,H5,I5,r5,y5,YN,j⟩:=E;obtain⟨e5,d,hd,Rr⟩:=Q Y H5 y5 QH;have Q:=I5.pinned (VY j) (T.obj _ _ YN);have X2:=x.same e5;have sm5:aw H H5:=r.trans e5;refine SV (hg _ s5 U H5 O L d Y u _ Q X2 r5 Rr (step i d f L hd p3 J)) (λ_ s6 E=>?_) (λ_ _ z=>z);obtain⟨j,Q,H6,U,I6,J,u,L,q6⟩:=E;have x:j.B=(λa=>B.B a∨∃ k,bs k=some a)/\j.S=B.S:=⟨J.B.trans G.1,J.S.trans G.2⟩;have Y:aw H H6:=⟨λb o e n=>J.kp b o (λk z=>by have l:H b=none:=X2.ke k b z;rw[e]at l;cases l) (sm5.kp b o e n) n,(λb l e=>by obtain⟨n,e1⟩:=sm5.tb b l e;obtain⟨l,e2⟩:=J.tb b _ e1;exact⟨n++l,by rw[e2,Array.append_assoc]⟩),λh=>J.ok (sm5.ok h)⟩;have BD:B.B w:=.inr rfl;have hD6:H6 w=some (.lst vs):=J.keep w _ (λk z=>(X2.kn k w z).2.1.1 (by rw[G.1];exact .inl BD)) (e5 _ _ hD3);have h:br X.K O.bad H5 bs 0 f vs:=N.map (λ_ _ z=>z.same e5) λ_ _ q=>⟨q,λ_ z=>e5 _ _ z⟩
  have YT:∀k b,bs k=some b->∃A,H6 b=some (.lst A):=λk b q=>let ⟨A,z⟩:=hls k b q;⟨A,J.keep b _ (λl y=>(X2.kn l b y).2.1.1 (by rw[G.1];exact .inr ⟨k,q⟩)) (e5 _ _ z)⟩
  have n:br X.K j.bad H6 bs 0 f vs:=h.map (λ_ _ z=>aj.fwd X2 u J z) λk b q=>⟨q,λA z=>J.keep b _ (λl y=>(X2.kn l b y).2.1.1 (by rw[G.1];exact .inr ⟨k,q⟩)) z⟩
  have X5:∀{h:St} {O:Hp} {J:Shared},Inv (UU X sc ns xs cl fn C s H fp (et X sc cl RR w C)) ([]++ui fp s5.heap) h O J->tn (i+1) J.heap/\∀b∈fp,O b=none:=fun {h O J} l=>by refine⟨T.keep _ _ _ YN λb g o e=>(l.pin (b,o) (RA _ (RA _ (jP g e)))).1,λb g=>?_⟩;obtain⟨o,e,_⟩:=T.obj _ _ YN b g;exact(l.pin (b,o) (RA _ (RA _ (jP g e)))).2.1
  refine SV (ht _ s6 _ H6 j _ _ I6 u q6) (λb J E=>?_) (λ_ _ z=>z);obtain⟨O,l,h,q7⟩:=E;cases b with
  |false =>
   rw[N2 UG]at q7;rw[N2 UG];obtain⟨t7,f7⟩:=X5 l;exact⟨ds.length - (i+1),by lia,i+1,j,Q,U,O,f,vs,bs,rfl,QH,l.QN,t7,f7,h _ _ hD6,x,Xp,(λk b q=>let ⟨A,z⟩:=YT k b q;⟨A,h _ _ z⟩),n.map (λ_ _ z=>z.same h) (λ_ _ q=>⟨q,λ_ z=>h _ _ z⟩),Y.trans h,u.same h,L,q7,by lia⟩
  |true =>
   rw[N4 rfl]at q7;rw[N4 rfl];refine SV (he _ J _ O j _ _ l (u.same h) q7) (λu8 s8 E=>?_) (λ_ _ z=>z);obtain⟨v8,H8,e8,I8,r8,ZI,hd8,q8⟩:=E;have Xq:=h.trans ZI;have J:=Xq _ _ hD6;have l:=u.same h;have YU:br X.K j.bad O bs 0 f vs:=n.map (λ_ _ z=>z.same h) λ_ _ q=>⟨q,λ_ z=>h _ _ z⟩
   have smH:aw H H8:=Y.trans Xq;obtain⟨u,O,hW8,YV,hls8,rl8,hds8,n⟩:∃(u:Own) (O:yaj),(u.B=(λa=>B.B a∨∃ k,O k=some a)/\u.S=B.S)/\iu X.K H w (f++[e8]).length O/\(∀k b,O k=some b->∃A,H8 b=some (.lst A))/\Rel (UU X sc ns xs cl fn C s H fp (et X sc cl RR w C)) u H8 Q U/\br X.K u.bad H8 O 0 (f++[e8]) (vs++[v8])/\vs.length=f.length:=by
    have ln:=YU.len;cases e8 with
    |val d =>
     refine⟨j,bs,x,Xp.up (by simp),(λk b q=>let ⟨A,z⟩:=YT k b q;⟨A,Xq _ _ z⟩),l.same ZI,?_,ln⟩;exact(YU.map (λ_ _ z=>z.same ZI) λ_ _ q=>⟨q,λ_ z=>ZI _ _ z⟩).Sg hd8
    |own Vt =>
     obtain⟨a,ws,rfl,d,ka,B,Ur⟩:=hd8;obtain⟨rb,db⟩:=l.ban ZI d ka B;have nH:H a=none:=(Y.trans h).free d;have Y:a≠w:=λz=>by rw[z,h _ _ hD6]at d;cases d
     refine⟨⟨λb=>j.B b∨b=a,j.O,j.S⟩,λk=>if k=f.length then some a else bs k,⟨?_,x.2⟩,Xp.put nH ka Y (λk z=>?_),(λk b q=>?_),rb,?_,ln⟩
     funext b
     show(j.B b∨b=a)=_;rw[x.1];refine propext ⟨λz=>?_,λz=>?_⟩;rcases z with(z|⟨k,z⟩)|z;exact .inl z;exact .inr ⟨k,by show(if k=f.length then some a else bs k)=some b;rw[N2 (PN (Xp.ok k b z).1)];exact z⟩;exact .inr ⟨f.length,by show(if f.length=f.length then some a else bs f.length)=some b;rw[N4 rfl,z]⟩;rcases z with z|⟨k,z⟩;exact .inl (.inl z);have z:(if k=f.length then some a else bs k)=some b:=z;by_cases h:k=f.length;rw[N4 h]at z;cases z;exact .inr rfl;rw[N2 h]at z;exact .inl (.inr ⟨k,z⟩);obtain⟨o,j⟩:=l.bt a (by rw[x.1];exact .inr ⟨k,z⟩);rw[j]at d;cases d;have q:(if k=f.length then some a else bs k)=some b:=q;by_cases h:k=f.length;rw[N4 h]at q;cases q;exact⟨_,B⟩;rw[N2 h]at q;obtain⟨A,z⟩:=YT k b q;exact⟨A,Xq _ _ z⟩;refine br.Si (YU.map (B':=λk=>if k=f.length then some a else bs k) (λds vs z=>db ds vs z) λk b q=>⟨by show(if k=f.length then some a else bs k)=some b;rw[N2 (PN (Xp.ok k b q).1)];exact q,λ_ z=>ZI _ _ z⟩) (by simp) B (Ur.OB λt b z=>?_);rcases z with(z|z)|z|z;exact .inl (.inl z);exact .inr z;exact .inl (.inr (.inl z));exact .inl (.inr (.inr z))
   have j:u.B w:=by rw[hW8.1];exact .inl BD
   refine SV (wJ (X:=UU X sc ns xs cl fn C s H fp (et X sc cl RR w C)) _ s8 _ H8 (.ref w) [v8] (.ref w) [u8] (λ_ H'=>H'=L2.upd H8 w (.lst (vs++[v8]))) I8 rfl (.cons r8 .nil) ⟨w,vs,v8,rfl,rfl,J,by rw[n];lia,rfl⟩) (λ_ s9 E=>?_) (λ_ _ z=>z);obtain⟨v9,H9,l,_,d⟩:=E;subst d;obtain⟨n,x⟩:=X5 l;obtain⟨d,h⟩:=rl8.mutB (vs':=vs++[v8]) j J WA;exact⟨ds.length - (i+1),by lia,i+1,u,Q,U,_,f++[e8],vs++[v8],O,rfl,QH,l.QN,n,x,aR,hW8,YV,(λk b q=>let ⟨A,z⟩:=hls8 k b q;⟨A,by rw[aC (YV.ok k b q).2.2.2];exact z⟩),hds8.map h (λk b q=>⟨q,λA z=>by rw[aC (YV.ok k b q).2.2.2];exact z⟩),smH.ins WA J True.intro True.intro,d,L,q8,by rw[QZ,Z5];lia⟩
  have e:i=ds.length:=by lia
  refine Oa (T.done (UU X sc ns xs cl fn C s H fp (et X sc cl RR w C)) rfl rfl rfl hc i [] s3 _ H3 _ I3 (VY fr3) st3 (ys (by lia))) λrr s4 E=>?_
  obtain⟨hr,d⟩:=E;subst hr;subst e;have i:Inv X pins σ H3 s4:=I.VO d.os d.base d.Om d.bare Vq;obtain⟨m,h,_⟩:=d.loc;exact hRR s4 H3 m f bs i r h d.free (λz=>absurd I.lt (by rw[<- z];exact VJ.mpr To)) (Pe I.sz To) (λy c e z=>by
   obtain⟨v,q⟩:=I.cell y c e;exact absurd q.lt (by rw[z];exact VJ.mpr To)) (λp hp z=>absurd (OI (I.pin p hp).1) (by rw[z];exact VJ.mpr To))
   ⟨WA,hKD,_,hD3,Xp,hls,N.map (λ_ _ z=>z.OB λt a z=>(by
    rcases z with z|z;rcases(Tj t a).mpr (.inl z)with q|⟨k,q⟩| q;exact .inl (by rw[G.1];exact .inl q);cases q;exact .inr (.inr ⟨q.1,by rw[G.2];exact q.2⟩);rcases z with z|z;exact .inl (by rw[G.1];exact .inl (z ▸ BD0));exact .inl (by rw[G.1];exact .inr z))) λ_ _ q=>⟨q,λ_ z=>z⟩⟩ p3
 exact codeAny_compStart_list (M _ rfl) (T.self _ 0 _ _ _ (T.keep 0 s.heap QF st (λb g o e=>old b o e)) (M _ rfl))
set_option tactic.hygienic true in
def Ak{u m w:Expr}{q:yai}{pos:Pos}{g:DG}{te:DM}{tc:DT}{W:Own}{ρ:Ro}{J:It}{M:Addr}{tn:Nat->Heap->Prop}{ds:yar}{E:yaa}{RR:Value->Addr->Result->Shared->Prop}(hc:X.calm=true)(S:Xn X.env.scope sc xs ns)
  (hj:js.length=ns.length/\∀(i:Nat) (j:Nat) (n:Str),js[i]?=some j->ns[i]?=some n->X.N[j]?=some n)
  {Ed:Value->Prop} (he:∀(C:Addr) (l:Shared) (h:Hp) (fp:yae) (f:yaa),d8 (bH X sc ns xs C l h fp f) Ed->PEM (bH X sc ns xs C l h fp f) u te) (ht:∀(C:Addr) (l:Shared) (h:Hp) (fp:yae) (f:yaa),d8 (bH X sc ns xs C l h fp f) Ed->Xo (bH X sc ns xs C l h fp f) q tc)
  (N:∀D C:Addr,d8 (bH X sc ns xs C s H fp (Cu X sc ns RR D C)) Ed) (I:Inv X pins σ H s) (r:Rel X W H σ ρ) (hg:∀(C:Addr) (l:Shared) (h:Hp) (fp:yae) (f:yaa),Wu (bH X sc ns xs C l h fp f) w g) (T:Turn X.prog X.w X.K w J fp M tn) (st:tn 0 s.heap) (U:∀b∈fp,eO X pins H b) (Y:YD X.K W H J ds) (hz:ds.length<=sizeLine)
  (Pv:Nat->List LI->Prop) (p0:Pv 0 []) (step:∀j d a G,ds[j]?=some d->Pv j a->j9 xs.length (js.map (bF ρ)) G->g d G λz=>j9 xs.length (js.map (bF ρ)) z/\tc z λb=>if b=true then te z (λe=>Pv (j+1) (a++[e]))else Pv (j+1) a)
  (A:∀(D C:Addr) (x:Shared) (H':Hp) (O:yal) (a:List LI) (bs:yaj),Inv X pins σ H' x->aw H H'->x.heap.Ns C O->H' C=none->C≠X.env.locals->X.Oy.heap.objs.size<=C->(∀y c,X.env.cells.lookup y=some c->c≠C)->(∀p∈X.pn++pins,p.1≠C) →
   (H D=none/\X.K.lookup D=none/\∃vs,H' D=some (.lst vs)/\iu X.K H D a.length bs/\(∀k b,bs k=some b->∃L,H' b=some (.lst L))/\br X.K (λt b=>W.bad t b∨b=D∨∃ k,bs k=some b) H' bs 0 a vs)->Pv ds.length a->RR (.ref D) C (.ok .next) x) :
  wpAny (model X.prog X.w) X.A (newList []) (λo Q8=>wpAny (model X.prog X.w) X.A (newFunctionEnv sc X.env.globals (dW X.env ns) [] X.env.qual none .none (some X.env)) (λB Q =>
   codeAny (model X.prog X.w) X.A (.compStart (.ListComp u [⟨w,m,q,0⟩] sc pos) 0 (.ref M) o {B with scope:=relabel sc X.env}) (RR o B.locals) Q) E Q8) E s:=by
 refine Wk (wpAny_newFunctionEnv S.VU (by intro y a;simp at a) (λk G j=>?_) S.kind);dsimp only at G j ⊢;generalize Xr:s.heap.push {cls:=.type "list", dict:=none,data:=.seq ([]:yad).toArray}=HP at G j ⊢;have B:HP.objs.size=s.heap.objs.size+1:=by rw[<- Xr,WU]
 have f:s.heap.objs.size≠HP.objs.size:=by rw[B];exact PN (VD _)
 have L:s.heap.objs.size<=HP.objs.size:=by rw[B];exact Nat.le_succ _
 have h:∀b,b<s.heap.objs.size->b≠HP.objs.size:=λb p=>by rw[B];exact PN (XQ p)
 have a:∀b o,s.heap.get? b=some o->k.get? b=some o:=λb o e=>j.extBut b o (h b (OI e)) (Ph _ (Xr ▸ Ph _ e))
 have O:k.get? s.heap.objs.size=some {cls:=.type "list", data:=.seq ([]:yad).toArray}:=j.extBut _ _ f (Ph _ (Xr ▸ Q7 _ rfl));generalize eD:s.heap.objs.size=D at f O;generalize eC:HP.objs.size=C at *;have Q:H D=none:=by rw[<- eD];exact I.Om.fresh (OP _)
 have t:X.K.lookup D=none:=by rw[<- eD];exact Inv.QQ I
 have x:H C=none:=I.Om.fresh L;have ZH:∀b∈fp,∃o,s.heap.get? b=some o:=λb p=>let ⟨o,e,_⟩:=T.obj 0 s.heap st b p;⟨o,e⟩
 have d:s.heap.objs.size<=D:=Nat.le_of_eq eD;have l:QJ X.prog X.w (L2.upd H D (.lst [])) k:=I.Om.laid a d ⟨QI _,[],0,.nil,O⟩;have i:∀o,L2.upd H D o C=none:=λo=>by rw[aC (Ne.symm f)];exact x
 have I1:Inv (bH X sc ns xs C s H fp (Cu X sc ns RR D C)) [] (List.replicate xs.length none++js.map (ko σ)) (L2.upd H D (.lst [])) {s with heap:=k,toks:=s.toks+([]:List (Str×Value)).length} :=
  Inv.comp I S hj U ZH L rfl I.bare a G (i _) (aw.upd Q) (λb o e n=>by rw[aC (λz=>absurd (OI e) (by rw[z];exact VJ.mpr d))];exact n) l
 exact DH (cl:=dW X.env ns) (fn:=λ_=>false) hc (he C s H fp _ (N D C)) (ht C s H fp _ (N D C)) (hg C s H fp _) I r T st U Y hz Pv p0 step (A D C) Q t d L a (λy c e=>.inl (mJ e)) I1
end
theorem br.vals{K:yac}{P:yak}{H:Hp}{B:yaj}:∀{ds:yar} {k:Nat} {vs:yaq},br K P H B k (ds.map .val) vs->aj K P H ds vs
 |[],_,_,h=>by subst h;exact aj.nil
 |d::r,_,_,h=>by obtain⟨v,u,rfl,b,a⟩:=h;exact aj.cons b a.vals
def KW(h:Oo X e te):PEM X e λρ Q=>te ρ λd=>Q (.val d):=λa s b H W ρ Q I r t=>SV (h a s b H W ρ _ I r t) (λ_ _ e=>(by obtain⟨v,f,d,a,b,c,q,z⟩:=e;exact⟨v,f,.val d,a,b,c,q,z⟩)) λ_ _ z=>z
section
variable{X:Cx}{pins:yab}{σ:St}{H:Hp}{s:Shared}{sc:Scope}{ns:yah}{js:yag}{xs:yah}{fp:yae}
def mK{o k x:Expr}{l:yai}{pos:Pos}{g:DG}{te:DE}{tc:DT}{W:Own}{ρ:Ro}{J:It}{G:Addr}{tn:Nat->Heap->Prop}{ds:yar}{E:yaa}{RR:Value->Addr->Result->Shared->Prop}(hc:X.calm=true)(S:Xn X.env.scope sc xs ns)
  (Y:js.length=ns.length/\∀(i:Nat) (j:Nat) (n:Str),js[i]?=some j->ns[i]?=some n->X.N[j]?=some n)
  {Ed:Value->Prop} (he:∀(C:Addr) (m:Shared) (h:Hp) (fp:yae) (f:yaa),d8 (bH X sc ns xs C m h fp f) Ed->Oo (bH X sc ns xs C m h fp f) o te) (U:∀(C:Addr) (m:Shared) (h:Hp) (fp:yae) (f:yaa),d8 (bH X sc ns xs C m h fp f) Ed->Xo (bH X sc ns xs C m h fp f) l tc)
  (O:∀D C:Addr,d8 (bH X sc ns xs C s H fp (Cu X sc ns RR D C)) Ed) (I:Inv X pins σ H s) (r:Rel X W H σ ρ) (hg:∀(C:Addr) (m:Shared) (h:Hp) (fp:yae) (f:yaa),Wu (bH X sc ns xs C m h fp f) x g) (T:Turn X.prog X.w X.K x J fp G tn) (st:tn 0 s.heap) (Vu:∀b∈fp,eO X pins H b) (M:YD X.K W H J ds) (hz:ds.length<=sizeLine)
  (Pv:Nat->yar->Prop) (N:Pv 0 []) (step:∀j d a w,ds[j]?=some d->Pv j a->j9 xs.length (js.map (bF ρ)) w->g d w λB=>j9 xs.length (js.map (bF ρ)) B/\tc B λb=>if b=true then te B (λe=>Pv (j+1) (a++[e]))else Pv (j+1) a)
  (A:∀(D C:Addr) (u:Shared) (H':Hp) (z:yal) (a:List PD.D),Inv X pins σ H' u->aw H H'->u.heap.Ns C z->H' C=none->C≠X.env.locals->X.Oy.heap.objs.size<=C->(∀y c,X.env.cells.lookup y=some c->c≠C)->(∀p∈X.pn++pins,p.1≠C) →
   (H D=none/\X.K.lookup D=none/\∃vs,H' D=some (.lst vs)/\aj X.K (λt b=>W.bad t b∨b=D) H' a vs)->Pv ds.length a->RR (.ref D) C (.ok .next) u) :
  wpAny (model X.prog X.w) X.A (newList []) (λq Q8=>wpAny (model X.prog X.w) X.A (newFunctionEnv sc X.env.globals (dW X.env ns) [] X.env.qual none .none (some X.env)) (λL Q =>
   codeAny (model X.prog X.w) X.A (.compStart (.ListComp o [⟨x,k,l,0⟩] sc pos) 0 (.ref G) q {L with scope:=relabel sc X.env}) (RR q L.locals) Q) E Q8) E s:=by
 have e:∀k l,(∃q,l.map LI.val=q.map LI.val/\Pv k q)=Pv k l:=λk l=>propext ⟨λc=>(by obtain⟨q,a,b⟩:=c;exact(List.map_inj_right (λ_ _=>LI.val.inj)).mp a ▸ b),λb=>⟨l,rfl,b⟩⟩
 refine Ak (te:=λρ Q=>te ρ λd=>Q (.val d)) hc S Y (λC m h fp f p=>KW (he C m h fp f p)) U O I r hg T st Vu M hz (λk o=>∃q,o=q.map LI.val/\Pv k q) ⟨[],rfl,N⟩ ?_ ?_;rintro j d _ w c ⟨q,rfl,a⟩ cr;have f:∀x,q.map LI.val++[LI.val x]=(q++[x]).map LI.val:=λx=>by rw[QE];rfl
 simp only[f,e];exact step j d q w c a cr;rintro D C u H' z _ bs m sm l k j i h g ⟨f,e,vs,d,_,_,c⟩ ⟨q,rfl,a⟩;exact A D C u H' z q m sm l k j i h g ⟨f,e,vs,d,c.vals.OB λt b z=>z.elim .inl λz=>.inr (.inl z)⟩ a
def yK{X:Cx}{sc:Scope}{ns:yah}{x:Str}{fp:yae}(S:Xn X.env.scope sc [x] ns):Wu (bH X sc ns [x] C N8 Oh fp XE) (.Name x px) (o9 0) :=
 have a:(compEnvC sc (dW X.env ns) C X.env).scope.names.lookup x=some .local:=lookup_relabel_local (S.tgt x (by simp))
 aW (X:=bH X sc ns [x] C N8 Oh fp XE) 0 S.nd rfl (.inl a) (.inr a)
def HK{ds:yar}{Pv:Nat->yar->Prop}{tc:DT}{te:DE}{a:Ro}(step:∀j d c,ds[j]?=some d->Pv j c->tc (some (.val d)::a) λb=>if b=true then te (some (.val d)::a) (λe=>Pv (j+1) (c++[e]))else Pv (j+1) c) :
  ∀ j d c f,ds[j]?=some d->Pv j c->j9 1 a f->o9 0 d f λg=>j9 1 a g/\tc g λb=>if b=true then te g (λe=>Pv (j+1) (c++[e]))else Pv (j+1) c:=by
 rintro j d c f f b ⟨a,e,rfl⟩
 match a,e with
 |[a],_=>exact⟨⟨[some (.val d)],rfl,rfl⟩,step j d c f b⟩
def mL(wi:DA)(js:yag)(tc:DT)(te:DE):DE:=λc Q=>wi c λf=>f.length<=sizeLine/\∃Pv:Nat->yar->Prop,Pv 0 [] ∧
 (∀j d a,f[j]?=some d->Pv j a->tc (some (.val d)::js.map (bF c)) λb=>if b=true then te (some (.val d)::js.map (bF c)) (λe=>Pv (j+1) (a++[e]))else Pv (j+1) a)/\∀a,Pv f.length a->Q (.lst true a)
def aM(N:yah)(ns:yah)(js:yag):Prop:=js.length=ns.length/\∀(i:Nat) (j:Nat) (n:Str),js[i]?=some j->ns[i]?=some n->N[j]?=some n
def aM.nil:aM N [] []:=⟨rfl,λi j n h=>by simp at h⟩
def aM.cons{ns:yah}{js:yag}{n:Str}(j:Nat)(h:aM N ns js)(e:N[j]?=some n:=by rfl):aM N (n::ns) (j::js):=⟨by simp[h.1],λi c m b a=>by
 cases i with
 |zero=>simp at b a;subst b a;exact e
 |succ i=>exact h.2 i c m (by simpa using b) (by simpa using a)⟩
variable{elt iter:Expr}{ifs:yai}{px pos:Pos}{te:DE}{tc:DT}{wi:DA}{x:Str}
def bK(n:X.calm=true)(S:Xn X.env.scope sc [x] ns)(l:aM X.N ns js)(hi:Ug X (.Name x px) iter wi)(k:∀(C:Addr) (c:Shared) (b:Hp) (fp:yae) (a:yaa),Xo (bH X sc ns [x] C c b fp a) ifs tc)
  (m:∀(C:Addr) (c:Shared) (b:Hp) (fp:yae) (a:yaa),Oo (bH X sc ns [x] C c b fp a) elt te) (e:closureFor sc X.env=pure (dW X.env ns):=by rfl) (hs:∀x,foldedSetIterable iter X.env x=pure x:=by intro _;rfl) :
  Oo X (.ListComp elt [⟨.Name x px,iter,ifs,0⟩] sc pos) (mL wi js tc te):=by
 intro pins s σ H W d Q I r h;refine wpAny_comprehension_free (use:=none) rfl hs e S.kind S.names (Oa (hi pins s σ H W d _ I r h) λv A d=>Oa d λU5 y d=>?_);obtain⟨B,fp,tn,J,H2,G,e,q,h,T,p,o,f,j,Pv,i,step,g⟩:=d;subst e;refine mK (RR:=λd C=>compPost (model X.prog X.w) X.A X.xe none (DP X pins σ W H Q) d C) n S l (Ed:=λ_=>False) (λC c b fp a _=>m C c b fp a) (λC c b fp a _=>k C c b fp a) (λ_ _=>d8.no) q (r.same h) (λC c b fp a=>yK S) T p o f j Pv i (HK step) ?_;intro D C i b c a u sm o p n f m d ⟨j,k,w,l,t⟩ pv;have q:Den X.K W.bad b (.lst true a) (.ref D):=Den.lst ((r.same h).fresh j) (.new l k) (t.OB λ_ _ z=>.inl z);refine⟨c,o,λE c=>?_⟩;exact⟨.ref D,b,_,u.turned (t':=i.toks) (λb o i e=>(c.2 b i).trans e) p n (.inr f) m d,rfl,h.trans sm,q,g a pv⟩
def fx{y:Str}{a:Pos}(i:Nat)(w:X.N.Nodup)(t:X.calm=true)(S:Xn X.env.scope sc [x] ns)(p:aM X.N ns js)(hi:Ug X (.Name x px) iter wi)(o:∀(C:Addr) (d:Shared) (c:Hp) (fp:yae) (b:yaa),Xo (bH X sc ns [x] C d c fp b) ifs tc)
  (q:∀(C:Addr) (d:Shared) (c:Hp) (fp:yae) (b:yaa),Oo (bH X sc ns [x] C d c fp b) elt te) (l:X.N[i]?=some y:=by rfl) (f:X.env.scope.names.lookup y=some .local:=by rfl) (j:closureFor sc X.env=pure (dW X.env ns):=by rfl) (hs:∀x,foldedSetIterable iter X.env x=pure x:=by intro _;rfl)
  (e:swapsWith (.ListComp elt [⟨.Name x px,iter,ifs,0⟩] sc pos) (some (.Name y py)) a.line X.env=pure true:=by rfl) :
  Rq X (.Assign [.Name y py] (.ListComp elt [⟨.Name x px,iter,ifs,0⟩] sc pos) a) (F4 i (mL wi js tc te)):=by
 intro pins s σ H W g E I r h;rw[exec_Assign_Name_used _ _ _ _ e];refine NY (wpAny_standAt (NY ?_));refine NY (SV (wpAny_comprehension_free (use:=some (assign (.Name y py) X.env)) (Q:=λ_ a=>Ws X pins W H E .next a) rfl hs j S.kind S.names
  (Oa (hi pins s σ H W g _ I r h) λv M e=>Oa e λU5 L h=>?_)) (λ_ a e=>wpAny_pure (wpAny_pure e)) λ_ _ e=>e)
 obtain⟨N,fp,tn,J,H2,U,e,A,g,T,z,u,k,n,Pv,m,step,j⟩:=h;subst e;refine mK (RR:=λh C=>compPost (model X.prog X.w) X.A X.xe (some (assign (.Name y py) X.env)) (λ_ a=>Ws X pins W H E .next a) h C) t S p (Ed:=λ_=>False) (λC d c fp b _=>q C d c fp b) (λC d c fp b _=>o C d c fp b) (λ_ _=>d8.no) A (r.same g) (λC d c fp b=>yK S) T z u k n Pv m (HK step) ?_;intro D C a k u c p sm B A n h m d ⟨a,b,G,o,q⟩ pv;have E:Den X.K W.bad k (.lst true c) (.ref D):=Den.lst ((r.same g).fresh a) (.new o b) (q.OB λ_ _ z=>.inl z);have t:=(r.same g).same sm;refine wpAny_assign_Name (wQ (v:=.ref D) p w l (.inl f) rfl (λo w q=>?_) (.inr f));obtain⟨a,b,f⟩:=q;have r:C≠a:=by
  rcases f with z|z;rw[z];exact n;exact λq=>m y a z q.symm
 refine⟨u,B.sameBut b r,λO a=>?_⟩;refine⟨W.drop i,_,k,w.turned (t':=o.toks) (λb o f e=>(a.2 b f).trans e) A n (.inr h) m d,(OK.same (g.trans sm)).trans (OK.drop W k i),_,t.put (Inv.Xi p l) E,j c pv⟩
end
noncomputable def Kh(osc a:Scope)(xs ns:yah):Bool :=
 decide (a.kind=.function) && (a.names.all λy=>decide (y.2 ≠ .cell)) && (a.names.all λy=>decide (y.2=.local->a.names.lookup y.1=some .local)) && (xs.all λx=>decide (a.names.lookup x=some .local)) &&
 (a.names.all λy=>decide (y.2=.free->y.1∈ns/\osc.names.lookup y.1=some .cell)) && (ns.all λn=>decide (a.names.lookup n=some .free/\osc.names.lookup n=some .cell)) && decide (xs++ns).Nodup
def aV(h:Kh osc sc xs ns=true):Xn osc sc xs ns:=by unfold Kh at h;simp only[Yo]at h;obtain⟨⟨⟨⟨⟨⟨a,f⟩,b⟩,e⟩,d⟩,h6⟩,c⟩:=h;exact⟨VA a,λy a=>VA (zDE.mp f y a),λy a=>VA (zDE.mp b y a),λx b=>VA (zDE.mp e x b),λy a=>VA (zDE.mp d y a),λn a=>VA (zDE.mp h6 n a),VA c⟩
inductive WD:yai->yah->Prop where
 |nil:WD [] []
 |cons {x:Str} {p:Pos} {es:yai} {xs:yah} (h:WD es xs):WD (.Name x p::es) (x::xs)
def o8:Nat->Nat->Wv
 |_,0=>tO
 |i,n+1=>md (o9 i) (o8 (i+1) n)
theorem tN:∀(ys:yar) (b a c:Ro) (Q:Ro->Prop),a.length=ys.length->Q (b++ys.map (λd=>some (Sl.val d))++c)->o8 b.length ys.length ys (b++a++c) Q
 |[],b,a,c,Q,f,h=>by have:a=[]:=Yf f;subst this;exact⟨rfl,h⟩
 |d::r,b,a,c,Q,f,h=>by
  match a,f with
  |a::q,f =>
   refine⟨d,r,rfl,?_⟩;show o8 (b.length+1) r.length r ((b++a::q++c).set b.length (some (.val d))) Q;have e:(b++a::q++c).set b.length (some (Sl.val d))=(b++[some (Sl.val d)])++q++c:=by rw[UI,List.set_append_right _ _ (OP _),Nat.sub_self];simp
   have a:b.length+1=(b++[some (Sl.val d)]).length:=by simp
   rw[e,a];refine tN r _ q c Q (by simpa using f) ?_;simpa using h
section
variable{X:Cx}{sc:Scope}{ns xs:yah}{js:yag}
theorem WD.len:∀{es:yai} {ys:yah},WD es ys->(assignEach es env).length=ys.length/\(assignEach es env).findIdx? (·.1)=none
 |_,_,.nil=>⟨rfl,rfl⟩
 |_,_,.cons (x:=x) (p:=p) (es:=es) h=>by obtain⟨b,a⟩:=WD.len (env:=env) h;have e:assignEach (.Name x p::es) env=(false,assign (.Name x p) env)::assignEach es env:=rfl;rw[e];refine⟨by rw[Rl,b];rfl,?_⟩;rw[List.findIdx?_cons,a];rfl
theorem tR(S:Xn X.env.scope sc xs ns):∀{es:yai} {ys:yah} (i:Nat),WD es ys->(∀k y,ys[k]?=some y->xs[i+k]?=some y)->uT (bH X sc ns xs C N8 Oh fp XE) es (o8 i ys.length)
 |_,_,_,.nil,_=>qF
 |_,_,i,.cons (x:=x) (xs:=ys) h,c=>by
  have a:xs[i]?=some x:=c 0 x rfl;have b:(compEnvC sc (dW X.env ns) C X.env).scope.names.lookup x=some .local:=lookup_relabel_local (S.tgt x (Qh a));have d:(xs++ns)[i]?=some x:=by rw[UE (Ql.mp a).1];exact a
  exact gf (aW (X:=bH X sc ns xs C N8 Oh fp XE) i S.nd d (.inl b) (.inr b)) (tR S (i+1) h λk y e=>by
   have:=c (k+1) y e
   lia)
variable{elt iter:Expr}{ifs es:yai}{kt:Nat}{tp pos:Pos}{te:DE}{tc:DT}{wi:DA}
def j1(ys:yar):Ro:=ys.map λd=>some (Sl.val d)
def DK(n:Nat)(wi:DA)(js:yag)(tc:DT)(te:DE):DE:=λe Q=>wi e λf=>f.length<=sizeLine/\∃Pv:Nat->yar->Prop,Pv 0 [] ∧
 (∀j d a,f[j]?=some d->Pv j a->∃c,(d=.tup c∨∃ t,d=.lst t c)/\c.length=n/\tc (j1 c++js.map (bF e)) λb=>if b=true then te (j1 c++js.map (bF e)) (λe=>Pv (j+1) (a++[e]))else Pv (j+1) a)/\∀a,Pv f.length a->Q (.lst true a)
def stepT{n:Nat}{ds:yar}{Pv:Nat->yar->Prop}{c:Ro}(step:∀j d a,ds[j]?=some d->Pv j a->∃ys,(d=.tup ys∨∃ t,d=.lst t ys)/\ys.length=n/\tc (j1 ys++c) λb=>if b=true then te (j1 ys++c) (λe=>Pv (j+1) (a++[e]))else Pv (j+1) a) :
  ∀ j d a f,ds[j]?=some d->Pv j a->j9 n c f->tP n (o8 0 n) d f λg=>j9 n c g/\tc g λb=>if b=true then te g (λe=>Pv (j+1) (a++[e]))else Pv (j+1) a:=by
 rintro j d a f k g ⟨f,i,rfl⟩;obtain⟨ys,e,b,h⟩:=step j d a k g;refine⟨ys,e,b,?_⟩;subst b;exact tN ys [] f c _ i ⟨⟨j1 ys,by simp[j1],rfl⟩,h⟩
def kg(l:X.calm=true)(S:Xn X.env.scope sc xs ns)(q:aM X.N ns js)(g:WD es xs)(hi:Ug X (.Tuple es kt tp) iter wi)(p:∀(C:Addr) (d:Shared) (c:Hp) (a:yae) (b:yaa),Xo (bH X sc ns xs C d c a b) ifs tc)
  (t:∀(C:Addr) (d:Shared) (c:Hp) (a:yae) (b:yaa),Oo (bH X sc ns xs C d c a b) elt te) (i:closureFor sc X.env=pure (dW X.env ns):=by rfl) (hs:∀x,foldedSetIterable iter X.env x=pure x:=by intro _;rfl) :
  Oo X (.ListComp elt [⟨.Tuple es kt tp,iter,ifs,0⟩] sc pos) (DK xs.length wi js tc te):=by
 intro f s k H W e Q I r h;refine wpAny_comprehension_free (use:=none) rfl hs i S.kind S.names (Oa (hi f s k H W e _ I r h) λv E e=>Oa e λU5 B j=>?_);obtain⟨G,a,tn,J,H2,M,e,w,i,T,u,s,m,o,Pv,n,step,h⟩:=j;subst e;refine mK (RR:=λj C=>compPost (model X.prog X.w) X.A X.xe none (DP X f k W H Q) j C) l S q (Ed:=λ_=>False) (λC d c a b _=>t C d c a b) (λC d c a b _=>p C d c a b) (λ_ _=>d8.no) w (r.same i) (λC d c a b=>tQ (X:=bH X sc ns xs C d c a b) l (tR S 0 g λk y q=>by simpa using q) (WD.len g).1 (WD.len g).2) T u s m o Pv n (stepT step) ?_;intro D C j b c a t sm o p n f m d ⟨g,k,A,l,s⟩ pv;have q:Den X.K W.bad b (.lst true a) (.ref D):=Den.lst ((r.same i).fresh g) (.new l k) (s.OB λ_ _ z=>.inl z);refine⟨c,o,λL c=>?_⟩;exact⟨.ref D,b,_,t.turned (t':=j.toks) (λb o g e=>(c.2 b g).trans e) p n (.inr f) m d,rfl,i.trans sm,q,h a pv⟩
end
def i8{b:Type}{n:Nat}{wi:DA}{js:yag}{tc:DT}{te:DE}{Q:D->Prop}(a:List b)(f:b->yar)(c:b->Bool)(g:b->D)(d:∀R:yar->Prop,R (a.map λz=>.tup (f z))->wi ρ R)(hz:a.length<=sizeLine)(h:∀z,(f z).length=n)
  (l:∀z∈a,∀K:Bool->Prop,K (c z)->tc (j1 (f z)++js.map (bF ρ)) K) (k:∀z∈a,c z=true->∀K:D->Prop,K (g z)->te (j1 (f z)++js.map (bF ρ)) K) (q:Q (.lst true ((a.filter c).map g))):DK n wi js tc te ρ Q:=by
 refine d _ ⟨by simp_all,λj b=>b=((a.take j).filter c).map g,by simp,λj d b c d=>?_,λb d=>?_⟩;rw[Pw]at c;cases ex:a[j]? with
 |none=>simp_all
 |some x =>
  rw[ex]at c;have i:x∈a:=Qh ex;have e:a.take (j+1)=a.take j++[x]:=by simp_all [WV]
  grind
 grind
def LD(b:Bool):okD (.bl b):=by unfold okD;rw[QK,Ue]<;>first|exact⟨rfl,rfl⟩| (intros;contradiction)
def GC(i:Int):okD (.int i)=True:=eq_true (Bn i)
def I0(b:Bool):okD (.bl b)=True:=eq_true (LD b)
def GD:okD .OD=True:=eq_true Ja
def j5(i j:Int):eqD (.int i) (.int j)=decide (i=j):=by rfl
def D3(i j:Bool):eqD (.bl i) (.bl j)=decide (i=j):=by
 cases i<;>cases j<;>rfl
def Ln(t:Bool)(xs:yar)(R:yar->Prop):(∃t' ds,D.lst t xs=.lst t' ds/\R ds)=R xs:=by apply propext;constructor;rintro⟨_,_,e,q⟩;cases e;exact q;intro q;exact⟨t,xs,rfl,q⟩
def Iw(ds:yar)(r:Ro)(R:yar->Prop):(∃a,(some (Sl.own ds)::r)[0]?=some (some (Sl.own a))/\R a)=R ds:=by apply propext;constructor;rintro⟨_,e,q⟩;have a:some (some (Sl.own ds))=some (some (Sl.own _)):=e;cases a;exact q;intro q;exact⟨ds,rfl,q⟩
theorem Iy(n:Nat)(x:Option Sl)(r:Ro)(R:yar->Prop):(∃a,(x::r)[n+1]?=some (some (Sl.own a))/\R a)=(∃a,r[n]?=some (some (Sl.own a))/\R a):=rfl
theorem K9(d:D)(r:Ro):bF (some (.val d)::r) 0=some (.val d):=rfl
theorem Le(r:Ro):bF (none::r) 0=none:=rfl
theorem Ld(n:Nat)(x:Option Sl)(r:Ro):bF (x::r) (n+1)=bF r n:=rfl
def J8{x y z:Int}(h:¬(x=0/\y=0/\z=0))(i:Bd n x)(g:Bd n y)(hz:Bd n z):Bd n (PM.Qf x y z l):=by
 unfold Bd at *;rw[PM.A8];have c:=zC8.mpr (PM.rM x y z);have b:=zC8.mpr (PM.u5 x y z);have a:=zC8.mpr (PM.u6 x y z);simp only[Int.natAbs_natCast]at c b a;by_cases f:x=0;by_cases d:y=0;have j:z≠0:=λe=>h ⟨f,d,e⟩
 have:=Nat.le_of_dvd (by lia) a
 lia
 have:=Nat.le_of_dvd (by lia) b
 lia
 have:=Nat.le_of_dvd (by lia) c
 lia
noncomputable def sg(n:Int):Int:=if 0<n then 1 else if n<0 then -1 else 0
def rk(a0 c e a b d:Int):Int:=if sg (c*a - b*a0)=0 then sg (e*a - d*a0)else sg (c*a - b*a0)
noncomputable def sw(a0 f e h d c g b a:Int):Int:=a0*(d*a - b*c)+h*(b*e - f*a)+g*(f*c - d*e)
structure Pl(n:Nat)(a b c:Int):Prop where
 pos:0<a
 low:PM.g3 a b c=1
 b0:Bd n a
 b1:Bd n b
 b2:Bd n c
def jO{d k x y z:Int}(f:d∣k*x)(e:d∣k*y)(c:d∣k*z)(b:PM.g3 x y z=1):d∣k:=by
 have a:d∣(Int.gcd (k*x) (k*y):Int):=Zv f e;rw[zDC]at a;have e:d∣k*(Int.gcd x y:Int):=by
  have:((k.natAbs*Int.gcd x y:Nat):Int)∣k*(Int.gcd x y:Int):=by rw[Int.natCast_mul];exact Int.mul_dvd_mul (Int.natAbs_dvd.mpr (by simp_all)) (by simp_all)
  exact XU a this
 have a:d∣(Int.gcd (k*(Int.gcd x y:Int)) (k*z):Int):=Zv e c;rw[zDC]at a;have c:Int.gcd (Int.gcd x y:Int) z=1:=b;rw[c,Nat.mul_one]at a;exact XU a (Int.natAbs_dvd.mpr (by simp_all))
def LS(b x y:Int):D:=T3 (b.fdiv (PM.Qf b x y b)) (x.fdiv (PM.Qf b x y b)) (y.fdiv (PM.Qf b x y b))
structure NP(d:D)(b x y:Int):Prop where
 ex:∃p q r,d=T3 p q r/\Bd 4000 p/\Bd 4000 q/\Bd 4000 r/\0<p/\p*x=b*q/\p*y=b*r/\PM.g3 p q r=1
end PD
namespace PZ
open PySem PySem.Spec PyProof.Rows
def RD:Bool->Heap->Addr->Addr->Nat->Prop
 |true,h,b,a,i=>h.IsListIter b a i
 |false,h,b,a,i=>h.IsTupleIter b a i
def QV:Bool->Heap->Addr->yan->Prop
 |true,h,a,b=>h.IsList a b
 |false,h,a,b=>h.IsTuple a b
def ja:Bool->String
 |true => "list_iterator"
 |false => "tuple_iterator"
section
variable{k:Bool}{h h':Heap}{it a b:Addr}{i:Nat}{xs:yan}
def RD.of(x:RD k h it a i)(e:∀o,h.get? it=some o->h'.get? it=some o):RD k h' it a i:=by
 cases k with
 |true=>obtain⟨o,c,r⟩:=x;exact⟨o,e o c,r⟩
 |false=>obtain⟨o,c,r⟩:=x;exact⟨o,e o c,r⟩
def QV.of(x:QV k h a xs)(e:∀o,h.get? a=some o->h'.get? a=some o):QV k h' a xs:=by
 cases k with
 |true=>obtain⟨o,c,r⟩:=x;exact⟨o,e o c,r⟩
 |false=>obtain⟨o,c,r⟩:=x;exact⟨o,e o c,r⟩
def RD.obj(x:RD k h it a i):∃o,h.get? it=some o/\o.cls=.type (ja k)/\o.data=.fields #[.ref a,.int i 0]:=by
 cases k with
 |true=>exact x
 |false=>exact x
def QV.obj(x:QV k h a xs):∃o n,h.get? a=some o/\o.data=.seq xs n:=by
 cases k with
 |true=>obtain⟨o,c,_,n,r⟩:=x;exact⟨o,n,c,r⟩
 |false=>obtain⟨o,c,_,n,r⟩:=x;exact⟨o,n,c,r⟩
end
section
variable{prog:Program}{w:World}{A:Around}{E:yaa}{s:Shared}{k:Bool}{it a:Addr}{i:Nat}{xs:yan}
def t8{x:Value}{Q:yaa}(hi:RD k s.heap it a i)(hs:QV k s.heap a xs)(e:xs[i]?=some x)(f:∀h',RD k h' it a (i+1)->Heap.SameBut it s.heap h'->Q x {s with heap:=h'}) :
  wpAny (model prog w) A (Builtin.SmallTypes.nextOf (.ref it)) Q E s:=by
 cases k with
 |true=>exact wpAny_nextOf_list_item hi hs e f
 |false =>
  obtain⟨o,c,h,b⟩:=id hi;obtain⟨j,g,_,l,d⟩:=hs;refine NY (WN (name:=Str.ofString "__next__") (zCu hi) F.slot_tuple_iterator_next (U0 F.slot_tuple_iterator_next (zCu hi) F.entry_tuple_iterator_next ?_ (F.args_tuple_iterator_next_1 _)));show wpAny _ _ (field (.ref it) 0 >>= _) _ _ s;refine NY (R9 c b (x:=.ref a) rfl ?_);refine NY (R9 c b (x:=.int i 0) rfl ?_);refine NY (U1 g d ?_);simp only[Int.toNat_natCast,e];refine NY (Zz c b (by simp) (wpAny_pure ⟨x,rfl,wpAny_pure (f _ ⟨_,Vy _ c (Obj.isFreed_of_fields (Obj.data_mapFields b _)),(Obj.cls_mapFields ..).trans h,by rw[Obj.data_mapFields b];simp[rawInt]⟩ (XM ..))⟩))
def Ct(c:A.handled=none)(hi:RD k s.heap it a i)(hs:QV k s.heap a xs)(f:xs[i]?=none)
  (g:∀h' e,Heap.ExtBut it s.heap h'->(∃o,h'.get? e=some o/\o.cls=.type "StopIteration")->E (.ref e) {s with heap:=h'}):wpAny (model prog w) A (Builtin.SmallTypes.nextOf (.ref it)) Q E s:=by
 cases k with
 |true=>exact wpAny_nextOf_list_end c hi hs f g
 |false =>
  obtain⟨o,b,n,e⟩:=id hi;obtain⟨j,h,_,l,d⟩:=hs;refine NY (WN (name:=Str.ofString "__next__") (zCu hi) F.slot_tuple_iterator_next (U0 F.slot_tuple_iterator_next (zCu hi) F.entry_tuple_iterator_next ?_ (F.args_tuple_iterator_next_1 _)));show wpAny _ _ (field (.ref it) 0 >>= _) _ _ s;refine NY (R9 b e (x:=.ref a) rfl ?_);refine NY (R9 b e (x:=.int i 0) rfl ?_);refine NY (U1 h d ?_);simp only[Int.toNat_natCast,f];refine NY (wpAny_rule (NY (Zz b e (by simp) ?_)));refine NY ?_;refine NY (m:=firstArgMember _ _) (wpAny_of_eq (a:=Value.none) (by rfl) ?_);refine Wk ?_ (by size_fits);refine NY (wpAny_handled ?_);first|rw[show A.in1.handled=none from c]|rw[c]
  exact NY (wpAny_pure (wpAny_throw (g _ _ (((XM ..).extBut.push _).push _) ⟨_,Q7 _ rfl,rfl⟩)))
end
structure Ap(z TI TO i1 i2:Addr):Prop where
 a1:TI≠z
 a2:TO≠z
 a3:i1≠z
 a4:i2≠z
 a5:TI≠TO
 a6:TI≠i1
 a7:TI≠i2
 a8:TO≠i1
 a9:TO≠i2
 b1:i1≠i2
structure Out(z TO i1 i2 l:Addr):Prop where
 c1:l≠z
 c2:l≠TO
 c3:l≠i1
 c4:l≠i2
structure X6(k1 k2:Bool)(z TI TO i1 i2 l1 l2:Addr)(i:Nat)(h:Heap):Prop where
 z:IsZip h z TI TO .none
 ti:IsPair h TI (.ref i1) (.ref i2)
 to:∃a b,IsPair h TO a b
 s1:RD k1 h i1 l1 i
 s2:RD k2 h i2 l2 i
section
variable{prog:Program}{w:World}{A:Around}{E:yaa}{s:Shared}{k1 k2:Bool}{z TI TO i1 i2 l1 l2:Addr}{i:Nat}{xs ys:yan}
def HM{x y:Value}{Q:yam->Shared->Prop}(D:Ap z TI TO i1 i2)(l:Out z TO i1 i2 l1)(j:Out z TO i1 i2 l2)(Z:X6 k1 k2 z TI TO i1 i2 l1 l2 i s.heap)(f:QV k1 s.heap l1 xs)(r:QV k2 s.heap l2 ys)(h:xs[i]?=some x)(t:ys[i]?=some y)
  (G:∀h',IsZip h' z TI TO (rawInt s.heap.objs.size)->IsPair h' TI (.ref i1) (.ref i2)->IsPair h' TO x y->RD k1 h' i1 l1 (i+1)->RD k2 h' i2 l2 (i+1)->IsPair h' s.heap.objs.size x y →
   (∀c o,c≠z->c≠TO->c≠i1->c≠i2->s.heap.get? c=some o->h'.get? c=some o)->Q (some (.ref s.heap.objs.size)) {s with heap:=h'}):wpAny (model prog w) A (pyNext (.ref z)) Q E s:=by
 obtain⟨d,C,⟨a,b,m⟩,k,B⟩:=Z;have e:s.TypeIs (.ref z) "zip" := ⟨_,d,rfl⟩;unfold pyNext;refine NY (XW (WN (name:=Str.ofString "__next__") e F.slot_zip_next (U0 F.slot_zip_next e F.entry_zip_next ?_ (F.args_zip_next_1 _))));show wpAny _ _ (field (.ref z) 2 >>= _) _ _ _;refine NY (R9 d rfl (x:=.bool false) rfl ?_);show wpAny _ _ (field (.ref z) 3 >>= _) _ _ _;refine NY (R9 d rfl (x:=.ref TI) rfl (NY (U1 C rfl ?_)));refine NY ?_;unfold Builtin.SmallTypes.ownedTupleIsFree;refine NY (R9 d rfl (x:=.none) rfl (wpAny_pure ?_));simp only[if_true];refine NY (wpAny_rule (NY (R9 d rfl (x:=.ref TO) rfl ?_)));refine NY (Yn d (by simp) λd (u:IsZip d z TI TO .ellipsis) p=>NY ?_);have g:∀c o,c≠z->s.heap.get? c=some o->d.get? c=some o:=λc o n e=>p.extBut c o n e
 refine NY (NY (wpAny_onRaise ?_));show wpAny _ _ (Builtin.SmallTypes.nextOf (.ref i1) >>= _) _ _ _;refine NY (t8 (s:={s with heap:=d}) (k.of λo e=>g _ o D.a3 e) (f.of λo e=>g _ o l.c1 e) h λh d l=>wpAny_pure ?_);have f:IsPair h TO a b:=l.extBut _ _ D.a8 (g _ _ D.a2 m);refine NY (U1 f rfl (NY (wpAny_updateSeq_pair f λg3 (q:IsPair g3 TO x b) k=>NY (wpAny_letGo (wpAny_pure ?_)))));have m:∀c o,c≠z->c≠TO->c≠i1->s.heap.get? c=some o->g3.get? c=some o:=λc o f d h e=>k.extBut c o d (l.extBut c o h (g c o f e))
 refine NY (NY (wpAny_onRaise ?_));show wpAny _ _ (Builtin.SmallTypes.nextOf (.ref i2) >>= _) _ _ _;refine NY (t8 (s:={s with heap:=g3}) (B.of λo e=>m _ o D.a4 (Ne.symm D.a9) (Ne.symm D.b1) e) (r.of λo e=>m _ o j.c1 j.c2 j.c3 e) t λr g j=>wpAny_pure ?_);have a:IsPair r TO x b:=j.extBut _ _ D.a9 q;refine NY (U1 a rfl (NY (wpAny_updateSeq_pair a λa (q:IsPair a TO x y) b=>NY (wpAny_letGo (wpAny_pure (wpAny_pure ?_))))));refine NY (U1 q rfl (NY (wpAny_newTuple ?_)));have r:a.objs.size=s.heap.objs.size:=by rw[b.1,j.1,k.1,l.1,p.1]
 have t:∀c o,c≠z->c≠TO->c≠i1->c≠i2->s.heap.get? c=some o->a.get? c=some o:=λc o f d h g e=>b.extBut c o d (j.extBut c o g (m c o f d h e))
 have p:IsZip a z TI TO .ellipsis:=b.extBut _ _ (Ne.symm D.a2) (j.extBut _ _ (Ne.symm D.a4) (k.extBut _ _ (Ne.symm D.a2) (l.extBut _ _ (Ne.symm D.a3) u)));have l:RD k1 a i1 l1 (i+1):=d.of λo e=>b.extBut _ o (Ne.symm D.a8) (j.extBut _ o D.b1 (k.extBut _ o (Ne.symm D.a8) e))
 have k:RD k2 a i2 l2 (i+1):=g.of λo e=>b.extBut _ o (Ne.symm D.a9) e
 have m:z<a.objs.size:=OI p;refine NY ?_;unfold Builtin.SmallTypes.ownedTupleHandOut;have b:IsZip (a.push {cls:=.type "tuple", data:=.seq #[x,y]}) z TI TO .ellipsis:=Ph _ p;refine NY (Yn b (by simp) λj (b:IsZip j z TI TO (rawInt a.objs.size)) B=>Yn b (by simp) λj (p:IsZip j z TI TO (rawInt a.objs.size)) u=>wpAny_pure ?_);have b:∀c o,c≠z->a.get? c=some o->j.get? c=some o:=λc o n e=>u.extBut c o n (B.extBut c o n (Ph _ e))
 have p8:IsPair j a.objs.size x y:=u.extBut _ _ (Uc m) (B.extBut _ _ (Uc m) (Q7 _ rfl));refine⟨_,rfl,?_⟩;rw[r]at p p8;refine wpAny_pure ?_;show Q (some (.ref a.objs.size)) _;rw[r];exact G j p (b _ _ D.a1 (t _ _ D.a1 D.a5 D.a6 D.a7 C)) (b _ _ D.a2 q) (l.of λo e=>b _ o D.a3 e) (k.of λo e=>b _ o D.a4 e) p8 λc o f d h g e=>b c o f (t c o f d h g e)
def HN{Q:yam->Shared->Prop}(C:A.handled=none)(D:Ap z TI TO i1 i2)(I:Out z TO i1 i2 l1)(u:Out z TO i1 i2 l2)(Z:X6 k1 k2 z TI TO i1 i2 l1 l2 i s.heap)(B:QV k1 s.heap l1 xs)(J:QV k2 s.heap l2 ys)(N:xs[i]?=none∨ys[i]?=none)
  (G:∀h',(∀c o,c≠z->c≠TO->c≠i1->c≠i2->s.heap.get? c=some o->h'.get? c=some o)->Q none {s with heap:=h'}):wpAny (model prog w) A (pyNext (.ref z)) Q E s:=by
 obtain⟨d,f,⟨a,b,O⟩,H,M⟩:=Z;have e:s.TypeIs (.ref z) "zip" := ⟨_,d,rfl⟩;unfold pyNext;refine NY (XW (WN (name:=Str.ofString "__next__") e F.slot_zip_next (U0 F.slot_zip_next e F.entry_zip_next ?_ (F.args_zip_next_1 _))));show wpAny _ _ (field (.ref z) 2 >>= _) _ _ _;refine NY (R9 d rfl (x:=.bool false) rfl ?_);refine NY (R9 d rfl (x:=.ref TI) rfl (NY (U1 f rfl ?_)));refine NY ?_;refine NY (R9 d rfl (x:=.none) rfl (wpAny_pure ?_));simp only[if_true];refine NY (wpAny_rule (NY (R9 d rfl (x:=.ref TO) rfl ?_)));refine NY (Yn d (by simp) λm (y:IsZip m z TI TO .ellipsis) d=>NY ?_);have g:∀c o,c≠z->s.heap.get? c=some o->m.get? c=some o:=λc o n e=>d.extBut c o n e
 refine NY (NY (wpAny_onRaise ?_));cases hx:xs[i]? with
 |none =>
  refine NY (Ct (s:={s with heap:=m}) C (H.of λo e=>g _ o D.a3 e) (B.of λo e=>g _ o I.c1 e) hx λt e h r=>?_);obtain⟨n,f,k⟩:=r;have d:IsZip t z TI TO .ellipsis:=h _ _ (Ne.symm D.a3) y;have p:e≠z:=λq=>by subst q;rw[d]at f;cases f;simp at k
  refine Yn d (by simp) λg3 _ l=>NY (Ys (T := "StopIteration") (b:=true) ⟨n,l.extBut _ _ p f,k⟩ isSubtype_stop ?_)
  exact wpAny_pure (G g3 λc o d _ j _ q=>l.extBut c o d (h c o j (g c o d q)))
 |some x =>
  have L:ys[i]?=none:=by
   rcases N with q|q;rw[hx]at q;cases q;exact q
  refine NY (t8 (s:={s with heap:=m}) (H.of λo e=>g _ o D.a3 e) (B.of λo e=>g _ o I.c1 e) hx λt m h=>wpAny_pure ?_);have x:IsPair t TO a b:=h.extBut _ _ D.a8 (g _ _ D.a2 O);refine NY (U1 x rfl (NY (wpAny_updateSeq_pair x λg3 U l=>NY (wpAny_letGo (wpAny_pure ?_)))));have a:∀c o,c≠z->c≠TO->c≠i1->s.heap.get? c=some o->g3.get? c=some o:=λc o d m j e=>l.extBut c o m (h.extBut c o j (g c o d e))
  refine NY (NY (wpAny_onRaise ?_));refine NY (Ct (s:={s with heap:=g3}) C (M.of λo e=>a _ o D.a4 (Ne.symm D.a9) (Ne.symm D.b1) e) (J.of λo e=>a _ o u.c1 u.c2 u.c3 e) L λu e t r=>?_);obtain⟨n,f,k⟩:=r;have g:IsZip u z TI TO .ellipsis:=t _ _ (Ne.symm D.a4) (l.extBut _ _ (Ne.symm D.a2) (h.extBut _ _ (Ne.symm D.a3) y));have p:e≠z:=λq=>by subst q;rw[g]at f;cases f;simp at k
  refine Yn g (by simp) λg _ e=>NY (Ys (T := "StopIteration") (b:=true) ⟨n,e.extBut _ _ p f,k⟩ isSubtype_stop ?_)
  exact wpAny_pure (G g λc o d m j b q=>e.extBut c o d (t c o b (a c o d m j q)))
def Hz{Q:yaa}(q:QV k s.heap a xs)(b:Q (.ref s.heap.objs.size) {s with heap:=s.heap.push {cls:=.type (ja k),data:=.fields #[.ref a,.int 0 0]} }):wpAny (model prog w) A (pyIter (.ref a)) Q E s:=by
 cases k with
 |true=>exact wpAny_pyIter_list q b
 |false=>exact wpAny_pyIter_tuple q b
end
abbrev zp1(k1:Bool)(h:Heap)(l1:Addr):Heap:=h.push {cls:=.type (ja k1),data:=.fields #[.ref l1,.int 0 0]}
abbrev zp2(k1 k2:Bool)(h:Heap)(l1 l2:Addr):Heap:=(zp1 k1 h l1).push {cls:=.type (ja k2),data:=.fields #[.ref l2,.int 0 0]}
abbrev zp3 (k1 k2:Bool) (h:Heap) (l1 l2:Addr):Heap:=(zp2 k1 k2 h l1 l2).push {cls:=.type "tuple", data:=.seq #[.ref h.objs.size,.ref (zp1 k1 h l1).objs.size]}
abbrev zp4 (k1 k2:Bool) (h:Heap) (l1 l2:Addr):Heap:=(zp3 k1 k2 h l1 l2).push {cls:=.type "tuple", data:=.seq #[.none,.none]}
abbrev YW (k1 k2:Bool) (h:Heap) (l1 l2:Addr):Heap:=(zp4 k1 k2 h l1 l2).push {cls:=.type "zip", data:=.fields #[.none,.bool false,.bool false,.ref (zp2 k1 k2 h l1 l2).objs.size,.ref (zp3 k1 k2 h l1 l2).objs.size]}
def NN (k1 k2:Bool) (l1 l2:Addr) (xs ys:yan):Meets (Builtin.«zip.__new__» ⟨[.type "zip", .ref l1,.ref l2],[]⟩) (λ_ R s=>QV k1 s.heap l1 xs/\QV k2 s.heap l2 ys/\R (.ok (.ret (.ref (zp4 k1 k2 s.heap l1 l2).objs.size))) {s with heap:=YW k1 k2 s.heap l1 l2}) :=
 .of_wp λb w A R s h=>by
  obtain⟨e,g,d,a,os⟩:=s;obtain⟨i,f,h⟩:=h;have c:=sub_zip;have j:QV k1 (Shared.heap ⟨e,g,d,a,os⟩) l1 xs:=i;have i:QV k2 (Shared.heap ⟨e.push {cls:=.type (ja k1),data:=.fields #[.ref l1,.int 0 0]},g,d,a,os⟩) l2 ys:=f.of λo e=>Ph _ e
  wp_walk using Hz j,Hz i
  exact⟨_,rfl,h⟩
section
variable{prog:Program}{w:World}{A:Around}{E:yaa}{s:Shared}{k1 k2:Bool}{l1 l2:Addr}{xs ys:yan}
def HL{Q:yaa}(d:QV k1 s.heap l1 xs)(b:QV k2 s.heap l2 ys)
  (k:∀h',X6 k1 k2 (s.heap.objs.size+4) (s.heap.objs.size+2) (s.heap.objs.size+3) s.heap.objs.size (s.heap.objs.size+1) l1 l2 0 h'->(∀c o,s.heap.get? c=some o->h'.get? c=some o)->Q (.ref (s.heap.objs.size+4)) {s with heap:=h'}) :
  wpAny (model prog w) A (call (.type "zip") [.ref l1,.ref l2]) Q E s:=by
 refine callType_new F.called_zip (by decide) (F.typeCall_zip_2 _ _) (F.newCall_zip_2 _ _) (λa=>F.args_object_init_3 a _ _) F.entry_zip_new (NN k1 k2 l1 l2 xs ys) ⟨d,b,?_⟩;have h:(zp1 k1 s.heap l1).objs.size=s.heap.objs.size+1:=WU ..;have g:(zp2 k1 k2 s.heap l1 l2).objs.size=s.heap.objs.size+2:=by rw[WU,h]
 have f:(zp3 k1 k2 s.heap l1 l2).objs.size=s.heap.objs.size+3:=by rw[WU,g]
 have l:(zp4 k1 k2 s.heap l1 l2).objs.size=s.heap.objs.size+4:=by rw[WU,f]
 have a:∀c o,(zp4 k1 k2 s.heap l1 l2).get? c=some o->(YW k1 k2 s.heap l1 l2).get? c=some o:=λc o e=>Ph _ e
 have b:∀c o,(zp3 k1 k2 s.heap l1 l2).get? c=some o->(YW k1 k2 s.heap l1 l2).get? c=some o:=λc o e=>a c o (Ph _ e)
 have d:∀c o,(zp2 k1 k2 s.heap l1 l2).get? c=some o->(YW k1 k2 s.heap l1 l2).get? c=some o:=λc o e=>b c o (Ph _ e)
 have p:∀c o,(zp1 k1 s.heap l1).get? c=some o->(YW k1 k2 s.heap l1 l2).get? c=some o:=λc o e=>d c o (Ph _ e)
 have j:(YW k1 k2 s.heap l1 l2).get? (zp4 k1 k2 s.heap l1 l2).objs.size=some _:=Q7 _ rfl;have m:=a _ _ (Q7 (zp3 k1 k2 s.heap l1 l2) (o:={cls:=.type "tuple", data:=.seq #[.none,.none]}) rfl);have g3:=b _ _ (Q7 (zp2 k1 k2 s.heap l1 l2) (o:={cls:=.type "tuple", data:=.seq #[.ref s.heap.objs.size,.ref (zp1 k1 s.heap l1).objs.size]}) rfl);have n:=d _ _ (Q7 (zp1 k1 s.heap l1) (o:={cls:=.type (ja k2),data:=.fields #[.ref l2,.int 0 0]}) rfl);have q:=p _ _ (Q7 s.heap (o:={cls:=.type (ja k1),data:=.fields #[.ref l1,.int 0 0]}) rfl);have i:=k (YW k1 k2 s.heap l1 l2);rw[g,f,l]at j;rw[f]at m;rw[h,g]at g3;rw[h]at n;have b:∀{k:Bool} {h:Heap} {d a:Addr},h.get? d=some {cls:=.type (ja k),data:=.fields #[.ref a,.int 0 0]}->RD k h d a 0:=fun {k h d a} e=>by
  cases k with
  |true=>exact⟨_,e,rfl,rfl⟩
  |false=>exact⟨_,e,rfl,rfl⟩
 rw[l];exact⟨⟨_,j,rfl⟩,i ⟨j,g3,⟨_,_,m⟩,b q,b n⟩ λc o e=>p c o (Ph _ e)⟩
end
end PZ
namespace PD
open PySem PySem.Spec PyProof.Rows L2 PZ
def S6(K:yac):Bool->Hp->Addr->yaq->Prop
 |true=>SqL K
 |false=>L2.OZ K
section
variable{X:Cx}{pins:yab}{σ:St}{H:Hp}{s:Shared}{k:Bool}{a:Addr}{xs:yaq}
theorem S6.list(I:Inv X pins σ H s)(h:S6 X.K k H a xs):∃b:yad,Vals xs b/\QV k s.heap a b.toArray:=by
 cases k with
 |true =>
  obtain⟨b,r,p,_⟩:=I.list h;exact⟨b,r,p.isList⟩
 |false =>
  obtain⟨b,r,p,_⟩:=I.tuple h;exact⟨b,r,p⟩
theorem S6.inj(I:Inv X pins σ H s)(h:S6 X.K k H a xs)(h':S6 X.K k H a ys):xs=ys:=by
 cases k with
 |true=>exact I.Sd h h'
 |false=>exact I.SX h h'
def S6.ne(I:Inv X pins σ H s)(f:eO X pins H b)(h:S6 X.K k H a xs):a≠b:=λe=>by
 subst e;obtain⟨m,l,j,c,i,g⟩:=f;have d:∀o,X.K.lookup a=some o->False:=λo q=>by
  have b:=I.ok.mod.Yx a o q;rcases c with z|z;exact I.ok.U3 a o b z;exact absurd (QL (OI (I.ok.bs a o b).1) z) (by simp_all)
 cases k with
 |true =>
  rcases h with(h|⟨o,h⟩)|⟨o,b,n,h,_⟩
  all_goals lia
 |false =>
  rcases h with(h|⟨o,h⟩)|⟨o,b,n,h,_⟩
  all_goals lia
end
def Itz(K:yac)(k1 k2:Bool)(a b:Addr):It :=
 ⟨λi H=>∃d c x y,S6 K k1 H a d/\S6 K k2 H b c/\d[i]?=some x/\c[i]?=some y,
  λi H v e=>∃T x y,v=.ref T/\H T=none/\e=L2.upd H T (.tup [x,y])/\(∀d,S6 K k1 H a d->d[i]?=some x)/\∀c,S6 K k2 H b c->c[i]?=some y,
  λi H=>∃d c,S6 K k1 H a d/\S6 K k2 H b c/\(d[i]?=none∨c[i]?=none)⟩
def Hc{P:Program}{w:World}{K:yac}{es:yai}{d:Nat}{c:Pos}(k1 k2:Bool)(a b z TI TO g f:Addr)(D:Ap z TI TO g f) :
  Turn P w K (.Tuple es d c) (Itz K k1 k2 a b) [z,TI,TO,g,f] z (λi h=>X6 k1 k2 z TI TO g f a b i h) where
 mem:=by simp
 obj:=λi h st c d=>by
  obtain⟨J,M,⟨x,y,L⟩,r,m⟩:=st;simp only[Ov,RP,or_false]at d;rcases d with e|e|e|e|e<;>subst e;exact⟨_,J,λv q=>by cases q⟩;exact⟨_,M,λv q=>by cases q⟩;exact⟨_,L,λv q=>by cases q⟩;obtain⟨o,p,_,A⟩:=r.obj;exact⟨o,p,λv q=>by rw[A]at q;cases q⟩;obtain⟨o,p,_,A⟩:=m.obj;exact⟨o,p,λv q=>by rw[A]at q;cases q⟩
 keep:=λi h h' st B=>by obtain⟨J,M,⟨x,y,L⟩,r,m⟩:=st;exact⟨B z (by simp) _ J,B TI (by simp) _ M,⟨x,y,B TO (by simp) _ L⟩,r.of λo e=>B g (by simp) o e,m.of λo e=>B f (by simp) o e⟩
 item:=by
  intro X hP hw hK d i G s σ H E I j st hg;subst hP hw hK;obtain⟨xs,ys,x,y,p,A,hx,hy⟩:=hg;obtain⟨us,T,p1⟩:=p.list I;obtain⟨ws,Q,Y⟩:=A.list I;obtain⟨u,w,ru⟩:=T.get hx;obtain⟨v,n,rv⟩:=Q.get hy;have t:∀{k:Bool} {l:Addr} {O:yaq},S6 X.K k H l O->Out z TO g f l:=λq=>⟨q.ne I (j z (by simp)),q.ne I (j TO (by simp)),q.ne I (j g (by simp)),q.ne I (j f (by simp))⟩
  refine HM D (t p) (t A) st p1 Y (x:=u) (y:=v) (by simpa using w) (by simpa using n) λh' n ti to r m pr B=>⟨_,rfl,wpAny_letOwnedTupleGo_zip n λN U sb=>?_⟩
  have n:s.heap.objs.size<=s.heap.objs.size:=OP _;have nz:s.heap.objs.size≠z:=Uc (OI st.z);have C:H s.heap.objs.size=none:=I.Om.fresh n;have w:∀c o,c ∉ [z,TI,TO,g,f]->s.heap.get? c=some o->N.get? c=some o:=λc o n e=>by simp only[Ov,RP,or_false,not_or]at n;exact sb.extBut c o n.1 (B c o n.1 n.2.2.1 n.2.2.2.1 n.2.2.2.2 e)
  have Va:X6 k1 k2 z TI TO g f a b (i+1) N:=⟨U,sb.extBut _ _ D.a1 ti,⟨_,_,sb.extBut _ _ D.a2 to⟩,r.of λo e=>sb.extBut _ o D.a3 e,m.of λo e=>sb.extBut _ o D.a4 e⟩;have U:IsPair N s.heap.objs.size u v:=sb.extBut _ _ nz pr;have lo:∀c ∈ [z,TI,TO,g,f],c≠s.heap.objs.size:=λc d e=>by
   have a:c<s.heap.objs.size:=by
    obtain⟨J,M,⟨x',y',L⟩,m,b⟩:=st;simp only[Ov,RP,or_false]at d;rcases d with q|q|q|q|q<;>subst q;exact OI J;exact OI M;exact OI L;obtain⟨o,p,_⟩:=m.obj;exact OI p;obtain⟨o,p,_⟩:=b.obj;exact OI p
   rw[e]at a;exact VG _ a
  refine⟨.ref s.heap.objs.size,L2.upd H s.heap.objs.size (.tup [x,y]),?_,rfl,⟨_,x,y,rfl,C,rfl,λxs' q=>by rw[q.inj I p];exact hx,λys' q=>by rw[q.inj I A];exact hy⟩,Va,λc d=>by rw[aC (lo c d)];exact(j c d).1⟩;have b:∀c o,H c=some o->c ∉ [z,TI,TO,g,f]:=λc o e d=>by have:=(j c d).1;rw[e]at this;cases this
  refine L2.Inv.step (s:=s) (h':=N) (g':=s.gens) (d':=s.drawn) (t':=s.toks) (ch:=[z,TI,TO,g,f]) I (λc d=>?_) (λc o _ _ n e _=>w c o n e) (λc o _ _ n e _=>⟨o.slots,w c o n e⟩) (λc o _ e n=>by rw[aC (PN (OI e))];exact n) (λc o n e=>⟨o,w c o n e⟩)
   (λc ls e=>by rw[aC (bf e C)];exact e) (λc o ls e=>by rw[aC (bf e C)];exact e) (λc ps e=>⟨#[],by rw[aC (bf e C),e];simp⟩) (λm y=>?_) (λc o e=>?_) I.bare
  obtain⟨f0,N,f2,M,L,J⟩:=j c d;exact⟨M,N,L,J⟩;obtain⟨o,RQ,ep,x,r⟩:=y;exact⟨o,RQ,ep,w _ o (λq=>(j _ q).2.1 rfl) x,r⟩;by_cases a:c=s.heap.objs.size;subst a;rw[aR]at e;cases e;exact⟨by rw[sizeLine_eq];show 2<=16777216;decide,[u,v],.cons ru (.cons rv .nil),⟨_,U,rfl,_,rfl⟩⟩;rw[aC a]at e;refine(I.Om c o e).Sa (λd' a u q=>w d' a ?_ q) (λd' q=>by rw[aC (bf q C)];exact q) λd' ls q=>by rw[aC (bf q C)];exact q
  rcases u with q'|q';rw[q'];exact b c o e;exact b d' _ q'
 done:=by
  intro X hP hw hK d i G s σ H E I j st hg;subst hP hw hK;obtain⟨xs,ys,p,A,i⟩:=hg;obtain⟨us,T,p1⟩:=p.list I;obtain⟨ws,Q,Y⟩:=A.list I;have t:∀{k:Bool} {l:Addr} {O:yaq},S6 X.K k H l O->Out z TO g f l:=λq=>⟨q.ne I (j z (by simp)),q.ne I (j TO (by simp)),q.ne I (j g (by simp)),q.ne I (j f (by simp))⟩
  refine HN (I.ok.hd d) D (t p) (t A) st p1 Y (i.imp (λq=>by simpa using T.none_of q) λq=>by simpa using Q.none_of q) λh' B=>⟨rfl,?_⟩
  have w:∀c o,c ∉ [z,TI,TO,g,f]->s.heap.get? c=some o->h'.get? c=some o:=λc o n e=>by simp only[Ov,RP,or_false,not_or]at n;exact B c o n.1 n.2.2.1 n.2.2.2.1 n.2.2.2.2 e
  have b:∀c o,H c=some o->c ∉ [z,TI,TO,g,f]:=λc o e d=>by have:=(j c d).1;rw[e]at this;cases this
  refine L2.Inv.step (s:=s) (h':=h') (g':=s.gens) (d':=s.drawn) (t':=s.toks) (ch:=[z,TI,TO,g,f]) I (λc d=>?_) (λc o _ _ n e _=>w c o n e) (λc o _ _ n e _=>⟨o.slots,w c o n e⟩) (λ_ _ _ _ n=>n) (λc o n e=>⟨o,w c o n e⟩) (λ_ _ e=>e) (λ_ _ _ e=>e) (λc ps e=>⟨#[],by rw[e];simp⟩) (λm y=>?_) (λc o e=>?_) I.bare;obtain⟨f0,N,f2,M,L,J⟩:=j c d;exact⟨M,N,L,J⟩;obtain⟨o,RQ,ep,x,r⟩:=y;exact⟨o,RQ,ep,w _ o (λq=>(j _ q).2.1 rfl) x,r⟩;refine(I.Om c o e).Sa (λd' a u q=>w d' a ?_ q) (λ_ q=>q) λ_ _ q=>q
  rcases u with q'|q';rw[q'];exact b c o e;exact b d' _ q'
 self:=λ_ _ _ _ _ st h=>wpAny_pyIter_zip st.z h
def iL:D->Option (Bool×yar)
 |.lst _ a=>some (true,a)
 |.tup a=>some (false,a)
 |_=>none
section
variable{X:Cx}
def Den.seq{k:Bool}{ds:yar}(h:Den X.K P H d v)(e:iL d=some (k,ds)):∃a vs,v=.ref a/\S6 X.K k H a vs/\aj X.K P H ds vs ∧
  ∀ (f:yak) (H':Hp),(∀a vs,OZ X.K H a vs->OZ X.K H' a vs)->(∀t a vs,¬P t a->QG X.K H t a vs->¬f t a/\QG X.K H' t a vs)->S6 X.K k H' a vs:=by
 cases d with
 |lst t g =>
  cases e;obtain⟨a,vs,c,p,q,b⟩:=h.UT;exact⟨a,vs,c,q.1,b,λf H' _ d=>(d t a vs p q).2.1⟩
 |tup g =>
  cases e;obtain⟨a,vs,c,q,b⟩:=h.Ra;exact⟨a,vs,c,q.w,b,λf H' b _=>(b a vs q).w⟩
 |OD=>cases e
 |bl _=>cases e
 |int _=>cases e
 |str _=>cases e
 |exc _=>cases e
 |obj _ _ _=>cases e
 |TL=>cases e
 |ra _=>cases e
 |R4 _ _=>cases e
def KA(b:DA):DA:=λa R=>b a λg=>∃d c f e b a,g=[d,c]/\iL d=some (f,b)/\iL c=some (e,a)/\R (List.zipWith (λx y=>D.tup [x,y]) b a)
def pf {a b:Expr} {p:Pos} (hg:Gl X "zip") (hm:X.mg "zip" = none) (ha:S4 X [a,b] ta) (hs:starEach [a,b] X.env=(false,eval a X.env)::starEach [b] X.env:=by rfl) (VS:(backTo pos (starEach [b] X.env)).any (·.1)=false:=by rfl) :
  Ug X (.Tuple es kt tp) (.Call (.Name "zip" p) [a,b] [] pos) (KA ta):=by
 intro k s σ H W ρ R I r h;refine Call_ (cH I hg hm boot_zip (PyProof.Rows.callWith_type1 (Oa (ha pos k s σ H W ρ _ I r h) λus f Oc=>?_) hs VS));obtain⟨vs,H1,ds,l,r1,e1,hd,q1⟩:=Oc;obtain⟨d1,d2,k1,k2,m,u,e,g1,g2,q⟩:=q1;subst e;obtain⟨v1,v2,rfl,U9,E⟩:=jN hd;obtain⟨l1,M,e2,z,J,up1⟩:=U9.seq g1;obtain⟨l2,L,e3,w,G,ZN⟩:=E.seq g2;subst e2 e3;cases r1 with
 |cons ra A =>
  cases A with
  |cons rb A =>
   cases A;cases ra;cases rb;obtain⟨us1,_,p1⟩:=z.list l;obtain⟨us2,_,p2⟩:=w.list l;have nn:∀j:Nat,f.heap.objs.size<=f.heap.objs.size+j:=λj=>XR _ j
   refine HL p1 p2 λh' Z kp=>?_
   refine wpAny_pyIter_zip Z.z ?_;have Dz:Ap (f.heap.objs.size+4) (f.heap.objs.size+2) (f.heap.objs.size+3) f.heap.objs.size (f.heap.objs.size+1):=by constructor<;>simp
   refine⟨f.heap.objs.size+4,[f.heap.objs.size+4,f.heap.objs.size+2,f.heap.objs.size+3,f.heap.objs.size,f.heap.objs.size+1],_,_,H1,_,rfl,l.kept (t':=f.toks) kp,e1,Hc k1 k2 l1 l2 _ _ _ _ _ Dz,Z,λc U=>?_,?_,q⟩;have UP:f.heap.objs.size<=c:=by
    simp at U;rcases U with q|q|q|q|q<;>subst q<;>first|exact nn _|exact OP _
   exact l.VP UP (l.Om.fresh UP);intro P' t n o Y i;have N:=up1 P' t n o;have g:=ZN P' t n o;have n1:=J.len;have n2:=G.len;have Q:(List.zipWith (λx y=>D.tup [x,y]) m u).length=min m.length u.length:=List.length_zipWith;refine⟨λd=>?_,λv H3 y d=>?_,λd=>⟨M,L,N,g,?_⟩⟩;obtain⟨x,C,_⟩:=J.get (i:=i) (d:=m[i]'(by lia)) (by simp);obtain⟨y,B,_⟩:=G.get (i:=i) (d:=u[i]'(by lia)) (by simp);exact⟨M,L,x,y,N,g,C,B⟩;obtain⟨T,x,O,e,nT,eH,C,B⟩:=y;subst e eH;obtain⟨dx,Tq,SH⟩:=J.bF (C M N);obtain⟨dy,V1,Um⟩:=G.bF (B L g);have sm:aw t (L2.upd t T (.tup [x,O])):=aw.upd nT;refine⟨sm,.tup [dx,dy],by simp[List.getElem?_zipWith,Tq,V1],Den.tup (OZ.of aR) (aj.cons ((Den.map n o Y dx x SH).same sm) (aj.one ((Den.map n o Y dy O Um).same sm)))⟩;by_cases hz:m.length<=i;exact .inl (Yk (by lia));exact .inr (Yk (by lia))
end
open PySem PySem.Spec PyProof.Rows L2
def UW(X:Cx)(e:Expr)(t:DA):Prop :=
 ∀ (b:yab) (s:Shared) (d:St) (H:Hp) (W:Own) (a:Ro) (Q:yar->Prop),Inv X b d H s->Rel X W H d a->t a Q →
  wpAny (model X.prog X.w) X.A (eval e X.env) (λu g=>∃a e c f,u=.ref a/\Inv X b d c g/\aw H c/\H a=none/\X.K.lookup a=none/\c a=some (.lst e)/\aj X.K (λt b=>W.bad t b∨b=a) c f e/\Q f) X.xe s
def Km(t:DA):DE:=λa Q=>t a λa=>Q (.lst true a)
section
variable{X:Cx}{e:Expr}{t:DA}{pos:Pos}
def UW.WH(h:UW X e t):Oo X e (Km t):=by
 intro a s b H W c Q I r d;refine Oa (h a s b H W c _ I r d) λu j d=>?_
 obtain⟨a,i,g,l,e,f,sm,n,k,c,b,q⟩:=d;subst e;exact⟨.ref a,g,_,f,rfl,sm,Den.lst (r.fresh n) (.new c k) (b.OB λ_ _ z=>.inl z),q⟩
def Inv.kno{o:HO}(I:Inv X pins σ H s)(h:H a=some o):X.K.lookup a=none:=by
 cases e:X.K.lookup a with
 |none=>rfl
 |some b =>
  have:=(I.bs a b (I.ok.mod.Yx a b e)).2
  lia
def Mr(i:Nat)(t:DA):DS:=λE a=>t a λb=>E.nx (a.set i (some (.own b)))
end
mutual
def oK:D->Bool
 |.tup a=>tu a
 |.obj _ _ a=>tu a
 |.R4 _ a=>tu a
 |.ra _=>false
 |.lst t a=>t && tu a
 |_=>true
def tu:yar->Bool
 |[]=>true
 |d::a=>oK d && tu a
end
def Own.soft(W:Own)(i:Nat)(a:Addr):Own:=⟨W.B,λj=>if j=i then none else W.O j,λb=>W.S b∨b=a⟩
section
variable{X:Cx}
theorem Rel.soft{i:Nat}(r:Rel X W H σ ρ)(e:ρ[i]?=some (some (.own ds))):∃a,W.O i=some a/\Rel X (W.soft i a) H σ (ρ.set i (some (.val (.lst false ds))))/\∀b,W.bad true b->(W.soft i a).bad true b:=by
 obtain⟨a,u,g,n,o,s⟩:=r.vo i ds e;have q:i<ρ.length:=(Ql.mp e).1;have e:∀j b,(W.soft i a).O j=some b->j≠i/\W.O j=some b:=λj b h=>by
  have l:(if j=i then none else W.O j)=some b:=h
  lia
 have c:∀t b,(W.soft i a).bad t b->W.bad t b:=λt b z=>by
  rcases z with z|⟨j,z⟩| ⟨d,z2⟩;exact .inl z;exact .inr (.inl ⟨j,(e j b z).2⟩);rcases z2 with z2|z2;exact .inr (.inr ⟨d,z2⟩);subst z2;exact .inr (.inl ⟨i,g⟩)
 have p:¬(W.soft i a).bad false a:=λz=>by
  rcases z with z|⟨j,z⟩| ⟨d,_⟩;exact(r.kn i a g).2.1.1 z;exact(e j a z).1 (r.inj j i a (e j a z).2 g);cases d
 refine⟨a,g,⟨λj d h=>?_,λj x h=>?_,λj k b l m=>r.inj j k b (e j b l).2 (e k b m).2,λj b h=>?_,λj b h=>r.ke j b (e j b h).2,r.bt,λb h=>?_,r.ent,r.tab⟩,λb z=>?_⟩;by_cases f:j=i;subst f;rw[XI q]at h;cases h;exact⟨.ref a,n,Den.lst p (.any (SqL.of o)) (s.OB c)⟩;rw[TC (Ne.symm f)]at h;obtain⟨w,l,m⟩:=r.val j d h;exact⟨w,l,m.OB c⟩;by_cases f:j=i
 simp_all
 rw[TC (Ne.symm f)]at h;obtain⟨b,a,l,m,p,d⟩:=r.own j x h;exact⟨b,a,by show(if j=i then none else W.O j)=_;rw[N2 f];exact l,m,p,d.OB c λk c q=>(by show(if YL σ.length j k=i then none else W.O (YL σ.length j k))=_;rw[N2 (ql (Ql.mp n).1)];exact q)⟩
 obtain⟨k,⟨d,c⟩,a⟩:=r.kn j b (e j b h).2;refine⟨k,⟨d,λz=>z.elim c λz=>?_⟩,a⟩;subst z;exact(e j b h).1 (r.inj j i b (e j b h).2 g);rcases h with h|h;exact r.st b h;subst h;exact⟨_,o⟩;rcases z with z|⟨j,z⟩| ⟨_,z⟩;exact .inl z;by_cases f:j=i;subst f;rw[g]at z;cases z;exact .inr (.inr ⟨rfl,.inr rfl⟩);exact .inr (.inl ⟨j,by show(if j=i then none else W.O j)=_;rw[N2 f];exact z⟩);exact .inr (.inr ⟨rfl,.inl z⟩)
variable{e:Expr}{te:DE}{tt:DT}{ta:DA}
def Mt(i:Nat)(t:DE):DE:=λa Q=>∃b,a[i]?=some (some (.own b))/\t (a.set i (some (.val (.lst false b)))) λd=>oK d=true/\Q d
def DN(i:Nat)(t:DT):DT:=λa Q=>∃b,a[i]?=some (some (.own b))/\t (a.set i (some (.val (.lst false b)))) Q
def Il(i:Nat)(h:TP X e tt):TP X e (DN i tt):=by intro b s d H W g Q I r c;obtain⟨l,f,c⟩:=c;obtain⟨a,k,a,j⟩:=r.soft f;exact h b s d H _ _ _ I a c
end
section
variable{X:Cx}{pos:Pos}
theorem aj.take{K:yac}{P:yak}{H:Hp}:∀{ds:yar} {vs:yaq} (n:Nat),aj K P H ds vs->aj K P H (ds.take n) (vs.take n)
 |_,_,0,_=>by simp_all [List.take_zero,aj.nil]
 |[],_,_+1,h=>by subst h;exact aj.nil
 |x::r,_,n+1,h=>by obtain⟨u,w,rfl,b,a⟩:=h;exact aj.cons b (aj.take n a)
theorem aj.drop{K:yac}{P:yak}{H:Hp}:∀{ds:yar} {vs:yaq} (n:Nat),aj K P H ds vs->aj K P H (ds.drop n) (vs.drop n)
 |_,_,0,h=>by grind
 |[],_,_+1,h=>by subst h;exact aj.nil
 |x::r,_,n+1,h=>by obtain⟨u,w,rfl,b,a⟩:=h;exact aj.drop n a
theorem aj.rev{K:yac}{P:yak}{H:Hp}:∀{ds:yar} {vs:yaq},aj K P H ds vs->aj K P H ds.reverse vs.reverse
 |[],_,h=>by subst h;exact aj.nil
 |x::r,_,h=>by
  obtain⟨u,w,rfl,b,a⟩:=h
  simp_all [Zq,aj.rev,append,aj.one]
def Ce(i:Nat)(C:yar->Prop)(f:yar->yar):DS:=λE b=>∃a,b[i]?=some (some (.own a))/\C a/\E.nx (b.set i (some (.own (f a))))
def F9 {x name:Str} {id:String} {e c b:Pos} {j:V->yaq->Hp->VK->Prop} {C:yar->Prop} {f:yar->yar} (g:yaq->yaq) (i:Nat) (d:Slot "list" name id) (h:typeOf (.builtin id)=pure (.type "method_descriptor")) (m:MtM X id j)
  (l:∀(a:Addr) (vs:yaq) (ds:yar) (H:Hp) (Q:VK),H a=some (.lst vs)->vs.length=ds.length->C ds->(∀v,Q v (L2.upd H a (.lst (g vs))))->j (.ref a) [] H Q) (n:∀(K:yac) (P:yak) (H:Hp) (ds:yar) (vs:yaq),aj K P H ds vs->aj K P H (f ds) (g vs))
  (hi:X.N[i]?=some x:=by rfl) (k:VM X.env.scope x:=by first|exact Or.inl rfl|exact Or.inr (Or.inl rfl)|exact Or.inr (Or.inr rfl)) (o:(x==("__debug__" : Str))=false:=by decide) (p:(x==("__classdict__" : Str))=false:=by decide)
  (r:attributeBase (.Name x e) name X.env (eval (.Name x e) X.env)=eval (.Name x e) X.env:=by rfl) (q:(c.endLine==b.line)=true:=by rfl)
  (hs:swapsWith (.Call (.Attribute (.Name x e) name c) [] [] b) none pos.line X.env=pure false:=by rfl):Rq X (.Expr (.Call (.Attribute (.Name x e) name c) [] [] b) pos) (Ce i C f):=by
 have b:=vp (pos:=pos) (LN PySem.F.plainAttrs_list d h m (kA hi k o p) r q) hs;refine Rq.of b λs H W t E r u h=>?_
 obtain⟨ds,d,j,h⟩:=h;obtain⟨a,vs,g,c,b,e⟩:=r.vo i ds d;obtain⟨f,i⟩:=r.Vr d g c b (n _ _ _ ds vs e);exact⟨.ref a,c,.inl ⟨rfl,_,SqL.of b⟩,l a vs ds H _ b e.len j λv=>⟨W,_,i,f,h⟩⟩
theorem aj.dropLast{K:yac}{P:yak}{H:Hp}{ds:yar}{vs:yaq}(h:aj K P H ds vs):aj K P H ds.dropLast vs.dropLast:=by rw[List.dropLast_eq_take,List.dropLast_eq_take,h.len];exact h.take _
def KR {x:Str} {c b a:Pos} (i:Nat) (hi:X.N[i]?=some x:=by rfl) (d:VM X.env.scope x:=by first|exact Or.inl rfl|exact Or.inr (Or.inl rfl)|exact Or.inr (Or.inr rfl)) (e:(x==("__debug__" : Str))=false:=by decide) (g:(x==("__classdict__" : Str))=false:=by decide)
  (k:attributeBase (.Name x c) "pop" X.env (eval (.Name x c) X.env)=eval (.Name x c) X.env:=by rfl) (j:(b.endLine==a.line)=true:=by rfl)
  (hs:swapsWith (.Call (.Attribute (.Name x c) "pop" b) [] [] a) none pos.line X.env=pure false:=by rfl):Rq X (.Expr (.Call (.Attribute (.Name x c) "pop" b) [] [] a) pos) (Ce i (λds=>0<ds.length) List.dropLast) :=
 F9 List.dropLast i PySem.F.slot_list_pop PySem.F.type_list_pop Lz (λa b ds H Q f l m q=>by
  have c:b.length - 1<b.length:=by omega
  exact⟨a,b,b[b.length - 1],rfl,rfl,f,by simp[c],q _⟩) (λ_ _ _ _ _ h=>h.dropLast) hi d e g k j hs
def Nk(i:Nat)(f:Int->Int->Int)(te:DE):DS:=λE c=>∃a,c[i]?=some (some (.val (.int a)))/\te c λd=>∃b,d=.int b/\E.nx (c.set i (some (.val (.int (f a b)))))
def KP{x:Str}(i:Nat)(g:X.N.Nodup)(d:Oo X e te)(b:PIp X op (ipI f))(hi:X.N[i]?=some x:=by rfl)(a:Loc X.env.scope x:=by first|exact Or.inl rfl|exact Or.inr rfl)
  (c:X.fn x=true∨X.env.scope.names.lookup x=some .local:=by first|exact .inl rfl|exact .inr rfl|assumption):Rq X (.AugAssign (.Name x pos') op e pos) (Nk i f te):=by
 refine Rq.of (LV g hi a d.pe b c) λe H W b E r f h=>?_
 obtain⟨a,g,h⟩:=h;obtain⟨v,c,d⟩:=r.val i _ g;have z:=d.O6;subst z;refine⟨.int a,c,W,b,_,r,h,λj g d c d q=>?_⟩;obtain⟨b,rfl,q⟩:=q;have z:=d.O6;subst z;have d:i<e.length:=by rw[f];exact(Ql.mp hi).1
 exact⟨a,b,rfl,rfl,W.drop i,_,(OK.same c).trans (OK.drop W g i),(r.same c).put d (Den.int _),q⟩
variable{e:Expr}{te:DE}{p:Pos}
def Ms(te:DE):DA:=λa Q=>te a λd=>∃k a,iL d=some (k,a)/\Q a
theorem cQ{K:yac}{P:yak}{H:Hp}:∀{ns:yaf} {vs:yaq},aj K P H (ns.map D.int) vs->vs=ns.map V.int
 |[],_,h=>by simpa only[VF,aj]using h
 |n::r,_,h=>by obtain⟨v,w,rfl,b,a⟩:=h;rw[b.O6,cQ a];rfl
def oQ (w:X.calm=true):dD X (.builtin "sum") (λds Q=>∃(t:Bool) (ns:yaf),ds=[.lst t (ns.map D.int)]/\Q (.int ns.sum)):=by
 intro d s A H W ds C E Q I G r u q;obtain⟨t,ns,e,q⟩:=q;subst e;obtain⟨v,rfl,x⟩:=mM u;obtain⟨a,B,y,_,n,m⟩:=x.Q0;subst y;cases r with
 |cons j i =>
  cases i;cases j;obtain⟨h,c,k,_⟩:=I.list n;rw[cQ m]at c;have f:=intsAre_of c;obtain⟨b,g⟩:=f.allInts.items;have o:s.heap.IsList a (intItems b):=by rw[<- g];exact k.isList
  refine sum_intListG (I.ok.hd w) o λM J L l=>?_
  have z:preSum (numAt b) b.size=ns.sum:=by rw[preSum_eq,Yj (by simp),<- nums_intItems,<- g,show h.toArray.toList=h from rfl,f.numsOf]
  rw[z];exact⟨.int ns.sum,H,_,I.kept l,⟨_,rfl⟩,aw.refl H,Den.int _,q⟩
theorem Vals.rev:∀{xs:yaq} {a:yad},Vals xs a->Vals xs.reverse a.reverse
 |_,_,.nil=>.nil
 |_,_,.cons r t=>by rw[Zq,Zq];exact(Vals.rev t).append (.cons r .nil)
def cutD(xs:yar)(lo hi:yap):yar:=(xs.drop (HT.OU xs.length 0 lo)).take (HT.OU xs.length xs.length hi - HT.OU xs.length 0 lo)
def aj.cut{K:yac}{P:yak}{H:Hp}{ds:yar}{vs:yaq}(lo hi:yap)(h:aj K P H ds vs):aj K P H (cutD ds lo hi) (oS vs lo hi):=by unfold cutD oS;rw[h.len];exact(h.drop _).take _
abbrev DO:=Ro->(yap->Prop)->Prop
def WI(X:Cx)(e:Option Expr)(t:DO):Prop :=
 ∀ (a:yab) (s:Shared) (b:St) (H:Hp) (W:Own) (c:Ro) (Q:yap->Prop),Inv X a b H s->Rel X W H b c->t c Q →
  wpAny (model X.prog X.w) X.A (evalPart e X.env) (λu d=>∃o c,Inv X a b c d/\IsPart u o/\aw H c/\Q o) X.xe s
def dg:DO:=λ_ Q=>Q none
def tE(te:DE):DO:=λa Q=>te a λd=>∃i,d=.int i/\Q (some i)
def cT:WI X none dg:=by intro a s b H W c Q I r h;exact wpAny_pure ⟨none,H,I,.none,aw.refl H,h⟩
def di(d:Oo X e te):WI X (some e) (tE te):=by
 intro a s b H W c Q I r h;refine Oa (d a s b H W c _ I r h) λu j f=>?_
 obtain⟨v,h,d,g,a,d,b,i,c,q⟩:=f;subst c;have z:=b.O6;subst z;obtain⟨t,rfl⟩:=a;exact⟨some i,h,g,.int i t,d,q⟩
variable{lo hi st:Option Expr}{tl th ts:DO}{p2:Pos}
def sF{R:D->yap->yap->yap->Prop}(n:Oo X e te)(m:WI X lo tl)(o:WI X hi th)(q:WI X st ts)(I:Inv X pins σ H s)(r:Rel X W H σ ρ)
  (h:te ρ λd=>tl ρ λl=>th ρ λu=>ts ρ λk=>R d l u k)
  (A:∀(v:V) (a g f i:Value) (l u k:yap) (d:D) (b:Addr) (H':Hp) (j:Shared),Inv X pins σ H' j->aw H H'->RelV v a->Den X.K W.bad H' d v->j.heap.IsSliceOf b g f i->IsPart g l->IsPart f u->IsPart i k->R d l u k →
   ∃ T id,typeLookup (.type T) "__getitem__" = pure (some (.builtin id))/\j.TypeIs a T/\wpAny (model X.prog X.w) X.A (getItem a (.ref b)) Q X.xe j)
  (c:∀a b,∃ops,subscripted (.Slice lo hi st p2) false a b=operate ops (getItem a b)):wpAny (model X.prog X.w) X.A (eval (.Subscript e (.Slice lo hi st p2) pos) X.env) Q X.xe s:=by
 refine Subscript_ (Oa (n pins s σ H W ρ _ I r h) λa h n=>?_);obtain⟨v,x,d,w,t,s,B,j⟩:=n;have b:=r.same s;refine wpAny_Slice (Oa (m pins h σ x W ρ _ w b j) λg h ⟨l,w,r,y,j,m⟩=>Oa (o pins h σ w W ρ _ r (b.same j) m) λf h ⟨u,w,r,x,m,o⟩=>Oa (q pins h σ w W ρ _ r ((b.same j).same m) o) λi h n=>?_);obtain⟨k,r,b,z,o,w⟩:=n;have C:Inv X pins σ r {h with heap:=h.heap.push {cls:=.type "slice", data:=.fields #[g,f,i]} }:=b.kept (t':=h.toks) λb ob q=>Ph _ q
 obtain⟨T,id,q,b,n⟩:=A v a g f i l u k d h.heap.objs.size r _ C (s.trans (j.trans (m.trans o))) t (B.same (j.trans (m.trans o))) (Heap.IsSliceOf.new ..) y x z w;obtain⟨ops,d⟩:=c a (.ref h.heap.objs.size);exact tail_any (ops:=ops) b q n d
def Kt(te:DE)(tl th:DO):DA:=λa Q=>te a λd=>tl a λl=>th a λu=>∃t a,d=.lst t a/\Q (cutD a l u)
def Ku(te:DE)(tl th:DO):DE:=λa Q=>te a λd=>tl a λl=>th a λu=>∃a,d=.tup a/\¬(HT.OU a.length 0 l=0/\HT.OU a.length a.length u=a.length)/\Q (.tup (cutD a l u))
def rj(f:yaq->yaq)(g:yar->yar)(I:Inv X pins σ H' s)(r:Rel X W H' σ ρ)(sm:aw H H')(m:RelV v vv)(z:Den X.K W.bad H' (.lst tg ds) v)(hs:s.heap.IsSliceOf sl vl vu vk)(o:IsPart vl l)(n:IsPart vu u)(w:IsPart vk k)(k0:k≠some 0)
  (x:∀c:yad,∃g':yad->yad,slicePick c.toArray l u k=(g' c).toArray/\∀vs,Vals vs c->Vals (f vs) (g' c)/\(f vs).length<=vs.length) (y:∀vs,aj X.K W.bad H' ds vs->aj X.K W.bad H' (g ds) (f vs)) {Q:yar->Prop} (q:Q (g ds)) :
  ∃ T id,typeLookup (.type T) "__getitem__" = pure (some (.builtin id))/\s.TypeIs vv T/\wpAny (model X.prog X.w) X.A (getItem vv (.ref sl)) (λi j=>∃a vs d ds,i=.ref a/\Inv X pins σ d j/\aw H d/\H a=none/\X.K.lookup a=none/\d a=some (.lst vs)/\aj X.K (λt b=>W.bad t b∨b=a) d ds vs/\Q ds) X.xe s:=by
 obtain⟨a,vs,a,_,j,l⟩:=z.Q0;subst a;cases m;obtain⟨c,d,a,i⟩:=I.list j;have h:=d.length;refine⟨"list", _,slot_list_getitem.lookup,a.isList.typeIs,?_⟩;refine wpAny_getItem_list_slice a.isList hs o n w k0 ?_ (by rw[RB]<;>lia);obtain⟨g',e,j⟩:=x c;rw[e];obtain⟨a,k⟩:=j vs d;have c:H' s.heap.objs.size=none:=I.Om.fresh (OP _);refine⟨s.heap.objs.size,f vs,_,g ds,rfl,I.laid (t':=s.toks) (o:=.lst (f vs)) (λb ob q=>Ph _ q) (OP _) ⟨Pe k i,_,0,a,Q7 _ rfl⟩,sm.trans (aw.upd c),sm.free c,Inv.QQ I,aR,aj.apart c (Inv.QQ I) (y vs l),q⟩
def mP(i:Oo X e te)(f:WI X lo tl)(g:WI X hi th):UW X (.Subscript e (.Slice lo hi none p2) pos) (Kt te tl th):=by
 intro c s o H W b Q I r h;refine sF (st:=none) (ts:=dg) (R:=λd l u k=>k=none/\∃t a,d=.lst t a/\Q (cutD a l u)) i f g cT I r ?_ ?_ (λ_ _=>⟨_,rfl⟩);have f:(λd=>tl b λl=>th b λu=>dg b λk=>k=none/\∃t a,d=D.lst t a/\Q (cutD a l u))=λd=>tl b λl=>th b λu=>∃t a,d=D.lst t a/\Q (cutD a l u):=by
  funext d
  congr 1
  funext l
  congr 1
  funext u
  exact propext ⟨λz=>z.2,λz=>⟨rfl,z⟩⟩
 rw[f];exact h;intro v w y x A l u k d B H' C n sm d j i g f h b;obtain⟨k,t,a,m,q⟩:=b;subst k m;exact rj (λb=>oS b l u) (λa=>cutD a l u) n (r.same sm) sm d j i g f h (by simp) (λa=>⟨λa=>(a.drop (HT.OU a.length 0 l)).take (HT.OU a.length a.length u - HT.OU a.length 0 l),xh a l u,λb a=>⟨by unfold oS;rw[a.length];exact(a.drop _).take _,rf b l u⟩⟩) (λb a=>a.cut l u) q
def Kr(te:DE):DA:=λa Q=>te a λd=>∃t a,d=.lst t a/\Q a.reverse
def KJ(c:Oo X e te):UW X (.Subscript e (.Slice none none (some (.UnaryOp .USub (.Constant (.int 1) j pc) f)) p2) pos) (Kr te):=by
 intro g s o H W b Q I r h;refine sF (ts:=tE (yh (dC (.int 1)))) (tl:=dg) (th:=dg) (R:=λd l u k=>l=none/\u=none/\k=some (-1)/\∃t a,d=.lst t a/\Q a.reverse) c cT cT (di (cF ae)) I r ?_ ?_ (λ_ _=>⟨_,rfl⟩);have c:(λd=>dg b λl=>dg b λu=>tE (yh (dC (.int 1))) b λk=>l=none/\u=none/\k=some (-1)/\∃t a,d=D.lst t a/\Q a.reverse)=λd=>∃t a,d=D.lst t a/\Q a.reverse:=by
  simp only[dg,tE,yh,dC,true_and]
  simp_all
 rw[c];exact h;intro v w y x z l u k d A H' B n sm b j i d f h k;obtain⟨c,m,l,t,a,a,q⟩:=k;subst c m l a;exact rj List.reverse List.reverse n (r.same sm) sm b j i d f h (by decide) (λa=>⟨List.reverse,PySem.W.krv_pick a.toArray,λa b=>⟨Vals.rev b,by grind⟩⟩) (λa a=>a.rev) q
end
section
variable{prog:Program}{w:World}{A:Around}{E:yaa}{s:Shared}{p q:Addr}{us ws:yad}{Q:yaa}
def Nd(c:s.heap.IsList p us.toArray)(m:s.heap.IsList q ws.toArray)(hz:us.length+ws.length<=sizeLine)
  (h:Q (.ref s.heap.objs.size) {s with heap:=s.heap.push {cls:=.type "list", data:=.seq (us++ws).toArray} }):wpAny (model prog w) A (binaryOp .Add (.ref p) (.ref q)) Q E s:=by
 obtain⟨⟨t,l,o,g⟩,b,a,j,g3⟩:=id c;obtain⟨⟨r,k,n,f⟩,e,d,i,c⟩:=id m;simp only at a g3 d c;subst a g3 d c;refine concat_meets ⟨_,b,rfl⟩ ⟨_,e,rfl⟩ noFill_list_add seq_list_add PySem.F.slot_list_add PySem.F.entry_list_add (PySem.F.args_list_add_2 _ _) (list_addW p q us.toArray ws.toArray j i l k g f (by simpa using hz)) ⟨b,e,?_⟩;rw[show us.toArray++ws.toArray=(us++ws).toArray by simp];exact h
def jx(b:IsTup s.heap p us.toArray)(i:IsTup s.heap q ws.toArray)(hz:us.length+ws.length<=sizeLine)(h0:us=[]->Q (.ref q) s)(j:ws=[]->Q (.ref p) s)
  (h:Q (.ref s.heap.objs.size) {s with heap:=s.heap.push {cls:=.type "tuple", data:=.seq (us++ws).toArray} }):wpAny (model prog w) A (binaryOp .Add (.ref p) (.ref q)) Q E s:=by
 obtain⟨⟨t,h,o,d⟩,a,k,f,g3⟩:=id b;obtain⟨⟨r,g,n,c⟩,b,m,e,l⟩:=id i;subst k g3 m l;by_cases i:us=[];exact concat_meets ⟨_,a,rfl⟩ ⟨_,b,rfl⟩ noFill_tuple_add seq_tuple_add PySem.F.slot_tuple_add PySem.F.entry_tuple_add (PySem.F.args_tuple_add_2 _ _) (tuple_addW0 p q us.toArray ws.toArray f e h g d c (by simp[i])) ⟨a,b,h0 i⟩;by_cases i:ws=[];exact concat_meets ⟨_,a,rfl⟩ ⟨_,b,rfl⟩ noFill_tuple_add seq_tuple_add PySem.F.slot_tuple_add PySem.F.entry_tuple_add (PySem.F.args_tuple_add_2 _ _) (tuple_addW1 p q us.toArray ws.toArray f e h g d c (by simp_all) (by simp[i])) ⟨a,b,j i⟩;refine concat_meets ⟨_,a,rfl⟩ ⟨_,b,rfl⟩ noFill_tuple_add seq_tuple_add PySem.F.slot_tuple_add PySem.F.entry_tuple_add (PySem.F.args_tuple_add_2 _ _) (tuple_addW2 p q us.toArray ws.toArray f e h g d c (by simp_all) (by simp_all) (by simp_all)) ⟨a,b,?_⟩;grind
end
section
variable{X:Cx}{pos:Pos}
def xt:RD2:=λx y Q=>match x,y with
 |.int i,.int j=>Q (.int (i+j))
 |.tup b,.tup a=>b.length+a.length<=sizeLine/\Q (.tup (b++a))
 |.lst _ b,.lst _ a=>b.length+a.length<=sizeLine/\Q (.lst true (b++a))
 |_,_=>False
theorem Dl(i j:Int)(Q:D->Prop):xt (.int i) (.int j) Q=Q (.int (i+j)):=rfl
theorem J5(t u:Bool)(xs ys:yar)(Q:D->Prop):xt (.lst t xs) (.lst u ys) Q=(xs.length+ys.length<=sizeLine/\Q (.lst true (xs++ys))):=rfl
def IW{W:Own}{H:Hp}{t:Bool}(b:∀t a,W.bad t a->∃o,H a=some o)(h:H a=none):¬W.bad t a:=by grind
set_option tactic.hygienic true in
def bg:Qc X (binaryOp .Add) xt:=by
 intro a s b H W x y v u c d Q I A w z n m q;cases x<;>cases y<;>first|exact q.elim|skip
 exact LC a s b H W _ _ v u c d Q I A w z n m q;rename_i M L;obtain⟨p,l,y,g,k⟩:=n.Ra;obtain⟨B,d,x,f,c⟩:=m.Ra;subst y x;cases w;cases z;obtain⟨o,j,t,_⟩:=I.tuple g.w;obtain⟨a,i,r,_⟩:=I.tuple f.w;obtain⟨N,q⟩:=q;have J:=k.len;have G:=c.len;have E:=j.length;have C:=i.length;have b:o.length+a.length<=sizeLine:=by omega
 have h:H s.heap.objs.size=none:=I.Om.fresh (OP _);refine jx t r b (λe=>?_) (λe=>?_) ?_;subst e;have:l=[]:=Yf (by simpa using E);subst this;have:M=[]:=Yf (by simpa using J.symm);subst this;exact⟨.ref B,H,_,I,rfl,aw.refl H,m,q⟩;subst e;have:d=[]:=Yf (by simpa using C);subst this;have:L=[]:=Yf (by simpa using G.symm);subst this;rw[VB]at q;exact⟨.ref p,H,_,I,rfl,aw.refl H,n,q⟩;exact⟨.ref s.heap.objs.size,L2.upd H s.heap.objs.size (.tup (l++d)),_,I.laid (t':=s.toks) (λb u e=>Ph _ e) (OP _) ⟨by rw[QZ];omega,o++a,j.append i,⟨_,Q7 _ rfl,rfl,_,rfl⟩⟩,rfl,aw.upd h,Den.tup (OZ.of aR) ((k.append c).same (aw.upd h)),q⟩;obtain⟨p,l,y,_,g,k⟩:=n.Q0;obtain⟨B,d,x,_,f,c⟩:=m.Q0;subst y x;cases w;cases z;obtain⟨o,j,t,_⟩:=I.list g;obtain⟨a,i,r,_⟩:=I.list f;obtain⟨N,q⟩:=q;have J:=k.len;have G:=c.len;have E:=j.length;have C:=i.length;have h:H s.heap.objs.size=none:=I.Om.fresh (OP _);refine Nd t.isList r.isList (by omega) ?_;exact⟨.ref s.heap.objs.size,L2.upd H s.heap.objs.size (.lst (l++d)),_,I.laid (t':=s.toks) (λb u e=>Ph _ e) (OP _) ⟨by rw[QZ];omega,o++a,0,j.append i,Q7 _ rfl⟩,rfl,aw.upd h,Den.lst (IW A h) (.new aR (Inv.QQ I)) ((k.append c).same (aw.upd h)),q⟩
def okI(x:D):Prop:=okD x/\(QK x).depth<64
def Jw:RD2:=λx y Q=>okI x/\okD y/\∃a,(y=.tup a∨∃ t,y=.lst t a)/\Q (.bl (!a.any λz=>eqD z x))
theorem xJ(x:D):∀ys:yar,(dm ys).any (λy=>PyData.eqv y (QK x))=ys.any λz=>eqD z x
 |[]=>by rfl
 |y::r=>by rw[dm,List.any_cons,List.any_cons,xJ x r];rfl
def Bh{A:Around}{d:PyData}(b:d.depth<64)(a:A.units+64<cLine):A.units+1+min (PyData.depthAll xs) d.depth<cLine:=by
 have:min (PyData.depthAll xs) d.depth<=d.depth:=Nat.min_le_right _ _
 lia
def nk(i:X.A.units+64<cLine):Qc X (compareOp .NotIn) Jw:=by
 intro a s j H W x y v u l m Q I _ n o r p q;obtain⟨b,f,k,e,q⟩:=q;obtain⟨z,h⟩:=eS I x v l r n b.1.1;obtain⟨w,g⟩:=eS I y u m p o f.1;have c:DP X a j W H Q (.bool (!(dm k).any λy=>PyData.eqv y (QK x))) s:=by rw[xJ];exact⟨.bl _,H,_,I,rfl,aw.refl H,Den.bl _,q⟩
 rcases e with e|⟨t,e⟩;subst e;have d:=f.2;exact SeqAt.notIn_tuple_reads g h (SeqAt.canLay_of_shaped d) (SeqAt.canLay_of_shaped b.1.2) (Bh b.2 i) c;subst e;have d:=f.2;exact SeqAt.notIn_list_reads g h (SeqAt.canLay_of_shaped d) (SeqAt.canLay_of_shaped b.1.2) (Bh b.2 i) c
def vg(i:Int):okI (.int i)=True:=eq_true ⟨Bn i,by rw[QK,PyData.depth];decide⟩
end
def PKD(X:Cx)(kws:List Keyword)(t:DA):Prop :=
 ∀ (c:Pos) (a:yab) (s:Shared) (b:St) (H:Hp) (W:Own) (d:Ro) (Q:yar->Prop),Inv X a b H s->Rel X W H b d->t d Q →
  wpAny (model X.prog X.w) X.A (evalAll ((backToKw c (keywordEach kws X.env)).map (·.2))) (DAP X a b W H Q) X.xe s
def Gr:Key->D
 |.inl i=>.int i
 |.inr x=>.str x
section
variable{κ:Type} [DecidableEq κ] {K:yac}{P:yak}{H:Hp}
noncomputable def dH(kvs:List (κ×D))(k:κ):Option D:=(kvs.find? λa=>decide (a.1=k)).map (·.2)
def putD(kvs:List (κ×D))(k:κ)(d:D):List (κ×D):=if(dH kvs k).isSome=true then kvs.map (λa=>if a.1=k then(a.1,d)else a)else kvs++[(k,d)]
def t6(p:κ×D)(r:List (κ×D))(k:κ):dH (p::r) k=if p.1=k then some p.2 else dH r k:=by unfold dH;grind
theorem rS:∀{kvs:List (κ×D)} {kws:List (κ×V)} {k:κ},kws.map (·.1)=kvs.map (·.1)->aj K P H (kvs.map (·.2)) (kws.map (·.2))->match dH kvs k with|some d=>∃v,d6 kws k=some v/\Den K P H d v|none=>d6 kws k=none
 |[],kws,k,e,_=>by
  have:kws=[]:=by simp_all
  subst this;exact Hg
 |p::r,[],k,e,_=>by simp at e
 |p::r,q::s,k,e,h=>by
  simp at e;simp at h;obtain⟨v,u,a,f,b⟩:=h;simp at a;obtain⟨a,c⟩:=a;subst c;rw[t6];by_cases z:p.1=k
  simp_all [N4,n9]
  rw[N2 z,n8 (by simp_all)];exact rS e.2 b
def va{kvs:List (κ×D)}{kws:List (κ×V)}{d:D}(e:kws.map (·.1)=kvs.map (·.1))(h:aj K P H (kvs.map (·.2)) (kws.map (·.2)))(l:dH kvs k=some d):∃v,d6 kws k=some v/\Den K P H d v:=by have:=rS (k:=k) e h;rw[l]at this;exact this
def ze{kvs:List (κ×D)}{kws:List (κ×V)}(e:kws.map (·.1)=kvs.map (·.1))(h:aj K P H (kvs.map (·.2)) (kws.map (·.2)))(l:dH kvs k=none):d6 kws k=none:=by have:=rS (k:=k) e h;rw[l]at this;exact this
def Ha{kvs:List (κ×D)}{kws:List (κ×V)}(e:kws.map (·.1)=kvs.map (·.1))(h:aj K P H (kvs.map (·.2)) (kws.map (·.2))):(d6 kws k).isSome=(dH kvs k).isSome:=by
 cases l:dH kvs k with
 |none=>rw[ze e h l];rfl
 |some d =>
  obtain⟨v,q,_⟩:=va e h l;rw[q];rfl
theorem zu:∀{kvs:List (κ×D)} {kws:List (κ×V)} {k:κ} {d:D} {v:V},kws.map (·.1)=kvs.map (·.1)->aj K P H (kvs.map (·.2)) (kws.map (·.2))->Den K P H d v →
  (kws.map λa=>if a.1=k then(a.1,v)else a).map (·.1)=(kvs.map λa=>if a.1=k then(a.1,d)else a).map (·.1)/\aj K P H ((kvs.map λa=>if a.1=k then(a.1,d)else a).map (·.2)) ((kws.map λa=>if a.1=k then(a.1,v)else a).map (·.2))
 |[],kws,k,d,v,e,_,_=>by simp_all
 |p::r,[],k,d,v,e,_,_=>by simp at e
 |p::r,q::s,k,d,v,e,h,b=>by
  simp at e;simp at h;obtain⟨g,u,a,l,c⟩:=h;simp at a;obtain⟨a,f⟩:=a;subst f;obtain⟨j,i⟩:=zu (k:=k) e.2 c b;by_cases z:p.1=k
  all_goals simp_all [N4,aj.cons,N2]
def Jr{kvs:List (κ×D)}{kws:List (κ×V)}(e:kws.map (·.1)=kvs.map (·.1))(h:aj K P H (kvs.map (·.2)) (kws.map (·.2)))(a:Den K P H d v) :
  (putK kws k v).map (·.1)=(putD kvs k d).map (·.1)/\aj K P H ((putD kvs k d).map (·.2)) ((putK kws k v).map (·.2)):=by
 unfold putK putD;rw[sO,Ha e h];by_cases z:(dH kvs k).isSome=true;rw[N4 z,N4 z];exact zu e h a;rw[N2 z,N2 z,QE,QE,QE,QE,e];exact⟨rfl,h.append (aj.one a)⟩
end
def A7{K:yac}{P:yak}{H:Hp}{k:Key}{v:V}(h:Den K P H (Gr k) v):v=kV k:=by
 cases k with
 |inl i=>exact h.O6
 |inr x=>exact h.Xd
def PPD(X:Cx)(pos:Pos)(keys:List (Option Expr))(a:yai)(t:Ro->(List (D×D)->Prop)->Prop):Prop :=
 ∀ (b:yab) (s:Shared) (c:St) (H:Hp) (W:Own) (d:Ro) (Q:List (D×D)->Prop),Inv X b c H s->Rel X W H c d->t d Q →
  wpAny (model X.prog X.w) X.A (evalPairs (pairTrees keys a X.env pos)) (λf g=>∃d a e,Inv X b c a g/\VV d f/\aw H a/\aj X.K W.bad a (e.map (·.1)) (d.map (·.1))/\aj X.K W.bad a (e.map (·.2)) (d.map (·.2))/\Q e) X.xe s
section
variable{X:Cx}{pos:Pos}
def Rel.YY(r:Rel X W H σ ρ){i:Nat}(h:ρ[i]?=some (some (.ob (.dk kvs)))):∃a kws,W.O i=some a/\σ[i]?=some (some (.ref a))/\H a=some (.dK kws)/\kws.map (·.1)=kvs.map (·.1)/\aj X.K W.bad H (kvs.map (·.2)) (kws.map (·.2)):=by
 obtain⟨a,o,f,d,c,b⟩:=r.own i _ h;cases b with
 |dk e b=>exact⟨a,_,f,d,c,e,b⟩
end
def K1(kvs:List (Key×D))(r:Ro)(R:List (Key×D)->Prop):(∃ys,(some (Sl.ob (.dk kvs))::r)[0]?=some (some (Sl.ob (.dk ys)))/\R ys)=R kvs:=by grind
theorem K3(n:Nat)(x:Option Sl)(r:Ro)(R:List (Key×D)->Prop):(∃ys,(x::r)[n+1]?=some (some (Sl.ob (.dk ys)))/\R ys)=(∃ys,r[n]?=some (some (Sl.ob (.dk ys)))/\R ys):=rfl
def JH(t:Bool)(xs:yar)(R:yar->Prop):(∃k ds,iL (.lst t xs)=some (k,ds)/\R ds)=R xs:=by apply propext;constructor;rintro⟨_,_,e,q⟩;cases e;exact q;intro q;exact⟨_,_,rfl,q⟩
def JX{k1 k2:Bool}{xs ys:yar}(f:iL a=some (k1,xs))(d:iL b=some (k2,ys))(R:yar->Prop):(∃g e k1 k2 c vs,[a,b]=[g,e]/\iL g=some (k1,c)/\iL e=some (k2,vs)/\R (List.zipWith (λx y=>D.tup [x,y]) c vs))=R (List.zipWith (λx y=>D.tup [x,y]) xs ys):=by apply propext;constructor;rintro⟨_,_,_,_,_,_,e,b,a,q⟩;cases e;rw[f]at b;rw[d]at a;cases b;cases a;exact q;intro q;exact⟨_,_,_,_,_,_,rfl,f,d,q⟩
def Ml(t u:Bool)(xs ys:yar)(R:yar->Prop):(∃c b k1 k2 a vs,[D.lst t xs,D.lst u ys]=[c,b]/\iL c=some (k1,a)/\iL b=some (k2,vs)/\R (List.zipWith (λx y=>D.tup [x,y]) a vs))=R (List.zipWith (λx y=>D.tup [x,y]) xs ys):=JX rfl rfl R
def HW(b:Bool):oK (.bl b)=true:=by rw[oK]<;>(intros;contradiction)
def FK(b:Int):oK (.int b)=true:=by rw[oK]<;>(intros;contradiction)
def FN:oK .OD=true:=by rw[oK]<;>(intros;contradiction)
def xP{ds:yar}{k:Int}{Q:D->Prop}(h0:0<=k)(b:k<ds.length)(h:∀d∈ds,Q d):∃d,Qm ds k=some d/\Q d:=by
 have e:k=((k.toNat:Nat):Int):=by lia
 have a:k.toNat<ds.length:=by lia
 refine⟨ds[k.toNat],?_,h _ (RY a)⟩;have q:Qm ds ((k.toNat:Nat):Int)=some ds[k.toNat]:=bb (by simp);rw[<- e]at q;exact q
def comp_map{a:Type}{wi:DA}{js:yag}{tc:DT}{te:DE}{Q:D->Prop}(xs:List a)(f:a->D)(c:a->Bool)(g:a->D)(b:∀R:yar->Prop,R (xs.map f)->wi ρ R)(hz:xs.length<=sizeLine)
  (k:∀x∈xs,∀K:Bool->Prop,K (c x)->tc (some (.val (f x))::js.map (bF ρ)) K) (i:∀x∈xs,c x=true->∀K:D->Prop,K (g x)->te (some (.val (f x))::js.map (bF ρ)) K) (q:Q (.lst true ((xs.filter c).map g))):mL wi js tc te ρ Q:=by
 refine b _ ⟨by simp_all,λj a=>a=((xs.take j).filter c).map g,by simp,λj d a b c=>?_,λa c=>?_⟩;rw[Pw]at b;cases ex:xs[j]? with
 |none=>simp_all
 |some x =>
  rw[ex]at b;have h:x∈xs:=Qh ex;have e:xs.take (j+1)=xs.take j++[x]:=by simp_all [WV]
  grind
 grind
def Be{b:Type}{wi:DA}{g:DG}{tb:DS}{E:mF}(xs:List b)(f:b->D)(Pv:List b->Ro->Prop)(i:∀R:yar->Prop,R (xs.map f)->wi ρ R)(d:Pv [] ρ)
  (c:∀(done:List b) (x:b) (a:Ro),x∈xs->done.length<xs.length->Pv done a->g (f x) a λh=>tb {E with nx:=Pv (done++[x]),ct:=Pv (done++[x]),bk:=E.nx} h) (e:∀a,Pv xs a->E.nx a):Cc wi g tb E ρ:=by
 refine i _ ⟨λj=>Pv (xs.take j),by simpa using d,λj d a b d=>?_,λa d=>e a (by rw[N3,Yj (OP _)]at d;exact d)⟩;rw[Pw]at b;cases ex:xs[j]? with
 |none=>rw[ex]at b;cases b
 |some x =>
  rw[ex]at b;cases b;have k:=(Ql.mp ex).1;have b:xs.take (j+1)=xs.take j++[x]:=by rw[WV,ex];rfl
  show g (f x) a λh=>tb {E with nx:=Pv (xs.take (j+1)),ct:=Pv (xs.take (j+1)),bk:=E.nx} h
  rw[b];exact c (xs.take j) x a (Qh ex) (by rw[Ua];lia) d
structure Ry(n:Nat)(d:D):Prop where
 pl:Ue d=true
 lay:(QK d).canLay0=true
 dp:(QK d).depth<=n
structure kc(n:Nat)(ds:yar):Prop where
 pl:pD ds=true
 lay:PyData.canLayAll0 (dm ds)=true
 dp:PyData.depthAll (dm ds)<=n
def Ry.ok(h:Ry n d)(a:n<=64:=by decide):okD d:=⟨h.pl,by unfold SeqAt.shaped;rw[h.lay,UK (Pe h.dp a)];rfl⟩
theorem Ry.okI(h:Ry n d)(a:n<64:=by decide):okI d:=⟨h.ok (UL a),Ym h.dp a⟩
theorem Ry.int(n:Nat)(i:Int):Ry n (.int i):=⟨by rw[Ue]<;>(intros;contradiction),by rw[QK,PyData.canLay0],by rw[QK,PyData.depth];lia⟩
def kc.nil(n:Nat):kc n []:=⟨by rw[pD],by rw[dm,PyData.canLayAll0],by rw[dm,PyData.depthAll];lia⟩
def kc.cons(h:Ry n d)(h':kc n ds):kc n (d::ds):=⟨by rw[pD,h.pl,h'.pl];rfl,by rw[dm,PyData.canLayAll0,h.lay,h'.lay];rfl,by exact Nat.max_le.mpr ⟨h.dp,h'.dp⟩⟩
theorem kc.of:∀{ds:yar},(∀d∈ds,Ry n d)->kc n ds
 |[],_=>.nil n
 |d::r,h=>.cons (h d RO) (kc.of λx a=>h x (by grind))
theorem Ry.tup(h:kc n ds):Ry (n+1) (.tup ds):=⟨by exact h.pl,by exact h.lay,by exact Nat.succ_le_succ h.dp⟩
theorem Ry.lst(h:kc n ds):Ry (n+1) (.lst t ds):=⟨by exact h.pl,by exact h.lay,by exact Nat.succ_le_succ h.dp⟩
theorem Ry.map{a:Type}{f:a->D}{xs:List a}(h:∀x,Ry n (f x)):Ry (n+1) (.lst t (xs.map f)):=Ry.lst (kc.of λd a=>by obtain⟨x,_,rfl⟩:=Ol.mp a;exact h x)
def lL(xs ys:yar):Bool:=PyData.eqvAll (dm xs) (dm ys)
def Ip(t u:Bool)(xs ys:yar):eqD (.lst t xs) (.lst u ys)=lL xs ys:=by unfold eqD lL;rw[QK,QK,PyData.eqv]
def A9(xs ys:yar):eqD (.tup xs) (.tup ys)=lL xs ys:=by unfold eqD lL;rw[QK,QK,PyData.eqv]
def yD:lL [] []=true:=by unfold lL;rw[dm,PyData.eqvAll]
def kQ(x y:D)(xs ys:yar):lL (x::xs) (y::ys)=(eqD x y && lL xs ys):=by unfold lL eqD;rw[dm,dm,PyData.eqvAll]
def u4(x y:Str):eqD (.str x) (.str y)=(x==y):=by unfold eqD;rw[QK,QK,PyData.eqv]
def Ir:eqD .OD .OD=true:=by unfold eqD;rw[QK,PyData.eqv]
mutual
theorem mU:∀d:D,eqD d d=true
 |.OD=>Ir
 |.bl b=>by rw[D3];simp
 |.int i=>by rw[j5];simp
 |.str x=>by rw[u4];simp
 |.exc _=>by unfold eqD;rw[QK,PyData.eqv]
 |.obj _ _ _=>by unfold eqD;rw[QK,PyData.eqv]
 |.TL=>by unfold eqD;rw[QK,PyData.eqv]
 |.R4 _ _=>by unfold eqD;rw[QK,PyData.eqv]
 |.ra _=>by unfold eqD;rw[QK,PyData.eqv]
 |.tup a=>by rw[A9];exact o6 a
 |.lst t a=>by rw[Ip];exact o6 a
theorem o6:∀ds:yar,lL ds ds=true
 |[]=>yD
 |d::r=>by rw[kQ,mU d,o6 r];rfl
end
section
variable{X:Cx}{a b c:Expr}{ta tb tc:DE}{pos:Pos}
def DJ(r e:RD2)(ta tb tc:DE):DE:=λd Q=>ta d λx=>tb d λy=>r x y λz=>∃k,z=.bl k/\if k=true then tc d λu=>e y u Q else Q (.bl false)
def DL(e:DE):DA:=λd R=>e d λd=>∃e,d=.tup e/\R e
def yP(h:Oo X iter ti):Ug X tg iter (DL ti):=by
 refine Ug.of (LR h.pe) λo H W d R r e=>⟨W,d,_,r,e,λv H1 d i g q=>?_⟩
 obtain⟨k,rfl,q⟩:=q;obtain⟨p,e,rfl,f,h⟩:=g.Ra;refine⟨p,rfl,⟨e,f.w⟩,i,k,?_,q⟩;intro P' H' j n m i;have g:=(j p e f).w;have s:=h.len;refine⟨λf=>?_,λx H3 y f=>?_,λf=>⟨e,g,by lia⟩⟩;obtain⟨v,l,_⟩:=h.get (i:=i) (d:=k[i]) (by simp[f]);exact⟨e,v,g,l⟩;obtain⟨f,y⟩:=y;subst f;obtain⟨d,i,f⟩:=h.bF (y e g);exact⟨aw.refl _,d,i,Den.map j n m d _ f⟩
def Lo(xs:yar)(R:yar->Prop):(∃ds,D.tup xs=.tup ds/\R ds)=R xs:=by apply propext;constructor;rintro⟨_,e,q⟩;cases e;exact q;intro q;exact⟨xs,rfl,q⟩
variable{e:Expr}{te:DE}{lo hi:Option Expr}{tl th:DO}{p2:Pos}
def oW(o:Oo X e te)(m:WI X lo tl)(n:WI X hi th):Oo X (.Subscript e (.Slice lo hi none p2) pos) (Ku te tl th):=by
 intro i s j H W g Q I r h;refine sF (st:=none) (ts:=dg) (R:=λd l u k=>k=none/\∃f,d=.tup f/\¬(HT.OU f.length 0 l=0/\HT.OU f.length f.length u=f.length)/\Q (.tup (PD.cutD f l u))) o m n cT I r ?_ ?_ (λ_ _=>⟨_,rfl⟩);have m:(λd=>tl g λl=>th g λu=>dg g λk=>k=none/\∃f,d=D.tup f/\¬(HT.OU f.length 0 l=0/\HT.OU f.length f.length u=f.length)/\Q (.tup (PD.cutD f l u)))=λd=>tl g λl=>th g λu=>∃f,d=D.tup f/\¬(HT.OU f.length 0 l=0/\HT.OU f.length f.length u=f.length)/\Q (.tup (PD.cutD f l u)):=by
  funext d
  congr 1
  funext l
  congr 1
  funext u
  exact propext ⟨λz=>z.2,λz=>⟨rfl,z⟩⟩
 rw[m];exact h;intro v g n m G l u k d o d r E sm s A y w t h k;obtain⟨p,f,f,x,q⟩:=k;subst p f;cases h;obtain⟨p,k,f,z,h⟩:=A.Ra;subst f;obtain⟨T,id,C,B,A⟩:=L7 i r j d (.ref p) g n m l u o (λg f=>aw d f/\∃d,Den X.K W.bad f d g/\Q d) E s y w t ⟨p,k,rfl,z.w,by rw[h.len];exact x,λf g=>⟨aw.upd g,_,Den.tup (OZ.of aR) ((h.cut l u).same (aw.upd g)),q⟩⟩;exact⟨T,id,C,B,Oa A λ_ J k=>(by obtain⟨g,m,l,h,i,d,j,f⟩:=k;exact⟨g,m,d,l,h,sm.trans i,j,f⟩)⟩
end
section
variable{X:Cx}{pos:Pos}
def PFL(X:Cx)(i:Nat)(es:yai)(t:Ro->(List (yar)->Prop)->Prop):Prop :=
 ∀ (pos:Pos) (b:yab) (s:Shared) (a:St) (H:Hp) (W:Own) (f:Ro) (k:Nat) (Q:List (yar)->Prop),Inv X b a H s->Rel X W H a f->i<a.length->f[i]?=some none->t f Q →
  wpAny (model X.prog X.w) X.A (spliced (backTo pos (starEach es X.env))) (λh j=>∃g e d c,Inv X b a e j/\Vals g h/\aw H e/\Rel X d e a f/\OK W H d e/\br X.K d.bad e (d.sub a.length i) k (c.map LI.own) g/\(∀l,l<k->d.sub a.length i l=W.sub a.length i l)/\Q c) X.xe s
variable{e:Expr}{te:DE}{tt:DT}{ta:DA}
end
section
variable{X:Cx}{pins:yab}{σ:St}{H:Hp}
structure NQ(X:Cx)(pins:yab)(H:Hp)(s:Shared)(l f S I:Addr)(fo:Obj)(j:Nat)(vb:Value)(k:Int):Prop where
 fo:s.heap.get? f=some fo
 ff:eO X pins H f
 so:∃tb n,s.heap.get? S=some (seqObj "list" #[vb,.int k tb] n)
 sf:eO X pins H S
 io:s.heap.IsListIter I l j
 jf:eO X pins H I
 fS:f≠S
 fI:f≠I
 SI:S≠I
 lI:l≠I
end
section
variable{X:Cx}{pos:Pos}
def AX(i:Nat)(te:DE):DS:=λE a=>∃c,a[i]?=some (some (.own c))/\te a λd=>∃b,d=.lst true b/\c.length+b.length<=sizeLine/\E.nx (a.set i (some (.own (c++b))))
def i9{x:Str}{a:Pos}(i:Nat)(d:Oo X e te)(hi:X.N[i]?=some x:=by rfl)(c:VM X.env.scope x:=by first|exact Or.inl rfl|exact Or.inr (Or.inl rfl)|exact Or.inr (Or.inr rfl))
  (f:(x==("__debug__" : Str))=false:=by decide) (j:(x==("__classdict__" : Str))=false:=by decide)
  (l:attributeBase (.Name x px) "extend" X.env (eval (.Name x px) X.env)=eval (.Name x px) X.env:=by rfl)
  (g:((backTo cpos (starEach [e] X.env)).all (λx=>!x.1) && (backToKw cpos (keywordEach [] X.env)).all (λx=>x.1.isSome) && decide ([e].length+([]:List Keyword).length+(if([]:List Keyword).isEmpty then 0 else 1)<30))=true:=by rfl)
  (k:(a.endLine==cpos.line)=true:=by rfl) (b:starEach [e] X.env=(false,eval e X.env)::starEach [] X.env:=by rfl) (h:(backTo cpos (starEach [] X.env)).any (·.1)=false:=by rfl)
  (hs:swapsWith (.Call (.Attribute (.Name x px) "extend" a) [e] [] cpos) none pos.line X.env=pure false:=by rfl) :
  Rq X (.Expr (.Call (.Attribute (.Name x px) "extend" a) [e] [] cpos) pos) (AX i te):=by
 have a:=vp (pos:=pos) (HE PySem.F.plainAttrs_list PySem.F.slot_list_extend PySem.F.type_list_extend Er (kA hi c f j) (qK d.pe zq b) l g k b h) hs;refine Rq.of a λp H W b E r s h=>?_
 obtain⟨c,k,h⟩:=h;obtain⟨a,f,l,g,j,o⟩:=r.vo i c k;refine⟨.ref a,g,.inl ⟨rfl,_,SqL.of j⟩,W,b,_,r,h,λv h d e n q=>?_⟩;obtain⟨i,rfl,z,q⟩:=q;obtain⟨b,c,rfl,_,m,d⟩:∃b c,v=.ref b/\¬W.bad true b/\QG X.K h true b c/\aj X.K W.bad h i c:=by simpa only[Den]using n
 have h:=e _ _ j;have j:=r.same e;have i:=o.same e;refine⟨a,b,f,c,rfl,rfl,h,(m.2 rfl).1,by rw[i.len,d.len];exact z,?_⟩;obtain⟨a,b⟩:=j.Vr (vs':=f++c) k l g h (i.append d);exact⟨W,_,(OK.same e).trans b,a,q⟩
def PEK(X:Cx)(e:Expr)(t:DE):Prop :=
 ∀ (a:yab) (s:Shared) (d:St) (H:Hp) (W:Own) (b:Ro) (Q:D->Prop),Inv X a d H s->Rel X W H d b->t b Q →
  wpAny (model X.prog X.w) X.A (eval e X.env) (λu g=>∃b e c f,u=.ref b/\Inv X a d c g/\aw H c/\c b=some (.tup e)/\aj X.K W.bad c f e/\Q (.tup f)) X.xe s
end
def MB(ys:yar)(R:yar->Prop):(∃xs,D.lst true ys=.lst true xs/\R xs)=R ys:=by apply propext;constructor;rintro⟨xs,e,q⟩;cases e;exact q;intro q;exact⟨ys,rfl,q⟩
def bq{c:Type}{wi:DA}{g:DG}{tb:DS}{E:mF}(xs:List c)(f:c->D)(Pv:Nat->Ro->Prop)(h:∀R:yar->Prop,R (xs.map f)->wi ρ R)(d:Pv 0 ρ)
  (b:∀(j:Nat) (x:c) (a:Ro),xs[j]?=some x->Pv j a->g (f x) a λi=>tb {E with nx:=Pv (j+1),ct:=Pv (j+1),bk:=E.nx} i) (e:∀a,Pv xs.length a->E.nx a):Cc wi g tb E ρ:=by
 refine h _ ⟨Pv,d,λj d a c d=>?_,λa d=>e a (by rw[N3]at d;exact d)⟩;rw[Pw]at c;cases ex:xs[j]? with
 |none=>rw[ex]at c;cases c
 |some x =>
  rw[ex]at c;cases c;exact b j x a ex d
inductive KPs (K:yac) (P:yak) (H:Hp):List (yar×D)->List (Value×Value)->Prop
 |nil:KPs K P H [] []
 |cons {b:Addr} {vs:yaq} {ks:yar} {d:D} {x:V} {u:Value} {ds:List (yar×D)} {ws:List (Value×Value)} (hb:H b=some (.tup vs)) (hk:aj K P H ks vs) (hd:Den K P H d x) (r:RelV x u) (t:KPs K P H ds ws):KPs K P H ((ks,d)::ds) ((.ref b,u)::ws)
def PPK(X:Cx)(pos:Pos)(keys:List (Option Expr))(a:yai)(t:Ro->(List (yar×D)->Prop)->Prop):Prop :=
 ∀ (b:yab) (s:Shared) (c:St) (H:Hp) (W:Own) (d:Ro) (Q:List (yar×D)->Prop),Inv X b c H s->Rel X W H c d->t d Q →
  wpAny (model X.prog X.w) X.A (evalPairs (pairTrees keys a X.env pos)) (λe f=>∃a d,Inv X b c a f/\aw H a/\KPs X.K W.bad a d e/\Q d) X.xe s
section
variable{X:Cx}{pos:Pos}
inductive KPi (H:Hp):List (List Key×Int)->List (Value×Value)->Prop
 |nil:KPi H [] []
 |cons {b:Addr} {k:List Key} {n:Int} {u:Value} {ds:List (List Key×Int)} {ws:List (Value×Value)} (hb:H b=some (.tup (k.map kV))) (r:RelV (.int n) u) (t:KPi H ds ws):KPi H ((k,n)::ds) ((.ref b,u)::ws)
def Ic (g:X.calm=true):dD X (.builtin "max") (λds Q=>(∃i j:Int,ds=[.int i,.int j]/\Q (.int (max i j)))∨∃ (t:Bool) (ns:yaf),ds=[.lst t (ns.map D.int)]/\0<ns.length/\∀m,m∈ns->(∀n∈ns,n<=m)->Q (.int m)):=by
 intro a s c H W ds d h Q I k r b q;rcases q with⟨i,j,e,q⟩| ⟨t,ns,e,f,q⟩;exact Ka g a s c H W ds d h Q I k r b ⟨i,j,e,q⟩;subst e;obtain⟨v,rfl,c⟩:=mM b;obtain⟨a,l,b,_,e,d⟩:=c.Q0;subst b;cases r with
 |cons c b =>
  cases b;cases c;obtain⟨N5,b,c,_⟩:=I.list e;rw[cQ d]at b;have d:=intsAre_of b;obtain⟨b,e⟩:=d.allInts.items;have h:s.heap.IsList a (intItems b):=by rw[<- e];exact c.isList
  have c:ns=b.toList.map (·.1):=by rw[<- d.numsOf,<- nums_intItems,<- e]
  have a:0<b.size:=by rw[c,N3,RS]at f;exact f
  refine max_intList (I.ok.hd g) h a λy u p a e=>?_
  obtain⟨o,rfl⟩:=intItems_at a;obtain⟨w,g⟩:=argBest_gt (numAt b) (b.size - 1);have d:∀j,j<b.size->b.toList.map (·.1) ≠ []->numAt b j∈ns:=λj a _=>by
   rw[c,numAt_eq];have:(b.toList.map (·.1))[j]?=some ((b.toList.map (·.1)).getD j 0):=by simp[a]
   exact Qh this
  refine⟨.int _,H,_,I.kept e,⟨_,rfl⟩,aw.refl H,Den.int _,q _ (d _ (by omega) (by rw[<- c];exact XH f)) λn d=>?_⟩;rw[c]at d;obtain⟨j,a,c⟩:=Vl d;have:numAt b j=n:=by rw[numAt_eq,<- c];simp only[Pg,OH a,zDG]
  rw[<- this];rw[N3,RS]at a;exact g j (by omega)
end
end PD
namespace PZ
open PySem PySem.Spec PyProof.Rows
abbrev Hk (h:Heap) (T:Addr) (a b c:Value):Prop:=h.get? T=some {cls:=.type "tuple", data:=.seq #[a,b,c]}
structure Ap3(z TI TO i1 i2 i3:Addr):Prop where
 a1:TI≠z
 a2:TO≠z
 a3:i1≠z
 a4:i2≠z
 a5:i3≠z
 b1:TI≠TO
 b2:TI≠i1
 b3:TI≠i2
 b4:TI≠i3
 c1:TO≠i1
 c2:TO≠i2
 c3:TO≠i3
 d1:i1≠i2
 d2:i1≠i3
 d3:i2≠i3
structure NU(z TO i1 i2 i3 l:Addr):Prop where
 c1:l≠z
 c2:l≠TO
 c3:l≠i1
 c4:l≠i2
 c5:l≠i3
structure NW(z TI TO i1 i2 i3 l1 l2 l3:Addr)(i:Nat)(h:Heap):Prop where
 z:IsZip h z TI TO .none
 ti:Hk h TI (.ref i1) (.ref i2) (.ref i3)
 to:∃a b c,Hk h TO a b c
 s1:RD true h i1 l1 i
 s2:RD true h i2 l2 i
 s3:RD true h i3 l3 i
end PZ
namespace PD
open PySem PySem.Spec PyProof.Rows L2 PZ
section
variable{X:Cx}
noncomputable def Sj(xs ys a:yar):yar:=List.zipWith (λf z=>f z) (List.zipWith (λx y z=>D.tup [x,y,z]) xs ys) a
end
end PD
namespace ST
open PySem PySem.SetTable
def S:Nat->Nat
 |0=>0
 |n+1=>5*S n+1
theorem tq:∀n,5 ^ n=4*S n+1
 |0=>rfl
 |n+1=>by rw[VH,tq n];show _=4*(5*S n+1)+1;lia
theorem B4(m:Nat):∀n,S (n+m)=5 ^ m*S n+S m
 |0=>by simp[S]
 |n+1=>by rw[show n+1+m=(n+m)+1 by lia];show 5*S (n+m)+1=5 ^ m*(5*S n+1)+S m;rw[B4 m n,tq m];grind
theorem Hl:∀k,∃o,S (2 ^ k)=2 ^ k*(2*o+1)
 |0=>⟨0,rfl⟩
 |k+1=>by obtain⟨o,e⟩:=Hl k;refine⟨o+(2*o+1)*(2 ^ k*(2*o+1)),?_⟩;rw[show 2 ^ (k+1)=2 ^ k+2 ^ k by rw[VH];lia,B4,tq,e];grind
theorem round:∀(k x e:Nat),e<2 ^ k->∃n,n<2 ^ k/\(5 ^ n*x+S n) % 2 ^ k=e
 |0,x,e,h=>⟨0,by decide,by lia⟩
 |k+1,x,e,h=>by
  obtain⟨n,g,q⟩:=round k x (e % 2 ^ k) (VI _ (Nat.two_pow_pos k));obtain⟨o,b⟩:=Hl k;have f:=Nat.two_pow_pos k;have a:2 ^ (k+1)=2*2 ^ k:=by lia
  generalize hv:5 ^ n*x+S n=v at q;have S7:5 ^ (n+2 ^ k)*x+S (n+2 ^ k)=v+2 ^ k+2 ^ (k+1)*(o+2*(2*o+1)*v):=by rw[B4,Nat.pow_add,tq (2 ^ k),b,a,<- hv];grind
  generalize 2 ^ k=p at *;rw[a]at h ⊢;by_cases z:v % (2*p)=e;exact⟨n,by lia,by rw[hv];exact z⟩;refine⟨n+p,by lia,?_⟩;rw[S7,a,Nat.add_mul_mod_self_left];have i:v % (2*p) % p=v % p:=Nat.mod_mul_left_mod v 2 p;have d:v % (2*p)<2*p:=VI _ (by lia);rw[Nat.add_mod,SU (show p<2*p by lia)];generalize v % (2*p)=u at *;have a:u=u % p∨u=u % p+p:=by
   by_cases c:u<p
   left;rw[SU c]
   right
   have:u % p=u - p:=by rw[Nat.mod_eq_sub_mod (by lia),SU (by lia)]
   lia
  have b:e=e % p∨e=e % p+p:=by
   by_cases c:e<p
   left;rw[SU c]
   right
   have:e % p=e - p:=by rw[Nat.mod_eq_sub_mod (by lia),SU (by lia)]
   lia
  rcases a with a|a<;>rcases b with b|b
  lia
  rw[SU (by lia)];lia;rw[Nat.mod_eq_sub_mod (by lia),SU (by lia)];lia
  lia
noncomputable def runs(mask:Nat):Nat->Nat->Nat->yag
 |0,_,_=>[]
 |c+1,i,a=>List.range' i (runEnd mask i+1 - i)++runs mask c (leap mask i a).1 (leap mask i a).2
theorem pH(mask c i pt:Nat):runs mask (c+1) i pt=List.range' i (runEnd mask i+1 - i)++runs mask c (leap mask i pt).1 (leap mask i pt).2:=rfl
def cN(mask:Nat)(h:Int):yag:=runs mask (turns mask) (bits h % (mask+1)) (bits h)
theorem jd{mask i:Nat}(h:i<=mask):i<=runEnd mask i/\runEnd mask i<=mask/\runEnd mask i<=i+9:=by unfold runEnd;split<;>lia
def qI(mask i pt:Nat):(leap mask i pt).1<=mask:=by
 have:(leap mask i pt).1<mask+1:=VI _ (by simp_all)
 lia
theorem BG{mask:Nat}:∀{c i pt:Nat},i<=mask->∀x∈runs mask c i pt,x<=mask
 |0,_,_,_,x,h=>by cases h
 |c+1,i,pt,a,x,h=>by
  rcases PU.mp h with z|z;grind [List.mem_range'_1,jd];exact BG (qI _ _ _) x z
theorem zx{mask:Nat}:∀{c i pt:Nat},i<=mask->(runs mask c i pt).length<=10*c
 |0,_,_,_=>OP _
 |c+1,i,pt,a=>by have ih:=zx (c:=c) (pt:=(leap mask i pt).2) (qI mask i pt);have:=jd a;unfold runs;grind
def cW(mask:Nat):Nat->Nat×Nat->Nat×Nat
 |0,p=>p
 |n+1,p=>cW mask n (leap mask p.1 p.2)
theorem uj{mask:Nat}:∀{n c i pt:Nat},∀x∈runs mask c (cW mask n (i,pt)).1 (cW mask n (i,pt)).2,x∈runs mask (n+c) i pt
 |0,c,i,pt,x,h=>by rw[UM];exact h
 |n+1,c,i,pt,x,h=>by have:=uj (n:=n) (c:=c) (i:=(leap mask i pt).1) (pt:=(leap mask i pt).2) x h;rw[show n+1+c=(n+c)+1 by lia];exact RA _ this
def E2{mask c i:Nat}(h:i<=mask):i∈runs mask (c+1) i pt:=by refine TF _ ?_;grind [List.mem_range'_1,jd]
theorem yW(mask:Nat):∀(n:Nat) (p:Nat×Nat),(cW mask n p).2=p.2 / 32 ^ n
 |0,p=>by simp[cW]
 |n+1,p=>by show(cW mask n (leap mask p.1 p.2)).2=_;rw[yW mask n];show p.2 / 32 / 32 ^ n=_;rw[Nat.div_div_eq_div_mul,VH,Nat.mul_comm]
theorem tY{mask k:Nat}(a:mask+1=2 ^ k):∀(n i:Nat),i<=mask->(cW mask n (i,0)).1=(5 ^ n*i+S n) % 2 ^ k
 |0,i,h=>by rw[Nat.pow_zero,Nat.one_mul];show i=(i+0) % 2 ^ k;rw[Nat.add_zero,SU (by lia)]
 |n+1,i,h=>by
  have e:leap mask i 0=((i*5+1) % (mask+1),0):=by unfold leap;simp
  show(cW mask n (leap mask i 0)).1=_;rw[e,tY a n _ (by have:=VI (i*5+1) (show 0<mask+1 by lia);lia),a];have a:(5 ^ n*((i*5+1) % 2 ^ k)+S n) % 2 ^ k=(5 ^ n*(i*5+1)+S n) % 2 ^ k:=by rw[Nat.add_mod,Nat.mul_mod,Nat.mod_mod,<- Nat.mul_mod,<- Nat.add_mod]
  rw[a,VH];congr 1;show _=5 ^ n*5*i+(5*S n+1);have:=tq n;grind
theorem wF(mask:Nat):∀(m n:Nat) (p:Nat×Nat),cW mask (m+n) p=cW mask n (cW mask m p)
 |0,n,p=>by rw[UM];rfl
 |m+1,n,p=>by rw[show m+1+n=(m+n)+1 by lia];exact wF mask m n _
theorem yV(mask:Nat):∀(n:Nat) (p:Nat×Nat),p.1<=mask->(cW mask n p).1<=mask
 |0,_,h=>h
 |n+1,p,_=>yV mask n _ (qI _ _ _)
def cover{mask k:Nat}(c:mask+1=2 ^ k)(h:Int){e:Nat}(g:e<=mask):e∈cN mask h:=by
 have d:bits h<2 ^ 64:=by
  unfold bits
  lia
 have a:bits h % (mask+1)<=mask:=by have:=VI (bits h) (show 0<mask+1 by lia);lia
 generalize hp:(bits h % (mask+1),bits h)=p;have b:p.1<=mask:=by rw[<- hp];exact a
 have z:(cW mask 13 p).2=0:=by rw[yW,<- hp];exact Nat.div_eq_of_lt (QL d (by decide))
 have a:=yV mask 13 p b;obtain⟨n,f,b⟩:=round k (cW mask 13 p).1 e (by lia);have j:(cW mask (13+n) p).1=e:=by rw[wF];have:cW mask 13 p=((cW mask 13 p).1,0):=Wn rfl z;rw[this,tY c n _ a];exact b
 have:=uj (mask:=mask) (n:=13+n) (c:=(mask - n)+2) (i:=bits h % (mask+1)) (pt:=bits h) e (by simp_all [E2])
 unfold cN turns;grind
def jv(xs:yao):Prop:=∀a b:Nat,a<b->b<xs.size->xs.getD a 0<xs.getD b 0
theorem rF{j:Nat}(b:jv xs):∀(fuel lo hi:Nat),lo<=hi->hi<=xs.size->hi - lo<=fuel->(∀a,a<lo->xs.getD a 0<j)->(∀a,hi<=a->a<xs.size->j<=xs.getD a 0) →
  (below.go xs j fuel lo hi<=xs.size)/\(∀a,a<below.go xs j fuel lo hi->xs.getD a 0<j)/\∀a,below.go xs j fuel lo hi<=a->a<xs.size->j<=xs.getD a 0
 |0,lo,hi,g,f,e,d,c=>by
  have:lo=hi:=by omega
  subst this;exact⟨f,d,c⟩
 |fuel+1,lo,hi,g,f,e,d,c=>by
  unfold below.go;by_cases g:lo<hi;rw[N4 g];have i:(lo+hi) / 2<hi/\lo<=(lo+hi) / 2:=by omega
  have e:xs.getD ((lo+hi) / 2) j=xs.getD ((lo+hi) / 2) 0:=by
   have:(lo+hi) / 2<xs.size:=by omega
   simp[Array.getD,this]
  simp only[e];split;rename_i z;refine rF b fuel _ hi (by omega) f (by omega) (λa h=>?_) c;by_cases e:a=(lo+hi) / 2;rw[e];exact z;exact Nat.lt_trans (b a ((lo+hi) / 2) (by omega) (by omega)) z;rename_i z;refine rF b fuel lo _ (by omega) (by omega) (by omega) d λa h h=>?_
  by_cases e:a=(lo+hi) / 2;rw[e];omega;have:=b ((lo+hi) / 2) a (by omega) h;omega;rw[N2 g];have:lo=hi:=by omega
  subst this;exact⟨f,d,c⟩
def jM(b:jv xs)(j:Nat):below xs j<=xs.size/\(∀a,a<below xs j->xs.getD a 0<j)/\∀a,below xs j<=a->a<xs.size->j<=xs.getD a 0 :=
 rF b xs.size 0 xs.size (QI _) (OP _) (by lia) (by lia) (by lia)
def dQ{xs:yao}{a x:Nat}(h:xs[a]?=some x):xs.getD a 0=x/\a<xs.size:=by
 obtain⟨l,e⟩:=WM.mp h
 simp_all
def tS{xs:yao}{a:Nat}(h:a<xs.size):xs[a]?=some (xs.getD a 0):=by simp_all
def below_at(b:jv xs){a j:Nat}(h:xs[a]?=some j):below xs j=a:=by
 obtain⟨e,l⟩:=dQ h;obtain⟨i,d,c⟩:=jM b j;have g:¬a<below xs j:=λz=>by have:=d a z;omega
 have f:¬below xs j<a:=λz=>by have:=c (below xs j) (OP _) (by omega);have:=b _ a z l;omega
 omega
def wN{t:SetTable}(b:jv t.place){a j:Nat}(h:t.place[a]?=some j):t.slot j=.live a:=by unfold SetTable.slot;rw[below_at b h];simp[h]
def CU{t:SetTable}(a:jv t.place)(b:t.dummies=#[]){j:Nat}(h:j∉t.place.toList):t.slot j=.empty:=by
 have n:¬((t.place[below t.place j]?==some j)=true):=λz=>by
  have e:t.place[below t.place j]?=some j:=by simp_all
  exact h (by obtain⟨l,q⟩:=WM.mp e;rw[<- q];exact Array.getElem_mem_toList l)
 unfold SetTable.slot;have:has #[] j=false:=by unfold has;simp
 simp_all
def ahead(mask:Nat)(c:Nat)(p:Probe):yag:=List.range' p.j (p.more+1)++runs mask c (leap mask p.i p.perturb).1 (leap mask p.i p.perturb).2
def Af(t:SetTable)(h:Int):∃c,cN t.mask h=ahead t.mask c (t.probeStart h):=by
 refine⟨t.mask+14,?_⟩;unfold cN ahead turns probeStart;show runs t.mask ((t.mask+14)+1) _ _=_;rw[pH];have a:bits h % (t.mask+1)<=t.mask:=by have:=VI (bits h) (show 0<t.mask+1 by lia);lia
 have:=jd a;simp only;rw[show runEnd t.mask (bits h % (t.mask+1))+1 - bits h % (t.mask+1)=runEnd t.mask (bits h % (t.mask+1)) - bits h % (t.mask+1)+1 by lia]
def B6(t:SetTable){x:Nat}{r:yag}(e:ahead t.mask c p=x::r):p.j=x/\(r=[]∨∃ a,r=ahead t.mask a (t.advance p)):=by
 unfold ahead at e;rw[List.range'_succ,UH]at e;obtain⟨b,a⟩:=List.cons.inj e;refine⟨b,?_⟩;unfold SetTable.advance;by_cases b:p.more > 0
 right
 refine⟨c,?_⟩;rw[N4 b,<- a];unfold ahead;simp only;rw[show p.more - 1+1=p.more by lia];have d:p.more=0:=by lia
 rw[d]at a;simp only[List.range'_zero,UZ]at a;cases c with
 |zero=>left;rw[<- a];rfl
 |succ c =>
  right
  refine⟨c,?_⟩;rw[N2 b,<- a];have a:=qI t.mask p.i p.perturb;have:=jd a;unfold ahead;rw[pH];simp only;rw[show runEnd t.mask (leap t.mask p.i p.perturb).1+1 - (leap t.mask p.i p.perturb).1=runEnd t.mask (leap t.mask p.i p.perturb).1 - (leap t.mask p.i p.perturb).1+1 by lia]
theorem zr{t:SetTable}(m:jv t.place)(s:t.dummies=#[])(hashAt:Nat->Int)(h:Int):∀(l:yag) (b c:Nat) (p:Probe),ahead t.mask c p=l->l.length<=b->(∃x∈l,x∉t.place.toList)->p.dummy=none →
  (∃f j d,l=f++j::d/\(∀x∈f,∃a,t.place[a]?=some x/\hashAt a≠h)/\j∉t.place.toList/\probe.go t hashAt h b p=some (.empty j none)) ∨
  ∃ f j d a q g,l=f++j::d/\(∀x∈f,∃a,t.place[a]?=some x/\hashAt a≠h)/\t.place[a]?=some j/\hashAt a=h/\d=ahead t.mask g q/\q.dummy=none/\probe.go t hashAt h b p=some (.candidate j a q)
 |[],_,_,_,_,_,i,_=>by obtain⟨x,i,_⟩:=i;cases i
 |x::r,0,_,_,_,n,_,_=>by simp at n
 |x::r,b+1,c,p,e,n,i,k=>by
  obtain⟨c,u⟩:=B6 t e;subst c;unfold probe.go;by_cases l:p.j∈t.place.toList;obtain⟨a,c,e⟩:=Vl l;have o:t.place[a]?=some p.j:=by rw[<- T9,OH c,e]
  rw[wN m o];have w:∃x∈r,x∉t.place.toList:=by
   obtain⟨y,c,e⟩:=i;rcases Ov.mp c with z|z;subst z;exact absurd l e;exact⟨y,z,e⟩
  have i:∃g,r=ahead t.mask g (t.advance p):=by
   rcases u with z|z;obtain⟨y,c,_⟩:=w;rw[z]at c;cases c;exact z
  have e:(t.advance p).dummy=none:=by unfold SetTable.advance;split<;>exact k
  obtain⟨g,u⟩:=i;simp only;by_cases i:hashAt a=h
  right
  rw[N4 (by simpa using i)];exact⟨[],p.j,r,a,t.advance p,g,rfl,by simp,o,i,u,e,rfl⟩;rw[N2 (by simpa using i)];have good:∃a,t.place[a]?=some p.j/\hashAt a≠h:=⟨a,o,i⟩;rcases zr m s hashAt h r b g (t.advance p) u.symm (by simp at n;omega) w e with⟨f,j,d,e1,e2,e3,e4⟩| ⟨f,j,d,b,q,c2,e1,e2,e3,e4,e5,e6,e7⟩
  left
  refine⟨p.j::f,j,d,by rw[e1];rfl,λy c=>?_,e3,e4⟩;rcases Ov.mp c with z|z;rw[z];exact good;exact e2 y z
  right
  refine⟨p.j::f,j,d,b,q,c2,by rw[e1];rfl,λy c=>?_,e3,e4,e5,e6,e7⟩;rcases Ov.mp c with z|z;rw[z];exact good;exact e2 y z
  left
  rw[CU m s l];exact⟨[],p.j,r,rfl,by simp,l,by simp[k]⟩
structure Tab(t:SetTable)(hs:yaf):Prop where
 k:∃k,t.mask+1=2 ^ (k+1)
 rise:jv t.place
 le:∀x∈t.place.toList,x<=t.mask
 dum:t.dummies=#[]
 len:t.place.size=hs.length
 room:t.place.size<=t.mask
 reach:∀(a x:Nat) (h:Int),t.place[a]?=some x->hs[a]?=some h->∃pre post,cN t.mask h=pre++x::post/\∀y∈pre,y∈t.place.toList
theorem Tab.fits(T:Tab t hs):t.fits hs.length=true:=by
 unfold SetTable.fits SetTable.fill;rw[T.dum];simp[T.len];have:=T.len;have:=T.room
 lia
def Tab.stays(T:Tab t hs):t.gaveWay=false:=by
 obtain⟨k,e⟩:=T.k;unfold SetTable.gaveWay
 lia
def G1(d:jv xs){a b x y:Nat}(f:xs[a]?=some x)(e:xs[b]?=some y)(h:x<y):a<b:=by
 obtain⟨j,c⟩:=dQ f;obtain⟨i,g⟩:=dQ e;rcases Zs a b with z|z|z;exact z
 lia
 have:=d b a z c
 lia
def Bl{xs:yao}{x:Nat}(h:x∈xs.toList):∃a:Nat,xs[a]?=some x:=by obtain⟨a,b,c⟩:=Vl h;exact⟨a,by rw[<- T9,OH b,c]⟩
def get_mem{xs:yao}{a x:Nat}(h:xs[a]?=some x):x∈xs.toList:=by obtain⟨l,q⟩:=WM.mp h;rw[<- q];exact Array.getElem_mem_toList l
def IA(g:jv xs){mask:Nat}(hs:xs.size<=mask):∃e,e<=mask/\e∉xs.toList:=by
 refine Yg λa=>?_
 have d:∀e,e<=mask->e∈xs.toList:=λe b=>Yg λn=>a ⟨e,b,n⟩
 have f:∀j,j<=mask->∃a,xs[a]?=some j/\j<=a:=by
  intro j
  induction j with
  |zero=>intro h;obtain⟨a,c⟩:=Bl (d 0 h);exact⟨a,c,QI _⟩
  |succ j ih =>
   intro h;obtain⟨a,c,i⟩:=ih (by lia);obtain⟨b,e⟩:=Bl (d (j+1) h);have:=G1 g c e (by lia);exact⟨b,e,by lia⟩
 obtain⟨a,c,k⟩:=f mask (OP _);have:=(dQ c).2
 lia
def Tab.empty(T:Tab t hs)(h:Int):∃x∈cN t.mask h,x∉t.place.toList:=by obtain⟨e,c,a⟩:=IA T.rise T.room;obtain⟨k,b⟩:=T.k;exact⟨e,cover b h c,a⟩
def uH(mask:Nat)(h:Int):(cN mask h).length<=10*turns mask:=zx (by have:=VI (bits h) (show 0<mask+1 by lia);lia)
def qk(mask:Nat)(h:Int):∀x∈cN mask h,x<=mask:=BG (by have:=VI (bits h) (show 0<mask+1 by lia);lia)
def mX{a:Type}(xs:Array a)(p:Nat)(x:a):(insertAt xs p x).toList=xs.toList.take p++x::xs.toList.drop p:=by
 unfold insertAt
 simp_all [Yj,Yp,RS,OP]
def get_ins{b:Type}{l:List b}{p:Nat}(c:p<=l.length)(x:b)(a:Nat):(l.take p++x::l.drop p)[a]?=if a<p then l[a]? else if a=p then some x else l[a - 1]?:=by by_cases h:a<p;rw[N4 h,UE (by rw[Ua];lia),List.getElem?_take,N4 h];rw[N2 h,Vg (by rw[Ua];lia),Ua,Nat.min_eq_left c];by_cases e:a=p;rw[N4 e,e,Nat.sub_self];rfl;rw[N2 e,show a - p=(a - p - 1)+1 by lia,List.getElem?_cons_succ,List.getElem?_drop,show p+(a - p - 1)=a - 1 by lia]
theorem Tab.put(T:Tab t hs){j:Nat}{i f:yag}(l:j∉t.place.toList)(p:cN t.mask h=i++j::f)(A:∀y∈i,y∈t.place.toList)(b:t.place.size+1<=t.mask) :
  Tab (t.put j).1 (hs.take (t.put j).2++h::hs.drop (t.put j).2)/\(t.put j).2<=hs.length/\(t.put j).1.mask=t.mask/\(t.put j).1.place.size=t.place.size+1:=by
 have c:(t.put j).1.place=insertAt t.place (below t.place j) j:=rfl;have r:(t.put j).2=below t.place j:=rfl;have e:(t.put j).1.mask=t.mask:=rfl;have d:(t.put j).1.dummies=#[]:=by
  show(if has t.dummies j then _ else t.dummies)=_;rw[T.dum];have:has #[] j=false:=by unfold has;simp
  rw[this];rfl
 obtain⟨a,n,C⟩:=jM T.rise j;have g:below t.place j<=t.place.toList.length:=by rw[RS];exact a
 have s:below t.place j<=hs.length:=by rw[<- T.len];exact a
 have o:∀a,(t.put j).1.place[a]?=if a<below t.place j then t.place[a]? else if a=below t.place j then some j else t.place[a - 1]?:=λa=>by rw[c,<- T9,mX,get_ins g,T9,T9]
 have k:(t.put j).1.place.size=t.place.size+1:=by
  rw[c,<- RS,mX,QZ,Ua,Rl,Yp,RS]
  lia
 have m:∀x,x∈(t.put j).1.place.toList↔x=j∨x∈t.place.toList:=λx=>by
  rw[c,mX,PU,Ov];constructor;rintro(z|z|z);exact .inr (List.mem_of_mem_take z);exact .inl z;exact .inr (List.mem_of_mem_drop z);rintro(z|z);exact .inr (.inl z);rw[<- Z6 (below t.place j) t.place.toList]at z;rcases PU.mp z with q|q;exact .inl q;exact .inr (.inr q)
 refine⟨⟨T.k,?_,?_,d,?_,by rw[k];exact b,?_⟩,s,e,k⟩;intro a b E c;rw[k]at c;have g:=tS (xs:=(t.put j).1.place) (a:=a) (by rw[k];lia);have d:=tS (xs:=(t.put j).1.place) (a:=b) (by rw[k];exact c);rw[o a]at g;rw[o b]at d;have w:∀c,c<t.place.size->t.place.getD c 0≠j:=λc c e=>l (by rw[<- e];exact get_mem (tS c))
 by_cases e:a<below t.place j;rw[N4 e]at g;obtain⟨B,u⟩:=dQ g;have:=n a e;by_cases n:b<below t.place j;rw[N4 n]at d;obtain⟨q,c⟩:=dQ d;have:=T.rise a b E c
 lia
 rw[N2 n]at d;by_cases l:b=below t.place j;rw[N4 l]at d;have:=SA d
 lia
 rw[N2 l]at d;obtain⟨q,c⟩:=dQ d;have:=T.rise a (b - 1) (by lia) c
 lia
 rw[N2 e]at g;have n:¬b<below t.place j:=by lia
 have l:¬b=below t.place j:=by lia
 rw[N2 n,N2 l]at d;obtain⟨q,c⟩:=dQ d;by_cases d:a=below t.place j;rw[N4 d]at g;have:=SA g;have:=C (b - 1) (by lia) c;have:=w (b - 1) c
 lia
 rw[N2 d]at g;obtain⟨B,u⟩:=dQ g;have:=T.rise (a - 1) (b - 1) (by lia) c
 lia
 intro x b;rcases(m x).mp b with z|z;subst z;exact qk t.mask h x (by rw[p];simp);exact T.le x z;rw[k,r,QZ,Ua,Rl,Yp,<- T.len]
 lia
 intro a x n b c;rw[o a]at b;rw[r,get_ins s]at c;have g:∀{l:yag},(∀y∈l,y∈t.place.toList)->∀y∈l,y∈(t.put j).1.place.toList:=λk y h=>(m y).mpr (.inr (k y h))
 by_cases e:a<below t.place j;rw[N4 e]at b c;obtain⟨m,l,k,h⟩:=T.reach a x n b c;exact⟨m,l,k,g h⟩;rw[N2 e]at b c;by_cases d:a=below t.place j;rw[N4 d]at b c;cases b;cases c;exact⟨i,f,p,g A⟩;rw[N2 d]at b c;obtain⟨m,l,k,h⟩:=T.reach (a - 1) x n b c;exact⟨m,l,k,g h⟩
theorem wx(mask:Nat)(owner:Array (Option Nat)):∀(fuel i pt:Nat),layClean.free mask owner fuel i pt=(runs mask fuel i pt).find? λy=>(owner.getD y (some 0)).isNone
 |0,_,_=>rfl
 |fuel+1,i,pt=>by
  rw[pH,List.find?_append,List.range'_eq_map_range,List.find?_map];unfold layClean.free;have ih:=wx mask owner fuel (leap mask i pt).1 (leap mask i pt).2;have a:((λy=>(owner.getD y (some 0)).isNone)∘λx=>i+x)=λk=>(owner.getD (i+k) (some 0)).isNone:=rfl
  rw[a];cases(List.range (runEnd mask i+1 - i)).find? λk=>(owner.getD (i+k) (some 0)).isNone with
  |some k=>rfl
  |none=>exact ih
structure Ow(mask:Nat)(hs:yaf)(owner:Array (Option Nat)):Prop where
 size:owner.size=mask+1
 cnt:(owner.toList.filter Option.isSome).length=hs.length
 at_:∀(i:Nat) (h:Int),hs[i]?=some h->∃j:Nat,owner[j]?=some (some i)/\∃pre post,cN mask h=pre++j::post/\∀y∈pre,∃q,owner[y]?=some (some q)
 lt:∀j i:Nat,owner[j]?=some (some i)->i<hs.length
 inj:∀j j' i:Nat,owner[j]?=some (some i)->owner[j']?=some (some i)->j=j'
theorem tL{a:Type}{p:a->Bool}:∀{l:List a} {x:a},l.find? p=some x->∃c b,l=c++x::b/\p x=true/\∀y∈c,p y=false
 |[],_,h=>by cases h
 |a::r,x,h=>by
  rw[List.find?_cons]at h;cases pa:p a with
  |true=>rw[pa]at h;cases h;exact⟨[],r,rfl,pa,by simp⟩
  |false =>
   rw[pa]at h;obtain⟨c,b,e,d,f⟩:=tL h;refine⟨a::c,b,by simp_all,d,λy g=>?_⟩;grind
theorem tK{c:Type}{p:c->Bool}:∀{l:List c} {j:Nat} {a b:c},l[j]?=some a->p a=false->p b=true->((l.set j b).filter p).length=(l.filter p).length+1
 |[],_,_,_,h,_,_=>by simp at h
 |x::r,0,a,b,h,d,c=>by grind
 |x::r,j+1,a,b,h,d,c=>by
  have ih:=tK (l:=r) (j:=j) (by simpa using h) d c;by_cases c:p x=true
  all_goals simp_all
def Ow.step{mask k:Nat}(g:mask+1=2 ^ k){hs:yaf}{owner:Array (Option Nat)}(O:Ow mask hs owner)(w:hs.length<=mask)(h:Int) :
  ∃ j,layClean.free mask owner (turns mask) (bits h % (mask+1)) (bits h)=some j/\Ow mask (hs++[h]) (owner.setIfInBounds j (some hs.length)):=by
 have i:∃e:Nat,e<=mask/\owner[e]?=some none:=by
  refine Yg λd=>?_
  have b:∀x∈owner.toList,Option.isSome x=true:=λx f=>by
   obtain⟨e,c,a⟩:=Vl f;rw[RS,O.size]at c;cases x with
   |some _=>rfl
   |none=>exact absurd ⟨e,by lia,by rw[<- T9,OH (by rw[RS,O.size];exact c),a]⟩ d
  have:=O.cnt;rw[RN.mpr b,RS,O.size]at this
  lia
 have f:∀y,y<=mask->((owner.getD y (some 0)).isNone=true↔owner[y]?=some none):=λy b=>by
  have l:y<owner.size:=by rw[O.size];lia
  simp[Array.getD,l]
 obtain⟨e,c,a⟩:=i;have d:((cN mask h).find? λy=>(owner.getD y (some 0)).isNone).isSome=true:=by rw[List.find?_isSome];exact⟨e,cover g h c,(f e c).mpr a⟩
 obtain⟨j,a⟩:=Option.isSome_iff_exists.mp d;obtain⟨k,e,l,c,o⟩:=tL a;have d:j<=mask:=qk mask h j (by rw[l];simp);have i:=(f j d).mp c;have d:j<owner.size:=by rw[O.size];lia
 refine⟨j,by rw[wx];exact a,?_⟩;have g:∀y:Nat,(owner.setIfInBounds j (some hs.length))[y]?=if j=y then some (some hs.length)else owner[y]?:=λy=>by rw[Array.getElem?_setIfInBounds];by_cases c:j=y;rw[N4 c,N4 c,N4 d];rw[N2 c,N2 c]
 have d:∀(y q:Nat),owner[y]?=some (some q)->(owner.setIfInBounds j (some hs.length))[y]?=some (some q):=λy q b=>by rw[g,N2 (λc=>by subst c;rw[i]at b;cases b)];exact b
 refine⟨by rw[Array.size_setIfInBounds];exact O.size,?_,?_,?_,?_⟩;rw[Array.toList_setIfInBounds,tK (a:=none) (by rw[T9];exact i) rfl rfl,O.cnt,QZ];rfl;intro i u a;by_cases c:i<hs.length;rw[UE c]at a;obtain⟨t,s,r,p,n,m⟩:=O.at_ i u a;exact⟨t,d _ _ s,r,p,n,λy b=>let ⟨q,z⟩:=m y b;⟨q,d _ _ z⟩⟩;have m:i=hs.length:=by
  have:=(Ql.mp a).1;simp at this
  lia
 subst m;simp at a;subst a;refine⟨j,by rw[g,N4 rfl],k,e,l,λy b=>?_⟩;have k:y<=mask:=qk mask h y (by rw[l];simp[b]);have e:=o y b;have a:y<owner.size:=by rw[O.size];lia
 cases oy:owner[y]with
 |none =>
  have:=(f y k).mpr (by rw[Vh a,oy]);rw[this]at e;cases e
 |some q=>exact⟨q,d y q (by rw[Vh a,oy])⟩
 intro y i b;rw[g]at b;by_cases c:j=y;rw[N4 c]at b;cases b;simp;rw[N2 c]at b;have:=O.lt y i b;simp
 lia
 intro y d i b a;rw[g]at b a;by_cases c:j=y<;>by_cases e:j=d
 lia
 rw[N4 c]at b;rw[N2 e]at a;cases b;have:=O.lt d _ a
 lia
 rw[N2 c]at b;rw[N4 e]at a;cases a;have:=O.lt y _ b
 lia
 rw[N2 c]at b;rw[N2 e]at a;exact O.inj y d i b a
theorem yU{mask k:Nat}(b:mask+1=2 ^ k):∀(rest hs:yaf) (owner:Array (Option Nat)),Ow mask hs owner->hs.length+rest.length<=mask+1 →
  ∃ c,rest.foldl (λ(a:Option (Array (Option Nat)×Nat)) h=>do
   let (owner,k)←a
   let j←layClean.free mask owner (turns mask) (bits h % (mask+1)) (bits h)
   pure (owner.setIfInBounds j (some k),k+1)) (some (owner,hs.length))=some (c,(hs++rest).length)/\Ow mask (hs++rest) c
 |[],hs,owner,O,_=>⟨owner,by simp,by rw[VB];exact O⟩
 |h::r,hs,owner,O,a=>by
  rw[Rl]at a;obtain⟨j,c,e⟩:=O.step b (by lia) h;obtain⟨a,d,Q⟩:=yU b r (hs++[h]) _ e (by rw[QZ];simp;lia);refine⟨a,?_,by rw[UI]at Q;exact Q⟩;rw[List.foldl_cons];have:(do
   let (owner,k)←(some (owner,hs.length):Option (Array (Option Nat)×Nat))
   let j←layClean.free mask owner (turns mask) (bits h % (mask+1)) (bits h)
   pure (owner.setIfInBounds j (some k),k+1))=some (owner.setIfInBounds j (some hs.length),(hs++[h]).length):=by
   show(layClean.free mask owner (turns mask) (bits h % (mask+1)) (bits h) >>= _)=_;rw[c];simp
  rw[this,d];simp
def Aq{mask k:Nat}(b:mask+1=2 ^ k)(a:Array Int)(d:a.size<=mask+1):∃owner,layClean mask a=some owner/\Ow mask a.toList owner:=by
 have O:Ow mask [] (Array.replicate (mask+1) none):=by
  refine⟨by simp,by simp,by simp,λj i h=>?_,λj c i h _=>?_⟩
  all_goals simp_all [Array.getElem?_replicate]
 obtain⟨o,e,Q⟩:=yU b a.toList [] _ O (by simp_all);unfold layClean;grind
def live(mask:Nat)(owner:Array (Option Nat)):List (Nat×Nat):=(List.range (mask+1)).filterMap λj=>(owner.getD j none).map (j,·)
def iw{mask:Nat}{hs:yaf}{owner:Array (Option Nat)}(O:Ow mask hs owner){j i:Nat}:(j,i)∈live mask owner↔owner[j]?=some (some i):=by
 unfold live;rw[Z8];constructor;rintro⟨y,a,e⟩;rw[TG]at a;obtain⟨q,c,b⟩:=Vk.mp e;cases b;have l:j<owner.size:=by rw[O.size];exact a
 simp_all
 intro h;obtain⟨l,e⟩:=WM.mp h;refine⟨j,by rw[TG,<- O.size];exact l,?_⟩
 simp_all
def rR(mask:Nat)(owner:Array (Option Nat)):(live mask owner).map (·.1)=(List.range (mask+1)).filter λj=>(owner.getD j none).isSome:=by
 unfold live
 induction List.range (mask+1)with
 |nil=>rfl
 |cons a r ih =>
  cases e:owner.getD a none with
  |none=>rw[List.filterMap_cons_none (by rw[e];rfl),List.filter_cons_of_neg (by simp[e]),ih]
  |some q=>rw[zCt (by rw[e];rfl),List.filter_cons_of_pos (by simp[e]),Pq,ih]
def Gx{mask:Nat}{hs:yaf}{owner:Array (Option Nat)}(O:Ow mask hs owner):(live mask owner).length=hs.length:=by
 have b:(live mask owner).length=((live mask owner).map (·.1)).length:=by simp
 have a:owner.toList=(List.range (mask+1)).map λj=>owner.getD j none:=by
  apply List.ext_getElem?;intro j;rw[Pw,T9];by_cases c:j<mask+1;have l:j<owner.size:=by rw[O.size];exact c
  simp_all
  rw[Yk (by simp_all),Z4 (by rw[O.size];lia)];rfl
 rw[b,rR,<- O.cnt,a,List.filter_map,N3];rfl
def wG(mask:Nat)(owner:Array (Option Nat)):((live mask owner).map (·.1)).Pairwise (·<·):=by rw[rR];exact List.Pairwise.filter _ List.pairwise_lt_range
def Jy{l:yag}(h:l.Pairwise (·<·)):jv l.toArray:=by
 intro a b d e;have c:b<l.length:=by simp_all
 have:=Vi.mp h a b (by lia) c d;simp[Array.getD,show a<l.length by lia,c];exact this
def IP{mask k:Nat}(N:mask+1=2 ^ (k+1))(finger moves:Nat)(led plain:Bool){V:Type}(es:Array (Int×V))(B:es.size<=mask) :
  ∃ t c,laid mask finger moves led plain (es.map (·.1))=some (t,c)/\t.mask=mask/\t.led=led/\t.plain=plain ∧
   ∃ d:List (Int×V),(c.filterMap (es[·]?)).toList=d/\d.length=es.size/\Tab t (d.map (·.1))/\t.place.size=es.size ∧
    (∀(a:Nat) (e:Int×V),d[a]?=some e->∃i:Nat,c[a]?=some i/\es[i]?=some e)/\(∀i:Nat,i<es.size->∃a:Nat,c[a]?=some i)/\∀(a b i:Nat),c[a]?=some i->c[b]?=some i->a=b:=by
 obtain⟨c,eo,O⟩:=Aq N (es.map (·.1)) (by rw[Array.size_map];lia);have f:(es.map (·.1)).toList.length=es.size:=by simp
 refine⟨{mask,place:=((live mask c).map (·.1)).toArray,dummies:=#[],finger,led,moves,plain},((live mask c).map (·.2)).toArray,by unfold laid;rw[eo];rfl,rfl,rfl,rfl,?_⟩;have A:=Gx O;rw[f]at A;have w:∀p∈live mask c,p.2<es.size:=λp hp=>by have:=O.lt p.1 p.2 ((iw O).mp hp);rw[f]at this;exact this
 have m:∀l:List (Nat×Nat),(∀p∈l,p.2<es.size)->(((l.map (·.2)).filterMap λi=>es[i]?).map some)=l.map λp=>es[p.2]?:=λl B=>by
  induction l with
  |nil=>rfl
  |cons p r ih =>
   have o:=B p (by simp);rw[Pq,zCt (Vh o),Pq,Pq,ih λq d=>B q (by simp[d]),Vh o]
 have Q:∀a:Nat,((((live mask c).map (·.2)).filterMap λi=>es[i]?)[a]?).map some=((live mask c)[a]?).map λp=>es[p.2]?:=λa=>by have:=congrArg (λl=>l[a]?) (m _ w);simp only[Pw]at this;exact this
 refine⟨((live mask c).map (·.2)).filterMap λi=>es[i]?,by simp,?_,?_,?_,?_,?_,?_⟩;have:=congrArg List.length (m _ w);rw[N3,N3]at this;rw[this,A];refine⟨⟨k,N⟩,Jy (wG mask c),?_,rfl,?_,?_,?_⟩;intro x J;have E:x∈(live mask c).map (·.1):=by simpa using J
 rw[rR,WS,TG]at E;show x<=mask
 lia
 have:=congrArg List.length (m _ w);rw[N3,N3]at this;rw[RB,N3,N3,this];rw[RB,N3,A];exact B;intro a x h J C;have E:((live mask c).map (·.1))[a]?=some x:=by simpa using J
 rw[Pw]at E;obtain⟨p,d,M⟩:=Vk.mp E;have g:=Q a;rw[d]at g;have o:=w p (Qh d);rw[Pw]at C;obtain⟨e,ee,eh⟩:=Vk.mp C;rw[ee,Option.map_some,Option.map_some,Vh o]at g;have L:=SA (SA g);obtain⟨j',o',G,n,ev,q⟩:=O.at_ p.2 h (by rw[<- eh,L,<- T9]at *;rw[T9,Array.getElem?_map,Vh o];rfl)
 have H:=(iw O).mp (show(p.1,p.2)∈live mask c from Qh d);have:=O.inj j' p.1 p.2 o' H;subst this;subst M;refine⟨G,n,ev,λy hy=>?_⟩;obtain⟨z,hz⟩:=q y hy;simp only[Ol];exact⟨(y,z),(iw O).mpr hz,rfl⟩;rw[RB,N3,A];intro a e he;have g:=Q a;rw[he]at g;cases d:(live mask c)[a]? with
 |none=>rw[d]at g;cases g
 |some p =>
  rw[d]at g;exact⟨p.2,by simp[d],(SA g).symm⟩
 intro i hi;obtain⟨h,C⟩:∃h,(es.map (·.1)).toList[i]?=some h:=⟨_,OH (by rw[f];exact hi)⟩;obtain⟨j,H,_⟩:=O.at_ i h C;obtain⟨a,I,ea⟩:=Vl ((iw O).mpr H);exact⟨a,by simp[OH I,ea]⟩;intro a b i ha hb;have Y:((live mask c).map (·.2))[a]?=some i:=by simpa using ha
 have U:((live mask c).map (·.2))[b]?=some i:=by simpa using hb
 rw[Pw]at Y U;obtain⟨p,d,M⟩:=Vk.mp Y;obtain⟨q,T,e2⟩:=Vk.mp U;have o1:=(iw O).mp (show(p.1,p.2)∈live mask c from Qh d);have o2:=(iw O).mp (show(q.1,q.2)∈live mask c from Qh T);have ej:=O.inj p.1 q.1 i (by rw[<- M];exact o1) (by rw[<- e2];exact o2);have r:=wG mask c;have I:=(Ql.mp d);have lb:=(Ql.mp T);obtain⟨u,t⟩:=I;obtain⟨s,j⟩:=lb;rcases Zs a b with z|z|z;have:=Vi.mp r a b (by rw[N3];exact u) (by rw[N3];exact s) z;rw[Uj,Uj,t,j]at this
 lia
 exact z;have:=Vi.mp r b a (by rw[N3];exact s) (by rw[N3];exact u) z;rw[Uj,Uj,t,j]at this
 lia
theorem xH:∀(fuel a n:Nat),n<a*2 ^ fuel->∃m,sizeAbove.go n fuel a=a*2 ^ m/\n<a*2 ^ m
 |0,a,n,h=>⟨0,by simp[sizeAbove.go],h⟩
 |fuel+1,a,n,h=>by
  unfold sizeAbove.go;by_cases c:a<=n
  ·obtain⟨m,d,b⟩:=xH fuel (a*2) n (by simp_all [VH,Nat.mul_assoc,Nat.mul_comm]);refine⟨m+1,?_,?_⟩
   all_goals simp_all [VH,Nat.mul_assoc,Nat.mul_comm]
  rw[N2 c];exact⟨0,by simp,by lia⟩
def above{n:Nat}(h:n<2 ^ 60):∃k,sizeAbove n - 1+1=2 ^ (k+1)/\n<=sizeAbove n - 1:=by
 obtain⟨m,a,b⟩:=xH 64 8 n (QL h (by decide));have e:sizeAbove n=8*2 ^ m:=a;refine⟨m+2,?_,by lia⟩
 lia
end ST
namespace SW
open PySem PySem.SetTable ST
section
variable{prog:Program}{w:World}{A:Around}{E:yaa}{s:Shared}
abbrev TK(prog:Program)(w:World):HeapKind prog w (yaf):=tupleKind (intKind prog w)
theorem items_int:∀{ks:yaf} {vs:yad},ItemsAre (intKind prog w) ks vs->∀v∈vs,∃n t,v=Value.int n t
 |_,_,.nil,v,h=>by cases h
 |_,_,.cons h t,v,a=>by
  rcases Ov.mp a with z|z;subst z;obtain⟨t,e⟩:=Value.isInt_shape h;exact⟨_,t,e⟩;exact items_int t v z
def wK{Q:Bool->Shared->Prop}(e:(TK prog w).is s.heap k b)(l:Q false s):wpAny (model prog w) A (ofAClassStatement 8 (.ref b)) Q E s:=by
 obtain⟨o,a,n,d,h,g,f⟩:=e;unfold ofAClassStatement;refine NY (wpAny_typeOf (T := "tuple") ⟨o,d,h⟩ ?_);refine NY (wpAny_pure ?_);refine NY (U1 d g ?_);refine NY ?_;rw[<- Array.forIn_toList];refine wpAny_forIn_list _ (λrest r c=>r.1=none/\c=s/\∀v∈rest,∃n t,v=Value.int n t) _ ?_ ?_ _ _ ⟨rfl,rfl,items_int f⟩;rintro v rest r c ⟨j,rfl,i⟩;obtain⟨m,t,rfl⟩:=i v (by simp_all);exact wpAny_pure ⟨rfl,rfl,by simp_all⟩
 simp_all [wpAny_pure]
def D9{Q:Bool->Shared->Prop}(e:(TK prog w).is s.heap k b)(l:Q true s):wpAny (model prog w) A (hashByValue 8 (.ref b)) Q E s:=by
 obtain⟨o,a,n,d,h,g,f⟩:=e;refine NY (Zx (T := "tuple") ⟨o,d,h⟩ F.slot_tuple_hash.lookup ?_);refine NY (U1 d g ?_);refine NY ?_;rw[<- Array.forIn_toList];refine wpAny_forIn_list _ (λrest r c=>r.1=none/\c=s/\∀v∈rest,∃n t,v=Value.int n t) _ ?_ ?_ _ _ ⟨rfl,rfl,items_int f⟩;rintro v rest r c ⟨j,rfl,i⟩;obtain⟨m,t,rfl⟩:=i v (by simp_all);exact wpAny_pure ⟨rfl,rfl,by simp_all⟩
 simp_all [wpAny_pure]
def CQ{vs:yad}{Q:Bool->Shared->Prop}(f:(TK prog w).is s.heap k b)(i:∀v∈vs,∃d c,v=Value.ref c/\(TK prog w).is s.heap d c)(m:Q false s) :
  wpAny (model prog w) A (searchCouldBeSeen (.ref b) vs) Q E s:=by
 refine NY (wpAny_forIn_list _ (λrest r e=>r.1=none/\e=s/\∀v∈rest,∃d c,v=Value.ref c/\(TK prog w).is s.heap d c) _ ?_ ?_ _ _ ⟨rfl,rfl,i⟩);rintro v rest r e ⟨l,rfl,j⟩;have h:∀u∈rest,∃d c,u=Value.ref c/\(TK prog w).is e.heap d c:=by simp_all
 obtain⟨d,c,rfl,g⟩:=j v (by simp_all);by_cases a:((b==c) || (carriedByValue (.ref b) && carriedByValue (.ref c)))=true;rw[N4 a];exact wpAny_pure ⟨rfl,rfl,h⟩;rw[N2 a];refine NY ((TK prog w).quiet f ?_);refine NY ((TK prog w).quiet g ?_);refine NY (wK f ?_);refine NY (wK g ?_);exact wpAny_pure ⟨rfl,rfl,h⟩
 simp_all [wpAny_pure]
theorem ro{o:Obj}{xs:List (yaf×Addr)}{Q:SetFound->Shared->Prop}(hu:A.units<cLine)(hk:(TK prog w).is s.heap k b)
  (ho:s.heap.get? a=some o) (hd:o.data=.set es ep t) (he:es.toList=xs.map λx=>((TK prog w).hash x.1,Value.ref x.2)) (Xu:∀x∈xs,(TK prog w).is s.heap x.1 x.2) (T:Tab t (xs.map λx=>(TK prog w).hash x.1))
  (Xt:k∈xs.map (·.1)->Q (.there none) s) (ZC:k∉xs.map (·.1)->∀j d f,cN t.mask ((TK prog w).hash k)=d++j::f->(∀y∈d,y∈t.place.toList)->j∉t.place.toList->Q (.free j false) s) :
  ∀ (fuel:Nat) (l done:yag) (c:Nat) (st:Option Probe),ahead t.mask c (st.getD (t.probeStart ((TK prog w).hash k)))=l->cN t.mask ((TK prog w).hash k)=done++l →
   (∀y∈done,∃(i:Nat) (x:yaf×Addr),t.place[i]?=some y/\xs[i]?=some x/\x.1≠k)->l.length<fuel->(st.getD (t.probeStart ((TK prog w).hash k))).dummy=none->wpAny (model prog w) A (setSearchFrom a (.ref b) ((TK prog w).hash k) true fuel st) Q E s
 |0,_,_,_,_,_,_,_,hf,_=>absurd hf (Nat.not_lt_zero _)
 |fuel+1,l,done,c,st,e1,e2,J,hf,hdm=>by
  have sz:es.size=xs.length:=by rw[<- RS,he,N3]
  have H:t.fits es.size=true:=by have:=T.fits;rw[N3]at this;rw[sz];exact this
  have psz:t.place.size=xs.length:=by have:=T.len;rw[N3]at this;exact this
  have n:∀(i:Nat) (x:yaf×Addr),xs[i]?=some x->es[i]?=some ((TK prog w).hash x.1,Value.ref x.2):=λi x p=>by rw[<- T9,he,Pw,p];rfl
  have g:∀i y:Nat,t.place[i]?=some y->∃x,xs[i]?=some x:=λi y u=>by have:=(dQ u).2;exact⟨xs[i]'(by lia),OH (by lia)⟩
  have Y:∀(i:Nat) (x:yaf×Addr),xs[i]?=some x->(es[i]?.map (·.1)).getD 0=(TK prog w).hash x.1:=λi x p=>by rw[n i x p];rfl
  have dpl:∀y∈done,y∈t.place.toList:=λy u=>let ⟨i,_,r,_⟩:=J y u;get_mem r
  have emp:∃x∈l,x∉t.place.toList:=by
   obtain⟨x,p,e⟩:=T.empty ((TK prog w).hash k);rw[e2]at p;rcases PU.mp p with z|z;exact absurd (dpl x z) e;exact⟨x,z,e⟩
  have ll:l.length<=10*turns t.mask:=by
   have:=uH t.mask ((TK prog w).hash k);rw[e2,QZ]at this
   lia
  unfold setSearchFrom;refine NY (Vo ho hd H ?_);dsimp only;rw[T.stays];simp only[Ui,if_false];generalize hm:t.probe _ ((TK prog w).hash k) (st.getD (t.probeStart ((TK prog w).hash k)))=m;rcases zr T.rise T.dum (λi=>(es[i]?.map (·.1)).getD 0) ((TK prog w).hash k) l (10*turns t.mask) c _ e1 ll emp hdm with⟨d,j,f,q1,q2,I,q4⟩| ⟨d,j,f,i,q,c',q1,q2,I,q4,q5,q6,q7⟩;have em:m=some (.empty j none):=hm.symm.trans q4;subst em;dsimp only;have N:cN t.mask ((TK prog w).hash k)=(done++d)++j::f:=by rw[e2,q1,UI]
  have hpp:∀y∈done++d,y∈t.place.toList:=λy u=>by
   rcases PU.mp u with z|z;exact dpl y z;obtain⟨i,r,_⟩:=q2 y z;exact get_mem r
  refine wpAny_pure (ZC (λO=>?_) j _ f N hpp I);obtain⟨x,p,C⟩:=Ol.mp O;obtain⟨G,li,ei⟩:=Vl p;have B:xs[G]?=some x:=by rw[OH li,ei]
  have L:=tS (xs:=t.place) (a:=G) (by lia);obtain⟨Xv,post0,v0,p0⟩:=T.reach G _ ((TK prog w).hash k) L (by rw[Pw,B,<- C];rfl);have x0:t.place.getD G 0∈done++d:=by
   have h:Xv.length<(done++d).length:=by
    refine Yg λnl=>?_
    have e:(cN t.mask ((TK prog w).hash k))[(done++d).length]?=some j:=by rw[N,Vg (OP _),Nat.sub_self];rfl
    rw[v0]at e;by_cases U:(done++d).length<Xv.length;rw[UE U]at e;exact I (p0 j (Qh e));have M:(done++d).length=Xv.length:=by lia
    rw[M,Vg (OP _),Nat.sub_self]at e;have:t.place.getD G 0=j:=SA e;exact I (by rw[<- this];exact get_mem L)
   have e:(cN t.mask ((TK prog w).hash k))[Xv.length]?=some (t.place.getD G 0):=by rw[v0,Vg (OP _),Nat.sub_self];rfl
   rw[N,UE h]at e;exact Qh e
  have same:∀h:Nat,t.place[h]?=some (t.place.getD G 0)->h=G:=λh h'=>(below_at T.rise h').symm.trans (below_at T.rise L)
  rcases PU.mp x0 with z|z;obtain⟨h,x',r,M,h3⟩:=J _ z;have:=same h r;subst this;rw[B]at M;cases M;exact h3 C;obtain⟨h,r,M⟩:=q2 _ z;have:=same h r;subst this;exact M (by rw[Y h x B,C]);have em:m=some (.candidate j i q):=hm.symm.trans q7;subst em;dsimp only;obtain⟨x,B⟩:=g i j I;have p:=Xu x (Qh B);have stored:∀v∈(es.filter (·.1==(TK prog w).hash k)).toList.map (·.2),∃k' c,v=Value.ref c/\(TK prog w).is s.heap k' c:=λv N=>by
   obtain⟨e,V3,rfl⟩:=Ol.mp N;have U:e∈es.toList:=by have:=Array.mem_toList_iff.mp V3;exact Array.mem_toList_iff.mpr (Array.mem_filter.mp this).1
   rw[he]at U;obtain⟨y,u,rfl⟩:=Ol.mp U;exact⟨y.1,y.2,rfl,Xu y u⟩
  have go:wpAny (model prog w) A (do
    let some (_,y):=es[i]?|unsupported "internal:set-entry"
    let equal←holding [y] (eqBool y (.ref b))
    let (RQ,_,t')←setState a
    if true && equal then return SetFound.there none
    let some same:=t'.sameMemory t.moves t.mask|unsupported "set.changed-during-lookup:is-the-new-block-at-the-old-address"
    let still←match(if same then t'.slot j else .empty)with
     |.live h=>match RQ[h]? with
      |some (_,e)=>do pure (if←isSame e y then some h else none)
      |none=>pure none
     |_=>pure none
    match still with
    |none=>rule "set.search.anew"; setSearchFrom a (.ref b) ((TK prog w).hash k) true fuel none
    |some h=>if equal then return .there (some h)else setSearchFrom a (.ref b) ((TK prog w).hash k) true fuel (some q)) Q E s:=by
   rw[n i x B];dsimp only;refine NY (SD ((TK prog w).eqBool hu p hk ?_));refine NY (Vo ho hd H ?_);dsimp only;by_cases C:x.1=k;rw[N4 (by simp[C])];exact wpAny_pure (Xt (Ol.mpr ⟨x,Qh B,C⟩));rw[N2 (by simp[C])];have sm:t.sameMemory t.moves t.mask=some true:=by unfold SetTable.sameMemory;simp
   rw[sm];dsimp only;rw[N4 rfl,wN T.rise I];dsimp only;rw[n i x B];dsimp only;refine NY (wpAny_isSame_ref_self ?_);simp only[if_true];refine NY (wpAny_pure ?_);dsimp only;rw[N2 (by simp[C])];refine ro hu hk ho hd he Xu T Xt ZC fuel f (done++d++[j]) c' (some q) q5.symm (by rw[e2,q1];simp) (λy u=>?_) (by rw[q1,QZ,Rl]at hf;lia) q6;rcases PU.mp u with z|z;rcases PU.mp z with z|z;exact J y z;obtain⟨h,r,M⟩:=q2 y z;obtain⟨x',e⟩:=g h y r;exact⟨h,x',r,e,λU=>M (by rw[Y h x' e,U])⟩;simp at z;subst z;exact⟨i,x,I,B,C⟩
  by_cases e:t.led=true;rw[N2 (by simp[e])];exact go;rw[N4 (by simp[e])];refine NY (CQ hk stored ?_);simp only[Ui,if_false];exact go
theorem xI:∀(fuel a n:Nat),sizeAbove.go n fuel a<=max a (2*n)
 |0,a,n=>by unfold sizeAbove.go;lia
 |fuel+1,a,n=>by
  unfold sizeAbove.go;split;have:=xI fuel (a*2) n
  lia
  lia
structure jw(prog:Program)(w:World)(h:Heap)(a:Addr)(xs:List (yaf×Addr)):Prop where
 ex:∃o es ep t,h.get? a=some o/\o.ExactSet/\o.data=.set es ep t/\es.toList=xs.map (λx=>((TK prog w).hash x.1,Value.ref x.2))/\Tab t (xs.map λx=>(TK prog w).hash x.1)/\(t.plain=true/\t.led=!w.params.followText "set-order")/\t.place.size*5<t.mask*3/\t.mask<=8191
 is_:∀x∈xs,(TK prog w).is h x.1 x.2
 nd:(xs.map (·.1)).Nodup
def kR {o:Obj} (e:(TK prog w).is h k b) (j:h.get? a=some o) (l:o.cls=.type "set") (hs:Heap.SameBut a h h'):(TK prog w).is h' k b:=by
 obtain⟨d,c,n,h,i,g,f⟩:=e;have e:b≠a:=by lia
 exact⟨d,c,n,hs.extBut b d e h,i,g,f⟩
def GY{xs:List (yaf×Addr)}{o:Obj}{c:Nat}{Q:Unit->Shared->Prop}(B:s.heap.get? a=some o)(m:o.ExactSet)(C:o.data=.set es ep t)(d:es.toList=xs.map λx=>((TK prog w).hash x.1,Value.ref x.2))
  (T:Tab t (xs.map λx=>(TK prog w).hash x.1)) (U:t.plain=true/\t.led=!w.params.followText "set-order") (Xu:∀x∈xs,(TK prog w).is s.heap x.1 x.2) (N:(xs.map (·.1)).Nodup) (hw:c=4*xs.length) (hn:0<xs.length) (hl:xs.length<=1000)
  (hQ:∀h' ys,Heap.SameBut a s.heap h'->jw prog w h' a ys->ys.length=xs.length->(∀y,y∈ys↔y∈xs)->Q () {s with heap:=h'}):wpAny (model prog w) A (setRelay a c) Q E s:=by
 have G:es.size=xs.length:=by rw[<- RS,d,N3]
 have u:t.fits es.size=true:=by have:=T.fits;rw[N3]at this;rw[G];exact this
 obtain⟨k,l,eb⟩:=above (n:=c) (by lia);have up:sizeAbove c<=max 8 (2*c):=xI 64 8 c;generalize hzs:(xs.map λx=>((TK prog w).hash x.1,x)).toArray=f;have n:f.size=xs.length:=by rw[<- hzs];simp
 have g:∀i:Nat,f[i]?=xs[i]?.map λx=>((TK prog w).hash x.1,x):=λi=>by rw[<- hzs];simp
 have j:∀i:Nat,es[i]?=xs[i]?.map λx=>((TK prog w).hash x.1,Value.ref x.2):=λi=>by rw[<- T9,d,Pw]
 have e:es.map (·.1)=f.map (·.1):=by apply Array.ext_getElem?;intro i;rw[Array.getElem?_map,Array.getElem?_map,g,j];cases xs[i]?<;>rfl
 obtain⟨h,b,k,O,m2,m3,d,p,L,T,f3,I,Q,f6⟩:=IP l t.finger (t.movedTo (sizeAbove c - 1)) t.led t.plain f (by lia);have er:t.relaid (es.map (·.1)) c=some (h,b):=by unfold SetTable.relaid;rw[e];exact k
 generalize V4:d.map (·.2)=ys;have t:∀l:yag,(l.filterMap λi=>es[i]?)=(l.filterMap λi=>f[i]?).map λz=>(z.1,Value.ref z.2.2):=λl=>by
  induction l with
  |nil=>rfl
  |cons i r ih =>
   cases e:xs[i]? with
   |none=>rw[List.filterMap_cons_none (by rw[j,e];rfl),List.filterMap_cons_none (by rw[g,e];rfl),ih]
   |some x=>rw[zCt (by rw[j,e];rfl),zCt (by rw[g,e];rfl),Pq,ih]
 have k:b.toList.filterMap (λi=>f[i]?)=d:=by rw[<- p];simp
 have p:∀z∈d,z=((TK prog w).hash z.2.1,z.2)/\z.2∈xs:=λz c=>by obtain⟨q,l,j⟩:=Vl c;obtain⟨i,_,f⟩:=I q z (by rw[OH l,j]);rw[g]at f;obtain⟨x,J,e⟩:=Vk.mp f;subst e;exact⟨rfl,Qh J⟩
 have f:(b.filterMap λi=>es[i]?).toList=ys.map λx=>((TK prog w).hash x.1,Value.ref x.2):=by
  have:(b.filterMap λi=>es[i]?).toList=b.toList.filterMap λi=>es[i]?:=by simp
  rw[this,t,k,<- V4,O3];apply Vz;intro z c;obtain⟨e,_⟩:=p z c;show(z.1,Value.ref z.2.2)=((TK prog w).hash z.2.1,Value.ref z.2.2);rw[show z.1=(TK prog w).hash z.2.1 from congrArg (·.1) e]
 have H:d.map (·.1)=ys.map λx=>(TK prog w).hash x.1:=by rw[<- V4,O3];apply Vz;intro z c;obtain⟨e,_⟩:=p z c;exact congrArg (·.1) e
 have M:ys.length=xs.length:=by rw[<- V4,N3,L,n]
 have L:∀y,y∈ys↔y∈xs:=λy=>by
  rw[<- V4];constructor;intro j;obtain⟨z,c,rfl⟩:=Ol.mp j;exact(p z c).2;intro j;obtain⟨i,p,t⟩:=Vl j;obtain⟨q,r⟩:=Q i (by rw[n];exact p);have c:((TK prog w).hash y.1,y)∈d:=by rw[<- k,Z8];refine⟨i,?_,by rw[g,OH p,t];rfl⟩;rw[<- T9]at r;exact Qh r
  exact Ol.mpr ⟨_,c,rfl⟩
 have r:(ys.map (·.1)).Nodup:=by
  rw[<- V4,O3];refine Vi.mpr λp q c l hpq e=>?_
  rw[N3]at c l;simp only[Uj,Function.comp]at e;obtain⟨i,Y,Q⟩:=I p d[p] (OH c);obtain⟨k,t,c⟩:=I q d[q] (OH l);rw[g]at Q c;obtain⟨x,J,I⟩:=Vk.mp Q;obtain⟨l,g,d⟩:=Vk.mp c;rw[<- I,<- d]at e;have I:x.1=l.1:=e;obtain⟨l,e⟩:=Ql.mp J;obtain⟨d,c⟩:=Ql.mp g;have g:i=k:=by
   rcases Zs i k with z|z|z;have:=Vi.mp N i k (by rw[N3];exact l) (by rw[N3];exact d) z;rw[Uj,Uj,e,c]at this;exact absurd I this;exact z;have:=Vi.mp N k i (by rw[N3];exact d) (by rw[N3];exact l) z;rw[Uj,Uj,e,c]at this;exact absurd I.symm this
  subst g;have:=f6 p q i Y t
  lia
 unfold setRelay;refine NY (Vo B C u ?_);dsimp only;rw[N2 (by rw[sizeLine_eq];lia),er];have c:(b.filterMap λi=>es[i]?).size=es.size:=by rw[<- RS,f,N3,M,G]
 refine NY ?_;show wpAny _ _ (if((b.filterMap λi=>es[i]?).size != es.size)=true then _ else pure (b.filterMap (λi=>es[i]?),h)) _ _ _;rw[N2 (by rw[c];simp)];refine wpAny_pure ?_;refine wpAny_storeSet_of B C ?_ (by rw[c,G,sizeLine_eq];lia);have c:(s.heap.update a (Obj.putSet (b.filterMap λi=>es[i]?) h)).get? a=some {o with data:=.set (b.filterMap λi=>es[i]?) (ep+1) h}:=by have:=Vy (Obj.putSet (b.filterMap λi=>es[i]?) h) B (by rw[putSet_of _ _ C];rfl);rw[putSet_of _ _ C]at this;exact this
 rw[H]at T;refine hQ _ ys (XM ..) ⟨⟨_,_,ep+1,h,c,m,rfl,f,T,⟨by rw[m3];exact U.1,by rw[m2];exact U.2⟩,by rw[O,f3,n];lia,by rw[O];lia⟩,λy j=>kR (Xu y ((L y).mp j)) B m.1 (XM ..),r⟩ M L
def J6{Q:Bool->Shared->Prop}(hu:A.units<cLine)(S:jw prog w s.heap a xs)(O:(TK prog w).is s.heap k b)(hl:xs.length<1000)
  (hQ:∀h' ys Y,Heap.SameBut a s.heap h'->jw prog w h' a ys->ys.length<=xs.length+1->(∀l,l∈ys.map (·.1)↔l∈xs.map (·.1)∨l=k)->(∀y∈ys,y∈xs∨y=(k,b))->Q Y {s with heap:=h',toks:=s.toks+(TK prog w).draws k}) :
  wpAny (model prog w) A (setAdd a (.ref b)) Q E s:=by
 unfold setAdd;refine SD (NY ((TK prog w).pyHash hu O ?_));generalize hs':({s with toks:=s.toks+(TK prog w).draws k}:Shared)=f;have U:f.heap=s.heap:=by rw[<- hs']
 obtain⟨⟨o,m,ep,t,r,h,H,he,T,Qe,hlo,N⟩,Xu,nd⟩:=S;rw[<- U]at r O;have Y0:∀x∈xs,(TK prog w).is f.heap x.1 x.2:=by rw[U];exact Xu
 have sz:m.size=xs.length:=by rw[<- RS,he,N3]
 have B:t.fits m.size=true:=by have:=T.fits;rw[N3]at this;rw[sz];exact this
 have psz:t.place.size=xs.length:=by have:=T.len;rw[N3]at this;exact this
 have i:∀(h':Heap) (Y:Bool),Q Y {s with heap:=h',toks:=s.toks+(TK prog w).draws k}->Q Y {f with heap:=h'}:=λh' Y q=>by rw[<- hs'];exact q
 unfold setAddHashed;refine SD ?_;unfold setAddHashedIn;refine NY (Vo r H B ?_);dsimp only;rw[N2 (by unfold byScan;simp[Value.scannable])];obtain⟨c,ec⟩:=Af t ((TK prog w).hash k);have vl:=uH t.mask ((TK prog w).hash k);unfold setSearch;refine NY (ro hu O r H he Y0 T (λXt=>?_) (λZC j pre post hv hp hj=>?_) 100000 _ [] c none ec.symm (by simp) (by simp) (by unfold turns at vl;lia) rfl);dsimp only;refine wpAny_pure ?_;have e:f={f with heap:=f.heap}:=by cases f;rfl
 rw[e];refine i _ _ (hQ f.heap xs _ (by rw[U];exact Heap.SameBut.refl a s.heap) ⟨⟨o,m,ep,t,r,h,H,he,T,Qe,hlo,N⟩,Y0,nd⟩ (by lia) (λl=>⟨.inl,λz=>z.elim id λz=>by subst z;exact Xt⟩) λy g=>.inl g);dsimp only;refine NY (Vo r H B ?_);dsimp only;obtain⟨T',pl,pm,ps⟩:=T.put hj hv hp (by lia);rw[N3]at pl;have hpp:(t.put j).1.plain=true:=Qe.1;have M:(t.put j).1.plain=true/\(t.put j).1.led=!w.params.followText "set-order" := Qe;rw[hpp];simp only[if_true];refine NY (D9 O ?_);simp only[if_true];generalize hp2:(t.put j).2=p at *;generalize ht2:(t.put j).1=n at *;have G:(insertAt m p ((TK prog w).hash k,Value.ref b)).toList=(xs.take p++(k,b)::xs.drop p).map λx=>((TK prog w).hash x.1,Value.ref x.2):=by rw[mX,he,QE,Pq,List.map_take,List.map_drop]
 have u:(xs.take p++(k,b)::xs.drop p).length=xs.length+1:=by
  rw[QZ,Ua,Rl,Yp]
  lia
 have J:(insertAt m p ((TK prog w).hash k,Value.ref b)).size=xs.length+1:=by rw[<- RS,G,N3,u]
 have d:∀y,y∈xs.take p++(k,b)::xs.drop p↔y=(k,b)∨y∈xs:=λy=>by
  rw[PU,Ov];constructor;rintro(z|z|z);exact .inr (List.mem_of_mem_take z);exact .inl z;exact .inr (List.mem_of_mem_drop z);rintro(z|z);exact .inr (.inl z);rw[<- Z6 p xs]at z;rcases PU.mp z with q|q;exact .inl q;exact .inr (.inr q)
 have I:((xs.take p++(k,b)::xs.drop p).map (·.1)).Nodup:=by
  rw[QE,Pq];have n0:=nd;have h0:=ZC;rw[<- Z6 p xs,QE]at n0 h0;rw[Zo]at n0 ⊢;obtain⟨n1,n2,n3⟩:=n0;rw[PU,not_or]at h0;refine⟨n1,UJ.mpr ⟨h0.2,n2⟩,λx hx y g=>?_⟩;rcases Ov.mp g with z|z;intro e;subst e;subst z;exact h0.1 hx;exact n3 x hx y z
 have V6:∀zs:List (yaf×Addr),(∀y,y∈zs↔y∈xs.take p++(k,b)::xs.drop p)->∀l,l∈zs.map (·.1)↔l∈xs.map (·.1)∨l=k:=λzs hz l=>by
  constructor;intro h1;obtain⟨y,g,e⟩:=Ol.mp h1;rcases(d y).mp ((hz y).mp g)with q|q;subst q;exact .inr e.symm;exact .inl (Ol.mpr ⟨y,q,e⟩);rintro(h1|h1);obtain⟨y,g,e⟩:=Ol.mp h1;exact Ol.mpr ⟨y,(hz y).mpr ((d y).mpr (.inr g)),e⟩;subst h1;exact Ol.mpr ⟨(l,b),(hz _).mpr ((d _).mpr (.inl rfl)),rfl⟩
 refine NY (wpAny_storeSet_of r H ?_ (by rw[J,sizeLine_eq];lia));have hg:(f.heap.update a (Obj.putSet (insertAt m p ((TK prog w).hash k,Value.ref b)) n)).get? a=some {o with data:=.set (insertAt m p ((TK prog w).hash k,Value.ref b)) (ep+1) n}:=by have:=Vy (Obj.putSet (insertAt m p ((TK prog w).hash k,Value.ref b)) n) r (by rw[putSet_of _ _ H];rfl);rw[putSet_of _ _ H]at this;exact this
 have sb:=XM f.heap a (Obj.putSet (insertAt m p ((TK prog w).hash k,Value.ref b)) n);generalize hh2:f.heap.update a (Obj.putSet (insertAt m p ((TK prog w).hash k,Value.ref b)) n)=h2 at hg sb ⊢;have T2:Tab n ((xs.take p++(k,b)::xs.drop p).map λx=>(TK prog w).hash x.1):=by rw[QE,Pq,List.map_take,List.map_drop];exact T'
 have L:∀x∈xs.take p++(k,b)::xs.drop p,(TK prog w).is h2 x.1 x.2:=λx hx=>by
  rcases(d x).mp hx with z|z;subst z;exact kR O r h.1 sb;exact kR (Y0 x z) r h.1 sb
 by_cases tf:n.tooFull=true;rw[N4 (by simp[tf])];refine NY (GY (s:={f with heap:=h2}) (xs:=xs.take p++(k,b)::xs.drop p) hg h rfl G T2 M L I ?_ (by lia) (by lia) λh3 ys sb3 S3 yl ym=>?_);rw[u,sz];unfold SetTable.grown;rw[N2 (by lia)]
 lia
 refine wpAny_pure (i h3 true (hQ h3 ys true (by rw[<- U];exact sb.trans sb3) S3 ?_ (V6 ys ym) λy g=>?_))
 lia
 rcases(d y).mp ((ym y).mp g)with q|q;exact .inr q;exact .inl q;rw[N2 (by simp[tf])];refine wpAny_pure (i h2 true (hQ h2 _ true (by rw[<- U];exact sb) ⟨⟨_,_,ep+1,n,hg,h,rfl,G,T2,M,?_,by rw[pm];exact N⟩,L,I⟩ (by lia) (V6 _ λ_=>Iff.rfl) λy g=>?_));have C:n.tooFull=false:=by simpa using tf
 unfold SetTable.tooFull SetTable.fill at C;rw[T2.dum]at C;simp at C
 lia
 rcases(d y).mp g with q|q;exact .inr q;exact .inl q
end
def wt:entryFor table "set.update.loop" = some Builtin.«set.update.loop»:=entryFor_of_tree (by kernel_rfl)
def ES:plainId "set.update.loop" = true:=by decide +kernel
section
variable{prog:Program}{w:World}{A:Around}{E:yaa}{s:Shared}
def mf{h':Heap}(c:(TK prog w).is h k b)(e:∀o,h.get? b=some o->h'.get? b=some o):(TK prog w).is h' k b:=by obtain⟨b,a,n,d,r⟩:=c;exact⟨b,a,n,e b d,r⟩
def key_ne {o:Obj} (d:(TK prog w).is h k b) (g:h.get? a=some o) (i:o.cls=.type T) (j:T ≠ "tuple"):b≠a:=λe=>by
 obtain⟨f,c,n,Ul,UP,_⟩:=d
 lia
def jw.ext{h':Heap}(S:jw prog w h a xs)(e:∀o,h.get? a=some o->h'.get? a=some o)(c:∀x∈xs,(TK prog w).is h' x.1 x.2):jw prog w h' a xs:=by obtain⟨⟨o,d,f,t,b,r⟩,_,a⟩:=S;exact⟨⟨o,d,f,t,e o b,r⟩,c,a⟩
def IU {a I l : Addr} {items : yan} {R : Result -> Shared -> Prop} (e : A.handled = none) (J : A.in1.units < cLine) (h : a ≠ I) (B : a ≠ l) (d : l ≠ I) (T : items.size <= 900) (ks : Nat -> yaf) :
  ∀ (m i : Nat) (s : Shared) (xs : List (yaf × Addr)), items.size - i = m -> i <= items.size -> (s.heap.IsListIter I l i /\ s.heap.IsList l items) -> jw prog w s.heap a xs -> xs.length <= i →
   (∀ (j : Nat) (v : Value), items[j]? = some v -> ∃ c, v = .ref c /\ (TK prog w).is s.heap (ks j) c) -> (∀ k, k ∈ xs.map (·.1) ↔ ∃ j, j < i /\ k = ks j) -> (∀ x ∈ xs, ∃ j, j < i /\ items[j]? = some (.ref x.2)) →
   (∀ h' r ys, (∀ b o, b ≠ a -> b ≠ I -> s.heap.get? b = some o -> h'.get? b = some o) -> jw prog w h' a ys -> ys.length <= items.size -> (∀ k, k ∈ ys.map (·.1) ↔ ∃ j, j < items.size /\ k = ks j) -> (∀ x ∈ ys, ∃ j, j < items.size /\ items[j]? = some (.ref x.2)) →
    R (.ok (.ret .none)) { s with heap := h', toks := r }) -> codeAny (model prog w) A (.builtin "set.update.loop" ⟨[.ref a, .ref I], []⟩) R s := by
 have W := Walks.list (prog := prog) (w := w) (A := A.in1) (show A.in1.handled = none from e) I l d items;intro m
 induction m with
 | zero =>
  intro i s xs H L st S G y g f C;have e : i = items.size := by lia
  subst e;refine WT wt ?_;refine NY (W.done s _ _ st λh' r q => ?_);obtain ⟨⟨o, u, z, _⟩, _⟩ := st;have n : ∀ b o, b ≠ I -> s.heap.get? b = some o -> h'.get? b = some o := λb o d e => q b o (by simpa using d) e
  refine wpAny_pure (C h' r xs (λb o _ d e => n b o d e) (S.ext (λo e => n a o h e) λx p => ?_) G g f);exact mf (S.is_ x p) λt e => n _ t (key_ne (S.is_ x p) u z (by decide)) e
 | succ m ih =>
  intro i s xs H L st S G y g f C;have H : i < items.size := by lia
  refine WT wt ?_;refine NY (W.item i s _ _ H st λv h' r G N q => ?_);obtain ⟨⟨o, u, z, _⟩, _⟩ := id st;have n : ∀ b o, b ≠ I -> s.heap.get? b = some o -> h'.get? b = some o := λb o d e => q b o (by simpa using d) e
  have m : ∀ {k : yaf} {c : Addr}, (TK prog w).is s.heap k c -> (TK prog w).is h' k c := λq => mf q λt e => n _ t (key_ne q u z (by decide)) e
  have t : jw prog w h' a xs := S.ext (λo e => n a o h e) λx p => m (S.is_ x p)
  obtain ⟨c, rfl, a⟩ := y i v G;refine NY (SD (J6 (s := { s with heap := h', toks := r }) J t (m a) (by lia) λr ys U sb M O J u => ?_));obtain ⟨⟨Q, _, _, _, z, a, _⟩, _, _⟩ := id t;have L : ∀ {k : yaf} {c : Addr}, (TK prog w).is h' k c -> (TK prog w).is r k c := λq => kR q z a.1 sb
  have a : r.IsListIter I l (i + 1) /\ r.IsList l items := W.frame _ _ _ N λb d o e => by
   refine sb.extBut b o (λq => ?_) e;subst q;simp at d;rcases d with z | z;exact h z;exact B z
  refine wpAny_pure ⟨ZA ES _, ih (i + 1) _ ys (by lia) H a M (by lia) (λj v a => ?_) (λk => ?_) (λx p => ?_) λB c h d I l r t => ?_⟩;obtain ⟨H, e, q⟩ := y j v a;exact ⟨H, e, L (m q)⟩;rw [J k, g k];constructor;rintro (⟨j, a, e⟩ | e);exact ⟨j, by lia, e⟩;exact ⟨i, by lia, e⟩;rintro ⟨j, a, e⟩;by_cases z : j < i;exact .inl ⟨j, z, e⟩;have : j = i := by lia
  subst this;exact .inr e;rcases u x p with z | z;obtain ⟨j, a, e⟩ := f x z;exact ⟨j, by lia, e⟩;subst z;exact ⟨i, by lia, G⟩;exact C B c h (λb o a c e => d b o a c (sb.extBut b o a (n b o c e))) I l r t
end
def xj (a:Value):checkTypeCall "set" ⟨[a],[]⟩=pure ():=by kernel_rfl
def za (a:Value):checkBuiltinCall "set.__new__" ⟨[.type "set", a],[]⟩=pure ():=by kernel_rfl
section
variable{prog:Program}{w:World}{A:Around}{E:yaa}{s:Shared}
def w4(a:Value){Q₁:yaa}
  (h:∀led:Bool,led=(!w.params.followText "set-order")->Q₁ (.ref s.heap.objs.size) {s with heap:=s.heap.push {cls:=.type "set", dict:=none,data:=.set #[] 0 (.fresh 0 0 led)} }) :
  codeAny (model prog w) A (.call (.builtin "set.__new__") ⟨[.type "set", a],[]⟩) (wants Q₁ E) s:=by
 refine codeAny_of_tree ?_;refine NY (wpAny_of_eq (za a) (wpAny_pure ⟨ZA F.plain_set_new _,WT F.entry_set_new ?_⟩));unfold Builtin.«set.__new__» Builtin.Frozenset.newClass;have b:=sub_set_self;wp_walk;refine wpAny_askSetting (wpAny_pure ?_);refine NY (wpAny_alloc (wpAny_pure ?_));exact wpAny_pure (h _ rfl)
def Ai {x:Value} {Q:Unit->Shared->Prop} (b:s.TypeIs self "set") (c:Q () s):wpAny M A (checkBuiltinCall "set.__init__" ⟨[self,x],[]⟩) Q E s:=by refine NY (Ys b sub_set_self ?_);refine NY (m:=Bind.printed "*" false _ _) (PyProof.Rows.printed_star (self:=self) rfl b λa=>?_);exact wpAny_pure c
set_option maxHeartbeats 1000000 in
def Dy {x:Value} {Q:yaa} (h:∀led:Bool,led=(!w.params.followText "set-order")->wpAny (model prog w) A.in1.in1 (Builtin.«set.__init__» ⟨[.ref s.heap.objs.size,x],[]⟩)
   (λc b=>match c with|.done f=>wants (λr a=>r=.none/\Q (.ref s.heap.objs.size) a) E (.ok f) b|.again d=>d.quiet=true/\codeAny (model prog w) A.in1 d (wants (λr a=>r=.none/\Q (.ref s.heap.objs.size) a) E) b)
   (λe b=>wants (λr a=>r=.none/\Q (.ref s.heap.objs.size) a) E (.error e) b) {s with heap:=s.heap.push {cls:=.type "set", dict:=none,data:=.set #[] 0 (.fresh 0 0 led)} }) :
  wpAny (model prog w) A (call (.type "set") [x]) Q E s:=by
 obtain⟨c,n,j⟩:=F.called_set.mro;have g:=F.called_set.made;have i:=F.called_set.sub;refine wpAny_call (codeAny_of_tree ?_);show wpAny _ _ (callAny (.type "set") _) _ _ _;refine wpAny_pure ⟨Code.quiet_builtin _ (by decide +kernel),WT F.entry_type_call ?_⟩;rw[Around.under_plain (weight_type_call_type "set" [x] []) rfl];have q:=F.called_set.notType;have p:=F.called_set.canCreate;have l:=xj x
 repeat (any_goals (first|assumption|wp_step))
 refine codeAny_mono (w4 (E:=E) x (Q₁:=λc d=>∃led:Bool,led=(!w.params.followText "set-order")/\c=.ref s.heap.objs.size/\d={s with heap:=s.heap.push {cls:=.type "set", dict:=none,data:=.set #[] 0 (.fresh 0 0 led)} }) λled b=>⟨led,b,rfl,rfl⟩) λr d d=>?_
 cases r with
 |error e=>exact d
 |ok f =>
  cases f with
  |ret c =>
   obtain⟨led,b,rfl,rfl⟩:=d;have c:Shared.TypeIs {s with heap:=s.heap.push {cls:=.type "set", dict:=none,data:=.set #[] 0 (.fresh 0 0 led)} } (.ref s.heap.objs.size) "set" := ⟨_,Q7 _ rfl,rfl⟩;have k:=F.called_set.init.lookup;have m:=F.called_set.init.bind (.ref s.heap.objs.size)
   repeat (any_goals (first|assumption|wp_step))
   refine codeAny_mono (codeAny_call_builtin (R:=wants (λr a=>r=.none/\Q (.ref s.heap.objs.size) a) E) F.called_set.init.plain F.entry_set_init (Ai c (h led b))) λb a c=>?_
   cases b with
   |error e=>exact c
   |ok a =>
    cases a with
    |ret r =>
     obtain⟨rfl,o⟩:=c
     repeat (any_goals (first|assumption|wp_step))
    |_=>exact c.elim
  |_=>exact d.elim
def IB (led:Bool) (a:led=!w.params.followText "set-order"):jw prog w (s.heap.push {cls:=.type "set", dict:=none,data:=.set #[] 0 (.fresh 0 0 led)}) s.heap.objs.size []:=by refine⟨⟨_,#[],0,_,Q7 _ rfl,⟨rfl,rfl,rfl⟩,rfl,rfl,?_,⟨rfl,a⟩,by show 0*5<7*3;decide,by show 7<=8191;decide⟩,by simp,by simp⟩;refine⟨⟨2,rfl⟩,λa b _ b=>absurd b (Nat.not_lt_zero _),(λx b=>by cases b),rfl,rfl,QI _,λa x h b=>?_⟩;have:(#[]:yao)[a]?=some x:=b;simp at this
def L9:isSubtype (.type "list") (.type "set")=pure false:=by kernel_rfl
def L8:isSubtype (.type "list") (.type "frozenset")=pure false:=by kernel_rfl
def call_set_list{Q:yaa}(p:A.handled=none)(i:A.in1.in1.in1.units<cLine)(e:s.heap.IsList l items)(m:items.size<=900)(ks:Nat->yaf)
  (n:∀(j:Nat) (v:Value),items[j]?=some v->∃c,v=.ref c/\(TK prog w).is s.heap (ks j) c)
  (r:∀h' f ys,(∀b o,s.heap.get? b=some o->h'.get? b=some o)->jw prog w h' s.heap.objs.size ys->ys.length<=items.size->(∀k,k∈ys.map (·.1)↔∃ j,j<items.size/\k=ks j)->(∀x∈ys,∃j,j<items.size/\items[j]?=some (.ref x.2)) →
   Q (.ref s.heap.objs.size) {s with heap:=h',toks:=f}):wpAny (model prog w) A (call (.type "set") [.ref l]) Q E s:=by
 refine Dy λled d=>?_
 have t:(s.heap.push {cls:=.type "set", dict:=none,data:=.set #[] 0 (.fresh 0 0 led)}).get? s.heap.objs.size=some {cls:=.type "set", dict:=none,data:=.set #[] 0 (.fresh 0 0 led)}:=Q7 _ rfl;have h:l<s.heap.objs.size:=by obtain⟨o,a,_⟩:=e;exact OI a
 have g:Shared.TypeIs {s with heap:=s.heap.push {cls:=.type "set", dict:=none,data:=.set #[] 0 (.fresh 0 0 led)} } (.ref l) "list" := by obtain⟨o,a,k,_⟩:=e;exact⟨o,Ph _ a,k⟩
 have k:=IB (prog:=prog) (w:=w) (s:=s) led d;have d:(s.heap.push {cls:=.type "set", dict:=none,data:=.set #[] 0 (.fresh 0 0 led)}).IsList l items:=e.push _;have ZG:(s.heap.push {cls:=.type "set", dict:=none,data:=.set #[] 0 (.fresh 0 0 led)}).objs.size=s.heap.objs.size+1:=WU ..;have a:∀b o,s.heap.get? b=some o->(s.heap.push {cls:=.type "set", dict:=none,data:=.set #[] 0 (.fresh 0 0 led)}).get? b=some o:=λb o e=>Ph _ e
 unfold Builtin.«set.__init__» noKeywords
 wp_walk
 refine wpAny_of_eq L9 ?_;refine Ys g L8 ?_;simp only[Ui,if_false];refine NY (wpAny_typeOf g ?_);rw[N2 (by decide)];generalize s.heap.push {cls:=.type "set", dict:=none,data:=.set #[] 0 (.fresh 0 0 led)}=h1 at *;refine NY (wpAny_pyIter_list d ?_);refine NY (wpAny_runValue ?_);have g:s.heap.objs.size≠h1.objs.size:=by lia
 refine IU (A:=A.in1.in1) (I:=h1.objs.size) (l:=l) (items:=items) p i g (Uc h) (PN (by rw[ZG];exact XQ h)) m ks items.size 0 {s with heap:=h1.push {cls:=.type "list_iterator", data:=.fields #[.ref l,.int 0 0]} } [] (by lia) (QI _) ⟨⟨_,Q7 _ rfl,rfl,rfl⟩,d.push _⟩ (k.ext (λo e=>Ph _ e) (by simp)) (OP _) (λj v k=>?_) (by simp) (by simp) λh' f ys i S d g h=>?_
 obtain⟨c,e,q⟩:=n j v k;exact⟨c,e,mf q λo e=>Ph _ (a c o e)⟩;refine wpAny_pure (wpAny_pure ⟨rfl,r h' f ys (λb o e=>?_) S d g h⟩);have c:b<s.heap.objs.size:=OI e;exact i b o (PN c) (PN (by rw[ZG];exact XQ c)) (Ph _ (a b o e))
end
theorem tJ{a:Type}:∀(l:List a) (i:Nat) (h:i<l.length),(l[i]::l.eraseIdx i).Perm l
 |[],_,h=>absurd h (by simp_all)
 |x::l,0,_=>List.Perm.refl _
 |x::l,i+1,h=>by have r:=tJ l i (by simp_all);exact(List.Perm.swap x _ _).trans (List.Perm.cons x r)
theorem Bt{b:Type}(next:Nat->Nat):∀(fuel k:Nat) (left:List b) (a:Array b),left.length=fuel->(pickOrder.go next fuel k left a).toList.Perm (a.toList++left)
 |0,k,left,a,e=>by
  have:left=[]:=by grind
  subst this;simp[pickOrder.go]
 |fuel+1,k,left,a,e=>by
  have c:0<left.length:=by lia
  have b:next k % left.length<left.length:=VI _ c;unfold pickOrder.go;rw[OH b];have r:=Bt next fuel (k+1) (left.eraseIdx (next k % left.length)) (a.push left[next k % left.length]) (by grind);refine r.trans ?_;rw[Array.toList_push,UI];exact(List.perm_append_left_iff _).mpr (tJ left _ b)
def EN{a:Type}(next:Nat->Nat)(xs:Array a):(pickOrder next xs).toList.Perm xs.toList:=by have:=Bt next xs.size 0 xs.toList #[] (by simp);simpa [pickOrder]using this
def B8(a:jv xs):below xs 0=0:=by
 obtain⟨d,b,c⟩:=jM a 0;rcases Nat.eq_zero_or_pos (below xs 0)with z|z;exact z;have:=b 0 z;lia
def B7(c:jv xs){a j:Nat}(h:xs[a]?=some j):below xs (j+1)=a+1:=by
 obtain⟨g,e,d⟩:=jM c (j+1);obtain⟨b,f⟩:=WM.mp h;have i:xs.getD a 0=j:=by simp[Array.getD,b,f]
 rcases Zs (below xs (j+1)) (a+1)with z|z|z;have:=d a (by lia) b
 lia
 exact z;have q:=e (a+1) z;have b:a+1<xs.size:=by lia
 have:=c a (a+1) (by lia) b
 lia
def dw:Slot "set_iterator" "__next__" "set_iterator.__next__" :=
 .of (owner := "set_iterator") (n := "__next__") (by kernel_rfl) (by decide +kernel) (by decide +kernel) (by decide +kernel) (.inl (by decide +kernel)) (by kernel_rfl)
def pQ:Slot "set_iterator" "__iter__" "set_iterator.__iter__" :=
 .of (owner := "set_iterator") (n := "__iter__") (by kernel_rfl) (by decide +kernel) (by decide +kernel) (by decide +kernel) (.inl (by decide +kernel)) (by kernel_rfl)
def oo:entryFor table "set_iterator.__next__" = some Builtin.«set_iterator.__next__»:=entryFor_of_tree (by kernel_rfl)
def w5:entryFor table "set_iterator.__iter__" = some Builtin.«dict_keyiterator.__iter__»:=entryFor_alias (id' := "dict_keyiterator.__iter__") (by kernel_rfl) rfl (by decide +kernel) (by kernel_rfl)
def yC:entryFor table "set.__iter__" = some Builtin.«frozenset.__iter__»:=entryFor_alias (id' := "frozenset.__iter__") (by kernel_rfl) rfl (by decide +kernel) (by kernel_rfl)
def oM (a:Value):argsOk "set_iterator.__next__" ⟨[a],[]⟩:=by kernel_rfl
def xK (a:Value):argsOk "set_iterator.__iter__" ⟨[a],[]⟩:=by kernel_rfl
noncomputable def fh (w:World) (a:Addr) (es:Array (Int×Value)) (ep:Nat):Array (Int×Value):=if w.params.followText "set-order" = true then pickOrder (w.params.setOrder a ep) es else es
def rC(w:World)(a:Addr)(es:Array (Int×Value))(ep:Nat):(fh w a es ep).toList.Perm es.toList:=by
 unfold fh;split;exact EN _ _
 simp_all
def lZ(w:World)(a:Addr)(es:Array (Int×Value))(ep:Nat):(fh w a es ep).size=es.size:=by have:=(rC w a es ep).length_eq;simpa using this
def uS(w:World)(h:Heap)(I a:Addr)(t:SetTable)(n ep i:Nat):Prop :=
 ∃ o b,h.get? I=some o/\o.cls=.type "set_iterator" /\ o.data=.fields #[.int (b:Nat) 0,.int (i:Nat) 0,.ref a,.int (n:Nat) 0,.int (ep:Nat) 0]/\(w.params.followText "set-order" = false->below t.place b=i)
section
variable{prog:Program}{w:World}{A:Around}{E:yaa}{s:Shared}
def vJ (x:uS w s.heap I a t n ep i):s.TypeIs (.ref I) "set_iterator" := by obtain⟨o,_,a,b,_⟩:=x;exact⟨o,a,b⟩
def uv{a:Addr}{o:Obj}{es:Array (Int×Value)}{ep b i:Nat}{t:SetTable}{hs:yaf}{Q:Option (Value×Nat)->Shared->Prop}(d:s.heap.get? a=some o)(e:o.data=.set es ep t)(T:Tab t hs)(f:hs.length=es.size)
  (k:t.plain=true/\t.led=!w.params.followText "set-order") (g:w.params.followText "set-order" = false->below t.place b=i)
  (j:∀z,(fh w a es ep)[i]?.map (·.2)=z.map (·.1)->(∀p,z=some p->w.params.followText "set-order" = false->below t.place p.2=i+1)->Q z s):wpAny (model prog w) A (setNext a b i ep) Q E s:=by
 have b:t.fits es.size=true:=by rw[<- f];exact T.fits
 refine NY (Vo d e b ?_);show wpAny _ _ (if w.params.followText "set-order" = true then _ else _) _ _ _;by_cases c:w.params.followText "set-order" = true;rw[N4 c];simp;refine NY (NY (Vo d e b ?_));show wpAny _ _ (if w.params.followText "set-order" = true then _ else _) _ _ _;rw[N4 c];refine NY (wpAny_askSetting (wpAny_pure ?_));refine wpAny_pure (j _ ?_ ?_);unfold fh;rw[N4 c];show _=Option.map _ (Option.map _ (pickOrder (w.params.setOrder a ep) es)[i]?);cases(pickOrder (w.params.setOrder a ep) es)[i]?<;>rfl;intro p _ h;rw[c]at h;cases h;have a:w.params.followText "set-order" = false:=by simpa using c
 rw[N2 c];split;rename_i h;have b:(!t.plain && decide (es.size > 1))=true:=h;rw[k.1]at b;simp at b;refine NY ?_;show wpAny _ _ (if(!t.led && !es.isEmpty)=true then unsupported "set:maker-not-led" else pure ()) _ _ _;rw[N2 (by rw[k.2,a];simp)];refine wpAny_pure (wpAny_pure (j _ ?_ ?_));unfold fh;rw[N2 c,g a];cases e:es[i]? with
 |none=>rfl
 |some z =>
  have b:i<es.size:=(WM.mp e).1;have c:t.place[i]?=some (t.place[i]'(by rw[T.len,f];exact b)):=Vh _;rw[c];rfl
 intro p b _;rw[g a]at b;split at b;rename_i j e;cases b;exact B7 T.rise e;cases b
def JK{o:Obj}{x:Int×Value}{Q:yam->Shared->Prop}(c:s.heap.get? a=some o)(h:o.data=.set es ep t)(T:Tab t hs)(g:hs.length=es.size)
  (n:t.plain=true/\t.led=!w.params.followText "set-order") (st:uS w s.heap I a t es.size ep i) (j:(fh w a es ep)[i]?=some x)
  (l:∀h',uS w h' I a t es.size ep (i+1)->Heap.SameBut I s.heap h'->Q (some x.2) {s with heap:=h'}):wpAny (model prog w) A (pyNext (.ref I)) Q E s:=by
 obtain⟨q,f,e,d,b,k⟩:=id st;have i:=vJ st;have a:t.fits es.size=true:=by rw[<- g];exact T.fits
 refine NY (XW (WN (name:=Str.ofString "__next__") i dw (U0 dw i oo ?_ (oM _))));refine NY (m:=slotArgs "__next__" 0 ⟨[.ref I],[]⟩) (wpAny_pure ?_);refine NY (wpAny_fieldsOf e b ?_);dsimp only;refine NY (NY (Vo c h a (wpAny_pure ?_)));rw[N2 (by simp)];simp;refine NY (uv c h T g n k λz c h=>?_);rw[j]at c;cases z with
 |none=>cases c
 |some p =>
  obtain⟨v,a⟩:=p;have g:x.2=v:=SA c;subst g;refine NY (Zz e b (by simp) ?_);have g:=Vy (Obj.mapFields (·.setIfInBounds 0 (rawInt (a:Nat)))) e (Obj.isFreed_of_fields (Obj.data_mapFields b _));have c:=Obj.data_mapFields b (·.setIfInBounds 0 (rawInt (a:Nat)));refine NY (Zz g c (by simp) ?_);refine wpAny_pure ⟨_,rfl,wpAny_pure (l _ ⟨_,a,Vy _ g (Obj.isFreed_of_fields (Obj.data_mapFields c _)),(Obj.cls_mapFields ..).trans ((Obj.cls_mapFields ..).trans d),?_,h _ rfl⟩ ((XM ..).trans (XM ..)))⟩;rw[Obj.data_mapFields c];simp[rawInt]
def L6{o:Obj}{Q:yam->Shared->Prop}(k:A.handled=none)(d:s.heap.get? a=some o)(f:o.data=.set es ep t)(T:Tab t hs)(e:hs.length=es.size)
  (p:t.plain=true/\t.led=!w.params.followText "set-order") (st:uS w s.heap I a t es.size ep i) (j:(fh w a es ep)[i]?=none)
  (q:∀h',Heap.ExtBut I s.heap h'->Q none {s with heap:=h'}):wpAny (model prog w) A (pyNext (.ref I)) Q E s:=by
 obtain⟨r,c,i,l,h,n⟩:=id st;have g:=vJ st;have b:t.fits es.size=true:=by rw[<- e];exact T.fits
 refine NY (XW (WN (name:=Str.ofString "__next__") g dw (U0 dw g oo ?_ (oM _))));refine NY (m:=slotArgs "__next__" 0 ⟨[.ref I],[]⟩) (wpAny_pure ?_);refine NY (wpAny_fieldsOf i h ?_);dsimp only;refine NY (NY (Vo d f b (wpAny_pure ?_)));rw[N2 (by simp)];simp;refine NY (uv d f T e p n λz b u=>?_);rw[j]at b;cases z with
 |some p=>cases b
 |none =>
  refine NY (Zz i h (by simp) ?_);refine NY ?_;refine NY (m:=firstArgMember _ _) (wpAny_of_eq (a:=Value.none) (by first|rfl|(rfl)) ?_);refine Wk ?_ (by size_fits);refine NY (wpAny_handled ?_);rw[show A.in1.handled=none from k];refine NY (wpAny_pure (wpAny_throw ?_));refine NY (Ys (T := "StopIteration") (b:=true) ⟨_,Q7 _ rfl,rfl⟩ isSubtype_stop ?_);exact wpAny_pure (q _ (((XM ..).extBut.push _).push _))
def JL{Q:yaa}(st:uS w s.heap I a t n ep i)(h:Q (.ref I) s):wpAny (model prog w) A (pyIter (.ref I)) Q E s:=by have a:=vJ st;refine wpAny_pyIter_slot a pQ (U0 pQ a w5 ?_ (xK _));exact wpAny_pure ⟨_,rfl,"set_iterator", _,a,dw.lookup,h⟩
def Fs (k:A.handled=none) (I a:Addr) (e:a≠I) {o:Obj} (g:o.data=.set es ep t) (T:Tab t hs) (f:hs.length=es.size) (j:t.plain=true/\t.led=!w.params.followText "set-order") :
  Walks prog w A I [I,a] [I] es.size (λi v=>∃x,(fh w a es ep)[i]?=some x/\x.2=v) (λi h=>uS w h I a t es.size ep i/\h.get? a=some o) where
 sub:=by grind
 frame:=λ_ _ _ st b=>⟨by obtain⟨⟨o,c,d,r⟩,_⟩:=st;exact⟨o,c,b I (by simp) o d,r⟩,b a (by simp) o st.2⟩
 item:=λi s Q E l st c=>by
  have b:i<(fh w a es ep).size:=by simp_all [lZ]
  refine JK st.2 g T f j st.1 (Vh b) λd b sb=>?_
  exact c _ d s.toks (by simp_all) ⟨b,sb.extBut a o e st.2⟩ λb o a e=>sb.extBut b o (by grind) e
 done:=λs Q E st c=>L6 k st.2 g T f j st.1 (by simp_all [Z4,lZ,OP]) λd sb=>c d s.toks λb o a e=>sb b o (by grind) e
 self:=λ_ _ _ _ st c=>JL st.1 c
def Gq {o:Obj} {Q:yaa} (c:s.heap.get? a=some o) (b:o.cls=.type "set") (d:o.data=.set es ep t) (T:Tab t hs) (f:hs.length=es.size) (Qe:t.plain=true)
  (g:Q (.ref s.heap.objs.size) {s with heap:=s.heap.push {cls:=.type "set_iterator", data:=.fields #[.int 0 0,.int 0 0,.ref a,.int (es.size:Nat) 0,.int (ep:Nat) 0]} }):wpAny (model prog w) A (pyIter (.ref a)) Q E s:=by
 have e:s.TypeIs (.ref a) "set" := ⟨o,c,b⟩;have b:t.fits es.size=true:=by rw[<- f];exact T.fits
 refine wpAny_pyIter_slot e F.slot_set_iter (U0 F.slot_set_iter e yC ?_ (F.args_set_iter_1 _));refine NY (m:=Builtin.Frozenset.slot0 "__iter__" ⟨[.ref a],[]⟩) (wpAny_pure ?_);refine NY (NY (NY (Vo c d b (wpAny_pure (wpAny_pure ?_)))));refine NY (NY (Vo c d b ?_));refine NY (NY (wpAny_askSetting (wpAny_pure (wpAny_pure ?_))));split;rename_i h;have i:(!(w.params.followText "set-order") && (!t.plain && decide (es.size > 1)))=true:=h
 simp_all
 refine NY (wpAny_pure ?_);refine NY (NY (Vo c d b (wpAny_pure ?_)));refine NY (Wk ?_ (by size_fits));exact wpAny_pure ⟨_,rfl,"set_iterator", _,⟨_,Q7 _ rfl,rfl⟩,dw.lookup,g⟩
def Aj {o:Obj} {Q:yad->Shared->Prop} (r:A.handled=none) (f:s.heap.get? a=some o) (e:o.cls=.type "set") (p:o.data=.set es ep t) (T:Tab t hs) (n:hs.length=es.size) (q:t.plain=true/\t.led=!w.params.followText "set-order") (C:es.size<=1000)
  (u:∀c (d:yad),(∀b o,s.heap.get? b=some o->c.heap.get? b=some o)->c.gens=s.gens->c.drawn=s.drawn->c.os=s.os->s.heap.objs.size<=c.heap.objs.size->d=(fh w a es ep).toList.map (·.2)->Q d c):wpAny (model prog w) A (collect (.ref a)) Q E s:=by
 unfold collect;have i:a<s.heap.objs.size:=OI f;refine NY (wpAny_runValue (WT F.entry_proto_collect ?_));rw[Around.under_plainId F.plain_proto_collect _];refine NY (Wk ?_);refine wpAny_pure ⟨ZA F.plain_list_iadd _,WT F.entry_list_iadd ?_⟩;rw[Around.under_plainId F.plain_list_iadd _];show wpAny _ A.in1 (Builtin.List.listExtendWith (.ref s.heap.objs.size) (.ref a) (.ref s.heap.objs.size)) _ _ _;generalize hH:s.heap.push {cls:=.type "list", data:=.seq ([]:yad).toArray}=H;have h:H.objs.size=s.heap.objs.size+1:=by rw[<- hH,WU]
 have k:H.get? a=some o:=hH ▸ Ph _ f;have d:Shared.TypeIs {s with heap:=H} (.ref a) "set" := ⟨o,k,e⟩;unfold Builtin.List.listExtendWith;refine NY (wpAny_typeOf d ?_);have g:Builtin.List.listSameRef (.ref s.heap.objs.size) (.ref a)=false:=by have:s.heap.objs.size≠a:=Uc i;simp[Builtin.List.listSameRef,this]
 have f:(Value.type "set" == Value.type "list")=false:=by decide
 have d:(Value.type "set" == Value.type "tuple")=false:=by decide
 simp only[g,f,d,Bool.or_false,Ui,if_false];refine NY (Gq k e p T n q.1 ?_);generalize Xr:H.push {cls:=.type "set_iterator", data:=.fields #[.int 0 0,.int 0 0,.ref a,.int (es.size:Nat) 0,.int (ep:Nat) 0]}=f;have d:Shared.TypeIs {s with heap:=f} (.ref a) "set" := ⟨o,Xr ▸ Ph _ k,e⟩;refine NY (SD ?_);unfold Builtin.List.listLengthHint;refine NY (Zx d F.slot_set_len.lookup ?_)
 wp_delta
 refine NY (Ys (T := "set") (b:=true) d (by rw[isSubtype_type];kernel_rfl) ?_);show wpAny _ A.in1 (typeOf (Value.ref a) >>= _) _ _ _;refine NY (wpAny_typeOf d ?_);refine wpAny_pure ?_;rw[N4 (by decide)];refine NY (wpAny_rule ?_);refine NY ?_;have d:f.get? s.heap.objs.size=some {cls:=.type "list", data:=.seq ([]:yad).toArray}:=Xr ▸ Ph _ (hH ▸ Q7 _ rfl);refine NY (Zy d rfl ?_);have e:=Vy (Obj.mapSeq (·.push Value.none)) d rfl;refine Zy (hz:=by seq_fits) e rfl ?_;have d:=Vy (Obj.mapSeq (·.pop)) e rfl;have Q1:∀b o,b≠s.heap.objs.size->f.get? b=some o->((f.update s.heap.objs.size (Obj.mapSeq (·.push Value.none))).update s.heap.objs.size (Obj.mapSeq (·.pop))).get? b=some o :=
  λb o j e=>(Vj _ _ (Ne.symm j)).trans ((Vj _ _ (Ne.symm j)).trans e)
 have t:f.get? H.objs.size=some {cls:=.type "set_iterator", data:=.fields #[.int 0 0,.int 0 0,.ref a,.int (es.size:Nat) 0,.int (ep:Nat) 0]}:=Xr ▸ Q7 _ rfl;have g:H.objs.size≠s.heap.objs.size:=by lia
 have l:a≠H.objs.size:=PN (by rw[h];exact XQ i);have m:s.heap.objs.size ∉ [H.objs.size,a]:=λf=>by
  rcases Ov.mp f with z|z;exact g z.symm;exact absurd (QU.mp z) (Uc i)
 have W:=Fs (prog:=prog) (w:=w) (A:=A.in1) r H.objs.size a l p T n q;refine wpAny_pure ⟨ZA F.plain_extend_loop _,codeAny_extend_loopS W.toS (by rw[sizeLine_eq];lia) _ m _ es.size 0 _ _ _ rfl (QI _)
  ⟨⟨_,0,Q1 _ _ g t,rfl,rfl,λ_=>B8 T.rise⟩,Q1 _ _ (PN i) (Xr ▸ Ph _ k)⟩ d (ItemsOf.nil _) λc a G f d l=>?_⟩
 show wpAny _ A (load s.heap.objs.size >>= _) _ _ c;refine NY (wpAny_load d ?_);have i:∀b o,s.heap.get? b=some o->c.heap.get? b=some o:=λb k e=>by
  have g:=OI e;refine f.heap b k (λj=>?_) (Q1 _ _ (PN g) (Xr ▸ Ph _ (hH ▸ Ph _ e)));rcases Ov.mp j with z|z;exact absurd g (z ▸ VG _);rw[QU.mp z,h]at g;exact absurd g (VJ.mpr (Nat.le_succ _))
 refine wpAny_pure (u c a.toList i f.gens f.drawn f.os (UL (OI d)) ?_);obtain⟨y,c⟩:=l;apply List.ext_getElem?;intro j;rw[T9,Pw,T9];by_cases B:j<es.size;have b:j<a.size:=by lia
 obtain⟨x,a,d⟩:=c j _ (Vh b);rw[Vh b,a];simp[d];rw[Z4 (by lia),Z4 (by rw[lZ];lia)];rfl
end
end SW
namespace SS
open PySem PySem.W PyProof.Rows
def good{a:Type}(r:Nat->Nat)(n:Nat)(G:a->Prop):KasT a->Prop
 |.ret a=>G a
 |.ask i j k=>i<n/\j<n/\good r n G (k (decide (r i<r j)))
theorem gI{b c:Type}{r:Nat->Nat}{n:Nat}{G:b->Prop}{e:c->Prop}{f:b->KasT c}(d:∀a,G a->good r n e (f a)):∀t:KasT b,good r n G t->good r n e (t.bind f)
 |.ret a,h=>d a h
 |.ask _ _ k,⟨c,b,a⟩=>⟨c,b,gI d _ a⟩
theorem good_mono{b:Type}{G d:b->Prop}(c:∀a,G a->d a):∀t:KasT b,good r n G t->good r n d t
 |.ret a,h=>c a h
 |.ask _ _ _,⟨d,b,a⟩=>⟨d,b,good_mono c _ a⟩
theorem Bg{c:Type}{r:Nat->Nat}{n:Nat}{G:c->Prop}{b:Nat->Nat->(Bool->Shared->Prop)->Shared->Prop}{Q:c->Shared->Prop}(e:∀i j C,i<n->j<n->C (decide (r i<r j)) s->b i j C s)(d:∀a,G a->Q a s):∀t:KasT c,good r n G t->t.kasWp b Q s
 |.ret a,h=>d a h
 |.ask i j k,⟨c,b,a⟩=>e i j _ c b (Bg e d _ a)
section
variable{r:Nat->Nat}{n:Nat}
def v(r:Nat->Nat)(p:yao)(k:Nat):Nat:=r (p.getD k 0)
def S(r:Nat->Nat)(p:yao)(k:Nat):Prop:=∀i j,i<=j->j<k->v r p i<=v r p j
def D(r:Nat->Nat)(p:yao)(k:Nat):Prop:=∀i j,i<=j->j<k->v r p j<=v r p i
structure Ok(n:Nat)(p:yao):Prop where
 perm:p.Perm (List.toArray (List.range n))
theorem Ok.size(h:Ok n p):p.size=n:=by have:=h.perm.size_eq;simpa using this
def Ok.lt(h:Ok n p){k:Nat}(b:k<n):p.getD k 0<n:=by
 have a:=h.size;have m:p[k]'(by lia)∈p.toList:=by simp
 have:=(zDI.mp h.perm).mem_iff.mp m
 simp_all
def zV{p q:yao}{a b:Nat}(h:p[a]?=q[b]?):v r p a=v r q b:=by
 unfold v
 simp_all
def C8{p:yao}{j:Nat}(a:j<=p.size)(k:Nat):v r (kas_rev p i j) k=if i<=k/\k<j then v r p (i+j - 1 - k)else v r p k:=by have h:=getElem?_mirror_all (i:=i) a k;split;rename_i c;rw[N4 c]at h;exact zV h;rename_i c;rw[N2 c]at h;exact zV h
def Ok.rev(h:Ok n p)(i j:Nat):Ok n (kas_rev p i j):=⟨(mirror_perm p i j _).trans h.perm⟩
theorem Ok.bubble(h:Ok n p)(k d:Nat):Ok n (PyProof.Rows.bubble p k d):=⟨(bubble_perm p k d).trans h.perm⟩
def zU{p:yao}{k l:Nat}(b:k<p.size)(d:l<=k)(a:Nat):v r (PyProof.Rows.bubble p k (k - l)) a=if a=l then v r p k else if l<a/\a<=k then v r p (a - 1)else v r p a:=by have h:=getElem?_bubble b (k - l) (by lia) a;rw[show k - (k - l)=l by lia]at h;split;rename_i c;rw[N4 c]at h;exact zV h;rename_i c;rw[N2 c]at h;split;rename_i a;rw[N4 a]at h;exact zV h;rename_i a;rw[N2 a]at h;exact zV h
theorem xM(O:Ok n p):∀(f m:Nat),1<=m->m+f<=n->S r p m->good r n (λa=>m<=a/\a<=m+f/\S r p a/\(a<m+f->v r p a<v r p (a - 1))) (kas_asc p f m)
 |0,m,_,_,h=>⟨OP _,OP _,h,by lia⟩
 |f+1,m,g,e,h=>by
  refine⟨O.lt (by lia),O.lt (by lia),?_⟩;by_cases c:r (p.getD m 0)<r (p.getD (m - 1) 0);simp only[c,decide_true,if_true];exact⟨OP _,by lia,h,λ_=>c⟩;simp only[c,decide_false,Ui,if_false];have a:S r p (m+1):=λi j b d=>by
   rcases WX j m with z|z;exact h i j b z;have:j=m:=by lia
   subst this;rcases WX i j with y|y;have:=h i (j - 1) (by lia) (by lia);have k:v r p (j - 1)<=v r p j:=XS c
   lia
   grind
  exact good_mono (by lia) _ (xM O f (m+1) (by lia) (by lia) a)
def v_eq{p:yao}{i j:Nat}(b:j<=p.size)(h:∀a,i<=a->a<j->v r p a=v r p (j - 1))(k:Nat):v r (kas_rev p i j) k=v r p k:=by rw[C8 b];split;rename_i c;rw[h k c.1 c.2,h (i+j - 1 - k) (by omega) (by omega)];rfl
def D.cong(e:∀a,v r q a=v r p a)(h:D r p k):D r q k:=λi j a b=>by rw[e,e];exact h i j a b
theorem qw:∀(f:Nat) (p:yao) (m q:Nat),Ok n p->m+f<=n->q+1<=m->D r p m->(∀a,m - (q+1)<=a->a<m->v r p a=v r p (m - 1)) →
  good r n (λz=>Ok n z.1/\m<=z.2.1/\z.2.1<=m+f/\D r z.1 z.2.1/\z.2.2+1<=z.2.1/\∀a,z.2.1 - (z.2.2+1)<=a->a<z.2.1->v r z.1 a=v r z.1 (z.2.1 - 1)) (kas_desc f p m q)
 |0,p,m,q,O,_,l,d,b=>⟨O,OP _,OP _,d,l,b⟩
 |f+1,p,m,q,O,x,l,d,b=>by
  have os:=O.size;unfold kas_desc;refine⟨O.lt (by lia),O.lt (by lia),?_⟩;have o:v r p m<=v r p (m - 1)->D r p (m+1):=λc i j e A=>by
   rcases WX j m with z|z;exact d i j e z;have:j=m:=by lia
   subst this;rcases WX i j with y|y;have:=d i (j - 1) (by lia) (by lia)
   lia
   have:i=j:=by lia
   subst this;exact OP _
  by_cases c:r (p.getD m 0)<r (p.getD (m - 1) 0);simp only[c,decide_true,if_true];have t:D r p (m+1):=o (UL c);split;have e:=v_eq (r:=r) (p:=p) (i:=m - (q+1)) (j:=m) (by lia) b;exact good_mono (λz k=>(by obtain⟨j,w,u,i,h,g⟩:=k;exact⟨j,by lia,by lia,i,h,g⟩)) _ (qw f (kas_rev p (m - (q+1)) m) (m+1) 0 (O.rev _ _) (by lia) (by lia) (t.cong e) λa s e=>by
   have:a=m:=by lia
   subst this;rfl)
  exact good_mono (λz k=>(by obtain⟨j,w,u,i,h,g⟩:=k;exact⟨j,by lia,by lia,i,h,g⟩)) _ (qw f p (m+1) 0 O (by lia) (by lia) t λa s e=>by
   have:a=m:=by lia
   subst this;rfl)
  simp only[c,decide_false,Ui,if_false];refine⟨O.lt (by lia),O.lt (by lia),?_⟩;by_cases c:r (p.getD (m - 1) 0)<r (p.getD m 0);simp only[c,decide_true,if_true];exact⟨O,OP _,XR _ _,d,l,b⟩;simp only[c,decide_false,Ui,if_false];have c:v r p m=v r p (m - 1):=by unfold v;lia
  exact good_mono (λz k=>(by obtain⟨j,w,u,i,h,g⟩:=k;exact⟨j,by lia,by lia,i,h,g⟩)) _ (qw f p (m+1) (q+1) O (by lia) (by lia) (o (Nat.le_of_eq c)) λa s e=>by
   rcases WX a m with z|z;rw[b a (by lia) z];exact c.symm;have:a=m:=by lia
   subst this;rfl)
def BK{p:yao}{m:Nat}(O:Ok n p)(a:1<=m)(f:m<=n)(c:D r p m):good r n (λz=>Ok n z.2/\1<=z.1/\z.1<=n/\S r z.2 z.1) (kas_tail3 m n p):=by
 have os:=O.size;have b:S r (kas_rev p 0 m) m:=λi j Qv g=>by rw[C8 (by lia),C8 (by lia),N4 (by lia),N4 (by lia)];exact c _ _ (by lia) (by lia)
 refine gI (λe d=>?_) _ (xM (O.rev 0 m) (n - m) m a (by lia) b);obtain⟨c,h,b,_⟩:=d;exact⟨O.rev _ _,Pe a c,by lia,b⟩
def Bs{p:yao}{m:Nat}(O:Ok n p)(e:m+1<=n)(a:D r p (m+1)):good r n (λz=>Ok n z.2/\1<=z.1/\z.1<=n/\S r z.2 z.1) (kas_descPart m n p):=by
 unfold kas_descPart;refine gI (λz ⟨b,j,i,c,h,d⟩=>?_) _ (qw (n - (m+1)) p (m+1) 0 O (by omega) (by omega) a λa g f=>by
  have:a=m:=by omega
  subst this;rfl)
 have os:=b.size;split;exact BK (b.rev _ _) (by omega) (by omega) (c.cong (v_eq (by omega) d));exact BK b (by omega) (by omega) c
def F1(O:Ok n p)(k:1<=n):good r n (λz=>Ok n z.2/\1<=z.1/\z.1<=n/\S r z.2 z.1) (kas_count n p):=by
 have os:=O.size;unfold kas_count;refine gI (λm ⟨a,s,d,e⟩=>?_) _ (xM (r:=r) O (n - 1) 1 (OP _) (by lia) λi j h g=>by
  have:i=j:=by lia
  subst this;exact OP _)
 split;rename_i c;have b:m=n:=by simpa using c
 exact⟨O,a,by lia,d⟩;rename_i c;have b:m≠n:=by simpa using c
 have f:=e (by lia);split;refine⟨O.lt (by lia),O.lt (by lia),?_⟩;by_cases c:r (p.getD 0 0)<r (p.getD (m - 1) 0);simp only[c,decide_true,if_true];exact⟨O,a,by lia,d⟩;simp only[c,decide_false,Ui,if_false];have b:∀a,0<=a->a<m->v r p a=v r p (m - 1):=λa _ e=>by
  have q:=d 0 a (by lia) e;have o:=d a (m - 1) (by lia) (by lia);have l:v r p (m - 1)<=v r p 0:=XS c
  lia
 have e:=v_eq (r:=r) (p:=p) (i:=0) (j:=m) (by lia) b;refine Bs (O.rev _ _) (by lia) λi j h g=>?_
 rw[e,e];rcases WX j m with z|z;rw[b i (by lia) (by lia),b j (by lia) z];exact OP _;have:j=m:=by lia
 subst this;rcases WX i j with y|y;rw[b i (by lia) y];exact UL f;have:i=j:=by lia
 subst this;exact OP _;have a:m=1:=by lia
 subst a;refine Bs O (by lia) λi j h g=>?_
 rcases WX i j with y|y;have b:i=0:=by lia
 have a:j=1:=by lia
 subst b a;exact UL f;have:i=j:=by lia
 subst this;exact OP _
theorem rZ{k:Nat}(O:Ok n p)(g:k<n)(hs:S r p k):∀(f l h:Nat),l<=h->h<=k->h - l<=f->(∀a,a<l->v r p a<=v r p k)->(∀a,h<=a->a<k->v r p k<=v r p a) →
  good r n (λb=>b<=k/\(∀a,a<b->v r p a<=v r p k)/\∀a,b<=a->a<k->v r p k<=v r p a) (kas_place p k f l h)
 |0,l,h,i,c,e,d,b=>by
  have:l=h:=by lia
  subst this;exact⟨c,d,b⟩
 |f+1,l,h,i,c,e,d,b=>by
  unfold kas_place;split;have:l=h:=by lia
  subst this;exact⟨c,d,b⟩;refine⟨O.lt (by lia),O.lt (by lia),?_⟩;by_cases c:r (p.getD k 0)<r (p.getD ((l+h) / 2) 0);simp only[c,decide_true,if_true];refine rZ O g hs f l ((l+h) / 2) (by lia) (by lia) (by lia) d λa e d=>?_
  have:=hs ((l+h) / 2) a e d;have d:v r p k<v r p ((l+h) / 2):=c
  lia
  simp only[c,decide_false,Ui,if_false];refine rZ O g hs f ((l+h) / 2+1) h (by lia) (by lia) (by lia) (λa j=>?_) b;have:=hs a ((l+h) / 2) (by lia) (by lia);have d:v r p ((l+h) / 2)<=v r p k:=XS c
  lia
theorem Dr:∀(f:Nat) (p:yao) (k:Nat),Ok n p->k+f=n->S r p k->good r n (λz=>Ok n z/\S r z n) (kas_bin f p k)
 |0,p,k,O,a,b=>by
  have:k=n:=by lia
  subst this;exact⟨O,b⟩
 |f+1,p,k,O,a,b=>by
  have os:=O.size;unfold kas_bin;refine gI (λl ⟨c,g,e⟩=>Dr f _ (k+1) (O.bubble k (k - l)) (by lia) λi j Qv h=>?_) _ (rZ O (by lia) b k 0 k (by lia) (by lia) (by lia) (λa d=>absurd d (Nat.not_lt_zero _)) λa o m=>by lia);rw[zU (by lia) c,zU (by lia) c]
  repeat' split
  all_goals first
   |exact OP _
   |(exfalso;lia)
   |exact e _ (by lia) (by lia)
   |exact g _ (by lia)
   |exact b _ _ (by lia) (by lia)
def JM(a:1<=n):good r n (λz=>Ok n z/\S r z n) (kas_sort n):=by
 unfold kas_sort;refine gI (λz c=>?_) _ (F1 (r:=r) ⟨Array.Perm.refl _⟩ a);obtain⟨b,e,d,a⟩:=c;split;rw[show max z.1 1=z.1 by lia];exact Dr _ _ _ b (by lia) a;have:z.1=n:=by lia
 rw[this]at a;exact⟨b,a⟩
end
end SS
namespace SW
open PySem PySem.SetTable ST PySem.W PyProof.Rows
noncomputable def lexLt:yaf->yaf->Bool
 |_,[]=>false
 |[],_::_=>true
 |a::x,b::y=>if a=b then lexLt x y else decide (a<b)
theorem ku:∀x,lexLt x x=false
 |[]=>rfl
 |a::x=>by unfold lexLt;rw[N4 rfl];exact ku x
theorem rh:∀x y z,lexLt x y=true->lexLt y z=true->lexLt x z=true
 |_,[],_,h,_=>by unfold lexLt at h;cases h
 |_,_::_,[],_,h=>by unfold lexLt at h;cases h
 |[],_::_,_::_,_,_=>rfl
 |a::x,b::y,c::z,e,d=>by
  unfold lexLt at e d ⊢;split at e<;>split at d;rename_i g f;rw[N4 (g.trans f)];exact rh x y z e d;rename_i g f;subst g;rw[N2 f];exact d;rename_i g f;subst f;rw[N2 g];exact e;have j:a<b:=by simpa using e
  have i:b<c:=by simpa using d
  rw[N2 (by omega)];simp;omega
theorem lM:∀x y,lexLt x y=false->x=y∨lexLt y x=true
 |[],[],_=>.inl rfl
 |[],_::_,h=>by unfold lexLt at h;lia
 |_::_,[],_=>.inr rfl
 |a::x,b::y,h=>by
  unfold lexLt at h ⊢;split at h;rename_i e
  simp_all [lM]
  lia
theorem xZ{a:Type}(p q:a->Bool):∀l:List a,(∀z∈l,p z=true->q z=true)->(∃z∈l,p z=false/\q z=true)->l.countP p<l.countP q
 |[],_,⟨_,h,_⟩=>by cases h
 |x::l,h,⟨z,a,c,b⟩=>by
  rw[List.countP_cons,List.countP_cons];have d:l.countP p<=l.countP q:=List.countP_mono_left (by grind);rcases Ov.mp a with y|y
  lia
  have ih:=xZ p q l (by grind) ⟨z,y,c,b⟩;grind
def rank(K:List (yaf))(x:yaf):Nat:=K.countP λy=>lexLt y x
def By{K:List (yaf)}{x y:yaf}(g:x∈K)(f:y∈K):decide (rank K x<rank K y)=lexLt x y:=by
 have c:∀a b,a∈K->lexLt a b=true->rank K a<rank K b:=λa b e h=>xZ _ _ K (λz _ d=>rh z a b d h) ⟨a,e,ku a,h⟩
 cases e:lexLt x y with
 |true=>simpa using c x y g e
 |false =>
  rcases lM x y e with z|z;subst z;simp;have:=c y x f z;simp
  lia
section
variable{prog:Program}{w:World}{A:Around}{E:yaa}{s:Shared}
def Lx{f:Bool}{Q:Bool->Shared->Prop}:∀{k d:yaf} {j vs:yad} (i:Nat),PySem.ItemsAre (intKind prog w) k j->PySem.ItemsAre (intKind prog w) d vs->f=decide (k.length<d.length)->Q (lexLt k d) s->KatLex prog w A b f Q (j.zip vs) i s:=by
 intro k d j vs i h
 induction h generalizing d vs i with
 |nil =>
  intro l g q;refine kat_nil ?_;cases l with
  |nil=>rw[g];exact q
  |cons _ _=>rw[g];exact q
 |@cons a u x j o r ih =>
  intro l g q;cases l with
  |nil=>refine kat_nil ?_;rw[g];exact q
  |@cons c p y vs n m =>
   obtain⟨t,rfl⟩:=Value.isInt_shape o;obtain⟨z,rfl⟩:=Value.isInt_shape n;refine kat_cons (wpAny_eqBool_int ?_);by_cases e:a=c;subst e;rw[show(a==a)=true by simp];refine kat_yes (ih (i+1) m ?_ ?_);rw[g];simp;unfold lexLt at q;rw[N4 rfl]at q;exact q;rw[show(a==c)=false by simp[e]];unfold lexLt at q;rw[N2 e]at q;refine kat_no ?_;cases(b && i==0)with
   |true=>exact oneLt_int q
   |false=>exact kat_one _ _ (PySem.P.lt_int q)
def DC{Q:Bool->Shared->Prop}(f:(TK prog w).is s.heap k x)(a:(TK prog w).is s.heap k' y)(q:Q (lexLt k k') s):wpAny (model prog w) A (keyLt' (tuples' b) (.ref x) (.ref y)) Q E s:=by
 obtain⟨o,d,n,g,r,i,e⟩:=f;obtain⟨m,c,p,j,UP,l,f⟩:=a;have a:∀{k:yaf} {b:yad},PySem.ItemsAre (intKind prog w) k b->k.length=b.length:=λh=>by
  induction h with
  |nil=>rfl
  |cons _ _ ih=>simp[ih]
 refine kat_lt g i j l (Lx 0 e f ?_ q);rw[a e,a f,RS,RS]
theorem BM:∀{cs:yae} (K:Nat->yaf) (off:Nat),(∀(j:Nat) (c:Addr),cs[j]?=some c->(TK prog w).is s.heap (K (off+j)) c/\K (off+j) ≠ [])->∃d,KatTups s.heap (cs.map Value.ref) d/\d.length=cs.length/\∀v∈d,∃n t,v=Value.int n t
 |[],_,_,_=>⟨[],KatTups.nil,rfl,λ_ h=>by cases h⟩
 |c::cs,K,off,h=>by
  obtain⟨d,t,l,g⟩:=BM (cs:=cs) K (off+1) λj c a=>by have:=h (j+1) c a;rw[show off+(j+1)=off+1+j by lia]at this;exact this
  obtain⟨⟨o,b,n,f,j,i,a⟩,e⟩:=h 0 c rfl;rw[Nat.add_zero]at a e;generalize K off=p at a e;generalize hL:b.toList=L at a;cases a with
  |nil=>exact absurd rfl e
  |@cons a u x k c m =>
   obtain⟨b,rfl⟩:=Value.isInt_shape c;refine⟨.int a b::d,KatTups.cons f j i ?_ t,by simp[l],λv c=>?_⟩;rw[<- T9,hL];rfl;rcases Ov.mp c with z|z;exact⟨a,b,z⟩;exact g v z
def An{cs:yae}{K:Nat->yaf}{Q:SortKind->Shared->Prop}(Px:0<cs.length)(h:∀(j:Nat) (c:Addr),cs[j]?=some c->(TK prog w).is s.heap (K j) c/\K j ≠ [])(q:Q (tuples' true) s):wpAny (model prog w) A (keyKind' (cs.map Value.ref).toArray) Q E s:=by
 obtain⟨e,t,l,b⟩:=BM (s:=s) (cs:=cs) K 0 λj c a=>by rw[UM];exact h j c a
 refine kat_kind (T:=.type "int") t (by lia) (λv a=>?_) (by decide) q;obtain⟨n,d,rfl⟩:=b v a;exact Looks.of_pure rfl
def HX{cs:yae}{K:Nat->yaf}{G:yao->Shared->Prop}(g:1<=cs.length)(h:∀(j:Nat) (c:Addr),cs[j]?=some c->(TK prog w).is s.heap (K j) c)
  (e:∀p:yao,SS.Ok cs.length p->(∀i j,i<=j->j<cs.length->lexLt (K (p.getD j 0)) (K (p.getD i 0))=false)->G p s):(kas_sort cs.length).kasWp (kas_ask prog w A (tuples' true) (cs.map Value.ref)) G s:=by
 have a:∀i,i<cs.length->K i∈(List.range cs.length).map K:=λi c=>Ol.mpr ⟨i,TG.mpr c,rfl⟩
 refine SS.Bg (r:=λi=>rank ((List.range cs.length).map K) (K i)) (n:=cs.length) (λi j C c b d=>?_) (λp ⟨O,S⟩=>e p O λi j f b=>?_) _ (SS.JM g);unfold kas_ask;have g:(cs.map Value.ref).getD i Value.none=.ref cs[i]:=by simp[c]
 have e:(cs.map Value.ref).getD j Value.none=.ref cs[j]:=by simp[b]
 rw[g,e];refine DC (h i _ (OH c)) (h j _ (OH b)) ?_;rw[By (a i c) (a j b)]at d;exact d;have:=S i j f b;unfold SS.v at this;have e:=By (a _ (O.lt b)) (a _ (O.lt (Ym f b)));rw[<- e];exact decide_eq_false (VJ.mpr this)
theorem BP{a:Type}:∀l:List a,(l.zip l).map (·.2)=l
 |[]=>rfl
 |x::l=>by simp[BP l]
def range_getD{a:Type}(l:List a)(d:a):(List.range l.length).map (λi=>l.getD i d)=l:=by apply List.ext_getElem;simp;intro i b a;simp;rw[OH a];rfl
def y4 {cs:yae} {K:Nat->yaf} {P:PySem.Fin->Shared->Prop} (m:s.heap.get? a=some (seqObj "list" (cs.map Value.ref).toArray n)) (q:cs.length<64)
  (h:∀(j:Nat) (c:Addr),cs[j]?=some c->(TK prog w).is s.heap (K j) c/\K j ≠ [])
  (r:∀h' (p:yao) l,SS.Ok cs.length p->(∀i j,i<=j->j<cs.length->lexLt (K (p.getD j 0)) (K (p.getD i 0))=false)->(∀b o,b≠a->s.heap.get? b=some o->h'.get? b=some o) →
   h'.get? a=some (seqObj "list" (List.toArray (p.toList.map λi=>(cs.map Value.ref).getD i Value.none)) l)->P (.done (.ret .none)) {s with heap:=h'}):wpAny (model prog w) A (Builtin.«list.sort» ⟨[.ref a],[]⟩) P E s:=by
 have f:(cs.map Value.ref).length=cs.length:=N3 ..;obtain⟨d,e⟩:∃d,(s.heap.update a (Obj.mapSeq λ_=>(#[]:yan))).get? a=some (seqObj "list" #[] d):=⟨_,get?_update_seq m λ_=>#[]⟩;rw[list_sort_plain];refine NY (listItems_at m rfl ?_);refine NY (listUpdate_at m rfl ?_ (by rw[RB,sizeLine_eq];lia) (QI _));refine NY (seqEpoch_at e rfl ?_);refine NY (wpAny_newTuple ?_ (by show(cs.map Value.ref).length<=_;rw[sizeLine_eq];lia));refine NY (wpAny_newList ?_ (QI _));refine SD ?_;have g:(((s.heap.update a (Obj.mapSeq λ_=>(#[]:yan))).push (seqObj "tuple" (cs.map Value.ref).toArray 0)).push (seqObj "list" #[] 0)).get? a=some (seqObj "list" #[] d):=Ph _ (Ph _ e);have Q1:∀b o,b≠a->s.heap.get? b=some o->(((s.heap.update a (Obj.mapSeq λ_=>(#[]:yan))).push (seqObj "tuple" (cs.map Value.ref).toArray 0)).push (seqObj "list" #[] 0)).get? b=some o:=λb o n e =>
  Ph _ (Ph _ ((Vj _ _ (Ne.symm n)).trans e))
 generalize ((s.heap.update a (Obj.mapSeq λ_=>(#[]:yan))).push (seqObj "tuple" (cs.map Value.ref).toArray 0)).push (seqObj "list" #[] 0)=H at g Q1 ⊢;have k:∀(p:yao) (d:yan),SS.Ok cs.length p->(∀i j,i<=j->j<cs.length->lexLt (K (p.getD j 0)) (K (p.getD i 0))=false)->d=List.toArray (p.toList.map λi=>(cs.map Value.ref).getD i Value.none)->P (.done (.ret .none)) {s with heap:=H.update a (Obj.mapSeq λ_=>d)}:=λp d O S e=>by subst e;obtain⟨l,d⟩:∃l,(H.update a (Obj.mapSeq λ_=>List.toArray (p.toList.map λi=>(cs.map Value.ref).getD i Value.none))).get? a=some (seqObj "list" (List.toArray (p.toList.map λi=>(cs.map Value.ref).getD i Value.none)) l):=⟨_,get?_update_seq g λ_=>List.toArray (p.toList.map λi=>(cs.map Value.ref).getD i Value.none)⟩;exact r _ p l O S (λb o n e=>(Vj _ _ (Ne.symm n)).trans (Q1 b o n e)) d
 dsimp only;by_cases a:(cs.map Value.ref).toArray.size<2;rw[N4 a,N4 a];refine NY (wpAny_pure ?_);rw[StateT.run_pure];refine NY (wpAny_pure ?_);dsimp only;refine NY (seqEpoch_at g rfl ?_);refine NY (listUpdate_at g rfl ?_ (hsz2:=by rw[Array.size_map];show(pairsOf (cs.map Value.ref)).size<=_;rw[pairsOf_size,sizeLine_eq];lia));simp only[bne_self_eq_false,Ui,if_false];refine wpAny_pure (k (List.toArray (List.range cs.length)) _ ⟨Array.Perm.refl _⟩ (λi j Qv b=>?_) ?_);have:i=j:=by rw[RB,f]at a;lia
 subst this;exact ku _;show((cs.map Value.ref).toArray.zip (cs.map Value.ref).toArray).map (·.2)=_;have e:=range_getD (cs.map Value.ref) Value.none;rw[f]at e;rw[e];simp[BP];rw[N2 a,N2 a];rw[RB,f]at a;have l:∀(j:Nat) (c:Addr),cs[j]?=some c->(TK prog w).is H (K j) c/\K j ≠ []:=λj c b=>by obtain⟨a,d⟩:=h j c b;exact⟨mf a λo e=>Q1 c o (key_ne a m rfl (by decide)) e,d⟩
 refine NY (An (s:={s with heap:=H}) (by lia) l ?_);refine NY (SV (kat_run (s:={s with heap:=H}) (ks:=cs.map Value.ref) (vs:=cs.map Value.ref) (Q:=λd a=>a={s with heap:=H}/\∃p:yao,arrOf d=p.map (kas_item ((cs.map Value.ref).toArray.zip (cs.map Value.ref).toArray))/\failedOf d=none/\SS.Ok cs.length p/\∀i j,i<=j->j<cs.length->lexLt (K (p.getD j 0)) (K (p.getD i 0))=false)
  (G:=λp a=>a={s with heap:=H}/\SS.Ok cs.length p/\∀i j,i<=j->j<cs.length->lexLt (K (p.getD j 0)) (K (p.getD i 0))=false)
  rfl (by rw[f];lia) (by rw[f];exact q) (λp d a t o n q=>(by obtain⟨m,i,h⟩:=q;exact⟨m,p,o,n,i,h⟩)) ?_) ?_ λ_ _ e=>e)
 rw[f];exact HX (s:={s with heap:=H}) (by lia) (λj c b=>(l j c b).1) λp O S=>⟨rfl,O,S⟩
 rintro⟨⟨⟩,d⟩ a ⟨rfl,p,b,c,O,S⟩;dsimp only;have a:=kat_snds (ks:=cs.map Value.ref) (vs:=cs.map Value.ref) rfl b;rw[a];refine NY (seqEpoch_at g rfl ?_);refine NY (listUpdate_at g rfl ?_ (QI _) (by rw[RB,N3,RS,O.size,sizeLine_eq];lia));rw[c];simp only[bne_self_eq_false,Ui,if_false];exact wpAny_pure (k p _ O S rfl)
def GP{a b:Type}{f:a->b}{l m:List b}(h:l.Perm m):∀xs:List a,m=xs.map f->∃c:List a,c.Perm xs/\l=c.map f:=by
 induction h with
 |nil=>simp_all
 |cons a _ ih =>
  intro xs e;cases xs with
  |nil=>cases e
  |cons x xs =>
   injection e with e1 e2;obtain⟨c,p,q⟩:=ih xs e2;exact⟨x::c,p.cons x,by grind⟩
 |swap a b l =>
  intro xs e
  match xs,e with
  |[],e=>cases e
  |[_],e=>simp at e
  |x::y::xs,e =>
   exact⟨y::x::xs,List.Perm.swap x y xs,by grind⟩
 |trans _ _ b a =>
  intro xs e;obtain⟨c,p,q⟩:=a xs e;obtain⟨a,e,d⟩:=b c q;exact⟨a,e.trans p,d⟩
def CY{a:Addr}{xs:List (yaf×Addr)}{Q:yaa}(i:A.handled=none)(X:jw prog w s.heap a xs)(u:xs.length<64)(G:∀x∈xs,x.1 ≠ [])
  (r:∀s' (D:Addr) (ys:List (yaf×Addr)) c,(∀b o,s.heap.get? b=some o->s'.heap.get? b=some o)->s'.gens=s.gens->s'.drawn=s.drawn->s'.os=s.os->s.heap.objs.size<=D->ys.Perm xs->ys.Pairwise (λx y=>lexLt x.1 y.1=true) →
   s'.heap.get? D=some (seqObj "list" (ys.map λy=>Value.ref y.2).toArray c)->Q (.ref D) s'):wpAny (model prog w) A (call (.builtin "sorted") [.ref a]) Q E s:=by
 obtain⟨⟨o,h,l,t,f,d,j,g,T,k,_,_⟩,x,q⟩:=X;have e:h.size=xs.length:=by rw[<- RS,g,N3]
 refine Calls.call_function_entry kind_sorted plain_sorted entry_sorted (args_sorted1 _) ?_;refine NY (m:=checkCount "sorted" 1 1 _) (wpAny_pure ?_);refine NY (Aj (show A.in1.handled=none from i) f d.1 j T (by rw[N3,e]) k (by lia) λf e j B y g3 m n=>?_);obtain⟨d,k,i⟩:=GP (rC w a h l) xs g;have a:e=(d.map (·.2)).map Value.ref:=by rw[n,i,O3,O3];rfl
 have l:d.length=xs.length:=k.length_eq;have h:(d.map (·.2)).length=xs.length:=by rw[N3,l]
 subst a;refine NY (wpAny_newList ?_ (by rw[N3,h,sizeLine_eq];lia));have a:(f.heap.push (seqObj "list" ((d.map (·.2)).map Value.ref).toArray 0)).get? f.heap.objs.size=some (seqObj "list" ((d.map (·.2)).map Value.ref).toArray 0):=Q7 _ rfl;have n:∀b o,s.heap.get? b=some o->(f.heap.push (seqObj "list" ((d.map (·.2)).map Value.ref).toArray 0)).get? b=some o:=λb o e=>Ph _ (j b o e)
 refine NY (SD (U0 slot_list_sort ⟨_,a,rfl⟩ entry_list_sort ?body (args_list_sort _)))
 case body =>
  refine y4 (s:={f with heap:=f.heap.push (seqObj "list" ((d.map (·.2)).map Value.ref).toArray 0)}) (K:=λj=>(d.getD j ([],0)).1) a (by lia) (λj c a=>?_) λH p C O S Q1 t=>?_
  rw[Pw]at a;obtain⟨z,i,e⟩:=Vk.mp a;have g:d.getD j ([],0)=z:=by rw[Pg,i];rfl
  have c:z∈xs:=k.mem_iff.mp (Qh i);subst e;rw[g];exact⟨mf (x z c) λo e=>n _ o e,G z c⟩;have g:(p.toList.map λi=>d.getD i ([],0)).Perm xs:=by
   have x:=(zDI.mp O.perm).map λi=>d.getD i ([],0)
   have c:=range_getD d ([],0);rw[l,<- h]at c;refine(x.trans ?_).trans k;rw[c]
  refine⟨_,rfl,wpAny_pure ⟨_,rfl,r _ f.heap.objs.size (p.toList.map λi=>d.getD i ([],0)) C (λb o e=>?_) B y g3 m g ?_ ?_⟩⟩;exact Q1 b o (PN (QL (OI e) m)) (n b o e);refine Vi.mpr λi j b a h=>?_
  have c:((p.toList.map λi=>d.getD i ([],0)).map (·.1)).Nodup:=(g.map (·.1)).nodup_iff.mpr q;have f:=Vi.mp c i j (by rw[N3];exact b) (by rw[N3];exact a) h;rw[N3,RS]at b a;have c:=S i j (by lia) (by rw[<- O.size];exact a);have h:p.getD i 0=p[i]:=by simp[Array.getD,b]
  have g:p.getD j 0=p[j]:=by simp[Array.getD,a]
  rw[h,g]at c;simp at f ⊢;rcases lM _ _ c with e|e;exact absurd e.symm f;exact e;refine t.trans ?_;congr 3;rw[O3 (l:=p.toList)];refine Vz λi b=>?_
  have a:i<d.length:=by have:=(zDI.mp O.perm).mem_iff.mp b;simpa using this
  simp[a]
end
end SW
namespace PD
open PySem PySem.Spec PyProof.Rows L2
section
variable{X:Cx}{pos:Pos}
def boot_sorted:bootBuiltins "sorted" = some (.builtin "sorted"):=by kernel_rfl
def boot_set:bootBuiltins "set" = some (.type "set"):=by kernel_rfl
theorem tU:∀{ns:yaf} {a:yad},Vals (ns.map V.int) a->PySem.ItemsAre (intKind prog w) ns a
 |[],a,r=>by rw[VF]at r;cases r;exact .nil
 |n::ns,a,r=>by
  rw[Pq]at r;cases r with
  |cons h t =>
   obtain⟨b,rfl⟩:=h;exact .cons (by simp[intKind,Value.isInt]) (tU t)
def Bi{k:yaf}(I:Inv X pins σ H s)(h:OZ X.K H a (k.map V.int)):(SW.TK X.prog X.w).is s.heap k a:=by obtain⟨c,r,⟨o,e,b,n,a⟩,_⟩:=I.tuple h.w;exact⟨o,c.toArray,n,e,b,a,by simpa using tU r⟩
def Lg(a:cE k A):A.in1.in1.in1.units<cLine:=Ym (Nat.add_le_add_left (by decide:3<=64) _) a.units
def tupI(k:yaf):D:=.tup (k.map D.int)
def M4{K:yac}{P:yak}{H:Hp}{k:yaf}{v:V}(h:Den K P H (tupI k) v):∃a,v=.ref a/\OZ K H a (k.map V.int):=by obtain⟨a,c,e,q,b⟩:=h.Ra;rw[cQ b]at q;exact⟨a,e,q⟩
def Dk(ys ks:List (yaf)):Prop:=ys.Pairwise (λx y=>SW.lexLt x y=true)/\∀k,k∈ys↔k∈ks
def F5(te:DE):DA:=λa Q=>te a λd=>∃t a,d=.lst t (a.map tupI)/\a.length<64/\(∀k∈a,k ≠ [])/\∀b,Dk b a->Q (b.map tupI)
def Ci {e:Expr} {te:DE} {p M w:Pos} (hc:X.calm=true) (hu:X.A.in1.in1.in1.units<cLine) (hg:Gl X "sorted") (hm:X.mg "sorted" = none) (Y2:Gl X "set") (Y3:X.mg "set" = none) (he:Oo X e te)
  (Rx:starEach [.Call (.Name "set" M) [e] [] w] X.env=(false,eval (.Call (.Name "set" M) [e] [] w) X.env)::starEach [] X.env:=by rfl) (Qe:(backTo pos (starEach [] X.env)).any (·.1)=false:=by rfl)
  (SM:starEach [e] X.env=(false,eval e X.env)::starEach [] X.env:=by rfl) (V9:(backTo w (starEach [] X.env)).any (·.1)=false:=by rfl) :
  UW X (.Call (.Name "sorted" p) [.Call (.Name "set" M) [e] [] w] [] pos) (F5 te):=by
 intro g s U H W ρ Q I r h;refine Vn (cH I hg hm boot_sorted ?_ (by decide) (by decide));refine PyProof.Rows.callWith_builtin1 ?_ Rx Qe;rw[Rx];show wpAny _ _ (spliced ((false,eval (.Call (.Name "set" M) [e] [] w) X.env)::backTo pos (starEach [] X.env))) _ _ s;refine Calls.spliced_cons ?_;refine Vn (cH I Y2 Y3 boot_set ?_ (by decide) (by decide));refine PyProof.Rows.callWith_type1 ?_ SM V9;rw[SM];show wpAny _ _ (spliced ((false,eval e X.env)::backTo w (starEach [] X.env))) _ _ s;refine Calls.spliced_cons (Oa (he g s U H W ρ _ I r h) λu J Oc=>?_);obtain⟨v,o,d,x,L,e1,hd,t,f,ed,lk,Px,q⟩:=Oc;subst ed;obtain⟨l,vs,ev,_,hq,hw⟩:=hd.Q0;subst ev;cases L;refine wpAny_pure ?_;obtain⟨T,L,pl,_⟩:=x.list hq;have hh:=x.ok.hd hc;have lvs:vs.length=f.length:=by rw[hw.len,N3]
 have l:T.length=f.length:=by rw[<- L.length,lvs]
 have G:∀(j:Nat) (k:yaf),f[j]?=some k->∃c:Addr,T[j]?=some (Value.ref c)/\OZ X.K o c (k.map V.int):=λj k hk=>by obtain⟨v,ev,hv⟩:=hw.get (i:=j) (d:=tupI k) (by rw[Pw,hk];rfl);obtain⟨c,rfl,hc⟩:=M4 hv;obtain⟨u,eu,ru⟩:=L.get ev;cases ru;exact⟨c,eu,hc⟩
 refine SW.call_set_list hh hu pl.isList (by rw[RB];lia) (λj=>f.getD j []) (λj v hj=>?_) λh2 A Y kp S yl yk yi=>?_
 have Rt:T[j]?=some v:=by simpa using hj
 have a:j<f.length:=by rw[<- l];exact(Ql.mp Rt).1
 obtain⟨c,E,O⟩:=G j f[j] (OH a);rw[Rt]at E;cases E;rw[show f.getD j []=f[j]by simp[a]];exact⟨c,rfl,Bi x O⟩;have I2:L2.Inv X g U o {J with heap:=h2,toks:=A}:=x.kept kp;refine wpAny_pure ?_;rw[RB]at yl yk yi;have m:∀k,k∈Y.map (·.1)↔k∈f:=λk=>by rw[yk k];constructor;rintro⟨j,a,e⟩;rw[l]at a;rw[e,show f.getD j []=f[j]by simp[a]];exact RY a;intro hk;obtain⟨j,a,e⟩:=Vl hk;exact⟨j,by rw[l];exact a,by rw[<- e];simp[a]⟩
 have den:∀y∈Y,OZ X.K o y.2 (y.1.map V.int):=λy N=>by
  obtain⟨j,a,n⟩:=yi y N;have b:T[j]?=some (.ref y.2):=by simpa using n
  rw[l]at a;obtain⟨c,E,O⟩:=G j f[j] (OH a);rw[b]at E;cases E;have i:=Bi I2 O;rw[(SW.TK X.prog X.w).inj (S.is_ y N) i];exact O
 refine SW.CY (s:={J with heap:=h2,toks:=A}) hh S (by lia) (λy N=>Px _ ((m _).mp (Ol.mpr ⟨y,N,rfl⟩))) λB D i c Vb g1 g2 g3 le C sz hD=>?_
 have lz:i.length=Y.length:=C.length_eq;have es:B={J with heap:=B.heap,toks:=B.toks}:=by cases B;dsimp only at g1 g2 g3 ⊢;subst g1 g2 g3;rfl
 have t:J.heap.objs.size<=D:=by obtain⟨_,_,_,_,ho,_⟩:=S.ex;exact UL (QL (OI ho) le)
 have nD:o D=none:=x.Om.fresh t;have I3:L2.Inv X g U (L2.upd o D (.lst (i.map λz=>V.ref z.2))) B:=by
  rw[es];refine x.laid (λb u e=>Vb b u (kp b u e)) t ⟨by rw[N3,sizeLine_eq];lia,i.map λz=>Value.ref z.2,c,?_,hD⟩;clear C sz hD lz
  induction i with
  |nil=>exact .nil
  |cons z i ih=>exact .cons rfl ih
 have dz:aj X.K W.bad o ((i.map (·.1)).map tupI) (i.map λz=>V.ref z.2):=by
  have Q9:∀z∈i,OZ X.K o z.2 (z.1.map V.int):=λz t=>den z (C.mem_iff.mp t)
  clear C sz hD lz I3
  induction i with
  |nil=>exact rfl
  |cons z i ih =>
   refine aj.cons (Den.tup (Q9 z RO) ?_) (ih λz t=>Q9 z (Pz _ t));show aj X.K W.bad o (z.1.map PD.D.int) (z.1.map V.int);generalize z.1=k
   induction k with
   |nil=>exact rfl
   |cons n k b=>exact aj.cons (Den.int n) b
 have b:=Inv.kno I3 aR;refine⟨D,_,_,_,rfl,I3,e1.trans (aw.upd nD),e1.free nD,b,aR,aj.apart nD b dz,q _ ⟨?_,λk=>?_⟩⟩;exact Zp.mpr sz;rw[(C.map (·.1)).mem_iff];exact m k
theorem Co{K:yac}{P:yak}{H:Hp}:∀k:yaf,aj K P H (k.map PD.D.int) (k.map V.int)
 |[]=>rfl
 |n::k=>aj.cons (Den.int n) (Co k)
end
end PD
namespace HT
open PySem PyProof.Rows
section
open PySem.SeqAt
open PySem.AutoSeq1 (wpAny_loadPart')
open PySem.MeetsSeq PySem.MeetsSeq2 PySem.MeetsSeq3
end
end HT
namespace PD
open PySem PySem.Spec PyProof.Rows L2
section
variable{X:Cx}{pos:Pos}
def Ie (G:X.calm=true):dD X (.builtin "min") (λds Q=>∃(t:Bool) (ns:yaf),ds=[.lst t (ns.map D.int)]/\0<ns.length/\∀m,m∈ns->(∀n∈ns,m<=n)->Q (.int m)):=by
 intro k s O H W ds U Y Q I tr r E q;obtain⟨t,ns,e,h,q⟩:=q;subst e;obtain⟨v,rfl,J⟩:=mM E;obtain⟨a,T,M,_,B,A⟩:=J.Q0;subst M;cases r with
 |cons u p =>
  cases p;cases u;obtain⟨N5,i,w,_⟩:=I.list B;rw[cQ A]at i;have l:=intsAre_of i;obtain⟨b,o⟩:=l.allInts.items;have C:s.heap.IsList a (intItems b):=by rw[<- o];exact w.isList
  have d:ns=b.toList.map (·.1):=by rw[<- l.numsOf,<- nums_intItems,<- o]
  have f:0<b.size:=by rw[d,N3,RS]at h;exact h
  refine min_intList (I.ok.hd G) C f λy h' tk z x=>?_
  obtain⟨tt,rfl⟩:=intItems_at z;obtain⟨g1,L⟩:=argBest_lt (numAt b) (b.size - 1);have g:∀j,j<b.size->b.toList.map (·.1) ≠ []->numAt b j∈ns:=λj c _=>by
   rw[d,numAt_eq];have:(b.toList.map (·.1))[j]?=some ((b.toList.map (·.1)).getD j 0):=by simp[c]
   exact Qh this
  refine⟨.int _,H,_,I.kept x,⟨_,rfl⟩,aw.refl H,Den.int _,q _ (g _ (by omega) (by rw[<- d];exact XH h)) λn m=>?_⟩;rw[d]at m;obtain⟨j,c,N⟩:=Vl m;have:numAt b j=n:=by rw[numAt_eq,<- N];simp only[Pg,OH c,zDG]
  rw[<- this];rw[N3,RS]at c;exact L j (by omega)
end
end PD
namespace SW
open PySem PySem.SetTable ST PySem.W PyProof.Rows
section
variable{prog:Program}{w:World}{A:Around}{E:yaa}{s:Shared}
structure NV(prog:Program)(w:World)(h:Heap)(a:Addr)(xs:List (Int×Tok)):Prop where
 ex:∃o es ep t,h.get? a=some o/\o.ExactSet/\o.data=.set es ep t/\es.toList=xs.map (λx=>((intKind prog w).hash x.1,Value.int x.1 x.2))/\Tab t (xs.map λx=>(intKind prog w).hash x.1)/\(t.plain=true/\t.led=!w.params.followText "set-order")/\7<=t.mask
 nd:(xs.map (·.1)).Nodup
theorem tW:∀ps:List (Int×Value),(∀p∈ps,∃t,p.2=Value.int p.1 t)->IntsAre (ps.map (·.2)) (ps.map (·.1))
 |[],_=>.nil
 |(k,v)::r,h=>by obtain⟨t,e⟩:=h (k,v) RO;have a:v=Value.int k t:=e;subst a;exact .cons _ _ (tW r λp a=>h p (Pz _ a))
theorem yQ:∀{vs:yad} {ns:yaf},IntsAre vs ns->∀p∈ns.zip vs,∃t,p.2=Value.int p.1 t
 |_,_,.nil,p,h=>by cases h
 |_,_,.cons _ _ r,p,h=>by
  rcases Ov.mp h with z|z;exact⟨_,by rw[z]⟩;exact yQ r p z
def Cs {vs:yad} {P:PySem.Fin->Shared->Prop} (e:s.heap.get? a=some (seqObj "list" vs.toArray n)) (hi:IntsAre vs ns) (m:vs.length<64)
  (u:∀h' (c:yad) (d:yaf) i,IntsAre c d->d.Perm ns->d.Pairwise (·<=·)->(∀b o,b≠a->s.heap.get? b=some o->h'.get? b=some o)->h'.get? a=some (seqObj "list" c.toArray i)->P (.done (.ret .none)) {s with heap:=h'}):wpAny (model prog w) A (Builtin.«list.sort» ⟨[.ref a],[]⟩) P E s:=by
 have t:ns.length=vs.length:=hi.length.symm;obtain⟨c,d⟩:∃c,(s.heap.update a (Obj.mapSeq λ_=>(#[]:yan))).get? a=some (seqObj "list" #[] c):=⟨_,get?_update_seq e λ_=>#[]⟩;rw[list_sort_plain];refine NY (listItems_at e rfl ?_);refine NY (listUpdate_at e rfl ?_ (by rw[RB,sizeLine_eq];lia) (QI _));refine NY (seqEpoch_at d rfl ?_);refine NY (wpAny_newTuple ?_ (by show vs.length<=_;rw[sizeLine_eq];lia));refine NY (wpAny_newList ?_ (QI _));refine SD ?_;have f:(((s.heap.update a (Obj.mapSeq λ_=>(#[]:yan))).push (seqObj "tuple" vs.toArray 0)).push (seqObj "list" #[] 0)).get? a=some (seqObj "list" #[] c):=Ph _ (Ph _ d);have Q1:∀b o,b≠a->s.heap.get? b=some o->(((s.heap.update a (Obj.mapSeq λ_=>(#[]:yan))).push (seqObj "tuple" vs.toArray 0)).push (seqObj "list" #[] 0)).get? b=some o:=λb o j e =>
  Ph _ (Ph _ ((Vj _ _ (Ne.symm j)).trans e))
 generalize ((s.heap.update a (Obj.mapSeq λ_=>(#[]:yan))).push (seqObj "tuple" vs.toArray 0)).push (seqObj "list" #[] 0)=H at f Q1 ⊢;have h:∀d:Array Keyed,d.Perm (vs.toArray.zip vs.toArray)->SortedTo d d.size->P (.done (.ret .none)) {s with heap:=H.update a (Obj.mapSeq λ_=>d.map (·.2))}:=λd g l=>by
  obtain⟨c,n,p,r⟩:=ksk_out (b:=false) (keys:=vs.toArray) (vs:=vs) (kz:=ns) hi g l;have k:d.map (·.2)=List.toArray (c.map Prod.snd):=by have:(d.map (·.2)).toList=c.map Prod.snd:=p;rw[<- this,Array.toArray_toList]
  have q:=yQ hi;rw[k];obtain⟨i,d⟩:∃i,(H.update a (Obj.mapSeq λ_=>List.toArray (c.map Prod.snd))).get? a=some (seqObj "list" (List.toArray (c.map Prod.snd)) i):=⟨_,get?_update_seq f λ_=>List.toArray (c.map Prod.snd)⟩;refine u _ (c.map Prod.snd) (c.map Prod.fst) i (tW c λp a=>q p (n.mem_iff.mp a)) ?_ (Zp.mpr r) (λb o j e=>(Vj _ _ (Ne.symm j)).trans (Q1 b o j e)) d;have:=n.map Prod.fst;rw[Yq (Nat.le_of_eq t)]at this;exact this
 dsimp only;have b:(vs.toArray.zip vs.toArray).size=vs.length:=by rw[Array.size_zip,RB,Nat.min_self]
 by_cases a:vs.toArray.size<2;rw[N4 a,N4 a];refine NY (wpAny_pure ?_);rw[StateT.run_pure];refine NY (wpAny_pure ?_);dsimp only;refine NY (seqEpoch_at f rfl ?_);refine NY (listUpdate_at f rfl ?_ (hsz2:=by rw[Array.size_map];rw[b,sizeLine_eq];lia));simp only[bne_self_eq_false,Ui,if_false];refine wpAny_pure (h (vs.toArray.zip vs.toArray) (Array.Perm.refl _) λi j Qv c=>?_);rw[b]at c;rw[RB]at a;have:i=j:=by lia
 subst this;exact RZ _;rw[N2 a,N2 a];rw[RB]at a;rw[ksk_kind (keys:=vs.toArray) hi (by rw[RB];lia)];refine NY (wpAny_pure ?_);refine NY (SV (wpS_sortRuns (a₀:=vs.toArray.zip vs.toArray) (st:=SortSt.mk' oneType' (vs.toArray.zip vs.toArray) #[] 7 none)
  (Q:=λ_ a=>(arrOf a).Perm (vs.toArray.zip vs.toArray)/\failedOf a=none/\SortedTo (arrOf a) (vs.toArray.zip vs.toArray).size)
  (ksk_intKeys (keys:=vs.toArray) hi) ⟨Array.Perm.refl _,rfl,rfl,rfl⟩ (by rw[b];lia) (by rw[b];exact m) λa i d c=>⟨i,d,c⟩) ?_ λ_ _ e=>e)
 rintro⟨⟨⟩,a⟩ x ⟨rfl,g,c,l⟩;dsimp only;refine NY (seqEpoch_at f rfl ?_);refine NY (listUpdate_at f rfl ?_ (QI _) (by rw[Array.size_map,g.size_eq,b,sizeLine_eq];lia));rw[c];simp;exact wpAny_pure (h (arrOf a) g (by rw[g.size_eq];exact l))
end
end SW
namespace PD
open PySem PySem.Spec PyProof.Rows L2
section
variable{X:Cx}{pos:Pos}
theorem gJ:∀{a:yad} {b:yaf},IntsAre a b->Vals (b.map V.int) a
 |_,_,.nil=>.nil
 |_,_,.cons n t r=>.cons ⟨t,rfl⟩ (gJ r)
theorem tF{K:yac}{P:yak}{H:Hp}:∀a:yaf,aj K P H (a.map D.int) (a.map V.int)
 |[]=>rfl
 |n::a=>aj.cons (Den.int n) (tF a)
end
section
variable{X:Cx}
abbrev DB:=(D->Prop)->Ro->Prop
def KD(t:DS)(u:DB):DB:=λQ a=>t {nx:=u Q,rt:=Q} a
def Mu(t:DS):DB:=λQ a=>t {nx:=λ_=>False,rt:=Q} a
end
def FL(K:yac)(x:Str)(st:Stmt):Prop:=∃(f:Addr) (e:Value) (d:Option Addr) (kV g c:Value) (i:Option Addr) (a h:Value) (b:Array (yam)),
 PySem.W.nsIn K mainGlobals x=some (some (.ref f))/\K.lookup f=some ⟨e,d,.func (PySem.W.fnOf x x (ft st) (cS st) (aq st) .none kV g c i a h),b⟩/\PySem.W.codeIn K a x=true/\PySem.W.keepIn K (.ref f)=true
def FL.mk{K:yac}{x:Str}{st:Stmt}{f:Addr}{j:Value}{i:Option Addr}{kV k h:Value}{m:Option Addr}{e l:Value}{g:Array (yam)}(a:PySem.W.nsIn K mainGlobals x=some (some (.ref f)))
  (b:K.lookup f=some ⟨j,i,.func (PySem.W.fnOf x x (ft st) (cS st) (aq st) .none kV k h m e l),g⟩) (c:PySem.W.codeIn K e x=true) (d:PySem.W.keepIn K (.ref f)=true):FL K x st:=⟨f,j,i,kV,k,h,m,e,l,g,a,b,c,d⟩
def Nu{c:Type}:∀{b:List c},b.length=1->∃a,b=[a]
 |[a],_=>⟨a,rfl⟩
def Nv{d:Type}:∀{c:List d},c.length=2->∃a b,c=[a,b]
 |[a,b],_=>⟨a,b,rfl⟩
def Nw{e:Type}:∀{d:List e},d.length=3->∃a b c,d=[a,b,c]
 |[a,b,c],_=>⟨a,b,c,rfl⟩
def Nx{f:Type}:∀{e:List f},e.length=4->∃a b c d,e=[a,b,c,d]
 |[a,b,c,d],_=>⟨a,b,c,d,rfl⟩
def Ny{g:Type}:∀{f:List g},f.length=5->∃a b c d e,f=[a,b,c,d,e]
 |[a,b,c,d,e],_=>⟨a,b,c,d,e,rfl⟩
def FL.has{K:yac}{x:Str}{st:Stmt}{h:Heap}{c:yal}{k:Nat}{ps:yah}{sp:DSp}(e:FL K x st)(P:Program)(w:World)(base:Heap)(X:K.In h)(G:h.Ns mainGlobals c)
  (n:∀{f:Addr} {g:FuncData},ay K x x st f g->aI P w K c base (CX1 P w) k f g ps (aL K sp))
  (r:∀(kV i d:Value) (m:Option Addr) (l j:Value) (b:yad),b.length=ps.length->bindArgs (PySem.W.fnOf x x (ft st) (cS st) (aq st) .none kV i d m l j) ⟨b,[]⟩=pure (ps.zip b):=by
   intro _ _ _ _ _ _ b a
   first
    |(obtain⟨_,rfl⟩:=Nu a;rfl)
    |(obtain⟨_,_,rfl⟩:=Nv a;rfl)
    |(obtain⟨_,_,_,rfl⟩:=Nw a;rfl)
    |(obtain⟨_,_,_,_,rfl⟩:=Nx a;rfl)
    |(obtain⟨_,_,_,_,_,rfl⟩:=Ny a;rfl)
    |(cases Yf a;rfl)):O4 P w K c base x k ps sp:=by
 obtain⟨f,q,p,kV,i,d,m,l,j,o,a,b,c,d⟩:=e;exact⟨f,_,n (Bf b c d),PySem.W.mg_of X G a,d,.all (by simp_all)⟩
end PD
namespace HT
open PySem PyProof.Rows
section
open PySem.SeqAt
open PySem.AutoSeq1 (wpAny_loadPart')
open PySem.MeetsSeq PySem.MeetsSeq2 PySem.MeetsSeq3
end
end HT
namespace PD
open PySem PySem.Spec PyProof.Rows L2 PZ
def ESt(e b l:Addr)(i:Nat)(h:Heap):Prop:=(∃a,IsEnum h e b (i:Int) a)/\h.IsListIter b l i
def Ite(K:yac)(a:Addr):It :=
 ⟨λi H=>∃b x,SqL K H a b/\b[i]?=some x,
  λi H v c=>∃T x,v=.ref T/\H T=none/\c=L2.upd H T (.tup [.int (i:Int),x])/\∀b,SqL K H a b->b[i]?=some x,
  λi H=>∃b,SqL K H a b/\b[i]?=none⟩
def Fh{P:Program}{w:World}{K:yac}{es:yai}{c:Nat}{b:Pos}(a e d:Addr)(D:e≠d) :
  Turn P w K (.Tuple es c b) (Ite K a) [e,d] e (λi h=>ESt e d a i h) where
 mem:=by simp
 obj:=λi h st c b=>by
  obtain⟨⟨f,l⟩,g⟩:=st;simp only[Ov,RP,or_false]at b;rcases b with q|q<;>subst q;exact⟨_,l,λv q=>by cases q⟩;obtain⟨o,j,_,k⟩:=g;exact⟨o,j,λv q=>by rw[k]at q;cases q⟩
 keep:=λi h h' st y=>by obtain⟨⟨f,l⟩,g⟩:=st;obtain⟨o,j,r⟩:=g;exact⟨⟨f,y e (by simp) _ l⟩,o,y d (by simp) _ j,r⟩
 item:=by
  intro X O J Q b i A s σ H E I t st N;subst O J Q;obtain⟨xs,x,j,M⟩:=N;obtain⟨us,B,G⟩:=S6.list (k:=true) I j;obtain⟨u,g,ru⟩:=B.get M;obtain⟨⟨f,l⟩,p⟩:=st;refine wpAny_pyNext_enum_item l p G (x:=u) (by simpa using g) D λh' g C z sz' y=>⟨_,rfl,wpAny_letOwnedTupleGo_enum g λm U sb=>?_⟩
  have g:s.heap.objs.size<=s.heap.objs.size:=OP _;have L:s.heap.objs.size≠e:=Uc (OI l);obtain⟨oi,n,ri⟩:=id p;have T:s.heap.objs.size≠d:=Uc (OI n);have w:H s.heap.objs.size=none:=I.Om.fresh g;have g:∀c o,c ∉ [e,d]->s.heap.get? c=some o->m.get? c=some o:=λc o n q=>by simp at n;exact sb.extBut c o n.1 (y c o n.1 n.2 q)
  have Y:ESt e d a (i+1) m:=by
   refine⟨⟨u,?_⟩,?_⟩;have:((i+1:Nat):Int)=(i:Int)+1:=by lia
   rw[this];exact U;obtain⟨o,j,r⟩:=C;exact⟨o,sb.extBut _ o (Ne.symm D) j,r⟩
  have C:m.get? s.heap.objs.size=some {cls:=.type "tuple", data:=.seq #[.int i s.toks,u]}:=sb.extBut _ _ L z;have lo:∀c ∈ [e,d],c≠s.heap.objs.size:=λc b=>by
   simp only[Ov,RP,or_false]at b;rcases b with q|q<;>subst q;exact Ne.symm L;exact Ne.symm T
  refine⟨.ref s.heap.objs.size,L2.upd H s.heap.objs.size (.tup [.int (i:Int),x]),?_,rfl,⟨_,x,rfl,w,rfl,λxs' q=>by rw[I.Sd q j];exact M⟩,Y,λc b=>by rw[aC (lo c b)];exact(t c b).1⟩;have x:∀c o,H c=some o->c ∉ [e,d]:=λc o q b=>by have:=(t c b).1;rw[q]at this;cases this
  refine L2.Inv.step (s:=s) (h':=m) (g':=s.gens) (d':=s.drawn) (t':=s.toks+1) (ch:=[e,d]) I (λc b=>?_) (λc o _ _ n q _=>g c o n q) (λc o _ _ n q _=>⟨o.slots,g c o n q⟩) (λc o _ q n=>by rw[aC (PN (OI q))];exact n) (λc o n q=>⟨o,g c o n q⟩)
   (λc ls q=>by rw[aC (bf q w)];exact q) (λc o ls q=>by rw[aC (bf q w)];exact q) (λc ps q=>⟨#[],by rw[aC (bf q w),q];simp⟩) (λm M=>?_) (λc o q=>?_) I.bare
  obtain⟨f0,f1,f2,Y,U,T⟩:=t c b;exact⟨Y,f1,U,T⟩;obtain⟨o,RQ,ep,L,r⟩:=M;exact⟨o,RQ,ep,g _ o (λq=>(t _ q).2.1 rfl) L,r⟩;by_cases a:c=s.heap.objs.size;subst a;rw[aR]at q;cases q;exact⟨by rw[sizeLine_eq];show 2<=16777216;decide,[.int i s.toks,u],.cons ⟨_,rfl⟩ (.cons ru .nil),⟨_,C,rfl,_,rfl⟩⟩;rw[aC a]at q;refine(I.Om c o q).Sa (λd' a u z=>g d' a ?_ z) (λd' z=>by rw[aC (bf z w)];exact z) λd' ls z=>by rw[aC (bf z w)];exact z
  rcases u with q'|q';rw[q'];exact x c o q;exact x d' _ q'
 done:=by
  intro X O J Q b i A s σ H E I t st N;subst O J Q;obtain⟨xs,j,i⟩:=N;obtain⟨us,B,G⟩:=S6.list (k:=true) I j;obtain⟨⟨f,l⟩,p⟩:=st;refine wpAny_pyNext_enum_end (I.ok.hd b) l p G (by simpa using B.none_of i) λh' y=>⟨rfl,?_⟩
  have g:∀c o,c ∉ [e,d]->s.heap.get? c=some o->h'.get? c=some o:=λc o n q=>by simp at n;exact y c o n.2 q
  have x:∀c o,H c=some o->c ∉ [e,d]:=λc o q b=>by have:=(t c b).1;rw[q]at this;cases this
  refine L2.Inv.step (s:=s) (h':=h') (g':=s.gens) (d':=s.drawn) (t':=s.toks) (ch:=[e,d]) I (λc b=>?_) (λc o _ _ n q _=>g c o n q) (λc o _ _ n q _=>⟨o.slots,g c o n q⟩) (λ_ _ _ _ n=>n) (λc o n q=>⟨o,g c o n q⟩) (λ_ _ q=>q) (λ_ _ _ q=>q) (λc ps q=>⟨#[],by rw[q];simp⟩) (λm M=>?_) (λc o q=>?_) I.bare;obtain⟨f0,f1,f2,Y,U,T⟩:=t c b;exact⟨Y,f1,U,T⟩;obtain⟨o,RQ,ep,L,r⟩:=M;exact⟨o,RQ,ep,g _ o (λq=>(t _ q).2.1 rfl) L,r⟩;refine(I.Om c o q).Sa (λd' a u z=>g d' a ?_ z) (λ_ z=>z) λ_ _ z=>z
  rcases u with q'|q';rw[q'];exact x c o q;exact x d' _ q'
 self:=λ_ _ _ _ _ st h=>by obtain⟨⟨f,l⟩,_⟩:=st;exact wpAny_pyIter_enum l h
section
variable{X:Cx}
def mT:Nat->yar->yar
 |_,[]=>[]
 |n,d::r=>.tup [.int (n:Int),d]::mT (n+1) r
theorem o5:∀(n:Nat) (ds:yar),(mT n ds).length=ds.length
 |_,[]=>rfl
 |n,d::r=>by rw[mT,Rl,o5 (n+1) r,Rl]
theorem oZ:∀(n:Nat) (ds:yar) (i:Nat) (d:D),ds[i]?=some d->(mT n ds)[i]?=some (.tup [.int ((n+i:Nat):Int),d])
 |_,[],_,_,h=>by cases h
 |n,x::r,0,d,h=>by
  cases h;rfl
 |n,x::r,i+1,d,h=>by
  rw[mT,List.getElem?_cons_succ,oZ (n+1) r i d h]
  lia
def Hr(b:DA):DA:=λa R=>b a λb=>∃t a,b=[.lst t a]/\R (mT 0 a)
def IF {es:yai} {d:Nat} {c:Pos} {a:Expr} {b:DA} {p pos:Pos} (f:Gl X "enumerate") (e:X.mg "enumerate" = none) (g:S4 X [a] b) (hs:starEach [a] X.env=(false,eval a X.env)::starEach [] X.env:=by rfl) (i:(backTo pos (starEach [] X.env)).any (·.1)=false:=by rfl) :
  Ug X (.Tuple es d c) (.Call (.Name "enumerate" p) [a] [] pos) (Hr b):=by
 intro a s b H W c R I r h;refine Call_ (cH I f e boot_enumerate (PyProof.Rows.callWith_type1 (Oa (g pos a s b H W c _ I r h) λz a b=>?_) hs i));obtain⟨u,p,ds,d,g,m,f,c⟩:=b;obtain⟨t,b,e,q⟩:=c;subst e;obtain⟨w,B,rfl,k,rfl⟩:=f;obtain⟨l,f,i,c,h,o⟩:=k.seq (k:=true) (ds:=b) rfl;subst i;cases g with
 |cons i g =>
  cases g;cases i;obtain⟨n,_,g⟩:=S6.list (k:=true) d c;refine call_enumerate_list g λE c i A g=>?_
  refine wpAny_pyIter_enum c ?_;refine⟨a.heap.objs.size+1,[a.heap.objs.size+1,a.heap.objs.size],_,_,p,_,rfl,d.kept (t':=a.toks) g,m,Fh l _ _ (by simp),⟨⟨_,c⟩,i⟩,λc g=>?_,?_,q⟩;have i:a.heap.objs.size<=c:=by
   simp only[Ov,RP,or_false]at g;rcases g with q|q<;>subst q;exact XR _ _;exact OP _
  exact d.VP i (d.Om.fresh i);intro d a k m p i;have c:SqL X.K a l f:=o d a k m;have C:=h.len;have j:=o5 0 b;refine⟨λd=>?_,λv H3 y d=>?_,λd=>⟨f,c,Yk (by lia)⟩⟩;obtain⟨x,g,_⟩:=h.get (i:=i) (d:=b[i]'(by lia)) (by simp);exact⟨f,x,c,g⟩;obtain⟨T,x,e,l,d,g⟩:=y;subst e d;obtain⟨d,e,o⟩:=h.bF (g f c);have sm:aw a (L2.upd a T (.tup [.int (i:Int),x])):=aw.upd l;refine⟨sm,.tup [.int (i:Int),d],by rw[oZ 0 b i d e,UM],Den.tup (OZ.of aR) (aj.cons (Den.int _) (aj.one ((Den.map k m p d x o).same sm)))⟩
end
end PD
namespace SW
open PySem PySem.SetTable ST PySem.W PyProof.Rows L2
section
variable{prog:Program}{w:World}{A:Around}{E:yaa}{s:Shared}
theorem rP:∀{vs:yad} {ns:yaf},vs.length=ns.length->(∀(j:Nat) (v:Value),vs[j]?=some v->∃n t,ns[j]?=some n/\v=Value.int n t)->IntsAre vs ns
 |[],[],_,_=>.nil
 |v::vs,n::ns,h,k=>by obtain⟨m,t,e,a⟩:=k 0 v rfl;cases(show n=m from SA e);subst a;exact .cons n t (rP (Nat.succ.inj h) λj u a=>k (j+1) u a)
def zH{a:Addr}{ks:yaf}{Q:yaa}(i:A.handled=none)(j:(a==sysModules)=false)(dd:s.heap.DictOf (bW prog w) a kvs)(n:kvs.map (·.1)=ks.map Sum.inl)(z:ks.length<64)
  (u:∀(d:Heap) (l:Nat) s' (f:yad) (g:yaf) c,(∀b o,s.heap.get? b=some o->d.get? b=some o)->(∀b o,d.get? b=some o->s'.heap.get? b=some o)->s'.gens=s.gens->s'.drawn=s.drawn->s'.os=s.os->IntsAre f g->g.Perm ks->g.Pairwise (·<·) →
   s'.heap.get? d.objs.size=some (seqObj "list" f.toArray c)->Q (.ref d.objs.size) s'):wpAny (model prog w) A (call (.builtin "sorted") [.ref a]) Q E s:=by
 obtain⟨o,q,ep,e,c,a,p,k,h⟩:=dd;have lk:kvs.length=ks.length:=by have:=congrArg List.length n;simpa using this
 refine Calls.call_function_entry kind_sorted plain_sorted entry_sorted (args_sorted1 _) ?_;refine NY (m:=checkCount "sorted" 1 1 _) (wpAny_pure ?_);refine NY (PySem.W.kdu_collect (PySem.W.kdl_dict (knd:=bW prog w) (kvs:=kvs) (ep:=ep) j) (show A.in1.handled=none from i) ⟨o,q,e,c,a,p,k,h⟩ (by rw[sizeLine_eq];lia) λd l a p c=>?_);have m:a.toList.length=ks.length:=by rw[RS,c.1,lk]
 have r:IntsAre a.toList ks:=rP m λj v i=>by
  obtain⟨k,x,e,q⟩:=c.2 j v (by simpa using i);have G:(kvs.map (·.1))[j]?=some k:=by rw[Pw,e];rfl
  rcases bZ (show mY k v=true from q)with⟨i,t,c,C⟩| ⟨y,t,c,_⟩
  all_goals simp_all
 have c:ks.Nodup:=by rw[n]at h;exact(Zp.mp h).imp λh e=>h (by rw[e])
 refine NY (wpAny_newList ?_ (by rw[m,sizeLine_eq];lia));have h:(d.push (seqObj "list" a.toList.toArray 0)).get? d.objs.size=some (seqObj "list" a.toList.toArray 0):=Q7 _ rfl;have m:∀b o,d.get? b=some o->(d.push (seqObj "list" a.toList.toArray 0)).get? b=some o:=λb o e=>Ph _ e
 refine NY (SD (U0 slot_list_sort ⟨_,h,rfl⟩ entry_list_sort ?body (args_list_sort _)))
 case body =>
  refine Cs (s:={s with heap:=d.push (seqObj "list" a.toList.toArray 0),toks:=l}) h r (by lia) λB f g k i a h Q1 j=>?_
  refine⟨_,rfl,wpAny_pure ⟨_,rfl,u d l _ f g k p (λb o e=>?_) rfl rfl rfl i a ?_ j⟩⟩;exact Q1 b o (PN (OI e)) (m b o e);have b:g.Nodup:=a.nodup_iff.mpr c;exact(h.and b).imp fun {x y} q=>by lia
end
end SW
namespace PD
open PySem PySem.Spec PyProof.Rows L2
section
variable{X:Cx}{pos:Pos}
def A0(i:Nat):DS:=λE a=>E.nx (a.set i (some (.ob (.dk []))))
def DZ{x:Str}(i:Nat)(f:X.N.Nodup)(hi:X.N[i]?=some x:=by rfl)(d:Loc X.env.scope x:=by first|exact Or.inl rfl|exact Or.inr rfl)(hs:swapsWith (.Dict [] [] dpos) (some (.Name x pos')) pos.line X.env=pure false:=by rfl)
  (e:X.fn x=true∨X.env.scope.names.lookup x=some .local:=by first|exact .inl rfl|exact .inr rfl|assumption):Rq X (.Assign [.Name x pos'] (.Dict [] [] dpos) pos) (A0 i):=by
 intro b s h H W j E I r q;have c:=I.Om.fresh (OP s.heap.objs.size);have g:=I.laid (a:=s.heap.objs.size) (o:=.dK []) (h':=s.heap.push {cls:=.type "dict", data:=.dict #[]}) (t':=s.toks) (λ_ _ q=>Ph _ q) (OP _) (F8 s.heap I.big);refine wpAny_Assign_Name (wpAny_Dict_empty ?_) hs;have a:=r.putG (x:=.dk []) (Inv.Xi I hi) (H':=L2.upd H s.heap.objs.size (.dK [])) (aw.upd c) c (Inv.QQ I) aR (.dk rfl aj.nil);exact gF (v:=.ref s.heap.objs.size) g f hi d rfl (λk c=>⟨_,_,_,c,a.2,_,a.1,q⟩) e
def Hv(i:Nat)(b te:DE):DS:=λE c=>∃a,c[i]?=some (some (.ob (.dk a)))/\te c λd=>b c λk=>∃b:Key,k=Gr b/\a.length<sizeLine/\E.nx (c.set i (some (.ob (.dk (putD a b d)))))
def Ik {x:Str} (i:Nat) (c:X.A.units+1<cLine) (f:Oo X b tb) (d:Oo X e te) (g:X.N[i]?=some x:=by rfl) (a:VM X.env.scope x:=by first|exact Or.inl rfl|exact Or.inr (Or.inl rfl)|exact Or.inr (Or.inr rfl)) (j:(x==("__debug__" : Str))=false:=by decide)
  (h:(x==("__classdict__" : Str))=false:=by decide) (hs:swapsWith e (some (.Subscript (.Name x px) b tpos)) pos.line X.env=pure false:=by rfl):Rq X (.Assign [.Subscript (.Name x px) b tpos] e pos) (Hv i tb te):=by
 refine Rq.of (Jq c (kA g a j h) f.pe d.pe hs) λt H W c E r y h=>?_
 obtain⟨p,l,h⟩:=h;obtain⟨a,b,n,i,k,m,s⟩:=r.YY l;refine⟨W,c,_,r,h,λv H1 d d j q=>⟨.ref a,i,W,c,_,r.same d,q,λu H2 A c g e=>?_⟩⟩;obtain⟨f,rfl,w,e⟩:=e;have z:=A7 g;subst z;have o:b.length<sizeLine:=by have:=congrArg List.length m;simp at this;lia
 have b:=c _ _ (d _ _ k);obtain⟨h,g⟩:=Jr (k:=f) m (s.same (d.trans c)) (j.same c);obtain⟨f,j⟩:=((r.same d).same c).mutG l n i b True.intro (.dk h g);exact⟨a,_,rfl,xx.k b o,W,_,(OK.same (d.trans c)).trans j,f,e⟩
def Hq(i:Nat)(tb c:DE):DE:=λb Q=>∃a,b[i]?=some (some (.ob (.dk a)))/\tb b λk=>c b λz=>∃b:Key,k=Gr b/\Q ((dH a b).getD z)
def Ij {x:Str} {a:Pos} (i:Nat) (d:X.A.units+1<cLine) (g:Oo X b tb) (e:Oo X f tf) (h:X.N[i]?=some x:=by rfl) (c:VM X.env.scope x:=by first|exact Or.inl rfl|exact Or.inr (Or.inl rfl)|exact Or.inr (Or.inr rfl)) (j:(x==("__debug__" : Str))=false:=by decide)
  (k:(x==("__classdict__" : Str))=false:=by decide) (m:M2 X (.Name x px) "get" a b f pos:=by exact⟨rfl,rfl,rfl,rfl⟩):Oo X (.Call (.Attribute (.Name x px) "get" a) [b,f] [] pos) (Hq i tb tf):=by
 refine Oo.of (GO d (kA h c j k) g.pe e.pe m) λn H W f Q r h=>?_
 obtain⟨g,d,h⟩:=h;obtain⟨a,b,s,c,k,e,m⟩:=r.YY d;refine⟨.ref a,c,a,rfl,.inl ⟨b,.inl k⟩,W,f,_,r,h,λv H1 d c j q=>⟨W,f,_,r.same c,q,λo H2 t i h f=>?_⟩⟩;obtain⟨a,rfl,f⟩:=f;have z:=A7 j;subst z;refine⟨d6 b a,oD.k (i _ _ (c _ _ k)),c.trans i,_,?_,f⟩;cases l:dH g a with
 |none=>rw[ze e m l];exact h
 |some d =>
  obtain⟨p,b,a⟩:=va e m l;rw[b];exact a.same (c.trans i)
theorem Fv{a b:Type}:∀{ks:List a} {kvs:List (a×b)},kvs.map (·.1)=ks->kvs=ks.zip (kvs.map (·.2))
 |[],[],_=>rfl
 |k::ks,p::r,h=>by have b:p.1=k:=(List.cons.inj h).1;have a:=Fv (List.cons.inj h).2;show p::r=(k,p.2)::ks.zip (r.map (·.2));rw[<- a,<- b]
def Rel.Xw{i:Nat}{ks:yaf}{ds:yar}(r:Rel X W H σ ρ)(b:ds.length=ks.length)(e:ρ[i]?=some (some (.ob (.dk ((ks.map Sum.inl).zip ds))))) :
  ∃ a kws,H a=some (.dK kws)/\∀ob,Rel X (W.drop i) (L2.upd H a (.frz ob (.dK kws))) σ (ρ.set i (some (.val (.R4 ks ds))))/\OK W H (W.drop i) (L2.upd H a (.frz ob (.dK kws))):=by
 obtain⟨a,kws,m,y,c,w,G⟩:=r.YY e;refine⟨a,kws,c,λob=>?_⟩;have g:jt (HO.dK kws):=True.intro;have o:NT (HO.frz ob (.dK kws)):=True.intro;have lk:((ks.map Sum.inl:List Key).zip ds).map (·.1)=ks.map Sum.inl:=Yq (by rw[N3,b];exact OP _);have d:((ks.map Sum.inl:List Key).zip ds).map (·.2)=ds:=List.map_snd_zip (by rw[N3,b];exact OP _);rw[lk]at w;rw[d]at G;have h:i<σ.length:=(Ql.mp y).1;have A:i<ρ.length:=(Ql.mp e).1;have f:∀t,W.bad t a:=λ_=>.inr (.inl ⟨i,m⟩)
 have E:∀b d,OZ X.K H b d->OZ X.K (L2.upd H a (.frz ob (.dK kws))) b d:=λb d q=>q.imp (λq=>by rw[aC (qJ q c (by intro z;cases z))];exact q) id
 have C:∀t b d,¬W.bad t b->QG X.K H t b d->¬W.bad t b/\QG X.K (L2.upd H a (.frz ob (.dK kws))) t b d:=λt b d n q=>by
  have l:b≠a:=λe=>n (e ▸ f t)
  refine⟨n,?_,λz=>⟨by rw[aC l];exact(q.2 z).1,(q.2 z).2⟩⟩;rcases q.1 with(q|⟨u,q⟩)|q;exact .inl (.inl (by rw[aC l];exact q));exact .inl (.inr ⟨u,by rw[aC l];exact q⟩);exact .inr q
 have B:∀b u,Wq u->H b=some u->L2.upd H a (.frz ob (.dK kws)) b=some u:=λb u n q=>by rw[aC (qJ q c (by intro z;subst z;exact g.sol n))];exact q
 have s:∀j k b,W.sub σ.length j k=some b->(W.drop i).sub σ.length j k=some b/\∀f,H b=some (.lst f)->L2.upd H a (.frz ob (.dK kws)) b=some (.lst f):=λj k b q=>⟨Own.Sf h k b q,λf z=>by rw[aC (λe=>ql h (r.inj _ _ a (by rw[<- e];exact q) m))];exact z⟩
 have t:∀b u,H b=some u->∃f,L2.upd H a (.frz ob (.dK kws)) b=some f:=λb u q=>by by_cases f:b=a;subst f;exact⟨_,aR⟩;exact⟨u,by rw[aC f];exact q⟩
 have z:∀{ds:yar} {vs:yaq},aj X.K W.bad H ds vs->aj X.K (W.drop i).bad (L2.upd H a (.frz ob (.dK kws))) ds vs:=λq=>(aj.map E C B _ _ q).OB λ_ _=>Own.O8
 refine⟨⟨λj x h=>?_,λj x h=>?_,λj k b f n=>?_,λj b f=>?_,λj b f=>?_,λb p=>let ⟨u,q⟩:=r.bt b p;t b u q,λb p=>let ⟨u,q⟩:=r.st b p;t b u q,r.ent.ins (r.ke i a m) c g o,r.tab.upd o (.inr ⟨_,c,g.ne,g.nt⟩)⟩,(OK.upd m c g o).trans (OK.drop W _ i)⟩;by_cases c:j=i;subst c;rw[XI A]at h;cases h;have g:(kws.map (·.2)).length=ks.length:=by rw[N3];have:=congrArg List.length w;simpa using this
 refine⟨.ref a,y,Den.R4 (o:=ob) (vs:=kws.map (·.2)) ?_ g (z G)⟩;rw[<- Fv w];exact aR;rw[TC (Ne.symm c)]at h;obtain⟨w,f,n⟩:=r.val j x h;exact⟨w,f,(Den.map E C B _ _ n).OB λ_ _=>Own.O8⟩;by_cases c:j=i;subst c;rw[XI A]at h;cases h;rw[TC (Ne.symm c)]at h;obtain⟨b,d,f,n,o,g⟩:=r.own j x h;have l:b≠a:=λe=>c (r.inj j i a (by rw[<- e];exact f) m)
 exact⟨b,d,by show(if j=i then none else W.O j)=_;rw[N2 c];exact f,n,by rw[aC l];exact o,g.map (λ_ _ q=>z q) (s _)⟩;have c:(if j=i then none else W.O j)=some b:=f;have h:(if k=i then none else W.O k)=some b:=n;by_cases g:j=i;rw[N4 g]at c;cases c;by_cases n:k=i;rw[N4 n]at h;cases h;rw[N2 g]at c;rw[N2 n]at h;exact r.inj j k b c h;have c:(if j=i then none else W.O j)=some b:=f;by_cases g:j=i;rw[N4 g]at c;cases c;rw[N2 g]at c;obtain⟨o,n,d,k,h⟩:=r.kn j b c;have l:b≠a:=λe=>g (r.inj j i a (by rw[<- e];exact c) m)
 exact⟨o,n,d,by rw[aC l];exact k,h⟩;have c:(if j=i then none else W.O j)=some b:=f;by_cases g:j=i;rw[N4 g]at c;cases c;rw[N2 g]at c;exact r.ke j b c
def F2(i:Nat)(t:DS):DS:=λE c=>∃(a:yaf) (b:yar),b.length=a.length/\c[i]?=some (some (.ob (.dk ((a.map Sum.inl).zip b))))/\t E (c.set i (some (.val (.R4 a b))))
def Am(i:Nat)(h:c9 X sts t):c9 X sts (F2 i t):=by intro b s j H W u E I r g;obtain⟨w,x,d,e,g⟩:=g;obtain⟨a,c,l,k⟩:=r.Xw d e;obtain⟨z,q,n,d,m⟩:=Hy I.Om l;have f:=m;obtain⟨o,_,_,e,_⟩:=f;obtain⟨p,f⟩:=k o;have k:Inv X b j (L2.upd H a (.frz o (.dK c))) s:=uV (ob:=.frz o (.dK c)) (h':=s.heap) (t':=s.toks) I (by rw[l];exact True.intro) (Heap.SameBut.refl _ _) ⟨o,e⟩ ⟨e,z,q,n,d,m⟩;exact Oa (h b s j _ (W.drop i) _ E k p g) λ_ _ z=>z.up f
def Kv(b tb:DE):DE:=λa Q=>b a λx=>tb a λk=>∃(a:yaf) (b:yar) (n:Int) (d:D),x=.R4 a b/\k=.int n/\b.length=a.length/\dH ((a.map Sum.inl:List Key).zip b) (.inl n)=some d/\Q d
def KH(B:X.A.units+1<cLine)(I:Oo X a ta)(G:Oo X b tb)(hs:FG b:=by intro _ _;rfl):Oo X (.Subscript a b pos) (Kv ta tb):=by
 refine Oo.of (Jm B I.pe G.pe hs) λN H W k Q r h=>?_
 refine⟨W,k,_,r,h,λv H1 d s E q=>⟨W,k,_,r.same s,q,λO H2 T i g e=>?_⟩⟩;obtain⟨d,j,n,L,rfl,rfl,m,lk,e⟩:=e;obtain⟨c,o,kws,q,J,C,p,l,M⟩:=E.Xe;have z:=g.O6;subst J z;have y:((d.map Sum.inl:List Key).zip j).map (·.1)=d.map Sum.inl:=Yq (by rw[N3,m];exact OP _);have x:((d.map Sum.inl:List Key).zip j).map (·.2)=j:=List.map_snd_zip (by rw[N3,m];exact OP _);have w:kws.map (·.1)=d.map Sum.inl:=by rw[p];exact Yq (by rw[N3,l];exact OP _)
 have u:kws.map (·.2)=q:=by rw[p];exact List.map_snd_zip (by rw[N3,l];exact OP _)
 obtain⟨t,A,f⟩:=va (kws:=kws) (w.trans y.symm) (by rw[x,u];exact M) lk;exact⟨c,t,rfl,.inl ⟨kws,.inl n,.inr ⟨o,i _ _ C⟩,rfl,A.symm⟩,s.trans i,L,f.same i,e⟩
def DQ(te:DE):DA:=λa Q=>te a λx=>∃(b:yaf) (a:yar),x=.R4 b a/\b.length<64/\∀a:yaf,a.Perm b->a.Pairwise (·<·)->Q (a.map D.int)
def F7 {p:Pos} (t:X.calm=true) (g:Gl X "sorted") (d:X.mg "sorted" = none) (i:Oo X e te)
  (b:starEach [e] X.env=(false,eval e X.env)::starEach [] X.env:=by rfl) (j:(backTo pos (starEach [] X.env)).any (·.1)=false:=by rfl) :
  UW X (.Call (.Name "sorted" p) [e] [] pos) (DQ te):=by
 intro a s f H W c Q I r h;refine Vn (cH I g d boot_sorted ?_ (by decide) (by decide));refine PyProof.Rows.callWith_builtin1 ?_ b j;rw[b];show wpAny _ _ (spliced ((false,eval e X.env)::backTo pos (starEach [] X.env))) _ _ s;refine Calls.spliced_cons (Oa (i a s f H W c _ I r h) λu k g=>?_);obtain⟨v,j,d,i,b,n,e,h,A,c,lk,q⟩:=g;subst c;obtain⟨c,o,d,w,m,l,o,g,Pf⟩:=e.Xe;subst m;cases b;refine wpAny_pure ?_;have m:=i.ok.hd t;obtain⟨_,z,e,x,b,p⟩:=i.Om c _ l;have c:d.map (·.1)=h.map Sum.inl:=by rw[o];exact Yq (by rw[N3,g];exact OP _)
 refine SW.zH m e p (by rw[<- b.keys];exact c) lk λc o b d g t p u m e g3 h l sm r=>?_
 have s:b={k with heap:=b.heap,toks:=b.toks}:=by cases b;dsimp only at m e g3 ⊢;subst m e g3;rfl
 have m:L2.Inv X a f j {k with heap:=c,toks:=o}:=i.kept p;have e:j c.objs.size=none:=m.Om.fresh (OP _);have y:=l.length_eq;have i:L2.Inv X a f (L2.upd j c.objs.size (.lst (g.map V.int))) b:=by rw[s];exact m.laid (t':=b.toks) (h':=b.heap) u (OP _) ⟨by rw[N3,sizeLine_eq];lia,d,t,gJ h,r⟩
 have a:=Inv.kno i aR;exact⟨c.objs.size,_,_,_,rfl,i,n.trans (aw.upd e),n.free e,a,aR,aj.apart e a (tF g),q g l sm⟩
end
end PD
namespace PZ
open PySem PySem.Spec PyProof.Rows
def Y4 (h:Heap) (z TI TO a:Addr) (f:Bool):Prop:=h.get? z=some {cls:=.type "zip", dict:=none,data:=.fields #[rawInt a,.bool f,.bool false,.ref TI,.ref TO],slots:=#[]}
section
variable{prog:Program}{w:World}{A:Around}{E:yaa}{s:Shared}{k1 k2:Bool}{z TI TO i1 i2 l1 l2 a:Addr}{f:Bool}{i:Nat}{xs ys:yan}{oa:Obj}
def yN{Q:Bool->Shared->Prop}(hz:Y4 s.heap z TI TO a f)(b:s.heap.get? a=some oa)(h:∀g,Y4 g z TI TO a true->Heap.SameBut z s.heap g->Q false {s with heap:=g}):wpAny (model prog w) A (Builtin.SmallTypes.ownedTupleIsFree (.ref z)) Q E s:=by
 refine NY (R9 hz rfl (x:=rawInt a) rfl ?_);show wpAny _ _ (loadIfAlive ((a:Int).toNat) >>= _) _ _ _;refine NY (PySem.W.kdx_alive b ?_);refine NY (R9 hz rfl (x:=.bool f) rfl ?_);cases f with
 |true=>simp_all [N2,wpAny_pure,Heap.SameBut.refl]
 |false=>exact NY (Yn hz (by simp) λg (c:Y4 g z TI TO a true) b=>wpAny_pure (h g c b))
def Ft{x y:Value}{Q:yam->Shared->Prop}(D:Ap z TI TO i1 i2)(r:Out z TO i1 i2 l1)(j:Out z TO i1 i2 l2)(hz:Y4 s.heap z TI TO a f)(d:s.heap.get? a=some oa)(l:IsPair s.heap TI (.ref i1) (.ref i2))(m:RD k1 s.heap i1 l1 i)(B:RD k2 s.heap i2 l2 i)
  (g:QV k1 s.heap l1 xs) (q:QV k2 s.heap l2 ys) (h:xs[i]?=some x) (t:ys[i]?=some y)
  (u:∀h',Y4 h' z TI TO a true->IsPair h' TI (.ref i1) (.ref i2)->RD k1 h' i1 l1 (i+1)->RD k2 h' i2 l2 (i+1)->IsPair h' s.heap.objs.size x y->(∀c o,c≠z->c≠i1->c≠i2->s.heap.get? c=some o->h'.get? c=some o)->Q (some (.ref s.heap.objs.size)) {s with heap:=h'}):wpAny (model prog w) A (pyNext (.ref z)) Q E s:=by
 have b:s.TypeIs (.ref z) "zip" := ⟨_,hz,rfl⟩;refine NY (XW (WN (name:=Str.ofString "__next__") b F.slot_zip_next (U0 F.slot_zip_next b F.entry_zip_next ?_ (F.args_zip_next_1 _))));show wpAny _ _ (field (.ref z) 2 >>= _) _ _ _;refine NY (R9 hz rfl (x:=.bool false) rfl ?_);refine NY (R9 hz rfl (x:=.ref TI) rfl (NY (U1 l rfl ?_)));refine NY (yN hz d λd p k=>?_);simp only[Ui,if_false];have b:∀c o,c≠z->s.heap.get? c=some o->d.get? c=some o:=λc o n e=>k.extBut c o n e
 refine NY (NY (NY (SD ?_)));refine NY (t8 (s:={s with heap:=d}) (m.of λo e=>b _ o D.a3 e) (g.of λo e=>b _ o r.c1 e) h λh r g=>wpAny_pure (wpAny_pure ?_));have d:∀c o,c≠z->c≠i1->s.heap.get? c=some o->h.get? c=some o:=λc o n m e=>g.extBut c o m (b c o n e)
 refine NY (NY (SD ?_));refine NY (t8 (s:={s with heap:=h}) (B.of λo e=>d _ o D.a4 (Ne.symm D.b1) e) (q.of λo e=>d _ o j.c1 j.c3 e) t λg3 q b=>wpAny_pure (wpAny_pure ?_));refine wpAny_pure ?_;show wpAny _ _ (newTuple [x,y] >>= _) _ _ _;have j:g3.objs.size=s.heap.objs.size:=by rw[b.1,g.1,k.1]
 have h:∀c o,c≠z->c≠i1->c≠i2->s.heap.get? c=some o->g3.get? c=some o:=λc o n m k e=>b.extBut c o k (d c o n m e)
 refine NY (wpAny_newTuple (wpAny_pure ⟨_,rfl,wpAny_pure ?_⟩));rw[j];refine u _ ?_ ?_ (r.of λo e=>?_) (q.of λo e=>?_) ?_ λc o n m k e=>?_
 exact Ph _ (b.extBut _ _ (Ne.symm D.a4) (g.extBut _ _ (Ne.symm D.a3) p));exact Ph _ (h _ _ D.a1 D.a6 D.a7 l);exact Ph _ (b.extBut _ _ D.b1 e);exact Ph _ e;rw[<- j];exact Q7 _ rfl;exact Ph _ (h c o n m k e)
def Fu{Q:yam->Shared->Prop}(j:A.handled=none)(D:Ap z TI TO i1 i2)(p:Out z TO i1 i2 l1)(hz:Y4 s.heap z TI TO a f)(d:s.heap.get? a=some oa)(e:IsPair s.heap TI (.ref i1) (.ref i2))(l:RD k1 s.heap i1 l1 i)(g:QV k1 s.heap l1 xs)(h:xs[i]?=none)
  (k:∀h',(∀c o,c≠z->c≠i1->s.heap.get? c=some o->h'.get? c=some o)->Q none {s with heap:=h'}):wpAny (model prog w) A (pyNext (.ref z)) Q E s:=by
 have b:s.TypeIs (.ref z) "zip" := ⟨_,hz,rfl⟩;refine NY (XW (WN (name:=Str.ofString "__next__") b F.slot_zip_next (U0 F.slot_zip_next b F.entry_zip_next ?_ (F.args_zip_next_1 _))));show wpAny _ _ (field (.ref z) 2 >>= _) _ _ _;refine NY (R9 hz rfl (x:=.bool false) rfl ?_);refine NY (R9 hz rfl (x:=.ref TI) rfl (NY (U1 e rfl ?_)));refine NY (yN hz d λb r m=>?_);simp only[Ui,if_false];have d:∀c o,c≠z->s.heap.get? c=some o->b.get? c=some o:=λc o n e=>m.extBut c o n e
 refine NY (NY (NY (SD ?_)));refine NY (Ct (s:={s with heap:=b}) j (l.of λo e=>d _ o D.a3 e) (g.of λo e=>d _ o p.c1 e) h λj e l b=>?_);obtain⟨e,g,h⟩:=b;exact NY (Ys (T := "StopIteration") (b:=true) ⟨e,g,h⟩ isSubtype_stop (wpAny_pure (k j λc o n m q=>l c o m (d c o n q))))
def ZL(k1 k2:Bool)(z TI TO i1 i2 l1 l2 S:Addr)(i:Nat)(h:Heap):Prop:=(i=0/\X6 k1 k2 z TI TO i1 i2 l1 l2 0 h)∨((∃a f oa,Y4 h z TI TO a f/\h.get? a=some oa/\a≠S/\a≠z/\a≠TO/\a≠i1/\a≠i2)/\IsPair h TI (.ref i1) (.ref i2)/\RD k1 h i1 l1 i/\RD k2 h i2 l2 i)
def ZL.keep{h':Heap}(x:ZL k1 k2 z TI TO i1 i2 l1 l2 S i h)(k:z≠S)(j:TI≠S)(l:TO≠S)(g:i1≠S)(d:i2≠S)(c:∀b o,b≠S->h.get? b=some o->h'.get? b=some o):ZL k1 k2 z TI TO i1 i2 l1 l2 S i h':=by
 rcases x with⟨e,Z⟩| ⟨⟨a,f,oa,u,t,h,r⟩,p,n,m⟩;obtain⟨q,C,⟨a,b,B⟩,y,x⟩:=Z;exact .inl ⟨e,c _ _ k q,c _ _ j C,⟨a,b,c _ _ l B⟩,y.of λo q=>c _ o g q,x.of λo q=>c _ o d q⟩;exact .inr ⟨⟨a,f,oa,c _ _ k u,c _ _ h t,h,r⟩,c _ _ j p,n.of λo q=>c _ o g q,m.of λo q=>c _ o d q⟩
def ZL.item{x y:Value}{Q:yam->Shared->Prop}(D:Ap z TI TO i1 i2)(C:Out z TO i1 i2 l1)(B:Out z TO i1 i2 l2)(Z:ZL k1 k2 z TI TO i1 i2 l1 l2 S i s.heap)(L:S<s.heap.objs.size)(b:z<s.heap.objs.size/\TO<s.heap.objs.size/\i1<s.heap.objs.size/\i2<s.heap.objs.size)(l:QV k1 s.heap l1 xs)(k:QV k2 s.heap l2 ys)(t:xs[i]?=some x)(r:ys[i]?=some y)
  (u:∀h',ZL k1 k2 z TI TO i1 i2 l1 l2 S (i+1) h'->IsPair h' s.heap.objs.size x y->(∀c o,c≠z->c≠TO->c≠i1->c≠i2->s.heap.get? c=some o->h'.get? c=some o)->Q (some (.ref s.heap.objs.size)) {s with heap:=h'}):wpAny (model prog w) A (pyNext (.ref z)) Q E s:=by
 obtain⟨Q,O,N,M⟩:=b;rcases Z with⟨rfl,Z⟩| ⟨⟨a,f,oa,J,q,I,p,H,n,m⟩,G,y,d⟩;refine HM D C B Z l k t r λh' j h _ g e x b=>u h' (.inr ⟨⟨s.heap.objs.size,false,_,j,x,Uc L,Uc Q,Uc O,Uc N,Uc M⟩,h,g,e⟩) x b
 refine Ft D C B J q G y d l k t r λh' j h d g e b=>u h' (.inr ⟨⟨a,true,oa,j,b a oa p n m q,I,p,H,n,m⟩,h,d,g⟩) e λc o h _ g d e=>b c o h g d e
def ZL.stop{Q:yam->Shared->Prop}(e:A.handled=none)(D:Ap z TI TO i1 i2)(h:Out z TO i1 i2 l1)(q:Out z TO i1 i2 l2)(Z:ZL k1 k2 z TI TO i1 i2 l1 l2 S i s.heap)(b:QV k1 s.heap l1 xs)(j:QV k2 s.heap l2 ys)(d:xs[i]?=none)
  (g:∀h',(∀c o,c≠z->c≠TO->c≠i1->c≠i2->s.heap.get? c=some o->h'.get? c=some o)->Q none {s with heap:=h'}):wpAny (model prog w) A (pyNext (.ref z)) Q E s:=by
 rcases Z with⟨rfl,Z⟩| ⟨⟨a,f,oa,p,m,y,x,u,t,r⟩,l,k,n⟩;exact HN e D h q Z b j (.inl d) g;exact Fu e D h p m l k b d λh' h=>g h' λc o d _ b _ e=>h c o d b e
end
structure ZT(h:Heap)(xs ys:yan)(B:Addr)(as:yae):Prop where
 nd:as.Nodup
 ab:∀a∈as,B<=a
 pr:∀(j:Nat) (a:Addr),as[j]?=some a->∃x y,xs[j]?=some x/\ys[j]?=some y/\IsPair h a x y
section
variable{prog:Program}{w:World}{A:Around}{E:yaa}{s:Shared}{k1 k2:Bool}{z TI TO i1 i2 l1 l2 S B:Addr}{xs ys:yan}{R:Result->Shared->Prop}
def M8(j:A.handled=none)(D:Ap z TI TO i1 i2)(t:Out z TO i1 i2 l1)(r:Out z TO i1 i2 l2)(sB:S<B)(e:z<B/\TO<B/\i1<B/\i2<B)(g:z≠S/\TI≠S/\TO≠S/\i1≠S/\i2≠S/\l1≠S/\l2≠S)(hn:xs.size<=sizeLine)(hxy:xs.size=ys.size)(d:Value){h0:Heap}
  (u:∀h' n a c f,(∀b o,b≠S->b≠z->b≠TO->b≠i1->b≠i2->h0.get? b=some o->h'.get? b=some o)->h'.get? S=some {cls:=.type "list", dict:=none,data:=.seq a c,slots:=#[]}->a.toList=f.map Value.ref->f.length=xs.size->ZT h' xs ys B f->R (.ok (.ret d)) {s with heap:=h',toks:=n}) :
  ∀ (k i:Nat) (h:Heap) (n c:Nat) (a:yan) (f:yae),xs.size - i=k->i<=xs.size->ZL k1 k2 z TI TO i1 i2 l1 l2 S i h->QV k1 h l1 xs->QV k2 h l2 ys->B<=h.objs.size->(∀b o,b≠S->b≠z->b≠TO->b≠i1->b≠i2->h0.get? b=some o->h.get? b=some o) →
   h.get? S=some {cls:=.type "list", dict:=none,data:=.seq a c,slots:=#[]}->a.toList=f.map Value.ref->f.length=i->ZT h xs ys B f->codeAny (model prog w) A (.builtin "list.extend.loop" ⟨[.ref S,.ref z,d],[]⟩) R {s with heap:=h,toks:=n}:=by
 obtain⟨n1,n2,n3,n4,n5,n6,n7⟩:=g;have q:∀{b c:Addr},c<B->B<=b->b≠c:=λhc d=>Uc (QL hc d)
 obtain⟨z1,Y,U,Q⟩:=e;intro k
 induction k with
 |zero =>
  intro i h n c a f hk hi m M L p kp hS O I T;refine WT PySem.F.entry_extend_loop ?_;refine NY (ZL.stop (s:={s with heap:=h,toks:=n}) (A:=A.in1) j D t r m M L (Z4 (by lia)) λh' l=>?_);have J:∀b,B<=b->∀o,h.get? b=some o->h'.get? b=some o:=λb d o e=>l b o (q z1 d) (q Y d) (q U d) (q Q d) e
  exact wpAny_pure (u h' n a c f (λb o N H G C u e=>l b o H G C u (kp b o N H G C u e)) (l S _ (Ne.symm n1) (Ne.symm n3) (Ne.symm n4) (Ne.symm n5) hS) O (by lia)
   ⟨T.nd,T.ab,λj b g=>let ⟨x,y,e1,e2,e3⟩:=T.pr j b g;⟨x,y,e1,e2,J b (T.ab b (Qh g)) _ e3⟩⟩)
 |succ k ih =>
  intro i h n c a f hk hi m M L p kp hS O I T;have lt:i<xs.size:=by lia
  have hx:xs[i]?=some xs[i]:=Vh lt;have hy:ys[i]?=some ys[i]:=Vh (by lia);have sz:a.size=i:=by rw[<- RS,O,N3,I]
  refine WT PySem.F.entry_extend_loop ?_;refine NY (ZL.item (s:={s with heap:=h,toks:=n}) (S:=S) D t r m (QL sB p) ⟨QL z1 p,QL Y p,QL U p,QL Q p⟩ M L hx hy λh' hZ' tp l=>?_);dsimp only at tp l ⊢;have J:=l S _ (Ne.symm n1) (Ne.symm n3) (Ne.symm n4) (Ne.symm n5) hS;have k:∀b o,b≠S->h'.get? b=some o->(h'.update S (Obj.mapSeq (·.push (Value.ref h.objs.size)))).get? b=some o:=λb o m e=>(Vj _ _ (Ne.symm m)).trans e
  have nS:h.objs.size≠S:=Uc (QL sB p);have m:=k _ _ nS tp;refine NY (Zy J rfl (wpAny_pure ⟨ZA PySem.F.plain_extend_loop _,ih (i+1) _ n _ (a.push (Value.ref h.objs.size)) (f++[h.objs.size]) (by lia) lt (hZ'.keep n1 n2 n3 n4 n5 k) (M.of λo e=>k _ o n6 (l _ o t.c1 t.c2 t.c3 t.c4 e)) (L.of λo e=>k _ o n7 (l _ o r.c1 r.c2 r.c3 r.c4 e)) ?_
   (λb o N H G C u e=>k b o N (l b o H G C u (kp b o N H G C u e))) (Vy _ J rfl) (by rw[Array.toList_push,O,QE];rfl) (by rw[QZ,I];rfl) ⟨?_,λb d=>?_,λj b g=>?_⟩⟩) (by rw[sz];lia) (by rw[Array.size_push,sz];lia))
  exact UL (Ym p (OI m));refine Zo.mpr ⟨T.nd,by simp,λb d c hc=>?_⟩;obtain⟨j,g⟩:=List.getElem?_of_mem d;obtain⟨_,_,_,_,e⟩:=T.pr j b g;rw[QU.mp hc];exact PN (OI e);rcases PU.mp d with d|d;exact T.ab b d;rw[QU.mp d];exact p;rcases Zs j f.length with c|c|c;rw[UE c]at g;obtain⟨x,y,e1,e2,e3⟩:=T.pr j b g;have a:=T.ab b (Qh g);exact⟨x,y,e1,e2,k b _ (q sB a) (l b _ (q z1 a) (q Y a) (q U a) (q Q a) e3)⟩;subst c;have e:h.objs.size=b:=by simpa using g
  subst e;exact⟨xs[i],ys[i],by rw[I];exact hx,by rw[I];exact hy,m⟩;rw[Yk (by rw[QZ,Z5];lia)]at g;cases g
end
def Dd:typeLookup (.type "zip") "__len__" = pure none:=by kernel_rfl
def AL:typeLookup (.type "zip") "__length_hint__" = pure none:=by kernel_rfl
section
variable{prog:Program}{w:World}{A:Around}{E:yaa}{s:Shared}{k1 k2:Bool}{z TI TO i1 i2 l1 l2 S B:Addr}{xs ys:yan}
def RD.lt(x:RD k h it a i):it<h.objs.size:=let ⟨_,e,_⟩:=x.obj;OI e
def QV.lt{xs:yan}(x:QV k h a xs):a<h.objs.size:=let ⟨_,_,e,_⟩:=x.obj;OI e
def JW{R:Result->Shared->Prop}(u:A.handled=none)(D:Ap z TI TO i1 i2)(G:Out z TO i1 i2 l1)(C:Out z TO i1 i2 l2)(Z:X6 k1 k2 z TI TO i1 i2 l1 l2 0 s.heap)(r:QV k1 s.heap l1 xs)(q:QV k2 s.heap l2 ys)(t:xs.size<=sizeLine)(h:xs.size=ys.size)(p:S<B)(H:B<=s.heap.objs.size)(n:z<B/\TO<B/\i1<B/\i2<B)
  (a:z≠S/\TI≠S/\TO≠S/\i1≠S/\i2≠S/\l1≠S/\l2≠S) (y:Nat) (k:s.heap.get? S=some {cls:=.type "list", data:=.seq #[] y})
  (x:∀h' m d c j,(∀b o,b≠S->b≠z->b≠TO->b≠i1->b≠i2->s.heap.get? b=some o->h'.get? b=some o)->h'.get? S=some {cls:=.type "list", dict:=none,data:=.seq d c,slots:=#[]}->d.toList=j.map Value.ref->j.length=xs.size->ZT h' xs ys B j->R (.ok (.ret .none)) {s with heap:=h',toks:=m}) :
  wpAny (model prog w) A.in1 (Builtin.List.listExtendWith (.ref S) (.ref z) .none) (λi g=>match i with|.done f=>R (.ok f) g|.again l=>l.quiet=true/\codeAny (model prog w) A l R g) (λe g=>R (.error e) g) s:=by
 have hz:=Z.z;have c:s.TypeIs (.ref z) "zip" := ⟨_,hz,rfl⟩;refine NY (wpAny_typeOf (T := "zip") c ?_);have d:Builtin.List.listSameRef (.ref S) (.ref z)=false:=by simp[Builtin.List.listSameRef,Ne.symm a.1]
 simp only[d,show(Value.type "zip" == Value.type "list")=false by decide,show(Value.type "zip" == Value.type "tuple")=false by decide,Bool.or_false,Ui,if_false];refine NY (wpAny_pyIter_zip hz (NY (SD ?_)));refine NY (Zx c Dd ?_);refine NY (Zx c AL (wpAny_pure ?_));refine NY (wpAny_rule (NY ?_));have c:=Vy (Obj.mapSeq (·.push Value.none)) k rfl;refine NY (Zy k rfl (Zy (hz:=by seq_fits) c rfl (wpAny_pure ⟨ZA PySem.F.plain_extend_loop _,?_⟩)));have g3:=Vy (Obj.mapSeq (·.pop)) c rfl;have c:∀b o,b≠S->s.heap.get? b=some o->((s.heap.update S (Obj.mapSeq (·.push Value.none))).update S (Obj.mapSeq (·.pop))).get? b=some o:=λb o m e=>(Vj _ _ (Ne.symm m)).trans ((Vj _ _ (Ne.symm m)).trans e)
 refine M8 (s:=s) (h0:=s.heap) u D G C p n a t h .none x xs.size 0 _ _ _ _ [] (Nat.sub_zero _) (QI _) (ZL.keep (.inl ⟨rfl,Z⟩) a.1 a.2.1 a.2.2.1 a.2.2.2.1 a.2.2.2.2.1 c) (r.of λo e=>c _ o a.2.2.2.2.2.1 e) (q.of λo e=>c _ o a.2.2.2.2.2.2 e) ?_ (λb o m _ _ _ _ e=>c b o m e) g3 rfl rfl ⟨List.nodup_nil,λ_ h=>(by cases h),λj a h=>by simp at h⟩
 simp_all
def M7{Q:yaa}(N:A.handled=none)(D:Ap z TI TO i1 i2)(U:Out z TO i1 i2 l1)(T:Out z TO i1 i2 l2)(Z:X6 k1 k2 z TI TO i1 i2 l1 l2 0 s.heap)(G:QV k1 s.heap l1 xs)(C:QV k2 s.heap l2 ys)(M:xs.size<=sizeLine)(l:xs.size=ys.size)
  (O:∀h' j d c g,(∀b o,b≠z->b≠TO->b≠i1->b≠i2->s.heap.get? b=some o->h'.get? b=some o)->h'.get? s.heap.objs.size=some {cls:=.type "list", dict:=none,data:=.seq d c,slots:=#[]}->d.toList=g.map Value.ref->g.length=xs.size->ZT h' xs ys (s.heap.objs.size+1) g->Q (.ref s.heap.objs.size) {s with heap:=h',toks:=j}) :
  wpAny (model prog w) A (call (.type "list") [.ref z]) Q E s:=by
 refine callType_codes (Q₁:=λa e=>a=.ref s.heap.objs.size/\e={s with heap:=s.heap.push {cls:=.type "list", data:=.seq #[]} }) PySem.F.called_list (PySem.F.typeCall_list_1 _) PySem.F.entry_list_init (code_list_new _ ⟨rfl,rfl⟩) λa e a=>?_
 obtain⟨rfl,rfl⟩:=a;have i:(s.heap.push {cls:=.type "list", data:=.seq #[]}).get? s.heap.objs.size=some {cls:=.type "list", data:=.seq #[]}:=Q7 _ rfl;have L:∀b o,s.heap.get? b=some o->(s.heap.push {cls:=.type "list", data:=.seq #[]}).get? b=some o:=λb o e=>Ph _ e
 have a:z<s.heap.objs.size/\TI<s.heap.objs.size/\TO<s.heap.objs.size/\i1<s.heap.objs.size/\i2<s.heap.objs.size/\l1<s.heap.objs.size/\l2<s.heap.objs.size:=by obtain⟨k,y,⟨_,_,x⟩,p,n⟩:=Z;exact⟨OI k,OI y,OI x,p.lt,n.lt,G.lt,C.lt⟩
 obtain⟨u,J,t,r,q,I,H⟩:=a;have a:∀{b:Addr},b<s.heap.objs.size->b<s.heap.objs.size+1:=λh=>XQ h
 refine⟨⟨_,i,rfl⟩,PySem.F.args_list_init_2 _ _,?_⟩;refine NY ?_;refine NY (U1 i rfl (wpAny_pure ?_));have h:=Vy (Obj.mapSeq (λ_=>(#[]:yan))) i rfl;have f:∀b o,b≠s.heap.objs.size->s.heap.get? b=some o->((s.heap.push {cls:=.type "list", data:=.seq #[]}).update s.heap.objs.size (Obj.mapSeq (λ_=>(#[]:yan)))).get? b=some o:=λb o m e=>(Vj _ _ (Ne.symm m)).trans (L b o e)
 refine NY (Zy i rfl (NY (wpAny_letGo ?_)));refine JW (A:=A.in1) (B:=s.heap.objs.size+1) (k1:=k1) (k2:=k2) (TI:=TI) (TO:=TO) (l1:=l1) (l2:=l2) (xs:=xs) (ys:=ys) N D U T ?_ (G.of λo e=>f _ o (PN I) e) (C.of λo e=>f _ o (PN H) e) M l (VD _) ?_ ⟨a u,a t,a r,a q⟩ ⟨PN u,PN J,PN t,PN r,PN q,PN I,PN H⟩ _ h λh' j d c g h l m i T=>?_
 obtain⟨k,y,⟨a,b,x⟩,p,n⟩:=Z;exact⟨f _ _ (PN u) k,f _ _ (PN J) y,⟨a,b,f _ _ (PN t) x⟩,p.of λo e=>f _ o (PN r) e,n.of λo e=>f _ o (PN q) e⟩
 simp_all
 exact⟨rfl,O h' j d c g (λb o g d c a e=>h b o (PN (OI e)) g d c a (f b o (PN (OI e)) e)) l m i T⟩
end
end PZ
namespace PD
open PySem PySem.Spec PyProof.Rows L2 PZ
def eW(H:Hp)(n:Addr)(N:List (Addr×HO)):Hp:=λb=>if b<n then H b else(N.find? λp=>decide (p.1=b)).map (·.2)
def mh{n b:Addr}(h:b<n):eW H n N b=H b:=N4 h
theorem Bc{b:Addr}{u:HO}:∀{N:List (Addr×HO)},(N.map (·.1)).Nodup->(b,u)∈N->(N.find? λp=>decide (p.1=b))=some (b,u)
 |[],_,m=>by cases m
 |p::r,a,m=>by
  rw[Pq,UJ]at a;rw[List.find?_cons];rcases Ov.mp m with e|m;rw[<- e,UK rfl];rw[decide_eq_false λe=>a.1 (by rw[e];exact Ol.mpr ⟨_,m,rfl⟩)];exact Bc a.2 m
def Bj{n b:Addr}{u:HO}{N:List (Addr×HO)}(a:(N.map (·.1)).Nodup)(h:n<=b)(m:(b,u)∈N):eW H n N b=some u:=by unfold eW;rw[N2 (by simp_all),Bc a m];rfl
def yT{n b:Addr}{u:HO}(h:¬b<n)(e:eW H n N b=some u):(b,u)∈N:=by
 unfold eW at e;rw[N2 h]at e;obtain⟨p,a,rfl⟩:=Vk.mp e;have z:p.1=b:=by simpa using List.find?_some a
 rw[<- z];exact List.mem_of_find?_eq_some a
section
variable{X:Cx}{pins:yab}{σ:St}{H:Hp}{s:Shared}
theorem Inv.eW{h':Heap}{t':Nat}{N:List (Addr×HO)}(I:Inv X pins σ H s)(k:∀b u,s.heap.get? b=some u->h'.get? b=some u)(d:∀b u,(b,u)∈N->bS X.prog X.w (PD.eW H s.heap.objs.size N) h' b u) :
  Inv X pins σ (PD.eW H s.heap.objs.size N) {s with heap:=h',toks:=t'}:=by
 have lt:∀{b u},H b=some u->PD.eW H s.heap.objs.size N b=some u:=fun {b u} e=>by rw[mh (I.Om.lt e)];exact e
 refine L2.Inv.un I ⟨λb a q _ _ _=>k b a q,λb a q _ _ _=>⟨a.slots,k b a q⟩,λb a q n _=>by rw[mh (OI q)];exact n,λb a q _=>⟨a,k b a q⟩,λb a q=>lt q,λb o u q=>lt q,λb f q=>⟨#[],by rw[lt q];simp⟩⟩ λb u e=>?_
 by_cases h:b<s.heap.objs.size;rw[mh h]at e;exact(I.Om b u e).Sa (λc v _ q=>k c v q) (λc q=>lt q) λc a q=>lt q
 exact d b u (yT h e)
def E3{N:List (Addr×HO)}(I:Inv X pins σ H s)(f:∀b u,(b,u)∈N->∀ps,u ≠ .TJ ps):aw H (PD.eW H s.heap.objs.size N):=by
 have d:∀{b u},H b=some u->PD.eW H s.heap.objs.size N b=some u:=fun {b u} e=>by rw[mh (I.Om.lt e)];exact e
 refine⟨λb o q _=>d q,λb ps q=>⟨#[],by rw[d q];simp⟩,λT P ps e=>?_⟩;by_cases h:P<s.heap.objs.size;rw[mh h]at e;obtain⟨a,b⟩:=T P ps e;exact⟨a,λa g q=>let ⟨c,e1,e2⟩:=b a g q;⟨c,e1,d e2⟩⟩;exact absurd rfl (f P _ (yT h e) ps)
end
theorem wR:∀a:yae,Vals (a.map V.ref) (a.map Value.ref)
 |[]=>.nil
 |_::r=>.cons rfl (wR r)
theorem aj.of_get{K:yac}{P:yak}{H:Hp}:∀{ds:yar} {vs:yaq},ds.length=vs.length->(∀(j:Nat) d v,ds[j]?=some d->vs[j]?=some v->Den K P H d v)->aj K P H ds vs
 |[],[],_,_=>aj.nil
 |d::ds,v::vs,h,k=>aj.cons (k 0 d v rfl rfl) (aj.of_get (Nat.succ.inj h) λj d a c b=>k (j+1) d a c b)
section
variable{X:Cx}{pos:Pos}
def yf(b:DA):DA:=λa R=>b a λg=>∃d c f e a b,g=[d,c]/\iL d=some (f,a)/\iL c=some (e,b)/\a.length=b.length/\a.length<=1000/\R (List.zipWith (λx y=>D.tup [x,y]) a b)
def Cg {a b:Expr} {ta:DA} {p A L:Pos} (hc:X.calm=true) (hg:Gl X "list") (hm:X.mg "list" = none) (Y2:Gl X "zip") (Y3:X.mg "zip" = none) (ha:S4 X [a,b] ta)
  (Rx:starEach [.Call (.Name "zip" A) [a,b] [] L] X.env=(false,eval (.Call (.Name "zip" A) [a,b] [] L) X.env)::starEach [] X.env:=by rfl) (Qe:(backTo pos (starEach [] X.env)).any (·.1)=false:=by rfl)
  (hs:starEach [a,b] X.env=(false,eval a X.env)::starEach [b] X.env:=by rfl) (VS:(backTo L (starEach [b] X.env)).any (·.1)=false:=by rfl) :
  UW X (.Call (.Name "list" p) [.Call (.Name "zip" A) [a,b] [] L] [] pos) (yf ta):=by
 intro w s σ H W ρ Q I r h;refine Vn (cH I hg hm boot_list ?_ (by decide) (by decide));refine PyProof.Rows.callWith_type1 ?_ Rx Qe;rw[Rx];show wpAny _ _ (spliced ((false,eval (.Call (.Name "zip" A) [a,b] [] L) X.env)::backTo pos (starEach [] X.env))) _ _ s;refine Calls.spliced_cons ?_;refine Call_ (cH I Y2 Y3 boot_zip (PyProof.Rows.callWith_type1 (Oa (ha L w s σ H W ρ _ I r h) λus f Oc=>?_) hs VS));obtain⟨vs,B,ds,M,r1,e1,hd,q1⟩:=Oc;obtain⟨d1,d2,k1,k2,xs,ys,e,g1,g2,lxy,l1000,q⟩:=q1;subst e;obtain⟨v1,v2,rfl,U9,hd2⟩:=jN hd;obtain⟨l1,J,e2,sq1,ZO,_⟩:=U9.seq g1;obtain⟨l2,G,e3,sq2,ZP,_⟩:=hd2.seq g2;subst e2 e3;cases r1 with
 |cons ra rr =>
  cases rr with
  |cons rb rr =>
   cases rr;cases ra;cases rb;obtain⟨us1,rv1,p1⟩:=sq1.list M;obtain⟨us2,rv2,A⟩:=sq2.list M;have n1:=ZO.len;have n2:=ZP.len;have m1:=rv1.length;have m2:=rv2.length;refine HL p1 A λg Z kp=>?_
   refine wpAny_pure ?_;have Dz:Ap (f.heap.objs.size+4) (f.heap.objs.size+2) (f.heap.objs.size+3) f.heap.objs.size (f.heap.objs.size+1):=by constructor<;>simp
   have E:∀{c:Addr} (j:Nat),c<f.heap.objs.size->c≠f.heap.objs.size+j:=λj h=>PN (QL h (XR _ j))
   have O:∀{l:Addr},l<f.heap.objs.size->Out (f.heap.objs.size+4) (f.heap.objs.size+3) f.heap.objs.size (f.heap.objs.size+1) l:=λh=>⟨E 4 h,E 3 h,PN h,E 1 h⟩
   refine M7 (s:={f with heap:=g}) (M.ok.hd hc) Dz (O p1.lt) (O A.lt) Z (p1.of λo e=>kp _ o e) (A.of λo e=>kp _ o e) (by rw[RB,sizeLine_eq];lia) (by rw[RB,RB];lia) λh2 tk acc c k Rm hD ea la T=>?_
   have K:∀b o,f.heap.get? b=some o->h2.get? b=some o:=λb o e=>Rm b o (E 4 (OI e)) (E 3 (OI e)) (PN (OI e)) (E 1 (OI e)) (kp b o e)
   have zl:f.heap.objs.size<g.objs.size:=Ym (XR _ 4) (OI Z.z);dsimp only at hD T;rw[RB]at la;have nD:g.objs.size∉k:=λz=>absurd (T.ab _ z) (Nat.not_le.mpr (VD _))
   let N:List (Addr×HO):=(g.objs.size,.lst (k.map V.ref))::(k.zip (J.zip G)).map λt=>(t.1,.tup [t.2.1,t.2.2])
   have hN:N.map (·.1)=g.objs.size::k:=by show g.objs.size::((k.zip (J.zip G)).map λt=>(t.1,HO.tup [t.2.1,t.2.2])).map (·.1)=_;rw[O3];congr 1;exact Yq (by rw[Yt];lia)
   have ndN:(N.map (·.1)).Nodup:=by rw[hN];exact UJ.mpr ⟨nD,T.nd⟩
   have get:∀{j:Nat} {b:Addr},k[j]?=some b->∃Y U x y,J[j]?=some Y/\G[j]?=some U/\RelV Y x/\RelV U y/\IsPair h2 b x y/\(b,HO.tup [Y,U])∈N:=fun {j b} C=>by obtain⟨lj,_⟩:=Ql.mp C;obtain⟨x,y,hx,hy,hp⟩:=T.pr j b C;have g1:J[j]?=some (J[j]'(by lia)):=OH _;have g2:G[j]?=some (G[j]'(by lia)):=OH _;obtain⟨x',ex,rx⟩:=rv1.get g1;obtain⟨y',ey,ry⟩:=rv2.get g2;rw[List.getElem?_toArray,ex]at hx;rw[List.getElem?_toArray,ey]at hy;cases hx;cases hy;refine⟨_,_,x,y,g1,g2,rx,ry,hp,Pz _ (Ol.mpr ⟨(b,J[j]'(by lia),G[j]'(by lia)),?_,rfl⟩)⟩;refine Qh (i:=j) ?_;rw[zCr];exact⟨C,by rw[zCr];exact⟨g1,g2⟩⟩
   have ok:∀b u,(b,u)∈N->bS X.prog X.w (PD.eW B f.heap.objs.size N) h2 b u:=λb u m=>by
    rcases Ov.mp m with e|m;cases e;exact⟨by rw[N3,sizeLine_eq];lia,k.map Value.ref,c,wR k,by rw[<- ea];simpa using hD⟩;obtain⟨t,tm,e⟩:=Ol.mp m;cases e;obtain⟨j,C⟩:=List.getElem?_of_mem tm;rw[zCr]at C;obtain⟨Y,U,x,y,e1,e2,rx,ry,hp,_⟩:=get C.1;have d:=C.2;rw[zCr,e1,e2]at d;obtain⟨i,n⟩:=d;cases i;cases n;exact⟨by rw[sizeLine_eq];show 2<=16777216;decide,[x,y],.cons rx (.cons ry .nil),⟨_,hp,rfl,_,rfl⟩⟩
   have I2:Inv X w σ (PD.eW B f.heap.objs.size N) {f with heap:=h2,toks:=tk}:=Inv.eW M K ok;have sm:aw B (PD.eW B f.heap.objs.size N):=E3 M λb u m ps e=>by
    rcases Ov.mp m with z|m;cases z;cases e;obtain⟨t,_,z⟩:=Ol.mp m;cases z;cases e
   have eD:PD.eW B f.heap.objs.size N g.objs.size=some (.lst (k.map V.ref)):=Bj ndN (UL zl) RO;have fD:B g.objs.size=none:=M.Om.fresh (UL zl);refine⟨g.objs.size,_,_,_,rfl,I2,e1.trans sm,e1.free fD,Inv.kno I2 eD,eD,aj.of_get (by rw[List.length_zipWith,N3];lia) λj d v hdj hvj=>?_,q⟩;rw[Pw]at hvj;obtain⟨b,hb,rfl⟩:=Vk.mp hvj;obtain⟨Y,U,x,y,e1',e2',rx,ry,hp,mN⟩:=get hb;obtain⟨dx,gx,SH⟩:=ZO.bF e1';obtain⟨dy,gy,Um⟩:=ZP.bF e2';rw[List.getElem?_zipWith,gx,gy]at hdj;cases hdj;have hbn:f.heap.objs.size<=b:=Pe (UL (XQ zl)) (T.ab b (Qh hb));have P':∀{d:D} {v:V},Den X.K W.bad B d v->Den X.K (λt b=>W.bad t b∨b=g.objs.size) (PD.eW B f.heap.objs.size N) d v:=λhq=>Den.map (λ_ _ z=>OZ.same sm z) (λt a' vs' np z=>⟨λz'=>z'.elim np λz'=>by
    subst z';rcases z.1 with(i|⟨o,i⟩)|⟨o,N5,n,i,_⟩;rw[fD]at i;cases i;rw[fD]at i;cases i;exact absurd (Inv.kno I2 eD) (by rw[i];simp),z.same sm⟩) (λa' o' n z=>sm.kp a' o' z n.nt) _ _ hq
   exact Den.tup (OZ.of (Bj ndN hbn mN)) (aj.cons (P' SH) (aj.one (P' Um)))
end
open PySem PySem.Spec PyProof.Rows L2
section
variable{X:Cx}{a b c:Expr}{ta tb tc:DE}{pos:Pos}
def Ga(n:Qc X (compareOp op) r)(G:Qc X (compareOp op') r')(d:Oo X a ta)(k:Oo X b tb)(C:Oo X c tc)(q:lastMarks [op,op'] [b,c]=false:=by with_unfolding_all rfl):TP X (.Compare a [op,op'] [b,c] pos) (dB (DJ r r' ta tb tc)):=by
 intro e s f H W o Q I l h;refine isTrue_chain (Oa (d e s f H W o _ I l h) λv g ⟨d,r,x,p,h,j,m,i⟩=>test_link (Oa (k e g f r W o _ p (l.same j) i) λu g ⟨r,w,y,p,s,i,t,k⟩=>
  Oa (n e g f w W x y d r v u _ p ((l.same j).same i).tracked h s (m.same i) t k) λd B ⟨A,x,z,w,g,n,p,k,h,m⟩=>?_)) q
 subst h;have q:=p.Wr;subst q;cases g;refine Zt ?_;have g:=((l.same j).same i).same n;cases k with
 |false =>
  obtain⟨k,h,m⟩:=m;cases h;exact ite_ff ⟨x,w,j.trans (i.trans n),m⟩
 |true =>
  refine ite_tt (test_last (Oa (C e B f x W o _ w g m) λm w ⟨o,I,E,H,x,l,C,B⟩=>Oa (G e w f I W y E r o u m _ H (g.same l).tracked s x (t.same (n.trans l)) C B) λd J g=>?_));obtain⟨A,o,z,m,d,f,p,k,h,e⟩:=g;subst h;have q:=p.Wr;subst q;cases d;exact Zt ⟨o,m,j.trans (i.trans (n.trans (l.trans f))),e⟩
end
section
variable{X:Cx}{pos:Pos}
theorem Bm(f:Nat->Int):∀n,((List.range n).map f).Nodup->firstMet f n=(List.range n).map f
 |0,_=>rfl
 |n+1,h=>by
  rw[List.range_succ,QE,Zo]at h;rw[firstMet_succ,Bm f n h.1,List.range_succ,QE];refine N2 λz=>?_
  obtain⟨x,a,e⟩:=List.any_eq_true.mp z;exact h.2.2 x a (f n) (by simp) (by simpa using e)
theorem wA:∀{ns:yaf} {a:yad},Vals (ns.map V.int) a->IntsAre a ns
 |[],a,r=>by rw[VF]at r;cases r;exact .nil
 |n::ns,a,r=>by
  rw[Pq]at r;cases r with
  |cons h t =>
   obtain⟨b,rfl⟩:=h;exact .cons _ _ (wA t)
def AZ(te:DE):DE:=λa Q=>te a λd=>∃(t:Bool) (a:yaf),d=.lst t (a.map D.int)/\a.Nodup/\a.length<=900/\Q (.int (a.length:Int))
def DW {p b:Pos} (w:X.calm=true) (j:Gl X "len") (i:X.mg "len" = none) (m:Gl X "set") (l:X.mg "set" = none) (k:Oo X e te)
  (d:starEach [.Call (.Name "set" b) [e] [] PC] X.env=(false,eval (.Call (.Name "set" b) [e] [] PC) X.env)::starEach [] X.env:=by rfl) (o:(backTo pos (starEach [] X.env)).any (·.1)=false:=by rfl)
  (c:starEach [e] X.env=(false,eval e X.env)::starEach [] X.env:=by rfl) (n:(backTo PC (starEach [] X.env)).any (·.1)=false:=by rfl) :
  Oo X (.Call (.Name "len" p) [.Call (.Name "set" b) [e] [] PC] [] pos) (AZ te):=by
 intro a s g H W f Q I r h;refine Vn (cH I j i QM ?_ (by decide) (by decide));refine PyProof.Rows.callWith_builtin1 ?_ d o;rw[d];show wpAny _ _ (spliced ((false,eval (.Call (.Name "set" b) [e] [] PC) X.env)::backTo pos (starEach [] X.env))) _ _ s;refine Calls.spliced_cons ?_;refine Vn (cH I m l boot_set ?_ (by decide) (by decide));refine PyProof.Rows.callWith_type1 ?_ c n;rw[c];show wpAny _ _ (spliced ((false,eval e X.env)::backTo PC (starEach [] X.env))) _ _ s;refine Calls.spliced_cons (Oa (k a s g H W f _ I r h) λu h j=>?_);obtain⟨v,m,d,f,b,p,i,t,ns,c,n,lk,q⟩:=j;subst c;obtain⟨l,x,j,_,c,d⟩:=i.Q0;subst j;cases b;rw[cQ d]at c;refine wpAny_pure ?_;obtain⟨k,b,l,_⟩:=f.list c;have o:=f.ok.hd w;have c:k.length=ns.length:=by rw[<- b.length,N3]
 have j:(List.range ns.length).map (λi=>ns.getD i 0)=ns:=List.ext_getElem? λi=>by by_cases d:i<ns.length;simp[d];simp[d,VJ.mp d]
 have fm:firstMet (λi=>ns.getD i 0) k.toArray.size=ns:=by rw[RB,c,Bm _ _ (by rw[j];exact n),j]
 refine PySem.call_set_list o l.isList (ns:=ns) (by simpa using wA b) (by rw[RB];unfold scanBound;lia) λd c S i=>?_
 rw[fm]at S;have j:L2.Inv X a g m {h with heap:=d,toks:=c}:=f.kept λb u e=>i b u (OI e) e
 refine wpAny_pure ?_;obtain⟨o,e,a,y,z,t,b,_,_,f,g⟩:=S.objOf;refine call_len_set (s:={h with heap:=d,toks:=c}) e a b g (by lia) ?_;exact⟨.int (ns.length:Int),m,_,j.tok _,⟨_,by rw[f]⟩,p,Den.int _,q⟩
def ye(te:DE):DA:=λa R=>te a λd=>∃n:Nat,d=.int (n:Int)/\n<=900/\R (((List.range n).map λ(k:Nat)=>(k:Int)).map D.int)
def tG {p a:Pos} (l:X.calm=true) (j:Gl X "list") (g:X.mg "list" = none) (n:Gl X "range") (m:X.mg "range" = none) (k:Oo X e te)
  (c:starEach [.Call (.Name "range" a) [e] [] PC] X.env=(false,eval (.Call (.Name "range" a) [e] [] PC) X.env)::starEach [] X.env:=by rfl) (q:(backTo pos (starEach [] X.env)).any (·.1)=false:=by rfl)
  (b:starEach [e] X.env=(false,eval e X.env)::starEach [] X.env:=by rfl) (o:(backTo PC (starEach [] X.env)).any (·.1)=false:=by rfl) :
  UW X (.Call (.Name "list" p) [.Call (.Name "range" a) [e] [] PC] [] pos) (ye te):=by
 intro f s i H W d Q I r h;refine Vn (cH I j g boot_list ?_ (by decide) (by decide));refine PyProof.Rows.callWith_type1 ?_ c q;rw[c];show wpAny _ _ (spliced ((false,eval (.Call (.Name "range" a) [e] [] PC) X.env)::backTo pos (starEach [] X.env))) _ _ s;refine Calls.spliced_cons ?_;refine Vn (cH I n m boot_range ?_ (by decide) (by decide));refine PyProof.Rows.callWith_type1 ?_ b o;rw[b];show wpAny _ _ (spliced ((false,eval e X.env)::backTo PC (starEach [] X.env))) _ _ s;refine Calls.spliced_cons (Oa (k f s i H W d _ I r h) λu g j=>?_);obtain⟨v,r,d,h,a,p,b,n,c,A,q⟩:=j;subst c;cases b.O6;obtain⟨j,rfl⟩:=a;refine wpAny_pure (call_range_1 (wpAny_pure ?_));obtain⟨sm,z⟩:=wO (a:=0) (b:=(n:Int)) (c:=1) (by decide) (by decide) (by lia) (by lia) (by decide) (by decide);have a:Builtin.Range.rangeSize 0 (n:Int) 1=(n:Nat):=by unfold Builtin.Range.rangeSize;simp;lia
 refine call_list_range (n:=n) (h.ok.hd l) (IsRange.new ..) sm a (by lia) λm c a x k w d=>?_
 have y:∀b o,g.heap.get? b=some o->m.get? b=some o:=λb o e=>k b o (Ph _ e)
 have l:g.heap.objs.size<=(g.heap.push {cls:=.type "range", data:=.fields #[.int 0 g.toks,.int (n:Int) j,.int 1 (g.toks+1)]}).objs.size:=by rw[WU];exact Nat.le_succ _
 have b:r _=none:=h.Om.fresh l;have u:IntsAre a.toList ((List.range n).map λ(k:Nat)=>(k:Int)):=SW.rP (by simp[d.1]) λj v s=>by
  have o:a[j]?=some v:=by simpa using s
  have s:j<n:=by rw[<- d.1];exact(WM.mp o).1
  obtain⟨t,e⟩:=d.2 j v o;exact⟨(j:Int),t,by simp[s],by rw[e];simp⟩
 have d:L2.Inv X f i (L2.upd r _ (.lst (((List.range n).map λ(k:Nat)=>(k:Int)).map V.int))) {g with heap:=m,toks:=c} :=
  h.laid y l ⟨by rw[sizeLine_eq];simp;lia,a.toList,x,gJ u,by simpa using w⟩
 have a:=Inv.kno d aR;exact⟨_,_,_,_,rfl,d,p.trans (aw.upd b),p.free b,a,aR,aj.apart b a (Co _),q⟩
def KT1 (K:yac) (b:Addr) (ns:yaf):Prop:=∃(d:Option Addr) (a:yan) (n:Nat) (c:Array (yam)),K.lookup b=some ⟨.type "tuple", d,.seq a n,c⟩/\a.size<=9/\Vals (ns.map V.int) a.toList
def KTs(K:yac):yae->List (yaf)->Prop
 |[],a=>a=[]
 |b::c,a=>∃n r,a=n::r/\KT1 K b n/\KTs K c r
def KTT (K:yac) (f:yal) (x:Str) (g:List (yaf)):Prop:=∃(a:Addr) (c:yae) (e:Option Addr) (b:yan) (n:Nat) (d:Array (yam)),f x=some (.ref a)/\K.lookup a=some ⟨.type "tuple", e,.seq b n,d⟩/\b.size<=9/\b.toList=c.map Value.ref/\KTs K c g
theorem qR{K:yac}{P:yak}{H:Hp}:∀{bs:yae} {a:List (yaf)},KTs K bs a->Vals (bs.map V.ref) (bs.map Value.ref)/\aj K P H (a.map tupI) (bs.map V.ref)
 |[],_,h=>by cases(show _=[]from h);exact⟨.nil,rfl⟩
 |b::bs,_,h=>by obtain⟨n,r,rfl,⟨_,a,_,_,e,z,v⟩,h⟩:=h;exact⟨.cons rfl (qR (P:=P) (H:=H) h).1,aj.cons (Den.tup (.inr ⟨_,a,_,e,rfl,rfl,Pe z (by rw[sizeLine_eq];lia),v⟩) (Co _)) (qR h).2⟩
def yp {x:Str} {a:List (yaf)} (h:KTT X.K X.mg x a) (c:Gl X x:=by rfl) (d:(x==("__debug__" : Str))=false:=by decide):Oo X (.Name x pos) (dC (.tup (a.map tupI))):=by obtain⟨a,l,k,i,n,j,b,e,z,g,f⟩:=h;exact Oo.of (Jn (v:=.ref a) c b rfl d) λ_ H W _ _ _ q=>⟨aw.refl H,_,Den.tup (.inr ⟨_,i,n,e,rfl,rfl,Pe z (by rw[sizeLine_eq];lia),by rw[g];exact(qR (P:=W.bad) (H:=H) f).1⟩) (qR f).2,q⟩
end
section
variable{X:Cx}
def gT(t:Bool)(g:yaf×yaf):D:=.tup [.lst t (g.1.map D.int),.lst t (g.2.map D.int)]
def gD(t:Bool)(b:List (yaf×yaf))(a:D):D:=.tup [.lst t (b.map (gT t)),a]
end
section
variable{X:Cx}{pos:Pos}
theorem Bw(ns:yaf):∀k,k<=ns.length->preSum (λi=>ns.getD i 0) k=(ns.take k).sum
 |0,_=>by simp[preSum]
 |k+1,h=>by
  rw[WV,List.sum_append,<- Bw ns k (by lia)];have l:k<ns.length:=by lia
  simp[preSum,l]
def AQ (w:X.calm=true):dD X (.builtin "sum") (λds Q=>∃ns:yaf,ds=[.tup (ns.map D.int)]/\Q (.int ns.sum)):=by
 intro h s B H W ds E G Q I J r u q;obtain⟨ns,e,q⟩:=q;subst e;obtain⟨v,rfl,y⟩:=mM u;obtain⟨a,C,z,p,o⟩:=y.Ra;subst z;cases r with
 |cons l k =>
  cases k;cases l;obtain⟨g,c,d,_⟩:=I.tuple p.w;rw[cQ o]at c;have n:=intsAre_of c;have m:g.length=ns.length:=by rw[<- c.length,N3]
  have j:a<s.heap.objs.size:=by obtain⟨_,e,_⟩:=d;exact OI e
  refine call_sum_walkG (wpAny_pyIter_tuple d ?_);refine⟨s.heap.objs.size,[s.heap.objs.size,a],[s.heap.objs.size],g.toArray.size,_,_,λi=>ns.getD i 0,rfl,Walks.tuple (A:=X.A.in1) (I.ok.hd w) _ a (PN j) g.toArray,⟨⟨_,Q7 _ rfl,rfl,rfl⟩,d.push _⟩,λb f=>?_,λi v x=>?_,λN L M t=>?_⟩;rw[WU];rcases Ov.mp f with rfl|f;exact VD _;rw[QU.mp f];exact XQ j;exact IntsAre.int_at n i v (by simpa using x);rw[RB,m,Bw ns _ (OP _),Ub];exact⟨.int ns.sum,H,_,I.kept (LSm.kept_iter t),⟨_,rfl⟩,aw.refl H,Den.int _,q⟩
end
section
variable{X:Cx}{k:Nat}{ps:yah}{sp:DSp}{x:Str}{p pos:Pos}{e:Expr}{es:yai}{t:DA}
theorem Den.ra{K:yac}{P:yak}{H:Hp}{a:Addr}{vs:yaq}(p:¬P false a)(q:QG K H false a vs):Den K P H (.ra a) (.ref a):=by simp only[Den];exact⟨True.intro,p,vs,q⟩
def AW(sp:DSp)(t:DA):DE:=λa Q=>t a λa=>∃c x b,a=[c,.tup [x,.lst true b]]/\∀a,sp [aK c,.tup [aK x,.ra a]] (λd=>∃z,d=.tup [z,.ra a]/\Q (.tup [z,.lst true b])) λ_=>False
def wk (h:O4 X.prog X.w X.K X.mg X.base x k ps sp) (C:cE k X.A) (l:S4 X (e::es) t) (i:Gl X x:=by rfl) (m:(x==("__debug__" : Str))=false:=by decide)
  (j:starEach (e::es) X.env=(false,eval e X.env)::starEach es X.env:=by rfl) (n:(backTo pos (starEach es X.env)).any (·.1)=false:=by rfl):Oo X (.Call (.Name x p) (e::es) [] pos) (AW sp t):=by
 obtain⟨f,fd,F,f,g,E⟩:=h;intro a s b H W c Q I d h;refine Vn (qH I i f ?_ m);refine PySem.W.callWith_K (h₀:=X.base) I.ok.mod.Yx g (Oa (l pos a s b H W c _ I d h) λus s1 ⟨U,i,ds,u,r,o,a,q⟩=>⟨u.Tf,?_⟩) j n;obtain⟨s,x,J,rfl,q⟩:=q;obtain⟨w,Y,rfl,f,j⟩:=jN a;obtain⟨z,N,rfl,A,a⟩:=j.Ra;obtain⟨T,O,rfl,B,c⟩:=jN a;obtain⟨b,bs,rfl,n,m,G⟩:=c.UT;have c:=d.same o;have l:∀{d:D} {v:V},Den X.K W.bad i d v->Den X.K (λt a=>t=true∨W.bad false a) i (aK d) v:=λh=>Den.aK (λ_ _=>Own.Ti) _ _ h
 have g:aj X.K (λt a=>t=true∨W.bad false a) i [aK s,.tup [aK x,.ra b]] [w,.ref z] :=
  aj.cons (l f) (aj.cons (Den.tup A (aj.cons (l B) (aj.cons (Den.ra (λz=>z.elim (λz=>by cases z) λz=>n (Own.Ti z)) (QG.any m.1)) rfl))) rfl)
 refine Oa (EZ (Q:=λv a=>aw i a/\∃d,Den X.K W.bad a d v/\Q d) F C E .nil HD u r ⟨W.bad false,[aK s,.tup [aK x,.ra b]]++[],_,λ_=>False,c.tab,c.tracked false,g,q b,λd v a e f b=>?_,λ_ _ _ _ z=>z.elim⟩)
  λu s2 h=>(by obtain⟨v,l,i,a,g,d,f,j⟩:=h;exact⟨v,l,d,i,a,o.trans g,f,j⟩)
 obtain⟨z,a,d⟩:=b;subst a;obtain⟨t',y,rfl,b,a⟩:=(Den.back c.tracked f).Ra;obtain⟨M,L,rfl,f,c⟩:=jN a;obtain⟨a,_⟩:=c.ra_;subst a;exact⟨e,_,Den.tup b (aj.cons f (aj.cons (Den.lst n (m.same e) (G.same e)) aj.nil)),d⟩
end
end PD
namespace LW
open PySem PySem.Spec PyProof.Rows L2 PD
seal PD.c9 PD.Rq PD.Oo PD.TP PD.SK PD.S4 PD.Ug PD.Wu PD.uT PD.Xo PD.UW PD.PKD PD.PPD PD.WI PD.PFL PD.PPK PD.PEK
local macro_rules|`(tactic|kd_p)=>`(tactic| exact ⟨rfl, rfl, rfl, by decide +kernel, rfl, by decide +kernel, by decide +kernel⟩)
def top(i:Nat):Stmt:=PySem.Challenge.pw_halvecut_k63_whole_groups_of_spots.main.body.getD i (.Pass ⟨0,0,0,0⟩)
abbrev zC:Stmt:=top 5
abbrev gw:Stmt:=top 6
abbrev nK:Stmt:=top 7
abbrev pL:Stmt:=top 8
abbrev qO:Stmt:=top 9
abbrev vH:Stmt:=top 11
abbrev zA:Stmt:=top 12
abbrev kI:Stmt:=top 13
abbrev pJ:Stmt:=top 14
abbrev sA:Stmt:=top 15
abbrev vF:Stmt:=top 17
abbrev nL:Stmt:=top 18
abbrev vG:Stmt:=top 19
abbrev vD:Stmt:=top 20
abbrev zD:Stmt:=top 21
abbrev zy:Stmt:=top 22
abbrev pK:Stmt:=top 23
abbrev vE:Stmt:=top 25
abbrev um:Stmt:=top 26
abbrev jE:Stmt:=top 27
abbrev nF:Stmt:=top 28
abbrev sC:Stmt:=top 30
abbrev iC:Stmt:=top 31
abbrev gn:Stmt:=top 32
abbrev cY:Stmt:=top 33
abbrev pI:Stmt:=top 34
abbrev je:Stmt:=top 36
abbrev gU:Stmt:=top 38
abbrev k9:Stmt:=top 39
abbrev sx:Stmt:=top 40
abbrev jB:Stmt:=top 41
abbrev jT:Stmt:=top 42
abbrev uk:Stmt:=top 43
abbrev fH:Stmt:=top 45
abbrev jS:Stmt:=top 46
abbrev fe:Stmt:=top 47
abbrev jV:Stmt:=top 52
abbrev lg:Stmt:=top 53
abbrev kH:Stmt:=top 56
abbrev iJ:Stmt:=top 57
abbrev lO:Stmt:=top 59
abbrev jC:Stmt:=top 60
abbrev kG:Stmt:=top 61
abbrev nJ:Stmt:=top 62
abbrev iY:Stmt:=top 63
abbrev jD:Stmt:=top 64
abbrev iI:Stmt:=top 65
abbrev nI:Stmt:=top 66
abbrev fT:Stmt:=top 67
abbrev nG:Stmt:=top 68
abbrev jU:Stmt:=top 69
abbrev sy:Stmt:=top 51
abbrev iD:Stmt:=top 51
abbrev iE:Stmt:=top 51
abbrev iF:Stmt:=top 51
abbrev kE:Stmt:=top 54
abbrev kF:Stmt:=top 54
abbrev iG:Stmt:=top 55
abbrev iH:Stmt:=top 55
def JF:az ["number"] ["number"] (aq zC):=by kd_p
def de:az ["one", "other", "rest"] ["one", "other"] (aq gw):=by kd_p
def lh:az ["numbers", "divisor", "number"] ["numbers"] (aq nK):=by kd_p
def nM:az ["triple", "lead", "divisor"] ["triple", "lead"] (aq pL):=by kd_p
def gA:az ["count", "size", "found", "length", "longer", "pick", "first"] ["count", "size"] (aq qO):=by kd_p
def G8:az ["gauge", "place"] ["gauge", "place"] (aq vH):=by kd_p
def JE:az ["gauge", "place"] ["gauge", "place"] (aq zA):=by kd_p
def xg:az ["gauge", "other", "share"] ["gauge", "other", "share"] (aq kI):=by kd_p
def CL:az ["one", "other"] ["one", "other"] (aq pJ):=by kd_p
def E5:az ["place", "way"] ["place", "way"] (aq sA):=by kd_p
def G6:az ["by", "x", "y"] ["by", "x", "y"] (aq vF):=by kd_p
def AE:az ["spot"] ["spot"] (aq nL):=by kd_p
def G7:az ["one", "two", "three"] ["one", "two", "three"] (aq vG):=by kd_p
def G5:az ["one", "other"] ["one", "other"] (aq vD):=by kd_p
def JG:az ["one", "other"] ["one", "other"] (aq zD):=by kd_p
def JD:az ["way"] ["way"] (aq zy):=by kd_p
def CN:az ["way"] ["way"] (aq pK):=by kd_p
def sD:az ["places", "kept", "each"] ["places"] (aq vE):=by kd_p
def BH:az ["spots", "places"] ["spots"] (aq um):=by kd_p
def iK:az ["one", "other", "along", "across"] ["one", "other"] (aq jE):=by kd_p
def E4:az ["corners"] ["corners"] (aq nF):=by kd_p
def E6:az ["way"] ["way"] (aq sC):=by kd_p
def uo:az ["one", "other"] ["one", "other"] (aq iC):=by kd_p
def qV:az ["one", "other"] ["one", "other"] (aq gn):=by kd_p
def dY:az ["one", "two", "three", "turns"] ["one", "two", "three"] (aq cY):=by kd_p
def CK:az ["ways"] ["ways"] (aq pI):=by kd_p
def hJ:az ["spots", "place", "ways", "size", "numbers", "shares"] ["spots", "place"] (aq je):=by kd_p
def gB:az ["one", "other", "gauge", "here", "there"] ["one", "other", "gauge"] (aq gU):=by kd_p
def gW:az ["corners", "gauge", "kept", "index", "one", "other"] ["corners", "gauge"] (aq k9):=by kd_p
def pM:az ["corners", "gauges", "gauge"] ["corners", "gauges"] (aq sx):=by kd_p
def fJ:az ["corners", "gauges", "last"] ["corners", "gauges"] (aq jB):=by kd_p
def AD:az ["gauges", "numbers", "shares"] ["gauges", "numbers", "shares"] (aq jT):=by kd_p
def mr:az ["corners", "gauges", "last", "others", "numbers", "shares"] ["corners", "gauges"] (aq uk):=by kd_p
def eJ:az ["lists", "found", "index", "spots"] ["lists"] (aq fH):=by kd_p
def fU:az ["owned", "shares", "sums", "number", "share", "owner"] ["owned", "shares"] (aq jS):=by kd_p
def dO:az ["lists", "owned", "gauges", "first", "shared"] ["lists"] (aq fe):=by kd_p
def AF:az ["spots", "numbers"] ["spots", "numbers"] (aq jV):=by kd_p
def CO:az ["group", "part"] ["group", "part"] (aq lg):=by kd_p
def xf:az ["spots"] ["spots"] (aq kH):=by kd_p
def ur:az ["spots"] ["spots"] (aq iJ):=by kd_p
def zE:az ["_law_found"] ["_law_found"] (aq lO):=by kd_p
def vI:az ["_law_script", "_law_k"] ["_law_script", "_law_k"] (aq jC):=by kd_p
def bJ:az ["_law_cell", "_law_many", "_law_found", "_law_rest", "_law_k", "_law_number", "_law_other"] ["_law_cell", "_law_many"] (aq kG):=by kd_p
def lP:az ["_law_kind", "_law_number", "_law_way", "_law_step"] ["_law_kind", "_law_number", "_law_way"] (aq nJ):=by kd_p
def pP:az ["_law_kind", "_law_cells", "_law_way"] ["_law_kind", "_law_cells"] (aq iY):=by kd_p
def fK:az ["_law_one", "_law_other", "_law_here", "_law_there"] ["_law_one", "_law_other"] (aq jD):=by kd_p
def uq:az ["_law_found"] ["_law_found"] (aq iI):=by kd_p
def rn:az ["_law_found", "_law_least", "_law_most", "_law_number"] ["_law_found", "_law_least", "_law_most"] (aq nI):=by kd_p
def dq:az ["_law_group_here", "_law_spots", "_law_spot_here", "_law_k", "_law_right", "_law_above", "_law_numbers", "_law_shares"] ["_law_group_here", "_law_spots", "_law_spot_here"] (aq fT):=by kd_p
def iZ:az ["_law_found", "_law_spots", "_law_many", "_law_numbers", "_law_group_here"] ["_law_found", "_law_spots", "_law_many"] (aq nG):=by kd_p
def mv:az ["_law_script", "_law_first", "_law_rows", "_law_k", "_law_spots"] ["_law_script"] (aq jU):=by kd_p
def wM:az ["numbers", "sizes", "found", "pick", "group", "rest"] ["numbers", "sizes"] (aq sy):=by kd_p
def jg:az ["numbers", "sizes", "found", "pick", "group", "rest"] ["numbers", "sizes"] (aq iD):=by kd_p
def jh:az ["numbers", "sizes", "found", "pick", "group", "rest"] ["numbers", "sizes"] (aq iE):=by kd_p
def jj:az ["numbers", "sizes", "found", "pick", "group", "rest"] ["numbers", "sizes"] (aq iF):=by kd_p
def pN:az ["spots", "sizes", "groups", "found"] ["spots", "sizes"] (aq kE):=by kd_p
def pO:az ["spots", "sizes", "groups", "found"] ["spots", "sizes"] (aq kF):=by kd_p
def gY:az ["spots", "choices", "sizes", "found"] ["spots", "choices"] (aq iG):=by kd_p
def gZ:az ["spots", "choices", "sizes", "found"] ["spots", "choices"] (aq iH):=by kd_p
structure OY where
 PlaneError:Addr
 NoPlace:Addr
 TooFew:Addr
structure O7(K:yac)(mg:yal)(κ:OY):Prop where
 Pt:mg "PlaneError" = some (.ref κ.PlaneError)
 Qw:mg "NoPlace" = some (.ref κ.NoPlace)
 PO:mg "TooFew" = some (.ref κ.TooFew)
 RU:PD.KTT K mg "SIZES_OF_TWO" [[1,3],[2,2]]
 Ru:PD.KTT K mg "SIZES_OF_THREE" [[1,3,3],[2,2,3]]
 Pj:PySem.W.excIn K κ.TooFew Dc "ValueError.__new__" = true
 QW:PX.gc K κ.TooFew
 Oq:PySem.W.kitOne K (.ref κ.TooFew) (.ref κ.PlaneError)=some true
 OF:PySem.W.kitOne K (.ref κ.TooFew) (.ref κ.NoPlace)=some false
 OL:PySem.W.kitOne K (.ref κ.TooFew) (.ref κ.TooFew)=some true
 Ot:PySem.W.kitOne K (.ref κ.TooFew) (.type "ValueError")=some true
 Ou:PySem.W.exmOne K (.ref κ.TooFew) (.ref κ.PlaneError)=some true
 OM:PySem.W.exmOne K (.ref κ.TooFew) (.ref κ.TooFew)=some true
noncomputable def sg(n:Int):Int:=if 0<n then 1 else if n<0 then -1 else 0
def rk(a0 c e a b d:Int):Int:=if sg (c*a - b*a0)=0 then sg (e*a - d*a0)else sg (c*a - b*a0)
noncomputable def sw(a0 f e h d c g b a:Int):Int:=a0*(d*a - b*c)+h*(b*e - f*a)+g*(f*c - d*e)
structure Pl(n:Nat)(a b c:Int):Prop where
 pos:0<a
 low:PM.g3 a b c=1
 b0:Bd n a
 b1:Bd n b
 b2:Bd n c
def jO{d k x y z:Int}(f:d∣k*x)(e:d∣k*y)(c:d∣k*z)(b:PM.g3 x y z=1):d∣k:=by
 have a:d∣(Int.gcd (k*x) (k*y):Int):=Zv f e;rw[zDC]at a;have e:d∣k*(Int.gcd x y:Int):=by
  have:((k.natAbs*Int.gcd x y:Nat):Int)∣k*(Int.gcd x y:Int):=by rw[Int.natCast_mul];exact Int.mul_dvd_mul (Int.natAbs_dvd.mpr (by simp_all)) (by simp_all)
  exact XU a this
 have a:d∣(Int.gcd (k*(Int.gcd x y:Int)) (k*z):Int):=Zv e c;rw[zDC]at a;have c:Int.gcd (Int.gcd x y:Int) z=1:=b;rw[c,Nat.mul_one]at a;exact XU a (Int.natAbs_dvd.mpr (by simp_all))
abbrev Sp:=Int×Int
abbrev yas:=List (List Sp)
abbrev yat:=List Sp
def Od(p:Sp):D:=.tup [.int p.1,.int p.2]
def BI(h:Od p=Od q):p=q:=by
 unfold Od at h
 lia
theorem jr{a:Type}{f:a->D}(b:∀{p q},f p=f q->p=q):∀{ps qs:List a},ps.map f=qs.map f->ps=qs
 |[],[],_=>rfl
 |[],_::_,h=>by simp at h
 |_::_,[],h=>by simp at h
 |p::ps,q::qs,h=>by simp at h;rw[b h.1,jr b h.2]
def BJ{ps qs:yat}(h:ps.map Od=qs.map Od):ps=qs:=jr BI h
theorem nY(p:Sp):aK (Od p)=Od p:=by unfold Od;simp only[c6,bO,cg,fg]
def fL(ps:yat):bC (ps.map Od)=ps.map Od:=c8 Od nY ps
def O9(p:Sp):D:=.tup [.int 1,.int p.1,.int p.2]
def Bu(h:O9 p=O9 q):p=q:=by
 unfold O9 at h
 lia
def Jp{ps qs:yat}(h:ps.map O9=qs.map O9):ps=qs:=jr Bu h
def nX(p:Sp):aK (O9 p)=O9 p:=by unfold O9;simp only[c6,bO,cg,fg]
def nZ(ps:yat):bC (ps.map O9)=ps.map O9:=c8 O9 nX ps
def cr(a b e:Sp):Int:=sw 1 a.1 a.2 1 b.1 b.2 1 e.1 e.2
def cK:yat->Sp->yat
 |b::a::r,e=>if cr a b e<=0 then cK (a::r) e else b::a::r
 |l,_=>l
def bP:yat->yat->yat
 |acc,[]=>acc
 |acc,e::a=>bP (e::cK acc e) a
theorem q9(x:Sp):∀(acc done:yat),bP acc (done++[x])=x::cK (bP acc done) x
 |acc,[]=>rfl
 |acc,e::a=>by show bP (e::cK acc e) (a++[x])=_;rw[q9 x _ a];rfl
theorem r9:∀(st:yat) (e:Sp),∃c,st=c++cK st e
 |[],e=>⟨[],rfl⟩
 |[b],e=>⟨[],rfl⟩
 |b::a::r,e=>by unfold cK;split;obtain⟨c,q⟩:=r9 (a::r) e;exact⟨b::c,by rw[UH,<- q]⟩;exact⟨[],rfl⟩
def GS(st:yat)(e:Sp):(cK st e).length<=st.length:=by obtain⟨a,q⟩:=r9 st e;grind
def Dn{a:Type}(xs:List a)(u v:a):Qm (xs++[u]++[v]) (-2)=some u:=by have:=bb (xs:=xs++[u]++[v]) (j:=xs.length) (v:=u) (by simp);unfold Qm at this ⊢;rw[show ixN (xs++[u]++[v]).length (-2)=some xs.length by unfold ixN;simp;lia];simp
def fm{a b:Int}(c:0<b):0<=a.fmod b/\a.fmod b<b:=⟨zC4 a c,Int.fmod_lt_of_pos a c⟩
def Ya{n:Nat}{x:Int}(m:Nat)(h:x.natAbs<m)(a:m<=2 ^ n):Bd n x:=QL h a
def Vv(p:Sp):yaf:=[p.1,p.2]
def HJ(ps:yat):ps.map Od=(ps.map Vv).map PD.tupI:=by rw[O3];rfl
def cJ(ys ps:yat):Prop:=ys.Pairwise (λp q=>p.1<q.1∨(p.1=q.1/\p.2<q.2))/\∀p,p∈ys↔p∈ps
def EW{ps:yat}(h:PD.Dk a (ps.map Vv)):∃ys:yat,a=ys.map Vv/\cJ ys ps:=by
 obtain⟨d,b⟩:=h;have f:∀z∈a,∃p:Sp,z=Vv p:=λz c=>by obtain⟨p,_,e⟩:=Ol.mp ((b z).mp c);exact⟨p,e.symm⟩
 have g:∃ys:yat,a=ys.map Vv:=by
  clear d b
  induction a with
  |nil=>exact⟨[],rfl⟩
  |cons z a ih =>
   obtain⟨p,e⟩:=f z RO;obtain⟨ys,a⟩:=ih λz c=>f z (Pz _ c)
   exact⟨p::ys,by rw[e,a];rfl⟩
 obtain⟨ys,rfl⟩:=g;have a:∀{p q:Sp},Vv p=Vv q->p=q:=fun {p q} e=>by unfold Vv at e;simp only[Z7,and_true]at e;exact Wn e.1 e.2
 refine⟨ys,rfl,?_,λp=>?_⟩;refine(Zp.mp d).imp fun {p q} e=>?_
 unfold Vv SW.lexLt at e;split at e;rename_i c;unfold SW.lexLt at e;split at e;cases e;exact .inr ⟨c,by simpa using e⟩;exact .inl (by simpa using e);constructor;intro d;obtain⟨q,c,e⟩:=Ol.mp ((b (Vv p)).mp (Ol.mpr ⟨p,d,rfl⟩));rw[<- a e];exact c;intro d;obtain⟨q,c,e⟩:=Ol.mp ((b (Vv p)).mpr (Ol.mpr ⟨p,d,rfl⟩));rw[<- a e];exact c
def yb(xs:yar):PD.cutD xs none (some (-1))=xs.dropLast:=by
 unfold PD.cutD;rw[List.dropLast_eq_take];have b:HT.OU xs.length 0 none=0:=rfl;have a:HT.OU xs.length xs.length (some (-1))=xs.length - 1:=by
  unfold HT.OU;cases xs with
  |nil=>rfl
  |cons x xs=>simp;lia
 rw[b,a];simp
theorem gh:∀(acc ps:yat),(bP acc ps).length<=acc.length+ps.length
 |acc,[]=>OP _
 |acc,e::a=>by
  have:=gh (e::cK acc e) a;have b:=GS acc e;show(bP (e::cK acc e) a).length<=_;simp at this ⊢
  lia
theorem Es:∀{ys ps:yat},ys.Nodup->(∀p∈ys,p∈ps)->ys.length<=ps.length
 |[],_,_,_=>QI _
 |y::ys,ps,b,h=>by
  obtain⟨d,c⟩:=UJ.mp b;have m:=h y RO;have r:=Es (ps:=ps.erase y) c λp a=>(List.mem_erase_of_ne (λe=>by subst e;exact d a)).mpr (h p (Pz _ a))
  rw[List.length_erase_of_mem m]at r;have:0<ps.length:=List.length_pos_of_mem m;rw[Rl]
  lia
def sd(h:cJ ys ps):ys.length<=ps.length:=by
 have a:ys.Nodup:=h.1.imp fun {p q} c e=>by subst e;lia
 exact Es a λp a=>(h.2 p).mp a
def aP(ys:yat):yat:=(bP [] ys).reverse
def aU(ys:yat):yat:=if ys.length<2 then ys else(aP ys).dropLast++(aP ys.reverse).dropLast
def xY{a:Type}{wi:DA}{js:yag}{te:DE}{Q:D->Prop}{P:List a->Prop}(f g:a->D)(b:∀R:yar->Prop,(∀ys,P ys->R (ys.map f))->wi ρ R)(hz:∀ys,P ys->ys.length<=sizeLine)
  (c:∀ys,P ys->∀x∈ys,∀K:D->Prop,K (g x)->te (some (.val (f x))::js.map (bF ρ)) K) (q:∀ys,P ys->Q (.lst true (ys.map g))):mL wi js rH te ρ Q:=by
 refine b _ λys a=>?_
 have:=PD.comp_map (wi:=λ_ R=>R (ys.map f)) (js:=js) (tc:=rH) (te:=te) (ρ:=ρ) (Q:=Q) ys f (λ_=>true) g (λR h=>h) (hz ys a) (λx b K k=>k) (λx b _ K k=>c ys a x b K k) (by rw[RN.mpr (λ_ _=>rfl)];exact q ys a);exact this
structure SB(p:Sp):Prop where
 x:Bd 60 p.1
 y:Bd 60 p.2
def gg(p q:Sp):Prop:=p.1<q.1∨(p.1=q.1/\p.2<q.2)
def cC(a b e:Sp):cr a b e=(b.1 - a.1)*(e.2 - a.2) - (b.2 - a.2)*(e.1 - a.1):=by unfold cr sw;grind
def fA(A B:Int)(p:Sp):Int:=A*p.1+B*p.2
def cx(a b c d:Sp):Int:=(b.1 - a.1)*(d.2 - c.2) - (b.2 - a.2)*(d.1 - c.1)
def Cb(A B:Int)(a b c d e g:Sp):cx a b e g*(fA A B d - fA A B c)=cx c d e g*(fA A B b - fA A B a)+cx a b c d*(fA A B g - fA A B e):=by unfold cx fA;grind
def GU{x y:Int}(h:0<x*y)(a:0<y):0<x:=by
 by_cases c:0<x;exact c;have:=PV (show 0<=-x by lia) (PK a);rw[R8]at this
 lia
def LA{x y:Int}(h:0<=x*y)(a:0<y):0<=x:=by
 by_cases c:0<=x;exact c;have:=TH (show 0 < -x by lia) a;rw[R8]at this
 lia
def Hn(j:fA A B a<fA A B b)(h:fA A B c<fA A B d)(f:fA A B e<fA A B g)(p:0<cx a b c d)(q:0<=cx c d e g):0<cx a b e g:=by have i:=Cb A B a b c d e g;have u:=PV q (show 0<=fA A B b - fA A B a by lia);have v:=TH p (show 0<fA A B g - fA A B e by lia);exact GU (y:=fA A B d - fA A B c) (by lia) (by lia)
def Hm(j:fA A B a<fA A B b)(h:fA A B c<fA A B d)(f:fA A B e<fA A B g)(p:0<=cx a b c d)(q:0<cx c d e g):0<cx a b e g:=by have i:=Cb A B a b c d e g;have u:=TH q (show 0<fA A B b - fA A B a by lia);have v:=PV p (show 0<=fA A B g - fA A B e by lia);exact GU (y:=fA A B d - fA A B c) (by lia) (by lia)
def Mp(j:fA A B a<fA A B b)(h:fA A B c<fA A B d)(f:fA A B e<fA A B g)(p:0<=cx a b c d)(q:0<=cx c d e g):0<=cx a b e g:=by have i:=Cb A B a b c d e g;have u:=PV q (show 0<=fA A B b - fA A B a by lia);have v:=PV p (show 0<=fA A B g - fA A B e by lia);exact LA (y:=fA A B d - fA A B c) (by lia) (by lia)
def cx1(a b e:Sp):cr a b e=cx a b a e:=by rw[cC];rfl
def cx2(a b e:Sp):cr a b e=cx a b b e:=by rw[cC];unfold cx;grind
def cx3(a b e:Sp):cr a b e=cx a e b e:=by rw[cC];unfold cx;grind
def cx4(a b e:Sp):cr a b e=cx e a a b:=by rw[cC];unfold cx;grind
def cx5(a b e:Sp):cr a b e=cx e b a b:=by rw[cC];unfold cx;grind
def Ig(a b c d:Sp):cx a b c d=- cx c d a b:=by unfold cx;grind
def Kd(a b:Sp):cr a b a=0:=by rw[cC];grind
def Ke(a b:Sp):cr a b b=0:=by rw[cC];grind
structure Yb(A B:Int)(st done:yat):Prop where
 e2:∀b a r,(b::a::r) <:+ st->∀p∈done,0<=cr a b p
 e3:∀c b a r,(c::b::a::r) <:+ st->0<cr a b c
 ord:st.Pairwise λb a=>fA A B a<fA A B b
 mem:∀p∈st,p∈done
 top:∀b r,st=b::r->∀p∈done,fA A B p<=fA A B b
 bot:done ≠ []->∃pre a,st=pre++[a]/\∀p∈done,fA A B a<=fA A B p
def C2{b a:Sp}{r st:yat}(h:b::a::r <:+ st)(o:st.Pairwise R):R b a:=by obtain⟨c,rfl⟩:=h;exact(Tc.mp (zDF.mp o).2.1).1 a RO
theorem EU(I:Yb A B st0 done)(d:∀p∈done,fA A B p<fA A B x):∀(st:yat),st <:+ st0->(∀b r,st=b::r->∀p∈done,fA A B b<fA A B p->0<=cr b x p) →
  (∀b a r,cK st x=b::a::r->0<cr a b x)/\(∀b r,cK st x=b::r->∀p∈done,fA A B b<fA A B p->0<=cr b x p)
 |[],_,h=>⟨λb a r e=>(by cases e),λb r e=>(by cases e)⟩
 |[b],_,h=>⟨λb a r e=>(by cases e),h⟩
 |b::a::r,s,h=>by
  unfold cK;split;rename_i c;refine EU I d (a::r) (List.IsSuffix.trans (List.suffix_cons _ _) s) λk g e p j i=>?_
  cases e;have o:=C2 s I.ord;have f:=I.e2 b a r s p j;have b:=d a (I.mem a (s.subset (by simp)));rw[cx1]at f c ⊢;rw[Ig]at c;exact Mp b o i (by lia) f;rename_i c;refine⟨λk l g e=>?_,h⟩;cases e
  lia
theorem far(I:Yb A B st0 done)(c:∀p∈done,fA A B p<fA A B x):∀(st:yat),st <:+ st0->(∀b a r,st=b::a::r->0<cr a b x)->∀b a r,b::a::r <:+ st->0<cr a b x
 |[],_,_=>λb a r e=>by have:=e.length_le;simp at this
 |b::st,s,h=>λf g b e=>by
  rcases List.suffix_cons_iff.mp e with q|q;exact h _ _ _ q.symm;refine far I c st (List.IsSuffix.trans (List.suffix_cons _ _) s) (λa i r d=>?_) f g b q;subst d;have d:=h _ _ _ rfl;have b:=I.e3 _ _ _ _ s;have g:=C2 s I.ord;have f:=C2 (List.IsSuffix.trans (List.suffix_cons _ _) s) I.ord;have e:=c a (I.mem a (s.subset (by simp)));rw[cx2]at b ⊢;rw[cx1]at d;exact Hn f g e b (PK d)
theorem Bv:∀{st:yat},st ≠ []->cK st x ≠ []
 |[],h=>absurd rfl h
 |[b],_=>by simp[cK]
 |b::a::r,_=>by unfold cK;split;exact Bv (by simp);simp
def Gn{A B:Int}{st done:yat}{x:Sp}(I:Yb A B st done)(h:∀p∈done,fA A B p<fA A B x)(m:∀p∈done,∀q∈done,fA A B p=fA A B q->p=q)(u:done=[]->st=[]):Yb A B (x::cK st x) (done++[x]):=by
 have s:cK st x <:+ st:=by obtain⟨f,q⟩:=r9 st x;exact⟨f,q.symm⟩
 obtain⟨n,w⟩:=EU I h st (List.suffix_refl _) λb r e p d y=>absurd (I.top b r e p d) (by lia)
 have F:=far I h _ s n;refine⟨λb a r e p d=>?_,λc b a r e=>?_,?_,λp d=>?_,λb r e p d=>?_,λ_=>?_⟩;rcases List.suffix_cons_iff.mp e with q|q;injection q with l b;subst l;rcases PU.mp d with d|d;rcases WQ (fA A B p) (fA A B a)with c|c|c;rcases r with _|⟨z,r⟩;obtain⟨f,C,g,i⟩:=I.bot (List.ne_nil_of_mem d);rw[<- b]at s;obtain⟨k,j⟩:=s;rw[g]at j;have:=List.append_inj_right' j (by simp);simp at this;have:=i p d
 subst_vars
 lia
 have i:=n _ _ _ b.symm;rw[<- b]at s;have r:=I.e2 _ _ _ s p d;have o:=C2 s I.ord;have t:=h a (I.mem a (s.subset (by simp)));rw[cx2]at i;rw[cx5]at r;rw[cx4];exact PK (Hm c o t r i);rw[m p d a (I.mem a (s.subset (by rw[<- b];simp))) c,Kd];exact RZ _;exact w _ _ b.symm p d c;rw[QU.mp d,Ke];exact RZ _;rcases PU.mp d with d|d;exact I.e2 _ _ _ (q.trans s) p d;rw[QU.mp d];exact PK (F _ _ _ q);rcases List.suffix_cons_iff.mp e with q|q;injection q with l b;subst l;exact n _ _ _ b.symm;exact I.e3 _ _ _ _ (q.trans s);exact Tc.mpr ⟨λa b=>h a (I.mem a (s.subset b)),I.ord.sublist s.sublist⟩;rcases Ov.mp d with q|q;rw[q];simp;exact TF _ (I.mem p (s.subset q));injection e with g j;subst g;rcases PU.mp d with q|q;exact PK (h p q);rw[QU.mp q];exact RZ _;by_cases b:done=[];rw[u b,b];exact⟨[],x,rfl,λp d=>by simp at d;rw[d];exact RZ _⟩;obtain⟨f,a,g,i⟩:=I.bot b;obtain⟨k,j⟩:=s;have f:cK st x ≠ []:=Bv (by rw[g];simp);obtain⟨c,b,e⟩:∃c b,cK st x=c++[b]:=⟨_,_,(Zf f).symm⟩;have:b=a:=by rw[e,g,<- UI]at j;have:=List.append_inj_right' j (by simp);simpa using this
 subst this;refine⟨x::c,b,by rw[e];rfl,λp d=>?_⟩;rcases PU.mp d with q|q;exact i p q;rw[QU.mp q];exact PK (h b (I.mem b (by rw[g];simp)))
theorem wC:∀(es st done:yat),Yb A B st done->(done=[]->st=[])->(done++es).Pairwise (λp q=>fA A B p<fA A B q)->Yb A B (bP st es) (done++es)
 |[],st,done,I,_,_=>by rw[VB];exact I
 |x::es,st,done,I,h,o=>by
  obtain⟨g,i,f⟩:=zDF.mp o;have d:∀(l:yat),l.Pairwise (λp q=>fA A B p<fA A B q)->∀p∈l,∀q∈l,fA A B p=fA A B q->p=q:=by
   intro l
   induction l with
   |nil=>intro _ p c;cases c
   |cons y l ih =>
    intro o p c q b e;obtain⟨u,v⟩:=Tc.mp o;rcases Ov.mp c with a|a<;>rcases Ov.mp b with b|b;rw[a,b];have:=u q b;rw[a]at e;lia;have:=u p a;rw[b]at e;lia;exact ih v p a q b e
  have:=wC es (x::cK st x) (done++[x]) (Gn I (λp c=>f p c x RO) (d done g) h) (by simp) (by rw[UI];exact o);rw[UI]at this;exact this
def IH(A B:Int):Yb A B [] []:=⟨λb a r e=>by have:=e.length_le;simp at this,λc b a r e=>by have:=e.length_le;simp at this,.nil,λp a=>a,λb r e=>(by cases e),λh=>absurd rfl h⟩
def Lk{ys:yat}(o:ys.Pairwise λp q=>fA A B p<fA A B q):Yb A B (bP [] ys) ys:=by
 have:=wC ys [] [] (IH A B) (λ_=>rfl) (by simp_all)
 simp_all
structure Way(A B:Int)(ps:yat)(n:Nat)(l:Nat->Sp):Prop where
 two:2<=n
 PL:∀i,i+1<n->∀p∈ps,0<=cr (l i) (l (i+1)) p
 Ts:∀i,i+2<n->0<cr (l i) (l (i+1)) (l (i+2))
 rise:∀i j,i<j->j<n->fA A B (l i)<fA A B (l j)
 mem:∀i,i<n->l i∈ps
 lo:∀p∈ps,fA A B (l 0)<=fA A B p
 hi:∀p∈ps,fA A B p<=fA A B (l (n - 1))
def cw(A B:Int)(p:Sp):fA (-A) (-B) p=- fA A B p:=by unfold fA;grind
def Hb{n m:Nat}(L:Way A B ps (n+2) l)(U:Way (-A) (-B) ps (m+2) u)(f:l (n+1)=u 0)(h:0<n+m):0<cr (l n) (l (n+1)) (u 1):=by
 have d:=L.rise n (n+1) (by simp_all) (by simp_all);have c:=U.rise 0 1 Nat.one_pos (by lia);rw[cw,cw,Int.neg_lt_neg_iff]at c;rw[f]at d ⊢;have g:cr (l n) (u 0) (u 1)=cx (u 1) (u 0) (l n) (u 0):=by rw[cC];unfold cx;grind
 rw[g];cases n with
 |succ a =>
  have b:=L.Ts a (by simp_all);have o:=L.rise a (a+2) (by lia) (by simp_all);have e:=U.PL 0 (by lia) (l a) (L.mem a (by lia));have h:l (a+2)=u 0:=f;rw[h]at o b;have g:cr (u 0) (u 1) (l a)=cx (u 1) (u 0) (l a) (u 0):=by rw[cC];unfold cx;grind
  rw[g]at e;rw[cx3]at b;exact Hm (A:=A) (B:=B) c o d e b
 |zero =>
  cases m with
  |zero=>lia
  |succ m =>
   have b:=U.Ts 0 (by lia);have o:=U.rise 0 2 (by decide) (by lia);rw[cw,cw,Int.neg_lt_neg_iff]at o;have e:=L.PL 0 (by simp_all) (u 2) (U.mem 2 (by lia));have h:l (0+1)=u 0:=f;rw[h]at e;have g:cr (l 0) (u 0) (u 2)=cx (u 2) (u 0) (l 0) (u 0):=by rw[cC];unfold cx;grind
   have i:cr (u 0) (u 1) (u 2)=cx (u 1) (u 0) (u 2) (u 0):=by rw[cC];unfold cx;grind
   rw[g]at e;have a:0<cx (u 1) (u 0) (u 2) (u 0):=by simp_all
   exact Hn (A:=A) (B:=B) c o d a e
def BA{n m:Nat}{h:Nat->Sp}(L:Way A B ps (n+2) l)(U:Way (-A) (-B) ps (m+2) u)(g:l (n+1)=u 0)(c:u (m+1)=l 0)(f:0<n+m)
  (b:∀k,k<n+2->h k=l k) (d:∀j,j<m+1->h (n+1+j)=u j):(∀k,k<n+m+2->∀p∈ps,0<=cr (h ((k+(n+m+2) - 1) % (n+m+2))) (h k) p)/\0<cr (h 0) (h 1) (h 2):=by
 refine⟨λk i p a=>?_,?_⟩;cases k with
 |zero =>
  have e:(0+(n+m+2) - 1) % (n+m+2)=n+1+m:=by simp_all [UM,SU,VD,Nat.add_right_comm]
  rw[e,d m (by simp_all),b 0 (by simp_all),<- c];exact U.PL m (by simp_all) p a
 |succ k =>
  have e:(k+1+(n+m+2) - 1) % (n+m+2)=k:=by
   rw[Nat.add_right_comm]
   simp_all [Zr,SU,zC7]
  rw[e];by_cases c:k+1<n+2;rw[b k (zC7 c),b (k+1) c];exact L.PL k c p a;obtain⟨j,rfl⟩:=Nat.le.dest (Nat.le_of_succ_le_succ (XS c));have c:j+1<m+1:=by lia
  rw[d j (zC7 c),Nat.add_assoc,d (j+1) c];exact U.PL j (XQ c) p a
 cases n with
 |succ a =>
  have z:2<a+1+2:=by lia
  rw[b 0 (Wm _),b 1 (by simp_all),b 2 z];exact L.Ts 0 z
 |zero =>
  have z:1<m+1:=by lia
  rw[b 0 (by decide),b 1 (by decide),show h 2=u 1 from d 1 z];exact Hb L U g f
def uJ{ys:yat}(o:ys.Pairwise λp q=>fA A B p<fA A B q)(d:2<=ys.length):Way A B ys (aP ys).length λi=>(aP ys).getD i (0,0):=by
 have I:=Lk o;obtain⟨c,a,h,l⟩:=I.bot (by intro e;rw[e]at d;simp at d);have g:2<=(aP ys).length:=by
  unfold aP;rw[Vm,h];rcases c with _|⟨b,c⟩;have t:=I.top a [] (by simpa using h);rcases ys with _|⟨f,_|⟨c,r⟩⟩;simp at d;simp at d;have q:=(Tc.mp o).1 c (by simp);have n:=l f (by simp);have f:=t c (by simp)
  lia
  simp
 have sp1:∀i,i<(aP ys).length->(aP ys)[i]?=some ((aP ys).getD i (0,0)):=λi c=>by rw[Pg,OH c];rfl
 have k:bP [] ys=(aP ys).reverse:=by unfold aP;rw[List.reverse_reverse]
 refine⟨g,λi c p d=>?_,λi c=>?_,λi j m g=>?_,λi c=>?_,λp d=>?_,λp d=>?_⟩;refine I.e2 _ _ ((aP ys).take i).reverse ⟨((aP ys).drop (i+2)).reverse,?_⟩ p d;rw[k];have q:=Z6 i (aP ys);rw[Wi (show i<(aP ys).length by lia),Wi c]at q;have f:=congrArg List.reverse q;simp only[Pg,OH (show i<(aP ys).length by lia),OH c,zDG];simpa only[List.reverse_append,Zq,UI,UH,UZ]using f;refine I.e3 _ _ _ ((aP ys).take i).reverse ⟨((aP ys).drop (i+3)).reverse,?_⟩;rw[k];have q:=Z6 i (aP ys);rw[Wi (show i<(aP ys).length by lia),Wi (show i+1<(aP ys).length by lia),Wi c]at q;have f:=congrArg List.reverse q;simp only[Pg,OH (show i<(aP ys).length by lia),OH (show i+1<(aP ys).length by lia),OH c,zDG];simpa only[List.reverse_append,Zq,UI,UH,UZ]using f;have f:(aP ys).Pairwise λa b=>fA A B a<fA A B b:=by exact List.pairwise_reverse.mpr I.ord
 have:=(Vi.mp f) i j (by lia) g m;simp only[Pg,OH (show i<(aP ys).length by lia),OH g,zDG];exact this;refine I.mem _ ?_;rw[k,List.mem_reverse];exact Qh (sp1 i c);have:(aP ys).getD 0 (0,0)=a:=by unfold aP;rw[h];simp
 rw[this];exact l p d;have e:=sp1 ((aP ys).length - 1) (by lia);generalize (aP ys).getD ((aP ys).length - 1) (0,0)=b at e ⊢;refine I.top b (bP [] ys).tail ?_ p d;rw[<- zDM]at e;unfold aP at e;cases hc:bP [] ys with
 |nil=>rw[hc]at e;simp at e
 |cons x r=>rw[hc]at e;simp at e;rw[e];rfl
theorem yF:∀{l:yat},l.Pairwise (λp q=>fA A B p<fA A B q)->∀p∈l,∀q∈l,fA A B p=fA A B q->p=q
 |[],_,p,a=>by cases a
 |y::l,o,p,a=>λq b e=>by
  obtain⟨u,v⟩:=Tc.mp o;rcases Ov.mp a with a|a<;>rcases Ov.mp b with b|b;rw[a,b];have:=u q b;rw[a]at e;lia;have:=u p a;rw[b]at e;lia;exact yF v p a q b e
def Way.to{ps qs:yat}(h:∀p,p∈qs↔p∈ps)(W:Way A B ps n l):Way A B qs n l :=
 ⟨W.two,λi b p a=>W.PL i b p ((h p).mp a),W.Ts,W.rise,λi b=>(h _).mpr (W.mem i b),λp a=>W.lo p ((h p).mp a),λp a=>W.hi p ((h p).mp a)⟩
theorem FW:∀ys:yat,∃M:Int,0<M/\∀p∈ys,-M<p.2/\p.2<M
 |[]=>⟨1,by decide,λp a=>by cases a⟩
 |y::ys=>by
  obtain⟨M,b,h⟩:=FW ys;refine⟨M+y.2.natAbs+1,by lia,λp a=>?_⟩;rcases Ov.mp a with q|q;rw[q];lia;have:=h p q;lia
def tZ{M:Int}{p q:Sp}(h0:0<M)(b:-M<p.2/\p.2<M)(a:-M<q.2/\q.2<M)(h:gg p q):fA (2*M) 1 p<fA (2*M) 1 q:=by
 unfold fA;rcases h with h|⟨d,c⟩;have:=zCO (show p.1+1<=q.1 by lia) (show 0<=2*M by lia)
 lia
 lia
def bU(hs:yat)(k:Nat):Sp:=hs.getD ((k+hs.length - 1) % hs.length) (0,0)
structure mG(hs ps:yat):Prop where
 mem:∀p∈hs,p∈ps
 len:hs.length<=2*ps.length
 TU:ps ≠ []->∃a r,hs=a::r/\∀p∈ps,¬gg p a
 one:∀a,hs=[a]->∀p∈ps,p=a
 two:∀a b,hs=[a,b]->a≠b/\∀p∈ps,cr a b p=0/\¬gg b p
 PL:2<hs.length->∀k,k<hs.length->∀p∈ps,0<=cr (bU hs k) (hs.getD k (0,0)) p
 Ts:2<hs.length->0<cr (hs.getD 0 (0,0)) (hs.getD 1 (0,0)) (hs.getD 2 (0,0))
def bV(h:cJ ys ps):mG (aU ys) ps:=by
 have H:=sd h;obtain⟨o,f⟩:=h;unfold aU;by_cases c:ys.length<2;rw[N4 c];refine⟨λp d=>(f p).mp d,by lia,λe=>?_,λa e p d=>?_,λa b e=>?_,λq=>absurd q (by lia),λq=>absurd q (by lia)⟩;rcases ys with _|⟨y,_|⟨z,r⟩⟩;cases ps with
 |nil=>exact absurd rfl e
 |cons y r=>have:=(f y).mpr RO;cases this
 refine⟨y,[],rfl,λp d=>?_⟩;have:=(f p).mpr d;rw[QU.mp this];exact λq=>q.elim (Wl _) λq=>Wl _ q.2
 exact absurd c (by simp);have:=(f p).mpr d;rw[e]at this;exact QU.mp this;rw[e]at c;simp at c;rw[N2 c];obtain⟨M,m,i⟩:=FW ys;have k:ys.Pairwise λp q=>fA (2*M) 1 p<fA (2*M) 1 q:=by refine List.Pairwise.imp_of_mem ?_ o;intro p q d g h;exact tZ m (i p d) (i q g) h
 have n:ys.reverse.Pairwise λp q=>fA (-(2*M)) (-1) p<fA (-(2*M)) (-1) q:=by refine List.pairwise_reverse.mpr (k.imp ?_);intro p q h;rw[cw,cw];exact Int.neg_lt_neg h
 have L:=(uJ k (XS c)).to (qs:=ps) λp=>(f p).symm
 have U:=(uJ n (by rw[Vm];exact XS c)).to (qs:=ps) λp=>by rw[List.mem_reverse];exact(f p).symm
 have h:(aP ys).length<=ys.length:=by have:=gh [] ys;unfold aP;rw[Vm];simpa using this
 have c:(aP ys.reverse).length<=ys.length:=by have:=gh [] ys.reverse;unfold aP;rw[Vm];simpa using this
 generalize aP ys=l at L h ⊢;generalize aP ys.reverse=u at U c ⊢;have j:∀p∈ps,∀q∈ps,fA (2*M) 1 p=fA (2*M) 1 q->p=q:=λp d q g e=>yF k p ((f p).mpr d) q ((f q).mpr g) e
 have y:∀p∈ps,∀q∈ps,fA (2*M) 1 p<=fA (2*M) 1 q->¬gg q p:=λp d q g e x =>
  Int.not_le_of_gt (tZ m (i q ((f q).mpr g)) (i p ((f p).mpr d)) x) e
 generalize 2*M=A at L U j y;clear k n i m o f;obtain⟨n,o⟩:∃n,l.length=n+2:=⟨l.length - 2,by have:=L.two;lia⟩;obtain⟨m,f⟩:∃m,u.length=m+2:=⟨u.length - 2,by have:=U.two;lia⟩;have c:(l.dropLast++u.dropLast).length=n+m+2:=by
  rw[QZ,Wj,Wj,o,f];show n+1+(m+1)=_
  lia
 have g:∀{w:yat} {x:Sp},x∈w.dropLast->x∈w:=fun {w x} h=>(List.dropLast_sublist w).subset h
 have C:∀{w:yat} {i:Nat} (h:i<w.length),w.getD i (0,0)=w[i]:=fun {w i} h=>by rw[Pg,OH h];rfl
 rw[o]at L;rw[f]at U;have w:l.getD (n+1) (0,0)=u.getD 0 (0,0):=by have s:=L.mem (n+1) (VD _);have k:=U.mem 0 (Wm _);have x:=L.hi _ k;have t:=U.lo _ s;rw[cw,cw]at t;exact j _ s _ k (Zw (zDD t) x)
 have B:u.getD (m+1) (0,0)=l.getD 0 (0,0):=by have s:=L.mem 0 (Wm _);have k:=U.mem (m+1) (VD _);have x:=L.lo _ k;have t:=U.hi _ s;rw[cw,cw]at t;exact j _ k _ s (Zw (zDD t) x)
 have x:∀j,j<m+1->(l.dropLast++u.dropLast).getD (n+1+j) (0,0)=u.getD j (0,0):=λj k=>by
  have ld:l.dropLast.length=n+1:=by rw[Wj,o];rfl
  rw[Pg,Pg,Vg (by rw[ld];exact XR _ _),ld,Nat.add_sub_cancel_left,zC5,f,N4 (show j<m+2 - 1 from k)]
 have s:∀k,k<n+2->(l.dropLast++u.dropLast).getD k (0,0)=l.getD k (0,0):=λk j=>by
  rcases Nat.lt_or_eq_of_le (Nat.le_of_lt_succ j)with z|z;rw[Pg,Pg,UE (by rw[Wj,o];exact z),zC5,o,N4 (show k<n+2 - 1 from z)];rw[z,w];exact x 0 (Wm _)
 have t:=s 0 (Wm _);refine⟨λp d=>?_,by rw[c];lia,λe=>?_,λa e=>?_,λa b e=>?_,λq=>?_,λq=>?_⟩;rcases PU.mp d with z|z;obtain⟨i,h,e⟩:=List.mem_iff_getElem.mp (g z);rw[<- e,<- C h];exact L.mem i (by rw[<- o];exact h);obtain⟨i,h,e⟩:=List.mem_iff_getElem.mp (g z);rw[<- e,<- C h];exact U.mem i (by rw[<- f];exact h);cases hh:l.dropLast++u.dropLast with
 |nil=>rw[hh]at c;exact absurd c (by simp)
 |cons a r =>
  rw[hh]at t;refine⟨a,r,rfl,λp d=>?_⟩;rw[show a=l.getD 0 (0,0)from t];exact y _ (L.mem 0 (Wm _)) p d (L.lo p d)
 rw[e]at c;simp at c;have f:n=0/\m=0:=by rw[e]at c;simp at c;lia
 obtain⟨rfl,rfl⟩:=f;have f:=s 1 (by decide);rw[e]at t f;have h:a=l.getD 0 (0,0):=t;have e:b=l.getD 1 (0,0):=f;have f:l.getD 1 (0,0)=u.getD 0 (0,0):=w;have g:u.getD 1 (0,0)=l.getD 0 (0,0):=B;refine⟨λi=>?_,λp d=>?_⟩;have:=L.rise 0 1 (by decide) (by decide);rw[<- h,<- e,i]at this;exact Wl _ this;have m:=L.PL 0 (by decide) p d;have l:=U.PL 0 (by decide) p d;have i:=L.hi p d;have G:0<=cr a b p:=by rw[h,e];exact m
 have E:0<=cr b a p:=by rw[e,f,h,<- g];exact l
 have f:fA A 1 p<=fA A 1 b:=by rw[e];exact i
 have I:cr b a p=- cr a b p:=by rw[cC,cC];grind
 refine⟨by lia,y p d b ?_ f⟩;rw[e];exact L.mem 1 (by decide);intro k j p d;rw[c]at j q;have R:=(BA L U w B (by lia) s x).1 k j p d;unfold bU;rw[c];exact R;rw[c]at q;exact(BA L U w B (by lia) s x).2
def xN{a:Type}(xs:List a)(j b:Nat)(d:j<xs.length)(e:b<=xs.length):Qm xs ((j:Int) - (b:Int))=xs[(j+xs.length - b) % xs.length]?:=by
 unfold Qm ixN;by_cases c:b<=j;rw[N4 (by lia),N4 (by lia),show j+xs.length - b=j - b+xs.length by lia,Zr,SU (by lia)];show xs[((j:Int) - (b:Int)).toNat]?=_;congr 1
 lia
 rw[N2 (by lia),N4 (by lia),SU (by lia)];show xs[((j:Int) - (b:Int)+(xs.length:Int)).toNat]?=_;congr 1
 lia
def HI(lo hi:Int):gQ lo hi 1=(hi - lo).toNat:=by
 unfold gQ Builtin.Range.rangeSize;rw[N4 (by decide)];by_cases h:lo<hi;rw[N4 h,Int.ediv_one]
 lia
 rw[N2 h]
 lia
def si(n:Nat):ix 0 1 (gQ 0 (n:Int) 1)=(List.range' 0 n).map λ(k:Nat)=>D.int (k:Int):=by unfold ix;rw[HI,show((n:Int) - 0).toNat=n by lia,List.range'_eq_map_range,O3];apply Vz;intro k _;simp
def Ex(p:Sp):Ry 1 (O9 p):=Ry.tup (.cons (.int _ _) (.cons (.int _ _) (.cons (.int _ _) (.nil _))))
noncomputable def dF(a:yag):Nat:=match a.getLast? with
 |none=>0
 |some l=>l+1
def S7(n:Nat)(a:yag):List (yag):=(List.range' (dF a) (n - dF a)).map λk=>a++[k]
def Oi(n:Nat):Nat->List (yag)
 |0=>[[]]
 |j+1=>(Oi n j).flatMap (S7 n)
def QX(a:yag):D:=.lst true (a.map λ(k:Nat)=>D.int (k:Int))
theorem bM:∀{j:Nat} {a:yag},a∈Oi n j->a.length=j/\∀k∈a,k<n
 |0,a,h=>by simp only[Oi,QU]at h;subst h;simp
 |j+1,a,h=>by
  simp only[Oi,Yr]at h;obtain⟨q,a,h⟩:=h;obtain⟨c,b⟩:=bM a;unfold S7 at h;obtain⟨k,a,rfl⟩:=Ol.mp h;rw[XO]at a;refine⟨by simp[c],λx a=>?_⟩;rcases PU.mp a with z|z;exact b x z;simp at z;subst z;lia
theorem ve(n:Nat):∀j:Nat,(Oi n j).length<=n ^ j
 |0=>by simp[Oi]
 |j+1=>by
  have ih:=ve n j;simp only[Oi];have:∀l:List (yag),(l.flatMap (S7 n)).length<=l.length*n:=by
   intro l
   induction l with
   |nil=>simp
   |cons a r ih =>
    rw[Z9,QZ,Rl,Nat.add_mul];have:(S7 n a).length<=n:=by unfold S7;rw[N3,Tb];lia
    lia
  refine Pe (this _) ?_;rw[VH];exact XJ _ ih
def BC(a b:Nat):ix (a:Int) 1 (gQ a b 1)=(List.range' a (b - a)).map λ(k:Nat)=>D.int (k:Int):=by
 unfold ix
 simp_all [HI,List.range'_eq_map_range,O3,Vz]
theorem yG(n:Nat):∀l:List (yag),(l.flatMap (S7 n)).length<=l.length*n
 |[]=>by simp
 |a::r=>by
  rw[Z9,QZ,Rl,Nat.add_mul];have:=yG n r;have:(S7 n a).length<=n:=by unfold S7;grind
  lia
def HY{a:yag}(h:a ≠ []){Q:D->Prop}(q:Q (.int ((dF a:Nat) - 1:Int))):∃d,Qm (a.map λ(k:Nat)=>D.int (k:Int)) (-1)=some d/\Q d:=by
 obtain⟨r,l,rfl⟩:∃r l,a=r++[l]:=⟨a.dropLast,a.getLast h,(Zf h).symm⟩;refine⟨.int l,?_,?_⟩;unfold Qm ixN;have e:(-1+((r.length:Int)+1)).toNat=r.length:=by lia
 have l:(1:Int)<=(r.length:Int)+1:=by lia
 simp_all
 have:((dF (r++[l]):Nat):Int) - 1=l:=by unfold dF;simp
 simp_all
abbrev Tr:=Int×Int×Int
abbrev yau:=List (Int×Tr)
abbrev yav:=List Tr
noncomputable def tn(a b:Sp):Int:=a.1*b.2 - b.1*a.2
def Oz(a b:Sp):Int:=a.1*b.1+a.2*b.2
def N9(h:Tr)(p:Sp):Sp:=(h.1*p.1 - 1*h.2.1,h.1*p.2 - 1*h.2.2)
noncomputable def NX(g h:Tr):Int:=g.1*h.1+g.2.1*h.2.1+g.2.2*h.2.2
noncomputable def eQ(a b:Sp):Tr:=(a.1*b.2 - b.1*a.2,a.2*1 - b.2*1,1*b.1 - 1*a.1)
def cu(a w:Sp):Tr:=(-(w.1*a.1+w.2*a.2),w.1*1,w.2*1)
def TV(a:Sp):Sp:=(-a.1,-a.2)
noncomputable def S8(a:Sp):Sp:=(-a.2,a.1)
noncomputable def aS(a b:Sp):Sp:=if a=b then(1,0)else(1*b.1 - 1*a.1,1*b.2 - 1*a.2)
def eN(a b:Sp):yav:=[cu a (aS a b),cu b (TV (aS a b)),cu a (S8 (aS a b)),cu a (TV (S8 (aS a b)))]
def aJ(hs:yat):yav:=if hs.length<3 then eN (hs.getD 0 (0,0)) (hs.getD (hs.length - 1) (0,0))else(List.range' 0 hs.length).map λk=>eQ (bU hs k) (hs.getD k (0,0))
def uK(a:Sp):Prop:=a=(0,0)
def ir(a b:Sp):Prop:=tn a b=0/\Oz a b<0
def dS(a b e:Sp):Prop:=(0<tn b e/\0<tn e a/\0<tn a b)∨(tn b e<0/\tn e a<0/\tn a b<0)
def cA(a b:Sp):tn a b=- tn b a:=by unfold tn;grind
def qQ(a:Sp):tn a a=0:=by unfold tn;grind
def rK(a b:Sp):Oz a b=Oz b a:=by unfold Oz;grind
def ir.symm(h:ir a b):ir b a:=⟨by have:=cA a b;have:=h.1;lia,by rw[rK];exact h.2⟩
def dS.Xy(h:dS a b e):dS b e a:=by unfold dS at h ⊢;lia
def dS.swap(h:dS a b e):dS b a e:=by
 unfold dS at h ⊢;have:=cA a b;have:=cA b e;have:=cA e a
 lia
def Yc(a:Int):0<=a*a:=by
 rcases Int.le_total 0 a with h|h;exact PV h h;have:=PV (show 0<=-a by lia) (show 0<=-a by lia)
 lia
def j4{w:Sp}(h:w≠(0,0)):0<Oz w w:=by
 obtain⟨a,b⟩:=w;unfold Oz;dsimp only;have f:=Yc a;have e:=Yc b;by_cases d:a=0;by_cases c:b=0
 lia
 have:b*b≠0:=by simp_all
 omega;have:a*a≠0:=by simp_all
 omega
def uU{b c:Sp}{y z:Int}(e:0<y)(hz:0<z)(h:y*b.1+z*c.1=0)(g:y*b.2+z*c.2=0):uK b∨ir b c:=by
 by_cases a:b=(0,0);exact .inl a
 right
 have p:=j4 a;have t:z*tn b c=0:=by
  have:z*tn b c=b.1*(y*b.2+z*c.2) - b.2*(y*b.1+z*c.1):=by unfold tn;grind
  simp_all
 have d:z*Oz b c=- (y*Oz b b):=by
  have:z*Oz b c+y*Oz b b=b.1*(y*b.1+z*c.1)+b.2*(y*b.2+z*c.2):=by unfold Oz;grind
  grind
 have f:=TH e p;refine⟨?_,?_⟩;rcases Sz.mp t with q|q<;>lia;by_cases q:Oz b c<0;exact q;have:=PV (PK hz) (show 0<=Oz b c by lia)
 lia
def FV(a b c:Sp):tn b c*a.1+tn c a*b.1+tn a b*c.1=0/\tn b c*a.2+tn c a*b.2+tn a b*c.2=0:=by unfold tn;constructor<;>grind
def rY{c:Sp}{z:Int}(hz:0<z)(b:z*c.1=0)(a:z*c.2=0):uK c:=by
 rcases Sz.mp b with q|q
 lia
 rcases Sz.mp a with r|r
 lia
 exact Wn q r
def Ib(i:0<=tn b c)(h:0<=tn c a)(hz:0<=tn a b)(hs:0<tn b c+tn c a+tn a b) :
  uK a∨uK b∨uK c∨ir a b∨ir b c∨ir c a∨dS a b c:=by
 obtain⟨e,d⟩:=FV a b c;by_cases f:tn b c=0;rw[f,Vp]at e d;by_cases g:tn c a=0;rw[g,Vp]at e d;exact .inr (.inr (.inl (rY (z:=tn a b) (by lia) (by lia) (by lia))));by_cases f:tn a b=0;rw[f,Vp]at e d;exact .inr (.inl (rY (z:=tn c a) (by lia) (by lia) (by lia)));rcases uU (b:=b) (c:=c) (y:=tn c a) (z:=tn a b) (by lia) (by lia) (by lia) (by lia)with q|q;exact .inr (.inl q);exact .inr (.inr (.inr (.inr (.inl q))));by_cases g:tn c a=0;rw[g,Vp]at e d;by_cases f:tn a b=0;rw[f,Vp]at e d;exact .inl (rY (z:=tn b c) (by lia) (by lia) (by lia));rcases uU (b:=c) (c:=a) (y:=tn a b) (z:=tn b c) (by lia) (by lia) (by lia) (by lia)with q|q;exact .inr (.inr (.inl q));exact .inr (.inr (.inr (.inr (.inr (.inl q)))));by_cases f:tn a b=0;rw[f,Vp]at e d;rcases uU (b:=a) (c:=b) (y:=tn b c) (z:=tn c a) (by lia) (by lia) (by lia) (by lia)with q|q;exact .inl q;exact .inr (.inr (.inr (.inl q)));exact .inr (.inr (.inr (.inr (.inr (.inr (.inl ⟨by lia,by lia,by lia⟩))))))
def lD(h:Tr)(ps:yat):Prop:=(∃p∈ps,uK (N9 h p))∨(∃p∈ps,∃q∈ps,ir (N9 h p) (N9 h q))∨∃ p∈ps,∃q∈ps,∃r∈ps,dS (N9 h p) (N9 h q) (N9 h r)
def FU{ps:yat}{p q r:Sp}(d:p∈ps)(b:q∈ps)(a:r∈ps)(e:0<=tn (N9 h q) (N9 h r))(c:0<=tn (N9 h r) (N9 h p))(hz:0<=tn (N9 h p) (N9 h q))(hs:0<tn (N9 h q) (N9 h r)+tn (N9 h r) (N9 h p)+tn (N9 h p) (N9 h q)):lD h ps:=by
 rcases Ib e c hz hs with c|c|c|c|c|c|c;exact .inl ⟨_,d,c⟩;exact .inl ⟨_,b,c⟩;exact .inl ⟨_,a,c⟩;exact .inr (.inl ⟨_,d,_,b,c⟩);exact .inr (.inl ⟨_,b,_,a,c⟩);exact .inr (.inl ⟨_,a,_,d,c⟩);exact .inr (.inr ⟨_,d,_,b,_,a,c⟩)
def Gh(h:Tr)(a b:Sp):tn (N9 h a) (N9 h b)=h.1*NX (eQ a b) h:=by unfold tn N9 NX eQ;grind
def IE(h:Tr)(a w:Sp):NX (cu a w) h=- Oz w (N9 h a):=by unfold NX cu Oz N9;grind
def Md(h:Tr)(a b c:Sp):tn (N9 h b) (N9 h c)+tn (N9 h c) (N9 h a)+tn (N9 h a) (N9 h b)=h.1*(h.1*cr a b c):=by rw[cC];unfold tn N9;grind
def Lv(u v w:Sp):Oz u v*Oz u w+tn u v*tn u w=Oz u u*Oz v w:=by unfold Oz tn;grind
def vR{u:Sp}(a:u≠(0,0))(c:Oz u v=0)(b:tn u v=0):v=(0,0):=by
 have p:=j4 a;have l:=Lv u v v;rw[c,b]at l;by_cases c:v=(0,0);exact c;have:=TH p (j4 c)
 lia
def Fd{ps:yat}{a b:Sp}(k:a∈ps)(bm:b∈ps)(c:∀g∈eN a b,0<=NX g h):lD h ps:=by
 have j:=c _ (RO);have g:=c _ (Pz _ RO);have f:=c _ (Pz _ (Pz _ RO));have e:=c _ (Pz _ (Pz _ (Pz _ RO)));rw[IE]at j g f e;have i:aS a b≠(0,0):=by unfold aS;grind
 have n:Oz (TV (aS a b)) (N9 h b)=- Oz (aS a b) (N9 h b):=by unfold Oz TV;grind
 have m:Oz (S8 (aS a b)) (N9 h a)=tn (aS a b) (N9 h a):=by unfold Oz S8 tn;grind
 have l:Oz (TV (S8 (aS a b))) (N9 h a)=- tn (aS a b) (N9 h a):=by unfold Oz TV S8 tn;grind
 rw[n,Int.neg_neg]at g;rw[m]at f;rw[l,Int.neg_neg]at e;have d:tn (aS a b) (N9 h a)=0:=Zw (Int.neg_nonneg.mp f) e;have c:Oz (aS a b) (N9 h a)<=0:=Int.neg_nonneg.mp j;clear j f e n m l;by_cases e:a=b;subst e;exact .inl ⟨a,k,vR i (Zw c g) d⟩;have f:N9 h b=((N9 h a).1+h.1*(aS a b).1,(N9 h a).2+h.1*(aS a b).2):=by unfold aS;rw[N2 e];unfold N9;rw[Prod.mk.injEq];constructor<;>grind
 have tb:tn (aS a b) (N9 h b)=0:=by
  rw[f];have:tn (aS a b) ((N9 h a).1+h.1*(aS a b).1,(N9 h a).2+h.1*(aS a b).2)=tn (aS a b) (N9 h a):=by unfold tn;grind
  rw[this,d]
 have e:tn (N9 h a) (N9 h b)=0:=by
  rw[f];have:tn (N9 h a) ((N9 h a).1+h.1*(aS a b).1,(N9 h a).2+h.1*(aS a b).2)=- (h.1*tn (aS a b) (N9 h a)):=by unfold tn;grind
  rw[this,d,U2,Int.neg_zero]
 have l:=Lv (aS a b) (N9 h a) (N9 h b);rw[tb,U2,Int.add_zero]at l;by_cases j:Oz (aS a b) (N9 h a)=0;exact .inl ⟨a,k,vR i j d⟩;by_cases f:Oz (aS a b) (N9 h b)=0;exact .inl ⟨b,bm,vR i f tb⟩;have d:=UD (Int.lt_iff_le_and_ne.mpr ⟨c,j⟩) (Int.lt_iff_le_and_ne.mpr ⟨g,Ne.symm f⟩);refine .inr (.inl ⟨a,k,b,bm,e,?_⟩);rw[l]at d;by_cases q:Oz (N9 h a) (N9 h b)<0;exact q;exact absurd d (Uk.mpr (PV (PK (j4 i)) (Uk.mp q)))
def Ge{h:Tr}{ps:yat}{c:Nat->Sp}{N:Nat}(h0:0<h.1)(g:∀i,i<N->c i∈ps)(l:∀i,i+1<N->0<=tn (N9 h (c i)) (N9 h (c (i+1))))(k:0<cr (c 0) (c 1) (c 2)) :
  ∀ d i,N=i+d+3->0<=tn (N9 h (c (i+d+2))) (N9 h (c 0))->0<=tn (N9 h (c 0)) (N9 h (c (i+1)))->(i=0∨0<tn (N9 h (c 0)) (N9 h (c (i+1))))->lD h ps:=by
 have Sj:∀i,i+2<N->0<=tn (N9 h (c (i+2))) (N9 h (c 0))->0<=tn (N9 h (c 0)) (N9 h (c (i+1)))->(i=0∨0<tn (N9 h (c 0)) (N9 h (c (i+1))))->lD h ps:=λi b a e f=>by
  have j:=l (i+1) b;refine FU (g 0 (Ym (QI _) b)) (g (i+1) (zC7 b)) (g (i+2) b) j a e ?_;rcases f with q|q;subst q;rw[Md];exact TH h0 (TH h0 k);exact Int.add_pos_of_nonneg_of_pos (Int.add_nonneg j a) q
 intro d
 induction d with
 |zero =>
  intro i g a e f;exact Sj i (by rw[g];exact VD _) a e f
 |succ d ih =>
  intro i g a e f;have b:i+2<N:=by rw[g];lia
  by_cases z:0<tn (N9 h (c 0)) (N9 h (c (i+2)));have c:i+1+d+2=i+(d+1)+2:=by lia
  exact ih (i+1) (by rw[g];lia) (by rw[c];exact a) (PK z) (.inr z);refine Sj i b ?_ e f;rw[cA];exact Int.neg_nonneg_of_nonpos (Uk.mp z)
def pA{h:Tr}(g:mG hs ps)(c:ps ≠ [])(h0:0<h.1)(a:∀b∈aJ hs,0<=NX b h):lD h ps:=by
 obtain⟨p,o,b,_⟩:=g.TU c;have f:0<hs.length:=by rw[b];exact Wm _
 have l:∀i,i<hs.length->hs.getD i (0,0)∈ps:=λi b=>by rw[Pg,OH b];exact g.mem _ (RY _)
 unfold aJ at a;by_cases c:hs.length<3;rw[N4 c]at a;exact Fd (l 0 f) (l (hs.length - 1) (Nat.sub_lt f Nat.one_pos)) a;rw[N2 c]at a;obtain⟨d,e⟩:∃d,hs.length=0+d+3:=⟨hs.length - 3,by lia⟩;have m:∀k,k<hs.length->0<=tn (N9 h (bU hs k)) (N9 h (hs.getD k (0,0))):=λk j=>by rw[Gh];exact PV (PK h0) (a _ (Ol.mpr ⟨k,XO.mpr ⟨QI _,by rw[UM];exact j⟩,rfl⟩))
 have n:bU hs 0=hs.getD (0+d+2) (0,0):=by unfold bU;rw[UM,e];show hs.getD ((0+d+2) % (0+d+3)) _=_;rw[SU (VD _)]
 have a:∀k,k+1<hs.length->bU hs (k+1)=hs.getD k (0,0):=λk j=>by unfold bU;rw[Nat.add_right_comm];show hs.getD ((k+hs.length) % hs.length) _=_;rw[Zr,SU (zC7 j)]
 have j:∀i,i+1<hs.length->0<=tn (N9 h (hs.getD i (0,0))) (N9 h (hs.getD (i+1) (0,0))):=λi b=>by have:=m (i+1) b;rw[a i b]at this;exact this
 have a:=m 0 f;rw[n]at a;exact Ge (c:=λi=>hs.getD i (0,0)) h0 l j (g.Ts (by rw[e];lia)) d 0 e a (j 0 (by rw[e];lia)) (.inl rfl)
def vY{u v x y:Int}(e:u*y=v*x)(a:0<u∨(u=0/\0<v))(b:0<x∨(x=0/\0<=y)):0<=u*x+v*y:=by
 rcases a with a|⟨a,d⟩;have c:(u*x+v*y)*u=(u*u+v*v)*x:=by grind
 refine LA (y:=u) ?_ a;rw[c];refine PV (Int.add_nonneg (Yc u) (Yc v)) ?_
 lia
 subst a;rw[Vp]at e ⊢;rw[Int.zero_add];rcases Sz.mp e.symm with q|q
 lia
 rcases b with r|r
 lia
 exact PV (PK d) r.2
def vf(h:¬gg q p):0<q.1 - p.1∨(q.1 - p.1=0/\0<=q.2 - p.2):=by
 unfold gg at h
 lia
def He{a b:Sp}{g:Tr}(i:a≠b)(k:¬gg b a)(f:¬gg p a)(e:¬gg b p)(h0:cr a b p=0)(c:g∈eN a b):0<=NX g (1,p.1,p.2):=by
 have d:∀w a:Sp,NX (cu a w) (1,p.1,p.2)=w.1*(p.1 - a.1)+w.2*(p.2 - a.2):=λw a=>by unfold NX cu;grind
 rw[cC]at h0;have g:(b.1 - a.1)*(p.2 - a.2)=(b.2 - a.2)*(p.1 - a.1):=Int.eq_of_sub_eq_zero h0;have j:(b.1 - a.1)*(b.2 - p.2)=(b.2 - a.2)*(b.1 - p.1):=by grind
 have h:0<b.1 - a.1∨(b.1 - a.1=0/\0<b.2 - a.2):=by
  rcases vf k with q|⟨q,r⟩;exact .inl q;refine .inr ⟨q,?_⟩;grind
 have a:=vY g h (vf f);have l:=vY j h (vf e);unfold eN aS at c;rw[N2 i]at c;simp at c;rcases c with q|q|q|q<;>rw[q,d]<;>simp only[TV,S8,Ud];exact a;grind;rw[R8,g,Int.add_left_neg];exact RZ _
 simp_all [Int.neg_neg,R8,Int.add_right_neg,RZ]
def iT(g:mG hs ps)(c:ps ≠ []){b:Tr}(a:b∈aJ hs){p:Sp}(f:p∈ps):0<=NX b (1,p.1,p.2):=by
 obtain⟨k,e,h,d⟩:=g.TU c;unfold aJ at a;by_cases c:hs.length<3;rcases e with _|⟨j,_|⟨z,r⟩⟩;have e:=g.one k h p f;subst e;rw[h]at a;have i:∀w:Sp,NX (cu p w) (1,p.1,p.2)=0:=λw=>by unfold NX cu;grind
 unfold eN at a;simp at a;rcases a with q|q|q|q<;>rw[q,i]<;>exact RZ _;have e:=g.two k j h;rw[h]at a;exact He e.1 (d j (g.mem j (by simp_all))) (d p f) (e.2 p f).2 (e.2 p f).1 a;rw[h]at c;exact absurd c (by simp);rw[N2 c]at a;obtain⟨k,l,e⟩:=Ol.mp a;have c:k<hs.length:=by simp_all
 have a:NX b (1,p.1,p.2)=cr (bU hs k) (hs.getD k (0,0)) p:=by rw[<- e,cC];unfold NX eQ;grind
 rw[a];exact g.PL (by lia) k c p f
def bG(w:Sp):Int:=((w.1.natAbs:Nat):Int)+((w.2.natAbs:Nat):Int)
def cc:Int->yaf->Int
 |d,[]=>d
 |d,x::a=>cc ((Int.gcd d x:Nat):Int) a
def dj(xs:yaf):yaf:=xs.map λx=>x.fdiv (cc 0 xs)
def mH(a:Sp):Option (yaf):=if bG a=0 then some [1]else none
def lH(a b:Sp):Option (yaf):=if tn a b=0/\Oz a b<0 then some (dj [bG b,bG a])else none
def jy(a b e:Sp):Option (yaf) :=
 if 0<tn b e/\0<tn e a/\0<tn a b then some (dj [tn b e,tn e a,tn a b])
 else if tn b e<0/\tn e a<0/\tn a b<0 then some (dj [-tn b e,-tn e a,-tn a b])else none
def dU:yat->Option (yaf)
 |[]=>none
 |[a]=>mH a
 |[a,b]=>lH a b
 |a::b::e::_=>jy a b e
def SQ(a:yat)(b:yag):yat:=b.map λk=>a.getD k (0,0)
def cq(a:yat):List (yag)->Option (yag×yaf)
 |[]=>none
 |pk::r=>match dU (SQ a pk)with
  |some b=>some (pk,b)
  |none=>cq a r
def cO(n:Nat):List (yag):=Oi n 1++(Oi n 2++Oi n 3)
def ph:bG a=0↔a=(0,0):=by
 unfold bG;obtain⟨x,y⟩:=a;simp only[Prod.mk.injEq]
 lia
theorem wH:∀{a:List (yag)},cq ws a=none->∀b∈a,dU (SQ ws b)=none
 |[],_,b,h=>by cases h
 |a::r,e,b,h=>by
  unfold cq at e;cases hb:dU (SQ ws a)with
  |some s=>simp_all
  |none =>
   rw[hb]at e;rcases Ov.mp h with q|q
   lia
   exact wH e b q
def rT{n i:Nat}(h:i<n):[i]∈Oi n 1:=by simp only[Oi,Z9,List.flatMap_nil,VB];exact Ol.mpr ⟨i,XO.mpr ⟨QI _,by simp[dF];exact h⟩,rfl⟩
def rV{n i j:Nat}(h:i<j)(a:j<n):[i,j]∈Oi n 2:=by
 have:=rT (n:=n) (i:=i) (by lia);refine Yr.mpr ⟨[i],this,Ol.mpr ⟨j,XO.mpr ?_,rfl⟩⟩;simp[dF]
 lia
def Gz{n i j k:Nat}(h:i<j)(b:j<k)(a:k<n):[i,j,k]∈Oi n 3:=by
 have:=rV (n:=n) h (by lia);refine Yr.mpr ⟨[i,j],this,Ol.mpr ⟨k,XO.mpr ?_,rfl⟩⟩;simp[dF]
 lia
def HZ(h:ir a b):lH a b≠none:=by unfold lH;have c:tn a b=0/\Oz a b<0:=h;rw[N4 c];simp
def Ia(h:dS a b e):jy a b e≠none:=by
 unfold jy;rcases h with h|h;rw[N4 h];simp;rw[N2 (by lia),N4 h];simp
def FT(n:lD h ps):cq (ps.map (N9 h)) (cO ps.length)≠none:=by
 intro e;have N:=wH e;have c:∀{i:Nat} {p:Sp},ps[i]?=some p->(ps.map (N9 h)).getD i (0,0)=N9 h p:=fun {i p} q=>by rw[Pg,Pw,q];rfl
 have m:∀{i:Nat} {p:Sp},ps[i]?=some p->i<ps.length:=fun {i p} q=>(Ql.mp q).1
 have g:∀i j p q,ps[i]?=some p->ps[j]?=some q->i<j->ir (N9 h p) (N9 h q)->False:=λi j p q e d l b=>by have:=N [i,j] (RA _ (TF _ (rV l (m d))));unfold SQ at this;simp only[Pq,VF,c e,c d]at this;exact HZ b this
 have a:∀i j k p q r,ps[i]?=some p->ps[j]?=some q->ps[k]?=some r->i<j->j<k->dS (N9 h p) (N9 h q) (N9 h r)->False:=λi j k p q r e d f l o b=>by have:=N [i,j,k] (RA _ (RA _ (Gz l o (m f))));unfold SQ at this;simp only[Pq,VF,c e,c d,c f]at this;exact Ia b this
 rcases n with⟨p,l,b⟩| ⟨p,l,q,n,b⟩| ⟨p,l,q,n,r,o,b⟩;obtain⟨i,e⟩:=Zh.mp l;have:=N [i] (TF _ (rT (m e)));unfold SQ at this;simp only[Pq,VF,c e]at this;have c:mH (N9 h p)=none:=this;unfold mH at c;rw[N4 (ph.mpr b)]at c;cases c;obtain⟨i,e⟩:=Zh.mp l;obtain⟨j,d⟩:=Zh.mp n;rcases Zs i j with c|c|c;exact g i j p q e d c b;subst c;rw[e]at d;cases d;have m:=b.2;unfold Oz at m;have:=Yc (N9 h p).1;have:=Yc (N9 h p).2
 lia
 exact g j i q p d e c b.symm
 ·obtain⟨i,e⟩:=Zh.mp l;obtain⟨j,d⟩:=Zh.mp n;obtain⟨k,f⟩:=Zh.mp o;have g:∀{i j:Nat} {p q r:Sp},ps[i]?=some p->ps[j]?=some q->dS (N9 h p) (N9 h q) r->i≠j:=fun {i j p q r} e d b c=>by
   subst c;rw[e]at d;cases d;unfold dS at b;rw[qQ]at b
   lia
  have c:=g e d b;have m:=g d f b.Xy;have l:=g f e b.Xy.Xy;rcases XN c with h|h
  ·rcases XN m with g|g;exact a i j k p q r e d f h g b
   ·rcases XN l with c|c;exact a k i j r p q f e d c h b.Xy.Xy
    ·exact a i k j p r q e f d c g b.Xy.Xy.swap
  ·rcases XN m with g|g
   ·rcases XN l with c|c;exact a j k i q r p d f e g c b.Xy
    ·exact a j i k q p r d e f h c b.swap
   ·exact a k j i r q p f d e g h b.Xy.swap
theorem yH(k:Int)(a:0<=k):∀(xs:yaf) (d:Int),cc (k*d) (xs.map (k*·))=k*cc d xs
 |[],d=>rfl
 |x::xs,d=>by show cc ((Int.gcd (k*d) (k*x):Nat):Int) (xs.map (k*·))=_;rw[zDC,Int.natCast_mul,Int.natAbs_of_nonneg a,yH k a xs];rfl
structure Snt(A B C E g:Int)(w v:Sp):Prop where
 x:g*v.1=A*w.1+B*w.2
 y:g*v.2=C*w.1+E*w.2
def EL(h:tn a b=0):Oz b b*a.1+(-(Oz a b))*b.1=0/\Oz b b*a.2+(-(Oz a b))*b.2=0:=by
 have d:Oz b b*a.1+(-(Oz a b))*b.1=b.2*tn a b:=by unfold Oz tn;grind
 have c:Oz b b*a.2+(-(Oz a b))*b.2=- (b.1*tn a b):=by unfold Oz tn;grind
 simp_all
def rQ{a:Sp}(h:a≠(0,0)):0<bG a:=by
 have:bG a≠0:=λe=>h (ph.mp e)
 unfold bG at this ⊢
 lia
def Oe(g:Tr):D:=T3 g.1 g.2.1 g.2.2
def JO(h:Oe p=Oe q):p=q:=by
 unfold Oe T3 at h
 lia
def JP{ps qs:yav}(h:ps.map Oe=qs.map Oe):ps=qs:=jr JO h
def gG(p:Tr):aK (Oe p)=Oe p:=by unfold Oe T3;simp only[c6,bO,cg,fg]
def uG(ps:yav):bC (ps.map Oe)=ps.map Oe:=c8 Oe gG ps
def oL:Option (yaf)->D
 |none=>.OD
 |some a=>.lst true (a.map D.int)
structure WB(n:Nat)(w:Sp):Prop where
 x:Bd n w.1
 y:Bd n w.2
structure PB(n:Nat)(h:Tr):Prop where
 b0:0<h.1
 b:Bd 100 h.1
 x:Bd n h.2.1
 y:Bd n h.2.2
theorem WB.mono{m:Nat}(h:WB n w)(a:n<=m):WB m w:=⟨h.x.mono a,h.y.mono a⟩
def WB.sb(h:WB 60 w):SB w:=⟨h.x,h.y⟩
def Rz(b:Bd n x)(a:Bd m y)(c:n<=1000:=by decide)(d:m<=1000:=by decide):CM x y:=.inr (.inr ⟨b.mono (Pe c (by decide)),a.mono (Pe d (by decide))⟩)
theorem wy(x:Int):∀(d:Int) (xs:yaf),cc d (xs++[x])=((Int.gcd (cc d xs) x:Nat):Int)
 |d,[]=>rfl
 |d,y::a=>wy x _ a
def vd(h:WB n w):Bd (n+2) (bG w):=by
 have b:=h.x;have a:=h.y;unfold Bd bG at *
 lia
def ID{x:Int}(h:x≠0):0<Int.gcd ((Int.gcd 0 d:Nat):Int) x:=Int.gcd_pos_iff.mpr (.inr h)
def D6(a:Bd n x)(h:x≠0):Bd n ((Int.gcd d x:Nat):Int):=by
 unfold Bd at *;have:=Nat.le_of_dvd (by lia) (Int.gcd_dvd_natAbs_right d x)
 lia
def oO(h:Bd n x):Bd n (-x):=by unfold Bd at *;lia
def KY(p q:Sp):eqD (O9 p) (O9 q)=decide (p=q):=by
 unfold O9;rw[A9,kQ,kQ,kQ,yD,j5,j5,j5,Bool.and_true]
 lia
def Dm{a:Type}{xs:List a}{v:a}(h0:0<xs.length)(h:xs[xs.length - 1]?=some v):Qm xs (-1)=some v:=by unfold Qm ixN;rw[N2 (by lia),N4 (by lia)];rw[show(-1+(xs.length:Int)).toNat=xs.length - 1 by lia];exact h
structure GB(g:Tr):Prop where
 a:Bd 200 g.1
 b:Bd 200 g.2.1
 c:Bd 200 g.2.2
def FO(d:SB a)(c:SB b):WB 62 (aS a b):=by unfold aS;split;exact⟨by unfold Bd;decide,by unfold Bd;decide⟩;exact⟨by rw[Ud,Ud];exact Bd.mono (m:=61) (c.x.sub d.x) (by decide),by show Bd 62 (1*b.2 - 1*a.2);rw[Ud,Ud];exact Bd.mono (m:=61) (c.y.sub d.y) (by decide)⟩
def mI(hs:yat):(aJ hs).length<=hs.length+4:=by
 unfold aJ eN;split
 all_goals simp_all
def vw(n:Nat):Nat->List (yag)
 |0=>Oi n 1++(Oi n 2++(Oi n 3++[]))
 |1=>Oi n 2++(Oi n 3++[])
 |2=>Oi n 3++[]
 |_=>[]
def EX(n:Nat){j:Nat}(h:j<3):vw n j=Oi n (j+1)++vw n (j+1):=by
 rcases j with _|_|_|j;rfl;rfl;rfl
 lia
def GZ(n:Nat):cO n=vw n 0:=by
 show Oi n 1++(Oi n 2++Oi n 3)=Oi n 1++(Oi n 2++(Oi n 3++[]))
 simp_all
def Ep(a:yat)(b:yag)(r:List (yag)):cq a (b::r)=match dU (SQ a b)with
  |some c=>some (b,c)
  |none=>cq a r:=rfl
def Mz{g p b:Int}(a:0<g)(e:g*p=b)(h:Bd n b):Bd n p:=by
 unfold Bd at *;rw[<- e,XT]at h;have:1*p.natAbs<=g.natAbs*p.natAbs:=XJ _ (by lia)
 lia
def p4:((10:Int) ^ (4:Int).toNat)=10000:=by decide
def p8:((10:Int) ^ (8:Int).toNat)=100000000:=by decide
def Bo(n:Nat)(x:Str)(a:PyData.strOk x=true):Ry n (.str x):=⟨by rw[Ue]<;>(intros;contradiction),by exact a,by rw[QK,PyData.depth];lia⟩
def Gg{a:Int}(c:Bd 402 b)(h:b≠0):Bd 1000 (cc 0 [a,b]):=(D6 c h).mono (by decide)
def DF{a:Type}{wi:DA}{js:yag}{tc:DT}{te:DE}{Q:D->Prop}{P:List a->Prop}(f:a->D)(c:a->Bool)(g:a->D)(b:∀R:yar->Prop,(∀ys,P ys->R (ys.map f))->wi ρ R)(hz:∀ys,P ys->ys.length<=sizeLine)
  (e:∀ys,P ys->∀x∈ys,∀K:Bool->Prop,K (c x)->tc (some (.val (f x))::js.map (bF ρ)) K)
  (d:∀ys,P ys->∀x∈ys,∀K:D->Prop,K (g x)->te (some (.val (f x))::js.map (bF ρ)) K) (q:∀ys,P ys->Q (.lst true ((ys.filter c).map g))):mL wi js tc te ρ Q:=by
 refine b _ λys a=>?_
 have:=PD.comp_map (wi:=λ_ R=>R (ys.map f)) (js:=js) (tc:=tc) (te:=te) (ρ:=ρ) (Q:=Q) ys f c g (λR h=>h) (hz ys a) (λx b K k=>e ys a x b K k) (λx b _ K k=>d ys a x b K k) (q ys a);exact this
def GW:∀{xs ys ps:yat},cJ xs ps->cJ ys ps->xs=ys:=by
 have j:∀(xs ys:yat),xs.Pairwise (λp q=>gg p q)->ys.Pairwise (λp q=>gg p q)->(∀p,p∈xs↔p∈ys)->xs=ys:=by
  intro xs
  induction xs with
  |nil =>
   intro ys _ _ h;cases ys with
   |nil=>rfl
   |cons y ys=>have:=(h y).mpr RO;cases this
  |cons x xs ih =>
   intro ys b a h;cases ys with
   |nil=>have:=(h x).mp RO;cases this
   |cons y ys =>
    obtain⟨f,i⟩:=Tc.mp b;obtain⟨d,g⟩:=Tc.mp a;have c:x=y:=by
     rcases Ov.mp ((h x).mp RO)with e|e;exact e;rcases Ov.mp ((h y).mpr RO)with e'|e';exact e'.symm;have a:=d x e;have b:=f y e';unfold gg at a b;omega
    subst c;have a:∀p:Sp,¬gg p p:=λp=>by unfold gg;omega
    rw[ih ys i g λp=>⟨λb=>?_,λb=>?_⟩];rcases Ov.mp ((h p).mp (Pz _ b))with e|e;have:=f p b;rw[e]at this;exact absurd this (a x);exact e;rcases Ov.mp ((h p).mpr (Pz _ b))with e|e;have:=d p b;rw[e]at this;exact absurd this (a x);exact e
 intro xs ys ps b a;exact j xs ys b.1 a.1 λp=>(b.2 p).trans (a.2 p).symm
def okX(x:Int):Prop:=0<=x/\x<2147483647
def wsum(b:yaf)(a:yat):Sp:=((List.zipWith (λs (w:Sp)=>s*w.1) b a).sum,(List.zipWith (λs (w:Sp)=>s*w.2) b a).sum)
theorem rN:∀(d:Int) (xs:yaf),cc d xs∣d/\∀x∈xs,cc d xs∣x
 |d,[]=>⟨Int.dvd_refl _,by simp⟩
 |d,x::xs=>by
  obtain⟨a,b⟩:=rN ((Int.gcd d x:Nat):Int) xs;refine⟨XU a (Int.gcd_dvd_left _ _),λy c=>?_⟩;rcases Ov.mp c with z|z;rw[z];exact XU a (Int.gcd_dvd_right _ _);exact b y z
theorem yI:∀(d:Int) (xs:yaf),0<=d->0<=cc d xs
 |d,[],h=>h
 |d,x::xs,_=>yI _ xs (by simp_all)
structure B2(xs:yaf):Prop where
 pos:∀s∈dj xs,0<s
 one:cc 0 (dj xs)=1
 back:∃g:Int,0<g/\(dj xs).map (g*·)=xs
def mj{xs:yaf}(a:xs ≠ [])(h:∀x∈xs,0<x):B2 xs:=by
 obtain⟨c,d⟩:=zCq xs a;have b:0<cc 0 xs:=by
  have a:=yI 0 xs (RZ _);have:cc 0 xs≠0:=λe=>by have:=(rN 0 xs).2 c d;rw[e]at this;grind
  lia
 have a:(dj xs).map (cc 0 xs*·)=xs:=by
  unfold dj;rw[O3];have:∀x∈xs,((cc 0 xs*·)∘λx=>x.fdiv (cc 0 xs)) x=x:=λx f=>by simp_all [Int.fdiv_eq_ediv_of_dvd,rN,Int.mul_ediv_cancel']
  rw[Vz this,List.map_id']
 refine⟨λs g=>?_,?_,_,b,a⟩;have i:cc 0 xs*s∈xs:=by grind
 exact GU (y:=cc 0 xs) (by simp_all [Rp]) b;have:=yH (cc 0 xs) (PK b) (dj xs) 0;rw[a,U2]at this;have a:cc 0 xs*1=cc 0 xs*cc 0 (dj xs):=by lia
 exact(Z2 (by lia) a).symm
structure xk(ws:yat)(sh:yaf):Prop where
 len:sh.length=ws.length
 pos:∀s∈sh,0<s
 one:cc 0 sh=1
 sum:wsum sh ws=(0,0)
def JQ(h:ir a b):bG b*a.1+bG a*b.1=0/\bG b*a.2+bG a*b.2=0:=by
 have c:b≠(0,0):=λe=>by have:=h.2;unfold Oz at this;simp_all
 obtain⟨g,f⟩:=EL h.1;have d:=j4 c;have c:0 < -(Oz a b):=by have:=h.2;lia
 generalize Oz b b=x at g f d;generalize -(Oz a b)=y at g f c;have l:x*bG a=y*bG b:=by
  have g:x.natAbs*a.1.natAbs=y.natAbs*b.1.natAbs:=by rw[<- XT,<- XT];lia
  have f:x.natAbs*a.2.natAbs=y.natAbs*b.2.natAbs:=by rw[<- XT,<- XT];lia
  have h:=congrArg (λn:Nat=>(n:Int)) g;have g:=congrArg (λn:Nat=>(n:Int)) f;simp only[Int.natCast_mul,Int.natAbs_of_nonneg (PK d),Int.natAbs_of_nonneg (PK c)]at h g;unfold bG
  simp_all [Int.mul_add]
 have z:∀u v:Int,x*u+y*v=0->bG b*u+bG a*v=0:=λu v e=>by
  have:x*(bG b*u+bG a*v)=bG b*(x*u+y*v)+v*(x*bG a - y*bG b):=by grind
  rw[e,l,Int.sub_self,U2,U2,Int.add_zero]at this;exact(Sz.mp this).resolve_left (by lia)
 simp_all
def sS(L:B2 xs)(h:wsum xs ws=(0,0)):wsum (dj xs) ws=(0,0):=by
 obtain⟨g,d,c⟩:=L.back;have b:∀(f:Sp->Int) (l:yaf) (a:yat),(List.zipWith (λs w=>s*f w) (l.map (g*·)) a).sum=g*(List.zipWith (λs w=>s*f w) l a).sum:=λf l=>by
  induction l with
  |nil=>simp_all
  |cons s l ih =>
   intro a;cases a with
   |nil=>simp
   |cons u a =>
    simp;rw[ih a,Int.mul_add,Yv]
 unfold wsum at h ⊢;rw[<- c]at h;rw[b (λw=>w.1),b (λw=>w.2)]at h;have z:∀t:Int,g*t=0->t=0:=λt e=>(Sz.mp e).resolve_left (by lia)
 simp_all
def oN{g:yat}{f:yaf}(o:g.length<=3)(h:dU g=some f):xk g f:=by
 rcases g with _|⟨a,_|⟨b,_|⟨e,_|⟨z,r⟩⟩⟩⟩;cases h;have d:mH a=some f:=h;unfold mH at d;split at d;rename_i c;cases d;have:=ph.mp c;subst this;exact⟨rfl,by simp,rfl,by unfold wsum;simp⟩
 lia
 ·have d:lH a b=some f:=h;unfold lH at d;split at d
  ·rename_i c;cases d;have j:ir a b:=c;have n:a≠(0,0):=λe=>by have:=c.2;unfold Oz at this;simp_all
   have m:b≠(0,0):=λe=>by have:=c.2;unfold Oz at this;simp_all
   have L:=mj (xs:=[bG b,bG a]) (by simp) λx i=>by
    simp at i;rcases i with rfl|rfl
    all_goals simp_all [rQ]
   obtain⟨l,k⟩:=JQ j;refine⟨by unfold dj;simp,L.pos,L.one,sS L ?_⟩;unfold wsum
   simp_all
  lia
 have d:jy a b e=some f:=h;obtain⟨q,p⟩:=FV a b e;unfold jy at d;split at d;cases d;have L:=mj (xs:=[tn b e,tn e a,tn a b]) (by simp) (by simp_all);refine⟨by unfold dj;simp,L.pos,L.one,sS L ?_⟩;unfold wsum
 simp_all [Int.add_assoc]
 split at d;cases d;have L:=mj (xs:=[-tn b e,-tn e a,-tn a b]) (by simp) (by grind);refine⟨by unfold dj;simp,L.pos,L.one,sS L ?_⟩;unfold wsum;simp;grind
 lia
 simp_all
theorem wI:∀{b:List (yag)} {c:yag} {a:yaf},cq ws b=some (c,a)->c∈b/\dU (SQ ws c)=some a
 |[],_,_,h=>by cases h
 |p::q,c,a,h=>by
  rw[show cq ws (p::q)=(match dU (SQ ws p)with|some a=>some (p,a)|none=>cq ws q)from rfl]at h;cases hb:dU (SQ ws p)with
  |none =>
   rw[hb]at h;obtain⟨a,b⟩:=wI h;grind
  |some s =>
   grind
theorem mZ:∀{j:Nat} {a:yag},a∈Oi n j->a.Pairwise (·<·)
 |0,a,h=>by
  simp only[Oi,QU]at h
  simp_all
 |j+1,a,h=>by
  simp only[Oi,Yr]at h;obtain⟨q,a,h⟩:=h;have ih:=mZ a;obtain⟨k,a,rfl⟩:=Ol.mp h;rw[XO]at a;refine zDF.mpr ⟨ih,by simp_all,λx b y a=>?_⟩;rw[QU.mp a];have d:x<dF q:=by
   unfold dF;cases e:q.getLast? with
   |none=>simp_all
   |some l =>
    obtain⟨c,rfl⟩:=List.getLast?_eq_some_iff.mp e;rcases PU.mp b with z|z;have:=(zDF.mp ih).2.2 x z l (by simp)
    lia
    simp_all
  lia
def sX(ps:yat)(a:yaf):Int:=(List.zipWith (λ(p:Sp) w=>p.1*w) ps a).sum
def sY(ps:yat)(a:yaf):Int:=(List.zipWith (λ(p:Sp) w=>p.2*w) ps a).sum
structure oJ(ps:yat)(h:Tr)(pk:yag)(sh:yaf):Prop where
 l0:0<pk.length
 l3:pk.length<=3
 ls:sh.length=pk.length
 rise:pk.Pairwise (·<·)
 lt:∀k∈pk,k<ps.length
 pos:∀s∈sh,0<s
 bd:∀s∈sh,Bd 900 s
 one:cc 0 sh=1
 x:sh.sum*h.2.1=h.1*sX (pk.map λk=>ps.getD k (0,0)) sh
 y:sh.sum*h.2.2=h.1*sY (pk.map λk=>ps.getD k (0,0)) sh
theorem z9(h:Tr):∀(qs:yat) (c:yaf),c.length=qs.length->(wsum c (qs.map (N9 h))).1=h.1*sX qs c - c.sum*h.2.1/\(wsum c (qs.map (N9 h))).2=h.1*sY qs c - c.sum*h.2.2
 |[],[],_=>by unfold wsum sX sY;simp
 |[],_::_,h=>by simp at h
 |_::_,[],h=>by simp at h
 |q::qs,s::c,d=>by obtain⟨a,b⟩:=z9 h qs c (by simp_all);unfold wsum sX at a;unfold wsum sY at b;unfold wsum sX sY;simp at a b ⊢;rw[a,b];unfold N9;grind
def yZ(L:B2 xs)(h:∀x∈xs,Bd n x):∀s∈dj xs,Bd n s:=λs a=>by obtain⟨g,b,c⟩:=L.back;have:g*s∈(dj xs).map (g*·):=Ol.mpr ⟨s,a,rfl⟩;rw[c]at this;exact Mz b rfl (h _ this)
def xQ{a:yat}{f:yaf}(g:∀w∈a,WB 400 w)(l:a.length<=3)(h:dU a=some f):∀s∈f,Bd 900 s:=by
 rcases a with _|⟨a,_|⟨b,_|⟨e,_|⟨z,r⟩⟩⟩⟩;cases h;have d:mH a=some f:=h;unfold mH at d;split at d;cases d;intro s c;rw[QU.mp c];unfold Bd
 lia
 lia
 ·have d:lH a b=some f:=h;unfold lH at d;split at d
  ·rename_i c;cases d;have k:a≠(0,0):=λe=>by have:=c.2;unfold Oz at this;simp_all
   have j:b≠(0,0):=λe=>by have:=c.2;unfold Oz at this;simp_all
   have L:=mj (xs:=[bG b,bG a]) (by simp) λx c=>by
    simp at c;rcases c with rfl|rfl
    all_goals simp_all [rQ]
   refine yZ L λx c=>?_
   simp at c;rcases c with rfl|rfl;exact(vd (g b (by simp))).mono (by decide);exact(vd (g a (by simp))).mono (by decide)
  lia
 ·have d:jy a b e=some f:=h;have i:=g a (by simp);have h:=g b (by simp);have f:=g e (by simp);have p:Bd 900 (tn b e):=Bd.mono (m:=801) ((h.x.mul f.y).sub (f.x.mul h.y)) (by decide);have o:Bd 900 (tn e a):=Bd.mono (m:=801) ((f.x.mul i.y).sub (i.x.mul f.y)) (by decide);have n:Bd 900 (tn a b):=Bd.mono (m:=801) ((i.x.mul h.y).sub (h.x.mul i.y)) (by decide);unfold jy at d;split at d;cases d;have L:=mj (xs:=[tn b e,tn e a,tn a b]) (by simp) (by simp_all);refine yZ L λx c=>?_
  grind
  ·split at d
   ·cases d;have L:=mj (xs:=[-tn b e,-tn e a,-tn a b]) (by simp) (by simp_all);refine yZ L λx c=>?_
    simp at c;rcases c with rfl|rfl|rfl
    all_goals simp_all [oO]
   lia
 simp_all
def MG{ps:yat}{a:yag}{d:yaf}(C:∀p∈ps,WB 40 p)(f:PB 160 h)(e:cq (ps.map (N9 h)) (cO ps.length)=some (a,d)):oJ ps h a d:=by
 obtain⟨z,c⟩:=wI e;have b:∃j,0<j/\j<=3/\a∈Oi ps.length j:=by unfold cO at z;grind
 obtain⟨j,H,G,n⟩:=b;obtain⟨l,q⟩:=bM n;have o:SQ (ps.map (N9 h)) a=(a.map λk=>ps.getD k (0,0)).map (N9 h):=by
  unfold SQ
  simp_all
 have x:(SQ (ps.map (N9 h)) a).length=j:=by unfold SQ;rw[N3,l]
 have u:∀w∈SQ (ps.map (N9 h)) a,WB 400 w:=λw i=>by rw[o]at i;obtain⟨p,y,rfl⟩:=Ol.mp i;obtain⟨k,A,rfl⟩:=Ol.mp y;have lk:=q k A;have B:=C (ps.getD k (0,0)) (by rw[Pg,OH lk];exact RY lk);refine⟨?_,?_⟩;show Bd 400 (h.1*_ - 1*h.2.1);rw[Ud];exact Bd.mono (m:=161) (((f.b.mul B.x).mono (by decide)).sub f.x) (by decide);show Bd 400 (h.1*_ - 1*h.2.2);rw[Ud];exact Bd.mono (m:=161) (((f.b.mul B.y).mono (by decide)).sub f.y) (by decide)
 have B:=oN (by lia) c;have E:=xQ u (by lia) c;have s:=B.sum;have g:d.length=a.length:=by rw[B.len,x,l]
 rw[o]at s;obtain⟨t,r⟩:=z9 h (a.map λk=>ps.getD k (0,0)) d (by rw[g,N3]);rw[s]at t r;exact⟨by lia,by lia,g,mZ n,q,B.pos,E,B.one,by lia,by lia⟩
noncomputable def Oj(a b:Tr):Tr:=(a.2.1*b.2.2 - a.2.2*b.2.1,a.2.2*b.1 - a.1*b.2.2,a.1*b.2.1 - a.2.1*b.1)
def PF(a b c:Tr):Int:=NX (Oj a b) c
def fy(a b c:Tr):PF a b c=PF b c a:=by unfold PF NX Oj;grind
def rL(a b c:Tr):PF a b c=- PF b a c:=by unfold PF NX Oj;grind
def D0(a c:Tr):PF a a c=0:=by unfold PF NX Oj;grind
def qz(a b:Tr):PF a b a=0:=by unfold PF NX Oj;grind
def qD(a b:Tr):PF a b b=0:=by unfold PF NX Oj;grind
structure Yd(q a b:Tr)(m s t:Int):Prop where
 m0:0<m
 s0:0<s
 t0:0<t
 e1:m*q.1=s*a.1+t*b.1
 e2:m*q.2.1=s*a.2.1+t*b.2.1
 e3:m*q.2.2=s*a.2.2+t*b.2.2
def Yd.gv(C:Yd q a b m s t)(g:Tr):m*NX g q=s*NX g a+t*NX g b:=by have e:=C.e1;have d:=C.e2;have c:=C.e3;unfold NX;grind
def Yd.ZR(C:Yd q a b m s t)(d:0<=NX g a)(c:0<=NX g b):0<=NX g q:=by
 have h:=C.gv g;have f:=PV (PK C.s0) d;have e:=PV (PK C.t0) c;have:0<=m*NX g q:=by lia
 exact Wh this C.m0
def Yd.zero(C:Yd q a b m s t)(d:NX g a=0)(c:NX g b=0):NX g q=0:=by
 have h:=C.gv g;rw[d,c]at h;have a:m*NX g q=0:=by lia
 rcases Sz.mp a with z|z;have:=C.m0;lia;exact z
def aO(g:Tr)(a:Tr->Tr->Tr):Tr->yav->yav
 |_,[]=>[]
 |p,c::r=>(if NX g p*NX g c<0 then[a p c]else[])++((if 0<=NX g c then[c]else[])++aO g a c r)
def Vw(g:Tr)(a:Tr->Tr->Tr):Prop:=∀p c:Tr,0<p.1->0<c.1->NX g p*NX g c<0->(∃m s t,Yd (a p c) p c m s t)/\NX g (a p c)=0
theorem sQ(B:Vw g a):∀(l:yav) (p:Tr),(∀x∈p::l,0<x.1)->(∀x∈p::l,0<=NX d x)->∀y∈aO g a p l,0<=NX d y
 |[],_,_,_=>λy a=>by cases a
 |c::r,p,d,b=>λy a=>by
  rcases PU.mp a with q|q;split at q;rename_i a;rw[QU.mp q];obtain⟨⟨m,s,t,C⟩,_⟩:=B p c (d p (by simp)) (d c (by simp)) a;exact C.ZR (b p (by simp)) (b c (by simp));cases q;rcases PU.mp q with q|q
  simp_all
  exact sQ B r c (λx a=>d x (Pz _ a)) (λx a=>b x (Pz _ a)) y q
theorem sR(B:Vw g d):∀(l:yav) (p:Tr),(∀x∈p::l,0<x.1)->∀y∈aO g d p l,0<y.1
 |[],_,_=>λy b=>by cases b
 |c::r,p,a=>λy b=>by
  unfold aO at b;rcases PU.mp b with q|q;split at q;rename_i b;rw[QU.mp q];obtain⟨⟨m,s,t,C⟩,_⟩:=B p c (a p (by simp)) (a c (by simp)) b;have h:=TH C.s0 (a p (by simp));have f:=TH C.t0 (a c (by simp));have:=C.e1;have e:0<m*(d p c).1:=by lia
  exact SE.mp λz=>by have:=Int.mul_nonpos_of_nonneg_of_nonpos (PK C.m0) z;lia
  cases q;rcases PU.mp q with q|q;split at q;rw[QU.mp q];exact a c (by simp);cases q;exact sR B r c (λx b=>a x (Pz _ b)) y q
theorem iS(g:Tr)(d:Tr->Tr->Tr):∀(a:yav) (p c:Tr) (b:yav),aO g d p (a++c::b)=aO g d p (a++[c])++aO g d c b
 |[],p,c,b=>by simp only[UZ,aO,VB,UI]
 |x::a,p,c,b=>by simp only[UH,aO,iS g d a x c b,UI]
theorem wV(B:Vw g a):∀(l:yav) (p:Tr),(∀x∈p::l,0<x.1)->∀y∈aO g a p l,0<=NX g y
 |[],_,_=>λy a=>by cases a
 |c::r,p,b=>λy a=>by
  unfold aO at a;rcases PU.mp a with q|q;split at q;rename_i a;rw[QU.mp q,(B p c (b p (by simp)) (b c (by simp)) a).2];exact RZ _;cases q;rcases PU.mp q with q|q;split at q;rename_i a;rw[QU.mp q];exact a;cases q;exact wV B r c (λx a=>b x (Pz _ a)) y q
theorem qo:∀(l:yav) (p:Tr) {x:Tr},x∈l->0<=NX g x->x∈aO g qf p l
 |[],_,_,h,_=>by cases h
 |c::r,p,x,h,a=>by
  unfold aO;rcases Ov.mp h with rfl|h;rw[N4 a];simp;exact RA _ (RA _ (qo r c h a))
theorem oh(B:Vw g a):∀(l:yav) (p z:Tr),(∀x∈p::l,0<x.1)->0<z.1->NX g p*NX g z<0->∃y∈aO g a p (l++[z]),NX g y=0/\∀d:Tr,(∀x∈p::(l++[z]),0<=NX d x)->0<=NX d y
 |[],p,z,i,k,f=>by obtain⟨⟨m,s,t,C⟩,e⟩:=B p z (i p (by simp)) k f;refine⟨a p z,?_,e,λd h=>C.ZR (h p (by simp)) (h z (by simp))⟩;rw[UZ];unfold aO;rw[N4 f];simp
 |c::r,p,z,i,k,f=>by
  rcases WQ (NX g p*NX g c) 0 with q|q|q;obtain⟨⟨m,s,t,C⟩,e⟩:=B p c (i p (by simp)) (i c (by simp)) q;refine⟨a p c,?_,e,λd h=>C.ZR (h p (by simp)) (h c (by simp))⟩;rw[UH];unfold aO;rw[N4 q];simp;have a:NX g p≠0:=λe=>by rw[e,Vp]at f;exact Wl _ f
  have b:NX g c=0:=(Sz.mp q).resolve_left a;exact⟨c,qo _ _ (by simp) (by lia),b,λd h=>h c (by simp)⟩;have j:NX g c*NX g z<0:=by
   rcases Int.lt_or_gt_of_ne (show NX g p≠0 from λe=>by rw[e,Vp]at f;exact Wl _ f)with a|a;have b:0<NX g z:=SE.mp λb=>SE.mpr f (Z0 (PK a) b)
   have d:NX g c<0:=SE.mp λd=>SE.mpr q (Ze (PK a) d)
   exact UD d b;have b:NX g z<0:=SE.mp λb=>SE.mpr f (PV (PK a) b)
   have d:0<NX g c:=SE.mp λd=>SE.mpr q (Int.mul_nonpos_of_nonneg_of_nonpos (PK a) d)
   exact XF d b
  obtain⟨y,b,e,h⟩:=oh B r c z (λx a=>i x (Pz _ a)) k j;refine⟨y,?_,e,λd k=>h d λx a=>k x (Pz _ a)⟩;exact RA _ (RA _ b)
def TX(l:yav):Prop:=∀x y z,List.Sublist [x,y,z] l->0<=PF x y z
def TX.sub{k:yav}(h:TX l)(s:k.Sublist l):TX k:=λx y z q=>h x y z (q.trans s)
def lF:yav->Prop
 |[]=>True
 |p::r=>r.Pairwise (λa b=>0<=PF p a b)/\lF r
theorem TX.p:∀{l:yav},TX l->lF l
 |[],_=>True.intro
 |p::r,h=>⟨List.pairwise_iff_forall_sublist.mpr fun {a b} s=>h p a b (s.cons_cons p),TX.p (h.sub (List.sublist_cons_self p r))⟩
theorem lF.t:∀{l:yav},lF l->TX l
 |[],_,_,_,_,s=>by cases s
 |p::r,h,x,y,z,s=>by
  cases s with
  |cons _ s=>exact lF.t h.2 x y z s
  |cons_cons _ s=>exact List.pairwise_iff_forall_sublist.mp h.1 s
theorem lC(B:Vw g f):∀(l:yav) (p:Tr),(∀x∈p::l,0<x.1)->(p::l).Pairwise (λa b=>0<=PF d a b)->(p::aO g f p l).Pairwise (λa b=>0<=PF d a b)
 |[],_,_,h=>h
 |c::r,p,i,h=>by
  have j:∀x∈c::r,0<x.1:=λx e=>i x (Pz _ e)
  obtain⟨e,k⟩:=Tc.mp h;have ih:=lC B r c j k;obtain⟨n,h⟩:=Tc.mp ih;have l:∀w∈aO g f c r,0<=PF d p w:=sQ B r c j (d:=Oj d p) e;have j:0<=PF d p c:=e c (by simp);unfold aO;by_cases k:NX g p*NX g c<0;obtain⟨⟨m,s,t,C⟩,e⟩:=B p c (i p (by simp)) (i c (by simp)) k;have q:0<=PF d p (f p c):=C.ZR (g:=Oj d p) (by show 0<=PF d p p;rw[qD];exact RZ _) j;have e:∀x,0<=PF d p x->0<=PF d c x->0<=PF d (f p c) x:=λx a b=>by rw[fy,fy]at a b ⊢;exact C.ZR (g:=Oj x d) a b
  have o:0<=PF d (f p c) c:=e c j (by rw[qD];exact RZ _);by_cases b:0<=NX g c
  simp_all
  rw[N2 b]
  simp_all
  rw[N2 k];by_cases b:0<=NX g c;rw[N4 b];refine Tc.mpr ⟨λa c=>?_,ih⟩;simp at c;rcases c with rfl|c;exact j;exact l a c;rw[N2 b];exact Tc.mpr ⟨l,h⟩
theorem zW(B:Vw g qf):∀(l:yav) (p:Tr),(∀x∈p::l,0<x.1)->lF (p::l)->lF (p::aO g qf p l)
 |[],_,_,h=>h
 |c::r,p,f,h=>by
  have i:∀x∈c::r,0<x.1:=λx a=>f x (Pz _ a)
  have ih:=zW B r c i h.2;have j:(p::c::r).Pairwise λa b=>0<=PF p a b:=Tc.mpr ⟨λa _=>by rw[D0];exact RZ _,h.1⟩
  have e:=(Tc.mp (lC (d:=p) B (c::r) p f j)).2;refine⟨e,?_⟩;have e:(c::r).Pairwise λa b=>0<=PF p a b:=h.1
  have j:=lC (d:=p) B r c i e;have e:(c::r).Pairwise λa b=>0<=PF c a b:=Tc.mpr ⟨λa _=>by rw[D0];exact RZ _,h.2.1⟩
  have h:=lC (d:=c) B r c i e;unfold aO;by_cases d:NX g p*NX g c<0;rw[N4 d];obtain⟨⟨m,s,t,C⟩,e⟩:=B p c (f p (by simp)) (f c (by simp)) d;have e:(c::aO g qf c r).Pairwise λa b=>0<=PF (qf p c) a b:=by refine List.Pairwise.imp ?_ (List.pairwise_and_iff.mpr ⟨j,h⟩);intro a b ⟨x,y⟩;rw[fy]at x y ⊢;exact C.ZR (g:=Oj a b) x y
  by_cases a:0<=NX g c;rw[N4 a];exact⟨e,ih⟩;rw[N2 a];exact⟨(Tc.mp e).2,ih.2⟩;rw[N2 d];by_cases a:0<=NX g c;rw[N4 a];exact ih;rw[N2 a];exact ih.2
def Ff{l:yav}{a:Tr}(h:TX (l++[a])):TX (a::(l++[a])):=λx y z s=>by
 cases s with
 |cons _ s=>exact h x y z s
 |cons_cons _ s =>
  obtain⟨d,b,e,f,c⟩:=List.sublist_append_iff.mp s;rcases b with _|⟨w,b⟩;rw[VB]at e;subst e;have:=h y z a (by have:[y,z,a]=[y,z]++[a]:=rfl;exact f.append (List.Sublist.refl _))
  rw[fy];exact this;have f:b=[]:=by have:=c.length_le;simp at this;exact this
  subst f;have b:w=a:=QU.mp (c.subset (by simp));subst b;rcases d with _|⟨u,_|⟨v,d⟩⟩;cases e;cases e;rw[qz];exact RZ _;exact absurd (congrArg List.length e) (by simp)
def We(l:yav)(X:Tr):Prop:=∀h:Tr,(∀p∈l,0<=NX h p)->0<=NX h X
def OJ(g u v:Tr):Tr:=(NX g v*u.1 - NX g u*v.1,NX g v*u.2.1 - NX g u*v.2.1,NX g v*u.2.2 - NX g u*v.2.2)
theorem qp(g u v h:Tr):NX h (OJ g u v)=NX g v*NX h u - NX g u*NX h v:=by unfold OJ NX;grind
def EM(b:NX g y=0)(a:PF u v y=0):NX h y*(OJ g u v).1=y.1*NX h (OJ g u v):=by unfold PF NX Oj at a;unfold OJ NX at *;dsimp only at *;grind
def JR(l:NX g y1=0)(p:NX g y2=0)(q:PF u v y1<=0)(m:0<=PF u v y2)(e:0<y1.1)(n:0<y2.1)(j:0<=NX h y1)(o:0<=NX h y2):0<=NX h (OJ g u v)*(OJ g u v).1:=by
 by_cases z:PF u v y1=0;have k:=EM (h:=h) l z;have c:0<=(OJ g u v).1*(OJ g u v).1:=Yc _;have:0<=y1.1*(NX h (OJ g u v)*(OJ g u v).1):=by
  have:y1.1*(NX h (OJ g u v)*(OJ g u v).1)=NX h y1*((OJ g u v).1*(OJ g u v).1):=by rw[<- Yv,<- k,Yv]
  rw[this];exact PV j c
 exact Wh this e;have i:PF u v y1<0:=by lia
 generalize ha:PF u v y1=a at *;generalize hb:PF u v y2=b at *
 let y:Tr:=(b*y1.1 - a*y2.1,b*y1.2.1 - a*y2.2.1,b*y1.2.2 - a*y2.2.2)
 have d:∀f:Tr,NX f y=b*NX f y1 - a*NX f y2:=λf=>by unfold NX;grind
 have k:=EM (h:=h) (u:=u) (v:=v) (y:=y) (g:=g) (by rw[d,l,p];simp) (by
  show NX (Oj u v) y=0;rw[d];show b*PF u v y1 - a*PF u v y2=0;rw[ha,hb,Rp]
  lia)
 rw[d]at k;have d:0<y.1:=by
  show 0<b*y1.1 - a*y2.1;have:=PV m (PK e);have:=UD i n
  lia
 have n:0<=b*NX h y1 - a*NX h y2:=by
  have:=PV m j;have:=Ze (PK i) o
  lia
 have c:0<=(OJ g u v).1*(OJ g u v).1:=Yc _;have:0<=y.1*(NX h (OJ g u v)*(OJ g u v).1):=by
  have:y.1*(NX h (OJ g u v)*(OJ g u v).1)=(b*NX h y1 - a*NX h y2)*((OJ g u v).1*(OJ g u v).1):=by rw[<- Yv,<- k,Yv]
  rw[this];exact PV n c
 exact Wh this d
def yc(B:Vw g qf){A C D:yav}{u v z:Tr}(hz:A++u::(C++v::D)=(A++u::(C++v::D)).dropLast++[z])(Sj:TX (A++u::(C++v::D)))(pos:∀x∈A++u::(C++v::D),0<x.1)
  (j:NX g u*NX g v<0) (k:∀y∈aO g qf z (A++u::(C++v::D)),0<=NX h y):0<=NX h (OJ g u v)*(OJ g u v).1:=by
 have e:0<u.1:=pos u (by simp);have d:0<v.1:=pos v (by simp);have a:∀x∈C,0<x.1:=λx hx=>pos x (by simp[hx])
 have m:∀x∈A,0<x.1:=λx hx=>pos x (by simp[hx])
 have l:∀x∈D,0<x.1:=λx hx=>pos x (by simp[hx])
 have i:aO g qf z (A++u::(C++v::D))=aO g qf z (A++[u])++(aO g qf u (C++[v])++aO g qf v D):=by rw[iS g qf A z u,iS g qf C u v]
 obtain⟨b,g,r,c⟩:=oh B C u v (λx hx=>by
  rcases Ov.mp hx with rfl|hx;exact e;exact a x hx) d j
 have p:0<b.1:=sR B (C++[v]) u (λx hx=>by
  simp at hx;rcases hx with rfl|hx|rfl;exact e;exact a x hx;exact d) b g
 have n:PF u v b<=0:=by
  have:=c (Oj v u) λx hx=>by
   show 0<=PF v u x;simp at hx;rcases hx with rfl|hx|rfl;rw[qD];exact RZ _;have t:=Sj u x v (by
    have a:List.Sublist [u,x,v] (u::(C++v::D)):=by refine List.Sublist.cons_cons u ?_;have:[x,v]=[x]++[v]:=rfl;rw[this];exact(Yi.mpr hx).append (Yi.mpr (by simp))
    exact a.trans (Yh _ _))
   rw[fy,fy]at t;exact t;rw[qz];exact RZ _
  have q:0<=PF v u b:=this;rw[rL]
  lia
 have s:∀x∈v::D++(A++[u]),0<=PF u v x:=λx hx=>by
  simp at hx;rcases hx with rfl|hx|hx|rfl;rw[qD];exact RZ _;exact Sj u v x (by
   have a:List.Sublist [u,v,x] (u::(C++v::D)):=by refine List.Sublist.cons_cons u ?_;exact(List.Sublist.cons_cons v (Yi.mpr hx)).trans (Yh _ _)
   exact a.trans (Yh _ _))
  have t:=Sj x u v (by have:[x,u,v]=[x]++[u,v]:=rfl;rw[this];refine(Yi.mpr hx).append (List.Sublist.cons_cons u ?_);exact(Yi.mpr (by simp)).trans (Yh _ _))
  rw[fy]at t;exact t;rw[qz];exact RZ _
 obtain⟨a,c,f,t⟩:=oh B (D++A) v u (λx hx=>by
  simp at hx;rcases hx with rfl|hx|hx;exact d;exact l x hx;exact m x hx) e (by rw[Rp];exact j)
 have o:0<a.1:=sR B (D++A++[u]) v (λx hx=>by
  simp only[Ov,PU,RP,or_false]at hx;rcases hx with rfl|(hx|hx)|rfl;exact d;exact l x hx;exact m x hx;exact e) a c
 have j:0<=PF u v a:=t (Oj u v) λx hx=>s x (by
  simp only[Ov,PU,RP,or_false,UH]at hx ⊢;rcases hx with hx|(hx|hx)|hx;exact .inl hx;exact .inr (.inl hx);exact .inr (.inr (.inl hx));exact .inr (.inr (.inr hx)))
 have l:0<=NX h b:=k b (by rw[i];exact RA _ (TF _ g));have g:0<=NX h a:=by
  apply k a;rw[i];have:∃b,v::D=b++[z]:=by
   have a:v::D ≠ []:=by simp
   refine⟨(v::D).dropLast,?_⟩;have e:(A++u::(C++v::D)).getLast?=some z:=by rw[hz];simp
   have f:(A++u::(C++v::D)).getLast?=(v::D).getLast?:=by
    have:A++u::(C++v::D)=(A++u::C)++(v::D):=by simp
    rw[this,List.getLast?_append,Z1 a];rfl
   rw[f,Z1 a]at e;have d:=(Zf a).symm;rw[SA e]at d;exact d
  obtain⟨b,a⟩:=this;rcases b with _|⟨w,b⟩;cases a;exact TF _ c;rw[UH]at a;cases a;have e:b++[z]++A++[u]=b++z::(A++[u]):=by simp
  rw[e,iS]at c;rcases PU.mp c with q|q;exact RA _ (RA _ q);exact TF _ q
 exact JR r f n j p o l g
def Fb{l:yav}{a b:Tr}(e:a∈l)(d:b∈l)(c:a≠b):(∃A C D,l=A++a::(C++b::D))∨∃ A C D,l=A++b::(C++a::D):=by
 obtain⟨A,R,rfl⟩:=Zk e;rcases PU.mp d with q|q;obtain⟨b,a,rfl⟩:=Zk q;exact .inr ⟨b,a,R,by simp⟩;rcases Ov.mp q with q|q;exact absurd q.symm c;obtain⟨b,a,rfl⟩:=Zk q;exact .inl ⟨A,b,a,rfl⟩
theorem rW(g h:Tr):∀l:yav,(∃n∈l,NX g n<0/\NX h n<0)->∃n∈l,NX g n<0/\NX h n<0/\∀m∈l,NX g m<0->NX g n*NX h m<=NX h n*NX g m
 |[],⟨_,hn,_⟩=>by cases hn
 |x::r,l=>by
  by_cases j:∃n∈r,NX g n<0/\NX h n<0;obtain⟨n,hn,i,f,o⟩:=rW g h r j;by_cases c:NX g x<0/\¬(NX g n*NX h x<=NX h n*NX g x);obtain⟨a,p⟩:=c;have b:NX h x<0:=by
   have:0<NX h n*NX g x:=XG f a;exact SE.mp λz=>by
    have:=Ze (PK i) z
    lia
  refine⟨x,by simp,a,b,λm hm d=>?_⟩;rcases Ov.mp hm with rfl|hm;rw[Rp];exact RZ _;have k:=o m hm d;have a:0<=(-NX g x)*(NX h n*NX g m - NX g n*NX h m):=PV (by lia) (by lia);have b:0<=(-NX g m)*(NX g n*NX h x - NX h n*NX g x):=PV (by lia) (by lia);have e:(-NX g x)*(NX h n*NX g m - NX g n*NX h m)+(-NX g m)*(NX g n*NX h x - NX h n*NX g x)=(-NX g n)*(NX h x*NX g m - NX g x*NX h m):=by grind
  have:0<=(-NX g n)*(NX h x*NX g m - NX g x*NX h m):=by lia
  have:=Wh this (by lia)
  lia
  refine⟨n,Pz _ hn,i,f,λm hm d=>?_⟩;rcases Ov.mp hm with rfl|hm;exact Decidable.byContradiction λz=>c ⟨d,z⟩
  exact o m hm d;obtain⟨n,hn,i,f⟩:=l;rcases Ov.mp hn with rfl|hn;refine⟨n,by simp,i,f,λm hm d=>?_⟩;rcases Ov.mp hm with rfl|hm;rw[Rp];exact RZ _;have:0<=NX h m:=Uk.mp λz=>j ⟨m,hm,d,z⟩
  have a:=Ze (PK i) this;have b:=XG f d
  lia
  exact absurd ⟨n,hn,i,f⟩ j
def Hi(B:Vw g qf){l:yav}{z:Tr}(hz:l=l.dropLast++[z])(Sj:TX l)(pos:∀x∈l,0<x.1)(o:We l X)(w:0<=NX g X):We (aO g qf z l) X:=λh d=>by
 have j:∀p∈l,0<=NX g p->0<=NX h p:=λp b q=>d p (qo l z b q)
 by_cases m:∃n∈l,NX g n<0/\NX h n<0;obtain⟨n,a,c,t,e⟩:=rW g h l m
 let k:Tr:=(NX h n*g.1 - NX g n*h.1,NX h n*g.2.1 - NX g n*h.2.1,NX h n*g.2.2 - NX g n*h.2.2)
 have s:∀p:Tr,NX k p=NX h n*NX g p - NX g n*NX h p:=λp=>by show NX (NX h n*g.1 - NX g n*h.1,NX h n*g.2.1 - NX g n*h.2.1,NX h n*g.2.2 - NX g n*h.2.2) p=_;unfold NX;grind
 have u:∀p∈l,0<=NX k p:=λp b=>by
  rw[s];rcases WQ (NX g p) 0 with q|q|q;have:=e p b q
  lia
  rw[q,U2];have:=Ze (PK c) (j p b (by lia))
  lia
  have l:p≠n:=λe=>by rw[e]at q;lia
  have i:=pos n a;have f:=pos p b;rcases Fb b a l with⟨A,C,D,rfl⟩| ⟨A,C,D,rfl⟩;have r:=yc B hz Sj pos (XF q c) d;rw[qp]at r;have a:(OJ g p n).1<0:=by
   show NX g n*p.1 - NX g p*n.1<0;have:=UD c f;have:=TH q i
   lia
  have e:NX g n*NX h p - NX g p*NX h n<=0:=Uk.mp λz=>by
   have:=XF z a
   lia
  rw[Rp (NX h n)]
  lia
  have r:=yc B hz Sj pos (UD c q) d;rw[qp]at r;have a:0<(OJ g n p).1:=by
   show 0<NX g p*n.1 - NX g n*p.1;have:=UD c f;have:=TH q i
   lia
  have e:0<=NX g p*NX h n - NX g n*NX h p:=Uk.mp λz=>by
   have:=UD z a
   lia
  rw[Rp (NX h n)];exact e
 have a:=o k u;rw[s]at a;have a:=Ze (PK t) w;exact Uk.mp λz=>by
  have:=XG c z
  lia
 refine o h λp b=>?_
 by_cases q:0<=NX g p;exact j p b q;exact Uk.mp λz=>m ⟨p,b,by lia,z⟩
def SR(R:Tr->Tr->Prop):yav->Prop
 |[]=>True
 |[_]=>True
 |a::b::r=>R a b/\SR R (b::r)
def SR.tail{a:Tr}:∀{l:yav},SR R (a::l)->SR R l
 |[],_=>True.intro
 |_::_,h=>h.2
theorem j2:∀(l:yav) (x:Tr) (k:yav),SR R (l++x::k)↔SR R (l++[x])/\SR R (x::k)
 |[],x,k=>by simp[SR]
 |[a],x,k=>by simp[SR]
 |a::b::l,x,k=>by have:=j2 (R:=R) (b::l) x k;simp only[UH,SR]at this ⊢;rw[this,and_assoc]
def Sh(G:Tr->Prop)(a b:Tr):Prop:=∃e,G e/\NX e a=0/\NX e b=0
theorem og(B:Vw g qf){G:Tr->Prop}(i:G g):∀(l:yav) (p x:Tr),(∀y∈p::l,0<y.1)->((x=p/\0<=NX g p)∨(NX g x=0/\NX g p<0))->SR (Sh G) (p::l)->SR (Sh G) (x::aO g qf p l)
 |[],_,_,_,_,_=>True.intro
 |c::r,p,x,b,a,h=>by
  have f:∀y∈c::r,0<y.1:=λy d=>b y (Pz _ d)
  obtain⟨⟨e,j,k,l⟩,d⟩:=h;have ih:=λx a=>og B i r c x f a d
  unfold aO;by_cases f:NX g p*NX g c<0;rw[N4 f];obtain⟨⟨m,s,t,C⟩,h⟩:=B p c (b p (by simp)) (b c (by simp)) f;have d:NX e (qf p c)=0:=C.zero k l;by_cases b:0<=NX g c;rw[N4 b];refine⟨?_,⟨e,j,d,l⟩,ih c (.inl ⟨rfl,b⟩)⟩;rcases a with⟨rfl,_⟩| ⟨a,_⟩;exact⟨e,j,k,d⟩;exact⟨g,i,a,h⟩;rw[N2 b];refine⟨?_,ih _ (.inr ⟨h,by lia⟩)⟩;rcases a with⟨rfl,_⟩| ⟨a,_⟩;exact⟨e,j,k,d⟩;exact⟨g,i,a,h⟩;rw[N2 f];by_cases b:0<=NX g c;rw[N4 b];refine⟨?_,ih c (.inl ⟨rfl,b⟩)⟩;rcases a with⟨rfl,_⟩| ⟨a,d⟩;exact⟨e,j,k,l⟩;have:NX g c=0:=by
   rcases Int.lt_or_eq_of_le b with q|q;exact absurd (UD d q) f;exact q.symm
  exact⟨g,i,a,this⟩;rw[N2 b];refine ih x ?_;rcases a with⟨rfl,d⟩| ⟨a,_⟩
  right
  refine⟨?_,by lia⟩;rcases Int.lt_or_eq_of_le d with q|q;exact absurd (XF q (by lia)) f;exact q.symm;exact .inr ⟨a,by lia⟩
theorem wU(B:Vw g qf){G:Tr->Prop}(b:G g):∀(l:yav) (p:Tr),(∀y∈p::l,0<y.1)->SR (Sh G) (p::l)->SR (Sh G) (aO g qf p l)
 |[],_,_,_=>True.intro
 |c::r,p,a,h=>by
  by_cases j:0<=NX g p;exact(og B b (c::r) p p a (.inl ⟨rfl,j⟩) h).tail;have i:∀y∈c::r,0<y.1:=λy d=>a y (Pz _ d)
  obtain⟨⟨e,l,n,k⟩,f⟩:=h;unfold aO;by_cases d:NX g p*NX g c<0;rw[N4 d];obtain⟨⟨m,s,t,C⟩,o⟩:=B p c (a p (by simp)) (a c (by simp)) d;have h:NX e (qf p c)=0:=C.zero n k;by_cases a:0<=NX g c;rw[N4 a];exact⟨⟨e,l,h,k⟩,og B b r c c i (.inl ⟨rfl,a⟩) f⟩;exact absurd (XG (SE.mp j) (SE.mp a)) (by lia);rw[N2 d];by_cases a:0<=NX g c;rw[N4 a];exact og B b r c c i (.inl ⟨rfl,a⟩) f;rw[N2 a];exact wU B b r c i f
def ZU(R:Tr->Tr->Prop)(l:yav):Prop:=∀k z,l=k++[z]->SR R (z::l)
def Hh(B:Vw g qf){G:Tr->Prop}(a:G g){l:yav}{z:Tr}(hz:l=l.dropLast++[z])(pos:∀y∈l,0<y.1)(h:ZU (Sh G) l):ZU (Sh G) (aO g qf z l):=λk y d=>by
 have f:=h _ z hz;have c:SR (Sh G) (z::(l++l)):=by grind [List.cons_append,j2]
 have b:z∈l:=by rw[hz];simp
 have e:=wU B a (l++l) z (λy a=>by
  simp at a;rcases a with rfl|a;exact pos y b;exact pos y a) c
 grind [iS,j2]
noncomputable def Sk:yav->yav->yav
 |_,[]=>[]
 |seen,x::r=>if x∈seen then Sk seen r else x::Sk (seen++[x]) r
theorem uX:∀(l seen:yav),(Sk seen l).Sublist l
 |[],_=>List.Sublist.slnil
 |x::r,seen=>by
  unfold Sk;split
  all_goals simp_all [uX]
theorem uW:∀(l seen:yav) {x:Tr},x∈l->x∈seen∨x∈Sk seen l
 |[],_,_,h=>by cases h
 |y::r,seen,x,h=>by
  unfold Sk;rcases Ov.mp h with rfl|h;grind
  ·split
   simp_all [uW]
   ·rcases uW r (seen++[y]) h with q|q
    all_goals grind
theorem wj:∀(l seen:yav),l.Nodup->(∀x∈l,x∉seen)->Sk seen l=l
 |[],_,_,_=>rfl
 |x::r,seen,h,c=>by
  obtain⟨a,b⟩:=UJ.mp h;unfold Sk;rw[N2 (c x (by simp)),wj r (seen++[x]) b λy b q=>by
   rcases PU.mp q with q|q;exact c y (Pz _ b) q;exact a (by rw[<- QU.mp q];exact b)]
theorem oV:∀(l seen:yav) (v:Tr) (k:yav),v∈seen∨v∈l->Sk seen (l++v::k)=Sk seen (l++k)
 |[],seen,v,k,h=>by
  rw[UZ,UZ]
  conv=>lhs;unfold Sk
  grind
 |x::r,seen,v,k,h=>by rw[UH,UH];unfold Sk;split;refine oV r seen v k ?_;grind;congr 1;refine oV r _ v k ?_;grind
theorem rB:∀l:yav,¬l.Nodup->∃A v C,l=A++v::C/\v∈A
 |[],h=>absurd List.nodup_nil h
 |x::r,h=>by
  by_cases a:x∈r;obtain⟨A,C,rfl⟩:=Zk a;exact⟨x::A,x,C,rfl,by simp⟩;obtain⟨A,v,C,e,b⟩:=rB r λq=>h (UJ.mpr ⟨a,q⟩)
  exact⟨x::A,v,C,by rw[e];rfl,Pz _ b⟩
def IT(j:NX e a=0)(i:NX e v=0)(h:PF v a b=0)(c:Oj v a≠(0,0,0)):NX e b=0:=by
 have g:NX e b*(Oj v a).1=0:=by unfold PF NX Oj at *;grind
 have f:NX e b*(Oj v a).2.1=0:=by unfold PF NX Oj at *;grind
 have d:NX e b*(Oj v a).2.2=0:=by unfold PF NX Oj at *;grind
 refine Decidable.byContradiction λz=>c ?_
 have m:=(Sz.mp g).resolve_left z;have l:=(Sz.mp f).resolve_left z;have k:=(Sz.mp d).resolve_left z;grind
structure Pr(p:Tr):Prop where
 pos:0<p.1
 low:PM.g3 p.1 p.2.1 p.2.2=1
def ya(b:Pr v)(c:Pr a)(h:Oj v a=(0,0,0)):v=a:=by
 unfold Oj at h;simp at h;obtain⟨n,m,l⟩:=h;have f:v.2.1*a.1=a.2.1*v.1:=by lia
 have e:v.2.2*a.1=a.2.2*v.1:=by lia
 have h:v.1∣a.1:=jO (d:=v.1) (k:=a.1) (x:=v.1) (y:=v.2.1) (z:=v.2.2) (by simp_all) (by simp_all [Rp,zDB]) (by simp_all [Rp,zDB]) b.low;have g:a.1∣v.1:=jO (d:=a.1) (k:=v.1) (x:=a.1) (y:=a.2.1) (z:=a.2.2) (by simp_all) (by rw[Rp,<- f];exact zDB _ _) (by rw[Rp,<- e];exact zDB _ _) c.low;have d:=c.pos;have pv:=b.pos;have e:v.1=a.1:=by
  have j:=Int.le_of_dvd d h;have i:=Int.le_of_dvd pv g
  lia
 grind [Int.eq_of_mul_eq_mul_right]
theorem DV:∀(n:Nat) (l:yav),l.length<=n->TX l->(∀p∈l,Pr p)->ZU (Sh G) l->ZU (Sh G) (Sk [] l)
 |n,l,i,Sj,t,cy=>by
  by_cases B:l.Nodup;rw[wj l [] B (by simp)];exact cy;obtain⟨A,v,C,rfl,E⟩:=rB l B;rw[oV A [] v C (.inr E)];cases n with
  |zero=>simp at i
  |succ n =>
  have sub:(A++C).Sublist (A++v::C):=(List.Sublist.refl A).append (List.sublist_cons_self v C);refine DV n (A++C) (by simp at i ⊢;lia) (Sj.sub sub) (λp a=>t p (sub.subset a)) ?_;obtain⟨h,r,rfl⟩:=Zk E;obtain⟨K,a,d⟩:∃K a,h++v::r=K++[a]:=⟨_,_,(Zf (by simp:h++v::r ≠ [])).symm⟩;have L:a=v∨∃ f,r=f++[a]:=by
   rcases List.eq_nil_or_concat r with rfl|⟨f,w,rfl⟩
   left
   have:=congrArg List.getLast? d;simp at this;exact this.symm
   right
   have e:h++v::f.concat w=(h++v::f)++[w]:=by simp
   rw[e]at d;have:=(List.append_inj' d rfl).2;cases this;exact⟨f,by simp⟩
  have pv:Pr v:=t v (by simp);have O:Pr a:=t a (by rw[d];simp)
  have g:∀b,Sh G a v->Sh G v b->(a≠v->PF v a b=0)->Sh G a b:=λb N M Q=>by by_cases q:a=v;rw[q];exact M;obtain⟨e,Y,H,ev⟩:=N;exact⟨e,Y,H,IT H ev (Q q) λz=>q (ya pv O z).symm⟩
  rw[d];rw[d]at cy Sj;rcases C with _|⟨b,C⟩;have c:=cy (K++[a]) v (by simp);intro k z m;rw[VB]at m ⊢;have ez:a=z:=by have:=congrArg List.getLast? m;simp at this;exact this
  subst ez;have j:SR (Sh G) ((v::K)++a::[v]):=by simpa using c
  rw[j2]at j;obtain⟨x,w,_⟩:=j;rcases hA:K++[a]with _|⟨b,R⟩;simp at hA;have o:SR (Sh G) (v::b::R):=by rw[<- hA];exact x
  refine⟨g b w o.1 λu=>?_,o.2⟩;obtain⟨f,rfl⟩:=L.resolve_left u;rcases h with _|⟨b',h⟩;rw[<- d]at hA;cases hA;rw[qz];rw[<- d]at hA;cases hA;have y:=Sj b v a (by rw[<- d];refine List.Sublist.trans ?_ (List.sublist_append_left _ _);refine List.Sublist.cons_cons b ?_;refine List.Sublist.trans ?_ (Yh _ _);refine List.Sublist.cons_cons v ?_;exact Yh _ _)
  have s:=Sj b a v (by rw[<- d];refine List.Sublist.cons_cons b ?_;have:[a,v]=[a]++[v]:=rfl;rw[this];refine List.Sublist.append ?_ (List.Sublist.refl _);exact Yi.mpr (by simp))
  rw[fy]at y;rw[fy,rL]at s
  lia
  intro k z m;have c:=cy (((K++[a])++v::b::C).dropLast) z (by
   have J:(K++[a]++v::b::C).getLast?=some z:=by
    have U:(K++[a]++b::C).getLast?=some z:=by rw[m];simp
    have T:(K++[a]++b::C).getLast?=(b::C).getLast?:=by rw[List.getLast?_append,Z1 (by simp:b::C ≠ [])];rfl
    have I:(K++[a]++v::b::C)=(K++[a]++[v])++b::C:=by simp
    rw[I,List.getLast?_append,<- T,U];rfl
   have i:K++[a]++v::b::C ≠ []:=by simp
   rw[Z1 i]at J;have I:=(Zf i).symm;rw[SA J]at I;exact I)
  have j:SR (Sh G) ((z::K)++a::(v::b::C)):=by simpa using c
  rw[j2]at j;obtain⟨x,w,o,I⟩:=j;have:z::(K++[a]++b::C)=(z::K)++a::(b::C):=by simp
  rw[this,j2];refine⟨x,g b w o λu=>?_,I⟩;obtain⟨f,rfl⟩:=L.resolve_left u;have y:=Sj v a b (by
   rw[<- d];have:h++v::(f++[a])++v::b::C=(h++(v::f))++(a::(v::(b::C))):=by simp
   rw[this];have:[v,a,b]=[v]++[a,b]:=rfl;rw[this];refine List.Sublist.append (Yi.mpr (by simp)) (List.Sublist.cons_cons a ?_);exact List.Sublist.cons _ (List.Sublist.cons_cons b (List.nil_sublist _)))
  have s:=Sj a v b (by
   have:K++[a]++v::b::C=K++(a::v::b::C):=by simp
   rw[this];refine List.Sublist.trans ?_ (Yh _ _);exact List.Sublist.cons_cons a (List.Sublist.cons_cons v (List.Sublist.cons_cons b (List.nil_sublist _))))
  rw[rL]at s
  lia
def Tt(w:Tr):Tr:=(w.1.fdiv (PM.Qf w.1 w.2.1 w.2.2 w.1),w.2.1.fdiv (PM.Qf w.1 w.2.1 w.2.2 w.1),w.2.2.fdiv (PM.Qf w.1 w.2.1 w.2.2 w.1))
def cR(g p c:Tr):Tr:=Tt (OJ g p c)
def ER{w:Tr}(h:w.1≠0):Pr (Tt w):=⟨PM.Jx h (PM.rM _ _ _) λz=>h z.1,PM.L3 λz=>h z.1⟩
def LU{w:Tr}(e:Pr q)(c:w.1*q.2.1=q.1*w.2.1)(b:w.1*q.2.2=q.1*w.2.2):∃m,w.1=m*q.1/\w.2.1=m*q.2.1/\w.2.2=m*q.2.2:=by obtain⟨m,a⟩:q.1∣w.1:=jO (d:=q.1) (k:=w.1) (x:=q.1) (y:=q.2.1) (z:=q.2.2) (zDB _ _) (by rw[c];exact Int.dvd_mul_right _ _) (by rw[b];exact Int.dvd_mul_right _ _) e.low;have p:=e.pos;refine⟨m,by rw[a,Rp],?_,?_⟩;rw[a,Yv]at c;exact(Z2 (by lia) c).symm;rw[a,Yv]at b;exact(Z2 (by lia) b).symm
def zZ{p c:Tr}(e:0<p.1)(f:0<c.1)(d:NX g p*NX g c<0):(NX g p<0/\0<NX g c/\0<(OJ g p c).1)∨(0<NX g p/\NX g c<0/\(OJ g p c).1<0):=by
 rcases Int.lt_or_gt_of_ne (show NX g p≠0 from by lia)with a|a
 left
 have b:0<NX g c:=SE.mp λb=>SE.mpr d (Z0 (PK a) b)
 refine⟨a,b,?_⟩;show 0<NX g c*p.1 - NX g p*c.1;have:=TH b e;have:=UD a f
 lia
 right
 have b:NX g c<0:=SE.mp λb=>SE.mpr d (PV (PK a) b)
 refine⟨a,b,?_⟩;show NX g c*p.1 - NX g p*c.1<0;have:=UD b e;have:=TH a f
 lia
def Dv(g:Tr):Vw g (cR g):=λp c b d a=>by
 have k:=zZ b d a;have h:=PM.cP (l:=(OJ g p c).1) (PM.rM (OJ g p c).1 (OJ g p c).2.1 (OJ g p c).2.2);have f:=PM.cP (l:=(OJ g p c).1) (PM.u5 (OJ g p c).1 (OJ g p c).2.1 (OJ g p c).2.2);have e:=PM.cP (l:=(OJ g p c).1) (PM.u6 (OJ g p c).1 (OJ g p c).2.1 (OJ g p c).2.2);have a:(OJ g p c).1≠0:=by rcases k with⟨_,_,q⟩| ⟨_,_,q⟩<;>lia
 have i:PM.g3 (OJ g p c).1 (OJ g p c).2.1 (OJ g p c).2.2≠0:=λz=>a (PM.u9.mp z).1
 have C:∃m s t,Yd (cR g p c) p c m s t/\s*NX g p+t*NX g c=0:=by
  rcases k with⟨a,b,q⟩| ⟨a,b,q⟩;have d:PM.Qf (OJ g p c).1 (OJ g p c).2.1 (OJ g p c).2.2 (OJ g p c).1=(PM.g3 (OJ g p c).1 (OJ g p c).2.1 (OJ g p c).2.2:Int):=by unfold PM.Qf;rw[N2 (by lia)]
  refine⟨PM.g3 (OJ g p c).1 (OJ g p c).2.1 (OJ g p c).2.2,NX g c,-NX g p,⟨by lia,b,by lia,?_,?_,?_⟩,by rw[R8,Rp];lia⟩;show _*((OJ g p c).1.fdiv _)=_;rw[<- d,Rp,h,R8];rfl;show _*((OJ g p c).2.1.fdiv _)=_;rw[<- d,Rp,f,R8];rfl;show _*((OJ g p c).2.2.fdiv _)=_;rw[<- d,Rp,e,R8];rfl;have d:-PM.Qf (OJ g p c).1 (OJ g p c).2.1 (OJ g p c).2.2 (OJ g p c).1=(PM.g3 (OJ g p c).1 (OJ g p c).2.1 (OJ g p c).2.2:Int):=by unfold PM.Qf;rw[N4 (by lia),Int.neg_neg]
  refine⟨PM.g3 (OJ g p c).1 (OJ g p c).2.1 (OJ g p c).2.2,-NX g c,NX g p,⟨by lia,by lia,a,?_,?_,?_⟩,by rw[R8,Rp];lia⟩;show _*((OJ g p c).1.fdiv _)=_;rw[<- d,R8,Rp,h,R8];show -(NX g c*p.1 - NX g p*c.1)=_
  lia
  show _*((OJ g p c).2.1.fdiv _)=_;rw[<- d,R8,Rp,f,R8];show -(NX g c*p.2.1 - NX g p*c.2.1)=_
  lia
  show _*((OJ g p c).2.2.fdiv _)=_;rw[<- d,R8,Rp,e,R8];show -(NX g c*p.2.2 - NX g p*c.2.2)=_
  lia
 obtain⟨m,s,t,C,z⟩:=C;refine⟨⟨m,s,t,C⟩,?_⟩;have:=C.gv g;rw[z]at this;exact(Sz.mp this).resolve_left (by have:=C.m0;lia)
def J9{p c:Tr}(b:0<p.1)(d:0<c.1)(a:NX g p*NX g c<0):Pr (cR g p c):=ER (by rcases zZ b d a with⟨_,_,q⟩| ⟨_,_,q⟩<;>omega)
def Kg{e:Tr}(b:e≠(0,0,0))(ep:NX e p=0)(a:NX g p≠0):Oj e g≠(0,0,0):=λz=>b (by
 unfold Oj at z;simp at z;obtain⟨i,h,f⟩:=z;have d:e.1*NX g p=0:=by unfold NX at *;grind
 have c:e.2.1*NX g p=0:=by unfold NX at *;grind
 have b:e.2.2*NX g p=0:=by unfold NX at *;grind
 have l:=(Sz.mp d).resolve_right a;have k:=(Sz.mp c).resolve_right a;have j:=(Sz.mp b).resolve_right a
 lia)
def EJ(f:Pr q)(i:NX e q=0)(h:NX g q=0)(d:Oj e g≠(0,0,0)):∃m,m≠0/\(Oj e g).1=m*q.1/\(Oj e g).2.1=m*q.2.1/\(Oj e g).2.2=m*q.2.2:=by obtain⟨m,c,b,a⟩:=LU (w:=Oj e g) f (by unfold NX at *;unfold Oj;grind) (by unfold NX at *;unfold Oj;grind);refine⟨m,λz=>d ?_,c,b,a⟩;rw[z,Vp]at c b a;exact Wn c (Wn b a)
def EK(o:Pr q)(G:NX e q=0)(E:NX g q=0)(y:Oj e g≠(0,0,0)):q=Tt (Oj e g):=by
 obtain⟨m,s,t,C,B⟩:=EJ o G E y;have r:(Oj e g).1≠0:=by rw[t];exact Int.mul_ne_zero s (by have:=o.pos;lia)
 have A:=ER r;have x:=PM.cP (l:=(Oj e g).1) (PM.rM (Oj e g).1 (Oj e g).2.1 (Oj e g).2.2);have w:=PM.cP (l:=(Oj e g).1) (PM.u5 (Oj e g).1 (Oj e g).2.1 (Oj e g).2.2);have u:=PM.cP (l:=(Oj e g).1) (PM.u6 (Oj e g).1 (Oj e g).2.1 (Oj e g).2.2);have H:PM.Qf (Oj e g).1 (Oj e g).2.1 (Oj e g).2.2 (Oj e g).1≠0:=PM.yz λz=>r z.1
 apply ya o A;have i:(Tt (Oj e g)).1*PM.Qf (Oj e g).1 (Oj e g).2.1 (Oj e g).2.2 (Oj e g).1=m*q.1:=by rw[<- t];exact x
 have f:(Tt (Oj e g)).2.1*PM.Qf (Oj e g).1 (Oj e g).2.1 (Oj e g).2.2 (Oj e g).1=m*q.2.1:=by rw[<- C];exact w
 have c:(Tt (Oj e g)).2.2*PM.Qf (Oj e g).1 (Oj e g).2.1 (Oj e g).2.2 (Oj e g).1=m*q.2.2:=by rw[<- B];exact u
 generalize PM.Qf (Oj e g).1 (Oj e g).2.1 (Oj e g).2.2 (Oj e g).1=d at *;generalize Tt (Oj e g)=p at *;unfold Oj;have k:∀a b n j:Int,a*d=m*n->b*d=m*j->n*b - j*a=0:=λa b n j h I=>by
  have:m*d*(n*b - j*a)=0:=by grind
  exact(Sz.mp this).resolve_left (Int.mul_ne_zero s H)
 rw[k _ _ _ _ f c,k _ _ _ _ c i,k _ _ _ _ i f]
def fk(g:Tr)(l:yav):yav:=match l.getLast? with
 |none=>[]
 |some z=>Sk [] (aO g (cR g) z l)
structure Y7(n:Nat)(e:Tr):Prop where
 ne:e≠(0,0,0)
 c:Bd (2*n+2) e.1
 a:Bd (n+1) e.2.1
 b:Bd (n+1) e.2.2
structure CB(n:Nat)(p:Tr):Prop where
 b:Bd (2*n+3) p.1
 x:Bd (3*n+4) p.2.1
 y:Bd (3*n+4) p.2.2
structure Y8(n:Nat)(Gs Z l:yav):Prop where
 Sj:TX l
 pr:∀p∈l,Pr p
 cb:∀p∈l,CB n p
 cyc:ZU (Sh (·∈Gs)) l
 mem:∀p∈l,p∈Z
 len:l.length<=Z.length
def Mn{k:Nat}(i:Bd n a)(h:Bd m b)(g:Bd m c)(f:Bd n d)(e:n+m+1=k):Bd k (a*b - c*d):=by subst e;have b:=i.mul h;have a:=g.mul f;rw[Nat.add_comm m n]at a;exact b.sub a
def yA{m q w:Int}(a:m≠0)(e:w=m*q)(h:Bd n w):Bd n q:=by
 unfold Bd at *;rw[e,XT]at h;have:q.natAbs<=m.natAbs*q.natAbs:=Nat.le_mul_of_pos_left _ (by lia)
 lia
theorem uI:∀(l:yav) (p:Tr) {y:Tr},y∈aO g (cR g) p l->y∈l∨∃ a b,a∈p::l/\b∈l/\List.Sublist [a,b] (p::l)/\NX g a*NX g b<0/\y=cR g a b/\∀R:Tr->Tr->Prop,SR R (p::l)->R a b
 |[],_,_,h=>by cases h
 |c::r,p,y,h=>by
  rcases PU.mp h with q|q;split at q;rename_i d;exact .inr ⟨p,c,by simp,by simp,List.Sublist.cons_cons p (List.Sublist.cons_cons c (List.nil_sublist _)),d,QU.mp q,λR d=>d.1⟩;cases q;rcases PU.mp q with q|q;split at q;rw[QU.mp q];exact .inl (by simp);cases q;rcases uI r c q with q|⟨a,b,h,g,f,e,c,h6⟩;exact .inl (Pz _ q);exact .inr ⟨a,b,Pz _ h,Pz _ g,f.cons p,e,c,λR d=>h6 R d.2⟩
theorem yj:∀(l seen:yav),(Sk seen l).Nodup/\∀x∈Sk seen l,x∉seen
 |[],_=>⟨List.nodup_nil,λ_ h=>(by cases h)⟩
 |x::r,seen=>by
  unfold Sk;split;exact yj r seen;rename_i q;obtain⟨a,b⟩:=yj r (seen++[x]);refine⟨UJ.mpr ⟨λh=>b x h (by simp),a⟩,λy hy=>?_⟩;rcases Ov.mp hy with rfl|hy;exact q;exact λz=>b y hy (TF _ z)
def yS{l:yav}{z:Tr}(h:l.getLast?=some z):l=l.dropLast++[z]:=by
 have a:l ≠ []:=λe=>by rw[e]at h;cases h
 rw[Z1 a]at h;have:=(Zf a).symm;rw[SA h]at this;exact this
theorem zd:∀{l Z:yav},l.Nodup->(∀x∈l,x∈Z)->l.length<=Z.length
 |[],_,_,_=>QI _
 |x::r,Z,h,c=>by
  obtain⟨a,b⟩:=UJ.mp h;obtain⟨A,C,rfl⟩:=Zk (c x (by simp));have:=zd (l:=r) (Z:=A++C) b λy b=>by
   have:=c y (Pz _ b);simp only[PU,Ov]at this ⊢;rcases this with q|q|q;exact .inl q;rw[q]at b;exact absurd b a;exact .inr q
  simp at this ⊢
  lia
def FY{i Z:yav}{g:Tr}(w:∀e∈i,Y7 n e)(J:g∈i)(Y:∀e∈i,Tt (Oj e g)∈Z)(C:Y8 n i Z l):Y8 n i Z (fk g l):=by
 unfold fk;cases hl:l.getLast? with
 |none=>exact⟨λ_ _ _ s=>(by cases s),λ_ h=>(by cases h),λ_ h=>(by cases h),λk z e=>(by simp at e),λ_ h=>(by cases h),QI _⟩
 |some z =>
  have o:=yS hl;have d:∀x∈l,0<x.1:=λx hx=>(C.pr x hx).pos
  have O:z∈l:=by rw[o];simp
  have h:∀x∈z::l,0<x.1:=λx hx=>by
   rcases Ov.mp hx with rfl|hx;exact d x O;exact d x hx
  have B:=Dv g;have j:TX (z::l):=by have:=Ff (l:=l.dropLast) (a:=z) (by rw[<- o];exact C.Sj);rw[<- o]at this;exact this
  have f:TX (aO g (cR g) z l):=lF.t (zW B l z h j.p).2;have cy:=Hh B (G:=(·∈i)) J o d C.cyc;have c:∀y∈aO g (cR g) z l,Pr y/\CB n y/\y∈Z:=λy Q=>by
   rcases uI l z Q with q|⟨a,b,U,T,_,p,rfl,hR⟩;exact⟨C.pr y q,C.cb y q,C.mem y q⟩;have G:=h a U;have A:=d b T;have r:=J9 G A p;obtain⟨e,u,N,eb⟩:=hR _ (C.cyc _ z o);obtain⟨⟨m,s,t,K⟩,L⟩:=B a b G A p;have M:=K.zero N eb;have I:=Kg (w e u).ne N (show NX g a≠0 from λz=>by rw[z,Vp]at p;exact Wl _ p);refine⟨r,?_,?_⟩;obtain⟨m,t,h1,h2,h3⟩:=EJ r M L I;have E:=w e u;have H:=w g J;exact⟨yA t h1 (Mn (k:=2*n+3) E.a H.b E.b H.a (by lia)),yA t h2 (Bd.mono ((E.b.mul H.c).sub (Nat.add_comm _ _ ▸ E.c.mul H.b)) (by lia)),yA t h3 (Bd.mono ((E.c.mul H.a).sub (Nat.add_comm _ _ ▸ E.a.mul H.c)) (by lia))⟩;rw[EK r M L I];exact Y e u
  have sub:=uX (aO g (cR g) z l) [];exact⟨f.sub sub,λp b=>(c p (sub.subset b)).1,λp b=>(c p (sub.subset b)).2.1,DV _ _ (OP _) f (λp b=>(c p b).1) cy,λp b=>(c p (sub.subset b)).2.2,zd (yj _ _).1 λp b=>(c p (sub.subset b)).2.2⟩
def tB(Sj:TX l)(a:∀p∈l,Pr p):(∀X,We l X->0<=NX g X->We (fk g l) X)/\(∀y∈fk g l,0<=NX g y)/\∀d,(∀p∈l,0<=NX d p)->∀y∈fk g l,0<=NX d y:=by
 unfold fk;cases hl:l.getLast? with
 |none =>
  have e:=zCs.mp hl;subst e;exact⟨λX h _=>h,λ_ h=>(by cases h),λ_ _ _ h=>by cases h⟩
 |some z =>
  have e:=yS hl;have b:∀x∈l,0<x.1:=λx hx=>(a x hx).pos
  have c:z∈l:=by rw[e];simp
  have a:∀x∈z::l,0<x.1:=λx hx=>by
   rcases Ov.mp hx with rfl|hx;exact b x c;exact b x hx
  have B:=Dv g;have sub:=uX (aO g (cR g) z l) [];refine⟨λX g i h f=>Hi B e Sj b g i h λp e=>?_,λy b=>wV B l z a y (sub.subset b),λd d y b=>sQ B l z a (λx hx=>?_) y (sub.subset b)⟩;exact f p ((uW _ [] e).resolve_left (by simp));rcases Ov.mp hx with rfl|hx;exact d x c;exact d x hx
def aX(a l:yav):yav:=a.foldl (λl g=>fk g l) l
def Lj(h:We l X)(a:0<X.1):l ≠ []:=λe=>by
 have:=h (-1,0,0) (by simp_all);unfold NX at this
 lia
def sT(p:Sp):Tr:=(1,p.1,p.2)
def KS(a b c:Sp):PF (sT a) (sT b) (sT c)=cr a b c:=by rw[cC];unfold PF sT NX Oj;grind
def xw{A B:Int}{x y z:Sp}(b:0<A*y.1+B*y.2)(a:0<=A*x.1+B*x.2)(hz:0<=A*z.1+B*z.2)(d:0<=tn x y)(c:0<=tn y z):0<=tn x z:=by
 have e:(A*y.1+B*y.2)*tn x z=(A*z.1+B*z.2)*tn x y+(A*x.1+B*x.2)*tn y z:=by unfold tn;grind
 have g:=PV hz d;have f:=PV a c;exact Wh (a:=A*y.1+B*y.2) (by rw[e];omega) b
def sb(a b:Sp):Sp:=(a.1 - b.1,a.2 - b.2)
def gL(a b c:Sp):cr a b c=tn (sb b a) (sb c a):=by rw[cC];unfold tn sb;grind
theorem fW(A B:Int)(a b:Sp):A*(sb a b).1+B*(sb a b).2=fA A B a - fA A B b:=by unfold sb fA;grind
def BN(L:Way A B ps n l){i j k:Nat}(d:i<j)(c:j<k)(a:k<n):0<=cr (l i) (l j) (l k):=by
 have b:=L.PL j (by lia) (l i) (L.mem i (by lia));have m:=L.PL j (by lia) (l k) (L.mem k a);have h:=L.rise i j d (by lia);have g:=L.rise j (j+1) (by lia) (by lia);have f:=L.rise j k c a;have:=xw (A:=A) (B:=B) (x:=sb (l j) (l i)) (y:=sb (l (j+1)) (l j)) (z:=sb (l k) (l j)) (by rw[fW];lia) (by grind [fW]) (by grind [fW]) (by
  rw[cC]at b;unfold tn sb
  lia) (by simp_all [gL])
 rw[gL];have e:tn (sb (l j) (l i)) (sb (l k) (l i))=tn (sb (l j) (l i)) (sb (l k) (l j)):=by unfold tn sb;grind
 simp_all
def BO{m:Nat}(L:Way A B ps n l)(U:Way (-A) (-B) ps (m+2) u)(p:u (m+1)=l 0){i j k:Nat}(s:i<j)(d:j<n)(g:k<m+2):0<=cr (l i) (l j) (u k):=by
 have f:=U.mem k g;have o:=L.rise i j s d;by_cases h:fA A B (u k)<=fA A B (l i);have b:=L.PL i (by lia) (u k) f;have c:=L.PL i (by lia) (l j) (L.mem j d);have r:=L.rise i (i+1) (by lia) (by lia);have:=xw (A:=A) (B:=B) (x:=sb (l i) (u k)) (y:=sb (l (i+1)) (l i)) (z:=sb (l j) (l i)) (by rw[fW];lia) (by rw[fW];lia) (by rw[fW];lia) (by
  rw[gL]at b;have:tn (sb (l i) (u k)) (sb (l (i+1)) (l i))=tn (sb (l (i+1)) (l i)) (sb (u k) (l i)):=by unfold tn sb;grind
  rw[this];exact b) (by rw[<- gL];exact c)
 rw[gL];have e:tn (sb (l j) (l i)) (sb (u k) (l i))=tn (sb (l i) (u k)) (sb (l j) (l i)):=by unfold tn sb;grind
 rw[e];exact this;by_cases w:fA A B (l j)<=fA A B (u k);obtain⟨a,rfl⟩:∃a,j=a+1:=⟨j - 1,by lia⟩;have b:=L.PL a d (u k) f;have c:=L.PL a d (l i) (L.mem i (by lia));have r:=L.rise a (a+1) (by lia) d;have:=xw (A:=A) (B:=B) (x:=sb (l (a+1)) (l i)) (y:=sb (l (a+1)) (l a)) (z:=sb (u k) (l (a+1))) (by rw[fW];lia) (by rw[fW];lia) (by rw[fW];lia) (by
  rw[gL]at c;have:tn (sb (l (a+1)) (l i)) (sb (l (a+1)) (l a))=tn (sb (l (a+1)) (l a)) (sb (l i) (l a)):=by unfold tn sb;grind
  rw[this];exact c) (by
  rw[gL]at b;have:tn (sb (l (a+1)) (l a)) (sb (u k) (l (a+1)))=tn (sb (l (a+1)) (l a)) (sb (u k) (l a)):=by unfold tn sb;grind
  rw[this];exact b)
 rw[gL];have e:tn (sb (l (a+1)) (l i)) (sb (u k) (l i))=tn (sb (l (a+1)) (l i)) (sb (u k) (l (a+1))):=by unfold tn sb;grind
 rw[e];exact this;have t:k<m+1:=by
  rcases Nat.lt_or_eq_of_le (Nat.le_of_lt_succ g)with q|q;exact q;exfalso;rw[q,p]at h;exact h (L.lo _ (L.mem i (by lia)))
 have b:=U.PL k (by lia) (l i) (L.mem i (by lia));have c:=U.PL k (by lia) (l j) (L.mem j d);have r:=U.rise k (k+1) (by lia) (by lia);rw[cw,cw]at r;have:=xw (A:=A) (B:=B) (x:=sb (l j) (u k)) (y:=sb (u k) (u (k+1))) (z:=sb (u k) (l i)) (by rw[fW];lia) (by rw[fW];lia) (by rw[fW];lia) (by
  rw[gL]at c;have:tn (sb (l j) (u k)) (sb (u k) (u (k+1)))=tn (sb (u (k+1)) (u k)) (sb (l j) (u k)):=by unfold tn sb;grind
  rw[this];exact c) (by
  rw[gL]at b;have:tn (sb (u k) (u (k+1))) (sb (u k) (l i))=tn (sb (u (k+1)) (u k)) (sb (l i) (u k)):=by unfold tn sb;grind
  rw[this];exact b)
 rw[gL];have e:tn (sb (l j) (l i)) (sb (u k) (l i))=tn (sb (l j) (u k)) (sb (u k) (l i)):=by unfold tn sb;grind
 rw[e];exact this
def Kf(a b c:Sp):cr a b c=cr b c a:=by rw[cC,cC];grind
def G0{n m:Nat}{h:Nat->Sp}(L:Way A B ps (n+2) l)(U:Way (-A) (-B) ps (m+2) u)(o:l (n+1)=u 0)(p:u (m+1)=l 0)
  (a:∀k,k<n+2->h k=l k) (c:∀j,j<m+1->h (n+1+j)=u j) {i j k:Nat} (g:i<j) (q:j<k) (d:k<n+m+2):0<=cr (h i) (h j) (h k):=by
 have r:Way (-(-A)) (-(-B)) ps (n+2) l:=by rw[Int.neg_neg,Int.neg_neg];exact L
 have b:∀k,n+1<=k->k<n+m+2->h k=u (k - (n+1)):=λk t s=>by
  have:=c (k - (n+1)) (by lia);rw[<- this];congr 1
  lia
 by_cases c:i<n+2;by_cases e:j<n+2;by_cases f:k<n+2;rw[a i c,a j e,a k f];exact BN L g q f;rw[a i c,a j e,b k (by lia) d];exact BO L U p g e (by lia);rw[a i c,b j (by lia) (by lia),b k (by lia) d,Kf];exact BO U r o (by lia) (by lia) c;rw[b i (by lia) (by lia),b j (by lia) (by lia),b k (by lia) d];exact BN U (by lia) (by lia) (by lia)
theorem BL:∀{l:yav},(∀i j k (c:i<j) (b:j<k) (a:k<l.length),0<=PF (l[i]'(by lia)) (l[j]'(by lia)) (l[k]'a))->lF l
 |[],_=>True.intro
 |p::r,h=>⟨Vi.mpr λi j e d q=>h 0 (i+1) (j+1) (by lia) (by lia) (by simp_all),BL λi j k c b a=>h (i+1) (j+1) (k+1) (by lia) (by lia) (by simp_all)⟩
def yO(h:cJ ys ps):TX ((aU ys).map sT)/\(1<(aU ys).length->∀k,k<(aU ys).length->bU (aU ys) k≠(aU ys).getD k (0,0)):=by
 have t:=sd h;obtain⟨o,a⟩:=h;unfold aU;by_cases c:ys.length<2;rw[N4 c];refine⟨λx y z s=>?_,λq=>absurd q (by lia)⟩;have:=s.length_le;simp at this
 lia
 rw[N2 c];obtain⟨M,j,g⟩:=FW ys;have i:ys.Pairwise λp q=>fA (2*M) 1 p<fA (2*M) 1 q:=by refine List.Pairwise.imp_of_mem ?_ o;intro p q f d h;exact tZ j (g p f) (g q d) h
 have m:ys.reverse.Pairwise λp q=>fA (-(2*M)) (-1) p<fA (-(2*M)) (-1) q:=by refine List.pairwise_reverse.mpr (i.imp ?_);intro p q h;rw[cw,cw];exact Int.neg_lt_neg h
 have L:=(uJ i (XS c)).to (qs:=ps) λp=>(a p).symm
 have U:=(uJ m (by rw[Vm];exact XS c)).to (qs:=ps) λp=>by rw[List.mem_reverse];exact(a p).symm
 have c:(aP ys).length<=ys.length:=by have:=gh [] ys;unfold aP;rw[Vm];simpa using this
 have b:(aP ys.reverse).length<=ys.length:=by have:=gh [] ys.reverse;unfold aP;rw[Vm];simpa using this
 generalize aP ys=l at L c ⊢;generalize aP ys.reverse=u at U b ⊢;have b:∀p∈ps,∀q∈ps,fA (2*M) 1 p=fA (2*M) 1 q->p=q:=λp f q d e=>yF i p ((a p).mpr f) q ((a q).mpr d) e
 have c:∀p∈ps,∀q∈ps,fA (2*M) 1 p<=fA (2*M) 1 q->¬gg q p:=λp f q d e x =>
  Int.not_le_of_gt (tZ j (g q ((a q).mpr d)) (g p ((a p).mpr f)) x) e
 generalize 2*M=A at L U b c;clear i m g j o a;obtain⟨n,g⟩:∃n,l.length=n+2:=⟨l.length - 2,by have:=L.two;lia⟩;obtain⟨m,a⟩:∃m,u.length=m+2:=⟨u.length - 2,by have:=U.two;lia⟩;have c:(l.dropLast++u.dropLast).length=n+m+2:=by
  rw[QZ,Wj,Wj,g,a];show n+1+(m+1)=_
  lia
 have r:∀{w:yat} {x:Sp},x∈w.dropLast->x∈w:=fun {w x} d=>(List.dropLast_sublist w).subset d
 have o:∀{w:yat} {i:Nat} (d:i<w.length),w.getD i (0,0)=w[i]:=fun {w i} d=>by rw[Pg,OH d];rfl
 rw[g]at L;rw[a]at U;have p:l.getD (n+1) (0,0)=u.getD 0 (0,0):=by have f:=L.mem (n+1) (VD _);have d:=U.mem 0 (Wm _);have j:=L.hi _ d;have h:=U.lo _ f;rw[cw,cw]at h;exact b _ f _ d (Zw (zDD h) j)
 have s:u.getD (m+1) (0,0)=l.getD 0 (0,0):=by have f:=L.mem 0 (Wm _);have d:=U.mem (m+1) (VD _);have j:=L.lo _ d;have h:=U.hi _ f;rw[cw,cw]at h;exact b _ d _ f (Zw (zDD h) j)
 have f:∀j,j<m+1->(l.dropLast++u.dropLast).getD (n+1+j) (0,0)=u.getD j (0,0):=λj b=>by
  have ld:l.dropLast.length=n+1:=by rw[Wj,g];rfl
  rw[Pg,Pg,Vg (by rw[ld];exact XR _ _),ld,Nat.add_sub_cancel_left,zC5,a,N4 (show j<m+2 - 1 from b)]
 have d:∀k,k<n+2->(l.dropLast++u.dropLast).getD k (0,0)=l.getD k (0,0):=λk a=>by
  rcases Nat.lt_or_eq_of_le (Nat.le_of_lt_succ a)with z|z;rw[Pg,Pg,UE (by rw[Wj,g];exact z),zC5,g,N4 (show k<n+2 - 1 from z)];rw[z,p];exact f 0 (Wm _)
 constructor
 rotate_left
 intro _ k a e;rw[c]at a;unfold bU at e;rw[c]at e;have b:∀k,n+1<=k->k<n+m+2->(l.dropLast++u.dropLast).getD k (0,0)=u.getD (k - (n+1)) (0,0):=λk C B=>by
  have:=f (k - (n+1)) (by lia);rw[<- this];congr 1
  lia
 cases k with
 |zero =>
  have g:(0+(n+m+2) - 1) % (n+m+2)=n+m+1:=by rw[SU (by lia)];lia
  rw[g,b _ (by lia) (by lia),d 0 (by lia),<- s]at e;have:=U.rise (n+m+1 - (n+1)) (m+1) (by lia) (by lia);rw[e]at this;exact Wl _ this
 |succ k =>
  have g:(k+1+(n+m+2) - 1) % (n+m+2)=k:=by
   have:k+1+(n+m+2) - 1=k+(n+m+2):=by lia
   rw[this,Zr,SU (by lia)]
  rw[g]at e;by_cases q:k+1<n+2;rw[d k (by lia),d (k+1) q]at e;have:=L.rise k (k+1) (by lia) q;rw[e]at this;exact Wl _ this;rw[b k (by lia) (by lia),b (k+1) (by lia) a]at e;have:=U.rise (k - (n+1)) (k+1 - (n+1)) (by lia) (by lia);rw[e]at this;exact Wl _ this
 apply lF.t;apply BL;intro i j k e b a;rw[N3,c]at a;have R:=G0 L U p s d f e b a;rw[o (by rw[c];lia),o (by rw[c];lia),o (by rw[c];lia)]at R;rw[Uj,Uj,Uj,KS];exact R
def MT(p:Sp):Pr (sT p):=⟨by show(0:Int)<1;decide,by
 show PM.g3 1 p.1 p.2=1;unfold PM.g3
 simp_all⟩
def qG(h X:Tr)(p:Sp):X.1*NX h (sT p) - NX h X=h.2.1*(N9 X p).1+h.2.2*(N9 X p).2:=by unfold NX sT N9;grind
def rO{X:Tr}(h0:0<X.1)(B:lD X hs):We (hs.map sT) X:=λh a=>by
 have i:∀p∈hs,0<=X.1*NX h (sT p):=λp i=>PV (PK h0) (a _ (Ol.mpr ⟨p,i,rfl⟩))
 have k:∀p∈hs,∀q∈hs,∀s t:Int,0<s->0<t->s*(N9 X p).1+t*(N9 X q).1=0->s*(N9 X p).2+t*(N9 X q).2=0->0<=NX h X:=λp d q f s t g b u o=>by
  have n:=qG h X p;have m:=qG h X q;have y:=PV (PK g) (i p d);have x:=PV (PK b) (i q f);have e:(s+t)*NX h X=s*(X.1*NX h (sT p))+t*(X.1*NX h (sT q)):=by grind
  exact Wh (a:=s+t) (by rw[e];lia) (by lia)
 have c:∀p∈hs,∀q∈hs,∀r∈hs,∀s t w:Int,0<s->0<t->0<w->s*(N9 X p).1+t*(N9 X q).1+w*(N9 X r).1=0->s*(N9 X p).2+t*(N9 X q).2+w*(N9 X r).2=0->0<=NX h X:=λp d q f r j s t w g b l u o=>by
  have n:=qG h X p;have m:=qG h X q;have g3:=qG h X r;have y:=PV (PK g) (i p d);have x:=PV (PK b) (i q f);have z:=PV (PK l) (i r j);have e:(s+t+w)*NX h X=s*(X.1*NX h (sT p))+t*(X.1*NX h (sT q))+w*(X.1*NX h (sT r)):=by grind
  exact Wh (a:=s+t+w) (by rw[e];lia) (by lia)
 rcases B with⟨p,d,b⟩| ⟨p,d,q,f,b⟩| ⟨p,d,q,f,r,j,b⟩;have g:=qG h X p;have a:N9 X p=(0,0):=b;rw[a,U2,U2]at g;have:=i p d
 lia
 obtain⟨g,a⟩:=EL b.1;have h:N9 X q≠(0,0):=λe=>by have:=b.2;rw[e]at this;unfold Oz at this;simp at this
 exact k p d q f _ _ (j4 h) (by have:=b.2;lia) g a;obtain⟨g,a⟩:=FV (N9 X p) (N9 X q) (N9 X r);rcases b with⟨h,e,b⟩| ⟨h,e,b⟩;exact c p d q f r j _ _ _ h e b g a;exact c p d q f r j (-tn (N9 X q) (N9 X r)) (-tn (N9 X r) (N9 X p)) (-tn (N9 X p) (N9 X q)) (by lia) (by lia) (by lia) (by rw[R8,R8,R8];lia) (by rw[R8,R8,R8];lia)
def Cm(g:mG hs ps)(d:ps ≠ []):mG hs hs:=by refine⟨λ_ h=>h,by lia,λ_=>?_,λa e p c=>g.one a e p (g.mem p c),λa b e=>⟨(g.two a b e).1,λp c=>(g.two a b e).2 p (g.mem p c)⟩,λq k b p c=>g.PL q k b p (g.mem p c),g.Ts⟩;obtain⟨a,r,e,b⟩:=g.TU d;exact⟨a,r,e,λp c=>b p (g.mem p c)⟩
def me(g:mG hs ps)(b:ps ≠ []):hs ≠ []:=by
 obtain⟨a,r,e,_⟩:=g.TU b
 lia
def Gm{X:Tr}(g:mG hs ps)(a:ps ≠ [])(h0:0<X.1)(c:∀b∈aJ hs,0<=NX b X):We (hs.map sT) X :=
 rO h0 (pA (Cm g a) (me g a) h0 c)
def x9(a b:Sp):NX (eQ a b) (sT a)=0/\NX (eQ a b) (sT b)=0:=by constructor<;>(unfold NX eQ sT;grind)
def qE(a w:Sp):NX (cu a w) (sT a)=0:=by unfold NX cu sT;grind
theorem xT{R:Tr->Tr->Prop}:∀{l:yav},(∀i (h:i+1<l.length),R (l[i]'(by lia)) l[i+1])->SR R l
 |[],_=>True.intro
 |[_],_=>True.intro
 |a::b::r,h=>⟨h 0 (by simp),xT λi c=>h (i+1) (by simp_all)⟩
def Gk{hs:yat}{g:yav}(i:hs ≠ [])(j:∀b∈aJ hs,b∈g):ZU (Sh (·∈g)) (hs.map sT):=λk z l=>by
 by_cases c:hs.length<3;have h:aJ hs=eN (hs.getD 0 (0,0)) (hs.getD (hs.length - 1) (0,0)):=by unfold aJ;rw[N4 c]
 have n:∃e∈g,∀p∈hs,NX e (sT p)=0:=by
  refine⟨cu (hs.getD 0 (0,0)) (S8 (aS (hs.getD 0 (0,0)) (hs.getD (hs.length - 1) (0,0)))),j _ (by rw[h];unfold eN;simp),λp f=>?_⟩;rcases hs with _|⟨a,_|⟨b,_|⟨d,r⟩⟩⟩;exact absurd rfl i;rw[QU.mp f];exact qE _ _;simp at f;rcases f with rfl|rfl;exact qE _ _;show NX (cu a (S8 (aS a p))) (sT p)=0;unfold aS;split;rename_i e;rw[<- e];exact qE _ _;unfold NX cu sT S8;grind;simp at c;lia
 obtain⟨e,m,f⟩:=n;have a:∀x∈hs.map sT,NX e x=0:=λx hx=>by obtain⟨p,b,rfl⟩:=Ol.mp hx;exact f p b
 have d:z∈hs.map sT:=by rw[l];simp
 have b:∀x∈z::hs.map sT,NX e x=0:=λx hx=>by
  rcases Ov.mp hx with rfl|hx;exact a x d;exact a x hx
 exact xT λi a=>⟨e,m,b _ (RY _),b _ (RY _)⟩
 have h:aJ hs=(List.range' 0 hs.length).map λk=>eQ (bU hs k) (hs.getD k (0,0)):=by unfold aJ;rw[N2 c]
 have b:∀{i:Nat} (a:i<hs.length),hs.getD i (0,0)=hs[i]:=fun {i} a=>by rw[Pg,OH a];rfl
 have d:∀i (a:i<hs.length),Sh (·∈g) (sT (bU hs i)) (sT hs[i]):=λi a=>by obtain⟨f,c⟩:=x9 (bU hs i) (hs.getD i (0,0));refine⟨_,j (eQ (bU hs i) (hs.getD i (0,0))) (by rw[h];exact Ol.mpr ⟨i,by simp[a],rfl⟩),f,?_⟩;rw[<- b a];exact c
 have f:z=sT (bU hs 0):=by
  have c:(hs.map sT).getLast?=some z:=by rw[l];simp
  rw[List.getLast?_map,zDM]at c;unfold bU;have:(0+hs.length - 1) % hs.length=hs.length - 1:=by rw[UM];exact SU (by lia)
  rw[this,b (by lia)];rw[OH (by lia)]at c;exact(SA c).symm
 refine xT λi a=>?_
 cases i with
 |zero =>
  show Sh _ z ((hs.map sT)[0]'_);rw[f,Uj];exact d 0 (by lia)
 |succ i =>
  show Sh _ ((hs.map sT)[i]'_) ((hs.map sT)[i+1]'_);rw[Uj,Uj];simp at a;have:=d (i+1) (by lia);unfold bU at this;have e:(i+1+hs.length - 1) % hs.length=i:=by
   have:i+1+hs.length - 1=i+hs.length:=by lia
   rw[this,Zr];exact SU (by lia)
  rw[e,b (by lia)]at this;exact this
def FP(d:WB n a)(c:WB n b):WB (n+1) (aS a b)/\aS a b≠(0,0):=by unfold aS;split;exact⟨⟨by unfold Bd;grind,by unfold Bd;simp_all [Nat.pow_pos]⟩,by simp⟩;rename_i e;refine⟨⟨?_,?_⟩,λz=>e ?_⟩;rw[Ud,Ud];exact c.x.sub d.x;show Bd _ (1*b.2 - 1*a.2);rw[Ud,Ud];exact c.y.sub d.y;grind
def Iz(c:WB n a)(b:WB (n+1) w)(h0:w≠(0,0)):Y7 n (cu a w):=by
 unfold cu;refine⟨λz=>h0 ?_,?_,?_,?_⟩
 lia
 exact Bd.mono (Bd.neg ((b.x.mul c.x).add (b.y.mul c.y))) (by lia);rw[Int.mul_one];exact b.x;show Bd _ (w.2*1);rw[Int.mul_one];exact b.y
def GV{hs:yat}(a:hs ≠ [])(k:Nat):bU hs k∈hs:=by unfold bU;have:(k+hs.length - 1) % hs.length<hs.length:=VI _ (zDL.mpr a);rw[Pg,OH this];exact RY _
def getD_mem{hs:yat}{k:Nat}(h:k<hs.length):hs.getD k (0,0)∈hs:=by rw[Pg,OH h];exact RY _
def Ds{hs:yat}(i:hs ≠ [])(j:1<hs.length->∀k,k<hs.length->bU hs k≠hs.getD k (0,0))(g:∀p∈hs,WB n p):∀b∈aJ hs,Y7 n b:=λb e=>by
 unfold aJ at e;split at e
 ·have a:0<hs.length:=zDL.mpr i;have c:=g _ (getD_mem (hs:=hs) (k:=0) a);have b:=g _ (getD_mem (hs:=hs) (k:=hs.length - 1) (by lia));obtain⟨f,h⟩:=FP c b;generalize hs.getD 0 (0,0)=a at *;generalize hs.getD (hs.length - 1) (0,0)=d at *;unfold eN at e;simp at e;generalize aS a d=w at *;have l:WB (n+1) (TV w)/\TV w≠(0,0):=⟨⟨f.x.neg,f.y.neg⟩,λz=>h (by
   unfold TV at z;simp only[Prod.mk.injEq]at z;exact Wn (by lia) (by lia))⟩
  have a:WB (n+1) (S8 w)/\S8 w≠(0,0):=⟨⟨f.y.neg,f.x⟩,λz=>h (by unfold S8 at z;simp at z;exact Wn (by lia) (by lia))⟩
  have bl:WB (n+1) (TV (S8 w))/\TV (S8 w)≠(0,0):=⟨⟨a.1.x.neg,a.1.y.neg⟩,λz=>a.2 (by generalize S8 w=v at *;unfold TV at z;simp only[Prod.mk.injEq]at z;exact Wn (by lia) (by lia))⟩
  rcases e with rfl|rfl|rfl|rfl
  all_goals simp_all [Iz]
 obtain⟨k,a,rfl⟩:=Ol.mp e;have e:k<hs.length:=by simp at a;exact a
 have a:=j (by lia) k e;have c:=g _ (GV i k);have b:=g _ (getD_mem e);generalize hs.getD k (0,0)=d at *;unfold eQ;refine⟨λz=>a ?_,?_,?_,?_⟩;simp at z;exact Wn (by lia) (by lia);exact Bd.mono ((c.x.mul b.y).sub (b.x.mul c.y)) (by lia);rw[Int.mul_one,Int.mul_one];exact c.y.sub b.y;rw[Ud,Ud];exact b.x.sub c.x
def Gj{a Z:yav}(h:cJ ys ps)(c:ps ≠ [])(d:∀p∈ps,WB n p)(i:∀b∈aJ (aU ys),b∈a)(e:∀p∈aU ys,sT p∈Z)(f:(aU ys).length<=Z.length):Y8 n a Z ((aU ys).map sT):=by
 have g:=bV h;have w:∀p∈aU ys,WB n p:=λp a=>d p (g.mem p a)
 refine⟨(yO h).1,λp a=>?_,λp a=>?_,Gk (me g c) i,λp a=>?_,by rw[N3];exact f⟩;obtain⟨q,_,rfl⟩:=Ol.mp a;exact MT q;obtain⟨q,b,rfl⟩:=Ol.mp a;refine⟨?_,(w q b).x.mono (by lia),(w q b).y.mono (by lia)⟩;show Bd _ 1;unfold Bd;exact QL (show 1<2 ^ 1 by decide) (WO (by decide) (by lia));obtain⟨q,b,rfl⟩:=Ol.mp a;exact e q b
def Fq(g:Tr)(a:Tr->Tr->Tr)(z:Tr)(l:yav)(c:Tr):aO g a z (l++[c])=aO g a z l++((if NX g (l.getLastD z)*NX g c<0 then[a (l.getLastD z) c]else[])++(if 0<=NX g c then[c]else[])):=by
 rcases List.eq_nil_or_concat l with rfl|⟨k,p,rfl⟩;simp only[UZ,aO,VB,List.getLastD_nil];rfl;rw[List.concat_eq_append,UI];show aO g a z (k++p::[c])=_;rw[iS];congr 1;simp only[aO,VB];rw[List.getLastD_concat]
theorem sP(g:Tr)(a:Tr->Tr->Tr):∀(l:yav) (z:Tr),(aO g a z l).length<=2*l.length
 |[],_=>OP _
 |c::r,z=>by unfold aO;have:=sP g a r c;rw[QZ,QZ,Rl];split<;>split<;>simp<;>lia
theorem oU:∀(l s a:yav),(∀x,x∈s↔x∈a)->Sk s l=Sk a l
 |[],_,_,_=>rfl
 |x::r,s,a,h=>by unfold Sk;by_cases q:x∈s;rw[N4 q,N4 ((h x).mp q)];exact oU r s a h;rw[N2 q,N2 λz=>q ((h x).mpr z)];congr 1;exact oU r _ _ λy=>by simp[h y]
theorem yn(z:Tr):∀(l a:yav),((List.range' a.length l.length).filter λk=>!((a++l).take k).any λy=>decide (y=(a++l).getD k z)).map (λk=>(a++l).getD k z)=Sk a l
 |[],a=>rfl
 |x::r,a=>by
  have ih:=yn z r (a++[x]);have e:a++[x]++r=a++x::r:=by simp
  rw[e]at ih;have b:(a++x::r).getD a.length z=x:=by simp[Pg]
  have c:(a++x::r).take a.length=a:=by simp
  rw[Rl,List.range'_succ,List.filter_cons,b,c];have c:(a.any λy=>decide (y=x))=decide (x∈a):=by rw[Zu];simp
  rw[c];have c:(a++[x]).length=a.length+1:=by simp
  rw[c]at ih;unfold Sk;by_cases q:x∈a;rw[N4 q,N2 (by simp[q]),ih];exact oU r _ _ λy=>by simp only[PU,QU];exact⟨λh=>h.elim id λe=>e ▸ q,.inl⟩
  rw[N2 q,N4 (by simp[q]),Pq,b,ih]
def L4(a b:Int):(sg a*sg b<0)↔a*b<0:=by
 unfold sg;rcases WQ a 0 with c|c|c
 ·rw[N2 (by lia),N4 c];rcases WQ b 0 with a|a|a;rw[N2 (by lia),N4 a];have:=XG c a;constructor<;>intro<;>lia
  all_goals simp_all [N4,UD]
 simp_all
 rw[N4 c];rcases WQ b 0 with a|a|a;rw[N2 (by lia),N4 a]
 simp_all [XF]
 simp_all
 rw[N4 a];have:=TH c a;constructor<;>intro<;>lia
def L5(a:Int):(0<=sg a)↔0<=a:=by unfold sg;split;constructor<;>intro<;>lia;split<;>(constructor<;>intro<;>lia)
def KZ(p q:Tr):eqD (Oe p) (Oe q)=decide (p=q):=by unfold Oe;rw[D4];obtain⟨a,b,c⟩:=p;obtain⟨d,e,f⟩:=q;rw[Zu];simp
def Bp(p:Tr):Ry 1 (Oe p):=Ry.tup (.cons (.int _ _) (.cons (.int _ _) (.cons (.int _ _) (.nil _))))
def cI(ps:yat):D:=.lst false (ps.map Od)
def Gy(h:cI p=cI q):p=q:=by unfold cI at h;simp at h;exact BJ h
def IV{ps qs:yas}(h:ps.map cI=qs.map cI):ps=qs:=jr Gy h
def sN(p:yat):aK (cI p)=cI p:=by unfold cI;rw[bu,fL]
def C6(ps:yas):bC (ps.map cI)=ps.map cI:=c8 cI sN ps
def bT:yas->yas->Prop
 |[],[]=>True
 |ys::a,b::c=>cJ ys b/\bT a c
 |_,_=>False
theorem bT.len:∀{yss Ls:yas},bT yss Ls->yss.length=Ls.length
 |[],[],_=>rfl
 |_::_,_::_,a=>by rw[Rl,Rl,bT.len a.2]
 |[],_::_,a=>a.elim
 |_::_,[],a=>a.elim
theorem bT.snoc:∀{yss Ls:yas} {ys ps:yat},bT yss Ls->cJ ys ps->bT (yss++[ys]) (Ls++[ps])
 |[],[],_,_,_,h=>⟨h,True.intro⟩
 |_::_,_::_,_,_,a,h=>⟨a.1,bT.snoc a.2 h⟩
 |[],_::_,_,_,a,_=>a.elim
 |_::_,[],_,_,a,_=>a.elim
theorem bT.ex:∀{yss Ls:yas},bT yss Ls->∀ys∈yss,∃ps∈Ls,cJ ys ps
 |[],_,_,_,h=>by cases h
 |y::yss,p::Ls,a,ys,h=>by
  rcases Ov.mp h with rfl|h;exact⟨p,by simp,a.1⟩;obtain⟨ps,m,r⟩:=bT.ex a.2 ys h;exact⟨ps,Pz _ m,r⟩
 |_::_,[],a,_,_=>a.elim
theorem bT.ex2:∀{yss Ls:yas},bT yss Ls->∀ps∈Ls,∃ys∈yss,cJ ys ps
 |_,[],_,_,h=>by cases h
 |y::yss,p::Ls,a,ps,h=>by
  rcases Ov.mp h with rfl|h;exact⟨y,by simp,a.1⟩;obtain⟨ys,m,r⟩:=bT.ex2 a.2 ps h;exact⟨ys,Pz _ m,r⟩
 |[],_::_,a,_,_=>a.elim
def aZ:Nat->yas->yau
 |_,[]=>[]
 |n,a::r=>((aJ (aU a)).map λg=>((n:Int),g))++aZ (n+1) r
theorem uh:∀(yss:yas) (n:Nat) (ys:yat),aZ n (yss++[ys])=aZ n yss++(aJ (aU ys)).map λg=>(((n+yss.length:Nat):Int),g)
 |[],n,ys=>by simp[aZ]
 |y::yss,n,ys=>by
  rw[UH,aZ,aZ,uh yss (n+1) ys,UI,Rl];congr 4
  funext g
  congr 2
  lia
theorem pC:∀{yss:yas} {n:Nat} {x:Int×Tr},x∈aZ n yss->∃ys∈yss,x.2∈aJ (aU ys)
 |[],_,_,h=>by cases h
 |y::yss,n,x,h=>by
  rw[aZ]at h;rcases PU.mp h with h|h;obtain⟨g,a,rfl⟩:=Ol.mp h;exact⟨y,by simp,a⟩;obtain⟨ys,m,q⟩:=pC h;exact⟨ys,Pz _ m,q⟩
theorem pB:∀{yss:yas} (n:Nat) {ys:yat} {g:Tr},ys∈yss->g∈aJ (aU ys)->g∈(aZ n yss).map (·.2)
 |[],_,_,_,h,_=>by cases h
 |y::yss,n,ys,g,h,a=>by
  rw[aZ,QE];rcases Ov.mp h with rfl|h;refine TF _ ?_;rw[O3];exact Ol.mpr ⟨g,a,rfl⟩;exact RA _ (pB (n+1) h a)
theorem kS{B:Nat}:∀(yss:yas) (n:Nat),(∀ys∈yss,(aJ (aU ys)).length<=B)->(aZ n yss).length<=B*yss.length
 |[],_,_=>QI _
 |y::yss,n,h=>by
  rw[aZ,QZ,N3,Rl,Nat.mul_succ];have:=h y (by simp);have:=kS yss (n+1) λz a=>h z (Pz _ a)
  lia
def Sm(x:Int×Tr):D:=.tup [.int x.1,Oe x.2]
def zS(x:Int×Tr):aK (Sm x)=Sm x:=by unfold Sm;simp only[c6,bO,cg,fg,gG]
def C7(xs:yau):bC (xs.map Sm)=xs.map Sm:=c8 Sm zS xs
def da(r:yag×yaf):D:=.tup [QX r.1,.lst true (r.2.map D.int)]
def gN (y:Tr) (a:List (yag×yaf)):D:=.tup [.str "meet", Oe y,.lst true (a.map da)]
structure LsOk(Ls:yas):Prop where
 l0:0<Ls.length
 l8:Ls.length<=8∨(Ls.length<=21/\∀ps∈Ls,ps.length<=5)
 ne:∀ps∈Ls,0<ps.length
 le:∀ps∈Ls,ps.length<=30
 bd:∀ps∈Ls,∀p∈ps,WB 40 p
def oC(Ls:yas)(X:Tr):Prop:=0<X.1/\∀a∈Ls,∀g:Tr,(∀p∈a,0<=NX g (1,p.1,p.2))->0<=NX g X
def CB.pb{y:Tr}(h:CB 40 y)(p:Pr y):PB 160 y:=⟨p.pos,h.b.mono (by decide),h.x.mono (by decide),h.y.mono (by decide)⟩
def Cj{a:Type}(f:a->D)(z:a)(xs:List a):mT 0 (xs.map f)=(List.range' 0 xs.length).map λk=>D.tup [.int ((k:Nat):Int),f (xs.getD k z)]:=by apply List.ext_getElem?;intro i;by_cases h:i<xs.length;rw[oZ 0 (xs.map f) i (f xs[i]) (by rw[Pw,OH h];rfl),Pw,OH (by rw[Tb];exact h),Yl,UM,UM,Nat.one_mul,Option.map_some,Pg,OH h];rfl;rw[Yk (by rw[o5,N3];lia),Yk (by rw[N3,Tb];lia)]
def fC(r:yag×yaf):D:=.tup [.lst false (r.1.map λ(k:Nat)=>D.int (k:Int)),.lst false (r.2.map D.int)]
def uE(r:yag×yaf):aK (da r)=fC r:=by
 have e:r.1.map (λ(k:Nat)=>D.int (k:Int))=(r.1.map λ(k:Nat)=>(k:Int)).map D.int:=by simp_all
 unfold da fC QX;rw[e];simp only[c6,bO,cg,bu,b6]
theorem kP:∀a:List (yag×yaf),bC (a.map da)=a.map fC
 |[]=>cg
 |r::a=>by simp_all [Pq,bO,uE,kP]
def AK(r:yag×yaf):aK (fC r)=fC r:=by
 have e:r.1.map (λ(k:Nat)=>D.int (k:Int))=(r.1.map λ(k:Nat)=>(k:Int)).map D.int:=by simp_all
 unfold fC;rw[e];simp only[c6,bO,cg,bu,b6]
def kx(ps:yat):D:=.lst true (ps.map Od)
def uD(ps:yat):aK (kx ps)=cI ps:=by unfold kx cI;rw[bu,fL]
theorem i6:∀Ls:yas,bC (Ls.map kx)=Ls.map cI
 |[]=>cg
 |p::r=>by simp_all [Pq,bO,uD,i6]
theorem xv:∀(l:yaf),(∀x∈l,Bd n x)->Bd (n+l.length) l.sum
 |[],_=>by unfold Bd;simp_all [Nat.pow_pos]
 |x::r,h=>by exact Bd.add (m:=n+r.length) ((h x (by simp)).mono (by lia)) (xv r λy a=>h y (by grind))
def zX(ps:yat)(a:List (Nat×Int)):Int:=(a.map λz=>z.2*(ps.getD z.1 (0,0)).1).sum
def zY(ps:yat)(a:List (Nat×Int)):Int:=(a.map λz=>z.2*(ps.getD z.1 (0,0)).2).sum
theorem Mi(ps:yat):∀(b:yag) (a:yaf),zX ps (b.zip a)=sX (b.map λk=>ps.getD k (0,0)) a
 |[],_=>by unfold zX sX;simp
 |_::_,[]=>by unfold zX sX;simp
 |k::b,s::a=>by have:=Mi ps b a;unfold zX sX at this ⊢;rw[Zm,Pq,WW,this,Pq,Zg,WW,Rp]
theorem Mj(ps:yat):∀(b:yag) (a:yaf),zY ps (b.zip a)=sY (b.map λk=>ps.getD k (0,0)) a
 |[],_=>by unfold zY sY;simp
 |_::_,[]=>by unfold zY sY;simp
 |k::b,s::a=>by have:=Mj ps b a;unfold zY sY at this ⊢;rw[Zm,Pq,WW,this,Pq,Zg,WW,Rp]
theorem sU:∀(b:yag) (a:yaf),List.zipWith (λx y=>D.tup [x,y]) ((b.map λ(k:Nat)=>(k:Int)).map D.int) (a.map D.int)=(b.zip a).map λz=>D.tup [.int ((z.1:Nat):Int),.int z.2]
 |[],_=>rfl
 |_::_,[]=>rfl
 |k::b,s::a=>by rw[Pq,Pq,Pq,Zg,sU b a,Zm,Pq]
structure NR(m:Sp)(ps:yat):Prop where
 l0:0<ps.length
 l3:ps.length<=3
 bd:∀p∈ps,WB 40 p
 inn:∀g:Tr,(∀p∈ps,0<=NX g (1,p.1,p.2))->0<=NX g (1,m.1,m.2)
def p13:((10:Int) ^ (13:Int).toNat)=10000000000000:=by decide
def Kc:Fw 10 13:=⟨by decide,by decide,by decide⟩
def plk(a b c d:Sp):tn a b*tn c d=tn a c*tn b d - tn a d*tn b c:=by unfold tn;grind
theorem yE(t:Sp):∀V:yat,(∃v∈V,0<tn t v)->∃v∈V,0<tn t v/\∀w∈V,0<tn t w->0<=tn v w
 |[],h=>by obtain⟨v,b,_⟩:=h;cases b
 |x::V,h=>by
  by_cases d:∃v∈V,0<tn t v
  ·obtain⟨v,vm,b,g⟩:=yE t V d;by_cases f:0<tn t x/\tn v x<0;refine⟨x,RO,f.1,λw a c=>?_⟩;rcases Ov.mp a with e|wm;rw[e,qQ];exact RZ _;have k:=plk t v x w;have i:=PV (PK f.1) (g w wm c);have f:=TH c (show 0 < - tn v x by lia);rw[Int.mul_neg]at f;exact Wh (by rw[k];lia) b
   ·refine⟨v,Pz _ vm,b,λw a c=>?_⟩;rcases Ov.mp a with e|wm
    all_goals simp_all
  obtain⟨v,vm,b⟩:=h;rcases Ov.mp vm with e|vm;subst e;refine⟨v,RO,b,λw a c=>?_⟩;rcases Ov.mp a with e|wm;rw[e,qQ];exact RZ _;exact absurd ⟨w,wm,c⟩ d;exact absurd ⟨v,vm,b⟩ d
theorem C5{a:Type}(f:a->Int):∀V:List a,∃M:Int,0<M/\∀v∈V,f v<=M
 |[]=>⟨1,by decide,λv a=>by cases a⟩
 |x::V=>by
  obtain⟨M,c,b⟩:=C5 f V;refine⟨M+(f x).toNat,by lia,λv a=>?_⟩;rcases Ov.mp a with e|a;subst e;lia;have:=b v a;lia
def sq_pos{t:Sp}(d:t≠(0,0)):0<Oz t t:=by
 obtain⟨a,b⟩:=t;show 0<a*a+b*b;have f:0<=a*a:=by rcases Int.le_total 0 a with h|h;exact PV h h;exact Z0 h h
 have e:0<=b*b:=by rcases Int.le_total 0 b with h|h;exact PV h h;exact Z0 h h
 by_cases c:a=0;have a:b≠0:=by lia
 have:=Int.mul_ne_zero a a;omega;have:=Int.mul_ne_zero c c;omega
def K4{t:Sp}(a:t≠(0,0))(V:yat)(g:∀d:Sp,(∀v∈V,0<=Oz v d)->0<=Oz t d):(∃v∈V,tn t v=0/\0<Oz t v)∨∃ v∈V,∃w∈V,tn t v<0/\0<tn t w/\0<tn v w:=by
 refine Yg λb=>?_
 have f:∀v∈V,tn t v=0->Oz t v<=0:=λv d h=>Uk.mp λz=>b (.inl ⟨v,d,h,z⟩)
 have j:=sq_pos a;by_cases L:∃v∈V,0<tn t v;obtain⟨w,i,k,ext⟩:=yE t V L;have a:=g (-w.2,w.1) λv d=>by
  have e:Oz v (-w.2,w.1)=tn w v:=by unfold Oz tn;grind
  rw[e];rcases WQ (tn t v) 0 with c|c|c;refine Uk.mp λz=>b (.inr ⟨v,d,w,i,c,k,?_⟩)
  rw[cA];lia;have k:Oz t t*tn w v=Oz t v*tn w t+tn t v*Oz w t:=by unfold Oz tn;grind
  rw[c,Vp,Int.add_zero]at k;have q:=Z0 (f v d c) (show tn w t<=0 by rw[cA];lia);rw[<- k]at q;exact Wh q j;exact ext v d c
 have e:Oz t (-w.2,w.1)=tn w t:=by unfold Oz tn;grind
 rw[e,cA]at a
 lia
 obtain⟨M,j,i⟩:=C5 (λv=>Oz v t) V;have a:=g (M*t.2 - t.1,- (M*t.1) - t.2) λv d=>by
  have e:Oz v (M*t.2 - t.1,- (M*t.1) - t.2)=M*(- tn t v) - Oz v t:=by unfold Oz tn;grind
  rw[e];have h:=Uk.mp λz=>L ⟨v,d,z⟩
  by_cases c:tn t v=0;have:=f v d c;rw[rK]at this;rw[c];lia;have b:M*1<=M*(- tn t v):=zCO (by lia) (PK j);have:=i v d
  lia
 have e:Oz t (M*t.2 - t.1,- (M*t.1) - t.2)=- Oz t t:=by unfold Oz;grind
 lia
def vc(g:Tr):Sp:=(g.2.1,g.2.2)
def MD(g:Tr)(N b a:Int)(p:Tr):NX g (N*p.1,N*p.2.1+b,N*p.2.2+a)=N*NX g p+Oz (vc g) (b,a):=by unfold NX Oz vc;grind
def J7{a C:yav}(d:C ≠ [])(pos:∀p∈C,0<p.1)(o:∀p∈C,NX g p<0)(r:∀h∈a,∀p∈C,0<=NX h p)
  (sp:∀X:Tr,0<X.1->(∀h∈a,0<=NX h X)->We C X) (f:vc g≠(0,0)) :
  ∃ p:Tr,0<p.1/\NX g p<0/\((∃h∈a,NX h p=0/\ir (vc h) (vc g))∨∃ h∈a,∃k∈a,NX h p=0/\NX k p=0/\dS (vc h) (vc k) (vc g)):=by
 obtain⟨b,c⟩:=zCq C d;have m:∀p:Tr,NX (-1,0,0) p=- p.1:=λp=>by unfold NX;grind
 obtain⟨p,n,d,_,i⟩:=rW g (-1,0,0) C ⟨b,c,o b c,by rw[m];have:=pos b c;lia⟩;have j:=pos p n;refine⟨p,j,d,?_⟩;have b:(- g.2.1,- g.2.2)≠((0,0):Sp):=λe=>f (by have d:=congrArg Prod.fst e;have c:=congrArg Prod.snd e;dsimp only at d c;unfold vc;rw[show g.2.1=0 by lia,show g.2.2=0 by lia])
 have l:=K4 b ((a.filter λh=>decide (NX h p=0)).map vc) λd b=>by
  obtain⟨N,q,t⟩:=C5 (λh=>- Oz (vc h) d) a;have s:∀h∈a,0<=NX h (N*p.1,N*p.2.1+d.1,N*p.2.2+d.2):=λh f=>by
   rw[MD];by_cases c:NX h p=0;rw[c,U2,Int.zero_add];exact b _ (Ol.mpr ⟨h,WS.mpr ⟨f,UK c⟩,rfl⟩);have b:N*1<=N*NX h p:=zCO (by have:=r h f p n;lia) (PK q);have:=t h f;show 0<=N*NX h p+Oz (vc h) d
   lia
  have I:=sp _ (TH q j) s (NX g p - p.1*g.1,- (p.1*g.2.1),- (p.1*g.2.2)) λy n=>by
   have b:=i y n (o y n);rw[m,m]at b;have e:NX (NX g p - p.1*g.1,- (p.1*g.2.1),- (p.1*g.2.2)) y=NX g p*y.1 - p.1*NX g y:=by unfold NX;grind
   rw[e];rw[Int.mul_neg,R8]at b
   lia
  have e:NX (NX g p - p.1*g.1,- (p.1*g.2.1),- (p.1*g.2.2)) (N*p.1,N*p.2.1+d.1,N*p.2.2+d.2)=p.1*Oz (- g.2.1,- g.2.2) d:=by unfold NX Oz;grind
  rw[e]at I;exact Wh I j
 have d:∀v∈(a.filter λh=>decide (NX h p=0)).map vc,∃h∈a,NX h p=0/\vc h=v:=λv a=>by obtain⟨h,f,e⟩:=Ol.mp a;obtain⟨a,b⟩:=WS.mp f;exact⟨h,a,VA b,e⟩
 have i:∀v:Sp,tn (- g.2.1,- g.2.2) v=- tn (vc g) v:=λv=>by unfold tn vc;grind
 have m:∀v:Sp,Oz (- g.2.1,- g.2.2) v=- Oz (vc g) v:=λv=>by unfold Oz vc;grind
 rcases l with⟨v,e,a,b⟩| ⟨v,e,w,j,a,b,c⟩;obtain⟨h,f,g,rfl⟩:=d v e;rw[i]at a;rw[m]at b;exact .inl ⟨h,f,g,by rw[cA];lia,by rw[rK];lia⟩;obtain⟨h,f,g,rfl⟩:=d v e;obtain⟨k,l,e,rfl⟩:=d w j;rw[i]at a b;refine .inr ⟨h,f,k,l,g,e,.inl ⟨?_,?_,c⟩⟩;rw[cA];exact b
 lia
theorem xV{a Z:yav}(i:∀e∈a,Y7 n e)(j:∀e∈a,∀g∈a,Tt (Oj e g)∈Z):∀(f l:yav),(∀g∈f,g∈a)->Y8 n a Z l →
  Y8 n a Z (aX f l)/\(∀X,We l X->(∀g∈f,0<=NX g X)->We (aX f l) X)/\(∀g∈f,∀y∈aX f l,0<=NX g y)/\∀d,(∀p∈l,0<=NX d p)->∀y∈aX f l,0<=NX d y
 |[],l,_,C=>⟨C,λ_ I _=>I,λ_ h=>(by cases h),λ_ h=>h⟩
 |g::f,l,h,C=>by
  obtain⟨n,m,k⟩:=tB (g:=g) C.Sj C.pr;obtain⟨a,b,c,d⟩:=xV i j f (fk g l) (λx f=>h x (Pz _ f)) (FY i (h g (by simp)) (λe i=>j e i g (h g (by simp))) C);refine⟨a,λX I a=>b X (n X I (a g (by simp))) λx f=>a x (Pz _ f),λx f y a=>?_,λe i=>d e (k e i)⟩;rcases Ov.mp f with rfl|f;exact d x m y a;exact c x f y a
def Of(yss:yas):yav:=(aZ 0 yss).map (·.2)
def F0(yss:yas):yav:=(aU (yss.getD 0 [])).map sT
def Du{hs:yat}(c:hs ≠ []){b:Tr}(a:b∈aJ hs):∃p:Sp,NX b (sT p)=0:=by
 unfold aJ at a;split at a;unfold eN at a;simp only[Ov,RP,or_false]at a;rcases a with e|e|e|e<;>(rw[e];exact⟨_,qE _ _⟩);obtain⟨k,_,e⟩:=Ol.mp a;rw[<- e];exact⟨_,(x9 _ _).1⟩
def M5(h:Y7 n b)(e:NX b (sT p)=0):vc b≠(0,0):=λz=>h.ne (by have c:b.2.1=0:=congrArg Prod.fst z;have a:b.2.2=0:=congrArg Prod.snd z;unfold NX sT at e;grind)
structure qr(yss:yas):Prop where
 zs:∃Z:yav,Z.length<=300000/\∀j,Y8 40 (Of yss) Z (aX ((Of yss).take j) (F0 yss))
 inc:∀j X,0<X.1->(∀b∈aJ (aU (yss.getD 0 [])),0<=NX b X)->(∀g∈(Of yss).take j,0<=NX g X)->We (aX ((Of yss).take j) (F0 yss)) X
 ov:∀j,∀g∈(Of yss).take j,∀y∈aX ((Of yss).take j) (F0 yss),0<=NX g y
 gb:∀g∈Of yss,Y7 40 g/\vc g≠(0,0)
 pos:0<(Of yss).length
 le:(Of yss).length<=512
 ne:F0 yss ≠ []
 own:∀j,∀b∈aJ (aU (yss.getD 0 [])),∀y∈aX ((Of yss).take j) (F0 yss),0<=NX b y
 hd:∃r,Of yss=aJ (aU (yss.getD 0 []))++r
 cn:∀y∈aX (Of yss) (F0 yss),y∈F0 yss∨∃ e∈Of yss,∃g∈Of yss,y=Tt (Oj e g)
def Ca{hs:yat}(h:hs.length<=10):(aJ hs).length<=10:=by
 unfold aJ eN;split
 all_goals simp_all
def mW(L:LsOk Ls)(K:bT yss Ls):qr yss:=by
 have o:∀a∈yss,∃b∈Ls,cJ a b:=K.ex;have t:∀g∈Of yss,Y7 40 g/\vc g≠(0,0):=λg k=>by obtain⟨x,d,rfl⟩:=Ol.mp k;obtain⟨a,c,n⟩:=pC d;obtain⟨b,e,r⟩:=o a c;have c:=bV r;have d:=XH (L.ne b e);have B:=Ds (me c d) (yO r).2 (λp m=>L.bd b e p (c.mem p m)) x.2 n;obtain⟨p,m⟩:=Du (me c d) n;exact⟨B,M5 B m⟩
 obtain⟨j,Lr,rfl⟩:∃p r,Ls=p::r:=by
  cases Ls with
  |nil=>exact absurd L.l0 (by simp)
  |cons p r=>exact⟨p,r,rfl⟩
 obtain⟨d,f,rfl⟩:∃p r,yss=p::r:=by
  cases yss with
  |nil=>exact K.elim
  |cons p r=>exact⟨p,r,rfl⟩
 have s:cJ d j:=K.1;have h:=bV s;have i:=XH (L.ne j (by simp));have C:=K.len;have lo:(aZ 0 (d::f)).length<=512:=by
  rcases L.l8 with c|⟨c,l⟩;have:=kS (B:=64) (d::f) 0 λa c=>by
   obtain⟨b,e,r⟩:=o a c;have:=(bV r).len;have:=L.le b e;have:=mI (aU a)
   lia
  lia
  have:=kS (B:=10) (d::f) 0 λa c=>by obtain⟨b,e,r⟩:=o a c;have:=(bV r).len;have:=l b e;exact Ca (by lia)
  lia
 have w:∃r,Of (d::f)=aJ (aU d)++r:=by refine⟨(aZ 1 f).map (·.2),?_⟩;unfold Of;rw[aZ,QE,O3];congr 1;exact List.map_id'' (λ_=>rfl) _
 have y:∀b∈aJ (aU d),b∈Of (d::f):=λb n=>pB 0 (by simp) n
 have A:0<(Of (d::f)).length:=by
  unfold Of;rw[N3,aZ,QZ,N3];have:0<(aJ (aU d)).length:=by unfold aJ;split;unfold eN;simp;rw[N3,Tb];lia
  lia
 have q:(Of (d::f)).length<=512:=by unfold Of;rw[N3];lia
 have u:F0 (d::f)=(aU d).map sT:=rfl
 let Z:yav:=(aU d).map sT++(Of (d::f)).flatMap λe=>(Of (d::f)).map λg=>Tt (Oj e g)
 have z:Z.length<=300000:=by
  show((aU d).map sT++(Of (d::f)).flatMap λe=>(Of (d::f)).map λg=>Tt (Oj e g)).length<=300000;generalize Of (d::f)=c at q ⊢;rw[QZ,N3];have H:=h.len;have G:=L.le j (by simp);have E:(c.flatMap λe=>c.map λg=>Tt (Oj e g)).length<=512*512:=by
   have x:∀l:yav,(l.flatMap λe=>c.map λg=>Tt (Oj e g)).length<=l.length*512:=λl=>by
    induction l with
    |nil=>simp
    |cons a r ih =>
     rw[Z9,QZ,N3,Rl,Nat.succ_mul]
     lia
   have:=x c;have:c.length*512<=512*512:=XJ _ q
   lia
  lia
 have c:∀e∈Of (d::f),∀g∈Of (d::f),Tt (Oj e g)∈Z:=λe a g k=>RA _ (Yr.mpr ⟨e,a,Ol.mpr ⟨g,k,rfl⟩⟩)
 have l:Y8 40 (Of (d::f)) Z (F0 (d::f)):=Gj s i (L.bd j (by simp)) y (λp m=>TF _ (Ol.mpr ⟨p,m,rfl⟩)) (by have e:((aU d).map sT).length=(aU d).length:=N3 _;show _<=((aU d).map sT++_).length;rw[QZ,e];exact XR _ _)
 have run:=λj=>xV (λe a=>(t e a).1) c ((Of (d::f)).take j) _ (λg k=>(List.take_sublist j _).subset k) l
 refine⟨⟨Z,z,λj=>(run j).1⟩,λj X c n k=>(run j).2.1 X (Gm h i c n) k,λj=>(run j).2.2.1,t,A,q,?_,λj b n=>(run j).2.2.2 b λp m=>?_,w,λy o=>?_⟩;rw[u];intro z;exact me h i (List.map_eq_nil_iff.mp z);rw[u]at m;obtain⟨q,b,rfl⟩:=Ol.mp m;exact iT h i n (h.mem q b);have m:=(run (Of (d::f)).length).1.mem y (by rw[Ub];exact o);rcases PU.mp m with m|m;exact .inl m;obtain⟨e,a,m⟩:=Yr.mp m;obtain⟨g,k,rfl⟩:=Ol.mp m;exact .inr ⟨e,a,g,k,rfl⟩
theorem AU:∀a:yav,aX a []=[]
 |[]=>rfl
 |g::a=>AU a
theorem AS(a b l:yav):aX (a++b) l=aX b (aX a l):=List.foldl_append
def FZ{G:yav}{j:Nat}(h:aX (G.take i) F=[])(Qv:i<=j):aX (G.take j) F=[]:=by grind [List.take_add,Nat.add_sub_cancel',AS,AU]
theorem xW{G F:yav}(d:F ≠ []):∀n,aX (G.take n) F=[]->∃a,a<n/\(∀j,j<=a->aX (G.take j) F ≠ [])/\aX (G.take (a+1)) F=[]
 |0,h=>absurd h d
 |n+1,h=>by by_cases c:aX (G.take n) F=[];obtain⟨k,e,a,b⟩:=xW d n c;exact⟨k,by lia,a,b⟩;exact⟨n,by lia,λj a z=>c (FZ z a),h⟩
def xX{G:yav}{k:Nat}{g:Tr}(h:G[k]?=some g):aX (G.take (k+1)) F=fk g (aX (G.take k) F):=by rw[List.take_add_one,h,AS];rfl
def S9(G:yav)(a:yag):yat:=a.map λk=>vc (G.getD k (0,0,0))
def oR(G:yav)(b:yag)(a:yaf):Int:=((b.zip a).map λz=>(G.getD z.1 (0,0,0)).1*z.2).sum
def gK(G:yav)(a:Nat):List (yag)->Option (yag×yaf)
 |[]=>none
 |o::r=>match dU (S9 G (o++[a]))with
  |some b=>if oR G (o++[a]) b<0 then some (o++[a],b)else gK G a r
  |none=>gK G a r
set_option tactic.hygienic true in
theorem vZ:∀{L:List (yag)} {a:yag} {b:yaf},gK G last L=some (a,b)->(∃o∈L,a=o++[last])/\dU (S9 G a)=some b/\oR G a b<0
 |[],_,_,h=>by cases h
 |o::r,a,b,h=>by
  have d:gK G last r=some (a,b)->(∃c∈o::r,a=c++[last])/\dU (S9 G a)=some b/\oR G a b<0:=λh=>by
   obtain⟨⟨c,m,e⟩,q⟩:=vZ h
   simp_all
  unfold gK at h;split at h
  ·split at h
   all_goals simp_all
  exact d h
theorem qv{a:Nat}:∀{L:List (yag)} {o:yag} {b:yaf},o∈L->dU (S9 G (o++[a]))=some b->oR G (o++[a]) b<0->∃r,gK G a L=some r
 |[],_,_,m,_,_=>by cases m
 |x::r,o,b,m,d,c=>by
  unfold gK;split;split
  lia
  rcases Ov.mp m with e|m
  lia
  exact qv m d c;rcases Ov.mp m with e|m
  lia
  exact qv m d c
def Et{p c t v:Int}(d:0<p)(b:0<t)(a:v<0)(e:p*c=t*v):c<0:=by have h:=XF b a;rw[<- e]at h;exact SE.mp λz=>by have:=PV (PK d) z;lia
def Nh{p:Tr}(B:xk [vc h,vc g] a)(h0:0<p.1)(d:NX h p=0)(c:NX g p<0):∃s t,a=[s,t]/\h.1*s+g.1*t<0:=by
 obtain⟨s,t,rfl⟩:∃s t,a=[s,t]:=by
  have:=B.len;rcases a with _|⟨s,_|⟨t,_|⟨u,r⟩⟩⟩
  all_goals simp_all
 have b:=B.sum;unfold wsum vc at b;simp at b;have a:=B.pos t (by simp);refine⟨s,t,rfl,Et h0 a c ?_⟩;unfold NX at *;grind
def Ni{p:Tr}(B:xk [vc h,vc k,vc g] a)(h0:0<p.1)(e:NX h p=0)(d:NX k p=0)(c:NX g p<0):∃s t u,a=[s,t,u]/\h.1*s+(k.1*t+g.1*u)<0:=by
 obtain⟨s,t,u,rfl⟩:∃s t u,a=[s,t,u]:=by
  have:=B.len;rcases a with _|⟨s,_|⟨t,_|⟨u,_|⟨v,r⟩⟩⟩⟩
  all_goals simp_all
 have b:=B.sum;unfold wsum vc at b;simp at b;have a:=B.pos u (by simp);refine⟨s,t,u,rfl,Et h0 a c ?_⟩;unfold NX at *;grind
def vQ{G:yav}{h:Tr}(m:h∈G.take n):∃i,i<n/\G.getD i (0,0,0)=h:=by obtain⟨i,a,e⟩:=Vl m;rw[Ua]at a;rw[List.getElem_take]at e;exact⟨i,by lia,by rw[Pg,OH (by lia),e];rfl⟩
def tw(S:qr yss)(e:aX (Of yss) (F0 yss)=[]) :
  ∃ a,a<(Of yss).length/\(∀j,j<=a->aX ((Of yss).take j) (F0 yss) ≠ [])/\aX ((Of yss).take (a+1)) (F0 yss)=[]/\∃r,gK (Of yss) a (Oi a 1++Oi a 2)=some r:=by
 obtain⟨a,f,k,i⟩:=xW S.ne (Of yss).length (by rw[Ub];exact e);refine⟨a,f,k,i,?_⟩;obtain⟨Z,_,b⟩:=S.zs;have e:=b a;have b:(Of yss)[a]?=some (Of yss)[a]:=OH f;have gD:(Of yss).getD a (0,0,0)=(Of yss)[a]:=by rw[Pg,b];rfl
 have c:∀y∈aX ((Of yss).take a) (F0 yss),NX (Of yss)[a] y<0:=λy d=>SE.mp λz=>by have l:=(tB (g:=(Of yss)[a]) e.Sj e.pr).1 y (λh g=>g y d) z;rw[xX b]at i;exact Lj l (e.pr y d).pos i
 have l:=k a (OP _);obtain⟨g,k⟩:=zCq _ l;obtain⟨r,i⟩:=S.hd;have o:(aJ (aU (yss.getD 0 []))).length<=a:=VJ.mp (by
  intro z;have n:a<(aJ (aU (yss.getD 0 []))).length:=by lia
  have m:(Of yss)[a]∈aJ (aU (yss.getD 0 [])):=by
   have q:(Of yss)[a]?=(aJ (aU (yss.getD 0 [])))[a]?:=by rw[i,UE n]
   rw[b]at q;exact Qh q.symm
  have:=S.own a _ m g k;have:=c g k
  lia)
 have sub:∀b∈aJ (aU (yss.getD 0 [])),b∈(Of yss).take a:=λb g=>by rw[i,List.take_append];refine TF _ ?_;rw[Yj o];exact g
 obtain⟨p,A,C,i⟩:=J7 l (λy d=>(e.pr y d).pos) c (S.ov a) (λX d c=>S.inc a X d (λb g=>c b (sub b g)) c) (S.gb _ (RY f)).2;rcases i with⟨h,c,e,B⟩| ⟨h,c,k,m,e,l,B⟩;obtain⟨i,q,d⟩:=vQ c;have w:S9 (Of yss) ([i]++[a])=[vc h,vc (Of yss)[a]]:=by show[vc ((Of yss).getD i (0,0,0)),vc ((Of yss).getD a (0,0,0))]=_;rw[d,gD]
 have g:dU [vc h,vc (Of yss)[a]]=some (dj [bG (vc (Of yss)[a]),bG (vc h)]):=N4 B;obtain⟨s,t,x,y⟩:=Nh (oN (by simp) g) A e C;refine qv (o:=[i]) (TF _ (rT q)) (by rw[w,g]) ?_;rw[x];show([((Of yss).getD i (0,0,0)).1*s,((Of yss).getD a (0,0,0)).1*t]:yaf).sum<0;rw[d,gD];simp;exact y;obtain⟨i,q,d⟩:=vQ c;obtain⟨j,n,f⟩:=vQ m;have m:i≠j:=λz=>by
  rw[z,f]at d;rw[d]at B;unfold dS at B;have:=qQ (vc h)
  lia
 have z:∀(i j:Nat) (h k:Tr),i<j->j<a->(Of yss).getD i (0,0,0)=h->(Of yss).getD j (0,0,0)=k->NX h p=0->NX k p=0->dS (vc h) (vc k) (vc (Of yss)[a])->∃r,gK (Of yss) a (Oi a 1++Oi a 2)=some r:=λi j h k p n d f e l B=>by
  have w:S9 (Of yss) ([i,j]++[a])=[vc h,vc k,vc (Of yss)[a]]:=by show[vc ((Of yss).getD i (0,0,0)),vc ((Of yss).getD j (0,0,0)),vc ((Of yss).getD a (0,0,0))]=_;rw[d,f,gD]
  obtain⟨c,g⟩:∃c,dU [vc h,vc k,vc (Of yss)[a]]=some c:=by
   show∃c,jy _ _ _=some c;unfold jy;split;exact⟨_,rfl⟩;rename_i c;rcases B with b|b;exact absurd b c;exact⟨_,N4 b⟩
  obtain⟨s,t,u,x,y⟩:=Ni (oN (by simp) g) A e l C;refine qv (o:=[i,j]) (RA _ (rV p n)) (by rw[w,g]) ?_;rw[x];show([((Of yss).getD i (0,0,0)).1*s,((Of yss).getD j (0,0,0)).1*t,((Of yss).getD a (0,0,0)).1*u]:yaf).sum<0;rw[d,f,gD];simp;exact y
 rcases XN m with c|c;exact z i j h k c n d f e l B;refine z j i k h c q f d l e ?_;unfold dS at B ⊢;have H:=cA (vc h) (vc k);have G:=cA (vc k) (vc (Of yss)[a]);have E:=cA (vc (Of yss)[a]) (vc h)
 lia
def jx(h g:Tr)(s:Int):Tr:=(h.1+g.1*s,h.2.1+g.2.1*s,h.2.2+g.2.2*s)
def RV(T:yau)(o:Int):Option Tr:=(T.find? λx=>decide (x.1=o)).map (·.2)
def ptT(T:yau)(o:Int)(h:Tr):yau:=if(RV T o).isSome=true then T.map (λx=>if x.1=o then(x.1,h)else x)else T++[(o,h)]
def stT(T:yau)(x:Int×Tr×Int):yau:=ptT T x.1 (jx ((RV T x.1).getD (0,0,0)) x.2.1 x.2.2)
def cf(xs:List (Int×Tr×Int)):yau:=xs.foldl stT []
def mi(p:Int×Tr)(r:yau)(o:Int):RV (p::r) o=if p.1=o then some p.2 else RV r o:=by unfold RV;grind
theorem Bk:∀{T:yau},RV T o=none->o∉T.map (·.1)
 |[],_=>by simp
 |p::r,h=>by
  rw[mi]at h;by_cases e:p.1=o;rw[N4 e]at h;cases h;rw[N2 e]at h;rw[Pq,Ov];rintro(z|z);exact e z.symm;exact Bk h z
theorem yY{h:Tr}:∀{T:yau},RV T o=some h->(o,h)∈T
 |[],q=>by cases q
 |p::r,q=>by
  rw[mi]at q;by_cases e:p.1=o;grind
  simp_all [N2,Pz,yY]
theorem Cq{x:Int×Tr}:∀{T:yau},(T.map (·.1)).Nodup->x∈T->RV T x.1=some x.2
 |[],_,m=>by cases m
 |p::r,a,m=>by
  rw[Pq,UJ]at a;rw[mi];rcases Ov.mp m with e|m;rw[e,N4 rfl];rw[N2 λe=>a.1 (by rw[e];exact Ol.mpr ⟨x,m,rfl⟩)];exact Cq a.2 m
theorem BE(o:Int)(h:Tr):∀T:yau,(T.map λx=>if x.1=o then(x.1,h)else x).map (·.1)=T.map (·.1)
 |[]=>rfl
 |p::r=>by rw[Pq,Pq,Pq,BE o h r];by_cases e:p.1=o;rw[N4 e];rw[N2 e]
theorem BF{o:Int}(h:Tr):∀{T:yau},o∉T.map (·.1)->(T.map λx=>if x.1=o then(x.1,h)else x)=T
 |[],_=>rfl
 |p::r,n=>by rw[Pq,Ov]at n;rw[Pq,BF h λz=>n (.inr z),N2 λe=>n (.inl e.symm)]
theorem EY{h h0:Tr}(f:Tr->Int):∀{T:yau},(T.map (·.1)).Nodup->RV T o=some h0->((T.map λx=>if x.1=o then(x.1,h)else x).map λx=>f x.2).sum=(T.map λx=>f x.2).sum - f h0+f h
 |[],_,q=>by cases q
 |p::r,a,q=>by
  rw[Pq,UJ]at a;rw[mi]at q;rw[Pq,Pq,WW,Pq,WW];by_cases e:p.1=o;rw[N4 e]at q;rw[N4 e,BF h (by rw[<- e];exact a.1)]
  lia
  rw[N2 e]at q;rw[N2 e,EY f a.2 q]
  lia
structure xG(P:Nat->Int->Tr->Prop)(done:List (Int×Tr×Int))(T:yau):Prop where
 nd:(T.map (·.1)).Nodup
 le:T.length<=done.length
 ok:∀x∈T,P done.length x.1 x.2
 sm:∀f:Tr->Int,f (0,0,0)=0->(∀h g s,f (jx h g s)=f h+f g*s)->(T.map λx=>f x.2).sum=(done.map λx=>f x.2.1*x.2.2).sum
def xG.step{P:Nat->Int->Tr->Prop}(d:∀n o h,P n o h->P (n+1) o h)(I:xG P done T){x:Int×Tr×Int}(h0:P 0 x.1 (0,0,0))(hs:∀n h,P n x.1 h->P (n+1) x.1 (jx h x.2.1 x.2.2)):xG P (done++[x]) (stT T x):=by
 have j:∀n,P n x.1 (0,0,0):=λn=>by
  induction n with
  |zero=>exact h0
  |succ n ih=>exact d n _ _ ih
 unfold stT ptT;cases hl:RV T x.1 with
 |none =>
  have k:=Bk hl;rw[N2 (by simp)];refine⟨?_,by rw[QZ,QZ];exact Nat.add_le_add_right I.le _,λy c=>?_,λf i g=>?_⟩;rw[QE,Zo];refine⟨I.nd,by simp,λa l b a=>?_⟩;rw[Pq,VF,QU]at a;rw[a];exact λe=>k (e ▸ l)
  rw[QZ];rcases PU.mp c with c|c;exact d _ _ _ (I.ok y c);rw[QU.mp c];exact hs _ _ (j _);rw[QE,QE,List.sum_append,List.sum_append,I.sm f i g];have e:=g (0,0,0) x.2.1 x.2.2;show _+(f (jx (0,0,0) x.2.1 x.2.2)+0)=_+(f x.2.1*x.2.2+0);rw[e,i]
  lia
 |some h =>
  rw[N4 (by simp)];refine⟨by rw[BE];exact I.nd,by rw[N3,QZ];exact Nat.le_succ_of_le I.le,λy c=>?_,λf i g=>?_⟩;rw[QZ];obtain⟨z,a,e⟩:=Ol.mp c;by_cases c:z.1=x.1;rw[N4 c]at e;rw[<- e];rw[c];exact hs _ _ (I.ok _ (yY hl));rw[N2 c]at e;rw[<- e];exact d _ _ _ (I.ok z a);rw[EY f I.nd hl,QE,List.sum_append,I.sm f i g];have e:=g h x.2.1 x.2.2;show _ - f h+f (jx h x.2.1 x.2.2)=_+(f x.2.1*x.2.2+0);rw[e]
  lia
theorem vA{P:Nat->Int->Tr->Prop}(a:∀n o h,P n o h->P (n+1) o h)(xs:List (Int×Tr×Int))(h0:∀x∈xs,P 0 x.1 (0,0,0))(hs:∀x∈xs,∀n h,P n x.1 h->P (n+1) x.1 (jx h x.2.1 x.2.2)):∀n,xG P (xs.take n) (cf (xs.take n))
 |0=>⟨by simp[cf],by simp[cf],λx b=>by simp[cf]at b,λf _ _=>by simp[cf]⟩
 |n+1=>by
  by_cases c:n<xs.length;have e:xs.take (n+1)=xs.take n++[xs[n]]:=by rw[List.take_add_one,OH c];rfl
  rw[e];have m:xs[n]∈xs:=RY c;unfold cf;rw[List.foldl_append];exact(vA a xs h0 hs n).step a (h0 _ m) (hs _ m);have e:xs.take (n+1)=xs.take n:=by rw[Yj (by lia),Yj (by lia)]
  rw[e];exact vA a xs h0 hs n
def jA(T:yau)(a:yaf):yau:=a.map λo=>(o,(RV T o).getD (0,0,0))
def JC{T:yau}{a:yaf}(c:(T.map (·.1)).Nodup)(b:a.Perm (T.map (·.1))):(jA T a).Perm T:=by
 have e:(T.map (·.1)).map (λo=>(o,(RV T o).getD (0,0,0)))=T:=by rw[O3];refine(Vz λx a=>?_).trans (List.map_id T);show(x.1,(RV T x.1).getD (0,0,0))=x;rw[Cq c a];rfl
 have:=b.map (λo=>(o,(RV T o).getD (0,0,0)));rw[e]at this;exact this
structure TB(n:Nat)(h:Tr):Prop where
 c:Bd n h.1
 a:Bd n h.2.1
 b:Bd n h.2.2
structure BR(Ls:yas)(rs:yau):Prop where
 l2:2<=rs.length
 l3:rs.length<=3
 rise:(rs.map (·.1)).Pairwise (·<·)
 own:∀x∈rs,∃i:Nat,i<Ls.length/\x.1=(i:Int)/\∀p∈Ls.getD i [],0<=NX x.2 (1,p.1,p.2)
 bd:∀x∈rs,TB 990 x.2
 c0:(rs.map λx=>x.2.1).sum<0
 a0:(rs.map λx=>x.2.2.1).sum=0
 b0:(rs.map λx=>x.2.2.2).sum=0
theorem D8(X:Tr):∀a:yau,(a.map λx=>NX x.2 X).sum=(a.map λx=>x.2.1).sum*X.1+(a.map λx=>x.2.2.1).sum*X.2.1+(a.map λx=>x.2.2.2).sum*X.2.2
 |[]=>by simp
 |x::r=>by simp;rw[D8 X r];unfold NX;grind
theorem zP{a:Type}(f:a->Int):∀xs:List a,(∀x∈xs,0<=f x)->0<=(xs.map f).sum
 |[],_=>by simp
 |x::r,h=>by
  rw[Pq,WW];have:=h x RO;have:=zP f r λy a=>h y (Pz _ a)
  lia
def Dp{a:yau}(b:(a.map λx=>x.2.1).sum<0)(a0:(a.map λx=>x.2.2.1).sum=0)(c:(a.map λx=>x.2.2.2).sum=0){X:Tr}(h0:0<X.1)(h:∀x∈a,0<=NX x.2 X):False:=by
 have e:=D8 X a;rw[a0,c]at e;have:=zP (λx:Int×Tr=>NX x.2 X) a h;have:=UD b h0
 lia
def TY(yss:yas)(b:yag)(a:yaf):List (Int×Tr×Int):=(b.zip a).map λz=>(((aZ 0 yss).getD z.1 (0,0,0,0)).1,((aZ 0 yss).getD z.1 (0,0,0,0)).2,z.2)
theorem zp:∀{yss:yas} {n:Nat} {x:Int×Tr},x∈aZ n yss->∃(i:Nat) (ys:yat),x.1=((n+i:Nat):Int)/\yss[i]?=some ys/\x.2∈aJ (aU ys)
 |[],_,_,h=>by cases h
 |ys::r,n,x,h=>by
  rw[aZ]at h;rcases PU.mp h with q|q;obtain⟨g,a,rfl⟩:=Ol.mp q;exact⟨0,ys,rfl,rfl,a⟩;obtain⟨i,a,d,c,b⟩:=zp q;exact⟨i+1,a,by rw[d];congr 1;lia,c,b⟩
theorem bT.at_:∀{yss Ls:yas} {i:Nat} {ys:yat},bT yss Ls->yss[i]?=some ys->∃ps,Ls[i]?=some ps/\cJ ys ps
 |[],[],_,_,_,h=>by simp at h
 |[],_::_,_,_,k,_=>k.elim
 |_::_,[],_,_,k,_=>k.elim
 |y::r,p::q,0,ys,k,h=>by
  cases(show y=ys from SA h);exact⟨p,rfl,k.1⟩
 |y::r,p::q,i+1,ys,k,h=>bT.at_ (yss:=r) (Ls:=q) k.2 h
def Lf(yss:yas)(k:Nat):(Of yss).getD k (0,0,0)=((aZ 0 yss).getD k (0,0,0,0)).2:=by unfold Of;rw[Pg,Pg,Pw];cases(aZ 0 yss)[k]?<;>rfl
def JJ(yss:yas)(f:Tr->Int):∀(b:yag) (a:yaf),((TY yss b a).map λx=>f x.2.1*x.2.2).sum=((b.zip a).map λz=>f ((Of yss).getD z.1 (0,0,0))*z.2).sum:=λb a=>by
 unfold TY;rw[O3];congr 1;exact Vz λz _=>by show f _*_=_;rw[Lf]
theorem Aa(G:yav):∀(d:yag) (c:yaf),d.length=c.length->((d.zip c).map λz=>(G.getD z.1 (0,0,0)).2.1*z.2).sum=(wsum c (S9 G d)).1/\((d.zip c).map λz=>(G.getD z.1 (0,0,0)).2.2*z.2).sum=(wsum c (S9 G d)).2
 |[],[],_=>⟨rfl,rfl⟩
 |k::d,s::c,h=>by obtain⟨a,b⟩:=Aa G d c (Nat.succ.inj h);unfold wsum S9 at a b ⊢;simp only[Zm,Pq,WW,Zg]at a b ⊢;rw[a,b];unfold vc;exact⟨by rw[Rp],by rw[Rp]⟩
def HA{o:yag}(h:o∈Oi last 1++Oi last 2):o.length<=2/\∀k∈o,k<last:=by
 rcases PU.mp h with q|q;exact⟨by rw[(bM q).1];decide,(bM q).2⟩;exact⟨by rw[(bM q).1];decide,(bM q).2⟩
structure FJ(yss:yas)(pk:yag)(sh:yaf):Prop where
 l3:pk.length<=3
 lt:∀k∈pk,k<(aZ 0 yss).length
 WL:xk (S9 (Of yss) pk) sh
 bs:∀s∈sh,Bd 900 s
 neg:oR (Of yss) pk sh<0
def CI(S:qr yss){a:Nat}{b:yag}{c:yaf}(h:a<(Of yss).length)(e:gK (Of yss) a (Oi a 1++Oi a 2)=some (b,c)):FJ yss b c:=by
 obtain⟨⟨o,a,c⟩,f,i⟩:=vZ e;obtain⟨j,e⟩:=HA a;have g:(Of yss).length=(aZ 0 yss).length:=N3 _;have d:b.length<=3:=by rw[c,QZ,Z5];lia
 have lt':∀k∈b,k<(Of yss).length:=λk a=>by
  rw[c]at a;rcases PU.mp a with q|q;have:=e k q;lia;rw[QU.mp q];exact h
 have c:(S9 (Of yss) b).length<=3:=by unfold S9;rw[N3];exact d
 refine⟨d,λk a=>by rw[<- g];exact lt' k a,oN c f,xQ (λw b=>?_) c f,i⟩;obtain⟨k,a,rfl⟩:=Ol.mp b;have q:=OH (lt' k a);rw[Pg,q];have B:=(S.gb _ (RY (lt' k a))).1;exact⟨B.a.mono (by decide),B.b.mono (by decide)⟩
def GQ{a:yaf}(h:a.Perm b):a.sum=b.sum:=by
 induction h with
 |nil=>rfl
 |cons x _ ih=>simp_all
 |swap x y l=>simp;lia
 |trans _ _ d c=>lia
def J4(Ls:yas)(n:Nat)(o:Int)(h:Tr):Prop:=(∃i:Nat,i<Ls.length/\o=(i:Int)/\∀q∈Ls.getD i [],0<=NX h (1,q.1,q.2))/\TB (983+n) h
def zw(L:LsOk Ls)(K:bT yss Ls)(S:qr yss)(p:FJ yss g f):∀n,xG (J4 Ls) ((TY yss g f).take n) (cf ((TY yss g f).take n)):=by
 have c:∀x∈TY yss g f,(∃i:Nat,i<Ls.length/\x.1=(i:Int)/\∀q∈Ls.getD i [],0<=NX x.2.1 (1,q.1,q.2))/\TB 82 x.2.1/\0<x.2.2/\Bd 900 x.2.2:=λx d=>by
  obtain⟨z,j,e⟩:=Ol.mp d;have h:=(VE (a:=z.1) (b:=z.2) j);have a:=p.lt _ h.1;have k:(aZ 0 yss).getD z.1 (0,0,0,0)∈aZ 0 yss:=by rw[Pg,OH a];exact RY a
  obtain⟨i,s,r,a,o⟩:=zp k;obtain⟨j,b,rk⟩:=K.at_ a;have a:j∈Ls:=Qh b;have m:=bV rk;have l:=XH (L.ne j a);have B:=(S.gb _ (Ol.mpr ⟨_,k,rfl⟩)).1;rw[<- e];refine⟨⟨i,(Ql.mp b).1,by rw[r];congr 1;lia,λq a=>?_⟩,⟨B.c.mono (by decide),B.a.mono (by decide),B.b.mono (by decide)⟩,p.WL.pos _ h.2,p.bs _ h.2⟩;rw[Pg,b]at a;exact iT m l o a
 exact vA (P:=J4 Ls) (λn o h q=>⟨q.1,q.2.c.mono (by lia),q.2.a.mono (by lia),q.2.b.mono (by lia)⟩) (TY yss g f) (λx d=>by
  obtain⟨⟨i,a,e,_⟩,_⟩:=c x d;refine⟨⟨i,a,e,λq _=>?_⟩,?_⟩;have:NX (0,0,0) (1,q.1,q.2)=0:=by unfold NX;grind
  lia
  have z:∀n,Bd n 0:=λn=>by unfold Bd;simp;exact Nat.two_pow_pos n
  exact⟨z _,z _,z _⟩) (λx d n h q=>by
  obtain⟨⟨i,a,e,f⟩,B,b,sb⟩:=c x d;obtain⟨⟨j,c,d,g⟩,H⟩:=q;have a:j=i:=by rw[e]at d;lia
  subst a;have m:∀{y:Int},Bd 82 y->Bd (983+n) (y*x.2.2):=λa=>(a.mul sb).mono (by lia)
  refine⟨⟨j,c,e,λw a=>?_⟩,H.c.add (m B.c),H.a.add (m B.a),H.b.add (m B.b)⟩;have k:NX (jx h x.2.1 x.2.2) (1,w.1,w.2)=NX h (1,w.1,w.2)+NX x.2.1 (1,w.1,w.2)*x.2.2:=by unfold NX jx;grind
  rw[k];exact Int.add_nonneg (g w a) (PV (f w a) (PK b)))
def Ah(L:LsOk Ls)(K:bT yss Ls)(S:qr yss)(p:FJ yss pk sh){b:yaf}(a:b.Perm ((cf (TY yss pk sh)).map (·.1)))(k:b.Pairwise (·<·)) :
  BR Ls (jA (cf (TY yss pk sh)) b):=by
 have i:pk.length=sh.length:=by have:=p.WL.len;unfold S9 at this;rw[N3]at this;exact this.symm
 have m:(TY yss pk sh).length<=3:=by unfold TY;rw[N3,Yt];have:=p.l3;lia
 have I:=zw L K S p (TY yss pk sh).length;rw[Ub]at I;generalize hT:cf (TY yss pk sh)=T at I a ⊢;have c:=JC I.nd a;have n:=c.length_eq;have o:=I.le;have a:∀f:Tr->Int,f (0,0,0)=0->(∀h g s,f (jx h g s)=f h+f g*s)->((jA T b).map λx=>f x.2).sum=((pk.zip sh).map λz=>f ((Of yss).getD z.1 (0,0,0))*z.2).sum:=λf e d=>by rw[GQ (c.map λx=>f x.2),I.sm f e d,JJ]
 have e:((jA T b).map λx=>x.2.1).sum<0:=by rw[a (λh=>h.1) rfl λ_ _ _=>rfl];exact p.neg
 obtain⟨f,d⟩:=Aa (Of yss) pk sh i;have j:((jA T b).map λx=>x.2.2.1).sum=0:=by rw[a (λh=>h.2.1) rfl λ_ _ _=>rfl,f,p.WL.sum]
 have g:((jA T b).map λx=>x.2.2.2).sum=0:=by rw[a (λh=>h.2.2) rfl λ_ _ _=>rfl,d,p.WL.sum]
 have a:∀x∈jA T b,∃i:Nat,i<Ls.length/\x.1=(i:Int)/\∀q∈Ls.getD i [],0<=NX x.2 (1,q.1,q.2):=λx d=>(I.ok x (c.mem_iff.mp d)).1
 refine⟨?_,by lia,?_,a,λx d=>?_,e,j,g⟩;generalize jA T b=f at *;rcases f with _|⟨x,_|⟨y,r⟩⟩;simp at e;exfalso;obtain⟨i,f,_,h⟩:=a x (by simp);have q:=OH f;obtain⟨w,l⟩:=zCq _ (XH (L.ne Ls[i] (RY f)));refine Dp e j g (X:=(1,w.1,w.2)) (show(0:Int)<1 by decide) λy a=>?_
 rw[QU.mp a];exact h w (by rw[Pg,q];exact l);simp;unfold jA;rw[O3];show(b.map id).Pairwise _;rw[List.map_id];exact k;obtain⟨_,B⟩:=I.ok x (c.mem_iff.mp d);exact⟨B.c.mono (by lia),B.a.mono (by lia),B.b.mono (by lia)⟩
structure NS(Ls:yas):Prop where
 l5:Ls.length<=5
 le:∀ps∈Ls,ps.length<=5
structure xF(Ls:yas)(y:Tr)(rs:List (yag×yaf)):Prop where
 pr:Pr y
 cb:CB 40 y
 len:rs.length=Ls.length
 ok:∀i,i<Ls.length->oJ (Ls.getD i []) y (rs.getD i ([],[])).1 (rs.getD i ([],[])).2
 com:oC Ls y
def nh(L:LsOk Ls)(K:bT yss Ls)(S:qr yss){y:Tr}(e:y∈aX (Of yss) (F0 yss)) :
  (∀ps∈Ls,cq (ps.map (N9 y)) (cO ps.length)=some ((cq (ps.map (N9 y)) (cO ps.length)).getD ([],[])))/\xF Ls y (Ls.map λps=>(cq (ps.map (N9 y)) (cO ps.length)).getD ([],[])):=by
 obtain⟨Z,_,b⟩:=S.zs;have a:=b (Of yss).length;have d:=S.ov (Of yss).length;rw[Ub]at a d;have c:=a.pr y e;have cy:=a.cb y e;have f:∀ps∈Ls,lD y ps:=λps a=>by obtain⟨j,g,b⟩:=K.ex2 ps a;exact pA (bV b) (XH (L.ne ps a)) c.pos λb h=>d b (pB 0 g h) y e
 have b:∀ps∈Ls,cq (ps.map (N9 y)) (cO ps.length)=some ((cq (ps.map (N9 y)) (cO ps.length)).getD ([],[])):=λps a=>by
  have:=FT (f ps a);cases hm:cq (ps.map (N9 y)) (cO ps.length)with
  |none=>exact absurd hm this
  |some r=>rfl
 refine⟨b,c,cy,by rw[N3],λi e=>?_,c.pos,λps a g h=>?_⟩;have d:Ls[i]?=some Ls[i]:=OH e;have a:Ls[i]∈Ls:=RY _;rw[Pg,d,Pg,Pw,d];exact MG (L.bd _ a) (cy.pb c) (b _ a);refine rO c.pos (f ps a) g λp b=>?_
 obtain⟨q,a,rfl⟩:=Ol.mp b;exact h q a
def rE (a:yau):D:=.tup [.str "bar", .lst true (a.map Sm)]
def LB(B:BR Ls rs)(C:oC Ls X):False :=
 Dp B.c0 B.a0 B.b0 C.1 λx c=>by obtain⟨i,a,_,b⟩:=B.own x c;refine C.2 (Ls.getD i []) ?_ x.2 b;rw[Pg,OH a];exact RY a
theorem nW{c:Type}{f:c->D}(d:∀a b,f a=f b->a=b):∀{xs ys:List c},xs.map f=ys.map f->xs=ys
 |[],[],_=>rfl
 |[],_::_,h=>by simp at h
 |_::_,[],h=>by simp at h
 |a::r,b::q,h=>by rw[d a b (by simp_all),nW d (List.cons.inj h).2]
def IZ{xs ys:yau}(h:xs.map Sm=ys.map Sm):xs=ys:=nW (λa b e=>by obtain⟨i,l,k,g⟩:=a;obtain⟨j,f,d,c⟩:=b;simp only[Sm,Oe,T3,D.tup.injEq,Z7,D.int.injEq,and_true]at e;obtain⟨rfl,rfl,rfl,rfl⟩:=e;rfl) h
def dZ(z:Nat×Int):D:=.tup [.int ((z.1:Nat):Int),.int z.2]
def JI{xs ys:List (Nat×Int)}(h:xs.map dZ=ys.map dZ):xs=ys:=nW (λa b e=>by obtain⟨i,s⟩:=a;obtain⟨j,t⟩:=b;simp only[dZ,D.tup.injEq,Z7,D.int.injEq,and_true]at e;obtain⟨c,rfl⟩:=e;rw[show i=j by lia]) h
def zT(z:Nat×Int):aK (dZ z)=dZ z:=by unfold dZ;simp only[c6,bO,cg,fg]
def uF(a:List (Nat×Int)):bC (a.map dZ)=a.map dZ:=c8 dZ zT a
theorem vS:∀(b:yag) (a:yaf),List.zipWith (λx y=>D.tup [x,y]) (b.map λ(k:Nat)=>D.int (k:Int)) (a.map D.int)=(b.zip a).map dZ
 |[],_=>by simp
 |_::_,[]=>by simp
 |k::b,s::a=>by rw[Pq,Pq,Zg,vS b a,Zm,Pq];rfl
def gC(os:yau)(a:List (Nat×Int)):List (Int×Tr×Int):=a.map λz=>((os.getD z.1 (0,0,0,0)).1,(os.getD z.1 (0,0,0,0)).2,z.2)
def lY(T:yau):List (Key×D):=T.map λx=>(Sum.inl x.1,Oe x.2)
theorem nc(o:Int):∀T:yau,dH (lY T) (Sum.inl o)=(RV T o).map Oe
 |[]=>rfl
 |x::r=>by show dH ((Sum.inl x.1,Oe x.2)::lY r) (Sum.inl o)=_;rw[t6,mi,nc o r];by_cases c:x.1=o;rw[N4 c,N4 (by rw[c])];rfl;rw[N2 c,N2 λe=>c (Sum.inl.inj e)]
def Js(T:yau)(o:Int)(h:Tr):putD (lY T) (Sum.inl o) (Oe h)=lY (ptT T o h):=by
 unfold putD ptT;rw[nc,Option.isSome_map];by_cases c:(RV T o).isSome=true;rw[N4 c,N4 c];unfold lY;rw[O3,O3];refine Vz λx _=>?_
 show(if(Sum.inl x.1:Key)=Sum.inl o then _ else _)=((λy:Int×Tr=>((Sum.inl y.1:Key),Oe y.2)) (if x.1=o then(x.1,h)else x));by_cases e:x.1=o;rw[N4 e,N4 (by rw[e])];rw[N2 e,N2 λq=>e (Sum.inl.inj q)];rw[N2 c,N2 c];unfold lY;rw[QE];rfl
theorem vU:∀T:yau,(((T.map (·.1)).map Sum.inl:List Key).zip (T.map λx=>Oe x.2))=lY T
 |[]=>rfl
 |x::r=>by show(Sum.inl x.1,Oe x.2)::_=(Sum.inl x.1,Oe x.2)::lY r;rw[<- vU r];rfl
def vo(ps:yat):LI:=.own (ps.map Od)
abbrev Tu(y:Tr)(ps:yat):yag×yaf:=(cq (ps.map (N9 y)) (cO ps.length)).getD ([],[])
def HmR (Ls : yas) (d : D) : Prop := ∃ a, bT a Ls ∧
  ((∃ y rest, aX (Of a) (F0 a) = y :: rest /\ d = gN y (Ls.map (Tu y))) ∨
   ∃ b e c f, aX (Of a) (F0 a) = [] /\ b < (Of a).length /\ (∀ j, j <= b -> aX ((Of a).take j) (F0 a) ≠ []) /\ aX ((Of a).take (b + 1)) (F0 a) = [] ∧
    gK (Of a) b (Oi b 1 ++ Oi b 2) = some (e, c) /\ f.Perm ((cf (TY a e c)).map (·.1)) /\ f.Pairwise (· < ·) /\ d = rE (jA (cf (TY a e c)) f))
def xn(L:LsOk Ls)(h:HmR Ls d):(∃y,d=gN y (Ls.map (Tu y))/\xF Ls y (Ls.map (Tu y))/\∀ps∈Ls,cq (ps.map (N9 y)) (cO ps.length)=some (Tu y ps))∨∃ a,d=rE a/\BR Ls a:=by
 obtain⟨b,rk,h⟩:=h;have St:=mW L rk;rcases h with⟨y,r,e,rfl⟩| ⟨i,j,g,k,e,e,m,l,d,c,h6,rfl⟩;obtain⟨a,f⟩:=nh L rk St (y:=y) (by simp_all);exact .inl ⟨y,rfl,f,a⟩;exact .inr ⟨_,rfl,Ah L rk St (CI St e d) c h6⟩
def Gf{c:Type}{wi:DA}{g:DG}{tb:DS}{E:mF}(xs:List c)(f:c->D)(Pv:Ro->Prop)(h:∀R:yar->Prop,R (xs.map f)->wi ρ R)(e:Pv ρ)
  (b:∀(x:c) (a:Ro),x∈xs->Pv a->g (f x) a λi=>tb {E with nx:=Pv,ct:=Pv,bk:=E.nx} i) (d:∀a,Pv a->E.nx a):Cc wi g tb E ρ :=
 PD.bq xs f (λ_ ρ=>Pv ρ) h e (λ_ x a c e=>b x a (Qh c) e) d
def bD(ns:yaf)(a:yag):yaf:=a.map λi=>ns.getD i 0
def cD(ns a:yaf):yaf:=ns.filter λn=>!a.contains n
def R6:yag->yaf->List (List (yaf))
 |[],_=>[[]]
 |k::c,a=>(Oi a.length k).flatMap λb=>(R6 c (cD a (bD a b))).map (bD a b::·)
theorem zt(x:Sp):∀l:yat,l.Pairwise (λp q=>p.1<q.1∨(p.1=q.1/\p.2<q.2))->∃k:yat,k.Pairwise (λp q=>p.1<q.1∨(p.1=q.1/\p.2<q.2))/\∀p,p∈k↔p=x∨p∈l
 |[],_=>⟨[x],by simp,by simp⟩
 |y::l,h=>by
  obtain⟨e,a⟩:=Tc.mp h;by_cases c:x=y;exact⟨y::l,h,by simp_all⟩;by_cases d:x.1<y.1∨(x.1=y.1/\x.2<y.2);exact⟨x::y::l,Tc.mpr ⟨by grind,h⟩,by simp_all⟩
  ·obtain⟨k,c,b⟩:=zt x l a;refine⟨y::k,Tc.mpr ⟨λz a=>?_,c⟩,by grind⟩;rcases(b z).mp a with rfl|a
   all_goals grind
theorem vq:∀ps:yat,∃ys,cJ ys ps
 |[]=>⟨[],by simp[cJ]⟩
 |p::ps=>by obtain⟨ys,h,m⟩:=vq ps;obtain⟨k,a,b⟩:=zt p ys h;exact⟨k,a,by grind⟩
theorem HH:∀Ls:yas,∃yss,bT yss Ls
 |[]=>⟨[],trivial⟩
 |p::Ls=>by obtain⟨a,h⟩:=vq p;obtain⟨yss,k⟩:=HH Ls;exact⟨a::yss,h,k⟩
def Ng:∀a∈Oi 7 5,∀b∈Oi 7 5,∀c∈Oi 7 5,∃i ∈ [0,1,2,3,4,5,6],i∈a/\i∈b/\i∈c:=by decide +kernel
def Mo{Q:Nat->yag->Prop}:∀d:yag,d.length<=3->(∀k∈d,∃S∈Oi 7 5,Q k S)->∃i,i<7/\∀k∈d,∃S,Q k S/\i∈S:=by
 intro d t h;have e:∀a b c,(∃S∈Oi 7 5,Q a S)->(∃S∈Oi 7 5,Q b S)->(∃S∈Oi 7 5,Q c S)->∃i,i<7/\∀k ∈ [a,b,c],∃S,Q k S/\i∈S:=by intro a b c ⟨A,f,o⟩ ⟨B,l,n⟩ ⟨C,j,m⟩;obtain⟨i,_,g,s,p⟩:=Ng A f B l C j;refine⟨i,(bM f).2 i g,λk f=>?_⟩;grind
 rcases d with _|⟨a,_|⟨b,_|⟨c,_|⟨d,r⟩⟩⟩⟩;exact⟨0,by lia,by simp⟩;obtain⟨i,d,q⟩:=e a a a (h a (by simp)) (h a (by simp)) (h a (by simp));exact⟨i,d,by simp_all⟩;obtain⟨i,d,q⟩:=e a a b (h a (by simp)) (h a (by simp)) (h b (by simp));exact⟨i,d,λk f=>q k (by grind)⟩;exact e a b c (h a (by simp)) (h b (by simp)) (h c (by simp))
 simp_all
theorem Mm(G:yav)(X:Tr):∀a:List (Nat×Int),(a.map λz=>NX (G.getD z.1 (0,0,0)) X*z.2).sum=(a.map λz=>(G.getD z.1 (0,0,0)).1*z.2).sum*X.1+(a.map λz=>(G.getD z.1 (0,0,0)).2.1*z.2).sum*X.2.1+(a.map λz=>(G.getD z.1 (0,0,0)).2.2*z.2).sum*X.2.2
 |[]=>by simp
 |z::a=>by simp only[Pq,WW,Mm G X a];unfold NX;grind
def ZY(P:Nat->Sp):yas:=(Oi 7 5).map λS=>S.map P
def Nz{P:Nat->Sp}(d:∀i,i<7->WB 40 (P i)):LsOk (ZY P):=by
 have e:(Oi 7 5).length=21:=by decide +kernel
 have f:∀a∈ZY P,a.length=5:=λa h=>by obtain⟨S,b,rfl⟩:=Ol.mp h;rw[N3];exact(bM b).1
 refine⟨by unfold ZY;grind,.inr ⟨by unfold ZY;grind,by grind⟩,by simp_all,by grind,λa h p a=>?_⟩;obtain⟨S,b,rfl⟩:=Ol.mp h;obtain⟨i,c,rfl⟩:=Ol.mp a;exact d i ((bM b).2 i c)
def GN(K:bT yss (ZY P)){e:Tr}(a:e∈Of yss):∃S∈Oi 7 5,∀i∈S,0<=NX e (sT (P i)):=by obtain⟨x,c,rfl⟩:=Ol.mp a;obtain⟨a,b,d⟩:=pC c;obtain⟨f,c,r⟩:=K.ex a b;obtain⟨S,a,rfl⟩:=Ol.mp c;exact⟨S,a,λi a=>iT (bV r) (λz=>by simp_all) d (Ol.mpr ⟨i,a,rfl⟩)⟩
def In5(P:Nat->Sp)(X:Tr):Prop:=∀S∈Oi 7 5,∀g:Tr,(∀i∈S,0<=NX g (sT (P i)))->0<=NX g X
def MS(h:0<(Tt (Oj e g)).1):NX e (Tt (Oj e g))=0/\NX g (Tt (Oj e g))=0/\(Oj e g).1≠0:=by
 have c:NX e (Oj e g)=0:=by unfold NX Oj;grind
 have b:NX g (Oj e g)=0:=by unfold NX Oj;grind
 generalize Oj e g=w at *;have j:=PM.cP (l:=w.1) (PM.rM w.1 w.2.1 w.2.2);have i:=PM.cP (l:=w.1) (PM.u5 w.1 w.2.1 w.2.2);have f:=PM.cP (l:=w.1) (PM.u6 w.1 w.2.1 w.2.2);unfold Tt at *;generalize PM.Qf w.1 w.2.1 w.2.2 w.1=d at *;have a:d≠0:=λz=>by simp_all
 unfold NX at *;refine⟨?_,?_,λz=>by simp_all⟩;refine(Sz.mp (?_:_*d=0)).resolve_right a;grind;refine(Sz.mp (?_:_*d=0)).resolve_right a;grind
def center{P:Nat->Sp}(a:∀i,i<7->WB 40 (P i)):∃X:Tr,0<X.1/\In5 P X/\((∃i,i<7/\X=sT (P i))∨∃ e g:Tr,NX e X=0/\NX g X=0/\(Oj e g).1≠0/\(∃S∈Oi 7 5,∀i∈S,0<=NX e (sT (P i)))/\∃S∈Oi 7 5,∀i∈S,0<=NX g (sT (P i))):=by
 have L:=Nz a;obtain⟨a,K⟩:=HH (ZY P);have S:=mW L K;cases ec:aX (Of a) (F0 a)with
 |nil =>
  obtain⟨h,d,_,_,⟨c,f⟩,b⟩:=tw S ec;have p:=CI S d b;obtain⟨i,u,d⟩:=Mo (Q:=λk S=>∀i∈S,0<=NX ((Of a).getD k (0,0,0)) (sT (P i))) c p.l3 λk b=>by
   have lk:=p.lt k b;refine GN K ?_;have:k<(Of a).length:=by unfold Of;rw[N3];exact lk
   rw[Pg,OH this];exact RY this
  have b:c.length=f.length:=by have:=p.WL.len;unfold S9 at this;rw[N3]at this;exact this.symm
  have z:=Mm (Of a) (sT (P i)) (c.zip f);have w:=Aa (Of a) c f b;have b:=p.WL.sum;have n:=p.neg;unfold oR at n;rw[w.1,w.2,b]at z;have b:0<=((c.zip f).map λz=>NX ((Of a).getD z.1 (0,0,0)) (sT (P i))*z.2).sum:=zP _ _ λx c=>by obtain⟨S,q,m⟩:=d x.1 (VE c).1;exact PV (q i m) (PK (p.WL.pos x.2 (VE c).2))
  rw[z]at b;unfold sT at b
  lia
 |cons y r =>
  have j:y∈aX (Of a) (F0 a):=by rw[ec];simp
  have M:=(nh L K S j).2;refine⟨y,M.pr.pos,λT f g c=>M.com.2 (T.map P) (Ol.mpr ⟨T,f,rfl⟩) g λp b=>?_,?_⟩;obtain⟨i,d,rfl⟩:=Ol.mp b;exact c i d;rcases S.cn y j with m|⟨e,l,g,c,rfl⟩;obtain⟨q,k,rfl⟩:=Ol.mp m;have t:=L.l0;have s:=K.len;have:0<a.length:=by lia
  have j:a.getD 0 []∈a:=by rw[Pg,OH this];exact RY this
  obtain⟨o,b,rk⟩:=K.ex _ j;obtain⟨T,f,rfl⟩:=Ol.mp b;obtain⟨i,d,e⟩:=Ol.mp ((bV rk).mem q k);exact .inl ⟨i,(bM f).2 i d,by rw[e]⟩;obtain⟨d,b,a⟩:=MS M.pr.pos;exact .inr ⟨e,g,d,b,a,GN K l,GN K c⟩
def TM(ks:yag):List (List (yag)):=(R6 ks [0,1,2,3,4,5,6]).map λg=>g.map λG=>G.map Int.toNat
def ng(g:Tr):Tr:=(-g.1,-g.2.1,-g.2.2)
def nj(g x:Tr):NX (ng g) x=- NX g x:=by unfold NX ng;grind
theorem Dq(f:Nat->Int):∀S:yag,∃M:Int,0<M/\∀i∈S,- f i<M
 |[]=>⟨1,by lia,by simp⟩
 |i::S=>by obtain⟨M,h,k⟩:=Dq f S;exact⟨M+(f i).natAbs,by lia,by grind⟩
def no5{X:Tr}(h:0<X.1)(H:In5 P X)(f:NX g X=0)(b:NX v X=0){S:yag}(a:S∈Oi 7 5)(q:∀i∈S,0<NX g (sT (P i))∨(NX g (sT (P i))=0/\0<NX v (sT (P i)))):False:=by
 obtain⟨M,c,d⟩:=Dq (λi=>NX v (sT (P i))) S;have e:∀x:Tr,NX (M*g.1+v.1 - 1,M*g.2.1+v.2.1,M*g.2.2+v.2.2) x=M*NX g x+NX v x - x.1:=λx=>by unfold NX;grind
 have:=H S a (M*g.1+v.1 - 1,M*g.2.1+v.2.1,M*g.2.2+v.2.2) λi a=>by
  rw[e];have l:=d i a;show 0<=M*_+_ - 1;rcases q i a with q|⟨q,r⟩;have:=zCO (show 1<=NX g (sT (P i))by lia) (PK c)
  lia
  lia
 rw[e,f,b]at this
 lia
def Na{a b c d:Nat}(t:a<7)(o:b<7)(s:c<7)(j:d<7)(ab:a≠b)(r:a≠c)(ad:a≠d)(n:b≠c)(l:b≠d)(q:c≠d):∃A B T,[A,B,T]∈TM [2,2,3]/\a∈A/\b∈A/\c∈B/\d∈B/\∀x ∈ [a,b],∀y ∈ [c,d],∃S∈Oi 7 5,∀i∈S,i=x∨i=y∨i∈T:=by
 have h:∀b∈List.range 7,∀a∈List.range b,∀d∈List.range 7,∀c∈List.range d,a≠c->a≠d->b≠c->b≠d->[[a,b],[c,d],(List.range 7).filter λi=>!([a,b,c,d].contains i)]∈TM [2,2,3]/\∀x ∈ [a,b],∀y ∈ [c,d],((List.range 7).filter λi=>!([a,b,c,d].contains i) || i==x || i==y)∈Oi 7 5:=by decide +kernel
 have g:∀a b c d,a<b->b<7->c<d->d<7->a≠c->a≠d->b≠c->b≠d->∃T,[[a,b],[c,d],T]∈TM [2,2,3]/\∀x ∈ [a,b],∀y ∈ [c,d],∃S∈Oi 7 5,∀i∈S,i=x∨i=y∨i∈T:=λa b c d ab o q j u p f e=>by obtain⟨k,m⟩:=h b (TG.mpr o) a (TG.mpr ab) d (TG.mpr j) c (TG.mpr q) u p f e;refine⟨_,k,λx f y e=>⟨_,m x f y e,λi w=>?_⟩⟩;grind
 rcases XN ab with p|p<;>rcases XN q with q|q;obtain⟨T,k,m⟩:=g a b c d p o q j r ad n l;exact⟨_,_,T,k,by simp,by simp,by simp,by simp,m⟩;obtain⟨T,k,m⟩:=g a b d c p o q s ad r l n;exact⟨_,_,T,k,by simp,by simp,by simp,by simp,λx f y e=>m x f y (by simp at e ⊢;lia)⟩;obtain⟨T,k,m⟩:=g b a c d p t q j n l r ad;exact⟨_,_,T,k,by simp,by simp,by simp,by simp,λx f y e=>m x (by simp at f ⊢;lia) y e⟩;obtain⟨T,k,m⟩:=g b a d c p t q s l n ad r;exact⟨_,_,T,k,by simp,by simp,by simp,by simp,λx f y e=>m x (by simp at f ⊢;lia) y (by simp at e ⊢;lia)⟩
def LL(c:(Oj e f).1≠0)(i:NX e z=0)(d:NX f z=0)(j:NX e X=0)(h:NX f X=0)(g:Tr):z.1*NX g X=X.1*NX g z:=by
 have k:∀y:Tr,NX e y=0->NX f y=0->(Oj e f).1*y.2.1=y.1*(Oj e f).2.1/\(Oj e f).1*y.2.2=y.1*(Oj e f).2.2:=λy b a=>by unfold NX at b a;unfold Oj;grind
 obtain⟨q,p⟩:=k z i d;obtain⟨o,n⟩:=k X j h;have m:z.1*X.2.1=X.1*z.2.1:=Z2 c (by grind);have l:z.1*X.2.2=X.1*z.2.2:=Z2 c (by grind);unfold NX;grind
def Bq{P:Nat->Sp}(c:(Oj e f).1≠0)(h:NX e X=0)(d:NX f X=0)(j:NX e (sT (P a))=0)(i:NX e (sT (P b))=0)(g:Tr):(NX f (sT (P b)) - NX f (sT (P a)))*NX g X=X.1*(NX f (sT (P b))*NX g (sT (P a)) - NX f (sT (P a))*NX g (sT (P b))):=by have:=LL (z:=OJ f (sT (P a)) (sT (P b))) c (by grind [qp]) (by rw[qp];grind) h d g;rw[qp]at this;rw[<- this];unfold OJ sT;grind
def Br{P:Nat->Sp}{X:Tr}(h:0<X.1)(c:(Oj e f).1≠0)(n:NX e X=0)(k:NX f X=0)(m:NX e (sT (P a))=0)(l:NX e (sT (P b))=0)(r:NX f (sT (P a))<0)(j:0<NX f (sT (P b)))(i:0<=NX g (sT (P a)))(d:0<=NX g (sT (P b))):0<=NX g X:=by have e:=Bq c n k m l g;have p:=PV (PK j) i;have c:=PV (show 0<=- NX f (sT (P a))by lia) d;rw[R8]at c;have o:=PV (PK h) (show 0<=NX f (sT (P b))*NX g (sT (P a)) - NX f (sT (P a))*NX g (sT (P b))by lia);exact Uk.mp λq=>by have:=XF (show 0<NX f (sT (P b)) - NX f (sT (P a))by lia) q;lia
def wL{P:Nat->Sp}{X:Tr}(h:0<X.1)(c:(Oj e f).1≠0)(n:NX e X=0)(k:NX f X=0)(m:NX e (sT (P a))=0)(l:NX e (sT (P b))=0)(j:NX f (sT (P a))<0)(i:0<NX f (sT (P b)))(d:NX g X=0):0<NX g (sT (P a))∨0<NX g (sT (P b))∨NX g (sT (P b))=0:=by
 have e:=Bq c n k m l g;rw[d,U2]at e;have o:=(Sz.mp e.symm).resolve_left (by lia);by_cases q:NX g (sT (P b))<0;have:=XG j q;exact .inl (SE.mp λz=>by have:=PV (PK i) (show 0<=- NX g (sT (P a))by lia);rw[Int.mul_neg]at this;lia)
 lia
def Ye(X g:Tr):Tr:=(X.1*g.1 - NX g X,X.1*g.2.1,X.1*g.2.2)
def Fe(X g x:Tr):NX (Ye X g) x=X.1*NX g x - NX g X*x.1:=by unfold Ye NX;grind
def tvA{X:Tr}(h:0<X.1)(H:In5 P X)(l:NX e X=0)(o:NX f X=0)(c:(Oj e f).1≠0)(s:∃S∈Oi 7 5,∀i∈S,0<=NX e (sT (P i)))(r:∃S∈Oi 7 5,∀i∈S,0<=NX f (sT (P i)))(n:∀i,i<7->¬(NX e (sT (P i))=0/\NX f (sT (P i))=0)):∃g∈TM [2,2,3],oC (g.map λG=>G.map P) X:=by
 have k:∀(e f:Tr),NX e X=0->NX f X=0->(∃S∈Oi 7 5,∀i∈S,0<=NX e (sT (P i)))->(∀i,i<7->¬(NX e (sT (P i))=0/\NX f (sT (P i))=0))->∃b,b<7/\NX e (sT (P b))=0/\0<NX f (sT (P b)):=λe f l o ⟨S,p,q⟩ n=>Yg λd=>no5 h H l (v:=ng f) (by rw[nj];lia) p λi j=>by
  have a:=(bM p).2 i j;have:=q i j;rw[nj];by_cases z:NX e (sT (P i))=0;have:=n i a;exact .inr ⟨z,SE.mp λy=>d ⟨i,a,z,by lia⟩⟩
  lia
 have d:NX (ng f) X=0:=by rw[nj];lia
 have m:NX (ng e) X=0:=by rw[nj];lia
 obtain⟨a,M,G,A⟩:=k e (ng f) l d s λi j=>by rw[nj];have:=n i j;lia
 obtain⟨b,J,E,w⟩:=k e f l o s n;obtain⟨u,x,s,B⟩:=k f (ng e) o m r λi j=>by rw[nj];have:=n i j;lia
 obtain⟨d,I,t,C⟩:=k f e o l r λi j=>by have:=n i j;lia
 rw[nj]at A B;obtain⟨A,B,T,m,L,B,r,dB,A⟩:=Na M J x I (λz=>by subst z;lia) (λz=>by subst z;lia) (λz=>by subst z;lia) (λz=>by subst z;lia) (λz=>by subst z;lia) (λz=>by subst z;lia);have Q:(Oj f e).1=-(Oj e f).1:=by unfold Oj;grind
 have n:(Oj f e).1≠0:=by lia
 refine⟨_,m,h,λN m g k=>?_⟩;simp only[Pq,VF,Ov,RP,or_false]at m;rcases m with rfl|rfl|rfl;exact Br h c l o G E (by lia) w (k (P a) (Ol.mpr ⟨a,L,rfl⟩)) (k (P b) (Ol.mpr ⟨b,B,rfl⟩));exact Br h n o l s t (by lia) C (k (P u) (Ol.mpr ⟨u,r,rfl⟩)) (k (P d) (Ol.mpr ⟨d,dB,rfl⟩));refine Uk.mp λO=>?_
 have m:NX (Ye X g) X=0:=by rw[Fe];grind
 have r:∀i∈T,0<NX (Ye X g) (sT (P i)):=λi j=>by rw[Fe];have:=PV (PK h) (k (P i) (Ol.mpr ⟨i,j,rfl⟩));show 0<X.1*NX g (sT (P i)) - NX g X*1;have e:NX g (sT (P i))=NX g (1,(P i).1,(P i).2):=rfl;rw[e];lia
 have k:∀x:Tr,NX (e.1+f.1,e.2.1+f.2.1,e.2.2+f.2.2) x=NX e x+NX f x:=λx=>by unfold NX;grind
 obtain⟨x,z,B⟩:∃x ∈ [a,b],0<NX (Ye X g) (sT (P x))∨(NX (Ye X g) (sT (P x))=0/\0<NX (e.1+f.1,e.2.1+f.2.1,e.2.2+f.2.2) (sT (P x))):=by
  rcases wL h c l o G E (by lia) w m with q|q|q;exact⟨a,by simp,.inl q⟩;exact⟨b,by simp,.inl q⟩;exact⟨b,by simp,.inr ⟨q,by rw[k];lia⟩⟩
 obtain⟨y,a,c⟩:∃x ∈ [u,d],0<NX (Ye X g) (sT (P x))∨(NX (Ye X g) (sT (P x))=0/\0<NX (e.1+f.1,e.2.1+f.2.1,e.2.2+f.2.2) (sT (P x))):=by
  rcases wL h n o l s t (by lia) C m with q|q|q;exact⟨u,by simp,.inl q⟩;exact⟨d,by simp,.inl q⟩;exact⟨d,by simp,.inr ⟨q,by rw[k];lia⟩⟩
 obtain⟨S,p,b⟩:=A x z y a;refine no5 h H m (v:=(e.1+f.1,e.2.1+f.2.1,e.2.2+f.2.2)) (by rw[k];lia) p λi j=>?_
 rcases b i j with rfl|rfl|q;exact B;exact c;exact .inl (r i q)
def y6{l:yag}(h:l.Pairwise (·<·)):l.Nodup:=h.imp λh e=>by lia
def Ox(p w:Sp):Int:=p.1*w.1+p.2*w.2
def gO(o p:Sp):Tr:=(-(p.1*o.1+p.2*o.2),p.1,p.2)
def tM(o p q:Sp):NX (gO o p) (sT q)=Ox p (sb q o):=by unfold NX gO sT Ox sb;grind
def Vd(P:Nat->Sp)(o:Sp)(T:yag):Prop:=∀p:Sp,¬∀ i∈T,0<Ox p (sb (P i) o)
def C9(h:Vd P o T)(b:∀i∈T,0<=NX g (sT (P i))):0<=NX g (sT o):=Uk.mp λc=>h (vc g) λi a=>by
 have:=b i a;have e:Ox (vc g) (sb (P i) o)=NX g (sT (P i)) - NX g (sT o):=by unfold Ox vc sb NX sT;grind
 lia
def Fp{S:yag}(m:S ≠ [])(h:Vd P o S):∃a∈S,∃b∈S,∃c∈S,Vd P o [a,b,c]:=by
 obtain⟨l,r⟩:=vq (S.map P);have e:S.map P ≠ []:=by simp_all
 have B:lD (sT o) (S.map P):=pA (bV r) e (show(0:Int)<1 by decide) λb f=>C9 h λi d=>iT (bV r) e f (Ol.mpr ⟨i,d,rfl⟩)
 have f:∀a b c,lD (sT o) [P a,P b,P c]->Vd P o [a,b,c]:=λa b c B p a=>by
  have e:∀x:Tr,NX ((gO o p).1 - 1,(gO o p).2.1,(gO o p).2.2) x=NX (gO o p) x - x.1:=λx=>by unfold NX;grind
  have q:=rO (show 0<(sT o).1 from(by decide:(0:Int)<1)) B ((gO o p).1 - 1,(gO o p).2.1,(gO o p).2.2) λx g=>by
   obtain⟨y,c,rfl⟩:=Ol.mp g;have:0<Ox p (sb y o):=by
    simp at c;rcases c with rfl|rfl|rfl
    all_goals simp_all
   rw[e,tM];show 0<=_ - (1:Int)
   lia
  rw[e,tM]at q;have z:Ox p (sb o o)=0:=by unfold Ox sb;grind
  rw[z]at q;exact absurd (show(0:Int)<=0 - 1 from q) (by decide)
 rcases B with⟨p,a,b⟩| ⟨p,a,q,e,b⟩| ⟨p,a,q,e,r,g,b⟩;obtain⟨i,d,rfl⟩:=Ol.mp a;exact⟨i,d,i,d,i,d,f i i i (.inl ⟨_,by simp,b⟩)⟩;obtain⟨i,d,rfl⟩:=Ol.mp a;obtain⟨j,c,rfl⟩:=Ol.mp e;exact⟨i,d,j,c,j,c,f i j j (.inr (.inl ⟨_,by simp,_,by simp,b⟩))⟩;obtain⟨i,d,rfl⟩:=Ol.mp a;obtain⟨j,c,rfl⟩:=Ol.mp e;obtain⟨k,a,rfl⟩:=Ol.mp g;exact⟨i,d,j,c,k,a,f i j k (.inr (.inr ⟨_,by simp,_,by simp,_,by simp,b⟩))⟩
def pig:∀l:yag,l.length<=6->∃x,x<7/\x∉l:=by
 have c:∀(Z l:yag),Z.Nodup->(∀x∈Z,x∈l)->Z.length<=l.length:=λZ=>by
  induction Z with
  |nil=>simp
  |cons z Z ih =>
   intro l a h;obtain⟨d,b⟩:=UJ.mp a;have:=ih (l.erase z) b (by grind);grind
 intro l h;refine Yg λn=>?_
 have:=c (List.range 7) l List.nodup_range (by simp_all);grind
def M9{i a b c:Nat}(p:i<7)(l:a<7)(h:b<7)(f:c<7)(ab:a≠b)(j:a≠c)(g:b≠c)(o:i≠a)(n:i≠b)(m:i≠c):∃B C,[[i],B,C]∈TM [1,3,3]/\a∈B/\b∈B/\c∈B/\∀k,k<7->k≠i->k≠a->k≠b->k≠c->k∈C:=by
 have e:∀a∈List.range 7,∀b∈List.range 7,∀c∈List.range 7,a≠b->a≠c->b≠c->((List.range 7).filter λi=>i==a || i==b || i==c)∈Oi 7 3:=by decide +kernel
 have d:∀T∈Oi 7 3,∀i∈List.range 7,i∉T->[[i],T,(List.range 7).filter λk=>!(k==i || T.contains k)]∈TM [1,3,3]:=by decide +kernel
 refine⟨_,_,d _ (e a (by simp_all) b (by simp_all) c (by simp_all) ab j g) i (by simp_all) (by simp_all),by simp[l],by simp[h],by simp[f],by simp_all⟩
def Q1(i k:Nat):Nat:=if k<i then k else k+1
def D5(a b c d e:Bool):Bool:=a.toNat+b.toNat+c.toNat+d.toNat+e.toNat==2 || a.toNat+b.toNat+c.toNat+d.toNat+e.toNat==3
def tb(L:List Bool)(a b:Nat):Bool:=if a<b then L.getD (a*(11 - a) / 2+b - a - 1) false else !(L.getD (b*(11 - b) / 2+a - b - 1) false)
def cy(f:Nat->Nat->Bool):yag->Bool
 |[a,b,c]=>(f a b && f b c && f c a) || (f b a && f c b && f a c)
 |_=>false
def off(s:yag):yag:=(List.range 6).filter λi=>!s.contains i
def NM:∀o n m l k,D5 o n m l k=true->∀j i h g,D5 (!o) j i h g=true->∀f e d,D5 (!n) (!j) f e d=true->∀c b,D5 (!m) (!i) (!f) c b=true->∀a,D5 (!l) (!h) (!e) (!c) a=true->D5 (!k) (!g) (!d) (!b) (!a)=true →
  ((Oi 6 3).any λs=>cy (tb [o,n,m,l,k,j,i,h,g,f,e,d,c,b,a]) s && cy (tb [o,n,m,l,k,j,i,h,g,f,e,d,c,b,a]) (off s))=true:=by decide +kernel
def Nf:∀f e d c b a:Bool,(∀Q∈Oi 6 5,¬∀ k∈Q,[f,e,d,c,b,a].getD k false=true)->f.toNat+e.toNat+d.toNat+c.toNat+b.toNat+a.toNat<=4:=by decide +kernel
def NA:∀i∈List.range 7,∀Q∈Oi 6 5,Q.map (Q1 i)∈Oi 7 5:=by decide +kernel
def HG:∀i∈List.range 7,∀j∈List.range 7,i≠j->((List.range 7).filter λk=>!(k==i || k==j))∈Oi 7 5:=by decide +kernel
def Mq{e d c b a p o g3 n m l k j i f:Bool}(A:e=true->p=true)(z:d=true->o=true)(y:c=true->g3=true)(p4:b=true->n=true)(w:a=true->m=true)(u:e=false->l=true)(t:d=false->k=true)(s:c=false->j=true)(r:b=false->i=true)(q:a=false->f=true)
  (g:p.toNat+o.toNat+g3.toNat+n.toNat+m.toNat<=3) (h:l.toNat+k.toNat+j.toNat+i.toNat+f.toNat<=3):D5 e d c b a=true:=by
 have k:∀{x g h:Bool},(x=true->g=true)->(x=false->h=true)->x.toNat<=g.toNat/\1<=x.toNat+h.toNat:=by simp_all
 have:=k A u;have:=k z t;have:=k y s;have:=k p4 r;have:=k w q;unfold D5
 lia
def h6(H:In5 P (sT (P i0))){S:yag}(a:S∈Oi 7 5)(h:∀i∈S,0<Ox p (sb (P i) (P i0))∨(Ox p (sb (P i) (P i0))=0/\0<Ox q (sb (P i) (P i0)))):False:=by
 have z:∀p:Sp,NX (gO (P i0) p) (sT (P i0))=0:=λp=>by rw[tM];unfold Ox sb;grind
 exact no5 (show(0:Int)<1 by decide) H (z p) (z q) a λi a=>by rw[tM,tM];exact h i a
def uZ{w:Sp}(h:w≠(0,0)):0<Ox w w:=by have:=sq_pos h;unfold Oz at this;unfold Ox;exact this
def zQ{d a b c:Nat}(l:d<7)(u:a<7)(r:b<7)(o:c<7)(ab:a≠b)(s:a≠c)(p:b≠c)(j:d≠a)(i:d≠b)(h:d≠c)(f:Vd P (P d) [a,b,c]){T:yag}(n:∀k∈T,k<7/\k≠d/\k≠a/\k≠b/\k≠c)(e:Vd P (P d) T):∃g∈TM [1,3,3],oC (g.map λG=>G.map P) (sT (P d)):=by
 obtain⟨B,C,m,t,q,k,c⟩:=M9 l u r o ab s p j i h;refine⟨_,m,show(0:Int)<1 by decide,λw a g b=>?_⟩;simp only[Pq,VF,Ov,RP,or_false]at a;rcases a with rfl|rfl|rfl;exact b (P d) (by simp);refine C9 f λi a=>b (P i) (Ol.mpr ⟨i,?_,rfl⟩)
 simp only[Ov,RP,or_false]at a;rcases a with rfl|rfl|rfl;exact t;exact q;exact k;exact C9 e λi a=>b (P i) (Ol.mpr ⟨i,by obtain⟨g,f,e,d,b⟩:=n i a;exact c i g f e d b,rfl⟩)
def Mf{T:yag}(h:Vd P o S)(s:∀i∈S,i∈T):Vd P o T:=λp q=>h p λi a=>q i (s i a)
def tvB{m:Nat}(M:m<7)(H:In5 P (sT (P m))):∃g∈TM [1,3,3],oC (g.map λG=>G.map P) (sT (P m)):=by
 by_cases z:∃j,j<7/\j≠m/\sb (P j) (P m)=(0,0);obtain⟨j,f,a,o⟩:=z;have d:=HG m (TG.mpr M) j (TG.mpr f) a.symm;have v:Vd P (P m) ((List.range 7).filter λk=>!(k==m || k==j)):=λp l=>h6 H (q:=p) d λi n=>.inl (l i n)
 obtain⟨a,u,b,B,c,I,w⟩:=Fp (λe=>by rw[e]at d;exact absurd (bM d).1 (by decide)) v;obtain⟨x,h,L⟩:=pig [m,j,a,b,c] (by simp);obtain⟨y,t,d⟩:=pig [m,j,a,b,c,x] (by simp);simp only[Ov,RP,or_false,not_or]at L d;simp only[WS,TG,Zn,zDA,Zj]at u B I;refine zQ M f h t (by lia) (by lia) (by lia) (by lia) (by lia) (by lia) (λp l=>?_) (λk E=>?_) w;have:=l j (by simp);rw[o]at this;unfold Ox at this;simp at this;simp only[Ov,RP,or_false]at E;rcases E with rfl|rfl|rfl<;>lia;have Q:∀j,j<7->j≠m->sb (P j) (P m)≠(0,0):=λj N r e=>z ⟨j,N,r,e⟩
 by_cases an:∃a o,a<7/\o<7/\a≠m/\o≠m/\tn (sb (P a) (P m)) (sb (P o) (P m))=0/\Ox (sb (P a) (P m)) (sb (P o) (P m))<0;obtain⟨a,o,d,C,s,J,A,dn⟩:=an;have Y:=uZ (Q a d s);have ao:a≠o:=λe=>by subst e;lia
 have f:∀p,Ox (sb (P a) (P m)) (sb (P a) (P m))*Ox p (sb (P o) (P m))=Ox (sb (P a) (P m)) (sb (P o) (P m))*Ox p (sb (P a) (P m)):=λp=>by unfold Ox tn at *;grind
 have T:∀p,0<Ox p (sb (P a) (P m))∨0<Ox p (sb (P o) (P m))∨Ox p (sb (P a) (P m))=0:=λp=>by
  by_cases q:Ox p (sb (P a) (P m))<0;have:=XG dn q;rw[<- f]at this;exact .inr (.inl (SE.mp λy=>by have:=PV (PK Y) (show 0<=- Ox p (sb (P o) (P m))by lia);rw[Int.mul_neg]at this;lia))
  lia
 have v4:Vd P (P m) ((List.range 7).filter λk=>!(k==m || k==a || k==o)):=λp l=>by
  have O:∀x y,x<7->y<7->((x=a/\y=o)∨(x=o/\y=a))->¬(0<Ox p (sb (P x) (P m))∨(Ox p (sb (P x) (P m))=0/\0<Ox (sb (P a) (P m)) (sb (P x) (P m)))):=λx y h t xy g=>h6 H (p:=p) (q:=sb (P a) (P m)) (HG m (TG.mpr M) y (TG.mpr t) (by lia)) λi n=>by
   simp only[WS,TG,Zn,zDA,Zj]at n;by_cases e:i=x;subst e;exact g;refine .inl (l i ?_);simp only[WS,TG,Zn,zDA,Zj]
   lia
  rcases T p with q|q|q;exact O a o d C (.inl ⟨rfl,rfl⟩) (.inl q);exact O o a C d (.inr ⟨rfl,rfl⟩) (.inl q);exact O a o d C (.inl ⟨rfl,rfl⟩) (.inr ⟨q,Y⟩)
 obtain⟨x0,g,t⟩:=pig [m,a,o] (by simp);simp only[Ov,RP,or_false,not_or]at t;obtain⟨T,N,O,r,t3,U,w⟩:=Fp (S:=(List.range 7).filter λk=>!(k==m || k==a || k==o)) (List.ne_nil_of_mem (a:=x0) (by simp[g,t])) v4;obtain⟨x,h,L⟩:=pig [m,a,o,T,O,t3] (by simp);simp only[Ov,RP,or_false,not_or]at L;simp only[WS,TG,Zn,zDA,Zj]at N r U;refine zQ M d C h ao (by lia) (by lia) (by lia) (by lia) (by lia) (λp l=>?_) (λk E=>?_) w;have h:=l a (by simp);have g:=l o (by simp);have:=f p;have:=TH Y g;have:=UD dn h
 lia
 simp only[Ov,RP,or_false]at E;rcases E with rfl|rfl|rfl<;>lia;have same:∀a o,a<7->o<7->a≠m->o≠m->tn (sb (P a) (P m)) (sb (P o) (P m))=0->0<Ox (sb (P a) (P m)) (sb (P o) (P m)):=λa o d C s J A=>by
  have n1:¬Ox (sb (P a) (P m)) (sb (P o) (P m))<0:=λq=>an ⟨a,o,d,C,s,J,A,q⟩
  have f:=uZ (Q a d s);have d:=uZ (Q o C J);have:=TH f d;refine SE.mp λq=>?_
  have d:Ox (sb (P a) (P m)) (sb (P o) (P m))=0:=by lia
  have e:Ox (sb (P a) (P m)) (sb (P a) (P m))*Ox (sb (P o) (P m)) (sb (P o) (P m))=Ox (sb (P a) (P m)) (sb (P o) (P m))*Ox (sb (P a) (P m)) (sb (P o) (P m))+tn (sb (P a) (P m)) (sb (P o) (P m))*tn (sb (P a) (P m)) (sb (P o) (P m)):=by unfold Ox tn;grind
  rw[d,A]at e
  lia
 have C:∀k,k<6->Q1 m k<7/\Q1 m k≠m:=λk E=>by unfold Q1;split<;>lia
 have J:∀j k,j≠k->Q1 m j≠Q1 m k:=λj k h=>by unfold Q1;split<;>split<;>lia
 obtain⟨w,o⟩:∃w:Nat->Sp,w=λk=>sb (P (Q1 m k)) (P m):=⟨_,rfl⟩
 have f:∀a b,a<6->b<6->tn (w a) (w b)=0->0<Ox (w a) (w b):=λa b u B=>by rw[o];exact same _ _ (C a u).1 (C b B).1 (C a u).2 (C b B).2
 have cnt:∀p q:Sp,(decide (0<Ox p (w 0)∨(Ox p (w 0)=0/\0<Ox q (w 0)))).toNat+(decide (0<Ox p (w 1)∨(Ox p (w 1)=0/\0<Ox q (w 1)))).toNat+(decide (0<Ox p (w 2)∨(Ox p (w 2)=0/\0<Ox q (w 2)))).toNat+(decide (0<Ox p (w 3)∨(Ox p (w 3)=0/\0<Ox q (w 3)))).toNat+(decide (0<Ox p (w 4)∨(Ox p (w 4)=0/\0<Ox q (w 4)))).toNat+(decide (0<Ox p (w 5)∨(Ox p (w 5)=0/\0<Ox q (w 5)))).toNat<=4:=λp q=>by
  refine Nf _ _ _ _ _ _ λQ d h=>h6 H (p:=p) (q:=q) (NA m (TG.mpr M) Q d) λi n=>?_
  obtain⟨k,E,rfl⟩:=Ol.mp n;have k6:=(bM d).2 k E;have:=h k E;rw[o]at this;rcases k with _|_|_|_|_|_|k
  all_goals first|exact VA this|lia
 obtain⟨A,d⟩:∃A:Nat->Nat->Bool,A=λa b=>if a<b then decide (0<=tn (w a) (w b))else !decide (0<=tn (w b) (w a)):=⟨_,rfl⟩
 have i:∀a b,A a b=true->0<=tn (w a) (w b)/\(tn (w a) (w b)=0->a<b):=λa b h=>by
  have:=cA (w a) (w b);rw[d]at h;dsimp only at h;split at h;exact⟨VA h,λ_=>by assumption⟩;have:=of_decide_eq_false (Zn _ ▸ h)
  lia
 have j:∀a b,a≠b->A a b=false->tn (w a) (w b)<=0:=λa b n h=>by have:=cA (w a) (w b);rw[d]at h;dsimp only at h;split at h;have:=of_decide_eq_false h;lia;have:=VA (Bool.not_eq_false' _ ▸ h);lia
 have g:∀a b,a<b->A b a=!A a b:=λa b h=>by rw[d];simp only[h,if_true,show¬b<a by lia,if_false]
 have q:∀a b,a<6->b<6->A a b=true->decide (0<Ox (-(w a).2,(w a).1) (w b)∨(Ox (-(w a).2,(w a).1) (w b)=0/\0<Ox (w a) (w b)))=true:=λa b u B h=>UK (by
  have e:Ox (-(w a).2,(w a).1) (w b)=tn (w a) (w b):=by unfold Ox tn;grind
  rw[e];have:=i a b h;have:=f a b u B
  lia)
 have s:∀a b,a<6->b<6->a≠b->A a b=false->decide (0<Ox ((w a).2,-(w a).1) (w b)∨(Ox ((w a).2,-(w a).1) (w b)=0/\0<Ox (w a) (w b)))=true:=λa b u B n h=>UK (by
  have e:Ox ((w a).2,-(w a).1) (w b)=- tn (w a) (w b):=by unfold Ox tn;grind
  rw[e];have:=j a b n h;have:=f a b u B
  lia)
 have s1:∀a,a<6->decide (0<Ox (-(w a).2,(w a).1) (w a)∨(Ox (-(w a).2,(w a).1) (w a)=0/\0<Ox (w a) (w a)))=true/\decide (0<Ox ((w a).2,-(w a).1) (w a)∨(Ox ((w a).2,-(w a).1) (w a)=0/\0<Ox (w a) (w a)))=true:=λa u=>by
  have t:tn (w a) (w a)=0:=by unfold tn;grind
  have j:Ox (-(w a).2,(w a).1) (w a)=0:=by unfold Ox;grind
  have d:Ox ((w a).2,-(w a).1) (w a)=0:=by unfold Ox;grind
  have:=f a a u u t;exact⟨UK (.inr ⟨j,this⟩),UK (.inr ⟨d,this⟩)⟩
 have j:∀a b c d e f,a<6->b<6->c<6->d<6->e<6->f<6->a≠b->a≠c->a≠d->a≠e->a≠f->(∀G:Nat->Nat,G 0+G 1+G 2+G 3+G 4+G 5=G a+(G b+G c+G d+G e+G f))->D5 (A a b) (A a c) (A a d) (A a e) (A a f)=true:=λa b c d e f u B I H he hf n1 n2 n3 n4 n5 su=>by have Y:=cnt (-(w a).2,(w a).1) (w a);have Q:=cnt ((w a).2,-(w a).1) (w a);rw[su λk=>(decide (0<Ox (-(w a).2,(w a).1) (w k)∨(Ox (-(w a).2,(w a).1) (w k)=0/\0<Ox (w a) (w k)))).toNat,(s1 a u).1]at Y;rw[su λk=>(decide (0<Ox ((w a).2,-(w a).1) (w k)∨(Ox ((w a).2,-(w a).1) (w k)=0/\0<Ox (w a) (w k)))).toNat,(s1 a u).2]at Q;exact Mq (q a b u B) (q a c u I) (q a d u H) (q a e u he) (q a f u hf) (s a b u B n1) (s a c u I n2) (s a d u H n3) (s a e u he n4) (s a f u hf n5) (by have:true.toNat=1:=rfl;lia) (by have:true.toNat=1:=rfl;lia)
 have t:=NM (A 0 1) (A 0 2) (A 0 3) (A 0 4) (A 0 5) (j 0 1 2 3 4 5 (by decide) (by decide) (by decide) (by decide) (by decide) (by decide) (by decide) (by decide) (by decide) (by decide) (by decide) λG=>by lia)
  (A 1 2) (A 1 3) (A 1 4) (A 1 5) (by rw[<- g 0 1 (by decide)];exact j 1 0 2 3 4 5 (by decide) (by decide) (by decide) (by decide) (by decide) (by decide) (by decide) (by decide) (by decide) (by decide) (by decide) λG=>by lia)
  (A 2 3) (A 2 4) (A 2 5) (by rw[<- g 0 2 (by decide),<- g 1 2 (by decide)];exact j 2 0 1 3 4 5 (by decide) (by decide) (by decide) (by decide) (by decide) (by decide) (by decide) (by decide) (by decide) (by decide) (by decide) λG=>by lia)
  (A 3 4) (A 3 5) (by rw[<- g 0 3 (by decide),<- g 1 3 (by decide),<- g 2 3 (by decide)];exact j 3 0 1 2 4 5 (by decide) (by decide) (by decide) (by decide) (by decide) (by decide) (by decide) (by decide) (by decide) (by decide) (by decide) λG=>by lia)
  (A 4 5) (by rw[<- g 0 4 (by decide),<- g 1 4 (by decide),<- g 2 4 (by decide),<- g 3 4 (by decide)];exact j 4 0 1 2 3 5 (by decide) (by decide) (by decide) (by decide) (by decide) (by decide) (by decide) (by decide) (by decide) (by decide) (by decide) λG=>by lia)
  (by rw[<- g 0 5 (by decide),<- g 1 5 (by decide),<- g 2 5 (by decide),<- g 3 5 (by decide),<- g 4 5 (by decide)];exact j 5 0 1 2 3 4 (by decide) (by decide) (by decide) (by decide) (by decide) (by decide) (by decide) (by decide) (by decide) (by decide) (by decide) λG=>by lia)
 obtain⟨s,q,t⟩:=List.any_eq_true.mp t;obtain⟨T,O⟩:=Bool.and_eq_true_iff.mp t;have j:∀a b,a<6->b<6->a≠b->tb [A 0 1,A 0 2,A 0 3,A 0 4,A 0 5,A 1 2,A 1 3,A 1 4,A 1 5,A 2 3,A 2 4,A 2 5,A 3 4,A 3 5,A 4 5] a b=A a b:=λa b u B n=>by
  rcases a with _|_|_|_|_|_|a<;>rcases b with _|_|_|_|_|_|b
  all_goals first|lia|rfl|exact Eq.symm ((g _ _ (by lia)).trans rfl)|(refine Eq.symm ((g _ _ ?_).trans ?_);lia;rfl)
 have g:∀a b c,a<6->b<6->c<6->A a b=true->A b c=true->A c a=true->Vd P (P m) [Q1 m a,Q1 m b,Q1 m c]:=λa b c u B I N r U p l=>by
  obtain⟨a1,a2⟩:=i a b N;obtain⟨G,t⟩:=i b c r;obtain⟨Y,Q⟩:=i c a U;have r:0<Ox p (w a):=by rw[o];exact l _ (by simp)
  have n:0<Ox p (w b):=by rw[o];exact l _ (by simp)
  have i:0<Ox p (w c):=by rw[o];exact l _ (by simp)
  have e:tn (w b) (w c)*Ox p (w a)+tn (w c) (w a)*Ox p (w b)+tn (w a) (w b)*Ox p (w c)=0:=by unfold tn Ox;grind
  have m1:=PV G (PK r);have m2:=PV Y (PK n);have m3:=PV a1 (PK i);have z1:=t ((Sz.mp (show tn (w b) (w c)*Ox p (w a)=0 by lia)).resolve_right (by lia));have z2:=Q ((Sz.mp (show tn (w c) (w a)*Ox p (w b)=0 by lia)).resolve_right (by lia));have z3:=a2 ((Sz.mp (show tn (w a) (w b)*Ox p (w c)=0 by lia)).resolve_right (by lia))
  lia
 have i:∀l:yag,(∀k∈l,k<6)->l.Nodup->cy (tb [A 0 1,A 0 2,A 0 3,A 0 4,A 0 5,A 1 2,A 1 3,A 1 4,A 1 5,A 2 3,A 2 4,A 2 5,A 3 4,A 3 5,A 4 5]) l=true->∃a b c,l=[a,b,c]/\Vd P (P m) [Q1 m a,Q1 m b,Q1 m c]:=λl h6 n h=>by
  rcases l with _|⟨a,_|⟨b,_|⟨c,_|⟨d,r⟩⟩⟩⟩;cases h;cases h;cases h;have u:=h6 a (by simp);have B:=h6 b (by simp);have I:=h6 c (by simp);simp only[UJ,Ov,RP,or_false,not_or]at n;refine⟨a,b,c,rfl,?_⟩;unfold cy at h;dsimp only at h;rw[j a b u B (by lia),j b c B I (by lia),j c a I u (by lia),j b a B u (by lia),j c b I B (by lia),j a c u I (by lia)]at h;simp only[Bool.or_eq_true,Yo]at h;rcases h with⟨⟨x,y⟩,z⟩| ⟨⟨x,y⟩,z⟩;exact g a b c u B I x y z;exact Mf (g a c b u I B z y x) (by simp);cases h
 obtain⟨a,b,c,rfl,j⟩:=i s (bM q).2 (y6 (mZ q)) T;obtain⟨d,e,f,l,h⟩:=i (off [a,b,c]) (λk E=>by unfold off at E;simp at E;exact E.1) (List.nodup_range.filter _) O;have r:=mZ q;simp only[Tc,Ov,RP,or_false]at r;have g:=(bM q).2;have u:=g a (by simp);have B:=g b (by simp);have I:=g c (by simp);have r1:=r.1 b (by simp);have r2:=r.1 c (by simp);have r3:=r.2.1 c (by simp);refine zQ M (C a u).1 (C b B).1 (C c I).1 (J a b (by lia)) (J a c (by lia)) (J b c (by lia)) (C a u).2.symm (C b B).2.symm (C c I).2.symm j (λk E=>?_) h;have H:∀x ∈ [d,e,f],x<6/\x≠a/\x≠b/\x≠c:=λx L=>by
  rw[<- l]at L;unfold off at L;simp at L
  lia
 have:∃x ∈ [d,e,f],k=Q1 m x:=by simp at E ⊢;exact E
 obtain⟨x,L,rfl⟩:=this;obtain⟨d,g,f,e⟩:=H x L;exact⟨(C x d).1,(C x d).2,J x a g,J x b f,J x c e⟩
def Hd{P:Nat->Sp}(b:∀i,i<7->WB 40 (P i)):∃g∈TM [1,3,3]++TM [2,2,3],∃X,oC (g.map λG=>G.map P) X:=by
 obtain⟨X,h,H,a⟩:=center b;rcases a with⟨i,a,rfl⟩| ⟨e,f,d,b,c,k,j⟩;obtain⟨g,m,C⟩:=tvB a H;exact⟨g,TF _ m,_,C⟩;by_cases n:∃i,i<7/\NX e (sT (P i))=0/\NX f (sT (P i))=0;obtain⟨i,a,p,o⟩:=n;obtain⟨g,m,C⟩:=tvB a λS l g f=>by have:=H S l g f;have e:=LL (z:=sT (P i)) c p o d b g;rw[show(sT (P i)).1=1 from rfl,Ud]at e;exact Uk.mp λq=>by have:=XF h q;lia
 exact⟨g,TF _ m,_,C⟩;obtain⟨g,m,C⟩:=tvA h H d b c k j λi a z=>n ⟨i,a,z.1,z.2⟩
 exact⟨g,RA _ m,_,C⟩
def sm(f:Nat->Int)(G:yag):Int:=(G.map f).sum
def mw(f:Nat->Int)(i:Nat)(G:yag):sm f (i::G)=f i+sm f G:=by unfold sm;simp_all
theorem CW(g:Tr)(c:Nat->Int)(P:Nat->Sp):∀G:yag,NX g (sm c G,sm (λi=>c i*(P i).1) G,sm (λi=>c i*(P i).2) G)=sm (λi=>c i*NX g (1,(P i).1,(P i).2)) G
 |[]=>by unfold NX sm;simp
 |i::G=>by have ih:=CW g c P G;unfold NX at ih ⊢;simp only[mw]at ih ⊢;rw[<- ih];grind
theorem xu{f:Nat->Int}:∀{G:yag},(∀i∈G,0<=f i)->0<=sm f G
 |[],_=>RZ _
 |i::G,h=>by rw[mw];have:=h i (by simp);have:=xu λj q=>h j (Pz _ q);lia
theorem CV{f:Nat->Int}{i:Nat}:∀{G:yag},(∀j∈G,0<=f j)->i∈G->f i<=sm f G
 |j::G,h,hi=>by
  rw[mw];have a:=xu λj q=>h j (Pz _ q)
  have b:=h j (by simp);rcases Ov.mp hi with rfl|hi
  lia
  have:=CV (λj q=>h j (Pz _ q)) hi;lia
theorem pR(f:Nat->Int):∀G:yag,sm (λi=>- f i) G=- sm f G
 |[]=>rfl
 |i::G=>by rw[mw,mw,pR f G];lia
def ki:List (List (yag)):=[[[0],[1,2,3]],[[1],[0,2,3]],[[2],[0,1,3]],[[3],[0,1,2]]]
def lK:List (List (yag)):=[[[0,1],[2,3]],[[0,2],[1,3]],[[0,3],[1,2]],[[1,2],[0,3]],[[1,3],[0,2]],[[2,3],[0,1]]]
def KN:∀g∈ki++lK,∃A B,g=[A,B]/\A ≠ []/\B ≠ []/\A.length<=3/\B.length<=3/\(∀i∈A++B,i<4)/\A.Pairwise (·<·)/\B.Pairwise (·<·)/\(∀i∈A,i∉B)/\(∀i,i<4->i∈A∨i∈B)/\∀f:Nat->Int,sm f A+sm f B=f 0+f 1+f 2+f 3:=by
 intro g a;simp only[ki,lK,UH,UZ,Ov,RP,or_false]at a;rcases a with rfl|rfl|rfl|rfl|rfl|rfl|rfl|rfl|rfl|rfl <;>
  exact⟨_,_,rfl,by decide,by decide,by decide,by decide,by decide,by decide,by decide,by decide,by decide,λf=>by simp[sm];lia⟩
def CS(w:Int):∃s,s ∈ [-1,0,(1:Int)]/\(0<=s->0<=w)/\(s<=0->w<=0)/\(0<w->s=1)/\(w<0->s=-1):=by
 rcases WQ w 0 with h|h|h;exact⟨-1,by decide,by lia,by lia,by lia,by lia⟩
 simp_all
 exact⟨1,by decide,by lia,by lia,by lia,by lia⟩
def G9:∀a ∈ [-1,0,(1:Int)],∀b ∈ [-1,0,(1:Int)],∀c ∈ [-1,0,(1:Int)],∀d ∈ [-1,0,(1:Int)],1 ∈ [a,b,c,d] -> -1 ∈ [a,b,c,d] →
  ∃ g∈ki++lK,∃e ∈ [-1,(1:Int)],(∀i∈g.getD 0 [],0<=e*[a,b,c,d].getD i 0)/\∀i∈g.getD 1 [],e*[a,b,c,d].getD i 0<=0:=by decide +kernel
def CT{e s w:Int}(a:e=-1∨e=1)(p:0<=s->0<=w)(q:s<=0->w<=0):(0<=e*s->0<=e*w)/\(e*s<=0->e*w<=0):=by
 rcases a with rfl|rfl;exact⟨λh=>by have:=q (by lia);lia,λh=>by have:=p (by lia);lia⟩;exact⟨λh=>by have:=p (by lia);lia,λh=>by have:=q (by lia);lia⟩
def KI(c k h e:Sp):∃j i g f:Int,(0<j∨0<i∨0<g∨0<f)/\j+i+g+f=0/\j*c.1+i*k.1+g*h.1+f*e.1=0/\j*c.2+i*k.2+g*h.2+f*e.2=0:=by
 have o:∃j i g f:Int,(j≠0∨i≠0∨g≠0∨f≠0)/\j+i+g+f=0/\j*c.1+i*k.1+g*h.1+f*e.1=0/\j*c.2+i*k.2+g*h.2+f*e.2=0:=by obtain⟨b,a⟩:=c;obtain⟨d,c⟩:=k;obtain⟨l,k⟩:=h;obtain⟨n,m⟩:=e;by_cases h:(d - b)*(k - a) - (l - b)*(c - a)=0;by_cases e:b=d/\a=c;obtain⟨rfl,rfl⟩:=e;exact⟨1,-1,0,0,by omega,by omega,by omega,by omega⟩;refine⟨(d - l)*(b - d)+(c - k)*(a - c),(l - b)*(b - d)+(k - a)*(a - c),(b - d)*(b - d)+(a - c)*(a - c),0,.inr (.inr (.inl ?_)),by grind,by grind,by grind⟩;have:=sq_pos (t:=(b - d,a - c)) (by lia);unfold Oz at this;dsimp only at this;omega;exact⟨(l - d)*(m - c) - (n - d)*(k - c),-((l - b)*(m - a) - (n - b)*(k - a)),(d - b)*(m - a) - (n - b)*(c - a),-((d - b)*(k - a) - (l - b)*(c - a)),by simp_all,by grind,by grind,by grind⟩
 obtain⟨j,i,g,f,n,a,b,c⟩:=o;exact⟨j,i,g,f,by omega,a,b,c⟩
def MU(P:Nat->Sp):∃g∈ki++lK,∃X,oC (g.map λG=>G.map P) X:=by
 obtain⟨h,f,d,j,n,a,b,c⟩:=KI (P 0) (P 1) (P 2) (P 3);obtain⟨o,r,Y,O,r0,y⟩:=CS h;obtain⟨m,q,U,N,r1,x⟩:=CS f;obtain⟨l,p,T,M,r2,u⟩:=CS d;obtain⟨k,i,Q,L,r3,e⟩:=CS j;have s:1 ∈ [o,m,l,k]:=by simp;lia
 have t:-1 ∈ [o,m,l,k]:=by simp only[Ov,RP,or_false];by_cases G:h<0;exact .inl (y G).symm;by_cases E:f<0;exact .inr (.inl (x E).symm);by_cases C:d<0;exact .inr (.inr (.inl (u C).symm));exact .inr (.inr (.inr (e (by lia)).symm))
 obtain⟨g,I,e,J,h1,h2⟩:=G9 o r m q l p k i s t;obtain⟨A,B,rfl,_,_,_,_,H,_,_,_,X4,z⟩:=KN g I;obtain⟨w,p⟩:∃w:Nat->Int,w=λi=>e*[h,f,d,j].getD i 0:=⟨_,rfl⟩
 have t:w 0=e*h:=by rw[p];rfl
 have s:w 1=e*f:=by rw[p];rfl
 have r:w 2=e*d:=by rw[p];rfl
 have q:w 3=e*j:=by rw[p];rfl
 have sg:∀i,i<4->(0<=e*[o,m,l,k].getD i 0->0<=w i)/\(e*[o,m,l,k].getD i 0<=0->w i<=0):=λi hi=>by
  have k:e=-1∨e=1:=by simpa using J
  rcases i with _|_|_|_|i;rw[t];exact CT k Y O;rw[s];exact CT k U N;rw[r];exact CT k T M;rw[q];exact CT k Q L
  lia
 have m:∀i∈A,0<=w i:=λi hi=>(sg i (H i (by simp[hi]))).1 (h1 i hi)
 have l:∀i∈B,0<=- w i:=λi hi=>by have:=(sg i (H i (by simp[hi]))).2 (h2 i hi);lia
 have y:=z w;have x:=z λi=>w i*(P i).1
 have u:=z λi=>w i*(P i).2
 have G:sm w A+sm w B=0:=by rw[y,t,s,r,q,show e*h+e*f+e*d+e*j=e*(h+f+d+j)by grind,a,U2]
 have E:sm (λi=>w i*(P i).1) A+sm (λi=>w i*(P i).1) B=0:=by rw[x,t,s,r,q,show e*h*(P 0).1+e*f*(P 1).1+e*d*(P 2).1+e*j*(P 3).1=e*(h*(P 0).1+f*(P 1).1+d*(P 2).1+j*(P 3).1)by grind,b,U2]
 have C:sm (λi=>w i*(P i).2) A+sm (λi=>w i*(P i).2) B=0:=by rw[u,t,s,r,q,show e*h*(P 0).2+e*f*(P 1).2+e*d*(P 2).2+e*j*(P 3).2=e*(h*(P 0).2+f*(P 1).2+d*(P 2).2+j*(P 3).2)by grind,c,U2]
 clear p;refine⟨_,I,(sm w A,sm (λi=>w i*(P i).1) A,sm (λi=>w i*(P i).2) A),?_,λps b g a=>?_⟩;have k:e=-1∨e=1:=by simpa using J
 obtain⟨i,c,wi⟩:∃i,i<4/\w i≠0:=by
  rcases n with n|n|n|n;exact⟨0,by lia,by rw[t];rcases k with rfl|rfl<;>lia⟩;exact⟨1,by lia,by rw[s];rcases k with rfl|rfl<;>lia⟩;exact⟨2,by lia,by rw[r];rcases k with rfl|rfl<;>lia⟩;exact⟨3,by lia,by rw[q];rcases k with rfl|rfl<;>lia⟩
 show 0<sm w A;rcases X4 i c with hi|hi;have:=CV m hi;have:=m i hi
 lia
 have:=CV (f:=λi=>- w i) l hi;have:=l i hi;rw[pR]at *
 lia
 simp only[Pq,VF,Ov,RP,or_false]at b;rcases b with rfl|rfl;rw[CW];exact xu λi hi=>PV (m i hi) (a _ (Ol.mpr ⟨i,hi,rfl⟩))
 have e:NX g (sm w A,sm (λi=>w i*(P i).1) A,sm (λi=>w i*(P i).2) A)=sm (λi=>- w i*NX g (1,(P i).1,(P i).2)) B:=by
  rw[<- CW g (λi=>- w i) P B];have d:sm (λi=>- w i) B=- sm w B:=pR _ _;have c:sm (λi=>- w i*(P i).1) B=- sm (λi=>w i*(P i).1) B:=by rw[<- pR];congr 1;funext i;grind
  have b:sm (λi=>- w i*(P i).2) B=- sm (λi=>w i*(P i).2) B:=by rw[<- pR];congr 1;funext i;grind
  unfold NX;dsimp only;rw[d,c,b];grind
 rw[e];exact xu λi hi=>PV (l i hi) (a _ (Ol.mpr ⟨i,hi,rfl⟩))
def Q4(ps:yat)(g:List (yag)):yas:=g.map λG=>G.map λi=>ps.getD i (0,0)
def XB(ps:yat)(g:List (yag))(y:Tr):List (yag×yaf):=(g.zip ((Q4 ps g).map (Tu y))).map λz=>(z.2.1.map λk=>z.1.getD k 0,z.2.2)
def XC(qs:List (yag×yaf))(y:Tr):D:=.tup [.lst true (qs.map da),Oe y]
def Dt(ps:yat):List (List (yag))->Option (List (yag×yaf)×Tr)->Prop
 |[],r=>r=none
 |g::dl,r=>(∃y,HmR (Q4 ps g) (gN y ((Q4 ps g).map (Tu y)))/\r=some (XB ps g y,y))∨∃ a,HmR (Q4 ps g) (rE a)/\Dt ps dl r
def y8:gN y rs≠rE xs:=λh=>by simp[gN,rE]at h
def Ly(h:gN y rs=gN z xs):y=z:=by
 simp only[gN,D.tup.injEq,Z7]at h;have:=h.2.1;simp only[Oe,T3,D.tup.injEq,Z7,D.int.injEq,and_true]at this
 lia
theorem oX:∀{dl:List (List (yag))} {r:Option (List (yag×yaf)×Tr)},Dt ps dl r->(r=none->Dt ps dr s)->(∀x,r=some x->s=some x)->Dt ps (dl++dr) s
 |[],_,h,a,_=>a h
 |g::dl,_,h,a,b=>by
  rcases h with⟨y,h,rfl⟩| ⟨c,h,d⟩;exact .inl ⟨y,h,b _ rfl⟩;exact .inr ⟨c,h,oX d a b⟩
structure oE(n:Nat)(ps:yat)(qs:List (yag×yaf))(y:Tr):Prop where
 pr:Pr y
 cb:CB 40 y
 two:qs.length=n
 ok:∀q∈qs,oJ ps y q.1 q.2
 nd:(qs.flatMap (·.1)).Nodup
def yM{A:yag}{k:Nat}(h:k<A.length):A.getD k 0∈A:=by rw[Pg,OH h];exact RY h
def Lh{ps:yat}{A:yag}(I:oJ (A.map λi=>ps.getD i (0,0)) y a sh)(j:A.Pairwise (·<·))(g:∀i∈A,i<ps.length):oJ ps y (a.map λk=>A.getD k 0) sh:=by
 have c:∀k∈a,k<A.length:=λk d=>by have:=I.lt k d;rwa [N3]at this
 have e:(a.map λk=>A.getD k 0).map (λk=>ps.getD k (0,0))=a.map λk=>(A.map λi=>ps.getD i (0,0)).getD k (0,0):=by simp_all
 refine⟨by rw[N3];exact I.l0,by rw[N3];exact I.l3,by rw[N3];exact I.ls,Zp.mpr (I.rise.imp_of_mem fun {a b} i h l=>?_),λk d=>?_,I.pos,I.bd,I.one,by rw[e];exact I.x,by rw[e];exact I.y⟩;have f:=c a i;have e:=c b h;rw[Pg,OH f,Pg,OH e];exact Vi.mp j a b f e l;obtain⟨j,a,rfl⟩:=Ol.mp d;exact g _ (yM (c j a))
theorem qq:∀{g:List (yag)} {z:yag×(yag×yaf)},z∈g.zip ((Q4 ps g).map (Tu y))->z.1∈g/\z.2=Tu y (z.1.map λi=>ps.getD i (0,0))
 |G::g,z,h=>by
  rcases Ov.mp (show z∈(G,Tu y (G.map λi=>ps.getD i (0,0)))::g.zip ((Q4 ps g).map (Tu y))from h)with rfl|h
  simp_all
  have:=qq h;grind
def xo(M:xF (Q4 ps g) y ((Q4 ps g).map (Tu y))){z:yag×(yag×yaf)}(h:z∈g.zip ((Q4 ps g).map (Tu y))):oJ (z.1.map λi=>ps.getD i (0,0)) y z.2.1 z.2.2:=by
 obtain⟨a,c⟩:=qq h;obtain⟨i,b,e⟩:=Vl a;have a:i<(Q4 ps g).length:=by unfold Q4;simp_all
 have:=M.ok i a;have d:(Q4 ps g)[i]?=some (z.1.map λi=>ps.getD i (0,0)):=by unfold Q4;simp_all
 simp_all
theorem y9{b:Type}(f:b->yag)(G:b->yag):∀a:List b,(a.map G).flatten.Nodup->(∀z∈a,(f z).Nodup/\∀k∈f z,k∈G z)->(a.flatMap f).Nodup
 |[],_,_=>by simp
 |z::a,h,q=>by obtain⟨_,b,g⟩:=Zo.mp h;refine Zo.mpr ⟨(q z (by simp)).1,y9 f G a b λx c=>q x (by simp_all),λa e b d=>?_⟩;grind
def Za:List (List (yag)):=TM [1,3,3]++TM [2,2,3]
def Zb:List (List (yag)):=ki++lK
def uL(N n:Nat)(dl:List (List (yag))):Prop:=∀g∈dl,g.length=n/\(∀G∈g,G ≠ []/\G.length<=3/\(∀i∈G,i<N)/\G.Pairwise (·<·))/\g.flatten.Nodup
def yu:uL 7 3 Za:=by unfold uL;decide +kernel
def yt:uL 4 2 Zb:=by unfold uL;decide +kernel
def Cr(K:uL N n d0)(o:0<n)(m:n<=3){ps:yat}(q:N<=ps.length)(l:∀p∈ps,WB 40 p){g:List (yag)}(k:g∈d0):LsOk (Q4 ps g):=by
 obtain⟨d,a,_⟩:=K g k;have e:(Q4 ps g).length=n:=by unfold Q4;rw[N3,d]
 refine⟨by lia,.inl (by lia),λx h=>?_,λx h=>?_,λx h p f=>?_⟩<;>obtain⟨G,b,rfl⟩:=Ol.mp h
 ·rw[N3];exact zDL.mpr (a G b).1
 ·rw[N3];have:=(a G b).2.1;lia
 ·obtain⟨i,j,rfl⟩:=Ol.mp f;have c:i<ps.length:=by have:=(a G b).2.2.1 i j;lia
  rw[Pg,OH c];exact l _ (RY c)
theorem uY(K:uL N n d0)(f:0<n)(d:n<=3){ps:yat}(m:N<=ps.length)(l:∀p∈ps,WB 40 p):∀{dl:List (List (yag))} {r:Option (List (yag×yaf)×Tr)},(∀g∈dl,g∈d0)->(∃g∈dl,∃X,oC (Q4 ps g) X)->Dt ps dl r->∃qs y,r=some (qs,y)/\oE n ps qs y
 |[],_,_,⟨_,h,_⟩,_=>by cases h
 |g::dl,r,c,⟨s,b,X,C⟩,h=>by
  have L:=Cr K f d m l (c g RO);rcases h with⟨y,h,rfl⟩| ⟨a,h,r⟩;refine⟨_,_,rfl,?_⟩;rcases xn L h with⟨z,e,M,_⟩| ⟨a,e,_⟩;cases Ly e;obtain⟨a,i,p⟩:=K g (c _ RO);have q:(g.zip ((Q4 ps g).map (Tu y))).length=n:=by unfold Q4;rw[Yt,N3,N3,a,Nat.min_self]
  have j:∀z∈g.zip ((Q4 ps g).map (Tu y)),oJ ps y (z.2.1.map λk=>z.1.getD k 0) z.2.2:=λz a=>by have o:=i z.1 (qq a).1;exact Lh (xo M a) o.2.2.2 λi n=>by have:=o.2.2.1 i n;lia
  refine⟨M.pr,M.cb,by unfold XB;rw[N3];exact q,λq i=>?_,?_⟩;obtain⟨z,a,rfl⟩:=Ol.mp i;exact j z a;unfold XB;rw[List.flatMap_map];refine y9 _ (·.1) _ (by rw[show(g.zip ((Q4 ps g).map (Tu y))).map (·.1)=g from Yq (by unfold Q4;rw[N3,N3];lia)];exact p) λz a=>⟨y6 (j z a).rise,λk i=>?_⟩
  obtain⟨j,k,rfl⟩:=Ol.mp i;have:=(xo M a).lt j k;rw[N3]at this;exact yM this;exact absurd e y8;rcases Ov.mp b with rfl|b;rcases xn L h with⟨z,e,_⟩| ⟨t,e,B⟩;exact absurd e.symm y8;exact(LB B C).elim;exact uY K f d m l (λg q=>c g (Pz _ q)) ⟨s,b,X,C⟩ r
def yx{ps:yat}(b:7<=ps.length)(a:∀p∈ps,WB 40 p)(h:Dt ps Za r):∃qs y,r=some (qs,y)/\oE 3 ps qs y :=
 uY yu (by decide) (by decide) b a (λ_ q=>q) (Hd λi c=>by rw[Pg,OH (show i<ps.length by lia)];exact a _ (RY _)) h
def yw{ps:yat}(b:4<=ps.length)(a:∀p∈ps,WB 40 p)(h:Dt ps Zb r):∃qs y,r=some (qs,y)/\oE 2 ps qs y :=
 uY yt (by decide) (by decide) b a (λ_ q=>q) (MU λi=>ps.getD i (0,0)) h
def Tv(g:List (yaf)):D:=.lst true (g.map λG=>.lst true (G.map D.int))
def Nn:∀ks ∈ [[1,3,3],[2,2,3]],R6 ks [0,1,2,3,4,5,6]=(TM ks).map λg=>g.map λG=>G.map λ(k:Nat)=>(k:Int):=by decide +kernel
def Mw:R6 [1,3] [0,1,2,3]=ki.map λg=>g.map λG=>G.map λ(k:Nat)=>(k:Int):=by decide +kernel
def Mx:R6 [2,2] [0,1,2,3]=lK.map λg=>g.map λG=>G.map λ(k:Nat)=>(k:Int):=by decide +kernel
theorem kj{a b:Type}{f:a->List b}{B:Nat}:∀{l:List a},(∀x∈l,(f x).length<=B)->(l.flatMap f).length<=l.length*B
 |[],_=>by simp
 |x::l,h=>by
  rw[Z9,QZ,Rl,Nat.succ_mul];have:=h x (by simp);have:=kj λy q=>h y (Pz _ q)
  lia
def cL(ns a:yaf):(cD ns a).length<=ns.length:=List.length_filter_le _ _
def xq{n k:Nat}(a:n<=7)(b:k<=3):(Oi n k).length<=35:=(by decide +kernel:∀n∈List.range 8,∀k∈List.range 4,(Oi n k).length<=35) n (by grind) k (by grind)
theorem dP:∀(ks:yag) (ns:yaf),ns.length<=7->(∀k∈ks,k<=3)->(R6 ks ns).length<=35 ^ ks.length
 |[],_,_,_=>by simp[R6]
 |k::ks,ns,c,d=>by
  have a:=kj (l:=Oi ns.length k) (f:=λb=>(R6 ks (cD ns (bD ns b))).map (bD ns b::·)) (B:=35 ^ ks.length) λb _=>by rw[N3];exact dP ks _ (Pe (cL _ _) c) λk q=>d k (Pz _ q)
  refine Pe a ?_;rw[Rl,VH,Nat.mul_comm];exact Nat.mul_le_mul_left _ (xq c (d k (by simp)))
theorem qy:∀{ks:yag} {ns:yaf} {o:List (yaf)},o∈R6 ks ns->o.length=ks.length
 |[],_,_,h=>by simp only[R6,QU]at h;subst h;rfl
 |k::ks,ns,o,h=>by obtain⟨b,_,h⟩:=Yr.mp h;obtain⟨x,a,rfl⟩:=Ol.mp h;rw[Rl,Rl,qy a]
def qP{a b:Type}{f:a->List b}{l:List a}{j:Nat}{x:a}(h:l[j]?=some x):(l.take (j+1)).flatMap f=(l.take j).flatMap f++f x:=by simp_all [WV,List.flatMap_append]
theorem qu(n:Int):∀a:yaf,(a.map D.int).any (λz=>eqD z (.int n))=a.contains n
 |[]=>rfl
 |g::a=>by rw[Pq,List.any_cons,qu n a,j5,List.contains_cons];congr 1;by_cases h:g=n;subst h;simp;rw[decide_eq_false h];exact(Zj.mpr (Ne.symm h)).symm
def oY:Option (List (yag×yaf)×Tr)->D
 |none=>.OD
 |some z=>XC z.1 z.2
def fdU(qs:List (yag×yaf))(y:Tr):D:=.tup [.lst false (qs.map fC),Oe y]
def zR(qs:List (yag×yaf))(y:Tr):aK (XC qs y)=fdU qs y:=by unfold XC fdU;rw[c6,bO,bO,cg,bu,kP];rfl
theorem Ab{d c:Type}(a:d->D)(b:c->D):∀(xs:List d) (ys:List c),List.zipWith (λx y=>D.tup [x,y]) (xs.map a) (ys.map b)=(xs.zip ys).map λz=>D.tup [a z.1,b z.2]
 |[],_=>rfl
 |_::_,[]=>rfl
 |x::xs,y::ys=>by simp_all [Pq,Zg,Zm,Ab]
def yL(A:yag)(k:Nat):(A.map λ(k:Nat)=>(k:Int)).getD k 0=((A.getD k 0:Nat):Int):=by rw[Pg,Pg,Pw];cases A[k]?<;>rfl
def DI{a b:Type}{wi:DA}{js:yag}{te:DE}{Q:D->Prop}(xs:List a)(f:a->D)(g:b->D)(P:b->Prop)(c:∀R:yar->Prop,R (xs.map f)->wi ρ R)(hz:xs.length<=sizeLine)
  (e:∀x∈xs,∀K:D->Prop,(∀y,P y->K (g y))->te (some (.val (f x))::js.map (bF ρ)) K) (q:∀ys:List b,ys.length=xs.length->(∀y∈ys,P y)->Q (.lst true (ys.map g))):mL wi js rH te ρ Q:=by
 refine c _ ⟨by rw[N3];exact hz,λj a=>∃ys:List b,a=ys.map g/\ys.length=j/\∀y∈ys,P y,⟨[],rfl,rfl,by simp⟩,λj d a b c=>?_,λa c=>?_⟩;rw[Pw]at b;cases ex:xs[j]? with
 |none=>rw[ex]at b;cases b
 |some x =>
  rw[ex]at b;cases b;obtain⟨ys,d,b,a⟩:=c;simp only[rH,if_true];refine e x (Qh ex) _ λy e=>⟨ys++[y],by rw[d,QE];rfl,by simp[b],λz hz=>?_⟩
  rcases PU.mp hz with w|w;exact a z w;rw[QU]at w;subst w;exact e
 obtain⟨ys,d,b,a⟩:=c;rw[d];exact q ys (by rw[b,N3]) a
def Nj{a:Type}(f:a->D)(xs:List a){m:Nat}(h:m+7<=xs.length):PD.cutD (xs.map f) (some (m:Int)) (some ((m:Int)+7))=((xs.drop m).take 7).map f:=by unfold PD.cutD;have b:HT.OU (xs.map f).length 0 (some (m:Int))=min m (xs.map f).length:=HT.vC _ _ m;have a:HT.OU (xs.map f).length (xs.map f).length (some ((m:Int)+7))=min (m+7) (xs.map f).length:=HT.vC _ _ (m+7);rw[b,a,N3,Nat.min_eq_left h,Nat.min_eq_left (show m<=xs.length by lia),Nat.add_sub_cancel_left,List.map_take,List.map_drop]
def Ew{a b:yau}:a.map Sm=b.map Sm↔a=b:=⟨IZ,λe=>by rw[e]⟩
def En{a b:yas}:a.map cI=b.map cI↔a=b:=⟨IV,λe=>by rw[e]⟩
def E8{a b:List (Nat×Int)}:a.map dZ=b.map dZ↔a=b:=⟨JI,λe=>by rw[e]⟩
def ET{a b:yat}:a.map O9=b.map O9↔a=b:=⟨Jp,λe=>by rw[e]⟩
def Fc{a b:yat}:a.map Od=b.map Od↔a=b:=⟨BJ,λe=>by rw[e]⟩
def Fg{a b:yav}:a.map Oe=b.map Oe↔a=b:=⟨JP,λe=>by rw[e]⟩
def EO:O9 a=O9 b↔a=b:=⟨Bu,λe=>by rw[e]⟩
def E9:Od a=Od b↔a=b:=⟨BI,λe=>by rw[e]⟩
def Eo{a b:yaf}:a.map D.int=b.map D.int↔a=b:=⟨Ar,by lia⟩
local macro_rules|`(tactic|z_go)=>do
 let l := ("T3 List.cons.injEq D.int.injEq D.tup.injEq D.lst.injEq and_true true_and and_imp Eo Ew En E8 ET Fc Fg EO E9".splitOn " ").toArray.map λs => Lean.mkIdent s.toName
 `(tactic| (apply propext; constructor; (intro h; repeat (first | (obtain ⟨e, h⟩ := h; revert e; simp only [$[$l:ident],*]; intros; subst_vars; assumption) | obtain ⟨_, h⟩ := h)); (intro q; repeat (first | exact ⟨rfl, q⟩ | apply Exists.intro))))
section
variable(κ:OY)(Q:D->Prop)(Ed:Value->Prop)
abbrev qN(n:Int):Prop:=Q (.int (sg n))
def vN(κ:OY):DSp:=λa Q Ed=>∃(n:Int),a=[.int n]/\qN Q n
def CZ (n:Int):vN κ [.int n] Q Ed=qN Q n:=by z_go
abbrev fN(a:Int)(b:Int):Prop:=Q (.int (Int.gcd a b:Int))
def fP(κ:OY):DSp:=λc Q Ed=>∃(a:Int) (b:Int),c=[.int a,.int b]/\fN Q a b
def nP (a:Int) (b:Int):fP κ [.int a,.int b] Q Ed=fN Q a b:=by z_go
abbrev jc(ns:yaf):Prop:=ns.length<100/\cc 0 ns≠0/\Bd 1000 (cc 0 ns)/\Q (.lst true ((dj ns).map D.int))
def jo(κ:OY):DSp:=λb Q Ed=>∃(a:yaf),b=[.lst false (a.map D.int)]/\jc Q a
def kM (ns:yaf):jo κ [.lst false (ns.map D.int)] Q Ed=jc Q ns:=by z_go
abbrev nu(n:Int)(s:Int):Prop:=∃m t:Nat,n=(m:Int)/\s=(t:Int)/\m<=1000/\t<=3/\m ^ t<=1000000/\Q (.lst true ((Oi m t).map QX))
def sI(κ:OY):DSp:=λa Q Ed=>∃(n:Int) (s:Int),a=[.int n,.int s]/\nu Q n s
def AG (n:Int) (s:Int):sI κ [.int n,.int s] Q Ed=nu Q n s:=by z_go
abbrev sk(g0 g1 g2:Int)(p0 p1 p2:Int):Prop:=Bd 1000 g0/\Bd 1000 g1/\Bd 1000 g2/\Bd 1000 p0/\Bd 1000 p1/\Bd 1000 p2/\Q (.int (g0*p0+g1*p1+g2*p2))
def sL(κ:OY):DSp:=λg Q Ed=>∃(f e d:Int) (c b a:Int),g=[T3 f e d,T3 c b a]/\sk Q f e d c b a
def AI (f e d:Int) (c b a:Int):sL κ [T3 f e d,T3 c b a] Q Ed=sk Q f e d c b a:=by z_go
abbrev j8(g0 g1 g2:Int)(p0 p1 p2:Int):Prop:=Bd 1000 g0/\Bd 1000 g1/\Bd 1000 g2/\Bd 1000 p0/\Bd 1000 p1/\Bd 1000 p2/\Q (.int (sg (g0*p0+g1*p1+g2*p2)))
def iQ(κ:OY):DSp:=λg Q Ed=>∃(f e d:Int) (c b a:Int),g=[T3 f e d,T3 c b a]/\j8 Q f e d c b a
def jZ (f e d:Int) (c b a:Int):iQ κ [T3 f e d,T3 c b a] Q Ed=j8 Q f e d c b a:=by z_go
abbrev jQ(a0 a1 a2:Int)(b0 b1 b2:Int):Prop:=Bd 200 a0/\Bd 200 a1/\Bd 200 a2/\Bd 200 b0/\Bd 200 b1/\Bd 200 b2/\Q (T3 (a1*b2 - b1*a2) (a2*b0 - b2*a0) (a0*b1 - b0*a1))
def jW(κ:OY):DSp:=λg Q Ed=>∃(f e d:Int) (c b a:Int),g=[T3 f e d,T3 c b a]/\jQ Q f e d c b a
def ot (a0 e d:Int) (c b a:Int):jW κ [T3 a0 e d,T3 c b a] Q Ed=jQ Q a0 e d c b a:=by z_go
abbrev k8(p0 p1 p2:Int)(w:Sp):Prop:=Bd 200 p0/\Bd 200 p1/\Bd 200 p2/\WB 200 w/\Q (T3 (-(w.1*p1+w.2*p2)) (w.1*p0) (w.2*p0))
def cZ(κ:OY):DSp:=λd Q Ed=>∃(c b a:Int) (w:Sp),d=[T3 c b a,Od w]/\k8 Q c b a w
def qe (c b a:Int) (w:Sp):cZ κ [T3 c b a,Od w] Q Ed=k8 Q c b a w:=by z_go
abbrev iW(d:D):Prop:=∃p:Sp,d=Od p/\Q (O9 p)
def lW(κ:OY):DSp:=λa Q Ed=>∃(d:D),a=[d]/\iW Q d
def vM (d:D):lW κ [d] Q Ed=iW Q d:=by z_go
abbrev nE(a0 a1 a2:Int)(b0 b1 b2:Int)(c0 c1 c2:Int):Prop:=Bd 1000 a0/\Bd 1000 a1/\Bd 1000 a2/\Bd 1000 b0/\Bd 1000 b1/\Bd 1000 b2/\Bd 1000 c0/\Bd 1000 c1/\Bd 1000 c2/\Q (.int (sw a0 a1 a2 b0 b1 b2 c0 c1 c2))
def nV(κ:OY):DSp:=λj Q Ed=>∃(i h g:Int) (f e d:Int) (c b a:Int),j=[T3 i h g,T3 f e d,T3 c b a]/\nE Q i h g f e d c b a
def rA (a0 h g:Int) (f e d:Int) (c b a:Int):nV κ [T3 a0 h g,T3 f e d,T3 c b a] Q Ed=nE Q a0 h g f e d c b a:=by z_go
abbrev kC(a0 a1 a2:Int)(b0 b1 b2:Int):Prop:=Bd 200 a0/\Bd 200 a1/\Bd 200 a2/\Bd 200 b0/\Bd 200 b1/\Bd 200 b2/\Q (.tup [.int (a0*b1 - b0*a1),.int (a0*b2 - b0*a2)])
def kJ(κ:OY):DSp:=λg Q Ed=>∃(f e d:Int) (c b a:Int),g=[T3 f e d,T3 c b a]/\kC Q f e d c b a
def lQ (a0 e d:Int) (c b a:Int):kJ κ [T3 a0 e d,T3 c b a] Q Ed=kC Q a0 e d c b a:=by z_go
abbrev vB(a:Sp)(b:Sp):Prop:=WB 400 a/\WB 400 b/\Q (.int (tn a b))
def vP(κ:OY):DSp:=λc Q Ed=>∃(a:Sp) (b:Sp),c=[Od a,Od b]/\vB Q a b
def C1 (a:Sp) (b:Sp):vP κ [Od a,Od b] Q Ed=vB Q a b:=by z_go
abbrev qM(w:Sp):Prop:=Q (Od (TV w))
def my(κ:OY):DSp:=λa Q Ed=>∃(w:Sp),a=[Od w]/\qM Q w
theorem uy (w:Sp):my κ [Od w] Q Ed=qM Q w:=by z_go
abbrev jR(w:Sp):Prop:=Q (Od (S8 w))
def jX(κ:OY):DSp:=λa Q Ed=>∃(w:Sp),a=[Od w]/\jR Q w
theorem ow (w:Sp):jX κ [Od w] Q Ed=jR Q w:=by z_go
abbrev nr(ps:yat):Prop:=ps.length<64/\(∀p∈ps,SB p)/\Q (.lst true ((bP [] ps).reverse.map O9))
def sG(κ:OY):DSp:=λb Q Ed=>∃(a:yat),b=[.lst false (a.map O9)]/\nr Q a
def rq (ps:yat):sG κ [.lst false (ps.map O9)] Q Ed=nr Q ps:=by z_go
abbrev j6(ps:yat):Prop:=ps.length<64/\(∀p∈ps,SB p)/\∀ys,cJ ys ps->ys.length<=ps.length->Q (.lst true ((aU ys).map O9))
def mD(κ:OY):DSp:=λb Q Ed=>∃(a:yat),b=[.lst false (a.map Od)]/\j6 Q a
def nQ (ps:yat):mD κ [.lst false (ps.map Od)] Q Ed=j6 Q ps:=by z_go
abbrev fG(a:Sp)(b:Sp):Prop:=SB a/\SB b/\Q (.lst true ((eN a b).map Oe))
def iR(κ:OY):DSp:=λc Q Ed=>∃(a:Sp) (b:Sp),c=[O9 a,O9 b]/\fG Q a b
def jL (a:Sp) (b:Sp):iR κ [O9 a,O9 b] Q Ed=fG Q a b:=by z_go
abbrev kT(hs:yat):Prop:=0<hs.length/\hs.length<200/\(∀p∈hs,SB p)/\Q (.lst true ((aJ hs).map Oe))
def pT(κ:OY):DSp:=λb Q Ed=>∃(a:yat),b=[.lst false (a.map O9)]/\kT Q a
def pU (hs:yat):pT κ [.lst false (hs.map O9)] Q Ed=kT Q hs:=by z_go
abbrev pG(w:Sp):Prop:=Q (.int (bG w))
def qi(κ:OY):DSp:=λa Q Ed=>∃(w:Sp),a=[Od w]/\pG Q w
def zO (w:Sp):qi κ [Od w] Q Ed=pG Q w:=by z_go
abbrev eA(a:Sp)(b:Sp):Prop:=WB 400 a/\WB 400 b/\Q (.bl (decide (tn a b=0/\Oz a b<0)))
def hU(κ:OY):DSp:=λc Q Ed=>∃(a:Sp) (b:Sp),c=[Od a,Od b]/\eA Q a b
def pS (a:Sp) (b:Sp):hU κ [Od a,Od b] Q Ed=eA Q a b:=by z_go
abbrev fM(a:Sp)(b:Sp):Prop:=WB 400 a/\WB 400 b/\Q (oL (lH a b))
def fO(κ:OY):DSp:=λc Q Ed=>∃(a:Sp) (b:Sp),c=[Od a,Od b]/\fM Q a b
def nO (a:Sp) (b:Sp):fO κ [Od a,Od b] Q Ed=fM Q a b:=by z_go
abbrev dX(a:Sp)(b:Sp)(e:Sp):Prop:=WB 400 a/\WB 400 b/\WB 400 e/\Q (oL (jy a b e))
def d5(κ:OY):DSp:=λc Q Ed=>∃(a:Sp) (b:Sp) (e:Sp),c=[Od a,Od b,Od e]/\dX Q a b e
def lR (a:Sp) (b:Sp) (e:Sp):d5 κ [Od a,Od b,Od e] Q Ed=dX Q a b e:=by z_go
abbrev gR(ws:yat):Prop:=0<ws.length/\ws.length<4/\(∀w∈ws,WB 400 w)/\Q (oL (dU ws))
def nN(κ:OY):DSp:=λb Q Ed=>∃(a:yat),b=[.lst false (a.map Od)]/\gR Q a
def jF (a:yat):nN κ [.lst false (a.map Od)] Q Ed=gR Q a:=by z_go
abbrev nC(x y z:Int)(l:Int):Prop:=¬(x=0/\y=0/\z=0)/\Bd 4000 x/\Bd 4000 y/\Bd 4000 z/\Q (T3 (x.fdiv (PM.Qf x y z l)) (y.fdiv (PM.Qf x y z l)) (z.fdiv (PM.Qf x y z l)))
def nU(κ:OY):DSp:=λa Q Ed=>∃(x y z:Int) (l:Int),a=[T3 x y z,.int l]/\nC Q x y z l
def xi (x y z:Int) (l:Int):nU κ [T3 x y z,.int l] Q Ed=nC Q x y z l:=by z_go
abbrev sj(b:Int)(x:Int)(y:Int):Prop:=b≠0/\Bd 4000 b/\Bd 4000 x/\Bd 4000 y/\Q (LS b x y)
def sJ(κ:OY):DSp:=λa Q Ed=>∃(b:Int) (x:Int) (y:Int),a=[.int b,.int x,.int y]/\sj Q b x y
def AH (b:Int) (x:Int) (y:Int):sJ κ [.int b,.int x,.int y] Q Ed=sj Q b x y:=by z_go
abbrev gS (ps:yat) (h0 h1 h2:Int):Prop:=0<ps.length/\ps.length<=30/\(∀p∈ps,SB p)/\PB 160 (h0,h1,h2)/\∃r,cq (ps.map (N9 (h0,h1,h2))) (cO ps.length)=some r/\Q (.tup [.str "in", QX r.1,.lst true (r.2.map D.int)])
def jY(κ:OY):DSp:=λe Q Ed=>∃(a:yat) (d c b:Int),e=[.lst false (a.map Od),T3 d c b]/\gS Q a d c b
def oz (ps:yat) (h0 b a:Int):jY κ [.lst false (ps.map Od),T3 h0 b a] Q Ed=gS Q ps h0 b a:=by z_go
abbrev dI(a0 a1 a2:Int)(b0 b1 b2:Int)(g0 g1 g2:Int):Prop:=Bd 200 a0/\Bd 200 a1/\Bd 200 a2/\Bd 200 b0/\Bd 200 b1/\Bd 200 b2/\Bd 200 g0/\Bd 200 g1/\Bd 200 g2/\(OJ (g0,g1,g2) (a0,a1,a2) (b0,b1,b2)).1≠0/\Q (Oe (cR (g0,g1,g2) (a0,a1,a2) (b0,b1,b2)))
def dJ(κ:OY):DSp:=λj Q Ed=>∃(i h g:Int) (f e d:Int) (c b a:Int),j=[T3 i h g,T3 f e d,T3 c b a]/\dI Q i h g f e d c b a
def iq (a0 h g:Int) (f e d:Int) (c b a:Int):dJ κ [T3 a0 h g,T3 f e d,T3 c b a] Q Ed=dI Q a0 h g f e d c b a:=by z_go
abbrev fE(cs:yav)(g0 g1 g2:Int):Prop:=cs.length<=300000/\(∀p∈cs,0<p.1/\CB 40 p)/\Bd 200 g0/\Bd 200 g1/\Bd 200 g2/\Q (.lst true ((fk (g0,g1,g2) cs).map Oe))
def hW(κ:OY):DSp:=λe Q Ed=>∃(d:yav) (c b a:Int),e=[.lst false (d.map Oe),T3 c b a]/\fE Q d c b a
def jG (cs:yav) (c b a:Int):hW κ [.lst false (cs.map Oe),T3 c b a] Q Ed=fE Q cs c b a:=by z_go
abbrev jb(cs:yav)(gs:yav):Prop:=0<gs.length/\gs.length<=1000/\(∀j,j<gs.length->(aX (gs.take j) cs).length<=300000/\∀p∈aX (gs.take j) cs,0<p.1/\CB 40 p)/\(∀g∈gs,Bd 200 g.1/\Bd 200 g.2.1/\Bd 200 g.2.2)/\Q (.lst true ((aX gs cs).map Oe))
def pV(κ:OY):DSp:=λc Q Ed=>∃(b:yav) (a:yav),c=[.lst false (b.map Oe),.lst false (a.map Oe)]/\jb Q b a
def pW (cs:yav) (a:yav):pV κ [.lst false (cs.map Oe),.lst false (a.map Oe)] Q Ed=jb Q cs a:=by z_go
abbrev eI(Ls:yas):Prop:=LsOk Ls/\∀yss,bT yss Ls->Q (.lst true ((aZ 0 yss).map Sm))
def ik(κ:OY):DSp:=λb Q Ed=>∃(a:yas),b=[.lst false (a.map cI)]/\eI Q a
def qj (Ls:yas):ik κ [.lst false (Ls.map cI)] Q Ed=eI Q Ls:=by z_go
abbrev dN(a0 a1 a2:Int)(b0 b1 b2:Int)(s:Int):Prop:=TB 990 (a0,a1,a2)/\TB 82 (b0,b1,b2)/\Bd 900 s/\Q (Oe (jx (a0,a1,a2) (b0,b1,b2) s))
def fZ(κ:OY):DSp:=λg Q Ed=>∃(f e d:Int) (c b a:Int) (s:Int),g=[T3 f e d,T3 c b a,.int s]/\dN Q f e d c b a s
def kO (a0 e d:Int) (c b a:Int) (s:Int):fZ κ [T3 a0 e d,T3 c b a,.int s] Q Ed=dN Q a0 e d c b a s:=by z_go
abbrev iy(cs:yav)(gs:yav):Prop:=gs.length<=1000/\(∀j,j<=gs.length->(aX (gs.take j) cs).length<=300000/\∀p∈aX (gs.take j) cs,0<p.1/\CB 40 p)/\(∀g∈gs,Bd 200 g.1/\Bd 200 g.2.1/\Bd 200 g.2.2)/\∃last:Nat,last<gs.length/\(∀j,j<=last->aX (gs.take j) cs ≠ [])/\aX (gs.take (last+1)) cs=[]/\Q (.int (last:Int))
def iM(κ:OY):DSp:=λc Q Ed=>∃(b:yav) (a:yav),c=[.lst false (b.map Oe),.lst false (a.map Oe)]/\iy Q b a
def qW (cs:yav) (a:yav):iM κ [.lst false (cs.map Oe),.lst false (a.map Oe)] Q Ed=iy Q cs a:=by z_go
abbrev iU(gs:yav)(ns:yaf)(sh:yaf):Prop:=∃pk:yag,ns=pk.map (λ(k:Nat)=>(k:Int))/\pk.length=sh.length/\pk.length<=3/\(∀k∈pk,k<gs.length)/\(∀g∈gs,Bd 200 g.1)/\(∀s∈sh,Bd 900 s)/\Q (.int (oR gs pk sh))
def lT(κ:OY):DSp:=λd Q Ed=>∃(c:yav) (b:yaf) (a:yaf),d=[.lst false (c.map Oe),.lst false (b.map D.int),.lst false (a.map D.int)]/\iU Q c b a
def mC (b:yav) (ns:yaf) (a:yaf):lT κ [.lst false (b.map Oe),.lst false (ns.map D.int),.lst false (a.map D.int)] Q Ed=iU Q b ns a:=by z_go
abbrev mq(cs:yav)(gs:yav):Prop:=gs.length<=1000/\(∀j,j<=gs.length->(aX (gs.take j) cs).length<=300000/\∀p∈aX (gs.take j) cs,0<p.1/\CB 40 p)/\(∀g∈gs,Bd 200 g.1/\Bd 200 g.2.1/\Bd 200 g.2.2)/\∃last:Nat,last<gs.length/\(∀j,j<=last->aX (gs.take j) cs ≠ [])/\aX (gs.take (last+1)) cs=[]/\∃r:yag×yaf,gK gs last (Oi last 1++Oi last 2)=some r/\Q (.lst true ((r.1.zip r.2).map dZ))
def vK(κ:OY):DSp:=λc Q Ed=>∃(b:yav) (a:yav),c=[.lst false (b.map Oe),.lst false (a.map Oe)]/\mq Q b a
def uz (cs:yav) (a:yav):vK κ [.lst false (cs.map Oe),.lst false (a.map Oe)] Q Ed=mq Q cs a:=by z_go
abbrev fQ(os:yau)(zs:List (Nat×Int)):Prop:=zs.length<=3/\(∀z∈zs,z.1<os.length/\Bd 900 z.2)/\(∀x∈os,TB 82 x.2)/\(∀n,∀x∈cf ((gC os zs).take n),TB (983+n) x.2)/\(∀n,(cf ((gC os zs).take n)).length<=n)/\((cf (gC os zs)).map (·.1)).Nodup/\∀ms:yaf,ms.Perm ((cf (gC os zs)).map (·.1))->ms.Pairwise (·<·)->Q (.lst true ((jA (cf (gC os zs)) ms).map Sm))
def lS(κ:OY):DSp:=λb Q Ed=>∃(os:yau) (a:List (Nat×Int)),b=[.lst false (os.map Sm),.lst false (a.map dZ)]/\fQ Q os a
def mB (os:yau) (a:List (Nat×Int)):lS κ [.lst false (os.map Sm),.lst false (a.map dZ)] Q Ed=fQ Q os a:=by z_go
abbrev cV(Ls:yas):Prop:=LsOk Ls/\∀d,HmR Ls d->Q d
def jH(κ:OY):DSp:=λb Q Ed=>∃(a:yas),b=[.lst false (a.map cI)]/\cV Q a
def gE (Ls:yas):jH κ [.lst false (Ls.map cI)] Q Ed=cV Q Ls:=by z_go
abbrev kD(a:Int):Prop:=Q (.bl true)
def kL(κ:OY):DSp:=λb Q Ed=>∃(a:Int),b=[.int a]/\kD Q a
def uA (a:Int):kL κ [.int a] Q Ed=kD Q a:=by z_go
abbrev iA(ns:yaf)(k:Int):Prop:=0<=k/\ns.length<=63/\∀v:Int,Q (.int v)
def iN(κ:OY):DSp:=λb Q Ed=>∃(a:yaf) (k:Int),b=[.lst false (a.map D.int),.int k]/\iA Q a k
def qX (ns:yaf) (k:Int):iN κ [.lst false (ns.map D.int),.int k] Q Ed=iA Q ns k:=by z_go
abbrev iB(a:Int)(b:Int):Prop:=Q (.int (Int.gcd a b:Int))
def iO(κ:OY):DSp:=λc Q Ed=>∃(a:Int) (b:Int),c=[.int a,.int b]/\iB Q a b
def qY (a:Int) (b:Int):iO κ [.int a,.int b] Q Ed=iB Q a b:=by z_go
abbrev eG(h0 h1 h2:Int):Prop:=Pr (h0,h1,h2)/\Q (.bl true)
def eK(κ:OY):DSp:=λd Q Ed=>∃(c b a:Int),d=[T3 c b a]/\eG Q c b a
def jk (h0 b a:Int):eK κ [T3 h0 b a] Q Ed=eG Q h0 b a:=by z_go
abbrev pF(ns:yaf)(d:D):Prop:=d=.tup []/\Q (.lst true [.lst true []])
def pX(κ:OY):DSp:=λb Q Ed=>∃(a:yaf) (d:D),b=[.lst false (a.map D.int),d]/\pF Q a d
def zI (ns:yaf) (d:D):pX κ [.lst false (ns.map D.int),d] Q Ed=pF Q ns d:=by z_go
abbrev kU(ns:yaf)(d:D):Prop:=∃k:Nat,d=.tup [.int (k:Int)]/\k<=3/\ns.length<=7/\Q (.lst true ((R6 [k] ns).map Tv))
def pY(κ:OY):DSp:=λb Q Ed=>∃(a:yaf) (d:D),b=[.lst false (a.map D.int),d]/\kU Q a d
def zJ (ns:yaf) (d:D):pY κ [.lst false (ns.map D.int),d] Q Ed=kU Q ns d:=by z_go
abbrev kW(ns:yaf)(d:D):Prop:=∃k i:Nat,d=.tup [.int (k:Int),.int (i:Int)]/\k<=3/\i<=3/\ns.length<=7/\Q (.lst true ((R6 [k,i] ns).map Tv))
def pZ(κ:OY):DSp:=λb Q Ed=>∃(a:yaf) (d:D),b=[.lst false (a.map D.int),d]/\kW Q a d
def zK (ns:yaf) (d:D):pZ κ [.lst false (ns.map D.int),d] Q Ed=kW Q ns d:=by z_go
abbrev kY(ns:yaf)(d:D):Prop:=∃k i l:Nat,d=.tup [.int (k:Int),.int (i:Int),.int (l:Int)]/\k<=3/\i<=3/\l<=3/\ns.length<=7/\Q (.lst true ((R6 [k,i,l] ns).map Tv))
def p6(κ:OY):DSp:=λb Q Ed=>∃(a:yaf) (d:D),b=[.lst false (a.map D.int),d]/\kY Q a d
def zL (ns:yaf) (d:D):p6 κ [.lst false (ns.map D.int),d] Q Ed=kY Q ns d:=by z_go
abbrev iX(ps:yat)(ks:yaf):Prop:=∃is:yag,ks=(is.map λ(k:Nat)=>(k:Int))/\(∀i∈is,i<ps.length)/\is.length<=30/\Q (kx (is.map λi=>ps.getD i (0,0)))
def lX(κ:OY):DSp:=λc Q Ed=>∃(a:yat) (b:yaf),c=[.lst false (a.map Od),.lst false (b.map D.int)]/\iX Q a b
def vO (ps:yat) (ks:yaf):lX κ [.lst false (ps.map Od),.lst false (ks.map D.int)] Q Ed=iX Q ps ks:=by z_go
abbrev fF(ks:yaf)(d:D):Prop:=∃(pk:yag) (x:D),d=.tup [.lst false (pk.map λ(k:Nat)=>D.int (k:Int)),x]/\pk.length<=30/\(∀k∈pk,k<ks.length)/\Q (.tup [.lst true ((pk.map λk=>ks.getD k 0).map D.int),x])
def nR(κ:OY):DSp:=λb Q Ed=>∃(a:yaf) (d:D),b=[.lst false (a.map D.int),d]/\fF Q a d
def jJ (ks:yaf) (d:D):nR κ [.lst false (ks.map D.int),d] Q Ed=fF Q ks d:=by z_go
abbrev kZ(ps:yat)(d:D):Prop:=∃k j:Nat,d=.tup [.int (k:Int),.int (j:Int)]/\((k=1/\j=3)∨(k=2/\j=2))/\4<=ps.length/\ps.length<=30/\(∀p∈ps,WB 40 p)/\∀r,Dt ps (if k=1 then ki else lK) r->Q (oY r)
def p9(κ:OY):DSp:=λb Q Ed=>∃(a:yat) (d:D),b=[.lst false (a.map Od),d]/\kZ Q a d
def zM (ps:yat) (d:D):p9 κ [.lst false (ps.map Od),d] Q Ed=kZ Q ps d:=by z_go
abbrev k7(ps:yat)(d:D):Prop:=∃k j l:Nat,d=.tup [.int (k:Int),.int (j:Int),.int (l:Int)]/\((k=1/\j=3/\l=3)∨(k=2/\j=2/\l=3))/\7<=ps.length/\ps.length<=30/\(∀p∈ps,WB 40 p)/\∀r,Dt ps (TM [k,j,l]) r->Q (oY r)
def qa(κ:OY):DSp:=λb Q Ed=>∃(a:yat) (d:D),b=[.lst false (a.map Od),d]/\k7 Q a d
def zN (ps:yat) (d:D):qa κ [.lst false (ps.map Od),d] Q Ed=k7 Q ps d:=by z_go
abbrev eB(ps:yat)(d:D):Prop:=d=.tup [.tup [.int 1,.int 3],.tup [.int 2,.int 2]]/\4<=ps.length/\ps.length<=30/\(∀p∈ps,WB 40 p)/\∀qs y,Dt ps Zb (some (qs,y))->oE 2 ps qs y->Q (XC qs y)
def ie(κ:OY):DSp:=λb Q Ed=>∃(a:yat) (d:D),b=[.lst false (a.map Od),d]/\eB Q a d
def qg (ps:yat) (d:D):ie κ [.lst false (ps.map Od),d] Q Ed=eB Q ps d:=by z_go
abbrev eE(ps:yat)(d:D):Prop:=d=.tup [.tup [.int 1,.int 3,.int 3],.tup [.int 2,.int 2,.int 3]]/\7<=ps.length/\ps.length<=30/\(∀p∈ps,WB 40 p)/\∀qs y,Dt ps Za (some (qs,y))->oE 3 ps qs y->Q (XC qs y)
def ig(κ:OY):DSp:=λb Q Ed=>∃(a:yat) (d:D),b=[.lst false (a.map Od),d]/\eE Q a d
def qh (ps:yat) (d:D):ig κ [.lst false (ps.map Od),d] Q Ed=eE Q ps d:=by z_go
abbrev dM(ps:yat):Prop:=ps.length<=30/\(∀p∈ps,WB 40 p)/\(ps.length<4->Ed (.ref κ.TooFew))/\(4<=ps.length->∀qs y,Dt ps Zb (some (qs,y))->oE 2 ps qs y->Q (XC qs y))
def jK(κ:OY):DSp:=λb Q Ed=>∃(a:yat),b=[.lst false (a.map Od)]/\dM κ Q Ed a
def kN (ps:yat):jK κ [.lst false (ps.map Od)] Q Ed=dM κ Q Ed ps:=by z_go
abbrev cX(ps:yat):Prop:=ps.length<=30/\(∀p∈ps,WB 40 p)/\(ps.length<7->Ed (.ref κ.TooFew))/\(7<=ps.length->∀qs y,Dt ps Za (some (qs,y))->oE 3 ps qs y->Q (XC qs y))
def ip(κ:OY):DSp:=λb Q Ed=>∃(a:yat),b=[.lst false (a.map Od)]/\cX κ Q Ed a
def jq (ps:yat):ip κ [.lst false (ps.map Od)] Q Ed=cX κ Q Ed ps:=by z_go
abbrev iV(ns:yaf)(a:Int)(d:D):Prop:=1<=ns.length/\ns.length<=3/\(∀n∈ns,a<=n)/\(d=.OD∨∃ m:Int,d=.int m/\∀n∈ns,n<m)/\Q (.bl true)
def lV(κ:OY):DSp:=λc Q Ed=>∃(b:yaf) (a:Int) (d:D),c=[.lst false (b.map D.int),.int a,d]/\iV Q b a d
def vL (ns:yaf) (a:Int) (d:D):lV κ [.lst false (ns.map D.int),.int a,d] Q Ed=iV Q ns a d:=by z_go
abbrev eY(d:D)(ps:yat)(h0 h1 h2:Int):Prop:=∃pk sh,d=fC (pk,sh)/\oJ ps (h0,h1,h2) pk sh/\ps.length<=30/\(∀p∈ps,WB 40 p)/\CB 40 (h0,h1,h2)/\Q (.bl true)
def ij(κ:OY):DSp:=λf Q Ed=>∃(d:D) (a:yat) (e c b:Int),f=[d,.lst false (a.map Od),T3 e c b]/\eY Q d a e c b
def lA (d:D) (ps:yat) (h0 b a:Int):ij κ [d,.lst false (ps.map Od),T3 h0 b a] Q Ed=eY Q d ps h0 b a:=by z_go
abbrev fY(c:Int)(m:Int):Prop:=0<=m/\m<1000/\∀xs:yaf,xs.length=m.toNat->(∀x∈xs,0<=x/\x<10000000000000)->Q (.lst true (xs.map D.int))
def jI(κ:OY):DSp:=λa Q Ed=>∃(c:Int) (m:Int),a=[.int c,.int m]/\fY Q c m
def sH (c:Int) (m:Int):jI κ [.int c,.int m] Q Ed=fY Q c m:=by z_go
abbrev dR(d:D)(ps:yat)(m:Int):Prop:=∃n:Nat,m=(n:Int)/\n<=3/\(∃qs y,d=fdU qs y/\oE n ps qs y)/\ps.length<=30/\(∀p∈ps,WB 40 p)/\Q (.bl true)
def lU(κ:OY):DSp:=λb Q Ed=>∃(d:D) (a:yat) (m:Int),b=[d,.lst false (a.map Od),.int m]/\dR Q d a m
def iP (d:D) (ps:yat) (m:Int):lU κ [d,.lst false (ps.map Od),.int m] Q Ed=dR Q d ps m:=by z_go
abbrev fR(k:Int)(n:Int)(w0 w1 w2:Int):Prop:=0<=n/\n<10000000000000/\Bd 8 w0/\Bd 8 w1/\Bd 8 w2/\∀p:Sp,WB 40 p->Q (Od p)
def i5(κ:OY):DSp:=λd Q Ed=>∃(k:Int) (n:Int) (c b a:Int),d=[.int k,.int n,T3 c b a]/\fR Q k n c b a
def mE (k:Int) (n:Int) (c b a:Int):i5 κ [.int k,.int n,T3 c b a] Q Ed=fR Q k n c b a:=by z_go
abbrev eZ(k:Int)(cs:yaf):Prop:=cs.length=7/\∀ps:yat,ps.length=7->(∀p∈ps,WB 40 p)->Q (.lst true (ps.map Od))
def kK(κ:OY):DSp:=λb Q Ed=>∃(k:Int) (a:yaf),b=[.int k,.lst false (a.map D.int)]/\eZ Q k a
def lB (k:Int) (cs:yaf):kK κ [.int k,.lst false (cs.map D.int)] Q Ed=eZ Q k cs:=by z_go
end
section
variable(P:Program)(w:World)(K:yac)(mg:yal)(base:Heap)(κ:OY)
abbrev J2:Prop:=O4 P w K mg base "sign" 1 ["number"] (vN κ)
abbrev kb:Prop:=O4 P w K mg base "common_divisor" 1 ["one", "other"] (fP κ)
abbrev xC:Prop:=O4 P w K mg base "lowest" 2 ["numbers"] (jo κ)
abbrev l9:Prop:=O4 P w K mg base "picks" 1 ["count", "size"] (sI κ)
abbrev AN:Prop:=O4 P w K mg base "value" 1 ["gauge", "place"] (sL κ)
abbrev J1:Prop:=O4 P w K mg base "side" 2 ["gauge", "place"] (iQ κ)
abbrev De:Prop:=O4 P w K mg base "crossed" 1 ["one", "other"] (jW κ)
abbrev FF:Prop:=O4 P w K mg base "facing" 1 ["place", "way"] (cZ κ)
abbrev sZ:Prop:=O4 P w K mg base "place_of" 1 ["spot"] (lW κ)
abbrev HS:Prop:=O4 P w K mg base "swing" 1 ["one", "two", "three"] (nV κ)
abbrev AM:Prop:=O4 P w K mg base "arrow" 1 ["one", "other"] (kJ κ)
abbrev Dj:Prop:=O4 P w K mg base "turn" 1 ["one", "other"] (vP κ)
abbrev JZ:Prop:=O4 P w K mg base "back" 1 ["way"] (my κ)
abbrev Dg:Prop:=O4 P w K mg base "left_of" 1 ["way"] (jX κ)
abbrev HQ:Prop:=O4 P w K mg base "chain" 2 ["places"] (sG κ)
abbrev Df:Prop:=O4 P w K mg base "hull" 3 ["spots"] (mD κ)
abbrev wZ:Prop:=O4 P w K mg base "thin_bounds" 2 ["one", "other"] (iR κ)
abbrev Fx:Prop:=O4 P w K mg base "bounds" 3 ["corners"] (pT κ)
abbrev xB:Prop:=O4 P w K mg base "length" 1 ["way"] (qi κ)
abbrev uM:Prop:=O4 P w K mg base "are_opposite" 2 ["one", "other"] (hU κ)
abbrev rD:Prop:=O4 P w K mg base "balance_of_two" 3 ["one", "other"] (fO κ)
abbrev oG:Prop:=O4 P w K mg base "balance_of_three" 3 ["one", "two", "three"] (d5 κ)
abbrev vV:Prop:=O4 P w K mg base "balance" 4 ["ways"] (nN κ)
abbrev Di:Prop:=O4 P w K mg base "reduced" 2 ["triple", "lead"] (nU κ)
abbrev HR:Prop:=O4 P w K mg base "place" 3 ["by", "x", "y"] (sJ κ)
abbrev Dh:Prop:=O4 P w K mg base "mixture" 5 ["spots", "place"] (jY κ)
abbrev sW:Prop:=O4 P w K mg base "place_between" 4 ["one", "other", "gauge"] (dJ κ)
abbrev vW:Prop:=O4 P w K mg base "clipped" 5 ["corners", "gauge"] (hW κ)
abbrev Fy:Prop:=O4 P w K mg base "common" 6 ["corners", "gauges"] (pV κ)
abbrev uQ:Prop:=O4 P w K mg base "owned_gauges" 4 ["lists"] (ik κ)
abbrev xE:Prop:=O4 P w K mg base "with_share" 1 ["gauge", "other", "share"] (fZ κ)
abbrev wW:Prop:=O4 P w K mg base "last_needed" 6 ["corners", "gauges"] (iM κ)
abbrev BV:Prop:=O4 P w K mg base "constant" 1 ["gauges", "numbers", "shares"] (lT κ)
abbrev J0:Prop:=O4 P w K mg base "bars" 7 ["corners", "gauges"] (vK κ)
abbrev BU:Prop:=O4 P w K mg base "bar_rows" 2 ["owned", "shares"] (lS κ)
abbrev oH:Prop:=O4 P w K mg base "hulls_meet" 8 ["lists"] (jH κ)
abbrev qZ:Prop:=O4 P w K mg base "_law_whole" 1 ["_law_found"] (kL κ)
abbrev wX:Prop:=O4 P w K mg base "_law_cell_at" 1 ["_law_script", "_law_k"] (iN κ)
abbrev wY:Prop:=O4 P w K mg base "_law_divisor" 1 ["_law_one", "_law_other"] (iO κ)
abbrev uP:Prop:=O4 P w K mg base "_law_is_place" 2 ["_law_found"] (eK κ)
abbrev Fz:Prop:=O4 P w K mg base "deals" 1 ["numbers", "sizes"] (pX κ)
abbrev FA:Prop:=O4 P w K mg base "deals" 2 ["numbers", "sizes"] (pY κ)
abbrev xA:Prop:=O4 P w K mg base "deals" 3 ["numbers", "sizes"] (pZ κ)
abbrev FC:Prop:=O4 P w K mg base "deals" 4 ["numbers", "sizes"] (p6 κ)
abbrev tj:Prop:=O4 P w K mg base "spots_at" 1 ["spots", "numbers"] (lX κ)
abbrev vX:Prop:=O4 P w K mg base "part_of" 1 ["group", "part"] (nR κ)
abbrev FD:Prop:=O4 P w K mg base "dealt" 9 ["spots", "sizes"] (p9 κ)
abbrev FE:Prop:=O4 P w K mg base "dealt" 9 ["spots", "sizes"] (qa κ)
abbrev uN:Prop:=O4 P w K mg base "first_dealt" 10 ["spots", "choices"] (ie κ)
abbrev uO:Prop:=O4 P w K mg base "first_dealt" 10 ["spots", "choices"] (ig κ)
abbrev xD:Prop:=O4 P w K mg base "two_groups" 11 ["spots"] (jK κ)
abbrev uR:Prop:=O4 P w K mg base "three_groups" 11 ["spots"] (ip κ)
abbrev BX:Prop:=O4 P w K mg base "_law_list" 2 ["_law_found", "_law_least", "_law_most"] (lV κ)
abbrev Ac:Prop:=O4 P w K mg base "_law_group" 3 ["_law_group_here", "_law_spots", "_law_spot_here"] (ij κ)
abbrev oI:Prop:=O4 P w K mg base "_law_stream" 1 ["_law_cell", "_law_many"] (jI κ)
abbrev BW:Prop:=O4 P w K mg base "_law_good" 4 ["_law_found", "_law_spots", "_law_many"] (lU κ)
abbrev BY:Prop:=O4 P w K mg base "_law_spot" 1 ["_law_kind", "_law_number", "_law_way"] (i5 κ)
abbrev Ae:Prop:=O4 P w K mg base "_law_seven" 2 ["_law_kind", "_law_cells"] (kK κ)
end
local macro_rules|`(tactic|fin2)=>`(tactic| (intro ds Q E h; repeat (first | (cases h.1; rfl) | refine Exists.elim h λ_ h => ?_)))
section
variable{P:Program}{w:World}{K:yac}{mg:yal}{base:Heap}{κ:OY}{f:Addr}{fd:FuncData}
def NG(x:Str)(N:yah)(d:D)(ds:yar):dA (x::N) (d::ds)=some (.val d)::dA N ds:=by unfold dA;simp
def NI(x:Str)(N:yah):dA (x::N) []=none::dA N []:=by unfold dA;simp[List.replicate_succ]
theorem NH:dA [] []=[]:=rfl
local macro_rules|`(tactic|x_go)=>do
 let l := ("NG NI NH".splitOn " ").toArray.map λs => Lean.mkIdent s.toName
 `(tactic| simp only [$[$l:ident],*])
local macro_rules|`(tactic|lk)=>do
 let l := ("Ks Ht F4 Kq Kl ZE dB Kj dOr Kn Ho Hu dIf yh dC tD Cd Kw F3 xl dCB dIs Kx Ky MX MY Bz kB LY L0 GC I0 GD j5 D3 D4 Ln Hs Ko AV AY Iw Iy rH K9 Le Ld List.map_cons List.map_nil Np fg Hf Fn Fo Fm c6 bu cg bO b6 GX se MA K0 Iu List.append_nil List.cons_append List.nil_append IQ IS LM IK IJ Ej II Cp Eh Ei Eg Ef true_and Nl Nm Ki JS Ee false_and and_false false_or or_false exists_false Hx Cf Hw JB JA Jz o9 Kk Kp Bool.false_eq_true Bool.true_eq_false if_false if_true decide_eq_true_eq Bool.not_eq_eq_eq_not Bool.not_true Bool.not_false decide_eq_false_iff_not ite_not Dl J5 Mt DN Km Kt Kr Ms tE dg Mr Ce K1 K3 JH Ml HW FK FN KA DJ DL Lo Ku List.set_cons_zero List.set_cons_succ AX MB CZ nP kM AG AI jZ ot qe vM rA lQ C1 uy ow rq nQ jL pU zO pS nO lR jF xi AH oz iq jG pW qj kO qW mC uz mB gE uA qX qY jk zI zJ zK zL vO jJ zM zN qg qh kN jq vL lA sH iP mE lB qN fN jc nu sk j8 jQ k8 iW nE kC vB qM jR nr j6 fG kT pG eA fM dX gR nC sj gS dI fE jb eI dN iy iU mq fQ cV kD iA iB eG pF kU kW kY iX fF kZ k7 eB eE dM cX iV eY fY dR fR eZ j1 nY fL nX nZ gG uG KD Mu Hr sN C6 zS C7 uE kP uD i6 A0 Hv Hq Kv DQ yf zT uF ye AZ AW".splitOn " ").toArray.map λs => Lean.mkIdent s.toName
 `(tactic| try simp only [YQ, Xk, at2, at3, $[$l:ident],*])
def Jf (F:ay K "sign" "sign" zC f fd) (C:O7 K mg κ)    : aI P w K mg base (CX1 P w) 1 f fd ["number"] (aL K (vN κ)):=by
 refine ay.okN F JF (by fin2) λ_ _ _ _ _ _ a=>⟨_,(ah (aT (aE ua (dv 0) ae) (ak (ax ae)) aG) (ah (aT (aE fB (dv 0) ae) (ak (ax (cF ae))) aG) (ak (ax ae)))),?_⟩
 rintro b Q Ed ⟨n,rfl,h⟩;x_go;unfold qN at h;lk;unfold sg at h
 lia
def qU (F:ay K "common_divisor" "common_divisor" gw f fd) (C:O7 K mg κ)   (a:mg "abs" = none):aI P w K mg base (CX1 P w) 1 f fd ["one", "other"] (aL K (fP κ)):=by
 refine ay.okN F de (by fin2) λ_ _ _ _ _ _ d=>⟨_,(ah (mR PassesOwn.never (aE ky (dv 1) ae) (ah (aH 2 de.nd (av bR (dv 0) (dv 1))) (ah (aH 0 de.nd (dv 1)) (ak (aH 1 de.nd (dv 2)))))) (ak (ax (aD oP (by rfl) a boot_abs (aa (dv 0) ag))))),?_⟩
 rintro e Q Ed ⟨a,b,rfl,h⟩;refine⟨λm c=>∃(x y:Int) (r:Option Sl),c=[some (.val (.int x)),some (.val (.int y)),r]/\Int.gcd x y=Int.gcd a b/\m=y.natAbs,⟨_,a,b,none,rfl,rfl,rfl⟩,?_⟩;rintro m c ⟨x,y,r,rfl,b,rfl⟩;lk;by_cases a:y=0
 simp_all
 rw[N2 a];exact⟨a,_,PM.wu x a,y,x.fmod y,_,rfl,(PM.yJ x y).trans b,rfl⟩
def EI (F:ay K "lowest" "lowest" nK f fd) (C:O7 K mg κ)  (b:kb P w K mg base κ)  : aI P w K mg base (CX1 P w) 2 f fd ["numbers"] (aL K (jo κ)):=by
 refine ay.okN F lh (by fin2) λ_ _ _ _ _ _ a=>⟨_,(ah (aH 1 lh.nd ae) (ah (bI PassesOwn.never rfl (aN (dv 0)) (aW 2 lh.nd) (ak (aH 1 lh.nd (au b a (aa (dv 1) (aa (dv 2) ag)))))) (ak (ax (bK (by rfl) (by exact aV (osc:=aq nK) (xs:=["number"]) (ns:=["divisor"]) (by decide +kernel)) (aM.cons 1 aM.nil) (aN (dv 0)) (λ_ _ _ _ _=>bE) (λ_ _ _ _ _=>(av cU (dv 0) (dv 1)))))))),?_⟩
 rintro i Q Ed ⟨ns,rfl,h⟩;x_go;obtain⟨g,c,d,h⟩:=h;lk;refine PD.bq ns D.int (λj b=>∃a:Option Sl,b=[some (.val (.lst false (ns.map D.int))),some (.val (.int (cc 0 (ns.take j)))),a]) (λR q=>?_) ⟨none,rfl⟩ ?_ ?_;lk;exact q;rintro j x e b ⟨a,rfl⟩;lk
 simp_all [WV,wy]
 rintro e ⟨a,rfl⟩;rw[Ub];lk;refine PD.comp_map ns D.int (λ_=>true) (λx=>.int (x.fdiv (cc 0 ns))) (λR q=>?_) (by rw[sizeLine_eq];lia) (λx b K a=>?_) (λx b _ K a=>?_) ?_;lk;exact q;exact a;exact⟨⟨c,d.mono (by decide)⟩,a⟩;rw[RN.mpr (λ_ _=>rfl)];unfold dj at h;rw[O3]at h;exact h
def GH (F:ay K "picks" "picks" qO f fd) (C:O7 K mg κ)   (a:mg "range" = none):aI P w K mg base (CX1 P w) 1 f fd ["count", "size"] (aL K (sI κ)):=by
 refine ay.okN F gA (by fin2) λ_ _ _ _ _ _ B=>⟨_,(ah (aH 2 gA.nd (bN (aa (bN ag) ag))) (ah (bI PassesOwn.never rfl (eV (by rfl) a (aa (dv 1) ag)) (aW 3 gA.nd) (ah (eU 4 gA.nd ag) (ah (bI PassesOwn.never rfl (aN (dv 2)) (aW 5 gA.nd) (ah (aH 6 gA.nd (rJ (aE ua (dv 3) ae) (av bg (ar (dv 5) (cF ae)) ae) ae)) (ak (i9 4 (bK (by rfl) (by exact aV (osc:=aq qO) (xs:=["number"]) (ns:=["pick"]) (by decide +kernel)) (aM.cons 5 aM.nil) (wz (by rfl) a (aa (dv 6) (aa (dv 0) ag))) (λ_ _ _ _ _=>bE) (λ_ _ _ _ _=>(av bg (dv 1) (bN (aa (dv 0) ag))))))))) (b9 4 (ak (aH 2 gA.nd (dv 4))))))) (ak (ax (dv 2))))),?_⟩
 rintro I Q Ed ⟨n,s,rfl,h⟩;x_go;unfold nu at h;obtain⟨m,t,rfl,rfl,E,A,a,h⟩:=h;have o:∀j,j<=t->m ^ j<=1000000:=λj b=>by
  rcases Nat.eq_zero_or_pos m with z|z;rw[z];rcases Nat.eq_zero_or_pos j with y|y;rw[y];decide;rw[Nat.zero_pow y];decide;exact Pe (WO z b) a
 lk;refine⟨QI _,by rw[sizeLine_eq];decide,?_⟩;refine PD.bq (List.range' 0 t) (λ(k:Nat)=>D.int (k:Int)) (λj a=>∃n i d c:Option Sl,a=[some (.val (.int m)),some (.val (.int t)),some (.val (.lst true ((Oi m j).map QX))),n,i,d,c]) (λR q=>?_) ⟨none,none,none,none,rfl⟩ ?_ ?_;lk;rw[si];exact⟨⟨by lia,by lia⟩,q⟩;rintro j x r e ⟨n,i,d,c,rfl⟩;obtain⟨b,g⟩:=Ql.mp e;rw[Tb]at b;rw[Yl]at g;have b:x=j:=by lia
 subst b;lk;refine⟨QI _,?_⟩;refine PD.Be (Oi m x) QX (λdone a=>∃d c:Option Sl,a=[some (.val (.int m)),some (.val (.int t)),some (.val (.lst true ((Oi m x).map QX))),some (.val (.int x)),some (.own ((done.flatMap (S7 m)).map QX)),d,c]) (λR q=>?_) ⟨_,_,rfl⟩ ?_ ?_;lk;exact q;rintro done a p e j ⟨d,c,rfl⟩;obtain⟨b,g⟩:=bM e;have G:dF a<=m:=by
  unfold dF;cases e:a.getLast? with
  |none=>exact QI _
  |some l=>have:=g l (List.mem_of_getLast? e);exact this
 have dl:done.length*m<=1000000:=Pe (XJ m (Pe (UL j) (ve m x))) (by rw[<- VH];exact o _ (by lia));have H:=yG m done;have u:(S7 m a).length<=1000:=by unfold S7;rw[N3,Tb];lia
 have rest:∀(v:D) (g:D->Prop),v=.int (dF a)->g (.lst true ((S7 m a).map QX))->mL (Cf (tD (lJ 6) (tD (lJ 0) Cd))) [5] rH (ZE xt (lJ 1) (F3 (tD (lJ 0) Cd))) [some (.val (.int m)),some (.val (.int t)),some (.val (.lst true ((Oi m x).map QX))),some (.val (.int x)),some (.own ((done.flatMap (S7 m)).map QX)),some (.val (QX a)),some (.val v)] g:=by
  rintro v g rfl j;refine PD.comp_map (List.range' (dF a) (m - dF a)) (λ(k:Nat)=>D.int (k:Int)) (λ_=>true) (λk=>QX (a++[k])) (λR q=>?_) (by rw[Tb,sizeLine_eq];lia) (λk l K g=>?_) (λk l _ K g=>?_) ?_;lk;rw[BC];exact⟨⟨by lia,by lia⟩,⟨by lia,by lia⟩,q⟩;lk;exact g;unfold QX at g ⊢;lk;rw[QE]at g;refine⟨ZG _,?_,g⟩;rw[N3,sizeLine_eq,b];show x+1<=_
  lia
  rw[RN.mpr (λ_ _=>rfl)];unfold S7 at j;rw[O3]at j;exact j
 have g:∀v:D,∃xs,D.lst true ((S7 m a).map QX)=D.lst true xs/\(List.map QX (List.flatMap (S7 m) done)).length+xs.length<=sizeLine/\∃d c:Option Sl,([some (Sl.val (D.int m)),some (Sl.val (D.int t)),some (Sl.val (D.lst true (List.map QX (Oi m x)))),some (Sl.val (D.int x)),some (Sl.own (List.map QX (List.flatMap (S7 m) done)++xs)),some (Sl.val (QX a)),some (Sl.val v)]:Ro)=[some (Sl.val (D.int m)),some (Sl.val (D.int t)),some (Sl.val (D.lst true (List.map QX (Oi m x)))),some (Sl.val (D.int x)),some (Sl.own (List.map QX (List.flatMap (S7 m) (done++[a])))),d,c]:=λv =>
  ⟨_,rfl,by rw[N3,N3,sizeLine_eq];lia,_,_,by rw[List.flatMap_append,QE,List.flatMap_singleton]⟩
 lk;by_cases j:x=0;subst j;have:a=[]:=Yf b;subst this;rw[N2 (by lia)];exact rest _ _ rfl (g _);rw[N4 (by lia)];have l:a ≠ []:=λe=>j (by rw[<- b,e];rfl)
 show vt (.lst true (a.map λ(k:Nat)=>D.int (k:Int))) _ _;rw[se];refine HY l ?_;rw[Dl];exact rest _ _ (by congr 1;lia) (g _);rintro p ⟨d,c,rfl⟩;lk;exact⟨_,_,_,_,rfl⟩;rintro r ⟨n,i,d,c,rfl⟩;lk;rw[Tb];exact h
def GK (F:ay K "value" "value" vH f fd) (C:O7 K mg κ)    : aI P w K mg base (CX1 P w) 1 f fd ["gauge", "place"] (aL K (sL κ)):=by
 refine ay.okN F G8 (by fin2) λ_ _ _ _ _ _ g=>⟨_,(ak (ax (av bg (av bg (av aF (ar (dv 0) ae) (ar (dv 1) ae)) (av aF (ar (dv 0) ae) (ar (dv 1) ae))) (av aF (ar (dv 0) ae) (ar (dv 1) ae))))),?_⟩
 rintro l Q Ed ⟨k,j,i,e,d,c,rfl,h⟩;x_go;have m:∀{x y:Int},Bd 1000 x->Bd 1000 y->CM x y:=λb a=>.inr (.inr ⟨b.mono (by decide),a.mono (by decide)⟩)
 lk
 simp_all
def Je (F:ay K "side" "side" zA f fd) (C:O7 K mg κ)  (b:J2 P w K mg base κ) (c:AN P w K mg base κ)  : aI P w K mg base (CX1 P w) 2 f fd ["gauge", "place"] (aL K (iQ κ)):=by
 refine ay.okN F JE (by fin2) λ_ _ _ _ _ _ a=>⟨_,(ak (ax (au b a (aa (au c a (aa (dv 0) (aa (dv 1) ag))) ag)))),?_⟩
 rintro l Q Ed ⟨k,j,i,g,e,d,rfl,h⟩;x_go;lk
 simp_all
def Cz (F:ay K "crossed" "crossed" pJ f fd) (C:O7 K mg κ)    : aI P w K mg base (CX1 P w) 1 f fd ["one", "other"] (aL K (jW κ)):=by
 refine ay.okN F CL (by fin2) λ_ _ _ _ _ _ l=>⟨_,(ak (ax (aQ (aa (av bL (av aF (ar (dv 0) ae) (ar (dv 1) ae)) (av aF (ar (dv 1) ae) (ar (dv 0) ae))) (aa (av bL (av aF (ar (dv 0) ae) (ar (dv 1) ae)) (av aF (ar (dv 1) ae) (ar (dv 0) ae))) (aa (av bL (av aF (ar (dv 0) ae) (ar (dv 1) ae)) (av aF (ar (dv 1) ae) (ar (dv 0) ae))) ag)))))),?_⟩
 rintro m Q Ed ⟨s,r,q,p,o,n,rfl,h⟩;x_go;obtain⟨i,g,e,d,c,b,h⟩:=h;have a:∀{x y:Int},Bd 200 x->Bd 200 y->CM x y:=λk j=>.inr (.inr ⟨k.mono (by decide),j.mono (by decide)⟩)
 lk;exact⟨a g b,a c e,a e d,a b i,a i c,a d g,Uh _ _ _,h⟩
def EG (F:ay K "facing" "facing" sA f fd) (C:O7 K mg κ)    : aI P w K mg base (CX1 P w) 1 f fd ["place", "way"] (aL K (cZ κ)):=by
 refine ay.okN F E5 (by fin2) λ_ _ _ _ _ _ j=>⟨_,(ak (ax (aQ (aa (cF (av bg (av aF (ar (dv 1) ae) (ar (dv 0) ae)) (av aF (ar (dv 1) ae) (ar (dv 0) ae)))) (aa (av aF (ar (dv 1) ae) (ar (dv 0) ae)) (aa (av aF (ar (dv 1) ae) (ar (dv 0) ae)) ag)))))),?_⟩
 rintro k Q Ed ⟨i,g,e,w,rfl,h⟩;x_go;obtain⟨b,d,c,a,h⟩:=h;unfold Od;lk;exact⟨Rz a.x d,Rz a.y c,Rz a.x b,Rz a.y b,Uh _ _ _,h⟩
def AA (F:ay K "place_of" "place_of" nL f fd) (C:O7 K mg κ)    : aI P w K mg base (CX1 P w) 1 f fd ["spot"] (aL K (lW κ)):=by
 refine ay.okN F AE (by fin2) λ_ _ _ _ _ _ a=>⟨_,(ak (ax (aQ (aa ae (aa (ar (dv 0) ae) (aa (ar (dv 0) ae) ag)))))),?_⟩
 rintro b Q Ed ⟨d,rfl,h⟩;x_go;unfold iW at h;obtain⟨p,rfl,q⟩:=h;unfold Od;lk;exact⟨Uh _ _ _,q⟩
def GJ (F:ay K "swing" "swing" vG f fd) (C:O7 K mg κ)    : aI P w K mg base (CX1 P w) 1 f fd ["one", "two", "three"] (aL K (nV κ)):=by
 refine ay.okN F G7 (by fin2) λ_ _ _ _ _ _ l=>⟨_,(ak (ax (av bg (av bg (av aF (ar (dv 0) ae) (av bL (av aF (ar (dv 1) ae) (ar (dv 2) ae)) (av aF (ar (dv 2) ae) (ar (dv 1) ae)))) (av aF (ar (dv 1) ae) (av bL (av aF (ar (dv 2) ae) (ar (dv 0) ae)) (av aF (ar (dv 0) ae) (ar (dv 2) ae))))) (av aF (ar (dv 2) ae) (av bL (av aF (ar (dv 0) ae) (ar (dv 1) ae)) (av aF (ar (dv 1) ae) (ar (dv 0) ae))))))),?_⟩
 rintro u Q Ed ⟨L,J,I,H,G,E,B,A,z,rfl,h⟩;x_go;obtain⟨t,i,g,n,e,d,m,c,b,h⟩:=h;have a:∀{x y:Int},Bd 1000 x->Bd 1000 y->CM x y:=λj k=>.inr (.inr ⟨j.mono (by decide),k.mono (by decide)⟩)
 have k:∀{x p q r s:Int},Bd 1000 x->Bd 1000 p->Bd 1000 q->Bd 1000 r->Bd 1000 s->CM x (p*q - r*s):=λj q p l o=>.inr (.inr ⟨j.mono (by decide),((q.mul p).sub (l.mul o)).mono (by decide)⟩)
 lk;exact⟨a e b,a c d,k t e b c d,a c g,a i b,k n c g i b,a i d,a e g,k m i d e g,h⟩
def GF (F:ay K "arrow" "arrow" vD f fd) (C:O7 K mg κ)    : aI P w K mg base (CX1 P w) 1 f fd ["one", "other"] (aL K (kJ κ)):=by
 refine ay.okN F G5 (by fin2) λ_ _ _ _ _ _ i=>⟨_,(ak (ax (aQ (aa (av bL (av aF (ar (dv 0) ae) (ar (dv 1) ae)) (av aF (ar (dv 1) ae) (ar (dv 0) ae))) (aa (av bL (av aF (ar (dv 0) ae) (ar (dv 1) ae)) (av aF (ar (dv 1) ae) (ar (dv 0) ae))) ag))))),?_⟩
 rintro j Q Ed ⟨p,o,n,m,l,k,rfl,h⟩;x_go;obtain⟨b,g,e,a,d,c,h⟩:=h;lk;exact⟨Rz b d,Rz a g,Rz b c,Rz a e,R5 _ _,h⟩
def Jg (F:ay K "turn" "turn" zD f fd) (C:O7 K mg κ)    : aI P w K mg base (CX1 P w) 1 f fd ["one", "other"] (aL K (vP κ)):=by
 refine ay.okN F JG (by fin2) λ_ _ _ _ _ _ c=>⟨_,(ak (ax (av bL (av aF (ar (dv 0) ae) (ar (dv 1) ae)) (av aF (ar (dv 1) ae) (ar (dv 0) ae))))),?_⟩
 rintro d Q Ed ⟨a,b,rfl,h⟩;x_go;obtain⟨b,a,h⟩:=h;unfold Od;lk;exact⟨Rz b.x a.y,Rz a.x b.y,h⟩
def Jb (F:ay K "back" "back" zy f fd) (C:O7 K mg κ)    : aI P w K mg base (CX1 P w) 1 f fd ["way"] (aL K (my κ)):=by
 refine ay.okN F JD (by fin2) λ_ _ _ _ _ _ a=>⟨_,(ak (ax (aQ (aa (cF (ar (dv 0) ae)) (aa (cF (ar (dv 0) ae)) ag))))),?_⟩
 rintro b Q Ed ⟨w,rfl,h⟩;x_go;unfold qM at h;unfold Od at h ⊢;lk;exact⟨R5 _ _,h⟩
def CA (F:ay K "left_of" "left_of" pK f fd) (C:O7 K mg κ)    : aI P w K mg base (CX1 P w) 1 f fd ["way"] (aL K (jX κ)):=by
 refine ay.okN F CN (by fin2) λ_ _ _ _ _ _ a=>⟨_,(ak (ax (aQ (aa (cF (ar (dv 0) ae)) (aa (ar (dv 0) ae) ag))))),?_⟩
 rintro b Q Ed ⟨w,rfl,h⟩;x_go;unfold jR at h;unfold Od at h ⊢;lk;exact⟨R5 _ _,h⟩
def GG (F:ay K "chain" "chain" vE f fd) (C:O7 K mg κ)  (b:HS P w K mg base κ) (c:mg "len" = none):aI P w K mg base (CX1 P w) 2 f fd ["places"] (aL K (sG κ)):=by
 refine ay.okN F sD (by fin2) λ_ _ _ _ _ _ a=>⟨_,(ah (eU 1 sD.nd ag) (ah (bI PassesOwn.never rfl (aN (dv 0)) (aW 2 sD.nd) (ah (mR PassesOwn.never (Il 1 (SK.pt (yB (aE ua (aD aY (by rfl) c QM (aa (dv 1) ag)) ae) (u0 (aE xr (au b a (aa (ar (dv 1) (cF ae)) (aa (ar (dv 1) (cF ae)) (aa (dv 2) ag)))) ae))))) (ak (KR 1))) (ak (gH 1 (dv 2))))) (b9 1 (ak (ax (dv 1)))))),?_⟩
 rintro t Q Ed ⟨a,rfl,h⟩;x_go;obtain⟨s,i,h⟩:=h;lk;refine⟨QI _,?_⟩;refine PD.Be a O9 (λdone b=>∃v:Option Sl,b=[some (.val (.lst false (a.map O9))),some (.own ((bP [] done).reverse.map O9)),v]/\(bP [] done).length<=done.length/\∀p∈bP [] done,SB p) ?_ ?_ ?_ ?_;intro R c;lk;exact c;exact⟨none,rfl,OP _,by simp[bP]⟩
 ·rintro done x q c QH ⟨v,rfl,e,d⟩;refine⟨λm b=>∃st:yat,b=[some (.val (.lst false (a.map O9))),some (.own (st.reverse.map O9)),some (.val (O9 x))]/\m=st.length/\cK st x=cK (bP [] done) x/\st.length<=done.length/\∀p∈st,SB p,⟨_,_,rfl,rfl,rfl,e,d⟩,?_⟩;rintro m b ⟨st,rfl,rfl,j,o,g⟩;have d:cK st x=st->((st.reverse.map O9).length<sizeLine/\∃v:Option Sl,([some (.val (.lst false (a.map O9))),some (.own (st.reverse.map O9++[O9 x])),some (.val (O9 x))]:Ro)=[some (.val (.lst false (a.map O9))),some (.own ((bP [] (done++[x])).reverse.map O9)),v]/\(bP [] (done++[x])).length<=(done++[x]).length/\∀p∈bP [] (done++[x]),SB p):=λe=>by
   have a:bP [] (done++[x])=x::st:=by rw[q9,<- j,e]
   rw[a];refine⟨by rw[N3,Vm,sizeLine_eq];lia,_,by rw[Zq,QE];rfl,by simp;lia,λp e=>?_⟩;rcases Ov.mp e with z|z;rw[z];exact i x c;exact g p z
  lk;rcases st with _|⟨b,_|⟨a,r⟩⟩;exact d rfl;exact d rfl
  ·rw[N4 (by simp;lia)];have k:(b::a::r).reverse.map O9=r.reverse.map O9++[O9 a]++[O9 b]:=by simp
   have n:=g a (by simp);have m:=g b (by simp);have l:=i x c;have c:Bd 1000 1:=by unfold Bd;decide
   refine⟨_,by rw[k];exact Dn _ _ _,_,by rw[k];exact FR _ _,?_⟩;show nV κ [T3 1 a.1 a.2,T3 1 b.1 b.2,T3 1 x.1 x.2] _ _;rw[rA,nE];refine⟨c,n.x.mono (by decide),n.y.mono (by decide),c,m.x.mono (by decide),m.y.mono (by decide),c,l.x.mono (by decide),l.y.mono (by decide),?_⟩;refine⟨_,rfl,?_⟩;by_cases c:sw 1 a.1 a.2 1 b.1 b.2 1 x.1 x.2<=0
   ·have i:cr a b x<=0:=c;rw[N4 (by simpa using c)];refine⟨by simp,(a::r).length,by simp,a::r,?_,rfl,?_,?_,λp e=>g p (Pz _ e)⟩;simp
    ·rw[<- j];conv=>rhs;unfold cK
     rw[N4 i]
    simp at o ⊢;lia
   have i:¬cr a b x<=0:=c;rw[N2 (by simpa using c)];exact d (by unfold cK;rw[N2 i])
 rintro q ⟨v,rfl,_⟩;lk;exact h
def Jd (F:ay K "hull" "hull" um f fd) (C:O7 K mg κ)  (b:HQ P w K mg base κ) (d:sZ P w K mg base κ) (g:mg "len" = none) (c:mg "set" = none) (e:mg "sorted" = none):aI P w K mg base (CX1 P w) 3 f fd ["spots"] (aL K (mD κ)):=by
 refine ay.okN F BH (by fin2) λ_ _ _ _ _ _ a=>⟨_,(ah (fx 1 BH.nd (by rfl) (by exact aV (osc:=aq um) (xs:=["spot"]) (ns:=[]) (by decide +kernel)) aM.nil (aN ((Ci rfl (by exact Lg a) (by rfl) e (by rfl) c (dv 0))).WH) (λ_ _ _ _ _=>bE) (λ_ _ _ _ _=>(au d a (aa (dv 0) ag)))) (ah (aT (aE fB (aD aY (by rfl) g QM (aa (dv 1) ag)) ae) (ak (ax (dv 1))) aG) (ak (ax (av bg (UW.WH (mP (au b a (aa (dv 1) ag)) cT (di (cF ae)))) (UW.WH (mP (au b a (aa (UW.WH (KJ (dv 1))) ag)) cT (di (cF ae))))))))),?_⟩
 rintro o Q Ed ⟨c,rfl,h⟩;x_go;unfold j6 at h;obtain⟨n,i,h⟩:=h;lk;refine xY (P:=λa=>cJ a c/\a.length<=c.length) Od O9 (λR g=>?_) (λa b=>by rw[sizeLine_eq];omega) (λa b x m K k=>?_) λa b=>?_
 refine⟨false,c.map Vv,by rw[HJ],by rw[N3];omega,λk d=>?_,λj c=>?_⟩;obtain⟨p,_,e⟩:=Ol.mp d;rw[<- e];exact List.cons_ne_nil _ _;obtain⟨a,rfl,b⟩:=EW c;rw[<- HJ];exact⟨true,_,rfl,g a ⟨b,sd b⟩⟩;lk;exact⟨x,nY x,k⟩;have l:=b.2;have g:∀p∈a,SB p:=λp e=>i p ((b.1.2 p).mp e)
 have d:=h a b.1 b.2;have c:=gh [] a;have b:=gh [] a.reverse;simp only[WR,Vm]at c b;unfold aU at d;lk;rw[N3];split;rename_i c;rw[N4 (by omega)]at d;exact d;rename_i c;rw[N2 (by omega)]at d;refine⟨by omega,g,?_⟩;rw[<- List.map_reverse,nZ,rq,nr];refine⟨by rw[Vm];omega,λp e=>g p (List.mem_reverse.mp e),true,_,rfl,?_⟩;rw[yb,yb];refine⟨?_,?_⟩;rw[Wj,Wj,N3,N3,Vm,Vm,sizeLine_eq];omega;rw[<- List.map_dropLast,<- List.map_dropLast,<- QE];exact d
def vn (F:ay K "thin_bounds" "thin_bounds" jE f fd) (C:O7 K mg κ)  (e:AM P w K mg base κ) (c:JZ P w K mg base κ) (b:FF P w K mg base κ) (d:Dg P w K mg base κ)  : aI P w K mg base (CX1 P w) 2 f fd ["one", "other"] (aL K (iR κ)):=by
 refine ay.okN F iK (by fin2) λ_ _ _ _ _ _ a=>⟨_,(ah (aH 2 iK.nd (rJ (aE (MJ (by exact a.units)) (dv 0) (dv 1)) (au e a (aa (dv 0) (aa (dv 1) ag))) (aQ (aa ae (aa ae ag))))) (ah (aH 3 iK.nd (au d a (aa (dv 2) ag))) (ak (ax (bN (aa (au b a (aa (dv 0) (aa (dv 2) ag))) (aa (au b a (aa (dv 1) (aa (au c a (aa (dv 2) ag)) ag))) (aa (au b a (aa (dv 0) (aa (dv 3) ag))) (aa (au b a (aa (dv 0) (aa (au c a (aa (dv 3) ag)) ag))) ag))))))))),?_⟩
 rintro r Q Ed ⟨a,b,rfl,h⟩;x_go;obtain⟨l,k,h⟩:=h;have j:Bd 200 1:=by unfold Bd;decide
 have q:∀(p w:Sp) (K:D->Prop),SB p->WB 62 w->K (Oe (cu p w))->cZ κ [O9 p,Od w] K λ_=>False:=λp w K d c e=>by show cZ κ [T3 1 p.1 p.2,Od w] K _;rw[qe,k8];exact⟨j,d.x.mono (by decide),d.y.mono (by decide),c.mono (by decide),e⟩
 have n:∀{w:Sp},WB 62 w->WB 62 (TV w):=λc=>⟨oO c.x,oO c.y⟩
 have m:∀{w:Sp},WB 62 w->WB 62 (S8 w):=λc=>⟨oO c.y,c.x⟩
 have i:∀w:Sp,WB 62 w->Q (.lst true ([cu a w,cu b (TV w),cu a (S8 w),cu a (TV (S8 w))].map Oe))->jX κ [Od w] (λd=>cZ κ [O9 a,Od w] (λx=>my κ [Od w] (λe=>cZ κ [O9 b,aK e] (λg=>cZ κ [O9 a,aK d] (λe=>my κ [aK d] (λd=>cZ κ [O9 a,aK d] (λd=>[x,g,e,d].length<=sizeLine/\Q (D.lst true [x,g,e,d])) λ_=>False) λ_=>False) λ_=>False) λ_=>False) λ_=>False) λ_=>False) λ_=>False:=λw c o=>by grind [ow,uy,nY,sz4]
 unfold eN aS at h;lk;refine⟨(Ex a).ok,(Ex b).ok,?_⟩;by_cases c:a=b;rw[N4 c]at h;rw[N2 (by rw[c,mU];simp)];exact⟨R5 _ _,i (1,0) ⟨by unfold Bd;decide,by unfold Bd;decide⟩ h⟩;rw[N2 c]at h;rw[N4 (by rw[KY];simpa using c)];show kJ κ [T3 1 a.1 a.2,T3 1 b.1 b.2] _ _;rw[lQ,kC];refine⟨j,l.x.mono (by decide),l.y.mono (by decide),j,k.x.mono (by decide),k.y.mono (by decide),?_⟩;have d:=FO l k;unfold aS at d;rw[N2 c]at d;exact i (1*b.1 - 1*a.1,1*b.2 - 1*a.2) d h
def Ey (F:ay K "bounds" "bounds" nF f fd) (C:O7 K mg κ)  (c:De P w K mg base κ) (d:wZ P w K mg base κ) (b:mg "len" = none) (e:mg "range" = none):aI P w K mg base (CX1 P w) 3 f fd ["corners"] (aL K (pT κ)):=by
 refine ay.okN F E4 (by fin2) λ_ _ _ _ _ _ a=>⟨_,(ah (aT (aE fB (aD aY (by rfl) b QM (aa (dv 0) ag)) ae) (ak (ax (au d a (aa (ar (dv 0) ae) (aa (ar (dv 0) (cF ae)) ag))))) aG) (ak (ax (bK (by rfl) (by exact aV (osc:=aq nF) (xs:=["index"]) (ns:=["corners"]) (by decide +kernel)) (aM.cons 0 aM.nil) (eV (by rfl) e (aa (aD aY (by rfl) b QM (aa (dv 0) ag)) ag)) (λ_ _ _ _ _=>bE) (λ_ _ _ _ _=>(au c a (aa (ar (dv 1) (av bL (dv 0) ae)) (aa (ar (dv 1) (dv 0)) ag)))))))),?_⟩
 rintro n Q Ed ⟨a,rfl,h⟩;x_go;obtain⟨b,l,c,h⟩:=h;unfold aJ at h;have e:∀i,i<a.length->a[i]?=some (a.getD i (0,0)):=by grind
 have d:∀i,i<a.length->SB (a.getD i (0,0)):=λi m=>c _ (by simp_all)
 lk;rw[N3];by_cases c:a.length<3;rw[N4 (by lia)];rw[N4 c]at h;refine⟨_,bb (j:=0) (by rw[Pw,e 0 b];rfl),_,Dm (by rw[N3];exact b) (by rw[N3,Pw,e _ (by lia)];rfl),?_⟩;rw[nX,nX,jL,fG];exact⟨d 0 b,d _ (by lia),h⟩;rw[N2 (by lia)];rw[N2 c]at h;refine PD.comp_map (List.range' 0 a.length) (λ(k:Nat)=>D.int (k:Int)) (λ_=>true) (λk=>Oe (eQ (bU a k) (a.getD k (0,0)))) (λR q=>?_) (by grind [List.length_range',sizeLine_eq]) (λk g K c=>?_) (λk g _ K c=>?_) ?_;lk;rw[N3,si];exact⟨⟨by lia,by lia⟩,q⟩;lk;exact c;have i:k<a.length:=by grind
 have g:(k+a.length - 1) % a.length<a.length:=VI _ b;have Xk:Qm (a.map O9) ((k:Int) - 1)=some (O9 (bU a k)):=by have:=xN (a.map O9) k 1 (by simp_all) (by rw[N3];exact b);rw[N3,Pw,e _ g]at this;exact this
 have YQ:Qm (a.map O9) (k:Int)=some (O9 (a.getD k (0,0))):=bb (by simp_all);have e:SB (bU a k):=d _ g;have g:=d k i;have b:Bd 200 1:=by unfold Bd;decide
 lk;refine⟨_,Xk,_,YQ,?_⟩;show jW κ [T3 1 (bU a k).1 (bU a k).2,T3 1 (a.getD k (0,0)).1 (a.getD k (0,0)).2] _ _;rw[ot,jQ];exact⟨b,e.x.mono (by decide),e.y.mono (by decide),b,g.x.mono (by decide),g.y.mono (by decide),c⟩;rw[RN.mpr (λ_ _=>rfl)];rw[O3]at h;exact h
def EH (F:ay K "length" "length" sC f fd) (C:O7 K mg κ)   (a:mg "abs" = none):aI P w K mg base (CX1 P w) 1 f fd ["way"] (aL K (qi κ)):=by
 refine ay.okN F E6 (by fin2) λ_ _ _ _ _ _ b=>⟨_,(ak (ax (av bg (aD oP (by rfl) a boot_abs (aa (ar (dv 0) ae) ag)) (aD oP (by rfl) a boot_abs (aa (ar (dv 0) ae) ag))))),?_⟩
 rintro c Q Ed ⟨w,rfl,h⟩;x_go;unfold Od;lk;exact h
def ub (F:ay K "are_opposite" "are_opposite" iC f fd) (C:O7 K mg κ)  (b:Dj P w K mg base κ)  : aI P w K mg base (CX1 P w) 2 f fd ["one", "other"] (aL K (hU κ)):=by
 refine ay.okN F uo (by fin2) λ_ _ _ _ _ _ a=>⟨_,(ak (ax (yo (ma bQ (au b a (aa (dv 0) (aa (dv 1) ag))) ae) (yq (ma fB (av bg (av aF (ar (dv 0) ae) (ar (dv 1) ae)) (av aF (ar (dv 0) ae) (ar (dv 1) ae))) ae))))),?_⟩
 rintro g Q Ed ⟨a,b,rfl,h⟩;x_go;unfold eA at h;obtain⟨e,d,h⟩:=h;lk;refine⟨e,d,?_⟩;by_cases c:tn a b=0;rw[N4 c];unfold Od;lk;refine⟨Rz e.x d.x,Rz e.y d.y,?_⟩;have e:decide (tn a b=0/\Oz a b<0)=decide (a.1*b.1+a.2*b.2<0):=by rw[decide_eq_decide];exact⟨λq=>q.2,λq=>⟨c,q⟩⟩
 rw[e]at h;exact h;rw[N2 c];rw[decide_eq_false (λq=>c q.1)]at h;exact h
def qT (F:ay K "balance_of_two" "balance_of_two" gn f fd) (C:O7 K mg κ)  (d:uM P w K mg base κ) (b:xB P w K mg base κ) (c:xC P w K mg base κ)  : aI P w K mg base (CX1 P w) 3 f fd ["one", "other"] (aL K (fO κ)):=by
 refine ay.okN F qV (by fin2) λ_ _ _ _ _ _ a=>⟨_,(ah (aT (cG (cM (au d a (aa (dv 0) (aa (dv 1) ag))))) (ak (ax dh)) aG) (ak (ax (au c a (aa (bN (aa (au b a (aa (dv 1) ag)) (aa (au b a (aa (dv 0) ag)) ag))) ag))))),?_⟩
 rintro j Q Ed ⟨a,b,rfl,h⟩;x_go;obtain⟨d,c,h⟩:=h;lk;refine⟨d,c,?_⟩;unfold lH at h;split;rename_i c;rw[N4 c]at h;have g:a≠(0,0):=λe=>by have:=c.2;unfold Oz at this;simp_all
 have i:=rQ g;have e:Bd 402 (bG a):=vd d;refine⟨R5 _ _,?_⟩;show jo κ [D.lst false ([bG b,bG a].map D.int)] _ _;rw[kM,jc];have g:=ID (d:=bG b) (x:=bG a) (by lia);exact⟨by simp,by show((Int.gcd ((Int.gcd 0 (bG b):Nat):Int) (bG a):Nat):Int)≠0;lia,Gg e (by lia),h⟩;rename_i c;rw[N2 c]at h;exact h
def oA (F:ay K "balance_of_three" "balance_of_three" cY f fd) (C:O7 K mg κ)  (d:xC P w K mg base κ) (b:Dj P w K mg base κ) (c:mg "max" = none) (e:mg "min" = none):aI P w K mg base (CX1 P w) 3 f fd ["one", "two", "three"] (aL K (d5 κ)):=by
 refine ay.okN F dY (by fin2) λ_ _ _ _ _ _ a=>⟨_,(ah (aH 3 dY.nd (bN (aa (au b a (aa (dv 1) (aa (dv 2) ag))) (aa (au b a (aa (dv 2) (aa (dv 0) ag))) (aa (au b a (aa (dv 0) (aa (dv 1) ag))) ag))))) (ah (aT (aE fB (aD (Ic rfl) (by rfl) c boot_max (aa (dv 3) ag)) ae) (ak (fx 3 dY.nd (by rfl) (by exact aV (osc:=aq cY) (xs:=["each"]) (ns:=[]) (by decide +kernel)) aM.nil (aN (dv 3)) (λ_ _ _ _ _=>bE) (λ_ _ _ _ _=>(cF (dv 0))))) aG) (ah (aT (aE xr (aD (Ie rfl) (by rfl) e boot_min (aa (dv 3) ag)) ae) (ak (ax dh)) aG) (ak (ax (au d a (aa (dv 3) ag))))))),?_⟩
 rintro E Q Ed ⟨a,b,e,rfl,h⟩;x_go;obtain⟨d,c,g,h⟩:=h;have i:Bd 801 (tn a b):=(d.x.mul c.y).sub (c.x.mul d.y);unfold jy at h;generalize e1:tn b e=x at *;generalize e2:tn e a=y at *;generalize e3:tn a b=z at *;have b:∀u v w:Int,Bd 801 w->0<w->Q (.lst true ((dj [u,v,w]).map D.int))->jo κ [D.lst false ([u,v,w].map D.int)] Q λ_=>False:=λu v w e j q=>by
  rw[kM,jc];have a:w≠0:=by lia
  have B:0<Int.gcd ((Int.gcd ((Int.gcd 0 u:Nat):Int) v:Nat):Int) w:=Int.gcd_pos_iff.mpr (.inr a);exact⟨by simp,by show((Int.gcd ((Int.gcd ((Int.gcd 0 u:Nat):Int) v:Nat):Int) w:Nat):Int)≠0;lia,(D6 e a).mono (by decide),q⟩
 lk;refine⟨c,g,g,d,d,c,?_⟩;rw[e1,e2,e3];refine⟨Uh _ _ _,.inr ⟨true,[x,y,z],rfl,by simp,λm c a=>?_⟩⟩;have A:=a x (by simp);have t:=a y (by simp);have s:=a z (by simp);have r:m=x∨m=y∨m=z:=by simpa using c
 split;rename_i c;refine PD.comp_map [x,y,z] D.int (λ_=>true) (λk=>.int (-k)) (λR q=>?_) (by rw[sizeLine_eq];simp) (λk d K a=>?_) (λk d _ K a=>?_) ?_;lk;exact q;lk;exact a;lk;exact a;refine⟨true,[-x,-y,-z],rfl,by simp,λn d a=>?_⟩;have e:n=-x∨n=-y∨n=-z:=by simpa using d
 rw[N2 (by lia)]at h ⊢;rw[N4 (by lia)]at h;exact b _ _ _ (oO i) (by lia) h;rename_i c;refine⟨true,[x,y,z],rfl,by simp,λn d a=>?_⟩;have e:n=x∨n=y∨n=z:=by simpa using d
 have p:=a x (by simp);have o:=a y (by simp);have l:=a z (by simp);split;rename_i d;rw[N2 (by lia),N2 (by lia)]at h;exact h;rename_i d;rw[N4 (by lia)]at h;exact b _ _ _ i (by lia) h
def Cw (F:ay K "balance" "balance" pI f fd) (C:O7 K mg κ)  (e:oG P w K mg base κ) (c:rD P w K mg base κ) (d:xB P w K mg base κ) (b:mg "len" = none):aI P w K mg base (CX1 P w) 4 f fd ["ways"] (aL K (nN κ)):=by
 refine ay.okN F CK (by fin2) λ_ _ _ _ _ _ a=>⟨_,(ah (aT (aE bQ (aD aY (by rfl) b QM (aa (dv 0) ag)) ae) (ak (ax (rJ (aE bQ (au d a (aa (ar (dv 0) ae) ag)) ae) (bN (aa ae ag)) dh))) aG) (ah (aT (aE bQ (aD aY (by rfl) b QM (aa (dv 0) ag)) ae) (ak (ax (au c a (aa (ar (dv 0) ae) (aa (ar (dv 0) ae) ag))))) aG) (ak (ax (au e a (aa (ar (dv 0) ae) (aa (ar (dv 0) ae) (aa (ar (dv 0) ae) ag)))))))),?_⟩
 rintro j Q Ed ⟨a,rfl,h⟩;x_go;obtain⟨c,g,i,h⟩:=h;rcases a with _|⟨a,_|⟨b,_|⟨e,_|⟨z,r⟩⟩⟩⟩;simp at c;have d:Q (oL (mH a)):=h;unfold mH at d;lk;by_cases c:bG a=0;rw[N4 c]at d ⊢;exact⟨ZG _,d⟩;rw[N2 c]at d ⊢;exact d;have d:Q (oL (lH a b)):=h;lk
 simp_all
 have d:Q (oL (jy a b e)):=h;lk
 simp_all
 simp at g
 lia
def CG (F:ay K "reduced" "reduced" pL f fd) (C:O7 K mg κ)  (b:kb P w K mg base κ)  : aI P w K mg base (CX1 P w) 2 f fd ["triple", "lead"] (aL K (nU κ)):=by
 refine ay.okN F nM (by fin2) λ_ _ _ _ _ _ a=>⟨_,(ah (aH 2 nM.nd (au b a (aa (au b a (aa (ar (dv 0) ae) (aa (ar (dv 0) ae) ag))) (aa (ar (dv 0) ae) ag)))) (ah (aT (aE fB (dv 1) ae) (ak (aH 2 nM.nd (cF (dv 2)))) aG) (ak (ax (aQ (aa (av cU (ar (dv 0) ae) (dv 2)) (aa (av cU (ar (dv 0) ae) (dv 2)) (aa (av cU (ar (dv 0) ae) (dv 2)) ag)))))))),?_⟩
 rintro i Q Ed ⟨x,y,z,l,rfl,h⟩;x_go;obtain⟨d,g,b,e,h⟩:=h;have c:=PM.yz (l:=l) d;have a:=(J8 (l:=l) d g b e).mono (show 4000<=8000 by decide);lk;have b:((Int.gcd (Int.gcd x y:Int) z:Nat):Int)=(PM.g3 x y z:Int):=rfl;rw[b];have b:∀g:Int,g=PM.Qf x y z l->CD x g/\CD y g/\CD z g/\([D.int (x.fdiv g),.int (y.fdiv g),.int (z.fdiv g)]:yar).length<=sizeLine/\Q (.tup [.int (x.fdiv g),.int (y.fdiv g),.int (z.fdiv g)]):=by rintro g rfl;exact⟨⟨c,a⟩,⟨c,a⟩,⟨c,a⟩,Uh _ _ _,h⟩
 by_cases a:l<0;rw[N4 (by simp_all)];exact b _ (by unfold PM.Qf;simp_all);rw[N2 (by simp_all)];exact b _ (by unfold PM.Qf;rw[N2 a])
def GI (F:ay K "place" "place" vF f fd) (C:O7 K mg κ)  (b:Di P w K mg base κ)  : aI P w K mg base (CX1 P w) 3 f fd ["by", "x", "y"] (aL K (sJ κ)):=by
 refine ay.okN F G6 (by fin2) λ_ _ _ _ _ _ a=>⟨_,(ah (aT (aE bQ (dv 0) ae) (ak mQ) aG) (ak (ax (au b a (aa (aQ (aa (dv 0) (aa (dv 1) (aa (dv 2) ag)))) (aa (dv 0) ag)))))),?_⟩
 rintro e Q Ed ⟨b,x,y,rfl,h⟩;x_go;obtain⟨a,d,c,b,h⟩:=h;lk;rw[N2 a];exact⟨Uh _ _ _,λz=>a z.1,d,c,b,h⟩
def CC (F:ay K "mixture" "mixture" je f fd) (C:O7 K mg κ)  (QY:AM P w K mg base κ) (PQ:vV P w K mg base κ) (OA:l9 P w K mg base κ) (Pk:sZ P w K mg base κ) (Y:mg "len" = none):aI P w K mg base (CX1 P w) 5 f fd ["spots", "place"] (aL K (jY κ)):=by
 refine ay.okN F hJ (by fin2) λ_ _ _ _ _ _ C=>⟨_,(ah (aT (aE bQ (aD aY (by rfl) Y QM (aa (dv 0) ag)) ae) (ak mQ) aG) (ah (aH 2 hJ.nd (bK (by rfl) (by exact aV (osc:=aq je) (xs:=["spot"]) (ns:=["place"]) (by decide +kernel)) (aM.cons 1 aM.nil) (aN (dv 0)) (λ_ _ _ _ _=>bE) (λ_ _ _ _ _=>(au QY C (aa (dv 1) (aa (au Pk C (aa (dv 0) ag)) ag)))))) (ah (bI PassesOwn.never rfl (yP (aQ (aa ae (aa ae (aa ae ag))))) (aW 3 hJ.nd) (ak (bI PassesOwn.never rfl (aN (au OA C (aa (aD aY (by rfl) Y QM (aa (dv 0) ag)) (aa (dv 3) ag)))) (aW 4 hJ.nd) (ah (aH 5 hJ.nd (au PQ C (aa (bK (by rfl) (by exact aV (osc:=aq je) (xs:=["number"]) (ns:=["ways"]) (by decide +kernel)) (aM.cons 2 aM.nil) (aN (dv 4)) (λ_ _ _ _ _=>bE) (λ_ _ _ _ _=>(ar (dv 1) (dv 0)))) ag))) (ak (aT (aE ml (dv 5) dh) (ak (ax (aQ (aa kh (aa (dv 4) (aa (dv 5) ag)))))) aG)))))) (ak mQ)))),?_⟩
 rintro ds Q Ed ⟨a,d,g,e,rfl,h⟩;x_go;unfold gS at h;obtain⟨hz,hl,T,t,res,o,h⟩:=h;have o1:Bd 200 1:=by unfold Bd;decide
 have J:cq (a.map (N9 (d,g,e))) (cO a.length)=cq (a.map (N9 (d,g,e))) (vw a.length 0):=by rw[GZ]
 have wB:∀w∈a.map (N9 (d,g,e)),WB 400 w:=λw A=>by obtain⟨p,E,rfl⟩:=Ol.mp A;have B:=T p E;refine⟨?_,?_⟩;show Bd 400 (d*p.1 - 1*g);rw[Ud];exact Bd.mono (m:=161) ((t.b.mul B.x).sub t.x) (by decide);show Bd 400 (d*p.2 - 1*e);rw[Ud];exact Bd.mono (m:=161) ((t.b.mul B.y).sub t.y) (by decide)
 lk;rw[N3,N2 (by lia)];refine PD.comp_map a Od (λ_=>true) (λp=>Od (N9 (d,g,e) p)) (λR q=>?_) (by rw[sizeLine_eq];lia) (λp E K u=>?_) (λp E _ K u=>?_) ?_;lk;exact q;lk;exact u;have B:=T p E;lk;refine⟨p,rfl,?_⟩;show kJ κ [T3 d g e,T3 1 p.1 p.2] _ _;rw[lQ,kC];exact⟨t.b.mono (by decide),t.x.mono (by decide),t.y.mono (by decide),o1,B.x.mono (by decide),B.y.mono (by decide),u⟩;rw[RN.mpr (λ_ _=>rfl)];have em:a.map (λp=>Od (N9 (d,g,e) p))=(a.map (N9 (d,g,e))).map Od:=by rw[O3];rfl
 rw[em];have wl:(a.map (N9 (d,g,e))).length=a.length:=N3 _;generalize a.map (N9 (d,g,e))=b at *;refine PD.bq [1,2,3] (λ(k:Nat)=>D.int (k:Int)) (λj H=>∃I n l:Option Sl,H=[some (.val (.lst false (a.map Od))),some (.val (T3 d g e)),some (.val (.lst true (b.map Od))),I,n,l]/\cq b (cO a.length)=cq b (vw a.length j)) (λR q=>?_) ⟨none,none,none,rfl,J⟩ ?_ ?_;lk;exact⟨Uh _ _ _,q⟩;rintro j s L G ⟨I,n,l,rfl,c⟩;have r:j<3/\s=j+1:=by
  rcases j with _|_|_|j;simp at G;lia;simp at G;lia;simp at G;lia;simp at G
 obtain⟨r,rfl⟩:=r;rw[EX _ r]at c;lk;refine PD.bq (Oi a.length (j+1)) QX (λi H=>∃n l:Option Sl,H=[some (.val (.lst false (a.map Od))),some (.val (T3 d g e)),some (.val (.lst true (b.map Od))),some (.val (.int ((j+1:Nat):Int))),n,l]/\cq b (cO a.length)=cq b ((Oi a.length (j+1)).drop i++vw a.length (j+1))) (λR q=>?_) ⟨n,l,rfl,c⟩ ?_ ?_;lk;exact⟨a.length,j+1,by rw[N3],rfl,by lia,by lia,Pe (Zi hl (j+1)) (Pe (WO (by decide) (show j+1<=3 by lia)) (by decide)),q⟩;rintro i x L O ⟨n,l,rfl,c⟩;obtain⟨V8,ei⟩:=Ql.mp O;rw[Wi V8,ei,UH,Ep]at c;obtain⟨pl,N⟩:=bM (Qh O);have U:∀k,k<b.length->b[k]?=some (b.getD k (0,0)):=λk y=>by rw[Pg,OH y];rfl
 lk;refine PD.comp_map x (λ(k:Nat)=>D.int (k:Int)) (λ_=>true) (λk=>Od (b.getD k (0,0))) (λR q=>?_) (by rw[sizeLine_eq];lia) (λk y K u=>?_) (λk y _ K u=>?_) ?_;unfold QX;lk;exact q;lk;exact u;lk;exact⟨_,bb (by rw[Pw,U k (by have:=N k y;lia)];rfl),u⟩;rw[RN.mpr (λ_ _=>rfl)];have ep:x.map (λk=>Od (b.getD k (0,0)))=(SQ b x).map Od:=by unfold SQ;rw[O3];rfl
 have lp:(SQ b x).length=j+1:=by unfold SQ;rw[N3,pl]
 rw[ep,bu,fL,jF,gR];refine⟨by lia,by lia,λw A=>?_,?_⟩;unfold SQ at A;obtain⟨k,y,rfl⟩:=Ol.mp A;exact wB _ (Qh (U k (by have:=N k y;lia)));cases Zc:dU (SQ b x)with
 |none =>
  rw[Zc]at c;rw[N2 (show¬dG (oL none)=false by decide)];exact⟨_,_,rfl,c⟩
 |some M =>
  rw[Zc]at c;have z:cq b (cO a.length)=some (x,M):=c;rw[o]at z;cases z;rw[N4 (show dG (oL (some M))=false from rfl)];exact⟨Uh _ _ _,h⟩
 rintro L ⟨n,l,rfl,c⟩;rw[List.drop_length,UZ]at c;exact⟨_,_,_,rfl,c⟩;rintro L ⟨I,n,l,rfl,c⟩;have z:cq b (cO a.length)=none:=c;rw[o]at z;cases z
def rX (F:ay K "place_between" "place_between" gU f fd) (C:O7 K mg κ)  (c:HR P w K mg base κ) (b:AN P w K mg base κ)  : aI P w K mg base (CX1 P w) 4 f fd ["one", "other", "gauge"] (aL K (dJ κ)):=by
 refine ay.okN F gB (by fin2) λ_ _ _ _ _ _ a=>⟨_,(ah (aH 3 gB.nd (au b a (aa (dv 2) (aa (dv 0) ag)))) (ah (aH 4 gB.nd (au b a (aa (dv 2) (aa (dv 1) ag)))) (ak (ax (au c a (aa (av bL (av aF (dv 4) (ar (dv 0) ae)) (av aF (dv 3) (ar (dv 1) ae))) (aa (av bL (av aF (dv 4) (ar (dv 0) ae)) (av aF (dv 3) (ar (dv 1) ae))) (aa (av bL (av aF (dv 4) (ar (dv 0) ae)) (av aF (dv 3) (ar (dv 1) ae))) ag)))))))),?_⟩
 rintro A Q Ed ⟨z,y,j,u,t,s,q,p,o,rfl,h⟩;x_go;obtain⟨g,e,d,c,b,a,k,n,l,r,h⟩:=h;have m:∀{x:Int},Bd 200 x->Bd 1000 x:=λh=>h.mono (by decide)
 have i:Bd 402 (q*z+p*y+o*j):=((k.mul g).add (n.mul e)).add ((l.mul d).mono (by decide));have j:Bd 402 (q*u+p*t+o*s):=((k.mul c).add (n.mul b)).add ((l.mul a).mono (by decide));lk;refine⟨m k,m n,m l,m g,m e,m d,m k,m n,m l,m c,m b,m a,Rz j g,Rz i c,Rz j e,Rz i b,Rz j d,Rz i a,r,?_,?_,?_,?_⟩;exact((j.mul g).sub (i.mul c)).mono (by decide);exact((j.mul e).sub (i.mul b)).mono (by decide);exact((j.mul d).sub (i.mul a)).mono (by decide);exact h
def Cy (F:ay K "clipped" "clipped" k9 f fd) (C:O7 K mg κ)  (e:sW P w K mg base κ) (a:J1 P w K mg base κ) (b:mg "len" = none) (d:mg "range" = none):aI P w K mg base (CX1 P w) 5 f fd ["corners", "gauge"] (aL K (hW κ)):=by
 refine ay.okN F gW (by fin2) λ_ _ _ _ _ _ c=>⟨_,(ah (eU 2 gW.nd ag) (ah (bI PassesOwn.never rfl (eV (by rfl) d (aa (aD aY (by rfl) b QM (aa (dv 0) ag)) ag)) (aW 3 gW.nd) (ah (aH 4 gW.nd (ar (dv 0) (av bL (dv 3) ae))) (ah (aH 5 gW.nd (ar (dv 0) (dv 3))) (ah (aT (aE fB (av aF (au a c (aa (dv 1) (aa (dv 4) ag))) (au a c (aa (dv 1) (aa (dv 5) ag)))) ae) (ak (gH 2 (au e c (aa (dv 4) (aa (dv 5) (aa (dv 1) ag)))))) aG) (ak (aT (aE Cv (au a c (aa (dv 1) (aa (dv 5) ag))) ae) (ak (gH 2 (dv 5))) aG)))))) (b9 2 (ak (ax (bK (by rfl) (by exact aV (osc:=aq k9) (xs:=["index"]) (ns:=["kept"]) (by decide +kernel)) (aM.cons 2 aM.nil) (eV (by rfl) d (aa (aD aY (by rfl) b QM (aa (dv 2) ag)) ag)) (λ_ _ _ _ _=>(uC (aE (nk (by exact c.units)) (ar (dv 1) (dv 0)) (UW.WH (mP (dv 1) cT (di (dv 0))))))) (λ_ _ _ _ _=>(ar (dv 1) (dv 0))))))))),?_⟩
 rintro ds Q Ed ⟨a,g,d,b,rfl,h⟩;x_go;unfold fE at h;obtain⟨hl,t,y,B,A,h⟩:=h;have m:∀{x:Int},Bd 200 x->Bd 1000 x:=λh=>h.mono (by decide)
 have u:∀p∈a,Bd 200 p.1/\Bd 200 p.2.1/\Bd 200 p.2.2:=λp e=>⟨(t p e).2.b.mono (by decide),(t p e).2.x.mono (by decide),(t p e).2.y.mono (by decide)⟩
 have s:∀{i:yav} {k:Nat} {p:Tr},i[k]?=some p->Qm (i.map Oe) (k:Int)=some (Oe p):=fun {i k p} e=>bb (by rw[Pw,e];rfl)
 lk;refine⟨QI _,?_⟩;refine PD.bq (List.range' 0 a.length) (λ(k:Nat)=>D.int (k:Int)) (λj e=>∃r o n:Option Sl,e=[some (.val (.lst false (a.map Oe))),some (.val (T3 g d b)),some (.own ((aO (g,d,b) (cR (g,d,b)) (a.getLastD (0,0,0)) (a.take j)).map Oe)),r,o,n]) (λR q=>?_) ⟨none,none,none,rfl⟩ ?_ ?_;lk;rw[N3,si];exact⟨⟨by lia,by lia⟩,q⟩;rintro j k N7 l ⟨r,o,n,rfl⟩;obtain⟨e,i⟩:=Ql.mp l;rw[Tb]at e;rw[Yl,UM,Nat.one_mul]at i;subst i;have N:a[j]?=some a[j]:=OH e;have U:Qm (a.map Oe) ((j:Int) - 1)=some (Oe ((a.take j).getLastD (a.getLastD (0,0,0)))):=by
  have:=xN (a.map Oe) j 1 (by rw[N3];exact e) (by rw[N3];lia);rw[show((j:Int) - 1)=((j:Int) - ((1:Nat):Int))from rfl,this,N3,Pw];have i:a[(j+a.length - 1) % a.length]?=some ((a.take j).getLastD (a.getLastD (0,0,0))):=by
   cases j with
   |zero =>
    have:(0+a.length - 1) % a.length=a.length - 1:=by rw[UM];exact SU (by lia)
    rw[this,List.take_zero,List.getLastD_nil,<- zDM,Z3];cases hq:a.getLast? with
    |none=>rw[zCs]at hq;rw[hq]at e;exact absurd e (by simp)
    |some z=>rfl
   |succ j =>
    have:(j+1+a.length - 1) % a.length=j:=by rw[show j+1+a.length - 1=j+a.length by lia,Zr];exact SU (by lia)
    rw[this,Z3,List.getLast?_take];simp;rw[OH (by lia)];rfl
  rw[i];rfl
 have G:(a.take j).getLastD (a.getLastD (0,0,0))∈a:=by
  rw[Z3];cases hq:(a.take j).getLast? with
  |some z=>exact(List.take_sublist j a).subset (List.mem_of_getLast? hq)
  |none =>
   rw[Option.getD_none,Z3];cases c:a.getLast? with
   |some z=>exact List.mem_of_getLast? c
   |none=>rw[zCs]at c;rw[c]at e;exact absurd e (by simp)
 have C:=sP (g,d,b) (cR (g,d,b)) (a.take j) (a.getLastD (0,0,0));have tl:(a.take j).length<=a.length:=by rw[Ua];lia
 have l:=Fq (g,d,b) (cR (g,d,b)) (a.getLastD (0,0,0)) (a.take j) a[j];rw[show a.take j++[a[j]]=a.take (j+1)by rw[WV,N];rfl]at l;generalize (a.take j).getLastD (a.getLastD (0,0,0))=p at U G l;have E:a[j]∈a:=RY _;generalize SG:a[j]=c at N E l;generalize aO (g,d,b) (cR (g,d,b)) (a.getLastD (0,0,0)) (a.take j)=K at C l ⊢;obtain⟨T,Q,O⟩:=u p G;obtain⟨M,L,J⟩:=u c E;have Y:K.length<=600000:=by lia
 have u:∀(e:yav) (I H:D),e.length<=600001->aO (g,d,b) (cR (g,d,b)) (a.getLastD (0,0,0)) (a.take (j+1))=e++(if 0<=NX (g,d,b) c then[c]else[])->iQ κ [T3 g d b,Oe c] (λx=>gP (λi j=>D.bl (decide (j<=i))) x (D.int 0) λx=>∃k,x=D.bl k/\if k=true then(e.map Oe).length<sizeLine/\∃r o n:Option Sl,([some (.val (.lst false (a.map Oe))),some (.val (T3 g d b)),some (.own (e.map Oe++[Oe c])),some (.val (.int j)),some (.val I),some (.val H)]:Ro)=[some (.val (.lst false (a.map Oe))),some (.val (T3 g d b)),some (.own ((aO (g,d,b) (cR (g,d,b)) (a.getLastD (0,0,0)) (a.take (j+1))).map Oe)),r,o,n]else∃r o n:Option Sl,([some (.val (.lst false (a.map Oe))),some (.val (T3 g d b)),some (.own (e.map Oe)),some (.val (.int j)),some (.val I),some (.val H)]:Ro)=[some (.val (.lst false (a.map Oe))),some (.val (T3 g d b)),some (.own ((aO (g,d,b) (cR (g,d,b)) (a.getLastD (0,0,0)) (a.take (j+1))).map Oe)),r,o,n]) λ_=>False:=λe I H Y e=>by show iQ κ [T3 g d b,T3 c.1 c.2.1 c.2.2] _ _;rw[jZ,j8,e];refine⟨m y,m B,m A,m M,m L,m J,?_⟩;rw[kB];refine⟨_,rfl,?_⟩;have i:(0<=sg (g*c.1+d*c.2.1+b*c.2.2))↔0<=NX (g,d,b) c:=L5 _;by_cases q:0<=NX (g,d,b) c;rw[N4 q,N4 (UK (i.mpr q))];exact⟨by rw[N3,sizeLine_eq];lia,_,_,_,by rw[QE];rfl⟩;rw[N2 q,N2 (by rw[decide_eq_true_eq];exact λz=>q (i.mp z)),VB];exact⟨_,_,_,rfl⟩
 lk;refine⟨_,U,_,s N,?_⟩;rw[gG,gG];show iQ κ [T3 g d b,T3 p.1 p.2.1 p.2.2] _ _;rw[jZ,j8];refine⟨m y,m B,m A,m T,m Q,m O,?_⟩;show iQ κ [T3 g d b,T3 c.1 c.2.1 c.2.2] _ _;rw[jZ,j8];refine⟨m y,m B,m A,m M,m L,m J,?_⟩;have i:(sg (g*p.1+d*p.2.1+b*p.2.2)*sg (g*c.1+d*c.2.1+b*c.2.2)<0)↔NX (g,d,b) p*NX (g,d,b) c<0:=L4 _ _;have j:∀x:Int,Bd 64 (sg x):=λx=>by unfold sg Bd;split;exact(by decide);split<;>decide
 rw[Bz,kB];refine⟨.inl (j _),_,rfl,?_⟩;by_cases q:NX (g,d,b) p*NX (g,d,b) c<0;rw[N4 (UK (i.mpr q))];rw[N4 q]at l;show dJ κ [T3 p.1 p.2.1 p.2.2,T3 c.1 c.2.1 c.2.2,T3 g d b] _ _;rw[iq,dI];refine⟨T,Q,O,M,L,J,y,B,A,?_,by rw[N3,sizeLine_eq];lia,?_⟩;rcases zZ (t p G).1 (t c E).1 q with⟨_,_,z⟩| ⟨_,_,z⟩<;>exact λe=>by rw[e]at z;exact Wl _ z
 have:=u (K++[cR (g,d,b) p c]) (Oe p) (Oe c) (by simp;lia) (by rw[l,UI]);rw[QE]at this;exact this;rw[N2 (by rw[decide_eq_true_eq];exact λz=>q (i.mp z))];rw[N2 q,UZ]at l;exact u K (Oe p) (Oe c) (by lia) l;rintro N7 ⟨r,o,n,rfl⟩;rw[Tb,Ub];have C:=sP (g,d,b) (cR (g,d,b)) a (a.getLastD (0,0,0));have c:fk (g,d,b) a=Sk [] (aO (g,d,b) (cR (g,d,b)) (a.getLastD (0,0,0)) a):=by
  unfold fk;cases hq:a.getLast? with
  |none =>
   rw[zCs]at hq;subst hq;rfl
  |some z=>rw[Z3,hq];rfl
 rw[c]at h;generalize aO (g,d,b) (cR (g,d,b)) (a.getLastD (0,0,0)) a=K at C h ⊢;have d:∀k,k<K.length->K[k]?=some (K.getD k (0,0,0)):=λk a=>by rw[Pg,OH a];rfl
 have g:∀k,k<=K.length->PD.cutD (K.map Oe) none (some (k:Int))=(K.take k).map Oe:=λk a=>by unfold PD.cutD;rw[HT.G4,HT.vC,List.drop_zero,Nat.sub_zero,N3,Nat.min_eq_left a,List.map_take]
 have e:∀(l:yav) (x:Tr),(l.map Oe).any (λz=>eqD z (Oe x))=l.any λy=>decide (y=x):=λl x=>by
  rw[List.any_map];congr 1
  funext y
  exact KZ y x
 lk;refine PD.comp_map (List.range' 0 K.length) (λ(k:Nat)=>D.int (k:Int)) (λk=>!(K.take k).any λy=>decide (y=K.getD k (0,0,0))) (λk=>Oe (K.getD k (0,0,0))) (λR q=>?_) (by rw[Tb,sizeLine_eq];lia) (λk a c b=>?_) (λk a _ c b=>?_) ?_;lk;rw[N3,si];exact⟨⟨by lia,by lia⟩,q⟩;have c:k<K.length:=by rw[XO]at a;lia
 lk;refine⟨_,s (d k c),?_⟩;rw[g k (by lia)];refine⟨?_,?_⟩;exact(Bp _).okI;exact⟨(Ry.map Bp).ok,_,.inr ⟨_,rfl⟩,_,rfl,by rw[e];exact b⟩;have c:k<K.length:=by rw[XO]at a;lia
 lk;exact⟨_,s (d k c),b⟩;have a:=yn (0,0,0) K [];rw[WR,UZ]at a;rw[<- a,O3]at h;exact h
def Ez (F:ay K "common" "common" sx f fd) (C:O7 K mg κ)  (b:vW P w K mg base κ)  : aI P w K mg base (CX1 P w) 6 f fd ["corners", "gauges"] (aL K (pV κ)):=by
 refine ay.okN F pM (by fin2) λ_ _ _ _ _ _ a=>⟨_,(ah (bI PassesOwn.never rfl (aN (dv 1)) (aW 2 pM.nd) (ak (aH 0 pM.nd (au b a (aa (dv 0) (aa (dv 2) ag)))))) (ak (ax (dv 0)))),?_⟩
 rintro u Q Ed ⟨b,a,rfl,h⟩;x_go;unfold jb at h;obtain⟨k,r,e,i,h⟩:=h;lk;refine PD.bq a Oe (λj c=>∃(t:Bool) (v:Option Sl),(0<j->t=true)/\c=[some (.val (.lst t ((aX (a.take j) b).map Oe))),some (.val (.lst false (a.map Oe))),v]) (λR q=>?_) ⟨false,none,λq=>absurd q (by lia),rfl⟩ ?_ ?_;lk;exact q;rintro j g p c ⟨t,v,d,rfl⟩;obtain⟨n,s⟩:=Ql.mp c;obtain⟨m,l⟩:=e j n;obtain⟨o,n,e⟩:=i g (Qh c);lk;show hW κ [.lst false ((aX (a.take j) b).map Oe),T3 g.1 g.2.1 g.2.2] _ _;rw[jG,fE];refine⟨m,l,o,n,e,?_⟩;have e:aX (a.take (j+1)) b=fk g (aX (a.take j) b):=by unfold aX;rw[WV,c];simp[List.foldl_append]
 exact⟨true,_,λ_=>rfl,by rw[e]⟩;rintro p ⟨t,v,d,rfl⟩;rw[Ub,d k];lk;exact h
def uf (F:ay K "owned_gauges" "owned_gauges" fH f fd) (C:O7 K mg κ)  (b:Fx P w K mg base κ) (c:Df P w K mg base κ) (d:mg "enumerate" = none):aI P w K mg base (CX1 P w) 4 f fd ["lists"] (aL K (ik κ)):=by
 refine ay.okN F eJ (by fin2) λ_ _ _ _ _ _ a=>⟨_,(ah (eU 1 eJ.nd ag) (ah (bI PassesOwn.never rfl (IF (by rfl) d (aa (dv 0) ag)) (tQ (n:=2) rfl (gf (aW 2 eJ.nd) (gf (aW 3 eJ.nd) qF))) (ak (i9 1 (bK (by rfl) (by exact aV (osc:=aq fH) (xs:=["gauge"]) (ns:=["index"]) (by decide +kernel)) (aM.cons 2 aM.nil) (aN (au b a (aa (au c a (aa (dv 3) ag)) ag))) (λ_ _ _ _ _=>bE) (λ_ _ _ _ _=>(aQ (aa (dv 1) (aa (dv 0) ag)))))))) (b9 1 (ak (ax (dv 1)))))),?_⟩
 rintro E Q Ed ⟨a,rfl,h⟩;x_go;unfold eI at h;obtain⟨L,h⟩:=h;lk;refine⟨QI _,?_⟩;refine PD.bq (List.range' 0 a.length) (λ(k:Nat)=>D.tup [.int (k:Int),cI (a.getD k [])]) (λj c=>∃(b:yas) (n m:Option Sl),bT b (a.take j)/\c=[some (.val (.lst false (a.map cI))),some (.own ((aZ 0 b).map Sm)),n,m]) (λR q=>?_) ⟨[],none,none,True.intro,rfl⟩ ?_ ?_;lk;refine⟨_,_,rfl,?_⟩;rw[Cj cI []];exact q;rintro j k y e ⟨b,n,m,rk,rfl⟩;obtain⟨d,c⟩:=Ql.mp e;rw[Tb]at d;rw[Yl,UM,Nat.one_mul]at c;subst c;have s:a[j]?=some a[j]:=OH d;have c:a.getD j []=a[j]:=by rw[Pg,s];rfl
 have k:a[j]∈a:=RY _;rw[c];generalize XA:a[j]=d at s k;have t:b.length=j:=by rw[rk.len,Ua];lia
 have z:(aZ 0 b).length<=64*b.length:=kS _ 0 λc e=>by
  obtain⟨g,i,r⟩:=rk.ex c e;have e:=(List.take_sublist j a).subset i;have:=(bV r).len;have:=L.le g e;have:=mI (aU c)
  lia
 have A:=L.l8;lk;refine DF (P:=λa:yav=>∃c,cJ c d/\a=aJ (aU c)/\a.length<1000) Oe (λ_=>true) (λg=>Sm ((j:Int),g)) (λR x=>?_) (λa i=>by obtain⟨_,_,_,q⟩:=i;rw[sizeLine_eq];lia) (λa i g e K o=>?_) (λa i g e K o=>?_) λa i=>?_
 lk;have q:=L.le d k;have e:∀p∈d,SB p:=λp a=>((L.bd d k p a).mono (by decide)).sb
 show mD κ [.lst false (d.map Od)] _ _;rw[nQ,j6];refine⟨by lia,e,λc l u=>?_⟩;have g:=bV l;have B:=g.len;have sb:∀p∈aU c,SB p:=λp a=>e p (g.mem p a)
 have p:0<(aU c).length:=by obtain⟨a,r,e,_⟩:=g.TU (XH (L.ne d k));rw[e];simp
 have bl:=mI (aU c);rw[bu,nZ,pU,kT];exact⟨p,by lia,sb,_,_,rfl,x _ ⟨c,l,rfl,by lia⟩⟩;lk;exact o;lk;exact⟨R5 _ _,o⟩;obtain⟨c,l,rfl,q⟩:=i;rw[RN.mpr (λ_ _=>rfl)];refine⟨_,rfl,by rw[N3,N3,sizeLine_eq];lia,b++[c],some (.val (.int (j:Int))),some (.val (cI d)),?_,?_⟩;rw[WV,s];exact rk.snoc l;rw[uh,QE,t,UM,O3];rfl;rintro y ⟨b,n,m,rk,rfl⟩;rw[Tb,Ub]at rk;lk;exact h b rk
def w9 (F:ay K "with_share" "with_share" kI f fd) (C:O7 K mg κ)    : aI P w K mg base (CX1 P w) 1 f fd ["gauge", "other", "share"] (aL K (fZ κ)):=by
 refine ay.okN F xg (by fin2) λ_ _ _ _ _ _ b=>⟨_,(ak (ax (aQ (aa (av bg (ar (dv 0) ae) (av aF (ar (dv 1) ae) (dv 2))) (aa (av bg (ar (dv 0) ae) (av aF (ar (dv 1) ae) (dv 2))) (aa (av bg (ar (dv 0) ae) (av aF (ar (dv 1) ae) (dv 2))) ag)))))),?_⟩
 rintro c Q Ed ⟨k,j,i,g,e,d,s,rfl,h⟩;x_go;unfold dN at h;obtain⟨A,B,a,h⟩:=h;lk;exact⟨Rz B.c a,Rz B.a a,Rz B.b a,Uh _ _ _,h⟩
def vh (F:ay K "last_needed" "last_needed" jB f fd) (C:O7 K mg κ)  (b:vW P w K mg base κ) (c:mg "len" = none):aI P w K mg base (CX1 P w) 6 f fd ["corners", "gauges"] (aL K (iM κ)):=by
 refine ay.okN F fJ (by fin2) λ_ _ _ _ _ _ a=>⟨_,(ah (aH 2 fJ.nd (cF ae)) (ah (mR PassesOwn.never (aE ua (aD aY (by rfl) c QM (aa (dv 0) ag)) ae) (ah (KP 2 fJ.nd ae Ll) (ak (aH 0 fJ.nd (au b a (aa (dv 0) (aa (ar (dv 1) (dv 2)) ag))))))) (ak (ax (dv 2))))),?_⟩
 rintro p Q Ed ⟨g,b,rfl,h⟩;obtain⟨o,e,k,a,n,d,q,h⟩:=h;lk;refine⟨λm c=>∃(j:Nat) (t:Bool),j<=a+1/\m=a+1 - j/\c=[some (.val (.lst t ((aX (b.take j) g).map Oe))),some (.val (.lst false (b.map Oe))),some (.val (.int ((j:Int) - 1)))],⟨_,0,false,by lia,rfl,rfl⟩,?_⟩;rintro m c ⟨j,t,i,rfl,rfl⟩;lk;rw[N3];by_cases c:j=a+1
 simp_all
 have c:=d j (by lia);rw[N4 (by have:=zDL.mpr c;lia)];obtain⟨l,h⟩:=e j (by lia);have c:b[j]?=some (b[j]'(by lia)):=OH _;have d:=k _ (RY (show j<b.length by lia));refine⟨_,rfl,?_⟩;lk;have e:Qm (b.map Oe) (j:Int)=some (Oe (b[j]'(by lia))):=bb (by rw[Pw,c];rfl);rw[show((j:Int) - 1+1)=(j:Int)by lia];refine⟨_,e,?_⟩;show hW κ [.lst false ((aX (b.take j) g).map Oe),T3 (b[j]'(by lia)).1 (b[j]'(by lia)).2.1 (b[j]'(by lia)).2.2] _ _;rw[jG,fE];refine⟨l,h,d.1,d.2.1,d.2.2,a+1 - (j+1),by lia,j+1,true,by lia,rfl,?_⟩;rw[xX c,show(((j+1:Nat):Int) - 1)=(j:Int)by lia]
def Aw (F:ay K "constant" "constant" jT f fd) (C:O7 K mg κ)   (a:mg "sum" = none) (b:mg "zip" = none):aI P w K mg base (CX1 P w) 1 f fd ["gauges", "numbers", "shares"] (aL K (lT κ)):=by
 refine ay.okN F AD (by fin2) λ_ _ _ _ _ _ t=>⟨_,(ak (ax (aD (oQ rfl) (by rfl) a boot_sum (aa (kg (by rfl) (by exact aV (osc:=aq jT) (xs:=["number", "share"]) (ns:=["gauges"]) (by decide +kernel)) (aM.cons 0 aM.nil) (.cons (.cons .nil)) (pf (by rfl) b (aa (dv 1) (aa (dv 2) ag))) (λ_ _ _ _ _=>bE) (λ_ _ _ _ _=>(av aF (ar (ar (dv 2) (dv 0)) ae) (dv 1)))) ag)))),?_⟩
 rintro u Q Ed ⟨c,ns,g,rfl,h⟩;x_go;obtain⟨d,rfl,r,s,p,m,l,h⟩:=h;have o:∀k∈d,c[k]?=some (c.getD k (0,0,0)):=by simp_all
 lk;refine PD.i8 (d.zip g) (λz=>[.int ((z.1:Nat):Int),.int z.2]) (λ_=>true) (λz=>.int ((c.getD z.1 (0,0,0)).1*z.2)) (λR q=>?_) (by grind [List.length_zip,sizeLine_eq]) (λ_=>rfl) (λz j K i=>?_) (λz j _ K i=>?_) ?_;lk;have e:=vS d g;rw[O3];rw[show(List.map ((λn=>D.int n)∘λ(k:Nat)=>(k:Int)) d)=d.map (λ(k:Nat)=>D.int (k:Int))from rfl,e];exact q;exact i;have e:=VE (a:=z.1) (b:=z.2) j;have Xk:Qm (c.map Oe) ((z.1:Nat):Int)=some (Oe (c.getD z.1 (0,0,0))):=bb (by simp_all);refine⟨_,Xk,?_⟩;have a:=m _ (Qh (o z.1 e.1));rw[show Oe (c.getD z.1 (0,0,0))=D.tup [.int (c.getD z.1 (0,0,0)).1,.int (c.getD z.1 (0,0,0)).2.1,.int (c.getD z.1 (0,0,0)).2.2]from rfl];lk;exact⟨Rz a (l _ e.2),i⟩;rw[RN.mpr (λ_ _=>rfl)];refine⟨true,(d.zip g).map λz=>(c.getD z.1 (0,0,0)).1*z.2,by rw[O3];rfl,?_⟩;exact h
def Jc (F:ay K "bars" "bars" uk f fd) (C:O7 K mg κ)  (e:vV P w K mg base κ) (c:BV P w K mg base κ) (d:wW P w K mg base κ) (b:l9 P w K mg base κ) (g:mg "list" = none) (h:mg "zip" = none):aI P w K mg base (CX1 P w) 7 f fd ["corners", "gauges"] (aL K (vK κ)):=by
 refine ay.okN F mr (by fin2) λ_ _ _ _ _ _ a=>⟨_,(ah (aH 2 mr.nd (au d a (aa (dv 0) (aa (dv 1) ag)))) (ak (bI PassesOwn.never rfl (aN (av bg (au b a (aa (dv 2) (aa ae ag))) (au b a (aa (dv 2) (aa ae ag))))) (aW 3 mr.nd) (ah (aH 4 mr.nd (av bg (dv 3) (bN (aa (dv 2) ag)))) (ah (aH 5 mr.nd (au e a (aa (bK (by rfl) (by exact aV (osc:=aq uk) (xs:=["number"]) (ns:=["gauges"]) (by decide +kernel)) (aM.cons 1 aM.nil) (aN (dv 4)) (λ_ _ _ _ _=>bE) (λ_ _ _ _ _=>(oW (ar (dv 1) (dv 0)) (di ae) cT))) ag))) (ak (aT (SK.pt (yB (aE ml (dv 5) dh) (u0 (aE fB (au c a (aa (dv 1) (aa (dv 4) (aa (dv 5) ag)))) ae)))) (ak (ax ((Cg rfl (by rfl) g (by rfl) h (aa (dv 4) (aa (dv 5) ag)))).WH)) aG))))))),?_⟩
 rintro t Q Ed ⟨k,l,rfl,h⟩;x_go;unfold mq at h;obtain⟨e,d,p,a,g,c,i,r,b,h⟩:=h;lk;refine⟨e,d,p,a,g,c,i,?_⟩;have c:∀i,i<=2->(Oi a i).length<=1000000:=λi d=>Pe (ve a i) (Pe (Zi (show a<=1000 by lia) i) (Pe (WO (by decide) d) (by decide)))
 refine PD.bq (Oi a 1++Oi a 2) QX (λj d=>∃n m i:Option Sl,gK l a ((Oi a 1++Oi a 2).drop j)=some r/\d=[some (.val (.lst false (k.map Oe))),some (.val (.lst false (l.map Oe))),some (.val (.int (a:Int))),n,m,i]) (λR q=>?_) ⟨none,none,none,b,rfl⟩ ?_ ?_;lk;have e:=QE (f:=QX) (l₁:=Oi a 1) (l₂:=Oi a 2);rw[e]at q;refine⟨a,1,rfl,rfl,by lia,by decide,by rw[Nat.pow_one];lia,a,2,rfl,rfl,by lia,by decide,Pe (Zi (show a<=1000 by lia) 2) (by decide),?_,q⟩;have:=c 1 (by decide);have:=c 2 (by decide);rw[N3,N3,sizeLine_eq]
 lia
 rintro j o r b ⟨n,m,i,d,rfl⟩;obtain⟨e,c⟩:=Ql.mp b;rw[Wi e,c]at d;obtain⟨s,e⟩:=HA (Qh b);have lt':∀k∈o++[a],k<l.length:=λk c=>by
  rcases PU.mp c with q|q;have:=e k q;lia;rw[QU.mp q];exact g
 have j:∀k∈o++[a],l[k]?=some (l.getD k (0,0,0)):=λk c=>by rw[Pg,OH (lt' k c)];rfl
 have b:(o.map λ(k:Nat)=>D.int (k:Int))++[D.int (a:Int)]=(o++[a]).map λ(k:Nat)=>D.int (k:Int):=by rw[QE];rfl
 unfold QX;lk;have lo:(o++[a]).length<=3:=by rw[QZ,Z5];lia
 refine⟨ZG _,by rw[N3,sizeLine_eq];show _+1<=_;lia,?_⟩;rw[b];refine PD.comp_map (o++[a]) (λ(k:Nat)=>D.int (k:Int)) (λ_=>true) (λk=>Od (vc (l.getD k (0,0,0)))) (λR q=>?_) (by rw[sizeLine_eq];lia) (λk c K b=>?_) (λk c _ K b=>?_) ?_;lk;exact q;lk;exact b;lk;have e:Qm (l.map Oe) ((k:Nat):Int)=some (Oe (l.getD k (0,0,0))):=bb (by rw[Pw,j k c];rfl);exact⟨_,e,_,rfl,by show¬(HT.OU 3 0 (some 1)=0/\_);exact λz=>absurd z.1 (by decide),b⟩;rw[RN.mpr (λ_ _=>rfl)];have q:(o++[a]).map (λk=>Od (vc (l.getD k (0,0,0))))=(S9 l (o++[a])).map Od:=by unfold S9;rw[O3];rfl
 have g:(S9 l (o++[a])).length=(o++[a]).length:=by unfold S9;rw[N3]
 have e:∀w∈S9 l (o++[a]),WB 400 w:=λw b=>by obtain⟨k,c,rfl⟩:=Ol.mp b;have b:=p _ (Qh (j k c));exact⟨b.2.1.mono (by decide),b.2.2.mono (by decide)⟩
 rw[q,bu,fL,jF,gR];refine⟨by rw[g];simp,by lia,e,?_⟩;unfold gK at d;cases Zc:dU (S9 l (o++[a]))with
 |none =>
  rw[Zc]at d;rw[N2 (show¬dG (oL none)=false by decide)];exact⟨_,_,_,d,rfl⟩
 |some b =>
  rw[Zc]at d;have B:=oN (by lia) Zc;have j:=xQ e (by lia) Zc;have e:(o++[a]).length=b.length:=by rw[B.len,g]
  have g:(o++[a]).map (λ(k:Nat)=>D.int (k:Int))=((o++[a]).map λ(k:Nat)=>(k:Int)).map D.int:=by rw[O3];rfl
  rw[N4 (show dG (oL (some b))=false from rfl)];have c:aK (oL (some b))=.lst false (b.map D.int):=by show aK (.lst true (b.map D.int))=_;rw[bu,b6]
  rw[c];have c:bC ((o++[a]).map (λ(k:Nat)=>D.int (k:Int)))=((o++[a]).map λ(k:Nat)=>(k:Int)).map D.int:=by rw[g,b6]
  rw[c,mC,iU];refine⟨o++[a],rfl,e,lo,lt',λg c=>(p g c).1,j,?_⟩;rw[kB];refine⟨_,rfl,?_⟩;by_cases c:oR l (o++[a]) b<0;dsimp only at d;rw[N4 c]at d;cases d;rw[N4 (UK c)];refine⟨_,_,true,true,_,_,rfl,rfl,rfl,by rw[N3,N3];exact e,by rw[N3];lia,?_⟩;rw[vS];exact h;dsimp only at d;rw[N2 c]at d;rw[N2 (by rw[decide_eq_true_eq];exact c)];exact⟨_,_,_,d,rfl⟩
 rintro r ⟨n,m,i,d,rfl⟩;rw[List.drop_length]at d;cases d
def Av (F:ay K "bar_rows" "bar_rows" jS f fd) (C:O7 K mg κ)  (b:xE P w K mg base κ) (c:mg "sorted" = none):aI P w K mg base (CX1 P w) 2 f fd ["owned", "shares"] (aL K (lS κ)):=by
 refine ay.okN F fU (by fin2) λ_ _ _ _ _ _ a=>⟨_,(ah (DZ 2 fU.nd) (ah (bI PassesOwn.never rfl (aN (dv 1)) (tQ (n:=2) rfl (gf (aW 3 fU.nd) (gf (aW 4 fU.nd) qF))) (ah (aH 5 fU.nd (ar (ar (dv 0) (dv 3)) ae)) (ak (Ik 2 (by exact Cn a) (dv 5) (au b a (aa (Ij 2 (by exact Cn a) (dv 5) (aQ (aa ae (aa ae (aa ae ag))))) (aa (ar (ar (dv 0) (dv 3)) ae) (aa (dv 4) ag)))))))) (Am 2 (ak (ax (bK (by rfl) (by exact aV (osc:=aq jS) (xs:=["owner"]) (ns:=["sums"]) (by decide +kernel)) (aM.cons 2 aM.nil) (aN ((F7 rfl (by rfl) c (dv 2))).WH) (λ_ _ _ _ _=>bE) (λ_ _ _ _ _=>(aQ (aa (dv 0) (aa (KH (by exact Cn a) (dv 1) (dv 0)) ag)))))))))),?_⟩
 rintro y Q Ed ⟨os,a,rfl,h⟩;x_go;unfold fQ at h;obtain⟨u,o,g,tb,l,m,h⟩:=h;lk;have d:∀z∈a,os[z.1]?=some (os.getD z.1 (0,0,0,0)):=λz b=>by rw[Pg,OH (o z b).1];rfl
 refine PD.bq a dZ (λj b=>∃k i e:Option Sl,b=[some (.val (.lst false (os.map Sm))),some (.val (.lst false (a.map dZ))),some (.ob (.dk (lY (cf ((gC os a).take j))))),k,i,e]) (λR q=>?_) ⟨none,none,none,rfl⟩ ?_ ?_;lk;exact q;rintro j z t b ⟨k,i,e,rfl⟩;have c:=Qh b;have s:j<a.length:=(Ql.mp b).1;have Xk:Qm (os.map Sm) ((z.1:Nat):Int)=some (.tup [.int (os.getD z.1 (0,0,0,0)).1,Oe (os.getD z.1 (0,0,0,0)).2]):=bb (by rw[Pw,d z c];rfl);have p:=g _ (Qh (d z c));have d:cf ((gC os a).take (j+1))=stT (cf ((gC os a).take j)) ((os.getD z.1 (0,0,0,0)).1,(os.getD z.1 (0,0,0,0)).2,z.2):=by unfold cf;rw[List.take_add_one,show(gC os a)[j]?=some ((os.getD z.1 (0,0,0,0)).1,(os.getD z.1 (0,0,0,0)).2,z.2)by unfold gC;rw[Pw,b];rfl,List.foldl_append];rfl
 rw[d];have b:=tb j;have d:=l j;generalize cf ((gC os a).take j)=T at b d ⊢;generalize os.getD z.1 (0,0,0,0)=g at Xk p ⊢;have d:∀n,Bd n 0:=λn=>by unfold Bd;simp;exact Nat.two_pow_pos n
 have j:TB 990 ((RV T g.1).getD (0,0,0)):=by
  cases hl:RV T g.1 with
  |none=>exact⟨d _,d _,d _⟩
  |some x=>have q:=b _ (yY hl);exact⟨q.c.mono (by lia),q.a.mono (by lia),q.b.mono (by lia)⟩
 have b:((RV T g.1).map Oe).getD (D.tup [D.int 0,D.int 0,D.int 0])=Oe ((RV T g.1).getD (0,0,0)):=by cases RV T g.1<;>rfl
 unfold dZ;lk;refine⟨_,Xk,?_⟩;lk;refine⟨Uh _ _ _,Sum.inl g.1,rfl,_,Xk,?_⟩;lk;rw[nc,b,gG];show fZ κ [T3 ((RV T g.1).getD (0,0,0)).1 ((RV T g.1).getD (0,0,0)).2.1 ((RV T g.1).getD (0,0,0)).2.2,T3 g.2.1 g.2.2.1 g.2.2.2,.int z.2] _ _;rw[kO,dN];refine⟨j,p,(o z c).2,Sum.inl g.1,rfl,by unfold lY;rw[N3,sizeLine_eq];lia,some (.val (.int ((z.1:Nat):Int))),some (.val (.int z.2)),some (.val (.int g.1)),?_⟩;rw[Js];rfl;rintro t ⟨k,i,e,rfl⟩;have b:a.length=(gC os a).length:=by unfold gC;rw[N3]
 rw[b,Ub];generalize j:cf (gC os a)=T at m h;have r:T.length<=3:=by
  have q:=l a.length;rw[b,Ub,j]at q
  lia
 refine⟨T.map (·.1),T.map λx=>Oe x.2,by rw[N3,N3],by rw[vU];rfl,?_⟩;lk;refine xY (P:=λa:yaf=>a.Perm (T.map (·.1))/\a.Pairwise (·<·)) (λn=>D.int n) (λo=>Sm (o,(RV T o).getD (0,0,0))) (λR d=>?_) (λa b=>by have:=b.1.length_eq;rw[N3]at this;rw[sizeLine_eq];lia) (λa b o e K c=>?_) λa b=>?_
 lk;exact⟨_,_,rfl,by rw[N3];lia,λa p q=>d a ⟨p,q⟩⟩;obtain⟨x,d,g⟩:=Ol.mp (b.1.mem_iff.mp e);have lk:=Cq m d;rw[g]at lk;lk;refine⟨_,_,_,Oe x.2,rfl,rfl,by rw[N3,N3],?_,R5 _ _,?_⟩;rw[vU,nc,lk];rfl;rw[lk]at c;exact c;have q:=h a b.1 b.2;unfold jA at q;rw[O3]at q;exact q
def w6 (F:ay K "hulls_meet" "hulls_meet" fe f fd) (C:O7 K mg κ)  (d:BU P w K mg base κ) (b:J0 P w K mg base κ) (c:Fy P w K mg base κ) (g:Df P w K mg base κ) (e:Dh P w K mg base κ) (h:uQ P w K mg base κ) (i:mg "len" = none):aI P w K mg base (CX1 P w) 8 f fd ["lists"] (aL K (jH κ)):=by
 refine ay.okN F dO (by fin2) λ_ _ _ _ _ _ a=>⟨_,(ah (aH 1 dO.nd (au h a (aa (dv 0) ag))) (ah (fx 2 dO.nd (by rfl) (by exact aV (osc:=aq fe) (xs:=["pair"]) (ns:=[]) (by decide +kernel)) aM.nil (aN (dv 1)) (λ_ _ _ _ _=>bE) (λ_ _ _ _ _=>(ar (dv 0) ae))) (ah (aH 3 dO.nd (au g a (aa (ar (dv 0) ae) ag))) (ah (aH 4 dO.nd (au c a (aa (dv 3) (aa (dv 2) ag)))) (ah (aT (aE bQ (aD aY (by rfl) i QM (aa (dv 4) ag)) ae) (ak (ax (aQ (aa kh (aa (au d a (aa (dv 1) (aa (au b a (aa (dv 3) (aa (dv 2) ag))) ag))) ag))))) aG) (ak (ax (aQ (aa kh (aa (ar (dv 4) ae) (aa (bK (by rfl) (by exact aV (osc:=aq fe) (xs:=["spots"]) (ns:=["shared"]) (by decide +kernel)) (aM.cons 4 aM.nil) (aN (dv 0)) (λ_ _ _ _ _=>bE) (λ_ _ _ _ _=>(oW (au e a (aa (dv 0) (aa (ar (dv 1) ae) ag))) (di ae) cT))) ag))))))))))),?_⟩
 rintro H Q Ed ⟨s,rfl,h⟩;x_go;unfold cV at h;obtain⟨L,h⟩:=h;lk;refine⟨L,λc rk=>?_⟩;have St:=mW L rk;have n:(aZ 0 c).length<=512:=by have q:=St.le;unfold Of at q;rw[N3]at q;exact q
 refine PD.comp_map (aZ 0 c) Sm (λ_=>true) (λx=>Oe x.2) (λR q=>?_) (by rw[sizeLine_eq];lia) (λx m K k=>?_) (λx m _ K k=>?_) ?_;lk;exact q;lk;exact k;unfold Sm;lk;exact k;rw[RN.mpr (λ_ _=>rfl)];have a:(aZ 0 c).map (λx=>Oe x.2)=(Of c).map Oe:=by unfold Of;rw[O3];rfl
 rw[a];obtain⟨a,Lr,d⟩:∃p r,s=p::r:=by
  cases s with
  |nil=>exact absurd L.l0 (by simp)
  |cons p r=>exact⟨p,r,rfl⟩
 obtain⟨i,A,g⟩:∃p r,c=p::r:=by
  cases c with
  |nil=>rw[d]at rk;exact rk.elim
  |cons p r=>exact⟨p,r,rfl⟩
 have b:a∈s:=by rw[d];simp
 have e:cJ i a:=by rw[d,g]at rk;exact rk.1
 have l:c.getD 0 []=i:=by rw[g];rfl
 refine⟨cI a,bb (j:=0) (by rw[d];rfl),?_⟩;rw[sN];show mD κ [.lst false (a.map Od)] _ _;rw[nQ,j6];refine⟨by have:=L.le a b;lia,λp o=>((L.bd a b p o).mono (by decide)).sb,λb d _=>?_⟩;have a:=GW d e;have d:(aU b).map O9=(F0 c).map Oe:=by unfold F0;rw[l,a,O3];rfl
 have a:∀(t:Bool) (l:yav),aK (.lst t (l.map Oe))=.lst false (l.map Oe):=λt l=>by rw[bu,uG]
 rw[d,a,a,pW,jb];obtain⟨Z,d,a⟩:=St.zs;have b:∀j,(aX ((Of c).take j) (F0 c)).length<=300000/\∀p∈aX ((Of c).take j) (F0 c),0<p.1/\CB 40 p:=λj=>⟨Pe (a j).len d,λp o=>⟨((a j).pr p o).pos,(a j).cb p o⟩⟩
 have a:∀g∈Of c,Bd 200 g.1/\Bd 200 g.2.1/\Bd 200 g.2.2:=λg d=>by have B:=(St.gb g d).1;exact⟨B.c.mono (by decide),B.a.mono (by decide),B.b.mono (by decide)⟩
 have G:(Of c).length<=512:=by unfold Of;rw[N3];exact n
 refine⟨St.pos,by lia,λj _=>b j,a,?_⟩;cases hc:aX (Of c) (F0 c)with
 |nil =>
  refine⟨[],.inl ⟨true,rfl⟩,?_⟩;rw[N4 (show(((([]:yar).length:Nat):Int))=0 from rfl),uz,mq];obtain⟨d,r,u,y,⟨g,e⟩,i⟩:=tw St hc;refine⟨by lia,λj _=>b j,a,d,r,u,y,(g,e),i,?_⟩;have P:=CI St r i;have t:=zw L rk St P;have a:(g.zip e).length<=3:=by rw[Yt];have:=P.l3;lia
  have b:gC (aZ 0 c) (g.zip e)=TY c g e:=rfl;rw[bu,uF,mB,fQ,b];refine⟨a,λz l=>⟨P.lt _ (VE (a:=z.1) (b:=z.2) l).1,P.bs _ (VE (a:=z.1) (b:=z.2) l).2⟩,λx m=>?_,λn x m=>?_,λn=>?_,?_,λa l sm=>⟨R5 _ _,h _ ⟨c,rk,.inr ⟨d,g,e,a,hc,r,u,y,i,l,sm,rfl⟩⟩⟩⟩;have B:=(St.gb x.2 (Ol.mpr ⟨x,m,rfl⟩)).1;exact⟨B.c.mono (by decide),B.a.mono (by decide),B.b.mono (by decide)⟩;have q:=((t n).ok x m).2;have E:((TY c g e).take n).length<=n:=by rw[Ua];lia
  exact⟨q.c.mono (by lia),q.a.mono (by lia),q.b.mono (by lia)⟩;have q:=(t n).le;rw[Ua]at q
  lia
  have q:=(t (TY c g e).length).nd;rw[Ub]at q;exact q
 |cons y rest =>
  have a:y∈aX (Of c) (F0 c):=by rw[hc];simp
  obtain⟨e,d⟩:=nh L rk St a;have YQ:Qm ((y::rest).map Oe) 0=some (Oe y):=bb (j:=0) rfl;have b:=h _ ⟨c,rk,.inl ⟨y,rest,hc,rfl⟩⟩;refine⟨_,.inl ⟨true,rfl⟩,?_⟩;rw[N2 (by rw[N3,Rl];lia),se];generalize y::rest=I at YQ ⊢;refine⟨_,YQ,?_⟩;refine PD.comp_map s cI (λ_=>true) (λa=>da ((cq (a.map (N9 y)) (cO a.length)).getD ([],[]))) (λR q=>?_) (by have:=L.l8;rw[sizeLine_eq];lia) (λx m K k=>?_) (λa l _ K k=>?_) ?_;lk;exact q;lk;exact k;lk;refine⟨_,YQ,?_⟩;rw[gG];show jY κ [.lst false (a.map Od),T3 y.1 y.2.1 y.2.2] _ _;rw[oz,gS];refine⟨L.ne a l,L.le a l,λp o=>((L.bd a l p o).mono (by decide)).sb,d.cb.pb d.pr,_,e a l,?_⟩;exact⟨_,rfl,by show¬(HT.OU 3 0 (some 1)=0/\_);exact λz=>absurd z.1 (by decide),k⟩;rw[RN.mpr (λ_ _=>rfl)];refine⟨Uh _ _ _,?_⟩;unfold gN at b;rw[O3]at b;exact b
def zo (F:ay K "_law_whole" "_law_whole" lO f fd) (C:O7 K mg κ)   (c:mg "bool" = none) (b:mg "int" = none) (a:mg "isinstance" = none):aI P w K mg base (CX1 P w) 1 f fd ["_law_found"] (aL K (kL κ)):=by
 refine ay.okN F zE (by fin2) λ_ _ _ _ _ _ d=>⟨_,(ak (ax (yo (eR (by rfl) a (by rfl) b boot_int (.inl rfl) (dv 0)) (yq (KG (eR (by rfl) a (by rfl) c boot_bool (.inr (.inl rfl)) (dv 0))))))),?_⟩
 rintro e Q Ed ⟨a,rfl,h⟩;lk;exact h
def vi (F:ay K "_law_cell_at" "_law_cell_at" jC f fd) (C:O7 K mg κ)   (a:mg "len" = none):aI P w K mg base (CX1 P w) 1 f fd ["_law_script", "_law_k"] (aL K (iN κ)):=by
 refine ay.okN F vI (by fin2) λ_ _ _ _ _ _ c=>⟨_,(ah (aT (aE fB (dv 1) (aD aY (by rfl) a QM (aa (dv 0) ag))) (ak (ax (ar (dv 0) (dv 1)))) aG) (ak (ax ae))),?_⟩
 rintro d Q Ed ⟨b,k,rfl,h⟩;x_go;lk
 simp_all [N4,N3,FQ,N2]
def vj (F:ay K "_law_divisor" "_law_divisor" jD f fd) (C:O7 K mg κ)   (a:mg "abs" = none):aI P w K mg base (CX1 P w) 1 f fd ["_law_one", "_law_other"] (aL K (iO κ)):=by
 refine ay.okN F fK (by fin2) λ_ _ _ _ _ _ e=>⟨_,(ah (aH 2 fK.nd (aD oP (by rfl) a boot_abs (aa (dv 0) ag))) (ah (aH 3 fK.nd (aD oP (by rfl) a boot_abs (aa (dv 1) ag))) (ah (mR PassesOwn.never (aE ky (dv 3) ae) (ak (KQ 2 3 rfl fK.nd (by decide) (aa (dv 3) (aa (av bR (dv 2) (dv 3)) ag))))) (ak (ax (dv 2)))))),?_⟩
 rintro g Q Ed ⟨a,b,rfl,h⟩;x_go;lk;refine⟨λm c=>∃(x y:Int),c=[some (.val (.int a)),some (.val (.int b)),some (.val (.int x)),some (.val (.int y))]/\Int.gcd x y=Int.gcd a b/\m=y.natAbs/\0<=x/\0<=y,⟨_,_,_,rfl,PM.IC a b,rfl,by lia,by lia⟩,?_⟩;rintro m c ⟨x,y,rfl,c,rfl,d,b⟩;lk;by_cases a:y=0;subst a;rw[PM.D7]at c
 lia
 rw[N2 a];refine⟨a,?_⟩;exact⟨_,PM.wu x a,y,x.fmod y,rfl,(PM.yJ x y).trans c,rfl,b,zC4 x (by lia)⟩
def ue (F:ay K "_law_is_place" "_law_is_place" iI f fd) (C:O7 K mg κ)  (c:wY P w K mg base κ) (b:qZ P w K mg base κ) (g:mg "isinstance" = none) (e:mg "len" = none) (d:mg "tuple" = none):aI P w K mg base (CX1 P w) 2 f fd ["_law_found"] (aL K (eK κ)):=by
 refine ay.okN F uq (by fin2) λ_ _ _ _ _ _ a=>⟨_,(ah (aT (SK.pt (d9 (cG (cM (eR (by rfl) g (by rfl) d boot_tuple (.inr (.inr (.inl rfl))) (dv 0)))) (gM (aE ky (aD aY (by rfl) e QM (aa (dv 0) ag)) ae)))) (ak (ax fq)) aG) (ah (aT (SK.pt (d9 (cG (cM (au b a (aa (ar (dv 0) ae) ag)))) (d9 (cG (cM (au b a (aa (ar (dv 0) ae) ag)))) (d9 (cG (cM (au b a (aa (ar (dv 0) ae) ag)))) (gM (aE fB (ar (dv 0) ae) ae)))))) (ak (ax fq)) aG) (ak (ax (ma bQ (au c a (aa (au c a (aa (ar (dv 0) ae) (aa (ar (dv 0) ae) ag))) (aa (ar (dv 0) ae) ag))) ae))))),?_⟩
 rintro k Q Ed ⟨c,b,a,rfl,h⟩;x_go;obtain⟨⟨i,j⟩,h⟩:=h;have d:(((Int.gcd (Int.gcd c b:Int) a:Nat)):Int)=1:=by
  have e:((PM.g3 c b a:Nat):Int)=1:=by lia
  exact e
 lk;rw[N4 (by rfl),N2 (by lia),UK d];exact h
def EA (F:ay K "deals" "deals" sy f fd) (C:O7 K mg κ)   (a:mg "len" = none):aI P w K mg base (CX1 P w) 1 f fd ["numbers", "sizes"] (aL K (pX κ)):=by
 refine ay.okN F wM (by fin2) λ_ _ _ _ _ _ c=>⟨_,(ah (aT (aE bQ (aD aY (by rfl) a QM (aa (dv 1) ag)) ae) (ak (ax (bN (aa (bN ag) ag)))) aG) (ah (eU 2 wM.nd ag) (ah mQ (b9 2 (ak (ax (dv 2))))))),?_⟩
 rintro e Q Ed ⟨b,d,rfl,h⟩;x_go;obtain⟨rfl,h⟩:=h;lk;split
 simp_all [QI,sizeLine_eq]
 simp_all
def EB (F:ay K "deals" "deals" iD f fd) (C:O7 K mg κ)  (c:Fz P w K mg base κ) (d:l9 P w K mg base κ) (b:mg "len" = none):aI P w K mg base (CX1 P w) 2 f fd ["numbers", "sizes"] (aL K (pY κ)):=by
 refine ay.okN F jg (by fin2) λ_ _ _ _ _ _ a=>⟨_,(ah (aT (aE bQ (aD aY (by rfl) b QM (aa (dv 1) ag)) ae) (ak (ax (bN (aa (bN ag) ag)))) aG) (ah (eU 2 jg.nd ag) (ah (bI PassesOwn.never rfl (aN (au d a (aa (aD aY (by rfl) b QM (aa (dv 0) ag)) (aa (ar (dv 1) ae) ag)))) (aW 3 jg.nd) (ah (aH 4 jg.nd (bK (by rfl) (by exact aV (osc:=aq iD) (xs:=["index"]) (ns:=["numbers"]) (by decide +kernel)) (aM.cons 0 aM.nil) (aN (dv 3)) (λ_ _ _ _ _=>bE) (λ_ _ _ _ _=>(ar (dv 1) (dv 0))))) (ah (fx 5 jg.nd (by rfl) (by exact aV (osc:=aq iD) (xs:=["number"]) (ns:=["group"]) (by decide +kernel)) (aM.cons 4 aM.nil) (aN (dv 0)) (λ_ _ _ _ _=>(uC (aE (nk (by exact a.units)) (dv 0) (dv 1)))) (λ_ _ _ _ _=>(dv 0))) (ak (i9 2 (bK (by rfl) (by exact aV (osc:=aq iD) (xs:=["others"]) (ns:=["group"]) (by decide +kernel)) (aM.cons 4 aM.nil) (aN (au c a (aa (dv 5) (aa (oW (dv 1) (di ae) cT) ag)))) (λ_ _ _ _ _=>bE) (λ_ _ _ _ _=>(av bg (bN (aa (dv 1) ag)) (dv 0))))))))) (b9 2 (ak (ax (dv 2))))))),?_⟩
 rintro u Q Ed ⟨ns,d,rfl,h⟩;x_go;unfold kU at h;obtain⟨k,rfl,p,d,h⟩:=h;lk;rw[N2 (by simp<;>lia)];refine⟨QI _,?_⟩;have c:∀{a:yag},a∈Oi ns.length k->a.length=k/\∀i∈a,i<ns.length:=λh=>bM h
 refine PD.bq (Oi ns.length k) QX (λj b=>∃m g e:Option Sl,b=[some (.val (.lst false (ns.map D.int))),some (.val (.tup (.int (k:Int)::([])))),some (.own ((((Oi ns.length k).take j).flatMap λa=>(R6 ([]) (cD ns (bD ns a))).map (bD ns a::·)).map Tv)),m,g,e]) (λR q=>?_) ⟨none,none,none,rfl⟩ ?_ ?_;lk;exact⟨ns.length,k,by rw[N3],rfl,by lia,by lia,Pe (Zi d k) (Pe (WO (by decide) p) (by decide)),q⟩;rintro j a s r ⟨m,g,e,rfl⟩;obtain⟨t,n⟩:=c (Qh r);lk;refine PD.comp_map a (λ(i:Nat)=>D.int (i:Int)) (λ_=>true) (λi=>D.int (ns.getD i 0)) (λR q=>?_) (by rw[sizeLine_eq];lia) (λi c K b=>?_) (λi c _ K b=>?_) ?_;unfold QX;lk;exact q;lk;exact b;lk;have l:=n i c;exact⟨_,bb (by rw[Pw,OH l,Pg,OH l];rfl),b⟩;rw[RN.mpr (λ_ _=>rfl),show(a.map λi=>D.int (ns.getD i 0))=(bD ns a).map D.int by unfold bD;rw[O3];rfl];lk;refine PD.comp_map ns D.int (λn=>!(bD ns a).contains n) D.int (λR q=>?_) (by rw[sizeLine_eq];lia) (λn c K b=>?_) (λn c _ K b=>?_) ?_;lk;exact q;lk;refine⟨of_eq_true (vg n),(Ry.map (Ry.int 0)).ok,_,.inr ⟨_,rfl⟩,_,rfl,?_⟩;rw[qu];exact b;lk;exact b;rw[show ns.filter (λn=>!(bD ns a).contains n)=cD ns (bD ns a)from rfl];lk;refine PD.comp_map (R6 ([]) (cD ns (bD ns a))) Tv (λ_=>true) (λo=>Tv (bD ns a::o)) (λR q=>?_) ?_ (λn c K b=>?_) (λn c _ K b=>?_) ?_;lk;exact⟨λz=>absurd (show HT.OU 1 0 (some 1)=0 from z.1) (by decide),rfl,q⟩;have:=dP ([]) (cD ns (bD ns a)) (Pe (cL _ _) d) (by simp);rw[sizeLine_eq];simp only[Rl,WR]at this
 lia
 lk;exact b;have i:=qy c;unfold Tv at b ⊢;rw[Pq]at b;lk;exact⟨by rw[sizeLine_eq];simp,by rw[N3,i,sizeLine_eq];simp,b⟩;rw[RN.mpr (λ_ _=>rfl)];have i:=kj (l:=(Oi ns.length k).take j) (f:=λa=>(R6 ([]) (cD ns (bD ns a))).map (bD ns a::·)) (B:=1225) λa _=>by rw[N3];exact Pe (dP _ _ (Pe (cL _ _) d) (by simp)) (by simp)
 have c:((Oi ns.length k).take j).length<=35:=Pe (List.length_take_le' _ _) (xq d p);have b:=dP ([]) (cD ns (bD ns a)) (Pe (cL _ _) d) (by simp);simp only[Rl,WR]at b;lk;refine⟨?_,_,_,_,by rw[qP r,QE,O3];rfl⟩;rw[N3,N3,sizeLine_eq];have x:=Pe i (XJ 1225 c)
 lia
 rintro s ⟨m,g,e,rfl⟩;rw[Ub];lk;exact h
def EC (F:ay K "deals" "deals" iE f fd) (C:O7 K mg κ)  (c:FA P w K mg base κ) (d:l9 P w K mg base κ) (b:mg "len" = none):aI P w K mg base (CX1 P w) 3 f fd ["numbers", "sizes"] (aL K (pZ κ)):=by
 refine ay.okN F jh (by fin2) λ_ _ _ _ _ _ a=>⟨_,(ah (aT (aE bQ (aD aY (by rfl) b QM (aa (dv 1) ag)) ae) (ak (ax (bN (aa (bN ag) ag)))) aG) (ah (eU 2 jh.nd ag) (ah (bI PassesOwn.never rfl (aN (au d a (aa (aD aY (by rfl) b QM (aa (dv 0) ag)) (aa (ar (dv 1) ae) ag)))) (aW 3 jh.nd) (ah (aH 4 jh.nd (bK (by rfl) (by exact aV (osc:=aq iE) (xs:=["index"]) (ns:=["numbers"]) (by decide +kernel)) (aM.cons 0 aM.nil) (aN (dv 3)) (λ_ _ _ _ _=>bE) (λ_ _ _ _ _=>(ar (dv 1) (dv 0))))) (ah (fx 5 jh.nd (by rfl) (by exact aV (osc:=aq iE) (xs:=["number"]) (ns:=["group"]) (by decide +kernel)) (aM.cons 4 aM.nil) (aN (dv 0)) (λ_ _ _ _ _=>(uC (aE (nk (by exact a.units)) (dv 0) (dv 1)))) (λ_ _ _ _ _=>(dv 0))) (ak (i9 2 (bK (by rfl) (by exact aV (osc:=aq iE) (xs:=["others"]) (ns:=["group"]) (by decide +kernel)) (aM.cons 4 aM.nil) (aN (au c a (aa (dv 5) (aa (oW (dv 1) (di ae) cT) ag)))) (λ_ _ _ _ _=>bE) (λ_ _ _ _ _=>(av bg (bN (aa (dv 1) ag)) (dv 0))))))))) (b9 2 (ak (ax (dv 2))))))),?_⟩
 rintro u Q Ed ⟨ns,d,rfl,h⟩;x_go;unfold kW at h;obtain⟨k,i,rfl,p,c,d,h⟩:=h;lk;rw[N2 (by simp<;>lia)];refine⟨QI _,?_⟩;have l:∀{a:yag},a∈Oi ns.length k->a.length=k/\∀i∈a,i<ns.length:=λh=>bM h
 refine PD.bq (Oi ns.length k) QX (λj b=>∃m g e:Option Sl,b=[some (.val (.lst false (ns.map D.int))),some (.val (.tup (.int (k:Int)::([.int (i:Int)])))),some (.own ((((Oi ns.length k).take j).flatMap λa=>(R6 ([i]) (cD ns (bD ns a))).map (bD ns a::·)).map Tv)),m,g,e]) (λR q=>?_) ⟨none,none,none,rfl⟩ ?_ ?_;lk;exact⟨ns.length,k,by rw[N3],rfl,by lia,by lia,Pe (Zi d k) (Pe (WO (by decide) p) (by decide)),q⟩;rintro j a s r ⟨m,g,e,rfl⟩;obtain⟨t,n⟩:=l (Qh r);lk;refine PD.comp_map a (λ(i:Nat)=>D.int (i:Int)) (λ_=>true) (λi=>D.int (ns.getD i 0)) (λR q=>?_) (by rw[sizeLine_eq];lia) (λi c K b=>?_) (λi c _ K b=>?_) ?_;unfold QX;lk;exact q;lk;exact b;lk;have l:=n i c;exact⟨_,bb (by rw[Pw,OH l,Pg,OH l];rfl),b⟩;rw[RN.mpr (λ_ _=>rfl),show(a.map λi=>D.int (ns.getD i 0))=(bD ns a).map D.int by unfold bD;rw[O3];rfl];lk;refine PD.comp_map ns D.int (λn=>!(bD ns a).contains n) D.int (λR q=>?_) (by rw[sizeLine_eq];lia) (λn c K b=>?_) (λn c _ K b=>?_) ?_;lk;exact q;lk;refine⟨of_eq_true (vg n),(Ry.map (Ry.int 0)).ok,_,.inr ⟨_,rfl⟩,_,rfl,?_⟩;rw[qu];exact b;lk;exact b;rw[show ns.filter (λn=>!(bD ns a).contains n)=cD ns (bD ns a)from rfl];lk;refine PD.comp_map (R6 ([i]) (cD ns (bD ns a))) Tv (λ_=>true) (λo=>Tv (bD ns a::o)) (λR q=>?_) ?_ (λn c K b=>?_) (λn c _ K b=>?_) ?_;lk;exact⟨λz=>absurd (show HT.OU 2 0 (some 1)=0 from z.1) (by decide),i,rfl,c,Pe (cL _ _) d,q⟩;have:=dP ([i]) (cD ns (bD ns a)) (Pe (cL _ _) d) (by simpa using c);rw[sizeLine_eq];simp only[Rl,WR]at this
 lia
 lk;exact b;have n:=qy c;unfold Tv at b ⊢;rw[Pq]at b;lk;exact⟨by rw[sizeLine_eq];simp,by rw[N3,n,sizeLine_eq];simp,b⟩;rw[RN.mpr (λ_ _=>rfl)];have n:=kj (l:=(Oi ns.length k).take j) (f:=λa=>(R6 ([i]) (cD ns (bD ns a))).map (bD ns a::·)) (B:=1225) λa _=>by rw[N3];exact Pe (dP _ _ (Pe (cL _ _) d) (by simpa using c)) (by simp)
 have l:((Oi ns.length k).take j).length<=35:=Pe (List.length_take_le' _ _) (xq d p);have b:=dP ([i]) (cD ns (bD ns a)) (Pe (cL _ _) d) (by simpa using c);simp only[Rl,WR]at b;lk;refine⟨?_,_,_,_,by rw[qP r,QE,O3];rfl⟩;rw[N3,N3,sizeLine_eq];have x:=Pe n (XJ 1225 l)
 lia
 rintro s ⟨m,g,e,rfl⟩;rw[Ub];lk;exact h
def ED (F:ay K "deals" "deals" iF f fd) (C:O7 K mg κ)  (c:xA P w K mg base κ) (d:l9 P w K mg base κ) (b:mg "len" = none):aI P w K mg base (CX1 P w) 4 f fd ["numbers", "sizes"] (aL K (p6 κ)):=by
 refine ay.okN F jj (by fin2) λ_ _ _ _ _ _ a=>⟨_,(ah (aT (aE bQ (aD aY (by rfl) b QM (aa (dv 1) ag)) ae) (ak (ax (bN (aa (bN ag) ag)))) aG) (ah (eU 2 jj.nd ag) (ah (bI PassesOwn.never rfl (aN (au d a (aa (aD aY (by rfl) b QM (aa (dv 0) ag)) (aa (ar (dv 1) ae) ag)))) (aW 3 jj.nd) (ah (aH 4 jj.nd (bK (by rfl) (by exact aV (osc:=aq iF) (xs:=["index"]) (ns:=["numbers"]) (by decide +kernel)) (aM.cons 0 aM.nil) (aN (dv 3)) (λ_ _ _ _ _=>bE) (λ_ _ _ _ _=>(ar (dv 1) (dv 0))))) (ah (fx 5 jj.nd (by rfl) (by exact aV (osc:=aq iF) (xs:=["number"]) (ns:=["group"]) (by decide +kernel)) (aM.cons 4 aM.nil) (aN (dv 0)) (λ_ _ _ _ _=>(uC (aE (nk (by exact a.units)) (dv 0) (dv 1)))) (λ_ _ _ _ _=>(dv 0))) (ak (i9 2 (bK (by rfl) (by exact aV (osc:=aq iF) (xs:=["others"]) (ns:=["group"]) (by decide +kernel)) (aM.cons 4 aM.nil) (aN (au c a (aa (dv 5) (aa (oW (dv 1) (di ae) cT) ag)))) (λ_ _ _ _ _=>bE) (λ_ _ _ _ _=>(av bg (bN (aa (dv 1) ag)) (dv 0))))))))) (b9 2 (ak (ax (dv 2))))))),?_⟩
 rintro x Q Ed ⟨ns,d,rfl,h⟩;x_go;unfold kY at h;obtain⟨k,i,l,rfl,r,c,e,d,h⟩:=h;lk;rw[N2 (by simp<;>lia)];refine⟨QI _,?_⟩;have o:∀{a:yag},a∈Oi ns.length k->a.length=k/\∀i∈a,i<ns.length:=λh=>bM h
 refine PD.bq (Oi ns.length k) QX (λj b=>∃p m g:Option Sl,b=[some (.val (.lst false (ns.map D.int))),some (.val (.tup (.int (k:Int)::([.int (i:Int),.int (l:Int)])))),some (.own ((((Oi ns.length k).take j).flatMap λa=>(R6 ([i,l]) (cD ns (bD ns a))).map (bD ns a::·)).map Tv)),p,m,g]) (λR q=>?_) ⟨none,none,none,rfl⟩ ?_ ?_;lk;exact⟨ns.length,k,by rw[N3],rfl,by lia,by lia,Pe (Zi d k) (Pe (WO (by decide) r) (by decide)),q⟩;rintro j a t s ⟨p,m,g,rfl⟩;obtain⟨u,n⟩:=o (Qh s);lk;refine PD.comp_map a (λ(i:Nat)=>D.int (i:Int)) (λ_=>true) (λi=>D.int (ns.getD i 0)) (λR q=>?_) (by rw[sizeLine_eq];lia) (λi c K b=>?_) (λi c _ K b=>?_) ?_;unfold QX;lk;exact q;lk;exact b;lk;have l:=n i c;exact⟨_,bb (by rw[Pw,OH l,Pg,OH l];rfl),b⟩;rw[RN.mpr (λ_ _=>rfl),show(a.map λi=>D.int (ns.getD i 0))=(bD ns a).map D.int by unfold bD;rw[O3];rfl];lk;refine PD.comp_map ns D.int (λn=>!(bD ns a).contains n) D.int (λR q=>?_) (by rw[sizeLine_eq];lia) (λn c K b=>?_) (λn c _ K b=>?_) ?_;lk;exact q;lk;refine⟨of_eq_true (vg n),(Ry.map (Ry.int 0)).ok,_,.inr ⟨_,rfl⟩,_,rfl,?_⟩;rw[qu];exact b;lk;exact b;rw[show ns.filter (λn=>!(bD ns a).contains n)=cD ns (bD ns a)from rfl];lk;refine PD.comp_map (R6 ([i,l]) (cD ns (bD ns a))) Tv (λ_=>true) (λo=>Tv (bD ns a::o)) (λR q=>?_) ?_ (λn c K b=>?_) (λn c _ K b=>?_) ?_;lk;exact⟨λz=>absurd (show HT.OU 3 0 (some 1)=0 from z.1) (by decide),i,l,rfl,c,e,Pe (cL _ _) d,q⟩;have:=dP ([i,l]) (cD ns (bD ns a)) (Pe (cL _ _) d) (by simp;exact⟨c,e⟩);rw[sizeLine_eq];simp only[Rl,WR]at this
 lia
 lk;exact b;have n:=qy c;unfold Tv at b ⊢;rw[Pq]at b;lk;exact⟨by rw[sizeLine_eq];simp,by rw[N3,n,sizeLine_eq];simp,b⟩;rw[RN.mpr (λ_ _=>rfl)];have o:=kj (l:=(Oi ns.length k).take j) (f:=λa=>(R6 ([i,l]) (cD ns (bD ns a))).map (bD ns a::·)) (B:=1225) λa _=>by rw[N3];exact Pe (dP _ _ (Pe (cL _ _) d) (by simp;exact⟨c,e⟩)) (by simp)
 have n:((Oi ns.length k).take j).length<=35:=Pe (List.length_take_le' _ _) (xq d r);have b:=dP ([i,l]) (cD ns (bD ns a)) (Pe (cL _ _) d) (by simp;exact⟨c,e⟩);simp only[Rl,WR]at b;lk;refine⟨?_,_,_,_,by rw[qP s,QE,O3];rfl⟩;rw[N3,N3,sizeLine_eq];have y:=Pe o (XJ 1225 n)
 lia
 rintro t ⟨p,m,g,rfl⟩;rw[Ub];lk;exact h
def AB (F:ay K "spots_at" "spots_at" jV f fd) (C:O7 K mg κ)    : aI P w K mg base (CX1 P w) 1 f fd ["spots", "numbers"] (aL K (lX κ)):=by
 refine ay.okN F AF (by fin2) λ_ _ _ _ _ _ e=>⟨_,(ak (ax (bK (by rfl) (by exact aV (osc:=aq jV) (xs:=["number"]) (ns:=["spots"]) (by decide +kernel)) (aM.cons 0 aM.nil) (aN (dv 1)) (λ_ _ _ _ _=>bE) (λ_ _ _ _ _=>(ar (dv 1) (dv 0)))))),?_⟩
 rintro j Q Ed ⟨a,d,rfl,h⟩;x_go;unfold iX at h;obtain⟨b,rfl,c,g,h⟩:=h;lk;refine PD.comp_map b (λ(k:Nat)=>D.int (k:Int)) (λ_=>true) (λi=>Od (a.getD i (0,0))) (λR q=>?_) (by rw[sizeLine_eq];lia) (λi b K a=>?_) (λi b _ K a=>?_) ?_;lk;rw[O3];exact q;lk;exact a;lk;have l:=c i b;exact⟨_,bb (by rw[Pw,OH l,Pg,OH l];rfl),a⟩;rw[RN.mpr (λ_ _=>rfl)];unfold kx at h;rw[O3]at h;exact h
def CF (F:ay K "part_of" "part_of" lg f fd) (C:O7 K mg κ)    : aI P w K mg base (CX1 P w) 1 f fd ["group", "part"] (aL K (nR κ)):=by
 refine ay.okN F CO (by fin2) λ_ _ _ _ _ _ e=>⟨_,(ak (ax (aQ (aa (bK (by rfl) (by exact aV (osc:=aq lg) (xs:=["index"]) (ns:=["group"]) (by decide +kernel)) (aM.cons 0 aM.nil) (aN (ar (dv 1) ae)) (λ_ _ _ _ _=>bE) (λ_ _ _ _ _=>(ar (dv 1) (dv 0)))) (aa (ar (dv 1) ae) ag))))),?_⟩
 rintro j Q Ed ⟨b,d,rfl,h⟩;x_go;unfold fF at h;obtain⟨a,x,rfl,g,c,h⟩:=h;lk;refine PD.comp_map a (λ(k:Nat)=>D.int (k:Int)) (λ_=>true) (λk=>D.int (b.getD k 0)) (λR q=>?_) (by rw[sizeLine_eq];lia) (λi b K a=>?_) (λi b _ K a=>?_) ?_;lk;exact q;lk;exact a;lk;have l:=c i b;exact⟨_,bb (by rw[Pw,OH l,Pg,OH l];rfl),a⟩;rw[RN.mpr (λ_ _=>rfl)];lk;rw[O3]at h;exact⟨R5 _ _,h⟩
def EE (F:ay K "dealt" "dealt" kE f fd) (C:O7 K mg κ)  (a:xA P w K mg base κ) (g:oH P w K mg base κ) (e:vX P w K mg base κ) (b:tj P w K mg base κ) (h:mg "list" = none) (j:mg "range" = none) (d:mg "sum" = none) (i:mg "zip" = none):aI P w K mg base (CX1 P w) 9 f fd ["spots", "sizes"] (aL K (p9 κ)):=by
 refine ay.okN F pN (by fin2) λ_ _ _ _ _ _ c=>⟨_,(ah (bI PassesOwn.never rfl (aN (au a c (aa ((tG rfl (by rfl) h (by rfl) j (aD (AQ rfl) (by rfl) d boot_sum (aa (dv 1) ag)))).WH (aa (dv 1) ag)))) (aW 2 pN.nd) (ah (aH 3 pN.nd (au g c (aa (bK (by rfl) (by exact aV (osc:=aq kE) (xs:=["group"]) (ns:=["spots"]) (by decide +kernel)) (aM.cons 0 aM.nil) (aN (dv 2)) (λ_ _ _ _ _=>bE) (λ_ _ _ _ _=>(au b c (aa (dv 1) (aa (dv 0) ag))))) ag))) (ak (aT (aE (HC (by exact c.units)) (ar (dv 3) ae) kh) (ak (ax (aQ (aa (kg (by rfl) (by exact aV (osc:=aq kE) (xs:=["group", "part"]) (ns:=[]) (by decide +kernel)) aM.nil (.cons (.cons .nil)) (pf (by rfl) i (aa (dv 2) (aa (ar (dv 3) ae) ag))) (λ_ _ _ _ _=>bE) (λ_ _ _ _ _=>(wk e (c.mono (by decide)) (aa (dv 0) (aa (dv 1) ag))))) (aa (ar (dv 3) ae) ag))))) aG)))) (ak (ax dh))),?_⟩
 rintro M Q Ed ⟨b,d,rfl,h⟩;x_go;unfold kZ at h;obtain⟨k,j,rfl,a,t,H,s,h⟩:=h;have u:R6 [k,j] [0,1,2,3]=(if k=1 then ki else lK).map λg=>g.map λG=>G.map λ(k:Nat)=>(k:Int):=by
  rcases a with⟨rfl,rfl⟩| ⟨rfl,rfl⟩;exact Mw;exact Mx
 have n:∀g∈(if k=1 then ki else lK),g∈Zb:=λg a=>by split at a;exact TF _ a;exact RA _ a
 have e:(k:Int)+((j:Int)+0)=4/\k<=3/\j<=3:=by lia
 generalize (if k=1 then ki else lK)=dl at *;lk;refine PD.bq dl (λg=>Tv (g.map λG=>G.map λ(k:Nat)=>(k:Int))) (λi o=>∃m l:Option Sl,o=[some (.val (.lst false (b.map Od))),some (.val (.tup [.int (k:Int),.int (j:Int)])),m,l]/\∀r,Dt b (dl.drop i) r->Q (oY r)) (λR q=>?_) ⟨none,none,rfl,h⟩ ?_ ?_;lk;refine⟨[(k:Int),(j:Int)],rfl,4,?_,by decide,k,j,rfl,e.2.1,e.2.2,by decide,?_⟩;show D.int ((k:Int)+((j:Int)+0))=_;rw[e.1];rfl;rw[show(List.range 4).map (λ(k:Nat)=>(k:Int))=[0,1,2,3]from rfl,u,O3];exact q;rintro i g u e ⟨m,l,rfl,h⟩;obtain⟨o,j⟩:=Ql.mp e;rw[Wi o,j]at h;have a:=n g (Qh e);have L:=Cr yt (by decide) (by decide) t s a;obtain⟨J,n,_⟩:=yt g a;have j:∀G∈g,G.length<=3/\∀i∈G,i<b.length:=λG a=>⟨(n G a).2.1,λi e=>by have:=(n G a).2.2.1 i e;lia⟩
 unfold Tv;lk;refine PD.comp_map g (λG=>D.lst true ((G.map λ(k:Nat)=>(k:Int)).map D.int)) (λ_=>true) (λG=>kx (G.map λi=>b.getD i (0,0))) (λR q=>?_) (by rw[sizeLine_eq];lia) (λG a K e=>?_) (λG a _ K e=>?_) ?_;lk;rw[O3];exact q;lk;exact e;obtain⟨g3,j⟩:=j G a;lk;exact⟨G,rfl,j,by lia,e⟩;rw[RN.mpr (λ_ _=>rfl),show(g.map λG=>kx (G.map λi=>b.getD i (0,0)))=(Q4 b g).map kx by unfold Q4;rw[O3];rfl,bu,i6,gE,cV];refine⟨L,λd j=>?_⟩;have i:∀x:Str,PyData.strOk x=true->okD (.str x):=λx a=>(Bo 0 x a).ok
 rcases xn L j with⟨y,rfl,e,A⟩| ⟨o,rfl,_⟩;unfold gN;lk;rw[mU,N4 rfl];refine⟨i _ (by decide +kernel),i _ (by decide +kernel),?_⟩;have n:=h (some (XB b g y,y)) (.inl ⟨y,j,rfl⟩);have B:(Q4 b g).length=g.length:=N3 _;refine PD.i8 (g.zip ((Q4 b g).map (Tu y))) (λz=>[D.lst true ((z.1.map λ(k:Nat)=>(k:Int)).map D.int),da z.2]) (λ_=>true) (λz=>da (z.2.1.map (λk=>z.1.getD k 0),z.2.2)) (λR q=>?_) (by rw[Yt,sizeLine_eq];lia) (λ_=>rfl) (λz a K d=>?_) (λz a _ K d=>?_) ?_;lk;rw[show(g.map λG=>G.map λ(k:Nat)=>(k:Int)).map (λG=>D.lst true (G.map D.int))=g.map λG=>D.lst true ((G.map λ(k:Nat)=>(k:Int)).map D.int)by rw[O3];rfl,Ab];exact q;lk;exact d;have p:=qq a;have I:=xo e a;have e:(z.2.1.map λ(k:Nat)=>D.int (k:Int))=(z.2.1.map λ(k:Nat)=>(k:Int)).map D.int:=by rw[O3];rfl
 have E:=I.l3;unfold da QX at d ⊢;lk;refine⟨_,_,_,rfl,λa=>?_⟩;rw[e,bu,bu,b6,b6,<- e,jJ,fF];refine⟨z.2.1,.ra a,rfl,by lia,λk d=>by rw[N3];have:=I.lt k d;rwa [N3]at this,_,rfl,?_⟩;rw[show(z.2.1.map λk=>(z.1.map λ(k:Nat)=>(k:Int)).getD k 0).map D.int=(z.2.1.map λk=>z.1.getD k 0).map λ(k:Nat)=>D.int (k:Int)by rw[O3,O3];exact Vz λk _=>congrArg D.int (yL z.1 k)];exact d;rw[RN.mpr (λ_ _=>rfl)];lk;rw[show(g.zip ((Q4 b g).map (Tu y))).map (λz=>da (z.2.1.map (λk=>z.1.getD k 0),z.2.2))=(XB b g y).map da by unfold XB;rw[O3];rfl];exact⟨R5 _ _,n⟩;unfold rE;lk;rw[N2 (by rw[u4];decide)];exact⟨i _ (by decide +kernel),i _ (by decide +kernel),_,_,rfl,λr c=>h r (.inr ⟨o,j,c⟩)⟩;rintro u ⟨m,l,rfl,h⟩;rw[List.drop_length]at h;lk;exact h none rfl
def EF (F:ay K "dealt" "dealt" kF f fd) (C:O7 K mg κ)  (a:FC P w K mg base κ) (g:oH P w K mg base κ) (e:vX P w K mg base κ) (b:tj P w K mg base κ) (h:mg "list" = none) (j:mg "range" = none) (d:mg "sum" = none) (i:mg "zip" = none):aI P w K mg base (CX1 P w) 9 f fd ["spots", "sizes"] (aL K (qa κ)):=by
 refine ay.okN F pO (by fin2) λ_ _ _ _ _ _ c=>⟨_,(ah (bI PassesOwn.never rfl (aN (au a c (aa ((tG rfl (by rfl) h (by rfl) j (aD (AQ rfl) (by rfl) d boot_sum (aa (dv 1) ag)))).WH (aa (dv 1) ag)))) (aW 2 pO.nd) (ah (aH 3 pO.nd (au g c (aa (bK (by rfl) (by exact aV (osc:=aq kF) (xs:=["group"]) (ns:=["spots"]) (by decide +kernel)) (aM.cons 0 aM.nil) (aN (dv 2)) (λ_ _ _ _ _=>bE) (λ_ _ _ _ _=>(au b c (aa (dv 1) (aa (dv 0) ag))))) ag))) (ak (aT (aE (HC (by exact c.units)) (ar (dv 3) ae) kh) (ak (ax (aQ (aa (kg (by rfl) (by exact aV (osc:=aq kF) (xs:=["group", "part"]) (ns:=[]) (by decide +kernel)) aM.nil (.cons (.cons .nil)) (pf (by rfl) i (aa (dv 2) (aa (ar (dv 3) ae) ag))) (λ_ _ _ _ _=>bE) (λ_ _ _ _ _=>(wk e (c.mono (by decide)) (aa (dv 0) (aa (dv 1) ag))))) (aa (ar (dv 3) ae) ag))))) aG)))) (ak (ax dh))),?_⟩
 rintro M Q Ed ⟨b,d,rfl,h⟩;x_go;unfold k7 at h;obtain⟨k,j,l,rfl,a,u,H,t,h⟩:=h;have x:R6 [k,j,l] [0,1,2,3,4,5,6]=(TM [k,j,l]).map λg=>g.map λG=>G.map λ(k:Nat)=>(k:Int):=by
  rcases a with⟨rfl,rfl,rfl⟩| ⟨rfl,rfl,rfl⟩<;>exact Nn _ (by simp)
 have o:∀g∈TM [k,j,l],g∈Za:=λg e=>by
  rcases a with⟨rfl,rfl,rfl⟩| ⟨rfl,rfl,rfl⟩;exact TF _ e;exact RA _ e
 have a:(k:Int)+((j:Int)+((l:Int)+0))=7/\k<=3/\j<=3/\l<=3:=by lia
 generalize TM [k,j,l]=dl at *;lk;refine PD.bq dl (λg=>Tv (g.map λG=>G.map λ(k:Nat)=>(k:Int))) (λi p=>∃n m:Option Sl,p=[some (.val (.lst false (b.map Od))),some (.val (.tup [.int (k:Int),.int (j:Int),.int (l:Int)])),n,m]/\∀r,Dt b (dl.drop i) r->Q (oY r)) (λR q=>?_) ⟨none,none,rfl,h⟩ ?_ ?_;lk;refine⟨[(k:Int),(j:Int),(l:Int)],rfl,7,?_,by decide,k,j,l,rfl,a.2.1,a.2.2.1,a.2.2.2,by decide,?_⟩;show D.int ((k:Int)+((j:Int)+((l:Int)+0)))=_;rw[a.1];rfl;rw[show(List.range 7).map (λ(k:Nat)=>(k:Int))=[0,1,2,3,4,5,6]from rfl,x,O3];exact q;rintro i g p j ⟨n,m,rfl,h⟩;obtain⟨l,a⟩:=Ql.mp j;rw[Wi l,a]at h;have e:=o g (Qh j);have L:=Cr yu (by decide) (by decide) u t e;obtain⟨J,o,_⟩:=yu g e;have l:∀G∈g,G.length<=3/\∀i∈G,i<b.length:=λG a=>⟨(o G a).2.1,λi j=>by have:=(o G a).2.2.1 i j;lia⟩
 unfold Tv;lk;refine PD.comp_map g (λG=>D.lst true ((G.map λ(k:Nat)=>(k:Int)).map D.int)) (λ_=>true) (λG=>kx (G.map λi=>b.getD i (0,0))) (λR q=>?_) (by rw[sizeLine_eq];lia) (λG a K e=>?_) (λG a _ K e=>?_) ?_;lk;rw[O3];exact q;lk;exact e;obtain⟨g3,l⟩:=l G a;lk;exact⟨G,rfl,l,by lia,e⟩;rw[RN.mpr (λ_ _=>rfl),show(g.map λG=>kx (G.map λi=>b.getD i (0,0)))=(Q4 b g).map kx by unfold Q4;rw[O3];rfl,bu,i6,gE,cV];refine⟨L,λd j=>?_⟩;have i:∀x:Str,PyData.strOk x=true->okD (.str x):=λx a=>(Bo 0 x a).ok
 rcases xn L j with⟨y,rfl,e,A⟩| ⟨o,rfl,_⟩;unfold gN;lk;rw[mU,N4 rfl];refine⟨i _ (by decide +kernel),i _ (by decide +kernel),?_⟩;have l:=h (some (XB b g y,y)) (.inl ⟨y,j,rfl⟩);have B:(Q4 b g).length=g.length:=N3 _;refine PD.i8 (g.zip ((Q4 b g).map (Tu y))) (λz=>[D.lst true ((z.1.map λ(k:Nat)=>(k:Int)).map D.int),da z.2]) (λ_=>true) (λz=>da (z.2.1.map (λk=>z.1.getD k 0),z.2.2)) (λR q=>?_) (by rw[Yt,sizeLine_eq];lia) (λ_=>rfl) (λz a K d=>?_) (λz a _ K d=>?_) ?_;lk;rw[show(g.map λG=>G.map λ(k:Nat)=>(k:Int)).map (λG=>D.lst true (G.map D.int))=g.map λG=>D.lst true ((G.map λ(k:Nat)=>(k:Int)).map D.int)by rw[O3];rfl,Ab];exact q;lk;exact d;have s:=qq a;have I:=xo e a;have e:(z.2.1.map λ(k:Nat)=>D.int (k:Int))=(z.2.1.map λ(k:Nat)=>(k:Int)).map D.int:=by rw[O3];rfl
 have E:=I.l3;unfold da QX at d ⊢;lk;refine⟨_,_,_,rfl,λa=>?_⟩;rw[e,bu,bu,b6,b6,<- e,jJ,fF];refine⟨z.2.1,.ra a,rfl,by lia,λk d=>by rw[N3];have:=I.lt k d;rwa [N3]at this,_,rfl,?_⟩;rw[show(z.2.1.map λk=>(z.1.map λ(k:Nat)=>(k:Int)).getD k 0).map D.int=(z.2.1.map λk=>z.1.getD k 0).map λ(k:Nat)=>D.int (k:Int)by rw[O3,O3];exact Vz λk _=>congrArg D.int (yL z.1 k)];exact d;rw[RN.mpr (λ_ _=>rfl)];lk;rw[show(g.zip ((Q4 b g).map (Tu y))).map (λz=>da (z.2.1.map (λk=>z.1.getD k 0),z.2.2))=(XB b g y).map da by unfold XB;rw[O3];rfl];exact⟨R5 _ _,l⟩;unfold rE;lk;rw[N2 (by rw[u4];decide)];exact⟨i _ (by decide +kernel),i _ (by decide +kernel),_,_,rfl,λr c=>h r (.inr ⟨o,j,c⟩)⟩;rintro p ⟨n,m,rfl,h⟩;rw[List.drop_length]at h;lk;exact h none rfl
def uc (F:ay K "first_dealt" "first_dealt" iG f fd) (C:O7 K mg κ)  (E:FD P w K mg base κ)  : aI P w K mg base (CX1 P w) 10 f fd ["spots", "choices"] (aL K (ie κ)):=by
 refine ay.okN F gY (by fin2) λ_ _ _ _ _ _ b=>⟨_,(ah (bI PassesOwn.never rfl (yP (dv 1)) (aW 2 gY.nd) (ah (aH 3 gY.nd (au E b (aa (dv 0) (aa (dv 2) ag)))) (ak (aT (aE ml (dv 3) dh) (ak (ax (dv 3))) aG)))) (ak (ax dh))),?_⟩
 rintro I Q Ed ⟨g,d,rfl,h⟩;x_go;unfold eB at h;obtain⟨rfl,n,B,m,h⟩:=h;lk;refine PD.bq [(1,3),(2,2)] (λ(z:Nat×Nat)=>D.tup [.int (z.1:Int),.int (z.2:Int)]) (λi u=>∃k j:Option Sl,u=[some (.val (.lst false (g.map Od))),some (.val (.tup [.tup [.int 1,.int 3],.tup [.int 2,.int 2]])),k,j]/\(i=0∨(i=1/\Dt g ki none)∨(i=2/\Dt g Zb none))) (λR q=>?_) ⟨none,none,rfl,.inl rfl⟩ ?_ ?_;lk;exact q;rintro i z H l ⟨k,j,rfl,a⟩;have o:(i=0/\z=(1,3))∨(i=1/\z=(2,2)):=by
  rcases i with _|_|i;exact .inl ⟨rfl,(SA l).symm⟩;exact .inr ⟨rfl,(SA l).symm⟩;simp at l
 lk;refine⟨z.1,z.2,rfl,?_,n,B,m,λr b=>?_⟩;rcases o with⟨_,rfl⟩| ⟨_,rfl⟩;exact .inl ⟨rfl,rfl⟩;exact .inr ⟨rfl,rfl⟩;have c:∀x,Dt g Zb (some x)->Q (XC x.1 x.2):=λx p=>by obtain⟨A,y,e,G⟩:=yw n m p;cases e;exact h A y p G
 rcases o with⟨rfl,rfl⟩| ⟨rfl,rfl⟩;rw[N4 rfl]at b;cases r with
 |none =>
  rw[N2 (by simp[oY,dG])];exact⟨_,_,rfl,.inr (.inl ⟨rfl,b⟩)⟩
 |some x =>
  rw[N4 (by rfl)];exact c x (oX b (λe=>by cases e) λ_ e=>e)
 rw[N2 (by decide)]at b;rcases a with a|⟨_,a⟩| ⟨a,_⟩;cases a;have t:=oX (s:=r) a (λ_=>b) λ_ e=>by cases e
 cases r with
 |none =>
  rw[N2 (by simp[oY,dG])];exact⟨_,_,rfl,.inr (.inr ⟨rfl,t⟩)⟩
 |some x =>
  rw[N4 (by rfl)];exact c x t
 cases a;rintro H ⟨k,j,rfl,a⟩;rcases a with a|⟨a,_⟩| ⟨_,a⟩;cases a;cases a;obtain⟨_,_,e,_⟩:=yw n m a;cases e
def ud (F:ay K "first_dealt" "first_dealt" iH f fd) (C:O7 K mg κ)  (E:FE P w K mg base κ)  : aI P w K mg base (CX1 P w) 10 f fd ["spots", "choices"] (aL K (ig κ)):=by
 refine ay.okN F gZ (by fin2) λ_ _ _ _ _ _ b=>⟨_,(ah (bI PassesOwn.never rfl (yP (dv 1)) (aW 2 gZ.nd) (ah (aH 3 gZ.nd (au E b (aa (dv 0) (aa (dv 2) ag)))) (ak (aT (aE ml (dv 3) dh) (ak (ax (dv 3))) aG)))) (ak (ax dh))),?_⟩
 rintro I Q Ed ⟨g,d,rfl,h⟩;x_go;unfold eE at h;obtain⟨rfl,n,B,m,h⟩:=h;lk;refine PD.bq [(1,3,3),(2,2,3)] (λ(z:Nat×Nat×Nat)=>D.tup [.int (z.1:Int),.int (z.2.1:Int),.int (z.2.2:Int)]) (λi u=>∃k j:Option Sl,u=[some (.val (.lst false (g.map Od))),some (.val (.tup [.tup [.int 1,.int 3,.int 3],.tup [.int 2,.int 2,.int 3]])),k,j]/\(i=0∨(i=1/\Dt g (TM [1,3,3]) none)∨(i=2/\Dt g Za none))) (λR q=>?_) ⟨none,none,rfl,.inl rfl⟩ ?_ ?_;lk;exact q;rintro i z H l ⟨k,j,rfl,a⟩;have o:(i=0/\z=(1,3,3))∨(i=1/\z=(2,2,3)):=by
  rcases i with _|_|i;exact .inl ⟨rfl,(SA l).symm⟩;exact .inr ⟨rfl,(SA l).symm⟩;simp at l
 lk;refine⟨z.1,z.2.1,z.2.2,rfl,?_,n,B,m,λr b=>?_⟩;rcases o with⟨_,rfl⟩| ⟨_,rfl⟩;exact .inl ⟨rfl,rfl,rfl⟩;exact .inr ⟨rfl,rfl,rfl⟩;have c:∀x,Dt g Za (some x)->Q (XC x.1 x.2):=λx p=>by obtain⟨A,y,e,G⟩:=yx n m p;cases e;exact h A y p G
 rcases o with⟨rfl,rfl⟩| ⟨rfl,rfl⟩;cases r with
 |none =>
  rw[N2 (by simp[oY,dG])];exact⟨_,_,rfl,.inr (.inl ⟨rfl,b⟩)⟩
 |some x =>
  rw[N4 (by rfl)];exact c x (oX b (λe=>by cases e) λ_ e=>e)
 rcases a with a|⟨_,a⟩| ⟨a,_⟩;cases a;have t:=oX (s:=r) a (λ_=>b) λ_ e=>by cases e
 cases r with
 |none =>
  rw[N2 (by simp[oY,dG])];exact⟨_,_,rfl,.inr (.inr ⟨rfl,t⟩)⟩
 |some x =>
  rw[N4 (by rfl)];exact c x t
 cases a;rintro H ⟨k,j,rfl,a⟩;rcases a with a|⟨a,_⟩| ⟨_,a⟩;cases a;cases a;obtain⟨_,_,e,_⟩:=yx n m a;cases e
def w8 (F:ay K "two_groups" "two_groups" kH f fd) (C:O7 K mg κ)  (c:uN P w K mg base κ) (d:mg "len" = none):aI P w K mg base (CX1 P w) 11 f fd ["spots"] (aL K (jK κ)):=by
 refine ay.okX F xf (by fin2) λ_ _ _ _ _ _ Ed b a e i=>⟨_,(ah (aT (aE fB (aD aY (by rfl) d QM (aa (dv 0) ag)) ae) (ak (yv a (by rfl) C.PO C.Pj rfl (aa kh ag))) aG) (ak (ax (au c b (aa (dv 0) (aa (yp C.RU) ag)))))),?_⟩
 rintro j Q ⟨g,rfl,h⟩;x_go;unfold dM at h;obtain⟨a,c,b,h⟩:=h;lk;rw[N3];split;exact⟨by rw[sizeLine_eq];simp,b (by lia)⟩;exact⟨rfl,by lia,a,c,h (by lia)⟩
def ug (F:ay K "three_groups" "three_groups" iJ f fd) (C:O7 K mg κ)  (c:uO P w K mg base κ) (d:mg "len" = none):aI P w K mg base (CX1 P w) 11 f fd ["spots"] (aL K (ip κ)):=by
 refine ay.okX F ur (by fin2) λ_ _ _ _ _ _ Ed b a e i=>⟨_,(ah (aT (aE fB (aD aY (by rfl) d QM (aa (dv 0) ag)) ae) (ak (yv a (by rfl) C.PO C.Pj rfl (aa kh ag))) aG) (ak (ax (au c b (aa (dv 0) (aa (yp C.Ru) ag)))))),?_⟩
 rintro j Q ⟨g,rfl,h⟩;x_go;unfold cX at h;obtain⟨a,c,b,h⟩:=h;lk;rw[N3];split;exact⟨by rw[sizeLine_eq];simp,b (by lia)⟩;exact⟨rfl,by lia,a,c,h (by lia)⟩
def Ay (F:ay K "_law_list" "_law_list" nI f fd) (C:O7 K mg κ)  (c:qZ P w K mg base κ) (e:mg "isinstance" = none) (d:mg "len" = none) (b:mg "list" = none):aI P w K mg base (CX1 P w) 2 f fd ["_law_found", "_law_least", "_law_most"] (aL K (lV κ)):=by
 refine ay.okN F rn (by fin2) λ_ _ _ _ _ _ a=>⟨_,(ah (aT (SK.pt (d9 (cG (cM (eR (by rfl) e (by rfl) b boot_list (.inr (.inr (.inr (.inl rfl)))) (dv 0)))) (gM (cG (Ga xr xr ae (aD aY (by rfl) d QM (aa (dv 0) ag)) ae))))) (ak (ax fq)) aG) (ah (bI PassesOwn.never rfl (aN (dv 0)) (aW 3 rn.nd) (ak (aT (SK.pt (d9 (cG (cM (au c a (aa (dv 3) ag)))) (d9 (aE fB (dv 3) (dv 1)) (gM (SK.pt (yB (aE ml (dv 2) dh) (u0 (aE Cv (dv 3) (dv 2))))))))) (ak (ax fq)) aG))) (ak (ax fq)))),?_⟩
 rintro o Q Ed ⟨b,a,d,rfl,h⟩;x_go;unfold iV at h;obtain⟨l,k,g,e,h⟩:=h;lk;rw[N3,N4 (by lia),N4 (by lia)];refine Gf b D.int (λc=>∃v:Option Sl,c=[some (.val (.lst false (b.map D.int))),some (.val (.int a)),some (.val d),v]) (λR q=>?_) ⟨none,rfl⟩ ?_ ?_;lk;exact q;rintro n c a ⟨v,rfl⟩;have j:=g n a;rcases e with rfl|⟨m,rfl,b⟩;lk;rw[N2 (by lia)];exact⟨_,rfl⟩;have i:=b n a;lk;rw[N2 (by lia),N2 (by lia)];exact⟨_,rfl⟩;rintro c ⟨v,rfl⟩;lk;exact h
def zh (F:ay K "_law_group" "_law_group" fT f fd) (C:O7 K mg κ)  (Y:BX P w K mg base κ) (N1:mg "isinstance" = none) (t:mg "len" = none) (N6:mg "range" = none) (B:mg "sum" = none) (OQ:mg "tuple" = none) (O5:mg "zip" = none):aI P w K mg base (CX1 P w) 3 f fd ["_law_group_here", "_law_spots", "_law_spot_here"] (aL K (ij κ)):=by
 refine ay.okN F dq (by fin2) λ_ _ _ _ _ _ M=>⟨_,(ah (aT (SK.pt (d9 (cG (cM (eR (by rfl) N1 (by rfl) OQ boot_tuple (.inr (.inr (.inl rfl))) (dv 0)))) (gM (aE ky (aD aY (by rfl) t QM (aa (dv 0) ag)) ae)))) (ak (ax fq)) aG) (ah (KO (dv 0) (tQ (n:=2) rfl (gf (aW 6 dq.nd) (gf (aW 7 dq.nd) qF)))) (ah (aT (SK.pt (d9 (cG (cM (au Y M (aa (dv 6) (aa ae (aa (aD aY (by rfl) t QM (aa (dv 1) ag)) ag)))))) (d9 (cG (cM (au Y M (aa (dv 7) (aa ae (aa dh ag)))))) (gM (aE ky (aD aY (by rfl) t QM (aa (dv 6) ag)) (aD aY (by rfl) t QM (aa (dv 7) ag))))))) (ak (ax fq)) aG) (ah (bI PassesOwn.never rfl (wz (by rfl) N6 (aa ae (aa (aD aY (by rfl) t QM (aa (dv 6) ag)) ag))) (aW 3 dq.nd) (ak (aT (aE Cv (ar (dv 6) (av bL (dv 3) ae)) (ar (dv 6) (dv 3))) (ak (ax fq)) aG))) (ah (aH 4 dq.nd (aD (oQ rfl) (by rfl) B boot_sum (aa (kg (by rfl) (by exact aV (osc:=aq fT) (xs:=["_law_number", "_law_share"]) (ns:=["_law_spots"]) (by decide +kernel)) (aM.cons 1 aM.nil) (.cons (.cons .nil)) (pf (by rfl) O5 (aa (dv 6) (aa (dv 7) ag))) (λ_ _ _ _ _=>bE) (λ_ _ _ _ _=>(av aF (dv 1) (ar (ar (dv 2) (dv 0)) ae)))) ag))) (ah (aH 5 dq.nd (aD (oQ rfl) (by rfl) B boot_sum (aa (kg (by rfl) (by exact aV (osc:=aq fT) (xs:=["_law_number", "_law_share"]) (ns:=["_law_spots"]) (by decide +kernel)) (aM.cons 1 aM.nil) (.cons (.cons .nil)) (pf (by rfl) O5 (aa (dv 6) (aa (dv 7) ag))) (λ_ _ _ _ _=>bE) (λ_ _ _ _ _=>(av aF (dv 1) (ar (ar (dv 2) (dv 0)) ae)))) ag))) (ak (ax (yo (ma bQ (av aF (ar (dv 2) ae) (aD (oQ rfl) (by rfl) B boot_sum (aa (dv 7) ag))) (av aF (dv 4) (ar (dv 2) ae))) (yq (ma bQ (av aF (ar (dv 2) ae) (aD (oQ rfl) (by rfl) B boot_sum (aa (dv 7) ag))) (av aF (dv 5) (ar (dv 2) ae))))))))))))),?_⟩
 rintro ds Q Ed ⟨d,g,r,A,y,rfl,h⟩;x_go;unfold eY at h;obtain⟨c,e,rfl,I,hl,hb,H,h⟩:=h;have ek:(c.map λ(k:Nat)=>D.int (k:Int))=(c.map λ(k:Nat)=>(k:Int)).map D.int:=by rw[O3];rfl
 unfold fC;rw[ek];have lk:(c.map λ(k:Nat)=>(k:Int)).length=c.length:=N3 _;have l0:=I.l0;have l3:=I.l3;have L:=I.ls;have O:∀i (N:i<c.length),(c.map λ(k:Nat)=>(k:Int))[i]?=some ((c[i]:Nat):Int):=λi N=>by rw[Pw,OH N];rfl
 have J:∀k,k<g.length->g[k]?=some (g.getD k (0,0)):=λk m=>by rw[Pg,OH m];rfl
 lk;rw[N4 (by rfl),lk];refine⟨by lia,by lia,λn s=>?_,.inr λn s=>?_,by lia,by lia,λn s=>by have:=I.pos n s;lia,.inl True.intro,?_⟩;obtain⟨k,_,rfl⟩:=Ol.mp s
 lia
 obtain⟨k,m,rfl⟩:=Ol.mp s;rw[N3];have:=I.lt k m
 lia
 rw[N4 (by rw[N3,lk,N3,L])];refine PD.bq (List.range' 1 (c.length - 1)) (λ(k:Nat)=>D.int (k:Int)) (λ_ ρ=>∃E:Option Sl,ρ=[some (.val (.tup [.lst false ((c.map λ(k:Nat)=>(k:Int)).map D.int),.lst false (e.map D.int)])),some (.val (.lst false (g.map Od))),some (.val (T3 r A y)),E,none,none,some (.val (.lst false ((c.map λ(k:Nat)=>(k:Int)).map D.int))),some (.val (.lst false (e.map D.int)))]) (λR q=>?_) ⟨none,rfl⟩ ?_ ?_;lk;rw[N3,lk];have:=BC 1 c.length;rw[show((1:Nat):Int)=1 from rfl]at this;rw[this];exact⟨⟨by lia,by lia⟩,⟨by lia,by lia⟩,q⟩;rintro j k N7 hj ⟨E,rfl⟩;obtain⟨Rt,ej⟩:=Ql.mp hj;rw[Tb]at Rt;rw[Yl,Nat.one_mul]at ej;obtain⟨o,rfl⟩:∃o,k=o+1:=⟨j,by lia⟩;have m:o+1<c.length:=by lia
 lk;have a1:Qm ((c.map λ(k:Nat)=>(k:Int)).map D.int) (((o+1:Nat):Int) - 1)=some (D.int ((c[o]:Nat):Int)):=by rw[show(((o+1:Nat):Int) - 1)=(o:Int)by lia];exact bb (j:=o) (by rw[Pw,O o (by lia)];rfl)
 refine⟨_,a1,_,bb (j:=o+1) (by rw[Pw,O (o+1) m];rfl),?_⟩;rw[kB];refine⟨_,rfl,?_⟩;rw[N2 (by rw[decide_eq_true_eq];have:=Vi.mp I.rise o (o+1) (by lia) m (by lia);lia)];exact⟨_,rfl⟩;rintro N7 ⟨E,rfl⟩;have zl:(c.zip e).length=c.length:=by rw[Yt,L,Nat.min_self]
 have p:∀z∈c.zip e,z.1<g.length/\Bd 900 z.2:=λz l=>⟨I.lt _ (VE (a:=z.1) (b:=z.2) l).1,I.bd _ (VE (a:=z.1) (b:=z.2) l).2⟩
 have u:∀z∈c.zip e,WB 40 (g.getD z.1 (0,0)):=λz l=>hb _ (Qh (J z.1 (p z l).1))
 have bs:=xv e I.bd;have bX:Bd 1000 (zX g (c.zip e)):=(xv ((c.zip e).map λz=>z.2*(g.getD z.1 (0,0)).1) (n:=940) λx G=>by obtain⟨z,l,rfl⟩:=Ol.mp G;exact((p z l).2.mul (u z l).x).mono (by lia)).mono (by rw[N3];lia)
 have bY:Bd 1000 (zY g (c.zip e)):=(xv ((c.zip e).map λz=>z.2*(g.getD z.1 (0,0)).2) (n:=940) λx G=>by obtain⟨z,l,rfl⟩:=Ol.mp G;exact((p z l).2.mul (u z l).y).mono (by lia)).mono (by rw[N3];lia)
 lk;refine PD.i8 (c.zip e) (λz=>[.int ((z.1:Nat):Int),.int z.2]) (λ_=>true) (λz=>.int (z.2*(g.getD z.1 (0,0)).1)) (λR q=>?_) (by rw[sizeLine_eq];lia) (λ_=>rfl) (λz l K m=>?_) (λz l _ K m=>?_) ?_;lk;rw[sU];exact q;lk;exact m;lk;refine⟨_,bb (by rw[Pw,J z.1 (p z l).1];rfl),?_⟩;rw[show Od (g.getD z.1 (0,0))=D.tup [.int (g.getD z.1 (0,0)).1,.int (g.getD z.1 (0,0)).2]from rfl];lk;exact⟨Rz (p z l).2 (u z l).x,m⟩;rw[RN.mpr (λ_ _=>rfl)];lk;refine⟨true,(c.zip e).map λz=>z.2*(g.getD z.1 (0,0)).1,by rw[O3];rfl,?_⟩;refine PD.i8 (c.zip e) (λz=>[.int ((z.1:Nat):Int),.int z.2]) (λ_=>true) (λz=>.int (z.2*(g.getD z.1 (0,0)).2)) (λR q=>?_) (by rw[sizeLine_eq];lia) (λ_=>rfl) (λz l K m=>?_) (λz l _ K m=>?_) ?_;lk;rw[sU];exact q;lk;exact m;lk;refine⟨_,bb (by rw[Pw,J z.1 (p z l).1];rfl),?_⟩;rw[show Od (g.getD z.1 (0,0))=D.tup [.int (g.getD z.1 (0,0)).1,.int (g.getD z.1 (0,0)).2]from rfl];lk;exact⟨Rz (p z l).2 (u z l).y,m⟩;rw[RN.mpr (λ_ _=>rfl)];have U:Bd 1000 e.sum:=bs.mono (by lia);have T:Bd 1000 r:=H.b.mono (by decide);have c1:Bd 1000 A:=H.x.mono (by decide);have c2:Bd 1000 y:=H.y.mono (by decide);have ex:e.sum*A=r*zX g (c.zip e):=by rw[Mi];exact I.x
 have ey:e.sum*y=r*zY g (c.zip e):=by rw[Mj];exact I.y
 refine⟨true,(c.zip e).map λz=>z.2*(g.getD z.1 (0,0)).2,by rw[O3];rfl,false,e,rfl,Rz c1 U,Rz bX T,?_⟩;rw[show((c.zip e).map λz=>z.2*(g.getD z.1 (0,0)).1).sum=zX g (c.zip e)from rfl,N4 (show A*e.sum=zX g (c.zip e)*r by rw[Rp,ex,Rp])];refine⟨false,e,rfl,Rz c2 U,Rz bY T,?_⟩;rw[show((c.zip e).map λz=>z.2*(g.getD z.1 (0,0)).2).sum=zY g (c.zip e)from rfl,UK (show y*e.sum=zY g (c.zip e)*r by rw[Rp,ey,Rp])];exact h
def w7 (F:ay K "_law_stream" "_law_stream" kG f fd) (C:O7 K mg κ)   (a:mg "range" = none):aI P w K mg base (CX1 P w) 1 f fd ["_law_cell", "_law_many"] (aL K (jI κ)):=by
 refine ay.okN F bJ (by fin2) λ_ _ _ _ _ _ t=>⟨_,(ah (eU 2 bJ.nd ag) (ah (aH 3 bJ.nd (dv 0)) (ah (bI PassesOwn.never rfl (eV (by rfl) a (aa (dv 1) ag)) (aW 4 bJ.nd) (ah (gH 2 (av bR (dv 3) (av zf ae ae))) (ak (aH 3 bJ.nd (av cU (dv 3) (av zf ae ae)))))) (ah (aT (aE ua (dv 3) ae) (b9 2 (ak (ax (dv 2)))) aG) (ah (eU 2 bJ.nd ag) (ah (aH 5 bJ.nd (av bg (av bR (dv 0) ae) ae)) (ah (aH 6 bJ.nd (av bg (av bR (av cU (dv 0) ae) ae) ae)) (ah (bI PassesOwn.never rfl (eV (by rfl) a (aa (dv 1) ag)) (aW 4 bJ.nd) (ah (aH 5 bJ.nd (av bR (av bg (av bg (av aF (dv 5) ae) (av aF (dv 4) (dv 4))) ae) ae)) (ah (aH 6 bJ.nd (av bR (av bg (av aF (dv 6) ae) (dv 5)) ae)) (ak (gH 2 (av cU (dv 6) ae)))))) (b9 2 (ak (ax (dv 2)))))))))))),?_⟩
 rintro B Q Ed ⟨c,m,rfl,h⟩;x_go;unfold fY at h;obtain⟨A,u,h⟩:=h;obtain⟨n,rfl⟩:∃n:Nat,m=n:=⟨m.toNat,by lia⟩;lk;refine⟨QI _,?_⟩;refine PD.bq (List.range' 0 n) (λ(k:Nat)=>D.int (k:Int)) (λj l=>∃(g:yaf) (r:Int) (v:Option Sl),l=[some (.val (.int c)),some (.val (.int n)),some (.own (g.map D.int)),some (.val (.int r)),v,none,none]/\g.length=j/\∀x∈g,0<=x/\x<10000000000000) (λR q=>?_) ⟨[],c,none,rfl,rfl,by simp⟩ ?_ ?_;lk;rw[si];exact⟨⟨by lia,by lia⟩,q⟩;rintro j k s o ⟨g,r,v,rfl,d,i⟩;obtain⟨p,_⟩:=Ql.mp o;rw[Tb]at p;lk;rw[p13];have e:=fm (a:=r) (b:=10000000000000) (by decide);refine⟨Kc,by decide,by rw[N3,sizeLine_eq];lia,Kc,CD.lit,g++[r.fmod 10000000000000],_,_,by rw[QE];rfl,by simp[d],?_⟩;intro z m;rcases PU.mp m with q|q;exact i z q;simp at q;subst q;exact e;rintro s ⟨g,r,v,rfl,d,i⟩;rw[Tb]at d;lk;split;exact h g (by rw[d];lia) i;refine⟨QI _,by decide,CD.lit,by decide,?_⟩;refine PD.bq (List.range' 0 n) (λ(k:Nat)=>D.int (k:Int)) (λj l=>∃(g:yaf) (x y:Int) (v:Option Sl),l=[some (.val (.int c)),some (.val (.int n)),some (.own (g.map D.int)),some (.val (.int r)),v,some (.val (.int x)),some (.val (.int y))]/\g.length=j/\(∀x∈g,0<=x/\x<10000000000000)) (λR q=>?_) ⟨[],_,_,v,rfl,rfl,by simp⟩ ?_ ?_;lk;rw[si];exact⟨⟨by lia,by lia⟩,q⟩;rintro j k s o ⟨g,x,y,v,rfl,d,i⟩;obtain⟨p,c⟩:=Ql.mp o;rw[Tb]at p;rw[Yl]at c;lk;have e:=fm (a:=y*69621+(x*48271+(k:Int)*k+11).fmod 2147483647) (b:=2147483629) (by decide);generalize (x*48271+(k:Int)*k+11).fmod 2147483647=a at e ⊢;generalize (y*69621+a).fmod 2147483629=a at e ⊢;refine⟨.inr (.inl (by unfold Bd;decide)),.inl (by unfold Bd;lia),by decide,.inr (.inl (by unfold Bd;decide)),by decide,CD.lit,by rw[N3,sizeLine_eq];lia,g++[a.fdiv 7],_,_,_,by rw[QE];rfl,by simp[d],?_⟩;intro z m;rcases PU.mp m with q|q;exact i z q;simp at q;subst q;have e:=Int.fdiv_eq_ediv_of_nonneg a (show(0:Int)<=7 by decide);rw[e]
 lia
 rintro s ⟨g,x,y,v,rfl,d,i⟩;rw[Tb]at d;lk;exact h g (by rw[d];lia) i
def Ax (F:ay K "_law_good" "_law_good" nG f fd) (C:O7 K mg κ)  (d:Ac P w K mg base κ) (g:uP P w K mg base κ) (c:mg "isinstance" = none) (a:mg "len" = none) (j:mg "list" = none) (e:mg "set" = none) (h:mg "tuple" = none):aI P w K mg base (CX1 P w) 4 f fd ["_law_found", "_law_spots", "_law_many"] (aL K (lU κ)):=by
 refine ay.okN F iZ (by fin2) λ_ _ _ _ _ _ b=>⟨_,(ah (aT (SK.pt (d9 (cG (cM (eR (by rfl) c (by rfl) h boot_tuple (.inr (.inr (.inl rfl))) (dv 0)))) (d9 (aE ky (aD aY (by rfl) a QM (aa (dv 0) ag)) ae) (gM (cG (cM (au g b (aa (ar (dv 0) ae) ag)))))))) (ak (ax fq)) aG) (ah (aT (SK.pt (d9 (cG (cM (eR (by rfl) c (by rfl) j boot_list (.inr (.inr (.inr (.inl rfl)))) (ar (dv 0) ae)))) (gM (aE ky (aD aY (by rfl) a QM (aa (ar (dv 0) ae) ag)) (dv 2))))) (ak (ax fq)) aG) (ah (aH 3 iZ.nd (bN ag)) (ah (bI PassesOwn.never rfl (aN (ar (dv 0) ae)) (aW 4 iZ.nd) (ah (aT (cG (cM (au d b (aa (dv 4) (aa (dv 1) (aa (ar (dv 0) ae) ag)))))) (ak (ax fq)) aG) (ak (aH 3 iZ.nd (av bg (dv 3) (ar (dv 4) ae)))))) (ak (ax (ma bQ (DW rfl (by rfl) a (by rfl) e (dv 3)) (aD aY (by rfl) a QM (aa (dv 3) ag))))))))),?_⟩
 rintro s Q Ed ⟨d,c,m,rfl,h⟩;x_go;unfold dR at h;obtain⟨n,rfl,p,⟨a,y,rfl,G⟩,g,l,h⟩:=h;unfold fdU;lk;rw[N4 (by rfl)];show eK κ [T3 y.1 y.2.1 y.2.2] _ _;rw[jk,eG];refine⟨G.pr,true,rfl,?_⟩;have o:=G.two;rw[N2 (by decide),N3,N4 (by lia)];refine⟨QI _,?_⟩;refine PD.bq a fC (λj d=>∃b:Option Sl,d=[some (.val (.tup [.lst false (a.map fC),Oe y])),some (.val (.lst false (c.map Od))),some (.val (.int (n:Int))),some (.val (.lst true ((((a.take j).flatMap (·.1)).map λ(k:Nat)=>(k:Int)).map D.int))),b]) (λR q=>?_) ⟨none,rfl⟩ ?_ ?_;lk;exact q;rintro j q m d ⟨b,rfl⟩;have e:=G.ok q (Qh d);have i:j<n:=by have:=(Ql.mp d).1;lia
 lk;rw[AK];show ij κ [fC q,D.lst false (c.map Od),T3 y.1 y.2.1 y.2.2] _ _;rw[lA,eY];refine⟨q.1,q.2,rfl,e,g,l,G.cb,true,rfl,?_⟩;rw[N2 (by decide),show fC q=D.tup [.lst false (q.1.map λ(k:Nat)=>D.int (k:Int)),.lst false (q.2.map D.int)]from rfl];lk;have g:=kj (l:=a.take j) (f:=λ(q:yag×yaf)=>q.1) (B:=3) λq c=>(G.ok q (List.mem_of_mem_take c)).l3
 have t:(a.take j).length<=3:=by rw[Ua];lia
 have r:=e.l3;have e:((((a.take (j+1)).flatMap (·.1)).map λ(k:Nat)=>(k:Int)).map D.int)=((((a.take j).flatMap (·.1)).map λ(k:Nat)=>(k:Int)).map D.int)++(q.1.map λ(k:Nat)=>D.int (k:Int)):=by rw[qP d,QE,QE,show(q.1.map λ(k:Nat)=>D.int (k:Int))=(q.1.map λ(k:Nat)=>(k:Int)).map D.int by rw[O3];rfl]
 rw[e];exact⟨by rw[N3,N3,N3,sizeLine_eq];lia,_,rfl⟩;rintro m ⟨b,rfl⟩;rw[Ub];lk;have g:=kj (l:=a) (f:=λ(q:yag×yaf)=>q.1) (B:=3) λq c=>(G.ok q c).l3
 refine⟨true,_,rfl,Zp.mpr (G.nd.imp λh e=>h (by lia)),by rw[N3];lia,?_⟩;rw[N3 (f:=D.int),UK rfl];exact h
def Az (F:ay K "_law_spot" "_law_spot" nJ f fd) (C:O7 K mg κ)    : aI P w K mg base (CX1 P w) 1 f fd ["_law_kind", "_law_number", "_law_way"] (aL K (i5 κ)):=by
 refine ay.okN F lP (by fin2) λ_ _ _ _ _ _ x=>⟨_,(ah (aT (aE bQ (dv 0) ae) (ak (ax (aQ (aa (av bL (av bR (dv 1) ae) ae) (aa (av bL (av bR (av cU (dv 1) ae) ae) ae) ag))))) aG) (ah (aT (aE bQ (dv 0) ae) (ah (aH 3 lP.nd (av bL (av bR (dv 1) ae) ae)) (ak (ax (aQ (aa (av bg (av aF (dv 3) (ar (dv 2) ae)) (ar (dv 2) ae)) (aa (av bL (av aF (dv 3) (ar (dv 2) ae)) (ar (dv 2) ae)) ag)))))) aG) (ah (aT (aE bQ (dv 0) ae) (ah (aH 3 lP.nd (av bL (av bR (av cU (dv 1) ae) ae) ae)) (ah (aT (aE bQ (av bR (dv 1) ae) ae) (ak (ax (aQ (aa (av aF (dv 3) (ar (dv 2) ae)) (aa (av aF (dv 3) (ar (dv 2) ae)) ag))))) aG) (ak (ax (aQ (aa (av bL (ar (dv 2) ae) (av aF (dv 3) (ar (dv 2) ae))) (aa (dv 3) ag))))))) aG) (ah (aT (aE bQ (dv 0) ae) (ak (ax (ar (bN (aa (aQ (aa (ar (dv 2) ae) (aa (ar (dv 2) ae) ag))) (aa (aQ (aa (ar (dv 2) ae) (aa (ar (dv 2) ae) ag))) (aa (aQ (aa (ar (dv 2) ae) (aa (ar (dv 2) ae) ag))) ag)))) (av bR (dv 1) ae)))) aG) (ah (aT (aE bQ (dv 0) ae) (ak (ax (ar (bN (aa (aQ (aa ae (aa ae ag))) (aa (aQ (aa ae (aa ae ag))) (aa (aQ (aa ae (aa ae ag))) (aa (aQ (aa ae (aa ae ag))) (aa (aQ (aa ae (aa ae ag))) (aa (aQ (aa ae (aa ae ag))) (aa (aQ (aa ae (aa ae ag))) (aa (aQ (aa ae (aa ae ag))) (aa (aQ (aa ae (aa ae ag))) ag)))))))))) (av bR (dv 1) ae)))) aG) (ah (aT (aE bQ (av bR (dv 1) ae) ae) (ak (ax (aQ (aa (av bL (av bR (dv 1) ae) ae) (aa (av bL (av aF (av bR (av cU (dv 1) ae) ae) ae) (av zf ae ae)) ag))))) aG) (ak (ax (aQ (aa (av bR (dv 1) ae) (aa (av bR (av cU (dv 1) ae) ae) ag))))))))))),?_⟩
 rintro z Q Ed ⟨k,n,m,p,i,rfl,h⟩;x_go;unfold fR at h;obtain⟨u,r,k,j,e,h⟩:=h;lk;have c:∀a b:Int,Bd 40 a->Bd 40 b->([D.int a,.int b]:yar).length<=sizeLine/\Q (.tup [.int a,.int b]):=λa b g d=>⟨R5 _ _,h (a,b) ⟨g,d⟩⟩
 have q:=λn:Int=>fm (a:=n) (b:=2) (by decide)
 have g:=λn:Int=>fm (a:=n) (b:=3) (by decide)
 have l:=λn:Int=>fm (a:=n) (b:=9) (by decide)
 have y:=fm (a:=n.fdiv 2) (b:=7) (by decide);have o:=λn:Int=>fm (a:=n) (b:=1000003) (by decide)
 split;exact⟨by decide,CD.lit,by decide,c _ _ (Ya 10 (by have:=g n;lia) (by decide)) (Ya 10 (by have:=g (n.fdiv 3);lia) (by decide))⟩;split;have s:=l n;have a:Bd 8 (n.fmod 9 - 4):=Ya 10 (by lia) (by decide);generalize n.fmod 9 - 4=t at a ⊢;have b:∀{v:Int},CM t v:=fun {v}=>.inl (a.mono (by decide))
 exact⟨by decide,b,b,c _ _ (((a.mul k).add (e.mono (by decide))).mono (by decide)) (((a.mul j).sub (e.mono (by decide))).mono (by decide))⟩;split;refine⟨CD.lit,by decide,by decide,?_⟩;have a:Bd 8 ((n.fdiv 2).fmod 7 - 3):=Ya 10 (by lia) (by decide);generalize (n.fdiv 2).fmod 7 - 3=t at a ⊢;have b:∀{v:Int},CM t v:=fun {v}=>.inl (a.mono (by decide))
 split;exact⟨b,b,c _ _ ((a.mul k).mono (by decide)) ((a.mul j).mono (by decide))⟩;exact⟨b,c _ _ (((e.mono (by decide):Bd 16 i).sub (a.mul j)).mono (by decide)) (a.mono (by decide))⟩;split;refine⟨R5 _ _,R5 _ _,R5 _ _,by rw[sizeLine_eq];simp,by decide,xP (g n).1 (by have:=(g n).2;simpa using this) λd a=>?_⟩;simp only[Ov,RP,or_false]at a;rcases a with rfl|rfl|rfl;exact h (i,m) ⟨e.mono (by decide),k.mono (by decide)⟩;exact h (i,m) ⟨e.mono (by decide),k.mono (by decide)⟩;exact h (p,i) ⟨j.mono (by decide),e.mono (by decide)⟩;split;refine⟨R5 _ _,R5 _ _,R5 _ _,R5 _ _,R5 _ _,R5 _ _,R5 _ _,R5 _ _,R5 _ _,by rw[sizeLine_eq];decide,by decide,xP (l n).1 (by have:=(l n).2;simpa using this) λd a=>?_⟩;simp only[Ov,RP,or_false]at a;rcases a with rfl|rfl|rfl|rfl|rfl|rfl|rfl|rfl|rfl<;>exact h (_,_) ⟨by unfold Bd;decide,by unfold Bd;decide⟩;refine⟨by decide,?_⟩;split;rw[show((10:Int) ^ (11:Int).toNat)=100000000000 by decide];exact⟨by decide,CD.lit,by decide,.inr (.inl (by unfold Bd;decide)),⟨by decide,by decide,by decide⟩,c _ _ (Ya 1000003 (by have:=o n;lia) (by decide)) (Ya 1000000000000 (by have:=o (n.fdiv 3);lia) (by decide))⟩;exact⟨by decide,CD.lit,by decide,c _ _ (Ya 10 (by have:=g n;lia) (by decide)) (Ya 10 (by have:=q (n.fdiv 5);lia) (by decide))⟩
def zj (F:ay K "_law_seven" "_law_seven" iY f fd) (C:O7 K mg κ)  (b:BY P w K mg base κ) (c:oI P w K mg base κ)  : aI P w K mg base (CX1 P w) 2 f fd ["_law_kind", "_law_cells"] (aL K (kK κ)):=by
 refine ay.okN F pP (by fin2) λ_ _ _ _ _ _ a=>⟨_,(ah (aH 2 pP.nd (ar (bN (aa (aQ (aa ae (aa ae (aa ae ag)))) (aa (aQ (aa ae (aa ae (aa ae ag)))) (aa (aQ (aa ae (aa ae (aa (cF ae) ag)))) (aa (aQ (aa ae (aa (cF ae) (aa ae ag)))) (aa (aQ (aa ae (aa ae (aa ae ag)))) ag)))))) (av bR (av cU (dv 0) ae) ae))) (ak (ax (bK (by rfl) (by exact aV (osc:=aq iY) (xs:=["_law_cell"]) (ns:=["_law_way", "_law_kind"]) (by decide +kernel)) (aM.cons 2 (aM.cons 0 aM.nil)) (aN (dv 1)) (λ_ _ _ _ _=>bE) (λ_ _ _ _ _=>(au b a (aa (av bR (dv 2) ae) (aa (ar (au c a (aa (dv 0) (aa ae ag))) ae) (aa (dv 1) ag))))))))),?_⟩
 rintro u Q Ed ⟨k,i,rfl,h⟩;x_go;unfold eZ at h;obtain⟨t,h⟩:=h;have c:=λn:Int=>fm (a:=n) (b:=5) (by decide)
 lk;refine⟨Uh _ _ _,Uh _ _ _,Uh _ _ _,Uh _ _ _,Uh _ _ _,by rw[sizeLine_eq];decide,CD.lit,by decide,?_⟩;refine xP (c _).1 (by have:=(c (k.fdiv 6)).2;simpa using this) λd c=>?_
 obtain⟨g,e,a,rfl,r,o,n⟩:∃g e a:Int,d=T3 g e a/\Bd 8 g/\Bd 8 e/\Bd 8 a:=by
  simp only[Ov,RP,or_false]at c;rcases c with rfl|rfl|rfl|rfl|rfl<;>exact⟨_,_,_,rfl,by unfold Bd;decide,by unfold Bd;decide,by unfold Bd;decide⟩
 refine DI i D.int Od (λp=>WB 40 p) (λR q=>?_) (by rw[sizeLine_eq];lia) (λc UP K i=>?_) λc s m=>?_
 lk;exact q;lk;refine⟨by decide,by decide,by decide,λxs d l=>?_⟩;obtain⟨x,rfl⟩:∃x,xs=[x]:=by
  match xs,d with
  |[x],_=>exact⟨x,rfl⟩
 refine⟨.int x,bb (j:=0) rfl,?_⟩;have b:=l x (by simp);show i5 κ [D.int (k.fmod 6),D.int x,T3 g e a] K _;rw[mE,fR];exact⟨b.1,b.2,r,o,n,i⟩;exact h c (by lia) m
def LF (F:ay K "law" "law" jU f fd) (C:O7 K mg κ)  (N:wX P w K mg base κ) (A:BW P w K mg base κ) (O:Ae P w K mg base κ) (OT:oI P w K mg base κ) (Y:uR P w K mg base κ) (T:xD P w K mg base κ) (B:mg "len" = none) (U:mg "min" = none) (E:mg "range" = none):aI P w K mg base (CX1 P w) 12 f fd ["_law_script"] (aL K ux):=by
 refine ay.okN F mv (by fin2) λ_ _ _ _ _ _ b=>⟨_,(ah (aH 1 mv.nd (au N b (aa (dv 0) (aa ae ag)))) (ah (eU 2 mv.nd (aa (au OT b (aa (dv 1) (aa ae ag))) ag)) (ah (bI PassesOwn.never rfl (Eb (by rfl) E (aa ae (aa (av bL (aD (Kb rfl) (by rfl) U boot_min (aa (aD aY (by rfl) B QM (aa (dv 0) ag)) (aa ae ag))) ae) (aa ae ag)))) (aW 3 mv.nd) (ak (gH 2 (UW.WH (mP (dv 0) (di (dv 3)) (di (av bg (dv 3) ae))))))) (b9 2 (ah (bI PassesOwn.never rfl (eV (by rfl) E (aa (aD aY (by rfl) B QM (aa (dv 2) ag)) ag)) (aW 3 mv.nd) (ah (aH 4 mv.nd (au O b (aa (av bg (av bR (dv 1) ae) (dv 3)) (aa (ar (dv 2) (dv 3)) ag)))) (ak (aT (SK.pt (d9 (cG (cM (au A b (aa (au T b (aa (dv 4) ag)) (aa (dv 4) (aa ae ag)))))) (gM (cG (cM (au A b (aa (au Y b (aa (dv 4) ag)) (aa (dv 4) (aa ae ag))))))))) (ak (ax fq)) aG)))) (ak (ax fq))))))),?_⟩
 rintro ds Q Ed ⟨e,rfl,L,h⟩;x_go;lk;refine⟨by decide,L,λv=>⟨by decide,by decide,λH J bx=>⟨by rw[sizeLine_eq];simp,?_⟩⟩⟩;refine PD.bq (List.range (gQ 1 (min (e.length:Int) 29 - 6) 7)) (λ(i:Nat)=>D.int (1+i*7)) (λj m=>∃(a:List (yaf)) (d:Option Sl),m=[some (.val (.lst false (e.map D.int))),some (.val (.int v)),some (.own (a.map λr=>D.lst true (r.map D.int))),d,none]/\a.length=j+1/\∀r∈a,r.length=7) (λR q=>?_) ⟨[H],none,rfl,rfl,by simpa using J⟩ ?_ ?_;lk;rw[N3];exact⟨⟨by decide,by decide⟩,⟨by lia,by lia⟩,by decide,by decide,q⟩;rintro j k t s ⟨a,d,rfl,p,b⟩;obtain⟨l,i⟩:=Ql.mp s;rw[List.getElem_range]at i;rw[List.length_range]at l;have lt:=PD.BB (by decide) l;subst i;have M:(1:Int)+(j:Int)*7=((1+j*7:Nat):Int):=by lia
 have u:1+j*7+7<=e.length:=by lia
 rw[M];lk;rw[Nj D.int e u];refine⟨?_,a++[(e.drop (1+j*7)).take 7],_,by rw[QE];rfl,by simp[p],λr q=>?_⟩;rw[N3,sizeLine_eq];lia;rcases PU.mp q with q|q;exact b r q;rw[QU.mp q,Ua,Yp];lia;rintro t ⟨a,d,rfl,p,b⟩;have rl:a.length<=10:=by rw[p,List.length_range];exact VJ.mp λc=>by have:=PD.BB (lo:=1) (hi:=min (e.length:Int) 29 - 6) (c:=7) (j:=9) (by decide) (by lia);lia
 lk;refine PD.bq (List.range' 0 a.length) (λ(k:Nat)=>D.int (k:Int)) (λj m=>∃d n:Option Sl,m=[some (.val (.lst false (e.map D.int))),some (.val (.int v)),some (.val (.lst true (a.map λr=>D.lst true (r.map D.int)))),d,n]) (λR q=>?_) ⟨_,_,rfl⟩ ?_ ?_;lk;rw[N3,si];exact⟨⟨by lia,by lia⟩,q⟩;rintro j k t s ⟨d,n,rfl⟩;obtain⟨l,i⟩:=Ql.mp s;rw[Tb]at l;rw[Yl]at i;have x:k<a.length:=by lia
 lk;refine⟨by decide,_,bb (by rw[Pw,OH x];rfl),?_⟩;rw[bu,b6,lB,eZ];refine⟨b _ (RY x),λps u g=>?_⟩;rw[bu,fL,kN,dM];refine⟨by lia,g,λz=>by lia,λ_ I y _ G=>?_⟩;rw[zR,iP,dR];refine⟨2,rfl,by decide,⟨I,y,rfl,G⟩,by lia,g,true,rfl,?_⟩;rw[N2 (by decide),jq,cX];refine⟨by lia,g,λz=>by lia,λ_ o C _ G'=>?_⟩;rw[zR,iP,dR];refine⟨3,rfl,by decide,⟨o,C,rfl,G'⟩,by lia,g,true,rfl,?_⟩;rw[N2 (by decide)];exact⟨_,_,rfl⟩;rintro t ⟨d,n,rfl⟩;lk;exact h
end
def all_mk {l:PySem.W.OpenLaw} {K:yac} (X:K.In h) (G:h.Ns mainGlobals mg) (t:mg "law" = some (.ref fa))
 {RW:Option Addr} {RX:Array (yam)}
 {RJ:Option Addr} {RK:Array (yam)}
 {RL:Option Addr} {RM:Array (yam)}
 {Rv:Option Addr} {Rw:Array (yam)}
 {Rh:Option Addr} {Ri:Array (yam)}
 {Rj:Option Addr} {Rk:Array (yam)}
  {i:Option Addr} {e:Array (yam)} {j:Value}
  (e0:FL K "sign" zC)
  (e1:FL K "common_divisor" gw)
  (e2:FL K "lowest" nK)
  (e3:FL K "picks" qO)
  (e4:FL K "value" vH)
  (e5:FL K "side" zA)
  (e6:FL K "crossed" pJ)
  (e7:FL K "facing" sA)
  (e8:FL K "place_of" nL)
  (e9:FL K "swing" vG)
  (e10:FL K "arrow" vD)
  (e11:FL K "turn" zD)
  (e12:FL K "back" zy)
  (e13:FL K "left_of" pK)
  (e14:FL K "chain" vE)
  (e15:FL K "hull" um)
  (e16:FL K "thin_bounds" jE)
  (e17:FL K "bounds" nF)
  (e18:FL K "length" sC)
  (e19:FL K "are_opposite" iC)
  (e20:FL K "balance_of_two" gn)
  (e21:FL K "balance_of_three" cY)
  (e22:FL K "balance" pI)
  (e23:FL K "reduced" pL)
  (e24:FL K "place" vF)
  (e25:FL K "mixture" je)
  (e26:FL K "place_between" gU)
  (e27:FL K "clipped" k9)
  (e28:FL K "common" sx)
  (e29:FL K "owned_gauges" fH)
  (e30:FL K "with_share" kI)
  (e31:FL K "last_needed" jB)
  (e32:FL K "constant" jT)
  (e33:FL K "bars" uk)
  (e34:FL K "bar_rows" jS)
  (e35:FL K "hulls_meet" fe)
  (e36:FL K "_law_whole" lO)
  (e37:FL K "_law_cell_at" jC)
  (e38:FL K "_law_divisor" jD)
  (e39:FL K "_law_is_place" iI)
  (Y:FL K "deals" sy)
  (U:FL K "deals" iD)
  (T:FL K "deals" iE)
  (Q:FL K "deals" iF)
  (O:FL K "spots_at" jV)
  (N:FL K "part_of" lg)
  (M:FL K "dealt" kE)
  (L:FL K "dealt" kF)
  (J:FL K "first_dealt" iG)
  (I:FL K "first_dealt" iH)
  (H:FL K "two_groups" kH)
  (E:FL K "three_groups" iJ)
  (B:FL K "_law_list" nI)
  (A:FL K "_law_group" fT)
  (z:FL K "_law_stream" kG)
  (y:FL K "_law_good" nG)
  (x:FL K "_law_spot" nJ)
  (u:FL K "_law_seven" iY)
  (C:PySem.W.nsIn K mainGlobals "law" = some (some (.ref f58))) (q:K.lookup f58=some ⟨j,i,.func (PySem.W.fnOf "law" "law" (ft jU) (cS jU) (aq jU) .none kV58 dc58 pm58 an58 cd58 ct58),e⟩) (c58:PySem.W.codeIn K cd58 "law" = true) (r:PySem.W.keepIn K (.ref f58)=true)
  (Pt:PySem.W.nsIn K mainGlobals "PlaneError" = some (some (.ref QC)))
  (Qw:PySem.W.nsIn K mainGlobals "NoPlace" = some (some (.ref Ta)))
  (PO:PySem.W.nsIn K mainGlobals "TooFew" = some (some (.ref OO)))
  (PH:PySem.W.nsIn K mainGlobals "SIZES_OF_TWO" = some (some (.ref QD))) (PJ:K.lookup QD=some ⟨.type "tuple", RW,.seq #[.ref Qr,.ref Qs] Vx,RX⟩)
  (Po:K.lookup Qr=some ⟨.type "tuple", RJ,.seq #[.int 1 Ux,.int 3 Uy] Ve,RK⟩)
  (Pp:K.lookup Qs=some ⟨.type "tuple", RL,.seq #[.int 2 Uz,.int 2 UA] Vf,RM⟩)
  (Pc:PySem.W.nsIn K mainGlobals "SIZES_OF_THREE" = some (some (.ref Qg))) (Pd:K.lookup Qg=some ⟨.type "tuple", Rv,.seq #[.ref Qa,.ref Qb] UY,Rw⟩)
  (O1:K.lookup Qa=some ⟨.type "tuple", Rh,.seq #[.int 1 T1,.int 3 T4,.int 3 T5] UB,Ri⟩)
  (O2:K.lookup Qb=some ⟨.type "tuple", Rj,.seq #[.int 2 T6,.int 2 T7,.int 3 T8] UC,Rk⟩)
  (Pj:PySem.W.excIn K OO Dc "ValueError.__new__" = true)
  (QW:PX.Gd K OO=true)
  (Oq:PySem.W.kitOne K (.ref OO) (.ref QC)=some true)
  (OF:PySem.W.kitOne K (.ref OO) (.ref Ta)=some false)
  (OL:PySem.W.kitOne K (.ref OO) (.ref OO)=some true)
  (Ot:PySem.W.kitOne K (.ref OO) (.type "ValueError")=some true)
  (Ou:PySem.W.exmOne K (.ref OO) (.ref QC)=some true)
  (OM:PySem.W.exmOne K (.ref OO) (.ref OO)=some true)
  (k:PySem.W.nsIn K mainGlobals "abs" = some none) (Rf:PySem.W.nsIn K mainGlobals "bool" = some none) (ON:PySem.W.nsIn K mainGlobals "enumerate" = some none) (Ss:PySem.W.nsIn K mainGlobals "int" = some none) (f:PySem.W.nsIn K mainGlobals "isinstance" = some none) (a:PySem.W.nsIn K mainGlobals "len" = some none) (c:PySem.W.nsIn K mainGlobals "list" = some none) (Sn:PySem.W.nsIn K mainGlobals "max" = some none) (n:PySem.W.nsIn K mainGlobals "min" = some none) (b:PySem.W.nsIn K mainGlobals "range" = some none) (o:PySem.W.nsIn K mainGlobals "set" = some none) (p:PySem.W.nsIn K mainGlobals "sorted" = some none) (g:PySem.W.nsIn K mainGlobals "sum" = some none) (m:PySem.W.nsIn K mainGlobals "tuple" = some none) (d:PySem.W.nsIn K mainGlobals "zip" = some none) :
  ∃ fd:FuncData,(∀(s:Shared) (v:Value),BindsTo s fd ⟨[v],[]⟩ [("_law_script", v)])/\∀base:Heap,K.In base->base.Ns mainGlobals mg->aI l.prog w K mg base (CX1 l.prog w) 12 fa fd ["_law_script"] (aL K ux):=by
 have e:=t.symm.trans (PySem.W.mg_of X G C);cases e;have k:=PySem.W.mg_none_of X G k;have Rf:=PySem.W.mg_none_of X G Rf;have ON:=PySem.W.mg_none_of X G ON;have Ss:=PySem.W.mg_none_of X G Ss;have f:=PySem.W.mg_none_of X G f;have a:=PySem.W.mg_none_of X G a;have c:=PySem.W.mg_none_of X G c;have Sn:=PySem.W.mg_none_of X G Sn;have n:=PySem.W.mg_none_of X G n;have b:=PySem.W.mg_none_of X G b;have o:=PySem.W.mg_none_of X G o;have p:=PySem.W.mg_none_of X G p;have g:=PySem.W.mg_none_of X G g;have m:=PySem.W.mg_none_of X G m;have d:=PySem.W.mg_none_of X G d;have C:O7 K mg ⟨QC,Ta,OO⟩:=⟨PySem.W.mg_of X G Pt,PySem.W.mg_of X G Qw,PySem.W.mg_of X G PO,⟨QD,[Qr,Qs],_,_,_,_,PySem.W.mg_of X G PH,PJ,by simp,rfl,⟨_,_,rfl,⟨_,_,_,_,Po,by simp,(.cons ⟨_,rfl⟩ (.cons ⟨_,rfl⟩ .nil))⟩,⟨_,_,rfl,⟨_,_,_,_,Pp,by simp,(.cons ⟨_,rfl⟩ (.cons ⟨_,rfl⟩ .nil))⟩,rfl⟩⟩⟩,⟨Qg,[Qa,Qb],_,_,_,_,PySem.W.mg_of X G Pc,Pd,by simp,rfl,⟨_,_,rfl,⟨_,_,_,_,O1,by simp,(.cons ⟨_,rfl⟩ (.cons ⟨_,rfl⟩ (.cons ⟨_,rfl⟩ .nil)))⟩,⟨_,_,rfl,⟨_,_,_,_,O2,by simp,(.cons ⟨_,rfl⟩ (.cons ⟨_,rfl⟩ (.cons ⟨_,rfl⟩ .nil)))⟩,rfl⟩⟩⟩,Pj,PX.gc.of QW,Oq,OF,OL,Ot,Ou,OM⟩;refine⟨PySem.W.fnOf "law" "law" (ft jU) (cS jU) (aq jU) .none kV58 dc58 pm58 an58 cd58 ct58,λs v=>.of_eq rfl,λbase _ _=>?_⟩;have h:=e0.has l.prog w base X G λF=>Jf F C
 have Og:=e1.has l.prog w base X G λF=>qU F C k
 have j:=e2.has l.prog w base X G λF=>EI F C Og
 have e:=e3.has l.prog w base X G λF=>GH F C b
 have i:=e4.has l.prog w base X G λF=>GK F C
 have So:=e5.has l.prog w base X G λF=>Je F C h i
 have RF:=e6.has l.prog w base X G λF=>Cz F C
 have Qo:=e7.has l.prog w base X G λF=>EG F C
 have Pk:=e8.has l.prog w base X G λF=>AA F C
 have h:=e9.has l.prog w base X G λF=>GJ F C
 have s:=e10.has l.prog w base X G λF=>GF F C
 have t:=e11.has l.prog w base X G λF=>Jg F C
 have Tx:=e12.has l.prog w base X G λF=>Jb F C
 have RE:=e13.has l.prog w base X G λF=>CA F C
 have R7:=e14.has l.prog w base X G λF=>GG F C h a
 have h:=e15.has l.prog w base X G λF=>Jd F C R7 Pk a o p
 have Qi:=e16.has l.prog w base X G λF=>vn F C s Tx Qo RE
 have Sq:=e17.has l.prog w base X G λF=>Ey F C RF Qi a b
 have P4:=e18.has l.prog w base X G λF=>EH F C k
 have PY:=e19.has l.prog w base X G λF=>ub F C t
 have Pm:=e20.has l.prog w base X G λF=>qT F C PY P4 j
 have O0:=e21.has l.prog w base X G λF=>oA F C j t Sn n
 have j:=e22.has l.prog w base X G λF=>Cw F C O0 Pm P4 a
 have RG:=e23.has l.prog w base X G λF=>CG F C Og
 have t:=e24.has l.prog w base X G λF=>GI F C RG
 have RI:=e25.has l.prog w base X G λF=>CC F C s j e Pk a
 have s:=e26.has l.prog w base X G λF=>rX F C t i
 have i:=e27.has l.prog w base X G λF=>Cy F C s So a b
 have s:=e28.has l.prog w base X G λF=>Ez F C i
 have P5:=e29.has l.prog w base X G λF=>uf F C Sq h ON
 have Qy:=e30.has l.prog w base X G λF=>w9 F C
 have Qj:=e31.has l.prog w base X G λF=>vh F C i a
 have t:=e32.has l.prog w base X G λF=>Aw F C g d
 have i:=e33.has l.prog w base X G λF=>Jc F C j t Qj e c d
 have t:=e34.has l.prog w base X G λF=>Av F C Qy p
 have j:=e35.has l.prog w base X G λF=>w6 F C t i s h RI P5 a
 have p:=e36.has l.prog w base X G λF=>zo F C Rf Ss f
 have t:=e37.has l.prog w base X G λF=>vi F C a
 have h:=e38.has l.prog w base X G λF=>vj F C k
 have P8:=e39.has l.prog w base X G λF=>ue F C h p f a m
 have h:=Y.has l.prog w base X G λF=>EA F C a
 have i:=U.has l.prog w base X G λF=>EB F C h e a
 have h:=T.has l.prog w base X G λF=>EC F C i e a
 have s:=Q.has l.prog w base X G λF=>ED F C h e a
 have e:=O.has l.prog w base X G λF=>AB F C
 have i:=N.has l.prog w base X G λF=>CF F C
 have k:=M.has l.prog w base X G λF=>EE F C h j i e c b g d
 have h:=L.has l.prog w base X G λF=>EF F C s j i e c b g d
 have j:=J.has l.prog w base X G λF=>uc F C k
 have e:=I.has l.prog w base X G λF=>ud F C h
 have i:=H.has l.prog w base X G λF=>w8 F C j a
 have j:=E.has l.prog w base X G λF=>ug F C e a
 have e:=B.has l.prog w base X G λF=>Ay F C p f a c
 have h:=A.has l.prog w base X G λF=>zh F C e f a b g m d
 have d:=z.has l.prog w base X G λF=>w7 F C b
 have g:=y.has l.prog w base X G λF=>Ax F C h P8 f a c o m
 have c:=x.has l.prog w base X G λF=>Az F C
 have e:=u.has l.prog w base X G λF=>zj F C c d
 exact LF (Bf (st:=jU) q c58 r) C t g e d j i a n b
end LW
def PySem.W.Fast.te17199870467371992311:True:=trivial
def PySem.W.Fast.tw14486800529162533443:PySem.Program:=PySem.Challenge.pw_halvecut_k63_whole_groups_of_spots
theorem PySem.W.Fast.te14486800529162533443:PySem.Challenge.pw_halvecut_k63_whole_groups_of_spots=PySem.W.Fast.tw14486800529162533443:=rfl
namespace PySem.W.Fast
def tw6134548404887391881:=()
def tw769123338556781725:=()
def tw7633970000389109942:=()
def tw14599184121285328306:=()
def tw15420016662808049296:=()
def tw8423566079965140719:=()
def tw13412886649612879547:=()
def tw10330131392039110737:=()
def tw1054072264432484517:=()
def tw11015435248565610096:=()
def tw5650569315651341701:=()
def tw10032086522361483916:=()
def tw13706249434534069012:=()
def tw16658728663229056055:=()
def tw12360913204339612567:=()
def tw14113683071560242980:=()
def tw12653318786561386680:=()
def tw13653917705697270638:=()
def tw5467303171559236814:=()
def tw15202744913112458140:=()
def tw8807734749271636738:=()
def tw18346175833786582815:=()
def tw12433125050290503312:=()
def tw4911337688599346818:=()
def tw663351145462749591:=()
def tw16289961597962342759:=()
def tw4127161646685117362:=()
def tw4428370367488812286:=()
def tw16913996344815961745:=()
def tw5413060218553199159:=()
def tw10326036316141749249:=()
def tw1961558308768083874:=()
def tw5684561214804433111:=()
def tw2967319490163056883:=()
def tw156968876496262139:=()
def tw12184356823587863343:=()
def tw230135170444027838:=()
def tw13144083814169784725:=()
def tw16117110250674763351:=()
def tw8583973086911743594:=()
def tw6388209258607923269:=()
def tw6272417811384423498:=()
def tw4237538744118344565:=()
def tw12123505803406088631:=()
def tw18343340298917351561:=()
def tw2685987584799352408:=()
def tw8431121723964482044:=()
def tw16124920312746839265:=()
def tw2978595540669959786:=()
def tw8513255956750021116:=()
def tw8487030189158975804:=()
def tw13836175161336747307:=()
def tw16552867255379046529:=()
def tw17239474984862298475:=()
def tw12732183025378940527:=()
def tw13185296826720289424:=()
def tw4671594869495681928:=()
def tw15322377703405583258:=()
def tw10292922016819780948:=()
def tw8293877573807880737:=()
def tw12442532948158528615:=()
def tw5199650659423604453:=()
def tw4204841894528504763:=()
def tw8451188632930947426:=()
def tw10644152115439422473:=()
def tw6445390045159785996:=()
def tw11537283443233929344:=()
def tw14805982051471352281:=()
def tw7068036999948255862:=()
def tw4386214904283174291:=()
def tw17619143107920002957:=()
def tw9698797375843931108:=()
def tw6610467345204126869:=()
def tw3010562753310242786:=()
def tw2416176381995136958:=()
def tw4041472305890497572:=()
def tw3137681950445025370:=()
def tw14261383481757060856:=()
def tw3223947730802904992:=()
def tw4082381161630267851:=()
def tw15926838309572447612:=()
def tw13504515193957954675:=()
def tw1344616584346499414:=()
def tw6875816231536143227:=()
def tw2051722154704402707:=()
def tw17300757560290068917:=()
def tw12481627929668753637:=()
def tw7142794933837980680:=()
def tw520920701651050994:=()
def tw9049400976258190803:=()
def tw4403712301421241945:=()
def tw5095497352704914185:=()
def tw17434131854025167731:=()
def tw10170218173803755039:=()
def tw14159788544796862225:=()
def tw10192938718306568137:=()
def tw247124477057996995:=()
def tw13900653300073036915:=()
def tw4574688382577630976:=()
def tw17595219843719927810:=()
def tw14200345133739147660:=()
def tw10072456050444614371:=()
def tw5206527288109996156:=()
def tw9746099192845911980:=()
def tw17353817019159424555:=()
def tw2496970476081737565:=()
def tw11477236859281275894:=()
def tw11392633181685902535:=()
def tw15069265771649251515:=()
def tw8719239227535371583:=()
def tw7610534232850589850:=()
def tw3793225471349400162:=()
def tw11720702627055038652:=()
def tw4991342724487797881:=()
def tw13214990879397703032:=()
def tw16792684119786398790:=()
def tw11053158225801269901:=()
def tw12766895496409130796:=()
def tw5653759815416648778:=()
def tw3512289162794436982:=()
def tw4933652205417550096:=()
def tw1404255783485380701:=()
def tw3995824391192323573:=()
def tw4693722515234366960:=()
def tw8543427272344769786:=()
def tw8327766572200088214:=()
def tw15250360265633588939:=()
def tw40459841430175887:=()
def tw10955846173500816361:=()
def tw177429106617766414:=()
def tw7691589620806532248:=()
def tw12993195358839908378:=()
def tw166268433682643484:=()
def tw6374245556788274327:=()
def tw9245360661219952419:=()
def tw5842905602108129020:=()
def tw10626063371964234355:=()
def tw2280398155537894270:=()
def tw7924007344331215378:=()
def tw13073398082013036902:=()
def tw151883254452810316:=()
def tw12394217631200527843:=()
def tw10460858922683341513:=()
def tw3259882053304850353:=()
def tw17941415111482087606:=()
def tw13759570591546765739:=()
def tw6192823922489282636:=()
def tw6036316139595838612:=()
def tw15447560936463734847:=()
def tw6439688531012560886:=()
def tw14012847081361837764:=()
def tw16232250111592076583:=()
def tw10120666566355731228:=()
def tw15933255374209296271:=()
def tw11412815807919522782:=()
def tw9668717603536777578:=()
def tw10343205227097616583:=()
def tw11624399831107359535:=()
def tw9904173704595886210:=()
def tw7105940104189689949:=()
def tw1869924537437314507:=()
def tw16900170301066326810:=()
def tw768102815955713045:=()
def tw1660042279724800930:=()
def tw15014112391289543039:=()
def tw14684595523146898910:=()
def tw5162723908548598940:=()
def tw9660378013484745515:=()
def tw5018259655472109187:=()
def tw4599081539668195055:=()
def tw10575075156639923434:=()
def tw16620185497057321093:=()
def tw16394118699786447656:=()
def tw250647503754233082:=()
def tw15246595425651422171:=()
def tw5181736121491117691:=()
def tw6955719784383918171:=()
def tw12063739819239697280:=()
def tw118192087999906346:=()
def tw15603661112703211535:=()
def tw6415844963641855229:=()
def tw11825064690382640502:=()
def tw5639770973760144239:=()
def tw15228882951615990245:=()
def tw1636317763644213059:=()
def tw10392304837227441634:=()
def tw6637078462650528389:=()
def tw614249396784385766:=()
def tw4400238949382118407:=()
def tw2676776086000942024:=()
def tw19512487465031963:=()
def tw9127976738406873401:=()
def tw5330842253383182503:=()
def tw4832264607346677913:=()
def tw14193124565783650546:=()
def tw7398681923480536982:=()
def tw5401882148268619528:=()
def tw3453203910284733430:=()
def tw12022824735778064193:=()
def tw11774690477320741016:=()
def tw3477957919688138592:=()
def tw16574110667451838760:=()
def tw15626317653375768438:=()
def tw12777213066675576049:=()
def tw12641449063341324576:=()
def tw16590524731877579432:=()
def tw14141088729454716484:=()
def tw16602350234051792108:=()
def tw14573122880791248995:=()
def tw11190076172197990820:=()
def tw15758567664140077920:=()
def tw3305369374873142909:=()
def tw11053151166311726986:=()
def tw5256399250759156080:=()
def tw10396265866371079367:=()
def tw10392798257034984566:=()
def tw11965076570325881012:=()
def tw5777920011594023765:=()
def tw18175113183362891464:=()
def tw14504558934611640980:=()
def tw14430441995124226996:=()
def tw7758727745769623487:=()
def tw589871859551517319:=()
def tw4345708403889110815:=()
def tw12629919383710847054:=()
def tw7586663060179321514:=()
def tw6105269203948198690:=()
def tw17357388956823134949:=()
def tw10277202847344446228:=()
def tw9765983391164015969:=()
def tw16187969416077288898:=()
def tw9981821056232601911:=()
def tw5855362778187974670:=()
def tw9699856372178540226:=()
def tw7462106121106367329:=()
def tw5304617663214148995:=()
def tw14666573991869929971:=()
def tw12593681170846575457:=()
def tw11082879901354785527:=()
def tw9337863354041206879:=()
def tw6461316041803606866:=()
def tw14335189056609013165:=()
def tw12924928693983693710:=()
def tw9637122546203168032:=()
def tw16221922004154210740:=()
def tw7077638033120849378:=()
def tw12635389305000011020:=()
def tw14932693307057437113:=()
def tw13395365911015138991:=()
def tw12004365825392931010:=()
end PySem.W.Fast
open PySem PySem.W PyProof.Rows
set_option maxRecDepth 100000 in
set_option maxHeartbeats 0 in
theorem PySem.Challenge.cw_halvecut_k63_whole_groups_of_spots_holds : PySem.Challenge.rw_halvecut_k63_whole_groups_of_spots.Holds := by
 w_on; o_law; k_head; (case hw => w_witness2)
 k_fill
 refine PD.walk (l := PySem.Challenge.rw_halvecut_k63_whole_groups_of_spots) (k := 12) (x := "_law_script") rfl rfl ⟨rfl, by decide, by decide⟩ (λw h Y => PySem.W.kIn_of Y) (λw => by kernel_rfl) ?F
 case F =>
  intro w d e h b G a
  refine' LW.all_mk b G a ?e0 ?e1 ?e2 ?e3 ?e4 ?e5 ?e6 ?e7 ?e8 ?e9 ?e10 ?e11 ?e12 ?e13 ?e14 ?e15 ?e16 ?e17 ?e18 ?e19 ?e20 ?e21 ?e22 ?e23 ?e24 ?e25 ?e26 ?e27 ?e28 ?e29 ?e30 ?e31 ?e32 ?e33 ?e34 ?e35 ?e36 ?e37 ?e38 ?e39 ?e40 ?e41 ?e42 ?e43 ?e44 ?e45 ?e46 ?e47 ?e48 ?e49 ?e50 ?e51 ?e52 ?e53 ?e54 ?e55 ?e56 ?e57 ?a58 ?l58 ?c58 ?k58 ?Pt ?Qw ?PO ?PH ?PJ ?Po ?Pp ?Pc ?Pd ?O1 ?O2 ?Pj ?QW ?Oq ?OF ?OL ?Ot ?Ou ?OM ?PW ?Rf ?ON ?Ss ?N1 ?NZ ?OG ?Sn ?Q6 ?N6 ?Q5 ?OX ?Pa ?OQ ?O5
  all_goals try (refine' PD.FL.mk ?a ?l ?c ?k; (case a => k_is); (case l => k_is); (case c => k_is); (case k => k_is))
  (case a58 => k_is)
  (case l58 => k_is)
  (case c58 => k_is)
  (case k58 => k_is)
  (case Pt => k_is)
  (case Qw => k_is)
  (case PO => k_is)
  (case PH => k_is)
  (case PJ => k_is)
  (case Po => k_is)
  (case Pp => k_is)
  (case Pc => k_is)
  (case Pd => k_is)
  (case O1 => k_is)
  (case O2 => k_is)
  (case Pj => kernel_rfl)
  (case QW => kernel_rfl)
  (case Oq => kernel_rfl)
  (case OF => kernel_rfl)
  (case OL => kernel_rfl)
  (case Ot => kernel_rfl)
  (case Ou => kernel_rfl)
  (case OM => kernel_rfl)
  (case PW => k_is)
  (case Rf => k_is)
  (case ON => k_is)
  (case Ss => k_is)
  (case N1 => k_is)
  (case NZ => k_is)
  (case OG => k_is)
  (case Sn => k_is)
  (case Q6 => k_is)
  (case N6 => k_is)
  (case Q5 => k_is)
  (case OX => k_is)
  (case Pa => k_is)
  (case OQ => k_is)
  (case O5 => k_is)
