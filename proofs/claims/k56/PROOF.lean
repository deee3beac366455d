import PyProof.Rows.All
import Wide.All
import OpenK.AllK
import Wide.FinOn
import Lean
import PyProof.EqAt
import PyProof.EqKinds
import PyProof.TupleCall
import PySem.Challenge.RW_halvecut_k56_depths_move_along
set_option compiler.extract_closed false
set_option bootstrap.genMatcherCode false
set_option tactic.hygienic false
def cV(n:Nat)(t:Lean.Term):Lean.MacroM (Lean.TSyntax `rcasesPat):=match n with
 |0=>`(rcasesPat|_)
 |n+1=>match t with
  |`(⟨$x,*⟩)=>do `(rcasesPat|⟨$[$(←x.getElems.mapM (cV n)):rcasesPat],*⟩)
  |`($i:ident)=>`(rcasesPat|$i:ident)
  |_=>`(rcasesPat|_)
local macro_rules|`(tactic|let $d:letDecl)=>`(tactic|have $d:letDecl)
local macro_rules|`(tactic|let $p:term:=$e)=>do `(tactic|obtain $(←cV 99 p):rcasesPat:=$e)
local macro_rules|`(tactic|calc $e:term)=>`(tactic|refine $e)
local macro_rules|`(tactic|cbv)=>`(tactic|simp_all)
local macro_rules|`(tactic|ext $p*)=>`(tactic|unfold $(p.map λx=>⟨x.raw[0][0]⟩)*)
local macro_rules|`(#[$x])=>`(($x).length)
local macro_rules|`(23)=>`(by decide)|`(33)=>`(by lia)|`(47)=>`(by simp_all)|`(52)=>`(by simp)|`(58)=>`(by grind)|`(72)=>`(by kernel_rfl)|`(73)=>`(by intro z;cases z)
set_option Elab.async false
set_option linter.all false set_option autoImplicit true set_option relaxedAutoImplicit true
set_option maxRecDepth 100000
noncomputable section
abbrev yaa:=PySem.Value->PySem.Shared->Prop
abbrev yab:=List (PySem.Addr×PySem.Obj)
abbrev yac:=PySem.W.Frag
abbrev yad:=List PySem.Value
abbrev yae:=List PySem.Addr
abbrev yaf:=List Int
abbrev yag:=List Nat
abbrev yah:=List PySem.Str
abbrev yai:=List PySem.Expr
abbrev yaj:=Nat->Option PySem.Addr
abbrev yak:=Bool->PySem.Addr->Prop
abbrev yal:=PySem.Str->Option PySem.Value
abbrev yam:=Option PySem.Value
abbrev yan:=Array PySem.Value
abbrev yao:=Array Nat
abbrev yap:=Option Int
def TJ:=@PySem.wpAny_bind
def T4:=@List.length_map
def T5:=@PySem.wpAny_pure
def TM:=@if_neg
def VX:=@PySem.Heap.get?_push_of_some
def Wc:=@List.getElem?_eq_getElem
def TU:=@if_pos
def UQ:=@List.mem_map
def U5:=@PySem.Heap.lt_size
def VS:=@List.mem_append
def VC:=@List.mem_cons
def Vz:=@Int.le_of_lt
def W9:=@List.mem_cons_of_mem
def WA:=@List.getElem?_map
def V6:=@Int.mul_nonneg
def VA:=@PySem.sizeLine_eq
def Xf:=@List.mem_of_getElem?
def XF:=@List.mem_append_right
def Xg:=@PySem.Heap.get?_push_size
def Yu:=@List.getD_eq_getElem?_getD
def Xh:=@List.length_append
def VY:=@Nat.le_refl
def XG:=@Nat.lt_of_lt_of_le
def WQ:=@Int.mul_eq_zero
def Ww:=@List.map_map
def Zn:=@List.getElem?_eq_some_iff
def WG:=@Nat.ne_of_lt
def Yv:=@List.mem_singleton
def Xb:=@Nat.le_trans
def YO:=@Array.length_toList
def YQ:=@List.filter_eq_self
def Yw:=@List.size_toArray
def Xc:=@Int.mul_pos
def Ya:=@List.map_cons
def Z9:=@Int.mul_neg_of_pos_of_neg
def Zo:=@List.mem_append_left
def zAk:=@List.eq_nil_of_length_eq_zero
def Yx:=@List.map_append
def Ys:=@decide_eq_true
def zAn:=@Int.mul_neg_of_neg_of_pos
def zAo:=@List.getElem?_append_left
def XO:=@Int.neg_mul
def zAq:=@List.getElem?_set_ne
def zAr:=@List.getElem?_append_right
def YH:=@PySem.wpAny_holding
def ZN:=@List.mem_cons_self
def zAu:=@Int.nonneg_of_mul_nonneg_right
def ZH:=@List.length_cons
def Yt:=@Nat.zero_le
def zAx:=@List.getElem_of_mem
def YR:=@Int.mul_comm
def YS:=@Int.mul_zero
def Yy:=@PySem.wpAny_field
def zA1:=@Array.getElem?_toList
def zA2:=@PySem.Heap.get?_update_self
def zA3:=@Int.mul_nonpos_of_nonpos_of_nonneg
def ZO:=@Nat.mod_eq_of_lt
def zA5:=@of_decide_eq_true
def ZI:=@Option.some.inj
def zA7:=@PySem.Heap.get?_update_other
def zA8:=@Option.map_eq_some_iff
def ZP:=@List.mem_filter
def YT:=@Int.le_refl
def zBB:=@Classical.byContradiction
def zBC:=@List.pairwise_iff_getElem
def Yz:=@PySem.wpAny_mono
def YI:=@Int.not_le
def zBF:=@List.getElem_map
def zBG:=@List.not_mem_nil
def zBH:=@Bool.false_eq_true
def zBI:=@Array.getElem?_eq_getElem
def zBJ:=@Int.mul_pos_of_neg_of_neg
def zBK:=@List.nodup_cons
def zBL:=@PySem.wpAny_seqItems
def zBM:=@List.append_assoc
def ZJ:=@Int.zero_mul
def zBO:=@PySem.codeAny_builtin
def zBP:=@PySem.Heap.SameBut.update
def zBQ:=@List.cons_append
def zBR:=@List.length_take
def zBS:=@PySem.wpAny_callSpecial?_slot
def zBT:=@Int.mul_nonneg_of_nonpos_of_nonpos
def zBU:=@Int.mul_nonpos_of_nonneg_of_nonpos
def zBV:=@PySem.wpAny_setState_of
def zBW:=@List.sublist_append_right
def zBX:=@List.pairwise_cons
def zBY:=@List.singleton_sublist
def zBZ:=@List.getElem_mem
def zBa:=@PySem.wpAny_call_entry
def zBb:=@PySem.wpAny_newObj_type
def zBc:=@Int.mul_assoc
def zBd:=@List.append_nil
def zBe:=@List.length_range'
def zBf:=@Nat.le_of_lt
def zBg:=@Nat.lt_of_le_of_lt
def zBh:=@PySem.wpAny_Call_Name_kw
def zBi:=@List.lookup_cons
def zBj:=@List.drop_eq_getElem_cons
def zBk:=@List.length_reverse
def ZQ:=@Int.not_lt
def zBm:=@List.dropLast_concat_getLast
def zBn:=@Nat.ne_of_gt
def zBo:=@Int.one_mul
def zBp:=@List.length_dropLast
def zBq:=@List.take_length
def Zp:=@PySem.boot_len
def zBs:=@Nat.lt_irrefl
def zBt:=@PySem.wpAny_truthy_bool
def zBu:=@List.exists_mem_of_ne_nil
def zBv:=@List.nil_append
def zBw:=@Int.natAbs_dvd_natAbs
def zBx:=@List.take_append_drop
def zBy:=@Int.mul_le_mul_of_nonneg_left
def zBz:=@List.getLast?_eq_some_getLast
def zB0:=@Bool.and_eq_true
def zB1:=@Bool.false_ne_true
def zB2:=@List.mem_flatMap
def zB3:=@PySem.plainId_quiet
def zB4:=@Int.lt_trichotomy
def ZR:=@Prod.ext
def zB6:=@PySem.wpAny_updateSeq
def zB7:=@List.map_congr_left
def zB8:=@Int.add_zero
def zB9:=@List.take_of_length_le
def zCA:=@List.sum_cons
def zCB:=@List.all_eq_true
def zCC:=@List.length_drop
def zCD:=@Int.natAbs_mul
def zCE:=@List.append_of_mem
def zCF:=@List.getElem?_eq_none
def zCG:=@PySem.wpAny_setField_rec
def zCH:=@List.getLastD_eq_getLast?
def zCI:=@Nat.succ_pos
def zCJ:=@PySem.wpAny_comprehension_free
def zCK:=@List.pairwise_map
def zCL:=@Nat.le_of_dvd
def zCM:=@List.getElem?_replicate
def zCN:=@List.length_pos_iff
def zCO:=@PySem.wpAny_isInstance
def zCP:=@List.getElem?_set_self
def zCQ:=@Nat.mod_lt
def zCR:=@List.mem_filterMap
def zCS:=@Nat.lt_or_ge
def zCT:=@Nat.pow_succ
def zCU:=@Nat.zero_add
def zCV:=@List.length_singleton
def zCW:=@if_true
def zCX:=@PySem.wpAny_passesOwn
def zCY:=@Int.dvd_trans
def zCZ:=@Int.lt_irrefl
def zCa:=@PySem.wpAny_attempt
def zCb:=@List.mem_range'_1
def zCc:=@List.nodup_append
def zCd:=@List.reverse_cons
def zCe:=@Nat.lt_succ_of_lt
def zCf:=@Nat.lt_trichotomy
def zCg:=@PySem.wpAny_pyIter_list
def zCh:=@List.getElem?_zip_eq_some
def zCi:=@List.mem_of_getLast?
def zCj:=@Nat.pow_le_pow_right
def zCk:=@PySem.Heap.size_push
def zCl:=@List.take_succ
def zCm:=@PySem.wpAny_setField
def zCn:=@Int.ne_of_gt
def zCo:=@List.filterMap_cons_some
def zCp:=@Nat.le_add_right
def zCq:=@Nat.le_of_not_lt
def zCr:=@PySem.codeAny_mono
def zCs:=@List.map_eq_nil_iff
def zCt:=@PySem.Heap.IsTupleIter.typeIs
def zCu:=@Int.dvd_coe_gcd
def zCv:=@PySem.wpAny_specialOf
def zCw:=@Int.fmod_nonneg_of_pos
def zCx:=@PySem.wpAny_letGo
def zCy:=@List.flatMap_cons
def zCz:=@List.take_sublist
def zC0:=@Nat.add_mod_right
def zC1:=@Nat.lt_of_succ_lt
def zC2:=@Int.le_trans
def zC3:=@Int.zero_add
def zC4:=@List.dropLast_sublist
def zC5:=@List.eq_nil_or_concat
def zC6:=@List.length_filter_le
def zC7:=@Nat.add_comm
def zC8:=@PySem.wpAny_tryCatch
def zC9:=@Int.gcd_mul_left
def zDA:=@List.mem_iff_getElem
def zDB:=@Nat.lt_succ_self
def zDC:=@Nat.mul_le_mul_right
def zDD:=@Option.getD_some
def zDE:=@Array.getElem?_eq_some_iff
def zDF:=@Array.perm_iff_toList_perm
def zDG:=@Int.fdiv_eq_ediv_of_nonneg
def zDH:=@List.filterMap_cons
def zDI:=@Int.eq_of_mul_eq_mul_left
def zDJ:=@List.getLast?_eq_none_iff
def zDK:=@List.ne_nil_of_length_pos
def zDL:=@List.of_mem_zip
def zDM:=@List.map_nil
def zDN:=@Nat.le_of_eq
namespace L2
open PySem PySem.Spec PyProof.Rows
abbrev Key:=Sum Int Str
def rK:Key->Value->Bool
 |.inl k,v=>Value.isInt k v
 |.inr x,v=>Value.isStrOf x v
def Te(w:World):Key->Int
 |.inl k=>hashInt k
 |.inr x=>hashStr w x
def cC:∀{k:Key} {v:Value},rK k v=true->(∃i t,k=Sum.inl i/\v=Value.int i t)∨(∃x t,k=Sum.inr x/\v=Value.str x t)
 |.inl i,v,h=>by
  let⟨t,e⟩:=Value.isInt_shape (k:=i) (v:=v) h
  cbv
 |.inr x,v,h=>by
  let⟨t,e⟩:=Value.isStrOf_shape (x:=x) (v:=v) h
  cbv
def Hw(i:Int)(t:Tok):rK (.inl i) (.int i t)=true:=by simp[rK,Value.isInt]
def Hx(x:Str)(t:Tok):rK (.inr x) (.str x t)=true:=by simp[rK,Value.isStrOf]
def Qo(a b:Int):decide ((Sum.inl a:Key)=Sum.inl b)=(a==b):=33
def Qp(a b:Str):decide ((Sum.inr a:Key)=Sum.inr b)=decide (a=b):=33
def cw(prog:Program)(w:World):PySem.KeyKind prog w Key where
 is:=rK
 hash:=Te w
 inj:=λv a b b a=>by
  rcases cC b with⟨i,t,rfl,rfl⟩| ⟨x,t,rfl,rfl⟩
  ·rcases cC a with⟨j,u,rfl,e⟩| ⟨y,u,rfl,e⟩
   all_goals lia
  ·rcases cC a with⟨j,u,rfl,e⟩| ⟨y,u,rfl,e⟩
   all_goals lia
 byValue:=λk v h=>by
  rcases cC h with⟨i,t,rfl,rfl⟩| ⟨x,t,rfl,rfl⟩<;>rfl
 pyHash:=λhv h=>by
  rcases cC hv with⟨i,t,rfl,rfl⟩| ⟨x,t,rfl,rfl⟩;calc wpAny_pyHash_int h;exact wpAny_pyHash_str h
 eqBool:=λa hv h=>by
  rcases cC a with⟨i,t,rfl,rfl⟩| ⟨x,t,rfl,rfl⟩;rcases cC hv with⟨j,u,rfl,rfl⟩| ⟨y,u,rfl,rfl⟩;rw[Qo]at h;calc wpAny_eqBool_int h;calc SeqAt.EqAt.int_str i t y u _ _ _ _ h;rcases cC hv with⟨j,u,rfl,rfl⟩| ⟨y,u,rfl,rfl⟩;exact SeqAt.EqAt.str_int x t j u _ _ _ _ h
  simp_all [Qp,wpAny_eqBool_str]
 «strs»:=λk x t v h=>by
  rcases cC h with⟨i,u,rfl,e⟩| ⟨y,u,rfl,e⟩
  lia
  injection e with e1 _;subst e1;cases v<;>rfl
def CI(prog:Program)(w:World)(i:Int)(t:Tok):(cw prog w).is (.inl i) (.int i t)=true:=Hw i t
def CJ(prog:Program)(w:World)(x:Str)(t:Tok):(cw prog w).is (.inr x) (.str x t)=true:=Hx x t
inductive V where
 |UE|bl (b:Bool)|int (i:Int)|str (x:Str)|byt (b:Array UInt8)|flt (b:UInt64)|ref (a:Addr)|ty (n:String)
 deriving DecidableEq
abbrev yaq:=List V
def RelV:V->Value->Prop
 |.UE,u=>u=Value.none
 |.bl b,u=>u=Value.bool b
 |.int i,u=>∃t,u=Value.int i t
 |.str x,u=>∃t,u=Value.str x t
 |.byt b,u=>∃t,u=Value.bytes b t
 |.flt b,u=>∃t,u=Value.float b t
 |.ref a,u=>u=Value.ref a
 |.ty n,u=>u=Value.type n
abbrev Vals:yaq->yad->Prop:=Paired RelV
theorem Vals.length(r:Vals xs us):#[xs]=#[us]:=Paired.length r
theorem Vals.get:∀{xs:yaq} {a:yad} {i:Nat} {x:V},Vals xs a->xs[i]?=some x->∃u,a[i]?=some u/\RelV x u
 |_,_,_,_,.nil,e=>by simp at e
 |_,_,0,_,.cons r _,e=>by simp at e;subst e;calc⟨_,rfl,r⟩
 |_,_,i+1,x,.cons _ t,e=>by let⟨u,b,a⟩:=Vals.get (i:=i) (x:=x) t (by simpa using e);calc⟨u,by simpa using b,a⟩
theorem Vals.append:∀{xs ys:yaq} {a ws:yad},Vals xs a->Vals ys ws->Vals (xs++ys) (a++ws)
 |_,_,_,_,.nil,s=>s
 |_,_,_,_,.cons r t,s=>.cons r (Vals.append t s)
theorem Vals.take:∀{xs:yaq} {a:yad} (n:Nat),Vals xs a->Vals (xs.take n) (a.take n)
 |_,_,0,_=>.nil
 |_,_,_+1,.nil=>.nil
 |_,_,n+1,.cons r t=>.cons r (Vals.take n t)
theorem Vals.drop:∀{xs:yaq} {a:yad} (n:Nat),Vals xs a->Vals (xs.drop n) (a.drop n)
 |_,_,0,r=>r
 |_,_,_+1,.nil=>.nil
 |_,_,n+1,.cons _ t=>Vals.drop n t
def Vals.none_of:∀{xs:yaq} {a:yad} {i:Nat},Vals xs a->xs[i]?=none->a[i]?=none:=fun {xs a i} r e=>by
 let b:=#[r]
 cbv
def lQ:Option V->yam->Prop
 |some v,some u=>RelV v u
 |none,none=>True
 |_,_=>False
def KV{κ:Type}:List (κ×V)->List (κ×Value)->Prop:=Paired λ(p:κ×V) (q:κ×Value)=>p.1=q.1/\RelV p.2 q.2
def kV:Key->V
 |.inl i=>.int i
 |.inr x=>.str x
inductive HO where
 |lst (xs:yaq)
 |tup (xs:yaq)
 |dK (kvs:List (Key×V))|dT (kvs:List (List Key×V))
 |set (S:Int->Bool) (n:Nat)
 |ins (C dx:Addr) (fs:List (Str×V))
 |own (x:Addr)
 |xd (fs:List (Str×V))
 |met (f x:Addr)
 |rng (lo hi:Int)
 |frz (o:Obj) (u:HO)
 |Yj (ps:yan)
 |ext (φ:Heap->Prop)
abbrev Hp:=Addr->Option HO
def upd(H:Hp)(a:Addr)(o:HO):Hp:=λb=>if b=a then some o else H b
theorem aW:upd H a o a=some o:=by ext upd;rw[TU rfl]
theorem aC{a b:Addr}(h:b≠a):upd H a o b=H b:=by ext upd;rw[TM h]
def vI{H:Hp}{o u:HO}(h:H a=some o)(h':H b=some u)(d:o≠u):a≠b:=33
def eV{H:Hp}{o:HO}(h:H a=some o)(h':H b=none):a≠b:=33
section
variable(P:Program)(w:World)
def bO(H:Hp)(h:Heap)(a:Addr):HO->Prop
 |.lst c=>#[c]<=sizeLine/\∃(b:yad) (n:Nat),Vals c b/\h.get? a=some {cls:=.type "list", data:=.seq b.toArray n}
 |.tup c=>#[c]<=sizeLine/\∃b:yad,Vals c b/\IsTup h a b.toArray
 |.dK b=>#[b]<=sizeLine/\(a==sysModules)=false/\∃d,KV b d/\h.DictOf (cw P w) a d
 |.dT b=>#[b]<=sizeLine/\(a==sysModules)=false/\∃c:List (List Key×Addr×Value),
   Paired (λ(p:List Key×V) (q:List Key×Addr×Value)=>p.1=q.1/\H q.2.1=some (.tup (p.1.map kV))/\RelV p.2 q.2.2) b c ∧
   ∃ o b d,h.get? a=some o/\o.ExactDict/\o.data=.dict b d/\b.toList=c.map (entryOfKey (tupleKind (cw P w)))/\(c.map (·.1)).Nodup
 |.set S n=>h.SetOf (intKind P w) a S n
 |.ins C d c=>H d=some (.own a)/\#[c]<=1000/\d≠a/\h.get? a=some (PySem.W.instObj C d) ∧
   ∃ b,h.Ns1 d b/\(∀f,lQ (c.lookup f) (b f))/\PySem.Within b (c.map (·.1))
 |.own _=>∃o,h.get? a=some o
 |.xd c=>∃b,h.Ns1 a b/\∀f,lQ (c.lookup f) (b f)
 |.rng lo b=>∃t u v,h.get? a=some {cls:=.type "range", data:=.fields #[.int lo t,.int b u,.int 1 v]}
 |.frz o u=>h.get? a=some o/\bO H h a u
 |.Yj b=>h.get? a=some {cls:=.none,data:=.fields b}
 |.met f x=>h.get? a=some (PySem.W.methodObj (.ref f) (.ref x))
 |.ext b=>b h/\(∃o,h.get? a=some o)/\∀d c:Heap,b d->(∀o,d.get? a=some o->c.get? a=some o)->b c
def WR(H:Hp)(h:Heap):Prop:=∀a o,H a=some o->bO P w H h a o
end
section
variable{P:Program}{w:World}{H H':Hp}{h h':Heap}{a:Addr}{o:HO}
theorem bO.lt(x:bO P w H h a o):a<h.objs.size:=by
 cases o with
 |lst b=>let⟨_,_,_,_,e⟩:=x;calc U5 e
 |tup b=>let⟨_,_,_,p⟩:=x;calc p.lt
 |dK b=>let⟨_,_,_,_,o,_,_,e,_⟩:=x;calc U5 e
 |dT b=>let⟨_,_,_,_,o,_,_,e,_⟩:=x;calc U5 e
 |set S n=>let⟨o,_,_,_,e,_⟩:=x;calc U5 e
 |ins C i b=>let⟨_,_,_,e,_⟩:=x;calc U5 e
 |own y=>let⟨_,e⟩:=x;calc U5 e
 |xd b=>let⟨_,⟨_,_,_,e,_⟩,_⟩:=x;calc U5 e
 |rng lo g=>let⟨_,_,_,e⟩:=x;calc U5 e
 |frz ob u=>let⟨e,_⟩:=x;calc U5 e
 |Yj d=>calc U5 (show h.get? a=some _ from x)
 |met f y=>calc U5 (show h.get? a=some _ from x)
 |ext c=>let⟨_,⟨_,e⟩,_⟩:=x;calc U5 e
theorem Paired.mapP{d c:Type}{F G:d->c->Prop}:∀{l₁:List d} {l₂:List c},Paired F l₁ l₂->(∀a b,F a b->G a b)->Paired G l₁ l₂
 |_,_,.nil,_=>.nil
 |_,_,.cons r t,f=>.cons (f _ _ r) (Paired.mapP t f)
def bO.Zd(x:bO P w H h a o)(k:∀b u,(b=a∨H b=some (.own a))->h.get? b=some u->h'.get? b=some u)
  (m:∀b,H b=some (.own a)->H' b=some (.own a)) (j:∀b xs,H b=some (.tup xs)->H' b=some (.tup xs)):bO P w H' h' a o:=by
 induction o with
 |lst xs=>let⟨z,d,n,r,e⟩:=x;calc⟨z,d,n,r,k _ _ (.inl rfl) e⟩
 |tup xs=>let⟨z,d,r,b,e,c⟩:=x;calc⟨z,d,r,b,k _ _ (.inl rfl) e,c⟩
 |dK d=>let⟨z,y,i,r,b,f,g,e,c⟩:=x;calc⟨z,y,i,r,b,f,g,k _ _ (.inl rfl) e,c⟩
 |dT d =>
  let⟨z,y,xs,r,b,f,g,e,c⟩:=x;calc⟨z,y,xs,Paired.mapP r λp q z=>⟨z.1,j _ _ z.2.1,z.2.2⟩,b,f,g,k _ _ (.inl rfl) e,c⟩
 |set S n=>let⟨b,f,g,t,e,c⟩:=x;calc⟨b,f,g,t,k _ _ (.inl rfl) e,c⟩
 |ins C E n =>
  let⟨d,z,l,e,j,⟨i,f,g,s,c⟩,r⟩:=x;calc⟨m _ d,z,l,k _ _ (.inl rfl) e,j,⟨i,f,g,k _ _ (.inr d) s,c⟩,r⟩
 |own y=>let⟨b,e⟩:=x;calc⟨b,k _ _ (.inl rfl) e⟩
 |xd n=>let⟨j,⟨i,f,g,e,c⟩,r⟩:=x;calc⟨j,⟨i,f,g,k _ _ (.inl rfl) e,c⟩,r⟩
 |rng lo B=>let⟨t,u,v,e⟩:=x;calc⟨t,u,v,k _ _ (.inl rfl) e⟩
 |frz b u ih=>let⟨e,q⟩:=x;calc⟨k _ _ (.inl rfl) e,ih q⟩
 |Yj b =>
  let e:h.get? a=some {cls:=.none,data:=.fields b}:=x;show h'.get? a=some {cls:=.none,data:=.fields b};calc k a _ (.inl rfl) e
 |met f y =>
  let e:h.get? a=some (PySem.W.methodObj (.ref f) (.ref y)):=x;show h'.get? a=some (PySem.W.methodObj (.ref f) (.ref y));calc k a _ (.inl rfl) e
 |ext A=>let⟨p,⟨o,e⟩,st⟩:=x;calc⟨st _ _ p λo q=>k _ _ (.inl rfl) q,⟨o,k _ _ (.inl rfl) e⟩,st⟩
theorem WR.lt(x:WR P w H h)(e:H a=some o):a<h.objs.size:=(x a o e).lt
def WR.fresh(x:WR P w H h)(e:h.objs.size<=a):H a=none:=by
 cases q:H a with
 |none=>rfl
 |some u=>calc absurd (XG (x.lt q) e) (zBs _)
def WR.kept(x:WR P w H h)(k:∀b u,h.get? b=some u->h'.get? b=some u):WR P w H h':=λa o e =>
 (x a o e).Zd 58 33 33
def WR.laid(x:WR P w H h)(k:∀b u,h.get? b=some u->h'.get? b=some u)(c:h.objs.size<=a)(d:bO P w (upd H a o) h' a o):WR P w (upd H a o) h':=λb u e=>by let g:=x.fresh c;by_cases c:b=a;grind [aW];rw[aC c]at e;calc(x b u e).Zd 58 (λc q=>by rw[aC 33];calc q) λc f q=>by rw[aC 33];calc q
end
def Rd(H:Hp)(a:Addr)(u:HO):Prop:=H a=some u∨∃ o,H a=some (.frz o u)
def Rd.ok(r:Rd H a u)(x:WR P w H h):bO P w H h a u:=by
 obtain r|⟨o,r⟩:=r;calc x a u r;let⟨_,q⟩:=x a _ r;calc q
def Mut:Option HO->Prop
 |some (.lst _)=>True
 |some (.dK _)=>True
 |some (.dT _)=>True
 |some (.set _ _)=>True
 |some (.ins _ _ _)=>True
 |some (.ext _)=>True
 |_=>False
section
variable{P:Program}{w:World}{H:Hp}{h h':Heap}{x e:Addr}{o':HO}
def WR.write(j:WR P w H h)(a:Mut (H x))(n:e=x∨H e=some (.own x))(k:∀b u,b≠e->h.get? b=some u->h'.get? b=some u)(d:∃u,h'.get? e=some u)
  (l:bO P w (upd H x o') h' x o'):WR P w (upd H x o') h':=λb u q=>by
 let i:∀c y,H c=some (.own y)->c≠x:=λc y r z=>by subst z;rw[r]at a;exact a
 let g:∀c f,H c=some (.tup f)->c≠x:=λc f r z=>by subst z;rw[r]at a;exact a
 by_cases a:b=x;grind [aW];rw[aC a]at q;by_cases m:b=e;let a:H b=some (.own x):=33
 rw[q]at a;cases a;let⟨v,hv⟩:=d;calc⟨v,33⟩;calc(j b u q).Zd (λc v o r=>k c v ?_ r) (by grind [aC]) (by grind [aC]);grind
end
structure Un(fs ex:yae)(H H':Hp)(h h':Heap):Prop where
 keep:∀b o,h.get? b=some o->H b=none->b∉fs->b∉ex->h'.get? b=some o
 slot:∀b o,h.get? b=some o->H b=none->b∈fs->b∉ex->∃sl,h'.get? b=some {o with slots:=sl}
 free:∀b o,h.get? b=some o->H b=none->b∉ex->H' b=none
 there:∀b o,h.get? b=some o->b∉ex->∃o',h'.get? b=some o'
 Ze:∀b xs,H b=some (.tup xs)->H' b=some (.tup xs)
 YA:∀b o u,H b=some (.frz o u)->H' b=some (.frz o u)
 Zf:∀b ps,H b=some (.Yj ps)->∃more,H' b=some (.Yj (ps++more))
section
variable{fs fs' ex ex':yae}{H H1 H2:Hp}{h h1 h2 h':Heap}{a x e:Addr}{o:HO}
def Un.any(u:Un fs ex H H1 h h1){c:Obj}(q:h.get? b=some c)(n:H b=none)(d:b∉ex):∃f,h1.get? b=some {c with slots:=f}:=by by_cases f:b∈fs;calc u.slot b c q n f d;calc⟨c.slots,u.keep b c q n f d⟩
def Un.kept(k:∀b u,h.get? b=some u->h'.get? b=some u):Un fs ex H H h h' :=
 ⟨λb c q _ _ _=>k b c q,λb c q _ _ _=>⟨c.slots,k b c q⟩,λ_ _ _ n _=>n,λb c q _=>⟨c,k b c q⟩,λ_ _ q=>q,λ_ _ _ q=>q,λ_ d q=>⟨#[],by rw[q];simp⟩⟩
theorem Un.refl:Un fs ex H H h h:=Un.kept 33
def Un.laid(k:∀b u,h.get? b=some u->h'.get? b=some u)(c:h.objs.size<=a)(f:H a=none):Un fs ex H (upd H a o) h h' where
 keep:=58
 slot:=λb u q _ _ _=>⟨u.slots,k b u q⟩
 free:=λb u q n _=>by rw[aC (WG (XG (U5 q) c))];lia
 there:=58
 Ze:=λb c q=>by rw[aC 33];exact q
 YA:=λb u c q=>by rw[aC 33];exact q
 Zf:=λb d q=>⟨#[],by rw[aC 33,q];simp⟩
def Un.write(c:Mut (H x))(j:e=x∨H e=some (.own x))(k:∀b u,b≠e->h.get? b=some u->h'.get? b=some u)(f:∃u,h'.get? e=some u):Un fs ex H (upd H x o) h h':=by
 let i:∀b,H b=none->b≠x:=λb n z=>by subst z;rw[n]at c;exact c
 let l:∀b,H b=none->b≠e:=33
 let c:∀b u,H b=some u->¬Mut (some u)->b≠x:=33
 refine⟨47,λb u q n _ _=>⟨u.slots,47⟩,by grind [aC],λb u q _=>?_,
  λb d q=>by rw[aC (c b _ q λz=>z)];calc q,λb u d q=>by rw[aC (c b _ q λz=>z)];calc q,λb g q=>⟨#[],by rw[aC (c b _ q λz=>z),q];simp⟩⟩
 grind
end
noncomputable def trk(h:Heap)(H:Hp):yae:=(List.range h.objs.size).filter λa=>(H a).isSome
def fQ(h:Heap)(H:Hp):Heap:=PySem.W.hideAll h (trk h H)
def yP(h:Heap)(H:Hp):(fQ h H).objs.size=h.objs.size:=PySem.W.hideAll_size _ _
def A6{h:Heap}{H:Hp}{o:Obj}(e:h.get? b=some o)(n:H b=none):(fQ h H).get? b=some o :=
 PySem.W.hideAll_get _ e λa=>by let q:(H b).isSome=true:=(ZP.mp a).2;rw[n]at q;simp at q
def D9{o:Obj}(e:(fQ h H).get? b=some o):h.get? b=some o/\H b=none:=by
 let a:h.get? b=some o:=PySem.W.of_hideAll (trk h H) e;calc⟨a,?_⟩;cases q:H b with
 |none=>rfl
 |some x =>
  let a:b∈trk h H:=ZP.mpr (by grind [Heap.lt_size]);let z:(fQ h H).get? b=none:=PySem.W.hideAll_none (trk h H) a
  lia
structure Mod(K:yac)(mg:yal)(base:Heap):Prop where
 YB:K.In base
 glob:base.Ns mainGlobals mg
 blt:∃mb,base.Ns builtinsNs mb/\∀x:Str,x ≠ "__name__" -> mb x=bootBuiltins x
 nolimit:base.NoLimit
structure Cx where
 prog:Program
 w:World
 K:yac
 mg:yal
 base:Heap
 A:Around
 N:yah
 Uv:Shared
 Vl:Hp
 env:Env
 outer:List Env
 stack:List Env
 ex:yae
 fn:Str->Bool
 calm:Bool
 pn:yab
 xe:yaa
noncomputable def YJ(l:List Env):yae:=l.filterMap (·.frame)
abbrev Cx.fs(X:Cx):yae:=YJ X.outer
def Vis(a:Scope)(x:Str):Prop:=a.names.lookup x=some .local∨a.names.lookup x=some .cell∨a.names.lookup x=some .free
def Loc(a:Scope)(x:Str):Prop:=a.names.lookup x=some .local∨a.names.lookup x=some .cell
def Look(env:Env)(h:Heap)(m:yal)(x:Str)(u:Value):Prop :=
 (env.kindOf x=some .local/\m x=some u)∨((env.kindOf x=some .cell∨env.kindOf x=some .free)/\∃c,env.cells.lookup x=some c/\h.IsCell c (some u))
structure Cx.Ok(X:Cx):Prop where
 mod:Mod X.K X.mg X.base
 kind:X.env.scope.kind=.function
 glob:X.env.globals=mainGlobals
 blt:X.env.builtins=builtinsNs
 above:X.Uv.heap.objs.size<=X.env.locals
 inj:∀x y c,X.env.cells.lookup x=some c->X.env.cells.lookup y=some c->x=y
 has:∀x,(X.env.kindOf x=some .cell∨X.env.kindOf x=some .free)->∃c,X.env.cells.lookup x=some c
 cab:∀x c,X.fn x=true->X.env.cells.lookup x=some c->X.Uv.heap.objs.size<=c
 hd:X.calm=true->X.A.handled=none
 frames:X.A.frames=some X.stack
 stk:X.stack=X.outer∨(X.stack=X.env::X.outer/\X.env.frame=some X.env.locals)
 exf:∀b∈X.ex,b≠X.env.locals/\∀x c,X.env.cells.lookup x=some c->c≠b
 bs:∀b o,X.base.get? b=some o->X.Uv.heap.get? b=some o/\X.Vl b=none
 bsz:X.base.objs.size<=X.Uv.heap.objs.size
 noex:∀b o,X.base.get? b=some o->b∉X.ex
 exfs:∀b∈X.ex,b∉X.fs
 YC:X.Uv.heap.FunFrames X.base X.outer
 frf:∀b∈X.fs,X.Vl b=none
structure Inv(X:Cx)(pins:yab)(σ:List (Option V))(H:Hp)(s:Shared):Prop where
 ok:X.Ok
 os:s.os=X.Uv.os
 bare:AllBare s.gens
 base:Un X.fs X.ex X.Vl H X.Uv.heap s.heap
 loc:∃m,s.heap.Ns X.env.locals m/\∀(i:Nat) (x:Str) (v:V),X.N[i]?=some x->σ[i]?=some (some v)->Vis X.env.scope x->∃u,RelV v u/\Look X.env s.heap m x u
 cell:∀x c,X.env.cells.lookup x=some c->∃v,s.heap.IsCell c v
 free:H X.env.locals=none
 Xi:∀x c,X.env.cells.lookup x=some c->H c=none
 pin:∀p∈X.pn++pins,s.heap.get? p.1=some p.2/\H p.1=none/\p.1≠X.env.locals/\p.1∉X.fs/\∀v,p.2.data ≠ .cell v
 Uk:WR X.prog X.w H s.heap
 len:#[σ]=#[X.N]
section
variable{X:Cx}{pins:yab}{σ:List (Option V)}{H H':Hp}{s:Shared}{h':Heap}
def Cx.Ok.nofr(a:X.Ok){o:Obj}(e:X.base.get? b=some o):b∉X.fs:=λb=>by
 have:=(a.YC.mem b).1
 lia
theorem Inv.bs(I:Inv X pins σ H s):∀b o,X.base.get? b=some o->s.heap.get? b=some o/\H b=none:=λb o e =>
 ⟨I.base.keep b o (I.ok.bs b o e).1 (I.ok.bs b o e).2 (I.ok.nofr e) (I.ok.noex b o e),I.base.free b o (I.ok.bs b o e).1 (I.ok.bs b o e).2 (I.ok.noex b o e)⟩
def Inv.bk(I:Inv X pins σ H s):∀b o,X.base.get? b=some o->s.heap.get? b=some o:=λb o e=>(I.bs b o e).1
theorem Inv.mod(I:Inv X pins σ H s):Mod X.K X.mg X.base:=I.ok.mod
def Inv.Zq(I:Inv X pins σ H s):X.K.In s.heap:=I.ok.mod.YB.keeps I.bk
theorem Inv.nolimit(I:Inv X pins σ H s):s.heap.NoLimit:=I.ok.mod.nolimit.keeps I.bk
theorem Inv.lt(I:Inv X pins σ H s):X.env.locals<s.heap.objs.size:=let ⟨_,hn,_⟩:=I.loc;hn.lt
def Inv.sz(I:Inv X pins σ H s):X.Uv.heap.objs.size<=s.heap.objs.size:=Xb I.ok.above (zBf I.lt)
def Inv.nofs(I:Inv X pins σ H s){a:Addr}(h:s.heap.objs.size<=a):a∉X.fs:=λb=>by let⟨_,o,a,_⟩:=I.ok.YC.mem b;calc absurd (XG (U5 a) (Xb I.sz h)) (zBs _)
def Inv.cne(I:Inv X pins σ H s):∀x c,X.env.cells.lookup x=some c->c≠X.env.locals:=λx c e z=>by
 let⟨v,o,d,f⟩:=I.cell x c e;let⟨m,⟨b,g,h,Zg,a,_⟩,_⟩:=I.loc
 lia
theorem Inv.YC(I:Inv X pins σ H s):s.heap.FunFrames X.base X.outer:=by
 let c:∀(l:List Env),(∀b∈YJ l,b∈X.fs)->X.Uv.heap.FunFrames X.base l->s.heap.FunFrames X.base l:=by
  intro l
  induction l with
  |nil=>intro _ _;trivial
  |cons j r ih =>
   intro d a;let⟨h,⟨L,o,i,m,g,n⟩,f⟩:=a;let a:L∈X.fs:=d L (by ext YJ;cbv);let⟨k,e⟩:=I.base.slot L o g (I.ok.frf L a) a λz=>I.ok.exfs L z a
   exact⟨h,47,ih (λb a=>d b (by ext YJ;rw[zDH,i];calc W9 _ a)) f⟩
 calc c X.outer 33 I.ok.YC
theorem Inv.stack(I:Inv X pins σ H s):s.heap.FunFrames X.base X.stack:=by
 obtain e|⟨e,b⟩:=I.ok.stk;rw[e];calc I.YC;rw[e];let⟨m,a,_⟩:=I.loc;calc .cons (by rw[I.ok.kind];decide) b a ?_ I.YC;calc Heap.get?_none_of_le (Xb I.ok.bsz I.ok.above)
def Inv.Yk(I:Inv X pins σ H s):∀b∈YJ X.stack,b∈X.env.locals::X.fs:=λb a=>by
 obtain e|⟨e,b⟩:=I.ok.stk;rw[e]at a;calc W9 _ a;rw[e]at a;unfold YJ at a;rw[zDH,b]at a;calc a
def Inv.YK(I:Inv X pins σ H s):∀b∈YJ X.stack,H b=none:=λb hb=>by
 rcases VC.mp (I.Yk b hb)with e|hb;rw[e];calc I.free;let⟨_,o,a,_⟩:=I.ok.YC.mem hb;calc I.base.free b o a (I.ok.frf b hb) λz=>I.ok.exfs b z hb
def Inv.step{t':Nat}{d':Drawn}{ch:yae}(I:Inv X pins σ H s)
  (f:∀b∈ch,(b∈X.ex∨X.Uv.heap.objs.size<=b)/\b≠X.env.locals/\(∀x c,X.env.cells.lookup x=some c->c≠b)/\∀p∈X.pn++pins,p.1≠b)
  (h:∀b o,b≠X.env.locals->b∉X.fs->b∉ch->s.heap.get? b=some o->H b=none->h'.get? b=some o)
  (g:∀b o,b≠X.env.locals->b∈X.fs->b∉ch->s.heap.get? b=some o->H b=none->∃A,h'.get? b=some {o with slots:=A}) (d:∀b o,b∉ch->s.heap.get? b=some o->H b=none->H' b=none)
  (y:∀b o,b∉ch->s.heap.get? b=some o->∃r,h'.get? b=some r)
  (E:∀b xs,H b=some (.tup xs)->H' b=some (.tup xs)) (G:∀b o u,H b=some (.frz o u)->H' b=some (.frz o u)) (Zf:∀b ps,H b=some (.Yj ps)->∃a,H' b=some (.Yj (ps++a)))
  (ns:∀m,s.heap.Ns X.env.locals m->h'.Ns X.env.locals m) (J:WR X.prog X.w H' h') (C:AllBare g') :
  Inv X pins σ H' {s with heap:=h',gens:=g',drawn:=d',toks:=t'}:=by
 let k:∀b o,X.Uv.heap.get? b=some o->b≠X.env.locals:=λb o e=>WG (XG (U5 e) I.ok.above)
 let i:∀b o,X.Uv.heap.get? b=some o->b∉X.ex->b∉ch:=λb o e a j=>by
  rcases(f b j).1 with z|z;calc a z;exact absurd (XG (U5 e) z) (zBs _)
 let t:∀x c,X.env.cells.lookup x=some c->∀v,s.heap.IsCell c v->h'.IsCell c v:=λx c e v ⟨o,w,B⟩=>by
  let l:c∉ch:=λz=>(f c z).2.2.1 x c e rfl
  by_cases n:c∈X.fs;let⟨A,q⟩:=g c o (I.cne x c e) n l w (I.Xi x c e);calc⟨_,q,B⟩;exact⟨o,h c o (I.cne x c e) n l w (I.Xi x c e),B⟩
 calc⟨I.ok,I.os,C,⟨λb o e n j a=>?_,λb o e n j a=>?_,λb o e n a=>?_,λb o e a=>?_,λb xs e=>E b xs (I.base.Ze b xs e),λb o xs e=>G b o xs (I.base.YA b o xs e),λb ps e=>?_⟩,?_,λx c e=>?_,?_,λx c e=>?_,λp C=>?_,J,I.len⟩;calc h b o (k b o e) j (i b o e a) (I.base.keep b o e n j a) (I.base.free b o e n a);let⟨A,h⟩:=I.base.slot b o e n j a;let⟨l,q⟩:=g b _ (k b o e) j (i b o e a) h (I.base.free b o e n a);calc⟨l,q⟩;let⟨r,h⟩:=I.base.there b o e a;calc d b r (i b o e a) h (I.base.free b o e n a);let⟨r,h⟩:=I.base.there b o e a;grind;let⟨N,h⟩:=I.base.Zf b ps e;grind;let⟨m,a,b⟩:=I.loc;calc⟨m,ns m a,λi x v h q a=>?_⟩;let⟨u,r,l⟩:=b i x v h q a;calc⟨u,r,?_⟩;obtain l|⟨k,c,e,z⟩:=l;calc .inl l;calc .inr ⟨k,c,e,t x c e _ z⟩;let⟨v,z⟩:=I.cell x c e;grind;let⟨m,⟨o,_,_,w,_⟩,_⟩:=I.loc;calc d _ o (λz=>(f _ z).2.1 rfl) w I.free;let⟨v,o,w,B⟩:=I.cell x c e;calc d c o (λz=>(f c z).2.2.1 x c e rfl) w (I.Xi x c e);let⟨e,n,M,L,d⟩:=I.pin p C;grind
def Inv.un{t':Nat}(I:Inv X pins σ H s)(u:Un X.fs [] H H' s.heap h')(h:WR X.prog X.w H' h'):Inv X pins σ H' {s with heap:=h',toks:=t'}:=by
 let⟨m,⟨o,l,p,c,r⟩,_⟩:=id I.loc;let⟨i,f⟩:=u.any c I.free 52;calc I.step (g':=s.gens) (d':=s.drawn) (ch:=[]) (λ_ z=>nomatch z) (λb o _ a _ e n=>u.keep b o e n a 52) (λb o _ a _ e n=>u.slot b o e n a 52) (λb o _ e n=>u.free b o e n 52) (λb o _ e=>u.there b o e 52) u.Ze u.YA u.Zf (λk e=>by let⟨j,g,a,b,d⟩:=e;rw[c]at b;cases b;calc⟨_,g,a,f,d⟩) h I.bare
def Inv.call{t':Nat}{d':Drawn}(I:Inv X pins σ H s)(u:Un (YJ X.stack) ch H H' s.heap h')(i:WR X.prog X.w H' h')(g:AllBare g')
  (a:∀b∈ch,(b∈X.ex∨X.Uv.heap.objs.size<=b)/\b≠X.env.locals/\(∀x c,X.env.cells.lookup x=some c->c≠b)/\∀p∈X.pn++pins,p.1≠b) :
  Inv X pins σ H' {s with heap:=h',gens:=g',drawn:=d',toks:=t'}:=by
 let⟨m,⟨o,q,t,d,r⟩,_⟩:=id I.loc;let⟨j,c⟩:=u.any d I.free λz=>(a _ z).2.1 rfl
 calc I.step (ch:=ch) a (λb o c f a e n=>u.keep b o e n (λz=>(VC.mp (I.Yk b z)).elim c f) a) (λb o _ _ a e n=>u.any e n a) (λb o a e n=>u.free b o e n a) (λb o a e=>u.there b o e a) u.Ze u.YA u.Zf (λl f=>by let⟨k,h,a,b,e⟩:=f;rw[d]at b;cases b;calc⟨_,h,a,c,e⟩) i g
def Inv.turned{t':Nat}{it:Addr}(I:Inv X pins σ H s)(k:∀b o,b≠it->s.heap.get? b=some o->h'.get? b=some o)(a:H it=none)(f:it≠X.env.locals)
  (l:it∈X.ex∨X.Uv.heap.objs.size<=it) (j:∀x c,X.env.cells.lookup x=some c->c≠it) (i:∀p∈X.pn++pins,p.1≠it):Inv X pins σ H {s with heap:=h',toks:=t'}:=by
 let d:∀b u,H b=some u->b≠it:=λb u e z=>by rw[z,a]at e;cases e
 refine I.step (g':=s.gens) (d':=s.drawn) (ch:=[it]) (λb g=>?_) (λb o _ _ a e _=>k b o (λz=>a (by simp[z])) e) (λb o _ _ a e _=>⟨o.slots,k b o (λz=>a (by simp[z])) e⟩) (λ_ _ _ _ n=>n)
  (λb o a e=>⟨o,k b o (λz=>a (by simp[z])) e⟩) (λ_ _ e=>e) (λ_ _ _ e=>e) (λb t e=>⟨#[],by rw[e];simp⟩) (λm h=>?_) (λb u e=>?_) I.bare
 let e:b=it:=by simpa using g
 subst e;calc⟨l,f,j,i⟩;let⟨o,i,j,g,r⟩:=h;calc⟨o,i,j,k _ o (Ne.symm f) g,r⟩;refine(I.Uk b u e).Zd (λc v a q=>k c v ?_ q) (λ_ q=>q) λ_ _ q=>q
 obtain z|z:=a;rw[z];calc d b u e;calc d c _ z
def Inv.tok(I:Inv X pins σ H s)(t:Nat):Inv X pins σ H {s with toks:=t}:=I.un (h':=s.heap) (t':=t) Un.refl I.Uk
theorem Inv.kept{t':Nat}(I:Inv X pins σ H s)(k:∀b u,s.heap.get? b=some u->h'.get? b=some u):Inv X pins σ H {s with heap:=h',toks:=t'}:=I.un (Un.kept k) (I.Uk.kept k)
theorem Inv.laid{a:Addr}{t':Nat}(I:Inv X pins σ H s)(k:∀b u,s.heap.get? b=some u->h'.get? b=some u)(d:s.heap.objs.size<=a)(c:bO X.prog X.w (upd H a o) h' a o) :
  Inv X pins σ (upd H a o) {s with heap:=h',toks:=t'}:=I.un (Un.laid k d (I.Uk.fresh d)) (I.Uk.laid k d c)
theorem Inv.write{e:Addr}{t':Nat}(I:Inv X pins σ H s)(d:Mut (H x))(f:e=x∨H e=some (.own x))(k:∀b u,b≠e->s.heap.get? b=some u->h'.get? b=some u)(a:∃u,h'.get? e=some u)
  (c:bO X.prog X.w (upd H x o) h' x o):Inv X pins σ (upd H x o) {s with heap:=h',toks:=t'}:=I.un (Un.write d f k a) (I.Uk.write d f k a c)
def Inv.pins_of{a:yab}(I:Inv X pins σ H s)(h:∀p∈a,s.heap.get? p.1=some p.2/\H p.1=none/\p.1≠X.env.locals/\p.1∉X.fs/\∀v,p.2.data ≠ .cell v):Inv X a σ H s :=
 ⟨I.ok,I.os,I.bare,I.base,I.loc,I.cell,I.free,I.Xi,λp a=>(VS.mp a).elim (λz=>I.pin p (Zo _ z)) (h p),I.Uk,I.len⟩
def Bw{N:yah}(c:N.Nodup){i j:Nat}{x:Str}(a:N[i]?=some x)(b:N[j]?=some x):i=j:=by grind [List.getElem_inj]
def qY{i:Nat}{x:Str}{Q:Unit->Shared->Prop}(I:Inv X pins σ H s)(hN:X.N.Nodup)(J:X.N[i]?=some x)(l:Loc X.env.scope x)(r:RelV v u)
  (h:∀b,Inv X pins (σ.set i (some v)) H b->(∃a,Heap.SameBut a s.heap b.heap/\(a=X.env.locals∨X.env.cells.lookup x=some a))->Q () b) (hf:X.fn x=true∨X.env.scope.names.lookup x=some .local:=by first|calc .inl rfl|calc .inr rfl|assumption):wpAny M A (storeName X.env x u) Q E s:=by
 let⟨m,hn,hl⟩:=id I.loc;let d:(X.env.scope.kind==.class || (X.env.scope.kind==.module && X.env.locals != X.env.globals))=false:=by rw[I.ok.kind];rfl
 let A:i<#[σ]:=by rw[I.len];exact(Zn.mp J).1
 let G:=I.cne;let f:∀{a:Addr} {h':Heap},(∃o,s.heap.get? a=some o/\H a=none)->Heap.SameBut a s.heap h'->WR X.prog X.w H h':=fun {a h'} ha a b c e=>by
  refine(I.Uk b c e).Zd (λc L t q=>(a.2 c ?_).trans q) (λ_ q=>q) λ_ _ q=>q
  lia
 obtain hk|hk:=l;calc wpAny_storeName_local hk hn (λh' g a=>?_) d;let⟨oL,_,_,d,_⟩:=id hn;calc h _ ⟨I.ok,I.os,I.bare,⟨λb o e n E l=>?_,λb o e n E l=>?_,I.base.free,λb o e l=>?_,I.base.Ze,I.base.YA,I.base.Zf⟩,⟨_,g,λj y N g w e3=>?_⟩,λy c e=>?_,I.free,I.Xi,λp hp=>?_,f ⟨oL,d,I.free⟩ a,by simpa using I.len⟩ ⟨_,a,.inl rfl⟩;calc(a.2 b (WG (XG (U5 e) I.ok.above))).trans (I.base.keep b o e n E l);let⟨Q,g⟩:=I.base.slot b o e n E l;calc⟨Q,(a.2 b (WG (XG (U5 e) I.ok.above))).trans g⟩;let⟨U,g⟩:=I.base.there b o e l;calc⟨U,(a.2 b (WG (XG (U5 e) I.ok.above))).trans g⟩;by_cases B:j=i;subst B;rw[J]at g;cases g;rw[zCP A]at w;cases w;calc⟨u,r,.inl ⟨hk,52⟩⟩;rw[zAq (Ne.symm B)]at w;let⟨O,T,q⟩:=hl j y N g w e3;calc⟨O,T,?_⟩;rcases q with⟨k,e⟩| ⟨k,c,e,z⟩;calc .inl ⟨k,?_⟩;have:y≠x:=λe=>B (Bw hN g (e ▸ J))
 simp[this,e];calc .inr ⟨k,c,e,z.sameBut a (G y c e)⟩;let⟨L,z⟩:=I.cell y c e;calc⟨L,z.sameBut a (G y c e)⟩;let⟨e,n,M,Y,d⟩:=I.pin p hp;calc⟨(a.2 p.1 M).trans e,n,M,Y,d⟩;let C:X.fn x=true:=by
  obtain z|z:=hf;calc z;rw[z]at hk;cases hk
 let⟨c,t⟩:=I.ok.has x (.inl hk);let⟨L,z⟩:=I.cell x c t;calc wpAny_storeName_cell I.ok.kind hk t z (λh' L a=>?_);let⟨oc,hoc,hocd⟩:=id z;calc h {s with heap:=h'} ⟨I.ok,I.os,I.bare,⟨λb o e n E l=>?_,λb o e n E l=>?_,I.base.free,λb o e l=>?_,I.base.Ze,I.base.YA,I.base.Zf⟩,⟨m,hn.sameBut a (Ne.symm (G x c t)),λj y N g w e3=>?_⟩,λy h e=>?_,I.free,I.Xi,λp hp=>?_,f ⟨oc,hoc,I.Xi x c t⟩ a,by simpa using I.len⟩ ⟨c,a,.inr t⟩;calc(a.2 b (WG (XG (U5 e) (I.ok.cab x c C t)))).trans (I.base.keep b o e n E l);let⟨Q,g⟩:=I.base.slot b o e n E l;calc⟨Q,(a.2 b (WG (XG (U5 e) (I.ok.cab x c C t)))).trans g⟩;let⟨U,g⟩:=I.base.there b o e l;calc⟨U,(a.2 b (WG (XG (U5 e) (I.ok.cab x c C t)))).trans g⟩;by_cases B:j=i;subst B;rw[J]at g;cases g;rw[zCP A]at w;cases w;calc⟨u,r,.inr ⟨.inl hk,c,t,L⟩⟩;rw[zAq (Ne.symm B)]at w;let⟨O,T,q⟩:=hl j y N g w e3;calc⟨O,T,?_⟩;obtain q|⟨k,h,e,b⟩:=q;calc .inl q;calc .inr ⟨k,h,e,b.sameBut a ?_⟩;rintro rfl;calc B (Bw hN g (I.ok.inj _ _ _ e t ▸ J));by_cases b:h=c;subst b;calc⟨_,L⟩;let⟨f,c⟩:=I.cell y h e;calc⟨f,c.sameBut a b⟩;let⟨e,n,M,Y,d⟩:=I.pin p hp;calc⟨(a.2 p.1 ?_).trans e,n,M,Y,d⟩;grind
def gf{i:Nat}{x:Str}{Q:Unit->Shared->Prop}(I:Inv X pins σ H s)(e:X.N.Nodup)(c:X.N[i]?=some x)(b:Loc X.env.scope x)(r:RelV v u)
  (h:∀a,Inv X pins (σ.set i (some v)) H a->Q () a) (d:X.fn x=true∨X.env.scope.names.lookup x=some .local:=by first|calc .inl rfl|calc .inr rfl|assumption):wpAny M A (storeName X.env x u) Q E s :=
 qY I e c b r (λa b _=>h a b) d
def Inv.call'{a:Shared}(I:Inv X pins σ H s)(f:a.os=s.os)(u:Un (YJ X.stack) ch H H' s.heap a.heap)(h:WR X.prog X.w H' a.heap)(g:AllBare a.gens)
  (d:∀b∈ch,(b∈X.ex∨X.Uv.heap.objs.size<=b)/\b≠X.env.locals/\(∀x c,X.env.cells.lookup x=some c->c≠b)/\∀p∈X.pn++pins,p.1≠b):Inv X pins σ H' a:=by
 let⟨h',g',d',t',b⟩:=a;let e:b=s.os:=f;subst e;calc I.call (g':=g') (t':=t') (d':=d') u h g d
end
abbrev XK:=Value->Option Addr->Hp->Prop
abbrev St:=List (Option V)
abbrev VK:=V->Hp->Prop
abbrev TE:=St->Hp->VK->Prop
abbrev TT:=St->Hp->(Bool->Hp->Prop)->Prop
abbrev TA:=St->Hp->(yaq->Hp->Prop)->Prop
structure Ends where
 nx:St->Hp->Prop
 rt:VK
 bk:St->Hp->Prop:=λ_ _=>False
 ct:St->Hp->Prop:=λ_ _=>False
abbrev TS:=Ends->St->Hp->Prop
def EP(X:Cx)(a:yab)(c:St)(Q:VK)(u:Value)(d:Shared):Prop:=∃v b,Inv X a c b d/\RelV v u/\Q v b
def AP(X:Cx)(a:yab)(d:St)(Q:yaq->Hp->Prop)(e:yad)(f:Shared):Prop:=∃b c,Inv X a d c f/\Vals b e/\Q b c
def SP(X:Cx)(a:yab)(D:Ends)(f:Flow)(d:Shared):Prop :=
 match f with
 |.next=>∃c b,Inv X a c b d/\D.nx c b
 |.brk=>∃c b,Inv X a c b d/\D.bk c b
 |.cont=>∃c b,Inv X a c b d/\D.ct c b
 |.ret u=>∃v c b,Inv X a c b d/\RelV v u/\D.rt v b
def PE(X:Cx)(e:Expr)(t:TE):Prop :=
 ∀ (a:yab) (s:Shared) (b:St) (H:Hp) (Q:VK),Inv X a b H s->t b H Q->wpAny (model X.prog X.w) X.A (eval e X.env) (EP X a b Q) X.xe s
def PA(X:Cx)(es:yai)(t:TA):Prop :=
 ∀ (c:Pos) (a:yab) (s:Shared) (b:St) (H:Hp) (Q:yaq->Hp->Prop),Inv X a b H s->t b H Q->wpAny (model X.prog X.w) X.A (spliced (backTo c (starEach es X.env))) (AP X a b Q) X.xe s
def PS(X:Cx)(st:Stmt)(t:TS):Prop :=
 ∀ (a:yab) (s:Shared) (b:St) (H:Hp) (D:Ends),Inv X a b H s->t D b H->wpAny (model X.prog X.w) X.A (exec st X.env) (SP X a D) X.xe s
def PSs(X:Cx)(st:List Stmt)(t:TS):Prop :=
 ∀ (a:yab) (s:Shared) (b:St) (H:Hp) (D:Ends),Inv X a b H s->t D b H->wpAny (model X.prog X.w) X.A (execs st X.env) (SP X a D) X.xe s
def T9{b:Type}{t:Sem b}{Q c:b->Shared->Prop}{M:Model}{A:Around}{E:yaa}{s:Shared}(h:wpAny M A t Q E s)(d:∀a s,Q a s->c a s):wpAny M A t c E s:=Yz h d λ_ _ x=>x
section
variable{X:Cx}
def Rg(i:Nat):TE:=λa H Q=>∃v,a[i]?=some (some v)/\Q v H
def tC(v:V):TE:=λ_ H Q=>Q v H
def kL {i:Nat} {x:Str} (d:X.N[i]?=some x) (hv:Vis X.env.scope x) (f:(x==("__debug__" : Str))=false:=by decide) (j:(x==("__classdict__" : Str))=false:=by decide):PE X (.Name x pos) (Rg i):=by
 intro a s b H Q I h;let⟨v,e,h⟩:=h;let⟨m,g,c⟩:=I.loc;let⟨u,r,l⟩:=c i x v d e hv;let d:EP X a b Q u s:=⟨v,H,I,r,h⟩;rcases l with⟨b,e⟩| ⟨b,c,c,a⟩;calc wpAny_Name (wpAny_loadName_local I.ok.kind b g e d) f;obtain b|b:=b;calc wpAny_Name (wpAny_loadName_cell I.ok.kind b c a d) f;calc wpAny_Name (wpAny_loadName_free I.ok.kind b c a d j) f
def QS{i j pos}:PE X (.Constant (.int i) j pos) (tC (.int i)):=λ_ _ _ H _ I h=>wpAny_Constant_int ⟨.int i,H,I.tok _,⟨_,rfl⟩,h⟩
def Sq{b j pos}:PE X (.Constant (.bool b) j pos) (tC (.bl b)):=λ_ _ _ H _ I h=>Constant_bool ⟨.bl b,H,I,rfl,h⟩
def QT{j pos}:PE X (.Constant .none j pos) (tC .UE):=λ_ _ _ H _ I h=>Constant_none ⟨.UE,H,I,rfl,h⟩
def QU{x j pos}:PE X (.Constant (.str x) j pos) (tC (.str x)):=λ_ _ _ H _ I h=>Calls.Constant_str ⟨.str x,H,I.tok _,⟨_,rfl⟩,h⟩
def Gl(X:Cx)(x:Str):Prop:=X.env.kindOf x=some .globalImplicit
def rL{u:Value}{Q:yaa}(I:Inv X pins σ H s)(b:Gl X x)(a:X.mg x=some u)(h:Q u s)
  (c:(x==("__debug__" : Str))=false:=by decide):wpAny (model X.prog X.w) X.A (eval (.Name x pos) X.env) Q E s :=
 Calls.Name_function_global I.ok.kind b (Calls.loadGlobal_global (by rw[I.ok.glob];calc I.mod.glob.keeps I.bk) a h) c
def dm{u:Value}{Q:yaa}(I:Inv X pins σ H s)(b:Gl X x)(a:X.mg x=none)(hv:bootBuiltins x=some u)(h:Q u s)
  (f:x ≠ "__name__" := by decide) (c:(x==("__debug__" : Str))=false:=by decide):wpAny (model X.prog X.w) X.A (eval (.Name x pos) X.env) Q E s:=by
 let⟨e,d,g⟩:=I.mod.blt;calc Calls.Name_function_global I.ok.kind b (Calls.loadGlobal_builtin (by rw[I.ok.glob];calc I.mod.glob.keeps I.bk) a (by rw[I.ok.blt];calc d.keeps I.bk) 58 h) c
def Nx {u:Value} (b:Gl X x) (a:X.mg x=some u) (r:RelV v u) (c:(x==("__debug__" : Str))=false:=by decide):PE X (.Name x pos) (tC v) :=
 λ_ _ _ H _ I h=>rL I b a ⟨v,H,I,r,h⟩ c
def Nv {u:Value} (c:Gl X x) (b:X.mg x=none) (hv:bootBuiltins x=some u) (r:RelV v u) (a:x ≠ "__name__" := by decide) (d:(x==("__debug__" : Str))=false:=by decide):PE X (.Name x pos) (tC v) :=
 λ_ _ _ H _ I h=>dm I c b hv ⟨v,H,I,r,h⟩ a d
variable{a b:Expr}{ta tb:TE}{pos:Pos}
def Bv(b:Expr){c:CmpOp}(h:c ≠ .In)(f:c ≠ .NotIn):behindInMarks c b=false:=by
 let e:(c==CmpOp.In)=false:=33
 let d:(c==CmpOp.NotIn)=false:=33
 cases b<;>simp[behindInMarks,e,d]
variable{tA tB':TT}{rest:yai}
end
def SqL(K:yac)(H:Hp)(a:Addr)(xs:yaq):Prop :=
 Rd H a (.lst xs) ∨
  ∃ (o:Obj) (b:yan) (n:Nat),K.lookup a=some o/\o.cls=.type "list" /\ o.dict=none/\o.data=.seq b n/\b.size<=sizeLine/\Vals xs b.toList
def VD(K:yac)(H:Hp)(a:Addr)(xs:yaq):Prop :=
 Rd H a (.tup xs) ∨
  ∃ (o:Obj) (b:yan) (n:Nat),K.lookup a=some o/\o.cls=.type "tuple" /\ o.data=.seq b n/\b.size<=sizeLine/\Vals xs b.toList
noncomputable def SX:Value->Option V
 |.none=>some .UE
 |.bool b=>some (.bl b)
 |.int i _=>some (.int i)
 |.str x _=>some (.str x)
 |.bytes b _=>some (.byt b)
 |.float b _=>some (.flt b)
 |.ref a=>some (.ref a)
 |.type n=>some (.ty n)
 |_=>none
def RelV.abs(r:RelV x u):SX u=some x:=by
 cases x with
 |UE=>cases r;rfl
 |bl _=>cases r;rfl
 |int _=>let⟨t,rfl⟩:=r;rfl
 |str _=>let⟨t,rfl⟩:=r;rfl
 |byt _=>let⟨t,rfl⟩:=r;rfl
 |flt _=>let⟨t,rfl⟩:=r;rfl
 |ref _=>cases r;rfl
 |ty _=>cases r;rfl
theorem RelV.inj(r:RelV x u)(q:RelV y u):x=y:=ZI (r.abs.symm.trans q.abs)
theorem Vals.inj:∀{xs ys:yaq} {a:yad},Vals xs a->Vals ys a->xs=ys
 |_,_,_,.nil,.nil=>rfl
 |_,_,_,.cons r t,.cons b a=>by rw[r.inj b,Vals.inj t a]
section
variable{X:Cx}{pins:yab}{σ:St}{H:Hp}{s:Shared}{a:Addr}{xs ys:yaq}
def SqL.of{K:yac}(h:H a=some (.lst xs)):SqL K H a xs:=.inl (.inl h)
def VD.of{K:yac}(h:H a=some (.tup xs)):VD K H a xs:=.inl (.inl h)
def Inv.list(I:Inv X pins σ H s)(h:SqL X.K H a xs):∃b:yad,Vals xs b/\PlainL s.heap a b.toArray/\#[xs]<=sizeLine:=by
 obtain h|⟨o,b,n,d,g,f,c,i,r⟩:=h;let⟨z,b,n,r,e⟩:=h.ok I.Uk;calc⟨b,r,⟨_,n,e,rfl,rfl,rfl⟩,z⟩;calc⟨b.toList,r,⟨o,n,I.Zq a o d,g,f,by simpa using c⟩,?_⟩;let e:=#[r];simp only[YO]at e
 lia
def Inv.tuple(I:Inv X pins σ H s)(h:VD X.K H a xs):∃b:yad,Vals xs b/\IsTup s.heap a b.toArray/\#[xs]<=sizeLine:=by
 obtain h|⟨o,b,n,c,d,g,f,r⟩:=h;let⟨z,b,r,p⟩:=h.ok I.Uk;calc⟨b,r,p,z⟩;calc⟨b.toList,r,⟨o,I.Zq a o c,d,n,47⟩,?_⟩;let e:=#[r];grind
def Inv.ZS(I:Inv X pins σ H s)(h:SqL X.K H a xs)(h':SqL X.K H a ys):xs=ys:=by
 let⟨f,r,⟨o,n,e,_,_,d⟩,_⟩:=I.list h;let⟨b,c,⟨g,i,j,_,_,k⟩,_⟩:=I.list h';have:f=b:=33
 subst this;calc r.inj c
def Inv.Zr(I:Inv X pins σ H s)(h:VD X.K H a xs)(h':VD X.K H a ys):xs=ys:=by
 let⟨f,r,⟨o,e,_,n,d⟩,_⟩:=I.tuple h;let⟨b,c,⟨g,j,_,i,k⟩,_⟩:=I.tuple h';have:f=b:=33
 subst this;calc r.inj c
end
noncomputable abbrev Cx.wish(X:Cx)(E:yaa):Cx:={X with xe:=E}
abbrev Cx.nox(X:Cx):Cx:=X.wish λ_ _=>False
theorem Cx.Ok.wish{X:Cx}(a:X.Ok)(E:yaa):(X.wish E).Ok :=
 ⟨a.mod,a.kind,a.glob,a.blt,a.above,a.inj,a.has,a.cab,a.hd,a.frames,a.stk,a.exf,a.bs,a.bsz,a.noex,a.exfs,a.YC,a.frf⟩
def Cx.Ok.WS{X:Cx}(a:(X.wish E).Ok):X.Ok :=
 ⟨a.mod,a.kind,a.glob,a.blt,a.above,a.inj,a.has,a.cab,a.hd,a.frames,a.stk,a.exf,a.bs,a.bsz,a.noex,a.exfs,a.YC,a.frf⟩
section
variable{X:Cx}{pins:yab}{σ:St}{H:Hp}{s:Shared}{E:yaa}
theorem Inv.wish(I:Inv X pins σ H s)(E:yaa):Inv (X.wish E) pins σ H s:=⟨I.ok.wish E,I.os,I.bare,I.base,I.loc,I.cell,I.free,I.Xi,I.pin,I.Uk,I.len⟩
theorem Inv.WS(I:Inv (X.wish E) pins σ H s):Inv X pins σ H s:=⟨I.ok.WS,I.os,I.bare,I.base,I.loc,I.cell,I.free,I.Xi,I.pin,I.Uk,I.len⟩
end
section
variable{X:Cx}{st:Stmt}{rest:List Stmt}{t u:TS}{e:Expr}{te:TE}{pos:Pos}
def Inv.quiet(I:Inv X pins σ H s):interactive X.env=false:=by simp[interactive,I.ok.kind]
def SE(te:TE):TS:=λD a H=>te a H λ_ b=>D.nx a b
def xD(c:PE X e te)(hs:swapsWith e none pos.line X.env=pure false:=by rfl):PS X (.Expr e pos) (SE te):=by intro a s b H D I h;calc wpAny_Expr_any (T9 (c a s b H _ I h) λv g c=>(by let⟨x,f,d,i,a⟩:=c;calc⟨b,f,d,a⟩)) I.quiet hs
end
abbrev TIp:=V->V->Hp->VK->Prop
def PIp(X:Cx)(c:Operator)(t:TIp):Prop :=
 ∀ (a:yab) (s:Shared) (b:St) (H:Hp) (x y:V) (v u:Value) (Q:VK),Inv X a b H s->RelV x v->RelV y u->t x y H Q →
  wpAny (model X.prog X.w) X.A (inplaceOp c v u) (EP X a b Q) X.xe s
section
variable{X:Cx}{pos:Pos}
def Tz(i j:Nat)(b:TA):TS:=λD a H=>b a H λb c=>∃v w,b=[v,w]/\D.nx ((a.set i (some v)).set j (some w)) c
def QY{i j:Nat}{x y:Str}{a b:Expr}{e:TA}{d c pt:Pos}{kt k2 pt2}(z:X.calm=true)(m:X.N.Nodup)(u:X.N[i]?=some x)(t:X.N[j]?=some y)(Wg:i≠j)
  (l:X.env.scope.names.lookup x=some .local) (k:X.env.scope.names.lookup y=some .local) (f:PA X [a,b] e)
  (r:swappedStores [.Tuple [.Name x d,.Name y c] kt pt] (.Tuple [a,b] k2 pt2) X.env=pure (some [x,y]))
  (hs:swapsWithSole [.Tuple [.Name x d,.Name y c] kt pt] (.Tuple [a,b] k2 pt2) pos.line X.env=pure false:=by rfl) :
  PS X (.Assign [.Tuple [.Name x d,.Name y c] kt pt] (.Tuple [a,b] k2 pt2) pos) (Tz i j e):=by
 intro a s e H D I h;calc TJ (wpAny_standAt ?_);calc TJ (T5 ?_);calc TJ (Tuple_ (T9 (f _ a s e H _ I h) λj f c=>?_));let⟨A,i,s,o,h⟩:=c;let⟨v,w,c,h⟩:=h;subst c;obtain⟨d,c,rfl,n,g⟩:∃d c,j=[d,c]/\RelV v d/\RelV w c:=by
  cases o with
  |cons p q =>
   cases q with
   |cons E j =>
    cases j
    lia
 calc zBb ?_ (by show 2<=sizeLine;decide);let j:Inv X a e i {f with heap:=f.heap.push {cls:=.type "tuple", data:=.seq [d,c].toArray} }:=s.kept (t':=f.toks) λb o e=>VX _ e
 rw[r];calc TJ (T5 ?_);calc TJ (wpAny_rule (TJ (unpackItems_tuple (items:=#[d,c]) (I.ok.hd z) (IsTup.new f.heap _) λh' a=>?_)));let c:=j.kept (h':=h') (t':=f.toks) λb o e=>a b o (WG (U5 e)) e
 calc TJ (assignInOrder_cons (wpAny_bindName (gf c m t (.inl k) g (λC a=>?_) (.inr k))));calc assignInOrder_cons (wpAny_bindName (gf a m u (.inl l) n (λB a=>assignInOrder_nil (T5 ?_)) (.inr l)));rw[List.set_comm _ _ 33]at a;calc⟨_,i,a,h⟩
def Tw(i:Nat)(te:TE)(b:TIp):TS:=λD a H=>∃x,a[i]?=some (some x)/\te a H λy c=>b x y c λz b=>D.nx (a.set i (some z)) b
def QX{i:Nat}{x:Str}{e:Expr}{te:TE}{c:Operator}{b:TIp}{a:Pos}(q:X.N.Nodup)(g:X.N[i]?=some x)(d:Loc X.env.scope x)(p:PE X e te)(j:PIp X c b)(o:X.fn x=true∨X.env.scope.names.lookup x=some .local:=by first|calc .inl rfl|calc .inr rfl|assumption) :
  PS X (.AugAssign (.Name x a) c e pos) (Tw i te b):=by
 intro a s f H D I h;let⟨v,t,h⟩:=h;let⟨m,m,n⟩:=I.loc;let b:Vis X.env.scope x:=by obtain k|k:=d;calc .inl k;exact .inr (.inl k)
 let⟨u,r,l⟩:=n i x v g t b;calc wpAny_AugAssign_Name ?_;let i:wpAny (model X.prog X.w) X.A (eval e X.env) (λw e=>wpAny (model X.prog X.w) X.A (inplaceOp c u w) (λr b=>wpAny (model X.prog X.w) X.A (storeName X.env x r) (λ_=>SP X a D .next) X.xe b) X.xe e) X.xe s:=by
  refine T9 (p a s f H _ I h) λw c b=>?_
  let⟨y,p,n,e,h⟩:=b;refine T9 (j a c f p v y u w _ n r e h) λz C b=>?_
  let⟨A,f,e,a,c⟩:=b;exact gf e q g d a (λB a=>⟨_,f,a,c⟩) o
 rcases l with⟨a,e⟩| ⟨a,c,c,b⟩;calc wpAny_loadName_local I.ok.kind a m e i;obtain a|a:=a;calc wpAny_loadName_cell I.ok.kind a c b i;obtain k|k:=d;have:X.env.scope.names.lookup x=some .free:=a
 lia
 have:X.env.scope.names.lookup x=some .free:=a
 lia
def ipI(f:Int->Int->Int):TIp:=λx y H Q=>∃i j,x=.int i/\y=.int j/\Q (.int (f i j)) H
def Qk:PIp X .Add (ipI λi j=>i+j):=by intro a s f H x y v u Q I c b h;let⟨i,j,e,d,q⟩:=h;subst e;subst d;let⟨t,rfl⟩:=c;let⟨g,rfl⟩:=b;calc iadd_int ⟨.int _,H,I.tok _,⟨_,rfl⟩,q⟩
end
structure It where
 go:Nat->Hp->Prop
 yld:Nat->Hp->V->Hp->Prop
 stop:Nat->Hp->Prop
def cJ(X:Cx)(a:yab)(H:Hp)(b:Addr):Prop :=
 H b=none/\b≠X.env.locals/\b∉X.fs/\(b∈X.ex∨X.Uv.heap.objs.size<=b)/\(∀x c,X.env.cells.lookup x=some c->c≠b)/\∀p∈X.pn++a,p.1≠b
def Inv.ZU{H':Hp}{b:Addr}(I:Inv X pins σ H s)(a:s.heap.objs.size<=b)(c:H' b=none):cJ X pins H' b:=by calc⟨c,zBn (XG I.lt a),I.nofs a,.inr (Xb I.sz a),λx c e z=>?_,λp a z=>?_⟩;let⟨v,q⟩:=I.cell x c e;calc absurd (XG q.lt 47) (zBs _);calc absurd (XG (U5 (I.pin p a).1) 47) (zBs _)
structure Turn(P:Program)(w:World)(K:yac)(tg:Expr)(J:It)(fp:yae)(it:Addr)(tn:Nat->Heap->Prop):Prop where
 mem:it∈fp
 obj:∀i h,tn i h->∀b∈fp,∃o,h.get? b=some o/\∀v,o.data ≠ .cell v
 keep:∀i h h',tn i h->(∀b∈fp,∀o,h.get? b=some o->h'.get? b=some o)->tn i h'
 item:∀(X:Cx),X.prog=P->X.w=w->X.K=K->X.calm=true->∀(i:Nat) (pins:yab) (s:Shared) (σ:St) (H:Hp) (E:yaa),Inv X pins σ H s->(∀b∈fp,cJ X pins H b)->tn i s.heap->J.go i H →
  wpAny (model P w) X.A (pyNext (.ref it)) (λr s1=>∃u,r=some u ∧
   wpAny (model P w) X.A (letOwnedTupleGo tg (.ref it) u) (λ_ s2=>∃x H',Inv X pins σ H' s2/\RelV x u/\J.yld i H x H'/\tn (i+1) s2.heap/\∀b∈fp,H' b=none) E s1) E s
 done:∀(X:Cx),X.prog=P->X.w=w->X.K=K->X.calm=true->∀(i:Nat) (pins:yab) (s:Shared) (σ:St) (H:Hp) (E:yaa),Inv X pins σ H s->(∀b∈fp,cJ X pins H b)->tn i s.heap->J.stop i H →
  wpAny (model P w) X.A (pyNext (.ref it)) (λr s1=>r=none/\Inv X pins σ H s1) E s
 self:∀(A:Around) (i:Nat) (s:Shared) (Q:yaa) (E:yaa),tn i s.heap->Q (.ref it) s->wpAny (model P w) A (pyIter (.ref it)) Q E s
abbrev TI:=St->Hp->(It->Hp->Prop)->Prop
def PIE(X:Cx)(a:yab)(g:St)(h:Expr)(R:It->Hp->Prop)(b:Value)(d:Shared):Prop :=
 ∃ (e:Addr) (f:yae) (tn:Nat->Heap->Prop) (J:It) (c:Hp),b=.ref e/\Inv X a g c d/\Turn X.prog X.w X.K h J f e tn/\tn 0 d.heap/\(∀b∈f,cJ X a c b)/\R J c
def PI(X:Cx)(d b:Expr)(wi:TI):Prop :=
 ∀ (a:yab) (s:Shared) (c:St) (H:Hp) (R:It->Hp->Prop),Inv X a c H s->wi c H R →
  wpAny (model X.prog X.w) X.A (eval b X.env) (λv b=>wpAny (model X.prog X.w) X.A (pyIter v) (PIE X a c d R) X.xe b) X.xe s
def Fb {s : Shared} {o : Obj} {Q : Unit -> Shared -> Prop} (b : s.heap.get? it = some o) (e : o.cls = .type n) (d : o.data = .fields vs)
    (c : ["enumerate", "zip", "dict_itemiterator", "dict_reverseitemiterator", "odict_iterator", "itertools.zip_longest", "itertools.pairwise"].contains n = false) (a : Q () s) : wpAny M A (letOwnedTupleGo tg (.ref it) u) Q E s := by
  ext letOwnedTupleGo;cases tg <;> first
    | calc T5 a
    | (cases u <;> first
        | calc T5 a
        | (refine TJ (wpAny_load b ?_)
           rw [e, d];show wpAny M A (if (["enumerate", "zip", "dict_itemiterator", "dict_reverseitemiterator", "odict_iterator", "itertools.zip_longest", "itertools.pairwise"].contains n && vs[0]? == some (rawInt _)) = true then _ else _) Q E s;rw [TM (by intro h; rw [c, Bool.false_and] at h; cases h)];calc T5 a))
def Itl(K:yac)(a:Addr):It :=
 ⟨λi H=>∃b x,SqL K H a b/\b[i]?=some x,λi H x c=>c=H/\∀b,SqL K H a b->b[i]?=some x,λi H=>∃b,SqL K H a b/\#[b]<=i⟩
def Itt(K:yac)(a:Addr):It :=
 ⟨λi H=>∃b x,VD K H a b/\b[i]?=some x,λi H x c=>c=H/\∀b,VD K H a b->b[i]?=some x,λi H=>∃b,VD K H a b/\#[b]<=i⟩
def IU{P:Program}{w:World}{K:yac}{b:Expr}(a it:Addr):Turn P w K b (Itl K a) [it] it (λi h=>h.IsListIter it a i) where
 mem:=52
 obj:=λi h st b f=>by
  let e:b=it:=by simpa using f
  subst e;let⟨o,e,c,d⟩:=st;exact⟨o,e,λv z=>by rw[d]at z;cases z⟩
 keep:=λi h l st k=>st.at λo e=>k it 52 o e
 item:=by
  intro X r n t G i a s C H E I j st q;subst r n t;let⟨L,x,g,m⟩:=q;let⟨Q,k,p,N⟩:=I.list g;let⟨u,J,M⟩:=k.get m;let⟨B,A,O,z,y,w⟩:=j it 52;refine wpAny_pyNext_list_item st p.isList (x:=u) (by simpa using J) λl J sb=>?_
  let T:Inv X a C H {s with heap:=l}:=I.turned (t':=s.toks) (λb o f e=>(sb.2 b f).trans e) B A z y w;let⟨o,e,c,d⟩:=id J;exact⟨u,rfl,Fb (s:={s with heap:=l}) e c d 23 ⟨x,H,T,M,⟨rfl,λU c=>by rw[I.ZS c g];calc m⟩,J,λb f=>(j b f).1⟩⟩
 done:=by intro X r n t G i a s C H E I j st q;subst r n t;let⟨L,g,m⟩:=q;let⟨Q,k,p,N⟩:=I.list g;let⟨B,A,O,z,y,w⟩:=j it 52;let Y:=#[k];exact wpAny_pyNext_list_end (I.ok.hd G) st p.isList (by simp;lia) λl a=>⟨rfl,I.turned (t':=s.toks) (λb o f e=>a b o f e) B A z y w⟩
 self:=λ_ _ _ _ _ st h=>wpAny_pyIter_listiter st h
def F6{P:Program}{w:World}{K:yac}{b:Expr}(a it:Addr):Turn P w K b (Itt K a) [it] it (λi h=>h.IsTupleIter it a i) where
 mem:=52
 obj:=λi h st b j=>by let⟨o,e,c,d⟩:=st;grind
 keep:=λi h l st k=>st.at 58
 item:=by
  intro X t n w L i f s J H E I r st q;subst t n w;let⟨N,x,g,m⟩:=q;let⟨G,k,p,Q⟩:=I.tuple g;let⟨u,hu,O⟩:=k.get m;let⟨C,B,T,A,z,y⟩:=r it 52;refine wpAny_pyNext_tuple_item st (show s.heap.IsTuple a G.toArray from p) (x:=u) 47 λl M sb=>?_
  let U:Inv X f J H {s with heap:=l}:=I.turned (t':=s.toks) (λb o j e=>(sb.2 b j).trans e) C B A z y;let⟨o,e,c,d⟩:=id M;exact⟨u,rfl,Fb (s:={s with heap:=l}) e c d 23 ⟨x,H,U,O,⟨rfl,λY c=>by rw[I.Zr c g];calc m⟩,M,47⟩⟩
 done:=by intro X t n w L i f s J H E I r st q;subst t n w;let⟨N,g,m⟩:=q;let⟨G,k,p,Q⟩:=I.tuple g;let⟨C,B,T,A,z,y⟩:=r it 52;let hl:=#[k];exact wpAny_pyNext_tuple_end (I.ok.hd L) st (show s.heap.IsTuple a G.toArray from p) 47 λl a=>⟨rfl,I.turned (t':=s.toks) (λb o j e=>a b o j e) C B A z y⟩
 self:=λ_ _ _ _ _ st h=>wpAny_pyIter_tupleiter st h
section
variable{X:Cx}{tg:Expr}
def R6(K:yac)(tl:TE):TI:=λa H R=>tl a H λx b=>∃a,x=.ref a/\(∃c,SqL K b a c)/\R (Itl K a) b
def Td(K:yac)(tl:TE):TI:=λa H R=>tl a H λx b=>∃a,x=.ref a/\(∃c,VD K b a c)/\R (Itt K a) b
def Ny{l:Expr}{tl:TE}(c:PE X l tl):PI X tg l (R6 X.K tl):=by
 intro a s b H R I h;refine T9 (c a s b H _ I h) λv c a=>?_
 let⟨x,h,d,b,f⟩:=a;let⟨a,e,⟨i,g⟩,q⟩:=f;subst e;cases b;let⟨TV,j,p,k⟩:=d.list g;calc zCg p.isList ?_;calc⟨c.heap.objs.size,[c.heap.objs.size],_,_,h,rfl,d.kept (t':=c.toks) λb o e=>VX _ e,IU a _,⟨_,Xg _ rfl,rfl,rfl⟩,λb m=>?_,q⟩;let e:b=c.heap.objs.size:=47
 calc d.ZU 33 (d.Uk.fresh 33)
def QV{l:Expr}{tl:TE}(c:PE X l tl):PI X tg l (Td X.K tl):=by
 intro a s b H R I h;refine T9 (c a s b H _ I h) λv c a=>?_
 let⟨x,h,d,b,f⟩:=a;let⟨a,e,⟨i,g⟩,q⟩:=f;subst e;cases b;let⟨b,j,p,k⟩:=d.tuple g;calc wpAny_pyIter_tuple (show c.heap.IsTuple a b.toArray from p) ?_;calc⟨c.heap.objs.size,[c.heap.objs.size],_,_,h,rfl,d.kept (t':=c.toks) λb o e=>VX _ e,F6 a _,⟨_,Xg _ rfl,rfl,rfl⟩,λb m=>?_,q⟩;let e:b=c.heap.objs.size:=47
 calc d.ZU 33 (d.Uk.fresh 33)
def vS(fp:yae)(h:Heap):yab:=fp.filterMap λb=>(h.get? b).map λo=>(b,o)
def eU{fp:yae}{h:Heap}{b:Addr}{o:Obj}(a:b∈fp)(e:h.get? b=some o):(b,o)∈vS fp h:=zCR.mpr ⟨b,a,by rw[e];rfl⟩
def HK{p:Addr×Obj}(a:p∈vS fp h):p.1∈fp/\h.get? p.1=some p.2:=by
 let⟨b,c,e⟩:=zCR.mp a;cases q:h.get? b with
 |none=>grind
 |some o =>
  grind
def Inv.pinned{fp:yae}(I:Inv X pins σ H s)(d:∀b∈fp,cJ X pins H b)(c:∀b∈fp,∃o,s.heap.get? b=some o/\∀v,o.data ≠ .cell v):Inv X (pins++vS fp s.heap) σ H s :=
 I.pins_of λp a=>(VS.mp a).elim (λz=>I.pin p (XF _ z)) λz=>by let⟨a,e⟩:=HK z;let⟨h,g,f,_⟩:=d p.1 a;let⟨o,b,d⟩:=c p.1 a;rw[e]at b;cases b;calc⟨e,h,g,f,d⟩
def Inv.Wl{a b:yab}(I:Inv X (a++b) σ H s):Inv X a σ H s:=I.pins_of λp a=>I.pin p (XF _ (Zo _ a))
end
abbrev R2:=V->V->Hp->VK->Prop
def Zh(X:Cx)(f:Value->Value->Sem Value)(r:R2):Prop :=
 ∀ (a:yab) (s:Shared) (b:St) (H:Hp) (x y:V) (v u:Value) (Q:VK),Inv X a b H s->RelV x v->RelV y u->r x y H Q →
  wpAny (model X.prog X.w) X.A (f v u) (EP X a b Q) X.xe s
def UnR(X:Cx)(f:Value->Sem Value)(r:V->Hp->VK->Prop):Prop :=
 ∀ (a:yab) (s:Shared) (b:St) (H:Hp) (x:V) (v:Value) (Q:VK),Inv X a b H s->RelV x v->r x H Q →
  wpAny (model X.prog X.w) X.A (f v) (EP X a b Q) X.xe s
def uN(X:Cx)(f:Value)(r:yaq->Hp->VK->Prop):Prop :=
 ∀ (a:yab) (s:Shared) (b:St) (H:Hp) (c:yaq) (d:yad) (Q:VK),Inv X a b H s->Vals c d->r c H Q →
  wpAny (model X.prog X.w) X.A (call f d) (EP X a b Q) X.xe s
def rI(C:Int->Int->Prop)(g:Int->Int->V):R2:=λx y H Q=>∃i j,x=.int i/\y=.int j/\C i j/\Q (g i j) H
def rI0(g:Int->Int->V):R2:=λx y H Q=>∃i j,x=.int i/\y=.int j/\Q (g i j) H
def rU(g:Int->V):V->Hp->VK->Prop:=λx H Q=>∃i,x=.int i/\Q (g i) H
section
variable{X:Cx}{a b c:Expr}{ta tb tc:TE}{pos:Pos}
def opI{f:Value->Value->Sem Value}{C:Int->Int->Prop}{g:Int->Int->Int}
  (rule:∀(i j:Int) (t u:Tok) (s:Shared) (Q:yaa) (E:yaa),C i j->Q (.int (g i j) s.toks) {s with toks:=s.toks+1}->wpAny (model X.prog X.w) X.A (f (.int i t) (.int j u)) Q E s) :
  Zh X f (rI C λi j=>.int (g i j)):=by
 intro d s l H x y v u Q I e f h;let⟨i,j,rfl,rfl,k,q⟩:=h;let⟨t,rfl⟩:=e;let⟨e,rfl⟩:=f;calc rule i j t e s _ _ k ⟨.int (g i j),H,I.tok _,⟨_,rfl⟩,q⟩
def QI{f:Value->Value->Sem Value}{g:Int->Int->Int}
  (rule:∀(i j:Int) (t u:Tok) (s:Shared) (Q:yaa) (E:yaa),Q (.int (g i j) s.toks) {s with toks:=s.toks+1}->wpAny (model X.prog X.w) X.A (f (.int i t) (.int j u)) Q E s) :
  Zh X f (rI0 λi j=>.int (g i j)):=by
 intro d s k H x y v u Q I e f h;let⟨i,j,rfl,rfl,q⟩:=h;let⟨t,rfl⟩:=e;let⟨e,rfl⟩:=f;calc rule i j t e s _ _ ⟨.int (g i j),H,I.tok _,⟨_,rfl⟩,q⟩
def Fy{f:Value->Value->Sem Value}{g:Int->Int->Bool}
  (rule:∀(i j:Int) (t u:Tok) (s:Shared) (Q:yaa) (E:yaa),Q (.bool (g i j)) s->wpAny (model X.prog X.w) X.A (f (.int i t) (.int j u)) Q E s) :
  Zh X f (rI0 λi j=>.bl (g i j)):=by
 intro d s k H x y v u Q I e f h;let⟨i,j,rfl,rfl,q⟩:=h;let⟨t,rfl⟩:=e;let⟨e,rfl⟩:=f;calc rule i j t e s _ _ ⟨.bl (g i j),H,I,rfl,q⟩
def tE(i j:Int):Prop:=0<=j/\j<=1000000/\i.natAbs<2 ^ 64
def QJ:Zh X (binaryOp .Add) (rI0 λi j=>.int (i+j)):=QI λ_ _ _ _ _ _ _ q=>add_int q
def QM:Zh X (binaryOp .Sub) (rI0 λi j=>.int (i - j)):=QI λ_ _ _ _ _ _ _ q=>sub_int q
def Np:Zh X (binaryOp .Mod) (rI (λ_ j=>j≠0) λi j=>.int (i.fmod j)):=opI λ_ _ _ _ _ _ _ d q=>mod_int' d q
def QL:Zh X (binaryOp .Pow) (rI tE λi j=>.int (i ^ j.toNat)):=opI λ_ _ _ _ _ _ _ d q=>pow_int_small d.1 d.2.1 d.2.2 q
def unI{f:Value->Sem Value}{g:Int->Int}
  (rule:∀(i:Int) (t:Tok) (s:Shared) (Q:yaa) (E:yaa),Q (.int (g i) s.toks) {s with toks:=s.toks+1}->wpAny (model X.prog X.w) X.A (f (.int i t)) Q E s) :
  UnR X f (rU λi=>.int (g i)):=by
 intro d s j H x v Q I e h;let⟨i,rfl,q⟩:=h;let⟨t,rfl⟩:=e;calc rule i t s _ _ ⟨.int (g i),H,I.tok _,⟨_,rfl⟩,q⟩
def Rj:UnR X (unaryOp .USub) (rU λi=>.int (-i)):=unI λ_ _ _ _ _ q=>neg_int q
end
def xQ:V->V->Bool
 |.UE,.UE=>true|.UE,.int _=>true|.int _,.UE=>true|.UE,.bl _=>true|.bl _,.UE=>true|.UE,.str _=>true|.str _,.UE=>true
 |.int _,.int _=>true|.bl _,.bl _=>true|.str _,.str _=>true|.byt _,.byt _=>true
 |.int _,.str _=>true|.str _,.int _=>true|.bl _,.str _=>true|.str _,.bl _=>true
 |_,_=>false
def rEq:R2:=λx y H Q=>xQ x y=true/\Q (.bl (decide (x=y))) H
def rNe:R2:=λx y H Q=>xQ x y=true/\Q (.bl (!decide (x=y))) H
def DL:decide (V.int i=V.int j)=(i==j):=33
def G5:decide (V.bl i=V.bl j)=(i==j):=33
def DN:decide (V.str i=V.str j)=(i==j):=33
def DK:decide (V.byt i=V.byt j)=(i.toList==j.toList):=by
 rw[Bool.eq_iff_iff]
 cbv
section
variable{X:Cx}{a b c:Expr}{ta tb tc:TE}{pos:Pos}
def bu{Q:VK}{d:Bool}(I:Inv X pins σ H s)(q:Q (.bl k) H)(e:k=d):EP X pins σ Q (.bool d) s:=by subst e;calc⟨.bl k,H,I,rfl,q⟩
def Si:Zh X (compareOp .Eq) rEq:=by
 intro k s l H x y v u Q I g d h;let⟨f,q⟩:=h;cases x with
 |UE =>
  cases g;cases y with
  |UE=>cases d;calc PySem.EqNone.eq_none_none (bu I q 52)
  |bl j=>cases d;calc PySem.EqNone.eq_none_bool (bu I q 52)
  |int j=>let⟨e,rfl⟩:=d;calc PySem.EqNone.eq_none_int (bu I q 52)
  |str j=>let⟨e,rfl⟩:=d;calc PySem.EqNone.eq_none_str (bu I q 52)
  |_=>calc absurd (show false=true from f) 33
 |bl i =>
  cases g;cases y with
  |UE=>cases d;calc PySem.EqNone.eq_bool_none (bu I q 52)
  |bl j=>cases d;calc eq_bool (bu I q G5)
  |str j=>let⟨e,rfl⟩:=d;calc PySem.EqMixed.eq_bool_str (bu I q 52)
  |_=>calc absurd (show false=true from f) 33
 |int i =>
  let⟨t,rfl⟩:=g;cases y with
  |UE=>cases d;calc PySem.EqNone.eq_int_none (bu I q 52)
  |int j=>let⟨e,rfl⟩:=d;calc eq_int (bu I q DL)
  |str j=>let⟨e,rfl⟩:=d;calc PySem.EqMixed.eq_int_str (bu I q 52)
  |_=>calc absurd (show false=true from f) 33
 |str i =>
  let⟨t,rfl⟩:=g;cases y with
  |UE=>cases d;calc PySem.EqNone.eq_str_none (bu I q 52)
  |bl j=>cases d;calc PySem.EqMixed.eq_str_bool (bu I q 52)
  |int j=>let⟨e,rfl⟩:=d;calc PySem.EqMixed.eq_str_int (bu I q 52)
  |str j=>let⟨e,rfl⟩:=d;calc eq_str (bu I q DN)
  |_=>calc absurd (show false=true from f) 33
 |byt i =>
  let⟨t,rfl⟩:=g;cases y with
  |byt j=>let⟨e,rfl⟩:=d;calc PySem.W.eq_bytes (bu I q DK)
  |_=>calc absurd (show false=true from f) 33
 |_=>cases y<;>calc absurd (show false=true from f) 33
def So:Zh X (compareOp .NotEq) rNe:=by
 intro k s l H x y v u Q I g d h;let⟨f,q⟩:=h;cases x with
 |UE =>
  cases g;cases y with
  |UE=>cases d;calc PySem.EqNone.ne_none_none (bu I q 52)
  |bl j=>cases d;calc PySem.EqNone.ne_none_bool (bu I q 52)
  |int j=>let⟨e,rfl⟩:=d;calc PySem.EqNone.ne_none_int (bu I q 52)
  |str j=>let⟨e,rfl⟩:=d;calc PySem.EqNone.ne_none_str (bu I q 52)
  |_=>calc absurd (show false=true from f) zB1
 |bl i =>
  cases g;cases y with
  |UE=>cases d;calc PySem.EqNone.ne_bool_none (bu I q 52)
  |bl j=>cases d;calc ne_bool (bu I q (congrArg not G5))
  |str j=>let⟨e,rfl⟩:=d;calc PySem.EqMixed.ne_bool_str (bu I q 52)
  |_=>calc absurd (show false=true from f) zB1
 |int i =>
  let⟨t,rfl⟩:=g;cases y with
  |UE=>cases d;calc PySem.EqNone.ne_int_none (bu I q 52)
  |int j=>let⟨e,rfl⟩:=d;calc ne_int (bu I q (congrArg not DL))
  |str j=>let⟨e,rfl⟩:=d;calc PySem.EqMixed.ne_int_str (bu I q 52)
  |_=>calc absurd (show false=true from f) zB1
 |str i =>
  let⟨t,rfl⟩:=g;cases y with
  |UE=>cases d;calc PySem.EqNone.ne_str_none (bu I q 52)
  |bl j=>cases d;calc PySem.EqMixed.ne_str_bool (bu I q 52)
  |int j=>let⟨e,rfl⟩:=d;calc PySem.EqMixed.ne_str_int (bu I q 52)
  |str j=>let⟨e,rfl⟩:=d;calc ne_str (bu I q (congrArg not DN))
  |_=>calc absurd (show false=true from f) zB1
 |byt i =>
  let⟨t,rfl⟩:=g;cases y with
  |byt j=>let⟨e,rfl⟩:=d;calc PySem.W.ne_bytes (bu I q (congrArg not DK))
  |_=>calc absurd (show false=true from f) zB1
 |_=>cases y<;>calc absurd (show false=true from f) zB1
def Sn:Zh X (compareOp .Lt) (rI0 λi j=>.bl (decide (i<j))):=Fy λ_ _ _ _ _ _ _ q=>lt_int q
def Sm:Zh X (compareOp .LtE) (rI0 λi j=>.bl (decide (i<=j))):=Fy λ_ _ _ _ _ _ _ q=>le_int q
def Sk:Zh X (compareOp .Gt) (rI0 λi j=>.bl (decide (j<i))):=Fy λ_ _ _ _ _ _ _ q=>gt_int q
def Sj:Zh X (compareOp .GtE) (rI0 λi j=>.bl (decide (j<=i))):=Fy λ_ _ _ _ _ _ _ q=>ge_int q
def QK:Zh X (compareOp .Is) (λx y H Q=>y=.UE/\Q (.bl (decide (x=.UE))) H):=by
 intro d s g H x y v u Q I f e h;let⟨rfl,q⟩:=h;cases e;calc is_none_gen (bu I q ?_);cases x<;>first
  |(rfl)
  |(let⟨t,rfl⟩:=f;rfl)
def Nr:Zh X (compareOp .IsNot) (λx y H Q=>y=.UE/\Q (.bl (!decide (x=.UE))) H):=by
 intro d s g H x y v u Q I f e h;let⟨rfl,q⟩:=h;cases e;calc isnot_none_gen (bu I q ?_);cases x<;>first
  |(rfl)
  |(let⟨t,rfl⟩:=f;rfl)
def Bn:(sizeLine:Nat)<2 ^ 63:=23
def vals1{x:V}(r:Vals [x] us):∃u,us=[u]/\RelV x u:=by
 cases r with
 |cons e d=>cases d;cbv
def vals2{x y:V}(r:Vals [x,y] us):∃u d,us=[u,d]/\RelV x u/\RelV y d:=by
 cases r with
 |cons f d =>
  cases d with
  |cons e d=>cases d;calc⟨_,_,rfl,f,e⟩
def Jv:uN X (.builtin "abs") (λxs H Q=>∃i,xs=[.int i]/\Q (.int (if i<0 then -i else i)) H):=by intro d s e H xs f Q I r h;let⟨i,rfl,q⟩:=h;let⟨u,rfl,t,rfl⟩:=vals1 r;calc call_abs_int λu g=>⟨.int (if i<0 then -i else i),H,I.tok _,⟨_,rfl⟩,q⟩
def GJ (d:X.calm=true):uN X (.builtin "max") (λxs H Q=>∃i j,xs=[.int i,.int j]/\Q (.int (if j > i then j else i)) H):=by
 intro e s f H xs l Q I r h;let⟨i,j,rfl,q⟩:=h;let⟨u,g,rfl,⟨t,rfl⟩,⟨n,rfl⟩⟩:=vals2 r;refine max_two_ints (I.ok.hd d) λo m k=>⟨_,H,I.kept k,?_,q⟩
 by_cases d:j > i;rw[TU d,TU d];calc⟨_,rfl⟩;rw[TM d,TM d];calc⟨_,rfl⟩
def GI:uN X (.type "int") (λxs H Q=>(∃i,xs=[.int i]/\Q (.int i) H)∨∃ k,xs=[.bl k]/\Q (.int (if k then 1 else 0)) H):=by
 intro d s f H xs g Q I r h;rcases h with⟨i,rfl,q⟩| ⟨k,rfl,q⟩;let⟨u,rfl,t,rfl⟩:=vals1 r;calc call_int_int ⟨.int i,H,I,⟨_,rfl⟩,q⟩;let⟨u,rfl,e⟩:=vals1 r;cases e;calc call_int_bool ⟨.int (if k then 1 else 0),H,I.tok _,⟨_,rfl⟩,q⟩
end
structure Jk(h:Heap)(x dx C:Addr)(mA:yal):Prop where
 obj:h.get? x=some (PySem.W.instObj C dx)
 ns:h.Ns1 dx mA
 ne:dx≠x
set_option tactic.hygienic true in
def HD{h:Heap}(n:h.Ns1 dx mA):∃a,h.get? dx=some a/\∀name,PySem.W.lookIn name a=some (mA name):=by
 let⟨o,f,i,a,d,c,_,b⟩:=n;calc⟨o,a,λname=>?_⟩;let e:=b name;unfold nsFind findBy at e;rw[<- Array.find?_toList]at e;ext PySem.W.lookIn;rw[d];dsimp only;split;grind;let a:f.toList.any (·.refKey)=false:=by rw[List.any_eq_false];intro y g;let⟨z,t,a⟩:=c y 58;simp[DictEntry.refKey,a]
 grind
def Jk.look(I:Jk h x dx C mA):∃a,PySem.W.InstAt h x (PySem.W.instObj C dx) C (some a)/\∀name,PySem.W.lookIn name a=some (mA name) :=
 let ⟨a,ho,hl⟩:=HD I.ns
 ⟨a,⟨I.obj,rfl,rfl,ho⟩,hl⟩
def lQ.some_of{v:V}(r:lQ (some v) o):∃u,o=some u/\RelV v u:=by
 cases o with
 |none=>calc(show False from r).elim
 |some u=>calc⟨u,rfl,r⟩
structure UR(K:yac)(C:Addr):Prop where
 pg:PySem.W.plainGet K C Str.empty=true
 hd:PySem.W.hasDictIn K C=true
 po:PySem.W.plainOver K C=true
 sa:PySem.W.findIn K (.ref C) "__setattr__" = some (some (.builtin "object.__setattr__"))
structure Con(K:yac)(C:Addr)(f:Str)(v:V)(u:Value):Prop where
 at_:PySem.W.findIn K (.ref C) f=some (some u)
 rel:RelV v u
 get:PySem.W.specialIn K u "__get__" = some none
 cp:PySem.W.copiedNames.contains f=false
structure Meth(K:yac)(C:Addr)(m:Str)(f:Addr):Prop where
 at_:PySem.W.findIn K (.ref C) m=some (some (.ref f))
 fn:PySem.W.isFn K (.ref f)=true
 kp:PySem.W.keepIn K (.ref f)=true
def Ot(X:Cx)(c:Operator)(rd:V->V->Hp->VK->Prop):Prop :=
 ∀ (a:yab) (s:Shared) (b:St) (H:Hp) (x y:V) (u v:Value) (Q:VK),Inv X a b H s->RelV x u->RelV y v->rd x y H Q->wpAny (model X.prog X.w) X.A (inplaceOp c u v) (EP X a b Q) X.xe s
section
variable{X:Cx}{o e value:Expr}{f:Str}{pos pos' tpos:Pos}{ta tv:TE}
def Tn:V->V->Hp->VK->Prop:=λx y H Q=>∃i j,x=.int i/\y=.int j/\Q (.int (i+j)) H
def Qf:Ot X .Add Tn:=by rintro b s d H x y u v Q I a c ⟨i,j,rfl,rfl,q⟩;let⟨t,rfl⟩:=(show∃t,u=Value.int i t from a);let⟨a,rfl⟩:=(show∃a,v=Value.int j a from c);calc PyProof.Rows.iadd_int ⟨.int (i+j),H,I.tok _,⟨_,rfl⟩,q⟩
end
section
variable{X:Cx}{pins:yab}{σ:St}{H:Hp}{s:Shared}{A:Around}{E:yaa}{Q:yaa}{c:Value}{b:Bool}
inductive kB (K:yac) (H:Hp):V->Value->Prop where
 |UE:kB K H .UE (.type "NoneType")
 |bl (x:Bool):kB K H (.bl x) (.type "bool")
 |int (i:Int):kB K H (.int i) (.type "int")
 |str (x:Str):kB K H (.str x) (.type "str")
 |flt (x:UInt64):kB K H (.flt x) (.type "float")
 |lst {a:Addr} {xs:yaq} (e:H a=some (.lst xs)):kB K H (.ref a) (.type "list")
 |frz {a:Addr} {o:Obj} {xs:yaq} (e:H a=some (.frz o (.lst xs))):kB K H (.ref a) (.type "list")
 |tup {a:Addr} {xs:yaq} (e:H a=some (.tup xs)):kB K H (.ref a) (.type "tuple")
 |dK {a:Addr} {kvs:List (Key×V)} (e:H a=some (.dK kvs)):kB K H (.ref a) (.type "dict")
 |dT {a:Addr} {kvs:List (List Key×V)} (e:H a=some (.dT kvs)):kB K H (.ref a) (.type "dict")
 |ins {a C dx:Addr} {fs:List (Str×V)} (e:H a=some (.ins C dx fs)) (cl:UR K C) (ha:PySem.W.findIn K (.ref C) "__class__" = some (some (.builtin "object.__class__")))
   (hn:PySem.W.specialIn K (.builtin "object.__class__") "__get__" = some (some (.builtin "getset_descriptor.__get__"))) (htk:PySem.W.takesIn K (.builtin "object.__class__")=some true)
   (hm:PySem.W.mroIn K C (.type "object")=some true):kB K H (.ref a) (.ref C)
end
structure bH(k:Nat)(A:Around):Prop where
 hd:A.handled=none
 dp:A.depth+3*k+5<recursionLimit
 un:A.units+16*k+200<cLine
def bH.mono{j:Nat}(r:bH k A)(h:j<=k):bH j A:=⟨r.hd,by have:=r.dp;lia,by have:=r.un;lia⟩
theorem bH.deeper{k:Nat}(r:bH (k+1) A)(env:Env):bH k (A.deeper env) :=
 ⟨r.hd,by have:=r.dp;show A.depth+1+3*k+5<_;lia,by have:=r.un;show A.units+3+16*k+200<_;lia⟩
theorem bH.in1{k:Nat}(r:bH (k+1) A):bH k A.in1 :=
 ⟨r.hd,by have:=r.dp;lia,by have:=r.un;lia⟩
theorem bH.depth(r:bH k A):A.depth<recursionLimit:=by have:=r.dp;lia
theorem bH.units(r:bH k A):A.units+64<cLine:=by have:=r.un;lia
def Rf:TA:=λ_ H Q=>Q [] H
def F5(c:TE)(b:TA):TA:=λa H Q=>c a H λx c=>b a c λa b=>Q (x::a) b
section
variable{X:Cx}{e:Expr}{es:yai}{te:TE}{t:TA}{pos:Pos}
def BF:PA X [] Rf:=λ_ _ _ _ H Q I h=>Calls.spliced_nil ⟨[],H,I,.nil,h⟩
def rO(c:PE X e te)(g:PA X es t)(hs:starEach (e::es) X.env=(false,eval e X.env)::starEach es X.env:=by rfl):PA X (e::es) (F5 te t):=by intro pos a s b H Q I h;rw[hs];calc Calls.spliced_cons (T9 (c a s b H _ I h) λu c h=>?_);let⟨x,j,i,d,f⟩:=h;calc T9 (g pos a c b j _ i f) λk l f=>(by let⟨a,h,g,b,c⟩:=f;calc⟨x::a,h,g,.cons d b,c⟩)
end
abbrev Sp:=yaq->Hp->VK->XK->Prop
abbrev CXT:=List Env->Hp->Shared->XK->yaa
structure zW(P:Program)(w:World)(K:yac)(mg:yal)(base:Heap)(A:Around)(outer:List Env)(s:Shared)(H:Hp):Prop where
 frames:A.frames=some outer
 mod:Mod K mg base
 bs:∀b o,base.get? b=some o->s.heap.get? b=some o/\H b=none
 bsz:base.objs.size<=s.heap.objs.size
 YC:s.heap.FunFrames base outer
 frf:∀b∈YJ outer,H b=none
 Uk:WR P w H s.heap
 bare:AllBare s.gens
def CE(outer:List Env)(P:Program)(w:World)(H:Hp)(s:Shared)(Q:VK)(u:Value)(a:Shared):Prop :=
 ∃ v b,a.os=s.os/\AllBare a.gens/\Un (YJ outer) [] H b s.heap a.heap/\WR P w b a.heap/\RelV v u/\Q v b
def CR(CX:CXT)(outer:List Env)(P:Program)(w:World)(H:Hp)(s:Shared)(Q:VK)(E:XK)(r:Result)(a:Shared):Prop :=
 match r with
 |.ok (.ret u)=>CE outer P w H s Q u a
 |.ok _=>False
 |.error e=>CX outer H s E e a
structure aA(P:Program)(w:World)(K:yac)(mg:yal)(base:Heap)(CX:CXT)(k:Nat)(f:Addr)(fd:FuncData)(ps:yah)(sp:Sp):Prop where
 len:∀vs H Q E,sp vs H Q E->#[vs]=#[ps]
 run:∀(A:Around) (outer:List Env) (s:Shared) (H:Hp) (args:Args) (us:yad) (vs:yaq) (Q:VK) (E:XK),bH k A->zW P w K mg base A outer s H->BindsTo s fd args (ps.zip us)->Vals vs us->sp vs H Q E →
  codeAny (model P w) A (.call (.ref f) args) (CR CX outer P w H s Q E) s
section
variable{X:Cx}{pins:yab}{σ:St}{H:Hp}{s s':Shared}
def Inv.env0(I:Inv X pins σ H s):zW X.prog X.w X.K X.mg X.base X.A X.stack s H :=
 ⟨I.ok.frames,I.ok.mod,I.bs,Xb I.ok.bsz I.sz,I.stack,I.YK,I.Uk,I.bare⟩
def Inv.after(I:Inv X pins σ H s)(h:CE X.stack X.prog X.w H s Q u s'):EP X pins σ Q u s':=by let⟨v,e,os,a,un,c,r,q⟩:=h;let⟨hh,g,d,t,b⟩:=s';obtain rfl:b=s.os:=os;calc⟨v,e,I.call (h':=hh) (g':=g) (d':=d) (t':=t) (ch:=[]) un c a (λb z=>47),r,q⟩
end
def Binds(K:yac)(c:FuncData)(ps:yah)(b:yad):Prop :=
 ∀ (s:Shared) (a:yad),K.In s.heap->#[a++b]=#[ps]->BindsTo s c ⟨a,[]⟩ (ps.zip (a++b))
def Binds.all{K:yac}{b:FuncData}{ps:yah}(h:∀a:yad,#[a]=#[ps]->bindArgs b ⟨a,[]⟩=pure (ps.zip a)):Binds K b ps []:=λs a _ b=>by rw[zBd]at b ⊢;calc .of_eq (h a b)
def Passes(CX:CXT)(X:Cx)(E:XK):Prop:=∀(a:yab) (c:St) (H:Hp) (s:Shared) (e:Value) (b:Shared),Inv X a c H s->CX X.stack H s E e b->X.xe e b
section
variable{X:Cx}{CX:CXT}{k:Nat}{f C:Addr}{fd:FuncData}{ps:yah}{sp:Sp}{dvs:yaq}{ds:yad}{E:XK}{x m:Str}{p pos apos:Pos}{e o:Expr}{es:yai}{ta:TE}{t:TA}
def Q6(F:aA X.prog X.w X.K X.mg X.base CX k f fd ps sp)(b:bH k X.A)(g:Binds X.K fd ps ds)(d:Vals dvs ds)(c:Passes CX X E)
  (I:Inv X pins σ H s) (r:Vals vs us) (h:sp (vs++dvs) H Q E):wpAny (model X.prog X.w) X.A (call (.ref f) us) (EP X pins σ Q) X.xe s:=by
 let a:Vals (vs++dvs) (us++ds):=r.append d;let d:#[us++ds]=#[ps]:=by rw[<- #[a]];exact F.len _ _ _ _ h
 calc wpAny_call (zCr (F.run X.A X.stack s H ⟨us,[]⟩ (us++ds) (vs++dvs) Q E b I.env0 (g s us I.Zq d) a h) λr b a=>?_);cases r with
 |error e=>calc c pins σ H s e b I a
 |ok b =>
  cases b with
  |ret u=>calc I.after a
  |next=>calc False.elim a
  |brk=>calc False.elim a
  |cont=>calc False.elim a
structure Mk(K:yac)(C f:Addr):Prop where
 makes:PySem.W.makesIn K C=true
 init:PySem.W.findIn K (.ref C) "__init__" = some (some (.ref f))
 fn:PySem.W.isFn K (.ref f)=true
 kp:PySem.W.keepIn K (.ref C)=true
end
section
variable{X:Cx}{CX:CXT}{k:Nat}{f C:Addr}{fd:FuncData}{ps ks:yah}{sp:Sp}{E:XK}{x m:Str}{p pos apos kpos:Pos}{e o:Expr}{es:yai}{Vx:List Keyword}{te ta:TE}{t tk:TA}{nm:Option Str}
structure Gu(K:yac)(fd:FuncData)(ps ks:yah)(g:yad->yad->yad)(gV:yaq->yaq->yaq):Prop where
 to:∀(s:Shared) (us ws:yad),K.In s.heap->#[g us ws]=#[ps]->BindsTo s fd ⟨us,ks.zip ws⟩ (ps.zip (g us ws))
 rel:∀{vs:yaq} {us:yad} {zs:yaq} {ws:yad},Vals vs us->Vals zs ws->Vals (gV vs zs) (g us ws)
variable{g:yad->yad->yad}{gV:yaq->yaq->yaq}
end
structure aw(N P:yah)(sc:Scope):Prop where
 kind:sc.kind=.function
 co:sc.isCoroutine=false
 gen:sc.isGenerator=false
 nd:N.Nodup
 pre:N.take #[P]=P
 par:∀x∈P,sc.names.lookup x=some .local∨sc.names.lookup x=some .cell
 nofree:∀y∈sc.names,y.2 ≠ .free
theorem yC{kindOf:Str->Option NameKind}{x:Str}:∀{a:List (Str×Value)} {m:yal},(∀v,(x,v)∉a)->bindL kindOf a m x=m x
 |[],_,_=>rfl
 |(n,v)::r,m,h=>by
  ext bindL;rw[yC 58];split
  all_goals grind
theorem yA{kindOf:Str->Option NameKind}{x:Str}:∀{a:List (Str×Value)} {m:yal},(∀v,(x,v)∉a)->bindC kindOf a m x=m x
 |[],_,_=>rfl
 |(n,v)::r,m,h=>by
  ext bindC;rw[yA 58];split
  all_goals grind
theorem yB{kindOf:Str->Option NameKind}{x:Str}{v:Value}:∀{P:yah} {vs:yad} {i:Nat} {m:yal},P.Nodup->P[i]?=some x->vs[i]?=some v->kindOf x=some .local →
  bindL kindOf (P.zip vs) m x=some v
 |[],_,_,_,_,h,_,_=>by simp at h
 |_::_,[],_,_,_,_,h,_=>by simp at h
 |p::P,w::vs,0,m,d,c,b,a=>by simp at c b;subst c;subst b;show bindL kindOf ((p,w)::P.zip vs) m p=_;ext bindL;rw[yC λv hv=>(zBK.mp d).1 (zDL hv).1,TU a];simp
 |p::P,w::vs,i+1,m,d,c,b,a=>by ext bindL;calc yB (i:=i) 58 47 47 a
theorem yx{kindOf:Str->Option NameKind}{x:Str}{v:Value}:∀{P:yah} {vs:yad} {i:Nat} {m:yal},P.Nodup->P[i]?=some x->vs[i]?=some v->kindOf x≠some .local →
  bindC kindOf (P.zip vs) m x=some v
 |[],_,_,_,_,h,_,_=>by simp at h
 |_::_,[],_,_,_,_,h,_=>by simp at h
 |p::P,w::vs,0,m,d,c,b,a=>by simp at c b;subst c;subst b;show bindC kindOf ((p,w)::P.zip vs) m p=_;ext bindC;rw[yA λv hv=>(zBK.mp d).1 (zDL hv).1,TM a];simp
 |p::P,w::vs,i+1,m,d,c,b,a=>by ext bindC;calc yx (i:=i) 58 47 47 a
noncomputable def start(N:yah)(vs:yaq):St:=vs.map some++List.replicate (#[N] - #[vs]) none
noncomputable def de(CX:CXT)(P:Program)(w:World)(K:yac)(mg:yal)(base:Heap)(N:yah)(b:Str)(a:Scope)(f:Addr)(c:Value)(A:Around)(outer:List Env)(s:Shared)(H:Hp)(E:XK):Cx where
 prog:=P
 w:=w
 K:=K
 mg:=mg
 base:=base
 A:=A.deeper (envOfC b a s.heap.objs.size f c)
 N:=N
 Uv:=s
 Vl:=H
 env:=envOfC b a s.heap.objs.size f c
 outer:=outer
 stack:=envOfC b a s.heap.objs.size f c::outer
 ex:=[]
 calm:=true
 fn:=λ_=>true
 pn:=[]
 xe:=λe d=>wpAny (model P w) (A.deeper (envOfC b a s.heap.objs.size f c)) (leaving (envOfC b a s.heap.objs.size f c) e) (λ_ a=>CX outer H s E e a) (λb a=>CX outer H s E b a) d
def Aw{a:Scope}(h:a.names.lookup x=some .cell):∃c,(cellsFrom n a.names []).lookup x=some c:=by let q:=PySem.W.cellsFrom_some a.names n [] (.inl h);calc Option.isSome_iff_exists.mp q
def Hn{CX:CXT}{P:Program}{w:World}{K:yac}{mg:yal}{base:Heap}{N ps:yah}{c:Str}{a:Scope}{f:Addr}{g:Value}{A:Around}{outer:List Env}{s e:Shared}{H:Hp}{E:XK}{b:yad}{vs:yaq}
  (S:aw N ps a) (i:A.handled=none) (d:zW P w K mg base A outer s H) (o:#[vs]=#[ps]) (r:Vals vs b)
  (x:InCallC s s.heap.objs.size (bindL (envOfC c a s.heap.objs.size f g).kindOf (ps.zip b) λ_=>none) (cellsFrom (s.heap.objs.size+1) a.names []) (bindC (envOfC c a s.heap.objs.size f g).kindOf (ps.zip b) λ_=>none) e) :
  Inv (de CX P w K mg base N c a f g A outer s H E) [] (start N vs) H e:=by
 let WC:#[ps]<=#[N]:=by have:=congrArg List.length S.pre;grind
 let⟨k,m,rfl,l⟩:=x.done;let e:∀b:Addr,b∉(de CX P w K mg base N c a f g A outer s H E).ex:=λb z=>absurd (show b∈([]:yae)from z) 52
 refine⟨⟨d.mod,S.kind,rfl,rfl,VY _,λy z c k j=>?_,λy f=>?_,λy c _ h=>?_,λ_=>i,Around.frames_deeper d.frames,.inr ⟨rfl,rfl⟩,λb z=>absurd z (e b),d.bs,d.bsz,λb _ _=>e b,47,d.YC,d.frf⟩,
  rfl,d.bare,Un.kept l,⟨_,x.toInCall.ns,λi y v k j t=>?_⟩,λy c h=>⟨_,x.cell y c h⟩,d.Uk.fresh (VY _),λy c h=>?_,λp g=>absurd (show p∈([]:yab)from g) 52,d.Uk.kept l,?_⟩
 calc name_of_addr x.apart (PySem.mem_of_lookup k) (PySem.mem_of_lookup j);obtain f|f:=f;calc Aw f;calc absurd rfl (S.nofree _ (PySem.mem_of_lookup f));exact zBf (x.above y c (PySem.mem_of_lookup h))
 ·let b:i<#[vs]:=by
   unfold start at j;by_cases b:i<#[vs]
   all_goals simp_all [zAr,zCM]
  let b:vs[i]?=some v:=by
   unfold start at j
   simp_all [zAo,WA]
  let⟨u,f,e⟩:=r.get b;let g:ps[i]?=some y:=by rw[<- S.pre,List.getElem?_take_of_lt 33];exact k
  let b:ps.Nodup:=by rw[<- S.pre];exact S.nd.sublist (zCz _ _)
  calc⟨u,e,?_⟩;rcases S.par y (Xf g)with k|k;calc .inl ⟨k,yB b g f k⟩;let⟨c,e⟩:=Aw (n:=s.heap.objs.size+1) k;calc .inr ⟨.inl k,c,e,?_⟩;let q:=x.cell y c e;rw[yx b g f (by show a.names.lookup y≠_;rw[k];decide)]at q;exact q
 calc d.Uk.fresh (zBf (x.above y c (PySem.mem_of_lookup h)));ext start;show _=#[N];grind
def RU{CX:CXT}{P:Program}{w:World}{K:yac}{mg:yal}{base:Heap}{k:Nat}{f:Addr}{name c:Str}{b:Arguments}{d:List Stmt}{a:Scope}{l kV h j g m q:Value}{n o:Option Addr}
  {i:Array (yam)} {N ps:yah} {sp:Sp} (lk:K.lookup f=some ⟨q,o,.func (PySem.W.fnOf name c b d a l kV h j n g m),i⟩) (x:PySem.W.codeIn K g c=true) (S:aw N ps a)
  (e:∀vs H Q E,sp vs H Q E->#[vs]=#[ps])
  (B:∀(A:Around) (outer:List Env) (s:Shared) (H:Hp) (vs:yaq) (Q:VK) (E:XK),bH k (A.deeper (envOfC c a s.heap.objs.size f g))->sp vs H Q E →
   ∃ t,PSs (de CX P w K mg base N c a f g A outer s H E) d t/\t {nx:=λ_ H'=>Q .UE H',rt:=Q} (start N vs) H) :
  aA P w K mg base CX (k+1) f (PySem.W.fnOf name c b d a l kV h j n g m) ps sp:=by
 calc⟨e,λA outer s H p l vs Q E j h u r d=>?_⟩;let m:=e _ _ _ _ d;let k:K.In s.heap:=h.mod.YB.keeps λb o e=>(h.bs b o e).1
 let i:s.heap.NoLimit:=h.mod.nolimit.keeps λb o e=>(h.bs b o e).1
 let b:∀y∈ps.zip l,a.names.lookup y.1=some .local∨(a.names.lookup y.1=some .cell/\((cellsFrom (s.heap.objs.size+1) a.names []).lookup y.1).isSome=true):=λ⟨n,v⟩ l=>by
  obtain q|q:=S.par n (zDL l).1;exact .inl q
  simp_all [PySem.W.cellsFrom_some]
 calc codeAny_call_function j.depth (k _ _ lk) rfl S.co S.gen rfl (PySem.W.codeRec_of k x) (u _ _ _ _ ?_);refine wpAny_newFunctionEnv_cells S.kind b λz k b x=>?_
 subst k;calc⟨i.keeps x.toInCall.keep,codeAny_func ?_⟩;let⟨t,i,k⟩:=B A outer s H vs Q E (j.deeper _) d;let I:Inv (de CX P w K mg base N c a f g A outer s H E) [] (start N vs) H b:=Hn S j.hd h m r x;refine Yz (i [] b (start N vs) H _ I k) (λi h b=>?_) λe h b=>b
 let d:∀{e:St} {H':Hp} {v:V} {u:Value},Inv (de CX P w K mg base N c a f g A outer s H E) [] e H' h->RelV v u->Q v H'->CE outer P w H s Q u h :=
  fun {e H' v u} J a q=>⟨v,H',J.os,J.bare,J.base,J.Uk,a,q⟩
 cases i with
 |ret u =>
  let⟨v,e,H',J,a,q⟩:=b;calc d J a q
 |next =>
  let⟨e,H',J,q⟩:=b;calc d (v:=V.UE) (u:=Value.none) J rfl q
 |brk =>
  let⟨_,_,_,q⟩:=b
  cbv
 |cont =>
  let⟨_,_,_,q⟩:=b
  cbv
end L2
namespace HT
open PySem PyProof.Rows
section
open PySem.SeqAt
open PySem.AutoSeq1 (wpAny_loadPart')
open PySem.MeetsSeq PySem.MeetsSeq2 PySem.MeetsSeq3
end
section
variable{prog:Program}{w:World}{A:Around}{E:yaa}{s:Shared}
noncomputable def Vy(n d:Nat):yap->Nat
 |none=>d
 |some v=>if v<0 then(v+(n:Int)).toNat else min v.toNat n
theorem KI(n d:Nat):Vy n d none=d:=rfl
def mV(n d k:Nat):Vy n d (some (k:Int))=min k n:=by
 show(if(k:Int)<0 then((k:Int)+(n:Int)).toNat else min (k:Int).toNat n)=min k n
 simp_all [TM,Int.toNat_natCast]
def Du(v:Int)(n d:Nat):(if v<0 then max (v+(n:Int)) 0 else min v (n:Int))=((Vy n d (some v):Nat):Int):=by
 show(if v<0 then max (v+(n:Int)) 0 else min v (n:Int))=(((if v<0 then(v+(n:Int)).toNat else min v.toNat n):Nat):Int)
 lia
theorem ES(lo a:yap)(n:Nat):Builtin.Slice.sliceAdjust lo a 1 (n:Int)=(((Vy n 0 lo:Nat):Int),((Vy n n a:Nat):Int)):=by
 let b:¬((1:Int)<0):=33
 ext Builtin.Slice.sliceAdjust;calc ZR ?_ ?_;cases lo with
 |none=>rfl
 |some v=>exact Du v n 0
 cases a with
 |none=>rfl
 |some v=>calc Du v n n
theorem FC(i j:Nat):Builtin.Slice.slicePlaces (i:Int) (j:Int) 1=j - i:=by
 ext Builtin.Slice.slicePlaces
 lia
def wy{Q:yap->Shared->Prop}(p:IsPart v o)(h:Q o s):wpAny (model prog w) A (Builtin.Slice.slicePartIndex v) Q E s:=by
 cases p with
 |none=>calc slicePart_none h
 |int i t=>calc slicePart_int h
def ux{a:Addr}{c b:Value}{lo d:yap}{n:Nat}{Q:Int×Int×Nat->Shared->Prop}(hs:s.heap.IsSliceOf a c b .none)(f:IsPart c lo)(e:IsPart b d)
  (h:Q (((Vy n 0 lo:Nat):Int),1,Vy n n d - Vy n 0 lo) s):wpAny (model prog w) A (Builtin.Slice.sliceApplied (.ref a) (pure (n:Int))) Q E s:=by
 let⟨os,a,g,d⟩:=id hs;calc TJ (TJ (Yy a d (x:=c) rfl (TJ (Yy a d (x:=b) rfl (TJ (Yy a d (x:=.none) rfl (T5 ?_)))))));calc TJ (slicePart_none ?_);calc TJ (wy f (TJ (wy e (TJ (T5 ?_)))));grind [ES,FC,wpAny_pure]
def Ks(xs:yan)(i k:Nat):((List.range k).filterMap λ(m:Nat)=>xs[((i:Int)+(m:Int)*1).toNat]?).toArray=((xs.toList.drop i).take k).toArray:=by
 let e:(λ(m:Nat)=>xs[((i:Int)+(m:Int)*1).toNat]?)=λm=>xs[i+m]?:=58
 have:=pick_run xs i k;let a:((λx=>xs[x]?)∘λx=>i+x)=λm=>xs[i+m]?:=rfl
 cbv
def sD{t d:Addr}{items:yan}{e a:Value}{lo b:yap}{Q:yaa}(c:IsTup s.heap t items)(hs:s.heap.IsSliceOf d e a .none)(j:IsPart e lo)(i:IsPart a b)
  (k:¬(Vy items.size 0 lo=0/\Vy items.size items.size b=items.size))
  (h:Q (.ref s.heap.objs.size) {s with heap:=s.heap.push {cls:=.type "tuple", data:=.seq ((items.toList.drop (Vy items.size 0 lo)).take (Vy items.size items.size b - Vy items.size 0 lo)).toArray} })
  (hsz:items.size<=sizeLine):wpAny (model prog w) A (getItem (.ref t) (.ref d)) Q E s:=by
 let a:sizeOk (.seq ((items.toList.drop (Vy items.size 0 lo)).take (Vy items.size items.size b - Vy items.size 0 lo)).toArray):=by
  show((items.toList.drop (Vy items.size 0 lo)).take (Vy items.size items.size b - Vy items.size 0 lo)).toArray.size<=sizeLine;rw[Yw,zBR,zCC,YO]
  lia
 let⟨os,e,f,VM⟩:=id hs;let g:s.TypeIs (.ref d) "slice" := ⟨os,e,f⟩;ext getItem
 try with_reducible refine YH ?_
 calc TJ (wpAny_sequenceKey c.typeIs 23 ?_);refine TJ (zBS (name:=Str.ofString "__getitem__") c.typeIs PyProof.Rows.slot_tuple_getitem
  (zBa PyProof.Rows.slot_tuple_getitem c.typeIs entry_tuple_getitem ?_ (args_tuple_getitem _ _)))
 show wpAny _ _ (Builtin.Tuple.tupleItemsOf (.ref t) >>= _) _ _ s;calc TJ (tupleItemsOf_ c ?_);calc TJ (wpAny_typeOf g ?_);calc TJ (ux hs j i ?_);let c:¬((((Vy items.size 0 lo:Nat):Int)==0 && (1:Int)==1 && (Vy items.size items.size b - Vy items.size 0 lo)==items.size)=true):=33
 show wpAny _ _ (if(((Vy items.size 0 lo:Nat):Int)==0 && (1:Int)==1 && (Vy items.size items.size b - Vy items.size 0 lo)==items.size)=true then _ else _) _ _ s;rw[TM c,Ks]
 first
  |calc TJ (m:=Builtin.Tuple.tupleExact _) (zBb (T5 ⟨_,rfl,T5 h⟩) a)
  |calc TJ (m:=Builtin.Tuple.tupleExact _) (zBb (TJ (T5 (T5 ⟨_,rfl,T5 h⟩))) a)
  |calc TJ (TJ (m:=Builtin.Tuple.tupleExact _) (zBb (T5 (T5 ⟨_,rfl,T5 h⟩)) a))
  |calc TJ (TJ (m:=Builtin.Tuple.tupleExact _) (zBb (T5 ⟨_,rfl,T5 h⟩) a))
end
end HT
namespace L2
open PySem PySem.Spec PyProof.Rows
abbrev TO:=St->Hp->(yap->Hp->Prop)->Prop
def intsAre_of{ns:yaf}:∀{a:yad},Vals (ns.map V.int) a->IntsAre a ns:=by
 induction ns with
 |nil=>intro a r;cases r;calc .nil
 |cons n ns ih =>
  intro a r;cases r with
  |cons b a =>
   let⟨t,e⟩:=b;subst e;calc .cons n t (ih a)
section
variable{X:Cx}{e:Expr}{te:TE}{lo hi:Option Expr}{tl th:TO}{pos p2:Pos}
def SlR(X:Cx)(r:V->yap->yap->Hp->VK->Prop):Prop :=
 ∀ (a:yab) (s:Shared) (b:St) (H:Hp) (x:V) (v d c:Value) (lo hi:yap) (f:Addr) (Q:VK),Inv X a b H s->RelV x v->s.heap.IsSliceOf f d c .none->IsPart d lo->IsPart c hi->r x lo hi H Q →
  ∃ T id,typeLookup (.type T) "__getitem__" = pure (some (.builtin id))/\s.TypeIs v T/\wpAny (model X.prog X.w) X.A (getItem v (.ref f)) (EP X a b Q) X.xe s
def p6(xs:yaq)(lo hi:yap):yaq:=(xs.drop (HT.Vy #[xs] 0 lo)).take (HT.Vy #[xs] #[xs] hi - HT.Vy #[xs] 0 lo)
def sR(xs:yaq)(lo hi:yap):#[p6 xs lo hi]<=#[xs]:=by
 ext p6;rw[zBR,zCC]
 lia
def Ts(K:yac):V->yap->yap->Hp->VK->Prop:=λx lo hi H Q=>∃a b,x=.ref a/\VD K H a b ∧
 ¬ (HT.Vy #[b] 0 lo=0/\HT.Vy #[b] #[b] hi=#[b])/\∀p,H p=none->Q (.ref p) (upd H p (.tup (p6 b lo hi)))
def Ra:SlR X (Ts X.K):=by
 intro d s l H x v n m lo hi p Q I b j g f h;let⟨a,c,rfl,a,i,q⟩:=h;cases b;let⟨k,r,b,h⟩:=I.tuple a;let a:k.toArray.size=#[c]:=by exact r.length.symm
 calc⟨"tuple", _,PyProof.Rows.slot_tuple_getitem.lookup,b.typeIs,?_⟩;calc HT.sD b j g f (by rw[a];calc i) ?_ 47;rw[a];calc⟨.ref s.heap.objs.size,_,I.laid (t':=s.toks) (o:=.tup (p6 c lo hi)) (λb ob q=>VX _ q) (VY _) ?_,rfl,q _ (I.Uk.fresh (VY _))⟩;calc⟨Xb (sR c lo hi) h,_,(r.drop (HT.Vy #[c] 0 lo)).take (HT.Vy #[c] #[c] hi - HT.Vy #[c] 0 lo),IsTup.new _ _⟩
end
noncomputable def ixN(n:Nat)(i:Int):Option Nat:=if 0<=i then(if i<n then some i.toNat else none)else if -(n:Int)<=i then some (i+n).toNat else none
def atI{a:Type}(xs:List a)(i:Int):Option a:=(ixN #[xs] i).bind λj=>xs[j]?
def MP{j:Nat}(h:ixN n i=some j):seqIndex? i n=some j/\j<n/\-(n:Int)<=i/\i<n:=by
 unfold ixN at h;by_cases b:0<=i;rw[TU b]at h;by_cases a:i<n;grind [Option.some.inj,seqIndex_of]
 cbv
 rw[TM b]at h;by_cases a:-(n:Int)<=i;rw[TU a]at h;grind [Option.some.inj,seqIndex_neg]
 cbv
def Dr{a:Type}{xs:List a}{i:Int}{v:a}(h:atI xs i=some v):∃j,seqIndex? i #[xs]=some j/\xs[j]?=some v/\j<#[xs]/\-(#[xs]:Int)<=i/\i<#[xs]:=by
 unfold atI at h;cases e:ixN #[xs] i with
 |none=>cbv
 |some j =>
  rw[e]at h;let⟨d,c,b,a⟩:=MP e;calc⟨j,d,h,c,b,a⟩
def bR{a:Type}{xs:List a}{j:Nat}{v:a}(h:xs[j]?=some v):atI xs (j:Int)=some v:=by
 let b:j<#[xs]:=(Zn.mp h).1;let e:ixN #[xs] (j:Int)=some j:=by
  ext ixN
  cbv
 ext atI;rw[e];calc h
def Js{a:Type}(xs:List a)(v:a):atI (xs++[v]) (-1)=some v:=by
 let b:#[xs++[v]]=#[xs]+1:=52
 let e:ixN #[xs++[v]] (-1)=some #[xs]:=by ext ixN;grind
 ext atI
 cbv
def L5(b:Expr):Prop:=∀o i,subscripted b false o i=operate [o,i] (getItem o i)
def IxR(X:Cx)(r:R2):Prop :=
 ∀ (c a:Expr) (b:yab) (s:Shared) (d:St) (H:Hp) (x y:V) (v u:Value) (Q:VK),Inv X b d H s->RelV x v->RelV y u->r x y H Q →
  subscripted a false v u=operate [v,u] (getItem v u)->wpAny (model X.prog X.w) X.A (subscriptTail c a v u) (EP X b d Q) X.xe s
def MtR(X:Cx)(id:String)(r:V->yaq->Hp->VK->Prop):Prop :=
 ∀ (a:yab) (s:Shared) (b:St) (H:Hp) (x:V) (c:yaq) (v:Value) (d:yad) (Q:VK),Inv X a b H s->RelV x v->Vals c d->r x c H Q →
  wpAny (model X.prog X.w) X.A (call (.builtin id) (v::d)) (EP X a b Q) X.xe s
section
variable{X:Cx}{a b:Expr}{ta tb:TE}{pos:Pos}
def To(K:yac):R2:=λx y H Q=>∃p c i v,x=.ref p/\y=.int i/\SqL K H p c/\atI c i=some v/\Q v H
def Tp(K:yac):R2:=λx y H Q=>∃p c i v,x=.ref p/\y=.int i/\VD K H p c/\atI c i=some v/\Q v H
def MQ:IxR X (To X.K):=by
 intro e f c s k H x y v u Q I g d h l;let⟨p,A,i,z,rfl,rfl,j,n,q⟩:=h;cases g;let⟨t,rfl⟩:=d;let⟨u,r,h,B⟩:=I.list j;let⟨j,m,d,G,t,p⟩:=Dr n;let⟨w,o,g⟩:=r.get d;let E:=#[r];let C:=Bn;let d:EP X c k Q w s:=⟨z,H,I,g,q⟩;by_cases n:0<=i;let g:i.toNat=j:=by
  rw[seqIndex_of n p]at m
  lia
 calc item_listR h.isList n 33 (by rw[g];simpa using o) d l;let g:(i+(u.toArray.size:Int)).toNat=j:=by
  rw[seqIndex_neg 33 t]at m
  cbv
 exact subscriptTail_builtinR (x:=w) h.isList.typeIs slot_list_getitem.lookup
  (wpAny_getItem_list_neg (Q:=λr i=>r=w/\EP X c k Q r i) h.isList 33 47 33 (by rw[g];simpa using o) ⟨rfl,d⟩) l
def Qn:IxR X (Tp X.K):=by
 intro d e c s k H x y v u Q I g f h l;let⟨p,n,i,z,rfl,rfl,i,m,q⟩:=h;cases g;let⟨t,rfl⟩:=f;let⟨TV,r,h,o⟩:=I.tuple i;let⟨j,J,g,G,E,C⟩:=Dr m;let⟨w,i,f⟩:=r.get g;let B:=#[r];let A:=Bn;let g:EP X c k Q w s:=⟨z,H,I,f,q⟩;exact subscriptTail_builtinR (x:=w) h.typeIs slot_tuple_getitem.lookup
  (getItem_tuple (j:=j) (Q:=λr f=>r=w/\EP X c k Q r f) h 33 33 47 (by simpa using i) ⟨rfl,g⟩) l
theorem Inv.lst(I:Inv X pins σ H s)(h:H p=some (.lst xs)) :
  ∃ (c:yad) (n:Nat),Vals xs c/\s.heap.get? p=some {cls:=.type "list", data:=.seq c.toArray n}/\#[xs]<=sizeLine:=by
 let⟨z,c,n,r,e⟩:=I.Uk p _ h;calc⟨c,n,r,e,z⟩
def B7(lo c:yap)(n:Nat):(sliceBounds lo c none n).1=((HT.Vy n 0 lo:Nat):Int)/\(sliceBounds lo c none n).2.1=((HT.Vy n n c:Nat):Int)/\(sliceBounds lo c none n).2.2=1:=by
 calc⟨?_,?_,rfl⟩;cases lo with
 |none=>simp[sliceBounds,HT.Vy]
 |some i =>
  simp only[sliceBounds,HT.Vy,Option.getD_none,show(1:Int) > 0 by decide,zCW];by_cases h:i<0;simp only[h,zCW]<;>lia;simp only[h,if_false]<;>lia
 cases c with
 |none=>simp[sliceBounds,HT.Vy]
 |some i =>
  simp only[sliceBounds,HT.Vy,Option.getD_none,show(1:Int) > 0 by decide,zCW];by_cases h:i<0;simp only[h,zCW]<;>lia;simp only[h,if_false]<;>lia
def zD(c:yad)(lo d:yap):slicePick c.toArray lo d none=((c.drop (HT.Vy #[c] 0 lo)).take (HT.Vy #[c] #[c] d - HT.Vy #[c] 0 lo)).toArray:=by let⟨g,f,e⟩:=B7 lo d c.toArray.size;ext slicePick;rw[g,f,e];simp only[sliceRange_one,pick_run,Yw]<;>rfl
def As:uN X (.builtin "len") (λxs H Q=>∃p ys,xs=[.ref p]/\(SqL X.K H p ys∨VD X.K H p ys)/\Q (.int #[ys]) H):=by
 intro g s j H xs k Q I r h;let⟨p,ys,rfl,c,q⟩:=h;let⟨u,rfl,d⟩:=vals1 r;cases d;let l:=Bn;obtain c|c:=c;let⟨i,e,f,h⟩:=I.list c;let d:=#[e];calc Calls.call_len_list f.isList (by simp only[Yw]<;>lia) ⟨.int #[ys],H,I.tok _,⟨s.toks+1,58⟩,q⟩;let⟨i,e,f,h⟩:=I.tuple c;let d:=#[e];calc len_tuple f (by simp only[Yw]<;>lia) ⟨.int #[ys],H,I.tok _,⟨s.toks+1,47⟩,q⟩
def tyV(K:yac)(T:String)(x:V)(H:Hp):Prop:=match x with
 |.str _=>T = "str"
 |.int _=>T = "int"
 |.ref p=>(T = "list" /\∃c,SqL K H p c)∨(T = "tuple" /\∃o,K.lookup p=some o/\o.cls=.type "tuple" /\ o.dict=none) ∨
   (T = "dict" /\ ((∃c,H p=some (.dK c))∨∃ c,H p=some (.dT c)))∨(T = "set" /\∃S n,H p=some (.set S n))
 |_=>False
def IV(I:Inv X pins σ H s)(r:RelV x v)(f:tyV X.K T x H) :
  s.TypeIs v T/\∀a,v=.ref a->∃c,s.heap.get? a=some c/\c.dict=none:=by
 cases x with
 |str z =>
  let⟨t,rfl⟩:=r;cases(show T = "str" from f);grind [typeIs_str]
 |int i =>
  let⟨t,rfl⟩:=r;cases(show T = "int" from f);grind [typeIs_int]
 |ref p =>
  cases r;rcases f with⟨rfl,j,c⟩| ⟨rfl,o,d,i,h⟩| ⟨rfl,d⟩| ⟨rfl,S,n,d⟩;let⟨TV,_,g,_⟩:=I.list c;calc⟨g.isList.typeIs,λa e=>?_⟩;let⟨o,n,e,c,h,_⟩:=g
  cbv
  calc⟨⟨o,I.Zq p o d,i⟩,λa e=>?_⟩;cases e;calc⟨o,I.Zq _ o d,h⟩;let z:∃o,s.heap.get? p=some o/\o.ExactDict:=by
   rcases d with⟨c,d⟩| ⟨c,d⟩;let⟨_,_,_,_,o,_,_,e,c,_⟩:=I.Uk p _ d
   cbv
   let⟨_,_,_,_,o,_,_,e,c,_⟩:=I.Uk p _ d
   cbv
  let⟨o,e,c⟩:=z;calc⟨⟨o,e,c.1⟩,λa g=>?_⟩;cases g;calc⟨o,e,c.2.1⟩;let⟨o,_,_,_,e,c,_⟩:=I.Uk p _ d;calc⟨⟨o,e,c.1⟩,λa g=>?_⟩;cases g;calc⟨o,e,c.2.1⟩
 |_=>calc False.elim f
def Tx(K:yac)(T:String)(r:V->yaq->Hp->VK->Prop)(d:TE):TE:=λc H Q=>d c H λx c=>tyV K T x c/\r x [] c Q
def tBM(K:yac)(T:String)(r:V->yaq->Hp->VK->Prop)(d:TE)(t:TA):TE:=λc H Q=>d c H λx d=>tyV K T x d/\t c d λc d=>r x c d Q
variable{o e:Expr}{es:yai}{to:TE}{t:TA}{name:Str}{apos UL:Pos}{T id:String}{r:V->yaq->Hp->VK->Prop}
def QR (m:PlainAttrs T) (d:Slot T name id) (f:typeOf (.builtin id)=pure (.type "method_descriptor")) (n:MtR X id r) (i:PE X o to)
  (k:attributeBase o name X.env (eval o X.env)=eval o X.env:=by rfl) (j:(apos.endLine==UL.line)=true:=by rfl):PE X (.Call (.Attribute o name apos) [] [] UL) (Tx X.K T r to):=by
 intro c s g H Q I h;calc wpAny_Call_method0_late k j (T9 (i c s g H _ I h) λv k p=>?_);let⟨x,s,i,h,j,l⟩:=p;let⟨q,p⟩:=IV i h j;calc⟨T,id,m,d,f,q,p,Calls.callWith_builtin rfl (PySem.evalArgs_none (n c k g s x [] v [] Q i h .nil l))⟩
def LC (m:PlainAttrs T) (d:Slot T name id) (i:typeOf (.builtin id)=pure (.type "method_descriptor")) (n:MtR X id r) (j:PE X o to) (p:PA X (e::es) t)
  (l:attributeBase o name X.env (eval o X.env)=eval o X.env:=by rfl)
  (f:((backTo UL (starEach (e::es) X.env)).all (λx=>!x.1) && (backToKw UL (keywordEach [] X.env)).all (λx=>x.1.isSome)
   && decide (#[e::es]+#[([]:List Keyword)]+(if([]:List Keyword).isEmpty then 0 else 1)<30))=true:=by rfl)
  (k:(apos.endLine==UL.line)=true:=by rfl) (hs:starEach (e::es) X.env=(false,eval e X.env)::starEach es X.env:=by rfl) (Yl:(backTo UL (starEach es X.env)).any (·.1)=false:=by rfl) :
  PE X (.Call (.Attribute o name apos) (e::es) [] UL) (tBM X.K T r to t):=by
 intro c s g H Q I h;calc wpAny_Call_method_late l f k rfl (T9 (j c s g H _ I h) λv k q=>?_);let⟨x,u,h,f,j,l⟩:=q;let⟨s,q⟩:=IV h f j;calc⟨T,id,m,d,i,s,q,?_⟩;let d:=p UL c k g u _ h l;rw[hs]at d ⊢;calc Calls.callWith_builtin 47 (Calls.evalArgs_plain ?_);calc T9 d λh i l=>(by let⟨d,p,m,j,k⟩:=l;calc n c i g p x d v h Q m f j k)
end
def MtM(X:Cx)(id:String)(r:V->yaq->Hp->VK->Prop):Prop :=
 ∀ (a:yab) (s:Shared) (b:St) (H:Hp) (x:V) (c:yaq) (v:Value) (d:yad) (Q:VK),Inv X a b H s->RelV x v->Vals c d->r x c H Q →
  wpAny (model X.prog X.w) X.A (call (.builtin id) (v::d)) (EP X a b Q) X.xe s
def Vals.one:∀{x:V} {a:yad},Vals [x] a->∃u,a=[u]/\RelV x u
 |_,_,.cons r .nil=>⟨_,rfl,r⟩
def Vals.zero:∀{a:yad},Vals [] a->a=[]
 |_,.nil=>rfl
theorem Vals.dropLast(h:Vals xs us):Vals xs.dropLast us.dropLast:=by
 induction h with
 |nil=>calc .nil
 |cons r t ih =>
  cases t with
  |nil=>calc .nil
  |cons q a=>calc .cons r ih
section
variable{X:Cx}{pins:yab}{σ:St}{H:Hp}{s:Shared}{l b:Addr}{xs ys zs:yaq}
def Inv.lset{a its':yad}{f:yan->yan}{t':Nat}(I:Inv X pins σ H s)(d:H l=some (.lst xs))
  (e:s.heap.get? l=some {cls:=.type "list", data:=.seq a.toArray n}) (c:f a.toArray=its'.toArray) (hv:Vals ys its') (hz:#[ys]<=sizeLine) :
  Inv X pins σ (upd H l (.lst ys)) {s with heap:=s.heap.update l (Obj.mapSeq f),toks:=t'}:=by
 let q:=PySem.IsL.update e f;rw[c]at q;calc I.write (x:=l) (e:=l) (by rw[d];calc trivial) (.inl rfl) (λg u c a=>(zA7 s.heap (Obj.mapSeq f) (Ne.symm c)).trans a) ⟨_,q⟩ ?_;calc⟨hz,its',_,hv,q⟩
def Inv.lstM (I:Inv X pins σ H s) (c:H l=some (.lst xs)):#[xs]<=sizeLine/\∃(a:yad) (n:Nat),Vals xs a/\#[xs]=#[a]/\s.heap.get? l=some {cls:=.type "list", data:=.seq a.toArray n}:=by let⟨z,a,n,r,e⟩:=I.Uk l _ c;calc⟨z,a,n,r,#[r],e⟩
def Kb{n:Nat}(h:n<=sizeLine):Builtin.List.listTooLong n=false:=by
 ext Builtin.List.listTooLong
 lia
end
section
variable{X:Cx}
def NG:V->yaq->Hp->VK->Prop:=λx b H Q=>∃l a y,x=.ref l/\b=[y]/\H l=some (.lst a)/\#[a]<sizeLine/\Q .UE (upd H l (.lst (a++[y])))
def yV:MtM X "list.append" NG:=by intro a s g H x j v k Q I c d h;let⟨l,i,y,rfl,rfl,b,m,q⟩:=h;cases c;let⟨u,rfl,f⟩:=d.one;let⟨z,c,n,r,o,e⟩:=I.lstM b;calc call_meets F.slot_list_append ⟨_,e,rfl⟩ F.entry_list_append (F.args_list_append_2 _ _) (PySem.list_append l c.toArray n u 58) ⟨e,?_⟩;calc⟨.UE,_,I.lset (its':=c++[u]) b e 52 (r.append (.cons f .nil)) ?_,rfl,q⟩;grind
def NH:V->yaq->Hp->VK->Prop:=λx d H Q=>∃l b c a,x=.ref l/\d=[.ref b]/\H l=some (.lst c)/\H b=some (.lst a)/\#[c]+#[a]<=sizeLine/\Q .UE (upd H l (.lst (c++a)))
def HI:MtM X "list.extend" NH:=by
 intro g s o H x y v A Q I a c h;let⟨l,b,w,p,rfl,rfl,i,f,B,q⟩:=h;cases a;let⟨u,rfl,a⟩:=c.one;cases a;let⟨z,d,n,r,C,e⟩:=I.lstM i;let⟨t,a,j,h,k,m⟩:=I.lstM f;let f:d.toArray.size+a.toArray.size<=sizeLine:=58
 let c:¬(!d.toArray.isEmpty && Builtin.List.listTooLong (d.toArray.size+a.toArray.size))=true:=by
  rw[Kb f,Bool.and_false]
  lia
 refine call_meets F.slot_list_extend ⟨_,e,rfl⟩ F.entry_list_extend (F.args_list_extend_2 _ _)
  (AutoSeq1.list_extend_list_list_0 l d.toArray n b a.toArray j c 33 33) ⟨e,m,?_⟩
 refine⟨.UE,_,I.lset (its':=d++a) i e 52 (r.append h) ?_,rfl,q⟩
 cbv
def Tq:V->yaq->Hp->VK->Prop:=λx b H Q=>∃l a y,x=.ref l/\b=[]/\H l=some (.lst a)/\a[#[a] - 1]?=some y/\Q y (upd H l (.lst a.dropLast))
def Qx:MtM X "list.pop" Tq:=by
 intro b s g H x j v k Q I a d h;let⟨l,i,y,rfl,rfl,c,f,q⟩:=h;cases a;let a:=d.zero;subst a;let⟨z,a,n,r,o,e⟩:=I.lstM c;let⟨u,m,d⟩:=r.get f;let f:a.toArray[a.toArray.size - 1]?=some u:=47
 calc call_meets F.slot_list_pop ⟨_,e,rfl⟩ F.entry_list_pop (F.args_list_pop_1 _) (MeetsSeq.list_pop_last l a.toArray n u f 58) ⟨e,?_⟩;refine⟨y,_,I.lset (its':=a.dropLast) c e ?_ r.dropLast ?_,d,q⟩
 all_goals grind
end
section
variable{prog:Program}{w:World}{A:Around}{E:yaa}{s:Shared}
set_option maxRecDepth 100000 in
end
end L2
namespace Att
open PySem PySem.W PySem.Calls PyProof.Rows
def vC:∀(ns:yaf) (vs:yad),WellAll P h vs (ns.map WData.int)->IntsAre vs ns:=by
 intro ns
 induction ns with
 |nil =>
  intro vs w;cases w;calc .nil
 |cons n ns ih =>
  intro vs w;cases w with
  |cons a b =>
   cases a;calc .cons _ _ (ih _ b)
def IC{l:OpenLaw}{n:Nat}(p:l.most=some n)
  (b:l.row.toRowW.claim.pre args=true) (c:WellAll P h vals args) :
  ∃ a vs ns,vals=[Value.ref a]/\args=[WData.list (ns.map WData.int)]/\h.get? a=some {cls:=.type "list", data:=.seq vs.toArray}/\IntsAre vs ns/\#[ns]<=n:=by
 let e:WShape.hasAll [] args [.list .int]=true:=(pre_splitW b).1;let h:l.pre.holds [] {args:=args}=true:=(pre_splitW b).2;let⟨d,r,rfl,k,j⟩:=hasAllW_cons e;obtain rfl:=hasAllW_nil j;let⟨o,rfl,i⟩:=hasW_list k;let⟨ns,rfl⟩:=items_int i;let a:#[ns]<=n:=by
  let d:(WTm.not (.lt (.lit (.int (n:Int))) (.len (.arg 0)))).holds [] {args:=[.list (ns.map .int)]}=true:=by
   let d:=(holds_andW h).1
   cbv
  let q:=condW_of d (w_not (w_lt w_lit (w_len_list (w_arg rfl))));grind
 cases c with
 |cons f d =>
  cases d;cases f with
  |list g m=>calc⟨_,_,ns,rfl,rfl,g,vC ns _ m,a⟩
def Il(l:OpenLaw)(args:List WData):l.row.toRowW.claim.post args (.bool true) args=true :=
 postW_of (r:=l.row.toRowW) (X:=(true==true))
  (show WShape.has [] (.bool true) .bool=true by first|rfl|decide|simp[WShape.has,WShape.arms,WShape.armsAll])
  (show(WTm.eq .res (.lit (.bool true))).value [] {args:=args,res:=some (.bool true),after:=args}=some (.bool (true==true))from w_eq_bool (w_res rfl) w_lit) rfl
def sP{l:OpenLaw}{n:Nat}{g:World->Heap->Prop}{d:DefRec}
  (z:l.most=some n) (c:d.params.defaults=[])
  (call:∀(w:World) (s b:Shared) (mg m:yal) (h:Addr) (o:Obj) (k j e:Value) (a:Addr) (vs:yad) (ns:yaf),
   Ground q loose [] XP w s mg m b.heap->g w b.heap →
   b.heap.get? h=some o->o.data=.func (docDef d.name d.params d.body d.scope k j e)->b.heap.CodeRec j d.name->mg d.name=some (.ref h) →
   b.heap.get? a=some {cls:=.type "list", data:=.seq vs.toArray}->IntsAre vs ns->#[ns]<=n->b.gens=#[] →
   codeAny (model l.prog w) callerA (.call (.ref h) ⟨[.ref a],[]⟩) (λr i=>r=.ok (.ret (.bool true))/\OldK b.heap i.heap/\i.os=b.os/\AllBare i.gens) b) :
  WalkO q loose XP g l.row.toRowW d [] (λf vs=>PySem.call f vs):=by
 intro w s b mg m G Y h o k j e g kV q C E f p B x t H d u y n A;obtain rfl:g=.none:=Dflts.none f c;obtain rfl:kV=.none:=Dflts.noKw f;let⟨a,vs,ns,rfl,rfl,f,c,g⟩:=IC z d n;calc enter_call (zCr (call w s b mg m h o k j e a vs ns G Y q (fd_plain C) E p f c g B) λr i a=>?_);let⟨rfl,d,c,b⟩:=a;calc⟨.inl ⟨.bool true,.bool true,[],rfl,λ_=>rfl,.bool true,Il l _,58⟩,d,c,b⟩
section
variable{prog:Program}{w:World}{A:Around}{E:yaa}{s:Shared}{K:Frag}
end
end Att
namespace L2
open PySem PySem.Spec PyProof.Rows
theorem jo:∀{vs:yad} {ns:yaf},IntsAre vs ns->Vals (ns.map V.int) vs
 |_,_,.nil=>.nil
 |_,_,.cons n t h=>.cons ⟨t,rfl⟩ (jo h)
def cQ(s:Stmt):Arguments:=match s with
 |.FunctionDef _ a _ _ _ _ _ _ _ _=>a
 |_=>{posonlyargs:=[],args:=[],vararg:=none,kwonlyargs:=[],kw_defaults:=[],kwarg:=none,defaults:=[]}
def bZ(s:Stmt):List Stmt:=match s with
 |.FunctionDef _ _ b _ _ _ _ _ _ _=>b
 |_=>[]
def aj(s:Stmt):Scope:=match s with
 |.FunctionDef _ _ _ _ _ _ a _ _ _=>a
 |_=>{kind:=.function,names:=[],isGenerator:=false,isCoroutine:=false}
abbrev E0:XK:=λ_ _ _=>False
structure Fun(K:yac)(x qual:Str)(st:Stmt)(f:Addr)(fd:FuncData):Prop where
 ex:∃(oc:Value) (od:Option Addr) (kV doc pm:Value) (an:Option Addr) (WN ct:Value) (osl:Array (yam)),
  fd=PySem.W.fnOf x qual (cQ st) (bZ st) (aj st) .none kV doc pm an WN ct/\K.lookup f=some ⟨oc,od,.func fd,osl⟩/\PySem.W.codeIn K WN qual=true
 kp:PySem.W.keepIn K (.ref f)=true
def zQ(a:bH k A):A.units+1<cLine:=zBg 33 a.units
section
variable{X:Cx}
end
def au(H H':Hp):Prop:=∀b o,H b=some o->H' b=some o
def au.trans(a:au H H1)(b:au H1 H2):au H H2:=λc o h=>b c o (a c o h)
def au.seq{K:yac}{H H':Hp}{a:Addr}{xs:yaq}(e:au H H')(h:SqL K H a xs):SqL K H' a xs:=by
 rcases h with(h|⟨o,h⟩)|h;calc .inl (.inl (e _ _ h));calc .inl (.inr ⟨o,e _ _ h⟩);calc .inr h
end L2
set_option maxHeartbeats 4000000
namespace L2
open PySem PySem.Spec PyProof.Rows
section
variable{κ:Type} [DecidableEq κ]
def dG(kvs:List (κ×V))(k:κ):Option V:=(kvs.find? λa=>decide (a.1=k)).map (·.2)
noncomputable def putK(kvs:List (κ×V))(k:κ)(v:V):List (κ×V) :=
 if(kvs.any λa=>decide (a.1=k))=true then kvs.map (λa=>if a.1=k then(a.1,v)else a)else kvs++[(k,v)]
theorem K1:dG ([]:List (κ×V)) k=none:=rfl
def o7{p:κ×V}{r:List (κ×V)}{k:κ}(e:p.1=k):dG (p::r) k=some p.2:=by simp[dG,e]
def o6{p:κ×V}{r:List (κ×V)}{k:κ}(e:¬p.1=k):dG (p::r) k=dG r k:=by simp[dG,e]
theorem lr(k:κ):∀kvs:List (κ×V),(kvs.any λa=>decide (a.1=k))=(dG kvs k).isSome
 |[]=>rfl
 |p::r=>by
  rw[List.any_cons];by_cases e:p.1=k;simp only[o7 e,Ys e,Bool.true_or,Option.isSome_some]
  simp_all [o6,decide_eq_false,Bool.false_or,lr]
theorem sU(kvs:List (κ×V))(k:κ)(v:V):#[putK kvs k v]<=#[kvs]+1:=by ext putK;split;rw[T4];lia;rw[Xh,ZH,List.length_nil];lia
def Ky{kvs:List (κ×V)}{k:κ}(v:V)(h:dG kvs k=none):putK kvs k v=kvs++[(k,v)]:=by
 ext putK
 simp_all [lr,TM]
def lQ.isSome_eq(r:lQ o u):o.isSome=u.isSome:=by
 cases o with
 |none=>cases u with
  |none=>rfl
  |some _=>calc(show False from r).elim
 |some _=>cases u with
  |none=>calc(show False from r).elim
  |some _=>rfl
def KV.val(r:KV kvs vs)(k:κ):lQ (dG kvs k) (valueAt vs k):=by
 induction r with
 |nil=>calc True.intro
 |@cons p q g a h t ih =>
  let⟨d,f⟩:=h;by_cases e:p.1=k;let c:q.1=k:=d.symm.trans e;let b:valueAt (q::a) k=some q.2:=by simp[valueAt,c]
  rw[o7 e,b];calc f;let c:¬q.1=k:=λz=>e (d.trans z)
  let b:valueAt (q::a) k=valueAt a k:=by simp[valueAt,c]
  rw[o6 e,b];calc ih
theorem KV.any(r:KV kvs vs)(k:κ):(kvs.any λa=>decide (a.1=k))=vs.any λa=>decide (a.1=k):=by
 induction r with
 |nil=>rfl
 |cons h t ih=>cbv
def KV.repl(r:KV kvs vs)(k:κ)(b:RelV y u) :
  KV (kvs.map λa=>if a.1=k then(a.1,y)else a) (vs.map λa=>if a.1=k then(a.1,u)else a):=by
 induction r with
 |nil=>calc .nil
 |@cons p q d c h t ih =>
  refine .cons ?_ ih
  lia
def KV.put(r:KV kvs vs)(k:κ)(a:RelV y u):KV (putK kvs k y) (stored vs k u):=by ext putK stored;rw[r.any k];by_cases e:(vs.any λb=>decide (b.1=k))=true;rw[TU e,TU e];calc r.repl k a;rw[TM e,TM e];calc Paired.snoc r ⟨rfl,a⟩
theorem KV.length(r:KV kvs vs):#[kvs]=#[vs]:=Paired.length r
end
def zR(r:RelV (kV k) u):(cw P w).is k u=true:=by
 cases k with
 |inl i=>let⟨t,e⟩:=(show∃t,u=Value.int i t from r);simp_all [CI]
 |inr x=>let⟨t,e⟩:=(show∃t,u=Value.str x t from r);simp_all [CJ]
theorem yR:∀{ks:List Key} {a:yad},Vals (ks.map kV) a->ItemsAre (cw P w) ks a
 |[],_,r=>by cases r;calc .nil
 |k::ks,_,r=>by
  cases r with
  |cons h t=>calc .cons (zR h) (yR t)
abbrev KT(H:Hp):List (List Key×V)->List (List Key×Addr×Value)->Prop:=Paired λp q=>p.1=q.1/\H q.2.1=some (.tup (p.1.map kV))/\RelV p.2 q.2.2
def KT.val(r:KT H kvs xs)(k:List Key):lQ (dG kvs k) ((atKey xs k).map (·.2)):=by
 induction r with
 |nil=>calc True.intro
 |@cons p q g a h t ih =>
  let⟨d,_,f⟩:=h;by_cases e:p.1=k;let c:q.1=k:=d.symm.trans e;let b:atKey (q::a) k=some q.2:=by simp[atKey,List.find?_cons,c]
  rw[o7 e,b];calc f;let c:¬q.1=k:=λz=>e (d.trans z)
  let b:atKey (q::a) k=atKey a k:=by simp[atKey,List.find?_cons,c]
  rw[o6 e,b];calc ih
def KT.repl(r:KT H kvs xs)(k:List Key)(c:RelV y u) :
  KT H (kvs.map λa=>if a.1=k then(a.1,y)else a) (xs.map (putAt k u)):=by
 induction r with
 |nil=>calc .nil
 |@cons p q g f h t ih =>
  rw[Ya,Ya];calc .cons ?_ ih;let⟨a,b,d⟩:=h;ext putAt;by_cases e:p.1=k;rw[TU e,TU (a.symm.trans e)];calc⟨a,b,c⟩;rw[TM e,TM (λz=>e (a.trans z))];calc⟨a,b,d⟩
def KT.put(r:KT H kvs xs)(k:List Key)(c:H b=some (.tup (k.map kV)))(a:RelV y u) :
  KT H (putK kvs k y) (storedH xs k b u):=by
 let e:(kvs.any λb=>decide (b.1=k))=(atKey xs k).isSome:=by rw[lr,(r.val k).isSome_eq,Option.isSome_map]
 ext putK storedH;rw[e];by_cases q:(atKey xs k).isSome=true;rw[TU q,TU q];calc r.repl k a;rw[TM q,TM q];calc Paired.snoc r ⟨rfl,c,a⟩
def KT.keeps{H':Hp}(r:KT H kvs xs)(a:∀b ys,H b=some (.tup ys)->H' b=some (.tup ys)):KT H' kvs xs :=
 Paired.mapP r λ_ _ z=>⟨z.1,a _ _ z.2.1,z.2.2⟩
section
variable{P:Program}{w:World}{H:Hp}{h:Heap}{a:Addr}
def LJ(b:WR P w H h)(e:Rd H a u):bO P w H h a u:=e.ok b
def E8(b:WR P w H h)(e:Rd H a (.dK kvs)):#[kvs]<=sizeLine/\(a==sysModules)=false/\∃vs,KV kvs vs/\h.DictOf (cw P w) a vs :=
 show bO P w H h a (.dK kvs)from LJ b e
def Ln(b:WR P w H h)(e:H a=some (.dK kvs)):#[kvs]<=sizeLine/\(a==sysModules)=false/\∃vs,KV kvs vs/\h.DictOf (cw P w) a vs:=E8 b (.inl e)
def Be{ks:List Key}(b:WR P w H h)(e:H a=some (.tup (ks.map kV))):(tupleKind (cw P w)).is h ks a:=by let⟨_,g,r,o,f,d,n,c⟩:=(show bO P w H h a (.tup (ks.map kV))from b a _ e);calc⟨o,g.toArray,n,f,d,c,by simpa using yR r⟩
def E9(d:WR P w H h)(e:Rd H a (.dT kvs)):#[kvs]<=sizeLine/\(a==sysModules)=false ∧
  ∃ xs,KT H kvs xs/\h.DictOfH (tupleKind (cw P w)) a xs:=by
 let⟨z,y,xs,r,o,j,k,i,g,f,b,c⟩:=(show bO P w H h a (.dT kvs)from LJ d e);calc⟨z,y,xs,r,o,j,k,i,g,f,b,λx b=>?_,c⟩;let c:∀{l:List (List Key×V)} {m:List (List Key×Addr×Value)},KT H l m->∀x∈m,(tupleKind (cw P w)).is h x.1 x.2.1:=by
  intro l m q
  induction q with
  |nil=>intro x b;calc nomatch b
  |@cons p q s n f t ih =>
   intro x b;obtain e|b:=VC.mp b;subst e;calc Be d (by rw[<- f.1];calc f.2.1);exact ih x b
 calc c r x b
def RP(b:WR P w H h)(e:H a=some (.dT kvs)):#[kvs]<=sizeLine/\(a==sysModules)=false ∧
  ∃ xs,KT H kvs xs/\h.DictOfH (tupleKind (cw P w)) a xs:=E9 b (.inl e)
end
def pQ(H:Hp)(a:Addr)(y:V)(r:Option V):Prop :=
 (∃c k,Rd H a (.dK c)/\y=kV k/\r=dG c k)∨∃ c k b,Rd H a (.dT c)/\y=.ref b/\H b=some (.tup (k.map kV))/\r=dG c k
def zV(H:Hp)(a:Addr)(y v:V)(H':Hp):Prop :=
 (∃c k,H a=some (.dK c)/\y=kV k/\#[c]<sizeLine/\H'=upd H a (.dK (putK c k v))) ∨
 ∃ c k b,H a=some (.dT c)/\y=.ref b/\H b=some (.tup (k.map kV))/\#[c]<sizeLine/\H'=upd H a (.dT (putK c k v))
theorem pQ.k{H:Hp}{a:Addr}{kvs:List (Key×V)}{k:Key}(e:H a=some (.dK kvs)):pQ H a (kV k) (dG kvs k):=.inl ⟨kvs,k,.inl e,rfl,rfl⟩
theorem zV.k{H:Hp}{a:Addr}{kvs:List (Key×V)}{k:Key}{v:V}(e:H a=some (.dK kvs))(b:#[kvs]<sizeLine):zV H a (kV k) v (upd H a (.dK (putK kvs k v))):=.inl ⟨kvs,k,e,rfl,b,rfl⟩
section
variable{X:Cx}{pins:yab}{σ:St}{H:Hp}{s:Shared}{a:Addr}{y v:V}{u r:Value}{o:Option V}{A:Around}{E:yaa}
def Inv.big(I:Inv X pins σ H s):sysModules<s.heap.objs.size:=by let h:mainGlobals<s.heap.objs.size:=(I.mod.glob.keeps I.bk).lt;calc Nat.lt_trans 23 h
def yD{Q:yaa}(q:A.units+1<cLine)(I:Inv X pins σ H s)(g:pQ H a y (some v))(m:RelV y u)(h:∀f b,Inv X pins σ H b->RelV v f->Q f b) :
  wpAny (model X.prog X.w) A (getItem (.ref a) u) Q E s:=by
 rcases g with⟨b,k,e,i,l⟩| ⟨b,k,b,e,i,t,l⟩;subst i;let⟨z,p,n,d,j⟩:=E8 I.Uk e;let⟨f,g,c⟩:=lQ.some_of (v:=v) (o:=valueAt n k) (by rw[l];calc d.val k);calc wpAny_getItem_of (zR m) j.mapOf g (h f _ (I.tok _) c);subst i;cases(show u=Value.ref b from m);let⟨z,p,b,d,j⟩:=E9 I.Uk e;let⟨f,g,c⟩:=lQ.some_of (v:=v) (o:=(atKey b k).map (·.2)) (by rw[l];calc d.val k);let⟨p,d,b⟩:=zA8.mp g;calc wpAny_getItem_heap (tupleKind_room_in1 q) (Be I.Uk t) j d ?_;rw[b];calc h f _ (I.tok _) c
def xc{t':Nat}(I:Inv X pins σ H s)(b:Mut (H a))(hs:Heap.SameBut a s.heap h')(d:∃q,h'.get? a=some q)(c:bO X.prog X.w (upd H a ob) h' a ob) :
  Inv X pins σ (upd H a ob) {s with heap:=h',toks:=t'} :=
 I.write (x:=a) (e:=a) b (.inl rfl) (λb q e z=>(hs.2 b e).trans z) d c
def G6{h':Heap}{kvs:List (Key×V)}(z:#[kvs]<=sizeLine)(c:(a==sysModules)=false)(b:KV kvs vs)(dd:h'.DictOf (cw P w) a vs) :
  bO P w H' h' a (.dK kvs):=⟨z,c,vs,b,dd⟩
def GZ{Q:Unit->Shared->Prop}(G:A.units+1<cLine)(I:Inv X pins σ H s)(g:zV H a y v H')(w:RelV y u)(x:RelV v r)(h:∀b,Inv X pins σ H' b->Q () b) :
  wpAny (model X.prog X.w) A (setItem (.ref a) u r) Q E s:=by
 rcases g with⟨f,k,e,n,l,p⟩| ⟨f,k,b,e,n,C,l,p⟩;subst n p;let⟨z,m,d,c,t⟩:=Ln I.Uk e;let i:#[d]<=sizeLine:=by rw[<- #[c]];exact z
 let l:#[putK f k v]<=sizeLine:=by grind [sU]
 refine wpAny_setItem_pairs (hsz:=i) (zR w) t λB d j=>h _ ?_
 let J:∃q,B.get? a=some q:=let ⟨q,_,_,g,_⟩:=d;⟨q,g⟩;calc xc I (by rw[e];calc True.intro) j J (G6 l m (c.put k x) d);subst n p;cases(show u=Value.ref b from w);let⟨z,m,b,c,t⟩:=RP I.Uk e;let i:#[b]<=sizeLine:=by rw[<- Paired.length c];exact z
 let l:#[putK f k v]<=sizeLine:=by grind [sU]
 refine wpAny_setItem_heap (hsz:=i) (tupleKind_room_in1 G) (Be I.Uk C) t λB d j=>h _ ?_
 let⟨q,n,p,g,i,h,f,_,b⟩:=d;calc xc I (by rw[e];calc True.intro) j ⟨q,g⟩ ⟨l,m,_,(c.put k C x).keeps λc L c=>?_,q,n,p,g,i,h,f,b⟩;rw[aC 33];calc c
end
def Jj(i:Expr):Prop:=∀a b,subscripted i false a b=operate [a,b] (getItem a b)
def N6{prog:Program}{w:World}{A:Around}{E:yaa}{s:Shared}{env:Env}{b a:Expr}{pos:Pos}{T id:String}{Q:yaa}
  (e:typeLookup (.type T) "__getitem__" = pure (some (.builtin id))) (hs:Jj a)
  (h:wpAny (model prog w) A (eval b env) (λo c=>wpAny (model prog w) A (eval a env) (λi d=>d.TypeIs o T/\wpAny (model prog w) A (getItem o i) Q E d) E c) E s) :
  wpAny (model prog w) A (eval (.Subscript b a pos) env) Q E s:=by
 calc Subscript_ (Yz h (λo c c=>Yz c (λi d c=>?_) λ_ _ x=>x) λ_ _ x=>x);let⟨f,c⟩:=c;calc TJ ?_;calc TJ (zCv f e ?_);let g:wpAny (model prog w) A (subscripted a false o i) (λr a=>wpAny (model prog w) A (letTemporaryGo b o r >>= λ_=>pure r) Q E a) E d:=by rw[hs o i];exact wpAny_operating (Yz c (λr a a=>TJ (wpAny_letTemporaryGo (T5 a))) λ_ _ x=>x)
 grind [wpAny_pure,wpAny_bind]
def Cz (I:Inv X pins σ H s) (g:pQ H a y o):s.TypeIs (.ref a) "dict" := by
 rcases g with⟨a,k,e,_,_⟩| ⟨a,k,b,e,_,_,_⟩;let⟨_,_,d,_,a⟩:=E8 I.Uk e;calc a.typeIs;let⟨_,_,c,_,a⟩:=E9 I.Uk e;calc a.typeIs
def SD(c b:TE):TE:=λa H Q=>c a H λx c=>b a c λy b=>∃a v,x=.ref a/\pQ b a y (some v)/\Q v b
def Sy(c a d:TE)(rd:V->V->Hp->VK->Prop):TS:=λD b H=>c b H λx c=>a b c λy c=>∃a v,x=.ref a/\pQ c a y (some v) ∧
 d b c λc d=>rd v c d λz d=>∃c,zV d a y z c/\D.nx b c
section
variable{X:Cx}{o i e value:Expr}{pos pos' tpos:Pos}{td ty tv:TE}
def Nw(p:X.A.units+1<cLine)(q:PE X o td)(r:PE X i ty)(hs:Jj i):PE X (.Subscript o i pos) (SD td ty):=by intro b s d H Q I h;calc N6 PySem.F.slot_dict_getitem.lookup hs (T9 (q b s d H _ I h) λu j ⟨x,C,A,l,n⟩=>T9 (r b j d C _ A n) λL J w=>?_);let⟨y,B,f,k,a,v,t,g,m⟩:=w;subst t;obtain rfl:u=Value.ref a:=l;calc⟨Cz f g,yD p f g k λE G z c=>⟨v,B,z,c,m⟩⟩
def NC(q:X.A.units+1<cLine)(O:PE X o td)(Q:PE X i ty)(hv:PE X value tv)(m:Ot X op rd)
  (T:∀j f c,augStore i j f c=(do holding [c,j,f] (setItem j f c);release [c,j,f] [];pure .next)):PS X (.AugAssign (.Subscript o i tpos) op value pos) (Sy td ty tv rd):=by
 intro b s d H D I h;calc wpAny_AugAssign_SubscriptAny (T9 (O b s d H _ I h) λu C ⟨x,H1,I1,G,N⟩=>T9 (Q b C d H1 _ I1 N) λf s2 n=>?_) T;let⟨y,H2,I2,p,a,v,Y,g,M⟩:=n;subst Y;obtain rfl:u=Value.ref a:=G;refine yD q I2 g p λw B I3 l=>T9 (hv b B d H2 _ I3 M) λt A ⟨r,H3,I4,k,L⟩=>T9 (m b A d H3 v r w t _ I4 l k L) λw3 s5 n=>?_
 let⟨z,H4,I5,E,H5,U,J⟩:=n;calc GZ q I5 U p E λs6 I6=>⟨d,H5,I6,J⟩
end
def JF (h:Heap) (a:sysModules<h.objs.size):bO P w H (h.push {cls:=.type "dict", data:=.dict #[]}) h.objs.size (.dK []) :=
 ⟨Yt _,beq_eq_false_iff_ne.mpr (Ne.symm (WG a)),[],.nil,Heap.DictOf.new h⟩
abbrev VV:List (V×V)->List (Value×Value)->Prop:=Paired λp q=>RelV p.1 q.1/\RelV p.2 q.2
def vH(kvs a:List (Key×V)):List (Key×V):=a.foldl (λa b=>putK a b.1 b.2) kvs
def KV.merge:∀{a:List (Key×V)} {b:List (Key×Value)} {kvs:List (Key×V)} {vs:List (Key×Value)},KV a b->KV kvs vs->KV (vH kvs a) (merged vs b):=by
 intro a b kvs vs r
 induction r generalizing kvs vs with
 |nil=>intro q;calc q
 |@cons p q d c h t ih =>
  intro a;let e:KV (putK kvs p.1 p.2) (stored vs q.1 q.2):=by
   have:=a.put p.1 h.2
   cbv
  calc ih e
theorem uW:∀{kvs:List (Key×V)} {ws:List (Value×Value)},VV (kvs.map λa=>(kV a.1,a.2)) ws->∃d,Carries (cw P w) ws d/\KV kvs d
 |[],_,r=>by cases r;calc⟨[],True.intro,.nil⟩
 |p::kvs,_,r=>by
  cases r with
  |@cons a b g e h t =>
   let⟨d,c,q⟩:=uW (P:=P) (w:=w) t;let⟨f,a⟩:=b;calc⟨(p.1,a)::d,⟨zR h.1,rfl,c⟩,.cons ⟨rfl,h.2⟩ q⟩
structure M1(X:Cx)(o:Expr)(m:Str)(apos:Pos)(e:Expr)(UL:Pos):Prop where
 base:attributeBase o m X.env (eval o X.env)=eval o X.env
 few:((backTo UL (starEach [e] X.env)).all (λx=>!x.1) && (backToKw UL (keywordEach [] X.env)).all (λx=>x.1.isSome)
  && decide (#[([e]:yai)]+#[([]:List Keyword)]+(if([]:List Keyword).isEmpty then 0 else 1)<30))=true
 line:(apos.endLine==UL.line)=true
 trees:backTo UL (starEach [e] X.env)=[(false,eval e X.env)]
structure M2(X:Cx)(o:Expr)(m:Str)(apos:Pos)(e f:Expr)(UL:Pos):Prop where
 base:attributeBase o m X.env (eval o X.env)=eval o X.env
 few:((backTo UL (starEach [e,f] X.env)).all (λx=>!x.1) && (backToKw UL (keywordEach [] X.env)).all (λx=>x.1.isSome)
  && decide (#[([e,f]:yai)]+#[([]:List Keyword)]+(if([]:List Keyword).isEmpty then 0 else 1)<30))=true
 line:(apos.endLine==UL.line)=true
 trees:backTo UL (starEach [e,f] X.env)=[(false,eval e X.env),(false,eval f X.env)]
end L2
namespace PM
def A4(a b:Int):Int.gcd b (a.fmod b)=Int.gcd a b:=by
 let h:=Int.fmod_add_mul_fdiv a b;let c:a=a.fmod b+a.fdiv b*b:=by simp_all [YR]
 rw[Int.gcd_comm a b]
 conv=>rhs;rw[c]
 rw[Int.gcd_add_mul_right_right]
def yM(a:Int){b:Int}(d:b≠0):(a.fmod b).natAbs<b.natAbs:=by
 by_cases h:0<b;let g:=Int.fmod_lt_of_pos a h;let c:=zCw a h;omega;let e:a.fmod b=-((-a).fmod (-b)):=47
 let c:=Int.fmod_lt_of_pos (-a) (b:=-b) (by omega);let f:=zCw (-a) (b:=-b) (by omega);omega
noncomputable def g3(x y z:Int):Nat:=Int.gcd (Int.gcd x y:Int) z
def fu(x y z:Int):(g3 x y z:Int)∣x:=zCY (Int.gcd_dvd_left _ _) (Int.gcd_dvd_left _ _)
theorem gN(x y z:Int):(g3 x y z:Int)∣y:=zCY (Int.gcd_dvd_left _ _) (Int.gcd_dvd_right _ _)
theorem gO(x y z:Int):(g3 x y z:Int)∣z:=Int.gcd_dvd_right _ _
def Pt{x y z d:Int}(c:d∣x)(b:d∣y)(a:d∣z):d∣(g3 x y z:Int):=zCu (zCu c b) a
def xm:g3 x y z=0↔x=0/\y=0/\z=0:=by
 ext g3;rw[Int.gcd_eq_zero_iff];constructor;rintro⟨h,a⟩;let d:Int.gcd x y=0:=33
 let⟨c,b⟩:=Int.gcd_eq_zero_iff.mp d;calc⟨c,b,a⟩;rintro⟨c,b,a⟩;subst c b a;simp
def VB(x y z l:Int):Int:=if l<0 then -(g3 x y z:Int)else(g3 x y z:Int)
def cS{x y z:Int}(h:¬(x=0/\y=0/\z=0)):VB x y z l≠0:=by
 have:g3 x y z≠0:=λe=>h (xm.mp e)
 ext VB;split<;>omega
def xj(x y z l:Int):(VB x y z l).natAbs=g3 x y z:=by ext VB;split<;>lia
def cF{x y z t:Int}(h:(g3 x y z:Int)∣t):VB x y z l∣t:=by ext VB;split;calc Int.neg_dvd.mpr h;calc h
def bL{x y z t:Int}(h:(g3 x y z:Int)∣t):t.fdiv (VB x y z l)*VB x y z l=t:=by let a:=cF (l:=l) h;rw[Int.fdiv_eq_ediv_of_dvd a];calc Int.ediv_mul_cancel a
def BL{x y z:Int}(h:¬(x=0/\y=0/\z=0)):g3 (x.fdiv (VB x y z l)) (y.fdiv (VB x y z l)) (z.fdiv (VB x y z l))=1:=by
 let j:=bL (l:=l) (fu x y z);let o:=bL (l:=l) (gN x y z);let n:=bL (l:=l) (gO x y z);let p:=cS (l:=l) h;let f:=xj x y z l;generalize x.fdiv (VB x y z l)=a at j ⊢;generalize y.fdiv (VB x y z l)=b at o ⊢;generalize z.fdiv (VB x y z l)=c at n ⊢;generalize VB x y z l=g at *;let m:(g3 a b c:Int)*g∣(g3 x y z:Int):=by
  calc Pt ?_ ?_ ?_;rw[<- j];exact Int.mul_dvd_mul (fu a b c) 47
  all_goals grind [Int.mul_dvd_mul,gN,Int.dvd_refl,gO]
 let d:g3 a b c*g.natAbs∣g.natAbs:=by
  have:=zBw.mpr m
  simp_all [zCD]
 let k:0<g.natAbs:=33
 have:=zCL k d;let q:g3 a b c≠0:=by
  intro e
  cbv
 obtain i|i:=zCS (g3 a b c) 2
 lia
 have:2*g.natAbs<=g3 a b c*g.natAbs:=zDC _ i
 lia
def rR{x y z l:Int}(d:l≠0)(a:(g3 x y z:Int)∣l)(h:¬(x=0/\y=0/\z=0)):0<l.fdiv (VB x y z l):=by
 let e:=bL (l:=l) a;let f:g3 x y z≠0:=λe=>h (xm.mp e)
 let b:(l<0/\VB x y z l<0)∨(0<l/\0<VB x y z l):=by
  ext VB;split
  left;omega
  right;omega
 generalize l.fdiv (VB x y z l)=a at e ⊢;generalize VB x y z l=g at *;obtain a|a|a:=zB4 a 0;exfalso;rcases b with⟨c,b⟩| ⟨c,b⟩;have:=zBJ a b;omega;have:=zAn a b;omega;subst a;simp at e;omega;calc a
def sS{t g:Int}(b:g≠0)(h:g∣t):(t.fdiv g).natAbs<=t.natAbs:=by
 rw[Int.fdiv_eq_ediv_of_dvd h];let e:=Int.ediv_mul_cancel h;have:(t / g).natAbs*g.natAbs=t.natAbs:=by rw[<- zCD,e]
 let a:0<g.natAbs:=33
 rw[<- this];calc Nat.le_mul_of_pos_right _ a
def Hi(a:Int):Int.gcd a 0=a.natAbs:=52
def MF(a b:Int):Int.gcd ((a.natAbs:Nat):Int) ((b.natAbs:Nat):Int)=Int.gcd a b:=by ext Int.gcd;simp
end PM
namespace PX
open PySem PySem.W PySem.Spec PySem.Calls PyProof.Rows PySem.Builtin.ObjectAttr PySem.Builtin.Getset_descriptor
def ExcAt(e c:Addr)(h:Heap):Prop:=∃o a,h.get? e=some o/\o.cls=.ref c/\o.data=.fields a
def ExcAt.ty(p:ExcAt e c h):Looks M h (typeOf (.ref e)) (.ref c):=by let⟨o,d,b,a,_⟩:=p;calc a ▸ (Looks.ld b).andThen .now
noncomputable def xl(K:Frag)(c:Addr):Bool :=
 (clsIn K c).isSome && findIn K (.ref c) "__getattribute__" == some (some (.builtin "BaseException.__getattribute__"))
 && findIn K (.ref c) "__getattr__" == some none && findIn K (.ref c) "__class__" == some (some (.builtin "object.__class__"))
 && specialIn K (.builtin "object.__class__") "__get__" == some (some (.builtin "getset_descriptor.__get__"))
 && takesIn K (.builtin "object.__class__")==some true
 && mroIn K c (.type "object")==some true && mroIn K c (.type "BaseException")==some true
 && kitOne K (.ref c) (.type "int")==some false && kitOne K (.ref c) (.type "bool")==some false && kitOne K (.ref c) (.type "tuple")==some false
 && kitOne K (.ref c) (.type "list")==some false && kitOne K (.ref c) (.type "str")==some false
structure EO(K:Frag)(c:Addr):Prop where
 pg:plainGet K c "__class__" = true
 hd:hasDictIn K c=true
 at_:findIn K (.ref c) "__class__" = some (some (.builtin "object.__class__"))
 get:specialIn K (.builtin "object.__class__") "__get__" = some (some (.builtin "getset_descriptor.__get__"))
 takes:takesIn K (.builtin "object.__class__")=some true
 obj:mroIn K c (.type "object")=some true
 not:∀T,(T = "int" ∨ T = "bool" ∨ T = "tuple" ∨ T = "list" ∨ T = "str")->kitOne K (.ref c) (.type T)=some false
structure cZ(K:Frag)(c:Addr):Prop where
 cls:(clsIn K c).isSome=true
 ga:findIn K (.ref c) "__getattribute__" = some (some (.builtin "BaseException.__getattribute__"))
 hook:findIn K (.ref c) "__getattr__" = some none
 at_:findIn K (.ref c) "__class__" = some (some (.builtin "object.__class__"))
 get:specialIn K (.builtin "object.__class__") "__get__" = some (some (.builtin "getset_descriptor.__get__"))
 takes:takesIn K (.builtin "object.__class__")=some true
 obj:mroIn K c (.type "object")=some true
 exc:mroIn K c (.type "BaseException")=some true
 not:∀T,(T = "int" ∨ T = "bool" ∨ T = "tuple" ∨ T = "list" ∨ T = "str")->kitOne K (.ref c) (.type T)=some false
def cZ.of{K:Frag}{c:Addr}(h:xl K c=true):cZ K c:=by unfold xl at h;simp at h;let⟨⟨⟨⟨⟨⟨⟨⟨⟨⟨⟨⟨m,g⟩,f⟩,e⟩,d⟩,c⟩,b⟩,a⟩,n⟩,l⟩,k⟩,j⟩,i⟩:=h;calc⟨m,g,f,e,d,c,b,a,33⟩
section
variable{prog:Program}{w:World}{A:Around}{E:yaa}{s:Shared}{K:Frag}{e c:Addr}
def SK {R:Result->Shared->Prop} {a:Value} (X:K.In s.heap) (p:ExcAt e c s.heap) (d:mroIn K c (.type "object")=some true) (b:R (.ok (.ret (.ref c))) s) :
  codeAny (model prog w) A (.call (.builtin "getset_descriptor.__get__") ⟨[.builtin "object.__class__", .ref e,a],[]⟩) R s:=by
 let La:=p.ty (M:=model prog w);let Lb:=looks_mroIn (M:=model prog w) X d;calc codeAny_call_builtin (KF.slot_gs.plain) KF.entry_gs (KF.slot_gs.check _ _ _ _ _ _ _ _ KF.type_class (KF.args_gs _ _ _) ?_);ext Builtin.«getset_descriptor.__get__» descrGet;calc TJ (T5 ?_);ext descrGetter descrCheckInstance descrNameAndClass isInstance;simp only[KF.owner_class]
 repeat lk
 refine⟨Code.quiet_builtin _ (by decide +kernel),zBO KF.entry_class ?_⟩
 repeat lk
 calc b
def Rn (k:cZ K c) (X:K.In h):Looks M h (find (.ref e) (.ref c) "__class__") (.bind (.builtin "getset_descriptor.__get__") (.builtin "object.__class__")):=by let d:=looks_findIn (M:=M) X k.at_;let b:Looks M h (getOf (some (.builtin "object.__class__"))) (some (.builtin "getset_descriptor.__get__")):=looks_specialIn X k.get;let a:=looks_takesIn (M:=M) X k.takes;calc d.andThen (b.andThen ?_);calc(show Looks M h (dataDescriptor? (some (.builtin "object.__class__")) (some (.builtin "getset_descriptor.__get__"))) (some (.builtin "getset_descriptor.__get__", .builtin "object.__class__"))from a.andThen .now).andThen (Looks.tag .now)
def Oh{a:Tok}{Q:Fin->Shared->Prop}(k:cZ K c)(X:K.In s.heap)(p:ExcAt e c s.heap)(b:Q (.done (.ret (.ref c))) s) :
  wpAny (model prog w) A (Builtin.«object.__getattribute__» ⟨[.ref e,.str "__class__" a],[]⟩) Q E s:=by
 let d:=p.ty (M:=model prog w);let a:=Rn (M:=model prog w) (e:=e) k X;calc TJ (T5 ?_);calc TJ (T5 ?_);calc TJ (d.at (TJ (a.at ?_)));ext bindTo
 repeat (first|with_reducible calc TJ ?_|with_reducible calc YH ?_)
 calc wpAny_call (SK X p k.obj ?_);calc T5 b
def Og{b:Value}{Q:Unit->Shared->Prop}(k:cZ K c)(X:K.In s.heap)(p:ExcAt e c s.heap)(d:Q () s) :
  wpAny M A (checkBuiltinCall "BaseException.__getattribute__" ⟨[.ref e,b],[]⟩) Q E s:=by
 let⟨h,g,l,t,os⟩:=s;let f:builtinKind "BaseException.__getattribute__" = some .slot:=by decide +kernel
 let a:splitId "BaseException.__getattribute__" = some ("BaseException", "__getattribute__"):=by decide +kernel
 let j:=F.args_bexc_ga (.ref e) b;let i:=p.ty (M:=M);let g:=looks_mroIn (M:=M) X k.exc;let b:Looks M h (isInstance (.ref e) (.type "BaseException")) true:=i.andThen g;simp only[checkBuiltinCall,f,a];refine TJ (b.at ?_)
 repeat (first|wp_step)
 calc d
def x_call{a:Tok}{R:Result->Shared->Prop}(k:cZ K c)(X:K.In s.heap)(p:ExcAt e c s.heap)(b:R (.ok (.ret (.ref c))) s) :
  codeAny (model prog w) A (.call (.builtin "BaseException.__getattribute__") ⟨[.ref e,.str "__class__" a],[]⟩) R s :=
 codeAny_call_builtin F.excAttr_ValueError.ga.plain F.entry_bexc_ga (Og k X p (Oh k X p b))
def Rm{Q:yam->Shared->Prop}(k:cZ K c)(X:K.In s.heap)(p:ExcAt e c s.heap)(b:Q (some (.ref c)) {s with toks:=s.toks+1}) :
  wpAny (model prog w) A (getAttr? (.ref e) "__class__") Q E s:=by
 let f:=p.ty (M:=model prog w);let d:=looks_findIn (M:=model prog w) X k.ga;let a:=looks_findIn (M:=model prog w) X k.hook;let g:=F.excAttr_ValueError.ga.bind (.ref e);calc TJ (wpAny_mkText (TJ (zCa (YH (TJ (f.at (TJ (d.at ?_))))))));let V2:(Value.builtin "BaseException.__getattribute__" == Value.builtin "object.__getattribute__")=false:=by decide +kernel
 calc TJ (a.at ?_);calc TJ (zCa (YH ?_));calc wpAny_call (x_call k X p ?_);calc T5 (a:=Value.ref c) ?_;exact T5 b
set_option tactic.hygienic true in
def JU(k:cZ K c):KitX K (.ref e) (.ref c) (ExcAt e c) where
 ty:=λ_ _ _ p=>p.ty
 it:=λ_ _ X _=>by let h:=k.cls;unfold clsIn at h;split at h;rename_i l j g a f;intro A' Q' E' o b q;calc TJ (wpAny_loadPart (b _ _ (X _ _ f)) (T5 q));cases h
 ne:=λh i r TV n m X d=>by
  let h:=k.cls;refine Bool.eq_false_iff.mpr λq=>?_
  let z:c=i:=33
  subst z;unfold clsIn at h;split at h;rename_i l j g a f;cases(X _ _ f).symm.trans d;cases h
 ca:=λX p b=>Rm k X p b
end
end PX
namespace PD
open PySem PySem.Spec PyProof.Rows L2 PX
abbrev St:=L2.St
def NT:HO->Prop
 |.Yj _=>False
 |_=>True
def nO:Str := "lightest.<locals>.<lambda>"
def gG(c:Addr):Heap->Prop:=λh=>h.CodeRec (.ref c) nO
def fJ(H:Hp):Prop:=∀P a,H P=some (.Yj a)->TriplesOk a.toList/\∀b d,codeAmong b a.toList=some d->∃c,d=.ref c/\H c=some (.ext (gG c))
noncomputable def tabOf(K:yac):Option Addr :=
 match PySem.W.nsIn K mainGlobals "lightest" with
 |some (some (.ref f))=>(match K.lookup f with
  |some ⟨_,_,.func a,_⟩=>(match a.code with
   |.ref c=>(match K.lookup c with
    |some ⟨_,_,.fields a,_⟩=>(match(a[11]?:yam)with
     |some (.ref P)=>if(K.lookup P).isNone=true then some P else none
     |_=>none)
    |_=>none)
   |_=>none)
  |_=>none)
 |_=>none
structure au(H H':Hp):Prop where
 kp:∀b o,H b=some o->NT o->H' b=some o
 tb:∀b ps,H b=some (.Yj ps)->∃more,H' b=some (.Yj (ps++more))
 ok:fJ H->fJ H'
def au.app(e:au H H')(b:Addr)(o:HO)(h:H b=some o)(a:NT o:=by first|calc True.intro|assumption):H' b=some o:=e.kp b o h a
instance {H H':Hp}:CoeFun (au H H') (λ_=>∀(b:Addr) (o:HO),H b=some o->(nt:NT o:=by first|calc True.intro|assumption)->H' b=some o):=⟨@au.app H H'⟩
theorem au.refl(H:Hp):au H H:=⟨33,47,id⟩
def au.trans(a:au H H1)(b:au H1 H2):au H H2:=⟨λc o h n=>b.kp c o (a.kp c o h n) n,λc d h=>by let⟨e,g⟩:=a.tb c d h;let⟨d,f⟩:=b.tb c _ g;calc⟨e++d,by rw[f,Array.append_assoc]⟩,λh=>b.ok (a.ok h)⟩
def au.ex(e:au H H'){o:HO}(h:H b=some o):∃a,H' b=some a:=by
 by_cases n:NT o;calc⟨o,e.kp b o h n⟩;cases o with
 |Yj a =>
  let⟨m,q⟩:=e.tb b a h;calc⟨_,q⟩
 |_=>calc absurd True.intro n
def au.free(e:au H H')(h:H' l=Option.none):H l=Option.none:=by
 cases q:H l with
 |none=>rfl
 |some o =>
  let⟨a,z⟩:=e.ex q
  lia
def au.seq{K:yac}{H H':Hp}{a:Addr}{xs:yaq}(e:au H H')(h:SqL K H a xs):SqL K H' a xs:=by
 rcases h with(h|⟨o,h⟩)|h;calc .inl (.inl (e _ _ h));calc .inl (.inr ⟨o,e _ _ h⟩);calc .inr h
theorem fJ.upd{H:Hp}(n:NT o)(c:H p=none∨∃ u,H p=some u/\(∀a,u ≠ .ext a)/\NT u)(h:fJ H):fJ (upd H p o):=by
 intro P a e;let b:P≠p:=λz=>by subst z;rw[aW]at e;cases e;exact n
 rw[aC b]at e;let⟨f,d⟩:=h P a e;grind [aC]
structure jw(K:yac)(H:Hp):Prop where
 ok:fJ H
 at':∀P,tabOf K=some P->∃ps,H P=some (.Yj ps)
def jw.same{K:yac}{H H':Hp}(h:jw K H)(e:au H H'):jw K H':=⟨e.ok h.ok,λP q=>by let⟨a,z⟩:=h.at' P q;let⟨m,z⟩:=e.tb P a z;grind⟩
theorem jw.upd{K:yac}{H:Hp}{p:Addr}{o:HO}(h:jw K H)(n:NT o)(a:H p=none∨∃ u,H p=some u/\(∀b,u ≠ .ext b)/\NT u):jw K (upd H p o):=⟨fJ.upd n a h.ok,λP q=>by
 let⟨b,z⟩:=h.at' P q;calc⟨b,?_⟩;rw[aC λe=>?_];calc z;subst e;obtain a|⟨u,a,_,b⟩:=a
 lia
 rw[a]at z;cases z;calc b⟩
inductive D where
 |UE|bl (b:Bool)|int (i:Int)|str (x:Str)|tup (ds:List D)|lst (t:Bool) (ds:List D)|exc (c:Addr)|obj (C:Addr) (ns:yah) (ds:List D)|ZK|Zs (ks:yaf) (ds:List D)
abbrev yar:=List D
def Sol:HO->Prop
 |.ext _=>True|.ins _ _ _=>True|.frz _ (.dK _)=>True|_=>False
def Sol.nt(h:Sol o):NT o:=by cases o<;>first|calc True.intro|calc h.elim
def XS(K:yac)(H:Hp)(t:Bool)(a:Addr)(vs:yaq):Prop:=SqL K H a vs/\(t=true->H a=some (.lst vs)/\K.lookup a=none)
def XS.same{K:yac}{H H':Hp}{t:Bool}{a:Addr}{vs:yaq}(e:au H H')(q:XS K H t a vs):XS K H' t a vs:=⟨e.seq q.1,λz=>⟨e _ _ (q.2 z).1,(q.2 z).2⟩⟩
def XS.any{K:yac}{H:Hp}{a:Addr}{vs:yaq}(q:SqL K H a vs):XS K H false a vs:=⟨q,λz=>by cases z⟩
def XS.new{K:yac}{H:Hp}(q:H a=some (.lst vs))(k:K.lookup a=none):XS K H t a vs:=⟨SqL.of q,33⟩
def VD(_:yac)(H:Hp)(a:Addr)(xs:yaq):Prop:=H a=some (.tup xs)
def VD.w{K:yac}{H:Hp}{a:Addr}{xs:yaq}(h:VD K H a xs):L2.VD K H a xs:=.inl (.inl h)
def VD.of{K:yac}{H:Hp}{a:Addr}{xs:yaq}(h:H a=some (.tup xs)):VD K H a xs:=h
mutual
def Den(K:yac)(P:yak)(H:Hp):D->V->Prop
 |.UE,v=>v=.UE
 |.bl b,v=>v=.bl b
 |.int i,v=>v=.int i
 |.str x,v=>v=.str x
 |.tup d,v=>∃a b,v=.ref a/\VD K H a b/\aq K P H d b
 |.lst t d,v=>∃a b,v=.ref a/\¬P t a/\XS K H t a b/\aq K P H d b
 |.exc c,v=>∃e,v=.ref e/\H e=some (.ext (ExcAt e c))/\cZ K c
 |.ZK,v=>∃a,v=.ref a/\H a=some (.ext (PySem.W.KitAt a "dict"))
 |.obj C c d,v=>∃a e b,v=.ref a/\H a=some (.ins C e (c.zip b))/\#[b]=#[c]/\EO K C/\aq K P H d b
 |.Zs c d,v=>∃a o e b,v=.ref a/\H a=some (.frz o (.dK e))/\e=(c.map Sum.inl).zip b/\#[b]=#[c]/\aq K P H d b
def aq(K:yac)(P:yak)(H:Hp):yar->yaq->Prop
 |[],a=>a=[]
 |d::b,a=>∃v r,a=v::r/\Den K P H d v/\aq K P H b r
end
section
variable{K:yac}{P P':yak}{H H':Hp}
mutual
theorem Den.map(g:∀a vs,VD K H a vs->VD K H' a vs)(f:∀t a vs,¬P t a->XS K H t a vs->¬P' t a/\XS K H' t a vs)(b:∀a o,Sol o->H a=some o->H' a=some o):∀(d:D) (v:V),Den K P H d v->Den K P' H' d v
 |.UE,_,h=>by simpa only[Den]using h
 |.bl _,_,h=>by simpa only[Den]using h
 |.int _,_,h=>by simpa only[Den]using h
 |.str _,_,h=>by simpa only[Den]using h
 |.tup d,_,h=>by simp only[Den]at h ⊢;let⟨a,vs,e,q,r⟩:=h;calc⟨a,vs,e,g a vs q,aq.map g f b d vs r⟩
 |.lst t d,_,h=>by simp only[Den]at h ⊢;let⟨a,vs,e,p,q,r⟩:=h;calc⟨a,vs,e,(f t a vs p q).1,(f t a vs p q).2,aq.map g f b d vs r⟩
 |.exc c,_,h=>by simp only[Den]at h ⊢;let⟨a,e,q,k⟩:=h;calc⟨a,e,b a _ True.intro q,k⟩
 |.obj C i d,_,h=>by simp only[Den]at h ⊢;let⟨a,c,vs,e,q,l,k,r⟩:=h;calc⟨a,c,vs,e,b a _ True.intro q,l,k,aq.map g f b d vs r⟩
 |.ZK,_,h=>by simp only[Den]at h ⊢;let⟨a,e,q⟩:=h;calc⟨a,e,b a _ True.intro q⟩
 |.Zs j d,_,h=>by simp only[Den]at h ⊢;let⟨a,o,c,vs,e,q,l,k,r⟩:=h;calc⟨a,o,c,vs,e,b a _ True.intro q,l,k,aq.map g f b d vs r⟩
theorem aq.map(f:∀a vs,VD K H a vs->VD K H' a vs)(g:∀t a vs,¬P t a->XS K H t a vs->¬P' t a/\XS K H' t a vs)(c:∀a o,Sol o->H a=some o->H' a=some o):∀(b:yar) (vs:yaq),aq K P H b vs->aq K P' H' b vs
 |[],_,h=>by simpa only[aq]using h
 |d::b,_,h=>by simp only[aq]at h ⊢;let⟨v,r,e,i,a⟩:=h;calc⟨v,r,e,Den.map f g c d v i,aq.map f g c b r a⟩
end
end
def VD.same{K:yac}{H H':Hp}{a:Addr}{xs:yaq}(e:au H H')(h:VD K H a xs):VD K H' a xs:=e _ _ h
section
variable{K:yac}{P:yak}{H H':Hp}
theorem Den.same(e:au H H')(h:Den K P H d v):Den K P H' d v:=Den.map (λ_ _ q=>VD.same e q) (λ_ _ _ p q=>⟨p,q.same e⟩) (λa _ n q=>e.kp a _ q n.nt) d v h
theorem aq.same(e:au H H')(h:aq K P H ds vs):aq K P H' ds vs:=aq.map (λ_ _ q=>VD.same e q) (λ_ _ _ p q=>⟨p,q.same e⟩) (λa _ n q=>e.kp a _ q n.nt) ds vs h
def Den.UG{b:yak}(e:∀t a,b t a->P t a)(h:Den K P H d v):Den K b H d v:=Den.map (λ_ _ q=>q) (λ_ _ _ p q=>⟨λz=>p (e _ _ z),q⟩) (λ_ _ _ q=>q) d v h
def aq.UG{b:yak}(e:∀t a,b t a->P t a)(h:aq K P H ds vs):aq K b H ds vs:=aq.map (λ_ _ q=>q) 58 33 ds vs h
theorem aq.len:∀{a:yar} {vs:yaq},aq K P H a vs->#[vs]=#[a]
 |[],_,h=>by simp only[aq]at h;cbv
 |d::a,_,h=>by let⟨v,r,rfl,_,a⟩:=h;simp[aq.len a]
theorem aq.get:∀{a:yar} {vs:yaq} {i:Nat} {d:D},aq K P H a vs->a[i]?=some d->∃v,vs[i]?=some v/\Den K P H d v
 |[],_,_,_,_,e=>by simp at e
 |d::a,_,0,_,h,e=>by simp only[aq]at h;let⟨v,r,rfl,b,_⟩:=h;simp at e;subst e;calc⟨v,rfl,b⟩
 |d::a,_,i+1,x,h,e=>by simp only[aq]at h;let⟨v,r,rfl,_,a⟩:=h;let⟨u,c,b⟩:=aq.get (i:=i) (d:=x) a (by simpa using e);calc⟨u,by simpa using c,b⟩
theorem aq.aZ:∀{a:yar} {vs:yaq} {i:Nat} {v:V},aq K P H a vs->vs[i]?=some v->∃d,a[i]?=some d/\Den K P H d v
 |[],_,_,_,h,e=>by simp only[aq]at h;cbv
 |d::a,_,0,_,h,e=>by simp only[aq]at h;grind
 |d::a,_,i+1,x,h,e=>by
  let⟨v,r,rfl,_,a⟩:=h;let⟨u,c,b⟩:=aq.aZ (i:=i) (v:=x) a 47
  cbv
theorem aq.append:∀{a es:yar} {vs b:yaq},aq K P H a vs->aq K P H es b->aq K P H (a++es) (vs++b)
 |[],_,_,_,h,b=>by simp only[aq]at h;cbv
 |d::a,_,_,_,h,b=>by let⟨v,r,rfl,c,a⟩:=h;calc⟨v,_,rfl,c,aq.append a b⟩
def aq.one(h:Den K P H d v):aq K P H [d] [v]:=by simp only[aq];calc⟨v,[],rfl,h,rfl⟩
def aq.nil:aq K P H [] []:=by simp only[aq]
def aq.cons(h:Den K P H d v)(h':aq K P H ds vs):aq K P H (d::ds) (v::vs):=by calc⟨v,vs,rfl,h,h'⟩
def Den.VQ(h:Den K P H (.int i) v):v=.int i:=by simpa only[Den]using h
def Den.bl_(h:Den K P H (.bl b) v):v=.bl b:=by simpa only[Den]using h
def Den.non_(h:Den K P H .UE v):v=.UE:=by simpa only[Den]using h
def Den.str_(h:Den K P H (.str x) v):v=.str x:=by simpa only[Den]using h
theorem Den.int(i:Int):Den K P H (.int i) (.int i):=by simp only[Den]
theorem Den.bl(b:Bool):Den K P H (.bl b) (.bl b):=by simp only[Den]
theorem Den.UE:Den K P H .UE .UE:=by simp only[Den]
theorem Den.str(x:Str):Den K P H (.str x) (.str x):=by simp only[Den]
def Den.YF(h:Den K P H (.tup ds) v):∃a vs,v=.ref a/\VD K H a vs/\aq K P H ds vs:=by simpa only[Den]using h
def Den.lstG_(h:Den K P H (.lst t ds) v):∃a vs,v=.ref a/\¬P t a/\XS K H t a vs/\aq K P H ds vs:=by simpa only[Den]using h
def Den.Xd(h:Den K P H (.lst t ds) v):∃a vs,v=.ref a/\¬P t a/\SqL K H a vs/\aq K P H ds vs:=by let⟨a,vs,e,d,c,b⟩:=h.lstG_;calc⟨a,vs,e,d,c.1,b⟩
def Den.dic_ (h:Den K P H .ZK v):∃a,v=.ref a/\H a=some (.ext (PySem.W.KitAt a "dict")):=by simpa only[Den]using h
def Den.obj_(h:Den K P H (.obj C ns ds) v):∃a b vs,v=.ref a/\H a=some (.ins C b (ns.zip vs))/\#[vs]=#[ns]/\EO K C/\aq K P H ds vs:=by simpa only[Den]using h
def Den.dik_(h:Den K P H (.Zs ks ds) v):∃a o b vs,v=.ref a/\H a=some (.frz o (.dK b))/\b=(ks.map Sum.inl).zip vs/\#[vs]=#[ks]/\aq K P H ds vs:=by simpa only[Den]using h
def Den.exc_(h:Den K P H (.exc c) v):∃e,v=.ref e/\H e=some (.ext (ExcAt e c))/\cZ K c:=by simpa only[Den]using h
theorem Den.tup(h:VD K H a vs)(h':aq K P H ds vs):Den K P H (.tup ds) (.ref a):=by calc⟨a,vs,rfl,h,h'⟩
theorem Den.lst(p:¬P t a)(h:XS K H t a vs)(h':aq K P H ds vs):Den K P H (.lst t ds) (.ref a):=by calc⟨a,vs,rfl,p,h,h'⟩
end
inductive LI where
 |own (ds:yar)|val (d:D)
inductive OS where
 |lst (ds:yar)|dk (kvs:List (Key×D))|dt (kvs:List (List Key×D))|ll (xs:List LI)
inductive Sl where
 |val (d:D)
 |ob (x:OS)
abbrev Sl.own(ds:yar):Sl:=.ob (.lst ds)
def bA(K:yac)(P:yak)(H:Hp)(B:yaj):Nat->List LI->yaq->Prop
 |_,[],a=>a=[]
 |k,.own d::r,a=>∃b c u,a=.ref b::u/\B k=some b/\H b=some (.lst c)/\aq K P H d c/\bA K P H B (k+1) r u
 |k,.val d::r,a=>∃v u,a=v::u/\Den K P H d v/\bA K P H B (k+1) r u
theorem bA.map{K:yac}{P e:yak}{H H':Hp}{B B':yaj}(c:∀d vs,aq K P H d vs->aq K e H' d vs)(f:∀k b,B k=some b->B' k=some b/\∀a,H b=some (.lst a)->H' b=some (.lst a)):∀{k:Nat} {xs:List LI} {vs:yaq},bA K P H B k xs vs->bA K e H' B' k xs vs
 |_,[],_,h=>by simpa only[bA]using h
 |k,.own d::r,_,h=>by let⟨b,a,u,e,g,l,j,i⟩:=h;calc⟨b,a,u,e,(f k b g).1,(f k b g).2 a l,c d a j,bA.map c f i⟩
 |k,.val d::r,_,h=>by let⟨v,u,e,g,l⟩:=h;let j:=c [d] [v] (aq.one g);let⟨m,n,a,i,_⟩:=j;cases a;calc⟨v,u,e,i,bA.map c f l⟩
theorem bA.len{K:yac}{P:yak}{H:Hp}{B:yaj}:∀{k:Nat} {xs:List LI} {vs:yaq},bA K P H B k xs vs->#[vs]=#[xs]
 |_,[],_,h=>by simp only[bA]at h;cbv
 |k,.own e::r,_,h=>by let⟨b,c,u,rfl,_,_,_,a⟩:=h;simp[bA.len a]
 |k,.val d::r,_,h=>by let⟨v,u,rfl,_,a⟩:=h;simp[bA.len a]
inductive c9 (K:yac) (P:yak) (H:Hp) (B:yaj):OS->HO->Prop where
 |lst {ds:yar} {vs:yaq} (h:aq K P H ds vs):c9 K P H B (.lst ds) (.lst vs)
 |ll {xs:List LI} {vs:yaq} (h:bA K P H B 0 xs vs):c9 K P H B (.ll xs) (.lst vs)
 |dk {kvs:List (Key×D)} {Vx:List (Key×V)} (e:Vx.map (·.1)=kvs.map (·.1)) (h:aq K P H (kvs.map (·.2)) (Vx.map (·.2))):c9 K P H B (.dk kvs) (.dK Vx)
 |dt {kvs:List (List Key×D)} {Vx:List (List Key×V)} (e:Vx.map (·.1)=kvs.map (·.1)) (h:aq K P H (kvs.map (·.2)) (Vx.map (·.2))):c9 K P H B (.dt kvs) (.dT Vx)
def kA:HO->Prop
 |.lst _=>True|.dK _=>True|.dT _=>True|_=>False
def kA.nt(h:kA o):NT o:=by cases o<;>first|calc True.intro|calc h.elim
def kA.sol(h:kA o):¬Sol o:=by cases o<;>first|calc h.elim|calc λz=>z
def kA.ne(h:kA o):∀a,o ≠ .ext a:=λ_ e=>by subst e;calc h
section
variable{K:yac}{P P':yak}{H H':Hp}{B B':yaj}{x:OS}{o:HO}
theorem c9.map(k:∀c vs,aq K P H c vs->aq K P' H' c vs)(d:∀k b,B k=some b->B' k=some b/\∀a,H b=some (.lst a)->H' b=some (.lst a))(h:c9 K P H B x o):c9 K P' H' B' x o:=by
 cases h with
 |lst h=>calc .lst (k _ _ h)
 |ll h=>calc .ll (h.map k d)
 |dk e h=>calc .dk e (k _ _ h)
 |dt e h=>calc .dt e (k _ _ h)
theorem c9.same(e:au H H')(h:c9 K P H B x o):c9 K P H' B x o:=h.map (λ_ _ z=>z.same e) λ_ _ q=>⟨q,λ_ z=>e _ _ z⟩
theorem c9.UG(e:∀t a,P' t a->P t a)(c:∀k b,B k=some b->B' k=some b)(h:c9 K P H B x o):c9 K P' H B' x o:=h.map (λ_ _ z=>z.UG e) λk b q=>⟨c k b q,λ_ z=>z⟩
def c9.mut(h:c9 K P H B x o):kA o:=by cases h<;>calc True.intro
def c9.Xd(h:c9 K P H B (.lst ds) o):∃vs,o=.lst vs/\aq K P H ds vs:=by
 cases h with
 |lst h=>calc⟨_,rfl,h⟩
end
abbrev Ro:=List (Option Sl)
structure Own where
 B:Addr->Prop
 O:yaj
 S:Addr->Prop
def Own.bad(W:Own)(t:Bool)(a:Addr):Prop:=W.B a∨(∃i,W.O i=some a)∨(t=true/\W.S a)
def Own.drop(W:Own)(i:Nat):Own:=⟨W.B,λj=>if j=i then none else W.O j,W.S⟩
def Own.put(W:Own)(i:Nat)(a:Addr):Own:=⟨W.B,λj=>if j=i then some a else W.O j,W.S⟩
def Own.Wm{W:Own}(h:(W.drop i).bad t a):W.bad t a:=by
 obtain h|⟨j,h⟩| h:=h;calc .inl h;let b:(if j=i then none else W.O j)=some a:=h;by_cases e:j=i
 lia
 rw[TM e]at b;calc .inr (.inl ⟨j,b⟩);calc .inr (.inr h)
def Own.Zx{W:Own}(h:W.bad false a):W.bad t a:=by
 obtain h|h|⟨h,_⟩:=h;calc .inl h;exact .inr (.inl h)
 lia
def vix(n i k:Nat):Nat:=n*(k+1)+i
theorem wM{n j:Nat}(h:j<n):vix n i k≠j:=λe=>by
 unfold vix at e
 lia
abbrev Own.sub(W:Own)(n i:Nat)(k:Nat):Option Addr:=W.O (vix n i k)
def Own.ZW{W:Own}{n i:Nat}(h:i<n)(k:Nat)(b:Addr)(e:W.sub n j k=some b):(W.drop i).sub n j k=some b:=by show(if vix n j k=i then none else W.O (vix n j k))=_;rw[TM (wM h)];calc e
structure Rel(X:Cx)(W:Own)(H:Hp)(σ:St)(ρ:Ro):Prop where
 val:∀(i:Nat) (d:D),ρ[i]?=some (some (Sl.val d))->∃v,σ[i]?=some (some v)/\Den X.K W.bad H d v
 own:∀(i:Nat) (x:OS),ρ[i]?=some (some (Sl.ob x))->∃a o,W.O i=some a/\σ[i]?=some (some (.ref a))/\H a=some o/\c9 X.K W.bad H (W.sub #[σ] i) x o
 inj:∀i j a,W.O i=some a->W.O j=some a->i=j
 kn:∀i a,W.O i=some a->X.K.lookup a=none/\(¬W.B a/\¬W.S a)/\∃o,H a=some o/\kA o
 ke:∀i a,W.O i=some a->X.Vl a=none
 bt:∀a,W.B a->∃o,H a=some o
 st:∀a,W.S a->∃o,H a=some o
 ent:au X.Vl H
 tab:jw X.K H
theorem Rel.same(r:Rel X W H σ ρ)(e:au H H'):Rel X W H' σ ρ where
 val:=λi d h=>let ⟨v,h1,h2⟩:=r.val i d h;⟨v,h1,h2.same e⟩
 own:=λi b h=>let ⟨a,vs,h1,h2,h3,h4⟩:=r.own i b h;⟨a,vs,h1,h2,e.kp _ _ h3 h4.mut.nt,h4.same e⟩
 inj:=r.inj
 kn:=λi a h=>let ⟨h1,h2,o,h3,h4⟩:=r.kn i a h;⟨h1,h2,o,e.kp _ _ h3 h4.nt,h4⟩
 ke:=r.ke
 bt:=λa h=>let ⟨_,q⟩:=r.bt a h;e.ex q
 st:=λa h=>let ⟨_,q⟩:=r.st a h;e.ex q
 ent:=r.ent.trans e
 tab:=r.tab.same e
def Rel.ownL(r:Rel X W H σ ρ)(i:Nat)(b:yar)(h:ρ[i]?=some (some (Sl.own b))):∃a vs,W.O i=some a/\σ[i]?=some (some (.ref a))/\H a=some (.lst vs)/\aq X.K W.bad H b vs:=by let⟨a,o,g,f,d,c⟩:=r.own i _ h;let⟨vs,e,b⟩:=c.Xd;subst e;calc⟨a,vs,g,f,d,b⟩
def Rel.tracked(r:Rel X W H σ ρ)(t:Bool)(a:Addr)(h:W.bad t a):∃o,H a=some o:=by
 obtain h|⟨i,h⟩| ⟨_,h⟩:=h;calc r.bt a h;let⟨_,_,o,q,_⟩:=r.kn i a h;calc⟨_,q⟩;calc r.st a h
def Rel.fresh(r:Rel X W H σ ρ)(h:H p=none):¬W.bad t p:=λz=>by
 let⟨o,q⟩:=r.tracked t p z
 lia
structure Vn(W:Own)(H:Hp)(W':Own)(H':Hp):Prop where
 B:W'.B=W.B
 S:W'.S=W.S
 kp:∀b o,(∀i,W.O i≠some b)->H b=some o->NT o->H' b=some o
 new:∀i a,W'.O i=some a->(∃j,W.O j=some a)∨H a=none
 tb:∀b ps,H b=some (.Yj ps)->∃more,H' b=some (.Yj (ps++more))
 ok:fJ H->fJ H'
def Vn.keep(f:Vn W H W' H')(b:Addr)(o:HO)(h:∀i,W.O i≠some b)(q:H b=some o)(a:NT o:=by first|calc True.intro|assumption):H' b=some o:=f.kp b o h q a
def Vn.ex(f:Vn W H W' H'){b:Addr}{o:HO}(h:∀i,W.O i≠some b)(q:H b=some o):∃a,H' b=some a:=by
 by_cases n:NT o;calc⟨o,f.kp b o h q n⟩;cases o with
 |Yj a =>
  let⟨m,e⟩:=f.tb b a q;calc⟨_,e⟩
 |_=>calc absurd True.intro n
theorem Vn.refl(W:Own)(H:Hp):Vn W H W H:=⟨rfl,rfl,33,58,47,id⟩
theorem Vn.trans(a:Vn W H W1 H1)(b:Vn W1 H1 W2 H2):Vn W H W2 H2:=by
 refine⟨b.B.trans a.B,b.S.trans a.S,λx o n h t=>b.kp x o (λi z=>?_) (a.kp x o n h t) t,λi x h=>?_,λc d h=>?_,λh=>b.ok (a.ok h)⟩
 ·rcases a.new i x z with⟨j,q⟩| q
  all_goals grind
 rcases b.new i x h with⟨j,q⟩| q;calc a.new j x q;by_cases z:∃j,W.O j=some x
 cbv
 calc .inr ?_;cases e:H x with
 |none=>rfl
 |some o =>
  let⟨f,this⟩:=a.ex 47 e
  lia
 let⟨k,e⟩:=a.tb c d h;let⟨g,l⟩:=b.tb c _ e;grind
def Vn.same(e:au H H'):Vn W H W H':=⟨rfl,rfl,λ_ _ _ h n=>e.kp _ _ h n,58,e.tb,e.ok⟩
def au.ins(e:au Vl H){o:HO}(h0:Vl a=none)(f:H a=some o)(c:kA o)(d:NT o'):au Vl (upd H a o') :=
 ⟨λb u h n=>by rw[aC 33];calc e.kp b u h n,λb a h=>by rw[aC 33];calc e.tb b a h,λh=>fJ.upd d (.inr ⟨o,f,c.ne,c.nt⟩) (e.ok h)⟩
theorem Vn.upd{W:Own}{H:Hp}{a:Addr}{o:HO}(f:W.O i=some a)(d:H a=some o)(c:kA o)(g:NT o'):Vn W H W (upd H a o') :=
 ⟨rfl,rfl,λb u n h _=>by rw[aC λe=>n i (by rw[e];calc f)];calc h,λj _ h=>.inl ⟨j,h⟩,λb k h=>⟨#[],by rw[aC (λe=>by subst e;rw[d]at h;cases h;calc c),h];simp⟩,fJ.upd g (.inr ⟨o,d,c.ne,c.nt⟩)⟩
structure jO where
 nx:Ro->Prop
 rt:D->Prop
 bk:Ro->Prop:=λ_=>False
 ct:Ro->Prop:=λ_=>False
abbrev DE:=Ro->(D->Prop)->Prop
abbrev DT:=Ro->(Bool->Prop)->Prop
abbrev DA:=Ro->(yar->Prop)->Prop
abbrev DS:=jO->Ro->Prop
inductive DP (X:Cx) (pins:yab) (σ:St) (W:Own) (H:Hp) (Q:D->Prop) (u:Value) (s':Shared):Prop
 |mk (v:V) (H':Hp) (d:D) (_:Inv X pins σ H' s') (_:RelV v u) (_:au H H') (_:Den X.K W.bad H' d v) (_:Q d)
inductive DTP (X:Cx) (pins:yab) (σ:St) (H:Hp) (Q:Bool->Prop) (b:Bool) (s':Shared):Prop
 |mk (H':Hp) (_:Inv X pins σ H' s') (_:au H H') (_:Q b)
inductive DAP (X:Cx) (pins:yab) (σ:St) (W:Own) (H:Hp) (Q:yar->Prop) (us:yad) (s':Shared):Prop
 |mk (vs:yaq) (H':Hp) (ds:yar) (_:Inv X pins σ H' s') (_:Vals vs us) (_:au H H') (_:aq X.K W.bad H' ds vs) (_:Q ds)
def SPf(X:Cx)(E:jO)(b:Own)(c:St)(H':Hp)(f:Flow):Prop :=
 match f with
 |.next=>∃a,Rel X b H' c a/\E.nx a
 |.brk=>∃a,Rel X b H' c a/\E.bk a
 |.cont=>∃a,Rel X b H' c a/\E.ct a
 |.ret u=>∃v d,RelV v u/\Den X.K b.bad H' d v/\E.rt d
inductive SPD (X:Cx) (pins:yab) (W:Own) (H:Hp) (E:jO) (f:Flow) (s':Shared):Prop
 |mk (W':Own) (US:St) (H':Hp) (_:Inv X pins US H' s') (_:Vn W H W' H') (_:SPf X E W' US H' f)
def Ul(X:Cx)(e:Expr)(t:DE):Prop :=
 ∀ (a:yab) (s:Shared) (b:St) (H:Hp) (W:Own) (c:Ro) (Q:D->Prop),Inv X a b H s->Rel X W H b c->t c Q →
  wpAny (model X.prog X.w) X.A (eval e X.env) (DP X a b W H Q) X.xe s
def ZX(X:Cx)(e:Expr)(t:DT):Prop :=
 ∀ (a:yab) (s:Shared) (b:St) (H:Hp) (W:Own) (c:Ro) (Q:Bool->Prop),Inv X a b H s->Rel X W H b c->t c Q →
  wpAny (model X.prog X.w) X.A (isTrue e X.env (eval e X.env)) (DTP X a b H Q) X.xe s
def PWD(X:Cx)(e:Expr)(t:DT):Prop :=
 ∀ (b:Sem Value) (a:yab) (s:Shared) (c:St) (H:Hp) (W:Own) (d:Ro) (Q:Bool->Prop),Inv X a c H s->Rel X W H c d->t d Q →
  wpAny (model X.prog X.w) X.A (isTrue e X.env b) (DTP X a c H Q) X.xe s
def PWD.pt(h:PWD X e t):ZX X e t:=h _
def Zi(X:Cx)(es:yai)(t:DA):Prop :=
 ∀ (c:Pos) (a:yab) (s:Shared) (b:St) (H:Hp) (W:Own) (d:Ro) (Q:yar->Prop),Inv X a b H s->Rel X W H b d->t d Q →
  wpAny (model X.prog X.w) X.A (spliced (backTo c (starEach es X.env))) (DAP X a b W H Q) X.xe s
def Yb(X:Cx)(st:Stmt)(t:DS):Prop :=
 ∀ (a:yab) (s:Shared) (b:St) (H:Hp) (W:Own) (c:Ro) (E:jO),Inv X a b H s->Rel X W H b c->t E c →
  wpAny (model X.prog X.w) X.A (exec st X.env) (SPD X a W H E) X.xe s
def da(X:Cx)(st:List Stmt)(t:DS):Prop :=
 ∀ (a:yab) (s:Shared) (b:St) (H:Hp) (W:Own) (c:Ro) (E:jO),Inv X a b H s->Rel X W H b c->t E c →
  wpAny (model X.prog X.w) X.A (execs st X.env) (SPD X a W H E) X.xe s
def Lx(X:Cx)(t:DE):TE:=λc H Q=>∃W a b,Rel X W H c a/\t a b/\∀v a d,au H a->Den X.K W.bad a d v->b d->Q v a
def Sb(X:Cx)(t:DS):TS:=λD b H=>∃W a f,Rel X W H b a/\t f a ∧
 (∀b c a e,Vn W H b a->Rel X b a c e->f.nx e->D.nx c a) ∧
 (∀b a v d,Vn W H b a->Den X.K b.bad a d v->f.rt d->D.rt v a) ∧
 (∀b c a e,Vn W H b a->Rel X b a c e->f.bk e->D.bk c a) ∧
 (∀b c a e,Vn W H b a->Rel X b a c e->f.ct e->D.ct c a)
section
variable{X:Cx}
def Ul.pe(h:Ul X e t):PE X e (Lx X t):=by intro a s b H Q I q;let⟨W,c,e,r,d,k⟩:=q;calc T9 (h a s b H W c e I r d) λu i g=>(by let⟨v,a,d,h,b,f,e,c⟩:=g;calc⟨v,a,h,b,k v a d f e c⟩)
def da.ps{st:List Stmt}{t:DS}(h:da X st t):PSs X st (Sb X t):=by
 intro a s b H D I q;let⟨W,c,e,r,d,m,l,k,j⟩:=q;refine T9 (h a s b H W c e I r d) λf n b=>?_
 let⟨h,c,a,i,g,q⟩:=b;cases f with
 |next=>let⟨e,d,b⟩:=q;calc⟨c,a,i,m h c a e g d b⟩
 |brk=>let⟨e,d,b⟩:=q;calc⟨c,a,i,k h c a e g d b⟩
 |cont=>let⟨e,d,b⟩:=q;calc⟨c,a,i,j h c a e g d b⟩
 |ret u=>let⟨v,d,e,f,b⟩:=q;calc⟨v,c,a,i,e,l h a v d g f b⟩
def Ul.of{t:DE}(h:PE X e te)(k:∀a H W ρ Q,Rel X W H a ρ->t ρ Q->te a H λv H'=>au H H'/\∃d,Den X.K W.bad H' d v/\Q d):Ul X e t:=by intro b s a H W ρ Q I r c;calc T9 (h b s a H _ I (k a H W ρ Q r c)) λu g e=>(by let⟨v,H',f,a,c,d,b,q⟩:=e;calc⟨v,H',d,f,a,c,b,q⟩)
end
section
variable{X:Cx}{a b c:Expr}{ta tb:DE}{pos:Pos}
def lU(i:Nat):DE:=λd Q=>match d[i]? with
 |some (some (.val d))=>Q d
 |_=>False
set_option tactic.hygienic true in
def Ml(h:lU i ρ Q):∃d,ρ[i]?=some (some (.val d))/\Q d:=by unfold lU at h;split at h;rename_i d e;calc⟨d,e,h⟩;calc h.elim
def dC(d:D):DE:=λ_ Q=>Q d
def dv (i:Nat) {x:Str} {pos:Pos} (e:X.N[i]?=some x:=by rfl) (hv:Vis X.env.scope x:=by first|calc Or.inl rfl|calc Or.inr (Or.inl rfl)|calc Or.inr (Or.inr rfl)) (d:(x==("__debug__" : Str))=false:=by decide)
  (f:(x==("__classdict__" : Str))=false:=by decide):Ul X (.Name x pos) (lU i) :=
 Ul.of (kL e hv d f) λh H W j Q r f=>by let⟨d,e,q⟩:=Ml f;let⟨v,g,f⟩:=r.val i d e;calc⟨v,g,au.refl H,d,f,q⟩
def ae{i j pos}:Ul X (.Constant (.int i) j pos) (dC (.int i)):=Ul.of QS λ_ H _ _ _ _ q=>⟨au.refl H,_,Den.int i,q⟩
def zM{i j pos}:Ul X (.Constant (.bool i) j pos) (dC (.bl i)):=Ul.of Sq λ_ H _ _ _ _ q=>⟨au.refl H,_,Den.bl i,q⟩
def qh{j pos}:Ul X (.Constant .none j pos) (dC .UE):=Ul.of QT λ_ H _ _ _ _ q=>⟨au.refl H,_,Den.UE,q⟩
def u9{x j pos}:Ul X (.Constant (.str x) j pos) (dC (.str x)):=Ul.of QU λ_ H _ _ _ _ q=>⟨au.refl H,_,Den.str x,q⟩
abbrev RD2:=D->D->(D->Prop)->Prop
def Wb(X:Cx)(f:Value->Value->Sem Value)(r:RD2):Prop :=
 ∀ (d:yab) (s:Shared) (e:St) (H:Hp) (W:Own) (x y:D) (v u:V) (g h:Value) (Q:D->Prop),Inv X d e H s->(∀t a,W.bad t a->∃o,H a=some o)->RelV v g->RelV u h->Den X.K W.bad H x v->Den X.K W.bad H y u->r x y Q →
  wpAny (model X.prog X.w) X.A (f g h) (DP X d e W H Q) X.xe s
def dOp(r:RD2)(ta tb:DE):DE:=λd Q=>ta d λx=>tb d λy=>r x y Q
def EY(m:Ul X a ta)(q:Ul X b tb){d:yab}{s:Shared}{g:St}{H:Hp}{W:Own}{ρ:Ro}{R:D->D->Prop}(I:Inv X d g H s)(r:Rel X W H g ρ)(h:ta ρ λx=>tb ρ λy=>R x y)
  {l:Type} {Q:l->Shared->Prop} {f:Value->Value->Sem l}
  (p:∀i j k v u x y e,Inv X d g e k->au H e->RelV v i->RelV u j->Den X.K W.bad e x v->Den X.K W.bad e y u->R x y->wpAny (model X.prog X.w) X.A (f i j) Q X.xe k) :
  wpAny (model X.prog X.w) X.A (eval a X.env) (λv o=>wpAny (model X.prog X.w) X.A (eval b X.env) (λu n=>wpAny (model X.prog X.w) X.A (f v u) Q X.xe n) X.xe o) X.xe s:=by
 refine T9 (m d s g H W ρ _ I r h) λi l f=>?_
 let⟨v,t,x,s,m,h,o,n⟩:=f;refine T9 (q d l g t W ρ _ s (r.same h) n) λj k f=>?_
 let⟨u,e,y,q,g,d,n,l⟩:=f;calc p i j k v u x y e q (h.trans d) m g (o.same d) n l
def DP.up(e:au H H1)(h:DP X pins σ W H1 Q u s'):DP X pins σ W H Q u s':=by let⟨v,i,d,I,r,g,f,q⟩:=h;calc⟨v,i,d,I,r,e.trans g,f,q⟩
def ag{d:Operator}{r:RD2}(o:Wb X (binaryOp d) r)(i:Ul X a ta)(e:Ul X b tb):Ul X (.BinOp a d b pos) (dOp r ta tb):=by intro d s g H W t Q I f h;calc wpAny_BinOp (EY i e I f h λh i j v u x y r p e k l n m q=>?_);calc T9 (o d j g r W x y v u h i Q p (f.same e).tracked k l n m q) λ_ _ z=>z.up e
def RM{rd:D->(D->Prop)->Prop}(n:UnR X (unaryOp op) r)(i:Ul X a ta)
  (k:∀P H d v Q,Den X.K P H d v->rd d Q->r v H λe H'=>au H H'/\∃d',Den X.K P H' d' e/\Q d'):Ul X (.UnaryOp op a pos) (λρ Q=>ta ρ λx=>rd x Q):=by
 intro e s f H W ρ Q I g h;calc UnaryOp_ (T9 (i e s f H W ρ _ I g h) λh i p=>?_);let⟨v,g,x,q,j,o,m,l⟩:=p;calc T9 (n e i f g v h _ q j (k _ g x v Q m l)) λu t j=>(by let⟨e,l,k,f,i,d,h,g⟩:=j;calc⟨e,l,d,k,f,o.trans i,h,g⟩)
def kK:Option (Option Sl)->(yar->Prop)->Prop
 |some (some (.ob (.lst d))),R=>R d
 |_,_=>False
def rN(h:kK x R):∃d,x=some (some (.own d))/\R d:=by
 unfold kK at h;split at h;exact⟨_,rfl,h⟩
 cbv
theorem QN(d:yar)(r:Ro)(R:yar->Prop):kK (some (Sl.own d)::r)[0]? R=R d:=rfl
theorem QO(n:Nat)(x:Option Sl)(r:Ro)(R:yar->Prop):kK (x::r)[n+1]? R=kK r[n]? R:=rfl
def blQ:D->(Bool->Prop)->Prop
 |.bl k,Q=>Q k
 |_,_=>False
def pZ(h:blQ x Q):∃k,x=.bl k/\Q k:=by
 cases x<;>first|calc False.elim h|calc⟨_,rfl,h⟩
theorem rC(k:Bool)(Q:Bool->Prop):blQ (.bl k) Q=Q k:=rfl
def AL(ta:DE):DE:=λd Q=>ta d λx=>∃i,x=.int i/\Q (.int (-i))
def bE(d:Ul X a ta):Ul X (.UnaryOp .USub a pos) (AL ta) :=
 RM (rd:=λx Q=>∃i,x=.int i/\Q (.int (-i))) Rj d λP H d v Q d ⟨i,e,q⟩=>by subst e;calc⟨i,d.VQ,au.refl H,_,Den.int _,q⟩
def Wb.of{rd:RD2}(h:Zh X f r)(k:∀P H x y v u Q,Den X.K P H x v->Den X.K P H y u->rd x y Q->r v u H λd H'=>au H H'/\∃d',Den X.K P H' d' d/\Q d'):Wb X f rd:=by intro d s e H W x y v u f g Q I _ i j m l q;calc T9 (h d s e H v u f g _ I i j (k _ H x y v u Q m l q)) λ_ n j=>(by let⟨e,l,k,f,i,d,h,g⟩:=j;calc⟨e,l,d,k,f,i,h,g⟩)
def rdI(C:Int->Int->Prop)(g:Int->Int->D):RD2:=λx y Q=>match x,y with
 |.int i,.int j=>C i j/\Q (g i j)
 |_,_=>False
def gP(g:Int->Int->D):RD2:=λx y Q=>match x,y with
 |.int i,.int j=>Q (g i j)
 |_,_=>False
def Q0(h:rdI C g x y Q):∃i j,x=.int i/\y=.int j/\C i j/\Q (g i j):=by unfold rdI at h;split at h;calc⟨_,_,rfl,rfl,h⟩;calc h.elim
def rQ(h:gP g x y Q):∃i j,x=.int i/\y=.int j/\Q (g i j):=by unfold gP at h;split at h;calc⟨_,_,rfl,rfl,h⟩;calc h.elim
def Wb.ofI{g:Int->Int->Int}(h:Zh X f (rI C λi j=>.int (g i j))):Wb X f (rdI C λi j=>.int (g i j)) :=
 Wb.of h λP H x y v u Q e d z=>by let⟨i,j,h,g,f,q⟩:=Q0 z;subst h g;calc⟨i,j,e.VQ,d.VQ,f,au.refl H,_,Den.int _,q⟩
def Wb.ofI0{g:Int->Int->Int}(h:Zh X f (rI0 λi j=>.int (g i j))):Wb X f (gP λi j=>.int (g i j)) :=
 Wb.of h λP H x y v u Q e d z=>by let⟨i,j,g,f,q⟩:=rQ z;subst g f;calc⟨i,j,e.VQ,d.VQ,au.refl H,_,Den.int _,q⟩
def Wb.ofB0{g:Int->Int->Bool}(h:Zh X f (rI0 λi j=>.bl (g i j))):Wb X f (gP λi j=>.bl (g i j)) :=
 Wb.of h λP H x y v u Q e d z=>by let⟨i,j,g,f,q⟩:=rQ z;subst g f;calc⟨i,j,e.VQ,d.VQ,au.refl H,_,Den.bl _,q⟩
def QB:Wb X (binaryOp .Add) (gP λi j=>.int (i+j)):=Wb.ofI0 QJ
def aO:Wb X (binaryOp .Sub) (gP λi j=>.int (i - j)):=Wb.ofI0 QM
def d6:Wb X (compareOp .Lt) (gP λi j=>.bl (decide (i<j))):=Wb.ofB0 Sn
def vM:Wb X (compareOp .LtE) (gP λi j=>.bl (decide (i<=j))):=Wb.ofB0 Sm
def jS:Wb X (compareOp .Gt) (gP λi j=>.bl (decide (j<i))):=Wb.ofB0 Sk
def Sg:Wb X (compareOp .GtE) (gP λi j=>.bl (decide (j<=i))):=Wb.ofB0 Sj
def Bd(n:Nat)(x:Int):Prop:=x.natAbs<2 ^ n
def Bd.mono{n:Nat}(h:Bd m x)(l:m<=n):Bd n x:=XG h (zCj 23 l)
def Bd.mul(h:Bd m x)(h':Bd n y):Bd (m+n) (x*y):=by unfold Bd at *;rw[zCD,Nat.pow_add];calc Nat.mul_lt_mul'' h h'
def Bd.add(h:Bd m x)(h':Bd m y):Bd (m+1) (x+y):=by
 unfold Bd at *;rw[zCT];have:=Int.natAbs_add_le x y
 lia
def Bd.sub(h:Bd m x)(h':Bd m y):Bd (m+1) (x - y):=by
 unfold Bd at *;rw[zCT];have:=Int.natAbs_sub_le x y
 lia
def Bd.neg(h:Bd m x):Bd m (-x):=by
 unfold Bd at *
 cbv
def Bd.bits(h:Bd n x):Builtin.Int.intBits x<=n:=by
 ext Builtin.Int.intBits;split
 lia
 let d:x.natAbs≠0:=47
 have:=(Nat.log2_lt d).mpr h
 lia
def CM(i j:Int):Prop:=Bd 64 i∨Bd 64 j∨(Bd 100000 i/\Bd 100000 j)
def CM.ok(h:CM i j):IntMulOk i j:=by
 obtain h|h|⟨h,d⟩:=h;calc .of_left h.bits;calc .of_right h.bits;calc .of_bits (Xb h.bits 23) (Xb d.bits 23)
def Nq:Zh X (binaryOp .Mult) (rI CM λi j=>.int (i*j)):=opI λ_ _ _ _ _ _ _ d q=>mul_int q d.ok
def az:Wb X (binaryOp .Mult) (rdI CM λi j=>.int (i*j)):=Wb.ofI Nq
def CD(_:Int)(j:Int):Prop:=j≠0/\Bd 8000 j
def CD.noPy(h:CD i j):Builtin.divisionGoesByPylong i j=false:=by
 calc PyProof.noPylong_of_log2 ?_;let d:j.natAbs≠0:=λe=>h.1 (Int.natAbs_eq_zero.mp e)
 have:=(Nat.log2_lt d).mpr h.2
 lia
def Kq:Zh X (binaryOp .FloorDiv) (rI CD λi j=>.int (i.fdiv j)):=opI λ_ _ _ _ _ _ _ d q=>floordiv_int d.1 q (.inl d.noPy)
def bB:Wb X (binaryOp .FloorDiv) (rdI CD λi j=>.int (i.fdiv j)):=Wb.ofI Kq
def aN:Wb X (binaryOp .Mod) (rdI (λ_ j=>j≠0) λi j=>.int (i.fmod j)):=Wb.ofI Np
def dD:Wb X (binaryOp .Pow) (rdI tE λi j=>.int (i ^ j.toNat)):=Wb.ofI QL
def dB(t:DE):DT:=λd Q=>t d λx=>blQ x Q
def fF{d:CmpOp}{r:RD2}(o:Wb X (compareOp d) r)(i:Ul X a ta)(e:Ul X b tb)(p:behindInMarks d b=false:=by first|calc Bv _ 23 23|rfl):Ul X (.Compare a [d] [b] pos) (dOp r ta tb):=by intro d s g H W t Q I f h;calc wpAny_Compare1 (EY i e I f h λh i j v u x y s r e k l n m q=>?_) p;calc T9 (o d j g s W x y v u h i Q r (f.same e).tracked k l n m q) λ_ _ z=>z.up e
def aH(G:Wb X (compareOp op) r)(N:Ul X a ta)(M:Ul X b tb)(J:behindInMarks op b=false:=by first|calc Bv _ 23 23|rfl):ZX X (.Compare a [op] [b] pos) (dB (dOp r ta tb)):=by
 intro e s f H W m Q I g h;refine wpAny_isTrue_Compare1 (T9 (N e s f H W m _ I g h) λk p ⟨v,H1,x,Y,q,l,E,B⟩=>T9 (M e p f H1 W m _ Y (g.same l) B) λn o ⟨u,H2,y,U,t,j,C,A⟩=>
  T9 (G e o f H2 W x y v u k n _ U ((g.same l).same j).tracked q t (E.same j) C A) λc s3 ⟨z,H3,d,T,w,O,L,i⟩=>?_) J
 let⟨k,n,i⟩:=pZ i;subst n;let d:=L.bl_;subst d;cases w;calc zBt ⟨H3,T,l.trans (j.trans O),i⟩
def jb(h:Ul X e t)(j:∀d,isTrue e X.env d=(do let v←d;standAt e.pos;holding [v] (truthy v)):=by intro _;rfl):ZX X e (dB t):=by intro d s e H W f Q I g i;calc isTrue_plain (T9 (h d s e H W f _ I g i) λl m e=>?_) (j _);let⟨v,i,x,h,d,g,f,q⟩:=e;let⟨k,e,q⟩:=pZ q;subst e;let e:=f.bl_;subst e;cases d;calc zBt ⟨i,h,g,q⟩
variable{tA tB':DT}{rest:yai}
def OL(t u:DT):DT:=λd Q=>t d λc=>if c=true then u d Q else Q false
def dOr(t u:DT):DT:=λd Q=>t d λc=>if c=true then Q true else u d Q
def OT(t:DT):DT:=λd Q=>t d λc=>Q (!c)
def xk(i:ZX X a tA):PWD X (.BoolOp .And [a] pos) tA:=by
 intro j d s e H W f Q I g h;calc isTrue_and (T9 (i d s e H W f Q I g h) λc k e=>?_);cases c with
 |true=>calc isTrue_and_nil e
 |false=>calc e
def vf(i:ZX X a tA):PWD X (.BoolOp .Or [a] pos) tA:=by
 intro j d s e H W f Q I g h;calc isTrue_or (T9 (i d s e H W f Q I g h) λc k e=>?_);cases c with
 |false=>calc isTrue_or_nil e
 |true=>calc e
def AV(e:ZX X a tA)(n:PWD X (.BoolOp .And (b::rest) pos) tB'):PWD X (.BoolOp .And (a::b::rest) pos) (OL tA tB'):=by
 intro l d s f H W g Q I i h;calc isTrue_and (T9 (e d s f H W g _ I i h) λc m o=>?_);let⟨k,j,e,h⟩:=o;cases c with
 |true=>calc T9 (n l d m f k W g Q j (i.same e) h) λ_ _ g=>(by let⟨l,i,f,d⟩:=g;calc⟨l,i,e.trans f,d⟩)
 |false=>calc⟨k,j,e,h⟩
def zN(e:ZX X a tA)(n:PWD X (.BoolOp .Or (b::rest) pos) tB'):PWD X (.BoolOp .Or (a::b::rest) pos) (dOr tA tB'):=by
 intro l d s f H W g Q I i h;calc isTrue_or (T9 (e d s f H W g _ I i h) λc m o=>?_);let⟨k,j,e,h⟩:=o;cases c with
 |true=>calc⟨k,j,e,h⟩
 |false=>calc T9 (n l d m f k W g Q j (i.same e) h) λ_ _ g=>(by let⟨i,h,f,d⟩:=g;calc⟨i,h,e.trans f,d⟩)
def mG(i:ZX X a tA):ZX X (.UnaryOp .Not a pos) (OT tA):=by intro d s e H W f Q I g h;calc isTrue_not (T9 (i d s e H W f (λc=>Q (!c)) I g h) λ_ _ e=>(by let⟨a,b,c,d⟩:=e;calc⟨a,b,c,d⟩))
def Lf(ta tb:DE):DE:=λd Q=>ta d λx=>blQ x λc=>if c=true then tb d Q else Q (.bl false)
def Ta(ta tb:DE):DE:=λd Q=>ta d λx=>blQ x λc=>if c=true then Q (.bl true)else tb d Q
def Ll(ta:DE):DE:=λd Q=>ta d λx=>blQ x λc=>Q (.bl (!c))
def u7{op}(h:Ul X a t):Ul X (.BoolOp op [a] pos) t:=λd s e H W f Q I g i=>BoolOp_one (h d s e H W f Q I g i)
def u6(e:Ul X a ta)(p:Ul X (.BoolOp .And (b::rest) pos) tb):Ul X (.BoolOp .And (a::b::rest) pos) (Lf ta tb):=by
 intro d s g H W i Q I j h;calc BoolOp_and (T9 (e d s g H W i _ I j h) λq l n=>?_);let⟨v,k,x,h,m,f,o,e⟩:=n;let⟨c,n,e⟩:=pZ e;subst n;let n:=o.bl_;subst n;cases m;calc zBt ?_;cases c with
 |true=>calc T9 (p d l g k W i Q h (j.same f) e) λ_ _ z=>z.up f
 |false=>calc⟨.bl false,k,_,h,rfl,f,Den.bl _,e⟩
def Pd(i:Ul X a ta):Ul X (.UnaryOp .Not a pos) (Ll ta):=by intro d s e H W f Q I g h;calc UnaryOp_ (T9 (i d s e H W f _ I g h) λk l f=>?_);let⟨v,j,x,i,e,h,g,d⟩:=f;let⟨c,f,d⟩:=pZ d;subst f;let f:=g.bl_;subst f;cases e;calc not_of (zBt ⟨.bl (!c),j,_,i,rfl,h,Den.bl _,d⟩)
def dIf(t:DT)(ta tb:DE):DE:=λd Q=>t d λc=>if c=true then ta d Q else tb d Q
def nB(d:ZX X c tA)(o:Ul X a ta)(n:Ul X b tb):Ul X (.IfExp c a b pos) (dIf tA ta tb):=by
 intro e s g H W i Q I j h;calc wpAny_IfExp (T9 (d e s g H W i _ I j h) λd h p=>?_);let⟨m,l,f,k⟩:=p;cases d with
 |true=>calc T9 (o e h g m W i Q l (j.same f) k) λ_ _ z=>z.up f
 |false=>calc T9 (n e h g m W i Q l (j.same f) k) λ_ _ z=>z.up f
def ixQ(e:yar):Int->(D->Prop)->Prop
 |.ofNat n,Q=>match e[n]? with
  |some d=>Q d
  |none=>False
 |i,Q=>∃d,atI e i=some d/\Q d
def vD(f:yar)(i:Int)(Q:D->Prop):ixQ f i Q=∃d,atI f i=some d/\Q d:=by
 cases i with
 |ofNat n =>
  show(match f[n]? with
   |some d=>Q d
   |none=>False)=_
  by_cases h:n<#[f];let e:atI f (Int.ofNat n)=some f[n]:=bR (by simp[h])
  cbv
  rw[zCF 47];calc propext ⟨False.elim,λ⟨d,q,z⟩=>?_⟩;unfold atI ixN at q
  simp_all [TU,Int.natCast_nonneg,TM]
 |negSucc n=>rfl
def gQ:RD2:=λx y Q=>match x,y with
 |.tup d,.int i=>ixQ d i Q
 |.lst _ d,.int i=>ixQ d i Q
 |_,_=>False
def NI(h:gQ x y Q):∃e i d,(x=.tup e∨∃ t,x=.lst t e)/\y=.int i/\atI e i=some d/\Q d:=by unfold gQ at h;split at h;rw[vD]at h;let⟨d,h⟩:=h;calc⟨_,_,d,.inl rfl,rfl,h⟩;rw[vD]at h;let⟨d,h⟩:=h;calc⟨_,_,d,.inr ⟨_,rfl⟩,rfl,h⟩;calc h.elim
def Ao{K:yac}{P:yak}{H:Hp}{f:yar}{vs:yaq}{i:Int}{d:D}(h:aq K P H f vs)(e:atI f i=some d):∃v,atI vs i=some v/\Den K P H d v:=by
 unfold atI at e ⊢;rw[h.len];cases q:ixN #[f] i with
 |none=>cbv
 |some j =>
  rw[q]at e;calc h.get e
def ak(f:Ul X a ta)(e:Ul X b tb)(hs:L5 b:=by intro _ _;rfl):Ul X (.Subscript a b pos) (dOp gQ ta tb):=by
 intro g s C H W T Q I d h;refine Subscript_ (EY f e I d h λE G H v u x y h N e I J L f q=>?_)
 replace q:=NI q
 let⟨Y,i,d,l,j,M,q⟩:=q;subst j;let j:=f.VQ;subst j;let k:∀(f:V),Den X.K W.bad h d f->au h h/\∃d,Den X.K W.bad h d f/\Q d:=by grind [au.refl]
 obtain l|⟨U,l⟩:=l;subst l;let⟨p,o,u,s,t⟩:=L.YF;subst u;let⟨f,y,x⟩:=Ao t M;exact T9 (Qn a b g H C h _ _ E G (λf m=>au h m/\∃d,Den X.K W.bad m d f/\Q d) N I J ⟨p,o,i,f,rfl,rfl,s.w,y,k f x⟩ (hs _ _))
  λ_ O z=>(by let⟨n,B,A,q,w,d,j,r⟩:=z;calc⟨n,B,d,A,q,e.trans w,j,r⟩)
 subst l;let⟨p,o,u,_,s,t⟩:=L.Xd;subst u;let⟨f,y,x⟩:=Ao t M;exact T9 (MQ a b g H C h _ _ E G (λf m=>au h m/\∃d,Den X.K W.bad m d f/\Q d) N I J ⟨p,o,i,f,rfl,rfl,s,y,k f x⟩ (hs _ _))
  λ_ O z=>(by let⟨n,B,A,q,w,d,j,r⟩:=z;calc⟨n,B,d,A,q,e.trans w,j,r⟩)
end
section
variable{X:Cx}{e:Expr}{es:yai}{te:DE}{t:DA}{pos:Pos}
def AM:DA:=λ_ Q=>Q []
def uZ(c:DE)(b:DA):DA:=λa Q=>c a λx=>b a λa=>Q (x::a)
def af:Zi X [] AM:=λ_ _ _ _ H W a Q I _ h=>Calls.spliced_nil ⟨[],H,[],I,.nil,au.refl H,aq.nil,h⟩
def aa(f:Ul X e te)(k:Zi X es t)(hs:starEach (e::es) X.env=(false,eval e X.env)::starEach es X.env:=by rfl):Zi X (e::es) (uZ te t):=by intro pos a s b H W c Q I d h;rw[hs];show wpAny _ _ (spliced ((false,eval e X.env)::backTo pos (starEach es X.env))) _ _ s;calc Calls.spliced_cons (T9 (f a s b H W c _ I d h) λu g l=>?_);let⟨v,n,x,m,h,f,j,i⟩:=l;calc T9 (k pos a g b n W c _ m (d.same f) i) λo p k=>(by let⟨d,m,c,l,g,b,a,i⟩:=k;calc⟨v::d,m,x::c,l,.cons h g,f.trans b,aq.cons (j.same b) a,i⟩)
theorem au.upd{H:Hp}(h:H p=none)(n:NT o:=by calc True.intro):au H (upd H p o):=⟨λb u e _=>by rw[aC 33];lia,λb a e=>⟨#[],by rw[aC 33,e];simp⟩,fJ.upd n (.inl h)⟩
def O6(t:DA):DE:=λa Q=>t a λa=>#[a]<=sizeLine/\Q (.tup a)
def JB(t:DA):DE:=λa Q=>t a λa=>#[a]<=sizeLine/\Q (.lst true a)
def bf{x1}(h:Zi X es t):Ul X (.Tuple es x1 pos) (O6 t):=by intro a s b H W c Q I d f;calc wpAny_Tuple_spliced (T9 (h pos a s b H W c _ I d f) λh a c=>?_);let⟨g,f,j,b,r,i,d,z,q⟩:=c;rw[<- d.len]at z;calc⟨by rw[<- #[r]];calc z,?_⟩;let c:f a.heap.objs.size=none:=b.Uk.fresh 33;calc⟨.ref a.heap.objs.size,L2.upd f a.heap.objs.size (.tup g),_,b.laid (t':=a.toks) (λb u e=>VX _ e) 33 ⟨z,h,r,⟨_,Xg _ rfl,rfl,_,rfl⟩⟩,rfl,i.trans (au.upd c),Den.tup (VD.of aW) (d.same (au.upd c)),q⟩
theorem Inv.Xl(I:Inv X pins σ H s):X.K.lookup s.heap.objs.size=none:=by
 cases e:X.K.lookup s.heap.objs.size with
 |none=>rfl
 |some o=>calc absurd (U5 (I.Zq _ _ e)) (zBs _)
def eE(h:Zi X es t):Ul X (.List es pos) (JB t):=by
 intro a s b H W c Q I f d;calc wpAny_List_spliced (T9 (h pos a s b H W c _ I f d) λj a c=>?_);let⟨i,b,k,d,r,h,g,z,q⟩:=c;rw[<- g.len]at z;calc⟨by rw[<- #[r]];calc z,?_⟩;let c:b a.heap.objs.size=none:=d.Uk.fresh 33;exact⟨.ref a.heap.objs.size,L2.upd b a.heap.objs.size (.lst i),_,d.laid (t':=a.toks) (λb u e=>VX _ e) 33 ⟨z,j,0,r,Xg _ rfl⟩,rfl,h.trans (au.upd c),
  Den.lst ((f.same h).fresh c) (.new aW (Inv.Xl d)) (g.same (au.upd c)),q⟩
end
abbrev DSp:=yar->(D->Prop)->(Value->Prop)->Prop
def aD(K:yac)(sp:DSp):Sp:=λd H Q E=>∃(P:Addr->Prop) (b:yar) (c:D->Prop) (e:Value->Prop),jw K H/\(∀a,P a->∃o,H a=some o)/\aq K (λt a=>t=true∨P a) H b d/\sp b c e ∧
 (∀d v b,au H b->Den K (λt a=>P a∨(t=true/\∃o,H a=some o)) b d v->c d->Q v b)/\∀c a b,au H b->e c->E c a b
mutual
def aJ:D->D
 |.tup a=>.tup (aV a)
 |.lst _ a=>.lst false (aV a)
 |.obj C b a=>.obj C b (aV a)
 |.ZK=>.ZK
 |.Zs b a=>.Zs b (aV a)
 |.UE=>.UE|.bl b=>.bl b|.int i=>.int i|.str x=>.str x|.exc c=>.exc c
def aV:yar->yar
 |[]=>[]
 |d::a=>aJ d::aV a
end
section
variable{K:yac}{P:yak}{P':Addr->Prop}{H:Hp}
mutual
theorem Den.aJ(h:∀t a,P' a->P t a):∀(d:D) (v:V),Den K P H d v->Den K (λt a=>t=true∨P' a) H (PD.aJ d) v
 |.UE,_,q=>by simpa only[Den,PD.aJ]using q
 |.bl _,_,q=>by simpa only[Den,PD.aJ]using q
 |.int _,_,q=>by simpa only[Den,PD.aJ]using q
 |.str _,_,q=>by simpa only[Den,PD.aJ]using q
 |.exc _,_,q=>by simpa only[Den,PD.aJ]using q
 |.tup f,_,q=>by simp only[Den,PD.aJ]at q ⊢;let⟨a,b,e,d,c⟩:=q;calc⟨a,b,e,d,aq.aJ h f b c⟩
 |.obj C i f,_,q=>by simp only[Den,PD.aJ]at q ⊢;let⟨a,g,b,e,d,l,k,c⟩:=q;calc⟨a,g,b,e,d,l,k,aq.aJ h f b c⟩
 |.ZK,_,q=>by simpa only[Den,PD.aJ]using q
 |.Zs j f,_,q=>by simp only[Den,PD.aJ]at q ⊢;let⟨a,o,g,b,e,d,l,k,c⟩:=q;calc⟨a,o,g,b,e,d,l,k,aq.aJ h f b c⟩
 |.lst t f,_,q=>by simp only[Den,PD.aJ]at q ⊢;let⟨a,b,e,p,d,c⟩:=q;calc⟨a,b,e,λz=>z.elim (λz=>by cases z) λz=>p (h t a z),.any d.1,aq.aJ h f b c⟩
theorem aq.aJ(h:∀t a,P' a->P t a):∀(b:yar) (vs:yaq),aq K P H b vs->aq K (λt a=>t=true∨P' a) H (PD.aV b) vs
 |[],_,q=>by simpa only[aq,PD.aV]using q
 |d::b,_,q=>by simp only[aq,PD.aV]at q ⊢;let⟨v,r,e,c,a⟩:=q;calc⟨v,r,e,Den.aJ h d v c,aq.aJ h b r a⟩
end
end
def Den.back{K:yac}{W:Own}{H H':Hp}{d:D}{v:V}(b:∀t a,W.bad t a->∃o,H a=some o)(h:Den K (λt a=>W.bad false a∨(t=true/\∃o,H a=some o)) H' d v):Den K W.bad H' d v :=
 h.UG λt a z=>by
  cases t with
  |false=>calc .inl z
  |true=>calc .inr ⟨rfl,b true a z⟩
section
variable{X:Cx}{CX:CXT}{k:Nat}{f:Addr}{fd:FuncData}{ps:yah}{sp:DSp}{x:Str}{p pos:Pos}{e:Expr}{es:yai}{t:DA}
def uY(sp:DSp)(dds:yar)(t:DA):DE:=λa Q=>t a λa=>sp (aV a++dds) Q λ_=>False
def qk:D->V
 |.UE=>.UE|.bl b=>.bl b|.int i=>.int i|.str x=>.str x|_=>.UE
def wo:D->Prop
 |.tup _=>False|.lst _ _=>False|.exc _=>False|.obj _ _ _=>False|.ZK=>False|.Zs _ _=>False|_=>True
theorem aq.xQ{K:yac}{P:yak}{H:Hp}:∀{dds:yar},(∀d∈dds,wo d)->aq K P H dds (dds.map qk)
 |[],_=>aq.nil
 |d::r,h=>by
  calc aq.cons ?_ (aq.xQ λx a=>h x (W9 _ a));have:=h d ZN;cases d with
  |UE=>calc Den.UE
  |bl b=>calc Den.bl b
  |int i=>calc Den.int i
  |str x=>calc Den.str x
  |tup _=>calc this.elim
  |lst _ _=>calc this.elim
  |exc _=>calc this.elim
  |obj _ _ _=>calc this.elim
  |ZK=>calc this.elim
  |Zs _ _=>calc this.elim
def Sx{dds:yar}(F:aA X.prog X.w X.K X.mg X.base CX k f fd ps (aD X.K sp))(g:bH k X.A)(i:Binds X.K fd ps dsv)(h:Vals (dds.map qk) dsv)(hs:∀d∈dds,wo d)(c:Passes CX X E0)
 (I:Inv X pins σ H s) (a:Rel X W H σ ρ) (r:Vals vs us) (j:aq X.K W.bad H ds vs)
  (q:sp (aV ds++dds) Q λ_=>False):wpAny (model X.prog X.w) X.A (call (.ref f) us) (DP X pins σ W H Q) X.xe s:=by
 refine T9 (Q6 (Q:=λv b=>au H b/\∃d,Den X.K W.bad b d v/\Q d) F g i h c I r ⟨W.bad false,aV ds++dds,Q,λ_=>False,a.tab,a.tracked false,(aq.aJ (λ_ _=>Own.Zx) ds vs j).append (aq.xQ hs),q,λd v b e c b=>⟨e,d,Den.back a.tracked c,b⟩,λ_ _ _ _ z=>z.elim⟩)
  λu l h=>(by let⟨v,j,i,a,g,d,c,b⟩:=h;calc⟨v,j,d,i,a,g,c,b⟩)
def AO{dds:yar}(F:aA X.prog X.w X.K X.mg X.base CX k f fd ps (aD X.K sp))(i:bH k X.A)(m:Gl X x)(j:X.mg x=some (.ref f))(l:PySem.W.keepIn X.K (.ref f)=true)(u:Binds X.K fd ps dsv)(o:Vals (dds.map qk) dsv)(hs:∀d∈dds,wo d)(g:Passes CX X E0)
  (q:Zi X (e::es) t) (r:(x==("__debug__" : Str))=false:=by decide) (n:starEach (e::es) X.env=(false,eval e X.env)::starEach es X.env:=by rfl) (w:(backTo pos (starEach es X.env)).any (·.1)=false:=by rfl) :
  Ul X (.Call (.Name x p) (e::es) [] pos) (uY sp dds t):=by
 intro a s c H W d Q I b h;calc zBh (rL I m j ?_ r);calc PySem.W.callWith_K (h₀:=X.base) I.ok.mod.YB l (T9 (q pos a s c H W d _ I b h) λA B ⟨y,H1,C,c,r,a,d,q⟩=>⟨c.Zq,?_⟩) n w;calc T9 (Sx F i u o hs g c (b.same a) r d q) λ_ _ z=>z.up a
def dCB(r:yar->(D->Prop)->Prop)(t:DA):DE:=λa Q=>t a λa=>r a Q
def c7(X:Cx)(f:Value)(r:yar->(D->Prop)->Prop):Prop :=
 ∀ (b:yab) (s:Shared) (c:St) (H:Hp) (W:Own) (h:yar) (d:yaq) (g:yad) (Q:D->Prop),Inv X b c H s->(∀t a,W.bad t a->∃o,H a=some o)->Vals d g->aq X.K W.bad H h d->r h Q →
  wpAny (model X.prog X.w) X.A (call f g) (DP X b c W H Q) X.xe s
def c7.of{f:Value}{rd:yar->(D->Prop)->Prop}(h:uN X f r)(k:∀P H b vs Q,(∀t a,P t a->∃o,H a=some o)->aq X.K P H b vs->rd b Q->r vs H λc H'=>au H H'/\∃d',Den X.K P H' d' c/\Q d'):c7 X f rd:=by intro a s d H W b vs g Q I i r c q;calc T9 (h a s d H vs g _ I r (k _ H b vs Q i c q)) λ_ m i=>(by let⟨a,l,j,b,h,d,c,g⟩:=i;calc⟨a,l,d,j,b,h,c,g⟩)
variable{id T:String}{r:yar->(D->Prop)->Prop}
def aP (m:c7 X (.builtin id) r) (j:Gl X x) (i:X.mg x=none) (hv:bootBuiltins x=some (.builtin id)) (l:Zi X (e::es) t) (g:x ≠ "__name__" := by decide) (n:(x==("__debug__" : Str))=false:=by decide)
  (o:starEach (e::es) X.env=(false,eval e X.env)::starEach es X.env:=by rfl) (u:(backTo pos (starEach es X.env)).any (·.1)=false:=by rfl) :
  Ul X (.Call (.Name x p) (e::es) [] pos) (dCB r t):=by
 intro a s b H W d Q I c h;calc zBh (dm I j i hv ?_ g n);calc PyProof.Rows.callWith_builtin1 (T9 (l pos a s b H W d _ I c h) λh i s=>(by let⟨g,y,n,w,j,d,l,q⟩:=s;calc T9 (m a i b y W n g h Q w (c.same d).tracked j l q) λ_ _ z=>z.up d)) o u
def qe (m:c7 X (.type T) r) (j:Gl X x) (i:X.mg x=none) (hv:bootBuiltins x=some (.type T)) (l:Zi X (e::es) t) (g:x ≠ "__name__" := by decide) (n:(x==("__debug__" : Str))=false:=by decide)
  (o:starEach (e::es) X.env=(false,eval e X.env)::starEach es X.env:=by rfl) (u:(backTo pos (starEach es X.env)).any (·.1)=false:=by rfl) :
  Ul X (.Call (.Name x p) (e::es) [] pos) (dCB r t):=by
 intro a s b H W d Q I c h;calc zBh (dm I j i hv ?_ g n);calc PyProof.Rows.callWith_type1 (T9 (l pos a s b H W d _ I c h) λh i s=>(by let⟨g,y,n,w,j,d,l,q⟩:=s;calc T9 (m a i b y W n g h Q w (c.same d).tracked j l q) λ_ _ z=>z.up d)) o u
end
mutual
noncomputable def Xu:D->PyData
 |.UE=>.none
 |.bl b=>.bool b
 |.int i=>.int i
 |.str x=>.str x
 |.tup a=>.tuple (dE a)
 |.lst _ a=>.list (dE a)
 |.exc _=>.none
 |.obj _ _ _=>.none
 |.Zs _ _=>.none
 |.ZK=>.none
noncomputable def dE:yar->List PyData
 |[]=>[]
 |d::a=>Xu d::dE a
end
mutual
def plD:D->Bool
 |.tup a=>qw a
 |.lst _ a=>qw a
 |.exc _=>false
 |.obj _ _ _=>false
 |.Zs _ _=>false
 |.ZK=>false
 |_=>true
def qw:yar->Bool
 |[]=>true
 |d::a=>plD d && qw a
end
def eqD(x y:D):Bool:=PyData.eqv (Xu x) (Xu y)
def okD(x:D):Prop:=plD x=true/\SeqAt.shaped (Xu x)=true
section
variable{X:Cx}{pins:yab}{σ:St}{H:Hp}{s:Shared}{P:yak}
mutual
theorem eF(I:Inv X pins σ H s):∀(d:D) (v:V) (u:Value),Den X.K P H d v->RelV v u->plD d=true->∃c,Reads s.heap u (Xu d) c
 |.UE,_,_,h,r,_=>by let e:=h.non_;subst e;cases r;rw[Xu];calc⟨_,.none⟩
 |.bl b,_,_,h,r,_=>by let e:=h.bl_;subst e;cases r;rw[Xu];calc⟨_,.bool b⟩
 |.int i,_,_,h,r,_=>by let e:=h.VQ;subst e;let⟨t,rfl⟩:=r;rw[Xu];calc⟨_,.int i t⟩
 |.str x,_,_,h,r,_=>by let e:=h.str_;subst e;let⟨t,rfl⟩:=r;rw[Xu];calc⟨_,.str x t⟩
 |.tup m,_,_,h,r,b=>by rw[plD]at b;let⟨a,d,e,g,i⟩:=h.YF;subst e;cases r;let⟨p,f,⟨o,l,k,n,j⟩,_⟩:=I.tuple g.w;let⟨c,q⟩:=nF I m d p i f b;rw[Xu];calc⟨c,reads_tuple_at l k j (by simpa using q)⟩
 |.lst _ m,_,_,h,r,b=>by rw[plD]at b;let⟨a,d,e,_,g,i⟩:=h.Xd;subst e;cases r;let⟨p,f,⟨o,n,l,k,_,j⟩,_⟩:=I.list g;let⟨c,q⟩:=nF I m d p i f b;rw[Xu];calc⟨_,reads_list_at l k j (by simpa using q)⟩
 |.exc _,_,_,_,_,b=>by rw[plD]at b;cases b
 |.obj _ _ _,_,_,_,_,b=>by rw[plD]at b;cases b
 |.Zs _ _,_,_,_,_,b=>by rw[plD]at b;cases b
 |.ZK,_,_,_,_,b=>by rw[plD]at b;cases b
theorem nF(I:Inv X pins σ H s):∀(a:yar) (vs:yaq) (b:yad),aq X.K P H a vs->Vals vs b->qw a=true->∃c,ReadsAll s.heap b (dE a) c
 |[],_,_,h,r,_=>by simp only[aq]at h;subst h;cases r;rw[dE];calc⟨_,.nil⟩
 |d::a,_,_,h,r,b=>by
  rw[qw,zB0]at b;simp only[aq]at h;let⟨v,j,rfl,i,g⟩:=h;cases r with
  |cons f e =>
   let⟨c,q⟩:=eF I d v _ i f b.1;let⟨k,c⟩:=nF I a _ _ g e b.2;rw[dE];calc⟨_,.cons q c⟩
end
def QZ:RD2:=λx y Q=>okD x/\okD y/\Q (.bl (eqD x y))
def Q3:RD2:=λx y Q=>okD x/\okD y/\Q (.bl (!eqD x y))
def LA(j:X.A.units+64<cLine):Wb X (compareOp .Eq) QZ:=by intro pins s σ H W x y v u c d Q I _ e f i h q;let⟨b,a,q⟩:=q;let⟨l,g⟩:=eF I x v c i e b.1;let⟨k,c⟩:=eF I y u d h f a.1;calc eq_dataH g c b.2 a.2 j ⟨.bl _,H,_,I,rfl,au.refl H,Den.bl _,q⟩
def vN(j:X.A.units+64<cLine):Wb X (compareOp .NotEq) Q3:=by intro pins s σ H W x y v u c d Q I _ e f i h q;let⟨b,a,q⟩:=q;let⟨l,g⟩:=eF I x v c i e b.1;let⟨k,c⟩:=eF I y u d h f a.1;calc ne_dataH g c b.2 a.2 j ⟨.bl _,H,_,I,rfl,au.refl H,Den.bl _,q⟩
def bI:Wb X (compareOp .Eq) (gP λi j=>.bl (decide (i=j))):=Wb.of Si λP H x y v u Q d c z=>by
 let⟨i,j,f,e,q⟩:=rQ z;subst f e;let a:=d.VQ;let b:=c.VQ;subst a b;refine⟨rfl,au.refl H,_,Den.bl _,?_⟩
 cbv
def mS:Wb X (compareOp .NotEq) (gP λi j=>.bl (!decide (i=j))):=Wb.of So λP H x y v u Q d c z=>by
 let⟨i,j,f,e,q⟩:=rQ z;subst f e;let a:=d.VQ;let b:=c.VQ;subst a b;refine⟨rfl,au.refl H,_,Den.bl _,?_⟩
 cbv
def iW:D->Bool
 |.UE=>true
 |_=>false
def yF{K:yac}{d:D}{v:V}(h:Den K P H d v):decide (v=.UE)=iW d:=by
 cases d with
 |UE=>have:=h.non_;subst this;rfl
 |bl b=>have:=h.bl_;subst this;rfl
 |int b=>have:=h.VQ;subst this;rfl
 |str b=>have:=h.str_;subst this;rfl
 |tup d=>let⟨a,b,e,_⟩:=h.YF;subst e;rfl
 |lst _ d=>let⟨a,b,e,_⟩:=h.Xd;subst e;rfl
 |exc c=>let⟨a,e,_⟩:=h.exc_;subst e;rfl
 |obj C f d=>let⟨a,i,b,e,_⟩:=h.obj_;subst e;rfl
 |ZK=>let⟨a,e,_⟩:=h.dic_;subst e;rfl
 |Zs g d=>let⟨a,_,_,b,e,_⟩:=h.dik_;subst e;rfl
def QC:Wb X (compareOp .Is) (λx y Q=>y=.UE/\Q (.bl (iW x))):=Wb.of QK λP H x y v u Q b a ⟨e,q⟩=>by
 subst e;calc⟨a.non_,au.refl H,_,Den.bl _,?_⟩;rw[yF b]
 lia
def M8:Wb X (compareOp .IsNot) (λx y Q=>y=.UE/\Q (.bl (!iW x))):=Wb.of Nr λP H x y v u Q b a ⟨e,q⟩=>by
 subst e;calc⟨a.non_,au.refl H,_,Den.bl _,?_⟩;rw[yF b]
 lia
end
section
variable{X:Cx}
def p4:c7 X (.builtin "abs") (λa Q=>∃i:Int,a=[.int i]/\Q (.int (i.natAbs:Int))):=c7.of Jv λP H a a Q _ b ⟨i,e,q⟩=>by
 subst e;obtain⟨v,r,rfl,d,c⟩:∃v r,a=v::r/\Den X.K P H (.int i) v/\aq X.K P H [] r:=by simpa only[aq]using b
 let b:=d.VQ;let a:r=[]:=by simpa only[aq]using c
 subst b a;refine⟨i,rfl,au.refl H,_,Den.int _,?_⟩
 lia
def va{K:yac}{P:yak}{H:Hp}{x y:D}{vs:yaq}(h:aq K P H [x,y] vs):∃v u,vs=[v,u]/\Den K P H x v/\Den K P H y u:=by simp only[aq]at h;let⟨v,r,e,c,u,f,d,b,a⟩:=h;subst d a e;calc⟨v,u,rfl,c,b⟩
def jQ{K:yac}{P:yak}{H:Hp}{x:D}{vs:yaq}(h:aq K P H [x] vs):∃v,vs=[v]/\Den K P H x v:=by simp only[aq]at h;let⟨v,r,e,a,b⟩:=h;subst b e;calc⟨v,rfl,a⟩
def OD (c:X.calm=true):c7 X (.builtin "max") (λa Q=>∃i j:Int,a=[.int i,.int j]/\Q (.int (max i j))):=c7.of (GJ c) λP H a k Q _ b ⟨i,j,e,q⟩=>by
 subst e;let⟨v,u,rfl,f,d⟩:=va b;let h:=f.VQ;let g:=d.VQ;subst h g;calc⟨i,j,rfl,au.refl H,_,Den.int _,?_⟩;have:(if j > i then j else i)=max i j:=by split<;>lia
 rw[this];calc q
def Bk(a:yar)(Q:D->Prop):Prop:=match a with
 |[.lst _ a]=>Q (.int (#[a]:Int))
 |[.tup a]=>Q (.int (#[a]:Int))
 |_=>False
theorem Qs(t:Bool)(xs:yar)(Q:D->Prop):Bk [.lst t xs] Q=Q (.int (#[xs]:Int)):=rfl
theorem HA(xs:yar)(Q:D->Prop):Bk [.tup xs] Q=Q (.int (#[xs]:Int)):=rfl
def MV(h:Bk ds Q):∃xs,((∃t,ds=[.lst t xs])∨ds=[.tup xs])/\Q (.int (#[xs]:Int)):=by unfold Bk at h;split at h;calc⟨_,.inl ⟨_,rfl⟩,h⟩;calc⟨_,.inr rfl,h⟩;calc h.elim
def bU:c7 X (.builtin "len") Bk:=c7.of As λP H l j Q _ g h=>by
 let⟨i,e,q⟩:=MV h;rcases e with⟨k,e⟩| e;subst e;let⟨v,rfl,f⟩:=jQ g;let⟨a,b,e,_,d,c⟩:=f.Xd;subst e;calc⟨a,b,rfl,.inl d,au.refl H,_,Den.int _,?_⟩;rw[c.len];calc q;subst e;let⟨v,rfl,f⟩:=jQ g;let⟨a,b,e,d,c⟩:=f.YF;subst e;calc⟨a,b,rfl,.inr d.w,au.refl H,_,Den.int _,?_⟩;rw[c.len];calc q
def Au:c7 X (.type "int") (λa Q=>(∃i:Int,a=[.int i]/\Q (.int i))∨∃ k:Bool,a=[.bl k]/\Q (.int (if k then 1 else 0))):=c7.of GI λP H a d Q _ c h=>by
 rcases h with⟨i,e,q⟩| ⟨k,e,q⟩;subst e;let⟨v,rfl,a⟩:=jQ c;let b:=a.VQ;subst b;calc .inl ⟨i,rfl,au.refl H,_,Den.int _,q⟩;subst e;let⟨v,rfl,a⟩:=jQ c;let b:=a.bl_;subst b;calc .inr ⟨k,rfl,au.refl H,_,Den.int _,q⟩
noncomputable def tyD:D->String
 |.UE => "NoneType" | .bl _ => "bool" | .int _ => "int" | .str _ => "str" | .tup _ => "tuple" | .lst _ _ => "list" | .exc _ => "object" | .obj _ _ _ => "object" | .ZK => "dict" | .Zs _ _ => "dict"
def tyV:D->Value
 |.exc c=>.ref c
 |.obj C _ _=>.ref C
 |d=>.type (tyD d)
variable{e:Expr}{te:DE}{p p' pos:Pos}{T:String}{x:Str}
def MK(x:bO P w H h a (.ins C dx fs)):∃b,PySem.W.InstAt h a (PySem.W.instObj C dx) C (some b):=by let⟨d,z,c,a,f,n,r,q⟩:=x;let⟨b,g,_⟩:=Jk.look ⟨a,n,c⟩;grind
def JS{Q:yaa}{b:Bool}(I:Inv X pins σ H s)(h:Den X.K P H d v)(r:RelV v u)
  (e:PySem.W.kitOne X.K (tyV d) c=some b) (q:∀a,Q (.bool b) {s with toks:=a}):wpAny (model X.prog X.w) A (call (.builtin "isinstance") [u,c]) Q E s:=by
 cases d with
 |UE=>let z:=h.non_;subst z;cases r;calc PySem.W.kia_one PySem.W.kitx_none I.Zq True.intro e 33 q
 |bl y=>let z:=h.bl_;subst z;cases r;calc PySem.W.kia_one PySem.W.kitx_bool I.Zq True.intro e 33 q
 |int i=>let z:=h.VQ;subst z;let⟨t,rfl⟩:=r;calc PySem.W.kia_one PySem.W.kitx_int I.Zq True.intro e 33 q
 |str y=>let z:=h.str_;subst z;let⟨t,rfl⟩:=r;calc PySem.W.kia_one PySem.W.kitx_str I.Zq True.intro e 33 q
 |tup g =>
  let⟨a,c,z,b,_⟩:=h.YF;subst z;cases r;let⟨k,i,⟨o,f,d,n,j⟩,_⟩:=I.tuple b.w;calc PySem.W.kia_one PySem.W.kitx_tuple I.Zq ⟨o,f,d⟩ e 33 q
 |lst _ g =>
  let⟨a,c,z,_,b,_⟩:=h.Xd;subst z;cases r;let⟨k,i,⟨o,n,f,d,_,j⟩,_⟩:=I.list b;calc PySem.W.kia_one PySem.W.kitx_list I.Zq ⟨o,f,d⟩ e 33 q
 |exc G =>
  let⟨a,z,b,k⟩:=h.exc_;subst z;cases r;calc PySem.W.kia_one (JU k) I.Zq (I.Uk a _ b).1 e 33 q
 |obj C m g =>
  let⟨a,B,c,z,b,_,k,_⟩:=h.obj_;subst z;cases r;let⟨l,d⟩:=MK (I.Uk a _ b);calc PySem.W.kia_one (PySem.W.kitx_own k.pg k.hd k.at_ k.get k.takes k.obj) I.Zq d e 33 q
 |ZK =>
  let⟨a,z,b⟩:=h.dic_;subst z;cases r;calc PySem.W.kia_one PySem.W.kitx_dict I.Zq (I.Uk a _ b).1 e 33 q
 |Zs w g =>
  let⟨a,o,Vx,c,z,b,_⟩:=h.dik_;subst z;cases r;let⟨_,_,_,_,_,d,_,_,c,f,_⟩:=I.Uk a _ b;calc PySem.W.kia_one PySem.W.kitx_dict I.Zq ⟨d,c,f.1⟩ e 33 q
def CF(K:yac)(S T:String):PySem.W.kitOne K (.type S) (.type T)=if S=T then some true else if PySem.W.kitMeta T=true then(fastBuiltinMro S).map (·.contains (.type T))else none:=by
 ext PySem.W.kitOne PySem.W.kitCls PySem.W.subIn
 lia
def isT (T:String) (d:D):Bool:=tyD d==T || (tyD d == "bool" && T == "int")
def kit_ans (K:yac) (d:D) (h:∀c,d=.exc c->cZ K c) (g:∀C ns b,d=.obj C ns b->EO K C) (a:T = "int" ∨ T = "bool" ∨ T = "tuple" ∨ T = "list" ∨ T = "str"):PySem.W.kitOne K (tyV d) (.type T)=some (isT T d):=by
 by_cases f:∃c,d=.exc c;let⟨c,rfl⟩:=f;show PySem.W.kitOne K (.ref c) (.type T)=_;rw[(h c rfl).not T a];show _=some ("object" == T || ("object" == "bool" && T == "int"));obtain e|e|e|e|e:=a<;>subst e<;>decide +kernel;by_cases c:∃C ns b,d=.obj C ns b;let⟨C,ns,b,rfl⟩:=c;show PySem.W.kitOne K (.ref C) (.type T)=_;rw[(g C ns b rfl).not T a];show _=some ("object" == T || ("object" == "bool" && T == "int"));obtain e|e|e|e|e:=a<;>subst e<;>decide +kernel;let hv:tyV d=.type (tyD d):=by cases d<;>first|rfl|calc absurd ⟨_,rfl⟩ f|exact absurd ⟨_,_,_,rfl⟩ c
 rw[hv,CF];ext isT;let b:tyD d = "NoneType" ∨ tyD d = "bool" ∨ tyD d = "int" ∨ tyD d = "str" ∨ tyD d = "tuple" ∨ tyD d = "list" ∨ tyD d = "dict" := by cases d<;>first|calc absurd ⟨_,rfl⟩ f|calc absurd ⟨_,_,_,rfl⟩ c|simp[tyD]
 generalize tyD d=S at b ⊢;obtain e|e|e|e|e:=a<;>subst e<;>obtain e|e|e|e|e|e|e:=b<;>subst e<;>decide +kernel
def dIs(T:String)(te:DE):DE:=λa Q=>te a λd=>Q (.bl (isT T d))
def qg (o:Gl X "isinstance") (n:X.mg "isinstance" = none) (i:Gl X x) (g:X.mg x=none) (hv:bootBuiltins x=some (.type T)) (r:T = "int" ∨ T = "bool" ∨ T = "tuple" ∨ T = "list" ∨ T = "str") (q:Ul X e te)
  (m:x ≠ "__name__" := by decide) (t:(x==("__debug__" : Str))=false:=by decide)
  (j:starEach [e,.Name x p'] X.env=(false,eval e X.env)::starEach [.Name x p'] X.env:=by rfl) (d:starEach [.Name x p'] X.env=(false,eval (.Name x p') X.env)::starEach [] X.env:=by rfl) (c:(backTo pos (starEach [.Name x p'] X.env)).any (·.1)=false:=by rfl) :
  Ul X (.Call (.Name "isinstance" p) [e,.Name x p'] [] pos) (dIs T te):=by
 intro b s k H W l Q I a h;let f:PA X [e,.Name x p'] (F5 (Lx X te) (F5 (tC (.ty T)) Rf)):=rO q.pe (rO (Nv i g hv rfl m t) BF d) j;calc zBh (dm I o n boot_isinstance ?_ 23 23);calc PyProof.Rows.callWith_builtin1 (T9 (f pos b s k H (λi f=>∃v d,i=[v,.ty T]/\au H f/\Den X.K W.bad f d v/\Q (.bl (isT T d))) I ⟨W,l,_,a,h,λv f d h b g=>⟨v,d,rfl,h,b,g⟩⟩) λu w k=>?_) j c;let⟨i,f,i,c,v,d,j,h,b,g⟩:=k;subst j;cases c with
 |cons j a =>
  cases a with
  |cons c a =>
   cases a;cases(show _=Value.type T from c);calc JS i b j (kit_ans X.K d (λc z=>by subst z;calc b.exc_.choose_spec.2.2) (λC y A z=>by subst z;let⟨_,_,_,_,_,_,k,_⟩:=b.obj_;lia) r) λa=>⟨.bl _,f,_,i.tok a,rfl,h,Den.bl _,g⟩
end
section
variable{X:Cx}{pos:Pos}
def SPD.up(g:Vn W0 H0 W H)(h:SPD X pins W H E f s'):SPD X pins W0 H0 E f s':=by let⟨b,c,d,I,a,q⟩:=h;calc⟨b,c,d,I,g.trans a,q⟩
variable{st:Stmt}{rest:List Stmt}{t u:DS}{e:Expr}{te:DE}
def Lk:DS:=λE a=>E.nx a
def jx(t u:DS):DS:=λE a=>t {E with nx:=u E} a
def aI:da X [] Lk:=λ_ _ a H W b E I r h=>wpAny_execs_nil ⟨W,a,H,I,Vn.refl W H,b,r,h⟩
def ai(d:Yb X st t)(j:da X rest u):da X (st::rest) (jx t u):=by
 intro a s b H W c E I r h;calc wpAny_execs_cons (T9 (d a s b H W c {E with nx:=u E} I r h) λf i k=>?_);let⟨c,d,h,g,b,q⟩:=k;cases f with
 |next =>
  let⟨k,f,q⟩:=q;calc T9 (j a i d h c k E g f q) λ_ _ z=>z.up b
 |ret v=>calc⟨c,d,h,g,b,q⟩
 |brk=>calc⟨c,d,h,g,b,q⟩
 |cont=>calc⟨c,d,h,g,b,q⟩
def ao(d:Yb X st t):da X [st] t:=by intro a s b H W c E I r h;calc wpAny_execs_cons (T9 (d a s b H W c E I r h) λf g q=>?_);grind [wpAny_execs_nil]
def O0(te:DE):DS:=λE a=>te a E.rt
def ax(d:Ul X e te):Yb X (.Return (some e) pos) (O0 te):=by intro a s b H W c E I r h;calc wpAny_Return_some (T9 (d a s b H W c _ I r h) λu k h=>(by let⟨v,j,d,i,a,g,f,c⟩:=h;calc⟨W,b,j,i,Vn.same g,v,d,a,f,c⟩))
def Lh(te:DE):DS:=λE a=>te a λ_=>E.nx a
def DR(d:Ul X e te)(hs:swapsWith e none pos.line X.env=pure false:=by rfl):Yb X (.Expr e pos) (Lh te):=by intro a s b H W c E I r h;calc wpAny_Expr_any (T9 (d a s b H W c _ I r h) λu i f=>(by let⟨v,h,d,g,j,a,k,d⟩:=f;calc⟨W,b,h,g,Vn.same a,c,r.same a,d⟩)) I.quiet hs
def OQ(c:DT)(t u:DS):DS:=λE a=>c a λb=>if b=true then t E a else u E a
def aX(d:ZX X c tc)(l:da X a t)(k:da X b u):Yb X (.If c a b pos) (OQ tc t u):=by
 intro a s c H W f E I r h;calc wpAny_If (T9 (d a s c H W f _ I r h) λd g m=>?_);let⟨j,i,b,h⟩:=m;cases d with
 |true=>calc T9 (l a g c j W f E i (r.same b) h) λ_ _ z=>z.up (Vn.same b)
 |false=>calc T9 (k a g c j W f E i (r.same b) h) λ_ _ z=>z.up (Vn.same b)
def Rel.put{X:Cx}{i:Nat}(r:Rel X W H σ ρ)(f:i<#[σ])(c:Den X.K W.bad H d v):Rel X (W.drop i) H (σ.set i (some v)) (ρ.set i (some (.val d))) where
 val:=λj x h=>by
  by_cases a:j=i;subst a;calc⟨v,by simp[f],?_⟩;by_cases b:j<#[ρ];rw[zCP b]at h;cases h;exact c.UG λ_ _=>Own.Wm
  cbv
  rw[zAq (Ne.symm a)]at h;let⟨w,c,d⟩:=r.val j x h;exact⟨w,by simp_all [zAq,Ne.symm],d.UG λ_ _=>Own.Wm⟩
 own:=λj x h=>by
  by_cases a:j=i
  ·by_cases b:j<#[ρ]
   all_goals cbv
  rw[zAq (Ne.symm a)]at h;let⟨a,b,c,d,k,g⟩:=r.own j x h;exact⟨a,b,by show(if j=i then none else W.O j)=_;lia,by simp_all [zAq,Ne.symm],k,by rw[List.length_set];calc g.UG (λ_ _=>Own.Wm) (Own.ZW f)⟩
 inj:=λj k a c d=>by
  let b:(if j=i then none else W.O j)=some a:=c;let f:(if k=i then none else W.O k)=some a:=d;by_cases d:j=i
  lia
  by_cases g:k=i
  lia
  rw[TM d]at b;rw[TM g]at f;exact r.inj j k a b f
 kn:=λj a c=>by
  let b:(if j=i then none else W.O j)=some a:=c;by_cases d:j=i
  lia
  rw[TM d]at b;exact r.kn j a b
 ke:=λj a c=>by
  let b:(if j=i then none else W.O j)=some a:=c;by_cases d:j=i
  lia
  rw[TM d]at b;exact r.ke j a b
 bt:=r.bt
 st:=r.st
 ent:=r.ent
 tab:=r.tab
theorem Vn.drop(W:Own)(H:Hp)(i:Nat):Vn W H (W.drop i) H:=⟨rfl,rfl,33,λj a h=>by let b:(if j=i then none else W.O j)=some a:=h;grind,47,id⟩
def Inv.ilt{i:Nat}{x:Str}(I:Inv X pins σ H s)(a:X.N[i]?=some x):i<#[σ]:=by rw[I.len];grind
def E6(i:Nat)(te:DE):DS:=λE a=>te a λd=>E.nx (a.set i (some (.val d)))
def ay{x:Str}(i:Nat)(l:X.N.Nodup)(f:Ul X e te)(b:X.N[i]?=some x:=by rfl)(j:Loc X.env.scope x:=by first|calc Or.inl rfl|calc Or.inr rfl)(hs:swapsWith e (some (.Name x pos')) pos.line X.env=pure false:=by rfl)
  (k:X.fn x=true∨X.env.scope.names.lookup x=some .local:=by first|calc .inl rfl|calc .inr rfl|assumption):Yb X (.Assign [.Name x pos'] e pos) (E6 i te):=by
 intro a s c H W d E I r h;calc wpAny_Assign_Name (T9 (f a s c H W d _ I r h) λu o m=>?_) hs;let⟨v,f,d,c,d,a,h,g⟩:=m;calc gf c l b j d (λn d=>⟨W.drop i,_,f,d,(Vn.same a).trans (Vn.drop W f i),_,(r.same a).put (Inv.ilt c b) h,g⟩) k
def Yb.of{t:DS}(h:PS X st ts)(k:∀f H W ρ E,Rel X W H f ρ->#[f]=#[X.N]->t E ρ->ts ⟨(λc H'=>∃a b,Vn W H a H'/\Rel X a H' c b/\E.nx b),(λv H'=>∃a d,Vn W H a H'/\Den X.K a.bad H' d v/\E.rt d),
   (λc H'=>∃a b,Vn W H a H'/\Rel X a H' c b/\E.bk b),(λc H'=>∃a b,Vn W H a H'/\Rel X a H' c b/\E.ct b)⟩ f H):Yb X st t:=by
 intro g s f H W ρ E I r i;refine T9 (h g s f H _ I (k f H W ρ E r I.len i)) λf j q=>?_
 cases f with
 |next=>let⟨c,H',g,a,b,f,h,q⟩:=q;calc⟨a,c,H',g,f,b,h,q⟩
 |brk=>let⟨c,H',g,a,b,f,h,q⟩:=q;calc⟨a,c,H',g,f,b,h,q⟩
 |cont=>let⟨c,H',g,a,b,f,h,q⟩:=q;calc⟨a,c,H',g,f,b,h,q⟩
 |ret u=>let⟨v,c,H',g,b,a,d,f,h,q⟩:=q;calc⟨a,c,H',g,f,v,d,b,h,q⟩
def O9(c:DT)(d:DS):DS:=λE a=>∃W:Nat->Ro->Prop,(∃m,W m a)/\∀m a,W m a->c a λb=>if b=true then d {E with nx:=λc=>∃b,b<m/\W b c,ct:=λc=>∃b,b<m/\W b c,bk:=E.nx} a else E.nx a
def kH(i:PassesOwn (model X.prog X.w) X.A X.env X.xe)(o:ZX X c tc)(q:da X body tb):Yb X (.While c body [] pos) (O9 tc tb):=by
 intro a s j H W k E I r h;let⟨p,⟨m,l⟩,b⟩:=h;calc wpAny_While (codeAny_whileLoop (λn h=>∃d f c g,Inv X a f c h/\Vn W H d c/\Rel X d c f g/\p n g) ?_ m ⟨W,j,H,k,I,Vn.refl W H,r,l⟩);rintro n h ⟨j,g,l,d,k,f,m,c⟩;calc zCX i (T9 (o a h g l j d _ k m (b n d c)) λb h c=>?_);let⟨w,s,p,r⟩:=c;let c:=f.trans (Vn.same (W:=j) p);cases b with
 |true =>
  calc zCX i (T9 (q a h g w j d _ s (m.same p) r) λf x h=>?_);let⟨i,a,l,k,b,h⟩:=h;cases f with
  |next =>
   let⟨q,f,n,o,w3⟩:=h;calc⟨n,o,i,a,l,q,k,c.trans b,f,w3⟩
  |cont =>
   let⟨q,f,n,o,w3⟩:=h;calc⟨n,o,i,a,l,q,k,c.trans b,f,w3⟩
  |brk=>calc⟨i,a,l,k,c.trans b,h⟩
  |ret v=>calc⟨i,a,l,k,c.trans b,h⟩
 |false =>
  calc wpAny_execs_nil ⟨j,g,w,s,c,d,m.same p,r⟩
def PU{X:Cx}(r:Rel X W H σ ρ)(f:Vn W H W' H')(a:Addr)(o:HO)(n:Sol o)(q:H a=some o):H' a=some o :=
 f.kp a _ (λi z=>by let⟨_,_,c,b,m⟩:=r.kn i a z;rw[q]at b;cases b;calc m.sol n) q n.nt
def PT{X:Cx}(r:Rel X W H σ ρ)(f:Vn W H W' H')(a:Addr)(vs:yaq)(q:VD X.K H a vs):VD X.K H' a vs:=by
 calc f.keep a _ (λi e=>by let⟨_,_,d,c,m⟩:=r.kn i a e;let b:H a=some (.tup vs):=q;rw[c]at b;cases b;calc m) q
def PR{X:Cx}(d:Rel X W' H' US TN)(f:Vn W H W' H')(t:Bool)(a:Addr)(vs:yaq)(p:¬W.bad t a)(q:XS X.K H t a vs):¬W'.bad t a/\XS X.K H' t a vs:=by
 let c:∀i,W.O i≠some a:=λi e=>p (.inr (.inl ⟨i,e⟩))
 calc⟨λb=>?_,?_,λz=>⟨f.keep a _ c (q.2 z).1,(q.2 z).2⟩⟩;obtain b|⟨i,b⟩| ⟨e,b⟩:=b;rw[f.B]at b;calc p (.inl b);rcases f.new i a b with⟨j,z⟩| z
 cbv
 rcases q.1 with(q|⟨o,q⟩)|⟨o,TV,n,q,_⟩
 lia
 lia
 rw[(d.kn i a b).1]at q;lia;rw[f.S]at b;calc p (.inr (.inr ⟨e,b⟩));rcases q.1 with(q|⟨o,q⟩)|q;calc .inl (.inl (f.keep a _ c q));calc .inl (.inr ⟨o,f.keep a _ c q⟩);calc .inr q
def Den.fwd{X:Cx}(r:Rel X W H σ ρ)(a:Rel X W' H' US TN)(f:Vn W H W' H')(h:Den X.K W.bad H d v):Den X.K W'.bad H' d v :=
 Den.map (PT r f) (PR a f) (PU r f) d v h
abbrev DG:=D->Ro->(Ro->Prop)->Prop
inductive GP (X:Cx) (pins:yab) (W:Own) (H:Hp) (Q:Ro->Prop) (s':Shared):Prop
 |mk (W':Own) (US:St) (H':Hp) (TN:Ro) (_:Inv X pins US H' s') (_:Vn W H W' H') (_:Rel X W' H' US TN) (_:Q TN)
abbrev GDP{α:Type}(X:Cx)(pins:yab)(W:Own)(H:Hp)(Q:Ro->Prop)(_:α)(s':Shared):Prop:=GP X pins W H Q s'
def PGD(X:Cx)(a:Expr)(g:DG):Prop :=
 ∀ (b:yab) (s:Shared) (c:St) (H:Hp) (W:Own) (f:Ro) (d:D) (v:V) (u:Value) (Q:Ro->Prop),Inv X b c H s->Rel X W H c f->RelV v u->Den X.K W.bad H d v->g d f Q →
  wpAny (model X.prog X.w) X.A (assign a X.env u) (GDP X b W H Q) X.xe s
abbrev DGs:=yar->Ro->(Ro->Prop)->Prop
def wY(X:Cx)(ts:yai)(t:DGs):Prop :=
 ∀ (a:yab) (s:Shared) (b:St) (H:Hp) (W:Own) (c:Ro) (g:yar) (d:yaq) (f:yad) (Q:Ro->Prop),Inv X a b H s->Rel X W H b c->Vals d f->aq X.K W.bad H g d->t g c Q →
  wpAny (model X.prog X.w) X.A (assignInOrder ((assignEach ts X.env).map (·.2)) f) (GDP X a W H Q) X.xe s
theorem aq.fwd{X:Cx}(r:Rel X W H σ ρ)(b:Rel X W' H' US TN)(f:Vn W H W' H'):∀{a:yar} {vs:yaq},aq X.K W.bad H a vs->aq X.K W'.bad H' a vs
 |[],_,h=>by simpa only[aq]using h
 |d::a,_,h=>by let⟨v,q,e,c,a⟩:=h;calc⟨v,q,e,Den.fwd r b f c,aq.fwd r b f a⟩
def qp(i:Nat):DG:=λd a Q=>Q (a.set i (some (.val d)))
def cu{x:Str}(i:Nat)(j:X.N.Nodup)(b:X.N[i]?=some x:=by rfl)(f:Loc X.env.scope x:=by first|calc Or.inl rfl|calc Or.inr rfl)
  (g:X.fn x=true∨X.env.scope.names.lookup x=some .local:=by first|calc .inl rfl|calc .inr rfl|assumption):PGD X (.Name x pos) (qp i):=by
 intro a s k H W l d v u Q I r c d h;calc wpAny_assign_Name (gf I j b f c (λm c=>⟨W.drop i,_,H,_,c,Vn.drop W H i,r.put (Inv.ilt I b) d,h⟩) g)
def fL:DGs:=λb a Q=>b=[]/\Q a
def br(g:DG)(u:DGs):DGs:=λb a Q=>∃d r,b=d::r/\g d a λa=>u r a Q
def MH:wY X [] fL:=by intro a s b H W c j d f Q I r g i h;let⟨e,h⟩:=h;calc assignInOrder_nil ⟨W,b,H,c,I,Vn.refl W H,r,h⟩
def JL{e:Expr}{u:DGs}(m:PGD X e g)(l:wY X es u)(hs:(assignEach (e::es) X.env).map (·.2)=assign e X.env::(assignEach es X.env).map (·.2):=by rfl):wY X (e::es) (br g u):=by
 intro a s c H W g z w x Q I r j k h;let⟨d,o,b,h⟩:=h;subst b;let⟨v,i,n,b,f⟩:=k;subst n;cases j with
 |cons k j =>
  rw[hs];calc assignInOrder_cons (T9 (m a s c H W g d v _ _ I r k b h) λ_ h n=>?_);let⟨m,b,q,c,p,g,d,k⟩:=n;calc T9 (l a h b q m c o i _ Q p d j (aq.fwd r d g f) k) λ_ y i=>(by let⟨h,a,k,b,j,f,c,d⟩:=i;calc⟨h,a,k,b,j,g.trans f,c,d⟩)
def Bc{h:Heap}(b:h.IsList l items)(hs:Heap.SameBut it h h')(c:l≠it):h'.IsList l items:=by let⟨o,a,r⟩:=b;calc⟨o,(hs.2 l c).trans a,r⟩
theorem yJ{it l:Addr}(h:l≠it):∀(n i:Nat) (s:Shared) (Q:yad->Shared->Prop),s.heap.IsListIter it l i->s.heap.IsList l items->i+n<=items.size →
  (∀h',h'.IsListIter it l (i+n)->Heap.SameBut it s.heap h'->Q ((items.toList.drop i).take n) {s with heap:=h'})->wpAny (model prog w) A (draw (.ref it) n) Q E s
 |0,i,s,Q,a,_,_,d=>by
  show wpAny _ _ (pure []) Q E s
  simp_all [T5,Heap.SameBut.refl]
 |n+1,i,s,Q,a,b,j,d=>by
  let g:i<items.size:=by omega
  calc TJ (wpAny_pyNext_list_item a b (x:=items[i]) (by simp[g]) λWe a f=>?_);calc TJ (YH (yJ h n (i+1) _ _ a (Bc b f h) (by omega) λb c a=>T5 ?_));let k:items.toList.drop i=items[i]::items.toList.drop (i+1):=by simp[zBj,g]
  have:=d b 33 (f.trans a)
  cbv
def uI{A:Around}{s:Shared}{Q:yad->Shared->Prop}(hh:A.handled=none)(a:s.heap.IsList l items)
  (g:∀h',Heap.ExtBut s.heap.objs.size s.heap h'->Q items.toList {s with heap:=h'}):wpAny (model prog w) A (unpackItems (.ref l) items.size none) Q E s:=by
 let f:l≠s.heap.objs.size:=by let⟨o,b,_⟩:=a;exact WG (U5 b)
 calc TJ ?_;calc TJ (zCv a.typeIs F.slot_list_iter.lookup ?_);calc T5 ?_;calc TJ (YH (zCg a ?_));let c:(s.heap.push {cls:=.type "list_iterator", data:=.fields #[.ref l,rawInt 0]}).IsList l items:=by let⟨o,b,r⟩:=a;exact⟨o,VX _ b,r⟩
 calc TJ (YH (yJ f items.size 0 _ _ ⟨_,Xg _ rfl,rfl,rfl⟩ c 33 λh a d=>?_));let b:List.take items.size (List.drop 0 items.toList)=items.toList:=by simp_all [List.drop_zero,zB9]
 rw[b];rw[TM 52];let b:h.IsList l items:=Bc c d f;calc TJ (YH (wpAny_pyNext_list_end hh a b 52 λb a=>?_));calc T5 (g b λb o c e=>a b o c (d.extBut b o c (VX _ e)))
def dZ(n:Nat)(t:DGs):DG:=λd b Q=>∃a,(d=.tup a∨∃ t,d=.lst t a)/\#[a]=n/\t a b Q
def Hj{t:DGs}{n:Nat}(C:X.calm=true)(h:wY X es t)(z:#[assignEach es X.env]=n:=by rfl)(G:(assignEach es X.env).findIdx? (·.1)=none:=by rfl):PGD X (.Tuple es k pos) (dZ n t):=by
 intro c s i H W x d v u Q I r y B j;let⟨E,f,A,j⟩:=j;obtain f|⟨M,f⟩:=f;subst f;let⟨a,k,q,n,g⟩:=B.YF;subst q;cases y;let⟨J,d,m,L⟩:=I.tuple n.w;refine assign_Tuple_tuple (I.ok.hd C) m (by simp[z,<- A,<- #[d],g.len]) G λp l=>?_
 let w:Inv X c i H {s with heap:=p}:=I.kept (t':=s.toks) λb o e=>l b o (WG (U5 e)) e
 calc h c _ i H W x E k _ Q w r 33 g j;subst f;let⟨a,k,q,_,n,g⟩:=B.Xd;subst q;cases y;let⟨J,d,m,L⟩:=I.list n;calc TJ (wpAny_standAt ?_);ext unpack;rw[G,show#[assignEach es X.env]=J.toArray.size by simp[z,<- A,<- #[d],g.len]];calc TJ (YH (uI (I.ok.hd C) m.isList λp l=>?_));let w:Inv X c i H {s with heap:=p}:=I.kept (t':=s.toks) λb o e=>l b o (WG (U5 e)) e
 calc h c _ i H W x E k _ Q w r 33 g j
def S7(te:DE)(g:DG):DS:=λE a=>te a λd=>g d a E.nx
def YD(K:yac)(W:Own)(H:Hp)(J:It)(f:yar):Prop:=∀(g:yak) (b:Hp),(∀a c,VD K H a c->VD K b a c)->(∀t a c,¬W.bad t a->XS K H t a c->¬g t a/\XS K b t a c)->(∀a o,Sol o->H a=some o->b a=some o)->∀i,(i<#[f]->J.go i b)/\(∀x a,J.yld i b x a->i<#[f]->au b a/\∃d,f[i]?=some d/\Den K g a d x)/\(#[f]<=i->J.stop i b)
inductive IDP (X:Cx) (pins:yab) (σ:St) (W:Own) (H:Hp) (tg:Expr) (R:yar->Prop) (itv:Value) (s2:Shared):Prop
 |mk (it:Addr) (fp:yae) (tn:Nat->Heap->Prop) (J:It) (H':Hp) (ds:yar) (_:itv=.ref it) (_:Inv X pins σ H' s2) (_:au H H') (_:Turn X.prog X.w X.K tg J fp it tn) (_:tn 0 s2.heap) (_:∀b∈fp,cJ X pins H' b) (_:YD X.K W H' J ds) (_:R ds)
def PID(X:Cx)(f b:Expr)(wi:DA):Prop :=
 ∀ (a:yab) (s:Shared) (c:St) (H:Hp) (W:Own) (d:Ro) (R:yar->Prop),Inv X a c H s->Rel X W H c d->wi d R →
  wpAny (model X.prog X.w) X.A (eval b X.env) (λv b=>wpAny (model X.prog X.w) X.A (pyIter v) (IDP X a c W H f R) X.xe b) X.xe s
def PID.of{b:DA}(h:PI X tg iter wi)(k:∀a H W ρ R,Rel X W H a ρ->b ρ R->wi a H λJ H'=>au H H'/\∃c,YD X.K W H' J c/\R c):PID X tg iter b:=by
 intro b s a H W ρ R I r f;refine T9 (h b s a H _ I (k a H W ρ R r f)) λv l a=>T9 a λd j b=>?_
 let⟨a,f,tn,J,H',e,i,T,st,g,h,c,y,q⟩:=b;calc⟨a,f,tn,J,H',c,e,i,h,T,st,g,y,q⟩
def J5:D->(yar->Prop)->Prop
 |.lst _ a,R=>R a
 |_,_=>False
def M4(h:J5 x R):∃t a,x=.lst t a/\R a:=by
 cases x<;>first|calc False.elim h|calc⟨_,_,rfl,h⟩
theorem Qu(t:Bool)(a:yar)(R:yar->Prop):J5 (.lst t a) R=R a:=rfl
def Lj(b:DE):DA:=λa R=>b a λd=>J5 d R
def aT(h:Ul X iter ti):PID X tg iter (Lj ti):=by
 refine PID.of (Ny h.pe) λp H W a R r b=>⟨W,a,_,r,b,λv H1 d h b q=>?_⟩
 let⟨k,j,rfl,q⟩:=M4 q;let⟨a,c,rfl,l,g,f⟩:=b.lstG_;calc⟨a,rfl,⟨c,g.1⟩,h,j,?_,q⟩;intro P' o n h m i;let b:SqL X.K o a c:=(h _ a c l g).2.1;let s:=f.len;calc⟨λa=>?_,λx H3 y a=>?_,λa=>⟨c,b,33⟩⟩;let⟨v,hv,_⟩:=f.get (i:=i) (d:=j[i]) (by simp[a]);calc⟨c,v,b,hv⟩;let⟨a,y⟩:=y;subst a;let⟨d,g,a⟩:=f.aZ (y c b);calc⟨au.refl _,d,g,Den.map n h m d _ a⟩
noncomputable def iD(lo step:Int)(n:Nat):yar:=(List.range n).map λ(i:Nat)=>D.int (lo+i*step)
def KH(lo step:Int)(n:Nat):#[iD lo step n]=n:=by simp[iD]
def KG{lo step:Int}{n i:Nat}(h:i<n):(iD lo step n)[i]?=some (D.int (lo+i*step)):=by simp[iD,h]
def Ou(lo c:Int)(n:Nat):It:=⟨λi _=>i<n,λi H x a=>a=H/\x=.int (lo+i*c),λi _=>n<=i⟩
def K5(K:yac)(W:Own)(H:Hp)(lo c:Int)(n:Nat):YD K W H (Ou lo c n) (iD lo c n):=λP' H' _ _ _ i=>by
 rw[KH];calc⟨λh=>h,λx H3 y a=>?_,λh=>h⟩;let⟨e,b⟩:=y
 simp_all [au.refl,KG,Den.int]
def Df{P:Program}{w:World}{K:yac}{a:Expr}(it:Addr)(lo c:Int)(n:Nat):Turn P w K a (Ou lo c n) [it] it (λi h=>IsRangeIter h it (lo+(i:Nat)*c) ((n:Int) - (i:Nat)) c) where
 mem:=52
 obj:=λi h st b d=>by
  let e:b=it:=by simpa using d
  subst e;exact⟨_,st,λv z=>by let a:Data.fields _=Data.cell v:=z;cases a⟩
 keep:=λi h g st k=>k it 52 _ st
 item:=by
  intro X m j p l i a s A H E I f st k;subst m j p;let⟨z,y,G,x,r,q⟩:=f it 52;let W:=Walks.range (prog:=X.prog) (w:=X.w) (I.ok.hd l) it lo c n;refine W.item i s _ _ k st λv g w hv B C=>?_
  let⟨t,rfl⟩:=hv;let J:Inv X a A H {s with heap:=g,toks:=w}:=I.turned (λb o d e=>C b o (by simpa using d) e) z y x r q;exact⟨_,rfl,Fb (s:={s with heap:=g,toks:=w}) (n := "range_iterator") B rfl rfl 23 ⟨.int (lo+i*c),H,J,⟨t,rfl⟩,⟨rfl,rfl⟩,B,λb d=>(f b d).1⟩⟩
 done:=by intro X m j p l i a s A H E I f st k;subst m j p;let⟨z,y,G,x,r,q⟩:=f it 52;exact wpAny_pyNext_range_end (I.ok.hd l) st (by have:n<=i:=k;lia) λg a=>⟨rfl,I.turned (t':=s.toks) (λb o d e=>a b o d e) z y x r q⟩
 self:=λ_ _ _ _ _ st h=>wpAny_pyIter_rangeiter st h
def jz(lo a c:Int):Nat:=(Builtin.Range.rangeSize lo a c).toNat
def IG{a b c:Int}(o:-(2 ^ 40)<=a)(j:a<2 ^ 40)(n:-(2 ^ 40)<=b)(i:b<2 ^ 40)(m:0<c)(g:c<2 ^ 20):Builtin.Range.small a b c=true/\0<=Builtin.Range.rangeSize a b c:=by
 let f:a<b->0<=(b - a - 1) / c/\(b - a - 1) / c<=b - a - 1:=λh=>⟨Int.ediv_nonneg 33 33,Int.ediv_le_self _ 33⟩
 let d:a<b->(b - a - 1) / c*c<=b - a - 1:=λh=>Int.ediv_mul_le _ 33
 ext Builtin.Range.small Builtin.Range.rangeSize;rw[TU 47];by_cases h:a<b;let⟨l,k⟩:=f h;let f:=d h;rw[TU h];generalize (b - a - 1) / c=q at l k f ⊢;simp only[Builtin.Range.rangeFitsLong,zB0,Bool.or_eq_true,decide_eq_true_eq,beq_iff_eq];constructor;rw[TU 47];simp
 lia
 lia
 rw[TM h];simp only[Builtin.Range.rangeFitsLong,zB0,Bool.or_eq_true,decide_eq_true_eq,beq_iff_eq];constructor;simp;lia
 lia
def yY{R:yar->Prop}{lo a c:Int}{t u:Tok}{d:Nat}(I:Inv X pins σ H s)(j:-(2 ^ 40)<=lo)(i:lo<2 ^ 40)(h:-(2 ^ 40)<=a)(g:a<2 ^ 40)(f:0<c)(b:c<2 ^ 20)
  (q:R (iD lo c (jz lo a c))):wpAny (model X.prog X.w) X.A (pyIter (.ref s.heap.objs.size)) (IDP X pins σ W H tg R) E {s with heap:=s.heap.push {cls:=.type "range", data:=.fields #[.int lo t,.int a u,.int c v]},toks:=d}:=by
 let⟨sm,k⟩:=IG j i h g f b;calc wpAny_pyIter_range (IsRange.new ..) sm ?_;let f:Inv X pins σ H {s with heap:=s.heap.push {cls:=.type "range", data:=.fields #[.int lo t,.int a u,.int c v]},toks:=d}:=I.kept λb o e=>VX _ e
 refine⟨(s.heap.push {cls:=.type "range", data:=.fields #[.int lo t,.int a u,.int c v]}).objs.size,[(s.heap.push {cls:=.type "range", data:=.fields #[.int lo t,.int a u,.int c v]}).objs.size],_,_,H,_,rfl,
  f.kept (t':=d) λb o e=>VX _ e,au.refl H,Df _ lo c (jz lo a c),?_,λb d=>?_,K5 _ _ _ _ _ _,q⟩
 let h:lo+((0:Nat):Int)*c=lo:=52
 let g:((jz lo a c:Nat):Int) - ((0:Nat):Int)=Builtin.Range.rangeSize lo a c:=by ext jz;lia
 show IsRangeIter _ _ (lo+((0:Nat):Int)*c) (((jz lo a c:Nat):Int) - ((0:Nat):Int)) c;rw[h,g];calc Xg _ rfl;let e:b=(s.heap.push {cls:=.type "range", data:=.fields #[.int lo t,.int a u,.int c v]}).objs.size:=by simpa using d
 subst e;calc f.ZU (VY _) (f.Uk.fresh (VY _))
def CR3(i:Int):Prop:=-(2 ^ 40)<=i/\i<2 ^ 40
def RG(b:DA):DA:=λa R=>b a λa=>∃i j c:Int,a=[.int i,.int j,.int c]/\CR3 i/\CR3 j/\0<c/\c<2 ^ 20/\R (iD i c (jz i j c))
def E5(b:DA):DA:=λa R=>b a λa=>∃i j:Int,a=[.int i,.int j]/\CR3 i/\CR3 j/\R (iD i 1 (jz i j 1))
def Lm(b:DA):DA:=λa R=>b a λa=>∃j:Int,a=[.int j]/\CR3 j/\R (iD 0 1 (jz 0 j 1))
def Hm {a b:Expr} {p pos:Pos} (O:Gl X "range") (N:X.mg "range" = none) (T:Zi X [a,b] ta) (hs:starEach [a,b] X.env=(false,eval a X.env)::starEach [b] X.env:=by rfl) (f:(backTo pos (starEach [b] X.env)).any (·.1)=false:=by rfl) :
  PID X tg (.Call (.Name "range" p) [a,b] [] pos) (E5 ta):=by
 intro c s k H W l R I r h;calc Call_ (dm I O N boot_range (PyProof.Rows.callWith_type1 (T9 (T pos c s k H W l _ I r h) λus s1 Ub=>?_) hs f));let⟨vs,H1,g,I1,E,Y,Q,G⟩:=Ub;let⟨i,j,e,⟨a1,a2⟩,⟨b1,b2⟩,q⟩:=G;subst e;let⟨v1,u1,rfl,d1,d2⟩:=va Q;let j:=d1.VQ;let i:=d2.VQ;subst j i;cases E with
 |cons C d =>
  cases d with
  |cons B d =>
   cases d;let⟨t,rfl⟩:=C;let⟨t',rfl⟩:=B;calc call_range_2 ?_;calc T9 (yY (W:=W) (R:=R) I1 a1 a2 b1 b2 23 23 q) λL s2 Vo=>(by let⟨M,U,tn,J,H',g,A,z,y,x,w,o,n,m⟩:=Vo;calc⟨M,U,tn,J,H',g,A,z,Y.trans y,x,w,o,n,m⟩)
def jc {a:Expr} {p pos:Pos} (g:Gl X "range") (f:X.mg "range" = none) (i:Zi X [a] ta) (hs:starEach [a] X.env=(false,eval a X.env)::starEach [] X.env:=by rfl) (b:(backTo pos (starEach [] X.env)).any (·.1)=false:=by rfl) :
  PID X tg (.Call (.Name "range" p) [a] [] pos) (Lm ta):=by
 intro a s c H W d R I r h;calc Call_ (dm I g f boot_range (PyProof.Rows.callWith_type1 (T9 (i pos a s c H W d _ I r h) λy A f=>?_) hs b));let⟨w,H1,a,i,c,n,d,b⟩:=f;let⟨j,e,⟨h,g⟩,q⟩:=b;subst e;let⟨x,rfl,f⟩:=jQ d;let b:=f.VQ;subst b;cases c with
 |cons c b =>
  cases b;let⟨t,rfl⟩:=c;calc call_range_1 ?_;calc T9 (yY (W:=W) (R:=R) i 23 23 h g 23 23 q) λk z o=>(by let⟨l,m,tn,J,p,a,j,i,h,g,f,d,c,b⟩:=o;calc⟨l,m,tn,J,p,a,j,i,n.trans h,g,f,d,c,b⟩)
def tL(wi:DA)(g:DG)(d:DS):DS:=λE a=>wi a λc=>∃Pv:Nat->Ro->Prop,Pv 0 a ∧
 (∀j x a,c[j]?=some x->Pv j a->g x a λb=>d {E with nx:=Pv (j+1),ct:=Pv (j+1),bk:=E.nx} b)/\∀a,Pv #[c] a->E.nx a
def dh(A:PassesOwn (model X.prog X.w) X.A X.env X.xe)(hc:X.calm=true)(b:PID X tg iter wi)(hg:PGD X tg g)(j:da X body tb)
  (hs:∀x,foldedSetIterable iter X.env x=pure x:=by intro _;rfl):Yb X (.For tg iter body [] pos) (tL wi g tb):=by
 intro a s k H W l E I r h;calc wpAny_For (T9 (b a s k H W l _ I r h) λv s1 b=>T9 b λitv s2 b=>?_) hs;let⟨it,M,tn,J,L,s,e,y,Y,T,d,p,w,Pv,q,c,pd⟩:=b;subst e;let f:=r.same Y;let h:∀{g:Hp},(∀b∈M,g b=none)->∀b∈M,cJ X a g b:=λi b j=>⟨i b j,(p b j).2⟩
 calc codeAny_forLoop_any (λn m=>∃i o G g I,n=#[s] - i/\i<=#[s]/\Inv X a G g m/\tn i m.heap/\(∀b∈M,g b=none)/\Vn W L o g/\Rel X o g G I/\Pv i I) ?_ #[s] ⟨0,W,k,L,l,52,Yt _,y,d,λb j=>(p b j).1,Vn.refl W L,f,q⟩;rintro n s3 ⟨i,W3,q,O,N,en,hle,I3,z,C,k,Q,p3⟩;let⟨d,l,ys⟩:=w W3.bad O (PT f k) (PR Q k) (PU f k) i;by_cases Wx:i<#[s]
 ·calc zCX A (T9 (T.item X rfl rfl rfl hc i a s3 q O X.xe I3 (h C) z (d Wx)) λrr s4 ⟨u,U,d⟩=>?_);subst U;calc zCX A (T9 d λ_ y E=>?_);let⟨x,p,I5,B,r,w,f⟩:=E;let⟨m,d,J,Xe⟩:=l x p r Wx;let l:=I5.pinned (h f) (T.obj _ _ w);let f:=Q.same m;calc zCX A (T9 (hg _ y q p W3 N d x u _ l f B Xe (c i d N J p3)) λ_ l E=>?_);let⟨x,c,B,f,y,f6,p,r⟩:=E;calc zCX A (T9 (j _ l c B x f _ y p r) λf s7 l=>?_);let⟨x,p,y,J,c,l⟩:=l;let B:Vn W L x y:=k.trans ((Vn.same m).trans (f6.trans c));let r:Vn W H x y:=(Vn.same Y).trans B;let again:∀{c:Ro},Rel X x y p c->Pv (i+1) c->∃m,m<n/\∃i o G g I,m=#[s] - i/\i<=#[s]/\Inv X a G g s7/\tn i s7.heap/\(∀b∈M,g b=none)/\Vn W L o g/\Rel X o g G I/\Pv i I:=fun {c} g m=>by
   calc⟨#[s] - (i+1),33,i+1,x,p,y,c,rfl,Wx,J.Wl,T.keep _ _ _ w λb j o e=>(J.pin (b,o) (XF _ (XF _ (eU j e)))).1,λb j=>?_,B,g,m⟩;let⟨o,e,d⟩:=T.obj _ _ w b j;exact(J.pin (b,o) (XF _ (XF _ (eU j e)))).2.1
  cases f with
  |next=>let⟨c,g,b⟩:=l;calc again g b
  |cont=>let⟨c,g,b⟩:=l;calc again g b
  |brk=>let⟨c,g,l⟩:=l;calc⟨x,p,y,J.Wl,r,c,g,l⟩
  |ret v=>let⟨b,d,g,c,l⟩:=l;exact⟨x,p,y,J.Wl,r,b,d,g,c,l⟩
 let e:i=#[s]:=33
 calc zCX A (T9 (T.done X rfl rfl rfl hc i a s3 q O X.xe I3 (h C) z (ys 33)) λrr s4 E=>?_);let⟨U,a⟩:=E;subst U;subst e;calc wpAny_execs_nil ⟨W3,q,O,a,(Vn.same Y).trans k,N,Q,pd N p3⟩
def OX(i j:Nat)(b:DA):DS:=λE a=>b a λb=>∃d e,b=[d,e]/\E.nx ((a.set i (some (.val d))).set j (some (.val e)))
def Pm{x y:Str}{a b:Expr}{kt k2 pt2}(i j:Nat)(B:X.calm=true)(C:X.N.Nodup)(E:i≠j)(n:Zi X [a,b] ta)(A:X.N[i]?=some x:=by rfl)(z:X.N[j]?=some y:=by rfl)
  (p:X.env.scope.names.lookup x=some .local:=by rfl) (o:X.env.scope.names.lookup y=some .local:=by rfl)
  (w:swappedStores [.Tuple [.Name x px,.Name y py] kt pt] (.Tuple [a,b] k2 pt2) X.env=pure (some [x,y]):=by rfl)
  (hs:swapsWithSole [.Tuple [.Name x px,.Name y py] kt pt] (.Tuple [a,b] k2 pt2) pos.line X.env=pure false:=by rfl) :
  Yb X (.Assign [.Tuple [.Name x px,.Name y py] kt pt] (.Tuple [a,b] k2 pt2) pos) (OX i j ta):=by
 let l:PA X [a,b] (λb H Q=>∃W c h,Rel X W H b c/\ta c h/\∀d a g,au H a->aq X.K W.bad a g d->h g->Q d a):=by intro pos f s b H Q I q;let⟨W,c,h,r,m,k⟩:=q;exact T9 (n pos f s b H W c h I r m) λG J s=>(by let⟨d,a,g,x,h,f,m,n⟩:=s;calc⟨d,a,x,h,k d a g f m n⟩)
 refine Yb.of (QY B C A z E p o l w hs) λb H W c E r k h=>?_
 calc⟨W,c,_,r,h,λd a g f m q=>?_⟩;let⟨d,e,rfl,q⟩:=q;let⟨v,u,rfl,h,g⟩:=va m;let d:i<#[b]:=58
 let c:j<#[b.set i (some v)]:=by rw[List.length_set,k];grind
 let b:=(r.same f).put d h;calc⟨v,u,rfl,_,_,(Vn.same f).trans ((Vn.drop W a i).trans (Vn.drop _ a j)),b.put c (g.UG λ_ _=>Own.Wm),q⟩
end
def cH:yah->yar->Ro
 |_::N,d::a=>some (.val d)::cH N a
 |_::N,[]=>none::cH N []
 |[],a=>a.map λd=>some (.val d)
theorem lO:∀(N:yah) (a:yar),cH N a=a.map (λd=>some (.val d))++List.replicate (#[N] - #[a]) none
 |_::N,d::a=>by rw[cH,lO N a,Ya,ZH,ZH,Nat.add_sub_add_right];rfl
 |_::N,[]=>by rw[cH,lO N []];rfl
 |[],a=>by rw[cH,List.length_nil,Nat.zero_sub];simp
theorem Rel.start{X:Cx}{P:Addr->Prop}{H:Hp}(f:∀a,P a->∃o,H a=some o)(h:aq X.K (λt a=>t=true∨P a) H ds vs)(m:X.Vl=H)(c:jw X.K H):Rel X ⟨P,λ_=>none,λa=>∃o,H a=some o⟩ H (start N vs) (cH N ds) where
 val:=λi d e=>by
  rw[lO]at e;let l:=h.len;by_cases b:i<#[ds]
  ·rw[zAo 47,WA]at e;cases q:ds[i]? with
   |none=>cbv
   |some j =>
    rw[q]at e;let g:j=d:=by simpa using e
    subst g;let⟨v,j,g⟩:=h.get q;calc⟨v,?_,g.UG λk a z=>?_⟩;ext L2.start;rw[zAo 47,WA,j];rfl
    ·obtain z|⟨j,z⟩| ⟨z,_⟩:=z
     all_goals cbv
  simp_all [zAr,zCM]
 own:=λi d e=>by
  rw[lO]at e;by_cases b:i<#[ds]
  all_goals simp_all [zAo,WA,zAr,zCM]
 inj:=λi j a h _=>by cases h
 kn:=λi a h=>by cases h
 ke:=λi a h=>by cases h
 bt:=f
 st:=λ_ z=>z
 ent:=by simp_all [au.refl]
 tab:=c
def bO.there(x:bO P w H h a o):∃u,h.get? a=some u:=by
 cases o with
 |lst a=>let⟨_,_,_,_,e⟩:=x;calc⟨_,e⟩
 |tup a=>let⟨_,_,_,a,e,_⟩:=x;calc⟨a,e⟩
 |dK b=>let⟨_,_,_,_,a,_,_,e,_⟩:=x;calc⟨a,e⟩
 |dT b=>let⟨_,_,_,_,a,_,_,e,_⟩:=x;calc⟨a,e⟩
 |set S n=>let⟨a,_,_,_,e,_⟩:=x;calc⟨a,e⟩
 |ins C i b=>let⟨_,_,_,e,_⟩:=x;calc⟨_,e⟩
 |own y=>calc x
 |xd b=>let⟨_,⟨a,_,_,e,_⟩,_⟩:=x;calc⟨a,e⟩
 |rng lo g=>let⟨_,_,_,e⟩:=x;calc⟨_,e⟩
 |frz a u=>let⟨e,_⟩:=x;calc⟨a,e⟩
 |Yj d=>calc⟨_,x⟩
 |met f y=>calc⟨_,x⟩
 |ext c=>let⟨_,e,_⟩:=x;calc e
def WR.keptT {h' : Heap} (x : WR P w H h) (k : ∀ b u, (∃ o, H b = some o) -> h.get? b = some u -> h'.get? b = some u) : WR P w H h' := λa o e =>
 (x a o e).Zd (λb u a q => k b u (by
  obtain z | z:=a;subst z; calc ⟨o, e⟩;calc ⟨_, z⟩) q) (λ_ q => q) λ_ _ q => q
structure Fl(P:Program)(w:World)(l:List Env)(h₀:Heap)(Vl H:Hp)(B h:Heap):Prop where
 un:Un (YJ l) [] Vl H h₀ h
 Uk:WR P w H h
 fr:∀b∈YJ l,Vl b=none/\∃o,h₀.get? b=some o/\∀vs,o.data ≠ .fields vs
 cov:∀b o,h.get? b=some o->((∃u,H b=some u)∨∃ o',h₀.get? b=some o')->b∉YJ l->B.get? b=some o
section
variable{P:Program}{w:World}{l:List Env}{h₀:Heap}{Vl H:Hp}{B h h':Heap}
theorem Fl.free(F:Fl P w l h₀ Vl H B h){b:Addr}(a:b∈YJ l):H b=none:=by let⟨n,o,e,_⟩:=F.fr b a;calc F.un.free b o e n 52
def Fl.step(F:Fl P w l h₀ Vl H B h)(st:B.StaysIn h')(i:h.UpToSlots h'):Fl P w l h₀ Vl H B h':=by
 let g:∀b o,b∈YJ l->h₀.get? b=some o->∃a,h'.get? b=some {o with slots:=a}:=λb o a e=>by let⟨n,d,c,m⟩:=F.fr b a;rw[e]at c;cases c;let⟨p,f⟩:=F.un.slot b o e n a 52;let⟨k,j⟩:=i b _ f m;exact⟨k,j⟩
 let kp:∀b o,h.get? b=some o->((∃u,H b=some u)∨∃ d,h₀.get? b=some d)->b∉YJ l->h'.get? b=some o:=λb o e c n=>st b o (F.cov b o e c n)
 calc⟨⟨λb o e n a i=>kp b o (F.un.keep b o e n a i) (.inr ⟨o,e⟩) a,λb o e n a i=>g b o a e,F.un.free,λb o e i=>?_,F.un.Ze,F.un.YA,F.un.Zf⟩,PD.WR.keptT F.Uk (λb u m e=>kp b u e (.inl m) λz=>?_),F.fr,λb o e c n=>?_⟩;by_cases a:b∈YJ l;let⟨k,j⟩:=g b o a e;calc⟨_,j⟩;let⟨d,f⟩:=F.un.there b o e i;calc⟨d,kp b d f (.inr ⟨o,e⟩) a⟩;let⟨o,q⟩:=m;rw[F.free z]at q;cases q;have:∃a,h.get? b=some a:=by
  rcases c with⟨u,c⟩| ⟨d,c⟩;calc PD.bO.there (F.Uk b u c);exact F.un.there b d c 52
 let⟨a,f⟩:=this;let q:=kp b a f c n;rw[e]at q;cases q;calc F.cov b o f c n
end
def CX1(P:Program)(w:World):CXT:=λa H s E e b=>∃(d c:Addr) (f:Hp) (B:Heap) (g:Value),e=.ref d/\b.os=s.os/\AllBare b.gens/\Fl P w a s.heap H f B b.heap/\au H f/\f d=none/\s.heap.get? d=none ∧
 Heap.FlyingW B a d (.ref c) g b.heap/\E (.ref c) none f
def LB:Passes (CX1 P w) X E0:=λ_ _ _ _ _ _ _ h=>by let⟨_,_,_,_,_,_,_,_,_,_,_,_,_,z⟩:=h;calc z.elim
def MadeX(X:Cx)(Ed:Value->Prop):Prop:=∀(a:yab) (b:St) (H:Hp) (W:Own) (f:Ro) (s:Shared) (e c:Addr) (g:yad) (d:Heap),Inv X a b H s->Rel X W H b f->Heap.MadeExcOf s.heap d e (.ref c) g->Ed (.ref c)->X.xe (.ref e) {s with heap:=d}
def cE(X:Cx)(Ed:Value->Prop):Prop:=∀(a:yab) (b:St) (H:Hp) (W:Own) (c:Ro) (s:Shared) (e:Value) (d:Shared),Inv X a b H s->Rel X W H b c->CX1 X.prog X.w X.stack H s (λc _ _=>Ed c) e d->X.xe e d
section
variable{P:Program}{w:World}{K:yac}{mg:yal}{base:Heap}{N:yah}{qual:Str}{sc:Scope}{f:Addr}{cd:Value}{A:Around}{outer:List Env}{Uv:Shared}{Vl:Hp}{E:XK}
def Az{B:Heap}(I:Inv (de (CX1 P w) P w K mg base N qual sc f cd A outer Uv Vl E) pins σ H s)(k:au Vl H)(j:H e=none)(g:Uv.heap.get? e=none)
  (m:∀b o,s.heap.get? b=some o->((∃u,H b=some u)∨∃ a,Uv.heap.get? b=some a)->b∉YJ (envOfC qual sc Uv.heap.objs.size f cd::outer)->B.get? b=some o)
  (h:Heap.FlyingW B outer e (.ref c) a0 h') (i:s.heap.UpToSlots h') (l:E (.ref c) none H):CX1 P w outer Vl Uv E (.ref e) {s with heap:=h'}:=by
 let p:∀b,((∃u,H b=some u)∨∃ a,Uv.heap.get? b=some a)->b∉YJ outer->b∉YJ (envOfC qual sc Uv.heap.objs.size f cd::outer):=λb c n z=>by
  rcases c with⟨u,c⟩| ⟨a,c⟩;have:=I.YK b z
  lia
  rcases VC.mp (I.Yk b z)with q|q;let t:=U5 c;let r:Uv.heap.objs.size<=b:=by rw[q];exact I.ok.above
  lia
  exact n q
 let F:Fl P w outer Uv.heap Vl H B s.heap:=⟨I.base,I.Uk,λb a=>⟨I.ok.frf b a,by let⟨_,o,e,d⟩:=I.ok.YC.mem a;calc⟨o,e,d⟩⟩,58⟩
 calc⟨e,c,H,B,a0,rfl,I.os,I.bare,F.step h.1 i,k,j,g,h,l⟩
def Sd{Ed:Value->Prop}(p:∀c a H',au Vl H'->Ed c->E c a H'):MadeX (de (CX1 P w) P w K mg base N qual sc f cd A outer Uv Vl E) Ed:=by
 intro g x H W y s e c B h' I r c m;refine wpAny_leaves_madeW (base:=PySem.W.hideAll s.heap (YJ (envOfC qual sc Uv.heap.objs.size f cd::outer))) (h:=s.heap) (outer:=outer) I.ok.frames rfl (λb o q=>PySem.W.of_hideAll _ q)
  (PySem.W.funFrames_hide I.stack λa d b h=>zCR.mpr ⟨a,d,h⟩) c λd t j _ _ i=>?_
 let l:∀{a:Heap},(∀b o,a.get? b=some o->∃h,s.heap.get? b=some h)->a.get? e=none:=fun {a} k=>by
  cases q:a.get? e with
  |none=>rfl
  |some o =>
   let⟨h,a⟩:=k e o q;rw[c.new]at a
   lia
 calc Az (s:=s) (h':=d) I r.ent ?_ (l λb o q=>I.base.there b o q 73) (λb o q _ n=>PySem.W.hideAll_get _ q n) j (λb o q d=>?_) (p _ _ _ r.ent m);cases q:H e with
 |none=>rfl
 |some u =>
  let⟨o,z⟩:=PD.bO.there (I.Uk e u q)
  cbv
 calc i b o (c.keeps b o q) d
def Nu{Ed:Value->Prop}(l:∀c a H',au Vl H'->Ed c->E c a H'):cE (de (CX1 P w) P w K mg base N qual sc f cd A outer Uv Vl E) Ed:=by
 intro d p H W t s e h I r b;let⟨e,c,H',B,x,rfl,os,a,F,sm,j,i,c,k⟩:=b;refine wpAny_leaves_onW (outer:=outer) I.ok.frames rfl c λb g c=>?_
 let m:=I.call' os F.un F.Uk a 47;calc Az (s:=h) (h':=b) m (r.ent.trans sm) j ?_ (λb o q z n=>F.cov b o q (z.elim .inl λh=>(by let⟨a,z⟩:=h;calc .inr (I.base.there b a z (by intro q;cases q)))) n) g c (l _ _ _ (r.ent.trans sm) k);cases q:Uv.heap.get? e with
 |none=>rfl
 |some o =>
  let⟨a,u⟩:=I.base.there e o q 73
  lia
end
section
variable{X:Cx}{k:Nat}{f:Addr}{fd:FuncData}{ps:yah}{sp:DSp}{x:Str}{p pos:Pos}{e:Expr}{es:yai}{t:DA}
def Q5{dds:yar}{a:yaa}(F:aA X.prog X.w X.K X.mg X.base (CX1 X.prog X.w) k f fd ps (aD X.K sp))(m:bH k X.A)(n:Binds X.K fd ps dsv)(i:Vals (dds.map qk) dsv)(hs:∀d∈dds,wo d)
 (I:Inv X pins σ H s) (h:Rel X W H σ ρ) (r:Vals vs us) (j:aq X.K W.bad H ds vs)
  (q:sp (aV ds++dds) Q Ed) (l:∀e b,CX1 X.prog X.w X.stack H s (λc _ _=>Ed c) e b->a e b):wpAny (model X.prog X.w) X.A (call (.ref f) us) (DP X pins σ W H Q) a s:=by
 let g:Vals (vs++dds.map qk) (us++dsv):=r.append i;let a:aD X.K sp (vs++dds.map qk) H (λv i=>au H i/\∃d,Den X.K W.bad i d v/\Q d) (λc _ _=>Ed c) :=
  ⟨W.bad false,aV ds++dds,Q,Ed,h.tab,h.tracked false,(aq.aJ (λ_ _=>Own.Zx) ds vs j).append (aq.xQ hs),q,λd v i e j i=>⟨e,d,Den.back h.tracked j,i⟩,λ_ _ _ _ z=>z⟩
 let c:#[us++dsv]=#[ps]:=by rw[<- #[g]];exact F.len _ _ _ _ a
 calc wpAny_call (zCr (F.run X.A X.stack s H ⟨us,[]⟩ (us++dsv) (vs++dds.map qk) _ _ m I.env0 (n s us I.Zq c) g a) λc b a=>?_);cases c with
 |error c=>calc l c b a
 |ok b =>
  cases b with
  |ret u =>
   let⟨v,h,c,g,b,d,j,i⟩:=I.after a;calc⟨v,h,d,c,g,b,j,i⟩
  |next=>calc False.elim a
  |brk=>calc False.elim a
  |cont=>calc False.elim a
def AH(sp:DSp)(Ed:Value->Prop)(dds:yar)(t:DA):DE:=λa Q=>t a λa=>sp (aV a++dds) Q Ed
def G3{dds:yar}(l:cE X Ed)(F:aA X.prog X.w X.K X.mg X.base (CX1 X.prog X.w) k f fd ps (aD X.K sp))(j:bH k X.A)(n:Gl X x)(c:X.mg x=some (.ref f))(m:PySem.W.keepIn X.K (.ref f)=true)(w:Binds X.K fd ps dsv)(u:Vals (dds.map qk) dsv)(hs:∀d∈dds,wo d)
  (q:Zi X (e::es) t) (r:(x==("__debug__" : Str))=false:=by decide) (o:starEach (e::es) X.env=(false,eval e X.env)::starEach es X.env:=by rfl) (y:(backTo pos (starEach es X.env)).any (·.1)=false:=by rfl) :
  Ul X (.Call (.Name x p) (e::es) [] pos) (AH sp Ed dds t):=by
 intro a s g H W i Q I b h;calc zBh (rL I n c ?_ r);calc PySem.W.callWith_K (h₀:=X.base) I.ok.mod.YB m (T9 (q pos a s g H W i _ I b h) λB h ⟨A,s,C,d,r,c,m,q⟩=>⟨d.Zq,?_⟩) o y;calc T9 (Q5 F j w u hs d (b.same c) r m q λn j m=>l a g s W i h n j d (b.same c) m) λ_ _ z=>z.up c
end
set_option tactic.hygienic true in
def Mv{K:yac}(X:K.In h)(q:PySem.W.excIn K C bmB newId=true):∃tl N nm c bs d sn sub ab col dd k0 k1 k2 k3 k5 mN,
  h.get? C=some (excClassObj nm c C N bs tl d sn sub ab col dd k0 k1 k2 k3 k5 newId)/\h.Ns N mN/\mN "__init__" = none/\OwnTail h bmB tl:=by
 unfold PySem.W.excIn at q;split at q
 next dd cd sl ho =>
  split at q
  next C' tl k0 k1 k2 k3 n k5 hm hs =>
   simp only[zB0,beq_iff_eq,Bool.not_eq_true']at q;let⟨⟨⟨⟨⟨i,f⟩,a⟩,h⟩,e⟩,b⟩:=q;subst i f;cases cd with
   |mk nm bs g f c d sn sub ab col j =>
    simp only at hm a e b;subst hm a;let a:sl=#[k0,k1,k2,k3,some (.builtin n),k5]:=by apply Array.ext';rw[hs]
    subst a;exact⟨tl,f,nm,c,bs,d,sn,sub,ab,col,dd,k0,k1,k2,k3,k5,_,X _ _ ho,.of_isNs (PySem.W.isNs_of_in X e),PySem.W.nsMap_none_of_in X e b,PySem.W.tail_of_in X h⟩
  next=>cases q
 next=>cases q
abbrev j9:yad:=[.type "ValueError", .type "Exception", .type "BaseException", .type "object"]
section
variable{X:Cx}{pos:Pos}
def nG {e:Expr} {es:yai} (j:MadeX X Ed) (k:Gl X x) (c:X.mg x=some (.ref C)) (q:PySem.W.excIn X.K C j9 "ValueError.__new__" = true) (m:X.calm=true) (n:Zi X (e::es) t)
  (f:starEach (e::es) X.env=(false,eval e X.env)::starEach es X.env:=by rfl) (WC:(backTo UL (starEach es X.env)).any (·.1)=false:=by rfl) (u:(x==("__debug__" : Str))=false:=by decide) :
  Yb X (.Raise (some (.Call (.Name x np) (e::es) [] UL)) none pos) (λ_ ρ=>t ρ λg=>#[g]<=sizeLine/\Ed (.ref C)):=by
 intro a s d H W ρ E I r h;let⟨e,N,nm,i,bs,l,sn,sub,ab,col,dd,k0,k1,k2,k3,k5,mN,p,o,b,T⟩:=Mv I.ok.mod.YB q;let FB:=PySem.F.excBase_ValueError;refine wpAny_Raise_call_subT (C:=C) (nm:=nm) (q:=i) (N:=N) (bs:=bs) (bm:=e) (hdct:=l) (sn:=sn) (sub:=sub) (ab:=ab) (col:=col) (dd:=dd) (k0:=k0) (k1:=k1) (k2:=k2) (k3:=k3) (k5:=k5) FB (mN:=mN) (T.hasType FB.hasBase) (I.ok.hd m)
  (by rw[f];show(false || (backTo UL (starEach es X.env)).any (·.1))=false;lia) b (rL I k c ⟨rfl,?_⟩ u)
 let b:=n UL a s d H W ρ _ I r h;rw[f]at b ⊢;calc Calls.evalArgs_plain (T9 b λe f l=>?_);let⟨w,m,g,b,g,k,i,z,h⟩:=l;calc⟨rfl,by rw[<- i.len,#[g]]at z;calc z,b.bk _ _ p,o.keeps b.bk,T.keeps b.bk,λg i c=>j a d m W ρ f i C e g b (r.same k) c h⟩
def tO{st:Stmt}:Yb X st (λ_ _=>False):=λ_ _ _ _ _ _ _ _ _ h=>h.elim
theorem Rel.wish(r:Rel X W H σ ρ)(E:yaa):Rel (X.wish E) W H σ ρ:=⟨r.val,r.own,r.inj,r.kn,r.ke,r.bt,r.st,r.ent,r.tab⟩
def Rel.WS(r:Rel (X.wish E) W H σ ρ):Rel X W H σ ρ:=⟨r.val,r.own,r.inj,r.kn,r.ke,r.bt,r.st,r.ent,r.tab⟩
theorem SPD.WS(h:SPD (X.wish XE) pins W H E f s'):SPD X pins W H E f s':=by
 let⟨b,c,d,I,a,q⟩:=h;calc⟨b,c,d,I.WS,a,?_⟩;cases f with
 |next=>let⟨a,r,q⟩:=q;calc⟨a,r.WS,q⟩
 |brk=>let⟨a,r,q⟩:=q;calc⟨a,r.WS,q⟩
 |cont=>let⟨a,r,q⟩:=q;calc⟨a,r.WS,q⟩
 |ret u=>calc q
theorem da.nox{st:List Stmt}{t:DS}(h:da X.nox st t):da X st t:=λa s b H W c E I r d =>
 Yz (h a s b H W c E (I.wish _) (r.wish _) d) (λ_ _ q=>q.WS) λ_ _ z=>False.elim z
def Tb(K:yac)(C:Addr)(i:Nat)(sp:DSp)(t:DA)(a:DS):DS:=λE b=>t b λc=>sp (aV c) (λ_=>E.nx b) λd=>∃c,d=.ref c/\cZ K c/\PySem.W.exmOne K (.ref c) (.ref C)=some true ∧
 a ⟨λa=>E.nx (a.set i none),E.rt,λa=>E.bk (a.set i none),λa=>E.ct (a.set i none)⟩ (b.set i (some (.val (.exc c))))
def S9(K:yac)(c:Value)(te:DE):DE:=λa Q=>te a λd=>∃b,PySem.W.kitOne K (tyV d) c=some b/\Q (.bl b)
end
def iu(base:Heap)(l:List Env)(e:Addr)(cls a0:Value)(h:Heap):Prop:=base.StaysIn h/\base.get? e=none/\h.FunFrames base l/\∃a,h.TracedAtW base e cls a0 a
section
variable{M:Model}{A:Around}{E:yaa}{s:Shared}{base:Heap}{l outer:List Env}{env:Env}{e L:Addr}{cls a0:Value}
def D5{Q:Unit->Shared->Prop}(R:iu base l e cls a0 s.heap)(h:∀h',iu base l e cls a0 h'->s.heap.UpToSlots h'->Q () {s with heap:=h'}):wpAny M A (setFlight (.ref e) fr) Q E s:=by
 let⟨w,u,t,C,r,d,T,z,a,p,y,g3,n,x,m,k,g,B⟩:=R;let i:3<a.size:=58;let a:∀b,b≠T->(s.heap.update T (Obj.mapFields (·.setIfInBounds 3 (fr.elim Value.none λf=>rawInt f)))).get? b=s.heap.get? b:=λb c=>zA7 _ _ (Ne.symm c)
 let j:∀b o,s.heap.get? b=some o->(∀d,o.data ≠ .fields d)->b≠T:=λb o c f q=>47
 calc TJ (Yy p g3 n ?_);calc zCm k g i (h _ ⟨λb o c=>(a b 33).trans (w b o c),u,t.of_keeps 47,?_⟩ λb o c f=>⟨o.slots,47⟩);calc⟨_,r,d,T,_,_,(a e (Ne.symm m)).trans p,y,g3,n,x,m,zA2 _ k (Obj.isFreed_of_fields (Obj.data_mapFields g _)),Obj.data_mapFields g _,by simp[i];rfl⟩
def Nt(R:iu base l e cls a0 s.heap)(h:∀h',iu base l e cls a0 h'->s.heap.UpToSlots h'->E (.ref e) {s with heap:=h'}):wpAny M A (PySem.passOn what (.ref e) cenv:Sem Value) (λ_ _=>False) E s:=by
 let⟨_,_,_,j,f,c,T,g,d,b,i,g3,a,_⟩:=id R;refine TJ (Yy b g3 a ?_)
 first
  |calc TJ (T5 (TJ (D5 R λh' b a=>wpAny_throw (h h' b a))))
  |calc TJ (D5 R λh' b a=>wpAny_throw (h h' b a))
def D8{Q:Unit->Shared->Prop}(f:A.frames=some (env::outer))(g:env.frame=some L)(R:iu base (env::outer) e cls a0 s.heap)
  (h:∀h',iu base (env::outer) e cls a0 h'->s.heap.UpToSlots h'->Q () {s with heap:=h'}):wpAny M A (noteFrame (.ref e) env) Q E s:=by
 let⟨y,m,x,r,u,d,T,w,t,i,q,g3,o,z,p,c,b,n⟩:=id R;by_cases a:(r==rawInt L)=true;let j:r=rawInt L:=47
 subst j;calc wpAny_noteFrame_againW (base:=base) (cls:=cls) (a0:=a0) g ⟨u,d,T,w,t,i,q,g3,o,z,p,c,b,n⟩ (h _ R (Heap.UpToSlots.refl _));let⟨r,j⟩:=q;subst r;ext noteFrame;simp only[g];calc TJ (Yy i g3 o ?_);calc TJ (Yy c b n ?_);rw[TM a];calc TJ (zCm c b 58 ?_);let a:∀b,b≠T->(s.heap.update T (Obj.mapFields (·.setIfInBounds 3 Value.none))).get? b=s.heap.get? b:=λb c=>zA7 _ _ (Ne.symm c)
 let k:∀b o,s.heap.get? b=some o->(∀d,o.data ≠ .fields d)->b≠T:=λb o c d q=>47
 refine wpAny_entryW (base:=base) f (x.of_keeps 47) g ((a e (Ne.symm p)).trans i) (λb o c=>(a b 33).trans (y b o c)) m g3 58 j λh' j=>?_
 let⟨i,g,f,a⟩:=j;calc h h' ⟨i,m,g,_,f⟩ λb o c d=>a b o 47 d
def JY{Q:Unit->Shared->Prop}(a:A.frames=some (env::outer))(b:env.frame=some L)(R:iu base (env::outer) e cls a0 s.heap)
  (h:∀h',Heap.FlyingW base outer e cls a0 h'->s.heap.UpToSlots h'->Q () {s with heap:=h'}):wpAny M A (leaving env (.ref e)) Q E s:=by
 calc TJ (D8 a b R λj f b=>?_);let⟨d,g,c,k,a⟩:=f;refine wpAny_setFlight_noneW (base:=base) d c a λi f a d c=>?_
 let⟨_,_,a⟩:=a;calc h i ⟨f,g,a,d⟩ (b.trans λb o d a=>⟨o.slots,c b o d a⟩)
end
def uQ(X:Cx)(Ed:Value->Prop):Prop:=∀(b:yab) (f:St) (H:Hp) (W:Own) (g:Ro) (s a:Shared) (d c:Addr) (e:Hp) (B:Heap) (h:Value),Inv X b f H s->Rel X W H f g->a.os=s.os->AllBare a.gens->Fl X.prog X.w X.stack s.heap H e B a.heap->au H e->e d=none->s.heap.get? d=none →
 iu B X.stack d (.ref c) h a.heap->Ed (.ref c)->X.xe (.ref d) a
section
variable{P:Program}{w:World}{K:yac}{mg:yal}{base:Heap}{N:yah}{qual:Str}{sc:Scope}{f:Addr}{cd:Value}{A:Around}{outer:List Env}{Uv:Shared}{Vl:Hp}{E:XK}
def R5{Ed:Value->Prop}(l:∀c a H',au Vl H'->Ed c->E c a H'):uQ (de (CX1 P w) P w K mg base N qual sc f cd A outer Uv Vl E) Ed:=by
 intro d p H W t s h e c H' B x I r os a F sm j i R k;refine JY (outer:=outer) I.ok.frames rfl R λb g c=>?_
 let m:=I.call' os F.un F.Uk a 47;calc Az (s:=h) (h':=b) m (r.ent.trans sm) j ?_ (λb o q z n=>F.cov b o q (z.elim .inl λh=>(by let⟨a,z⟩:=h;calc .inr (I.base.there b a z (by intro q;cases q)))) n) g c (l _ _ _ (r.ent.trans sm) k);cases q:Uv.heap.get? e with
 |none=>rfl
 |some o =>
  let⟨a,u⟩:=I.base.there e o q 73
  lia
end
section
variable{P:Program}{w:World}{K:yac}{mg:yal}{base:Heap}
structure av(K:yac)(x qual:Str)(st:Stmt)(f:Addr)(fd:FuncData):Prop where
 ex:∃(oc:Value) (od:Option Addr) (dV kV doc pm:Value) (an:Option Addr) (WN ct:Value) (osl:Array (yam)),
  fd=PySem.W.fnOf x qual (cQ st) (bZ st) (aj st) dV kV doc pm an WN ct/\K.lookup f=some ⟨oc,od,.func fd,osl⟩/\PySem.W.codeIn K WN qual=true
 kp:PySem.W.keepIn K (.ref f)=true
def av.okC{x a:Str}{st:Stmt}{f:Addr}{d:FuncData}{N ps:yah}{k:Nat}{sp:DSp}(F:av K x a st f d)(S:aw N ps (aj st))(l:∀b Q E,sp b Q E->#[b]=#[ps])
  (o:∀(c:Value),d.code=c->∀(A:Around) (outer:List Env) (s:Shared) (H:Hp) (E:XK) (Ed:Value->Prop),bH k (A.deeper (envOfC a (aj st) s.heap.objs.size f c))->MadeX (de (CX1 P w) P w K mg base N a (aj st) f c A outer s H E) Ed->cE (de (CX1 P w) P w K mg base N a (aj st) f c A outer s H E) Ed->uQ (de (CX1 P w) P w K mg base N a (aj st) f c A outer s H E) Ed →
   ∃ t,da (de (CX1 P w) P w K mg base N a (aj st) f c A outer s H E) (bZ st) t/\∀b Q,sp b Q Ed->t {nx:=λ_=>Q .UE,rt:=Q} (cH N b)):aA P w K mg base (CX1 P w) (k+1) f d ps (aD K sp):=by
 let⟨C,B,G,kV,u,y,J,c,I,j,rfl,lk,a⟩:=F.ex;refine RU lk a S (λa H Q E h=>?_) λA outer s H a Q E m h=>?_
 let⟨_,b,_,_,_,_,d,e,_⟩:=h;rw[d.len];grind;let⟨r,b,q,Ed,n,p,d,e,i,a⟩:=h;let⟨t,g,k⟩:=o c rfl A outer s H E Ed m (Sd a) (Nu a) (R5 a);calc⟨_,g.ps,⟨r,λ_=>none,λa=>∃o,H a=some o⟩,_,_,Rel.start p d rfl n,k b q e,λb US g TN f r q=>?_,λb g v d f c q=>?_,λ_ _ _ _ _ _ q=>q,λ_ _ _ _ _ _ q=>q⟩;calc i .UE .UE g ⟨λb o e n=>f.kp b o 33 e n,f.tb,f.ok⟩ Den.UE q;calc i d v g ⟨λb o e n=>f.kp b o 33 e n,f.tb,f.ok⟩ (c.UG λt a z=>?_) q;obtain z|z:=z;calc .inl (by rw[f.B];calc z);calc .inr (.inr ⟨z.1,by rw[f.S];calc z.2⟩)
def av.okX{x a:Str}{st:Stmt}{f:Addr}{e:FuncData}{N ps:yah}{k:Nat}{sp:DSp}(F:av K x a st f e)(S:aw N ps (aj st))(d:∀c Q E,sp c Q E->#[c]=#[ps])
  (g:∀(b:Value) (A:Around) (outer:List Env) (s:Shared) (H:Hp) (E:XK) (Ed:Value->Prop),bH k (A.deeper (envOfC a (aj st) s.heap.objs.size f b))->MadeX (de (CX1 P w) P w K mg base N a (aj st) f b A outer s H E) Ed->cE (de (CX1 P w) P w K mg base N a (aj st) f b A outer s H E) Ed->uQ (de (CX1 P w) P w K mg base N a (aj st) f b A outer s H E) Ed →
   ∃ t,da (de (CX1 P w) P w K mg base N a (aj st) f b A outer s H E) (bZ st) t/\∀c Q,sp c Q Ed->t {nx:=λ_=>Q .UE,rt:=Q} (cH N c)):aA P w K mg base (CX1 P w) (k+1) f e ps (aD K sp):=av.okC F S d λb _=>g b
def av.okN{x a:Str}{st:Stmt}{f:Addr}{e:FuncData}{N ps:yah}{k:Nat}{sp:DSp}(F:av K x a st f e)(S:aw N ps (aj st))(d:∀b Q E,sp b Q E->#[b]=#[ps])
  (g:∀(c:Value) (A:Around) (outer:List Env) (s:Shared) (H:Hp) (E:XK),bH k (A.deeper (envOfC a (aj st) s.heap.objs.size f c)) →
   ∃ t,da (de (CX1 P w) P w K mg base N a (aj st) f c A outer s H E).nox (bZ st) t/\∀b Q Ed,sp b Q Ed->t {nx:=λ_=>Q .UE,rt:=Q} (cH N b)):aA P w K mg base (CX1 P w) (k+1) f e ps (aD K sp) :=
 av.okX F S d λc A outer s H E Ed d _ _ _=>by let⟨t,a,k⟩:=g c A outer s H E d;calc⟨t,a.nox,λb Q h=>k b Q Ed h⟩
def mJ{x a:Str}{st:Stmt}{f:Addr}{n:Value}{m j:Option Addr}{d:Array (yam)}{h kV b g e i:Value}(l:K.lookup f=some ⟨n,m,.func (PySem.W.fnOf x a (cQ st) (bZ st) (aj st) h kV b g j e i),d⟩)
  (c:PySem.W.codeIn K e a=true) (k:PySem.W.keepIn K (.ref f)=true):av K x a st f (PySem.W.fnOf x a (cQ st) (bZ st) (aj st) h kV b g j e i):=⟨58,k⟩
end
open PySem PySem.Spec PyProof.Rows L2
def UT(P:Program)(w:World)(K:yac)(mg:yal)(base:Heap)(x:Str)(k:Nat)(ps:yah)(sp:DSp):Prop :=
 ∃ f a,aA P w K mg base (CX1 P w) k f a ps (aD K sp)/\mg x=some (.ref f)/\PySem.W.keepIn K (.ref f)=true/\Binds K a ps []
section
variable{X:Cx}{k:Nat}{ps:yah}{sp:DSp}{x:Str}{p pos:Pos}{e:Expr}{es:yai}{t:DA}
def DJ (h:UT X.prog X.w X.K X.mg X.base x k ps sp) (a:bH k X.A) (i:Zi X (e::es) t) (d:Gl X x:=by rfl) (j:(x==("__debug__" : Str))=false:=by decide)
  (g:starEach (e::es) X.env=(false,eval e X.env)::starEach es X.env:=by rfl) (l:(backTo pos (starEach es X.env)).any (·.1)=false:=by rfl):Ul X (.Call (.Name x p) (e::es) [] pos) (uY sp [] t):=by
 let⟨f,m,F,b,c,f⟩:=h;calc AO (dds:=[]) (dsv:=[]) F a d b c f .nil 52 LB i j g l
def ah (h:UT X.prog X.w X.K X.mg X.base x k ps sp) (a:bH n X.A) (f:Zi X (e::es) t) (b:k<=n:=by decide) (c:Gl X x:=by rfl) (g:(x==("__debug__" : Str))=false:=by decide)
  (d:starEach (e::es) X.env=(false,eval e X.env)::starEach es X.env:=by rfl) (i:(backTo pos (starEach es X.env)).any (·.1)=false:=by rfl):Ul X (.Call (.Name x p) (e::es) [] pos) (uY sp [] t):=DJ h (a.mono b) f c g d i
def tM (a:cE X Ed) (h:UT X.prog X.w X.K X.mg X.base x k ps sp) (b:bH k X.A) (j:Zi X (e::es) t) (g:Gl X x:=by rfl) (l:(x==("__debug__" : Str))=false:=by decide)
  (i:starEach (e::es) X.env=(false,eval e X.env)::starEach es X.env:=by rfl) (m:(backTo pos (starEach es X.env)).any (·.1)=false:=by rfl):Ul X (.Call (.Name x p) (e::es) [] pos) (AH sp Ed [] t):=by
 let⟨f,n,F,c,d,f⟩:=h;calc G3 (dds:=[]) (dsv:=[]) a F b g c d f .nil 52 j l i m
end
theorem OK{CX:CXT}{P:Program}{w:World}{K:yac}{mg:yal}{base:Heap}{N:yah}{a:Str}{b:Scope}{f:Addr}{c:Value}{A:Around}{outer:List Env}{s:Shared}{H:Hp}{E:XK}:(de CX P w K mg base N a b f c A outer s H E).K=K:=rfl
theorem Oc(c:Addr):tyV (.exc c)=.ref c:=rfl
theorem Ho(c:Addr):iW (.exc c)=false:=rfl
def VZ(R:D->D->(D->Prop)->Prop):DSp:=λc Q _=>∃a b,c=[a,b]/\R a b Q
def se:DSp:=λb Q _=>∃a:yaf,b=[.lst false (a.map .int)]/\#[a]<=63/\Q (.bl true)
theorem yG{K:yac}{P:yak}{H:Hp}:∀ns:yaf,aq K P H (ns.map D.int) (ns.map V.int)
 |[]=>aq.nil
 |n::r=>aq.cons (Den.int n) (yG r)
def Hz{K:yac}{H:Hp}{a:Addr}{ns:yaf}(b:#[ns]<=63)(e:SqL K H a (ns.map V.int))(c:jw K H):aD K se [.ref a] H (λv _=>v=.bl true) λ_ _ _=>False :=
 ⟨λ_=>False,[.lst false (ns.map D.int)],λd=>d=.bl true,λ_=>False,c,33,aq.one (Den.lst 33 (.any e) (yG ns)),⟨ns,rfl,b,rfl⟩,λd v H' _ a e=>by subst e;calc a.bl_,λ_ _ _ _ z=>z.elim⟩
def at0{b:Type}(a:b)(r:List b):atI (a::r) 0=some a:=bR (j:=0) rfl
def at1{c:Type}(a b:c)(r:List c):atI (a::b::r) 1=some b:=bR (j:=1) rfl
def at2{d:Type}(a b c:d)(r:List d):atI (a::b::c::r) 2=some c:=bR (j:=2) rfl
def at3{e:Type}(a b c d:e)(r:List e):atI (a::b::c::d::r) 3=some d:=bR (j:=3) rfl
def Kz(a:yar)(i:Int)(Q:D->Prop):gQ (.tup a) (.int i) Q=∃d,atI a i=some d/\Q d:=vD a i Q
def BK(t:Bool)(a:yar)(i:Int)(Q:D->Prop):gQ (.lst t a) (.int i) Q=∃d,atI a i=some d/\Q d:=vD a i Q
section
variable{a b c d:D}{r:yar}{t:Bool}{Q:D->Prop}
theorem rx0:gQ (.tup (a::r)) (.int 0) Q=Q a:=rfl
theorem rx1:gQ (.tup (a::b::r)) (.int 1) Q=Q b:=rfl
theorem rx2:gQ (.tup (a::b::c::r)) (.int 2) Q=Q c:=rfl
theorem rx3:gQ (.tup (a::b::c::d::r)) (.int 3) Q=Q d:=rfl
theorem lx0:gQ (.lst t (a::r)) (.int 0) Q=Q a:=rfl
theorem lx1:gQ (.lst t (a::b::r)) (.int 1) Q=Q b:=rfl
theorem lx2:gQ (.lst t (a::b::c::r)) (.int 2) Q=Q c:=rfl
theorem lx3:gQ (.lst t (a::b::c::d::r)) (.int 3) Q=Q d:=rfl
end
theorem q0(i:Int):aJ (.int i)=.int i:=rfl
theorem KY(b:Bool):aJ (.bl b)=.bl b:=rfl
theorem za:aJ .UE=.UE:=rfl
theorem IX(x:Str):aJ (.str x)=.str x:=rfl
theorem IW(c:Addr):aJ (.exc c)=.exc c:=rfl
theorem IY(a:yar):aJ (.tup a)=.tup (aV a):=rfl
theorem q9(t:Bool)(a:yar):aJ (.lst t a)=.lst false (aV a):=rfl
theorem F8:aV []=[]:=rfl
theorem Dg(d:D)(a:yar):aV (d::a)=aJ d::aV a:=rfl
theorem cK{a:Type}(f:a->D)(h:∀x,aJ (f x)=f x):∀xs:List a,aV (xs.map f)=xs.map f
 |[]=>by rw[zDM,aV]
 |x::r=>by rw[Ya,aV,h,cK f h r]
def mC(ns:yaf):aV (ns.map D.int)=ns.map D.int:=cK _ q0 ns
theorem Ej(C:Int->Int->Prop)(g:Int->Int->D)(i j:Int)(Q:D->Prop):rdI C g (.int i) (.int j) Q=(C i j/\Q (g i j)):=rfl
theorem iC(g:Int->Int->D)(i j:Int)(Q:D->Prop):gP g (.int i) (.int j) Q=Q (g i j):=rfl
theorem O7(d:D)(r:Ro)(Q:D->Prop):lU 0 (some (.val d)::r) Q=Q d:=rfl
theorem O8(n:Nat)(x:Option Sl)(r:Ro)(Q:D->Prop):lU (n+1) (x::r) Q=lU n r Q:=rfl
theorem Sz(x y:Option Sl)(r:Ro):List.set (x::r) 0 y=y::r:=rfl
theorem SA(n:Nat)(x y:Option Sl)(r:Ro):List.set (x::r) (n+1) y=x::List.set r n y:=rfl
def RS(k:Bool)(R:Bool->Prop):(∃c,(D.bl k)=.bl c/\R c)=R k:=by apply propext;constructor;rintro⟨c,e,q⟩;cases e;calc q;intro q;calc⟨k,rfl,q⟩
def Pz(k:Int)(R:Int->Prop):(∃c,(D.int k)=.int c/\R c)=R k:=by apply propext;constructor;rintro⟨c,e,q⟩;cases e;calc q;intro q;calc⟨k,rfl,q⟩
def Mu{a:Type}(k:a)(R:a->Prop):(∃c,some k=some c/\R c)=R k:=by apply propext;constructor;rintro⟨c,e,q⟩;cases e;calc q;intro q;calc⟨k,rfl,q⟩
def Z0(a b c:D):#[([a,b,c]:yar)]<=sizeLine:=by simp_all [VA]
def sz2(a b:D):#[([a,b]:yar)]<=sizeLine:=by simp_all [VA]
theorem sz1(a:D):#[([a]:yar)]<=sizeLine:=by simp_all [VA]
theorem sz4(a b c d:D):#[([a,b,c,d]:yar)]<=sizeLine:=by simp_all [VA]
def MW(t:Bool)(xs:yar)(R:yar->Prop):(∃ys,((∃t',[D.lst t xs]=[.lst t' ys]) ∨ [D.lst t xs]=[.tup ys])/\R ys)=R xs:=by
 apply propext;constructor;rintro⟨c,e,q⟩;rcases e with⟨_,e⟩| e;cases e;calc q;cases e;intro q;calc⟨xs,.inl ⟨t,rfl⟩,q⟩
def MX(xs:yar)(R:yar->Prop):(∃ys,((∃t',[D.tup xs]=[.lst t' ys]) ∨ [D.tup xs]=[.tup ys])/\R ys)=R xs:=by
 apply propext;constructor;rintro⟨c,e,q⟩;rcases e with⟨_,e⟩| e;cases e;cases e;calc q;intro q;calc⟨xs,.inr rfl,q⟩
def QP(a b:D)(R:D->D->Prop):(∃d e,[a,b]=[d,e]/\R d e)=R a b:=by apply propext;constructor;rintro⟨_,_,e,q⟩;cases e;calc q;intro q;calc⟨a,b,rfl,q⟩
theorem D0 (a:yar):isT "tuple" (.tup a)=true:=rfl
theorem Hv (t:Bool) (a:yar):isT "tuple" (.lst t a)=false:=rfl
theorem MO (t:Bool) (a:yar):isT "list" (.lst t a)=true:=rfl
theorem Hu (a:yar):isT "list" (.tup a)=false:=rfl
theorem MN (i:Int):isT "int" (.int i)=true:=rfl
theorem Fd (i:Int):isT "bool" (.int i)=false:=rfl
theorem Hs:iW .UE=true:=rfl
theorem Ht(a:yar):iW (.tup a)=false:=rfl
theorem Hr(t:Bool)(a:yar):iW (.lst t a)=false:=rfl
theorem Hq(i:Int):iW (.int i)=false:=rfl
def Ea(i:Int):okD (.int i):=by ext okD;rw[Xu,plD]<;>first|calc⟨rfl,rfl⟩| (intros;contradiction)
def Eb:okD .UE:=by ext okD;rw[Xu,plD]<;>first|calc⟨rfl,rfl⟩| (intros;contradiction)
def QE(a b c:Int):okD (.tup [.int a,.int b,.int c]):=by calc⟨rfl,rfl⟩
def Hd(a b c x y z:Int):eqD (.tup [.int a,.int b,.int c]) (.tup [.int x,.int y,.int z])=(decide (a=x) && (decide (b=y) && decide (c=z))):=by ext eqD;simp only[Xu,dE,PyData.eqv,PyData.eqvAll,Bool.and_true];rfl
noncomputable abbrev T3(a b c:Int):D:=.tup [.int a,.int b,.int c]
def CD.lit{n:Int}(h:n≠0/\n.natAbs<2 ^ 64:=by decide):CD i n:=⟨h.1,XG h.2 (zCj 23 23)⟩
def NN(a b d:Int)(R:Int->Int->Int->Prop):(∃i j c:Int,[D.int a,D.int b,D.int d]=[.int i,.int j,.int c]/\R i j c)=R a b d:=33
def NM(a b:Int)(R:Int->Int->Prop):(∃i j:Int,[D.int a,D.int b]=[.int i,.int j]/\R i j)=R a b:=by apply propext;constructor;rintro⟨_,_,e,q⟩;cases e;calc q;intro q;calc⟨a,b,rfl,q⟩
def NL(a:Int)(R:Int->Prop):(∃i:Int,[D.int a]=[.int i]/\R i)=R a:=by apply propext;constructor;rintro⟨_,e,q⟩;cases e;calc q;intro q;calc⟨a,rfl,q⟩
def Jr{ns:yaf}{k:Int}(h0:0<=k)(b:k<#[ns]):atI (ns.map D.int) k=some (.int (ns.getD k.toNat 0)):=by
 let e:k=((k.toNat:Nat):Int):=33
 let a:k.toNat<#[ns]:=33
 let q:atI (ns.map D.int) ((k.toNat:Nat):Int)=some (.int (ns.getD k.toNat 0)):=bR (by simp[WA,Wc a,Yu]);rw[<- e]at q;calc q
def CH{xs ys:yaf}(h:xs.map D.int=ys.map D.int):xs=ys:=by
 induction xs generalizing ys with
 |nil=>cbv
 |cons x r ih=>cases ys with
  |nil=>simp at h
  |cons y q =>
   grind
def gdN(n:Nat)(t:DGs)(b:Bool)(a:yar)(h:#[a]=n)(ρ:Ro)(Q:Ro->Prop):dZ n t (.lst b a) ρ Q=t a ρ Q:=by
 ext dZ
 lia
def qq(n:Nat)(t:DGs)(a:yar)(h:#[a]=n)(ρ:Ro)(Q:Ro->Prop):dZ n t (.tup a) ρ Q=t a ρ Q:=by
 apply propext;ext dZ;constructor;rintro⟨b,e,_,h⟩;obtain e|⟨_,e⟩:=e;cases e;calc h;cases e;intro q;calc⟨a,.inl rfl,h,q⟩
def gdc(g:DG)(u:DGs)(x:D)(r:yar)(ρ:Ro)(Q:Ro->Prop):br g u (x::r) ρ Q=g x ρ λa=>u r a Q:=by
 apply propext;ext br;constructor
 cbv
 intro h;calc⟨x,r,rfl,h⟩
def gdn(ρ:Ro)(Q:Ro->Prop):fL [] ρ Q=Q ρ:=by ext fL;simp
def gd2(e d:DG)(f:Bool)(a b:D)(ρ:Ro)(Q:Ro->Prop):dZ 2 (br e (br d fL)) (.lst f [a,b]) ρ Q=e a ρ λc=>d b c Q:=by
 (first|rw[gdN 2 _ _ _ rfl]|rw[gdN 3 _ _ _ rfl]);simp only[gdc,gdn]
def Tc(e d:DG)(a b:D)(ρ:Ro)(Q:Ro->Prop):dZ 2 (br e (br d fL)) (.tup [a,b]) ρ Q=e a ρ λc=>d b c Q:=by
 (first|rw[qq 2 _ _ rfl]|rw[qq 4 _ _ rfl]);simp only[gdc,gdn]
def gd3(g f g3:DG)(h:Bool)(a b c:D)(ρ:Ro)(Q:Ro->Prop):dZ 3 (br g (br f (br g3 fL))) (.lst h [a,b,c]) ρ Q=g a ρ λe=>f b e λd=>g3 c d Q:=by
 (first|rw[gdN 2 _ _ _ rfl]|rw[gdN 3 _ _ _ rfl]);simp only[gdc,gdn]
def PY(i h g3 g:DG)(a b c d:D)(ρ:Ro)(Q:Ro->Prop):dZ 4 (br i (br h (br g3 (br g fL)))) (.tup [a,b,c,d]) ρ Q=i a ρ λf=>h b f λe=>g3 c e λj=>g d j Q:=by
 (first|rw[qq 2 _ _ rfl]|rw[qq 4 _ _ rfl]);simp only[gdc,gdn]
section
variable{X:Cx}{pos:Pos}
def Rel.putG{i:Nat}{o:HO}(r:Rel X W H σ ρ)(E:i<#[σ])(sm:au H H')(B:H p=none)(C:X.K.lookup p=none)(h':H' p=some o)(u:c9 X.K (λt b=>W.bad t b∨b=p) H' (W.sub #[σ] i) x o) :
  Rel X ((W.drop i).put i p) H' (σ.set i (some (.ref p))) (ρ.set i (some (.ob x)))/\Vn W H ((W.drop i).put i p) H':=by
 let g:∀j a,((W.drop i).put i p).O j=some a->(j=i/\a=p)∨(j≠i/\W.O j=some a):=λj a h=>by
  let e:(if j=i then some p else(if j=i then none else W.O j))=some a:=h
  lia
 let m:((W.drop i).put i p).O i=some p:=by show(if i=i then some p else _)=_;lia
 let G:∀j,j≠i->((W.drop i).put i p).O j=W.O j:=λj n=>by show(if j=i then some p else(if j=i then none else W.O j))=_;lia
 let y:∀j k b,W.sub #[σ] j k=some b->((W.drop i).put i p).sub #[σ] j k=some b:=by grind [wM]
 let A:∀t a,((W.drop i).put i p).bad t a->W.bad t a∨a=p:=λt a z=>by
  obtain z|⟨j,z⟩| z:=z;calc .inl (.inl z);rcases g j a z with⟨_,q⟩| ⟨_,q⟩
  cbv
  calc .inl (.inr (.inl ⟨j,q⟩));exact .inl (.inr (.inr z))
 let J:∀{t:Bool} {a:Addr} {c:yaq},XS X.K H t a c->a≠p:=fun {t a c} q z=>by
  rcases q.1 with(q|⟨o,q⟩)|⟨o,TV,n,q,_⟩
  all_goals lia
 let I:∀(d:D) (v:V),Den X.K W.bad H d v->Den X.K ((W.drop i).put i p).bad H' d v:=Den.map (λ_ _ q=>VD.same sm q) (λt a c n q=>⟨58,q.same sm⟩) (λa _ n q=>sm.kp a _ q n.nt);let l:∀(s:yar) (f:yaq),aq X.K W.bad H s f->aq X.K ((W.drop i).put i p).bad H' s f:=aq.map (λ_ _ q=>VD.same sm q) (λt a c n q=>⟨58,q.same sm⟩) (λa _ n q=>sm.kp a _ q n.nt);calc⟨⟨λj d h=>?_,λj x h=>?_,λj k a e s=>?_,λj a e=>?_,λj a e=>?_,λa h=>let ⟨_,q⟩:=r.bt a h;sm.ex q,λa h=>let ⟨_,q⟩:=r.st a h;sm.ex q,r.ent.trans sm,r.tab.same sm⟩,rfl,rfl,λb o _ q n=>sm.kp b o q n,λj a h=>?_,sm.tb,sm.ok⟩;by_cases f:j=i;grind;rw[zAq (Ne.symm f)]at h;let⟨w,e,s⟩:=r.val j d h
 simp_all [zAq,Ne.symm]
 by_cases f:j=i;subst f;rw[List.getElem?_set]at h;split at h;split at h;cases h;calc⟨p,_,m,by simp[E],h',by rw[List.length_set];calc u.UG 58 (y _)⟩;cases h
 lia
 rw[zAq (Ne.symm f)]at h;let⟨a,c,e,s,f,d⟩:=r.own j x h;calc⟨a,c,47,by simp_all [zAq,Ne.symm],sm.kp _ _ f d.mut.nt,by rw[List.length_set];calc d.map l λk b q=>⟨y j k b q,λ_ z=>sm _ _ z⟩⟩;rcases g j a e with⟨d,b⟩| ⟨d,b⟩<;>rcases g k a s with⟨h,f⟩| ⟨h,f⟩
 lia
 let⟨_,_,c,q,_⟩:=r.kn k _ f
 lia
 let⟨_,_,c,q,_⟩:=r.kn j _ b
 lia
 calc r.inj j k a b f;rcases g j a e with⟨d,b⟩| ⟨d,b⟩;subst b;calc⟨C,⟨λz=>(by let⟨o,q⟩:=r.bt _ z;lia),λz=>(by let⟨o,q⟩:=r.st _ z;lia)⟩,_,h',u.mut⟩;let⟨k,i,c,h,f⟩:=r.kn j a b;calc⟨k,i,c,sm.kp _ _ h f.nt,f⟩;rcases g j a e with⟨d,b⟩| ⟨d,b⟩;subst b;calc r.ent.free B;calc r.ke j a b;grind
def Rel.putOwn2{i:Nat}(r:Rel X W H σ ρ)(d:i<#[σ])(sm:au H H')(a:H p=none)(c:X.K.lookup p=none)(h':H' p=some (.lst vs))(e:aq X.K (λt b=>W.bad t b∨b=p) H' ds vs) :
  Rel X ((W.drop i).put i p) H' (σ.set i (some (.ref p))) (ρ.set i (some (.own ds)))/\Vn W H ((W.drop i).put i p) H':=r.putG d sm a c h' (.lst e)
def aq.apart{K:yac}{H:Hp}(n:H a=none)(k:K.lookup a=none)(h:aq K P H e d)(c:NT o:=by calc True.intro):aq K (λt b=>P t b∨b=a) (L2.upd H a o) e d :=
 aq.map (λ_ _ q=>VD.same (au.upd n c) q) (λt b f p q=>⟨(λz=>z.elim p λz=>by
  subst z;rcases q.1 with(q|⟨o,q⟩)|⟨o,TV,m,q,_⟩
  all_goals lia),q.same (au.upd n c)⟩) (λb _ m q=>(au.upd n c).kp b _ q m.nt) e d h
def Rel.mutG{i:Nat}{a:Addr}{o:HO}(r:Rel X W H σ ρ)(J:ρ[i]?=some (some (.ob x)))(m:W.O i=some a)(C:σ[i]?=some (some (.ref a)))(w:H a=some o)(p:kA o)(s:c9 X.K W.bad H (W.sub #[σ] i) x' o') :
  Rel X W (L2.upd H a o') σ (ρ.set i (some (.ob x')))/\Vn W H W (L2.upd H a o'):=by
 let A:∀t,W.bad t a:=λ_=>.inr (.inl ⟨i,m⟩)
 let g:∀b c,VD X.K H b c->VD X.K (L2.upd H a o') b c:=λb c q=>by show L2.upd _ _ _ _=_;rw[aC (vI q w (by intro z;subst z;calc p))];exact q
 let l:∀t b c,¬W.bad t b->XS X.K H t b c->¬W.bad t b/\XS X.K (L2.upd H a o') t b c:=λt b c n q=>by
  let B:b≠a:=58
  calc⟨n,?_,λz=>⟨by rw[aC B];calc(q.2 z).1,(q.2 z).2⟩⟩;rcases q.1 with(q|⟨u,q⟩)|q;calc .inl (.inl (by grind [aC]));calc .inl (.inr ⟨u,by grind [aC]⟩);exact .inr q
 let f:∀b u,Sol u->H b=some u->L2.upd H a o' b=some u:=λb u n q=>by rw[aC (vI q w (by intro z;subst z;calc p.sol n))];lia
 let x:i<#[ρ]:=58;let h:i<#[σ]:=58;let t:∀j k b,W.sub #[σ] j k=some b->W.sub #[σ] j k=some b/\∀d,H b=some (.lst d)->L2.upd H a o' b=some (.lst d):=λj k b q=>⟨q,λd z=>by rw[aC (λe=>wM h (r.inj _ _ a (by rw[<- e];calc q) m))];calc z⟩
 let k:∀b u,H b=some u->∃d,L2.upd H a o' b=some d:=by grind [aW,aC]
 calc⟨⟨λj d h=>?_,λj y h=>?_,r.inj,λj b n=>?_,r.ke,λb n=>let ⟨u,q⟩:=r.bt b n;k b u q,λb n=>let ⟨u,q⟩:=r.st b n;k b u q,r.ent.ins (r.ke i a m) w p s.mut.nt,r.tab.upd s.mut.nt (.inr ⟨o,w,p.ne,p.nt⟩)⟩,Vn.upd m w p s.mut.nt⟩;by_cases k:j=i
 cbv
 rw[zAq (Ne.symm k)]at h;let⟨w,p,o⟩:=r.val j d h;calc⟨w,p,Den.map g l f d w o⟩;by_cases k:j=i;subst k;rw[zCP x]at h;cases h;calc⟨a,o',m,C,aW,s.map (aq.map g l f) (t _)⟩;rw[zAq (Ne.symm k)]at h;let⟨b,c,p,o,I,d⟩:=r.own j y h;let B:b≠a:=λe=>k (r.inj j i a 33 m)
 calc⟨b,c,p,o,by simp_all [aC],d.map (aq.map g l f) (t _)⟩;let⟨e,d,c,G,E⟩:=r.kn j b n;calc⟨e,d,?_⟩;by_cases c:b=a;subst c;calc⟨_,aW,s.mut⟩;grind [aC]
def Rel.mut{i:Nat}{a:Addr}(r:Rel X W H σ ρ)(f:ρ[i]?=some (some (.own ds)))(c:W.O i=some a)(b:σ[i]?=some (some (.ref a)))(e:H a=some (.lst vs))(d:aq X.K W.bad H ds' vs') :
  Rel X W (L2.upd H a (.lst vs')) σ (ρ.set i (some (.own ds')))/\Vn W H W (L2.upd H a (.lst vs')):=r.mutG f c b e True.intro (.lst d)
variable{es:yai}{t:DA}
def OU(i:Nat)(t:DA):DS:=λE a=>t a λb=>#[b]<=sizeLine/\E.nx (a.set i (some (.own b)))
def qi{x:Str}(i:Nat)(n:X.N.Nodup)(h:Zi X es t)(j:X.N[i]?=some x:=by rfl)(l:Loc X.env.scope x:=by first|calc Or.inl rfl|calc Or.inr rfl)
  (hs:swapsWith (.List es V8) (some (.Name x pos')) pos.line X.env=pure false:=by rfl) (m:X.fn x=true∨X.env.scope.names.lookup x=some .local:=by first|calc .inl rfl|calc .inr rfl|assumption) :
  Yb X (.Assign [.Name x pos'] (.List es V8) pos) (OU i t):=by
 intro a s b H W c E I r d;calc wpAny_Assign_Name (wpAny_List_spliced (T9 (h V8 a s b H W c _ I r d) λk d a=>?_)) hs;let⟨f,b,y,c,g,i,h,z,q⟩:=a;rw[<- h.len]at z;calc⟨by rw[<- #[g]];calc z,?_⟩;let a:b d.heap.objs.size=none:=c.Uk.fresh 33;let p:=c.laid (o:=.lst f) (t':=d.toks) (λb u e=>VX _ e) 33 ⟨z,k,0,g,Xg _ rfl⟩;let b:=(r.same i).putOwn2 (Inv.ilt c j) (au.upd (o:=.lst f) a) a (Inv.Xl c) aW (aq.apart a (Inv.Xl c) h);calc gf (v:=.ref d.heap.objs.size) p n j l rfl (λw a=>⟨_,_,_,a,(Vn.same i).trans b.2,_,b.1,q⟩) m
def DC(i:Nat)(te:DE):DS:=λE a=>kK a[i]? λb=>te a λd=>#[b]<sizeLine/\E.nx (a.set i (some (.own (b++[d]))))
def gn{x:Str}{a:Pos}(i:Nat)(f:Ul X e te)(d:X.N[i]?=some x:=by rfl)(hv:Vis X.env.scope x:=by first|calc Or.inl rfl|calc Or.inr (Or.inl rfl)|calc Or.inr (Or.inr rfl))
  (g:(x==("__debug__" : Str))=false:=by decide) (j:(x==("__classdict__" : Str))=false:=by decide)
  (l:attributeBase (.Name x px) "append" X.env (eval (.Name x px) X.env)=eval (.Name x px) X.env:=by rfl)
  (b:((backTo UL (starEach [e] X.env)).all (λx=>!x.1) && (backToKw UL (keywordEach [] X.env)).all (λx=>x.1.isSome) && decide (#[[e]]+#[([]:List Keyword)]+(if([]:List Keyword).isEmpty then 0 else 1)<30))=true:=by rfl)
  (k:(a.endLine==UL.line)=true:=by rfl) (c:starEach [e] X.env=(false,eval e X.env)::starEach [] X.env:=by rfl) (h:(backTo UL (starEach [] X.env)).any (·.1)=false:=by rfl)
  (hs:swapsWith (.Call (.Attribute (.Name x px) "append" a) [e] [] UL) none pos.line X.env=pure false:=by rfl) :
  Yb X (.Expr (.Call (.Attribute (.Name x px) "append" a) [e] [] UL) pos) (DC i te):=by
 let a:=xD (pos:=pos) (LC PySem.F.plainAttrs_list PySem.F.slot_list_append PySem.F.type_list_append yV (kL d hv g j) (rO f.pe BF c) l b k c h) hs;refine Yb.of a λm H W c E r n h=>?_
 let⟨d,j,h⟩:=rN h;let⟨a,f,k,g,b,l⟩:=r.ownL i d j;calc⟨.ref a,g,.inl ⟨rfl,_,SqL.of b⟩,W,c,_,r,h,λv H' d d e q=>?_⟩;let⟨z,q⟩:=q;let c:=d _ _ b;let h:=r.same d;let b:=l.same d;calc⟨a,f,v,rfl,rfl,c,by rw[b.len];calc z,?_⟩;let⟨a,i⟩:=h.mut (vs':=f++[v]) j k g c (b.append (aq.one e));calc⟨W,_,(Vn.same d).trans i,a,q⟩
def Rel.freeze{X:Cx}{i:Nat}(r:Rel X W H σ ρ)(e:ρ[i]?=some (some (.own ds))):Rel X (W.drop i) H σ (ρ.set i (some (.val (.lst true ds)))):=by
 let⟨a,m,b,n,h,k⟩:=r.ownL i ds e;let f:i<#[σ]:=58;let g:i<#[ρ]:=58;let e:¬(W.drop i).bad true a:=λz=>by
  obtain z|⟨j,z⟩| ⟨_,z⟩:=z
  rotate_right
  calc(r.kn i a b).2.1.2 z;calc(r.kn i a b).2.1.1 z;let c:(if j=i then none else W.O j)=some a:=z;by_cases d:j=i
  lia
  rw[TM d]at c;exact d (r.inj j i a c b)
 let o:Den X.K (W.drop i).bad H (.lst true ds) (.ref a):=Den.lst e (.new h (r.kn i a b).1) (k.UG λ_ _=>Own.Wm);calc⟨λj x h=>?_,λj x h=>?_,λj k b a d=>?_,λj b a=>?_,λj b a=>?_,r.bt,r.st,r.ent,r.tab⟩;by_cases c:j=i
 cbv
 rw[zAq (Ne.symm c)]at h;let⟨w,a,d⟩:=r.val j x h;calc⟨w,a,d.UG λ_ _=>Own.Wm⟩;by_cases c:j=i
 cbv
 rw[zAq (Ne.symm c)]at h;let⟨b,c,a,d,l,e⟩:=r.own j x h;calc⟨b,c,by show(if j=i then none else W.O j)=_;lia,d,l,e.UG (λ_ _=>Own.Wm) (Own.ZW f)⟩;let c:(if j=i then none else W.O j)=some b:=a;let e:(if k=i then none else W.O k)=some b:=d;by_cases d:j=i
 lia
 by_cases f:k=i
 lia
 rw[TM d]at c;rw[TM f]at e;calc r.inj j k b c e;let c:(if j=i then none else W.O j)=some b:=a;by_cases d:j=i
 lia
 rw[TM d]at c;calc r.kn j b c;let c:(if j=i then none else W.O j)=some b:=a;by_cases d:j=i
 lia
 rw[TM d]at c;calc r.ke j b c
def DF(i:Nat)(t:DS):DS:=λE a=>kK a[i]? λb=>t E (a.set i (some (.val (.lst true b))))
def gM{t:DS}(i:Nat)(h:da X sts t):da X sts (DF i t):=by intro a s c H W d E I r b;let⟨f,e,b⟩:=rN b;calc T9 (h a s c H (W.drop i) _ E I (r.freeze e) b) λ_ _ z=>z.up (Vn.drop W H i)
end
noncomputable def cf(env:Env)(ns:yah):List (Str×Addr):=ns.filterMap λn=>(env.cells.lookup n).map λc=>(n,c)
theorem kF:∀{ns:yah} {x:Str} {c:Addr},(cf env ns).lookup x=some c->env.cells.lookup x=some c
 |[],_,_,h=>by cases h
 |n::r,x,c,h=>by
  unfold cf at h;rw[zDH]at h;cases e:env.cells.lookup n with
  |none =>
   rw[e]at h;calc kF (ns:=r) h
  |some b =>
   rw[e]at h;let a:List.lookup x ((n,b)::cf env r)=some c:=h;rw[zBi]at a;cases q:x==n with
   |true =>
    lia
   |false =>
    rw[q]at a;calc kF (ns:=r) a
theorem kE{env:Env}:∀{ns:yah} {x:Str} {c:Addr},x∈ns->env.cells.lookup x=some c->(cf env ns).lookup x=some c
 |[],_,_,h,_=>by cases h
 |n::r,x,c,h,e=>by
  ext cf;rw[zDH];by_cases a:x=n;subst a;rw[e];show List.lookup x ((x,c)::_)=some c;simp[zBi];let b:x∈r:=by
   obtain z|z:=VC.mp h;calc absurd z a;exact z
  let ih:=kE (ns:=r) b e;cases q:env.cells.lookup n with
  |none=>calc ih
  |some b =>
   show List.lookup x ((n,b)::cf env r)=some c;rw[zBi];have:(x==n)=false:=by simpa using a
   rw[this];calc ih
structure CSc(osc sc:Scope)(xs ns:yah):Prop where
 kind:sc.kind=.function
 Zz:∀y∈sc.names,y.2 ≠ .cell
 names:∀y∈sc.names,y.2=.local->sc.names.lookup y.1=some .local
 tgt:∀x∈xs,sc.names.lookup x=some .local
 free:∀y∈sc.names,y.2=.free->y.1∈ns/\osc.names.lookup y.1=some .cell
 cells:∀n∈ns,sc.names.lookup n=some .free/\osc.names.lookup n=some .cell
 nd:(xs++ns).Nodup
def bq(X:Cx)(a:Scope)(ns xs:yah)(C:Addr)(c:Shared)(d:Hp)(fp:yae)(b:yaa):Cx :=
 {X with N:=xs++ns,Uv:=c,Vl:=d,env:=compEnvC a (cf X.env ns) C X.env,outer:=X.stack,stack:=X.stack,ex:=fp,fn:=λ_=>false,pn:=[],xe:=b}
theorem mU{env:Env}(b:env.scope.kind=.function):∀{a:List (Str×NameKind)} {n:Str},a.lookup n=some .free->env.kindOf n=some .cell →
  (a.map λ(n,k)=>if(k==NameKind.free && env.scope.kind==.function && env.kindOf n==some .cell)then(n,NameKind.cell)else(n,k)).lookup n=some .cell
 |[],_,h,_=>by simp at h
 |(m,k)::r,n,h,a=>by
  let ih:=@mU env b r n;show List.lookup n ((if(k==NameKind.free && env.scope.kind==.function && env.kindOf m==some .cell)=true then(m,NameKind.cell)else(m,k))::_)=_;cases hx:n==m with
  |true =>
   simp only[zBi,hx]at h;cases h;let e:n=m:=by simpa using hx
   subst e;rw[b,a];simp[zBi]
  |false =>
   simp only[zBi,hx]at h;by_cases b:(k==NameKind.free && env.scope.kind==.function && env.kindOf m==some .cell)=true;rw[TU b];simp only[zBi,hx];calc ih h a;rw[TM b];simp only[zBi,hx];calc ih h a
theorem lY{env:Env}:∀{a:List (Str×NameKind)} {n:Str} {k:NameKind},
  (a.map λ(n,k)=>if(k==NameKind.free && env.scope.kind==.function && env.kindOf n==some .cell)then(n,NameKind.cell)else(n,k)).lookup n=some k->(k=.cell∨k=.free) →
  (∃y∈a,y.1=n/\y.2=.free)∨∃ y∈a,y.1=n/\y.2=.cell
 |[],_,_,h,_=>by simp at h
 |(m,j)::r,n,k,h,b=>by
  let a:List.lookup n ((if(j==NameKind.free && env.scope.kind==.function && env.kindOf m==some .cell)=true then(m,NameKind.cell)else(m,j))::(r.map λ(n,k)=>if(k==NameKind.free && env.scope.kind==.function && env.kindOf n==some .cell)then(n,NameKind.cell)else(n,k)))=some k:=h;let d:((∃y∈r,y.1=n/\y.2=.free)∨∃ y∈r,y.1=n/\y.2=.cell)->((∃y∈(m,j)::r,y.1=n/\y.2=.free)∨∃ y∈(m,j)::r,y.1=n/\y.2=.cell):=λz=>by
   rcases z with⟨y,c,q⟩| ⟨y,c,q⟩;calc .inl ⟨y,W9 _ c,q⟩;exact .inr ⟨y,W9 _ c,q⟩
  cases hx:n==m with
  |true =>
   let e:n=m:=by simpa using hx
   subst e;by_cases c:(j==NameKind.free && env.scope.kind==.function && env.kindOf n==some .cell)=true;have:j=.free:=by simp only[zB0]at c;exact beq_iff_eq.mp c.1.1
   calc .inl ⟨(n,j),ZN,rfl,this⟩;rw[TM c]at a;simp only[zBi,hx]at a;cases a;obtain b|b:=b;calc .inr ⟨(n,j),ZN,rfl,b⟩;calc .inl ⟨(n,j),ZN,rfl,b⟩
  |false =>
   by_cases c:(j==NameKind.free && env.scope.kind==.function && env.kindOf m==some .cell)=true;rw[TU c]at a;simp only[zBi,hx]at a;calc d (lY a b);rw[TM c]at a;simp only[zBi,hx]at a;calc d (lY a b)
def aZ(ρ:Ro)(j:Nat):Option Sl:=match ρ[j]? with
 |some (some (.val d))=>some (.val d)
 |_=>none
def dj(a:St)(j:Nat):Option V:=match a[j]? with
 |some (some v)=>some v
 |_=>none
section
variable{X:Cx}{pins:yab}{σ:St}{H:Hp}{s:Shared}{sc:Scope}{ns:yah}{js:yag}{xs:yah}{fp:yae}
def Inv.comp{w:Shared}{a:Hp}{C:Addr}(I:Inv X pins σ H s)(S:CSc X.env.scope sc xs ns)(U:#[js]=#[ns]/\∀(i:Nat) (j:Nat) (n:Str),js[i]?=some j->ns[i]?=some n->X.N[j]?=some n)(l:∀b∈fp,cJ X pins H b)(M:∀b∈fp,∃o,s.heap.get? b=some o)(hC:s.heap.objs.size<=C)
  (L:w.os=s.os) (hg:AllBare w.gens) (B:∀b o,s.heap.get? b=some o->w.heap.get? b=some o) (XR:w.heap.Ns C λ_=>none) (N:a C=none) (hs:au H a) (f:∀b o,s.heap.get? b=some o->H b=none->a b=none) (Uk:WR X.prog X.w a w.heap) :
  Inv (bq X sc ns xs C s H fp XE) [] (List.replicate #[xs] none++js.map (dj σ)) a w:=by
 let kd:X.env.scope.kind=.function:=I.ok.kind;let d:∀y c,(cf X.env ns).lookup y=some c->X.env.cells.lookup y=some c:=λy c e=>kF e
 let g:∀y c,(cf X.env ns).lookup y=some c->∃v,s.heap.IsCell c v:=λy c e=>I.cell y c (d y c e)
 refine⟨⟨I.ok.mod,S.kind,I.ok.glob,I.ok.blt,hC,λy z c r E=>I.ok.inj y z c (d y c r) (d z c E),λy A=>?_,λy c h _=>(by cases h),I.ok.hd,I.ok.frames,.inl rfl,λb q=>?_,I.bs,Xb I.ok.bsz I.sz,λb o e q=>?_,λb q z=>?_,I.stack,I.YK⟩,
  L,hg,⟨λb o e n _ _=>B b o e,λb o e n _ _=>⟨o.slots,B b o e⟩,λb o e n _=>f b o e n,λb o e _=>⟨o,B b o e⟩,λb xs e=>hs b _ e,λb o u e=>hs b _ e,λb h e=>hs.tb b h e⟩,⟨_,XR,λi y v r E h3=>?_⟩,λy c e=>?_,N,λy c e=>?_,λp h=>absurd (show p∈([]:yab)from h) 52,Uk,?_⟩
 -- every cell of the block is one of the body's
 let Zw:∃k,((relabel sc X.env).names.lookup y=some k)/\(k=.cell∨k=.free):=by
  obtain A|A:=A;calc⟨_,A,.inl rfl⟩;exact⟨_,A,.inr rfl⟩
 let⟨k,r,E⟩:=Zw;rcases lY (env:=X.env) r E with⟨z,J,G,O⟩| ⟨z,J,G,O⟩;let⟨m1,m2⟩:=S.free z J O;subst G;let⟨c,hc⟩:=I.ok.has z.1 (.inl m2);calc⟨c,kE m1 hc⟩;calc absurd O (S.Zz z J);calc⟨λz=>?_,λy c e z=>?_⟩;let z':b=C:=z;let⟨o,h⟩:=M b q;let Wx:=U5 h
 lia
 calc(l b q).2.2.2.2.1 y c (d y c e) z;let⟨f0,f1,f2,p,f4,f5⟩:=l b q;obtain p|p:=p;calc I.ok.noex b o e p;exact absurd (XG (U5 (I.ok.bs b o e).1) p) (zBs _)
 ·let⟨f0,f1,f2,p,f4,f5⟩:=l b q;rcases VC.mp (I.Yk b z)with e|e
  all_goals lia
 by_cases hi:i<#[xs]
 simp_all [zAo,zCM,TU]
 let T:ns[i - #[xs]]?=some y:=by
  let r:(xs++ns)[i]?=some y:=r
  simp_all [zAr]
 let t:(js.map (dj σ))[i - #[xs]]?=some (some v):=by simp_all [zAr]
 generalize i - #[xs]=i at T t;rw[WA]at t;cases e:js[i]? with
 |none=>rw[e]at t;cases t
 |some j =>
  rw[e]at t;let h4:dj σ j=some v:=ZI t;let h5:σ[j]?=some (some v):=by
   unfold dj at h4
   lia
  let hN:=U.2 i j y e T;let x:y∈ns:=Xf T;let⟨c1,Q⟩:=S.cells y x;let⟨m,hm,hl⟩:=I.loc;let⟨u,ru,lk⟩:=hl j y v hN h5 (.inr (.inl Q));calc⟨u,ru,?_⟩;rcases lk with⟨k1,_⟩| ⟨_,c,G,o,h,m⟩;let Y:X.env.scope.names.lookup y=some .local:=k1;rw[Q]at Y;cases Y;exact .inr ⟨.inl (mU kd c1 Q),c,kE x G,o,B c o h,m⟩
 let⟨v,z⟩:=g y c e;let⟨o,h,m⟩:=z;calc⟨v,o,B c o h,m⟩;let⟨v,o,h,m⟩:=g y c e;calc f c o h (I.Xi y c (d y c e));show#[List.replicate #[xs] none++js.map (dj σ)]=#[xs++ns];simp[U.1]
def TsD(X:Cx)(a:yai)(t:DT):Prop :=
 ∀ (pins:yab) (s:Shared) (σ:St) (H:Hp) (W:Own) (b:Ro) (Q:Bool->Prop),Inv X pins σ H s->Rel X W H σ b->t b Q →
  wpAny (model X.prog X.w) X.A (forIn a true λc r=>if r=true then do let ok←isTrue c X.env (eval c X.env);pure (ForInStep.yield ok)else pure (ForInStep.yield r)) (DTP X pins σ H Q) X.xe s
def xb:DT:=λ_ Q=>Q true
def bK{X:Cx}:TsD X [] xb:=λ_ s σ H W a Q I r h=>wpAny_tests_nil ⟨H,I,au.refl H,h⟩
def qZ{X:Cx}(h:ZX X c t):TsD X [c] t:=λpins s σ H W a Q I r q=>wpAny_tests_one (h pins s σ H W a Q I r q)
def ky(n:Nat)(b ρ:Ro):Prop:=∃a:Ro,#[a]=n/\ρ=a++b
def GO{s:Shared}{R:Result->Shared->Prop}{i:Expr}{j:Value}(I:Nat->Shared->Prop)
  (b:∀n s,I n s->wpAny (model prog w) A (pyNext it) (λr l=>match r with
   |none=>R (.ok .next) l
   |some v=>wpAny (model prog w) A (letOwnedTupleGo target it v) (λ_ a=>wpAny (model prog w) A (assign target env v) (λ_ o =>
     wpAny (model prog w) A (forIn ifs true λc r=>if r=true then do let g←isTrue c env (eval c env);pure (ForInStep.yield g)else pure (ForInStep.yield r)) (λg k=>if g=true then wpAny (model prog w) A (eval elt env) (λx f =>
       wpAny (model prog w) A (call (.builtin "list.append") [j,x]) (λ_ d=>∃m,m<n/\I m d) (notedBy (model prog w) A env λe z=>R (.error e) z) f) (notedBy (model prog w) A env λe z=>R (.error e) z) k
      else∃m,m<n/\I m k) (notedBy (model prog w) A env λe z=>R (.error e) z) o) (notedBy (model prog w) A env λe z=>R (.error e) z) a) (notedBy (model prog w) A env λe z=>R (.error e) z) l) (notedBy (model prog w) A env λe z=>R (.error e) z) s)
  (n:Nat) (h:I n s):codeAny (model prog w) A (.compLoop (.ListComp elt [⟨target,i,ifs,0⟩] scope pos) 0 it j env) R s:=by
 calc codeAny_loop rfl I (λm z a=>?_) n h;calc wpAny_noted ?_;calc TJ (wpAny_standAt (TJ (Yz (b m z a) (λr E a=>?_) λ_ _ q=>q)));cases r with
 |none=>calc T5 a
 |some v =>
  calc TJ (Yz a (λ_ C a=>?_) λ_ _ q=>q);calc TJ (Yz a (λ_ B g3=>TJ (Yz g3 (λg u a=>?_) λ_ _ q=>q)) λ_ _ q=>q);cases g with
  |false=>calc T5 ⟨rfl,a⟩
  |true=>calc TJ (TJ (Yz a (λy t a=>TJ (Yz a (λ_ p a=>T5 (T5 ⟨rfl,a⟩)) λ_ _ q=>q)) λ_ _ q=>q))
def Rel.mutB{X:Cx}{H:Hp}{σ:St}(r:Rel X W H σ ρ)(d:W.B a)(i:H a=some (.lst vs))(h0:X.Vl a=none) :
  Rel X W (L2.upd H a (.lst vs')) σ ρ/\∀b l,aq X.K W.bad H b l->aq X.K W.bad (L2.upd H a (.lst vs')) b l:=by
 let f:∀b c,VD X.K H b c->VD X.K (L2.upd H a (.lst vs')) b c:=λb c q=>by show L2.upd _ _ _ _=_;rw[aC (vI q i 33)];exact q
 let g:∀t b c,¬W.bad t b->XS X.K H t b c->¬W.bad t b/\XS X.K (L2.upd H a (.lst vs')) t b c:=λt b c n q=>by
  let c:b≠a:=λe=>n (.inl (e ▸ d))
  calc⟨n,?_,λz=>⟨by rw[aC c];calc(q.2 z).1,(q.2 z).2⟩⟩;rcases q.1 with(q|⟨o,q⟩)|q;calc .inl (.inl (by simp_all [aC]));calc .inl (.inr (by grind [aC]));exact .inr q
 let c:∀b u,Sol u->H b=some u->L2.upd H a (.lst vs') b=some u:=λb u n q=>by rw[aC (vI q i (by intro z;subst z;calc n))];lia
 let k:∀b o,H b=some o->∃d,L2.upd H a (.lst vs') b=some d:=by grind [aW,aC]
 calc⟨⟨λj d h=>?_,λj y h=>?_,r.inj,λj b a=>?_,r.ke,λb a=>let ⟨o,q⟩:=r.bt b a;k b o q,λb a=>let ⟨o,q⟩:=r.st b a;k b o q,r.ent.ins h0 i True.intro True.intro,r.tab.upd True.intro (.inr ⟨_,i,33,True.intro⟩)⟩,aq.map f g c⟩;let⟨v,i,k⟩:=r.val j d h;calc⟨v,i,Den.map f g c d v k⟩;let⟨b,o,i,k,A,d⟩:=r.own j y h;calc⟨b,o,i,k,by rw[aC (λe=>(r.kn j b i).2.1.1 33)];lia,d.map (aq.map f g c) λk c q=>⟨q,λl z=>by rw[aC (λe=>(r.kn _ c q).2.1.1 33)];calc z⟩⟩;let⟨x,w,o,p,m⟩:=r.kn j b a;grind [aC]
def zT(X:Cx)(sc:Scope)(ns:yah)(RR:Value->Addr->Result->Shared->Prop)(D C:Addr):yaa:=notedBy (model X.prog X.w) X.A (compEnvC sc (cf X.env ns) C X.env) λe a=>RR (.ref D) C (.error e) a
def cE.no{X:Cx}:cE X λ_=>False:=λ_ _ _ _ _ _ _ _ _ _ h=>by let⟨_,_,_,_,_,_,_,_,_,_,_,_,_,z⟩:=h;calc z.elim
end
abbrev DM:=Ro->(LI->Prop)->Prop
def SU(K:yac)(P:yak)(H H':Hp):LI->V->Prop
 |.own d,v=>∃a c,v=.ref a/\H a=none/\K.lookup a=none/\H' a=some (.lst c)/\aq K (λt b=>P t b∨b=a) H' d c
 |.val d,v=>Den K P H' d v
inductive MDP (X:Cx) (pins:yab) (σ:St) (W:Own) (H:Hp) (Q:LI->Prop) (u:Value) (s':Shared):Prop
 |mk (v:V) (H':Hp) (li:LI) (_:Inv X pins σ H' s') (_:RelV v u) (_:au H H') (_:SU X.K W.bad H H' li v) (_:Q li)
def PEM(X:Cx)(e:Expr)(t:DM):Prop :=
 ∀ (a:yab) (s:Shared) (b:St) (H:Hp) (W:Own) (c:Ro) (Q:LI->Prop),Inv X a b H s->Rel X W H b c->t c Q →
  wpAny (model X.prog X.w) X.A (eval e X.env) (MDP X a b W H Q) X.xe s
structure ix(K:yac)(H:Hp)(D:Addr)(n:Nat)(bs:yaj):Prop where
 ok:∀k b,bs k=some b->k<n/\H b=none/\K.lookup b=none/\b≠D
 inj:∀k l b,bs k=some b->bs l=some b->k=l
def ix.nil{K:yac}{H:Hp}{D:Addr}{n:Nat}:ix K H D n λ_=>none:=⟨33,33⟩
def ix.up{K:yac}{H:Hp}{D:Addr}{n m:Nat}{bs:yaj}(h:ix K H D n bs)(l:n<=m):ix K H D m bs:=⟨λk b q=>let ⟨a,r⟩:=h.ok k b q;⟨XG a l,r⟩,h.inj⟩
def ix.put{K:yac}{H:Hp}{D a:Addr}{c:List LI}{x:LI}{bs:yaj}(h:ix K H D #[c] bs)(n:H a=none)(k:K.lookup a=none)(d:a≠D)(f:∀k,bs k=some a->False) :
  ix K H D #[c++[x]] λk=>if k=#[c] then some a else bs k:=⟨λl b q=>by
  rw[Xh,zCV];by_cases e:l=#[c];rw[TU e]at q;cases q;calc⟨33,n,k,d⟩;rw[TM e]at q;let⟨i,a⟩:=h.ok l b q;calc⟨33,a⟩,λl m b d a=>by
  by_cases g:l=#[c];by_cases e:m=#[c];rw[g,e];rw[TU g]at d;rw[TM e]at a;cases d;calc(f m a).elim;by_cases e:m=#[c];rw[TM g]at d;rw[TU e]at a;cases a;calc(f l d).elim;rw[TM g]at d;rw[TM e]at a;calc h.inj l m b d a⟩
section
variable{K:yac}{P:yak}{H:Hp}{B:yaj}
theorem bA.YV(f:Den K P H d v):∀{k:Nat} {xs:List LI} {vs:yaq},bA K P H B k xs vs->bA K P H B k (xs++[.val d]) (vs++[v])
 |k,[],_,h=>by subst h;simp only[zBv,bA];cbv
 |k,.own i::r,_,h=>by let⟨b,d,u,rfl,c,a,g,e⟩:=h;calc⟨b,d,_,rfl,c,a,g,bA.YV f e⟩
 |k,.val e::r,_,h=>by let⟨w,u,rfl,c,a⟩:=h;calc⟨w,_,rfl,c,bA.YV f a⟩
theorem bA.YW{a:Addr}:∀{k:Nat} {xs:List LI} {vs:yaq},bA K P H B k xs vs->B (k+#[xs])=some a->H a=some (.lst ws)->aq K P H ds ws->bA K P H B k (xs++[.own ds]) (vs++[.ref a])
 |k,[],_,h,f,d,c=>by subst h;calc⟨a,ws,[],rfl,47,d,c,rfl⟩
 |k,.own l::r,_,h,f,d,c=>by let⟨b,e,u,rfl,g,a,j,i⟩:=h;calc⟨b,e,_,rfl,g,a,j,bA.YW i (by rw[<- f];congr 1;simp;lia) d c⟩
 |k,.val e::r,_,h,f,d,c=>by let⟨w,u,rfl,g,a⟩:=h;calc⟨w,_,rfl,g,bA.YW a (by rw[<- f];congr 1;simp;lia) d c⟩
end
section
variable{X:Cx}
def Rel.ban{o:HO}(r:Rel X W H σ ρ)(sm:au H H')(A:H p=none)(B:X.K.lookup p=none)(h':H' p=some o) :
  Rel X ⟨λb=>W.B b∨b=p,W.O,W.S⟩ H' σ ρ/\∀g vs,aq X.K W.bad H g vs->aq X.K (Own.bad ⟨λb=>W.B b∨b=p,W.O,W.S⟩) H' g vs:=by
 let i:∀t a,Own.bad ⟨λb=>W.B b∨b=p,W.O,W.S⟩ t a->W.bad t a∨a=p:=λt a z=>by
  rcases z with(z|z)|z|z;exact .inl (.inl z)
  lia
  calc .inl (.inr (.inl z));exact .inl (.inr (.inr z))
 let s:∀{t:Bool} {a:Addr} {c:yaq},XS X.K H t a c->a≠p:=fun {t a c} q z=>by
  rcases q.1 with(q|⟨o,q⟩)|⟨o,TV,n,q,_⟩
  all_goals lia
 let m:∀(d:D) (v:V),Den X.K W.bad H d v->Den X.K (Own.bad ⟨λb=>W.B b∨b=p,W.O,W.S⟩) H' d v:=Den.map (λ_ _ q=>VD.same sm q) (λt a c n q=>⟨58,q.same sm⟩) (λa _ n q=>sm.kp a _ q n.nt);let f:∀(g:yar) (e:yaq),aq X.K W.bad H g e->aq X.K (Own.bad ⟨λb=>W.B b∨b=p,W.O,W.S⟩) H' g e:=aq.map (λ_ _ q=>VD.same sm q) (λt a c n q=>⟨58,q.same sm⟩) (λa _ n q=>sm.kp a _ q n.nt);calc⟨⟨λj d h=>?_,λj x h=>?_,r.inj,λj a e=>?_,r.ke,λa h=>?_,λa h=>let ⟨_,q⟩:=r.st a h;sm.ex q,r.ent.trans sm,r.tab.same sm⟩,f⟩;let⟨w,e,g⟩:=r.val j d h
 cbv
 let⟨a,c,e,g,k,d⟩:=r.own j x h;calc⟨a,c,e,g,sm.kp _ _ k d.mut.nt,d.map f λl b q=>⟨q,λ_ z=>sm _ _ z⟩⟩;let⟨f,⟨y,u⟩,c,d,b⟩:=r.kn j a e;calc⟨f,33,c,sm.kp _ _ d b.nt,b⟩;obtain h|h:=h;let⟨_,q⟩:=r.bt a h;calc sm.ex q;grind
end
section
variable{X:Cx}{pins:yab}{σ:St}{H:Hp}{s:Shared}{sc:Scope}{ns:yah}{js:yag}{xs:yah}{fp:yae}
def cxG(X:Cx)(sc:Scope)(ns xs:yah)(cl:List (Str×Addr))(fn:Str->Bool)(C:Addr)(b:Shared)(c:Hp)(fp:yae)(a:yaa):Cx :=
 {X with N:=xs++ns,Uv:=b,Vl:=c,env:=compEnvC sc cl C X.env,outer:=X.stack,stack:=X.stack,ex:=fp,fn:=fn,pn:=[],xe:=a}
def eW(X:Cx)(sc:Scope)(cl:List (Str×Addr))(RR:Value->Addr->Result->Shared->Prop)(D C:Addr):yaa:=notedBy (model X.prog X.w) X.A (compEnvC sc cl C X.env) λe a=>RR (.ref D) C (.error e) a
inductive CLI (K:yac) (Y:Cx) (H:Hp) (fp:yae) (Ad:Addr) (ds:yar) (W':Own) (tn:Nat->Heap->Prop) (m:Nat) (cp:Ro) (Pv:Nat->List LI->Prop) (n:Nat) (s':Shared):Prop
 |mk (i:Nat) (W2:Own) (σ2:St) (ρ2:Ro) (H':Hp) (out:List LI) (vs:yaq) (bs:yaj) (_:n=#[ds] - i) (_:i<=#[ds]) (_:Inv Y [] σ2 H' s') (_:tn i s'.heap) (_:∀b∈fp,H' b=none) (_:H' Ad=some (.lst vs)) (_:W2.B=(λa=>W'.B a∨∃ k,bs k=some a)/\W2.S=W'.S) (_:ix K H Ad #[out] bs) (_:∀k b,bs k=some b->∃us,H' b=some (.lst us)) (_:bA K W2.bad H' bs 0 out vs) (_:au H H') (_:Rel Y W2 H' σ2 ρ2) (_:ky m cp ρ2) (_:Pv i out) (_:#[out]<=i)
set_option tactic.hygienic true in
def GQ{m:Expr}{We:Heap}(hc:X.calm=true)
  (he:PEM (cxG X sc ns xs cl fn C s H fp (eW X sc cl RR w C)) elt te) (ht:TsD (cxG X sc ns xs cl fn C s H fp (eW X sc cl RR w C)) ifs tc) (hg:PGD (cxG X sc ns xs cl fn C s H fp (eW X sc cl RR w C)) tg g) (I:Inv X pins σ H s) (r:Rel X W H σ ρ) (T:Turn X.prog X.w X.K tg J fp it tn) (st:tn 0 s.heap) (M:∀b∈fp,cJ X pins H b) (yd:YD X.K W H J U) (hz:#[U]<=sizeLine)
  (Pv:Nat->List LI->Prop) (p0:Pv 0 []) (step:∀j d f a,U[j]?=some d->Pv j f->ky #[xs] (js.map (aZ ρ)) a->g d a λl=>ky #[xs] (js.map (aZ ρ)) l/\tc l λb=>if b=true then te l (λe=>Pv (j+1) (f++[e]))else Pv (j+1) f)
  (hRR:∀(h:Shared) (H':Hp) (i:yal) (f:List LI) (bs:yaj),Inv X pins σ H' h->au H H'->h.heap.Ns C i->H' C=none->C≠X.env.locals->X.Uv.heap.objs.size<=C->(∀y c,X.env.cells.lookup y=some c->c≠C)->(∀p∈X.pn++pins,p.1≠C) →
   (H w=none/\X.K.lookup w=none/\∃vs,H' w=some (.lst vs)/\ix X.K H w #[f] bs/\(∀k b,bs k=some b->∃B,H' b=some (.lst B))/\bA X.K (λt b=>W.bad t b∨b=w∨∃ k,bs k=some b) H' bs 0 f vs)->Pv #[U] f->RR (.ref w) C (.ok .next) h)
  (E:H w=none) (hKD:X.K.lookup w=none) (leD:s.heap.objs.size<=w) (ZA:s.heap.objs.size<=C) (old:∀b o,s.heap.get? b=some o->We.get? b=some o) (hcl:∀y c,cl.lookup y=some c->X.env.cells.lookup y=some c∨s.heap.objs.size<=c)
  (I1:Inv (cxG X sc ns xs cl fn C s H fp (eW X sc cl RR w C)) [] (List.replicate #[xs] none++js.map (dj σ)) (L2.upd H w (.lst [])) {s with heap:=We,toks:=s.toks+#[([]:List (Str×Value))]}) :
  codeAny (model X.prog X.w) X.A (.compStart (.ListComp elt [⟨tg,m,ifs,0⟩] sc pos) 0 (.ref it) (.ref w) (compEnvC sc cl C X.env)) (RR (.ref w) C) {s with heap:=We,toks:=s.toks+#[([]:List (Str×Value))]}:=by
 let O:∀b∈fp,∃o,s.heap.get? b=some o:=λb A=>let ⟨o,e,_⟩:=T.obj 0 s.heap st b A;⟨o,e⟩
 let g:∀{a:Addr} {ws:yaq},SqL X.K H a ws->a≠w:=fun {a ws} q z=>by
  subst z;rcases q with(q|⟨o,q⟩)|⟨o,TV,n,q,_⟩;rw[E]at q;cases q;rw[E]at q;cases q;rw[hKD]at q;cases q
 let' G:Own:=⟨λa=>W.bad false a∨a=w,λ_=>none,W.S⟩
 let bad':∀t a,G.bad t a↔(W.bad t a∨a=w):=λt a=>⟨λz=>by
  rcases z with(z|z)|⟨_,q⟩| ⟨z1,Y⟩;calc .inl (Own.Zx z);calc .inr z;cases q;calc .inl (.inr (.inr ⟨z1,Y⟩)),λz=>by
  obtain z|z:=z;obtain z|z|z:=z;calc .inl (.inl (.inl z));calc .inl (.inl (.inr (.inl z)));calc .inr (.inr z);calc .inl (.inr z)⟩
 let hT:∀{H':Hp},au H H'->∀a vs,VD X.K H a vs->VD X.K H' a vs:=λsm a vs q=>VD.same sm q
 let hL:∀{H':Hp},au H H'->∀t a vs,¬W.bad t a->XS X.K H t a vs->¬G.bad t a/\XS X.K H' t a vs:=λsm t a vs n q=>⟨λz=>((bad' t a).mp z).elim n (g q.1),q.same sm⟩
 let N:Rel (cxG X sc ns xs cl fn C s H fp (eW X sc cl RR w C)) G (L2.upd H w (.lst [])) (List.replicate #[xs] none++js.map (dj σ)) (List.replicate #[xs] none++js.map (aZ ρ)):=by
  let sm:au H (L2.upd H w (.lst [])):=au.upd E;let Q:∀{i:Nat} {z:Sl},(List.replicate #[xs] none++js.map (aZ ρ))[i]?=some (some z)->¬i<#[xs]/\(js.map (aZ ρ))[i - #[xs]]?=some (some z):=fun {i z} h=>by by_cases J:i<#[xs];rw[zAo (by simpa using J),zCM,TU J]at h;cases h;rw[zAr (by simpa using J)]at h;exact⟨J,by simpa using h⟩
  calc⟨λi d h=>?_,λi x h=>?_,λi j a h _=>(by cases h),λi a h=>(by cases h),λi a h=>(by cases h),λa h=>?_,λa h=>?_,sm,r.tab.same sm⟩;let⟨J,g⟩:=Q h;rw[WA]at g;cases e:js[i - #[xs]]? with
  |none=>rw[e]at g;cases g
  |some j =>
   rw[e]at g;let L:aZ ρ j=some (.val d):=ZI g;let h5:ρ[j]?=some (some (.val d)):=by unfold aZ at L;split at L;rename_i u q;cases L;calc q;cases L
   let⟨v,e1,e2⟩:=r.val j d h5;calc⟨v,?_,Den.map (hT sm) (hL sm) (λa _ n q=>sm.kp a _ q n.nt) d v e2⟩;rw[zAr (by simpa using J)];show(js.map (dj σ))[i - #[List.replicate #[xs] (none:Option V)]]?=some (some v);rw[List.length_replicate,WA,e];show some (dj σ j)=some (some v);ext dj;rw[e1]
  let⟨J,g⟩:=Q h;rw[WA]at g;cases e:js[i - #[xs]]? with
  |none=>rw[e]at g;cases g
  |some j =>
   rw[e]at g;let L:aZ ρ j=some (.ob x):=ZI g;unfold aZ at L;split at L<;>cases L
  obtain h|h:=h;let⟨o,q⟩:=r.tracked false a h;calc sm.ex q;rw[h];calc⟨_,aW⟩;let⟨o,q⟩:=r.st a h;exact sm.ex q
 let r:∀{H':Hp},(∀b∈fp,H' b=none)->∀b∈fp,cJ (cxG X sc ns xs cl fn C s H fp (eW X sc cl RR w C)) [] H' b:=λhn b A=>by
  let⟨f0,J,f2,f3,j,Q⟩:=M b A;let⟨o,g⟩:=O b A;calc⟨hn b A,λz=>?_,λz=>?_,.inl A,λy c e z=>(hcl y c e).elim (λe=>j y c e z) λq=>absurd (U5 g) (by rw[<- z];calc Nat.not_lt.mpr q),λp hp=>absurd (show p∈([]:yab)from hp) 52⟩;let z':b=C:=z;let Wx:=U5 g;rw[z']at Wx;calc absurd (XG Wx ZA) (zBs _);rcases VC.mp (I.Yk b z)with e|e;calc J e;exact f2 e
 let hch:∀b∈fp,(b∈X.ex∨X.Uv.heap.objs.size<=b)/\b≠X.env.locals/\(∀x c,X.env.cells.lookup x=some c->c≠b)/\∀p∈X.pn++pins,p.1≠b:=λb A=>by let⟨f0,J,f2,f3,j,Q⟩:=M b A;exact⟨f3,J,j,Q⟩
 let BD0:G.B w:=.inr rfl;let loop:∀j:Shared,j={s with heap:=We,toks:=s.toks+#[([]:List (Str×Value))]} →
   codeAny (model X.prog X.w) X.A (.compLoop (.ListComp elt [⟨tg,m,ifs,0⟩] sc pos) 0 (.ref it) (.ref w) (compEnvC sc cl C X.env)) (RR (.ref w) C) j:=by
  rintro j rfl;refine GO (CLI X.K (cxG X sc ns xs cl fn C s H fp (eW X sc cl RR w C)) H fp w U G tn #[xs] (js.map (aZ ρ)) Pv) ?_ #[U]
   ⟨0,G,_,_,_,[],[],λ_=>none,52,Yt _,I1,T.keep 0 s.heap We st (λb A o e=>old b o e),λb A=>?_,aW,⟨by funext a;simp,rfl⟩,ix.nil,(λ_ _ h=>by cases h),by simp only[bA],au.upd E,N,⟨_,52,rfl⟩,p0,VY _⟩
  rotate_left
  let⟨o,g⟩:=O b A;rw[aC (λz=>absurd (U5 g) (by rw[z];calc Nat.not_lt.mpr leD))];calc(M b A).1;rintro n s3 ⟨i,W2,σ2,l,H3,f,vs,bs,en,hle,I3,st3,fr3,hD3,g,x,hls,hds3,J,M,Q,p3,ol⟩;let O:∀{m:Own} {H':Hp} {j:St} {N:Ro},(m.B=(λa=>G.B a∨∃ k,bs k=some a)/\m.S=G.S)->Rel (cxG X sc ns xs cl fn C s H fp (eW X sc cl RR w C)) m H' j N->au H H'->∀t a vs,¬W.bad t a->XS X.K H t a vs->¬m.bad t a/\XS X.K H' t a vs:=fun {m H' j N} hw rl sm t a vs n q=>by
   calc⟨λz=>?_,q.same sm⟩;obtain z|⟨k,z⟩| ⟨z1,Y⟩:=z;rw[hw.1]at z;obtain z|⟨k,z⟩:=z;calc(hL sm t a vs n q).1 (.inl z);let⟨_,N,kk,_⟩:=x.ok k a z;rcases q.1 with(j|⟨o,j⟩)|⟨o,TV,m,j,_⟩;rw[N]at j;cases j;rw[N]at j;cases j;rw[kk]at j;cases j;let N:H a=none:=rl.ke k a z;rcases q.1 with(j|⟨o,j⟩)|⟨o,TV,m,j,_⟩;rw[N]at j;cases j;rw[N]at j;cases j;let kk:X.K.lookup a=none:=(rl.kn k a z).1;rw[kk]at j;cases j;rw[hw.2]at Y;exact(hL sm t a vs n q).1 (.inr (.inr ⟨z1,Y⟩))
  let⟨j,yy,ys⟩:=yd W2.bad H3 (hT J) (O g M J) (λa _ n q=>J.kp a _ q n.nt) i;by_cases Wx:i<#[U];refine T9 (T.item (cxG X sc ns xs cl fn C s H fp (eW X sc cl RR w C)) rfl rfl rfl hc i [] s3 _ H3 _ I3 (r fr3) st3 (j Wx)) λrr s4 ⟨u,hr,L⟩=>?_
  subst hr;refine T9 L λ_ s5 Y=>?_
  let⟨x5,H5,I5,r5,L,O,j⟩:=Y;let⟨e5,d,hd,Xe⟩:=yy x5 H5 L Wx;let L:=I5.pinned (r j) (T.obj _ _ O);let j:=M.same e5;let sm5:au H H5:=J.trans e5;calc Yz (hg _ s5 σ2 H5 W2 l d x5 u _ L j r5 Xe (step i d f l hd p3 Q)) (λ_ s6 Y=>?_) (λ_ _ z=>z);let⟨u,σ6,H6,ρ6,I6,M,L,cap6,q6⟩:=Y;let Q:u.B=(λa=>G.B a∨∃ k,bs k=some a)/\u.S=G.S:=⟨M.B.trans g.1,M.S.trans g.2⟩;let sm6:au H H6:=⟨λb o e n=>M.kp b o (λk z=>by let N:H b=none:=j.ke k b z;rw[e]at N;cases N) (sm5.kp b o e n) n,(λb l e=>by let⟨n,e1⟩:=sm5.tb b l e;let⟨l,e2⟩:=M.tb b _ e1;calc⟨n++l,by rw[e2,Array.append_assoc]⟩),λh=>M.ok (sm5.ok h)⟩;let BD:G.B w:=.inr rfl;let hD6:H6 w=some (.lst vs):=M.keep w _ (λk z=>(j.kn k w z).2.1.1 (by rw[g.1];calc .inl BD)) (e5 _ _ hD3);let h:bA X.K W2.bad H5 bs 0 f vs:=hds3.map (λ_ _ z=>z.same e5) λ_ _ q=>⟨q,λ_ z=>e5 _ _ z⟩
  let N:∀k b,bs k=some b->∃B,H6 b=some (.lst B):=λk b q=>let ⟨B,z⟩:=hls k b q;⟨B,M.keep b _ (λl y=>(j.kn l b y).2.1.1 (by rw[g.1];calc .inr ⟨k,q⟩)) (e5 _ _ z)⟩
  let n:bA X.K u.bad H6 bs 0 f vs:=h.map (λ_ _ z=>aq.fwd j L M z) λk b q=>⟨q,λB z=>M.keep b _ (λl y=>(j.kn l b y).2.1.1 (by rw[g.1];calc .inr ⟨k,q⟩)) z⟩
  let M:∀{h:St} {H7:Hp} {j:Shared},Inv (cxG X sc ns xs cl fn C s H fp (eW X sc cl RR w C)) ([]++vS fp s5.heap) h H7 j->tn (i+1) j.heap/\∀b∈fp,H7 b=none:=fun {h H7 j} h=>by calc⟨T.keep _ _ _ O λb A o e=>(h.pin (b,o) (XF _ (XF _ (eU A e)))).1,λb A=>?_⟩;let⟨o,e,_⟩:=T.obj _ _ O b A;exact(h.pin (b,o) (XF _ (XF _ (eU A e)))).2.1
  calc Yz (ht _ s6 _ H6 u _ _ I6 L q6) (λb j Y=>?_) (λ_ _ z=>z);let⟨H7,h,l,O⟩:=Y;cases b with
  |false =>
   rw[TM zB1]at O;rw[TM zB1];let⟨t7,f7⟩:=M h;calc⟨#[U] - (i+1),33,i+1,u,σ6,ρ6,H7,f,vs,bs,rfl,Wx,h.Wl,t7,f7,l _ _ hD6,Q,x,(λk b q=>let ⟨B,z⟩:=N k b q;⟨B,l _ _ z⟩),n.map (λ_ _ z=>z.same l) (λ_ _ q=>⟨q,λ_ z=>l _ _ z⟩),sm6.trans l,L.same l,cap6,O,33⟩
  |true =>
   rw[TU rfl]at O;rw[TU rfl];calc Yz (he _ j _ H7 u _ _ h (L.same l) O) (λu8 s8 Y=>?_) (λ_ _ z=>z);let⟨v8,H8,e8,I8,r8,j,hd8,q8⟩:=Y;let h:=l.trans j;let hD8:=h _ _ hD6;let rl7:=L.same l;let L:bA X.K u.bad H7 bs 0 f vs:=n.map (λ_ _ z=>z.same l) λ_ _ q=>⟨q,λ_ z=>l _ _ z⟩
   let smH:au H H8:=sm6.trans h;obtain⟨W8,n,hW8,O,hls8,rl8,hds8,hlen8⟩:∃(W8:Own) (n:yaj),(W8.B=(λa=>G.B a∨∃ k,n k=some a)/\W8.S=G.S)/\ix X.K H w #[f++[e8]] n/\(∀k b,n k=some b->∃B,H8 b=some (.lst B))/\Rel (cxG X sc ns xs cl fn C s H fp (eW X sc cl RR w C)) W8 H8 σ6 ρ6/\bA X.K W8.bad H8 n 0 (f++[e8]) (vs++[v8])/\#[vs]=#[f]:=by
    let ln:=L.len;cases e8 with
    |val d =>
     calc⟨u,bs,Q,x.up 52,(λk b q=>let ⟨B,z⟩:=N k b q;⟨B,h _ _ z⟩),rl7.same j,?_,ln⟩;calc(L.map (λ_ _ z=>z.same j) λ_ _ q=>⟨q,λ_ z=>j _ _ z⟩).YV hd8
    |own ds' =>
     let⟨a,ws,rfl,d,ka,ha,G⟩:=hd8;let⟨rb,db⟩:=rl7.ban j d ka ha;let nH:H a=none:=(sm6.trans l).free d;let nD:a≠w:=λz=>by rw[z,l _ _ hD6]at d;cases d
     refine⟨⟨λb=>u.B b∨b=a,u.O,u.S⟩,λk=>if k=#[f] then some a else bs k,⟨?_,Q.2⟩,x.put nH ka nD (λk z=>?_),(λk b q=>?_),rb,?_,ln⟩
     funext b
     show(u.B b∨b=a)=_;rw[Q.1];calc propext ⟨λz=>?_,λz=>?_⟩;rcases z with(z|⟨k,z⟩)|z;calc .inl z;calc .inr ⟨k,by show(if k=#[f] then some a else bs k)=some b;rw[TM (WG (x.ok k b z).1)];calc z⟩;calc .inr ⟨#[f],by show(if #[f]=#[f] then some a else bs #[f])=some b;rw[TU rfl,z]⟩;obtain z|⟨k,z⟩:=z;calc .inl (.inl z);let z:(if k=#[f] then some a else bs k)=some b:=z;by_cases l:k=#[f];rw[TU l]at z;cases z;calc .inr rfl;rw[TM l]at z;calc .inl (.inr ⟨k,z⟩);let⟨o,u⟩:=rl7.bt a (by rw[Q.1];calc .inr ⟨k,z⟩);rw[u]at d;cases d;let q:(if k=#[f] then some a else bs k)=some b:=q;by_cases l:k=#[f];rw[TU l]at q;cases q;calc⟨_,ha⟩;rw[TM l]at q;let⟨B,z⟩:=N k b q;calc⟨B,h _ _ z⟩;calc bA.YW (L.map (B':=λk=>if k=#[f] then some a else bs k) (λU vs z=>db U vs z) λk b q=>⟨by show(if k=#[f] then some a else bs k)=some b;rw[TM (WG (x.ok k b q).1)];calc q,λ_ z=>j _ _ z⟩) 52 ha (G.UG λt b z=>?_);rcases z with(z|z)|z|z;calc .inl (.inl z);calc .inr z;calc .inl (.inr (.inl z));exact .inl (.inr (.inr z))
   let j:W8.B w:=by rw[hW8.1];exact .inl BD
   calc Yz (yV (X:=cxG X sc ns xs cl fn C s H fp (eW X sc cl RR w C)) _ s8 _ H8 (.ref w) [v8] (.ref w) [u8] (λ_ H'=>H'=L2.upd H8 w (.lst (vs++[v8]))) I8 rfl (.cons r8 .nil) ⟨w,vs,v8,rfl,rfl,hD8,by rw[hlen8];lia,rfl⟩) (λ_ s9 Y=>?_) (λ_ _ z=>z);let⟨v9,H9,l,_,d⟩:=Y;subst d;let⟨u,G⟩:=M l;let⟨d,h⟩:=rl8.mutB (vs':=vs++[v8]) j hD8 E;exact⟨#[U] - (i+1),33,i+1,W8,σ6,ρ6,_,f++[e8],vs++[v8],n,rfl,Wx,l.Wl,u,G,aW,hW8,O,(λk b q=>let ⟨B,z⟩:=hls8 k b q;⟨B,by rw[aC (O.ok k b q).2.2.2];calc z⟩),hds8.map h (λk b q=>⟨q,λB z=>by rw[aC (O.ok k b q).2.2.2];calc z⟩),smH.ins E hD8 True.intro True.intro,d,cap6,q8,by rw[Xh,zCV];lia⟩
  let e:i=#[U]:=33
  refine T9 (T.done (cxG X sc ns xs cl fn C s H fp (eW X sc cl RR w C)) rfl rfl rfl hc i [] s3 _ H3 _ I3 (r fr3) st3 (ys 33)) λrr s4 Y=>?_
  let⟨hr,d⟩:=Y;subst hr;subst e;let i:Inv X pins σ H3 s4:=I.call' d.os d.base d.Uk d.bare hch;let⟨m,h,_⟩:=d.loc;exact hRR s4 H3 m f bs i J h d.free (λz=>absurd I.lt (by rw[<- z];calc Nat.not_lt.mpr ZA)) (Xb I.sz ZA) (λy c e z=>by
   let⟨v,q⟩:=I.cell y c e;calc absurd q.lt (by rw[z];calc Nat.not_lt.mpr ZA)) (λp hp z=>absurd (U5 (I.pin p hp).1) (by rw[z];calc Nat.not_lt.mpr ZA))
   ⟨E,hKD,_,hD3,x,hls,hds3.map (λ_ _ z=>z.UG λt a z=>(by
    obtain z|z:=z;rcases(bad' t a).mpr (.inl z)with q|⟨k,q⟩| q;calc .inl (by rw[g.1];calc .inl q);cases q;calc .inr (.inr ⟨q.1,by rw[g.2];calc q.2⟩);obtain z|z:=z;calc .inl (by rw[g.1];calc .inl (z ▸ BD0));calc .inl (by rw[g.1];calc .inr z))) λ_ _ q=>⟨q,λ_ z=>z⟩⟩ p3
 exact codeAny_compStart_list (loop _ rfl) (T.self _ 0 _ _ _ (T.keep 0 s.heap We st (λb A o e=>old b o e)) (loop _ rfl))
set_option tactic.hygienic true in
def Cy{B w L:Expr}{x:yai}{pos:Pos}{g:DG}{te:DM}{tc:DT}{W:Own}{ρ:Ro}{J:It}{it:Addr}{tn:Nat->Heap->Prop}{G:yar}{E:yaa}{RR:Value->Addr->Result->Shared->Prop}(hc:X.calm=true)(S:CSc X.env.scope sc xs ns)
  (hj:#[js]=#[ns]/\∀(i:Nat) (j:Nat) (n:Str),js[i]?=some j->ns[i]?=some n->X.N[j]?=some n)
  {Ed:Value->Prop} (he:∀(C:Addr) (m:Shared) (o:Hp) (fp:yae) (l:yaa),cE (bq X sc ns xs C m o fp l) Ed->PEM (bq X sc ns xs C m o fp l) B te) (ht:∀(C:Addr) (m:Shared) (o:Hp) (fp:yae) (l:yaa),cE (bq X sc ns xs C m o fp l) Ed->TsD (bq X sc ns xs C m o fp l) x tc)
  (O:∀D C:Addr,cE (bq X sc ns xs C s H fp (zT X sc ns RR D C)) Ed) (I:Inv X pins σ H s) (r:Rel X W H σ ρ) (hg:∀(C:Addr) (m:Shared) (o:Hp) (fp:yae) (l:yaa),PGD (bq X sc ns xs C m o fp l) L g) (T:Turn X.prog X.w X.K L J fp it tn) (st:tn 0 s.heap) (A:∀b∈fp,cJ X pins H b) (Q:YD X.K W H J G) (hz:#[G]<=sizeLine)
  (Pv:Nat->List LI->Prop) (Y:Pv 0 []) (step:∀j d a q,G[j]?=some d->Pv j a->ky #[xs] (js.map (aZ ρ)) q->g d q λh=>ky #[xs] (js.map (aZ ρ)) h/\tc h λb=>if b=true then te h (λe=>Pv (j+1) (a++[e]))else Pv (j+1) a)
  (N:∀(D C:Addr) (M:Shared) (H':Hp) (m':yal) (a:List LI) (bs:yaj),Inv X pins σ H' M->au H H'->M.heap.Ns C m'->H' C=none->C≠X.env.locals->X.Uv.heap.objs.size<=C->(∀y c,X.env.cells.lookup y=some c->c≠C)->(∀p∈X.pn++pins,p.1≠C) →
   (H D=none/\X.K.lookup D=none/\∃vs,H' D=some (.lst vs)/\ix X.K H D #[a] bs/\(∀k b,bs k=some b->∃U,H' b=some (.lst U))/\bA X.K (λt b=>W.bad t b∨b=D∨∃ k,bs k=some b) H' bs 0 a vs)->Pv #[G] a->RR (.ref D) C (.ok .next) M) :
  wpAny (model X.prog X.w) X.A (newList []) (λz XQ=>wpAny (model X.prog X.w) X.A (newFunctionEnv sc X.env.globals (cf X.env ns) [] X.env.qual none .none (some X.env)) (λf u =>
   codeAny (model X.prog X.w) X.A (.compStart (.ListComp B [⟨L,w,x,0⟩] sc pos) 0 (.ref it) z {f with scope:=relabel sc X.env}) (RR z f.locals) u) E XQ) E s:=by
 calc zBb (wpAny_newFunctionEnv S.Zz (by intro y a;simp at a) (λp a m=>?_) S.kind);dsimp only at a m ⊢;generalize hH2:s.heap.push {cls:=.type "list", dict:=none,data:=.seq ([]:yad).toArray}=HP at a m ⊢;let hC:HP.objs.size=s.heap.objs.size+1:=by rw[<- hH2,zCk]
 let l:s.heap.objs.size≠HP.objs.size:=33
 let M:s.heap.objs.size<=HP.objs.size:=33
 let h:∀b,b<s.heap.objs.size->b≠HP.objs.size:=33
 let f:∀b o,s.heap.get? b=some o->p.get? b=some o:=λb o e=>m.extBut b o (h b (U5 e)) (by grind [Heap.get?_push_of_some])
 let d:p.get? s.heap.objs.size=some {cls:=.type "list", data:=.seq ([]:yad).toArray}:=m.extBut _ _ l (VX _ (hH2 ▸ Xg _ rfl));generalize eD:s.heap.objs.size=D at l d;generalize eC:HP.objs.size=C at *;let k:H D=none:=by rw[<- eD];exact I.Uk.fresh (VY _)
 let u:X.K.lookup D=none:=by grind [Inv.Xl]
 let hCf:H C=none:=I.Uk.fresh M;let t:∀b∈fp,∃o,s.heap.get? b=some o:=λb U=>let ⟨o,e,_⟩:=T.obj 0 s.heap st b U;⟨o,e⟩
 let j:s.heap.objs.size<=D:=zDN eD;let q:WR X.prog X.w (L2.upd H D (.lst [])) p:=I.Uk.laid f j ⟨Yt _,[],0,.nil,d⟩;let i:∀o,L2.upd H D o C=none:=λo=>by simp_all [aC,Ne.symm]
 let I1:Inv (bq X sc ns xs C s H fp (zT X sc ns RR D C)) [] (List.replicate #[xs] none++js.map (dj σ)) (L2.upd H D (.lst [])) {s with heap:=p,toks:=s.toks+#[([]:List (Str×Value))]} :=
  Inv.comp I S hj A t M rfl I.bare f a (i _) (au.upd k) (λb o e n=>by rw[aC (λz=>absurd (U5 e) 33)];calc n) q
 calc GQ (cl:=cf X.env ns) (fn:=λ_=>false) hc (he C s H fp _ (O D C)) (ht C s H fp _ (O D C)) (hg C s H fp _) I r T st A Q hz Pv Y step (N D C) k u j M f (λy c e=>.inl (kF e)) I1
end
theorem bA.vals{K:yac}{P:yak}{H:Hp}{B:yaj}:∀{a:yar} {k:Nat} {vs:yaq},bA K P H B k (a.map .val) vs->aq K P H a vs
 |[],_,_,h=>by subst h;calc aq.nil
 |d::r,_,_,h=>by let⟨v,u,rfl,b,a⟩:=h;calc aq.cons b a.vals
def Pu(h:Ul X e te):PEM X e λρ Q=>te ρ λd=>Q (.val d):=λa s b H W ρ Q I r t=>Yz (h a s b H W ρ _ I r t) (λ_ _ e=>(by let⟨v,f,d,a,b,c,q,z⟩:=e;calc⟨v,f,.val d,a,b,c,q,z⟩)) λ_ _ z=>z
section
variable{X:Cx}{pins:yab}{σ:St}{H:Hp}{s:Shared}{sc:Scope}{ns:yah}{js:yag}{xs:yah}{fp:yae}
def gK{z q G:Expr}{x:yai}{pos:Pos}{g:DG}{te:DE}{tc:DT}{W:Own}{ρ:Ro}{J:It}{it:Addr}{tn:Nat->Heap->Prop}{B:yar}{E:yaa}{RR:Value->Addr->Result->Shared->Prop}(hc:X.calm=true)(S:CSc X.env.scope sc xs ns)
  (hj:#[js]=#[ns]/\∀(i:Nat) (j:Nat) (n:Str),js[i]?=some j->ns[i]?=some n->X.N[j]?=some n)
  {Ed:Value->Prop} (he:∀(C:Addr) (h:Shared) (m:Hp) (fp:yae) (f:yaa),cE (bq X sc ns xs C h m fp f) Ed->Ul (bq X sc ns xs C h m fp f) z te) (Y:∀(C:Addr) (h:Shared) (m:Hp) (fp:yae) (f:yaa),cE (bq X sc ns xs C h m fp f) Ed->TsD (bq X sc ns xs C h m fp f) x tc)
  (U:∀D C:Addr,cE (bq X sc ns xs C s H fp (zT X sc ns RR D C)) Ed) (I:Inv X pins σ H s) (r:Rel X W H σ ρ) (hg:∀(C:Addr) (h:Shared) (m:Hp) (fp:yae) (f:yaa),PGD (bq X sc ns xs C h m fp f) G g) (T:Turn X.prog X.w X.K G J fp it tn) (st:tn 0 s.heap) (M:∀b∈fp,cJ X pins H b) (O:YD X.K W H J B) (hz:#[B]<=sizeLine)
  (Pv:Nat->yar->Prop) (p0:Pv 0 []) (step:∀j d a u,B[j]?=some d->Pv j a->ky #[xs] (js.map (aZ ρ)) u->g d u λl=>ky #[xs] (js.map (aZ ρ)) l/\tc l λb=>if b=true then te l (λe=>Pv (j+1) (a++[e]))else Pv (j+1) a)
  (N:∀(D C:Addr) (w:Shared) (H':Hp) (L:yal) (a:List PD.D),Inv X pins σ H' w->au H H'->w.heap.Ns C L->H' C=none->C≠X.env.locals->X.Uv.heap.objs.size<=C->(∀y c,X.env.cells.lookup y=some c->c≠C)->(∀p∈X.pn++pins,p.1≠C) →
   (H D=none/\X.K.lookup D=none/\∃vs,H' D=some (.lst vs)/\aq X.K (λt b=>W.bad t b∨b=D) H' a vs)->Pv #[B] a->RR (.ref D) C (.ok .next) w) :
  wpAny (model X.prog X.w) X.A (newList []) (λA Q=>wpAny (model X.prog X.w) X.A (newFunctionEnv sc X.env.globals (cf X.env ns) [] X.env.qual none .none (some X.env)) (λk o =>
   codeAny (model X.prog X.w) X.A (.compStart (.ListComp z [⟨G,q,x,0⟩] sc pos) 0 (.ref it) A {k with scope:=relabel sc X.env}) (RR A k.locals) o) E Q) E s:=by
 let e:∀k l,(∃q,l.map LI.val=q.map LI.val/\Pv k q)=Pv k l:=λk l=>propext ⟨λc=>(by let⟨q,a,b⟩:=c;calc(List.map_inj_right 33).mp a ▸ b),33⟩
 calc Cy (te:=λρ Q=>te ρ λd=>Q (.val d)) hc S hj (λC h m fp f p=>Pu (he C h m fp f p)) Y U I r hg T st M O hz (λk o=>∃q,o=q.map LI.val/\Pv k q) 47 ?_ ?_;rintro j d _ u hd ⟨q,rfl,a⟩ cr;let b:∀x,q.map LI.val++[LI.val x]=(q++[x]).map LI.val:=47
 simp only[b,e]
 cbv
 rintro D C w H' L _ bs l sm k j i h g f ⟨e,d,vs,c,_,_,b⟩ ⟨q,rfl,a⟩;calc N D C w H' L q l sm k j i h g f ⟨e,d,vs,c,b.vals.UG 33⟩ a
def tS{X:Cx}{sc:Scope}{ns:yah}{x:Str}{fp:yae}(S:CSc X.env.scope sc [x] ns):PGD (bq X sc ns [x] C TR T6 fp XE) (.Name x px) (qp 0) :=
 have a:(compEnvC sc (cf X.env ns) C X.env).scope.names.lookup x=some .local:=lookup_relabel_local (S.tgt x 52)
 cu (X:=bq X sc ns [x] C TR T6 fp XE) 0 S.nd rfl (.inl a) (.inr a)
def F0{h:yar}{Pv:Nat->yar->Prop}{tc:DT}{te:DE}{g:Ro}(step:∀j d c,h[j]?=some d->Pv j c->tc (some (.val d)::g) λb=>if b=true then te (some (.val d)::g) (λe=>Pv (j+1) (c++[e]))else Pv (j+1) c) :
  ∀ j d c f,h[j]?=some d->Pv j c->ky 1 g f->qp 0 d f λa=>ky 1 g a/\tc a λb=>if b=true then te a (λe=>Pv (j+1) (c++[e]))else Pv (j+1) c:=by
 rintro j d c f f b ⟨a,e,rfl⟩
 match a,e with
 |[a],_=>calc⟨⟨[some (.val d)],rfl,rfl⟩,step j d c f b⟩
def lD(wi:DA)(js:yag)(tc:DT)(te:DE):DE:=λc Q=>wi c λf=>#[f]<=sizeLine/\∃Pv:Nat->yar->Prop,Pv 0 [] ∧
 (∀j d a,f[j]?=some d->Pv j a->tc (some (.val d)::js.map (aZ c)) λb=>if b=true then te (some (.val d)::js.map (aZ c)) (λe=>Pv (j+1) (a++[e]))else Pv (j+1) a)/\∀a,Pv #[f] a->Q (.lst true a)
def aR(N:yah)(ns:yah)(js:yag):Prop:=#[js]=#[ns]/\∀(i:Nat) (j:Nat) (n:Str),js[i]?=some j->ns[i]?=some n->N[j]?=some n
def aR.nil:aR N [] []:=⟨rfl,47⟩
def aR.cons{ns:yah}{js:yag}{n:Str}(j:Nat)(h:aR N ns js)(e:N[j]?=some n:=by rfl):aR N (n::ns) (j::js):=⟨by simp[h.1],λi c m b a=>by
 cases i with
 |zero=>simp at b a;subst b a;calc e
 |succ i=>calc h.2 i c m (by simpa using b) (by simpa using a)⟩
variable{elt iter:Expr}{ifs:yai}{px pos:Pos}{te:DE}{tc:DT}{wi:DA}{x:Str}
def bV(p:X.calm=true)(S:CSc X.env.scope sc [x] ns)(n:aR X.N ns js)(e:PID X (.Name x px) iter wi)(l:∀(C:Addr) (b:Shared) (c:Hp) (fp:yae) (a:yaa),TsD (bq X sc ns [x] C b c fp a) ifs tc)
  (o:∀(C:Addr) (b:Shared) (c:Hp) (fp:yae) (a:yaa),Ul (bq X sc ns [x] C b c fp a) elt te) (f:closureFor sc X.env=pure (cf X.env ns):=by rfl) (hs:∀x,foldedSetIterable iter X.env x=pure x:=by intro _;rfl) :
  Ul X (.ListComp elt [⟨.Name x px,iter,ifs,0⟩] sc pos) (lD wi js tc te):=by
 intro pins s σ H W d Q I r h;calc zCJ (use:=none) rfl hs f S.kind S.names (T9 (e pins s σ H W d _ I r h) λv A d=>T9 d λm z f=>?_);let⟨B,fp,tn,J,H2,G,e,t,j,T,d,q,g,k,Pv,h,step,i⟩:=f;subst e;calc gK (RR:=λf C=>compPost (model X.prog X.w) X.A X.xe none (DP X pins σ W H Q) f C) p S n (Ed:=λ_=>False) (λC b c fp a _=>o C b c fp a) (λC b c fp a _=>l C b c fp a) (λ_ _=>cE.no) t (r.same j) (λC b c fp a=>tS S) T d q g k Pv h (F0 step) ?_;intro D C k b l a w sm t c h g f d ⟨n,o,y,p,u⟩ pv;let q:Den X.K W.bad b (.lst true a) (.ref D):=Den.lst ((r.same j).fresh n) (.new p o) (u.UG 33);calc⟨l,t,λE l=>?_⟩;calc⟨.ref D,b,_,w.turned (t':=k.toks) (λb o k e=>(l.2 b k).trans e) c h (.inr g) f d,rfl,j.trans sm,q,i a pv⟩
def cR{y:Str}{a:Pos}(i:Nat)(z:X.N.Nodup)(w:X.calm=true)(S:CSc X.env.scope sc [x] ns)(q:aR X.N ns js)(j:PID X (.Name x px) iter wi)(o:∀(C:Addr) (c:Shared) (d:Hp) (fp:yae) (b:yaa),TsD (bq X sc ns [x] C c d fp b) ifs tc)
  (t:∀(C:Addr) (c:Shared) (d:Hp) (fp:yae) (b:yaa),Ul (bq X sc ns [x] C c d fp b) elt te) (p:X.N[i]?=some y:=by rfl) (f:X.env.scope.names.lookup y=some .local:=by rfl) (k:closureFor sc X.env=pure (cf X.env ns):=by rfl) (hs:∀x,foldedSetIterable iter X.env x=pure x:=by intro _;rfl)
  (e:swapsWith (.ListComp elt [⟨.Name x px,iter,ifs,0⟩] sc pos) (some (.Name y py)) a.line X.env=pure true:=by rfl) :
  Yb X (.Assign [.Name y py] (.ListComp elt [⟨.Name x px,iter,ifs,0⟩] sc pos) a) (E6 i (lD wi js tc te)):=by
 intro pins s σ H W g E I r h;rw[exec_Assign_Name_used _ _ _ _ e];calc TJ (wpAny_standAt (TJ ?_));refine TJ (Yz (zCJ (use:=some (assign (.Name y py) X.env)) (Q:=λ_ a=>SPD X pins W H E .next a) rfl hs k S.kind S.names
  (T9 (j pins s σ H W g _ I r h) λv M e=>T9 e λu L j=>?_)) (λ_ a e=>T5 (T5 e)) λ_ _ e=>e)
 let⟨N,fp,tn,J,H2,Y,e,B,g,T,h,A,k,n,Pv,l,step,m⟩:=j;subst e;calc gK (RR:=λj C=>compPost (model X.prog X.w) X.A X.xe (some (assign (.Name y py) X.env)) (λ_ a=>SPD X pins W H E .next a) j C) w S q (Ed:=λ_=>False) (λC c d fp b _=>t C c d fp b) (λC c d fp b _=>o C c d fp b) (λ_ _=>cE.no) B (r.same g) (λC c d fp b=>tS S) T h A k n Pv l (F0 step) ?_;intro D C a n o c q sm y d l k j h ⟨a,b,G,t,A⟩ pv;let w:Den X.K W.bad n (.lst true c) (.ref D):=Den.lst ((r.same g).fresh a) (.new t b) (A.UG 33);let t:=(r.same g).same sm;calc wpAny_assign_Name (qY (v:=.ref D) q z p (.inl f) rfl (λb z r=>?_) (.inr f));let⟨a,f,O⟩:=r;let r:C≠a:=58
 calc⟨o,y.sameBut f r,λU a=>?_⟩;calc⟨W.drop i,_,n,z.turned (t':=b.toks) (λb o f e=>(a.2 b f).trans e) d l (.inr k) j h,(Vn.same (g.trans sm)).trans (Vn.drop W n i),_,t.put (Inv.ilt q p) w,m c pv⟩
end
section
theorem Bs{C:Addr}{o:Obj}(e:(PySem.W.hideAll g [C]).get? b=some o):b≠C:=by grind [PySem.W.hideAll_none]
def Fl.hide{C:Addr}(F:Fl P w l h₀ Vl H B h)(j:C∉YJ l)(g:H C=none)(hs:Heap.SameBut C h h'):Fl P w l (PySem.W.hideAll h₀ [C]) Vl H (PySem.W.hideAll B [C]) h':=by
 let a:=F.un;calc⟨⟨λb o e n f c=>(hs.2 b (Bs e)).trans (a.keep b o (PySem.W.of_hideAll [C] e) n f c),λb o e n f c=>?_,λb o e n c=>a.free b o (PySem.W.of_hideAll [C] e) n c,λb o e c=>?_,a.Ze,a.YA,a.Zf⟩,PD.WR.keptT F.Uk (λb u i e=>?_),λb f=>?_,λb o e z n=>?_⟩;let⟨d,q⟩:=a.slot b o (PySem.W.of_hideAll [C] e) n f c;calc⟨d,(hs.2 b (Bs e)).trans q⟩;let⟨d,q⟩:=a.there b o (PySem.W.of_hideAll [C] e) c;calc⟨d,(hs.2 b (Bs e)).trans q⟩;refine(hs.2 b λz=>?_).trans e
 lia
 let⟨n,o,e,d⟩:=F.fr b f;grind [PySem.W.hideAll_get];let a:b≠C:=by grind [Bs]
 calc PySem.W.hideAll_get [C] (F.cov b o ((hs.2 b a).symm.trans e) ?_ n) 47;grind [PySem.W.of_hideAll]
theorem DW(hs:Heap.SameBut C h h'):∀{l:List Env},(∀env∈l,env.frame≠some C)->h.FunFrames B l->h'.FunFrames (PySem.W.hideAll B [C]) l
 |[],_,_=>trivial
 |env::r,g,⟨c,⟨L,o,d,i,b,e⟩,a⟩=>⟨c,⟨L,o,d,(by
   cases q:(PySem.W.hideAll B [C]).get? L with
   |none=>rfl
   |some f =>
    grind [PySem.W.of_hideAll]),(hs.2 L 58).trans b,e⟩,DW hs 58 a⟩
def iu.hide{C:Addr}{a:Obj}(R:iu B l e cls a0 h)(k:∀env∈l,env.frame≠some C)(m:e≠C)(E:B.get? C=some a)(hs:Heap.SameBut C h h'):iu (PySem.W.hideAll B [C]) l e cls a0 h':=by
 let a:∀b,B.get? b=none->(PySem.W.hideAll B [C]).get? b=none:=λb q=>by
  cases z:(PySem.W.hideAll B [C]).get? b with
  |none=>rfl
  |some A =>
   grind [PySem.W.of_hideAll]
 let⟨j,i,h,y,f,c,T,g,d,x,w,g3,u,t,s,r,p,n⟩:=R;let l:T≠C:=33
 calc⟨λb o q=>(hs.2 b (Bs q)).trans (j b o (PySem.W.of_hideAll [C] q)),a e i,DW hs k h,y,f,c,T,g,d,(hs.2 e m).trans x,w,g3,u,a T t,s,(hs.2 T l).trans r,p,n⟩
variable{X:Cx}{pins:yab}{σ:St}{H:Hp}{s:Shared}{sc:Scope}{ns:yah}{js:yag}{xs:yah}{fp:yae}
def GS(hX:uQ X Ed)(XH:X.stack=X.env::X.outer)(M:X.env.frame=some X.env.locals)(I:Inv X pins σ H s)(r:Rel X W H σ ρ)(L:∀b∈fp,cJ X pins H b)(D C:Addr) :
  cE (bq X sc ns xs C s H fp (zT X sc ns (λa C=>compPost (model X.prog X.w) X.A X.xe use Q a C) D C)) Ed:=by
 intro E US U W' TN k e u j r' O;let⟨i,c,H2,B,x,rfl,os,t,F,sm,hn,n,fl,hd⟩:=O;let Y:s.heap.objs.size<=C:=j.ok.above;let d:C∉YJ X.stack:=λz=>by
  rcases VC.mp (I.Yk C z)with q|q;calc absurd I.lt 47;exact I.nofs Y q
 let Q:C≠X.env.locals:=λq=>absurd I.lt 47
 let Io:Inv X pins σ U k:=I.call' j.os j.base j.Uk j.bare λb hb=>by let⟨f0,f1,f2,f3,f4,f5⟩:=L b hb;exact⟨f3,f1,f4,f5⟩
 let G:U C=none:=j.free;let⟨m,hm,_⟩:=j.loc;let⟨f,es,ep,w,g⟩:=hm;let kC:u.heap.get? C=some f:=F.un.keep C f w G d 58;let BC:B.get? C=some f:=F.cov C f kC (.inr ⟨f,w⟩) d;let n2:H2 C=none:=F.un.free C f w G 58;let N:i≠C:=λz=>by
  rw[z]at n;rw[show k.heap.get? C=some f from w]at n
  lia
 let J:∀h∈X.stack,h.frame≠some C:=λh he q=>d (zCR.mpr ⟨h,he,q⟩)
 let R0:iu B (X.env::X.outer) i (.ref c) x u.heap:=by let a:Heap.FlyingW B X.stack i (.ref c) x u.heap:=fl;rw[XH]at a;exact⟨a.1,a.2.1,a.2.2.1,.none,a.2.2.2⟩
 show wpAny (model X.prog X.w) X.A (noteFrame (.ref i) X.env) _ _ u;refine D8 (outer:=X.outer) (by rw[I.ok.frames,XH]) M R0 λh1 R1 l=>?_
 let T:iu B X.stack i (.ref c) x h1:=33
 let F1:=Fl.step F R1.1 l;calc⟨m,l.ns ⟨f,es,ep,kC,g⟩,λh' Z1 cenv _=>?_⟩;let F2:=Fl.hide F1 d n2 Z1;refine Nt (T.hide J N BC Z1) λh3 R3 A=>?_
 let F3:=Fl.step F2 R3.1 A;calc hX pins σ U W ρ {k with heap:=PySem.W.hideAll k.heap [C]} _ i c H2 (PySem.W.hideAll B [C]) x (Io.turned (t':=k.toks) (it:=C) (by grind [PySem.W.hideAll_get]) G Q (.inr (Xb I.sz Y)) (λy c e z=>?_) (λp hp z=>?_)) (r.same r'.ent) os t F3 sm hn ?_ R3 hd;let⟨v,q⟩:=I.cell y c e;calc absurd q.lt 33;calc absurd (U5 (I.pin p hp).1) 33;cases q:(PySem.W.hideAll k.heap [C]).get? i with
 |none=>rfl
 |some o =>
  grind [PySem.W.of_hideAll]
variable{elt iter:Expr}{ifs:yai}{px pos:Pos}{te:DE}{tc:DT}{wi:DA}{x:Str}
def JE(w:uQ X Ed)(u:X.calm=true)(S:CSc X.env.scope sc [x] ns)(q:aR X.N ns js)(e:PID X (.Name x px) iter wi)(p:∀(C:Addr) (b:Shared) (c:Hp) (fp:yae) (a:yaa),cE (bq X sc ns [x] C b c fp a) Ed->TsD (bq X sc ns [x] C b c fp a) ifs tc)
  (t:∀(C:Addr) (b:Shared) (c:Hp) (fp:yae) (a:yaa),cE (bq X sc ns [x] C b c fp a) Ed->Ul (bq X sc ns [x] C b c fp a) elt te) (y:X.stack=X.env::X.outer:=by rfl) (g:X.env.frame=some X.env.locals:=by rfl) (f:closureFor sc X.env=pure (cf X.env ns):=by rfl) (hs:∀x,foldedSetIterable iter X.env x=pure x:=by intro _;rfl) :
  Ul X (.ListComp elt [⟨.Name x px,iter,ifs,0⟩] sc pos) (lD wi js tc te):=by
 intro pins s σ H W d Q I r h;calc zCJ (use:=none) rfl hs f S.kind S.names (T9 (e pins s σ H W d _ I r h) λv B d=>T9 d λn A h=>?_);let⟨E,fp,tn,J,H2,L,e,k,d,T,f,i,l,o,Pv,m,step,j⟩:=h;subst e;calc gK (RR:=λh C=>compPost (model X.prog X.w) X.A X.xe none (DP X pins σ W H Q) h C) u S q t p (GS w y g k (r.same d) i) k (r.same d) (λC b c fp a=>tS S) T f i l o Pv m (F0 step) ?_;intro D C k b l a w sm t c i h g f ⟨m,o,z,p,u⟩ pv;let q:Den X.K W.bad b (.lst true a) (.ref D):=Den.lst ((r.same d).fresh m) (.new p o) (u.UG 33);calc⟨l,t,λG l=>?_⟩;calc⟨.ref D,b,_,w.turned (t':=k.toks) (λb o k e=>(l.2 b k).trans e) c i (.inr h) g f,rfl,d.trans sm,q,j a pv⟩
end
noncomputable def OH(osc a:Scope)(xs ns:yah):Bool :=
 decide (a.kind=.function) && (a.names.all λy=>decide (y.2 ≠ .cell)) && (a.names.all λy=>decide (y.2=.local->a.names.lookup y.1=some .local)) && (xs.all λx=>decide (a.names.lookup x=some .local)) &&
 (a.names.all λy=>decide (y.2=.free->y.1∈ns/\osc.names.lookup y.1=some .cell)) && (ns.all λn=>decide (a.names.lookup n=some .free/\osc.names.lookup n=some .cell)) && decide (xs++ns).Nodup
def aY(h:OH osc sc xs ns=true):CSc osc sc xs ns:=by unfold OH at h;simp only[zB0]at h;let⟨⟨⟨⟨⟨⟨a,g⟩,b⟩,f⟩,e⟩,d⟩,c⟩:=h;calc⟨zA5 a,λy a=>zA5 (zCB.mp g y a),λy a=>zA5 (zCB.mp b y a),λx b=>zA5 (zCB.mp f x b),λy a=>zA5 (zCB.mp e y a),λn a=>zA5 (zCB.mp d n a),zA5 c⟩
inductive Nms:yai->yah->Prop where
 |nil:Nms [] []
 |cons {x:Str} {p:Pos} {es:yai} {xs:yah} (h:Nms es xs):Nms (.Name x p::es) (x::xs)
def qo:Nat->Nat->DGs
 |_,0=>fL
 |i,n+1=>br (qp i) (qo (i+1) n)
theorem vo:∀(ys:yar) (b a c:Ro) (Q:Ro->Prop),#[a]=#[ys]->Q (b++ys.map (λd=>some (Sl.val d))++c)->qo #[b] #[ys] ys (b++a++c) Q
 |[],b,a,c,Q,f,h=>by have:a=[]:=zAk f;subst this;calc⟨rfl,h⟩
 |d::r,b,a,c,Q,f,h=>by
  match a,f with
  |a::q,f =>
   calc⟨d,r,rfl,?_⟩;show qo (#[b]+1) #[r] r ((b++a::q++c).set #[b] (some (.val d))) Q;let e:(b++a::q++c).set #[b] (some (Sl.val d))=(b++[some (Sl.val d)])++q++c:=by rw[zBM,List.set_append_right _ _ (VY _),Nat.sub_self];simp
   let a:#[b]+1=#[b++[some (Sl.val d)]]:=52
   rw[e,a];calc vo r _ q c Q (by simpa using f) ?_;simpa using h
section
variable{X:Cx}{sc:Scope}{ns xs:yah}{js:yag}
theorem Nms.len:∀{es:yai} {ys:yah},Nms es ys->#[assignEach es env]=#[ys]/\(assignEach es env).findIdx? (·.1)=none
 |_,_,.nil=>⟨rfl,rfl⟩
 |_,_,.cons (x:=x) (p:=p) (es:=es) h=>by let⟨b,a⟩:=Nms.len (env:=env) h;let e:assignEach (.Name x p::es) env=(false,assign (.Name x p) env)::assignEach es env:=rfl;rw[e];calc⟨by rw[ZH,b];rfl,?_⟩;rw[List.findIdx?_cons,a];rfl
theorem nM(S:CSc X.env.scope sc xs ns):∀{es:yai} {ys:yah} (i:Nat),Nms es ys->(∀k y,ys[k]?=some y->xs[i+k]?=some y)->wY (bq X sc ns xs C TR T6 fp XE) es (qo i #[ys])
 |_,_,_,.nil,_=>MH
 |_,_,i,.cons (x:=x) (xs:=ys) h,c=>by
  let a:xs[i]?=some x:=c 0 x rfl;let b:(compEnvC sc (cf X.env ns) C X.env).scope.names.lookup x=some .local:=lookup_relabel_local (S.tgt x (Xf a));let d:(xs++ns)[i]?=some x:=by rw[zAo (Zn.mp a).1];exact a
  exact JL (cu (X:=bq X sc ns xs C TR T6 fp XE) i S.nd d (.inl b) (.inr b)) (nM S (i+1) h λk y e=>by
   have:=c (k+1) y e
   lia)
variable{elt iter:Expr}{ifs es:yai}{kt:Nat}{tp pos:Pos}{te:DE}{tc:DT}{wi:DA}
def j8(ys:yar):Ro:=ys.map λd=>some (Sl.val d)
def AJ(n:Nat)(wi:DA)(js:yag)(tc:DT)(te:DE):DE:=λe Q=>wi e λf=>#[f]<=sizeLine/\∃Pv:Nat->yar->Prop,Pv 0 [] ∧
 (∀j d a,f[j]?=some d->Pv j a->∃c,(d=.tup c∨∃ t,d=.lst t c)/\#[c]=n/\tc (j8 c++js.map (aZ e)) λb=>if b=true then te (j8 c++js.map (aZ e)) (λe=>Pv (j+1) (a++[e]))else Pv (j+1) a)/\∀a,Pv #[f] a->Q (.lst true a)
def stepT{n:Nat}{h:yar}{Pv:Nat->yar->Prop}{g:Ro}(step:∀j d a,h[j]?=some d->Pv j a->∃ys,(d=.tup ys∨∃ t,d=.lst t ys)/\#[ys]=n/\tc (j8 ys++g) λb=>if b=true then te (j8 ys++g) (λe=>Pv (j+1) (a++[e]))else Pv (j+1) a) :
  ∀ j d a f,h[j]?=some d->Pv j a->ky n g f->dZ n (qo 0 n) d f λc=>ky n g c/\tc c λb=>if b=true then te c (λe=>Pv (j+1) (a++[e]))else Pv (j+1) a:=by
 rintro j d a f k f ⟨c,i,rfl⟩;let⟨ys,e,b,h⟩:=step j d a k f;calc⟨ys,e,b,?_⟩;subst b;calc vo ys [] c g _ i ⟨⟨j8 ys,by simp[j8],rfl⟩,h⟩
def AQ(k:X.calm=true)(S:CSc X.env.scope sc xs ns)(t:aR X.N ns js)(f:Nms es xs)(g:PID X (.Tuple es kt tp) iter wi)(q:∀(C:Addr) (b:Shared) (c:Hp) (fp:yae) (a:yaa),TsD (bq X sc ns xs C b c fp a) ifs tc)
  (u:∀(C:Addr) (b:Shared) (c:Hp) (fp:yae) (a:yaa),Ul (bq X sc ns xs C b c fp a) elt te) (j:closureFor sc X.env=pure (cf X.env ns):=by rfl) (hs:∀x,foldedSetIterable iter X.env x=pure x:=by intro _;rfl) :
  Ul X (.ListComp elt [⟨.Tuple es kt tp,iter,ifs,0⟩] sc pos) (AJ #[xs] wi js tc te):=by
 intro d s i H W e Q I r h;calc zCJ (use:=none) rfl hs j S.kind S.names (T9 (g d s i H W e _ I r h) λv E e=>T9 e λp B h=>?_);let⟨G,fp,tn,J,H2,M,e,w,l,T,g,s,m,o,Pv,n,step,j⟩:=h;subst e;calc gK (RR:=λh C=>compPost (model X.prog X.w) X.A X.xe none (DP X d i W H Q) h C) k S t (Ed:=λ_=>False) (λC b c fp a _=>u C b c fp a) (λC b c fp a _=>q C b c fp a) (λ_ _=>cE.no) w (r.same l) (λC b c fp a=>Hj (X:=bq X sc ns xs C b c fp a) k (nM S 0 f λk y q=>by simpa using q) (Nms.len f).1 (Nms.len f).2) T g s m o Pv n (stepT step) ?_;intro D C k b m a u sm s c i h g d ⟨f,n,A,o,t⟩ pv;let q:Den X.K W.bad b (.lst true a) (.ref D):=Den.lst ((r.same l).fresh f) (.new o n) (t.UG λ_ _ z=>.inl z);calc⟨m,s,λL m=>?_⟩;calc⟨.ref D,b,_,u.turned (t':=k.toks) (λb o f e=>(m.2 b f).trans e) c i (.inr h) g d,rfl,l.trans sm,q,j a pv⟩
def CA{y:Str}{a:Pos}(i:Nat)(A:X.N.Nodup)(m:X.calm=true)(S:CSc X.env.scope sc xs ns)(w:aR X.N ns js)(g:Nms es xs)(n:PID X (.Tuple es kt tp) iter wi)(q:∀(C:Addr) (c:Shared) (d:Hp) (fp:yae) (b:yaa),TsD (bq X sc ns xs C c d fp b) ifs tc)
  (z:∀(C:Addr) (c:Shared) (d:Hp) (fp:yae) (b:yaa),Ul (bq X sc ns xs C c d fp b) elt te) (t:X.N[i]?=some y:=by rfl) (j:X.env.scope.names.lookup y=some .local:=by rfl) (o:closureFor sc X.env=pure (cf X.env ns):=by rfl) (hs:∀x,foldedSetIterable iter X.env x=pure x:=by intro _;rfl)
  (e:swapsWith (.ListComp elt [⟨.Tuple es kt tp,iter,ifs,0⟩] sc pos) (some (.Name y py)) a.line X.env=pure true:=by rfl) :
  Yb X (.Assign [.Name y py] (.ListComp elt [⟨.Tuple es kt tp,iter,ifs,0⟩] sc pos) a) (E6 i (AJ #[xs] wi js tc te)):=by
 intro a s k H W l E I r h;rw[exec_Assign_Name_used _ _ _ _ e];calc TJ (wpAny_standAt (TJ ?_));refine TJ (Yz (zCJ (use:=some (assign (.Name y py) X.env)) (Q:=λ_ f=>SPD X a W H E .next f) rfl hs o S.kind S.names
  (T9 (n a s k H W l _ I r h) λv M e=>T9 e λu L k=>?_)) (λ_ f e=>T5 (T5 e)) λ_ _ e=>e)
 let⟨N,fp,tn,J,H2,U,e,B,h,T,l,x,o,s,Pv,p,step,n⟩:=k;subst e;calc gK (RR:=λk C=>compPost (model X.prog X.w) X.A X.xe (some (assign (.Name y py) X.env)) (λ_ f=>SPD X a W H E .next f) k C) m S w (Ed:=λ_=>False) (λC c d fp b _=>z C c d fp b) (λC c d fp b _=>q C c d fp b) (λ_ _=>cE.no) B (r.same h) (λC c d fp b=>Hj (X:=bq X sc ns xs C c d fp b) m (nM S 0 g λk y q=>by simpa using q) (Nms.len g).1 (Nms.len g).2) T l x o s Pv p (stepT step) ?_;intro D C f p o c s sm x k f m d l ⟨g,a,G,b,z⟩ pv;let w:Den X.K W.bad p (.lst true c) (.ref D):=Den.lst ((r.same h).fresh g) (.new b a) (z.UG λ_ _ z=>.inl z);let g:=(r.same h).same sm;calc wpAny_assign_Name (qY (v:=.ref D) s A t (.inl j) rfl (λb B A=>?_) (.inr j));let⟨a,r,j⟩:=A;let A:C≠a:=by
  obtain z|z:=j;rw[z];calc f;exact λq=>d y a z q.symm
 calc⟨o,x.sameBut r A,λO a=>?_⟩;calc⟨W.drop i,_,p,B.turned (t':=b.toks) (λb o j e=>(a.2 b j).trans e) k f (.inr m) d l,(Vn.same (h.trans sm)).trans (Vn.drop W p i),_,g.put (Inv.ilt s t) w,n c pv⟩
end
def p5{a:Type}{n:Nat}{wi:DA}{js:yag}{tc:DT}{te:DE}{Q:D->Prop}(zs:List a)(f:a->yar)(c:a->Bool)(g:a->D)(b:∀R:yar->Prop,R (zs.map λz=>.tup (f z))->wi ρ R)(hz:#[zs]<=sizeLine)(h:∀z,#[f z]=n)
  (l:∀z∈zs,∀K:Bool->Prop,K (c z)->tc (j8 (f z)++js.map (aZ ρ)) K) (k:∀z∈zs,c z=true->∀K:D->Prop,K (g z)->te (j8 (f z)++js.map (aZ ρ)) K) (q:Q (.lst true ((zs.filter c).map g))):AJ n wi js tc te ρ Q:=by
 calc b _ ⟨47,λj a=>a=((zs.take j).filter c).map g,52,λj d a b c=>?_,λa c=>?_⟩;rw[WA]at b;cases ex:zs[j]? with
 |none=>cbv
 |some x =>
  rw[ex]at b;let i:x∈zs:=Xf ex;let e:zs.take (j+1)=zs.take j++[x]:=by simp_all [zCl]
  grind
 grind
def Qi(k:Bool)(R:Int->Prop)(S:Bool->Prop):((∃i:Int,[D.bl k]=[.int i]/\R i)∨∃ j:Bool,[D.bl k]=[.bl j]/\S j)=S k:=33
def QD(b:Bool):okD (.bl b):=by ext okD;rw[Xu,plD]<;>first|calc⟨rfl,rfl⟩| (intros;contradiction)
def Ke(i:Int):okD (.int i)=True:=eq_true (Ea i)
def M9(b:Bool):okD (.bl b)=True:=eq_true (QD b)
def Kf:okD .UE=True:=eq_true Eb
def Na(a b c:Int):okD (.tup [.int a,.int b,.int c])=True:=eq_true (QE a b c)
theorem gw(i j:Int):eqD (.int i) (.int j)=decide (i=j):=rfl
def Hc(i j:Bool):eqD (.bl i) (.bl j)=decide (i=j):=by
 cases i<;>cases j<;>rfl
def Ql(t:Bool)(xs:yar)(R:yar->Prop):(∃t' a,D.lst t xs=.lst t' a/\R a)=R xs:=by apply propext;constructor;rintro⟨_,_,e,q⟩;cases e;calc q;intro q;calc⟨t,xs,rfl,q⟩
def Mw(b:yar)(r:Ro)(R:yar->Prop):(∃a,(some (Sl.own b)::r)[0]?=some (some (Sl.own a))/\R a)=R b:=by apply propext;constructor;rintro⟨_,e,q⟩;let a:some (some (Sl.own b))=some (some (Sl.own _)):=e;cases a;calc q;intro q;calc⟨b,rfl,q⟩
theorem Mx(n:Nat)(x:Option Sl)(r:Ro)(R:yar->Prop):(∃a,(x::r)[n+1]?=some (some (Sl.own a))/\R a)=(∃a,r[n]?=some (some (Sl.own a))/\R a):=rfl
theorem P5(d:D)(r:Ro):aZ (some (.val d)::r) 0=some (.val d):=rfl
theorem P7(r:Ro):aZ (none::r) 0=none:=rfl
theorem P6(n:Nat)(x:Option Sl)(r:Ro):aZ (x::r) (n+1)=aZ r n:=rfl
def cN{t g:Int}(a:g≠0)(b:g∣t)(h:Bd n t):Bd n (t.fdiv g):=zBg (PM.sS a b) h
def GA{x y z:Int}(h:¬(x=0/\y=0/\z=0))(i:Bd n x)(g:Bd n y)(hz:Bd n z):Bd n (PM.VB x y z l):=by
 unfold Bd at *;rw[PM.xj];let c:=zBw.mpr (PM.fu x y z);let b:=zBw.mpr (PM.gN x y z);let a:=zBw.mpr (PM.gO x y z);simp only[Int.natAbs_natCast]at c b a;by_cases f:x=0;by_cases d:y=0;let j:z≠0:=λe=>h ⟨f,d,e⟩
 have:=zCL 33 a
 lia
 have:=zCL 33 b
 lia
 have:=zCL 33 c
 lia
def fP(h:Bd 200 a)(g:Bd 200 b)(f:Bd 200 c)(e:Bd 200 d):Bd 1000 (a*b - c*d):=((h.mul g).sub (f.mul e)).mono 23
noncomputable def sg(n:Int):Int:=if 0<n then 1 else if n<0 then -1 else 0
def rk(a0 c e a b d:Int):Int:=if sg (c*a - b*a0)=0 then sg (e*a - d*a0)else sg (c*a - b*a0)
noncomputable def sw(a0 f e g d c c0 b a:Int):Int:=a0*(d*a - b*c)+g*(b*e - f*a)+c0*(f*c - d*e)
structure Pl(n:Nat)(a b c:Int):Prop where
 pos:0<a
 low:PM.g3 a b c=1
 b0:Bd n a
 b1:Bd n b
 b2:Bd n c
def jR{d k x y z:Int}(f:d∣k*x)(e:d∣k*y)(c:d∣k*z)(b:PM.g3 x y z=1):d∣k:=by
 let a:d∣(Int.gcd (k*x) (k*y):Int):=zCu f e;rw[zC9]at a;let e:d∣k*(Int.gcd x y:Int):=by
  have:((k.natAbs*Int.gcd x y:Nat):Int)∣k*(Int.gcd x y:Int):=by rw[Int.natCast_mul];exact Int.mul_dvd_mul (Int.natAbs_dvd.mpr 47) 47
  exact zCY a this
 let a:d∣(Int.gcd (k*(Int.gcd x y:Int)) (k*z):Int):=zCu e c;rw[zC9]at a;let c:Int.gcd (Int.gcd x y:Int) z=1:=b;rw[c,Nat.mul_one]at a;calc zCY a (Int.natAbs_dvd.mpr 47)
def vT(b x y:Int):D:=T3 (b.fdiv (PM.VB b x y b)) (x.fdiv (PM.VB b x y b)) (y.fdiv (PM.VB b x y b))
structure Ru(d:D)(b x y:Int):Prop where
 ex:∃p q r,d=T3 p q r/\Bd 4000 p/\Bd 4000 q/\Bd 4000 r/\0<p/\p*x=b*q/\p*y=b*r/\PM.g3 p q r=1
def FA{b:Int}(c:b≠0)(h0:Bd 4000 b)(e:Bd 4000 x)(d:Bd 4000 y):Ru (vT b x y) b x y:=by
 let a:¬(b=0/\x=0/\y=0):=λz=>c z.1
 let h:=PM.bL (l:=b) (PM.fu b x y);let g:=PM.bL (l:=b) (PM.gN b x y);let f:=PM.bL (l:=b) (PM.gO b x y);calc⟨_,_,_,rfl,cN (PM.cS a) (PM.cF (PM.fu _ _ _)) h0,cN (PM.cS a) (PM.cF (PM.gN _ _ _)) e,cN (PM.cS a) (PM.cF (PM.gO _ _ _)) d,PM.rR c (PM.fu _ _ _) a,?_,?_,PM.BL a⟩;generalize b.fdiv (PM.VB b x y b)=p at *;generalize x.fdiv (PM.VB b x y b)=q at *;rw[<- g];grind;generalize b.fdiv (PM.VB b x y b)=p at *;generalize y.fdiv (PM.VB b x y b)=q at *;rw[<- f];grind
end PD
namespace PZ
open PySem PySem.Spec PyProof.Rows
def Ym:Bool->Heap->Addr->Addr->Nat->Prop
 |true,h,b,a,i=>h.IsListIter b a i
 |false,h,b,a,i=>h.IsTupleIter b a i
def Xv:Bool->Heap->Addr->yan->Prop
 |true,h,a,b=>h.IsList a b
 |false,h,a,b=>h.IsTuple a b
def jd:Bool->String
 |true => "list_iterator"
 |false => "tuple_iterator"
section
variable{k:Bool}{h h':Heap}{it a b:Addr}{i:Nat}{xs:yan}
def Ym.of(x:Ym k h it a i)(e:∀o,h.get? it=some o->h'.get? it=some o):Ym k h' it a i:=by
 cases k with
 |true=>let⟨o,c,r⟩:=x;calc⟨o,e o c,r⟩
 |false=>let⟨o,c,r⟩:=x;calc⟨o,e o c,r⟩
def Xv.of(x:Xv k h a xs)(e:∀o,h.get? a=some o->h'.get? a=some o):Xv k h' a xs:=by
 cases k with
 |true=>let⟨o,c,r⟩:=x;calc⟨o,e o c,r⟩
 |false=>let⟨o,c,r⟩:=x;calc⟨o,e o c,r⟩
def Ym.obj(x:Ym k h it a i):∃o,h.get? it=some o/\o.cls=.type (jd k)/\o.data=.fields #[.ref a,.int i 0]:=by
 cases k with
 |true=>calc x
 |false=>calc x
def Xv.obj(x:Xv k h a xs):∃o n,h.get? a=some o/\o.data=.seq xs n:=by
 cases k with
 |true=>let⟨o,c,_,n,r⟩:=x;grind
 |false=>let⟨o,c,_,n,r⟩:=x;grind
end
section
variable{prog:Program}{w:World}{A:Around}{E:yaa}{s:Shared}{k:Bool}{it a:Addr}{i:Nat}{xs:yan}
def vJ{x:Value}{Q:yaa}(d:Ym k s.heap it a i)(hs:Xv k s.heap a xs)(f:xs[i]?=some x)(g:∀h',Ym k h' it a (i+1)->Heap.SameBut it s.heap h'->Q x {s with heap:=h'}) :
  wpAny (model prog w) A (Builtin.SmallTypes.nextOf (.ref it)) Q E s:=by
 cases k with
 |true=>calc wpAny_nextOf_list_item d hs f g
 |false =>
  let⟨o,c,j,b⟩:=id d;let⟨l,h,_,m,e⟩:=hs;calc TJ (zBS (name:=Str.ofString "__next__") (zCt d) F.slot_tuple_iterator_next (zBa F.slot_tuple_iterator_next (zCt d) F.entry_tuple_iterator_next ?_ (F.args_tuple_iterator_next_1 _)));show wpAny _ _ (field (.ref it) 0 >>= _) _ _ s;calc TJ (Yy c b (x:=.ref a) rfl ?_);calc TJ (Yy c b (x:=.int i 0) rfl ?_);calc TJ (zBL h e ?_);simp only[Int.toNat_natCast,f];calc TJ (zCm c b 52 (T5 ⟨x,rfl,T5 (g _ ⟨_,zA2 _ c (Obj.isFreed_of_fields (Obj.data_mapFields b _)),(Obj.cls_mapFields ..).trans j,by rw[Obj.data_mapFields b];simp[rawInt]⟩ (zBP ..))⟩))
def Fg(hh:A.handled=none)(b:Ym k s.heap it a i)(hs:Xv k s.heap a xs)(f:xs[i]?=none)
  (g:∀h' e,Heap.ExtBut it s.heap h'->(∃o,h'.get? e=some o/\o.cls=.type "StopIteration")->E (.ref e) {s with heap:=h'}):wpAny (model prog w) A (Builtin.SmallTypes.nextOf (.ref it)) Q E s:=by
 cases k with
 |true=>calc wpAny_nextOf_list_end hh b hs f g
 |false =>
  let⟨o,c,n,e⟩:=id b;let⟨j,h,_,l,d⟩:=hs;calc TJ (zBS (name:=Str.ofString "__next__") (zCt b) F.slot_tuple_iterator_next (zBa F.slot_tuple_iterator_next (zCt b) F.entry_tuple_iterator_next ?_ (F.args_tuple_iterator_next_1 _)));show wpAny _ _ (field (.ref it) 0 >>= _) _ _ s;calc TJ (Yy c e (x:=.ref a) rfl ?_);calc TJ (Yy c e (x:=.int i 0) rfl ?_);calc TJ (zBL h d ?_);simp only[Int.toNat_natCast,f];calc TJ (wpAny_rule (TJ (zCm c e 52 ?_)));calc TJ ?_;calc TJ (m:=firstArgMember _ _) (wpAny_of_eq (a:=Value.none) (by rfl) ?_);calc zBb ?_ (by size_fits);calc TJ (wpAny_handled ?_);first|rw[show A.in1.handled=none from hh]|rw[hh]
  calc TJ (T5 (wpAny_throw (g _ _ (((zBP ..).extBut.push _).push _) ⟨_,Xg _ rfl,rfl⟩)))
end
structure Ap(z TI TO i1 i2:Addr):Prop where
 a1:TI≠z
 a2:TO≠z
 a3:i1≠z
 a4:i2≠z
 a5:TI≠TO
 a6:TI≠i1
 a7:TI≠i2
 a8:TO≠i1
 a9:TO≠i2
 b1:i1≠i2
structure Out(z TO i1 i2 l:Addr):Prop where
 c1:l≠z
 c2:l≠TO
 c3:l≠i1
 c4:l≠i2
structure ZSt(k1 k2:Bool)(z TI TO i1 i2 l1 l2:Addr)(i:Nat)(h:Heap):Prop where
 z:IsZip h z TI TO .none
 ti:IsPair h TI (.ref i1) (.ref i2)
 to:∃a b,IsPair h TO a b
 s1:Ym k1 h i1 l1 i
 s2:Ym k2 h i2 l2 i
section
variable{prog:Program}{w:World}{A:Around}{E:yaa}{s:Shared}{k1 k2:Bool}{z TI TO i1 i2 l1 l2:Addr}{i:Nat}{xs ys:yan}
def LX{x y:Value}{Q:yam->Shared->Prop}(D:Ap z TI TO i1 i2)(m:Out z TO i1 i2 l1)(j:Out z TO i1 i2 l2)(Z:ZSt k1 k2 z TI TO i1 i2 l1 l2 i s.heap)(h:Xv k1 s.heap l1 xs)(r:Xv k2 s.heap l2 ys)(k:xs[i]?=some x)(t:ys[i]?=some y)
  (G:∀h',IsZip h' z TI TO (rawInt s.heap.objs.size)->IsPair h' TI (.ref i1) (.ref i2)->IsPair h' TO x y->Ym k1 h' i1 l1 (i+1)->Ym k2 h' i2 l2 (i+1)->IsPair h' s.heap.objs.size x y →
   (∀c o,c≠z->c≠TO->c≠i1->c≠i2->s.heap.get? c=some o->h'.get? c=some o)->Q (some (.ref s.heap.objs.size)) {s with heap:=h'}):wpAny (model prog w) A (pyNext (.ref z)) Q E s:=by
 let⟨d,C,⟨a,b,f⟩,l,B⟩:=Z;let e:s.TypeIs (.ref z) "zip" := ⟨_,d,rfl⟩;calc TJ (zCa (zBS (name:=Str.ofString "__next__") e F.slot_zip_next (zBa F.slot_zip_next e F.entry_zip_next ?_ (F.args_zip_next_1 _))));show wpAny _ _ (field (.ref z) 2 >>= _) _ _ _;calc TJ (Yy d rfl (x:=.bool false) rfl ?_);calc TJ (Yy d rfl (x:=.ref TI) rfl (TJ (zBL C rfl ?_)));calc TJ ?_;calc TJ (Yy d rfl (x:=.none) rfl (T5 ?_));calc TJ (wpAny_rule (TJ (Yy d rfl (x:=.ref TO) rfl ?_)));calc TJ (zCG d 52 λd (u:IsZip d z TI TO .ellipsis) p=>TJ ?_);let g:∀c o,c≠z->s.heap.get? c=some o->d.get? c=some o:=λc o n e=>p.extBut c o n e
 calc TJ (TJ (wpAny_onRaise ?_));calc TJ (vJ (s:={s with heap:=d}) (l.of λo e=>g _ o D.a3 e) (h.of λo e=>g _ o m.c1 e) k λk d l=>T5 ?_);let h:IsPair k TO a b:=l.extBut _ _ D.a8 (g _ _ D.a2 f);calc TJ (zBL h rfl (TJ (wpAny_updateSeq_pair h λg3 (q:IsPair g3 TO x b) k=>TJ (zCx (T5 ?_)))));let m:∀c o,c≠z->c≠TO->c≠i1->s.heap.get? c=some o->g3.get? c=some o:=λc o f d h e=>k.extBut c o d (l.extBut c o h (g c o f e))
 calc TJ (TJ (wpAny_onRaise ?_));calc TJ (vJ (s:={s with heap:=g3}) (B.of λo e=>m _ o D.a4 (Ne.symm D.a9) (Ne.symm D.b1) e) (r.of λo e=>m _ o j.c1 j.c2 j.c3 e) t λr g j=>T5 ?_);let a:IsPair r TO x b:=j.extBut _ _ D.a9 q;calc TJ (zBL a rfl (TJ (wpAny_updateSeq_pair a λa (q:IsPair a TO x y) b=>TJ (zCx (T5 (T5 ?_))))));calc TJ (zBL q rfl (TJ (wpAny_newTuple ?_)));let r:a.objs.size=s.heap.objs.size:=by rw[b.1,j.1,k.1,l.1,p.1]
 let t:∀c o,c≠z->c≠TO->c≠i1->c≠i2->s.heap.get? c=some o->a.get? c=some o:=λc o f d h g e=>b.extBut c o d (j.extBut c o g (m c o f d h e))
 let p:IsZip a z TI TO .ellipsis:=b.extBut _ _ (Ne.symm D.a2) (j.extBut _ _ (Ne.symm D.a4) (k.extBut _ _ (Ne.symm D.a2) (l.extBut _ _ (Ne.symm D.a3) u)));let l:Ym k1 a i1 l1 (i+1):=d.of λo e=>b.extBut _ o (Ne.symm D.a8) (j.extBut _ o D.b1 (k.extBut _ o (Ne.symm D.a8) e))
 let k:Ym k2 a i2 l2 (i+1):=g.of λo e=>b.extBut _ o (Ne.symm D.a9) e
 let m:z<a.objs.size:=U5 p;calc TJ ?_;let b:IsZip (a.push {cls:=.type "tuple", data:=.seq #[x,y]}) z TI TO .ellipsis:=VX _ p;calc TJ (zCG b 52 λj (b:IsZip j z TI TO (rawInt a.objs.size)) B=>zCG b 52 λj (p:IsZip j z TI TO (rawInt a.objs.size)) u=>T5 ?_);let b:∀c o,c≠z->a.get? c=some o->j.get? c=some o:=λc o n e=>u.extBut c o n (B.extBut c o n (VX _ e))
 let n:IsPair j a.objs.size x y:=u.extBut _ _ (zBn m) (B.extBut _ _ (zBn m) (Xg _ rfl));calc⟨_,rfl,?_⟩;rw[r]at p n;calc T5 ?_;rw[r];calc G j p (b _ _ D.a1 (t _ _ D.a1 D.a5 D.a6 D.a7 C)) (b _ _ D.a2 q) (l.of λo e=>b _ o D.a3 e) (k.of λo e=>b _ o D.a4 e) n λc o f d h g e=>b c o f (t c o f d h g e)
def LY{Q:yam->Shared->Prop}(hh:A.handled=none)(D:Ap z TI TO i1 i2)(J:Out z TO i1 i2 l1)(B:Out z TO i1 i2 l2)(Z:ZSt k1 k2 z TI TO i1 i2 l1 l2 i s.heap)(G:Xv k1 s.heap l1 xs)(L:Xv k2 s.heap l2 ys)(k:xs[i]?=none∨ys[i]?=none)
  (H:∀h',(∀c o,c≠z->c≠TO->c≠i1->c≠i2->s.heap.get? c=some o->h'.get? c=some o)->Q none {s with heap:=h'}):wpAny (model prog w) A (pyNext (.ref z)) Q E s:=by
 let⟨d,f,⟨a,b,u⟩,I,M⟩:=Z;let e:s.TypeIs (.ref z) "zip" := ⟨_,d,rfl⟩;ext pyNext;calc TJ (zCa (zBS (name:=Str.ofString "__next__") e F.slot_zip_next (zBa F.slot_zip_next e F.entry_zip_next ?_ (F.args_zip_next_1 _))));show wpAny _ _ (field (.ref z) 2 >>= _) _ _ _;calc TJ (Yy d rfl (x:=.bool false) rfl ?_);calc TJ (Yy d rfl (x:=.ref TI) rfl (TJ (zBL f rfl ?_)));calc TJ ?_;calc TJ (Yy d rfl (x:=.none) rfl (T5 ?_));simp only[zCW];calc TJ (wpAny_rule (TJ (Yy d rfl (x:=.ref TO) rfl ?_)));calc TJ (zCG d 52 λp (C:IsZip p z TI TO .ellipsis) d=>TJ ?_);let g:∀c o,c≠z->s.heap.get? c=some o->p.get? c=some o:=λc o n e=>d.extBut c o n e
 calc TJ (TJ (wpAny_onRaise ?_));cases hx:xs[i]? with
 |none =>
  calc TJ (Fg (s:={s with heap:=p}) hh (I.of λo e=>g _ o D.a3 e) (G.of λo e=>g _ o J.c1 e) hx λy e h t=>?_);let⟨n,f,l⟩:=t;let d:IsZip y z TI TO .ellipsis:=h _ _ (Ne.symm D.a3) C;let r:e≠z:=λq=>by subst q;rw[d]at f;cases f;simp at l
  refine zCG d 52 λg3 _ m=>TJ (zCO (T := "StopIteration") (b:=true) ⟨n,m.extBut _ _ r f,l⟩ isSubtype_stop ?_)
  calc T5 (H g3 λc o d _ j _ q=>m.extBut c o d (h c o j (g c o d q)))
 |some x =>
  let x:ys[i]?=none:=by
   obtain q|q:=k;rw[hx]at q;cases q;exact q
  calc TJ (vJ (s:={s with heap:=p}) (I.of λo e=>g _ o D.a3 e) (G.of λo e=>g _ o J.c1 e) hx λy k h=>T5 ?_);let p:IsPair y TO a b:=h.extBut _ _ D.a8 (g _ _ D.a2 u);calc TJ (zBL p rfl (TJ (wpAny_updateSeq_pair p λg3 N m=>TJ (zCx (T5 ?_)))));let a:∀c o,c≠z->c≠TO->c≠i1->s.heap.get? c=some o->g3.get? c=some o:=λc o d k j e=>m.extBut c o k (h.extBut c o j (g c o d e))
  calc TJ (TJ (wpAny_onRaise ?_));calc TJ (Fg (s:={s with heap:=g3}) hh (M.of λo e=>a _ o D.a4 (Ne.symm D.a9) (Ne.symm D.b1) e) (L.of λo e=>a _ o B.c1 B.c2 B.c3 e) x λu e p t=>?_);let⟨n,f,l⟩:=t;let g:IsZip u z TI TO .ellipsis:=p _ _ (Ne.symm D.a4) (m.extBut _ _ (Ne.symm D.a2) (h.extBut _ _ (Ne.symm D.a3) C));let r:e≠z:=λq=>by subst q;rw[g]at f;cases f;simp at l
  refine zCG g 52 λg _ e=>TJ (zCO (T := "StopIteration") (b:=true) ⟨n,e.extBut _ _ r f,l⟩ isSubtype_stop ?_)
  calc T5 (H g λc o d k j b q=>e.extBut c o d (p c o b (a c o d k j q)))
def Lu{Q:yaa}(q:Xv k s.heap a xs)(b:Q (.ref s.heap.objs.size) {s with heap:=s.heap.push {cls:=.type (jd k),data:=.fields #[.ref a,.int 0 0]} }):wpAny (model prog w) A (pyIter (.ref a)) Q E s:=by
 cases k with
 |true=>calc zCg q b
 |false=>calc wpAny_pyIter_tuple q b
end
abbrev zp1(k1:Bool)(h:Heap)(l1:Addr):Heap:=h.push {cls:=.type (jd k1),data:=.fields #[.ref l1,.int 0 0]}
abbrev zp2(k1 k2:Bool)(h:Heap)(l1 l2:Addr):Heap:=(zp1 k1 h l1).push {cls:=.type (jd k2),data:=.fields #[.ref l2,.int 0 0]}
abbrev zp3 (k1 k2:Bool) (h:Heap) (l1 l2:Addr):Heap:=(zp2 k1 k2 h l1 l2).push {cls:=.type "tuple", data:=.seq #[.ref h.objs.size,.ref (zp1 k1 h l1).objs.size]}
abbrev zp4 (k1 k2:Bool) (h:Heap) (l1 l2:Addr):Heap:=(zp3 k1 k2 h l1 l2).push {cls:=.type "tuple", data:=.seq #[.none,.none]}
abbrev zp5 (k1 k2:Bool) (h:Heap) (l1 l2:Addr):Heap:=(zp4 k1 k2 h l1 l2).push {cls:=.type "zip", data:=.fields #[.none,.bool false,.bool false,.ref (zp2 k1 k2 h l1 l2).objs.size,.ref (zp3 k1 k2 h l1 l2).objs.size]}
def TB (k1 k2:Bool) (l1 l2:Addr) (xs ys:yan):Meets (Builtin.«zip.__new__» ⟨[.type "zip", .ref l1,.ref l2],[]⟩) (λ_ R s=>Xv k1 s.heap l1 xs/\Xv k2 s.heap l2 ys/\R (.ok (.ret (.ref (zp4 k1 k2 s.heap l1 l2).objs.size))) {s with heap:=zp5 k1 k2 s.heap l1 l2}) :=
 .of_wp λb w A R s h=>by
  let⟨e,g,d,a,os⟩:=s;let⟨i,f,h⟩:=h;let c:=sub_zip;let j:Xv k1 (Shared.heap ⟨e,g,d,a,os⟩) l1 xs:=i;let i:Xv k2 (Shared.heap ⟨e.push {cls:=.type (jd k1),data:=.fields #[.ref l1,.int 0 0]},g,d,a,os⟩) l2 ys:=f.of λo e=>VX _ e
  wp_walk using Lu j,Lu i
  calc⟨_,rfl,h⟩
section
variable{prog:Program}{w:World}{A:Around}{E:yaa}{s:Shared}{k1 k2:Bool}{l1 l2:Addr}{xs ys:yan}
def LV{Q:yaa}(d:Xv k1 s.heap l1 xs)(b:Xv k2 s.heap l2 ys)
  (k:∀h',ZSt k1 k2 (s.heap.objs.size+4) (s.heap.objs.size+2) (s.heap.objs.size+3) s.heap.objs.size (s.heap.objs.size+1) l1 l2 0 h'->(∀c o,s.heap.get? c=some o->h'.get? c=some o)->Q (.ref (s.heap.objs.size+4)) {s with heap:=h'}) :
  wpAny (model prog w) A (call (.type "zip") [.ref l1,.ref l2]) Q E s:=by
 calc callType_new F.called_zip 23 (F.typeCall_zip_2 _ _) (F.newCall_zip_2 _ _) (λa=>F.args_object_init_3 a _ _) F.entry_zip_new (TB k1 k2 l1 l2 xs ys) ⟨d,b,?_⟩;let i:(zp1 k1 s.heap l1).objs.size=s.heap.objs.size+1:=zCk ..;let h:(zp2 k1 k2 s.heap l1 l2).objs.size=s.heap.objs.size+2:=by rw[zCk,i]
 let g:(zp3 k1 k2 s.heap l1 l2).objs.size=s.heap.objs.size+3:=by rw[zCk,h]
 let m:(zp4 k1 k2 s.heap l1 l2).objs.size=s.heap.objs.size+4:=by rw[zCk,g]
 let a:∀c o,(zp4 k1 k2 s.heap l1 l2).get? c=some o->(zp5 k1 k2 s.heap l1 l2).get? c=some o:=λc o e=>VX _ e
 let b:∀c o,(zp3 k1 k2 s.heap l1 l2).get? c=some o->(zp5 k1 k2 s.heap l1 l2).get? c=some o:=λc o e=>a c o (VX _ e)
 let d:∀c o,(zp2 k1 k2 s.heap l1 l2).get? c=some o->(zp5 k1 k2 s.heap l1 l2).get? c=some o:=λc o e=>b c o (VX _ e)
 let f:∀c o,(zp1 k1 s.heap l1).get? c=some o->(zp5 k1 k2 s.heap l1 l2).get? c=some o:=λc o e=>d c o (VX _ e)
 let l:(zp5 k1 k2 s.heap l1 l2).get? (zp4 k1 k2 s.heap l1 l2).objs.size=some _:=Xg _ rfl;let n:=a _ _ (Xg (zp3 k1 k2 s.heap l1 l2) (o:={cls:=.type "tuple", data:=.seq #[.none,.none]}) rfl);let g3:=b _ _ (Xg (zp2 k1 k2 s.heap l1 l2) (o:={cls:=.type "tuple", data:=.seq #[.ref s.heap.objs.size,.ref (zp1 k1 s.heap l1).objs.size]}) rfl);let p:=d _ _ (Xg (zp1 k1 s.heap l1) (o:={cls:=.type (jd k2),data:=.fields #[.ref l2,.int 0 0]}) rfl);let q:=f _ _ (Xg s.heap (o:={cls:=.type (jd k1),data:=.fields #[.ref l1,.int 0 0]}) rfl);let j:=k (zp5 k1 k2 s.heap l1 l2);rw[h,g,m]at l;rw[g]at n;rw[i,h]at g3;rw[i]at p;let b:∀{k:Bool} {h:Heap} {d a:Addr},h.get? d=some {cls:=.type (jd k),data:=.fields #[.ref a,.int 0 0]}->Ym k h d a 0:=fun {k h d a} e=>by
  cases k with
  |true=>calc⟨_,e,rfl,rfl⟩
  |false=>exact⟨_,e,rfl,rfl⟩
 rw[m];calc⟨⟨_,l,rfl⟩,j ⟨l,g3,⟨_,_,n⟩,b q,b p⟩ λc o e=>f c o (VX _ e)⟩
end
end PZ
namespace PD
open PySem PySem.Spec PyProof.Rows L2 PZ
def Z2(K:yac):Bool->Hp->Addr->yaq->Prop
 |true=>SqL K
 |false=>L2.VD K
section
variable{X:Cx}{pins:yab}{σ:St}{H:Hp}{s:Shared}{k:Bool}{a:Addr}{xs:yaq}
theorem Z2.list(I:Inv X pins σ H s)(h:Z2 X.K k H a xs):∃b:yad,Vals xs b/\Xv k s.heap a b.toArray:=by
 cases k with
 |true =>
  let⟨b,r,p,_⟩:=I.list h;calc⟨b,r,p.isList⟩
 |false =>
  let⟨b,r,p,_⟩:=I.tuple h;calc⟨b,r,p⟩
theorem Z2.inj(I:Inv X pins σ H s)(h:Z2 X.K k H a xs)(h':Z2 X.K k H a ys):xs=ys:=by
 cases k with
 |true=>calc I.ZS h h'
 |false=>calc I.Zr h h'
def Z2.ne(I:Inv X pins σ H s)(f:cJ X pins H b)(h:Z2 X.K k H a xs):a≠b:=λe=>by
 subst e;let⟨m,l,j,c,i,g⟩:=f;let d:∀o,X.K.lookup a=some o->False:=λo q=>by
  let b:=I.ok.mod.YB a o q;obtain z|z:=c;calc I.ok.noex a o b z;exact absurd (XG (U5 (I.ok.bs a o b).1) z) 47
 cases k with
 |true =>
  rcases h with(h|⟨o,h⟩)|⟨o,b,n,h,_⟩
  all_goals lia
 |false =>
  rcases h with(h|⟨o,h⟩)|⟨o,b,n,h,_⟩
  all_goals lia
end
def Itz(K:yac)(k1 k2:Bool)(a b:Addr):It :=
 ⟨λi H=>∃d c x y,Z2 K k1 H a d/\Z2 K k2 H b c/\d[i]?=some x/\c[i]?=some y,
  λi H v e=>∃T x y,v=.ref T/\H T=none/\e=L2.upd H T (.tup [x,y])/\(∀d,Z2 K k1 H a d->d[i]?=some x)/\∀c,Z2 K k2 H b c->c[i]?=some y,
  λi H=>∃d c,Z2 K k1 H a d/\Z2 K k2 H b c/\(d[i]?=none∨c[i]?=none)⟩
def KU{P:Program}{w:World}{K:yac}{es:yai}{d:Nat}{c:Pos}(k1 k2:Bool)(a b z TI TO j g:Addr)(D:Ap z TI TO j g) :
  Turn P w K (.Tuple es d c) (Itz K k1 k2 a b) [z,TI,TO,j,g] z (λi h=>ZSt k1 k2 z TI TO j g a b i h) where
 mem:=52
 obj:=λi h st c f=>by
  let⟨L,M,⟨x,y,m⟩,G,C⟩:=st;simp only[VC,zBG,or_false]at f;obtain e|e|e|e|e:=f<;>subst e;calc⟨_,L,λv q=>by cases q⟩;calc⟨_,M,λv q=>by cases q⟩;calc⟨_,m,λv q=>by cases q⟩;let⟨o,t,_,A⟩:=G.obj;calc⟨o,t,λv q=>by rw[A]at q;cases q⟩;let⟨o,t,_,A⟩:=C.obj;exact⟨o,t,λv q=>by rw[A]at q;cases q⟩
 keep:=λi h h' st kp=>by let⟨L,M,⟨x,y,m⟩,G,C⟩:=st;exact⟨kp z 52 _ L,kp TI 52 _ M,⟨x,y,kp TO 52 _ m⟩,G.of λo e=>kp j 52 o e,C.of λo e=>kp g 52 o e⟩
 item:=by
  intro X hP hw hK f i J s σ H E I p st hg;subst hP hw hK;let⟨xs,ys,x,y,t,A,hx,hy⟩:=hg;let⟨us,T,Y⟩:=t.list I;let⟨ws,Q,U⟩:=A.list I;let⟨u,d,ru⟩:=T.get hx;let⟨v,hv,rv⟩:=Q.get hy;let w:∀{k:Bool} {l:Addr} {N:yaq},Z2 X.K k H l N->Out z TO j g l:=λq=>⟨q.ne I (p z 52),q.ne I (p TO 52),q.ne I (p j 52),q.ne I (p g 52)⟩
  refine LX D (w t) (w A) st Y U (x:=u) (y:=v) (by simpa using d) (by simpa using hv) λh' d ti to G C pr kp=>⟨_,rfl,wpAny_letOwnedTupleGo_zip d λr z2 sb=>?_⟩
  let d:s.heap.objs.size<=s.heap.objs.size:=VY _;let nz:s.heap.objs.size≠z:=zBn (U5 st.z);let B:H s.heap.objs.size=none:=I.Uk.fresh d;let d:∀c o,c ∉ [z,TI,TO,j,g]->s.heap.get? c=some o->r.get? c=some o:=λc o n e=>by simp only[VC,zBG,or_false,not_or]at n;exact sb.extBut c o n.1 (kp c o n.1 n.2.2.1 n.2.2.2.1 n.2.2.2.2 e)
  let O:ZSt k1 k2 z TI TO j g a b (i+1) r:=⟨z2,sb.extBut _ _ D.a1 ti,⟨_,_,sb.extBut _ _ D.a2 to⟩,G.of λo e=>sb.extBut _ o D.a3 e,C.of λo e=>sb.extBut _ o D.a4 e⟩;let C:IsPair r s.heap.objs.size u v:=sb.extBut _ _ nz pr;let lo:∀c ∈ [z,TI,TO,j,g],c≠s.heap.objs.size:=λc f e=>by
   let a:c<s.heap.objs.size:=by
    let⟨L,M,⟨x',y',m⟩,G,b⟩:=st;simp only[VC,zBG,or_false]at f;obtain q|q|q|q|q:=f<;>subst q;calc U5 L;calc U5 M;calc U5 m;let⟨o,t,_⟩:=G.obj;calc U5 t;let⟨o,t,_⟩:=b.obj;exact U5 t
   rw[e]at a;exact zBs _ a
  calc⟨.ref s.heap.objs.size,L2.upd H s.heap.objs.size (.tup [x,y]),?_,rfl,⟨_,x,y,rfl,B,rfl,λxs' q=>by rw[q.inj I t];calc hx,λys' q=>by rw[q.inj I A];calc hy⟩,O,λc f=>by rw[aC (lo c f)];calc(p c f).1⟩;let a:∀c o,H c=some o->c ∉ [z,TI,TO,j,g]:=λc o e f=>by have:=(p c f).1;rw[e]at this;cases this
  refine L2.Inv.step (s:=s) (h':=r) (g':=s.gens) (d':=s.drawn) (t':=s.toks) (ch:=[z,TI,TO,j,g]) I (λc f=>?_) (λc o _ _ n e _=>d c o n e) (λc o _ _ n e _=>⟨o.slots,d c o n e⟩) (λc o _ e n=>by rw[aC (WG (U5 e))];calc n) (λc o n e=>⟨o,d c o n e⟩)
   (λc ls e=>by rw[aC (eV e B)];calc e) (λc o ls e=>by rw[aC (eV e B)];calc e) (λc ps e=>⟨#[],by rw[aC (eV e B),e];simp⟩) (λm y=>?_) (λc o e=>?_) I.bare
  let⟨f0,O,f2,M,L,G⟩:=p c f;calc⟨M,O,L,G⟩;let⟨o,Y7,ep,x,r⟩:=y;calc⟨o,Y7,ep,d _ o (λq=>(p _ q).2.1 rfl) x,r⟩;by_cases b:c=s.heap.objs.size;subst b;rw[aW]at e;cases e;calc⟨by rw[VA];show 2<=16777216;decide,[u,v],.cons ru (.cons rv .nil),⟨_,C,rfl,_,rfl⟩⟩;rw[aC b]at e;refine(I.Uk c o e).Zd (λd' u C q=>d d' u ?_ q) (λd' q=>by rw[aC (eV q B)];calc q) λd' ls q=>by rw[aC (eV q B)];exact q
  obtain q'|q':=C;rw[q'];calc a c o e;exact a d' _ q'
 done:=by
  intro X hP hw hK f i J s σ H E I p st hg;subst hP hw hK;let⟨xs,ys,t,A,b⟩:=hg;let⟨us,T,Y⟩:=t.list I;let⟨ws,Q,U⟩:=A.list I;let w:∀{k:Bool} {l:Addr} {N:yaq},Z2 X.K k H l N->Out z TO j g l:=λq=>⟨q.ne I (p z 52),q.ne I (p TO 52),q.ne I (p j 52),q.ne I (p g 52)⟩
  refine LY (I.ok.hd f) D (w t) (w A) st Y U (b.imp (λq=>by simpa using T.none_of q) λq=>by simpa using Q.none_of q) λh' kp=>⟨rfl,?_⟩
  let d:∀c o,c ∉ [z,TI,TO,j,g]->s.heap.get? c=some o->h'.get? c=some o:=λc o n e=>by simp only[VC,zBG,or_false,not_or]at n;exact kp c o n.1 n.2.2.1 n.2.2.2.1 n.2.2.2.2 e
  let a:∀c o,H c=some o->c ∉ [z,TI,TO,j,g]:=λc o e f=>by have:=(p c f).1;rw[e]at this;cases this
  calc L2.Inv.step (s:=s) (h':=h') (g':=s.gens) (d':=s.drawn) (t':=s.toks) (ch:=[z,TI,TO,j,g]) I (λc f=>?_) (λc o _ _ n e _=>d c o n e) (λc o _ _ n e _=>⟨o.slots,d c o n e⟩) (λ_ _ _ _ n=>n) (λc o n e=>⟨o,d c o n e⟩) (λ_ _ e=>e) (λ_ _ _ e=>e) (λc ps e=>⟨#[],by rw[e];simp⟩) (λm y=>?_) (λc o e=>?_) I.bare;let⟨f0,O,f2,M,L,G⟩:=p c f;calc⟨M,O,L,G⟩;let⟨o,Y7,ep,x,r⟩:=y;calc⟨o,Y7,ep,d _ o (λq=>(p _ q).2.1 rfl) x,r⟩;refine(I.Uk c o e).Zd (λd' u C q=>d d' u ?_ q) (λ_ q=>q) λ_ _ q=>q
  obtain q'|q':=C;rw[q'];calc a c o e;exact a d' _ q'
 self:=λ_ _ _ _ _ st h=>wpAny_pyIter_zip st.z h
def c6:D->Option (Bool×yar)
 |.lst _ a=>some (true,a)
 |.tup a=>some (false,a)
 |_=>none
section
variable{X:Cx}
def Den.seq{k:Bool}{b:yar}(h:Den X.K P H d v)(e:c6 d=some (k,b)):∃a vs,v=.ref a/\Z2 X.K k H a vs/\aq X.K P H b vs ∧
  ∀ (f:yak) (H':Hp),(∀a vs,VD X.K H a vs->VD X.K H' a vs)->(∀t a vs,¬P t a->XS X.K H t a vs->¬f t a/\XS X.K H' t a vs)->Z2 X.K k H' a vs:=by
 cases d with
 |lst t g =>
  cases e;let⟨a,vs,c,p,q,b⟩:=h.lstG_;calc⟨a,vs,c,q.1,b,λf H' _ d=>(d t a vs p q).2.1⟩
 |tup g =>
  cases e;let⟨a,vs,c,q,b⟩:=h.YF;calc⟨a,vs,c,q.w,b,λf H' b _=>(b a vs q).w⟩
 |UE=>cases e
 |bl _=>cases e
 |int _=>cases e
 |str _=>cases e
 |exc _=>cases e
 |obj _ _ _=>cases e
 |ZK=>cases e
 |Zs _ _=>cases e
def Pa(b:DA):DA:=λa R=>b a λg=>∃d c f e b a,g=[d,c]/\c6 d=some (f,b)/\c6 c=some (e,a)/\R (List.zipWith (λx y=>D.tup [x,y]) b a)
def Qe {a b:Expr} {p:Pos} (hg:Gl X "zip") (hm:X.mg "zip" = none) (ha:Zi X [a,b] ta) (hs:starEach [a,b] X.env=(false,eval a X.env)::starEach [b] X.env:=by rfl) (O:(backTo pos (starEach [b] X.env)).any (·.1)=false:=by rfl) :
  PID X (.Tuple es kt tp) (.Call (.Name "zip" p) [a,b] [] pos) (Pa ta):=by
 intro o s σ H W ρ R I r h;calc Call_ (dm I hg hm boot_zip (PyProof.Rows.callWith_type1 (T9 (ha pos o s σ H W ρ _ I r h) λus f Ub=>?_) hs O));let⟨vs,H1,ds,u,r1,e1,hd,q1⟩:=Ub;let⟨d1,d2,k1,k2,w,C,e,g1,g2,q⟩:=q1;subst e;let⟨v1,v2,rfl,U,Q⟩:=va hd;let⟨l1,k,e2,J,n,up1⟩:=U.seq g1;let⟨l2,g,e3,G,m,E⟩:=Q.seq g2;subst e2 e3;cases r1 with
 |cons ra L =>
  cases L with
  |cons rb L =>
   cases L;cases ra;cases rb;let⟨us1,_,p1⟩:=J.list u;let⟨us2,_,p2⟩:=G.list u;let nn:∀j:Nat,f.heap.objs.size<=f.heap.objs.size+j:=λj=>zCp _ j
   refine LV p1 p2 λh' Z kp=>?_
   calc wpAny_pyIter_zip Z.z ?_;let Dz:Ap (f.heap.objs.size+4) (f.heap.objs.size+2) (f.heap.objs.size+3) f.heap.objs.size (f.heap.objs.size+1):=by constructor<;>simp
   calc⟨f.heap.objs.size+4,[f.heap.objs.size+4,f.heap.objs.size+2,f.heap.objs.size+3,f.heap.objs.size,f.heap.objs.size+1],_,_,H1,_,rfl,u.kept (t':=f.toks) kp,e1,KU k1 k2 l1 l2 _ _ _ _ _ Dz,Z,λc hc=>?_,?_,q⟩;let t:f.heap.objs.size<=c:=by
    simp at hc;obtain q|q|q|q|q:=hc<;>subst q<;>first|calc nn _|exact VY _
   calc u.ZU t (u.Uk.fresh t);intro P' B z A hX i;let Y9:=up1 P' B z A;let l:=E P' B z A;let n1:=n.len;let n2:=m.len;let hlen:#[List.zipWith (λx y=>D.tup [x,y]) w C]=min #[w] #[C]:=List.length_zipWith;calc⟨λd=>?_,λv H3 y d=>?_,λd=>⟨k,g,Y9,l,?_⟩⟩;let⟨x,N,_⟩:=n.get (i:=i) (d:=w[i]' 33) 52;let⟨y,M,_⟩:=m.get (i:=i) (d:=C[i]' 33) 52;calc⟨k,g,x,y,Y9,l,N,M⟩;let⟨T,x,y',e,nT,eH,N,M⟩:=y;subst e eH;let⟨dx,Z3,Zv⟩:=n.aZ (N k Y9);let⟨dy,Y,Zw⟩:=m.aZ (M g l);let sm:au B (L2.upd B T (.tup [x,y'])):=au.upd nT;calc⟨sm,.tup [dx,dy],by simp[List.getElem?_zipWith,Z3,Y],Den.tup (VD.of aW) (aq.cons ((Den.map z A hX dx x Zv).same sm) (aq.one ((Den.map z A hX dy y' Zw).same sm)))⟩;by_cases hz:#[w]<=i;calc .inl (zCF 33);calc .inr (zCF 33)
end
open PySem PySem.Spec PyProof.Rows L2
inductive FDP (X:Cx) (pins:yab) (σ:St) (W:Own) (H:Hp) (Q:yar->Prop) (u:Value) (s':Shared):Prop
 |mk (a:Addr) (vs:yaq) (H':Hp) (ds:yar) (_:u=.ref a) (_:Inv X pins σ H' s') (_:au H H') (_:H a=none) (_:X.K.lookup a=none) (_:H' a=some (.lst vs)) (_:aq X.K (λt b=>W.bad t b∨b=a) H' ds vs) (_:Q ds)
def PEF(X:Cx)(e:Expr)(t:DA):Prop :=
 ∀ (a:yab) (s:Shared) (b:St) (H:Hp) (W:Own) (c:Ro) (Q:yar->Prop),Inv X a b H s->Rel X W H b c->t c Q →
  wpAny (model X.prog X.w) X.A (eval e X.env) (FDP X a b W H Q) X.xe s
def OR(t:DA):DE:=λa Q=>t a λa=>Q (.lst true a)
section
variable{X:Cx}{e:Expr}{t:DA}{pos:Pos}
def PEF.ped(h:PEF X e t):Ul X e (OR t):=by
 intro a s b H W c Q I r d;refine T9 (h a s b H W c _ I r d) λu j d=>?_
 let⟨a,i,g,l,e,f,sm,n,k,c,b,q⟩:=d;subst e;calc⟨.ref a,g,_,f,rfl,sm,Den.lst (r.fresh n) (.new c k) (b.UG λ_ _ z=>.inl z),q⟩
def Inv.kno{o:HO}(I:Inv X pins σ H s)(h:H a=some o):X.K.lookup a=none:=by
 cases e:X.K.lookup a with
 |none=>rfl
 |some b =>
  have:=(I.bs a b (I.ok.mod.YB a b e)).2
  lia
def RE(i:Nat)(t:DA):DS:=λE a=>t a λb=>E.nx (a.set i (some (.own b)))
end
mutual
def Ti:D->Bool
 |.tup a=>vL a
 |.obj _ _ a=>vL a
 |.Zs _ a=>vL a
 |.lst _ _=>false
 |_=>true
def vL:yar->Bool
 |[]=>true
 |d::a=>Ti d && vL a
end
mutual
def w6:D->Bool
 |.tup a=>rq a
 |.obj _ _ a=>rq a
 |.Zs _ a=>rq a
 |.lst t a=>t && rq a
 |_=>true
def rq:yar->Bool
 |[]=>true
 |d::a=>w6 d && rq a
end
def Own.soft(W:Own)(i:Nat)(a:Addr):Own:=⟨W.B,λj=>if j=i then none else W.O j,λb=>W.S b∨b=a⟩
section
variable{X:Cx}
theorem Rel.soft{i:Nat}(r:Rel X W H σ ρ)(e:ρ[i]?=some (some (.own ds))):∃a,W.O i=some a/\Rel X (W.soft i a) H σ (ρ.set i (some (.val (.lst false ds))))/\∀b,W.bad true b->(W.soft i a).bad true b:=by
 let⟨a,u,g,o,p,s⟩:=r.ownL i ds e;let n:i<#[ρ]:=(Zn.mp e).1;let e:∀j b,(W.soft i a).O j=some b->j≠i/\W.O j=some b:=λj b h=>by
  let l:(if j=i then none else W.O j)=some b:=h
  lia
 let c:∀t b,(W.soft i a).bad t b->W.bad t b:=λt b z=>by
  obtain z|⟨j,z⟩| ⟨d,z2⟩:=z;calc .inl z;calc .inr (.inl ⟨j,(e j b z).2⟩);obtain z2|z2:=z2;calc .inr (.inr ⟨d,z2⟩);subst z2;exact .inr (.inl ⟨i,g⟩)
 let q:¬(W.soft i a).bad false a:=λz=>by
  obtain z|⟨j,z⟩| ⟨d,_⟩:=z;calc(r.kn i a g).2.1.1 z;calc(e j a z).1 (r.inj j i a (e j a z).2 g);cases d
 calc⟨a,g,⟨λj d h=>?_,λj x h=>?_,λj k b l m=>r.inj j k b (e j b l).2 (e k b m).2,λj b h=>?_,λj b h=>r.ke j b (e j b h).2,r.bt,λb h=>?_,r.ent,r.tab⟩,λb z=>?_⟩;by_cases f:j=i;subst f;rw[zCP n]at h;cases h;calc⟨.ref a,o,Den.lst q (.any (SqL.of p)) (s.UG c)⟩;rw[zAq (Ne.symm f)]at h;let⟨w,l,m⟩:=r.val j d h;calc⟨w,l,m.UG c⟩;by_cases f:j=i
 cbv
 rw[zAq (Ne.symm f)]at h;let⟨b,a,l,m,n,d⟩:=r.own j x h;exact⟨b,a,by show(if j=i then none else W.O j)=_;rw[TM f];calc l,m,n,d.UG c λk c q=>(by show(if vix #[σ] j k=i then none else W.O (vix #[σ] j k))=_;rw[TM (wM (Zn.mp o).1)];calc q)⟩
 let⟨k,⟨d,c⟩,a⟩:=r.kn j b (e j b h).2;calc⟨k,⟨d,λz=>z.elim c λz=>?_⟩,a⟩;subst z;calc(e j b h).1 (r.inj j i b (e j b h).2 g);obtain h|h:=h;calc r.st b h;subst h;calc⟨_,p⟩;obtain z|⟨j,z⟩| ⟨_,z⟩:=z;calc .inl z;by_cases f:j=i;subst f;rw[g]at z;cases z;calc .inr (.inr ⟨rfl,.inr rfl⟩);calc .inr (.inl ⟨j,by show(if j=i then none else W.O j)=_;rw[TM f];calc z⟩);calc .inr (.inr ⟨rfl,.inl z⟩)
variable{e:Expr}{te:DE}{tt:DT}{ta:DA}
def RI(i:Nat)(t:DE):DE:=λa Q=>kK a[i]? λb=>t (a.set i (some (.val (.lst false b)))) λd=>w6 d=true/\Q d
def GY(i:Nat)(t:DT):DT:=λa Q=>kK a[i]? λb=>t (a.set i (some (.val (.lst false b)))) Q
def O4(i:Nat)(t:DA):DA:=λa Q=>kK a[i]? λb=>t (a.set i (some (.val (.lst false b)))) λa=>rq a=true/\Q a
def Mn(i:Nat)(h:ZX X e tt):ZX X e (GY i tt):=by intro b s d H W g Q I r c;let⟨l,f,c⟩:=rN c;let⟨a,k,a,j⟩:=r.soft f;calc h b s d H _ _ _ I a c
end
section
variable{X:Cx}{pos:Pos}
theorem aq.take{K:yac}{P:yak}{H:Hp}:∀{a:yar} {vs:yaq} (n:Nat),aq K P H a vs->aq K P H (a.take n) (vs.take n)
 |_,_,0,_=>by simp_all [List.take_zero,aq.nil]
 |[],_,_+1,h=>by subst h;calc aq.nil
 |x::r,_,n+1,h=>by let⟨u,w,rfl,b,a⟩:=h;calc aq.cons b (aq.take n a)
theorem aq.drop{K:yac}{P:yak}{H:Hp}:∀{a:yar} {vs:yaq} (n:Nat),aq K P H a vs->aq K P H (a.drop n) (vs.drop n)
 |_,_,0,h=>58
 |[],_,_+1,h=>by subst h;calc aq.nil
 |x::r,_,n+1,h=>by let⟨u,w,rfl,b,a⟩:=h;calc aq.drop n a
theorem aq.rev{K:yac}{P:yak}{H:Hp}:∀{a:yar} {vs:yaq},aq K P H a vs->aq K P H a.reverse vs.reverse
 |[],_,h=>by subst h;calc aq.nil
 |x::r,_,h=>by
  let⟨u,w,rfl,c,b⟩:=h
  simp_all [zCd,aq.rev,append,aq.one]
def OY(i:Nat)(c te:DE):DS:=λE a=>∃b,a[i]?=some (some (.own b))/\te a λd=>c a λk=>∃n j,k=.int n/\ixN #[b] n=some j/\E.nx (a.set i (some (.own (b.set j d))))
def E4(i:Nat)(C:yar->Prop)(f:yar->yar):DS:=λE a=>kK a[i]? λb=>C b/\E.nx (a.set i (some (.own (f b))))
def JH {x name:Str} {id:String} {e b j:Pos} {k:V->yaq->Hp->VK->Prop} {C:yar->Prop} {f:yar->yar} (g:yaq->yaq) (i:Nat) (d:Slot "list" name id) (h:typeOf (.builtin id)=pure (.type "method_descriptor")) (m:MtM X id k)
  (l:∀(a:Addr) (vs:yaq) (c:yar) (H:Hp) (Q:VK),H a=some (.lst vs)->#[vs]=#[c]->C c->(∀v,Q v (L2.upd H a (.lst (g vs))))->k (.ref a) [] H Q) (o:∀(K:yac) (P:yak) (H:Hp) (c:yar) (vs:yaq),aq K P H c vs->aq K P H (f c) (g vs))
  (n:X.N[i]?=some x:=by rfl) (hv:Vis X.env.scope x:=by first|calc Or.inl rfl|calc Or.inr (Or.inl rfl)|calc Or.inr (Or.inr rfl)) (p:(x==("__debug__" : Str))=false:=by decide) (q:(x==("__classdict__" : Str))=false:=by decide)
  (s:attributeBase (.Name x e) name X.env (eval (.Name x e) X.env)=eval (.Name x e) X.env:=by rfl) (r:(b.endLine==j.line)=true:=by rfl)
  (hs:swapsWith (.Call (.Attribute (.Name x e) name b) [] [] j) none pos.line X.env=pure false:=by rfl):Yb X (.Expr (.Call (.Attribute (.Name x e) name b) [] [] j) pos) (E4 i C f):=by
 let b:=xD (pos:=pos) (QR PySem.F.plainAttrs_list d h m (kL n hv p q) s r) hs;refine Yb.of b λt H W u E r w h=>?_
 let⟨c,e,k,h⟩:=rN h;let⟨a,vs,j,d,b,f⟩:=r.ownL i c e;let⟨g,i⟩:=r.mut e j d b (o _ _ _ c vs f);calc⟨.ref a,d,.inl ⟨rfl,_,SqL.of b⟩,l a vs c H _ b f.len k λv=>⟨W,_,i,g,h⟩⟩
theorem aq.dropLast{K:yac}{P:yak}{H:Hp}{a:yar}{vs:yaq}(h:aq K P H a vs):aq K P H a.dropLast vs.dropLast:=by rw[List.dropLast_eq_take,List.dropLast_eq_take,h.len];calc h.take _
def Pn {x:Str} {b a c:Pos} (i:Nat) (e:X.N[i]?=some x:=by rfl) (hv:Vis X.env.scope x:=by first|calc Or.inl rfl|calc Or.inr (Or.inl rfl)|calc Or.inr (Or.inr rfl)) (f:(x==("__debug__" : Str))=false:=by decide) (g:(x==("__classdict__" : Str))=false:=by decide)
  (k:attributeBase (.Name x b) "pop" X.env (eval (.Name x b) X.env)=eval (.Name x b) X.env:=by rfl) (j:(a.endLine==c.line)=true:=by rfl)
  (hs:swapsWith (.Call (.Attribute (.Name x b) "pop" a) [] [] c) none pos.line X.env=pure false:=by rfl):Yb X (.Expr (.Call (.Attribute (.Name x b) "pop" a) [] [] c) pos) (E4 i (λd=>0<#[d]) List.dropLast) :=
 JH List.dropLast i PySem.F.slot_list_pop PySem.F.type_list_pop Qx (λa b d H Q d l m q=>by
  let c:#[b] - 1<#[b]:=by omega
  calc⟨a,b,b[#[b] - 1],rfl,rfl,d,by simp[c],q _⟩) (λ_ _ _ _ _ h=>h.dropLast) e hv f g k j hs
def S8(i:Nat)(f:Int->Int->Int)(te:DE):DS:=λE c=>∃a,c[i]?=some (some (.val (.int a)))/\te c λd=>∃b,d=.int b/\E.nx (c.set i (some (.val (.int (f a b)))))
def Pk{x:Str}(i:Nat)(h:X.N.Nodup)(d:Ul X e te)(b:PIp X op (ipI f))(g:X.N[i]?=some x:=by rfl)(a:Loc X.env.scope x:=by first|calc Or.inl rfl|calc Or.inr rfl)
  (c:X.fn x=true∨X.env.scope.names.lookup x=some .local:=by first|calc .inl rfl|calc .inr rfl|assumption):Yb X (.AugAssign (.Name x pos') op e pos) (S8 i f te):=by
 refine Yb.of (QX h g a d.pe b c) λe H W b E r f h=>?_
 let⟨a,d,h⟩:=h;let⟨v,c,hv⟩:=r.val i _ d;let z:=hv.VQ;subst z;calc⟨.int a,c,W,b,_,r,h,λj h d d c q=>?_⟩;let⟨b,rfl,q⟩:=q;let z:=c.VQ;subst z;let c:i<#[e]:=by rw[f];exact(Zn.mp g).1
 calc⟨a,b,rfl,rfl,W.drop i,_,(Vn.same d).trans (Vn.drop W h i),(r.same d).put c (Den.int _),q⟩
variable{e:Expr}{te:DE}{p:Pos}
def RH(te:DE):DA:=λa Q=>te a λd=>∃k a,c6 d=some (k,a)/\Q a
theorem eI{K:yac}{P:yak}{H:Hp}:∀{ns:yaf} {vs:yaq},aq K P H (ns.map D.int) vs->vs=ns.map V.int
 |[],_,h=>by simpa only[zDM,aq]using h
 |n::r,_,h=>by let⟨v,w,rfl,b,a⟩:=h;rw[b.VQ,eI a];rfl
def Av (w:X.calm=true):c7 X (.builtin "sum") (λh Q=>∃(t:Bool) (ns:yaf),h=[.lst t (ns.map D.int)]/\Q (.int ns.sum)):=by
 intro d s A H W h C E Q I G r u q;let⟨t,ns,e,q⟩:=q;subst e;let⟨v,rfl,x⟩:=jQ u;let⟨a,B,y,_,n,m⟩:=x.Xd;subst y;cases r with
 |cons k j =>
  cases j;cases k;let⟨i,c,l,_⟩:=I.list n;rw[eI m]at c;let f:=intsAre_of c;let⟨b,g⟩:=f.allInts.items;let o:s.heap.IsList a (intItems b):=by rw[<- g];exact l.isList
  refine sum_intListG (I.ok.hd w) o λM J L kp=>?_
  let z:preSum (numAt b) b.size=ns.sum:=by rw[preSum_eq,zB9 52,<- nums_intItems,<- g,show i.toArray.toList=i from rfl,f.numsOf]
  rw[z];calc⟨.int ns.sum,H,_,I.kept kp,⟨_,rfl⟩,au.refl H,Den.int _,q⟩
theorem Vals.rev:∀{xs:yaq} {a:yad},Vals xs a->Vals xs.reverse a.reverse
 |_,_,.nil=>.nil
 |_,_,.cons r t=>by rw[zCd,zCd];calc(Vals.rev t).append (.cons r .nil)
def cutD(xs:yar)(lo a:yap):yar:=(xs.drop (HT.Vy #[xs] 0 lo)).take (HT.Vy #[xs] #[xs] a - HT.Vy #[xs] 0 lo)
def aq.cut{K:yac}{P:yak}{H:Hp}{b:yar}{vs:yaq}(lo a:yap)(h:aq K P H b vs):aq K P H (cutD b lo a) (p6 vs lo a):=by ext cutD p6;rw[h.len];calc(h.drop _).take _
abbrev DO:=Ro->(yap->Prop)->Prop
def PDO(X:Cx)(e:Option Expr)(t:DO):Prop :=
 ∀ (a:yab) (s:Shared) (b:St) (H:Hp) (W:Own) (c:Ro) (Q:yap->Prop),Inv X a b H s->Rel X W H b c->t c Q →
  wpAny (model X.prog X.w) X.A (evalPart e X.env) (λu d=>∃o c,Inv X a b c d/\IsPart u o/\au H c/\Q o) X.xe s
def dg:DO:=λ_ Q=>Q none
def u4(te:DE):DO:=λa Q=>te a λd=>∃i,d=.int i/\Q (some i)
def dQ:PDO X none dg:=by intro a s b H W c Q I r h;calc T5 ⟨none,H,I,.none,au.refl H,h⟩
def eS(d:Ul X e te):PDO X (some e) (u4 te):=by
 intro a s b H W c Q I r h;refine T9 (d a s b H W c _ I r h) λu j f=>?_
 let⟨v,h,d,g,a,d,b,i,c,q⟩:=f;subst c;let z:=b.VQ;subst z;let⟨t,rfl⟩:=a;calc⟨some i,h,g,.int i t,d,q⟩
variable{lo hi st:Option Expr}{tl th ts:DO}{p2:Pos}
def uy{R:D->yap->yap->yap->Prop}(n:Ul X e te)(m:PDO X lo tl)(hh:PDO X hi th)(q:PDO X st ts)(I:Inv X pins σ H s)(r:Rel X W H σ ρ)
  (h:te ρ λd=>tl ρ λl=>th ρ λu=>ts ρ λk=>R d l u k)
  (A:∀(v:V) (a g f i:Value) (l u k:yap) (d:D) (b:Addr) (H':Hp) (j:Shared),Inv X pins σ H' j->au H H'->RelV v a->Den X.K W.bad H' d v->j.heap.IsSliceOf b g f i->IsPart g l->IsPart f u->IsPart i k->R d l u k →
   ∃ T id,typeLookup (.type T) "__getitem__" = pure (some (.builtin id))/\j.TypeIs a T/\wpAny (model X.prog X.w) X.A (getItem a (.ref b)) Q X.xe j)
  (c:∀a b,∃ops,subscripted (.Slice lo hi st p2) false a b=operate ops (getItem a b)):wpAny (model X.prog X.w) X.A (eval (.Subscript e (.Slice lo hi st p2) pos) X.env) Q X.xe s:=by
 calc Subscript_ (T9 (n pins s σ H W ρ _ I r h) λa h n=>?_);let⟨v,w,d,o,t,s,B,j⟩:=n;let b:=r.same s;calc wpAny_Slice (T9 (m pins h σ w W ρ _ o b j) λg h ⟨l,r,o,y,j,m⟩=>T9 (hh pins h σ r W ρ _ o (b.same j) m) λf h ⟨u,w,r,x,m,o⟩=>T9 (q pins h σ w W ρ _ r ((b.same j).same m) o) λi h n=>?_);let⟨k,r,b,z,o,w⟩:=n;let C:Inv X pins σ r {h with heap:=h.heap.push {cls:=.type "slice", data:=.fields #[g,f,i]} }:=b.kept (t':=h.toks) λb ob q=>VX _ q
 let⟨T,id,q,b,n⟩:=A v a g f i l u k d h.heap.objs.size r _ C (s.trans (j.trans (m.trans o))) t (B.same (j.trans (m.trans o))) (Heap.IsSliceOf.new ..) y x z w;let⟨ops,d⟩:=c a (.ref h.heap.objs.size);calc tail_any (ops:=ops) b q n d
def O2(te:DE)(tl th:DO):DA:=λa Q=>te a λd=>tl a λl=>th a λu=>∃t a,d=.lst t a/\Q (cutD a l u)
def O3(te:DE)(tl th:DO):DE:=λa Q=>te a λd=>tl a λl=>th a λu=>∃a,d=.tup a/\¬(HT.Vy #[a] 0 l=0/\HT.Vy #[a] #[a] u=#[a])/\Q (.tup (cutD a l u))
def sW(f:yaq->yaq)(g:yar->yar)(I:Inv X pins σ H' s)(r:Rel X W H' σ ρ)(sm:au H H')(c:RelV v vv)(d:Den X.K W.bad H' (.lst tg ds) v)(hs:s.heap.IsSliceOf sl vl vu vk)(j:IsPart vl l)(i:IsPart vu u)(pk:IsPart vk k)(k0:k≠some 0)
  (m:∀b:yad,∃g':yad->yad,slicePick b.toArray l u k=(g' b).toArray/\∀vs,Vals vs b->Vals (f vs) (g' b)/\#[f vs]<=#[vs]) (n:∀vs,aq X.K W.bad H' ds vs->aq X.K W.bad H' (g ds) (f vs)) {Q:yar->Prop} (q:Q (g ds)) :
  ∃ T id,typeLookup (.type T) "__getitem__" = pure (some (.builtin id))/\s.TypeIs vv T/\wpAny (model X.prog X.w) X.A (getItem vv (.ref sl)) (FDP X pins σ W H Q) X.xe s:=by
 let⟨a,vs,a,_,l,r⟩:=d.Xd;subst a;cases c;let⟨b,d,a,k⟩:=I.list l;let h:=#[d];calc⟨"list", _,slot_list_getitem.lookup,a.isList.typeIs,?_⟩;calc wpAny_getItem_list_slice a.isList hs j i pk k0 ?_ (by rw[Yw]<;>lia);let⟨g',e,hv⟩:=m b;rw[e];let⟨a,c⟩:=hv vs d;let d:H' s.heap.objs.size=none:=I.Uk.fresh (VY _);calc⟨s.heap.objs.size,f vs,_,g ds,rfl,I.laid (t':=s.toks) (o:=.lst (f vs)) (λb ob q=>VX _ q) (VY _) ⟨Xb c k,_,0,a,Xg _ rfl⟩,sm.trans (au.upd d),sm.free d,Inv.Xl I,aW,aq.apart d (Inv.Xl I) (n vs r),q⟩
def iz(g:Ul X e te)(f:PDO X lo tl)(hh:PDO X hi th):PEF X (.Subscript e (.Slice lo hi none p2) pos) (O2 te tl th):=by
 intro c s o H W b Q I r h;calc uy (st:=none) (ts:=dg) (R:=λd l u k=>k=none/\∃t a,d=.lst t a/\Q (cutD a l u)) g f hh dQ I r ?_ ?_ (λ_ _=>⟨_,rfl⟩);let f:(λd=>tl b λl=>th b λu=>dg b λk=>k=none/\∃t a,d=D.lst t a/\Q (cutD a l u))=λd=>tl b λl=>th b λu=>∃t a,d=D.lst t a/\Q (cutD a l u):=by
  funext d
  congr 1
  funext l
  congr 1
  funext u
  exact propext ⟨λz=>z.2,λz=>⟨rfl,z⟩⟩
 rw[f];calc h;intro v w y x A l u k d B H' C n sm d j i g f h b;let⟨k,t,a,m,q⟩:=b;subst k m;calc sW (λb=>p6 b l u) (λa=>cutD a l u) n (r.same sm) sm d j i g f h 52 (λa=>⟨λa=>(a.drop (HT.Vy #[a] 0 l)).take (HT.Vy #[a] #[a] u - HT.Vy #[a] 0 l),zD a l u,λb a=>⟨by ext p6;rw[#[a]];calc(a.drop _).take _,sR b l u⟩⟩) (λb a=>a.cut l u) q
def O1(te:DE):DA:=λa Q=>te a λd=>∃t a,d=.lst t a/\Q a.reverse
def Pg(c:Ul X e te):PEF X (.Subscript e (.Slice none none (some (.UnaryOp .USub (.Constant (.int 1) j pc) f)) p2) pos) (O1 te):=by
 intro g s o H W b Q I r h;calc uy (ts:=u4 (AL (dC (.int 1)))) (tl:=dg) (th:=dg) (R:=λd l u k=>l=none/\u=none/\k=some (-1)/\∃t a,d=.lst t a/\Q a.reverse) c dQ dQ (eS (bE ae)) I r ?_ ?_ (λ_ _=>⟨_,rfl⟩);let c:(λd=>dg b λl=>dg b λu=>u4 (AL (dC (.int 1))) b λk=>l=none/\u=none/\k=some (-1)/\∃t a,d=D.lst t a/\Q a.reverse)=λd=>∃t a,d=D.lst t a/\Q a.reverse:=by
  simp only[dg,u4,AL,dC,true_and]
  cbv
 rw[c];calc h;intro v w y x z l u k d A H' B n sm b j i d f h k;let⟨c,m,l,t,a,a,q⟩:=k;subst c m l a;calc sW List.reverse List.reverse n (r.same sm) sm b j i d f h 23 (λa=>⟨List.reverse,PySem.W.krv_pick a.toArray,λa b=>⟨Vals.rev b,58⟩⟩) (λa a=>a.rev) q
end
section
variable{prog:Program}{w:World}{A:Around}{E:yaa}{s:Shared}{p q:Addr}{us ws:yad}{Q:yaa}
def SY(c:s.heap.IsList p us.toArray)(m:s.heap.IsList q ws.toArray)(hz:#[us]+#[ws]<=sizeLine)
  (h:Q (.ref s.heap.objs.size) {s with heap:=s.heap.push {cls:=.type "list", data:=.seq (us++ws).toArray} }):wpAny (model prog w) A (binaryOp .Add (.ref p) (.ref q)) Q E s:=by
 let⟨⟨t,l,o,g⟩,b,a,j,g3⟩:=id c;let⟨⟨r,k,n,f⟩,e,d,i,c⟩:=id m;simp only at a g3 d c;subst a g3 d c;calc concat_meets ⟨_,b,rfl⟩ ⟨_,e,rfl⟩ noFill_list_add seq_list_add PySem.F.slot_list_add PySem.F.entry_list_add (PySem.F.args_list_add_2 _ _) (list_addW p q us.toArray ws.toArray j i l k g f (by simpa using hz)) ⟨b,e,?_⟩;rw[show us.toArray++ws.toArray=(us++ws).toArray by simp];calc h
def S1(b:IsTup s.heap p us.toArray)(i:IsTup s.heap q ws.toArray)(hz:#[us]+#[ws]<=sizeLine)(h0:us=[]->Q (.ref q) s)(j:ws=[]->Q (.ref p) s)
  (h:Q (.ref s.heap.objs.size) {s with heap:=s.heap.push {cls:=.type "tuple", data:=.seq (us++ws).toArray} }):wpAny (model prog w) A (binaryOp .Add (.ref p) (.ref q)) Q E s:=by
 let⟨⟨t,h,o,d⟩,a,k,f,g3⟩:=id b;let⟨⟨r,g,n,c⟩,b,m,e,l⟩:=id i;subst k g3 m l;by_cases hv:us=[];calc concat_meets ⟨_,a,rfl⟩ ⟨_,b,rfl⟩ noFill_tuple_add seq_tuple_add PySem.F.slot_tuple_add PySem.F.entry_tuple_add (PySem.F.args_tuple_add_2 _ _) (tuple_addW0 p q us.toArray ws.toArray f e h g d c (by simp[hv])) ⟨a,b,h0 hv⟩;by_cases i:ws=[];calc concat_meets ⟨_,a,rfl⟩ ⟨_,b,rfl⟩ noFill_tuple_add seq_tuple_add PySem.F.slot_tuple_add PySem.F.entry_tuple_add (PySem.F.args_tuple_add_2 _ _) (tuple_addW1 p q us.toArray ws.toArray f e h g d c 47 (by simp[i])) ⟨a,b,j i⟩;calc concat_meets ⟨_,a,rfl⟩ ⟨_,b,rfl⟩ noFill_tuple_add seq_tuple_add PySem.F.slot_tuple_add PySem.F.entry_tuple_add (PySem.F.args_tuple_add_2 _ _) (tuple_addW2 p q us.toArray ws.toArray f e h g d c 47 47 47) ⟨a,b,?_⟩;grind
end
section
variable{X:Cx}{pos:Pos}
def rP:RD2:=λx y Q=>match x,y with
 |.int i,.int j=>Q (.int (i+j))
 |.tup b,.tup a=>#[b]+#[a]<=sizeLine/\Q (.tup (b++a))
 |.lst _ b,.lst _ a=>#[b]+#[a]<=sizeLine/\Q (.lst true (b++a))
 |_,_=>False
theorem Gv(i j:Int)(Q:D->Prop):rP (.int i) (.int j) Q=Q (.int (i+j)):=rfl
theorem Ox(xs ys:yar)(Q:D->Prop):rP (.tup xs) (.tup ys) Q=(#[xs]+#[ys]<=sizeLine/\Q (.tup (xs++ys))):=rfl
theorem uS(t u:Bool)(xs ys:yar)(Q:D->Prop):rP (.lst t xs) (.lst u ys) Q=(#[xs]+#[ys]<=sizeLine/\Q (.lst true (xs++ys))):=rfl
def M7{W:Own}{H:Hp}{t:Bool}(b:∀t a,W.bad t a->∃o,H a=some o)(h:H a=none):¬W.bad t a:=58
set_option tactic.hygienic true in
def aE:Wb X (binaryOp .Add) rP:=by
 intro a s b H W x y v u c d Q I A w z n m q;cases x<;>cases y<;>first|calc q.elim|skip
 calc QB a s b H W _ _ v u c d Q I A w z n m q;rename_i L b;let⟨p,l,y,h,d⟩:=n.YF;let⟨B,f,x,g,c⟩:=m.YF;subst y x;cases w;cases z;let⟨o,k,t,_⟩:=I.tuple h.w;let⟨a,j,r,_⟩:=I.tuple g.w;let⟨M,q⟩:=q;let J:=d.len;let G:=c.len;let E:=#[k];let C:=#[j];let e:#[o]+#[a]<=sizeLine:=by omega
 let i:H s.heap.objs.size=none:=I.Uk.fresh (VY _);calc S1 t r e (λe=>?_) (λe=>?_) ?_;subst e;have:l=[]:=zAk (by simpa using E);subst this;have:L=[]:=zAk (by simpa using J.symm);subst this;calc⟨.ref B,H,_,I,rfl,au.refl H,m,q⟩;subst e;have:f=[]:=zAk (by simpa using C);subst this;have:b=[]:=zAk (by simpa using G.symm);subst this;rw[zBd]at q;calc⟨.ref p,H,_,I,rfl,au.refl H,n,q⟩;calc⟨.ref s.heap.objs.size,L2.upd H s.heap.objs.size (.tup (l++f)),_,I.laid (t':=s.toks) (λb u e=>VX _ e) (VY _) ⟨by rw[Xh];omega,o++a,k.append j,⟨_,Xg _ rfl,rfl,_,rfl⟩⟩,rfl,au.upd i,Den.tup (VD.of aW) ((d.append c).same (au.upd i)),q⟩;let⟨p,l,y,_,h,d⟩:=n.Xd;let⟨B,f,x,_,g,c⟩:=m.Xd;subst y x;cases w;cases z;let⟨o,k,t,_⟩:=I.list h;let⟨a,j,r,_⟩:=I.list g;let⟨M,q⟩:=q;let J:=d.len;let G:=c.len;let E:=#[k];let C:=#[j];let i:H s.heap.objs.size=none:=I.Uk.fresh (VY _);calc SY t.isList r.isList (by omega) ?_;calc⟨.ref s.heap.objs.size,L2.upd H s.heap.objs.size (.lst (l++f)),_,I.laid (t':=s.toks) (λb u e=>VX _ e) (VY _) ⟨by rw[Xh];omega,o++a,0,k.append j,Xg _ rfl⟩,rfl,au.upd i,Den.lst (M7 A i) (.new aW (Inv.Xl I)) ((d.append c).same (au.upd i)),q⟩
def okI(x:D):Prop:=okD x/\(Xu x).depth<64
def Q2:RD2:=λx y Q=>okI x/\okD y/\∃a,(y=.tup a∨∃ t,y=.lst t a)/\Q (.bl (a.any λz=>eqD z x))
def NJ:RD2:=λx y Q=>okI x/\okD y/\∃a,(y=.tup a∨∃ t,y=.lst t a)/\Q (.bl (!a.any λz=>eqD z x))
theorem Aj(x:D):∀ys:yar,(dE ys).any (λy=>PyData.eqv y (Xu x))=ys.any λz=>eqD z x
 |[]=>by rfl
 |y::r=>by rw[dE,List.any_cons,List.any_cons,Aj x r];rfl
def DZ{A:Around}{d:PyData}(b:d.depth<64)(a:A.units+64<cLine):A.units+1+min (PyData.depthAll xs) d.depth<cLine:=by
 have:min (PyData.depthAll xs) d.depth<=d.depth:=Nat.min_le_right _ _
 lia
def Kd(i:X.A.units+64<cLine):Wb X (compareOp .NotIn) NJ:=by
 intro a s j H W x y v u l m Q I _ n o r p q;let⟨b,f,k,e,q⟩:=q;let⟨z,h⟩:=eF I x v l r n b.1.1;let⟨w,g⟩:=eF I y u m p o f.1;let c:DP X a j W H Q (.bool (!(dE k).any λy=>PyData.eqv y (Xu x))) s:=by rw[Aj];exact⟨.bl _,H,_,I,rfl,au.refl H,Den.bl _,q⟩
 obtain e|⟨t,e⟩:=e;subst e;let d:=f.2;calc SeqAt.notIn_tuple_reads g h (SeqAt.canLay_of_shaped d) (SeqAt.canLay_of_shaped b.1.2) (DZ b.2 i) c;subst e;let d:=f.2;calc SeqAt.notIn_list_reads g h (SeqAt.canLay_of_shaped d) (SeqAt.canLay_of_shaped b.1.2) (DZ b.2 i) c
def Qg(x:D)(t:Bool)(ys:yar)(Q:D->Prop):Q2 x (.lst t ys) Q=(okI x/\okD (.lst t ys)/\Q (.bl (ys.any λz=>eqD z x))):=by
 apply propext;constructor;rintro⟨b,a,c,e,q⟩
 lia
 rintro⟨b,a,q⟩;calc⟨b,a,ys,.inr ⟨t,rfl⟩,q⟩
def Qh(x:D)(ys:yar)(Q:D->Prop):Q2 x (.tup ys) Q=(okI x/\okD (.tup ys)/\Q (.bl (ys.any λz=>eqD z x))):=by
 apply propext;constructor;rintro⟨b,a,c,e,q⟩
 lia
 rintro⟨b,a,q⟩;calc⟨b,a,ys,.inl rfl,q⟩
def Nb(i:Int):okI (.int i)=True:=eq_true ⟨Ea i,by rw[Xu,PyData.depth];decide⟩
def Nc:okI .UE=True:=eq_true ⟨Eb,23⟩
end
def kwG{a:Type}(b ws:List a):List a:=match ws with
 |[w]=>b++[w]
 |_=>[]
def MR(r:Vals vs us)(a:Vals zs ws):Vals (kwG vs zs) (kwG us ws):=by
 cases a with
 |nil=>calc .nil
 |cons a b =>
  cases b with
  |nil=>calc r.append (.cons a .nil)
  |cons c d=>calc .nil
def ni(P:Program)(w:World)(K:yac)(mg:yal)(base:Heap)(x:Str)(k:Nat)(ps:yah)(b:Str)(sp:DSp):Prop :=
 ∃ f a,aA P w K mg base (CX1 P w) k f a ps (aD K sp)/\mg x=some (.ref f)/\PySem.W.keepIn K (.ref f)=true/\Binds K a ps []/\Binds K a ps [.none]/\Gu K a ps [b] kwG kwG
def PKD(X:Cx)(e:List Keyword)(t:DA):Prop :=
 ∀ (c:Pos) (a:yab) (s:Shared) (b:St) (H:Hp) (W:Own) (d:Ro) (Q:yar->Prop),Inv X a b H s->Rel X W H b d->t d Q →
  wpAny (model X.prog X.w) X.A (evalAll ((backToKw c (keywordEach e X.env)).map (·.2))) (DAP X a b W H Q) X.xe s
section
variable{X:Cx}{k:Nat}{ps:yah}{kn:Str}{sp:DSp}{x:Str}{p pos kpos:Pos}{e:Expr}{es:yai}{t tk:DA}{te:DE}{nm:Option Str}{Vx:List Keyword}
def gk (h:ni X.prog X.w X.K X.mg X.base x k ps kn sp) (a:bH k X.A) (i:Zi X (e::es) t) (d:Gl X x:=by rfl) (j:(x==("__debug__" : Str))=false:=by decide)
  (g:starEach (e::es) X.env=(false,eval e X.env)::starEach es X.env:=by rfl) (l:(backTo pos (starEach es X.env)).any (·.1)=false:=by rfl):Ul X (.Call (.Name x p) (e::es) [] pos) (uY sp [.UE] t):=by
 let⟨f,m,F,b,c,_,f,_⟩:=h;calc AO (dds:=[.UE]) (dsv:=[.none]) F a d b c f (.cons rfl .nil) (by intro d a;simp at a;subst a;calc True.intro) LB i j g l
def ON(sp:DSp)(t tk:DA):DE:=λa Q=>t a λb=>tk a λes=>∃d,es=[d]/\sp (aV (b++[d])) Q λ_=>False
def PC(a:D)(R:D->Prop):(∃d,[a]=[d]/\R d)=R a:=33
def OM(sp:DSp)(t:DA):DA:=λa Q=>t a λa=>sp (aV a) (λd=>∃a,d=.lst true a/\vL a=true/\Q a) λ_=>False
end
def jy:Key->D
 |.inl i=>.int i
 |.inr x=>.str x
section
variable{κ:Type} [DecidableEq κ] {K:yac}{P:yak}{H:Hp}
noncomputable def d5(kvs:List (κ×D))(k:κ):Option D:=(kvs.find? λa=>decide (a.1=k)).map (·.2)
def putD(kvs:List (κ×D))(k:κ)(d:D):List (κ×D):=if(d5 kvs k).isSome=true then kvs.map (λa=>if a.1=k then(a.1,d)else a)else kvs++[(k,d)]
def Ff(p:κ×D)(r:List (κ×D))(k:κ):d5 (p::r) k=if p.1=k then some p.2 else d5 r k:=by ext d5;grind
theorem tY:∀{kvs:List (κ×D)} {a:List (κ×V)} {k:κ},a.map (·.1)=kvs.map (·.1)->aq K P H (kvs.map (·.2)) (a.map (·.2))->match d5 kvs k with|some d=>∃v,dG a k=some v/\Den K P H d v|none=>dG a k=none
 |[],a,k,e,_=>by
  have:a=[]:=47
  subst this;calc K1
 |p::r,[],k,e,_=>by simp at e
 |p::r,q::s,k,e,h=>by
  simp at e;simp at h;let⟨v,u,a,f,b⟩:=h;simp at a;let⟨a,c⟩:=a;subst c;rw[Ff];by_cases z:p.1=k
  simp_all [TU,o7]
  rw[TM z,o6 47];calc tY e.2 b
def xn{kvs:List (κ×D)}{a:List (κ×V)}{d:D}(e:a.map (·.1)=kvs.map (·.1))(h:aq K P H (kvs.map (·.2)) (a.map (·.2)))(l:d5 kvs k=some d):∃v,dG a k=some v/\Den K P H d v:=by have:=tY (k:=k) e h;rw[l]at this;calc this
def Ka{kvs:List (κ×D)}{a:List (κ×V)}(e:a.map (·.1)=kvs.map (·.1))(h:aq K P H (kvs.map (·.2)) (a.map (·.2)))(l:d5 kvs k=none):dG a k=none:=by have:=tY (k:=k) e h;rw[l]at this;calc this
def KR{kvs:List (κ×D)}{a:List (κ×V)}(e:a.map (·.1)=kvs.map (·.1))(h:aq K P H (kvs.map (·.2)) (a.map (·.2))):(dG a k).isSome=(d5 kvs k).isSome:=by
 cases l:d5 kvs k with
 |none=>rw[Ka e h l];rfl
 |some d =>
  let⟨v,q,_⟩:=xn e h l;rw[q];rfl
theorem BO:∀{kvs:List (κ×D)} {b:List (κ×V)} {k:κ} {d:D} {v:V},b.map (·.1)=kvs.map (·.1)->aq K P H (kvs.map (·.2)) (b.map (·.2))->Den K P H d v →
  (b.map λa=>if a.1=k then(a.1,v)else a).map (·.1)=(kvs.map λa=>if a.1=k then(a.1,d)else a).map (·.1)/\aq K P H ((kvs.map λa=>if a.1=k then(a.1,d)else a).map (·.2)) ((b.map λa=>if a.1=k then(a.1,v)else a).map (·.2))
 |[],b,k,d,v,e,_,_=>47
 |p::r,[],k,d,v,e,_,_=>by simp at e
 |p::r,q::s,k,d,v,e,h,c=>by
  simp at e;simp at h;let⟨i,u,a,m,f⟩:=h;simp at a;let⟨a,g⟩:=a;subst g;let⟨l,j⟩:=BO (k:=k) e.2 f c;by_cases z:p.1=k
  all_goals simp_all [TU,aq.cons,TM]
def ND{kvs:List (κ×D)}{a:List (κ×V)}(e:a.map (·.1)=kvs.map (·.1))(h:aq K P H (kvs.map (·.2)) (a.map (·.2)))(b:Den K P H d v) :
  (putK a k v).map (·.1)=(putD kvs k d).map (·.1)/\aq K P H ((putD kvs k d).map (·.2)) ((putK a k v).map (·.2)):=by
 ext putK putD;rw[lr,KR e h];by_cases z:(d5 kvs k).isSome=true;rw[TU z,TU z];calc BO e h b;rw[TM z,TM z,Yx,Yx,Yx,Yx,e];calc⟨rfl,h.append (aq.one b)⟩
end
def xg{K:yac}{P:yak}{H:Hp}{k:Key}{v:V}(h:Den K P H (jy k) v):v=kV k:=by
 cases k with
 |inl i=>calc h.VQ
 |inr x=>calc h.str_
theorem yH{K:yac}{P:yak}{H:Hp}:∀{ks:List Key} {vs:yaq},aq K P H (ks.map jy) vs->vs=ks.map kV
 |[],_,h=>by simpa only[zDM,aq]using h
 |k::r,_,h=>by let⟨v,u,e,b,a⟩:=h;rw[e,xg b,yH a];rfl
theorem BG:∀(ks:List Key) (ps:List (V×V)),ps.map (·.1)=ks.map kV->ps=(ks.zip (ps.map (·.2))).map λa=>(kV a.1,a.2)
 |[],ps,e=>47
 |k::r,[],e=>by simp at e
 |k::r,p::q,e=>by simp at e;rw[Ya,List.zip_cons_cons,Ya,<- BG r q e.2,<- e.1]
def HG{a:List (Key×V)}:∀{kvs:List (Key×V)},(kvs.map (·.1)++a.map (·.1)).Nodup->vH kvs a=kvs++a:=by
 induction a with
 |nil=>intro kvs _;show kvs=kvs++[];cbv
 |cons p r ih =>
  intro kvs h;show vH (putK kvs p.1 p.2) r=_;let d:dG kvs p.1=none:=by
   cases q:dG kvs p.1 with
   |none=>rfl
   |some x =>
    let c:(kvs.any λa=>decide (a.1=p.1))=true:=by rw[lr,q];rfl
    let⟨a,b,e⟩:=List.any_eq_true.mp c;have:=(zCc.mp h).2.2 a.1 (List.mem_map_of_mem b) p.1 52
    lia
  simp_all [Ky,Yx]
def PPD(X:Cx)(pos:Pos)(c:List (Option Expr))(a:yai)(t:Ro->(List (D×D)->Prop)->Prop):Prop :=
 ∀ (b:yab) (s:Shared) (d:St) (H:Hp) (W:Own) (e:Ro) (Q:List (D×D)->Prop),Inv X b d H s->Rel X W H d e->t e Q →
  wpAny (model X.prog X.w) X.A (evalPairs (pairTrees c a X.env pos)) (λf g=>∃c a e,Inv X b d a g/\VV c f/\au H a/\aq X.K W.bad a (e.map (·.1)) (c.map (·.1))/\aq X.K W.bad a (e.map (·.2)) (c.map (·.2))/\Q e) X.xe s
section
variable{X:Cx}{pos:Pos}
def Lo:Ro->(List (D×D)->Prop)->Prop:=λ_ Q=>Q []
def G7(c b:DE)(t:Ro->(List (D×D)->Prop)->Prop):Ro->(List (D×D)->Prop)->Prop:=λa Q=>c a λk=>b a λv=>t a λr=>Q ((k,v)::r)
def Pj:PPD X pos [] [] Lo:=λa s b H W c Q I r h=>pairTrees_nil_walk ⟨[],H,[],I,.nil,au.refl H,aq.nil,aq.nil,h⟩
def xh(d:Ul X k tk)(hv:Ul X v tv)(l:PPD X pos ks vs t):PPD X pos (some k::ks) (v::vs) (G7 tk tv t):=by
 intro a s b H W c Q I r h;refine pairTrees_cons_walk (T9 (d a s b H W c _ I r h) λu d ⟨x,i,n,g,h,e,k,f⟩=>T9 (hv a d b i W c _ g (r.same e) f) λz f ⟨y,p,m,o,g,d,j,i⟩=>
  T9 (l a f b p W c _ o ((r.same e).same d) i) λw A ⟨f,q,o,p,a,b,l,i,c⟩=>?_)
 calc⟨(x,y)::f,q,(n,m)::o,p,.cons ⟨h,g⟩ a,e.trans (d.trans b),aq.cons (k.same (d.trans b)) l,aq.cons (j.same b) i,c⟩
def aq.apartD{K:yac}{H:Hp}{o:HO}(n:H a=some o)(m:(∀xs,o ≠ .lst xs)/\(∀xs,o ≠ .tup xs)/\(∀b u,o ≠ .frz b u)/\¬Sol o)(k:K.lookup a=none)(h:aq K P H ds us):aq K (λt b=>P t b∨b=a) (L2.upd H a o') ds us:=by
 let d:∀b c,VD K H b c->VD K (L2.upd H a o') b c:=λb c q=>by show L2.upd _ _ _ _=_;rw[aC (vI q n λz=>m.2.1 _ z.symm)];exact q
 calc aq.map d (λt b c p q=>?_) (λb u v q=>by rw[aC 33];calc q) ds us h;let c:b≠a:=λz=>by
  rcases q.1 with(q|⟨u,q⟩)|⟨u,TV,j,q,_⟩
  all_goals grind
 calc⟨33,?_,λz=>⟨by rw[aC c];calc(q.2 z).1,(q.2 z).2⟩⟩;rcases q.1 with(q|⟨u,q⟩)|q;calc .inl (.inl (by simp_all [aC]));calc .inl (.inr ⟨u,by simp_all [aC]⟩);calc .inr q
def GX(i:Nat)(t:Ro->(List (D×D)->Prop)->Prop):DS:=λE b=>t b λc=>∃a:List (Key×D),c=a.map (λc=>(jy c.1,c.2))/\#[a]<=15/\(a.map (·.1)).Nodup/\E.nx (b.set i (some (.ob (.dk a))))
def JG{x:Str}{d c:Pos}{b:List (Option Expr)}{a:yai}{t:Ro->(List (D×D)->Prop)->Prop}(i:Nat)(C:X.N.Nodup)(h:PPD X c b a t)(l:X.N[i]?=some x:=by rfl)(k:b.all (·.isSome)=true:=by rfl)(g:#[b]=#[a]:=by rfl)(h0:b ≠ []:=by simp)
  (e:#[b]<=15:=by decide) (A:Loc X.env.scope x:=by first|calc Or.inl rfl|calc Or.inr rfl) (hs:swapsWith (.Dict b a c) (some (.Name x d)) pos.line X.env=pure false:=by rfl)
  (B:X.fn x=true∨X.env.scope.names.lookup x=some .local:=by first|calc .inl rfl|calc .inr rfl|assumption):Yb X (.Assign [.Name x d] (.Dict b a c) pos) (GX i t):=by
 intro b s c H W d E I r j;let i:=I.Uk.fresh (VY s.heap.objs.size);let f:=Inv.Xl I;let m:=I.laid (a:=s.heap.objs.size) (o:=.dK []) (h':=s.heap.push {cls:=.type "dict", data:=.dict #[]}) (t':=s.toks) (λ_ _ q=>VX _ q) (VY _) (JF s.heap I.big);calc wpAny_Assign_Name (wpAny_Dict_walk (knd:=cw X.prog X.w) k g h0 e (T9 (h b _ c _ W d _ m (r.same (au.upd i)) j) λp t e=>?_)) hs;let⟨c,n,J,k,d,sm,g,h,kvs,b,lk,y,q⟩:=e;subst b;let e:=sm _ _ (aW (H:=H) (a:=s.heap.objs.size) (o:=.dK []));let b:c.map (·.1)=(kvs.map (·.1)).map kV:=yH (by
  have:(kvs.map λa=>(jy a.1,a.2)).map (·.1)=(kvs.map (·.1)).map jy:=by simp[Ww,Function.comp_def]
  rw[this]at g;calc g)
 let g:aq X.K W.bad n (kvs.map (·.2)) (c.map (·.2)):=by
  have:(kvs.map λa=>(jy a.1,a.2)).map (·.2)=kvs.map (·.2):=by simp[Ww,Function.comp_def]
  rw[this]at h;exact h
 let a:#[kvs.map (·.1)]=#[c.map (·.2)]:=by have:=g.len;simp[this]
 let m:=BG _ c b;generalize hkw:(kvs.map (·.1)).zip (c.map (·.2))=b at m;let h:b.map (·.1)=kvs.map (·.1):=by rw[<- hkw,List.map_fst_zip (zDN a)]
 let E:b.map (·.2)=c.map (·.2):=by rw[<- hkw,List.map_snd_zip (zDN a.symm)]
 rw[m]at d;let⟨a,c,rk⟩:=uW (P:=X.prog) (w:=X.w) d;let⟨z,o,u,d,m⟩:=Ln k.Uk e;cases d;calc⟨a,c,m,λh' a w=>?_⟩;let c:#[b]=#[kvs]:=by have:=congrArg List.length h;simpa using this
 let m:vH [] b=b:=by rw[HG (by rw[h];simpa using y)];rfl
 let d:#[b]<=sizeLine:=by rw[c,VA];lia
 let c:∃q,h'.get? s.heap.objs.size=some q:=let ⟨q,_,_,j,_⟩:=a;⟨q,j⟩;let j:=xc (t':=t.toks+#[p]) k (by rw[e];calc True.intro) w c (G6 (kvs:=b) d o (by rw[<- m];calc rk.merge .nil) a);let a:=r.putG (x:=.dk kvs) (Inv.ilt k l) (H':=L2.upd n s.heap.objs.size (.dK b)) (((au.upd i).trans sm).ins i e True.intro True.intro) i f aW
  (.dk h (by rw[E];calc aq.apartD e ⟨(λ_ z=>by cases z),(λ_ z=>by cases z),(λ_ _ z=>by cases z),λz=>z⟩ f g))
 calc gf (v:=.ref s.heap.objs.size) j C l A rfl (λG b=>⟨_,_,_,b,a.2,_,a.1,q⟩) B
def Rel.ownK(r:Rel X W H σ ρ){i:Nat}(h:ρ[i]?=some (some (.ob (.dk kvs)))):∃a b,W.O i=some a/\σ[i]?=some (some (.ref a))/\H a=some (.dK b)/\b.map (·.1)=kvs.map (·.1)/\aq X.K W.bad H (kvs.map (·.2)) (b.map (·.2)):=by
 let⟨a,o,f,d,c,b⟩:=r.own i _ h;cases b with
 |dk e b=>calc⟨a,_,f,d,c,e,b⟩
def OP(i:Nat)(c:DE):DE:=λb Q=>∃a,b[i]?=some (some (.ob (.dk a)))/\c b λk=>∃b d,k=jy b/\d5 a b=some d/\Q d
def AR {x:Str} (i:Nat) (a:X.A.units+1<cLine) (d:Ul X b tb) (e:X.N[i]?=some x:=by rfl) (hv:Vis X.env.scope x:=by first|calc Or.inl rfl|calc Or.inr (Or.inl rfl)|calc Or.inr (Or.inr rfl)) (c:(x==("__debug__" : Str))=false:=by decide)
  (f:(x==("__classdict__" : Str))=false:=by decide) (hs:Jj b:=by intro _ _;rfl):Ul X (.Subscript (.Name x px) b pos) (OP i tb):=by
 refine Ul.of (Nw a (kL e hv c f) d.pe hs) λn H W b Q r h=>?_
 let⟨j,f,h⟩:=h;let⟨a,Vx,o,d,i,e,m⟩:=r.ownK f;calc⟨.ref a,d,W,b,_,r,h,λv H1 d d c q=>?_⟩;let⟨k,h,rfl,l,q⟩:=q;let⟨f,g,b⟩:=xn e m l;have:=xg c;subst this;calc⟨a,f,rfl,?_,d,h,b.same d,q⟩;rw[<- g];calc pQ.k (d _ _ i)
def Lg(i:Nat)(b te:DE):DS:=λE c=>∃a,c[i]?=some (some (.ob (.dk a)))/\b c λk=>∃b n,k=jy b/\d5 a b=some (.int n)/\te c λd=>∃m,d=.int m/\#[a]<sizeLine/\E.nx (c.set i (some (.ob (.dk (putD a b (.int (n+m)))))))
def Mm {x:Str} (i:Nat) (h:X.A.units+1<cLine) (k:Ul X b tb) (j:Ul X e te) (l:X.N[i]?=some x:=by rfl) (hv:Vis X.env.scope x:=by first|calc Or.inl rfl|calc Or.inr (Or.inl rfl)|calc Or.inr (Or.inr rfl)) (g:(x==("__debug__" : Str))=false:=by decide)
  (m:(x==("__classdict__" : Str))=false:=by decide) (f:∀c d a,augStore b c d a=(do holding [a,c,d] (setItem c d a);release [a,c,d] [];pure .next):=by intros;rfl):Yb X (.AugAssign (.Subscript (.Name x px) b tpos) .Add e pos) (Lg i tb te):=by
 refine Yb.of (NC h (kL l hv g m) k.pe j.pe Qf f) λy H W j E r C h=>?_
 let⟨u,p,h⟩:=h;let⟨a,w,t,o,f,i,s⟩:=r.ownK p;calc⟨.ref a,o,W,j,_,r,h,λv H1 d b g q=>?_⟩;let⟨e,n,rfl,l,q⟩:=q;let⟨A,k,c⟩:=xn i s l;let h:=xg g;let d:=c.VQ;subst h d;calc⟨a,_,rfl,by rw[<- k];calc pQ.k (b _ _ f),W,j,_,r.same b,q,λz H2 G c a d=>?_⟩;let⟨m,rfl,B,d⟩:=d;let g:=a.VQ;subst g;let h:#[w]<sizeLine:=by have:=congrArg List.length i;simp at this;lia
 let a:=c _ _ (b _ _ f);let⟨g,f⟩:=ND (k:=e) i (s.same (b.trans c)) (Den.int (n+m));let⟨e,i⟩:=((r.same b).same c).mutG p t o a True.intro (.dk g f);calc⟨n,m,rfl,rfl,_,zV.k a h,W,_,(Vn.same (b.trans c)).trans i,e,d⟩
end
def PL(kvs:List (Key×D))(r:Ro)(R:List (Key×D)->Prop):(∃ys,(some (Sl.ob (.dk kvs))::r)[0]?=some (some (Sl.ob (.dk ys)))/\R ys)=R kvs:=58
theorem PN(n:Nat)(x:Option Sl)(r:Ro)(R:List (Key×D)->Prop):(∃ys,(x::r)[n+1]?=some (some (Sl.ob (.dk ys)))/\R ys)=(∃ys,r[n]?=some (some (Sl.ob (.dk ys)))/\R ys):=rfl
def NY(t:Bool)(xs:yar)(R:yar->Prop):(∃k a,c6 (.lst t xs)=some (k,a)/\R a)=R xs:=by apply propext;constructor;rintro⟨_,_,e,q⟩;cases e;calc q;intro q;calc⟨_,_,rfl,q⟩
def NZ(xs:yar)(R:yar->Prop):(∃k a,c6 (.tup xs)=some (k,a)/\R a)=R xs:=by apply propext;constructor;rintro⟨_,_,e,q⟩;cases e;calc q;intro q;calc⟨_,_,rfl,q⟩
def sA{k1 k2:Bool}{xs ys:yar}(f:c6 a=some (k1,xs))(d:c6 b=some (k2,ys))(R:yar->Prop):(∃g e k1 k2 c vs,[a,b]=[g,e]/\c6 g=some (k1,c)/\c6 e=some (k2,vs)/\R (List.zipWith (λx y=>D.tup [x,y]) c vs))=R (List.zipWith (λx y=>D.tup [x,y]) xs ys):=by apply propext;constructor;rintro⟨_,_,_,_,_,_,e,b,a,q⟩;cases e;rw[f]at b;rw[d]at a;cases b;cases a;calc q;intro q;calc⟨_,_,_,_,_,_,rfl,f,d,q⟩
def Rp(t u:Bool)(xs ys:yar)(R:yar->Prop):(∃c b k1 k2 a vs,[D.lst t xs,D.lst u ys]=[c,b]/\c6 c=some (k1,a)/\c6 b=some (k2,vs)/\R (List.zipWith (λx y=>D.tup [x,y]) a vs))=R (List.zipWith (λx y=>D.tup [x,y]) xs ys):=sA rfl rfl R
def Rr(u:Bool)(xs ys:yar)(R:yar->Prop):(∃c b k1 k2 a vs,[D.tup xs,D.lst u ys]=[c,b]/\c6 c=some (k1,a)/\c6 b=some (k2,vs)/\R (List.zipWith (λx y=>D.tup [x,y]) a vs))=R (List.zipWith (λx y=>D.tup [x,y]) xs ys):=sA rfl rfl R
def Rq(u:Bool)(xs ys:yar)(R:yar->Prop):(∃c b k1 k2 a vs,[D.lst u xs,D.tup ys]=[c,b]/\c6 c=some (k1,a)/\c6 b=some (k2,vs)/\R (List.zipWith (λx y=>D.tup [x,y]) a vs))=R (List.zipWith (λx y=>D.tup [x,y]) xs ys):=sA rfl rfl R
def Rt(xs ys:yar)(R:yar->Prop):(∃c b k1 k2 a vs,[D.tup xs,D.tup ys]=[c,b]/\c6 c=some (k1,a)/\c6 b=some (k2,vs)/\R (List.zipWith (λx y=>D.tup [x,y]) a vs))=R (List.zipWith (λx y=>D.tup [x,y]) xs ys):=sA rfl rfl R
theorem L7(b:Bool):w6 (.bl b)=true:=rfl
theorem Jm(b:Int):w6 (.int b)=true:=rfl
theorem Jn:w6 .UE=true:=rfl
def Gy{a:yar}{k:Int}{Q:D->Prop}(h0:0<=k)(c:k<#[a])(h:∀d∈a,Q d):∃d,atI a k=some d/\Q d:=by
 let e:k=((k.toNat:Nat):Int):=33
 let b:k.toNat<#[a]:=33
 calc⟨a[k.toNat],?_,h _ (zBZ b)⟩;let q:atI a ((k.toNat:Nat):Int)=some a[k.toNat]:=bR 52;rw[<- e]at q;calc q
def comp_map{a:Type}{wi:DA}{js:yag}{tc:DT}{te:DE}{Q:D->Prop}(xs:List a)(f:a->D)(c:a->Bool)(g:a->D)(b:∀R:yar->Prop,R (xs.map f)->wi ρ R)(hz:#[xs]<=sizeLine)
  (k:∀x∈xs,∀K:Bool->Prop,K (c x)->tc (some (.val (f x))::js.map (aZ ρ)) K) (i:∀x∈xs,c x=true->∀K:D->Prop,K (g x)->te (some (.val (f x))::js.map (aZ ρ)) K) (q:Q (.lst true ((xs.filter c).map g))):lD wi js tc te ρ Q:=by
 calc b _ ⟨47,λj a=>a=((xs.take j).filter c).map g,52,λj d a b c=>?_,λa c=>?_⟩;rw[WA]at b;cases ex:xs[j]? with
 |none=>cbv
 |some x =>
  rw[ex]at b;let h:x∈xs:=Xf ex;let e:xs.take (j+1)=xs.take j++[x]:=by simp_all [zCl]
  grind
 grind
def mI{c:Type}{wi:DA}{g:DG}{h:DS}{E:jO}(xs:List c)(f:c->D)(Pv:List c->Ro->Prop)(j:∀R:yar->Prop,R (xs.map f)->wi ρ R)(d:Pv [] ρ)
  (e:∀(done:List c) (x:c) (a:Ro),x∈xs->#[done]<#[xs]->Pv done a->g (f x) a λb=>h {E with nx:=Pv (done++[x]),ct:=Pv (done++[x]),bk:=E.nx} b) (i:∀a,Pv xs a->E.nx a):tL wi g h E ρ:=by
 calc j _ ⟨λj=>Pv (xs.take j),by simpa using d,λj d a c d=>?_,λa d=>i a (by rw[T4,zB9 (VY _)]at d;calc d)⟩;rw[WA]at c;cases ex:xs[j]? with
 |none=>rw[ex]at c;cases c
 |some x =>
  rw[ex]at c;cases c;let k:=(Zn.mp ex).1;let c:xs.take (j+1)=xs.take j++[x]:=by rw[zCl,ex];rfl
  show g (f x) a λb=>h {E with nx:=Pv (xs.take (j+1)),ct:=Pv (xs.take (j+1)),bk:=E.nx} b
  rw[c];calc e (xs.take j) x a (Xf ex) (by rw[zBR];lia) d
structure Yf(n:Nat)(d:D):Prop where
 pl:plD d=true
 lay:(Xu d).canLay0=true
 dp:(Xu d).depth<=n
structure jt(n:Nat)(ds:yar):Prop where
 pl:qw ds=true
 lay:PyData.canLayAll0 (dE ds)=true
 dp:PyData.depthAll (dE ds)<=n
def Yf.ok(h:Yf n d)(a:n<=64:=by decide):okD d:=⟨h.pl,by ext SeqAt.shaped;rw[h.lay,Ys (Xb h.dp a)];rfl⟩
theorem Yf.okI(h:Yf n d)(a:n<64:=by decide):okI d:=⟨h.ok (zBf a),zBg h.dp a⟩
theorem Yf.int(n:Nat)(i:Int):Yf n (.int i):=⟨by rw[plD]<;>(intros;contradiction),by rw[Xu,PyData.canLay0],by rw[Xu,PyData.depth];lia⟩
def jt.nil(n:Nat):jt n []:=⟨by rw[qw],by rw[dE,PyData.canLayAll0],by rw[dE,PyData.depthAll];lia⟩
def jt.cons(h:Yf n d)(h':jt n ds):jt n (d::ds):=⟨by rw[qw,h.pl,h'.pl];rfl,by rw[dE,PyData.canLayAll0,h.lay,h'.lay];rfl,by calc Nat.max_le.mpr ⟨h.dp,h'.dp⟩⟩
theorem jt.of:∀{a:yar},(∀d∈a,Yf n d)->jt n a
 |[],_=>.nil n
 |d::r,h=>.cons (h d ZN) (jt.of λx b=>h x 58)
theorem Yf.tup(h:jt n ds):Yf (n+1) (.tup ds):=⟨by calc h.pl,by calc h.lay,by calc Nat.succ_le_succ h.dp⟩
theorem Yf.lst(h:jt n ds):Yf (n+1) (.lst t ds):=⟨by calc h.pl,by calc h.lay,by calc Nat.succ_le_succ h.dp⟩
theorem Yf.map{a:Type}{f:a->D}{xs:List a}(h:∀x,Yf n (f x)):Yf (n+1) (.lst t (xs.map f)):=Yf.lst (jt.of λd a=>by let⟨x,_,rfl⟩:=UQ.mp a;calc h x)
def lV(xs ys:yar):Bool:=PyData.eqvAll (dE xs) (dE ys)
def Mq(t u:Bool)(xs ys:yar):eqD (.lst t xs) (.lst u ys)=lV xs ys:=by ext eqD lV;rw[Xu,Xu,PyData.eqv]
theorem rG(xs ys:yar):eqD (.tup xs) (.tup ys)=lV xs ys:=by ext eqD lV;rw[Xu,Xu,PyData.eqv]
theorem nK:lV [] []=true:=by ext lV;rw[dE,PyData.eqvAll]
theorem eJ(x y:D)(xs ys:yar):lV (x::xs) (y::ys)=(eqD x y && lV xs ys):=by ext lV eqD;rw[dE,dE,PyData.eqvAll]
def Ms(x y:Str):eqD (.str x) (.str y)=(x==y):=by ext eqD;rw[Xu,Xu,PyData.eqv]
def Mr:eqD .UE .UE=true:=by ext eqD;rw[Xu,PyData.eqv]
mutual
theorem nJ:∀d:D,eqD d d=true
 |.UE=>Mr
 |.bl b=>by rw[Hc];simp
 |.int i=>by rw[gw];simp
 |.str x=>by rw[Ms];simp
 |.exc _=>by ext eqD;rw[Xu,PyData.eqv]
 |.obj _ _ _=>by ext eqD;rw[Xu,PyData.eqv]
 |.ZK=>by ext eqD;rw[Xu,PyData.eqv]
 |.Zs _ _=>by ext eqD;rw[Xu,PyData.eqv]
 |.tup a=>by rw[rG];calc ql a
 |.lst t a=>by rw[Mq];calc ql a
theorem ql:∀a:yar,lV a a=true
 |[]=>nK
 |d::r=>by rw[eJ,nJ d,ql r];rfl
end
section
variable{X:Cx}{a b c:Expr}{ta tb tc:DE}{pos:Pos}
def AI(r e:RD2)(ta tb tc:DE):DE:=λd Q=>ta d λx=>tb d λy=>r x y λz=>∃k,z=.bl k/\if k=true then tc d λu=>e y u Q else Q (.bl false)
def JD(t:Wb X (compareOp op) r)(B:Wb X (compareOp op') r')(d:Ul X a ta)(m:Ul X b tb)(A:Ul X c tc)(w:lastMarks [op,op'] [b,c]=false:=by with_unfolding_all rfl):Ul X (.Compare a [op,op'] [b,c] pos) (AI r r' ta tb tc):=by
 intro e s f H W l Q I i h;refine Compare_chain (T9 (d e s f H W l _ I i h) λv g ⟨d,o,x,n,k,h,q,j⟩=>chain_link (T9 (m e g f o W l _ n (i.same h) j) λu j ⟨m,s,y,r,n,g,p,o⟩=>
  T9 (t e j f s W x y d m v u _ r ((i.same h).same g).tracked k n (q.same g) p o) λd s ⟨C,r,z,q,d,j,t,k,x,o⟩=>?_)) w
 subst x;let w:=t.bl_;subst w;cases d;calc zBt ?_;let d:=((i.same h).same g).same j;cases k with
 |false=>calc ite_ff ⟨.bl false,r,_,q,rfl,h.trans (g.trans j),Den.bl _,o⟩
 |true=>calc ite_tt (chain_last (T9 (A e s f r W l _ q d o) λk o w=>(by let⟨l,A,t,x,q,i,s,r⟩:=w;calc T9 (B e o f A W y t m l u k Q x (d.same i).tracked n q (p.same (j.trans i)) s r) λ_ _ z=>z.up (h.trans (g.trans (j.trans i))))))
def tN (d:∃t,X.mg x=some (.int i t)) (e:Gl X x:=by rfl) (f:(x==("__debug__" : Str))=false:=by decide):Ul X (.Name x pos) (dC (.int i)):=by let⟨t,d⟩:=d;calc Ul.of (Nx (v:=.int i) e d ⟨t,rfl⟩ f) λ_ H _ _ _ _ q=>⟨au.refl H,_,Den.int i,q⟩
def allB{A:Around}{s:Shared}{vs:yad}{Q:yaa}(hh:A.handled=none)(f:s.heap.IsList l vs.toArray)(g:LSm.BoolsAre vs bs)
  (h:∀h' d,(∀b o,s.heap.get? b=some o->h'.get? b=some o)->Q (.bool (bs.all id)) {s with heap:=h',toks:=d}):wpAny (model prog w) A (call (.builtin "all") [.ref l]) Q E s:=by
 let j:l<s.heap.objs.size:=by let⟨_,e,_⟩:=f;exact U5 e
 calc call_all_walk (zCg f ?_);calc⟨s.heap.objs.size,[s.heap.objs.size,l],[s.heap.objs.size],vs.toArray.size,_,_,λi=>(bs[i]?).getD true,rfl,Walks.list (A:=A.in1) hh _ l (WG j) vs.toArray,⟨⟨_,Xg _ rfl,rfl,rfl⟩,f.push _⟩,(λi v m Q1 E1 p n=>?_),(λj d f=>?_)⟩;let⟨k,e,q⟩:=g.get i v 47
 simp_all [zDD,zBt]
 let e:((List.range vs.toArray.size).all λi=>(bs[i]?).getD true)=bs.all id:=by rw[Yw,#[g]];exact LSm.range_all bs
 rw[e];calc h j d (LSm.kept_iter f)
theorem Ar{K:yac}{P:yak}{H:Hp}:∀{bs:List Bool} {vs:yaq} {d:yad},aq K P H (bs.map D.bl) vs->Vals vs d->LSm.BoolsAre d bs
 |[],_,_,h,r=>by subst h;cases r;calc .nil
 |b::q,_,_,h,r=>by
  let⟨v,w,e,d,f⟩:=h;subst e;have:=d.bl_;subst this;cases r with
  |cons e d =>
   cases e;calc .cons b (Ar f d)
def OC (i:X.calm=true):c7 X (.builtin "all") (λe Q=>∃(t:Bool) (bs:List Bool),e=[.lst t (bs.map D.bl)]/\Q (.bl (bs.all id))):=by
 intro d s j H W e l m Q I n r f q;let⟨t,bs,e,q⟩:=q;subst e;let⟨v,rfl,e⟩:=jQ f;let⟨p,k,f,_,h,g⟩:=e.Xd;subst f;cases r with
 |cons f e =>
  cases e;cases f;let⟨TV,e,f,_⟩:=I.list h;calc allB (I.ok.hd i) f.isList (Ar g e) λu o kp=>⟨.bl _,H,_,I.kept kp,rfl,au.refl H,Den.bl _,q⟩
def GW(e:DE):DA:=λd R=>e d λd=>∃e,d=.tup e/\R e
def Qc(h:Ul X iter ti):PID X tg iter (GW ti):=by
 refine PID.of (QV h.pe) λn H W d R r e=>⟨W,d,_,r,e,λv H1 d i e q=>?_⟩
 let⟨k,rfl,q⟩:=q;let⟨p,f,rfl,g,h⟩:=e.YF;calc⟨p,rfl,⟨f,g.w⟩,i,k,?_,q⟩;intro P' H' j m l i;let e:=(j p f g).w;let o:=h.len;calc⟨λg=>?_,λx H3 y g=>?_,λg=>⟨f,e,33⟩⟩;let⟨v,hv,_⟩:=h.get (i:=i) (d:=k[i]) (by simp[g]);calc⟨f,v,e,hv⟩;let⟨g,y⟩:=y;subst g;let⟨d,i,g⟩:=h.aZ (y f e);calc⟨au.refl _,d,i,Den.map j m l d _ g⟩
def Qm(xs:yar)(R:yar->Prop):(∃d,D.tup xs=.tup d/\R d)=R xs:=by apply propext;constructor;rintro⟨_,e,q⟩;cases e;calc q;intro q;calc⟨xs,rfl,q⟩
variable{e:Expr}{te:DE}{lo hi:Option Expr}{tl th:DO}{p2:Pos}
def Pe(n:Ul X e te)(m:PDO X lo tl)(hh:PDO X hi th):Ul X (.Subscript e (.Slice lo hi none p2) pos) (O3 te tl th):=by
 intro i s j H W g Q I r h;calc uy (st:=none) (ts:=dg) (R:=λd l u k=>k=none/\∃f,d=.tup f/\¬(HT.Vy #[f] 0 l=0/\HT.Vy #[f] #[f] u=#[f])/\Q (.tup (PD.cutD f l u))) n m hh dQ I r ?_ ?_ (λ_ _=>⟨_,rfl⟩);let m:(λd=>tl g λl=>th g λu=>dg g λk=>k=none/\∃f,d=D.tup f/\¬(HT.Vy #[f] 0 l=0/\HT.Vy #[f] #[f] u=#[f])/\Q (.tup (PD.cutD f l u)))=λd=>tl g λl=>th g λu=>∃f,d=D.tup f/\¬(HT.Vy #[f] 0 l=0/\HT.Vy #[f] #[f] u=#[f])/\Q (.tup (PD.cutD f l u)):=by
  funext d
  congr 1
  funext l
  congr 1
  funext u
  exact propext ⟨λz=>z.2,λz=>⟨rfl,z⟩⟩
 rw[m];calc h;intro v m o n G l u k d d g r E sm s A y w t h k;let⟨p,f,f,x,q⟩:=k;subst p f;cases h;let⟨p,k,f,z,h⟩:=A.YF;subst f;let⟨T,id,C,B,A⟩:=Ra i r j g (.ref p) m o n l u d (λi d=>au g d/\∃f,Den X.K W.bad d f i/\Q f) E s y w t ⟨p,k,rfl,z.w,by rw[h.len];calc x,λg d=>⟨au.upd d,_,Den.tup (VD.of aW) ((h.cut l u).same (au.upd d)),q⟩⟩;calc⟨T,id,C,B,T9 A λ_ J k=>(by let⟨h,m,l,i,j,f,d,g⟩:=k;calc⟨h,m,f,l,i,sm.trans j,d,g⟩)⟩
def w5{d:Type}:Nat->(List d->Prop)->Prop
 |0,P=>P []
 |n+1,P=>∀a,w5 n λl=>P (a::l)
def ro{f:Type}{n:Nat}:∀{P:List f->Prop} (d:List f),#[d]=n->w5 n P->P d:=by
 induction n with
 |zero=>intro P d e h;cases zAk e;calc h
 |succ n ih =>
  intro P d e h;cases d with
  |nil=>cases e
  |cons a l=>calc ih (P:=λl=>P (a::l)) l (Nat.succ.inj e) (h a)
def uU{K:yac}{ps:yah}(h:∀s:Shared,K.In s.heap->w5 #[ps] λd=>BindsTo s fd ⟨d,[]⟩ (ps.zip d)):Binds K fd ps []:=λs d g f=>by rw[zBd]at f ⊢;calc ro d f (h s g)
def uT{K:yac}{ps:yah}(n:Nat)(g:#[ps]=n+1)(h:∀s:Shared,K.In s.heap->w5 n λd=>BindsTo s fd ⟨d,[]⟩ (ps.zip (d++[.none]))):Binds K fd ps [.none]:=λs d i f=>ro d (by rw[Xh,g]at f;simpa using f) (h s i)
def vE{K:yac}{ps:yah}{d:Str}(n:Nat)(i:#[ps]=n+1)(h:∀(s:Shared) (w:Value),K.In s.heap->w5 n λf=>BindsTo s fd ⟨f,[(d,w)]⟩ (ps.zip (f++[w]))):Gu K fd ps [d] kwG kwG:=⟨λs f d j g=>by
 cases d with
 |nil =>
  let d:0=#[ps]:=g
  lia
 |cons w r =>
  cases r with
  |nil =>
   let d:#[f++[w]]=#[ps]:=g;rw[Xh,i]at d;calc ro f (by simpa using d) (h s w j)
  |cons _ _ =>
   let d:0=#[ps]:=g
   lia,MR⟩
end
def at4{f:Type}(a b c d e:f)(r:List f):atI (a::b::c::d::e::r) 4=some e:=bR (j:=4) rfl
def at5{g:Type}(a b c d e f:g)(r:List g):atI (a::b::c::d::e::f::r) 5=some f:=bR (j:=5) rfl
def GR{a:Type}{wi:DA}{js:yag}{te:DE}{Q:D->Prop}(xs:List a)(f:a->D)(b:a->Bool)(g:a->D)(c:∀R:yar->Prop,R (xs.map f)->wi ρ R)(hz:#[xs]<=sizeLine)
  (l:∀x∈xs,b x=true->∀K:D->Prop,K (g x)->te (some (.val (f x))::js.map (aZ ρ)) K) (h:∀x∈xs,b x=false->∀K:D->Prop,te (some (.val (f x))::js.map (aZ ρ)) K) (q:xs.all b=true->Q (.lst true (xs.map g))):lD wi js xb te ρ Q:=by
 calc c _ ⟨47,λj a=>a=(xs.take j).map g/\(xs.take j).all b=true,52,λj d a c d=>?_,λa d=>?_⟩;rw[WA]at c;cases ex:xs[j]? with
 |none=>cbv
 |some x =>
  rw[ex]at c;cases c;let k:x∈xs:=Xf ex;let i:xs.take (j+1)=xs.take j++[x]:=by simp_all [zCl]
  show(if(true:Bool)=true then te (some (Sl.val (f x))::List.map (aZ ρ) js) (λe=>a++[e]=List.map g (List.take (j+1) xs)/\(List.take (j+1) xs).all b=true)else a=List.map g (List.take (j+1) xs)/\(List.take (j+1) xs).all b=true);grind
 grind
section
variable{X:Cx}{pos:Pos}
def PFL(X:Cx)(i:Nat)(es:yai)(t:Ro->(List (yar)->Prop)->Prop):Prop :=
 ∀ (pos:Pos) (b:yab) (s:Shared) (a:St) (H:Hp) (W:Own) (f:Ro) (k:Nat) (Q:List (yar)->Prop),Inv X b a H s->Rel X W H a f->i<#[a]->f[i]?=some none->t f Q →
  wpAny (model X.prog X.w) X.A (spliced (backTo pos (starEach es X.env))) (λh j=>∃g e d c,Inv X b a e j/\Vals g h/\au H e/\Rel X d e a f/\Vn W H d e/\bA X.K d.bad e (d.sub #[a] i) k (c.map LI.own) g/\(∀l,l<k->d.sub #[a] i l=W.sub #[a] i l)/\Q c) X.xe s
def RN:Ro->(List (yar)->Prop)->Prop:=λ_ Q=>Q []
def Pf(b:DA)(t:Ro->(List (yar)->Prop)->Prop):Ro->(List (yar)->Prop)->Prop:=λa Q=>b a λx=>t a λa=>Q (x::a)
def OW(i:Nat)(t:Ro->(List (yar)->Prop)->Prop):DS:=λE b=>b[i]?=some none/\t b λa=>#[a]<=sizeLine/\E.nx (b.set i (some (.ob (.ll (a.map LI.own)))))
def FR:LI->D
 |.own a=>.lst false a
 |.val d=>d
variable{e:Expr}{te:DE}{tt:DT}{ta:DA}
def O5(i:Nat)(t:DE):DE:=λa Q=>∃b,a[i]?=some (some (.ob (.ll b)))/\t (a.set i (some (.val (.lst false (b.map FR))))) λd=>w6 d=true/\Q d
def Mj(i:Nat)(t:DT):DT:=λa Q=>∃b,a[i]?=some (some (.ob (.ll b)))/\t (a.set i (some (.val (.lst false (b.map FR))))) Q
def OZ(i:Nat)(tc g te:DE):DS:=λE a=>∃b,a[i]?=some (some (.ob (.ll b)))/\te a λd=>tc a λc=>∃n m f,c=.int n/\ixN #[b] n=some m/\b[m]?=some (.own f)/\g a λk=>∃l j,k=.int l/\ixN #[f] l=some j/\E.nx (a.set i (some (.ob (.ll (b.set m (.own (f.set j d)))))))
end
def PJ(xs:List LI)(r:Ro)(R:List LI->Prop):(∃ys,(some (Sl.ob (.ll xs))::r)[0]?=some (some (Sl.ob (.ll ys)))/\R ys)=R xs:=58
theorem PK(n:Nat)(x:Option Sl)(r:Ro)(R:List LI->Prop):(∃ys,(x::r)[n+1]?=some (some (Sl.ob (.ll ys)))/\R ys)=(∃ys,r[n]?=some (some (Sl.ob (.ll ys)))/\R ys):=rfl
def Qa(r:Ro):((none::r)[0]?=some (none:Option Sl))=True:=eq_true rfl
theorem Qb(n:Nat)(x:Option Sl)(r:Ro):((x::r)[n+1]?=some (none:Option Sl))=(r[n]?=some none):=rfl
def R9{a:Type}(x:a)(xs:List a)(R:Nat->Prop):(∃m,ixN #[x::xs] 0=some m/\R m)=R 0:=by
 let e:ixN #[x::xs] 0=some 0:=by ext ixN;simp
 grind
def Sa{a:Type}(x y:a)(xs:List a)(R:Nat->Prop):(∃m,ixN #[x::y::xs] 1=some m/\R m)=R 1:=by
 let e:ixN #[x::y::xs] 1=some 1:=by ext ixN;simp;lia
 grind
def Tf(a:yar)(r:List LI)(R:yar->Prop):(∃es,(LI.own a::r)[0]?=some (LI.own es)/\R es)=R a:=58
theorem Tg(n:Nat)(x:LI)(r:List LI)(R:yar->Prop):(∃es,(x::r)[n+1]?=some (LI.own es)/\R es)=(∃es,r[n]?=some (LI.own es)/\R es):=rfl
section
variable{X:Cx}{pins:yab}{σ:St}{H:Hp}{s:Shared}{sc:Scope}{ns:yah}{js:yag}{x:Str}
abbrev qr(X:Cx)(sc:Scope)(ns:yah)(f c L:Addr):Env:=PySem.W.envX nO sc L f (.ref c) (cf X.env ns)
def uX(X:Cx)(sc:Scope)(ns:yah)(x:Str)(f c:Addr)(s:Shared)(H:Hp)(a:yaa):Cx :=
 {X with A:=X.A.in1.deeper (qr X sc ns f c s.heap.objs.size),N:=x::ns,Uv:=s,Vl:=H,env:=qr X sc ns f c s.heap.objs.size,outer:=X.stack,stack:=qr X sc ns f c s.heap.objs.size::X.stack,ex:=[],fn:=λ_=>false,pn:=[],xe:=a}
def Inv.lam{a:Heap}{d:Nat}(I:Inv X pins σ H s)(S:CSc X.env.scope sc [x] ns)(n:aR X.N ns js)(m:RelV v u)
  (i:a.Ns s.heap.objs.size λy=>[(x,u)].reverse.lookup y) (k:∀b o,s.heap.get? b=some o->a.get? b=some o) :
  Inv (uX X sc ns x f c s H XE) [] (some v::js.map (dj σ)) H {s with heap:=a,toks:=d}:=by
 let a:∀y c,(cf X.env ns).lookup y=some c->X.env.cells.lookup y=some c:=λy c e=>kF e
 let g:∀y c,(cf X.env ns).lookup y=some c->∃v,s.heap.IsCell c v:=λy c e=>I.cell y c (a y c e)
 let d:∀b:Addr,b∉(uX X sc ns x f c s H XE).ex:=λb z=>absurd (show b∈([]:yae)from z) 52
 refine⟨⟨I.ok.mod,S.kind,rfl,rfl,VY _,λy z c l j=>I.ok.inj y z c (a y c l) (a z c j),λy f=>?_,λy c h _=>(by cases h),I.ok.hd,Around.frames_deeper I.ok.frames,.inr ⟨rfl,rfl⟩,λb h=>absurd h (d b),I.bs,Xb I.ok.bsz I.sz,λb _ _=>d b,λb h=>absurd h (d b),I.stack,I.YK⟩,
  rfl,I.bare,Un.kept k,⟨_,i,λi y b l j t=>?_⟩,λy c e=>?_,I.Uk.fresh (VY _),λy c e=>I.Xi y c (a y c e),λp a=>absurd (show p∈([]:yab)from a) 52,I.Uk.kept k,?_⟩
 obtain f|f:=f;calc absurd rfl (S.Zz _ (PySem.mem_of_lookup f));let⟨d,a⟩:=S.free _ (PySem.mem_of_lookup f) rfl;let⟨c,f⟩:=I.ok.has y (.inl a);calc⟨c,kE d f⟩;cases i with
 |zero =>
  let f:some x=some y:=l;let a:some (some v)=some (some b):=j;cases f;cases a;calc⟨u,m,.inl ⟨S.tgt x 52,52⟩⟩
 |succ i =>
  let h:ns[i]?=some y:=l;let a:(js.map (dj σ))[i]?=some (some b):=j;rw[WA]at a;cases e:js[i]? with
  |none=>rw[e]at a;cases a
  |some j =>
   rw[e]at a;let d:dj σ j=some b:=ZI a;let p:σ[j]?=some (some b):=by unfold dj at d;split at d;rename_i u q;cases d;calc q;cases d
   let l:=n.2 i j y e h;let a:y∈ns:=Xf h;let⟨q,h⟩:=S.cells y a;let⟨m,r,i⟩:=I.loc;let⟨u,d,lk⟩:=i j y b l p (.inr (.inl h));calc⟨u,d,?_⟩;rcases lk with⟨j,_⟩| ⟨_,c,f,o,b,d⟩;let i:X.env.scope.names.lookup y=some .local:=j;rw[h]at i;cases i;exact .inr ⟨.inr q,c,kE a f,o,k c o b,d⟩
 let⟨v,o,b,d⟩:=g y c e;calc⟨v,o,k c o b,d⟩;show#[some v::js.map (dj σ)]=#[x::ns];simp[n.1]
abbrev kI (X:Cx) (params:Arguments) (body:Expr) (sc:Scope) (ns:yah) (pm:Value) (c:Addr) (ct:Value):Obj:=PySem.W.kla_obj "<lambda>" nO params body sc (cf X.env ns) pm c ct
def JV{b g:Value}{f c:Addr}{u:Value}(S:CSc X.env.scope sc [x] ns)(B:aR X.N ns js)(e:sc.isCoroutine=false)(a:sc.isGenerator=false)(i:X.A.depth<recursionLimit)
  (k:∀(b g:Value) (c:Addr) (u:Value),bindArgs (PySem.W.kla_fn "<lambda>" nO params body sc (cf X.env ns) b (.ref c) g) ⟨[u],[]⟩=pure [(x,u)])
  (C:∀(f c:Addr) (s:Shared) (H:Hp) (l:yaa),Ul (uX X sc ns x f c s H l) body te)
  (I:Inv X pins σ H s) (r:Rel X W H σ ρ) (h:s.heap.get? f=some (kI X params body sc ns b c g)) (j:s.heap.CodeRec (.ref c) nO) (p:RelV v u) (m:Den X.K W.bad H d v) (q:te (some (.val d)::js.map (aZ ρ)) Q) :
  wpAny (model X.prog X.w) X.A.in1 (call (.ref f) [u]) (DP X pins σ W H Q) (λ_ _=>False) s:=by
 calc wpAny_call (PySem.W.kla_callFunE i h rfl e a rfl j ?_);rw[k];calc T5 (wpAny_newFunctionEnv S.Zz (λy b=>?_) (λg J a=>⟨I.nolimit.fresh _ a,?_⟩) S.kind);let e:y=(x,u):=by simpa using b
 subst e;calc S.tgt x 52;let A:∀b o,s.heap.get? b=some o->g.get? b=some o:=λb o e=>a.extBut b o (WG (U5 e)) (VX _ e)
 calc PySem.W.kla_codeExpr ?_;let o:Rel (uX X sc ns x f c s H λa n=>wpAny (model X.prog X.w) (X.A.in1.deeper (qr X sc ns f c s.heap.objs.size)) (leaving (qr X sc ns f c s.heap.objs.size) a) (λ_ a=>False) (λG a=>False) n) ⟨λa=>W.bad false a,λ_=>none,W.S⟩ H (some v::js.map (dj σ)) (some (.val d)::js.map (aZ ρ)):=by
  let l:∀t a,Own.bad ⟨λa=>W.bad false a,λ_=>none,W.S⟩ t a->W.bad t a:=λt a z=>by
   obtain z|⟨i,z⟩| z:=z;calc Own.Zx z;cases z;exact .inr (.inr z)
  calc⟨λi k h=>?_,λi y h=>?_,λi j a h _=>(by cases h),λi a h=>(by cases h),λi a h=>(by cases h),λa h=>r.tracked false a h,r.st,au.refl H,r.tab⟩;cases i with
  |zero =>
   let e:some (some (Sl.val d))=some (some (Sl.val k)):=h;cases e;calc⟨v,rfl,m.UG l⟩
  |succ i =>
   let b:(js.map (aZ ρ))[i]?=some (some (.val k)):=h;rw[WA]at b;cases e:js[i]? with
   |none=>rw[e]at b;cases b
   |some j =>
    rw[e]at b;let g:aZ ρ j=some (.val k):=ZI b;let E:ρ[j]?=some (some (.val k)):=by unfold aZ at g;split at g;rename_i u q;cases g;calc q;cases g
    let⟨w,u,m⟩:=r.val j k E;calc⟨w,?_,m.UG l⟩;show(js.map (dj σ))[i]?=some (some w);rw[WA,e];show some (dj σ j)=_;ext dj;rw[u]
  cases i with
  |zero=>cases h
  |succ i =>
   let b:(js.map (aZ ρ))[i]?=some (some (.ob y)):=h;rw[WA]at b;cases e:js[i]? with
   |none=>rw[e]at b;cases b
   |some j =>
    rw[e]at b;let g:aZ ρ j=some (.ob y):=ZI b;unfold aZ at g;split at g<;>cases g
 calc Yz (C f c s H _ [] _ _ H _ _ Q (Inv.lam I S B p J A) o q) (λL n e=>?_) (λ_ _ h=>h);let⟨w,b,k,J,g,sm,c,h⟩:=e;let⟨e,j,i,f,m⟩:=I.after (Q:=λv b=>au H b/\∃d,Den X.K W.bad b d v/\Q d) ⟨w,b,J.os,J.bare,J.base,J.Uk,g,sm,k,c.UG (λt a z=>by
  obtain z|z|⟨b,a⟩:=z;cases t with
  |false=>calc .inl (.inl z)
  |true=>exact .inl (.inl z)
  calc .inl (.inr (.inl z));calc .inr (.inr ⟨b,a⟩)),h⟩
 let⟨a,d,b,c⟩:=m;calc⟨e,j,d,i,f,a,b,c⟩
def BMain (mg:yal) (base:Heap):Prop:=∃b a,mg "__builtins__" = some (.ref b)/\b≠builtinsNs/\base.get? b=some a/\a.cls=.type "module" /\ a.dict=some builtinsNs/\a.data=.plain
def EU{c d:Value}(l:yad)(h:TriplesOk l)(e:codeAmong pos (l++[rawInt a,rawInt b,c])=some d):codeAmong pos l=some d∨d=c:=by
 fun_induction TriplesOk l with
 |case1 =>
  simp only[zBv,codeAmong,rawInt]at e
  lia
 |case2 j t i u x rest ih =>
  simp only[zBQ,codeAmong]at e ⊢;split at e
  all_goals simp_all [TU,TM]
 |case3 l g f=>lia
def Cv{a:Heap}(p:gG c h1)(k:∀o,h1.get? c=some o->a.get? c=some o):gG c a:=by let⟨d,o,a,t,e,b,r⟩:=p;cases e;calc⟨c,o,a,t,rfl,k o b,r⟩
def JW {Q:yaa} (U:closureFor sc X.env=pure (cf X.env ns)) (hq:X.env.qual ++ "<lambda>" = nO) (T:defaultsOf params X.env=([],[])) (l:X.env.code=.ref c0) (hK:PySem.W.codeHdIn X.K c0 P=true) (hT:tabOf X.K=some P) (hB:BMain X.mg X.base)
  (I:Inv X pins σ H s) (r:Rel X W H σ ρ)
  (h:∀(f c:Addr) (b d:Value) (H':Hp) (a:Shared),Inv X pins σ H' a->au H H'->H' c=some (.ext (gG c))->a.heap.get? f=some (kI X params body sc ns b c d)->cJ X pins H' f->Q (.ref f) a):wpAny (model X.prog X.w) X.A (eval (.Lambda params body sc V8) X.env) Q E s:=by
 let⟨i,B⟩:=r.tab.at' P hT;let⟨ht,hc⟩:=r.tab.ok P i B;let Y:s.heap.get? P=some (PySem.W.tabObj i):=I.Uk P _ B;let O:s.heap.Ns mainGlobals X.mg:=I.mod.glob.keeps I.bk;let C:PySem.W.CodeHd s.heap c0 P:=PySem.W.codeHd_of_K I.Zq hK;let G:∀b,H b=none->b≠P:=λb n e=>by rw[e,B]at n;cases n
 let hgP:mainGlobals≠P:=by let⟨o,es,ep,e,_⟩:=I.mod.glob;exact G _ (I.bs _ _ e).2
 let hb:s.heap.BuiltinsAt X.mg P:=by let⟨bm,ob,b1,b2,b3,b4,b5,b6⟩:=hB;calc⟨bm,ob,b1,b2,λe=>?_,G _ (I.bs _ _ b3).2,I.bk _ _ b3,b4,b5,b6⟩;let⟨o,es,ep,e',d,_⟩:=I.mod.glob;rw[e,e']at b3;cases b3;rw[d]at b6;cases b6
 calc PySem.W.kla_eval T ?_;rw[hq];cases hf:codeAmong V8 i.toList with
 |some cv =>
  let⟨c,rfl,a⟩:=hc V8 cv hf;refine PySem.W.kla_makeFunctionHit (mg:=X.mg) U I.ok.glob O l C Y ht hf hb λg m tk f j=>?_
  let kp:∀b o,s.heap.get? b=some o->(m.push (kI X params body sc ns ((X.mg "__name__").getD .none) c g)).get? b=some o:=λb o e=>VX _ (f b o e)
  calc h m.objs.size c _ g H _ (I.un (Un.kept kp) (I.Uk.kept kp)) (au.refl H) a (Xg _ rfl) (Inv.ZU I j (I.Uk.fresh j))
 |none =>
  refine PySem.W.kla_makeFunction (mg:=X.mg) U I.ok.glob O l C Y ht hf hgP hb λf g m tk hx E Wx N M=>?_
  let hn:H f=none:=I.Uk.fresh E;let hcP:f≠P:=G _ hn;let e1:upd (upd H P (.Yj (i++#[rawInt V8.line,rawInt V8.col,.ref f]))) f (.ext (gG f)) f=some (.ext (gG f)):=aW;let e2:upd (upd H P (.Yj (i++#[rawInt V8.line,rawInt V8.col,.ref f]))) f (.ext (gG f)) P=some (.Yj (i++#[rawInt V8.line,rawInt V8.col,.ref f])):=by rw[aC (Ne.symm hcP),aW]
  let A:∀b,b≠P->b≠f->upd (upd H P (.Yj (i++#[rawInt V8.line,rawInt V8.col,.ref f]))) f (.ext (gG f)) b=H b:=λb n1 n2=>by rw[aC n2,aC n1]
  let e4:∀b o,H b=some o->b≠f:=λb o q=>eV q hn
  generalize upd (upd H P (.Yj (i++#[rawInt V8.line,rawInt V8.col,.ref f]))) f (.ext (gG f))=H' at e1 e2 A;let kp:∀b o,b≠P->s.heap.get? b=some o->(m.push (kI X params body sc ns ((X.mg "__name__").getD .none) f g)).get? b=some o:=λb o n e=>VX _ (hx b o n e)
  let kP:(m.push (kI X params body sc ns ((X.mg "__name__").getD .none) f g)).get? P=some (PySem.W.tabObj (i++#[rawInt V8.line,rawInt V8.col,.ref f])):=VX _ M;let hl:(i++#[rawInt V8.line,rawInt V8.col,Value.ref f]).toList=i.toList++[rawInt V8.line,rawInt V8.col,.ref f]:=52
  let sm:au H H':=by
   calc⟨λb o q n=>?_,λb u q=>?_,λk=>λt u q=>?_⟩;rw[A b (λz=>by subst z;rw[B]at q;cases q;calc n) (e4 b o q)];calc q;by_cases z:b=P;subst z;rw[B]at q;cases q;calc⟨_,e2⟩;calc⟨#[],by rw[A b z (e4 b _ q),q];simp⟩;by_cases z:t=P;subst z;rw[e2]at q;cases q;calc⟨by rw[hl];calc TriplesOk_snoc _ _ _ _ ht,λa cv w=>?_⟩;rw[hl]at w;obtain w|w:=EU _ ht w;let⟨c,L,y⟩:=hc a cv w;calc⟨c,L,by rw[A c (λz=>by subst z;rw[B]at y;cases y) (e4 c _ y)];calc y⟩;calc⟨f,w,e1⟩;let J:t≠f:=λz=>by subst z;rw[e1]at q;cases q
   rw[A t z J]at q;let⟨L,y⟩:=k t u q;calc⟨L,λa cv w=>?_⟩;let⟨c,w3,p⟩:=y a cv w;exact⟨c,w3,by rw[A c (λz=>by subst z;rw[B]at p;cases p) (e4 c _ p)];calc p⟩
  let un:Un X.fs [] H H' s.heap (m.push (kI X params body sc ns ((X.mg "__name__").getD .none) f g)):=by calc⟨λb o e n _ _=>kp b o (G b n) e,λb o e n _ _=>⟨o.slots,kp b o (G b n) e⟩,λb o e n _=>?_,λb o e _=>?_,λb xs q=>sm b _ q,λb o u q=>sm b _ q,sm.tb⟩;rw[A b (G b n) (WG (XG (U5 e) E))];calc n;by_cases z:b=P;subst z;calc⟨_,kP⟩;exact⟨o,kp b o z e⟩
  let Uk:WR X.prog X.w H' (m.push (kI X params body sc ns ((X.mg "__name__").getD .none) f g)):=by
   intro a o q;by_cases z1:a=f;subst z1;rw[e1]at q;cases q;let⟨c2,oc,vs,t,L,y,w3⟩:=N;cases L;calc⟨⟨a,oc,vs,t,rfl,VX _ y,w3⟩,⟨_,VX _ y⟩,λh1 h2 p k=>Cv p k⟩;by_cases J:a=P;subst J;rw[e2]at q;cases q;calc kP;rw[A a J z1]at q;refine(I.Uk a o q).Zd (λb u w e=>kp b u (λz=>?_) e) (λb w=>sm b _ w) λb xs w=>sm b _ w
   subst z;obtain w|w:=w;calc J w.symm;rw[B]at w;cases w
  let j:s.heap.objs.size<=m.objs.size:=Xb E (zBf Wx);let a:H' m.objs.size=none:=by rw[A _ (λz=>by have:=U5 M;rw[<- z]at this;calc absurd this (zBs _)) (λz=>by rw[<- z]at Wx;calc absurd Wx (zBs _))];exact I.Uk.fresh j
  calc h m.objs.size f _ g H' _ (I.un un Uk) sm e1 (Xg _ rfl) (Inv.ZU I j a)
end
section
variable{X:Cx}{pins:yab}{σ:St}{H:Hp}
def di{H':Hp}(h:cJ X pins H b)(n:H' b=none):cJ X pins H' b:=⟨n,h.2⟩
def Inv.turnAt{t':Nat}{h':Heap}(I:Inv X pins σ H s)(f:cJ X pins H it)(k:∀b o,b≠it->s.heap.get? b=some o->h'.get? b=some o):Inv X pins σ H {s with heap:=h',toks:=t'}:=I.turned (t':=t') k f.1 f.2.1 f.2.2.2.1 f.2.2.2.2.1 f.2.2.2.2.2
structure Rw(X:Cx)(pins:yab)(H:Hp)(s:Shared)(l f S I:Addr)(fo:Obj)(j:Nat)(vb:Value)(k:Int):Prop where
 fo:s.heap.get? f=some fo
 ff:cJ X pins H f
 so:∃tb n,s.heap.get? S=some (seqObj "list" #[vb,.int k tb] n)
 sf:cJ X pins H S
 io:s.heap.IsListIter I l j
 jf:cJ X pins H I
 fS:f≠S
 fI:f≠I
 SI:S≠I
 lI:l≠I
def J9{L:Obj}{R:Result->Shared->Prop}(a:Nat->Int)(hh:X.A.handled=none)(O:∀H',au H H'->SqL X.K H' l vs)(Q:∀v,L.data ≠ .cell v)
  (C:∀(r:yab) (s:Shared) (H':Hp) (i:Nat) (x:V) (u:Value),Inv X (pins++r) σ H' s->au H H'->s.heap.get? f=some L->vs[i]?=some x->RelV x u →
   wpAny (model X.prog X.w) X.A.in1 (call (.ref f) [u]) (λu' b=>∃B t,Inv X (pins++r) σ B b/\au H' B/\u'=.int (a i) t) (λ_ _=>False) s)
  (hR:∀(i:Nat) (x:V) (u:Value) (b:Shared) (H':Hp),vs[i]?=some x->RelV x u->(∀j,j<#[vs]->a i<=a j/\(j<i->a i<a j))->Inv X pins σ H' b->au H H'->R (.ok (.ret u)) b) :
  ∀ (m j i:Nat) (s:Shared) (H':Hp) (x:V) (d:Value),#[vs] - (j+1)=m->j+1<=#[vs]->Inv X pins σ H' s->au H H'->Rw X pins H' s l f S I L (j+1) d (a i)->vs[i]?=some x->RelV x d->i<=j->(∀c,c<=j->a i<=a c/\(c<i->a i<a c)) →
   codeAny (model X.prog X.w) X.A (.builtin "min.loop" ⟨[.ref I,.ref f,.ref S],[]⟩) R s:=by
 let Z6:(toString "min" ++ toString ".loop" : String) = "min.loop" := 23
 intro m
 induction m with
 |zero =>
  intro j i s H' x d T Y J sm A U N Wg M;let⟨y,h,r,_⟩:=J.list (O H' sm);let G:=#[h];let W:=Walks.list (prog:=X.prog) (w:=X.w) (A:=X.A.in1) hh I l A.lI y.toArray;let⟨q,n,z⟩:=A.so;let b:s.heap.IsListIter I l y.toArray.size:=by
   let e:y.toArray.size=j+1:=by rw[Yw];lia
   rw[e];exact A.io
  calc zBO PySem.F.entry_min_loop ?_;rw[Around.under_plainId PySem.F.plain_min_loop _];show wpAny _ X.A.in1 (seqItems? (.ref S) >>= _) _ _ _;calc TJ (zBL z rfl ?_);show wpAny _ X.A.in1 (tryCatch (pyNext (.ref I)) _ >>= _) _ _ _;calc TJ (zC8 (W.done _ _ _ ⟨b,r.isList⟩ λh' g u=>?_));let J1:=Inv.turnAt (t':=g) J A.jf (h':=h') λb o p e=>u b o (by simpa using p) e
  let k:h'.get? S=some (seqObj "list" #[d,.int (a i) q] n):=u S _ (by simpa using A.SI) z;show wpAny _ X.A.in1 (updateSeq S (λ_=>#[]) >>= _) _ _ _;calc TJ ?_;calc zB6 k rfl (TJ (zCx (T5 ?_)));let E:=zBP h' S (Obj.mapSeq λ_=>(#[]:yan));calc hR i x d _ H' U N (λc ZD=>M c 33) (Inv.turnAt (t':=g) J1 A.sf λb o p e=>(E.2 b p).trans e) sm
 |succ m ih =>
  intro j i s H' x d T Y J sm A U N Wg M;let⟨y,h,r,_⟩:=J.list (O H' sm);let G:=#[h];let Y:j+1<#[vs]:=33
  let W:=Walks.list (prog:=X.prog) (w:=X.w) (A:=X.A.in1) hh I l A.lI y.toArray;let⟨q,n,z⟩:=A.so;calc zBO PySem.F.entry_min_loop ?_;rw[Around.under_plainId PySem.F.plain_min_loop _];show wpAny _ X.A.in1 (seqItems? (.ref S) >>= _) _ _ _;calc TJ (zBL z rfl ?_);show wpAny _ X.A.in1 (tryCatch (pyNext (.ref I)) _ >>= _) _ _ _;calc TJ (zC8 (W.item (j+1) _ _ _ (by rw[Yw];lia) ⟨A.io,r.isList⟩ λv h' g l m u=>?_));let hv:y[j+1]?=some v:=by simpa using l
  obtain⟨y,T⟩:∃y,vs[j+1]?=some y:=⟨_,Wc Y⟩;let⟨v',l,s⟩:=h.get T;rw[hv]at l;cases l;let J1:=Inv.turnAt (t':=g) J A.jf (h':=h') λb o p e=>u b o (by simpa using p) e
  let⟨O,J,G,l⟩:=id m.1;let k:h'.get? S=some (seqObj "list" #[d,.int (a i) q] n):=u S _ (by simpa using A.SI) z;let h:h'.get? f=some L:=u f _ (by simpa using A.fI) A.fo;let g:∀w,(seqObj "list" #[d,.int (a i) q] n).data ≠ .cell w:=λw z=>by cases z
  let r:∀w,O.data ≠ .cell w:=λw z=>by rw[l]at z;cases z
  let u:=J1.pinned (fp:=[f,S,I]) (λb m=>by
   simp only[VC,zBG,or_false]at m;obtain rfl|rfl|rfl:=m;calc A.ff;calc A.sf;calc A.jf) (λb m=>by
   simp only[VC,zBG,or_false]at m;obtain rfl|rfl|rfl:=m;calc⟨_,h,Q⟩;calc⟨_,k,g⟩;calc⟨_,J,r⟩)
  show wpAny _ X.A.in1 (tryCatch (holding [v] (call (.ref f) [v])) _ >>= _) _ _ _;calc TJ (zC8 (YH (Yz (C _ _ H' (j+1) y v u sm h T s) (λu' C g=>?_) λ_ _ r=>r.elim)));let⟨B,u,L,r,rfl⟩:=g;let g:∀b o,b ∈ [f,S,I]->h'.get? b=some o->C.heap.get? b=some o/\B b=none:=λb o m z=>by have:=L.pin (b,o) (XF _ (XF _ (eU m z)));exact⟨this.1,this.2.1⟩
  let z:=g f _ 52 h;let m:=g S _ 52 k;let k:=g I _ 52 J;let J:=L.Wl;calc TJ (zC8 (YH (TJ (CmpOf.ints_lt (prog:=X.prog) (w:=X.w) (A:=X.A.in1) (P:=λi v=>∃t,v=.int (a i) t) a (λi v h=>h) (j+1) i _ _ _ _ _ ⟨u,rfl⟩ ⟨q,rfl⟩ ?_))));calc TJ (YH (zBt ?_));calc TJ (zCx (T5 ?_));by_cases g:a (j+1)<a i;simp only[g,decide_true,zCW];calc TJ ?_;calc zB6 m.1 rfl (TJ (zCx ?_));rw[Z6];let E:=zBP C.heap S (Obj.mapSeq λ_=>#[v,.int (a (j+1)) u]);calc T5 ⟨zB3 PySem.F.plain_min_loop _,ih (j+1) (j+1) _ B y v 33 Y (Inv.turnAt (t':=C.toks) J (di A.sf m.2) λb o p e=>(E.2 b p).trans e) (sm.trans r) ⟨(E.2 f A.fS).trans z.1,di A.ff z.2,⟨u,_,get?_update_seq m.1 λ_=>#[v,.int (a (j+1)) u]⟩,di A.sf m.2,⟨O,(E.2 I A.SI.symm).trans k.1,G,l⟩,di A.jf k.2,A.fS,A.fI,A.SI,A.lI⟩ T s (VY _) λc ZD=>?_⟩;by_cases e:c=j+1;subst e;calc⟨33,λ_=>33⟩;let a:=M c 33;let hb2:=a.1;calc⟨33,λ_=>33⟩;simp only[g,decide_false,zBH,if_false];calc TJ (zCx ?_);rw[Z6];calc T5 ⟨zB3 PySem.F.plain_min_loop _,ih (j+1) i _ B x d 33 Y J (sm.trans r) ⟨z.1,di A.ff z.2,⟨q,n,m.1⟩,di A.sf m.2,⟨O,k.1,G,l⟩,di A.jf k.2,A.fS,A.fI,A.SI,A.lI⟩ U N 33 λc ZD=>?_⟩;by_cases e:c=j+1;subst e;calc⟨33,λ_=>33⟩;calc M c 33
def J8{z:Obj}{vs:yaq}{Q:yaa}(d:Nat->Int)(hh:X.A.handled=none)(U:0<#[vs])(J:Inv X pins σ H s)(I:∀H',au H H'->SqL X.K H' l vs)(C:s.heap.get? f=some z)(O:cJ X pins H f)(m:∀v,z.data ≠ .cell v)
  (a:∀(b:yab) (s:Shared) (H':Hp) (i:Nat) (x:V) (u:Value),Inv X (pins++b) σ H' s->au H H'->s.heap.get? f=some z->vs[i]?=some x->RelV x u →
   wpAny (model X.prog X.w) X.A.in1 (call (.ref f) [u]) (λN k=>∃B t,Inv X (pins++b) σ B k/\au H' B/\N=.int (d i) t) (λ_ _=>False) s)
  (hQ:∀(i:Nat) (x:V) (u:Value) (k:Shared) (H':Hp),vs[i]?=some x->RelV x u->(∀j,j<#[vs]->d i<=d j/\(j<i->d i<d j))->Inv X pins σ H' k->au H H'->Q u k) :
  wpAny (model X.prog X.w) X.A (call (.builtin "min") [.ref l] [(Str.ofString "key", .ref f)]) Q E s:=by
 let T:(toString "min" ++ toString ".loop" : String) = "min.loop" := 23
 let⟨TV,Y,b,_⟩:=J.list (I H (au.refl H));let c:l<s.heap.objs.size:=by let⟨o,e,_⟩:=id b.isList;exact U5 e
 let h:f<s.heap.objs.size:=U5 C;calc kmk_tree PySem.F.kind_min PySem.F.plain_min PySem.F.entry_min (kmk_min_key _ _) ?_;calc TJ (wpAny_of_eq (show Builtin.Builtins.bindParams "min" ["key", "default"] 0 ⟨[],[(Str.ofString "key", .ref f)]⟩=pure [some (.ref f),none]from rfl) ?_);calc TJ (T5 ?_);calc TJ (zCg b.isList ?_);calc TJ (wpAny_newList ?_ (Yt _));rw[T];let g:(s.heap.push {cls:=.type "list_iterator", data:=.fields #[.ref l,.int 0 0]}).objs.size=s.heap.objs.size+1:=size_push' ..;let kp:∀b o,s.heap.get? b=some o->((s.heap.push {cls:=.type "list_iterator", data:=.fields #[.ref l,.int 0 0]}).push (seqObj "list" #[] 0)).get? b=some o:=λb o e=>VX _ (VX _ e)
 let n:((s.heap.push {cls:=.type "list_iterator", data:=.fields #[.ref l,.int 0 0]}).push (seqObj "list" #[] 0)).get? s.heap.objs.size=some {cls:=.type "list_iterator", data:=.fields #[.ref l,.int 0 0]} :=
  VX _ (Xg _ rfl)
 let Q:((s.heap.push {cls:=.type "list_iterator", data:=.fields #[.ref l,.int 0 0]}).push (seqObj "list" #[] 0)).get? (s.heap.objs.size+1)=some (seqObj "list" #[] 0):=by rw[<- g];exact Xg _ rfl
 let p:Inv X pins σ H {s with heap:=(s.heap.push {cls:=.type "list_iterator", data:=.fields #[.ref l,.int 0 0]}).push (seqObj "list" #[] 0)}:=J.un (t':=s.toks) (Un.kept kp) (J.Uk.kept kp);let M:cJ X pins H s.heap.objs.size:=Inv.ZU J (VY _) (J.Uk.fresh (VY _));let L:cJ X pins H (s.heap.objs.size+1):=Inv.ZU J (Nat.le_succ _) (J.Uk.fresh (Nat.le_succ _));rw[g];calc T5 ⟨zB3 PySem.F.plain_min_loop _,?_⟩;let q:l≠s.heap.objs.size:=WG c;let⟨g,c,j,_⟩:=p.list (I H (au.refl H));let len:=#[c];let W:=Walks.list (prog:=X.prog) (w:=X.w) (A:=X.A.in1) hh s.heap.objs.size l q g.toArray;calc zBO PySem.F.entry_min_loop ?_;calc TJ (zBL Q rfl ?_);calc TJ (zC8 (W.item 0 _ _ _ (by rw[Yw];lia) ⟨⟨_,n,rfl,rfl⟩,j.isList⟩ λv h' n l j t=>?_));let hv:g[0]?=some v:=by simpa using l
 obtain⟨y,E⟩:∃y,vs[0]?=some y:=⟨_,Wc U⟩;let⟨v',g,l⟩:=c.get E;rw[hv]at g;cases g;let J1:=Inv.turnAt (t':=n) p M (h':=h') λb o A e=>t b o (by simpa using A) e
 let⟨J,p,G,n⟩:=id j.1;let r:h'.get? (s.heap.objs.size+1)=some (seqObj "list" #[] 0):=t _ _ 52 Q;let g:h'.get? f=some z:=t f _ (by simpa using WG h) (kp f _ C);let c:∀w,(seqObj "list" #[] 0).data ≠ .cell w:=λw z=>by cases z
 let t:∀w,J.data ≠ .cell w:=λw z=>by rw[n]at z;cases z
 let w:=J1.pinned (fp:=[f,s.heap.objs.size+1,s.heap.objs.size]) (λb j=>by
  simp only[VC,zBG,or_false]at j;obtain rfl|rfl|rfl:=j;calc O;calc L;calc M) (λb j=>by
  simp only[VC,zBG,or_false]at j;obtain rfl|rfl|rfl:=j;calc⟨_,g,m⟩;calc⟨_,r,c⟩;calc⟨_,p,t⟩)
 calc TJ (zC8 (YH (Yz (a _ _ H 0 y v w (au.refl H) g E l) (λN z c=>?_) λ_ _ t=>t.elim)));let⟨B,t,N,w,rfl⟩:=c;let c:∀b o,b ∈ [f,s.heap.objs.size+1,s.heap.objs.size]->h'.get? b=some o->z.heap.get? b=some o/\B b=none:=λb o j C=>by have:=N.pin (b,o) (XF _ (XF _ (eU j C)));exact⟨this.1,this.2.1⟩
 let C:=c f _ 52 g;let j:=c _ _ 52 r;let r:=c _ _ 52 p;let Q:=N.Wl;let p:=zBP z.heap (s.heap.objs.size+1) (Obj.mapSeq λ_=>#[v,.int (d 0) t]);calc TJ ?_;calc zB6 j.1 rfl ?_;rw[T];let c:f≠s.heap.objs.size+1:=WG (zCe h);let g:s.heap.objs.size+1≠s.heap.objs.size:=Nat.succ_ne_self _;calc T5 ⟨zB3 PySem.F.plain_min_loop _,J9 (H:=H) (vs:=vs) d hh I m a (λi x u k H' N I s m a=>hQ i x u k H' N I s m a) _ 0 0 _ B y v rfl U (Inv.turnAt (t':=z.toks) Q (di L j.2) λb o A e=>(p.2 b A).trans e) w ⟨(p.2 f c).trans C.1,di O C.2,⟨t,_,get?_update_seq j.1 λ_=>#[v,.int (d 0) t]⟩,di L j.2,⟨J,(p.2 _ g.symm).trans r.1,G,n⟩,di M r.2,c,WG h,g,q⟩ E l (VY _) λa ZD=>?_⟩;let e:a=0:=33
 subst e;calc⟨33,λh=>absurd h (zBs _)⟩
end
section
variable{X:Cx}{sc:Scope}{ns:yah}{js:yag}{x:Str}{pos:Pos}
def DH(te:DE)(js:yag)(e:DE):DE:=λc Q=>te c λd=>∃(t:Bool) (b:yar) (a:Nat->Int),d=.lst t b/\0<#[b]/\(∀i x,b[i]?=some x->e (some (.val x)::js.map (aZ c)) λr=>r=.int (a i))/\∀i x,b[i]?=some x->(∀j,j<#[b]->a i<=a j/\(j<i->a i<a j))->Q x
def G4{p kp:Pos}(J:X.calm=true)(U:X.A.depth<recursionLimit)(S:CSc X.env.scope sc [x] ns)(G:aR X.N ns js)(g:X.env.code=.ref c0)(N:PySem.W.codeHdIn X.K c0 P=true)(M:tabOf X.K=some P)(O:BMain X.mg X.base)
  (i:Gl X "min") (d:X.mg "min" = none) (j:Ul X e te) (L:∀(f c:Addr) (s:Shared) (H:Hp) (a:yaa),Ul (uX X sc ns x f c s H a) body tb)
  (C:X.env.qual ++ "<lambda>" = nO:=by rfl) (y:closureFor sc X.env=pure (cf X.env ns):=by rfl) (n:defaultsOf params X.env=([],[]):=by rfl) (w:sc.isCoroutine=false:=by rfl) (m:sc.isGenerator=false:=by rfl)
  (Y:∀(z A:Value) (c:Addr) (u:Value),bindArgs (PySem.W.kla_fn "<lambda>" nO params body sc (cf X.env ns) z (.ref c) A) ⟨[u],[]⟩=pure [(x,u)]:=by intros;rfl)
  (o:starEach [e] X.env=(false,eval e X.env)::starEach [] X.env:=by rfl)
  (B:backTo pos (starEach [e] X.env)=(false,eval e X.env)::backTo pos (starEach [] X.env):=by rfl) (E:(backTo pos (starEach [e] X.env)).any (·.1)=false:=by rfl)
  (VP:(backToKw pos (keywordEach [⟨some "key", .Lambda params body sc V8,kp⟩] X.env)).all (·.1.isSome)=true:=by rfl) (l:(backToKw pos (keywordEach [⟨some "key", .Lambda params body sc V8,kp⟩] X.env)).any (·.1.isNone)=false:=by rfl)
  (hz:∀v:Value,((backToKw pos (keywordEach [⟨some "key", .Lambda params body sc V8,kp⟩] X.env)).filterMap (·.1)).zip [v]=[(Str.ofString "key", v)]:=by intro _;rfl) :
  Ul X (.Call (.Name "min" p) [e] [⟨some "key", .Lambda params body sc V8,kp⟩] pos) (DH te js tb):=by
 intro a s b H W k Q I r h;calc zBh (dm I i d boot_min ?_ 23 23);calc callWith_kw (T9 (aa j af o pos a s b H W k (λa=>∃d,a=[d]/\∃(t:Bool) (a:yar) (b:Nat->Int),d=.lst t a/\0<#[a]/\(∀i x,a[i]?=some x->tb (some (.val x)::js.map (aZ k)) λr=>r=.int (b i))/\∀i x,a[i]?=some x->(∀j,j<#[a]->b i<=b j/\(j<i->b i<b j))->Q x) I r ?_) λus s1 ⟨vs,H1,T,I1,o,s,p,q⟩=>?_) B E VP l;show te k λx=>_
 let B:(λx=>AM k λl=>∃d,x::l=[d]/\∃(t:Bool) (a:yar) (b:Nat->Int),d=.lst t a/\0<#[a]/\(∀i x,a[i]?=some x->tb (some (.val x)::js.map (aZ k)) λr=>r=.int (b i))/\∀i x,a[i]?=some x->(∀j,j<#[a]->b i<=b j/\(j<i->b i<b j))->Q x)=λd=>∃(t:Bool) (a:yar) (b:Nat->Int),d=.lst t a/\0<#[a]/\(∀i x,a[i]?=some x->tb (some (.val x)::js.map (aZ k)) λr=>r=.int (b i))/\∀i x,a[i]?=some x->(∀j,j<#[a]->b i<=b j/\(j<i->b i<b j))->Q x:=by
  funext d
  apply propext;constructor;rintro⟨I,e,q⟩;cases e;calc q;intro q;exact⟨d,rfl,q⟩
 rw[B];calc h;let⟨d,rfl,t,a,b,rfl,Q,h,H⟩:=q;let⟨v,B,rfl,p,rfl⟩:=p;cases o with
 |cons o a =>
 cases a;let⟨l,k,rfl,_,E,q⟩:=p.Xd;cases o;let a:=r.same s;calc kws_cons (JW y C n g N M O I1 a λf c z A H2 s2 j f A l n=>?_);calc kws_nil ?_;let r:=a.same f;let g:=q.same f;calc J8 (vs:=k) b (j.ok.hd J) (by rw[q.len];calc Q) j (λH' sm=>sm.seq (f.seq E)) l n (λ_ z=>by cases z) (λpl b p i y u j a n l k=>?_) (λi y u b p l k o j a=>?_);let u:b.heap.CodeRec (.ref c) nO:=(j.Uk c _ (a _ _ A)).1;let⟨d,b,c⟩:=g.aZ l;refine Yz (JV S G w m U Y L j (r.same a) n u k (c.same a) (h i d b)) (λB s4 u=>?_) λ_ _ z=>z
 let⟨w,z,I,w,n,h,m,r⟩:=u;subst r;have:=m.VQ;subst this;let⟨t,e⟩:=n;calc⟨z,t,w,h,e⟩;let⟨d,b,c⟩:=g.aZ l;calc⟨y,p,d,j,k,(s.trans f).trans a,c.same a,H i d b (by rw[q.len]at o;calc o)⟩
end
def Hy{K:yac}{x:Str}{f:Shared}{vs:yad}
  (y:f.heap.get? T=some (PySem.W.tabObj #[])) (hTK:K.lookup T=none) (hC:PySem.W.codeHdIn K c0 T=true) (G:tabOf K=some T) (hBM:BMain mg f.heap)
  (KX:K.In f.heap) (XR:f.heap.Ns mainGlobals mg) (g:f.heap.Ns builtinsNs mb) (hbb:∀x:Str,x ≠ "__name__" -> mb x=bootBuiltins x) (C:f.heap.NoLimit) (hg:f.gens=#[])
  (t:f.heap.get? a=some {cls:=.type "list", data:=.seq vs.toArray}) (hi:IntsAre vs ns) (hl:#[ns]<=sizeLine) (hr:bH k callerA)
  (F:∀base:Heap,K.In base->base.Ns mainGlobals mg->BMain mg base->aA P w K mg base CX k fa fd [x] sp) (YU:∀(s:Shared) (u:Value),BindsTo s fd ⟨[u],[]⟩ [(x,u)])
  (hsp:∀H:Hp,jw K H->SqL K H a (ns.map V.int)->sp [.ref a] H (λv _=>v=.bl true) λ_ _ _=>False)
  (hCX:∀H e i,CX [] H f (λ_ _ _=>False) e i->False) :
  codeAny (model P w) callerA (.call (.ref fa) ⟨[.ref a],[]⟩) (λr i=>r=.ok (.ret (.bool true))/\OldK f.heap i.heap/\i.os=f.os/\AllBare i.gens) f:=by
 let rv:=jo hi;let B:=#[hi];let E:a≠T:=λe=>by rw[e,y]at t;cases t
 let s:f.heap.TableAt c0 T #[]:=(PySem.W.codeHd_of_K KX hC).tab y;let p:∀H:Hp,(∀b,H b=none∨(b=a/\∃o U,H b=some (.frz o (.lst U)))∨(b=T/\H b=some (.Yj #[])))->H T=some (.Yj #[])->SqL K H a (ns.map V.int)->WR P w H f.heap->(H a≠none->K.lookup a=none) →
   codeAny (model P w) callerA (.call (.ref fa) ⟨[.ref a],[]⟩) (λr i=>r=.ok (.ret (.bool true))/\OldK f.heap i.heap/\i.os=f.os/\AllBare i.gens) f:=by
  intro H J M hS Uk hK;let Xt:∀{b:Addr} {o:Obj},f.heap.get? b=some o->H b=none->(fQ f.heap H).get? b=some o:=λe n=>A6 e n
  let N:∀{b:Addr} {o:Obj},f.heap.get? b=some o->(o.data ≠ .seq vs.toArray 0)->o.cls ≠ .none->H b=none:=fun {b o} e d c=>by
   obtain z|⟨z,_⟩| ⟨z,_⟩:=J b;calc z;subst z;rw[t]at e;cases e;calc absurd rfl d;subst z;rw[y]at e;cases e;exact absurd rfl c
  let j:∀{b:Addr} {m:yal},f.heap.Ns b m->(fQ f.heap H).Ns b m:=fun {b m} ⟨o,es,ep,e,d,r⟩=>⟨o,es,ep,Xt e (by
   obtain z|⟨z,_⟩| ⟨z,_⟩:=J b;calc z;subst z;rw[t]at e;cases e;cases d;subst z;rw[y]at e;cases e;cases d),d,r⟩
  let L:K.In (fQ f.heap H):=λb o e=>Xt (KX b o e) (by
   obtain z|⟨z,q⟩| ⟨z,_⟩:=J b;calc z;subst z;let⟨_,_,q⟩:=q;rw[hK (by rw[q];simp)]at e;cases e;subst z;rw[hTK]at e;cases e)
  let hM:Mod K mg (fQ f.heap H):=⟨L,j XR,⟨mb,j g,hbb⟩,let ⟨mc,h1,h2⟩:=C;⟨mc,j h1,h2⟩⟩;let hB:BMain mg (fQ f.heap H):=by let⟨bm,Y,b1,b2,b3,b4,b5,b6⟩:=hBM;exact⟨bm,Y,b1,b2,Xt b3 (N b3 (by rw[b6];intro z;cases z) (by rw[b4];intro z;cases z)),b4,b5,b6⟩
  let tk:jw K H:=by
   calc⟨λQ ps e=>?_,λQ e=>?_⟩;obtain z|⟨_,o,U,z⟩| ⟨_,z⟩:=J Q;rw[z]at e;cases e;rw[z]at e;cases e;rw[z]at e;cases e;calc⟨True.intro,λpos cv q=>by cases q⟩;rw[G]at e;cases e;exact⟨#[],M⟩
  let e0:zW P w K mg (fQ f.heap H) callerA [] f H:=⟨rfl,hM,λb o e=>D9 e,zDN (yP _ _),trivial,λb g=>absurd (show b∈([]:yae)from g) 52,Uk,.of_eq hg⟩;refine zCr ((F _ L (j XR) hB).run callerA [] f H ⟨[.ref a],[]⟩ [.ref a] [.ref a] _ _ hr e0 (YU f (.ref a)) (.cons rfl .nil) (hsp H tk hS)) λr i h=>?_
  cases r with
  |error e=>calc(hCX H e i h).elim
  |ok fl =>
   cases fl with
   |next=>calc False.elim h
   |brk=>calc False.elim h
   |cont=>calc False.elim h
   |ret u =>
    let⟨v,H',os,O,Q,l,r',q⟩:=h;let q':v=.bl true:=q;subst q';obtain rfl:u=Value.bool true:=r';let A:∀b o,f.heap.get? b=some o->b≠T->i.heap.get? b=some o:=λb o e nT=>by
     obtain z|⟨_,Y,U,z⟩| ⟨z,_⟩:=J b;calc Q.keep b o e z (by intro z;calc absurd (show b∈([]:yae)from z) 52) 52;let I:=Q.YA b Y _ z;let⟨k,_⟩:=Uk b _ z;let⟨e2,_⟩:=l b _ I;rw[e]at k;cases k;calc e2;exact absurd z nT
    let⟨k,hm⟩:=Q.Zf T #[] M;let I:i.heap.get? T=some (PySem.W.tabObj (#[]++k)):=l T _ hm;calc⟨rfl,⟨λb o e=>?_,λb o e=>?_⟩,os,O⟩;by_cases z:b=T;subst z;rw[y]at e;cases e;calc .inr (.inl ⟨s.isCodeTable,rfl,#[],k,rfl,I⟩);calc .inl (A b o e z);by_cases z:b=T;subst z;calc⟨_,I⟩;exact⟨o,A b o e z⟩
 cases hk:K.lookup a with
 |some o =>
  let e:=KX a o hk;rw[t]at e;cases e;refine p (λb=>if b=T then some (.Yj #[])else none) (λb=>?_) (TU rfl) (.inr ⟨_,vs.toArray,_,hk,rfl,rfl,rfl,by rw[Yw,B];calc hl,by simpa using rv⟩) (λb u z=>?_) λz=>absurd (TM E) z
  by_cases g:b=T;calc .inr (.inr ⟨g,TU g⟩);calc .inl (TM g);by_cases g:b=T;let d:=(TU g).symm.trans z;cases d;subst g;calc y;let d:=(TM g).symm.trans z;cases d
 |none =>
  refine p (λb=>if b=T then some (.Yj #[])else if b=a then some (.frz {cls:=.type "list", data:=.seq vs.toArray} (.lst (ns.map V.int)))else none) (λb=>?_) (TU rfl) (.inl (.inr ⟨{cls:=.type "list", data:=.seq vs.toArray},(TM E).trans (TU rfl)⟩)) (λb u z=>?_) λ_=>hk
  by_cases g:b=T;calc .inr (.inr ⟨g,TU g⟩);by_cases c:b=a;calc .inr (.inl ⟨c,_,_,(TM g).trans (TU c)⟩);calc .inl ((TM g).trans (TM c));by_cases g:b=T;let d:=(TU g).symm.trans z;cases d;subst g;calc y;by_cases c:b=a;let d:=((TM g).trans (TU c)).symm.trans z;cases d;subst c;calc⟨t,by rw[T4];calc hl,vs,_,rv,t⟩;let d:=((TM g).trans (TM c)).symm.trans z;cases d
def SH{l:PySem.W.OpenLaw}{b:World->Heap->Prop}{d:DefRec}{K:Params->yac}{x:Str}(c:l.most=some 63)(a:d.params.defaults=[])(m:bH k callerA)
  (n:∀(w:World) (h:Heap),b w h->(K w.params).In h/\h.get? T=some (PySem.W.tabObj #[])) (i:∀w:World,(K w.params).lookup T=none) (p:∀w:World,PySem.W.codeHdIn (K w.params) c0 T=true) (e:∀w:World,tabOf (K w.params)=some T)
  (F:∀(w:World) (mg:yal) (g:Addr) (h:Heap),(K w.params).In h->h.Ns mainGlobals mg->mg d.name=some (.ref g) →
   ∃ j:FuncData,(∀(s:Shared) (u:Value),BindsTo s j ⟨[u],[]⟩ [(x,u)])/\∀base:Heap,(K w.params).In base->base.Ns mainGlobals mg->BMain mg base->aA l.prog w (K w.params) mg base (CX1 l.prog w) k g j [x] (aD (K w.params) se)) :
  PySem.W.WalkO q loose XP b l.row.toRowW d [] (λf vs=>PySem.call f vs):=by
 refine Att.sP c a λw Uv TQ mg B g o y I r a vs A G Y C E Yc d c b a h=>?_
 let⟨f,k⟩:=n w _ Y;let⟨j,j,l⟩:=F w mg g _ f G.T.g d;calc Hy k (i w) (p w) (e w) G.T.bmain f G.T.g G.T.b G.T.builtins G.T.nolimit h c b (Xb a 23) m l j (λH c b=>Hz a b c) λH e t z=>by let⟨_,_,_,_,_,_,_,_,_,_,_,_,_,q⟩:=z;lia
def av.okL{P:Program}{w:World}{K:yac}{mg:yal}{base:Heap}{x a:Str}{st:Stmt}{f c0:Addr}{d:FuncData}{N ps:yah}{k:Nat}{sp:DSp}(F:av K x a st f d)(g:d.code=.ref c0)(S:aw N ps (aj st))(c:∀b Q E,sp b Q E->#[b]=#[ps])
  (h:∀(A:Around) (outer:List Env) (s:Shared) (H:Hp) (E:XK),bH k (A.deeper (envOfC a (aj st) s.heap.objs.size f (.ref c0))) →
   ∃ t,da (de (CX1 P w) P w K mg base N a (aj st) f (.ref c0) A outer s H E).nox (bZ st) t/\∀b Q Ed,sp b Q Ed->t {nx:=λ_=>Q .UE,rt:=Q} (cH N b)):aA P w K mg base (CX1 P w) (k+1) f d ps (aD K sp) :=
 av.okC F S c λWN e A outer s H E Ed c _ _ _=>by let a:=e.symm.trans g;subst a;let⟨t,a,k⟩:=h A outer s H E c;calc⟨t,a.nox,λb Q h=>k b Q Ed h⟩
def NP(a:bH k A):A.depth<recursionLimit:=by have:=a.dp;lia
section
variable{X:Cx}{pos:Pos}
def DD(i:Nat)(te:DE):DS:=λE a=>∃c,a[i]?=some (some (.own c))/\te a λd=>∃b,d=.lst true b/\#[c]+#[b]<=sizeLine/\E.nx (a.set i (some (.own (c++b))))
def G8{x:Str}{a:Pos}(i:Nat)(f:Ul X e te)(d:X.N[i]?=some x:=by rfl)(hv:Vis X.env.scope x:=by first|calc Or.inl rfl|calc Or.inr (Or.inl rfl)|calc Or.inr (Or.inr rfl))
  (g:(x==("__debug__" : Str))=false:=by decide) (j:(x==("__classdict__" : Str))=false:=by decide)
  (l:attributeBase (.Name x px) "extend" X.env (eval (.Name x px) X.env)=eval (.Name x px) X.env:=by rfl)
  (b:((backTo UL (starEach [e] X.env)).all (λx=>!x.1) && (backToKw UL (keywordEach [] X.env)).all (λx=>x.1.isSome) && decide (#[[e]]+#[([]:List Keyword)]+(if([]:List Keyword).isEmpty then 0 else 1)<30))=true:=by rfl)
  (k:(a.endLine==UL.line)=true:=by rfl) (c:starEach [e] X.env=(false,eval e X.env)::starEach [] X.env:=by rfl) (h:(backTo UL (starEach [] X.env)).any (·.1)=false:=by rfl)
  (hs:swapsWith (.Call (.Attribute (.Name x px) "extend" a) [e] [] UL) none pos.line X.env=pure false:=by rfl) :
  Yb X (.Expr (.Call (.Attribute (.Name x px) "extend" a) [e] [] UL) pos) (DD i te):=by
 let a:=xD (pos:=pos) (LC PySem.F.plainAttrs_list PySem.F.slot_list_extend PySem.F.type_list_extend HI (kL d hv g j) (rO f.pe BF c) l b k c h) hs;refine Yb.of a λp H W b E r s h=>?_
 let⟨c,m,h⟩:=h;let⟨a,j,n,k,l,o⟩:=r.ownL i c m;calc⟨.ref a,k,.inl ⟨rfl,_,SqL.of l⟩,W,b,_,r,h,λv f d g c q=>?_⟩;let⟨h,rfl,z,q⟩:=q;obtain⟨b,d,rfl,_,i,e⟩:∃b d,v=.ref b/\¬W.bad true b/\XS X.K f true b d/\aq X.K W.bad f h d:=by simpa only[Den]using c
 let f:=g _ _ l;let h:=r.same g;let c:=o.same g;calc⟨a,b,j,d,rfl,rfl,f,(i.2 rfl).1,by rw[c.len,e.len];calc z,?_⟩;let⟨a,b⟩:=h.mut (vs':=j++d) m n k f (c.append e);calc⟨W,_,(Vn.same g).trans b,a,q⟩
def OV(i:Nat):DS:=λE a=>E.nx (a.set i (some (.ob (.dt []))))
inductive KDP (X:Cx) (pins:yab) (σ:St) (W:Own) (H:Hp) (Q:D->Prop) (u:Value) (s':Shared):Prop
 |mk (b:Addr) (vs:yaq) (H':Hp) (ds:yar) (_:u=.ref b) (_:Inv X pins σ H' s') (_:au H H') (_:H' b=some (.tup vs)) (_:aq X.K W.bad H' ds vs) (_:Q (.tup ds))
def PEK(X:Cx)(e:Expr)(t:DE):Prop :=
 ∀ (a:yab) (s:Shared) (b:St) (H:Hp) (W:Own) (c:Ro) (Q:D->Prop),Inv X a b H s->Rel X W H b c->t c Q →
  wpAny (model X.prog X.w) X.A (eval e X.env) (KDP X a b W H Q) X.xe s
def RF(i:Nat)(c te:DE):DS:=λE b=>∃a,b[i]?=some (some (.ob (.dt a)))/\te b λd=>c b λk=>∃c:List Key,k=.tup (c.map jy)/\#[a]<sizeLine/\E.nx (b.set i (some (.ob (.dt (putD a c d)))))
def RD(i:Nat):DE:=λb Q=>∃a,b[i]?=some (some (.ob (.dt a)))/\Q (.int (#[a]:Int))
end
def PF(kvs:List (List Key×D))(r:Ro)(R:List (List Key×D)->Prop):(∃ys,(some (Sl.ob (.dt kvs))::r)[0]?=some (some (Sl.ob (.dt ys)))/\R ys)=R kvs:=58
theorem PG(n:Nat)(x:Option Sl)(r:Ro)(R:List (List Key×D)->Prop):(∃ys,(x::r)[n+1]?=some (some (Sl.ob (.dt ys)))/\R ys)=(∃ys,r[n]?=some (some (Sl.ob (.dt ys)))/\R ys):=rfl
def RT(ys:yar)(R:yar->Prop):(∃xs,D.lst true ys=.lst true xs/\R xs)=R ys:=by apply propext;constructor;rintro⟨xs,e,q⟩;cases e;calc q;intro q;calc⟨ys,rfl,q⟩
def iA{d:Type}{wi:DA}{g:DG}{h:DS}{E:jO}(xs:List d)(f:d->D)(Pv:Nat->Ro->Prop)(k:∀R:yar->Prop,R (xs.map f)->wi ρ R)(i:Pv 0 ρ)
  (b:∀(j:Nat) (x:d) (a:Ro),xs[j]?=some x->Pv j a->g (f x) a λc=>h {E with nx:=Pv (j+1),ct:=Pv (j+1),bk:=E.nx} c) (e:∀a,Pv #[xs] a->E.nx a):tL wi g h E ρ:=by
 calc k _ ⟨Pv,i,λj d a c d=>?_,λa d=>e a (by rw[T4]at d;calc d)⟩;rw[WA]at c;cases ex:xs[j]? with
 |none=>rw[ex]at c;cases c
 |some x =>
  rw[ex]at c;cases c;calc b j x a ex d
section
variable{X:Cx}{pos:Pos}
def RJ(i:Nat):DA:=λb Q=>∃a,b[i]?=some (some (.ob (.dt a)))/\Q (a.map (·.2))
def RC(i:Nat)(c:DE):DE:=λb Q=>∃a,b[i]?=some (some (.ob (.dt a)))/\c b λk=>∃b:List Key,k=.tup (b.map jy)/\Q (.bl (d5 a b).isSome)
def OO(i:Nat)(c te:DE):DS:=λE b=>∃a,b[i]?=some (some (.ob (.dt a)))/\c b λk=>∃(c:List Key) (n:Int),k=.tup (c.map jy)/\d5 a c=some (.int n)/\te b λd=>∃m,d=.int m/\E.nx (b.set i (some (.ob (.dt (putD a c (.int (n+m)))))))
end
inductive KPs (K:yac) (P:yak) (H:Hp):List (yar×D)->List (Value×Value)->Prop
 |nil:KPs K P H [] []
 |cons {b:Addr} {vs:yaq} {ks:yar} {d:D} {x:V} {u:Value} {ds:List (yar×D)} {ws:List (Value×Value)} (hb:H b=some (.tup vs)) (hk:aq K P H ks vs) (hd:Den K P H d x) (r:RelV x u) (t:KPs K P H ds ws):KPs K P H ((ks,d)::ds) ((.ref b,u)::ws)
def PPK(X:Cx)(pos:Pos)(c:List (Option Expr))(a:yai)(t:Ro->(List (yar×D)->Prop)->Prop):Prop :=
 ∀ (b:yab) (s:Shared) (d:St) (H:Hp) (W:Own) (e:Ro) (Q:List (yar×D)->Prop),Inv X b d H s->Rel X W H d e->t e Q →
  wpAny (model X.prog X.w) X.A (evalPairs (pairTrees c a X.env pos)) (λe f=>∃a c,Inv X b d a f/\au H a/\KPs X.K W.bad a c e/\Q c) X.xe s
section
variable{X:Cx}{pos:Pos}
def RO:Ro->(List (yar×D)->Prop)->Prop:=λ_ Q=>Q []
def Ph(b c:DE)(t:Ro->(List (yar×D)->Prop)->Prop):Ro->(List (yar×D)->Prop)->Prop:=λa Q=>b a λk=>∃b,k=.tup b/\c a λv=>t a λr=>Q ((b,v)::r)
inductive KPi (H:Hp):List (List Key×Int)->List (Value×Value)->Prop
 |nil:KPi H [] []
 |cons {b:Addr} {k:List Key} {n:Int} {u:Value} {ds:List (List Key×Int)} {ws:List (Value×Value)} (hb:H b=some (.tup (k.map kV))) (r:RelV (.int n) u) (t:KPi H ds ws):KPi H ((k,n)::ds) ((.ref b,u)::ws)
def Mi(i:Nat)(t:Ro->(List (yar×D)->Prop)->Prop):DS:=λE c=>t c λb=>∃a:List (List Key×Int),b=a.map (λb=>(b.1.map jy,D.int b.2))/\#[a]<=15/\(a.map (·.1)).Nodup/\E.nx (c.set i (some (.ob (.dt (a.map λb=>(b.1,D.int b.2))))))
def Mc (g:X.calm=true):c7 X (.builtin "max") (λb Q=>(∃i j:Int,b=[.int i,.int j]/\Q (.int (max i j)))∨∃ (t:Bool) (ns:yaf),b=[.lst t (ns.map D.int)]/\0<#[ns]/\∀m,m∈ns->(∀n∈ns,n<=m)->Q (.int m)):=by
 intro a s d H W b h k Q I l r c q;rcases q with⟨i,j,e,q⟩| ⟨t,ns,e,f,q⟩;calc OD g a s d H W b h k Q I l r c ⟨i,j,e,q⟩;subst e;let⟨v,rfl,b⟩:=jQ c;let⟨a,o,c,_,e,d⟩:=b.Xd;subst c;cases r with
 |cons c b =>
  cases b;cases c;let⟨TV,b,c,_⟩:=I.list e;rw[eI d]at b;let d:=intsAre_of b;let⟨b,e⟩:=d.allInts.items;let h:s.heap.IsList a (intItems b):=by rw[<- e];exact c.isList
  let c:ns=b.toList.map (·.1):=by rw[<- d.numsOf,<- nums_intItems,<- e]
  let a:0<b.size:=by rw[c,T4,YO]at f;exact f
  refine max_intList (I.ok.hd g) h a λy w u a kp=>?_
  let⟨p,rfl⟩:=intItems_at a;let⟨x,e⟩:=argBest_gt (numAt b) (b.size - 1);let d:∀j,j<b.size->b.toList.map (·.1) ≠ []->numAt b j∈ns:=λj a _=>by
   rw[c,numAt_eq];have:(b.toList.map (·.1))[j]?=some ((b.toList.map (·.1)).getD j 0):=by simp[a]
   exact Xf this
  calc⟨.int _,H,_,I.kept kp,⟨_,rfl⟩,au.refl H,Den.int _,q _ (d _ (by omega) (by rw[<- c];calc zDK f)) λn d=>?_⟩;rw[c]at d;let⟨j,a,c⟩:=zAx d;have:numAt b j=n:=by rw[numAt_eq,<- c];simp only[Yu,Wc a,zDD]
  rw[<- this];rw[T4,YO]at a;calc e j (by omega)
end
end PD
namespace PZ
open PySem PySem.Spec PyProof.Rows
abbrev K6 (h:Heap) (T:Addr) (a b c:Value):Prop:=h.get? T=some {cls:=.type "tuple", data:=.seq #[a,b,c]}
structure Ap3(z TI TO i1 i2 i3:Addr):Prop where
 a1:TI≠z
 a2:TO≠z
 a3:i1≠z
 a4:i2≠z
 a5:i3≠z
 b1:TI≠TO
 b2:TI≠i1
 b3:TI≠i2
 b4:TI≠i3
 c1:TO≠i1
 c2:TO≠i2
 c3:TO≠i3
 d1:i1≠i2
 d2:i1≠i3
 d3:i2≠i3
structure TC(z TO i1 i2 i3 l:Addr):Prop where
 c1:l≠z
 c2:l≠TO
 c3:l≠i1
 c4:l≠i2
 c5:l≠i3
structure TH(z TI TO i1 i2 i3 l1 l2 l3:Addr)(i:Nat)(h:Heap):Prop where
 z:IsZip h z TI TO .none
 ti:K6 h TI (.ref i1) (.ref i2) (.ref i3)
 to:∃a b c,K6 h TO a b c
 s1:Ym true h i1 l1 i
 s2:Ym true h i2 l2 i
 s3:Ym true h i3 l3 i
end PZ
namespace PD
open PySem PySem.Spec PyProof.Rows L2 PZ
section
variable{X:Cx}
noncomputable def XI(xs ys zs:yar):yar:=List.zipWith (λf z=>f z) (List.zipWith (λx y z=>D.tup [x,y,z]) xs ys) zs
def RK(b:DA):DA:=λa R=>b a λg=>∃f e d a c b,g=[.lst f a,.lst e c,.lst d b]/\#[c]=#[a]/\#[b]=#[a]/\R (XI a c b)
end
open PySem PySem.Spec PyProof.Rows L2
section
variable{X:Cx}{pos:Pos}
def Mh(i c:Nat)(e:DT):DS:=λE b=>∃a,b[i]?=some (some (.own a))/\a ≠ []/\(∀d∈a,e (b.set c (some (.val d))) λk=>k=false)/\∀d∈a,E.nx (b.set c (some (.val d)))
end
end PD
namespace ST
open PySem PySem.SetTable
def S:Nat->Nat
 |0=>0
 |n+1=>5*S n+1
theorem uR:∀n,5 ^ n=4*S n+1
 |0=>rfl
 |n+1=>by rw[zCT,uR n];show _=4*(5*S n+1)+1;lia
theorem ER(m:Nat):∀n,S (n+m)=5 ^ m*S n+S m
 |0=>by simp[S]
 |n+1=>by rw[show n+1+m=(n+m)+1 by lia];show 5*S (n+m)+1=5 ^ m*(5*S n+1)+S m;rw[ER m n,uR m];grind
theorem K7:∀k,∃o,S (2 ^ k)=2 ^ k*(2*o+1)
 |0=>⟨0,rfl⟩
 |k+1=>by let⟨o,e⟩:=K7 k;calc⟨o+(2*o+1)*(2 ^ k*(2*o+1)),?_⟩;rw[show 2 ^ (k+1)=2 ^ k+2 ^ k by rw[zCT];lia,ER,uR,e];grind
theorem round:∀(k x e:Nat),e<2 ^ k->∃n,n<2 ^ k/\(5 ^ n*x+S n) % 2 ^ k=e
 |0,x,e,h=>⟨0,23,33⟩
 |k+1,x,e,h=>by
  let⟨n,g,q⟩:=round k x (e % 2 ^ k) (zCQ _ (Nat.two_pow_pos k));let⟨o,b⟩:=K7 k;let f:=Nat.two_pow_pos k;let a:2 ^ (k+1)=2*2 ^ k:=33
  generalize hv:5 ^ n*x+S n=v at q;let Za:5 ^ (n+2 ^ k)*x+S (n+2 ^ k)=v+2 ^ k+2 ^ (k+1)*(o+2*(2*o+1)*v):=by rw[ER,Nat.pow_add,uR (2 ^ k),b,a,<- hv];grind
  generalize 2 ^ k=p at *;rw[a]at h ⊢;by_cases z:v % (2*p)=e;calc⟨n,33,by rw[hv];calc z⟩;calc⟨n+p,33,?_⟩;rw[Za,a,Nat.add_mul_mod_self_left];let i:v % (2*p) % p=v % p:=Nat.mod_mul_left_mod v 2 p;let d:v % (2*p)<2*p:=zCQ _ 33;rw[Nat.add_mod,ZO (show p<2*p by lia)];generalize v % (2*p)=u at *;let a:u=u % p∨u=u % p+p:=by
   by_cases c:u<p
   left;rw[ZO c]
   right
   have:u % p=u - p:=by rw[Nat.mod_eq_sub_mod 33,ZO 33]
   lia
  let b:e=e % p∨e=e % p+p:=by
   by_cases c:e<p
   left;rw[ZO c]
   right
   have:e % p=e - p:=by rw[Nat.mod_eq_sub_mod 33,ZO 33]
   lia
  obtain a|a:=a<;>obtain b|b:=b
  lia
  rw[ZO 33];lia;rw[Nat.mod_eq_sub_mod 33,ZO 33];lia
  lia
noncomputable def runs(mask:Nat):Nat->Nat->Nat->yag
 |0,_,_=>[]
 |c+1,i,a=>List.range' i (runEnd mask i+1 - i)++runs mask c (leap mask i a).1 (leap mask i a).2
theorem qC(mask c i pt:Nat):runs mask (c+1) i pt=List.range' i (runEnd mask i+1 - i)++runs mask c (leap mask i pt).1 (leap mask i pt).2:=rfl
def cI(mask:Nat)(h:Int):yag:=runs mask (turns mask) (bits h % (mask+1)) (bits h)
theorem ji{mask i:Nat}(h:i<=mask):i<=runEnd mask i/\runEnd mask i<=mask/\runEnd mask i<=i+9:=by ext runEnd;split<;>lia
def rM(mask i pt:Nat):(leap mask i pt).1<=mask:=by
 have:(leap mask i pt).1<mask+1:=zCQ _ 47
 lia
theorem El{mask:Nat}:∀{c i pt:Nat},i<=mask->∀x∈runs mask c i pt,x<=mask
 |0,_,_,_,x,h=>by cases h
 |c+1,i,pt,a,x,h=>by
  obtain z|z:=VS.mp h;grind [List.mem_range'_1,ji];calc El (rM _ _ _) x z
theorem BR{mask:Nat}:∀{c i pt:Nat},i<=mask->#[runs mask c i pt]<=10*c
 |0,_,_,_=>VY _
 |c+1,i,pt,a=>by let ih:=BR (c:=c) (pt:=(leap mask i pt).2) (rM mask i pt);have:=ji a;ext runs;grind
def cU(mask:Nat):Nat->Nat×Nat->Nat×Nat
 |0,p=>p
 |n+1,p=>cU mask n (leap mask p.1 p.2)
theorem vV{mask:Nat}:∀{n c i pt:Nat},∀x∈runs mask c (cU mask n (i,pt)).1 (cU mask n (i,pt)).2,x∈runs mask (n+c) i pt
 |0,c,i,pt,x,h=>by rw[zCU];calc h
 |n+1,c,i,pt,x,h=>by have:=vV (n:=n) (c:=c) (i:=(leap mask i pt).1) (pt:=(leap mask i pt).2) x h;rw[show n+1+c=(n+c)+1 by lia];calc XF _ this
def Iu{mask c i:Nat}(h:i<=mask):i∈runs mask (c+1) i pt:=by calc Zo _ ?_;grind [List.mem_range'_1,ji]
theorem Bi(mask:Nat):∀(n:Nat) (p:Nat×Nat),(cU mask n p).2=p.2 / 32 ^ n
 |0,p=>by simp[cU]
 |n+1,p=>by show(cU mask n (leap mask p.1 p.2)).2=_;rw[Bi mask n];show p.2 / 32 / 32 ^ n=_;rw[Nat.div_div_eq_div_mul,zCT,Nat.mul_comm]
theorem vG{mask k:Nat}(a:mask+1=2 ^ k):∀(n i:Nat),i<=mask->(cU mask n (i,0)).1=(5 ^ n*i+S n) % 2 ^ k
 |0,i,h=>by rw[Nat.pow_zero,Nat.one_mul];show i=(i+0) % 2 ^ k;rw[Nat.add_zero,ZO 33]
 |n+1,i,h=>by
  let e:leap mask i 0=((i*5+1) % (mask+1),0):=by ext leap;simp
  show(cU mask n (leap mask i 0)).1=_;rw[e,vG a n _ (by have:=zCQ (i*5+1) (show 0<mask+1 by lia);lia),a];let a:(5 ^ n*((i*5+1) % 2 ^ k)+S n) % 2 ^ k=(5 ^ n*(i*5+1)+S n) % 2 ^ k:=by rw[Nat.add_mod,Nat.mul_mod,Nat.mod_mod,<- Nat.mul_mod,<- Nat.add_mod]
  rw[a,zCT];congr 1;show _=5 ^ n*5*i+(5*S n+1);have:=uR n;grind
theorem yS(mask:Nat):∀(m n:Nat) (p:Nat×Nat),cU mask (m+n) p=cU mask n (cU mask m p)
 |0,n,p=>by rw[zCU];rfl
 |m+1,n,p=>by rw[show m+1+n=(m+n)+1 by lia];calc yS mask m n _
theorem Bh(mask:Nat):∀(n:Nat) (p:Nat×Nat),p.1<=mask->(cU mask n p).1<=mask
 |0,_,h=>h
 |n+1,p,_=>Bh mask n _ (rM _ _ _)
theorem cover{mask k:Nat}(c:mask+1=2 ^ k)(h:Int){e:Nat}(f:e<=mask):e∈cI mask h:=by
 let g:bits h<2 ^ 64:=by
  ext bits
  lia
 let a:bits h % (mask+1)<=mask:=by have:=zCQ (bits h) (show 0<mask+1 by lia);lia
 generalize hp:(bits h % (mask+1),bits h)=p;let b:p.1<=mask:=by rw[<- hp];exact a
 let z:(cU mask 13 p).2=0:=by
  rw[Bi,<- hp]
  lia
 let a:=Bh mask 13 p b;let⟨n,d,b⟩:=round k (cU mask 13 p).1 e 33;let j:(cU mask (13+n) p).1=e:=by rw[yS];have:cU mask 13 p=((cU mask 13 p).1,0):=ZR rfl z;rw[this,vG c n _ a];exact b
 have:=vV (mask:=mask) (n:=13+n) (c:=(mask - n)+2) (i:=bits h % (mask+1)) (pt:=bits h) e (by simp_all [Iu])
 ext cI turns;grind
def ju(xs:yao):Prop:=∀a b:Nat,a<b->b<xs.size->xs.getD a 0<xs.getD b 0
theorem tI{j:Nat}(c:ju xs):∀(fuel lo b:Nat),lo<=b->b<=xs.size->b - lo<=fuel->(∀a,a<lo->xs.getD a 0<j)->(∀a,b<=a->a<xs.size->j<=xs.getD a 0) →
  (below.go xs j fuel lo b<=xs.size)/\(∀a,a<below.go xs j fuel lo b->xs.getD a 0<j)/\∀a,below.go xs j fuel lo b<=a->a<xs.size->j<=xs.getD a 0
 |0,lo,b,h,g,e,f,d=>by
  have:lo=b:=by omega
  subst this;calc⟨g,f,d⟩
 |fuel+1,lo,b,h,g,e,f,d=>by
  ext below.go;by_cases h:lo<b;rw[TU h];let k:(lo+b) / 2<b/\lo<=(lo+b) / 2:=by omega
  let e:xs.getD ((lo+b) / 2) j=xs.getD ((lo+b) / 2) 0:=by
   have:(lo+b) / 2<xs.size:=by omega
   simp[Array.getD,this]
  simp only[e];split;rename_i z;calc tI c fuel _ b (by omega) g (by omega) (λa i=>?_) d;by_cases e:a=(lo+b) / 2;rw[e];calc z;calc Nat.lt_trans (c a ((lo+b) / 2) (by omega) (by omega)) z;rename_i z;refine tI c fuel lo _ (by omega) (by omega) (by omega) f λa i i=>?_
  by_cases e:a=(lo+b) / 2;rw[e];omega;have:=c ((lo+b) / 2) a (by omega) i;omega;rw[TM h];have:lo=b:=by omega
  subst this;calc⟨g,f,d⟩
def jP(b:ju xs)(j:Nat):below xs j<=xs.size/\(∀a,a<below xs j->xs.getD a 0<j)/\∀a,below xs j<=a->a<xs.size->j<=xs.getD a 0 :=
 tI b xs.size 0 xs.size 33 33 33 33 33
def dS{xs:yao}{a x:Nat}(h:xs[a]?=some x):xs.getD a 0=x/\a<xs.size:=by
 let⟨l,e⟩:=zDE.mp h
 cbv
def vq{xs:yao}{a:Nat}(h:a<xs.size):xs[a]?=some (xs.getD a 0):=47
def below_at(b:ju xs){a j:Nat}(h:xs[a]?=some j):below xs j=a:=by
 let⟨e,l⟩:=dS h;let⟨i,d,c⟩:=jP b j;let g:¬a<below xs j:=λz=>by have:=d a z;omega
 let f:¬below xs j<a:=λz=>by have:=c (below xs j) (VY _) (by omega);have:=b _ a z l;omega
 omega
def y6{t:SetTable}(b:ju t.place){a j:Nat}(h:t.place[a]?=some j):t.slot j=.live a:=by ext SetTable.slot;rw[below_at b h];simp[h]
def FP{t:SetTable}(a:ju t.place)(b:t.dummies=#[]){j:Nat}(h:j∉t.place.toList):t.slot j=.empty:=by
 let n:¬((t.place[below t.place j]?==some j)=true):=58
 ext SetTable.slot;have:has #[] j=false:=by ext has;simp
 cbv
def ahead(mask:Nat)(c:Nat)(p:Probe):yag:=List.range' p.j (p.more+1)++runs mask c (leap mask p.i p.perturb).1 (leap mask p.i p.perturb).2
def Cs(t:SetTable)(h:Int):∃c,cI t.mask h=ahead t.mask c (t.probeStart h):=by
 calc⟨t.mask+14,?_⟩;ext cI ahead turns probeStart;rw[qC];let a:bits h % (t.mask+1)<=t.mask:=by have:=zCQ (bits h) (show 0<t.mask+1 by lia);lia
 have:=ji a;rw[show runEnd t.mask (bits h % (t.mask+1))+1 - bits h % (t.mask+1)=runEnd t.mask (bits h % (t.mask+1)) - bits h % (t.mask+1)+1 by lia]
def ET(t:SetTable){x:Nat}{r:yag}(e:ahead t.mask c p=x::r):p.j=x/\(r=[]∨∃ a,r=ahead t.mask a (t.advance p)):=by
 unfold ahead at e;rw[List.range'_succ,zBQ]at e;let⟨b,a⟩:=List.cons.inj e;calc⟨b,?_⟩;ext SetTable.advance;by_cases b:p.more > 0
 right
 calc⟨c,?_⟩;rw[TU b,<- a];ext ahead;simp only;rw[show p.more - 1+1=p.more by lia];let d:p.more=0:=33
 rw[d]at a;simp only[List.range'_zero,zBv]at a;cases c with
 |zero=>left;rw[<- a];rfl
 |succ c =>
  right
  calc⟨c,?_⟩;rw[TM b,<- a];let a:=rM t.mask p.i p.perturb;have:=ji a;ext ahead;rw[qC];simp only;rw[show runEnd t.mask (leap t.mask p.i p.perturb).1+1 - (leap t.mask p.i p.perturb).1=runEnd t.mask (leap t.mask p.i p.perturb).1 - (leap t.mask p.i p.perturb).1+1 by lia]
theorem BH{t:SetTable}(s:ju t.place)(E:t.dummies=#[])(hashAt:Nat->Int)(h:Int):∀(l:yag) (g c:Nat) (p:Probe),ahead t.mask c p=l->#[l]<=g->(∃x∈l,x∉t.place.toList)->p.dummy=none →
  (∃f j d,l=f++j::d/\(∀x∈f,∃a,t.place[a]?=some x/\hashAt a≠h)/\j∉t.place.toList/\probe.go t hashAt h g p=some (.empty j none)) ∨
  ∃ f j d a q k,l=f++j::d/\(∀x∈f,∃a,t.place[a]?=some x/\hashAt a≠h)/\t.place[a]?=some j/\hashAt a=h/\d=ahead t.mask k q/\q.dummy=none/\probe.go t hashAt h g p=some (.candidate j a q)
 |[],_,_,_,_,_,I,_=>47
 |x::r,0,_,_,_,C,_,_=>by simp at C
 |x::r,g+1,c,p,e,C,I,m=>by
  let⟨L,Y⟩:=ET t e;subst L;ext probe.go;by_cases i:p.j∈t.place.toList
  ·let⟨a,J,ea⟩:=zAx i;let u:t.place[a]?=some p.j:=by
    grind
   rw[y6 s u];let U:∃x∈r,x∉t.place.toList:=58
   let w:∃k,r=ahead t.mask k (t.advance p):=58
   let n:(t.advance p).dummy=none:=by ext SetTable.advance;split<;>exact m
   let⟨k,G⟩:=w;simp only;by_cases hh:hashAt a=h
   right
   rw[TU 33];exact⟨[],p.j,r,a,t.advance p,k,rfl,52,u,hh,G,n,rfl⟩
   ·rw[TM 33];let good:∃a,t.place[a]?=some p.j/\hashAt a≠h:=⟨a,u,hh⟩;rcases BH s E hashAt h r g k (t.advance p) G.symm 47 U n with⟨f,j,d,H,Q,B,A⟩| ⟨f,j,d,b,q,T,H,Q,B,A,O,N,M⟩
    ·left
     calc⟨p.j::f,j,d,58,λy o=>?_,B,A⟩;obtain z|z:=VC.mp o
     all_goals cbv
    ·right
     calc⟨p.j::f,j,d,b,q,T,by rw[H];rfl,λy o=>?_,B,A,O,N,M⟩;obtain z|z:=VC.mp o
     all_goals cbv
  left
  rw[FP s E i];calc⟨[],p.j,r,rfl,52,i,by simp[m]⟩
structure Tab(t:SetTable)(hs:yaf):Prop where
 k:∃k,t.mask+1=2 ^ (k+1)
 rise:ju t.place
 le:∀x∈t.place.toList,x<=t.mask
 dum:t.dummies=#[]
 len:t.place.size=#[hs]
 room:t.place.size<=t.mask
 reach:∀(a x:Nat) (h:Int),t.place[a]?=some x->hs[a]?=some h->∃pre post,cI t.mask h=pre++x::post/\∀y∈pre,y∈t.place.toList
theorem Tab.fits(T:Tab t hs):t.fits #[hs]=true:=by
 ext SetTable.fits SetTable.fill;rw[T.dum];simp[T.len];have:=T.len;have:=T.room
 lia
def Tab.stays(T:Tab t hs):t.gaveWay=false:=by
 let⟨k,e⟩:=T.k;ext SetTable.gaveWay
 lia
def KD(d:ju xs){a b x y:Nat}(f:xs[a]?=some x)(e:xs[b]?=some y)(h:x<y):a<b:=by
 let⟨j,c⟩:=dS f;let⟨i,g⟩:=dS e;obtain z|z|z:=zCf a b;exact z
 lia
 have:=d b a z c
 lia
def D6{xs:yao}{x:Nat}(h:x∈xs.toList):∃a:Nat,xs[a]?=some x:=by let⟨a,b,c⟩:=zAx h;calc⟨a,by rw[<- zA1,Wc b,c]⟩
def get_mem{xs:yao}{a x:Nat}(h:xs[a]?=some x):x∈xs.toList:=58
def MC(g:ju xs){mask:Nat}(hs:xs.size<=mask):∃e,e<=mask/\e∉xs.toList:=by
 refine zBB λa=>?_
 let d:∀e,e<=mask->e∈xs.toList:=λe b=>zBB λn=>a ⟨e,b,n⟩
 let f:∀j,j<=mask->∃a,xs[a]?=some j/\j<=a:=by
  intro j
  induction j with
  |zero=>intro h;let⟨a,c⟩:=D6 (d 0 h);calc⟨a,c,Yt _⟩
  |succ j ih =>
   intro h;let⟨a,c,i⟩:=ih 33;let⟨b,e⟩:=D6 (d (j+1) h);have:=KD g c e 33;exact⟨b,e,33⟩
 let⟨a,c,k⟩:=f mask (VY _);have:=(dS c).2
 lia
def Tab.empty(T:Tab t hs)(h:Int):∃x∈cI t.mask h,x∉t.place.toList:=by let⟨e,b,a⟩:=MC T.rise T.room;grind [k,cover]
def wL(mask:Nat)(h:Int):#[cI mask h]<=10*turns mask:=BR (by have:=zCQ (bits h) (show 0<mask+1 by lia);lia)
def rf(mask:Nat)(h:Int):∀x∈cI mask h,x<=mask:=El (by have:=zCQ (bits h) (show 0<mask+1 by lia);lia)
def nN{a:Type}(xs:Array a)(p:Nat)(x:a):(insertAt xs p x).toList=xs.toList.take p++x::xs.toList.drop p:=by
 ext insertAt
 simp_all [zB9,zCC,YO]
def get_ins{b:Type}{l:List b}{p:Nat}(c:p<=#[l])(x:b)(a:Nat):(l.take p++x::l.drop p)[a]?=if a<p then l[a]? else if a=p then some x else l[a - 1]?:=by by_cases h:a<p;rw[TU h,zAo (by rw[zBR];lia),List.getElem?_take,TU h];rw[TM h,zAr (by rw[zBR];lia),zBR,Nat.min_eq_left c];by_cases e:a=p;rw[TU e,e,Nat.sub_self];rfl;rw[TM e,show a - p=(a - p - 1)+1 by lia,List.getElem?_cons_succ,List.getElem?_drop,show p+(a - p - 1)=a - 1 by lia]
theorem Tab.put(T:Tab t hs){j:Nat}{i f:yag}(n:j∉t.place.toList)(hv:cI t.mask h=i++j::f)(w:∀y∈i,y∈t.place.toList)(g:t.place.size+1<=t.mask) :
  Tab (t.put j).1 (hs.take (t.put j).2++h::hs.drop (t.put j).2)/\(t.put j).2<=#[hs]/\(t.put j).1.mask=t.mask/\(t.put j).1.place.size=t.place.size+1:=by
 let b:(t.put j).1.place=insertAt t.place (below t.place j) j:=rfl;let r:(t.put j).2=below t.place j:=rfl;let d:(t.put j).1.mask=t.mask:=rfl;let c:(t.put j).1.dummies=#[]:=by
  show(if has t.dummies j then _ else t.dummies)=_;rw[T.dum];have:has #[] j=false:=by ext has;simp
  rfl
 let⟨a,p,B⟩:=jP T.rise j;let e:below t.place j<=#[t.place.toList]:=by exact a
 let s:below t.place j<=#[hs]:=by rw[<- T.len];exact a
 let o:∀a,(t.put j).1.place[a]?=if a<below t.place j then t.place[a]? else if a=below t.place j then some j else t.place[a - 1]?:=λa=>by rw[b,<- zA1,nN,get_ins e,zA1,zA1]
 let k:(t.put j).1.place.size=t.place.size+1:=by
  rw[b,<- YO,nN,Xh,zBR,ZH,zCC,YO]
  lia
 let m:∀x,x∈(t.put j).1.place.toList↔x=j∨x∈t.place.toList:=λx=>by
  rw[b,nN,VS,VC];constructor;rintro(z|z|z);calc .inr (List.mem_of_mem_take z);calc .inl z;calc .inr (List.mem_of_mem_drop z);rintro(z|z);calc .inr (.inl z);rw[<- zBx (below t.place j) t.place.toList]at z;obtain q|q:=VS.mp z;calc .inl q;exact .inr (.inr q)
 calc⟨⟨T.k,?_,?_,c,?_,by rw[k];calc g,?_⟩,s,d,k⟩;intro a b l c;rw[k]at c;let g:=vq (xs:=(t.put j).1.place) (a:=a) 33;let d:=vq (xs:=(t.put j).1.place) (a:=b) (by rw[k];calc c);rw[o a]at g;rw[o b]at d;let u:∀c,c<t.place.size->t.place.getD c 0≠j:=λc c e=>n (by rw[<- e];calc get_mem (vq c))
 by_cases e:a<below t.place j;rw[TU e]at g;let⟨A,q⟩:=dS g;have:=p a e;by_cases n:b<below t.place j;rw[TU n]at d;let⟨p,c⟩:=dS d;have:=T.rise a b l c
 lia
 rw[TM n]at d;by_cases l:b=below t.place j;rw[TU l]at d;have:=ZI d
 lia
 rw[TM l]at d;let⟨p,c⟩:=dS d;have:=T.rise a (b - 1) 33 c
 lia
 rw[TM e]at g;let n:¬b<below t.place j:=33
 let l:¬b=below t.place j:=33
 rw[TM n,TM l]at d;let⟨p,c⟩:=dS d;by_cases d:a=below t.place j;rw[TU d]at g;have:=ZI g;have:=B (b - 1) 33 c;have:=u (b - 1) c
 lia
 rw[TM d]at g;let⟨A,q⟩:=dS g;have:=T.rise (a - 1) (b - 1) 33 c
 lia
 intro x b;rcases(m x).mp b with z|z;subst z;calc rf t.mask h x (by rw[hv];simp);calc T.le x z;rw[k,r,Xh,zBR,ZH,zCC,<- T.len]
 lia
 intro a x n b hh;rw[o a]at b;rw[r,get_ins s]at hh;let c:∀{l:yag},(∀y∈l,y∈t.place.toList)->∀y∈l,y∈(t.put j).1.place.toList:=λh y g=>(m y).mpr (.inr (h y g))
 by_cases e:a<below t.place j;rw[TU e]at b hh;let⟨l,k,h,g⟩:=T.reach a x n b hh;calc⟨l,k,h,c g⟩;rw[TM e]at b hh;by_cases d:a=below t.place j;rw[TU d]at b hh;cases b;cases hh;calc⟨i,f,hv,c w⟩;rw[TM d]at b hh;let⟨l,k,h,g⟩:=T.reach (a - 1) x n b hh;calc⟨l,k,h,c g⟩
theorem yN(mask:Nat)(owner:Array (Option Nat)):∀(fuel i pt:Nat),layClean.free mask owner fuel i pt=(runs mask fuel i pt).find? λy=>(owner.getD y (some 0)).isNone
 |0,_,_=>rfl
 |fuel+1,i,pt=>by
  rw[qC,List.find?_append,List.range'_eq_map_range,List.find?_map];ext layClean.free;let ih:=yN mask owner fuel (leap mask i pt).1 (leap mask i pt).2;let a:((λy=>(owner.getD y (some 0)).isNone)∘λx=>i+x)=λk=>(owner.getD (i+k) (some 0)).isNone:=rfl
  grind
structure Ow(mask:Nat)(hs:yaf)(owner:Array (Option Nat)):Prop where
 size:owner.size=mask+1
 cnt:#[owner.toList.filter Option.isSome]=#[hs]
 at_:∀(i:Nat) (h:Int),hs[i]?=some h->∃j:Nat,owner[j]?=some (some i)/\∃pre post,cI mask h=pre++j::post/\∀y∈pre,∃q,owner[y]?=some (some q)
 lt:∀j i:Nat,owner[j]?=some (some i)->i<#[hs]
 inj:∀j j' i:Nat,owner[j]?=some (some i)->owner[j']?=some (some i)->j=j'
theorem vj{a:Type}{p:a->Bool}:∀{l:List a} {x:a},l.find? p=some x->∃c b,l=c++x::b/\p x=true/\∀y∈c,p y=false
 |[],_,h=>by cases h
 |a::r,x,h=>by
  rw[List.find?_cons]at h;cases pa:p a with
  |true=>rw[pa]at h;cases h;calc⟨[],r,rfl,pa,52⟩
  |false =>
   rw[pa]at h;let⟨c,b,e,d,f⟩:=vj h;calc⟨a::c,b,47,d,λy g=>?_⟩;grind
theorem vi{c:Type}{p:c->Bool}:∀{l:List c} {j:Nat} {a b:c},l[j]?=some a->p a=false->p b=true->#[(l.set j b).filter p]=#[l.filter p]+1
 |[],_,_,_,h,_,_=>by simp at h
 |x::r,0,a,b,h,d,c=>58
 |x::r,j+1,a,b,h,d,c=>by
  let ih:=vi (l:=r) (j:=j) 47 d c;by_cases c:p x=true
  all_goals cbv
def Ow.step{mask k:Nat}(g:mask+1=2 ^ k){hs:yaf}{owner:Array (Option Nat)}(O:Ow mask hs owner)(w:#[hs]<=mask)(h:Int) :
  ∃ j,layClean.free mask owner (turns mask) (bits h % (mask+1)) (bits h)=some j/\Ow mask (hs++[h]) (owner.setIfInBounds j (some #[hs])):=by
 let i:∃e:Nat,e<=mask/\owner[e]?=some none:=by
  refine zBB λd=>?_
  let b:∀x∈owner.toList,Option.isSome x=true:=λx f=>by
   let⟨e,c,a⟩:=zAx f;rw[YO,O.size]at c;cases x with
   |some _=>rfl
   |none=>exact absurd ⟨e,33,by rw[<- zA1,Wc (by rw[YO,O.size];calc c),a]⟩ d
  have:=O.cnt;rw[YQ.mpr b,YO,O.size]at this
  lia
 let f:∀y,y<=mask->((owner.getD y (some 0)).isNone=true↔owner[y]?=some none):=λy b=>by
  let l:y<owner.size:=by rw[O.size];lia
  simp[Array.getD,l]
 let⟨e,c,a⟩:=i;let d:((cI mask h).find? λy=>(owner.getD y (some 0)).isNone).isSome=true:=by rw[List.find?_isSome];exact⟨e,cover g h c,(f e c).mpr a⟩
 let⟨j,a⟩:=Option.isSome_iff_exists.mp d;let⟨k,e,l,c,o⟩:=vj a;let d:j<=mask:=rf mask h j (by rw[l];simp);let i:=(f j d).mp c;let d:j<owner.size:=by rw[O.size];lia
 calc⟨j,by rw[yN];calc a,?_⟩;let g:∀y:Nat,(owner.setIfInBounds j (some #[hs]))[y]?=if j=y then some (some #[hs])else owner[y]?:=λy=>by rw[Array.getElem?_setIfInBounds];by_cases c:j=y;rw[TU c,TU c,TU d];rw[TM c,TM c]
 let d:∀(y q:Nat),owner[y]?=some (some q)->(owner.setIfInBounds j (some #[hs]))[y]?=some (some q):=λy q b=>by rw[g,TM (λc=>by subst c;rw[i]at b;cases b)];exact b
 calc⟨by rw[Array.size_setIfInBounds];calc O.size,?_,?_,?_,?_⟩;rw[Array.toList_setIfInBounds,vi (a:=none) (by rw[zA1];calc i) rfl rfl,O.cnt,Xh];rfl;intro i u a;by_cases c:i<#[hs];rw[zAo c]at a;let⟨t,s,r,p,n,m⟩:=O.at_ i u a;calc⟨t,d _ _ s,r,p,n,λy b=>let ⟨q,z⟩:=m y b;⟨q,d _ _ z⟩⟩;let m:i=#[hs]:=by
  have:=(Zn.mp a).1;simp at this
  lia
 subst m;simp at a;subst a;calc⟨j,by rw[g,TU rfl],k,e,l,λy b=>?_⟩;let k:y<=mask:=rf mask h y (by rw[l];simp[b]);let e:=o y b;let a:y<owner.size:=by rw[O.size];lia
 cases oy:owner[y]with
 |none =>
  have:=(f y k).mpr (by rw[zBI a,oy]);rw[this]at e;cases e
 |some q=>exact⟨q,d y q (by rw[zBI a,oy])⟩
 intro y i b;rw[g]at b;by_cases c:j=y;rw[TU c]at b;cases b;simp;rw[TM c]at b;have:=O.lt y i b;simp
 lia
 intro y d i b a;rw[g]at b a;by_cases c:j=y<;>by_cases e:j=d
 lia
 rw[TU c]at b;rw[TM e]at a;cases b;have:=O.lt d _ a
 lia
 rw[TM c]at b;rw[TU e]at a;cases a;have:=O.lt y _ b
 lia
 rw[TM c]at b;rw[TM e]at a;calc O.inj y d i b a
theorem Bg{mask k:Nat}(c:mask+1=2 ^ k):∀(rest hs:yaf) (owner:Array (Option Nat)),Ow mask hs owner->#[hs]+#[rest]<=mask+1 →
  ∃ a,rest.foldl (λ(b:Option (Array (Option Nat)×Nat)) h=>do
   let (owner,k)←b
   let j←layClean.free mask owner (turns mask) (bits h % (mask+1)) (bits h)
   pure (owner.setIfInBounds j (some k),k+1)) (some (owner,#[hs]))=some (a,#[hs++rest])/\Ow mask (hs++rest) a
 |[],hs,owner,O,_=>⟨owner,52,by rw[zBd];calc O⟩
 |h::r,hs,owner,O,a=>by
  rw[ZH]at a;let⟨j,b,e⟩:=O.step c 33 h;let⟨a,d,Q⟩:=Bg c r (hs++[h]) _ e (by rw[Xh];simp;lia);calc⟨a,?_,by rw[zBM]at Q;calc Q⟩;rw[List.foldl_cons];have:(do
   let (owner,k)←(some (owner,#[hs]):Option (Array (Option Nat)×Nat))
   let j←layClean.free mask owner (turns mask) (bits h % (mask+1)) (bits h)
   pure (owner.setIfInBounds j (some k),k+1))=some (owner.setIfInBounds j (some #[hs]),#[hs++[h]]):=by
   show(layClean.free mask owner (turns mask) (bits h % (mask+1)) (bits h) >>= _)=_;rw[b];simp
  rw[this,d];simp
def CG{mask k:Nat}(b:mask+1=2 ^ k)(a:Array Int)(d:a.size<=mask+1):∃owner,layClean mask a=some owner/\Ow mask a.toList owner:=by
 let O:Ow mask [] (Array.replicate (mask+1) none):=by
  refine⟨52,52,52,λj i h=>?_,λj c i h _=>?_⟩
  all_goals simp_all [Array.getElem?_replicate]
 let⟨o,e,Q⟩:=Bg b a.toList [] _ O 47;ext layClean;grind
def live(mask:Nat)(owner:Array (Option Nat)):List (Nat×Nat):=(List.range (mask+1)).filterMap λj=>(owner.getD j none).map (j,·)
def iB{mask:Nat}{hs:yaf}{owner:Array (Option Nat)}(O:Ow mask hs owner){j i:Nat}:(j,i)∈live mask owner↔owner[j]?=some (some i):=by
 ext live;rw[zCR];constructor;rintro⟨y,a,e⟩;rw[List.mem_range]at a;let⟨q,c,b⟩:=zA8.mp e;cases b;let l:j<owner.size:=by rw[O.size];exact a
 cbv
 intro h;let⟨l,e⟩:=zDE.mp h;refine⟨j,by rw[List.mem_range,<- O.size];calc l,?_⟩
 cbv
def tX(mask:Nat)(owner:Array (Option Nat)):(live mask owner).map (·.1)=(List.range (mask+1)).filter λj=>(owner.getD j none).isSome:=by
 ext live
 induction List.range (mask+1)with
 |nil=>rfl
 |cons a r ih =>
  cases e:owner.getD a none with
  |none=>rw[List.filterMap_cons_none (by rw[e];rfl),List.filter_cons_of_neg (by simp[e]),ih]
  |some q=>rw[zCo (by rw[e];rfl),List.filter_cons_of_pos (by simp[e]),Ya,ih]
def J4{mask:Nat}{hs:yaf}{owner:Array (Option Nat)}(O:Ow mask hs owner):#[live mask owner]=#[hs]:=by
 let b:#[live mask owner]=#[(live mask owner).map (·.1)]:=52
 let a:owner.toList=(List.range (mask+1)).map λj=>owner.getD j none:=by
  apply List.ext_getElem?;intro j;rw[WA,zA1];by_cases c:j<mask+1;let l:j<owner.size:=by rw[O.size];exact c
  cbv
  rw[zCF 47,Array.getElem?_eq_none (by rw[O.size];lia)];rfl
 rw[b,tX,<- O.cnt,a,List.filter_map,T4];rfl
def yU(mask:Nat)(owner:Array (Option Nat)):((live mask owner).map (·.1)).Pairwise (·<·):=by rw[tX];calc List.Pairwise.filter _ List.pairwise_lt_range
def NK{l:yag}(h:l.Pairwise (·<·)):ju l.toArray:=by
 intro a b d e;let c:b<#[l]:=47
 have:=zBC.mp h a b 33 c d;simp[Array.getD,show a<#[l] by lia,c];calc this
def MT{mask k:Nat}(Q:mask+1=2 ^ (k+1))(finger moves:Nat)(led plain:Bool){V:Type}(es:Array (Int×V))(E:es.size<=mask) :
  ∃ t c,laid mask finger moves led plain (es.map (·.1))=some (t,c)/\t.mask=mask/\t.led=led/\t.plain=plain ∧
   ∃ d:List (Int×V),(c.filterMap (es[·]?)).toList=d/\#[d]=es.size/\Tab t (d.map (·.1))/\t.place.size=es.size ∧
    (∀(a:Nat) (e:Int×V),d[a]?=some e->∃i:Nat,c[a]?=some i/\es[i]?=some e)/\(∀i:Nat,i<es.size->∃a:Nat,c[a]?=some i)/\∀(a b i:Nat),c[a]?=some i->c[b]?=some i->a=b:=by
 let⟨c,eo,O⟩:=CG Q (es.map (·.1)) (by rw[Array.size_map];lia);let f:(es.map (·.1)).toList.length=es.size:=52
 calc⟨{mask,place:=((live mask c).map (·.1)).toArray,dummies:=#[],finger,led,moves,plain},((live mask c).map (·.2)).toArray,by ext laid;rw[eo];rfl,rfl,rfl,rfl,?_⟩;let C:=J4 O;rw[f]at C;let B:∀p∈live mask c,p.2<es.size:=λp hp=>by have:=O.lt p.1 p.2 ((iB O).mp hp);rw[f]at this;exact this
 let m:∀l:List (Nat×Nat),(∀p∈l,p.2<es.size)->(((l.map (·.2)).filterMap λi=>es[i]?).map some)=l.map λp=>es[p.2]?:=λl E=>by
  induction l with
  |nil=>rfl
  |cons p r ih =>
   let o:=E p 52;rw[Ya,zCo (zBI o),Ya,Ya,ih λq d=>E q (by simp[d]),zBI o]
 let T:∀a:Nat,((((live mask c).map (·.2)).filterMap λi=>es[i]?)[a]?).map some=((live mask c)[a]?).map λp=>es[p.2]?:=λa=>by have:=congrArg (λl=>l[a]?) (m _ B);simp only[WA]at this;exact this
 calc⟨((live mask c).map (·.2)).filterMap λi=>es[i]?,52,?_,?_,?_,?_,?_,?_⟩;have:=congrArg List.length (m _ B);rw[T4,T4]at this;rw[this,C];calc⟨⟨k,Q⟩,NK (yU mask c),?_,rfl,?_,?_,?_⟩;intro x L;let G:x∈(live mask c).map (·.1):=by simpa using L
 rw[tX,ZP,List.mem_range]at G;show x<=mask
 lia
 have:=congrArg List.length (m _ B);rw[T4,T4]at this;rw[Yw,T4,T4,this];rw[Yw,T4,C];calc E;intro a x h L hh;let G:((live mask c).map (·.1))[a]?=some x:=by simpa using L
 rw[WA]at G;let⟨p,d,N⟩:=zA8.mp G;let g:=T a;rw[d]at g;let o:=B p (Xf d);rw[WA]at hh;let⟨e,ee,eh⟩:=zA8.mp hh;rw[ee,Option.map_some,Option.map_some,zBI o]at g;let M:=ZI (ZI g);let⟨j',o',H,n,ev,q⟩:=O.at_ p.2 h (by rw[<- eh,M,<- zA1]at *;rw[zA1,Array.getElem?_map,zBI o];rfl)
 let I:=(iB O).mp (show(p.1,p.2)∈live mask c from Xf d);have:=O.inj j' p.1 p.2 o' I;subst this;subst N;calc⟨H,n,ev,λy hy=>?_⟩;let⟨z,hz⟩:=q y hy;simp only[UQ];calc⟨(y,z),(iB O).mpr hz,rfl⟩;rw[Yw,T4,C];intro a e he;let g:=T a;rw[he]at g;cases d:(live mask c)[a]? with
 |none=>rw[d]at g;cases g
 |some p =>
  rw[d]at g;exact⟨p.2,by simp[d],(ZI g).symm⟩
 intro i hi;obtain⟨h,hh⟩:∃h,(es.map (·.1)).toList[i]?=some h:=⟨_,Wc (by rw[f];calc hi)⟩;let⟨j,I,_⟩:=O.at_ i h hh;let⟨a,J,ea⟩:=zAx ((iB O).mpr I);calc⟨a,by simp[Wc J,ea]⟩;intro a b i ha hb;let A:((live mask c).map (·.2))[a]?=some i:=by simpa using ha
 let w:((live mask c).map (·.2))[b]?=some i:=by simpa using hb
 rw[WA]at A w;let⟨p,d,N⟩:=zA8.mp A;let⟨q,U,e2⟩:=zA8.mp w;let o1:=(iB O).mp (show(p.1,p.2)∈live mask c from Xf d);let Y:=(iB O).mp (show(q.1,q.2)∈live mask c from Xf U);let ej:=O.inj p.1 q.1 i (by rw[<- N];calc o1) (by rw[<- e2];calc Y);let r:=yU mask c;let J:=(Zn.mp d);let lb:=(Zn.mp U);let⟨u,t⟩:=J;let⟨s,j⟩:=lb;obtain z|z|z:=zCf a b;have:=zBC.mp r a b (by rw[T4];calc u) (by rw[T4];calc s) z;rw[zBF,zBF,t,j]at this
 lia
 calc z;have:=zBC.mp r b a (by rw[T4];calc s) (by rw[T4];calc u) z;rw[zBF,zBF,t,j]at this
 lia
theorem Ah:∀(fuel a n:Nat),n<a*2 ^ fuel->∃m,sizeAbove.go n fuel a=a*2 ^ m/\n<a*2 ^ m
 |0,a,n,h=>⟨0,by simp[sizeAbove.go],h⟩
 |fuel+1,a,n,h=>by
  ext sizeAbove.go;by_cases c:a<=n
  ·let⟨m,d,b⟩:=Ah fuel (a*2) n (by simp_all [zCT,Nat.mul_assoc,Nat.mul_comm]);refine⟨m+1,?_,?_⟩
   all_goals simp_all [zCT,Nat.mul_assoc,Nat.mul_comm]
  rw[TM c];calc⟨0,52,33⟩
def above{n:Nat}(h:n<2 ^ 60):∃k,sizeAbove n - 1+1=2 ^ (k+1)/\n<=sizeAbove n - 1:=by
 let⟨m,a,b⟩:=Ah 64 8 n (XG h 23);let e:sizeAbove n=8*2 ^ m:=a;refine⟨m+2,?_,33⟩
 lia
end ST
namespace SW
open PySem PySem.SetTable ST
section
variable{prog:Program}{w:World}{A:Around}{E:yaa}{s:Shared}
abbrev TK(prog:Program)(w:World):HeapKind prog w (yaf):=tupleKind (intKind prog w)
theorem items_int:∀{ks:yaf} {vs:yad},ItemsAre (intKind prog w) ks vs->∀v∈vs,∃n t,v=Value.int n t
 |_,_,.nil,v,h=>by cases h
 |_,_,.cons h t,v,hv=>by
  obtain z|z:=VC.mp hv;let⟨t,e⟩:=Value.isInt_shape h;grind;calc items_int t v z
def yW{Q:Bool->Shared->Prop}(e:(TK prog w).is s.heap k b)(l:Q false s):wpAny (model prog w) A (ofAClassStatement 8 (.ref b)) Q E s:=by
 let⟨o,a,n,d,h,g,f⟩:=e;ext ofAClassStatement;calc TJ (wpAny_typeOf (T := "tuple") ⟨o,d,h⟩ ?_);calc TJ (T5 ?_);calc TJ (zBL d g ?_);calc TJ ?_;rw[<- Array.forIn_toList];calc wpAny_forIn_list _ (λrest r c=>r.1=none/\c=s/\∀v∈rest,∃n t,v=Value.int n t) _ ?_ ?_ _ _ ⟨rfl,rfl,items_int f⟩;rintro v rest r c ⟨j,rfl,i⟩;let⟨m,t,rfl⟩:=i v 47;exact T5 ⟨rfl,rfl,47⟩
 simp_all [T5]
def Hk{Q:Bool->Shared->Prop}(e:(TK prog w).is s.heap k b)(l:Q true s):wpAny (model prog w) A (hashByValue 8 (.ref b)) Q E s:=by
 let⟨o,a,n,d,h,g,f⟩:=e;calc TJ (zCv (T := "tuple") ⟨o,d,h⟩ F.slot_tuple_hash.lookup ?_);calc TJ (zBL d g ?_);calc TJ ?_;rw[<- Array.forIn_toList];calc wpAny_forIn_list _ (λrest r c=>r.1=none/\c=s/\∀v∈rest,∃n t,v=Value.int n t) _ ?_ ?_ _ _ ⟨rfl,rfl,items_int f⟩;rintro v rest r c ⟨j,rfl,i⟩;let⟨m,t,rfl⟩:=i v 47;exact T5 ⟨rfl,rfl,47⟩
 simp_all [T5]
def FO{vs:yad}{Q:Bool->Shared->Prop}(g:(TK prog w).is s.heap k b)(hv:∀v∈vs,∃e c,v=Value.ref c/\(TK prog w).is s.heap e c)(l:Q false s) :
  wpAny (model prog w) A (searchCouldBeSeen (.ref b) vs) Q E s:=by
 calc TJ (wpAny_forIn_list _ (λrest r f=>r.1=none/\f=s/\∀v∈rest,∃e c,v=Value.ref c/\(TK prog w).is s.heap e c) _ ?_ ?_ _ _ 47);rintro v rest r f ⟨j,rfl,i⟩;let a:∀u∈rest,∃e c,u=Value.ref c/\(TK prog w).is f.heap e c:=47
 let⟨e,c,rfl,h⟩:=i v 47;by_cases d:((b==c) || (carriedByValue (.ref b) && carriedByValue (.ref c)))=true;rw[TU d];calc T5 ⟨rfl,rfl,a⟩;rw[TM d];calc TJ ((TK prog w).quiet g ?_);calc TJ ((TK prog w).quiet h ?_);calc TJ (yW g ?_);calc TJ (yW h ?_);exact T5 ⟨rfl,rfl,a⟩
 simp_all [T5]
theorem sY{o:Obj}{xs:List (yaf×Addr)}{Q:SetFound->Shared->Prop}(hu:A.units<cLine)(hk:(TK prog w).is s.heap k b)
  (ho:s.heap.get? a=some o) (hd:o.data=.set es ep t) (he:es.toList=xs.map λx=>((TK prog w).hash x.1,Value.ref x.2)) (L:∀x∈xs,(TK prog w).is s.heap x.1 x.2) (T:Tab t (xs.map λx=>(TK prog w).hash x.1))
  (hin:k∈xs.map (·.1)->Q (.there none) s) (U:k∉xs.map (·.1)->∀j d f,cI t.mask ((TK prog w).hash k)=d++j::f->(∀y∈d,y∈t.place.toList)->j∉t.place.toList->Q (.free j false) s) :
  ∀ (fuel:Nat) (l done:yag) (c:Nat) (st:Option Probe),ahead t.mask c (st.getD (t.probeStart ((TK prog w).hash k)))=l->cI t.mask ((TK prog w).hash k)=done++l →
   (∀y∈done,∃(i:Nat) (x:yaf×Addr),t.place[i]?=some y/\xs[i]?=some x/\x.1≠k)->#[l]<fuel->(st.getD (t.probeStart ((TK prog w).hash k))).dummy=none->wpAny (model prog w) A (setSearchFrom a (.ref b) ((TK prog w).hash k) true fuel st) Q E s
 |0,_,_,_,_,_,_,_,hf,_=>absurd hf (Nat.not_lt_zero _)
 |fuel+1,l,done,c,st,e1,e2,M,hf,hdm=>by
  let sz:es.size=#[xs]:=by rw[<- YO,he,T4]
  let I:t.fits es.size=true:=by have:=T.fits;rw[T4]at this;rw[sz];exact this
  let psz:t.place.size=#[xs]:=by have:=T.len;rw[T4]at this;exact this
  let n:∀(i:Nat) (x:yaf×Addr),xs[i]?=some x->es[i]?=some ((TK prog w).hash x.1,Value.ref x.2):=λi x r=>by rw[<- zA1,he,WA,r];rfl
  let g:∀i y:Nat,t.place[i]?=some y->∃x,xs[i]?=some x:=λi y B=>by have:=(dS B).2;exact⟨xs[i]' 33,Wc 33⟩
  let hat:∀(i:Nat) (x:yaf×Addr),xs[i]?=some x->(es[i]?.map (·.1)).getD 0=(TK prog w).hash x.1:=λi x r=>by rw[n i x r];rfl
  let dpl:∀y∈done,y∈t.place.toList:=λy B=>let ⟨i,_,u,_⟩:=M y B;get_mem u
  let emp:∃x∈l,x∉t.place.toList:=by
   let⟨x,r,e⟩:=T.empty ((TK prog w).hash k);rw[e2]at r;obtain z|z:=VS.mp r;calc absurd (dpl x z) e;exact⟨x,z,e⟩
  let ll:#[l]<=10*turns t.mask:=by
   have:=wL t.mask ((TK prog w).hash k);rw[e2,Xh]at this
   lia
  calc TJ (zBV ho hd I ?_);dsimp only;rw[T.stays];simp only[zBH,if_false];generalize hm:t.probe _ ((TK prog w).hash k) (st.getD (t.probeStart ((TK prog w).hash k)))=m;rcases BH T.rise T.dum (λi=>(es[i]?.map (·.1)).getD 0) ((TK prog w).hash k) l (10*turns t.mask) c _ e1 ll emp hdm with⟨d,j,f,q1,q2,J,q4⟩| ⟨d,j,f,i,q,c',q1,q2,J,q4,q5,q6,q7⟩;let em:m=some (.empty j none):=hm.symm.trans q4;subst em;dsimp only;let hv:cI t.mask ((TK prog w).hash k)=(done++d)++j::f:=by rw[e2,q1,zBM]
  let hpp:∀y∈done++d,y∈t.place.toList:=λy B=>by
   obtain z|z:=VS.mp B;calc dpl y z;let⟨i,u,_⟩:=q2 y z;exact get_mem u
  calc T5 (U (λY=>?_) j _ f hv hpp J);let⟨x,r,G⟩:=UQ.mp Y;let⟨H,li,ei⟩:=zAx r;let C:xs[H]?=some x:=by rw[Wc li,ei]
  let N:=vq (xs:=t.place) (a:=H) 33;let⟨p,post0,v0,p0⟩:=T.reach H _ ((TK prog w).hash k) N (by rw[WA,C,<- G];rfl);let x0:t.place.getD H 0∈done++d:=by
   let h:#[p]<#[done++d]:=by
    refine zBB λnl=>?_
    let e:(cI t.mask ((TK prog w).hash k))[#[done++d]]?=some j:=by rw[hv,zAr (VY _),Nat.sub_self];rfl
    rw[v0]at e;by_cases c1:#[done++d]<#[p];rw[zAo c1]at e;calc J (p0 j (Xf e));let O:#[done++d]=#[p]:=33
    rw[O,zAr (VY _),Nat.sub_self]at e;have:t.place.getD H 0=j:=ZI e;exact J (by rw[<- this];calc get_mem N)
   let e:(cI t.mask ((TK prog w).hash k))[#[p]]?=some (t.place.getD H 0):=by rw[v0,zAr (VY _),Nat.sub_self];rfl
   rw[hv,zAo h]at e;exact Xf e
  let same:∀h:Nat,t.place[h]?=some (t.place.getD H 0)->h=H:=λh h'=>(below_at T.rise h').symm.trans (below_at T.rise N)
  obtain z|z:=VS.mp x0;let⟨h,x',u,O,h3⟩:=M _ z;have:=same h u;subst this;rw[C]at O;cases O;calc h3 G;let⟨h,u,O⟩:=q2 _ z;have:=same h u;subst this;calc O (by rw[hat h x C,G]);let em:m=some (.candidate j i q):=hm.symm.trans q7;subst em;dsimp only;let⟨x,C⟩:=g i j J;let r:=L x (Xf C);let stored:∀v∈(es.filter (·.1==(TK prog w).hash k)).toList.map (·.2),∃k' c,v=Value.ref c/\(TK prog w).is s.heap k' c:=λv hv=>by
   let⟨e,he',rfl⟩:=UQ.mp hv;let he2:e∈es.toList:=by have:=Array.mem_toList_iff.mp he';exact Array.mem_toList_iff.mpr (Array.mem_filter.mp this).1
   rw[he]at he2;let⟨y,B,rfl⟩:=UQ.mp he2;exact⟨y.1,y.2,rfl,L y B⟩
  let go:wpAny (model prog w) A (do
    let some (_,y):=es[i]?|unsupported "internal:set-entry"
    let equal←holding [y] (eqBool y (.ref b))
    let (Y7,_,t')←setState a
    if true && equal then return SetFound.there none
    let some same:=t'.sameMemory t.moves t.mask|unsupported "set.changed-during-lookup:is-the-new-block-at-the-old-address"
    let still←match(if same then t'.slot j else .empty)with
     |.live h=>match Y7[h]? with
      |some (_,e)=>do pure (if←isSame e y then some h else none)
      |none=>pure none
     |_=>pure none
    match still with
    |none=>rule "set.search.anew"; setSearchFrom a (.ref b) ((TK prog w).hash k) true fuel none
    |some h=>if equal then return .there (some h)else setSearchFrom a (.ref b) ((TK prog w).hash k) true fuel (some q)) Q E s:=by
   rw[n i x C];dsimp only;calc TJ (YH ((TK prog w).eqBool hu r hk ?_));calc TJ (zBV ho hd I ?_);dsimp only;by_cases G:x.1=k;rw[TU (by simp[G])];calc T5 (hin (UQ.mpr ⟨x,Xf C,G⟩));rw[TM (by simp[G])];let sm:t.sameMemory t.moves t.mask=some true:=by ext SetTable.sameMemory;simp
   rw[sm];dsimp only;rw[TU rfl,y6 T.rise J];dsimp only;rw[n i x C];calc TJ (wpAny_isSame_ref_self ?_);simp only[zCW];calc TJ (T5 ?_);dsimp only;rw[TM (by simp[G])];calc sY hu hk ho hd he L T hin U fuel f (done++d++[j]) c' (some q) q5.symm (by rw[e2,q1];simp) (λy B=>?_) (by rw[q1,Xh,ZH]at hf;lia) q6;obtain z|z:=VS.mp B;obtain z|z:=VS.mp z;calc M y z;let⟨h,u,O⟩:=q2 y z;let⟨x',e⟩:=g h y u;calc⟨h,x',u,e,λek'=>O (by rw[hat h x' e,ek'])⟩;simp at z;subst z;exact⟨i,x,J,C,G⟩
  by_cases e:t.led=true;rw[TM (by simp[e])];calc go;rw[TU (by simp[e])];calc TJ (FO hk stored ?_);calc go
theorem Ai:∀(fuel a n:Nat),sizeAbove.go n fuel a<=max a (2*n)
 |0,a,n=>by ext sizeAbove.go;lia
 |fuel+1,a,n=>by
  ext sizeAbove.go;split;have:=Ai fuel (a*2) n
  lia
  lia
structure jv(prog:Program)(w:World)(h:Heap)(a:Addr)(xs:List (yaf×Addr)):Prop where
 ex:∃o es ep t,h.get? a=some o/\o.ExactSet/\o.data=.set es ep t/\es.toList=xs.map (λx=>((TK prog w).hash x.1,Value.ref x.2))/\Tab t (xs.map λx=>(TK prog w).hash x.1)/\(t.plain=true/\t.led=!w.params.followText "set-order")/\t.place.size*5<t.mask*3/\t.mask<=8191
 is_:∀x∈xs,(TK prog w).is h x.1 x.2
 nd:(xs.map (·.1)).Nodup
def lF {o:Obj} (f:(TK prog w).is h k b) (j:h.get? a=some o) (l:o.cls=.type "set") (hs:Heap.SameBut a h h'):(TK prog w).is h' k b:=by
 let⟨e,c,n,i,d,h,g⟩:=f;let f:b≠a:=33
 calc⟨e,c,n,hs.extBut b e f i,d,h,g⟩
def KA{xs:List (yaf×Addr)}{o:Obj}{c:Nat}{Q:Unit->Shared->Prop}(B:s.heap.get? a=some o)(m:o.ExactSet)(C:o.data=.set es ep t)(e:es.toList=xs.map λx=>((TK prog w).hash x.1,Value.ref x.2))
  (T:Tab t (xs.map λx=>(TK prog w).hash x.1)) (U:t.plain=true/\t.led=!w.params.followText "set-order") (I:∀x∈xs,(TK prog w).is s.heap x.1 x.2) (O:(xs.map (·.1)).Nodup) (hw:c=4*#[xs]) (hn:0<#[xs]) (hl:#[xs]<=1000)
  (hQ:∀h' ys,Heap.SameBut a s.heap h'->jv prog w h' a ys->#[ys]=#[xs]->(∀y,y∈ys↔y∈xs)->Q () {s with heap:=h'}):wpAny (model prog w) A (setRelay a c) Q E s:=by
 let G:es.size=#[xs]:=by rw[<- YO,e,T4]
 let u:t.fits es.size=true:=by have:=T.fits;rw[T4]at this;rw[G];exact this
 let⟨k,l,eb⟩:=above (n:=c) 33;let up:sizeAbove c<=max 8 (2*c):=Ai 64 8 c;generalize hzs:(xs.map λx=>((TK prog w).hash x.1,x)).toArray=d;let p:d.size=#[xs]:=by rw[<- hzs];simp
 let g:∀i:Nat,d[i]?=xs[i]?.map λx=>((TK prog w).hash x.1,x):=λi=>by rw[<- hzs];simp
 let j:∀i:Nat,es[i]?=xs[i]?.map λx=>((TK prog w).hash x.1,Value.ref x.2):=λi=>by rw[<- zA1,e,WA]
 let e:es.map (·.1)=d.map (·.1):=by apply Array.ext_getElem?;intro i;rw[Array.getElem?_map,Array.getElem?_map,g,j];cases xs[i]?<;>rfl
 let⟨h,b,k,m1,m2,Y,f,n,M,Q,f3,J,T,f6⟩:=MT l t.finger (t.movedTo (sizeAbove c - 1)) t.led t.plain d 33;let er:t.relaid (es.map (·.1)) c=some (h,b):=by rw[e];exact k
 generalize hys:f.map (·.2)=ys;let k:∀l:yag,(l.filterMap λi=>es[i]?)=(l.filterMap λi=>d[i]?).map λz=>(z.1,Value.ref z.2.2):=λl=>by
  induction l with
  |nil=>rfl
  |cons i r ih =>
   cases e:xs[i]? with
   |none=>rw[List.filterMap_cons_none (by rw[j,e];rfl),List.filterMap_cons_none (by rw[g,e];rfl),ih]
   |some x=>rw[zCo (by rw[j,e];rfl),zCo (by rw[g,e];rfl),Ya,ih]
 let l:b.toList.filterMap (λi=>d[i]?)=f:=by rw[<- n];simp
 let c:∀z∈f,z=((TK prog w).hash z.2.1,z.2)/\z.2∈xs:=λz d=>by let⟨q,n,r⟩:=zAx d;let⟨i,_,j⟩:=J q z (by rw[Wc n,r]);rw[g]at j;let⟨x,L,e⟩:=zA8.mp j;subst e;exact⟨rfl,Xf L⟩
 let j:(b.filterMap λi=>es[i]?).toList=ys.map λx=>((TK prog w).hash x.1,Value.ref x.2):=by
  have:(b.filterMap λi=>es[i]?).toList=b.toList.filterMap λi=>es[i]?:=52
  rw[this,k,l,<- hys,Ww];apply zB7;intro z d;let⟨e,_⟩:=c z d;show(z.1,Value.ref z.2.2)=((TK prog w).hash z.2.1,Value.ref z.2.2);rw[show z.1=(TK prog w).hash z.2.1 from congrArg (·.1) e]
 let H:f.map (·.1)=ys.map λx=>(TK prog w).hash x.1:=by rw[<- hys,Ww];apply zB7;intro z d;let⟨e,_⟩:=c z d;exact congrArg (·.1) e
 let N:#[ys]=#[xs]:=by rw[<- hys,T4,M,p]
 let M:∀y,y∈ys↔y∈xs:=λy=>by
  rw[<- hys];constructor;intro k;let⟨z,d,rfl⟩:=UQ.mp k;calc(c z d).2;intro k;let⟨i,c,t⟩:=zAx k;let⟨q,r⟩:=T i (by rw[p];calc c);let d:((TK prog w).hash y.1,y)∈f:=by rw[<- l,zCR];calc⟨i,?_,by rw[g,Wc c,t];rfl⟩;rw[<- zA1]at r;exact Xf r
  exact UQ.mpr ⟨_,d,rfl⟩
 let r:(ys.map (·.1)).Nodup:=by
  rw[<- hys,Ww];refine zBC.mpr λp q c n hpq e=>?_
  rw[T4]at c n;simp at e;let⟨i,T,d⟩:=J p f[p] (Wc c);let⟨l,t,c⟩:=J q f[q] (Wc n);rw[g]at d c;let⟨x,L,n⟩:=zA8.mp d;let⟨g,f,d⟩:=zA8.mp c;rw[<- n,<- d]at e;let n:x.1=g.1:=e;let⟨g,e⟩:=Zn.mp L;let⟨d,c⟩:=Zn.mp f;let f:i=l:=by
   obtain z|z|z:=zCf i l;have:=zBC.mp O i l (by rw[T4];calc g) (by rw[T4];calc d) z;rw[zBF,zBF,e,c]at this;calc absurd n this;calc z;have:=zBC.mp O l i (by rw[T4];calc d) (by rw[T4];calc g) z;rw[zBF,zBF,e,c]at this;exact absurd n.symm this
  subst f;have:=f6 p q i T t
  lia
 calc TJ (zBV B C u ?_);dsimp only;rw[TM (by rw[VA];lia),er];let c:(b.filterMap λi=>es[i]?).size=es.size:=by rw[<- YO,j,T4,N,G]
 calc TJ ?_;show wpAny _ _ (if((b.filterMap λi=>es[i]?).size != es.size)=true then _ else pure (b.filterMap (λi=>es[i]?),h)) _ _ _;rw[TM (by rw[c];simp)];calc T5 ?_;calc wpAny_storeSet_of B C ?_ (by rw[c,G,VA];lia);let c:(s.heap.update a (Obj.putSet (b.filterMap λi=>es[i]?) h)).get? a=some {o with data:=.set (b.filterMap λi=>es[i]?) (ep+1) h}:=by have:=zA2 (Obj.putSet (b.filterMap λi=>es[i]?) h) B (by rw[putSet_of _ _ C];rfl);rw[putSet_of _ _ C]at this;exact this
 rw[H]at Q;calc hQ _ ys (zBP ..) ⟨⟨_,_,ep+1,h,c,m,rfl,j,Q,⟨by rw[Y];calc U.1,by rw[m2];calc U.2⟩,33,by rw[m1];lia⟩,λy k=>lF (I y ((M y).mp k)) B m.1 (zBP ..),r⟩ N M
def Ov{Q:Bool->Shared->Prop}(hu:A.units<cLine)(S:jv prog w s.heap a xs)(Y:(TK prog w).is s.heap k b)(hl:#[xs]<1000)
  (hQ:∀h' ys b',Heap.SameBut a s.heap h'->jv prog w h' a ys->#[ys]<=#[xs]+1->(∀n,n∈ys.map (·.1)↔n∈xs.map (·.1)∨n=k)->(∀y∈ys,y∈xs∨y=(k,b))->Q b' {s with heap:=h',toks:=s.toks+(TK prog w).draws k}) :
  wpAny (model prog w) A (setAdd a (.ref b)) Q E s:=by
 ext setAdd;calc YH (TJ ((TK prog w).pyHash hu Y ?_));generalize hs':({s with toks:=s.toks+(TK prog w).draws k}:Shared)=g;let hh:g.heap=s.heap:=by rw[<- hs']
 let⟨⟨o,r,ep,t,B,l,J,he,T,WC,hlo,U⟩,his,nd⟩:=S;rw[<- hh]at B Y;let i:∀x∈xs,(TK prog w).is g.heap x.1 x.2:=by rw[hh];exact his
 let sz:r.size=#[xs]:=by rw[<- YO,he,T4]
 let G:t.fits r.size=true:=by have:=T.fits;rw[T4]at this;rw[sz];exact this
 let psz:t.place.size=#[xs]:=by have:=T.len;rw[T4]at this;exact this
 let m:∀(h':Heap) (b':Bool),Q b' {s with heap:=h',toks:=s.toks+(TK prog w).draws k}->Q b' {g with heap:=h'}:=λh' b' q=>by rw[<- hs'];exact q
 ext setAddHashed;calc YH ?_;ext setAddHashedIn;calc TJ (zBV B J G ?_);dsimp only;rw[TM (by ext byScan;simp[Value.scannable])];let⟨c,ec⟩:=Cs t ((TK prog w).hash k);let vl:=wL t.mask ((TK prog w).hash k);ext setSearch;calc TJ (sY hu Y B J he i T (λhin=>?_) (λhno j pre post hv hp hj=>?_) 100000 _ [] c none ec.symm 52 52 (by unfold turns at vl;lia) rfl);dsimp only;calc T5 ?_;let e:g={g with heap:=g.heap}:=by cases g;rfl
 rw[e];calc m _ _ (hQ g.heap xs _ (by rw[hh];calc Heap.SameBut.refl a s.heap) ⟨⟨o,r,ep,t,B,l,J,he,T,WC,hlo,U⟩,i,nd⟩ 33 (λn=>⟨.inl,λz=>z.elim id λz=>by subst z;calc hin⟩) λy h=>.inl h);dsimp only;calc TJ (zBV B J G ?_);dsimp only;let⟨T',pl,pm,ps⟩:=T.put hj hv hp 33;rw[T4]at pl;let hpp:(t.put j).1.plain=true:=WC.1;let O:(t.put j).1.plain=true/\(t.put j).1.led=!w.params.followText "set-order" := WC;rw[hpp];simp only[zCW];calc TJ (Hk Y ?_);simp only[zCW];generalize hp2:(t.put j).2=p at *;generalize ht2:(t.put j).1=u at *;let I:(insertAt r p ((TK prog w).hash k,Value.ref b)).toList=(xs.take p++(k,b)::xs.drop p).map λx=>((TK prog w).hash x.1,Value.ref x.2):=by rw[nN,he,Yx,Ya,List.map_take,List.map_drop]
 let C:#[xs.take p++(k,b)::xs.drop p]=#[xs]+1:=by
  rw[Xh,zBR,ZH,zCC]
  lia
 let M:(insertAt r p ((TK prog w).hash k,Value.ref b)).size=#[xs]+1:=by rw[<- YO,I,T4,C]
 let f:∀y,y∈xs.take p++(k,b)::xs.drop p↔y=(k,b)∨y∈xs:=λy=>by
  rw[VS,VC];constructor;rintro(z|z|z);calc .inr (List.mem_of_mem_take z);calc .inl z;calc .inr (List.mem_of_mem_drop z);rintro(z|z);calc .inr (.inl z);rw[<- zBx p xs]at z;obtain q|q:=VS.mp z;calc .inl q;exact .inr (.inr q)
 let L:((xs.take p++(k,b)::xs.drop p).map (·.1)).Nodup:=by
  rw[Yx,Ya];let n0:=nd;let h0:=hno;rw[<- zBx p xs,Yx]at n0 h0;rw[zCc]at n0 ⊢;let⟨n1,n2,n3⟩:=n0;rw[VS,not_or]at h0;calc⟨n1,zBK.mpr ⟨h0.2,n2⟩,λx hx y h=>?_⟩;obtain z|z:=VC.mp h;intro e;subst e;subst z;calc h0.1 hx;exact n3 x hx y z
 let d:∀zs:List (yaf×Addr),(∀y,y∈zs↔y∈xs.take p++(k,b)::xs.drop p)->∀n,n∈zs.map (·.1)↔n∈xs.map (·.1)∨n=k:=λzs hz n=>by
  constructor;intro h1;let⟨y,h,e⟩:=UQ.mp h1;rcases(f y).mp ((hz y).mp h)with q|q;subst q;calc .inr e.symm;calc .inl (UQ.mpr ⟨y,q,e⟩);rintro(h1|h1);let⟨y,h,e⟩:=UQ.mp h1;calc UQ.mpr ⟨y,(hz y).mpr ((f y).mpr (.inr h)),e⟩;subst h1;exact UQ.mpr ⟨(n,b),(hz _).mpr ((f _).mpr (.inl rfl)),rfl⟩
 calc TJ (wpAny_storeSet_of B J ?_ (by rw[M,VA];lia));let hg:(g.heap.update a (Obj.putSet (insertAt r p ((TK prog w).hash k,Value.ref b)) u)).get? a=some {o with data:=.set (insertAt r p ((TK prog w).hash k,Value.ref b)) (ep+1) u}:=by have:=zA2 (Obj.putSet (insertAt r p ((TK prog w).hash k,Value.ref b)) u) B (by rw[putSet_of _ _ J];rfl);rw[putSet_of _ _ J]at this;exact this
 let sb:=zBP g.heap a (Obj.putSet (insertAt r p ((TK prog w).hash k,Value.ref b)) u);generalize hh2:g.heap.update a (Obj.putSet (insertAt r p ((TK prog w).hash k,Value.ref b)) u)=h2 at hg sb ⊢;let T2:Tab u ((xs.take p++(k,b)::xs.drop p).map λx=>(TK prog w).hash x.1):=by rw[Yx,Ya,List.map_take,List.map_drop];exact T'
 let N:∀x∈xs.take p++(k,b)::xs.drop p,(TK prog w).is h2 x.1 x.2:=λx hx=>by
  rcases(f x).mp hx with z|z;subst z;calc lF Y B l.1 sb;exact lF (i x z) B l.1 sb
 by_cases tf:u.tooFull=true;rw[TU (by simp[tf])];calc TJ (KA (s:={g with heap:=h2}) (xs:=xs.take p++(k,b)::xs.drop p) hg l rfl I T2 O N L ?_ 33 33 λh3 ys sb3 S3 yl ym=>?_);rw[C,sz];ext SetTable.grown;rw[TM 33]
 lia
 refine T5 (m h3 true (hQ h3 ys true (by rw[<- hh];calc sb.trans sb3) S3 ?_ (d ys ym) λy h=>?_))
 lia
 rcases(f y).mp ((ym y).mp h)with q|q;calc .inr q;calc .inl q;rw[TM (by simp[tf])];calc T5 (m h2 true (hQ h2 _ true (by rw[<- hh];calc sb) ⟨⟨_,_,ep+1,u,hg,l,rfl,I,T2,O,?_,by rw[pm];calc U⟩,N,L⟩ 33 (d _ λ_=>Iff.rfl) λy h=>?_));let H:u.tooFull=false:=by simpa using tf
 unfold SetTable.tooFull SetTable.fill at H;rw[T2.dum]at H;simp at H
 lia
 rcases(f y).mp h with q|q;calc .inr q;calc .inl q
end
def yK:entryFor table "set.update.loop" = some Builtin.«set.update.loop»:=entryFor_of_tree 72
def Ii:plainId "set.update.loop" = true:=by decide +kernel
section
variable{prog:Program}{w:World}{A:Around}{E:yaa}{s:Shared}
def mL{h':Heap}(c:(TK prog w).is h k b)(e:∀o,h.get? b=some o->h'.get? b=some o):(TK prog w).is h' k b:=by let⟨b,a,n,d,r⟩:=c;calc⟨b,a,n,e b d,r⟩
def key_ne {o:Obj} (d:(TK prog w).is h k b) (i:h.get? a=some o) (j:o.cls=.type T) (l:T ≠ "tuple"):b≠a:=λe=>by
 let⟨g,c,n,Zg,f,_⟩:=d
 lia
theorem jv.ext{h':Heap}(S:jv prog w h a xs)(e:∀o,h.get? a=some o->h'.get? a=some o)(c:∀x∈xs,(TK prog w).is h' x.1 x.2):jv prog w h' a xs:=by let⟨⟨o,d,f,t,b,r⟩,_,a⟩:=S;calc⟨⟨o,d,f,t,e o b,r⟩,c,a⟩
def M3 {a I l : Addr} {items : yan} {R : Result -> Shared -> Prop} (hh : A.handled = none) (J : A.in1.units < cLine) (n : a ≠ I) (C : a ≠ l) (d : l ≠ I) (Q : items.size <= 900) (ks : Nat -> yaf) :
  ∀ (m i : Nat) (s : Shared) (xs : List (yaf × Addr)), items.size - i = m -> i <= items.size -> (s.heap.IsListIter I l i /\ s.heap.IsList l items) -> jv prog w s.heap a xs -> #[xs] <= i →
   (∀ (j : Nat) (v : Value), items[j]? = some v -> ∃ c, v = .ref c /\ (TK prog w).is s.heap (ks j) c) -> (∀ k, k ∈ xs.map (·.1) ↔ ∃ j, j < i /\ k = ks j) -> (∀ x ∈ xs, ∃ j, j < i /\ items[j]? = some (.ref x.2)) →
   (∀ h' r ys, (∀ b o, b ≠ a -> b ≠ I -> s.heap.get? b = some o -> h'.get? b = some o) -> jv prog w h' a ys -> #[ys] <= items.size -> (∀ k, k ∈ ys.map (·.1) ↔ ∃ j, j < items.size /\ k = ks j) -> (∀ x ∈ ys, ∃ j, j < items.size /\ items[j]? = some (.ref x.2)) →
    R (.ok (.ret .none)) { s with heap := h', toks := r }) -> codeAny (model prog w) A (.builtin "set.update.loop" ⟨[.ref a, .ref I], []⟩) R s := by
 let W := Walks.list (prog := prog) (w := w) (A := A.in1) (show A.in1.handled = none from hh) I l d items;intro m
 induction m with
 | zero =>
  intro i s xs t H st S q B h g G;let e : i = items.size := 33
  subst e;calc zBO yK ?_;calc TJ (W.done s _ _ st λh' r kp => ?_);let⟨⟨o, y, z, _⟩, _⟩ := st;let d : ∀ b o, b ≠ I -> s.heap.get? b = some o -> h'.get? b = some o := λb o f e => kp b o (by simpa using f) e
  calc T5 (G h' r xs (λb o _ f e => d b o f e) (S.ext (λo e => d a o n e) λx p => ?_) q h g);calc mL (S.is_ x p) λu e => d _ u (key_ne (S.is_ x p) y z 23) e
 | succ m ih =>
  intro i s xs t H st S q B h g G;let H : i < items.size := 33
  calc zBO yK ?_;calc TJ (W.item i s _ _ H st λv h' r hv L kp => ?_);let⟨⟨o, y, z, _⟩, _⟩ := id st;let d : ∀ b o, b ≠ I -> s.heap.get? b = some o -> h'.get? b = some o := λb o f e => kp b o (by simpa using f) e
  let t : ∀ {k : yaf} {c : Addr}, (TK prog w).is s.heap k c -> (TK prog w).is h' k c := λq => mL q λu e => d _ u (key_ne q y z 23) e
  let m : jv prog w h' a xs := S.ext (λo e => d a o n e) λx p => t (S.is_ x p)
  let⟨c, rfl, a⟩ := B i v hv;calc TJ (YH (Ov (s := { s with heap := h', toks := r }) J m (t a) 33 λu ys T sb M N J y => ?_));let⟨⟨O, _, _, _, r, a, _⟩, _, _⟩ := id m;let m : ∀ {k : yaf} {c : Addr}, (TK prog w).is h' k c -> (TK prog w).is u k c := λq => lF q r a.1 sb
  let a : u.IsListIter I l (i + 1) /\ u.IsList l items := W.frame _ _ _ L λb f o e => by
   calc sb.extBut b o (λq => ?_) e;subst q;simp at f;obtain z | z:=f;calc n z;exact C z
  calc T5 ⟨zB3 Ii _, ih (i + 1) _ ys 33 H a M 33 (λj v a => ?_) (λk => ?_) (λx p => ?_) λC c l f I n r u => ?_⟩;let⟨H, e, q⟩ := B j v a;calc ⟨H, e, m (t q)⟩;rw [J k, h k];constructor;rintro (⟨j, a, e⟩ | e);calc ⟨j, 33, e⟩;calc ⟨i, 33, e⟩;rintro ⟨j, a, e⟩;by_cases z : j < i;calc .inl ⟨j, z, e⟩;have : j = i := 33
  subst this;calc .inr e;obtain z | z:=y x p;let⟨j, a, e⟩ := g x z;calc ⟨j, 33, e⟩;subst z;calc ⟨i, 33, hv⟩;calc G C c l (λb o a c e => f b o a c (sb.extBut b o a (d b o c e))) I n r u
end
def zL (a:Value):checkTypeCall "set" ⟨[a],[]⟩=pure ():=72
def Bu (a:Value):checkBuiltinCall "set.__new__" ⟨[.type "set", a],[]⟩=pure ():=72
section
variable{prog:Program}{w:World}{A:Around}{E:yaa}{s:Shared}
def zo(a:Value){Q₁:yaa}
  (h:∀led:Bool,led=(!w.params.followText "set-order")->Q₁ (.ref s.heap.objs.size) {s with heap:=s.heap.push {cls:=.type "set", dict:=none,data:=.set #[] 0 (.fresh 0 0 led)} }) :
  codeAny (model prog w) A (.call (.builtin "set.__new__") ⟨[.type "set", a],[]⟩) (wants Q₁ E) s:=by
 calc codeAny_of_tree ?_;calc TJ (wpAny_of_eq (Bu a) (T5 ⟨zB3 F.plain_set_new _,zBO F.entry_set_new ?_⟩));ext Builtin.«set.__new__» Builtin.Frozenset.newClass;let b:=sub_set_self;wp_walk;calc wpAny_askSetting (T5 ?_);calc TJ (wpAny_alloc (T5 ?_));calc T5 (h _ rfl)
def Cu {x:Value} {Q:Unit->Shared->Prop} (b:s.TypeIs self "set") (c:Q () s):wpAny M A (checkBuiltinCall "set.__init__" ⟨[self,x],[]⟩) Q E s:=by calc TJ (zCO b sub_set_self ?_);calc TJ (m:=Bind.printed "*" false _ _) (PyProof.Rows.printed_star (self:=self) rfl b λa=>?_);exact T5 c
set_option maxHeartbeats 1000000 in
def GK {x:Value} {Q:yaa} (h:∀led:Bool,led=(!w.params.followText "set-order")->wpAny (model prog w) A.in1.in1 (Builtin.«set.__init__» ⟨[.ref s.heap.objs.size,x],[]⟩)
   (λc b=>match c with|.done f=>wants (λr a=>r=.none/\Q (.ref s.heap.objs.size) a) E (.ok f) b|.again d=>d.quiet=true/\codeAny (model prog w) A.in1 d (wants (λr a=>r=.none/\Q (.ref s.heap.objs.size) a) E) b)
   (λe b=>wants (λr a=>r=.none/\Q (.ref s.heap.objs.size) a) E (.error e) b) {s with heap:=s.heap.push {cls:=.type "set", dict:=none,data:=.set #[] 0 (.fresh 0 0 led)} }) :
  wpAny (model prog w) A (call (.type "set") [x]) Q E s:=by
 let⟨c,n,j⟩:=F.called_set.mro;let g:=F.called_set.made;let i:=F.called_set.sub;calc wpAny_call (codeAny_of_tree ?_);show wpAny _ _ (callAny (.type "set") _) _ _ _;calc T5 ⟨Code.quiet_builtin _ (by decide +kernel),zBO F.entry_type_call ?_⟩;rw[Around.under_plain (weight_type_call_type "set" [x] []) rfl];let q:=F.called_set.notType;let p:=F.called_set.canCreate;let l:=zL x
 repeat (any_goals (first|assumption|wp_step))
 refine zCr (zo (E:=E) x (Q₁:=λc d=>∃led:Bool,led=(!w.params.followText "set-order")/\c=.ref s.heap.objs.size/\d={s with heap:=s.heap.push {cls:=.type "set", dict:=none,data:=.set #[] 0 (.fresh 0 0 led)} }) λled b=>⟨led,b,rfl,rfl⟩) λr d d=>?_
 cases r with
 |error e=>calc d
 |ok f =>
  cases f with
  |ret c =>
   let⟨led,b,rfl,rfl⟩:=d;let c:Shared.TypeIs {s with heap:=s.heap.push {cls:=.type "set", dict:=none,data:=.set #[] 0 (.fresh 0 0 led)} } (.ref s.heap.objs.size) "set" := ⟨_,Xg _ rfl,rfl⟩;let k:=F.called_set.init.lookup;let m:=F.called_set.init.bind (.ref s.heap.objs.size)
   repeat (any_goals (first|assumption|wp_step))
   refine zCr (codeAny_call_builtin (R:=wants (λr a=>r=.none/\Q (.ref s.heap.objs.size) a) E) F.called_set.init.plain F.entry_set_init (Cu c (h led b))) λb a a=>?_
   cases b with
   |error e=>calc a
   |ok b =>
    cases b with
    |ret r =>
     let⟨rfl,o⟩:=a
     repeat (any_goals (first|assumption|wp_step))
    |_=>calc a.elim
  |_=>calc d.elim
def MD (led:Bool) (a:led=!w.params.followText "set-order"):jv prog w (s.heap.push {cls:=.type "set", dict:=none,data:=.set #[] 0 (.fresh 0 0 led)}) s.heap.objs.size []:=by calc⟨⟨_,#[],0,_,Xg _ rfl,⟨rfl,rfl,rfl⟩,rfl,rfl,?_,⟨rfl,a⟩,by show 0*5<7*3;decide,by show 7<=8191;decide⟩,52,52⟩;calc⟨⟨2,rfl⟩,λa b _ b=>absurd b (Nat.not_lt_zero _),(λx b=>by cases b),rfl,rfl,Yt _,λa x h b=>?_⟩;have:(#[]:yao)[a]?=some x:=b;simp at this
def Rc:isSubtype (.type "list") (.type "set")=pure false:=72
def Rb:isSubtype (.type "list") (.type "frozenset")=pure false:=72
def call_set_list{Q:yaa}(hh:A.handled=none)(i:A.in1.in1.in1.units<cLine)(e:s.heap.IsList l items)(m:items.size<=900)(ks:Nat->yaf)
  (n:∀(j:Nat) (v:Value),items[j]?=some v->∃c,v=.ref c/\(TK prog w).is s.heap (ks j) c)
  (p:∀h' g ys,(∀b o,s.heap.get? b=some o->h'.get? b=some o)->jv prog w h' s.heap.objs.size ys->#[ys]<=items.size->(∀k,k∈ys.map (·.1)↔∃ j,j<items.size/\k=ks j)->(∀x∈ys,∃j,j<items.size/\items[j]?=some (.ref x.2)) →
   Q (.ref s.heap.objs.size) {s with heap:=h',toks:=g}):wpAny (model prog w) A (call (.type "set") [.ref l]) Q E s:=by
 refine GK λled d=>?_
 let r:(s.heap.push {cls:=.type "set", dict:=none,data:=.set #[] 0 (.fresh 0 0 led)}).get? s.heap.objs.size=some {cls:=.type "set", dict:=none,data:=.set #[] 0 (.fresh 0 0 led)}:=Xg _ rfl;let h:l<s.heap.objs.size:=by let⟨o,a,_⟩:=e;exact U5 a
 let f:Shared.TypeIs {s with heap:=s.heap.push {cls:=.type "set", dict:=none,data:=.set #[] 0 (.fresh 0 0 led)} } (.ref l) "list" := by let⟨o,a,k,_⟩:=e;exact⟨o,VX _ a,k⟩
 let k:=MD (prog:=prog) (w:=w) (s:=s) led d;let d:(s.heap.push {cls:=.type "set", dict:=none,data:=.set #[] 0 (.fresh 0 0 led)}).IsList l items:=e.push _;let sz1:(s.heap.push {cls:=.type "set", dict:=none,data:=.set #[] 0 (.fresh 0 0 led)}).objs.size=s.heap.objs.size+1:=zCk ..;let a:∀b o,s.heap.get? b=some o->(s.heap.push {cls:=.type "set", dict:=none,data:=.set #[] 0 (.fresh 0 0 led)}).get? b=some o:=λb o e=>VX _ e
 ext Builtin.«set.__init__» noKeywords
 wp_walk
 calc wpAny_of_eq Rc ?_;calc zCO f Rb ?_;simp only[zBH,if_false];calc TJ (wpAny_typeOf f ?_);rw[TM 23];generalize s.heap.push {cls:=.type "set", dict:=none,data:=.set #[] 0 (.fresh 0 0 led)}=h1 at *;calc TJ (zCg d ?_);calc TJ (wpAny_runValue ?_);let f:s.heap.objs.size≠h1.objs.size:=33
 refine M3 (A:=A.in1.in1) (I:=h1.objs.size) (l:=l) (items:=items) hh i f (zBn h) (WG (by rw[sz1];calc zCe h)) m ks items.size 0 {s with heap:=h1.push {cls:=.type "list_iterator", data:=.fields #[.ref l,.int 0 0]} } [] 33 (Yt _) ⟨⟨_,Xg _ rfl,rfl,rfl⟩,d.push _⟩ (k.ext (λo e=>VX _ e) 52) (VY _) (λj v i=>?_) 52 52 λh' g ys kp S d f h=>?_
 let⟨c,e,q⟩:=n j v i;calc⟨c,e,mL q λo e=>VX _ (a c o e)⟩;calc T5 (T5 ⟨rfl,p h' g ys (λb o e=>?_) S d f h⟩);let c:b<s.heap.objs.size:=U5 e;calc kp b o (WG c) (WG (by rw[sz1];calc zCe c)) (VX _ (a b o e))
end
theorem vg{a:Type}:∀(l:List a) (i:Nat) (h:i<#[l]),(l[i]::l.eraseIdx i).Perm l
 |[],_,h=>absurd h 47
 |x::l,0,_=>List.Perm.refl _
 |x::l,i+1,h=>by let r:=vg l i 47;calc(List.Perm.swap x _ _).trans (List.Perm.cons x r)
theorem Ef{b:Type}(next:Nat->Nat):∀(fuel k:Nat) (left:List b) (a:Array b),#[left]=fuel->(pickOrder.go next fuel k left a).toList.Perm (a.toList++left)
 |0,k,left,a,e=>by
  have:left=[]:=58
  subst this;simp[pickOrder.go]
 |fuel+1,k,left,a,e=>by
  let b:0<#[left]:=33
  let c:next k % #[left]<#[left]:=zCQ _ b;ext pickOrder.go;rw[Wc c];let r:=Ef next fuel (k+1) (left.eraseIdx (next k % #[left])) (a.push left[next k % #[left]]) 58;calc r.trans ?_;grind [Array.toList_push,List.append_assoc,List.perm_append_left_iff,vg]
theorem Ig{a:Type}(next:Nat->Nat)(xs:Array a):(pickOrder next xs).toList.Perm xs.toList:=by have:=Ef next xs.size 0 xs.toList #[] 52;simpa [pickOrder]using this
def EX(a:ju xs):below xs 0=0:=by
 let⟨d,b,c⟩:=jP a 0;rcases Nat.eq_zero_or_pos (below xs 0)with z|z;calc z;have:=b 0 z;lia
def EW(c:ju xs){a j:Nat}(h:xs[a]?=some j):below xs (j+1)=a+1:=by
 let⟨g,e,d⟩:=jP c (j+1);let⟨b,f⟩:=zDE.mp h;let i:xs.getD a 0=j:=by simp[Array.getD,b,f]
 rcases zCf (below xs (j+1)) (a+1)with z|z|z;have:=d a 33 b
 lia
 calc z;let q:=e (a+1) z;let b:a+1<xs.size:=33
 have:=c a (a+1) 33 b
 lia
def dF:Slot "set_iterator" "__next__" "set_iterator.__next__" :=
 .of (owner := "set_iterator") (n := "__next__") 72 (by decide +kernel) (by decide +kernel) (by decide +kernel) (.inl (by decide +kernel)) 72
def qN:Slot "set_iterator" "__iter__" "set_iterator.__iter__" :=
 .of (owner := "set_iterator") (n := "__iter__") 72 (by decide +kernel) (by decide +kernel) (by decide +kernel) (.inl (by decide +kernel)) 72
def pE:entryFor table "set_iterator.__next__" = some Builtin.«set_iterator.__next__»:=entryFor_of_tree 72
def zp:entryFor table "set_iterator.__iter__" = some Builtin.«dict_keyiterator.__iter__»:=entryFor_alias (id' := "dict_keyiterator.__iter__") 72 rfl (by decide +kernel) 72
def AW:entryFor table "set.__iter__" = some Builtin.«frozenset.__iter__»:=entryFor_alias (id' := "frozenset.__iter__") 72 rfl (by decide +kernel) 72
def pV (a:Value):argsOk "set_iterator.__next__" ⟨[a],[]⟩:=72
def Ak (a:Value):argsOk "set_iterator.__iter__" ⟨[a],[]⟩:=72
noncomputable def eR (w:World) (a:Addr) (es:Array (Int×Value)) (b:Nat):Array (Int×Value):=if w.params.followText "set-order" = true then pickOrder (w.params.setOrder a b) es else es
def tD(w:World)(a:Addr)(es:Array (Int×Value))(b:Nat):(eR w a es b).toList.Perm es.toList:=by ext eR;grind [Ig]
theorem mD(w:World)(a:Addr)(es:Array (Int×Value))(b:Nat):(eR w a es b).size=es.size:=by have:=(tD w a es b).length_eq;simpa using this
def wX(w:World)(h:Heap)(I a:Addr)(t:SetTable)(n c i:Nat):Prop :=
 ∃ o b,h.get? I=some o/\o.cls=.type "set_iterator" /\ o.data=.fields #[.int (b:Nat) 0,.int (i:Nat) 0,.ref a,.int (n:Nat) 0,.int (c:Nat) 0]/\(w.params.followText "set-order" = false->below t.place b=i)
section
variable{prog:Program}{w:World}{A:Around}{E:yaa}{s:Shared}
def xR (x:wX w s.heap I a t n ep i):s.TypeIs (.ref I) "set_iterator" := by let⟨o,_,a,b,_⟩:=x;calc⟨o,a,b⟩
def wu{a:Addr}{o:Obj}{es:Array (Int×Value)}{d b i:Nat}{t:SetTable}{hs:yaf}{Q:Option (Value×Nat)->Shared->Prop}(e:s.heap.get? a=some o)(g:o.data=.set es d t)(T:Tab t hs)(f:#[hs]=es.size)
  (WC:t.plain=true/\t.led=!w.params.followText "set-order") (j:w.params.followText "set-order" = false->below t.place b=i)
  (k:∀z,(eR w a es d)[i]?.map (·.2)=z.map (·.1)->(∀p,z=some p->w.params.followText "set-order" = false->below t.place p.2=i+1)->Q z s):wpAny (model prog w) A (setNext a b i d) Q E s:=by
 let b:t.fits es.size=true:=by rw[<- f];exact T.fits
 calc TJ (zBV e g b ?_);show wpAny _ _ (if w.params.followText "set-order" = true then _ else _) _ _ _;by_cases c:w.params.followText "set-order" = true;rw[TU c];simp;calc TJ (TJ (zBV e g b ?_));show wpAny _ _ (if w.params.followText "set-order" = true then _ else _) _ _ _;rw[TU c];calc TJ (wpAny_askSetting (T5 ?_));calc T5 (k _ ?_ ?_);ext eR;rw[TU c];show _=Option.map _ (Option.map _ (pickOrder (w.params.setOrder a d) es)[i]?);cases(pickOrder (w.params.setOrder a d) es)[i]?<;>rfl
 lia
 let a:w.params.followText "set-order" = false:=33
 rw[TM c];split;rename_i h;let l:(!t.plain && decide (es.size > 1))=true:=h
 lia
 calc TJ ?_;show wpAny _ _ (if(!t.led && !es.isEmpty)=true then unsupported "set:maker-not-led" else pure ()) _ _ _;rw[TM 33];calc T5 (T5 (k _ ?_ ?_));ext eR;rw[TM c,j a];cases e:es[i]? with
 |none=>rfl
 |some z =>
  let b:i<es.size:=58;let c:t.place[i]?=some (t.place[i]'(by rw[T.len,f];calc b)):=47
  rw[c];rfl
 intro p b _;rw[j a]at b;split at b;rename_i j e;cases b;exact EW T.rise e
 lia
def N1{o:Obj}{x:Int×Value}{Q:yam->Shared->Prop}(k:s.heap.get? a=some o)(n:o.data=.set es ep t)(T:Tab t hs)(l:#[hs]=es.size)
  (H:t.plain=true/\t.led=!w.params.followText "set-order") (st:wX w s.heap I a t es.size ep i) (u:(eR w a es ep)[i]?=some x)
  (C:∀h',wX w h' I a t es.size ep (i+1)->Heap.SameBut I s.heap h'->Q (some x.2) {s with heap:=h'}):wpAny (model prog w) A (pyNext (.ref I)) Q E s:=by
 let⟨J,h,c,f,b,B⟩:=id st;let q:=xR st;let d:t.fits es.size=true:=by rw[<- l];exact T.fits
 calc TJ (zCa (zBS (name:=Str.ofString "__next__") q dF (zBa dF q pE ?_ (pV _))));calc TJ (m:=slotArgs "__next__" 0 ⟨[.ref I],[]⟩) (T5 ?_);calc TJ (wpAny_fieldsOf c b ?_);calc TJ (TJ (zBV k n d (T5 ?_)));simp;calc TJ (wu k n T l H B λz j y=>?_);rw[u]at j;cases z with
 |none=>cases j
 |some p =>
  let⟨v,e⟩:=p;let G:x.2=v:=47
  subst G;calc TJ (zCm c b 52 ?_);let r:=zA2 (Obj.mapFields (·.setIfInBounds 0 (rawInt (e:Nat)))) c (Obj.isFreed_of_fields (Obj.data_mapFields b _));let g:=Obj.data_mapFields b (·.setIfInBounds 0 (rawInt (e:Nat)));calc TJ (zCm r g 52 ?_);calc T5 ⟨_,rfl,T5 (C _ ⟨_,e,zA2 _ r (Obj.isFreed_of_fields (Obj.data_mapFields g _)),(Obj.cls_mapFields ..).trans ((Obj.cls_mapFields ..).trans f),?_,y _ rfl⟩ ((zBP ..).trans (zBP ..)))⟩;rw[Obj.data_mapFields g];simp[rawInt]
def Q9{o:Obj}{Q:yam->Shared->Prop}(hh:A.handled=none)(f:s.heap.get? a=some o)(h:o.data=.set es ep t)(T:Tab t hs)(g:#[hs]=es.size)
  (p:t.plain=true/\t.led=!w.params.followText "set-order") (st:wX w s.heap I a t es.size ep i) (j:(eR w a es ep)[i]?=none)
  (n:∀h',Heap.ExtBut I s.heap h'->Q none {s with heap:=h'}):wpAny (model prog w) A (pyNext (.ref I)) Q E s:=by
 let⟨q,e,b,k,c,l⟩:=id st;let i:=xR st;let d:t.fits es.size=true:=by rw[<- g];exact T.fits
 calc TJ (zCa (zBS (name:=Str.ofString "__next__") i dF (zBa dF i pE ?_ (pV _))));calc TJ (m:=slotArgs "__next__" 0 ⟨[.ref I],[]⟩) (T5 ?_);calc TJ (wpAny_fieldsOf b c ?_);calc TJ (TJ (zBV f h d (T5 ?_)));simp;calc TJ (wu f h T g p l λz d r=>?_);rw[j]at d;cases z with
 |some p=>cases d
 |none =>
  calc TJ (zCm b c 52 ?_);calc TJ ?_;calc TJ (m:=firstArgMember _ _) (wpAny_of_eq (a:=Value.none) (by first|rfl|(rfl)) ?_);calc zBb ?_ (by size_fits);calc TJ (wpAny_handled ?_);rw[show A.in1.handled=none from hh];calc TJ (T5 (wpAny_throw ?_));calc TJ (zCO (T := "StopIteration") (b:=true) ⟨_,Xg _ rfl,rfl⟩ isSubtype_stop ?_);calc T5 (n _ (((zBP ..).extBut.push _).push _))
def N2{Q:yaa}(st:wX w s.heap I a t n ep i)(h:Q (.ref I) s):wpAny (model prog w) A (pyIter (.ref I)) Q E s:=by let a:=xR st;calc wpAny_pyIter_slot a qN (zBa qN a zp ?_ (Ak _));calc T5 ⟨_,rfl,"set_iterator", _,a,dF.lookup,h⟩
def Ja (hh:A.handled=none) (I a:Addr) (e:a≠I) {o:Obj} (g:o.data=.set es ep t) (T:Tab t hs) (f:#[hs]=es.size) (j:t.plain=true/\t.led=!w.params.followText "set-order") :
  Walks prog w A I [I,a] [I] es.size (λi v=>∃x,(eR w a es ep)[i]?=some x/\x.2=v) (λi h=>wX w h I a t es.size ep i/\h.get? a=some o) where
 sub:=58
 frame:=λ_ _ _ st d=>⟨by let⟨⟨o,b,c,r⟩,_⟩:=st;calc⟨o,b,d I 52 o c,r⟩,47⟩
 item:=λi s Q E k st c=>by
  let b:i<(eR w a es ep).size:=by simp_all [mD]
  refine N1 st.2 g T f j st.1 (zBI b) λd b sb=>?_
  exact c _ d s.toks 47 ⟨b,sb.extBut a o e st.2⟩ λb o a e=>sb.extBut b o 58 e
 done:=λs Q E st c=>Q9 hh st.2 g T f j st.1 (by simp_all [mD]) λd sb=>c d s.toks λb o a e=>sb b o 58 e
 self:=λ_ _ _ _ st c=>N2 st.1 c
def JT {o:Obj} {Q:yaa} (c:s.heap.get? a=some o) (b:o.cls=.type "set") (d:o.data=.set es e t) (T:Tab t hs) (f:#[hs]=es.size) (WC:t.plain=true)
  (g:Q (.ref s.heap.objs.size) {s with heap:=s.heap.push {cls:=.type "set_iterator", data:=.fields #[.int 0 0,.int 0 0,.ref a,.int (es.size:Nat) 0,.int (e:Nat) 0]} }):wpAny (model prog w) A (pyIter (.ref a)) Q E s:=by
 let e:s.TypeIs (.ref a) "set" := ⟨o,c,b⟩;let b:t.fits es.size=true:=by rw[<- f];exact T.fits
 calc wpAny_pyIter_slot e F.slot_set_iter (zBa F.slot_set_iter e AW ?_ (F.args_set_iter_1 _));calc TJ (m:=Builtin.Frozenset.slot0 "__iter__" ⟨[.ref a],[]⟩) (T5 ?_);calc TJ (TJ (TJ (zBV c d b (T5 (T5 ?_)))));calc TJ (TJ (zBV c d b ?_));calc TJ (TJ (wpAny_askSetting (T5 (T5 ?_))));split;rename_i h;let i:(!(w.params.followText "set-order") && (!t.plain && decide (es.size > 1)))=true:=h
 cbv
 calc TJ (T5 ?_);calc TJ (TJ (zBV c d b (T5 ?_)));calc TJ (zBb ?_ (by size_fits));calc T5 ⟨_,rfl,"set_iterator", _,⟨_,Xg _ rfl,rfl⟩,dF.lookup,g⟩
def Cw {o:Obj} {Q:yad->Shared->Prop} (hh:A.handled=none) (g:s.heap.get? a=some o) (e:o.cls=.type "set") (n:o.data=.set es i t) (T:Tab t hs) (m:#[hs]=es.size) (p:t.plain=true/\t.led=!w.params.followText "set-order") (B:es.size<=1000)
  (q:∀d (c:yad),(∀b o,s.heap.get? b=some o->d.heap.get? b=some o)->d.gens=s.gens->d.drawn=s.drawn->d.os=s.os->s.heap.objs.size<=d.heap.objs.size->c=(eR w a es i).toList.map (·.2)->Q c d):wpAny (model prog w) A (collect (.ref a)) Q E s:=by
 ext collect;let l:a<s.heap.objs.size:=U5 g;calc TJ (wpAny_runValue (zBO F.entry_proto_collect ?_));calc TJ (zBb ?_);calc T5 ⟨zB3 F.plain_list_iadd _,zBO F.entry_list_iadd ?_⟩;show wpAny _ A.in1 (Builtin.List.listExtendWith (.ref s.heap.objs.size) (.ref a) (.ref s.heap.objs.size)) _ _ _;generalize hH:s.heap.push {cls:=.type "list", data:=.seq ([]:yad).toArray}=H;let u:H.objs.size=s.heap.objs.size+1:=by rw[<- hH,zCk]
 let f:H.get? a=some o:=hH ▸ VX _ g;let c:Shared.TypeIs {s with heap:=H} (.ref a) "set" := ⟨o,f,e⟩;calc TJ (wpAny_typeOf c ?_);let h:Builtin.List.listSameRef (.ref s.heap.objs.size) (.ref a)=false:=by have:s.heap.objs.size≠a:=zBn l;simp[Builtin.List.listSameRef,this]
 let g:(Value.type "set" == Value.type "list")=false:=23
 let c:(Value.type "set" == Value.type "tuple")=false:=23
 simp only[h,g,c,Bool.or_false,zBH,if_false];calc TJ (JT f e n T m p.1 ?_);generalize hH2:H.push {cls:=.type "set_iterator", data:=.fields #[.int 0 0,.int 0 0,.ref a,.int (es.size:Nat) 0,.int (i:Nat) 0]}=h;let c:Shared.TypeIs {s with heap:=h} (.ref a) "set" := ⟨o,hH2 ▸ VX _ f,e⟩;calc TJ (YH ?_);refine TJ (zCv c F.slot_set_len.lookup ?_)
 wp_delta
 calc TJ (zCO (T := "set") (b:=true) c (by rw[isSubtype_type];kernel_rfl) ?_);calc TJ (wpAny_typeOf c ?_);calc T5 ?_;rw[TU 23];calc TJ (wpAny_rule ?_);calc TJ ?_;let e:h.get? s.heap.objs.size=some {cls:=.type "list", data:=.seq ([]:yad).toArray}:=hH2 ▸ VX _ (hH ▸ Xg _ rfl);calc TJ (zB6 e rfl ?_);let c:=zA2 (Obj.mapSeq (·.push Value.none)) e rfl;calc zB6 (hz:=by seq_fits) c rfl ?_;let g:=zA2 (Obj.mapSeq (·.pop)) c rfl;let c:∀b o,b≠s.heap.objs.size->h.get? b=some o->((h.update s.heap.objs.size (Obj.mapSeq (·.push Value.none))).update s.heap.objs.size (Obj.mapSeq (·.pop))).get? b=some o :=
  λb o j e=>(zA7 _ _ (Ne.symm j)).trans ((zA7 _ _ (Ne.symm j)).trans e)
 let r:h.get? H.objs.size=some {cls:=.type "set_iterator", data:=.fields #[.int 0 0,.int 0 0,.ref a,.int (es.size:Nat) 0,.int (i:Nat) 0]}:=hH2 ▸ Xg _ rfl;let i:H.objs.size≠s.heap.objs.size:=33
 let h:a≠H.objs.size:=33
 let k:s.heap.objs.size ∉ [H.objs.size,a]:=58
 let W:=Ja (prog:=prog) (w:=w) (A:=A.in1) hh H.objs.size a h n T m p;refine T5 ⟨zB3 F.plain_extend_loop _,codeAny_extend_loopS W.toS (by grind [sizeLine_eq]) _ k _ es.size 0 _ _ _ rfl (Yt _)
  ⟨⟨_,0,c _ _ i r,rfl,rfl,λ_=>EX T.rise⟩,c _ _ (WG l) (hH2 ▸ VX _ f)⟩ g (ItemsOf.nil _) λd f C g c a=>?_⟩
 calc TJ (wpAny_load c ?_);let h:∀b o,s.heap.get? b=some o->d.heap.get? b=some o:=λb i e=>by let z:=U5 e;calc g.heap b i (λj=>?_) (by grind [Nat.ne_of_lt,Heap.get?_push_of_some]);grind
 calc T5 (q d f.toList h g.gens g.drawn g.os (zBf (U5 c)) ?_);let⟨y,x⟩:=a;apply List.ext_getElem?;grind [Array.getElem?_toList,List.getElem?_map,Array.getElem?_eq_getElem,Array.getElem?_eq_none,mD]
end
end SW
namespace SS
open PySem PySem.W PyProof.Rows
def good{a:Type}(r:Nat->Nat)(n:Nat)(G:a->Prop):KasT a->Prop
 |.ret a=>G a
 |.ask i j k=>i<n/\j<n/\good r n G (k (decide (r i<r j)))
theorem gA{b c:Type}{r:Nat->Nat}{n:Nat}{G:b->Prop}{e:c->Prop}{f:b->KasT c}(d:∀a,G a->good r n e (f a)):∀t:KasT b,good r n G t->good r n e (t.bind f)
 |.ret a,h=>d a h
 |.ask _ _ k,⟨c,b,a⟩=>⟨c,b,gA d _ a⟩
theorem good_mono{b:Type}{G d:b->Prop}(c:∀a,G a->d a):∀t:KasT b,good r n G t->good r n d t
 |.ret a,h=>c a h
 |.ask _ _ _,⟨d,b,a⟩=>⟨d,b,good_mono c _ a⟩
theorem DY{c:Type}{r:Nat->Nat}{n:Nat}{G:c->Prop}{b:Nat->Nat->(Bool->Shared->Prop)->Shared->Prop}{Q:c->Shared->Prop}(e:∀i j C,i<n->j<n->C (decide (r i<r j)) s->b i j C s)(d:∀a,G a->Q a s):∀t:KasT c,good r n G t->t.kasWp b Q s
 |.ret a,h=>d a h
 |.ask i j k,⟨c,b,a⟩=>e i j _ c b (DY e d _ a)
section
variable{r:Nat->Nat}{n:Nat}
def v(r:Nat->Nat)(p:yao)(k:Nat):Nat:=r (p.getD k 0)
def S(r:Nat->Nat)(p:yao)(k:Nat):Prop:=∀i j,i<=j->j<k->v r p i<=v r p j
def D(r:Nat->Nat)(p:yao)(k:Nat):Prop:=∀i j,i<=j->j<k->v r p j<=v r p i
structure Ok(n:Nat)(p:yao):Prop where
 perm:p.Perm (List.toArray (List.range n))
theorem Ok.size(h:Ok n p):p.size=n:=by have:=h.perm.size_eq;simpa using this
def Ok.lt(h:Ok n p){k:Nat}(b:k<n):p.getD k 0<n:=by
 let a:=h.size;let m:p[k]' 33∈p.toList:=52
 have:=(zDF.mp h.perm).mem_iff.mp m
 cbv
def Cm{p q:yao}{a b:Nat}(h:p[a]?=q[b]?):v r p a=v r q b:=by
 ext v
 cbv
def Ga{p:yao}{j:Nat}(a:j<=p.size)(k:Nat):v r (kas_rev p i j) k=if i<=k/\k<j then v r p (i+j - 1 - k)else v r p k:=by let h:=getElem?_mirror_all (i:=i) a k;split;rename_i c;rw[TU c]at h;calc Cm h;rename_i c;rw[TM c]at h;calc Cm h
def Ok.rev(h:Ok n p)(i j:Nat):Ok n (kas_rev p i j):=⟨(mirror_perm p i j _).trans h.perm⟩
theorem Ok.bubble(h:Ok n p)(k d:Nat):Ok n (PyProof.Rows.bubble p k d):=⟨(bubble_perm p k d).trans h.perm⟩
def Ck{p:yao}{k l:Nat}(b:k<p.size)(d:l<=k)(a:Nat):v r (PyProof.Rows.bubble p k (k - l)) a=if a=l then v r p k else if l<a/\a<=k then v r p (a - 1)else v r p a:=by let h:=getElem?_bubble b (k - l) 33 a;rw[show k - (k - l)=l by lia]at h;split;rename_i c;rw[TU c]at h;calc Cm h;rename_i c;rw[TM c]at h;split;rename_i a;rw[TU a]at h;calc Cm h;rename_i a;rw[TM a]at h;calc Cm h
theorem Al(O:Ok n p):∀(f m:Nat),1<=m->m+f<=n->S r p m->good r n (λa=>m<=a/\a<=m+f/\S r p a/\(a<m+f->v r p a<v r p (a - 1))) (kas_asc p f m)
 |0,m,_,_,h=>⟨VY _,VY _,h,33⟩
 |f+1,m,g,e,h=>by
  calc⟨O.lt 33,O.lt 33,?_⟩;by_cases c:r (p.getD m 0)<r (p.getD (m - 1) 0);simp only[c,decide_true,zCW];calc⟨VY _,33,h,λ_=>c⟩;simp only[c,decide_false,zBH,if_false];let a:S r p (m+1):=λi j b d=>by
   obtain z|z:=zCS j m;calc h i j b z;have:j=m:=33
   subst this;obtain y|y:=zCS i j;have:=h i (j - 1) 33 33;let k:v r p (j - 1)<=v r p j:=zCq c
   lia
   grind
  calc good_mono 33 _ (Al O f (m+1) 33 33 a)
def v_eq{p:yao}{i j:Nat}(b:j<=p.size)(h:∀a,i<=a->a<j->v r p a=v r p (j - 1))(k:Nat):v r (kas_rev p i j) k=v r p k:=by rw[Ga b];split;rename_i c;rw[h k c.1 c.2,h (i+j - 1 - k) (by omega) (by omega)];rfl
def D.cong(e:∀a,v r q a=v r p a)(h:D r p k):D r q k:=λi j a b=>by rw[e,e];calc h i j a b
theorem rF:∀(f:Nat) (p:yao) (m q:Nat),Ok n p->m+f<=n->q+1<=m->D r p m->(∀a,m - (q+1)<=a->a<m->v r p a=v r p (m - 1)) →
  good r n (λz=>Ok n z.1/\m<=z.2.1/\z.2.1<=m+f/\D r z.1 z.2.1/\z.2.2+1<=z.2.1/\∀a,z.2.1 - (z.2.2+1)<=a->a<z.2.1->v r z.1 a=v r z.1 (z.2.1 - 1)) (kas_desc f p m q)
 |0,p,m,q,O,_,l,d,b=>⟨O,VY _,VY _,d,l,b⟩
 |f+1,p,m,q,O,x,l,d,b=>by
  let os:=O.size;ext kas_desc;calc⟨O.lt 33,O.lt 33,?_⟩;let o:v r p m<=v r p (m - 1)->D r p (m+1):=λc i j e A=>by
   obtain z|z:=zCS j m;calc d i j e z;have:j=m:=33
   subst this;obtain y|y:=zCS i j;have:=d i (j - 1) 33 33
   lia
   have:i=j:=33
   subst this;exact VY _
  by_cases c:r (p.getD m 0)<r (p.getD (m - 1) 0);simp only[c,decide_true,zCW];let t:D r p (m+1):=o (zBf c);split;let e:=v_eq (r:=r) (p:=p) (i:=m - (q+1)) (j:=m) 33 b;exact good_mono (λz k=>(by let⟨j,w,u,i,h,g⟩:=k;calc⟨j,33,33,i,h,g⟩)) _ (rF f (kas_rev p (m - (q+1)) m) (m+1) 0 (O.rev _ _) 33 33 (t.cong e) λa s e=>by
   have:a=m:=33
   subst this;rfl)
  exact good_mono (λz k=>(by let⟨j,w,u,i,h,g⟩:=k;calc⟨j,33,33,i,h,g⟩)) _ (rF f p (m+1) 0 O 33 33 t λa s e=>by
   have:a=m:=33
   subst this;rfl)
  simp only[c,decide_false,zBH,if_false];calc⟨O.lt 33,O.lt 33,?_⟩;by_cases c:r (p.getD (m - 1) 0)<r (p.getD m 0);simp only[c,decide_true,zCW];calc⟨O,VY _,zCp _ _,d,l,b⟩;simp only[c,decide_false,zBH,if_false];let c:v r p m=v r p (m - 1):=by ext v;lia
  exact good_mono (λz k=>(by let⟨j,w,u,i,h,g⟩:=k;calc⟨j,33,33,i,h,g⟩)) _ (rF f p (m+1) (q+1) O 33 33 (o (zDN c)) λa s e=>by
   obtain z|z:=zCS a m;rw[b a 33 z];calc c.symm;have:a=m:=33
   subst this;rfl)
def Eu{p:yao}{m:Nat}(O:Ok n p)(a:1<=m)(f:m<=n)(c:D r p m):good r n (λz=>Ok n z.2/\1<=z.1/\z.1<=n/\S r z.2 z.1) (kas_tail3 m n p):=by
 let os:=O.size;let b:S r (kas_rev p 0 m) m:=λi j Wg g=>by rw[Ga 33,Ga 33,TU 33,TU 33];exact c _ _ 33 33
 calc gA (λe d=>?_) _ (Al (O.rev 0 m) (n - m) m a 33 b);let⟨c,h,b,_⟩:=d;calc⟨O.rev _ _,Xb a c,33,b⟩
def Ee{p:yao}{m:Nat}(O:Ok n p)(e:m+1<=n)(a:D r p (m+1)):good r n (λz=>Ok n z.2/\1<=z.1/\z.1<=n/\S r z.2 z.1) (kas_descPart m n p):=by
 ext kas_descPart;refine gA (λz ⟨b,j,i,c,h,d⟩=>?_) _ (rF (n - (m+1)) p (m+1) 0 O (by omega) (by omega) a λa g f=>by
  have:a=m:=by omega
  subst this;rfl)
 let os:=b.size;split;calc Eu (b.rev _ _) (by omega) (by omega) (c.cong (v_eq (by omega) d));calc Eu b (by omega) (by omega) c
def Jy(O:Ok n p)(k:1<=n):good r n (λz=>Ok n z.2/\1<=z.1/\z.1<=n/\S r z.2 z.1) (kas_count n p):=by
 let os:=O.size;ext kas_count;refine gA (λm ⟨a,s,d,e⟩=>?_) _ (Al (r:=r) O (n - 1) 1 (VY _) 33 λi j h g=>by
  have:i=j:=33
  subst this;calc VY _)
 split;rename_i c;let b:m=n:=by simpa using c
 calc⟨O,a,33,d⟩;rename_i c;let b:m≠n:=by simpa using c
 let f:=e 33;split;calc⟨O.lt 33,O.lt 33,?_⟩;by_cases c:r (p.getD 0 0)<r (p.getD (m - 1) 0);simp only[c,decide_true,zCW];calc⟨O,a,33,d⟩;simp only[c,decide_false,zBH,if_false];let b:∀a,0<=a->a<m->v r p a=v r p (m - 1):=λa _ e=>by
  let q:=d 0 a 33 e;let o:=d a (m - 1) 33 33;let l:v r p (m - 1)<=v r p 0:=zCq c
  lia
 let e:=v_eq (r:=r) (p:=p) (i:=0) (j:=m) 33 b;refine Ee (O.rev _ _) 33 λi j h g=>?_
 rw[e,e];obtain z|z:=zCS j m;rw[b i 33 33,b j 33 z];calc VY _;have:j=m:=33
 subst this;obtain y|y:=zCS i j;rw[b i 33 y];calc zBf f;have:i=j:=33
 subst this;calc VY _;let a:m=1:=33
 subst a;refine Ee O 33 λi j h g=>?_
 obtain y|y:=zCS i j;let b:i=0:=33
 let a:j=1:=33
 subst b a;calc zBf f;have:i=j:=33
 subst this;calc VY _
theorem ue{k:Nat}(O:Ok n p)(g:k<n)(hs:S r p k):∀(f l h:Nat),l<=h->h<=k->h - l<=f->(∀a,a<l->v r p a<=v r p k)->(∀a,h<=a->a<k->v r p k<=v r p a) →
  good r n (λb=>b<=k/\(∀a,a<b->v r p a<=v r p k)/\∀a,b<=a->a<k->v r p k<=v r p a) (kas_place p k f l h)
 |0,l,h,i,c,e,d,b=>by
  have:l=h:=33
  subst this;calc⟨c,d,b⟩
 |f+1,l,h,i,c,e,d,b=>by
  ext kas_place;split;have:l=h:=33
  subst this;calc⟨c,d,b⟩;calc⟨O.lt 33,O.lt 33,?_⟩;by_cases c:r (p.getD k 0)<r (p.getD ((l+h) / 2) 0);simp only[c,decide_true,zCW];refine ue O g hs f l ((l+h) / 2) 33 33 33 d λa e d=>?_
  have:=hs ((l+h) / 2) a e d;let d:v r p k<v r p ((l+h) / 2):=c
  lia
  simp only[c,decide_false,zBH,if_false];calc ue O g hs f ((l+h) / 2+1) h 33 33 33 (λa j=>?_) b;have:=hs a ((l+h) / 2) 33 33;let d:v r p ((l+h) / 2)<=v r p k:=zCq c
  lia
theorem GB:∀(f:Nat) (p:yao) (k:Nat),Ok n p->k+f=n->S r p k->good r n (λz=>Ok n z/\S r z n) (kas_bin f p k)
 |0,p,k,O,a,b=>by
  have:k=n:=33
  subst this;calc⟨O,b⟩
 |f+1,p,k,O,a,b=>by
  let os:=O.size;ext kas_bin;calc gA (λl ⟨c,g,e⟩=>GB f _ (k+1) (O.bubble k (k - l)) 33 λi j Wg h=>?_) _ (ue O 33 b k 0 k 33 33 33 (λa d=>absurd d (Nat.not_lt_zero _)) λa o m=>33);rw[Ck 33 c,Ck 33 c]
  repeat' split
  all_goals first
   |calc VY _
   |(exfalso;lia)
   |calc e _ 33 33
   |calc g _ 33
   |calc b _ _ 33 33
def N3(a:1<=n):good r n (λz=>Ok n z/\S r z n) (kas_sort n):=by
 ext kas_sort;calc gA (λz c=>?_) _ (Jy (r:=r) ⟨Array.Perm.refl _⟩ a);let⟨b,e,d,a⟩:=c;split;rw[show max z.1 1=z.1 by lia];calc GB _ _ _ b 33 a;have:z.1=n:=33
 rw[this]at a;calc⟨b,a⟩
end
end SS
namespace SW
open PySem PySem.SetTable ST PySem.W PyProof.Rows
noncomputable def lexLt:yaf->yaf->Bool
 |_,[]=>false
 |[],_::_=>true
 |a::x,b::y=>if a=b then lexLt x y else decide (a<b)
theorem kJ:∀x,lexLt x x=false
 |[]=>rfl
 |a::x=>by ext lexLt;rw[TU rfl];calc kJ x
theorem sV:∀x y z,lexLt x y=true->lexLt y z=true->lexLt x z=true
 |_,[],_,h,_=>by unfold lexLt at h;cases h
 |_,_::_,[],_,h=>by unfold lexLt at h;cases h
 |[],_::_,_::_,_,_=>rfl
 |a::x,b::y,c::z,e,d=>by
  unfold lexLt at e d ⊢;split at e<;>split at d;rename_i g f;rw[TU (g.trans f)];calc sV x y z e d;rename_i g f;subst g;rw[TM f];calc d;rename_i g f;subst f;rw[TM g];calc e;let j:a<b:=by simpa using e
  let i:b<c:=by simpa using d
  rw[TM (by omega)];simp;omega
theorem lW:∀x y,lexLt x y=false->x=y∨lexLt y x=true
 |[],[],_=>.inl rfl
 |[],_::_,h=>by unfold lexLt at h;lia
 |_::_,[],_=>.inr rfl
 |a::x,b::y,h=>by
  unfold lexLt at h ⊢;split at h;rename_i e
  simp_all [lW]
  lia
theorem AD{a:Type}(p q:a->Bool):∀l:List a,(∀z∈l,p z=true->q z=true)->(∃z∈l,p z=false/\q z=true)->l.countP p<l.countP q
 |[],_,⟨_,h,_⟩=>by cases h
 |x::l,h,⟨z,a,c,b⟩=>by
  rw[List.countP_cons,List.countP_cons];let d:l.countP p<=l.countP q:=List.countP_mono_left 58;obtain y|y:=VC.mp a
  lia
  let ih:=AD p q l 58 ⟨z,y,c,b⟩;grind
def rank(K:List (yaf))(x:yaf):Nat:=K.countP λy=>lexLt y x
def Ei{K:List (yaf)}{x y:yaf}(g:x∈K)(f:y∈K):decide (rank K x<rank K y)=lexLt x y:=by
 let c:∀a b,a∈K->lexLt a b=true->rank K a<rank K b:=λa b e h=>AD _ _ K (λz _ d=>sV z a b d h) ⟨a,e,kJ a,h⟩
 cases e:lexLt x y with
 |true=>simpa using c x y g e
 |false =>
  obtain z|z:=lW x y e;subst z;simp;have:=c y x f z;simp
  lia
section
variable{prog:Program}{w:World}{A:Around}{E:yaa}{s:Shared}
def Qt{f:Bool}{Q:Bool->Shared->Prop}:∀{k d:yaf} {j vs:yad} (i:Nat),PySem.ItemsAre (intKind prog w) k j->PySem.ItemsAre (intKind prog w) d vs->f=decide (#[k]<#[d])->Q (lexLt k d) s->KatLex prog w A b f Q (j.zip vs) i s:=by
 intro k d j vs i h
 induction h generalizing d vs i with
 |nil =>
  intro l g q;calc kat_nil ?_;cases l with
  |nil=>rw[g];calc q
  |cons _ _=>rw[g];calc q
 |@cons a u x j o r ih =>
  intro l g q;cases l with
  |nil=>calc kat_nil ?_;rw[g];calc q
  |@cons c p y vs n m =>
   let⟨t,rfl⟩:=Value.isInt_shape o;let⟨z,rfl⟩:=Value.isInt_shape n;calc kat_cons (wpAny_eqBool_int ?_);by_cases e:a=c;subst e;rw[show(a==a)=true by simp];calc kat_yes (ih (i+1) m ?_ ?_);rw[g];simp;unfold lexLt at q;rw[TU rfl]at q;calc q;rw[show(a==c)=false by simp[e]];unfold lexLt at q;rw[TM e]at q;calc kat_no ?_;cases(b && i==0)with
   |true=>calc oneLt_int q
   |false=>calc kat_one _ _ (PySem.P.lt_int q)
def GL{Q:Bool->Shared->Prop}(e:(TK prog w).is s.heap k x)(a:(TK prog w).is s.heap k' y)(q:Q (lexLt k k') s):wpAny (model prog w) A (keyLt' (tuples' b) (.ref x) (.ref y)) Q E s:=by
 let⟨o,d,n,i,t,j,g⟩:=e;let⟨p,c,r,m,l,e,b⟩:=a;let a:∀{k:yaf} {f:yad},PySem.ItemsAre (intKind prog w) k f->#[k]=#[f]:=λh=>by
  induction h with
  |nil=>rfl
  |cons _ _ ih=>simp[ih]
 calc kat_lt i j m e (Qt 0 g b ?_ q);rw[a g,a b,YO,YO]
theorem Ez:∀{cs:yae} (K:Nat->yaf) (a:Nat),(∀(j:Nat) (c:Addr),cs[j]?=some c->(TK prog w).is s.heap (K (a+j)) c/\K (a+j) ≠ [])->∃e,KatTups s.heap (cs.map Value.ref) e/\#[e]=#[cs]/\∀v∈e,∃n t,v=Value.int n t
 |[],_,_,_=>⟨[],KatTups.nil,rfl,λ_ h=>by cases h⟩
 |c::cs,K,a,h=>by
  let⟨e,t,l,i⟩:=Ez (cs:=cs) K (a+1) λj c b=>by have:=h (j+1) c b;rw[show a+(j+1)=a+1+j by lia]at this;exact this
  let⟨⟨o,d,n,g,k,j,b⟩,f⟩:=h 0 c rfl;rw[Nat.add_zero]at b f;generalize K a=q at b f;generalize hL:d.toList=L at b;cases b with
  |nil=>calc absurd rfl f
  |@cons a u x m c p =>
   let⟨b,rfl⟩:=Value.isInt_shape c;calc⟨.int a b::e,KatTups.cons g k j ?_ t,by simp[l],λv hv=>?_⟩;rw[<- zA1,hL];rfl;obtain z|z:=VC.mp hv;calc⟨a,b,z⟩;calc i v z
def CC{cs:yae}{K:Nat->yaf}{Q:SortKind->Shared->Prop}(V2:0<#[cs])(h:∀(j:Nat) (c:Addr),cs[j]?=some c->(TK prog w).is s.heap (K j) c/\K j ≠ [])(q:Q (tuples' true) s):wpAny (model prog w) A (keyKind' (cs.map Value.ref).toArray) Q E s:=by
 let⟨e,t,l,b⟩:=Ez (s:=s) (cs:=cs) K 0 λj c a=>by rw[zCU];exact h j c a
 calc kat_kind (T:=.type "int") t 33 (λv hv=>?_) 23 q;let⟨n,d,rfl⟩:=b v hv;calc Looks.of_pure rfl
def L8{cs:yae}{K:Nat->yaf}{G:yao->Shared->Prop}(g:1<=#[cs])(h:∀(j:Nat) (c:Addr),cs[j]?=some c->(TK prog w).is s.heap (K j) c)
  (e:∀p:yao,SS.Ok #[cs] p->(∀i j,i<=j->j<#[cs]->lexLt (K (p.getD j 0)) (K (p.getD i 0))=false)->G p s):(kas_sort #[cs]).kasWp (kas_ask prog w A (tuples' true) (cs.map Value.ref)) G s:=by
 let a:∀i,i<#[cs]->K i∈(List.range #[cs]).map K:=λi c=>UQ.mpr ⟨i,List.mem_range.mpr c,rfl⟩
 calc SS.DY (r:=λi=>rank ((List.range #[cs]).map K) (K i)) (n:=#[cs]) (λi j C c b d=>?_) (λp ⟨O,S⟩=>e p O λi j f b=>?_) _ (SS.N3 g);ext kas_ask;let g:(cs.map Value.ref).getD i Value.none=.ref cs[i]:=by simp[c]
 let e:(cs.map Value.ref).getD j Value.none=.ref cs[j]:=by simp[b]
 rw[g,e];calc GL (h i _ (Wc c)) (h j _ (Wc b)) ?_;rw[Ei (a i c) (a j b)]at d;calc d;have:=S i j f b;unfold SS.v at this;let e:=Ei (a _ (O.lt b)) (a _ (O.lt (zBg f b)));rw[<- e];calc decide_eq_false (Nat.not_lt.mpr this)
theorem EB{a:Type}:∀l:List a,(l.zip l).map (·.2)=l
 |[]=>rfl
 |x::l=>by simp[EB l]
def range_getD{a:Type}(l:List a)(d:a):(List.range #[l]).map (λi=>l.getD i d)=l:=by apply List.ext_getElem;simp;intro i b a;simp;rw[Wc a];rfl
def Bp {cs:yae} {K:Nat->yaf} {P:PySem.Fin->Shared->Prop} (q:s.heap.get? a=some (seqObj "list" (cs.map Value.ref).toArray n)) (r:#[cs]<64)
  (h:∀(j:Nat) (c:Addr),cs[j]?=some c->(TK prog w).is s.heap (K j) c/\K j ≠ [])
  (t:∀h' (p:yao) m,SS.Ok #[cs] p->(∀i j,i<=j->j<#[cs]->lexLt (K (p.getD j 0)) (K (p.getD i 0))=false)->(∀b o,b≠a->s.heap.get? b=some o->h'.get? b=some o) →
   h'.get? a=some (seqObj "list" (List.toArray (p.toList.map λi=>(cs.map Value.ref).getD i Value.none)) m)->P (.done (.ret .none)) {s with heap:=h'}):wpAny (model prog w) A (Builtin.«list.sort» ⟨[.ref a],[]⟩) P E s:=by
 let k:#[cs.map Value.ref]=#[cs]:=T4 ..;obtain⟨f,e⟩:∃f,(s.heap.update a (Obj.mapSeq λ_=>(#[]:yan))).get? a=some (seqObj "list" #[] f):=⟨_,get?_update_seq q λ_=>#[]⟩;rw[list_sort_plain];calc TJ (listItems_at q rfl ?_);calc TJ (listUpdate_at q rfl ?_ (by rw[Yw,VA];lia) (Yt _));calc TJ (seqEpoch_at e rfl ?_);calc TJ (wpAny_newTuple ?_ (by show#[cs.map Value.ref]<=_;rw[VA];lia));calc TJ (wpAny_newList ?_ (Yt _));calc YH ?_;let d:(((s.heap.update a (Obj.mapSeq λ_=>(#[]:yan))).push (seqObj "tuple" (cs.map Value.ref).toArray 0)).push (seqObj "list" #[] 0)).get? a=some (seqObj "list" #[] f):=VX _ (VX _ e);let g:∀b o,b≠a->s.heap.get? b=some o->(((s.heap.update a (Obj.mapSeq λ_=>(#[]:yan))).push (seqObj "tuple" (cs.map Value.ref).toArray 0)).push (seqObj "list" #[] 0)).get? b=some o:=λb o n e =>
  VX _ (VX _ ((zA7 _ _ (Ne.symm n)).trans e))
 generalize ((s.heap.update a (Obj.mapSeq λ_=>(#[]:yan))).push (seqObj "tuple" (cs.map Value.ref).toArray 0)).push (seqObj "list" #[] 0)=H at d g ⊢;let l:∀(p:yao) (f:yan),SS.Ok #[cs] p->(∀i j,i<=j->j<#[cs]->lexLt (K (p.getD j 0)) (K (p.getD i 0))=false)->f=List.toArray (p.toList.map λi=>(cs.map Value.ref).getD i Value.none)->P (.done (.ret .none)) {s with heap:=H.update a (Obj.mapSeq λ_=>f)}:=λp f O S e=>by subst e;obtain⟨m,f⟩:∃m,(H.update a (Obj.mapSeq λ_=>List.toArray (p.toList.map λi=>(cs.map Value.ref).getD i Value.none))).get? a=some (seqObj "list" (List.toArray (p.toList.map λi=>(cs.map Value.ref).getD i Value.none)) m):=⟨_,get?_update_seq d λ_=>List.toArray (p.toList.map λi=>(cs.map Value.ref).getD i Value.none)⟩;exact t _ p m O S (λb o n e=>(zA7 _ _ (Ne.symm n)).trans (g b o n e)) f
 dsimp only;by_cases a:(cs.map Value.ref).toArray.size<2;rw[TU a,TU a];calc TJ (T5 ?_);rw[StateT.run_pure];calc TJ (T5 ?_);dsimp only;calc TJ (seqEpoch_at d rfl ?_);calc TJ (listUpdate_at d rfl ?_ (hsz2:=by rw[Array.size_map];show(pairsOf (cs.map Value.ref)).size<=_;rw[pairsOf_size,VA];lia));simp only[bne_self_eq_false,zBH,if_false];calc T5 (l (List.toArray (List.range #[cs])) _ ⟨Array.Perm.refl _⟩ (λi j Wg b=>?_) ?_);have:i=j:=by rw[Yw,k]at a;lia
 subst this;calc kJ _;show((cs.map Value.ref).toArray.zip (cs.map Value.ref).toArray).map (·.2)=_;let e:=range_getD (cs.map Value.ref) Value.none;rw[k]at e;rw[e];simp[EB];rw[TM a,TM a];rw[Yw,k]at a;let m:∀(j:Nat) (c:Addr),cs[j]?=some c->(TK prog w).is H (K j) c/\K j ≠ []:=λj c b=>by let⟨a,f⟩:=h j c b;exact⟨mL a λo e=>g c o (key_ne a q rfl 23) e,f⟩
 calc TJ (CC (s:={s with heap:=H}) 33 m ?_);refine TJ (Yz (kat_run (s:={s with heap:=H}) (ks:=cs.map Value.ref) (vs:=cs.map Value.ref) (Q:=λf a=>a={s with heap:=H}/\∃p:yao,arrOf f=p.map (kas_item ((cs.map Value.ref).toArray.zip (cs.map Value.ref).toArray))/\failedOf f=none/\SS.Ok #[cs] p/\∀i j,i<=j->j<#[cs]->lexLt (K (p.getD j 0)) (K (p.getD i 0))=false)
  (G:=λp a=>a={s with heap:=H}/\SS.Ok #[cs] p/\∀i j,i<=j->j<#[cs]->lexLt (K (p.getD j 0)) (K (p.getD i 0))=false)
  rfl (by rw[k];lia) (by rw[k];calc r) (λp f a u o n q=>(by let⟨i,h,g⟩:=q;calc⟨i,p,o,n,h,g⟩)) ?_) ?_ λ_ _ e=>e)
 rw[k];exact L8 (s:={s with heap:=H}) 33 (λj c b=>(m j c b).1) λp O S=>⟨rfl,O,S⟩
 rintro⟨⟨⟩,f⟩ a ⟨rfl,p,b,c,O,S⟩;dsimp only;let a:=kat_snds (ks:=cs.map Value.ref) (vs:=cs.map Value.ref) rfl b;rw[a];calc TJ (seqEpoch_at d rfl ?_);calc TJ (listUpdate_at d rfl ?_ (Yt _) (by rw[Yw,T4,YO,O.size,VA];lia));rw[c];simp only[bne_self_eq_false,zBH,if_false];calc T5 (l p _ O S rfl)
def Kr{a b:Type}{f:a->b}{l m:List b}(h:l.Perm m):∀xs:List a,m=xs.map f->∃zs:List a,zs.Perm xs/\l=zs.map f:=by
 induction h with
 |nil=>cbv
 |cons a _ ih =>
  intro xs e;cases xs with
  |nil=>cases e
  |cons x xs =>
   injection e with e1 e2;let⟨zs,p,q⟩:=ih xs e2;calc⟨x::zs,p.cons x,58⟩
 |swap a b l =>
  intro xs e
  match xs,e with
  |[],e=>cases e
  |[_],e=>simp at e
  |x::y::xs,e =>
   calc⟨y::x::xs,List.Perm.swap x y xs,58⟩
 |trans _ _ b a =>
  intro xs e;let⟨zs,p,q⟩:=a xs e;let⟨a,d,c⟩:=b zs q;calc⟨a,d.trans p,c⟩
def HE {zs:List (yaf×Addr)} {P:PySem.Fin->Shared->Prop} (c:s.heap.get? a=some (seqObj "list" ((zs.map (·.2)).map Value.ref).toArray n)) (hz:#[zs]<=63)
  (h:∀z∈zs,(TK prog w).is s.heap z.1 z.2/\z.1 ≠ [])
  (i:∀h' (ys:List (yaf×Addr)) f,ys.Perm zs->ys.Pairwise (λx y=>lexLt y.1 x.1=false)->(∀b o,b≠a->s.heap.get? b=some o->h'.get? b=some o) →
   h'.get? a=some (seqObj "list" ((ys.map (·.2)).map Value.ref).toArray f)->P (.done (.ret .none)) {s with heap:=h'}):wpAny (model prog w) A (Builtin.«list.sort» ⟨[.ref a],[]⟩) P E s:=by
 let d:#[zs.map (·.2)]=#[zs]:=T4 ..;refine Bp (K:=λj=>(zs.getD j ([],0)).1) c 33 (λj c a=>?_) λh' p f O S b k=>?_
 rw[WA]at a;let⟨z,c,e⟩:=zA8.mp a;let g:zs.getD j ([],0)=z:=by rw[Yu,c];rfl
 subst e;rw[g];calc h z (Xf c);calc i h' (p.toList.map λi=>zs.getD i ([],0)) f ?_ ?_ b ?_;let c:=(zDF.mp O.perm).map λi=>zs.getD i ([],0)
 let b:=range_getD zs ([],0);rw[<- d]at b;calc c.trans ?_;show((List.range #[zs.map (·.2)]).map λi=>zs.getD i ([],0)).Perm zs;rw[b];refine zBC.mpr λi j b a Wg=>?_
 rw[T4,YO]at b a;let c:=S i j 33 (by rw[<- O.size];calc a);let e:p.getD i 0=p[i]:=by simp[Array.getD,b]
 let d:p.getD j 0=p[j]:=by simp[Array.getD,a]
 rw[e,d]at c;simp only[zBF,Array.getElem_toList];calc c;calc k.trans ?_;congr 3;rw[Ww (l:=p.toList),Ww (l:=p.toList)];refine zB7 λi b=>?_
 let a:i<#[zs]:=by have:=(zDF.mp O.perm).mem_iff.mp b;simpa using this
 simp[a]
def SQ(prog:Program)(w:World)(A:Around)(s:Shared)(v:Value)(xs:List (yaf×Addr)):Prop:=∀(R:yad->Shared->Prop) (E:yaa),(∀s1 (a:List (yaf×Addr)),a.Perm xs->(∀b o,s.heap.get? b=some o->s1.heap.get? b=some o)->s1.gens=s.gens->s1.drawn=s.drawn->s1.os=s.os->s.heap.objs.size<=s1.heap.objs.size->R ((a.map (·.2)).map Value.ref) s1)->wpAny (model prog w) A (collect v) R E s
def y7{Q:yaa}(a:SQ prog w A.in1 s v xs)(t:#[xs]<=63)(h:∀x∈xs,(TK prog w).is s.heap x.1 x.2/\x.1 ≠ [])
  (l:∀s' (D:Addr) (ys:List (yaf×Addr)) c,(∀b o,s.heap.get? b=some o->s'.heap.get? b=some o)->s'.gens=s.gens->s'.drawn=s.drawn->s'.os=s.os->s.heap.objs.size<=D->ys.Perm xs->ys.Pairwise (λx y=>lexLt y.1 x.1=false) →
   s'.heap.get? D=some (seqObj "list" (ys.map λy=>Value.ref y.2).toArray c)->Q (.ref D) s'):wpAny (model prog w) A (call (.builtin "sorted") [v]) Q E s:=by
 calc Calls.call_function_entry kind_sorted plain_sorted entry_sorted (args_sorted1 _) ?_;ext Builtin.«sorted»;calc TJ (m:=checkCount "sorted" 1 1 _) (T5 ?_);calc TJ (a _ _ λa c g kp n m g3 i=>?_);let r:#[c]=#[xs]:=g.length_eq;let q:63<=sizeLine:=by rw[VA];decide
 calc TJ (wpAny_newList ?_ (by rw[T4,T4];lia));let f:(a.heap.push (seqObj "list" ((c.map (·.2)).map Value.ref).toArray 0)).get? a.heap.objs.size=some (seqObj "list" ((c.map (·.2)).map Value.ref).toArray 0):=Xg _ rfl;let d:∀b o,s.heap.get? b=some o->(a.heap.push (seqObj "list" ((c.map (·.2)).map Value.ref).toArray 0)).get? b=some o:=λb o e=>VX _ (kp b o e)
 show wpAny _ _ _ _ _ {a with heap:=a.heap.push (seqObj "list" ((c.map (·.2)).map Value.ref).toArray 0)};refine TJ (YH (zBa slot_list_sort ⟨_,f,rfl⟩ entry_list_sort ?body (args_list_sort _)))
 case body =>
  refine HE (s:={a with heap:=a.heap.push (seqObj "list" ((c.map (·.2)).map Value.ref).toArray 0)}) f 33 (λz k=>?_) λu ys p j sy c f=>?_
  have:=h z (g.mem_iff.mp k);calc⟨mL this.1 λo e=>d _ o e,this.2⟩;calc⟨_,rfl,T5 ⟨_,rfl,l _ a.heap.objs.size ys p (λb o e=>?_) n m g3 i (j.trans g) sy ?_⟩⟩;calc c b o (WG (XG (U5 e) i)) (d b o e);rw[Ww]at f;calc f
def C7{Q:yaa}(hh:A.handled=none)(X:jv prog w s.heap a xs)(f:#[xs]<=63)(p:∀x∈xs,x.1 ≠ [])
  (n:∀d (D:Addr) (ys:List (yaf×Addr)) c,(∀b o,s.heap.get? b=some o->d.heap.get? b=some o)->d.gens=s.gens->d.drawn=s.drawn->d.os=s.os->s.heap.objs.size<=D->ys.Perm xs->ys.Pairwise (λx y=>lexLt x.1 y.1=true) →
   d.heap.get? D=some (seqObj "list" (ys.map λy=>Value.ref y.2).toArray c)->Q (.ref D) d):wpAny (model prog w) A (call (.builtin "sorted") [.ref a]) Q E s:=by
 let⟨⟨o,h,o,t,l,e,m,g,T,z,_,_⟩,b,j⟩:=X;let i:h.size=#[xs]:=by rw[<- YO,g,T4]
 refine y7 (xs:=xs) (λR E' k=>?_) f (λx f=>⟨b x f,p x f⟩) λd D ys c u t r q p f sy b=>n d D ys c u t r q p f ?_ b
 refine Cw (show A.in1.handled=none from hh) l e.1 m T (by rw[T4,i]) z 33 λd b kp m l g3 i p=>?_
 let⟨c,e,n⟩:=Kr (tD w a h o) xs g;let a:b=(c.map (·.2)).map Value.ref:=by rw[p,n,Ww,Ww];rfl
 rw[a];calc k d c e kp m l g3 i;let b:(ys.map (·.1)).Nodup:=(f.map (·.1)).nodup_iff.mpr j;let a:ys.Pairwise λx y=>x.1≠y.1:=zCK.mp b
 refine(sy.and a).imp fun {x y} c=>?_
 let⟨b,a⟩:=c;obtain e|e:=lW _ _ b;calc absurd e.symm a;calc e
def collect_list {R:yad->Shared->Prop} {o:Obj} (f:s.heap.get? l=some o) (h:o.cls=.type "list") (g:o.data=.seq vs n) (hz:vs.size<=sizeLine)
  (k:∀h',(∀b x,s.heap.get? b=some x->h'.get? b=some x)->s.heap.objs.size<=h'.objs.size->R vs.toList {s with heap:=h'}):wpAny (model prog w) A (collect (.ref l)) R E s:=by
 let c:(s.heap.push {cls:=.type "list", data:=.seq ([]:yad).toArray}).get? s.heap.objs.size=some {cls:=.type "list", data:=.seq #[] 0}:=Xg _ rfl;let i:=zA2 (Obj.mapSeq (·++vs)) c rfl;let a:∀(d:yaa),wpAny (model prog w) A (load s.heap.objs.size >>= λx=>match x.data with|Data.seq e _=>pure e.toList|_=>unsupported "internal:collect") R d {s with heap:=(s.heap.push {cls:=.type "list", data:=.seq ([]:yad).toArray}).update s.heap.objs.size (Obj.mapSeq (·++vs))}:=λd=>by calc TJ (wpAny_load i (T5 ?_));rw[show((#[]:yan)++vs).toList=vs.toList by simp];exact k _ (λb x b=>(zA7 _ _ (zBn (U5 b))).trans (VX _ b)) 47
 calc(λq=>TJ (wpAny_runValue (zBO F.entry_proto_collect q))) ?_;calc TJ (zBb ?_);calc T5 ⟨zB3 F.plain_list_iadd _,zBO F.entry_list_iadd ?_⟩;refine Yz (wpAny_extend_seq (A:=A) (R:=λr b=>r=.ok (.ret (.ref s.heap.objs.size))/\b={s with heap:=(s.heap.push {cls:=.type "list", data:=.seq ([]:yad).toArray}).update s.heap.objs.size (Obj.mapSeq (·++vs))}) (s:={s with heap:=s.heap.push {cls:=.type "list", data:=.seq ([]:yad).toArray} }) _ l _ 0 (.inl rfl) c (VX _ f) h g ⟨rfl,rfl⟩ hz) (λf b q=>?_) λe b q=>absurd q.1 52
 cases f with
 |done f =>
  let⟨e,rfl⟩:=q;cases e;calc a _
 |again c=>calc⟨q.1,zCr q.2 λr j b=>by let⟨rfl,rfl⟩:=b;calc a _⟩
def B8 {o:Obj} {xs:List (yaf×Addr)} {Q:yaa} (e:s.heap.get? a=some o) (h:o.cls=.type "list") (g:o.data=.seq (xs.map λx=>Value.ref x.2).toArray n) (f:#[xs]<=63) (d:∀x∈xs,(TK prog w).is s.heap x.1 x.2/\x.1 ≠ [])
  (i:∀s' (D:Addr) (ys:List (yaf×Addr)) c,(∀b o,s.heap.get? b=some o->s'.heap.get? b=some o)->s'.gens=s.gens->s'.drawn=s.drawn->s'.os=s.os->s.heap.objs.size<=D->ys.Perm xs->ys.Pairwise (λx y=>lexLt y.1 x.1=false) →
   s'.heap.get? D=some (seqObj "list" (ys.map λy=>Value.ref y.2).toArray c)->Q (.ref D) s'):wpAny (model prog w) A (call (.builtin "sorted") [.ref a]) Q E s:=by
 let j:63<=sizeLine:=by rw[VA];decide
 calc y7 (xs:=xs) (λR E' k=>?_) f d i;refine collect_list e h g (by rw[Yw,T4];lia) λb kp a=>?_
 have:=k {s with heap:=b} xs (List.Perm.refl _) kp rfl rfl rfl a;rw[Ww]at this;calc this
end
end SW
namespace PD
open PySem PySem.Spec PyProof.Rows L2
section
variable{X:Cx}{pos:Pos}
def boot_sorted:bootBuiltins "sorted" = some (.builtin "sorted"):=72
def boot_set:bootBuiltins "set" = some (.type "set"):=72
theorem vB:∀{ns:yaf} {a:yad},Vals (ns.map V.int) a->PySem.ItemsAre (intKind prog w) ns a
 |[],a,r=>by rw[zDM]at r;cases r;calc .nil
 |n::ns,a,r=>by
  rw[Ya]at r;cases r with
  |cons h t =>
   let⟨b,rfl⟩:=h;calc .cons (by simp[intKind,Value.isInt]) (vB t)
def xq{k:yaf}(I:Inv X pins σ H s)(h:VD X.K H a (k.map V.int)):(SW.TK X.prog X.w).is s.heap k a:=by let⟨c,r,⟨o,e,b,n,a⟩,_⟩:=I.tuple h.w;calc⟨o,c.toArray,n,e,b,a,by simpa using vB r⟩
def Hl(a:bH k A):A.in1.in1.in1.units<cLine:=zBg (Nat.add_le_add_left (23:3<=64) _) a.units
def tupI(k:yaf):D:=.tup (k.map D.int)
def LP{K:yac}{P:yak}{H:Hp}{k:yaf}{v:V}(h:Den K P H (tupI k) v):∃a,v=.ref a/\VD K H a (k.map V.int):=by let⟨a,c,e,q,b⟩:=h.YF;rw[eI b]at q;calc⟨a,e,q⟩
def Ag(ys ks:List (yaf)):Prop:=ys.Pairwise (λx y=>SW.lexLt x y=true)/\∀k,k∈ys↔k∈ks
def JC(te:DE):DA:=λa Q=>te a λd=>∃t a,d=.lst t (a.map tupI)/\#[a]<=63/\(∀k∈a,k ≠ [])/\∀b,Ag b a->Q (b.map tupI)
def ve {e:Expr} {te:DE} {p p2 O:Pos} (hc:X.calm=true) (hu:X.A.in1.in1.in1.units<cLine) (hg:Gl X "sorted") (hm:X.mg "sorted" = none) (hg2:Gl X "set") (hm2:X.mg "set" = none) (he:Ul X e te)
  (XH:starEach [.Call (.Name "set" p2) [e] [] O] X.env=(false,eval (.Call (.Name "set" p2) [e] [] O) X.env)::starEach [] X.env:=by rfl) (WC:(backTo pos (starEach [] X.env)).any (·.1)=false:=by rfl)
  (o:starEach [e] X.env=(false,eval e X.env)::starEach [] X.env:=by rfl) (E:(backTo O (starEach [] X.env)).any (·.1)=false:=by rfl) :
  PEF X (.Call (.Name "sorted" p) [.Call (.Name "set" p2) [e] [] O] [] pos) (JC te):=by
 intro g s Y H W ρ Q I r h;calc zBh (dm I hg hm boot_sorted ?_ 23 23);calc PyProof.Rows.callWith_builtin1 ?_ XH WC;rw[XH];calc Calls.spliced_cons ?_;calc zBh (dm I hg2 hm2 boot_set ?_ 23 23);calc PyProof.Rows.callWith_type1 ?_ o E;rw[o];calc Calls.spliced_cons (T9 (he g s Y H W ρ _ I r h) λu L Ub=>?_);let⟨v,w,d,x,M,e1,hd,t,f,ed,lk,V2,q⟩:=Ub;subst ed;let⟨l,vs,ev,_,hq,hw⟩:=hd.Xd;subst ev;cases M;calc T5 ?_;let⟨U,M,pl,_⟩:=x.list hq;let hh:=x.ok.hd hc;let lvs:#[vs]=#[f]:=by rw[hw.len,T4]
 let l:#[U]=#[f]:=by rw[<- #[M],lvs]
 let J:∀(j:Nat) (k:yaf),f[j]?=some k->∃c:Addr,U[j]?=some (Value.ref c)/\VD X.K w c (k.map V.int):=λj k hk=>by let⟨v,ev,hv⟩:=hw.get (i:=j) (d:=tupI k) (by rw[WA,hk];rfl);let⟨c,rfl,hc⟩:=LP hv;let⟨u,eu,ru⟩:=M.get ev;cases ru;exact⟨c,eu,hc⟩
 refine SW.call_set_list hh hu pl.isList (by rw[Yw];lia) (λj=>f.getD j []) (λj v hj=>?_) λh2 A ys kp S yl yk yi=>?_
 let ZD:U[j]?=some v:=by simpa using hj
 let a:j<#[f]:=by rw[<- l];exact(Zn.mp ZD).1
 let⟨c,G,T⟩:=J j f[j] (Wc a);rw[ZD]at G;cases G;rw[show f.getD j []=f[j]by simp[a]];calc⟨c,rfl,xq x T⟩;let I2:L2.Inv X g Y w {L with heap:=h2,toks:=A}:=x.kept kp;calc T5 ?_;rw[Yw]at yl yk yi;let m:∀k,k∈ys.map (·.1)↔k∈f:=λk=>by rw[yk k];constructor;rintro⟨j,a,e⟩;rw[l]at a;rw[e,show f.getD j []=f[j]by simp[a]];calc zBZ a;intro hk;let⟨j,a,e⟩:=zAx hk;exact⟨j,by rw[l];calc a,by rw[<- e];simp[a]⟩
 let den:∀y∈ys,VD X.K w y.2 (y.1.map V.int):=λy N=>by
  let⟨j,a,n⟩:=yi y N;let b:U[j]?=some (.ref y.2):=by simpa using n
  rw[l]at a;let⟨c,G,T⟩:=J j f[j] (Wc a);rw[b]at G;cases G;let i:=xq I2 T;rw[(SW.TK X.prog X.w).inj (S.is_ y N) i];exact T
 refine SW.C7 (s:={L with heap:=h2,toks:=A}) hh S 33 (λy N=>V2 _ ((m _).mp (UQ.mpr ⟨y,N,rfl⟩))) λB D i c kp' g1 g2 g3 le C sz hD=>?_
 let lz:#[i]=#[ys]:=C.length_eq;let es:B={L with heap:=B.heap,toks:=B.toks}:=by cases B;dsimp only at g1 g2 g3 ⊢;subst g1 g2 g3;rfl
 let t:L.heap.objs.size<=D:=by let⟨_,_,_,_,ho,_⟩:=S.ex;exact zBf (XG (U5 ho) le)
 let nD:w D=none:=x.Uk.fresh t;let I3:L2.Inv X g Y (L2.upd w D (.lst (i.map λz=>V.ref z.2))) B:=by
  rw[es];calc x.laid (λb u e=>kp' b u (kp b u e)) t ⟨by rw[T4,VA];lia,i.map λz=>Value.ref z.2,c,?_,hD⟩;clear C sz hD lz
  induction i with
  |nil=>calc .nil
  |cons z i ih=>exact .cons rfl ih
 let dz:aq X.K W.bad w ((i.map (·.1)).map tupI) (i.map λz=>V.ref z.2):=by
  let VP:∀z∈i,VD X.K w z.2 (z.1.map V.int):=λz t=>den z (C.mem_iff.mp t)
  clear C sz hD lz I3
  induction i with
  |nil=>calc rfl
  |cons z i ih =>
   calc aq.cons (Den.tup (VP z ZN) ?_) (ih λz t=>VP z (W9 _ t));show aq X.K W.bad w (z.1.map PD.D.int) (z.1.map V.int);generalize z.1=k
   induction k with
   |nil=>calc rfl
   |cons n k b=>exact aq.cons (Den.int n) b
 let b:=Inv.kno I3 aW;calc⟨D,_,_,_,rfl,I3,e1.trans (au.upd nD),e1.free nD,b,aW,aq.apart nD b dz,q _ ⟨?_,λk=>?_⟩⟩;calc zCK.mpr sz;rw[(C.map (·.1)).mem_iff];calc m k
theorem Ls{K:yac}{P:yak}{H:Hp}:∀k:yaf,aq K P H (k.map PD.D.int) (k.map V.int)
 |[]=>rfl
 |n::k=>aq.cons (Den.int n) (Ls k)
def wZ(ys ks:List (yaf)):Prop:=ys.Perm ks/\ys.Pairwise (λx y=>SW.lexLt y x=false)
def DI(te:DE):DA:=λa Q=>te a λd=>∃t a,d=.lst t (a.map tupI)/\#[a]<=63/\(∀k∈a,k ≠ [])/\∀b,wZ b a->Q (b.map tupI)
def yI {p:Pos} (d:Gl X "sorted") (c:X.mg "sorted" = none) (g:Ul X e te)
  (a:starEach [e] X.env=(false,eval e X.env)::starEach [] X.env:=by rfl) (i:(backTo pos (starEach [] X.env)).any (·.1)=false:=by rfl) :
  PEF X (.Call (.Name "sorted" p) [e] [] pos) (DI te):=by
 intro f s y H W b Q I r h;calc zBh (dm I d c boot_sorted ?_ 23 23);calc PyProof.Rows.callWith_builtin1 ?_ a i;rw[a];calc Calls.spliced_cons (T9 (g f s y H W b _ I r h) λu z c=>?_);let⟨v,p,d,w,a,E,B,t,h,b,lk,G,q⟩:=c;subst b;let⟨l,c,o,_,A,n⟩:=B.Xd;subst o;cases a;calc T5 ?_;let⟨m,a,t,_⟩:=w.list A;let b:#[c]=#[h]:=by rw[n.len,T4]
 let g:#[m]=#[h]:=by rw[<- #[a],b]
 let l:∀(j:Nat) (k:yaf),h[j]?=some k->∃c:Addr,m[j]?=some (Value.ref c)/\VD X.K p c (k.map V.int):=λj k r=>by let⟨v,o,hv⟩:=n.get (i:=j) (d:=tupI k) (by rw[WA,r];rfl);let⟨c,rfl,r⟩:=LP hv;let⟨u,x,d⟩:=a.get o;cases d;exact⟨c,x,r⟩
 obtain⟨d,C,r⟩:∃d:List (yaf×Addr),m=d.map (λx=>Value.ref x.2)/\h=d.map (·.1):=by
  clear n A a t q G lk b B
  induction h generalizing m with
  |nil=>calc⟨[],zAk g,rfl⟩
  |cons k h ih =>
   cases m with
   |nil=>cases g
   |cons i m =>
    let⟨c,n,_⟩:=l 0 k rfl;cases n;let⟨d,a,b⟩:=ih m (by simpa using g) λj g i=>l (j+1) g i
    exact⟨(k,c)::d,by rw[a];rfl,by rw[b];rfl⟩
 let i:∀x∈d,VD X.K p x.2 (x.1.map V.int):=λx a=>by let⟨j,g,k⟩:=zAx a;let⟨c,n,m⟩:=l j x.1 (by rw[r,WA,Wc g,k];rfl);rw[C,WA,Wc g,k]at n;cases n;exact m
 let J:#[d]=#[h]:=by rw[r,T4]
 let⟨o,n,j,h,g⟩:=t;refine SW.B8 (s:=z) j h (by rw[<- C];calc g.2) 33 (λx a=>⟨xq w (i x a),G _ (by rw[r];calc UQ.mpr ⟨x,a,rfl⟩)⟩) λg D a c k s m g3 o h j l=>?_
 let n:#[a]=#[d]:=h.length_eq;let t:g={z with heap:=g.heap,toks:=g.toks}:=by cases g;subst s m g3;rfl
 let d:p D=none:=w.Uk.fresh o;let m:L2.Inv X f y (L2.upd p D (.lst (a.map λz=>V.ref z.2))) g:=by
  rw[t];calc w.laid (λb u e=>k b u e) o ⟨by rw[T4,VA];lia,a.map λz=>Value.ref z.2,c,?_,l⟩;clear h j l n
  induction a with
  |nil=>calc .nil
  |cons z a ih=>exact .cons rfl ih
 let e:aq X.K W.bad p ((a.map (·.1)).map tupI) (a.map λz=>V.ref z.2):=by
  let c:∀z∈a,VD X.K p z.2 (z.1.map V.int):=λz b=>i z (h.mem_iff.mp b)
  clear h j l n m
  induction a with
  |nil=>calc rfl
  |cons z a ih =>
   calc aq.cons (Den.tup (c z ZN) ?_) (ih λz b=>c z (W9 _ b));exact Ls z.1
 let a:=Inv.kno m aW;calc⟨D,_,_,_,rfl,m,E.trans (au.upd d),E.free d,a,aW,aq.apart d a e,q _ ⟨by rw[r];calc h.map _,zCK.mpr j⟩⟩
end
end PD
namespace HT
open PySem PyProof.Rows
section
open PySem.SeqAt
open PySem.AutoSeq1 (wpAny_loadPart')
open PySem.MeetsSeq PySem.MeetsSeq2 PySem.MeetsSeq3
end
end HT
namespace PD
open PySem PySem.Spec PyProof.Rows L2
section
variable{X:Cx}{pos:Pos}
def Md (G:X.calm=true):c7 X (.builtin "min") (λp Q=>∃(t:Bool) (ns:yaf),p=[.lst t (ns.map D.int)]/\0<#[ns]/\∀m,m∈ns->(∀n∈ns,m<=n)->Q (.int m)):=by
 intro k s O H W p U Y Q I tr r E q;let⟨t,ns,e,h,q⟩:=q;subst e;let⟨v,rfl,J⟩:=jQ E;let⟨a,T,M,_,B,A⟩:=J.Xd;subst M;cases r with
 |cons w u =>
  cases u;cases w;let⟨TV,i,x,_⟩:=I.list B;rw[eI A]at i;let l:=intsAre_of i;let⟨b,o⟩:=l.allInts.items;let C:s.heap.IsList a (intItems b):=by rw[<- o];exact x.isList
  let d:ns=b.toList.map (·.1):=by rw[<- l.numsOf,<- nums_intItems,<- o]
  let f:0<b.size:=by rw[d,T4,YO]at h;exact h
  refine min_intList (I.ok.hd G) C f λy h' tk z kp=>?_
  let⟨tt,rfl⟩:=intItems_at z;let⟨g1,L⟩:=argBest_lt (numAt b) (b.size - 1);let g:∀j,j<b.size->b.toList.map (·.1) ≠ []->numAt b j∈ns:=λj c _=>by
   rw[d,numAt_eq];have:(b.toList.map (·.1))[j]?=some ((b.toList.map (·.1)).getD j 0):=by simp[c]
   exact Xf this
  calc⟨.int _,H,_,I.kept kp,⟨_,rfl⟩,au.refl H,Den.int _,q _ (g _ (by omega) (by rw[<- d];calc zDK h)) λn m=>?_⟩;rw[d]at m;let⟨j,c,N⟩:=zAx m;have:numAt b j=n:=by rw[numAt_eq,<- N];simp only[Yu,Wc c,zDD]
  rw[<- this];rw[T4,YO]at c;calc L j (by omega)
end
def PW(g f g3:DG)(a b c:D)(ρ:Ro)(Q:Ro->Prop):dZ 3 (br g (br f (br g3 fL))) (.tup [a,b,c]) ρ Q=g a ρ λe=>f b e λd=>g3 c d Q:=by rw[qq 3 _ _ rfl];simp only[gdc,gdn]
def P4(o n g3 m l k:DG)(a b c d e f:D)(ρ:Ro)(Q:Ro->Prop):dZ 6 (br o (br n (br g3 (br m (br l (br k fL)))))) (.tup [a,b,c,d,e,f]) ρ Q=o a ρ λj=>n b j λi=>g3 c i λp=>m d p λh=>l e h λg=>k f g Q:=by rw[qq 6 _ _ rfl];simp only[gdc,gdn]
end PD
namespace SW
open PySem PySem.SetTable ST PySem.W PyProof.Rows
section
variable{prog:Program}{w:World}{A:Around}{E:yaa}{s:Shared}
structure TG(prog:Program)(w:World)(h:Heap)(a:Addr)(xs:List (Int×Tok)):Prop where
 ex:∃o es ep t,h.get? a=some o/\o.ExactSet/\o.data=.set es ep t/\es.toList=xs.map (λx=>((intKind prog w).hash x.1,Value.int x.1 x.2))/\Tab t (xs.map λx=>(intKind prog w).hash x.1)/\(t.plain=true/\t.led=!w.params.followText "set-order")/\7<=t.mask
 nd:(xs.map (·.1)).Nodup
end
end SW
namespace PD
open PySem PySem.Spec PyProof.Rows L2
section
variable{X:Cx}{pos:Pos}
end
section
variable{X:Cx}
inductive BDQ (X:Cx) (pins:yab) (P:yak) (Q:D->Prop) (f:Flow) (s1:Shared):Prop
 |mk (u:Value) (v:V) (d:D) (US:St) (H':Hp) (_:f=.ret u) (_:Inv X pins US H' s1) (_:RelV v u) (_:au X.Vl H') (_:Den X.K P H' d v) (_:Q d)
abbrev DB:=(D->Prop)->Ro->Prop
def Pc(t:DS)(u:DB):DB:=λQ a=>t {nx:=u Q,rt:=Q} a
def RL(t:DS):DB:=λQ a=>t {nx:=λ_=>False,rt:=Q} a
end
def FL(K:yac)(x:Str)(st:Stmt):Prop:=∃(f:Addr) (e:Value) (d:Option Addr) (kV g c:Value) (i:Option Addr) (a h:Value) (b:Array (yam)),
 PySem.W.nsIn K mainGlobals x=some (some (.ref f))/\K.lookup f=some ⟨e,d,.func (PySem.W.fnOf x x (cQ st) (bZ st) (aj st) .none kV g c i a h),b⟩/\PySem.W.codeIn K a x=true/\PySem.W.keepIn K (.ref f)=true
def FL.mk{K:yac}{x:Str}{st:Stmt}{f:Addr}{j:Value}{i:Option Addr}{kV k h:Value}{m:Option Addr}{e l:Value}{g:Array (yam)}(a:PySem.W.nsIn K mainGlobals x=some (some (.ref f)))
  (b:K.lookup f=some ⟨j,i,.func (PySem.W.fnOf x x (cQ st) (bZ st) (aj st) .none kV k h m e l),g⟩) (c:PySem.W.codeIn K e x=true) (d:PySem.W.keepIn K (.ref f)=true):FL K x st:=⟨f,j,i,kV,k,h,m,e,l,g,a,b,c,d⟩
def FL.has{K:yac}{x:Str}{st:Stmt}{h:Heap}{mg:yal}{k:Nat}{ps:yah}{sp:DSp}(e:FL K x st)(P:Program)(w:World)(base:Heap)(X:K.In h)(G:h.Ns mainGlobals mg)
  (o:∀{f:Addr} {a:FuncData},av K x x st f a->aA P w K mg base (CX1 P w) k f a ps (aD K sp))
  (p:∀(kV j i:Value) (n:Option Addr) (m l:Value),w5 #[ps] λg=>bindArgs (PySem.W.fnOf x x (cQ st) (bZ st) (aj st) .none kV j i n m l) ⟨g,[]⟩=pure (ps.zip g):=by
   repeat intro _
   rfl):UT P w K mg base x k ps sp:=by
 let⟨f,s,r,kV,j,i,n,m,l,q,a,b,c,d⟩:=e;calc⟨f,_,o (mJ b c d),PySem.W.mg_of X G a,d,.all λg a=>ro g a (p kV j i n m l)⟩
end PD
namespace HT
open PySem PyProof.Rows
section
open PySem.SeqAt
open PySem.AutoSeq1 (wpAny_loadPart')
open PySem.MeetsSeq PySem.MeetsSeq2 PySem.MeetsSeq3
end
end HT
namespace PD
open PySem PySem.Spec PyProof.Rows L2
section
variable{X:Cx}
structure Told(K:yac)(H:Hp)(b c t0:Addr)(k0:Int)(us ws qs:yaq):Prop where
 hb:H b=some (.lst (.int k0::us))
 hc:H c=some (.lst (.ref t0::ws))
 ht:H t0=some (.tup (.ref b::qs))
 kb:K.lookup b=none
 kc:K.lookup c=none
 kt:K.lookup t0=none
end
end PD
namespace PZ
open PySem PySem.Spec PyProof.Rows
def ZHe (h:Heap) (z TI TO a:Addr) (f:Bool):Prop:=h.get? z=some {cls:=.type "zip", dict:=none,data:=.fields #[rawInt a,.bool f,.bool false,.ref TI,.ref TO],slots:=#[]}
section
variable{prog:Program}{w:World}{A:Around}{E:yaa}{s:Shared}{k1 k2:Bool}{z TI TO i1 i2 l1 l2 a:Addr}{f:Bool}{i:Nat}{xs ys:yan}{oa:Obj}
def A5{Q:Bool->Shared->Prop}(hz:ZHe s.heap z TI TO a f)(b:s.heap.get? a=some oa)(h:∀g,ZHe g z TI TO a true->Heap.SameBut z s.heap g->Q false {s with heap:=g}):wpAny (model prog w) A (Builtin.SmallTypes.ownedTupleIsFree (.ref z)) Q E s:=by
 calc TJ (Yy hz rfl (x:=rawInt a) rfl ?_);calc TJ (PySem.W.kdx_alive b ?_);calc TJ (Yy hz rfl (x:=.bool f) rfl ?_);cases f with
 |true=>simp_all [T5,Heap.SameBut.refl]
 |false=>calc TJ (zCG hz 52 λg (c:ZHe g z TI TO a true) b=>T5 (h g c b))
def Jd{x y:Value}{Q:yam->Shared->Prop}(D:Ap z TI TO i1 i2)(r:Out z TO i1 i2 l1)(k:Out z TO i1 i2 l2)(hz:ZHe s.heap z TI TO a f)(d:s.heap.get? a=some oa)(l:IsPair s.heap TI (.ref i1) (.ref i2))(m:Ym k1 s.heap i1 l1 i)(B:Ym k2 s.heap i2 l2 i)
  (g:Xv k1 s.heap l1 xs) (q:Xv k2 s.heap l2 ys) (h:xs[i]?=some x) (t:ys[i]?=some y)
  (u:∀h',ZHe h' z TI TO a true->IsPair h' TI (.ref i1) (.ref i2)->Ym k1 h' i1 l1 (i+1)->Ym k2 h' i2 l2 (i+1)->IsPair h' s.heap.objs.size x y->(∀c o,c≠z->c≠i1->c≠i2->s.heap.get? c=some o->h'.get? c=some o)->Q (some (.ref s.heap.objs.size)) {s with heap:=h'}):wpAny (model prog w) A (pyNext (.ref z)) Q E s:=by
 let b:s.TypeIs (.ref z) "zip" := ⟨_,hz,rfl⟩;calc TJ (zCa (zBS (name:=Str.ofString "__next__") b F.slot_zip_next (zBa F.slot_zip_next b F.entry_zip_next ?_ (F.args_zip_next_1 _))));show wpAny _ _ (field (.ref z) 2 >>= _) _ _ _;calc TJ (Yy hz rfl (x:=.bool false) rfl ?_);calc TJ (Yy hz rfl (x:=.ref TI) rfl (TJ (zBL l rfl ?_)));calc TJ (A5 hz d λd p j=>?_);let b:∀c o,c≠z->s.heap.get? c=some o->d.get? c=some o:=λc o n e=>j.extBut c o n e
 calc TJ (TJ (TJ (YH ?_)));calc TJ (vJ (s:={s with heap:=d}) (m.of λo e=>b _ o D.a3 e) (g.of λo e=>b _ o r.c1 e) h λh r g=>T5 (T5 ?_));let d:∀c o,c≠z->c≠i1->s.heap.get? c=some o->h.get? c=some o:=λc o n m e=>g.extBut c o m (b c o n e)
 calc TJ (TJ (YH ?_));calc TJ (vJ (s:={s with heap:=h}) (B.of λo e=>d _ o D.a4 (Ne.symm D.b1) e) (q.of λo e=>d _ o k.c1 k.c3 e) t λg3 q b=>T5 (T5 ?_));calc T5 ?_;show wpAny _ _ (newTuple [x,y] >>= _) _ _ _;let h:g3.objs.size=s.heap.objs.size:=by rw[b.1,g.1,j.1]
 let j:∀c o,c≠z->c≠i1->c≠i2->s.heap.get? c=some o->g3.get? c=some o:=λc o n m k e=>b.extBut c o k (d c o n m e)
 calc TJ (wpAny_newTuple (T5 ⟨_,rfl,T5 ?_⟩));rw[h];refine u _ ?_ ?_ (r.of λo e=>?_) (q.of λo e=>?_) ?_ λc o n m k e=>?_
 calc VX _ (b.extBut _ _ (Ne.symm D.a4) (g.extBut _ _ (Ne.symm D.a3) p));calc VX _ (j _ _ D.a1 D.a6 D.a7 l);calc VX _ (b.extBut _ _ D.b1 e);calc VX _ e;rw[<- h];exact Xg _ rfl
 simp_all [VX]
def Je{Q:yam->Shared->Prop}(hh:A.handled=none)(D:Ap z TI TO i1 i2)(m:Out z TO i1 i2 l1)(hz:ZHe s.heap z TI TO a f)(d:s.heap.get? a=some oa)(e:IsPair s.heap TI (.ref i1) (.ref i2))(k:Ym k1 s.heap i1 l1 i)(g:Xv k1 s.heap l1 xs)(h:xs[i]?=none)
  (j:∀h',(∀c o,c≠z->c≠i1->s.heap.get? c=some o->h'.get? c=some o)->Q none {s with heap:=h'}):wpAny (model prog w) A (pyNext (.ref z)) Q E s:=by
 let b:s.TypeIs (.ref z) "zip" := ⟨_,hz,rfl⟩;calc TJ (zCa (zBS (name:=Str.ofString "__next__") b F.slot_zip_next (zBa F.slot_zip_next b F.entry_zip_next ?_ (F.args_zip_next_1 _))));show wpAny _ _ (field (.ref z) 2 >>= _) _ _ _;calc TJ (Yy hz rfl (x:=.bool false) rfl ?_);calc TJ (Yy hz rfl (x:=.ref TI) rfl (TJ (zBL e rfl ?_)));calc TJ (A5 hz d λb p l=>?_);let d:∀c o,c≠z->s.heap.get? c=some o->b.get? c=some o:=λc o n e=>l.extBut c o n e
 calc TJ (TJ (TJ (YH ?_)));calc TJ (Fg (s:={s with heap:=b}) hh (k.of λo e=>d _ o D.a3 e) (g.of λo e=>d _ o m.c1 e) h λk e l b=>?_);let⟨e,g,h⟩:=b;calc TJ (zCO (T := "StopIteration") (b:=true) ⟨e,g,h⟩ isSubtype_stop (T5 (j k λc o n m q=>l c o m (d c o n q))))
def ZL(k1 k2:Bool)(z TI TO i1 i2 l1 l2 S:Addr)(i:Nat)(h:Heap):Prop:=(i=0/\ZSt k1 k2 z TI TO i1 i2 l1 l2 0 h)∨((∃a f oa,ZHe h z TI TO a f/\h.get? a=some oa/\a≠S/\a≠z/\a≠TO/\a≠i1/\a≠i2)/\IsPair h TI (.ref i1) (.ref i2)/\Ym k1 h i1 l1 i/\Ym k2 h i2 l2 i)
def ZL.keep{h':Heap}(x:ZL k1 k2 z TI TO i1 i2 l1 l2 S i h)(g:z≠S)(d:TI≠S)(j:TO≠S)(B:i1≠S)(y:i2≠S)(kp:∀b o,b≠S->h.get? b=some o->h'.get? b=some o):ZL k1 k2 z TI TO i1 i2 l1 l2 S i h':=by
 rcases x with⟨e,Z⟩| ⟨⟨a,f,oa,p,o,h,n⟩,m,l,k⟩;let⟨q,u,⟨a,b,c⟩,t,r⟩:=Z;calc .inl ⟨e,kp _ _ g q,kp _ _ d u,⟨a,b,kp _ _ j c⟩,t.of 58,r.of 58⟩;calc .inr ⟨⟨a,f,oa,kp _ _ g p,kp _ _ h o,h,n⟩,kp _ _ d m,l.of 58,k.of 58⟩
def ZL.item{x y:Value}{Q:yam->Shared->Prop}(D:Ap z TI TO i1 i2)(q:Out z TO i1 i2 l1)(p:Out z TO i1 i2 l2)(Z:ZL k1 k2 z TI TO i1 i2 l1 l2 S i s.heap)(H:S<s.heap.objs.size)(b:z<s.heap.objs.size/\TO<s.heap.objs.size/\i1<s.heap.objs.size/\i2<s.heap.objs.size)(j:Xv k1 s.heap l1 xs)(h:Xv k2 s.heap l2 ys)(l:xs[i]?=some x)(k:ys[i]?=some y)
  (m:∀h',ZL k1 k2 z TI TO i1 i2 l1 l2 S (i+1) h'->IsPair h' s.heap.objs.size x y->(∀c o,c≠z->c≠TO->c≠i1->c≠i2->s.heap.get? c=some o->h'.get? c=some o)->Q (some (.ref s.heap.objs.size)) {s with heap:=h'}):wpAny (model prog w) A (pyNext (.ref z)) Q E s:=by
 let⟨M,L,J,I⟩:=b;rcases Z with⟨rfl,Z⟩| ⟨⟨a,f,oa,G,C,B,y,x,u,t⟩,r,o,b⟩;refine LX D q p Z j h l k λh' g e _ d c n kp=>m h' (.inr ⟨⟨s.heap.objs.size,false,_,g,n,zBn H,zBn M,zBn L,zBn J,zBn I⟩,e,d,c⟩) n kp
 calc Jd D q p G C r o b j h l k λh' g e b d c kp=>m h' (.inr ⟨⟨a,true,oa,g,47,B,y,x,u,t⟩,e,b,d⟩) c 47
def ZL.stop{Q:yam->Shared->Prop}(hh:A.handled=none)(D:Ap z TI TO i1 i2)(g:Out z TO i1 i2 l1)(n:Out z TO i1 i2 l2)(Z:ZL k1 k2 z TI TO i1 i2 l1 l2 S i s.heap)(b:Xv k1 s.heap l1 xs)(h:Xv k2 s.heap l2 ys)(d:xs[i]?=none)
  (e:∀h',(∀c o,c≠z->c≠TO->c≠i1->c≠i2->s.heap.get? c=some o->h'.get? c=some o)->Q none {s with heap:=h'}):wpAny (model prog w) A (pyNext (.ref z)) Q E s:=by
 rcases Z with⟨rfl,Z⟩| ⟨⟨a,f,oa,m,k,u,t,r,q,p⟩,j,c,l⟩;calc LY hh D g n Z b h (.inl d) e;calc Je hh D g m k j c b d λh' kp=>e h' 58
end
structure ZT(h:Heap)(xs ys:yan)(B:Addr)(as:yae):Prop where
 nd:as.Nodup
 ab:∀a∈as,B<=a
 pr:∀(j:Nat) (a:Addr),as[j]?=some a->∃x y,xs[j]?=some x/\ys[j]?=some y/\IsPair h a x y
section
variable{prog:Program}{w:World}{A:Around}{E:yaa}{s:Shared}{k1 k2:Bool}{z TI TO i1 i2 l1 l2 S B:Addr}{xs ys:yan}{R:Result->Shared->Prop}
def SN(hh:A.handled=none)(D:Ap z TI TO i1 i2)(t:Out z TO i1 i2 l1)(r:Out z TO i1 i2 l2)(sB:S<B)(e:z<B/\TO<B/\i1<B/\i2<B)(g:z≠S/\TI≠S/\TO≠S/\i1≠S/\i2≠S/\l1≠S/\l2≠S)(hn:xs.size<=sizeLine)(hxy:xs.size=ys.size)(d:Value){h0:Heap}
  (j:∀h' n a c f,(∀b o,b≠S->b≠z->b≠TO->b≠i1->b≠i2->h0.get? b=some o->h'.get? b=some o)->h'.get? S=some {cls:=.type "list", dict:=none,data:=.seq a c,slots:=#[]}->a.toList=f.map Value.ref->#[f]=xs.size->ZT h' xs ys B f->R (.ok (.ret d)) {s with heap:=h',toks:=n}) :
  ∀ (k i:Nat) (h:Heap) (n c:Nat) (a:yan) (f:yae),xs.size - i=k->i<=xs.size->ZL k1 k2 z TI TO i1 i2 l1 l2 S i h->Xv k1 h l1 xs->Xv k2 h l2 ys->B<=h.objs.size->(∀b o,b≠S->b≠z->b≠TO->b≠i1->b≠i2->h0.get? b=some o->h.get? b=some o) →
   h.get? S=some {cls:=.type "list", dict:=none,data:=.seq a c,slots:=#[]}->a.toList=f.map Value.ref->#[f]=i->ZT h xs ys B f->codeAny (model prog w) A (.builtin "list.extend.loop" ⟨[.ref S,.ref z,d],[]⟩) R {s with heap:=h,toks:=n}:=by
 let⟨n1,n2,n3,n4,n5,n6,n7⟩:=g;let q:∀{b c:Addr},c<B->B<=b->b≠c:=λhc d=>zBn (XG hc d)
 let⟨z1,Y,U,Q⟩:=e;intro k
 induction k with
 |zero =>
  intro i h n c a f hk hi m M L p kp hS O I T;calc zBO PySem.F.entry_extend_loop ?_;calc TJ (ZL.stop (s:={s with heap:=h,toks:=n}) (A:=A.in1) hh D t r m M L (Array.getElem?_eq_none 33) λh' l=>?_);let J:∀b,B<=b->∀o,h.get? b=some o->h'.get? b=some o:=λb d o e=>l b o (q z1 d) (q Y d) (q U d) (q Q d) e
  exact T5 (j h' n a c f (λb o N H G C u e=>l b o H G C u (kp b o N H G C u e)) (l S _ (Ne.symm n1) (Ne.symm n3) (Ne.symm n4) (Ne.symm n5) hS) O 33
   ⟨T.nd,T.ab,λj b g=>let ⟨x,y,e1,e2,e3⟩:=T.pr j b g;⟨x,y,e1,e2,J b (T.ab b (Xf g)) _ e3⟩⟩)
 |succ k ih =>
  intro i h n c a f hk hi m M L p kp hS O I T;let lt:i<xs.size:=33
  let hx:xs[i]?=some xs[i]:=zBI lt;let hy:ys[i]?=some ys[i]:=zBI 33;let sz:a.size=i:=by rw[<- YO,O,T4,I]
  calc zBO PySem.F.entry_extend_loop ?_;calc TJ (ZL.item (s:={s with heap:=h,toks:=n}) (S:=S) D t r m (XG sB p) ⟨XG z1 p,XG Y p,XG U p,XG Q p⟩ M L hx hy λh' hZ' tp l=>?_);let J:=l S _ (Ne.symm n1) (Ne.symm n3) (Ne.symm n4) (Ne.symm n5) hS;let k:∀b o,b≠S->h'.get? b=some o->(h'.update S (Obj.mapSeq (·.push (Value.ref h.objs.size)))).get? b=some o:=λb o m e=>(zA7 _ _ (Ne.symm m)).trans e
  let nS:h.objs.size≠S:=zBn (XG sB p);let m:=k _ _ nS tp;refine TJ (zB6 J rfl (T5 ⟨zB3 PySem.F.plain_extend_loop _,ih (i+1) _ n _ (a.push (Value.ref h.objs.size)) (f++[h.objs.size]) 33 lt (hZ'.keep n1 n2 n3 n4 n5 k) (M.of λo e=>k _ o n6 (l _ o t.c1 t.c2 t.c3 t.c4 e)) (L.of λo e=>k _ o n7 (l _ o r.c1 r.c2 r.c3 r.c4 e)) ?_
   (λb o N H G C u e=>k b o N (l b o H G C u (kp b o N H G C u e))) (zA2 _ J rfl) (by rw[Array.toList_push,O,Yx];rfl) (by rw[Xh,I];rfl) ⟨?_,λb d=>?_,λj b g=>?_⟩⟩) 33 (by rw[Array.size_push,sz];lia))
  calc zBf (zBg p (U5 m));calc zCc.mpr ⟨T.nd,52,λb d c hc=>?_⟩;let⟨j,g⟩:=List.getElem?_of_mem d;let⟨_,_,_,_,e⟩:=T.pr j b g;rw[Yv.mp hc];calc WG (U5 e);obtain d|d:=VS.mp d;calc T.ab b d;rw[Yv.mp d];calc p;obtain c|c|c:=zCf j #[f];rw[zAo c]at g;let⟨x,y,e1,e2,e3⟩:=T.pr j b g;let a:=T.ab b (Xf g);calc⟨x,y,e1,e2,k b _ (q sB a) (l b _ (q z1 a) (q Y a) (q U a) (q Q a) e3)⟩;subst c;let e:h.objs.size=b:=by simpa using g
  subst e;calc⟨xs[i],ys[i],by rw[I];calc hx,by rw[I];calc hy,m⟩;rw[zCF (by rw[Xh,zCV];lia)]at g;cases g
end
def Ge:typeLookup (.type "zip") "__len__" = pure none:=72
def Dj:typeLookup (.type "zip") "__length_hint__" = pure none:=72
section
variable{prog:Program}{w:World}{A:Around}{E:yaa}{s:Shared}{k1 k2:Bool}{z TI TO i1 i2 l1 l2 S B:Addr}{xs ys:yan}
def Ym.lt(x:Ym k h it a i):it<h.objs.size:=let ⟨_,e,_⟩:=x.obj;U5 e
def Xv.lt{xs:yan}(x:Xv k h a xs):a<h.objs.size:=let ⟨_,_,e,_⟩:=x.obj;U5 e
def Oi{R:Result->Shared->Prop}(hh:A.handled=none)(D:Ap z TI TO i1 i2)(y:Out z TO i1 i2 l1)(x:Out z TO i1 i2 l2)(Z:ZSt k1 k2 z TI TO i1 i2 l1 l2 0 s.heap)(r:Xv k1 s.heap l1 xs)(q:Xv k2 s.heap l2 ys)(t:xs.size<=sizeLine)(h:xs.size=ys.size)(p:S<B)(C:B<=s.heap.objs.size)(n:z<B/\TO<B/\i1<B/\i2<B)
  (a:z≠S/\TI≠S/\TO≠S/\i1≠S/\i2≠S/\l1≠S/\l2≠S) (c0:Nat) (k:s.heap.get? S=some {cls:=.type "list", data:=.seq #[] c0})
  (u:∀h' m d c j,(∀b o,b≠S->b≠z->b≠TO->b≠i1->b≠i2->s.heap.get? b=some o->h'.get? b=some o)->h'.get? S=some {cls:=.type "list", dict:=none,data:=.seq d c,slots:=#[]}->d.toList=j.map Value.ref->#[j]=xs.size->ZT h' xs ys B j->R (.ok (.ret .none)) {s with heap:=h',toks:=m}) :
  wpAny (model prog w) A.in1 (Builtin.List.listExtendWith (.ref S) (.ref z) .none) (λi g=>match i with|.done f=>R (.ok f) g|.again l=>l.quiet=true/\codeAny (model prog w) A l R g) (λe g=>R (.error e) g) s:=by
 let hz:=Z.z;let c:s.TypeIs (.ref z) "zip" := ⟨_,hz,rfl⟩;calc TJ (wpAny_typeOf (T := "zip") c ?_);let d:Builtin.List.listSameRef (.ref S) (.ref z)=false:=by simp[Builtin.List.listSameRef,Ne.symm a.1]
 simp only[d,show(Value.type "zip" == Value.type "list")=false by decide,show(Value.type "zip" == Value.type "tuple")=false by decide,Bool.or_false,zBH,if_false];calc TJ (wpAny_pyIter_zip hz (TJ (YH ?_)));calc TJ (zCv c Ge ?_);calc TJ (zCv c Dj (T5 ?_));calc TJ (wpAny_rule (TJ ?_));let c:=zA2 (Obj.mapSeq (·.push Value.none)) k rfl;calc TJ (zB6 k rfl (zB6 (hz:=by seq_fits) c rfl (T5 ⟨zB3 PySem.F.plain_extend_loop _,?_⟩)));let g3:=zA2 (Obj.mapSeq (·.pop)) c rfl;let kp:∀b o,b≠S->s.heap.get? b=some o->((s.heap.update S (Obj.mapSeq (·.push Value.none))).update S (Obj.mapSeq (·.pop))).get? b=some o:=λb o m e=>(zA7 _ _ (Ne.symm m)).trans ((zA7 _ _ (Ne.symm m)).trans e)
 refine SN (s:=s) (h0:=s.heap) hh D y x p n a t h .none u xs.size 0 _ _ _ _ [] 33 33 (ZL.keep (.inl ⟨rfl,Z⟩) a.1 a.2.1 a.2.2.1 a.2.2.2.1 a.2.2.2.2.1 kp) (r.of 58) (q.of 58) ?_ 58 g3 rfl rfl ⟨58,58,47⟩
 cbv
def SM{Q:yaa}(hh:A.handled=none)(D:Ap z TI TO i1 i2)(N:Out z TO i1 i2 l1)(M:Out z TO i1 i2 l2)(Z:ZSt k1 k2 z TI TO i1 i2 l1 l2 0 s.heap)(r:Xv k1 s.heap l1 xs)(q:Xv k2 s.heap l2 ys)(u:xs.size<=sizeLine)(k:xs.size=ys.size)
  (x:∀h' i d c g,(∀b o,b≠z->b≠TO->b≠i1->b≠i2->s.heap.get? b=some o->h'.get? b=some o)->h'.get? s.heap.objs.size=some {cls:=.type "list", dict:=none,data:=.seq d c,slots:=#[]}->d.toList=g.map Value.ref->#[g]=xs.size->ZT h' xs ys (s.heap.objs.size+1) g->Q (.ref s.heap.objs.size) {s with heap:=h',toks:=i}) :
  wpAny (model prog w) A (call (.type "list") [.ref z]) Q E s:=by
 refine callType_codes (Q₁:=λa e=>a=.ref s.heap.objs.size/\e={s with heap:=s.heap.push {cls:=.type "list", data:=.seq #[]} }) PySem.F.called_list (PySem.F.typeCall_list_1 _) PySem.F.entry_list_init (code_list_new _ ⟨rfl,rfl⟩) λa e a=>?_
 let⟨rfl,rfl⟩:=a;let a:(s.heap.push {cls:=.type "list", data:=.seq #[]}).get? s.heap.objs.size=some {cls:=.type "list", data:=.seq #[]}:=Xg _ rfl;let t:∀b o,s.heap.get? b=some o->(s.heap.push {cls:=.type "list", data:=.seq #[]}).get? b=some o:=λb o e=>VX _ e
 let h:z<s.heap.objs.size/\TI<s.heap.objs.size/\TO<s.heap.objs.size/\i1<s.heap.objs.size/\i2<s.heap.objs.size/\l1<s.heap.objs.size/\l2<s.heap.objs.size:=by let⟨j,p,⟨_,_,f⟩,n,l⟩:=Z;exact⟨U5 j,U5 p,U5 f,n.lt,l.lt,r.lt,q.lt⟩
 let⟨L,J,I,H,G,C,y⟩:=h;let O:∀{b:Addr},b<s.heap.objs.size->b<s.heap.objs.size+1:=λh=>zCe h
 calc⟨⟨_,a,rfl⟩,PySem.F.args_list_init_2 _ _,?_⟩;calc TJ ?_;calc TJ (zBL a rfl (T5 ?_));let h:=zA2 (Obj.mapSeq (λ_=>(#[]:yan))) a rfl;let kp:∀b o,b≠s.heap.objs.size->s.heap.get? b=some o->((s.heap.push {cls:=.type "list", data:=.seq #[]}).update s.heap.objs.size (Obj.mapSeq (λ_=>(#[]:yan)))).get? b=some o:=λb o m e=>(zA7 _ _ (Ne.symm m)).trans (t b o e)
 calc TJ (zB6 a rfl (TJ (zCx ?_)));refine Oi (A:=A.in1) (B:=s.heap.objs.size+1) (k1:=k1) (k2:=k2) (TI:=TI) (TO:=TO) (l1:=l1) (l2:=l2) (xs:=xs) (ys:=ys) hh D N M ?_ (r.of λo e=>kp _ o (WG C) e) (q.of λo e=>kp _ o (WG y) e) u k 33 ?_ 47 33 _ h λh' i d c g h m q k T=>?_
 let⟨j,p,⟨a,b,f⟩,n,l⟩:=Z;exact⟨kp _ _ (WG L) j,kp _ _ (WG J) p,⟨a,b,kp _ _ (WG I) f⟩,n.of λo e=>kp _ o (WG H) e,l.of λo e=>kp _ o (WG G) e⟩
 cbv
 calc⟨rfl,x h' i d c g (λb o f d c a e=>h b o (WG (U5 e)) f d c a (kp b o (WG (U5 e)) e)) m q k T⟩
end
end PZ
namespace PD
open PySem PySem.Spec PyProof.Rows L2 PZ
def eK(H:Hp)(n:Addr)(N:List (Addr×HO)):Hp:=λb=>if b<n then H b else(N.find? λp=>decide (p.1=b)).map (·.2)
def mM{n b:Addr}(h:b<n):eK H n N b=H b:=TU h
theorem DX{b:Addr}{u:HO}:∀{N:List (Addr×HO)},(N.map (·.1)).Nodup->(b,u)∈N->(N.find? λp=>decide (p.1=b))=some (b,u)
 |[],_,m=>by cases m
 |p::r,a,m=>by
  rw[Ya,zBK]at a;rw[List.find?_cons];obtain e|m:=VC.mp m;rw[<- e,Ys rfl];rw[decide_eq_false λe=>a.1 (by rw[e];calc UQ.mpr ⟨_,m,rfl⟩)];calc DX a.2 m
def D3{n b:Addr}{u:HO}{N:List (Addr×HO)}(a:(N.map (·.1)).Nodup)(h:n<=b)(m:(b,u)∈N):eK H n N b=some u:=by ext eK;rw[TM 47,DX a m];rfl
def Bf{n b:Addr}{u:HO}(h:¬b<n)(e:eK H n N b=some u):(b,u)∈N:=by
 unfold eK at e;rw[TM h]at e;let⟨p,a,rfl⟩:=zA8.mp e;let z:p.1=b:=by simpa using List.find?_some a
 rw[<- z];calc List.mem_of_find?_eq_some a
section
variable{X:Cx}{pins:yab}{σ:St}{H:Hp}{s:Shared}
theorem Inv.eK{h':Heap}{t':Nat}{N:List (Addr×HO)}(I:Inv X pins σ H s)(k:∀b u,s.heap.get? b=some u->h'.get? b=some u)(d:∀b u,(b,u)∈N->bO X.prog X.w (PD.eK H s.heap.objs.size N) h' b u) :
  Inv X pins σ (PD.eK H s.heap.objs.size N) {s with heap:=h',toks:=t'}:=by
 let lt:∀{b u},H b=some u->PD.eK H s.heap.objs.size N b=some u:=fun {b u} e=>by rw[mM (I.Uk.lt e)];exact e
 refine L2.Inv.un I ⟨λb a q _ _ _=>k b a q,λb a q _ _ _=>⟨a.slots,k b a q⟩,λb a q n _=>by rw[mM (U5 q)];calc n,λb a q _=>⟨a,k b a q⟩,λb a q=>lt q,λb o u q=>lt q,λb f q=>⟨#[],by rw[lt q];simp⟩⟩ λb u e=>?_
 by_cases h:b<s.heap.objs.size;rw[mM h]at e;exact(I.Uk b u e).Zd (λc v _ q=>k c v q) (λc q=>lt q) λc a q=>lt q
 calc d b u (Bf h e)
def Iv{N:List (Addr×HO)}(I:Inv X pins σ H s)(f:∀b u,(b,u)∈N->∀ps,u ≠ .Yj ps):au H (PD.eK H s.heap.objs.size N):=by
 let d:∀{b u},H b=some u->PD.eK H s.heap.objs.size N b=some u:=fun {b u} e=>by rw[mM (I.Uk.lt e)];exact e
 calc⟨λb o q _=>d q,λb ps q=>⟨#[],by rw[d q];simp⟩,λT P ps e=>?_⟩;by_cases h:P<s.heap.objs.size;rw[mM h]at e;let⟨a,b⟩:=T P ps e;calc⟨a,λa g q=>let ⟨c,e1,e2⟩:=b a g q;⟨c,e1,d e2⟩⟩;calc absurd rfl (f P _ (Bf h e) ps)
end
theorem zd:∀a:yae,Vals (a.map V.ref) (a.map Value.ref)
 |[]=>.nil
 |_::r=>.cons rfl (zd r)
theorem aq.of_get{K:yac}{P:yak}{H:Hp}:∀{a:yar} {vs:yaq},#[a]=#[vs]->(∀(j:Nat) d v,a[j]?=some d->vs[j]?=some v->Den K P H d v)->aq K P H a vs
 |[],[],_,_=>aq.nil
 |d::a,v::vs,h,k=>aq.cons (k 0 d v rfl rfl) (aq.of_get (Nat.succ.inj h) λj d a c b=>k (j+1) d a c b)
section
variable{X:Cx}{pos:Pos}
def AK(b:DA):DA:=λa R=>b a λg=>∃d c f e a b,g=[d,c]/\c6 d=some (f,a)/\c6 c=some (e,b)/\#[a]=#[b]/\#[a]<=1000/\R (List.zipWith (λx y=>D.tup [x,y]) a b)
def E7 {a b:Expr} {ta:DA} {p C L:Pos} (hc:X.calm=true) (hg:Gl X "list") (hm:X.mg "list" = none) (hg2:Gl X "zip") (hm2:X.mg "zip" = none) (ha:Zi X [a,b] ta)
  (XH:starEach [.Call (.Name "zip" C) [a,b] [] L] X.env=(false,eval (.Call (.Name "zip" C) [a,b] [] L) X.env)::starEach [] X.env:=by rfl) (WC:(backTo pos (starEach [] X.env)).any (·.1)=false:=by rfl)
  (hs:starEach [a,b] X.env=(false,eval a X.env)::starEach [b] X.env:=by rfl) (hs2:(backTo L (starEach [b] X.env)).any (·.1)=false:=by rfl) :
  PEF X (.Call (.Name "list" p) [.Call (.Name "zip" C) [a,b] [] L] [] pos) (AK ta):=by
 intro B s σ H W ρ Q I r h;calc zBh (dm I hg hm boot_list ?_ 23 23);calc PyProof.Rows.callWith_type1 ?_ XH WC;rw[XH];show wpAny _ _ (spliced ((false,eval (.Call (.Name "zip" C) [a,b] [] L) X.env)::backTo pos (starEach [] X.env))) _ _ s;calc Calls.spliced_cons ?_;calc Call_ (dm I hg2 hm2 boot_zip (PyProof.Rows.callWith_type1 (T9 (ha L B s σ H W ρ _ I r h) λus f Ub=>?_) hs hs2));let⟨vs,E,ds,M,r1,e1,hd,q1⟩:=Ub;let⟨d1,d2,k1,k2,xs,ys,e,g1,g2,lxy,l1000,q⟩:=q1;subst e;let⟨v1,v2,rfl,hd1,hd2⟩:=va hd;let⟨l1,k,e2,sq1,dn1,_⟩:=hd1.seq g1;let⟨l2,g,e3,sq2,dn2,_⟩:=hd2.seq g2;subst e2 e3;cases r1 with
 |cons ra rr =>
  cases rr with
  |cons rb rr =>
   cases rr;cases ra;cases rb;let⟨us1,rv1,p1⟩:=sq1.list M;let⟨us2,rv2,C⟩:=sq2.list M;let n1:=dn1.len;let n2:=dn2.len;let m1:=#[rv1];let m2:=#[rv2];refine LV p1 C λw Z kp=>?_
   calc T5 ?_;let Dz:Ap (f.heap.objs.size+4) (f.heap.objs.size+2) (f.heap.objs.size+3) f.heap.objs.size (f.heap.objs.size+1):=by constructor<;>simp
   let J:∀{c:Addr} (j:Nat),c<f.heap.objs.size->c≠f.heap.objs.size+j:=λj h=>WG (XG h (zCp _ j))
   let O:∀{l:Addr},l<f.heap.objs.size->Out (f.heap.objs.size+4) (f.heap.objs.size+3) f.heap.objs.size (f.heap.objs.size+1) l:=λh=>⟨J 4 h,J 3 h,WG h,J 1 h⟩
   refine SM (s:={f with heap:=w}) (M.ok.hd hc) Dz (O p1.lt) (O C.lt) Z (p1.of λo e=>kp _ o e) (C.of λo e=>kp _ o e) (by rw[Yw,VA];lia) (by rw[Yw,Yw];lia) λh2 tk acc c A kp2 hD ea la T=>?_
   let K:∀b o,f.heap.get? b=some o->h2.get? b=some o:=λb o e=>kp2 b o (J 4 (U5 e)) (J 3 (U5 e)) (WG (U5 e)) (J 1 (U5 e)) (kp b o e)
   let zl:f.heap.objs.size<w.objs.size:=zBg (zCp _ 4) (U5 Z.z);dsimp only at hD T;rw[Yw]at la;let nD:w.objs.size∉A:=λz=>absurd (T.ab _ z) (Nat.not_le.mpr (zDB _))
   let' N:List (Addr×HO):=(w.objs.size,.lst (A.map V.ref))::(A.zip (k.zip g)).map λt=>(t.1,.tup [t.2.1,t.2.2])
   let hN:N.map (·.1)=w.objs.size::A:=by show w.objs.size::((A.zip (k.zip g)).map λt=>(t.1,HO.tup [t.2.1,t.2.2])).map (·.1)=_;rw[Ww];congr 1;exact List.map_fst_zip (by rw[List.length_zip];lia)
   let ndN:(N.map (·.1)).Nodup:=by rw[hN];exact zBK.mpr ⟨nD,T.nd⟩
   let get:∀{j:Nat} {b:Addr},A[j]?=some b->∃Y U x y,k[j]?=some Y/\g[j]?=some U/\RelV Y x/\RelV U y/\IsPair h2 b x y/\(b,HO.tup [Y,U])∈N:=fun {j b} G=>by let⟨lj,_⟩:=Zn.mp G;let⟨x,y,hx,hy,hp⟩:=T.pr j b G;let g1:k[j]?=some (k[j]' 33):=Wc _;let g2:g[j]?=some (g[j]' 33):=Wc _;let⟨x',ex,rx⟩:=rv1.get g1;let⟨y',ey,ry⟩:=rv2.get g2;rw[List.getElem?_toArray,ex]at hx;rw[List.getElem?_toArray,ey]at hy;cases hx;cases hy;calc⟨_,_,x,y,g1,g2,rx,ry,hp,W9 _ (UQ.mpr ⟨(b,k[j]' 33,g[j]' 33),?_,rfl⟩)⟩;calc Xf (i:=j) ?_;rw[zCh];exact⟨G,by rw[zCh];calc⟨g1,g2⟩⟩
   let ok:∀b u,(b,u)∈N->bO X.prog X.w (PD.eK E f.heap.objs.size N) h2 b u:=λb u m=>by
    obtain e|m:=VC.mp m;cases e;calc⟨by rw[T4,VA];lia,A.map Value.ref,c,zd A,by rw[<- ea];simpa using hD⟩;let⟨t,tm,e⟩:=UQ.mp m;cases e;let⟨j,G⟩:=List.getElem?_of_mem tm;rw[zCh]at G;let⟨Y,U,x,y,e1,e2,rx,ry,hp,_⟩:=get G.1;let d:=G.2;rw[zCh,e1,e2]at d;let⟨i,n⟩:=d;cases i;cases n;exact⟨by rw[VA];show 2<=16777216;decide,[x,y],.cons rx (.cons ry .nil),⟨_,hp,rfl,_,rfl⟩⟩
   let I2:Inv X B σ (PD.eK E f.heap.objs.size N) {f with heap:=h2,toks:=tk}:=Inv.eK M K ok;let sm:au E (PD.eK E f.heap.objs.size N):=Iv M λb u m ps e=>by
    obtain z|m:=VC.mp m;cases z;cases e;let⟨t,_,z⟩:=UQ.mp m;cases z;cases e
   let eD:PD.eK E f.heap.objs.size N w.objs.size=some (.lst (A.map V.ref)):=D3 ndN (zBf zl) ZN;let fD:E w.objs.size=none:=M.Uk.fresh (zBf zl);calc⟨w.objs.size,_,_,_,rfl,I2,e1.trans sm,e1.free fD,Inv.kno I2 eD,eD,aq.of_get (by rw[List.length_zipWith,T4];lia) λj d v hdj hvj=>?_,q⟩;rw[WA]at hvj;let⟨b,hb,rfl⟩:=zA8.mp hvj;let⟨Y,U,x,y,e1',e2',rx,ry,hp,mN⟩:=get hb;let⟨dx,gx,Zv⟩:=dn1.aZ e1';let⟨dy,gy,Zw⟩:=dn2.aZ e2';rw[List.getElem?_zipWith,gx,gy]at hdj;cases hdj;let hbn:f.heap.objs.size<=b:=Xb (zBf (zCe zl)) (T.ab b (Xf hb));let P':∀{d:D} {v:V},Den X.K W.bad E d v->Den X.K (λt b=>W.bad t b∨b=w.objs.size) (PD.eK E f.heap.objs.size N) d v:=λhq=>Den.map (λ_ _ z=>VD.same sm z) (λt a' vs' np z=>⟨λz'=>z'.elim np λz'=>by
    subst z';rcases z.1 with(i|⟨o,i⟩)|⟨o,TV,n,i,_⟩;rw[fD]at i;cases i;rw[fD]at i;cases i;calc absurd (Inv.kno I2 eD) (by rw[i];simp),z.same sm⟩) (λa' o' n z=>sm.kp a' o' z n.nt) _ _ hq
   calc Den.tup (VD.of (D3 ndN hbn mN)) (aq.cons (P' Zv) (aq.one (P' Zw)))
end
open PySem PySem.Spec PyProof.Rows L2
section
variable{X:Cx}{pos:Pos}
def RB(i:Nat)(c te:DE):DS:=λE a=>∃b,a[i]?=some (some (.ob (.ll b)))/\c a λd=>∃(k:Int) (m:Nat) (c:yar),d=.int k/\ixN #[b] k=some m/\b[m]?=some (.own c)/\te a λd=>#[c]<sizeLine/\E.nx (a.set i (some (.ob (.ll (b.set m (.own (c++[d])))))))
end
section
variable{X:Cx}{a b c:Expr}{ta tb tc:DE}{pos:Pos}
def JI(o:Wb X (compareOp op) r)(G:Wb X (compareOp op') r')(d:Ul X a ta)(l:Ul X b tb)(E:Ul X c tc)(C:lastMarks [op,op'] [b,c]=false:=by with_unfolding_all rfl):ZX X (.Compare a [op,op'] [b,c] pos) (dB (AI r r' ta tb tc)):=by
 intro e s f H W m Q I j h;refine isTrue_chain (T9 (d e s f H W m _ I j h) λv g ⟨d,q,x,p,k,i,n,h⟩=>test_link (T9 (l e g f q W m _ p (j.same i) h) λu g ⟨q,s,y,p,r,h,t,l⟩=>
  T9 (o e g f s W x y d q v u _ p ((j.same i).same h).tracked k r (n.same h) t l) λd B ⟨A,x,z,w,g,l,n,k,p,s⟩=>?_)) C
 subst p;let o:=n.bl_;subst o;cases g;calc zBt ?_;let g:=((j.same i).same h).same l;cases k with
 |false =>
  calc ite_ff ⟨x,w,i.trans (h.trans l),s⟩
 |true =>
  calc ite_tt (test_last (T9 (E e B f x W m _ w g s) λm w ⟨s,I,E,H,x,j,C,B⟩=>T9 (G e w f I W y E q s u m _ H (g.same j).tracked r x (t.same (l.trans j)) C B) λd J g=>?_));let⟨A,q,z,m,e,f,n,d⟩:=g;let⟨k,p,d⟩:=pZ d;subst p;let o:=n.bl_;subst o;cases e;calc zBt ⟨q,m,i.trans (h.trans (l.trans (j.trans f))),d⟩
end
def Tj(xs:yah)(a:Addr)(cl:List (Str×Addr)):List (Str×Addr):=match xs with
 |[]=>cl
 |x::_=>(x,a)::cl
structure CSC(osc sc:Scope)(xs ns:yah):Prop where
 kind:sc.kind=.function
 one:∃x,xs=[x]
 onecell:∀y∈sc.names,y.2=.cell->y.1∈xs
 names:∀y∈sc.names,y.2=.local->sc.names.lookup y.1=some .local
 tgt:∀x∈xs,sc.names.lookup x=some .cell
 free:∀y∈sc.names,y.2=.free->y.1∈ns/\osc.names.lookup y.1=some .cell
 cells:∀n∈ns,sc.names.lookup n=some .free/\osc.names.lookup n=some .cell
 nd:(xs++ns).Nodup
 lay:∀n acc,cellsFrom n sc.names acc=Tj xs n acc
 psh:∀h:Heap,pushCells h sc.names=h.push {cls:=.type "cell", data:=.cell none}
end PD
namespace LW
open PySem PySem.Spec PyProof.Rows L2 PD
seal PD.da PD.Yb PD.Ul PD.ZX PD.PWD PD.Zi PD.PID PD.PGD PD.wY PD.TsD PD.PEF PD.PKD PD.PPD PD.PDO PD.PFL PD.PPK PD.PEK
local macro_rules|`(tactic|kd_p)=>`(tactic| calc ⟨rfl, rfl, rfl, by decide +kernel, rfl, by decide +kernel, by decide +kernel⟩)
def top(i:Nat):Stmt:=PySem.Challenge.pw_halvecut_k56_depths_move_along.main.body.getD i (.Pass ⟨0,0,0,0⟩)
abbrev ot:Stmt:=top 10
abbrev BY:Stmt:=top 11
abbrev fU:Stmt:=top 12
abbrev oz:Stmt:=top 13
abbrev qK:Stmt:=top 14
abbrev r9:Stmt:=top 15
abbrev xO:Stmt:=top 17
abbrev BW:Stmt:=top 18
abbrev oh:Stmt:=top 19
abbrev qE:Stmt:=top 20
abbrev BU:Stmt:=top 21
abbrev uk:Stmt:=top 22
abbrev xM:Stmt:=top 24
abbrev oD:Stmt:=top 25
abbrev BV:Stmt:=top 26
abbrev xN:Stmt:=top 27
abbrev xH:Stmt:=top 28
abbrev BZ:Stmt:=top 29
abbrev BS:Stmt:=top 30
abbrev qJ:Stmt:=top 31
abbrev l9:Stmt:=top 34
abbrev gW:Stmt:=top 35
abbrev qL:Stmt:=top 36
abbrev j4:Stmt:=top 37
abbrev i7:Stmt:=top 38
abbrev iJ:Stmt:=top 39
abbrev gF:Stmt:=top 40
abbrev oo:Stmt:=top 41
abbrev l7:Stmt:=top 42
abbrev xK:Stmt:=top 43
abbrev oE:Stmt:=top 44
abbrev vZ:Stmt:=top 45
abbrev kT:Stmt:=top 46
abbrev xI:Stmt:=top 48
abbrev vX:Stmt:=top 49
abbrev jH:Stmt:=top 50
abbrev n9:Stmt:=top 51
abbrev iH:Stmt:=top 53
abbrev eO:Stmt:=top 54
abbrev md:Stmt:=top 55
abbrev j3:Stmt:=top 56
abbrev gY:Stmt:=top 57
abbrev um:Stmt:=top 59
abbrev iG:Stmt:=top 60
abbrev fT:Stmt:=top 61
abbrev cX:Stmt:=top 62
abbrev qD:Stmt:=top 63
abbrev gZ:Stmt:=top 65
abbrev lL:Stmt:=top 66
abbrev uj:Stmt:=top 67
abbrev FG:Stmt:=top 68
abbrev jE:Stmt:=top 69
abbrev j2:Stmt:=top 70
abbrev vW:Stmt:=top 71
abbrev eN:Stmt:=top 74
abbrev oA:Stmt:=top 75
abbrev jD:Stmt:=top 76
abbrev vY:Stmt:=top 77
abbrev qG:Stmt:=top 78
abbrev hJ:Stmt:=top 79
abbrev uo:Stmt:=top 80
abbrev fV:Stmt:=top 81
abbrev fh:Stmt:=top 82
abbrev qF:Stmt:=top 83
abbrev iI:Stmt:=top 85
abbrev gE:Stmt:=top 86
abbrev og:Stmt:=top 87
abbrev cY:Stmt:=top 88
abbrev xJ:Stmt:=top 89
abbrev jF:Stmt:=top 92
abbrev jG:Stmt:=top 93
abbrev qH:Stmt:=top 94
abbrev ow:Stmt:=top 95
abbrev kS:Stmt:=top 96
abbrev fz:Stmt:=top 97
abbrev qI:Stmt:=top 98
abbrev fg:Stmt:=top 99
def C2:aw ["thing"] ["thing"] (aj ot):=by kd_p
def NV:aw ["number"] ["number"] (aj BY):=by kd_p
def c8:aw ["one", "other", "rest"] ["one", "other"] (aj fU):=by kd_p
def lM:aw ["numbers", "divisor", "number"] ["numbers"] (aj oz):=by kd_p
def oH:aw ["triple", "lead", "divisor"] ["triple", "lead"] (aj qK):=by kd_p
def fW:aw ["count", "size", "found", "length", "longer", "pick", "first"] ["count", "size"] (aj r9):=by kd_p
def KQ:aw ["gauge", "place"] ["gauge", "place"] (aj xO):=by kd_p
def NU:aw ["gauge", "place"] ["gauge", "place"] (aj BW):=by kd_p
def C1:aw ["gauge"] ["gauge"] (aj oh):=by kd_p
def FI:aw ["one", "other"] ["one", "other"] (aj qE):=by kd_p
def En:aw ["one", "other", "gauge"] ["one", "other"] (aj BU):=by kd_p
def Iy:aw ["place", "way"] ["place", "way"] (aj uk):=by kd_p
def KN:aw ["by", "x", "y"] ["by", "x", "y"] (aj xM):=by kd_p
def C4:aw ["spot"] ["spot"] (aj oD):=by kd_p
def Eo:aw ["one", "other", "across"] ["one", "other"] (aj BV):=by kd_p
def KO:aw ["one", "two", "three"] ["one", "two", "three"] (aj xN):=by kd_p
def KJ:aw ["one", "other"] ["one", "other"] (aj xH):=by kd_p
def NW:aw ["one", "other"] ["one", "other"] (aj BZ):=by kd_p
def NQ:aw ["way"] ["way"] (aj BS):=by kd_p
def FK:aw ["way"] ["way"] (aj qJ):=by kd_p
def B4:aw ["thing", "least", "most"] ["thing", "least", "most"] (aj l9):=by kd_p
def ur:aw ["thing"] ["thing"] (aj gW):=by kd_p
def FN:aw ["dot"] ["dot"] (aj qL):=by kd_p
def C6:aw ["dots"] ["dots"] (aj j4):=by kd_p
def B5:aw ["dots", "colour"] ["dots", "colour"] (aj i7):=by kd_p
def KP:aw ["dots", "colour"] ["dots", "colour"] (aj iJ):=by kd_p
def oK:aw ["dots", "gauge", "colour", "weights", "dot"] ["dots", "gauge", "colour"] (aj gF):=by kd_p
def Iz:aw ["thing"] ["thing"] (aj oo):=by kd_p
def B3:aw ["by_map"] ["by_map"] (aj l7):=by kd_p
def uv:aw ["place", "by_map", "x", "y"] ["place", "by_map"] (aj xK):=by kd_p
def sX:aw ["dot", "by_map", "spot"] ["dot", "by_map"] (aj oE):=by kd_p
def NS:aw ["dots", "by_map"] ["dots", "by_map"] (aj vZ):=by kd_p
def zC:aw ["place", "by_map"] ["place", "by_map"] (aj kT):=by kd_p
def uq:aw ["places", "kept", "each"] ["places"] (aj xI):=by kd_p
def Em:aw ["spots", "places"] ["spots"] (aj vX):=by kd_p
def iL:aw ["one", "other", "along", "across"] ["one", "other"] (aj jH):=by kd_p
def Iw:aw ["corners"] ["corners"] (aj n9):=by kd_p
def wj:aw ["dots", "pair"] ["dots", "pair"] (aj iH):=by kd_p
def pG:aw ["dots", "pairs"] ["dots"] (aj eO):=by kd_p
def B6:aw ["dots", "pair"] ["dots", "pair"] (aj md):=by kd_p
def C5:aw ["dots", "lines"] ["dots", "lines"] (aj j3):=by kd_p
def zA:aw ["dots"] ["dots"] (aj gY):=by kd_p
def IA:aw ["way"] ["way"] (aj um):=by kd_p
def we:aw ["one", "other"] ["one", "other"] (aj iG):=by kd_p
def sH:aw ["one", "other"] ["one", "other"] (aj fT):=by kd_p
def dX:aw ["one", "two", "three", "turns"] ["one", "two", "three"] (aj cX):=by kd_p
def FH:aw ["ways"] ["ways"] (aj qD):=by kd_p
def fX:aw ["one", "other", "gauge", "here", "there"] ["one", "other", "gauge"] (aj gZ):=by kd_p
def hU:aw ["corners", "gauge", "kept", "index", "one", "other"] ["corners", "gauge"] (aj lL):=by kd_p
def qM:aw ["corners", "gauges", "gauge"] ["corners", "gauges"] (aj uj):=by kd_p
def wg:aw ["corners", "first", "index"] ["corners"] (aj FG):=by kd_p
def fi:aw ["corners", "gauges", "last"] ["corners", "gauges"] (aj jE):=by kd_p
def CZ:aw ["gauges", "numbers", "shares"] ["gauges", "numbers", "shares"] (aj j2):=by kd_p
def mW:aw ["corners", "gauges", "last", "others", "numbers", "shares"] ["corners", "gauges"] (aj vW):=by kd_p
def zy:aw ["dots"] ["dots"] (aj eN):=by kd_p
def C3:aw ["gauge"] ["gauge"] (aj oA):=by kd_p
def iK:aw ["dots", "found", "row"] ["dots"] (aj jD):=by kd_p
def NR:aw ["planes", "weight"] ["planes", "weight"] (aj vY):=by kd_p
def FJ:aw ["dots"] ["dots"] (aj qG):=by kd_p
def kU:aw ["dots", "planes", "least", "weight"] ["dots", "planes", "least"] (aj hJ):=by kd_p
def IB:aw ["dots", "least"] ["dots", "least"] (aj uo):=by kd_p
def b9:aw ["dots", "planes", "reached", "most", "tried"] ["dots", "planes"] (aj fV):=by kd_p
def eB:aw ["dots", "planes", "found", "weight", "corners", "gauges"] ["dots", "planes", "found"] (aj fh):=by kd_p
def oG:aw ["dots", "planes", "found"] ["dots"] (aj qF):=by kd_p
def lN:aw ["dots", "gauge", "split"] ["dots", "gauge"] (aj iI):=by kd_p
def oJ:aw ["dots", "place", "ways"] ["dots", "place"] (aj gE):=by kd_p
def i8:aw ["way", "ways", "nearest", "other"] ["way", "ways"] (aj og):=by kd_p
def me:aw ["dots", "place", "ways", "gauges"] ["dots", "place"] (aj cY):=by kd_p
def KL:aw ["dots", "place"] ["dots", "place"] (aj xJ):=by kd_p
def xP:aw ["_law_script", "_law_k"] ["_law_script", "_law_k"] (aj jF):=by kd_p
def fk:aw ["_law_one", "_law_other", "_law_here", "_law_there"] ["_law_one", "_law_other"] (aj jG):=by kd_p
def bG:aw ["_law_cell", "_law_kind", "_law_heavy", "_law_number", "_law_x", "_law_y", "_law_weight"] ["_law_cell", "_law_kind", "_law_heavy"] (aj qH):=by kd_p
def dU:aw ["_law_script", "_law_start", "_law_most", "_law_first", "_law_kind", "_law_heavy", "_law_dots_here", "_law_cell"] ["_law_script", "_law_start", "_law_most"] (aj ow):=by kd_p
def pF:aw ["_law_by", "_law_x", "_law_y", "_law_share"] ["_law_by", "_law_x", "_law_y"] (aj kS):=by kd_p
def bW:aw ["_law_dots_here", "_law_cell", "_law_number", "_law_one", "_law_two", "_law_three", "_law_by"] ["_law_dots_here", "_law_cell"] (aj fz):=by kd_p
def bY:aw ["_law_script", "_law_cell", "_law_a", "_law_b", "_law_c", "_law_d", "_law_far"] ["_law_script"] (aj qI):=by kd_p
def hW:aw ["_law_script", "_law_dots_here", "_law_by_map", "_law_moved_dots", "_law_here", "_law_whole_weight", "_law_least", "_law_corners"] ["_law_script"] (aj fg):=by kd_p
structure UR where
 PlaneError:Addr
 NoPlace:Addr
 NoLine:Addr
 NoDots:Addr
 NoMap:Addr
 TooFew:Addr
 TooMany:Addr
 NoSuch:Addr
structure U4(K:yac)(mg:yal)(κ:UR):Prop where
 V3:mg "PlaneError" = some (.ref κ.PlaneError)
 WU:mg "NoPlace" = some (.ref κ.NoPlace)
 Xw:mg "NoLine" = some (.ref κ.NoLine)
 WH:mg "NoDots" = some (.ref κ.NoDots)
 Xm:mg "NoMap" = some (.ref κ.NoMap)
 WI:mg "TooFew" = some (.ref κ.TooFew)
 Wn:mg "TooMany" = some (.ref κ.TooMany)
 Xx:mg "NoSuch" = some (.ref κ.NoSuch)
 Uh:∃t,mg "MOST_COORDINATE" = some (.int 999999999999 t)
 Up:∃t,mg "MOST_FOR_DEEPEST" = some (.int 12 t)
 Wo:PySem.W.excIn K κ.TooFew j9 "ValueError.__new__" = true
 Xy:PX.cZ K κ.TooFew
 Uw:PySem.W.kitOne K (.ref κ.TooFew) (.ref κ.PlaneError)=some true
 UU:PySem.W.kitOne K (.ref κ.TooFew) (.ref κ.NoPlace)=some false
 U7:PySem.W.kitOne K (.ref κ.TooFew) (.ref κ.NoLine)=some false
 U8:PySem.W.kitOne K (.ref κ.TooFew) (.ref κ.NoDots)=some false
 Vp:PySem.W.kitOne K (.ref κ.TooFew) (.ref κ.NoMap)=some false
 U9:PySem.W.kitOne K (.ref κ.TooFew) (.ref κ.TooFew)=some true
 UW:PySem.W.kitOne K (.ref κ.TooFew) (.ref κ.TooMany)=some false
 Va:PySem.W.kitOne K (.ref κ.TooFew) (.ref κ.NoSuch)=some false
 Ux:PySem.W.kitOne K (.ref κ.TooFew) (.type "ValueError")=some true
 Uy:PySem.W.exmOne K (.ref κ.TooFew) (.ref κ.PlaneError)=some true
 Vb:PySem.W.exmOne K (.ref κ.TooFew) (.ref κ.TooFew)=some true
 V7:PySem.W.excIn K κ.TooMany j9 "ValueError.__new__" = true
 WV:PX.cZ K κ.TooMany
 Uq:PySem.W.kitOne K (.ref κ.TooMany) (.ref κ.PlaneError)=some true
 UM:PySem.W.kitOne K (.ref κ.TooMany) (.ref κ.NoPlace)=some false
 UX:PySem.W.kitOne K (.ref κ.TooMany) (.ref κ.NoLine)=some false
 UY:PySem.W.kitOne K (.ref κ.TooMany) (.ref κ.NoDots)=some false
 Vd:PySem.W.kitOne K (.ref κ.TooMany) (.ref κ.NoMap)=some false
 UZ:PySem.W.kitOne K (.ref κ.TooMany) (.ref κ.TooFew)=some false
 UN:PySem.W.kitOne K (.ref κ.TooMany) (.ref κ.TooMany)=some true
 U0:PySem.W.kitOne K (.ref κ.TooMany) (.ref κ.NoSuch)=some false
 Ur:PySem.W.kitOne K (.ref κ.TooMany) (.type "ValueError")=some true
 Us:PySem.W.exmOne K (.ref κ.TooMany) (.ref κ.PlaneError)=some true
 UO:PySem.W.exmOne K (.ref κ.TooMany) (.ref κ.TooMany)=some true
 WJ:PySem.W.excIn K κ.NoMap j9 "ValueError.__new__" = true
 Yg:PX.cZ K κ.NoMap
 UH:PySem.W.kitOne K (.ref κ.NoMap) (.ref κ.PlaneError)=some true
 Ve:PySem.W.kitOne K (.ref κ.NoMap) (.ref κ.NoPlace)=some false
 Vq:PySem.W.kitOne K (.ref κ.NoMap) (.ref κ.NoLine)=some false
 Vr:PySem.W.kitOne K (.ref κ.NoMap) (.ref κ.NoDots)=some false
 VF:PySem.W.kitOne K (.ref κ.NoMap) (.ref κ.NoMap)=some true
 Vs:PySem.W.kitOne K (.ref κ.NoMap) (.ref κ.TooFew)=some false
 Vf:PySem.W.kitOne K (.ref κ.NoMap) (.ref κ.TooMany)=some false
 Vt:PySem.W.kitOne K (.ref κ.NoMap) (.ref κ.NoSuch)=some false
 UI:PySem.W.kitOne K (.ref κ.NoMap) (.type "ValueError")=some true
 UJ:PySem.W.exmOne K (.ref κ.NoMap) (.ref κ.PlaneError)=some true
 VG:PySem.W.exmOne K (.ref κ.NoMap) (.ref κ.NoMap)=some true
 Wq:PySem.W.excIn K κ.NoDots j9 "ValueError.__new__" = true
 Xz:PX.cZ K κ.NoDots
 Uz:PySem.W.kitOne K (.ref κ.NoDots) (.ref κ.PlaneError)=some true
 U1:PySem.W.kitOne K (.ref κ.NoDots) (.ref κ.NoPlace)=some false
 Vg:PySem.W.kitOne K (.ref κ.NoDots) (.ref κ.NoLine)=some false
 Vh:PySem.W.kitOne K (.ref κ.NoDots) (.ref κ.NoDots)=some true
 Vu:PySem.W.kitOne K (.ref κ.NoDots) (.ref κ.NoMap)=some false
 Vi:PySem.W.kitOne K (.ref κ.NoDots) (.ref κ.TooFew)=some false
 U2:PySem.W.kitOne K (.ref κ.NoDots) (.ref κ.TooMany)=some false
 Vj:PySem.W.kitOne K (.ref κ.NoDots) (.ref κ.NoSuch)=some false
 UA:PySem.W.kitOne K (.ref κ.NoDots) (.type "ValueError")=some true
 UB:PySem.W.exmOne K (.ref κ.NoDots) (.ref κ.PlaneError)=some true
 Vk:PySem.W.exmOne K (.ref κ.NoDots) (.ref κ.NoDots)=some true
noncomputable def sg(n:Int):Int:=if 0<n then 1 else if n<0 then -1 else 0
def rk(a0 c e a b d:Int):Int:=if sg (c*a - b*a0)=0 then sg (e*a - d*a0)else sg (c*a - b*a0)
noncomputable def sw(a0 f e g d c c0 b a:Int):Int:=a0*(d*a - b*c)+g*(b*e - f*a)+c0*(f*c - d*e)
def cN{t g:Int}(a:g≠0)(b:g∣t)(h:Bd n t):Bd n (t.fdiv g):=zBg (PM.sS a b) h
structure Pl(n:Nat)(a b c:Int):Prop where
 pos:0<a
 low:PM.g3 a b c=1
 b0:Bd n a
 b1:Bd n b
 b2:Bd n c
def jR{d k x y z:Int}(f:d∣k*x)(e:d∣k*y)(c:d∣k*z)(b:PM.g3 x y z=1):d∣k:=by
 let a:d∣(Int.gcd (k*x) (k*y):Int):=zCu f e;rw[zC9]at a;let e:d∣k*(Int.gcd x y:Int):=by
  have:((k.natAbs*Int.gcd x y:Nat):Int)∣k*(Int.gcd x y:Int):=by rw[Int.natCast_mul];exact Int.mul_dvd_mul (Int.natAbs_dvd.mpr 47) 47
  exact zCY a this
 let a:d∣(Int.gcd (k*(Int.gcd x y:Int)) (k*z):Int):=zCu e c;rw[zC9]at a;let c:Int.gcd (Int.gcd x y:Int) z=1:=b;rw[c,Nat.mul_one]at a;calc zCY a (Int.natAbs_dvd.mpr 47)
abbrev Sp:=Int×Int
abbrev yas:=List Sp
def UD(p:Sp):D:=.tup [.int p.1,.int p.2]
def Er(h:UD p=UD q):p=q:=by
 unfold UD at h
 lia
theorem jk{a:Type}{f:a->D}(b:∀{p q},f p=f q->p=q):∀{ps qs:List a},ps.map f=qs.map f->ps=qs
 |[],[],_=>rfl
 |[],_::_,h=>by simp at h
 |_::_,[],h=>by simp at h
 |p::ps,q::qs,h=>by simp at h;rw[b h.1,jk b h.2]
def N5{ps qs:yas}(h:ps.map UD=qs.map UD):ps=qs:=jk Er h
theorem uJ(p:Sp):aJ (UD p)=UD p:=rfl
def wJ(ps:yas):aV (ps.map UD)=ps.map UD:=cK UD uJ ps
def VU(p:Sp):D:=.tup [.int 1,.int p.1,.int p.2]
def Eg(h:VU p=VU q):p=q:=by
 unfold VU at h
 lia
def Nz{ps qs:yas}(h:ps.map VU=qs.map VU):ps=qs:=jk Eg h
theorem lh(p:Sp):aJ (VU p)=VU p:=rfl
def wI(ps:yas):aV (ps.map VU)=ps.map VU:=cK VU lh ps
def cr(a b e:Sp):Int:=sw 1 a.1 a.2 1 b.1 b.2 1 e.1 e.2
def cG:yas->Sp->yas
 |b::a::r,e=>if cr a b e<=0 then cG (a::r) e else b::a::r
 |l,_=>l
def bN:yas->yas->yas
 |acc,[]=>acc
 |acc,e::a=>bN (e::cG acc e) a
theorem sQ(x:Sp):∀(acc done:yas),bN acc (done++[x])=x::cG (bN acc done) x
 |acc,[]=>rfl
 |acc,e::a=>by show bN (e::cG acc e) (a++[x])=_;rw[sQ x _ a];rfl
theorem uf:∀(st:yas) (e:Sp),∃c,st=c++cG st e
 |[],e=>⟨[],rfl⟩
 |[b],e=>⟨[],rfl⟩
 |b::a::r,e=>by ext cG;split;let⟨c,q⟩:=uf (a::r) e;calc⟨b::c,by rw[zBQ,<- q]⟩;calc⟨[],rfl⟩
def Kv(st:yas)(e:Sp):#[cG st e]<=#[st]:=by let⟨a,q⟩:=uf st e;grind
def Gx{a:Type}(xs:List a)(u v:a):atI (xs++[u]++[v]) (-2)=some u:=by have:=bR (xs:=xs++[u]++[v]) (j:=#[xs]) (v:=u) 52;unfold atI at this ⊢;rw[show ixN #[xs++[u]++[v]] (-2)=some #[xs] by ext ixN;simp;lia];simp
def fm{a b:Int}(c:0<b):0<=a.fmod b/\a.fmod b<b:=⟨zCw a c,Int.fmod_lt_of_pos a c⟩
def p12:((10:Int) ^ (12:Int).toNat)=1000000000000:=23
def EZ:tE 10 12:=⟨23,23,23⟩
def spK(p:Sp):yaf:=[p.1,p.2]
def LM(ps:yas):ps.map UD=(ps.map spK).map PD.tupI:=by rw[Ww];rfl
def bC(ys ps:yas):Prop:=ys.Pairwise (λp q=>p.1<q.1∨(p.1=q.1/\p.2<q.2))/\∀p,p∈ys↔p∈ps
def Iq{ps:yas}(h:PD.Ag zs (ps.map spK)):∃ys:yas,zs=ys.map spK/\bC ys ps:=by
 let⟨c,b⟩:=h;let d:∀z∈zs,∃p:Sp,z=spK p:=λz a=>by let⟨p,_,e⟩:=UQ.mp ((b z).mp a);exact⟨p,e.symm⟩
 let f:∃ys:yas,zs=ys.map spK:=by
  clear c b
  induction zs with
  |nil=>calc⟨[],rfl⟩
  |cons z zs ih =>
   let⟨p,e⟩:=d z ZN;let⟨ys,g⟩:=ih λz a=>d z (W9 _ a)
   exact⟨p::ys,by rw[e,g];rfl⟩
 let⟨ys,rfl⟩:=f;let a:∀{p q:Sp},spK p=spK q->p=q:=fun {p q} e=>by unfold spK at e;simp only[List.cons.injEq,and_true]at e;exact ZR e.1 e.2
 calc⟨ys,rfl,?_,λp=>?_⟩;refine(zCK.mp c).imp fun {p q} e=>?_
 unfold spK SW.lexLt at e;split at e;rename_i c;unfold SW.lexLt at e;split at e;cases e;calc .inr ⟨c,by simpa using e⟩;calc .inl (by simpa using e);constructor;intro d;let⟨q,c,e⟩:=UQ.mp ((b (spK p)).mp (UQ.mpr ⟨p,d,rfl⟩));rw[<- a e];calc c;intro d;let⟨q,c,e⟩:=UQ.mp ((b (spK p)).mpr (UQ.mpr ⟨p,d,rfl⟩));rw[<- a e];calc c
def AF(xs:yar):PD.cutD xs none (some (-1))=xs.dropLast:=by
 ext PD.cutD;rw[List.dropLast_eq_take];let b:HT.Vy #[xs] 0 none=0:=rfl;let a:HT.Vy #[xs] #[xs] (some (-1))=#[xs] - 1:=by
  ext HT.Vy;cases xs with
  |nil=>rfl
  |cons x xs=>simp;lia
 rw[b,a];simp
theorem kM:∀(acc ps:yas),#[bN acc ps]<=#[acc]+#[ps]
 |acc,[]=>VY _
 |acc,e::a=>by
  have:=kM (e::cG acc e) a;let b:=Kv acc e;show#[bN (e::cG acc e) a]<=_;simp at this ⊢
  lia
theorem Bt:∀{ys ps:yas},ys.Nodup->(∀p∈ys,p∈ps)->#[ys]<=#[ps]
 |[],_,_,_=>Yt _
 |y::ys,ps,b,h=>by
  let⟨d,c⟩:=zBK.mp b;let m:=h y ZN;let r:=Bt (ps:=ps.erase y) c λp a=>(List.mem_erase_of_ne (λe=>by subst e;calc d a)).mpr (h p (W9 _ a))
  rw[List.length_erase_of_mem m]at r;have:0<#[ps]:=List.length_pos_of_mem m;rw[ZH]
  lia
def nR(h:bC ys ps):#[ys]<=#[ps]:=by
 let a:ys.Nodup:=h.1.imp fun {p q} c e=>by subst e;lia
 calc Bt a λp a=>(h.2 p).mp a
def aG(ys:yas):yas:=(bN [] ys).reverse
def aM(ys:yas):yas:=if #[ys]<2 then ys else(aG ys).dropLast++(aG ys.reverse).dropLast
def nk{a:Type}{wi:DA}{js:yag}{te:DE}{Q:D->Prop}{P:List a->Prop}(f g:a->D)(b:∀R:yar->Prop,(∀ys,P ys->R (ys.map f))->wi ρ R)(hz:∀ys,P ys->#[ys]<=sizeLine)
  (c:∀ys,P ys->∀x∈ys,∀K:D->Prop,K (g x)->te (some (.val (f x))::js.map (aZ ρ)) K) (q:∀ys,P ys->Q (.lst true (ys.map g))):lD wi js xb te ρ Q:=by
 refine b _ λys a=>?_
 have:=PD.comp_map (wi:=λ_ R=>R (ys.map f)) (js:=js) (tc:=xb) (te:=te) (ρ:=ρ) (Q:=Q) ys f (λ_=>true) g (λR h=>h) (hz ys a) (λx b K k=>k) (λx b _ K k=>c ys a x b K k) (by rw[YQ.mpr (λ_ _=>rfl)];calc q ys a);calc this
structure SB(p:Sp):Prop where
 x:Bd 60 p.1
 y:Bd 60 p.2
def lX(p q:Sp):Prop:=p.1<q.1∨(p.1=q.1/\p.2<q.2)
def bP(a b e:Sp):cr a b e=(b.1 - a.1)*(e.2 - a.2) - (b.2 - a.2)*(e.1 - a.1):=by ext cr sw;grind
def fA(A B:Int)(p:Sp):Int:=A*p.1+B*p.2
def cx(a b c d:Sp):Int:=(b.1 - a.1)*(d.2 - c.2) - (b.2 - a.2)*(d.1 - c.1)
def E3(A B:Int)(a b c d e g:Sp):cx a b e g*(fA A B d - fA A B c)=cx c d e g*(fA A B b - fA A B a)+cx a b c d*(fA A B g - fA A B e):=by ext cx fA;grind
def Kw{x y:Int}(h:0<x*y)(a:0<y):0<x:=by
 by_cases c:0<x;calc c;have:=V6 (show 0<=-x by lia) (Vz a);rw[XO]at this
 lia
def QA{x y:Int}(h:0<=x*y)(a:0<y):0<=x:=by
 by_cases c:0<=x;calc c;have:=Xc (show 0 < -x by lia) a;rw[XO]at this
 lia
def Le(j:fA A B a<fA A B b)(h:fA A B c<fA A B d)(f:fA A B e<fA A B g)(p:0<cx a b c d)(q:0<=cx c d e g):0<cx a b e g:=by let i:=E3 A B a b c d e g;let u:=V6 q (show 0<=fA A B b - fA A B a by lia);let v:=Xc p (show 0<fA A B g - fA A B e by lia);calc Kw (y:=fA A B d - fA A B c) 33 33
def Ld(j:fA A B a<fA A B b)(h:fA A B c<fA A B d)(f:fA A B e<fA A B g)(p:0<=cx a b c d)(q:0<cx c d e g):0<cx a b e g:=by let i:=E3 A B a b c d e g;let u:=Xc q (show 0<fA A B b - fA A B a by lia);let v:=V6 p (show 0<=fA A B g - fA A B e by lia);calc Kw (y:=fA A B d - fA A B c) 33 33
def RA(j:fA A B a<fA A B b)(h:fA A B c<fA A B d)(f:fA A B e<fA A B g)(p:0<=cx a b c d)(q:0<=cx c d e g):0<=cx a b e g:=by let i:=E3 A B a b c d e g;let u:=V6 q (show 0<=fA A B b - fA A B a by lia);let v:=V6 p (show 0<=fA A B g - fA A B e by lia);calc QA (y:=fA A B d - fA A B c) 33 33
def cx1(a b e:Sp):cr a b e=cx a b a e:=by rw[bP];rfl
def cx2(a b e:Sp):cr a b e=cx a b b e:=by rw[bP];ext cx;grind
def cx3(a b e:Sp):cr a b e=cx a e b e:=by rw[bP];ext cx;grind
def cx4(a b e:Sp):cr a b e=cx e a a b:=by rw[bP];ext cx;grind
def cx5(a b e:Sp):cr a b e=cx e b a b:=by rw[bP];ext cx;grind
def Mf(a b c d:Sp):cx a b c d=- cx c d a b:=by ext cx;grind
def OE(a b:Sp):cr a b a=0:=by rw[bP];grind
def OF(a b:Sp):cr a b b=0:=by rw[bP];grind
structure ChI(A B:Int)(st done:yas):Prop where
 e2:∀b a r,(b::a::r) <:+ st->∀p∈done,0<=cr a b p
 e3:∀c b a r,(c::b::a::r) <:+ st->0<cr a b c
 ord:st.Pairwise λb a=>fA A B a<fA A B b
 mem:∀p∈st,p∈done
 top:∀b r,st=b::r->∀p∈done,fA A B p<=fA A B b
 bot:done ≠ []->∃pre a,st=pre++[a]/\∀p∈done,fA A B a<=fA A B p
def F4{b a:Sp}{r st:yas}(h:b::a::r <:+ st)(o:st.Pairwise R):R b a:=by let⟨c,rfl⟩:=h;calc(zBX.mp (List.pairwise_append.mp o).2.1).1 a 47
theorem Ik(I:ChI A B st0 done)(d:∀p∈done,fA A B p<fA A B x):∀(st:yas),st <:+ st0->(∀b r,st=b::r->∀p∈done,fA A B b<fA A B p->0<=cr b x p) →
  (∀b a r,cG st x=b::a::r->0<cr a b x)/\(∀b r,cG st x=b::r->∀p∈done,fA A B b<fA A B p->0<=cr b x p)
 |[],_,h=>⟨λb a r e=>(by cases e),λb r e=>(by cases e)⟩
 |[b],_,h=>⟨λb a r e=>(by cases e),h⟩
 |b::a::r,s,h=>by
  ext cG;split;rename_i c;refine Ik I d (a::r) (List.IsSuffix.trans (List.suffix_cons _ _) s) λk g e p j i=>?_
  cases e;let o:=F4 s I.ord;let f:=I.e2 b a r s p j;let b:=d a (I.mem a (s.subset 52));rw[cx1]at f c ⊢;rw[Mf]at c;calc RA b o i 33 f;rename_i c;calc⟨λk l g e=>?_,h⟩;cases e
  lia
theorem far(I:ChI A B st0 done)(c:∀p∈done,fA A B p<fA A B x):∀(st:yas),st <:+ st0->(∀b a r,st=b::a::r->0<cr a b x)->∀b a r,b::a::r <:+ st->0<cr a b x
 |[],_,_=>λb a r e=>by have:=e.length_le;simp at this
 |b::st,s,h=>λf g b e=>by
  obtain q|q:=List.suffix_cons_iff.mp e;calc h _ _ _ q.symm;calc far I c st (List.IsSuffix.trans (List.suffix_cons _ _) s) (λa i r d=>?_) f g b q;subst d;let d:=h _ _ _ rfl;let b:=I.e3 _ _ _ _ s;let g:=F4 s I.ord;let f:=F4 (List.IsSuffix.trans (List.suffix_cons _ _) s) I.ord;let e:=c a (I.mem a (s.subset 52));rw[cx2]at b ⊢;rw[cx1]at d;calc Le f g e b (Vz d)
theorem Eh:∀{st:yas},st ≠ []->cG st x ≠ []
 |[],h=>absurd rfl h
 |[b],_=>by simp[cG]
 |b::a::r,_=>by ext cG;split;calc Eh 52;simp
def JR{A B:Int}{st done:yas}{x:Sp}(I:ChI A B st done)(h:∀p∈done,fA A B p<fA A B x)(m:∀p∈done,∀q∈done,fA A B p=fA A B q->p=q)(u:done=[]->st=[]):ChI A B (x::cG st x) (done++[x]):=by
 let s:cG st x <:+ st:=by let⟨f,q⟩:=uf st x;exact⟨f,q.symm⟩
 let⟨n,w⟩:=Ik I h st (List.suffix_refl _) λb r e p d y=>absurd (I.top b r e p d) 33
 let F:=far I h _ s n;calc⟨λb a r e p d=>?_,λc b a r e=>?_,?_,λp d=>?_,λb r e p d=>?_,λ_=>?_⟩;obtain q|q:=List.suffix_cons_iff.mp e;injection q with l b;subst l;obtain d|d:=VS.mp d;rcases zB4 (fA A B p) (fA A B a)with c|c|c;obtain _|⟨z,r⟩:=r;let⟨f,C,g,i⟩:=I.bot (List.ne_nil_of_mem d);rw[<- b]at s;let⟨k,j⟩:=s;rw[g]at j;have:=List.append_inj_right' j 52;simp at this;have:=i p d
 subst_vars
 lia
 let i:=n _ _ _ b.symm;rw[<- b]at s;let r:=I.e2 _ _ _ s p d;let o:=F4 s I.ord;let t:=h a (I.mem a (s.subset 52));rw[cx2]at i;rw[cx5]at r;rw[cx4];calc Vz (Ld c o t r i);rw[m p d a (I.mem a (s.subset (by rw[<- b];simp))) c,OE];calc YT _;calc w _ _ b.symm p d c;rw[Yv.mp d,OF];calc YT _;obtain d|d:=VS.mp d;calc I.e2 _ _ _ (q.trans s) p d;rw[Yv.mp d];calc Vz (F _ _ _ q);obtain q|q:=List.suffix_cons_iff.mp e;injection q with l b;subst l;calc n _ _ _ b.symm;calc I.e3 _ _ _ _ (q.trans s);calc zBX.mpr ⟨λa b=>h a (I.mem a (s.subset b)),I.ord.sublist s.sublist⟩;obtain q|q:=VC.mp d;rw[q];simp;calc Zo _ (I.mem p (s.subset q));injection e with g j;subst g;obtain q|q:=VS.mp d;calc Vz (h p q);rw[Yv.mp q];calc YT _;by_cases b:done=[];rw[u b,b];calc⟨[],x,rfl,λp d=>by simp at d;rw[d];calc YT _⟩;let⟨f,a,g,i⟩:=I.bot b;let⟨k,j⟩:=s;let f:cG st x ≠ []:=Eh (by rw[g];simp);obtain⟨b,c,e⟩:∃b c,cG st x=b++[c]:=⟨_,_,(zBm f).symm⟩;have:c=a:=by rw[e,g,<- zBM]at j;have:=List.append_inj_right' j 52;simpa using this
 subst this;calc⟨x::b,c,by rw[e];rfl,λp d=>?_⟩;obtain q|q:=VS.mp d;calc i p q;rw[Yv.mp q];calc Vz (h c (I.mem c (by rw[g];simp)))
theorem yQ:∀(es st done:yas),ChI A B st done->(done=[]->st=[])->(done++es).Pairwise (λp q=>fA A B p<fA A B q)->ChI A B (bN st es) (done++es)
 |[],st,done,I,_,_=>by rw[zBd];calc I
 |x::es,st,done,I,h,o=>by
  let⟨g,i,f⟩:=List.pairwise_append.mp o;let d:∀(l:yas),l.Pairwise (λp q=>fA A B p<fA A B q)->∀p∈l,∀q∈l,fA A B p=fA A B q->p=q:=by
   intro l
   induction l with
   |nil=>intro _ p c;cases c
   |cons y l ih =>
    intro o p c q b e;let⟨u,v⟩:=zBX.mp o;obtain a|a:=VC.mp c<;>obtain b|b:=VC.mp b;rw[a,b];have:=u q b;rw[a]at e;lia;have:=u p a;rw[b]at e;lia;exact ih v p a q b e
  have:=yQ es (x::cG st x) (done++[x]) (JR I (λp c=>f p c x ZN) (d done g) h) 52 (by rw[zBM];calc o);rw[zBM]at this;calc this
def ML(A B:Int):ChI A B [] []:=⟨λb a r e=>by have:=e.length_le;simp at this,λc b a r e=>by have:=e.length_le;simp at this,.nil,λp a=>a,λb r e=>(by cases e),λh=>absurd rfl h⟩
def Qj{ys:yas}(o:ys.Pairwise λp q=>fA A B p<fA A B q):ChI A B (bN [] ys) ys:=by
 have:=yQ ys [] [] (ML A B) 33 47
 cbv
structure Way(A B:Int)(ps:yas)(n:Nat)(l:Nat->Sp):Prop where
 two:2<=n
 VW:∀i,i+1<n->∀p∈ps,0<=cr (l i) (l (i+1)) p
 Y0:∀i,i+2<n->0<cr (l i) (l (i+1)) (l (i+2))
 rise:∀i j,i<j->j<n->fA A B (l i)<fA A B (l j)
 mem:∀i,i<n->l i∈ps
 lo:∀p∈ps,fA A B (l 0)<=fA A B p
 hi:∀p∈ps,fA A B p<=fA A B (l (n - 1))
def cT(A B:Int)(p:Sp):fA (-A) (-B) p=- fA A B p:=by ext fA;grind
theorem KS{n m:Nat}(L:Way A B ps (n+2) l)(U:Way (-A) (-B) ps (m+2) u)(i:l (n+1)=u 0)(h:0<n+m):0<cr (l n) (l (n+1)) (u 1):=by
 let f:=L.rise n (n+1) 33 33;let d:=U.rise 0 1 Nat.one_pos 33;rw[cT,cT,Int.neg_lt_neg_iff]at d;rw[i]at f ⊢;let g:cr (l n) (u 0) (u 1)=cx (u 1) (u 0) (l n) (u 0):=by rw[bP];ext cx;grind
 rw[g];cases n with
 |succ a =>
  let b:=L.Y0 a 47;let o:=L.rise a (a+2) 33 47;let e:=U.VW 0 33 (l a) (L.mem a 33);let c:l (a+2)=u 0:=i;rw[c]at o b;let g:cr (u 0) (u 1) (l a)=cx (u 1) (u 0) (l a) (u 0):=by rw[bP];ext cx;grind
  rw[g]at e;rw[cx3]at b;calc Ld (A:=A) (B:=B) d o f e b
 |zero =>
  cases m with
  |zero=>lia
  |succ m =>
   let b:=U.Y0 0 33;let o:=U.rise 0 2 23 33;rw[cT,cT,Int.neg_lt_neg_iff]at o;let e:=L.VW 0 33 (u 2) (U.mem 2 33);let c:l (0+1)=u 0:=i;rw[c]at e;let g:cr (l 0) (u 0) (u 2)=cx (u 2) (u 0) (l 0) (u 0):=by rw[bP];ext cx;grind
   let j:cr (u 0) (u 1) (u 2)=cx (u 1) (u 0) (u 2) (u 0):=by rw[bP];ext cx;grind
   rw[g]at e;let a:0<cx (u 1) (u 0) (u 2) (u 0):=47
   calc Le (A:=A) (B:=B) d o f a e
def Ek{n m:Nat}{h:Nat->Sp}(L:Way A B ps (n+2) l)(U:Way (-A) (-B) ps (m+2) u)(r:l (n+1)=u 0)(i:u (m+1)=l 0)(q:0<n+m)
  (b:∀k,k<n+2->h k=l k) (d:∀j,j<m+1->h (n+1+j)=u j):(∀k,k<n+m+2->∀p∈ps,0<=cr (h ((k+(n+m+2) - 1) % (n+m+2))) (h k) p)/\0<cr (h 0) (h 1) (h 2):=by
 calc⟨λk o p f=>?_,?_⟩;cases k with
 |zero =>
  let e:(0+(n+m+2) - 1) % (n+m+2)=n+1+m:=by simp_all [zCU,Nat.add_right_comm]
  rw[e,d m 47,b 0 47,<- i];calc U.VW m 47 p f
 |succ k =>
  let e:(k+1+(n+m+2) - 1) % (n+m+2)=k:=by
   rw[Nat.add_right_comm]
   simp_all [zC0,ZO,zC1]
  rw[e];by_cases c:k+1<n+2;rw[b k (zC1 c),b (k+1) c];calc L.VW k c p f;let⟨j,rfl⟩:=Nat.le.dest (Nat.le_of_succ_le_succ (zCq c));let g:j+1<m+1:=33
  rw[d j (zC1 g),Nat.add_assoc,d (j+1) g];exact U.VW j (zCe g) p f
 cases n with
 |succ a =>
  let z:2<a+1+2:=33
  rw[b 0 47,b 1 47,b 2 z];calc L.Y0 0 z
 |zero =>
  grind [KS]
def Jb{ys:yas}(o:ys.Pairwise λp q=>fA A B p<fA A B q)(e:2<=#[ys]):Way A B ys #[aG ys] λi=>(aG ys).getD i (0,0):=by
 let I:=Qj o;let⟨c,a,b,l⟩:=I.bot 58;let d:2<=#[aG ys]:=by
  ext aG;rw[zBk,b];obtain _|⟨b,c⟩:=c;let t:=I.top a [] 47;obtain _|⟨k,_|⟨c,r⟩⟩:=ys;simp at e;simp at e;let q:=(zBX.mp o).1 c 52;grind;simp
 let sp1:∀i,i<#[aG ys]->(aG ys)[i]?=some ((aG ys).getD i (0,0)):=58
 let c:bN [] ys=(aG ys).reverse:=by ext aG;grind
 calc⟨d,λi d p f=>?_,λi d=>?_,λi j h g=>?_,λi d=>?_,λp f=>?_,λp f=>?_⟩;calc I.e2 _ _ ((aG ys).take i).reverse ⟨((aG ys).drop (i+2)).reverse,?_⟩ p f;rw[c];let q:=zBx i (aG ys);rw[zBj 33,zBj d]at q;let e:=congrArg List.reverse q;simp only[Yu,Wc (show i<#[aG ys] by lia),Wc d,zDD];simpa only[List.reverse_append,zCd,zBM,zBQ,zBv]using e;calc I.e3 _ _ _ ((aG ys).take i).reverse ⟨((aG ys).drop (i+3)).reverse,?_⟩;rw[c];let q:=zBx i (aG ys);rw[zBj 33,zBj (show i+1<#[aG ys] by lia),zBj d]at q;let e:=congrArg List.reverse q;simp only[Yu,Wc (show i<#[aG ys] by lia),Wc (show i+1<#[aG ys] by lia),Wc d,zDD];simpa only[List.reverse_append,zCd,zBM,zBQ,zBv]using e;let c:(aG ys).Pairwise λa b=>fA A B a<fA A B b:=by exact List.pairwise_reverse.mpr I.ord
 have:=(zBC.mp c) i j 33 g h;grind;calc I.mem _ ?_;grind
 cbv
 let e:=sp1 (#[aG ys] - 1) 33;generalize (aG ys).getD (#[aG ys] - 1) (0,0)=b at e ⊢;calc I.top b (bN [] ys).tail ?_ p f;unfold aG at e;cases hc:bN [] ys with
 |nil=>grind
 |cons x r=>rw[hc]at e;simp at e;grind
theorem Hf:∀{l:yas},l.Pairwise (λp q=>fA A B p<fA A B q)->∀p∈l,∀q∈l,fA A B p=fA A B q->p=q
 |[],_,p,a=>by cases a
 |y::l,o,p,a=>λq b e=>by
  let⟨u,v⟩:=zBX.mp o;obtain a|a:=VC.mp a<;>obtain b|b:=VC.mp b;rw[a,b];have:=u q b;rw[a]at e;lia;have:=u p a;rw[b]at e;lia;calc Hf v p a q b e
def Way.to{ps qs:yas}(h:∀p,p∈qs↔p∈ps)(W:Way A B ps n l):Way A B qs n l :=
 ⟨W.two,λi b p a=>W.VW i b p ((h p).mp a),W.Y0,W.rise,λi b=>(h _).mpr (W.mem i b),λp a=>W.lo p ((h p).mp a),λp a=>W.hi p ((h p).mp a)⟩
theorem Oz:∀ys:yas,∃M:Int,0<M/\∀p∈ys,-M<p.2/\p.2<M
 |[]=>⟨1,23,λp a=>by cases a⟩
 |y::ys=>by
  let⟨M,b,h⟩:=Oz ys;calc⟨M+y.2.natAbs+1,33,λp a=>?_⟩;obtain q|q:=VC.mp a;rw[q];lia;have:=h p q;lia
def HC{M:Int}{p q:Sp}(h0:0<M)(b:-M<p.2/\p.2<M)(a:-M<q.2/\q.2<M)(h:lX p q):fA (2*M) 1 p<fA (2*M) 1 q:=by
 ext fA;obtain h|⟨d,c⟩:=h;have:=zBy (show p.1+1<=q.1 by lia) (show 0<=2*M by lia)
 lia
 lia
def bQ(hs:yas)(k:Nat):Sp:=hs.getD ((k+#[hs] - 1) % #[hs]) (0,0)
structure nh(hs ps:yas):Prop where
 mem:∀p∈hs,p∈ps
 len:#[hs]<=2*#[ps]
 some_:ps ≠ []->∃a r,hs=a::r/\∀p∈ps,¬lX p a
 one:∀a,hs=[a]->∀p∈ps,p=a
 two:∀a b,hs=[a,b]->a≠b/\∀p∈ps,cr a b p=0/\¬lX b p
 VW:2<#[hs]->∀k,k<#[hs]->∀p∈ps,0<=cr (bQ hs k) (hs.getD k (0,0)) p
 Y0:2<#[hs]->0<cr (hs.getD 0 (0,0)) (hs.getD 1 (0,0)) (hs.getD 2 (0,0))
def tU{ys ps:yas}(o:ys.Pairwise (λp q=>p.1<q.1∨(p.1=q.1/\p.2<q.2)))(a:∀p,p∈ys↔p∈ps)(c:¬#[ys]<2):∃(A:Int) (n m:Nat),#[aG ys]<=#[ys]/\#[aG ys.reverse]<=#[ys]/\(∀p∈ps,∀q∈ps,fA A 1 p=fA A 1 q->p=q)/\(∀p∈ps,∀q∈ps,fA A 1 p<=fA A 1 q->¬lX q p)/\#[aG ys]=n+2/\#[aG ys.reverse]=m+2 ∧
  Way A 1 ps (n+2) (λi=>(aG ys).getD i (0,0))/\Way (-A) (-1) ps (m+2) (λi=>(aG ys.reverse).getD i (0,0))/\(aG ys).getD (n+1) (0,0)=(aG ys.reverse).getD 0 (0,0)/\(aG ys.reverse).getD (m+1) (0,0)=(aG ys).getD 0 (0,0) ∧
  (∀j,j<m+1->((aG ys).dropLast++(aG ys.reverse).dropLast).getD (n+1+j) (0,0)=(aG ys.reverse).getD j (0,0))/\(∀k,k<n+2->((aG ys).dropLast++(aG ys.reverse).dropLast).getD k (0,0)=(aG ys).getD k (0,0))/\#[(aG ys).dropLast++(aG ys.reverse).dropLast]=n+m+2:=by
 let⟨M,r,g⟩:=Oz ys;let i:ys.Pairwise λp q=>fA (2*M) 1 p<fA (2*M) 1 q:=by calc List.Pairwise.imp_of_mem ?_ o;intro p q f d h;exact HC r (g p f) (g q d) h
 let s:ys.reverse.Pairwise λp q=>fA (-(2*M)) (-1) p<fA (-(2*M)) (-1) q:=by calc List.pairwise_reverse.mpr (i.imp ?_);intro p q h;rw[cT,cT];exact Int.neg_lt_neg h
 let L:=(Jb i (zCq c)).to (qs:=ps) λp=>(a p).symm
 let U:=(Jb s (by rw[zBk];calc zCq c)).to (qs:=ps) λp=>by rw[List.mem_reverse];exact(a p).symm
 let w:#[aG ys]<=#[ys]:=by have:=kM [] ys;ext aG;rw[zBk];simpa using this
 let t:#[aG ys.reverse]<=#[ys]:=by have:=kM [] ys.reverse;ext aG;rw[zBk];simpa using this
 generalize aG ys=l at L w ⊢;generalize aG ys.reverse=u at U t ⊢;let b:∀p∈ps,∀q∈ps,fA (2*M) 1 p=fA (2*M) 1 q->p=q:=λp f q d e=>Hf i p ((a p).mpr f) q ((a q).mpr d) e
 let h:∀p∈ps,∀q∈ps,fA (2*M) 1 p<=fA (2*M) 1 q->¬lX q p:=λp f q d e x =>
  Int.not_le_of_gt (HC r (g q ((a q).mpr d)) (g p ((a p).mpr f)) x) e
 generalize 2*M=A at L U b h;clear i s g r o a;obtain⟨n,c⟩:∃n,#[l]=n+2:=⟨#[l] - 2,by have:=L.two;lia⟩;obtain⟨m,a⟩:∃m,#[u]=m+2:=⟨#[u] - 2,by have:=U.two;lia⟩;let o:#[l.dropLast++u.dropLast]=n+m+2:=by
  rw[Xh,zBp,zBp,c,a];show n+1+(m+1)=_
  lia
 rw[c]at L;rw[a]at U;let i:l.getD (n+1) (0,0)=u.getD 0 (0,0):=by let e:=L.mem (n+1) (zDB _);let d:=U.mem 0 (zCI _);let g:=L.hi _ d;let f:=U.lo _ e;rw[cT,cT]at f;exact b _ e _ d (Int.le_antisymm (Int.le_of_neg_le_neg f) g)
 let p:u.getD (m+1) (0,0)=l.getD 0 (0,0):=by let e:=L.mem 0 (zCI _);let d:=U.mem (m+1) (zDB _);let g:=L.lo _ d;let f:=U.hi _ e;rw[cT,cT]at f;exact b _ d _ e (Int.le_antisymm (Int.le_of_neg_le_neg f) g)
 let d:∀j,j<m+1->(l.dropLast++u.dropLast).getD (n+1+j) (0,0)=u.getD j (0,0):=λj e=>by
  let ld:#[l.dropLast]=n+1:=by rw[zBp,c];rfl
  rw[Yu,Yu,zAr (by rw[ld];calc zCp _ _),ld,Nat.add_sub_cancel_left,List.getElem?_dropLast,a,TU (show j<m+2 - 1 from e)]
 let f:∀k,k<n+2->(l.dropLast++u.dropLast).getD k (0,0)=l.getD k (0,0):=λk e=>by
  rcases Nat.lt_or_eq_of_le (Nat.le_of_lt_succ e)with z|z;rw[Yu,Yu,zAo (by rw[zBp,c];calc z),List.getElem?_dropLast,c,TU (show k<n+2 - 1 from z)];rw[z,i];exact d 0 (zCI _)
 calc⟨A,n,m,w,t,b,h,c,a,L,U,i,p,d,f,o⟩
def lE(h:bC ys ps):nh (aM ys) ps:=by
 let I:=nR h;let⟨o,j⟩:=h;ext aM;by_cases c:#[ys]<2;rw[TU c];calc⟨λp d=>(j p).mp d,33,λe=>?_,λa e p d=>?_,λa b e=>?_,λq=>absurd q 33,λq=>absurd q 33⟩;obtain _|⟨y,_|⟨z,r⟩⟩:=ys;cases ps with
 |nil=>calc absurd rfl e
 |cons y r=>have:=(j y).mpr ZN;cases this
 calc⟨y,[],rfl,λp d=>?_⟩;have:=(j p).mpr d;rw[Yv.mp this];exact λq=>q.elim (zCZ _) λq=>zCZ _ q.2
 calc absurd c 52;have:=(j p).mpr d;rw[e]at this;calc Yv.mp this;rw[e]at c;simp at c;rw[TM c];let⟨A,n,m,ll,J,G,y,H,j,L,U,s,t,B,h,f⟩:=tU o j c;generalize aG ys=l at *;generalize aG ys.reverse=u at *;let c:∀{w:yas} {x:Sp},x∈w.dropLast->x∈w:=fun {w x} g=>(zC4 w).subset g
 let o:∀{w:yas} {i:Nat} (g:i<#[w]),w.getD i (0,0)=w[i]:=fun {w i} g=>by rw[Yu,Wc g];rfl
 let k:=h 0 (zCI _);calc⟨λp d=>?_,by rw[f];lia,λe=>?_,λa e=>?_,λa b e=>?_,λq=>?_,λq=>?_⟩;obtain z|z:=VS.mp d;let⟨i,g,e⟩:=zDA.mp (c z);rw[<- e,<- o g];calc L.mem i (by rw[<- H];calc g);let⟨i,g,e⟩:=zDA.mp (c z);rw[<- e,<- o g];calc U.mem i (by rw[<- j];calc g);cases hh:l.dropLast++u.dropLast with
 |nil=>rw[hh]at f;calc absurd f 52
 |cons a r =>
  rw[hh]at k;calc⟨a,r,rfl,λp d=>?_⟩;rw[show a=l.getD 0 (0,0)from k];exact y _ (L.mem 0 (zCI _)) p d (L.lo p d)
 rw[e]at f;simp at f;let c:n=0/\m=0:=by rw[e]at f;simp at f;lia
 let⟨rfl,rfl⟩:=c;let g:=h 1 23;rw[e]at k g;let c:a=l.getD 0 (0,0):=k;let e:b=l.getD 1 (0,0):=g;let g:l.getD 1 (0,0)=u.getD 0 (0,0):=s;let i:u.getD 1 (0,0)=l.getD 0 (0,0):=t;calc⟨λj=>?_,λp d=>?_⟩;have:=L.rise 0 1 23 23;rw[<- c,<- e,j]at this;calc zCZ _ this;let l:=L.VW 0 23 p d;let k:=U.VW 0 23 p d;let j:=L.hi p d;let E:0<=cr a b p:=by rw[c,e];exact l
 let C:0<=cr b a p:=by rw[e,g,c,<- i];exact k
 let c:fA A 1 p<=fA A 1 b:=by rw[e];exact j
 let M:cr b a p=- cr a b p:=by rw[bP,bP];grind
 calc⟨33,y p d b ?_ c⟩;rw[e];calc L.mem 1 23;intro k a p d;rw[f]at a q;let R:=(Ek L U s t 33 h B).1 k a p d;ext bQ;rw[f];calc R;rw[f]at q;calc(Ek L U s t 33 h B).2
def An{a:Type}(xs:List a)(j b:Nat)(d:j<#[xs])(e:b<=#[xs]):atI xs ((j:Int) - (b:Int))=xs[(j+#[xs] - b) % #[xs]]?:=by
 ext atI ixN;by_cases c:b<=j;rw[TU 33,TU 33,show j+#[xs] - b=j - b+#[xs] by lia,zC0,ZO 33];show xs[((j:Int) - (b:Int)).toNat]?=_;congr 1
 lia
 rw[TM 33,TU 33,ZO 33];show xs[((j:Int) - (b:Int)+(#[xs]:Int)).toNat]?=_;congr 1
 lia
def LK(lo a:Int):jz lo a 1=(a - lo).toNat:=by
 ext jz Builtin.Range.rangeSize;rw[TU 23];by_cases h:lo<a;rw[TU h,Int.ediv_one]
 lia
 rw[TM h]
 lia
def BP(n:Nat):iD 0 1 (jz 0 (n:Int) 1)=(List.range' 0 n).map λ(k:Nat)=>D.int (k:Int):=by ext iD;rw[LK,show((n:Int) - 0).toNat=n by lia,List.range'_eq_map_range,Ww];apply zB7;intro k _;simp
def QF(p:Sp):Yf 1 (UD p):=Yf.tup (.cons (.int _ _) (.cons (.int _ _) (.nil _)))
def HQ(p:Sp):Yf 1 (VU p):=Yf.tup (.cons (.int _ _) (.cons (.int _ _) (.cons (.int _ _) (.nil _))))
def Th{B:Int}{Q:D->Prop}(f:0<B)(e:Bd 4000 B)(h:Q (vT B X Y)):CD B (Int.gcd (Int.gcd B X:Int) Y:Int)/\CD X (Int.gcd (Int.gcd B X:Int) Y:Int)/\CD Y (Int.gcd (Int.gcd B X:Int) Y:Int)/\#[([D.int (B.fdiv (Int.gcd (Int.gcd B X:Int) Y:Int)),D.int (X.fdiv (Int.gcd (Int.gcd B X:Int) Y:Int)),D.int (Y.fdiv (Int.gcd (Int.gcd B X:Int) Y:Int))]:yar)]<=sizeLine/\Q (D.tup [D.int (B.fdiv (Int.gcd (Int.gcd B X:Int) Y:Int)),D.int (X.fdiv (Int.gcd (Int.gcd B X:Int) Y:Int)),D.int (Y.fdiv (Int.gcd (Int.gcd B X:Int) Y:Int))]):=by
 let c:(Int.gcd (Int.gcd B X:Int) Y:Int)=PM.VB B X Y B:=by ext PM.VB PM.g3;rw[TM 33]
 let b:¬(B=0/\X=0/\Y=0):=33
 let a:Bd 8000 (PM.VB B X Y B):=by let d:=PM.cF (l:=B) (PM.fu B X Y);exact zBg (zCL 33 47) (e.mono (n:=8000) 23)
 rw[c];calc⟨⟨PM.cS b,a⟩,⟨PM.cS b,a⟩,⟨PM.cS b,a⟩,Z0 _ _ _,h⟩
noncomputable def eT(pk:yag):Nat:=match pk.getLast? with
 |none=>0
 |some l=>l+1
def Za(n:Nat)(pk:yag):List (yag):=(List.range' (eT pk) (n - eT pk)).map λk=>pk++[k]
def WO(n:Nat):Nat->List (yag)
 |0=>[[]]
 |j+1=>(WO n j).flatMap (Za n)
def Y1(pk:yag):D:=.lst true (pk.map λ(k:Nat)=>D.int (k:Int))
theorem kr:∀{j:Nat} {pk:yag},pk∈WO n j->#[pk]=j/\∀k∈pk,k<n
 |0,pk,h=>by simp only[WO,Yv]at h;subst h;simp
 |j+1,pk,h=>by
  simp only[WO,zB2]at h;let⟨q,a,h⟩:=h;let⟨c,b⟩:=kr a;unfold Za at h;let⟨k,a,rfl⟩:=UQ.mp h;rw[zCb]at a;calc⟨by simp[c],λx a=>?_⟩;obtain z|z:=VS.mp a;calc b x z;simp at z;subst z;lia
theorem mP(n:Nat):∀j:Nat,#[WO n j]<=n ^ j
 |0=>by simp[WO]
 |j+1=>by
  let ih:=mP n j;simp only[WO];have:∀l:List (yag),#[l.flatMap (Za n)]<=#[l]*n:=by
   intro l
   induction l with
   |nil=>simp
   |cons a r ih =>
    rw[zCy,Xh,ZH,Nat.add_mul];have:#[Za n a]<=n:=by ext Za;rw[T4,zBe];lia
    lia
  calc Xb (this _) ?_;rw[zCT];calc zDC _ ih
def NO(a b:Nat):iD (a:Int) 1 (jz a b 1)=(List.range' a (b - a)).map λ(k:Nat)=>D.int (k:Int):=by
 ext iD
 simp_all [LK,List.range'_eq_map_range,Ww]
theorem AX(n:Nat):∀l:List (yag),#[l.flatMap (Za n)]<=#[l]*n
 |[]=>52
 |a::r=>by
  rw[zCy,Xh,ZH,Nat.add_mul];have:=AX n r;have:#[Za n a]<=n:=by ext Za;grind
  lia
def L9{pk:yag}(h:pk ≠ []){Q:D->Prop}(q:Q (.int ((eT pk:Nat) - 1:Int))):∃d,atI (pk.map λ(k:Nat)=>D.int (k:Int)) (-1)=some d/\Q d:=by
 obtain⟨r,l,rfl⟩:∃r l,pk=r++[l]:=⟨pk.dropLast,pk.getLast h,(zBm h).symm⟩;calc⟨.int l,?_,?_⟩;ext atI ixN;let e:(-1+((#[r]:Int)+1)).toNat=#[r]:=33
 let l:(1:Int)<=(#[r]:Int)+1:=33
 cbv
 have:((eT (r++[l]):Nat):Int) - 1=l:=by ext eT;simp
 cbv
abbrev Tr:=Int×Int×Int
abbrev yat:=List Tr
noncomputable def tn(a b:Sp):Int:=a.1*b.2 - b.1*a.2
def TP(a b:Sp):Int:=a.1*b.1+a.2*b.2
def Uo(h:Tr)(p:Sp):Sp:=(h.1*p.1 - 1*h.2.1,h.1*p.2 - 1*h.2.2)
noncomputable def gvS(g h:Tr):Int:=g.1*h.1+g.2.1*h.2.1+g.2.2*h.2.2
noncomputable def bX(a b:Sp):Tr:=(a.1*b.2 - b.1*a.2,a.2*1 - b.2*1,1*b.1 - 1*a.1)
def cn(a w:Sp):Tr:=(-(w.1*a.1+w.2*a.2),w.1*1,w.2*1)
def V4(a:Sp):Sp:=(-a.1,-a.2)
noncomputable def VH(a:Sp):Sp:=(-a.2,a.1)
noncomputable def aS(a b:Sp):Sp:=if a=b then(1,0)else(1*b.1 - 1*a.1,1*b.2 - 1*a.2)
def fO(a b:Sp):yat:=[cn a (aS a b),cn b (V4 (aS a b)),cn a (VH (aS a b)),cn a (V4 (VH (aS a b)))]
def aU(hs:yas):yat:=if #[hs]<3 then fO (hs.getD 0 (0,0)) (hs.getD (#[hs] - 1) (0,0))else(List.range' 0 #[hs]).map λk=>bX (bQ hs k) (hs.getD k (0,0))
def wO(a:Sp):Prop:=a=(0,0)
def pP(a b:Sp):Prop:=tn a b=0/\TP a b<0
def wQ(a b e:Sp):Prop:=(0<tn b e/\0<tn e a/\0<tn a b)∨(tn b e<0/\tn e a<0/\tn a b<0)
theorem cB(a b:Sp):tn a b=- tn b a:=by ext tn;grind
def sj(a:Sp):tn a a=0:=by ext tn;grind
def AS(a b:Sp):TP a b=TP b a:=by ext TP;grind
def sqn(a:Int):0<=a*a:=by
 obtain h|h:=Int.le_total 0 a;calc V6 h h;have:=V6 (show 0<=-a by lia) (show 0<=-a by lia)
 lia
def gr{w:Sp}(h:w≠(0,0)):0<TP w w:=by
 let⟨a,b⟩:=w;ext TP;dsimp only;let f:=sqn a;let e:=sqn b;by_cases d:a=0;by_cases c:b=0
 lia
 have:b*b≠0:=47
 omega;have:a*a≠0:=47
 omega
def w7{b c:Sp}{y z:Int}(e:0<y)(hz:0<z)(h:y*b.1+z*c.1=0)(g:y*b.2+z*c.2=0):wO b∨pP b c:=by
 by_cases a:b=(0,0);exact .inl a
 right
 let p:=gr a;let t:z*tn b c=0:=by
  have:z*tn b c=b.1*(y*b.2+z*c.2) - b.2*(y*b.1+z*c.1):=by ext tn;grind
  cbv
 let d:z*TP b c=- (y*TP b b):=by
  have:z*TP b c+y*TP b b=b.1*(y*b.1+z*c.1)+b.2*(y*b.2+z*c.2):=by ext TP;grind
  grind
 let f:=Xc e p;calc⟨?_,?_⟩;obtain q|q:=WQ.mp t<;>lia;by_cases q:TP b c<0;calc q;have:=V6 (Vz hz) (show 0<=TP b c by lia)
 lia
def Ju(a b c:Sp):tn b c*a.1+tn c a*b.1+tn a b*c.1=0/\tn b c*a.2+tn c a*b.2+tn a b*c.2=0:=by ext tn;constructor<;>grind
def ud{c:Sp}{z:Int}(hz:0<z)(b:z*c.1=0)(a:z*c.2=0):wO c:=by
 obtain q|q:=WQ.mp b
 lia
 obtain r|r:=WQ.mp a
 lia
 calc ZR q r
def Ma(i:0<=tn b c)(h:0<=tn c a)(hz:0<=tn a b)(hs:0<tn b c+tn c a+tn a b) :
  wO a∨wO b∨wO c∨pP a b∨pP b c∨pP c a∨wQ a b c:=by
 let⟨e,d⟩:=Ju a b c;by_cases f:tn b c=0;rw[f,ZJ]at e d;by_cases g:tn c a=0;rw[g,ZJ]at e d;calc .inr (.inr (.inl (ud (z:=tn a b) 33 33 33)));by_cases f:tn a b=0;rw[f,ZJ]at e d;calc .inr (.inl (ud (z:=tn c a) 33 33 33));rcases w7 (b:=b) (c:=c) (y:=tn c a) (z:=tn a b) 33 33 33 33with q|q;calc .inr (.inl q);calc .inr (.inr (.inr (.inr (.inl q))));by_cases g:tn c a=0;rw[g,ZJ]at e d;by_cases f:tn a b=0;rw[f,ZJ]at e d;calc .inl (ud (z:=tn b c) 33 33 33);rcases w7 (b:=c) (c:=a) (y:=tn a b) (z:=tn b c) 33 33 33 33with q|q;calc .inr (.inr (.inl q));calc .inr (.inr (.inr (.inr (.inr (.inl q)))));by_cases f:tn a b=0;rw[f,ZJ]at e d;rcases w7 (b:=a) (c:=b) (y:=tn b c) (z:=tn c a) 33 33 33 33with q|q;calc .inl q;calc .inr (.inr (.inr (.inl q)));calc .inr (.inr (.inr (.inr (.inr (.inr (.inl ⟨33,33,33⟩))))))
def wR(h:Tr)(ps:yas):Prop:=(∃p∈ps,wO (Uo h p))∨(∃p∈ps,∃q∈ps,pP (Uo h p) (Uo h q))∨∃ p∈ps,∃q∈ps,∃r∈ps,wQ (Uo h p) (Uo h q) (Uo h r)
def Jt{ps:yas}{p q r:Sp}(d:p∈ps)(b:q∈ps)(a:r∈ps)(e:0<=tn (Uo h q) (Uo h r))(c:0<=tn (Uo h r) (Uo h p))(hz:0<=tn (Uo h p) (Uo h q))(hs:0<tn (Uo h q) (Uo h r)+tn (Uo h r) (Uo h p)+tn (Uo h p) (Uo h q)):wR h ps:=by
 obtain c|c|c|c|c|c|c:=Ma e c hz hs;calc .inl ⟨_,d,c⟩;calc .inl ⟨_,b,c⟩;calc .inl ⟨_,a,c⟩;calc .inr (.inl ⟨_,d,_,b,c⟩);calc .inr (.inl ⟨_,b,_,a,c⟩);calc .inr (.inl ⟨_,a,_,d,c⟩);calc .inr (.inr ⟨_,d,_,b,_,a,c⟩)
def JM(h:Tr)(a b:Sp):tn (Uo h a) (Uo h b)=h.1*gvS (bX a b) h:=by ext tn Uo gvS bX;grind
def MI(h:Tr)(a w:Sp):gvS (cn a w) h=- TP w (Uo h a):=by ext gvS cn TP Uo;grind
def Ri(h:Tr)(a b c:Sp):tn (Uo h b) (Uo h c)+tn (Uo h c) (Uo h a)+tn (Uo h a) (Uo h b)=h.1*(h.1*cr a b c):=by rw[bP];ext tn Uo;grind
def Qq(u v w:Sp):TP u v*TP u w+tn u v*tn u w=TP u u*TP v w:=by ext TP tn;grind
def yn{u:Sp}(a:u≠(0,0))(c:TP u v=0)(b:tn u v=0):v=(0,0):=by
 let p:=gr a;let l:=Qq u v v;rw[c,b]at l;by_cases c:v=(0,0);calc c;have:=Xc p (gr c)
 lia
def IP{ps:yas}{a b:Sp}(i:a∈ps)(bm:b∈ps)(c:∀g∈fO a b,0<=gvS g h):wR h ps:=by
 let l:=c _ (ZN);let f:=c _ (W9 _ ZN);let k:=c _ (W9 _ (W9 _ ZN));let e:=c _ (W9 _ (W9 _ (W9 _ ZN)));rw[MI]at l f k e;let d:aS a b≠(0,0):=by ext aS;grind
 let c:TP (V4 (aS a b)) (Uo h b)=- TP (aS a b) (Uo h b):=by ext TP V4;grind
 let n:TP (VH (aS a b)) (Uo h a)=tn (aS a b) (Uo h a):=by ext TP VH tn;grind
 let m:TP (V4 (VH (aS a b))) (Uo h a)=- tn (aS a b) (Uo h a):=by ext TP V4 VH tn;grind
 rw[c,Int.neg_neg]at f;let j:tn (aS a b) (Uo h a)=0:=33
 let g:TP (aS a b) (Uo h a)<=0:=47
 clear l k e c n m;by_cases e:a=b;calc .inl ⟨a,i,yn d 33 j⟩;let o:Uo h b=((Uo h a).1+h.1*(aS a b).1,(Uo h a).2+h.1*(aS a b).2):=by ext aS;rw[TM e];ext Uo;grind
 let c:tn (aS a b) (Uo h b)=0:=by
  have:tn (aS a b) ((Uo h a).1+h.1*(aS a b).1,(Uo h a).2+h.1*(aS a b).2)=tn (aS a b) (Uo h a):=by ext tn;grind
  cbv
 let e:tn (Uo h a) (Uo h b)=0:=by
  have:tn (Uo h a) ((Uo h a).1+h.1*(aS a b).1,(Uo h a).2+h.1*(aS a b).2)=- (h.1*tn (aS a b) (Uo h a)):=by ext tn;grind
  grind
 let l:=Qq (aS a b) (Uo h a) (Uo h b);rw[c,YS,zB8]at l;by_cases k:TP (aS a b) (Uo h a)=0;calc .inl ⟨a,i,yn d k j⟩;by_cases j:TP (aS a b) (Uo h b)=0;calc .inl ⟨b,bm,yn d j c⟩;let c:=zAn (Int.lt_iff_le_and_ne.mpr ⟨g,k⟩) (Int.lt_iff_le_and_ne.mpr ⟨f,Ne.symm j⟩);calc .inr (.inl ⟨a,i,b,bm,e,?_⟩);rw[l]at c;by_cases q:TP (Uo h a) (Uo h b)<0;calc q;calc absurd c (ZQ.mpr (V6 (Vz (gr d)) 47))
def JJ{h:Tr}{ps:yas}{c:Nat->Sp}{N:Nat}(h0:0<h.1)(g:∀i,i<N->c i∈ps)(l:∀i,i+1<N->0<=tn (Uo h (c i)) (Uo h (c (i+1))))(k:0<cr (c 0) (c 1) (c 2)) :
  ∀ d i,N=i+d+3->0<=tn (Uo h (c (i+d+2))) (Uo h (c 0))->0<=tn (Uo h (c 0)) (Uo h (c (i+1)))->(i=0∨0<tn (Uo h (c 0)) (Uo h (c (i+1))))->wR h ps:=by
 let XI:∀i,i+2<N->0<=tn (Uo h (c (i+2))) (Uo h (c 0))->0<=tn (Uo h (c 0)) (Uo h (c (i+1)))->(i=0∨0<tn (Uo h (c 0)) (Uo h (c (i+1))))->wR h ps:=λi b a e f=>by
  let j:=l (i+1) b;calc Jt (g 0 (zBg (Yt _) b)) (g (i+1) (zC1 b)) (g (i+2) b) j a e ?_;obtain q|q:=f;subst q;rw[Ri];calc Xc h0 (Xc h0 k);exact Int.add_pos_of_nonneg_of_pos (Int.add_nonneg j a) q
 intro d
 induction d with
 |zero =>
  intro i g a e f;calc XI i (by rw[g];calc zDB _) a e f
 |succ d ih =>
  intro i g a e f;let b:i+2<N:=by rw[g];lia
  by_cases z:0<tn (Uo h (c 0)) (Uo h (c (i+2)));let c:i+1+d+2=i+(d+1)+2:=33
  calc ih (i+1) (by rw[g];lia) (by rw[c];calc a) (Vz z) (.inr z);calc XI i b ?_ e f;rw[cB];calc Int.neg_nonneg_of_nonpos (ZQ.mp z)
def Ic{h:Tr}(g:nh hs ps)(c:ps ≠ [])(h0:0<h.1)(a:∀b∈aU hs,0<=gvS b h):wR h ps:=by
 let⟨p,o,b,_⟩:=g.some_ c;let f:0<#[hs]:=by rw[b];exact zCI _
 let l:∀i,i<#[hs]->hs.getD i (0,0)∈ps:=λi b=>by rw[Yu,Wc b];exact g.mem _ (zBZ _)
 unfold aU at a;by_cases c:#[hs]<3;rw[TU c]at a;calc IP (l 0 f) (l (#[hs] - 1) (Nat.sub_lt f Nat.one_pos)) a;rw[TM c]at a;obtain⟨d,e⟩:∃d,#[hs]=0+d+3:=⟨#[hs] - 3,33⟩;let m:∀k,k<#[hs]->0<=tn (Uo h (bQ hs k)) (Uo h (hs.getD k (0,0))):=λk j=>by rw[JM];exact V6 (Vz h0) (a _ (UQ.mpr ⟨k,zCb.mpr ⟨Yt _,by rw[zCU];calc j⟩,rfl⟩))
 let n:bQ hs 0=hs.getD (0+d+2) (0,0):=by ext bQ;rw[zCU,e];show hs.getD ((0+d+2) % (0+d+3)) _=_;rw[ZO (zDB _)]
 let a:∀k,k+1<#[hs]->bQ hs (k+1)=hs.getD k (0,0):=λk j=>by ext bQ;rw[Nat.add_right_comm];show hs.getD ((k+#[hs]) % #[hs]) _=_;rw[zC0,ZO (zC1 j)]
 let j:∀i,i+1<#[hs]->0<=tn (Uo h (hs.getD i (0,0))) (Uo h (hs.getD (i+1) (0,0))):=λi b=>by have:=m (i+1) b;rw[a i b]at this;exact this
 let a:=m 0 f;rw[n]at a;calc JJ (c:=λi=>hs.getD i (0,0)) h0 l j (g.Y0 (by rw[e];lia)) d 0 e a (j 0 (by rw[e];lia)) (.inl rfl)
def yv{u v x y:Int}(e:u*y=v*x)(a:0<u∨(u=0/\0<v))(b:0<x∨(x=0/\0<=y)):0<=u*x+v*y:=by
 obtain a|⟨a,d⟩:=a;let c:(u*x+v*y)*u=(u*u+v*v)*x:=58
 calc QA (y:=u) ?_ a;rw[c];refine V6 (Int.add_nonneg (sqn u) (sqn v)) ?_
 lia
 subst a;rw[ZJ]at e ⊢;rw[zC3];obtain q|q:=WQ.mp e.symm
 lia
 obtain r|r:=b
 lia
 calc V6 (Vz d) r.2
def xu(h:¬lX q p):0<q.1 - p.1∨(q.1 - p.1=0/\0<=q.2 - p.2):=by
 unfold lX at h
 lia
def KW{a b:Sp}{g:Tr}(i:a≠b)(h:¬lX b a)(f:¬lX p a)(e:¬lX b p)(h0:cr a b p=0)(c:g∈fO a b):0<=gvS g (1,p.1,p.2):=by
 let d:∀w a:Sp,gvS (cn a w) (1,p.1,p.2)=w.1*(p.1 - a.1)+w.2*(p.2 - a.2):=λw a=>by ext gvS cn;grind
 rw[bP]at h0;let k:(b.1 - a.1)*(p.2 - a.2)=(b.2 - a.2)*(p.1 - a.1):=33
 let j:(b.1 - a.1)*(b.2 - p.2)=(b.2 - a.2)*(b.1 - p.1):=58
 let g:0<b.1 - a.1∨(b.1 - a.1=0/\0<b.2 - a.2):=by
  obtain q|⟨q,r⟩:=xu h
  cbv
  grind
 let a:=yv k g (xu f);let l:=yv j g (xu e);unfold fO aS at c;rw[TM i]at c;simp at c;obtain q|q|q|q:=c<;>rw[q,d]<;>simp only[V4,VH];calc a;grind
 all_goals simp_all [XO,Int.add_left_neg,YT,Int.neg_neg,Int.add_right_neg]
def Ct(g:nh hs ps)(c:ps ≠ []){b:Tr}(d:b∈aU hs){p:Sp}(f:p∈ps):0<=gvS b (1,p.1,p.2):=by
 let⟨j,e,h,a⟩:=g.some_ c;unfold aU at d;by_cases c:#[hs]<3;obtain _|⟨i,_|⟨z,r⟩⟩:=e;let e:=g.one j h p f;rw[h]at d;let l:∀w:Sp,gvS (cn p w) (1,p.1,p.2)=0:=λw=>by ext gvS cn;grind
 unfold fO at d;simp at d;grind;let e:=g.two j i h;rw[h]at d;calc KW e.1 (a i (g.mem i 47)) (a p f) (e.2 p f).2 (e.2 p f).1 d;rw[h]at c;calc absurd c 52;rw[TM c]at d;let⟨k,m,e⟩:=UQ.mp d;let c:k<#[hs]:=58
 let a:gvS b (1,p.1,p.2)=cr (bQ hs k) (hs.getD k (0,0)) p:=by rw[<- e,bP];ext gvS bX;grind
 rw[a];calc g.VW 33 k c p f
def bF(w:Sp):Int:=((w.1.natAbs:Nat):Int)+((w.2.natAbs:Nat):Int)
def cg:Int->yaf->Int
 |d,[]=>d
 |d,x::a=>cg ((Int.gcd d x:Nat):Int) a
def dq(xs:yaf):yaf:=xs.map λx=>x.fdiv (cg 0 xs)
def tH(a:Sp):Option (yaf):=if bF a=0 then some [1]else none
def pW(a b:Sp):Option (yaf):=if tn a b=0/\TP a b<0 then some (dq [bF b,bF a])else none
def lS(a b e:Sp):Option (yaf) :=
 if 0<tn b e/\0<tn e a/\0<tn a b then some (dq [tn b e,tn e a,tn a b])
 else if tn b e<0/\tn e a<0/\tn a b<0 then some (dq [-tn b e,-tn e a,-tn a b])else none
def lT:yas->Option (yaf)
 |[]=>none
 |[a]=>tH a
 |[a,b]=>pW a b
 |a::b::e::_=>lS a b e
def yT:bF a=0↔a=(0,0):=by
 ext bF;let⟨x,y⟩:=a;simp only[Prod.mk.injEq]
 lia
def Bq{n i:Nat}(h:i<n):[i]∈WO n 1:=by simp only[WO,zCy,List.flatMap_nil,zBd];calc UQ.mpr ⟨i,zCb.mpr ⟨Yt _,by simp[eT];calc h⟩,rfl⟩
def J7{n i j:Nat}(h:i<j)(a:j<n):[i,j]∈WO n 2:=by
 have:=Bq (n:=n) (i:=i) 33;calc zB2.mpr ⟨[i],this,UQ.mpr ⟨j,zCb.mpr ?_,rfl⟩⟩;simp[eT]
 lia
theorem AZ(k:Int)(a:0<=k):∀(xs:yaf) (d:Int),cg (k*d) (xs.map (k*·))=k*cg d xs
 |[],d=>rfl
 |x::xs,d=>by show cg ((Int.gcd (k*d) (k*x):Nat):Int) (xs.map (k*·))=_;rw[zC9,Int.natCast_mul,Int.natAbs_of_nonneg a,AZ k a xs];rfl
def Ib(h:tn a b=0):TP b b*a.1+(-(TP a b))*b.1=0/\TP b b*a.2+(-(TP a b))*b.2=0:=by
 let d:TP b b*a.1+(-(TP a b))*b.1=b.2*tn a b:=by ext TP tn;grind
 let c:TP b b*a.2+(-(TP a b))*b.2=- (b.1*tn a b):=by ext TP tn;grind
 cbv
def tW{a:Sp}(h:a≠(0,0)):0<bF a:=by
 have:bF a≠0:=λe=>h (yT.mp e)
 unfold bF at this ⊢
 lia
def Ug(g:Tr):D:=T3 g.1 g.2.1 g.2.2
theorem Ew(h:Ug p=Ug q):p=q:=by
 unfold Ug T3 at h
 lia
def N9{ps qs:yat}(h:ps.map Ug=qs.map Ug):ps=qs:=jk Ew h
theorem iT(p:Tr):aJ (Ug p)=Ug p:=rfl
def wK(ps:yat):aV (ps.map Ug)=ps.map Ug:=cK Ug iT ps
def oL:Option (yaf)->D
 |none=>.UE
 |some a=>.lst true (a.map D.int)
structure WB(n:Nat)(w:Sp):Prop where
 x:Bd n w.1
 y:Bd n w.2
structure PB(n:Nat)(h:Tr):Prop where
 b0:0<h.1
 b:Bd 100 h.1
 x:Bd n h.2.1
 y:Bd n h.2.2
theorem WB.mono{m:Nat}(h:WB n w)(a:n<=m):WB m w:=⟨h.x.mono a,h.y.mono a⟩
def ZE(b:Bd n x)(a:Bd m y)(c:n<=1000:=by decide)(d:m<=1000:=by decide):CM x y:=.inr (.inr ⟨b.mono 33,a.mono 33⟩)
theorem yO(x:Int):∀(d:Int) (xs:yaf),cg d (xs++[x])=((Int.gcd (cg d xs) x:Nat):Int)
 |d,[]=>rfl
 |d,y::a=>yO x _ a
def xr(h:WB n w):Bd (n+2) (bF w):=by
 let b:=h.x;let a:=h.y;unfold Bd bF at *
 lia
def MG{x:Int}(h:x≠0):0<Int.gcd ((Int.gcd 0 d:Nat):Int) x:=Int.gcd_pos_iff.mpr (.inr h)
def Hh(a:Bd n x)(h:x≠0):Bd n ((Int.gcd d x:Nat):Int):=by
 unfold Bd at *;have:=zCL 33 (Int.gcd_dvd_natAbs_right d x)
 lia
def pY(h:Bd n x):Bd n (-x):=by unfold Bd at *;lia
def Px(p q:Sp):eqD (VU p) (VU q)=decide (p=q):=by
 ext VU;rw[rG,eJ,eJ,eJ,nK,gw,gw,gw,Bool.and_true]
 lia
def Gw{a:Type}{xs:List a}{v:a}(h0:0<#[xs])(h:xs[#[xs] - 1]?=some v):atI xs (-1)=some v:=by ext atI ixN;rw[TM 33,TU 33];rw[show(-1+(#[xs]:Int)).toNat=#[xs] - 1 by lia];calc h
def Jo(d:SB a)(c:SB b):WB 62 (aS a b):=by ext aS;split;calc⟨by ext Bd;decide,by ext Bd;decide⟩;calc⟨by rw[zBo,zBo];calc Bd.mono (m:=61) (c.x.sub d.x) 23,by show Bd 62 (1*b.2 - 1*a.2);rw[zBo,zBo];calc Bd.mono (m:=61) (c.y.sub d.y) 23⟩
def uV(hs:yas):#[aU hs]<=#[hs]+4:=by
 ext aU fO;split
 all_goals cbv
def RQ{g p b:Int}(a:0<g)(e:g*p=b)(h:Bd n b):Bd n p:=by
 unfold Bd at *;rw[<- e,zCD]at h;have:1*p.natAbs<=g.natAbs*p.natAbs:=zDC _ 33
 lia
def p9:((10:Int) ^ (9:Int).toNat)=1000000000:=23
def cp9:tE 10 9:=⟨23,23,23⟩
def JK{a:Int}(c:Bd 402 b)(h:b≠0):Bd 1000 (cg 0 [a,b]):=(Hh c h).mono 23
def iM{c b:DS}{ρ:Ro}(P:Ro->Prop)(d:∀a,P a->b E a)(e:∀K:Ro->Prop,(∀a,P a->K a)->c {E with nx:=K} ρ):jx c b E ρ:=e _ d
def wsum(sh:yaf)(ws:yas):Sp:=((List.zipWith (λs (w:Sp)=>s*w.1) sh ws).sum,(List.zipWith (λs (w:Sp)=>s*w.2) sh ws).sum)
theorem tR:∀(d:Int) (xs:yaf),cg d xs∣d/\∀x∈xs,cg d xs∣x
 |d,[]=>⟨Int.dvd_refl _,52⟩
 |d,x::xs=>by
  let⟨a,b⟩:=tR ((Int.gcd d x:Nat):Int) xs;calc⟨zCY a (Int.gcd_dvd_left _ _),λy c=>?_⟩;obtain z|z:=VC.mp c;rw[z];calc zCY a (Int.gcd_dvd_right _ _);calc b y z
theorem A0:∀(d:Int) (xs:yaf),0<=d->0<=cg d xs
 |d,[],h=>h
 |d,x::xs,_=>A0 _ xs 47
structure EN(xs:yaf):Prop where
 pos:∀s∈dq xs,0<s
 one:cg 0 (dq xs)=1
 back:∃g:Int,0<g/\(dq xs).map (g*·)=xs
def mQ{xs:yaf}(a:xs ≠ [])(h:∀x∈xs,0<x):EN xs:=by
 let⟨c,b⟩:=zBu xs a;let gp:0<cg 0 xs:=by
  let a:=A0 0 xs 33;have:cg 0 xs≠0:=λe=>by have:=(tR 0 xs).2 c b;rw[e]at this;grind
  lia
 let a:(dq xs).map (cg 0 xs*·)=xs:=by
  ext dq;rw[Ww];have:∀x∈xs,((cg 0 xs*·)∘λx=>x.fdiv (cg 0 xs)) x=x:=λx d=>by simp_all [Int.fdiv_eq_ediv_of_dvd,tR,Int.mul_ediv_cancel']
  rw[zB7 this,List.map_id']
 calc⟨λs f=>?_,?_,_,gp,a⟩;let g:cg 0 xs*s∈xs:=58
 calc Kw (y:=cg 0 xs) (by simp_all [YR]) gp;have:=AZ (cg 0 xs) (Vz gp) (dq xs) 0;let a:cg 0 xs*1=cg 0 xs*cg 0 (dq xs):=33
 calc(zDI 33 a).symm
structure EC(ws:yas)(sh:yaf):Prop where
 len:#[sh]=#[ws]
 pos:∀s∈sh,0<s
 one:cg 0 sh=1
 sum:wsum sh ws=(0,0)
def Oa(h:pP a b):bF b*a.1+bF a*b.1=0/\bF b*a.2+bF a*b.2=0:=by
 let c:b≠(0,0):=λe=>by have:=h.2;unfold TP at this;cbv
 let⟨g,f⟩:=Ib h.1;let d:=gr c;let c:0 < -(TP a b):=by have:=h.2;lia
 generalize TP b b=x at g f d;generalize -(TP a b)=y at g f c;let l:x*bF a=y*bF b:=by
  let g:x.natAbs*a.1.natAbs=y.natAbs*b.1.natAbs:=by rw[<- zCD,<- zCD];lia
  let f:x.natAbs*a.2.natAbs=y.natAbs*b.2.natAbs:=by rw[<- zCD,<- zCD];lia
  let h:=congrArg (λn:Nat=>(n:Int)) g;let g:=congrArg (λn:Nat=>(n:Int)) f;simp only[Int.natCast_mul,Int.natAbs_of_nonneg (Vz d),Int.natAbs_of_nonneg (Vz c)]at h g;ext bF
  simp_all [Int.mul_add]
 let z:∀u v:Int,x*u+y*v=0->bF b*u+bF a*v=0:=λu v e=>by
  have:x*(bF b*u+bF a*v)=bF b*(x*u+y*v)+v*(x*bF a - y*bF b):=58
  rw[e,l,Int.sub_self,YS,YS,zB8]at this;exact(WQ.mp this).resolve_left 33
 cbv
def uM(L:EN xs)(h:wsum xs ws=(0,0)):wsum (dq xs) ws=(0,0):=by
 let⟨g,gp,c⟩:=L.back;let b:∀(f:Sp->Int) (l:yaf) (a:yas),(List.zipWith (λs w=>s*f w) (l.map (g*·)) a).sum=g*(List.zipWith (λs w=>s*f w) l a).sum:=λf l=>by
  induction l with
  |nil=>cbv
  |cons s l ih =>
   intro a;cases a with
   |nil=>simp
   |cons u a =>
    simp_all [Int.mul_add,zBc]
 unfold wsum at h ⊢;rw[<- c]at h;rw[b (λw=>w.1),b (λw=>w.2)]at h;let z:∀t:Int,g*t=0->t=0:=λt e=>(WQ.mp e).resolve_left 33
 cbv
def Aq{ws:yas}{sh:yaf}(m:#[ws]<=3)(h:lT ws=some sh):EC ws sh:=by
 obtain _|⟨a,_|⟨b,_|⟨e,_|⟨z,r⟩⟩⟩⟩:=ws;cases h;let d:tH a=some sh:=h;unfold tH at d;split at d;rename_i c;cases d;have:=yT.mp c;subst this;exact⟨rfl,52,rfl,by ext wsum;simp⟩
 lia
 ·let d:pW a b=some sh:=h;unfold pW at d;split at d
  ·rename_i c;cases d;let g:pP a b:=c;let l:a≠(0,0):=λe=>by have:=c.2;unfold TP at this;cbv
   let k:b≠(0,0):=λe=>by have:=c.2;unfold TP at this;cbv
   let L:=mQ (xs:=[bF b,bF a]) 52 λx f=>by
    simp at f;obtain rfl|rfl:=f
    all_goals simp_all [tW]
   let⟨j,i⟩:=Oa g;calc⟨by ext dq;simp,L.pos,L.one,uM L ?_⟩;ext wsum
   cbv
  lia
 let d:lS a b e=some sh:=h;let⟨o,n⟩:=Ju a b e;unfold lS at d;split at d;cases d;let L:=mQ (xs:=[tn b e,tn e a,tn a b]) 52 47;calc⟨by ext dq;simp,L.pos,L.one,uM L ?_⟩;ext wsum
 simp_all [Int.add_assoc]
 split at d;cases d;let L:=mQ (xs:=[-tn b e,-tn e a,-tn a b]) 52 58;calc⟨by ext dq;simp,L.pos,L.one,uM L ?_⟩;ext wsum;simp;grind
 lia
 cbv
theorem Bo(L:EN xs)(h:∀x∈xs,Bd n x):∀s∈dq xs,Bd n s:=λs b=>by
 let⟨g,gp,a⟩:=L.back;have:g*s∈(dq xs).map (g*·):=58
 rw[a]at this;calc RQ gp rfl (h _ this)
def Oy{ws:yas}{sh:yaf}(f:∀w∈ws,WB 400 w)(l:#[ws]<=3)(h:lT ws=some sh):∀s∈sh,Bd 900 s:=by
 obtain _|⟨a,_|⟨b,_|⟨e,_|⟨z,r⟩⟩⟩⟩:=ws;cases h;let d:tH a=some sh:=h;unfold tH at d;split at d;cases d;intro s c;rw[Yv.mp c];ext Bd
 lia
 lia
 ·let d:pW a b=some sh:=h;unfold pW at d;split at d
  ·rename_i c;cases d;let k:a≠(0,0):=λe=>by have:=c.2;unfold TP at this;cbv
   let j:b≠(0,0):=λe=>by have:=c.2;unfold TP at this;cbv
   let L:=mQ (xs:=[bF b,bF a]) 52 λx c=>by
    simp at c;obtain rfl|rfl:=c
    all_goals simp_all [tW]
   refine Bo L λx c=>?_
   simp at c;obtain rfl|rfl:=c;calc(xr (f b 52)).mono 23;exact(xr (f a 52)).mono 23
  lia
 ·let d:lS a b e=some sh:=h;let i:=f a 52;let h:=f b 52;let g:=f e 52;let p:Bd 900 (tn b e):=Bd.mono (m:=801) ((h.x.mul g.y).sub (g.x.mul h.y)) 23;let o:Bd 900 (tn e a):=Bd.mono (m:=801) ((g.x.mul i.y).sub (i.x.mul g.y)) 23;let n:Bd 900 (tn a b):=Bd.mono (m:=801) ((i.x.mul h.y).sub (h.x.mul i.y)) 23;unfold lS at d;split at d;let L:=mQ (xs:=[tn b e,tn e a,tn a b]) 52 47;grind [Bo]
  ·split at d
   ·cases d;let L:=mQ (xs:=[-tn b e,-tn e a,-tn a b]) 52 58;refine Bo L λx c=>?_
    simp at c;obtain rfl|rfl|rfl:=c
    all_goals simp_all [pY]
   lia
 cbv
noncomputable def T1(a b:Tr):Tr:=(a.2.1*b.2.2 - a.2.2*b.2.1,a.2.2*b.1 - a.1*b.2.2,a.1*b.2.1 - a.2.1*b.1)
def VR(a b c:Tr):Int:=gvS (T1 a b) c
def dR(a b c:Tr):VR a b c=VR b c a:=by ext VR gvS T1;grind
def tP(a b c:Tr):VR a b c=- VR b a c:=by ext VR gvS T1;grind
def G9(a c:Tr):VR a a c=0:=by ext VR gvS T1;grind
def kh(a b:Tr):VR a b a=0:=by ext VR gvS T1;grind
def ki(a b:Tr):VR a b b=0:=by ext VR gvS T1;grind
structure Cmb(q a b:Tr)(m s t:Int):Prop where
 m0:0<m
 s0:0<s
 t0:0<t
 e1:m*q.1=s*a.1+t*b.1
 e2:m*q.2.1=s*a.2.1+t*b.2.1
 e3:m*q.2.2=s*a.2.2+t*b.2.2
def Cmb.gv(C:Cmb q a b m s t)(g:Tr):m*gvS g q=s*gvS g a+t*gvS g b:=by let e:=C.e1;let d:=C.e2;let c:=C.e3;ext gvS;grind
def Cmb.nng(C:Cmb q a b m s t)(d:0<=gvS g a)(c:0<=gvS g b):0<=gvS g q:=by
 let h:=C.gv g;let f:=V6 (Vz C.s0) d;let e:=V6 (Vz C.t0) c;have:0<=m*gvS g q:=33
 calc zAu this C.m0
def Cmb.zero(C:Cmb q a b m s t)(d:gvS g a=0)(c:gvS g b=0):gvS g q=0:=by
 let h:=C.gv g;rw[d,c]at h;let a:m*gvS g q=0:=33
 obtain z|z:=WQ.mp a;have:=C.m0;lia
 lia
def aK(g:Tr)(qf:Tr->Tr->Tr):Tr->yat->yat
 |_,[]=>[]
 |p,c::r=>(if gvS g p*gvS g c<0 then[qf p c]else[])++((if 0<=gvS g c then[c]else[])++aK g qf c r)
def Btw(g:Tr)(qf:Tr->Tr->Tr):Prop:=∀p c:Tr,0<p.1->0<c.1->gvS g p*gvS g c<0->(∃m s t,Cmb (qf p c) p c m s t)/\gvS g (qf p c)=0
theorem pA(B:Btw g qf):∀(l:yat) (p:Tr),(∀x∈p::l,0<x.1)->(∀x∈p::l,0<=gvS d x)->∀y∈aK g qf p l,0<=gvS d y
 |[],_,_,_=>λy a=>by cases a
 |c::r,p,d,b=>λy a=>by
  obtain q|q:=VS.mp a;split at q;rename_i a;rw[Yv.mp q];let⟨⟨m,s,t,C⟩,_⟩:=B p c 47 47 a;calc C.nng (b p 52) (b c 52);grind;obtain q|q:=VS.mp q
  cbv
  calc pA B r c (λx e=>d x 58) 58 y q
theorem uL(B:Btw g qf):∀(l:yat) (p:Tr),(∀x∈p::l,0<x.1)->∀y∈aK g qf p l,0<y.1
 |[],_,_=>λy b=>by cases b
 |c::r,p,a=>λy b=>by
  unfold aK at b;obtain q|q:=VS.mp b;split at q;rename_i b;rw[Yv.mp q];let⟨⟨m,s,t,C⟩,_⟩:=B p c (a p 52) (a c 52) b;let f:=Xc C.s0 (a p 52);let e:=Xc C.t0 (a c 52);have:=C.e1;let d:0<m*(qf p c).1:=33
  exact YI.mp λz=>by have:=zBU (Vz C.m0) z;lia
  cases q;obtain q|q:=VS.mp q;split at q;rw[Yv.mp q];calc a c 52;cases q;calc uL B r c (λx b=>a x (W9 _ b)) y q
theorem iU(g:Tr)(qf:Tr->Tr->Tr):∀(a:yat) (p c:Tr) (b:yat),aK g qf p (a++c::b)=aK g qf p (a++[c])++aK g qf c b
 |[],p,c,b=>by simp only[zBv,aK,zBd,zBM]
 |x::a,p,c,b=>by simp only[zBQ,aK,iU g qf a x c b,zBM]
theorem rh(B:Btw g qf):∀(l:yat) (p:Tr),(∀x∈p::l,0<x.1)->∀y∈aK g qf p l,0<=gvS g y
 |[],_,_=>λy a=>by cases a
 |c::r,p,b=>λy a=>by
  unfold aK at a;obtain q|q:=VS.mp a;split at q;rename_i a;rw[Yv.mp q,(B p c (b p 52) (b c 52) a).2];calc YT _;cases q;obtain q|q:=VS.mp q;split at q;rename_i a;rw[Yv.mp q];calc a;cases q;calc rh B r c (λx a=>b x (W9 _ a)) y q
theorem rg:∀(l:yat) (p:Tr) {x:Tr},x∈l->0<=gvS g x->x∈aK g qf p l
 |[],_,_,h,_=>by cases h
 |c::r,p,x,h,a=>by
  ext aK;obtain rfl|h:=VC.mp h;rw[TU a];simp;calc XF _ (XF _ (rg r c h a))
theorem o9(B:Btw g qf):∀(l:yat) (p z:Tr),(∀x∈p::l,0<x.1)->0<z.1->gvS g p*gvS g z<0->∃y∈aK g qf p (l++[z]),gvS g y=0/\∀d:Tr,(∀x∈p::(l++[z]),0<=gvS d x)->0<=gvS d y
 |[],p,z,i,k,h=>by
  let⟨⟨m,s,t,C⟩,e⟩:=B p z 47 k h;calc⟨qf p z,?_,e,λd f=>C.nng (f p 52) (f z 52)⟩;ext aK
  cbv
 |c::r,p,z,i,k,h=>by
  obtain q|q|q:=zB4 (gvS g p*gvS g c) 0;let⟨⟨m,s,t,C⟩,e⟩:=B p c (i p 52) (i c 52) q;calc⟨qf p c,?_,e,λd f=>C.nng (f p 52) (f c 52)⟩;ext aK
  cbv
  let a:gvS g p≠0:=33
  let b:gvS g c=0:=(WQ.mp q).resolve_left a;calc⟨c,by grind [rg],b,47⟩;let j:gvS g c*gvS g z<0:=by
   rcases Int.lt_or_gt_of_ne (show gvS g p≠0 from 33)with a|a;let b:0<gvS g z:=YI.mp λb=>YI.mpr h (zBT (Vz a) b)
   let d:gvS g c<0:=YI.mp λd=>YI.mpr q (zA3 (Vz a) d)
   calc zAn d b;let b:gvS g z<0:=YI.mp λb=>YI.mpr h (V6 (Vz a) b)
   let d:0<gvS g c:=YI.mp λd=>YI.mpr q (zBU (Vz a) d)
   exact Z9 d b
  let⟨y,n,e,f⟩:=o9 B r c z (λx o=>i x 58) k j;rw[zBQ];ext aK;grind
def Zb(l:yat):Prop:=∀x y z,List.Sublist [x,y,z] l->0<=VR x y z
def Zb.sub{k:yat}(h:Zb l)(s:k.Sublist l):Zb k:=λx y z q=>h x y z (q.trans s)
def lR:yat->Prop
 |[]=>True
 |p::r=>r.Pairwise (λa b=>0<=VR p a b)/\lR r
theorem Zb.p:∀{l:yat},Zb l->lR l
 |[],_=>True.intro
 |p::r,h=>⟨List.pairwise_iff_forall_sublist.mpr fun {a b} s=>h p a b (s.cons_cons p),Zb.p (h.sub (List.sublist_cons_self p r))⟩
theorem lR.t:∀{l:yat},lR l->Zb l
 |[],_,_,_,_,s=>by cases s
 |p::r,h,x,y,z,s=>by
  cases s with
  |cons _ s=>calc lR.t h.2 x y z s
  |cons_cons _ s=>calc List.pairwise_iff_forall_sublist.mp h.1 s
theorem lP(B:Btw g qf):∀(l:yat) (p:Tr),(∀x∈p::l,0<x.1)->(p::l).Pairwise (λa b=>0<=VR d a b)->(p::aK g qf p l).Pairwise (λa b=>0<=VR d a b)
 |[],_,_,h=>h
 |c::r,p,f,h=>by
  let i:∀x∈c::r,0<x.1:=λx q=>f x 58
  let⟨e,j⟩:=zBX.mp h;let ih:=lP B r c i j;let u:∀w∈aK g qf c r,0<=VR d p w:=pA B r c i (d:=T1 d p) e;let i:0<=VR d p c:=e c 52;ext aK;by_cases h:gvS g p*gvS g c<0
  ·let⟨⟨m,s,t,C⟩,e⟩:=B p c (f p 52) (f c 52) h;let n:0<=VR d p (qf p c):=C.nng (g:=T1 d p) (by show 0<=VR d p p;rw[ki];lia) i;let e:∀x,0<=VR d p x->0<=VR d c x->0<=VR d (qf p c) x:=λx a b=>by
    rw[dR,dR]at a b ⊢;exact C.nng (g:=T1 x d) a b
   let k:0<=VR d (qf p c) c:=e c i (by rw[ki];lia);by_cases o:0<=gvS g c
   all_goals simp_all [TM]
  rw[TM h];grind
theorem Cn(B:Btw g qf):∀(l:yat) (p:Tr),(∀x∈p::l,0<x.1)->lR (p::l)->lR (p::aK g qf p l)
 |[],_,_,h=>h
 |c::r,p,f,h=>by
  let i:∀x∈c::r,0<x.1:=λx k=>f x 58
  let ih:=Cn B r c i h.2;let j:(p::c::r).Pairwise λa b=>0<=VR p a b:=zBX.mpr ⟨λa _=>by rw[G9];lia,h.1⟩
  let e:=(zBX.mp (lP (d:=p) B (c::r) p f j)).2;calc⟨e,?_⟩;let e:(c::r).Pairwise λa b=>0<=VR p a b:=h.1
  let j:=lP (d:=p) B r c i e;let e:(c::r).Pairwise λa b=>0<=VR c a b:=zBX.mpr ⟨λa _=>by rw[G9];lia,h.2.1⟩
  let h:=lP (d:=c) B r c i e;ext aK;by_cases d:gvS g p*gvS g c<0;rw[TU d];let⟨⟨m,s,t,C⟩,e⟩:=B p c (f p 52) (f c 52) d;let e:(c::aK g qf c r).Pairwise λa b=>0<=VR (qf p c) a b:=by calc List.Pairwise.imp ?_ (List.pairwise_and_iff.mpr ⟨j,h⟩);intro a b ⟨x,y⟩;rw[dR]at x y ⊢;exact C.nng (g:=T1 a b) x y
  by_cases a:0<=gvS g c;rw[TU a];calc⟨e,ih⟩;rw[TM a];calc⟨47,ih.2⟩;rw[TM d];by_cases a:0<=gvS g c
  cbv
  rw[TM a];calc ih.2
def y8{l:yat}{a:Tr}(h:Zb (l++[a])):Zb (a::(l++[a])):=λx y z s=>by
 cases s with
 |cons _ s=>calc h x y z s
 |cons_cons _ s =>
  let⟨c,b,e,f,d⟩:=List.sublist_append_iff.mp s;obtain _|⟨w,b⟩:=b;rw[zBd]at e;have:=h y z a 58
  rw[dR];exact this
  ·let i:b=[]:=by
    grind
   let g:w=a:=58
   obtain _|⟨u,_|⟨v,c⟩⟩:=c
   all_goals simp_all [kh,YT,congrArg]
def InC(l:yat)(X:Tr):Prop:=∀h:Tr,(∀p∈l,0<=gvS h p)->0<=gvS h X
def Vm(g u v:Tr):Tr:=(gvS g v*u.1 - gvS g u*v.1,gvS g v*u.2.1 - gvS g u*v.2.1,gvS g v*u.2.2 - gvS g u*v.2.2)
def Jc(g u v h:Tr):gvS h (Vm g u v)=gvS g v*gvS h u - gvS g u*gvS h v:=by ext Vm gvS;grind
def Ie(b:gvS g y=0)(a:VR u v y=0):gvS h y*(Vm g u v).1=y.1*gvS h (Vm g u v):=by unfold VR gvS T1 at a;unfold Vm gvS at *;dsimp only at *;grind
def Ob(a:gvS g y1=0)(p:gvS g y2=0)(q:VR u v y1<=0)(i:0<=VR u v y2)(d:0<y1.1)(l:0<y2.1)(o:0<=gvS h y1)(m:0<=gvS h y2):0<=gvS h (Vm g u v)*(Vm g u v).1:=by
 by_cases z:VR u v y1=0;let k:=Ie (h:=h) a z;let j:0<=(Vm g u v).1*(Vm g u v).1:=sqn _;have:0<=y1.1*(gvS h (Vm g u v)*(Vm g u v).1):=by
  have:y1.1*(gvS h (Vm g u v)*(Vm g u v).1)=gvS h y1*((Vm g u v).1*(Vm g u v).1):=58
  simp_all [V6]
 calc zAu this d;let e:VR u v y1<0:=33
 generalize ha:VR u v y1=a at *;generalize hb:VR u v y2=b at *
 let' y:Tr:=(b*y1.1 - a*y2.1,b*y1.2.1 - a*y2.2.1,b*y1.2.2 - a*y2.2.2)
 let c:∀f:Tr,gvS f y=b*gvS f y1 - a*gvS f y2:=λf=>by ext gvS;grind
 let k:=Ie (h:=h) (u:=u) (v:=v) (y:=y) (g:=g) 47 (by show gvS (T1 u v) y=0;rw[c];show b*VR u v y1 - a*VR u v y2=0;grind)
 rw[c]at k;let c:0<y.1:=by
  show 0<b*y1.1 - a*y2.1;have:=V6 i (Vz d);have:=zAn e l
  lia
 let n:0<=b*gvS h y1 - a*gvS h y2:=by
  have:=V6 i o;have:=zA3 (Vz e) m
  lia
 let j:0<=(Vm g u v).1*(Vm g u v).1:=sqn _;have:0<=y.1*(gvS h (Vm g u v)*(Vm g u v).1):=by
  have:y.1*(gvS h (Vm g u v)*(Vm g u v).1)=(b*gvS h y1 - a*gvS h y2)*((Vm g u v).1*(Vm g u v).1):=by rw[<- zBc,<- k,zBc]
  simp_all [V6]
 calc zAu this c
def AG(B:Btw g qf){A C D:yat}{u v z:Tr}(hz:A++u::(C++v::D)=(A++u::(C++v::D)).dropLast++[z])(XI:Zb (A++u::(C++v::D)))(pos:∀x∈A++u::(C++v::D),0<x.1)
  (i:gvS g u*gvS g v<0) (hh:∀y∈aK g qf z (A++u::(C++v::D)),0<=gvS h y):0<=gvS h (Vm g u v)*(Vm g u v).1:=by
 let d:0<u.1:=pos u 52;let hv:0<v.1:=pos v 52;let a:∀x∈C,0<x.1:=λx hx=>pos x (by simp[hx])
 let k:∀x∈A,0<x.1:=λx hx=>pos x (by simp[hx])
 let j:∀x∈D,0<x.1:=λx hx=>pos x (by simp[hx])
 let e:aK g qf z (A++u::(C++v::D))=aK g qf z (A++[u])++(aK g qf u (C++[v])++aK g qf v D):=by rw[iU g qf A z u,iU g qf C u v]
 let⟨b,g,o,c⟩:=o9 B C u v (λx hx=>by
  obtain rfl|hx:=VC.mp hx;calc d;calc a x hx) hv i
 let n:0<b.1:=uL B (C++[v]) u (λx hx=>by
  simp at hx;obtain rfl|hx|rfl:=hx;calc d;calc a x hx;calc hv) b g
 let l:VR u v b<=0:=by
  have:=c (T1 v u) λx hx=>by
   show 0<=VR v u x;simp at hx;obtain rfl|hx|rfl:=hx;rw[ki];calc YT _;let t:=XI u x v (by
    let a:List.Sublist [u,x,v] (u::(C++v::D)):=by calc List.Sublist.cons_cons u ?_;have:[x,v]=[x]++[v]:=rfl;exact(zBY.mpr hx).append (zBY.mpr 52)
    calc a.trans (zBW _ _))
   rw[dR,dR]at t;calc t;rw[kh];exact YT _
  let q:0<=VR v u b:=this;rw[tP]
  lia
 let p:∀x∈v::D++(A++[u]),0<=VR u v x:=λx hx=>by
  simp at hx;obtain rfl|hx|hx|rfl:=hx;rw[ki];calc YT _;exact XI u v x (by
   let a:List.Sublist [u,v,x] (u::(C++v::D)):=by calc List.Sublist.cons_cons u ?_;exact(List.Sublist.cons_cons v (zBY.mpr hx)).trans (zBW _ _)
   calc a.trans (zBW _ _))
  let t:=XI x u v (by have:[x,u,v]=[x]++[u,v]:=rfl;calc(zBY.mpr hx).append (List.Sublist.cons_cons u ?_);calc(zBY.mpr 52).trans (zBW _ _))
  rw[dR]at t;calc t;rw[kh];exact YT _
 let⟨a,c,f,r⟩:=o9 B (D++A) v u (λx hx=>by
  simp at hx;obtain rfl|hx|hx:=hx;calc hv;calc j x hx;calc k x hx) d (by rw[YR];calc i)
 let m:0<a.1:=uL B (D++A++[u]) v (λx hx=>by
  simp only[VC,VS,zBG,or_false]at hx;obtain rfl|(hx|hx)|rfl:=hx;calc hv;calc j x hx;calc k x hx;calc d) a c
 let i:0<=VR u v a:=r (T1 u v) λx hx=>p x (by
  simp only[VC,VS,zBG,or_false,zBQ]at hx ⊢;obtain hx|(hx|hx)|hx:=hx;calc .inl hx;calc .inr (.inl hx);calc .inr (.inr (.inl hx));calc .inr (.inr (.inr hx)))
 let j:0<=gvS h b:=hh b (by rw[e];calc XF _ (Zo _ g));let g:0<=gvS h a:=by
  apply hh a;rw[e];have:∃b,v::D=b++[z]:=by
   let a:v::D ≠ []:=52
   calc⟨(v::D).dropLast,?_⟩;let e:(A++u::(C++v::D)).getLast?=some z:=by rw[hz];simp
   let f:(A++u::(C++v::D)).getLast?=(v::D).getLast?:=by
    have:A++u::(C++v::D)=(A++u::C)++(v::D):=52
    rw[this,List.getLast?_append,zBz a];rfl
   rw[f,zBz a]at e;let d:=(zBm a).symm;rw[ZI e]at d;exact d
  let⟨b,a⟩:=this;obtain _|⟨w,b⟩:=b;cases a;calc Zo _ c;rw[zBQ]at a;cases a;let e:b++[z]++A++[u]=b++z::(A++[u]):=52
  rw[e,iU]at c;obtain q|q:=VS.mp c;calc XF _ (XF _ q);exact Zo _ q
 calc Ob o f l i n m j g
def IK{l:yat}{a b:Tr}(e:a∈l)(d:b∈l)(c:a≠b):(∃A C D,l=A++a::(C++b::D))∨∃ A C D,l=A++b::(C++a::D):=by
 let⟨A,R,rfl⟩:=zCE e;obtain q|q:=VS.mp d;let⟨b,a,rfl⟩:=zCE q;calc .inr ⟨b,a,R,52⟩;obtain q|q:=VC.mp q;calc absurd q.symm c;let⟨b,a,rfl⟩:=zCE q;calc .inl ⟨A,b,a,rfl⟩
theorem t6(g h:Tr):∀l:yat,(∃n∈l,gvS g n<0/\gvS h n<0)->∃n∈l,gvS g n<0/\gvS h n<0/\∀m∈l,gvS g m<0->gvS g n*gvS h m<=gvS h n*gvS g m
 |[],⟨_,hn,_⟩=>by cases hn
 |x::r,i=>by
  by_cases l:∃n∈r,gvS g n<0/\gvS h n<0;let⟨n,hn,f,d,b⟩:=t6 g h r l;by_cases c:gvS g x<0/\¬(gvS g n*gvS h x<=gvS h n*gvS g x);let⟨a,o⟩:=c;let c:gvS h x<0:=by
   have:0<gvS h n*gvS g x:=zBJ d a;exact YI.mp λz=>by
    have:=zA3 (Vz f) z
    lia
  calc⟨x,52,a,c,λm c j=>?_⟩;obtain rfl|c:=VC.mp c
  lia
  let k:=b m c j;let a:0<=(-gvS g x)*(gvS h n*gvS g m - gvS g n*gvS h m):=V6 33 33;let b:0<=(-gvS g m)*(gvS g n*gvS h x - gvS h n*gvS g x):=V6 33 33;let e:(-gvS g x)*(gvS h n*gvS g m - gvS g n*gvS h m)+(-gvS g m)*(gvS g n*gvS h x - gvS h n*gvS g x)=(-gvS g n)*(gvS h x*gvS g m - gvS g x*gvS h m):=58
  have:0<=(-gvS g n)*(gvS h x*gvS g m - gvS g x*gvS h m):=33
  have:=zAu this 33
  lia
  grind;let⟨n,hn,f,d⟩:=i;obtain rfl|hn:=VC.mp hn;calc⟨n,52,f,d,λm c j=>?_⟩;obtain rfl|c:=VC.mp c
  lia
  have:0<=gvS h m:=47
  let a:=zA3 (Vz f) this;let b:=zBJ d j
  lia
  calc absurd ⟨n,hn,f,d⟩ l
def K4(B:Btw g qf){l:yat}{z:Tr}(hz:l=l.dropLast++[z])(XI:Zb l)(pos:∀x∈l,0<x.1)(m:InC l X)(t:0<=gvS g X):InC (aK g qf z l) X:=λh hh=>by
 let kp:∀p∈l,0<=gvS g p->0<=gvS h p:=λp b q=>hh p (rg l z b q)
 by_cases j:∃n∈l,gvS g n<0/\gvS h n<0;let⟨n,d,c,o,e⟩:=t6 g h l j
 let' k:Tr:=(gvS h n*g.1 - gvS g n*h.1,gvS h n*g.2.1 - gvS g n*h.2.1,gvS h n*g.2.2 - gvS g n*h.2.2)
 let a:∀p:Tr,gvS k p=gvS h n*gvS g p - gvS g n*gvS h p:=λp=>by show gvS (gvS h n*g.1 - gvS g n*h.1,gvS h n*g.2.1 - gvS g n*h.2.1,gvS h n*g.2.2 - gvS g n*h.2.2) p=_;ext gvS;grind
 let s:∀p∈l,0<=gvS k p:=λp b=>by
  rw[a];obtain q|q|q:=zB4 (gvS g p) 0;have:=e p b q
  lia
  rw[q,YS];have:=zA3 (Vz c) (kp p b 33)
  lia
  let l:p≠n:=λe=>by rw[e]at q;lia
  let i:=pos n d;let f:=pos p b;rcases IK b d l with⟨A,C,D,rfl⟩| ⟨A,C,D,rfl⟩;let r:=AG B hz XI pos (Z9 q c) hh;rw[Jc]at r;let d:(Vm g p n).1<0:=by
   show gvS g n*p.1 - gvS g p*n.1<0;have:=zAn c f;have:=Xc q i
   lia
  let e:gvS g n*gvS h p - gvS g p*gvS h n<=0:=ZQ.mp λz=>by
   have:=Z9 z d
   lia
  rw[YR (gvS h n)]
  lia
  let r:=AG B hz XI pos (zAn c q) hh;rw[Jc]at r;let d:0<(Vm g n p).1:=by
   show 0<gvS g p*n.1 - gvS g n*p.1;have:=zAn c f;have:=Xc q i
   lia
  let e:0<=gvS g p*gvS h n - gvS g n*gvS h p:=ZQ.mp λz=>by
   have:=zAn z d
   lia
  rw[YR (gvS h n)];exact e
 let d:=m k s;rw[a]at d;let a:=zA3 (Vz o) t;exact ZQ.mp λz=>by
  have:=zBJ c z
  lia
 refine m h λp b=>?_
 by_cases q:0<=gvS g p;calc kp p b q;calc ZQ.mp λz=>j ⟨p,b,33,z⟩
def YG(R:Tr->Tr->Prop):yat->Prop
 |[]=>True
 |[_]=>True
 |a::b::r=>R a b/\YG R (b::r)
def YG.tail{a:Tr}:∀{l:yat},YG R (a::l)->YG R l
 |[],_=>True.intro
 |_::_,h=>h.2
theorem kg:∀(l:yat) (x:Tr) (k:yat),YG R (l++x::k)↔YG R (l++[x])/\YG R (x::k)
 |[],x,k=>by simp[YG]
 |[a],x,k=>by simp[YG]
 |a::b::l,x,k=>by have:=kg (R:=R) (b::l) x k;simp only[zBQ,YG]at this ⊢;rw[this,and_assoc]
def Sh(G:Tr->Prop)(a b:Tr):Prop:=∃e,G e/\gvS e a=0/\gvS e b=0
theorem o8(B:Btw g qf){G:Tr->Prop}(f:G g):∀(l:yat) (p x:Tr),(∀y∈p::l,0<y.1)->((x=p/\0<=gvS g p)∨(gvS g x=0/\gvS g p<0))->YG (Sh G) (p::l)->YG (Sh G) (x::aK g qf p l)
 |[],_,_,_,_,_=>True.intro
 |c::r,p,x,b,a,h=>by
  let l:∀y∈c::r,0<y.1:=λy n=>b y 58
  let⟨⟨e,i,j,k⟩,d⟩:=h;let ih:=λx a=>o8 B f r c x l a d
  ext aK;by_cases h:gvS g p*gvS g c<0;rw[TU h];let⟨⟨m,s,t,C⟩,l⟩:=B p c (b p 52) (b c 52) h;let b:gvS e (qf p c)=0:=C.zero j k;by_cases d:0<=gvS g c;rw[TU d];calc⟨?_,⟨e,i,b,k⟩,ih c 47⟩;rcases a with⟨rfl,_⟩| ⟨a,_⟩;calc⟨e,i,j,b⟩;calc⟨g,f,a,l⟩;rw[TM d];calc⟨?_,ih _ 33⟩;rcases a with⟨rfl,_⟩| ⟨a,_⟩;calc⟨e,i,j,b⟩;exact⟨g,f,a,l⟩
  ·rw[TM h];by_cases d:0<=gvS g c
   ·rw[TU d];calc⟨?_,ih c 47⟩;rcases a with⟨rfl,_⟩| ⟨a,b⟩;exact⟨e,i,j,k⟩
    ·have:gvS g c=0:=by
      obtain q|q:=Int.lt_or_eq_of_le d
      all_goals simp_all [zAn]
     exact⟨g,f,a,this⟩
   ·rw[TM d];calc ih x ?_;rcases a with⟨rfl,b⟩| ⟨a,_⟩
    ·obtain q|q:=Int.lt_or_eq_of_le b
     all_goals simp_all [Z9]
    lia
theorem ze(B:Btw g qf){G:Tr->Prop}(b:G g):∀(l:yat) (p:Tr),(∀y∈p::l,0<y.1)->YG (Sh G) (p::l)->YG (Sh G) (aK g qf p l)
 |[],_,_,_=>True.intro
 |c::r,p,a,h=>by
  by_cases j:0<=gvS g p;calc(o8 B b (c::r) p p a (.inl ⟨rfl,j⟩) h).tail;let i:∀y∈c::r,0<y.1:=λy d=>a y (W9 _ d)
  let⟨⟨e,l,n,k⟩,f⟩:=h;ext aK;by_cases d:gvS g p*gvS g c<0;rw[TU d];let⟨⟨m,s,t,C⟩,o⟩:=B p c (a p 52) (a c 52) d;let h:gvS e (qf p c)=0:=C.zero n k;by_cases a:0<=gvS g c;rw[TU a];calc⟨⟨e,l,h,k⟩,o8 B b r c c i (.inl ⟨rfl,a⟩) f⟩;calc absurd (zBJ (YI.mp j) (YI.mp a)) 33;rw[TM d];by_cases a:0<=gvS g c;rw[TU a];calc o8 B b r c c i (.inl ⟨rfl,a⟩) f;rw[TM a];calc ze B b r c i f
def Cyc(R:Tr->Tr->Prop)(l:yat):Prop:=∀k z,l=k++[z]->YG R (z::l)
def K3(B:Btw g qf){G:Tr->Prop}(a:G g){l:yat}{z:Tr}(hz:l=l.dropLast++[z])(pos:∀y∈l,0<y.1)(h:Cyc (Sh G) l):Cyc (Sh G) (aK g qf z l):=λk y c=>by
 let e:=h _ z hz;let b:YG (Sh G) (z::(l++l)):=by grind [List.cons_append,kg]
 let d:=ze B a (l++l) z 58 b;grind [iU,kg]
noncomputable def YL:yat->yat->yat
 |_,[]=>[]
 |seen,x::r=>if x∈seen then YL seen r else x::YL (seen++[x]) r
theorem rE:∀(l seen:yat),(YL seen l).Sublist l
 |[],_=>List.Sublist.slnil
 |x::r,seen=>by
  ext YL;split
  all_goals simp_all [rE]
theorem xf:∀(l seen:yat) {x:Tr},x∈l->x∈seen∨x∈YL seen l
 |[],_,_,h=>by cases h
 |y::r,seen,x,h=>by
  ext YL;obtain rfl|h:=VC.mp h;grind
  ·split
   simp_all [xf]
   ·obtain q|q:=xf r (seen++[y]) h
    all_goals grind
theorem yE:∀(l seen:yat),l.Nodup->(∀x∈l,x∉seen)->YL seen l=l
 |[],_,_,_=>rfl
 |x::r,seen,h,c=>by
  let⟨a,b⟩:=zBK.mp h;ext YL;rw[TM (c x 52),yE r (seen++[x]) b λy b q=>by
   obtain q|q:=VS.mp q;calc c y (W9 _ b) q;calc a (by rw[<- Yv.mp q];calc b)]
theorem qb:∀(l seen:yat) (v:Tr) (k:yat),v∈seen∨v∈l->YL seen (l++v::k)=YL seen (l++k)
 |[],seen,v,k,h=>by
  conv=>lhs;unfold YL
  grind
 |x::r,seen,v,k,h=>by rw[zBQ,zBQ];ext YL;split;calc qb r seen v k ?_;grind;congr 1;calc qb r _ v k ?_;grind
theorem tB:∀l:yat,¬l.Nodup->∃A v C,l=A++v::C/\v∈A
 |[],h=>absurd List.nodup_nil h
 |x::r,h=>by
  by_cases a:x∈r;let⟨A,C,rfl⟩:=zCE a;calc⟨x::A,x,C,rfl,52⟩;let⟨A,v,C,e,hv⟩:=tB r λq=>h (zBK.mpr ⟨a,q⟩)
  calc⟨x::A,v,C,by rw[e];rfl,W9 _ hv⟩
def MZ(j:gvS e a=0)(i:gvS e v=0)(h:VR v a b=0)(c:T1 v a≠(0,0,0)):gvS e b=0:=by
 let g:gvS e b*(T1 v a).1=0:=by unfold VR gvS T1 at *;grind
 let f:gvS e b*(T1 v a).2.1=0:=by unfold VR gvS T1 at *;grind
 let d:gvS e b*(T1 v a).2.2=0:=by unfold VR gvS T1 at *;grind
 refine Decidable.byContradiction λz=>c ?_
 let m:=(WQ.mp g).resolve_left z;let l:=(WQ.mp f).resolve_left z;let k:=(WQ.mp d).resolve_left z;grind
structure Pr(p:Tr):Prop where
 pos:0<p.1
 low:PM.g3 p.1 p.2.1 p.2.2=1
def kG(hv:Pr v)(b:Pr a)(h:T1 v a=(0,0,0)):v=a:=by
 unfold T1 at h;simp at h;let⟨n,m,l⟩:=h;let e:v.2.1*a.1=a.2.1*v.1:=33
 let c:v.2.2*a.1=a.2.2*v.1:=33
 let g:v.1∣a.1:=jR (d:=v.1) (k:=a.1) (x:=v.1) (y:=v.2.1) (z:=v.2.2) 47 (by simp_all [YR]) (by simp_all [YR]) hv.low;let f:a.1∣v.1:=jR (d:=a.1) (k:=v.1) (x:=a.1) (y:=a.2.1) (z:=a.2.2) 47 (by rw[YR,<- e];calc Int.dvd_mul_left _ _) (by rw[YR,<- c];calc Int.dvd_mul_left _ _) b.low;let c:=b.pos;let pv:=hv.pos;let e:v.1=a.1:=by
  let j:=Int.le_of_dvd c g;let i:=Int.le_of_dvd pv f
  lia
 grind [Int.eq_of_mul_eq_mul_right]
theorem G0:∀(n:Nat) (l:yat),#[l]<=n->Zb l->(∀p∈l,Pr p)->Cyc (Sh G) l->Cyc (Sh G) (YL [] l)
 |n,l,i,XI,u,o=>by
  by_cases E:l.Nodup;rw[yE l [] E 52];calc o;let⟨A,v,C,rfl,hv⟩:=tB l E;rw[qb A [] v C (.inr hv)];cases n with
  |zero=>simp at i
  |succ n =>
  let sub:(A++C).Sublist (A++v::C):=(List.Sublist.refl A).append (List.sublist_cons_self v C);calc G0 n (A++C) (by simp at i ⊢;lia) (XI.sub sub) (λp a=>u p (sub.subset a)) ?_;let⟨h,s,rfl⟩:=zCE hv;obtain⟨K,a,d⟩:∃K a,h++v::s=K++[a]:=⟨_,_,(zBm (52:h++v::s ≠ [])).symm⟩;let L:a=v∨∃ f,s=f++[a]:=by
   obtain rfl|⟨f,w,rfl⟩:=zC5 s
   left
   have:=congrArg List.getLast? d;simp at this;exact this.symm
   right
   let e:h++v::f.concat w=(h++v::f)++[w]:=52
   rw[e]at d;have:=(List.append_inj' d rfl).2;cases this;exact⟨f,52⟩
  let pv:Pr v:=u v 52;let O:Pr a:=u a (by rw[d];simp)
  let g:∀b,Sh G a v->Sh G v b->(a≠v->VR v a b=0)->Sh G a b:=λb N M Q=>by by_cases q:a=v;rw[q];calc M;let⟨e,Y,H,ev⟩:=N;exact⟨e,Y,H,MZ H ev (Q q) λz=>q (kG pv O z).symm⟩
  rw[d];rw[d]at o XI;obtain _|⟨b,C⟩:=C;let c:=o (K++[a]) v 52;intro k z m;rw[zBd]at m ⊢;let ez:a=z:=by have:=congrArg List.getLast? m;simp at this;exact this
  subst ez;let j:YG (Sh G) ((v::K)++a::[v]):=by simpa using c
  rw[kg]at j;let⟨y,x,_⟩:=j;rcases hA:K++[a]with _|⟨b,R⟩;simp at hA;let r:YG (Sh G) (v::b::R):=by rw[<- hA];exact y
  calc⟨g b x r.1 λw=>?_,r.2⟩;let⟨f,rfl⟩:=L.resolve_left w;obtain _|⟨b',h⟩:=h;rw[<- d]at hA;cases hA;rw[kh];rw[<- d]at hA;cases hA;let B:=XI b v a (by rw[<- d];calc List.Sublist.trans ?_ (List.sublist_append_left _ _);calc List.Sublist.cons_cons b ?_;calc List.Sublist.trans ?_ (zBW _ _);calc List.Sublist.cons_cons v ?_;calc zBW _ _)
  let t:=XI b a v (by rw[<- d];calc List.Sublist.cons_cons b ?_;have:[a,v]=[a]++[v]:=rfl;rw[this];calc List.Sublist.append ?_ (List.Sublist.refl _);calc zBY.mpr 52)
  rw[dR]at B;rw[dR,tP]at t
  lia
  intro k z m;let c:=o (((K++[a])++v::b::C).dropLast) z (by
   let J:(K++[a]++v::b::C).getLast?=some z:=by
    let U:(K++[a]++b::C).getLast?=some z:=by rw[m];simp
    let T:(K++[a]++b::C).getLast?=(b::C).getLast?:=by rw[List.getLast?_append,zBz (52:b::C ≠ [])];rfl
    let I:(K++[a]++v::b::C)=(K++[a]++[v])++b::C:=52
    rw[I,List.getLast?_append,<- T,U];rfl
   let i:K++[a]++v::b::C ≠ []:=52
   rw[zBz i]at J;let I:=(zBm i).symm;rw[ZI J]at I;calc I)
  let j:YG (Sh G) ((z::K)++a::(v::b::C)):=by simpa using c
  rw[kg]at j;let⟨y,x,r,I⟩:=j;have:z::(K++[a]++b::C)=(z::K)++a::(b::C):=52
  rw[this,kg];calc⟨y,g b x r λw=>?_,I⟩;let⟨f,rfl⟩:=L.resolve_left w;let B:=XI v a b (by
   rw[<- d];have:h++v::(f++[a])++v::b::C=(h++(v::f))++(a::(v::(b::C))):=52
   rw[this];have:[v,a,b]=[v]++[a,b]:=rfl;calc List.Sublist.append (zBY.mpr 52) (List.Sublist.cons_cons a ?_);calc List.Sublist.cons _ (List.Sublist.cons_cons b (List.nil_sublist _)))
  let t:=XI a v b (by
   have:K++[a]++v::b::C=K++(a::v::b::C):=52
   rw[this];calc List.Sublist.trans ?_ (zBW _ _);calc List.Sublist.cons_cons a (List.Sublist.cons_cons v (List.Sublist.cons_cons b (List.nil_sublist _))))
  rw[tP]at t
  lia
def Zm(w:Tr):Tr:=(w.1.fdiv (PM.VB w.1 w.2.1 w.2.2 w.1),w.2.1.fdiv (PM.VB w.1 w.2.1 w.2.2 w.1),w.2.2.fdiv (PM.VB w.1 w.2.1 w.2.2 w.1))
def cD(g p c:Tr):Tr:=Zm (Vm g p c)
def mT{w:Tr}(h:w.1≠0):Pr (Zm w):=⟨PM.rR h (PM.fu _ _ _) λz=>h z.1,PM.BL λz=>h z.1⟩
def QW{w:Tr}(e:Pr q)(c:w.1*q.2.1=q.1*w.2.1)(b:w.1*q.2.2=q.1*w.2.2):∃m,w.1=m*q.1/\w.2.1=m*q.2.1/\w.2.2=m*q.2.2:=by obtain⟨m,a⟩:q.1∣w.1:=jR (d:=q.1) (k:=w.1) (x:=q.1) (y:=q.2.1) (z:=q.2.2) (Int.dvd_mul_left _ _) (by rw[c];calc Int.dvd_mul_right _ _) (by rw[b];calc Int.dvd_mul_right _ _) e.low;let p:=e.pos;calc⟨m,by rw[a,YR],?_,?_⟩;rw[a,zBc]at c;calc(zDI 33 c).symm;rw[a,zBc]at b;calc(zDI 33 b).symm
def Co{p c:Tr}(e:0<p.1)(f:0<c.1)(d:gvS g p*gvS g c<0):(gvS g p<0/\0<gvS g c/\0<(Vm g p c).1)∨(0<gvS g p/\gvS g c<0/\(Vm g p c).1<0):=by
 rcases Int.lt_or_gt_of_ne (show gvS g p≠0 from 33)with a|a
 left
 let b:0<gvS g c:=YI.mp λb=>YI.mpr d (zBT (Vz a) b)
 calc⟨a,b,?_⟩;show 0<gvS g c*p.1 - gvS g p*c.1;have:=Xc b e;have:=zAn a f
 lia
 right
 let b:gvS g c<0:=YI.mp λb=>YI.mpr d (V6 (Vz a) b)
 calc⟨a,b,?_⟩;show gvS g c*p.1 - gvS g p*c.1<0;have:=zAn b e;have:=Xc a f
 lia
def mF(g:Tr):Btw g (cD g):=λp c b d a=>by
 let k:=Co b d a;let h:=PM.bL (l:=(Vm g p c).1) (PM.fu (Vm g p c).1 (Vm g p c).2.1 (Vm g p c).2.2);let f:=PM.bL (l:=(Vm g p c).1) (PM.gN (Vm g p c).1 (Vm g p c).2.1 (Vm g p c).2.2);let e:=PM.bL (l:=(Vm g p c).1) (PM.gO (Vm g p c).1 (Vm g p c).2.1 (Vm g p c).2.2);let a:(Vm g p c).1≠0:=by rcases k with⟨_,_,q⟩| ⟨_,_,q⟩<;>lia
 let i:PM.g3 (Vm g p c).1 (Vm g p c).2.1 (Vm g p c).2.2≠0:=λz=>a (PM.xm.mp z).1
 let C:∃m s t,Cmb (cD g p c) p c m s t/\s*gvS g p+t*gvS g c=0:=by
  rcases k with⟨a,b,q⟩| ⟨a,b,q⟩;let d:PM.VB (Vm g p c).1 (Vm g p c).2.1 (Vm g p c).2.2 (Vm g p c).1=(PM.g3 (Vm g p c).1 (Vm g p c).2.1 (Vm g p c).2.2:Int):=by ext PM.VB;rw[TM 33]
  calc⟨PM.g3 (Vm g p c).1 (Vm g p c).2.1 (Vm g p c).2.2,gvS g c,-gvS g p,⟨33,b,33,?_,?_,?_⟩,by rw[XO,YR];lia⟩;show _*((Vm g p c).1.fdiv _)=_;rw[<- d,YR,h,XO];rfl;show _*((Vm g p c).2.1.fdiv _)=_;rw[<- d,YR,f,XO];rfl;show _*((Vm g p c).2.2.fdiv _)=_;rw[<- d,YR,e,XO];rfl;let d:-PM.VB (Vm g p c).1 (Vm g p c).2.1 (Vm g p c).2.2 (Vm g p c).1=(PM.g3 (Vm g p c).1 (Vm g p c).2.1 (Vm g p c).2.2:Int):=by ext PM.VB;rw[TU 33,Int.neg_neg]
  calc⟨PM.g3 (Vm g p c).1 (Vm g p c).2.1 (Vm g p c).2.2,-gvS g c,gvS g p,⟨33,33,a,?_,?_,?_⟩,by rw[XO,YR];lia⟩;show _*((Vm g p c).1.fdiv _)=_;rw[<- d,XO,YR,h,XO];show -(gvS g c*p.1 - gvS g p*c.1)=_
  lia
  show _*((Vm g p c).2.1.fdiv _)=_;rw[<- d,XO,YR,f,XO];show -(gvS g c*p.2.1 - gvS g p*c.2.1)=_
  lia
  show _*((Vm g p c).2.2.fdiv _)=_;rw[<- d,XO,YR,e,XO];show -(gvS g c*p.2.2 - gvS g p*c.2.2)=_
  lia
 let⟨m,s,t,C,z⟩:=C;calc⟨⟨m,s,t,C⟩,?_⟩;have:=C.gv g;rw[z]at this;calc(WQ.mp this).resolve_left (by have:=C.m0;lia)
def GH{p c:Tr}(b:0<p.1)(d:0<c.1)(a:gvS g p*gvS g c<0):Pr (cD g p c):=mT (by rcases Co b d a with⟨_,_,q⟩| ⟨_,_,q⟩<;>omega)
def GV{e:Tr}(a:e≠(0,0,0))(d:gvS e p=0)(gp:gvS g p≠0):T1 e g≠(0,0,0):=λz=>a (by
 unfold T1 at z;let c:e.1*gvS g p=0:=by unfold gvS at *;grind
 let b:e.2.1*gvS g p=0:=by unfold gvS at *;grind
 let a:e.2.2*gvS g p=0:=by unfold gvS at *;grind
 let i:=(WQ.mp c).resolve_right gp;let h:=(WQ.mp b).resolve_right gp;let f:=(WQ.mp a).resolve_right gp
 lia)
def HZ(a:Pr q)(i:gvS e q=0)(h:gvS g q=0)(b:T1 e g≠(0,0,0)):∃m,m≠0/\(T1 e g).1=m*q.1/\(T1 e g).2.1=m*q.2.1/\(T1 e g).2.2=m*q.2.2:=by let⟨m,f,d,c⟩:=QW (w:=T1 e g) a (by unfold gvS at *;ext T1;grind) (by unfold gvS at *;ext T1;grind);grind
def qv(o:Pr q)(G:gvS e q=0)(E:gvS g q=0)(y:T1 e g≠(0,0,0)):q=Zm (T1 e g):=by
 let⟨m,s,t,C,B⟩:=HZ o G E y;let r:(T1 e g).1≠0:=by rw[t];exact Int.mul_ne_zero s (by have:=o.pos;lia)
 let A:=mT r;let x:=PM.bL (l:=(T1 e g).1) (PM.fu (T1 e g).1 (T1 e g).2.1 (T1 e g).2.2);let w:=PM.bL (l:=(T1 e g).1) (PM.gN (T1 e g).1 (T1 e g).2.1 (T1 e g).2.2);let u:=PM.bL (l:=(T1 e g).1) (PM.gO (T1 e g).1 (T1 e g).2.1 (T1 e g).2.2);let H:PM.VB (T1 e g).1 (T1 e g).2.1 (T1 e g).2.2 (T1 e g).1≠0:=PM.cS λz=>r z.1
 apply kG o A;let i:(Zm (T1 e g)).1*PM.VB (T1 e g).1 (T1 e g).2.1 (T1 e g).2.2 (T1 e g).1=m*q.1:=by rw[<- t];exact x
 let f:(Zm (T1 e g)).2.1*PM.VB (T1 e g).1 (T1 e g).2.1 (T1 e g).2.2 (T1 e g).1=m*q.2.1:=by rw[<- C];exact w
 let c:(Zm (T1 e g)).2.2*PM.VB (T1 e g).1 (T1 e g).2.1 (T1 e g).2.2 (T1 e g).1=m*q.2.2:=by rw[<- B];exact u
 generalize PM.VB (T1 e g).1 (T1 e g).2.1 (T1 e g).2.2 (T1 e g).1=d at *;generalize Zm (T1 e g)=p at *;ext T1;let k:∀a b n j:Int,a*d=m*n->b*d=m*j->n*b - j*a=0:=λa b n j h I=>by
  have:m*d*(n*b - j*a)=0:=58
  exact(WQ.mp this).resolve_left (Int.mul_ne_zero s H)
 rw[k _ _ _ _ f c,k _ _ _ _ c i,k _ _ _ _ i f]
def cO(g:Tr)(l:yat):yat:=match l.getLast? with
 |none=>[]
 |some z=>YL [] (aK g (cD g) z l)
structure GB3(n:Nat)(e:Tr):Prop where
 ne:e≠(0,0,0)
 c:Bd (2*n+2) e.1
 a:Bd (n+1) e.2.1
 b:Bd (n+1) e.2.2
structure CB(n:Nat)(p:Tr):Prop where
 b:Bd (2*n+3) p.1
 x:Bd (3*n+4) p.2.1
 y:Bd (3*n+4) p.2.2
structure Cor(n:Nat)(Gs Z l:yat):Prop where
 XI:Zb l
 pr:∀p∈l,Pr p
 cb:∀p∈l,CB n p
 cyc:Cyc (Sh (·∈Gs)) l
 mem:∀p∈l,p∈Z
 len:#[l]<=#[Z]
def Rx{k:Nat}(i:Bd n a)(h:Bd m b)(g:Bd m c)(f:Bd n d)(e:n+m+1=k):Bd k (a*b - c*d):=by subst e;let b:=i.mul h;let a:=g.mul f;rw[zC7 m n]at a;calc b.sub a
def mH{m q w:Int}(a:m≠0)(e:w=m*q)(h:Bd n w):Bd n q:=by
 unfold Bd at *;rw[e,zCD]at h;have:q.natAbs<=m.natAbs*q.natAbs:=Nat.le_mul_of_pos_left _ 33
 lia
theorem pB:∀(l:yat) (p:Tr) {y:Tr},y∈aK g (cD g) p l->y∈l∨∃ a b,a∈p::l/\b∈l/\List.Sublist [a,b] (p::l)/\gvS g a*gvS g b<0/\y=cD g a b/\∀R:Tr->Tr->Prop,YG R (p::l)->R a b
 |[],_,_,h=>by cases h
 |c::r,p,y,h=>by
  obtain q|q:=VS.mp h;split at q;rename_i d;calc .inr ⟨p,c,52,52,List.Sublist.cons_cons p (List.Sublist.cons_cons c (List.nil_sublist _)),d,Yv.mp q,λR d=>d.1⟩;cases q;obtain q|q:=VS.mp q;split at q;rw[Yv.mp q];calc .inl 52;cases q;obtain q|⟨a,b,i,h,g,f,e,c⟩:=pB r c q;calc .inl (W9 _ q);calc .inr ⟨a,b,W9 _ i,W9 _ h,g.cons p,f,e,λR d=>c R d.2⟩
theorem u5:∀(l seen:yat),(YL seen l).Nodup/\∀x∈YL seen l,x∉seen
 |[],_=>⟨List.nodup_nil,λ_ h=>(by cases h)⟩
 |x::r,seen=>by
  ext YL;split;calc u5 r seen;rename_i q;let⟨a,b⟩:=u5 r (seen++[x]);calc⟨zBK.mpr ⟨λh=>b x h 52,a⟩,λy hy=>?_⟩;obtain rfl|hy:=VC.mp hy;calc q;calc λz=>b y hy (Zo _ z)
def tV{l:yat}{z:Tr}(h:l.getLast?=some z):l=l.dropLast++[z]:=by
 let a:l ≠ []:=λe=>by rw[e]at h;cases h
 rw[zBz a]at h;have:=(zBm a).symm;rw[ZI h]at this;calc this
theorem nQ:∀{l Z:yat},l.Nodup->(∀x∈l,x∈Z)->#[l]<=#[Z]
 |[],_,_,_=>Yt _
 |x::r,Z,h,c=>by
  let⟨a,b⟩:=zBK.mp h;let⟨A,C,rfl⟩:=zCE (c x 52);have:=nQ (l:=r) (Z:=A++C) b λy b=>by
   have:=c y (W9 _ b);simp only[VS,VC]at this ⊢;obtain q|q|q:=this;calc .inl q;rw[q]at b;calc absurd b a;exact .inr q
  simp at this ⊢
  lia
def Ay{i Z:yat}{g:Tr}(w:∀e∈i,GB3 n e)(J:g∈i)(Y:∀e∈i,Zm (T1 e g)∈Z)(C:Cor n i Z l):Cor n i Z (cO g l):=by
 ext cO;cases hl:l.getLast? with
 |none=>calc⟨λ_ _ _ s=>(by cases s),λ_ h=>(by cases h),λ_ h=>(by cases h),λk z e=>(by simp at e),λ_ h=>(by cases h),Yt _⟩
 |some z =>
  let o:=tV hl;let d:∀x∈l,0<x.1:=λx hx=>(C.pr x hx).pos
  let O:z∈l:=by rw[o];simp
  let h:∀x∈z::l,0<x.1:=λx hx=>by
   obtain rfl|hx:=VC.mp hx;calc d x O;exact d x hx
  let B:=mF g;let j:Zb (z::l):=by have:=y8 (l:=l.dropLast) (a:=z) (by rw[<- o];calc C.XI);rw[<- o]at this;exact this
  let f:Zb (aK g (cD g) z l):=lR.t (Cn B l z h j.p).2;let cy:=K3 B (G:=(·∈i)) J o d C.cyc;let c:∀y∈aK g (cD g) z l,Pr y/\CB n y/\y∈Z:=λy Q=>by
   obtain q|⟨a,b,U,T,_,p,rfl,hR⟩:=pB l z Q;calc⟨C.pr y q,C.cb y q,C.mem y q⟩;let G:=h a U;let A:=d b T;let r:=GH G A p;let⟨e,u,N,eb⟩:=hR _ (C.cyc _ z o);let⟨⟨m,s,t,K⟩,L⟩:=B a b G A p;let M:=K.zero N eb;let I:=GV (w e u).ne N (show gvS g a≠0 from λz=>by rw[z,ZJ]at p;calc zCZ _ p);calc⟨r,?_,?_⟩;let⟨m,t,h1,h2,h3⟩:=HZ r M L I;let E:=w e u;let H:=w g J;calc⟨mH t h1 (Rx (k:=2*n+3) E.a H.b E.b H.a 33),mH t h2 (Bd.mono ((E.b.mul H.c).sub (zC7 _ _ ▸ E.c.mul H.b)) 33),mH t h3 (Bd.mono ((E.c.mul H.a).sub (zC7 _ _ ▸ E.a.mul H.c)) 33)⟩;rw[qv r M L I];exact Y e u
  let sub:=rE (aK g (cD g) z l) [];calc⟨f.sub sub,λp b=>(c p (sub.subset b)).1,λp b=>(c p (sub.subset b)).2.1,G0 _ _ (VY _) f (λp b=>(c p b).1) cy,λp b=>(c p (sub.subset b)).2.2,nQ (u5 _ _).1 λp b=>(c p (sub.subset b)).2.2⟩
def nj(XI:Zb l)(a:∀p∈l,Pr p):(∀X,InC l X->0<=gvS g X->InC (cO g l) X)/\(∀y∈cO g l,0<=gvS g y)/\∀d,(∀p∈l,0<=gvS d p)->∀y∈cO g l,0<=gvS d y:=by
 ext cO;cases hl:l.getLast? with
 |none =>
  cbv
 |some z =>
  let e:=tV hl;let b:∀x∈l,0<x.1:=λx c=>(a x c).pos
  let a:∀x∈z::l,0<x.1:=58
  let B:=mF g;let sub:=rE (aK g (cD g) z l) [];calc⟨λX f g h hh=>K4 B e XI b f g h λp e=>?_,λy b=>rh B l z a y (sub.subset b),λd i y b=>pA B l z a (λx c=>?_) y (sub.subset b)⟩;calc hh p ((xf _ [] e).resolve_left 52);grind
def aQ(gs l:yat):yat:=gs.foldl (λl g=>cO g l) l
def vA(h:InC l X)(a:0<X.1):l ≠ []:=λe=>by
 have:=h (-1,0,0) 47;unfold gvS at this
 lia
def sT(p:Sp):Tr:=(1,p.1,p.2)
def Po(a b c:Sp):VR (sT a) (sT b) (sT c)=cr a b c:=by rw[bP];ext VR sT gvS T1;grind
def zU{A B:Int}{x y z:Sp}(b:0<A*y.1+B*y.2)(a:0<=A*x.1+B*x.2)(hz:0<=A*z.1+B*z.2)(d:0<=tn x y)(c:0<=tn y z):0<=tn x z:=by
 let e:(A*y.1+B*y.2)*tn x z=(A*z.1+B*z.2)*tn x y+(A*x.1+B*x.2)*tn y z:=by ext tn;grind
 let g:=V6 hz d;let f:=V6 a c;calc zAu (a:=A*y.1+B*y.2) (by rw[e];omega) b
def sb(a b:Sp):Sp:=(a.1 - b.1,a.2 - b.2)
def gL(a b c:Sp):cr a b c=tn (sb b a) (sb c a):=by rw[bP];ext tn sb;grind
theorem fK(A B:Int)(a b:Sp):A*(sb a b).1+B*(sb a b).2=fA A B a - fA A B b:=by ext sb fA;grind
def sk(L:Way A B ps n l){i j k:Nat}(d:i<j)(a:j<k)(b:k<n):0<=cr (l i) (l j) (l k):=by
 let c:=L.VW j 33 (l i) (L.mem i 33);let m:=L.VW j 33 (l k) (L.mem k b);let h:=L.rise i j d 33;let g:=L.rise j (j+1) 33 33;let f:=L.rise j k a b;have:=zU (A:=A) (B:=B) (x:=sb (l j) (l i)) (y:=sb (l (j+1)) (l j)) (z:=sb (l k) (l j)) (by rw[fK];lia) (by grind [fK]) (by grind [fK]) (by
  rw[bP]at c;ext tn sb
  lia) (by simp_all [gL])
 rw[gL];let e:tn (sb (l j) (l i)) (sb (l k) (l i))=tn (sb (l j) (l i)) (sb (l k) (l j)):=by ext tn sb;grind
 cbv
def EA{m:Nat}(L:Way A B ps n l)(U:Way (-A) (-B) ps (m+2) u)(p:u (m+1)=l 0){i j k:Nat}(s:i<j)(b:j<n)(g:k<m+2):0<=cr (l i) (l j) (u k):=by
 let f:=U.mem k g;let o:=L.rise i j s b;by_cases h:fA A B (u k)<=fA A B (l i);let c:=L.VW i 33 (u k) f;let d:=L.VW i 33 (l j) (L.mem j b);let r:=L.rise i (i+1) 33 33;have:=zU (A:=A) (B:=B) (x:=sb (l i) (u k)) (y:=sb (l (i+1)) (l i)) (z:=sb (l j) (l i)) (by rw[fK];lia) (by rw[fK];lia) (by grind [fK]) (by
  rw[gL]at c;have:tn (sb (l i) (u k)) (sb (l (i+1)) (l i))=tn (sb (l (i+1)) (l i)) (sb (u k) (l i)):=by ext tn sb;grind
  cbv) (by simp_all [gL])
 rw[gL];let e:tn (sb (l j) (l i)) (sb (u k) (l i))=tn (sb (l i) (u k)) (sb (l j) (l i)):=by ext tn sb;grind
 cbv
 by_cases w:fA A B (l j)<=fA A B (u k);obtain⟨a,rfl⟩:∃a,j=a+1:=⟨j - 1,33⟩;let c:=L.VW a b (u k) f;let d:=L.VW a b (l i) (L.mem i 33);let r:=L.rise a (a+1) 33 b;have:=zU (A:=A) (B:=B) (x:=sb (l (a+1)) (l i)) (y:=sb (l (a+1)) (l a)) (z:=sb (u k) (l (a+1))) (by rw[fK];lia) (by grind [fK]) (by rw[fK];lia) (by
  rw[gL]at d;have:tn (sb (l (a+1)) (l i)) (sb (l (a+1)) (l a))=tn (sb (l (a+1)) (l a)) (sb (l i) (l a)):=by ext tn sb;grind
  cbv) (by
  rw[gL]at c;have:tn (sb (l (a+1)) (l a)) (sb (u k) (l (a+1)))=tn (sb (l (a+1)) (l a)) (sb (u k) (l a)):=by ext tn sb;grind
  cbv)
 rw[gL];let e:tn (sb (l (a+1)) (l i)) (sb (u k) (l i))=tn (sb (l (a+1)) (l i)) (sb (u k) (l (a+1))):=by ext tn sb;grind
 cbv
 let t:k<m+1:=by
  rcases Nat.lt_or_eq_of_le (Nat.le_of_lt_succ g)with q|q;calc q;exfalso;rw[q,p]at h;exact h (L.lo _ (L.mem i 33))
 let c:=U.VW k 33 (l i) (L.mem i 33);let d:=U.VW k 33 (l j) (L.mem j b);let r:=U.rise k (k+1) 33 33;have:=zU (A:=A) (B:=B) (x:=sb (l j) (u k)) (y:=sb (u k) (u (k+1))) (z:=sb (u k) (l i)) (by grind [fK]) (by grind [fK]) (by grind [fK]) (by
  rw[gL]at d;have:tn (sb (l j) (u k)) (sb (u k) (u (k+1)))=tn (sb (u (k+1)) (u k)) (sb (l j) (u k)):=by ext tn sb;grind
  cbv) (by
  rw[gL]at c;have:tn (sb (u k) (u (k+1))) (sb (u k) (l i))=tn (sb (u (k+1)) (u k)) (sb (l i) (u k)):=by ext tn sb;grind
  cbv)
 rw[gL];let e:tn (sb (l j) (l i)) (sb (u k) (l i))=tn (sb (l j) (u k)) (sb (u k) (l i)):=by ext tn sb;grind
 cbv
def OG(a b c:Sp):cr a b c=cr b c a:=by rw[bP,bP];grind
def KC{n m:Nat}{h:Nat->Sp}(L:Way A B ps (n+2) l)(U:Way (-A) (-B) ps (m+2) u)(p:l (n+1)=u 0)(q:u (m+1)=l 0)
  (b:∀k,k<n+2->h k=l k) (s:∀j,j<m+1->h (n+1+j)=u j) {i j k:Nat} (o:i<j) (e:j<k) (d:k<n+m+2):0<=cr (h i) (h j) (h k):=by
 let r:Way (-(-A)) (-(-B)) ps (n+2) l:=33
 let a:∀k,n+1<=k->k<n+m+2->h k=u (k - (n+1)):=58
 by_cases c:i<n+2;by_cases f:j<n+2;by_cases g:k<n+2;rw[b i c,b j f,b k g];calc sk L o e g;rw[b i c,b j f,a k 33 d];calc EA L U q o f 33;rw[b i c,a j 33 33,a k 33 d,OG];calc EA U r p 33 33 c;rw[a i 33 33,a j 33 33,a k 33 d];calc sk U 33 33 33
theorem Ey:∀{l:yat},(∀i j k (c:i<j) (a:j<k) (b:k<#[l]),0<=VR (l[i]' 33) (l[j]' 33) (l[k]'b))->lR l
 |[],_=>True.intro
 |p::r,h=>⟨zBC.mpr λi j e d q=>h 0 (i+1) (j+1) 33 33 47,Ey λi j k c a b=>h (i+1) (j+1) (k+1) 33 33 47⟩
def A7(h:bC ys ps):Zb ((aM ys).map sT)/\(1<#[aM ys]->∀k,k<#[aM ys]->bQ (aM ys) k≠(aM ys).getD k (0,0)):=by
 let B:=nR h;let⟨o,a⟩:=h;ext aM;by_cases c:#[ys]<2;rw[TU c];calc⟨λx y z s=>?_,λq=>absurd q 33⟩;have:=s.length_le;simp at this
 lia
 rw[TM c];let⟨A,n,m,ll,E,t,C,G,a,L,U,s,r,h,d,b⟩:=tU o a c;generalize aG ys=l at *;generalize aG ys.reverse=u at *;let p:∀{w:yas} {x:Sp},x∈w.dropLast->x∈w:=fun {w x} a=>(zC4 w).subset a
 let f:∀{w:yas} {i:Nat} (a:i<#[w]),w.getD i (0,0)=w[i]:=fun {w i} a=>by rw[Yu,Wc a];rfl
 constructor
 rotate_left
 intro _ k c e;rw[b]at c;unfold bQ at e;rw[b]at e;let a:∀k,n+1<=k->k<n+m+2->(l.dropLast++u.dropLast).getD k (0,0)=u.getD (k - (n+1)) (0,0):=λk I H=>by
  have:=h (k - (n+1)) 33;rw[<- this];congr 1
  lia
 cases k with
 |zero =>
  let g:(0+(n+m+2) - 1) % (n+m+2)=n+m+1:=by rw[ZO 33];lia
  rw[g,a _ 33 33,d 0 33,<- r]at e;have:=U.rise (n+m+1 - (n+1)) (m+1) 33 33;rw[e]at this;calc zCZ _ this
 |succ k =>
  let g:(k+1+(n+m+2) - 1) % (n+m+2)=k:=by
   have:k+1+(n+m+2) - 1=k+(n+m+2):=33
   rw[this,zC0,ZO 33]
  rw[g]at e;by_cases q:k+1<n+2;rw[d k 33,d (k+1) q]at e;have:=L.rise k (k+1) 33 q;rw[e]at this;calc zCZ _ this;rw[a k 33 33,a (k+1) 33 c]at e;have:=U.rise (k - (n+1)) (k+1 - (n+1)) 33 33;rw[e]at this;exact zCZ _ this
 apply lR.t;apply Ey;intro i j k e a c;rw[T4,b]at c;let R:=KC L U s r d h e a c;rw[f (by rw[b];lia),f (by rw[b];lia),f (by rw[b];lia)]at R;rw[zBF,zBF,zBF,Po];calc R
def LG(p:Sp):Pr (sT p):=⟨by show(0:Int)<1;decide,by
 show PM.g3 1 p.1 p.2=1;ext PM.g3
 cbv⟩
def rJ(h X:Tr)(p:Sp):X.1*gvS h (sT p) - gvS h X=h.2.1*(Uo X p).1+h.2.2*(Uo X p).2:=by ext gvS sT Uo;grind
def JQ{X:Tr}(h0:0<X.1)(B:wR X hs):InC (hs.map sT) X:=λh hh=>by
 let i:∀p∈hs,0<=X.1*gvS h (sT p):=λp i=>V6 (Vz h0) (hh _ (UQ.mpr ⟨p,i,rfl⟩))
 let k:∀p∈hs,∀q∈hs,∀s t:Int,0<s->0<t->s*(Uo X p).1+t*(Uo X q).1=0->s*(Uo X p).2+t*(Uo X q).2=0->0<=gvS h X:=λp d q f s t g b u o=>by
  let n:=rJ h X p;let m:=rJ h X q;let y:=V6 (Vz g) (i p d);let x:=V6 (Vz b) (i q f);let e:(s+t)*gvS h X=s*(X.1*gvS h (sT p))+t*(X.1*gvS h (sT q)):=58
  exact zAu (a:=s+t) (by rw[e];lia) 33
 let c:∀p∈hs,∀q∈hs,∀r∈hs,∀s t w:Int,0<s->0<t->0<w->s*(Uo X p).1+t*(Uo X q).1+w*(Uo X r).1=0->s*(Uo X p).2+t*(Uo X q).2+w*(Uo X r).2=0->0<=gvS h X:=λp d q f r j s t w g b l u o=>by
  let n:=rJ h X p;let m:=rJ h X q;let g3:=rJ h X r;let y:=V6 (Vz g) (i p d);let x:=V6 (Vz b) (i q f);let z:=V6 (Vz l) (i r j);let e:(s+t+w)*gvS h X=s*(X.1*gvS h (sT p))+t*(X.1*gvS h (sT q))+w*(X.1*gvS h (sT r)):=58
  exact zAu (a:=s+t+w) (by rw[e];lia) 33
 rcases B with⟨p,d,b⟩| ⟨p,d,q,f,b⟩| ⟨p,d,q,f,r,j,b⟩;let g:=rJ h X p;let a:Uo X p=(0,0):=b;rw[a,YS,YS]at g;have:=i p d
 lia
 let⟨g,a⟩:=Ib b.1;let h:Uo X q≠(0,0):=λe=>by have:=b.2;rw[e]at this;unfold TP at this;simp at this
 calc k p d q f _ _ (gr h) (by have:=b.2;lia) g a;let⟨g,a⟩:=Ju (Uo X p) (Uo X q) (Uo X r);rcases b with⟨h,e,b⟩| ⟨h,e,b⟩;calc c p d q f r j _ _ _ h e b g a;calc c p d q f r j (-tn (Uo X q) (Uo X r)) (-tn (Uo X r) (Uo X p)) (-tn (Uo X p) (Uo X q)) 33 33 33 (by rw[XO,XO,XO];lia) (by rw[XO,XO,XO];lia)
def Fc(g:nh hs ps)(d:ps ≠ []):nh hs hs:=by calc⟨λ_ h=>h,33,λ_=>?_,λa e p c=>g.one a e p (g.mem p c),λa b e=>⟨(g.two a b e).1,λp c=>(g.two a b e).2 p (g.mem p c)⟩,λq k b p c=>g.VW q k b p (g.mem p c),g.Y0⟩;let⟨a,r,e,b⟩:=g.some_ d;calc⟨a,r,e,λp c=>b p (g.mem p c)⟩
def kj(g:nh hs ps)(b:ps ≠ []):hs ≠ []:=by
 let⟨a,r,e,_⟩:=g.some_ b
 lia
def JP{X:Tr}(g:nh hs ps)(c:ps ≠ [])(h0:0<X.1)(a:∀b∈aU hs,0<=gvS b X):InC (hs.map sT) X :=
 JQ h0 (Ic (Fc g c) (kj g c) h0 a)
def nu(a b:Sp):gvS (bX a b) (sT a)=0/\gvS (bX a b) (sT b)=0:=by constructor<;>(ext gvS bX sT;grind)
theorem rH(a w:Sp):gvS (cn a w) (sT a)=0:=by ext gvS cn sT;grind
theorem Ax{R:Tr->Tr->Prop}:∀{l:yat},(∀i (h:i+1<#[l]),R (l[i]' 33) l[i+1])->YG R l
 |[],_=>True.intro
 |[_],_=>True.intro
 |a::b::r,h=>⟨h 0 52,Ax λi c=>h (i+1) 47⟩
def JO{hs:yas}{f:yat}(i:hs ≠ [])(h:∀b∈aU hs,b∈f):Cyc (Sh (·∈f)) (hs.map sT):=λk z l=>by
 by_cases c:#[hs]<3;let j:aU hs=fO (hs.getD 0 (0,0)) (hs.getD (#[hs] - 1) (0,0)):=by ext aU;rw[TU c]
 let m:∃e∈f,∀p∈hs,gvS e (sT p)=0:=by
  calc⟨cn (hs.getD 0 (0,0)) (VH (aS (hs.getD 0 (0,0)) (hs.getD (#[hs] - 1) (0,0)))),h _ (by rw[j];ext fO;simp),λp g=>?_⟩;obtain _|⟨a,_|⟨b,_|⟨d,r⟩⟩⟩:=hs;exact absurd rfl i
  simp_all [rH]
  simp at g;obtain rfl|rfl:=g;calc rH _ _;show gvS (cn a (VH (aS a p))) (sT p)=0;ext aS;split;grind [rH];ext gvS cn sT VH;grind;simp at c;lia
 let⟨e,d,g⟩:=m;let a:∀x∈z::hs.map sT,gvS e x=0:=58
 exact Ax λi b=>⟨e,d,a _ (zBZ _),a _ (zBZ _)⟩
 let j:aU hs=(List.range' 0 #[hs]).map λk=>bX (bQ hs k) (hs.getD k (0,0)):=by ext aU;rw[TM c]
 let d:∀{i:Nat} (b:i<#[hs]),hs.getD i (0,0)=hs[i]:=58
 let c:∀i (b:i<#[hs]),Sh (·∈f) (sT (bQ hs i)) (sT hs[i]):=λi b=>by let⟨e,a⟩:=nu (bQ hs i) (hs.getD i (0,0));calc⟨_,h (bX (bQ hs i) (hs.getD i (0,0))) 58,e,?_⟩;rw[<- d b];exact a
 let e:z=sT (bQ hs 0):=by
  let a:(hs.map sT).getLast?=some z:=by rw[l];simp
  rw[List.getLast?_map,List.getLast?_eq_getElem?]at a;ext bQ;have:(0+#[hs] - 1) % #[hs]=#[hs] - 1:=47
  rw[this,d 33];rw[Wc 33]at a;exact(ZI a).symm
 refine Ax λi b=>?_
 cases i with
 |zero =>
  show Sh _ z ((hs.map sT)[0]'_);rw[e,zBF];calc c 0 33
 |succ i =>
  show Sh _ ((hs.map sT)[i]'_) ((hs.map sT)[i+1]'_);rw[zBF,zBF];simp at b;have:=c (i+1) 33;unfold bQ at this;grind [Nat.add_mod_right,Nat.mod_eq_of_lt]
def Jq(d:WB n a)(c:WB n b):WB (n+1) (aS a b)/\aS a b≠(0,0):=by ext aS;split;calc⟨⟨by ext Bd;grind,by ext Bd;simp_all [Nat.pow_pos]⟩,52⟩;rename_i e;calc⟨⟨?_,?_⟩,λz=>e ?_⟩;rw[zBo,zBo];calc c.x.sub d.x;show Bd _ (1*b.2 - 1*a.2);rw[zBo,zBo];calc c.y.sub d.y;grind
def My(c:WB n a)(b:WB (n+1) w)(h0:w≠(0,0)):GB3 n (cn a w):=by
 ext cn;refine⟨λz=>h0 ?_,?_,?_,?_⟩
 lia
 calc Bd.mono (Bd.neg ((b.x.mul c.x).add (b.y.mul c.y))) 33;rw[Int.mul_one];calc b.x;show Bd _ (w.2*1);rw[Int.mul_one];calc b.y
def Kx{hs:yas}(a:hs ≠ [])(k:Nat):bQ hs k∈hs:=by ext bQ;have:(k+#[hs] - 1) % #[hs]<#[hs]:=zCQ _ (zCN.mpr a);rw[Yu,Wc this];calc zBZ _
def getD_mem{hs:yas}{k:Nat}(h:k<#[hs]):hs.getD k (0,0)∈hs:=by rw[Yu,Wc h];calc zBZ _
def GC{hs:yas}(j:hs ≠ [])(i:1<#[hs]->∀k,k<#[hs]->bQ hs k≠hs.getD k (0,0))(g:∀p∈hs,WB n p):∀b∈aU hs,GB3 n b:=λb b=>by
 unfold aU at b;split at b
 ·let a:0<#[hs]:=58
  let e:=g _ (getD_mem (hs:=hs) (k:=0) a);let c:=g _ (getD_mem (hs:=hs) (k:=#[hs] - 1) 33);let⟨f,h⟩:=Jq e c;generalize hs.getD 0 (0,0)=a at *;generalize hs.getD (#[hs] - 1) (0,0)=d at *;unfold fO at b;simp at b;generalize aS a d=w at *;let m:WB (n+1) (V4 w)/\V4 w≠(0,0):=⟨⟨f.x.neg,f.y.neg⟩,λz=>h (by unfold V4 at z;grind)⟩
  let a:WB (n+1) (VH w)/\VH w≠(0,0):=⟨⟨f.y.neg,f.x⟩,λz=>h (by unfold VH at z;grind)⟩
  let bl:WB (n+1) (V4 (VH w))/\V4 (VH w)≠(0,0):=⟨⟨a.1.x.neg,a.1.y.neg⟩,λz=>a.2 (by unfold V4 at z;grind)⟩
  obtain rfl|rfl|rfl|rfl:=b
  all_goals simp_all [My]
 let⟨k,l,rfl⟩:=UQ.mp b;let a:k<#[hs]:=47
 let b:=i 33 k a;let e:=g _ (Kx j k);let c:=g _ (getD_mem a);ext bX;calc⟨λz=>b ?_,?_,?_,?_⟩;grind;calc Bd.mono ((e.x.mul c.y).sub (c.x.mul e.y)) 33;rw[Int.mul_one,Int.mul_one];calc e.y.sub c.y;rw[zBo,zBo];calc c.x.sub e.x
def JN{a Z:yat}(h:bC ys ps)(c:ps ≠ [])(d:∀p∈ps,WB n p)(i:∀b∈aU (aM ys),b∈a)(e:∀p∈aM ys,sT p∈Z)(f:#[aM ys]<=#[Z]):Cor n a Z ((aM ys).map sT):=by
 let g:=lE h;let w:∀p∈aM ys,WB n p:=λp a=>d p (g.mem p a)
 calc⟨(A7 h).1,λp a=>?_,λp a=>?_,JO (kj g c) i,λp a=>?_,by rw[T4];calc f⟩;let⟨q,_,rfl⟩:=UQ.mp a;calc LG q;let⟨q,b,rfl⟩:=UQ.mp a;calc⟨?_,(w q b).x.mono 33,(w q b).y.mono 33⟩;show Bd _ 1;ext Bd;calc XG (show 1<2 ^ 1 by decide) (zCj 23 33);let⟨q,b,rfl⟩:=UQ.mp a;calc e q b
def I0(g:Tr)(qf:Tr->Tr->Tr)(z:Tr)(l:yat)(c:Tr):aK g qf z (l++[c])=aK g qf z l++((if gvS g (l.getLastD z)*gvS g c<0 then[qf (l.getLastD z) c]else[])++(if 0<=gvS g c then[c]else[])):=by
 obtain rfl|⟨k,p,rfl⟩:=zC5 l;simp only[zBv,aK,zBd,List.getLastD_nil];rfl;rw[List.concat_eq_append,zBM];show aK g qf z (k++p::[c])=_;rw[iU];congr 1;simp only[aK,zBd];rw[List.getLastD_concat]
theorem uK(g:Tr)(qf:Tr->Tr->Tr):∀(l:yat) (z:Tr),#[aK g qf z l]<=2*#[l]
 |[],_=>VY _
 |c::r,z=>by ext aK;have:=uK g qf r c;rw[Xh,Xh,ZH];split<;>split<;>simp<;>lia
theorem qa:∀(l s a:yat),(∀x,x∈s↔x∈a)->YL s l=YL a l
 |[],_,_,_=>rfl
 |x::r,s,a,h=>by ext YL;by_cases q:x∈s;rw[TU q,TU ((h x).mp q)];calc qa r s a h;rw[TM q,TM 58];congr 1;calc qa r _ _ 58
theorem AN(z:Tr):∀(l a:yat),((List.range' #[a] #[l]).filter λk=>!((a++l).take k).any λy=>decide (y=(a++l).getD k z)).map (λk=>(a++l).getD k z)=YL a l
 |[],a=>rfl
 |x::r,a=>by
  let ih:=AN z r (a++[x]);let e:a++[x]++r=a++x::r:=52
  rw[e]at ih;let b:(a++x::r).getD #[a] z=x:=47
  let c:(a++x::r).take #[a]=a:=52
  rw[ZH,List.range'_succ,List.filter_cons,b,c];let d:(a.any λy=>decide (y=x))=decide (x∈a):=by rw[Bool.eq_iff_iff];simp
  let b:#[a++[x]]=#[a]+1:=52
  rw[b]at ih;ext YL;by_cases q:x∈a;rw[TU q,TM 33,ih];calc qa r _ _ 47;grind
def Q7(a b:Int):(sg a*sg b<0)↔a*b<0:=by
 ext sg;obtain c|c|c:=zB4 a 0
 ·rw[TM 33,TU c];obtain a|a|a:=zB4 b 0;have:=zBJ c a
  lia
  all_goals simp_all [zAn]
 cbv
 rw[TU c];obtain a|a|a:=zB4 b 0;rw[TM 33,TU a]
 simp_all [Z9]
 cbv
 rw[TU a];have:=Xc c a
 lia
def Q8(a:Int):(0<=sg a)↔0<=a:=by ext sg;split;constructor<;>intro<;>lia;split<;>(constructor<;>intro<;>lia)
def Py(p q:Tr):eqD (Ug p) (Ug q)=decide (p=q):=by ext Ug;rw[Hd];let⟨a,b,c⟩:=p;let⟨d,e,f⟩:=q;rw[Bool.eq_iff_iff];simp
def Ec(p:Tr):Yf 1 (Ug p):=Yf.tup (.cons (.int _ _) (.cons (.int _ _) (.cons (.int _ _) (.nil _))))
def plk(a b c d:Sp):tn a b*tn c d=tn a c*tn b d - tn a d*tn b c:=by ext tn;grind
theorem nL(t:Sp):∀V:yas,(∃v∈V,0<tn t v)->∃v∈V,0<tn t v/\∀w∈V,0<tn t w->0<=tn v w
 |[],h=>47
 |x::V,h=>by
  by_cases c:∃v∈V,0<tn t v
  ·let⟨v,vm,hv,f⟩:=nL t V c;by_cases d:0<tn t x/\tn v x<0;calc⟨x,58,d.1,λw a b=>?_⟩;obtain e|wm:=VC.mp a
   simp_all [sj,YT]
   let k:=plk t v x w;let i:=V6 (Vz d.1) (f w wm b);let g:=Xc b (show 0 < - tn v x by lia);exact zAu 33 hv
   ·calc⟨v,58,hv,λw a b=>?_⟩;obtain e|wm:=VC.mp a
    all_goals cbv
  let⟨v,vm,hv⟩:=h;obtain e|vm:=VC.mp vm;calc⟨v,33,hv,λw a b=>?_⟩;obtain e|wm:=VC.mp a
  simp_all [sj,YT]
  calc absurd ⟨w,wm,b⟩ c;calc absurd ⟨v,vm,hv⟩ c
theorem wH{a:Type}(f:a->Int):∀V:List a,∃M:Int,0<M/\∀v∈V,f v<=M
 |[]=>⟨1,23,λv hv=>by cases hv⟩
 |x::V=>by
  let⟨M,c,b⟩:=wH f V;calc⟨M+(f x).toNat,33,λv hv=>?_⟩;obtain e|a:=VC.mp hv;subst e;lia;have:=b v a;lia
def sq_pos{t:Sp}(d:t≠(0,0)):0<TP t t:=by
 let⟨a,b⟩:=t;show 0<a*a+b*b;let f:0<=a*a:=by obtain h|h:=Int.le_total 0 a;calc V6 h h;exact zBT h h
 let e:0<=b*b:=by obtain h|h:=Int.le_total 0 b;calc V6 h h;exact zBT h h
 by_cases c:a=0;let a:b≠0:=33
 have:=Int.mul_ne_zero a a;omega;have:=Int.mul_ne_zero c c;omega
def PO{t:Sp}(a:t≠(0,0))(V:yas)(b:∀d:Sp,(∀v∈V,0<=TP v d)->0<=TP t d):(∃v∈V,tn t v=0/\0<TP t v)∨∃ v∈V,∃w∈V,tn t v<0/\0<tn t w/\0<tn v w:=by
 refine zBB λi=>?_
 let f:∀v∈V,tn t v=0->TP t v<=0:=47
 let d:=sq_pos a;by_cases L:∃v∈V,0<tn t v;let⟨w,g,j,ext⟩:=nL t V L;let a:=b (-w.2,w.1) λv hv=>by
  let e:TP v (-w.2,w.1)=tn w v:=by ext TP tn;grind
  rw[e];obtain c|c|c:=zB4 (tn t v) 0;grind [cB];let k:TP t t*tn w v=TP t v*tn w t+tn t v*TP w t:=by ext TP tn;grind
  rw[c,ZJ,zB8]at k;let q:=zBT (f v hv c) (show tn w t<=0 by rw[cB];lia);rw[<- k]at q;calc zAu q d;exact ext v hv c
 let e:TP t (-w.2,w.1)=tn w t:=by ext TP tn;grind
 rw[e,cB]at a
 lia
 let⟨M,f,d⟩:=wH (λv=>TP v t) V;let a:=b (M*t.2 - t.1,- (M*t.1) - t.2) λv hv=>by
  let e:TP v (M*t.2 - t.1,- (M*t.1) - t.2)=M*(- tn t v) - TP v t:=by ext TP tn;grind
  rw[e];let h:=ZQ.mp λz=>L ⟨v,hv,z⟩
  by_cases c:tn t v=0
  simp_all [AS]
  let b:M*1<=M*(- tn t v):=zBy 33 (Vz f);have:=d v hv
  lia
 let e:TP t (M*t.2 - t.1,- (M*t.1) - t.2)=- TP t t:=by ext TP;grind
 lia
def vc(g:Tr):Sp:=(g.2.1,g.2.2)
def R4(g:Tr)(N b a:Int)(p:Tr):gvS g (N*p.1,N*p.2.1+b,N*p.2.2+a)=N*gvS g p+TP (vc g) (b,a):=by ext gvS TP vc;grind
def Gz{gs C:yat}(c:C ≠ [])(pos:∀p∈C,0<p.1)(n:∀p∈C,gvS g p<0)(q:∀h∈gs,∀p∈C,0<=gvS h p)
  (sp:∀X:Tr,0<X.1->(∀h∈gs,0<=gvS h X)->InC C X) (gv:vc g≠(0,0)) :
  ∃ p:Tr,0<p.1/\gvS g p<0/\((∃h∈gs,gvS h p=0/\pP (vc h) (vc g))∨∃ h∈gs,∃k∈gs,gvS h p=0/\gvS k p=0/\wQ (vc h) (vc k) (vc g)):=by
 let⟨b,a⟩:=zBu C c;let l:∀p:Tr,gvS (-1,0,0) p=- p.1:=λp=>by ext gvS;grind
 let⟨p,m,gp,_,i⟩:=t6 g (-1,0,0) C ⟨b,a,n b a,by rw[l];have:=pos b a;lia⟩;let a:=pos p m;calc⟨p,a,gp,?_⟩;let b:(- g.2.1,- g.2.2)≠((0,0):Sp):=λe=>gv (by let u:=congrArg Prod.fst e;let t:=congrArg Prod.snd e;ext vc;rw[show g.2.1=0 by lia,show g.2.2=0 by lia])
 let j:=PO b ((gs.filter λh=>decide (gvS h p=0)).map vc) λd b=>by
  let⟨N,o,s⟩:=wH (λh=>- TP (vc h) d) gs;let r:∀h∈gs,0<=gvS h (N*p.1,N*p.2.1+d.1,N*p.2.2+d.2):=λh f=>by
   rw[R4];by_cases c:gvS h p=0;rw[c,YS,zC3];calc b _ (UQ.mpr ⟨h,ZP.mpr ⟨f,Ys c⟩,rfl⟩);let b:N*1<=N*gvS h p:=zBy (by have:=q h f p m;lia) (Vz o);have:=s h f;show 0<=N*gvS h p+TP (vc h) d
   lia
  let I:=sp _ (Xc o a) r (gvS g p - p.1*g.1,- (p.1*g.2.1),- (p.1*g.2.2)) λy m=>by
   let b:=i y m (n y m);rw[l,l]at b;let e:gvS (gvS g p - p.1*g.1,- (p.1*g.2.1),- (p.1*g.2.2)) y=gvS g p*y.1 - p.1*gvS g y:=by ext gvS;grind
   rw[Int.mul_neg,XO]at b
   lia
  let e:gvS (gvS g p - p.1*g.1,- (p.1*g.2.1),- (p.1*g.2.2)) (N*p.1,N*p.2.1+d.1,N*p.2.2+d.2)=p.1*TP (- g.2.1,- g.2.2) d:=by ext gvS TP;grind
  rw[e]at I;exact zAu I a
 let d:∀v∈(gs.filter λh=>decide (gvS h p=0)).map vc,∃h∈gs,gvS h p=0/\vc h=v:=λv hv=>by let⟨h,f,e⟩:=UQ.mp hv;let⟨a,b⟩:=ZP.mp f;exact⟨h,a,zA5 b,e⟩
 let i:∀v:Sp,tn (- g.2.1,- g.2.2) v=- tn (vc g) v:=λv=>by ext tn vc;grind
 let l:∀v:Sp,TP (- g.2.1,- g.2.2) v=- TP (vc g) v:=λv=>by ext TP vc;grind
 rcases j with⟨v,e,a,b⟩| ⟨v,e,w,j,a,b,c⟩;let⟨h,f,g,rfl⟩:=d v e;rw[i]at a;rw[l]at b;calc .inl ⟨h,f,g,by rw[cB];lia,by rw[AS];lia⟩;let⟨h,f,g,rfl⟩:=d v e;let⟨k,e,kp,rfl⟩:=d w j;rw[i]at a b;calc .inr ⟨h,f,k,e,g,kp,.inl ⟨?_,?_,c⟩⟩;rw[cB];exact b
 lia
theorem AA{a Z:yat}(i:∀e∈a,GB3 n e)(j:∀e∈a,∀g∈a,Zm (T1 e g)∈Z):∀(gs l:yat),(∀g∈gs,g∈a)->Cor n a Z l →
  Cor n a Z (aQ gs l)/\(∀X,InC l X->(∀g∈gs,0<=gvS g X)->InC (aQ gs l) X)/\(∀g∈gs,∀y∈aQ gs l,0<=gvS g y)/\∀d,(∀p∈l,0<=gvS d p)->∀y∈aQ gs l,0<=gvS d y
 |[],l,_,C=>⟨C,λ_ I _=>I,λ_ h=>(by cases h),λ_ h=>h⟩
 |g::gs,l,h,C=>by
  let⟨n,m,k⟩:=nj (g:=g) C.XI C.pr;let⟨a,b,c,d⟩:=AA i j gs (cO g l) (λx f=>h x (W9 _ f)) (Ay i (h g 52) (λe i=>j e i g (h g 52)) C);calc⟨a,λX I a=>b X (n X I (a g 52)) λx f=>a x (W9 _ f),λx f y a=>?_,λe i=>d e (k e i)⟩;obtain rfl|f:=VC.mp f;calc d x m y a;calc c x f y a
def GF{hs:yas}(c:hs ≠ []){b:Tr}(a:b∈aU hs):∃p:Sp,gvS b (sT p)=0:=by
 unfold aU at a;split at a;unfold fO at a;simp only[VC,zBG,or_false]at a;obtain e|e|e|e:=a<;>(rw[e];calc⟨_,rH _ _⟩);let⟨k,_,e⟩:=UQ.mp a;rw[<- e];calc⟨_,(nu _ _).1⟩
def SG(h:GB3 n b)(e:gvS b (sT p)=0):vc b≠(0,0):=λz=>h.ne (by let c:b.2.1=0:=congrArg Prod.fst z;let a:b.2.2=0:=congrArg Prod.snd z;unfold gvS sT at e;grind)
theorem Dx:∀gs:yat,aQ gs []=[]
 |[]=>rfl
 |g::gs=>Dx gs
theorem Dv(a b l:yat):aQ (a++b) l=aQ b (aQ a l):=List.foldl_append
def Jx{G:yat}{j:Nat}(h:aQ (G.take i) F=[])(Wg:i<=j):aQ (G.take j) F=[]:=by grind [List.take_add,Nat.add_sub_cancel',Dv,Dx]
theorem tJ{G F:yat}(d:F ≠ []):∀n,aQ (G.take n) F=[]->∃a,a<n/\(∀j,j<=a->aQ (G.take j) F ≠ [])/\aQ (G.take (a+1)) F=[]
 |0,h=>absurd h d
 |n+1,h=>by by_cases c:aQ (G.take n) F=[];let⟨k,e,a,b⟩:=tJ d n c;calc⟨k,33,a,b⟩;calc⟨n,33,λj a z=>c (Jx z a),h⟩
def tK{G:yat}{k:Nat}{g:Tr}(h:G[k]?=some g):aQ (G.take (k+1)) F=cO g (aQ (G.take k) F):=by rw[List.take_add_one,h,Dv];rfl
def pkV(G:yat)(pk:yag):yas:=pk.map λk=>vc (G.getD k (0,0,0))
def w9(G:yat)(pk:yag)(sh:yaf):Int:=((pk.zip sh).map λz=>(G.getD z.1 (0,0,0)).1*z.2).sum
def iy(G:yat)(a:Nat):List (yag)->Option (yag×yaf)
 |[]=>none
 |o::r=>match lT (pkV G (o++[a]))with
  |some b=>if w9 G (o++[a]) b<0 then some (o++[a],b)else iy G a r
  |none=>iy G a r
set_option tactic.hygienic true in
theorem yw:∀{L:List (yag)} {pk:yag} {sh:yaf},iy G last L=some (pk,sh)->(∃o∈L,pk=o++[last])/\lT (pkV G pk)=some sh/\w9 G pk sh<0
 |[],_,_,h=>by cases h
 |o::r,pk,sh,h=>by
  let b:iy G last r=some (pk,sh)->(∃a∈o::r,pk=a++[last])/\lT (pkV G pk)=some sh/\w9 G pk sh<0:=λh=>by
   let⟨⟨a,m,e⟩,q⟩:=yw h
   cbv
  unfold iy at h;split at h
  ·split at h
   all_goals cbv
  calc b h
theorem rB{a:Nat}:∀{L:List (yag)} {o:yag} {sh:yaf},o∈L->lT (pkV G (o++[a]))=some sh->w9 G (o++[a]) sh<0->∃r,iy G a L=some r
 |[],_,_,m,_,_=>by cases m
 |x::r,o,sh,m,b,a=>by
  ext iy;split;split
  lia
  obtain e|m:=VC.mp m
  lia
  calc rB m b a;obtain e|m:=VC.mp m
  lia
  calc rB m b a
def HJ{p c t v:Int}(b:0<p)(a:0<t)(hv:v<0)(e:p*c=t*v):c<0:=by let h:=Z9 a hv;rw[<- e]at h;calc YI.mp λz=>by have:=V6 (Vz b) z;lia
def S5{p:Tr}(B:EC [vc h,vc g] sh)(h0:0<p.1)(c:gvS h p=0)(gp:gvS g p<0):∃s t,sh=[s,t]/\h.1*s+g.1*t<0:=by
 obtain⟨s,t,rfl⟩:∃s t,sh=[s,t]:=by
  have:=B.len;obtain _|⟨s,_|⟨t,_|⟨u,r⟩⟩⟩:=sh
  all_goals cbv
 let b:=B.sum;unfold wsum vc at b;simp at b;let a:=B.pos t 52;calc⟨s,t,rfl,HJ h0 a gp ?_⟩;unfold gvS at *;grind
def S6{p:Tr}(B:EC [vc h,vc k,vc g] sh)(h0:0<p.1)(c:gvS h p=0)(kp:gvS k p=0)(gp:gvS g p<0):∃s t u,sh=[s,t,u]/\h.1*s+(k.1*t+g.1*u)<0:=by
 obtain⟨s,t,u,rfl⟩:∃s t u,sh=[s,t,u]:=by
  have:=B.len;obtain _|⟨s,_|⟨t,_|⟨u,_|⟨v,r⟩⟩⟩⟩:=sh
  all_goals cbv
 let b:=B.sum;unfold wsum vc at b;simp at b;let a:=B.pos u 52;calc⟨s,t,u,rfl,HJ h0 a gp ?_⟩;unfold gvS at *;grind
def yj{G:yat}{h:Tr}(m:h∈G.take n):∃i,i<n/\G.getD i (0,0,0)=h:=by let⟨i,a,e⟩:=zAx m;rw[zBR]at a;rw[List.getElem_take]at e;calc⟨i,33,by rw[Yu,Wc 33,e];rfl⟩
structure K8(G F B:yat):Prop where
 cor:∀j,Zb (aQ (G.take j) F)/\∀p∈aQ (G.take j) F,Pr p
 inc:∀j X,0<X.1->(∀b∈B,0<=gvS b X)->(∀g∈G.take j,0<=gvS g X)->InC (aQ (G.take j) F) X
 ov:∀j,∀g∈G.take j,∀y∈aQ (G.take j) F,0<=gvS g y
 gb:∀g∈G,vc g≠(0,0)
 ne:F ≠ []
 own:∀j,∀b∈B,∀y∈aQ (G.take j) F,0<=gvS b y
 hd:∃r,G=B++r
def EV(S:K8 G F B)(e:aQ G F=[]) :
  ∃ a,a<#[G]/\(∀j,j<=a->aQ (G.take j) F ≠ [])/\aQ (G.take (a+1)) F=[]/\∃r,iy G a (WO a 1++WO a 2)=some r:=by
 let⟨a,f,k,b⟩:=tJ S.ne #[G] (by rw[zBq];calc e);calc⟨a,f,k,b,?_⟩;let e:=S.cor a;let i:G[a]?=some G[a]:=Wc f;let n:G.getD a (0,0,0)=G[a]:=by rw[Yu,i];rfl
 let c:∀y∈aQ (G.take a) F,gvS G[a] y<0:=λy d=>YI.mp λz=>by let l:=(nj (g:=G[a]) e.1 e.2).1 y (λh hh=>hh y d) z;rw[tK i]at b;exact vA l (e.2 y d).pos b
 let l:=k a (VY _);let⟨g,b⟩:=zBu _ l;let⟨r,k⟩:=S.hd;let p:#[B]<=a:=Nat.not_lt.mp (by
  intro z;let o:a<#[B]:=33
  let m:G[a]∈B:=by
   let q:G[a]?=B[a]?:=by rw[k,zAo o]
   rw[i]at q;exact Xf q.symm
  have:=S.own a _ m g b;have:=c g b
  lia)
 let sub:∀b∈B,b∈G.take a:=λb g=>by rw[k,List.take_append];calc Zo _ ?_;rw[zB9 p];exact g
 let⟨p,B,gp,i⟩:=Gz l (λy d=>(e.2 y d).pos) c (S.ov a) (λX d c=>S.inc a X d (λb g=>c b (sub b g)) c) (S.gb _ (zBZ f));rcases i with⟨h,c,f,e⟩| ⟨h,c,k,m,f,kp,e⟩;let⟨i,w,d⟩:=yj c;let x:pkV G ([i]++[a])=[vc h,vc G[a]]:=by show[vc (G.getD i (0,0,0)),vc (G.getD a (0,0,0))]=_;rw[d,n]
 let l:lT [vc h,vc G[a]]=some (dq [bF (vc G[a]),bF (vc h)]):=TU e;let⟨s,t,y,A⟩:=S5 (Aq 52 l) B f gp;calc rB (o:=[i]) (Zo _ (Bq w)) (by rw[x,l]) ?_;rw[y];show([(G.getD i (0,0,0)).1*s,(G.getD a (0,0,0)).1*t]:yaf).sum<0;rw[d,n];simp;calc A;let⟨i,w,d⟩:=yj c;let⟨j,q,g⟩:=yj m;let m:i≠j:=λz=>by
  rw[z,g]at d;rw[d]at e;unfold wQ at e;have:=sj (vc h)
  lia
 let z:∀(i j:Nat) (h k:Tr),i<j->j<a->G.getD i (0,0,0)=h->G.getD j (0,0,0)=k->gvS h p=0->gvS k p=0->wQ (vc h) (vc k) (vc G[a])->∃r,iy G a (WO a 1++WO a 2)=some r:=λi j h k p q d g f kp e=>by
  let x:pkV G ([i,j]++[a])=[vc h,vc k,vc G[a]]:=by show[vc (G.getD i (0,0,0)),vc (G.getD j (0,0,0)),vc (G.getD a (0,0,0))]=_;rw[d,g,n]
  obtain⟨c,l⟩:∃c,lT [vc h,vc k,vc G[a]]=some c:=by
   show∃c,lS _ _ _=some c;ext lS;split;calc⟨_,rfl⟩;rename_i c;obtain b|b:=e;calc absurd b c;exact⟨_,TU b⟩
  let⟨s,t,u,y,A⟩:=S6 (Aq 52 l) B f kp gp;calc rB (o:=[i,j]) (XF _ (J7 p q)) (by rw[x,l]) ?_;rw[y];show([(G.getD i (0,0,0)).1*s,(G.getD j (0,0,0)).1*t,(G.getD a (0,0,0)).1*u]:yaf).sum<0;rw[d,g,n];simp;exact A
 obtain c|c:=Nat.lt_or_gt_of_ne m;calc z i j h k c q d g f kp e;calc z j i k h c w g d kp f ?_;unfold wQ at e ⊢;let H:=cB (vc h) (vc k);let E:=cB (vc k) (vc G[a]);let C:=cB (vc G[a]) (vc h)
 lia
def Lw{o:yag}(h:o∈WO last 1++WO last 2):#[o]<=2/\∀k∈o,k<last:=by
 obtain q|q:=VS.mp h;calc⟨by rw[(kr q).1];decide,(kr q).2⟩;calc⟨by rw[(kr q).1];decide,(kr q).2⟩
def uw(z:Nat×Int):D:=.tup [.int ((z.1:Nat):Int),.int z.2]
theorem Cj(z:Nat×Int):aJ (uw z)=uw z:=rfl
def F9(zs:List (Nat×Int)):aV (zs.map uw)=zs.map uw:=cK uw Cj zs
theorem yo:∀(pk:yag) (sh:yaf),List.zipWith (λx y=>D.tup [x,y]) (pk.map λ(k:Nat)=>D.int (k:Int)) (sh.map D.int)=(pk.zip sh).map uw
 |[],_=>52
 |_::_,[]=>52
 |k::pk,s::sh=>by rw[Ya,Ya,List.zipWith_cons_cons,yo pk sh,List.zip_cons_cons,Ya];rfl
abbrev Dt:=Int×Int×Int×Int
def Ui(p:Dt):D:=.tup [.int p.1,.int p.2.1,.int p.2.2.1,.int p.2.2.2]
def DU(h:Ui p=Ui q):p=q:=by
 unfold Ui at h
 lia
theorem map_inj{a:Type}{f:a->D}(b:∀{p q},f p=f q->p=q):∀{ps qs:List a},ps.map f=qs.map f->ps=qs
 |[],[],_=>rfl
 |[],_::_,h=>by simp at h
 |_::_,[],h=>by simp at h
 |p::ps,q::qs,h=>by simp at h;rw[b h.1,map_inj b h.2]
def Mo{ps qs:List Dt}(h:ps.map Ui=qs.map Ui):ps=qs:=map_inj DU h
theorem y9(p:Dt):aJ (Ui p)=Ui p:=rfl
def Dh(ps:List Dt):aV (ps.map Ui)=ps.map Ui:=cK Ui y9 ps
structure GD(p:Dt):Prop where
 x:Bd 60 p.1
 y:Bd 60 p.2.1
 c0:0<=p.2.2.1
 c2:p.2.2.1<=2
def uO(col:D)(cs:Int->Bool):Prop:=(col=.UE/\cs=λ_=>true)∨∃ k:Int,col=.int k/\cs=λc=>decide (c=k)
def uO.unt(h:uO col cs):aJ col=col:=by
 rcases h with⟨rfl,_⟩| ⟨k,rfl,_⟩;calc za;calc q0 _
noncomputable def gv(c b a:Int)(p:Dt):Int:=c+b*p.1+a*p.2.1
def w3(c b a s:Int)(ps:List Dt):Int:=(ps.map λp=>if sg (gv c b a p)=s then p.2.2.2 else 0).sum
def wt(cs:Int->Bool)(c b a s:Int)(ps:List Dt):Int:=w3 c b a s (ps.filter λp=>cs p.2.2.1)
noncomputable def tot(cs:Int->Bool)(ps:List Dt):Int:=((ps.filter λp=>cs p.2.2.1).map λp=>p.2.2.2).sum
def Od(c b a s:Int)(ps:List Dt)(p:Dt):w3 c b a s (ps++[p])=w3 c b a s ps+if sg (gv c b a p)=s then p.2.2.2 else 0:=by
 ext w3
 cbv
def sg3(n:Int):sg n=-1∨sg n=0∨sg n=1:=by
 ext sg
 lia
def AE{a:Type}(xs:List a)(lo b:yap):List a:=(xs.drop (HT.Vy #[xs] 0 lo)).take (HT.Vy #[xs] #[xs] b - HT.Vy #[xs] 0 lo)
def JA{a:Type}(f:a->D)(xs:List a)(lo b:yap):PD.cutD (xs.map f) lo b=(AE xs lo b).map f:=by
 ext PD.cutD AE
 cbv
theorem Ss(a b c x:D):putD (κ:=Key) [(.inl (-1),a),(.inl 0,b),(.inl 1,c)] (.inl (-1)) x=[(.inl (-1),x),(.inl 0,b),(.inl 1,c)]:=rfl
theorem Su(a b c x:D):putD (κ:=Key) [(.inl (-1),a),(.inl 0,b),(.inl 1,c)] (.inl 0) x=[(.inl (-1),a),(.inl 0,x),(.inl 1,c)]:=rfl
theorem Sv(a b c x:D):putD (κ:=Key) [(.inl (-1),a),(.inl 0,b),(.inl 1,c)] (.inl 1) x=[(.inl (-1),a),(.inl 0,b),(.inl 1,x)]:=rfl
def p30:((10:Int) ^ (30:Int).toNat)=1000000000000000000000000000000:=23
def E2:tE 10 30:=⟨23,23,23⟩
def GA{x y z:Int}(h:¬(x=0/\y=0/\z=0))(i:Bd n x)(g:Bd n y)(hz:Bd n z):Bd n (PM.VB x y z l):=by
 unfold Bd at *;rw[PM.xj];let c:=zBw.mpr (PM.fu x y z);let b:=zBw.mpr (PM.gN x y z);let a:=zBw.mpr (PM.gO x y z);simp only[Int.natAbs_natCast]at c b a;by_cases f:x=0;by_cases d:y=0;let j:z≠0:=λe=>h ⟨f,d,e⟩
 have:=zCL 33 a
 lia
 have:=zCL 33 b
 lia
 have:=zCL 33 c
 lia
def fP(h:Bd 200 a)(g:Bd 200 b)(f:Bd 200 c)(e:Bd 200 d):Bd 1000 (a*b - c*d):=((h.mul g).sub (f.mul e)).mono 23
def wq(f:Dt->Bool):List Dt->Int
 |[]=>0
 |p::r=>(if f p=true then p.2.2.2 else 0)+wq f r
structure Or(lt:Dt->Dt->Bool):Prop where
 ir:∀p,lt p p=false
 tr:∀p q r,lt p q=true->lt q r=true->lt p r=true
 nt:∀p q r,lt p q=true->lt r q=false->lt p r=true
def tq(p q z:Dt):Int:=(q.1 - p.1)*(z.2.1 - p.2.1) - (q.2.1 - p.2.1)*(z.1 - p.1)
def VZ(p:Dt):Int×Int:=(p.1,p.2.1)
noncomputable def prs(n:Nat):List (Nat×Nat):=(List.range' 0 n).flatMap λi=>(List.range' (i+1) (n - (i+1))).map λk=>(i,k)
def ZM(a:Nat×Nat):D:=.tup [.int a.1,.int a.2]
def NB(h:ZM a=ZM b):a=b:=by unfold ZM at h;grind
theorem K0(a:Nat×Nat):aJ (ZM a)=ZM a:=rfl
def JZ(n:Nat):WO n 2=(prs n).map λa=>[a.1,a.2]:=by
 let b:WO n 1=(List.range' 0 n).map λi=>[i]:=by simp[WO,Za,eT]
 let a:WO n 2=(WO n 1).flatMap (Za n):=rfl;rw[a,b,List.flatMap_map,prs,List.map_flatMap];congr 1
 funext i
 rw[Ww];rfl
theorem D7{i j:Nat}:(i,j)∈prs n↔i<j/\j<n:=by ext prs;grind
def gp(ps:List Dt)(i:Nat):Dt:=ps.getD i (0,0,0,0)
def vt{ps:List Dt}{i:Nat}(h:i<#[ps]):ps[i]?=some (gp ps i):=by ext gp;simp[h]
def mK{ps:List Dt}{i:Nat}(h:i<#[ps]):gp ps i∈ps:=Xf (vt h)
def zP{ps:List Dt}{i:Nat}(h:i<#[ps]){Q:D->Prop}(q:Q (Ui (gp ps i))):∃d,atI (ps.map Ui) (i:Int)=some d/\Q d:=by calc⟨_,?_,q⟩;ext atI ixN;rw[T4,TU 33,TU 33];simp[vt h]
def Pw(a b c d:Int):eqD (.tup [.int a,.int b]) (.tup [.int c,.int d])=decide (a=c/\b=d):=by grind [rG,eJ,nK,gw]
def HN(a b:Int):Yf 1 (.tup [.int a,.int b]):=Yf.tup (.cons (.int _ _) (.cons (.int _ _) (.nil _)))
def Qz(p q:Dt):(!eqD (.tup [.int p.1,.int p.2.1]) (.tup [.int q.1,.int q.2.1]))=decide (VZ p≠VZ q):=by
 rw[Pw];ext VZ
 lia
def sps(ps:List Dt):List (Nat×Nat):=(prs #[ps]).filter λa=>decide (VZ (gp ps a.1)≠VZ (gp ps a.2))
def mR{a:Nat×Nat}:a∈sps ps↔a.1<a.2/\a.2<#[ps]/\VZ (gp ps a.1)≠VZ (gp ps a.2):=by ext sps;grind [D7]
def PW(g f g3:DG)(a b c:D)(ρ:Ro)(Q:Ro->Prop):dZ 3 (br g (br f (br g3 fL))) (.tup [a,b,c]) ρ Q=g a ρ λe=>f b e λd=>g3 c d Q:=by rw[qq 3 _ _ rfl];simp only[gdc,gdn]
def ld(a b:Int):Int:=if a=0 then b else a
def FF(x y z:Int):Tr:=(x.fdiv (PM.VB x y z (ld y z)),y.fdiv (PM.VB x y z (ld y z)),z.fdiv (PM.VB x y z (ld y z)))
def lnF(p q:Dt):Tr:=FF (p.1*q.2.1 - q.1*p.2.1) (p.2.1*1 - q.2.1*1) (1*q.1 - 1*p.1)
structure NF(g:Tr):Prop where
 sgn:0<g.2.1∨(g.2.1=0/\0<g.2.2)
 one:PM.g3 g.1 g.2.1 g.2.2=1
structure LF(g:Tr)(p q:Dt):Prop where
 b0:Bd 1000 g.1
 b1:Bd 1000 g.2.1
 b2:Bd 1000 g.2.2
 nf:NF g
 ex:∃m:Int,m≠0/\∀z,gv g.1 g.2.1 g.2.2 z*m=tq p q z
def zS(c:GD p)(b:GD q)(a:VZ p≠VZ q):LF (lnF p q) p q:=by
 let i:¬(p.2.1*1 - q.2.1*1=0/\1*q.1 - 1*p.1=0):=λf=>(by let⟨e,d⟩:=f;calc a (by ext VZ;grind))
 let a:Bd 200 1:=Bd.mono (m:=2) (by ext Bd;decide) 23;let h:=fP (c.x.mono 33) (b.y.mono 33) (b.x.mono 33) (c.y.mono 33);let g:=fP (c.y.mono 33) a (b.y.mono 33) a;let f:=fP a (b.x.mono 33) a (c.x.mono 33);let b:∀z:Dt,(p.1*q.2.1 - q.1*p.2.1)+(p.2.1*1 - q.2.1*1)*z.1+(1*q.1 - 1*p.1)*z.2.1=tq p q z:=λz=>by ext tq;grind
 ext lnF FF;generalize p.1*q.2.1 - q.1*p.2.1=x at *;generalize p.2.1*1 - q.2.1*1=y at *;generalize 1*q.1 - 1*p.1=w at *;let c:¬(x=0/\y=0/\w=0):=33
 let a:∀l,PM.VB x y w l≠0:=λl=>PM.cS c
 calc⟨cN (a _) (PM.cF (PM.fu _ _ _)) h,cN (a _) (PM.cF (PM.gN _ _ _)) g,cN (a _) (PM.cF (PM.gO _ _ _)) f,⟨?_,PM.BL c⟩,PM.VB x y w (ld y w),a _,λz=>?_⟩;by_cases j:y=0;ext ld
 simp_all [PM.rR,PM.gO]
 ext ld
 simp_all [PM.rR,PM.gN]
 let e:=PM.bL (l:=ld y w) (PM.fu x y w);let d:=PM.bL (l:=ld y w) (PM.gN x y w);let a:=PM.bL (l:=ld y w) (PM.gO x y w);rw[<- b z];ext gv;rw[Int.add_mul,Int.add_mul,e,Int.mul_right_comm,d,Int.mul_right_comm,a]
structure Mp where
 (a b c d e f:Int)
def qt(ps:List Dt):yat:=(sps ps).map λa=>lnF (gp ps a.1) (gp ps a.2)
def wl(ps:List Dt)(g:Tr)(s:Int):Int:=wt (λ_=>true) g.1 g.2.1 g.2.2 s ps
def xt(p q:Tr):Prop:=p.1<q.1∨(p.1=q.1/\(p.2.1<q.2.1∨(p.2.1=q.2.1/\p.2.2<q.2.2)))
def bD(ys a:yat):Prop:=ys.Pairwise xt/\∀g,g∈ys↔g∈a
def bD.nd(h:bD ys ls):ys.Nodup:=h.1.imp fun {p q} r e=>by subst e;unfold xt at r;lia
def trK(g:Tr):yaf:=[g.1,g.2.1,g.2.2]
def LO(a:yat):(a.map trK).map PD.tupI=a.map Ug:=by rw[Ww];rfl
def BQ(ps:List Dt)(g:Tr):D:=.tup [Ug g,.int (wl ps g (-1)),.int (wl ps g 0),.int (wl ps g 1)]
def MY(e:SW.lexLt (trK g) (trK h)=true):xt g h:=by
 unfold trK SW.lexLt at e;ext xt;split at e;unfold SW.lexLt at e;split at e;unfold SW.lexLt at e;split at e;cases e
 cbv
 cbv
 cbv
theorem Ex(e:trK g=trK h):g=h:=by
 unfold trK at e
 lia
theorem HM:∀{zs:List (yaf)},(∀z∈zs,∃g:Tr,z=trK g)->∃ys:yat,zs=ys.map trK
 |[],_=>⟨[],rfl⟩
 |z::zs,h=>by
  let⟨g,e⟩:=h z 58;let⟨ys,b⟩:=HM λz a=>h z (W9 _ a)
  calc⟨g::ys,47⟩
def Ir{a:yat}(h:PD.Ag zs (a.map trK)):∃ys:yat,zs=ys.map trK/\bD ys a:=by
 let⟨c,a⟩:=h;let⟨ys,rfl⟩:=HM λz b=>by let⟨p,_,e⟩:=UQ.mp ((a z).mp b);grind
 calc⟨ys,rfl,(zCK.mp c).imp fun {p q} e=>MY e,λg=>?_⟩;have:=a (trK g);constructor;grind [Ex];grind [Ex]
def gB(h:bD ys ls):#[ys]<=#[ls]:=by let a:=h.nd;calc nQ a λg a=>(h.2 g).mp a
def D4(ps:List Dt):#[qt ps]<=#[ps]*#[ps]:=by
 ext qt sps;rw[T4];calc Xb (zC6 _ _) ?_;let e:=mP #[ps] 2
 simp_all [JZ,T4,Nat.pow_two]
abbrev Wy:=Int×Int
def SF(a b:Wy):tn a (V4 b)=- tn a b:=by ext tn V4;grind
def Rh(a b:Wy):tn (V4 a) b=- tn a b:=by ext tn V4;grind
def IQ(a b c:Wy):tn (a.1+b.1,a.2+b.2) c=tn a c+tn b c:=by ext tn;grind
def N7(w p n o:Wy):tn w n*tn p o=tn w p*tn n o+tn w o*tn p n:=by ext tn;grind
def LN{w:Wy}(h:w≠(0,0)):0<tn w (VH w):=by
 ext tn VH;let⟨a,b⟩:=w;let e:a*a - -b*b=a*a+b*b:=58
 rw[e];let g:=sqn a;let f:=sqn b;by_cases d:a=0;by_cases c:b=0
 lia
 have:b*b≠0:=47
 omega;have:a*a≠0:=47
 omega
def dA(w n o:Wy):Wy:=if 0<tn w o/\0<tn o n then o else n
def Z7(w:Wy)(ws:List Wy):Wy:=ws.foldl (dA w) (VH w)
def t8(w:Wy)(ws:List Wy)(o:Wy):Z7 w (ws++[o])=dA w (Z7 w ws) o:=by ext Z7;rw[List.foldl_append];rfl
theorem Lz:∀(ws done:List Wy) (n:Wy),0<tn w n->(∀o∈done,0<tn w o->tn o n<=0)->0<tn w (ws.foldl (dA w) n)/\∀o∈done++ws,0<tn w o->tn o (ws.foldl (dA w) n)<=0
 |[],done,n,f,e=>47
 |o::ws,done,n,f,e=>by
  let a:0<tn w (dA w n o)/\∀p∈done++[o],0<tn w p->tn p (dA w n o)<=0:=by
   ext dA;by_cases c:0<tn w o/\0<tn o n;rw[TU c];calc⟨c.1,λp b d=>?_⟩;obtain b|b:=VS.mp b;let g:=e p b d;let j:=N7 w p n o;let b:tn n o<0:=by grind [cB]
   let i:tn w p*tn n o<0:=Z9 d b;let h:tn w o*tn p n<=0:=zBU (Vz c.1) g;by_cases z:tn p o<=0;calc z;have:=Xc f (show 0<tn p o by lia)
   lia
   simp_all [sj]
   rw[TM c];grind
  have:=Lz ws (done++[o]) (dA w n o) a.1 a.2
  cbv
def Fh{w:Wy}(h:w≠(0,0)):0<tn w (Z7 w ws)/\∀o∈ws,0<tn w o->tn o (Z7 w ws)<=0:=by calc Lz ws [] (VH w) (LN h) 52
def XT(w:Wy)(ws:List Wy):Wy:=(w.1+(Z7 w ws).1,w.2+(Z7 w ws).2)
noncomputable def Wz(h:Tr)(p:Dt):Wy:=(h.1*p.1 - h.2.1,h.1*p.2.1 - h.2.2)
def upW(h:Tr)(ps:List Dt):List Wy:=(ps.map (Wz h)).filter λw=>decide (w≠(0,0))
def VI(h:Tr)(ps:List Dt):List Wy:=upW h ps++(upW h ps).map V4
def IZ{w:Wy}(a:w∈upW h ps):w≠(0,0):=by
 have:=(ZP.mp a).2
 lia
def OB{w:Wy}(h:w≠(0,0)):V4 w≠(0,0):=λe=>h (by unfold V4 at e;grind)
def jq{w:Wy}(a:w∈VI h ps):w≠(0,0):=by
 obtain z|z:=VS.mp a;calc IZ z;let⟨v,hv,rfl⟩:=UQ.mp z;calc OB (IZ hv)
def OA(w:Wy):V4 (V4 w)=w:=by ext V4;lia
theorem wN{ps:List Dt}{p:Dt}(b:p∈ps)(a:Wz h p≠(0,0)):Wz h p∈VI h ps/\V4 (Wz h p)∈VI h ps:=by have:Wz h p∈upW h ps:=ZP.mpr 58;calc⟨Zo _ this,XF _ 58⟩
def MA{w:Wy}{p:Dt}(c:w∈VI h ps)(d:p∈ps)(a:0<=tn (XT w (VI h ps)) (Wz h p)):0<=tn w (Wz h p):=by
 let⟨f,b⟩:=Fh (ws:=VI h ps) (jq c);unfold XT at a;rw[IQ]at a;by_cases z:0<=tn w (Wz h p);calc z;let a:Wz h p≠(0,0):=λe=>by rw[e]at z;unfold tn at z;simp at z
 let c:=(wN d a).2;let a:=b _ c (by rw[SF];lia);rw[Rh]at a;have:=cB (Z7 w (VI h ps)) (Wz h p)
 lia
def Yn(g:Tr)(ps:List Dt):Int:=(ps.map λp=>if 0<=gv g.1 g.2.1 g.2.2 p then p.2.2.2 else 0).sum
def Zc(h:Tr)(f:Wy):Tr:=(-((VH f).1*h.2.1+(VH f).2*h.2.2),(VH f).1*h.1,(VH f).2*h.1)
def RY(h:Tr)(f:Wy)(p:Dt):gv (Zc h f).1 (Zc h f).2.1 (Zc h f).2.2 p=tn f (Wz h p):=by ext gv Zc VH tn Wz;grind
def LH{ps:List Dt} [DecidablePred P] [DecidablePred Q]:(∀p∈ps,0<=p.2.2.2)->(∀p∈ps,P p->Q p)->(ps.map λp=>if P p then p.2.2.2 else 0).sum<=(ps.map λp=>if Q p then p.2.2.2 else 0).sum:=by
 induction ps with
 |nil=>cbv
 |cons p ps ih =>
  intro c b;rw[Ya,Ya,zCA,zCA];let i:=ih (λq a=>c q (by simp[a])) λq a=>b q (by simp[a])
  grind
def IsL(h:Tr)(ps:List Dt)(g:Tr):Prop:=(VI h ps=[]/\g=(-(1*h.2.1+0*h.2.2),1*h.1,0*h.1)) ∨
 ∃ (i:Nat) (w:Wy),(VI h ps)[i]?=some w/\g=Zc h (XT w (VI h ps))/\∀(j:Nat) (v:Wy),(VI h ps)[j]?=some v->Yn g ps<=Yn (Zc h (XT v (VI h ps))) ps/\(j<i->Yn g ps<Yn (Zc h (XT v (VI h ps))) ps)
def IsL.on(a:IsL h ps g):g.1*h.1+g.2.1*h.2.1+g.2.2*h.2.2=0:=by
 rcases a with⟨_,rfl⟩| ⟨i,w,_,rfl,_⟩;grind;ext Zc;grind
def IsL.ne{h:Tr}(hh:0<h.1)(a:IsL h ps g):¬(g.2.1=0/\g.2.2=0):=by
 rcases a with⟨_,rfl⟩| ⟨i,w,c,rfl,_⟩
 lia
 ·intro ⟨a,d⟩;let b:=Xf c;let⟨c,_⟩:=Fh (ws:=VI h ps) (jq b);unfold Zc VH at a d;let b:(XT w (VI h ps)).2=0:=by
   obtain z|z:=WQ.mp a
   all_goals lia
  let a:(XT w (VI h ps)).1=0:=by
   obtain z|z:=WQ.mp d
   all_goals cbv
  unfold XT at b a;dsimp only at b a;let e:tn w (Z7 w (VI h ps))=tn w (w.1+(Z7 w (VI h ps)).1,w.2+(Z7 w (VI h ps)).2):=by ext tn;grind
  rw[e,b,a]at c;unfold tn at c;simp at c
def Sw(c b a:Int):∀ps:List Dt,wt (λ_=>true) c b a 0 ps+wt (λ_=>true) c b a 1 ps=Yn (c,b,a) ps:=by
 intro ps;ext wt Yn;rw[YQ.mpr (λ_ _=>rfl)];ext w3
 induction ps with
 |nil=>rfl
 |cons p ps ih =>
  simp only[Ya,zCA];rw[<- ih];let e:(if sg (gv c b a p)=0 then p.2.2.2 else 0)+(if sg (gv c b a p)=1 then p.2.2.2 else 0)=if 0<=gv c b a p then p.2.2.2 else 0:=by ext sg;by_cases d:gv c b a p > 0;rw[TU d,TM 23,TU rfl,TU 33];lia;rw[TM d];by_cases d:gv c b a p<0;rw[TU d,TM 23,TM 23,TM 33];lia;rw[TM d,TU rfl,TM 23,TU 33];lia
  rw[<- e]
  lia
def Am{ps:List Dt}{k:Int}{Q:D->Prop}(h0:0<=k)(a:k<#[ps])(h:∀p∈ps,Q (Ui p)):∃d,atI (ps.map Ui) k=some d/\Q d:=Gy h0 (by simpa using a) λd b=>by let⟨x,a,rfl⟩:=UQ.mp b;calc h x a
def p18:((10:Int) ^ (18:Int).toNat)=1000000000000000000:=23
def S4:tE 10 18:=⟨23,23,23⟩
structure HB(h:Tr):Prop where
 pos:0<h.1
 a:Bd 130 h.1
 b:Bd 130 h.2.1
 c:Bd 130 h.2.2
structure XU(w:Wy):Prop where
 a:Bd 191 w.1
 b:Bd 191 w.2
structure GBh(g:Tr):Prop where
 a:Bd 400 g.1
 b:Bd 400 g.2.1
 c:Bd 400 g.2.2
def cmb(b:Bd m x)(a:Bd n y)(d:m<=100000:=by decide)(c:n<=100000:=by decide):CM x y:=.inr (.inr ⟨b.mono d,a.mono c⟩)
def XU.ar(H:HB h)(G:GD p):XU (Wz h p):=⟨(H.a.mul G.x).sub (H.b.mono 23),(H.a.mul G.y).sub (H.c.mono 23)⟩
def XU.bk(h:XU w):XU (V4 w):=⟨h.a.neg,h.b.neg⟩
def XU.lf(h:XU w):XU (VH w):=⟨h.b.neg,h.a⟩
def XU.wa{ps:List Dt}{w:Wy}(H:HB h)(G:∀p∈ps,GD p)(b:w∈VI h ps):XU w:=by
 let a:∀{v:Wy},v∈upW h ps->XU v:=λhv=>by let⟨p,c,rfl⟩:=UQ.mp (ZP.mp hv).1;exact XU.ar H (G p c)
 obtain z|z:=VS.mp b;calc a z;let⟨v,hv,rfl⟩:=UQ.mp z;calc(a hv).bk
theorem XU.nr(b:XU w):∀{ws:List Wy} {n:Wy},XU n->(∀o∈ws,XU o)->XU (ws.foldl (dA w) n)
 |[],_,a,_=>a
 |o::ws,n,a,h=>by
  refine XU.nr b (ws:=ws) ?_ λq b=>h q (by simp[b])
  ext dA;split;calc h o 52;calc a
def GBh.ga{ws:List Wy}(H:HB h)(c:XU w)(hs:∀o∈ws,XU o):Bd 192 (VH (XT w ws)).1/\Bd 192 (VH (XT w ws)).2/\GBh (Zc h (XT w ws)):=by let n:=XU.nr c (ws:=ws) c.lf hs;let a:Bd 192 (XT w ws).1:=c.a.add n.a;let b:Bd 192 (XT w ws).2:=c.b.add n.b;let c:Bd 192 (VH (XT w ws)).1:=b.neg;let b:Bd 192 (VH (XT w ws)).2:=a;calc⟨c,b,((Bd.add (c.mul H.b) (b.mul H.c)).neg).mono 23,(c.mul H.a).mono 23,(b.mul H.a).mono 23⟩
def Oe(h:Tr)(ps:List Dt):#[VI h ps]<=2*#[ps]:=by
 ext VI upW;rw[Xh,T4];have:=zC6 (λw:Wy=>decide (w≠(0,0))) (ps.map (Wz h));rw[T4]at this
 lia
def IS(w n a:Wy):tn n a*TP w w=tn n w*TP w a+TP n w*tn w a:=by ext tn TP;grind
def yX{w:Wy}(b:w≠(0,0))(h:tn w a=0):(0<TP w a->0<tn w n->tn n a<0)/\(TP w a<0->0<tn w n->0<tn n a)/\(0<TP w a->tn w n<0->0<tn n a)/\(TP w a<0->tn w n<0->tn n a<0):=by let e:=IS w n a;rw[h,YS,zB8]at e;let p:=gr b;let q:=cB n w;calc⟨λb c=>?_,λb c=>?_,λb c=>?_,λb c=>?_⟩;have:=zAn (show tn n w<0 by lia) b;by_cases z:tn n a<0;calc z;have:=V6 (show 0<=tn n a by lia) (Vz p);lia;have:=zBJ (show tn n w<0 by lia) b;by_cases z:0<tn n a;calc z;have:=zA3 (show tn n a<=0 by lia) (Vz p);lia;have:=Xc (show 0<tn n w by lia) b;by_cases z:0<tn n a;calc z;have:=zA3 (show tn n a<=0 by lia) (Vz p);lia;have:=Z9 (show 0<tn n w by lia) b;by_cases z:tn n a<0;calc z;have:=V6 (show 0<=tn n a by lia) (Vz p);lia
def QQ{w a:Wy}(b:w≠(0,0))(c:a≠(0,0))(h:tn w a=0):TP w a≠0:=λz=>by
 let e:=IS w (VH a) a;rw[h,z,YS,YS,zB8]at e;let p:=gr b;let q:=LN c;let r:=cB (VH a) a;obtain y|y:=WQ.mp e<;>lia
def aL(v a:Wy):Prop:=0<tn v a
def aB(v a:Wy):Prop:=tn v a=0/\TP v a<0
instance (v a:Wy):Decidable (aL v a):=inferInstanceAs (Decidable (0<tn v a))
instance (v a:Wy):Decidable (aB v a):=inferInstanceAs (Decidable (tn v a=0/\TP v a<0))
def PQ{w:Wy}{p:Dt}(a:w∈VI h ps)(c:p∈ps):0<=tn (XT w (VI h ps)) (Wz h p)↔Wz h p=(0,0)∨aL w (Wz h p)∨aB w (Wz h p):=by
 let⟨d,j⟩:=Fh (ws:=VI h ps) (jq a);let b:=MA a c;by_cases z:Wz h p=(0,0);rw[z];constructor
 cbv
 ext tn;simp;let e:=(wN c z).1;unfold XT at b ⊢;rw[IQ]at b ⊢;let k:=cB (Z7 w (VI h ps)) (Wz h p);constructor;intro q;let g:=b q;by_cases y:0<tn w (Wz h p);calc .inr (.inl y);let b:tn w (Wz h p)=0:=33
 let ps:=yX (n:=Z7 w (VI h ps)) (jq a) b;let i:=QQ (jq a) z b;refine .inr (.inr ⟨b,?_⟩)
 lia
 rintro(y|y|⟨c,b⟩)
 cbv
 let f:0<tn w (Wz h p):=y;grind;have:=(yX (n:=Z7 w (VI h ps)) (jq a) c).2.1 b d
 lia
def sm(P:Wy->Prop) [DecidablePred P] (h:Tr)(ps:List Dt):Int:=(ps.map λp=>if P (Wz h p)then p.2.2.2 else 0).sum
def Ry{w:Wy}(a:w∈VI h ps):V4 w∈VI h ps:=by
 obtain z|z:=VS.mp a;calc XF _ 58;let⟨v,hv,rfl⟩:=UQ.mp z;rw[OA];calc Zo _ hv
abbrev M6:=Int×Int×Int×Int×Int×Int
def Zt(m:M6):D:=.tup [.int m.1,.int m.2.1,.int m.2.2.1,.int m.2.2.2.1,.int m.2.2.2.2.1,.int m.2.2.2.2.2]
def Qv(h:Zt p=Zt q):p=q:=by unfold Zt at h;simp only[D.tup.injEq,List.cons.injEq,D.int.injEq,and_true]at h;let⟨f,e,d,c,b,a⟩:=h;calc ZR f (ZR e (ZR d (ZR c (ZR b a))))
theorem KZ(m:M6):aJ (Zt m)=Zt m:=rfl
def isI:D->Bool
 |.int _=>true
 |_=>false
def isB:D->Bool
 |.bl _=>true
 |_=>false
def R8 (d:D):isT "int" d=(isI d || isB d):=by ext isT;cases d<;>simp only[tyD,isI,isB]<;>decide
def R7 (d:D):isT "bool" d=isB d:=by ext isT;cases d<;>simp only[tyD,isI,isB]<;>decide
def within(d:D)(l m:Int):Bool:=match d with
 |.int i=>decide (l<=i) && decide (i<=m)
 |_=>false
abbrev crd(d:D):Bool:=within d (-999999999999) 999999999999
set_option tactic.hygienic true in
def rD(h:crd d=true):∃i:Int,d=.int i/\Bd 41 i:=by unfold crd within at h;split at h;rename_i i;simp only[zB0,decide_eq_true_eq]at h;calc⟨i,rfl,by ext Bd;lia⟩;cases h
def nI(ys:yar)(k:Nat):Int:=match ys[k]? with
 |some (.int i)=>i
 |_=>0
def dI(d:D):Bool:=match d with
 |.tup a=>decide (#[a]=6) && (a.all crd && decide (nI a 0*nI a 3≠nI a 1*nI a 2))
 |_=>false
theorem zc:∀a:yar,aV a=a.map aJ
 |[]=>by rw[aV];rfl
 |d::r=>by rw[aV,zc r];rfl
def MM(d:D):isI (aJ d)=isI d:=by cases d<;>(rw[aJ]<;>rfl)
def pC(d:D)(l m:Int):within (aJ d) l m=within d l m:=by cases d<;>(rw[aJ]<;>rfl)
def Qy(ys:yar)(k:Nat):nI (ys.map aJ) k=nI ys k:=by
 ext nI;rw[WA];cases ys[k]? with
 |none=>rfl
 |some d=>cases d<;>(simp only[Option.map_some];rw[aJ]<;>rfl)
def tZ(d:D):dI (aJ d)=dI d:=by
 cases d with
 |tup a =>
  rw[aJ,zc];ext dI;simp only[T4,List.all_map,Qy,Function.comp_def,crd,pC]
 |_=>rw[aJ]<;>rfl
def six{ys:yar}(h:#[ys]=6):∃a b c d e f:D,ys=[a,b,c,d,e,f]:=by
 match ys,h with
 |[a,b,c,d,e,f],_=>calc⟨a,b,c,d,e,f,rfl⟩
structure MB(m:M6):Prop where
 a:Bd 41 m.1
 b:Bd 41 m.2.1
 c:Bd 41 m.2.2.1
 d:Bd 41 m.2.2.2.1
 e:Bd 41 m.2.2.2.2.1
 f:Bd 41 m.2.2.2.2.2
 n:m.1*m.2.2.2.1≠m.2.1*m.2.2.1
def inR(i:Int):Bool:=decide (-999999999999<=i) && decide (i<=999999999999)
theorem K9(i:Int):crd (.int i)=inR i:=rfl
def M5:dI (Zt m)=((inR m.1 && (inR m.2.1 && (inR m.2.2.1 && (inR m.2.2.2.1 && (inR m.2.2.2.2.1 && inR m.2.2.2.2.2))))) && decide (m.1*m.2.2.2.1≠m.2.1*m.2.2.1)):=by ext dI Zt;simp only[List.all_cons,List.all_nil,Bool.and_true,K9,nI];rfl
def P4(o n g3 m l k:DG)(a b c d e f:D)(ρ:Ro)(Q:Ro->Prop):dZ 6 (br o (br n (br g3 (br m (br l (br k fL)))))) (.tup [a,b,c,d,e,f]) ρ Q=o a ρ λj=>n b j λi=>g3 c i λp=>m d p λh=>l e h λg=>k f g Q:=by rw[qq 6 _ _ rfl];simp only[gdc,gdn]
def Mt(t:Bool)(ys:yar)(R:yar->Prop):(∃d k xs,[D.lst t ys]=[d]/\c6 d=some (k,xs)/\R xs)=R ys:=by apply propext;constructor;rintro⟨d,k,xs,e,h,q⟩;cases e;cases h;calc q;intro q;calc⟨_,_,_,rfl,rfl,q⟩
def A8{i:Int}(h:i.natAbs<1000000000000):inR i=true:=by
 ext inR;simp only[zB0,decide_eq_true_eq]
 lia
def sx(m:M6)(x y:Int):Int:=m.1*x+m.2.1*y+m.2.2.2.2.1
def sy(m:M6)(x y:Int):Int:=m.2.2.1*x+m.2.2.2.1*y+m.2.2.2.2.2
def bJ(m:M6)(p:Dt):Dt:=(sx m p.1 p.2.1,sy m p.1 p.2.1,p.2.2.1,p.2.2.2)
def lH(m:M6)(p:Dt):Bool:=inR (sx m p.1 p.2.1) && inR (sy m p.1 p.2.1)
def gd(g:Tr)(p:Dt):Int:=gv g.1 g.2.1 g.2.2 p
theorem dH(g:Tr)(p:Dt):gd g p=g.1+g.2.1*p.1+g.2.2*p.2.1:=rfl
def Lp(g:Tr)(p:Dt):gvS g (sT (VZ p))=gd g p:=by ext gvS sT VZ gd gv;grind
def Yi(g:Tr):Tr:=(-g.1,-g.2.1,-g.2.2)
def zO(g:Tr)(p:Dt):gd (Yi g) p=- gd g p:=by ext gd Yi gv;grind
def df(d p:Dt):Sp:=(p.1 - d.1,p.2.1 - d.2.1)
theorem ip{f g:Dt->Bool}:∀{ps:List Dt},(∀p∈ps,0<=p.2.2.2)->(∀p∈ps,f p=true->g p=true)->wq f ps<=wq g ps
 |[],_,_=>YT _
 |p::r,b,h=>by
  let i:=ip (λq a=>b q (W9 _ a)) λq a=>h q 47
  let d:=h p 52;let c:=b p 52;ext wq
  lia
theorem Gd:∀ps:List Dt,wq (λ_=>false) ps=0
 |[]=>rfl
 |_::r=>(zC3 _).trans (Gd r)
def SJ{ps:List Dt}(a:∀p∈ps,0<=p.2.2.2):0<=wq f ps:=by
 have:=ip (f:=λ_=>false) (g:=f) a 33
 simp_all [Gd]
theorem LU:∀{ps:List Dt},0<wq f ps->∃p∈ps,f p=true
 |[],h=>absurd (show(0:Int)<0 from h) 23
 |p::r,h=>by
  by_cases c:f p=true;grind;unfold wq at h
  simp_all [zC3,LU]
theorem Br{c:Type}(f:c->Int)(P:c->Prop):∀{l:List c},(∃a∈l,P a)->∃a∈l,P a/\∀b∈l,P b->f a<=f b
 |[],h=>47
 |x::r,h=>by by_cases c:∃a∈r,P a;let⟨a,g,d,e⟩:=Br f P c;grind;grind
def quant{ps:List Dt}(h:∀p∈ps,0<=p.2.2.2){w:Int}(a:0<w)(i:w<=wq (λp=>decide (gd g p<0)) ps) :
  ∃ d∈ps,gd g d<0/\w<=wq (λp=>decide (gd g p<=gd g d)) ps/\wq (λp=>decide (gd g p<gd g d)) ps<w:=by
 let b:∀c:Int,w<=wq (λp=>decide (gd g p<c)) ps->∃d∈ps,gd g d<c/\w<=wq (λp=>decide (gd g p<=gd g d)) ps:=λc e=>by let⟨l,j,t⟩:=LU (Int.lt_of_lt_of_le a e);let⟨d,a,k,f⟩:=Br (λp=>- gd g p) (λp=>gd g p<c) ⟨l,j,47⟩;calc⟨d,a,k,zC2 e (ip h λp s q=>?_)⟩;grind
 let⟨j,c,n,h⟩:=b 0 i;let⟨d,a,e,f⟩:=Br (gd g) (λd=>w<=wq (λp=>decide (gd g p<=gd g d)) ps) ⟨j,c,h⟩;calc⟨d,a,58,e,YI.mp λz=>?_⟩;let⟨u,o,m,r⟩:=b _ z;grind
structure Cd(L:yat)(d:Dt)(m:Sp)(r:Tr):Prop where
 mem:r∈L∨Yi r∈L
 ex:∃k:Int,0<k/\r.2.1*k=m.1/\r.2.2*k=m.2/\gd r d=0
def Cd.at_(c:Cd L d m r):∃k:Int,0<k/\(∀p:Dt,gd r p*k=TP m (df d p))/\∀h:Tr,gvS r h*k=TP m (h.2.1 - h.1*d.1,h.2.2 - h.1*d.2.1):=by
 let⟨k,e,b,a,f⟩:=c.ex;rw[dH]at f;let c:r.1=- (r.2.1*d.1+r.2.2*d.2.1):=33
 calc⟨k,e,λp=>?_,λh=>?_⟩;rw[dH,c];ext TP df;rw[<- b,<- a];grind;ext gvS TP;rw[c,<- b,<- a];grind
def Cd.neg(c:Cd L d m r):Cd L d (-m.1,-m.2) (Yi r):=by let⟨k,a,d,b,e⟩:=c.ex;calc⟨c.mem.elim (λz=>.inr ?_) .inl,k,a,?_,?_,by simp_all [zO]⟩;show(- -r.1,- -r.2.1,- -r.2.2)∈L;grind;show -r.2.1*k=-m.1;rw[XO,d];show -r.2.2*k=-m.2;rw[XO,b]
def xi(h:tn v m=0):TP v v*TP m u=TP v m*TP v u:=by
 have:TP v v*TP m u=TP v m*TP v u+tn v m*tn v u:=by ext TP tn;grind
 cbv
def wx{a b x y:Int}(d:0<a)(c:0<b)(e:a*x=b*y):(0<=y->0<=x)/\(y<=0->x<=0)/\(y<0->x<0):=by
 calc⟨λh=>?_,λh=>?_,λh=>?_⟩;have:=V6 (Vz c) h;exact ZQ.mp λz=>by have:=Z9 d z;lia
 have:=zBU (Vz c) h;exact ZQ.mp λz=>by have:=Xc d z;lia
 have:=Z9 c h;calc YI.mp λz=>by have:=V6 (Vz d) z;lia
def qj(v u:Sp):tn v (VH u)=TP v u:=by ext tn VH TP;grind
def yL(t:Sp)(V:yas)(h:∃v∈V,tn t v<0):∃v∈V,tn t v<0/\∀w∈V,tn t w<0->tn v w<=0:=by
 let e:∀a b:Sp,tn (a.1,-a.2) (b.1,-b.2)=- tn a b:=λa b=>by ext tn;grind
 let⟨v,hv,i⟩:=h;let⟨u,f,c,b⟩:=nL (t.1,-t.2) (V.map λv=>(v.1,-v.2)) ⟨_,UQ.mpr ⟨v,hv,rfl⟩,47⟩;let⟨d,a,rfl⟩:=UQ.mp f;rw[e]at c;calc⟨d,a,33,λw a g=>?_⟩;have:=b _ (UQ.mpr ⟨w,a,rfl⟩) 47
 cbv
def Q4{ps:List Dt}(i:∀p∈ps,0<=p.2.2.2)(j:∀d∈ps,(∃r,Cd L d (1,0) r)/\(∃r,Cd L d (0,1) r)/\∀p∈ps,df d p≠(0,0)->∃r,Cd L d (VH (df d p)) r)
  {h:Tr} (k:vc g≠(0,0)) (h0:0<h.1) (c:gvS g h=0) {w:Int} (a:0<w) (e:w<=wq (λp=>decide (gd g p<0)) ps) :
  ∃ r,(r∈L∨Yi r∈L)/\wq (λp=>decide (0<gd r p)) ps<w/\w<=wq (λp=>decide (0<=gd r p)) ps/\gvS r h<0:=by
 let⟨d,b,f,A,u⟩:=quant i a e;let⟨⟨t,cx⟩,⟨o,n⟩,M⟩:=j d b;generalize hv:((-g.2.1,-g.2.2):Sp)=v;let b:v.1=-g.2.1:=by rw[<- hv]
 let a:v.2=-g.2.2:=by rw[<- hv]
 let j:v≠(0,0):=λz=>k (by rw[z]at b a;ext vc;rw[show g.2.1=0 by have:(0:Int)=-g.2.1:=b;lia,show g.2.2=0 by have:(0:Int)=-g.2.2:=a;lia])
 let H:=sq_pos j;let l:∀p:Dt,TP v (df d p)=gd g d - gd g p:=λp=>by rw[dH,dH];ext TP df;rw[b,a];grind
 let J:TP v (h.2.1 - h.1*d.1,h.2.2 - h.1*d.2.1)<0:=by
  let e:TP v (h.2.1 - h.1*d.1,h.2.2 - h.1*d.2.1)=h.1*gd g d - gvS g h:=by rw[dH];ext TP gvS;rw[b,a];grind
  rw[e,c,Int.sub_zero];exact Z9 h0 f
 generalize hq:((h.2.1 - h.1*d.1,h.2.2 - h.1*d.2.1):Sp)=q at J;let s:∀(m:Sp) (r:Tr),Cd L d m r->(∀p∈ps,(0<=TP v (df d p)->0<=TP m (df d p))/\(TP v (df d p)<=0->TP m (df d p)<=0))->TP m q<0 →
   ∃ r,(r∈L∨Yi r∈L)/\wq (λp=>decide (0<gd r p)) ps<w/\w<=wq (λp=>decide (0<=gd r p)) ps/\gvS r h<0:=λm r c b f=>by
  let⟨k,a,O,N⟩:=c.at_;let C:∀p,(0<=TP m (df d p)->0<=gd r p)/\(TP m (df d p)<=0->gd r p<=0):=λp=>by have:=wx (x:=gd r p) (y:=TP m (df d p)) a (show(0:Int)<1 by decide) (by rw[YR,O p,zBo]);exact⟨this.1,this.2.1⟩
  let I:=(wx (x:=gvS r h) (y:=TP m q) a (show(0:Int)<1 by decide) (by rw[YR,N h,zBo,hq])).2.2 f;calc⟨r,c.mem,Int.lt_of_le_of_lt (ip i λp f z=>?_) u,zC2 A (ip i λp f z=>?_),I⟩;let a:=zA5 z;calc Ys (YI.mp λy=>?_);have:=(C p).2 ((b p f).2 (by rw[l p];lia))
  lia
  let a:=zA5 z;exact Ys ((C p).1 ((b p f).1 (by rw[l p];lia)))
 generalize hV:([(1,0),(-1,0),(0,1),(0,-1)]++(ps.filter λp=>decide (df d p≠(0,0))).flatMap λp=>[VH (df d p),V4 (VH (df d p))]:yas)=V;let G:(1,0)∈V:=by rw[<- hV];simp
 let l:(-1,0)∈V:=by rw[<- hV];simp
 let w:(0,1)∈V:=by rw[<- hV];simp
 let h:(0,-1)∈V:=by rw[<- hV];simp
 let B:∀p∈ps,df d p≠(0,0)->VH (df d p)∈V/\V4 (VH (df d p))∈V:=λp f b=>by
  let m:p∈ps.filter λp=>decide (df d p≠(0,0)):=ZP.mpr ⟨f,Ys b⟩
  rw[<- hV];exact⟨XF _ (zB2.mpr ⟨p,m,52⟩),XF _ (zB2.mpr ⟨p,m,52⟩)⟩
 let E:∀m∈V,(∃r,Cd L d m r)/\V4 m∈V:=λm f=>by
  let a:=f;rw[<- hV]at a;obtain z|z:=VS.mp a;simp only[VC,zBG,or_false]at z;obtain rfl|rfl|rfl|rfl:=z;calc⟨⟨t,cx⟩,l⟩;calc⟨⟨_,cx.neg⟩,G⟩;calc⟨⟨o,n⟩,h⟩;calc⟨⟨_,n.neg⟩,w⟩;let⟨p,a,x⟩:=zB2.mp z;let⟨g,i⟩:=ZP.mp a;let b:=zA5 i;let⟨r,c⟩:=M p g b;let⟨o,n⟩:=B p g b;simp only[VC,zBG,or_false]at x;obtain rfl|rfl:=x;calc⟨⟨r,c⟩,n⟩;calc⟨⟨_,c.neg⟩,?_⟩;let e:V4 (V4 (VH (df d p)))=VH (df d p):=by ext V4 VH;simp
  rw[e];exact o
 by_cases A:∃m∈V,tn v m=0/\0<TP v m;let⟨m,f,t,a⟩:=A;let⟨⟨r,c⟩,_⟩:=E m f;calc s m r c (λp _=>?_) ?_;have:=wx H a (xi (u:=df d p) t);calc⟨this.1,this.2.1⟩;calc(wx H a (xi (u:=q) t)).2.2 J;let g:∀m∈V,tn v m=0->¬0<TP v m:=λm f t a=>A ⟨m,f,t,a⟩
 let M:tn v (1,0)=-v.2:=by ext tn;grind
 let A:tn v (0,1)=v.1:=by ext tn;grind
 let dx:TP v (1,0)=v.1:=by ext TP;grind
 let L:TP v (-1,0)=-v.1:=by ext TP;grind
 let T:TP v (0,1)=v.2:=by ext TP;grind
 let k:TP v (0,-1)=-v.2:=by ext TP;grind
 let r:tn v (-1,0)=v.2:=by ext tn;grind
 let i:tn v (0,-1)=-v.1:=by ext tn;grind
 let Y:v.1≠0:=λz=>by let a:=g _ w (by rw[A];calc z);let b:=g _ h (by rw[i,z];rfl);rw[T]at a;rw[k]at b;exact j (ZR z (show v.2=0 by lia))
 let U:v.2≠0:=λz=>by let a:=g _ G (by rw[M,z];rfl);let b:=g _ l (by rw[r];calc z);rw[dx]at a;rw[L]at b;exact j (ZR (show v.1=0 by lia) z)
 let j:∀p∈ps,TP v (df d p)=0->df d p=(0,0):=λp f z=>by
  by_cases c:df d p=(0,0);calc c;exfalso;let⟨o,n⟩:=B p f c;let k:tn v (VH (df d p))=0:=by rw[qj];exact z
  let L:tn v (V4 (VH (df d p)))=0:=by
   have:tn v (V4 (VH (df d p)))=- tn v (VH (df d p)):=by ext tn V4;grind
   rw[this,k];rfl
  let a:=g _ o k;let b:=g _ n L;let e:TP v (V4 (VH (df d p)))=- TP v (VH (df d p)):=by ext TP V4;grind
  rw[e]at b;let e:TP v (VH (df d p))=0:=33
  let L:=xi (v:=v) (m:=VH (df d p)) (u:=VH (df d p)) k;rw[e,ZJ]at L;let k:VH (df d p)≠(0,0):=λy=>c (by unfold VH at y;let g:=congrArg Prod.fst y;let e:=congrArg Prod.snd y;dsimp only at g e;calc ZR e (show(df d p).2=0 by lia))
  have:=Xc H (sq_pos k)
  lia
 let⟨e,m2,T,u⟩:=nL v V (by by_cases c:0<v.1;calc⟨_,w,by rw[A];calc c⟩;calc⟨_,h,by rw[i];lia⟩)
 let⟨g,m1,a1,H⟩:=yL v V (by by_cases c:0<v.1;calc⟨_,h,by rw[i];lia⟩;calc⟨_,w,by rw[A];lia⟩)
 let k:∀a b:Sp,tn a (V4 b)=- tn a b:=λa b=>by ext tn V4;grind
 let I:∀p∈ps,(0<=TP v (df d p)->0<=TP e (df d p))/\(TP v (df d p)<=0->TP e (df d p)<=0):=λp f=>by
  by_cases c:df d p=(0,0);rw[c];ext TP;simp;let⟨o,n⟩:=B p f c;let m:=u _ o;let b:=u _ n;rw[k,k]at b;rw[qj,qj]at m b;let nz:TP v (df d p)≠0:=λz=>c (j p f z)
  exact⟨λz=>m 33,λz=>by have:=b 33;lia⟩
 let C:∀p∈ps,(0<=TP v (df d p)->0<=TP g (df d p))/\(TP v (df d p)<=0->TP g (df d p)<=0):=λp f=>by
  by_cases c:df d p=(0,0);rw[c];ext TP;simp;let⟨o,n⟩:=B p f c;let m:=H _ o;let b:=H _ n;rw[k,k]at b;rw[qj,qj]at m b;let nz:TP v (df d p)≠0:=λz=>c (j p f z)
  exact⟨λz=>by have:=b 33;lia,λz=>m 33⟩
 let⟨⟨j,o⟩,_⟩:=E e m2;let⟨⟨n,p⟩,m⟩:=E g m1;let t12:0<=tn g e:=by
  have:=u _ m (by rw[k];lia);rw[k]at this;have:=cB g e
  lia
 let b:∀a∈V,0<tn v a->tn g e=0->tn e a=0:=λa d f z=>by
  let h1:=u a d f;let f:=H _ (E a d).2 (by rw[k];lia);rw[k]at f;let d:tn v g*tn e a=tn v e*tn g a - tn v a*tn g e:=plk v g e a;rw[z,YS,Int.sub_zero]at d;let f:=V6 (Vz T) (show 0<=tn g a by lia);by_cases y:tn e a=0;calc y;let d:=zAn a1 (show 0<tn e a by lia)
  lia
 let t:0<tn g e:=by
  by_cases z:tn g e=0;exfalso;let O:tn e (1,0)=-e.2:=by ext tn;grind
  let N:tn e (0,1)=e.1:=by ext tn;grind
  let L:tn e (-1,0)=e.2:=by ext tn;grind
  let e4:tn e (0,-1)=-e.1:=by ext tn;grind
  let x:e.2=0:=by
   by_cases c:0<v.2;have:=b _ l (by rw[r];calc c) z
   lia
   have:=b _ G (by rw[M];lia) z
   lia
  let a:e.1=0:=by
   by_cases c:0<v.1;have:=b _ w (by rw[A];calc c) z
   lia
   have:=b _ h (by rw[i];lia) z
   lia
  have:tn v e=0:=by ext tn;rw[a,x];simp
  lia
  lia
 let Q:tn g e*TP v q=tn v e*TP g q+- tn v g*TP e q:=by ext tn TP;grind
 by_cases c:TP e q<0;calc s e j o I c;calc s g n p C (YI.mp λz=>?_);let f:=Z9 t J;let d:=V6 (Vz T) z;let x3:=V6 (show 0<=- tn v g by lia) (show 0<=TP e q by lia)
 lia
noncomputable def axL(ps:List Dt):yat:=ps.map (λp=>(-p.1,1,0))++ps.map λp=>(-p.2.1,0,1)
abbrev Zu:=Tr×Int×Int
def cA(x:Zu):D:=.tup [Ug x.1,.int x.2.1,.int x.2.2]
def Kt(h:cA x=cA y):x=y:=by unfold cA at h;grind [Prod.ext,Ew]
def Ku{xs ys:List Zu}(h:xs.map cA=ys.map cA):xs=ys:=jk Kt h
theorem zb(x:Zu):aJ (cA x)=cA x:=rfl
def Di(xs:List Zu):aV (xs.map cA)=xs.map cA:=cK cA zb xs
def FD(ps:List Dt)(g:Tr):List Zu:=[(g,wl ps g 1,wl ps g 1+wl ps g 0),(Yi g,wl ps g (-1),wl ps g (-1)+wl ps g 0)]
def bT(ps:List Dt)(zs:yat):List Zu:=zs.flatMap (FD ps)
noncomputable def cP(xs:List Zu)(w:Int):yat:=(xs.filter λx=>decide (x.2.1<w/\w<=x.2.2)).map (·.1)
def aF(ps:List Dt):Int:=tot (λ_=>true) ps
def rA(ps:List Dt):aF ps=wq (λ_=>true) ps:=by
 ext aF tot
 induction ps with
 |nil=>rfl
 |cons p r ih=>ext wq;cbv
theorem LQ(c b a s:Int):∀ps:List Dt,w3 c b a s ps=wq (λp=>decide (sg (gv c b a p)=s)) ps
 |[]=>rfl
 |p::r=>by let ih:=LQ c b a s r;unfold w3 at ih ⊢;ext wq;grind
def sr(ps:List Dt)(g:Tr)(s:Int):wl ps g s=wq (λp=>decide (sg (gd g p)=s)) ps:=by ext wl wt;rw[YQ.mpr 47,LQ];rfl
theorem rj{f g k:Dt->Bool}:∀{ps:List Dt},(∀p∈ps,k p=(f p || g p))->(∀p∈ps,¬(f p=true/\g p=true))->wq f ps+wq g ps=wq k ps
 |[],_,_=>rfl
 |p::r,h,b=>by
  let ih:=rj (λq a=>h q 47) λq a=>b q (W9 _ a)
  let e:=h p 52;let n:=b p 52;ext wq
  lia
def Cp(g:Tr)(ps:List Dt):wq (λp=>decide (gd g p<0)) ps+wq (λp=>decide (0<=gd g p)) ps=aF ps:=by
 rw[rA];refine rj (λp _=>?_) 33
 lia
theorem IF(a:Int):sg a=1↔0<a:=by ext sg;lia
theorem IE(a:Int):sg a=0↔a=0:=by ext sg;lia
theorem Ep(a:Int):sg a=-1↔a<0:=by ext sg;lia
def Rk(ps:List Dt)(g:Tr):wl ps g 1=wq (λp=>decide (0<gd g p)) ps:=by simp_all [sr,IF]
def Rl(ps:List Dt)(g:Tr):wl ps g (-1)=wq (λp=>decide (0<gd (Yi g) p)) ps:=by simp_all [sr,zO,Ep]
def LR(ps:List Dt)(g:Tr):wl ps g 1+wl ps g 0=wq (λp=>decide (0<=gd g p)) ps:=by
 rw[sr,sr];refine rj (λp _=>?_) λp _=>?_
 grind [IF,IE]
 lia
def LS(ps:List Dt)(g:Tr):wl ps g (-1)+wl ps g 0=wq (λp=>decide (0<=gd (Yi g) p)) ps:=by
 rw[sr,sr];refine rj (λp _=>?_) λp _=>?_
 rw[zO];grind [Ep,IE]
 lia
theorem vK(g:Tr):Yi (Yi g)=g:=by ext Yi;simp
def ku{r:Tr}(hz:bD zs L):r∈cP (bT ps zs) w↔(r∈L∨Yi r∈L)/\wq (λp=>decide (0<gd r p)) ps<w/\w<=wq (λp=>decide (0<=gd r p)) ps:=by
 constructor;intro h;let⟨x,a,rfl⟩:=UQ.mp h;let⟨d,c⟩:=ZP.mp a;let⟨g,b,a⟩:=zB2.mp d;let Y8:=zA5 c;unfold FD at a;simp at a;obtain rfl|rfl:=a;calc⟨.inl ((hz.2 g).mp b),by simp_all [Rk],by simp_all [LR]⟩;calc⟨.inr (by rw[vK];calc(hz.2 g).mp b),by simp_all [Rl],by simp_all [LS]⟩;rintro⟨h|h,d,c⟩;calc UQ.mpr ⟨(r,wl ps r 1,wl ps r 1+wl ps r 0),ZP.mpr ⟨zB2.mpr ⟨r,(hz.2 r).mpr h,by ext FD;simp⟩,Ys ?_⟩,rfl⟩;rw[LR,Rk]
 cbv
 calc UQ.mpr ⟨(Yi (Yi r),wl ps (Yi r) (-1),wl ps (Yi r) (-1)+wl ps (Yi r) 0),ZP.mpr ⟨zB2.mpr ⟨Yi r,(hz.2 _).mpr h,by ext FD;simp⟩,Ys ?_⟩,vK r⟩;rw[LS,Rl,vK]
 cbv
def rS(w:Int):#[bT ps zs]=2*#[zs]/\#[cP (bT ps zs) w]<=2*#[zs]:=by
 let e:#[bT ps zs]=2*#[zs]:=by
  ext bT
  induction zs with
  |nil=>rfl
  |cons g r ih=>rw[zCy,Xh,ih,ZH];show 2+_=_;lia
 ext cP;grind
structure bS(ps:List Dt):Prop where
 gd:∀p∈ps,GD p
 bx:∀p∈ps,Bd 40 p.1/\Bd 40 p.2.1
 w:∀p∈ps,0<p.2.2.2
 le:#[ps]<=8
 ne:ps ≠ []
def bS.l20(D:bS ps):#[ps]<=20:=Xb D.le 23
def bS.nn(D:bS ps):∀p∈ps,0<=p.2.2.2:=λp a=>Vz (D.w p a)
abbrev Xn(ps:List Dt):yat:=qt ps++axL ps
def xv{ps:List Dt}(h:#[ps]<=20):#[Xn ps]<=440:=by let b:=D4 ps;let a:#[ps]*#[ps]<=20*20:=Nat.mul_le_mul h h;ext Xn axL;grind
def Fe(F:LF g p q):∃m:Int,m≠0/\p.1*q.2.1 - q.1*p.2.1=m*g.1/\p.2.1 - q.2.1=m*g.2.1/\q.1 - p.1=m*g.2.2/\∀z,gd g z*m=tq p q z:=by let⟨m,b,a⟩:=F.ex;let e:=a (0,0,0,0);let d:=a (1,0,0,0);let c:=a (0,1,0,0);unfold gv tq at e d c;calc⟨m,b,?_,?_,?_,a⟩<;>grind
def ME{p q:Dt}(b:Bd 40 p.1/\Bd 40 p.2.1)(a:Bd 40 q.1/\Bd 40 q.2.1)(e:GD p)(d:GD q)(c:VZ p≠VZ q):GB3 40 (lnF p q)/\vc (lnF p q)≠(0,0):=by
 let F:=zS e d c;let⟨m,c,i,h,g,_⟩:=Fe F;let d:vc (lnF p q)≠(0,0):=λz=>by
  let f:=congrArg Prod.fst z;let e:=congrArg Prod.snd z;unfold vc at f e;have:=F.nf.sgn
  lia
 calc⟨⟨λz=>d (by ext vc;rw[z]),mH c i ?_,mH c h ?_,mH c g ?_⟩,d⟩;calc((b.1.mul a.2).sub (a.1.mul b.2)).mono 23;calc b.2.sub a.2;calc a.1.sub b.1
def PV(G:GB3 n g)(h:vc g≠(0,0)):GB3 n (Yi g)/\vc (Yi g)≠(0,0):=by
 let a:vc (Yi g)≠(0,0):=λz=>h (by let c:=congrArg Prod.fst z;let b:=congrArg Prod.snd z;unfold vc Yi at c b;ext vc;grind)
 calc⟨⟨λz=>a (by ext vc;rw[z]),G.c.neg,G.a.neg,G.b.neg⟩,a⟩
def AY(D:bS ps):∀g∈Xn ps,GB3 40 g/\vc g≠(0,0):=λg m=>by
 obtain z|z:=VS.mp m;let⟨l,n,rfl⟩:=UQ.mp z;let⟨a,b,c⟩:=mR.mp n;let i:=mK (show l.1<#[ps] by lia);let f:=mK b;calc ME (D.bx _ i) (D.bx _ f) (D.gd _ i) (D.gd _ f) c;let d:∀k:Int,Bd 1 k->Bd 41 k:=λk h=>h.mono 23
 obtain z|z:=VS.mp z<;>let⟨p,j,rfl⟩:=UQ.mp z;calc⟨⟨33,((D.bx p j).1.neg).mono 23,d 1 (by ext Bd;decide),d 0 (by ext Bd;decide)⟩,λe=>absurd (show(1:Int)=0 from congrArg Prod.fst e) 23⟩;calc⟨⟨33,((D.bx p j).2.neg).mono 23,d 0 (by ext Bd;decide),d 1 (by ext Bd;decide)⟩,λe=>absurd (show(1:Int)=0 from congrArg Prod.snd e) 23⟩
def Mb(D:bS ps):∀d∈ps,(∃r,Cd (Xn ps) d (1,0) r)/\(∃r,Cd (Xn ps) d (0,1) r)/\∀p∈ps,df d p≠(0,0)->∃r,Cd (Xn ps) d (VH (df d p)) r:=λd f=>by
 calc⟨⟨(-d.1,1,0),.inl ?_,1,23,rfl,rfl,by grind [dH]⟩,⟨(-d.2.1,0,1),.inl ?_,1,23,rfl,rfl,by grind [dH]⟩,λp n a=>?_⟩;calc XF _ (Zo _ (UQ.mpr ⟨d,f,rfl⟩));calc XF _ (XF _ (UQ.mpr ⟨d,f,rfl⟩));let b:VZ d≠VZ p:=λe=>a (by
  unfold VZ at e;let l:=congrArg Prod.fst e;let k:=congrArg Prod.snd e;ext df
  cbv)
 let a:∀(g:Tr) (m:Int),g∈Xn ps->m≠0->m*g.2.1=(VH (df d p)).1->m*g.2.2=(VH (df d p)).2->gd g d=0->∃r,Cd (Xn ps) d (VH (df d p)) r:=λg m i e l k h=>by by_cases c:0<m;calc⟨g,.inl i,m,c,58,58,h⟩;calc⟨Yi g,by grind [vK],-m,33,?_,?_,by simp_all [zO]⟩;show -g.2.1*-m=_;grind;show -g.2.2*-m=_;grind
 let⟨i,g,w⟩:=zAx f;let⟨j,o,u⟩:=zAx n;let t:gp ps i=d:=by have:=vt g;grind
 let s:gp ps j=p:=by have:=vt o;grind
 obtain c|c|c:=zCf i j;let o:(i,j)∈sps ps:=mR.mpr 47;let F:=zS (D.gd d f) (D.gd p n) b;let⟨m,e,q,l,k,h⟩:=Fe F;calc a (lnF d p) m (Zo _ (UQ.mpr 58)) e ?_ ?_ ?_;rw[<- l];ext VH df;lia;rw[<- k];rfl;have:=h d;rw[show tq d p d=0 by ext tq;grind]at this;exact(WQ.mp this).resolve_right e
 lia
 let o:(j,i)∈sps ps:=mR.mpr ⟨c,g,33⟩;let F:=zS (D.gd p n) (D.gd d f) b.symm;let⟨m,e,q,l,k,h⟩:=Fe F;calc a (lnF p d) (-m) (Zo _ (UQ.mpr 58)) 33 ?_ ?_ ?_;rw[XO,<- l];ext VH df;dsimp only;rw[XO,<- k];ext VH df;lia;have:=h d;rw[show tq p d d=0 by ext tq;grind]at this;calc(WQ.mp this).resolve_right e
def Exp(l:yat):Prop:=∀y∈l,∃e:Tr,gvS e y=0/\∀p∈l,p≠y->0<gvS e p
def Exp.sub{k:yat}(h:Exp l)(s:∀x∈k,x∈l):Exp k:=λy a=>by let⟨e,c,b⟩:=h y (s y a);calc⟨e,c,λp a=>b p (s p a)⟩
def vw(d g x:Tr):gvS (d.1+g.1,d.2.1+g.2.1,d.2.2+g.2.2) x=gvS d x+gvS g x:=by ext gvS;grind
def Ia(b:Pr x)(a:Pr y)(h:gvS d x=0)(f:gvS g x=0)(e:gvS d y=0)(c:gvS g y=0)(n:T1 d g≠(0,0,0)):x=y:=by rw[qv b h f n,qv a e c n]
theorem Ds{R:Tr->Tr->Prop}:∀{l:yat},(∀a b A B,l=A++a::b::B->R a b)->YG R l
 |[],_=>True.intro
 |[_],_=>True.intro
 |a::b::r,h=>⟨h a b [] r rfl,Ds λx y A B e=>h x y (a::A) B (by rw[e];rfl)⟩
def N8{l:yat}{z:Tr}(hz:l=l.dropLast++[z])(XI:Zb l):YG (λa b=>∀x∈l,0<=VR a b x) (z::l):=by
 let c:Zb (z::l):=by rw[hz]at XI ⊢;exact y8 XI
 refine Ds λa b A B e x f=>?_
 let d:x∈A++a::b::B:=by rw[<- e];exact W9 _ f
 obtain m|m:=VS.mp d;let s:List.Sublist [x,a,b] (z::l):=by rw[e];exact List.Sublist.append (zBY.mpr m) (List.Sublist.cons_cons _ (List.Sublist.cons_cons _ (List.nil_sublist _)))
 have:=c x a b s;rw[dR]at this;calc this;obtain rfl|m:=VC.mp m;rw[kh];calc YT _;obtain rfl|m:=VC.mp m;rw[ki];calc YT _;let s:List.Sublist [a,b,x] (z::l):=by rw[e];exact(List.Sublist.cons_cons _ (List.Sublist.cons_cons _ (zBY.mpr m))).trans (zBW _ _)
 calc c a b x s
def Jz(d g:Tr)(h:T1 d g=(0,0,0))(p:Tr)(a:gvS d p=0)(b:d≠(0,0,0)):gvS g p=0:=by by_cases c:gvS g p=0;calc c;calc absurd h (GV b a c)
def Jw(XI:Zb l)(k:∀p∈l,Pr p)(q:Exp l):Exp (cO g l):=by
 ext cO;cases hz:l.getLast? with
 |none=>calc λy i=>(by cases i)
 |some z =>
  dsimp only;let E:=tV hz;let a:z∈l:=zCi hz;let sub:∀x∈YL [] (aK g (cD g) z l),x∈aK g (cD g) z l:=λx h=>(rE _ _).subset h
  calc Exp.sub ?_ sub;let p:∀x∈z::l,Pr x:=λx h=>(VC.mp h).elim (λe=>e ▸ k z a) (k x)
  let d:∀x∈z::l,0<x.1:=λx h=>(p x h).pos
  let f:∀x,x∈z::l->x∈l:=λx h=>(VC.mp h).elim (λe=>e ▸ a) id
  let c:=fun {y:Tr} (i:y∈aK g (cD g) z l)=>pB l z i
  let G:=rh (mF g) l z d;let r:∀y∈aK g (cD g) z l,Pr y:=λy i=>by
   obtain m|⟨a,b,n,j,_,o,rfl,_⟩:=c i;calc k y m;exact GH (d a n) (d b (W9 _ j)) o
  intro y i;obtain m|⟨a,b,n,j,_,o,I,L⟩:=c i;let⟨e,B,u⟩:=q y m;calc⟨e,B,λq m A=>?_⟩;obtain c|⟨a,b,n,j,_,o,rfl,_⟩:=c m;calc u q c A;let⟨⟨k,s,t,C⟩,_⟩:=mF g a b (d a n) (d b (W9 _ j)) o;let J:=C.gv e;let w:∀x∈l,0<=gvS e x:=λx h=>by by_cases c:x=y;rw[c,B];calc YT _;exact Vz (u x h c)
  let H:=w a (f a n);let B:=w b j;let w:a≠y∨b≠y:=by
   by_cases c:a=y
   right
   intro M;rw[c,M]at o;have:=sqn (gvS g y)
   lia
   exact .inl c
  let y:0<s*gvS e a+t*gvS e b:=by
   let O:=V6 (Vz C.s0) H;let N:=V6 (Vz C.t0) B;obtain c|c:=w;have:=Xc C.s0 (u a (f a n) c);lia;have:=Xc C.t0 (u b j c);lia
  rw[<- J]at y;calc Int.pos_of_mul_pos_right y C.m0;let w:=d a n;let u:=d b (W9 _ j);let⟨⟨k,s,t,C⟩,e⟩:=mF g a b w u o;let s:=L _ (N8 E XI);let k:∀q∈aK g (cD g) z l,0<=gvS (T1 a b) q:=pA (mF g) l z d λx h=>s x (f x h)
  let h:gvS (T1 a b) a=0:=kh a b;let d:gvS (T1 a b) b=0:=ki a b;let f:gvS (T1 a b) (cD g a b)=0:=C.zero h d;let l:T1 a b≠(0,0,0):=λd=>by
   have:=kG (p a n) (p b (W9 _ j)) d;rw[this]at o;have:=sqn (gvS g b)
   lia
  let j:T1 (T1 a b) g≠(0,0,0):=λd=>by
   have:=Jz _ _ d a h l;rw[this,ZJ]at o
   lia
  rw[I]at i ⊢;calc⟨((T1 a b).1+g.1,(T1 a b).2.1+g.2.1,(T1 a b).2.2+g.2.2),by rw[vw,f,e];rfl,λq m A=>?_⟩;rw[vw];let T:=k q m;let Q:=G q m;by_cases c:gvS (T1 a b) q=0/\gvS g q=0;calc absurd (Ia (r q m) (r _ i) c.1 c.2 f e j) A;have:¬(gvS (T1 a b) q=0/\gvS g q=0):=c
  lia
def vh(c:Exp l){x y z:Tr}(b:x∈l)(a:y∈l)(hz:z∈l)(i:x≠y)(g:x≠z)(d:y≠z):VR x y z≠0:=λp=>by
 let⟨e,o,l⟩:=c x b;let⟨f,n,k⟩:=c y a;let⟨h,m,j⟩:=c z hz;let id:(gvS e y*gvS f z - gvS e z*gvS f y)*gvS h x+(gvS e z*gvS f x - gvS e x*gvS f z)*gvS h y+(gvS e x*gvS f y - gvS e y*gvS f x)*gvS h z=VR e f h*VR x y z:=by ext VR gvS T1;grind
 rw[p,o,n,m,YS,YS,ZJ,YS,Int.sub_zero,Int.sub_zero,zB8]at id;let r:=Xc (Xc (l y a (Ne.symm i)) (k z hz (Ne.symm d))) (j x b g);let q:=Xc (Xc (l z hz (Ne.symm g)) (k x b i)) (j y a d)
 lia
theorem Dw{a Z:yat}(c:∀e∈a,GB3 n e)(b:∀e∈a,∀g∈a,Zm (T1 e g)∈Z):∀(gs l:yat),(∀g∈gs,g∈a)->Cor n a Z l->Exp l->Exp (aQ gs l)
 |[],_,_,_,e=>e
 |g::gs,l,h,C,e=>Dw c b gs (cO g l) (λx a=>h x (W9 _ a)) (Ay c (h g 52) (λe a=>b e a g (h g 52)) C) (Jw C.XI C.pr e)
def tT(h:bC ys ps):Exp ((aM ys).map sT)/\(aM ys).Nodup:=by
 let yl:=nR h;let⟨o,hm⟩:=h;ext aM;by_cases c:#[ys]<2;rw[TU c];obtain _|⟨y,_|⟨z,r⟩⟩:=ys;calc⟨λ_ h=>(by cases h),List.nodup_nil⟩;calc⟨λa ha=>⟨(0,0,0),by ext gvS;simp,λp d J=>?_⟩,52⟩;rw[Ya,zDM,Yv]at ha d;calc absurd (d.trans ha.symm) J;calc absurd c 52;rw[TM c];let⟨A,n,m,ll,lu,Q,nl,hn,hm,L,U,eM,e0,gu,gl,hl⟩:=tU o hm c;generalize aG ys=l at *;generalize aG ys.reverse=u at *;let gm:∀{w:yas} {i:Nat} (f:i<#[w]),w.getD i (0,0)=w[i]:=fun {w i} f=>by rw[Yu,Wc f];rfl
 let G:∀a b p:Sp,gvS (bX a b) (sT p)=cr a b p:=λa b p=>by rw[bP];ext gvS bX sT;grind
 let H:∀a y b:Sp,(∀p∈ps,0<=cr a y p)->(∀p∈ps,0<=cr y b p)->0<cr a y b->∃e:Tr,gvS e (sT y)=0/\∀p∈ps,p≠y->0<gvS e (sT p):=λa y b h1 h2 hb=>by
  calc⟨((bX a y).1+(bX y b).1,(bX a y).2.1+(bX y b).2.1,(bX a y).2.2+(bX y b).2.2),?_,λp d J=>?_⟩;rw[vw,(nu a y).2,(nu y b).1];rfl;rw[vw,G,G];let x1:=h1 p d;let x2:=h2 p d;by_cases z:cr a y p=0/\cr y b p=0;exfalso;apply J;let⟨j,g⟩:=z;rw[bP]at j g hb;let q:(p.1 - y.1)*((y.1 - a.1)*(b.2 - a.2) - (y.2 - a.2)*(b.1 - a.1))=0:=58
  let k:(p.2 - y.2)*((y.1 - a.1)*(b.2 - a.2) - (y.2 - a.2)*(b.1 - a.1))=0:=58
  let y1:=(WQ.mp q).resolve_right 33;let y2:=(WQ.mp k).resolve_right 33;exact ZR 33 33
  lia
 let I:∀(t s:Int) (y:Sp),y∈ps->(∀p∈ps,fA t s y<=fA t s p)->(∀p∈ps,fA t s p=fA t s y->p=y)->∃e:Tr,gvS e (sT y)=0/\∀p∈ps,p≠y->0<gvS e (sT p):=λt s y hy lo ij=>by
  let e:∀p:Sp,gvS (- fA t s y,t,s) (sT p)=fA t s p - fA t s y:=λp=>by ext gvS sT fA;grind
  calc⟨(- fA t s y,t,s),by rw[e,Int.sub_self],λp d J=>?_⟩;rw[e];have:=lo p d;have:fA t s p≠fA t s y:=λz=>J (ij p d z)
  lia
 let ex0:=I A 1 (l.getD 0 (0,0)) (L.mem 0 (zCI _)) L.lo λp d e=>Q p d _ (L.mem 0 (zCI _)) e
 let exM:=I (-A) (-1) (u.getD 0 (0,0)) (U.mem 0 (zCI _)) U.lo λp d e=>Q p d _ (U.mem 0 (zCI _)) (by rw[cT,cT]at e;lia)
 let Y:∀i,i<n+1->∃e:Tr,gvS e (sT (l.getD i (0,0)))=0/\∀p∈ps,p≠l.getD i (0,0)->0<gvS e (sT p):=λi f=>by
  cases i with
  |zero=>calc ex0
  |succ i=>exact H _ _ _ (L.VW i 33) (L.VW (i+1) 33) (L.Y0 i 33)
 let exU:∀i,i<m+1->∃e:Tr,gvS e (sT (u.getD i (0,0)))=0/\∀p∈ps,p≠u.getD i (0,0)->0<gvS e (sT p):=λi f=>by
  cases i with
  |zero=>calc exM
  |succ i=>exact H _ _ _ (U.VW i 33) (U.VW (i+1) 33) (U.Y0 i 33)
 let E:∀x∈l.dropLast,∃i,i<n+1/\l.getD i (0,0)=x:=λx T=>by let⟨i,f,e⟩:=zDA.mp T;rw[zBp,hn]at f;rw[List.getElem_dropLast]at e;exact⟨i,33,by rw[gm 33];calc e⟩
 let C:∀x∈u.dropLast,∃i,i<m+1/\u.getD i (0,0)=x:=λx T=>by let⟨i,f,e⟩:=zDA.mp T;rw[zBp,hm]at f;rw[List.getElem_dropLast]at e;exact⟨i,33,by rw[gm 33];calc e⟩
 let O:∀{A B:Int} {w:yas} {k:Nat},#[w]=k->Way A B ps k (λi=>w.getD i (0,0))->w.Nodup:=fun {A B w k} hk W=>by
  refine zBC.mpr λi j f hj g e=>?_
  have:=W.rise i j g 33;rw[gm f,gm hj,e]at this
  lia
 calc⟨λy hy=>?_,zCc.mpr ⟨(O hn L).sublist (zC4 _),(O hm U).sublist (zC4 _),λx T y hy g=>?_⟩⟩;let⟨q,hq,rfl⟩:=UQ.mp hy;have:∃e:Tr,gvS e (sT q)=0/\∀p∈ps,p≠q->0<gvS e (sT p):=by
  obtain z|z:=VS.mp hq;let⟨i,f,rfl⟩:=E q z;calc Y i f;let⟨i,f,rfl⟩:=C q z;exact exU i f
 let⟨e,h0,d⟩:=this;calc⟨e,h0,λp pm J=>?_⟩;let⟨r,hr,rfl⟩:=UQ.mp pm;refine d r ?_ λz=>J (by rw[z])
 obtain z|z:=VS.mp hr;let⟨i,f,rfl⟩:=E r z;calc L.mem i 33;let⟨i,f,rfl⟩:=C r z;exact U.mem i 33
 ·let⟨i,f,ei⟩:=E x T;let⟨j,hj,ej⟩:=C y hy;rw[<- ei,<- ej]at g;let N:=L.rise i (n+1) 33 33;let M:=U.rise j (m+1) 33 33
  try dsimp only at N M
  rw[eM]at N;rw[e0,cT,cT]at M;by_cases i0:i=0;subst i0;rw[g]at M
  lia
  ·by_cases j0:j=0;subst j0;rw[g]at N
   lia
   ·let t1:=sk L (i:=0) (j:=i) (k:=n+1) 33 33 33;let t2:=sk U (i:=0) (j:=j) (k:=m+1) 33 33 33
    try dsimp only at t1 t2
    rw[eM,g]at t1;rw[e0]at t2;let⟨e,h0,d⟩:=Y i f;rw[g]at h0 d;rw[<- g]at M;rw[g]at N M;let p1:=d _ (L.mem 0 33) λz=>by
     try dsimp only at z
     rw[<- z]at M
     lia
    let p2:=d _ (U.mem 0 33) λz=>by
     try dsimp only at z
     rw[<- z]at N
     lia
    try dsimp only at p1 p2
    generalize u.getD j (0,0)=y at *;generalize l.getD 0 (0,0)=a at *;generalize u.getD 0 (0,0)=b at *;let an:cr b y a=- cr a y b:=by rw[bP,bP];grind
    let z:cr a y b=0:=33
    let id:(fA A 1 b - fA A 1 a)*gvS e (sT y)=(fA A 1 b - fA A 1 y)*gvS e (sT a)+(fA A 1 y - fA A 1 a)*gvS e (sT b)+(e.2.1 - A*e.2.2)*cr a y b:=by rw[bP];ext fA gvS sT;grind
    rw[z,h0,YS,YS,zB8]at id;let x1:=Xc (show 0<fA A 1 b - fA A 1 y by lia) p1;let x2:=Xc (show 0<fA A 1 y - fA A 1 a by lia) p2
    lia
theorem GN:∀(gs l:yat),l.Nodup->(aQ gs l).Nodup
 |[],_,h=>h
 |g::gs,l,_=>GN gs (cO g l) (by
  ext cO;cases l.getLast? with
  |none=>calc List.nodup_nil
  |some z=>calc(u5 _ _).1)
abbrev bM(ps:List Dt)(zs:yat)(ys:yas)(w:Int):yat:=aQ (cP (bT ps zs) w) ((aM ys).map sT)
structure SV(ps:List Dt)(Gs:yat)(ys:yas):Prop where
 cor:∀j,Zb (aQ (Gs.take j) ((aM ys).map sT))/\#[aQ (Gs.take j) ((aM ys).map sT)]<=1000000/\∀p∈aQ (Gs.take j) ((aM ys).map sT),Pr p/\CB 40 p
 inc:∀j X,0<X.1->(∀b∈aU (aM ys),0<=gvS b X)->(∀g∈Gs.take j,0<=gvS g X)->InC (aQ (Gs.take j) ((aM ys).map sT)) X
 ov:∀j,∀g∈Gs.take j,∀y∈aQ (Gs.take j) ((aM ys).map sT),0<=gvS g y
 own:∀j d,(∀p∈ps,0<=gd d p)->∀y∈aQ (Gs.take j) ((aM ys).map sT),0<=gvS d y
 ne:(aM ys).map sT ≠ []
 bo:∀b∈aU (aM ys),∀p∈ps,0<=gd b p
 bv:∀b∈aU (aM ys),GB3 40 b/\vc b≠(0,0)
 bl:#[aU (aM ys)]<=44
 cy:∀j,Cyc (Sh (·∈aU (aM ys)++Gs)) (aQ (Gs.take j) ((aM ys).map sT))
 ex:∀j,Exp (aQ (Gs.take j) ((aM ys).map sT))
 nd:∀j,(aQ (Gs.take j) ((aM ys).map sT)).Nodup
def eX(D:bS ps){m:yat}(d:∀g∈m,GB3 40 g/\vc g≠(0,0))(u:#[m]<=924)(n:bC ys (ps.map VZ)):SV ps m ys:=by
 let h:ps.map VZ ≠ []:=λe=>D.ne (zCs.mp e)
 let c:=lE n;let i:∀p∈ps.map VZ,WB 40 p:=λp f=>by let⟨q,a,rfl⟩:=UQ.mp f;exact⟨(D.bx q a).1,(D.bx q a).2⟩
 let k:=GC (kj c h) (A7 n).2 (λp f=>i p (c.mem p f));let s:#[aU (aM ys)]<=44:=by
  let a:=c.len;let j:=uV (aM ys);rw[T4]at a;have:=D.le
  lia
 generalize hA:aU (aM ys)++m=A;let o:∀e∈A,GB3 40 e:=λe b=>by
  rw[<- hA]at b;obtain z|z:=VS.mp b;calc k e z;exact(d e z).1
 let d:#[A]<=968:=by rw[<- hA,Xh];lia
 let' Z:yat:=(aM ys).map sT++A.flatMap λe=>A.map λg=>Zm (T1 e g)
 let t:#[Z]<=1000000:=by
  show#[(aM ys).map sT++A.flatMap λe=>A.map λg=>Zm (T1 e g)]<=1000000;rw[Xh,T4];let a:=c.len;rw[T4]at a;let j:=D.le;let w:#[A.flatMap λe=>A.map λg=>Zm (T1 e g)]<=968*968:=by
   let j:∀l:yat,#[l.flatMap λe=>A.map λg=>Zm (T1 e g)]<=#[l]*968:=λl=>by
    induction l with
    |nil=>simp
    |cons a r ih =>
     rw[zCy,Xh,T4,ZH,Nat.succ_mul]
     lia
   have:=j A;have:#[A]*968<=968*968:=zDC _ d
   lia
  lia
 let l:∀e∈A,∀g∈A,Zm (T1 e g)∈Z:=λe b g a=>XF _ (zB2.mpr ⟨e,b,UQ.mpr ⟨g,a,rfl⟩⟩)
 let r:Cor 40 A Z ((aM ys).map sT):=JN n h i (λb i=>by rw[<- hA];calc Zo _ i) (λp f=>Zo _ (UQ.mpr ⟨p,f,rfl⟩)) (by let e:#[(aM ys).map sT]=#[aM ys]:=T4 _;show _<=#[(aM ys).map sT++_];rw[Xh,e];calc zCp _ _)
 let run:=λj=>AA o l (m.take j) _ (λg a=>by rw[<- hA];calc XF _ ((zCz j _).subset a)) r
 calc⟨λj=>⟨(run j).1.XI,Xb (run j).1.len t,λp f=>⟨(run j).1.pr p f,(run j).1.cb p f⟩⟩,λj X d i a=>(run j).2.1 X (JP c h d i) a,λj=>(run j).2.2.1,λj d t=>(run j).2.2.2 d λp f=>?_,λe=>kj c h (zCs.mp e),λb i p f=>?_,λb i=>⟨k b i,?_⟩,s,λj=>by rw[hA];calc(run j).1.cyc,λj=>Dw o l (m.take j) _ (λg a=>by rw[<- hA];calc XF _ ((zCz j _).subset a)) r (tT n).1,λj=>GN _ _ (zCK.mpr ((tT n).2.imp fun {p q} a e=>a (by unfold sT at e;simp only[Prod.mk.injEq,true_and]at e;calc ZR e.1 e.2)))⟩;let⟨q,a,rfl⟩:=UQ.mp f;let⟨z,d,rfl⟩:=UQ.mp (c.mem q a);rw[Lp];calc t z d;rw[<- Lp];calc Ct c h i (UQ.mpr ⟨p,f,rfl⟩);let⟨p,f⟩:=GF (kj c h) i;calc SG (k b i) f
def gC(D:bS ps)(hz:bD zs (Xn ps))(w:Int):(∀g∈cP (bT ps zs) w,GB3 40 g/\vc g≠(0,0))/\#[cP (bT ps zs) w]<=880:=by
 calc⟨λg a=>?_,?_⟩;rcases((ku hz).mp a).1 with z|z;calc AY D g z;have:=AY D _ z;have:=PV this.1 this.2;rw[vK]at this;calc this;let d:=(rS (ps:=ps) (zs:=zs) w).2;let c:=gB hz;let b:=xv D.l20
 lia
def Gb{f g:Dt->Bool}{ps:List Dt}(a:∀p∈ps,0<=p.2.2.2):wq (λp=>f p || g p) ps<=wq f ps+wq g ps:=by
 let e:=rj (f:=f) (g:=λp=>g p && !f p) (k:=λp=>f p || g p) (ps:=ps) (λp _=>by cases f p<;>cases g p<;>rfl) 33;let l:=ip (f:=λp=>g p && !f p) (g:=g) a 47
 lia
def Qw(D:bS ps)(hz:bD zs (Xn ps))(a:bC ys (ps.map VZ)){l:Int}(l1:1<=l)(H:3*(l - 1)<aF ps):bM ps zs ys (aF ps - l+1) ≠ []:=λe=>by
 let⟨m,b⟩:=gC D hz (aF ps - l+1);let R:=eX D m (Xb b 23) a;let s:∀g∈cP (bT ps zs) (aF ps - l+1),aF ps - l+1<=wq (λp=>decide (0<=gd g p)) ps:=λg d=>((ku hz).mp d).2.2
 let b:aQ (cP (bT ps zs) (aF ps - l+1)) ((aM ys).map sT)=[]:=e;generalize cP (bT ps zs) (aF ps - l+1)=c at *;let⟨a,n,o,k⟩:=tJ R.ne #[c] (by rw[zBq];calc b);let d:c[a]?=some c[a]:=Wc n;let⟨XI,_,j⟩:=R.cor a;let f:∀y∈aQ (c.take a) ((aM ys).map sT),gvS c[a] y<0:=λy b=>YI.mp λz=>by let q:=(nj (g:=c[a]) XI λp i=>(j p i).1).1 y (λh hh=>hh y b) z;rw[tK d]at k;exact vA q (j y b).1.pos k
 let⟨p,r,gp,k⟩:=Gz (gs:=aU (aM ys)++c.take a) (o a (VY _)) (λy b=>(j y b).1.pos) f
  (λh hh y b=>(VS.mp hh).elim (λz=>R.own a h (R.bo h z) y b) λz=>R.ov a h z y b)
  (λX b f=>R.inc a X b (λb j=>f b (Zo _ j)) λg d=>f g (XF _ d)) (m _ (zBZ n)).2
 let m:=D.nn;let split:=λg=>Cp g ps
 let o:∀g,g∈aU (aM ys)++c.take a∨g∈c->wq (λp=>decide (gd g p<0)) ps<=l - 1:=λg j=>by
  let d:g∈c->wq (λp=>decide (gd g p<0)) ps<=l - 1:=λz=>by
   have:=s g z;have:=split g
   lia
  obtain j|j:=j;obtain z|z:=VS.mp j;have:wq (λp=>decide (gd g p<0)) ps<=wq (λ_=>false) ps:=ip m λp i q=>by
   have:=R.bo g z p i;have:=zA5 q
   lia
  rw[Gd]at this
  lia
  calc d ((zCz a _).subset z);exact d j
 let l:=o c[a] (.inr (zBZ n));let tot:∀f:Dt->Bool,(∀p∈ps,f p=true)->aF ps<=wq f ps:=λf d=>by rw[rA];exact ip m λp i _=>d p i
 generalize c[a]=g at gp k l;rcases k with⟨h,j,i,B⟩| ⟨h,j,k,q,i,kp,B⟩;let hh:=o h (.inl j);let⟨B0,c⟩:=B;let a:0<TP (vc g) (vc g):=sq_pos λz=>by rw[z]at c;unfold TP at c;simp at c
 let id:∀d:Dt,p.1*(TP (vc g) (vc g)*gd h d+- TP (vc h) (vc g)*gd g d)=TP (vc g) (vc g)*gvS h p+- TP (vc h) (vc g)*gvS g p:=λd=>by
  let G:TP (vc g) (vc g)*h.2.1=TP (vc h) (vc g)*g.2.1 - tn (vc h) (vc g)*- g.2.2:=by ext TP tn vc;grind
  let E:TP (vc g) (vc g)*h.2.2=TP (vc h) (vc g)*g.2.2 - tn (vc h) (vc g)*g.2.1:=by ext TP tn vc;grind
  rw[dH,dH];ext gvS;grind
 have:=tot (λd=>decide (gd h d<0) || decide (gd g d<0)) λd w=>by
  let e:=id d;rw[i,YS,zC3]at e;let n:=Z9 (show 0 < - TP (vc h) (vc g)by lia) gp;by_cases c:gd h d<0;rw[Ys c];rfl;by_cases l:gd g d<0;rw[Ys l,Bool.or_true];let y:=V6 (Vz a) (show 0<=gd h d by lia);let x:=V6 (show 0<=- TP (vc h) (vc g)by lia) (show 0<=gd g d by lia);have:=V6 (Vz r) (show 0<=TP (vc g) (vc g)*gd h d+- TP (vc h) (vc g)*gd g d by lia)
  lia
 have:=Gb (f:=λd=>decide (gd h d<0)) (g:=λd=>decide (gd g d<0)) m
 lia
 let hh:=o h (.inl j);let I:=o k (.inl q);let j:∀s t u:Int,0<s->0<t->0<u->s*h.2.1+t*k.2.1+u*g.2.1=0->s*h.2.2+t*k.2.2+u*g.2.2=0->False:=λs t u q o a L J=>by
  have:=tot (λd=>decide (gd h d<0) || (decide (gd k d<0) || decide (gd g d<0))) λd w=>by
   let e:p.1*(s*gd h d+t*gd k d+u*gd g d)=s*gvS h p+t*gvS k p+u*gvS g p:=by rw[dH,dH,dH];ext gvS;grind
   rw[i,kp,YS,YS,zB8,zC3]at e;let n:=Z9 a gp;by_cases c:gd h d<0;rw[Ys c];rfl;by_cases e:gd k d<0;rw[Ys e,Bool.true_or,Bool.or_true];by_cases l:gd g d<0;rw[Ys l,Bool.or_true,Bool.or_true];let y:=V6 (Vz q) (show 0<=gd h d by lia);let x:=V6 (Vz o) (show 0<=gd k d by lia);let M:=V6 (Vz a) (show 0<=gd g d by lia);have:=V6 (Vz r) (show 0<=s*gd h d+t*gd k d+u*gd g d by lia)
   lia
  let C:=Gb (f:=λd=>decide (gd h d<0)) (g:=λd=>decide (gd k d<0) || decide (gd g d<0)) m;let A:=Gb (f:=λd=>decide (gd k d<0)) (g:=λd=>decide (gd g d<0)) m
  lia
 let d:tn (vc k) (vc g)*h.2.1+tn (vc g) (vc h)*k.2.1+tn (vc h) (vc k)*g.2.1=0:=by ext tn vc;grind
 let sb:tn (vc k) (vc g)*h.2.2+tn (vc g) (vc h)*k.2.2+tn (vc h) (vc k)*g.2.2=0:=by ext tn vc;grind
 rcases B with⟨a,b,c⟩| ⟨a,b,c⟩;calc j _ _ _ a b c d sb;calc j (- tn (vc k) (vc g)) (- tn (vc g) (vc h)) (- tn (vc h) (vc k)) 33 33 33 (by rw[XO,XO,XO];lia) (by rw[XO,XO,XO];lia)
theorem BI(g:Tr):∀ps:List Dt,Yn g ps=wq (λp=>decide (0<=gd g p)) ps
 |[]=>rfl
 |p::r=>by let ih:=BI g r;unfold Yn at ih ⊢;ext wq;rw[Ya,zCA,ih];by_cases c:0<=gv g.1 g.2.1 g.2.2 p;rw[TU c,TU (Ys (show 0<=gd g p from c))];rw[TM c,TM (by rw[decide_eq_true_eq];calc c)]
def A9(h:Tr)(ps:List Dt):∃g,IsL h ps g:=by
 by_cases c:VI h ps=[];calc⟨_,.inl ⟨c,rfl⟩⟩;let d:∀(f:Wy->Int) (l:List Wy),l ≠ []->∃(i:Nat) (w:Wy),l[i]?=some w/\∀(j:Nat) (v:Wy),l[j]?=some v->f w<=f v/\(j<i->f w<f v):=λf l=>by
  induction l with
  |nil=>lia
  |cons a r ih =>
   intro _;by_cases cr:r=[];subst cr;calc⟨0,a,rfl,λj v e=>?_⟩;cases j with
   |zero=>cbv
   |succ j=>cases e
   let⟨i,w,e,b⟩:=ih cr;by_cases g:f a<=f w;calc⟨0,a,rfl,λj v e=>?_⟩;cases j with
   |zero=>cbv
   |succ j=>exact⟨zC2 g (b j v e).1,33⟩
   calc⟨i+1,w,e,λj v e=>?_⟩;cases j with
   |zero=>grind
   |succ j=>exact⟨(b j v e).1,λz=>(b j v e).2 33⟩
 let⟨i,w,e,b⟩:=d (λv=>Yn (Zc h (XT v (VI h ps))) ps) _ c;calc⟨_,.inr ⟨i,w,e,rfl,b⟩⟩
def Dq(D:bS ps):0<aF ps:=by
 let a:=D.nn;let w:=D.w;let b:=D.ne;rw[rA];cases ps with
 |nil=>lia
 |cons p r =>
  let e:=w p 52;let d:=SJ (f:=λ_=>true) (ps:=r) λq c=>a q 47
  ext wq
  lia
def rkT(a b:Tr):Int:=rk a.1 a.2.1 a.2.2 b.1 b.2.1 b.2.2
def stI(cs:yat)(f k:Nat):Nat:=if rkT (cs.getD k (0,0,0)) (cs.getD f (0,0,0))<0 then k else f
def ldI(cs:yat)(n:Nat):Nat:=(List.range' 0 n).foldl (stI cs) 0
def fR(cs:yat):yat:=cs.drop (ldI cs #[cs])++cs.take (ldI cs #[cs])
def Lv(cs:yat)(n:Nat):ldI cs (n+1)=stI cs (ldI cs n) n:=by ext ldI;rw[List.range'_concat,List.foldl_append];simp
theorem vF(cs:yat):∀n,ldI cs n<=n/\(0<n->ldI cs n<n)
 |0=>⟨VY _,33⟩
 |n+1=>by
  have:=vF cs n;rw[Lv];ext stI
  lia
def MU{x:Tr}:x∈fR cs↔x∈cs:=by ext fR;rw[VS,Or.comm,<- VS,zBx]
def mO(cs:yat):#[fR cs]=#[cs]:=by have:=(vF cs #[cs]).1;ext fR;grind
def tQ{b:Type}{wi:DA}{g:DG}{h:DS}{E:jO}(xs:List b)(f:b->D)(Pv:List b->Ro->Prop)(j:∀R:yar->Prop,R (xs.map f)->wi ρ R)(i:Pv [] ρ)
  (c:∀(done:List b) (x:b) (a:Ro),x∈xs->#[done]<#[xs]->Pv done a->∀K:Ro->Prop,(∀a,Pv (done++[x]) a->K a)->g (f x) a λd=>h {E with nx:=K,ct:=K,bk:=E.nx} d) (e:∀a,Pv xs a->E.nx a):tL wi g h E ρ :=
 PD.mI xs f Pv j i (λdone x a b f d=>c done x a b f d _ λ_ h=>h) e
def Hg{d:Type}{wi:DA}{g:DG}{h:DS}{E:jO}(xs:List d)(f:d->D)(Pv:Nat->Ro->Prop)(k:∀R:yar->Prop,R (xs.map f)->wi ρ R)(i:Pv 0 ρ)
  (b:∀(j:Nat) (x:d) (a:Ro),xs[j]?=some x->Pv j a->∀K:Ro->Prop,(∀a,Pv (j+1) a->K a)->g (f x) a λc=>h {E with nx:=K,ct:=K,bk:=E.nx} c) (e:∀a,Pv #[xs] a->E.nx a):tL wi g h E ρ :=
 PD.iA xs f Pv k i (λj x a c d=>b j x a c d _ λ_ h=>h) e
def Mz{a:Type}{wi:DA}{P:List a->Prop}(f:a->D)(b:∀R:yar->Prop,(∀ys,P ys->R (ys.map f))->wi ρ R)(h:∀ys,P ys->tL (λ_ R=>R (ys.map f)) g tb E ρ):tL wi g tb E ρ:=b _ λys a=>h ys a
def OI(xs:yar){k:Nat}(h:k<=#[xs]):PD.cutD xs (some (k:Int)) none=xs.drop k:=by
 ext PD.cutD;let b:HT.Vy #[xs] 0 (some (k:Int))=min k #[xs]:=HT.mV _ _ k;let a:HT.Vy #[xs] #[xs] none=#[xs]:=rfl
 simp_all [Nat.min_eq_left,zB9,zCC]
def OJ(xs:yar){k:Nat}(h:k<=#[xs]):PD.cutD xs none (some (k:Int))=xs.take k:=by
 ext PD.cutD;let a:HT.Vy #[xs] 0 none=0:=rfl
 simp_all [HT.mV,Nat.min_eq_left]
theorem BJ{c:Type}{R:c->c->Prop}(d:∀a,¬R a a)(e:∀a b,R a b->¬R b a):∀(xs ys:List c),xs.Pairwise R->ys.Pairwise R->(∀p,p∈xs↔p∈ys)->xs=ys
 |[],[],_,_,_=>rfl
 |[],y::_,_,_,h=>by grind [List.mem_cons_self]
 |x::_,[],_,_,h=>by grind [List.mem_cons_self]
 |x::xs,y::ys,b,a,h=>by
  let⟨g,c⟩:=zBX.mp b;let⟨f,b⟩:=zBX.mp a;let a:x=y:=by grind [List.mem_cons_self]
  subst a;rw[BJ d e xs ys c b 58]
def yZ(b:bD xs L)(a:bD ys L):xs=ys:=BJ (λ_=>by ext xt;omega) (λ_ _=>by ext xt;omega) _ _ b.1 a.1 λp=>(b.2 p).trans (a.2 p).symm
def y3(b:bC xs L)(a:bC ys L):xs=ys:=BJ 47 33 _ _ b.1 a.1 λp=>(b.2 p).trans (a.2 p).symm
def y4{b:DS}{ρ:Ro}(P:Ro->Prop)(c:∀a,P a->b E a)(d:∀K:Ro->Prop,(∀a,P a->K a)->jx s1 (jx s2 s3) {E with nx:=K} ρ):jx s1 (jx s2 (jx s3 b)) E ρ:=d _ c
def xo{h:Tr}{ps:List Dt}(hh:0<h.1)(o:∀p∈ps,0<=p.2.2.2)(a:IsL h ps g)(f:gvS d h=0)(c:vc d≠(0,0)):Yn g ps<=Yn d ps:=by
 let b:∀p:Dt,h.1*gd d p=tn (d.2.2,-d.2.1) (Wz h p):=λp=>by
  let e:h.1*gd d p=tn (d.2.2,-d.2.1) (Wz h p)+gvS d h:=by rw[dH];ext tn Wz gvS;grind
  rw[e,f,zB8]
 generalize ht:((d.2.2,-d.2.1):Sp)=t at b;let l:t≠(0,0):=λz=>c (by rw[<- ht]at z;let f:=congrArg Prod.fst z;let k:=congrArg Prod.snd z;dsimp only at f k;ext vc;rw[f,show d.2.1=0 by lia])
 let c:∀p:Dt,0<=tn t (Wz h p)->0<=gd d p:=λp q=>by rw[<- b]at q;exact ZQ.mp λz=>by have:=Z9 hh z;lia
 let m:tn t (0,0)=0:=by ext tn;simp
 let n:∀w∈VI h ps,(∀p∈ps,(0<tn w (Wz h p)->0<=tn t (Wz h p))/\(tn w (Wz h p)=0->TP w (Wz h p)<0->0<=tn t (Wz h p)))->Yn g ps<=Yn d ps:=λw b r=>by
  let s:Yn g ps<=Yn (Zc h (XT w (VI h ps))) ps:=by
   rcases a with⟨z,_⟩| ⟨i,v,H,G,u⟩;rw[z]at b;cases b;let⟨j,a,i⟩:=zAx b;exact(u j w (by rw[Wc a,i])).1
  calc zC2 s ?_;refine LH o λp a q=>?_
  rw[RY]at q;let i:0<=tn (XT w (VI h ps)) (Wz h p):=ZQ.mp λz=>33
  rcases(PQ b a).mp i with z|z|⟨f,k⟩;calc c p (by rw[z,m];calc YT _);calc c p ((r p a).1 z);exact c p ((r p a).2 f k)
 let r:∀v∈VI h ps,V4 v∈VI h ps:=λv hv=>Ry hv
 by_cases q:VI h ps=[];let i:∀p∈ps,Wz h p=(0,0):=λp a=>by by_cases z:Wz h p=(0,0);calc z;have:=(wN a z).1;rw[q]at this;cases this
 exact LH o λp a _=>c p (by rw[i p a,m];calc YT _)
 by_cases j:∃w∈VI h ps,tn t w=0;let⟨w,b,i⟩:=j;let m:=jq b;let c:∀v∈VI h ps,tn t v=0->0<TP t v->Yn g ps<=Yn d ps:=λv hv d pv=>by
  let e:∀x:Sp,TP t t*tn v x=TP t v*tn t x:=λx=>by
   have:TP t t*tn v x=TP t v*tn t x - tn t v*TP t x:=by ext TP tn;grind
   rw[this,d,ZJ,Int.sub_zero]
  refine n v hv λp _=>⟨λz=>?_,λz _=>?_⟩
  have:=Xc (sq_pos l) z;rw[e]at this;calc Vz (Int.pos_of_mul_pos_right this pv);have:=e (Wz h p);rw[z,YS]at this;obtain y|y:=WQ.mp this.symm
  lia
  lia
 let E:TP t w≠0:=λz=>by
  let e:TP t t*TP w w=TP t w*TP t w+tn t w*tn t w:=by ext TP tn;grind
  rw[z,i,YS]at e;have:=Xc (sq_pos l) (sq_pos m)
  lia
 by_cases d:0<TP t w;calc c w b i d;calc c (V4 w) (r w b) ?_ ?_;have:tn t (V4 w)=- tn t w:=by ext tn V4;grind
 rw[this,i];rfl;have:TP t (V4 w)=- TP t w:=by ext TP V4;grind
 lia
 let c:∀w∈VI h ps,tn t w≠0:=λw b z=>j ⟨w,b,z⟩
 let⟨v,hv⟩:=zBu _ q;let⟨w,b,d,C⟩:=yL t (VI h ps) (by
  have:=c v hv;by_cases c:tn t v<0;calc⟨v,hv,c⟩;calc⟨V4 v,r v hv,?_⟩;have:tn t (V4 v)=- tn t v:=by ext tn V4;grind
  lia)
 refine n w b λp a=>⟨λz=>ZQ.mp λy=>?_,λf k=>ZQ.mp λy=>?_⟩
 grind [wN];let e:TP w w*tn t (Wz h p)=TP w (Wz h p)*tn t w+tn w (Wz h p)*TP w t:=by ext TP tn;grind
 rw[f,ZJ,zB8]at e;let B:=zBJ k d;let A:=Z9 (sq_pos (jq b)) y
 lia
def nE(D:bS ps)(hz:bD zs (Xn ps))(a:bC ys (ps.map VZ)){l:Int}(l1:1<=l)(ll:l<=aF ps){X:Tr}(c:0<X.1)(i:IsL X ps g):l<=Yn g ps↔InC (bM ps zs ys (aF ps - l+1)) X:=by
 let⟨n,b⟩:=gC D hz (aF ps - l+1);let R:=eX D n (Xb b 23) a;let inc:=R.inc #[cP (bT ps zs) (aF ps - l+1)];let j:=R.ov #[cP (bT ps zs) (aF ps - l+1)];let a:=R.own #[cP (bT ps zs) (aF ps - l+1)];rw[zBq]at inc j a;let split:=λg=>Cp g ps
 constructor;intro B;let a:∀r:Tr,vc r≠(0,0)->aF ps - l+1<=wq (λp=>decide (0<=gd r p)) ps->0<=gvS r X:=λr b o=>ZQ.mp λz=>by
  let m:=xo (d:=(gvS r X - X.1*r.1,- (X.1*r.2.1),- (X.1*r.2.2))) c D.nn i (by
   let e:∀k:Int,gvS (k - X.1*r.1,- (X.1*r.2.1),- (X.1*r.2.2)) X=k*X.1 - X.1*gvS r X:=λk=>by ext gvS;grind
   rw[e,YR,Int.sub_self]) (λe=>b (by
   let d:=congrArg Prod.fst e;let b:=congrArg Prod.snd e;unfold vc at d b;dsimp only at d b;let d:=(WQ.mp (show X.1*r.2.1=0 by lia)).resolve_left 33;let b:=(WQ.mp (show X.1*r.2.2=0 by lia)).resolve_left 33;ext vc;rw[d,b]))
  let x:Yn (gvS r X - X.1*r.1,- (X.1*r.2.1),- (X.1*r.2.2)) ps<=wq (λp=>decide (gd r p<0)) ps:=by
   rw[BI];refine ip D.nn λp _ q=>Ys ?_
   let t:=zA5 q;let e:gd (gvS r X - X.1*r.1,- (X.1*r.2.1),- (X.1*r.2.2)) p=gvS r X - X.1*gd r p:=by rw[dH,dH];grind
   exact YI.mp λy=>by have:=V6 (Vz c) y;lia
  have:=split r
  lia
 refine inc X c (λb h=>?_) λr d=>?_
 calc a b ((R.bv b h).2) ?_;rw[<- split b];let s:wq (λp=>decide (gd b p<0)) ps<=0:=by
  have:=ip (f:=λp=>decide (gd b p<0)) (g:=λ_=>false) D.nn λp f q=>by
   have:=R.bo b h p f;have:=zA5 q
   lia
  rw[Gd]at this;exact this
 lia
 calc a r (n r d).2 ((ku hz).mp d).2.2;intro I;refine ZQ.mp λu=>?_
 let e:=split g;rw[<- BI]at e;let⟨r,m,b,a,A⟩:=Q4 D.nn (Mb D) (g:=g) (h:=X) (w:=aF ps - l+1) (λz=>IsL.ne c i ⟨congrArg Prod.fst z,congrArg Prod.snd z⟩) c (i.on) 33 33;have:=I r λy c=>j r ((ku hz).mpr ⟨m,b,a⟩) y c
 lia
def je(D:bS ps)(hz:bD zs (Xn ps))(a:bC ys (ps.map VZ)){y:Tr}(e:y∈bM ps zs ys w):Pr y/\CB 40 y:=by
 let⟨b,d⟩:=gC D hz w;let c:=(eX D b 33 a).cor #[cP (bT ps zs) w]
 cbv
def GrD(ps:List Dt)(n:Int):Prop:=1<=n/\n<=aF ps/\∀a b,bD a (Xn ps)->bC b (ps.map VZ)->∀l,1<=l->l<=aF ps->(bM ps a b (aF ps - l+1) ≠ []↔l<=n)
section
variable{ps:List Dt}(D:bS ps){zs:yat}(hz:bD zs (Xn ps)){ys:yas}(rs:bC ys (ps.map VZ))
include D hz rs
def BN{l m:Int}(l1:1<=l)(f:l<=m)(e:m<=aF ps)(h:bM ps zs ys (aF ps - m+1) ≠ []):bM ps zs ys (aF ps - l+1) ≠ []:=by
 let⟨y,c⟩:=zBu _ h;let b:=(je D hz rs c).1.pos;let⟨g,d⟩:=A9 y ps;let a:=(nE D hz rs 33 e b d).mpr λe a=>a y c
 calc vA ((nE D hz rs l1 33 b d).mp 33) b
omit rs in
def RX{n:Int}(d:1<=n)(a:n<=aF ps)(c:∀ys,bC ys (ps.map VZ)->bM ps zs ys (aF ps - n+1) ≠ [])(f:∀ys,bC ys (ps.map VZ)->∀l,n<l->l<=aF ps->bM ps zs ys (aF ps - l+1)=[]):GrD ps n:=by calc⟨d,a,λb ys g rs l e d=>?_⟩;rw[yZ g hz];calc⟨λh=>ZQ.mp λz=>h (f ys rs l z d),λh=>BN D hz rs e h a (c ys rs)⟩
end
abbrev gsA(ps:List Dt)(zs:yat)(ys:yas)(w:Int):yat:=aU (aM ys)++cP (bT ps zs) w
abbrev fsA(ys:yas):yat:=(aM ys).map sT
structure SR(ps:List Dt)(zs:yat)(ys:yas)(w:Int):Prop where
 gb:∀g∈gsA ps zs ys w,GB3 40 g/\vc g≠(0,0)
 le:#[gsA ps zs ys w]<=924
 wt:∀g∈gsA ps zs ys w,w<=aF ps->w<=wq (λp=>decide (0<=gd g p)) ps
 cor:∀j,#[aQ ((gsA ps zs ys w).take j) (fsA ys)]<=1000000/\∀p∈aQ ((gsA ps zs ys w).take j) (fsA ys),Pr p/\CB 40 p
 st:K8 (gsA ps zs ys w) (fsA ys) (aU (aM ys))
section
variable{ps:List Dt}(D:bS ps){zs:yat}(hz:bD zs (Xn ps)){ys:yas}(rs:bC ys (ps.map VZ))
include D hz rs
def Lq(w:Int):SR ps zs ys w:=by
 let⟨c,f⟩:=gC D hz w;let d:=eX D c 33 rs;let b:∀g∈gsA ps zs ys w,GB3 40 g/\vc g≠(0,0):=λg a=>(VS.mp a).elim (d.bv g) (c g)
 let c:#[gsA ps zs ys w]<=924:=by have:=d.bl;grind
 let R:=eX D b c rs;calc⟨b,c,λg a d=>?_,λj=>(R.cor j).2,λj=>⟨(R.cor j).1,λp c=>((R.cor j).2.2 p c).1⟩,R.inc,R.ov,λg a=>(b g a).2,R.ne,λj b e=>R.own j b (R.bo b e),⟨_,rfl⟩⟩;obtain z|z:=VS.mp a;calc zC2 d ?_;rw[rA];exact ip D.nn λp c _=>Ys (R.bo g z p c)
 calc((ku hz).mp z).2.2
def P9(e:bM ps zs ys w=[]):aQ (gsA ps zs ys w) (fsA ys)=[]:=by
 let⟨a,d⟩:=gC D hz w;let inc:=(eX D a 33 rs).inc #[cP (bT ps zs) w];let K:=Lq D hz rs w;let b:=K.st.ov #[gsA ps zs ys w];let a:=K.cor #[gsA ps zs ys w];rw[zBq]at inc b a;refine zBB λc=>?_
 let⟨y,b⟩:=zBu _ c;calc vA (inc y (a.2 y b).1.pos 47 47) (a.2 y b).1.pos e
end
structure TF(ps:List Dt)(w:Int)(L:List (Tr×Int)):Prop where
 l2:2<=#[L]
 l3:#[L]<=3
 nl:∀x∈L,¬(x.1.2.1=0/\x.1.2.2=0)
 bd:∀x∈L,Bd 200 x.1.1/\Bd 200 x.1.2.1/\Bd 200 x.1.2.2/\Bd 900 x.2
 s1:∀x∈L,1<=x.2
 wt:∀x∈L,w<=wq (λp=>decide (0<=gd x.1 p)) ps
 c0:(L.map λx=>x.2*x.1.1).sum<0
 a0:(L.map λx=>x.2*x.1.2.1).sum=0
 b0:(L.map λx=>x.2*x.1.2.2).sum=0
abbrev SO(G F:yat)(last:Nat)(r:yag×yaf):Prop:=last<#[G]/\(∀j,j<=last->aQ (G.take j) F ≠ [])/\aQ (G.take (last+1)) F=[]/\iy G last (WO last 1++WO last 2)=some r
def rwA(G:yat)(r:yag×yaf):List (Tr×Int):=(r.1.zip r.2).map λz=>(G.getD z.1 (0,0,0),z.2)
def SbR(ps:List Dt)(n:Int)(L:List (Tr×Int)):Prop:=(aF ps=n/\L=[((-1,1,0),1),((0,-1,0),1)])∨(aF ps≠n/\∃c b a r,bD c (Xn ps)/\bC b (ps.map VZ)/\SO (gsA ps c b (aF ps - n)) (fsA b) a r/\L=rwA (gsA ps c b (aF ps - n)) r)
def brD(x:Tr×Int):D:=.tup [Ug x.1,.int x.2]
theorem Ci(x:Tr×Int):aJ (brD x)=brD x:=rfl
def F7(xs:List (Tr×Int)):aV (xs.map brD)=xs.map brD:=cK brD Ci xs
def kW{b a:DS}(c:a E ρ)(d:∀K:Ro->Prop,K ρ->b {E with nx:=K} ρ):jx b a E ρ:=d _ c
def N4(w:Sp):eqD (UD w) (.tup [.int 0,.int 0])=decide (w=(0,0)):=by let⟨a,b⟩:=w;ext UD;rw[rG,eJ,eJ,nK,gw,gw];by_cases c:a=0<;>by_cases a:b=0<;>simp[c,a]
def XU.w4(h:XU w):WB 400 w:=⟨h.a.mono 23,h.b.mono 23⟩
def cel(ns:yaf)(k:Int):Int:=ns.getD k.toNat 0
def BX(k x:Int):Prop:=Bd 40 x/\(k≠3->Bd 20 x)
def bx(h:Bd 20 x):BX k x:=⟨h.mono 23,λ_=>h⟩
structure MS(m:M6):Prop where
 a:-9<=m.1/\m.1<=9
 b:-9<=m.2.1/\m.2.1<=9
 c:-9<=m.2.2.1/\m.2.2.1<=9
 d:-9<=m.2.2.2.1/\m.2.2.2.1<=9
 e:-1000000000<=m.2.2.2.2.1/\m.2.2.2.2.1<=1000000000
 f:-1000000000<=m.2.2.2.2.2/\m.2.2.2.2.2<=1000000000
 n:m.1*m.2.2.2.1≠m.2.1*m.2.2.1
def ID{b:DS}{ρ:Ro}(P:Ro->Prop)(c:∀a,P a->b E a)(d:∀K:Ro->Prop,(∀a,P a->K a)->jx s1 s2 {E with nx:=K} ρ):jx s1 (jx s2 b) E ρ:=d _ c
structure HL(h:Tr):Prop where
 pos:0<h.1
 a:Bd 64 h.1
 b:Bd 110 h.2.1
 c:Bd 110 h.2.2
def HL.hb(H:HL h):HB h:=⟨H.pos,H.a.mono 23,H.b.mono 23,H.c.mono 23⟩
def dtM(m:M6):Int:=m.1*m.2.2.2.1 - m.2.1*m.2.2.1
def mvT(m:M6)(h:Tr):Tr:=(h.1,m.1*h.2.1+m.2.1*h.2.2+m.2.2.2.2.1*h.1,m.2.2.1*h.2.1+m.2.2.2.1*h.2.2+m.2.2.2.2.2*h.1)
def bkT(m:M6)(h:Tr):Tr:=(dtM m*dtM m*h.1,dtM m*(m.2.2.2.1*(h.2.1 - m.2.2.2.2.1*h.1) - m.2.1*(h.2.2 - m.2.2.2.2.2*h.1)),dtM m*(m.1*(h.2.2 - m.2.2.2.2.2*h.1) - m.2.2.1*(h.2.1 - m.2.2.2.2.1*h.1)))
def pbG(m:M6)(g:Tr):Tr:=(g.1+g.2.1*m.2.2.2.2.1+g.2.2*m.2.2.2.2.2,g.2.1*m.1+g.2.2*m.2.2.1,g.2.1*m.2.1+g.2.2*m.2.2.2.1)
def pfG(m:M6)(g:Tr):Tr:=(dtM m*(dtM m*g.1 - g.2.1*(m.2.2.2.1*m.2.2.2.2.1 - m.2.1*m.2.2.2.2.2) - g.2.2*(m.1*m.2.2.2.2.2 - m.2.2.1*m.2.2.2.2.1)),dtM m*(g.2.1*m.2.2.2.1 - g.2.2*m.2.2.1),dtM m*(g.2.2*m.1 - g.2.1*m.2.1))
def Lr(m:M6)(g h:Tr):gvS (pbG m g) h=gvS g (mvT m h):=by ext gvS pbG mvT;grind
def RZ(m:M6)(g h:Tr):gvS (pfG m g) h=gvS g (bkT m h):=by ext gvS pfG bkT;grind
def Sf(m:M6)(g h:Tr):gvS g (mvT m (bkT m h))=dtM m*dtM m*gvS g h:=by ext gvS mvT bkT dtM;grind
def Rz(m:M6)(g h:Tr):gvS g (bkT m (mvT m h))=dtM m*dtM m*gvS g h:=by ext gvS mvT bkT dtM;grind
def RV(m:M6)(g:Tr)(p:Dt):gd (pbG m g) p=gd g (bJ m p):=by ext gd gv pbG bJ sx sy;grind
def RW(m:M6)(g:Tr)(p:Dt):gd (pfG m g) (bJ m p)=dtM m*dtM m*gd g p:=by ext gd gv pfG bJ sx sy dtM;grind
def Fz{w:Tr}(h:0<w.1):∃k,0<k/\∀g,gvS g w=k*gvS g (Zm w):=by
 let e:w.1≠0:=zCn h;let m:=(mT e).pos;let j:=PM.bL (l:=w.1) (PM.fu w.1 w.2.1 w.2.2);let i:=PM.bL (l:=w.1) (PM.gN w.1 w.2.1 w.2.2);let f:=PM.bL (l:=w.1) (PM.gO w.1 w.2.1 w.2.2);let c:(Zm w).1*PM.VB w.1 w.2.1 w.2.2 w.1=w.1:=j;let b:(Zm w).2.1*PM.VB w.1 w.2.1 w.2.2 w.1=w.2.1:=i;let a:(Zm w).2.2*PM.VB w.1 w.2.1 w.2.2 w.1=w.2.2:=f;generalize PM.VB w.1 w.2.1 w.2.2 w.1=d at *;calc⟨d,?_,λg=>?_⟩;refine Int.lt_of_not_ge λz=>?_
 have:=zBU (Vz m) z
 lia
 ext gvS;rw[<- c,<- b,<- a];generalize Zm w=p;grind
def LD(e:Pr a)(d:Pr b){k j:Int}(i:0<k)(l:0<j)(h:∀g,k*gvS g a=j*gvS g b):a=b:=by
 let c:=h (1,0,0);let b:=h (0,1,0);let a:=h (0,0,1);simp only[gvS,zBo,ZJ,zB8,zC3]at c b a;calc kG e d ?_;let m:∀{x y u v:Int},k*x=j*u->k*y=j*v->x*v - y*u=0:=fun {x y u v} e f=>by
  have:k*(x*v - y*u)=0:=by
   let g:k*(x*v)=j*(u*v):=by rw[<- zBc,e,zBc]
   let d:k*(y*u)=j*(u*v):=by rw[<- zBc,f,zBc,YR v u]
   rw[Int.mul_sub,g,d,Int.sub_self]
  obtain z|z:=WQ.mp this
  lia
  exact z
 ext T1;rw[m b a,m a c,m c b]
def Z8(m:M6)(h:Tr):Tr:=Zm (mvT m h)
section
variable{m:M6}
def AU(a:dtM m≠0):0<dtM m*dtM m:=by
 obtain h|h:=Int.lt_or_gt_of_ne a;calc zBJ h h;calc Xc h h
def sd{h:Tr}(hh:0<h.1):Pr (Z8 m h):=mT (w:=mvT m h) (zCn hh)
def FQ{h:Tr}(hh:0<h.1):∃k,0<k/\∀g,gvS (pbG m g) h=k*gvS g (Z8 m h):=by let⟨k,a,e⟩:=Fz (w:=mvT m h) hh;calc⟨k,a,λg=>by rw[Lr];calc e g⟩
def LL(a:dtM m≠0)(b:Pr h):∃x,Pr x/\Z8 m x=h:=by let d:=AU a;let c:0<(bkT m h).1:=Xc d b.pos;let⟨j,e,i⟩:=Fz c;let a:=mT (w:=bkT m h) (zCn c);let⟨k,c,f⟩:=FQ (m:=m) a.pos;calc⟨_,a,LD (sd a.pos) b (Xc e c) d λg=>?_⟩;rw[zBc,<- f,<- i,Lr,Sf]
def wz(b:dtM m≠0){h:Tr}(hh:0<h.1):∃j k,0<j/\0<k/\∀g,j*gvS g h=k*gvS (pfG m g) (Z8 m h):=by let⟨k,a,e⟩:=Fz (w:=mvT m h) hh;calc⟨_,k,AU b,a,λg=>by rw[<- Rz,<- RZ];calc e _⟩
def IH(h:dtM m≠0)(g:Pr x)(f:Pr y)(e:Z8 m x=Z8 m y):x=y:=by
 let⟨a,b,l,k,i⟩:=wz h g.pos;let⟨c,d,j,c,a⟩:=wz h f.pos;refine LD g f (Xc c l) (Xc k j) λg=>?_
 rw[zBc,zBc,i,a,e,<- zBc,<- zBc,YR d b]
def Ip(ps:List Dt)(f:Dt->Dt)(w:∀p,(f p).2.2.2=p.2.2.2)(h:∀p,0<=gd g (f p)↔0<=gd k p):Yn g (ps.map f)=Yn k ps:=by
 ext Yn;rw[Ww];congr 1;refine zB7 λp _=>?_
 show(if 0<=gd g (f p)then(f p).2.2.2 else 0)=if 0<=gd k p then p.2.2.2 else 0
 rw[w];by_cases c:0<=gd k p;rw[TU c,TU ((h p).mpr c)];rw[TM c,TM λz=>c ((h p).mp z)]
def NA{k x:Int}(a:0<k):0<=k*x↔0<=x:=⟨λh=>Int.le_of_mul_le_mul_left (by rw[YS];calc h) a,λh=>V6 (Vz a) h⟩
def iV{k x:Int}(a:0<k):k*x=0↔x=0:=⟨λh=>(WQ.mp h).resolve_left (zCn a),λh=>by rw[h,YS]⟩
def DQ(c:dtM m≠0){ps:List Dt}(r:∀p∈ps,0<=p.2.2.2){h:Tr}(hh:0<h.1)(a:IsL h ps g)(b:IsL (Z8 m h) (ps.map (bJ m)) k):Yn k (ps.map (bJ m))=Yn g ps:=by
 let f:=(sd (m:=m) hh).pos;calc Int.le_antisymm ?_ ?_;let⟨i,j,h,l,e⟩:=wz c hh;calc zC2 (xo f (λp f=>?_) b (d:=pfG m g) ?_ λz=>a.ne hh ?_) (Int.le_of_eq (Ip ps _ (λ_=>rfl) λp=>?_));let⟨q,i,rfl⟩:=UQ.mp f;calc r q i;calc(iV l).mp ?_;rw[<- e];calc(iV h).mpr a.on;unfold vc pfG at z;simp only[Prod.mk.injEq]at z;let o:=(WQ.mp z.1).resolve_left c;let n:=(WQ.mp z.2).resolve_left c;let i:dtM m*g.2.1=0:=by
  have:dtM m*g.2.1=m.1*(g.2.1*m.2.2.2.1 - g.2.2*m.2.2.1)+m.2.2.1*(g.2.2*m.1 - g.2.1*m.2.1):=by ext dtM;grind
  rw[this,o,n];lia
 let h:dtM m*g.2.2=0:=by
  have:dtM m*g.2.2=m.2.1*(g.2.1*m.2.2.2.1 - g.2.2*m.2.2.1)+m.2.2.2.1*(g.2.2*m.1 - g.2.1*m.2.1):=by ext dtM;grind
  rw[this,o,n];lia
 calc⟨(WQ.mp i).resolve_left c,(WQ.mp h).resolve_left c⟩;rw[RW];calc NA (AU c);let⟨j,l,e⟩:=FQ (m:=m) hh;calc zC2 (xo hh r a (d:=pbG m k) ?_ λz=>b.ne f ?_) (Int.le_of_eq (Ip ps (bJ m) (λ_=>rfl) λp=>by rw[RV]).symm);rw[e];calc(iV l).mpr b.on;unfold vc pbG at z;simp only[Prod.mk.injEq]at z;let i:dtM m*k.2.1=0:=by
  have:dtM m*k.2.1=m.2.2.2.1*(k.2.1*m.1+k.2.2*m.2.2.1) - m.2.2.1*(k.2.1*m.2.1+k.2.2*m.2.2.2.1):=by ext dtM;grind
  rw[this,z.1,z.2];lia
 let h:dtM m*k.2.2=0:=by
  have:dtM m*k.2.2=m.1*(k.2.1*m.2.1+k.2.2*m.2.2.2.1) - m.2.1*(k.2.1*m.1+k.2.2*m.2.2.1):=by ext dtM;grind
  rw[this,z.1,z.2];lia
 calc⟨(WQ.mp i).resolve_left c,(WQ.mp h).resolve_left c⟩
end
def He{l:yat}(f:Pr x)(g:Pr q)(h0:gvS e x=0)(d:∀p∈l,p≠x->0<gvS e p)(i:InC l q)(h:q≠x):0<gvS e q:=by
 let b:0<=gvS e q:=i e λp a=>by by_cases c:p=x;rw[c,h0];calc YT _;exact Vz (d p a c)
 calc Int.lt_iff_le_and_ne.mpr ⟨b,λz=>?_⟩;let⟨M,k,j⟩:=wH (λp=>- gvS (T1 x (T1 x q)) p) l;have:=i (M*e.1+(T1 x (T1 x q)).1,M*e.2.1+(T1 x (T1 x q)).2.1,M*e.2.2+(T1 x (T1 x q)).2.2) λp a=>by
  let s:gvS (M*e.1+(T1 x (T1 x q)).1,M*e.2.1+(T1 x (T1 x q)).2.1,M*e.2.2+(T1 x (T1 x q)).2.2) p=M*gvS e p+gvS (T1 x (T1 x q)) p:=by ext gvS;grind
  rw[s];by_cases c:p=x;have:gvS (T1 x (T1 x q)) x=0:=by ext gvS T1;grind
  rw[c,h0,this];omega;let b:=j p a;have:=zBy (show 1<=gvS e p from d p a c) (Vz k);omega
 let s:gvS (M*e.1+(T1 x (T1 x q)).1,M*e.2.1+(T1 x (T1 x q)).2.1,M*e.2.2+(T1 x (T1 x q)).2.2) q=M*gvS e q+gvS (T1 x (T1 x q)) q:=by ext gvS;grind
 rw[s,<- z]at this;let v:gvS (T1 x (T1 x q)) q=-((T1 x q).1*(T1 x q).1+(T1 x q).2.1*(T1 x q).2.1+(T1 x q).2.2*(T1 x q).2.2):=by ext gvS T1;grind
 rw[v]at this;calc h (kG f g ?_).symm;let b:∀a:Int,0<=a*a:=λa=>by
  obtain h|h:=Int.le_total 0 a;calc V6 h h;exact zBT h h
 let o:=b (T1 x q).1;let n:=b (T1 x q).2.1;let m:=b (T1 x q).2.2;let c:=WQ.mp (show(T1 x q).1*(T1 x q).1=0 by omega);let b:=WQ.mp (show(T1 x q).2.1*(T1 x q).2.1=0 by omega);let a:=WQ.mp (show(T1 x q).2.2*(T1 x q).2.2=0 by omega);calc ZR (c.elim id id) (ZR (b.elim id id) (a.elim id id))
def DV{l:yat}{y:Tr}(h:0<y.1)(h0:gvS e y=0)(f:∀p∈l,p≠y->0<gvS e p)(i:InC l y):y∈l:=by
 refine zBB λc=>?_
 let⟨M,g,d⟩:=wH (λp:Tr=>p.1) l;have:=i (M*e.1 - 1,M*e.2.1,M*e.2.2) λp a=>by
  let s:gvS (M*e.1 - 1,M*e.2.1,M*e.2.2) p=M*gvS e p - p.1:=by ext gvS;grind
  rw[s];let b:=d p a;have:=zBy (show 1<=gvS e p from f p a λz=>c (z ▸ a)) (Vz g)
  lia
 let s:gvS (M*e.1 - 1,M*e.2.1,M*e.2.2) y=M*gvS e y - y.1:=by ext gvS;grind
 rw[s,h0]at this
 lia
def qy(D:bS ps)(hz:bD zs (Xn ps))(a:bC ys (ps.map VZ))(w:Int):Exp (bM ps zs ys w)/\(bM ps zs ys w).Nodup:=by let⟨c,b⟩:=gC D hz w;let S:=eX D c (Xb b 23) a;let e:=S.ex #[cP (bT ps zs) w];let n:=S.nd #[cP (bT ps zs) w];rw[zBq]at e n;calc⟨e,n⟩
def kD(m:M6)(ps:List Dt):aF (ps.map (bJ m))=aF ps:=by ext aF tot;rw[YQ.mpr (λ_ _=>rfl),YQ.mpr (λ_ _=>rfl),Ww];rfl
section
variable{m:M6}(hm:dtM m≠0){ps:List Dt}(D:bS ps)(D':bS (ps.map (bJ m))){zs zt:yat}(hz:bD zs (Xn ps))(ht:bD zt (Xn (ps.map (bJ m)))){ys yt:yas}(rs:bC ys (ps.map VZ))(rt:bC yt ((ps.map (bJ m)).map VZ)){l:Int}(l1:1<=l)(ll:l<=aF ps)
include hm D D' hz ht rs rt l1 ll
def MJ{X:Tr}(c:0<X.1):InC (bM ps zs ys (aF ps - l+1)) X↔InC (bM (ps.map (bJ m)) zt yt (aF ps - l+1)) (Z8 m X):=by let⟨g,e⟩:=A9 X ps;let⟨k,d⟩:=A9 (Z8 m X) (ps.map (bJ m));let a:=nE D hz rs l1 ll c e;let b:=nE D' ht rt l1 (by rw[kD];calc ll) (sd c).pos d;rw[kD,DQ hm D.nn c e d]at b;calc a.symm.trans b
def Dy(a:Pr X):X∈bM ps zs ys (aF ps - l+1)↔Z8 m X∈bM (ps.map (bJ m)) zt yt (aF ps - l+1):=by
 let I:=fun {X:Tr}=>MJ hm D D' hz ht rs rt l1 ll (X:=X)
 let P:=fun {y:Tr} (b:y∈bM ps zs ys (aF ps - l+1))=>(je D hz rs b).1
 let s:=fun {y:Tr} (b:y∈bM (ps.map (bJ m)) zt yt (aF ps - l+1))=>(je D' ht rt b).1
 let r:=sd (m:=m) a.pos;constructor;intro h;let⟨e,d,o⟩:=(qy D hz rs (aF ps - l+1)).1 X h;let⟨i,j,n,k,q⟩:=wz hm a.pos;calc DV r.pos (e:=pfG m e) ((iV k).mp (by rw[<- q];calc(iV n).mpr d)) (λp c g=>?_) ((I a.pos).mp λ_ b=>b X h);let⟨x,f,rfl⟩:=LL hm (s c);have:=He a f d o ((I f.pos).mpr λ_ b=>b _ c) λz=>g (by rw[z])
 let⟨i,j,n,k,q⟩:=wz hm f.pos;refine Int.lt_of_not_ge λz=>?_
 have:=Xc n this;rw[q]at this;calc absurd this (ZQ.mpr (zBU (Vz k) z));intro h;let⟨e,d,o⟩:=(qy D' ht rt (aF ps - l+1)).1 _ h;let⟨k,f,q⟩:=FQ (m:=m) a.pos;calc DV a.pos (e:=pbG m e) (by rw[q];calc(iV f).mpr d) (λp c g=>?_) ((I a.pos).mpr λ_ b=>b _ h);let e:=P c;have:=He r (sd e.pos) d o ((I e.pos).mp λ_ b=>b _ c) λz=>g (IH hm e a z)
 let⟨k,f,q⟩:=FQ (m:=m) e.pos;rw[q];calc Xc f this
def AB:((bM ps zs ys (aF ps - l+1)).map (Z8 m)).Perm (bM (ps.map (bJ m)) zt yt (aF ps - l+1)):=by
 refine(List.perm_ext_iff_of_nodup ?_ (qy D' ht rt _).2).mpr λy=>?_
 calc zCK.mpr (List.Pairwise.imp_of_mem (λc b a z=>a ?_) (qy D hz rs _).2);calc IH hm (je D hz rs c).1 (je D hz rs b).1 z;rw[UQ];constructor;rintro⟨x,a,rfl⟩;calc(Dy hm D D' hz ht rs rt l1 ll (je D hz rs a).1).mp a;intro a;let⟨x,b,rfl⟩:=LL hm (je D' ht rt a).1;calc⟨x,(Dy hm D D' hz ht rs rt l1 ll b).mpr a,rfl⟩
end
def P8(q:dtM m≠0)(D:bS ps)(r:bS (ps.map (bJ m)))(hz:bD zs (Xn ps))(h:bD zt (Xn (ps.map (bJ m))))(f:bC ys (ps.map VZ))(e:bC yt ((ps.map (bJ m)).map VZ))(a:GrD ps n)(b:GrD (ps.map (bJ m)) k):n=k:=by
 let⟨m,j,p⟩:=a;let⟨o,g,i⟩:=b;rw[kD]at g i;let E:=fun {l:Int} (d:1<=l) (c:l<=aF ps)=>(AB q D r hz h f e d c).length_eq
 let N:∀l,1<=l->l<=aF ps->(l<=n↔l<=k):=λl d c=>by rw[<- p zs ys hz f l d c,<- i zt yt h e l d c];have:=E d c;rw[T4]at this;constructor;intro h z;rw[z]at this;calc h (zAk this);intro h z;rw[z]at this;exact h (zAk this.symm)
 let a:=(N n m j).mp (YT _);let b:=(N k o g).mpr (YT _)
 lia
def BE(h:vc g≠(0,0))(j:gvS g a=0)(i:gvS g b=0)(f:gvS g c=0):VR a b c=0:=by
 let e:VR a b c*g.2.1=gvS g a*(b.2.2*c.1 - b.1*c.2.2)+gvS g b*(a.1*c.2.2 - a.2.2*c.1)+gvS g c*(a.2.2*b.1 - a.1*b.2.2):=by ext VR T1 gvS;grind
 let d:VR a b c*g.2.2=gvS g a*(b.1*c.2.1 - b.2.1*c.1)+gvS g b*(a.2.1*c.1 - a.1*c.2.1)+gvS g c*(a.1*b.2.1 - a.2.1*b.1):=by ext VR T1 gvS;grind
 rw[j,i,f,ZJ,ZJ,ZJ]at e d;refine zBB λn=>h (ZR ?_ ?_)
 calc(WQ.mp e).resolve_left n;calc(WQ.mp d).resolve_left n
def Me(e:Exp l)(a:l.Nodup)(d:vc g≠(0,0)):#[l.filter λp=>decide (gvS g p=0)]<=2:=by
 let n:=a.filter λp=>decide (gvS g p=0)
 let m:∀p∈l.filter λp=>decide (gvS g p=0),p∈l/\gvS g p=0:=λp a=>⟨(ZP.mp a).1,zA5 (ZP.mp a).2⟩
 generalize (l.filter λp=>decide (gvS g p=0))=k at n m;obtain _|⟨a,_|⟨b,_|⟨c,r⟩⟩⟩:=k;calc Yt _;calc Nat.le_succ 1;calc VY _;let⟨k,j⟩:=m a 52;let⟨i,h⟩:=m b 52;let⟨g,f⟩:=m c 52;let⟨a,c⟩:=zBK.mp n;let⟨b,_⟩:=zBK.mp c;calc absurd (BE d j h f) (vh e k i g (λe=>a (by rw[e];simp)) (λe=>a (by rw[e];simp)) λe=>b (by rw[e];simp))
theorem w8:∀{A:yat} {z p r:Tr} {B:yat},YG R (z::(A++p::r::B))->(∃q,((A=[]/\q=z)∨q∈A)/\R q p)/\R p r
 |[],z,p,r,B,h=>⟨⟨z,.inl ⟨rfl,rfl⟩,h.1⟩,h.2.1⟩
 |a::A,z,p,r,B,h=>by
  let⟨⟨q,b,e⟩,f⟩:=w8 (z:=a) h.2;calc⟨⟨q,.inr ?_,e⟩,f⟩;rcases b with⟨_,e⟩| e;rw[e];calc ZN;calc W9 _ e
def Mg{l:yat}(i:l.Nodup)(d:3<=#[l])(j:Cyc R l){p:Tr}(m:p∈l):∃q r,q∈l/\r∈l/\q≠p/\r≠p/\q≠r/\R q p/\R p r:=by
 let⟨A,B,rfl⟩:=zCE m;cases B with
 |nil =>
  let h:=j A p rfl;obtain e|⟨g,q,e⟩:=zC5 A;subst e;simp at d;rw[List.concat_eq_append]at e;subst e;cases g with
  |nil=>simp at d
  |cons a c =>
   let b:YG R (p::((a::c)++q::p::[])):=by simpa using h
   let f:=(w8 b).2;simp[zCc,zBK]at i;calc⟨q,a,52,52,?_,?_,?_,f,b.1⟩;grind;grind;grind
 |cons r B =>
  obtain⟨k,z,e⟩:∃k z,A++p::r::B=k++[z]:=by
   rcases zC5 (A++p::r::B)with e|⟨k,z,e⟩;simp at e;exact⟨k,z,by rw[e,List.concat_eq_append]⟩
  let⟨⟨q,b,f⟩,g⟩:=w8 (j k z e);let h:z∈A++p::r::B:=by rw[e];simp
  let a:=i;simp[zCc,zBK]at a;rcases b with⟨o,n⟩| b;subst o n;cases B with
  |nil=>simp at d
  |cons c B =>
   let s:q∈c::B:=by have:=congrArg List.getLast? e;simp at this;exact zCi this
   calc⟨q,r,h,52,?_,?_,?_,f,g⟩;rintro rfl;simp at a;grind;rintro rfl;simp at a;rintro rfl;simp at a;grind
  calc⟨q,r,by simp[b],52,?_,?_,?_,f,g⟩;grind;grind;grind
theorem Cf{c:Type}(a b:c->Nat):∀L:List c,(L.map λg=>a g+b g).sum=(L.map a).sum+(L.map b).sum
 |[]=>rfl
 |g::L=>by simp only[Ya,zCA,Cf a b L];lia
theorem Et{a:Type}(f:a->Bool):∀L:List a,(L.map λg=>if f g=true then 1 else 0).sum=#[L.filter f]
 |[]=>rfl
 |g::L=>by rw[Ya,zCA,Et f L,List.filter_cons];split<;>simp[zC7]
theorem Cg{b a:Type}(f:b->a->Bool)(L:List a):∀l:List b,(l.map λp=>#[L.filter (f p)]).sum=(L.map λg=>#[l.filter λp=>f p g]).sum
 |[]=>by
  show 0=_
  induction L with
  |nil=>rfl
  |cons g L ih=>rw[Ya,zCA,<- ih];rfl
 |p::l=>by
  rw[Ya,zCA,Cg f L l,<- Et (f p) L,<- Cf];congr 1;refine zB7 λg _=>?_
  rw[List.filter_cons];split<;>simp[zC7]
theorem IM{b:Type}(a:b->Nat)(n:Nat):∀L:List b,(∀g∈L,n<=a g)->n*#[L]<=(L.map a).sum
 |[],_=>Yt _
 |g::L,h=>by rw[Ya,zCA,ZH,Nat.mul_succ,zC7];calc Nat.add_le_add (h g 52) (IM a n L λg a=>h g (by simp[a]))
theorem Es{b:Type}(a:b->Nat)(n:Nat):∀L:List b,(∀g∈L,a g<=n)->(L.map a).sum<=n*#[L]
 |[],_=>VY _
 |g::L,h=>by rw[Ya,zCA,ZH,Nat.mul_succ,zC7];calc Nat.add_le_add (Es a n L λg a=>h g (by simp[a])) (h g 52)
def GU{A L:yat}(n:Exp l)(f:l.Nodup)(a:3<=#[l])(b:Cyc (Sh (·∈A)) l)(e:∀g∈A,∃k∈L,∀p,gvS g p=0->gvS k p=0)(m:∀g∈L,vc g≠(0,0)):#[l]<=#[L]:=by
 let lo:∀p∈l,2<=#[L.filter λg=>decide (gvS g p=0)]:=λp i=>by
  let⟨q,r,x,w,u,t,s,⟨g,c,B,k⟩,⟨h,hh,A,z⟩⟩:=Mg f a b i;let⟨a,j,d⟩:=e g c;let⟨b,y,o⟩:=e h hh;let h:a≠b:=λe=>by subst e;exact vh n x i w u s (Ne.symm t) (BE (m a j) (d q B) (d p k) (o r z))
  exact nQ (l:=[a,b]) (zBK.mpr ⟨by simp[h],52⟩) λx h=>by
   obtain e|e:=VC.mp h;rw[e];calc ZP.mpr ⟨j,Ys (d p k)⟩;rw[Yv.mp e];exact ZP.mpr ⟨y,Ys (o p A)⟩
 let d:∀g∈L,#[l.filter λp=>decide (gvS g p=0)]<=2:=λg c=>Me n f (m g c)
 let a:=IM _ 2 l lo;let b:=Es _ 2 L d;rw[Cg (λp g=>decide (gvS g p=0)) L l]at a
 lia
def Sr:∀n,n<=8->#[prs n]<=28:=23
def Ly{ps:List Dt}(h:#[ps]<=8):#[Xn ps]<=44:=by
 let a:#[qt ps]<=28:=by ext qt sps;rw[T4];exact Xb (zC6 _ _) (Sr _ h)
 ext Xn axL;rw[Xh,Xh,T4,T4]
 lia
def BM(D:bS ps)(d:#[ps]<=8)(hz:bD zs (Xn ps))(a:bC ys (ps.map VZ))(w:Int):#[bM ps zs ys w]<=63:=by
 let⟨c,b⟩:=gC D hz w;let S:=eX D c (Xb b 23) a;let b:=S.cy #[cP (bT ps zs) w];rw[zBq]at b;let⟨f,c⟩:=qy D hz a w;by_cases e:3<=#[bM ps zs ys w];let k:=gB hz;let j:=Ly d;let i:=uV (aM ys);let d:=Bt (tT a).2 (lE a).mem;rw[T4]at d;have:=GU (L:=zs++aU (aM ys)) f c e b (λg a=>?_) λg a=>(VS.mp a).elim (λz=>(AY D g ((hz.2 g).mp z)).2) λz=>(S.bv g z).2
 rw[Xh]at this
 lia
 obtain z|z:=VS.mp a;calc⟨g,XF _ z,λ_ h=>h⟩;rcases((ku hz).mp z).1 with q|q;calc⟨g,Zo _ ((hz.2 g).mpr q),λ_ h=>h⟩;calc⟨Yi g,Zo _ ((hz.2 _).mpr q),λp h=>?_⟩;ext Yi;unfold gvS at h ⊢;dsimp only;grind
 lia
def of9{x:Int}(h:-9<=x/\x<=9):Bd 4 x:=by ext Bd;lia
def Fi{x:Int}(h:-1000000000<=x/\x<=1000000000):Bd 31 x:=by ext Bd;lia
def Se(M:MS m):MB m/\dI (Zt m)=true/\dtM m≠0:=by let⟨a,b,c,d,e,f,n⟩:=M;calc⟨⟨by ext Bd;lia,by ext Bd;lia,by ext Bd;lia,by ext Bd;lia,by ext Bd;lia,by ext Bd;lia,n⟩,?_,λz=>n (by unfold dtM at z;lia)⟩;let i:∀{x:Int},x.natAbs<1000000000000->inR x=true:=A8;rw[M5,i 33,i 33,i 33,i 33,i 33,i 33,Ys n];rfl
def HL.sn(H:HL h)(M:MS m):HB (Z8 m h):=by
 let a:(mvT m h).1≠0:=zCn H.pos;let z:¬((mvT m h).1=0/\(mvT m h).2.1=0/\(mvT m h).2.2=0):=λz=>a z.1
 let a:=PM.cS (l:=(mvT m h).1) z;let s:∀{x y w:Int},Bd 4 x->Bd 4 y->Bd 31 w->Bd 130 (x*h.2.1+y*h.2.2+w*h.1):=λc b d=>(((c.mul H.b).add (b.mul H.c)).add ((d.mul H.a).mono 23)).mono 23
 calc⟨(sd H.pos).pos,cN a (PM.cF (PM.fu _ _ _)) (H.a.mono 23),cN a (PM.cF (PM.gN _ _ _)) (s (of9 M.a) (of9 M.b) (Fi M.e)),cN a (PM.cF (PM.gO _ _ _)) (s (of9 M.c) (of9 M.d) (Fi M.f))⟩
def NX(M:MS m)(D:bS ps)(a:∀p∈ps,Bd 31 p.1/\Bd 31 p.2.1):ps.all (lH m)=true/\bS (ps.map (bJ m)):=by
 let s:∀{x y w u v:Int},Bd 4 x->Bd 4 y->Bd 31 w->Bd 31 u->Bd 31 v->Bd 37 (x*u+y*v+w):=λc b d e hv=>((c.mul e).add (b.mul hv)).add (d.mono 23)
 let X:∀p∈ps,Bd 37 (sx m p.1 p.2.1)/\Bd 37 (sy m p.1 p.2.1):=λp c=>⟨s (of9 M.a) (of9 M.b) (Fi M.e) (a p c).1 (a p c).2,s (of9 M.c) (of9 M.d) (Fi M.f) (a p c).1 (a p c).2⟩
 calc⟨zCB.mpr λp c=>?_,λq d=>?_,λq d=>?_,λq d=>?_,by rw[T4];calc D.le,λe=>D.ne (zCs.mp e)⟩;let⟨a,b⟩:=X p c;unfold Bd at a b;ext lH;rw[A8 33,A8 33];rfl;let⟨p,c,rfl⟩:=UQ.mp d;calc⟨(X p c).1.mono 23,(X p c).2.mono 23,(D.gd p c).c0,(D.gd p c).c2⟩;let⟨p,c,rfl⟩:=UQ.mp d;calc⟨(X p c).1.mono 23,(X p c).2.mono 23⟩;let⟨p,c,rfl⟩:=UQ.mp d;calc D.w p c
def dvK(p:Dt):Dt:=(p.1.fdiv 1000,p.2.1.fdiv 1000,p.2.2.1,p.2.2.2)
def Pp(h:Bd 40 x):Bd 31 (x.fdiv 1000):=by
 rw[zDG _ 23];unfold Bd at *
 lia
def Pq(D:bS ps)(c:#[ps]<=8):bS (ps.map dvK)/\#[ps.map dvK]<=8/\∀p∈ps.map dvK,Bd 31 p.1/\Bd 31 p.2.1:=by
 let X:∀q∈ps.map dvK,Bd 31 q.1/\Bd 31 q.2.1:=λq a=>by let⟨p,b,rfl⟩:=UQ.mp a;exact⟨Pp (D.bx p b).1,Pp (D.bx p b).2⟩
 calc⟨⟨λq a=>?_,λq a=>⟨(X q a).1.mono 23,(X q a).2.mono 23⟩,λq a=>?_,by rw[T4];calc D.le,λe=>D.ne (zCs.mp e)⟩,by rw[T4];calc c,X⟩;let x:=X q a;let⟨p,b,rfl⟩:=UQ.mp a;calc⟨x.1.mono 23,x.2.mono 23,(D.gd p b).c0,(D.gd p b).c2⟩;let⟨p,b,rfl⟩:=UQ.mp a;calc D.w p b
def Bj(cs:yat):(fR cs).Perm cs:=by ext fR;calc List.perm_append_comm.trans (List.Perm.of_eq (zBx _ _))
def okU(u:List (yaf)):okD (.lst true (u.map tupI)):=(Yf.map (n:=1) λk=>Yf.tup (jt.of λd a=>by let⟨i,_,rfl⟩:=UQ.mp a;calc .int _ _)).ok
theorem Bm:∀{x y:yaf},SW.lexLt y x=false->SW.lexLt x y=false->x=y
 |[],[],_,_=>rfl
 |[],_::_,_,h=>by cases h
 |_::_,[],h,_=>by cases h
 |a::x,b::y,h,k=>by
  unfold SW.lexLt at h k;by_cases e:a=b;subst e;rw[TU rfl]at h k;rw[Bm h k];rw[TM e]at k;rw[TM (Ne.symm e)]at h;have:=of_decide_eq_false h;have:=of_decide_eq_false k
  lia
def CY(a:wZ ys ks)(b:wZ zs js)(p:ks.Perm js):ys=zs:=List.Perm.eq_of_pairwise (λ_ _ _ _ h k=>Bm h k) a.2 b.2 (a.1.trans (p.trans b.1.symm))
def Qr{d:Type}{a:List d}(h:#[a]=2):∃c b:d,a=[c,b]:=by
 match a,h with
 |[c,b],_=>calc⟨c,b,rfl⟩
def Hb{a b:List Dt}:a.map Ui=b.map Ui↔a=b:=⟨Mo,33⟩
def FE{a b:List Zu}:a.map cA=b.map cA↔a=b:=⟨Ku,33⟩
def Ij{a b:yas}:a.map VU=b.map VU↔a=b:=⟨Nz,λe=>by rw[e]⟩
def IL{a b:yas}:a.map UD=b.map UD↔a=b:=⟨N5,λe=>by rw[e]⟩
def IT{a b:yat}:a.map Ug=b.map Ug↔a=b:=⟨N9,λe=>by rw[e]⟩
def Im:ZM a=ZM b↔a=b:=⟨NB,33⟩
def Ha:Ui a=Ui b↔a=b:=⟨DU,33⟩
def J6:Zt a=Zt b↔a=b:=⟨Qv,λe=>by rw[e]⟩
def Ih:VU a=VU b↔a=b:=⟨Eg,λe=>by rw[e]⟩
def II:UD a=UD b↔a=b:=⟨Er,λe=>by rw[e]⟩
def HF{a b:yaf}:a.map D.int=b.map D.int↔a=b:=⟨CH,33⟩
local macro_rules|`(tactic|z_go)=>do
 let l := ("T3 List.cons.injEq D.int.injEq D.tup.injEq D.lst.injEq and_true true_and and_imp HF Hb FE Ij IL IT Im Ha J6 Ih II".splitOn " ").toArray.map λs => Lean.mkIdent s.toName
 `(tactic| (apply propext; constructor; (intro h; repeat (first | (let⟨e, h⟩ := h; revert e; simp only [$[$l:ident],*]; intros; subst_vars; assumption) | let⟨_, h⟩ := h)); (intro q; repeat (first | calc ⟨rfl, q⟩ | apply Exists.intro))))
section
variable(κ:UR)(Q:D->Prop)(Ed:Value->Prop)
abbrev iY(d:D):Prop:=Q (.bl (isI d))
def ml(κ:UR):DSp:=λa Q Ed=>∃(d:D),a=[d]/\iY Q d
def xW (d:D):ml κ [d] Q Ed=iY Q d:=by z_go
abbrev rZ(n:Int):Prop:=Q (.int (sg n))
def ye(κ:UR):DSp:=λa Q Ed=>∃(n:Int),a=[.int n]/\rZ Q n
def FY (n:Int):ye κ [.int n] Q Ed=rZ Q n:=by z_go
abbrev fx(a:Int)(b:Int):Prop:=Q (.int (Int.gcd a b:Int))
def fC(κ:UR):DSp:=λc Q Ed=>∃(a:Int) (b:Int),c=[.int a,.int b]/\fx Q a b
def oP (a:Int) (b:Int):fC κ [.int a,.int b] Q Ed=fx Q a b:=by z_go
abbrev jh(ns:yaf):Prop:=#[ns]<100/\cg 0 ns≠0/\Bd 1000 (cg 0 ns)/\Q (.lst true ((dq ns).map D.int))
def jj(κ:UR):DSp:=λb Q Ed=>∃(a:yaf),b=[.lst false (a.map D.int)]/\jh Q a
def k7 (ns:yaf):jj κ [.lst false (ns.map D.int)] Q Ed=jh Q ns:=by z_go
abbrev nY(x y z:Int)(l:Int):Prop:=¬(x=0/\y=0/\z=0)/\Bd 4000 x/\Bd 4000 y/\Bd 4000 z/\Q (T3 (x.fdiv (PM.VB x y z l)) (y.fdiv (PM.VB x y z l)) (z.fdiv (PM.VB x y z l)))
def oX(κ:UR):DSp:=λa Q Ed=>∃(x y z:Int) (l:Int),a=[T3 x y z,.int l]/\nY Q x y z l
def zI (x y z:Int) (l:Int):oX κ [T3 x y z,.int l] Q Ed=nY Q x y z l:=by z_go
abbrev nX(n:Int)(s:Int):Prop:=∃m t:Nat,n=(m:Int)/\s=(t:Int)/\m<=1000/\t<=2/\Q (.lst true ((WO m t).map Y1))
def uE(κ:UR):DSp:=λa Q Ed=>∃(n:Int) (s:Int),a=[.int n,.int s]/\nX Q n s
def C9 (n:Int) (s:Int):uE κ [.int n,.int s] Q Ed=nX Q n s:=by z_go
abbrev ui(g0 g1 g2:Int)(p0 p1 p2:Int):Prop:=Bd 1000 g0/\Bd 1000 g1/\Bd 1000 g2/\Bd 1000 p0/\Bd 1000 p1/\Bd 1000 p2/\Q (.int (g0*p0+g1*p1+g2*p2))
def uH(κ:UR):DSp:=λg Q Ed=>∃(f e d:Int) (c b a:Int),g=[T3 f e d,T3 c b a]/\ui Q f e d c b a
def De (f e d:Int) (c b a:Int):uH κ [T3 f e d,T3 c b a] Q Ed=ui Q f e d c b a:=by z_go
abbrev kx(g0 g1 g2:Int)(p0 p1 p2:Int):Prop:=Bd 1000 g0/\Bd 1000 g1/\Bd 1000 g2/\Bd 1000 p0/\Bd 1000 p1/\Bd 1000 p2/\Q (.int (sg (g0*p0+g1*p1+g2*p2)))
def iR(κ:UR):DSp:=λg Q Ed=>∃(f e d:Int) (c b a:Int),g=[T3 f e d,T3 c b a]/\kx Q f e d c b a
def j7 (f e d:Int) (c b a:Int):iR κ [T3 f e d,T3 c b a] Q Ed=kx Q f e d c b a:=by z_go
abbrev lZ(g0 g1 g2:Int):Prop:=Q (.bl (decide (g1=0/\g2=0)))
def mj(κ:UR):DSp:=λd Q Ed=>∃(c b a:Int),d=[T3 c b a]/\lZ Q c b a
def xV (c b a:Int):mj κ [T3 c b a] Q Ed=lZ Q c b a:=by z_go
abbrev jU(a0 a1 a2:Int)(b0 b1 b2:Int):Prop:=Bd 200 a0/\Bd 200 a1/\Bd 200 a2/\Bd 200 b0/\Bd 200 b1/\Bd 200 b2/\Q (T3 (a1*b2 - b1*a2) (a2*b0 - b2*a0) (a0*b1 - b0*a1))
def j5(κ:UR):DSp:=λg Q Ed=>∃(f e d:Int) (c b a:Int),g=[T3 f e d,T3 c b a]/\jU Q f e d c b a
def pJ (a0 e d:Int) (c b a:Int):j5 κ [T3 a0 e d,T3 c b a] Q Ed=jU Q a0 e d c b a:=by z_go
abbrev xE(a0 a1 a2:Int)(b0 b1 b2:Int):Prop:=Bd 200 a0/\Bd 200 a1/\Bd 200 a2/\Bd 200 b0/\Bd 200 b1/\Bd 200 b2/\¬(a2*b0 - b2*a0=0/\a0*b1 - b0*a1=0)/\Q (Ug (FF (a1*b2 - b1*a2) (a2*b0 - b2*a0) (a0*b1 - b0*a1)))
def xZ(κ:UR):DSp:=λg Q Ed=>∃(f e d:Int) (c b a:Int),g=[T3 f e d,T3 c b a]/\xE Q f e d c b a
def FV (a0 e d:Int) (c b a:Int):xZ κ [T3 a0 e d,T3 c b a] Q Ed=xE Q a0 e d c b a:=by z_go
abbrev jg(p0 p1 p2:Int)(w:Sp):Prop:=Bd 200 p0/\Bd 200 p1/\Bd 200 p2/\WB 200 w/\Q (T3 (-(w.1*p1+w.2*p2)) (w.1*p0) (w.2*p0))
def cM(κ:UR):DSp:=λd Q Ed=>∃(c b a:Int) (w:Sp),d=[T3 c b a,UD w]/\jg Q c b a w
def kZ (c b a:Int) (w:Sp):cM κ [T3 c b a,UD w] Q Ed=jg Q c b a w:=by z_go
abbrev ug(b:Int)(x:Int)(y:Int):Prop:=b≠0/\Bd 4000 b/\Bd 4000 x/\Bd 4000 y/\Q (vT b x y)
def uF(κ:UR):DSp:=λa Q Ed=>∃(b:Int) (x:Int) (y:Int),a=[.int b,.int x,.int y]/\ug Q b x y
def Dc (b:Int) (x:Int) (y:Int):uF κ [.int b,.int x,.int y] Q Ed=ug Q b x y:=by z_go
abbrev l5(a b:Int):Prop:=Q (T3 1 a b)
def mv(κ:UR):DSp:=λc Q Ed=>∃(a b:Int),c=[.tup [.int a,.int b]]/\l5 Q a b
def x9 (a b:Int):mv κ [.tup [.int a,.int b]] Q Ed=l5 Q a b:=by z_go
abbrev rX(a0 a1 a2:Int)(b0 b1 b2:Int):Prop:=Bd 1000 a0/\Bd 1000 a1/\Bd 1000 a2/\Bd 1000 b0/\Bd 1000 b1/\Bd 1000 b2/\Q (.int (rk a0 a1 a2 b0 b1 b2))
def si(κ:UR):DSp:=λg Q Ed=>∃(f e d:Int) (c b a:Int),g=[T3 f e d,T3 c b a]/\rX Q f e d c b a
def wG (a0 e d:Int) (c b a:Int):si κ [T3 a0 e d,T3 c b a] Q Ed=rX Q a0 e d c b a:=by z_go
abbrev n8(a0 a1 a2:Int)(b0 b1 b2:Int)(c0 c1 c2:Int):Prop:=Bd 1000 a0/\Bd 1000 a1/\Bd 1000 a2/\Bd 1000 b0/\Bd 1000 b1/\Bd 1000 b2/\Bd 1000 c0/\Bd 1000 c1/\Bd 1000 c2/\Q (.int (sw a0 a1 a2 b0 b1 b2 c0 c1 c2))
def oZ(κ:UR):DSp:=λj Q Ed=>∃(i h g:Int) (f e d:Int) (c b a:Int),j=[T3 i h g,T3 f e d,T3 c b a]/\n8 Q i h g f e d c b a
def tw (a0 g f:Int) (e d c:Int) (c0 b a:Int):oZ κ [T3 a0 g f,T3 e d c,T3 c0 b a] Q Ed=n8 Q a0 g f e d c c0 b a:=by z_go
abbrev nU(a0 a1 a2:Int)(b0 b1 b2:Int):Prop:=Bd 200 a0/\Bd 200 a1/\Bd 200 a2/\Bd 200 b0/\Bd 200 b1/\Bd 200 b2/\Q (.tup [.int (a0*b1 - b0*a1),.int (a0*b2 - b0*a2)])
def oM(κ:UR):DSp:=λg Q Ed=>∃(f e d:Int) (c b a:Int),g=[T3 f e d,T3 c b a]/\nU Q f e d c b a
def sZ (a0 e d:Int) (c b a:Int):oM κ [T3 a0 e d,T3 c b a] Q Ed=nU Q a0 e d c b a:=by z_go
abbrev xG(a:Sp)(b:Sp):Prop:=WB 400 a/\WB 400 b/\Q (.int (tn a b))
def yh(κ:UR):DSp:=λc Q Ed=>∃(a:Sp) (b:Sp),c=[UD a,UD b]/\xG Q a b
def FZ (a:Sp) (b:Sp):yh κ [UD a,UD b] Q Ed=xG Q a b:=by z_go
abbrev rT(w:Sp):Prop:=Q (UD (V4 w))
def mX(κ:UR):DSp:=λa Q Ed=>∃(w:Sp),a=[UD w]/\rT Q w
theorem wA (w:Sp):mX κ [UD w] Q Ed=rT Q w:=by z_go
abbrev jY(w:Sp):Prop:=Q (UD (VH w))
def j6(κ:UR):DSp:=λa Q Ed=>∃(w:Sp),a=[UD w]/\jY Q w
theorem pK (w:Sp):j6 κ [UD w] Q Ed=jY Q w:=by z_go
abbrev gT(d:D)(l:Int)(m:Int):Prop:=Q (.bl (within d l m))
def k6(κ:UR):DSp:=λa Q Ed=>∃(d:D) (l:Int) (m:Int),a=[d,.int l,.int m]/\gT Q d l m
def wC (d:D) (l:Int) (m:Int):k6 κ [d,.int l,.int m] Q Ed=gT Q d l m:=by z_go
abbrev dJ(d:D):Prop:=Q (.bl (crd d))
def fY(κ:UR):DSp:=λa Q Ed=>∃(d:D),a=[d]/\dJ Q d
def pN (d:D):fY κ [d] Q Ed=dJ Q d:=by z_go
abbrev nZ(p:Dt):Prop:=Q (.tup [.int p.1,.int p.2.1])
def oY(κ:UR):DSp:=λa Q Ed=>∃(p:Dt),a=[Ui p]/\nZ Q p
def zJ (p:Dt):oY κ [Ui p] Q Ed=nZ Q p:=by z_go
abbrev l6(ps:List Dt):Prop:=#[ps]<=60/\Q (.lst true ((ps.map VZ).map UD))
def mz(κ:UR):DSp:=λb Q Ed=>∃(a:List Dt),b=[.lst false (a.map Ui)]/\l6 Q a
def yf (ps:List Dt):mz κ [.lst false (ps.map Ui)] Q Ed=l6 Q ps:=by z_go
abbrev kQ(ps:List Dt)(col:D):Prop:=∃cs:Int->Bool,uO col cs/\#[ps]<=60/\Q (.lst true ((ps.filter λp=>cs p.2.2.1).map Ui))
def k8(κ:UR):DSp:=λc Q Ed=>∃(b:List Dt) (a:D),c=[.lst false (b.map Ui),a]/\kQ Q b a
def wD (ps:List Dt) (col:D):k8 κ [.lst false (ps.map Ui),col] Q Ed=kQ Q ps col:=by z_go
abbrev uh(ps:List Dt)(col:D):Prop:=∃cs:Int->Bool,uO col cs/\#[ps]<=60/\Q (.int (tot cs ps))
def gc(κ:UR):DSp:=λc Q Ed=>∃(b:List Dt) (a:D),c=[.lst false (b.map Ui),a]/\uh Q b a
def Dd (ps:List Dt) (col:D):gc κ [.lst false (ps.map Ui),col] Q Ed=uh Q ps col:=by z_go
abbrev j1(ps:List Dt)(g0 g1 g2:Int)(col:D):Prop:=∃cs:Int->Bool,uO col cs/\#[ps]<=60/\Bd 1000 g0/\Bd 1000 g1/\Bd 1000 g2/\(∀p∈ps,GD p)/\Q (.tup [.int (wt cs g0 g1 g2 (-1) ps),.int (wt cs g0 g1 g2 0 ps),.int (wt cs g0 g1 g2 1 ps)])
def fq(κ:UR):DSp:=λf Q Ed=>∃(b:List Dt) (e d c:Int) (a:D),f=[.lst false (b.map Ui),T3 e d c,a]/\j1 Q b e d c a
def pL (ps:List Dt) (c b a:Int) (col:D):fq κ [.lst false (ps.map Ui),T3 c b a,col] Q Ed=j1 Q ps c b a col:=by z_go
abbrev lK(d:D):Prop:=Q (.bl (dI d))
def qS(κ:UR):DSp:=λa Q Ed=>∃(d:D),a=[d]/\lK Q d
def Ca (d:D):qS κ [d] Q Ed=lK Q d:=by z_go
abbrev gR(d:D):Prop:=(dI d=true/\Q .UE)∨(dI d=false/\Ed (.ref κ.NoMap))
def kY(κ:UR):DSp:=λa Q Ed=>∃(d:D),a=[d]/\gR κ Q Ed d
def wB (d:D):kY κ [d] Q Ed=gR κ Q Ed d:=by z_go
abbrev nW(p0 p1 p2:Int)(m:M6):Prop:=Bd 300 p0/\Bd 300 p1/\Bd 300 p2/\MB m/\Q (T3 p0 (m.1*p1+m.2.1*p2+m.2.2.2.2.1*p0) (m.2.2.1*p1+m.2.2.2.1*p2+m.2.2.2.2.2*p0))
def uC(κ:UR):DSp:=λd Q Ed=>∃(c b a:Int) (m:M6),d=[T3 c b a,Zt m]/\nW Q c b a m
def C8 (c b a:Int) (m:M6):uC κ [T3 c b a,Zt m] Q Ed=nW Q c b a m:=by z_go
abbrev i6(p:Dt)(m:M6):Prop:=Bd 60 p.1/\Bd 60 p.2.1/\MB m/\((lH m p=true/\Q (Ui (bJ m p)))∨(lH m p=false/\Ed (.ref κ.NoDots)))
def mw(κ:UR):DSp:=λa Q Ed=>∃(p:Dt) (m:M6),a=[Ui p,Zt m]/\i6 κ Q Ed p m
def yc (p:Dt) (m:M6):mw κ [Ui p,Zt m] Q Ed=i6 κ Q Ed p m:=by z_go
abbrev rY(ps:List Dt)(d:D):Prop:=(dI d=false/\Ed (.ref κ.NoMap))∨∃ m:M6,d=Zt m/\MB m/\dI d=true/\#[ps]<=60/\(∀p∈ps,Bd 60 p.1/\Bd 60 p.2.1)/\((ps.all (lH m)=true/\Q (.lst true ((ps.map (bJ m)).map Ui)))∨(ps.all (lH m)=false/\Ed (.ref κ.NoDots)))
def yb(κ:UR):DSp:=λb Q Ed=>∃(a:List Dt) (d:D),b=[.lst false (a.map Ui),d]/\rY κ Q Ed a d
def FX (ps:List Dt) (d:D):yb κ [.lst false (ps.map Ui),d] Q Ed=rY κ Q Ed ps d:=by z_go
abbrev dP(p0 p1 p2:Int)(d:D):Prop:=(dI d=false/\Ed (.ref κ.NoMap))∨∃ m:M6,d=Zt m/\MB m/\dI d=true/\0<p0/\Bd 300 p0/\Bd 300 p1/\Bd 300 p2/\Q (vT p0 (m.1*p1+m.2.1*p2+m.2.2.2.2.1*p0) (m.2.2.1*p1+m.2.2.2.1*p2+m.2.2.2.2.2*p0))
def fN(κ:UR):DSp:=λe Q Ed=>∃(c b a:Int) (d:D),e=[T3 c b a,d]/\dP κ Q Ed c b a d
def lg (c b a:Int) (d:D):fN κ [T3 c b a,d] Q Ed=dP κ Q Ed c b a d:=by z_go
abbrev kN(ps:yas):Prop:=#[ps]<64/\(∀p∈ps,SB p)/\Q (.lst true ((bN [] ps).reverse.map VU))
def uA(κ:UR):DSp:=λb Q Ed=>∃(a:yas),b=[.lst false (a.map VU)]/\kN Q a
def tj (ps:yas):uA κ [.lst false (ps.map VU)] Q Ed=kN Q ps:=by z_go
abbrev rW(ps:yas):Prop:=#[ps]<64/\(∀p∈ps,SB p)/\∀ys,bC ys ps->#[ys]<=#[ps]->Q (.lst true ((aM ys).map VU))
def xU(κ:UR):DSp:=λb Q Ed=>∃(a:yas),b=[.lst false (a.map UD)]/\rW Q a
def FU (ps:yas):xU κ [.lst false (ps.map UD)] Q Ed=rW Q ps:=by z_go
abbrev fe(a:Sp)(b:Sp):Prop:=SB a/\SB b/\Q (.lst true ((fO a b).map Ug))
def iS(κ:UR):DSp:=λc Q Ed=>∃(a:Sp) (b:Sp),c=[VU a,VU b]/\fe Q a b
def jN (a:Sp) (b:Sp):iS κ [VU a,VU b] Q Ed=fe Q a b:=by z_go
abbrev lJ(hs:yas):Prop:=0<#[hs]/\#[hs]<200/\(∀p∈hs,SB p)/\Q (.lst true ((aU hs).map Ug))
def qP(κ:UR):DSp:=λb Q Ed=>∃(a:yas),b=[.lst false (a.map VU)]/\lJ Q a
def qQ (hs:yas):qP κ [.lst false (hs.map VU)] Q Ed=lJ Q hs:=by z_go
abbrev gU(ps:List Dt)(ij:(Nat×Nat)):Prop:=ij.1<#[ps]/\ij.2<#[ps]/\Q (.bl (decide (VZ (gp ps ij.1)≠VZ (gp ps ij.2))))
def ie(κ:UR):DSp:=λc Q Ed=>∃(a:List Dt) (b:(Nat×Nat)),c=[.lst false (a.map Ui),ZM b]/\gU Q a b
def qU (ps:List Dt) (a:(Nat×Nat)):ie κ [.lst false (ps.map Ui),ZM a] Q Ed=gU Q ps a:=by z_go
abbrev jC(ps:List Dt):Prop:=#[ps]<=60/\Q (.lst true (((prs #[ps]).filter λij=>decide (VZ (gp ps ij.1)≠VZ (gp ps ij.2))).map ZM))
def jM(κ:UR):DSp:=λb Q Ed=>∃(a:List Dt),b=[.lst false (a.map Ui)]/\jC Q a
def uG (ps:List Dt):jM κ [.lst false (ps.map Ui)] Q Ed=jC Q ps:=by z_go
abbrev kR(ps:List Dt)(ij:(Nat×Nat)):Prop:=ij.1<#[ps]/\ij.2<#[ps]/\(∀p∈ps,GD p)/\VZ (gp ps ij.1)≠VZ (gp ps ij.2)/\Q (Ug (lnF (gp ps ij.1) (gp ps ij.2)))
def k9(κ:UR):DSp:=λc Q Ed=>∃(a:List Dt) (b:(Nat×Nat)),c=[.lst false (a.map Ui),ZM b]/\kR Q a b
def wF (ps:List Dt) (a:(Nat×Nat)):k9 κ [.lst false (ps.map Ui),ZM a] Q Ed=kR Q ps a:=by z_go
abbrev fH(ps:List Dt)(ls:yat):Prop:=#[ps]<=60/\(∀p∈ps,GD p)/\#[ls]<=63/\(∀g∈ls,Bd 1000 g.1/\Bd 1000 g.2.1/\Bd 1000 g.2.2)/\∀ys,bD ys ls->Q (.lst true (ys.map (BQ ps)))
def my(κ:UR):DSp:=λc Q Ed=>∃(a:List Dt) (b:yat),c=[.lst false (a.map Ui),.lst false (b.map Ug)]/\fH Q a b
def ng (ps:List Dt) (a:yat):my κ [.lst false (ps.map Ui),.lst false (a.map Ug)] Q Ed=fH Q ps a:=by z_go
abbrev jB(ps:List Dt):Prop:=#[ps]<=30/\(∀p∈ps,GD p)/\Q (.lst true ((qt ps).map Ug))
def jL(κ:UR):DSp:=λb Q Ed=>∃(a:List Dt),b=[.lst false (a.map Ui)]/\jB Q a
def uD (ps:List Dt):jL κ [.lst false (ps.map Ui)] Q Ed=jB Q ps:=by z_go
abbrev qA(w:Sp):Prop:=Q (.int (bF w))
def qT(κ:UR):DSp:=λa Q Ed=>∃(w:Sp),a=[UD w]/\qA Q w
def Cc (w:Sp):qT κ [UD w] Q Ed=qA Q w:=by z_go
abbrev d8(a:Sp)(b:Sp):Prop:=WB 400 a/\WB 400 b/\Q (.bl (decide (tn a b=0/\TP a b<0)))
def ib(κ:UR):DSp:=λc Q Ed=>∃(a:Sp) (b:Sp),c=[UD a,UD b]/\d8 Q a b
def qO (a:Sp) (b:Sp):ib κ [UD a,UD b] Q Ed=d8 Q a b:=by z_go
abbrev fv(a:Sp)(b:Sp):Prop:=WB 400 a/\WB 400 b/\Q (oL (pW a b))
def fB(κ:UR):DSp:=λc Q Ed=>∃(a:Sp) (b:Sp),c=[UD a,UD b]/\fv Q a b
def oO (a:Sp) (b:Sp):fB κ [UD a,UD b] Q Ed=fv Q a b:=by z_go
abbrev dW(a:Sp)(b:Sp)(e:Sp):Prop:=WB 400 a/\WB 400 b/\WB 400 e/\Q (oL (lS a b e))
def dY(κ:UR):DSp:=λc Q Ed=>∃(a:Sp) (b:Sp) (e:Sp),c=[UD a,UD b,UD e]/\dW Q a b e
def mf (a:Sp) (b:Sp) (e:Sp):dY κ [UD a,UD b,UD e] Q Ed=dW Q a b e:=by z_go
abbrev jT(ws:yas):Prop:=0<#[ws]/\#[ws]<4/\(∀w∈ws,WB 400 w)/\Q (oL (lT ws))
def oN(κ:UR):DSp:=λb Q Ed=>∃(a:yas),b=[.lst false (a.map UD)]/\jT Q a
def pH (ws:yas):oN κ [.lst false (ws.map UD)] Q Ed=jT Q ws:=by z_go
abbrev dM(a0 a1 a2:Int)(b0 b1 b2:Int)(g0 g1 g2:Int):Prop:=Bd 200 a0/\Bd 200 a1/\Bd 200 a2/\Bd 200 b0/\Bd 200 b1/\Bd 200 b2/\Bd 200 g0/\Bd 200 g1/\Bd 200 g2/\(Vm (g0,g1,g2) (a0,a1,a2) (b0,b1,b2)).1≠0/\Q (Ug (cD (g0,g1,g2) (a0,a1,a2) (b0,b1,b2)))
def dO(κ:UR):DSp:=λj Q Ed=>∃(i h g:Int) (f e d:Int) (c b a:Int),j=[T3 i h g,T3 f e d,T3 c b a]/\dM Q i h g f e d c b a
def iq (a0 h g:Int) (f e d:Int) (c b a:Int):dO κ [T3 a0 h g,T3 f e d,T3 c b a] Q Ed=dM Q a0 h g f e d c b a:=by z_go
abbrev eY(cs:yat)(g0 g1 g2:Int):Prop:=#[cs]<=1000000/\(∀p∈cs,0<p.1/\CB 40 p)/\Bd 200 g0/\Bd 200 g1/\Bd 200 g2/\Q (.lst true ((cO (g0,g1,g2) cs).map Ug))
def ic(κ:UR):DSp:=λe Q Ed=>∃(d:yat) (c b a:Int),e=[.lst false (d.map Ug),T3 c b a]/\eY Q d c b a
def jJ (cs:yat) (c b a:Int):ic κ [.lst false (cs.map Ug),T3 c b a] Q Ed=eY Q cs c b a:=by z_go
abbrev qz(cs:yat)(gs:yat):Prop:=#[gs]<=1000/\(∀j,j<#[gs]->#[aQ (gs.take j) cs]<=1000000/\∀p∈aQ (gs.take j) cs,0<p.1/\CB 40 p)/\(∀g∈gs,Bd 200 g.1/\Bd 200 g.2.1/\Bd 200 g.2.2)/\∀t:Bool,Q (.lst t ((aQ gs cs).map Ug))
def qR(κ:UR):DSp:=λc Q Ed=>∃(b:yat) (a:yat),c=[.lst false (b.map Ug),.lst false (a.map Ug)]/\qz Q b a
def B9 (cs:yat) (gs:yat):qR κ [.lst false (cs.map Ug),.lst false (gs.map Ug)] Q Ed=qz Q cs gs:=by z_go
abbrev vU(cs:yat):Prop:=#[cs]<=1000000/\(∀p∈cs,CB 40 p)/\Q (.lst true ((fR cs).map Ug))
def Cb(κ:UR):DSp:=λb Q Ed=>∃(a:yat),b=[.lst false (a.map Ug)]/\vU Q a
def IJ (cs:yat):Cb κ [.lst false (cs.map Ug)] Q Ed=vU Q cs:=by z_go
abbrev iE(cs:yat)(gs:yat):Prop:=#[gs]<=1000/\(∀j,j<=#[gs]->#[aQ (gs.take j) cs]<=1000000/\∀p∈aQ (gs.take j) cs,0<p.1/\CB 40 p)/\(∀g∈gs,Bd 200 g.1/\Bd 200 g.2.1/\Bd 200 g.2.2)/\∃last:Nat,last<#[gs]/\(∀j,j<=last->aQ (gs.take j) cs ≠ [])/\aQ (gs.take (last+1)) cs=[]/\Q (.int (last:Int))
def iO(κ:UR):DSp:=λc Q Ed=>∃(b:yat) (a:yat),c=[.lst false (b.map Ug),.lst false (a.map Ug)]/\iE Q b a
def sJ (cs:yat) (gs:yat):iO κ [.lst false (cs.map Ug),.lst false (gs.map Ug)] Q Ed=iE Q cs gs:=by z_go
abbrev fG(gs:yat)(ns:yaf)(sh:yaf):Prop:=∃pk:yag,ns=pk.map (λ(k:Nat)=>(k:Int))/\#[pk]=#[sh]/\#[pk]<=3/\(∀k∈pk,k<#[gs])/\(∀g∈gs,Bd 200 g.1)/\(∀s∈sh,Bd 900 s)/\Q (.int (w9 gs pk sh))
def mh(κ:UR):DSp:=λd Q Ed=>∃(c:yat) (b:yaf) (a:yaf),d=[.lst false (c.map Ug),.lst false (b.map D.int),.lst false (a.map D.int)]/\fG Q c b a
def mY (gs:yat) (ns:yaf) (sh:yaf):mh κ [.lst false (gs.map Ug),.lst false (ns.map D.int),.lst false (sh.map D.int)] Q Ed=fG Q gs ns sh:=by z_go
abbrev rV(cs:yat)(gs:yat):Prop:=#[gs]<=1000/\(∀j,j<=#[gs]->#[aQ (gs.take j) cs]<=1000000/\∀p∈aQ (gs.take j) cs,0<p.1/\CB 40 p)/\(∀g∈gs,Bd 200 g.1/\Bd 200 g.2.1/\Bd 200 g.2.2)/\∃last:Nat,last<#[gs]/\(∀j,j<=last->aQ (gs.take j) cs ≠ [])/\aQ (gs.take (last+1)) cs=[]/\∃r:yag×yaf,iy gs last (WO last 1++WO last 2)=some r/\Q (.lst true ((r.1.zip r.2).map uw))
def xS(κ:UR):DSp:=λc Q Ed=>∃(b:yat) (a:yat),c=[.lst false (b.map Ug),.lst false (a.map Ug)]/\rV Q b a
def FT (cs:yat) (gs:yat):xS κ [.lst false (cs.map Ug),.lst false (gs.map Ug)] Q Ed=rV Q cs gs:=by z_go
abbrev jA(ps:List Dt):Prop:=#[ps]<=60/\Q (.lst true ((axL ps).map Ug))
def jI(κ:UR):DSp:=λb Q Ed=>∃(a:List Dt),b=[.lst false (a.map Ui)]/\jA Q a
def uz (ps:List Dt):jI κ [.lst false (ps.map Ui)] Q Ed=jA Q ps:=by z_go
abbrev i5(g0 g1 g2:Int):Prop:=Q (T3 (-g0) (-g1) (-g2))
def ja(κ:UR):DSp:=λd Q Ed=>∃(c b a:Int),d=[T3 c b a]/\i5 Q c b a
def nc (c b a:Int):ja κ [T3 c b a] Q Ed=i5 Q c b a:=by z_go
abbrev eZ(ps:List Dt):Prop:=#[ps]<=8/\(∀p∈ps,GD p)/\∀zs,bD zs (Xn ps)->Q (.lst true ((bT ps zs).map cA))
def iN(κ:UR):DSp:=λb Q Ed=>∃(a:List Dt),b=[.lst false (a.map Ui)]/\eZ Q a
def sI (ps:List Dt):iN κ [.lst false (ps.map Ui)] Q Ed=eZ Q ps:=by z_go
abbrev xF(xs:List Zu)(w:Int):Prop:=#[xs]<=2000/\Q (.lst true ((cP xs w).map Ug))
def ya(κ:UR):DSp:=λb Q Ed=>∃(a:List Zu) (w:Int),b=[.lst false (a.map cA),.int w]/\xF Q a w
def FW (xs:List Zu) (w:Int):ya κ [.lst false (xs.map cA),.int w] Q Ed=xF Q xs w:=by z_go
abbrev nV(ps:List Dt):Prop:=#[ps]<=20/\(∀p∈ps,GD p)/\∀ys,bC ys (ps.map VZ)->Q (.lst true (((aM ys).map sT).map Ug))
def oU(κ:UR):DSp:=λb Q Ed=>∃(a:List Dt),b=[.lst false (a.map Ui)]/\nV Q a
def zF (ps:List Dt):oU κ [.lst false (ps.map Ui)] Q Ed=nV Q ps:=by z_go
abbrev dN(ps:List Dt)(xs:List Zu)(l:Int):Prop:=bS ps/\(∃zs,bD zs (Xn ps)/\xs=bT ps zs)/\∀zs ys,bD zs (Xn ps)->bC ys (ps.map VZ)->Q (.lst true ((fR (bM ps zs ys (aF ps - l+1))).map Ug))
def fZ(κ:UR):DSp:=λc Q Ed=>∃(b:List Dt) (a:List Zu) (l:Int),c=[.lst false (b.map Ui),.lst false (a.map cA),.int l]/\dN Q b a l
def pO (ps:List Dt) (xs:List Zu) (l:Int):fZ κ [.lst false (ps.map Ui),.lst false (xs.map cA),.int l] Q Ed=dN Q ps xs l:=by z_go
abbrev qB(ps:List Dt)(l:Int):Prop:=bS ps/\1<=l/\l<=aF ps/\∀zs ys,bD zs (Xn ps)->bC ys (ps.map VZ)->Q (.lst true ((fR (bM ps zs ys (aF ps - l+1))).map Ug))
def qW(κ:UR):DSp:=λb Q Ed=>∃(a:List Dt) (l:Int),b=[.lst false (a.map Ui),.int l]/\qB Q a l
def Ce (ps:List Dt) (l:Int):qW κ [.lst false (ps.map Ui),.int l] Q Ed=qB Q ps l:=by z_go
abbrev fy(ps:List Dt)(xs:List Zu):Prop:=bS ps/\(∃zs,bD zs (Xn ps)/\xs=bT ps zs)/\∀n,GrD ps n->Q (.int n)
def fE(κ:UR):DSp:=λc Q Ed=>∃(b:List Dt) (a:List Zu),c=[.lst false (b.map Ui),.lst false (a.map cA)]/\fy Q b a
def oS (ps:List Dt) (xs:List Zu):fE κ [.lst false (ps.map Ui),.lst false (xs.map cA)] Q Ed=fy Q ps xs:=by z_go
abbrev eA(ps:List Dt)(xs:List Zu)(n:Int):Prop:=bS ps/\(∃zs,bD zs (Xn ps)/\xs=bT ps zs)/\GrD ps n/\∀L,SbR ps n L->Q (.lst true (L.map brD))
def ik(κ:UR):DSp:=λc Q Ed=>∃(b:List Dt) (a:List Zu) (n:Int),c=[.lst false (b.map Ui),.lst false (a.map cA),.int n]/\eA Q b a n
def qX (ps:List Dt) (xs:List Zu) (n:Int):ik κ [.lst false (ps.map Ui),.lst false (xs.map cA),.int n] Q Ed=eA Q ps xs n:=by z_go
abbrev jV(ps:List Dt):Prop:=(ps=[]/\Ed (.ref κ.TooFew))∨(12<#[ps]/\Ed (.ref κ.TooMany))∨(bS ps/\#[ps]<=12/\∀n y L zs ys r,bD zs (Xn ps)->bC ys (ps.map VZ)->GrD ps n->fR (bM ps zs ys (aF ps - n+1))=y::r->SbR ps n L->Q (.tup [.int n,Ug y,.lst true (L.map brD)]))
def oQ(κ:UR):DSp:=λb Q Ed=>∃(a:List Dt),b=[.lst false (a.map Ui)]/\jV κ Q Ed a
def zE (ps:List Dt):oQ κ [.lst false (ps.map Ui)] Q Ed=jV κ Q Ed ps:=by z_go
abbrev d9(ps:List Dt)(g0 g1 g2:Int):Prop:=#[ps]<=60/\Bd 1000 g0/\Bd 1000 g1/\Bd 1000 g2/\(∀p∈ps,GD p)/\Q (.int (Yn (g0,g1,g2) ps))
def ig(κ:UR):DSp:=λe Q Ed=>∃(a:List Dt) (d c b:Int),e=[.lst false (a.map Ui),T3 d c b]/\d9 Q a d c b
def qV (ps:List Dt) (c b a:Int):ig κ [.lst false (ps.map Ui),T3 c b a] Q Ed=d9 Q ps c b a:=by z_go
abbrev jZ(ps:List Dt)(h0 h1 h2:Int):Prop:=#[ps]<=30/\(∀p∈ps,GD p)/\HB (h0,h1,h2)/\Q (.lst true ((VI (h0,h1,h2) ps).map UD))
def o5(κ:UR):DSp:=λe Q Ed=>∃(a:List Dt) (d c b:Int),e=[.lst false (a.map Ui),T3 d c b]/\jZ Q a d c b
def zK (ps:List Dt) (h0 b a:Int):o5 κ [.lst false (ps.map Ui),T3 h0 b a] Q Ed=jZ Q ps h0 b a:=by z_go
abbrev iX(w:Sp)(ws:yas):Prop:=XU w/\(∀o∈ws,XU o)/\#[ws]<=60/\Q (UD (XT w ws))
def mi(κ:UR):DSp:=λb Q Ed=>∃(w:Sp) (a:yas),b=[UD w,.lst false (a.map UD)]/\iX Q w a
def xT (w:Sp) (ws:yas):mi κ [UD w,.lst false (ws.map UD)] Q Ed=iX Q w ws:=by z_go
abbrev i4(ps:List Dt)(h0 h1 h2:Int):Prop:=#[ps]<=30/\(∀p∈ps,GD p)/\HB (h0,h1,h2)/\∀g:Tr,IsL (h0,h1,h2) ps g->GBh g->Q (T3 g.1 g.2.1 g.2.2)
def i9(κ:UR):DSp:=λe Q Ed=>∃(a:List Dt) (d c b:Int),e=[.lst false (a.map Ui),T3 d c b]/\i4 Q a d c b
def xY (ps:List Dt) (h0 b a:Int):i9 κ [.lst false (ps.map Ui),T3 h0 b a] Q Ed=i4 Q ps h0 b a:=by z_go
abbrev kO(ps:List Dt)(h0 h1 h2:Int):Prop:=#[ps]<=30/\(∀p∈ps,GD p)/\HB (h0,h1,h2)/\∀g:Tr,IsL (h0,h1,h2) ps g->Q (.int (Yn g ps))
def oR(κ:UR):DSp:=λe Q Ed=>∃(a:List Dt) (d c b:Int),e=[.lst false (a.map Ui),T3 d c b]/\kO Q a d c b
def tu (ps:List Dt) (h0 b a:Int):oR κ [.lst false (ps.map Ui),T3 h0 b a] Q Ed=kO Q ps h0 b a:=by z_go
abbrev fb(ns:yaf)(k:Int):Prop:=0<=k/\Q (.int (cel ns k))
def iP(κ:UR):DSp:=λb Q Ed=>∃(a:yaf) (k:Int),b=[.lst false (a.map D.int),.int k]/\fb Q a k
def sL (ns:yaf) (k:Int):iP κ [.lst false (ns.map D.int),.int k] Q Ed=fb Q ns k:=by z_go
abbrev iF(a:Int)(b:Int):Prop:=Q (.int (Int.gcd a b:Int))
def iQ(κ:UR):DSp:=λc Q Ed=>∃(a:Int) (b:Int),c=[.int a,.int b]/\iF Q a b
def sM (a:Int) (b:Int):iQ κ [.int a,.int b] Q Ed=iF Q a b:=by z_go
abbrev jW(c:Int)(k:Int)(v:Int):Prop:=0<=v/\v<=2/\∀p:Dt,GD p->BX k p.1->BX k p.2.1->0<p.2.2.2->Q (Ui p)
def oV(κ:UR):DSp:=λa Q Ed=>∃(c:Int) (k:Int) (v:Int),a=[.int c,.int k,.int v]/\jW Q c k v
def zG (c:Int) (k:Int) (v:Int):oV κ [.int c,.int k,.int v] Q Ed=jW Q c k v:=by z_go
abbrev iZ(ns:yaf)(s:Int)(m:Int):Prop:=#[ns]<=63/\s=8/\m=8/\∀ps:List Dt,bS ps->#[ps]<=8->(∀p∈ps,BX ((cel ns 0).fmod 6) p.1/\BX ((cel ns 0).fmod 6) p.2.1)->Q (.lst true (ps.map Ui))
def mr(κ:UR):DSp:=λb Q Ed=>∃(a:yaf) (s:Int) (m:Int),b=[.lst false (a.map D.int),.int s,.int m]/\iZ Q a s m
def xX (ns:yaf) (s:Int) (m:Int):mr κ [.lst false (ns.map D.int),.int s,.int m] Q Ed=iZ Q ns s m:=by z_go
abbrev fM(b:Int)(x:Int)(y:Int):Prop:=0<b/\Bd 64 b/\Bd 105 x/\Bd 105 y/\∀h:Tr,HL h->Pr h->Q (T3 h.1 h.2.1 h.2.2)
def jK(κ:UR):DSp:=λa Q Ed=>∃(b:Int) (x:Int) (y:Int),a=[.int b,.int x,.int y]/\fM Q b x y
def uB (b:Int) (x:Int) (y:Int):jK κ [.int b,.int x,.int y] Q Ed=fM Q b x y:=by z_go
abbrev cW(ps:List Dt)(c:Int):Prop:=0<#[ps]/\#[ps]<=30/\(∀p∈ps,GD p)/\∀h:Tr,HL h->Pr h->Q (T3 h.1 h.2.1 h.2.2)
def eQ(κ:UR):DSp:=λb Q Ed=>∃(a:List Dt) (c:Int),b=[.lst false (a.map Ui),.int c]/\cW Q a c
def mZ (ps:List Dt) (c:Int):eQ κ [.lst false (ps.map Ui),.int c] Q Ed=cW Q ps c:=by z_go
abbrev jX(ns:yaf):Prop:=#[ns]<=63/\∀m:M6,MS m->Q (Zt m)
def oW(κ:UR):DSp:=λb Q Ed=>∃(a:yaf),b=[.lst false (a.map D.int)]/\jX Q a
def zH (ns:yaf):oW κ [.lst false (ns.map D.int)] Q Ed=jX Q ns:=by z_go
end
section
variable(P:Program)(w:World)(K:yac)(mg:yal)(base:Heap)(κ:UR)
abbrev EG:Prop:=UT P w K mg base "is_whole" 1 ["thing"] (ml κ)
abbrev Gn:Prop:=UT P w K mg base "sign" 1 ["number"] (ye κ)
abbrev kz:Prop:=UT P w K mg base "common_divisor" 1 ["one", "other"] (fC κ)
abbrev Aa:Prop:=UT P w K mg base "lowest" 2 ["numbers"] (jj κ)
abbrev pU:Prop:=UT P w K mg base "reduced" 2 ["triple", "lead"] (oX κ)
abbrev Dn:Prop:=UT P w K mg base "picks" 1 ["count", "size"] (uE κ)
abbrev Dp:Prop:=UT P w K mg base "value" 1 ["gauge", "place"] (uH κ)
abbrev Gm:Prop:=UT P w K mg base "side" 2 ["gauge", "place"] (iR κ)
abbrev EF:Prop:=UT P w K mg base "is_level" 1 ["gauge"] (mj κ)
abbrev yr:Prop:=UT P w K mg base "crossed" 1 ["one", "other"] (j5 κ)
abbrev Om:Prop:=UT P w K mg base "line" 3 ["one", "other"] (xZ κ)
abbrev zY:Prop:=UT P w K mg base "facing" 1 ["place", "way"] (cM κ)
abbrev L3:Prop:=UT P w K mg base "place" 3 ["by", "x", "y"] (uF κ)
abbrev gH:Prop:=UT P w K mg base "place_of" 1 ["spot"] (mv κ)
abbrev Oo:Prop:=UT P w K mg base "rank" 2 ["one", "other"] (si κ)
abbrev L4:Prop:=UT P w K mg base "swing" 1 ["one", "two", "three"] (oZ κ)
abbrev Dl:Prop:=UT P w K mg base "arrow" 1 ["one", "other"] (oM κ)
abbrev Af:Prop:=UT P w K mg base "turn" 1 ["one", "other"] (yh κ)
abbrev Gf:Prop:=UT P w K mg base "back" 1 ["way"] (mX κ)
abbrev pT:Prop:=UT P w K mg base "left_of" 1 ["way"] (j6 κ)
abbrev Cq:Prop:=UT P w K mg base "is_within" 2 ["thing", "least", "most"] (k6 κ)
abbrev lC:Prop:=UT P w K mg base "is_coordinate" 3 ["thing"] (fY κ)
abbrev gh:Prop:=UT P w K mg base "spot_of" 1 ["dot"] (oY κ)
abbrev EM:Prop:=UT P w K mg base "spots_of" 2 ["dots"] (mz κ)
abbrev sO:Prop:=UT P w K mg base "of_colour" 1 ["dots", "colour"] (k8 κ)
abbrev Jh:Prop:=UT P w K mg base "is_map" 4 ["thing"] (qS κ)
abbrev sN:Prop:=UT P w K mg base "check_map" 5 ["by_map"] (kY κ)
abbrev Dm:Prop:=UT P w K mg base "moved" 1 ["place", "by_map"] (uC κ)
abbrev EK:Prop:=UT P w K mg base "sent_dot" 4 ["dot", "by_map"] (mw κ)
abbrev Oq:Prop:=UT P w K mg base "sent" 6 ["dots", "by_map"] (yb κ)
abbrev Ac:Prop:=UT P w K mg base "sent_place" 6 ["place", "by_map"] (fN κ)
abbrev LZ:Prop:=UT P w K mg base "chain" 2 ["places"] (uA κ)
abbrev Ol:Prop:=UT P w K mg base "hull" 3 ["spots"] (xU κ)
abbrev zj:Prop:=UT P w K mg base "thin_bounds" 2 ["one", "other"] (iS κ)
abbrev Jf:Prop:=UT P w K mg base "bounds" 3 ["corners"] (qP κ)
abbrev wV:Prop:=UT P w K mg base "on_two_spots" 2 ["dots", "pair"] (ie κ)
abbrev Ae:Prop:=UT P w K mg base "spot_pairs" 3 ["dots"] (jM κ)
abbrev Cr:Prop:=UT P w K mg base "pair_line" 4 ["dots", "pair"] (k9 κ)
abbrev EL:Prop:=UT P w K mg base "split_by" 4 ["dots", "lines"] (my κ)
abbrev Ab:Prop:=UT P w K mg base "pair_lines" 5 ["dots"] (jL κ)
abbrev z9:Prop:=UT P w K mg base "length" 1 ["way"] (qT κ)
abbrev wU:Prop:=UT P w K mg base "are_opposite" 2 ["one", "other"] (ib κ)
abbrev tF:Prop:=UT P w K mg base "balance_of_two" 3 ["one", "other"] (fB κ)
abbrev pR:Prop:=UT P w K mg base "balance_of_three" 3 ["one", "two", "three"] (dY κ)
abbrev Gg:Prop:=UT P w K mg base "balance" 4 ["ways"] (oN κ)
abbrev uP:Prop:=UT P w K mg base "place_between" 4 ["one", "other", "gauge"] (dO κ)
abbrev yq:Prop:=UT P w K mg base "clipped" 5 ["corners", "gauge"] (ic κ)
abbrev Jg:Prop:=UT P w K mg base "common" 6 ["corners", "gauges"] (qR κ)
abbrev Rv:Prop:=UT P w K mg base "led" 3 ["corners"] (Cb κ)
abbrev zf:Prop:=UT P w K mg base "last_needed" 6 ["corners", "gauges"] (iO κ)
abbrev ED:Prop:=UT P w K mg base "constant" 1 ["gauges", "numbers", "shares"] (mh κ)
abbrev Oj:Prop:=UT P w K mg base "bars" 7 ["corners", "gauges"] (xS κ)
abbrev zX:Prop:=UT P w K mg base "axis_lines" 1 ["dots"] (jI κ)
abbrev EJ:Prop:=UT P w K mg base "opposite" 1 ["gauge"] (ja κ)
abbrev pD:Prop:=UT P w K mg base "half_planes" 6 ["dots"] (iN κ)
abbrev Gk:Prop:=UT P w K mg base "rims" 1 ["planes", "weight"] (ya κ)
abbrev yu:Prop:=UT P w K mg base "hull_of" 4 ["dots"] (oU κ)
abbrev gJ:Prop:=UT P w K mg base "region_within" 7 ["dots", "planes", "least"] (fZ κ)
abbrev Ji:Prop:=UT P w K mg base "region" 8 ["dots", "least"] (qW κ)
abbrev tG:Prop:=UT P w K mg base "greatest_depth" 8 ["dots", "planes"] (fE κ)
abbrev wW:Prop:=UT P w K mg base "shallow_bars" 8 ["dots", "planes", "found"] (ik κ)
abbrev Gh:Prop:=UT P w K mg base "deepest" 9 ["dots"] (oQ κ)
abbrev mE:Prop:=UT P w K mg base "plane_weight" 4 ["dots", "gauge"] (ig κ)
abbrev Gr:Prop:=UT P w K mg base "ways_to" 2 ["dots", "place"] (o5 κ)
abbrev EE:Prop:=UT P w K mg base "free_way" 2 ["way", "ways"] (mi κ)
abbrev EI:Prop:=UT P w K mg base "lightest" 7 ["dots", "place"] (i9 κ)
abbrev L1:Prop:=UT P w K mg base "depth" 8 ["dots", "place"] (oR κ)
abbrev jr:Prop:=UT P w K mg base "_law_cell_at" 1 ["_law_script", "_law_k"] (iP κ)
abbrev zh:Prop:=UT P w K mg base "_law_divisor" 1 ["_law_one", "_law_other"] (iQ κ)
abbrev Gi:Prop:=UT P w K mg base "_law_dot" 1 ["_law_cell", "_law_kind", "_law_heavy"] (oV κ)
abbrev EH:Prop:=UT P w K mg base "_law_dots" 2 ["_law_script", "_law_start", "_law_most"] (mr κ)
abbrev zZ:Prop:=UT P w K mg base "_law_lowest" 2 ["_law_by", "_law_x", "_law_y"] (jK κ)
abbrev sC:Prop:=UT P w K mg base "_law_drawn_place" 3 ["_law_dots_here", "_law_cell"] (eQ κ)
abbrev Gj:Prop:=UT P w K mg base "_law_map" 2 ["_law_script"] (oW κ)
end
local macro_rules|`(tactic|fin2)=>`(tactic| (intro ds Q E h; repeat (first | (cases h.1; rfl) | calc Exists.elim h λ_ h => ?_)))
section
variable{P:Program}{w:World}{K:yac}{mg:yal}{base:Heap}{κ:UR}{f:Addr}{fd:FuncData}
theorem Tt(x:Str)(N:yah)(d:D)(a:yar):cH (x::N) (d::a)=some (.val d)::cH N a:=rfl
theorem Tv(x:Str)(N:yah):cH (x::N) []=none::cH N []:=rfl
theorem Tu:cH [] []=[]:=rfl
local macro_rules|`(tactic|x_go)=>do
 let l := ("Tt Tv Tu".splitOn " ").toArray.map λs => Lean.mkIdent s.toName
 `(tactic| simp only [$[$l:ident],*])
local macro_rules|`(tactic|lk)=>do
 let l := ("jx Lk E6 O0 Lh OQ dOp dB OL dOr OT Lf Ta Ll dIf AL dC uZ AM O6 JB uY dCB dIs O7 O8 Sz SA Ej iC QZ Q3 Qi Ke M9 Kf Na gw Hc Hd Ql Lj OU DC DF Mw Mx xb P5 P7 P6 List.map_cons List.map_nil gd3 Tc PY q0 KY za IX IW IY q9 F8 Dg mC rx0 rx1 rx2 rx3 lx0 lx1 lx2 lx3 rC Qu Qs HA QN QO RS Pz Mu List.cons_append List.nil_append MW MX QP D0 Hv MO Hu MN Fd Hs Ht Hr Hq true_and S9 Tb AH OK Oc Ho false_and and_false false_or or_false exists_false RG E5 Lm NN NM NL qp S7 OX gd2 Bool.false_eq_true Bool.true_eq_false if_false if_true decide_eq_true_eq Bool.not_eq_eq_eq_not Bool.not_true Bool.not_false decide_eq_false_iff_not ite_not Gv Ox uS Qg Qh Nb Nc ON PC OP Lg GX G7 Lo RI GY O4 OR O2 O1 RH u4 dg OM RE E4 OY PL PN NY NZ Rp Rr Rq Rt L7 Jm Jn Pa AI GW Qm O3 OW Pf RN O5 Mj OZ DH PJ PK Qa Qb FR R9 Sa Tf Tg List.set_cons_zero List.set_cons_succ DD OV RF RD PF PG RT RC OO RJ Mi Ph RO RK Mh xW FY oP k7 zI C9 De j7 xV pJ FV kZ Dc x9 wG tw sZ FZ wA pK wC pN zJ yf wD Dd pL Ca wB C8 yc FX lg tj FU jN qQ qU uG wF ng uD Cc qO oO mf pH iq jJ B9 IJ sJ mY FT uz nc sI FW zF pO Ce oS qX zE qV zK xT xY tu sL sM zG xX uB mZ zH iY rZ fx jh nY nX ui kx lZ jU xE jg ug l5 rX n8 nU xG rT jY gT dJ nZ l6 kQ uh j1 lK gR nW i6 rY dP kN rW fe lJ gU jC kR fH jB qA d8 fv dW jT dM eY qz vU iE fG rV jA i5 eZ xF nV dN qB fy eA jV d9 jZ iX i4 kO fb iF jW iZ fM cW jX uJ wJ lh wI iT wK Dh y9 K0 PY PW Di zb AK Cj F9 RB j8 Pc RL F7 Ci KZ P4 Mt".splitOn " ").toArray.map λs => Lean.mkIdent s.toName
 `(tactic| (try dsimp only [at0, at1, at2, at3, at4, at5, $[$l:ident],*]);(try simp only [at0, at1, at2, at3, at4, at5, $[$l:ident],*]);try simp only [Kz, BK])
def CO (F:av K "is_whole" "is_whole" ot f fd) (C:U4 K mg κ)   (c:mg "bool" = none) (b:mg "int" = none) (a:mg "isinstance" = none):aA P w K mg base (CX1 P w) 1 f fd ["thing"] (aD K (ml κ)):=by
 refine av.okN F C2 (by fin2) λ_ _ _ _ _ _ e=>⟨_,(ao (ax (u6 (qg (by rfl) a (by rfl) b boot_int (.inl rfl) (dv 0)) (u7 (Pd (qg (by rfl) a (by rfl) c boot_bool (.inr (.inl rfl)) (dv 0))))))),?_⟩
 rintro g Q Ed ⟨d,rfl,h⟩;x_go;unfold iY at h;lk;rw[R8,R7];cases d<;>calc h
def Nm (F:av K "sign" "sign" BY f fd) (C:U4 K mg κ)    : aA P w K mg base (CX1 P w) 1 f fd ["number"] (aD K (ye κ)):=by
 refine av.okN F NV (by fin2) λ_ _ _ _ _ _ a=>⟨_,(ai (aX (aH jS (dv 0) ae) (ao (ax ae)) aI) (ai (aX (aH d6 (dv 0) ae) (ao (ax (bE ae))) aI) (ao (ax ae)))),?_⟩
 rintro b Q Ed ⟨n,rfl,h⟩;x_go;unfold rZ at h;lk;unfold sg at h
 lia
def sF (F:av K "common_divisor" "common_divisor" fU f fd) (C:U4 K mg κ)   (a:mg "abs" = none):aA P w K mg base (CX1 P w) 1 f fd ["one", "other"] (aD K (fC κ)):=by
 refine av.okN F c8 (by fin2) λ_ _ _ _ _ _ d=>⟨_,(ai (kH PassesOwn.never (aH mS (dv 1) ae) (ai (ay 2 c8.nd (ag aN (dv 0) (dv 1))) (ai (ay 0 c8.nd (dv 1)) (ao (ay 1 c8.nd (dv 2)))))) (ao (ax (aP p4 (by rfl) a boot_abs (aa (dv 0) af))))),?_⟩
 rintro e Q Ed ⟨a,b,rfl,h⟩;calc⟨λm c=>∃(x y:Int) (r:Option Sl),c=[some (.val (.int x)),some (.val (.int y)),r]/\Int.gcd x y=Int.gcd a b/\m=y.natAbs,⟨_,a,b,none,rfl,rfl,rfl⟩,?_⟩;rintro m c ⟨x,y,r,rfl,b,rfl⟩;lk;by_cases a:y=0
 cbv
 rw[TM a];calc⟨a,_,PM.yM x a,y,x.fmod y,_,rfl,(PM.A4 x y).trans b,rfl⟩
def HX (F:av K "lowest" "lowest" oz f fd) (C:U4 K mg κ)  (b:kz P w K mg base κ)  : aA P w K mg base (CX1 P w) 2 f fd ["numbers"] (aD K (jj κ)):=by
 refine av.okN F lM (by fin2) λ_ _ _ _ _ _ a=>⟨_,(ai (ay 1 lM.nd ae) (ai (dh PassesOwn.never rfl (aT (dv 0)) (cu 2 lM.nd) (ao (ay 1 lM.nd (ah b a (aa (dv 1) (aa (dv 2) af)))))) (ao (ax (bV (by rfl) (by calc aY (osc:=aj oz) (xs:=["number"]) (ns:=["divisor"]) (by decide +kernel)) (aR.cons 1 aR.nil) (aT (dv 0)) (λ_ _ _ _ _=>bK) (λ_ _ _ _ _=>(ag bB (dv 0) (dv 1)))))))),?_⟩
 rintro i Q Ed ⟨ns,rfl,h⟩;x_go;let⟨g,c,d,h⟩:=h;lk;calc PD.iA ns D.int (λj b=>∃a:Option Sl,b=[some (.val (.lst false (ns.map D.int))),some (.val (.int (cg 0 (ns.take j)))),a]) (λR q=>?_) ⟨none,rfl⟩ ?_ ?_;lk;calc q;rintro j x e b ⟨a,rfl⟩;lk
 simp_all [zCl,yO]
 rintro e ⟨a,rfl⟩;rw[zBq];lk;calc PD.comp_map ns D.int (λ_=>true) (λx=>.int (x.fdiv (cg 0 ns))) (λR q=>?_) (by rw[VA];lia) (λx b K a=>?_) (λx b _ K a=>?_) ?_;lk;calc q;calc a;calc⟨⟨c,d.mono 23⟩,a⟩;rw[YQ.mpr (λ_ _=>rfl)];unfold dq at h;rw[Ww]at h;calc h
def Fu (F:av K "reduced" "reduced" qK f fd) (C:U4 K mg κ)  (b:kz P w K mg base κ)  : aA P w K mg base (CX1 P w) 2 f fd ["triple", "lead"] (aD K (oX κ)):=by
 refine av.okN F oH (by fin2) λ_ _ _ _ _ _ a=>⟨_,(ai (ay 2 oH.nd (ah b a (aa (ah b a (aa (ak (dv 0) ae) (aa (ak (dv 0) ae) af))) (aa (ak (dv 0) ae) af)))) (ai (aX (aH d6 (dv 1) ae) (ao (ay 2 oH.nd (bE (dv 2)))) aI) (ao (ax (bf (aa (ag bB (ak (dv 0) ae) (dv 2)) (aa (ag bB (ak (dv 0) ae) (dv 2)) (aa (ag bB (ak (dv 0) ae) (dv 2)) af)))))))),?_⟩
 rintro i Q Ed ⟨x,y,z,l,rfl,h⟩;x_go;let⟨d,bx,b,e,h⟩:=h;let c:=PM.cS (l:=l) d;let a:=(GA (l:=l) d bx b e).mono (show 4000<=8000 by decide);lk;let b:((Int.gcd (Int.gcd x y:Int) z:Nat):Int)=(PM.g3 x y z:Int):=rfl;rw[b];let b:∀g:Int,g=PM.VB x y z l->CD x g/\CD y g/\CD z g/\#[([D.int (x.fdiv g),.int (y.fdiv g),.int (z.fdiv g)]:yar)]<=sizeLine/\Q (.tup [.int (x.fdiv g),.int (y.fdiv g),.int (z.fdiv g)]):=by rintro g rfl;exact⟨⟨c,a⟩,⟨c,a⟩,⟨c,a⟩,Z0 _ _ _,h⟩
 by_cases a:l<0;rw[TU 47];calc b _ (by ext PM.VB;cbv);rw[TM 47];calc b _ (by ext PM.VB;rw[TM a])
def Kl (F:av K "picks" "picks" r9 f fd) (C:U4 K mg κ)   (a:mg "range" = none):aA P w K mg base (CX1 P w) 1 f fd ["count", "size"] (aD K (uE κ)):=by
 refine av.okN F fW (by fin2) λ_ _ _ _ _ _ z=>⟨_,(ai (ay 2 fW.nd (eE (aa (eE af) af))) (ai (dh PassesOwn.never rfl (jc (by rfl) a (aa (dv 1) af)) (cu 3 fW.nd) (ai (qi 4 fW.nd af) (ai (dh PassesOwn.never rfl (aT (dv 2)) (cu 5 fW.nd) (ai (ay 6 fW.nd (nB (aH jS (dv 3) ae) (ag aE (ak (dv 5) (bE ae)) ae) ae)) (ao (G8 4 (bV (by rfl) (by calc aY (osc:=aj r9) (xs:=["number"]) (ns:=["pick"]) (by decide +kernel)) (aR.cons 5 aR.nil) (Hm (by rfl) a (aa (dv 6) (aa (dv 0) af))) (λ_ _ _ _ _=>bK) (λ_ _ _ _ _=>(ag aE (dv 1) (eE (aa (dv 0) af))))))))) (gM 4 (ao (ay 2 fW.nd (dv 4))))))) (ao (ax (dv 2))))),?_⟩
 rintro E Q Ed ⟨n,s,rfl,h⟩;x_go;unfold nX at h;let⟨m,t,rfl,rfl,i,y,h⟩:=h;let p:∀j,j<=1->#[WO m j]<=1000:=λj d=>Xb (mP m j) (Xb (Nat.pow_le_pow_left i j) (Xb (zCj 23 d) 23))
 lk;calc⟨Yt _,by rw[VA];decide,?_⟩;calc PD.iA (List.range' 0 t) (λ(k:Nat)=>D.int (k:Int)) (λj a=>∃o n c b:Option Sl,a=[some (.val (.int m)),some (.val (.int t)),some (.val (.lst true ((WO m j).map Y1))),o,n,c,b]) (λR q=>?_) ⟨none,none,none,none,rfl⟩ ?_ ?_;lk;rw[BP];calc⟨⟨33,33⟩,q⟩;rintro j x s e ⟨o,n,c,b,rfl⟩;let⟨d,g⟩:=Zn.mp e;rw[zBe]at d;rw[List.getElem_range']at g;let d:x=j:=33
 subst d;lk;calc⟨Yt _,?_⟩;calc PD.mI (WO m x) Y1 (λdone a=>∃c b:Option Sl,a=[some (.val (.int m)),some (.val (.int t)),some (.val (.lst true ((WO m x).map Y1))),some (.val (.int x)),some (.own ((done.flatMap (Za m)).map Y1)),c,b]) (λR q=>?_) ⟨_,_,rfl⟩ ?_ ?_;lk;calc q;rintro done a j e r ⟨c,b,rfl⟩;let⟨d,g⟩:=kr e;let A:eT a<=m:=by
  ext eT;cases e:a.getLast? with
  |none=>calc Yt _
  |some l=>have:=g l (zCi e);exact this
 let dl:#[done]*m<=1000*1000:=Nat.mul_le_mul (Xb (zBf r) (p x 33)) i;let B:=AX m done;let u:#[Za m a]<=1000:=by ext Za;rw[T4,zBe];lia
 let rest:∀(v:D) (g:D->Prop),v=.int (eT a)->g (.lst true ((Za m a).map Y1))->lD (E5 (uZ (lU 6) (uZ (lU 0) AM))) [5] xb (dOp rP (lU 1) (JB (uZ (lU 0) AM))) [some (.val (.int m)),some (.val (.int t)),some (.val (.lst true ((WO m x).map Y1))),some (.val (.int x)),some (.own ((done.flatMap (Za m)).map Y1)),some (.val (Y1 a)),some (.val v)] g:=by rintro v g rfl g;calc PD.comp_map (List.range' (eT a) (m - eT a)) (λ(k:Nat)=>D.int (k:Int)) (λ_=>true) (λk=>Y1 (a++[k])) (λR q=>?_) (by rw[zBe,VA];lia) (λk l K i=>?_) (λk l _ K i=>?_) ?_;lk;rw[NO];calc⟨⟨33,33⟩,⟨33,33⟩,q⟩;lk;calc i;unfold Y1 at i ⊢;lk;grind [List.map_append,sz1,List.length_map,sizeLine_eq];rw[YQ.mpr (λ_ _=>rfl)];unfold Za at g;rw[Ww]at g;exact g
 let g:∀v:D,∃xs,D.lst true ((Za m a).map Y1)=D.lst true xs/\#[List.map Y1 (List.flatMap (Za m) done)]+#[xs]<=sizeLine/\∃c b:Option Sl,([some (Sl.val (D.int m)),some (Sl.val (D.int t)),some (Sl.val (D.lst true (List.map Y1 (WO m x)))),some (Sl.val (D.int x)),some (Sl.own (List.map Y1 (List.flatMap (Za m) done)++xs)),some (Sl.val (Y1 a)),some (Sl.val v)]:Ro)=[some (Sl.val (D.int m)),some (Sl.val (D.int t)),some (Sl.val (D.lst true (List.map Y1 (WO m x)))),some (Sl.val (D.int x)),some (Sl.own (List.map Y1 (List.flatMap (Za m) (done++[a])))),c,b]:=λv =>
  ⟨_,rfl,by rw[T4,T4,VA];lia,_,_,by rw[List.flatMap_append,Yx,List.flatMap_singleton]⟩
 lk;by_cases i:x=0;subst i;have:a=[]:=zAk d;subst this;rw[TM 33];calc rest _ _ rfl (g _);rw[TU 33];let l:a ≠ []:=λe=>i (by rw[<- d,e];rfl)
 show gQ (.lst true (a.map λ(k:Nat)=>D.int (k:Int))) _ _;rw[BK];calc L9 l ?_;rw[Gv];calc rest _ _ (by congr 1;lia) (g _);rintro j ⟨c,b,rfl⟩;lk;calc⟨_,_,_,_,rfl⟩;rintro s ⟨o,n,c,b,rfl⟩;lk;rw[zBe];calc h
def Kp (F:av K "value" "value" xO f fd) (C:U4 K mg κ)    : aA P w K mg base (CX1 P w) 1 f fd ["gauge", "place"] (aD K (uH κ)):=by
 refine av.okN F KQ (by fin2) λ_ _ _ _ _ _ g=>⟨_,(ao (ax (ag aE (ag aE (ag az (ak (dv 0) ae) (ak (dv 1) ae)) (ag az (ak (dv 0) ae) (ak (dv 1) ae))) (ag az (ak (dv 0) ae) (ak (dv 1) ae))))),?_⟩
 rintro l Q Ed ⟨k,j,i,e,d,c,rfl,h⟩;x_go;let m:∀{x y:Int},Bd 1000 x->Bd 1000 y->CM x y:=λb a=>.inr (.inr ⟨b.mono 23,a.mono 23⟩)
 lk
 cbv
def Nl (F:av K "side" "side" BW f fd) (C:U4 K mg κ)  (b:Gn P w K mg base κ) (c:Dp P w K mg base κ)  : aA P w K mg base (CX1 P w) 2 f fd ["gauge", "place"] (aD K (iR κ)):=by
 refine av.okN F NU (by fin2) λ_ _ _ _ _ _ a=>⟨_,(ao (ax (ah b a (aa (ah c a (aa (dv 0) (aa (dv 1) af))) af)))),?_⟩
 rintro l Q Ed ⟨k,j,i,g,e,d,rfl,h⟩;x_go;lk
 cbv
def CN (F:av K "is_level" "is_level" oh f fd) (C:U4 K mg κ)    : aA P w K mg base (CX1 P w) 1 f fd ["gauge"] (aD K (mj κ)):=by
 refine av.okN F C1 (by fin2) λ_ _ _ _ _ _ a=>⟨_,(ao (ax (u6 (fF bI (ak (dv 0) ae) ae) (u7 (fF bI (ak (dv 0) ae) ae))))),?_⟩
 rintro e Q Ed ⟨d,c,b,rfl,h⟩;x_go;lk
 lia
def Fn (F:av K "crossed" "crossed" qE f fd) (C:U4 K mg κ)    : aA P w K mg base (CX1 P w) 1 f fd ["one", "other"] (aD K (j5 κ)):=by
 refine av.okN F FI (by fin2) λ_ _ _ _ _ _ l=>⟨_,(ao (ax (bf (aa (ag aO (ag az (ak (dv 0) ae) (ak (dv 1) ae)) (ag az (ak (dv 1) ae) (ak (dv 0) ae))) (aa (ag aO (ag az (ak (dv 0) ae) (ak (dv 1) ae)) (ag az (ak (dv 1) ae) (ak (dv 0) ae))) (aa (ag aO (ag az (ak (dv 0) ae) (ak (dv 1) ae)) (ag az (ak (dv 1) ae) (ak (dv 0) ae))) af)))))),?_⟩
 rintro m Q Ed ⟨s,r,q,p,o,n,rfl,h⟩;x_go;let⟨i,g,e,d,c,b,h⟩:=h;let a:∀{x y:Int},Bd 200 x->Bd 200 y->CM x y:=λk j=>.inr (.inr ⟨k.mono 23,j.mono 23⟩)
 lk;calc⟨a g b,a c e,a e d,a b i,a i c,a d g,Z0 _ _ _,h⟩
def Nh (F:av K "line" "line" BU f fd) (C:U4 K mg κ)  (c:yr P w K mg base κ) (b:EF P w K mg base κ) (d:pU P w K mg base κ)  : aA P w K mg base (CX1 P w) 3 f fd ["one", "other"] (aD K (xZ κ)):=by
 refine av.okN F En (by fin2) λ_ _ _ _ _ _ a=>⟨_,(ai (ay 2 En.nd (ah c a (aa (dv 0) (aa (dv 1) af)))) (ai (aX (jb (ah b a (aa (dv 2) af))) (ao tO) aI) (ao (ax (ah d a (aa (dv 2) (aa (nB (aH mS (ak (dv 2) ae) ae) (ak (dv 2) ae) (ak (dv 2) ae)) af))))))),?_⟩
 rintro s Q Ed ⟨l,o,k,j,n,i,rfl,h⟩;x_go;let⟨g,e,d,c,b,a,m,h⟩:=h;let r:=fP e a b d;let q:=fP d c a g;let p:=fP g b c e;lk;calc⟨g,e,d,c,b,a,?_⟩;rw[TM m];let b:¬(o*i - n*k=0/\k*j - i*l=0/\l*n - j*o=0):=λe=>m e.2
 unfold FF ld Ug at h;by_cases a:k*j - i*l=0;rw[TU a]at h;rw[TU a];calc⟨b,r.mono 23,q.mono 23,p.mono 23,h⟩;rw[TM a]at h;rw[TM a];calc⟨b,r.mono 23,q.mono 23,p.mono 23,h⟩
def HU (F:av K "facing" "facing" uk f fd) (C:U4 K mg κ)    : aA P w K mg base (CX1 P w) 1 f fd ["place", "way"] (aD K (cM κ)):=by
 refine av.okN F Iy (by fin2) λ_ _ _ _ _ _ j=>⟨_,(ao (ax (bf (aa (bE (ag aE (ag az (ak (dv 1) ae) (ak (dv 0) ae)) (ag az (ak (dv 1) ae) (ak (dv 0) ae)))) (aa (ag az (ak (dv 1) ae) (ak (dv 0) ae)) (aa (ag az (ak (dv 1) ae) (ak (dv 0) ae)) af)))))),?_⟩
 rintro k Q Ed ⟨i,g,e,w,rfl,h⟩;x_go;let⟨b,d,c,a,h⟩:=h;ext UD;lk;calc⟨ZE a.x d,ZE a.y c,ZE a.x b,ZE a.y b,Z0 _ _ _,h⟩
def Km (F:av K "place" "place" xM f fd) (C:U4 K mg κ)  (b:pU P w K mg base κ)  : aA P w K mg base (CX1 P w) 3 f fd ["by", "x", "y"] (aD K (uF κ)):=by
 refine av.okN F KN (by fin2) λ_ _ _ _ _ _ a=>⟨_,(ai (aX (aH bI (dv 0) ae) (ao tO) aI) (ao (ax (ah b a (aa (bf (aa (dv 0) (aa (dv 1) (aa (dv 2) af)))) (aa (dv 0) af)))))),?_⟩
 rintro e Q Ed ⟨b,x,y,rfl,h⟩;x_go;let⟨a,d,c,b,h⟩:=h;lk;rw[TM a];calc⟨Z0 _ _ _,λz=>a z.1,d,c,b,h⟩
def CT (F:av K "place_of" "place_of" oD f fd) (C:U4 K mg κ)    : aA P w K mg base (CX1 P w) 1 f fd ["spot"] (aD K (mv κ)):=by
 refine av.okN F C4 (by fin2) λ_ _ _ _ _ _ c=>⟨_,(ao (ax (bf (aa ae (aa (ak (dv 0) ae) (aa (ak (dv 0) ae) af)))))),?_⟩
 rintro d Q Ed ⟨a,b,rfl,h⟩;x_go;lk;calc⟨Z0 _ _ _,h⟩
def Ni (F:av K "rank" "rank" BV f fd) (C:U4 K mg κ)  (b:Gn P w K mg base κ)  : aA P w K mg base (CX1 P w) 2 f fd ["one", "other"] (aD K (si κ)):=by
 refine av.okN F Eo (by fin2) λ_ _ _ _ _ _ a=>⟨_,(ai (ay 2 Eo.nd (ah b a (aa (ag aO (ag az (ak (dv 0) ae) (ak (dv 1) ae)) (ag az (ak (dv 1) ae) (ak (dv 0) ae))) af))) (ai (aX (aH mS (dv 2) ae) (ao (ax (dv 2))) aI) (ao (ax (ah b a (aa (ag aO (ag az (ak (dv 0) ae) (ak (dv 1) ae)) (ag az (ak (dv 1) ae) (ak (dv 0) ae))) af)))))),?_⟩
 rintro k Q Ed ⟨r,q,p,o,n,m,rfl,h⟩;x_go;let⟨j,i,g,e,d,c,h⟩:=h;let l:∀{x y:Int},Bd 1000 x->Bd 1000 y->CM x y:=λb a=>.inr (.inr ⟨b.mono 23,a.mono 23⟩)
 lk;unfold rk at h;split
 all_goals cbv
def Kn (F:av K "swing" "swing" xN f fd) (C:U4 K mg κ)    : aA P w K mg base (CX1 P w) 1 f fd ["one", "two", "three"] (aD K (oZ κ)):=by
 refine av.okN F KO (by fin2) λ_ _ _ _ _ _ l=>⟨_,(ao (ax (ag aE (ag aE (ag az (ak (dv 0) ae) (ag aO (ag az (ak (dv 1) ae) (ak (dv 2) ae)) (ag az (ak (dv 2) ae) (ak (dv 1) ae)))) (ag az (ak (dv 1) ae) (ag aO (ag az (ak (dv 2) ae) (ak (dv 0) ae)) (ag az (ak (dv 0) ae) (ak (dv 2) ae))))) (ag az (ak (dv 2) ae) (ag aO (ag az (ak (dv 0) ae) (ak (dv 1) ae)) (ag az (ak (dv 1) ae) (ak (dv 0) ae))))))),?_⟩
 rintro u Q Ed ⟨L,J,I,H,G,E,B,A,z,rfl,h⟩;x_go;let⟨t,i,g,n,e,d,m,c,b,h⟩:=h;let a:∀{x y:Int},Bd 1000 x->Bd 1000 y->CM x y:=λj k=>.inr (.inr ⟨j.mono 23,k.mono 23⟩)
 let k:∀{x p q r s:Int},Bd 1000 x->Bd 1000 p->Bd 1000 q->Bd 1000 r->Bd 1000 s->CM x (p*q - r*s):=λj q p l o=>.inr (.inr ⟨j.mono 23,((q.mul p).sub (l.mul o)).mono 23⟩)
 lk;calc⟨a e b,a c d,k t e b c d,a c g,a i b,k n c g i b,a i d,a e g,k m i d e g,h⟩
def Kh (F:av K "arrow" "arrow" xH f fd) (C:U4 K mg κ)    : aA P w K mg base (CX1 P w) 1 f fd ["one", "other"] (aD K (oM κ)):=by
 refine av.okN F KJ (by fin2) λ_ _ _ _ _ _ i=>⟨_,(ao (ax (bf (aa (ag aO (ag az (ak (dv 0) ae) (ak (dv 1) ae)) (ag az (ak (dv 1) ae) (ak (dv 0) ae))) (aa (ag aO (ag az (ak (dv 0) ae) (ak (dv 1) ae)) (ag az (ak (dv 1) ae) (ak (dv 0) ae))) af))))),?_⟩
 rintro j Q Ed ⟨p,o,n,m,l,k,rfl,h⟩;x_go;let⟨b,g,e,a,d,c,h⟩:=h;lk;calc⟨ZE b d,ZE a g,ZE b c,ZE a e,sz2 _ _,h⟩
def Nn (F:av K "turn" "turn" BZ f fd) (C:U4 K mg κ)    : aA P w K mg base (CX1 P w) 1 f fd ["one", "other"] (aD K (yh κ)):=by
 refine av.okN F NW (by fin2) λ_ _ _ _ _ _ c=>⟨_,(ao (ax (ag aO (ag az (ak (dv 0) ae) (ak (dv 1) ae)) (ag az (ak (dv 1) ae) (ak (dv 0) ae))))),?_⟩
 rintro d Q Ed ⟨a,b,rfl,h⟩;x_go;let⟨b,a,h⟩:=h;ext UD;lk;calc⟨ZE b.x a.y,ZE a.x b.y,h⟩
def Nd (F:av K "back" "back" BS f fd) (C:U4 K mg κ)    : aA P w K mg base (CX1 P w) 1 f fd ["way"] (aD K (mX κ)):=by
 refine av.okN F NQ (by fin2) λ_ _ _ _ _ _ a=>⟨_,(ao (ax (bf (aa (bE (ak (dv 0) ae)) (aa (bE (ak (dv 0) ae)) af))))),?_⟩
 rintro b Q Ed ⟨w,rfl,h⟩;x_go;unfold rT at h;unfold UD at h ⊢;lk;calc⟨sz2 _ _,h⟩
def Ft (F:av K "left_of" "left_of" qJ f fd) (C:U4 K mg κ)    : aA P w K mg base (CX1 P w) 1 f fd ["way"] (aD K (j6 κ)):=by
 refine av.okN F FK (by fin2) λ_ _ _ _ _ _ a=>⟨_,(ao (ax (bf (aa (bE (ak (dv 0) ae)) (aa (ak (dv 0) ae) af))))),?_⟩
 rintro b Q Ed ⟨w,rfl,h⟩;x_go;unfold jY at h;unfold UD at h ⊢;lk;calc⟨sz2 _ _,h⟩
def Bz (F:av K "is_within" "is_within" l9 f fd) (C:U4 K mg κ)  (b:EG P w K mg base κ)  : aA P w K mg base (CX1 P w) 2 f fd ["thing", "least", "most"] (aD K (k6 κ)):=by
 refine av.okN F B4 (by fin2) λ_ _ _ _ _ _ a=>⟨_,(ao (ax (u6 (ah b a (aa (dv 0) af)) (u7 (JD vM vM (dv 1) (dv 0) (dv 2)))))),?_⟩
 rintro a Q Ed ⟨d,l,m,rfl,h⟩;x_go;unfold gT at h;lk;rw[MM];cases d with
 |int i =>
  lk;let e:within (.int i) l m=(decide (l<=i) && decide (i<=m)):=rfl;rw[e]at h;rw[TU (show isI (.int i)=true from rfl)];by_cases z:l<=i;rw[TU z];rw[Ys z,Bool.true_and]at h;calc h;rw[TM z];rw[decide_eq_false z,Bool.false_and]at h;calc h
 |UE=>calc h
 |bl b=>calc h
 |str x=>calc h
 |tup a=>calc h
 |lst t a=>calc h
 |_=>calc h
def ua (F:av K "is_coordinate" "is_coordinate" gW f fd) (C:U4 K mg κ)  (b:Cq P w K mg base κ)  : aA P w K mg base (CX1 P w) 3 f fd ["thing"] (aD K (fY κ)):=by
 refine av.okN F ur (by fin2) λ_ _ _ _ _ _ a=>⟨_,(ao (ax (ah b a (aa (dv 0) (aa (bE (tN C.Uh)) (aa (tN C.Uh) af)))))),?_⟩
 rintro c Q Ed ⟨d,rfl,h⟩;x_go;unfold dJ at h;lk;rw[pC];calc h
def Fv (F:av K "spot_of" "spot_of" qL f fd) (C:U4 K mg κ)    : aA P w K mg base (CX1 P w) 1 f fd ["dot"] (aD K (oY κ)):=by
 refine av.okN F FN (by fin2) λ_ _ _ _ _ _ a=>⟨_,(ao (ax (bf (aa (ak (dv 0) ae) (aa (ak (dv 0) ae) af))))),?_⟩
 rintro b Q Ed ⟨p,rfl,h⟩;x_go;ext Ui;lk;calc⟨sz2 _ _,h⟩
def CW (F:av K "spots_of" "spots_of" j4 f fd) (C:U4 K mg κ)  (b:gh P w K mg base κ)  : aA P w K mg base (CX1 P w) 2 f fd ["dots"] (aD K (mz κ)):=by
 refine av.okN F C6 (by fin2) λ_ _ _ _ _ _ a=>⟨_,(ao (ax (bV (by rfl) (by calc aY (osc:=aj j4) (xs:=["dot"]) (ns:=[]) (by decide +kernel)) aR.nil (aT (dv 0)) (λ_ _ _ _ _=>bK) (λ_ _ _ _ _=>(ah b a (aa (dv 0) af)))))),?_⟩
 rintro d Q Ed ⟨a,rfl,h⟩;x_go;let⟨c,h⟩:=h;calc PD.comp_map a Ui (λ_=>true) (λp=>UD (VZ p)) (λR q=>?_) (by rw[VA];lia) (λp b K a=>?_) (λp b _ K a=>?_) ?_;lk;calc q;calc a;lk;calc a;rw[YQ.mpr (λ_ _=>rfl)];rw[Ww]at h;calc h
def BA (F:av K "of_colour" "of_colour" i7 f fd) (C:U4 K mg κ)    : aA P w K mg base (CX1 P w) 1 f fd ["dots", "colour"] (aD K (k8 κ)):=by
 refine av.okN F B5 (by fin2) λ_ _ _ _ _ _ a=>⟨_,(ao (ax (bV (by rfl) (by calc aY (osc:=aj i7) (xs:=["dot"]) (ns:=["colour"]) (by decide +kernel)) (aR.cons 1 aR.nil) (aT (dv 0)) (λ_ _ _ _ _=>(qZ (PWD.pt (zN (aH QC (dv 1) qh) (vf (aH (LA (by calc a.units)) (ak (dv 0) ae) (dv 1))))))) (λ_ _ _ _ _=>(dv 0))))),?_⟩
 rintro g Q Ed ⟨a,d,rfl,h⟩;x_go;let⟨b,c,e,h⟩:=h;calc PD.comp_map a Ui (λp=>b p.2.2.1) Ui (λR q=>?_) (by rw[VA];lia) (λp b K a=>?_) (λp b _ K a=>?_) h;lk;calc q;ext Ui;rcases c with⟨rfl,rfl⟩| ⟨k,rfl,rfl⟩;lk;calc a;lk;calc a;calc a
def Ko (F:av K "total" "total" iJ f fd) (C:U4 K mg κ)  (c:sO P w K mg base κ) (b:mg "sum" = none):aA P w K mg base (CX1 P w) 2 f fd ["dots", "colour"] (aD K (gc κ)):=by
 refine av.okN F KP (by fin2) λ_ _ _ _ _ _ a=>⟨_,(ao (ax (aP (Av rfl) (by rfl) b boot_sum (aa (bV (by rfl) (by calc aY (osc:=aj iJ) (xs:=["dot"]) (ns:=[]) (by decide +kernel)) aR.nil (aT (ah c a (aa (dv 0) (aa (dv 1) af)))) (λ_ _ _ _ _=>bK) (λ_ _ _ _ _=>(ak (dv 0) ae))) af)))),?_⟩
 rintro k Q Ed ⟨c,j,rfl,h⟩;x_go;let⟨b,d,i,h⟩:=h;let e:=d.unt;unfold tot at h;lk;calc PD.comp_map (c.filter λp=>b p.2.2.1) Ui (λ_=>true) (λp=>.int p.2.2.2) (λR q=>?_) (by grind [List.length_filter_le,sizeLine_eq]) (λp g K a=>?_) (λp g _ K a=>?_) ⟨true,(c.filter λp=>b p.2.2.1).map λp=>p.2.2.2,47,h⟩;lk;simp only[e];calc⟨b,d,i,q⟩;calc a;ext Ui;lk;calc a
def Fx (F:av K "weighed" "weighed" gF f fd) (C:U4 K mg κ)  (c:sO P w K mg base κ) (e:gH P w K mg base κ) (b:Gm P w K mg base κ) (d:gh P w K mg base κ)  : aA P w K mg base (CX1 P w) 3 f fd ["dots", "gauge", "colour"] (aD K (fq κ)):=by
 refine av.okN F oK (by fin2) λ_ _ _ _ _ _ a=>⟨_,(ai (JG 3 oK.nd (xh (bE ae) ae (xh ae ae (xh ae ae Pj)))) (ai (dh PassesOwn.never rfl (aT (ah c a (aa (dv 0) (aa (dv 2) af)))) (cu 4 oK.nd) (ao (Mm 3 (by calc zQ a) (ah b a (aa (dv 1) (aa (ah e a (aa (ah d a (aa (dv 4) af)) af)) af))) (ak (dv 4) ae)))) (ao (ax (bf (aa (AR 3 (by calc zQ a) (bE ae)) (aa (AR 3 (by calc zQ a) ae) (aa (AR 3 (by calc zQ a) ae) af)))))))),?_⟩
 rintro u Q Ed ⟨e,c,b,a,d,rfl,h⟩;x_go;let⟨i,g,l,r,o,n,m,h⟩:=h;let k:=g.unt;lk;calc⟨[(.inl (-1),.int 0),(.inl 0,.int 0),(.inl 1,.int 0)],rfl,23,23,?_⟩;calc PD.mI (e.filter λp=>i p.2.2.1) Ui (λdone j=>∃v,j=[some (.val (.lst false (e.map Ui))),some (.val (T3 c b a)),some (.val d),some (.ob (.dk [(.inl (-1),.int (w3 c b a (-1) done)),(.inl 0,.int (w3 c b a 0 done)),(.inl 1,.int (w3 c b a 1 done))])),v]) (λR q=>?_) ⟨none,rfl⟩ ?_ ?_;lk;simp only[k];calc⟨i,g,l,q⟩;rintro done p d t Wx ⟨v,rfl⟩;let G:=m p 47;let e:c*1+b*p.1+a*p.2.1=gv c b a p:=by ext gv;lia
 lk;calc⟨r,o,n,Bd.mono (m:=2) (by ext Bd;decide) 23,G.x.mono 23,G.y.mono 23,?_⟩;rw[e];let s:=Od c b a;rcases sg3 (gv c b a p)with z|z|z;calc⟨.inl (-1),_,by rw[z];rfl,rfl,?_⟩;ext Ui;lk
 simp_all [VA,Ss]
 calc⟨.inl 0,_,by rw[z];rfl,rfl,?_⟩;ext Ui;lk
 simp_all [VA,Su]
 calc⟨.inl 1,_,by rw[z];rfl,rfl,?_⟩;ext Ui;lk
 simp_all [VA,Sv]
 rintro d ⟨v,rfl⟩;lk;calc⟨.inl (-1),_,rfl,rfl,.inl 0,_,rfl,rfl,.inl 1,_,rfl,rfl,Z0 _ _ _,h⟩
def HV (F:av K "is_map" "is_map" oo f fd) (C:U4 K mg κ)  (A:lC P w K mg base κ) (u:mg "all" = none) (B:mg "isinstance" = none) (E:mg "len" = none) (z:mg "tuple" = none):aA P w K mg base (CX1 P w) 4 f fd ["thing"] (aD K (qS κ)):=by
 refine av.okN F Iz (by fin2) λ_ _ _ _ _ _ o=>⟨_,(ai (aX (PWD.pt (zN (mG (jb (qg (by rfl) B (by rfl) z boot_tuple (.inr (.inr (.inl rfl))) (dv 0)))) (vf (aH mS (aP bU (by rfl) E Zp (aa (dv 0) af)) ae)))) (ao (ax zM)) aI) (ai (aX (mG (jb (aP (OC rfl) (by rfl) u boot_all (aa (bV (by rfl) (by calc aY (osc:=aj oo) (xs:=["number"]) (ns:=[]) (by decide +kernel)) aR.nil (Qc (dv 0)) (λ_ _ _ _ _=>bK) (λ_ _ _ _ _=>(ah A o (aa (dv 0) af)))) af)))) (ao (ax zM)) aI) (ao (ax (fF mS (ag az (ak (dv 0) ae) (ak (dv 0) ae)) (ag az (ak (dv 0) ae) (ak (dv 0) ae))))))),?_⟩
 rintro r Q Ed ⟨d,rfl,h⟩;x_go;unfold lK at h;lk;cases d with
 |tup g =>
  rw[TM (by rw[D0];simp)];rw[HA];lk;by_cases m:#[g]=6;rw[TU (by rw[m];rfl)];calc PD.comp_map g id (λ_=>true) (λy=>.bl (crd y)) (λR q=>?_) (by rw[VA];lia) (λy n K l=>?_) (λy n _ K l=>?_) ?_;lk;rw[List.map_id]at q;calc q;lk;calc l;lk;let e:crd (aJ (id y))=crd y:=pC y _ _;rw[e];calc l;calc⟨true,g.map crd,by rw[YQ.mpr (λ_ _=>rfl),Ww];rfl,?_⟩;let p:(g.map crd).all id=g.all crd:=by rw[List.all_map];rfl
  rw[p];by_cases j:g.all crd=true;rw[TM (by rw[j];simp)];let k:=zCB.mp j;let⟨a,b,c,d,e,f,rfl⟩:=six m;let⟨a,rfl,t⟩:=rD (k a 52);let⟨b,rfl,s⟩:=rD (k b 52);let⟨c,rfl,H⟩:=rD (k c 52);let⟨d,rfl,G⟩:=rD (k d 52);lk;calc⟨.inl (t.mono 23),.inl (s.mono 23),?_⟩;let i:dI (.tup [.int a,.int b,.int c,.int d,e,f])=!decide (a*d=b*c):=by ext dI;simp only[j,Bool.true_and];simp[nI]
  rw[i]at h;calc h;rw[TU (by simpa using j)];let i:dI (.tup g)=false:=by ext dI;simp only[Bool.eq_false_iff.mpr j,Bool.false_and,Bool.and_false]
  rw[i]at h;calc h;rw[TM 33];let i:dI (.tup g)=false:=by ext dI;simp only[decide_eq_false m,Bool.false_and]
  rw[i]at h;calc h
 |UE=>calc h
 |bl b=>calc h
 |str x=>calc h
 |int i=>calc h
 |lst t r=>calc h
 |_=>calc h
def By (F:av K "check_map" "check_map" l7 f fd) (C:U4 K mg κ)  (c:Jh P w K mg base κ)  : aA P w K mg base (CX1 P w) 5 f fd ["by_map"] (aD K (kY κ)):=by
 refine av.okX F B3 (by fin2) λ_ _ _ _ _ _ Ed b a g i=>⟨_,(ao (aX (mG (jb (ah c b (aa (dv 0) af)))) (ao (nG a (by rfl) C.Xm C.WJ rfl (aa u9 af))) aI)),?_⟩
 rintro j Q ⟨d,rfl,h⟩;x_go;unfold gR at h;lk;rw[tZ];rcases h with⟨e,h⟩| ⟨e,h⟩;rw[TM (by rw[e];simp)];calc h;rw[TU e];calc⟨sz1 _,h⟩
def Kk (F:av K "moved" "moved" xK f fd) (C:U4 K mg κ)    : aA P w K mg base (CX1 P w) 1 f fd ["place", "by_map"] (aD K (uC κ)):=by
 refine av.okN F uv (by fin2) λ_ _ _ _ _ _ g=>⟨_,(ai (ay 2 uv.nd (ag aE (ag aE (ag az (ak (dv 1) ae) (ak (dv 0) ae)) (ag az (ak (dv 1) ae) (ak (dv 0) ae))) (ag az (ak (dv 1) ae) (ak (dv 0) ae)))) (ai (ay 3 uv.nd (ag aE (ag aE (ag az (ak (dv 1) ae) (ak (dv 0) ae)) (ag az (ak (dv 1) ae) (ak (dv 0) ae))) (ag az (ak (dv 1) ae) (ak (dv 0) ae)))) (ao (ax (bf (aa (ak (dv 0) ae) (aa (dv 2) (aa (dv 3) af)))))))),?_⟩
 rintro l Q Ed ⟨e,d,c,m,rfl,h⟩;x_go;unfold nW at h;let⟨k,j,i,M,h⟩:=h;ext Zt;lk;let a:∀{x y:Int},Bd 41 x->CM x y:=λb=>.inl (b.mono 23)
 calc⟨a M.a,a M.b,_,at4 _ _ _ _ _ _,a M.e,a M.c,a M.d,_,at5 _ _ _ _ _ _ _,a M.f,Z0 _ _ _,h⟩
def CU (F:av K "sent_dot" "sent_dot" oE f fd) (C:U4 K mg κ)  (c:lC P w K mg base κ) (e:Dm P w K mg base κ) (h:gH P w K mg base κ) (g:gh P w K mg base κ)  : aA P w K mg base (CX1 P w) 4 f fd ["dot", "by_map"] (aD K (mw κ)):=by
 refine av.okX F sX (by fin2) λ_ _ _ _ _ _ Ed a d i b=>⟨_,(ai (ay 2 sX.nd (ah e a (aa (ah h a (aa (ah g a (aa (dv 0) af)) af)) (aa (dv 1) af)))) (ai (aX (PWD.pt (zN (mG (jb (ah c a (aa (ak (dv 2) ae) af)))) (vf (mG (jb (ah c a (aa (ak (dv 2) ae) af))))))) (ao (nG d (by rfl) C.WH C.Wq rfl (aa u9 af))) aI) (ao (ax (bf (aa (ak (dv 2) ae) (aa (ak (dv 2) ae) (aa (ak (dv 0) ae) (aa (ak (dv 0) ae) af))))))))),?_⟩
 rintro j Q ⟨p,m,rfl,h⟩;x_go;unfold i6 at h;let⟨b,a,M,h⟩:=h;lk;let d:m.1*p.1+m.2.1*p.2.1+m.2.2.2.2.1*1=sx m p.1 p.2.1:=by ext sx;lia
 let c:m.2.2.1*p.1+m.2.2.2.1*p.2.1+m.2.2.2.2.2*1=sy m p.1 p.2.1:=by ext sy;lia
 calc⟨Bd.mono (m:=2) (by ext Bd;decide) 23,b.mono 23,a.mono 23,M,?_⟩;simp only[d,c,K9];unfold lH at h;rcases h with⟨a,h⟩| ⟨a,h⟩;rw[zB0]at a;rw[TM (by rw[a.1];simp),TM (by rw[a.2];simp)];ext Ui;lk;calc⟨sz4 _ _ _ _,h⟩;by_cases z:inR (sx m p.1 p.2.1)=false;rw[TU z];calc⟨sz1 _,h⟩;rw[TM z,TU (by
  let b:inR (sx m p.1 p.2.1)=true:=by simpa using z
  rw[b,Bool.true_and]at a;calc a)]
 calc⟨sz1 _,h⟩
def Nk (F:av K "sent" "sent" vZ f fd) (C:U4 K mg κ)  (e:sN P w K mg base κ) (d:EK P w K mg base κ)  : aA P w K mg base (CX1 P w) 6 f fd ["dots", "by_map"] (aD K (yb κ)):=by
 refine av.okX F NS (by fin2) λ_ _ _ _ _ _ Ed b g a c=>⟨_,(ai (DR (tM a e (b.mono 23) (aa (dv 1) af))) (ao (ax (JE c (by rfl) (by calc aY (osc:=aj vZ) (xs:=["dot"]) (ns:=["by_map"]) (by decide +kernel)) (aR.cons 1 aR.nil) (aT (dv 0)) (λ_ _ _ _ _ a=>bK) (λ_ _ _ _ _ a=>(tM a d (b.mono 23) (aa (dv 0) (aa (dv 1) af)))))))),?_⟩
 rintro j Q ⟨a,d,rfl,h⟩;x_go;unfold rY at h;lk;rw[tZ];rcases h with⟨e,h⟩| ⟨m,rfl,M,e,i,c,h⟩;calc .inr ⟨e,h⟩;calc .inl ⟨e,?_⟩;calc PD.GR a Ui (lH m) (λp=>Ui (bJ m p)) (λR q=>?_) (by rw[VA];lia) (λp a b K d=>?_) (λp a b K=>?_) (λe=>?_);lk;calc q;lk;calc⟨(c p a).1,(c p a).2,M,.inl ⟨b,d⟩⟩;lk;calc⟨(c p a).1,(c p a).2,M,.inr ⟨b,?_⟩⟩;rcases h with⟨c,_⟩| ⟨_,h⟩;rw[zCB]at c;rw[c p a]at b;cases b;calc h;rcases h with⟨_,h⟩| ⟨c,_⟩;rw[Ww]at h;calc h;rw[e]at c;cases c
def zw (F:av K "sent_place" "sent_place" kT f fd) (C:U4 K mg κ)  (g:sN P w K mg base κ) (d:Dm P w K mg base κ) (e:pU P w K mg base κ)  : aA P w K mg base (CX1 P w) 6 f fd ["place", "by_map"] (aD K (fN κ)):=by
 refine av.okX F zC (by fin2) λ_ _ _ _ _ _ Ed a k c b=>⟨_,(ai (DR (tM c g (a.mono 23) (aa (dv 1) af))) (ao (ax (ah e a (aa (ah d a (aa (dv 0) (aa (dv 1) af))) (aa (ak (dv 0) ae) af)))))),?_⟩
 rintro n Q ⟨j,i,g,d,rfl,h⟩;x_go;unfold dP at h;rcases h with⟨e,h⟩| ⟨m,rfl,M,e,l,a,d,c,h⟩;lk;rw[tZ];calc .inr ⟨e,h⟩;lk;calc .inl ⟨e,a,d,c,M,?_⟩;lk;let B:∀{x y z:Int},Bd 41 x->Bd 41 y->Bd 41 z->Bd 4000 (x*i+y*g+z*j):=λb g e=>((((b.mul d).add (g.mul c)).add ((e.mul a).mono 23)).mono 23)
 calc⟨λz=>33,a.mono 23,B M.a M.b M.e,B M.c M.d M.f,h⟩
def Ki (F:av K "chain" "chain" xI f fd) (C:U4 K mg κ)  (b:L4 P w K mg base κ) (c:mg "len" = none):aA P w K mg base (CX1 P w) 2 f fd ["places"] (aD K (uA κ)):=by
 refine av.okN F uq (by fin2) λ_ _ _ _ _ _ a=>⟨_,(ai (qi 1 uq.nd af) (ai (dh PassesOwn.never rfl (aT (dv 0)) (cu 2 uq.nd) (ai (kH PassesOwn.never (Mn 1 (PWD.pt (AV (aH jS (aP bU (by rfl) c Zp (aa (dv 1) af)) ae) (xk (aH vM (ah b a (aa (ak (dv 1) (bE ae)) (aa (ak (dv 1) (bE ae)) (aa (dv 2) af)))) ae))))) (ao (Pn 1))) (ao (gn 1 (dv 2))))) (gM 1 (ao (ax (dv 1)))))),?_⟩
 rintro t Q Ed ⟨a,rfl,h⟩;x_go;unfold kN at h;let⟨s,j,h⟩:=h;lk;calc⟨Yt _,?_⟩;calc PD.mI a VU (λdone b=>∃v:Option Sl,b=[some (.val (.lst false (a.map VU))),some (.own ((bN [] done).reverse.map VU)),v]/\#[bN [] done]<=#[done]/\∀p∈bN [] done,SB p) ?_ ?_ ?_ ?_;intro R c;lk;calc c;exact⟨none,rfl,VY _,by simp[bN]⟩
 ·rintro done x q c Wx ⟨v,rfl,e,d⟩;lk;calc⟨λm b=>∃st:yas,b=[some (.val (.lst false (a.map VU))),some (.own (st.reverse.map VU)),some (.val (VU x))]/\m=#[st]/\cG st x=cG (bN [] done) x/\#[st]<=#[done]/\∀p∈st,SB p,⟨_,_,rfl,rfl,rfl,e,d⟩,?_⟩;rintro m b ⟨st,rfl,rfl,k,o,g⟩;let d:cG st x=st->(#[st.reverse.map VU]<sizeLine/\∃v:Option Sl,([some (.val (.lst false (a.map VU))),some (.own (st.reverse.map VU++[VU x])),some (.val (VU x))]:Ro)=[some (.val (.lst false (a.map VU))),some (.own ((bN [] (done++[x])).reverse.map VU)),v]/\#[bN [] (done++[x])]<=#[done++[x]]/\∀p∈bN [] (done++[x]),SB p):=λe=>by
   let a:bN [] (done++[x])=x::st:=by rw[sQ,<- k,e]
   rw[a];calc⟨by rw[T4,zBk,VA];lia,_,by rw[zCd,Yx];rfl,by simp;lia,λp e=>?_⟩;obtain z|z:=VC.mp e;rw[z];calc j x c;exact g p z
  lk;obtain _|⟨b,_|⟨a,r⟩⟩:=st;rw[TM 52];calc d rfl;rw[TM 52];exact d rfl
  ·rw[TU (by simp;lia)];let i:(b::a::r).reverse.map VU=r.reverse.map VU++[VU a]++[VU b]:=52
   let n:=g a 52;let m:=g b 52;let l:=j x c;let c:Bd 1000 1:=by ext Bd;decide
   refine⟨_,by rw[i];calc Gx _ _ _,_,by rw[i];calc Js _ _,?_⟩
   try simp only[lh]
   show oZ κ [T3 1 a.1 a.2,T3 1 b.1 b.2,T3 1 x.1 x.2] _ _;rw[tw,n8];calc⟨c,n.x.mono 23,n.y.mono 23,c,m.x.mono 23,m.y.mono 23,c,l.x.mono 23,l.y.mono 23,?_⟩;rw[iC,rC];by_cases c:sw 1 a.1 a.2 1 b.1 b.2 1 x.1 x.2<=0
   ·let j:cr a b x<=0:=c;rw[TU (by simpa using c)];calc⟨52,#[a::r],52,a::r,?_,rfl,?_,?_,λp e=>g p (W9 _ e)⟩;rw[i,List.dropLast_concat];simp
    ·rw[<- k];conv=>rhs;unfold cG
     rw[TU j]
    simp at o ⊢;lia
   let j:¬cr a b x<=0:=c;rw[TM (by simpa using c)];exact d (by ext cG;rw[TM j])
 rintro q ⟨v,rfl,_⟩;lk;calc h
def Ng (F:av K "hull" "hull" vX f fd) (C:U4 K mg κ)  (b:LZ P w K mg base κ) (g:gH P w K mg base κ) (e:mg "len" = none) (c:mg "set" = none) (d:mg "sorted" = none):aA P w K mg base (CX1 P w) 3 f fd ["spots"] (aD K (xU κ)):=by
 refine av.okN F Em (by fin2) λ_ _ _ _ _ _ a=>⟨_,(ai (cR 1 Em.nd (by rfl) (by calc aY (osc:=aj vX) (xs:=["spot"]) (ns:=[]) (by decide +kernel)) aR.nil (aT ((ve rfl (by calc Hl a) (by rfl) d (by rfl) c (dv 0))).ped) (λ_ _ _ _ _=>bK) (λ_ _ _ _ _=>(ah g a (aa (dv 0) af)))) (ai (aX (aH d6 (aP bU (by rfl) e Zp (aa (dv 1) af)) ae) (ao (ax (dv 1))) aI) (ao (ax (ag aE (PEF.ped (iz (ah b a (aa (dv 1) af)) dQ (eS (bE ae)))) (PEF.ped (iz (ah b a (aa (PEF.ped (Pg (dv 1))) af)) dQ (eS (bE ae))))))))),?_⟩
 rintro o Q Ed ⟨c,rfl,h⟩;x_go;unfold rW at h;let⟨n,i,h⟩:=h;lk;refine nk (P:=λa=>bC a c/\#[a]<=#[c]) UD VU (λR g=>?_) (λa b=>by rw[VA];omega) (λa b x m K k=>?_) λa b=>?_
 calc⟨false,c.map spK,by rw[LM],by rw[T4];omega,λk d=>?_,λj c=>?_⟩;let⟨p,_,e⟩:=UQ.mp d;rw[<- e];calc List.cons_ne_nil _ _;let⟨a,rfl,b⟩:=Iq c;rw[<- LM];calc g a ⟨b,nR b⟩;ext UD;lk;calc k;let l:=b.2;let g:∀p∈a,SB p:=λp e=>i p ((b.1.2 p).mp e)
 let d:=h a b.1 b.2;let c:=kM [] a;let b:=kM [] a.reverse;simp only[List.length_nil,zBk]at c b;unfold aM at d;lk;rw[T4];split;rename_i c;rw[TU (by omega)]at d;calc d;rename_i c;rw[TM (by omega)]at d;calc⟨by omega,g,?_⟩;rw[<- List.map_reverse,wI,tj,kN];calc⟨by rw[zBk];omega,λp e=>g p (List.mem_reverse.mp e),true,_,rfl,?_⟩;rw[AF,AF];calc⟨?_,?_⟩;rw[zBp,zBp,T4,T4,zBk,zBk,VA];omega;rw[<- List.map_dropLast,<- List.map_dropLast,<- Yx];calc d
def xC (F:av K "thin_bounds" "thin_bounds" jH f fd) (C:U4 K mg κ)  (d:Dl P w K mg base κ) (c:Gf P w K mg base κ) (b:zY P w K mg base κ) (e:pT P w K mg base κ)  : aA P w K mg base (CX1 P w) 2 f fd ["one", "other"] (aD K (iS κ)):=by
 refine av.okN F iL (by fin2) λ_ _ _ _ _ _ a=>⟨_,(ai (ay 2 iL.nd (nB (aH (vN (by calc a.units)) (dv 0) (dv 1)) (ah d a (aa (dv 0) (aa (dv 1) af))) (bf (aa ae (aa ae af))))) (ai (ay 3 iL.nd (ah e a (aa (dv 2) af))) (ao (ax (eE (aa (ah b a (aa (dv 0) (aa (dv 2) af))) (aa (ah b a (aa (dv 1) (aa (ah c a (aa (dv 2) af)) af))) (aa (ah b a (aa (dv 0) (aa (dv 3) af))) (aa (ah b a (aa (dv 0) (aa (ah c a (aa (dv 3) af)) af))) af))))))))),?_⟩
 rintro r Q Ed ⟨a,b,rfl,h⟩;x_go;let⟨l,k,h⟩:=h;let j:Bd 200 1:=by ext Bd;decide
 let q:∀(p w:Sp) (K:D->Prop),SB p->WB 62 w->K (Ug (cn p w))->cM κ [VU p,UD w] K λ_=>False:=λp w K d c e=>by show cM κ [T3 1 p.1 p.2,UD w] K _;rw[kZ,jg];exact⟨j,d.x.mono 23,d.y.mono 23,c.mono 23,e⟩
 let n:∀{w:Sp},WB 62 w->WB 62 (V4 w):=λc=>⟨pY c.x,pY c.y⟩
 let m:∀{w:Sp},WB 62 w->WB 62 (VH w):=λc=>⟨pY c.y,c.x⟩
 let i:∀w:Sp,WB 62 w->Q (.lst true ([cn a w,cn b (V4 w),cn a (VH w),cn a (V4 (VH w))].map Ug))->j6 κ [UD w] (λd=>cM κ [VU a,UD w] (λx=>mX κ [UD w] (λe=>cM κ [VU b,aJ e] (λg=>cM κ [VU a,aJ d] (λe=>mX κ [aJ d] (λd=>cM κ [VU a,aJ d] (λd=>#[[x,g,e,d]]<=sizeLine/\Q (D.lst true [x,g,e,d])) λ_=>False) λ_=>False) λ_=>False) λ_=>False) λ_=>False) λ_=>False) λ_=>False:=λw c o=>by grind [pK,wA,uJ,sz4]
 unfold fO aS at h;lk;calc⟨(HQ a).ok,(HQ b).ok,?_⟩;by_cases c:a=b;rw[TU c]at h;rw[TM (by rw[c,nJ];simp)];calc⟨sz2 _ _,i (1,0) ⟨by ext Bd;decide,by ext Bd;decide⟩ h⟩;rw[TM c]at h;rw[TU (by rw[Px];simpa using c)];show oM κ [T3 1 a.1 a.2,T3 1 b.1 b.2] _ _;rw[sZ,nU];calc⟨j,l.x.mono 23,l.y.mono 23,j,k.x.mono 23,k.y.mono 23,?_⟩;let d:=Jo l k;unfold aS at d;rw[TM c]at d;calc i (1*b.1 - 1*a.1,1*b.2 - 1*a.2) d h
def HR (F:av K "bounds" "bounds" n9 f fd) (C:U4 K mg κ)  (c:yr P w K mg base κ) (d:zj P w K mg base κ) (b:mg "len" = none) (e:mg "range" = none):aA P w K mg base (CX1 P w) 3 f fd ["corners"] (aD K (qP κ)):=by
 refine av.okN F Iw (by fin2) λ_ _ _ _ _ _ a=>⟨_,(ai (aX (aH d6 (aP bU (by rfl) b Zp (aa (dv 0) af)) ae) (ao (ax (ah d a (aa (ak (dv 0) ae) (aa (ak (dv 0) (bE ae)) af))))) aI) (ao (ax (bV (by rfl) (by calc aY (osc:=aj n9) (xs:=["index"]) (ns:=["corners"]) (by decide +kernel)) (aR.cons 0 aR.nil) (jc (by rfl) e (aa (aP bU (by rfl) b Zp (aa (dv 0) af)) af)) (λ_ _ _ _ _=>bK) (λ_ _ _ _ _=>(ah c a (aa (ak (dv 1) (ag aO (dv 0) ae)) (aa (ak (dv 1) (dv 0)) af)))))))),?_⟩
 rintro n Q Ed ⟨a,rfl,h⟩;x_go;let⟨b,l,c,h⟩:=h;unfold aU at h;let e:∀i,i<#[a]->a[i]?=some (a.getD i (0,0)):=58
 let d:∀i,i<#[a]->SB (a.getD i (0,0)):=λi m=>c _ 47
 lk;rw[T4];by_cases c:#[a]<3;rw[TU 33];rw[TU c]at h;calc⟨_,bR (j:=0) (by rw[WA,e 0 b];rfl),_,Gw (by rw[T4];calc b) (by rw[T4,WA,e _ 33];rfl),?_⟩;rw[lh,lh,jN,fe];calc⟨d 0 b,d _ 33,h⟩;rw[TM 33];rw[TM c]at h;calc PD.comp_map (List.range' 0 #[a]) (λ(k:Nat)=>D.int (k:Int)) (λ_=>true) (λk=>Ug (bX (bQ a k) (a.getD k (0,0)))) (λR q=>?_) (by grind [List.length_range',sizeLine_eq]) (λk g K c=>?_) (λk g _ K c=>?_) ?_;lk;rw[T4,BP];calc⟨⟨33,33⟩,q⟩;lk;calc c;let i:k<#[a]:=58
 let g:(k+#[a] - 1) % #[a]<#[a]:=zCQ _ b;let at1:atI (a.map VU) ((k:Int) - 1)=some (VU (bQ a k)):=by have:=An (a.map VU) k 1 47 (by rw[T4];calc b);rw[T4,WA,e _ g]at this;exact this
 let at0:atI (a.map VU) (k:Int)=some (VU (a.getD k (0,0))):=bR 47;let e:SB (bQ a k):=d _ g;let g:=d k i;let b:Bd 200 1:=by ext Bd;decide
 lk;calc⟨_,at1,_,at0,?_⟩;show j5 κ [T3 1 (bQ a k).1 (bQ a k).2,T3 1 (a.getD k (0,0)).1 (a.getD k (0,0)).2] _ _;rw[pJ,jU];calc⟨b,e.x.mono 23,e.y.mono 23,b,g.x.mono 23,g.y.mono 23,c⟩;rw[YQ.mpr (λ_ _=>rfl)];rw[Ww]at h;calc h
def vP (F:av K "on_two_spots" "on_two_spots" iH f fd) (C:U4 K mg κ)  (b:gh P w K mg base κ)  : aA P w K mg base (CX1 P w) 2 f fd ["dots", "pair"] (aD K (ie κ)):=by
 refine av.okN F wj (by fin2) λ_ _ _ _ _ _ a=>⟨_,(ao (ax (fF (vN (by calc a.units)) (ah b a (aa (ak (dv 0) (ak (dv 1) ae)) af)) (ah b a (aa (ak (dv 0) (ak (dv 1) ae)) af))))),?_⟩
 rintro e Q Ed ⟨c,d,rfl,h⟩;x_go;let⟨b,a,h⟩:=h;ext ZM;lk;calc zP b ?_;lk;calc zP a ?_;lk;calc⟨(HN _ _).ok,(HN _ _).ok,?_⟩;rw[Qz];calc h
def zx (F:av K "spot_pairs" "spot_pairs" eO f fd) (C:U4 K mg κ)  (b:wV P w K mg base κ) (c:Dn P w K mg base κ) (d:mg "len" = none):aA P w K mg base (CX1 P w) 3 f fd ["dots"] (aD K (jM κ)):=by
 refine av.okN F pG (by fin2) λ_ _ _ _ _ _ a=>⟨_,(ai (cR 1 pG.nd (by rfl) (by calc aY (osc:=aj eO) (xs:=["pick"]) (ns:=[]) (by decide +kernel)) aR.nil (aT (ah c a (aa (aP bU (by rfl) d Zp (aa (dv 0) af)) (aa ae af)))) (λ_ _ _ _ _=>bK) (λ_ _ _ _ _=>(bf (aa (ak (dv 0) ae) (aa (ak (dv 0) ae) af))))) (ao (ax (bV (by rfl) (by calc aY (osc:=aj eO) (xs:=["pair"]) (ns:=["dots"]) (by decide +kernel)) (aR.cons 0 aR.nil) (aT (dv 1)) (λ_ _ _ _ _=>(qZ (jb (ah b a (aa (dv 1) (aa (dv 0) af)))))) (λ_ _ _ _ _=>(dv 0)))))),?_⟩
 rintro i Q Ed ⟨b,rfl,h⟩;x_go;let⟨a,h⟩:=h;let g:#[prs #[b]]<=sizeLine:=by let e:=mP #[b] 2;rw[JZ,T4]at e;have:#[b] ^ 2<=60 ^ 2:=Nat.pow_le_pow_left a 2;grind [sizeLine_eq]
 lk;calc PD.comp_map (prs #[b]) (λa=>Y1 [a.1,a.2]) (λ_=>true) ZM (λR q=>?_) g (λa d K c=>?_) (λa d _ K c=>?_) ?_;lk;calc⟨#[b],2,47,rfl,33,23,?_⟩;rw[JZ,Ww];calc q;calc c;ext Y1;lk;calc⟨sz2 _ _,c⟩;rw[YQ.mpr (λ_ _=>rfl)];calc PD.comp_map (prs #[b]) ZM (λa=>decide (VZ (gp b a.1)≠VZ (gp b a.2))) ZM (λR q=>?_) g (λa d K c=>?_) (λa d _ K c=>?_) h;lk;calc q;let m:=D7.mp (show(a.1,a.2)∈prs #[b] from d);lk
 lia
 calc c
def BB (F:av K "pair_line" "pair_line" md f fd) (C:U4 K mg κ)  (a:Om P w K mg base κ) (d:gH P w K mg base κ) (c:gh P w K mg base κ)  : aA P w K mg base (CX1 P w) 4 f fd ["dots", "pair"] (aD K (k9 κ)):=by
 refine av.okN F B6 (by fin2) λ_ _ _ _ _ _ b=>⟨_,(ao (ax (ah a b (aa (ah d b (aa (ah c b (aa (ak (dv 0) (ak (dv 1) ae)) af)) af)) (aa (ah d b (aa (ah c b (aa (ak (dv 0) (ak (dv 1) ae)) af)) af)) af))))),?_⟩
 rintro n Q Ed ⟨i,j,rfl,h⟩;x_go;let⟨c,b,a,g,h⟩:=h;let e:=a _ (mK c);let d:=a _ (mK b);ext ZM;lk;calc zP c ?_;lk;calc zP b ?_;lk;let a:Bd 200 1:=Bd.mono (m:=2) (by ext Bd;decide) 23;calc⟨a,e.x.mono 23,e.y.mono 23,a,d.x.mono 23,d.y.mono 23,?_,?_⟩;rintro⟨l,k⟩;calc g ?_;ext VZ;grind;calc h
def CV (F:av K "split_by" "split_by" j3 f fd) (C:U4 K mg κ)  (c:ni P w K mg base "weighed" 3 ["dots", "gauge", "colour"] "colour" (fq κ)) (b:mg "set" = none) (d:mg "sorted" = none):aA P w K mg base (CX1 P w) 4 f fd ["dots", "lines"] (aD K (my κ)):=by
 refine av.okN F C5 (by fin2) λ_ _ _ _ _ _ a=>⟨_,(ao (ax (bV (by rfl) (by calc aY (osc:=aj j3) (xs:=["each"]) (ns:=["dots"]) (by decide +kernel)) (aR.cons 0 aR.nil) (aT ((ve rfl (by calc Hl a) (by rfl) d (by rfl) b (dv 1))).ped) (λ_ _ _ _ _=>bK) (λ_ _ _ _ _=>(ag aE (bf (aa (dv 0) af)) (gk c (a.mono 23) (aa (dv 1) (aa (dv 0) af)))))))),?_⟩
 rintro q Q Ed ⟨c,d,rfl,h⟩;x_go;unfold fH at h;let⟨i,n,e,l,h⟩:=h;lk;refine nk (P:=λa=>bD a d) Ug (BQ c) (λR m=>?_) (λa b=>by have:=gB b;rw[VA];lia) (λa b x g K k=>?_) λa b=>?_
 calc⟨false,d.map trK,by rw[LO],by rw[T4];calc e,λk j=>?_,λo d=>?_⟩;let⟨p,_,e⟩:=UQ.mp j;rw[<- e];calc List.cons_ne_nil _ _;let⟨a,rfl,b⟩:=Ir d;rw[LO];calc m a b;let⟨j,e,d⟩:=l x ((b.2 x).mp g);lk;calc⟨sz1 _,?_⟩;show fq κ [.lst false (c.map Ui),T3 x.1 x.2.1 x.2.2,.UE] _ _;rw[pL,j1];calc⟨λ_=>true,.inl ⟨rfl,rfl⟩,i,j,e,d,n,?_⟩;lk;calc⟨by rw[VA];show 4<=_;lia,k⟩;calc h a b
def zu (F:av K "pair_lines" "pair_lines" gY f fd) (C:U4 K mg κ)  (b:Cr P w K mg base κ) (c:Ae P w K mg base κ)  : aA P w K mg base (CX1 P w) 5 f fd ["dots"] (aD K (jL κ)):=by
 refine av.okN F zA (by fin2) λ_ _ _ _ _ _ a=>⟨_,(ao (ax (bV (by rfl) (by calc aY (osc:=aj gY) (xs:=["pair"]) (ns:=["dots"]) (by decide +kernel)) (aR.cons 0 aR.nil) (aT (ah c a (aa (dv 0) af))) (λ_ _ _ _ _=>bK) (λ_ _ _ _ _=>(ah b a (aa (dv 1) (aa (dv 0) af))))))),?_⟩
 rintro i Q Ed ⟨a,rfl,h⟩;x_go;let⟨b,g,h⟩:=h;let c:#[sps a]<=sizeLine:=by have:=D4 a;unfold qt at this;have:#[a]*#[a]<=30*30:=Nat.mul_le_mul b b;grind [sizeLine_eq]
 calc PD.comp_map (sps a) ZM (λ_=>true) (λb=>Ug (lnF (gp a b.1) (gp a b.2))) (λR q=>?_) c (λb e K d=>?_) (λb e _ K d=>?_) ?_;lk;calc⟨33,q⟩;calc d;let⟨a,b,c⟩:=mR.mp e;lk;calc⟨33,b,g,c,d⟩;rw[YQ.mpr (λ_ _=>rfl)];unfold qt at h;rw[Ww]at h;calc h
def HW (F:av K "length" "length" um f fd) (C:U4 K mg κ)   (a:mg "abs" = none):aA P w K mg base (CX1 P w) 1 f fd ["way"] (aD K (qT κ)):=by
 refine av.okN F IA (by fin2) λ_ _ _ _ _ _ b=>⟨_,(ao (ax (ag aE (aP p4 (by rfl) a boot_abs (aa (ak (dv 0) ae) af)) (aP p4 (by rfl) a boot_abs (aa (ak (dv 0) ae) af))))),?_⟩
 rintro c Q Ed ⟨w,rfl,h⟩;x_go;ext UD;lk;calc h
def vO (F:av K "are_opposite" "are_opposite" iG f fd) (C:U4 K mg κ)  (b:Af P w K mg base κ)  : aA P w K mg base (CX1 P w) 2 f fd ["one", "other"] (aD K (ib κ)):=by
 refine av.okN F we (by fin2) λ_ _ _ _ _ _ a=>⟨_,(ao (ax (u6 (fF bI (ah b a (aa (dv 0) (aa (dv 1) af))) ae) (u7 (fF d6 (ag aE (ag az (ak (dv 0) ae) (ak (dv 1) ae)) (ag az (ak (dv 0) ae) (ak (dv 1) ae))) ae))))),?_⟩
 rintro g Q Ed ⟨a,b,rfl,h⟩;x_go;unfold d8 at h;let⟨e,d,h⟩:=h;lk;calc⟨e,d,?_⟩;by_cases c:tn a b=0;rw[TU c];ext UD;lk;calc⟨ZE e.x d.x,ZE e.y d.y,?_⟩;let e:decide (tn a b=0/\TP a b<0)=decide (a.1*b.1+a.2*b.2<0):=by rw[decide_eq_decide];exact⟨λq=>q.2,λq=>⟨c,q⟩⟩
 rw[e]at h;calc h;rw[TM c];rw[decide_eq_false (λq=>c q.1)]at h;calc h
def sE (F:av K "balance_of_two" "balance_of_two" fT f fd) (C:U4 K mg κ)  (c:wU P w K mg base κ) (b:z9 P w K mg base κ) (d:Aa P w K mg base κ)  : aA P w K mg base (CX1 P w) 3 f fd ["one", "other"] (aD K (fB κ)):=by
 refine av.okN F sH (by fin2) λ_ _ _ _ _ _ a=>⟨_,(ai (aX (mG (jb (ah c a (aa (dv 0) (aa (dv 1) af))))) (ao (ax qh)) aI) (ao (ax (ah d a (aa (eE (aa (ah b a (aa (dv 1) af)) (aa (ah b a (aa (dv 0) af)) af))) af))))),?_⟩
 rintro j Q Ed ⟨a,b,rfl,h⟩;x_go;let⟨d,c,h⟩:=h;lk;calc⟨d,c,?_⟩;unfold pW at h;split;rename_i c;rw[TU c]at h;let g:a≠(0,0):=λe=>by have:=c.2;unfold TP at this;cbv
 let i:=tW g;let e:Bd 402 (bF a):=xr d;calc⟨sz2 _ _,?_⟩;show jj κ [D.lst false ([bF b,bF a].map D.int)] _ _;rw[k7,jh];let g:=MG (d:=bF b) (x:=bF a) 33;calc⟨52,by show((Int.gcd ((Int.gcd 0 (bF b):Nat):Int) (bF a):Nat):Int)≠0;lia,JK e 33,h⟩;rename_i c;rw[TM c]at h;calc h
def pM (F:av K "balance_of_three" "balance_of_three" cX f fd) (C:U4 K mg κ)  (e:Aa P w K mg base κ) (b:Af P w K mg base κ) (c:mg "max" = none) (d:mg "min" = none):aA P w K mg base (CX1 P w) 3 f fd ["one", "two", "three"] (aD K (dY κ)):=by
 refine av.okN F dX (by fin2) λ_ _ _ _ _ _ a=>⟨_,(ai (ay 3 dX.nd (eE (aa (ah b a (aa (dv 1) (aa (dv 2) af))) (aa (ah b a (aa (dv 2) (aa (dv 0) af))) (aa (ah b a (aa (dv 0) (aa (dv 1) af))) af))))) (ai (aX (aH d6 (aP (Mc rfl) (by rfl) c boot_max (aa (dv 3) af)) ae) (ao (cR 3 dX.nd (by rfl) (by calc aY (osc:=aj cX) (xs:=["each"]) (ns:=[]) (by decide +kernel)) aR.nil (aT (dv 3)) (λ_ _ _ _ _=>bK) (λ_ _ _ _ _=>(bE (dv 0))))) aI) (ai (aX (aH vM (aP (Md rfl) (by rfl) d boot_min (aa (dv 3) af)) ae) (ao (ax qh)) aI) (ao (ax (ah e a (aa (dv 3) af))))))),?_⟩
 rintro B Q Ed ⟨a,b,e,rfl,h⟩;x_go;let⟨d,c,g,h⟩:=h;let i:Bd 801 (tn a b):=(d.x.mul c.y).sub (c.x.mul d.y);unfold lS at h;generalize e1:tn b e=x at *;generalize e2:tn e a=y at *;generalize e3:tn a b=z at *;let b:∀u v w:Int,Bd 801 w->0<w->Q (.lst true ((dq [u,v,w]).map D.int))->jj κ [D.lst false ([u,v,w].map D.int)] Q λ_=>False:=λu v w e j q=>by
  rw[k7,jh];let a:w≠0:=33
  let gp:0<Int.gcd ((Int.gcd ((Int.gcd 0 u:Nat):Int) v:Nat):Int) w:=Int.gcd_pos_iff.mpr (.inr a);exact⟨52,by show((Int.gcd ((Int.gcd ((Int.gcd 0 u:Nat):Int) v:Nat):Int) w:Nat):Int)≠0;lia,(Hh e a).mono 23,q⟩
 lk;calc⟨c,g,g,d,d,c,?_⟩;rw[e1,e2,e3];calc⟨Z0 _ _ _,.inr ⟨true,[x,y,z],rfl,52,λm c a=>?_⟩⟩;let A:=a x 52;let t:=a y 52;let s:=a z 52;let r:m=x∨m=y∨m=z:=by simpa using c
 split;rename_i c;calc PD.comp_map [x,y,z] D.int (λ_=>true) (λk=>.int (-k)) (λR q=>?_) (by rw[VA];simp) (λk d K a=>?_) (λk d _ K a=>?_) ?_;lk;calc q;lk;calc a;lk;calc a;calc⟨true,[-x,-y,-z],rfl,52,λn d a=>?_⟩;let e:n=-x∨n=-y∨n=-z:=by simpa using d
 rw[TM 33]at h ⊢;rw[TU 33]at h;calc b _ _ _ (pY i) 33 h;rename_i c;calc⟨true,[x,y,z],rfl,52,λn d a=>?_⟩;let e:n=x∨n=y∨n=z:=by simpa using d
 let p:=a x 52;let o:=a y 52;let l:=a z 52;split;rename_i d;rw[TM 33,TM 33]at h;calc h;rename_i d;rw[TU 33]at h;calc b _ _ _ i 33 h
def Fj (F:av K "balance" "balance" qD f fd) (C:U4 K mg κ)  (d:pR P w K mg base κ) (e:tF P w K mg base κ) (c:z9 P w K mg base κ) (b:mg "len" = none):aA P w K mg base (CX1 P w) 4 f fd ["ways"] (aD K (oN κ)):=by
 refine av.okN F FH (by fin2) λ_ _ _ _ _ _ a=>⟨_,(ai (aX (aH bI (aP bU (by rfl) b Zp (aa (dv 0) af)) ae) (ao (ax (nB (aH bI (ah c a (aa (ak (dv 0) ae) af)) ae) (eE (aa ae af)) qh))) aI) (ai (aX (aH bI (aP bU (by rfl) b Zp (aa (dv 0) af)) ae) (ao (ax (ah e a (aa (ak (dv 0) ae) (aa (ak (dv 0) ae) af))))) aI) (ao (ax (ah d a (aa (ak (dv 0) ae) (aa (ak (dv 0) ae) (aa (ak (dv 0) ae) af)))))))),?_⟩
 rintro j Q Ed ⟨a,rfl,h⟩;x_go;let⟨c,g,i,h⟩:=h;obtain _|⟨a,_|⟨b,_|⟨e,_|⟨z,r⟩⟩⟩⟩:=a;simp at c;let d:Q (oL (tH a)):=h;unfold tH at d;lk;by_cases c:bF a=0;rw[TU c]at d ⊢;calc⟨sz1 _,d⟩;rw[TM c]at d ⊢;calc d;let d:Q (oL (pW a b)):=h;lk
 cbv
 let d:Q (oL (lS a b e)):=h;lk
 cbv
 simp at g
 lia
def ub (F:av K "place_between" "place_between" gZ f fd) (C:U4 K mg κ)  (c:L3 P w K mg base κ) (b:Dp P w K mg base κ)  : aA P w K mg base (CX1 P w) 4 f fd ["one", "other", "gauge"] (aD K (dO κ)):=by
 refine av.okN F fX (by fin2) λ_ _ _ _ _ _ a=>⟨_,(ai (ay 3 fX.nd (ah b a (aa (dv 2) (aa (dv 0) af)))) (ai (ay 4 fX.nd (ah b a (aa (dv 2) (aa (dv 1) af)))) (ao (ax (ah c a (aa (ag aO (ag az (dv 4) (ak (dv 0) ae)) (ag az (dv 3) (ak (dv 1) ae))) (aa (ag aO (ag az (dv 4) (ak (dv 0) ae)) (ag az (dv 3) (ak (dv 1) ae))) (aa (ag aO (ag az (dv 4) (ak (dv 0) ae)) (ag az (dv 3) (ak (dv 1) ae))) af)))))))),?_⟩
 rintro z Q Ed ⟨y,u,k,t,s,r,p,o,n,rfl,h⟩;x_go;let⟨j,i,g,e,d,c,b,l,a,q,h⟩:=h;let m:∀{x:Int},Bd 200 x->Bd 1000 x:=λh=>h.mono 23
 let hv:Bd 402 (p*y+o*u+n*k):=((b.mul j).add (l.mul i)).add ((a.mul g).mono 23);let k:Bd 402 (p*t+o*s+n*r):=((b.mul e).add (l.mul d)).add ((a.mul c).mono 23);lk;calc⟨m b,m l,m a,m j,m i,m g,m b,m l,m a,m e,m d,m c,ZE k j,ZE hv e,ZE k i,ZE hv d,ZE k g,ZE hv c,q,?_,?_,?_,?_⟩;calc((k.mul j).sub (hv.mul e)).mono 23;calc((k.mul i).sub (hv.mul d)).mono 23;calc((k.mul g).sub (hv.mul c)).mono 23;calc h
def Fm (F:av K "clipped" "clipped" lL f fd) (C:U4 K mg κ)  (e:uP P w K mg base κ) (a:Gm P w K mg base κ) (d:mg "len" = none) (b:mg "range" = none):aA P w K mg base (CX1 P w) 5 f fd ["corners", "gauge"] (aD K (ic κ)):=by
 refine av.okN F hU (by fin2) λ_ _ _ _ _ _ c=>⟨_,(ai (qi 2 hU.nd af) (ai (dh PassesOwn.never rfl (jc (by rfl) b (aa (aP bU (by rfl) d Zp (aa (dv 0) af)) af)) (cu 3 hU.nd) (ai (ay 4 hU.nd (ak (dv 0) (ag aO (dv 3) ae))) (ai (ay 5 hU.nd (ak (dv 0) (dv 3))) (ai (aX (aH d6 (ag az (ah a c (aa (dv 1) (aa (dv 4) af))) (ah a c (aa (dv 1) (aa (dv 5) af)))) ae) (ao (gn 2 (ah e c (aa (dv 4) (aa (dv 5) (aa (dv 1) af)))))) aI) (ao (aX (aH Sg (ah a c (aa (dv 1) (aa (dv 5) af))) ae) (ao (gn 2 (dv 5))) aI)))))) (gM 2 (ao (ax (bV (by rfl) (by calc aY (osc:=aj lL) (xs:=["index"]) (ns:=["kept"]) (by decide +kernel)) (aR.cons 2 aR.nil) (jc (by rfl) b (aa (aP bU (by rfl) d Zp (aa (dv 2) af)) af)) (λ_ _ _ _ _=>(qZ (aH (Kd (by calc c.units)) (ak (dv 1) (dv 0)) (PEF.ped (iz (dv 1) dQ (eS (dv 0))))))) (λ_ _ _ _ _=>(ak (dv 1) (dv 0))))))))),?_⟩
 rintro ds Q Ed ⟨a,g,d,b,rfl,h⟩;x_go;unfold eY at h;let⟨hl,t,n,A,l,h⟩:=h;let m:∀{x:Int},Bd 200 x->Bd 1000 x:=λh=>h.mono 23
 let y:∀p∈a,Bd 200 p.1/\Bd 200 p.2.1/\Bd 200 p.2.2:=λp e=>⟨(t p e).2.b.mono 23,(t p e).2.x.mono 23,(t p e).2.y.mono 23⟩
 let s:∀{i:yat} {k:Nat} {p:Tr},i[k]?=some p->atI (i.map Ug) (k:Int)=some (Ug p):=fun {i k p} e=>bR (by rw[WA,e];rfl)
 lk;calc⟨Yt _,?_⟩;calc Hg (List.range' 0 #[a]) (λ(k:Nat)=>D.int (k:Int)) (λj e=>∃E C B:Option Sl,e=[some (.val (.lst false (a.map Ug))),some (.val (T3 g d b)),some (.own ((aK (g,d,b) (cD (g,d,b)) (a.getLastD (0,0,0)) (a.take j)).map Ug)),E,C,B]) (λR q=>?_) ⟨none,none,none,rfl⟩ ?_ ?_;lk;rw[T4,BP];calc⟨⟨33,33⟩,q⟩;rintro j k TN o ⟨E,C,B,rfl⟩ KK u;let⟨e,i⟩:=Zn.mp o;rw[zBe]at e;rw[List.getElem_range',zCU,Nat.one_mul]at i;subst i;let r:a[j]?=some a[j]:=Wc e;let U:atI (a.map Ug) ((j:Int) - 1)=some (Ug ((a.take j).getLastD (a.getLastD (0,0,0)))):=by
  have:=An (a.map Ug) j 1 (by rw[T4];calc e) (by rw[T4];lia);rw[show((j:Int) - 1)=((j:Int) - ((1:Nat):Int))from rfl,this,T4,WA];let i:a[(j+#[a] - 1) % #[a]]?=some ((a.take j).getLastD (a.getLastD (0,0,0))):=by
   cases j with
   |zero =>
    have:(0+#[a] - 1) % #[a]=#[a] - 1:=by rw[zCU];exact ZO 33
    rw[this,List.take_zero,List.getLastD_nil,<- List.getLast?_eq_getElem?,zCH];cases hq:a.getLast? with
    |none=>rw[zDJ]at hq;rw[hq]at e;calc absurd e 52
    |some z=>rfl
   |succ j =>
    have:(j+1+#[a] - 1) % #[a]=j:=by rw[show j+1+#[a] - 1=j+#[a] by lia,zC0];exact ZO 33
    rw[this,zCH,List.getLast?_take];simp;rw[Wc 33];rfl
  rw[i];rfl
 let H:(a.take j).getLastD (a.getLastD (0,0,0))∈a:=by
  rw[zCH];cases hq:(a.take j).getLast? with
  |some z=>calc(zCz j a).subset (zCi hq)
  |none =>
   rw[Option.getD_none,zCH];cases c:a.getLast? with
   |some z=>calc zCi c
   |none=>rw[zDJ]at c;rw[c]at e;exact absurd e 52
 let wl:=uK (g,d,b) (cD (g,d,b)) (a.take j) (a.getLastD (0,0,0));let tl:#[a.take j]<=#[a]:=by rw[zBR];lia
 let o:=I0 (g,d,b) (cD (g,d,b)) (a.getLastD (0,0,0)) (a.take j) a[j];rw[show a.take j++[a[j]]=a.take (j+1)by rw[zCl,r];rfl]at o;generalize (a.take j).getLastD (a.getLastD (0,0,0))=p at U H o;let G:a[j]∈a:=zBZ _;generalize YE:a[j]=c at r G o;generalize aK (g,d,b) (cD (g,d,b)) (a.getLastD (0,0,0)) (a.take j)=K at wl o ⊢;let⟨T,Q,O⟩:=y p H;let⟨N,M,L⟩:=y c G;let Y:#[K]<=2000000:=33
 let y:∀(e:yat) (J I:D),#[e]<=2000001->aK (g,d,b) (cD (g,d,b)) (a.getLastD (0,0,0)) (a.take (j+1))=e++(if 0<=gvS (g,d,b) c then[c]else[])->iR κ [T3 g d b,Ug c] (λx=>gP (λi j=>D.bl (decide (j<=i))) x (D.int 0) λx=>blQ x λk=>if k=true then#[e.map Ug]<sizeLine/\KK [some (.val (.lst false (a.map Ug))),some (.val (T3 g d b)),some (.own (e.map Ug++[Ug c])),some (.val (.int j)),some (.val J),some (.val I)]else KK [some (.val (.lst false (a.map Ug))),some (.val (T3 g d b)),some (.own (e.map Ug)),some (.val (.int j)),some (.val J),some (.val I)]) λ_=>False:=λe J I Y e=>by show iR κ [T3 g d b,T3 c.1 c.2.1 c.2.2] _ _;rw[j7,kx];calc⟨m n,m A,m l,m N,m M,m L,?_⟩;rw[iC,rC];let i:(0<=sg (g*c.1+d*c.2.1+b*c.2.2))↔0<=gvS (g,d,b) c:=Q8 _;by_cases q:0<=gvS (g,d,b) c;rw[TU q]at e;rw[TU (Ys (i.mpr q))];calc⟨by rw[T4,VA];lia,u _ ⟨_,_,_,by rw[e,Yx];rfl⟩⟩;rw[TM q,zBd]at e;rw[TM (by rw[decide_eq_true_eq];calc λz=>q (i.mp z))];exact u _ ⟨_,_,_,by rw[e]⟩
 lk;calc⟨_,U,_,s r,?_⟩;rw[iT,iT];show iR κ [T3 g d b,T3 p.1 p.2.1 p.2.2] _ _;rw[j7,kx];calc⟨m n,m A,m l,m T,m Q,m O,?_⟩;show iR κ [T3 g d b,T3 c.1 c.2.1 c.2.2] _ _;rw[j7,kx];calc⟨m n,m A,m l,m N,m M,m L,?_⟩;let i:(sg (g*p.1+d*p.2.1+b*p.2.2)*sg (g*c.1+d*c.2.1+b*c.2.2)<0)↔gvS (g,d,b) p*gvS (g,d,b) c<0:=Q7 _ _;let j:∀x:Int,Bd 64 (sg x):=λx=>by ext sg Bd;split;calc 23;split<;>decide
 rw[Ej,iC,rC];calc⟨.inl (j _),?_⟩;by_cases q:gvS (g,d,b) p*gvS (g,d,b) c<0;rw[TU (Ys (i.mpr q))];rw[TU q]at o;show dO κ [T3 p.1 p.2.1 p.2.2,T3 c.1 c.2.1 c.2.2,T3 g d b] _ _;rw[iq,dM];calc⟨T,Q,O,N,M,L,n,A,l,?_,by rw[T4,VA];lia,?_⟩;rcases Co (t p H).1 (t c G).1 q with⟨_,_,z⟩| ⟨_,_,z⟩<;>exact λe=>by rw[e]at z;exact zCZ _ z
 have:=y (K++[cD (g,d,b) p c]) (Ug p) (Ug c) (by simp;lia) (by rw[o,zBM]);rw[Yx]at this;calc this;rw[TM (by rw[decide_eq_true_eq];calc λz=>q (i.mp z))];rw[TM q,zBv]at o;calc y K (Ug p) (Ug c) 33 o;rintro TN ⟨E,C,B,rfl⟩;rw[zBe,zBq];let wl:=uK (g,d,b) (cD (g,d,b)) a (a.getLastD (0,0,0));let c:cO (g,d,b) a=YL [] (aK (g,d,b) (cD (g,d,b)) (a.getLastD (0,0,0)) a):=by
  ext cO;cases hq:a.getLast? with
  |none =>
   rw[zDJ]at hq;subst hq;rfl
  |some z=>rw[zCH,hq];rfl
 rw[c]at h;generalize aK (g,d,b) (cD (g,d,b)) (a.getLastD (0,0,0)) a=K at wl h ⊢;let d:∀k,k<#[K]->K[k]?=some (K.getD k (0,0,0)):=λk a=>by rw[Yu,Wc a];rfl
 let g:∀k,k<=#[K]->PD.cutD (K.map Ug) none (some (k:Int))=(K.take k).map Ug:=λk a=>by ext PD.cutD;rw[HT.KI,HT.mV,List.drop_zero,Nat.sub_zero,T4,Nat.min_eq_left a,List.map_take]
 let e:∀(l:yat) (x:Tr),(l.map Ug).any (λz=>eqD z (Ug x))=l.any λy=>decide (y=x):=λl x=>by
  rw[List.any_map];congr 1
  funext y
  exact Py y x
 lk;calc PD.comp_map (List.range' 0 #[K]) (λ(k:Nat)=>D.int (k:Int)) (λk=>!(K.take k).any λy=>decide (y=K.getD k (0,0,0))) (λk=>Ug (K.getD k (0,0,0))) (λR q=>?_) (by rw[zBe,VA];lia) (λk a c b=>?_) (λk a _ c b=>?_) ?_;lk;rw[T4,BP];calc⟨⟨33,33⟩,q⟩;let c:k<#[K]:=by rw[zCb]at a;lia
 lk;calc⟨_,s (d k c),?_⟩;rw[g k 33];calc⟨?_,?_⟩;calc(Ec _).okI;calc⟨(Yf.map Ec).ok,_,.inr ⟨_,rfl⟩,by rw[e];calc b⟩;let c:k<#[K]:=by rw[zCb]at a;lia
 lk;calc⟨_,s (d k c),b⟩;let a:=AN (0,0,0) K [];rw[List.length_nil,zBv]at a;rw[<- a,Ww]at h;calc h
def HS (F:av K "common" "common" uj f fd) (C:U4 K mg κ)  (b:yq P w K mg base κ)  : aA P w K mg base (CX1 P w) 6 f fd ["corners", "gauges"] (aD K (qR κ)):=by
 refine av.okN F qM (by fin2) λ_ _ _ _ _ _ a=>⟨_,(ai (dh PassesOwn.never rfl (aT (dv 1)) (cu 2 qM.nd) (ao (ay 0 qM.nd (ah b a (aa (dv 0) (aa (dv 2) af)))))) (ao (ax (dv 0)))),?_⟩
 rintro r Q Ed ⟨b,a,rfl,h⟩;x_go;let⟨o,d,e,h⟩:=h;calc PD.iA a Ug (λj c=>∃(t:Bool) (v:Option Sl),c=[some (.val (.lst t ((aQ (a.take j) b).map Ug))),some (.val (.lst false (a.map Ug))),v]) (λR q=>?_) ⟨false,none,rfl⟩ ?_ ?_;lk;calc q;rintro j g n c ⟨t,v,rfl⟩;let⟨l,p⟩:=Zn.mp c;let⟨k,i⟩:=d j l;let⟨m,l,d⟩:=e g (Xf c);lk;show ic κ [.lst false ((aQ (a.take j) b).map Ug),T3 g.1 g.2.1 g.2.2] _ _;rw[jJ,eY];calc⟨k,i,m,l,d,?_⟩;let e:aQ (a.take (j+1)) b=cO g (aQ (a.take j) b):=by
  ext aQ
  simp_all [zCl,List.foldl_append]
 calc⟨true,_,by rw[e]⟩;rintro n ⟨t,v,rfl⟩;rw[zBq];calc h t
def QH (F:av K "led" "led" FG f fd) (C:U4 K mg κ)  (d:Oo P w K mg base κ) (H:mg "len" = none) (G:mg "range" = none):aA P w K mg base (CX1 P w) 3 f fd ["corners"] (aD K (Cb κ)):=by
 refine av.okN F wg (by fin2) λ_ _ _ _ _ _ y=>⟨_,(ai (ay 1 wg.nd ae) (ai (dh PassesOwn.never rfl (jc (by rfl) G (aa (aP bU (by rfl) H Zp (aa (dv 0) af)) af)) (cu 2 wg.nd) (ao (aX (aH d6 (ah d y (aa (ak (dv 0) (dv 2)) (aa (ak (dv 0) (dv 1)) af))) ae) (ao (ay 1 wg.nd (dv 2))) aI))) (ao (ax (ag aE (PEF.ped (iz (dv 0) (eS (dv 1)) dQ)) (PEF.ped (iz (dv 0) dQ (eS (dv 1))))))))),?_⟩
 rintro L Q Ed ⟨c,rfl,h⟩;x_go;unfold vU at h;let⟨J,s,h⟩:=h;let g:∀p∈c,Bd 1000 p.1/\Bd 1000 p.2.1/\Bd 1000 p.2.2:=λp r=>⟨(s p r).b.mono 23,(s p r).x.mono 23,(s p r).y.mono 23⟩
 let l:∀{k:Nat},k<#[c]->atI (c.map Ug) (k:Int)=some (Ug (c.getD k (0,0,0)))/\c.getD k (0,0,0)∈c:=fun {k} z=>by
  let e:c[k]?=some (c.getD k (0,0,0)):=by rw[Yu,Wc z];rfl
  exact⟨bR (by rw[WA,e];rfl),Xf e⟩
 lk;calc PD.iA (List.range' 0 #[c]) (λ(k:Nat)=>D.int (k:Int)) (λj x=>∃v:Option Sl,x=[some (.val (.lst false (c.map Ug))),some (.val (.int ((ldI c j:Nat):Int))),v]) (λR q=>?_) ⟨none,rfl⟩ ?_ ?_;lk;rw[T4,BP];calc⟨⟨by omega,by omega⟩,q⟩;rintro j k I A ⟨v,rfl⟩;let⟨u,t⟩:=Zn.mp A;rw[zBe]at u;rw[List.getElem_range',zCU,Nat.one_mul]at t;subst t;let o:=(vF c j).1;let⟨E,n⟩:=l u;let⟨B,m⟩:=l (show ldI c j<#[c] by omega);let i:=Lv c j;unfold stI at i;lk;calc⟨_,E,_,B,?_⟩;rw[iT,iT];generalize c.getD j (0,0,0)=a at *;generalize c.getD (ldI c j) (0,0,0)=b at *;show si κ [T3 a.1 a.2.1 a.2.2,T3 b.1 b.2.1 b.2.2] _ _;rw[wG,rX];calc⟨(g a n).1,(g a n).2.1,(g a n).2.2,(g b m).1,(g b m).2.1,(g b m).2.2,?_⟩;rw[iC,rC];by_cases q:rkT a b<0;rw[TU q]at i;rw[TU (Ys (show rk a.1 a.2.1 a.2.2 b.1 b.2.1 b.2.2<0 from q)),i];calc⟨_,rfl⟩;rw[TM q]at i;rw[TM (by rw[decide_eq_true_eq];calc q),i];calc⟨_,rfl⟩;rintro I ⟨v,rfl⟩;rw[zBe];let o:=(vF c #[c]).1;lk;rw[OI _ (by rw[T4];calc o),OJ _ (by rw[T4];calc o),<- List.map_drop,<- List.map_take,<- Yx];calc⟨?_,h⟩;rw[T4,T4,zCC,zBR,VA];omega
def xx (F:av K "last_needed" "last_needed" jE f fd) (C:U4 K mg κ)  (b:yq P w K mg base κ) (c:mg "len" = none):aA P w K mg base (CX1 P w) 6 f fd ["corners", "gauges"] (aD K (iO κ)):=by
 refine av.okN F fi (by fin2) λ_ _ _ _ _ _ a=>⟨_,(ai (ay 2 fi.nd (bE ae)) (ai (kH PassesOwn.never (aH jS (aP bU (by rfl) c Zp (aa (dv 0) af)) ae) (ai (Pk 2 fi.nd ae Qk) (ao (ay 0 fi.nd (ah b a (aa (dv 0) (aa (ak (dv 1) (dv 2)) af))))))) (ao (ax (dv 2))))),?_⟩
 rintro p Q Ed ⟨g,b,rfl,h⟩;let⟨o,e,k,a,n,d,q,h⟩:=h;lk;calc⟨λm c=>∃(j:Nat) (t:Bool),j<=a+1/\m=a+1 - j/\c=[some (.val (.lst t ((aQ (b.take j) g).map Ug))),some (.val (.lst false (b.map Ug))),some (.val (.int ((j:Int) - 1)))],⟨_,0,false,33,rfl,rfl⟩,?_⟩;rintro m c ⟨j,t,i,rfl,rfl⟩;lk;rw[T4];by_cases c:j=a+1
 cbv
 let c:=d j 33;rw[TU (by have:=zCN.mpr c;lia)];let⟨l,h⟩:=e j 33;let c:b[j]?=some (b[j]' 33):=Wc _;let d:=k _ (zBZ (show j<#[b] by lia));calc⟨_,rfl,?_⟩;lk;let e:atI (b.map Ug) (j:Int)=some (Ug (b[j]' 33)):=bR (by rw[WA,c];rfl);rw[show((j:Int) - 1+1)=(j:Int)by lia];calc⟨_,e,?_⟩;show ic κ [.lst false ((aQ (b.take j) g).map Ug),T3 (b[j]' 33).1 (b[j]' 33).2.1 (b[j]' 33).2.2] _ _;rw[jJ,eY];calc⟨l,h,d.1,d.2.1,d.2.2,a+1 - (j+1),33,j+1,true,33,rfl,?_⟩;rw[tK c,show(((j+1:Nat):Int) - 1)=(j:Int)by lia]
def CK (F:av K "constant" "constant" j2 f fd) (C:U4 K mg κ)   (b:mg "sum" = none) (a:mg "zip" = none):aA P w K mg base (CX1 P w) 1 f fd ["gauges", "numbers", "shares"] (aD K (mh κ)):=by
 refine av.okN F CZ (by fin2) λ_ _ _ _ _ _ s=>⟨_,(ao (ax (aP (Av rfl) (by rfl) b boot_sum (aa (AQ (by rfl) (by calc aY (osc:=aj j2) (xs:=["number", "share"]) (ns:=["gauges"]) (by decide +kernel)) (aR.cons 0 aR.nil) (.cons (.cons .nil)) (Qe (by rfl) a (aa (dv 1) (aa (dv 2) af))) (λ_ _ _ _ _=>bK) (λ_ _ _ _ _=>(ag az (ak (ak (dv 2) (dv 0)) ae) (dv 1)))) af)))),?_⟩
 rintro t Q Ed ⟨c,ns,i,rfl,h⟩;x_go;unfold fG at h;let⟨d,rfl,p,r,a,o,m,h⟩:=h;let l:∀k∈d,c[k]?=some (c.getD k (0,0,0)):=λk g=>by rw[Yu,Wc (a k g)];rfl
 lk;calc PD.p5 (d.zip i) (λz=>[.int ((z.1:Nat):Int),.int z.2]) (λ_=>true) (λz=>.int ((c.getD z.1 (0,0,0)).1*z.2)) (λR q=>?_) (by rw[List.length_zip,VA];lia) (λ_=>rfl) (λz j K g=>?_) (λz j _ K g=>?_) ?_;lk;let e:=yo d i;rw[Ww];rw[show(List.map ((λn=>D.int n)∘λ(k:Nat)=>(k:Int)) d)=d.map (λ(k:Nat)=>D.int (k:Int))from rfl,e];calc q;lk;calc g;let e:=zDL (a:=z.1) (b:=z.2) j;let at1:atI (c.map Ug) ((z.1:Nat):Int)=some (Ug (c.getD z.1 (0,0,0))):=bR (by rw[WA,l z.1 e.1];rfl);lk;calc⟨_,at1,?_⟩;let a:=o _ (Xf (l z.1 e.1));rw[show Ug (c.getD z.1 (0,0,0))=D.tup [.int (c.getD z.1 (0,0,0)).1,.int (c.getD z.1 (0,0,0)).2.1,.int (c.getD z.1 (0,0,0)).2.2]from rfl];lk;calc⟨ZE a (m _ e.2),g⟩;rw[YQ.mpr (λ_ _=>rfl)];calc⟨true,(d.zip i).map λz=>(c.getD z.1 (0,0,0)).1*z.2,by rw[Ww];rfl,?_⟩;calc h
def Nf (F:av K "bars" "bars" vW f fd) (C:U4 K mg κ)  (c:Gg P w K mg base κ) (g:ED P w K mg base κ) (h:zf P w K mg base κ) (b:Dn P w K mg base κ) (e:mg "list" = none) (d:mg "zip" = none):aA P w K mg base (CX1 P w) 7 f fd ["corners", "gauges"] (aD K (xS κ)):=by
 refine av.okN F mW (by fin2) λ_ _ _ _ _ _ a=>⟨_,(ai (ay 2 mW.nd (ah h a (aa (dv 0) (aa (dv 1) af)))) (ao (dh PassesOwn.never rfl (aT (ag aE (ah b a (aa (dv 2) (aa ae af))) (ah b a (aa (dv 2) (aa ae af))))) (cu 3 mW.nd) (ai (ay 4 mW.nd (ag aE (dv 3) (eE (aa (dv 2) af)))) (ai (ay 5 mW.nd (ah c a (aa (bV (by rfl) (by calc aY (osc:=aj vW) (xs:=["number"]) (ns:=["gauges"]) (by decide +kernel)) (aR.cons 1 aR.nil) (aT (dv 4)) (λ_ _ _ _ _=>bK) (λ_ _ _ _ _=>(Pe (ak (dv 1) (dv 0)) (eS ae) dQ))) af))) (ao (aX (PWD.pt (AV (aH M8 (dv 5) qh) (xk (aH d6 (ah g a (aa (dv 1) (aa (dv 4) (aa (dv 5) af)))) ae)))) (ao (ax ((E7 rfl (by rfl) e (by rfl) d (aa (dv 4) (aa (dv 5) af)))).ped)) aI))))))),?_⟩
 rintro t Q Ed ⟨k,l,rfl,h⟩;x_go;unfold rV at h;let⟨e,d,p,a,g,c,i,r,b,h⟩:=h;lk;calc⟨e,d,p,a,g,c,i,?_⟩;let c:∀i,i<=2->#[WO a i]<=1000000:=λi d=>Xb (mP a i) (Xb (Nat.pow_le_pow_left (show a<=1000 by lia) i) (Xb (zCj 23 d) 23))
 calc PD.iA (WO a 1++WO a 2) Y1 (λj d=>∃n m i:Option Sl,iy l a ((WO a 1++WO a 2).drop j)=some r/\d=[some (.val (.lst false (k.map Ug))),some (.val (.lst false (l.map Ug))),some (.val (.int (a:Int))),n,m,i]) (λR q=>?_) ⟨none,none,none,b,rfl⟩ ?_ ?_;lk;let e:=Yx (f:=Y1) (l₁:=WO a 1) (l₂:=WO a 2);rw[e]at q;calc⟨a,1,rfl,rfl,33,23,a,2,rfl,rfl,33,23,?_,q⟩;have:=c 1 23;have:=c 2 23;rw[T4,T4,VA]
 lia
 rintro j o r b ⟨n,m,i,d,rfl⟩;let⟨e,c⟩:=Zn.mp b;rw[zBj e,c]at d;let⟨s,e⟩:=Lw (Xf b);let lt':∀k∈o++[a],k<#[l]:=λk c=>by
  obtain q|q:=VS.mp c;have:=e k q;lia;rw[Yv.mp q];exact g
 let j:∀k∈o++[a],l[k]?=some (l.getD k (0,0,0)):=λk c=>by rw[Yu,Wc (lt' k c)];rfl
 let b:(o.map λ(k:Nat)=>D.int (k:Int))++[D.int (a:Int)]=(o++[a]).map λ(k:Nat)=>D.int (k:Int):=by rw[Yx];rfl
 ext Y1;lk;let lo:#[o++[a]]<=3:=by rw[Xh,zCV];lia
 calc⟨sz1 _,by rw[T4,VA];show _+1<=_;lia,?_⟩;rw[b];calc PD.comp_map (o++[a]) (λ(k:Nat)=>D.int (k:Int)) (λ_=>true) (λk=>UD (vc (l.getD k (0,0,0)))) (λR q=>?_) (by rw[VA];lia) (λk c K b=>?_) (λk c _ K b=>?_) ?_;lk;calc q;lk;calc b;lk;let e:atI (l.map Ug) ((k:Nat):Int)=some (Ug (l.getD k (0,0,0))):=bR (by rw[WA,j k c];rfl);calc⟨_,e,_,rfl,by show¬(HT.Vy 3 0 (some 1)=0/\_);calc λz=>absurd z.1 23,b⟩;rw[YQ.mpr (λ_ _=>rfl)];let q:(o++[a]).map (λk=>UD (vc (l.getD k (0,0,0))))=(pkV l (o++[a])).map UD:=by ext pkV;rw[Ww];rfl
 let g:#[pkV l (o++[a])]=#[o++[a]]:=by ext pkV;rw[T4]
 let e:∀w∈pkV l (o++[a]),WB 400 w:=λw b=>by let⟨k,c,rfl⟩:=UQ.mp b;let b:=p _ (Xf (j k c));exact⟨b.2.1.mono 23,b.2.2.mono 23⟩
 rw[q,q9,wJ,pH,jT];calc⟨by rw[g];simp,33,e,?_⟩;unfold iy at d;cases hb2:lT (pkV l (o++[a]))with
 |none =>
  rw[hb2]at d;rw[TM (show¬iW (oL none)=false by decide)];calc⟨_,_,_,d,rfl⟩
 |some b =>
  rw[hb2]at d;let B:=Aq 33 hb2;let j:=Oy e 33 hb2;let e:#[o++[a]]=#[b]:=by rw[B.len,g]
  let g:(o++[a]).map (λ(k:Nat)=>D.int (k:Int))=((o++[a]).map λ(k:Nat)=>(k:Int)).map D.int:=by rw[Ww];rfl
  rw[TU (show iW (oL (some b))=false from rfl)];let c:aJ (oL (some b))=.lst false (b.map D.int):=by show aJ (.lst true (b.map D.int))=_;rw[q9,mC]
  rw[c];let c:aV ((o++[a]).map (λ(k:Nat)=>D.int (k:Int)))=((o++[a]).map λ(k:Nat)=>(k:Int)).map D.int:=by rw[g,mC]
  rw[c,mY,fG];calc⟨o++[a],rfl,e,lo,lt',λg c=>(p g c).1,j,?_⟩;rw[iC,rC];by_cases c:w9 l (o++[a]) b<0;dsimp only at d;rw[TU c]at d;cases d;rw[TU (Ys c)];calc⟨_,_,_,_,_,_,rfl,rfl,rfl,by rw[T4,T4];calc e,by rw[T4];lia,?_⟩;rw[yo];calc h;dsimp only at d;rw[TM c]at d;rw[TM (by rw[decide_eq_true_eq];calc c)];exact⟨_,_,_,d,rfl⟩
 rintro r ⟨n,m,i,d,rfl⟩;rw[List.drop_length]at d;cases d
def zq (F:av K "axis_lines" "axis_lines" eN f fd) (C:U4 K mg κ)    : aA P w K mg base (CX1 P w) 1 f fd ["dots"] (aD K (jI κ)):=by
 refine av.okN F zy (by fin2) λ_ _ _ _ _ _ d=>⟨_,(ao (ax (ag aE (bV (by rfl) (by calc aY (osc:=aj eN) (xs:=["dot"]) (ns:=[]) (by decide +kernel)) aR.nil (aT (dv 0)) (λ_ _ _ _ _=>bK) (λ_ _ _ _ _=>(bf (aa (bE (ak (dv 0) ae)) (aa ae (aa ae af)))))) (bV (by rfl) (by calc aY (osc:=aj eN) (xs:=["dot"]) (ns:=[]) (by decide +kernel)) aR.nil (aT (dv 0)) (λ_ _ _ _ _=>bK) (λ_ _ _ _ _=>(bf (aa (bE (ak (dv 0) ae)) (aa ae (aa ae af))))))))),?_⟩
 rintro g Q Ed ⟨c,rfl,h⟩;x_go;let⟨e,h⟩:=h;lk;calc PD.comp_map c Ui (λ_=>true) (λp=>Ug (-p.1,1,0)) (λR q=>?_) (by rw[VA];lia) (λx b K a=>?_) (λx b _ K a=>?_) ?_;lk;calc q;lk
 lia
 ext Ui;lk;calc⟨Z0 _ _ _,a⟩;calc PD.comp_map c Ui (λ_=>true) (λp=>Ug (-p.2.1,0,1)) (λR q=>?_) (by rw[VA];lia) (λx b K a=>?_) (λx b _ K a=>?_) ?_;lk;calc q;lk
 lia
 ext Ui;lk;calc⟨Z0 _ _ _,a⟩;rw[YQ.mpr (λ_ _=>rfl),uS];unfold axL at h;rw[Yx,Ww,Ww]at h;calc⟨by rw[T4,T4,VA];lia,h⟩
def CS (F:av K "opposite" "opposite" oA f fd) (C:U4 K mg κ)    : aA P w K mg base (CX1 P w) 1 f fd ["gauge"] (aD K (ja κ)):=by
 refine av.okN F C3 (by fin2) λ_ _ _ _ _ _ a=>⟨_,(ao (ax (bf (aa (bE (ak (dv 0) ae)) (aa (bE (ak (dv 0) ae)) (aa (bE (ak (dv 0) ae)) af)))))),?_⟩
 rintro e Q Ed ⟨d,c,b,rfl,h⟩;x_go;lk;calc⟨Z0 _ _ _,h⟩
def xw (F:av K "half_planes" "half_planes" jD f fd) (C:U4 K mg κ)  (e:zX P w K mg base κ) (c:EJ P w K mg base κ) (d:Ab P w K mg base κ) (b:EL P w K mg base κ)  : aA P w K mg base (CX1 P w) 6 f fd ["dots"] (aD K (iN κ)):=by
 refine av.okN F iK (by fin2) λ_ _ _ _ _ _ a=>⟨_,(ai (qi 1 iK.nd af) (ai (dh PassesOwn.never rfl (aT (ah b a (aa (dv 0) (aa (ag aE (ah d a (aa (dv 0) af)) (ah e a (aa (dv 0) af))) af)))) (cu 2 iK.nd) (ai (gn 1 (bf (aa (ak (dv 2) ae) (aa (ak (dv 2) ae) (aa (ag aE (ak (dv 2) ae) (ak (dv 2) ae)) af))))) (ao (gn 1 (bf (aa (ah c a (aa (ak (dv 2) ae) af)) (aa (ak (dv 2) ae) (aa (ag aE (ak (dv 2) ae) (ak (dv 2) ae)) af)))))))) (gM 1 (ao (ax (dv 1)))))),?_⟩
 rintro o Q Ed ⟨ps,rfl,h⟩;x_go;unfold eZ at h;let⟨a,d,h⟩:=h;let e:=Ly a;let i:∀g∈Xn ps,Bd 1000 g.1/\Bd 1000 g.2.1/\Bd 1000 g.2.2:=λg j=>by
  obtain z|z:=VS.mp j;let⟨k,l,rfl⟩:=UQ.mp z;let⟨a,b,c⟩:=mR.mp l;let F:=zS (d _ (mK (show k.1<#[ps] by lia))) (d _ (mK b)) c;calc⟨F.b0,F.b1,F.b2⟩;let b:Bd 1000 1:=Bd.mono (m:=2) (by ext Bd;decide) 23;let c:Bd 1000 0:=Bd.mono (m:=2) (by ext Bd;decide) 23;obtain z|z:=VS.mp z<;>let⟨p,a,rfl⟩:=UQ.mp z;calc⟨((d p a).x.neg).mono 23,b,c⟩;exact⟨((d p a).y.neg).mono 23,c,b⟩
 lk;calc⟨Yt _,?_⟩;refine Mz (P:=λzs=>bD zs (Xn ps)) (BQ ps) (λR k=>?_) λzs a=>?_
 lk;calc⟨33,d,33,by rw[T4,T4,VA];unfold Xn at e;rw[Xh]at e;lia,?_⟩;rw[<- Yx,wK,ng,fH];calc⟨33,d,Xb e 23,i,λb c=>k b c⟩;let n:=gB a;calc tQ zs (BQ ps) (λdone b=>∃v:Option Sl,b=[some (.val (.lst false (ps.map Ui))),some (.own ((bT ps done).map cA)),v]) (λR q=>q) ⟨none,rfl⟩ ?_ ?_;rintro done g d j Wx ⟨v,rfl⟩ K b;let ld:=(rS (ps:=ps) (zs:=done) 0).1;let e:bT ps (done++[g])=bT ps done++[(g,wl ps g 1,wl ps g 1+wl ps g 0)]++[(Yi g,wl ps g (-1),wl ps g (-1)+wl ps g 0)]:=by ext bT;rw[List.flatMap_append,List.flatMap_singleton,zBM];rfl
 let c:D.tup [T3 (-g.1) (-g.2.1) (-g.2.2),.int (wl ps g (-1)),.int (wl ps g (-1)+wl ps g 0)]=cA (Yi g,wl ps g (-1),wl ps g (-1)+wl ps g 0):=rfl;ext BQ;lk;calc⟨by rw[VA];show 3<=_;decide,by rw[T4,VA];lia,?_⟩;show ja κ [T3 g.1 g.2.1 g.2.2] _ _;rw[nc,i5];calc⟨by rw[VA];show 3<=_;decide,by rw[Xh,T4,VA];show _+1<_;lia,b _ ⟨some (.val (.tup [Ug g,.int (wl ps g (-1)),.int (wl ps g 0),.int (wl ps g 1)])),?_⟩⟩;rw[e,Yx,Yx,c];rfl;rintro d ⟨v,rfl⟩;lk;calc h zs a
def Nj (F:av K "rims" "rims" vY f fd) (C:U4 K mg κ)    : aA P w K mg base (CX1 P w) 1 f fd ["planes", "weight"] (aD K (ya κ)):=by
 refine av.okN F NR (by fin2) λ_ _ _ _ _ _ c=>⟨_,(ao (ax (bV (by rfl) (by calc aY (osc:=aj vY) (xs:=["row"]) (ns:=["weight"]) (by decide +kernel)) (aR.cons 1 aR.nil) (aT (dv 0)) (λ_ _ _ _ _=>(qZ (JI d6 vM (ak (dv 0) ae) (dv 1) (ak (dv 0) ae)))) (λ_ _ _ _ _=>(ak (dv 0) ae))))),?_⟩
 rintro e Q Ed ⟨xs,w,rfl,h⟩;x_go;let⟨d,h⟩:=h;calc PD.comp_map xs cA (λx=>decide (x.2.1<w/\w<=x.2.2)) (λx=>Ug x.1) (λR q=>?_) (by rw[VA];lia) (λx b K a=>?_) (λx b _ K a=>?_) ?_;lk;calc q;ext cA;lk
 lia
 ext cA;lk;calc a;unfold cP at h;rw[Ww]at h;calc h
def Fp (F:av K "hull_of" "hull_of" qG f fd) (C:U4 K mg κ)  (a:Ol P w K mg base κ) (c:EM P w K mg base κ)  : aA P w K mg base (CX1 P w) 4 f fd ["dots"] (aD K (oU κ)):=by
 refine av.okN F FJ (by fin2) λ_ _ _ _ _ _ b=>⟨_,(ao (ax (ah a b (aa (ah c b (aa (dv 0) af)) af)))),?_⟩
 rintro j Q Ed ⟨g,rfl,h⟩;x_go;let⟨i,b,h⟩:=h;lk;calc⟨33,58,λp e=>?_,λc d _=>?_⟩;let⟨q,a,rfl⟩:=UQ.mp e;calc⟨(b q a).x,(b q a).y⟩;have:=h c d;rw[Ww]at this;calc this
def uc (F:av K "region_within" "region_within" hJ f fd) (C:U4 K mg κ)  (d:Jg P w K mg base κ) (e:yu P w K mg base κ) (a:Rv P w K mg base κ) (c:Gk P w K mg base κ) (g:ni P w K mg base "total" 2 ["dots", "colour"] "colour" (gc κ))  : aA P w K mg base (CX1 P w) 7 f fd ["dots", "planes", "least"] (aD K (fZ κ)):=by
 refine av.okN F kU (by fin2) λ_ _ _ _ _ _ b=>⟨_,(ai (ay 3 kU.nd (ag aE (ag aO (gk g (b.mono 23) (aa (dv 0) af)) (dv 2)) ae)) (ao (ax (ah a b (aa (ah d b (aa (ah e b (aa (dv 0) af)) (aa (ah c b (aa (dv 1) (aa (dv 3) af))) af))) af))))),?_⟩
 rintro r Q Ed ⟨ps,m,l,rfl,h⟩;x_go;unfold dN at h;let⟨a,⟨zs,d,rfl⟩,h⟩:=h;have:=a.le;lk;calc⟨λ_=>true,.inl ⟨rfl,rfl⟩,33,a.l20,a.gd,λk i=>?_⟩;let⟨c,b⟩:=gC a d (tot (λ_=>true) ps - l+1);let R:=eX a c (Xb b 23) i;let n:=gB d;let q:=xv a.l20;let o:=(rS (ps:=ps) (zs:=zs) 0).1;let a:=R.cor #[cP (bT ps zs) (tot (λ_=>true) ps - l+1)];rw[zBq]at a;calc⟨33,33,λj _=>⟨(R.cor j).2.1,λp b=>⟨((R.cor j).2.2 p b).1.pos,((R.cor j).2.2 p b).2⟩⟩,λg e=>⟨(c g e).1.c.mono 23,(c g e).1.a.mono 23,(c g e).1.b.mono 23⟩,λ_=>⟨a.2.1,λp b=>(a.2.2 p b).2,h zs k d i⟩⟩
def HY (F:av K "region" "region" uo f fd) (C:U4 K mg κ)  (d:pD P w K mg base κ) (c:gJ P w K mg base κ) (b:ni P w K mg base "total" 2 ["dots", "colour"] "colour" (gc κ))  : aA P w K mg base (CX1 P w) 8 f fd ["dots", "least"] (aD K (qW κ)):=by
 refine av.okN F IB (by fin2) λ_ _ _ _ _ _ a=>⟨_,(ai (aX (PWD.pt (zN (aH d6 (dv 1) ae) (vf (aH jS (dv 1) (gk b (a.mono 23) (aa (dv 0) af)))))) (ao tO) aI) (ao (ax (ah c a (aa (dv 0) (aa (ah d a (aa (dv 0) af)) (aa (dv 1) af))))))),?_⟩
 rintro g Q Ed ⟨b,l,rfl,h⟩;x_go;let⟨a,e,c,h⟩:=h;have:=a.le;lk;rw[TM 33];calc⟨λ_=>true,.inl ⟨rfl,rfl⟩,33,?_⟩;rw[TM (show¬tot (λ_=>true) b<l by have:l<=tot (λ_=>true) b:=c;lia)];calc⟨a.le,a.gd,λb c=>⟨a,⟨b,c,rfl⟩,h⟩⟩
def sG (F:av K "greatest_depth" "greatest_depth" fV f fd) (C:U4 K mg κ)  (c:gJ P w K mg base κ) (b:ni P w K mg base "total" 2 ["dots", "colour"] "colour" (gc κ)) (d:mg "len" = none):aA P w K mg base (CX1 P w) 8 f fd ["dots", "planes"] (aD K (fE κ)):=by
 refine av.okN F b9 (by fin2) λ_ _ _ _ _ _ a=>⟨_,(ai (ay 2 b9.nd ae) (ai (ay 3 b9.nd (gk b (a.mono 23) (aa (dv 0) af))) (ai (kH PassesOwn.never (aH d6 (dv 2) (dv 3)) (ai (ay 4 b9.nd (ag bB (ag aE (ag aE (dv 2) (dv 3)) ae) ae)) (ao (aX (aH jS (aP bU (by rfl) d Zp (aa (ah c a (aa (dv 0) (aa (dv 1) (aa (dv 4) af)))) af)) ae) (ao (ay 2 b9.nd (dv 4))) (ao (ay 3 b9.nd (ag aO (dv 4) ae))))))) (ao (ax (dv 2)))))),?_⟩
 rintro A Q Ed ⟨d,u,rfl,h⟩;x_go;let⟨g,⟨i,j,rfl⟩,h⟩:=h;let x:=Dq g;let s:=g.le;lk;calc⟨λ_=>true,.inl ⟨rfl,rfl⟩,33,?_⟩;calc⟨λm c=>∃(a b:Int) (v:Option Sl),m=(b - a).toNat/\1<=a/\a<=b/\b<=aF d/\(∀e,bC e (d.map VZ)->bM d i e (aF d - a+1) ≠ [])/\(∀e,bC e (d.map VZ)->∀l,b<l->l<=aF d->bM d i e (aF d - l+1)=[])/\c=[some (.val (.lst false (d.map Ui))),some (.val (.lst false ((bT d i).map cA))),some (.val (.int a)),some (.val (.int b)),v],⟨_,1,aF d,none,rfl,33,33,33,λe k=>Qw g j k 33 33,λ_ _ l _ _=>33,rfl⟩,?_⟩;rintro m c ⟨a,b,v,rfl,q,B,p,n,o,rfl⟩;lk;by_cases c:a<b;rw[TU c];let m:(a+b+1).fdiv 2=(a+b+1) / 2:=zDG _ 23;calc⟨CD.lit,g,⟨i,j,rfl⟩,λr e t k=>?_⟩;rw[yZ t j,T4,mO,m];generalize et:(a+b+1) / 2=t;by_cases m:bM d i e (aF d - t+1)=[];rw[m,TM 23];calc⟨(t - 1 - a).toNat,33,a,t - 1,_,rfl,q,33,33,n,λd e l y i=>?_,rfl⟩;rw[y3 e k];exact zBB λz=>BN g j k 33 (show t<=l by lia) i z m
 rw[TU (by have:=zCN.mpr m;lia)];calc⟨(b - t).toNat,33,t,b,_,rfl,33,33,p,λd e=>?_,o,rfl⟩;rw[y3 e k];calc m;rw[TM c];let e:a=b:=33
 subst e;calc h a (RX g j q p n o)
def vR (F:av K "shallow_bars" "shallow_bars" fh f fd) (C:U4 K mg κ)  (b:Oj P w K mg base κ) (d:Jf P w K mg base κ) (e:yu P w K mg base κ) (c:Gk P w K mg base κ) (g:ni P w K mg base "total" 2 ["dots", "colour"] "colour" (gc κ))  : aA P w K mg base (CX1 P w) 8 f fd ["dots", "planes", "found"] (aD K (ik κ)):=by
 refine av.okN F eB (by fin2) λ_ _ _ _ _ _ a=>⟨_,(ai (ay 3 eB.nd (ag aO (gk g (a.mono 23) (aa (dv 0) af)) (dv 2))) (ai (aX (aH bI (dv 3) ae) (ao (ax (eE (aa (bf (aa (bf (aa (bE ae) (aa ae (aa ae af)))) (aa ae af))) (aa (bf (aa (bf (aa ae (aa (bE ae) (aa ae af)))) (aa ae af))) af))))) aI) (ai (ay 4 eB.nd (ah e a (aa (dv 0) af))) (ai (ay 5 eB.nd (ag aE (ah d a (aa (dv 4) af)) (ah c a (aa (dv 1) (aa (dv 3) af))))) (ao (ax (AQ (by rfl) (by calc aY (osc:=aj fh) (xs:=["number", "share"]) (ns:=["gauges"]) (by decide +kernel)) (aR.cons 5 aR.nil) (.cons (.cons .nil)) (aT (ah b a (aa (dv 4) (aa (dv 5) af)))) (λ_ _ _ _ _=>bK) (λ_ _ _ _ _=>(bf (aa (ak (dv 2) (dv 0)) (aa (dv 1) af))))))))))),?_⟩
 rintro J Q Ed ⟨ps,xs,n,rfl,h⟩;x_go;unfold eA at h;let⟨b,⟨zs,i,rfl⟩,G,h⟩:=h;let x:=b.le;lk;calc⟨λ_=>true,.inl ⟨rfl,rfl⟩,33,?_⟩;by_cases c:tot (λ_=>true) ps - n=0;rw[TU c];calc⟨Z0 _ _ _,sz2 _ _,Z0 _ _ _,sz2 _ _,sz2 _ _,h _ (.inl ⟨show tot (λ_=>true) ps=n by lia,rfl⟩)⟩;rw[TM c];rw[show tot (λ_=>true) ps=aF ps from rfl];calc⟨b.l20,b.gd,λd j=>?_⟩;let g:n≠aF ps:=λe=>c (show aF ps - n=0 by lia)
 let k:bM ps zs d (aF ps - n)=[]:=zBB λz=>by
  have:=(G.2.2 zs d i j (n+1) (by have:=G.1;lia) (by have:=G.2.1;lia)).mp (by rw[show aF ps - (n+1)+1=aF ps - n by lia];calc z)
  lia
 let K:=Lq b i j (aF ps - n);let⟨c,l,s,t,r,a⟩:=EV K.st (P9 b i j k);let q:=h _ (.inr ⟨Ne.symm g,zs,d,c,r,i,j,⟨l,s,t,a⟩,rfl⟩);let⟨⟨o,om,o⟩,I,_⟩:=yw (pk:=r.1) (sh:=r.2) a;let⟨H,u⟩:=Lw om;let g:=lE j;let h:ps.map VZ ≠ []:=λe=>b.ne (zCs.mp e)
 let e:=g.len;rw[T4]at e;let e:List.map Ug (List.map sT (aM d))=(aM d).map VU:=by rw[Ww];rfl
 rw[e,qQ,lJ];calc⟨zCN.mpr (kj g h),33,λp h=>?_,?_⟩;let⟨z,j,rfl⟩:=UQ.mp (g.mem p h);calc⟨(b.gd z j).x,(b.gd z j).y⟩;let y:=gB i;let B:=xv b.l20;let A:=(rS (ps:=ps) (zs:=zs) 0).1;let g:=K.le;let b:=g;rw[Xh]at b;calc⟨33,?_⟩;rw[uS,T4,T4];calc⟨by rw[VA];lia,?_⟩;rw[<- Yx];let b:=K.cor;let m:=K.gb;clear K;let g:aU (aM d)++cP (bT ps zs) (aF ps - n)=gsA ps zs d (aF ps - n):=rfl;rw[g,<- e];generalize gsA ps zs d (aF ps - n)=e at *;let E:#[r.1.zip r.2]<=3:=by
  rw[List.length_zip,o,Xh,zCV]
  lia
 let n:∀k∈r.1,e[k]?=some (e.getD k (0,0,0)):=λk d=>by
  have:k<#[e]:=by
   rw[o]at d;obtain q|q:=VS.mp d;have:=u k q;lia;rw[Yv.mp q];exact l
  rw[Yu,Wc this];rfl
 calc PD.p5 (r.1.zip r.2) (λz=>[.int ((z.1:Nat):Int),.int z.2]) (λ_=>true) (λz=>brD (e.getD z.1 (0,0,0),z.2)) (λR q=>?_) (by rw[VA];lia) (λ_=>rfl) (λz i K d=>?_) (λz i _ K d=>?_) ?_;lk;calc⟨33,λj _=>⟨(b j).1,λp h=>⟨((b j).2 p h).1.pos,((b j).2 p h).2⟩⟩,λg b=>⟨(m g b).1.c.mono 23,(m g b).1.a.mono 23,(m g b).1.b.mono 23⟩,c,l,s,t,r,a,q⟩;lk;calc d;let c:=zDL (a:=z.1) (b:=z.2) i;let at1:atI (e.map Ug) ((z.1:Nat):Int)=some (Ug (e.getD z.1 (0,0,0))):=bR (by rw[WA,n z.1 c.1];rfl);lk;calc⟨_,at1,sz2 _ _,d⟩;rw[YQ.mpr (λ_ _=>rfl)];unfold rwA at q;rw[Ww]at q;calc q
def Fo (F:av K "deepest" "deepest" qF f fd) (C:U4 K mg κ)  (e:tG P w K mg base κ) (h:pD P w K mg base κ) (g:gJ P w K mg base κ) (d:wW P w K mg base κ) (c:mg "len" = none):aA P w K mg base (CX1 P w) 9 f fd ["dots"] (aD K (oQ κ)):=by
 refine av.okX F oG (by fin2) λ_ _ _ _ _ _ Ed a b o q=>⟨_,(ai (aX (aH bI (aP bU (by rfl) c Zp (aa (dv 0) af)) ae) (ao (nG b (by rfl) C.WI C.Wo rfl (aa u9 af))) aI) (ai (aX (aH jS (aP bU (by rfl) c Zp (aa (dv 0) af)) (tN C.Up)) (ao (nG b (by rfl) C.Wn C.V7 rfl (aa u9 af))) aI) (ai (ay 1 oG.nd (ah h a (aa (dv 0) af))) (ai (ay 2 oG.nd (ah e a (aa (dv 0) (aa (dv 1) af)))) (ao (ax (bf (aa (dv 2) (aa (ak (ah g a (aa (dv 0) (aa (dv 1) (aa (dv 2) af)))) ae) (aa (ah d a (aa (dv 0) (aa (dv 1) (aa (dv 2) af)))) af)))))))))),?_⟩
 rintro s Q ⟨b,rfl,h⟩;x_go;unfold jV at h;rcases h with⟨rfl,h⟩| ⟨a,h⟩| ⟨c,a,h⟩;lk;calc⟨sz1 _,h⟩;lk;rw[T4,TM 33,TU 33];calc⟨sz1 _,h⟩;lk;let p:=zCN.mpr c.ne;rw[T4,TM 33,TM 33];calc⟨c.le,c.gd,λg i=>⟨c,⟨g,i,rfl⟩,λn G=>⟨c,⟨g,i,rfl⟩,λa d l k=>?_⟩⟩⟩;let m:=(G.2.2 a d l k n G.1 G.2.1).mpr (YT _);obtain⟨y,r,e⟩:∃y r,fR (bM b a d (aF b - n+1))=y::r:=by
  let j:=mO (bM b a d (aF b - n+1));cases hM:fR (bM b a d (aF b - n+1))with
  |nil=>rw[hM]at j;calc absurd (zAk j.symm) m
  |cons y r=>exact⟨y,r,rfl⟩
 rw[e];calc⟨Ug y,at0 _ _,c,⟨g,i,rfl⟩,G,λL b=>⟨Z0 _ _ _,h n y L a d r l k G e b⟩⟩
def vQ (F:av K "plane_weight" "plane_weight" iI f fd) (C:U4 K mg κ)  (b:ni P w K mg base "weighed" 3 ["dots", "gauge", "colour"] "colour" (fq κ))  : aA P w K mg base (CX1 P w) 4 f fd ["dots", "gauge"] (aD K (ig κ)):=by
 refine av.okN F lN (by fin2) λ_ _ _ _ _ _ a=>⟨_,(ai (ay 2 lN.nd (gk b (a.mono 23) (aa (dv 0) (aa (dv 1) af)))) (ao (ax (ag aE (ak (dv 2) ae) (ak (dv 2) ae))))),?_⟩
 rintro l Q Ed ⟨g,k,j,i,rfl,h⟩;x_go;unfold d9 at h;let⟨a,e,d,c,b,h⟩:=h;rw[<- Sw]at h;lk;calc⟨λ_=>true,.inl ⟨rfl,rfl⟩,a,e,d,c,b,h⟩
def Fw (F:av K "ways_to" "ways_to" gE f fd) (C:U4 K mg κ)  (b:Dl P w K mg base κ) (c:Gf P w K mg base κ) (e:gH P w K mg base κ) (d:gh P w K mg base κ)  : aA P w K mg base (CX1 P w) 2 f fd ["dots", "place"] (aD K (o5 κ)):=by
 refine av.okN F oJ (by fin2) λ_ _ _ _ _ _ a=>⟨_,(ai (cR 2 oJ.nd (by rfl) (by calc aY (osc:=aj gE) (xs:=["dot"]) (ns:=["place"]) (by decide +kernel)) (aR.cons 1 aR.nil) (aT (dv 0)) (λ_ _ _ _ _=>bK) (λ_ _ _ _ _=>(ah b a (aa (dv 1) (aa (ah e a (aa (ah d a (aa (dv 0) af)) af)) af))))) (ai (cR 2 oJ.nd (by rfl) (by calc aY (osc:=aj gE) (xs:=["way"]) (ns:=[]) (by decide +kernel)) aR.nil (aT (dv 2)) (λ_ _ _ _ _=>(qZ (aH (vN (by calc a.units)) (dv 0) (bf (aa ae (aa ae af)))))) (λ_ _ _ _ _=>(dv 0))) (ao (ax (ag aE (dv 2) (bV (by rfl) (by calc aY (osc:=aj gE) (xs:=["way"]) (ns:=[]) (by decide +kernel)) aR.nil (aT (dv 2)) (λ_ _ _ _ _=>bK) (λ_ _ _ _ _=>(ah c a (aa (dv 0) af))))))))),?_⟩
 rintro n Q Ed ⟨a,d,c,b,rfl,h⟩;x_go;unfold jZ at h;let⟨l,j,e,h⟩:=h;lk;calc PD.comp_map a Ui (λ_=>true) (λp=>UD (Wz (d,c,b) p)) (λR q=>?_) (by rw[VA];lia) (λp i K g=>g) (λp i _ K g=>?_) ?_;lk;calc q;let G:=j p i;lk;calc⟨e.a.mono 23,e.b.mono 23,e.c.mono 23,Bd.mono (m:=2) (by ext Bd;decide) 23,G.x.mono 23,G.y.mono 23,?_⟩;rw[zBo,zBo];calc g;rw[YQ.mpr (λ_ _=>rfl)];let e:(a.map λp=>UD (Wz (d,c,b) p))=(a.map (Wz (d,c,b))).map UD:=by rw[Ww];rfl
 rw[e];let k:#[upW (d,c,b) a]<=30:=by
  have:=zC6 (λw:Wy=>decide (w≠(0,0))) (a.map (Wz (d,c,b)));rw[T4]at this;ext upW
  lia
 lk;calc PD.comp_map (a.map (Wz (d,c,b))) UD (λw=>decide (w≠(0,0))) UD (λR q=>?_) (by rw[VA,T4];lia) (λw i K g=>?_) (λw i _ K g=>?_) ?_;lk;calc q;lk;calc⟨sz2 _ _,(QF w).ok,(Yf.tup (.cons (.int 0 _) (.cons (.int 0 _) (.nil _)))).ok,?_⟩;rw[N4];let e:(!decide (w=(0,0)))=decide (w≠(0,0)):=52
 rw[e];calc g;lk;calc g;show lD _ _ _ _ [some (Sl.val (D.lst false (List.map Ui a))),some (Sl.val (T3 d c b)),some (Sl.val (D.lst true ((upW (d,c,b) a).map UD)))] _;calc PD.comp_map (upW (d,c,b) a) UD (λ_=>true) (λw=>UD (V4 w)) (λR q=>?_) (by rw[VA];lia) (λw i K g=>g) (λw i _ K g=>?_) ?_;lk;calc q;lk;calc g;rw[YQ.mpr (λ_ _=>rfl)];show rP (D.lst true ((upW (d,c,b) a).map UD)) _ Q;rw[uS];calc⟨by rw[T4,T4,VA];lia,?_⟩;let e:(upW (d,c,b) a).map UD++(upW (d,c,b) a).map (λw=>UD (V4 w))=(VI (d,c,b) a).map UD:=by ext VI;rw[Yx,Ww];rfl
 rw[e];calc h
def CL (F:av K "free_way" "free_way" og f fd) (C:U4 K mg κ)  (c:pT P w K mg base κ) (b:Af P w K mg base κ)  : aA P w K mg base (CX1 P w) 2 f fd ["way", "ways"] (aD K (mi κ)):=by
 refine av.okN F i8 (by fin2) λ_ _ _ _ _ _ a=>⟨_,(ai (ay 2 i8.nd (ah c a (aa (dv 0) af))) (ai (dh PassesOwn.never rfl (aT (dv 1)) (cu 3 i8.nd) (ao (aX (PWD.pt (AV (aH jS (ah b a (aa (dv 0) (aa (dv 3) af))) ae) (xk (aH jS (ah b a (aa (dv 3) (aa (dv 2) af))) ae)))) (ao (ay 2 i8.nd (dv 3))) aI))) (ao (ax (bf (aa (ag aE (ak (dv 0) ae) (ak (dv 2) ae)) (aa (ag aE (ak (dv 0) ae) (ak (dv 2) ae)) af))))))),?_⟩
 rintro l Q Ed ⟨w,b,rfl,h⟩;x_go;unfold iX at h;let⟨a,g,k,h⟩:=h;lk;calc PD.mI b UD (λdone d=>∃c:Option Sl,d=[some (.val (UD w)),some (.val (.lst false (b.map UD))),some (.val (UD (Z7 w done))),c]/\∀o∈done,XU o) (λR q=>?_) ⟨none,rfl,52⟩ ?_ ?_;lk;calc q;rintro done o j d Wx ⟨c,rfl,b⟩;let i:XU (Z7 w done):=XU.nr a a.lf b;let e:=g o d;let d:∀q∈done++[o],XU q:=λq g=>by
  obtain z|z:=VS.mp g;calc b q z;rw[Yv]at z;subst z;exact e
 lk;calc⟨a.w4,e.w4,?_⟩;by_cases b:0<tn w o;rw[TU b];calc⟨e.w4,i.w4,?_⟩;by_cases a:0<tn o (Z7 w done);rw[TU a];calc⟨_,by rw[t8,dA,TU ⟨b,a⟩],d⟩;rw[TM a];calc⟨_,by rw[t8,dA,TM (λz=>a z.2)],d⟩;rw[TM b];calc⟨_,by rw[t8,dA,TM (λz=>b z.1)],d⟩;rintro j ⟨c,rfl,-⟩;ext UD;lk;calc⟨sz2 _ _,h⟩
def CQ (F:av K "lightest" "lightest" cY f fd) (B:PD.BMain mg base) (a:fd.code=.ref c0) (d:PySem.W.codeHdIn K c0 T=true) (c:PD.tabOf K=some T) (C:U4 K mg κ)  (b:zY P w K mg base κ) (h:EE P w K mg base κ) (i:pT P w K mg base κ) (j:mE P w K mg base κ) (e:Gr P w K mg base κ) (k:mg "len" = none) (g:mg "min" = none):aA P w K mg base (CX1 P w) 7 f fd ["dots", "place"] (aD K (i9 κ)):=by
 refine av.okL F a me (by fin2) λA n s H E a=>⟨_,(ai (ay 2 me.nd (ah e a (aa (dv 0) (aa (dv 1) af)))) (ai (aX (aH bI (aP bU (by rfl) k Zp (aa (dv 2) af)) ae) (ao (ax (ah b a (aa (dv 1) (aa (bf (aa ae (aa ae af))) af))))) aI) (ai (cR 3 me.nd (by rfl) (by calc aY (osc:=aj cY) (xs:=["way"]) (ns:=["ways", "place"]) (by decide +kernel)) (aR.cons 2 (aR.cons 1 aR.nil)) (aT (dv 2)) (λ_ _ _ _ _=>bK) (λ_ _ _ _ _=>(ah b a (aa (dv 2) (aa (ah i a (aa (ah h a (aa (dv 0) (aa (dv 1) af))) af)) af))))) (ao (ax (G4 (by rfl) (by calc NP a) (by calc aY (osc:=aj cY) (xs:=["gauge"]) (ns:=["dots"]) (by decide +kernel)) (aR.cons 0 aR.nil) (by rfl) d c B (by rfl) g (dv 3) (λ_ _ _ _ _=>(DJ j (bH.deeper (bH.in1 (a.mono 23)) _) (aa (dv 1) (aa (dv 0) af)))))))))),?_⟩
 rintro t Q Ed ⟨d,a,c,b,rfl,h⟩;x_go;unfold i4 at h;let⟨i,p,j,h⟩:=h;let r:=Oe (a,c,b) d;let g:∀o∈VI (a,c,b) d,XU o:=λo e=>XU.wa j p e
 lk;calc⟨i,p,j,?_⟩;rw[T4];by_cases z:VI (a,c,b) d=[];rw[TU (by rw[z];rfl)];calc⟨sz2 _ _,?_⟩;show cM κ [T3 a c b,UD (1,0)] _ _;rw[kZ,jg];let e:Bd 1 (1:Int):=by ext Bd;decide
 let i:Bd 1 (0:Int):=by ext Bd;decide
 calc⟨j.a.mono 23,j.b.mono 23,j.c.mono 23,⟨e.mono 23,i.mono 23⟩,h (-(1*c+0*b),1*a,0*a) (.inl ⟨z,rfl⟩) ⟨?_,?_,?_⟩⟩;calc((Bd.add (e.mul j.b) (i.mul j.c)).neg).mono 23;calc(e.mul j.a).mono 23;calc(i.mul j.a).mono 23;rw[TM (λe=>z (zAk 33))];calc PD.comp_map (VI (a,c,b) d) UD (λ_=>true) (λw=>T3 (Zc (a,c,b) (XT w (VI (a,c,b) d))).1 (Zc (a,c,b) (XT w (VI (a,c,b) d))).2.1 (Zc (a,c,b) (XT w (VI (a,c,b) d))).2.2) (λR q=>?_) (by rw[VA];lia) (λw k K i=>i) (λw k _ K i=>?_) ?_;lk;calc q;obtain⟨m,l,-⟩:=GBh.ga j (g w k) g;lk;calc⟨g w k,g,33,j.a.mono 23,j.b.mono 23,j.c.mono 23,⟨m.mono 23,l.mono 23⟩,i⟩;rw[YQ.mpr (λ_ _=>rfl)];let m:∀{i:Nat} {x:D},((VI (a,c,b) d).map (λw=>T3 (Zc (a,c,b) (XT w (VI (a,c,b) d))).1 (Zc (a,c,b) (XT w (VI (a,c,b) d))).2.1 (Zc (a,c,b) (XT w (VI (a,c,b) d))).2.2))[i]?=some x->∃w,(VI (a,c,b) d)[i]?=some w/\x=T3 (Zc (a,c,b) (XT w (VI (a,c,b) d))).1 (Zc (a,c,b) (XT w (VI (a,c,b) d))).2.1 (Zc (a,c,b) (XT w (VI (a,c,b) d))).2.2:=by
  intro i x l;rw[WA]at l;cases e:(VI (a,c,b) d)[i]? with
  |none=>rw[e]at l;cases l
  |some w =>
   rw[e]at l;exact⟨w,rfl,(ZI l).symm⟩
 let o:∀{i:Nat} {w:Sp},(VI (a,c,b) d)[i]?=some w->(VI (a,c,b) d).getD i (0,0)=w:=λe=>by rw[Yu,e];rfl
 calc⟨true,_,λi=>Yn (Zc (a,c,b) (XT ((VI (a,c,b) d).getD i (0,0)) (VI (a,c,b) d))) d,rfl,?_,λi x l=>?_,λi x l b=>?_⟩;rw[T4];exact Nat.pos_of_ne_zero λe=>z (zAk e)
 let⟨w,k,rfl⟩:=m l;obtain⟨-,-,a⟩:=GBh.ga j (g w (Xf k)) g;lk;calc⟨33,a.a.mono 23,a.b.mono 23,a.c.mono 23,p,?_⟩;rw[o k];let⟨w,k,rfl⟩:=m l;obtain⟨-,-,a⟩:=GBh.ga j (g w (Xf k)) g;calc h _ (.inr ⟨i,w,k,rfl,λj v hv=>?_⟩) a;let a:=b j (by rw[T4];calc(Zn.mp hv).1);dsimp only at a;rw[o k,o hv]at a;calc a
def Kj (F:av K "depth" "depth" xJ f fd) (C:U4 K mg κ)  (b:EI P w K mg base κ) (c:mE P w K mg base κ)  : aA P w K mg base (CX1 P w) 8 f fd ["dots", "place"] (aD K (oR κ)):=by
 refine av.okN F KL (by fin2) λ_ _ _ _ _ _ a=>⟨_,(ao (ax (ah c a (aa (dv 0) (aa (ah b a (aa (dv 0) (aa (dv 1) af))) af))))),?_⟩
 rintro k Q Ed ⟨d,j,i,e,rfl,h⟩;x_go;unfold kO at h;let⟨a,b,c,h⟩:=h;lk;calc⟨a,b,c,λg c a=>?_⟩;lk;calc⟨33,a.a.mono 23,a.b.mono 23,a.c.mono 23,b,h g c⟩
def xA (F:av K "_law_cell_at" "_law_cell_at" jF f fd) (C:U4 K mg κ)   (a:mg "len" = none):aA P w K mg base (CX1 P w) 1 f fd ["_law_script", "_law_k"] (aD K (iP κ)):=by
 refine av.okN F xP (by fin2) λ_ _ _ _ _ _ d=>⟨_,(ai (aX (aH d6 (dv 1) (aP bU (by rfl) a Zp (aa (dv 0) af))) (ao (ax (ak (dv 0) (dv 1)))) aI) (ao (ax ae))),?_⟩
 rintro g Q Ed ⟨b,k,rfl,h⟩;x_go;unfold fb at h;let⟨c,h⟩:=h;lk;by_cases a:k<(#[b.map D.int]:Int);rw[TU (by simpa using a)];rw[T4]at a;calc⟨_,Jr c a,h⟩;rw[TM (by simpa using a)];rw[T4]at a;let e:cel b k=0:=by ext cel;rw[Yu,zCF 33];rfl
 rw[e]at h;calc h
def xB (F:av K "_law_divisor" "_law_divisor" jG f fd) (C:U4 K mg κ)   (a:mg "abs" = none):aA P w K mg base (CX1 P w) 1 f fd ["_law_one", "_law_other"] (aD K (iQ κ)):=by
 refine av.okN F fk (by fin2) λ_ _ _ _ _ _ e=>⟨_,(ai (ay 2 fk.nd (aP p4 (by rfl) a boot_abs (aa (dv 0) af))) (ai (ay 3 fk.nd (aP p4 (by rfl) a boot_abs (aa (dv 1) af))) (ai (kH PassesOwn.never (aH mS (dv 3) ae) (ao (Pm 2 3 rfl fk.nd 23 (aa (dv 3) (aa (ag aN (dv 2) (dv 3)) af))))) (ao (ax (dv 2)))))),?_⟩
 rintro g Q Ed ⟨a,b,rfl,h⟩;x_go;lk;calc⟨λm c=>∃(x y:Int),c=[some (.val (.int a)),some (.val (.int b)),some (.val (.int x)),some (.val (.int y))]/\Int.gcd x y=Int.gcd a b/\m=y.natAbs/\0<=x/\0<=y,⟨_,_,_,rfl,PM.MF a b,rfl,33,33⟩,?_⟩;rintro m c ⟨x,y,rfl,c,rfl,d,b⟩;lk;by_cases a:y=0;subst a;rw[PM.Hi]at c
 lia
 rw[TM a];calc⟨a,?_⟩;calc⟨_,PM.yM x a,y,x.fmod y,rfl,(PM.A4 x y).trans c,rfl,b,zCw x 33⟩
def Fq (F:av K "_law_dot" "_law_dot" qH f fd) (C:U4 K mg κ)   (a:mg "int" = none):aA P w K mg base (CX1 P w) 1 f fd ["_law_cell", "_law_kind", "_law_heavy"] (aD K (oV κ)):=by
 refine av.okN F bG (by fin2) λ_ _ _ _ _ _ r=>⟨_,(ai (ay 3 bG.nd (ag aN (ag aE (ag az (dv 0) ae) ae) ae)) (ai (ay 4 bG.nd (ag aN (dv 3) ae)) (ai (ay 5 bG.nd (ag aN (ag bB (dv 3) ae) ae)) (ai (aX (aH bI (dv 1) ae) (ai (ay 4 bG.nd (ag aO (ag aN (dv 3) ae) ae)) (ao (ay 5 bG.nd (ag aO (ag aN (ag bB (dv 3) ae) ae) ae)))) aI) (ai (aX (aH bI (dv 1) ae) (ai (ay 4 bG.nd (ag aO (ag az ae (ag aN (dv 3) ae)) ae)) (ao (ay 5 bG.nd (ag aO ae (ag aN (dv 3) ae))))) aI) (ai (aX (aH bI (dv 1) ae) (ai (ay 4 bG.nd (ag aE (ag aO (ag aN (ag az (dv 0) ae) (ag aO (ag az ae (ag dD ae ae)) ae)) (ag dD ae ae)) ae)) (ao (ay 5 bG.nd (ag aE (ag aO (ag aN (ag az (dv 0) ae) (ag aO (ag az ae (ag dD ae ae)) ae)) (ag dD ae ae)) ae)))) aI) (ai (aX (aH bI (dv 1) ae) (ai (ay 4 bG.nd (ag aO ae (qe Au (by rfl) a boot_int (aa (fF bI (ag aN (dv 3) ae) ae) af)))) (ao (ay 5 bG.nd (ag aO ae (ag az ae (qe Au (by rfl) a boot_int (aa (fF bI (ag aN (dv 3) ae) ae) af))))))) aI) (ai (aX (aH bI (dv 1) ae) (ai (ay 4 bG.nd (ag aO (ag aN (dv 3) ae) ae)) (ao (ay 5 bG.nd (ag aO (ag az (dv 4) (dv 4)) (ag az ae (qe Au (by rfl) a boot_int (aa (fF bI (ag aN (ag bB (dv 3) ae) ae) ae) af))))))) aI) (ai (ay 6 bG.nd (ak (eE (aa ae (aa (ag aE ae (ag aN (ag bB (dv 3) ae) ae)) (aa (ag aE ae (ag aN (ag az (dv 0) ae) ae)) af)))) (dv 2))) (ao (ax (bf (aa (dv 4) (aa (dv 5) (aa (ag aN (ag bB (dv 3) ae) ae) (aa (dv 6) af)))))))))))))))),?_⟩
 rintro t Q Ed ⟨c,k,v,rfl,h⟩;x_go;unfold jW at h;let⟨q,s,h⟩:=h;let l:∀{m:Int},m.natAbs<2 ^ 64->CM c m:=λb=>.inr (.inl b)
 let o:∀{a m:Int},a.natAbs<2 ^ 64->CM a m:=λb=>.inl b
 refine y4 (λd=>∃n x y:Int,(0<=n/\n<2147483647)/\BX k x/\BX k y/\d=[some (.val (.int c)),some (.val (.int k)),some (.val (.int v)),some (.val (.int n)),some (.val (.int x)),some (.val (.int y)),none]) (λd e=>?_) λK g=>?_
 rotate_left
 lk;let i:=fm (a:=c*48271+11) (b:=2147483647) 23;generalize (c*48271+11).fmod 2147483647=n at i ⊢;let m:=fm (a:=n) (b:=3) 23;let p:=fm (a:=n.fdiv 3) (b:=3) 23;calc⟨l 23,23,23,CD.lit,23,g _ ⟨n,_,_,i,bx (by ext Bd;omega),bx (by ext Bd;omega),rfl⟩⟩;let⟨n,x,y,i,j,i,rfl⟩:=e;refine iM (λd=>∃x y:Int,BX k x/\BX k y/\d=[some (.val (.int c)),some (.val (.int k)),some (.val (.int v)),some (.val (.int n)),some (.val (.int x)),some (.val (.int y)),none]) (λd e=>?_) λK g=>?_
 rotate_left
 lk;split;let m:=fm (a:=n) (b:=9) 23;let p:=fm (a:=n.fdiv 9) (b:=9) 23;calc⟨23,CD.lit,23,g _ ⟨_,_,bx (by ext Bd;omega),bx (by ext Bd;omega),rfl⟩⟩;calc g _ ⟨x,y,j,i,rfl⟩;let⟨x,y,j,i,rfl⟩:=e;refine iM (λd=>∃x y:Int,BX k x/\BX k y/\d=[some (.val (.int c)),some (.val (.int k)),some (.val (.int v)),some (.val (.int n)),some (.val (.int x)),some (.val (.int y)),none]) (λd e=>?_) λK g=>?_
 rotate_left
 lk;split;let m:=fm (a:=n) (b:=9) 23;calc⟨23,o 23,23,g _ ⟨_,_,bx (by ext Bd;omega),bx (by ext Bd;omega),rfl⟩⟩;calc g _ ⟨x,y,j,i,rfl⟩;let⟨x,y,j,i,rfl⟩:=e;refine iM (λd=>∃x y:Int,BX k x/\BX k y/\d=[some (.val (.int c)),some (.val (.int k)),some (.val (.int v)),some (.val (.int n)),some (.val (.int x)),some (.val (.int y)),none]) (λd e=>?_) λK g=>?_
 rotate_left
 lk;split;rw[p12];let m:=fm (a:=c*7919) (b:=2*1000000000000 - 1) 23;let p:=fm (a:=c*104729) (b:=2*1000000000000 - 3) 23;calc⟨l 23,EZ,o 23,23,EZ,l 23,EZ,o 23,23,EZ,g _ ⟨_,_,⟨by ext Bd;omega,λz=>absurd (by assumption) z⟩,⟨by ext Bd;omega,λz=>absurd (by assumption) z⟩,rfl⟩⟩;calc g _ ⟨x,y,j,i,rfl⟩;let⟨x,y,j,i,rfl⟩:=e;refine iM (λd=>∃x y:Int,BX k x/\BX k y/\d=[some (.val (.int c)),some (.val (.int k)),some (.val (.int v)),some (.val (.int n)),some (.val (.int x)),some (.val (.int y)),none]) (λd e=>?_) λK g=>?_
 rotate_left
 lk;split;calc⟨23,23,o 23,g _ ⟨_,_,bx (by ext Bd;split<;>omega),bx (by ext Bd;split<;>omega),rfl⟩⟩;calc g _ ⟨x,y,j,i,rfl⟩;let⟨x,y,j,i,rfl⟩:=e;refine iM (λd=>∃x y:Int,BX k x/\BX k y/\d=[some (.val (.int c)),some (.val (.int k)),some (.val (.int v)),some (.val (.int n)),some (.val (.int x)),some (.val (.int y)),none]) (λd e=>?_) λK g=>?_
 rotate_left
 lk;split;let m:=fm (a:=n) (b:=21) 23;let d:Bd 4 (n.fmod 21 - 10):=by ext Bd;omega
 calc⟨23,cmb d d,CD.lit,23,o 23,g _ ⟨_,_,bx (d.mono 23),bx ((Bd.sub ((d.mul d).mono (n:=10) 23) (by ext Bd;split<;>decide)).mono 23),rfl⟩⟩;calc g _ ⟨x,y,j,i,rfl⟩;let⟨x,y,j,i,rfl⟩:=e;lk;let m:=fm (a:=n.fdiv 192) (b:=7) 23;let p:=fm (a:=c*31) (b:=999999999) 23;let c:=fm (a:=n.fdiv 64) (b:=3) 23;calc⟨CD.lit,23,l 23,23,Z0 _ _ _,?_⟩;refine Gy q (by show v<3;omega) λd a=>?_
 obtain⟨w,rfl,b⟩:∃w:Int,d=.int w/\0<w:=by
  simp only[VC,zBG,or_false]at a;obtain rfl|rfl|rfl:=a;calc⟨_,rfl,23⟩;calc⟨_,rfl,by omega⟩;exact⟨_,rfl,by omega⟩
 calc⟨CD.lit,23,sz4 _ _ _ _,h (x,y,(n.fdiv 64).fmod 3,w) ⟨j.1.mono 23,i.1.mono 23,c.1,(show(n.fdiv 64).fmod 3<=2 by omega)⟩ j i b⟩
def CP (F:av K "_law_dots" "_law_dots" ow f fd) (C:U4 K mg κ)  (c:jr P w K mg base κ) (b:Gi P w K mg base κ)  : aA P w K mg base (CX1 P w) 2 f fd ["_law_script", "_law_start", "_law_most"] (aD K (mr κ)):=by
 refine av.okN F dU (by fin2) λ_ _ _ _ _ _ a=>⟨_,(ai (ay 3 dU.nd (ah c a (aa (dv 0) (aa ae af)))) (ai (ay 4 dU.nd (ag aN (dv 3) ae)) (ai (ay 5 dU.nd (ag aN (ag bB (dv 3) ae) ae)) (ai (qi 6 dU.nd (aa (ah b a (aa (ah c a (aa (dv 0) (aa ae af))) (aa (dv 4) (aa (dv 5) af)))) af)) (ai (dh PassesOwn.never rfl (aT (PEF.ped (iz (dv 0) (eS (dv 1)) (eS (ag aO (ag aE (dv 1) (dv 2)) ae))))) (cu 7 dU.nd) (ao (gn 6 (ah b a (aa (dv 7) (aa (dv 4) (aa (dv 5) af))))))) (gM 6 (ao (ax (dv 6))))))))),?_⟩
 rintro t Q Ed ⟨c,s,m,rfl,h⟩;x_go;unfold iZ at h;let⟨o,rfl,a,h⟩:=h;obtain⟨M,rfl,M0,M1⟩:∃M:Nat,m=(M:Int)/\0<M/\M<=8:=⟨8,a,23,23⟩;lk;calc⟨23,?_⟩;generalize cel c 0=f at h;lk;let g:=fm (a:=f.fdiv 6) (b:=3) 23;calc⟨23,CD.lit,23,23,⟨g.1,by omega,λe l j i k=>?_⟩⟩;lk;let m:(8+(M:Int) - 1)=((M+7:Nat):Int):=by omega
 let n:#[AE c (some 8) (some ((M+7:Nat):Int))]<=M - 1:=by ext AE;rw[zBR];let b:HT.Vy #[c] 0 (some 8)=min 8 #[c]:=HT.mV _ _ 8;let a:HT.Vy #[c] #[c] (some ((M+7:Nat):Int))=min (M+7) #[c]:=HT.mV _ _ (M+7);rw[b,a];omega
 calc⟨sz1 _,?_⟩;calc tQ (AE c (some 8) (some ((M+7:Nat):Int))) D.int (λdone b=>∃(a:List Dt) (d:Option Sl),b=[some (.val (.lst false (c.map D.int))),some (.val (.int 8)),some (.val (.int (M:Int))),some (.val (.int f)),some (.val (.int (f.fmod 6))),some (.val (.int ((f.fdiv 6).fmod 3))),some (.own (a.map Ui)),d]/\#[a]=#[done]+1/\∀p∈a,GD p/\(BX (f.fmod 6) p.1/\BX (f.fmod 6) p.2.1)/\0<p.2.2.2) (λR q=>?_) ⟨[e],none,rfl,rfl,λq e=>by rw[Yv.mp e];calc⟨l,⟨j,i⟩,k⟩⟩ ?_ ?_;lk;rw[m,JA];calc q;rintro done c l r Wx ⟨a,d,rfl,c,b⟩ K k;lk;calc⟨g.1,by omega,λp gp i g j=>⟨by rw[T4,VA];omega,k _ ⟨a++[p],_,by rw[Yx];rfl,by simp[c],λq e=>?_⟩⟩⟩;obtain z|z:=VS.mp e;calc b q z;rw[Yv]at z;subst z;calc⟨gp,⟨i,g⟩,j⟩;rintro l ⟨a,d,rfl,c,b⟩;lk;calc h a ⟨λp a=>(b p a).1,λp a=>⟨(b p a).2.1.1.1,(b p a).2.1.2.1⟩,λp a=>(b p a).2.2,by omega,zDK (by omega)⟩ (by omega) λp a=>(b p a).2.1
def zr (F:av K "_law_lowest" "_law_lowest" kS f fd) (C:U4 K mg κ)  (b:zh P w K mg base κ)  : aA P w K mg base (CX1 P w) 2 f fd ["_law_by", "_law_x", "_law_y"] (aD K (jK κ)):=by
 refine av.okN F pF (by fin2) λ_ _ _ _ _ _ a=>⟨_,(ai (ay 3 pF.nd (ah b a (aa (ah b a (aa (dv 0) (aa (dv 1) af))) (aa (dv 2) af)))) (ao (ax (bf (aa (ag bB (dv 0) (dv 3)) (aa (ag bB (dv 1) (dv 3)) (aa (ag bB (dv 2) (dv 3)) af))))))),?_⟩
 rintro m Q Ed ⟨b,x,y,rfl,h⟩;x_go;unfold fM at h;let⟨d,e,bx,a,h⟩:=h;lk;calc Th d (e.mono 23) ?_;let c:¬(b=0/\x=0/\y=0):=λz=>33
 obtain⟨p,q,r,i,-,-,-,g,-⟩:=(FA (zCn d) (e.mono 23) (bx.mono 23) (a.mono 23)).ex;let k:=cN (n:=64) (PM.cS (l:=b) c) (PM.cF (PM.fu b x y)) e;let j:=cN (n:=105) (PM.cS (l:=b) c) (PM.cF (PM.gN b x y)) bx;let e:=cN (n:=105) (PM.cS (l:=b) c) (PM.cF (PM.gO b x y)) a;let a:T3 (b.fdiv (PM.VB b x y b)) (x.fdiv (PM.VB b x y b)) (y.fdiv (PM.VB b x y b))=T3 p q r:=i;unfold T3 at a;simp only[D.tup.injEq,List.cons.injEq,D.int.injEq,and_true]at a;calc h (b.fdiv (PM.VB b x y b),x.fdiv (PM.VB b x y b),y.fdiv (PM.VB b x y b)) ⟨by rw[a.1];calc g,k.mono 23,j.mono 23,e.mono 23⟩ (mT (w:=(b,x,y)) (zCn d))
def qu (F:av K "_law_drawn_place" "_law_drawn_place" fz f fd) (C:U4 K mg κ)  (a:zZ P w K mg base κ) (c:mg "len" = none):aA P w K mg base (CX1 P w) 3 f fd ["_law_dots_here", "_law_cell"] (aD K (eQ κ)):=by
 refine av.okN F bW (by fin2) λ_ _ _ _ _ _ b=>⟨_,(ai (ay 2 bW.nd (ag aN (ag aE (ag az (dv 1) ae) ae) ae)) (ai (ay 3 bW.nd (ak (dv 0) (ag aN (ag bB (dv 2) ae) (aP bU (by rfl) c Zp (aa (dv 0) af))))) (ai (ay 4 bW.nd (ak (dv 0) (ag aN (ag bB (dv 2) ae) (aP bU (by rfl) c Zp (aa (dv 0) af))))) (ai (ay 5 bW.nd (ak (dv 0) (ag aN (ag bB (dv 2) ae) (aP bU (by rfl) c Zp (aa (dv 0) af))))) (ai (aX (aH bI (ag aN (dv 2) ae) ae) (ao (ax (bf (aa ae (aa (ak (dv 3) ae) (aa (ak (dv 3) ae) af)))))) aI) (ai (aX (aH bI (ag aN (dv 2) ae) ae) (ao (ax (ah a b (aa ae (aa (ag aE (ak (dv 3) ae) (ak (dv 4) ae)) (aa (ag aE (ak (dv 3) ae) (ak (dv 4) ae)) af)))))) aI) (ai (aX (aH d6 (ag aN (dv 2) ae) ae) (ao (ax (ah a b (aa ae (aa (ag aE (ag aE (ak (dv 3) ae) (ak (dv 4) ae)) (ak (dv 5) ae)) (aa (ag aE (ag aE (ak (dv 3) ae) (ak (dv 4) ae)) (ak (dv 5) ae)) af)))))) aI) (ai (aX (aH bI (ag aN (dv 2) ae) ae) (ao (ax (ah a b (aa ae (aa (ag aE (ag az ae (ak (dv 3) ae)) (ag az ae (ak (dv 4) ae))) (aa (ag aE (ag az ae (ak (dv 3) ae)) (ag az ae (ak (dv 4) ae))) af)))))) aI) (ai (aX (aH bI (ag aN (dv 2) ae) ae) (ao (ax (ah a b (aa (ag aE ae (ag aN (ag bB (dv 2) ae) ae)) (aa (ag aO (ag aN (dv 2) ae) ae) (aa (ag aO (ag aN (ag bB (dv 2) ae) ae) ae) af)))))) aI) (ai (ay 6 bW.nd (ag aE ae (ag aN (dv 1) (ag dD ae ae)))) (ao (ax (ah a b (aa (dv 6) (aa (ag aO (ag aN (ag az (dv 1) ae) (ag aE (ag az ae (ag dD ae ae)) ae)) (ag dD ae ae)) (aa (ag aO (ag aN (ag az (dv 1) ae) (ag aE (ag az ae (ag dD ae ae)) ae)) (ag dD ae ae)) af)))))))))))))))),?_⟩
 rintro M Q Ed ⟨i,c,rfl,h⟩;x_go;unfold cW at h;let⟨B,A,u,h⟩:=h;let j:∀{m:Int},m.natAbs<2 ^ 64->CM c m:=λg=>.inr (.inl g)
 let k:∀{m x:Int},m.natAbs<2 ^ 64->CM m x:=λg=>.inl g
 let y:(0:Int)<(#[i]:Int):=by omega
 let o:(#[i]:Int)≠0:=by omega
 refine y4 (λl=>∃n:Int,∃p∈i,∃q∈i,l=[some (.val (.lst false (i.map Ui))),some (.val (.int c)),some (.val (.int n)),some (.val (.tup [.int p.1,.int p.2.1,.int p.2.2.1,.int p.2.2.2])),some (.val (.tup [.int q.1,.int q.2.1,.int q.2.2.1,.int q.2.2.2])),none,none]) (λl e=>?_) λK d=>?_
 rotate_left
 lk;rw[T4];calc⟨j 23,23,CD.lit,o,?_⟩;generalize (c*69621+7).fmod 2147483629=n;let s:=fm (a:=n.fdiv 8) y;let r:=fm (a:=n.fdiv 256) y;exact Am s.1 s.2 λp t=>⟨CD.lit,o,Am r.1 r.2 λq s=>d _ ⟨n,p,t,q,s,rfl⟩⟩
 let⟨n,p,t,q,s,rfl⟩:=e;refine iM (λl=>∃r∈i,l=[some (.val (.lst false (i.map Ui))),some (.val (.int c)),some (.val (.int n)),some (.val (.tup [.int p.1,.int p.2.1,.int p.2.2.1,.int p.2.2.2])),some (.val (.tup [.int q.1,.int q.2.1,.int q.2.2.1,.int q.2.2.2])),some (.val (.tup [.int r.1,.int r.2.1,.int r.2.2.1,.int r.2.2.2])),none]) (λl e=>?_) λK d=>?_
 rotate_left
 lk;rw[T4];let i:=fm (a:=n.fdiv 8192) y;calc⟨CD.lit,o,Am i.1 i.2 λr b=>d _ ⟨r,b,rfl⟩⟩;let⟨r,b,rfl⟩:=e;let P:=u p t;let e:=u q s;let R:=u r b;let sb:∀{m:Int},m.natAbs<2 ^ 20->Bd 64 m:=λg=>Bd.mono (m:=20) g 23
 let sm:∀{m:Int},m.natAbs<2 ^ 20->Bd 105 m:=λg=>Bd.mono (m:=20) g 23
 let q:∀{x y:Int},Bd 60 x->Bd 60 y->Bd 105 (x+y):=λi b=>(i.add b).mono 23
 let o:∀{x y z:Int},Bd 60 x->Bd 60 y->Bd 60 z->Bd 105 (x+y+z):=λi b l=>((i.add b).add (l.mono 23)).mono 23
 let l:∀{x y:Int},Bd 60 x->Bd 60 y->Bd 105 (3*x+2*y):=λi b=>(Bd.add ((Bd.mul (m:=2) (by ext Bd;decide) i).mono (n:=70) 23) ((Bd.mul (m:=2) (by ext Bd;decide) b).mono (n:=70) 23)).mono 23
 refine kW ?_ λK d=>?_
 rotate_left
 lk;calc⟨23,?_⟩;split;calc⟨Z0 _ _ _,h (1,p.1,p.2.1) ⟨(show(0:Int)<1 by decide),Bd.mono (m:=2) (show Bd 2 (1:Int)by ext Bd;decide) 23,P.x.mono 23,P.y.mono 23⟩ (LG (p.1,p.2.1))⟩;calc d;refine kW ?_ λK d=>?_
 rotate_left
 lk;calc⟨23,?_⟩;split;calc⟨23,sb 23,q P.x e.x,q P.y e.y,h⟩;calc d;refine kW ?_ λK d=>?_
 rotate_left
 lk;calc⟨23,?_⟩;split;calc⟨23,sb 23,o P.x e.x R.x,o P.y e.y R.y,h⟩;calc d;refine kW ?_ λK d=>?_
 rotate_left
 lk;calc⟨23,?_⟩;split;calc⟨k 23,k 23,k 23,k 23,23,sb 23,l P.x e.x,l P.y e.y,h⟩;calc d;refine kW ?_ λK d=>?_
 rotate_left
 lk;calc⟨23,?_⟩;split;exact(by
 let L:=fm (a:=n.fdiv 64) (b:=9) 23;let J:=fm (a:=n) (b:=37) 23;let I:=fm (a:=n.fdiv 37) (b:=37) 23;calc⟨CD.lit,23,23,CD.lit,23,by omega,sb (by omega),sm (by omega),sm (by omega),h⟩)
 calc d;lk;rw[p18,p30];let H:=fm (a:=c) (b:=1000000000000000000) 23;let G:=fm (a:=c*7919) (b:=2*1000000000000000000000000000000+1) 23;let E:=fm (a:=c*104729) (b:=2*1000000000000000000000000000000+3) 23;let a:∀{m:Int},m.natAbs<2 ^ 102->Bd 105 m:=λg=>Bd.mono (m:=102) g 23
 calc⟨S4,23,j 23,E2,k 23,23,E2,j 23,E2,k 23,23,E2,by omega,(by ext Bd;omega),a (by omega),a (by omega),h⟩
def Fs (F:av K "_law_map" "_law_map" qI f fd) (C:U4 K mg κ)  (b:jr P w K mg base κ)  : aA P w K mg base (CX1 P w) 2 f fd ["_law_script"] (aD K (oW κ)):=by
 refine av.okN F bY (by fin2) λ_ _ _ _ _ _ a=>⟨_,(ai (ay 1 bY.nd (ag aN (ag aE (ag az (ah b a (aa (dv 0) (aa ae af))) ae) ae) ae)) (ai (ay 2 bY.nd (ag aO (ag aN (dv 1) ae) ae)) (ai (ay 3 bY.nd (ag aO (ag aN (ag bB (dv 1) ae) ae) ae)) (ai (ay 4 bY.nd (ag aO (ag aN (ag bB (dv 1) ae) ae) ae)) (ai (ay 5 bY.nd (ag aO (ag aN (ag bB (dv 1) ae) ae) ae)) (ai (aX (aH bI (ag az (dv 2) (dv 5)) (ag az (dv 3) (dv 4))) (ai (ay 2 bY.nd ae) (ai (ay 3 bY.nd ae) (ai (ay 4 bY.nd (ag aN (dv 1) ae)) (ao (ay 5 bY.nd (bE ae)))))) aI) (ai (ay 6 bY.nd (ah b a (aa (dv 0) (aa ae af)))) (ao (ax (bf (aa (dv 2) (aa (dv 3) (aa (dv 4) (aa (dv 5) (aa (ag aO (ag aN (dv 6) (ag az ae (ag dD ae ae))) (ag dD ae ae)) (aa (ag aO (ag aN (ag az (dv 6) ae) (ag az ae (ag dD ae ae))) (ag dD ae ae)) af)))))))))))))))),?_⟩
 rintro r Q Ed ⟨c,rfl,h⟩;x_go;unfold jX at h;let⟨i,h⟩:=h;lk;let p9:((10:Int) ^ (9:Int).toNat)=1000000000:=23
 let cp9:tE 10 9:=⟨23,23,23⟩;simp only[p9];let d:=fm (a:=cel c 3*48271+5) (b:=2147483647) 23;generalize (cel c 3*48271+5).fmod 2147483647=n at d ⊢;let q:=fm (a:=n) (b:=19) 23;let p:=fm (a:=n.fdiv 19) (b:=19) 23;let o:=fm (a:=n.fdiv 361) (b:=19) 23;let m:=fm (a:=n.fdiv 6859) (b:=19) 23;let l:=fm (a:=n) (b:=7) 23;let k:=fm (a:=cel c 4) (b:=2*1000000000) 23;let j:=fm (a:=cel c 4*31) (b:=2*1000000000) 23;let g:∀a b c d e f:D,#[([a,b,c,d,e,f]:yar)]<=sizeLine:=λ_ _ _ _ _ _=>by rw[VA];show 6<=16777216;decide
 calc⟨23,.inr (.inl (by ext Bd;decide)),23,23,CD.lit,23,CD.lit,23,CD.lit,23,.inl (by ext Bd;lia),.inl (by ext Bd;lia),?_⟩;split;calc⟨23,23,cp9,.inl (by ext Bd;decide),23,cp9,.inr (.inl (by ext Bd;decide)),cp9,.inl (by ext Bd;decide),23,cp9,g _ _ _ _ _ _,h (1,0,n.fmod 7,-1,_,_) ⟨(by dsimp only;decide),(by dsimp only;decide),(by constructor<;>(dsimp only;lia)),(by dsimp only;decide),(by constructor<;>(dsimp only;lia)),(by constructor<;>(dsimp only;lia)),(by dsimp only;lia)⟩⟩;rename_i c;calc⟨23,cp9,.inl (by ext Bd;decide),23,cp9,.inr (.inl (by ext Bd;decide)),cp9,.inl (by ext Bd;decide),23,cp9,g _ _ _ _ _ _,h (n.fmod 19 - 9,_,_,_,_,_) ⟨(by constructor<;>(dsimp only;lia)),(by constructor<;>(dsimp only;lia)),(by constructor<;>(dsimp only;lia)),(by constructor<;>(dsimp only;lia)),(by constructor<;>(dsimp only;lia)),(by constructor<;>(dsimp only;lia)),c⟩⟩
def QG (F:av K "law" "law" fg f fd) (C:U4 K mg κ)  (TY:jr P w K mg base κ) (X9:EH P w K mg base κ) (VT:sC P w K mg base κ) (Yr:Gj P w K mg base κ) (XD:Gh P w K mg base κ) (YN:L1 P w K mg base κ) (Yh:Ji P w K mg base κ) (E:Oq P w K mg base κ) (Wf:Ac P w K mg base κ) (UK:mg "sorted" = none) (WK:mg "sum" = none):aA P w K mg base (CX1 P w) 10 f fd ["_law_script"] (aD K se):=by
 refine av.okN F hW (by fin2) λ_ _ _ _ _ _ i=>⟨_,(ai (cR 1 hW.nd (by rfl) (by calc aY (osc:=aj fg) (xs:=["_law_dot_here"]) (ns:=[]) (by decide +kernel)) aR.nil (aT (ah X9 i (aa (dv 0) (aa ae (aa ae af))))) (λ_ _ _ _ _=>bK) (λ_ _ _ _ _=>(dv 0))) (ai (aX (aH bI (ag aN (ah TY i (aa (dv 0) (aa ae af))) ae) ae) (ao (CA 1 hW.nd (by rfl) (by calc aY (osc:=aj fg) (xs:=["_law_x", "_law_y", "_law_colour", "_law_weight"]) (ns:=[]) (by decide +kernel)) aR.nil (.cons (.cons (.cons (.cons .nil)))) (aT (dv 1)) (λ_ _ _ _ _=>bK) (λ_ _ _ _ _=>(bf (aa (ag bB (dv 0) ae) (aa (ag bB (dv 1) ae) (aa (dv 2) (aa (dv 3) af)))))))) aI) (ai (ay 2 hW.nd (ah Yr i (aa (dv 0) af))) (ai (ay 3 hW.nd (ah E i (aa (dv 1) (aa (dv 2) af)))) (ai (ay 4 hW.nd (ah VT i (aa (dv 1) (aa (ah TY i (aa (dv 0) (aa ae af))) af)))) (ai (aX (aH (vN (by calc i.units)) (ah YN i (aa (dv 3) (aa (ah Wf i (aa (dv 4) (aa (dv 2) af))) af))) (ah YN i (aa (dv 1) (aa (dv 4) af)))) (ao (ax zM)) aI) (ai (ay 5 hW.nd (aP (Av rfl) (by rfl) WK boot_sum (aa (bV (by rfl) (by calc aY (osc:=aj fg) (xs:=["_law_dot_here"]) (ns:=[]) (by decide +kernel)) aR.nil (aT (dv 1)) (λ_ _ _ _ _=>bK) (λ_ _ _ _ _=>(ak (dv 0) ae))) af))) (ai (dh PassesOwn.never rfl (aT (eE (aa (ag bB (ag aE (dv 5) ae) ae) (aa (ag aE ae (ag aN (ag bB (ah TY i (aa (dv 0) (aa ae af))) ae) (dv 5))) af)))) (cu 6 hW.nd) (ai (cR 7 hW.nd (by rfl) (by calc aY (osc:=aj fg) (xs:=["_law_corner"]) (ns:=["_law_by_map"]) (by decide +kernel)) (aR.cons 2 aR.nil) (aT (ah Yh i (aa (dv 1) (aa (dv 6) af)))) (λ_ _ _ _ _=>bK) (λ_ _ _ _ _=>(ah Wf i (aa (dv 0) (aa (dv 1) af))))) (ao (aX (aH (vN (by calc i.units)) ((yI (by rfl) UK (dv 7))).ped ((yI (by rfl) UK (ah Yh i (aa (dv 3) (aa (dv 6) af))))).ped) (ao (ax zM)) aI)))) (ao (ax (fF (LA (by calc i.units)) (ak (ah XD i (aa (dv 3) af)) ae) (ak (ah XD i (aa (dv 1) af)) ae)))))))))))),?_⟩
 rintro ds Q Ed ⟨ns,rfl,hl,h⟩;x_go;refine ID (λTN=>∃(t:Bool) (d:List Dt),(bS d/\#[d]<=8/\∀p∈d,Bd 31 p.1/\Bd 31 p.2.1)/\TN=[some (.val (.lst false (ns.map D.int))),some (.val (.lst t (d.map Ui))),none,none,none,none,none,none]) (λTN e=>?_) λK o=>?_
 rotate_left
 lk;refine nk (P:=λd:List Dt=>bS d/\#[d]<=8/\∀p∈d,BX ((cel ns 0).fmod 6) p.1/\BX ((cel ns 0).fmod 6) p.2.1) Ui Ui (λR q=>?_) (λd h=>by rw[VA];lia) (λd h p x K o=>?_) λd hps=>?_
 lk;calc⟨hl,λd a b c=>q d ⟨a,b,c⟩⟩;lk;calc o;let⟨j,H,I⟩:=hps;calc⟨23,23,?_⟩;by_cases c:(cel ns 0).fmod 6=3;rw[TU c];calc PD.p5 d (λp=>[.int p.1,.int p.2.1,.int p.2.2.1,.int p.2.2.2]) (λ_=>true) (λp=>Ui (dvK p)) (λR q=>?_) (by rw[VA];lia) (λ_=>rfl) (λp x K B=>B) (λp x _ K B=>?_) ?_;lk;calc q;lk;calc⟨CD.lit,CD.lit,sz4 _ _ _ _,B⟩;rw[YQ.mpr (λ_ _=>rfl),show(d.map λp=>Ui (dvK p))=(d.map dvK).map Ui by rw[Ww];rfl];calc o _ ⟨true,d.map dvK,Pq j H,rfl⟩;rw[TM c];calc o _ ⟨true,d,⟨j,H,λp x=>⟨((I p x).1.2 c).mono 23,((I p x).2.2 c).mono 23⟩⟩,rfl⟩;let⟨t,d,⟨j,H,I⟩,rfl⟩:=e;let l0:=zCN.mpr j.ne;let w0:=Dq j;lk;calc⟨hl,λm M=>?_⟩;let⟨mb,mB,dn⟩:=Se M;let⟨nr,J⟩:=NX M j I;let l8':#[d.map (bJ m)]<=8:=by rw[T4];exact H
 calc⟨m,rfl,mb,mB,33,λp x=>⟨(I p x).1.mono 23,(I p x).2.mono 23⟩,nr,23,l0,33,j.gd,λX T PH=>⟨m,rfl,mb,mB,PH.pos,T.a.mono 23,T.b.mono 23,T.c.mono 23,?_⟩⟩;show oR κ [.lst false ((d.map (bJ m)).map Ui),T3 (Z8 m X).1 (Z8 m X).2.1 (Z8 m X).2.2] _ _;rw[tu,kO];calc⟨33,J.gd,T.sn M,λk B=>⟨33,j.gd,T.hb,λg hg=>⟨(Yf.int 1 _).ok,?_⟩⟩⟩;rw[DQ dn j.nn PH.pos hg B,nJ,TM 23];calc PD.comp_map d Ui (λ_=>true) (λp=>.int p.2.2.2) (λR q=>?_) (by rw[VA];lia) (λp x K o=>?_) (λp x _ K o=>?_) ?_;lk;calc q;lk;calc o;ext Ui;lk;calc o;rw[YQ.mpr (λ_ _=>rfl)];let ew:(d.map λp=>p.2.2.2).sum=aF d:=by ext aF tot;rw[YQ.mpr (λ_ _=>rfl)]
 calc⟨true,d.map λp=>p.2.2.2,by rw[Ww];rfl,?_⟩;rw[ew];let f3:(aF d+2).fdiv 3=(aF d+2) / 3:=zDG _ 23;let fw:=fm (a:=(cel ns 1).fdiv 7) (b:=aF d) w0;calc tQ [(aF d+2).fdiv 3,1+((cel ns 1).fdiv 7).fmod (aF d)] D.int (λ_ ρ=>∃v6 v7:Option Sl,ρ=[some (.val (.lst false (ns.map D.int))),some (.val (.lst t (d.map Ui))),some (.val (Zt m)),some (.val (.lst true ((d.map (bJ m)).map Ui))),some (.val (T3 X.1 X.2.1 X.2.2)),some (.val (.int (aF d))),v6,v7]) (λR q=>?_) ⟨_,_,rfl⟩ ?_ ?_;lk;calc⟨CD.lit,23,CD.lit,zCn w0,sz2 _ _,q⟩;rintro done l TN N Wx ⟨v6,v7,rfl⟩ K o;obtain⟨l1,la⟩:1<=l/\l<=aF d:=by
  simp only[VC,zBG,or_false]at N;obtain rfl|rfl:=N<;>lia
 lk;refine nk (P:=λY:yat=>∃y z,bD y (Xn d)/\bC z (d.map VZ)/\Y=fR (bM d y z (aF d - l+1))) Ug (λc=>Ug (Z8 m c)) (λR q=>?_) (λY O=>?_) (λY O c hcm K o=>?_) λY O=>?_
 lk;calc⟨j,l1,la,λy z r s=>q _ ⟨y,z,r,s,rfl⟩⟩;let⟨y,z,r,s,rfl⟩:=O;have:=BM j H r s (aF d - l+1);rw[mO,VA]
 lia
 let⟨y,z,r,s,rfl⟩:=O;let⟨cp,cb⟩:=je j r s (MU.mp hcm);show fN κ [T3 c.1 c.2.1 c.2.2,Zt m] _ _;rw[lg,dP];calc .inr ⟨m,rfl,mb,mB,cp.pos,cb.b.mono 23,cb.x.mono 23,cb.y.mono 23,o⟩;let⟨y,z,r,s,rfl⟩:=O;ext DI;lk;calc⟨true,(fR (bM d y z (aF d - l+1))).map λc=>trK (Z8 m c),by rw[Ww];rfl,by rw[T4,mO];calc BM j H r s _,λk B=>?_,λu hu=>⟨J,l1,by rw[kD];calc la,λzt yt U A=>⟨true,(fR (bM (d.map (bJ m)) zt yt (aF (d.map (bJ m)) - l+1))).map trK,by rw[Ww];rfl,by rw[T4,mO];calc BM J l8' U A _,λk B=>?_,λu2 L=>?_⟩⟩⟩;let⟨c,_,rfl⟩:=UQ.mp B;calc List.cons_ne_nil _ _;let⟨c,_,rfl⟩:=UQ.mp B;calc List.cons_ne_nil _ _;let pm:=AB dn j J r U s A l1 la;rw[kD]at L;let e:u=u2:=CY hu L (((Bj _).map _).trans ((by have:=pm.map trK;rw[Ww]at this;calc this:List.Perm _ _).trans ((Bj _).map _).symm));subst e;calc⟨okU u,okU u,?_⟩;rw[nJ,TM 23];calc o _ ⟨_,_,rfl⟩;rintro TN ⟨v6,v7,rfl⟩;lk;calc⟨J,33,λn _ _ zt yt _ U A G' _ _=>⟨j,33,λn1 _ _ y z _ r s G _ _=>by rw[Ys (P8 dn j J r U s A G G').symm];calc h⟩⟩
end
def all_mk {l:PySem.W.OpenLaw} {K:yac} (X:K.In h) (G:h.Ns mainGlobals mg) (B:mg "law" = some (.ref fa))

  {u:Option Addr} {p:Array (yam)} {A:Value}
 {k:Value} {e:Option Addr} {c:Array (yam)}
  {t:Option Addr} {o:Array (yam)} {z:Value}
 {j:Value} {d:Option Addr} {b:Array (yam)}
  {r:Option Addr} {n:Array (yam)} {y:Value}
  {q:Option Addr} {m:Array (yam)} {x:Value}
  (e0:FL K "is_whole" ot)
  (e1:FL K "sign" BY)
  (e2:FL K "common_divisor" fU)
  (e3:FL K "lowest" oz)
  (e4:FL K "reduced" qK)
  (e5:FL K "picks" r9)
  (e6:FL K "value" xO)
  (e7:FL K "side" BW)
  (e8:FL K "is_level" oh)
  (e9:FL K "crossed" qE)
  (e10:FL K "line" BU)
  (e11:FL K "facing" uk)
  (e12:FL K "place" xM)
  (e13:FL K "place_of" oD)
  (e14:FL K "rank" BV)
  (e15:FL K "swing" xN)
  (e16:FL K "arrow" xH)
  (e17:FL K "turn" BZ)
  (e18:FL K "back" BS)
  (e19:FL K "left_of" qJ)
  (e20:FL K "is_within" l9)
  (e21:FL K "is_coordinate" gW)
  (e22:FL K "spot_of" qL)
  (e23:FL K "spots_of" j4)
  (e24:FL K "of_colour" i7)
  (a25:PySem.W.nsIn K mainGlobals "total" = some (some (.ref f25))) (l25:K.lookup f25=some ⟨A,u,.func (PySem.W.fnOf "total" "total" (cQ iJ) (bZ iJ) (aj iJ) (.ref dt25) kV25 dc25 pm25 an25 cd25 ct25),p⟩) (c25:PySem.W.codeIn K cd25 "total" = true) (I:PySem.W.keepIn K (.ref f25)=true)
  (g:K.lookup dt25=some ⟨k,e,.seq #[.none,] tn25,c⟩)
  (a26:PySem.W.nsIn K mainGlobals "weighed" = some (some (.ref f26))) (l26:K.lookup f26=some ⟨z,t,.func (PySem.W.fnOf "weighed" "weighed" (cQ gF) (bZ gF) (aj gF) (.ref dt26) kV26 dc26 pm26 an26 cd26 ct26),o⟩) (c26:PySem.W.codeIn K cd26 "weighed" = true) (H:PySem.W.keepIn K (.ref f26)=true)
  (f:K.lookup dt26=some ⟨j,d,.seq #[.none,] tn26,b⟩)
  (e27:FL K "is_map" oo)
  (e28:FL K "check_map" l7)
  (e29:FL K "moved" xK)
  (e30:FL K "sent_dot" oE)
  (e31:FL K "sent" vZ)
  (e32:FL K "sent_place" kT)
  (e33:FL K "chain" xI)
  (e34:FL K "hull" vX)
  (e35:FL K "thin_bounds" jH)
  (e36:FL K "bounds" n9)
  (e37:FL K "on_two_spots" iH)
  (e38:FL K "spot_pairs" eO)
  (e39:FL K "pair_line" md)
  (e40:FL K "split_by" j3)
  (e41:FL K "pair_lines" gY)
  (e42:FL K "length" um)
  (e43:FL K "are_opposite" iG)
  (e44:FL K "balance_of_two" fT)
  (e45:FL K "balance_of_three" cX)
  (e46:FL K "balance" qD)
  (e47:FL K "place_between" gZ)
  (e48:FL K "clipped" lL)
  (e49:FL K "common" uj)
  (e50:FL K "led" FG)
  (e51:FL K "last_needed" jE)
  (e52:FL K "constant" j2)
  (e53:FL K "bars" vW)
  (e54:FL K "axis_lines" eN)
  (e55:FL K "opposite" oA)
  (e56:FL K "half_planes" jD)
  (e57:FL K "rims" vY)
  (e58:FL K "hull_of" qG)
  (e59:FL K "region_within" hJ)
  (e60:FL K "region" uo)
  (e61:FL K "greatest_depth" fV)
  (e62:FL K "shallow_bars" fh)
  (e63:FL K "deepest" qF)
  (e64:FL K "plane_weight" iI)
  (e65:FL K "ways_to" gE)
  (e66:FL K "free_way" og)
  (a67:PySem.W.nsIn K mainGlobals "lightest" = some (some (.ref f67))) (l67:K.lookup f67=some ⟨y,r,.func (PySem.W.fnOf "lightest" "lightest" (cQ cY) (bZ cY) (aj cY) .none kV67 dc67 pm67 an67 (.ref cL) ct67),n⟩) (c67:PySem.W.codeIn K (.ref cL) "lightest" = true) (E:PySem.W.keepIn K (.ref f67)=true)
  (e68:FL K "depth" xJ)
  (e69:FL K "_law_cell_at" jF)
  (e70:FL K "_law_divisor" jG)
  (e71:FL K "_law_dot" qH)
  (e72:FL K "_law_dots" ow)
  (e73:FL K "_law_lowest" kS)
  (e74:FL K "_law_drawn_place" fz)
  (e75:FL K "_law_map" qI)
  (C:PySem.W.nsIn K mainGlobals "law" = some (some (.ref f76))) (Y:K.lookup f76=some ⟨x,q,.func (PySem.W.fnOf "law" "law" (cQ fg) (bZ fg) (aj fg) .none kV76 dc76 pm76 an76 cd76 ct76),m⟩) (c76:PySem.W.codeIn K cd76 "law" = true) (k76:PySem.W.keepIn K (.ref f76)=true)
  (V3:PySem.W.nsIn K mainGlobals "PlaneError" = some (some (.ref Ut)))
  (WU:PySem.W.nsIn K mainGlobals "NoPlace" = some (some (.ref WM)))
  (Xw:PySem.W.nsIn K mainGlobals "NoLine" = some (some (.ref Xr)))
  (WH:PySem.W.nsIn K mainGlobals "NoDots" = some (some (.ref Ud)))
  (Xm:PySem.W.nsIn K mainGlobals "NoMap" = some (some (.ref Uu)))
  (WI:PySem.W.nsIn K mainGlobals "TooFew" = some (some (.ref Ue)))
  (Wn:PySem.W.nsIn K mainGlobals "TooMany" = some (some (.ref T7)))
  (Xx:PySem.W.nsIn K mainGlobals "NoSuch" = some (some (.ref Xs)))
  (Uh:PySem.W.nsIn K mainGlobals "MOST_COORDINATE" = some (some (.int (999999999999) tk_MOST_COORDINATE)))
  (Up:PySem.W.nsIn K mainGlobals "MOST_FOR_DEEPEST" = some (some (.int (12) tk_MOST_FOR_DEEPEST)))
  (Wo:PySem.W.excIn K Ue j9 "ValueError.__new__" = true)
  (Xy:PX.xl K Ue=true)
  (Uw:PySem.W.kitOne K (.ref Ue) (.ref Ut)=some true)
  (UU:PySem.W.kitOne K (.ref Ue) (.ref WM)=some false)
  (U7:PySem.W.kitOne K (.ref Ue) (.ref Xr)=some false)
  (U8:PySem.W.kitOne K (.ref Ue) (.ref Ud)=some false)
  (Vp:PySem.W.kitOne K (.ref Ue) (.ref Uu)=some false)
  (U9:PySem.W.kitOne K (.ref Ue) (.ref Ue)=some true)
  (UW:PySem.W.kitOne K (.ref Ue) (.ref T7)=some false)
  (Va:PySem.W.kitOne K (.ref Ue) (.ref Xs)=some false)
  (Ux:PySem.W.kitOne K (.ref Ue) (.type "ValueError")=some true)
  (Uy:PySem.W.exmOne K (.ref Ue) (.ref Ut)=some true)
  (Vb:PySem.W.exmOne K (.ref Ue) (.ref Ue)=some true)
  (V7:PySem.W.excIn K T7 j9 "ValueError.__new__" = true)
  (WV:PX.xl K T7=true)
  (Uq:PySem.W.kitOne K (.ref T7) (.ref Ut)=some true)
  (UM:PySem.W.kitOne K (.ref T7) (.ref WM)=some false)
  (UX:PySem.W.kitOne K (.ref T7) (.ref Xr)=some false)
  (UY:PySem.W.kitOne K (.ref T7) (.ref Ud)=some false)
  (Vd:PySem.W.kitOne K (.ref T7) (.ref Uu)=some false)
  (UZ:PySem.W.kitOne K (.ref T7) (.ref Ue)=some false)
  (UN:PySem.W.kitOne K (.ref T7) (.ref T7)=some true)
  (U0:PySem.W.kitOne K (.ref T7) (.ref Xs)=some false)
  (Ur:PySem.W.kitOne K (.ref T7) (.type "ValueError")=some true)
  (Us:PySem.W.exmOne K (.ref T7) (.ref Ut)=some true)
  (UO:PySem.W.exmOne K (.ref T7) (.ref T7)=some true)
  (WJ:PySem.W.excIn K Uu j9 "ValueError.__new__" = true)
  (Yg:PX.xl K Uu=true)
  (UH:PySem.W.kitOne K (.ref Uu) (.ref Ut)=some true)
  (Ve:PySem.W.kitOne K (.ref Uu) (.ref WM)=some false)
  (Vq:PySem.W.kitOne K (.ref Uu) (.ref Xr)=some false)
  (Vr:PySem.W.kitOne K (.ref Uu) (.ref Ud)=some false)
  (VF:PySem.W.kitOne K (.ref Uu) (.ref Uu)=some true)
  (Vs:PySem.W.kitOne K (.ref Uu) (.ref Ue)=some false)
  (Vf:PySem.W.kitOne K (.ref Uu) (.ref T7)=some false)
  (Vt:PySem.W.kitOne K (.ref Uu) (.ref Xs)=some false)
  (UI:PySem.W.kitOne K (.ref Uu) (.type "ValueError")=some true)
  (UJ:PySem.W.exmOne K (.ref Uu) (.ref Ut)=some true)
  (VG:PySem.W.exmOne K (.ref Uu) (.ref Uu)=some true)
  (Wq:PySem.W.excIn K Ud j9 "ValueError.__new__" = true)
  (Xz:PX.xl K Ud=true)
  (Uz:PySem.W.kitOne K (.ref Ud) (.ref Ut)=some true)
  (U1:PySem.W.kitOne K (.ref Ud) (.ref WM)=some false)
  (Vg:PySem.W.kitOne K (.ref Ud) (.ref Xr)=some false)
  (Vh:PySem.W.kitOne K (.ref Ud) (.ref Ud)=some true)
  (Vu:PySem.W.kitOne K (.ref Ud) (.ref Uu)=some false)
  (Vi:PySem.W.kitOne K (.ref Ud) (.ref Ue)=some false)
  (U2:PySem.W.kitOne K (.ref Ud) (.ref T7)=some false)
  (Vj:PySem.W.kitOne K (.ref Ud) (.ref Xs)=some false)
  (UA:PySem.W.kitOne K (.ref Ud) (.type "ValueError")=some true)
  (UB:PySem.W.exmOne K (.ref Ud) (.ref Ut)=some true)
  (Vk:PySem.W.exmOne K (.ref Ud) (.ref Ud)=some true)
  (hK:PySem.W.codeHdIn K cL TL=true) (hT:PD.tabOf K=some TL)
  (J:PySem.W.nsIn K mainGlobals "abs" = some none) (Y2:PySem.W.nsIn K mainGlobals "all" = some none) (XW:PySem.W.nsIn K mainGlobals "bool" = some none) (N:PySem.W.nsIn K mainGlobals "int" = some none) (U:PySem.W.nsIn K mainGlobals "isinstance" = some none) (a:PySem.W.nsIn K mainGlobals "len" = some none) (X3:PySem.W.nsIn K mainGlobals "list" = some none) (Y4:PySem.W.nsIn K mainGlobals "max" = some none) (Q:PySem.W.nsIn K mainGlobals "min" = some none) (i:PySem.W.nsIn K mainGlobals "range" = some none) (T:PySem.W.nsIn K mainGlobals "set" = some none) (M:PySem.W.nsIn K mainGlobals "sorted" = some none) (L:PySem.W.nsIn K mainGlobals "sum" = some none) (WX:PySem.W.nsIn K mainGlobals "tuple" = some none) (O:PySem.W.nsIn K mainGlobals "zip" = some none) :
  ∃ fd:FuncData,(∀(s:Shared) (v:Value),BindsTo s fd ⟨[v],[]⟩ [("_law_script", v)])/\∀base:Heap,K.In base->base.Ns mainGlobals mg->PD.BMain mg base->aA l.prog w K mg base (CX1 l.prog w) 10 fa fd ["_law_script"] (aD K se):=by
 let e:=B.symm.trans (PySem.W.mg_of X G C);cases e;let J:=PySem.W.mg_none_of X G J;let Y2:=PySem.W.mg_none_of X G Y2;let XW:=PySem.W.mg_none_of X G XW;let N:=PySem.W.mg_none_of X G N;let U:=PySem.W.mg_none_of X G U;let a:=PySem.W.mg_none_of X G a;let X3:=PySem.W.mg_none_of X G X3;let Y4:=PySem.W.mg_none_of X G Y4;let Q:=PySem.W.mg_none_of X G Q;let i:=PySem.W.mg_none_of X G i;let T:=PySem.W.mg_none_of X G T;let M:=PySem.W.mg_none_of X G M;let L:=PySem.W.mg_none_of X G L;let WX:=PySem.W.mg_none_of X G WX;let O:=PySem.W.mg_none_of X G O;let C:U4 K mg ⟨Ut,WM,Xr,Ud,Uu,Ue,T7,Xs⟩:=⟨PySem.W.mg_of X G V3,PySem.W.mg_of X G WU,PySem.W.mg_of X G Xw,PySem.W.mg_of X G WH,PySem.W.mg_of X G Xm,PySem.W.mg_of X G WI,PySem.W.mg_of X G Wn,PySem.W.mg_of X G Xx,⟨_,PySem.W.mg_of X G Uh⟩,⟨_,PySem.W.mg_of X G Up⟩,Wo,PX.cZ.of Xy,Uw,UU,U7,U8,Vp,U9,UW,Va,Ux,Uy,Vb,V7,PX.cZ.of WV,Uq,UM,UX,UY,Vd,UZ,UN,U0,Ur,Us,UO,WJ,PX.cZ.of Yg,UH,Ve,Vq,Vr,VF,Vs,Vf,Vt,UI,UJ,VG,Wq,PX.cZ.of Xz,Uz,U1,Vg,Vh,Vu,Vi,U2,Vj,UA,UB,Vk⟩;calc⟨PySem.W.fnOf "law" "law" (cQ fg) (bZ fg) (aj fg) .none kV76 dc76 pm76 an76 cd76 ct76,λs v=>.of_eq rfl,λbase _ _ B=>?_⟩;let h:=e0.has l.prog w base X G λF=>CO F C XW N U
 let b:=e1.has l.prog w base X G λF=>Nm F C
 let c:=e2.has l.prog w base X G λF=>sF F C J
 let z:=e3.has l.prog w base X G λF=>HX F C c
 let n:=e4.has l.prog w base X G λF=>Fu F C c
 let x:=e5.has l.prog w base X G λF=>Kl F C i
 let y:=e6.has l.prog w base X G λF=>Kp F C
 let p:=e7.has l.prog w base X G λF=>Nl F C b y
 let c:=e8.has l.prog w base X G λF=>CN F C
 let u:=e9.has l.prog w base X G λF=>Fn F C
 let d:=e10.has l.prog w base X G λF=>Nh F C u c n
 let VE:=e11.has l.prog w base X G λF=>HU F C
 let ZG:=e12.has l.prog w base X G λF=>Km F C n
 let j:=e13.has l.prog w base X G λF=>CT F C
 let c:=e14.has l.prog w base X G λF=>Ni F C b
 let ZF:=e15.has l.prog w base X G λF=>Kn F C
 let q:=e16.has l.prog w base X G λF=>Kh F C
 let o:=e17.has l.prog w base X G λF=>Nn F C
 let r:=e18.has l.prog w base X G λF=>Nd F C
 let m:=e19.has l.prog w base X G λF=>Ft F C
 let b:=e20.has l.prog w base X G λF=>Bz F C h
 let Um:=e21.has l.prog w base X G λF=>ua F C b
 let h:=e22.has l.prog w base X G λF=>Fv F C
 let X6:=e23.has l.prog w base X G λF=>CW F C h
 let A:=e24.has l.prog w base X G λF=>BA F C
 let b:=mJ (st:=iJ) l25 c25 I;let k:ni l.prog w K mg base "total" 2 ["dots", "colour"] "colour" (gc _):=⟨_,_,Ko b C A L,PySem.W.mg_of X G a25,I,uU λs b _ _=>BindsTo.of_defaults rfl (b _ _ g) rfl rfl rfl,uT 1 rfl λs b _=>BindsTo.of_defaults rfl (b _ _ g) rfl rfl rfl,vE 1 rfl λs w b _=>BindsTo.of_defaults rfl (b _ _ g) rfl rfl rfl⟩;let g:=mJ (st:=gF) l26 c26 H;let t:ni l.prog w K mg base "weighed" 3 ["dots", "gauge", "colour"] "colour" (fq _):=⟨_,_,Fx g C A j p h,PySem.W.mg_of X G a26,H,uU λs b _ _ _=>BindsTo.of_defaults rfl (b _ _ f) rfl rfl rfl,uT 2 rfl λs b _ _=>BindsTo.of_defaults rfl (b _ _ f) rfl rfl rfl,vE 2 rfl λs w b _ _=>BindsTo.of_defaults rfl (b _ _ f) rfl rfl rfl⟩;let b:=e27.has l.prog w base X G λF=>HV F C Um Y2 U a WX
 let g:=e28.has l.prog w base X G λF=>By F C b
 let f:=e29.has l.prog w base X G λF=>Kk F C
 let s:=e30.has l.prog w base X G λF=>CU F C Um f j h
 let b:=e31.has l.prog w base X G λF=>Nk F C g s
 let A:=e32.has l.prog w base X G λF=>zw F C g f n
 let g:=e33.has l.prog w base X G λF=>Ki F C ZF a
 let f:=e34.has l.prog w base X G λF=>Ng F C g j a T M
 let g:=e35.has l.prog w base X G λF=>xC F C q r VE m
 let s:=e36.has l.prog w base X G λF=>HR F C u g a i
 let g:=e37.has l.prog w base X G λF=>vP F C h
 let n:=e38.has l.prog w base X G λF=>zx F C g x a
 let g:=e39.has l.prog w base X G λF=>BB F C d j h
 let u:=e40.has l.prog w base X G λF=>CV F C t T M
 let H:=e41.has l.prog w base X G λF=>zu F C g n
 let d:=e42.has l.prog w base X G λF=>HW F C J
 let g:=e43.has l.prog w base X G λF=>vO F C o
 let I:=e44.has l.prog w base X G λF=>sE F C g d z
 let g:=e45.has l.prog w base X G λF=>pM F C z o Y4 Q
 let n:=e46.has l.prog w base X G λF=>Fj F C g I d a
 let d:=e47.has l.prog w base X G λF=>ub F C ZG y
 let g:=e48.has l.prog w base X G λF=>Fm F C d p a i
 let p:=e49.has l.prog w base X G λF=>HS F C g
 let d:=e50.has l.prog w base X G λF=>QH F C c a i
 let i:=e51.has l.prog w base X G λF=>xx F C g a
 let g:=e52.has l.prog w base X G λF=>CK F C L O
 let c:=e53.has l.prog w base X G λF=>Nf F C n g i x X3 O
 let i:=e54.has l.prog w base X G λF=>zq F C
 let g:=e55.has l.prog w base X G λF=>CS F C
 let n:=e56.has l.prog w base X G λF=>xw F C i g H u
 let g:=e57.has l.prog w base X G λF=>Nj F C
 let i:=e58.has l.prog w base X G λF=>Fp F C f X6
 let f:=e59.has l.prog w base X G λF=>uc F C p i d g k
 let p:=e60.has l.prog w base X G λF=>HY F C n f k
 let u:=e61.has l.prog w base X G λF=>sG F C f k a
 let d:=e62.has l.prog w base X G λF=>vR F C c s i g k
 let g:=e63.has l.prog w base X G λF=>Fo F C u n f d a
 let d:=e64.has l.prog w base X G λF=>vQ F C t
 let f:=e65.has l.prog w base X G λF=>Fw F C q r j h
 let i:=e66.has l.prog w base X G λF=>CL F C m o
 let c:=mJ (st:=cY) l67 c67 E;let h:UT l.prog w K mg base "lightest" 7 ["dots", "place"] (i9 _):=⟨_,_,CQ c B rfl hK hT C VE i m d f a Q,PySem.W.mg_of X G a67,E,.all λus c=>(by let⟨u0,u1,e⟩:=Qr c;subst e;rfl)⟩;let e:=e68.has l.prog w base X G λF=>Kj F C h d
 let c:=e69.has l.prog w base X G λF=>xA F C a
 let h:=e70.has l.prog w base X G λF=>xB F C J
 let d:=e71.has l.prog w base X G λF=>Fq F C N
 let f:=e72.has l.prog w base X G λF=>CP F C c d
 let i:=e73.has l.prog w base X G λF=>zr F C h
 let d:=e74.has l.prog w base X G λF=>qu F C i a
 let a:=e75.has l.prog w base X G λF=>Fs F C c
 calc QG (mJ (st:=fg) Y c76 k76) C c f d a g e p b A M L
end LW
def PySem.W.Fast.te2355076562304067382:True:=trivial
def PySem.W.Fast.te13052408679150730464:True:=trivial
def PySem.W.Fast.tw717911024106786659:PySem.Program:=PySem.Challenge.pw_halvecut_k56_depths_move_along
theorem PySem.W.Fast.te717911024106786659:PySem.Challenge.pw_halvecut_k56_depths_move_along=PySem.W.Fast.tw717911024106786659:=rfl
namespace PySem.W.Fast
def tw16392176136657624347:=()
def tw12912841795753293602:=()
def tw14473023297085727322:=()
def tw11930589789026392094:=()
def tw2028001170969897000:=()
def tw3651818037644818182:=()
def tw6327337528166731098:=()
def tw701610417699632253:=()
end PySem.W.Fast
open PySem PySem.W PyProof.Rows
set_option maxRecDepth 100000 in
set_option maxHeartbeats 0 in
theorem PySem.Challenge.cw_halvecut_k56_depths_move_along_holds : PySem.Challenge.rw_halvecut_k56_depths_move_along.Holds := by
 w_on; o_law; k_head; (case hw => w_witness2)
 k_fill
 refine PD.SH (l := PySem.Challenge.rw_halvecut_k56_depths_move_along) (k := 10) (x := "_law_script") (c0 := 546) (T := 544) rfl rfl ⟨rfl, by decide, by decide⟩ (λw h Y => ⟨PySem.W.km_in_of Y, PySem.W.km_tabs_of Y _ (.head _)⟩) ?wk ?wc ?wt ?F
 (case wk => intro w; kernel_rfl)
 (case wc => intro w; kernel_rfl)
 (case wt => intro w; kernel_rfl)
 case F =>
  intro w d e h b G a
  refine' LW.all_mk (cL := 546) (TL := 544) b G a ?e0 ?e1 ?e2 ?e3 ?e4 ?e5 ?e6 ?e7 ?e8 ?e9 ?e10 ?e11 ?e12 ?e13 ?e14 ?e15 ?e16 ?e17 ?e18 ?e19 ?e20 ?e21 ?e22 ?e23 ?e24 ?a25 ?l25 ?c25 ?k25 ?t25 ?a26 ?l26 ?c26 ?k26 ?t26 ?e27 ?e28 ?e29 ?e30 ?e31 ?e32 ?e33 ?e34 ?e35 ?e36 ?e37 ?e38 ?e39 ?e40 ?e41 ?e42 ?e43 ?e44 ?e45 ?e46 ?e47 ?e48 ?e49 ?e50 ?e51 ?e52 ?e53 ?e54 ?e55 ?e56 ?e57 ?e58 ?e59 ?e60 ?e61 ?e62 ?e63 ?e64 ?e65 ?e66 ?a67 ?l67 ?c67 ?k67 ?e68 ?e69 ?e70 ?e71 ?e72 ?e73 ?e74 ?e75 ?a76 ?l76 ?c76 ?k76 ?V3 ?WU ?Xw ?WH ?Xm ?WI ?Wn ?Xx ?Uh ?Up ?Wo ?Xy ?Uw ?UU ?U7 ?U8 ?Vp ?U9 ?UW ?Va ?Ux ?Uy ?Vb ?V7 ?WV ?Uq ?UM ?UX ?UY ?Vd ?UZ ?UN ?U0 ?Ur ?Us ?UO ?WJ ?Yg ?UH ?Ve ?Vq ?Vr ?VF ?Vs ?Vf ?Vt ?UI ?UJ ?VG ?Wq ?Xz ?Uz ?U1 ?Vg ?Vh ?Vu ?Vi ?U2 ?Vj ?UA ?UB ?Vk ?hK ?hT ?Wr ?Y2 ?XW ?Xa ?Uc ?TX ?X3 ?Y4 ?XM ?UC ?XJ ?UK ?WK ?WX ?XN
  all_goals try (refine' PD.FL.mk ?a ?l ?c ?k; (case a => k_is); (case l => k_is); (case c => k_is); (case k => k_is))
  (case a25 => k_is)
  (case l25 => k_is)
  (case c25 => k_is)
  (case k25 => k_is)
  (case t25 => k_is)
  (case a26 => k_is)
  (case l26 => k_is)
  (case c26 => k_is)
  (case k26 => k_is)
  (case t26 => k_is)
  (case a67 => k_is)
  (case l67 => k_is)
  (case c67 => k_is)
  (case k67 => k_is)
  (case a76 => k_is)
  (case l76 => k_is)
  (case c76 => k_is)
  (case k76 => k_is)
  (case V3 => k_is)
  (case WU => k_is)
  (case Xw => k_is)
  (case WH => k_is)
  (case Xm => k_is)
  (case WI => k_is)
  (case Wn => k_is)
  (case Xx => k_is)
  (case Uh => k_is)
  (case Up => k_is)
  (case Wo => kernel_rfl)
  (case Xy => kernel_rfl)
  (case Uw => kernel_rfl)
  (case UU => kernel_rfl)
  (case U7 => kernel_rfl)
  (case U8 => kernel_rfl)
  (case Vp => kernel_rfl)
  (case U9 => kernel_rfl)
  (case UW => kernel_rfl)
  (case Va => kernel_rfl)
  (case Ux => kernel_rfl)
  (case Uy => kernel_rfl)
  (case Vb => kernel_rfl)
  (case V7 => kernel_rfl)
  (case WV => kernel_rfl)
  (case Uq => kernel_rfl)
  (case UM => kernel_rfl)
  (case UX => kernel_rfl)
  (case UY => kernel_rfl)
  (case Vd => kernel_rfl)
  (case UZ => kernel_rfl)
  (case UN => kernel_rfl)
  (case U0 => kernel_rfl)
  (case Ur => kernel_rfl)
  (case Us => kernel_rfl)
  (case UO => kernel_rfl)
  (case WJ => kernel_rfl)
  (case Yg => kernel_rfl)
  (case UH => kernel_rfl)
  (case Ve => kernel_rfl)
  (case Vq => kernel_rfl)
  (case Vr => kernel_rfl)
  (case VF => kernel_rfl)
  (case Vs => kernel_rfl)
  (case Vf => kernel_rfl)
  (case Vt => kernel_rfl)
  (case UI => kernel_rfl)
  (case UJ => kernel_rfl)
  (case VG => kernel_rfl)
  (case Wq => kernel_rfl)
  (case Xz => kernel_rfl)
  (case Uz => kernel_rfl)
  (case U1 => kernel_rfl)
  (case Vg => kernel_rfl)
  (case Vh => kernel_rfl)
  (case Vu => kernel_rfl)
  (case Vi => kernel_rfl)
  (case U2 => kernel_rfl)
  (case Vj => kernel_rfl)
  (case UA => kernel_rfl)
  (case UB => kernel_rfl)
  (case Vk => kernel_rfl)
  (case hK => kernel_rfl)
  (case hT => kernel_rfl)
  (case Wr => k_is)
  (case Y2 => k_is)
  (case XW => k_is)
  (case Xa => k_is)
  (case Uc => k_is)
  (case TX => k_is)
  (case X3 => k_is)
  (case Y4 => k_is)
  (case XM => k_is)
  (case UC => k_is)
  (case XJ => k_is)
  (case UK => k_is)
  (case WK => k_is)
  (case WX => k_is)
  (case XN => k_is)
