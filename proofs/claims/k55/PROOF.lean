import PyProof.Rows.All
import Wide.All
import OpenK.AllK
import Wide.FinOn
import Lean
import PyProof.EqAt
import PyProof.EqKinds
import PyProof.TupleCall
import PySem.Challenge.RW_halvecut_k55_whole_the_deepest
set_option compiler.extract_closed false
set_option bootstrap.genMatcherCode false
set_option tactic.hygienic false
def cV(n:Nat)(t:Lean.Term):Lean.MacroM (Lean.TSyntax `rcasesPat):=match n with
 |0=>`(rcasesPat|_)
 |n+1=>match t with
  |`(⟨$x,*⟩)=>do `(rcasesPat|⟨$[$(←x.getElems.mapM (cV n)):rcasesPat],*⟩)
  |`($i:ident)=>`(rcasesPat|$i:ident)
  |_=>`(rcasesPat|_)
local macro_rules|`(tactic|let $d:letDecl)=>`(tactic|have $d:letDecl)
local macro_rules|`(tactic|let $p:term:=$e)=>do `(tactic|obtain $(←cV 99 p):rcasesPat:=$e)
local macro_rules|`(tactic|calc $e:term)=>`(tactic|refine $e)
local macro_rules|`(tactic|cbv)=>`(tactic|simp_all)
local macro_rules|`(tactic|ext $p*)=>`(tactic|unfold $(p.map λx=>⟨x.raw[0][0]⟩)*)
local macro_rules|`(#[$x])=>`(($x).length)
local macro_rules|`(29)=>`(by decide)|`(35)=>`(by lia)|`(46)=>`(by simp_all)|`(52)=>`(by simp)|`(72)=>`(by grind)|`(85)=>`(by kernel_rfl)|`(86)=>`(by intro z;cases z)
set_option Elab.async false
set_option linter.all false set_option autoImplicit true set_option relaxedAutoImplicit true
set_option maxRecDepth 100000
noncomputable section
abbrev yaa:=PySem.Value->PySem.Shared->Prop
abbrev yab:=List (PySem.Addr×PySem.Obj)
abbrev yac:=PySem.W.Frag
abbrev yad:=List PySem.Value
abbrev yae:=List PySem.Addr
abbrev yaf:=List Int
abbrev yag:=List Nat
abbrev yah:=List PySem.Str
abbrev yai:=List PySem.Expr
abbrev yaj:=Nat->Option PySem.Addr
abbrev yak:=Bool->PySem.Addr->Prop
abbrev yal:=List PySem.Stmt
abbrev yam:=PySem.Str->Option PySem.Value
abbrev yan:=Option PySem.Value
abbrev yao:=Array PySem.Value
abbrev yap:=Array Nat
abbrev yaq:=Option Int
def Rm:=@PySem.wpAny_bind
def RG:=@List.length_map
def Rz:=@PySem.wpAny_pure
def T5:=@List.getElem?_eq_getElem
def Rr:=@if_pos
def Sd:=@Nat.le_trans
def T6:=@PySem.Heap.get?_push_of_some
def Tp:=@Nat.lt_of_lt_of_le
def S7:=@List.mem_append
def SG:=@List.mem_map
def SJ:=@PySem.Heap.lt_size
def Sx:=@Nat.le_refl
def S8:=@List.mem_cons
def Uz:=@Array.getElem?_toList
def Tc:=@Int.le_of_lt
def Tx:=@Int.mul_nonneg
def UX:=@List.mem_of_getElem?
def U1:=@List.mem_cons_of_mem
def Sk:=@PyProof.Rows.wpS_bind
def So:=@PyProof.Rows.wpS_pure
def VE:=@List.getElem?_eq_some_iff
def UQ:=@List.length_append
def UR:=@List.getElem?_map
def Tq:=@PySem.sizeLine_eq
def Vm:=@List.getElem?_set_ne
def Vj:=@PySem.Heap.get?_push_size
def Wo:=@List.getD_eq_getElem?_getD
def VA:=@List.mem_append_right
def WH:=@List.getElem?_append_right
def Vp:=@List.mem_singleton
def WR:=@List.getElem?_append_left
def VM:=@Array.length_toList
def Uv:=@Nat.ne_of_lt
def U6:=@decide_eq_true
def UA:=@List.map_map
def UD:=@Nat.le_of_lt
def Uw:=@Nat.zero_le
def XF:=@Int.mul_neg_of_pos_of_neg
def VB:=@List.map_append
def XS:=@Int.mul_neg_of_neg_of_pos
def Wh:=@of_decide_eq_true
def VT:=@Nat.le_add_right
def Vq:=@List.map_cons
def VN:=@Int.mul_eq_zero
def Xe:=@List.mem_append_left
def XG:=@List.take_of_length_le
def U7:=@Int.neg_mul
def WI:=@List.append_assoc
def WJ:=@List.size_toArray
def Wq:=@List.length_take
def XH:=@List.take_append_drop
def Xf:=@Nat.lt_of_le_of_lt
def Xn:=@List.filter_eq_self
def VF:=@Int.mul_comm
def Z5:=@Int.nonneg_of_mul_nonneg_right
def VU:=@PySem.wpAny_holding
def Xg:=@List.length_drop
def XT:=@List.getElem_of_mem
def VX:=@Int.add_zero
def Zd:=@List.pairwise_iff_getElem
def zA8:=@Int.mul_nonpos_of_nonpos_of_nonneg
def Xo:=@List.length_cons
def Xp:=@Nat.mod_eq_of_lt
def XU:=@List.mem_cons_self
def VY:=@PySem.wpAny_field
def YS:=@PySem.Heap.get?_update_self
def Ze:=@PySem.Heap.get?_update_other
def Wi:=@Int.mul_pos
def Zf:=@List.getElem?_set_self
def Zg:=@Option.map_eq_some_iff
def VO:=@Int.not_le
def XW:=@List.getElem_mem
def YT:=@List.pairwise_append
def VP:=@PySem.wpAny_mono
def Yf:=@Nat.lt_of_succ_lt
def zBN:=@List.eq_nil_of_length_eq_zero
def YU:=@Nat.add_le_add_left
def zBP:=@Array.getElem?_eq_getElem
def zBQ:=@Classical.byContradiction
def zBR:=@Int.mul_pos_of_neg_of_neg
def Yg:=@List.getElem_map
def Yw:=@Nat.le_of_lt_succ
def YV:=@Nat.lt_of_le_of_ne
def Yh:=@List.mem_filter
def Yi:=@Nat.min_eq_left
def Yj:=@Option.some.inj
def WS:=@Int.le_refl
def YW:=@List.cons_append
def zBa:=@PySem.wpAny_callSpecial?_slot
def zBb:=@Int.mul_nonneg_of_nonpos_of_nonpos
def YX:=@PySem.wpAny_setState_of
def Xq:=@PyProof.Rows.wpS_forRange
def Z6:=@Array.toList_extract
def zBf:=@List.drop_eq_getElem_cons
def Zh:=@List.pairwise_cons
def Yx:=@List.append_nil
def XI:=@Int.mul_zero
def XJ:=@Nat.le_of_eq
def YY:=@PySem.wpAny_call_entry
def zBl:=@Nat.add_sub_cancel_left
def Yy:=@PySem.wpAny_seqItems
def Z7:=@List.length_range'
def Zi:=@List.nil_append
def Xh:=@Nat.not_lt
def Z8:=@PySem.wpAny_Call_Name_kw
def Zj:=@List.lookup_cons
def zBs:=@List.sublist_append_right
def zBt:=@List.length_reverse
def Xr:=@Nat.sub_le
def Z9:=@PySem.wpAny_newObj_type
def zBw:=@List.dropLast_concat_getLast
def Yk:=@Nat.ne_of_gt
def Yl:=@Nat.zero_add
def Wr:=@PySem.boot_len
def Zk:=@Nat.le_antisymm
def XM:=@Int.not_lt
def zB2:=@List.mem_of_mem_drop
def zB3:=@List.mem_of_mem_take
def zB4:=@Nat.sub_one_lt_of_lt
def zB5:=@List.singleton_sublist
def zB6:=@Array.toList_append
def zB7:=@PySem.Heap.SameBut.update
def zB8:=@List.exists_mem_of_ne_nil
def zB9:=@List.nodup_cons
def zCA:=@Int.natAbs_dvd_natAbs
def zCB:=@List.getElem?_eq_none
def zCC:=@List.getLast?_eq_some_getLast
def zCD:=@Bool.and_eq_true
def zCE:=@Bool.false_ne_true
def YZ:=@Int.zero_mul
def zCG:=@List.not_mem_nil
def zCH:=@List.take_length
def Zm:=@Nat.lt_irrefl
def zCJ:=@Int.lt_trichotomy
def zCK:=@Int.mul_nonpos_of_nonneg_of_nonpos
def zCL:=@Nat.lt_trichotomy
def Xs:=@PyProof.Rows.wpS_mono
def zCN:=@List.length_set
def zCO:=@PySem.codeAny_builtin
def Y0:=@Int.one_mul
def zCQ:=@List.mem_flatMap
def zCR:=@List.mem_reverse
def zCS:=@Nat.lt_succ_self
def zCT:=@Bool.false_eq_true
def zCU:=@Int.natAbs_mul
def zCV:=@PySem.wpAny_setField_rec
def zCW:=@List.extract_eq_take_drop
def zCX:=@List.getLastD_eq_getLast?
def zCY:=@List.length_dropLast
def zCZ:=@Nat.add_le_add_right
def zCa:=@Nat.le_sub_one_of_lt
def Y1:=@PySem.wpAny_rule
def zCc:=@Array.toList_push
def zCd:=@PySem.wpAny_attempt
def zCe:=@List.drop_append_of_le_length
def zCf:=@List.getElem?_replicate
def zCg:=@List.length_pos_iff
def zCh:=@Nat.le_of_not_lt
def zCi:=@Nat.succ_le_succ
def zCj:=@PySem.wpAny_execs_cons
def zCk:=@PySem.wpAny_isInstance
def Zn:=@Nat.mod_lt
def zCm:=@List.append_of_mem
def zCn:=@List.getElem?_drop
def zCo:=@Nat.lt_or_eq_of_le
def zCp:=@Nat.pow_succ
def zCq:=@List.length_singleton
def zCr:=@PySem.wpAny_passesOwn
def zCs:=@Array.perm_iff_toList_perm
def zCt:=@Int.dvd_trans
def zCu:=@Int.lt_irrefl
def zCv:=@List.sum_cons
def zCw:=@Nat.add_assoc
def zCx:=@Nat.le_of_dvd
def zCy:=@List.mem_range'_1
def zCz:=@List.reverse_cons
def zC0:=@PySem.wpAny_truthy_bool
def zC1:=@List.getElem?_zip_eq_some
def zC2:=@Nat.pow_le_pow_right
def zC3:=@PyProof.Rows.wpS_modify
def zC4:=@PySem.Heap.size_push
def zC5:=@List.filterMap_cons_some
def zC6:=@Nat.add_comm
def zC7:=@PySem.wpAny_comprehension_free
def zC8:=@List.map_congr_left
def zC9:=@List.reverse_append
def zDA:=@PySem.Heap.IsTupleIter.typeIs
def zDB:=@Int.dvd_coe_gcd
def zDC:=@List.getElem?_take
def zDD:=@List.mem_filterMap
def zDE:=@Nat.pos_of_ne_zero
def zDF:=@PySem.wpAny_specialOf
def zDG:=@PySem.wpAny_updateSeq
def zDH:=@Int.fmod_nonneg_of_pos
def zDI:=@Nat.eq_zero_of_not_pos
def zDJ:=@Int.mul_le_mul_of_nonneg_left
def zDK:=@List.pairwise_map
def zDL:=@List.take_sublist
def zDM:=@Nat.add_mod_right
def zDN:=@Nat.lt_succ_of_lt
def zDO:=@Nat.sub_pos_of_lt
def zDP:=@Int.le_trans
def zDQ:=@List.take_succ
def zDR:=@Nat.add_le_of_le_sub'
def zDS:=@Nat.sub_self
def zDT:=@PySem.wpAny_setField
def zDU:=@Int.gcd_mul_left
def zDV:=@List.all_eq_true
def zDW:=@Nat.lt_of_not_le
def zDX:=@Array.getElem?_eq_some_iff
def zDY:=@PySem.plainId_quiet
def zDZ:=@PySem.wpAny_standAt
def zDa:=@List.filterMap_cons
def zDb:=@Int.eq_of_mul_eq_mul_left
def zDc:=@List.getLast?_eq_none_iff
def zDd:=@List.ne_nil_of_length_pos
def zDe:=@List.of_mem_zip
def zDf:=@Nat.not_lt_zero
def zDg:=@Int.zero_add
def zDh:=@List.map_nil
def zDi:=@Nat.add_right_comm
def zDj:=@Nat.succ_pos
def zDk:=@List.drop_drop
namespace L2
open PySem PySem.Spec PyProof.Rows
abbrev Key:=Sum Int Str
def rF:Key->Value->Bool
 |.inl k,v=>Value.isInt k v
 |.inr x,v=>Value.isStrOf x v
def Q0(w:World):Key->Int
 |.inl k=>hashInt k
 |.inr x=>hashStr w x
def cB:∀{k:Key} {v:Value},rF k v=true->(∃i t,k=Sum.inl i/\v=Value.int i t)∨(∃x t,k=Sum.inr x/\v=Value.str x t)
 |.inl i,v,h=>by
  let⟨t,e⟩:=Value.isInt_shape (k:=i) (v:=v) h
  cbv
 |.inr x,v,h=>by
  let⟨t,e⟩:=Value.isStrOf_shape (x:=x) (v:=v) h
  cbv
def Gz(i:Int)(t:Tok):rF (.inl i) (.int i t)=true:=by simp[rF,Value.isInt]
def GA(x:Str)(t:Tok):rF (.inr x) (.str x t)=true:=by simp[rF,Value.isStrOf]
def OK(a b:Int):decide ((Sum.inl a:Key)=Sum.inl b)=(a==b):=35
def OL(a b:Str):decide ((Sum.inr a:Key)=Sum.inr b)=decide (a=b):=35
def cq(prog:Program)(w:World):PySem.KeyKind prog w Key where
 is:=rF
 hash:=Q0 w
 inj:=λv a b b a=>by
  rcases cB b with⟨i,t,rfl,rfl⟩| ⟨x,t,rfl,rfl⟩
  ·rcases cB a with⟨j,u,rfl,e⟩| ⟨y,u,rfl,e⟩
   all_goals lia
  ·rcases cB a with⟨j,u,rfl,e⟩| ⟨y,u,rfl,e⟩
   all_goals lia
 byValue:=λk v h=>by
  rcases cB h with⟨i,t,rfl,rfl⟩| ⟨x,t,rfl,rfl⟩<;>rfl
 pyHash:=λhv h=>by
  rcases cB hv with⟨i,t,rfl,rfl⟩| ⟨x,t,rfl,rfl⟩;calc wpAny_pyHash_int h;exact wpAny_pyHash_str h
 eqBool:=λa hv h=>by
  rcases cB a with⟨i,t,rfl,rfl⟩| ⟨x,t,rfl,rfl⟩;rcases cB hv with⟨j,u,rfl,rfl⟩| ⟨y,u,rfl,rfl⟩;rw[OK]at h;calc wpAny_eqBool_int h;calc SeqAt.EqAt.int_str i t y u _ _ _ _ h;rcases cB hv with⟨j,u,rfl,rfl⟩| ⟨y,u,rfl,rfl⟩;exact SeqAt.EqAt.str_int x t j u _ _ _ _ h
  simp_all [OL,wpAny_eqBool_str]
 «strs»:=λk x t v h=>by
  rcases cB h with⟨i,u,rfl,e⟩| ⟨y,u,rfl,e⟩
  lia
  injection e with e1 _;subst e1;cases v<;>rfl
def BP(prog:Program)(w:World)(i:Int)(t:Tok):(cq prog w).is (.inl i) (.int i t)=true:=Gz i t
def BQ(prog:Program)(w:World)(x:Str)(t:Tok):(cq prog w).is (.inr x) (.str x t)=true:=GA x t
inductive V where
 |RZ|bl (b:Bool)|int (i:Int)|str (x:Str)|Zo (b:Array UInt8)|flt (b:UInt64)|ref (a:Addr)|ty (n:String)
 deriving DecidableEq
abbrev yar:=List V
def RelV:V->Value->Prop
 |.RZ,u=>u=Value.none
 |.bl b,u=>u=Value.bool b
 |.int i,u=>∃t,u=Value.int i t
 |.str x,u=>∃t,u=Value.str x t
 |.Zo b,u=>∃t,u=Value.bytes b t
 |.flt b,u=>∃t,u=Value.float b t
 |.ref a,u=>u=Value.ref a
 |.ty n,u=>u=Value.type n
abbrev Vals:yar->yad->Prop:=Paired RelV
theorem Vals.length(r:Vals xs us):#[xs]=#[us]:=Paired.length r
theorem Vals.get:∀{xs:yar} {a:yad} {i:Nat} {x:V},Vals xs a->xs[i]?=some x->∃u,a[i]?=some u/\RelV x u
 |_,_,_,_,.nil,e=>by simp at e
 |_,_,0,_,.cons r _,e=>by simp at e;subst e;calc⟨_,rfl,r⟩
 |_,_,i+1,x,.cons _ t,e=>by let⟨u,b,a⟩:=Vals.get (i:=i) (x:=x) t (by simpa using e);calc⟨u,by simpa using b,a⟩
theorem Vals.set(r:RelV x u):∀{xs:yar} {a:yad} (i:Nat),Vals xs a->Vals (xs.set i x) (a.set i u)
 |_,_,_,.nil=>.nil
 |_,_,0,.cons _ t=>.cons r t
 |_,_,i+1,.cons q t=>.cons q (Vals.set r i t)
theorem Vals.append:∀{xs ys:yar} {a ws:yad},Vals xs a->Vals ys ws->Vals (xs++ys) (a++ws)
 |_,_,_,_,.nil,s=>s
 |_,_,_,_,.cons r t,s=>.cons r (Vals.append t s)
theorem Vals.take:∀{xs:yar} {a:yad} (n:Nat),Vals xs a->Vals (xs.take n) (a.take n)
 |_,_,0,_=>.nil
 |_,_,_+1,.nil=>.nil
 |_,_,n+1,.cons r t=>.cons r (Vals.take n t)
theorem Vals.drop:∀{xs:yar} {a:yad} (n:Nat),Vals xs a->Vals (xs.drop n) (a.drop n)
 |_,_,0,r=>r
 |_,_,_+1,.nil=>.nil
 |_,_,n+1,.cons _ t=>Vals.drop n t
def Vals.none_of:∀{xs:yar} {a:yad} {i:Nat},Vals xs a->xs[i]?=none->a[i]?=none:=fun {xs a i} r e=>by
 let b:=#[r]
 cbv
def lL:Option V->yan->Prop
 |some v,some u=>RelV v u
 |none,none=>True
 |_,_=>False
def KV{κ:Type}:List (κ×V)->List (κ×Value)->Prop:=Paired λ(p:κ×V) (q:κ×Value)=>p.1=q.1/\RelV p.2 q.2
def kV:Key->V
 |.inl i=>.int i
 |.inr x=>.str x
inductive HO where
 |lst (xs:yar)
 |tup (xs:yar)
 |dK (kvs:List (Key×V))|dT (kvs:List (List Key×V))
 |set (S:Int->Bool) (n:Nat)
 |ins (C dx:Addr) (fs:List (Str×V))
 |own (x:Addr)
 |xd (fs:List (Str×V))
 |met (f x:Addr)
 |rng (lo hi:Int)
 |frz (o:Obj) (u:HO)
 |Xi (ps:yao)
 |ext (φ:Heap->Prop)
abbrev Hp:=Addr->Option HO
def upd(H:Hp)(a:Addr)(o:HO):Hp:=λb=>if b=a then some o else H b
theorem aQ:upd H a o a=some o:=by ext upd;rw[Rr rfl]
theorem aC{a b:Addr}(h:b≠a):upd H a o b=H b:=by ext upd;rw[if_neg h]
def nV{H:Hp}{o u:HO}(h:H a=some o)(h':H b=some u)(d:o≠u):a≠b:=35
def gO{H:Hp}{o:HO}(h:H a=some o)(h':H b=none):a≠b:=35
section
variable(P:Program)(w:World)
def bG(H:Hp)(h:Heap)(a:Addr):HO->Prop
 |.lst c=>#[c]<=sizeLine/\∃(b:yad) (n:Nat),Vals c b/\h.get? a=some {cls:=.type "list", data:=.seq b.toArray n}
 |.tup c=>#[c]<=sizeLine/\∃b:yad,Vals c b/\IsTup h a b.toArray
 |.dK b=>#[b]<=sizeLine/\(a==sysModules)=false/\∃d,KV b d/\h.DictOf (cq P w) a d
 |.dT b=>#[b]<=sizeLine/\(a==sysModules)=false/\∃c:List (List Key×Addr×Value),
   Paired (λ(p:List Key×V) (q:List Key×Addr×Value)=>p.1=q.1/\H q.2.1=some (.tup (p.1.map kV))/\RelV p.2 q.2.2) b c ∧
   ∃ o b d,h.get? a=some o/\o.ExactDict/\o.data=.dict b d/\b.toList=c.map (entryOfKey (tupleKind (cq P w)))/\(c.map (·.1)).Nodup
 |.set S n=>h.SetOf (intKind P w) a S n
 |.ins C d c=>H d=some (.own a)/\#[c]<=1000/\d≠a/\h.get? a=some (PySem.W.instObj C d) ∧
   ∃ b,h.Ns1 d b/\(∀f,lL (c.lookup f) (b f))/\PySem.Within b (c.map (·.1))
 |.own _=>∃o,h.get? a=some o
 |.xd c=>∃b,h.Ns1 a b/\∀f,lL (c.lookup f) (b f)
 |.rng lo b=>∃t u v,h.get? a=some {cls:=.type "range", data:=.fields #[.int lo t,.int b u,.int 1 v]}
 |.frz o u=>h.get? a=some o/\bG H h a u
 |.Xi b=>h.get? a=some {cls:=.none,data:=.fields b}
 |.met f x=>h.get? a=some (PySem.W.methodObj (.ref f) (.ref x))
 |.ext b=>b h/\(∃o,h.get? a=some o)/\∀d c:Heap,b d->(∀o,d.get? a=some o->c.get? a=some o)->b c
def UB(H:Hp)(h:Heap):Prop:=∀a o,H a=some o->bG P w H h a o
end
section
variable{P:Program}{w:World}{H H':Hp}{h h':Heap}{a:Addr}{o:HO}
theorem bG.lt(x:bG P w H h a o):a<h.objs.size:=by
 cases o with
 |lst b=>let⟨_,_,_,_,e⟩:=x;calc SJ e
 |tup b=>let⟨_,_,_,p⟩:=x;calc p.lt
 |dK b=>let⟨_,_,_,_,o,_,_,e,_⟩:=x;calc SJ e
 |dT b=>let⟨_,_,_,_,o,_,_,e,_⟩:=x;calc SJ e
 |set S n=>let⟨o,_,_,_,e,_⟩:=x;calc SJ e
 |ins C i b=>let⟨_,_,_,e,_⟩:=x;calc SJ e
 |own y=>let⟨_,e⟩:=x;calc SJ e
 |xd b=>let⟨_,⟨_,_,_,e,_⟩,_⟩:=x;calc SJ e
 |rng lo g=>let⟨_,_,_,e⟩:=x;calc SJ e
 |frz ob u=>let⟨e,_⟩:=x;calc SJ e
 |Xi d=>calc SJ (show h.get? a=some _ from x)
 |met f y=>calc SJ (show h.get? a=some _ from x)
 |ext c=>let⟨_,⟨_,e⟩,_⟩:=x;calc SJ e
theorem Paired.mapP{d c:Type}{F G:d->c->Prop}:∀{l₁:List d} {l₂:List c},Paired F l₁ l₂->(∀a b,F a b->G a b)->Paired G l₁ l₂
 |_,_,.nil,_=>.nil
 |_,_,.cons r t,f=>.cons (f _ _ r) (Paired.mapP t f)
def bG.VZ(x:bG P w H h a o)(k:∀b u,(b=a∨H b=some (.own a))->h.get? b=some u->h'.get? b=some u)
  (m:∀b,H b=some (.own a)->H' b=some (.own a)) (j:∀b xs,H b=some (.tup xs)->H' b=some (.tup xs)):bG P w H' h' a o:=by
 induction o with
 |lst xs=>let⟨z,d,n,r,e⟩:=x;calc⟨z,d,n,r,k _ _ (.inl rfl) e⟩
 |tup xs=>let⟨z,d,r,b,e,c⟩:=x;calc⟨z,d,r,b,k _ _ (.inl rfl) e,c⟩
 |dK d=>let⟨z,y,i,r,b,f,g,e,c⟩:=x;calc⟨z,y,i,r,b,f,g,k _ _ (.inl rfl) e,c⟩
 |dT d =>
  let⟨z,y,xs,r,b,f,g,e,c⟩:=x;calc⟨z,y,xs,Paired.mapP r λp q z=>⟨z.1,j _ _ z.2.1,z.2.2⟩,b,f,g,k _ _ (.inl rfl) e,c⟩
 |set S n=>let⟨b,f,g,t,e,c⟩:=x;calc⟨b,f,g,t,k _ _ (.inl rfl) e,c⟩
 |ins C E n =>
  let⟨d,z,l,e,j,⟨i,f,g,s,c⟩,r⟩:=x;calc⟨m _ d,z,l,k _ _ (.inl rfl) e,j,⟨i,f,g,k _ _ (.inr d) s,c⟩,r⟩
 |own y=>let⟨b,e⟩:=x;calc⟨b,k _ _ (.inl rfl) e⟩
 |xd n=>let⟨j,⟨i,f,g,e,c⟩,r⟩:=x;calc⟨j,⟨i,f,g,k _ _ (.inl rfl) e,c⟩,r⟩
 |rng lo B=>let⟨t,u,v,e⟩:=x;calc⟨t,u,v,k _ _ (.inl rfl) e⟩
 |frz b u ih=>let⟨e,q⟩:=x;calc⟨k _ _ (.inl rfl) e,ih q⟩
 |Xi b =>
  let e:h.get? a=some {cls:=.none,data:=.fields b}:=x;show h'.get? a=some {cls:=.none,data:=.fields b};calc k a _ (.inl rfl) e
 |met f y =>
  let e:h.get? a=some (PySem.W.methodObj (.ref f) (.ref y)):=x;show h'.get? a=some (PySem.W.methodObj (.ref f) (.ref y));calc k a _ (.inl rfl) e
 |ext A=>let⟨p,⟨o,e⟩,st⟩:=x;calc⟨st _ _ p λo q=>k _ _ (.inl rfl) q,⟨o,k _ _ (.inl rfl) e⟩,st⟩
theorem UB.lt(x:UB P w H h)(e:H a=some o):a<h.objs.size:=(x a o e).lt
def UB.fresh(x:UB P w H h)(e:h.objs.size<=a):H a=none:=by
 cases q:H a with
 |none=>rfl
 |some u=>calc absurd (Tp (x.lt q) e) (Zm _)
def UB.kept(x:UB P w H h)(k:∀b u,h.get? b=some u->h'.get? b=some u):UB P w H h':=λa o e =>
 (x a o e).VZ 72 35 35
def UB.laid(x:UB P w H h)(k:∀b u,h.get? b=some u->h'.get? b=some u)(c:h.objs.size<=a)(d:bG P w (upd H a o) h' a o):UB P w (upd H a o) h':=λb u e=>by let g:=x.fresh c;by_cases c:b=a;grind [aQ];rw[aC c]at e;calc(x b u e).VZ 72 (λc q=>by rw[aC 35];calc q) λc f q=>by rw[aC 35];calc q
end
def Rd(H:Hp)(a:Addr)(u:HO):Prop:=H a=some u∨∃ o,H a=some (.frz o u)
def Rd.ok(r:Rd H a u)(x:UB P w H h):bG P w H h a u:=by
 obtain r|⟨o,r⟩:=r;calc x a u r;let⟨_,q⟩:=x a _ r;calc q
def Mut:Option HO->Prop
 |some (.lst _)=>True
 |some (.dK _)=>True
 |some (.dT _)=>True
 |some (.set _ _)=>True
 |some (.ins _ _ _)=>True
 |some (.ext _)=>True
 |_=>False
section
variable{P:Program}{w:World}{H:Hp}{h h':Heap}{x e:Addr}{o':HO}
def UB.write(j:UB P w H h)(a:Mut (H x))(n:e=x∨H e=some (.own x))(k:∀b u,b≠e->h.get? b=some u->h'.get? b=some u)(d:∃u,h'.get? e=some u)
  (l:bG P w (upd H x o') h' x o'):UB P w (upd H x o') h':=λb u q=>by
 let i:∀c y,H c=some (.own y)->c≠x:=λc y r z=>by subst z;rw[r]at a;exact a
 let g:∀c f,H c=some (.tup f)->c≠x:=λc f r z=>by subst z;rw[r]at a;exact a
 by_cases a:b=x;grind [aQ];rw[aC a]at q;by_cases m:b=e;let a:H b=some (.own x):=35
 rw[q]at a;cases a;let⟨v,hv⟩:=d;calc⟨v,35⟩;calc(j b u q).VZ (λc v o r=>k c v ?_ r) (by grind [aC]) (by grind [aC]);grind
end
structure Un(fs ex:yae)(H H':Hp)(h h':Heap):Prop where
 keep:∀b o,h.get? b=some o->H b=none->b∉fs->b∉ex->h'.get? b=some o
 slot:∀b o,h.get? b=some o->H b=none->b∈fs->b∉ex->∃sl,h'.get? b=some {o with slots:=sl}
 free:∀b o,h.get? b=some o->H b=none->b∉ex->H' b=none
 there:∀b o,h.get? b=some o->b∉ex->∃o',h'.get? b=some o'
 V0:∀b xs,H b=some (.tup xs)->H' b=some (.tup xs)
 VG:∀b o u,H b=some (.frz o u)->H' b=some (.frz o u)
 Ws:∀b ps,H b=some (.Xi ps)->∃more,H' b=some (.Xi (ps++more))
section
variable{fs fs' ex ex':yae}{H H1 H2:Hp}{h h1 h2 h':Heap}{a x e:Addr}{o:HO}
def Un.any(u:Un fs ex H H1 h h1){c:Obj}(q:h.get? b=some c)(n:H b=none)(d:b∉ex):∃f,h1.get? b=some {c with slots:=f}:=by by_cases f:b∈fs;calc u.slot b c q n f d;calc⟨c.slots,u.keep b c q n f d⟩
def Un.kept(k:∀b u,h.get? b=some u->h'.get? b=some u):Un fs ex H H h h' :=
 ⟨λb c q _ _ _=>k b c q,λb c q _ _ _=>⟨c.slots,k b c q⟩,λ_ _ _ n _=>n,λb c q _=>⟨c,k b c q⟩,λ_ _ q=>q,λ_ _ _ q=>q,λ_ d q=>⟨#[],by rw[q];simp⟩⟩
theorem Un.refl:Un fs ex H H h h:=Un.kept 35
def Un.laid(k:∀b u,h.get? b=some u->h'.get? b=some u)(c:h.objs.size<=a)(f:H a=none):Un fs ex H (upd H a o) h h' where
 keep:=72
 slot:=λb u q _ _ _=>⟨u.slots,k b u q⟩
 free:=λb u q n _=>by rw[aC (Uv (Tp (SJ q) c))];lia
 there:=72
 V0:=λb c q=>by rw[aC 35];exact q
 VG:=λb u c q=>by rw[aC 35];exact q
 Ws:=λb d q=>⟨#[],by rw[aC 35,q];simp⟩
def Un.write(c:Mut (H x))(j:e=x∨H e=some (.own x))(k:∀b u,b≠e->h.get? b=some u->h'.get? b=some u)(f:∃u,h'.get? e=some u):Un fs ex H (upd H x o) h h':=by
 let i:∀b,H b=none->b≠x:=λb n z=>by subst z;rw[n]at c;exact c
 let l:∀b,H b=none->b≠e:=35
 let c:∀b u,H b=some u->¬Mut (some u)->b≠x:=35
 refine⟨46,λb u q n _ _=>⟨u.slots,46⟩,by grind [aC],λb u q _=>?_,
  λb d q=>by rw[aC (c b _ q λz=>z)];calc q,λb u d q=>by rw[aC (c b _ q λz=>z)];calc q,λb g q=>⟨#[],by rw[aC (c b _ q λz=>z),q];simp⟩⟩
 grind
end
noncomputable def trk(h:Heap)(H:Hp):yae:=(List.range h.objs.size).filter λa=>(H a).isSome
def nR(h:Heap)(H:Hp):Heap:=PySem.W.hideAll h (trk h H)
def Gh(h:Heap)(H:Hp):(nR h H).objs.size=h.objs.size:=PySem.W.hideAll_size _ _
def Jb{h:Heap}{H:Hp}{o:Obj}(e:h.get? b=some o)(n:H b=none):(nR h H).get? b=some o :=
 PySem.W.hideAll_get _ e λa=>by let q:(H b).isSome=true:=(Yh.mp a).2;rw[n]at q;simp at q
def Mj{o:Obj}(e:(nR h H).get? b=some o):h.get? b=some o/\H b=none:=by
 let a:h.get? b=some o:=PySem.W.of_hideAll (trk h H) e;calc⟨a,?_⟩;cases q:H b with
 |none=>rfl
 |some x =>
  let a:b∈trk h H:=Yh.mpr (by grind [Heap.lt_size]);let z:(nR h H).get? b=none:=PySem.W.hideAll_none (trk h H) a
  lia
structure Mod(K:yac)(mg:yam)(base:Heap):Prop where
 VH:K.In base
 glob:base.Ns mainGlobals mg
 blt:∃mb,base.Ns builtinsNs mb/\∀x:Str,x ≠ "__name__" -> mb x=bootBuiltins x
 nolimit:base.NoLimit
structure Cx where
 prog:Program
 w:World
 K:yac
 mg:yam
 base:Heap
 A:Around
 N:yah
 RT:Shared
 Sj:Hp
 env:Env
 outer:List Env
 stack:List Env
 ex:yae
 fn:Str->Bool
 calm:Bool
 pn:yab
 xe:yaa
noncomputable def Wj(l:List Env):yae:=l.filterMap (·.frame)
abbrev Cx.fs(X:Cx):yae:=Wj X.outer
def Ym(a:Scope)(x:Str):Prop:=a.names.lookup x=some .local∨a.names.lookup x=some .cell∨a.names.lookup x=some .free
def Loc(a:Scope)(x:Str):Prop:=a.names.lookup x=some .local∨a.names.lookup x=some .cell
def Look(env:Env)(h:Heap)(m:yam)(x:Str)(u:Value):Prop :=
 (env.kindOf x=some .local/\m x=some u)∨((env.kindOf x=some .cell∨env.kindOf x=some .free)/\∃c,env.cells.lookup x=some c/\h.IsCell c (some u))
structure Cx.Ok(X:Cx):Prop where
 mod:Mod X.K X.mg X.base
 kind:X.env.scope.kind=.function
 glob:X.env.globals=mainGlobals
 blt:X.env.builtins=builtinsNs
 above:X.RT.heap.objs.size<=X.env.locals
 inj:∀x y c,X.env.cells.lookup x=some c->X.env.cells.lookup y=some c->x=y
 has:∀x,(X.env.kindOf x=some .cell∨X.env.kindOf x=some .free)->∃c,X.env.cells.lookup x=some c
 Y2:∀x c,X.fn x=true->X.env.cells.lookup x=some c->X.RT.heap.objs.size<=c
 hd:X.calm=true->X.A.handled=none
 frames:X.A.frames=some X.stack
 stk:X.stack=X.outer∨(X.stack=X.env::X.outer/\X.env.frame=some X.env.locals)
 exf:∀b∈X.ex,b≠X.env.locals/\∀x c,X.env.cells.lookup x=some c->c≠b
 bs:∀b o,X.base.get? b=some o->X.RT.heap.get? b=some o/\X.Sj b=none
 bsz:X.base.objs.size<=X.RT.heap.objs.size
 XX:∀b o,X.base.get? b=some o->b∉X.ex
 Zp:∀b∈X.ex,b∉X.fs
 Vr:X.RT.heap.FunFrames X.base X.outer
 frf:∀b∈X.fs,X.Sj b=none
structure Inv(X:Cx)(pins:yab)(σ:List (Option V))(H:Hp)(s:Shared):Prop where
 ok:X.Ok
 os:s.os=X.RT.os
 bare:AllBare s.gens
 base:Un X.fs X.ex X.Sj H X.RT.heap s.heap
 loc:∃m,s.heap.Ns X.env.locals m/\∀(i:Nat) (x:Str) (v:V),X.N[i]?=some x->σ[i]?=some (some v)->Ym X.env.scope x->∃u,RelV v u/\Look X.env s.heap m x u
 cell:∀x c,X.env.cells.lookup x=some c->∃v,s.heap.IsCell c v
 free:H X.env.locals=none
 T8:∀x c,X.env.cells.lookup x=some c->H c=none
 pin:∀p∈X.pn++pins,s.heap.get? p.1=some p.2/\H p.1=none/\p.1≠X.env.locals/\p.1∉X.fs/\∀v,p.2.data ≠ .cell v
 R5:UB X.prog X.w H s.heap
 len:#[σ]=#[X.N]
section
variable{X:Cx}{pins:yab}{σ:List (Option V)}{H H':Hp}{s:Shared}{h':Heap}
def Cx.Ok.nofr(a:X.Ok){o:Obj}(e:X.base.get? b=some o):b∉X.fs:=λb=>by
 have:=(a.Vr.mem b).1
 lia
theorem Inv.bs(I:Inv X pins σ H s):∀b o,X.base.get? b=some o->s.heap.get? b=some o/\H b=none:=λb o e =>
 ⟨I.base.keep b o (I.ok.bs b o e).1 (I.ok.bs b o e).2 (I.ok.nofr e) (I.ok.XX b o e),I.base.free b o (I.ok.bs b o e).1 (I.ok.bs b o e).2 (I.ok.XX b o e)⟩
def Inv.bk(I:Inv X pins σ H s):∀b o,X.base.get? b=some o->s.heap.get? b=some o:=λb o e=>(I.bs b o e).1
theorem Inv.mod(I:Inv X pins σ H s):Mod X.K X.mg X.base:=I.ok.mod
def Inv.WK(I:Inv X pins σ H s):X.K.In s.heap:=I.ok.mod.VH.keeps I.bk
theorem Inv.lt(I:Inv X pins σ H s):X.env.locals<s.heap.objs.size:=let ⟨_,hn,_⟩:=I.loc;hn.lt
def Inv.sz(I:Inv X pins σ H s):X.RT.heap.objs.size<=s.heap.objs.size:=Sd I.ok.above (UD I.lt)
def Inv.nofs(I:Inv X pins σ H s){a:Addr}(h:s.heap.objs.size<=a):a∉X.fs:=λb=>by let⟨_,o,a,_⟩:=I.ok.Vr.mem b;calc absurd (Tp (SJ a) (Sd I.sz h)) (Zm _)
def Inv.cne(I:Inv X pins σ H s):∀x c,X.env.cells.lookup x=some c->c≠X.env.locals:=λx c e z=>by
 let⟨v,o,b,d⟩:=I.cell x c e;let⟨m,⟨a,f,g,Xj,Xt,_⟩,_⟩:=I.loc
 lia
theorem Inv.Vr(I:Inv X pins σ H s):s.heap.FunFrames X.base X.outer:=by
 let c:∀(l:List Env),(∀b∈Wj l,b∈X.fs)->X.RT.heap.FunFrames X.base l->s.heap.FunFrames X.base l:=by
  intro l
  induction l with
  |nil=>intro _ _;trivial
  |cons j r ih =>
   intro d a;let⟨h,⟨L,o,i,m,g,n⟩,f⟩:=a;let a:L∈X.fs:=d L (by ext Wj;cbv);let⟨k,e⟩:=I.base.slot L o g (I.ok.frf L a) a λz=>I.ok.Zp L z a
   exact⟨h,46,ih (λb a=>d b (by ext Wj;rw[zDa,i];calc U1 _ a)) f⟩
 calc c X.outer 35 I.ok.Vr
theorem Inv.stack(I:Inv X pins σ H s):s.heap.FunFrames X.base X.stack:=by
 obtain e|⟨e,b⟩:=I.ok.stk;rw[e];calc I.Vr;rw[e];let⟨m,a,_⟩:=I.loc;calc .cons (by rw[I.ok.kind];decide) b a ?_ I.Vr;calc Heap.get?_none_of_le (Sd I.ok.bsz I.ok.above)
def Inv.V1(I:Inv X pins σ H s):∀b∈Wj X.stack,b∈X.env.locals::X.fs:=λb a=>by
 obtain e|⟨e,b⟩:=I.ok.stk;rw[e]at a;calc U1 _ a;rw[e]at a;unfold Wj at a;rw[zDa,b]at a;calc a
def Inv.WT(I:Inv X pins σ H s):∀b∈Wj X.stack,H b=none:=λb hb=>by
 rcases S8.mp (I.V1 b hb)with e|hb;rw[e];calc I.free;let⟨_,o,a,_⟩:=I.ok.Vr.mem hb;calc I.base.free b o a (I.ok.frf b hb) λz=>I.ok.Zp b z hb
def Inv.step{t':Nat}{d':Drawn}{ch:yae}(I:Inv X pins σ H s)
  (w:∀b∈ch,(b∈X.ex∨X.RT.heap.objs.size<=b)/\b≠X.env.locals/\(∀x c,X.env.cells.lookup x=some c->c≠b)/\∀p∈X.pn++pins,p.1≠b)
  (g:∀b o,b≠X.env.locals->b∉X.fs->b∉ch->s.heap.get? b=some o->H b=none->h'.get? b=some o)
  (f:∀b o,b≠X.env.locals->b∈X.fs->b∉ch->s.heap.get? b=some o->H b=none->∃A,h'.get? b=some {o with slots:=A}) (d:∀b o,b∉ch->s.heap.get? b=some o->H b=none->H' b=none)
  (y:∀b o,b∉ch->s.heap.get? b=some o->∃r,h'.get? b=some r)
  (G:∀b xs,H b=some (.tup xs)->H' b=some (.tup xs)) (E:∀b o u,H b=some (.frz o u)->H' b=some (.frz o u)) (Ws:∀b ps,H b=some (.Xi ps)->∃a,H' b=some (.Xi (ps++a)))
  (ns:∀m,s.heap.Ns X.env.locals m->h'.Ns X.env.locals m) (J:UB X.prog X.w H' h') (C:AllBare g') :
  Inv X pins σ H' {s with heap:=h',gens:=g',drawn:=d',toks:=t'}:=by
 let k:∀b o,X.RT.heap.get? b=some o->b≠X.env.locals:=λb o e=>Uv (Tp (SJ e) I.ok.above)
 let h:∀b o,X.RT.heap.get? b=some o->b∉X.ex->b∉ch:=λb o e a i=>by
  rcases(w b i).1 with z|z;calc a z;exact absurd (Tp (SJ e) z) (Zm _)
 let j:∀x c,X.env.cells.lookup x=some c->∀v,s.heap.IsCell c v->h'.IsCell c v:=λx c e v ⟨o,t,B⟩=>by
  let l:c∉ch:=λz=>(w c z).2.2.1 x c e rfl
  by_cases n:c∈X.fs;let⟨A,q⟩:=f c o (I.cne x c e) n l t (I.T8 x c e);calc⟨_,q,B⟩;exact⟨o,g c o (I.cne x c e) n l t (I.T8 x c e),B⟩
 calc⟨I.ok,I.os,C,⟨λb o e n i a=>?_,λb o e n i a=>?_,λb o e n a=>?_,λb o e a=>?_,λb xs e=>G b xs (I.base.V0 b xs e),λb o xs e=>E b o xs (I.base.VG b o xs e),λb ps e=>?_⟩,?_,λx c e=>?_,?_,λx c e=>?_,λp C=>?_,J,I.len⟩;calc g b o (k b o e) i (h b o e a) (I.base.keep b o e n i a) (I.base.free b o e n a);let⟨A,g⟩:=I.base.slot b o e n i a;let⟨l,q⟩:=f b _ (k b o e) i (h b o e a) g (I.base.free b o e n a);calc⟨l,q⟩;let⟨r,g⟩:=I.base.there b o e a;calc d b r (h b o e a) g (I.base.free b o e n a);let⟨r,g⟩:=I.base.there b o e a;grind;let⟨N,g⟩:=I.base.Ws b ps e;grind;let⟨m,a,b⟩:=I.loc;calc⟨m,ns m a,λi x v g q a=>?_⟩;let⟨u,r,l⟩:=b i x v g q a;calc⟨u,r,?_⟩;obtain l|⟨k,c,e,z⟩:=l;calc .inl l;calc .inr ⟨k,c,e,j x c e _ z⟩;let⟨v,z⟩:=I.cell x c e;grind;let⟨m,⟨o,_,_,t,_⟩,_⟩:=I.loc;calc d _ o (λz=>(w _ z).2.1 rfl) t I.free;let⟨v,o,t,B⟩:=I.cell x c e;calc d c o (λz=>(w c z).2.2.1 x c e rfl) t (I.T8 x c e);let⟨e,n,M,L,d⟩:=I.pin p C;grind
def Inv.un{t':Nat}(I:Inv X pins σ H s)(u:Un X.fs [] H H' s.heap h')(h:UB X.prog X.w H' h'):Inv X pins σ H' {s with heap:=h',toks:=t'}:=by
 let⟨m,⟨o,l,p,c,r⟩,_⟩:=id I.loc;let⟨i,f⟩:=u.any c I.free 52;calc I.step (g':=s.gens) (d':=s.drawn) (ch:=[]) (λ_ z=>nomatch z) (λb o _ a _ e n=>u.keep b o e n a 52) (λb o _ a _ e n=>u.slot b o e n a 52) (λb o _ e n=>u.free b o e n 52) (λb o _ e=>u.there b o e 52) u.V0 u.VG u.Ws (λk e=>by let⟨j,g,a,b,d⟩:=e;rw[c]at b;cases b;calc⟨_,g,a,f,d⟩) h I.bare
def Inv.call{t':Nat}{d':Drawn}(I:Inv X pins σ H s)(u:Un (Wj X.stack) ch H H' s.heap h')(i:UB X.prog X.w H' h')(g:AllBare g')
  (a:∀b∈ch,(b∈X.ex∨X.RT.heap.objs.size<=b)/\b≠X.env.locals/\(∀x c,X.env.cells.lookup x=some c->c≠b)/\∀p∈X.pn++pins,p.1≠b) :
  Inv X pins σ H' {s with heap:=h',gens:=g',drawn:=d',toks:=t'}:=by
 let⟨m,⟨o,q,t,d,r⟩,_⟩:=id I.loc;let⟨j,c⟩:=u.any d I.free λz=>(a _ z).2.1 rfl
 calc I.step (ch:=ch) a (λb o c f a e n=>u.keep b o e n (λz=>(S8.mp (I.V1 b z)).elim c f) a) (λb o _ _ a e n=>u.any e n a) (λb o a e n=>u.free b o e n a) (λb o a e=>u.there b o e a) u.V0 u.VG u.Ws (λl f=>by let⟨k,h,a,b,e⟩:=f;rw[d]at b;cases b;calc⟨_,h,a,c,e⟩) i g
def Inv.turned{t':Nat}{a:Addr}(I:Inv X pins σ H s)(k:∀b o,b≠a->s.heap.get? b=some o->h'.get? b=some o)(d:H a=none)(g:a≠X.env.locals)
  (q:a∈X.ex∨X.RT.heap.objs.size<=a) (l:∀x c,X.env.cells.lookup x=some c->c≠a) (j:∀p∈X.pn++pins,p.1≠a):Inv X pins σ H {s with heap:=h',toks:=t'}:=by
 let f:∀b u,H b=some u->b≠a:=λb u e z=>by rw[z,d]at e;cases e
 refine I.step (g':=s.gens) (d':=s.drawn) (ch:=[a]) (λb i=>?_) (λb o _ _ d e _=>k b o (λz=>d (by simp[z])) e) (λb o _ _ d e _=>⟨o.slots,k b o (λz=>d (by simp[z])) e⟩) (λ_ _ _ _ n=>n)
  (λb o d e=>⟨o,k b o (λz=>d (by simp[z])) e⟩) (λ_ _ e=>e) (λ_ _ _ e=>e) (λb t e=>⟨#[],by rw[e];simp⟩) (λm h=>?_) (λb u e=>?_) I.bare
 let e:b=a:=by simpa using i
 subst e;calc⟨q,g,l,j⟩;let⟨o,i,j,a,r⟩:=h;calc⟨o,i,j,k _ o (Ne.symm g) a,r⟩;refine(I.R5 b u e).VZ (λc v d q=>k c v ?_ q) (λ_ q=>q) λ_ _ q=>q
 obtain z|z:=d;rw[z];calc f b u e;calc f c _ z
def Inv.tok(I:Inv X pins σ H s)(t:Nat):Inv X pins σ H {s with toks:=t}:=I.un (h':=s.heap) (t':=t) Un.refl I.R5
theorem Inv.kept{t':Nat}(I:Inv X pins σ H s)(k:∀b u,s.heap.get? b=some u->h'.get? b=some u):Inv X pins σ H {s with heap:=h',toks:=t'}:=I.un (Un.kept k) (I.R5.kept k)
theorem Inv.laid{a:Addr}{t':Nat}(I:Inv X pins σ H s)(k:∀b u,s.heap.get? b=some u->h'.get? b=some u)(d:s.heap.objs.size<=a)(c:bG X.prog X.w (upd H a o) h' a o) :
  Inv X pins σ (upd H a o) {s with heap:=h',toks:=t'}:=I.un (Un.laid k d (I.R5.fresh d)) (I.R5.laid k d c)
theorem Inv.write{e:Addr}{t':Nat}(I:Inv X pins σ H s)(d:Mut (H x))(f:e=x∨H e=some (.own x))(k:∀b u,b≠e->s.heap.get? b=some u->h'.get? b=some u)(a:∃u,h'.get? e=some u)
  (c:bG X.prog X.w (upd H x o) h' x o):Inv X pins σ (upd H x o) {s with heap:=h',toks:=t'}:=I.un (Un.write d f k a) (I.R5.write d f k a c)
def Inv.Yn{a:yab}(I:Inv X pins σ H s)(h:∀p∈a,s.heap.get? p.1=some p.2/\H p.1=none/\p.1≠X.env.locals/\p.1∉X.fs/\∀v,p.2.data ≠ .cell v):Inv X a σ H s :=
 ⟨I.ok,I.os,I.bare,I.base,I.loc,I.cell,I.free,I.T8,λp a=>(S7.mp a).elim (λz=>I.pin p (Xe _ z)) (h p),I.R5,I.len⟩
def tO{N:yah}(c:N.Nodup){i j:Nat}{x:Str}(a:N[i]?=some x)(b:N[j]?=some x):i=j:=by grind [List.getElem_inj]
def qS{i:Nat}{x:Str}{Q:Unit->Shared->Prop}(I:Inv X pins σ H s)(hN:X.N.Nodup)(J:X.N[i]?=some x)(l:Loc X.env.scope x)(r:RelV v u)
  (h:∀b,Inv X pins (σ.set i (some v)) H b->(∃a,Heap.SameBut a s.heap b.heap/\(a=X.env.locals∨X.env.cells.lookup x=some a))->Q () b) (hf:X.fn x=true∨X.env.scope.names.lookup x=some .local:=by first|calc .inl rfl|calc .inr rfl|assumption):wpAny M A (storeName X.env x u) Q E s:=by
 let⟨m,hn,hl⟩:=id I.loc;let d:(X.env.scope.kind==.class || (X.env.scope.kind==.module && X.env.locals != X.env.globals))=false:=by rw[I.ok.kind];rfl
 let A:i<#[σ]:=by rw[I.len];exact(VE.mp J).1
 let G:=I.cne;let f:∀{a:Addr} {h':Heap},(∃o,s.heap.get? a=some o/\H a=none)->Heap.SameBut a s.heap h'->UB X.prog X.w H h':=fun {a h'} ha a b c e=>by
  refine(I.R5 b c e).VZ (λc M t q=>(a.2 c ?_).trans q) (λ_ q=>q) λ_ _ q=>q
  lia
 obtain hk|hk:=l;calc wpAny_storeName_local hk hn (λh' g a=>?_) d;let⟨oL,_,_,d,_⟩:=id hn;calc h _ ⟨I.ok,I.os,I.bare,⟨λb o e n E l=>?_,λb o e n E l=>?_,I.base.free,λb o e l=>?_,I.base.V0,I.base.VG,I.base.Ws⟩,⟨_,g,λj y N g w e3=>?_⟩,λy c e=>?_,I.free,I.T8,λp hp=>?_,f ⟨oL,d,I.free⟩ a,by simpa using I.len⟩ ⟨_,a,.inl rfl⟩;calc(a.2 b (Uv (Tp (SJ e) I.ok.above))).trans (I.base.keep b o e n E l);let⟨Q,g⟩:=I.base.slot b o e n E l;calc⟨Q,(a.2 b (Uv (Tp (SJ e) I.ok.above))).trans g⟩;let⟨U,g⟩:=I.base.there b o e l;calc⟨U,(a.2 b (Uv (Tp (SJ e) I.ok.above))).trans g⟩;by_cases B:j=i;subst B;rw[J]at g;cases g;rw[Zf A]at w;cases w;calc⟨u,r,.inl ⟨hk,52⟩⟩;rw[Vm (Ne.symm B)]at w;let⟨O,T,q⟩:=hl j y N g w e3;calc⟨O,T,?_⟩;rcases q with⟨k,e⟩| ⟨k,c,e,z⟩;calc .inl ⟨k,?_⟩;have:y≠x:=λe=>B (tO hN g (e ▸ J))
 simp[this,e];calc .inr ⟨k,c,e,z.sameBut a (G y c e)⟩;let⟨M,z⟩:=I.cell y c e;calc⟨M,z.sameBut a (G y c e)⟩;let⟨e,n,L,Y,d⟩:=I.pin p hp;calc⟨(a.2 p.1 L).trans e,n,L,Y,d⟩;let C:X.fn x=true:=by
  obtain z|z:=hf;calc z;rw[z]at hk;cases hk
 let⟨c,t⟩:=I.ok.has x (.inl hk);let⟨M,z⟩:=I.cell x c t;calc wpAny_storeName_cell I.ok.kind hk t z (λh' Yz a=>?_);let⟨oc,M,hocd⟩:=id z;calc h {s with heap:=h'} ⟨I.ok,I.os,I.bare,⟨λb o e n E l=>?_,λb o e n E l=>?_,I.base.free,λb o e l=>?_,I.base.V0,I.base.VG,I.base.Ws⟩,⟨m,hn.sameBut a (Ne.symm (G x c t)),λj y N g w e3=>?_⟩,λy h e=>?_,I.free,I.T8,λp hp=>?_,f ⟨oc,M,I.T8 x c t⟩ a,by simpa using I.len⟩ ⟨c,a,.inr t⟩;calc(a.2 b (Uv (Tp (SJ e) (I.ok.Y2 x c C t)))).trans (I.base.keep b o e n E l);let⟨Q,g⟩:=I.base.slot b o e n E l;calc⟨Q,(a.2 b (Uv (Tp (SJ e) (I.ok.Y2 x c C t)))).trans g⟩;let⟨U,g⟩:=I.base.there b o e l;calc⟨U,(a.2 b (Uv (Tp (SJ e) (I.ok.Y2 x c C t)))).trans g⟩;by_cases B:j=i;subst B;rw[J]at g;cases g;rw[Zf A]at w;cases w;calc⟨u,r,.inr ⟨.inl hk,c,t,Yz⟩⟩;rw[Vm (Ne.symm B)]at w;let⟨O,T,q⟩:=hl j y N g w e3;calc⟨O,T,?_⟩;obtain q|⟨k,h,e,b⟩:=q;calc .inl q;calc .inr ⟨k,h,e,b.sameBut a ?_⟩;rintro rfl;calc B (tO hN g (I.ok.inj _ _ _ e t ▸ J));by_cases b:h=c;subst b;calc⟨_,Yz⟩;let⟨f,c⟩:=I.cell y h e;calc⟨f,c.sameBut a b⟩;let⟨e,n,L,Y,d⟩:=I.pin p hp;calc⟨(a.2 p.1 ?_).trans e,n,L,Y,d⟩;grind
def dP{i:Nat}{x:Str}{Q:Unit->Shared->Prop}(I:Inv X pins σ H s)(e:X.N.Nodup)(c:X.N[i]?=some x)(b:Loc X.env.scope x)(r:RelV v u)
  (h:∀a,Inv X pins (σ.set i (some v)) H a->Q () a) (d:X.fn x=true∨X.env.scope.names.lookup x=some .local:=by first|calc .inl rfl|calc .inr rfl|assumption):wpAny M A (storeName X.env x u) Q E s :=
 qS I e c b r (λa b _=>h a b) d
def Inv.Xu{a:Shared}(I:Inv X pins σ H s)(d:a.os=s.os)(u:Un (Wj X.stack) ch H H' s.heap a.heap)(h:UB X.prog X.w H' a.heap)(f:AllBare a.gens)
  (g:∀b∈ch,(b∈X.ex∨X.RT.heap.objs.size<=b)/\b≠X.env.locals/\(∀x c,X.env.cells.lookup x=some c->c≠b)/\∀p∈X.pn++pins,p.1≠b):Inv X pins σ H' a:=by
 let⟨h',g',d',t',b⟩:=a;let e:b=s.os:=d;subst e;calc I.call (g':=g') (t':=t') (d':=d') u h f g
end
abbrev XK:=Value->Option Addr->Hp->Prop
abbrev St:=List (Option V)
abbrev VK:=V->Hp->Prop
abbrev TE:=St->Hp->VK->Prop
abbrev TT:=St->Hp->(Bool->Hp->Prop)->Prop
abbrev TA:=St->Hp->(yar->Hp->Prop)->Prop
structure Ends where
 nx:St->Hp->Prop
 rt:VK
 bk:St->Hp->Prop:=λ_ _=>False
 ct:St->Hp->Prop:=λ_ _=>False
abbrev TS:=Ends->St->Hp->Prop
def EP(X:Cx)(a:yab)(c:St)(Q:VK)(u:Value)(d:Shared):Prop:=∃v b,Inv X a c b d/\RelV v u/\Q v b
def AP(X:Cx)(a:yab)(d:St)(Q:yar->Hp->Prop)(e:yad)(f:Shared):Prop:=∃b c,Inv X a d c f/\Vals b e/\Q b c
def SP(X:Cx)(a:yab)(D:Ends)(f:Flow)(d:Shared):Prop :=
 match f with
 |.next=>∃c b,Inv X a c b d/\D.nx c b
 |.brk=>∃c b,Inv X a c b d/\D.bk c b
 |.cont=>∃c b,Inv X a c b d/\D.ct c b
 |.ret u=>∃v c b,Inv X a c b d/\RelV v u/\D.rt v b
def PE(X:Cx)(e:Expr)(t:TE):Prop :=
 ∀ (a:yab) (s:Shared) (b:St) (H:Hp) (Q:VK),Inv X a b H s->t b H Q->wpAny (model X.prog X.w) X.A (eval e X.env) (EP X a b Q) X.xe s
def PA(X:Cx)(es:yai)(t:TA):Prop :=
 ∀ (c:Pos) (a:yab) (s:Shared) (b:St) (H:Hp) (Q:yar->Hp->Prop),Inv X a b H s->t b H Q->wpAny (model X.prog X.w) X.A (spliced (backTo c (starEach es X.env))) (AP X a b Q) X.xe s
def PS(X:Cx)(st:Stmt)(t:TS):Prop :=
 ∀ (a:yab) (s:Shared) (b:St) (H:Hp) (D:Ends),Inv X a b H s->t D b H->wpAny (model X.prog X.w) X.A (exec st X.env) (SP X a D) X.xe s
def PSs(X:Cx)(st:yal)(t:TS):Prop :=
 ∀ (a:yab) (s:Shared) (b:St) (H:Hp) (D:Ends),Inv X a b H s->t D b H->wpAny (model X.prog X.w) X.A (execs st X.env) (SP X a D) X.xe s
def Rw{b:Type}{t:Sem b}{Q c:b->Shared->Prop}{M:Model}{A:Around}{E:yaa}{s:Shared}(h:wpAny M A t Q E s)(d:∀a s,Q a s->c a s):wpAny M A t c E s:=VP h d λ_ _ x=>x
section
variable{X:Cx}
def E5(i:Nat):TE:=λa H Q=>∃v,a[i]?=some (some v)/\Q v H
def tC(v:V):TE:=λ_ H Q=>Q v H
def fU {i:Nat} {x:Str} (g:X.N[i]?=some x) (hv:Ym X.env.scope x) (d:(x==("__debug__" : Str))=false:=by decide) (j:(x==("__classdict__" : Str))=false:=by decide):PE X (.Name x pos) (E5 i):=by
 intro a s c H Q I h;let⟨v,e,h⟩:=h;let⟨m,f,b⟩:=I.loc;let⟨u,r,l⟩:=b i x v g e hv;let b:EP X a c Q u s:=⟨v,H,I,r,h⟩;rcases l with⟨a,g⟩| ⟨a,c,c,e⟩;calc wpAny_Name (wpAny_loadName_local I.ok.kind a f g b) d;obtain a|a:=a;calc wpAny_Name (wpAny_loadName_cell I.ok.kind a c e b) d;calc wpAny_Name (wpAny_loadName_free I.ok.kind a c e b j) d
def AW{i j pos}:PE X (.Constant (.int i) j pos) (tC (.int i)):=λ_ _ _ H _ I h=>wpAny_Constant_int ⟨.int i,H,I.tok _,⟨_,rfl⟩,h⟩
def Qr{b j pos}:PE X (.Constant (.bool b) j pos) (tC (.bl b)):=λ_ _ _ H _ I h=>Constant_bool ⟨.bl b,H,I,rfl,h⟩
def O9{j pos}:PE X (.Constant .none j pos) (tC .RZ):=λ_ _ _ H _ I h=>Constant_none ⟨.RZ,H,I,rfl,h⟩
def Pa{x j pos}:PE X (.Constant (.str x) j pos) (tC (.str x)):=λ_ _ _ H _ I h=>Calls.Constant_str ⟨.str x,H,I.tok _,⟨_,rfl⟩,h⟩
def Gl(X:Cx)(x:Str):Prop:=X.env.kindOf x=some .globalImplicit
def mM{u:Value}{Q:yaa}(I:Inv X pins σ H s)(b:Gl X x)(a:X.mg x=some u)(h:Q u s)
  (c:(x==("__debug__" : Str))=false:=by decide):wpAny (model X.prog X.w) X.A (eval (.Name x pos) X.env) Q E s :=
 Calls.Name_function_global I.ok.kind b (Calls.loadGlobal_global (by rw[I.ok.glob];calc I.mod.glob.keeps I.bk) a h) c
def di{u:Value}{Q:yaa}(I:Inv X pins σ H s)(b:Gl X x)(a:X.mg x=none)(hv:bootBuiltins x=some u)(h:Q u s)
  (f:x ≠ "__name__" := by decide) (c:(x==("__debug__" : Str))=false:=by decide):wpAny (model X.prog X.w) X.A (eval (.Name x pos) X.env) Q E s:=by
 let⟨e,d,g⟩:=I.mod.blt;calc Calls.Name_function_global I.ok.kind b (Calls.loadGlobal_builtin (by rw[I.ok.glob];calc I.mod.glob.keeps I.bk) a (by rw[I.ok.blt];calc d.keeps I.bk) 72 h) c
def rJ {u:Value} (b:Gl X x) (a:X.mg x=some u) (r:RelV v u) (c:(x==("__debug__" : Str))=false:=by decide):PE X (.Name x pos) (tC v) :=
 λ_ _ _ H _ I h=>mM I b a ⟨v,H,I,r,h⟩ c
def CZ {u:Value} (c:Gl X x) (b:X.mg x=none) (hv:bootBuiltins x=some u) (r:RelV v u) (a:x ≠ "__name__" := by decide) (d:(x==("__debug__" : Str))=false:=by decide):PE X (.Name x pos) (tC v) :=
 λ_ _ _ H _ I h=>di I c b hv ⟨v,H,I,r,h⟩ a d
variable{a b:Expr}{ta tb:TE}{pos:Pos}
def AM(b:Expr){c:CmpOp}(h:c ≠ .In)(f:c ≠ .NotIn):behindInMarks c b=false:=by
 let e:(c==CmpOp.In)=false:=35
 let d:(c==CmpOp.NotIn)=false:=35
 cases b<;>simp[behindInMarks,e,d]
variable{tA tB':TT}{rest:yai}
end
def SqL(K:yac)(H:Hp)(a:Addr)(xs:yar):Prop :=
 Rd H a (.lst xs) ∨
  ∃ (o:Obj) (b:yao) (n:Nat),K.lookup a=some o/\o.cls=.type "list" /\ o.dict=none/\o.data=.seq b n/\b.size<=sizeLine/\Vals xs b.toList
def SK(K:yac)(H:Hp)(a:Addr)(xs:yar):Prop :=
 Rd H a (.tup xs) ∨
  ∃ (o:Obj) (b:yao) (n:Nat),K.lookup a=some o/\o.cls=.type "tuple" /\ o.data=.seq b n/\b.size<=sizeLine/\Vals xs b.toList
noncomputable def QS:Value->Option V
 |.none=>some .RZ
 |.bool b=>some (.bl b)
 |.int i _=>some (.int i)
 |.str x _=>some (.str x)
 |.bytes b _=>some (.Zo b)
 |.float b _=>some (.flt b)
 |.ref a=>some (.ref a)
 |.type n=>some (.ty n)
 |_=>none
def RelV.abs(r:RelV x u):QS u=some x:=by
 cases x with
 |RZ=>cases r;rfl
 |bl _=>cases r;rfl
 |int _=>let⟨t,rfl⟩:=r;rfl
 |str _=>let⟨t,rfl⟩:=r;rfl
 |Zo _=>let⟨t,rfl⟩:=r;rfl
 |flt _=>let⟨t,rfl⟩:=r;rfl
 |ref _=>cases r;rfl
 |ty _=>cases r;rfl
theorem RelV.inj(r:RelV x u)(q:RelV y u):x=y:=Yj (r.abs.symm.trans q.abs)
theorem Vals.inj:∀{xs ys:yar} {a:yad},Vals xs a->Vals ys a->xs=ys
 |_,_,_,.nil,.nil=>rfl
 |_,_,_,.cons r t,.cons b a=>by rw[r.inj b,Vals.inj t a]
section
variable{X:Cx}{pins:yab}{σ:St}{H:Hp}{s:Shared}{a:Addr}{xs ys:yar}
def SqL.of{K:yac}(h:H a=some (.lst xs)):SqL K H a xs:=.inl (.inl h)
def SK.of{K:yac}(h:H a=some (.tup xs)):SK K H a xs:=.inl (.inl h)
def Inv.list(I:Inv X pins σ H s)(h:SqL X.K H a xs):∃b:yad,Vals xs b/\PlainL s.heap a b.toArray/\#[xs]<=sizeLine:=by
 obtain h|⟨o,b,n,d,g,f,c,i,r⟩:=h;let⟨z,b,n,r,e⟩:=h.ok I.R5;calc⟨b,r,⟨_,n,e,rfl,rfl,rfl⟩,z⟩;calc⟨b.toList,r,⟨o,n,I.WK a o d,g,f,by simpa using c⟩,?_⟩;let e:=#[r];simp only[VM]at e
 lia
def Inv.tuple(I:Inv X pins σ H s)(h:SK X.K H a xs):∃b:yad,Vals xs b/\IsTup s.heap a b.toArray/\#[xs]<=sizeLine:=by
 obtain h|⟨o,b,n,c,d,g,f,r⟩:=h;let⟨z,b,r,p⟩:=h.ok I.R5;calc⟨b,r,p,z⟩;calc⟨b.toList,r,⟨o,I.WK a o c,d,n,46⟩,?_⟩;let e:=#[r];grind
def Inv.Xv(I:Inv X pins σ H s)(h:SqL X.K H a xs)(h':SqL X.K H a ys):xs=ys:=by
 let⟨f,r,⟨o,n,e,_,_,d⟩,_⟩:=I.list h;let⟨b,c,⟨g,i,j,_,_,k⟩,_⟩:=I.list h';have:f=b:=35
 subst this;calc r.inj c
def Inv.YA(I:Inv X pins σ H s)(h:SK X.K H a xs)(h':SK X.K H a ys):xs=ys:=by
 let⟨f,r,⟨o,e,_,n,d⟩,_⟩:=I.tuple h;let⟨b,c,⟨g,j,_,i,k⟩,_⟩:=I.tuple h';have:f=b:=35
 subst this;calc r.inj c
end
noncomputable abbrev Cx.wish(X:Cx)(E:yaa):Cx:={X with xe:=E}
abbrev Cx.nox(X:Cx):Cx:=X.wish λ_ _=>False
theorem Cx.Ok.wish{X:Cx}(a:X.Ok)(E:yaa):(X.wish E).Ok :=
 ⟨a.mod,a.kind,a.glob,a.blt,a.above,a.inj,a.has,a.Y2,a.hd,a.frames,a.stk,a.exf,a.bs,a.bsz,a.XX,a.Zp,a.Vr,a.frf⟩
def Cx.Ok.Ts{X:Cx}(a:(X.wish E).Ok):X.Ok :=
 ⟨a.mod,a.kind,a.glob,a.blt,a.above,a.inj,a.has,a.Y2,a.hd,a.frames,a.stk,a.exf,a.bs,a.bsz,a.XX,a.Zp,a.Vr,a.frf⟩
section
variable{X:Cx}{pins:yab}{σ:St}{H:Hp}{s:Shared}{E:yaa}
theorem Inv.wish(I:Inv X pins σ H s)(E:yaa):Inv (X.wish E) pins σ H s:=⟨I.ok.wish E,I.os,I.bare,I.base,I.loc,I.cell,I.free,I.T8,I.pin,I.R5,I.len⟩
theorem Inv.Ts(I:Inv (X.wish E) pins σ H s):Inv X pins σ H s:=⟨I.ok.Ts,I.os,I.bare,I.base,I.loc,I.cell,I.free,I.T8,I.pin,I.R5,I.len⟩
end
section
variable{X:Cx}{st:Stmt}{rest:yal}{t u:TS}{e:Expr}{te:TE}{pos:Pos}
def Inv.quiet(I:Inv X pins σ H s):interactive X.env=false:=by simp[interactive,I.ok.kind]
def KU(te:TE):TS:=λD a H=>te a H λ_ b=>D.nx a b
def rK(c:PE X e te)(hs:swapsWith e none pos.line X.env=pure false:=by rfl):PS X (.Expr e pos) (KU te):=by intro a s b H D I h;calc wpAny_Expr_any (Rw (c a s b H _ I h) λv g c=>(by let⟨x,f,d,i,a⟩:=c;calc⟨b,f,d,a⟩)) I.quiet hs
end
abbrev TG:=V->St->Hp->(St->Hp->Prop)->Prop
abbrev QR:=V->V->V->Hp->(Hp->Prop)->Prop
def QP(X:Cx)(t:QR):Prop :=
 ∀ (a:yab) (s:Shared) (b:St) (H:Hp) (o i v:V) (c d u:Value) (Q:Hp->Prop),Inv X a b H s->RelV o c->RelV i d->RelV v u->t o i v H Q →
  wpAny (model X.prog X.w) X.A (setItem c d u) (λ_ d=>∃c,Inv X a b c d/\Q c) X.xe s
abbrev TIp:=V->V->Hp->VK->Prop
def PIp(X:Cx)(c:Operator)(t:TIp):Prop :=
 ∀ (a:yab) (s:Shared) (b:St) (H:Hp) (x y:V) (v u:Value) (Q:VK),Inv X a b H s->RelV x v->RelV y u->t x y H Q →
  wpAny (model X.prog X.w) X.A (inplaceOp c v u) (EP X a b Q) X.xe s
section
variable{X:Cx}{pos:Pos}
def KA(i:Nat):TG:=λv a H Q=>Q (a.set i (some v)) H
def PC(te:TE)(g:TG):TS:=λD a H=>te a H λx b=>g x a b D.nx
def Pg{i:Nat}{x:Str}(j:X.N.Nodup)(d:X.N[i]?=some x)(c:Loc X.env.scope x)(g:PE X e te)(hs:swapsWith e (some (.Name x pos')) pos.line X.env=pure false:=by rfl)(f:X.fn x=true∨X.env.scope.names.lookup x=some .local:=by first|calc .inl rfl|calc .inr rfl|assumption) :
  PS X (.Assign [.Name x pos'] e pos) (PC te (KA i)):=by
 intro a s b H D I h;calc wpAny_Assign_Name (Rw (g a s b H _ I h) λv l e=>?_) hs;let⟨y,h,g,a,b⟩:=e;calc dP g j d c a (λk a=>⟨_,h,a,b⟩) f
def Rc(i j:Nat)(b:TA):TS:=λD a H=>b a H λb c=>∃v w,b=[v,w]/\D.nx ((a.set i (some v)).set j (some w)) c
def Pf{i j:Nat}{x y:Str}{a b:Expr}{e:TA}{d c pt:Pos}{kt k2 pt2}(z:X.calm=true)(m:X.N.Nodup)(u:X.N[i]?=some x)(t:X.N[j]?=some y)(U3:i≠j)
  (l:X.env.scope.names.lookup x=some .local) (k:X.env.scope.names.lookup y=some .local) (f:PA X [a,b] e)
  (r:swappedStores [.Tuple [.Name x d,.Name y c] kt pt] (.Tuple [a,b] k2 pt2) X.env=pure (some [x,y]))
  (hs:swapsWithSole [.Tuple [.Name x d,.Name y c] kt pt] (.Tuple [a,b] k2 pt2) pos.line X.env=pure false:=by rfl) :
  PS X (.Assign [.Tuple [.Name x d,.Name y c] kt pt] (.Tuple [a,b] k2 pt2) pos) (Rc i j e):=by
 intro a s e H D I h;calc Rm (zDZ ?_);calc Rm (Rz ?_);calc Rm (Tuple_ (Rw (f _ a s e H _ I h) λi f c=>?_));let⟨A,h,o,n,g⟩:=c;let⟨v,w,c,g⟩:=g;subst c;obtain⟨d,c,rfl,j,s⟩:∃d c,i=[d,c]/\RelV v d/\RelV w c:=by
  cases n with
  |cons p q =>
   cases q with
   |cons E i =>
    cases i
    lia
 calc Z9 ?_ (by show 2<=sizeLine;decide);let i:Inv X a e h {f with heap:=f.heap.push {cls:=.type "tuple", data:=.seq [d,c].toArray} }:=o.kept (t':=f.toks) λb o e=>T6 _ e
 rw[r];calc Rm (Rz ?_);calc Rm (Y1 (Rm (unpackItems_tuple (items:=#[d,c]) (I.ok.hd z) (IsTup.new f.heap _) λh' a=>?_)));let c:=i.kept (h':=h') (t':=f.toks) λb o e=>a b o (Uv (SJ e)) e
 calc Rm (assignInOrder_cons (wpAny_bindName (dP c m t (.inl k) s (λC a=>?_) (.inr k))));calc assignInOrder_cons (wpAny_bindName (dP a m u (.inl l) j (λB a=>assignInOrder_nil (Rz ?_)) (.inr l)));rw[List.set_comm _ _ 35]at a;calc⟨_,h,a,g⟩
def Rb(i:Nat)(te:TE)(b:TIp):TS:=λD a H=>∃x,a[i]?=some (some x)/\te a H λy c=>b x y c λz b=>D.nx (a.set i (some z)) b
def Pe{i:Nat}{x:Str}{e:Expr}{te:TE}{c:Operator}{b:TIp}{a:Pos}(q:X.N.Nodup)(g:X.N[i]?=some x)(d:Loc X.env.scope x)(p:PE X e te)(j:PIp X c b)(o:X.fn x=true∨X.env.scope.names.lookup x=some .local:=by first|calc .inl rfl|calc .inr rfl|assumption) :
  PS X (.AugAssign (.Name x a) c e pos) (Rb i te b):=by
 intro a s f H D I h;let⟨v,t,h⟩:=h;let⟨m,m,n⟩:=I.loc;let b:Ym X.env.scope x:=by obtain k|k:=d;calc .inl k;exact .inr (.inl k)
 let⟨u,r,l⟩:=n i x v g t b;calc wpAny_AugAssign_Name ?_;let i:wpAny (model X.prog X.w) X.A (eval e X.env) (λw e=>wpAny (model X.prog X.w) X.A (inplaceOp c u w) (λr b=>wpAny (model X.prog X.w) X.A (storeName X.env x r) (λ_=>SP X a D .next) X.xe b) X.xe e) X.xe s:=by
  refine Rw (p a s f H _ I h) λw c b=>?_
  let⟨y,p,n,e,h⟩:=b;refine Rw (j a c f p v y u w _ n r e h) λz C b=>?_
  let⟨A,f,e,a,c⟩:=b;exact dP e q g d a (λB a=>⟨_,f,a,c⟩) o
 rcases l with⟨a,b⟩| ⟨a,c,c,e⟩;calc wpAny_loadName_local I.ok.kind a m b i;obtain a|a:=a;calc wpAny_loadName_cell I.ok.kind a c e i;obtain k|k:=d;have:X.env.scope.names.lookup x=some .free:=a
 lia
 have:X.env.scope.names.lookup x=some .free:=a
 lia
def ipI(f:Int->Int->Int):TIp:=λx y H Q=>∃i j,x=.int i/\y=.int j/\Q (.int (f i j)) H
def OI:PIp X .Add (ipI λi j=>i+j):=by intro a s f H x y v u Q I c b h;let⟨i,j,e,d,q⟩:=h;subst e;subst d;let⟨t,rfl⟩:=c;let⟨g,rfl⟩:=b;calc iadd_int ⟨.int _,H,I.tok _,⟨_,rfl⟩,q⟩
end
structure It where
 go:Nat->Hp->Prop
 yld:Nat->Hp->V->Hp->Prop
 stop:Nat->Hp->Prop
def fF(X:Cx)(a:yab)(H:Hp)(b:Addr):Prop :=
 H b=none/\b≠X.env.locals/\b∉X.fs/\(b∈X.ex∨X.RT.heap.objs.size<=b)/\(∀x c,X.env.cells.lookup x=some c->c≠b)/\∀p∈X.pn++a,p.1≠b
def Inv.fpOk{H':Hp}{b:Addr}(I:Inv X pins σ H s)(a:s.heap.objs.size<=b)(c:H' b=none):fF X pins H' b:=by calc⟨c,Yk (Tp I.lt a),I.nofs a,.inr (Sd I.sz a),λx c e z=>?_,λp a z=>?_⟩;let⟨v,q⟩:=I.cell x c e;calc absurd (Tp q.lt 46) (Zm _);calc absurd (Tp (SJ (I.pin p a).1) 46) (Zm _)
structure Turn(P:Program)(w:World)(K:yac)(tg:Expr)(J:It)(fp:yae)(it:Addr)(tn:Nat->Heap->Prop):Prop where
 mem:it∈fp
 obj:∀i h,tn i h->∀b∈fp,∃o,h.get? b=some o/\∀v,o.data ≠ .cell v
 keep:∀i h h',tn i h->(∀b∈fp,∀o,h.get? b=some o->h'.get? b=some o)->tn i h'
 item:∀(X:Cx),X.prog=P->X.w=w->X.K=K->X.calm=true->∀(i:Nat) (pins:yab) (s:Shared) (σ:St) (H:Hp) (E:yaa),Inv X pins σ H s->(∀b∈fp,fF X pins H b)->tn i s.heap->J.go i H →
  wpAny (model P w) X.A (pyNext (.ref it)) (λr s1=>∃u,r=some u ∧
   wpAny (model P w) X.A (letOwnedTupleGo tg (.ref it) u) (λ_ s2=>∃x H',Inv X pins σ H' s2/\RelV x u/\J.yld i H x H'/\tn (i+1) s2.heap/\∀b∈fp,H' b=none) E s1) E s
 done:∀(X:Cx),X.prog=P->X.w=w->X.K=K->X.calm=true->∀(i:Nat) (pins:yab) (s:Shared) (σ:St) (H:Hp) (E:yaa),Inv X pins σ H s->(∀b∈fp,fF X pins H b)->tn i s.heap->J.stop i H →
  wpAny (model P w) X.A (pyNext (.ref it)) (λr s1=>r=none/\Inv X pins σ H s1) E s
 self:∀(A:Around) (i:Nat) (s:Shared) (Q:yaa) (E:yaa),tn i s.heap->Q (.ref it) s->wpAny (model P w) A (pyIter (.ref it)) Q E s
abbrev TI:=St->Hp->(It->Hp->Prop)->Prop
def PIE(X:Cx)(a:yab)(f:St)(g:Expr)(R:It->Hp->Prop)(h:Value)(b:Shared):Prop :=
 ∃ (d:Addr) (e:yae) (tn:Nat->Heap->Prop) (J:It) (c:Hp),h=.ref d/\Inv X a f c b/\Turn X.prog X.w X.K g J e d tn/\tn 0 b.heap/\(∀b∈e,fF X a c b)/\R J c
def PI(X:Cx)(d b:Expr)(wi:TI):Prop :=
 ∀ (a:yab) (s:Shared) (c:St) (H:Hp) (R:It->Hp->Prop),Inv X a c H s->wi c H R →
  wpAny (model X.prog X.w) X.A (eval b X.env) (λv b=>wpAny (model X.prog X.w) X.A (pyIter v) (PIE X a c d R) X.xe b) X.xe s
def KD {s : Shared} {o : Obj} {Q : Unit -> Shared -> Prop} (b : s.heap.get? it = some o) (e : o.cls = .type n) (d : o.data = .fields vs)
    (c : ["enumerate", "zip", "dict_itemiterator", "dict_reverseitemiterator", "odict_iterator", "itertools.zip_longest", "itertools.pairwise"].contains n = false) (a : Q () s) : wpAny M A (letOwnedTupleGo tg (.ref it) u) Q E s := by
  ext letOwnedTupleGo;cases tg <;> first
    | calc Rz a
    | (cases u <;> first
        | calc Rz a
        | (refine Rm (wpAny_load b ?_)
           rw [e, d];show wpAny M A (if (["enumerate", "zip", "dict_itemiterator", "dict_reverseitemiterator", "odict_iterator", "itertools.zip_longest", "itertools.pairwise"].contains n && vs[0]? == some (rawInt _)) = true then _ else _) Q E s;rw [if_neg (by intro h; rw [c, Bool.false_and] at h; cases h)];calc Rz a))
def Itl(K:yac)(a:Addr):It :=
 ⟨λi H=>∃b x,SqL K H a b/\b[i]?=some x,λi H x c=>c=H/\∀b,SqL K H a b->b[i]?=some x,λi H=>∃b,SqL K H a b/\#[b]<=i⟩
def HM{P:Program}{w:World}{K:yac}{b:Expr}(a f:Addr):Turn P w K b (Itl K a) [f] f (λi h=>h.IsListIter f a i) where
 mem:=52
 obj:=λi h st b g=>by
  let e:b=f:=by simpa using g
  subst e;let⟨o,e,c,d⟩:=st;exact⟨o,e,λv z=>by rw[d]at z;cases z⟩
 keep:=λi h m st k=>st.at λo e=>k f 52 o e
 item:=by
  intro X w r y L i a s J H E I l st t;subst w r y;let⟨M,x,k,q⟩:=t;let⟨T,n,p,O⟩:=I.list k;let⟨u,j,N⟩:=n.get q;let⟨G,C,Q,B,A,z⟩:=l f 52;refine wpAny_pyNext_list_item st p.isList (x:=u) (by simpa using j) λm j sb=>?_
  let U:Inv X a J H {s with heap:=m}:=I.turned (t':=s.toks) (λb o g e=>(sb.2 b g).trans e) G C B A z;let⟨o,e,c,d⟩:=id j;exact⟨u,rfl,KD (s:={s with heap:=m}) e c d 29 ⟨x,H,U,N,⟨rfl,λY c=>by rw[I.Xv c k];calc q⟩,j,λb g=>(l b g).1⟩⟩
 done:=by intro X w r y L i a s J H E I l st t;subst w r y;let⟨M,k,q⟩:=t;let⟨T,n,p,O⟩:=I.list k;let⟨G,C,Q,B,A,z⟩:=l f 52;let hl:=#[n];exact wpAny_pyNext_list_end (I.ok.hd L) st p.isList (by simp;lia) λm a=>⟨rfl,I.turned (t':=s.toks) (λb o g e=>a b o g e) G C B A z⟩
 self:=λ_ _ _ _ _ st h=>wpAny_pyIter_listiter st h
section
variable{X:Cx}{tg:Expr}
def Qh(K:yac)(tl:TE):TI:=λa H R=>tl a H λx b=>∃a,x=.ref a/\(∃c,SqL K b a c)/\R (Itl K a) b
def ME{l:Expr}{tl:TE}(c:PE X l tl):PI X tg l (Qh X.K tl):=by
 intro a s b H R I h;refine Rw (c a s b H _ I h) λv c a=>?_
 let⟨x,h,d,b,f⟩:=a;let⟨a,e,⟨i,g⟩,q⟩:=f;subst e;cases b;let⟨Ru,j,p,k⟩:=d.list g;calc wpAny_pyIter_list p.isList ?_;calc⟨c.heap.objs.size,[c.heap.objs.size],_,_,h,rfl,d.kept (t':=c.toks) λb o e=>T6 _ e,HM a _,⟨_,Vj _ rfl,rfl,rfl⟩,λb m=>?_,q⟩;let e:b=c.heap.objs.size:=46
 calc d.fpOk 35 (d.R5.fresh 35)
def vt(a:yae)(h:Heap):yab:=a.filterMap λb=>(h.get? b).map λo=>(b,o)
def jQ{a:yae}{h:Heap}{b:Addr}{o:Obj}(c:b∈a)(e:h.get? b=some o):(b,o)∈vt a h:=zDD.mpr ⟨b,c,by rw[e];rfl⟩
def GR{p:Addr×Obj}(a:p∈vt fp h):p.1∈fp/\h.get? p.1=some p.2:=by
 let⟨b,c,e⟩:=zDD.mp a;cases q:h.get? b with
 |none=>grind
 |some o =>
  grind
def Inv.pinned{a:yae}(I:Inv X pins σ H s)(d:∀b∈a,fF X pins H b)(c:∀b∈a,∃o,s.heap.get? b=some o/\∀v,o.data ≠ .cell v):Inv X (pins++vt a s.heap) σ H s :=
 I.Yn λp a=>(S7.mp a).elim (λz=>I.pin p (VA _ z)) λz=>by let⟨a,e⟩:=GR z;let⟨h,g,f,_⟩:=d p.1 a;let⟨o,b,d⟩:=c p.1 a;rw[e]at b;cases b;calc⟨e,h,g,f,d⟩
def Inv.UE{a b:yab}(I:Inv X (a++b) σ H s):Inv X a σ H s:=I.Yn λp a=>I.pin p (VA _ (Xe _ a))
end
abbrev R2:=V->V->Hp->VK->Prop
def Wu(X:Cx)(f:Value->Value->Sem Value)(r:R2):Prop :=
 ∀ (a:yab) (s:Shared) (b:St) (H:Hp) (x y:V) (v u:Value) (Q:VK),Inv X a b H s->RelV x v->RelV y u->r x y H Q →
  wpAny (model X.prog X.w) X.A (f v u) (EP X a b Q) X.xe s
def UnR(X:Cx)(f:Value->Sem Value)(r:V->Hp->VK->Prop):Prop :=
 ∀ (a:yab) (s:Shared) (b:St) (H:Hp) (x:V) (v:Value) (Q:VK),Inv X a b H s->RelV x v->r x H Q →
  wpAny (model X.prog X.w) X.A (f v) (EP X a b Q) X.xe s
def kZ(X:Cx)(f:Value)(r:yar->Hp->VK->Prop):Prop :=
 ∀ (a:yab) (s:Shared) (b:St) (H:Hp) (c:yar) (d:yad) (Q:VK),Inv X a b H s->Vals c d->r c H Q →
  wpAny (model X.prog X.w) X.A (call f d) (EP X a b Q) X.xe s
def tOp(r:R2)(c b:TE):TE:=λa H Q=>c a H λx c=>b a c λy a=>r x y a Q
def rI(C:Int->Int->Prop)(g:Int->Int->V):R2:=λx y H Q=>∃i j,x=.int i/\y=.int j/\C i j/\Q (g i j) H
def rI0(g:Int->Int->V):R2:=λx y H Q=>∃i j,x=.int i/\y=.int j/\Q (g i j) H
def rU(g:Int->V):V->Hp->VK->Prop:=λx H Q=>∃i,x=.int i/\Q (g i) H
section
variable{X:Cx}{a b c:Expr}{ta tb tc:TE}{pos:Pos}
def QV(k:PE X a ta)(l:PE X b tb){d:yab}{s:Shared}{e:St}{H:Hp}{R:V->V->Hp->Prop}(I:Inv X d e H s)
  (h:ta e H λx j=>tb e j λy g=>R x y g) {Q:yaa} {f:Value->Value->Sem Value}
  (r:∀v u i x y g,Inv X d e g i->RelV x v->RelV y u->R x y g->wpAny (model X.prog X.w) X.A (f v u) Q X.xe i) :
  wpAny (model X.prog X.w) X.A (eval a X.env) (λv n=>wpAny (model X.prog X.w) X.A (eval b X.env) (λu m=>wpAny (model X.prog X.w) X.A (f v u) Q X.xe m) X.xe n) X.xe s:=by
 refine Rw (k d s e H _ I h) λv h f=>?_
 let⟨x,j,m,p,k⟩:=f;refine Rw (l d h e j _ m k) λu i f=>?_
 let⟨y,g,I2,o,q⟩:=f;grind
def opI{f:Value->Value->Sem Value}{C:Int->Int->Prop}{g:Int->Int->Int}
  (rule:∀(i j:Int) (t u:Tok) (s:Shared) (Q:yaa) (E:yaa),C i j->Q (.int (g i j) s.toks) {s with toks:=s.toks+1}->wpAny (model X.prog X.w) X.A (f (.int i t) (.int j u)) Q E s) :
  Wu X f (rI C λi j=>.int (g i j)):=by
 intro d s l H x y v u Q I e f h;let⟨i,j,rfl,rfl,k,q⟩:=h;let⟨t,rfl⟩:=e;let⟨e,rfl⟩:=f;calc rule i j t e s _ _ k ⟨.int (g i j),H,I.tok _,⟨_,rfl⟩,q⟩
def O1{f:Value->Value->Sem Value}{g:Int->Int->Int}
  (rule:∀(i j:Int) (t u:Tok) (s:Shared) (Q:yaa) (E:yaa),Q (.int (g i j) s.toks) {s with toks:=s.toks+1}->wpAny (model X.prog X.w) X.A (f (.int i t) (.int j u)) Q E s) :
  Wu X f (rI0 λi j=>.int (g i j)):=by
 intro d s k H x y v u Q I e f h;let⟨i,j,rfl,rfl,q⟩:=h;let⟨t,rfl⟩:=e;let⟨e,rfl⟩:=f;calc rule i j t e s _ _ ⟨.int (g i j),H,I.tok _,⟨_,rfl⟩,q⟩
def EG{f:Value->Value->Sem Value}{g:Int->Int->Bool}
  (rule:∀(i j:Int) (t u:Tok) (s:Shared) (Q:yaa) (E:yaa),Q (.bool (g i j)) s->wpAny (model X.prog X.w) X.A (f (.int i t) (.int j u)) Q E s) :
  Wu X f (rI0 λi j=>.bl (g i j)):=by
 intro d s k H x y v u Q I e f h;let⟨i,j,rfl,rfl,q⟩:=h;let⟨t,rfl⟩:=e;let⟨e,rfl⟩:=f;calc rule i j t e s _ _ ⟨.bl (g i j),H,I,rfl,q⟩
def Ic(i j:Int):Prop:=0<=j/\j<=1000000/\i.natAbs<2 ^ 64
def O2:Wu X (binaryOp .Add) (rI0 λi j=>.int (i+j)):=O1 λ_ _ _ _ _ _ _ q=>add_int q
def O5:Wu X (binaryOp .Sub) (rI0 λi j=>.int (i - j)):=O1 λ_ _ _ _ _ _ _ q=>sub_int q
def Mz:Wu X (binaryOp .Mod) (rI (λ_ j=>j≠0) λi j=>.int (i.fmod j)):=opI λ_ _ _ _ _ _ _ d q=>mod_int' d q
def O4:Wu X (binaryOp .Pow) (rI Ic λi j=>.int (i ^ j.toNat)):=opI λ_ _ _ _ _ _ _ d q=>pow_int_small d.1 d.2.1 d.2.2 q
def unI{f:Value->Sem Value}{g:Int->Int}
  (rule:∀(i:Int) (t:Tok) (s:Shared) (Q:yaa) (E:yaa),Q (.int (g i) s.toks) {s with toks:=s.toks+1}->wpAny (model X.prog X.w) X.A (f (.int i t)) Q E s) :
  UnR X f (rU λi=>.int (g i)):=by
 intro d s j H x v Q I e h;let⟨i,rfl,q⟩:=h;let⟨t,rfl⟩:=e;calc rule i t s _ _ ⟨.int (g i),H,I.tok _,⟨_,rfl⟩,q⟩
def PJ:UnR X (unaryOp .USub) (rU λi=>.int (-i)):=unI λ_ _ _ _ _ q=>neg_int q
end
def xr:V->V->Bool
 |.RZ,.RZ=>true|.RZ,.int _=>true|.int _,.RZ=>true|.RZ,.bl _=>true|.bl _,.RZ=>true|.RZ,.str _=>true|.str _,.RZ=>true
 |.int _,.int _=>true|.bl _,.bl _=>true|.str _,.str _=>true|.Zo _,.Zo _=>true
 |.int _,.str _=>true|.str _,.int _=>true|.bl _,.str _=>true|.str _,.bl _=>true
 |_,_=>false
def rEq:R2:=λx y H Q=>xr x y=true/\Q (.bl (decide (x=y))) H
def rNe:R2:=λx y H Q=>xr x y=true/\Q (.bl (!decide (x=y))) H
def Cz:decide (V.int i=V.int j)=(i==j):=35
def FZ:decide (V.bl i=V.bl j)=(i==j):=35
def CA:decide (V.str i=V.str j)=(i==j):=35
def Cy:decide (V.Zo i=V.Zo j)=(i.toList==j.toList):=by
 rw[Bool.eq_iff_iff]
 cbv
section
variable{X:Cx}{a b c:Expr}{ta tb tc:TE}{pos:Pos}
def bc{Q:VK}{d:Bool}(I:Inv X pins σ H s)(q:Q (.bl k) H)(e:k=d):EP X pins σ Q (.bool d) s:=by subst e;calc⟨.bl k,H,I,rfl,q⟩
def Ql:Wu X (compareOp .Eq) rEq:=by
 intro k s l H x y v u Q I g d h;let⟨f,q⟩:=h;cases x with
 |RZ =>
  cases g;cases y with
  |RZ=>cases d;calc PySem.EqNone.eq_none_none (bc I q 52)
  |bl j=>cases d;calc PySem.EqNone.eq_none_bool (bc I q 52)
  |int j=>let⟨e,rfl⟩:=d;calc PySem.EqNone.eq_none_int (bc I q 52)
  |str j=>let⟨e,rfl⟩:=d;calc PySem.EqNone.eq_none_str (bc I q 52)
  |_=>calc absurd (show false=true from f) 35
 |bl i =>
  cases g;cases y with
  |RZ=>cases d;calc PySem.EqNone.eq_bool_none (bc I q 52)
  |bl j=>cases d;calc eq_bool (bc I q FZ)
  |str j=>let⟨e,rfl⟩:=d;calc PySem.EqMixed.eq_bool_str (bc I q 52)
  |_=>calc absurd (show false=true from f) 35
 |int i =>
  let⟨t,rfl⟩:=g;cases y with
  |RZ=>cases d;calc PySem.EqNone.eq_int_none (bc I q 52)
  |int j=>let⟨e,rfl⟩:=d;calc eq_int (bc I q Cz)
  |str j=>let⟨e,rfl⟩:=d;calc PySem.EqMixed.eq_int_str (bc I q 52)
  |_=>calc absurd (show false=true from f) 35
 |str i =>
  let⟨t,rfl⟩:=g;cases y with
  |RZ=>cases d;calc PySem.EqNone.eq_str_none (bc I q 52)
  |bl j=>cases d;calc PySem.EqMixed.eq_str_bool (bc I q 52)
  |int j=>let⟨e,rfl⟩:=d;calc PySem.EqMixed.eq_str_int (bc I q 52)
  |str j=>let⟨e,rfl⟩:=d;calc eq_str (bc I q CA)
  |_=>calc absurd (show false=true from f) 35
 |Zo i =>
  let⟨t,rfl⟩:=g;cases y with
  |Zo j=>let⟨e,rfl⟩:=d;calc PySem.W.eq_bytes (bc I q Cy)
  |_=>calc absurd (show false=true from f) 35
 |_=>cases y<;>calc absurd (show false=true from f) 35
def Qq:Wu X (compareOp .NotEq) rNe:=by
 intro k s l H x y v u Q I g d h;let⟨f,q⟩:=h;cases x with
 |RZ =>
  cases g;cases y with
  |RZ=>cases d;calc PySem.EqNone.ne_none_none (bc I q 52)
  |bl j=>cases d;calc PySem.EqNone.ne_none_bool (bc I q 52)
  |int j=>let⟨e,rfl⟩:=d;calc PySem.EqNone.ne_none_int (bc I q 52)
  |str j=>let⟨e,rfl⟩:=d;calc PySem.EqNone.ne_none_str (bc I q 52)
  |_=>calc absurd (show false=true from f) zCE
 |bl i =>
  cases g;cases y with
  |RZ=>cases d;calc PySem.EqNone.ne_bool_none (bc I q 52)
  |bl j=>cases d;calc ne_bool (bc I q (congrArg not FZ))
  |str j=>let⟨e,rfl⟩:=d;calc PySem.EqMixed.ne_bool_str (bc I q 52)
  |_=>calc absurd (show false=true from f) zCE
 |int i =>
  let⟨t,rfl⟩:=g;cases y with
  |RZ=>cases d;calc PySem.EqNone.ne_int_none (bc I q 52)
  |int j=>let⟨e,rfl⟩:=d;calc ne_int (bc I q (congrArg not Cz))
  |str j=>let⟨e,rfl⟩:=d;calc PySem.EqMixed.ne_int_str (bc I q 52)
  |_=>calc absurd (show false=true from f) zCE
 |str i =>
  let⟨t,rfl⟩:=g;cases y with
  |RZ=>cases d;calc PySem.EqNone.ne_str_none (bc I q 52)
  |bl j=>cases d;calc PySem.EqMixed.ne_str_bool (bc I q 52)
  |int j=>let⟨e,rfl⟩:=d;calc PySem.EqMixed.ne_str_int (bc I q 52)
  |str j=>let⟨e,rfl⟩:=d;calc ne_str (bc I q (congrArg not CA))
  |_=>calc absurd (show false=true from f) zCE
 |Zo i =>
  let⟨t,rfl⟩:=g;cases y with
  |Zo j=>let⟨e,rfl⟩:=d;calc PySem.W.ne_bytes (bc I q (congrArg not Cy))
  |_=>calc absurd (show false=true from f) zCE
 |_=>cases y<;>calc absurd (show false=true from f) zCE
def Qp:Wu X (compareOp .Lt) (rI0 λi j=>.bl (decide (i<j))):=EG λ_ _ _ _ _ _ _ q=>lt_int q
def Qo:Wu X (compareOp .LtE) (rI0 λi j=>.bl (decide (i<=j))):=EG λ_ _ _ _ _ _ _ q=>le_int q
def Qn:Wu X (compareOp .Gt) (rI0 λi j=>.bl (decide (j<i))):=EG λ_ _ _ _ _ _ _ q=>gt_int q
def Qm:Wu X (compareOp .GtE) (rI0 λi j=>.bl (decide (j<=i))):=EG λ_ _ _ _ _ _ _ q=>ge_int q
def O3:Wu X (compareOp .Is) (λx y H Q=>y=.RZ/\Q (.bl (decide (x=.RZ))) H):=by
 intro d s g H x y v u Q I f e h;let⟨rfl,q⟩:=h;cases e;calc is_none_gen (bc I q ?_);cases x<;>first
  |(rfl)
  |(let⟨t,rfl⟩:=f;rfl)
def MB:Wu X (compareOp .IsNot) (λx y H Q=>y=.RZ/\Q (.bl (!decide (x=.RZ))) H):=by
 intro d s g H x y v u Q I f e h;let⟨rfl,q⟩:=h;cases e;calc isnot_none_gen (bc I q ?_);cases x<;>first
  |(rfl)
  |(let⟨t,rfl⟩:=f;rfl)
def u9:(sizeLine:Nat)<2 ^ 63:=29
def vals1{x:V}(r:Vals [x] us):∃u,us=[u]/\RelV x u:=by
 cases r with
 |cons e d=>cases d;cbv
def vals2{x y:V}(r:Vals [x,y] us):∃u d,us=[u,d]/\RelV x u/\RelV y d:=by
 cases r with
 |cons f d =>
  cases d with
  |cons e d=>cases d;calc⟨_,_,rfl,f,e⟩
def IB:kZ X (.builtin "abs") (λxs H Q=>∃i,xs=[.int i]/\Q (.int (if i<0 then -i else i)) H):=by intro d s e H xs f Q I r h;let⟨i,rfl,q⟩:=h;let⟨u,rfl,t,rfl⟩:=vals1 r;calc call_abs_int λu g=>⟨.int (if i<0 then -i else i),H,I.tok _,⟨_,rfl⟩,q⟩
def FG (d:X.calm=true):kZ X (.builtin "max") (λxs H Q=>∃i j,xs=[.int i,.int j]/\Q (.int (if j > i then j else i)) H):=by
 intro e s f H xs l Q I r h;let⟨i,j,rfl,q⟩:=h;let⟨u,g,rfl,⟨t,rfl⟩,⟨n,rfl⟩⟩:=vals2 r;refine max_two_ints (I.ok.hd d) λo m k=>⟨_,H,I.kept k,?_,q⟩
 by_cases d:j > i;rw[Rr d,Rr d];calc⟨_,rfl⟩;rw[if_neg d,if_neg d];calc⟨_,rfl⟩
def FH (d:X.calm=true):kZ X (.builtin "min") (λxs H Q=>∃i j,xs=[.int i,.int j]/\Q (.int (if j<i then j else i)) H):=by
 intro e s f H xs l Q I r h;let⟨i,j,rfl,q⟩:=h;let⟨u,g,rfl,⟨t,rfl⟩,⟨n,rfl⟩⟩:=vals2 r;refine min_two_ints (I.ok.hd d) λo m k=>⟨_,H,I.kept k,?_,q⟩
 by_cases d:j<i;rw[Rr d,Rr d];calc⟨_,rfl⟩;rw[if_neg d,if_neg d];calc⟨_,rfl⟩
def FF:kZ X (.type "int") (λxs H Q=>(∃i,xs=[.int i]/\Q (.int i) H)∨∃ k,xs=[.bl k]/\Q (.int (if k then 1 else 0)) H):=by
 intro d s f H xs g Q I r h;rcases h with⟨i,rfl,q⟩| ⟨k,rfl,q⟩;let⟨u,rfl,t,rfl⟩:=vals1 r;calc call_int_int ⟨.int i,H,I,⟨_,rfl⟩,q⟩;let⟨u,rfl,e⟩:=vals1 r;cases e;calc call_int_bool ⟨.int (if k then 1 else 0),H,I.tok _,⟨_,rfl⟩,q⟩
end
structure Ik(h:Heap)(x dx C:Addr)(mA:yam):Prop where
 obj:h.get? x=some (PySem.W.instObj C dx)
 ns:h.Ns1 dx mA
 ne:dx≠x
set_option tactic.hygienic true in
def GC{h:Heap}(n:h.Ns1 dx mA):∃a,h.get? dx=some a/\∀name,PySem.W.lookIn name a=some (mA name):=by
 let⟨o,f,i,a,d,c,_,b⟩:=n;calc⟨o,a,λname=>?_⟩;let e:=b name;unfold nsFind findBy at e;rw[<- Array.find?_toList]at e;ext PySem.W.lookIn;rw[d];dsimp only;split;grind;let a:f.toList.any (·.refKey)=false:=by rw[List.any_eq_false];intro y g;let⟨z,t,a⟩:=c y 72;simp[DictEntry.refKey,a]
 grind
def Ik.look(I:Ik h x dx C mA):∃a,PySem.W.InstAt h x (PySem.W.instObj C dx) C (some a)/\∀name,PySem.W.lookIn name a=some (mA name) :=
 let ⟨a,ho,hl⟩:=GC I.ns
 ⟨a,⟨I.obj,rfl,rfl,ho⟩,hl⟩
def lL.some_of{v:V}(r:lL (some v) o):∃u,o=some u/\RelV v u:=by
 cases o with
 |none=>calc(show False from r).elim
 |some u=>calc⟨u,rfl,r⟩
structure SE(K:yac)(C:Addr):Prop where
 pg:PySem.W.plainGet K C Str.empty=true
 hd:PySem.W.hasDictIn K C=true
 po:PySem.W.plainOver K C=true
 sa:PySem.W.findIn K (.ref C) "__setattr__" = some (some (.builtin "object.__setattr__"))
structure Con(K:yac)(C:Addr)(f:Str)(v:V)(u:Value):Prop where
 at_:PySem.W.findIn K (.ref C) f=some (some u)
 rel:RelV v u
 get:PySem.W.specialIn K u "__get__" = some none
 cp:PySem.W.copiedNames.contains f=false
structure Meth(K:yac)(C:Addr)(m:Str)(f:Addr):Prop where
 at_:PySem.W.findIn K (.ref C) m=some (some (.ref f))
 fn:PySem.W.isFn K (.ref f)=true
 kp:PySem.W.keepIn K (.ref f)=true
def Np(X:Cx)(c:Operator)(rd:V->V->Hp->VK->Prop):Prop :=
 ∀ (a:yab) (s:Shared) (b:St) (H:Hp) (x y:V) (u v:Value) (Q:VK),Inv X a b H s->RelV x u->RelV y v->rd x y H Q->wpAny (model X.prog X.w) X.A (inplaceOp c u v) (EP X a b Q) X.xe s
section
variable{X:Cx}{o e value:Expr}{f:Str}{pos pos' tpos:Pos}{ta tv:TE}
def Q3:V->V->Hp->VK->Prop:=λx y H Q=>∃i j,x=.int i/\y=.int j/\Q (.int (i+j)) H
def OF:Np X .Add Q3:=by rintro b s d H x y u v Q I a c ⟨i,j,rfl,rfl,q⟩;let⟨t,rfl⟩:=(show∃t,u=Value.int i t from a);let⟨a,rfl⟩:=(show∃a,v=Value.int j a from c);calc PyProof.Rows.iadd_int ⟨.int (i+j),H,I.tok _,⟨_,rfl⟩,q⟩
end
section
variable{X:Cx}{pins:yab}{σ:St}{H:Hp}{s:Shared}{A:Around}{E:yaa}{Q:yaa}{c:Value}{b:Bool}
inductive kB (K:yac) (H:Hp):V->Value->Prop where
 |RZ:kB K H .RZ (.type "NoneType")
 |bl (x:Bool):kB K H (.bl x) (.type "bool")
 |int (i:Int):kB K H (.int i) (.type "int")
 |str (x:Str):kB K H (.str x) (.type "str")
 |flt (x:UInt64):kB K H (.flt x) (.type "float")
 |lst {a:Addr} {xs:yar} (e:H a=some (.lst xs)):kB K H (.ref a) (.type "list")
 |frz {a:Addr} {o:Obj} {xs:yar} (e:H a=some (.frz o (.lst xs))):kB K H (.ref a) (.type "list")
 |tup {a:Addr} {xs:yar} (e:H a=some (.tup xs)):kB K H (.ref a) (.type "tuple")
 |dK {a:Addr} {kvs:List (Key×V)} (e:H a=some (.dK kvs)):kB K H (.ref a) (.type "dict")
 |dT {a:Addr} {kvs:List (List Key×V)} (e:H a=some (.dT kvs)):kB K H (.ref a) (.type "dict")
 |ins {a C dx:Addr} {fs:List (Str×V)} (e:H a=some (.ins C dx fs)) (cl:SE K C) (ha:PySem.W.findIn K (.ref C) "__class__" = some (some (.builtin "object.__class__")))
   (hn:PySem.W.specialIn K (.builtin "object.__class__") "__get__" = some (some (.builtin "getset_descriptor.__get__"))) (htk:PySem.W.takesIn K (.builtin "object.__class__")=some true)
   (hm:PySem.W.mroIn K C (.type "object")=some true):kB K H (.ref a) (.ref C)
end
structure bS(k:Nat)(A:Around):Prop where
 hd:A.handled=none
 dp:A.depth+3*k+5<recursionLimit
 un:A.units+16*k+200<cLine
def bS.mono{j:Nat}(r:bS k A)(h:j<=k):bS j A:=⟨r.hd,by have:=r.dp;lia,by have:=r.un;lia⟩
theorem bS.deeper{k:Nat}(r:bS (k+1) A)(env:Env):bS k (A.deeper env) :=
 ⟨r.hd,by have:=r.dp;show A.depth+1+3*k+5<_;lia,by have:=r.un;show A.units+3+16*k+200<_;lia⟩
theorem bS.depth(r:bS k A):A.depth<recursionLimit:=by have:=r.dp;lia
theorem bS.units(r:bS k A):A.units+64<cLine:=by have:=r.un;lia
def E4:TA:=λ_ H Q=>Q [] H
def rV(c:TE)(b:TA):TA:=λa H Q=>c a H λx c=>b a c λa b=>Q (x::a) b
section
variable{X:Cx}{e:Expr}{es:yai}{te:TE}{t:TA}{pos:Pos}
def mT:PA X [] E4:=λ_ _ _ _ H Q I h=>Calls.spliced_nil ⟨[],H,I,.nil,h⟩
def gI(c:PE X e te)(g:PA X es t)(hs:starEach (e::es) X.env=(false,eval e X.env)::starEach es X.env:=by rfl):PA X (e::es) (rV te t):=by intro pos a s b H Q I h;rw[hs];calc Calls.spliced_cons (Rw (c a s b H _ I h) λu c h=>?_);let⟨x,j,i,d,f⟩:=h;calc Rw (g pos a c b j _ i f) λk l f=>(by let⟨a,h,g,b,c⟩:=f;calc⟨x::a,h,g,.cons d b,c⟩)
end
abbrev Sp:=yar->Hp->VK->XK->Prop
abbrev CXT:=List Env->Hp->Shared->XK->yaa
structure Dv(P:Program)(w:World)(K:yac)(mg:yam)(base:Heap)(A:Around)(outer:List Env)(s:Shared)(H:Hp):Prop where
 frames:A.frames=some outer
 mod:Mod K mg base
 bs:∀b o,base.get? b=some o->s.heap.get? b=some o/\H b=none
 bsz:base.objs.size<=s.heap.objs.size
 Vr:s.heap.FunFrames base outer
 frf:∀b∈Wj outer,H b=none
 R5:UB P w H s.heap
 bare:AllBare s.gens
def CE(outer:List Env)(P:Program)(w:World)(H:Hp)(s:Shared)(Q:VK)(u:Value)(a:Shared):Prop :=
 ∃ v b,a.os=s.os/\AllBare a.gens/\Un (Wj outer) [] H b s.heap a.heap/\UB P w b a.heap/\RelV v u/\Q v b
def CR(CX:CXT)(outer:List Env)(P:Program)(w:World)(H:Hp)(s:Shared)(Q:VK)(E:XK)(r:Result)(a:Shared):Prop :=
 match r with
 |.ok (.ret u)=>CE outer P w H s Q u a
 |.ok _=>False
 |.error e=>CX outer H s E e a
structure aG(P:Program)(w:World)(K:yac)(mg:yam)(base:Heap)(CX:CXT)(k:Nat)(f:Addr)(fd:FuncData)(ps:yah)(sp:Sp):Prop where
 len:∀vs H Q E,sp vs H Q E->#[vs]=#[ps]
 run:∀(A:Around) (outer:List Env) (s:Shared) (H:Hp) (args:Args) (us:yad) (vs:yar) (Q:VK) (E:XK),bS k A->Dv P w K mg base A outer s H->BindsTo s fd args (ps.zip us)->Vals vs us->sp vs H Q E →
  codeAny (model P w) A (.call (.ref f) args) (CR CX outer P w H s Q E) s
section
variable{X:Cx}{pins:yab}{σ:St}{H:Hp}{s s':Shared}
def Inv.env0(I:Inv X pins σ H s):Dv X.prog X.w X.K X.mg X.base X.A X.stack s H :=
 ⟨I.ok.frames,I.ok.mod,I.bs,Sd I.ok.bsz I.sz,I.stack,I.WT,I.R5,I.bare⟩
def Inv.after(I:Inv X pins σ H s)(h:CE X.stack X.prog X.w H s Q u s'):EP X pins σ Q u s':=by let⟨v,e,os,a,un,c,r,q⟩:=h;let⟨hh,g,d,t,b⟩:=s';obtain rfl:b=s.os:=os;calc⟨v,e,I.call (h':=hh) (g':=g) (d':=d) (t':=t) (ch:=[]) un c a (λb z=>46),r,q⟩
end
def Binds(K:yac)(c:FuncData)(ps:yah)(b:yad):Prop :=
 ∀ (s:Shared) (a:yad),K.In s.heap->#[a++b]=#[ps]->BindsTo s c ⟨a,[]⟩ (ps.zip (a++b))
def Binds.all{K:yac}{b:FuncData}{ps:yah}(h:∀a:yad,#[a]=#[ps]->bindArgs b ⟨a,[]⟩=pure (ps.zip a)):Binds K b ps []:=λs a _ b=>by rw[Yx]at b ⊢;calc .of_eq (h a b)
def Passes(CX:CXT)(X:Cx)(E:XK):Prop:=∀(a:yab) (c:St) (H:Hp) (s:Shared) (e:Value) (b:Shared),Inv X a c H s->CX X.stack H s E e b->X.xe e b
section
variable{X:Cx}{CX:CXT}{k:Nat}{f C:Addr}{fd:FuncData}{ps:yah}{sp:Sp}{dvs:yar}{ds:yad}{E:XK}{x m:Str}{p pos apos:Pos}{e o:Expr}{es:yai}{ta:TE}{t:TA}
def Po(F:aG X.prog X.w X.K X.mg X.base CX k f fd ps sp)(b:bS k X.A)(g:Binds X.K fd ps ds)(d:Vals dvs ds)(c:Passes CX X E)
  (I:Inv X pins σ H s) (r:Vals vs us) (h:sp (vs++dvs) H Q E):wpAny (model X.prog X.w) X.A (call (.ref f) us) (EP X pins σ Q) X.xe s:=by
 let a:Vals (vs++dvs) (us++ds):=r.append d;let d:#[us++ds]=#[ps]:=by rw[<- #[a]];exact F.len _ _ _ _ h
 calc wpAny_call (codeAny_mono (F.run X.A X.stack s H ⟨us,[]⟩ (us++ds) (vs++dvs) Q E b I.env0 (g s us I.WK d) a h) λr b a=>?_);cases r with
 |error e=>calc c pins σ H s e b I a
 |ok b =>
  cases b with
  |ret u=>calc I.after a
  |next=>calc False.elim a
  |brk=>calc False.elim a
  |cont=>calc False.elim a
structure Mk(K:yac)(C f:Addr):Prop where
 makes:PySem.W.makesIn K C=true
 init:PySem.W.findIn K (.ref C) "__init__" = some (some (.ref f))
 fn:PySem.W.isFn K (.ref f)=true
 kp:PySem.W.keepIn K (.ref C)=true
end
section
variable{X:Cx}{CX:CXT}{k:Nat}{f C:Addr}{fd:FuncData}{ps ks:yah}{sp:Sp}{E:XK}{x m:Str}{p pos apos kpos:Pos}{e o:Expr}{es:yai}{SF:List Keyword}{te ta:TE}{t tk:TA}{nm:Option Str}
structure Fq(K:yac)(fd:FuncData)(ps ks:yah)(g:yad->yad->yad)(gV:yar->yar->yar):Prop where
 to:∀(s:Shared) (us ws:yad),K.In s.heap->#[g us ws]=#[ps]->BindsTo s fd ⟨us,ks.zip ws⟩ (ps.zip (g us ws))
 rel:∀{vs:yar} {us:yad} {zs:yar} {ws:yad},Vals vs us->Vals zs ws->Vals (gV vs zs) (g us ws)
variable{g:yad->yad->yad}{gV:yar->yar->yar}
end
structure ay(N P:yah)(sc:Scope):Prop where
 kind:sc.kind=.function
 co:sc.isCoroutine=false
 gen:sc.isGenerator=false
 nd:N.Nodup
 pre:N.take #[P]=P
 par:∀x∈P,sc.names.lookup x=some .local∨sc.names.lookup x=some .cell
 nofree:∀y∈sc.names,y.2 ≠ .free
theorem xT{kindOf:Str->Option NameKind}{x:Str}:∀{a:List (Str×Value)} {m:yam},(∀v,(x,v)∉a)->bindL kindOf a m x=m x
 |[],_,_=>rfl
 |(n,v)::r,m,h=>by
  ext bindL;rw[xT 72];split
  all_goals grind
theorem xR{kindOf:Str->Option NameKind}{x:Str}:∀{a:List (Str×Value)} {m:yam},(∀v,(x,v)∉a)->bindC kindOf a m x=m x
 |[],_,_=>rfl
 |(n,v)::r,m,h=>by
  ext bindC;rw[xR 72];split
  all_goals grind
theorem xS{kindOf:Str->Option NameKind}{x:Str}{v:Value}:∀{P:yah} {a:yad} {i:Nat} {m:yam},P.Nodup->P[i]?=some x->a[i]?=some v->kindOf x=some .local →
  bindL kindOf (P.zip a) m x=some v
 |[],_,_,_,_,h,_,_=>by simp at h
 |_::_,[],_,_,_,_,h,_=>by simp at h
 |p::P,w::a,0,m,e,d,c,b=>by simp at d c;subst d;subst c;show bindL kindOf ((p,w)::P.zip a) m p=_;ext bindL;rw[xT λv hv=>(zB9.mp e).1 (zDe hv).1,Rr b];simp
 |p::P,w::a,i+1,m,e,d,c,b=>by ext bindL;calc xS (i:=i) 72 46 46 b
theorem xQ{kindOf:Str->Option NameKind}{x:Str}{v:Value}:∀{P:yah} {a:yad} {i:Nat} {m:yam},P.Nodup->P[i]?=some x->a[i]?=some v->kindOf x≠some .local →
  bindC kindOf (P.zip a) m x=some v
 |[],_,_,_,_,h,_,_=>by simp at h
 |_::_,[],_,_,_,_,h,_=>by simp at h
 |p::P,w::a,0,m,e,d,c,b=>by simp at d c;subst d;subst c;show bindC kindOf ((p,w)::P.zip a) m p=_;ext bindC;rw[xR λv hv=>(zB9.mp e).1 (zDe hv).1,if_neg b];simp
 |p::P,w::a,i+1,m,e,d,c,b=>by ext bindC;calc xQ (i:=i) 72 46 46 b
noncomputable def start(N:yah)(a:yar):St:=a.map some++List.replicate (#[N] - #[a]) none
noncomputable def c9(CX:CXT)(P:Program)(w:World)(K:yac)(mg:yam)(base:Heap)(N:yah)(b:Str)(a:Scope)(f:Addr)(c:Value)(A:Around)(outer:List Env)(s:Shared)(H:Hp)(E:XK):Cx where
 prog:=P
 w:=w
 K:=K
 mg:=mg
 base:=base
 A:=A.deeper (envOfC b a s.heap.objs.size f c)
 N:=N
 RT:=s
 Sj:=H
 env:=envOfC b a s.heap.objs.size f c
 outer:=outer
 stack:=envOfC b a s.heap.objs.size f c::outer
 ex:=[]
 calm:=true
 fn:=λ_=>true
 pn:=[]
 xe:=λe d=>wpAny (model P w) (A.deeper (envOfC b a s.heap.objs.size f c)) (leaving (envOfC b a s.heap.objs.size f c) e) (λ_ a=>CX outer H s E e a) (λb a=>CX outer H s E b a) d
def zJ{a:Scope}(h:a.names.lookup x=some .cell):∃c,(cellsFrom n a.names []).lookup x=some c:=by let q:=PySem.W.cellsFrom_some a.names n [] (.inl h);calc Option.isSome_iff_exists.mp q
def Gm{CX:CXT}{P:Program}{w:World}{K:yac}{i:yam}{base:Heap}{N ps:yah}{c:Str}{a:Scope}{f:Addr}{h:Value}{A:Around}{outer:List Env}{s g:Shared}{H:Hp}{E:XK}{b:yad}{e:yar}
  (S:ay N ps a) (m:A.handled=none) (d:Dv P w K i base A outer s H) (t:#[e]=#[ps]) (r:Vals e b)
  (x:InCallC s s.heap.objs.size (bindL (envOfC c a s.heap.objs.size f h).kindOf (ps.zip b) λ_=>none) (cellsFrom (s.heap.objs.size+1) a.names []) (bindC (envOfC c a s.heap.objs.size f h).kindOf (ps.zip b) λ_=>none) g) :
  Inv (c9 CX P w K i base N c a f h A outer s H E) [] (start N e) H g:=by
 let TF:#[ps]<=#[N]:=by have:=congrArg List.length S.pre;grind
 let⟨k,o,rfl,l⟩:=x.done;let g:∀b:Addr,b∉(c9 CX P w K i base N c a f h A outer s H E).ex:=λb z=>absurd (show b∈([]:yae)from z) 52
 refine⟨⟨d.mod,S.kind,rfl,rfl,Sx _,λy z c k j=>?_,λy f=>?_,λy c _ h=>?_,λ_=>m,Around.frames_deeper d.frames,.inr ⟨rfl,rfl⟩,λb z=>absurd z (g b),d.bs,d.bsz,λb _ _=>g b,46,d.Vr,d.frf⟩,
  rfl,d.bare,Un.kept l,⟨_,x.toInCall.ns,λi y v k j B=>?_⟩,λy c h=>⟨_,x.cell y c h⟩,d.R5.fresh (Sx _),λy c h=>?_,λp g=>absurd (show p∈([]:yab)from g) 52,d.R5.kept l,?_⟩
 calc name_of_addr x.apart (PySem.mem_of_lookup k) (PySem.mem_of_lookup j);obtain f|f:=f;calc zJ f;calc absurd rfl (S.nofree _ (PySem.mem_of_lookup f));exact UD (x.above y c (PySem.mem_of_lookup h))
 ·let b:i<#[e]:=by
   unfold start at j;by_cases b:i<#[e]
   all_goals simp_all [WH,zCf]
  let b:e[i]?=some v:=by
   unfold start at j
   simp_all [WR,UR]
  let⟨u,f,e⟩:=r.get b;let g:ps[i]?=some y:=by rw[<- S.pre,List.getElem?_take_of_lt 35];exact k
  let b:ps.Nodup:=by rw[<- S.pre];exact S.nd.sublist (zDL _ _)
  calc⟨u,e,?_⟩;rcases S.par y (UX g)with k|k;calc .inl ⟨k,xS b g f k⟩;let⟨c,e⟩:=zJ (n:=s.heap.objs.size+1) k;calc .inr ⟨.inl k,c,e,?_⟩;let q:=x.cell y c e;rw[xQ b g f (by show a.names.lookup y≠_;rw[k];decide)]at q;exact q
 calc d.R5.fresh (UD (x.above y c (PySem.mem_of_lookup h)));ext start;show _=#[N];grind
def Kz{CX:CXT}{P:Program}{w:World}{K:yac}{j:yam}{base:Heap}{k:Nat}{f:Addr}{name c:Str}{b:Arguments}{d:yal}{a:Scope}{n kV i m h o u:Value}{q r:Option Addr}
  {l:Array (yan)} {N ps:yah} {sp:Sp} (lk:K.lookup f=some ⟨u,r,.func (PySem.W.fnOf name c b d a n kV i m q h o),l⟩) (C:PySem.W.codeIn K h c=true) (S:ay N ps a)
  (e:∀g H Q E,sp g H Q E->#[g]=#[ps])
  (B:∀(A:Around) (outer:List Env) (s:Shared) (H:Hp) (g:yar) (Q:VK) (E:XK),bS k (A.deeper (envOfC c a s.heap.objs.size f h))->sp g H Q E →
   ∃ t,PSs (c9 CX P w K j base N c a f h A outer s H E) d t/\t {nx:=λ_ H'=>Q .RZ H',rt:=Q} (start N g) H) :
  aG P w K j base CX (k+1) f (PySem.W.fnOf name c b d a n kV i m q h o) ps sp:=by
 calc⟨e,λA outer s H p n g Q E k d x r l=>?_⟩;let u:=e _ _ _ _ l;let m:K.In s.heap:=d.mod.VH.keeps λb o e=>(d.bs b o e).1
 let i:s.heap.NoLimit:=d.mod.nolimit.keeps λb o e=>(d.bs b o e).1
 let b:∀y∈ps.zip n,a.names.lookup y.1=some .local∨(a.names.lookup y.1=some .cell/\((cellsFrom (s.heap.objs.size+1) a.names []).lookup y.1).isSome=true):=λ⟨n,v⟩ o=>by
  obtain q|q:=S.par n (zDe o).1;exact .inl q
  simp_all [PySem.W.cellsFrom_some]
 calc codeAny_call_function k.depth (m _ _ lk) rfl S.co S.gen rfl (PySem.W.codeRec_of m C) (x _ _ _ _ ?_);refine wpAny_newFunctionEnv_cells S.kind b λz m b x=>?_
 subst m;calc⟨i.keeps x.toInCall.keep,codeAny_func ?_⟩;let⟨t,i,m⟩:=B A outer s H g Q E (k.deeper _) l;let I:Inv (c9 CX P w K j base N c a f h A outer s H E) [] (start N g) H b:=Gm S k.hd d u r x;refine VP (i [] b (start N g) H _ I m) (λi g b=>?_) λe g b=>b
 let d:∀{e:St} {H':Hp} {v:V} {u:Value},Inv (c9 CX P w K j base N c a f h A outer s H E) [] e H' g->RelV v u->Q v H'->CE outer P w H s Q u g :=
  fun {e H' v u} J a q=>⟨v,H',J.os,J.bare,J.base,J.R5,a,q⟩
 cases i with
 |ret u =>
  let⟨v,e,H',J,a,q⟩:=b;calc d J a q
 |next =>
  let⟨e,H',J,q⟩:=b;calc d (v:=V.RZ) (u:=Value.none) J rfl q
 |brk =>
  let⟨_,_,_,q⟩:=b
  cbv
 |cont =>
  let⟨_,_,_,q⟩:=b
  cbv
section
variable{X:Cx}{x:Str}{p pos:Pos}{e:Expr}{es:yai}{t:TA}{id T:String}{r:yar->Hp->VK->Prop}
def tCB(r:yar->Hp->VK->Prop)(t:TA):TE:=λa H Q=>t a H λa b=>r a b Q
def yw (j:kZ X (.type T) r) (f:Gl X x) (d:X.mg x=none) (hv:bootBuiltins x=some (.type T)) (g:PA X (e::es) t) (c:x ≠ "__name__" := by decide) (k:(x==("__debug__" : Str))=false:=by decide)
  (i:starEach (e::es) X.env=(false,eval e X.env)::starEach es X.env:=by rfl) (l:(backTo pos (starEach es X.env)).any (·.1)=false:=by rfl):PE X (.Call (.Name x p) (e::es) [] pos) (tCB r t):=by
 intro a s b H Q I h;calc Z8 (di I f d hv ?_ c k);calc PyProof.Rows.callWith_type1 (Rw (g pos a s b H _ I h) λd f k=>(by let⟨c,n,m,g,h⟩:=k;calc j a f b n c d Q m g h)) i l
end
end L2
namespace HT
open PySem PyProof.Rows
section
open PySem.SeqAt
open PySem.AutoSeq1 (wpAny_loadPart')
open PySem.MeetsSeq PySem.MeetsSeq2 PySem.MeetsSeq3
end
section
variable{prog:Program}{w:World}{A:Around}{E:yaa}{s:Shared}
noncomputable def SH(n d:Nat):yaq->Nat
 |none=>d
 |some v=>if v<0 then(v+(n:Int)).toNat else min v.toNat n
theorem J0(n d:Nat):SH n d none=d:=rfl
def ki(n d k:Nat):SH n d (some (k:Int))=min k n:=by
 show(if(k:Int)<0 then((k:Int)+(n:Int)).toNat else min (k:Int).toNat n)=min k n
 simp_all [if_neg,Int.toNat_natCast]
def Cr(v:Int)(n d:Nat):(if v<0 then max (v+(n:Int)) 0 else min v (n:Int))=((SH n d (some v):Nat):Int):=by
 show(if v<0 then max (v+(n:Int)) 0 else min v (n:Int))=(((if v<0 then(v+(n:Int)).toNat else min v.toNat n):Nat):Int)
 lia
theorem DN(lo a:yaq)(n:Nat):Builtin.Slice.sliceAdjust lo a 1 (n:Int)=(((SH n 0 lo:Nat):Int),((SH n n a:Nat):Int)):=by
 let b:¬((1:Int)<0):=35
 ext Builtin.Slice.sliceAdjust;calc Prod.ext ?_ ?_;cases lo with
 |none=>rfl
 |some v=>exact Cr v n 0
 cases a with
 |none=>rfl
 |some v=>calc Cr v n n
theorem EH(i j:Nat):Builtin.Slice.slicePlaces (i:Int) (j:Int) 1=j - i:=by
 ext Builtin.Slice.slicePlaces
 lia
def vN{Q:yaq->Shared->Prop}(p:IsPart v o)(h:Q o s):wpAny (model prog w) A (Builtin.Slice.slicePartIndex v) Q E s:=by
 cases p with
 |none=>calc slicePart_none h
 |int i t=>calc slicePart_int h
def uc{a:Addr}{c b:Value}{lo d:yaq}{n:Nat}{Q:Int×Int×Nat->Shared->Prop}(hs:s.heap.IsSliceOf a c b .none)(f:IsPart c lo)(e:IsPart b d)
  (h:Q (((SH n 0 lo:Nat):Int),1,SH n n d - SH n 0 lo) s):wpAny (model prog w) A (Builtin.Slice.sliceApplied (.ref a) (pure (n:Int))) Q E s:=by
 let⟨os,a,g,d⟩:=id hs;calc Rm (Rm (VY a d (x:=c) rfl (Rm (VY a d (x:=b) rfl (Rm (VY a d (x:=.none) rfl (Rz ?_)))))));calc Rm (slicePart_none ?_);calc Rm (vN f (Rm (vN e (Rm (Rz ?_)))));grind [DN,EH,wpAny_pure]
def JM(xs:yao)(i k:Nat):((List.range k).filterMap λ(m:Nat)=>xs[((i:Int)+(m:Int)*1).toNat]?).toArray=((xs.toList.drop i).take k).toArray:=by
 let e:(λ(m:Nat)=>xs[((i:Int)+(m:Int)*1).toNat]?)=λm=>xs[i+m]?:=72
 have:=pick_run xs i k;let a:((λx=>xs[x]?)∘λx=>i+x)=λm=>xs[i+m]?:=rfl
 cbv
def rX{t d:Addr}{items:yao}{e c:Value}{lo a:yaq}{Q:yaa}(b:IsTup s.heap t items)(hs:s.heap.IsSliceOf d e c .none)(j:IsPart e lo)(i:IsPart c a)
  (k:¬(SH items.size 0 lo=0/\SH items.size items.size a=items.size))
  (h:Q (.ref s.heap.objs.size) {s with heap:=s.heap.push {cls:=.type "tuple", data:=.seq ((items.toList.drop (SH items.size 0 lo)).take (SH items.size items.size a - SH items.size 0 lo)).toArray} })
  (hsz:items.size<=sizeLine):wpAny (model prog w) A (getItem (.ref t) (.ref d)) Q E s:=by
 let c:sizeOk (.seq ((items.toList.drop (SH items.size 0 lo)).take (SH items.size items.size a - SH items.size 0 lo)).toArray):=by
  show((items.toList.drop (SH items.size 0 lo)).take (SH items.size items.size a - SH items.size 0 lo)).toArray.size<=sizeLine;rw[WJ,Wq,Xg,VM]
  lia
 let⟨os,e,f,SY⟩:=id hs;let g:s.TypeIs (.ref d) "slice" := ⟨os,e,f⟩;ext getItem
 try with_reducible refine VU ?_
 calc Rm (wpAny_sequenceKey b.typeIs 29 ?_);refine Rm (zBa (name:=Str.ofString "__getitem__") b.typeIs PyProof.Rows.slot_tuple_getitem
  (YY PyProof.Rows.slot_tuple_getitem b.typeIs entry_tuple_getitem ?_ (args_tuple_getitem _ _)))
 show wpAny _ _ (Builtin.Tuple.tupleItemsOf (.ref t) >>= _) _ _ s;calc Rm (tupleItemsOf_ b ?_);calc Rm (wpAny_typeOf g ?_);calc Rm (uc hs j i ?_);let b:¬((((SH items.size 0 lo:Nat):Int)==0 && (1:Int)==1 && (SH items.size items.size a - SH items.size 0 lo)==items.size)=true):=35
 show wpAny _ _ (if(((SH items.size 0 lo:Nat):Int)==0 && (1:Int)==1 && (SH items.size items.size a - SH items.size 0 lo)==items.size)=true then _ else _) _ _ s;rw[if_neg b,JM]
 first
  |calc Rm (m:=Builtin.Tuple.tupleExact _) (Z9 (Rz ⟨_,rfl,Rz h⟩) c)
  |calc Rm (m:=Builtin.Tuple.tupleExact _) (Z9 (Rm (Rz (Rz ⟨_,rfl,Rz h⟩))) c)
  |calc Rm (Rm (m:=Builtin.Tuple.tupleExact _) (Z9 (Rz (Rz ⟨_,rfl,Rz h⟩)) c))
  |calc Rm (Rm (m:=Builtin.Tuple.tupleExact _) (Z9 (Rz ⟨_,rfl,Rz h⟩) c))
end
end HT
namespace L2
open PySem PySem.Spec PyProof.Rows
abbrev TO:=St->Hp->(yaq->Hp->Prop)->Prop
def intsAre_of{ns:yaf}:∀{a:yad},Vals (ns.map V.int) a->IntsAre a ns:=by
 induction ns with
 |nil=>intro a r;cases r;calc .nil
 |cons n ns ih =>
  intro a r;cases r with
  |cons b a =>
   let⟨t,e⟩:=b;subst e;calc .cons n t (ih a)
section
variable{X:Cx}{e:Expr}{te:TE}{lo hi:Option Expr}{tl th:TO}{pos p2:Pos}
def SlR(X:Cx)(r:V->yaq->yaq->Hp->VK->Prop):Prop :=
 ∀ (a:yab) (s:Shared) (b:St) (H:Hp) (x:V) (v d c:Value) (lo hi:yaq) (f:Addr) (Q:VK),Inv X a b H s->RelV x v->s.heap.IsSliceOf f d c .none->IsPart d lo->IsPart c hi->r x lo hi H Q →
  ∃ T id,typeLookup (.type T) "__getitem__" = pure (some (.builtin id))/\s.TypeIs v T/\wpAny (model X.prog X.w) X.A (getItem v (.ref f)) (EP X a b Q) X.xe s
def pW(xs:yar)(lo hi:yaq):yar:=(xs.drop (HT.SH #[xs] 0 lo)).take (HT.SH #[xs] #[xs] hi - HT.SH #[xs] 0 lo)
def sF(xs:yar)(lo hi:yaq):#[pW xs lo hi]<=#[xs]:=by
 ext pW;rw[Wq,Xg]
 lia
def Q6(K:yac):V->yaq->yaq->Hp->VK->Prop:=λx lo hi H Q=>∃a b,x=.ref a/\SK K H a b ∧
 ¬ (HT.SH #[b] 0 lo=0/\HT.SH #[b] #[b] hi=#[b])/\∀p,H p=none->Q (.ref p) (upd H p (.tup (pW b lo hi)))
def Pw:SlR X (Q6 X.K):=by
 intro d s l H x v n m lo hi p Q I b j g f h;let⟨a,c,rfl,a,i,q⟩:=h;cases b;let⟨k,r,b,h⟩:=I.tuple a;let a:k.toArray.size=#[c]:=by exact r.length.symm
 calc⟨"tuple", _,PyProof.Rows.slot_tuple_getitem.lookup,b.typeIs,?_⟩;calc HT.rX b j g f (by rw[a];calc i) ?_ 46;rw[a];calc⟨.ref s.heap.objs.size,_,I.laid (t':=s.toks) (o:=.tup (pW c lo hi)) (λb ob q=>T6 _ q) (Sx _) ?_,rfl,q _ (I.R5.fresh (Sx _))⟩;calc⟨Sd (sF c lo hi) h,_,(r.drop (HT.SH #[c] 0 lo)).take (HT.SH #[c] #[c] hi - HT.SH #[c] 0 lo),IsTup.new _ _⟩
end
noncomputable def ixN(n:Nat)(i:Int):Option Nat:=if 0<=i then(if i<n then some i.toNat else none)else if -(n:Int)<=i then some (i+n).toNat else none
def T7{a:Type}(xs:List a)(i:Int):Option a:=(ixN #[xs] i).bind λj=>xs[j]?
def CI{j:Nat}(h:ixN n i=some j):seqIndex? i n=some j/\j<n/\-(n:Int)<=i/\i<n:=by
 unfold ixN at h;by_cases b:0<=i;rw[Rr b]at h;by_cases a:i<n;grind [Option.some.inj,seqIndex_of]
 cbv
 rw[if_neg b]at h;by_cases a:-(n:Int)<=i;rw[Rr a]at h;grind [Option.some.inj,seqIndex_neg]
 cbv
def Cp{a:Type}{xs:List a}{i:Int}{v:a}(h:T7 xs i=some v):∃j,seqIndex? i #[xs]=some j/\xs[j]?=some v/\j<#[xs]/\-(#[xs]:Int)<=i/\i<#[xs]:=by
 unfold T7 at h;cases e:ixN #[xs] i with
 |none=>cbv
 |some j =>
  rw[e]at h;let⟨d,c,b,a⟩:=CI e;calc⟨j,d,h,c,b,a⟩
def bU{a:Type}{xs:List a}{j:Nat}{v:a}(h:xs[j]?=some v):T7 xs (j:Int)=some v:=by
 let b:j<#[xs]:=(VE.mp h).1;let e:ixN #[xs] (j:Int)=some j:=by
  ext ixN
  cbv
 ext T7;rw[e];calc h
def Iv{a:Type}(xs:List a)(v:a):T7 (xs++[v]) (-1)=some v:=by
 let b:#[xs++[v]]=#[xs]+1:=52
 let e:ixN #[xs++[v]] (-1)=some #[xs]:=by ext ixN;grind
 ext T7
 cbv
def Co(b:Expr):Prop:=∀o i,subscripted b false o i=operate [o,i] (getItem o i)
def IxR(X:Cx)(r:R2):Prop :=
 ∀ (c a:Expr) (b:yab) (s:Shared) (d:St) (H:Hp) (x y:V) (v u:Value) (Q:VK),Inv X b d H s->RelV x v->RelV y u->r x y H Q →
  subscripted a false v u=operate [v,u] (getItem v u)->wpAny (model X.prog X.w) X.A (subscriptTail c a v u) (EP X b d Q) X.xe s
def MtR(X:Cx)(id:String)(r:V->yar->Hp->VK->Prop):Prop :=
 ∀ (a:yab) (s:Shared) (b:St) (H:Hp) (x:V) (c:yar) (v:Value) (d:yad) (Q:VK),Inv X a b H s->RelV x v->Vals c d->r x c H Q →
  wpAny (model X.prog X.w) X.A (call (.builtin id) (v::d)) (EP X a b Q) X.xe s
section
variable{X:Cx}{a b:Expr}{ta tb:TE}{pos:Pos}
def KO(i:IxR X r)(f:PE X a ta)(e:PE X b tb)(hs:Co b):PE X (.Subscript a b pos) (tOp r ta tb):=by intro c s d H Q I h;calc Subscript_ (QV f e I h λv u e x y j h g f q=>i a b c e d j x y v u Q h g f q (hs _ _))
def Q4(K:yac):R2:=λx y H Q=>∃p c i v,x=.ref p/\y=.int i/\SqL K H p c/\T7 c i=some v/\Q v H
def JT(K:yac):R2:=λx y H Q=>∃p c i v,x=.ref p/\y=.int i/\SK K H p c/\T7 c i=some v/\Q v H
def L6:IxR X (Q4 X.K):=by
 intro e f c s k H x y v u Q I g d h l;let⟨p,A,i,z,rfl,rfl,j,n,q⟩:=h;cases g;let⟨t,rfl⟩:=d;let⟨u,r,g,B⟩:=I.list j;let⟨j,m,d,G,t,p⟩:=Cp n;let⟨w,o,h⟩:=r.get d;let E:=#[r];let C:=u9;let d:EP X c k Q w s:=⟨z,H,I,h,q⟩;by_cases n:0<=i;let h:i.toNat=j:=by
  rw[seqIndex_of n p]at m
  lia
 calc item_listR g.isList n 35 (by rw[h];simpa using o) d l;let h:(i+(u.toArray.size:Int)).toNat=j:=by
  rw[seqIndex_neg 35 t]at m
  cbv
 exact subscriptTail_builtinR (x:=w) g.isList.typeIs slot_list_getitem.lookup
  (wpAny_getItem_list_neg (Q:=λr i=>r=w/\EP X c k Q r i) g.isList 35 46 35 (by rw[h];simpa using o) ⟨rfl,d⟩) l
def Az:IxR X (JT X.K):=by
 intro d e c s g H x y v u Q I j f h k;let⟨p,m,i,z,rfl,rfl,i,l,q⟩:=h;cases j;let⟨t,rfl⟩:=f;let⟨Ru,r,h,n⟩:=I.tuple i;let⟨j,G,f,E,C,B⟩:=Cp l;let⟨w,l,i⟩:=r.get f;let A:=#[r];let o:=u9;let f:EP X c g Q w s:=⟨z,H,I,i,q⟩;exact subscriptTail_builtinR (x:=w) h.typeIs slot_tuple_getitem.lookup
  (getItem_tuple (j:=j) (Q:=λr i=>r=w/\EP X c g Q r i) h 35 35 46 (by simpa using l) ⟨rfl,f⟩) k
def Em (c:yad) (n j:Nat) (u:Value):Obj.mapSeq (·.setIfInBounds j u) {cls:=.type "list", data:=.seq c.toArray n}={cls:=.type "list", data:=.seq (c.set j u).toArray n}:=by simp[Obj.mapSeq]
theorem Inv.lst(I:Inv X pins σ H s)(h:H p=some (.lst xs)) :
  ∃ (c:yad) (n:Nat),Vals xs c/\s.heap.get? p=some {cls:=.type "list", data:=.seq c.toArray n}/\#[xs]<=sizeLine:=by
 let⟨z,c,n,r,e⟩:=I.R5 p _ h;calc⟨c,n,r,e,z⟩
def Inv.lstUpd{d its':yad}{f:Obj->Obj}(I:Inv X pins σ H s)(h:H p=some (.lst xs))
  (g:s.heap.get? p=some {cls:=.type "list", data:=.seq d.toArray n}) (c:f {cls:=.type "list", data:=.seq d.toArray n}={cls:=.type "list", data:=.seq its'.toArray n'}) (r:Vals ys its') (hz:#[ys]<=sizeLine) (t:Nat) :
  Inv X pins σ (upd H p (.lst ys)) {s with heap:=s.heap.update p f,toks:=t}:=by
 let e:(s.heap.update p f).get? p=some {cls:=.type "list", data:=.seq its'.toArray n'}:=by rw[YS f g (by rw[c]<;>rfl),c]
 calc I.write (x:=p) (e:=p) (by rw[h];trivial) (.inl rfl) (λb u c q=>(Ze _ _ (Ne.symm c)).trans q) ⟨_,e⟩ ?_;calc⟨hz,its',n',r,e⟩
def Qy:V->V->V->Hp->(Hp->Prop)->Prop:=λo i v H Q=>∃p c k j,o=.ref p/\i=.int k/\H p=some (.lst c)/\ixN #[c] k=some j/\Q (upd H p (.lst (c.set j v)))
def set_list:QP X Qy:=by
 intro c s e H o i v w x u Q I i l g h;let⟨p,f,k,j,rfl,rfl,d,m,q⟩:=h;cases i;let⟨t,rfl⟩:=l;let⟨i,n,r,h,y⟩:=I.lst d;let⟨G,E,C,B⟩:=CI m;let A:=#[r];let z:=u9;let I':Inv X c e (upd H p (.lst (f.set j v))) {s with heap:=s.heap.update p (Obj.mapSeq (·.setIfInBounds j u))} :=
  I.lstUpd d h (Em i n j u) (r.set g j) 46 s.toks
 by_cases J:0<=k;grind [seqIndex_of,Option.some.inj,PySem.W.ki_setAt,List.size_toArray];grind [seqIndex_neg,List.size_toArray,Option.some.inj,PySem.W.ki_setBack]
def Bo(lo c:yaq)(n:Nat):(sliceBounds lo c none n).1=((HT.SH n 0 lo:Nat):Int)/\(sliceBounds lo c none n).2.1=((HT.SH n n c:Nat):Int)/\(sliceBounds lo c none n).2.2=1:=by
 calc⟨?_,?_,rfl⟩;cases lo with
 |none=>simp[sliceBounds,HT.SH]
 |some i =>
  simp only[sliceBounds,HT.SH,Option.getD_none,show(1:Int) > 0 by decide,if_true];by_cases h:i<0;simp only[h,if_true]<;>lia;simp only[h,if_false]<;>lia
 cases c with
 |none=>simp[sliceBounds,HT.SH]
 |some i =>
  simp only[sliceBounds,HT.SH,Option.getD_none,show(1:Int) > 0 by decide,if_true];by_cases h:i<0;simp only[h,if_true]<;>lia;simp only[h,if_false]<;>lia
def yT(c:yad)(lo d:yaq):slicePick c.toArray lo d none=((c.drop (HT.SH #[c] 0 lo)).take (HT.SH #[c] #[c] d - HT.SH #[c] 0 lo)).toArray:=by let⟨g,f,e⟩:=Bo lo d c.toArray.size;ext slicePick;rw[g,f,e];simp only[sliceRange_one,pick_run,WJ]<;>rfl
def zI:kZ X (.builtin "len") (λxs H Q=>∃p ys,xs=[.ref p]/\(SqL X.K H p ys∨SK X.K H p ys)/\Q (.int #[ys]) H):=by
 intro g s j H xs k Q I r h;let⟨p,ys,rfl,c,q⟩:=h;let⟨u,rfl,d⟩:=vals1 r;cases d;let l:=u9;obtain c|c:=c;let⟨i,e,f,h⟩:=I.list c;let d:=#[e];calc Calls.call_len_list f.isList (by simp only[WJ]<;>lia) ⟨.int #[ys],H,I.tok _,⟨s.toks+1,72⟩,q⟩;let⟨i,e,f,h⟩:=I.tuple c;let d:=#[e];calc len_tuple f (by simp only[WJ]<;>lia) ⟨.int #[ys],H,I.tok _,⟨s.toks+1,46⟩,q⟩
def pS:kZ X (.type "list") (λxs H Q=>∃p ys,xs=[.ref p]/\(SqL X.K H p ys∨SK X.K H p ys)/\∀l,H l=none->Q (.ref l) (upd H l (.lst ys))):=by
 intro e s i H xs t Q I r h;let⟨p,ys,rfl,hq,q⟩:=h;let⟨u,rfl,c⟩:=vals1 r;cases c;let j:∀(d:yad),Vals ys d->#[ys]<=sizeLine->∀(c:Heap) (g:Nat),(∀b f,s.heap.get? b=some f->c.get? b=some f) →
   c.get? s.heap.objs.size=some {cls:=.type "list", dict:=none,data:=.seq d.toArray g,slots:=#[]}->EP X e i Q (.ref s.heap.objs.size) {s with heap:=c}:=λd f h c g kp e =>
  ⟨.ref s.heap.objs.size,_,I.laid (t':=s.toks) kp (Sx _) (show bG X.prog X.w _ c _ (.lst ys)from⟨h,d,g,f,e⟩),rfl,q _ (I.R5.fresh (Sx _))⟩
 obtain hq|hq:=hq;let⟨d,f,k,h⟩:=I.list hq;let i:=#[f];let⟨o,l,q,n,m⟩:=k.isList;calc call_list_seq p (.inl rfl) l q m (λc g kp e=>j d f h c g kp e) 46;let⟨d,f,k,h⟩:=I.tuple hq;let i:=#[f];let⟨o,l,q,n,m⟩:=k;calc call_list_seq p (.inr rfl) l q m (λc g kp e=>j d f h c g kp e) 46
def tyV(K:yac)(T:String)(x:V)(H:Hp):Prop:=match x with
 |.str _=>T = "str"
 |.int _=>T = "int"
 |.ref p=>(T = "list" /\∃c,SqL K H p c)∨(T = "tuple" /\∃o,K.lookup p=some o/\o.cls=.type "tuple" /\ o.dict=none) ∨
   (T = "dict" /\ ((∃c,H p=some (.dK c))∨∃ c,H p=some (.dT c)))∨(T = "set" /\∃S n,H p=some (.set S n))
 |_=>False
def HN(I:Inv X pins σ H s)(r:RelV x v)(f:tyV X.K T x H) :
  s.TypeIs v T/\∀a,v=.ref a->∃c,s.heap.get? a=some c/\c.dict=none:=by
 cases x with
 |str z =>
  let⟨t,rfl⟩:=r;cases(show T = "str" from f);grind [typeIs_str]
 |int i =>
  let⟨t,rfl⟩:=r;cases(show T = "int" from f);grind [typeIs_int]
 |ref p =>
  cases r;rcases f with⟨rfl,j,c⟩| ⟨rfl,o,d,i,h⟩| ⟨rfl,d⟩| ⟨rfl,S,n,d⟩;let⟨Ru,_,g,_⟩:=I.list c;calc⟨g.isList.typeIs,λa e=>?_⟩;let⟨o,n,e,c,h,_⟩:=g
  cbv
  calc⟨⟨o,I.WK p o d,i⟩,λa e=>?_⟩;cases e;calc⟨o,I.WK _ o d,h⟩;let z:∃o,s.heap.get? p=some o/\o.ExactDict:=by
   rcases d with⟨c,d⟩| ⟨c,d⟩;let⟨_,_,_,_,o,_,_,e,c,_⟩:=I.R5 p _ d
   cbv
   let⟨_,_,_,_,o,_,_,e,c,_⟩:=I.R5 p _ d
   cbv
  let⟨o,e,c⟩:=z;calc⟨⟨o,e,c.1⟩,λa g=>?_⟩;cases g;calc⟨o,e,c.2.1⟩;let⟨o,_,_,_,e,c,_⟩:=I.R5 p _ d;calc⟨⟨o,e,c.1⟩,λa g=>?_⟩;cases g;calc⟨o,e,c.2.1⟩
 |_=>calc False.elim f
def PF(K:yac)(T:String)(r:V->yar->Hp->VK->Prop)(d:TE):TE:=λc H Q=>d c H λx c=>tyV K T x c/\r x [] c Q
def tBM(K:yac)(T:String)(r:V->yar->Hp->VK->Prop)(d:TE)(t:TA):TE:=λc H Q=>d c H λx d=>tyV K T x d/\t c d λc d=>r x c d Q
variable{o e:Expr}{es:yai}{to:TE}{t:TA}{name:Str}{apos R7:Pos}{T id:String}{r:V->yar->Hp->VK->Prop}
def Hb (m:PlainAttrs T) (d:Slot T name id) (f:typeOf (.builtin id)=pure (.type "method_descriptor")) (n:MtR X id r) (i:PE X o to)
  (k:attributeBase o name X.env (eval o X.env)=eval o X.env:=by rfl) (j:(apos.endLine==R7.line)=true:=by rfl):PE X (.Call (.Attribute o name apos) [] [] R7) (PF X.K T r to):=by
 intro c s g H Q I h;calc wpAny_Call_method0_late k j (Rw (i c s g H _ I h) λv k p=>?_);let⟨x,s,i,h,j,l⟩:=p;let⟨q,p⟩:=HN i h j;calc⟨T,id,m,d,f,q,p,Calls.callWith_builtin rfl (PySem.evalArgs_none (n c k g s x [] v [] Q i h .nil l))⟩
def KN (m:PlainAttrs T) (d:Slot T name id) (g:typeOf (.builtin id)=pure (.type "method_descriptor")) (n:MtR X id r) (i:PE X o to) (p:PA X (e::es) t)
  (l:attributeBase o name X.env (eval o X.env)=eval o X.env:=by rfl)
  (j:((backTo R7 (starEach (e::es) X.env)).all (λx=>!x.1) && (backToKw R7 (keywordEach [] X.env)).all (λx=>x.1.isSome)
   && decide (#[e::es]+#[([]:List Keyword)]+(if([]:List Keyword).isEmpty then 0 else 1)<30))=true:=by rfl)
  (k:(apos.endLine==R7.line)=true:=by rfl) (hs:starEach (e::es) X.env=(false,eval e X.env)::starEach es X.env:=by rfl) (WU:(backTo R7 (starEach es X.env)).any (·.1)=false:=by rfl) :
  PE X (.Call (.Attribute o name apos) (e::es) [] R7) (tBM X.K T r to t):=by
 intro c s f H Q I h;calc wpAny_Call_method_late l j k rfl (Rw (i c s f H _ I h) λv k q=>?_);let⟨x,u,i,h,j,l⟩:=q;let⟨s,q⟩:=HN i h j;calc⟨T,id,m,d,g,s,q,?_⟩;let d:=p R7 c k f u _ i l;rw[hs]at d ⊢;calc Calls.callWith_builtin 46 (Calls.evalArgs_plain ?_);calc Rw d λg i l=>(by let⟨d,p,m,j,k⟩:=l;calc n c i f p x d v g Q m h j k)
end
def MtM(X:Cx)(id:String)(r:V->yar->Hp->VK->Prop):Prop :=
 ∀ (a:yab) (s:Shared) (b:St) (H:Hp) (x:V) (c:yar) (v:Value) (d:yad) (Q:VK),Inv X a b H s->RelV x v->Vals c d->r x c H Q →
  wpAny (model X.prog X.w) X.A (call (.builtin id) (v::d)) (EP X a b Q) X.xe s
def Vals.one:∀{x:V} {a:yad},Vals [x] a->∃u,a=[u]/\RelV x u
 |_,_,.cons r .nil=>⟨_,rfl,r⟩
def Vals.zero:∀{a:yad},Vals [] a->a=[]
 |_,.nil=>rfl
theorem Vals.dropLast(h:Vals xs us):Vals xs.dropLast us.dropLast:=by
 induction h with
 |nil=>calc .nil
 |cons r t ih =>
  cases t with
  |nil=>calc .nil
  |cons q a=>calc .cons r ih
section
variable{X:Cx}{pins:yab}{σ:St}{H:Hp}{s:Shared}{l b:Addr}{xs ys zs:yar}
def Inv.lset{a its':yad}{f:yao->yao}{t':Nat}(I:Inv X pins σ H s)(d:H l=some (.lst xs))
  (e:s.heap.get? l=some {cls:=.type "list", data:=.seq a.toArray n}) (c:f a.toArray=its'.toArray) (hv:Vals ys its') (hz:#[ys]<=sizeLine) :
  Inv X pins σ (upd H l (.lst ys)) {s with heap:=s.heap.update l (Obj.mapSeq f),toks:=t'}:=by
 let q:=PySem.IsL.update e f;rw[c]at q;calc I.write (x:=l) (e:=l) (by rw[d];calc trivial) (.inl rfl) (λg u c a=>(Ze s.heap (Obj.mapSeq f) (Ne.symm c)).trans a) ⟨_,q⟩ ?_;calc⟨hz,its',_,hv,q⟩
def Inv.Zu (I:Inv X pins σ H s) (c:H l=some (.lst xs)):#[xs]<=sizeLine/\∃(a:yad) (n:Nat),Vals xs a/\#[xs]=#[a]/\s.heap.get? l=some {cls:=.type "list", data:=.seq a.toArray n}:=by let⟨z,a,n,r,e⟩:=I.R5 l _ c;calc⟨z,a,n,r,#[r],e⟩
def Jx{n:Nat}(h:n<=sizeLine):Builtin.List.listTooLong n=false:=by
 ext Builtin.List.listTooLong
 lia
end
section
variable{X:Cx}
def MK:V->yar->Hp->VK->Prop:=λx b H Q=>∃l a y,x=.ref l/\b=[y]/\H l=some (.lst a)/\#[a]<sizeLine/\Q .RZ (upd H l (.lst (a++[y])))
def yu:MtM X "list.append" MK:=by intro a s g H x j v k Q I c d h;let⟨l,i,y,rfl,rfl,b,m,q⟩:=h;cases c;let⟨u,rfl,f⟩:=d.one;let⟨z,c,n,r,o,e⟩:=I.Zu b;calc call_meets F.slot_list_append ⟨_,e,rfl⟩ F.entry_list_append (F.args_list_append_2 _ _) (PySem.list_append l c.toArray n u 72) ⟨e,?_⟩;calc⟨.RZ,_,I.lset (its':=c++[u]) b e 52 (r.append (.cons f .nil)) ?_,rfl,q⟩;grind
def ML:V->yar->Hp->VK->Prop:=λx d H Q=>∃l b c a,x=.ref l/\d=[.ref b]/\H l=some (.lst c)/\H b=some (.lst a)/\#[c]+#[a]<=sizeLine/\Q .RZ (upd H l (.lst (c++a)))
def GK:MtM X "list.extend" ML:=by
 intro g s o H x y v A Q I a c h;let⟨l,b,w,p,rfl,rfl,i,f,B,q⟩:=h;cases a;let⟨u,rfl,a⟩:=c.one;cases a;let⟨z,d,n,r,C,e⟩:=I.Zu i;let⟨t,a,j,h,k,m⟩:=I.Zu f;let f:d.toArray.size+a.toArray.size<=sizeLine:=72
 let c:¬(!d.toArray.isEmpty && Builtin.List.listTooLong (d.toArray.size+a.toArray.size))=true:=by
  rw[Jx f,Bool.and_false]
  lia
 refine call_meets F.slot_list_extend ⟨_,e,rfl⟩ F.entry_list_extend (F.args_list_extend_2 _ _)
  (AutoSeq1.list_extend_list_list_0 l d.toArray n b a.toArray j c 35 35) ⟨e,m,?_⟩
 refine⟨.RZ,_,I.lset (its':=d++a) i e 52 (r.append h) ?_,rfl,q⟩
 cbv
def Q5:V->yar->Hp->VK->Prop:=λx b H Q=>∃l a y,x=.ref l/\b=[]/\H l=some (.lst a)/\a[#[a] - 1]?=some y/\Q y (upd H l (.lst a.dropLast))
def OT:MtM X "list.pop" Q5:=by
 intro b s g H x j v k Q I a d h;let⟨l,i,y,rfl,rfl,c,f,q⟩:=h;cases a;let a:=d.zero;subst a;let⟨z,a,n,r,o,e⟩:=I.Zu c;let⟨u,m,d⟩:=r.get f;let f:a.toArray[a.toArray.size - 1]?=some u:=46
 calc call_meets F.slot_list_pop ⟨_,e,rfl⟩ F.entry_list_pop (F.args_list_pop_1 _) (MeetsSeq.list_pop_last l a.toArray n u f 72) ⟨e,?_⟩;refine⟨y,_,I.lset (its':=a.dropLast) c e ?_ r.dropLast ?_,d,q⟩
 all_goals grind
def Hk:V->yar->Hp->VK->Prop:=λx b H Q=>∃l a,x=.ref l/\b=[]/\H l=some (.lst a)/\Q .RZ (upd H l (.lst []))
def Jv:MtM X "list.clear" Hk:=by intro b s f H x i v j Q I a d h;let⟨l,g,rfl,rfl,c,q⟩:=h;cases a;let a:=d.zero;subst a;let⟨z,a,n,r,k,e⟩:=I.Zu c;calc call_meets F.slot_list_clear ⟨_,e,rfl⟩ F.entry_list_clear (F.args_list_clear_1 _) (AutoSeq1.list_clear_list_0 l a.toArray n 46) ⟨e,?_⟩;calc⟨.RZ,_,I.lset (its':=[]) (ys:=[]) c e rfl .nil (Uw _),rfl,q⟩
end
section
variable{prog:Program}{w:World}{A:Around}{E:yaa}{s:Shared}
set_option maxRecDepth 100000 in
end
end L2
namespace Att
open PySem PySem.W PySem.Calls PyProof.Rows
def uW:∀(ns:yaf) (a:yad),WellAll P h a (ns.map WData.int)->IntsAre a ns:=by
 intro ns
 induction ns with
 |nil =>
  intro a w;cases w;calc .nil
 |cons n ns ih =>
  intro a w;cases w with
  |cons a b =>
   cases a;calc .cons _ _ (ih _ b)
def Hw{l:OpenLaw}{n:Nat}(p:l.most=some n)
  (b:l.row.toRowW.claim.pre args=true) (c:WellAll P h vals args) :
  ∃ a d ns,vals=[Value.ref a]/\args=[WData.list (ns.map WData.int)]/\h.get? a=some {cls:=.type "list", data:=.seq d.toArray}/\IntsAre d ns/\#[ns]<=n:=by
 let e:WShape.hasAll [] args [.list .int]=true:=(pre_splitW b).1;let h:l.pre.holds [] {args:=args}=true:=(pre_splitW b).2;let⟨d,r,rfl,k,j⟩:=hasAllW_cons e;obtain rfl:=hasAllW_nil j;let⟨o,rfl,i⟩:=hasW_list k;let⟨ns,rfl⟩:=items_int i;let a:#[ns]<=n:=by
  let d:(WTm.not (.lt (.lit (.int (n:Int))) (.len (.arg 0)))).holds [] {args:=[.list (ns.map .int)]}=true:=by
   let d:=(holds_andW h).1
   cbv
  let q:=condW_of d (w_not (w_lt w_lit (w_len_list (w_arg rfl))));grind
 cases c with
 |cons f d =>
  cases d;cases f with
  |list g m=>calc⟨_,_,ns,rfl,rfl,g,uW ns _ m,a⟩
def Hi(l:OpenLaw)(args:List WData):l.row.toRowW.claim.post args (.bool true) args=true :=
 postW_of (r:=l.row.toRowW) (X:=(true==true))
  (show WShape.has [] (.bool true) .bool=true by first|rfl|decide|simp[WShape.has,WShape.arms,WShape.armsAll])
  (show(WTm.eq .res (.lit (.bool true))).value [] {args:=args,res:=some (.bool true),after:=args}=some (.bool (true==true))from w_eq_bool (w_res rfl) w_lit) rfl
def BE{l:OpenLaw}{n:Nat}{h:World->Heap->Prop}{d:DefRec}
  (B:l.most=some n) (c:d.params.defaults=[])
  (call:∀(w:World) (t b:Shared) (k s:yam) (i:Addr) (o:Obj) (p m e:Value) (a:Addr) (g:yad) (ns:yaf),
   Ground q loose [] XP w t k s b.heap->h w b.heap →
   b.heap.get? i=some o->o.data=.func (docDef d.name d.params d.body d.scope p m e)->b.heap.CodeRec m d.name->k d.name=some (.ref i) →
   b.heap.get? a=some {cls:=.type "list", data:=.seq g.toArray}->IntsAre g ns->#[ns]<=n->b.gens=#[] →
   codeAny (model l.prog w) callerA (.call (.ref i) ⟨[.ref a],[]⟩) (λr j=>r=.ok (.ret (.bool true))/\OldK b.heap j.heap/\j.os=b.os/\AllBare j.gens) b) :
  WalkO q loose XP h l.row.toRowW d [] (λf g=>PySem.call f g):=by
 intro w t b k s G Y i o p m e h kV A H I f q E y u J d x z n C;obtain rfl:h=.none:=Dflts.none f c;obtain rfl:kV=.none:=Dflts.noKw f;let⟨a,g,ns,rfl,rfl,f,c,h⟩:=Hw B d n;calc enter_call (codeAny_mono (call w t b k s i o p m e a g ns G Y A (fd_plain H) I q f c h E) λr j a=>?_);let⟨rfl,d,c,b⟩:=a;calc⟨.inl ⟨.bool true,.bool true,[],rfl,λ_=>rfl,.bool true,Hi l _,72⟩,d,c,b⟩
section
variable{prog:Program}{w:World}{A:Around}{E:yaa}{s:Shared}{K:Frag}
end
end Att
namespace L2
open PySem PySem.Spec PyProof.Rows
theorem lH:∀{a:yad} {ns:yaf},IntsAre a ns->Vals (ns.map V.int) a
 |_,_,.nil=>.nil
 |_,_,.cons n t h=>.cons ⟨t,rfl⟩ (lH h)
def Il(H:Hp):Prop:=∀b,H b=none∨∃ o a,H b=some (.frz o (.lst a))
def Jl{K:yac}{x:Str}{c:Shared}{j:yad}
  (M:K.In c.heap) (J:c.heap.Ns mainGlobals mg) (f:c.heap.Ns builtinsNs mb) (y:∀x:Str,x ≠ "__name__" -> mb x=bootBuiltins x) (p:c.heap.NoLimit) (O:c.gens=#[])
  (t:c.heap.get? a=some {cls:=.type "list", data:=.seq j.toArray}) (b:IntsAre j ns) (C:#[ns]<=sizeLine) (N:bS k callerA)
  (F:∀base:Heap,K.In base->base.Ns mainGlobals mg->aG P w K mg base CX k fa fd [x] sp) (l:∀(s:Shared) (u:Value),BindsTo s fd ⟨[u],[]⟩ [(x,u)])
  (U:∀H:Hp,Il H->SqL K H a (ns.map V.int)->sp [.ref a] H (λv _=>v=.bl true) λ_ _ _=>False)
  (z:∀H e g,CX [] H c (λ_ _ _=>False) e g->False) :
  codeAny (model P w) callerA (.call (.ref fa) ⟨[.ref a],[]⟩) (λr g=>r=.ok (.ret (.bool true))/\OldK c.heap g.heap/\g.os=c.os/\AllBare g.gens) c:=by
 let B:=lH b;let k:=#[b];let i:∀H:Hp,Il H->SqL K H a (ns.map V.int)->UB P w H c.heap->(∀b,H b≠none->b=a)->(H a≠none->K.lookup a=none) →
   codeAny (model P w) callerA (.call (.ref fa) ⟨[.ref a],[]⟩) (λr g=>r=.ok (.ret (.bool true))/\OldK c.heap g.heap/\g.os=c.os/\AllBare g.gens) c:=by
  intro H E Q L G T;let I:∀{b:Addr} {o:Obj},c.heap.get? b=some o->H b=none->(nR c.heap H).get? b=some o:=λe n=>Jb e n
  let x:∀{b:Addr} {o:Obj} {n:Array DictEntry} {s:Nat},c.heap.get? b=some o->o.data=.dict n s->H b=none:=fun {b o n s} e d=>by
   cases q:H b with
   |none=>rfl
   |some u =>
    let A:b=a:=G b (by rw[q];simp);subst A;rw[t]at e;cases e;let h:Data.seq j.toArray _=Data.dict n s:=d;cases h
  let h:∀{b:Addr} {m:yam},c.heap.Ns b m->(nR c.heap H).Ns b m:=fun {b m} m=>(by let⟨o,n,s,e,d,r⟩:=m;calc⟨o,n,s,I e (x e d),d,r⟩)
  let d:K.In (nR c.heap H):=λb o e=>I (M b o e) (by
   cases q:H b with
   |none=>rfl
   |some u =>
    let A:b=a:=G b (by rw[q];simp);subst A;rw[T (by rw[q];simp)]at e;cases e)
  let m:Mod K mg (nR c.heap H):=⟨d,h J,⟨mb,h f,y⟩,let ⟨mc,h1,h2⟩:=p;⟨mc,h h1,h2⟩⟩;let n:Dv P w K mg (nR c.heap H) callerA [] c H:=⟨rfl,m,λb o e=>Mj e,XJ (Gh _ _),trivial,λb f=>absurd (show b∈([]:yae)from f) 52,L,.of_eq O⟩;refine codeAny_mono ((F _ d (h J)).run callerA [] c H ⟨[.ref a],[]⟩ [.ref a] [.ref a] _ _ N n (l c (.ref a)) (.cons rfl .nil) (U H E Q)) λr g h=>?_
  cases r with
  |error e=>calc(z H e g h).elim
  |ok c =>
   cases c with
   |next=>calc False.elim h
   |brk=>calc False.elim h
   |cont=>calc False.elim h
   |ret u =>
    let⟨v,H',os,d,g,c,l,q⟩:=h;let h:v=.bl true:=q;subst h;obtain rfl:u=Value.bool true:=l;calc⟨rfl,OldK.of_keep λb o e=>?_,os,d⟩;cases q:H b with
    |none=>calc g.keep b o e q (by intro z;calc absurd (show b∈([]:yae)from z) 52) 52
    |some u =>
     obtain z|⟨d,Y,z⟩:=E b;rw[q]at z;cases z;let h:=g.VG b d _ z;let⟨d,_⟩:=L b _ z;let⟨g,_⟩:=c b _ h;rw[e]at d;cases d;exact g
 cases hk:K.lookup a with
 |some o =>
  let e:=M a o hk;rw[t]at e;cases e;calc i (λ_=>none) (λ_=>.inl rfl) (.inr ⟨_,j.toArray,_,hk,rfl,rfl,rfl,by rw[WJ,k];calc C,by simpa using B⟩) (λb u z=>by let c:(none:Option HO)=some u:=z;cases c) (λb z=>absurd rfl z) λz=>absurd rfl z
 |none =>
  refine i (λb=>if b=a then some (.frz {cls:=.type "list", data:=.seq j.toArray} (.lst (ns.map V.int)))else none) (λb=>?_) (.inl (.inr ⟨{cls:=.type "list", data:=.seq j.toArray},Rr rfl⟩)) (λb u z=>?_) (λb z=>?_) λ_=>hk
  by_cases f:b=a;calc .inr ⟨_,_,Rr f⟩;calc .inl (if_neg f);by_cases f:b=a;let c:=(Rr f).symm.trans z;cases c;subst f;calc⟨t,by rw[RG];calc C,j,_,B,t⟩;let c:=(if_neg f).symm.trans z;cases c;by_cases f:b=a;calc f;calc absurd (if_neg f) z
def Nb{l:PySem.W.OpenLaw}{n:Nat}{o:World->Heap->Prop}{d:DefRec}{K:Params->yac}{CX:World->CXT}{sp:World->Sp}{x:Str}
  (y:l.most=some n) (m:n<=sizeLine) (b:d.params.defaults=[]) (t:bS k callerA)
  (z:∀(w:World) (h:Heap),o w h->(K w.params).In h)
  (F:∀(w:World) (g:yam) (i:Addr) (h:Heap),(K w.params).In h->h.Ns mainGlobals g->g d.name=some (.ref i) →
   ∃ r:FuncData,(∀(s:Shared) (u:Value),BindsTo s r ⟨[u],[]⟩ [(x,u)]) ∧
    ∀ base:Heap,(K w.params).In base->base.Ns mainGlobals g->aG l.prog w (K w.params) g base (CX w) k i r [x] (sp w))
  (B:∀(w:World) (H:Hp) (a:Addr) (ns:yaf),#[ns]<=n->Il H->SqL (K w.params) H a (ns.map V.int)->sp w [.ref a] H (λv _=>v=.bl true) λ_ _ _=>False)
  (p:∀(w:World) (H:Hp) (s:Shared) (e:Value) (j:Shared),CX w [] H s (λ_ _ _=>False) e j->False) :
  PySem.W.WalkO q loose XP o l.row.toRowW d [] (λf c=>PySem.call f c):=by
 refine Att.BE y b λw RT q g E i o C L A a c ns G Y I J U2 f d c b k=>?_
 let h:=z w _ Y;let⟨r,l,n⟩:=F w g i _ h G.T.g f;calc Jl h G.T.g G.T.b G.T.builtins G.T.nolimit k d c (Sd b m) t n l (λH d c=>B w H a ns b d c) λH e j=>p w H q e j
def dg(s:Stmt):Arguments:=match s with
 |.FunctionDef _ a _ _ _ _ _ _ _ _=>a
 |_=>{posonlyargs:=[],args:=[],vararg:=none,kwonlyargs:=[],kw_defaults:=[],kwarg:=none,defaults:=[]}
def cn(s:Stmt):yal:=match s with
 |.FunctionDef _ _ b _ _ _ _ _ _ _=>b
 |_=>[]
def ao(s:Stmt):Scope:=match s with
 |.FunctionDef _ _ _ _ _ _ a _ _ _=>a
 |_=>{kind:=.function,names:=[],isGenerator:=false,isCoroutine:=false}
abbrev E0:XK:=λ_ _ _=>False
structure Fun(K:yac)(x qual:Str)(st:Stmt)(f:Addr)(fd:FuncData):Prop where
 ex:∃(oc:Value) (od:Option Addr) (kV doc pm:Value) (an:Option Addr) (T9 ct:Value) (osl:Array (yan)),
  fd=PySem.W.fnOf x qual (dg st) (cn st) (ao st) .none kV doc pm an T9 ct/\K.lookup f=some ⟨oc,od,.func fd,osl⟩/\PySem.W.codeIn K T9 qual=true
 kp:PySem.W.keepIn K (.ref f)=true
def y9(a:bS k A):A.units+1<cLine:=Xf 35 a.units
section
variable{X:Cx}
end
def av(H H':Hp):Prop:=∀b o,H b=some o->H' b=some o
def av.trans(a:av H H1)(b:av H1 H2):av H H2:=λc o h=>b c o (a c o h)
def av.seq{K:yac}{H H':Hp}{a:Addr}{xs:yar}(e:av H H')(h:SqL K H a xs):SqL K H' a xs:=by
 rcases h with(h|⟨o,h⟩)|h;calc .inl (.inl (e _ _ h));calc .inl (.inr ⟨o,e _ _ h⟩);calc .inr h
end L2
set_option maxHeartbeats 4000000
namespace L2
open PySem PySem.Spec PyProof.Rows
section
variable{κ:Type} [DecidableEq κ]
def dF(kvs:List (κ×V))(k:κ):Option V:=(kvs.find? λa=>decide (a.1=k)).map (·.2)
noncomputable def putK(kvs:List (κ×V))(k:κ)(v:V):List (κ×V) :=
 if(kvs.any λa=>decide (a.1=k))=true then kvs.map (λa=>if a.1=k then(a.1,v)else a)else kvs++[(k,v)]
theorem Kf:dF ([]:List (κ×V)) k=none:=rfl
def o5{p:κ×V}{r:List (κ×V)}{k:κ}(e:p.1=k):dF (p::r) k=some p.2:=by simp[dF,e]
def oZ{p:κ×V}{r:List (κ×V)}{k:κ}(e:¬p.1=k):dF (p::r) k=dF r k:=by simp[dF,e]
theorem kY(k:κ):∀kvs:List (κ×V),(kvs.any λa=>decide (a.1=k))=(dF kvs k).isSome
 |[]=>rfl
 |p::r=>by
  rw[List.any_cons];by_cases e:p.1=k;simp only[o5 e,U6 e,Bool.true_or,Option.isSome_some]
  simp_all [oZ,decide_eq_false,Bool.false_or,kY]
theorem sH(kvs:List (κ×V))(k:κ)(v:V):#[putK kvs k v]<=#[kvs]+1:=by ext putK;split;rw[RG];lia;rw[UQ,Xo,List.length_nil];lia
def JS{kvs:List (κ×V)}{k:κ}(v:V)(h:dF kvs k=none):putK kvs k v=kvs++[(k,v)]:=by
 ext putK
 simp_all [kY,if_neg]
def lL.YC(r:lL o u):o.isSome=u.isSome:=by
 cases o with
 |none=>cases u with
  |none=>rfl
  |some _=>calc(show False from r).elim
 |some _=>cases u with
  |none=>calc(show False from r).elim
  |some _=>rfl
def KV.val(r:KV kvs vs)(k:κ):lL (dF kvs k) (valueAt vs k):=by
 induction r with
 |nil=>calc True.intro
 |@cons p q g a h t ih =>
  let⟨d,f⟩:=h;by_cases e:p.1=k;let c:q.1=k:=d.symm.trans e;let b:valueAt (q::a) k=some q.2:=by simp[valueAt,c]
  rw[o5 e,b];calc f;let c:¬q.1=k:=λz=>e (d.trans z)
  let b:valueAt (q::a) k=valueAt a k:=by simp[valueAt,c]
  rw[oZ e,b];calc ih
theorem KV.any(r:KV kvs vs)(k:κ):(kvs.any λa=>decide (a.1=k))=vs.any λa=>decide (a.1=k):=by
 induction r with
 |nil=>rfl
 |cons h t ih=>cbv
def KV.repl(r:KV kvs vs)(k:κ)(b:RelV y u) :
  KV (kvs.map λa=>if a.1=k then(a.1,y)else a) (vs.map λa=>if a.1=k then(a.1,u)else a):=by
 induction r with
 |nil=>calc .nil
 |@cons p q d c h t ih =>
  refine .cons ?_ ih
  lia
def KV.put(r:KV kvs vs)(k:κ)(a:RelV y u):KV (putK kvs k y) (stored vs k u):=by ext putK stored;rw[r.any k];by_cases e:(vs.any λb=>decide (b.1=k))=true;rw[Rr e,Rr e];calc r.repl k a;rw[if_neg e,if_neg e];calc Paired.snoc r ⟨rfl,a⟩
theorem KV.length(r:KV kvs vs):#[kvs]=#[vs]:=Paired.length r
end
def za(r:RelV (kV k) u):(cq P w).is k u=true:=by
 cases k with
 |inl i=>let⟨t,e⟩:=(show∃t,u=Value.int i t from r);simp_all [BP]
 |inr x=>let⟨t,e⟩:=(show∃t,u=Value.str x t from r);simp_all [BQ]
theorem yo:∀{a:List Key} {b:yad},Vals (a.map kV) b->ItemsAre (cq P w) a b
 |[],_,r=>by cases r;calc .nil
 |k::a,_,r=>by
  cases r with
  |cons h t=>calc .cons (za h) (yo t)
abbrev KT(H:Hp):List (List Key×V)->List (List Key×Addr×Value)->Prop:=Paired λp q=>p.1=q.1/\H q.2.1=some (.tup (p.1.map kV))/\RelV p.2 q.2.2
def KT.val(r:KT H kvs xs)(k:List Key):lL (dF kvs k) ((atKey xs k).map (·.2)):=by
 induction r with
 |nil=>calc True.intro
 |@cons p q g a h t ih =>
  let⟨d,_,f⟩:=h;by_cases e:p.1=k;let c:q.1=k:=d.symm.trans e;let b:atKey (q::a) k=some q.2:=by simp[atKey,List.find?_cons,c]
  rw[o5 e,b];calc f;let c:¬q.1=k:=λz=>e (d.trans z)
  let b:atKey (q::a) k=atKey a k:=by simp[atKey,List.find?_cons,c]
  rw[oZ e,b];calc ih
def KT.repl(r:KT H kvs xs)(k:List Key)(c:RelV y u) :
  KT H (kvs.map λa=>if a.1=k then(a.1,y)else a) (xs.map (putAt k u)):=by
 induction r with
 |nil=>calc .nil
 |@cons p q g f h t ih =>
  rw[Vq,Vq];calc .cons ?_ ih;let⟨a,b,d⟩:=h;ext putAt;by_cases e:p.1=k;rw[Rr e,Rr (a.symm.trans e)];calc⟨a,b,c⟩;rw[if_neg e,if_neg (λz=>e (a.trans z))];calc⟨a,b,d⟩
def KT.put(r:KT H kvs xs)(k:List Key)(c:H b=some (.tup (k.map kV)))(a:RelV y u) :
  KT H (putK kvs k y) (storedH xs k b u):=by
 let e:(kvs.any λb=>decide (b.1=k))=(atKey xs k).isSome:=by rw[kY,(r.val k).YC,Option.isSome_map]
 ext putK storedH;rw[e];by_cases q:(atKey xs k).isSome=true;rw[Rr q,Rr q];calc r.repl k a;rw[if_neg q,if_neg q];calc Paired.snoc r ⟨rfl,c,a⟩
def KT.keeps{H':Hp}(r:KT H kvs xs)(a:∀b ys,H b=some (.tup ys)->H' b=some (.tup ys)):KT H' kvs xs :=
 Paired.mapP r λ_ _ z=>⟨z.1,a _ _ z.2.1,z.2.2⟩
section
variable{P:Program}{w:World}{H:Hp}{h:Heap}{a:Addr}
def KP(b:UB P w H h)(e:Rd H a u):bG P w H h a u:=e.ok b
def D9(c:UB P w H h)(e:Rd H a (.dK kvs)):#[kvs]<=sizeLine/\(a==sysModules)=false/\∃b,KV kvs b/\h.DictOf (cq P w) a b :=
 show bG P w H h a (.dK kvs)from KP c e
def Kx(c:UB P w H h)(e:H a=some (.dK kvs)):#[kvs]<=sizeLine/\(a==sysModules)=false/\∃b,KV kvs b/\h.DictOf (cq P w) a b:=D9 c (.inl e)
def AA{b:List Key}(c:UB P w H h)(e:H a=some (.tup (b.map kV))):(tupleKind (cq P w)).is h b a:=by let⟨_,i,r,o,g,f,n,d⟩:=(show bG P w H h a (.tup (b.map kV))from c a _ e);calc⟨o,i.toArray,n,g,f,d,by simpa using yo r⟩
def Ea(d:UB P w H h)(e:Rd H a (.dT kvs)):#[kvs]<=sizeLine/\(a==sysModules)=false ∧
  ∃ xs,KT H kvs xs/\h.DictOfH (tupleKind (cq P w)) a xs:=by
 let⟨z,y,xs,r,o,j,k,i,g,f,b,c⟩:=(show bG P w H h a (.dT kvs)from KP d e);calc⟨z,y,xs,r,o,j,k,i,g,f,b,λx b=>?_,c⟩;let c:∀{l:List (List Key×V)} {m:List (List Key×Addr×Value)},KT H l m->∀x∈m,(tupleKind (cq P w)).is h x.1 x.2.1:=by
  intro l m q
  induction q with
  |nil=>intro x b;calc nomatch b
  |@cons p q s n f t ih =>
   intro x b;obtain e|b:=S8.mp b;subst e;calc AA d (by rw[<- f.1];calc f.2.1);exact ih x b
 calc c r x b
def P9(b:UB P w H h)(e:H a=some (.dT kvs)):#[kvs]<=sizeLine/\(a==sysModules)=false ∧
  ∃ xs,KT H kvs xs/\h.DictOfH (tupleKind (cq P w)) a xs:=Ea b (.inl e)
end
def pK(H:Hp)(a:Addr)(y:V)(r:Option V):Prop :=
 (∃c k,Rd H a (.dK c)/\y=kV k/\r=dF c k)∨∃ c k b,Rd H a (.dT c)/\y=.ref b/\H b=some (.tup (k.map kV))/\r=dF c k
def zo(H:Hp)(a:Addr)(y v:V)(H':Hp):Prop :=
 (∃c k,H a=some (.dK c)/\y=kV k/\#[c]<sizeLine/\H'=upd H a (.dK (putK c k v))) ∨
 ∃ c k b,H a=some (.dT c)/\y=.ref b/\H b=some (.tup (k.map kV))/\#[c]<sizeLine/\H'=upd H a (.dT (putK c k v))
theorem pK.k{H:Hp}{a:Addr}{kvs:List (Key×V)}{k:Key}(e:H a=some (.dK kvs)):pK H a (kV k) (dF kvs k):=.inl ⟨kvs,k,.inl e,rfl,rfl⟩
theorem zo.k{H:Hp}{a:Addr}{kvs:List (Key×V)}{k:Key}{v:V}(e:H a=some (.dK kvs))(b:#[kvs]<sizeLine):zo H a (kV k) v (upd H a (.dK (putK kvs k v))):=.inl ⟨kvs,k,e,rfl,b,rfl⟩
section
variable{X:Cx}{pins:yab}{σ:St}{H:Hp}{s:Shared}{a:Addr}{y v:V}{u r:Value}{o:Option V}{A:Around}{E:yaa}
def Inv.big(I:Inv X pins σ H s):sysModules<s.heap.objs.size:=by let h:mainGlobals<s.heap.objs.size:=(I.mod.glob.keeps I.bk).lt;calc Nat.lt_trans 29 h
def xV{Q:yaa}(q:A.units+1<cLine)(I:Inv X pins σ H s)(g:pK H a y (some v))(m:RelV y u)(h:∀d b,Inv X pins σ H b->RelV v d->Q d b) :
  wpAny (model X.prog X.w) A (getItem (.ref a) u) Q E s:=by
 rcases g with⟨b,k,e,g,l⟩| ⟨b,k,b,e,g,t,l⟩;subst g;let⟨z,p,n,c,i⟩:=D9 I.R5 e;let⟨d,f,j⟩:=lL.some_of (v:=v) (o:=valueAt n k) (by rw[l];calc c.val k);calc wpAny_getItem_of (za m) i.mapOf f (h d _ (I.tok _) j);subst g;cases(show u=Value.ref b from m);let⟨z,p,b,c,i⟩:=Ea I.R5 e;let⟨d,f,j⟩:=lL.some_of (v:=v) (o:=(atKey b k).map (·.2)) (by rw[l];calc c.val k);let⟨p,c,b⟩:=Zg.mp f;calc wpAny_getItem_heap (tupleKind_room_in1 q) (AA I.R5 t) i c ?_;rw[b];calc h d _ (I.tok _) j
def wH{t':Nat}(I:Inv X pins σ H s)(b:Mut (H a))(hs:Heap.SameBut a s.heap h')(d:∃q,h'.get? a=some q)(c:bG X.prog X.w (upd H a ob) h' a ob) :
  Inv X pins σ (upd H a ob) {s with heap:=h',toks:=t'} :=
 I.write (x:=a) (e:=a) b (.inl rfl) (λb q e z=>(hs.2 b e).trans z) d c
def F0{h':Heap}{kvs:List (Key×V)}(z:#[kvs]<=sizeLine)(c:(a==sysModules)=false)(b:KV kvs vs)(dd:h'.DictOf (cq P w) a vs) :
  bG P w H' h' a (.dK kvs):=⟨z,c,vs,b,dd⟩
def FV{Q:Unit->Shared->Prop}(G:A.units+1<cLine)(I:Inv X pins σ H s)(g:zo H a y v H')(w:RelV y u)(x:RelV v r)(h:∀b,Inv X pins σ H' b->Q () b) :
  wpAny (model X.prog X.w) A (setItem (.ref a) u r) Q E s:=by
 rcases g with⟨f,k,e,n,l,p⟩| ⟨f,k,b,e,n,C,l,p⟩;subst n p;let⟨z,m,d,c,t⟩:=Kx I.R5 e;let i:#[d]<=sizeLine:=by rw[<- #[c]];exact z
 let l:#[putK f k v]<=sizeLine:=by grind [sH]
 refine wpAny_setItem_pairs (hsz:=i) (za w) t λB d j=>h _ ?_
 let J:∃q,B.get? a=some q:=let ⟨q,_,_,g,_⟩:=d;⟨q,g⟩;calc wH I (by rw[e];calc True.intro) j J (F0 l m (c.put k x) d);subst n p;cases(show u=Value.ref b from w);let⟨z,m,b,c,t⟩:=P9 I.R5 e;let i:#[b]<=sizeLine:=by rw[<- Paired.length c];exact z
 let l:#[putK f k v]<=sizeLine:=by grind [sH]
 refine wpAny_setItem_heap (hsz:=i) (tupleKind_room_in1 G) (AA I.R5 C) t λB d j=>h _ ?_
 let⟨q,n,p,g,i,h,f,_,b⟩:=d;calc wH I (by rw[e];calc True.intro) j ⟨q,g⟩ ⟨l,m,_,(c.put k C x).keeps λc L c=>?_,q,n,p,g,i,h,f,b⟩;rw[aC 35];calc c
end
def Ij(i:Expr):Prop:=∀a b,subscripted i false a b=operate [a,b] (getItem a b)
def M5{prog:Program}{w:World}{A:Around}{E:yaa}{s:Shared}{env:Env}{b a:Expr}{pos:Pos}{T id:String}{Q:yaa}
  (e:typeLookup (.type T) "__getitem__" = pure (some (.builtin id))) (hs:Ij a)
  (h:wpAny (model prog w) A (eval b env) (λo d=>wpAny (model prog w) A (eval a env) (λi c=>c.TypeIs o T/\wpAny (model prog w) A (getItem o i) Q E c) E d) E s) :
  wpAny (model prog w) A (eval (.Subscript b a pos) env) Q E s:=by
 calc Subscript_ (VP h (λo d d=>VP d (λi c d=>?_) λ_ _ x=>x) λ_ _ x=>x);let⟨f,d⟩:=d;calc Rm ?_;calc Rm (zDF f e ?_);let g:wpAny (model prog w) A (subscripted a false o i) (λr a=>wpAny (model prog w) A (letTemporaryGo b o r >>= λ_=>pure r) Q E a) E c:=by rw[hs o i];exact wpAny_operating (VP d (λr a a=>Rm (wpAny_letTemporaryGo (Rz a))) λ_ _ x=>x)
 grind [wpAny_pure,wpAny_bind]
def BJ (I:Inv X pins σ H s) (g:pK H a y o):s.TypeIs (.ref a) "dict" := by
 rcases g with⟨a,k,e,_,_⟩| ⟨a,k,b,e,_,_,_⟩;let⟨_,_,d,_,a⟩:=D9 I.R5 e;calc a.typeIs;let⟨_,_,c,_,a⟩:=Ea I.R5 e;calc a.typeIs
def QE(c b:TE):TE:=λa H Q=>c a H λx c=>b a c λy b=>∃a v,x=.ref a/\pK b a y (some v)/\Q v b
def QA(c a d:TE)(rd:V->V->Hp->VK->Prop):TS:=λD b H=>c b H λx c=>a b c λy c=>∃a v,x=.ref a/\pK c a y (some v) ∧
 d b c λc d=>rd v c d λz d=>∃c,zo d a y z c/\D.nx b c
section
variable{X:Cx}{o i e value:Expr}{pos pos' tpos:Pos}{td ty tv:TE}
def MD(n:X.A.units+1<cLine)(p:PE X o td)(q:PE X i ty)(hs:Ij i):PE X (.Subscript o i pos) (QE td ty):=by intro b s c H Q I h;calc M5 PySem.F.slot_dict_getitem.lookup hs (Rw (p b s c H _ I h) λu f ⟨x,C,A,k,m⟩=>Rw (q b f c C _ A m) λL J w=>?_);let⟨y,B,d,j,a,v,r,g,l⟩:=w;subst r;obtain rfl:u=Value.ref a:=k;calc⟨BJ d g,xV n d g j λE G z t=>⟨v,B,z,t,l⟩⟩
def MH(p:X.A.units+1<cLine)(N:PE X o td)(O:PE X i ty)(hv:PE X value tv)(l:Np X op rd)
  (Q:∀j f c,augStore i j f c=(do holding [c,j,f] (setItem j f c);release [c,j,f] [];pure .next)):PS X (.AugAssign (.Subscript o i tpos) op value pos) (QA td ty tv rd):=by
 intro b s d H D I h;calc wpAny_AugAssign_SubscriptAny (Rw (N b s d H _ I h) λu B ⟨x,H1,I1,E,M⟩=>Rw (O b B d H1 _ I1 M) λf s2 m=>?_) Q;let⟨y,H2,I2,n,a,v,U,g,L⟩:=m;subst U;obtain rfl:u=Value.ref a:=E;refine xV p I2 g n λt A I3 Y=>Rw (hv b A d H2 _ I3 L) λr w ⟨q,H3,I4,k,J⟩=>Rw (l b w d H3 v q t r _ I4 Y k J) λw3 s5 m=>?_
 let⟨z,H4,I5,C,H5,T,G⟩:=m;calc FV p I5 T n C λs6 I6=>⟨d,H5,I6,G⟩
end
def IM (h:Heap) (a:sysModules<h.objs.size):bG P w H (h.push {cls:=.type "dict", data:=.dict #[]}) h.objs.size (.dK []) :=
 ⟨Uw _,beq_eq_false_iff_ne.mpr (Ne.symm (Uv a)),[],.nil,Heap.DictOf.new h⟩
abbrev VV:List (V×V)->List (Value×Value)->Prop:=Paired λp q=>RelV p.1 q.1/\RelV p.2 q.2
def va(kvs a:List (Key×V)):List (Key×V):=a.foldl (λa b=>putK a b.1 b.2) kvs
def KV.merge:∀{a:List (Key×V)} {c:List (Key×Value)} {kvs:List (Key×V)} {b:List (Key×Value)},KV a c->KV kvs b->KV (va kvs a) (merged b c):=by
 intro a c kvs b r
 induction r generalizing kvs b with
 |nil=>intro q;calc q
 |@cons p q f d h t ih =>
  intro a;let e:KV (putK kvs p.1 p.2) (stored b q.1 q.2):=by
   have:=a.put p.1 h.2
   cbv
  calc ih e
theorem uF:∀{kvs:List (Key×V)} {ws:List (Value×Value)},VV (kvs.map λa=>(kV a.1,a.2)) ws->∃d,Carries (cq P w) ws d/\KV kvs d
 |[],_,r=>by cases r;calc⟨[],True.intro,.nil⟩
 |p::kvs,_,r=>by
  cases r with
  |@cons a b g e h t =>
   let⟨d,c,q⟩:=uF (P:=P) (w:=w) t;let⟨f,a⟩:=b;calc⟨(p.1,a)::d,⟨za h.1,rfl,c⟩,.cons ⟨rfl,h.2⟩ q⟩
structure M1(X:Cx)(o:Expr)(m:Str)(apos:Pos)(e:Expr)(R7:Pos):Prop where
 base:attributeBase o m X.env (eval o X.env)=eval o X.env
 few:((backTo R7 (starEach [e] X.env)).all (λx=>!x.1) && (backToKw R7 (keywordEach [] X.env)).all (λx=>x.1.isSome)
  && decide (#[([e]:yai)]+#[([]:List Keyword)]+(if([]:List Keyword).isEmpty then 0 else 1)<30))=true
 line:(apos.endLine==R7.line)=true
 trees:backTo R7 (starEach [e] X.env)=[(false,eval e X.env)]
structure M2(X:Cx)(o:Expr)(m:Str)(apos:Pos)(e f:Expr)(R7:Pos):Prop where
 base:attributeBase o m X.env (eval o X.env)=eval o X.env
 few:((backTo R7 (starEach [e,f] X.env)).all (λx=>!x.1) && (backToKw R7 (keywordEach [] X.env)).all (λx=>x.1.isSome)
  && decide (#[([e,f]:yai)]+#[([]:List Keyword)]+(if([]:List Keyword).isEmpty then 0 else 1)<30))=true
 line:(apos.endLine==R7.line)=true
 trees:backTo R7 (starEach [e,f] X.env)=[(false,eval e X.env),(false,eval f X.env)]
end L2
namespace PM
def Ar(a b:Int):Int.gcd b (a.fmod b)=Int.gcd a b:=by
 let h:=Int.fmod_add_mul_fdiv a b;let c:a=a.fmod b+a.fdiv b*b:=by simp_all [VF]
 rw[Int.gcd_comm a b]
 conv=>rhs;rw[c]
 rw[Int.gcd_add_mul_right_right]
def ye(a:Int){b:Int}(d:b≠0):(a.fmod b).natAbs<b.natAbs:=by
 by_cases h:0<b;let g:=Int.fmod_lt_of_pos a h;let c:=zDH a h;omega;let e:a.fmod b=-((-a).fmod (-b)):=46
 let c:=Int.fmod_lt_of_pos (-a) (b:=-b) (by omega);let f:=zDH (-a) (b:=-b) (by omega);omega
noncomputable def g3(x y z:Int):Nat:=Int.gcd (Int.gcd x y:Int) z
def nM(x y z:Int):(g3 x y z:Int)∣x:=zCt (Int.gcd_dvd_left _ _) (Int.gcd_dvd_left _ _)
theorem nN(x y z:Int):(g3 x y z:Int)∣y:=zCt (Int.gcd_dvd_left _ _) (Int.gcd_dvd_right _ _)
theorem nP(x y z:Int):(g3 x y z:Int)∣z:=Int.gcd_dvd_right _ _
def Oe{x y z d:Int}(c:d∣x)(b:d∣y)(a:d∣z):d∣(g3 x y z:Int):=zDB (zDB c b) a
def wR:g3 x y z=0↔x=0/\y=0/\z=0:=by
 ext g3;rw[Int.gcd_eq_zero_iff];constructor;rintro⟨h,a⟩;let d:Int.gcd x y=0:=35
 let⟨c,b⟩:=Int.gcd_eq_zero_iff.mp d;calc⟨c,b,a⟩;rintro⟨c,b,a⟩;subst c b a;simp
def Tz(x y z l:Int):Int:=if l<0 then -(g3 x y z:Int)else(g3 x y z:Int)
def uO{x y z:Int}(h:¬(x=0/\y=0/\z=0)):Tz x y z l≠0:=by
 have:g3 x y z≠0:=λe=>h (wR.mp e)
 ext Tz;split<;>omega
def wO(x y z l:Int):(Tz x y z l).natAbs=g3 x y z:=by ext Tz;split<;>lia
def rq{x y z t:Int}(h:(g3 x y z:Int)∣t):Tz x y z l∣t:=by ext Tz;split;calc Int.neg_dvd.mpr h;calc h
def cK{x y z t:Int}(h:(g3 x y z:Int)∣t):t.fdiv (Tz x y z l)*Tz x y z l=t:=by let a:=rq (l:=l) h;rw[Int.fdiv_eq_ediv_of_dvd a];calc Int.ediv_mul_cancel a
def Hn{x y z:Int}(h:¬(x=0/\y=0/\z=0)):g3 (x.fdiv (Tz x y z l)) (y.fdiv (Tz x y z l)) (z.fdiv (Tz x y z l))=1:=by
 let j:=cK (l:=l) (nM x y z);let o:=cK (l:=l) (nN x y z);let n:=cK (l:=l) (nP x y z);let p:=uO (l:=l) h;let f:=wO x y z l;generalize x.fdiv (Tz x y z l)=a at j ⊢;generalize y.fdiv (Tz x y z l)=b at o ⊢;generalize z.fdiv (Tz x y z l)=c at n ⊢;generalize Tz x y z l=g at *;let m:(g3 a b c:Int)*g∣(g3 x y z:Int):=by
  calc Oe ?_ ?_ ?_;rw[<- j];exact Int.mul_dvd_mul (nM a b c) 46
  all_goals grind [Int.mul_dvd_mul,nN,Int.dvd_refl,nP]
 let d:g3 a b c*g.natAbs∣g.natAbs:=by
  have:=zCA.mpr m
  simp_all [zCU]
 let k:0<g.natAbs:=35
 have:=zCx k d;let q:g3 a b c≠0:=by
  intro e
  cbv
 obtain i|i:=Nat.lt_or_ge (g3 a b c) 2
 lia
 have:2*g.natAbs<=g3 a b c*g.natAbs:=Nat.mul_le_mul_right _ i
 lia
def xb{x y z l:Int}(d:l≠0)(a:(g3 x y z:Int)∣l)(h:¬(x=0/\y=0/\z=0)):0<l.fdiv (Tz x y z l):=by
 let e:=cK (l:=l) a;let f:g3 x y z≠0:=λe=>h (wR.mp e)
 let b:(l<0/\Tz x y z l<0)∨(0<l/\0<Tz x y z l):=by
  ext Tz;split
  left;omega
  right;omega
 generalize l.fdiv (Tz x y z l)=a at e ⊢;generalize Tz x y z l=g at *;obtain a|a|a:=zCJ a 0;exfalso;rcases b with⟨c,b⟩| ⟨c,b⟩;have:=zBR a b;omega;have:=XS a b;omega;subst a;simp at e;omega;calc a
def sG{t g:Int}(b:g≠0)(h:g∣t):(t.fdiv g).natAbs<=t.natAbs:=by
 rw[Int.fdiv_eq_ediv_of_dvd h];let e:=Int.ediv_mul_cancel h;have:(t / g).natAbs*g.natAbs=t.natAbs:=by rw[<- zCU,e]
 let a:0<g.natAbs:=35
 rw[<- this];calc Nat.le_mul_of_pos_right _ a
def Gf(a:Int):Int.gcd a 0=a.natAbs:=52
def LR(a b:Int):Int.gcd ((a.natAbs:Nat):Int) ((b.natAbs:Nat):Int)=Int.gcd a b:=by ext Int.gcd;simp
end PM
namespace PX
open PySem PySem.W PySem.Spec PySem.Calls PyProof.Rows PySem.Builtin.ObjectAttr PySem.Builtin.Getset_descriptor
def ExcAt(e c:Addr)(h:Heap):Prop:=∃o a,h.get? e=some o/\o.cls=.ref c/\o.data=.fields a
def ExcAt.ty(p:ExcAt e c h):Looks M h (typeOf (.ref e)) (.ref c):=by let⟨o,d,b,a,_⟩:=p;calc a ▸ (Looks.ld b).andThen .now
noncomputable def Eb(K:Frag)(c:Addr):Bool :=
 (clsIn K c).isSome && findIn K (.ref c) "__getattribute__" == some (some (.builtin "BaseException.__getattribute__"))
 && findIn K (.ref c) "__getattr__" == some none && findIn K (.ref c) "__class__" == some (some (.builtin "object.__class__"))
 && specialIn K (.builtin "object.__class__") "__get__" == some (some (.builtin "getset_descriptor.__get__"))
 && takesIn K (.builtin "object.__class__")==some true
 && mroIn K c (.type "object")==some true && mroIn K c (.type "BaseException")==some true
 && kitOne K (.ref c) (.type "int")==some false && kitOne K (.ref c) (.type "bool")==some false && kitOne K (.ref c) (.type "tuple")==some false
 && kitOne K (.ref c) (.type "list")==some false && kitOne K (.ref c) (.type "str")==some false
structure DK(K:Frag)(c:Addr):Prop where
 pg:plainGet K c "__class__" = true
 hd:hasDictIn K c=true
 at_:findIn K (.ref c) "__class__" = some (some (.builtin "object.__class__"))
 get:specialIn K (.builtin "object.__class__") "__get__" = some (some (.builtin "getset_descriptor.__get__"))
 takes:takesIn K (.builtin "object.__class__")=some true
 obj:mroIn K c (.type "object")=some true
 not:∀T,(T = "int" ∨ T = "bool" ∨ T = "tuple" ∨ T = "list" ∨ T = "str")->kitOne K (.ref c) (.type T)=some false
structure eE(K:Frag)(c:Addr):Prop where
 cls:(clsIn K c).isSome=true
 ga:findIn K (.ref c) "__getattribute__" = some (some (.builtin "BaseException.__getattribute__"))
 hook:findIn K (.ref c) "__getattr__" = some none
 at_:findIn K (.ref c) "__class__" = some (some (.builtin "object.__class__"))
 get:specialIn K (.builtin "object.__class__") "__get__" = some (some (.builtin "getset_descriptor.__get__"))
 takes:takesIn K (.builtin "object.__class__")=some true
 obj:mroIn K c (.type "object")=some true
 exc:mroIn K c (.type "BaseException")=some true
 not:∀T,(T = "int" ∨ T = "bool" ∨ T = "tuple" ∨ T = "list" ∨ T = "str")->kitOne K (.ref c) (.type T)=some false
def eE.of{K:Frag}{c:Addr}(h:Eb K c=true):eE K c:=by unfold Eb at h;simp at h;let⟨⟨⟨⟨⟨⟨⟨⟨⟨⟨⟨⟨m,g⟩,f⟩,e⟩,d⟩,c⟩,b⟩,a⟩,n⟩,l⟩,k⟩,j⟩,i⟩:=h;calc⟨m,g,f,e,d,c,b,a,35⟩
section
variable{prog:Program}{w:World}{A:Around}{E:yaa}{s:Shared}{K:Frag}{e c:Addr}
def QI {R:Result->Shared->Prop} {a:Value} (X:K.In s.heap) (p:ExcAt e c s.heap) (d:mroIn K c (.type "object")=some true) (b:R (.ok (.ret (.ref c))) s) :
  codeAny (model prog w) A (.call (.builtin "getset_descriptor.__get__") ⟨[.builtin "object.__class__", .ref e,a],[]⟩) R s:=by
 let La:=p.ty (M:=model prog w);let Lb:=looks_mroIn (M:=model prog w) X d;calc codeAny_call_builtin (KF.slot_gs.plain) KF.entry_gs (KF.slot_gs.check _ _ _ _ _ _ _ _ KF.type_class (KF.args_gs _ _ _) ?_);ext Builtin.«getset_descriptor.__get__» descrGet;calc Rm (Rz ?_);ext descrGetter descrCheckInstance descrNameAndClass isInstance;simp only[KF.owner_class]
 repeat lk
 refine⟨Code.quiet_builtin _ (by decide +kernel),zCO KF.entry_class ?_⟩
 repeat lk
 calc b
def PO (k:eE K c) (X:K.In h):Looks M h (find (.ref e) (.ref c) "__class__") (.bind (.builtin "getset_descriptor.__get__") (.builtin "object.__class__")):=by let d:=looks_findIn (M:=M) X k.at_;let b:Looks M h (getOf (some (.builtin "object.__class__"))) (some (.builtin "getset_descriptor.__get__")):=looks_specialIn X k.get;let a:=looks_takesIn (M:=M) X k.takes;calc d.andThen (b.andThen ?_);calc(show Looks M h (dataDescriptor? (some (.builtin "object.__class__")) (some (.builtin "getset_descriptor.__get__"))) (some (.builtin "getset_descriptor.__get__", .builtin "object.__class__"))from a.andThen .now).andThen (Looks.tag .now)
def Ng{a:Tok}{Q:Fin->Shared->Prop}(k:eE K c)(X:K.In s.heap)(p:ExcAt e c s.heap)(b:Q (.done (.ret (.ref c))) s) :
  wpAny (model prog w) A (Builtin.«object.__getattribute__» ⟨[.ref e,.str "__class__" a],[]⟩) Q E s:=by
 let d:=p.ty (M:=model prog w);let a:=PO (M:=model prog w) (e:=e) k X;calc Rm (Rz ?_);calc Rm (Rz ?_);calc Rm (d.at (Rm (a.at ?_)));ext bindTo
 repeat (first|with_reducible calc Rm ?_|with_reducible calc VU ?_)
 calc wpAny_call (QI X p k.obj ?_);calc Rz b
def Nf{a:Value}{Q:Unit->Shared->Prop}(k:eE K c)(X:K.In s.heap)(p:ExcAt e c s.heap)(b:Q () s) :
  wpAny M A (checkBuiltinCall "BaseException.__getattribute__" ⟨[.ref e,a],[]⟩) Q E s:=by
 let⟨h,g,l,t,os⟩:=s;let d:builtinKind "BaseException.__getattribute__" = some .slot:=by decide +kernel
 let f:splitId "BaseException.__getattribute__" = some ("BaseException", "__getattribute__"):=by decide +kernel
 let j:=F.args_bexc_ga (.ref e) a;let i:=p.ty (M:=M);let g:=looks_mroIn (M:=M) X k.exc;let a:Looks M h (isInstance (.ref e) (.type "BaseException")) true:=i.andThen g;simp only[checkBuiltinCall,d,f];refine Rm (a.at ?_)
 repeat (first|wp_step)
 calc b
def x_call{a:Tok}{R:Result->Shared->Prop}(k:eE K c)(X:K.In s.heap)(p:ExcAt e c s.heap)(b:R (.ok (.ret (.ref c))) s) :
  codeAny (model prog w) A (.call (.builtin "BaseException.__getattribute__") ⟨[.ref e,.str "__class__" a],[]⟩) R s :=
 codeAny_call_builtin F.excAttr_ValueError.ga.plain F.entry_bexc_ga (Nf k X p (Ng k X p b))
def PN{Q:yan->Shared->Prop}(k:eE K c)(X:K.In s.heap)(p:ExcAt e c s.heap)(b:Q (some (.ref c)) {s with toks:=s.toks+1}) :
  wpAny (model prog w) A (getAttr? (.ref e) "__class__") Q E s:=by
 let f:=p.ty (M:=model prog w);let d:=looks_findIn (M:=model prog w) X k.ga;let a:=looks_findIn (M:=model prog w) X k.hook;let g:=F.excAttr_ValueError.ga.bind (.ref e);calc Rm (wpAny_mkText (Rm (zCd (VU (Rm (f.at (Rm (d.at ?_))))))));let TQ:(Value.builtin "BaseException.__getattribute__" == Value.builtin "object.__getattribute__")=false:=by decide +kernel
 calc Rm (a.at ?_);calc Rm (zCd (VU ?_));calc wpAny_call (x_call k X p ?_);calc Rz (a:=Value.ref c) ?_;exact Rz b
set_option tactic.hygienic true in
def Jk(k:eE K c):KitX K (.ref e) (.ref c) (ExcAt e c) where
 ty:=λ_ _ _ p=>p.ty
 it:=λ_ _ X _=>by let h:=k.cls;unfold clsIn at h;split at h;rename_i l j g a f;intro A' Q' E' o b q;calc Rm (wpAny_loadPart (b _ _ (X _ _ f)) (Rz q));cases h
 ne:=λh i r Ru n m X d=>by
  let h:=k.cls;refine Bool.eq_false_iff.mpr λq=>?_
  let z:c=i:=35
  subst z;unfold clsIn at h;split at h;rename_i l j g a f;cases(X _ _ f).symm.trans d;cases h
 ca:=λX p b=>PN k X p b
end
end PX
namespace PD
open PySem PySem.Spec PyProof.Rows L2 PX
abbrev St:=L2.St
def NT:HO->Prop
 |.Xi _=>False
 |_=>True
def Q1:Str := "lightest.<locals>.<lambda>"
def Ni(c:Addr):Heap->Prop:=λh=>h.CodeRec (.ref c) Q1
def fX(H:Hp):Prop:=∀P a,H P=some (.Xi a)->TriplesOk a.toList/\∀b d,codeAmong b a.toList=some d->∃c,d=.ref c/\H c=some (.ext (Ni c))
noncomputable def tabOf(K:yac):Option Addr :=
 match PySem.W.nsIn K mainGlobals "lightest" with
 |some (some (.ref f))=>(match K.lookup f with
  |some ⟨_,_,.func a,_⟩=>(match a.code with
   |.ref c=>(match K.lookup c with
    |some ⟨_,_,.fields a,_⟩=>(match(a[11]?:yan)with
     |some (.ref P)=>if(K.lookup P).isNone=true then some P else none
     |_=>none)
    |_=>none)
   |_=>none)
  |_=>none)
 |_=>none
structure av(H H':Hp):Prop where
 kp:∀b o,H b=some o->NT o->H' b=some o
 tb:∀b ps,H b=some (.Xi ps)->∃more,H' b=some (.Xi (ps++more))
 ok:fX H->fX H'
def av.app(e:av H H')(b:Addr)(o:HO)(h:H b=some o)(a:NT o:=by first|calc True.intro|assumption):H' b=some o:=e.kp b o h a
instance {H H':Hp}:CoeFun (av H H') (λ_=>∀(b:Addr) (o:HO),H b=some o->(nt:NT o:=by first|calc True.intro|assumption)->H' b=some o):=⟨@av.app H H'⟩
theorem av.refl(H:Hp):av H H:=⟨35,46,id⟩
def av.trans(a:av H H1)(b:av H1 H2):av H H2:=⟨λc o h n=>b.kp c o (a.kp c o h n) n,λc d h=>by let⟨e,g⟩:=a.tb c d h;let⟨d,f⟩:=b.tb c _ g;calc⟨e++d,by rw[f,Array.append_assoc]⟩,λh=>b.ok (a.ok h)⟩
def av.ex(e:av H H'){o:HO}(h:H b=some o):∃a,H' b=some a:=by
 by_cases n:NT o;calc⟨o,e.kp b o h n⟩;cases o with
 |Xi a =>
  let⟨m,q⟩:=e.tb b a h;calc⟨_,q⟩
 |_=>calc absurd True.intro n
def av.free(e:av H H')(h:H' l=Option.none):H l=Option.none:=by
 cases q:H l with
 |none=>rfl
 |some o =>
  let⟨a,z⟩:=e.ex q
  lia
def av.seq{K:yac}{H H':Hp}{a:Addr}{xs:yar}(e:av H H')(h:SqL K H a xs):SqL K H' a xs:=by
 rcases h with(h|⟨o,h⟩)|h;calc .inl (.inl (e _ _ h));calc .inl (.inr ⟨o,e _ _ h⟩);calc .inr h
theorem fX.upd{H:Hp}(n:NT o)(c:H p=none∨∃ u,H p=some u/\(∀a,u ≠ .ext a)/\NT u)(h:fX H):fX (upd H p o):=by
 intro P a e;let b:P≠p:=λz=>by subst z;rw[aQ]at e;cases e;exact n
 rw[aC b]at e;let⟨f,d⟩:=h P a e;grind [aC]
structure ig(K:yac)(H:Hp):Prop where
 ok:fX H
 at':∀P,tabOf K=some P->∃ps,H P=some (.Xi ps)
def ig.same{K:yac}{H H':Hp}(h:ig K H)(e:av H H'):ig K H':=⟨e.ok h.ok,λP q=>by let⟨a,z⟩:=h.at' P q;let⟨m,z⟩:=e.tb P a z;grind⟩
theorem ig.upd{K:yac}{H:Hp}{p:Addr}{o:HO}(h:ig K H)(n:NT o)(a:H p=none∨∃ u,H p=some u/\(∀b,u ≠ .ext b)/\NT u):ig K (upd H p o):=⟨fX.upd n a h.ok,λP q=>by
 let⟨b,z⟩:=h.at' P q;calc⟨b,?_⟩;rw[aC λe=>?_];calc z;subst e;obtain a|⟨u,a,_,b⟩:=a
 lia
 rw[a]at z;cases z;calc b⟩
inductive D where
 |RZ|bl (b:Bool)|int (i:Int)|str (x:Str)|tup (ds:List D)|lst (t:Bool) (ds:List D)|exc (c:Addr)|obj (C:Addr) (ns:yah) (ds:List D)|Wx|V2 (ks:yaf) (ds:List D)
abbrev yas:=List D
def Zv:HO->Prop
 |.ext _=>True|.ins _ _ _=>True|.frz _ (.dK _)=>True|_=>False
def Zv.nt(h:Zv o):NT o:=by cases o<;>first|calc True.intro|calc h.elim
def UH(K:yac)(H:Hp)(t:Bool)(a:Addr)(b:yar):Prop:=SqL K H a b/\(t=true->H a=some (.lst b)/\K.lookup a=none)
def UH.same{K:yac}{H H':Hp}{t:Bool}{a:Addr}{b:yar}(e:av H H')(q:UH K H t a b):UH K H' t a b:=⟨e.seq q.1,λz=>⟨e _ _ (q.2 z).1,(q.2 z).2⟩⟩
def UH.any{K:yac}{H:Hp}{a:Addr}{b:yar}(q:SqL K H a b):UH K H false a b:=⟨q,λz=>by cases z⟩
def UH.new{K:yac}{H:Hp}(q:H a=some (.lst vs))(k:K.lookup a=none):UH K H t a vs:=⟨SqL.of q,35⟩
def SK(_:yac)(H:Hp)(a:Addr)(xs:yar):Prop:=H a=some (.tup xs)
def SK.w{K:yac}{H:Hp}{a:Addr}{xs:yar}(h:SK K H a xs):L2.SK K H a xs:=.inl (.inl h)
def SK.of{K:yac}{H:Hp}{a:Addr}{xs:yar}(h:H a=some (.tup xs)):SK K H a xs:=h
mutual
def Den(K:yac)(P:yak)(H:Hp):D->V->Prop
 |.RZ,v=>v=.RZ
 |.bl b,v=>v=.bl b
 |.int i,v=>v=.int i
 |.str x,v=>v=.str x
 |.tup d,v=>∃a b,v=.ref a/\SK K H a b/\ah K P H d b
 |.lst t d,v=>∃a b,v=.ref a/\¬P t a/\UH K H t a b/\ah K P H d b
 |.exc c,v=>∃e,v=.ref e/\H e=some (.ext (ExcAt e c))/\eE K c
 |.Wx,v=>∃a,v=.ref a/\H a=some (.ext (PySem.W.KitAt a "dict"))
 |.obj C c d,v=>∃a e b,v=.ref a/\H a=some (.ins C e (c.zip b))/\#[b]=#[c]/\DK K C/\ah K P H d b
 |.V2 c d,v=>∃a o e b,v=.ref a/\H a=some (.frz o (.dK e))/\e=(c.map Sum.inl).zip b/\#[b]=#[c]/\ah K P H d b
def ah(K:yac)(P:yak)(H:Hp):yas->yar->Prop
 |[],a=>a=[]
 |d::b,a=>∃v r,a=v::r/\Den K P H d v/\ah K P H b r
end
section
variable{K:yac}{P P':yak}{H H':Hp}
mutual
theorem Den.map(i:∀a b,SK K H a b->SK K H' a b)(g:∀t a b,¬P t a->UH K H t a b->¬P' t a/\UH K H' t a b)(f:∀a o,Zv o->H a=some o->H' a=some o):∀(d:D) (v:V),Den K P H d v->Den K P' H' d v
 |.RZ,_,h=>by simpa only[Den]using h
 |.bl _,_,h=>by simpa only[Den]using h
 |.int _,_,h=>by simpa only[Den]using h
 |.str _,_,h=>by simpa only[Den]using h
 |.tup d,_,h=>by simp only[Den]at h ⊢;let⟨a,b,e,q,r⟩:=h;calc⟨a,b,e,i a b q,ah.map i g f d b r⟩
 |.lst t d,_,h=>by simp only[Den]at h ⊢;let⟨a,b,e,p,q,r⟩:=h;calc⟨a,b,e,(g t a b p q).1,(g t a b p q).2,ah.map i g f d b r⟩
 |.exc c,_,h=>by simp only[Den]at h ⊢;let⟨a,e,q,k⟩:=h;calc⟨a,e,f a _ True.intro q,k⟩
 |.obj C j d,_,h=>by simp only[Den]at h ⊢;let⟨a,c,b,e,q,l,k,r⟩:=h;calc⟨a,c,b,e,f a _ True.intro q,l,k,ah.map i g f d b r⟩
 |.Wx,_,h=>by simp only[Den]at h ⊢;let⟨a,e,q⟩:=h;calc⟨a,e,f a _ True.intro q⟩
 |.V2 m d,_,h=>by simp only[Den]at h ⊢;let⟨a,o,c,b,e,q,l,k,r⟩:=h;calc⟨a,o,c,b,e,f a _ True.intro q,l,k,ah.map i g f d b r⟩
theorem ah.map(g:∀a b,SK K H a b->SK K H' a b)(i:∀t a b,¬P t a->UH K H t a b->¬P' t a/\UH K H' t a b)(f:∀a o,Zv o->H a=some o->H' a=some o):∀(c:yas) (b:yar),ah K P H c b->ah K P' H' c b
 |[],_,h=>by simpa only[ah]using h
 |d::c,_,h=>by simp only[ah]at h ⊢;let⟨v,r,e,b,a⟩:=h;calc⟨v,r,e,Den.map g i f d v b,ah.map g i f c r a⟩
end
end
def SK.same{K:yac}{H H':Hp}{a:Addr}{xs:yar}(e:av H H')(h:SK K H a xs):SK K H' a xs:=e _ _ h
section
variable{K:yac}{P:yak}{H H':Hp}
theorem Den.same(e:av H H')(h:Den K P H d v):Den K P H' d v:=Den.map (λ_ _ q=>SK.same e q) (λ_ _ _ p q=>⟨p,q.same e⟩) (λa _ n q=>e.kp a _ q n.nt) d v h
theorem ah.same(e:av H H')(h:ah K P H ds vs):ah K P H' ds vs:=ah.map (λ_ _ q=>SK.same e q) (λ_ _ _ p q=>⟨p,q.same e⟩) (λa _ n q=>e.kp a _ q n.nt) ds vs h
def Den.R9{b:yak}(e:∀t a,b t a->P t a)(h:Den K P H d v):Den K b H d v:=Den.map (λ_ _ q=>q) (λ_ _ _ p q=>⟨λz=>p (e _ _ z),q⟩) (λ_ _ _ q=>q) d v h
def ah.R9{b:yak}(e:∀t a,b t a->P t a)(h:ah K P H ds vs):ah K b H ds vs:=ah.map (λ_ _ q=>q) 72 35 ds vs h
theorem ah.len:∀{a:yas} {b:yar},ah K P H a b->#[b]=#[a]
 |[],_,h=>by simp only[ah]at h;cbv
 |d::a,_,h=>by let⟨v,r,rfl,_,a⟩:=h;simp[ah.len a]
theorem ah.get:∀{a:yas} {b:yar} {i:Nat} {d:D},ah K P H a b->a[i]?=some d->∃v,b[i]?=some v/\Den K P H d v
 |[],_,_,_,_,e=>by simp at e
 |d::a,_,0,_,h,e=>by simp only[ah]at h;let⟨v,r,rfl,b,_⟩:=h;simp at e;subst e;calc⟨v,rfl,b⟩
 |d::a,_,i+1,x,h,e=>by simp only[ah]at h;let⟨v,r,rfl,_,a⟩:=h;let⟨u,c,b⟩:=ah.get (i:=i) (d:=x) a (by simpa using e);calc⟨u,by simpa using c,b⟩
theorem ah.bI:∀{a:yas} {b:yar} {i:Nat} {v:V},ah K P H a b->b[i]?=some v->∃d,a[i]?=some d/\Den K P H d v
 |[],_,_,_,h,e=>by simp only[ah]at h;cbv
 |d::a,_,0,_,h,e=>by simp only[ah]at h;grind
 |d::a,_,i+1,x,h,e=>by
  let⟨v,r,rfl,_,a⟩:=h;let⟨u,f,c⟩:=ah.bI (i:=i) (v:=x) a 46
  cbv
theorem ah.append:∀{a es:yas} {b c:yar},ah K P H a b->ah K P H es c->ah K P H (a++es) (b++c)
 |[],_,_,_,h,b=>by simp only[ah]at h;cbv
 |d::a,_,_,_,h,b=>by let⟨v,r,rfl,c,a⟩:=h;calc⟨v,_,rfl,c,ah.append a b⟩
def ah.one(h:Den K P H d v):ah K P H [d] [v]:=by simp only[ah];calc⟨v,[],rfl,h,rfl⟩
def ah.nil:ah K P H [] []:=by simp only[ah]
def ah.cons(h:Den K P H d v)(h':ah K P H ds vs):ah K P H (d::ds) (v::vs):=by calc⟨v,vs,rfl,h,h'⟩
def Den.SM(h:Den K P H (.int i) v):v=.int i:=by simpa only[Den]using h
def Den.Zw(h:Den K P H (.bl b) v):v=.bl b:=by simpa only[Den]using h
def Den.Zx(h:Den K P H .RZ v):v=.RZ:=by simpa only[Den]using h
def Den.str_(h:Den K P H (.str x) v):v=.str x:=by simpa only[Den]using h
theorem Den.int(i:Int):Den K P H (.int i) (.int i):=by simp only[Den]
theorem Den.bl(b:Bool):Den K P H (.bl b) (.bl b):=by simp only[Den]
theorem Den.RZ:Den K P H .RZ .RZ:=by simp only[Den]
theorem Den.str(x:Str):Den K P H (.str x) (.str x):=by simp only[Den]
def Den.UY(h:Den K P H (.tup ds) v):∃a b,v=.ref a/\SK K H a b/\ah K P H ds b:=by simpa only[Den]using h
def Den.WL(h:Den K P H (.lst t ds) v):∃a b,v=.ref a/\¬P t a/\UH K H t a b/\ah K P H ds b:=by simpa only[Den]using h
def Den.UI(h:Den K P H (.lst t ds) v):∃a b,v=.ref a/\¬P t a/\SqL K H a b/\ah K P H ds b:=by let⟨a,b,f,e,d,c⟩:=h.WL;calc⟨a,b,f,e,d.1,c⟩
def Den.dic_ (h:Den K P H .Wx v):∃a,v=.ref a/\H a=some (.ext (PySem.W.KitAt a "dict")):=by simpa only[Den]using h
def Den.obj_(h:Den K P H (.obj C ns ds) v):∃a c b,v=.ref a/\H a=some (.ins C c (ns.zip b))/\#[b]=#[ns]/\DK K C/\ah K P H ds b:=by simpa only[Den]using h
def Den.dik_(h:Den K P H (.V2 ks ds) v):∃a o c b,v=.ref a/\H a=some (.frz o (.dK c))/\c=(ks.map Sum.inl).zip b/\#[b]=#[ks]/\ah K P H ds b:=by simpa only[Den]using h
def Den.exc_(h:Den K P H (.exc c) v):∃e,v=.ref e/\H e=some (.ext (ExcAt e c))/\eE K c:=by simpa only[Den]using h
theorem Den.exc(h:H e=some (.ext (ExcAt e c)))(k:eE K c):Den K P H (.exc c) (.ref e):=by simp only[Den];calc⟨e,rfl,h,k⟩
theorem Den.tup(h:SK K H a vs)(h':ah K P H ds vs):Den K P H (.tup ds) (.ref a):=by calc⟨a,vs,rfl,h,h'⟩
theorem Den.lst(p:¬P t a)(h:UH K H t a vs)(h':ah K P H ds vs):Den K P H (.lst t ds) (.ref a):=by calc⟨a,vs,rfl,p,h,h'⟩
end
inductive LI where
 |own (ds:yas)|val (d:D)
inductive OS where
 |lst (ds:yas)|dk (kvs:List (Key×D))|dt (kvs:List (List Key×D))|ll (xs:List LI)
inductive Sl where
 |val (d:D)
 |ob (x:OS)
abbrev Sl.own(ds:yas):Sl:=.ob (.lst ds)
def bg(K:yac)(P:yak)(H:Hp)(B:yaj):Nat->List LI->yar->Prop
 |_,[],a=>a=[]
 |k,.own d::r,a=>∃b c u,a=.ref b::u/\B k=some b/\H b=some (.lst c)/\ah K P H d c/\bg K P H B (k+1) r u
 |k,.val d::r,a=>∃v u,a=v::u/\Den K P H d v/\bg K P H B (k+1) r u
theorem bg.map{K:yac}{P e:yak}{H H':Hp}{B B':yaj}(f:∀d c,ah K P H d c->ah K e H' d c)(g:∀k b,B k=some b->B' k=some b/\∀a,H b=some (.lst a)->H' b=some (.lst a)):∀{k:Nat} {xs:List LI} {c:yar},bg K P H B k xs c->bg K e H' B' k xs c
 |_,[],_,h=>by simpa only[bg]using h
 |k,.own d::r,_,h=>by let⟨b,a,u,e,c,l,j,i⟩:=h;calc⟨b,a,u,e,(g k b c).1,(g k b c).2 a l,f d a j,bg.map f g i⟩
 |k,.val d::r,_,h=>by let⟨v,u,e,c,l⟩:=h;let j:=f [d] [v] (ah.one c);let⟨m,n,a,i,_⟩:=j;cases a;calc⟨v,u,e,i,bg.map f g l⟩
theorem bg.len{K:yac}{P:yak}{H:Hp}{B:yaj}:∀{k:Nat} {xs:List LI} {a:yar},bg K P H B k xs a->#[a]=#[xs]
 |_,[],_,h=>by simp only[bg]at h;cbv
 |k,.own e::r,_,h=>by let⟨b,c,u,rfl,_,_,_,a⟩:=h;simp[bg.len a]
 |k,.val d::r,_,h=>by let⟨v,u,rfl,_,a⟩:=h;simp[bg.len a]
inductive cZ (K:yac) (P:yak) (H:Hp) (B:yaj):OS->HO->Prop where
 |lst {ds:yas} {vs:yar} (h:ah K P H ds vs):cZ K P H B (.lst ds) (.lst vs)
 |ll {xs:List LI} {vs:yar} (h:bg K P H B 0 xs vs):cZ K P H B (.ll xs) (.lst vs)
 |dk {kvs:List (Key×D)} {SF:List (Key×V)} (e:SF.map (·.1)=kvs.map (·.1)) (h:ah K P H (kvs.map (·.2)) (SF.map (·.2))):cZ K P H B (.dk kvs) (.dK SF)
 |dt {kvs:List (List Key×D)} {SF:List (List Key×V)} (e:SF.map (·.1)=kvs.map (·.1)) (h:ah K P H (kvs.map (·.2)) (SF.map (·.2))):cZ K P H B (.dt kvs) (.dT SF)
def kz:HO->Prop
 |.lst _=>True|.dK _=>True|.dT _=>True|_=>False
def kz.nt(h:kz o):NT o:=by cases o<;>first|calc True.intro|calc h.elim
def kz.sol(h:kz o):¬Zv o:=by cases o<;>first|calc h.elim|calc λz=>z
def kz.ne(h:kz o):∀a,o ≠ .ext a:=λ_ e=>by subst e;calc h
section
variable{K:yac}{P P':yak}{H H':Hp}{B B':yaj}{x:OS}{o:HO}
theorem cZ.map(k:∀d a,ah K P H d a->ah K P' H' d a)(e:∀k b,B k=some b->B' k=some b/\∀c,H b=some (.lst c)->H' b=some (.lst c))(h:cZ K P H B x o):cZ K P' H' B' x o:=by
 cases h with
 |lst h=>calc .lst (k _ _ h)
 |ll h=>calc .ll (h.map k e)
 |dk e h=>calc .dk e (k _ _ h)
 |dt e h=>calc .dt e (k _ _ h)
theorem cZ.same(e:av H H')(h:cZ K P H B x o):cZ K P H' B x o:=h.map (λ_ _ z=>z.same e) λ_ _ q=>⟨q,λ_ z=>e _ _ z⟩
theorem cZ.R9(e:∀t a,P' t a->P t a)(c:∀k b,B k=some b->B' k=some b)(h:cZ K P H B x o):cZ K P' H B' x o:=h.map (λ_ _ z=>z.R9 e) λk b q=>⟨c k b q,λ_ z=>z⟩
def cZ.YE(h:cZ K P H B x o):kz o:=by cases h<;>calc True.intro
def cZ.UI(h:cZ K P H B (.lst ds) o):∃a,o=.lst a/\ah K P H ds a:=by
 cases h with
 |lst h=>calc⟨_,rfl,h⟩
end
abbrev Ro:=List (Option Sl)
structure Own where
 B:Addr->Prop
 O:yaj
 S:Addr->Prop
def Own.bad(W:Own)(t:Bool)(a:Addr):Prop:=W.B a∨(∃i,W.O i=some a)∨(t=true/\W.S a)
def Own.drop(W:Own)(i:Nat):Own:=⟨W.B,λj=>if j=i then none else W.O j,W.S⟩
def Own.put(W:Own)(i:Nat)(a:Addr):Own:=⟨W.B,λj=>if j=i then some a else W.O j,W.S⟩
def Own.Sv{W:Own}(h:(W.drop i).bad t a):W.bad t a:=by
 obtain h|⟨j,h⟩| h:=h;calc .inl h;let b:(if j=i then none else W.O j)=some a:=h;by_cases e:j=i
 lia
 rw[if_neg e]at b;calc .inr (.inl ⟨j,b⟩);calc .inr (.inr h)
def Own.X0{W:Own}(h:W.bad false a):W.bad t a:=by
 obtain h|h|⟨h,_⟩:=h;calc .inl h;exact .inr (.inl h)
 lia
def vix(n i k:Nat):Nat:=n*(k+1)+i
theorem wg{n j:Nat}(h:j<n):vix n i k≠j:=λe=>by
 unfold vix at e
 lia
abbrev Own.sub(W:Own)(n i:Nat)(k:Nat):Option Addr:=W.O (vix n i k)
def Own.V3{W:Own}{n i:Nat}(h:i<n)(k:Nat)(b:Addr)(e:W.sub n j k=some b):(W.drop i).sub n j k=some b:=by show(if vix n j k=i then none else W.O (vix n j k))=_;rw[if_neg (wg h)];calc e
structure Rel(X:Cx)(W:Own)(H:Hp)(σ:St)(ρ:Ro):Prop where
 val:∀(i:Nat) (d:D),ρ[i]?=some (some (Sl.val d))->∃v,σ[i]?=some (some v)/\Den X.K W.bad H d v
 own:∀(i:Nat) (x:OS),ρ[i]?=some (some (Sl.ob x))->∃a o,W.O i=some a/\σ[i]?=some (some (.ref a))/\H a=some o/\cZ X.K W.bad H (W.sub #[σ] i) x o
 inj:∀i j a,W.O i=some a->W.O j=some a->i=j
 kn:∀i a,W.O i=some a->X.K.lookup a=none/\(¬W.B a/\¬W.S a)/\∃o,H a=some o/\kz o
 ke:∀i a,W.O i=some a->X.Sj a=none
 bt:∀a,W.B a->∃o,H a=some o
 st:∀a,W.S a->∃o,H a=some o
 ent:av X.Sj H
 tab:ig X.K H
theorem Rel.same(r:Rel X W H σ ρ)(e:av H H'):Rel X W H' σ ρ where
 val:=λi d h=>let ⟨v,h1,h2⟩:=r.val i d h;⟨v,h1,h2.same e⟩
 own:=λi b h=>let ⟨a,vs,h1,h2,h3,h4⟩:=r.own i b h;⟨a,vs,h1,h2,e.kp _ _ h3 h4.YE.nt,h4.same e⟩
 inj:=r.inj
 kn:=λi a h=>let ⟨h1,h2,o,h3,h4⟩:=r.kn i a h;⟨h1,h2,o,e.kp _ _ h3 h4.nt,h4⟩
 ke:=r.ke
 bt:=λa h=>let ⟨_,q⟩:=r.bt a h;e.ex q
 st:=λa h=>let ⟨_,q⟩:=r.st a h;e.ex q
 ent:=r.ent.trans e
 tab:=r.tab.same e
def Rel.Xw(r:Rel X W H σ ρ)(i:Nat)(c:yas)(h:ρ[i]?=some (some (Sl.own c))):∃a b,W.O i=some a/\σ[i]?=some (some (.ref a))/\H a=some (.lst b)/\ah X.K W.bad H c b:=by let⟨a,o,j,g,f,d⟩:=r.own i _ h;let⟨b,e,c⟩:=d.UI;subst e;calc⟨a,b,j,g,f,c⟩
def Rel.tracked(r:Rel X W H σ ρ)(t:Bool)(a:Addr)(h:W.bad t a):∃o,H a=some o:=by
 obtain h|⟨i,h⟩| ⟨_,h⟩:=h;calc r.bt a h;let⟨_,_,o,q,_⟩:=r.kn i a h;calc⟨_,q⟩;calc r.st a h
def Rel.fresh(r:Rel X W H σ ρ)(h:H p=none):¬W.bad t p:=λz=>by
 let⟨o,q⟩:=r.tracked t p z
 lia
structure Sm(W:Own)(H:Hp)(W':Own)(H':Hp):Prop where
 B:W'.B=W.B
 S:W'.S=W.S
 kp:∀b o,(∀i,W.O i≠some b)->H b=some o->NT o->H' b=some o
 new:∀i a,W'.O i=some a->(∃j,W.O j=some a)∨H a=none
 tb:∀b ps,H b=some (.Xi ps)->∃more,H' b=some (.Xi (ps++more))
 ok:fX H->fX H'
def Sm.keep(f:Sm W H W' H')(b:Addr)(o:HO)(h:∀i,W.O i≠some b)(q:H b=some o)(a:NT o:=by first|calc True.intro|assumption):H' b=some o:=f.kp b o h q a
def Sm.ex(f:Sm W H W' H'){b:Addr}{o:HO}(h:∀i,W.O i≠some b)(q:H b=some o):∃a,H' b=some a:=by
 by_cases n:NT o;calc⟨o,f.kp b o h q n⟩;cases o with
 |Xi a =>
  let⟨m,e⟩:=f.tb b a q;calc⟨_,e⟩
 |_=>calc absurd True.intro n
theorem Sm.refl(W:Own)(H:Hp):Sm W H W H:=⟨rfl,rfl,35,72,46,id⟩
theorem Sm.trans(a:Sm W H W1 H1)(b:Sm W1 H1 W2 H2):Sm W H W2 H2:=by
 refine⟨b.B.trans a.B,b.S.trans a.S,λx o n h t=>b.kp x o (λi z=>?_) (a.kp x o n h t) t,λi x h=>?_,λc d h=>?_,λh=>b.ok (a.ok h)⟩
 ·rcases a.new i x z with⟨j,q⟩| q
  all_goals grind
 rcases b.new i x h with⟨j,q⟩| q;calc a.new j x q;by_cases z:∃j,W.O j=some x
 cbv
 calc .inr ?_;cases e:H x with
 |none=>rfl
 |some o =>
  let⟨f,this⟩:=a.ex 46 e
  lia
 let⟨k,e⟩:=a.tb c d h;let⟨g,l⟩:=b.tb c _ e;grind
def Sm.same(e:av H H'):Sm W H W H':=⟨rfl,rfl,λ_ _ _ h n=>e.kp _ _ h n,72,e.tb,e.ok⟩
def av.ins(e:av Sj H){o:HO}(h0:Sj a=none)(f:H a=some o)(c:kz o)(d:NT o'):av Sj (upd H a o') :=
 ⟨λb u h n=>by rw[aC 35];calc e.kp b u h n,λb a h=>by rw[aC 35];calc e.tb b a h,λh=>fX.upd d (.inr ⟨o,f,c.ne,c.nt⟩) (e.ok h)⟩
theorem Sm.upd{W:Own}{H:Hp}{a:Addr}{o:HO}(f:W.O i=some a)(d:H a=some o)(c:kz o)(g:NT o'):Sm W H W (upd H a o') :=
 ⟨rfl,rfl,λb u n h _=>by rw[aC λe=>n i (by rw[e];calc f)];calc h,λj _ h=>.inl ⟨j,h⟩,λb k h=>⟨#[],by rw[aC (λe=>by subst e;rw[d]at h;cases h;calc c),h];simp⟩,fX.upd g (.inr ⟨o,d,c.ne,c.nt⟩)⟩
structure jK where
 nx:Ro->Prop
 rt:D->Prop
 bk:Ro->Prop:=λ_=>False
 ct:Ro->Prop:=λ_=>False
abbrev DE:=Ro->(D->Prop)->Prop
abbrev DT:=Ro->(Bool->Prop)->Prop
abbrev DA:=Ro->(yas->Prop)->Prop
abbrev DS:=jK->Ro->Prop
inductive DP (X:Cx) (pins:yab) (σ:St) (W:Own) (H:Hp) (Q:D->Prop) (u:Value) (s':Shared):Prop
 |mk (v:V) (H':Hp) (d:D) (_:Inv X pins σ H' s') (_:RelV v u) (_:av H H') (_:Den X.K W.bad H' d v) (_:Q d)
inductive DTP (X:Cx) (pins:yab) (σ:St) (H:Hp) (Q:Bool->Prop) (b:Bool) (s':Shared):Prop
 |mk (H':Hp) (_:Inv X pins σ H' s') (_:av H H') (_:Q b)
inductive DAP (X:Cx) (pins:yab) (σ:St) (W:Own) (H:Hp) (Q:yas->Prop) (us:yad) (s':Shared):Prop
 |mk (vs:yar) (H':Hp) (ds:yas) (_:Inv X pins σ H' s') (_:Vals vs us) (_:av H H') (_:ah X.K W.bad H' ds vs) (_:Q ds)
def SPf(X:Cx)(E:jK)(b:Own)(c:St)(H':Hp)(f:Flow):Prop :=
 match f with
 |.next=>∃a,Rel X b H' c a/\E.nx a
 |.brk=>∃a,Rel X b H' c a/\E.bk a
 |.cont=>∃a,Rel X b H' c a/\E.ct a
 |.ret u=>∃v d,RelV v u/\Den X.K b.bad H' d v/\E.rt d
inductive Y3 (X:Cx) (pins:yab) (W:Own) (H:Hp) (E:jK) (f:Flow) (s':Shared):Prop
 |mk (W':Own) (R6:St) (H':Hp) (_:Inv X pins R6 H' s') (_:Sm W H W' H') (_:SPf X E W' R6 H' f)
def RU(X:Cx)(e:Expr)(t:DE):Prop :=
 ∀ (a:yab) (s:Shared) (b:St) (H:Hp) (W:Own) (c:Ro) (Q:D->Prop),Inv X a b H s->Rel X W H b c->t c Q →
  wpAny (model X.prog X.w) X.A (eval e X.env) (DP X a b W H Q) X.xe s
def Xx(X:Cx)(e:Expr)(t:DT):Prop :=
 ∀ (a:yab) (s:Shared) (b:St) (H:Hp) (W:Own) (c:Ro) (Q:Bool->Prop),Inv X a b H s->Rel X W H b c->t c Q →
  wpAny (model X.prog X.w) X.A (isTrue e X.env (eval e X.env)) (DTP X a b H Q) X.xe s
def Vn(X:Cx)(e:Expr)(t:DT):Prop :=
 ∀ (b:Sem Value) (a:yab) (s:Shared) (c:St) (H:Hp) (W:Own) (d:Ro) (Q:Bool->Prop),Inv X a c H s->Rel X W H c d->t d Q →
  wpAny (model X.prog X.w) X.A (isTrue e X.env b) (DTP X a c H Q) X.xe s
def Vn.pt(h:Vn X e t):Xx X e t:=h _
def Wz(X:Cx)(es:yai)(t:DA):Prop :=
 ∀ (c:Pos) (a:yab) (s:Shared) (b:St) (H:Hp) (W:Own) (d:Ro) (Q:yas->Prop),Inv X a b H s->Rel X W H b d->t d Q →
  wpAny (model X.prog X.w) X.A (spliced (backTo c (starEach es X.env))) (DAP X a b W H Q) X.xe s
def US(X:Cx)(st:Stmt)(t:DS):Prop :=
 ∀ (a:yab) (s:Shared) (b:St) (H:Hp) (W:Own) (c:Ro) (E:jK),Inv X a b H s->Rel X W H b c->t E c →
  wpAny (model X.prog X.w) X.A (exec st X.env) (Y3 X a W H E) X.xe s
def cT(X:Cx)(st:yal)(t:DS):Prop :=
 ∀ (a:yab) (s:Shared) (b:St) (H:Hp) (W:Own) (c:Ro) (E:jK),Inv X a b H s->Rel X W H b c->t E c →
  wpAny (model X.prog X.w) X.A (execs st X.env) (Y3 X a W H E) X.xe s
def Ek(X:Cx)(t:DE):TE:=λc H Q=>∃W a b,Rel X W H c a/\t a b/\∀v a d,av H a->Den X.K W.bad a d v->b d->Q v a
def Qj(X:Cx)(t:DS):TS:=λD b H=>∃W a f,Rel X W H b a/\t f a ∧
 (∀b e a c,Sm W H b a->Rel X b a e c->f.nx c->D.nx e a) ∧
 (∀b a v d,Sm W H b a->Den X.K b.bad a d v->f.rt d->D.rt v a) ∧
 (∀b e a c,Sm W H b a->Rel X b a e c->f.bk c->D.bk e a) ∧
 (∀b e a c,Sm W H b a->Rel X b a e c->f.ct c->D.ct e a)
section
variable{X:Cx}
def RU.pe(h:RU X e t):PE X e (Ek X t):=by intro a s b H Q I q;let⟨W,c,e,r,d,k⟩:=q;calc Rw (h a s b H W c e I r d) λu i g=>(by let⟨v,a,d,h,b,f,e,c⟩:=g;calc⟨v,a,h,b,k v a d f e c⟩)
def cT.ps{st:yal}{t:DS}(h:cT X st t):PSs X st (Qj X t):=by
 intro a s b H D I q;let⟨W,c,e,r,d,m,l,k,j⟩:=q;refine Rw (h a s b H W c e I r d) λf n b=>?_
 let⟨h,c,a,i,g,q⟩:=b;cases f with
 |next=>let⟨e,d,b⟩:=q;calc⟨c,a,i,m h c a e g d b⟩
 |brk=>let⟨e,d,b⟩:=q;calc⟨c,a,i,k h c a e g d b⟩
 |cont=>let⟨e,d,b⟩:=q;calc⟨c,a,i,j h c a e g d b⟩
 |ret u=>let⟨v,d,e,f,b⟩:=q;calc⟨v,c,a,i,e,l h a v d g f b⟩
def RU.of{t:DE}(h:PE X e te)(k:∀a H W ρ Q,Rel X W H a ρ->t ρ Q->te a H λv H'=>av H H'/\∃d,Den X.K W.bad H' d v/\Q d):RU X e t:=by intro b s a H W ρ Q I r c;calc Rw (h b s a H _ I (k a H W ρ Q r c)) λu g e=>(by let⟨v,H',f,a,c,d,b,q⟩:=e;calc⟨v,H',d,f,a,c,b,q⟩)
end
section
variable{X:Cx}{a b c:Expr}{ta tb:DE}{pos:Pos}
def de(i:Nat):DE:=λd Q=>match d[i]? with
 |some (some (.val d))=>Q d
 |_=>False
set_option tactic.hygienic true in
def Ls(h:de i ρ Q):∃d,ρ[i]?=some (some (.val d))/\Q d:=by unfold de at h;split at h;rename_i d e;calc⟨d,e,h⟩;calc h.elim
def dC(d:D):DE:=λ_ Q=>Q d
def dv (i:Nat) {x:Str} {pos:Pos} (e:X.N[i]?=some x:=by rfl) (hv:Ym X.env.scope x:=by first|calc Or.inl rfl|calc Or.inr (Or.inl rfl)|calc Or.inr (Or.inr rfl)) (d:(x==("__debug__" : Str))=false:=by decide)
  (f:(x==("__classdict__" : Str))=false:=by decide):RU X (.Name x pos) (de i) :=
 RU.of (fU e hv d f) λh H W j Q r f=>by let⟨d,e,q⟩:=Ls f;let⟨v,g,f⟩:=r.val i d e;calc⟨v,g,av.refl H,d,f,q⟩
def ae{i j pos}:RU X (.Constant (.int i) j pos) (dC (.int i)):=RU.of AW λ_ H _ _ _ _ q=>⟨av.refl H,_,Den.int i,q⟩
def cU{i j pos}:RU X (.Constant (.bool i) j pos) (dC (.bl i)):=RU.of Qr λ_ H _ _ _ _ q=>⟨av.refl H,_,Den.bl i,q⟩
def fR{j pos}:RU X (.Constant .none j pos) (dC .RZ):=RU.of O9 λ_ H _ _ _ _ q=>⟨av.refl H,_,Den.RZ,q⟩
def FY{x j pos}:RU X (.Constant (.str x) j pos) (dC (.str x)):=RU.of Pa λ_ H _ _ _ _ q=>⟨av.refl H,_,Den.str x,q⟩
abbrev RD2:=D->D->(D->Prop)->Prop
def TB(X:Cx)(f:Value->Value->Sem Value)(r:RD2):Prop :=
 ∀ (d:yab) (s:Shared) (e:St) (H:Hp) (W:Own) (x y:D) (v u:V) (g h:Value) (Q:D->Prop),Inv X d e H s->(∀t a,W.bad t a->∃o,H a=some o)->RelV v g->RelV u h->Den X.K W.bad H x v->Den X.K W.bad H y u->r x y Q →
  wpAny (model X.prog X.w) X.A (f g h) (DP X d e W H Q) X.xe s
def WV(r:RD2)(ta tb:DE):DE:=λd Q=>ta d λx=>tb d λy=>r x y Q
def DW(m:RU X a ta)(q:RU X b tb){d:yab}{s:Shared}{g:St}{H:Hp}{W:Own}{ρ:Ro}{R:D->D->Prop}(I:Inv X d g H s)(r:Rel X W H g ρ)(h:ta ρ λx=>tb ρ λy=>R x y)
  {l:Type} {Q:l->Shared->Prop} {f:Value->Value->Sem l}
  (p:∀i j k v u x y e,Inv X d g e k->av H e->RelV v i->RelV u j->Den X.K W.bad e x v->Den X.K W.bad e y u->R x y->wpAny (model X.prog X.w) X.A (f i j) Q X.xe k) :
  wpAny (model X.prog X.w) X.A (eval a X.env) (λv o=>wpAny (model X.prog X.w) X.A (eval b X.env) (λu n=>wpAny (model X.prog X.w) X.A (f v u) Q X.xe n) X.xe o) X.xe s:=by
 refine Rw (m d s g H W ρ _ I r h) λi l f=>?_
 let⟨v,t,x,s,m,h,o,n⟩:=f;refine Rw (q d l g t W ρ _ s (r.same h) n) λj k f=>?_
 let⟨u,e,y,q,g,d,n,l⟩:=f;calc p i j k v u x y e q (h.trans d) m g (o.same d) n l
def DP.up(e:av H H1)(h:DP X pins σ W H1 Q u s'):DP X pins σ W H Q u s':=by let⟨v,i,d,I,r,g,f,q⟩:=h;calc⟨v,i,d,I,r,e.trans g,f,q⟩
def au{d:Operator}{r:RD2}(o:TB X (binaryOp d) r)(i:RU X a ta)(e:RU X b tb):RU X (.BinOp a d b pos) (WV r ta tb):=by intro d s g H W t Q I f h;calc wpAny_BinOp (DW i e I f h λh i j v u x y r p e k l n m q=>?_);calc Rw (o d j g r W x y v u h i Q p (f.same e).tracked k l n m q) λ_ _ z=>z.up e
def P8{rd:D->(D->Prop)->Prop}(n:UnR X (unaryOp op) r)(i:RU X a ta)
  (k:∀P H d v Q,Den X.K P H d v->rd d Q->r v H λe H'=>av H H'/\∃d',Den X.K P H' d' e/\Q d'):RU X (.UnaryOp op a pos) (λρ Q=>ta ρ λx=>rd x Q):=by
 intro e s f H W ρ Q I g h;calc UnaryOp_ (Rw (i e s f H W ρ _ I g h) λh i p=>?_);let⟨v,g,x,q,j,o,m,l⟩:=p;calc Rw (n e i f g v h _ q j (k _ g x v Q m l)) λu t j=>(by let⟨e,l,k,f,i,d,h,g⟩:=j;calc⟨e,l,d,k,f,o.trans i,h,g⟩)
def lV:Option (Option Sl)->(yas->Prop)->Prop
 |some (some (.ob (.lst d))),R=>R d
 |_,_=>False
def mS(h:lV x R):∃d,x=some (some (.own d))/\R d:=by
 unfold lV at h;split at h;exact⟨_,rfl,h⟩
 cbv
theorem O6(d:yas)(r:Ro)(R:yas->Prop):lV (some (Sl.own d)::r)[0]? R=R d:=rfl
theorem O7(n:Nat)(x:Option Sl)(r:Ro)(R:yas->Prop):lV (x::r)[n+1]? R=lV r[n]? R:=rfl
def blQ:D->(Bool->Prop)->Prop
 |.bl k,Q=>Q k
 |_,_=>False
def pR(h:blQ x Q):∃k,x=.bl k/\Q k:=by
 cases x<;>first|calc False.elim h|calc⟨_,rfl,h⟩
theorem jM(k:Bool)(Q:Bool->Prop):blQ (.bl k) Q=Q k:=rfl
def zY(ta:DE):DE:=λd Q=>ta d λx=>∃i,x=.int i/\Q (.int (-i))
def bE(d:RU X a ta):RU X (.UnaryOp .USub a pos) (zY ta) :=
 P8 (rd:=λx Q=>∃i,x=.int i/\Q (.int (-i))) PJ d λP H d v Q d ⟨i,e,q⟩=>by subst e;calc⟨i,d.SM,av.refl H,_,Den.int _,q⟩
def TB.of{rd:RD2}(h:Wu X f r)(k:∀P H x y v u Q,Den X.K P H x v->Den X.K P H y u->rd x y Q->r v u H λd H'=>av H H'/\∃d',Den X.K P H' d' d/\Q d'):TB X f rd:=by intro d s e H W x y v u f g Q I _ i j m l q;calc Rw (h d s e H v u f g _ I i j (k _ H x y v u Q m l q)) λ_ n j=>(by let⟨e,l,k,f,i,d,h,g⟩:=j;calc⟨e,l,d,k,f,i,h,g⟩)
def rdI(C:Int->Int->Prop)(g:Int->Int->D):RD2:=λx y Q=>match x,y with
 |.int i,.int j=>C i j/\Q (g i j)
 |_,_=>False
def fH(g:Int->Int->D):RD2:=λx y Q=>match x,y with
 |.int i,.int j=>Q (g i j)
 |_,_=>False
def Pj(h:rdI C g x y Q):∃i j,x=.int i/\y=.int j/\C i j/\Q (g i j):=by unfold rdI at h;split at h;calc⟨_,_,rfl,rfl,h⟩;calc h.elim
def rL(h:fH g x y Q):∃i j,x=.int i/\y=.int j/\Q (g i j):=by unfold fH at h;split at h;calc⟨_,_,rfl,rfl,h⟩;calc h.elim
def TB.ofI{g:Int->Int->Int}(h:Wu X f (rI C λi j=>.int (g i j))):TB X f (rdI C λi j=>.int (g i j)) :=
 TB.of h λP H x y v u Q e d z=>by let⟨i,j,h,g,f,q⟩:=Pj z;subst h g;calc⟨i,j,e.SM,d.SM,f,av.refl H,_,Den.int _,q⟩
def TB.ofI0{g:Int->Int->Int}(h:Wu X f (rI0 λi j=>.int (g i j))):TB X f (fH λi j=>.int (g i j)) :=
 TB.of h λP H x y v u Q e d z=>by let⟨i,j,g,f,q⟩:=rL z;subst g f;calc⟨i,j,e.SM,d.SM,av.refl H,_,Den.int _,q⟩
def TB.ofB0{g:Int->Int->Bool}(h:Wu X f (rI0 λi j=>.bl (g i j))):TB X f (fH λi j=>.bl (g i j)) :=
 TB.of h λP H x y v u Q e d z=>by let⟨i,j,g,f,q⟩:=rL z;subst g f;calc⟨i,j,e.SM,d.SM,av.refl H,_,Den.bl _,q⟩
def OW:TB X (binaryOp .Add) (fH λi j=>.int (i+j)):=TB.ofI0 O2
def aW:TB X (binaryOp .Sub) (fH λi j=>.int (i - j)):=TB.ofI0 O5
def b6:TB X (compareOp .Lt) (fH λi j=>.bl (decide (i<j))):=TB.ofB0 Qp
def Et:TB X (compareOp .LtE) (fH λi j=>.bl (decide (i<=j))):=TB.ofB0 Qo
def jR:TB X (compareOp .Gt) (fH λi j=>.bl (decide (j<i))):=TB.ofB0 Qn
def Es:TB X (compareOp .GtE) (fH λi j=>.bl (decide (j<=i))):=TB.ofB0 Qm
def Bd(n:Nat)(x:Int):Prop:=x.natAbs<2 ^ n
def Bd.mono{n:Nat}(h:Bd m x)(l:m<=n):Bd n x:=Tp h (zC2 29 l)
def Bd.mul(h:Bd m x)(h':Bd n y):Bd (m+n) (x*y):=by unfold Bd at *;rw[zCU,Nat.pow_add];calc Nat.mul_lt_mul'' h h'
def Bd.add(h:Bd m x)(h':Bd m y):Bd (m+1) (x+y):=by
 unfold Bd at *;rw[zCp];have:=Int.natAbs_add_le x y
 lia
def Bd.sub(h:Bd m x)(h':Bd m y):Bd (m+1) (x - y):=by
 unfold Bd at *;rw[zCp];have:=Int.natAbs_sub_le x y
 lia
def Bd.neg(h:Bd m x):Bd m (-x):=by
 unfold Bd at *
 cbv
def Bd.bits(h:Bd n x):Builtin.Int.intBits x<=n:=by
 ext Builtin.Int.intBits;split
 lia
 let d:x.natAbs≠0:=46
 have:=(Nat.log2_lt d).mpr h
 lia
def CM(i j:Int):Prop:=Bd 64 i∨Bd 64 j∨(Bd 100000 i/\Bd 100000 j)
def CM.ok(h:CM i j):IntMulOk i j:=by
 obtain h|h|⟨h,d⟩:=h;calc .of_left h.bits;calc .of_right h.bits;calc .of_bits (Sd h.bits 29) (Sd d.bits 29)
def MA:Wu X (binaryOp .Mult) (rI CM λi j=>.int (i*j)):=opI λ_ _ _ _ _ _ _ d q=>mul_int q d.ok
def aE:TB X (binaryOp .Mult) (rdI CM λi j=>.int (i*j)):=TB.ofI MA
def CD(_:Int)(j:Int):Prop:=j≠0/\Bd 8000 j
def CD.noPy(h:CD i j):Builtin.divisionGoesByPylong i j=false:=by
 calc PyProof.noPylong_of_log2 ?_;let d:j.natAbs≠0:=λe=>h.1 (Int.natAbs_eq_zero.mp e)
 have:=(Nat.log2_lt d).mpr h.2
 lia
def JL:Wu X (binaryOp .FloorDiv) (rI CD λi j=>.int (i.fdiv j)):=opI λ_ _ _ _ _ _ _ d q=>floordiv_int d.1 q (.inl d.noPy)
def dm:TB X (binaryOp .FloorDiv) (rdI CD λi j=>.int (i.fdiv j)):=TB.ofI JL
def bM:TB X (binaryOp .Mod) (rdI (λ_ j=>j≠0) λi j=>.int (i.fmod j)):=TB.ofI Mz
def vh:TB X (binaryOp .Pow) (rdI Ic λi j=>.int (i ^ j.toNat)):=TB.ofI O4
def dB(t:DE):DT:=λd Q=>t d λx=>blQ x Q
def bT{d:CmpOp}{r:RD2}(o:TB X (compareOp d) r)(i:RU X a ta)(e:RU X b tb)(p:behindInMarks d b=false:=by first|calc AM _ 29 29|rfl):RU X (.Compare a [d] [b] pos) (WV r ta tb):=by intro d s g H W t Q I f h;calc wpAny_Compare1 (DW i e I f h λh i j v u x y s r e k l n m q=>?_) p;calc Rw (o d j g s W x y v u h i Q r (f.same e).tracked k l n m q) λ_ _ z=>z.up e
def aD(G:TB X (compareOp op) r)(N:RU X a ta)(M:RU X b tb)(J:behindInMarks op b=false:=by first|calc AM _ 29 29|rfl):Xx X (.Compare a [op] [b] pos) (dB (WV r ta tb)):=by
 intro e s f H W m Q I g h;refine wpAny_isTrue_Compare1 (Rw (N e s f H W m _ I g h) λk p ⟨v,H1,x,Y,q,l,E,B⟩=>Rw (M e p f H1 W m _ Y (g.same l) B) λn o ⟨u,H2,y,U,t,j,C,A⟩=>
  Rw (G e o f H2 W x y v u k n _ U ((g.same l).same j).tracked q t (E.same j) C A) λc s3 ⟨z,H3,d,T,w,O,L,i⟩=>?_) J
 let⟨k,n,i⟩:=pR i;subst n;let d:=L.Zw;subst d;cases w;calc zC0 ⟨H3,T,l.trans (j.trans O),i⟩
def bH(h:RU X e t)(j:∀d,isTrue e X.env d=(do let v←d;standAt e.pos;holding [v] (truthy v)):=by intro _;rfl):Xx X e (dB t):=by intro d s e H W f Q I g i;calc isTrue_plain (Rw (h d s e H W f _ I g i) λl m e=>?_) (j _);let⟨v,i,x,h,d,g,f,q⟩:=e;let⟨k,e,q⟩:=pR q;subst e;let e:=f.Zw;subst e;cases d;calc zC0 ⟨i,h,g,q⟩
variable{tA tB':DT}{rest:yai}
def NM(t u:DT):DT:=λd Q=>t d λc=>if c=true then u d Q else Q false
def dOr(t u:DT):DT:=λd Q=>t d λc=>if c=true then Q true else u d Q
def NR(t:DT):DT:=λd Q=>t d λc=>Q (!c)
def mG(i:Xx X a tA):Vn X (.BoolOp .And [a] pos) tA:=by
 intro j d s e H W f Q I g h;calc isTrue_and (Rw (i d s e H W f Q I g h) λc k e=>?_);cases c with
 |true=>calc isTrue_and_nil e
 |false=>calc e
def cO(i:Xx X a tA):Vn X (.BoolOp .Or [a] pos) tA:=by
 intro j d s e H W f Q I g h;calc isTrue_or (Rw (i d s e H W f Q I g h) λc k e=>?_);cases c with
 |false=>calc isTrue_or_nil e
 |true=>calc e
def p5(e:Xx X a tA)(n:Vn X (.BoolOp .And (b::rest) pos) tB'):Vn X (.BoolOp .And (a::b::rest) pos) (NM tA tB'):=by
 intro l d s f H W g Q I i h;calc isTrue_and (Rw (e d s f H W g _ I i h) λc m o=>?_);let⟨k,j,e,h⟩:=o;cases c with
 |true=>calc Rw (n l d m f k W g Q j (i.same e) h) λ_ _ g=>(by let⟨l,i,f,d⟩:=g;calc⟨l,i,e.trans f,d⟩)
 |false=>calc⟨k,j,e,h⟩
def bR(e:Xx X a tA)(n:Vn X (.BoolOp .Or (b::rest) pos) tB'):Vn X (.BoolOp .Or (a::b::rest) pos) (dOr tA tB'):=by
 intro l d s f H W g Q I i h;calc isTrue_or (Rw (e d s f H W g _ I i h) λc m o=>?_);let⟨k,j,e,h⟩:=o;cases c with
 |true=>calc⟨k,j,e,h⟩
 |false=>calc Rw (n l d m f k W g Q j (i.same e) h) λ_ _ g=>(by let⟨i,h,f,d⟩:=g;calc⟨i,h,e.trans f,d⟩)
def bP(i:Xx X a tA):Xx X (.UnaryOp .Not a pos) (NR tA):=by intro d s e H W f Q I g h;calc isTrue_not (Rw (i d s e H W f (λc=>Q (!c)) I g h) λ_ _ e=>(by let⟨a,b,c,d⟩:=e;calc⟨a,b,c,d⟩))
def Kp(ta tb:DE):DE:=λd Q=>ta d λx=>blQ x λc=>if c=true then tb d Q else Q (.bl false)
def Kr(ta:DE):DE:=λd Q=>ta d λx=>blQ x λc=>Q (.bl (!c))
def mE{op}(h:RU X a t):RU X (.BoolOp op [a] pos) t:=λd s e H W f Q I g i=>BoolOp_one (h d s e H W f Q I g i)
def kC(e:RU X a ta)(p:RU X (.BoolOp .And (b::rest) pos) tb):RU X (.BoolOp .And (a::b::rest) pos) (Kp ta tb):=by
 intro d s g H W i Q I j h;calc BoolOp_and (Rw (e d s g H W i _ I j h) λq l n=>?_);let⟨v,k,x,h,m,f,o,e⟩:=n;let⟨c,n,e⟩:=pR e;subst n;let n:=o.Zw;subst n;cases m;calc zC0 ?_;cases c with
 |true=>calc Rw (p d l g k W i Q h (j.same f) e) λ_ _ z=>z.up f
 |false=>calc⟨.bl false,k,_,h,rfl,f,Den.bl _,e⟩
def N5(i:RU X a ta):RU X (.UnaryOp .Not a pos) (Kr ta):=by intro d s e H W f Q I g h;calc UnaryOp_ (Rw (i d s e H W f _ I g h) λk l f=>?_);let⟨v,j,x,i,e,h,g,d⟩:=f;let⟨c,f,d⟩:=pR d;subst f;let f:=g.Zw;subst f;cases e;calc not_of (zC0 ⟨.bl (!c),j,_,i,rfl,h,Den.bl _,d⟩)
def dIf(t:DT)(ta tb:DE):DE:=λd Q=>t d λc=>if c=true then ta d Q else tb d Q
def nG(d:Xx X c tA)(o:RU X a ta)(n:RU X b tb):RU X (.IfExp c a b pos) (dIf tA ta tb):=by
 intro e s g H W i Q I j h;calc wpAny_IfExp (Rw (d e s g H W i _ I j h) λd h p=>?_);let⟨m,l,f,k⟩:=p;cases d with
 |true=>calc Rw (o e h g m W i Q l (j.same f) k) λ_ _ z=>z.up f
 |false=>calc Rw (n e h g m W i Q l (j.same f) k) λ_ _ z=>z.up f
def ixQ(e:yas):Int->(D->Prop)->Prop
 |.ofNat n,Q=>match e[n]? with
  |some d=>Q d
  |none=>False
 |i,Q=>∃d,T7 e i=some d/\Q d
def uX(f:yas)(i:Int)(Q:D->Prop):ixQ f i Q=∃d,T7 f i=some d/\Q d:=by
 cases i with
 |ofNat n =>
  show(match f[n]? with
   |some d=>Q d
   |none=>False)=_
  by_cases h:n<#[f];let e:T7 f (Int.ofNat n)=some f[n]:=bU (by simp[h])
  cbv
  rw[zCB 46];calc propext ⟨False.elim,λ⟨d,q,z⟩=>?_⟩;unfold T7 ixN at q
  simp_all [Rr,Int.natCast_nonneg,if_neg]
 |negSucc n=>rfl
def dA:RD2:=λx y Q=>match x,y with
 |.tup d,.int i=>ixQ d i Q
 |.lst _ d,.int i=>ixQ d i Q
 |_,_=>False
def MM(h:dA x y Q):∃e i d,(x=.tup e∨∃ t,x=.lst t e)/\y=.int i/\T7 e i=some d/\Q d:=by unfold dA at h;split at h;rw[uX]at h;let⟨d,h⟩:=h;calc⟨_,_,d,.inl rfl,rfl,h⟩;rw[uX]at h;let⟨d,h⟩:=h;calc⟨_,_,d,.inr ⟨_,rfl⟩,rfl,h⟩;calc h.elim
def zH{K:yac}{P:yak}{H:Hp}{f:yas}{g:yar}{i:Int}{d:D}(h:ah K P H f g)(e:T7 f i=some d):∃v,T7 g i=some v/\Den K P H d v:=by
 unfold T7 at e ⊢;rw[h.len];cases q:ixN #[f] i with
 |none=>cbv
 |some j =>
  rw[q]at e;calc h.get e
def ai(f:RU X a ta)(e:RU X b tb)(hs:Co b:=by intro _ _;rfl):RU X (.Subscript a b pos) (WV dA ta tb):=by
 intro g s C H W T Q I d h;refine Subscript_ (DW f e I d h λE G H v u x y h N e I J L f q=>?_)
 replace q:=MM q
 let⟨Y,i,d,k,j,M,q⟩:=q;subst j;let j:=f.SM;subst j;let j:∀(f:V),Den X.K W.bad h d f->av h h/\∃d,Den X.K W.bad h d f/\Q d:=by grind [av.refl]
 obtain k|⟨U,k⟩:=k;subst k;let⟨p,n,t,r,s⟩:=L.UY;subst t;let⟨f,x,w⟩:=zH s M;exact Rw (Az a b g H C h _ _ E G (λf l=>av h l/\∃d,Den X.K W.bad l d f/\Q d) N I J ⟨p,n,i,f,rfl,rfl,r.w,x,j f w⟩ (hs _ _))
  λ_ O z=>(by let⟨m,B,A,o,u,d,y,q⟩:=z;calc⟨m,B,d,A,o,e.trans u,y,q⟩)
 subst k;let⟨p,n,t,_,r,s⟩:=L.UI;subst t;let⟨f,x,w⟩:=zH s M;exact Rw (L6 a b g H C h _ _ E G (λf l=>av h l/\∃d,Den X.K W.bad l d f/\Q d) N I J ⟨p,n,i,f,rfl,rfl,r,x,j f w⟩ (hs _ _))
  λ_ O z=>(by let⟨m,B,A,o,u,d,y,q⟩:=z;calc⟨m,B,d,A,o,e.trans u,y,q⟩)
end
section
variable{X:Cx}{e:Expr}{es:yai}{te:DE}{t:DA}{pos:Pos}
def D4:DA:=λ_ Q=>Q []
def uJ(c:DE)(b:DA):DA:=λa Q=>c a λx=>b a λa=>Q (x::a)
def af:Wz X [] D4:=λ_ _ _ _ H W a Q I _ h=>Calls.spliced_nil ⟨[],H,[],I,.nil,av.refl H,ah.nil,h⟩
def aa(f:RU X e te)(k:Wz X es t)(hs:starEach (e::es) X.env=(false,eval e X.env)::starEach es X.env:=by rfl):Wz X (e::es) (uJ te t):=by intro pos a s b H W c Q I d h;rw[hs];show wpAny _ _ (spliced ((false,eval e X.env)::backTo pos (starEach es X.env))) _ _ s;calc Calls.spliced_cons (Rw (f a s b H W c _ I d h) λu g l=>?_);let⟨v,n,x,m,h,f,j,i⟩:=l;calc Rw (k pos a g b n W c _ m (d.same f) i) λo p k=>(by let⟨d,m,c,l,g,b,a,i⟩:=k;calc⟨v::d,m,x::c,l,.cons h g,f.trans b,ah.cons (j.same b) a,i⟩)
theorem av.upd{H:Hp}(h:H p=none)(n:NT o:=by calc True.intro):av H (upd H p o):=⟨λb u e _=>by rw[aC 35];lia,λb a e=>⟨#[],by rw[aC 35,e];simp⟩,fX.upd n (.inl h)⟩
def NY(t:DA):DE:=λa Q=>t a λa=>#[a]<=sizeLine/\Q (.tup a)
def IG(t:DA):DE:=λa Q=>t a λa=>#[a]<=sizeLine/\Q (.lst true a)
def bA{x1}(h:Wz X es t):RU X (.Tuple es x1 pos) (NY t):=by intro a s b H W c Q I d f;calc wpAny_Tuple_spliced (Rw (h pos a s b H W c _ I d f) λh a c=>?_);let⟨g,f,j,b,r,i,d,z,q⟩:=c;rw[<- d.len]at z;calc⟨by rw[<- #[r]];calc z,?_⟩;let c:f a.heap.objs.size=none:=b.R5.fresh 35;calc⟨.ref a.heap.objs.size,L2.upd f a.heap.objs.size (.tup g),_,b.laid (t':=a.toks) (λb u e=>T6 _ e) 35 ⟨z,h,r,⟨_,Vj _ rfl,rfl,_,rfl⟩⟩,rfl,i.trans (av.upd c),Den.tup (SK.of aQ) (d.same (av.upd c)),q⟩
theorem Inv.Um(I:Inv X pins σ H s):X.K.lookup s.heap.objs.size=none:=by
 cases e:X.K.lookup s.heap.objs.size with
 |none=>rfl
 |some o=>calc absurd (SJ (I.WK _ _ e)) (Zm _)
def cL(h:Wz X es t):RU X (.List es pos) (IG t):=by
 intro a s b H W c Q I f d;calc wpAny_List_spliced (Rw (h pos a s b H W c _ I f d) λj a c=>?_);let⟨i,b,k,d,r,h,g,z,q⟩:=c;rw[<- g.len]at z;calc⟨by rw[<- #[r]];calc z,?_⟩;let c:b a.heap.objs.size=none:=d.R5.fresh 35;exact⟨.ref a.heap.objs.size,L2.upd b a.heap.objs.size (.lst i),_,d.laid (t':=a.toks) (λb u e=>T6 _ e) 35 ⟨z,j,0,r,Vj _ rfl⟩,rfl,h.trans (av.upd c),
  Den.lst ((f.same h).fresh c) (.new aQ (Inv.Um d)) (g.same (av.upd c)),q⟩
end
abbrev DSp:=yas->(D->Prop)->(Value->Prop)->Prop
def aH(K:yac)(sp:DSp):Sp:=λd H Q E=>∃(P:Addr->Prop) (b:yas) (c:D->Prop) (e:Value->Prop),ig K H/\(∀a,P a->∃o,H a=some o)/\ah K (λt a=>t=true∨P a) H b d/\sp b c e ∧
 (∀d v b,av H b->Den K (λt a=>P a∨(t=true/\∃o,H a=some o)) b d v->c d->Q v b)/\∀c a b,av H b->e c->E c a b
mutual
def aU:D->D
 |.tup a=>.tup (bf a)
 |.lst _ a=>.lst false (bf a)
 |.obj C b a=>.obj C b (bf a)
 |.Wx=>.Wx
 |.V2 b a=>.V2 b (bf a)
 |.RZ=>.RZ|.bl b=>.bl b|.int i=>.int i|.str x=>.str x|.exc c=>.exc c
def bf:yas->yas
 |[]=>[]
 |d::a=>aU d::bf a
end
section
variable{K:yac}{P:yak}{P':Addr->Prop}{H:Hp}
mutual
theorem Den.aU(h:∀t a,P' a->P t a):∀(d:D) (v:V),Den K P H d v->Den K (λt a=>t=true∨P' a) H (PD.aU d) v
 |.RZ,_,q=>by simpa only[Den,PD.aU]using q
 |.bl _,_,q=>by simpa only[Den,PD.aU]using q
 |.int _,_,q=>by simpa only[Den,PD.aU]using q
 |.str _,_,q=>by simpa only[Den,PD.aU]using q
 |.exc _,_,q=>by simpa only[Den,PD.aU]using q
 |.tup f,_,q=>by simp only[Den,PD.aU]at q ⊢;let⟨a,b,e,d,c⟩:=q;calc⟨a,b,e,d,ah.aU h f b c⟩
 |.obj C i f,_,q=>by simp only[Den,PD.aU]at q ⊢;let⟨a,g,b,e,d,l,k,c⟩:=q;calc⟨a,g,b,e,d,l,k,ah.aU h f b c⟩
 |.Wx,_,q=>by simpa only[Den,PD.aU]using q
 |.V2 j f,_,q=>by simp only[Den,PD.aU]at q ⊢;let⟨a,o,g,b,e,d,l,k,c⟩:=q;calc⟨a,o,g,b,e,d,l,k,ah.aU h f b c⟩
 |.lst t f,_,q=>by simp only[Den,PD.aU]at q ⊢;let⟨a,b,e,p,d,c⟩:=q;calc⟨a,b,e,λz=>z.elim (λz=>by cases z) λz=>p (h t a z),.any d.1,ah.aU h f b c⟩
theorem ah.aU(h:∀t a,P' a->P t a):∀(b:yas) (c:yar),ah K P H b c->ah K (λt a=>t=true∨P' a) H (PD.bf b) c
 |[],_,q=>by simpa only[ah,PD.bf]using q
 |d::b,_,q=>by simp only[ah,PD.bf]at q ⊢;let⟨v,r,e,c,a⟩:=q;calc⟨v,r,e,Den.aU h d v c,ah.aU h b r a⟩
end
end
def Den.back{K:yac}{W:Own}{H H':Hp}{d:D}{v:V}(b:∀t a,W.bad t a->∃o,H a=some o)(h:Den K (λt a=>W.bad false a∨(t=true/\∃o,H a=some o)) H' d v):Den K W.bad H' d v :=
 h.R9 λt a z=>by
  cases t with
  |false=>calc .inl z
  |true=>calc .inr ⟨rfl,b true a z⟩
section
variable{X:Cx}{CX:CXT}{k:Nat}{f:Addr}{fd:FuncData}{ps:yah}{sp:DSp}{x:Str}{p pos:Pos}{e:Expr}{es:yai}{t:DA}
def uH(sp:DSp)(dds:yas)(t:DA):DE:=λa Q=>t a λa=>sp (bf a++dds) Q λ_=>False
def tF:D->V
 |.RZ=>.RZ|.bl b=>.bl b|.int i=>.int i|.str x=>.str x|_=>.RZ
def zd:D->Prop
 |.tup _=>False|.lst _ _=>False|.exc _=>False|.obj _ _ _=>False|.Wx=>False|.V2 _ _=>False|_=>True
theorem ah.xr{K:yac}{P:yak}{H:Hp}:∀{dds:yas},(∀d∈dds,zd d)->ah K P H dds (dds.map tF)
 |[],_=>ah.nil
 |d::r,h=>by
  calc ah.cons ?_ (ah.xr λx a=>h x (U1 _ a));have:=h d XU;cases d with
  |RZ=>calc Den.RZ
  |bl b=>calc Den.bl b
  |int i=>calc Den.int i
  |str x=>calc Den.str x
  |tup _=>calc this.elim
  |lst _ _=>calc this.elim
  |exc _=>calc this.elim
  |obj _ _ _=>calc this.elim
  |Wx=>calc this.elim
  |V2 _ _=>calc this.elim
def Qz{dds:yas}(F:aG X.prog X.w X.K X.mg X.base CX k f fd ps (aH X.K sp))(g:bS k X.A)(i:Binds X.K fd ps dsv)(h:Vals (dds.map tF) dsv)(hs:∀d∈dds,zd d)(c:Passes CX X E0)
 (I:Inv X pins σ H s) (a:Rel X W H σ ρ) (r:Vals vs us) (j:ah X.K W.bad H ds vs)
  (q:sp (bf ds++dds) Q λ_=>False):wpAny (model X.prog X.w) X.A (call (.ref f) us) (DP X pins σ W H Q) X.xe s:=by
 refine Rw (Po (Q:=λv b=>av H b/\∃d,Den X.K W.bad b d v/\Q d) F g i h c I r ⟨W.bad false,bf ds++dds,Q,λ_=>False,a.tab,a.tracked false,(ah.aU (λ_ _=>Own.X0) ds vs j).append (ah.xr hs),q,λd v b e c b=>⟨e,d,Den.back a.tracked c,b⟩,λ_ _ _ _ z=>z.elim⟩)
  λu l h=>(by let⟨v,j,i,a,g,d,c,b⟩:=h;calc⟨v,j,d,i,a,g,c,b⟩)
def Ab{dds:yas}(F:aG X.prog X.w X.K X.mg X.base CX k f fd ps (aH X.K sp))(i:bS k X.A)(m:Gl X x)(j:X.mg x=some (.ref f))(l:PySem.W.keepIn X.K (.ref f)=true)(u:Binds X.K fd ps dsv)(o:Vals (dds.map tF) dsv)(hs:∀d∈dds,zd d)(g:Passes CX X E0)
  (q:Wz X (e::es) t) (r:(x==("__debug__" : Str))=false:=by decide) (n:starEach (e::es) X.env=(false,eval e X.env)::starEach es X.env:=by rfl) (w:(backTo pos (starEach es X.env)).any (·.1)=false:=by rfl) :
  RU X (.Call (.Name x p) (e::es) [] pos) (uH sp dds t):=by
 intro a s c H W d Q I b h;calc Z8 (mM I m j ?_ r);calc PySem.W.callWith_K (h₀:=X.base) I.ok.mod.VH l (Rw (q pos a s c H W d _ I b h) λA B ⟨y,H1,C,c,r,a,d,q⟩=>⟨c.WK,?_⟩) n w;calc Rw (Qz F i u o hs g c (b.same a) r d q) λ_ _ z=>z.up a
def dCB(r:yas->(D->Prop)->Prop)(t:DA):DE:=λa Q=>t a λa=>r a Q
def cN(X:Cx)(f:Value)(r:yas->(D->Prop)->Prop):Prop :=
 ∀ (b:yab) (s:Shared) (c:St) (H:Hp) (W:Own) (h:yas) (d:yar) (g:yad) (Q:D->Prop),Inv X b c H s->(∀t a,W.bad t a->∃o,H a=some o)->Vals d g->ah X.K W.bad H h d->r h Q →
  wpAny (model X.prog X.w) X.A (call f g) (DP X b c W H Q) X.xe s
def cN.of{f:Value}{rd:yas->(D->Prop)->Prop}(h:kZ X f r)(k:∀P H c b Q,(∀t a,P t a->∃o,H a=some o)->ah X.K P H c b->rd c Q->r b H λd H'=>av H H'/\∃d',Den X.K P H' d' d/\Q d'):cN X f rd:=by intro a s d H W c b i Q I j r g q;calc Rw (h a s d H b i _ I r (k _ H c b Q j g q)) λ_ m i=>(by let⟨a,l,j,b,h,d,g,c⟩:=i;calc⟨a,l,d,j,b,h,g,c⟩)
variable{id T:String}{r:yas->(D->Prop)->Prop}
def aM (m:cN X (.builtin id) r) (j:Gl X x) (i:X.mg x=none) (hv:bootBuiltins x=some (.builtin id)) (l:Wz X (e::es) t) (g:x ≠ "__name__" := by decide) (n:(x==("__debug__" : Str))=false:=by decide)
  (o:starEach (e::es) X.env=(false,eval e X.env)::starEach es X.env:=by rfl) (u:(backTo pos (starEach es X.env)).any (·.1)=false:=by rfl) :
  RU X (.Call (.Name x p) (e::es) [] pos) (dCB r t):=by
 intro a s b H W d Q I c h;calc Z8 (di I j i hv ?_ g n);calc PyProof.Rows.callWith_builtin1 (Rw (l pos a s b H W d _ I c h) λh i s=>(by let⟨g,y,n,w,j,d,l,q⟩:=s;calc Rw (m a i b y W n g h Q w (c.same d).tracked j l q) λ_ _ z=>z.up d)) o u
def i8 (m:cN X (.type T) r) (j:Gl X x) (i:X.mg x=none) (hv:bootBuiltins x=some (.type T)) (l:Wz X (e::es) t) (g:x ≠ "__name__" := by decide) (n:(x==("__debug__" : Str))=false:=by decide)
  (o:starEach (e::es) X.env=(false,eval e X.env)::starEach es X.env:=by rfl) (u:(backTo pos (starEach es X.env)).any (·.1)=false:=by rfl) :
  RU X (.Call (.Name x p) (e::es) [] pos) (dCB r t):=by
 intro a s b H W d Q I c h;calc Z8 (di I j i hv ?_ g n);calc PyProof.Rows.callWith_type1 (Rw (l pos a s b H W d _ I c h) λh i s=>(by let⟨g,y,n,w,j,d,l,q⟩:=s;calc Rw (m a i b y W n g h Q w (c.same d).tracked j l q) λ_ _ z=>z.up d)) o u
end
mutual
noncomputable def UK:D->PyData
 |.RZ=>.none
 |.bl b=>.bool b
 |.int i=>.int i
 |.str x=>.str x
 |.tup a=>.tuple (dq a)
 |.lst _ a=>.list (dq a)
 |.exc _=>.none
 |.obj _ _ _=>.none
 |.V2 _ _=>.none
 |.Wx=>.none
noncomputable def dq:yas->List PyData
 |[]=>[]
 |d::a=>UK d::dq a
end
mutual
def X1:D->Bool
 |.tup a=>ql a
 |.lst _ a=>ql a
 |.exc _=>false
 |.obj _ _ _=>false
 |.V2 _ _=>false
 |.Wx=>false
 |_=>true
def ql:yas->Bool
 |[]=>true
 |d::a=>X1 d && ql a
end
def eqD(x y:D):Bool:=PyData.eqv (UK x) (UK y)
def okD(x:D):Prop:=X1 x=true/\SeqAt.shaped (UK x)=true
section
variable{X:Cx}{pins:yab}{σ:St}{H:Hp}{s:Shared}{P:yak}
mutual
theorem eJ(I:Inv X pins σ H s):∀(d:D) (v:V) (u:Value),Den X.K P H d v->RelV v u->X1 d=true->∃c,Reads s.heap u (UK d) c
 |.RZ,_,_,h,r,_=>by let e:=h.Zx;subst e;cases r;rw[UK];calc⟨_,.none⟩
 |.bl b,_,_,h,r,_=>by let e:=h.Zw;subst e;cases r;rw[UK];calc⟨_,.bool b⟩
 |.int i,_,_,h,r,_=>by let e:=h.SM;subst e;let⟨t,rfl⟩:=r;rw[UK];calc⟨_,.int i t⟩
 |.str x,_,_,h,r,_=>by let e:=h.str_;subst e;let⟨t,rfl⟩:=r;rw[UK];calc⟨_,.str x t⟩
 |.tup m,_,_,h,r,b=>by rw[X1]at b;let⟨a,d,e,g,i⟩:=h.UY;subst e;cases r;let⟨p,f,⟨o,l,k,n,j⟩,_⟩:=I.tuple g.w;let⟨c,q⟩:=nJ I m d p i f b;rw[UK];calc⟨c,reads_tuple_at l k j (by simpa using q)⟩
 |.lst _ m,_,_,h,r,b=>by rw[X1]at b;let⟨a,d,e,_,g,i⟩:=h.UI;subst e;cases r;let⟨p,f,⟨o,n,l,k,_,j⟩,_⟩:=I.list g;let⟨c,q⟩:=nJ I m d p i f b;rw[UK];calc⟨_,reads_list_at l k j (by simpa using q)⟩
 |.exc _,_,_,_,_,b=>by rw[X1]at b;cases b
 |.obj _ _ _,_,_,_,_,b=>by rw[X1]at b;cases b
 |.V2 _ _,_,_,_,_,b=>by rw[X1]at b;cases b
 |.Wx,_,_,_,_,b=>by rw[X1]at b;cases b
theorem nJ(I:Inv X pins σ H s):∀(a:yas) (b:yar) (c:yad),ah X.K P H a b->Vals b c->ql a=true->∃e,ReadsAll s.heap c (dq a) e
 |[],_,_,h,r,_=>by simp only[ah]at h;subst h;cases r;rw[dq];calc⟨_,.nil⟩
 |d::a,_,_,h,r,b=>by
  rw[ql,zCD]at b;simp only[ah]at h;let⟨v,j,rfl,i,g⟩:=h;cases r with
  |cons f c =>
   let⟨e,q⟩:=eJ I d v _ i f b.1;let⟨k,d⟩:=nJ I a _ _ g c b.2;rw[dq];calc⟨_,.cons q d⟩
end
def Ph:RD2:=λx y Q=>okD x/\okD y/\Q (.bl (eqD x y))
def Pk:RD2:=λx y Q=>okD x/\okD y/\Q (.bl (!eqD x y))
def zc(j:X.A.units+64<cLine):TB X (compareOp .Eq) Ph:=by intro pins s σ H W x y v u c d Q I _ e f i h q;let⟨b,a,q⟩:=q;let⟨l,g⟩:=eJ I x v c i e b.1;let⟨k,c⟩:=eJ I y u d h f a.1;calc eq_dataH g c b.2 a.2 j ⟨.bl _,H,_,I,rfl,av.refl H,Den.bl _,q⟩
def nW(j:X.A.units+64<cLine):TB X (compareOp .NotEq) Pk:=by intro pins s σ H W x y v u c d Q I _ e f i h q;let⟨b,a,q⟩:=q;let⟨l,g⟩:=eJ I x v c i e b.1;let⟨k,c⟩:=eJ I y u d h f a.1;calc ne_dataH g c b.2 a.2 j ⟨.bl _,H,_,I,rfl,av.refl H,Den.bl _,q⟩
def bF:TB X (compareOp .Eq) (fH λi j=>.bl (decide (i=j))):=TB.of Ql λP H x y v u Q d c z=>by
 let⟨i,j,f,e,q⟩:=rL z;subst f e;let a:=d.SM;let b:=c.SM;subst a b;refine⟨rfl,av.refl H,_,Den.bl _,?_⟩
 cbv
def jc:TB X (compareOp .NotEq) (fH λi j=>.bl (!decide (i=j))):=TB.of Qq λP H x y v u Q d c z=>by
 let⟨i,j,f,e,q⟩:=rL z;subst f e;let a:=d.SM;let b:=c.SM;subst a b;refine⟨rfl,av.refl H,_,Den.bl _,?_⟩
 cbv
def iX:D->Bool
 |.RZ=>true
 |_=>false
def xX{K:yac}{d:D}{v:V}(h:Den K P H d v):decide (v=.RZ)=iX d:=by
 cases d with
 |RZ=>have:=h.Zx;subst this;rfl
 |bl b=>have:=h.Zw;subst this;rfl
 |int b=>have:=h.SM;subst this;rfl
 |str b=>have:=h.str_;subst this;rfl
 |tup d=>let⟨a,b,e,_⟩:=h.UY;subst e;rfl
 |lst _ d=>let⟨a,b,e,_⟩:=h.UI;subst e;rfl
 |exc c=>let⟨a,e,_⟩:=h.exc_;subst e;rfl
 |obj C f d=>let⟨a,i,b,e,_⟩:=h.obj_;subst e;rfl
 |Wx=>let⟨a,e,_⟩:=h.dic_;subst e;rfl
 |V2 g d=>let⟨a,_,_,b,e,_⟩:=h.dik_;subst e;rfl
def vg:TB X (compareOp .Is) (λx y Q=>y=.RZ/\Q (.bl (iX x))):=TB.of O3 λP H x y v u Q b a ⟨e,q⟩=>by
 subst e;calc⟨a.Zx,av.refl H,_,Den.bl _,?_⟩;rw[xX b]
 lia
def Mi:TB X (compareOp .IsNot) (λx y Q=>y=.RZ/\Q (.bl (!iX x))):=TB.of MB λP H x y v u Q b a ⟨e,q⟩=>by
 subst e;calc⟨a.Zx,av.refl H,_,Den.bl _,?_⟩;rw[xX b]
 lia
end
section
variable{X:Cx}
def pT:cN X (.builtin "abs") (λa Q=>∃i:Int,a=[.int i]/\Q (.int (i.natAbs:Int))):=cN.of IB λP H a a Q _ b ⟨i,e,q⟩=>by
 subst e;obtain⟨v,r,rfl,d,c⟩:∃v r,a=v::r/\Den X.K P H (.int i) v/\ah X.K P H [] r:=by simpa only[ah]using b
 let b:=d.SM;let a:r=[]:=by simpa only[ah]using c
 subst b a;refine⟨i,rfl,av.refl H,_,Den.int _,?_⟩
 lia
def rg{K:yac}{P:yak}{H:Hp}{x y:D}{a:yar}(h:ah K P H [x,y] a):∃v u,a=[v,u]/\Den K P H x v/\Den K P H y u:=by simp only[ah]at h;let⟨v,r,e,c,u,f,d,b,a⟩:=h;subst d a e;calc⟨v,u,rfl,c,b⟩
def k7{K:yac}{P:yak}{H:Hp}{x:D}{a:yar}(h:ah K P H [x] a):∃v,a=[v]/\Den K P H x v:=by simp only[ah]at h;let⟨v,r,e,a,b⟩:=h;subst b e;calc⟨v,rfl,a⟩
def FJ (c:X.calm=true):cN X (.builtin "min") (λa Q=>∃i j:Int,a=[.int i,.int j]/\Q (.int (min i j))):=cN.of (FH c) λP H a k Q _ b ⟨i,j,e,q⟩=>by
 subst e;let⟨v,u,rfl,f,d⟩:=rg b;let h:=f.SM;let g:=d.SM;subst h g;refine⟨i,j,rfl,av.refl H,_,Den.int _,?_⟩
 lia
def NB (c:X.calm=true):cN X (.builtin "max") (λa Q=>∃i j:Int,a=[.int i,.int j]/\Q (.int (max i j))):=cN.of (FG c) λP H a k Q _ b ⟨i,j,e,q⟩=>by
 subst e;let⟨v,u,rfl,f,d⟩:=rg b;let h:=f.SM;let g:=d.SM;subst h g;calc⟨i,j,rfl,av.refl H,_,Den.int _,?_⟩;have:(if j > i then j else i)=max i j:=by split<;>lia
 rw[this];calc q
def AH(a:yas)(Q:D->Prop):Prop:=match a with
 |[.lst _ a]=>Q (.int (#[a]:Int))
 |[.tup a]=>Q (.int (#[a]:Int))
 |_=>False
theorem OO(t:Bool)(xs:yas)(Q:D->Prop):AH [.lst t xs] Q=Q (.int (#[xs]:Int)):=rfl
theorem OP(xs:yas)(Q:D->Prop):AH [.tup xs] Q=Q (.int (#[xs]:Int)):=rfl
def Ma(h:AH ds Q):∃xs,((∃t,ds=[.lst t xs])∨ds=[.tup xs])/\Q (.int (#[xs]:Int)):=by unfold AH at h;split at h;calc⟨_,.inl ⟨_,rfl⟩,h⟩;calc⟨_,.inr rfl,h⟩;calc h.elim
def bL:cN X (.builtin "len") AH:=cN.of zI λP H l j Q _ g h=>by
 let⟨i,e,q⟩:=Ma h;rcases e with⟨k,e⟩| e;subst e;let⟨v,rfl,f⟩:=k7 g;let⟨a,b,e,_,d,c⟩:=f.UI;subst e;calc⟨a,b,rfl,.inl d,av.refl H,_,Den.int _,?_⟩;rw[c.len];calc q;subst e;let⟨v,rfl,f⟩:=k7 g;let⟨a,b,e,d,c⟩:=f.UY;subst e;calc⟨a,b,rfl,.inr d.w,av.refl H,_,Den.int _,?_⟩;rw[c.len];calc q
def pU:cN X (.type "int") (λa Q=>(∃i:Int,a=[.int i]/\Q (.int i))∨∃ k:Bool,a=[.bl k]/\Q (.int (if k then 1 else 0))):=cN.of FF λP H a d Q _ c h=>by
 rcases h with⟨i,e,q⟩| ⟨k,e,q⟩;subst e;let⟨v,rfl,a⟩:=k7 c;let b:=a.SM;subst b;calc .inl ⟨i,rfl,av.refl H,_,Den.int _,q⟩;subst e;let⟨v,rfl,a⟩:=k7 c;let b:=a.Zw;subst b;calc .inr ⟨k,rfl,av.refl H,_,Den.int _,q⟩
noncomputable def YF:D->String
 |.RZ => "NoneType" | .bl _ => "bool" | .int _ => "int" | .str _ => "str" | .tup _ => "tuple" | .lst _ _ => "list" | .exc _ => "object" | .obj _ _ _ => "object" | .Wx => "dict" | .V2 _ _ => "dict"
def tyV:D->Value
 |.exc c=>.ref c
 |.obj C _ _=>.ref C
 |d=>.type (YF d)
variable{e:Expr}{te:DE}{p p' pos:Pos}{T:String}{x:Str}
def LV(x:bG P w H h a (.ins C dx fs)):∃b,PySem.W.InstAt h a (PySem.W.instObj C dx) C (some b):=by let⟨d,z,c,a,f,n,r,q⟩:=x;let⟨b,g,_⟩:=Ik.look ⟨a,n,c⟩;grind
def Ay{Q:yaa}{b:Bool}(I:Inv X pins σ H s)(h:Den X.K P H d v)(r:RelV v u)
  (e:PySem.W.kitOne X.K (tyV d) c=some b) (q:∀a,Q (.bool b) {s with toks:=a}):wpAny (model X.prog X.w) A (call (.builtin "isinstance") [u,c]) Q E s:=by
 cases d with
 |RZ=>let z:=h.Zx;subst z;cases r;calc PySem.W.kia_one PySem.W.kitx_none I.WK True.intro e 35 q
 |bl y=>let z:=h.Zw;subst z;cases r;calc PySem.W.kia_one PySem.W.kitx_bool I.WK True.intro e 35 q
 |int i=>let z:=h.SM;subst z;let⟨t,rfl⟩:=r;calc PySem.W.kia_one PySem.W.kitx_int I.WK True.intro e 35 q
 |str y=>let z:=h.str_;subst z;let⟨t,rfl⟩:=r;calc PySem.W.kia_one PySem.W.kitx_str I.WK True.intro e 35 q
 |tup g =>
  let⟨a,c,z,b,_⟩:=h.UY;subst z;cases r;let⟨k,i,⟨o,f,d,n,j⟩,_⟩:=I.tuple b.w;calc PySem.W.kia_one PySem.W.kitx_tuple I.WK ⟨o,f,d⟩ e 35 q
 |lst _ g =>
  let⟨a,c,z,_,b,_⟩:=h.UI;subst z;cases r;let⟨k,i,⟨o,n,f,d,_,j⟩,_⟩:=I.list b;calc PySem.W.kia_one PySem.W.kitx_list I.WK ⟨o,f,d⟩ e 35 q
 |exc G =>
  let⟨a,z,b,k⟩:=h.exc_;subst z;cases r;calc PySem.W.kia_one (Jk k) I.WK (I.R5 a _ b).1 e 35 q
 |obj C m g =>
  let⟨a,B,c,z,b,_,k,_⟩:=h.obj_;subst z;cases r;let⟨l,d⟩:=LV (I.R5 a _ b);calc PySem.W.kia_one (PySem.W.kitx_own k.pg k.hd k.at_ k.get k.takes k.obj) I.WK d e 35 q
 |Wx =>
  let⟨a,z,b⟩:=h.dic_;subst z;cases r;calc PySem.W.kia_one PySem.W.kitx_dict I.WK (I.R5 a _ b).1 e 35 q
 |V2 w g =>
  let⟨a,o,SF,c,z,b,_⟩:=h.dik_;subst z;cases r;let⟨_,_,_,_,_,c,_,_,f,d,_⟩:=I.R5 a _ b;calc PySem.W.kia_one PySem.W.kitx_dict I.WK ⟨c,f,d.1⟩ e 35 q
def BM(K:yac)(S T:String):PySem.W.kitOne K (.type S) (.type T)=if S=T then some true else if PySem.W.kitMeta T=true then(fastBuiltinMro S).map (·.contains (.type T))else none:=by
 ext PySem.W.kitOne PySem.W.kitCls PySem.W.subIn
 lia
def isT (T:String) (d:D):Bool:=YF d==T || (YF d == "bool" && T == "int")
def kit_ans (K:yac) (d:D) (h:∀c,d=.exc c->eE K c) (g:∀C ns b,d=.obj C ns b->DK K C) (a:T = "int" ∨ T = "bool" ∨ T = "tuple" ∨ T = "list" ∨ T = "str"):PySem.W.kitOne K (tyV d) (.type T)=some (isT T d):=by
 by_cases f:∃c,d=.exc c;let⟨c,rfl⟩:=f;show PySem.W.kitOne K (.ref c) (.type T)=_;rw[(h c rfl).not T a];show _=some ("object" == T || ("object" == "bool" && T == "int"));obtain e|e|e|e|e:=a<;>subst e<;>decide +kernel;by_cases c:∃C ns b,d=.obj C ns b;let⟨C,ns,b,rfl⟩:=c;show PySem.W.kitOne K (.ref C) (.type T)=_;rw[(g C ns b rfl).not T a];show _=some ("object" == T || ("object" == "bool" && T == "int"));obtain e|e|e|e|e:=a<;>subst e<;>decide +kernel;let hv:tyV d=.type (YF d):=by cases d<;>first|rfl|calc absurd ⟨_,rfl⟩ f|exact absurd ⟨_,_,_,rfl⟩ c
 rw[hv,BM];ext isT;let b:YF d = "NoneType" ∨ YF d = "bool" ∨ YF d = "int" ∨ YF d = "str" ∨ YF d = "tuple" ∨ YF d = "list" ∨ YF d = "dict" := by cases d<;>first|calc absurd ⟨_,rfl⟩ f|calc absurd ⟨_,_,_,rfl⟩ c|simp[YF]
 generalize YF d=S at b ⊢;obtain e|e|e|e|e:=a<;>subst e<;>obtain e|e|e|e|e|e|e:=b<;>subst e<;>decide +kernel
def dIs(T:String)(te:DE):DE:=λa Q=>te a λd=>Q (.bl (isT T d))
def eI (n:Gl X "isinstance") (m:X.mg "isinstance" = none) (g:Gl X x) (f:X.mg x=none) (hv:bootBuiltins x=some (.type T)) (q:T = "int" ∨ T = "bool" ∨ T = "tuple" ∨ T = "list" ∨ T = "str") (o:RU X e te)
  (l:x ≠ "__name__" := by decide) (t:(x==("__debug__" : Str))=false:=by decide)
  (j:starEach [e,.Name x p'] X.env=(false,eval e X.env)::starEach [.Name x p'] X.env:=by rfl) (r:starEach [.Name x p'] X.env=(false,eval (.Name x p') X.env)::starEach [] X.env:=by rfl) (c:(backTo pos (starEach [.Name x p'] X.env)).any (·.1)=false:=by rfl) :
  RU X (.Call (.Name "isinstance" p) [e,.Name x p'] [] pos) (dIs T te):=by
 intro b s i H W k Q I a h;let d:PA X [e,.Name x p'] (rV (Ek X te) (rV (tC (.ty T)) E4)):=gI o.pe (gI (CZ g f hv rfl l t) mT r) j;calc Z8 (di I n m boot_isinstance ?_ 29 29);calc PyProof.Rows.callWith_builtin1 (Rw (d pos b s i H (λi f=>∃v d,i=[v,.ty T]/\av H f/\Den X.K W.bad f d v/\Q (.bl (isT T d))) I ⟨W,k,_,a,h,λv f d h b g=>⟨v,d,rfl,h,b,g⟩⟩) λu w k=>?_) j c;let⟨i,f,i,c,v,d,j,h,b,g⟩:=k;subst j;cases c with
 |cons j a =>
  cases a with
  |cons c a =>
   cases a;cases(show _=Value.type T from c);calc Ay i b j (kit_ans X.K d (λc z=>by subst z;calc b.exc_.choose_spec.2.2) (λC y A z=>by subst z;let⟨_,_,_,_,_,_,k,_⟩:=b.obj_;lia) q) λa=>⟨.bl _,f,_,i.tok a,rfl,h,Den.bl _,g⟩
end
section
variable{X:Cx}{pos:Pos}
def Y3.up(g:Sm W0 H0 W H)(h:Y3 X pins W H E f s'):Y3 X pins W0 H0 E f s':=by let⟨b,c,d,I,a,q⟩:=h;calc⟨b,c,d,I,g.trans a,q⟩
variable{st:Stmt}{rest:yal}{t u:DS}{e:Expr}{te:DE}
def D3:DS:=λE a=>E.nx a
def nF(t u:DS):DS:=λE a=>t {E with nx:=u E} a
def aJ:cT X [] D3:=λ_ _ a H W b E I r h=>wpAny_execs_nil ⟨W,a,H,I,Sm.refl W H,b,r,h⟩
def aj(d:US X st t)(j:cT X rest u):cT X (st::rest) (nF t u):=by
 intro a s b H W c E I r h;calc zCj (Rw (d a s b H W c {E with nx:=u E} I r h) λf i k=>?_);let⟨c,d,h,g,b,q⟩:=k;cases f with
 |next =>
  let⟨k,f,q⟩:=q;calc Rw (j a i d h c k E g f q) λ_ _ z=>z.up b
 |ret v=>calc⟨c,d,h,g,b,q⟩
 |brk=>calc⟨c,d,h,g,b,q⟩
 |cont=>calc⟨c,d,h,g,b,q⟩
def ak(d:US X st t):cT X [st] t:=by intro a s b H W c E I r h;calc zCj (Rw (d a s b H W c E I r h) λf g q=>?_);grind [wpAny_execs_nil]
def IH(te:DE):DS:=λE a=>te a E.rt
def ax(d:RU X e te):US X (.Return (some e) pos) (IH te):=by intro a s b H W c E I r h;calc wpAny_Return_some (Rw (d a s b H W c _ I r h) λu k h=>(by let⟨v,j,d,i,a,g,f,c⟩:=h;calc⟨W,b,j,i,Sm.same g,v,d,a,f,c⟩))
def IF(c:DT)(t u:DS):DS:=λE a=>c a λb=>if b=true then t E a else u E a
def aT(d:Xx X c tc)(l:cT X a t)(k:cT X b u):US X (.If c a b pos) (IF tc t u):=by
 intro a s c H W f E I r h;calc wpAny_If (Rw (d a s c H W f _ I r h) λd g m=>?_);let⟨j,i,b,h⟩:=m;cases d with
 |true=>calc Rw (l a g c j W f E i (r.same b) h) λ_ _ z=>z.up (Sm.same b)
 |false=>calc Rw (k a g c j W f E i (r.same b) h) λ_ _ z=>z.up (Sm.same b)
def Rel.put{X:Cx}{i:Nat}(r:Rel X W H σ ρ)(f:i<#[σ])(c:Den X.K W.bad H d v):Rel X (W.drop i) H (σ.set i (some v)) (ρ.set i (some (.val d))) where
 val:=λj x h=>by
  by_cases a:j=i;subst a;calc⟨v,by simp[f],?_⟩;by_cases b:j<#[ρ];rw[Zf b]at h;cases h;exact c.R9 λ_ _=>Own.Sv
  cbv
  rw[Vm (Ne.symm a)]at h;let⟨w,c,d⟩:=r.val j x h;exact⟨w,by simp_all [Vm,Ne.symm],d.R9 λ_ _=>Own.Sv⟩
 own:=λj x h=>by
  by_cases a:j=i
  ·by_cases b:j<#[ρ]
   all_goals cbv
  rw[Vm (Ne.symm a)]at h;let⟨a,b,c,d,k,g⟩:=r.own j x h;exact⟨a,b,by show(if j=i then none else W.O j)=_;lia,by simp_all [Vm,Ne.symm],k,by rw[zCN];calc g.R9 (λ_ _=>Own.Sv) (Own.V3 f)⟩
 inj:=λj k a c d=>by
  let b:(if j=i then none else W.O j)=some a:=c;let f:(if k=i then none else W.O k)=some a:=d;by_cases d:j=i
  lia
  by_cases g:k=i
  lia
  rw[if_neg d]at b;rw[if_neg g]at f;exact r.inj j k a b f
 kn:=λj a c=>by
  let b:(if j=i then none else W.O j)=some a:=c;by_cases d:j=i
  lia
  rw[if_neg d]at b;exact r.kn j a b
 ke:=λj a c=>by
  let b:(if j=i then none else W.O j)=some a:=c;by_cases d:j=i
  lia
  rw[if_neg d]at b;exact r.ke j a b
 bt:=r.bt
 st:=r.st
 ent:=r.ent
 tab:=r.tab
theorem Sm.drop(W:Own)(H:Hp)(i:Nat):Sm W H (W.drop i) H:=⟨rfl,rfl,35,λj a h=>by let b:(if j=i then none else W.O j)=some a:=h;grind,46,id⟩
def Inv.X2{i:Nat}{x:Str}(I:Inv X pins σ H s)(a:X.N[i]?=some x):i<#[σ]:=by rw[I.len];grind
def zZ(i:Nat)(te:DE):DS:=λE a=>te a λd=>E.nx (a.set i (some (.val d)))
def az{x:Str}(i:Nat)(l:X.N.Nodup)(f:RU X e te)(b:X.N[i]?=some x:=by rfl)(j:Loc X.env.scope x:=by first|calc Or.inl rfl|calc Or.inr rfl)(hs:swapsWith e (some (.Name x pos')) pos.line X.env=pure false:=by rfl)
  (k:X.fn x=true∨X.env.scope.names.lookup x=some .local:=by first|calc .inl rfl|calc .inr rfl|assumption):US X (.Assign [.Name x pos'] e pos) (zZ i te):=by
 intro a s c H W d E I r h;calc wpAny_Assign_Name (Rw (f a s c H W d _ I r h) λu o m=>?_) hs;let⟨v,f,d,c,d,a,h,g⟩:=m;calc dP c l b j d (λn d=>⟨W.drop i,_,f,d,(Sm.same a).trans (Sm.drop W f i),_,(r.same a).put (Inv.X2 c b) h,g⟩) k
def US.of{t:DS}(h:PS X st ts)(k:∀f H W ρ E,Rel X W H f ρ->#[f]=#[X.N]->t E ρ->ts ⟨(λc H'=>∃a b,Sm W H a H'/\Rel X a H' c b/\E.nx b),(λv H'=>∃a d,Sm W H a H'/\Den X.K a.bad H' d v/\E.rt d),
   (λc H'=>∃a b,Sm W H a H'/\Rel X a H' c b/\E.bk b),(λc H'=>∃a b,Sm W H a H'/\Rel X a H' c b/\E.ct b)⟩ f H):US X st t:=by
 intro g s f H W ρ E I r i;refine Rw (h g s f H _ I (k f H W ρ E r I.len i)) λf j q=>?_
 cases f with
 |next=>let⟨c,H',g,a,b,f,h,q⟩:=q;calc⟨a,c,H',g,f,b,h,q⟩
 |brk=>let⟨c,H',g,a,b,f,h,q⟩:=q;calc⟨a,c,H',g,f,b,h,q⟩
 |cont=>let⟨c,H',g,a,b,f,h,q⟩:=q;calc⟨a,c,H',g,f,b,h,q⟩
 |ret u=>let⟨v,c,H',g,b,a,d,f,h,q⟩:=q;calc⟨a,c,H',g,f,v,d,b,h,q⟩
def N2(c:DT)(d:DS):DS:=λE a=>∃W:Nat->Ro->Prop,(∃m,W m a)/\∀m a,W m a->c a λb=>if b=true then d {E with nx:=λc=>∃b,b<m/\W b c,ct:=λc=>∃b,b<m/\W b c,bk:=E.nx} a else E.nx a
def kE(i:PassesOwn (model X.prog X.w) X.A X.env X.xe)(o:Xx X c tc)(q:cT X body tb):US X (.While c body [] pos) (N2 tc tb):=by
 intro a s j H W k E I r h;let⟨p,⟨m,l⟩,b⟩:=h;calc wpAny_While (codeAny_whileLoop (λn h=>∃d g c f,Inv X a g c h/\Sm W H d c/\Rel X d c g f/\p n f) ?_ m ⟨W,j,H,k,I,Sm.refl W H,r,l⟩);rintro n h ⟨j,g,l,d,k,f,m,c⟩;calc zCr i (Rw (o a h g l j d _ k m (b n d c)) λb h c=>?_);let⟨w,s,p,r⟩:=c;let c:=f.trans (Sm.same (W:=j) p);cases b with
 |true =>
  calc zCr i (Rw (q a h g w j d _ s (m.same p) r) λf x b=>?_);let⟨i,h,l,k,a,b⟩:=b;cases f with
  |next =>
   let⟨q,f,n,o,w3⟩:=b;calc⟨n,o,i,h,l,q,k,c.trans a,f,w3⟩
  |cont =>
   let⟨q,f,n,o,w3⟩:=b;calc⟨n,o,i,h,l,q,k,c.trans a,f,w3⟩
  |brk=>calc⟨i,h,l,k,c.trans a,b⟩
  |ret v=>calc⟨i,h,l,k,c.trans a,b⟩
 |false =>
  calc wpAny_execs_nil ⟨j,g,w,s,c,d,m.same p,r⟩
def Ov{X:Cx}(r:Rel X W H σ ρ)(f:Sm W H W' H')(a:Addr)(o:HO)(n:Zv o)(q:H a=some o):H' a=some o :=
 f.kp a _ (λi z=>by let⟨_,_,c,b,m⟩:=r.kn i a z;rw[q]at b;cases b;calc m.sol n) q n.nt
def Ou{X:Cx}(r:Rel X W H σ ρ)(f:Sm W H W' H')(a:Addr)(b:yar)(q:SK X.K H a b):SK X.K H' a b:=by
 calc f.keep a _ (λi e=>by let⟨_,_,g,d,m⟩:=r.kn i a e;let c:H a=some (.tup b):=q;rw[d]at c;cases c;calc m) q
def Ot{X:Cx}(d:Rel X W' H' R6 Rq)(f:Sm W H W' H')(t:Bool)(a:Addr)(b:yar)(p:¬W.bad t a)(q:UH X.K H t a b):¬W'.bad t a/\UH X.K H' t a b:=by
 let c:∀i,W.O i≠some a:=λi e=>p (.inr (.inl ⟨i,e⟩))
 calc⟨λb=>?_,?_,λz=>⟨f.keep a _ c (q.2 z).1,(q.2 z).2⟩⟩;obtain b|⟨i,b⟩| ⟨e,b⟩:=b;rw[f.B]at b;calc p (.inl b);rcases f.new i a b with⟨j,z⟩| z
 cbv
 rcases q.1 with(q|⟨o,q⟩)|⟨o,Ru,n,q,_⟩
 lia
 lia
 rw[(d.kn i a b).1]at q;lia;rw[f.S]at b;calc p (.inr (.inr ⟨e,b⟩));rcases q.1 with(q|⟨o,q⟩)|q;calc .inl (.inl (f.keep a _ c q));calc .inl (.inr ⟨o,f.keep a _ c q⟩);calc .inr q
def Den.fwd{X:Cx}(r:Rel X W H σ ρ)(a:Rel X W' H' R6 Rq)(f:Sm W H W' H')(h:Den X.K W.bad H d v):Den X.K W'.bad H' d v :=
 Den.map (Ou r f) (Ot a f) (Ov r f) d v h
abbrev DG:=D->Ro->(Ro->Prop)->Prop
inductive GP (X:Cx) (pins:yab) (W:Own) (H:Hp) (Q:Ro->Prop) (s':Shared):Prop
 |mk (W':Own) (R6:St) (H':Hp) (Rq:Ro) (_:Inv X pins R6 H' s') (_:Sm W H W' H') (_:Rel X W' H' R6 Rq) (_:Q Rq)
abbrev GDP{α:Type}(X:Cx)(pins:yab)(W:Own)(H:Hp)(Q:Ro->Prop)(_:α)(s':Shared):Prop:=GP X pins W H Q s'
def PGD(X:Cx)(a:Expr)(g:DG):Prop :=
 ∀ (b:yab) (s:Shared) (c:St) (H:Hp) (W:Own) (f:Ro) (d:D) (v:V) (u:Value) (Q:Ro->Prop),Inv X b c H s->Rel X W H c f->RelV v u->Den X.K W.bad H d v->g d f Q →
  wpAny (model X.prog X.w) X.A (assign a X.env u) (GDP X b W H Q) X.xe s
abbrev DGs:=yas->Ro->(Ro->Prop)->Prop
def wC(X:Cx)(ts:yai)(t:DGs):Prop :=
 ∀ (a:yab) (s:Shared) (b:St) (H:Hp) (W:Own) (c:Ro) (g:yas) (d:yar) (f:yad) (Q:Ro->Prop),Inv X a b H s->Rel X W H b c->Vals d f->ah X.K W.bad H g d->t g c Q →
  wpAny (model X.prog X.w) X.A (assignInOrder ((assignEach ts X.env).map (·.2)) f) (GDP X a W H Q) X.xe s
theorem ah.fwd{X:Cx}(r:Rel X W H σ ρ)(c:Rel X W' H' R6 Rq)(f:Sm W H W' H'):∀{a:yas} {b:yar},ah X.K W.bad H a b->ah X.K W'.bad H' a b
 |[],_,h=>by simpa only[ah]using h
 |d::a,_,h=>by let⟨v,q,e,b,a⟩:=h;calc⟨v,q,e,Den.fwd r c f b,ah.fwd r c f a⟩
def gN(i:Nat):DG:=λd a Q=>Q (a.set i (some (.val d)))
def bq{x:Str}(i:Nat)(j:X.N.Nodup)(b:X.N[i]?=some x:=by rfl)(f:Loc X.env.scope x:=by first|calc Or.inl rfl|calc Or.inr rfl)
  (g:X.fn x=true∨X.env.scope.names.lookup x=some .local:=by first|calc .inl rfl|calc .inr rfl|assumption):PGD X (.Name x pos) (gN i):=by
 intro a s k H W l d v u Q I r c d h;calc wpAny_assign_Name (dP I j b f c (λm c=>⟨W.drop i,_,H,_,c,Sm.drop W H i,r.put (Inv.X2 I b) d,h⟩) g)
def k8:DGs:=λb a Q=>b=[]/\Q a
def b9(g:DG)(u:DGs):DGs:=λb a Q=>∃d r,b=d::r/\g d a λa=>u r a Q
def rD:wC X [] k8:=by intro a s b H W c j d f Q I r g i h;let⟨e,h⟩:=h;calc assignInOrder_nil ⟨W,b,H,c,I,Sm.refl W H,r,h⟩
def cD{e:Expr}{u:DGs}(k:PGD X e g)(l:wC X es u)(hs:(assignEach (e::es) X.env).map (·.2)=assign e X.env::(assignEach es X.env).map (·.2):=by rfl):wC X (e::es) (b9 g u):=by
 intro a s b H W c z w x Q I r g j h;let⟨d,n,f,h⟩:=h;subst f;let⟨v,i,m,o,f⟩:=j;subst m;cases g with
 |cons g j =>
  rw[hs];calc assignInOrder_cons (Rw (k a s b H W c d v _ _ I r g o h) λ_ h o=>?_);let⟨m,b,q,c,p,g,d,k⟩:=o;calc Rw (l a h b q m c n i _ Q p d j (ah.fwd r d g f) k) λ_ y i=>(by let⟨h,a,k,b,j,f,c,d⟩:=i;calc⟨h,a,k,b,j,g.trans f,c,d⟩)
def Ax{h:Heap}(b:h.IsList l items)(hs:Heap.SameBut it h h')(c:l≠it):h'.IsList l items:=by let⟨o,a,r⟩:=b;calc⟨o,(hs.2 l c).trans a,r⟩
theorem x9{a l:Addr}(h:l≠a):∀(n i:Nat) (s:Shared) (Q:yad->Shared->Prop),s.heap.IsListIter a l i->s.heap.IsList l items->i+n<=items.size →
  (∀h',h'.IsListIter a l (i+n)->Heap.SameBut a s.heap h'->Q ((items.toList.drop i).take n) {s with heap:=h'})->wpAny (model prog w) A (draw (.ref a) n) Q E s
 |0,i,s,Q,a,_,_,d=>by
  show wpAny _ _ (pure []) Q E s
  simp_all [Rz,Heap.SameBut.refl]
 |n+1,i,s,Q,a,c,j,d=>by
  let g:i<items.size:=by omega
  calc Rm (wpAny_pyNext_list_item a c (x:=items[i]) (by simp[g]) λUx a f=>?_);calc Rm (VU (x9 h n (i+1) _ _ a (Ax c f h) (by omega) λc b a=>Rz ?_));let k:items.toList.drop i=items[i]::items.toList.drop (i+1):=by simp[zBf,g]
  have:=d c 35 (f.trans a)
  cbv
def uo{A:Around}{s:Shared}{Q:yad->Shared->Prop}(hh:A.handled=none)(a:s.heap.IsList l items)
  (g:∀h',Heap.ExtBut s.heap.objs.size s.heap h'->Q items.toList {s with heap:=h'}):wpAny (model prog w) A (unpackItems (.ref l) items.size none) Q E s:=by
 let f:l≠s.heap.objs.size:=by let⟨o,c,_⟩:=a;exact Uv (SJ c)
 calc Rm ?_;calc Rm (zDF a.typeIs F.slot_list_iter.lookup ?_);calc Rz ?_;calc Rm (VU (wpAny_pyIter_list a ?_));let b:(s.heap.push {cls:=.type "list_iterator", data:=.fields #[.ref l,rawInt 0]}).IsList l items:=by let⟨o,c,r⟩:=a;exact⟨o,T6 _ c,r⟩
 calc Rm (VU (x9 f items.size 0 _ _ ⟨_,Vj _ rfl,rfl,rfl⟩ b 35 λh c d=>?_));let a:List.take items.size (List.drop 0 items.toList)=items.toList:=by simp_all [List.drop_zero,XG]
 rw[a];rw[if_neg 52];let a:h.IsList l items:=Ax b d f;calc Rm (VU (wpAny_pyNext_list_end hh c a 52 λb a=>?_));calc Rz (g b λb o c e=>a b o c (d.extBut b o c (T6 _ e)))
def k9(n:Nat)(t:DGs):DG:=λd b Q=>∃a,(d=.tup a∨∃ t,d=.lst t a)/\#[a]=n/\t a b Q
def qe{t:DGs}{n:Nat}(C:X.calm=true)(h:wC X es t)(z:#[assignEach es X.env]=n:=by rfl)(G:(assignEach es X.env).findIdx? (·.1)=none:=by rfl):PGD X (.Tuple es k pos) (k9 n t):=by
 intro c s i H W x d v u Q I r y B j;let⟨E,f,A,j⟩:=j;obtain f|⟨M,f⟩:=f;subst f;let⟨a,k,q,n,g⟩:=B.UY;subst q;cases y;let⟨J,d,m,L⟩:=I.tuple n.w;refine assign_Tuple_tuple (I.ok.hd C) m (by simp[z,<- A,<- #[d],g.len]) G λp l=>?_
 let w:Inv X c i H {s with heap:=p}:=I.kept (t':=s.toks) λb o e=>l b o (Uv (SJ e)) e
 calc h c _ i H W x E k _ Q w r 35 g j;subst f;let⟨a,k,q,_,n,g⟩:=B.UI;subst q;cases y;let⟨J,d,m,L⟩:=I.list n;calc Rm (zDZ ?_);ext unpack;rw[G,show#[assignEach es X.env]=J.toArray.size by simp[z,<- A,<- #[d],g.len]];calc Rm (VU (uo (I.ok.hd C) m.isList λp l=>?_));let w:Inv X c i H {s with heap:=p}:=I.kept (t':=s.toks) λb o e=>l b o (Uv (SJ e)) e
 calc h c _ i H W x E k _ Q w r 35 g j
def YD(K:yac)(W:Own)(H:Hp)(J:It)(f:yas):Prop:=∀(g:yak) (b:Hp),(∀a c,SK K H a c->SK K b a c)->(∀t a c,¬W.bad t a->UH K H t a c->¬g t a/\UH K b t a c)->(∀a o,Zv o->H a=some o->b a=some o)->∀i,(i<#[f]->J.go i b)/\(∀x a,J.yld i b x a->i<#[f]->av b a/\∃d,f[i]?=some d/\Den K g a d x)/\(#[f]<=i->J.stop i b)
inductive IDP (X:Cx) (pins:yab) (σ:St) (W:Own) (H:Hp) (tg:Expr) (R:yas->Prop) (Zr:Value) (s2:Shared):Prop
 |mk (it:Addr) (fp:yae) (tn:Nat->Heap->Prop) (J:It) (H':Hp) (ds:yas) (_:Zr=.ref it) (_:Inv X pins σ H' s2) (_:av H H') (_:Turn X.prog X.w X.K tg J fp it tn) (_:tn 0 s2.heap) (_:∀b∈fp,fF X pins H' b) (_:YD X.K W H' J ds) (_:R ds)
def YI(X:Cx)(f b:Expr)(wi:DA):Prop :=
 ∀ (a:yab) (s:Shared) (c:St) (H:Hp) (W:Own) (d:Ro) (R:yas->Prop),Inv X a c H s->Rel X W H c d->wi d R →
  wpAny (model X.prog X.w) X.A (eval b X.env) (λv b=>wpAny (model X.prog X.w) X.A (pyIter v) (IDP X a c W H f R) X.xe b) X.xe s
def YI.of{b:DA}(h:PI X tg iter wi)(k:∀a H W ρ R,Rel X W H a ρ->b ρ R->wi a H λJ H'=>av H H'/\∃c,YD X.K W H' J c/\R c):YI X tg iter b:=by
 intro b s a H W ρ R I r d;refine Rw (h b s a H _ I (k a H W ρ R r d)) λv j a=>Rw a λZr i b=>?_
 let⟨a,d,tn,J,H',e,h,T,st,f,g,c,y,q⟩:=b;calc⟨a,d,tn,J,H',c,e,h,g,T,st,f,y,q⟩
def Jp:D->(yas->Prop)->Prop
 |.lst _ a,R=>R a
 |_,_=>False
def Mg(h:Jp x R):∃t a,x=.lst t a/\R a:=by
 cases x<;>first|calc False.elim h|calc⟨_,_,rfl,h⟩
theorem OR(t:Bool)(a:yas)(R:yas->Prop):Jp (.lst t a) R=R a:=rfl
def D0(b:DE):DA:=λa R=>b a λd=>Jp d R
def bb(h:RU X iter ti):YI X tg iter (D0 ti):=by
 refine YI.of (ME h.pe) λp H W a R r b=>⟨W,a,_,r,b,λv H1 d h c q=>?_⟩
 let⟨k,j,rfl,q⟩:=Mg q;let⟨a,b,rfl,l,g,f⟩:=c.WL;calc⟨a,rfl,⟨b,g.1⟩,h,j,?_,q⟩;intro P' o n h m i;let c:SqL X.K o a b:=(h _ a b l g).2.1;let s:=f.len;calc⟨λa=>?_,λx H3 y a=>?_,λa=>⟨b,c,35⟩⟩;let⟨v,hv,_⟩:=f.get (i:=i) (d:=j[i]) (by simp[a]);calc⟨b,v,c,hv⟩;let⟨a,y⟩:=y;subst a;let⟨d,g,a⟩:=f.bI (y b c);calc⟨av.refl _,d,g,Den.map n h m d _ a⟩
noncomputable def jv(lo step:Int)(n:Nat):yas:=(List.range n).map λ(i:Nat)=>D.int (lo+i*step)
def JZ(lo step:Int)(n:Nat):#[jv lo step n]=n:=by simp[jv]
def JY{lo step:Int}{n i:Nat}(h:i<n):(jv lo step n)[i]?=some (D.int (lo+i*step)):=by simp[jv,h]
def Nq(lo c:Int)(n:Nat):It:=⟨λi _=>i<n,λi H x a=>a=H/\x=.int (lo+i*c),λi _=>n<=i⟩
def Kj(K:yac)(W:Own)(H:Hp)(lo c:Int)(n:Nat):YD K W H (Nq lo c n) (jv lo c n):=λP' H' _ _ _ i=>by
 rw[JZ];calc⟨λh=>h,λx H3 y a=>?_,λh=>h⟩;let⟨e,b⟩:=y
 simp_all [av.refl,JY,Den.int]
def Cg{P:Program}{w:World}{K:yac}{a:Expr}(d:Addr)(lo c:Int)(n:Nat):Turn P w K a (Nq lo c n) [d] d (λi h=>IsRangeIter h d (lo+(i:Nat)*c) ((n:Int) - (i:Nat)) c) where
 mem:=52
 obj:=λi h st b f=>by
  let e:b=d:=by simpa using f
  subst e;exact⟨_,st,λv z=>by let a:Data.fields _=Data.cell v:=z;cases a⟩
 keep:=λi h l st k=>k d 52 _ st
 item:=by
  intro X q k r p i a s C H E I j st m;subst q k r;let⟨B,A,J,z,y,x⟩:=j d 52;let W:=Walks.range (prog:=X.prog) (w:=X.w) (I.ok.hd p) d lo c n;refine W.item i s _ _ m st λv l w hv g G=>?_
  let⟨t,rfl⟩:=hv;let L:Inv X a C H {s with heap:=l,toks:=w}:=I.turned (λb o f e=>G b o (by simpa using f) e) B A z y x;exact⟨_,rfl,KD (s:={s with heap:=l,toks:=w}) (n := "range_iterator") g rfl rfl 29 ⟨.int (lo+i*c),H,L,⟨t,rfl⟩,⟨rfl,rfl⟩,g,λb f=>(j b f).1⟩⟩
 done:=by intro X q k r p i a s C H E I j st m;subst q k r;let⟨B,A,J,z,y,x⟩:=j d 52;exact wpAny_pyNext_range_end (I.ok.hd p) st (by have:n<=i:=m;lia) λl a=>⟨rfl,I.turned (t':=s.toks) (λb o f e=>a b o f e) B A z y x⟩
 self:=λ_ _ _ _ _ st h=>wpAny_pyIter_rangeiter st h
def kJ(lo a c:Int):Nat:=(Builtin.Range.rangeSize lo a c).toNat
def Hz{a b c:Int}(m:-(2 ^ 40)<=a)(Y5:a<2 ^ 40)(l:-(2 ^ 40)<=b)(g:b<2 ^ 40)(k:0<c)(Yz:c<2 ^ 20):Builtin.Range.small a b c=true/\0<=Builtin.Range.rangeSize a b c:=by
 let f:a<b->0<=(b - a - 1) / c/\(b - a - 1) / c<=b - a - 1:=λh=>⟨Int.ediv_nonneg 35 35,Int.ediv_le_self _ 35⟩
 let d:a<b->(b - a - 1) / c*c<=b - a - 1:=λh=>Int.ediv_mul_le _ 35
 ext Builtin.Range.small Builtin.Range.rangeSize;rw[Rr 46];by_cases h:a<b;let⟨j,i⟩:=f h;let f:=d h;rw[Rr h];generalize (b - a - 1) / c=q at j i f ⊢;simp only[Builtin.Range.rangeFitsLong,zCD,Bool.or_eq_true,decide_eq_true_eq,beq_iff_eq];constructor;rw[Rr 46];simp
 lia
 lia
 rw[if_neg h];simp only[Builtin.Range.rangeFitsLong,zCD,Bool.or_eq_true,decide_eq_true_eq,beq_iff_eq];constructor;simp;lia
 lia
def yx{R:yas->Prop}{lo a c:Int}{t u:Tok}{d:Nat}(I:Inv X pins σ H s)(j:-(2 ^ 40)<=lo)(i:lo<2 ^ 40)(h:-(2 ^ 40)<=a)(g:a<2 ^ 40)(f:0<c)(b:c<2 ^ 20)
  (q:R (jv lo c (kJ lo a c))):wpAny (model X.prog X.w) X.A (pyIter (.ref s.heap.objs.size)) (IDP X pins σ W H tg R) E {s with heap:=s.heap.push {cls:=.type "range", data:=.fields #[.int lo t,.int a u,.int c v]},toks:=d}:=by
 let⟨sm,k⟩:=Hz j i h g f b;calc wpAny_pyIter_range (IsRange.new ..) sm ?_;let f:Inv X pins σ H {s with heap:=s.heap.push {cls:=.type "range", data:=.fields #[.int lo t,.int a u,.int c v]},toks:=d}:=I.kept λb o e=>T6 _ e
 refine⟨(s.heap.push {cls:=.type "range", data:=.fields #[.int lo t,.int a u,.int c v]}).objs.size,[(s.heap.push {cls:=.type "range", data:=.fields #[.int lo t,.int a u,.int c v]}).objs.size],_,_,H,_,rfl,
  f.kept (t':=d) λb o e=>T6 _ e,av.refl H,Cg _ lo c (kJ lo a c),?_,λb d=>?_,Kj _ _ _ _ _ _,q⟩
 let h:lo+((0:Nat):Int)*c=lo:=52
 let g:((kJ lo a c:Nat):Int) - ((0:Nat):Int)=Builtin.Range.rangeSize lo a c:=by ext kJ;lia
 show IsRangeIter _ _ (lo+((0:Nat):Int)*c) (((kJ lo a c:Nat):Int) - ((0:Nat):Int)) c;rw[h,g];calc Vj _ rfl;let e:b=(s.heap.push {cls:=.type "range", data:=.fields #[.int lo t,.int a u,.int c v]}).objs.size:=by simpa using d
 subst e;calc f.fpOk (Sx _) (f.R5.fresh (Sx _))
def CR3(i:Int):Prop:=-(2 ^ 40)<=i/\i<2 ^ 40
def D6(b:DA):DA:=λa R=>b a λa=>∃i j:Int,a=[.int i,.int j]/\CR3 i/\CR3 j/\R (jv i 1 (kJ i j 1))
def Ks(b:DA):DA:=λa R=>b a λa=>∃j:Int,a=[.int j]/\CR3 j/\R (jv 0 1 (kJ 0 j 1))
def Gj {a b:Expr} {p pos:Pos} (N:Gl X "range") (M:X.mg "range" = none) (Q:Wz X [a,b] ta) (hs:starEach [a,b] X.env=(false,eval a X.env)::starEach [b] X.env:=by rfl) (f:(backTo pos (starEach [b] X.env)).any (·.1)=false:=by rfl) :
  YI X tg (.Call (.Name "range" p) [a,b] [] pos) (D6 ta):=by
 intro c s k H W l R I r h;calc Call_ (di I N M boot_range (PyProof.Rows.callWith_type1 (Rw (Q pos c s k H W l _ I r h) λus s1 Ry=>?_) hs f));let⟨vs,H1,g,I1,E,U,O,G⟩:=Ry;let⟨i,j,e,⟨a1,a2⟩,⟨b1,b2⟩,q⟩:=G;subst e;let⟨v1,u1,rfl,d1,Y⟩:=rg O;let j:=d1.SM;let i:=Y.SM;subst j i;cases E with
 |cons C d =>
  cases d with
  |cons B d =>
   cases d;let⟨t,rfl⟩:=C;let⟨t',rfl⟩:=B;calc call_range_2 ?_;calc Rw (yx (W:=W) (R:=R) I1 a1 a2 b1 b2 29 29 q) λZr s2 SR=>(by let⟨L,T,tn,J,H',g,A,z,y,x,w,o,n,m⟩:=SR;calc⟨L,T,tn,J,H',g,A,z,U.trans y,x,w,o,n,m⟩)
def ja {a:Expr} {p pos:Pos} (g:Gl X "range") (f:X.mg "range" = none) (i:Wz X [a] ta) (hs:starEach [a] X.env=(false,eval a X.env)::starEach [] X.env:=by rfl) (b:(backTo pos (starEach [] X.env)).any (·.1)=false:=by rfl) :
  YI X tg (.Call (.Name "range" p) [a] [] pos) (Ks ta):=by
 intro a s c H W d R I r h;calc Call_ (di I g f boot_range (PyProof.Rows.callWith_type1 (Rw (i pos a s c H W d _ I r h) λy A f=>?_) hs b));let⟨w,H1,a,i,c,m,d,b⟩:=f;let⟨j,e,⟨h,g⟩,q⟩:=b;subst e;let⟨x,rfl,f⟩:=k7 d;let b:=f.SM;subst b;cases c with
 |cons c b =>
  cases b;let⟨t,rfl⟩:=c;calc call_range_1 ?_;calc Rw (yx (W:=W) (R:=R) i 29 29 h g 29 29 q) λZr z n=>(by let⟨k,l,tn,J,o,a,j,i,h,g,f,d,c,b⟩:=n;calc⟨k,l,tn,J,o,a,j,i,m.trans h,g,f,d,c,b⟩)
def pX(wi:DA)(g:DG)(d:DS):DS:=λE a=>wi a λc=>∃Pv:Nat->Ro->Prop,Pv 0 a ∧
 (∀j x a,c[j]?=some x->Pv j a->g x a λb=>d {E with nx:=Pv (j+1),ct:=Pv (j+1),bk:=E.nx} b)/\∀a,Pv #[c] a->E.nx a
def cF(y:PassesOwn (model X.prog X.w) X.A X.env X.xe)(hc:X.calm=true)(b:YI X tg iter wi)(G:PGD X tg g)(j:cT X body tb)
  (hs:∀x,foldedSetIterable iter X.env x=pure x:=by intro _;rfl):US X (.For tg iter body [] pos) (pX wi g tb):=by
 intro a s f H W k E I r h;calc wpAny_For (Rw (b a s f H W k _ I r h) λv s1 b=>Rw b λZr s2 b=>?_) hs;let⟨it,L,tn,J,I,s,e,z,U,T,w,m,p,Pv,q,c,pd⟩:=b;subst e;let d:=r.same U;let h:∀{g:Hp},(∀b∈L,g b=none)->∀b∈L,fF X a g b:=λi b j=>⟨i b j,(m b j).2⟩
 calc codeAny_forLoop_any (λn l=>∃i o E g C,n=#[s] - i/\i<=#[s]/\Inv X a E g l/\tn i l.heap/\(∀b∈L,g b=none)/\Sm W I o g/\Rel X o g E C/\Pv i C) ?_ #[s] ⟨0,W,f,I,k,52,Uw _,z,w,λb j=>(m b j).1,Sm.refl W I,d,q⟩;rintro n s3 ⟨i,Y,M,N,J,en,hle,I3,WA,A,k,O,p3⟩;let⟨f,l,ys⟩:=p Y.bad N (Ou d k) (Ot O k) (Ov d k) i;by_cases Uo:i<#[s]
 ·calc zCr y (Rw (T.item X rfl rfl rfl hc i a s3 M N X.xe I3 (h A) WA (f Uo)) λrr s4 ⟨u,Q,d⟩=>?_);subst Q;calc zCr y (Rw d λ_ w B=>?_);let⟨x,p,I5,z,q,r,f⟩:=B;let⟨m,d,hd,UZ⟩:=l x p q Uo;let l:=I5.pinned (h f) (T.obj _ _ r);let f:=O.same m;calc zCr y (Rw (G _ w M p Y J d x u _ l f z UZ (c i d J hd p3)) λ_ l B=>?_);let⟨w,c,z,f,x,f6,p,q⟩:=B;calc zCr y (Rw (j _ l c z w f _ x p q) λf s7 l=>?_);let⟨w,p,x,G,c,l⟩:=l;let z:Sm W I w x:=k.trans ((Sm.same m).trans (f6.trans c));let q:Sm W H w x:=(Sm.same U).trans z;let again:∀{c:Ro},Rel X w x p c->Pv (i+1) c->∃m,m<n/\∃i o E g C,m=#[s] - i/\i<=#[s]/\Inv X a E g s7/\tn i s7.heap/\(∀b∈L,g b=none)/\Sm W I o g/\Rel X o g E C/\Pv i C:=fun {c} g m=>by
   calc⟨#[s] - (i+1),35,i+1,w,p,x,c,rfl,Uo,G.UE,T.keep _ _ _ r λb j o e=>(G.pin (b,o) (VA _ (VA _ (jQ j e)))).1,λb j=>?_,z,g,m⟩;let⟨o,e,d⟩:=T.obj _ _ r b j;exact(G.pin (b,o) (VA _ (VA _ (jQ j e)))).2.1
  cases f with
  |next=>let⟨c,g,b⟩:=l;calc again g b
  |cont=>let⟨c,g,b⟩:=l;calc again g b
  |brk=>let⟨c,g,l⟩:=l;calc⟨w,p,x,G.UE,q,c,g,l⟩
  |ret v=>let⟨b,d,g,c,l⟩:=l;exact⟨w,p,x,G.UE,q,b,d,g,c,l⟩
 let e:i=#[s]:=35
 calc zCr y (Rw (T.done X rfl rfl rfl hc i a s3 M N X.xe I3 (h A) WA (ys 35)) λrr s4 B=>?_);let⟨Q,a⟩:=B;subst Q;subst e;calc wpAny_execs_nil ⟨Y,M,N,a,(Sm.same U).trans k,J,O,pd J p3⟩
def NU(i j:Nat)(b:DA):DS:=λE a=>b a λb=>∃d e,b=[d,e]/\E.nx ((a.set i (some (.val d))).set j (some (.val e)))
def Oa{x y:Str}{a b:Expr}{kt k2 pt2}(i j:Nat)(B:X.calm=true)(C:X.N.Nodup)(E:i≠j)(n:Wz X [a,b] ta)(A:X.N[i]?=some x:=by rfl)(z:X.N[j]?=some y:=by rfl)
  (p:X.env.scope.names.lookup x=some .local:=by rfl) (o:X.env.scope.names.lookup y=some .local:=by rfl)
  (w:swappedStores [.Tuple [.Name x px,.Name y py] kt pt] (.Tuple [a,b] k2 pt2) X.env=pure (some [x,y]):=by rfl)
  (hs:swapsWithSole [.Tuple [.Name x px,.Name y py] kt pt] (.Tuple [a,b] k2 pt2) pos.line X.env=pure false:=by rfl) :
  US X (.Assign [.Tuple [.Name x px,.Name y py] kt pt] (.Tuple [a,b] k2 pt2) pos) (NU i j ta):=by
 let l:PA X [a,b] (λb H Q=>∃W c h,Rel X W H b c/\ta c h/\∀d a g,av H a->ah X.K W.bad a g d->h g->Q d a):=by intro pos f s b H Q I q;let⟨W,c,h,r,m,k⟩:=q;exact Rw (n pos f s b H W c h I r m) λG J s=>(by let⟨d,a,g,x,h,f,m,n⟩:=s;calc⟨d,a,x,h,k d a g f m n⟩)
 refine US.of (Pf B C A z E p o l w hs) λb H W c E r k h=>?_
 calc⟨W,c,_,r,h,λd a g f m q=>?_⟩;let⟨d,e,rfl,q⟩:=q;let⟨v,u,rfl,g,d⟩:=rg m;let h:i<#[b]:=72
 let c:j<#[b.set i (some v)]:=by rw[zCN,k];grind
 let b:=(r.same f).put h g;calc⟨v,u,rfl,_,_,(Sm.same f).trans ((Sm.drop W a i).trans (Sm.drop _ a j)),b.put c (d.R9 λ_ _=>Own.Sv),q⟩
end
def cG:yah->yas->Ro
 |_::N,d::a=>some (.val d)::cG N a
 |_::N,[]=>none::cG N []
 |[],a=>a.map λd=>some (.val d)
theorem lF:∀(N:yah) (a:yas),cG N a=a.map (λd=>some (.val d))++List.replicate (#[N] - #[a]) none
 |_::N,d::a=>by rw[cG,lF N a,Vq,Xo,Xo,Nat.add_sub_add_right];rfl
 |_::N,[]=>by rw[cG,lF N []];rfl
 |[],a=>by rw[cG,List.length_nil,Nat.zero_sub];simp
theorem Rel.start{X:Cx}{P:Addr->Prop}{H:Hp}(f:∀a,P a->∃o,H a=some o)(h:ah X.K (λt a=>t=true∨P a) H ds vs)(m:X.Sj=H)(c:ig X.K H):Rel X ⟨P,λ_=>none,λa=>∃o,H a=some o⟩ H (start N vs) (cG N ds) where
 val:=λi d e=>by
  rw[lF]at e;let l:=h.len;by_cases b:i<#[ds]
  ·rw[WR 46,UR]at e;cases q:ds[i]? with
   |none=>cbv
   |some j =>
    rw[q]at e;let g:j=d:=by simpa using e
    subst g;let⟨v,j,g⟩:=h.get q;calc⟨v,?_,g.R9 λk a z=>?_⟩;ext L2.start;rw[WR 46,UR,j];rfl
    ·obtain z|⟨j,z⟩| ⟨z,_⟩:=z
     all_goals cbv
  simp_all [WH,zCf]
 own:=λi d e=>by
  rw[lF]at e;by_cases b:i<#[ds]
  all_goals simp_all [WR,UR,WH,zCf]
 inj:=λi j a h _=>by cases h
 kn:=λi a h=>by cases h
 ke:=λi a h=>by cases h
 bt:=f
 st:=λ_ z=>z
 ent:=by simp_all [av.refl]
 tab:=c
def bG.there(x:bG P w H h a o):∃u,h.get? a=some u:=by
 cases o with
 |lst a=>let⟨_,_,_,_,e⟩:=x;calc⟨_,e⟩
 |tup a=>let⟨_,_,_,a,e,_⟩:=x;calc⟨a,e⟩
 |dK b=>let⟨_,_,_,_,a,_,_,e,_⟩:=x;calc⟨a,e⟩
 |dT b=>let⟨_,_,_,_,a,_,_,e,_⟩:=x;calc⟨a,e⟩
 |set S n=>let⟨a,_,_,_,e,_⟩:=x;calc⟨a,e⟩
 |ins C i b=>let⟨_,_,_,e,_⟩:=x;calc⟨_,e⟩
 |own y=>calc x
 |xd b=>let⟨_,⟨a,_,_,e,_⟩,_⟩:=x;calc⟨a,e⟩
 |rng lo g=>let⟨_,_,_,e⟩:=x;calc⟨_,e⟩
 |frz a u=>let⟨e,_⟩:=x;calc⟨a,e⟩
 |Xi d=>calc⟨_,x⟩
 |met f y=>calc⟨_,x⟩
 |ext c=>let⟨_,e,_⟩:=x;calc e
def UB.keptT {h' : Heap} (x : UB P w H h) (k : ∀ b u, (∃ o, H b = some o) -> h.get? b = some u -> h'.get? b = some u) : UB P w H h' := λa o e =>
 (x a o e).VZ (λb u a q => k b u (by
  obtain z | z:=a;subst z; calc ⟨o, e⟩;calc ⟨_, z⟩) q) (λ_ q => q) λ_ _ q => q
structure Fl(P:Program)(w:World)(l:List Env)(h₀:Heap)(Sj H:Hp)(B h:Heap):Prop where
 un:Un (Wj l) [] Sj H h₀ h
 R5:UB P w H h
 fr:∀b∈Wj l,Sj b=none/\∃o,h₀.get? b=some o/\∀vs,o.data ≠ .fields vs
 cov:∀b o,h.get? b=some o->((∃u,H b=some u)∨∃ o',h₀.get? b=some o')->b∉Wj l->B.get? b=some o
section
variable{P:Program}{w:World}{l:List Env}{h₀:Heap}{Sj H:Hp}{B h h':Heap}
theorem Fl.free(F:Fl P w l h₀ Sj H B h){b:Addr}(a:b∈Wj l):H b=none:=by let⟨n,o,e,_⟩:=F.fr b a;calc F.un.free b o e n 52
def Fl.step(F:Fl P w l h₀ Sj H B h)(st:B.StaysIn h')(i:h.UpToSlots h'):Fl P w l h₀ Sj H B h':=by
 let g:∀b o,b∈Wj l->h₀.get? b=some o->∃a,h'.get? b=some {o with slots:=a}:=λb o a e=>by let⟨n,d,c,m⟩:=F.fr b a;rw[e]at c;cases c;let⟨p,f⟩:=F.un.slot b o e n a 52;let⟨k,j⟩:=i b _ f m;exact⟨k,j⟩
 let kp:∀b o,h.get? b=some o->((∃u,H b=some u)∨∃ d,h₀.get? b=some d)->b∉Wj l->h'.get? b=some o:=λb o e c n=>st b o (F.cov b o e c n)
 calc⟨⟨λb o e n a i=>kp b o (F.un.keep b o e n a i) (.inr ⟨o,e⟩) a,λb o e n a i=>g b o a e,F.un.free,λb o e i=>?_,F.un.V0,F.un.VG,F.un.Ws⟩,PD.UB.keptT F.R5 (λb u m e=>kp b u e (.inl m) λz=>?_),F.fr,λb o e c n=>?_⟩;by_cases a:b∈Wj l;let⟨k,j⟩:=g b o a e;calc⟨_,j⟩;let⟨d,f⟩:=F.un.there b o e i;calc⟨d,kp b d f (.inr ⟨o,e⟩) a⟩;let⟨o,q⟩:=m;rw[F.free z]at q;cases q;have:∃a,h.get? b=some a:=by
  rcases c with⟨u,c⟩| ⟨d,c⟩;calc PD.bG.there (F.R5 b u c);exact F.un.there b d c 52
 let⟨a,f⟩:=this;let q:=kp b a f c n;rw[e]at q;cases q;calc F.cov b o f c n
end
def CX1(P:Program)(w:World):CXT:=λa H s E e b=>∃(d c:Addr) (f:Hp) (B:Heap) (g:Value),e=.ref d/\b.os=s.os/\AllBare b.gens/\Fl P w a s.heap H f B b.heap/\av H f/\f d=none/\s.heap.get? d=none ∧
 Heap.FlyingW B a d (.ref c) g b.heap/\E (.ref c) none f
def KL:Passes (CX1 P w) X E0:=λ_ _ _ _ _ _ _ h=>by let⟨_,_,_,_,_,_,_,_,_,_,_,_,_,z⟩:=h;calc z.elim
def MadeX(X:Cx)(Ed:Value->Prop):Prop:=∀(a:yab) (b:St) (H:Hp) (W:Own) (f:Ro) (s:Shared) (e c:Addr) (g:yad) (d:Heap),Inv X a b H s->Rel X W H b f->Heap.MadeExcOf s.heap d e (.ref c) g->Ed (.ref c)->X.xe (.ref e) {s with heap:=d}
def dG(X:Cx)(Ed:Value->Prop):Prop:=∀(a:yab) (b:St) (H:Hp) (W:Own) (c:Ro) (s:Shared) (e:Value) (d:Shared),Inv X a b H s->Rel X W H b c->CX1 X.prog X.w X.stack H s (λc _ _=>Ed c) e d->X.xe e d
section
variable{P:Program}{w:World}{K:yac}{mg:yam}{base:Heap}{N:yah}{qual:Str}{sc:Scope}{f:Addr}{cd:Value}{A:Around}{outer:List Env}{RT:Shared}{Sj:Hp}{E:XK}
def zL{B:Heap}(I:Inv (c9 (CX1 P w) P w K mg base N qual sc f cd A outer RT Sj E) pins σ H s)(k:av Sj H)(j:H e=none)(g:RT.heap.get? e=none)
  (m:∀b o,s.heap.get? b=some o->((∃u,H b=some u)∨∃ a,RT.heap.get? b=some a)->b∉Wj (envOfC qual sc RT.heap.objs.size f cd::outer)->B.get? b=some o)
  (h:Heap.FlyingW B outer e (.ref c) a0 h') (i:s.heap.UpToSlots h') (l:E (.ref c) none H):CX1 P w outer Sj RT E (.ref e) {s with heap:=h'}:=by
 let p:∀b,((∃u,H b=some u)∨∃ a,RT.heap.get? b=some a)->b∉Wj outer->b∉Wj (envOfC qual sc RT.heap.objs.size f cd::outer):=λb c n z=>by
  rcases c with⟨u,c⟩| ⟨a,c⟩;have:=I.WT b z
  lia
  rcases S8.mp (I.V1 b z)with q|q;let t:=SJ c;let r:RT.heap.objs.size<=b:=by rw[q];exact I.ok.above
  lia
  exact n q
 let F:Fl P w outer RT.heap Sj H B s.heap:=⟨I.base,I.R5,λb a=>⟨I.ok.frf b a,by let⟨_,o,e,d⟩:=I.ok.Vr.mem a;calc⟨o,e,d⟩⟩,72⟩
 calc⟨e,c,H,B,a0,rfl,I.os,I.bare,F.step h.1 i,k,j,g,h,l⟩
def Qk{Ed:Value->Prop}(p:∀c a H',av Sj H'->Ed c->E c a H'):MadeX (c9 (CX1 P w) P w K mg base N qual sc f cd A outer RT Sj E) Ed:=by
 intro g x H W y s e c B h' I r c m;refine wpAny_leaves_madeW (base:=PySem.W.hideAll s.heap (Wj (envOfC qual sc RT.heap.objs.size f cd::outer))) (h:=s.heap) (outer:=outer) I.ok.frames rfl (λb o q=>PySem.W.of_hideAll _ q)
  (PySem.W.funFrames_hide I.stack λa d b h=>zDD.mpr ⟨a,d,h⟩) c λd t j _ _ i=>?_
 let l:∀{a:Heap},(∀b o,a.get? b=some o->∃h,s.heap.get? b=some h)->a.get? e=none:=fun {a} k=>by
  cases q:a.get? e with
  |none=>rfl
  |some o =>
   let⟨h,a⟩:=k e o q;rw[c.new]at a
   lia
 calc zL (s:=s) (h':=d) I r.ent ?_ (l λb o q=>I.base.there b o q 86) (λb o q _ n=>PySem.W.hideAll_get _ q n) j (λb o q d=>?_) (p _ _ _ r.ent m);cases q:H e with
 |none=>rfl
 |some u =>
  let⟨o,z⟩:=PD.bG.there (I.R5 e u q)
  cbv
 calc i b o (c.keeps b o q) d
def MC{Ed:Value->Prop}(l:∀c a H',av Sj H'->Ed c->E c a H'):dG (c9 (CX1 P w) P w K mg base N qual sc f cd A outer RT Sj E) Ed:=by
 intro d p H W t s e h I r b;let⟨e,c,H',B,x,rfl,os,a,F,sm,j,i,c,k⟩:=b;refine wpAny_leaves_onW (outer:=outer) I.ok.frames rfl c λb g c=>?_
 let m:=I.Xu os F.un F.R5 a 46;calc zL (s:=h) (h':=b) m (r.ent.trans sm) j ?_ (λb o q z n=>F.cov b o q (z.elim .inl λh=>(by let⟨a,z⟩:=h;calc .inr (I.base.there b a z (by intro q;cases q)))) n) g c (l _ _ _ (r.ent.trans sm) k);cases q:RT.heap.get? e with
 |none=>rfl
 |some o =>
  let⟨a,u⟩:=I.base.there e o q 86
  lia
end
section
variable{X:Cx}{k:Nat}{f:Addr}{fd:FuncData}{ps:yah}{sp:DSp}{x:Str}{p pos:Pos}{e:Expr}{es:yai}{t:DA}
def Pn{dds:yas}{g:yaa}(F:aG X.prog X.w X.K X.mg X.base (CX1 X.prog X.w) k f fd ps (aH X.K sp))(m:bS k X.A)(n:Binds X.K fd ps dsv)(h:Vals (dds.map tF) dsv)(hs:∀d∈dds,zd d)
 (I:Inv X pins σ H s) (a:Rel X W H σ ρ) (r:Vals vs us) (i:ah X.K W.bad H ds vs)
  (q:sp (bf ds++dds) Q Ed) (l:∀e b,CX1 X.prog X.w X.stack H s (λc _ _=>Ed c) e b->g e b):wpAny (model X.prog X.w) X.A (call (.ref f) us) (DP X pins σ W H Q) g s:=by
 let g:Vals (vs++dds.map tF) (us++dsv):=r.append h;let j:aH X.K sp (vs++dds.map tF) H (λv h=>av H h/\∃d,Den X.K W.bad h d v/\Q d) (λc _ _=>Ed c) :=
  ⟨W.bad false,bf ds++dds,Q,Ed,a.tab,a.tracked false,(ah.aU (λ_ _=>Own.X0) ds vs i).append (ah.xr hs),q,λd v h e i h=>⟨e,d,Den.back a.tracked i,h⟩,λ_ _ _ _ z=>z⟩
 let a:#[us++dsv]=#[ps]:=by rw[<- #[g]];exact F.len _ _ _ _ j
 calc wpAny_call (codeAny_mono (F.run X.A X.stack s H ⟨us,[]⟩ (us++dsv) (vs++dds.map tF) _ _ m I.env0 (n s us I.WK a) g j) λc b a=>?_);cases c with
 |error c=>calc l c b a
 |ok b =>
  cases b with
  |ret u =>
   let⟨v,j,c,g,b,d,i,h⟩:=I.after a;calc⟨v,j,d,c,g,b,i,h⟩
  |next=>calc False.elim a
  |brk=>calc False.elim a
  |cont=>calc False.elim a
end
set_option tactic.hygienic true in
def LH{K:yac}(X:K.In h)(q:PySem.W.excIn K C bmB newId=true):∃tl N nm c bs d sn sub ab col dd k0 k1 k2 k3 k5 mN,
  h.get? C=some (excClassObj nm c C N bs tl d sn sub ab col dd k0 k1 k2 k3 k5 newId)/\h.Ns N mN/\mN "__init__" = none/\OwnTail h bmB tl:=by
 unfold PySem.W.excIn at q;split at q
 next dd cd sl ho =>
  split at q
  next C' tl k0 k1 k2 k3 n k5 hm hs =>
   simp only[zCD,beq_iff_eq,Bool.not_eq_true']at q;let⟨⟨⟨⟨⟨i,f⟩,a⟩,h⟩,e⟩,b⟩:=q;subst i f;cases cd with
   |mk nm bs g f c d sn sub ab col j =>
    simp only at hm a e b;subst hm a;let a:sl=#[k0,k1,k2,k3,some (.builtin n),k5]:=by apply Array.ext';rw[hs]
    subst a;exact⟨tl,f,nm,c,bs,d,sn,sub,ab,col,dd,k0,k1,k2,k3,k5,_,X _ _ ho,.of_isNs (PySem.W.isNs_of_in X e),PySem.W.nsMap_none_of_in X e b,PySem.W.tail_of_in X h⟩
  next=>cases q
 next=>cases q
abbrev wc:yad:=[.type "ValueError", .type "Exception", .type "BaseException", .type "object"]
section
variable{X:Cx}{pos:Pos}
def Aj {e:Expr} {es:yai} (j:MadeX X Ed) (k:Gl X x) (c:X.mg x=some (.ref C)) (q:PySem.W.excIn X.K C wc "ValueError.__new__" = true) (m:X.calm=true) (n:Wz X (e::es) t)
  (f:starEach (e::es) X.env=(false,eval e X.env)::starEach es X.env:=by rfl) (TF:(backTo R7 (starEach es X.env)).any (·.1)=false:=by rfl) (u:(x==("__debug__" : Str))=false:=by decide) :
  US X (.Raise (some (.Call (.Name x np) (e::es) [] R7)) none pos) (λ_ ρ=>t ρ λg=>#[g]<=sizeLine/\Ed (.ref C)):=by
 intro a s d H W ρ E I r h;let⟨e,N,nm,i,bs,l,sn,sub,ab,col,dd,k0,k1,k2,k3,k5,mN,p,o,b,T⟩:=LH I.ok.mod.VH q;let FB:=PySem.F.excBase_ValueError;refine wpAny_Raise_call_subT (C:=C) (nm:=nm) (q:=i) (N:=N) (bs:=bs) (bm:=e) (hdct:=l) (sn:=sn) (sub:=sub) (ab:=ab) (col:=col) (dd:=dd) (k0:=k0) (k1:=k1) (k2:=k2) (k3:=k3) (k5:=k5) FB (mN:=mN) (T.hasType FB.hasBase) (I.ok.hd m)
  (by rw[f];show(false || (backTo R7 (starEach es X.env)).any (·.1))=false;lia) b (mM I k c ⟨rfl,?_⟩ u)
 let b:=n R7 a s d H W ρ _ I r h;rw[f]at b ⊢;calc Calls.evalArgs_plain (Rw b λe f l=>?_);let⟨w,m,g,b,g,k,i,z,h⟩:=l;calc⟨rfl,by rw[<- i.len,#[g]]at z;calc z,b.bk _ _ p,o.keeps b.bk,T.keeps b.bk,λg i c=>j a d m W ρ f i C e g b (r.same k) c h⟩
def tD{st:Stmt}:US X st (λ_ _=>False):=λ_ _ _ _ _ _ _ _ _ h=>h.elim
theorem Rel.wish(r:Rel X W H σ ρ)(E:yaa):Rel (X.wish E) W H σ ρ:=⟨r.val,r.own,r.inj,r.kn,r.ke,r.bt,r.st,r.ent,r.tab⟩
def Rel.Ts(r:Rel (X.wish E) W H σ ρ):Rel X W H σ ρ:=⟨r.val,r.own,r.inj,r.kn,r.ke,r.bt,r.st,r.ent,r.tab⟩
theorem Y3.Ts(h:Y3 (X.wish XE) pins W H E f s'):Y3 X pins W H E f s':=by
 let⟨b,c,d,I,a,q⟩:=h;calc⟨b,c,d,I.Ts,a,?_⟩;cases f with
 |next=>let⟨a,r,q⟩:=q;calc⟨a,r.Ts,q⟩
 |brk=>let⟨a,r,q⟩:=q;calc⟨a,r.Ts,q⟩
 |cont=>let⟨a,r,q⟩:=q;calc⟨a,r.Ts,q⟩
 |ret u=>calc q
theorem cT.nox{st:yal}{t:DS}(h:cT X.nox st t):cT X st t:=λa s b H W c E I r d =>
 VP (h a s b H W c E (I.wish _) (r.wish _) d) (λ_ _ q=>q.Ts) λ_ _ z=>False.elim z
noncomputable abbrev Cx.markX(X:Cx)(e:Value):Cx:={X with A:=X.A.mark (some e),calm:=false,xe:=λ_ _=>False}
def Inv.marked(I:Inv X pins σ H s)(e:Value):Inv (Cx.markX X e) pins σ H s :=
 have a:=I.ok
 ⟨⟨a.mod,a.kind,a.glob,a.blt,a.above,a.inj,a.has,a.Y2,(λz=>by cases z),a.frames,a.stk,a.exf,a.bs,a.bsz,a.XX,a.Zp,a.Vr,a.frf⟩,I.os,I.bare,I.base,I.loc,I.cell,I.free,I.T8,I.pin,I.R5,I.len⟩
def Inv.unmark(J:Inv (Cx.markX X e) pins σ H s)(a:X.Ok):Inv X pins σ H s :=
 ⟨a,J.os,J.bare,J.base,J.loc,J.cell,J.free,J.T8,J.pin,J.R5,J.len⟩
def Rel.marked(r:Rel X W H σ ρ)(e:Value):Rel (Cx.markX X e) W H σ ρ:=⟨r.val,r.own,r.inj,r.kn,r.ke,r.bt,r.st,r.ent,r.tab⟩
def Rel.unmark(r:Rel (Cx.markX X e) W H σ ρ):Rel X W H σ ρ:=⟨r.val,r.own,r.inj,r.kn,r.ke,r.bt,r.st,r.ent,r.tab⟩
def Inv.track(I:Inv X a σ H s)(r:H e=none)(h0:X.RT.heap.get? e=none)(i:e≠X.env.locals)(h:∀x c,X.env.cells.lookup x=some c->c≠e)(m:∀p∈X.pn++a,p.1≠e)
  (g:bG X.prog X.w (L2.upd H e o) s.heap e o):Inv X a σ (L2.upd H e o) s:=by
 calc⟨I.ok,I.os,I.bare,⟨I.base.keep,I.base.slot,λb u q n x=>?_,I.base.there,λb d q=>?_,λb u d q=>?_,λb f q=>?_⟩,I.loc,I.cell,by rw[aC (Ne.symm i)];calc I.free,λx c q=>by rw[aC (h x c q)];calc I.T8 x c q,λp q=>?_,λb u q=>?_,I.len⟩;rw[aC 35];calc I.base.free b u q n x;have:=I.base.V0 b d q;rw[aC 35]
 lia
 have:=I.base.VG b u d q;rw[aC 35]
 lia
 let⟨a,this⟩:=I.base.Ws b f q;calc⟨a,by rw[aC 35];lia⟩;let⟨l,k,j⟩:=I.pin p q;grind [aC];by_cases a:b=e;grind [aQ];rw[aC a]at q;calc(I.R5 b u q).VZ 35 (λc z=>by rw[aC 35];calc z) λc d z=>by rw[aC 35];calc z
def GL{i:Nat}{n:Str}{Q:Unit->Shared->Prop}(I:Inv X pins σ H s)(w:X.N.Nodup)(u:X.N[i]?=some n)(b:X.env.scope.names.lookup n=some .local)
  (h:∀a,Inv X pins (σ.set i none) H a->Q () a):wpAny M A (do bindName X.env n .none;unbindBehindTheSuite X.env n pos) Q E s:=by
 let⟨m,a,t⟩:=id I.loc;refine wpAny_nameGoes_keeps b a (by rw[I.ok.kind];rfl) λB v c f=>h _ ?_
 let a:∀b o,X.RT.heap.get? b=some o->b≠X.env.locals:=λb o e=>Uv (Tp (SJ e) I.ok.above)
 calc⟨I.ok,I.os,I.bare,⟨λb o e z h g=>(f.2 b (a b o e)).trans (I.base.keep b o e z h g),λb o e z h g=>?_,I.base.free,λb o e g=>?_,I.base.V0,I.base.VG,I.base.Ws⟩,⟨_,c,λj y l d k x=>?_⟩,λy c e=>?_,I.free,I.T8,λp s=>?_,λb r e=>?_,by simpa using I.len⟩;let⟨m,d⟩:=I.base.slot b o e z h g;calc⟨m,(f.2 b (a b o e)).trans d⟩;let⟨h,d⟩:=I.base.there b o e g;calc⟨h,(f.2 b (a b o e)).trans d⟩;by_cases a:j=i
 simp_all [List.getElem?_set]
 rw[Vm (Ne.symm a)]at k;let⟨g,h,q⟩:=t j y l d k x;calc⟨g,h,?_⟩;rcases q with⟨k,e⟩| ⟨k,c,e,z⟩;calc .inl ⟨k,?_⟩;have:y≠n:=λe=>a (tO w d (e ▸ u))
 lia
 calc .inr ⟨k,c,e,z.sameBut f (I.cne y c e)⟩;let⟨a,z⟩:=I.cell y c e;calc⟨a,z.sameBut f (I.cne y c e)⟩;let⟨e,z,g,h,d⟩:=I.pin p s;calc⟨(f.2 p.1 g).trans e,z,g,h,d⟩;calc(I.R5 b r e).VZ (λc a a q=>(f.2 c ?_).trans q) 35 35;intro z;obtain a|a:=a;rw[<- a,z,I.free]at e;lia;rw[z,I.free]at a;lia
def Rel.unset{i:Nat}(r:Rel X W H σ ρ)(l:i<#[σ]):Rel X (W.drop i) H (σ.set i none) (ρ.set i none):=by
 let f:∀{j:Nat} {x:Sl},(ρ.set i none)[j]?=some (some x)->j≠i/\ρ[j]?=some (some x):=fun {j x} h=>by by_cases b:j=i;subst b;rw[List.getElem?_set]at h;simp at h;rw[Vm (Ne.symm b)]at h;exact⟨b,h⟩
 let g:∀{j:Nat} {a:Addr},(W.drop i).O j=some a->j≠i/\W.O j=some a:=fun {j a} h=>by let c:(if j=i then none else W.O j)=some a:=h;by_cases d:j=i;rw[Rr d]at c;cases c;rw[if_neg d]at c;exact⟨d,c⟩
 calc⟨λj d h=>?_,λj m h=>?_,λj k a e c=>r.inj j k a (g e).2 (g c).2,λj a h=>r.kn j a (g h).2,λj a h=>r.ke j a (g h).2,r.bt,r.st,r.ent,r.tab⟩;let⟨b,h⟩:=f h;let⟨v,e,c⟩:=r.val j d h;calc⟨v,by rw[Vm (Ne.symm b)];calc e,c.R9 λ_ _=>Own.Sv⟩;let⟨b,h⟩:=f h;let⟨a,d,e,c,g,f⟩:=r.own j m h;calc⟨a,d,by show(if j=i then none else W.O j)=_;rw[if_neg b];calc e,by rw[Vm (Ne.symm b)];calc c,g,by rw[zCN];calc f.R9 (λ_ _=>Own.Sv) (Own.V3 l)⟩
def IJ(K:yac)(C:Addr)(i:Nat)(sp:DSp)(t:DA)(a:DS):DS:=λE b=>t b λc=>sp (bf c) (λ_=>E.nx b) λd=>∃c,d=.ref c/\eE K c/\PySem.W.exmOne K (.ref c) (.ref C)=some true ∧
 a ⟨λa=>E.nx (a.set i none),E.rt,λa=>E.bk (a.set i none),λa=>E.ct (a.set i none)⟩ (b.set i (some (.val (.exc c))))
def Oc{n:Str}{a:Pos}{e:Expr}{es:yai}{c:Stmt}{d:yal}(i:Nat)(F:aG X.prog X.w X.K X.mg X.base (CX1 X.prog X.w) k f fd ps (aH X.K sp))(m:bS k X.A)(q:X.mg g=some (.ref f))(r:PySem.W.keepIn X.K (.ref f)=true)(y:Binds X.K fd ps [])
  (hN:X.N.Nodup) (J:X.mg x=some (.ref C)) (z:Wz X.nox (e::es) t) (G:∀v,cT (Cx.markX X v) (c::d) su) (b:Gl X g:=by rfl) (L:Gl X x:=by rfl) (l:X.N[i]?=some n:=by rfl) (Q:X.env.scope.names.lookup n=some .local:=by rfl)
  (M:X.ex=[]:=by rfl) (w:X.stack=X.env::X.outer:=by rfl) (o:X.env.frame=some X.env.locals:=by rfl) (B:(g==("__debug__" : Str))=false:=by decide) (N:(x==("__debug__" : Str))=false:=by decide) (u:starEach (e::es) X.env=(false,eval e X.env)::starEach es X.env:=by rfl) (T:(backTo cp (starEach es X.env)).any (·.1)=false:=by rfl)
  (hs:swapsWith (.Call (.Name g p) (e::es) [] cp) none a.line X.env=pure false:=by rfl) :
  US X (.Try [.Expr (.Call (.Name g p) (e::es) [] cp) a] [.ExceptHandler (some (.Name x np)) (some n) (c::d) U] [] [] pos) (IJ X.K C i sp t su):=by
 intro a s j H W A E I c h;calc wpAny_Try_except (zCj (wpAny_Expr_any (Z8 (mM I b q ?_ B)) I.quiet hs));calc PySem.W.callWith_K (h₀:=X.base) I.ok.mod.VH r (VP (z cp a s j H W A _ (I.wish _) (c.wish _) h) (λus s1 ⟨vs,H1,ds,e,r,O,b,q⟩=>⟨e.Ts.WK,?_⟩) λ_ _ z=>False.elim z) u T;let e:=e.Ts;let h:=c.same O;let C:i<#[j]:=Inv.X2 I l;refine VP (Pn (dds:=[]) (dsv:=[]) F m y .nil 52 e h r b (by rw[Yx];calc q) λer y m=>?_) (λu s2 c=>(by let⟨v,f,d,d,r2,b,hd2,r⟩:=c;calc wpAny_execs_nil (wpAny_execs_nil ⟨W,j,f,d,Sm.same (O.trans b),A,h.same b,r⟩))) λ_ _ z=>z
 let⟨d,c,n,B,a0,rfl,os,g,Ff,sm,Y,f,k,c',b,xk,E,u⟩:=m;cases b;let b:X.A.frames=some (X.env::X.outer):=by rw[<- w];exact I.ok.frames
 rw[w]at k;refine wpAny_looks_onW b o k λh4 b s=>wpAny_landsW b λt o k=>?_
 let T:=(Ff.step b.1 s).step o.1 k;let I5:Inv X a j n {y with heap:=t}:=e.Xu os T.un T.R5 g (by intro b z;cases z);let k:∀{s:Heap},Heap.FlyingW B (X.env::X.outer) d (.ref c) a0 s->ExcAt d c s:=fun {s} x=>by let⟨t,w,s,r,B,_⟩:=x.first;exact⟨t,w,s,r,B⟩
 calc wpAny_handleBy_cons (codeAny_handlers_test (mM (Inv.marked I5 (.ref d)) L J ?_ N)) (by intro q;cases q);calc(PySem.W.exm_one I5.WK (ExcAt.ty (k o)) E).here ?_;calc codeAny_handlers_suite_as (lands_againW o λo x J=>?_);let E:=T.step x.1 J;let J:Inv X a j n {y with heap:=o}:=e.Xu os E.un E.R5 g (by intro b z;cases z);let g:Inv X a j (L2.upd n d (.ext (ExcAt d c))) {y with heap:=o}:=by
  calc Inv.track J Y ?_ ?_ (λy c' q z=>?_) (λp U z=>?_) ⟨k x,?_,λh1 h2 q z=>?_⟩;cases q:X.RT.heap.get? d with
  |none=>rfl
  |some o =>
   by_cases m:d∈X.ex;rw[M]at m;cases m;let⟨o',b⟩:=e.base.there d o q m;rw[f]at b;cases b
  intro z;let⟨m,⟨o,_,_,q,_⟩,_⟩:=e.loc;rw[<- z,f]at q;cases q;let⟨w',o,b,_⟩:=e.cell y c' q;rw[z,f]at b;cases b;have:=(e.pin p U).1;rw[z,f]at this;cases this;let⟨t,w,s,_⟩:=k x;calc⟨t,s⟩;let⟨t,w,s,r,B⟩:=q;exact⟨t,w,z _ s,r,B⟩
 let b:av n (L2.upd n d (.ext (ExcAt d c))):=av.upd Y;calc dP (X:=Cx.markX X (.ref d)) (v:=.ref d) (Inv.marked g (.ref d)) hN l (.inl Q) rfl (λf g=>?_) (.inr Q);let e:Rel X (W.drop i) (L2.upd n d (.ext (ExcAt d c))) (j.set i (some (.ref d))) (A.set i (some (.val (.exc c)))):=((h.same sm).same b).put C (Den.exc aQ xk);refine VP (G (.ref d) a f _ _ _ _ _ g (Rel.marked e _) u) (λf s8 c=>?_) λ_ _ z=>False.elim z
 let⟨a,σ8,d,e,h,c⟩:=c;let g:Sm W H (a.drop i) d:=(Sm.same ((O.trans sm).trans b)).trans ((Sm.drop W _ i).trans (h.trans (Sm.drop a d i)));refine GL (Inv.unmark e I.ok) hN l Q λs9 b=>⟨a.drop i,_,d,b,g,?_⟩
 cases f with
 |next=>let⟨d,a,b⟩:=c;calc⟨_,(Rel.unmark a).unset (Inv.X2 (Inv.unmark e I.ok) l),b⟩
 |brk=>let⟨d,a,b⟩:=c;calc⟨_,(Rel.unmark a).unset (Inv.X2 (Inv.unmark e I.ok) l),b⟩
 |cont=>let⟨d,a,b⟩:=c;calc⟨_,(Rel.unmark a).unset (Inv.X2 (Inv.unmark e I.ok) l),b⟩
 |ret v=>let⟨d,f,a,e,b⟩:=c;calc⟨d,f,a,e.R9 λ_ _=>Own.Sv,b⟩
def NP(K:yac)(c:Value)(te:DE):DE:=λa Q=>te a λd=>∃b,PySem.W.kitOne K (tyV d) c=some b/\Q (.bl b)
def jO {p:Pos} {c:Value} (G:Gl X "isinstance") (E:X.mg "isinstance" = none) (C:PE X (.Name x p') (tC cv)) (y:∀u,RelV cv u->u=c) (J:RU X e te)
  (o:starEach [e,.Name x p'] X.env=(false,eval e X.env)::starEach [.Name x p'] X.env:=by rfl) (M:starEach [.Name x p'] X.env=(false,eval (.Name x p') X.env)::starEach [] X.env:=by rfl) (g:(backTo pos (starEach [.Name x p'] X.env)).any (·.1)=false:=by rfl) :
  RU X (.Call (.Name "isinstance" p) [e,.Name x p'] [] pos) (NP X.K c te):=by
 intro f s r H W t Q I a h;let k:PA X [e,.Name x p'] (rV (Ek X te) (rV (tC cv) E4)):=gI J.pe (gI C mT M) o;calc Z8 (di I G E boot_isinstance ?_ 29 29);calc PyProof.Rows.callWith_builtin1 (Rw (k pos f s r H (λn i=>∃v d,n=[v,cv]/\av H i/\Den X.K W.bad i d v/\∃b,PySem.W.kitOne X.K (tyV d) c=some b/\Q (.bl b)) I ⟨W,t,_,a,h,λv i d m l j=>⟨v,d,rfl,m,l,j⟩⟩) λO T N=>?_) o g;let⟨n,i,q,w,v,d,L,m,l,b,B,j⟩:=N;subst L;cases w with
 |cons A a =>
  cases a with
  |cons z a =>
   cases a;have:=y _ z;subst this;calc Ay q l A B λu=>⟨.bl _,i,_,q.tok u,rfl,m,Den.bl _,j⟩
end
def Ds(base:Heap)(l:List Env)(e:Addr)(cls a0:Value)(h:Heap):Prop:=base.StaysIn h/\base.get? e=none/\h.FunFrames base l/\∃a,h.TracedAtW base e cls a0 a
section
variable{M:Model}{A:Around}{E:yaa}{s:Shared}{base:Heap}{l outer:List Env}{env:Env}{e L:Addr}{cls a0:Value}
def Mh{Q:Unit->Shared->Prop}(d:A.frames=some (env::outer))(f:env.frame=some L)(R:Ds base (env::outer) e cls a0 s.heap)
  (h:∀h',Ds base (env::outer) e cls a0 h'->s.heap.UpToSlots h'->Q () {s with heap:=h'}):wpAny M A (noteFrame (.ref e) env) Q E s:=by
 let⟨y,m,x,r,u,c,T,w,t,i,q,g3,o,z,p,g,b,n⟩:=id R;by_cases a:(r==rawInt L)=true;let j:r=rawInt L:=46
 subst j;calc wpAny_noteFrame_againW (base:=base) (cls:=cls) (a0:=a0) f ⟨u,c,T,w,t,i,q,g3,o,z,p,g,b,n⟩ (h _ R (Heap.UpToSlots.refl _));let⟨r,j⟩:=q;subst r;ext noteFrame;simp only[f];calc Rm (VY i g3 o ?_);calc Rm (VY g b n ?_);rw[if_neg a];calc Rm (zDT g b 72 ?_);let g:∀b,b≠T->(s.heap.update T (Obj.mapFields (·.setIfInBounds 3 Value.none))).get? b=s.heap.get? b:=λb a=>Ze _ _ (Ne.symm a)
 let k:∀b o,s.heap.get? b=some o->(∀c,o.data ≠ .fields c)->b≠T:=λb o a c q=>46
 refine wpAny_entryW (base:=base) d (x.of_keeps 46) f ((g e (Ne.symm p)).trans i) (λb o a=>(g b 35).trans (y b o a)) m g3 72 j λh' j=>?_
 let⟨i,g,f,d⟩:=j;calc h h' ⟨i,m,g,_,f⟩ λb o a c=>d b o 46 c
def Jm{Q:Unit->Shared->Prop}(a:A.frames=some (env::outer))(b:env.frame=some L)(R:Ds base (env::outer) e cls a0 s.heap)
  (h:∀h',Heap.FlyingW base outer e cls a0 h'->s.heap.UpToSlots h'->Q () {s with heap:=h'}):wpAny M A (leaving env (.ref e)) Q E s:=by
 calc Rm (Mh a b R λj f b=>?_);let⟨d,g,c,k,a⟩:=f;refine wpAny_setFlight_noneW (base:=base) d c a λi f a d c=>?_
 let⟨_,_,a⟩:=a;calc h i ⟨f,g,a,d⟩ (b.trans λb o d a=>⟨o.slots,c b o d a⟩)
end
def DI(X:Cx)(Ed:Value->Prop):Prop:=∀(b:yab) (f:St) (H:Hp) (W:Own) (g:Ro) (s a:Shared) (d c:Addr) (e:Hp) (B:Heap) (h:Value),Inv X b f H s->Rel X W H f g->a.os=s.os->AllBare a.gens->Fl X.prog X.w X.stack s.heap H e B a.heap->av H e->e d=none->s.heap.get? d=none →
 Ds B X.stack d (.ref c) h a.heap->Ed (.ref c)->X.xe (.ref d) a
section
variable{P:Program}{w:World}{K:yac}{mg:yam}{base:Heap}{N:yah}{qual:Str}{sc:Scope}{f:Addr}{cd:Value}{A:Around}{outer:List Env}{RT:Shared}{Sj:Hp}{E:XK}
def Qg{Ed:Value->Prop}(l:∀c a H',av Sj H'->Ed c->E c a H'):DI (c9 (CX1 P w) P w K mg base N qual sc f cd A outer RT Sj E) Ed:=by
 intro d p H W t s h e c H' B x I r os a F sm j i R k;refine Jm (outer:=outer) I.ok.frames rfl R λb g c=>?_
 let m:=I.Xu os F.un F.R5 a 46;calc zL (s:=h) (h':=b) m (r.ent.trans sm) j ?_ (λb o q z n=>F.cov b o q (z.elim .inl λh=>(by let⟨a,z⟩:=h;calc .inr (I.base.there b a z (by intro q;cases q)))) n) g c (l _ _ _ (r.ent.trans sm) k);cases q:RT.heap.get? e with
 |none=>rfl
 |some o =>
  let⟨a,u⟩:=I.base.there e o q 86
  lia
end
section
variable{P:Program}{w:World}{K:yac}{mg:yam}{base:Heap}
structure aw(K:yac)(x qual:Str)(st:Stmt)(f:Addr)(fd:FuncData):Prop where
 ex:∃(oc:Value) (od:Option Addr) (dV kV doc pm:Value) (an:Option Addr) (T9 ct:Value) (osl:Array (yan)),
  fd=PySem.W.fnOf x qual (dg st) (cn st) (ao st) dV kV doc pm an T9 ct/\K.lookup f=some ⟨oc,od,.func fd,osl⟩/\PySem.W.codeIn K T9 qual=true
 kp:PySem.W.keepIn K (.ref f)=true
def aw.okC{x a:Str}{st:Stmt}{f:Addr}{d:FuncData}{N ps:yah}{k:Nat}{sp:DSp}(F:aw K x a st f d)(S:ay N ps (ao st))(j:∀b Q E,sp b Q E->#[b]=#[ps])
  (o:∀(c:Value),d.code=c->∀(A:Around) (outer:List Env) (s:Shared) (H:Hp) (E:XK) (Ed:Value->Prop),bS k (A.deeper (envOfC a (ao st) s.heap.objs.size f c))->MadeX (c9 (CX1 P w) P w K mg base N a (ao st) f c A outer s H E) Ed->dG (c9 (CX1 P w) P w K mg base N a (ao st) f c A outer s H E) Ed->DI (c9 (CX1 P w) P w K mg base N a (ao st) f c A outer s H E) Ed →
   ∃ t,cT (c9 (CX1 P w) P w K mg base N a (ao st) f c A outer s H E) (cn st) t/\∀b Q,sp b Q Ed->t {nx:=λ_=>Q .RZ,rt:=Q} (cG N b)):aG P w K mg base (CX1 P w) (k+1) f d ps (aH K sp):=by
 let⟨B,y,C,kV,p,u,I,c,G,i,rfl,lk,a⟩:=F.ex;refine Kz lk a S (λa H Q E h=>?_) λA outer s H a Q E l h=>?_
 let⟨_,b,_,_,_,_,d,e,_⟩:=h;rw[d.len];grind;let⟨r,b,q,Ed,m,n,d,e,g,a⟩:=h;let⟨t,h,k⟩:=o c rfl A outer s H E Ed l (Qk a) (MC a) (Qg a);calc⟨_,h.ps,⟨r,λ_=>none,λa=>∃o,H a=some o⟩,_,_,Rel.start n d rfl m,k b q e,λb R6 c Rq f r q=>?_,λb c v d f h q=>?_,λ_ _ _ _ _ _ q=>q,λ_ _ _ _ _ _ q=>q⟩;calc g .RZ .RZ c ⟨λb o e n=>f.kp b o 35 e n,f.tb,f.ok⟩ Den.RZ q;calc g d v c ⟨λb o e n=>f.kp b o 35 e n,f.tb,f.ok⟩ (h.R9 λt a z=>?_) q;obtain z|z:=z;calc .inl (by rw[f.B];calc z);calc .inr (.inr ⟨z.1,by rw[f.S];calc z.2⟩)
def aw.okX{x a:Str}{st:Stmt}{f:Addr}{e:FuncData}{N ps:yah}{k:Nat}{sp:DSp}(F:aw K x a st f e)(S:ay N ps (ao st))(d:∀c Q E,sp c Q E->#[c]=#[ps])
  (g:∀(b:Value) (A:Around) (outer:List Env) (s:Shared) (H:Hp) (E:XK) (Ed:Value->Prop),bS k (A.deeper (envOfC a (ao st) s.heap.objs.size f b))->MadeX (c9 (CX1 P w) P w K mg base N a (ao st) f b A outer s H E) Ed->dG (c9 (CX1 P w) P w K mg base N a (ao st) f b A outer s H E) Ed->DI (c9 (CX1 P w) P w K mg base N a (ao st) f b A outer s H E) Ed →
   ∃ t,cT (c9 (CX1 P w) P w K mg base N a (ao st) f b A outer s H E) (cn st) t/\∀c Q,sp c Q Ed->t {nx:=λ_=>Q .RZ,rt:=Q} (cG N c)):aG P w K mg base (CX1 P w) (k+1) f e ps (aH K sp):=aw.okC F S d λb _=>g b
def aw.okN{x a:Str}{st:Stmt}{f:Addr}{e:FuncData}{N ps:yah}{k:Nat}{sp:DSp}(F:aw K x a st f e)(S:ay N ps (ao st))(d:∀b Q E,sp b Q E->#[b]=#[ps])
  (g:∀(c:Value) (A:Around) (outer:List Env) (s:Shared) (H:Hp) (E:XK),bS k (A.deeper (envOfC a (ao st) s.heap.objs.size f c)) →
   ∃ t,cT (c9 (CX1 P w) P w K mg base N a (ao st) f c A outer s H E).nox (cn st) t/\∀b Q Ed,sp b Q Ed->t {nx:=λ_=>Q .RZ,rt:=Q} (cG N b)):aG P w K mg base (CX1 P w) (k+1) f e ps (aH K sp) :=
 aw.okX F S d λc A outer s H E Ed d _ _ _=>by let⟨t,a,k⟩:=g c A outer s H E d;calc⟨t,a.nox,λb Q h=>k b Q Ed h⟩
def rC{x a:Str}{st:Stmt}{f:Addr}{n:Value}{m j:Option Addr}{d:Array (yan)}{h kV b g e i:Value}(l:K.lookup f=some ⟨n,m,.func (PySem.W.fnOf x a (dg st) (cn st) (ao st) h kV b g j e i),d⟩)
  (c:PySem.W.codeIn K e a=true) (k:PySem.W.keepIn K (.ref f)=true):aw K x a st f (PySem.W.fnOf x a (dg st) (cn st) (ao st) h kV b g j e i):=⟨72,k⟩
end
open PySem PySem.Spec PyProof.Rows L2
def SN(P:Program)(w:World)(K:yac)(a:yam)(base:Heap)(x:Str)(k:Nat)(ps:yah)(sp:DSp):Prop :=
 ∃ f b,aG P w K a base (CX1 P w) k f b ps (aH K sp)/\a x=some (.ref f)/\PySem.W.keepIn K (.ref f)=true/\Binds K b ps []
section
variable{X:Cx}{k:Nat}{ps:yah}{sp:DSp}{x:Str}{p pos:Pos}{e:Expr}{es:yai}{t:DA}
def Lu (h:SN X.prog X.w X.K X.mg X.base x k ps sp) (a:bS k X.A) (i:Wz X (e::es) t) (d:Gl X x:=by rfl) (j:(x==("__debug__" : Str))=false:=by decide)
  (g:starEach (e::es) X.env=(false,eval e X.env)::starEach es X.env:=by rfl) (l:(backTo pos (starEach es X.env)).any (·.1)=false:=by rfl):RU X (.Call (.Name x p) (e::es) [] pos) (uH sp [] t):=by
 let⟨f,m,F,b,c,f⟩:=h;calc Ab (dds:=[]) (dsv:=[]) F a d b c f .nil 52 KL i j g l
def aq (h:SN X.prog X.w X.K X.mg X.base x k ps sp) (a:bS n X.A) (f:Wz X (e::es) t) (b:k<=n:=by decide) (c:Gl X x:=by rfl) (g:(x==("__debug__" : Str))=false:=by decide)
  (d:starEach (e::es) X.env=(false,eval e X.env)::starEach es X.env:=by rfl) (i:(backTo pos (starEach es X.env)).any (·.1)=false:=by rfl):RU X (.Call (.Name x p) (e::es) [] pos) (uH sp [] t):=Lu h (a.mono b) f c g d i
def Ly{n:Str}{f:Pos}{m:Stmt}{o:yal}(i:Nat)(h:SN X.prog X.w X.K X.mg X.base x k ps sp)(q:bS k X.A)(w:X.N.Nodup)(b:X.mg y=some (.ref C))(u:Wz X.nox (e::es) t)(a:∀v,cT (Cx.markX X v) (m::o) su)
  (d:Gl X x:=by rfl) (c:Gl X y:=by rfl) (r:X.N[i]?=some n:=by rfl) (z:X.env.scope.names.lookup n=some .local:=by rfl)
  (g:X.ex=[]:=by rfl) (B:X.stack=X.env::X.outer:=by rfl) (j:X.env.frame=some X.env.locals:=by rfl) (A:(x==("__debug__" : Str))=false:=by decide) (l:(y==("__debug__" : Str))=false:=by decide) (s:starEach (e::es) X.env=(false,eval e X.env)::starEach es X.env:=by rfl) (E:(backTo cp (starEach es X.env)).any (·.1)=false:=by rfl)
  (hs:swapsWith (.Call (.Name x p) (e::es) [] cp) none f.line X.env=pure false:=by rfl) :
  US X (.Try [.Expr (.Call (.Name x p) (e::es) [] cp) f] [.ExceptHandler (some (.Name y np)) (some n) (m::o) hp] [] [] pos) (IJ X.K C i sp t su):=by
 let⟨f,G,F,f,m,n⟩:=h;calc Oc i F q f m n w b u a d c r z g B j A l s E hs
end
theorem NL{CX:CXT}{P:Program}{w:World}{K:yac}{c:yam}{base:Heap}{N:yah}{a:Str}{b:Scope}{f:Addr}{d:Value}{A:Around}{outer:List Env}{s:Shared}{H:Hp}{E:XK}:(c9 CX P w K c base N a b f d A outer s H E).K=K:=rfl
theorem M9(c:Addr):tyV (.exc c)=.ref c:=rfl
theorem Gr(c:Addr):iX (.exc c)=false:=rfl
def kex{K:yac}{t c:Value}{b:Bool}(h:PySem.W.kitOne K t c=some b)(R:Bool->Prop):(∃a,PySem.W.kitOne K t c=some a/\R a)=R b:=72
def vP:DSp:=λb Q _=>∃a:yaf,b=[.lst false (a.map .int)]/\#[a]<=63/\Q (.bl true)
theorem xY{K:yac}{P:yak}{H:Hp}:∀ns:yaf,ah K P H (ns.map D.int) (ns.map V.int)
 |[]=>ah.nil
 |n::r=>ah.cons (Den.int n) (xY r)
def ON{K:yac}{H:Hp}{a:Addr}{ns:yaf}(b:#[ns]<=63)(e:SqL K H a (ns.map V.int))(c:ig K H):aH K vP [.ref a] H (λv _=>v=.bl true) λ_ _ _=>False :=
 ⟨λ_=>False,[.lst false (ns.map D.int)],λd=>d=.bl true,λ_=>False,c,35,ah.one (Den.lst 35 (.any e) (xY ns)),⟨ns,rfl,b,rfl⟩,λd v H' _ a e=>by subst e;calc a.Zw,λ_ _ _ _ z=>z.elim⟩
def walk{l:PySem.W.OpenLaw}{q:Program}{a:yah}{n:(yam)->Heap->Prop}{i:World->Heap->Prop}{d:DefRec}{K:Params->yac}{k:Nat}{x:Str}(o:l.most=some 63)(c:d.params.defaults=[])(m:bS k callerA)
  (p:∀(w:World) (h:Heap),i w h->(K w.params).In h) (A:∀w:World,tabOf (K w.params)=none)
  (F:∀(w:World) (b:yam) (g:Addr) (h:Heap),(K w.params).In h->h.Ns mainGlobals b->b d.name=some (.ref g) →
   ∃ e:FuncData,(∀(s:Shared) (u:Value),BindsTo s e ⟨[u],[]⟩ [(x,u)])/\∀base:Heap,(K w.params).In base->base.Ns mainGlobals b->aG l.prog w (K w.params) b base (CX1 l.prog w) k g e [x] (aH (K w.params) vP)) :
  PySem.W.WalkO q a n i l.row.toRowW d [] (λf j=>PySem.call f j) :=
 L2.Nb (n:=63) (k:=k) (x:=x) (CX:=λw=>CX1 l.prog w) (sp:=λw=>aH (K w.params) vP) o 29 c m p F (λw _ a y a c b=>ON a b ⟨λP t e=>(by obtain z|⟨o,r,z⟩:=c P<;>rw[z]at e<;>cases e),72⟩) λ_ _ _ _ _ z=>by let⟨_,_,_,_,_,_,_,_,_,_,_,_,_,q⟩:=z;lia
def at0{b:Type}(a:b)(r:List b):T7 (a::r) 0=some a:=bU (j:=0) rfl
def at1{c:Type}(a b:c)(r:List c):T7 (a::b::r) 1=some b:=bU (j:=1) rfl
def at2{d:Type}(a b c:d)(r:List d):T7 (a::b::c::r) 2=some c:=bU (j:=2) rfl
def at3{e:Type}(a b c d:e)(r:List e):T7 (a::b::c::d::r) 3=some d:=bU (j:=3) rfl
def JU(a:yas)(i:Int)(Q:D->Prop):dA (.tup a) (.int i) Q=∃d,T7 a i=some d/\Q d:=uX a i Q
def A0(t:Bool)(a:yas)(i:Int)(Q:D->Prop):dA (.lst t a) (.int i) Q=∃d,T7 a i=some d/\Q d:=uX a i Q
section
variable{a b c d:D}{r:yas}{t:Bool}{Q:D->Prop}
theorem rx0:dA (.tup (a::r)) (.int 0) Q=Q a:=rfl
theorem rx1:dA (.tup (a::b::r)) (.int 1) Q=Q b:=rfl
theorem rx2:dA (.tup (a::b::c::r)) (.int 2) Q=Q c:=rfl
theorem rx3:dA (.tup (a::b::c::d::r)) (.int 3) Q=Q d:=rfl
theorem lx0:dA (.lst t (a::r)) (.int 0) Q=Q a:=rfl
theorem lx1:dA (.lst t (a::b::r)) (.int 1) Q=Q b:=rfl
theorem lx2:dA (.lst t (a::b::c::r)) (.int 2) Q=Q c:=rfl
theorem lx3:dA (.lst t (a::b::c::d::r)) (.int 3) Q=Q d:=rfl
end
theorem qU(i:Int):aU (.int i)=.int i:=rfl
theorem Kd(b:Bool):aU (.bl b)=.bl b:=rfl
theorem yC:aU .RZ=.RZ:=rfl
theorem HR(x:Str):aU (.str x)=.str x:=rfl
theorem HQ(c:Addr):aU (.exc c)=.exc c:=rfl
theorem HS(a:yas):aU (.tup a)=.tup (bf a):=rfl
theorem qV(t:Bool)(a:yas):aU (.lst t a)=.lst false (bf a):=rfl
theorem E8:bf []=[]:=rfl
theorem Ci(d:D)(a:yas):bf (d::a)=aU d::bf a:=rfl
theorem cI{a:Type}(f:a->D)(h:∀x,aU (f x)=f x):∀xs:List a,bf (xs.map f)=xs.map f
 |[]=>by rw[zDh,bf]
 |x::r=>by rw[Vq,bf,h,cI f h r]
def mB(ns:yaf):bf (ns.map D.int)=ns.map D.int:=cI _ qU ns
theorem C5(C:Int->Int->Prop)(g:Int->Int->D)(i j:Int)(Q:D->Prop):rdI C g (.int i) (.int j) Q=(C i j/\Q (g i j)):=rfl
theorem iB(g:Int->Int->D)(i j:Int)(Q:D->Prop):fH g (.int i) (.int j) Q=Q (g i j):=rfl
theorem NZ(d:D)(r:Ro)(Q:D->Prop):de 0 (some (.val d)::r) Q=Q d:=rfl
theorem N1(n:Nat)(x:Option Sl)(r:Ro)(Q:D->Prop):de (n+1) (x::r) Q=de n r Q:=rfl
theorem QC(x y:Option Sl)(r:Ro):List.set (x::r) 0 y=y::r:=rfl
theorem QD(n:Nat)(x y:Option Sl)(r:Ro):List.set (x::r) (n+1) y=x::List.set r n y:=rfl
def Qb(k:Bool)(R:Bool->Prop):(∃c,(D.bl k)=.bl c/\R c)=R k:=by apply propext;constructor;rintro⟨c,e,q⟩;cases e;calc q;intro q;calc⟨k,rfl,q⟩
def Oj(k:Int)(R:Int->Prop):(∃c,(D.int k)=.int c/\R c)=R k:=by apply propext;constructor;rintro⟨c,e,q⟩;cases e;calc q;intro q;calc⟨k,rfl,q⟩
def LG{a:Type}(k:a)(R:a->Prop):(∃c,some k=some c/\R c)=R k:=by apply propext;constructor;rintro⟨c,e,q⟩;cases e;calc q;intro q;calc⟨k,rfl,q⟩
def XA(a b c:D):#[([a,b,c]:yas)]<=sizeLine:=by simp_all [Tq]
def Y6(a b:D):#[([a,b]:yas)]<=sizeLine:=by simp_all [Tq]
theorem ZD(a:D):#[([a]:yas)]<=sizeLine:=by simp_all [Tq]
theorem sz4(a b c d:D):#[([a,b,c,d]:yas)]<=sizeLine:=by simp_all [Tq]
def Mb(t:Bool)(xs:yas)(R:yas->Prop):(∃ys,((∃t',[D.lst t xs]=[.lst t' ys]) ∨ [D.lst t xs]=[.tup ys])/\R ys)=R xs:=by
 apply propext;constructor;rintro⟨c,e,q⟩;rcases e with⟨_,e⟩| e;cases e;calc q;cases e;intro q;calc⟨xs,.inl ⟨t,rfl⟩,q⟩
def Mc(xs:yas)(R:yas->Prop):(∃ys,((∃t',[D.tup xs]=[.lst t' ys]) ∨ [D.tup xs]=[.tup ys])/\R ys)=R xs:=by
 apply propext;constructor;rintro⟨c,e,q⟩;rcases e with⟨_,e⟩| e;cases e;cases e;calc q;intro q;calc⟨xs,.inr rfl,q⟩
def O8(a b:D)(R:D->D->Prop):(∃d e,[a,b]=[d,e]/\R d e)=R a b:=by apply propext;constructor;rintro⟨_,_,e,q⟩;cases e;calc q;intro q;calc⟨a,b,rfl,q⟩
theorem L5 (a:yas):isT "tuple" (.tup a)=true:=rfl
theorem L0 (t:Bool) (a:yas):isT "list" (.lst t a)=true:=rfl
theorem Gy (a:yas):isT "list" (.tup a)=false:=rfl
theorem LZ (i:Int):isT "int" (.int i)=true:=rfl
theorem Eh (i:Int):isT "bool" (.int i)=false:=rfl
theorem Gw:iX .RZ=true:=rfl
theorem Gx(a:yas):iX (.tup a)=false:=rfl
theorem Gv(t:Bool)(a:yas):iX (.lst t a)=false:=rfl
theorem Gu(i:Int):iX (.int i)=false:=rfl
def CY(i:Int):okD (.int i):=by ext okD;rw[UK,X1]<;>first|calc⟨rfl,rfl⟩| (intros;contradiction)
def Mm:okD .RZ:=by ext okD;rw[UK,X1]<;>first|calc⟨rfl,rfl⟩| (intros;contradiction)
def OX(a b c:Int):okD (.tup [.int a,.int b,.int c]):=by calc⟨rfl,rfl⟩
def F9(a b c x y z:Int):eqD (.tup [.int a,.int b,.int c]) (.tup [.int x,.int y,.int z])=(decide (a=x) && (decide (b=y) && decide (c=z))):=by ext eqD;simp only[UK,dq,PyData.eqv,PyData.eqvAll,Bool.and_true];rfl
noncomputable abbrev T3(a b c:Int):D:=.tup [.int a,.int b,.int c]
def CD.lit{n:Int}(h:n≠0/\n.natAbs<2 ^ 64:=by decide):CD i n:=⟨h.1,Tp h.2 (zC2 29 29)⟩
def MR(a b:Int)(R:Int->Int->Prop):(∃i j:Int,[D.int a,D.int b]=[.int i,.int j]/\R i j)=R a b:=by apply propext;constructor;rintro⟨_,_,e,q⟩;cases e;calc q;intro q;calc⟨a,b,rfl,q⟩
def MQ(a:Int)(R:Int->Prop):(∃i:Int,[D.int a]=[.int i]/\R i)=R a:=by apply propext;constructor;rintro⟨_,e,q⟩;cases e;calc q;intro q;calc⟨a,rfl,q⟩
def Iu{ns:yaf}{k:Int}(h0:0<=k)(b:k<#[ns]):T7 (ns.map D.int) k=some (.int (ns.getD k.toNat 0)):=by
 let e:k=((k.toNat:Nat):Int):=35
 let a:k.toNat<#[ns]:=35
 let q:T7 (ns.map D.int) ((k.toNat:Nat):Int)=some (.int (ns.getD k.toNat 0)):=bU (by simp[UR,T5 a,Wo]);rw[<- e]at q;calc q
def BO{xs ys:yaf}(h:xs.map D.int=ys.map D.int):xs=ys:=by
 induction xs generalizing ys with
 |nil=>cbv
 |cons x r ih=>cases ys with
  |nil=>simp at h
  |cons y q =>
   grind
def Ee(n:Nat)(t:DGs)(a:yas)(h:#[a]=n)(ρ:Ro)(Q:Ro->Prop):k9 n t (.tup a) ρ Q=t a ρ Q:=by
 apply propext;ext k9;constructor;rintro⟨Y7,e,_,h⟩;obtain e|⟨_,e⟩:=e;cases e;calc h;cases e;intro q;calc⟨a,.inl rfl,h,q⟩
def gdc(g:DG)(u:DGs)(x:D)(r:yas)(ρ:Ro)(Q:Ro->Prop):b9 g u (x::r) ρ Q=g x ρ λa=>u r a Q:=by
 apply propext;ext b9;constructor
 cbv
 intro h;calc⟨x,r,rfl,h⟩
def gdn(ρ:Ro)(Q:Ro->Prop):k8 [] ρ Q=Q ρ:=by ext k8;simp
def Oz(i h g3 g:DG)(a b c d:D)(ρ:Ro)(Q:Ro->Prop):k9 4 (b9 i (b9 h (b9 g3 (b9 g k8)))) (.tup [a,b,c,d]) ρ Q=i a ρ λf=>h b f λe=>g3 c e λj=>g d j Q:=by
 (first|rw[Ee 2 _ _ rfl]|rw[Ee 4 _ _ rfl]);simp only[gdc,gdn]
section
variable{X:Cx}{pos:Pos}
def Rel.putG{i:Nat}{o:HO}(r:Rel X W H σ ρ)(E:i<#[σ])(sm:av H H')(B:H p=none)(C:X.K.lookup p=none)(h':H' p=some o)(u:cZ X.K (λt b=>W.bad t b∨b=p) H' (W.sub #[σ] i) x o) :
  Rel X ((W.drop i).put i p) H' (σ.set i (some (.ref p))) (ρ.set i (some (.ob x)))/\Sm W H ((W.drop i).put i p) H':=by
 let g:∀j a,((W.drop i).put i p).O j=some a->(j=i/\a=p)∨(j≠i/\W.O j=some a):=λj a h=>by
  let e:(if j=i then some p else(if j=i then none else W.O j))=some a:=h
  lia
 let m:((W.drop i).put i p).O i=some p:=by show(if i=i then some p else _)=_;lia
 let G:∀j,j≠i->((W.drop i).put i p).O j=W.O j:=λj n=>by show(if j=i then some p else(if j=i then none else W.O j))=_;lia
 let y:∀j k b,W.sub #[σ] j k=some b->((W.drop i).put i p).sub #[σ] j k=some b:=by grind [wg]
 let A:∀t a,((W.drop i).put i p).bad t a->W.bad t a∨a=p:=λt a z=>by
  obtain z|⟨j,z⟩| z:=z;calc .inl (.inl z);rcases g j a z with⟨_,q⟩| ⟨_,q⟩
  cbv
  calc .inl (.inr (.inl ⟨j,q⟩));exact .inl (.inr (.inr z))
 let J:∀{t:Bool} {a:Addr} {c:yar},UH X.K H t a c->a≠p:=fun {t a c} q z=>by
  rcases q.1 with(q|⟨o,q⟩)|⟨o,Ru,n,q,_⟩
  all_goals lia
 let I:∀(d:D) (v:V),Den X.K W.bad H d v->Den X.K ((W.drop i).put i p).bad H' d v:=Den.map (λ_ _ q=>SK.same sm q) (λt a c n q=>⟨72,q.same sm⟩) (λa _ n q=>sm.kp a _ q n.nt);let l:∀(s:yas) (f:yar),ah X.K W.bad H s f->ah X.K ((W.drop i).put i p).bad H' s f:=ah.map (λ_ _ q=>SK.same sm q) (λt a c n q=>⟨72,q.same sm⟩) (λa _ n q=>sm.kp a _ q n.nt);calc⟨⟨λj d h=>?_,λj x h=>?_,λj k a e s=>?_,λj a e=>?_,λj a e=>?_,λa h=>let ⟨_,q⟩:=r.bt a h;sm.ex q,λa h=>let ⟨_,q⟩:=r.st a h;sm.ex q,r.ent.trans sm,r.tab.same sm⟩,rfl,rfl,λb o _ q n=>sm.kp b o q n,λj a h=>?_,sm.tb,sm.ok⟩;by_cases f:j=i;grind;rw[Vm (Ne.symm f)]at h;let⟨w,e,s⟩:=r.val j d h
 simp_all [Vm,Ne.symm]
 by_cases f:j=i;subst f;rw[List.getElem?_set]at h;split at h;split at h;cases h;calc⟨p,_,m,by simp[E],h',by rw[zCN];calc u.R9 72 (y _)⟩;cases h
 lia
 rw[Vm (Ne.symm f)]at h;let⟨a,c,e,s,f,d⟩:=r.own j x h;calc⟨a,c,46,by simp_all [Vm,Ne.symm],sm.kp _ _ f d.YE.nt,by rw[zCN];calc d.map l λk b q=>⟨y j k b q,λ_ z=>sm _ _ z⟩⟩;rcases g j a e with⟨d,b⟩| ⟨d,b⟩<;>rcases g k a s with⟨h,f⟩| ⟨h,f⟩
 lia
 let⟨_,_,c,q,_⟩:=r.kn k _ f
 lia
 let⟨_,_,c,q,_⟩:=r.kn j _ b
 lia
 calc r.inj j k a b f;rcases g j a e with⟨d,b⟩| ⟨d,b⟩;subst b;calc⟨C,⟨λz=>(by let⟨o,q⟩:=r.bt _ z;lia),λz=>(by let⟨o,q⟩:=r.st _ z;lia)⟩,_,h',u.YE⟩;let⟨k,i,c,h,f⟩:=r.kn j a b;calc⟨k,i,c,sm.kp _ _ h f.nt,f⟩;rcases g j a e with⟨d,b⟩| ⟨d,b⟩;subst b;calc r.ent.free B;calc r.ke j a b;grind
def Rel.putOwn2{i:Nat}(r:Rel X W H σ ρ)(d:i<#[σ])(sm:av H H')(a:H p=none)(c:X.K.lookup p=none)(h':H' p=some (.lst vs))(e:ah X.K (λt b=>W.bad t b∨b=p) H' ds vs) :
  Rel X ((W.drop i).put i p) H' (σ.set i (some (.ref p))) (ρ.set i (some (.own ds)))/\Sm W H ((W.drop i).put i p) H':=r.putG d sm a c h' (.lst e)
def ah.apart{K:yac}{H:Hp}(n:H a=none)(k:K.lookup a=none)(h:ah K P H e d)(c:NT o:=by calc True.intro):ah K (λt b=>P t b∨b=a) (L2.upd H a o) e d :=
 ah.map (λ_ _ q=>SK.same (av.upd n c) q) (λt b f p q=>⟨(λz=>z.elim p λz=>by
  subst z;rcases q.1 with(q|⟨o,q⟩)|⟨o,Ru,m,q,_⟩
  all_goals lia),q.same (av.upd n c)⟩) (λb _ m q=>(av.upd n c).kp b _ q m.nt) e d h
def Rel.mutG{i:Nat}{a:Addr}{o:HO}(r:Rel X W H σ ρ)(I:ρ[i]?=some (some (.ob x)))(m:W.O i=some a)(sa:σ[i]?=some (some (.ref a)))(w:H a=some o)(p:kz o)(s:cZ X.K W.bad H (W.sub #[σ] i) x' o') :
  Rel X W (L2.upd H a o') σ (ρ.set i (some (.ob x')))/\Sm W H W (L2.upd H a o'):=by
 let A:∀t,W.bad t a:=λ_=>.inr (.inl ⟨i,m⟩)
 let g:∀b c,SK X.K H b c->SK X.K (L2.upd H a o') b c:=λb c q=>by show L2.upd _ _ _ _=_;rw[aC (nV q w (by intro z;subst z;calc p))];exact q
 let l:∀t b c,¬W.bad t b->UH X.K H t b c->¬W.bad t b/\UH X.K (L2.upd H a o') t b c:=λt b c n q=>by
  let x:b≠a:=72
  calc⟨n,?_,λz=>⟨by rw[aC x];calc(q.2 z).1,(q.2 z).2⟩⟩;rcases q.1 with(q|⟨u,q⟩)|q;calc .inl (.inl (by grind [aC]));calc .inl (.inr ⟨u,by grind [aC]⟩);exact .inr q
 let f:∀b u,Zv u->H b=some u->L2.upd H a o' b=some u:=λb u n q=>by rw[aC (nV q w (by intro z;subst z;calc p.sol n))];lia
 let B:i<#[ρ]:=72;let h:i<#[σ]:=72;let t:∀j k b,W.sub #[σ] j k=some b->W.sub #[σ] j k=some b/\∀d,H b=some (.lst d)->L2.upd H a o' b=some (.lst d):=λj k b q=>⟨q,λd z=>by rw[aC (λe=>wg h (r.inj _ _ a (by rw[<- e];calc q) m))];calc z⟩
 let k:∀b u,H b=some u->∃d,L2.upd H a o' b=some d:=by grind [aQ,aC]
 calc⟨⟨λj d h=>?_,λj y h=>?_,r.inj,λj b n=>?_,r.ke,λb n=>let ⟨u,q⟩:=r.bt b n;k b u q,λb n=>let ⟨u,q⟩:=r.st b n;k b u q,r.ent.ins (r.ke i a m) w p s.YE.nt,r.tab.upd s.YE.nt (.inr ⟨o,w,p.ne,p.nt⟩)⟩,Sm.upd m w p s.YE.nt⟩;by_cases k:j=i
 cbv
 rw[Vm (Ne.symm k)]at h;let⟨w,p,o⟩:=r.val j d h;calc⟨w,p,Den.map g l f d w o⟩;by_cases k:j=i;subst k;rw[Zf B]at h;cases h;calc⟨a,o',m,sa,aQ,s.map (ah.map g l f) (t _)⟩;rw[Vm (Ne.symm k)]at h;let⟨b,c,p,o,G,d⟩:=r.own j y h;let x:b≠a:=λe=>k (r.inj j i a 35 m)
 calc⟨b,c,p,o,by simp_all [aC],d.map (ah.map g l f) (t _)⟩;let⟨e,d,c,E,C⟩:=r.kn j b n;calc⟨e,d,?_⟩;by_cases c:b=a;subst c;calc⟨_,aQ,s.YE⟩;grind [aC]
def Rel.YE{i:Nat}{a:Addr}(r:Rel X W H σ ρ)(e:ρ[i]?=some (some (.own ds)))(b:W.O i=some a)(sa:σ[i]?=some (some (.ref a)))(d:H a=some (.lst vs))(c:ah X.K W.bad H Y7 vs') :
  Rel X W (L2.upd H a (.lst vs')) σ (ρ.set i (some (.own Y7)))/\Sm W H W (L2.upd H a (.lst vs')):=r.mutG e b sa d True.intro (.lst c)
variable{es:yai}{t:DA}
def NS(i:Nat)(t:DA):DS:=λE a=>t a λb=>#[b]<=sizeLine/\E.nx (a.set i (some (.own b)))
def kD{x:Str}(i:Nat)(n:X.N.Nodup)(h:Wz X es t)(j:X.N[i]?=some x:=by rfl)(l:Loc X.env.scope x:=by first|calc Or.inl rfl|calc Or.inr rfl)
  (hs:swapsWith (.List es lpos) (some (.Name x pos')) pos.line X.env=pure false:=by rfl) (m:X.fn x=true∨X.env.scope.names.lookup x=some .local:=by first|calc .inl rfl|calc .inr rfl|assumption) :
  US X (.Assign [.Name x pos'] (.List es lpos) pos) (NS i t):=by
 intro a s b H W c E I r d;calc wpAny_Assign_Name (wpAny_List_spliced (Rw (h lpos a s b H W c _ I r d) λk d a=>?_)) hs;let⟨f,b,y,c,g,i,h,z,q⟩:=a;rw[<- h.len]at z;calc⟨by rw[<- #[g]];calc z,?_⟩;let a:b d.heap.objs.size=none:=c.R5.fresh 35;let p:=c.laid (o:=.lst f) (t':=d.toks) (λb u e=>T6 _ e) 35 ⟨z,k,0,g,Vj _ rfl⟩;let b:=(r.same i).putOwn2 (Inv.X2 c j) (av.upd (o:=.lst f) a) a (Inv.Um c) aQ (ah.apart a (Inv.Um c) h);calc dP (v:=.ref d.heap.objs.size) p n j l rfl (λw a=>⟨_,_,_,a,(Sm.same i).trans b.2,_,b.1,q⟩) m
def Cu(i:Nat)(te:DE):DS:=λE a=>lV a[i]? λb=>te a λd=>#[b]<sizeLine/\E.nx (a.set i (some (.own (b++[d]))))
def eO{x:Str}{a:Pos}(i:Nat)(d:RU X e te)(c:X.N[i]?=some x:=by rfl)(hv:Ym X.env.scope x:=by first|calc Or.inl rfl|calc Or.inr (Or.inl rfl)|calc Or.inr (Or.inr rfl))
  (f:(x==("__debug__" : Str))=false:=by decide) (l:(x==("__classdict__" : Str))=false:=by decide)
  (k:attributeBase (.Name x px) "append" X.env (eval (.Name x px) X.env)=eval (.Name x px) X.env:=by rfl)
  (g:((backTo R7 (starEach [e] X.env)).all (λx=>!x.1) && (backToKw R7 (keywordEach [] X.env)).all (λx=>x.1.isSome) && decide (#[[e]]+#[([]:List Keyword)]+(if([]:List Keyword).isEmpty then 0 else 1)<30))=true:=by rfl)
  (j:(a.endLine==R7.line)=true:=by rfl) (b:starEach [e] X.env=(false,eval e X.env)::starEach [] X.env:=by rfl) (h:(backTo R7 (starEach [] X.env)).any (·.1)=false:=by rfl)
  (hs:swapsWith (.Call (.Attribute (.Name x px) "append" a) [e] [] R7) none pos.line X.env=pure false:=by rfl) :
  US X (.Expr (.Call (.Attribute (.Name x px) "append" a) [e] [] R7) pos) (Cu i te):=by
 let a:=rK (pos:=pos) (KN PySem.F.plainAttrs_list PySem.F.slot_list_append PySem.F.type_list_append yu (fU c hv f l) (gI d.pe mT b) k g j b h) hs;refine US.of a λm H W b E r n h=>?_
 let⟨d,g,h⟩:=mS h;let⟨a,c,j,e,f,l⟩:=r.Xw i d g;calc⟨.ref a,e,.inl ⟨rfl,_,SqL.of f⟩,W,b,_,r,h,λv H' d b k q=>?_⟩;let⟨z,q⟩:=q;let d:=b _ _ f;let h:=r.same b;let f:=l.same b;calc⟨a,c,v,rfl,rfl,d,by rw[f.len];calc z,?_⟩;let⟨a,i⟩:=h.YE (vs':=c++[v]) g j e d (f.append (ah.one k));calc⟨W,_,(Sm.same b).trans i,a,q⟩
def Rel.freeze{X:Cx}{i:Nat}(r:Rel X W H σ ρ)(e:ρ[i]?=some (some (.own ds))):Rel X (W.drop i) H σ (ρ.set i (some (.val (.lst true ds)))):=by
 let⟨a,l,b,m,g,h⟩:=r.Xw i ds e;let f:i<#[σ]:=72;let ZE:i<#[ρ]:=72;let e:¬(W.drop i).bad true a:=λz=>by
  obtain z|⟨j,z⟩| ⟨_,z⟩:=z
  rotate_right
  calc(r.kn i a b).2.1.2 z;calc(r.kn i a b).2.1.1 z;let c:(if j=i then none else W.O j)=some a:=z;by_cases d:j=i
  lia
  rw[if_neg d]at c;exact d (r.inj j i a c b)
 let n:Den X.K (W.drop i).bad H (.lst true ds) (.ref a):=Den.lst e (.new g (r.kn i a b).1) (h.R9 λ_ _=>Own.Sv);calc⟨λj x h=>?_,λj x h=>?_,λj k b a d=>?_,λj b a=>?_,λj b a=>?_,r.bt,r.st,r.ent,r.tab⟩;by_cases c:j=i
 cbv
 rw[Vm (Ne.symm c)]at h;let⟨w,a,d⟩:=r.val j x h;calc⟨w,a,d.R9 λ_ _=>Own.Sv⟩;by_cases c:j=i
 cbv
 rw[Vm (Ne.symm c)]at h;let⟨b,c,a,d,g,e⟩:=r.own j x h;calc⟨b,c,by show(if j=i then none else W.O j)=_;lia,d,g,e.R9 (λ_ _=>Own.Sv) (Own.V3 f)⟩;let c:(if j=i then none else W.O j)=some b:=a;let e:(if k=i then none else W.O k)=some b:=d;by_cases d:j=i
 lia
 by_cases f:k=i
 lia
 rw[if_neg d]at c;rw[if_neg f]at e;calc r.inj j k b c e;let c:(if j=i then none else W.O j)=some b:=a;by_cases d:j=i
 lia
 rw[if_neg d]at c;calc r.kn j b c;let c:(if j=i then none else W.O j)=some b:=a;by_cases d:j=i
 lia
 rw[if_neg d]at c;calc r.ke j b c
def Cw(i:Nat)(t:DS):DS:=λE a=>lV a[i]? λb=>t E (a.set i (some (.val (.lst true b))))
def dI{t:DS}(i:Nat)(h:cT X sts t):cT X sts (Cw i t):=by intro a s c H W d E I r b;let⟨f,e,b⟩:=mS b;calc Rw (h a s c H (W.drop i) _ E I (r.freeze e) b) λ_ _ z=>z.up (Sm.drop W H i)
end
noncomputable def dH(env:Env)(ns:yah):List (Str×Addr):=ns.filterMap λn=>(env.cells.lookup n).map λc=>(n,c)
theorem nu:∀{ns:yah} {x:Str} {c:Addr},(dH env ns).lookup x=some c->env.cells.lookup x=some c
 |[],_,_,h=>by cases h
 |n::r,x,c,h=>by
  unfold dH at h;rw[zDa]at h;cases e:env.cells.lookup n with
  |none =>
   rw[e]at h;calc nu (ns:=r) h
  |some b =>
   rw[e]at h;let a:List.lookup x ((n,b)::dH env r)=some c:=h;rw[Zj]at a;cases q:x==n with
   |true =>
    lia
   |false =>
    rw[q]at a;calc nu (ns:=r) a
theorem tu{env:Env}:∀{ns:yah} {x:Str} {c:Addr},x∈ns->env.cells.lookup x=some c->(dH env ns).lookup x=some c
 |[],_,_,h,_=>by cases h
 |n::r,x,c,h,e=>by
  ext dH;rw[zDa];by_cases a:x=n;subst a;rw[e];show List.lookup x ((x,c)::_)=some c;simp[Zj];let b:x∈r:=by
   obtain z|z:=S8.mp h;calc absurd z a;exact z
  let ih:=tu (ns:=r) b e;cases q:env.cells.lookup n with
  |none=>calc ih
  |some b =>
   show List.lookup x ((n,b)::dH env r)=some c;rw[Zj];have:(x==n)=false:=by simpa using a
   rw[this];calc ih
structure CSc(osc sc:Scope)(xs ns:yah):Prop where
 kind:sc.kind=.function
 ZF:∀y∈sc.names,y.2 ≠ .cell
 names:∀y∈sc.names,y.2=.local->sc.names.lookup y.1=some .local
 tgt:∀x∈xs,sc.names.lookup x=some .local
 free:∀y∈sc.names,y.2=.free->y.1∈ns/\osc.names.lookup y.1=some .cell
 cells:∀n∈ns,sc.names.lookup n=some .free/\osc.names.lookup n=some .cell
 nd:(xs++ns).Nodup
def bu(X:Cx)(a:Scope)(ns xs:yah)(C:Addr)(d:Shared)(e:Hp)(b:yae)(c:yaa):Cx :=
 {X with N:=xs++ns,RT:=d,Sj:=e,env:=compEnvC a (dH X.env ns) C X.env,outer:=X.stack,stack:=X.stack,ex:=b,fn:=λ_=>false,pn:=[],xe:=c}
theorem mU{env:Env}(b:env.scope.kind=.function):∀{a:List (Str×NameKind)} {n:Str},a.lookup n=some .free->env.kindOf n=some .cell →
  (a.map λ(n,k)=>if(k==NameKind.free && env.scope.kind==.function && env.kindOf n==some .cell)then(n,NameKind.cell)else(n,k)).lookup n=some .cell
 |[],_,h,_=>by simp at h
 |(m,k)::r,n,h,a=>by
  let ih:=@mU env b r n;show List.lookup n ((if(k==NameKind.free && env.scope.kind==.function && env.kindOf m==some .cell)=true then(m,NameKind.cell)else(m,k))::_)=_;cases hx:n==m with
  |true =>
   simp only[Zj,hx]at h;cases h;let e:n=m:=by simpa using hx
   subst e;rw[b,a];simp[Zj]
  |false =>
   simp only[Zj,hx]at h;by_cases b:(k==NameKind.free && env.scope.kind==.function && env.kindOf m==some .cell)=true;rw[Rr b];simp only[Zj,hx];calc ih h a;rw[if_neg b];simp only[Zj,hx];calc ih h a
theorem lW{env:Env}:∀{a:List (Str×NameKind)} {n:Str} {k:NameKind},
  (a.map λ(n,k)=>if(k==NameKind.free && env.scope.kind==.function && env.kindOf n==some .cell)then(n,NameKind.cell)else(n,k)).lookup n=some k->(k=.cell∨k=.free) →
  (∃y∈a,y.1=n/\y.2=.free)∨∃ y∈a,y.1=n/\y.2=.cell
 |[],_,_,h,_=>by simp at h
 |(m,j)::r,n,k,h,b=>by
  let a:List.lookup n ((if(j==NameKind.free && env.scope.kind==.function && env.kindOf m==some .cell)=true then(m,NameKind.cell)else(m,j))::(r.map λ(n,k)=>if(k==NameKind.free && env.scope.kind==.function && env.kindOf n==some .cell)then(n,NameKind.cell)else(n,k)))=some k:=h;let d:((∃y∈r,y.1=n/\y.2=.free)∨∃ y∈r,y.1=n/\y.2=.cell)->((∃y∈(m,j)::r,y.1=n/\y.2=.free)∨∃ y∈(m,j)::r,y.1=n/\y.2=.cell):=λz=>by
   rcases z with⟨y,c,q⟩| ⟨y,c,q⟩;calc .inl ⟨y,U1 _ c,q⟩;exact .inr ⟨y,U1 _ c,q⟩
  cases hx:n==m with
  |true =>
   let e:n=m:=by simpa using hx
   subst e;by_cases c:(j==NameKind.free && env.scope.kind==.function && env.kindOf n==some .cell)=true;have:j=.free:=by simp only[zCD]at c;exact beq_iff_eq.mp c.1.1
   calc .inl ⟨(n,j),XU,rfl,this⟩;rw[if_neg c]at a;simp only[Zj,hx]at a;cases a;obtain b|b:=b;calc .inr ⟨(n,j),XU,rfl,b⟩;calc .inl ⟨(n,j),XU,rfl,b⟩
  |false =>
   by_cases c:(j==NameKind.free && env.scope.kind==.function && env.kindOf m==some .cell)=true;rw[Rr c]at a;simp only[Zj,hx]at a;calc d (lW a b);rw[if_neg c]at a;simp only[Zj,hx]at a;calc d (lW a b)
def bI(ρ:Ro)(j:Nat):Option Sl:=match ρ[j]? with
 |some (some (.val d))=>some (.val d)
 |_=>none
def kF(a:St)(j:Nat):Option V:=match a[j]? with
 |some (some v)=>some v
 |_=>none
section
variable{X:Cx}{pins:yab}{σ:St}{H:Hp}{s:Shared}{sc:Scope}{ns:yah}{js:yag}{xs:yah}{fp:yae}
def Inv.comp{q:Shared}{x:Hp}{C:Addr}(I:Inv X pins σ H s)(S:CSc X.env.scope sc xs ns)(U:#[js]=#[ns]/\∀(i:Nat) (j:Nat) (n:Str),js[i]?=some j->ns[i]?=some n->X.N[j]?=some n)(Q:∀b∈fp,fF X pins H b)(L:∀b∈fp,∃o,s.heap.get? b=some o)(hC:s.heap.objs.size<=C)
  (J:q.os=s.os) (hg:AllBare q.gens) (w:∀b o,s.heap.get? b=some o->q.heap.get? b=some o) (Wl:q.heap.Ns C λ_=>none) (M:x C=none) (hs:av H x) (a:∀b o,s.heap.get? b=some o->H b=none->x b=none) (R5:UB X.prog X.w x q.heap) :
  Inv (bu X sc ns xs C s H fp XE) [] (List.replicate #[xs] none++js.map (kF σ)) x q:=by
 let kd:X.env.scope.kind=.function:=I.ok.kind;let A:∀y c,(dH X.env ns).lookup y=some c->X.env.cells.lookup y=some c:=λy c e=>nu e
 let d:∀y c,(dH X.env ns).lookup y=some c->∃v,s.heap.IsCell c v:=λy c e=>I.cell y c (A y c e)
 refine⟨⟨I.ok.mod,S.kind,I.ok.glob,I.ok.blt,hC,λy z c l B=>I.ok.inj y z c (A y c l) (A z c B),λy t=>?_,λy c h _=>(by cases h),I.ok.hd,I.ok.frames,.inl rfl,λb g=>?_,I.bs,Sd I.ok.bsz I.sz,λb o e g=>?_,λb g z=>?_,I.stack,I.WT⟩,
  J,hg,⟨λb o e n _ _=>w b o e,λb o e n _ _=>⟨o.slots,w b o e⟩,λb o e n _=>a b o e n,λb o e _=>⟨o,w b o e⟩,λb xs e=>hs b _ e,λb o u e=>hs b _ e,λb f e=>hs.tb b f e⟩,⟨_,Wl,λi y v l B h3=>?_⟩,λy c e=>?_,M,λy c e=>?_,λp f=>absurd (show p∈([]:yab)from f) 52,R5,?_⟩
 -- every cell of the block is one of the body's
 let Ww:∃k,((relabel sc X.env).names.lookup y=some k)/\(k=.cell∨k=.free):=by
  obtain t|t:=t;calc⟨_,t,.inl rfl⟩;exact⟨_,t,.inr rfl⟩
 let⟨k,l,B⟩:=Ww;rcases lW (env:=X.env) l B with⟨z,G,E,N⟩| ⟨z,G,E,N⟩;let⟨m1,m2⟩:=S.free z G N;subst E;let⟨c,hc⟩:=I.ok.has z.1 (.inl m2);calc⟨c,tu m1 hc⟩;calc absurd N (S.ZF z G);calc⟨λz=>?_,λy c e z=>?_⟩;let z':b=C:=z;let⟨o,f⟩:=L b g;let Uo:=SJ f
 lia
 calc(Q b g).2.2.2.2.1 y c (A y c e) z;let⟨f0,f1,f2,h,f4,f5⟩:=Q b g;obtain h|h:=h;calc I.ok.XX b o e h;exact absurd (Tp (SJ (I.ok.bs b o e).1) h) (Zm _)
 ·let⟨f0,f1,f2,h,f4,f5⟩:=Q b g;rcases S8.mp (I.V1 b z)with e|e
  all_goals lia
 by_cases hi:i<#[xs]
 simp_all [WR,zCf,Rr]
 let T:ns[i - #[xs]]?=some y:=by
  let l:(xs++ns)[i]?=some y:=l
  simp_all [WH]
 let p:(js.map (kF σ))[i - #[xs]]?=some (some v):=by simp_all [WH]
 generalize i - #[xs]=i at T p;rw[UR]at p;cases e:js[i]? with
 |none=>rw[e]at p;cases p
 |some j =>
  rw[e]at p;let h4:kF σ j=some v:=Yj p;let h5:σ[j]?=some (some v):=by
   unfold kF at h4
   lia
  let hN:=U.2 i j y e T;let r:y∈ns:=UX T;let⟨c1,O⟩:=S.cells y r;let⟨m,hm,hl⟩:=I.loc;let⟨u,ru,lk⟩:=hl j y v hN h5 (.inr (.inl O));calc⟨u,ru,?_⟩;rcases lk with⟨k1,_⟩| ⟨_,c,E,o,f,m⟩;let Y:X.env.scope.names.lookup y=some .local:=k1;rw[O]at Y;cases Y;exact .inr ⟨.inl (mU kd c1 O),c,tu r E,o,w c o f,m⟩
 let⟨v,z⟩:=d y c e;let⟨o,f,m⟩:=z;calc⟨v,o,w c o f,m⟩;let⟨v,o,f,m⟩:=d y c e;calc a c o f (I.T8 y c (A y c e));show#[List.replicate #[xs] none++js.map (kF σ)]=#[xs++ns];simp[U.1]
def TsD(X:Cx)(a:yai)(t:DT):Prop :=
 ∀ (pins:yab) (s:Shared) (σ:St) (H:Hp) (W:Own) (b:Ro) (Q:Bool->Prop),Inv X pins σ H s->Rel X W H σ b->t b Q →
  wpAny (model X.prog X.w) X.A (forIn a true λc r=>if r=true then do let ok←isTrue c X.env (eval c X.env);pure (ForInStep.yield ok)else pure (ForInStep.yield r)) (DTP X pins σ H Q) X.xe s
def zV:DT:=λ_ Q=>Q true
def cf{X:Cx}:TsD X [] zV:=λ_ s σ H W a Q I r h=>wpAny_tests_nil ⟨H,I,av.refl H,h⟩
def vV{X:Cx}(h:Xx X c t):TsD X [c] t:=λpins s σ H W a Q I r q=>wpAny_tests_one (h pins s σ H W a Q I r q)
def kx(n:Nat)(b ρ:Ro):Prop:=∃a:Ro,#[a]=n/\ρ=a++b
def FN{s:Shared}{R:Result->Shared->Prop}{g:Expr}{i:Value}(I:Nat->Shared->Prop)
  (b:∀n s,I n s->wpAny (model prog w) A (pyNext it) (λr k=>match r with
   |none=>R (.ok .next) k
   |some v=>wpAny (model prog w) A (letOwnedTupleGo target it v) (λ_ a=>wpAny (model prog w) A (assign target env v) (λ_ o =>
     wpAny (model prog w) A (forIn ifs true λc r=>if r=true then do let f←isTrue c env (eval c env);pure (ForInStep.yield f)else pure (ForInStep.yield r)) (λf j=>if f=true then wpAny (model prog w) A (eval elt env) (λx l =>
       wpAny (model prog w) A (call (.builtin "list.append") [i,x]) (λ_ d=>∃m,m<n/\I m d) (notedBy (model prog w) A env λe z=>R (.error e) z) l) (notedBy (model prog w) A env λe z=>R (.error e) z) j
      else∃m,m<n/\I m j) (notedBy (model prog w) A env λe z=>R (.error e) z) o) (notedBy (model prog w) A env λe z=>R (.error e) z) a) (notedBy (model prog w) A env λe z=>R (.error e) z) k) (notedBy (model prog w) A env λe z=>R (.error e) z) s)
  (n:Nat) (h:I n s):codeAny (model prog w) A (.compLoop (.ListComp elt [⟨target,g,ifs,0⟩] scope pos) 0 it i env) R s:=by
 calc codeAny_loop rfl I (λm z a=>?_) n h;calc wpAny_noted ?_;calc Rm (zDZ (Rm (VP (b m z a) (λr E a=>?_) λ_ _ q=>q)));cases r with
 |none=>calc Rz a
 |some v =>
  calc Rm (VP a (λ_ C a=>?_) λ_ _ q=>q);calc Rm (VP a (λ_ B g3=>Rm (VP g3 (λf u a=>?_) λ_ _ q=>q)) λ_ _ q=>q);cases f with
  |false=>calc Rz ⟨rfl,a⟩
  |true=>calc Rm (Rm (VP a (λy t a=>Rm (VP a (λ_ p a=>Rz (Rz ⟨rfl,a⟩)) λ_ _ q=>q)) λ_ _ q=>q))
def Rel.mutB{X:Cx}{H:Hp}{σ:St}(r:Rel X W H σ ρ)(d:W.B a)(i:H a=some (.lst vs))(h0:X.Sj a=none) :
  Rel X W (L2.upd H a (.lst vs')) σ ρ/\∀b l,ah X.K W.bad H b l->ah X.K W.bad (L2.upd H a (.lst vs')) b l:=by
 let f:∀b c,SK X.K H b c->SK X.K (L2.upd H a (.lst vs')) b c:=λb c q=>by show L2.upd _ _ _ _=_;rw[aC (nV q i 35)];exact q
 let g:∀t b c,¬W.bad t b->UH X.K H t b c->¬W.bad t b/\UH X.K (L2.upd H a (.lst vs')) t b c:=λt b c n q=>by
  let c:b≠a:=λe=>n (.inl (e ▸ d))
  calc⟨n,?_,λz=>⟨by rw[aC c];calc(q.2 z).1,(q.2 z).2⟩⟩;rcases q.1 with(q|⟨o,q⟩)|q;calc .inl (.inl (by simp_all [aC]));calc .inl (.inr (by grind [aC]));exact .inr q
 let c:∀b u,Zv u->H b=some u->L2.upd H a (.lst vs') b=some u:=λb u n q=>by rw[aC (nV q i (by intro z;subst z;calc n))];lia
 let k:∀b o,H b=some o->∃d,L2.upd H a (.lst vs') b=some d:=by grind [aQ,aC]
 calc⟨⟨λj d h=>?_,λj y h=>?_,r.inj,λj b a=>?_,r.ke,λb a=>let ⟨o,q⟩:=r.bt b a;k b o q,λb a=>let ⟨o,q⟩:=r.st b a;k b o q,r.ent.ins h0 i True.intro True.intro,r.tab.upd True.intro (.inr ⟨_,i,35,True.intro⟩)⟩,ah.map f g c⟩;let⟨v,i,k⟩:=r.val j d h;calc⟨v,i,Den.map f g c d v k⟩;let⟨b,o,i,k,A,d⟩:=r.own j y h;calc⟨b,o,i,k,by rw[aC (λe=>(r.kn j b i).2.1.1 35)];lia,d.map (ah.map f g c) λk c q=>⟨q,λl z=>by rw[aC (λe=>(r.kn _ c q).2.1.1 35)];calc z⟩⟩;let⟨x,w,o,p,m⟩:=r.kn j b a;grind [aC]
def Eo(X:Cx)(sc:Scope)(ns:yah)(RR:Value->Addr->Result->Shared->Prop)(D C:Addr):yaa:=notedBy (model X.prog X.w) X.A (compEnvC sc (dH X.env ns) C X.env) λe a=>RR (.ref D) C (.error e) a
def dG.no{X:Cx}:dG X λ_=>False:=λ_ _ _ _ _ _ _ _ _ _ h=>by let⟨_,_,_,_,_,_,_,_,_,_,_,_,_,z⟩:=h;calc z.elim
end
abbrev DM:=Ro->(LI->Prop)->Prop
def QN(K:yac)(P:yak)(H H':Hp):LI->V->Prop
 |.own d,v=>∃a c,v=.ref a/\H a=none/\K.lookup a=none/\H' a=some (.lst c)/\ah K (λt b=>P t b∨b=a) H' d c
 |.val d,v=>Den K P H' d v
inductive MDP (X:Cx) (pins:yab) (σ:St) (W:Own) (H:Hp) (Q:LI->Prop) (u:Value) (s':Shared):Prop
 |mk (v:V) (H':Hp) (li:LI) (_:Inv X pins σ H' s') (_:RelV v u) (_:av H H') (_:QN X.K W.bad H H' li v) (_:Q li)
def PEM(X:Cx)(e:Expr)(t:DM):Prop :=
 ∀ (a:yab) (s:Shared) (b:St) (H:Hp) (W:Own) (c:Ro) (Q:LI->Prop),Inv X a b H s->Rel X W H b c->t c Q →
  wpAny (model X.prog X.w) X.A (eval e X.env) (MDP X a b W H Q) X.xe s
structure ie(K:yac)(H:Hp)(D:Addr)(n:Nat)(bs:yaj):Prop where
 ok:∀k b,bs k=some b->k<n/\H b=none/\K.lookup b=none/\b≠D
 inj:∀k l b,bs k=some b->bs l=some b->k=l
def ie.nil{K:yac}{H:Hp}{D:Addr}{n:Nat}:ie K H D n λ_=>none:=⟨35,35⟩
def ie.up{K:yac}{H:Hp}{D:Addr}{n m:Nat}{bs:yaj}(h:ie K H D n bs)(l:n<=m):ie K H D m bs:=⟨λk b q=>let ⟨a,r⟩:=h.ok k b q;⟨Tp a l,r⟩,h.inj⟩
def ie.put{K:yac}{H:Hp}{D a:Addr}{c:List LI}{x:LI}{bs:yaj}(h:ie K H D #[c] bs)(n:H a=none)(k:K.lookup a=none)(d:a≠D)(f:∀k,bs k=some a->False) :
  ie K H D #[c++[x]] λk=>if k=#[c] then some a else bs k:=⟨λl b q=>by
  rw[UQ,zCq];by_cases e:l=#[c];rw[Rr e]at q;cases q;calc⟨35,n,k,d⟩;rw[if_neg e]at q;let⟨i,a⟩:=h.ok l b q;calc⟨35,a⟩,λl m b d a=>by
  by_cases g:l=#[c];by_cases e:m=#[c];rw[g,e];rw[Rr g]at d;rw[if_neg e]at a;cases d;calc(f m a).elim;by_cases e:m=#[c];rw[if_neg g]at d;rw[Rr e]at a;cases a;calc(f l d).elim;rw[if_neg g]at d;rw[if_neg e]at a;calc h.inj l m b d a⟩
section
variable{K:yac}{P:yak}{H:Hp}{B:yaj}
theorem bg.V4(f:Den K P H d v):∀{k:Nat} {xs:List LI} {a:yar},bg K P H B k xs a->bg K P H B k (xs++[.val d]) (a++[v])
 |k,[],_,h=>by subst h;simp only[Zi,bg];cbv
 |k,.own i::r,_,h=>by let⟨b,d,u,rfl,c,a,g,e⟩:=h;calc⟨b,d,_,rfl,c,a,g,bg.V4 f e⟩
 |k,.val e::r,_,h=>by let⟨w,u,rfl,c,a⟩:=h;calc⟨w,_,rfl,c,bg.V4 f a⟩
theorem bg.V5{a:Addr}:∀{k:Nat} {xs:List LI} {b:yar},bg K P H B k xs b->B (k+#[xs])=some a->H a=some (.lst ws)->ah K P H ds ws->bg K P H B k (xs++[.own ds]) (b++[.ref a])
 |k,[],_,h,f,d,c=>by subst h;calc⟨a,ws,[],rfl,46,d,c,rfl⟩
 |k,.own l::r,_,h,f,d,c=>by let⟨b,e,u,rfl,g,a,j,i⟩:=h;calc⟨b,e,_,rfl,g,a,j,bg.V5 i (by rw[<- f];congr 1;simp;lia) d c⟩
 |k,.val e::r,_,h,f,d,c=>by let⟨w,u,rfl,g,a⟩:=h;calc⟨w,_,rfl,g,bg.V5 a (by rw[<- f];congr 1;simp;lia) d c⟩
end
section
variable{X:Cx}
def Rel.ban{o:HO}(r:Rel X W H σ ρ)(sm:av H H')(A:H p=none)(B:X.K.lookup p=none)(h':H' p=some o) :
  Rel X ⟨λb=>W.B b∨b=p,W.O,W.S⟩ H' σ ρ/\∀g a,ah X.K W.bad H g a->ah X.K (Own.bad ⟨λb=>W.B b∨b=p,W.O,W.S⟩) H' g a:=by
 let i:∀t a,Own.bad ⟨λb=>W.B b∨b=p,W.O,W.S⟩ t a->W.bad t a∨a=p:=λt a z=>by
  rcases z with(z|z)|z|z;exact .inl (.inl z)
  lia
  calc .inl (.inr (.inl z));exact .inl (.inr (.inr z))
 let s:∀{t:Bool} {a:Addr} {c:yar},UH X.K H t a c->a≠p:=fun {t a c} q z=>by
  rcases q.1 with(q|⟨o,q⟩)|⟨o,Ru,n,q,_⟩
  all_goals lia
 let m:∀(d:D) (v:V),Den X.K W.bad H d v->Den X.K (Own.bad ⟨λb=>W.B b∨b=p,W.O,W.S⟩) H' d v:=Den.map (λ_ _ q=>SK.same sm q) (λt a c n q=>⟨72,q.same sm⟩) (λa _ n q=>sm.kp a _ q n.nt);let f:∀(g:yas) (e:yar),ah X.K W.bad H g e->ah X.K (Own.bad ⟨λb=>W.B b∨b=p,W.O,W.S⟩) H' g e:=ah.map (λ_ _ q=>SK.same sm q) (λt a c n q=>⟨72,q.same sm⟩) (λa _ n q=>sm.kp a _ q n.nt);calc⟨⟨λj d h=>?_,λj x h=>?_,r.inj,λj a e=>?_,r.ke,λa h=>?_,λa h=>let ⟨_,q⟩:=r.st a h;sm.ex q,r.ent.trans sm,r.tab.same sm⟩,f⟩;let⟨w,e,g⟩:=r.val j d h
 cbv
 let⟨a,c,e,g,k,d⟩:=r.own j x h;calc⟨a,c,e,g,sm.kp _ _ k d.YE.nt,d.map f λl b q=>⟨q,λ_ z=>sm _ _ z⟩⟩;let⟨f,⟨y,u⟩,c,d,b⟩:=r.kn j a e;calc⟨f,35,c,sm.kp _ _ d b.nt,b⟩;obtain h|h:=h;let⟨_,q⟩:=r.bt a h;calc sm.ex q;grind
end
section
variable{X:Cx}{pins:yab}{σ:St}{H:Hp}{s:Shared}{sc:Scope}{ns:yah}{js:yag}{xs:yah}{fp:yae}
def YJ(X:Cx)(sc:Scope)(ns xs:yah)(cl:List (Str×Addr))(fn:Str->Bool)(C:Addr)(b:Shared)(c:Hp)(fp:yae)(a:yaa):Cx :=
 {X with N:=xs++ns,RT:=b,Sj:=c,env:=compEnvC sc cl C X.env,outer:=X.stack,stack:=X.stack,ex:=fp,fn:=fn,pn:=[],xe:=a}
def fh(X:Cx)(sc:Scope)(cl:List (Str×Addr))(RR:Value->Addr->Result->Shared->Prop)(D C:Addr):yaa:=notedBy (model X.prog X.w) X.A (compEnvC sc cl C X.env) λe a=>RR (.ref D) C (.error e) a
inductive CLI (K:yac) (Y:Cx) (H:Hp) (fp:yae) (Ad:Addr) (ds:yas) (W':Own) (tn:Nat->Heap->Prop) (m:Nat) (cp:Ro) (Pv:Nat->List LI->Prop) (n:Nat) (s':Shared):Prop
 |mk (i:Nat) (W2:Own) (σ2:St) (ρ2:Ro) (H':Hp) (out:List LI) (vs:yar) (bs:yaj) (_:n=#[ds] - i) (_:i<=#[ds]) (_:Inv Y [] σ2 H' s') (_:tn i s'.heap) (_:∀b∈fp,H' b=none) (_:H' Ad=some (.lst vs)) (_:W2.B=(λa=>W'.B a∨∃ k,bs k=some a)/\W2.S=W'.S) (_:ie K H Ad #[out] bs) (_:∀k b,bs k=some b->∃us,H' b=some (.lst us)) (_:bg K W2.bad H' bs 0 out vs) (_:av H H') (_:Rel Y W2 H' σ2 ρ2) (_:kx m cp ρ2) (_:Pv i out) (_:#[out]<=i)
set_option tactic.hygienic true in
def FO{m:Expr}{Ux:Heap}(hc:X.calm=true)
  (he:PEM (YJ X sc ns xs cl fn C s H fp (fh X sc cl RR w C)) elt te) (ht:TsD (YJ X sc ns xs cl fn C s H fp (fh X sc cl RR w C)) ifs tc) (hg:PGD (YJ X sc ns xs cl fn C s H fp (fh X sc cl RR w C)) tg g) (I:Inv X pins σ H s) (r:Rel X W H σ ρ) (T:Turn X.prog X.w X.K tg J fp it tn) (st:tn 0 s.heap) (Y8:∀b∈fp,fF X pins H b) (yd:YD X.K W H J U) (hz:#[U]<=sizeLine)
  (Pv:Nat->List LI->Prop) (p0:Pv 0 []) (step:∀j d f a,U[j]?=some d->Pv j f->kx #[xs] (js.map (bI ρ)) a->g d a λl=>kx #[xs] (js.map (bI ρ)) l/\tc l λb=>if b=true then te l (λe=>Pv (j+1) (f++[e]))else Pv (j+1) f)
  (hRR:∀(h:Shared) (H':Hp) (i:yam) (f:List LI) (bs:yaj),Inv X pins σ H' h->av H H'->h.heap.Ns C i->H' C=none->C≠X.env.locals->X.RT.heap.objs.size<=C->(∀y c,X.env.cells.lookup y=some c->c≠C)->(∀p∈X.pn++pins,p.1≠C) →
   (H w=none/\X.K.lookup w=none/\∃A,H' w=some (.lst A)/\ie X.K H w #[f] bs/\(∀k b,bs k=some b->∃E,H' b=some (.lst E))/\bg X.K (λt b=>W.bad t b∨b=w∨∃ k,bs k=some b) H' bs 0 f A)->Pv #[U] f->RR (.ref w) C (.ok .next) h)
  (G:H w=none) (hKD:X.K.lookup w=none) (leD:s.heap.objs.size<=w) (WY:s.heap.objs.size<=C) (old:∀b o,s.heap.get? b=some o->Ux.get? b=some o) (hcl:∀y c,cl.lookup y=some c->X.env.cells.lookup y=some c∨s.heap.objs.size<=c)
  (I1:Inv (YJ X sc ns xs cl fn C s H fp (fh X sc cl RR w C)) [] (List.replicate #[xs] none++js.map (kF σ)) (L2.upd H w (.lst [])) {s with heap:=Ux,toks:=s.toks+#[([]:List (Str×Value))]}) :
  codeAny (model X.prog X.w) X.A (.compStart (.ListComp elt [⟨tg,m,ifs,0⟩] sc pos) 0 (.ref it) (.ref w) (compEnvC sc cl C X.env)) (RR (.ref w) C) {s with heap:=Ux,toks:=s.toks+#[([]:List (Str×Value))]}:=by
 let O:∀b∈fp,∃o,s.heap.get? b=some o:=λb B=>let ⟨o,e,_⟩:=T.obj 0 s.heap st b B;⟨o,e⟩
 let g:∀{a:Addr} {ws:yar},SqL X.K H a ws->a≠w:=fun {a ws} q z=>by
  subst z;rcases q with(q|⟨o,q⟩)|⟨o,Ru,n,q,_⟩;rw[G]at q;cases q;rw[G]at q;cases q;rw[hKD]at q;cases q
 let' J:Own:=⟨λa=>W.bad false a∨a=w,λ_=>none,W.S⟩
 let bad':∀t a,J.bad t a↔(W.bad t a∨a=w):=λt a=>⟨λz=>by
  rcases z with(z|z)|⟨_,q⟩| ⟨z1,Y⟩;calc .inl (Own.X0 z);calc .inr z;cases q;calc .inl (.inr (.inr ⟨z1,Y⟩)),λz=>by
  obtain z|z:=z;obtain z|z|z:=z;calc .inl (.inl (.inl z));calc .inl (.inl (.inr (.inl z)));calc .inr (.inr z);calc .inl (.inr z)⟩
 let hT:∀{H':Hp},av H H'->∀a A,SK X.K H a A->SK X.K H' a A:=λsm a A q=>SK.same sm q
 let hL:∀{H':Hp},av H H'->∀t a A,¬W.bad t a->UH X.K H t a A->¬J.bad t a/\UH X.K H' t a A:=λsm t a A n q=>⟨λz=>((bad' t a).mp z).elim n (g q.1),q.same sm⟩
 let N:Rel (YJ X sc ns xs cl fn C s H fp (fh X sc cl RR w C)) J (L2.upd H w (.lst [])) (List.replicate #[xs] none++js.map (kF σ)) (List.replicate #[xs] none++js.map (bI ρ)):=by
  let sm:av H (L2.upd H w (.lst [])):=av.upd G;let Q:∀{i:Nat} {z:Sl},(List.replicate #[xs] none++js.map (bI ρ))[i]?=some (some z)->¬i<#[xs]/\(js.map (bI ρ))[i - #[xs]]?=some (some z):=fun {i z} h=>by by_cases M:i<#[xs];rw[WR (by simpa using M),zCf,Rr M]at h;cases h;rw[WH (by simpa using M)]at h;exact⟨M,by simpa using h⟩
  calc⟨λi d h=>?_,λi x h=>?_,λi j a h _=>(by cases h),λi a h=>(by cases h),λi a h=>(by cases h),λa h=>?_,λa h=>?_,sm,r.tab.same sm⟩;let⟨M,g⟩:=Q h;rw[UR]at g;cases e:js[i - #[xs]]? with
  |none=>rw[e]at g;cases g
  |some j =>
   rw[e]at g;let L:bI ρ j=some (.val d):=Yj g;let h5:ρ[j]?=some (some (.val d)):=by unfold bI at L;split at L;rename_i u q;cases L;calc q;cases L
   let⟨v,e1,e2⟩:=r.val j d h5;calc⟨v,?_,Den.map (hT sm) (hL sm) (λa _ n q=>sm.kp a _ q n.nt) d v e2⟩;rw[WH (by simpa using M)];show(js.map (kF σ))[i - #[List.replicate #[xs] (none:Option V)]]?=some (some v);rw[List.length_replicate,UR,e];show some (kF σ j)=some (some v);ext kF;rw[e1]
  let⟨M,g⟩:=Q h;rw[UR]at g;cases e:js[i - #[xs]]? with
  |none=>rw[e]at g;cases g
  |some j =>
   rw[e]at g;let L:bI ρ j=some (.ob x):=Yj g;unfold bI at L;split at L<;>cases L
  obtain h|h:=h;let⟨o,q⟩:=r.tracked false a h;calc sm.ex q;rw[h];calc⟨_,aQ⟩;let⟨o,q⟩:=r.st a h;exact sm.ex q
 let ZI:∀{H':Hp},(∀b∈fp,H' b=none)->∀b∈fp,fF (YJ X sc ns xs cl fn C s H fp (fh X sc cl RR w C)) [] H' b:=λhn b B=>by
  let⟨f0,r,f2,Q,j,M⟩:=Y8 b B;let⟨o,g⟩:=O b B;calc⟨hn b B,λz=>?_,λz=>?_,.inl B,λy c e z=>(hcl y c e).elim (λe=>j y c e z) λq=>absurd (SJ g) (by rw[<- z];calc Xh.mpr q),λp hp=>absurd (show p∈([]:yab)from hp) 52⟩;let z':b=C:=z;let Uo:=SJ g;rw[z']at Uo;calc absurd (Tp Uo WY) (Zm _);rcases S8.mp (I.V1 b z)with e|e;calc r e;exact f2 e
 let Zq:∀b∈fp,(b∈X.ex∨X.RT.heap.objs.size<=b)/\b≠X.env.locals/\(∀x c,X.env.cells.lookup x=some c->c≠b)/\∀p∈X.pn++pins,p.1≠b:=λb B=>by let⟨f0,r,f2,Q,j,M⟩:=Y8 b B;exact⟨Q,r,j,M⟩
 let BD0:J.B w:=.inr rfl;let loop:∀j:Shared,j={s with heap:=Ux,toks:=s.toks+#[([]:List (Str×Value))]} →
   codeAny (model X.prog X.w) X.A (.compLoop (.ListComp elt [⟨tg,m,ifs,0⟩] sc pos) 0 (.ref it) (.ref w) (compEnvC sc cl C X.env)) (RR (.ref w) C) j:=by
  rintro j rfl;refine FN (CLI X.K (YJ X sc ns xs cl fn C s H fp (fh X sc cl RR w C)) H fp w U J tn #[xs] (js.map (bI ρ)) Pv) ?_ #[U]
   ⟨0,J,_,_,_,[],[],λ_=>none,52,Uw _,I1,T.keep 0 s.heap Ux st (λb B o e=>old b o e),λb B=>?_,aQ,⟨by funext a;simp,rfl⟩,ie.nil,(λ_ _ h=>by cases h),by simp only[bg],av.upd G,N,⟨_,52,rfl⟩,p0,Sx _⟩
  rotate_left
  let⟨o,g⟩:=O b B;rw[aC (λz=>absurd (SJ g) (by rw[z];calc Xh.mpr leD))];calc(Y8 b B).1;rintro n s3 ⟨i,W2,σ2,l,H3,f,A,bs,en,hle,I3,WA,fr3,hD3,g,r,hls,hds3,x,M,Q,p3,ol⟩;let O:∀{j:Own} {H':Hp} {N:St} {m:Ro},(j.B=(λa=>J.B a∨∃ k,bs k=some a)/\j.S=J.S)->Rel (YJ X sc ns xs cl fn C s H fp (fh X sc cl RR w C)) j H' N m->av H H'->∀t a A,¬W.bad t a->UH X.K H t a A->¬j.bad t a/\UH X.K H' t a A:=fun {j H' N m} hw rl sm t a A n q=>by
   calc⟨λz=>?_,q.same sm⟩;obtain z|⟨k,z⟩| ⟨z1,Y⟩:=z;rw[hw.1]at z;obtain z|⟨k,z⟩:=z;calc(hL sm t a A n q).1 (.inl z);let⟨_,N,kk,_⟩:=r.ok k a z;rcases q.1 with(j|⟨o,j⟩)|⟨o,Ru,m,j,_⟩;rw[N]at j;cases j;rw[N]at j;cases j;rw[kk]at j;cases j;let N:H a=none:=rl.ke k a z;rcases q.1 with(j|⟨o,j⟩)|⟨o,Ru,m,j,_⟩;rw[N]at j;cases j;rw[N]at j;cases j;let kk:X.K.lookup a=none:=(rl.kn k a z).1;rw[kk]at j;cases j;rw[hw.2]at Y;exact(hL sm t a A n q).1 (.inr (.inr ⟨z1,Y⟩))
  let⟨j,yy,ys⟩:=yd W2.bad H3 (hT x) (O g M x) (λa _ n q=>x.kp a _ q n.nt) i;by_cases Uo:i<#[U];refine Rw (T.item (YJ X sc ns xs cl fn C s H fp (fh X sc cl RR w C)) rfl rfl rfl hc i [] s3 _ H3 _ I3 (ZI fr3) WA (j Uo)) λrr s4 ⟨u,hr,L⟩=>?_
  subst hr;refine Rw L λ_ s5 Y=>?_
  let⟨x5,H5,I5,r5,L,O,j⟩:=Y;let⟨e5,d,hd,UZ⟩:=yy x5 H5 L Uo;let L:=I5.pinned (ZI j) (T.obj _ _ O);let j:=M.same e5;let sm5:av H H5:=x.trans e5;calc VP (hg _ s5 σ2 H5 W2 l d x5 u _ L j r5 UZ (step i d f l hd p3 Q)) (λ_ s6 Y=>?_) (λ_ _ z=>z);let⟨u,σ6,H6,ρ6,I6,M,L,cap6,q6⟩:=Y;let Q:u.B=(λa=>J.B a∨∃ k,bs k=some a)/\u.S=J.S:=⟨M.B.trans g.1,M.S.trans g.2⟩;let sm6:av H H6:=⟨λb o e n=>M.kp b o (λk z=>by let N:H b=none:=j.ke k b z;rw[e]at N;cases N) (sm5.kp b o e n) n,(λb l e=>by let⟨n,e1⟩:=sm5.tb b l e;let⟨l,e2⟩:=M.tb b _ e1;calc⟨n++l,by rw[e2,Array.append_assoc]⟩),λh=>M.ok (sm5.ok h)⟩;let BD:J.B w:=.inr rfl;let hD6:H6 w=some (.lst A):=M.keep w _ (λk z=>(j.kn k w z).2.1.1 (by rw[g.1];calc .inl BD)) (e5 _ _ hD3);let h:bg X.K W2.bad H5 bs 0 f A:=hds3.map (λ_ _ z=>z.same e5) λ_ _ q=>⟨q,λ_ z=>e5 _ _ z⟩
  let N:∀k b,bs k=some b->∃E,H6 b=some (.lst E):=λk b q=>let ⟨E,z⟩:=hls k b q;⟨E,M.keep b _ (λl y=>(j.kn l b y).2.1.1 (by rw[g.1];calc .inr ⟨k,q⟩)) (e5 _ _ z)⟩
  let n:bg X.K u.bad H6 bs 0 f A:=h.map (λ_ _ z=>ah.fwd j L M z) λk b q=>⟨q,λE z=>M.keep b _ (λl y=>(j.kn l b y).2.1.1 (by rw[g.1];calc .inr ⟨k,q⟩)) z⟩
  let M:∀{h:St} {H7:Hp} {j:Shared},Inv (YJ X sc ns xs cl fn C s H fp (fh X sc cl RR w C)) ([]++vt fp s5.heap) h H7 j->tn (i+1) j.heap/\∀b∈fp,H7 b=none:=fun {h H7 j} h=>by calc⟨T.keep _ _ _ O λb B o e=>(h.pin (b,o) (VA _ (VA _ (jQ B e)))).1,λb B=>?_⟩;let⟨o,e,_⟩:=T.obj _ _ O b B;exact(h.pin (b,o) (VA _ (VA _ (jQ B e)))).2.1
  calc VP (ht _ s6 _ H6 u _ _ I6 L q6) (λb j Y=>?_) (λ_ _ z=>z);let⟨H7,h,l,O⟩:=Y;cases b with
  |false =>
   rw[if_neg zCE]at O;rw[if_neg zCE];let⟨t7,f7⟩:=M h;calc⟨#[U] - (i+1),35,i+1,u,σ6,ρ6,H7,f,A,bs,rfl,Uo,h.UE,t7,f7,l _ _ hD6,Q,r,(λk b q=>let ⟨E,z⟩:=N k b q;⟨E,l _ _ z⟩),n.map (λ_ _ z=>z.same l) (λ_ _ q=>⟨q,λ_ z=>l _ _ z⟩),sm6.trans l,L.same l,cap6,O,35⟩
  |true =>
   rw[Rr rfl]at O;rw[Rr rfl];calc VP (he _ j _ H7 u _ _ h (L.same l) O) (λu8 s8 Y=>?_) (λ_ _ z=>z);let⟨v8,H8,e8,I8,r8,j,hd8,q8⟩:=Y;let h:=l.trans j;let hD8:=h _ _ hD6;let rl7:=L.same l;let L:bg X.K u.bad H7 bs 0 f A:=n.map (λ_ _ z=>z.same l) λ_ _ q=>⟨q,λ_ z=>l _ _ z⟩
   let smH:av H H8:=sm6.trans h;obtain⟨W8,n,hW8,O,hls8,rl8,hds8,hlen8⟩:∃(W8:Own) (n:yaj),(W8.B=(λa=>J.B a∨∃ k,n k=some a)/\W8.S=J.S)/\ie X.K H w #[f++[e8]] n/\(∀k b,n k=some b->∃E,H8 b=some (.lst E))/\Rel (YJ X sc ns xs cl fn C s H fp (fh X sc cl RR w C)) W8 H8 σ6 ρ6/\bg X.K W8.bad H8 n 0 (f++[e8]) (A++[v8])/\#[A]=#[f]:=by
    let ln:=L.len;cases e8 with
    |val d =>
     calc⟨u,bs,Q,r.up 52,(λk b q=>let ⟨E,z⟩:=N k b q;⟨E,h _ _ z⟩),rl7.same j,?_,ln⟩;calc(L.map (λ_ _ z=>z.same j) λ_ _ q=>⟨q,λ_ z=>j _ _ z⟩).V4 hd8
    |own Y7 =>
     let⟨a,ws,rfl,d,ka,J,WW⟩:=hd8;let⟨rb,db⟩:=rl7.ban j d ka J;let nH:H a=none:=(sm6.trans l).free d;let nD:a≠w:=λz=>by rw[z,l _ _ hD6]at d;cases d
     refine⟨⟨λb=>u.B b∨b=a,u.O,u.S⟩,λk=>if k=#[f] then some a else bs k,⟨?_,Q.2⟩,r.put nH ka nD (λk z=>?_),(λk b q=>?_),rb,?_,ln⟩
     funext b
     show(u.B b∨b=a)=_;rw[Q.1];calc propext ⟨λz=>?_,λz=>?_⟩;rcases z with(z|⟨k,z⟩)|z;calc .inl z;calc .inr ⟨k,by show(if k=#[f] then some a else bs k)=some b;rw[if_neg (Uv (r.ok k b z).1)];calc z⟩;calc .inr ⟨#[f],by show(if #[f]=#[f] then some a else bs #[f])=some b;rw[Rr rfl,z]⟩;obtain z|⟨k,z⟩:=z;calc .inl (.inl z);let z:(if k=#[f] then some a else bs k)=some b:=z;by_cases l:k=#[f];rw[Rr l]at z;cases z;calc .inr rfl;rw[if_neg l]at z;calc .inl (.inr ⟨k,z⟩);let⟨o,u⟩:=rl7.bt a (by rw[Q.1];calc .inr ⟨k,z⟩);rw[u]at d;cases d;let q:(if k=#[f] then some a else bs k)=some b:=q;by_cases l:k=#[f];rw[Rr l]at q;cases q;calc⟨_,J⟩;rw[if_neg l]at q;let⟨E,z⟩:=N k b q;calc⟨E,h _ _ z⟩;calc bg.V5 (L.map (B':=λk=>if k=#[f] then some a else bs k) (λU A z=>db U A z) λk b q=>⟨by show(if k=#[f] then some a else bs k)=some b;rw[if_neg (Uv (r.ok k b q).1)];calc q,λ_ z=>j _ _ z⟩) 52 J (WW.R9 λt b z=>?_);rcases z with(z|z)|z|z;calc .inl (.inl z);calc .inr z;calc .inl (.inr (.inl z));exact .inl (.inr (.inr z))
   let j:W8.B w:=by rw[hW8.1];exact .inl BD
   calc VP (yu (X:=YJ X sc ns xs cl fn C s H fp (fh X sc cl RR w C)) _ s8 _ H8 (.ref w) [v8] (.ref w) [u8] (λ_ H'=>H'=L2.upd H8 w (.lst (A++[v8]))) I8 rfl (.cons r8 .nil) ⟨w,A,v8,rfl,rfl,hD8,by rw[hlen8];lia,rfl⟩) (λ_ s9 Y=>?_) (λ_ _ z=>z);let⟨v9,H9,l,_,d⟩:=Y;subst d;let⟨u,J⟩:=M l;let⟨d,h⟩:=rl8.mutB (vs':=A++[v8]) j hD8 G;exact⟨#[U] - (i+1),35,i+1,W8,σ6,ρ6,_,f++[e8],A++[v8],n,rfl,Uo,l.UE,u,J,aQ,hW8,O,(λk b q=>let ⟨E,z⟩:=hls8 k b q;⟨E,by rw[aC (O.ok k b q).2.2.2];calc z⟩),hds8.map h (λk b q=>⟨q,λE z=>by rw[aC (O.ok k b q).2.2.2];calc z⟩),smH.ins G hD8 True.intro True.intro,d,cap6,q8,by rw[UQ,zCq];lia⟩
  let e:i=#[U]:=35
  refine Rw (T.done (YJ X sc ns xs cl fn C s H fp (fh X sc cl RR w C)) rfl rfl rfl hc i [] s3 _ H3 _ I3 (ZI fr3) WA (ys 35)) λrr s4 Y=>?_
  let⟨hr,d⟩:=Y;subst hr;subst e;let i:Inv X pins σ H3 s4:=I.Xu d.os d.base d.R5 d.bare Zq;let⟨m,h,_⟩:=d.loc;exact hRR s4 H3 m f bs i x h d.free (λz=>absurd I.lt (by rw[<- z];calc Xh.mpr WY)) (Sd I.sz WY) (λy c e z=>by
   let⟨v,q⟩:=I.cell y c e;calc absurd q.lt (by rw[z];calc Xh.mpr WY)) (λp hp z=>absurd (SJ (I.pin p hp).1) (by rw[z];calc Xh.mpr WY))
   ⟨G,hKD,_,hD3,r,hls,hds3.map (λ_ _ z=>z.R9 λt a z=>(by
    obtain z|z:=z;rcases(bad' t a).mpr (.inl z)with q|⟨k,q⟩| q;calc .inl (by rw[g.1];calc .inl q);cases q;calc .inr (.inr ⟨q.1,by rw[g.2];calc q.2⟩);obtain z|z:=z;calc .inl (by rw[g.1];calc .inl (z ▸ BD0));calc .inl (by rw[g.1];calc .inr z))) λ_ _ q=>⟨q,λ_ z=>z⟩⟩ p3
 exact codeAny_compStart_list (loop _ rfl) (T.self _ 0 _ _ _ (T.keep 0 s.heap Ux st (λb B o e=>old b o e)) (loop _ rfl))
set_option tactic.hygienic true in
def BI{w q B:Expr}{u:yai}{pos:Pos}{g:DG}{te:DM}{tc:DT}{W:Own}{ρ:Ro}{J:It}{N:Addr}{tn:Nat->Heap->Prop}{A:yas}{E:yaa}{RR:Value->Addr->Result->Shared->Prop}(hc:X.calm=true)(S:CSc X.env.scope sc xs ns)
  (hj:#[js]=#[ns]/\∀(i:Nat) (j:Nat) (n:Str),js[i]?=some j->ns[i]?=some n->X.N[j]?=some n)
  {Ed:Value->Prop} (he:∀(C:Addr) (l:Shared) (m:Hp) (fp:yae) (h:yaa),dG (bu X sc ns xs C l m fp h) Ed->PEM (bu X sc ns xs C l m fp h) w te) (ht:∀(C:Addr) (l:Shared) (m:Hp) (fp:yae) (h:yaa),dG (bu X sc ns xs C l m fp h) Ed->TsD (bu X sc ns xs C l m fp h) u tc)
  (O:∀D C:Addr,dG (bu X sc ns xs C s H fp (Eo X sc ns RR D C)) Ed) (I:Inv X pins σ H s) (r:Rel X W H σ ρ) (hg:∀(C:Addr) (l:Shared) (m:Hp) (fp:yae) (h:yaa),PGD (bu X sc ns xs C l m fp h) B g) (T:Turn X.prog X.w X.K B J fp N tn) (st:tn 0 s.heap) (Q:∀b∈fp,fF X pins H b) (U:YD X.K W H J A) (hz:#[A]<=sizeLine)
  (Pv:Nat->List LI->Prop) (p0:Pv 0 []) (step:∀j d a o,A[j]?=some d->Pv j a->kx #[xs] (js.map (bI ρ)) o->g d o λf=>kx #[xs] (js.map (bI ρ)) f/\tc f λb=>if b=true then te f (λe=>Pv (j+1) (a++[e]))else Pv (j+1) a)
  (G:∀(D C:Addr) (z:Shared) (H':Hp) (m':yam) (a:List LI) (bs:yaj),Inv X pins σ H' z->av H H'->z.heap.Ns C m'->H' C=none->C≠X.env.locals->X.RT.heap.objs.size<=C->(∀y c,X.env.cells.lookup y=some c->c≠C)->(∀p∈X.pn++pins,p.1≠C) →
   (H D=none/\X.K.lookup D=none/\∃L,H' D=some (.lst L)/\ie X.K H D #[a] bs/\(∀k b,bs k=some b->∃Y,H' b=some (.lst Y))/\bg X.K (λt b=>W.bad t b∨b=D∨∃ k,bs k=some b) H' bs 0 a L)->Pv #[A] a->RR (.ref D) C (.ok .next) z) :
  wpAny (model X.prog X.w) X.A (newList []) (λx U8=>wpAny (model X.prog X.w) X.A (newFunctionEnv sc X.env.globals (dH X.env ns) [] X.env.qual none .none (some X.env)) (λM ZH =>
   codeAny (model X.prog X.w) X.A (.compStart (.ListComp w [⟨B,q,u,0⟩] sc pos) 0 (.ref N) x {M with scope:=relabel sc X.env}) (RR x M.locals) ZH) E U8) E s:=by
 calc Z9 (wpAny_newFunctionEnv S.ZF (by intro y a;simp at a) (λm L l=>?_) S.kind);dsimp only at L l ⊢;generalize hH2:s.heap.push {cls:=.type "list", dict:=none,data:=.seq ([]:yad).toArray}=HP at L l ⊢;let hC:HP.objs.size=s.heap.objs.size+1:=by rw[<- hH2,zC4]
 let k:s.heap.objs.size≠HP.objs.size:=35
 let M:s.heap.objs.size<=HP.objs.size:=35
 let f:∀b,b<s.heap.objs.size->b≠HP.objs.size:=35
 let d:∀b o,s.heap.get? b=some o->m.get? b=some o:=λb o e=>l.extBut b o (f b (SJ e)) (by grind [Heap.get?_push_of_some])
 let a:m.get? s.heap.objs.size=some {cls:=.type "list", data:=.seq ([]:yad).toArray}:=l.extBut _ _ k (T6 _ (hH2 ▸ Vj _ rfl));generalize eD:s.heap.objs.size=D at k a;generalize eC:HP.objs.size=C at *;let j:H D=none:=by rw[<- eD];exact I.R5.fresh (Sx _)
 let x:X.K.lookup D=none:=by grind [Inv.Um]
 let hCf:H C=none:=I.R5.fresh M;let t:∀b∈fp,∃o,s.heap.get? b=some o:=λb Y=>let ⟨o,e,_⟩:=T.obj 0 s.heap st b Y;⟨o,e⟩
 let i:s.heap.objs.size<=D:=XJ eD;let p:UB X.prog X.w (L2.upd H D (.lst [])) m:=I.R5.laid d i ⟨Uw _,[],0,.nil,a⟩;let h:∀o,L2.upd H D o C=none:=λo=>by simp_all [aC,Ne.symm]
 let I1:Inv (bu X sc ns xs C s H fp (Eo X sc ns RR D C)) [] (List.replicate #[xs] none++js.map (kF σ)) (L2.upd H D (.lst [])) {s with heap:=m,toks:=s.toks+#[([]:List (Str×Value))]} :=
  Inv.comp I S hj Q t M rfl I.bare d L (h _) (av.upd j) (λb o e n=>by rw[aC (λz=>absurd (SJ e) 35)];calc n) p
 calc FO (cl:=dH X.env ns) (fn:=λ_=>false) hc (he C s H fp _ (O D C)) (ht C s H fp _ (O D C)) (hg C s H fp _) I r T st Q U hz Pv p0 step (G D C) j x i M d (λy c e=>.inl (nu e)) I1
end
theorem bg.vals{K:yac}{P:yak}{H:Hp}{B:yaj}:∀{b:yas} {k:Nat} {a:yar},bg K P H B k (b.map .val) a->ah K P H b a
 |[],_,_,h=>by subst h;calc ah.nil
 |d::r,_,_,h=>by let⟨v,u,rfl,b,a⟩:=h;calc ah.cons b a.vals
def Of(h:RU X e te):PEM X e λρ Q=>te ρ λd=>Q (.val d):=λa s b H W ρ Q I r t=>VP (h a s b H W ρ _ I r t) (λ_ _ e=>(by let⟨v,f,d,a,b,c,q,z⟩:=e;calc⟨v,f,.val d,a,b,c,q,z⟩)) λ_ _ z=>z
section
variable{X:Cx}{pins:yab}{σ:St}{H:Hp}{s:Shared}{sc:Scope}{ns:yah}{js:yag}{xs:yah}{fp:yae}
def jN{q l B:Expr}{o:yai}{pos:Pos}{g:DG}{te:DE}{tc:DT}{W:Own}{ρ:Ro}{J:It}{M:Addr}{tn:Nat->Heap->Prop}{A:yas}{E:yaa}{RR:Value->Addr->Result->Shared->Prop}(hc:X.calm=true)(S:CSc X.env.scope sc xs ns)
  (hj:#[js]=#[ns]/\∀(i:Nat) (j:Nat) (n:Str),js[i]?=some j->ns[i]?=some n->X.N[j]?=some n)
  {Ed:Value->Prop} (he:∀(C:Addr) (h:Shared) (m:Hp) (fp:yae) (f:yaa),dG (bu X sc ns xs C h m fp f) Ed->RU (bu X sc ns xs C h m fp f) q te) (Y:∀(C:Addr) (h:Shared) (m:Hp) (fp:yae) (f:yaa),dG (bu X sc ns xs C h m fp f) Ed->TsD (bu X sc ns xs C h m fp f) o tc)
  (U:∀D C:Addr,dG (bu X sc ns xs C s H fp (Eo X sc ns RR D C)) Ed) (I:Inv X pins σ H s) (r:Rel X W H σ ρ) (hg:∀(C:Addr) (h:Shared) (m:Hp) (fp:yae) (f:yaa),PGD (bu X sc ns xs C h m fp f) B g) (T:Turn X.prog X.w X.K B J fp M tn) (st:tn 0 s.heap) (Y8:∀b∈fp,fF X pins H b) (O:YD X.K W H J A) (hz:#[A]<=sizeLine)
  (Pv:Nat->yas->Prop) (p0:Pv 0 []) (step:∀j d a u,A[j]?=some d->Pv j a->kx #[xs] (js.map (bI ρ)) u->g d u λk=>kx #[xs] (js.map (bI ρ)) k/\tc k λb=>if b=true then te k (λe=>Pv (j+1) (a++[e]))else Pv (j+1) a)
  (L:∀(D C:Addr) (w:Shared) (H':Hp) (G:yam) (a:List PD.D),Inv X pins σ H' w->av H H'->w.heap.Ns C G->H' C=none->C≠X.env.locals->X.RT.heap.objs.size<=C->(∀y c,X.env.cells.lookup y=some c->c≠C)->(∀p∈X.pn++pins,p.1≠C) →
   (H D=none/\X.K.lookup D=none/\∃z,H' D=some (.lst z)/\ah X.K (λt b=>W.bad t b∨b=D) H' a z)->Pv #[A] a->RR (.ref D) C (.ok .next) w) :
  wpAny (model X.prog X.w) X.A (newList []) (λx U8=>wpAny (model X.prog X.w) X.A (newFunctionEnv sc X.env.globals (dH X.env ns) [] X.env.qual none .none (some X.env)) (λN Q =>
   codeAny (model X.prog X.w) X.A (.compStart (.ListComp q [⟨B,l,o,0⟩] sc pos) 0 (.ref M) x {N with scope:=relabel sc X.env}) (RR x N.locals) Q) E U8) E s:=by
 let e:∀k l,(∃q,l.map LI.val=q.map LI.val/\Pv k q)=Pv k l:=λk l=>propext ⟨λc=>(by let⟨q,a,b⟩:=c;calc(List.map_inj_right 35).mp a ▸ b),35⟩
 calc BI (te:=λρ Q=>te ρ λd=>Q (.val d)) hc S hj (λC h m fp f p=>Of (he C h m fp f p)) Y U I r hg T st Y8 O hz (λk o=>∃q,o=q.map LI.val/\Pv k q) 46 ?_ ?_;rintro j d _ u hd ⟨q,rfl,a⟩ cr;let b:∀x,q.map LI.val++[LI.val x]=(q++[x]).map LI.val:=46
 simp only[b,e]
 cbv
 rintro D C w H' G _ bs l sm k j i h g f ⟨e,d,z,c,_,_,b⟩ ⟨q,rfl,a⟩;calc L D C w H' G q l sm k j i h g f ⟨e,d,z,c,b.vals.R9 35⟩ a
def As{X:Cx}{sc:Scope}{ns:yah}{x:Str}{fp:yae}(S:CSc X.env.scope sc [x] ns):PGD (bu X sc ns [x] C Rt RB fp XE) (.Name x px) (gN 0) :=
 have a:(compEnvC sc (dH X.env ns) C X.env).scope.names.lookup x=some .local:=lookup_relabel_local (S.tgt x 52)
 bq (X:=bu X sc ns [x] C Rt RB fp XE) 0 S.nd rfl (.inl a) (.inr a)
def KS{h:yas}{Pv:Nat->yas->Prop}{tc:DT}{te:DE}{g:Ro}(step:∀j d c,h[j]?=some d->Pv j c->tc (some (.val d)::g) λb=>if b=true then te (some (.val d)::g) (λe=>Pv (j+1) (c++[e]))else Pv (j+1) c) :
  ∀ j d c f,h[j]?=some d->Pv j c->kx 1 g f->gN 0 d f λa=>kx 1 g a/\tc a λb=>if b=true then te a (λe=>Pv (j+1) (c++[e]))else Pv (j+1) c:=by
 rintro j d c f f b ⟨a,e,rfl⟩
 match a,e with
 |[a],_=>calc⟨⟨[some (.val d)],rfl,rfl⟩,step j d c f b⟩
def uI(wi:DA)(js:yag)(tc:DT)(te:DE):DE:=λc Q=>wi c λf=>#[f]<=sizeLine/\∃Pv:Nat->yas->Prop,Pv 0 [] ∧
 (∀j d a,f[j]?=some d->Pv j a->tc (some (.val d)::js.map (bI c)) λb=>if b=true then te (some (.val d)::js.map (bI c)) (λe=>Pv (j+1) (a++[e]))else Pv (j+1) a)/\∀a,Pv #[f] a->Q (.lst true a)
def br(N:yah)(ns:yah)(js:yag):Prop:=#[js]=#[ns]/\∀(i:Nat) (j:Nat) (n:Str),js[i]?=some j->ns[i]?=some n->N[j]?=some n
def br.nil:br N [] []:=⟨rfl,46⟩
def br.cons{ns:yah}{js:yag}{n:Str}(j:Nat)(h:br N ns js)(e:N[j]?=some n:=by rfl):br N (n::ns) (j::js):=⟨by simp[h.1],λi c m b a=>by
 cases i with
 |zero=>simp at b a;subst b a;calc e
 |succ i=>calc h.2 i c m (by simpa using b) (by simpa using a)⟩
variable{elt iter:Expr}{ifs:yai}{px pos:Pos}{te:DE}{tc:DT}{wi:DA}{x:Str}
def bV(n:X.calm=true)(S:CSc X.env.scope sc [x] ns)(l:br X.N ns js)(e:YI X (.Name x px) iter wi)(k:∀(C:Addr) (b:Shared) (c:Hp) (fp:yae) (a:yaa),TsD (bu X sc ns [x] C b c fp a) ifs tc)
  (m:∀(C:Addr) (b:Shared) (c:Hp) (fp:yae) (a:yaa),RU (bu X sc ns [x] C b c fp a) elt te) (f:closureFor sc X.env=pure (dH X.env ns):=by rfl) (hs:∀x,foldedSetIterable iter X.env x=pure x:=by intro _;rfl) :
  RU X (.ListComp elt [⟨.Name x px,iter,ifs,0⟩] sc pos) (uI wi js tc te):=by
 intro pins s σ H W d Q I r h;calc zC7 (use:=none) rfl hs f S.kind S.names (Rw (e pins s σ H W d _ I r h) λv z d=>Rw d λZr y d=>?_);let⟨A,fp,tn,J,H2,E,e,q,j,T,p,o,f,h,Pv,g,step,i⟩:=d;subst e;calc jN (RR:=λd C=>compPost (model X.prog X.w) X.A X.xe none (DP X pins σ W H Q) d C) n S l (Ed:=λ_=>False) (λC b c fp a _=>m C b c fp a) (λC b c fp a _=>k C b c fp a) (λ_ _=>dG.no) q (r.same j) (λC b c fp a=>As S) T p o f h Pv g (KS step) ?_;intro D C k b l a u sm p c h g f d ⟨m,n,w,o,t⟩ pv;let q:Den X.K W.bad b (.lst true a) (.ref D):=Den.lst ((r.same j).fresh m) (.new o n) (t.R9 35);calc⟨l,p,λB l=>?_⟩;calc⟨.ref D,b,_,u.turned (t':=k.toks) (λb o k e=>(l.2 b k).trans e) c h (.inr g) f d,rfl,j.trans sm,q,i a pv⟩
def nK{y:Str}{e:Pos}(i:Nat)(u:X.N.Nodup)(t:X.calm=true)(S:CSc X.env.scope sc [x] ns)(o:br X.N ns js)(g:YI X (.Name x px) iter wi)(n:∀(C:Addr) (b:Shared) (c:Hp) (fp:yae) (a:yaa),TsD (bu X sc ns [x] C b c fp a) ifs tc)
  (q:∀(C:Addr) (b:Shared) (c:Hp) (fp:yae) (a:yaa),RU (bu X sc ns [x] C b c fp a) elt te) (p:X.N[i]?=some y:=by rfl) (f:X.env.scope.names.lookup y=some .local:=by rfl) (j:closureFor sc X.env=pure (dH X.env ns):=by rfl) (hs:∀x,foldedSetIterable iter X.env x=pure x:=by intro _;rfl)
  (d:swapsWith (.ListComp elt [⟨.Name x px,iter,ifs,0⟩] sc pos) (some (.Name y py)) e.line X.env=pure true:=by rfl) :
  US X (.Assign [.Name y py] (.ListComp elt [⟨.Name x px,iter,ifs,0⟩] sc pos) e) (zZ i (uI wi js tc te)):=by
 intro pins s σ H W e E I r h;rw[exec_Assign_Name_used _ _ _ _ d];calc Rm (zDZ (Rm ?_));refine Rm (VP (zC7 (use:=some (assign (.Name y py) X.env)) (Q:=λ_ d=>Y3 X pins W H E .next d) rfl hs j S.kind S.names
  (Rw (g pins s σ H W e _ I r h) λv L e=>Rw e λZr G h=>?_)) (λ_ d e=>Rz (Rz e)) λ_ _ e=>e)
 let⟨M,fp,tn,J,H2,U,e,A,g,T,z,w,j,l,Pv,k,step,m⟩:=h;subst e;calc jN (RR:=λh C=>compPost (model X.prog X.w) X.A X.xe (some (assign (.Name y py) X.env)) (λ_ d=>Y3 X pins W H E .next d) h C) t S o (Ed:=λ_=>False) (λC b c fp a _=>q C b c fp a) (λC b c fp a _=>n C b c fp a) (λ_ _=>dG.no) A (r.same g) (λC b c fp a=>As S) T z w j l Pv k (KS step) ?_;intro D C d n o c q sm w d l k j h ⟨a,b,B,t,z⟩ pv;let y:Den X.K W.bad n (.lst true c) (.ref D):=Den.lst ((r.same g).fresh a) (.new t b) (z.R9 35);let t:=(r.same g).same sm;calc wpAny_assign_Name (qS (v:=.ref D) q u p (.inl f) rfl (λb u r=>?_) (.inr f));let⟨a,f,N⟩:=r;let r:C≠a:=72
 calc⟨o,w.sameBut f r,λO a=>?_⟩;calc⟨W.drop i,_,n,u.turned (t':=b.toks) (λb o f e=>(a.2 b f).trans e) d l (.inr k) j h,(Sm.same (g.trans sm)).trans (Sm.drop W n i),_,t.put (Inv.X2 q p) y,m c pv⟩
end
noncomputable def NI(osc a:Scope)(xs ns:yah):Bool :=
 decide (a.kind=.function) && (a.names.all λy=>decide (y.2 ≠ .cell)) && (a.names.all λy=>decide (y.2=.local->a.names.lookup y.1=some .local)) && (xs.all λx=>decide (a.names.lookup x=some .local)) &&
 (a.names.all λy=>decide (y.2=.free->y.1∈ns/\osc.names.lookup y.1=some .cell)) && (ns.all λn=>decide (a.names.lookup n=some .free/\osc.names.lookup n=some .cell)) && decide (xs++ns).Nodup
def bB(h:NI osc sc xs ns=true):CSc osc sc xs ns:=by unfold NI at h;simp only[zCD]at h;let⟨⟨⟨⟨⟨⟨a,g⟩,b⟩,f⟩,e⟩,d⟩,c⟩:=h;calc⟨Wh a,λy a=>Wh (zDV.mp g y a),λy a=>Wh (zDV.mp b y a),λx b=>Wh (zDV.mp f x b),λy a=>Wh (zDV.mp e y a),λn a=>Wh (zDV.mp d n a),Wh c⟩
inductive YK:yai->yah->Prop where
 |nil:YK [] []
 |cons {x:Str} {p:Pos} {es:yai} {xs:yah} (h:YK es xs):YK (.Name x p::es) (x::xs)
def qa:Nat->Nat->DGs
 |_,0=>k8
 |i,n+1=>b9 (gN i) (qa (i+1) n)
theorem uS:∀(ys:yas) (b a c:Ro) (Q:Ro->Prop),#[a]=#[ys]->Q (b++ys.map (λd=>some (Sl.val d))++c)->qa #[b] #[ys] ys (b++a++c) Q
 |[],b,a,c,Q,f,h=>by have:a=[]:=zBN f;subst this;calc⟨rfl,h⟩
 |d::r,b,a,c,Q,f,h=>by
  match a,f with
  |a::q,f =>
   calc⟨d,r,rfl,?_⟩;show qa (#[b]+1) #[r] r ((b++a::q++c).set #[b] (some (.val d))) Q;let e:(b++a::q++c).set #[b] (some (Sl.val d))=(b++[some (Sl.val d)])++q++c:=by rw[WI,List.set_append_right _ _ (Sx _),zDS];simp
   let a:#[b]+1=#[b++[some (Sl.val d)]]:=52
   rw[e,a];calc uS r _ q c Q (by simpa using f) ?_;simpa using h
section
variable{X:Cx}{sc:Scope}{ns xs:yah}{js:yag}
theorem YK.len:∀{es:yai} {ys:yah},YK es ys->#[assignEach es env]=#[ys]/\(assignEach es env).findIdx? (·.1)=none
 |_,_,.nil=>⟨rfl,rfl⟩
 |_,_,.cons (x:=x) (p:=p) (es:=es) h=>by let⟨b,a⟩:=YK.len (env:=env) h;let e:assignEach (.Name x p::es) env=(false,assign (.Name x p) env)::assignEach es env:=rfl;rw[e];calc⟨by rw[Xo,b];rfl,?_⟩;rw[List.findIdx?_cons,a];rfl
theorem nQ(S:CSc X.env.scope sc xs ns):∀{es:yai} {ys:yah} (i:Nat),YK es ys->(∀k y,ys[k]?=some y->xs[i+k]?=some y)->wC (bu X sc ns xs C Rt RB fp XE) es (qa i #[ys])
 |_,_,_,.nil,_=>rD
 |_,_,i,.cons (x:=x) (xs:=ys) h,c=>by
  let a:xs[i]?=some x:=c 0 x rfl;let b:(compEnvC sc (dH X.env ns) C X.env).scope.names.lookup x=some .local:=lookup_relabel_local (S.tgt x (UX a));let d:(xs++ns)[i]?=some x:=by rw[WR (VE.mp a).1];exact a
  exact cD (bq (X:=bu X sc ns xs C Rt RB fp XE) i S.nd d (.inl b) (.inr b)) (nQ S (i+1) h λk y e=>by
   have:=c (k+1) y e
   lia)
variable{elt iter:Expr}{ifs es:yai}{kt:Nat}{tp pos:Pos}{te:DE}{tc:DT}{wi:DA}
def j7(ys:yas):Ro:=ys.map λd=>some (Sl.val d)
def zW(n:Nat)(wi:DA)(js:yag)(tc:DT)(te:DE):DE:=λe Q=>wi e λf=>#[f]<=sizeLine/\∃Pv:Nat->yas->Prop,Pv 0 [] ∧
 (∀j d a,f[j]?=some d->Pv j a->∃c,(d=.tup c∨∃ t,d=.lst t c)/\#[c]=n/\tc (j7 c++js.map (bI e)) λb=>if b=true then te (j7 c++js.map (bI e)) (λe=>Pv (j+1) (a++[e]))else Pv (j+1) a)/\∀a,Pv #[f] a->Q (.lst true a)
def stepT{n:Nat}{h:yas}{Pv:Nat->yas->Prop}{g:Ro}(step:∀j d a,h[j]?=some d->Pv j a->∃ys,(d=.tup ys∨∃ t,d=.lst t ys)/\#[ys]=n/\tc (j7 ys++g) λb=>if b=true then te (j7 ys++g) (λe=>Pv (j+1) (a++[e]))else Pv (j+1) a) :
  ∀ j d a f,h[j]?=some d->Pv j a->kx n g f->k9 n (qa 0 n) d f λc=>kx n g c/\tc c λb=>if b=true then te c (λe=>Pv (j+1) (a++[e]))else Pv (j+1) a:=by
 rintro j d a f k f ⟨c,i,rfl⟩;let⟨ys,e,b,h⟩:=step j d a k f;calc⟨ys,e,b,?_⟩;subst b;calc uS ys [] c g _ i ⟨⟨j7 ys,by simp[j7],rfl⟩,h⟩
def Ac(k:X.calm=true)(S:CSc X.env.scope sc xs ns)(q:br X.N ns js)(g:YK es xs)(j:YI X (.Tuple es kt tp) iter wi)(p:∀(C:Addr) (c:Shared) (d:Hp) (a:yae) (b:yaa),TsD (bu X sc ns xs C c d a b) ifs tc)
  (t:∀(C:Addr) (c:Shared) (d:Hp) (a:yae) (b:yaa),RU (bu X sc ns xs C c d a b) elt te) (l:closureFor sc X.env=pure (dH X.env ns):=by rfl) (hs:∀x,foldedSetIterable iter X.env x=pure x:=by intro _;rfl) :
  RU X (.ListComp elt [⟨.Tuple es kt tp,iter,ifs,0⟩] sc pos) (zW #[xs] wi js tc te):=by
 intro f s i H W e Q I r h;calc zC7 (use:=none) rfl hs l S.kind S.names (Rw (j f s i H W e _ I r h) λv E e=>Rw e λZr B h=>?_);let⟨G,a,tn,J,H2,M,e,w,l,T,u,s,m,o,Pv,n,step,j⟩:=h;subst e;calc jN (RR:=λh C=>compPost (model X.prog X.w) X.A X.xe none (DP X f i W H Q) h C) k S q (Ed:=λ_=>False) (λC c d a b _=>t C c d a b) (λC c d a b _=>p C c d a b) (λ_ _=>dG.no) w (r.same l) (λC c d a b=>qe (X:=bu X sc ns xs C c d a b) k (nQ S 0 g λk y q=>by simpa using q) (YK.len g).1 (YK.len g).2) T u s m o Pv n (stepT step) ?_;intro D C k b m a t sm p c i h f d ⟨g,n,A,o,s⟩ pv;let q:Den X.K W.bad b (.lst true a) (.ref D):=Den.lst ((r.same l).fresh g) (.new o n) (s.R9 λ_ _ z=>.inl z);calc⟨m,p,λL m=>?_⟩;calc⟨.ref D,b,_,t.turned (t':=k.toks) (λb o g e=>(m.2 b g).trans e) c i (.inr h) f d,rfl,l.trans sm,q,j a pv⟩
def BK{y:Str}{a:Pos}(i:Nat)(A:X.N.Nodup)(m:X.calm=true)(S:CSc X.env.scope sc xs ns)(u:br X.N ns js)(j:YK es xs)(o:YI X (.Tuple es kt tp) iter wi)(q:∀(C:Addr) (d:Shared) (f:Hp) (b:yae) (c:yaa),TsD (bu X sc ns xs C d f b c) ifs tc)
  (w:∀(C:Addr) (d:Shared) (f:Hp) (b:yae) (c:yaa),RU (bu X sc ns xs C d f b c) elt te) (t:X.N[i]?=some y:=by rfl) (l:X.env.scope.names.lookup y=some .local:=by rfl) (p:closureFor sc X.env=pure (dH X.env ns):=by rfl) (hs:∀x,foldedSetIterable iter X.env x=pure x:=by intro _;rfl)
  (e:swapsWith (.ListComp elt [⟨.Tuple es kt tp,iter,ifs,0⟩] sc pos) (some (.Name y py)) a.line X.env=pure true:=by rfl) :
  US X (.Assign [.Name y py] (.ListComp elt [⟨.Tuple es kt tp,iter,ifs,0⟩] sc pos) a) (zZ i (zW #[xs] wi js tc te)):=by
 intro a s k H W n E I r h;rw[exec_Assign_Name_used _ _ _ _ e];calc Rm (zDZ (Rm ?_));refine Rm (VP (zC7 (use:=some (assign (.Name y py) X.env)) (Q:=λ_ g=>Y3 X a W H E .next g) rfl hs p S.kind S.names
  (Rw (o a s k H W n _ I r h) λv M e=>Rw e λZr L k=>?_)) (λ_ g e=>Rz (Rz e)) λ_ _ e=>e)
 let⟨N,b,tn,J,H2,U,e,B,h,T,z,x,o,s,Pv,p,step,n⟩:=k;subst e;calc jN (RR:=λk C=>compPost (model X.prog X.w) X.A X.xe (some (assign (.Name y py) X.env)) (λ_ g=>Y3 X a W H E .next g) k C) m S u (Ed:=λ_=>False) (λC d f b c _=>w C d f b c) (λC d f b c _=>q C d f b c) (λ_ _=>dG.no) B (r.same h) (λC d f b c=>qe (X:=bu X sc ns xs C d f b c) m (nQ S 0 j λk y q=>by simpa using q) (YK.len j).1 (YK.len j).2) T z x o s Pv p (stepT step) ?_;intro D C g p o c s sm u g f m d k ⟨j,a,G,b,x⟩ pv;let w:Den X.K W.bad p (.lst true c) (.ref D):=Den.lst ((r.same h).fresh j) (.new b a) (x.R9 λ_ _ z=>.inl z);let j:=(r.same h).same sm;calc wpAny_assign_Name (qS (v:=.ref D) s A t (.inl l) rfl (λb A x=>?_) (.inr l));let⟨a,r,l⟩:=x;let x:C≠a:=by
  obtain z|z:=l;rw[z];calc f;exact λq=>d y a z q.symm
 calc⟨o,u.sameBut r x,λO a=>?_⟩;calc⟨W.drop i,_,p,A.turned (t':=b.toks) (λb o l e=>(a.2 b l).trans e) g f (.inr m) d k,(Sm.same (h.trans sm)).trans (Sm.drop W p i),_,j.put (Inv.X2 s t) w,n c pv⟩
end
def pV{a:Type}{n:Nat}{wi:DA}{js:yag}{tc:DT}{te:DE}{Q:D->Prop}(zs:List a)(f:a->yas)(c:a->Bool)(g:a->D)(b:∀R:yas->Prop,R (zs.map λz=>.tup (f z))->wi ρ R)(hz:#[zs]<=sizeLine)(h:∀z,#[f z]=n)
  (l:∀z∈zs,∀K:Bool->Prop,K (c z)->tc (j7 (f z)++js.map (bI ρ)) K) (k:∀z∈zs,c z=true->∀K:D->Prop,K (g z)->te (j7 (f z)++js.map (bI ρ)) K) (q:Q (.lst true ((zs.filter c).map g))):zW n wi js tc te ρ Q:=by
 calc b _ ⟨46,λj a=>a=((zs.take j).filter c).map g,52,λj d a b c=>?_,λa c=>?_⟩;rw[UR]at b;cases ex:zs[j]? with
 |none=>cbv
 |some x =>
  rw[ex]at b;let i:x∈zs:=UX ex;let e:zs.take (j+1)=zs.take j++[x]:=by simp_all [zDQ]
  grind
 grind
def OG(k:Bool)(R:Int->Prop)(S:Bool->Prop):((∃i:Int,[D.bl k]=[.int i]/\R i)∨∃ j:Bool,[D.bl k]=[.bl j]/\S j)=S k:=35
def qk(b:Bool):okD (.bl b):=by ext okD;rw[UK,X1]<;>first|calc⟨rfl,rfl⟩| (intros;contradiction)
def JC(i:Int):okD (.int i)=True:=eq_true (CY i)
def Ml(b:Bool):okD (.bl b)=True:=eq_true (qk b)
def JD:okD .RZ=True:=eq_true Mm
def Mn(a b c:Int):okD (.tup [.int a,.int b,.int c])=True:=eq_true (OX a b c)
theorem j9(i j:Int):eqD (.int i) (.int j)=decide (i=j):=rfl
def F8(i j:Bool):eqD (.bl i) (.bl j)=decide (i=j):=by
 cases i<;>cases j<;>rfl
def OJ(t:Bool)(xs:yas)(R:yas->Prop):(∃t' a,D.lst t xs=.lst t' a/\R a)=R xs:=by apply propext;constructor;rintro⟨_,_,e,q⟩;cases e;calc q;intro q;calc⟨t,xs,rfl,q⟩
def LJ(a:yas)(r:Ro)(R:yas->Prop):(∃b,(some (Sl.own a)::r)[0]?=some (some (Sl.own b))/\R b)=R a:=by apply propext;constructor;rintro⟨_,e,q⟩;let b:some (some (Sl.own a))=some (some (Sl.own _)):=e;cases b;calc q;intro q;calc⟨a,rfl,q⟩
theorem LK(n:Nat)(x:Option Sl)(r:Ro)(R:yas->Prop):(∃a,(x::r)[n+1]?=some (some (Sl.own a))/\R a)=(∃a,r[n]?=some (some (Sl.own a))/\R a):=rfl
theorem OA(d:D)(r:Ro):bI (some (.val d)::r) 0=some (.val d):=rfl
theorem OC(r:Ro):bI (none::r) 0=none:=rfl
theorem OB(n:Nat)(x:Option Sl)(r:Ro):bI (x::r) (n+1)=bI r n:=rfl
def q9{t g:Int}(a:g≠0)(b:g∣t)(h:Bd n t):Bd n (t.fdiv g):=Xf (PM.sG a b) h
def Fx{x y z:Int}(h:¬(x=0/\y=0/\z=0))(i:Bd n x)(g:Bd n y)(hz:Bd n z):Bd n (PM.Tz x y z l):=by
 unfold Bd at *;rw[PM.wO];let c:=zCA.mpr (PM.nM x y z);let b:=zCA.mpr (PM.nN x y z);let a:=zCA.mpr (PM.nP x y z);simp only[Int.natAbs_natCast]at c b a;by_cases f:x=0;by_cases d:y=0;let j:z≠0:=λe=>h ⟨f,d,e⟩
 have:=zCx 35 a
 lia
 have:=zCx 35 b
 lia
 have:=zCx 35 c
 lia
def gk(h:Bd 200 a)(g:Bd 200 b)(f:Bd 200 c)(e:Bd 200 d):Bd 1000 (a*b - c*d):=((h.mul g).sub (f.mul e)).mono 29
noncomputable def sg(n:Int):Int:=if 0<n then 1 else if n<0 then -1 else 0
def rk(a0 a1 c a b1 b:Int):Int:=if sg (a1*a - b1*a0)=0 then sg (c*a - b*a0)else sg (a1*a - b1*a0)
noncomputable def sw(a0 a1 d f b1 c e b a:Int):Int:=a0*(b1*a - b*c)+f*(b*d - a1*a)+e*(a1*c - b1*d)
structure Pl(n:Nat)(a b c:Int):Prop where
 pos:0<a
 low:PM.g3 a b c=1
 b0:Bd n a
 b1:Bd n b
 b2:Bd n c
def jP{d k x y z:Int}(f:d∣k*x)(e:d∣k*y)(c:d∣k*z)(b:PM.g3 x y z=1):d∣k:=by
 let a:d∣(Int.gcd (k*x) (k*y):Int):=zDB f e;rw[zDU]at a;let e:d∣k*(Int.gcd x y:Int):=by
  have:((k.natAbs*Int.gcd x y:Nat):Int)∣k*(Int.gcd x y:Int):=by rw[Int.natCast_mul];exact Int.mul_dvd_mul (Int.natAbs_dvd.mpr 46) 46
  exact zCt a this
 let a:d∣(Int.gcd (k*(Int.gcd x y:Int)) (k*z):Int):=zDB e c;rw[zDU]at a;let c:Int.gcd (Int.gcd x y:Int) z=1:=b;rw[c,Nat.mul_one]at a;calc zCt a (Int.natAbs_dvd.mpr 46)
def Pc(b x y:Int):D:=T3 (b.fdiv (PM.Tz b x y b)) (x.fdiv (PM.Tz b x y b)) (y.fdiv (PM.Tz b x y b))
structure Rg(d:D)(b x y:Int):Prop where
 ex:∃p q r,d=T3 p q r/\Bd 4000 p/\Bd 4000 q/\Bd 4000 r/\0<p/\p*x=b*q/\p*y=b*r/\PM.g3 p q r=1
end PD
namespace PZ
open PySem PySem.Spec PyProof.Rows
def Vs:Bool->Heap->Addr->Addr->Nat->Prop
 |true,h,b,a,i=>h.IsListIter b a i
 |false,h,b,a,i=>h.IsTupleIter b a i
def UT:Bool->Heap->Addr->yao->Prop
 |true,h,a,b=>h.IsList a b
 |false,h,a,b=>h.IsTuple a b
def jb:Bool->String
 |true => "list_iterator"
 |false => "tuple_iterator"
section
variable{k:Bool}{h h':Heap}{it a b:Addr}{i:Nat}{xs:yao}
def Vs.of(x:Vs k h it a i)(e:∀o,h.get? it=some o->h'.get? it=some o):Vs k h' it a i:=by
 cases k with
 |true=>let⟨o,c,r⟩:=x;calc⟨o,e o c,r⟩
 |false=>let⟨o,c,r⟩:=x;calc⟨o,e o c,r⟩
def UT.of(x:UT k h a xs)(e:∀o,h.get? a=some o->h'.get? a=some o):UT k h' a xs:=by
 cases k with
 |true=>let⟨o,c,r⟩:=x;calc⟨o,e o c,r⟩
 |false=>let⟨o,c,r⟩:=x;calc⟨o,e o c,r⟩
def Vs.obj(x:Vs k h it a i):∃o,h.get? it=some o/\o.cls=.type (jb k)/\o.data=.fields #[.ref a,.int i 0]:=by
 cases k with
 |true=>calc x
 |false=>calc x
def UT.obj(x:UT k h a xs):∃o n,h.get? a=some o/\o.data=.seq xs n:=by
 cases k with
 |true=>let⟨o,c,_,n,r⟩:=x;grind
 |false=>let⟨o,c,_,n,r⟩:=x;grind
end
section
variable{prog:Program}{w:World}{A:Around}{E:yaa}{s:Shared}{k:Bool}{it a:Addr}{i:Nat}{xs:yao}
def ve{x:Value}{Q:yaa}(d:Vs k s.heap it a i)(hs:UT k s.heap a xs)(f:xs[i]?=some x)(g:∀h',Vs k h' it a (i+1)->Heap.SameBut it s.heap h'->Q x {s with heap:=h'}) :
  wpAny (model prog w) A (Builtin.SmallTypes.nextOf (.ref it)) Q E s:=by
 cases k with
 |true=>calc wpAny_nextOf_list_item d hs f g
 |false =>
  let⟨o,c,j,b⟩:=id d;let⟨l,h,_,m,e⟩:=hs;calc Rm (zBa (name:=Str.ofString "__next__") (zDA d) F.slot_tuple_iterator_next (YY F.slot_tuple_iterator_next (zDA d) F.entry_tuple_iterator_next ?_ (F.args_tuple_iterator_next_1 _)));show wpAny _ _ (field (.ref it) 0 >>= _) _ _ s;calc Rm (VY c b (x:=.ref a) rfl ?_);calc Rm (VY c b (x:=.int i 0) rfl ?_);calc Rm (Yy h e ?_);simp only[Int.toNat_natCast,f];calc Rm (zDT c b 52 (Rz ⟨x,rfl,Rz (g _ ⟨_,YS _ c (Obj.isFreed_of_fields (Obj.data_mapFields b _)),(Obj.cls_mapFields ..).trans j,by rw[Obj.data_mapFields b];simp[rawInt]⟩ (zB7 ..))⟩))
def En(hh:A.handled=none)(b:Vs k s.heap it a i)(hs:UT k s.heap a xs)(f:xs[i]?=none)
  (g:∀h' e,Heap.ExtBut it s.heap h'->(∃o,h'.get? e=some o/\o.cls=.type "StopIteration")->E (.ref e) {s with heap:=h'}):wpAny (model prog w) A (Builtin.SmallTypes.nextOf (.ref it)) Q E s:=by
 cases k with
 |true=>calc wpAny_nextOf_list_end hh b hs f g
 |false =>
  let⟨o,c,n,e⟩:=id b;let⟨j,h,_,l,d⟩:=hs;calc Rm (zBa (name:=Str.ofString "__next__") (zDA b) F.slot_tuple_iterator_next (YY F.slot_tuple_iterator_next (zDA b) F.entry_tuple_iterator_next ?_ (F.args_tuple_iterator_next_1 _)));show wpAny _ _ (field (.ref it) 0 >>= _) _ _ s;calc Rm (VY c e (x:=.ref a) rfl ?_);calc Rm (VY c e (x:=.int i 0) rfl ?_);calc Rm (Yy h d ?_);simp only[Int.toNat_natCast,f];calc Rm (Y1 (Rm (zDT c e 52 ?_)));calc Rm ?_;calc Rm (m:=firstArgMember _ _) (wpAny_of_eq (a:=Value.none) (by rfl) ?_);calc Z9 ?_ (by size_fits);calc Rm (wpAny_handled ?_);first|rw[show A.in1.handled=none from hh]|rw[hh]
  calc Rm (Rz (wpAny_throw (g _ _ (((zB7 ..).extBut.push _).push _) ⟨_,Vj _ rfl,rfl⟩)))
end
structure Ap(z TI TO i1 i2:Addr):Prop where
 a1:TI≠z
 a2:TO≠z
 a3:i1≠z
 a4:i2≠z
 a5:TI≠TO
 a6:TI≠i1
 a7:TI≠i2
 a8:TO≠i1
 a9:TO≠i2
 b1:i1≠i2
structure Out(z TO i1 i2 l:Addr):Prop where
 c1:l≠z
 c2:l≠TO
 c3:l≠i1
 c4:l≠i2
structure ZSt(k1 k2:Bool)(z TI TO i1 i2 l1 l2:Addr)(i:Nat)(h:Heap):Prop where
 z:IsZip h z TI TO .none
 ti:IsPair h TI (.ref i1) (.ref i2)
 to:∃a b,IsPair h TO a b
 s1:Vs k1 h i1 l1 i
 s2:Vs k2 h i2 l2 i
section
variable{prog:Program}{w:World}{A:Around}{E:yaa}{s:Shared}{k1 k2:Bool}{z TI TO i1 i2 l1 l2:Addr}{i:Nat}{xs ys:yao}
def K6{x y:Value}{Q:yan->Shared->Prop}(D:Ap z TI TO i1 i2)(l:Out z TO i1 i2 l1)(j:Out z TO i1 i2 l2)(Z:ZSt k1 k2 z TI TO i1 i2 l1 l2 i s.heap)(f:UT k1 s.heap l1 xs)(r:UT k2 s.heap l2 ys)(h:xs[i]?=some x)(t:ys[i]?=some y)
  (G:∀h',IsZip h' z TI TO (rawInt s.heap.objs.size)->IsPair h' TI (.ref i1) (.ref i2)->IsPair h' TO x y->Vs k1 h' i1 l1 (i+1)->Vs k2 h' i2 l2 (i+1)->IsPair h' s.heap.objs.size x y →
   (∀c o,c≠z->c≠TO->c≠i1->c≠i2->s.heap.get? c=some o->h'.get? c=some o)->Q (some (.ref s.heap.objs.size)) {s with heap:=h'}):wpAny (model prog w) A (pyNext (.ref z)) Q E s:=by
 let⟨d,C,⟨a,b,m⟩,k,B⟩:=Z;let e:s.TypeIs (.ref z) "zip" := ⟨_,d,rfl⟩;calc Rm (zCd (zBa (name:=Str.ofString "__next__") e F.slot_zip_next (YY F.slot_zip_next e F.entry_zip_next ?_ (F.args_zip_next_1 _))));show wpAny _ _ (field (.ref z) 2 >>= _) _ _ _;calc Rm (VY d rfl (x:=.bool false) rfl ?_);calc Rm (VY d rfl (x:=.ref TI) rfl (Rm (Yy C rfl ?_)));calc Rm ?_;calc Rm (VY d rfl (x:=.none) rfl (Rz ?_));calc Rm (Y1 (Rm (VY d rfl (x:=.ref TO) rfl ?_)));calc Rm (zCV d 52 λd (u:IsZip d z TI TO .ellipsis) p=>Rm ?_);let g:∀c o,c≠z->s.heap.get? c=some o->d.get? c=some o:=λc o n e=>p.extBut c o n e
 calc Rm (Rm (wpAny_onRaise ?_));calc Rm (ve (s:={s with heap:=d}) (k.of λo e=>g _ o D.a3 e) (f.of λo e=>g _ o l.c1 e) h λh d l=>Rz ?_);let f:IsPair h TO a b:=l.extBut _ _ D.a8 (g _ _ D.a2 m);calc Rm (Yy f rfl (Rm (wpAny_updateSeq_pair f λg3 (q:IsPair g3 TO x b) k=>Rm (wpAny_letGo (Rz ?_)))));let m:∀c o,c≠z->c≠TO->c≠i1->s.heap.get? c=some o->g3.get? c=some o:=λc o f d h e=>k.extBut c o d (l.extBut c o h (g c o f e))
 calc Rm (Rm (wpAny_onRaise ?_));calc Rm (ve (s:={s with heap:=g3}) (B.of λo e=>m _ o D.a4 (Ne.symm D.a9) (Ne.symm D.b1) e) (r.of λo e=>m _ o j.c1 j.c2 j.c3 e) t λr g j=>Rz ?_);let a:IsPair r TO x b:=j.extBut _ _ D.a9 q;calc Rm (Yy a rfl (Rm (wpAny_updateSeq_pair a λa (q:IsPair a TO x y) b=>Rm (wpAny_letGo (Rz (Rz ?_))))));calc Rm (Yy q rfl (Rm (wpAny_newTuple ?_)));let r:a.objs.size=s.heap.objs.size:=by rw[b.1,j.1,k.1,l.1,p.1]
 let t:∀c o,c≠z->c≠TO->c≠i1->c≠i2->s.heap.get? c=some o->a.get? c=some o:=λc o f d h g e=>b.extBut c o d (j.extBut c o g (m c o f d h e))
 let p:IsZip a z TI TO .ellipsis:=b.extBut _ _ (Ne.symm D.a2) (j.extBut _ _ (Ne.symm D.a4) (k.extBut _ _ (Ne.symm D.a2) (l.extBut _ _ (Ne.symm D.a3) u)));let l:Vs k1 a i1 l1 (i+1):=d.of λo e=>b.extBut _ o (Ne.symm D.a8) (j.extBut _ o D.b1 (k.extBut _ o (Ne.symm D.a8) e))
 let k:Vs k2 a i2 l2 (i+1):=g.of λo e=>b.extBut _ o (Ne.symm D.a9) e
 let m:z<a.objs.size:=SJ p;calc Rm ?_;let b:IsZip (a.push {cls:=.type "tuple", data:=.seq #[x,y]}) z TI TO .ellipsis:=T6 _ p;calc Rm (zCV b 52 λj (b:IsZip j z TI TO (rawInt a.objs.size)) B=>zCV b 52 λj (p:IsZip j z TI TO (rawInt a.objs.size)) u=>Rz ?_);let b:∀c o,c≠z->a.get? c=some o->j.get? c=some o:=λc o n e=>u.extBut c o n (B.extBut c o n (T6 _ e))
 let n:IsPair j a.objs.size x y:=u.extBut _ _ (Yk m) (B.extBut _ _ (Yk m) (Vj _ rfl));calc⟨_,rfl,?_⟩;rw[r]at p n;calc Rz ?_;rw[r];calc G j p (b _ _ D.a1 (t _ _ D.a1 D.a5 D.a6 D.a7 C)) (b _ _ D.a2 q) (l.of λo e=>b _ o D.a3 e) (k.of λo e=>b _ o D.a4 e) n λc o f d h g e=>b c o f (t c o f d h g e)
def K7{Q:yan->Shared->Prop}(hh:A.handled=none)(D:Ap z TI TO i1 i2)(I:Out z TO i1 i2 l1)(y:Out z TO i1 i2 l2)(Z:ZSt k1 k2 z TI TO i1 i2 l1 l2 i s.heap)(C:UT k1 s.heap l1 xs)(J:UT k2 s.heap l2 ys)(k:xs[i]?=none∨ys[i]?=none)
  (G:∀h',(∀c o,c≠z->c≠TO->c≠i1->c≠i2->s.heap.get? c=some o->h'.get? c=some o)->Q none {s with heap:=h'}):wpAny (model prog w) A (pyNext (.ref z)) Q E s:=by
 let⟨d,f,⟨a,b,M⟩,H,L⟩:=Z;let e:s.TypeIs (.ref z) "zip" := ⟨_,d,rfl⟩;ext pyNext;calc Rm (zCd (zBa (name:=Str.ofString "__next__") e F.slot_zip_next (YY F.slot_zip_next e F.entry_zip_next ?_ (F.args_zip_next_1 _))));show wpAny _ _ (field (.ref z) 2 >>= _) _ _ _;calc Rm (VY d rfl (x:=.bool false) rfl ?_);calc Rm (VY d rfl (x:=.ref TI) rfl (Rm (Yy f rfl ?_)));calc Rm ?_;calc Rm (VY d rfl (x:=.none) rfl (Rz ?_));simp only[if_true];calc Rm (Y1 (Rm (VY d rfl (x:=.ref TO) rfl ?_)));calc Rm (zCV d 52 λp (B:IsZip p z TI TO .ellipsis) d=>Rm ?_);let g:∀c o,c≠z->s.heap.get? c=some o->p.get? c=some o:=λc o n e=>d.extBut c o n e
 calc Rm (Rm (wpAny_onRaise ?_));cases hx:xs[i]? with
 |none =>
  calc Rm (En (s:={s with heap:=p}) hh (H.of λo e=>g _ o D.a3 e) (C.of λo e=>g _ o I.c1 e) hx λu e h t=>?_);let⟨n,f,l⟩:=t;let d:IsZip u z TI TO .ellipsis:=h _ _ (Ne.symm D.a3) B;let r:e≠z:=λq=>by subst q;rw[d]at f;cases f;simp at l
  refine zCV d 52 λg3 _ m=>Rm (zCk (T := "StopIteration") (b:=true) ⟨n,m.extBut _ _ r f,l⟩ isSubtype_stop ?_)
  calc Rz (G g3 λc o d _ j _ q=>m.extBut c o d (h c o j (g c o d q)))
 |some x =>
  let x:ys[i]?=none:=by
   obtain q|q:=k;rw[hx]at q;cases q;exact q
  calc Rm (ve (s:={s with heap:=p}) (H.of λo e=>g _ o D.a3 e) (C.of λo e=>g _ o I.c1 e) hx λu k h=>Rz ?_);let p:IsPair u TO a b:=h.extBut _ _ D.a8 (g _ _ D.a2 M);calc Rm (Yy p rfl (Rm (wpAny_updateSeq_pair p λg3 N m=>Rm (wpAny_letGo (Rz ?_)))));let a:∀c o,c≠z->c≠TO->c≠i1->s.heap.get? c=some o->g3.get? c=some o:=λc o d k j e=>m.extBut c o k (h.extBut c o j (g c o d e))
  calc Rm (Rm (wpAny_onRaise ?_));calc Rm (En (s:={s with heap:=g3}) hh (L.of λo e=>a _ o D.a4 (Ne.symm D.a9) (Ne.symm D.b1) e) (J.of λo e=>a _ o y.c1 y.c2 y.c3 e) x λu e p t=>?_);let⟨n,f,l⟩:=t;let g:IsZip u z TI TO .ellipsis:=p _ _ (Ne.symm D.a4) (m.extBut _ _ (Ne.symm D.a2) (h.extBut _ _ (Ne.symm D.a3) B));let r:e≠z:=λq=>by subst q;rw[g]at f;cases f;simp at l
  refine zCV g 52 λg _ e=>Rm (zCk (T := "StopIteration") (b:=true) ⟨n,e.extBut _ _ r f,l⟩ isSubtype_stop ?_)
  calc Rz (G g λc o d k j b q=>e.extBut c o d (p c o b (a c o d k j q)))
def KH{Q:yaa}(q:UT k s.heap a xs)(b:Q (.ref s.heap.objs.size) {s with heap:=s.heap.push {cls:=.type (jb k),data:=.fields #[.ref a,.int 0 0]} }):wpAny (model prog w) A (pyIter (.ref a)) Q E s:=by
 cases k with
 |true=>calc wpAny_pyIter_list q b
 |false=>calc wpAny_pyIter_tuple q b
end
abbrev zp1(k1:Bool)(h:Heap)(l1:Addr):Heap:=h.push {cls:=.type (jb k1),data:=.fields #[.ref l1,.int 0 0]}
abbrev zp2(k1 k2:Bool)(h:Heap)(l1 l2:Addr):Heap:=(zp1 k1 h l1).push {cls:=.type (jb k2),data:=.fields #[.ref l2,.int 0 0]}
abbrev zp3 (k1 k2:Bool) (h:Heap) (l1 l2:Addr):Heap:=(zp2 k1 k2 h l1 l2).push {cls:=.type "tuple", data:=.seq #[.ref h.objs.size,.ref (zp1 k1 h l1).objs.size]}
abbrev zp4 (k1 k2:Bool) (h:Heap) (l1 l2:Addr):Heap:=(zp3 k1 k2 h l1 l2).push {cls:=.type "tuple", data:=.seq #[.none,.none]}
abbrev zp5 (k1 k2:Bool) (h:Heap) (l1 l2:Addr):Heap:=(zp4 k1 k2 h l1 l2).push {cls:=.type "zip", data:=.fields #[.none,.bool false,.bool false,.ref (zp2 k1 k2 h l1 l2).objs.size,.ref (zp3 k1 k2 h l1 l2).objs.size]}
def Rf (k1 k2:Bool) (l1 l2:Addr) (xs ys:yao):Meets (Builtin.«zip.__new__» ⟨[.type "zip", .ref l1,.ref l2],[]⟩) (λ_ R s=>UT k1 s.heap l1 xs/\UT k2 s.heap l2 ys/\R (.ok (.ret (.ref (zp4 k1 k2 s.heap l1 l2).objs.size))) {s with heap:=zp5 k1 k2 s.heap l1 l2}) :=
 .of_wp λb w A R s h=>by
  let⟨e,g,d,a,os⟩:=s;let⟨i,f,h⟩:=h;let c:=sub_zip;let j:UT k1 (Shared.heap ⟨e,g,d,a,os⟩) l1 xs:=i;let i:UT k2 (Shared.heap ⟨e.push {cls:=.type (jb k1),data:=.fields #[.ref l1,.int 0 0]},g,d,a,os⟩) l2 ys:=f.of λo e=>T6 _ e
  wp_walk using KH j,KH i
  calc⟨_,rfl,h⟩
section
variable{prog:Program}{w:World}{A:Around}{E:yaa}{s:Shared}{k1 k2:Bool}{l1 l2:Addr}{xs ys:yao}
def K5{Q:yaa}(d:UT k1 s.heap l1 xs)(b:UT k2 s.heap l2 ys)
  (k:∀h',ZSt k1 k2 (s.heap.objs.size+4) (s.heap.objs.size+2) (s.heap.objs.size+3) s.heap.objs.size (s.heap.objs.size+1) l1 l2 0 h'->(∀c o,s.heap.get? c=some o->h'.get? c=some o)->Q (.ref (s.heap.objs.size+4)) {s with heap:=h'}) :
  wpAny (model prog w) A (call (.type "zip") [.ref l1,.ref l2]) Q E s:=by
 calc callType_new F.called_zip 29 (F.typeCall_zip_2 _ _) (F.newCall_zip_2 _ _) (λa=>F.args_object_init_3 a _ _) F.entry_zip_new (Rf k1 k2 l1 l2 xs ys) ⟨d,b,?_⟩;let h:(zp1 k1 s.heap l1).objs.size=s.heap.objs.size+1:=zC4 ..;let g:(zp2 k1 k2 s.heap l1 l2).objs.size=s.heap.objs.size+2:=by rw[zC4,h]
 let f:(zp3 k1 k2 s.heap l1 l2).objs.size=s.heap.objs.size+3:=by rw[zC4,g]
 let l:(zp4 k1 k2 s.heap l1 l2).objs.size=s.heap.objs.size+4:=by rw[zC4,f]
 let a:∀c o,(zp4 k1 k2 s.heap l1 l2).get? c=some o->(zp5 k1 k2 s.heap l1 l2).get? c=some o:=λc o e=>T6 _ e
 let b:∀c o,(zp3 k1 k2 s.heap l1 l2).get? c=some o->(zp5 k1 k2 s.heap l1 l2).get? c=some o:=λc o e=>a c o (T6 _ e)
 let d:∀c o,(zp2 k1 k2 s.heap l1 l2).get? c=some o->(zp5 k1 k2 s.heap l1 l2).get? c=some o:=λc o e=>b c o (T6 _ e)
 let p:∀c o,(zp1 k1 s.heap l1).get? c=some o->(zp5 k1 k2 s.heap l1 l2).get? c=some o:=λc o e=>d c o (T6 _ e)
 let j:(zp5 k1 k2 s.heap l1 l2).get? (zp4 k1 k2 s.heap l1 l2).objs.size=some _:=Vj _ rfl;let m:=a _ _ (Vj (zp3 k1 k2 s.heap l1 l2) (o:={cls:=.type "tuple", data:=.seq #[.none,.none]}) rfl);let g3:=b _ _ (Vj (zp2 k1 k2 s.heap l1 l2) (o:={cls:=.type "tuple", data:=.seq #[.ref s.heap.objs.size,.ref (zp1 k1 s.heap l1).objs.size]}) rfl);let n:=d _ _ (Vj (zp1 k1 s.heap l1) (o:={cls:=.type (jb k2),data:=.fields #[.ref l2,.int 0 0]}) rfl);let q:=p _ _ (Vj s.heap (o:={cls:=.type (jb k1),data:=.fields #[.ref l1,.int 0 0]}) rfl);let i:=k (zp5 k1 k2 s.heap l1 l2);rw[g,f,l]at j;rw[f]at m;rw[h,g]at g3;rw[h]at n;let b:∀{k:Bool} {h:Heap} {d a:Addr},h.get? d=some {cls:=.type (jb k),data:=.fields #[.ref a,.int 0 0]}->Vs k h d a 0:=fun {k h d a} e=>by
  cases k with
  |true=>calc⟨_,e,rfl,rfl⟩
  |false=>exact⟨_,e,rfl,rfl⟩
 rw[l];calc⟨⟨_,j,rfl⟩,i ⟨j,g3,⟨_,_,m⟩,b q,b n⟩ λc o e=>p c o (T6 _ e)⟩
end
end PZ
namespace PD
open PySem PySem.Spec PyProof.Rows L2 PZ
def XB(K:yac):Bool->Hp->Addr->yar->Prop
 |true=>SqL K
 |false=>L2.SK K
section
variable{X:Cx}{pins:yab}{σ:St}{H:Hp}{s:Shared}{k:Bool}{a:Addr}{xs:yar}
theorem XB.list(I:Inv X pins σ H s)(h:XB X.K k H a xs):∃b:yad,Vals xs b/\UT k s.heap a b.toArray:=by
 cases k with
 |true =>
  let⟨b,r,p,_⟩:=I.list h;calc⟨b,r,p.isList⟩
 |false =>
  let⟨b,r,p,_⟩:=I.tuple h;calc⟨b,r,p⟩
theorem XB.inj(I:Inv X pins σ H s)(h:XB X.K k H a xs)(h':XB X.K k H a ys):xs=ys:=by
 cases k with
 |true=>calc I.Xv h h'
 |false=>calc I.YA h h'
def XB.ne(I:Inv X pins σ H s)(f:fF X pins H b)(h:XB X.K k H a xs):a≠b:=λe=>by
 subst e;let⟨m,l,j,c,i,g⟩:=f;let d:∀o,X.K.lookup a=some o->False:=λo q=>by
  let b:=I.ok.mod.VH a o q;obtain z|z:=c;calc I.ok.XX a o b z;exact absurd (Tp (SJ (I.ok.bs a o b).1) z) 46
 cases k with
 |true =>
  rcases h with(h|⟨o,h⟩)|⟨o,b,n,h,_⟩
  all_goals lia
 |false =>
  rcases h with(h|⟨o,h⟩)|⟨o,b,n,h,_⟩
  all_goals lia
end
def Itz(K:yac)(k1 k2:Bool)(a b:Addr):It :=
 ⟨λi H=>∃d c x y,XB K k1 H a d/\XB K k2 H b c/\d[i]?=some x/\c[i]?=some y,
  λi H v e=>∃T x y,v=.ref T/\H T=none/\e=L2.upd H T (.tup [x,y])/\(∀d,XB K k1 H a d->d[i]?=some x)/\∀c,XB K k2 H b c->c[i]?=some y,
  λi H=>∃d c,XB K k1 H a d/\XB K k2 H b c/\(d[i]?=none∨c[i]?=none)⟩
def Ka{P:Program}{w:World}{K:yac}{es:yai}{d:Nat}{c:Pos}(k1 k2:Bool)(a b z TI TO g f:Addr)(D:Ap z TI TO g f) :
  Turn P w K (.Tuple es d c) (Itz K k1 k2 a b) [z,TI,TO,g,f] z (λi h=>ZSt k1 k2 z TI TO g f a b i h) where
 mem:=52
 obj:=λi h st c d=>by
  let⟨J,M,⟨x,y,L⟩,C,r⟩:=st;simp only[S8,zCG,or_false]at d;obtain e|e|e|e|e:=d<;>subst e;calc⟨_,J,λv q=>by cases q⟩;calc⟨_,M,λv q=>by cases q⟩;calc⟨_,L,λv q=>by cases q⟩;let⟨o,p,_,A⟩:=C.obj;calc⟨o,p,λv q=>by rw[A]at q;cases q⟩;let⟨o,p,_,A⟩:=r.obj;exact⟨o,p,λv q=>by rw[A]at q;cases q⟩
 keep:=λi h h' st kp=>by let⟨J,M,⟨x,y,L⟩,C,r⟩:=st;exact⟨kp z 52 _ J,kp TI 52 _ M,⟨x,y,kp TO 52 _ L⟩,C.of λo e=>kp g 52 o e,r.of λo e=>kp f 52 o e⟩
 item:=by
  intro X hP Y hK d i G s σ H E I j st hg;subst hP Y hK;let⟨xs,ys,x,y,p,A,hx,hy⟩:=hg;let⟨us,Q,U⟩:=p.list I;let⟨ws,O,T⟩:=A.list I;let⟨u,m,ru⟩:=Q.get hx;let⟨v,hv,rv⟩:=O.get hy;let t:∀{k:Bool} {l:Addr} {N:yar},XB X.K k H l N->Out z TO g f l:=λq=>⟨q.ne I (j z 52),q.ne I (j TO 52),q.ne I (j g 52),q.ne I (j f 52)⟩
  refine K6 D (t p) (t A) st U T (x:=u) (y:=v) (by simpa using m) (by simpa using hv) λh' m ti to C r pr kp=>⟨_,rfl,wpAny_letOwnedTupleGo_zip m λm z2 sb=>?_⟩
  let n:s.heap.objs.size<=s.heap.objs.size:=Sx _;let nz:s.heap.objs.size≠z:=Yk (SJ st.z);let B:H s.heap.objs.size=none:=I.R5.fresh n;let w:∀c o,c ∉ [z,TI,TO,g,f]->s.heap.get? c=some o->m.get? c=some o:=λc o n e=>by simp only[S8,zCG,or_false,not_or]at n;exact sb.extBut c o n.1 (kp c o n.1 n.2.2.1 n.2.2.2.1 n.2.2.2.2 e)
  let Sn:ZSt k1 k2 z TI TO g f a b (i+1) m:=⟨z2,sb.extBut _ _ D.a1 ti,⟨_,_,sb.extBut _ _ D.a2 to⟩,C.of λo e=>sb.extBut _ o D.a3 e,r.of λo e=>sb.extBut _ o D.a4 e⟩;let C:IsPair m s.heap.objs.size u v:=sb.extBut _ _ nz pr;let lo:∀c ∈ [z,TI,TO,g,f],c≠s.heap.objs.size:=λc d e=>by
   let a:c<s.heap.objs.size:=by
    let⟨J,M,⟨x',y',L⟩,r,b⟩:=st;simp only[S8,zCG,or_false]at d;obtain q|q|q|q|q:=d<;>subst q;calc SJ J;calc SJ M;calc SJ L;let⟨o,p,_⟩:=r.obj;calc SJ p;let⟨o,p,_⟩:=b.obj;exact SJ p
   rw[e]at a;exact Zm _ a
  calc⟨.ref s.heap.objs.size,L2.upd H s.heap.objs.size (.tup [x,y]),?_,rfl,⟨_,x,y,rfl,B,rfl,λxs' q=>by rw[q.inj I p];calc hx,λys' q=>by rw[q.inj I A];calc hy⟩,Sn,λc d=>by rw[aC (lo c d)];calc(j c d).1⟩;let a:∀c o,H c=some o->c ∉ [z,TI,TO,g,f]:=λc o e d=>by have:=(j c d).1;rw[e]at this;cases this
  refine L2.Inv.step (s:=s) (h':=m) (g':=s.gens) (d':=s.drawn) (t':=s.toks) (ch:=[z,TI,TO,g,f]) I (λc d=>?_) (λc o _ _ n e _=>w c o n e) (λc o _ _ n e _=>⟨o.slots,w c o n e⟩) (λc o _ e n=>by rw[aC (Uv (SJ e))];calc n) (λc o n e=>⟨o,w c o n e⟩)
   (λc ls e=>by rw[aC (gO e B)];calc e) (λc o ls e=>by rw[aC (gO e B)];calc e) (λc ps e=>⟨#[],by rw[aC (gO e B),e];simp⟩) (λm y=>?_) (λc o e=>?_) I.bare
  let⟨f0,f1,f2,M,L,J⟩:=j c d;calc⟨M,f1,L,J⟩;let⟨o,Wk,ep,x,r⟩:=y;calc⟨o,Wk,ep,w _ o (λq=>(j _ q).2.1 rfl) x,r⟩;by_cases b:c=s.heap.objs.size;subst b;rw[aQ]at e;cases e;calc⟨by rw[Tq];show 2<=16777216;decide,[u,v],.cons ru (.cons rv .nil),⟨_,C,rfl,_,rfl⟩⟩;rw[aC b]at e;refine(I.R5 c o e).VZ (λd' u C q=>w d' u ?_ q) (λd' q=>by rw[aC (gO q B)];calc q) λd' ls q=>by rw[aC (gO q B)];exact q
  obtain q'|q':=C;rw[q'];calc a c o e;exact a d' _ q'
 done:=by
  intro X hP Y hK d i G s σ H E I j st hg;subst hP Y hK;let⟨xs,ys,p,A,b⟩:=hg;let⟨us,Q,U⟩:=p.list I;let⟨ws,O,T⟩:=A.list I;let t:∀{k:Bool} {l:Addr} {N:yar},XB X.K k H l N->Out z TO g f l:=λq=>⟨q.ne I (j z 52),q.ne I (j TO 52),q.ne I (j g 52),q.ne I (j f 52)⟩
  refine K7 (I.ok.hd d) D (t p) (t A) st U T (b.imp (λq=>by simpa using Q.none_of q) λq=>by simpa using O.none_of q) λh' kp=>⟨rfl,?_⟩
  let w:∀c o,c ∉ [z,TI,TO,g,f]->s.heap.get? c=some o->h'.get? c=some o:=λc o n e=>by simp only[S8,zCG,or_false,not_or]at n;exact kp c o n.1 n.2.2.1 n.2.2.2.1 n.2.2.2.2 e
  let a:∀c o,H c=some o->c ∉ [z,TI,TO,g,f]:=λc o e d=>by have:=(j c d).1;rw[e]at this;cases this
  calc L2.Inv.step (s:=s) (h':=h') (g':=s.gens) (d':=s.drawn) (t':=s.toks) (ch:=[z,TI,TO,g,f]) I (λc d=>?_) (λc o _ _ n e _=>w c o n e) (λc o _ _ n e _=>⟨o.slots,w c o n e⟩) (λ_ _ _ _ n=>n) (λc o n e=>⟨o,w c o n e⟩) (λ_ _ e=>e) (λ_ _ _ e=>e) (λc ps e=>⟨#[],by rw[e];simp⟩) (λm y=>?_) (λc o e=>?_) I.bare;let⟨f0,f1,f2,M,L,J⟩:=j c d;calc⟨M,f1,L,J⟩;let⟨o,Wk,ep,x,r⟩:=y;calc⟨o,Wk,ep,w _ o (λq=>(j _ q).2.1 rfl) x,r⟩;refine(I.R5 c o e).VZ (λd' u C q=>w d' u ?_ q) (λ_ q=>q) λ_ _ q=>q
  obtain q'|q':=C;rw[q'];calc a c o e;exact a d' _ q'
 self:=λ_ _ _ _ _ st h=>wpAny_pyIter_zip st.z h
def fM:D->Option (Bool×yas)
 |.lst _ a=>some (true,a)
 |.tup a=>some (false,a)
 |_=>none
section
variable{X:Cx}
def Den.seq{k:Bool}{c:yas}(h:Den X.K P H d v)(e:fM d=some (k,c)):∃a b,v=.ref a/\XB X.K k H a b/\ah X.K P H c b ∧
  ∀ (f:yak) (H':Hp),(∀a b,SK X.K H a b->SK X.K H' a b)->(∀t a b,¬P t a->UH X.K H t a b->¬f t a/\UH X.K H' t a b)->XB X.K k H' a b:=by
 cases d with
 |lst t i =>
  cases e;let⟨a,b,d,p,q,c⟩:=h.WL;calc⟨a,b,d,q.1,c,λf H' _ g=>(g t a b p q).2.1⟩
 |tup i =>
  cases e;let⟨a,b,d,q,c⟩:=h.UY;calc⟨a,b,d,q.w,c,λf H' c _=>(c a b q).w⟩
 |RZ=>cases e
 |bl _=>cases e
 |int _=>cases e
 |str _=>cases e
 |exc _=>cases e
 |obj _ _ _=>cases e
 |Wx=>cases e
 |V2 _ _=>cases e
def N4(b:DA):DA:=λa R=>b a λg=>∃d c f e b a,g=[d,c]/\fM d=some (f,b)/\fM c=some (e,a)/\R (List.zipWith (λx y=>D.tup [x,y]) b a)
def Gk {a b:Expr} {p:Pos} (hg:Gl X "zip") (hm:X.mg "zip" = none) (ha:Wz X [a,b] ta) (hs:starEach [a,b] X.env=(false,eval a X.env)::starEach [b] X.env:=by rfl) (M:(backTo pos (starEach [b] X.env)).any (·.1)=false:=by rfl) :
  YI X (.Tuple es kt tp) (.Call (.Name "zip" p) [a,b] [] pos) (N4 ta):=by
 intro o s σ H W ρ R I r h;calc Call_ (di I hg hm boot_zip (PyProof.Rows.callWith_type1 (Rw (ha pos o s σ H W ρ _ I r h) λus f Ry=>?_) hs M));let⟨vs,H1,ds,t,r1,e1,hd,q1⟩:=Ry;let⟨d1,d2,k1,k2,u,B,e,g1,g2,q⟩:=q1;subst e;let⟨v1,v2,rfl,Xk,N⟩:=rg hd;let⟨l1,k,e2,E,n,up1⟩:=Xk.seq g1;let⟨l2,g,e3,C,m,WM⟩:=N.seq g2;subst e2 e3;cases r1 with
 |cons ra G =>
  cases G with
  |cons rb G =>
   cases G;cases ra;cases rb;let⟨us1,_,p1⟩:=E.list t;let⟨us2,_,p2⟩:=C.list t;let nn:∀j:Nat,f.heap.objs.size<=f.heap.objs.size+j:=λj=>VT _ j
   refine K5 p1 p2 λh' Z kp=>?_
   calc wpAny_pyIter_zip Z.z ?_;let Dz:Ap (f.heap.objs.size+4) (f.heap.objs.size+2) (f.heap.objs.size+3) f.heap.objs.size (f.heap.objs.size+1):=by constructor<;>simp
   calc⟨f.heap.objs.size+4,[f.heap.objs.size+4,f.heap.objs.size+2,f.heap.objs.size+3,f.heap.objs.size,f.heap.objs.size+1],_,_,H1,_,rfl,t.kept (t':=f.toks) kp,e1,Ka k1 k2 l1 l2 _ _ _ _ _ Dz,Z,λc Y=>?_,?_,q⟩;let Yz:f.heap.objs.size<=c:=by
    simp at Y;obtain q|q|q|q|q:=Y<;>subst q<;>first|calc nn _|exact Sx _
   calc t.fpOk Yz (t.R5.fresh Yz);intro P' A w z hX i;let O:=up1 P' A w z;let l:=WM P' A w z;let n1:=n.len;let n2:=m.len;let U:#[List.zipWith (λx y=>D.tup [x,y]) u B]=min #[u] #[B]:=List.length_zipWith;calc⟨λd=>?_,λv H3 y d=>?_,λd=>⟨k,g,O,l,?_⟩⟩;let⟨x,L,_⟩:=n.get (i:=i) (d:=u[i]' 35) 52;let⟨y,J,_⟩:=m.get (i:=i) (d:=B[i]' 35) 52;calc⟨k,g,x,y,O,l,L,J⟩;let⟨T,x,Q,e,nT,eH,L,J⟩:=y;subst e eH;let⟨dx,XC,VQ⟩:=n.bI (L k O);let⟨dy,ZN,Ww⟩:=m.bI (J g l);let sm:av A (L2.upd A T (.tup [x,Q])):=av.upd nT;calc⟨sm,.tup [dx,dy],by simp[List.getElem?_zipWith,XC,ZN],Den.tup (SK.of aQ) (ah.cons ((Den.map w z hX dx x VQ).same sm) (ah.one ((Den.map w z hX dy Q Ww).same sm)))⟩;by_cases hz:#[u]<=i;calc .inl (zCB 35);calc .inr (zCB 35)
end
open PySem PySem.Spec PyProof.Rows L2
inductive FDP (X:Cx) (pins:yab) (σ:St) (W:Own) (H:Hp) (Q:yas->Prop) (u:Value) (s':Shared):Prop
 |mk (a:Addr) (vs:yar) (H':Hp) (ds:yas) (_:u=.ref a) (_:Inv X pins σ H' s') (_:av H H') (_:H a=none) (_:X.K.lookup a=none) (_:H' a=some (.lst vs)) (_:ah X.K (λt b=>W.bad t b∨b=a) H' ds vs) (_:Q ds)
def WN(X:Cx)(e:Expr)(t:DA):Prop :=
 ∀ (a:yab) (s:Shared) (b:St) (H:Hp) (W:Own) (c:Ro) (Q:yas->Prop),Inv X a b H s->Rel X W H b c->t c Q →
  wpAny (model X.prog X.w) X.A (eval e X.env) (FDP X a b W H Q) X.xe s
def NQ(t:DA):DE:=λa Q=>t a λa=>Q (.lst true a)
section
variable{X:Cx}{e:Expr}{t:DA}{pos:Pos}
def WN.YL(h:WN X e t):RU X e (NQ t):=by
 intro a s b H W c Q I r d;refine Rw (h a s b H W c _ I r d) λu j d=>?_
 let⟨a,i,g,l,e,f,sm,n,k,c,b,q⟩:=d;subst e;calc⟨.ref a,g,_,f,rfl,sm,Den.lst (r.fresh n) (.new c k) (b.R9 λ_ _ z=>.inl z),q⟩
def WN.of(h:PE X e te)(k:∀d H W ρ Q,Rel X W H d ρ->t ρ Q->te d H λv H'=>∃a c g f,v=.ref a/\av H f/\f a=none/\H'=L2.upd f a (.lst c)/\ah X.K W.bad f g c/\Q g)(i:∀b d H s a c,Inv X b d H s->H a=some (.lst c)->X.K.lookup a=none):WN X e t:=by
 intro b s d H W ρ Q I r j;refine Rw (h b s d H _ I (k d H W ρ Q r j)) λu l j=>?_
 let⟨v,H',b,d,a,c,g,f,e,sm,n,h,f,q⟩:=j;subst e h;cases d;calc⟨a,c,_,g,rfl,b,sm.trans (av.upd n),sm.free n,i _ _ _ _ a c b aQ,aQ,ah.apart n (i _ _ _ _ a c b aQ) f,q⟩
def Inv.kno{o:HO}(I:Inv X pins σ H s)(h:H a=some o):X.K.lookup a=none:=by
 cases e:X.K.lookup a with
 |none=>rfl
 |some b =>
  have:=(I.bs a b (I.ok.mod.VH a b e)).2
  lia
def P7(i:Nat)(t:DA):DS:=λE a=>t a λb=>E.nx (a.set i (some (.own b)))
end
mutual
def lU:D->Bool
 |.tup a=>fg a
 |.obj _ _ a=>fg a
 |.V2 _ a=>fg a
 |.lst _ _=>false
 |_=>true
def fg:yas->Bool
 |[]=>true
 |d::a=>lU d && fg a
end
mutual
def ju:D->Bool
 |.tup a=>nr a
 |.obj _ _ a=>nr a
 |.V2 _ a=>nr a
 |.lst t a=>t && nr a
 |_=>true
def nr:yas->Bool
 |[]=>true
 |d::a=>ju d && nr a
end
section
variable{K:yac}{P P':yak}{H:Hp}
mutual
theorem Den.ZO:∀(d:D) (v:V),lU d=true->Den K P H d v->Den K P' H d v
 |.RZ,_,_,h=>by simpa only[Den]using h
 |.bl _,_,_,h=>by simpa only[Den]using h
 |.int _,_,_,h=>by simpa only[Den]using h
 |.str _,_,_,h=>by simpa only[Den]using h
 |.exc _,_,_,h=>by simpa only[Den]using h
 |.obj C f c,_,n,h=>by rw[lU]at n;simp only[Den]at h ⊢;let⟨a,d,b,e,q,l,k,r⟩:=h;calc⟨a,d,b,e,q,l,k,ah.ZO c b n r⟩
 |.Wx,_,_,h=>by simpa only[Den]using h
 |.V2 g c,_,n,h=>by rw[lU]at n;simp only[Den]at h ⊢;let⟨a,o,d,b,e,q,l,k,r⟩:=h;calc⟨a,o,d,b,e,q,l,k,ah.ZO c b n r⟩
 |.lst _ _,_,n,_=>by rw[lU]at n;cases n
 |.tup c,_,n,h=>by rw[lU]at n;simp only[Den]at h ⊢;let⟨a,b,e,q,r⟩:=h;calc⟨a,b,e,q,ah.ZO c b n r⟩
theorem ah.ZO:∀(a:yas) (b:yar),fg a=true->ah K P H a b->ah K P' H a b
 |[],_,_,h=>by simpa only[ah]using h
 |d::a,_,n,h=>by rw[fg,zCD]at n;simp only[ah]at h ⊢;let⟨v,r,e,c,b⟩:=h;calc⟨v,r,e,Den.ZO d v n.1 c,ah.ZO a r n.2 b⟩
end
mutual
theorem Den.XD(k:∀a,P' true a->P true a):∀(d:D) (v:V),ju d=true->Den K P H d v->Den K P' H d v
 |.RZ,_,_,h=>by simpa only[Den]using h
 |.bl _,_,_,h=>by simpa only[Den]using h
 |.int _,_,_,h=>by simpa only[Den]using h
 |.str _,_,_,h=>by simpa only[Den]using h
 |.exc _,_,_,h=>by simpa only[Den]using h
 |.obj C g c,_,n,h=>by rw[ju]at n;simp only[Den]at h ⊢;let⟨a,f,b,e,q,l,d,r⟩:=h;calc⟨a,f,b,e,q,l,d,ah.XD k c b n r⟩
 |.Wx,_,_,h=>by simpa only[Den]using h
 |.V2 i c,_,n,h=>by rw[ju]at n;simp only[Den]at h ⊢;let⟨a,o,f,b,e,q,l,d,r⟩:=h;calc⟨a,o,f,b,e,q,l,d,ah.XD k c b n r⟩
 |.lst t c,_,n,h=>by rw[ju,zCD]at n;let⟨f,d⟩:=n;subst f;simp only[Den]at h ⊢;let⟨a,b,e,p,q,r⟩:=h;calc⟨a,b,e,λz=>p (k a z),q,ah.XD k c b d r⟩
 |.tup c,_,n,h=>by rw[ju]at n;simp only[Den]at h ⊢;let⟨a,b,e,q,r⟩:=h;calc⟨a,b,e,q,ah.XD k c b n r⟩
theorem ah.XD(k:∀a,P' true a->P true a):∀(b:yas) (c:yar),nr b=true->ah K P H b c->ah K P' H b c
 |[],_,_,h=>by simpa only[ah]using h
 |d::b,_,n,h=>by rw[nr,zCD]at n;simp only[ah]at h ⊢;let⟨v,r,e,c,a⟩:=h;calc⟨v,r,e,Den.XD k d v n.1 c,ah.XD k b r n.2 a⟩
end
end
def Own.soft(W:Own)(i:Nat)(a:Addr):Own:=⟨W.B,λj=>if j=i then none else W.O j,λb=>W.S b∨b=a⟩
section
variable{X:Cx}
theorem Rel.soft{i:Nat}(r:Rel X W H σ ρ)(e:ρ[i]?=some (some (.own ds))):∃a,W.O i=some a/\Rel X (W.soft i a) H σ (ρ.set i (some (.val (.lst false ds))))/\∀b,W.bad true b->(W.soft i a).bad true b:=by
 let⟨a,u,g,n,o,s⟩:=r.Xw i ds e;let q:i<#[ρ]:=(VE.mp e).1;let e:∀j b,(W.soft i a).O j=some b->j≠i/\W.O j=some b:=λj b h=>by
  let l:(if j=i then none else W.O j)=some b:=h
  lia
 let c:∀t b,(W.soft i a).bad t b->W.bad t b:=λt b z=>by
  obtain z|⟨j,z⟩| ⟨d,z2⟩:=z;calc .inl z;calc .inr (.inl ⟨j,(e j b z).2⟩);obtain z2|z2:=z2;calc .inr (.inr ⟨d,z2⟩);subst z2;exact .inr (.inl ⟨i,g⟩)
 let p:¬(W.soft i a).bad false a:=λz=>by
  obtain z|⟨j,z⟩| ⟨d,_⟩:=z;calc(r.kn i a g).2.1.1 z;calc(e j a z).1 (r.inj j i a (e j a z).2 g);cases d
 calc⟨a,g,⟨λj d h=>?_,λj x h=>?_,λj k b l m=>r.inj j k b (e j b l).2 (e k b m).2,λj b h=>?_,λj b h=>r.ke j b (e j b h).2,r.bt,λb h=>?_,r.ent,r.tab⟩,λb z=>?_⟩;by_cases f:j=i;subst f;rw[Zf q]at h;cases h;calc⟨.ref a,n,Den.lst p (.any (SqL.of o)) (s.R9 c)⟩;rw[Vm (Ne.symm f)]at h;let⟨w,l,m⟩:=r.val j d h;calc⟨w,l,m.R9 c⟩;by_cases f:j=i
 cbv
 rw[Vm (Ne.symm f)]at h;let⟨b,a,l,m,p,d⟩:=r.own j x h;exact⟨b,a,by show(if j=i then none else W.O j)=_;rw[if_neg f];calc l,m,p,d.R9 c λk c q=>(by show(if vix #[σ] j k=i then none else W.O (vix #[σ] j k))=_;rw[if_neg (wg (VE.mp n).1)];calc q)⟩
 let⟨k,⟨d,c⟩,a⟩:=r.kn j b (e j b h).2;calc⟨k,⟨d,λz=>z.elim c λz=>?_⟩,a⟩;subst z;calc(e j b h).1 (r.inj j i b (e j b h).2 g);obtain h|h:=h;calc r.st b h;subst h;calc⟨_,o⟩;obtain z|⟨j,z⟩| ⟨_,z⟩:=z;calc .inl z;by_cases f:j=i;subst f;rw[g]at z;cases z;calc .inr (.inr ⟨rfl,.inr rfl⟩);calc .inr (.inl ⟨j,by show(if j=i then none else W.O j)=_;rw[if_neg f];calc z⟩);calc .inr (.inr ⟨rfl,.inl z⟩)
variable{e:Expr}{te:DE}{tt:DT}{ta:DA}
def Ku(i:Nat)(t:DE):DE:=λa Q=>lV a[i]? λb=>t (a.set i (some (.val (.lst false b)))) λd=>ju d=true/\Q d
def FU(i:Nat)(t:DT):DT:=λa Q=>lV a[i]? λb=>t (a.set i (some (.val (.lst false b)))) Q
def Lv(i:Nat)(h:RU X e te):RU X e (Ku i te):=by intro b s d H W k Q I r c;let⟨n,g,c⟩:=mS c;let⟨a,m,f,a⟩:=r.soft g;calc Rw (h b s d H _ _ _ I f c) λu l h=>(by let⟨v,j,d,i,b,f,c,g,q⟩:=h;calc⟨v,j,d,i,b,f,Den.XD a d v g c,q⟩)
def Lz(i:Nat)(h:Xx X e tt):Xx X e (FU i tt):=by intro b s d H W g Q I r c;let⟨l,f,c⟩:=mS c;let⟨a,k,a,j⟩:=r.soft f;calc h b s d H _ _ _ I a c
end
section
variable{X:Cx}{pos:Pos}
theorem ah.set{K:yac}{P:yak}{H:Hp}{d:D}{v:V}(b:Den K P H d v):∀{c:yas} {a:yar} (j:Nat),ah K P H c a->ah K P H (c.set j d) (a.set j v)
 |[],_,_,h=>by subst h;calc ah.nil
 |x::r,_,0,h=>by let⟨u,w,rfl,c,a⟩:=h;calc ah.cons b a
 |x::r,_,j+1,h=>by let⟨u,w,rfl,c,a⟩:=h;calc ah.cons c (ah.set b j a)
theorem ah.take{K:yac}{P:yak}{H:Hp}:∀{b:yas} {a:yar} (n:Nat),ah K P H b a->ah K P H (b.take n) (a.take n)
 |_,_,0,_=>by simp_all [List.take_zero,ah.nil]
 |[],_,_+1,h=>by subst h;calc ah.nil
 |x::r,_,n+1,h=>by let⟨u,w,rfl,b,a⟩:=h;calc ah.cons b (ah.take n a)
theorem ah.drop{K:yac}{P:yak}{H:Hp}:∀{b:yas} {a:yar} (n:Nat),ah K P H b a->ah K P H (b.drop n) (a.drop n)
 |_,_,0,h=>72
 |[],_,_+1,h=>by subst h;calc ah.nil
 |x::r,_,n+1,h=>by let⟨u,w,rfl,c,a⟩:=h;calc ah.drop n a
theorem ah.rev{K:yac}{P:yak}{H:Hp}:∀{b:yas} {a:yar},ah K P H b a->ah K P H b.reverse a.reverse
 |[],_,h=>by subst h;calc ah.nil
 |x::r,_,h=>by
  let⟨u,w,rfl,d,c⟩:=h
  simp_all [zCz,ah.rev,append,ah.one]
def FT(i:Nat)(c te:DE):DS:=λE a=>∃b,a[i]?=some (some (.own b))/\te a λd=>c a λk=>∃n j,k=.int n/\ixN #[b] n=some j/\E.nx (a.set i (some (.own (b.set j d))))
def IS{x:Str}(i:Nat)(q:RU X k tk)(c:RU X e te)(o:X.N[i]?=some x:=by rfl)(hv:Ym X.env.scope x:=by first|calc Or.inl rfl|calc Or.inr (Or.inl rfl)|calc Or.inr (Or.inr rfl))
  (w:(x==("__debug__" : Str))=false:=by decide) (y:(x==("__classdict__" : Str))=false:=by decide)
  (N:∀v,assign (.Subscript (.Name x px) k tp) X.env v=(do
   let f←holding [v] (eval (.Name x px) X.env)
   let g←holding [v,f] (eval k X.env)
   standAt tp
   holding [v,f,g] (setItem f g v)
   release [v,f,g] []):=by intro _;rfl)
  (hs:swapsWithSole [.Subscript (.Name x px) k tp] e pos.line X.env=pure false:=by rfl) (a:swappedStores [.Subscript (.Name x px) k tp] e X.env=pure none:=by rfl)
  (O:(assignEach [.Subscript (.Name x px) k tp] X.env).map (·.2)=[assign (.Subscript (.Name x px) k tp) X.env]:=by rfl):US X (.Assign [.Subscript (.Name x px) k tp] e pos) (FT i tk te):=by
 intro b s e H W j E I r h;let⟨t,l,h⟩:=h;calc wpAny_Assign_stores (Rw (c b s e H W j _ I r h) λu m c=>?_) hs a;let⟨v,h,d,A,E,s,H,n⟩:=c;show wpAny _ _ (assign (.Subscript (.Name x px) k tp) X.env u) _ _ _;let d:=r.same s;let⟨a,_,r,p,_,_⟩:=d.Xw i t l;calc Rm (VU (Rw (fU o hv w y b m e h (λo m=>m=h/\o=.ref a) A ⟨.ref a,p,rfl,rfl⟩) λf k c=>?_));let⟨o,x,w,B,o,h⟩:=c;subst o h;calc Rm (VU (Rw (q b k e x W j _ w d n) λg A c=>?_));let⟨L,y,M,I,C,k,h,o⟩:=c;let⟨n,j,w,G,q⟩:=o;subst w;let o:=h.SM;subst o;let o:=d.same k;let⟨Q,h,d,z,w,x⟩:=o.Xw i t l;rw[r]at d;cases d;calc Rm (zDZ (Rm (VU (Rw (set_list b A e y (.ref a) (.int n) v f g u (λm=>m=L2.upd y a (.lst (h.set j v))) I B C E ⟨a,h,n,j,rfl,rfl,w,by rw[x.len];calc G,rfl⟩) λ_ J c=>?_))));let⟨H4,d,a⟩:=c;subst a;let⟨a,b⟩:=o.YE l r p w (ah.set (H.same k) j x);calc wpAny_release ⟨W,e,_,d,(Sm.same (s.trans k)).trans b,_,a,q⟩
def D5(i:Nat)(C:yas->Prop)(f:yas->yas):DS:=λE a=>lV a[i]? λb=>C b/\E.nx (a.set i (some (.own (f b))))
def IQ {x name:Str} {id:String} {h b k:Pos} {l:V->yar->Hp->VK->Prop} {C:yas->Prop} {f:yas->yas} (g:yar->yar) (i:Nat) (e:Slot "list" name id) (j:typeOf (.builtin id)=pure (.type "method_descriptor")) (n:MtM X id l)
  (m:∀(a:Addr) (c:yar) (d:yas) (H:Hp) (Q:VK),H a=some (.lst c)->#[c]=#[d]->C d->(∀v,Q v (L2.upd H a (.lst (g c))))->l (.ref a) [] H Q) (p:∀(K:yac) (P:yak) (H:Hp) (d:yas) (c:yar),ah K P H d c->ah K P H (f d) (g c))
  (o:X.N[i]?=some x:=by rfl) (hv:Ym X.env.scope x:=by first|calc Or.inl rfl|calc Or.inr (Or.inl rfl)|calc Or.inr (Or.inr rfl)) (q:(x==("__debug__" : Str))=false:=by decide) (t:(x==("__classdict__" : Str))=false:=by decide)
  (s:attributeBase (.Name x h) name X.env (eval (.Name x h) X.env)=eval (.Name x h) X.env:=by rfl) (r:(b.endLine==k.line)=true:=by rfl)
  (hs:swapsWith (.Call (.Attribute (.Name x h) name b) [] [] k) none pos.line X.env=pure false:=by rfl):US X (.Expr (.Call (.Attribute (.Name x h) name b) [] [] k) pos) (D5 i C f):=by
 let b:=rK (pos:=pos) (Hb PySem.F.plainAttrs_list e j n (fU o hv q t) s r) hs;refine US.of b λu H W w E r y h=>?_
 let⟨d,f,k,h⟩:=mS h;let⟨a,c,j,e,b,g⟩:=r.Xw i d f;let⟨i,l⟩:=r.YE f j e b (p _ _ _ d c g);calc⟨.ref a,e,.inl ⟨rfl,_,SqL.of b⟩,m a c d H _ b g.len k λv=>⟨W,_,l,i,h⟩⟩
theorem ah.dropLast{K:yac}{P:yak}{H:Hp}{b:yas}{a:yar}(h:ah K P H b a):ah K P H b.dropLast a.dropLast:=by rw[List.dropLast_eq_take,List.dropLast_eq_take,h.len];calc h.take _
def Ob {x:Str} {b a c:Pos} (i:Nat) (e:X.N[i]?=some x:=by rfl) (hv:Ym X.env.scope x:=by first|calc Or.inl rfl|calc Or.inr (Or.inl rfl)|calc Or.inr (Or.inr rfl)) (f:(x==("__debug__" : Str))=false:=by decide) (k:(x==("__classdict__" : Str))=false:=by decide)
  (j:attributeBase (.Name x b) "pop" X.env (eval (.Name x b) X.env)=eval (.Name x b) X.env:=by rfl) (g:(a.endLine==c.line)=true:=by rfl)
  (hs:swapsWith (.Call (.Attribute (.Name x b) "pop" a) [] [] c) none pos.line X.env=pure false:=by rfl):US X (.Expr (.Call (.Attribute (.Name x b) "pop" a) [] [] c) pos) (D5 i (λd=>0<#[d]) List.dropLast) :=
 IQ List.dropLast i PySem.F.slot_list_pop PySem.F.type_list_pop OT (λa b d H Q d l m q=>by
  let c:#[b] - 1<#[b]:=by omega
  calc⟨a,b,b[#[b] - 1],rfl,rfl,d,by simp[c],q _⟩) (λ_ _ _ _ _ h=>h.dropLast) e hv f k j g hs
def QZ(i:Nat)(f:Int->Int->Int)(te:DE):DS:=λE c=>∃a,c[i]?=some (some (.val (.int a)))/\te c λd=>∃b,d=.int b/\E.nx (c.set i (some (.val (.int (f a b)))))
def N9{x:Str}(i:Nat)(h:X.N.Nodup)(g:RU X e te)(b:PIp X op (ipI f))(c:X.N[i]?=some x:=by rfl)(a:Loc X.env.scope x:=by first|calc Or.inl rfl|calc Or.inr rfl)
  (d:X.fn x=true∨X.env.scope.names.lookup x=some .local:=by first|calc .inl rfl|calc .inr rfl|assumption):US X (.AugAssign (.Name x pos') op e pos) (QZ i f te):=by
 refine US.of (Pe h c a g.pe b d) λe H W b E r f h=>?_
 let⟨a,g,h⟩:=h;let⟨v,d,hv⟩:=r.val i _ g;let z:=hv.SM;subst z;calc⟨.int a,d,W,b,_,r,h,λj h d d g q=>?_⟩;let⟨b,rfl,q⟩:=q;let z:=g.SM;subst z;let g:i<#[e]:=by rw[f];exact(VE.mp c).1
 calc⟨a,b,rfl,rfl,W.drop i,_,(Sm.same d).trans (Sm.drop W h i),(r.same d).put g (Den.int _),q⟩
variable{e:Expr}{te:DE}{p:Pos}
def Kt(te:DE):DA:=λa Q=>te a λd=>∃k a,fM d=some (k,a)/\Q a
def Ah{K:yac}{P:yak}{H:Hp}{d:D}{v:V}{k:Bool}{c:yas}(h:Den K P H d v)(e:fM d=some (k,c)):∃a b,v=.ref a/\(SqL K H a b∨SK K H a b)/\ah K P H c b:=by
 cases d with
 |lst t f =>
  cases e;let⟨a,b,d,p,q,c⟩:=h.UI;calc⟨a,b,d,.inl q,c⟩
 |tup f =>
  cases e;let⟨a,b,d,q,c⟩:=h.UY;calc⟨a,b,d,.inr q,c⟩
 |RZ=>cases e
 |bl _=>cases e
 |int _=>cases e
 |str _=>cases e
 |exc _=>cases e
 |obj _ _ _=>cases e
 |Wx=>cases e
 |V2 _ _=>cases e
def Lw (c:Gl X "list") (b:X.mg "list" = none) (d:RU X e te) (a:starEach [e] X.env=(false,eval e X.env)::starEach [] X.env:=by rfl) (f:(backTo pos (starEach [] X.env)).any (·.1)=false:=by rfl):WN X (.Call (.Name "list" p) [e] [] pos) (Kt te):=by
 refine WN.of (yw pS c b boot_list (gI d.pe mT a) 29 29 a f) (λn H W a Q r h=>?_) λ_ _ _ _ _ _ I h=>Inv.kno I h
 calc⟨W,a,_,r,h,λv m d h d q=>?_⟩;let⟨k,i,g,q⟩:=q;let⟨a,b,f,c,j⟩:=Ah d g;subst f;calc⟨a,b,rfl,c.imp id SK.w,λl a=>⟨l,b,i,m,rfl,h,a,rfl,j,q⟩⟩
theorem dh{K:yac}{P:yak}{H:Hp}:∀{ns:yaf} {a:yar},ah K P H (ns.map D.int) a->a=ns.map V.int
 |[],_,h=>by simpa only[zDh,ah]using h
 |n::r,_,h=>by let⟨v,w,rfl,b,a⟩:=h;rw[b.SM,dh a];rfl
def uG (w:X.calm=true):cN X (.builtin "sum") (λh Q=>∃(t:Bool) (ns:yaf),h=[.lst t (ns.map D.int)]/\Q (.int ns.sum)):=by
 intro d s A H W h C E Q I G r u q;let⟨t,ns,e,q⟩:=q;subst e;let⟨v,rfl,x⟩:=k7 u;let⟨a,B,y,_,n,m⟩:=x.UI;subst y;cases r with
 |cons k j =>
  cases j;cases k;let⟨i,c,l,_⟩:=I.list n;rw[dh m]at c;let f:=intsAre_of c;let⟨b,g⟩:=f.allInts.items;let o:s.heap.IsList a (intItems b):=by rw[<- g];exact l.isList
  refine sum_intListG (I.ok.hd w) o λM J L kp=>?_
  let z:preSum (numAt b) b.size=ns.sum:=by rw[preSum_eq,XG 52,<- nums_intItems,<- g,show i.toArray.toList=i from rfl,f.numsOf]
  rw[z];calc⟨.int ns.sum,H,_,I.kept kp,⟨_,rfl⟩,av.refl H,Den.int _,q⟩
theorem Vals.rev:∀{xs:yar} {a:yad},Vals xs a->Vals xs.reverse a.reverse
 |_,_,.nil=>.nil
 |_,_,.cons r t=>by rw[zCz,zCz];calc(Vals.rev t).append (.cons r .nil)
def cutD(xs:yas)(lo a:yaq):yas:=(xs.drop (HT.SH #[xs] 0 lo)).take (HT.SH #[xs] #[xs] a - HT.SH #[xs] 0 lo)
def ah.cut{K:yac}{P:yak}{H:Hp}{c:yas}{a:yar}(lo b:yaq)(h:ah K P H c a):ah K P H (cutD c lo b) (pW a lo b):=by ext cutD pW;rw[h.len];calc(h.drop _).take _
abbrev DO:=Ro->(yaq->Prop)->Prop
def PDO(X:Cx)(e:Option Expr)(t:DO):Prop :=
 ∀ (a:yab) (s:Shared) (b:St) (H:Hp) (W:Own) (c:Ro) (Q:yaq->Prop),Inv X a b H s->Rel X W H b c->t c Q →
  wpAny (model X.prog X.w) X.A (evalPart e X.env) (λu d=>∃o c,Inv X a b c d/\IsPart u o/\av H c/\Q o) X.xe s
def da:DO:=λ_ Q=>Q none
def uK(te:DE):DO:=λa Q=>te a λd=>∃i,d=.int i/\Q (some i)
def cC:PDO X none da:=by intro a s b H W c Q I r h;calc Rz ⟨none,H,I,.none,av.refl H,h⟩
def cJ(d:RU X e te):PDO X (some e) (uK te):=by
 intro a s b H W c Q I r h;refine Rw (d a s b H W c _ I r h) λu j f=>?_
 let⟨v,h,d,g,a,d,b,i,c,q⟩:=f;subst c;let z:=b.SM;subst z;let⟨t,rfl⟩:=a;calc⟨some i,h,g,.int i t,d,q⟩
variable{lo hi st:Option Expr}{tl th ts:DO}{p2:Pos}
def ud{R:D->yaq->yaq->yaq->Prop}(n:RU X e te)(m:PDO X lo tl)(hh:PDO X hi th)(q:PDO X st ts)(I:Inv X pins σ H s)(r:Rel X W H σ ρ)
  (h:te ρ λd=>tl ρ λl=>th ρ λu=>ts ρ λk=>R d l u k)
  (A:∀(v:V) (a g f i:Value) (l u k:yaq) (d:D) (b:Addr) (H':Hp) (j:Shared),Inv X pins σ H' j->av H H'->RelV v a->Den X.K W.bad H' d v->j.heap.IsSliceOf b g f i->IsPart g l->IsPart f u->IsPart i k->R d l u k →
   ∃ T id,typeLookup (.type T) "__getitem__" = pure (some (.builtin id))/\j.TypeIs a T/\wpAny (model X.prog X.w) X.A (getItem a (.ref b)) Q X.xe j)
  (c:∀a b,∃ops,subscripted (.Slice lo hi st p2) false a b=operate ops (getItem a b)):wpAny (model X.prog X.w) X.A (eval (.Subscript e (.Slice lo hi st p2) pos) X.env) Q X.xe s:=by
 calc Subscript_ (Rw (n pins s σ H W ρ _ I r h) λa h n=>?_);let⟨v,w,d,o,t,s,B,j⟩:=n;let b:=r.same s;calc wpAny_Slice (Rw (m pins h σ w W ρ _ o b j) λg h ⟨l,r,o,y,j,m⟩=>Rw (hh pins h σ r W ρ _ o (b.same j) m) λf h ⟨u,w,r,x,m,o⟩=>Rw (q pins h σ w W ρ _ r ((b.same j).same m) o) λi h n=>?_);let⟨k,r,b,z,o,w⟩:=n;let C:Inv X pins σ r {h with heap:=h.heap.push {cls:=.type "slice", data:=.fields #[g,f,i]} }:=b.kept (t':=h.toks) λb ob q=>T6 _ q
 let⟨T,id,q,b,n⟩:=A v a g f i l u k d h.heap.objs.size r _ C (s.trans (j.trans (m.trans o))) t (B.same (j.trans (m.trans o))) (Heap.IsSliceOf.new ..) y x z w;let⟨ops,d⟩:=c a (.ref h.heap.objs.size);calc tail_any (ops:=ops) b q n d
def NW(te:DE)(tl th:DO):DA:=λa Q=>te a λd=>tl a λl=>th a λu=>∃t a,d=.lst t a/\Q (cutD a l u)
def NX(te:DE)(tl th:DO):DE:=λa Q=>te a λd=>tl a λl=>th a λu=>∃a,d=.tup a/\¬(HT.SH #[a] 0 l=0/\HT.SH #[a] #[a] u=#[a])/\Q (.tup (cutD a l u))
def sJ(f:yar->yar)(g:yas->yas)(I:Inv X pins σ H' s)(r:Rel X W H' σ ρ)(sm:av H H')(d:RelV v vv)(o:Den X.K W.bad H' (.lst tg ds) v)(hs:s.heap.IsSliceOf sl vl vu vk)(j:IsPart vl l)(i:IsPart vu u)(pk:IsPart vk k)(k0:k≠some 0)
  (m:∀b:yad,∃g':yad->yad,slicePick b.toArray l u k=(g' b).toArray/\∀c,Vals c b->Vals (f c) (g' b)/\#[f c]<=#[c]) (n:∀c,ah X.K W.bad H' ds c->ah X.K W.bad H' (g ds) (f c)) {Q:yas->Prop} (q:Q (g ds)) :
  ∃ T id,typeLookup (.type T) "__getitem__" = pure (some (.builtin id))/\s.TypeIs vv T/\wpAny (model X.prog X.w) X.A (getItem vv (.ref sl)) (FDP X pins σ W H Q) X.xe s:=by
 let⟨a,c,a,_,l,r⟩:=o.UI;subst a;cases d;let⟨b,d,a,k⟩:=I.list l;let h:=#[d];calc⟨"list", _,slot_list_getitem.lookup,a.isList.typeIs,?_⟩;calc wpAny_getItem_list_slice a.isList hs j i pk k0 ?_ (by rw[WJ]<;>lia);let⟨g',e,hv⟩:=m b;rw[e];let⟨a,i⟩:=hv c d;let d:H' s.heap.objs.size=none:=I.R5.fresh (Sx _);calc⟨s.heap.objs.size,f c,_,g ds,rfl,I.laid (t':=s.toks) (o:=.lst (f c)) (λb ob q=>T6 _ q) (Sx _) ⟨Sd i k,_,0,a,Vj _ rfl⟩,sm.trans (av.upd d),sm.free d,Inv.Um I,aQ,ah.apart d (Inv.Um I) (n c r),q⟩
def eK(g:RU X e te)(f:PDO X lo tl)(hh:PDO X hi th):WN X (.Subscript e (.Slice lo hi none p2) pos) (NW te tl th):=by
 intro c s o H W b Q I r h;calc ud (st:=none) (ts:=da) (R:=λd l u k=>k=none/\∃t a,d=.lst t a/\Q (cutD a l u)) g f hh cC I r ?_ ?_ (λ_ _=>⟨_,rfl⟩);let f:(λd=>tl b λl=>th b λu=>da b λk=>k=none/\∃t a,d=D.lst t a/\Q (cutD a l u))=λd=>tl b λl=>th b λu=>∃t a,d=D.lst t a/\Q (cutD a l u):=by
  funext d
  congr 1
  funext l
  congr 1
  funext u
  exact propext ⟨λz=>z.2,λz=>⟨rfl,z⟩⟩
 rw[f];calc h;intro v w y x A l u k d B H' C n sm d j i g f h b;let⟨k,t,a,m,q⟩:=b;subst k m;calc sJ (λb=>pW b l u) (λa=>cutD a l u) n (r.same sm) sm d j i g f h 52 (λa=>⟨λa=>(a.drop (HT.SH #[a] 0 l)).take (HT.SH #[a] #[a] u - HT.SH #[a] 0 l),yT a l u,λb a=>⟨by ext pW;rw[#[a]];calc(a.drop _).take _,sF b l u⟩⟩) (λb a=>a.cut l u) q
def NV(te:DE):DA:=λa Q=>te a λd=>∃t a,d=.lst t a/\Q a.reverse
def N7(c:RU X e te):WN X (.Subscript e (.Slice none none (some (.UnaryOp .USub (.Constant (.int 1) j pc) f)) p2) pos) (NV te):=by
 intro g s o H W b Q I r h;calc ud (ts:=uK (zY (dC (.int 1)))) (tl:=da) (th:=da) (R:=λd l u k=>l=none/\u=none/\k=some (-1)/\∃t a,d=.lst t a/\Q a.reverse) c cC cC (cJ (bE ae)) I r ?_ ?_ (λ_ _=>⟨_,rfl⟩);let c:(λd=>da b λl=>da b λu=>uK (zY (dC (.int 1))) b λk=>l=none/\u=none/\k=some (-1)/\∃t a,d=D.lst t a/\Q a.reverse)=λd=>∃t a,d=D.lst t a/\Q a.reverse:=by
  simp only[da,uK,zY,dC,true_and]
  cbv
 rw[c];calc h;intro v w y x z l u k d A H' B n sm b j i d f h k;let⟨c,m,l,t,a,a,q⟩:=k;subst c m l a;calc sJ List.reverse List.reverse n (r.same sm) sm b j i d f h 29 (λa=>⟨List.reverse,PySem.W.krv_pick a.toArray,λa b=>⟨Vals.rev b,72⟩⟩) (λa a=>a.rev) q
end
section
variable{prog:Program}{w:World}{A:Around}{E:yaa}{s:Shared}{p q:Addr}{us ws:yad}{Q:yaa}
def QT(c:s.heap.IsList p us.toArray)(m:s.heap.IsList q ws.toArray)(hz:#[us]+#[ws]<=sizeLine)
  (h:Q (.ref s.heap.objs.size) {s with heap:=s.heap.push {cls:=.type "list", data:=.seq (us++ws).toArray} }):wpAny (model prog w) A (binaryOp .Add (.ref p) (.ref q)) Q E s:=by
 let⟨⟨t,l,o,g⟩,b,a,j,g3⟩:=id c;let⟨⟨r,k,n,f⟩,e,d,i,c⟩:=id m;simp only at a g3 d c;subst a g3 d c;calc concat_meets ⟨_,b,rfl⟩ ⟨_,e,rfl⟩ noFill_list_add seq_list_add PySem.F.slot_list_add PySem.F.entry_list_add (PySem.F.args_list_add_2 _ _) (list_addW p q us.toArray ws.toArray j i l k g f (by simpa using hz)) ⟨b,e,?_⟩;rw[show us.toArray++ws.toArray=(us++ws).toArray by simp];calc h
def QU(b:IsTup s.heap p us.toArray)(i:IsTup s.heap q ws.toArray)(hz:#[us]+#[ws]<=sizeLine)(h0:us=[]->Q (.ref q) s)(j:ws=[]->Q (.ref p) s)
  (h:Q (.ref s.heap.objs.size) {s with heap:=s.heap.push {cls:=.type "tuple", data:=.seq (us++ws).toArray} }):wpAny (model prog w) A (binaryOp .Add (.ref p) (.ref q)) Q E s:=by
 let⟨⟨t,h,o,d⟩,a,k,f,g3⟩:=id b;let⟨⟨r,g,n,c⟩,b,m,e,l⟩:=id i;subst k g3 m l;by_cases hv:us=[];calc concat_meets ⟨_,a,rfl⟩ ⟨_,b,rfl⟩ noFill_tuple_add seq_tuple_add PySem.F.slot_tuple_add PySem.F.entry_tuple_add (PySem.F.args_tuple_add_2 _ _) (tuple_addW0 p q us.toArray ws.toArray f e h g d c (by simp[hv])) ⟨a,b,h0 hv⟩;by_cases i:ws=[];calc concat_meets ⟨_,a,rfl⟩ ⟨_,b,rfl⟩ noFill_tuple_add seq_tuple_add PySem.F.slot_tuple_add PySem.F.entry_tuple_add (PySem.F.args_tuple_add_2 _ _) (tuple_addW1 p q us.toArray ws.toArray f e h g d c 46 (by simp[i])) ⟨a,b,j i⟩;calc concat_meets ⟨_,a,rfl⟩ ⟨_,b,rfl⟩ noFill_tuple_add seq_tuple_add PySem.F.slot_tuple_add PySem.F.entry_tuple_add (PySem.F.args_tuple_add_2 _ _) (tuple_addW2 p q us.toArray ws.toArray f e h g d c 46 46 46) ⟨a,b,?_⟩;grind
end
section
variable{X:Cx}{pos:Pos}
def nX:RD2:=λx y Q=>match x,y with
 |.int i,.int j=>Q (.int (i+j))
 |.tup b,.tup a=>#[b]+#[a]<=sizeLine/\Q (.tup (b++a))
 |.lst _ b,.lst _ a=>#[b]+#[a]<=sizeLine/\Q (.lst true (b++a))
 |_,_=>False
theorem Fs(i j:Int)(Q:D->Prop):nX (.int i) (.int j) Q=Q (.int (i+j)):=rfl
theorem zD(t u:Bool)(xs ys:yas)(Q:D->Prop):nX (.lst t xs) (.lst u ys) Q=(#[xs]+#[ys]<=sizeLine/\Q (.lst true (xs++ys))):=rfl
def CS{W:Own}{H:Hp}{t:Bool}(b:∀t a,W.bad t a->∃o,H a=some o)(h:H a=none):¬W.bad t a:=72
set_option tactic.hygienic true in
def aN:TB X (binaryOp .Add) nX:=by
 intro a s b H W x y v u c d Q I A w z n m q;cases x<;>cases y<;>first|calc q.elim|skip
 calc OW a s b H W _ _ v u c d Q I A w z n m q;rename_i L b;let⟨p,l,y,g,k⟩:=n.UY;let⟨B,d,x,f,c⟩:=m.UY;subst y x;cases w;cases z;let⟨o,j,t,_⟩:=I.tuple g.w;let⟨a,i,r,_⟩:=I.tuple f.w;let⟨M,q⟩:=q;let J:=k.len;let G:=c.len;let E:=#[j];let C:=#[i];let e:#[o]+#[a]<=sizeLine:=by omega
 let h:H s.heap.objs.size=none:=I.R5.fresh (Sx _);calc QU t r e (λe=>?_) (λe=>?_) ?_;subst e;have:l=[]:=zBN (by simpa using E);subst this;have:L=[]:=zBN (by simpa using J.symm);subst this;calc⟨.ref B,H,_,I,rfl,av.refl H,m,q⟩;subst e;have:d=[]:=zBN (by simpa using C);subst this;have:b=[]:=zBN (by simpa using G.symm);subst this;rw[Yx]at q;calc⟨.ref p,H,_,I,rfl,av.refl H,n,q⟩;calc⟨.ref s.heap.objs.size,L2.upd H s.heap.objs.size (.tup (l++d)),_,I.laid (t':=s.toks) (λb u e=>T6 _ e) (Sx _) ⟨by rw[UQ];omega,o++a,j.append i,⟨_,Vj _ rfl,rfl,_,rfl⟩⟩,rfl,av.upd h,Den.tup (SK.of aQ) ((k.append c).same (av.upd h)),q⟩;let⟨p,l,y,_,g,k⟩:=n.UI;let⟨B,d,x,_,f,c⟩:=m.UI;subst y x;cases w;cases z;let⟨o,j,t,_⟩:=I.list g;let⟨a,i,r,_⟩:=I.list f;let⟨M,q⟩:=q;let J:=k.len;let G:=c.len;let E:=#[j];let C:=#[i];let h:H s.heap.objs.size=none:=I.R5.fresh (Sx _);calc QT t.isList r.isList (by omega) ?_;calc⟨.ref s.heap.objs.size,L2.upd H s.heap.objs.size (.lst (l++d)),_,I.laid (t':=s.toks) (λb u e=>T6 _ e) (Sx _) ⟨by rw[UQ];omega,o++a,0,j.append i,Vj _ rfl⟩,rfl,av.upd h,Den.lst (CS A h) (.new aQ (Inv.Um I)) ((k.append c).same (av.upd h)),q⟩
def okI(x:D):Prop:=okD x/\(UK x).depth<64
def MN:RD2:=λx y Q=>okI x/\okD y/\∃a,(y=.tup a∨∃ t,y=.lst t a)/\Q (.bl (!a.any λz=>eqD z x))
theorem zE(x:D):∀ys:yas,(dq ys).any (λy=>PyData.eqv y (UK x))=ys.any λz=>eqD z x
 |[]=>by rfl
 |y::r=>by rw[dq,List.any_cons,List.any_cons,zE x r];rfl
def CH{A:Around}{d:PyData}(b:d.depth<64)(a:A.units+64<cLine):A.units+1+min (PyData.depthAll xs) d.depth<cLine:=by
 have:min (PyData.depthAll xs) d.depth<=d.depth:=Nat.min_le_right _ _
 lia
def JA(i:X.A.units+64<cLine):TB X (compareOp .NotIn) MN:=by
 intro a s j H W x y v u l m Q I _ n o r p q;let⟨b,f,k,e,q⟩:=q;let⟨z,h⟩:=eJ I x v l r n b.1.1;let⟨w,g⟩:=eJ I y u m p o f.1;let c:DP X a j W H Q (.bool (!(dq k).any λy=>PyData.eqv y (UK x))) s:=by rw[zE];exact⟨.bl _,H,_,I,rfl,av.refl H,Den.bl _,q⟩
 obtain e|⟨t,e⟩:=e;subst e;let d:=f.2;calc SeqAt.notIn_tuple_reads g h (SeqAt.canLay_of_shaped d) (SeqAt.canLay_of_shaped b.1.2) (CH b.2 i) c;subst e;let d:=f.2;calc SeqAt.notIn_list_reads g h (SeqAt.canLay_of_shaped d) (SeqAt.canLay_of_shaped b.1.2) (CH b.2 i) c
end
def kwG{a:Type}(b ws:List a):List a:=match ws with
 |[w]=>b++[w]
 |_=>[]
def L7(r:Vals vs us)(a:Vals zs ws):Vals (kwG vs zs) (kwG us ws):=by
 cases a with
 |nil=>calc .nil
 |cons a b =>
  cases b with
  |nil=>calc r.append (.cons a .nil)
  |cons c d=>calc .nil
def pM(P:Program)(w:World)(K:yac)(b:yam)(base:Heap)(x:Str)(k:Nat)(ps:yah)(c:Str)(sp:DSp):Prop :=
 ∃ f a,aG P w K b base (CX1 P w) k f a ps (aH K sp)/\b x=some (.ref f)/\PySem.W.keepIn K (.ref f)=true/\Binds K a ps []/\Binds K a ps [.none]/\Fq K a ps [c] kwG kwG
def PKD(X:Cx)(e:List Keyword)(t:DA):Prop :=
 ∀ (c:Pos) (a:yab) (s:Shared) (b:St) (H:Hp) (W:Own) (d:Ro) (Q:yas->Prop),Inv X a b H s->Rel X W H b d->t d Q →
  wpAny (model X.prog X.w) X.A (evalAll ((backToKw c (keywordEach e X.env)).map (·.2))) (DAP X a b W H Q) X.xe s
section
variable{X:Cx}{k:Nat}{ps:yah}{kn:Str}{sp:DSp}{x:Str}{p pos kpos:Pos}{e:Expr}{es:yai}{t tk:DA}{te:DE}{nm:Option Str}{SF:List Keyword}
def i7 (h:pM X.prog X.w X.K X.mg X.base x k ps kn sp) (a:bS k X.A) (i:Wz X (e::es) t) (d:Gl X x:=by rfl) (j:(x==("__debug__" : Str))=false:=by decide)
  (g:starEach (e::es) X.env=(false,eval e X.env)::starEach es X.env:=by rfl) (l:(backTo pos (starEach es X.env)).any (·.1)=false:=by rfl):RU X (.Call (.Name x p) (e::es) [] pos) (uH sp [.RZ] t):=by
 let⟨f,m,F,b,c,_,f,_⟩:=h;calc Ab (dds:=[.RZ]) (dsv:=[.none]) F a d b c f (.cons rfl .nil) (by intro d a;simp at a;subst a;calc True.intro) KL i j g l
def Ol(a:D)(R:D->Prop):(∃d,[a]=[d]/\R d)=R a:=35
def NN(sp:DSp)(t:DA):DA:=λa Q=>t a λa=>sp (bf a) (λd=>∃a,d=.lst true a/\fg a=true/\Q a) λ_=>False
end
def qi:Key->D
 |.inl i=>.int i
 |.inr x=>.str x
section
variable{κ:Type} [DecidableEq κ] {K:yac}{P:yak}{H:Hp}
noncomputable def fZ(kvs:List (κ×D))(k:κ):Option D:=(kvs.find? λa=>decide (a.1=k)).map (·.2)
def putD(kvs:List (κ×D))(k:κ)(d:D):List (κ×D):=if(fZ kvs k).isSome=true then kvs.map (λa=>if a.1=k then(a.1,d)else a)else kvs++[(k,d)]
def El(p:κ×D)(r:List (κ×D))(k:κ):fZ (p::r) k=if p.1=k then some p.2 else fZ r k:=by ext fZ;grind
theorem tM:∀{kvs:List (κ×D)} {a:List (κ×V)} {k:κ},a.map (·.1)=kvs.map (·.1)->ah K P H (kvs.map (·.2)) (a.map (·.2))->match fZ kvs k with|some d=>∃v,dF a k=some v/\Den K P H d v|none=>dF a k=none
 |[],a,k,e,_=>by
  have:a=[]:=46
  subst this;calc Kf
 |p::r,[],k,e,_=>by simp at e
 |p::r,q::s,k,e,h=>by
  simp at e;simp at h;let⟨v,u,a,f,b⟩:=h;simp at a;let⟨a,c⟩:=a;subst c;rw[El];by_cases z:p.1=k
  simp_all [Rr,o5]
  rw[if_neg z,oZ 46];calc tM e.2 b
def wU{kvs:List (κ×D)}{a:List (κ×V)}{d:D}(e:a.map (·.1)=kvs.map (·.1))(h:ah K P H (kvs.map (·.2)) (a.map (·.2)))(l:fZ kvs k=some d):∃v,dF a k=some v/\Den K P H d v:=by have:=tM (k:=k) e h;rw[l]at this;calc this
def Jw{kvs:List (κ×D)}{a:List (κ×V)}(e:a.map (·.1)=kvs.map (·.1))(h:ah K P H (kvs.map (·.2)) (a.map (·.2)))(l:fZ kvs k=none):dF a k=none:=by have:=tM (k:=k) e h;rw[l]at this;calc this
def J6{kvs:List (κ×D)}{a:List (κ×V)}(e:a.map (·.1)=kvs.map (·.1))(h:ah K P H (kvs.map (·.2)) (a.map (·.2))):(dF a k).isSome=(fZ kvs k).isSome:=by
 cases l:fZ kvs k with
 |none=>rw[Jw e h l];rfl
 |some d =>
  let⟨v,q,_⟩:=wU e h l;rw[q];rfl
theorem A6:∀{kvs:List (κ×D)} {b:List (κ×V)} {k:κ} {d:D} {v:V},b.map (·.1)=kvs.map (·.1)->ah K P H (kvs.map (·.2)) (b.map (·.2))->Den K P H d v →
  (b.map λa=>if a.1=k then(a.1,v)else a).map (·.1)=(kvs.map λa=>if a.1=k then(a.1,d)else a).map (·.1)/\ah K P H ((kvs.map λa=>if a.1=k then(a.1,d)else a).map (·.2)) ((b.map λa=>if a.1=k then(a.1,v)else a).map (·.2))
 |[],b,k,d,v,e,_,_=>46
 |p::r,[],k,d,v,e,_,_=>by simp at e
 |p::r,q::s,k,d,v,e,h,c=>by
  simp at e;simp at h;let⟨i,u,a,m,f⟩:=h;simp at a;let⟨a,g⟩:=a;subst g;let⟨l,j⟩:=A6 (k:=k) e.2 f c;by_cases z:p.1=k
  all_goals simp_all [Rr,ah.cons,if_neg]
def MJ{kvs:List (κ×D)}{a:List (κ×V)}(e:a.map (·.1)=kvs.map (·.1))(h:ah K P H (kvs.map (·.2)) (a.map (·.2)))(b:Den K P H d v) :
  (putK a k v).map (·.1)=(putD kvs k d).map (·.1)/\ah K P H ((putD kvs k d).map (·.2)) ((putK a k v).map (·.2)):=by
 ext putK putD;rw[kY,J6 e h];by_cases z:(fZ kvs k).isSome=true;rw[Rr z,Rr z];calc A6 e h b;rw[if_neg z,if_neg z,VB,VB,VB,VB,e];calc⟨rfl,h.append (ah.one b)⟩
end
def wK{K:yac}{P:yak}{H:Hp}{k:Key}{v:V}(h:Den K P H (qi k) v):v=kV k:=by
 cases k with
 |inl i=>calc h.SM
 |inr x=>calc h.str_
theorem xZ{K:yac}{P:yak}{H:Hp}:∀{b:List Key} {a:yar},ah K P H (b.map qi) a->a=b.map kV
 |[],_,h=>by simpa only[zDh,ah]using h
 |k::r,_,h=>by let⟨v,u,e,b,a⟩:=h;rw[e,wK b,xZ a];rfl
theorem AU:∀(b:List Key) (ps:List (V×V)),ps.map (·.1)=b.map kV->ps=(b.zip (ps.map (·.2))).map λa=>(kV a.1,a.2)
 |[],ps,e=>46
 |k::r,[],e=>by simp at e
 |k::r,p::q,e=>by simp at e;rw[Vq,List.zip_cons_cons,Vq,<- AU r q e.2,<- e.1]
def GI{a:List (Key×V)}:∀{kvs:List (Key×V)},(kvs.map (·.1)++a.map (·.1)).Nodup->va kvs a=kvs++a:=by
 induction a with
 |nil=>intro kvs _;show kvs=kvs++[];cbv
 |cons p r ih =>
  intro kvs h;show va (putK kvs p.1 p.2) r=_;let d:dF kvs p.1=none:=by
   cases q:dF kvs p.1 with
   |none=>rfl
   |some x =>
    let c:(kvs.any λa=>decide (a.1=p.1))=true:=by rw[kY,q];rfl
    let⟨a,b,e⟩:=List.any_eq_true.mp c;have:=(List.nodup_append.mp h).2.2 a.1 (List.mem_map_of_mem b) p.1 52
    lia
  simp_all [JS,VB]
def PPD(X:Cx)(pos:Pos)(c:List (Option Expr))(a:yai)(t:Ro->(List (D×D)->Prop)->Prop):Prop :=
 ∀ (b:yab) (s:Shared) (d:St) (H:Hp) (W:Own) (e:Ro) (Q:List (D×D)->Prop),Inv X b d H s->Rel X W H d e->t e Q →
  wpAny (model X.prog X.w) X.A (evalPairs (pairTrees c a X.env pos)) (λf g=>∃c a e,Inv X b d a g/\VV c f/\av H a/\ah X.K W.bad a (e.map (·.1)) (c.map (·.1))/\ah X.K W.bad a (e.map (·.2)) (c.map (·.2))/\Q e) X.xe s
section
variable{X:Cx}{pos:Pos}
def Ky:Ro->(List (D×D)->Prop)->Prop:=λ_ Q=>Q []
def F1(c b:DE)(t:Ro->(List (D×D)->Prop)->Prop):Ro->(List (D×D)->Prop)->Prop:=λa Q=>c a λk=>b a λv=>t a λr=>Q ((k,v)::r)
def N8:PPD X pos [] [] Ky:=λa s b H W c Q I r h=>pairTrees_nil_walk ⟨[],H,[],I,.nil,av.refl H,ah.nil,ah.nil,h⟩
def wM(d:RU X k tk)(hv:RU X v tv)(l:PPD X pos ks vs t):PPD X pos (some k::ks) (v::vs) (F1 tk tv t):=by
 intro a s b H W c Q I r h;refine pairTrees_cons_walk (Rw (d a s b H W c _ I r h) λu d ⟨x,i,n,g,h,e,k,f⟩=>Rw (hv a d b i W c _ g (r.same e) f) λz f ⟨y,p,m,o,g,d,j,i⟩=>
  Rw (l a f b p W c _ o ((r.same e).same d) i) λw A ⟨f,q,o,p,a,b,l,i,c⟩=>?_)
 calc⟨(x,y)::f,q,(n,m)::o,p,.cons ⟨h,g⟩ a,e.trans (d.trans b),ah.cons (k.same (d.trans b)) l,ah.cons (j.same b) i,c⟩
def ah.apartD{K:yac}{H:Hp}{o:HO}(n:H a=some o)(m:(∀xs,o ≠ .lst xs)/\(∀xs,o ≠ .tup xs)/\(∀b u,o ≠ .frz b u)/\¬Zv o)(k:K.lookup a=none)(h:ah K P H ds us):ah K (λt b=>P t b∨b=a) (L2.upd H a o') ds us:=by
 let d:∀b c,SK K H b c->SK K (L2.upd H a o') b c:=λb c q=>by show L2.upd _ _ _ _=_;rw[aC (nV q n λz=>m.2.1 _ z.symm)];exact q
 calc ah.map d (λt b c p q=>?_) (λb u v q=>by rw[aC 35];calc q) ds us h;let c:b≠a:=λz=>by
  rcases q.1 with(q|⟨u,q⟩)|⟨u,Ru,j,q,_⟩
  all_goals grind
 calc⟨35,?_,λz=>⟨by rw[aC c];calc(q.2 z).1,(q.2 z).2⟩⟩;rcases q.1 with(q|⟨u,q⟩)|q;calc .inl (.inl (by simp_all [aC]));calc .inl (.inr ⟨u,by simp_all [aC]⟩);calc .inr q
def FR(i:Nat)(t:Ro->(List (D×D)->Prop)->Prop):DS:=λE b=>t b λc=>∃a:List (Key×D),c=a.map (λc=>(qi c.1,c.2))/\#[a]<=15/\(a.map (·.1)).Nodup/\E.nx (b.set i (some (.ob (.dk a))))
def IP{x:Str}{d c:Pos}{b:List (Option Expr)}{a:yai}{t:Ro->(List (D×D)->Prop)->Prop}(i:Nat)(C:X.N.Nodup)(h:PPD X c b a t)(k:X.N[i]?=some x:=by rfl)(j:b.all (·.isSome)=true:=by rfl)(f:#[b]=#[a]:=by rfl)(h0:b ≠ []:=by simp)
  (e:#[b]<=15:=by decide) (A:Loc X.env.scope x:=by first|calc Or.inl rfl|calc Or.inr rfl) (hs:swapsWith (.Dict b a c) (some (.Name x d)) pos.line X.env=pure false:=by rfl)
  (B:X.fn x=true∨X.env.scope.names.lookup x=some .local:=by first|calc .inl rfl|calc .inr rfl|assumption):US X (.Assign [.Name x d] (.Dict b a c) pos) (FR i t):=by
 intro b s c H W d E I r i;let g:=I.R5.fresh (Sx s.heap.objs.size);let m:=Inv.Um I;let l:=I.laid (a:=s.heap.objs.size) (o:=.dK []) (h':=s.heap.push {cls:=.type "dict", data:=.dict #[]}) (t':=s.toks) (λ_ _ q=>T6 _ q) (Sx _) (IM s.heap I.big);calc wpAny_Assign_Name (wpAny_Dict_walk (knd:=cq X.prog X.w) j f h0 e (Rw (h b _ c _ W d _ l (r.same (av.upd g)) i) λp t e=>?_)) hs;let⟨c,n,J,j,d,sm,f,h,kvs,b,lk,y,q⟩:=e;subst b;let e:=sm _ _ (aQ (H:=H) (a:=s.heap.objs.size) (o:=.dK []));let b:c.map (·.1)=(kvs.map (·.1)).map kV:=xZ (by
  have:(kvs.map λa=>(qi a.1,a.2)).map (·.1)=(kvs.map (·.1)).map qi:=by simp[UA,Function.comp_def]
  rw[this]at f;calc f)
 let f:ah X.K W.bad n (kvs.map (·.2)) (c.map (·.2)):=by
  have:(kvs.map λa=>(qi a.1,a.2)).map (·.2)=kvs.map (·.2):=by simp[UA,Function.comp_def]
  rw[this]at h;exact h
 let a:#[kvs.map (·.1)]=#[c.map (·.2)]:=by have:=f.len;simp[this]
 let l:=AU _ c b;generalize hkw:(kvs.map (·.1)).zip (c.map (·.2))=b at l;let h:b.map (·.1)=kvs.map (·.1):=by rw[<- hkw,List.map_fst_zip (XJ a)]
 let E:b.map (·.2)=c.map (·.2):=by rw[<- hkw,List.map_snd_zip (XJ a.symm)]
 rw[l]at d;let⟨a,c,rk⟩:=uF (P:=X.prog) (w:=X.w) d;let⟨z,o,u,d,l⟩:=Kx j.R5 e;cases d;calc⟨a,c,l,λh' a w=>?_⟩;let c:#[b]=#[kvs]:=by have:=congrArg List.length h;simpa using this
 let l:va [] b=b:=by rw[GI (by rw[h];simpa using y)];rfl
 let d:#[b]<=sizeLine:=by rw[c,Tq];lia
 let c:∃q,h'.get? s.heap.objs.size=some q:=let ⟨q,_,_,i,_⟩:=a;⟨q,i⟩;let i:=wH (t':=t.toks+#[p]) j (by rw[e];calc True.intro) w c (F0 (kvs:=b) d o (by rw[<- l];calc rk.merge .nil) a);let a:=r.putG (x:=.dk kvs) (Inv.X2 j k) (H':=L2.upd n s.heap.objs.size (.dK b)) (((av.upd g).trans sm).ins g e True.intro True.intro) g m aQ
  (.dk h (by rw[E];calc ah.apartD e ⟨(λ_ z=>by cases z),(λ_ z=>by cases z),(λ_ _ z=>by cases z),λz=>z⟩ m f))
 calc dP (v:=.ref s.heap.objs.size) i C k A rfl (λG b=>⟨_,_,_,b,a.2,_,a.1,q⟩) B
def Rel.ownK(r:Rel X W H σ ρ){i:Nat}(h:ρ[i]?=some (some (.ob (.dk kvs)))):∃a b,W.O i=some a/\σ[i]?=some (some (.ref a))/\H a=some (.dK b)/\b.map (·.1)=kvs.map (·.1)/\ah X.K W.bad H (kvs.map (·.2)) (b.map (·.2)):=by
 let⟨a,o,f,d,c,b⟩:=r.own i _ h;cases b with
 |dk e b=>calc⟨a,_,f,d,c,e,b⟩
def NO(i:Nat)(c:DE):DE:=λb Q=>∃a,b[i]?=some (some (.ob (.dk a)))/\c b λk=>∃b d,k=qi b/\fZ a b=some d/\Q d
def Ae {x:Str} (i:Nat) (a:X.A.units+1<cLine) (d:RU X b tb) (e:X.N[i]?=some x:=by rfl) (hv:Ym X.env.scope x:=by first|calc Or.inl rfl|calc Or.inr (Or.inl rfl)|calc Or.inr (Or.inr rfl)) (c:(x==("__debug__" : Str))=false:=by decide)
  (f:(x==("__classdict__" : Str))=false:=by decide) (hs:Ij b:=by intro _ _;rfl):RU X (.Subscript (.Name x px) b pos) (NO i tb):=by
 refine RU.of (MD a (fU e hv c f) d.pe hs) λn H W b Q r h=>?_
 let⟨j,f,h⟩:=h;let⟨a,SF,o,d,i,e,m⟩:=r.ownK f;calc⟨.ref a,d,W,b,_,r,h,λv H1 d d c q=>?_⟩;let⟨k,h,rfl,l,q⟩:=q;let⟨f,g,b⟩:=wU e m l;have:=wK c;subst this;calc⟨a,f,rfl,?_,d,h,b.same d,q⟩;rw[<- g];calc pK.k (d _ _ i)
def Kq(i:Nat)(b te:DE):DS:=λE c=>∃a,c[i]?=some (some (.ob (.dk a)))/\b c λk=>∃b n,k=qi b/\fZ a b=some (.int n)/\te c λd=>∃m,d=.int m/\#[a]<sizeLine/\E.nx (c.set i (some (.ob (.dk (putD a b (.int (n+m)))))))
def Lx {x:Str} (i:Nat) (h:X.A.units+1<cLine) (k:RU X b tb) (j:RU X e te) (l:X.N[i]?=some x:=by rfl) (hv:Ym X.env.scope x:=by first|calc Or.inl rfl|calc Or.inr (Or.inl rfl)|calc Or.inr (Or.inr rfl)) (g:(x==("__debug__" : Str))=false:=by decide)
  (m:(x==("__classdict__" : Str))=false:=by decide) (f:∀c d a,augStore b c d a=(do holding [a,c,d] (setItem c d a);release [a,c,d] [];pure .next):=by intros;rfl):US X (.AugAssign (.Subscript (.Name x px) b tpos) .Add e pos) (Kq i tb te):=by
 refine US.of (MH h (fU l hv g m) k.pe j.pe OF f) λy H W j E r C h=>?_
 let⟨u,p,h⟩:=h;let⟨a,w,t,o,f,i,s⟩:=r.ownK p;calc⟨.ref a,o,W,j,_,r,h,λv H1 d b g q=>?_⟩;let⟨e,n,rfl,l,q⟩:=q;let⟨A,k,c⟩:=wU i s l;let h:=wK g;let d:=c.SM;subst h d;calc⟨a,_,rfl,by rw[<- k];calc pK.k (b _ _ f),W,j,_,r.same b,q,λz H2 G c a d=>?_⟩;let⟨m,rfl,B,d⟩:=d;let g:=a.SM;subst g;let h:#[w]<sizeLine:=by have:=congrArg List.length i;simp at this;lia
 let a:=c _ _ (b _ _ f);let⟨g,f⟩:=MJ (k:=e) i (s.same (b.trans c)) (Den.int (n+m));let⟨e,i⟩:=((r.same b).same c).mutG p t o a True.intro (.dk g f);calc⟨n,m,rfl,rfl,_,zo.k a h,W,_,(Sm.same (b.trans c)).trans i,e,d⟩
end
def Om(kvs:List (Key×D))(r:Ro)(R:List (Key×D)->Prop):(∃ys,(some (Sl.ob (.dk kvs))::r)[0]?=some (some (Sl.ob (.dk ys)))/\R ys)=R kvs:=72
theorem Oo(n:Nat)(x:Option Sl)(r:Ro)(R:List (Key×D)->Prop):(∃ys,(x::r)[n+1]?=some (some (Sl.ob (.dk ys)))/\R ys)=(∃ys,r[n]?=some (some (Sl.ob (.dk ys)))/\R ys):=rfl
def MY(t:Bool)(xs:yas)(R:yas->Prop):(∃k a,fM (.lst t xs)=some (k,a)/\R a)=R xs:=by apply propext;constructor;rintro⟨_,_,e,q⟩;cases e;calc q;intro q;calc⟨_,_,rfl,q⟩
def Dr{k1 k2:Bool}{xs ys:yas}(g:fM a=some (k1,xs))(f:fM b=some (k2,ys))(R:yas->Prop):(∃h e k1 k2 d c,[a,b]=[h,e]/\fM h=some (k1,d)/\fM e=some (k2,c)/\R (List.zipWith (λx y=>D.tup [x,y]) d c))=R (List.zipWith (λx y=>D.tup [x,y]) xs ys):=by apply propext;constructor;rintro⟨_,_,_,_,_,_,e,b,a,q⟩;cases e;rw[g]at b;rw[f]at a;cases b;cases a;calc q;intro q;calc⟨_,_,_,_,_,_,rfl,g,f,q⟩
def PQ(t u:Bool)(xs ys:yas)(R:yas->Prop):(∃d c k1 k2 b a,[D.lst t xs,D.lst u ys]=[d,c]/\fM d=some (k1,b)/\fM c=some (k2,a)/\R (List.zipWith (λx y=>D.tup [x,y]) b a))=R (List.zipWith (λx y=>D.tup [x,y]) xs ys):=Dr rfl rfl R
def PR(u:Bool)(xs ys:yas)(R:yas->Prop):(∃d c k1 k2 b a,[D.lst u xs,D.tup ys]=[d,c]/\fM d=some (k1,b)/\fM c=some (k2,a)/\R (List.zipWith (λx y=>D.tup [x,y]) b a))=R (List.zipWith (λx y=>D.tup [x,y]) xs ys):=Dr rfl rfl R
theorem Ip(b:Int):ju (.int b)=true:=rfl
def Nu{a:yas}{k:Int}{Q:D->Prop}(h0:0<=k)(c:k<#[a])(h:∀d∈a,Q d):∃d,T7 a k=some d/\Q d:=by
 let e:k=((k.toNat:Nat):Int):=35
 let b:k.toNat<#[a]:=35
 calc⟨a[k.toNat],?_,h _ (XW b)⟩;let q:T7 a ((k.toNat:Nat):Int)=some a[k.toNat]:=bU 52;rw[<- e]at q;calc q
def comp_map{a:Type}{wi:DA}{js:yag}{tc:DT}{te:DE}{Q:D->Prop}(xs:List a)(f:a->D)(c:a->Bool)(g:a->D)(b:∀R:yas->Prop,R (xs.map f)->wi ρ R)(hz:#[xs]<=sizeLine)
  (k:∀x∈xs,∀K:Bool->Prop,K (c x)->tc (some (.val (f x))::js.map (bI ρ)) K) (i:∀x∈xs,c x=true->∀K:D->Prop,K (g x)->te (some (.val (f x))::js.map (bI ρ)) K) (q:Q (.lst true ((xs.filter c).map g))):uI wi js tc te ρ Q:=by
 calc b _ ⟨46,λj a=>a=((xs.take j).filter c).map g,52,λj d a b c=>?_,λa c=>?_⟩;rw[UR]at b;cases ex:xs[j]? with
 |none=>cbv
 |some x =>
  rw[ex]at b;let h:x∈xs:=UX ex;let e:xs.take (j+1)=xs.take j++[x]:=by simp_all [zDQ]
  grind
 grind
def rB{c:Type}{wi:DA}{g:DG}{h:DS}{E:jK}(xs:List c)(f:c->D)(Pv:List c->Ro->Prop)(j:∀R:yas->Prop,R (xs.map f)->wi ρ R)(d:Pv [] ρ)
  (e:∀(done:List c) (x:c) (a:Ro),x∈xs->#[done]<#[xs]->Pv done a->g (f x) a λb=>h {E with nx:=Pv (done++[x]),ct:=Pv (done++[x]),bk:=E.nx} b) (i:∀a,Pv xs a->E.nx a):pX wi g h E ρ:=by
 calc j _ ⟨λj=>Pv (xs.take j),by simpa using d,λj d a c d=>?_,λa d=>i a (by rw[RG,XG (Sx _)]at d;calc d)⟩;rw[UR]at c;cases ex:xs[j]? with
 |none=>rw[ex]at c;cases c
 |some x =>
  rw[ex]at c;cases c;let k:=(VE.mp ex).1;let c:xs.take (j+1)=xs.take j++[x]:=by rw[zDQ,ex];rfl
  show g (f x) a λb=>h {E with nx:=Pv (xs.take (j+1)),ct:=Pv (xs.take (j+1)),bk:=E.nx} b
  rw[c];calc e (xs.take j) x a (UX ex) (by rw[Wq];lia) d
structure Uy(n:Nat)(d:D):Prop where
 pl:X1 d=true
 lay:(UK d).canLay0=true
 dp:(UK d).depth<=n
structure kA(n:Nat)(ds:yas):Prop where
 pl:ql ds=true
 lay:PyData.canLayAll0 (dq ds)=true
 dp:PyData.depthAll (dq ds)<=n
def Uy.ok(h:Uy n d)(a:n<=64:=by decide):okD d:=⟨h.pl,by ext SeqAt.shaped;rw[h.lay,U6 (Sd h.dp a)];rfl⟩
theorem Uy.okI(h:Uy n d)(a:n<64:=by decide):okI d:=⟨h.ok (UD a),Xf h.dp a⟩
theorem Uy.int(n:Nat)(i:Int):Uy n (.int i):=⟨by rw[X1]<;>(intros;contradiction),by rw[UK,PyData.canLay0],by rw[UK,PyData.depth];lia⟩
theorem Uy.RZ(n:Nat):Uy n .RZ:=⟨by rw[X1]<;>(intros;contradiction),by rw[UK,PyData.canLay0],by rw[UK,PyData.depth];lia⟩
def kA.nil(n:Nat):kA n []:=⟨by rw[ql],by rw[dq,PyData.canLayAll0],by rw[dq,PyData.depthAll];lia⟩
def kA.cons(h:Uy n d)(h':kA n ds):kA n (d::ds):=⟨by rw[ql,h.pl,h'.pl];rfl,by rw[dq,PyData.canLayAll0,h.lay,h'.lay];rfl,by calc Nat.max_le.mpr ⟨h.dp,h'.dp⟩⟩
theorem kA.of:∀{a:yas},(∀d∈a,Uy n d)->kA n a
 |[],_=>.nil n
 |d::r,h=>.cons (h d XU) (kA.of λx b=>h x 72)
theorem Uy.tup(h:kA n ds):Uy (n+1) (.tup ds):=⟨by calc h.pl,by calc h.lay,by calc zCi h.dp⟩
theorem Uy.lst(h:kA n ds):Uy (n+1) (.lst t ds):=⟨by calc h.pl,by calc h.lay,by calc zCi h.dp⟩
theorem Uy.map{a:Type}{f:a->D}{xs:List a}(h:∀x,Uy n (f x)):Uy (n+1) (.lst t (xs.map f)):=Uy.lst (kA.of λd a=>by let⟨x,_,rfl⟩:=SG.mp a;calc h x)
def lQ(xs ys:yas):Bool:=PyData.eqvAll (dq xs) (dq ys)
def LB(t u:Bool)(xs ys:yas):eqD (.lst t xs) (.lst u ys)=lQ xs ys:=by ext eqD lQ;rw[UK,UK,PyData.eqv]
theorem wQ(xs ys:yas):eqD (.tup xs) (.tup ys)=lQ xs ys:=by ext eqD lQ;rw[UK,UK,PyData.eqv]
theorem tG:lQ [] []=true:=by ext lQ;rw[dq,PyData.eqvAll]
theorem i9(x y:D)(xs ys:yas):lQ (x::xs) (y::ys)=(eqD x y && lQ xs ys):=by ext lQ eqD;rw[dq,dq,PyData.eqvAll]
def LD(x y:Str):eqD (.str x) (.str y)=(x==y):=by ext eqD;rw[UK,UK,PyData.eqv]
def LC:eqD .RZ .RZ=true:=by ext eqD;rw[UK,PyData.eqv]
mutual
theorem eQ:∀d:D,eqD d d=true
 |.RZ=>LC
 |.bl b=>by rw[F8];simp
 |.int i=>by rw[j9];simp
 |.str x=>by rw[LD];simp
 |.exc _=>by ext eqD;rw[UK,PyData.eqv]
 |.obj _ _ _=>by ext eqD;rw[UK,PyData.eqv]
 |.Wx=>by ext eqD;rw[UK,PyData.eqv]
 |.V2 _ _=>by ext eqD;rw[UK,PyData.eqv]
 |.tup a=>by rw[wQ];calc p6 a
 |.lst t a=>by rw[LB];calc p6 a
theorem p6:∀a:yas,lQ a a=true
 |[]=>tG
 |d::r=>by rw[i9,eQ d,p6 r];rfl
end
section
variable{X:Cx}{a b c:Expr}{ta tb tc:DE}{pos:Pos}
def FQ(r e:RD2)(ta tb tc:DE):DE:=λd Q=>ta d λx=>tb d λy=>r x y λz=>∃k,z=.bl k/\if k=true then tc d λu=>e y u Q else Q (.bl false)
def IK (d:∃t,X.mg x=some (.int i t)) (e:Gl X x:=by rfl) (f:(x==("__debug__" : Str))=false:=by decide):RU X (.Name x pos) (dC (.int i)):=by let⟨t,d⟩:=d;calc RU.of (rJ (v:=.int i) e d ⟨t,rfl⟩ f) λ_ H _ _ _ _ q=>⟨av.refl H,_,Den.int i,q⟩
variable{e:Expr}{te:DE}{lo hi:Option Expr}{tl th:DO}{p2:Pos}
def Af(n:RU X e te)(m:PDO X lo tl)(hh:PDO X hi th):RU X (.Subscript e (.Slice lo hi none p2) pos) (NX te tl th):=by
 intro i s j H W g Q I r h;calc ud (st:=none) (ts:=da) (R:=λd l u k=>k=none/\∃f,d=.tup f/\¬(HT.SH #[f] 0 l=0/\HT.SH #[f] #[f] u=#[f])/\Q (.tup (PD.cutD f l u))) n m hh cC I r ?_ ?_ (λ_ _=>⟨_,rfl⟩);let m:(λd=>tl g λl=>th g λu=>da g λk=>k=none/\∃f,d=D.tup f/\¬(HT.SH #[f] 0 l=0/\HT.SH #[f] #[f] u=#[f])/\Q (.tup (PD.cutD f l u)))=λd=>tl g λl=>th g λu=>∃f,d=D.tup f/\¬(HT.SH #[f] 0 l=0/\HT.SH #[f] #[f] u=#[f])/\Q (.tup (PD.cutD f l u)):=by
  funext d
  congr 1
  funext l
  congr 1
  funext u
  exact propext ⟨λz=>z.2,λz=>⟨rfl,z⟩⟩
 rw[m];calc h;intro v m o n G l u k d d g r E sm s A y w t h k;let⟨p,f,f,x,q⟩:=k;subst p f;cases h;let⟨p,k,f,z,h⟩:=A.UY;subst f;let⟨T,id,C,B,A⟩:=Pw i r j g (.ref p) m o n l u d (λi d=>av g d/\∃f,Den X.K W.bad d f i/\Q f) E s y w t ⟨p,k,rfl,z.w,by rw[h.len];calc x,λd g=>⟨av.upd g,_,Den.tup (SK.of aQ) ((h.cut l u).same (av.upd g)),q⟩⟩;calc⟨T,id,C,B,Rw A λ_ J k=>(by let⟨g,m,l,h,i,f,j,d⟩:=k;calc⟨g,m,f,l,h,sm.trans i,j,d⟩)⟩
def wD{d:Type}:Nat->(List d->Prop)->Prop
 |0,P=>P []
 |n+1,P=>∀a,wD n λl=>P (a::l)
def qZ{f:Type}{n:Nat}:∀{P:List f->Prop} (d:List f),#[d]=n->wD n P->P d:=by
 induction n with
 |zero=>intro P d e h;cases zBN e;calc h
 |succ n ih =>
  intro P d e h;cases d with
  |nil=>cases e
  |cons a l=>calc ih (P:=λl=>P (a::l)) l (Nat.succ.inj e) (h a)
def uE{K:yac}{ps:yah}(h:∀s:Shared,K.In s.heap->wD #[ps] λd=>BindsTo s fd ⟨d,[]⟩ (ps.zip d)):Binds K fd ps []:=λs d g f=>by rw[Yx]at f ⊢;calc qZ d f (h s g)
def uD{K:yac}{ps:yah}(n:Nat)(g:#[ps]=n+1)(h:∀s:Shared,K.In s.heap->wD n λd=>BindsTo s fd ⟨d,[]⟩ (ps.zip (d++[.none]))):Binds K fd ps [.none]:=λs d i f=>qZ d (by rw[UQ,g]at f;simpa using f) (h s i)
def uY{K:yac}{ps:yah}{f:Str}(n:Nat)(i:#[ps]=n+1)(h:∀(s:Shared) (w:Value),K.In s.heap->wD n λd=>BindsTo s fd ⟨d,[(f,w)]⟩ (ps.zip (d++[w]))):Fq K fd ps [f] kwG kwG:=⟨λs d f j g=>by
 cases f with
 |nil =>
  let f:0=#[ps]:=g
  lia
 |cons w r =>
  cases r with
  |nil =>
   let f:#[d++[w]]=#[ps]:=g;rw[UQ,i]at f;calc qZ d (by simpa using f) (h s w j)
  |cons _ _ =>
   let f:0=#[ps]:=g
   lia,L7⟩
end
section
variable{X:Cx}{pos:Pos}
def PFL(X:Cx)(i:Nat)(es:yai)(t:Ro->(List (yas)->Prop)->Prop):Prop :=
 ∀ (pos:Pos) (b:yab) (s:Shared) (a:St) (H:Hp) (W:Own) (f:Ro) (k:Nat) (Q:List (yas)->Prop),Inv X b a H s->Rel X W H a f->i<#[a]->f[i]?=some none->t f Q →
  wpAny (model X.prog X.w) X.A (spliced (backTo pos (starEach es X.env))) (λh j=>∃g e d c,Inv X b a e j/\Vals g h/\av H e/\Rel X d e a f/\Sm W H d e/\bg X.K d.bad e (d.sub #[a] i) k (c.map LI.own) g/\(∀l,l<k->d.sub #[a] i l=W.sub #[a] i l)/\Q c) X.xe s
variable{e:Expr}{te:DE}{tt:DT}{ta:DA}
end
section
variable{X:Cx}{pins:yab}{σ:St}{H:Hp}
structure Rh(X:Cx)(pins:yab)(H:Hp)(s:Shared)(l f S I:Addr)(fo:Obj)(j:Nat)(vb:Value)(k:Int):Prop where
 fo:s.heap.get? f=some fo
 ff:fF X pins H f
 so:∃tb n,s.heap.get? S=some (seqObj "list" #[vb,.int k tb] n)
 sf:fF X pins H S
 io:s.heap.IsListIter I l j
 jf:fF X pins H I
 fS:f≠S
 fI:f≠I
 SI:S≠I
 lI:l≠I
end
section
variable{X:Cx}{pos:Pos}
def Cv(i:Nat)(te:DE):DS:=λE a=>∃c,a[i]?=some (some (.own c))/\te a λd=>∃b,d=.lst true b/\#[c]+#[b]<=sizeLine/\E.nx (a.set i (some (.own (c++b))))
def F2{x:Str}{a:Pos}(i:Nat)(d:RU X e te)(c:X.N[i]?=some x:=by rfl)(hv:Ym X.env.scope x:=by first|calc Or.inl rfl|calc Or.inr (Or.inl rfl)|calc Or.inr (Or.inr rfl))
  (f:(x==("__debug__" : Str))=false:=by decide) (l:(x==("__classdict__" : Str))=false:=by decide)
  (k:attributeBase (.Name x px) "extend" X.env (eval (.Name x px) X.env)=eval (.Name x px) X.env:=by rfl)
  (g:((backTo R7 (starEach [e] X.env)).all (λx=>!x.1) && (backToKw R7 (keywordEach [] X.env)).all (λx=>x.1.isSome) && decide (#[[e]]+#[([]:List Keyword)]+(if([]:List Keyword).isEmpty then 0 else 1)<30))=true:=by rfl)
  (j:(a.endLine==R7.line)=true:=by rfl) (b:starEach [e] X.env=(false,eval e X.env)::starEach [] X.env:=by rfl) (h:(backTo R7 (starEach [] X.env)).any (·.1)=false:=by rfl)
  (hs:swapsWith (.Call (.Attribute (.Name x px) "extend" a) [e] [] R7) none pos.line X.env=pure false:=by rfl) :
  US X (.Expr (.Call (.Attribute (.Name x px) "extend" a) [e] [] R7) pos) (Cv i te):=by
 let a:=rK (pos:=pos) (KN PySem.F.plainAttrs_list PySem.F.slot_list_extend PySem.F.type_list_extend GK (fU c hv f l) (gI d.pe mT b) k g j b h) hs;refine US.of a λp H W b E r s h=>?_
 let⟨c,k,h⟩:=h;let⟨a,f,l,g,j,o⟩:=r.Xw i c k;calc⟨.ref a,g,.inl ⟨rfl,_,SqL.of j⟩,W,b,_,r,h,λv h d e n q=>?_⟩;let⟨i,rfl,z,q⟩:=q;obtain⟨b,c,rfl,_,m,d⟩:∃b c,v=.ref b/\¬W.bad true b/\UH X.K h true b c/\ah X.K W.bad h i c:=by simpa only[Den]using n
 let h:=e _ _ j;let j:=r.same e;let i:=o.same e;calc⟨a,b,f,c,rfl,rfl,h,(m.2 rfl).1,by rw[i.len,d.len];calc z,?_⟩;let⟨a,b⟩:=j.YE (vs':=f++c) k l g h (i.append d);calc⟨W,_,(Sm.same e).trans b,a,q⟩
inductive KDP (X:Cx) (pins:yab) (σ:St) (W:Own) (H:Hp) (Q:D->Prop) (u:Value) (s':Shared):Prop
 |mk (b:Addr) (vs:yar) (H':Hp) (ds:yas) (_:u=.ref b) (_:Inv X pins σ H' s') (_:av H H') (_:H' b=some (.tup vs)) (_:ah X.K W.bad H' ds vs) (_:Q (.tup ds))
def PEK(X:Cx)(e:Expr)(t:DE):Prop :=
 ∀ (a:yab) (s:Shared) (b:St) (H:Hp) (W:Own) (c:Ro) (Q:D->Prop),Inv X a b H s->Rel X W H b c->t c Q →
  wpAny (model X.prog X.w) X.A (eval e X.env) (KDP X a b W H Q) X.xe s
end
def Qc(ys:yas)(R:yas->Prop):(∃xs,D.lst true ys=.lst true xs/\R xs)=R ys:=by apply propext;constructor;rintro⟨xs,e,q⟩;cases e;calc q;intro q;calc⟨ys,rfl,q⟩
def ip{d:Type}{wi:DA}{g:DG}{h:DS}{E:jK}(xs:List d)(f:d->D)(Pv:Nat->Ro->Prop)(k:∀R:yas->Prop,R (xs.map f)->wi ρ R)(i:Pv 0 ρ)
  (b:∀(j:Nat) (x:d) (a:Ro),xs[j]?=some x->Pv j a->g (f x) a λc=>h {E with nx:=Pv (j+1),ct:=Pv (j+1),bk:=E.nx} c) (e:∀a,Pv #[xs] a->E.nx a):pX wi g h E ρ:=by
 calc k _ ⟨Pv,i,λj d a c d=>?_,λa d=>e a (by rw[RG]at d;calc d)⟩;rw[UR]at c;cases ex:xs[j]? with
 |none=>rw[ex]at c;cases c
 |some x =>
  rw[ex]at c;cases c;calc b j x a ex d
inductive KPs (K:yac) (P:yak) (H:Hp):List (yas×D)->List (Value×Value)->Prop
 |nil:KPs K P H [] []
 |cons {b:Addr} {vs:yar} {ks:yas} {d:D} {x:V} {u:Value} {ds:List (yas×D)} {ws:List (Value×Value)} (hb:H b=some (.tup vs)) (hk:ah K P H ks vs) (hd:Den K P H d x) (r:RelV x u) (t:KPs K P H ds ws):KPs K P H ((ks,d)::ds) ((.ref b,u)::ws)
def PPK(X:Cx)(pos:Pos)(c:List (Option Expr))(a:yai)(t:Ro->(List (yas×D)->Prop)->Prop):Prop :=
 ∀ (b:yab) (s:Shared) (d:St) (H:Hp) (W:Own) (e:Ro) (Q:List (yas×D)->Prop),Inv X b d H s->Rel X W H d e->t e Q →
  wpAny (model X.prog X.w) X.A (evalPairs (pairTrees c a X.env pos)) (λe f=>∃a c,Inv X b d a f/\av H a/\KPs X.K W.bad a c e/\Q c) X.xe s
section
variable{X:Cx}{pos:Pos}
inductive KPi (H:Hp):List (List Key×Int)->List (Value×Value)->Prop
 |nil:KPi H [] []
 |cons {b:Addr} {k:List Key} {n:Int} {u:Value} {ds:List (List Key×Int)} {ws:List (Value×Value)} (hb:H b=some (.tup (k.map kV))) (r:RelV (.int n) u) (t:KPi H ds ws):KPi H ((k,n)::ds) ((.ref b,u)::ws)
def Lm (g:X.calm=true):cN X (.builtin "max") (λb Q=>(∃i j:Int,b=[.int i,.int j]/\Q (.int (max i j)))∨∃ (t:Bool) (ns:yaf),b=[.lst t (ns.map D.int)]/\0<#[ns]/\∀m,m∈ns->(∀n∈ns,n<=m)->Q (.int m)):=by
 intro a s d H W b h k Q I l r c q;rcases q with⟨i,j,e,q⟩| ⟨t,ns,e,f,q⟩;calc NB g a s d H W b h k Q I l r c ⟨i,j,e,q⟩;subst e;let⟨v,rfl,b⟩:=k7 c;let⟨a,o,c,_,e,d⟩:=b.UI;subst c;cases r with
 |cons c b =>
  cases b;cases c;let⟨Ru,b,c,_⟩:=I.list e;rw[dh d]at b;let d:=intsAre_of b;let⟨b,e⟩:=d.allInts.items;let h:s.heap.IsList a (intItems b):=by rw[<- e];exact c.isList
  let c:ns=b.toList.map (·.1):=by rw[<- d.numsOf,<- nums_intItems,<- e]
  let a:0<b.size:=by rw[c,RG,VM]at f;exact f
  refine max_intList (I.ok.hd g) h a λy w u a kp=>?_
  let⟨p,rfl⟩:=intItems_at a;let⟨x,e⟩:=argBest_gt (numAt b) (b.size - 1);let d:∀j,j<b.size->b.toList.map (·.1) ≠ []->numAt b j∈ns:=λj a _=>by
   rw[c,numAt_eq];have:(b.toList.map (·.1))[j]?=some ((b.toList.map (·.1)).getD j 0):=by simp[a]
   exact UX this
  calc⟨.int _,H,_,I.kept kp,⟨_,rfl⟩,av.refl H,Den.int _,q _ (d _ (by omega) (by rw[<- c];calc zDd f)) λn d=>?_⟩;rw[c]at d;let⟨j,a,c⟩:=XT d;have:numAt b j=n:=by rw[numAt_eq,<- c];simp only[Wo,T5 a,Option.getD_some]
  rw[<- this];rw[RG,VM]at a;calc e j (by omega)
end
end PD
namespace PZ
open PySem PySem.Spec PyProof.Rows
abbrev Kk (h:Heap) (T:Addr) (a b c:Value):Prop:=h.get? T=some {cls:=.type "tuple", data:=.seq #[a,b,c]}
structure Ap3(z TI TO i1 i2 i3:Addr):Prop where
 a1:TI≠z
 a2:TO≠z
 a3:i1≠z
 a4:i2≠z
 a5:i3≠z
 b1:TI≠TO
 b2:TI≠i1
 b3:TI≠i2
 b4:TI≠i3
 c1:TO≠i1
 c2:TO≠i2
 c3:TO≠i3
 d1:i1≠i2
 d2:i1≠i3
 d3:i2≠i3
structure Ri(z TO i1 i2 i3 l:Addr):Prop where
 c1:l≠z
 c2:l≠TO
 c3:l≠i1
 c4:l≠i2
 c5:l≠i3
structure Rk(z TI TO i1 i2 i3 l1 l2 l3:Addr)(i:Nat)(h:Heap):Prop where
 z:IsZip h z TI TO .none
 ti:Kk h TI (.ref i1) (.ref i2) (.ref i3)
 to:∃a b c,Kk h TO a b c
 s1:Vs true h i1 l1 i
 s2:Vs true h i2 l2 i
 s3:Vs true h i3 l3 i
end PZ
namespace PD
open PySem PySem.Spec PyProof.Rows L2 PZ
section
variable{X:Cx}
end
end PD
namespace ST
open PySem PySem.SetTable
def S:Nat->Nat
 |0=>0
 |n+1=>5*S n+1
theorem uA:∀n,5 ^ n=4*S n+1
 |0=>rfl
 |n+1=>by rw[zCp,uA n];show _=4*(5*S n+1)+1;lia
theorem DL(m:Nat):∀n,S (n+m)=5 ^ m*S n+S m
 |0=>by simp[S]
 |n+1=>by rw[show n+1+m=(n+m)+1 by lia];show 5*S (n+m)+1=5 ^ m*(5*S n+1)+S m;rw[DL m n,uA m];grind
theorem Kl:∀k,∃o,S (2 ^ k)=2 ^ k*(2*o+1)
 |0=>⟨0,rfl⟩
 |k+1=>by let⟨o,e⟩:=Kl k;calc⟨o+(2*o+1)*(2 ^ k*(2*o+1)),?_⟩;rw[show 2 ^ (k+1)=2 ^ k+2 ^ k by rw[zCp];lia,DL,uA,e];grind
theorem round:∀(k x e:Nat),e<2 ^ k->∃n,n<2 ^ k/\(5 ^ n*x+S n) % 2 ^ k=e
 |0,x,e,h=>⟨0,29,35⟩
 |k+1,x,e,h=>by
  let⟨n,g,q⟩:=round k x (e % 2 ^ k) (Zn _ (Nat.two_pow_pos k));let⟨o,b⟩:=Kl k;let f:=Nat.two_pow_pos k;let a:2 ^ (k+1)=2*2 ^ k:=35
  generalize hv:5 ^ n*x+S n=v at q;let Wm:5 ^ (n+2 ^ k)*x+S (n+2 ^ k)=v+2 ^ k+2 ^ (k+1)*(o+2*(2*o+1)*v):=by rw[DL,Nat.pow_add,uA (2 ^ k),b,a,<- hv];grind
  generalize 2 ^ k=p at *;rw[a]at h ⊢;by_cases z:v % (2*p)=e;calc⟨n,35,by rw[hv];calc z⟩;calc⟨n+p,35,?_⟩;rw[Wm,a,Nat.add_mul_mod_self_left];let i:v % (2*p) % p=v % p:=Nat.mod_mul_left_mod v 2 p;let d:v % (2*p)<2*p:=Zn _ 35;rw[Nat.add_mod,Xp (show p<2*p by lia)];generalize v % (2*p)=u at *;let a:u=u % p∨u=u % p+p:=by
   by_cases c:u<p
   left;rw[Xp c]
   right
   have:u % p=u - p:=by rw[Nat.mod_eq_sub_mod 35,Xp 35]
   lia
  let b:e=e % p∨e=e % p+p:=by
   by_cases c:e<p
   left;rw[Xp c]
   right
   have:e % p=e - p:=by rw[Nat.mod_eq_sub_mod 35,Xp 35]
   lia
  obtain a|a:=a<;>obtain b|b:=b
  lia
  rw[Xp 35];lia;rw[Nat.mod_eq_sub_mod 35,Xp 35];lia
  lia
noncomputable def runs(mask:Nat):Nat->Nat->Nat->yag
 |0,_,_=>[]
 |c+1,i,a=>List.range' i (runEnd mask i+1 - i)++runs mask c (leap mask i a).1 (leap mask i a).2
theorem qu(mask c i pt:Nat):runs mask (c+1) i pt=List.range' i (runEnd mask i+1 - i)++runs mask c (leap mask i pt).1 (leap mask i pt).2:=rfl
def cH(mask:Nat)(h:Int):yag:=runs mask (turns mask) (bits h % (mask+1)) (bits h)
theorem ji{mask i:Nat}(h:i<=mask):i<=runEnd mask i/\runEnd mask i<=mask/\runEnd mask i<=i+9:=by ext runEnd;split<;>lia
def rG(mask i pt:Nat):(leap mask i pt).1<=mask:=by
 have:(leap mask i pt).1<mask+1:=Zn _ 46
 lia
theorem C7{mask:Nat}:∀{c i pt:Nat},i<=mask->∀x∈runs mask c i pt,x<=mask
 |0,_,_,_,x,h=>by cases h
 |c+1,i,pt,a,x,h=>by
  obtain z|z:=S7.mp h;grind [List.mem_range'_1,ji];calc C7 (rG _ _ _) x z
theorem A9{mask:Nat}:∀{c i pt:Nat},i<=mask->#[runs mask c i pt]<=10*c
 |0,_,_,_=>Sx _
 |c+1,i,pt,a=>by let ih:=A9 (c:=c) (pt:=(leap mask i pt).2) (rG mask i pt);have:=ji a;ext runs;grind
def cP(mask:Nat):Nat->Nat×Nat->Nat×Nat
 |0,p=>p
 |n+1,p=>cP mask n (leap mask p.1 p.2)
theorem vD{mask:Nat}:∀{n c i pt:Nat},∀x∈runs mask c (cP mask n (i,pt)).1 (cP mask n (i,pt)).2,x∈runs mask (n+c) i pt
 |0,c,i,pt,x,h=>by rw[Yl];calc h
 |n+1,c,i,pt,x,h=>by have:=vD (n:=n) (c:=c) (i:=(leap mask i pt).1) (pt:=(leap mask i pt).2) x h;rw[show n+1+c=(n+c)+1 by lia];calc VA _ this
def Hq{mask c i:Nat}(h:i<=mask):i∈runs mask (c+1) i pt:=by calc Xe _ ?_;grind [List.mem_range'_1,ji]
theorem AG(mask:Nat):∀(n:Nat) (p:Nat×Nat),(cP mask n p).2=p.2 / 32 ^ n
 |0,p=>by simp[cP]
 |n+1,p=>by show(cP mask n (leap mask p.1 p.2)).2=_;rw[AG mask n];show p.2 / 32 / 32 ^ n=_;rw[Nat.div_div_eq_div_mul,zCp,Nat.mul_comm]
theorem u7{mask k:Nat}(a:mask+1=2 ^ k):∀(n i:Nat),i<=mask->(cP mask n (i,0)).1=(5 ^ n*i+S n) % 2 ^ k
 |0,i,h=>by rw[Nat.pow_zero,Nat.one_mul];show i=(i+0) % 2 ^ k;rw[Nat.add_zero,Xp 35]
 |n+1,i,h=>by
  let e:leap mask i 0=((i*5+1) % (mask+1),0):=by ext leap;simp
  show(cP mask n (leap mask i 0)).1=_;rw[e,u7 a n _ (by have:=Zn (i*5+1) (show 0<mask+1 by lia);lia),a];let a:(5 ^ n*((i*5+1) % 2 ^ k)+S n) % 2 ^ k=(5 ^ n*(i*5+1)+S n) % 2 ^ k:=by rw[Nat.add_mod,Nat.mul_mod,Nat.mod_mod,<- Nat.mul_mod,<- Nat.add_mod]
  rw[a,zCp];congr 1;show _=5 ^ n*5*i+(5*S n+1);have:=uA n;grind
theorem yq(mask:Nat):∀(m n:Nat) (p:Nat×Nat),cP mask (m+n) p=cP mask n (cP mask m p)
 |0,n,p=>by rw[Yl];rfl
 |m+1,n,p=>by rw[show m+1+n=(m+n)+1 by lia];calc yq mask m n _
theorem AF(mask:Nat):∀(n:Nat) (p:Nat×Nat),p.1<=mask->(cP mask n p).1<=mask
 |0,_,h=>h
 |n+1,p,_=>AF mask n _ (rG _ _ _)
theorem cover{mask k:Nat}(c:mask+1=2 ^ k)(h:Int){e:Nat}(f:e<=mask):e∈cH mask h:=by
 let g:bits h<2 ^ 64:=by
  ext bits
  lia
 let a:bits h % (mask+1)<=mask:=by have:=Zn (bits h) (show 0<mask+1 by lia);lia
 generalize hp:(bits h % (mask+1),bits h)=p;let b:p.1<=mask:=by rw[<- hp];exact a
 let z:(cP mask 13 p).2=0:=by
  rw[AG,<- hp]
  lia
 let a:=AF mask 13 p b;let⟨n,d,b⟩:=round k (cP mask 13 p).1 e 35;let j:(cP mask (13+n) p).1=e:=by rw[yq];have:cP mask 13 p=((cP mask 13 p).1,0):=Prod.ext rfl z;rw[this,u7 c n _ a];exact b
 have:=vD (mask:=mask) (n:=13+n) (c:=(mask - n)+2) (i:=bits h % (mask+1)) (pt:=bits h) e (by simp_all [Hq])
 ext cH turns;grind
def jr(xs:yap):Prop:=∀a b:Nat,a<b->b<xs.size->xs.getD a 0<xs.getD b 0
theorem tj{j:Nat}(c:jr xs):∀(fuel lo b:Nat),lo<=b->b<=xs.size->b - lo<=fuel->(∀a,a<lo->xs.getD a 0<j)->(∀a,b<=a->a<xs.size->j<=xs.getD a 0) →
  (below.go xs j fuel lo b<=xs.size)/\(∀a,a<below.go xs j fuel lo b->xs.getD a 0<j)/\∀a,below.go xs j fuel lo b<=a->a<xs.size->j<=xs.getD a 0
 |0,lo,b,h,g,e,f,d=>by
  have:lo=b:=by omega
  subst this;calc⟨g,f,d⟩
 |fuel+1,lo,b,h,g,e,f,d=>by
  ext below.go;by_cases h:lo<b;rw[Rr h];let k:(lo+b) / 2<b/\lo<=(lo+b) / 2:=by omega
  let e:xs.getD ((lo+b) / 2) j=xs.getD ((lo+b) / 2) 0:=by
   have:(lo+b) / 2<xs.size:=by omega
   simp[Array.getD,this]
  simp only[e];split;rename_i z;calc tj c fuel _ b (by omega) g (by omega) (λa i=>?_) d;by_cases e:a=(lo+b) / 2;rw[e];calc z;calc Nat.lt_trans (c a ((lo+b) / 2) (by omega) (by omega)) z;rename_i z;refine tj c fuel lo _ (by omega) (by omega) (by omega) f λa i i=>?_
  by_cases e:a=(lo+b) / 2;rw[e];omega;have:=c ((lo+b) / 2) a (by omega) i;omega;rw[if_neg h];have:lo=b:=by omega
  subst this;calc⟨g,f,d⟩
def jL(b:jr xs)(j:Nat):below xs j<=xs.size/\(∀a,a<below xs j->xs.getD a 0<j)/\∀a,below xs j<=a->a<xs.size->j<=xs.getD a 0 :=
 tj b xs.size 0 xs.size 35 35 35 35 35
def dR{xs:yap}{a x:Nat}(h:xs[a]?=some x):xs.getD a 0=x/\a<xs.size:=by
 let⟨l,e⟩:=zDX.mp h
 cbv
def uT{xs:yap}{a:Nat}(h:a<xs.size):xs[a]?=some (xs.getD a 0):=46
def below_at(b:jr xs){a j:Nat}(h:xs[a]?=some j):below xs j=a:=by
 let⟨e,l⟩:=dR h;let⟨i,d,c⟩:=jL b j;let g:¬a<below xs j:=λz=>by have:=d a z;omega
 let f:¬below xs j<a:=λz=>by have:=c (below xs j) (Sx _) (by omega);have:=b _ a z l;omega
 omega
def yA{t:SetTable}(b:jr t.place){a j:Nat}(h:t.place[a]?=some j):t.slot j=.live a:=by ext SetTable.slot;rw[below_at b h];simp[h]
def EV{t:SetTable}(a:jr t.place)(b:t.dummies=#[]){j:Nat}(h:j∉t.place.toList):t.slot j=.empty:=by
 let n:¬((t.place[below t.place j]?==some j)=true):=72
 ext SetTable.slot;have:has #[] j=false:=by ext has;simp
 cbv
def ahead(mask:Nat)(c:Nat)(p:Probe):yag:=List.range' p.j (p.more+1)++runs mask c (leap mask p.i p.perturb).1 (leap mask p.i p.perturb).2
def BC(t:SetTable)(h:Int):∃c,cH t.mask h=ahead t.mask c (t.probeStart h):=by
 calc⟨t.mask+14,?_⟩;ext cH ahead turns probeStart;rw[qu];let a:bits h % (t.mask+1)<=t.mask:=by have:=Zn (bits h) (show 0<t.mask+1 by lia);lia
 have:=ji a;rw[show runEnd t.mask (bits h % (t.mask+1))+1 - bits h % (t.mask+1)=runEnd t.mask (bits h % (t.mask+1)) - bits h % (t.mask+1)+1 by lia]
def DQ(t:SetTable){x:Nat}{r:yag}(e:ahead t.mask c p=x::r):p.j=x/\(r=[]∨∃ a,r=ahead t.mask a (t.advance p)):=by
 unfold ahead at e;rw[List.range'_succ,YW]at e;let⟨b,a⟩:=List.cons.inj e;calc⟨b,?_⟩;ext SetTable.advance;by_cases b:p.more > 0
 right
 calc⟨c,?_⟩;rw[Rr b,<- a];ext ahead;simp only;rw[show p.more - 1+1=p.more by lia];let d:p.more=0:=35
 rw[d]at a;simp only[List.range'_zero,Zi]at a;cases c with
 |zero=>left;rw[<- a];rfl
 |succ c =>
  right
  calc⟨c,?_⟩;rw[if_neg b,<- a];let a:=rG t.mask p.i p.perturb;have:=ji a;ext ahead;rw[qu];simp only;rw[show runEnd t.mask (leap t.mask p.i p.perturb).1+1 - (leap t.mask p.i p.perturb).1=runEnd t.mask (leap t.mask p.i p.perturb).1 - (leap t.mask p.i p.perturb).1+1 by lia]
theorem AY{t:SetTable}(s:jr t.place)(E:t.dummies=#[])(hashAt:Nat->Int)(h:Int):∀(l:yag) (g c:Nat) (p:Probe),ahead t.mask c p=l->#[l]<=g->(∃x∈l,x∉t.place.toList)->p.dummy=none →
  (∃f j d,l=f++j::d/\(∀x∈f,∃a,t.place[a]?=some x/\hashAt a≠h)/\j∉t.place.toList/\probe.go t hashAt h g p=some (.empty j none)) ∨
  ∃ f j d a q k,l=f++j::d/\(∀x∈f,∃a,t.place[a]?=some x/\hashAt a≠h)/\t.place[a]?=some j/\hashAt a=h/\d=ahead t.mask k q/\q.dummy=none/\probe.go t hashAt h g p=some (.candidate j a q)
 |[],_,_,_,_,_,I,_=>46
 |x::r,0,_,_,_,C,_,_=>by simp at C
 |x::r,g+1,c,p,e,C,I,m=>by
  let⟨L,Y⟩:=DQ t e;subst L;ext probe.go;by_cases i:p.j∈t.place.toList
  ·let⟨a,J,ea⟩:=XT i;let u:t.place[a]?=some p.j:=by
    grind
   rw[yA s u];let U:∃x∈r,x∉t.place.toList:=72
   let w:∃k,r=ahead t.mask k (t.advance p):=72
   let n:(t.advance p).dummy=none:=by ext SetTable.advance;split<;>exact m
   let⟨k,G⟩:=w;simp only;by_cases hh:hashAt a=h
   right
   rw[Rr 35];exact⟨[],p.j,r,a,t.advance p,k,rfl,52,u,hh,G,n,rfl⟩
   ·rw[if_neg 35];let good:∃a,t.place[a]?=some p.j/\hashAt a≠h:=⟨a,u,hh⟩;rcases AY s E hashAt h r g k (t.advance p) G.symm 46 U n with⟨f,j,d,H,Q,B,A⟩| ⟨f,j,d,b,q,T,H,Q,B,A,O,N,M⟩
    ·left
     calc⟨p.j::f,j,d,72,λy o=>?_,B,A⟩;obtain z|z:=S8.mp o
     all_goals cbv
    ·right
     calc⟨p.j::f,j,d,b,q,T,by rw[H];rfl,λy o=>?_,B,A,O,N,M⟩;obtain z|z:=S8.mp o
     all_goals cbv
  left
  rw[EV s E i];calc⟨[],p.j,r,rfl,52,i,by simp[m]⟩
structure Tab(t:SetTable)(hs:yaf):Prop where
 k:∃k,t.mask+1=2 ^ (k+1)
 rise:jr t.place
 le:∀x∈t.place.toList,x<=t.mask
 dum:t.dummies=#[]
 len:t.place.size=#[hs]
 room:t.place.size<=t.mask
 reach:∀(a x:Nat) (h:Int),t.place[a]?=some x->hs[a]?=some h->∃pre post,cH t.mask h=pre++x::post/\∀y∈pre,y∈t.place.toList
theorem Tab.fits(T:Tab t hs):t.fits #[hs]=true:=by
 ext SetTable.fits SetTable.fill;rw[T.dum];simp[T.len];have:=T.len;have:=T.room
 lia
def Tab.stays(T:Tab t hs):t.gaveWay=false:=by
 let⟨k,e⟩:=T.k;ext SetTable.gaveWay
 lia
def JX(d:jr xs){a b x y:Nat}(f:xs[a]?=some x)(e:xs[b]?=some y)(h:x<y):a<b:=by
 let⟨j,c⟩:=dR f;let⟨i,g⟩:=dR e;obtain z|z|z:=zCL a b;exact z
 lia
 have:=d b a z c
 lia
def CO{xs:yap}{x:Nat}(h:x∈xs.toList):∃a:Nat,xs[a]?=some x:=by let⟨a,b,c⟩:=XT h;calc⟨a,by rw[<- Uz,T5 b,c]⟩
def get_mem{xs:yap}{a x:Nat}(h:xs[a]?=some x):x∈xs.toList:=72
def LO(g:jr xs){mask:Nat}(hs:xs.size<=mask):∃e,e<=mask/\e∉xs.toList:=by
 refine zBQ λa=>?_
 let d:∀e,e<=mask->e∈xs.toList:=λe b=>zBQ λn=>a ⟨e,b,n⟩
 let f:∀j,j<=mask->∃a,xs[a]?=some j/\j<=a:=by
  intro j
  induction j with
  |zero=>intro h;let⟨a,c⟩:=CO (d 0 h);calc⟨a,c,Uw _⟩
  |succ j ih =>
   intro h;let⟨a,c,i⟩:=ih 35;let⟨b,e⟩:=CO (d (j+1) h);have:=JX g c e 35;exact⟨b,e,35⟩
 let⟨a,c,k⟩:=f mask (Sx _);have:=(dR c).2
 lia
def Tab.empty(T:Tab t hs)(h:Int):∃x∈cH t.mask h,x∉t.place.toList:=by let⟨e,b,a⟩:=LO T.rise T.room;grind [k,cover]
def we(mask:Nat)(h:Int):#[cH mask h]<=10*turns mask:=A9 (by have:=Zn (bits h) (show 0<mask+1 by lia);lia)
def qW(mask:Nat)(h:Int):∀x∈cH mask h,x<=mask:=C7 (by have:=Zn (bits h) (show 0<mask+1 by lia);lia)
def nU{a:Type}(xs:Array a)(p:Nat)(x:a):(insertAt xs p x).toList=xs.toList.take p++x::xs.toList.drop p:=by
 ext insertAt
 simp_all [XG,Xg,VM]
def get_ins{b:Type}{l:List b}{p:Nat}(c:p<=#[l])(x:b)(a:Nat):(l.take p++x::l.drop p)[a]?=if a<p then l[a]? else if a=p then some x else l[a - 1]?:=by by_cases h:a<p;rw[Rr h,WR (by rw[Wq];lia),zDC,Rr h];rw[if_neg h,WH (by rw[Wq];lia),Wq,Yi c];by_cases e:a=p;rw[Rr e,e,zDS];rfl;rw[if_neg e,show a - p=(a - p - 1)+1 by lia,List.getElem?_cons_succ,zCn,show p+(a - p - 1)=a - 1 by lia]
theorem Tab.put(T:Tab t hs){j:Nat}{i f:yag}(n:j∉t.place.toList)(hv:cH t.mask h=i++j::f)(w:∀y∈i,y∈t.place.toList)(b:t.place.size+1<=t.mask) :
  Tab (t.put j).1 (hs.take (t.put j).2++h::hs.drop (t.put j).2)/\(t.put j).2<=#[hs]/\(t.put j).1.mask=t.mask/\(t.put j).1.place.size=t.place.size+1:=by
 let c:(t.put j).1.place=insertAt t.place (below t.place j) j:=rfl;let r:(t.put j).2=below t.place j:=rfl;let e:(t.put j).1.mask=t.mask:=rfl;let d:(t.put j).1.dummies=#[]:=by
  show(if has t.dummies j then _ else t.dummies)=_;rw[T.dum];have:has #[] j=false:=by ext has;simp
  rfl
 let⟨a,p,B⟩:=jL T.rise j;let g:below t.place j<=#[t.place.toList]:=by exact a
 let s:below t.place j<=#[hs]:=by rw[<- T.len];exact a
 let o:∀a,(t.put j).1.place[a]?=if a<below t.place j then t.place[a]? else if a=below t.place j then some j else t.place[a - 1]?:=λa=>by rw[c,<- Uz,nU,get_ins g,Uz,Uz]
 let k:(t.put j).1.place.size=t.place.size+1:=by
  rw[c,<- VM,nU,UQ,Wq,Xo,Xg,VM]
  lia
 let m:∀x,x∈(t.put j).1.place.toList↔x=j∨x∈t.place.toList:=λx=>by
  rw[c,nU,S7,S8];constructor;rintro(z|z|z);calc .inr (zB3 z);calc .inl z;calc .inr (zB2 z);rintro(z|z);calc .inr (.inl z);rw[<- XH (below t.place j) t.place.toList]at z;obtain q|q:=S7.mp z;calc .inl q;exact .inr (.inr q)
 calc⟨⟨T.k,?_,?_,d,?_,by rw[k];calc b,?_⟩,s,e,k⟩;intro a b l c;rw[k]at c;let g:=uT (xs:=(t.put j).1.place) (a:=a) 35;let d:=uT (xs:=(t.put j).1.place) (a:=b) (by rw[k];calc c);rw[o a]at g;rw[o b]at d;let u:∀c,c<t.place.size->t.place.getD c 0≠j:=λc c e=>n (by rw[<- e];calc get_mem (uT c))
 by_cases e:a<below t.place j;rw[Rr e]at g;let⟨A,q⟩:=dR g;have:=p a e;by_cases n:b<below t.place j;rw[Rr n]at d;let⟨p,c⟩:=dR d;have:=T.rise a b l c
 lia
 rw[if_neg n]at d;by_cases l:b=below t.place j;rw[Rr l]at d;have:=Yj d
 lia
 rw[if_neg l]at d;let⟨p,c⟩:=dR d;have:=T.rise a (b - 1) 35 c
 lia
 rw[if_neg e]at g;let n:¬b<below t.place j:=35
 let l:¬b=below t.place j:=35
 rw[if_neg n,if_neg l]at d;let⟨p,c⟩:=dR d;by_cases d:a=below t.place j;rw[Rr d]at g;have:=Yj g;have:=B (b - 1) 35 c;have:=u (b - 1) c
 lia
 rw[if_neg d]at g;let⟨A,q⟩:=dR g;have:=T.rise (a - 1) (b - 1) 35 c
 lia
 intro x b;rcases(m x).mp b with z|z;subst z;calc qW t.mask h x (by rw[hv];simp);calc T.le x z;rw[k,r,UQ,Wq,Xo,Xg,<- T.len]
 lia
 intro a x n b hh;rw[o a]at b;rw[r,get_ins s]at hh;let c:∀{l:yag},(∀y∈l,y∈t.place.toList)->∀y∈l,y∈(t.put j).1.place.toList:=λh y g=>(m y).mpr (.inr (h y g))
 by_cases e:a<below t.place j;rw[Rr e]at b hh;let⟨l,k,h,g⟩:=T.reach a x n b hh;calc⟨l,k,h,c g⟩;rw[if_neg e]at b hh;by_cases d:a=below t.place j;rw[Rr d]at b hh;cases b;cases hh;calc⟨i,f,hv,c w⟩;rw[if_neg d]at b hh;let⟨l,k,h,g⟩:=T.reach (a - 1) x n b hh;calc⟨l,k,h,c g⟩
theorem yh(mask:Nat)(owner:Array (Option Nat)):∀(fuel i pt:Nat),layClean.free mask owner fuel i pt=(runs mask fuel i pt).find? λy=>(owner.getD y (some 0)).isNone
 |0,_,_=>rfl
 |fuel+1,i,pt=>by
  rw[qu,List.find?_append,List.range'_eq_map_range,List.find?_map];ext layClean.free;let ih:=yh mask owner fuel (leap mask i pt).1 (leap mask i pt).2;let a:((λy=>(owner.getD y (some 0)).isNone)∘λx=>i+x)=λk=>(owner.getD (i+k) (some 0)).isNone:=rfl
  grind
structure Ow(mask:Nat)(hs:yaf)(owner:Array (Option Nat)):Prop where
 size:owner.size=mask+1
 cnt:#[owner.toList.filter Option.isSome]=#[hs]
 at_:∀(i:Nat) (h:Int),hs[i]?=some h->∃j:Nat,owner[j]?=some (some i)/\∃pre post,cH mask h=pre++j::post/\∀y∈pre,∃q,owner[y]?=some (some q)
 lt:∀j i:Nat,owner[j]?=some (some i)->i<#[hs]
 inj:∀j j' i:Nat,owner[j]?=some (some i)->owner[j']?=some (some i)->j=j'
theorem uR{a:Type}{p:a->Bool}:∀{l:List a} {x:a},l.find? p=some x->∃c b,l=c++x::b/\p x=true/\∀y∈c,p y=false
 |[],_,h=>by cases h
 |a::r,x,h=>by
  rw[List.find?_cons]at h;cases pa:p a with
  |true=>rw[pa]at h;cases h;calc⟨[],r,rfl,pa,52⟩
  |false =>
   rw[pa]at h;let⟨c,b,e,d,f⟩:=uR h;calc⟨a::c,b,46,d,λy g=>?_⟩;grind
theorem uQ{c:Type}{p:c->Bool}:∀{l:List c} {j:Nat} {a b:c},l[j]?=some a->p a=false->p b=true->#[(l.set j b).filter p]=#[l.filter p]+1
 |[],_,_,_,h,_,_=>by simp at h
 |x::r,0,a,b,h,d,c=>72
 |x::r,j+1,a,b,h,d,c=>by
  let ih:=uQ (l:=r) (j:=j) 46 d c;by_cases c:p x=true
  all_goals cbv
def Ow.step{mask k:Nat}(g:mask+1=2 ^ k){hs:yaf}{owner:Array (Option Nat)}(O:Ow mask hs owner)(w:#[hs]<=mask)(h:Int) :
  ∃ j,layClean.free mask owner (turns mask) (bits h % (mask+1)) (bits h)=some j/\Ow mask (hs++[h]) (owner.setIfInBounds j (some #[hs])):=by
 let i:∃e:Nat,e<=mask/\owner[e]?=some none:=by
  refine zBQ λd=>?_
  let b:∀x∈owner.toList,Option.isSome x=true:=λx f=>by
   let⟨e,c,a⟩:=XT f;rw[VM,O.size]at c;cases x with
   |some _=>rfl
   |none=>exact absurd ⟨e,35,by rw[<- Uz,T5 (by rw[VM,O.size];calc c),a]⟩ d
  have:=O.cnt;rw[Xn.mpr b,VM,O.size]at this
  lia
 let f:∀y,y<=mask->((owner.getD y (some 0)).isNone=true↔owner[y]?=some none):=λy b=>by
  let l:y<owner.size:=by rw[O.size];lia
  simp[Array.getD,l]
 let⟨e,c,a⟩:=i;let d:((cH mask h).find? λy=>(owner.getD y (some 0)).isNone).isSome=true:=by rw[List.find?_isSome];exact⟨e,cover g h c,(f e c).mpr a⟩
 let⟨j,a⟩:=Option.isSome_iff_exists.mp d;let⟨k,e,l,c,o⟩:=uR a;let d:j<=mask:=qW mask h j (by rw[l];simp);let i:=(f j d).mp c;let d:j<owner.size:=by rw[O.size];lia
 calc⟨j,by rw[yh];calc a,?_⟩;let g:∀y:Nat,(owner.setIfInBounds j (some #[hs]))[y]?=if j=y then some (some #[hs])else owner[y]?:=λy=>by rw[Array.getElem?_setIfInBounds];by_cases c:j=y;rw[Rr c,Rr c,Rr d];rw[if_neg c,if_neg c]
 let d:∀(y q:Nat),owner[y]?=some (some q)->(owner.setIfInBounds j (some #[hs]))[y]?=some (some q):=λy q b=>by rw[g,if_neg (λc=>by subst c;rw[i]at b;cases b)];exact b
 calc⟨by rw[Array.size_setIfInBounds];calc O.size,?_,?_,?_,?_⟩;rw[Array.toList_setIfInBounds,uQ (a:=none) (by rw[Uz];calc i) rfl rfl,O.cnt,UQ];rfl;intro i u a;by_cases c:i<#[hs];rw[WR c]at a;let⟨t,s,r,p,n,m⟩:=O.at_ i u a;calc⟨t,d _ _ s,r,p,n,λy b=>let ⟨q,z⟩:=m y b;⟨q,d _ _ z⟩⟩;let m:i=#[hs]:=by
  have:=(VE.mp a).1;simp at this
  lia
 subst m;simp at a;subst a;calc⟨j,by rw[g,Rr rfl],k,e,l,λy b=>?_⟩;let k:y<=mask:=qW mask h y (by rw[l];simp[b]);let e:=o y b;let a:y<owner.size:=by rw[O.size];lia
 cases oy:owner[y]with
 |none =>
  have:=(f y k).mpr (by rw[zBP a,oy]);rw[this]at e;cases e
 |some q=>exact⟨q,d y q (by rw[zBP a,oy])⟩
 intro y i b;rw[g]at b;by_cases c:j=y;rw[Rr c]at b;cases b;simp;rw[if_neg c]at b;have:=O.lt y i b;simp
 lia
 intro y d i b a;rw[g]at b a;by_cases c:j=y<;>by_cases e:j=d
 lia
 rw[Rr c]at b;rw[if_neg e]at a;cases b;have:=O.lt d _ a
 lia
 rw[if_neg c]at b;rw[Rr e]at a;cases a;have:=O.lt y _ b
 lia
 rw[if_neg c]at b;rw[if_neg e]at a;calc O.inj y d i b a
theorem AE{mask k:Nat}(b:mask+1=2 ^ k):∀(rest hs:yaf) (owner:Array (Option Nat)),Ow mask hs owner->#[hs]+#[rest]<=mask+1 →
  ∃ c,rest.foldl (λ(a:Option (Array (Option Nat)×Nat)) h=>do
   let (owner,k)←a
   let j←layClean.free mask owner (turns mask) (bits h % (mask+1)) (bits h)
   pure (owner.setIfInBounds j (some k),k+1)) (some (owner,#[hs]))=some (c,#[hs++rest])/\Ow mask (hs++rest) c
 |[],hs,owner,O,_=>⟨owner,52,by rw[Yx];calc O⟩
 |h::r,hs,owner,O,a=>by
  rw[Xo]at a;let⟨j,c,e⟩:=O.step b 35 h;let⟨a,d,Q⟩:=AE b r (hs++[h]) _ e (by rw[UQ];simp;lia);calc⟨a,?_,by rw[WI]at Q;calc Q⟩;rw[List.foldl_cons];have:(do
   let (owner,k)←(some (owner,#[hs]):Option (Array (Option Nat)×Nat))
   let j←layClean.free mask owner (turns mask) (bits h % (mask+1)) (bits h)
   pure (owner.setIfInBounds j (some k),k+1))=some (owner.setIfInBounds j (some #[hs]),#[hs++[h]]):=by
   show(layClean.free mask owner (turns mask) (bits h % (mask+1)) (bits h) >>= _)=_;rw[c];simp
  rw[this,d];simp
def BN{mask k:Nat}(b:mask+1=2 ^ k)(a:Array Int)(d:a.size<=mask+1):∃owner,layClean mask a=some owner/\Ow mask a.toList owner:=by
 let O:Ow mask [] (Array.replicate (mask+1) none):=by
  refine⟨52,52,52,λj i h=>?_,λj c i h _=>?_⟩
  all_goals simp_all [Array.getElem?_replicate]
 let⟨o,e,Q⟩:=AE b a.toList [] _ O 46;ext layClean;grind
def live(mask:Nat)(owner:Array (Option Nat)):List (Nat×Nat):=(List.range (mask+1)).filterMap λj=>(owner.getD j none).map (j,·)
def iz{mask:Nat}{hs:yaf}{owner:Array (Option Nat)}(O:Ow mask hs owner){j i:Nat}:(j,i)∈live mask owner↔owner[j]?=some (some i):=by
 ext live;rw[zDD];constructor;rintro⟨y,a,e⟩;rw[List.mem_range]at a;let⟨q,c,b⟩:=Zg.mp e;cases b;let l:j<owner.size:=by rw[O.size];exact a
 cbv
 intro h;let⟨l,e⟩:=zDX.mp h;refine⟨j,by rw[List.mem_range,<- O.size];calc l,?_⟩
 cbv
def tK(mask:Nat)(owner:Array (Option Nat)):(live mask owner).map (·.1)=(List.range (mask+1)).filter λj=>(owner.getD j none).isSome:=by
 ext live
 induction List.range (mask+1)with
 |nil=>rfl
 |cons a r ih =>
  cases e:owner.getD a none with
  |none=>rw[List.filterMap_cons_none (by rw[e];rfl),List.filter_cons_of_neg (by simp[e]),ih]
  |some q=>rw[zC5 (by rw[e];rfl),List.filter_cons_of_pos (by simp[e]),Vq,ih]
def Jo{mask:Nat}{hs:yaf}{owner:Array (Option Nat)}(O:Ow mask hs owner):#[live mask owner]=#[hs]:=by
 let b:#[live mask owner]=#[(live mask owner).map (·.1)]:=52
 let a:owner.toList=(List.range (mask+1)).map λj=>owner.getD j none:=by
  apply List.ext_getElem?;intro j;rw[UR,Uz];by_cases c:j<mask+1;let l:j<owner.size:=by rw[O.size];exact c
  cbv
  rw[zCB 46,Array.getElem?_eq_none (by rw[O.size];lia)];rfl
 rw[b,tK,<- O.cnt,a,List.filter_map,RG];rfl
def yt(mask:Nat)(owner:Array (Option Nat)):((live mask owner).map (·.1)).Pairwise (·<·):=by rw[tK];calc List.Pairwise.filter _ List.pairwise_lt_range
def MP{l:yag}(h:l.Pairwise (·<·)):jr l.toArray:=by
 intro a b d e;let c:b<#[l]:=46
 have:=Zd.mp h a b 35 c d;simp[Array.getD,show a<#[l] by lia,c];calc this
def L8{mask k:Nat}(N:mask+1=2 ^ (k+1))(finger moves:Nat)(led plain:Bool){V:Type}(es:Array (Int×V))(C:es.size<=mask) :
  ∃ t c,laid mask finger moves led plain (es.map (·.1))=some (t,c)/\t.mask=mask/\t.led=led/\t.plain=plain ∧
   ∃ d:List (Int×V),(c.filterMap (es[·]?)).toList=d/\#[d]=es.size/\Tab t (d.map (·.1))/\t.place.size=es.size ∧
    (∀(a:Nat) (e:Int×V),d[a]?=some e->∃i:Nat,c[a]?=some i/\es[i]?=some e)/\(∀i:Nat,i<es.size->∃a:Nat,c[a]?=some i)/\∀(a b i:Nat),c[a]?=some i->c[b]?=some i->a=b:=by
 let⟨c,eo,O⟩:=BN N (es.map (·.1)) (by rw[Array.size_map];lia);let f:(es.map (·.1)).toList.length=es.size:=52
 calc⟨{mask,place:=((live mask c).map (·.1)).toArray,dummies:=#[],finger,led,moves,plain},((live mask c).map (·.2)).toArray,by ext laid;rw[eo];rfl,rfl,rfl,rfl,?_⟩;let B:=Jo O;rw[f]at B;let A:∀p∈live mask c,p.2<es.size:=λp hp=>by have:=O.lt p.1 p.2 ((iz O).mp hp);rw[f]at this;exact this
 let m:∀l:List (Nat×Nat),(∀p∈l,p.2<es.size)->(((l.map (·.2)).filterMap λi=>es[i]?).map some)=l.map λp=>es[p.2]?:=λl C=>by
  induction l with
  |nil=>rfl
  |cons p r ih =>
   let o:=C p 52;rw[Vq,zC5 (zBP o),Vq,Vq,ih λq d=>C q (by simp[d]),zBP o]
 let Q:∀a:Nat,((((live mask c).map (·.2)).filterMap λi=>es[i]?)[a]?).map some=((live mask c)[a]?).map λp=>es[p.2]?:=λa=>by have:=congrArg (λl=>l[a]?) (m _ A);simp only[UR]at this;exact this
 calc⟨((live mask c).map (·.2)).filterMap λi=>es[i]?,52,?_,?_,?_,?_,?_,?_⟩;have:=congrArg List.length (m _ A);rw[RG,RG]at this;rw[this,B];calc⟨⟨k,N⟩,MP (yt mask c),?_,rfl,?_,?_,?_⟩;intro x J;let E:x∈(live mask c).map (·.1):=by simpa using J
 rw[tK,Yh,List.mem_range]at E;show x<=mask
 lia
 have:=congrArg List.length (m _ A);rw[RG,RG]at this;rw[WJ,RG,RG,this];rw[WJ,RG,B];calc C;intro a x h J hh;let E:((live mask c).map (·.1))[a]?=some x:=by simpa using J
 rw[UR]at E;let⟨p,d,M⟩:=Zg.mp E;let g:=Q a;rw[d]at g;let o:=A p (UX d);rw[UR]at hh;let⟨e,ee,eh⟩:=Zg.mp hh;rw[ee,Option.map_some,Option.map_some,zBP o]at g;let L:=Yj (Yj g);let⟨j',o',G,n,ev,q⟩:=O.at_ p.2 h (by rw[<- eh,L,<- Uz]at *;rw[Uz,Array.getElem?_map,zBP o];rfl)
 let H:=(iz O).mp (show(p.1,p.2)∈live mask c from UX d);have:=O.inj j' p.1 p.2 o' H;subst this;subst M;calc⟨G,n,ev,λy hy=>?_⟩;let⟨z,hz⟩:=q y hy;simp only[SG];calc⟨(y,z),(iz O).mpr hz,rfl⟩;rw[WJ,RG,B];intro a e he;let g:=Q a;rw[he]at g;cases d:(live mask c)[a]? with
 |none=>rw[d]at g;cases g
 |some p =>
  rw[d]at g;exact⟨p.2,by simp[d],(Yj g).symm⟩
 intro i hi;obtain⟨h,hh⟩:∃h,(es.map (·.1)).toList[i]?=some h:=⟨_,T5 (by rw[f];calc hi)⟩;let⟨j,H,_⟩:=O.at_ i h hh;let⟨a,I,ea⟩:=XT ((iz O).mpr H);calc⟨a,by simp[T5 I,ea]⟩;intro a b i ha hb;let U:((live mask c).map (·.2))[a]?=some i:=by simpa using ha
 let w:((live mask c).map (·.2))[b]?=some i:=by simpa using hb
 rw[UR]at U w;let⟨p,d,M⟩:=Zg.mp U;let⟨q,T,e2⟩:=Zg.mp w;let o1:=(iz O).mp (show(p.1,p.2)∈live mask c from UX d);let Y:=(iz O).mp (show(q.1,q.2)∈live mask c from UX T);let ej:=O.inj p.1 q.1 i (by rw[<- M];calc o1) (by rw[<- e2];calc Y);let r:=yt mask c;let I:=(VE.mp d);let lb:=(VE.mp T);let⟨u,t⟩:=I;let⟨s,j⟩:=lb;obtain z|z|z:=zCL a b;have:=Zd.mp r a b (by rw[RG];calc u) (by rw[RG];calc s) z;rw[Yg,Yg,t,j]at this
 lia
 calc z;have:=Zd.mp r b a (by rw[RG];calc s) (by rw[RG];calc u) z;rw[Yg,Yg,t,j]at this
 lia
theorem zA:∀(fuel a n:Nat),n<a*2 ^ fuel->∃m,sizeAbove.go n fuel a=a*2 ^ m/\n<a*2 ^ m
 |0,a,n,h=>⟨0,by simp[sizeAbove.go],h⟩
 |fuel+1,a,n,h=>by
  ext sizeAbove.go;by_cases c:a<=n
  ·let⟨m,d,b⟩:=zA fuel (a*2) n (by simp_all [zCp,Nat.mul_assoc,Nat.mul_comm]);refine⟨m+1,?_,?_⟩
   all_goals simp_all [zCp,Nat.mul_assoc,Nat.mul_comm]
  rw[if_neg c];calc⟨0,52,35⟩
def above{n:Nat}(h:n<2 ^ 60):∃k,sizeAbove n - 1+1=2 ^ (k+1)/\n<=sizeAbove n - 1:=by
 let⟨m,a,b⟩:=zA 64 8 n (Tp h 29);let e:sizeAbove n=8*2 ^ m:=a;refine⟨m+2,?_,35⟩
 lia
end ST
namespace SW
open PySem PySem.SetTable ST
section
variable{prog:Program}{w:World}{A:Around}{E:yaa}{s:Shared}
abbrev TK(prog:Program)(w:World):HeapKind prog w (yaf):=tupleKind (intKind prog w)
theorem items_int:∀{b:yaf} {a:yad},ItemsAre (intKind prog w) b a->∀v∈a,∃n t,v=Value.int n t
 |_,_,.nil,v,h=>by cases h
 |_,_,.cons h t,v,hv=>by
  obtain z|z:=S8.mp hv;let⟨t,e⟩:=Value.isInt_shape h;grind;calc items_int t v z
def yv{Q:Bool->Shared->Prop}(e:(TK prog w).is s.heap k b)(l:Q false s):wpAny (model prog w) A (ofAClassStatement 8 (.ref b)) Q E s:=by
 let⟨o,a,n,d,h,g,f⟩:=e;ext ofAClassStatement;calc Rm (wpAny_typeOf (T := "tuple") ⟨o,d,h⟩ ?_);calc Rm (Rz ?_);calc Rm (Yy d g ?_);calc Rm ?_;rw[<- Array.forIn_toList];calc wpAny_forIn_list _ (λrest r c=>r.1=none/\c=s/\∀v∈rest,∃n t,v=Value.int n t) _ ?_ ?_ _ _ ⟨rfl,rfl,items_int f⟩;rintro v rest r c ⟨j,rfl,i⟩;let⟨m,t,rfl⟩:=i v 46;exact Rz ⟨rfl,rfl,46⟩
 simp_all [Rz]
def Gg{Q:Bool->Shared->Prop}(e:(TK prog w).is s.heap k b)(l:Q true s):wpAny (model prog w) A (hashByValue 8 (.ref b)) Q E s:=by
 let⟨o,a,n,d,h,g,f⟩:=e;calc Rm (zDF (T := "tuple") ⟨o,d,h⟩ F.slot_tuple_hash.lookup ?_);calc Rm (Yy d g ?_);calc Rm ?_;rw[<- Array.forIn_toList];calc wpAny_forIn_list _ (λrest r c=>r.1=none/\c=s/\∀v∈rest,∃n t,v=Value.int n t) _ ?_ ?_ _ _ ⟨rfl,rfl,items_int f⟩;rintro v rest r c ⟨j,rfl,i⟩;let⟨m,t,rfl⟩:=i v 46;exact Rz ⟨rfl,rfl,46⟩
 simp_all [Rz]
def EU{g:yad}{Q:Bool->Shared->Prop}(h:(TK prog w).is s.heap k b)(hv:∀v∈g,∃e c,v=Value.ref c/\(TK prog w).is s.heap e c)(m:Q false s) :
  wpAny (model prog w) A (searchCouldBeSeen (.ref b) g) Q E s:=by
 calc Rm (wpAny_forIn_list _ (λrest r f=>r.1=none/\f=s/\∀v∈rest,∃e c,v=Value.ref c/\(TK prog w).is s.heap e c) _ ?_ ?_ _ _ 46);rintro v rest r f ⟨l,rfl,j⟩;let a:∀u∈rest,∃e c,u=Value.ref c/\(TK prog w).is f.heap e c:=46
 let⟨e,c,rfl,i⟩:=j v 46;by_cases d:((b==c) || (carriedByValue (.ref b) && carriedByValue (.ref c)))=true;rw[Rr d];calc Rz ⟨rfl,rfl,a⟩;rw[if_neg d];calc Rm ((TK prog w).quiet h ?_);calc Rm ((TK prog w).quiet i ?_);calc Rm (yv h ?_);calc Rm (yv i ?_);exact Rz ⟨rfl,rfl,a⟩
 simp_all [Rz]
theorem sM{o:Obj}{xs:List (yaf×Addr)}{Q:SetFound->Shared->Prop}(hu:A.units<cLine)(hk:(TK prog w).is s.heap k b)
  (ho:s.heap.get? a=some o) (hd:o.data=.set es ep t) (he:es.toList=xs.map λx=>((TK prog w).hash x.1,Value.ref x.2)) (ZQ:∀x∈xs,(TK prog w).is s.heap x.1 x.2) (T:Tab t (xs.map λx=>(TK prog w).hash x.1))
  (Y:k∈xs.map (·.1)->Q (.there none) s) (O:k∉xs.map (·.1)->∀j d f,cH t.mask ((TK prog w).hash k)=d++j::f->(∀y∈d,y∈t.place.toList)->j∉t.place.toList->Q (.free j false) s) :
  ∀ (fuel:Nat) (l done:yag) (c:Nat) (st:Option Probe),ahead t.mask c (st.getD (t.probeStart ((TK prog w).hash k)))=l->cH t.mask ((TK prog w).hash k)=done++l →
   (∀y∈done,∃(i:Nat) (x:yaf×Addr),t.place[i]?=some y/\xs[i]?=some x/\x.1≠k)->#[l]<fuel->(st.getD (t.probeStart ((TK prog w).hash k))).dummy=none->wpAny (model prog w) A (setSearchFrom a (.ref b) ((TK prog w).hash k) true fuel st) Q E s
 |0,_,_,_,_,_,_,_,hf,_=>absurd hf (zDf _)
 |fuel+1,l,done,c,st,e1,e2,L,hf,hdm=>by
  let sz:es.size=#[xs]:=by rw[<- VM,he,RG]
  let I:t.fits es.size=true:=by have:=T.fits;rw[RG]at this;rw[sz];exact this
  let psz:t.place.size=#[xs]:=by have:=T.len;rw[RG]at this;exact this
  let n:∀(i:Nat) (x:yaf×Addr),xs[i]?=some x->es[i]?=some ((TK prog w).hash x.1,Value.ref x.2):=λi x r=>by rw[<- Uz,he,UR,r];rfl
  let g:∀i y:Nat,t.place[i]?=some y->∃x,xs[i]?=some x:=λi y B=>by have:=(dR B).2;exact⟨xs[i]' 35,T5 35⟩
  let hat:∀(i:Nat) (x:yaf×Addr),xs[i]?=some x->(es[i]?.map (·.1)).getD 0=(TK prog w).hash x.1:=λi x r=>by rw[n i x r];rfl
  let dpl:∀y∈done,y∈t.place.toList:=λy B=>let ⟨i,_,u,_⟩:=L y B;get_mem u
  let emp:∃x∈l,x∉t.place.toList:=by
   let⟨x,r,e⟩:=T.empty ((TK prog w).hash k);rw[e2]at r;obtain z|z:=S7.mp r;calc absurd (dpl x z) e;exact⟨x,z,e⟩
  let ll:#[l]<=10*turns t.mask:=by
   have:=we t.mask ((TK prog w).hash k);rw[e2,UQ]at this
   lia
  calc Rm (YX ho hd I ?_);dsimp only;rw[T.stays];simp only[zCT,if_false];generalize hm:t.probe _ ((TK prog w).hash k) (st.getD (t.probeStart ((TK prog w).hash k)))=m;rcases AY T.rise T.dum (λi=>(es[i]?.map (·.1)).getD 0) ((TK prog w).hash k) l (10*turns t.mask) c _ e1 ll emp hdm with⟨d,j,f,q1,q2,J,q4⟩| ⟨d,j,f,i,q,c',q1,q2,J,q4,q5,q6,q7⟩;let em:m=some (.empty j none):=hm.symm.trans q4;subst em;dsimp only;let hv:cH t.mask ((TK prog w).hash k)=(done++d)++j::f:=by rw[e2,q1,WI]
  let hpp:∀y∈done++d,y∈t.place.toList:=λy B=>by
   obtain z|z:=S7.mp B;calc dpl y z;let⟨i,u,_⟩:=q2 y z;exact get_mem u
  calc Rz (O (λU=>?_) j _ f hv hpp J);let⟨x,r,G⟩:=SG.mp U;let⟨H,li,ei⟩:=XT r;let C:xs[H]?=some x:=by rw[T5 li,ei]
  let M:=uT (xs:=t.place) (a:=H) 35;let⟨p,post0,v0,p0⟩:=T.reach H _ ((TK prog w).hash k) M (by rw[UR,C,<- G];rfl);let x0:t.place.getD H 0∈done++d:=by
   let h:#[p]<#[done++d]:=by
    refine zBQ λnl=>?_
    let e:(cH t.mask ((TK prog w).hash k))[#[done++d]]?=some j:=by rw[hv,WH (Sx _),zDS];rfl
    rw[v0]at e;by_cases c1:#[done++d]<#[p];rw[WR c1]at e;calc J (p0 j (UX e));let N:#[done++d]=#[p]:=35
    rw[N,WH (Sx _),zDS]at e;have:t.place.getD H 0=j:=Yj e;exact J (by rw[<- this];calc get_mem M)
   let e:(cH t.mask ((TK prog w).hash k))[#[p]]?=some (t.place.getD H 0):=by rw[v0,WH (Sx _),zDS];rfl
   rw[hv,WR h]at e;exact UX e
  let same:∀h:Nat,t.place[h]?=some (t.place.getD H 0)->h=H:=λh h'=>(below_at T.rise h').symm.trans (below_at T.rise M)
  obtain z|z:=S7.mp x0;let⟨h,x',u,N,h3⟩:=L _ z;have:=same h u;subst this;rw[C]at N;cases N;calc h3 G;let⟨h,u,N⟩:=q2 _ z;have:=same h u;subst this;calc N (by rw[hat h x C,G]);let em:m=some (.candidate j i q):=hm.symm.trans q7;subst em;dsimp only;let⟨x,C⟩:=g i j J;let r:=ZQ x (UX C);let stored:∀v∈(es.filter (·.1==(TK prog w).hash k)).toList.map (·.2),∃k' c,v=Value.ref c/\(TK prog w).is s.heap k' c:=λv hv=>by
   let⟨e,he',rfl⟩:=SG.mp hv;let he2:e∈es.toList:=by have:=Array.mem_toList_iff.mp he';exact Array.mem_toList_iff.mpr (Array.mem_filter.mp this).1
   rw[he]at he2;let⟨y,B,rfl⟩:=SG.mp he2;exact⟨y.1,y.2,rfl,ZQ y B⟩
  let go:wpAny (model prog w) A (do
    let some (_,y):=es[i]?|unsupported "internal:set-entry"
    let equal←holding [y] (eqBool y (.ref b))
    let (Wk,_,t')←setState a
    if true && equal then return SetFound.there none
    let some same:=t'.sameMemory t.moves t.mask|unsupported "set.changed-during-lookup:is-the-new-block-at-the-old-address"
    let still←match(if same then t'.slot j else .empty)with
     |.live h=>match Wk[h]? with
      |some (_,e)=>do pure (if←isSame e y then some h else none)
      |none=>pure none
     |_=>pure none
    match still with
    |none=>rule "set.search.anew"; setSearchFrom a (.ref b) ((TK prog w).hash k) true fuel none
    |some h=>if equal then return .there (some h)else setSearchFrom a (.ref b) ((TK prog w).hash k) true fuel (some q)) Q E s:=by
   rw[n i x C];dsimp only;calc Rm (VU ((TK prog w).eqBool hu r hk ?_));calc Rm (YX ho hd I ?_);dsimp only;by_cases G:x.1=k;rw[Rr (by simp[G])];calc Rz (Y (SG.mpr ⟨x,UX C,G⟩));rw[if_neg (by simp[G])];let sm:t.sameMemory t.moves t.mask=some true:=by ext SetTable.sameMemory;simp
   rw[sm];dsimp only;rw[Rr rfl,yA T.rise J];dsimp only;rw[n i x C];calc Rm (wpAny_isSame_ref_self ?_);simp only[if_true];calc Rm (Rz ?_);dsimp only;rw[if_neg (by simp[G])];calc sM hu hk ho hd he ZQ T Y O fuel f (done++d++[j]) c' (some q) q5.symm (by rw[e2,q1];simp) (λy B=>?_) (by rw[q1,UQ,Xo]at hf;lia) q6;obtain z|z:=S7.mp B;obtain z|z:=S7.mp z;calc L y z;let⟨h,u,N⟩:=q2 y z;let⟨x',e⟩:=g h y u;calc⟨h,x',u,e,λek'=>N (by rw[hat h x' e,ek'])⟩;simp at z;subst z;exact⟨i,x,J,C,G⟩
  by_cases e:t.led=true;rw[if_neg (by simp[e])];calc go;rw[Rr (by simp[e])];calc Rm (EU hk stored ?_);calc go
theorem zC:∀(fuel a n:Nat),sizeAbove.go n fuel a<=max a (2*n)
 |0,a,n=>by ext sizeAbove.go;lia
 |fuel+1,a,n=>by
  ext sizeAbove.go;split;have:=zC fuel (a*2) n
  lia
  lia
structure jt(prog:Program)(w:World)(h:Heap)(a:Addr)(xs:List (yaf×Addr)):Prop where
 ex:∃o es ep t,h.get? a=some o/\o.ExactSet/\o.data=.set es ep t/\es.toList=xs.map (λx=>((TK prog w).hash x.1,Value.ref x.2))/\Tab t (xs.map λx=>(TK prog w).hash x.1)/\(t.plain=true/\t.led=!w.params.followText "set-order")/\t.place.size*5<t.mask*3/\t.mask<=8191
 is_:∀x∈xs,(TK prog w).is h x.1 x.2
 nd:(xs.map (·.1)).Nodup
def lg {o:Obj} (e:(TK prog w).is h k b) (j:h.get? a=some o) (l:o.cls=.type "set") (hs:Heap.SameBut a h h'):(TK prog w).is h' k b:=by
 let⟨d,c,n,i,h,g,f⟩:=e;let e:b≠a:=35
 calc⟨d,c,n,hs.extBut b d e i,h,g,f⟩
def JV{xs:List (yaf×Addr)}{o:Obj}{c:Nat}{Q:Unit->Shared->Prop}(B:s.heap.get? a=some o)(m:o.ExactSet)(C:o.data=.set es ep t)(d:es.toList=xs.map λx=>((TK prog w).hash x.1,Value.ref x.2))
  (T:Tab t (xs.map λx=>(TK prog w).hash x.1)) (O:t.plain=true/\t.led=!w.params.followText "set-order") (ZQ:∀x∈xs,(TK prog w).is s.heap x.1 x.2) (M:(xs.map (·.1)).Nodup) (hw:c=4*#[xs]) (hn:0<#[xs]) (hl:#[xs]<=1000)
  (hQ:∀h' ys,Heap.SameBut a s.heap h'->jt prog w h' a ys->#[ys]=#[xs]->(∀y,y∈ys↔y∈xs)->Q () {s with heap:=h'}):wpAny (model prog w) A (setRelay a c) Q E s:=by
 let G:es.size=#[xs]:=by rw[<- VM,d,RG]
 let u:t.fits es.size=true:=by have:=T.fits;rw[RG]at this;rw[G];exact this
 let⟨k,l,eb⟩:=above (n:=c) 35;let up:sizeAbove c<=max 8 (2*c):=zC 64 8 c;generalize hzs:(xs.map λx=>((TK prog w).hash x.1,x)).toArray=f;let p:f.size=#[xs]:=by rw[<- hzs];simp
 let g:∀i:Nat,f[i]?=xs[i]?.map λx=>((TK prog w).hash x.1,x):=λi=>by rw[<- hzs];simp
 let j:∀i:Nat,es[i]?=xs[i]?.map λx=>((TK prog w).hash x.1,Value.ref x.2):=λi=>by rw[<- Uz,d,UR]
 let e:es.map (·.1)=f.map (·.1):=by apply Array.ext_getElem?;intro i;rw[Array.getElem?_map,Array.getElem?_map,g,j];cases xs[i]?<;>rfl
 let⟨h,b,k,m1,Y,U,d,n,J,Q,f3,H,N,f6⟩:=L8 l t.finger (t.movedTo (sizeAbove c - 1)) t.led t.plain f 35;let er:t.relaid (es.map (·.1)) c=some (h,b):=by rw[e];exact k
 generalize hys:d.map (·.2)=ys;let t:∀l:yag,(l.filterMap λi=>es[i]?)=(l.filterMap λi=>f[i]?).map λz=>(z.1,Value.ref z.2.2):=λl=>by
  induction l with
  |nil=>rfl
  |cons i r ih =>
   cases e:xs[i]? with
   |none=>rw[List.filterMap_cons_none (by rw[j,e];rfl),List.filterMap_cons_none (by rw[g,e];rfl),ih]
   |some x=>rw[zC5 (by rw[j,e];rfl),zC5 (by rw[g,e];rfl),Vq,ih]
 let k:b.toList.filterMap (λi=>f[i]?)=d:=by rw[<- n];simp
 let n:∀z∈d,z=((TK prog w).hash z.2.1,z.2)/\z.2∈xs:=λz c=>by let⟨q,l,j⟩:=XT c;let⟨i,_,f⟩:=H q z (by rw[T5 l,j]);rw[g]at f;let⟨x,I,e⟩:=Zg.mp f;subst e;exact⟨rfl,UX I⟩
 let f:(b.filterMap λi=>es[i]?).toList=ys.map λx=>((TK prog w).hash x.1,Value.ref x.2):=by
  have:(b.filterMap λi=>es[i]?).toList=b.toList.filterMap λi=>es[i]?:=52
  rw[this,t,k,<- hys,UA];apply zC8;intro z c;let⟨e,_⟩:=n z c;show(z.1,Value.ref z.2.2)=((TK prog w).hash z.2.1,Value.ref z.2.2);rw[show z.1=(TK prog w).hash z.2.1 from congrArg (·.1) e]
 let t:d.map (·.1)=ys.map λx=>(TK prog w).hash x.1:=by rw[<- hys,UA];apply zC8;intro z c;let⟨e,_⟩:=n z c;exact congrArg (·.1) e
 let L:#[ys]=#[xs]:=by rw[<- hys,RG,J,p]
 let J:∀y,y∈ys↔y∈xs:=λy=>by
  rw[<- hys];constructor;intro j;let⟨z,c,rfl⟩:=SG.mp j;calc(n z c).2;intro j;let⟨i,n,T⟩:=XT j;let⟨q,r⟩:=N i (by rw[p];calc n);let c:((TK prog w).hash y.1,y)∈d:=by rw[<- k,zDD];calc⟨i,?_,by rw[g,T5 n,T];rfl⟩;rw[<- Uz]at r;exact UX r
  exact SG.mpr ⟨_,c,rfl⟩
 let n:(ys.map (·.1)).Nodup:=by
  rw[<- hys,UA];refine Zd.mpr λp q c l hpq e=>?_
  rw[RG]at c l;simp at e;let⟨i,T,N⟩:=H p d[p] (T5 c);let⟨k,r,c⟩:=H q d[q] (T5 l);rw[g]at N c;let⟨x,I,H⟩:=Zg.mp N;let⟨l,g,d⟩:=Zg.mp c;rw[<- H,<- d]at e;let H:x.1=l.1:=e;let⟨l,e⟩:=VE.mp I;let⟨d,c⟩:=VE.mp g;let g:i=k:=by
   obtain z|z|z:=zCL i k;have:=Zd.mp M i k (by rw[RG];calc l) (by rw[RG];calc d) z;rw[Yg,Yg,e,c]at this;calc absurd H this;calc z;have:=Zd.mp M k i (by rw[RG];calc d) (by rw[RG];calc l) z;rw[Yg,Yg,e,c]at this;exact absurd H.symm this
  subst g;have:=f6 p q i T r
  lia
 calc Rm (YX B C u ?_);dsimp only;rw[if_neg (by rw[Tq];lia),er];let c:(b.filterMap λi=>es[i]?).size=es.size:=by rw[<- VM,f,RG,L,G]
 calc Rm ?_;show wpAny _ _ (if((b.filterMap λi=>es[i]?).size != es.size)=true then _ else pure (b.filterMap (λi=>es[i]?),h)) _ _ _;rw[if_neg (by rw[c];simp)];calc Rz ?_;calc wpAny_storeSet_of B C ?_ (by rw[c,G,Tq];lia);let c:(s.heap.update a (Obj.putSet (b.filterMap λi=>es[i]?) h)).get? a=some {o with data:=.set (b.filterMap λi=>es[i]?) (ep+1) h}:=by have:=YS (Obj.putSet (b.filterMap λi=>es[i]?) h) B (by rw[putSet_of _ _ C];rfl);rw[putSet_of _ _ C]at this;exact this
 rw[t]at Q;calc hQ _ ys (zB7 ..) ⟨⟨_,_,ep+1,h,c,m,rfl,f,Q,⟨by rw[U];calc O.1,by rw[Y];calc O.2⟩,35,by rw[m1];lia⟩,λy j=>lg (ZQ y ((J y).mp j)) B m.1 (zB7 ..),n⟩ L J
def Nt{Q:Bool->Shared->Prop}(hu:A.units<cLine)(S:jt prog w s.heap a xs)(U:(TK prog w).is s.heap k b)(hl:#[xs]<1000)
  (hQ:∀h' ys Y,Heap.SameBut a s.heap h'->jt prog w h' a ys->#[ys]<=#[xs]+1->(∀m,m∈ys.map (·.1)↔m∈xs.map (·.1)∨m=k)->(∀y∈ys,y∈xs∨y=(k,b))->Q Y {s with heap:=h',toks:=s.toks+(TK prog w).draws k}) :
  wpAny (model prog w) A (setAdd a (.ref b)) Q E s:=by
 ext setAdd;calc VU (Rm ((TK prog w).pyHash hu U ?_));generalize hs':({s with toks:=s.toks+(TK prog w).draws k}:Shared)=f;let hh:f.heap=s.heap:=by rw[<- hs']
 let⟨⟨o,n,ep,t,u,i,I,he,T,TF,hlo,O⟩,ZQ,nd⟩:=S;rw[<- hh]at u U;let h:∀x∈xs,(TK prog w).is f.heap x.1 x.2:=by rw[hh];exact ZQ
 let sz:n.size=#[xs]:=by rw[<- VM,he,RG]
 let C:t.fits n.size=true:=by have:=T.fits;rw[RG]at this;rw[sz];exact this
 let psz:t.place.size=#[xs]:=by have:=T.len;rw[RG]at this;exact this
 let l:∀(h':Heap) (Y:Bool),Q Y {s with heap:=h',toks:=s.toks+(TK prog w).draws k}->Q Y {f with heap:=h'}:=λh' Y q=>by rw[<- hs'];exact q
 ext setAddHashed;calc VU ?_;ext setAddHashedIn;calc Rm (YX u I C ?_);dsimp only;rw[if_neg (by ext byScan;simp[Value.scannable])];let⟨c,ec⟩:=BC t ((TK prog w).hash k);let vl:=we t.mask ((TK prog w).hash k);ext setSearch;calc Rm (sM hu U u I he h T (λhin=>?_) (λhno j pre post hv hp hj=>?_) 100000 _ [] c none ec.symm 52 52 (by unfold turns at vl;lia) rfl);dsimp only;calc Rz ?_;let e:f={f with heap:=f.heap}:=by cases f;rfl
 rw[e];calc l _ _ (hQ f.heap xs _ (by rw[hh];calc Heap.SameBut.refl a s.heap) ⟨⟨o,n,ep,t,u,i,I,he,T,TF,hlo,O⟩,h,nd⟩ 35 (λm=>⟨.inl,λz=>z.elim id λz=>by subst z;calc hin⟩) λy g=>.inl g);dsimp only;calc Rm (YX u I C ?_);dsimp only;let⟨T',pl,pm,ps⟩:=T.put hj hv hp 35;rw[RG]at pl;let hpp:(t.put j).1.plain=true:=TF.1;let N:(t.put j).1.plain=true/\(t.put j).1.led=!w.params.followText "set-order" := TF;rw[hpp];simp only[if_true];calc Rm (Gg U ?_);simp only[if_true];generalize hp2:(t.put j).2=p at *;generalize ht2:(t.put j).1=r at *;let H:(insertAt n p ((TK prog w).hash k,Value.ref b)).toList=(xs.take p++(k,b)::xs.drop p).map λx=>((TK prog w).hash x.1,Value.ref x.2):=by rw[nU,he,VB,Vq,List.map_take,List.map_drop]
 let B:#[xs.take p++(k,b)::xs.drop p]=#[xs]+1:=by
  rw[UQ,Wq,Xo,Xg]
  lia
 let L:(insertAt n p ((TK prog w).hash k,Value.ref b)).size=#[xs]+1:=by rw[<- VM,H,RG,B]
 let d:∀y,y∈xs.take p++(k,b)::xs.drop p↔y=(k,b)∨y∈xs:=λy=>by
  rw[S7,S8];constructor;rintro(z|z|z);calc .inr (zB3 z);calc .inl z;calc .inr (zB2 z);rintro(z|z);calc .inr (.inl z);rw[<- XH p xs]at z;obtain q|q:=S7.mp z;calc .inl q;exact .inr (.inr q)
 let J:((xs.take p++(k,b)::xs.drop p).map (·.1)).Nodup:=by
  rw[VB,Vq];let n0:=nd;let h0:=hno;rw[<- XH p xs,VB]at n0 h0;rw[List.nodup_append]at n0 ⊢;let⟨n1,n2,n3⟩:=n0;rw[S7,not_or]at h0;calc⟨n1,zB9.mpr ⟨h0.2,n2⟩,λx hx y g=>?_⟩;obtain z|z:=S8.mp g;intro e;subst e;subst z;calc h0.1 hx;exact n3 x hx y z
 let ZS:∀zs:List (yaf×Addr),(∀y,y∈zs↔y∈xs.take p++(k,b)::xs.drop p)->∀m,m∈zs.map (·.1)↔m∈xs.map (·.1)∨m=k:=λzs hz m=>by
  constructor;intro h1;let⟨y,g,e⟩:=SG.mp h1;rcases(d y).mp ((hz y).mp g)with q|q;subst q;calc .inr e.symm;calc .inl (SG.mpr ⟨y,q,e⟩);rintro(h1|h1);let⟨y,g,e⟩:=SG.mp h1;calc SG.mpr ⟨y,(hz y).mpr ((d y).mpr (.inr g)),e⟩;subst h1;exact SG.mpr ⟨(m,b),(hz _).mpr ((d _).mpr (.inl rfl)),rfl⟩
 calc Rm (wpAny_storeSet_of u I ?_ (by rw[L,Tq];lia));let hg:(f.heap.update a (Obj.putSet (insertAt n p ((TK prog w).hash k,Value.ref b)) r)).get? a=some {o with data:=.set (insertAt n p ((TK prog w).hash k,Value.ref b)) (ep+1) r}:=by have:=YS (Obj.putSet (insertAt n p ((TK prog w).hash k,Value.ref b)) r) u (by rw[putSet_of _ _ I];rfl);rw[putSet_of _ _ I]at this;exact this
 let sb:=zB7 f.heap a (Obj.putSet (insertAt n p ((TK prog w).hash k,Value.ref b)) r);generalize hh2:f.heap.update a (Obj.putSet (insertAt n p ((TK prog w).hash k,Value.ref b)) r)=h2 at hg sb ⊢;let T2:Tab r ((xs.take p++(k,b)::xs.drop p).map λx=>(TK prog w).hash x.1):=by rw[VB,Vq,List.map_take,List.map_drop];exact T'
 let M:∀x∈xs.take p++(k,b)::xs.drop p,(TK prog w).is h2 x.1 x.2:=λx hx=>by
  rcases(d x).mp hx with z|z;subst z;calc lg U u i.1 sb;exact lg (h x z) u i.1 sb
 by_cases tf:r.tooFull=true;rw[Rr (by simp[tf])];calc Rm (JV (s:={f with heap:=h2}) (xs:=xs.take p++(k,b)::xs.drop p) hg i rfl H T2 N M J ?_ 35 35 λh3 ys sb3 S3 yl ym=>?_);rw[B,sz];ext SetTable.grown;rw[if_neg 35]
 lia
 refine Rz (l h3 true (hQ h3 ys true (by rw[<- hh];calc sb.trans sb3) S3 ?_ (ZS ys ym) λy g=>?_))
 lia
 rcases(d y).mp ((ym y).mp g)with q|q;calc .inr q;calc .inl q;rw[if_neg (by simp[tf])];calc Rz (l h2 true (hQ h2 _ true (by rw[<- hh];calc sb) ⟨⟨_,_,ep+1,r,hg,i,rfl,H,T2,N,?_,by rw[pm];calc O⟩,M,J⟩ 35 (ZS _ λ_=>Iff.rfl) λy g=>?_));let G:r.tooFull=false:=by simpa using tf
 unfold SetTable.tooFull SetTable.fill at G;rw[T2.dum]at G;simp at G
 lia
 rcases(d y).mp g with q|q;calc .inr q;calc .inl q
end
def ya:entryFor table "set.update.loop" = some Builtin.«set.update.loop»:=entryFor_of_tree 85
def Hf:plainId "set.update.loop" = true:=by decide +kernel
section
variable{prog:Program}{w:World}{A:Around}{E:yaa}{s:Shared}
def mK{h':Heap}(c:(TK prog w).is h k b)(e:∀o,h.get? b=some o->h'.get? b=some o):(TK prog w).is h' k b:=by let⟨b,a,n,d,r⟩:=c;calc⟨b,a,n,e b d,r⟩
def key_ne {o:Obj} (d:(TK prog w).is h k b) (g:h.get? a=some o) (i:o.cls=.type T) (j:T ≠ "tuple"):b≠a:=λe=>by
 let⟨f,c,n,Xj,Yz,_⟩:=d
 lia
theorem jt.ext{h':Heap}(S:jt prog w h a xs)(e:∀o,h.get? a=some o->h'.get? a=some o)(c:∀x∈xs,(TK prog w).is h' x.1 x.2):jt prog w h' a xs:=by let⟨⟨o,d,f,t,b,r⟩,_,a⟩:=S;calc⟨⟨o,d,f,t,e o b,r⟩,c,a⟩
def Mf {a I l : Addr} {items : yao} {R : Result -> Shared -> Prop} (hh : A.handled = none) (J : A.in1.units < cLine) (n : a ≠ I) (C : a ≠ l) (e : l ≠ I) (Q : items.size <= 900) (d : Nat -> yaf) :
  ∀ (m i : Nat) (s : Shared) (xs : List (yaf × Addr)), items.size - i = m -> i <= items.size -> (s.heap.IsListIter I l i /\ s.heap.IsList l items) -> jt prog w s.heap a xs -> #[xs] <= i →
   (∀ (j : Nat) (v : Value), items[j]? = some v -> ∃ c, v = .ref c /\ (TK prog w).is s.heap (d j) c) -> (∀ k, k ∈ xs.map (·.1) ↔ ∃ j, j < i /\ k = d j) -> (∀ x ∈ xs, ∃ j, j < i /\ items[j]? = some (.ref x.2)) →
   (∀ h' r ys, (∀ b o, b ≠ a -> b ≠ I -> s.heap.get? b = some o -> h'.get? b = some o) -> jt prog w h' a ys -> #[ys] <= items.size -> (∀ k, k ∈ ys.map (·.1) ↔ ∃ j, j < items.size /\ k = d j) -> (∀ x ∈ ys, ∃ j, j < items.size /\ items[j]? = some (.ref x.2)) →
    R (.ok (.ret .none)) { s with heap := h', toks := r }) -> codeAny (model prog w) A (.builtin "set.update.loop" ⟨[.ref a, .ref I], []⟩) R s := by
 let W := Walks.list (prog := prog) (w := w) (A := A.in1) (show A.in1.handled = none from hh) I l e items;intro m
 induction m with
 | zero =>
  intro i s xs t H st S q B h g G;let e : i = items.size := 35
  subst e;calc zCO ya ?_;calc Rm (W.done s _ _ st λh' r kp => ?_);let⟨⟨o, y, z, _⟩, _⟩ := st;let d : ∀ b o, b ≠ I -> s.heap.get? b = some o -> h'.get? b = some o := λb o f e => kp b o (by simpa using f) e
  calc Rz (G h' r xs (λb o _ f e => d b o f e) (S.ext (λo e => d a o n e) λx p => ?_) q h g);calc mK (S.is_ x p) λu e => d _ u (key_ne (S.is_ x p) y z 29) e
 | succ m ih =>
  intro i s xs t H st S q B h g G;let H : i < items.size := 35
  calc zCO ya ?_;calc Rm (W.item i s _ _ H st λv h' r hv t kp => ?_);let⟨⟨o, y, z, _⟩, _⟩ := id st;let d : ∀ b o, b ≠ I -> s.heap.get? b = some o -> h'.get? b = some o := λb o f e => kp b o (by simpa using f) e
  let m : ∀ {k : yaf} {c : Addr}, (TK prog w).is s.heap k c -> (TK prog w).is h' k c := λq => mK q λu e => d _ u (key_ne q y z 29) e
  let y : jt prog w h' a xs := S.ext (λo e => d a o n e) λx p => m (S.is_ x p)
  let⟨c, rfl, a⟩ := B i v hv;calc Rm (VU (Nt (s := { s with heap := h', toks := r }) J y (m a) 35 λu ys T sb S2 N L J => ?_));let⟨⟨O, _, _, _, r, a, _⟩, _, _⟩ := id y;let M : ∀ {k : yaf} {c : Addr}, (TK prog w).is h' k c -> (TK prog w).is u k c := λq => lg q r a.1 sb
  let a : u.IsListIter I l (i + 1) /\ u.IsList l items := W.frame _ _ _ t λb f o e => by
   calc sb.extBut b o (λq => ?_) e;subst q;simp at f;obtain z | z:=f;calc n z;exact C z
  calc Rz ⟨zDY Hf _, ih (i + 1) _ ys 35 H a S2 35 (λj v a => ?_) (λk => ?_) (λx p => ?_) λu c l f C n r t => ?_⟩;let⟨y, e, q⟩ := B j v a;calc ⟨y, e, M (m q)⟩;rw [L k, h k];constructor;rintro (⟨j, a, e⟩ | e);calc ⟨j, 35, e⟩;calc ⟨i, 35, e⟩;rintro ⟨j, a, e⟩;by_cases z : j < i;calc .inl ⟨j, z, e⟩;have : j = i := 35
  subst this;calc .inr e;obtain z | z:=J x p;let⟨j, a, e⟩ := g x z;calc ⟨j, 35, e⟩;subst z;calc ⟨i, 35, hv⟩;calc G u c l (λb o a c e => f b o a c (sb.extBut b o a (d b o c e))) C n r t
end
def y3 (a:Value):checkTypeCall "set" ⟨[a],[]⟩=pure ():=85
def AL (a:Value):checkBuiltinCall "set.__new__" ⟨[.type "set", a],[]⟩=pure ():=85
section
variable{prog:Program}{w:World}{A:Around}{E:yaa}{s:Shared}
def yM(a:Value){Q₁:yaa}
  (h:∀led:Bool,led=(!w.params.followText "set-order")->Q₁ (.ref s.heap.objs.size) {s with heap:=s.heap.push {cls:=.type "set", dict:=none,data:=.set #[] 0 (.fresh 0 0 led)} }) :
  codeAny (model prog w) A (.call (.builtin "set.__new__") ⟨[.type "set", a],[]⟩) (wants Q₁ E) s:=by
 calc codeAny_of_tree ?_;calc Rm (wpAny_of_eq (AL a) (Rz ⟨zDY F.plain_set_new _,zCO F.entry_set_new ?_⟩));ext Builtin.«set.__new__» Builtin.Frozenset.newClass;let b:=sub_set_self;wp_walk;calc wpAny_askSetting (Rz ?_);calc Rm (wpAny_alloc (Rz ?_));calc Rz (h _ rfl)
def BG {x:Value} {Q:Unit->Shared->Prop} (b:s.TypeIs self "set") (c:Q () s):wpAny M A (checkBuiltinCall "set.__init__" ⟨[self,x],[]⟩) Q E s:=by calc Rm (zCk b sub_set_self ?_);calc Rm (m:=Bind.printed "*" false _ _) (PyProof.Rows.printed_star (self:=self) rfl b λa=>?_);exact Rz c
set_option maxHeartbeats 1000000 in
def FI {x:Value} {Q:yaa} (h:∀led:Bool,led=(!w.params.followText "set-order")->wpAny (model prog w) A.in1.in1 (Builtin.«set.__init__» ⟨[.ref s.heap.objs.size,x],[]⟩)
   (λc b=>match c with|.done f=>wants (λr a=>r=.none/\Q (.ref s.heap.objs.size) a) E (.ok f) b|.again d=>d.quiet=true/\codeAny (model prog w) A.in1 d (wants (λr a=>r=.none/\Q (.ref s.heap.objs.size) a) E) b)
   (λe b=>wants (λr a=>r=.none/\Q (.ref s.heap.objs.size) a) E (.error e) b) {s with heap:=s.heap.push {cls:=.type "set", dict:=none,data:=.set #[] 0 (.fresh 0 0 led)} }) :
  wpAny (model prog w) A (call (.type "set") [x]) Q E s:=by
 let⟨c,n,j⟩:=F.called_set.mro;let g:=F.called_set.made;let i:=F.called_set.sub;calc wpAny_call (codeAny_of_tree ?_);show wpAny _ _ (callAny (.type "set") _) _ _ _;calc Rz ⟨Code.quiet_builtin _ (by decide +kernel),zCO F.entry_type_call ?_⟩;rw[Around.under_plain (weight_type_call_type "set" [x] []) rfl];let q:=F.called_set.notType;let p:=F.called_set.canCreate;let l:=y3 x
 repeat (any_goals (first|assumption|wp_step))
 refine codeAny_mono (yM (E:=E) x (Q₁:=λc d=>∃led:Bool,led=(!w.params.followText "set-order")/\c=.ref s.heap.objs.size/\d={s with heap:=s.heap.push {cls:=.type "set", dict:=none,data:=.set #[] 0 (.fresh 0 0 led)} }) λled b=>⟨led,b,rfl,rfl⟩) λr d d=>?_
 cases r with
 |error e=>calc d
 |ok f =>
  cases f with
  |ret c =>
   let⟨led,b,rfl,rfl⟩:=d;let c:Shared.TypeIs {s with heap:=s.heap.push {cls:=.type "set", dict:=none,data:=.set #[] 0 (.fresh 0 0 led)} } (.ref s.heap.objs.size) "set" := ⟨_,Vj _ rfl,rfl⟩;let k:=F.called_set.init.lookup;let m:=F.called_set.init.bind (.ref s.heap.objs.size)
   repeat (any_goals (first|assumption|wp_step))
   refine codeAny_mono (codeAny_call_builtin (R:=wants (λr a=>r=.none/\Q (.ref s.heap.objs.size) a) E) F.called_set.init.plain F.entry_set_init (BG c (h led b))) λb a c=>?_
   cases b with
   |error e=>calc c
   |ok a =>
    cases a with
    |ret r =>
     let⟨rfl,o⟩:=c
     repeat (any_goals (first|assumption|wp_step))
    |_=>calc c.elim
  |_=>calc d.elim
def LP (led:Bool) (a:led=!w.params.followText "set-order"):jt prog w (s.heap.push {cls:=.type "set", dict:=none,data:=.set #[] 0 (.fresh 0 0 led)}) s.heap.objs.size []:=by calc⟨⟨_,#[],0,_,Vj _ rfl,⟨rfl,rfl,rfl⟩,rfl,rfl,?_,⟨rfl,a⟩,by show 0*5<7*3;decide,by show 7<=8191;decide⟩,52,52⟩;calc⟨⟨2,rfl⟩,λa b _ b=>absurd b (zDf _),(λx b=>by cases b),rfl,rfl,Uw _,λa x h b=>?_⟩;have:(#[]:yap)[a]?=some x:=b;simp at this
def Pz:isSubtype (.type "list") (.type "set")=pure false:=85
def Py:isSubtype (.type "list") (.type "frozenset")=pure false:=85
def call_set_list{Q:yaa}(hh:A.handled=none)(m:A.in1.in1.in1.units<cLine)(e:s.heap.IsList l items)(n:items.size<=900)(h:Nat->yaf)
  (p:∀(j:Nat) (v:Value),items[j]?=some v->∃c,v=.ref c/\(TK prog w).is s.heap (h j) c)
  (r:∀h' g ys,(∀b o,s.heap.get? b=some o->h'.get? b=some o)->jt prog w h' s.heap.objs.size ys->#[ys]<=items.size->(∀k,k∈ys.map (·.1)↔∃ j,j<items.size/\k=h j)->(∀x∈ys,∃j,j<items.size/\items[j]?=some (.ref x.2)) →
   Q (.ref s.heap.objs.size) {s with heap:=h',toks:=g}):wpAny (model prog w) A (call (.type "set") [.ref l]) Q E s:=by
 refine FI λled d=>?_
 let t:(s.heap.push {cls:=.type "set", dict:=none,data:=.set #[] 0 (.fresh 0 0 led)}).get? s.heap.objs.size=some {cls:=.type "set", dict:=none,data:=.set #[] 0 (.fresh 0 0 led)}:=Vj _ rfl;let i:l<s.heap.objs.size:=by let⟨o,a,_⟩:=e;exact SJ a
 let f:Shared.TypeIs {s with heap:=s.heap.push {cls:=.type "set", dict:=none,data:=.set #[] 0 (.fresh 0 0 led)} } (.ref l) "list" := by let⟨o,a,k,_⟩:=e;exact⟨o,T6 _ a,k⟩
 let k:=LP (prog:=prog) (w:=w) (s:=s) led d;let d:(s.heap.push {cls:=.type "set", dict:=none,data:=.set #[] 0 (.fresh 0 0 led)}).IsList l items:=e.push _;let ZD:(s.heap.push {cls:=.type "set", dict:=none,data:=.set #[] 0 (.fresh 0 0 led)}).objs.size=s.heap.objs.size+1:=zC4 ..;let a:∀b o,s.heap.get? b=some o->(s.heap.push {cls:=.type "set", dict:=none,data:=.set #[] 0 (.fresh 0 0 led)}).get? b=some o:=λb o e=>T6 _ e
 ext Builtin.«set.__init__» noKeywords
 wp_walk
 calc wpAny_of_eq Pz ?_;calc zCk f Py ?_;simp only[zCT,if_false];calc Rm (wpAny_typeOf f ?_);rw[if_neg 29];generalize s.heap.push {cls:=.type "set", dict:=none,data:=.set #[] 0 (.fresh 0 0 led)}=h1 at *;calc Rm (wpAny_pyIter_list d ?_);calc Rm (wpAny_runValue ?_);let f:s.heap.objs.size≠h1.objs.size:=35
 refine Mf (A:=A.in1.in1) (I:=h1.objs.size) (l:=l) (items:=items) hh m f (Yk i) (Uv (by rw[ZD];calc zDN i)) n h items.size 0 {s with heap:=h1.push {cls:=.type "list_iterator", data:=.fields #[.ref l,.int 0 0]} } [] 35 (Uw _) ⟨⟨_,Vj _ rfl,rfl,rfl⟩,d.push _⟩ (k.ext (λo e=>T6 _ e) 52) (Sx _) (λj v i=>?_) 52 52 λh' g ys kp S d f h=>?_
 let⟨c,e,q⟩:=p j v i;calc⟨c,e,mK q λo e=>T6 _ (a c o e)⟩;calc Rz (Rz ⟨rfl,r h' g ys (λb o e=>?_) S d f h⟩);let c:b<s.heap.objs.size:=SJ e;calc kp b o (Uv c) (Uv (by rw[ZD];calc zDN c)) (T6 _ (a b o e))
end
theorem uP{a:Type}:∀(l:List a) (i:Nat) (h:i<#[l]),(l[i]::l.eraseIdx i).Perm l
 |[],_,h=>absurd h 46
 |x::l,0,_=>List.Perm.refl _
 |x::l,i+1,h=>by let r:=uP l i 46;calc(List.Perm.swap x _ _).trans (List.Perm.cons x r)
theorem C1{b:Type}(next:Nat->Nat):∀(fuel k:Nat) (left:List b) (a:Array b),#[left]=fuel->(pickOrder.go next fuel k left a).toList.Perm (a.toList++left)
 |0,k,left,a,e=>by
  have:left=[]:=72
  subst this;simp[pickOrder.go]
 |fuel+1,k,left,a,e=>by
  let b:0<#[left]:=35
  let c:next k % #[left]<#[left]:=Zn _ b;ext pickOrder.go;rw[T5 c];let r:=C1 next fuel (k+1) (left.eraseIdx (next k % #[left])) (a.push left[next k % #[left]]) 72;calc r.trans ?_;grind [Array.toList_push,List.append_assoc,List.perm_append_left_iff,uP]
theorem Hc{a:Type}(next:Nat->Nat)(xs:Array a):(pickOrder next xs).toList.Perm xs.toList:=by have:=C1 next xs.size 0 xs.toList #[] 52;simpa [pickOrder]using this
def DV(a:jr xs):below xs 0=0:=by
 let⟨d,b,c⟩:=jL a 0;rcases Nat.eq_zero_or_pos (below xs 0)with z|z;calc z;have:=b 0 z;lia
def DU(c:jr xs){a j:Nat}(h:xs[a]?=some j):below xs (j+1)=a+1:=by
 let⟨g,e,d⟩:=jL c (j+1);let⟨b,f⟩:=zDX.mp h;let i:xs.getD a 0=j:=by simp[Array.getD,b,f]
 rcases zCL (below xs (j+1)) (a+1)with z|z|z;have:=d a 35 b
 lia
 calc z;let q:=e (a+1) z;let b:a+1<xs.size:=35
 have:=c a (a+1) 35 b
 lia
def dE:Slot "set_iterator" "__next__" "set_iterator.__next__" :=
 .of (owner := "set_iterator") (n := "__next__") 85 (by decide +kernel) (by decide +kernel) (by decide +kernel) (.inl (by decide +kernel)) 85
def qI:Slot "set_iterator" "__iter__" "set_iterator.__iter__" :=
 .of (owner := "set_iterator") (n := "__iter__") 85 (by decide +kernel) (by decide +kernel) (by decide +kernel) (.inl (by decide +kernel)) 85
def ph:entryFor table "set_iterator.__next__" = some Builtin.«set_iterator.__next__»:=entryFor_of_tree 85
def yN:entryFor table "set_iterator.__iter__" = some Builtin.«dict_keyiterator.__iter__»:=entryFor_alias (id' := "dict_keyiterator.__iter__") 85 rfl (by decide +kernel) 85
def Al:entryFor table "set.__iter__" = some Builtin.«frozenset.__iter__»:=entryFor_alias (id' := "frozenset.__iter__") 85 rfl (by decide +kernel) 85
def pN (a:Value):argsOk "set_iterator.__next__" ⟨[a],[]⟩:=85
def zF (a:Value):argsOk "set_iterator.__iter__" ⟨[a],[]⟩:=85
noncomputable def eW (w:World) (a:Addr) (es:Array (Int×Value)) (b:Nat):Array (Int×Value):=if w.params.followText "set-order" = true then pickOrder (w.params.setOrder a b) es else es
def sU(w:World)(a:Addr)(es:Array (Int×Value))(b:Nat):(eW w a es b).toList.Perm es.toList:=by ext eW;grind [Hc]
theorem mC(w:World)(a:Addr)(es:Array (Int×Value))(b:Nat):(eW w a es b).size=es.size:=by have:=(sU w a es b).length_eq;simpa using this
def wB(w:World)(h:Heap)(I a:Addr)(t:SetTable)(n c i:Nat):Prop :=
 ∃ o b,h.get? I=some o/\o.cls=.type "set_iterator" /\ o.data=.fields #[.int (b:Nat) 0,.int (i:Nat) 0,.ref a,.int (n:Nat) 0,.int (c:Nat) 0]/\(w.params.followText "set-order" = false->below t.place b=i)
section
variable{prog:Program}{w:World}{A:Around}{E:yaa}{s:Shared}
def xt (x:wB w s.heap I a t n ep i):s.TypeIs (.ref I) "set_iterator" := by let⟨o,_,a,b,_⟩:=x;calc⟨o,a,b⟩
def vL{a:Addr}{o:Obj}{es:Array (Int×Value)}{d b i:Nat}{t:SetTable}{hs:yaf}{Q:Option (Value×Nat)->Shared->Prop}(e:s.heap.get? a=some o)(g:o.data=.set es d t)(T:Tab t hs)(f:#[hs]=es.size)
  (TF:t.plain=true/\t.led=!w.params.followText "set-order") (j:w.params.followText "set-order" = false->below t.place b=i)
  (k:∀z,(eW w a es d)[i]?.map (·.2)=z.map (·.1)->(∀p,z=some p->w.params.followText "set-order" = false->below t.place p.2=i+1)->Q z s):wpAny (model prog w) A (setNext a b i d) Q E s:=by
 let b:t.fits es.size=true:=by rw[<- f];exact T.fits
 calc Rm (YX e g b ?_);show wpAny _ _ (if w.params.followText "set-order" = true then _ else _) _ _ _;by_cases c:w.params.followText "set-order" = true;rw[Rr c];simp;calc Rm (Rm (YX e g b ?_));show wpAny _ _ (if w.params.followText "set-order" = true then _ else _) _ _ _;rw[Rr c];calc Rm (wpAny_askSetting (Rz ?_));calc Rz (k _ ?_ ?_);ext eW;rw[Rr c];show _=Option.map _ (Option.map _ (pickOrder (w.params.setOrder a d) es)[i]?);cases(pickOrder (w.params.setOrder a d) es)[i]?<;>rfl
 lia
 let a:w.params.followText "set-order" = false:=35
 rw[if_neg c];split;rename_i h;let l:(!t.plain && decide (es.size > 1))=true:=h
 lia
 calc Rm ?_;show wpAny _ _ (if(!t.led && !es.isEmpty)=true then unsupported "set:maker-not-led" else pure ()) _ _ _;rw[if_neg 35];calc Rz (Rz (k _ ?_ ?_));ext eW;rw[if_neg c,j a];cases e:es[i]? with
 |none=>rfl
 |some z =>
  let b:i<es.size:=72;let c:t.place[i]?=some (t.place[i]'(by rw[T.len,f];calc b)):=46
  rw[c];rfl
 intro p b _;rw[j a]at b;split at b;rename_i j e;cases b;exact DU T.rise e
 lia
def MZ{o:Obj}{x:Int×Value}{Q:yan->Shared->Prop}(k:s.heap.get? a=some o)(n:o.data=.set es ep t)(T:Tab t hs)(l:#[hs]=es.size)
  (H:t.plain=true/\t.led=!w.params.followText "set-order") (st:wB w s.heap I a t es.size ep i) (u:(eW w a es ep)[i]?=some x)
  (C:∀h',wB w h' I a t es.size ep (i+1)->Heap.SameBut I s.heap h'->Q (some x.2) {s with heap:=h'}):wpAny (model prog w) A (pyNext (.ref I)) Q E s:=by
 let⟨J,h,c,f,b,B⟩:=id st;let q:=xt st;let d:t.fits es.size=true:=by rw[<- l];exact T.fits
 calc Rm (zCd (zBa (name:=Str.ofString "__next__") q dE (YY dE q ph ?_ (pN _))));calc Rm (m:=slotArgs "__next__" 0 ⟨[.ref I],[]⟩) (Rz ?_);calc Rm (wpAny_fieldsOf c b ?_);calc Rm (Rm (YX k n d (Rz ?_)));simp;calc Rm (vL k n T l H B λz j y=>?_);rw[u]at j;cases z with
 |none=>cases j
 |some p =>
  let⟨v,e⟩:=p;let G:x.2=v:=46
  subst G;calc Rm (zDT c b 52 ?_);let r:=YS (Obj.mapFields (·.setIfInBounds 0 (rawInt (e:Nat)))) c (Obj.isFreed_of_fields (Obj.data_mapFields b _));let g:=Obj.data_mapFields b (·.setIfInBounds 0 (rawInt (e:Nat)));calc Rm (zDT r g 52 ?_);calc Rz ⟨_,rfl,Rz (C _ ⟨_,e,YS _ r (Obj.isFreed_of_fields (Obj.data_mapFields g _)),(Obj.cls_mapFields ..).trans ((Obj.cls_mapFields ..).trans f),?_,y _ rfl⟩ ((zB7 ..).trans (zB7 ..)))⟩;rw[Obj.data_mapFields g];simp[rawInt]
def Pu{o:Obj}{Q:yan->Shared->Prop}(hh:A.handled=none)(f:s.heap.get? a=some o)(h:o.data=.set es ep t)(T:Tab t hs)(g:#[hs]=es.size)
  (p:t.plain=true/\t.led=!w.params.followText "set-order") (st:wB w s.heap I a t es.size ep i) (j:(eW w a es ep)[i]?=none)
  (n:∀h',Heap.ExtBut I s.heap h'->Q none {s with heap:=h'}):wpAny (model prog w) A (pyNext (.ref I)) Q E s:=by
 let⟨q,e,b,k,c,l⟩:=id st;let i:=xt st;let d:t.fits es.size=true:=by rw[<- g];exact T.fits
 calc Rm (zCd (zBa (name:=Str.ofString "__next__") i dE (YY dE i ph ?_ (pN _))));calc Rm (m:=slotArgs "__next__" 0 ⟨[.ref I],[]⟩) (Rz ?_);calc Rm (wpAny_fieldsOf b c ?_);calc Rm (Rm (YX f h d (Rz ?_)));simp;calc Rm (vL f h T g p l λz d r=>?_);rw[j]at d;cases z with
 |some p=>cases d
 |none =>
  calc Rm (zDT b c 52 ?_);calc Rm ?_;calc Rm (m:=firstArgMember _ _) (wpAny_of_eq (a:=Value.none) (by first|rfl|(rfl)) ?_);calc Z9 ?_ (by size_fits);calc Rm (wpAny_handled ?_);rw[show A.in1.handled=none from hh];calc Rm (Rz (wpAny_throw ?_));calc Rm (zCk (T := "StopIteration") (b:=true) ⟨_,Vj _ rfl,rfl⟩ isSubtype_stop ?_);calc Rz (n _ (((zB7 ..).extBut.push _).push _))
def M3{Q:yaa}(st:wB w s.heap I a t n ep i)(h:Q (.ref I) s):wpAny (model prog w) A (pyIter (.ref I)) Q E s:=by let a:=xt st;calc wpAny_pyIter_slot a qI (YY qI a yN ?_ (zF _));calc Rz ⟨_,rfl,"set_iterator", _,a,dE.lookup,h⟩
def HV (hh:A.handled=none) (I a:Addr) (e:a≠I) {o:Obj} (g:o.data=.set es ep t) (T:Tab t hs) (f:#[hs]=es.size) (j:t.plain=true/\t.led=!w.params.followText "set-order") :
  Walks prog w A I [I,a] [I] es.size (λi v=>∃x,(eW w a es ep)[i]?=some x/\x.2=v) (λi h=>wB w h I a t es.size ep i/\h.get? a=some o) where
 sub:=72
 frame:=λ_ _ _ st d=>⟨by let⟨⟨o,b,c,r⟩,_⟩:=st;calc⟨o,b,d I 52 o c,r⟩,46⟩
 item:=λi s Q E k st c=>by
  let b:i<(eW w a es ep).size:=by simp_all [mC]
  refine MZ st.2 g T f j st.1 (zBP b) λd b sb=>?_
  exact c _ d s.toks 46 ⟨b,sb.extBut a o e st.2⟩ λb o a e=>sb.extBut b o 72 e
 done:=λs Q E st c=>Pu hh st.2 g T f j st.1 (by simp_all [mC]) λd sb=>c d s.toks λb o a e=>sb b o 72 e
 self:=λ_ _ _ _ st c=>M3 st.1 c
def Ji {o:Obj} {Q:yaa} (c:s.heap.get? a=some o) (b:o.cls=.type "set") (d:o.data=.set es e t) (T:Tab t hs) (f:#[hs]=es.size) (TF:t.plain=true)
  (g:Q (.ref s.heap.objs.size) {s with heap:=s.heap.push {cls:=.type "set_iterator", data:=.fields #[.int 0 0,.int 0 0,.ref a,.int (es.size:Nat) 0,.int (e:Nat) 0]} }):wpAny (model prog w) A (pyIter (.ref a)) Q E s:=by
 let e:s.TypeIs (.ref a) "set" := ⟨o,c,b⟩;let b:t.fits es.size=true:=by rw[<- f];exact T.fits
 calc wpAny_pyIter_slot e F.slot_set_iter (YY F.slot_set_iter e Al ?_ (F.args_set_iter_1 _));calc Rm (m:=Builtin.Frozenset.slot0 "__iter__" ⟨[.ref a],[]⟩) (Rz ?_);calc Rm (Rm (Rm (YX c d b (Rz (Rz ?_)))));calc Rm (Rm (YX c d b ?_));calc Rm (Rm (wpAny_askSetting (Rz (Rz ?_))));split;rename_i h;let i:(!(w.params.followText "set-order") && (!t.plain && decide (es.size > 1)))=true:=h
 cbv
 calc Rm (Rz ?_);calc Rm (Rm (YX c d b (Rz ?_)));calc Rm (Z9 ?_ (by size_fits));calc Rz ⟨_,rfl,"set_iterator", _,⟨_,Vj _ rfl,rfl⟩,dE.lookup,g⟩
def BH {o:Obj} {Q:yad->Shared->Prop} (hh:A.handled=none) (g:s.heap.get? a=some o) (e:o.cls=.type "set") (m:o.data=.set es j t) (T:Tab t hs) (l:#[hs]=es.size) (p:t.plain=true/\t.led=!w.params.followText "set-order") (B:es.size<=1000)
  (q:∀d (c:yad),(∀b o,s.heap.get? b=some o->d.heap.get? b=some o)->d.gens=s.gens->d.drawn=s.drawn->d.os=s.os->s.heap.objs.size<=d.heap.objs.size->c=(eW w a es j).toList.map (·.2)->Q c d):wpAny (model prog w) A (collect (.ref a)) Q E s:=by
 ext collect;let k:a<s.heap.objs.size:=SJ g;calc Rm (wpAny_runValue (zCO F.entry_proto_collect ?_));calc Rm (Z9 ?_);calc Rz ⟨zDY F.plain_list_iadd _,zCO F.entry_list_iadd ?_⟩;show wpAny _ A.in1 (Builtin.List.listExtendWith (.ref s.heap.objs.size) (.ref a) (.ref s.heap.objs.size)) _ _ _;generalize hH:s.heap.push {cls:=.type "list", data:=.seq ([]:yad).toArray}=H;let u:H.objs.size=s.heap.objs.size+1:=by rw[<- hH,zC4]
 let f:H.get? a=some o:=hH ▸ T6 _ g;let c:Shared.TypeIs {s with heap:=H} (.ref a) "set" := ⟨o,f,e⟩;calc Rm (wpAny_typeOf c ?_);let h:Builtin.List.listSameRef (.ref s.heap.objs.size) (.ref a)=false:=by have:s.heap.objs.size≠a:=Yk k;simp[Builtin.List.listSameRef,this]
 let g:(Value.type "set" == Value.type "list")=false:=29
 let c:(Value.type "set" == Value.type "tuple")=false:=29
 simp only[h,g,c,Bool.or_false,zCT,if_false];calc Rm (Ji f e m T l p.1 ?_);generalize hH2:H.push {cls:=.type "set_iterator", data:=.fields #[.int 0 0,.int 0 0,.ref a,.int (es.size:Nat) 0,.int (j:Nat) 0]}=h;let c:Shared.TypeIs {s with heap:=h} (.ref a) "set" := ⟨o,hH2 ▸ T6 _ f,e⟩;calc Rm (VU ?_);refine Rm (zDF c F.slot_set_len.lookup ?_)
 wp_delta
 calc Rm (zCk (T := "set") (b:=true) c (by rw[isSubtype_type];kernel_rfl) ?_);calc Rm (wpAny_typeOf c ?_);calc Rz ?_;rw[Rr 29];calc Rm (Y1 ?_);calc Rm ?_;let e:h.get? s.heap.objs.size=some {cls:=.type "list", data:=.seq ([]:yad).toArray}:=hH2 ▸ T6 _ (hH ▸ Vj _ rfl);calc Rm (zDG e rfl ?_);let c:=YS (Obj.mapSeq (·.push Value.none)) e rfl;calc zDG (hz:=by seq_fits) c rfl ?_;let g:=YS (Obj.mapSeq (·.pop)) c rfl;let n:∀b o,b≠s.heap.objs.size->h.get? b=some o->((h.update s.heap.objs.size (Obj.mapSeq (·.push Value.none))).update s.heap.objs.size (Obj.mapSeq (·.pop))).get? b=some o :=
  λb o i e=>(Ze _ _ (Ne.symm i)).trans ((Ze _ _ (Ne.symm i)).trans e)
 let r:h.get? H.objs.size=some {cls:=.type "set_iterator", data:=.fields #[.int 0 0,.int 0 0,.ref a,.int (es.size:Nat) 0,.int (j:Nat) 0]}:=hH2 ▸ Vj _ rfl;let h:H.objs.size≠s.heap.objs.size:=35
 let c:a≠H.objs.size:=35
 let j:s.heap.objs.size ∉ [H.objs.size,a]:=72
 let W:=HV (prog:=prog) (w:=w) (A:=A.in1) hh H.objs.size a c m T l p;refine Rz ⟨zDY F.plain_extend_loop _,codeAny_extend_loopS W.toS (by grind [sizeLine_eq]) _ j _ es.size 0 _ _ _ rfl (Uw _)
  ⟨⟨_,0,n _ _ h r,rfl,rfl,λ_=>DV T.rise⟩,n _ _ (Uv k) (hH2 ▸ T6 _ f)⟩ g (ItemsOf.nil _) λd f C g c a=>?_⟩
 calc Rm (wpAny_load c ?_);let h:∀b o,s.heap.get? b=some o->d.heap.get? b=some o:=λb j e=>by let z:=SJ e;calc g.heap b j (λi=>?_) (by grind [Nat.ne_of_lt,Heap.get?_push_of_some]);grind
 calc Rz (q d f.toList h g.gens g.drawn g.os (UD (SJ c)) ?_);let⟨y,x⟩:=a;apply List.ext_getElem?;grind [Array.getElem?_toList,List.getElem?_map,Array.getElem?_eq_getElem,Array.getElem?_eq_none,mC]
end
end SW
namespace SS
open PySem PySem.W PyProof.Rows
section
variable{r:Nat->Nat}{n:Nat}
def v(r:Nat->Nat)(p:yap)(k:Nat):Nat:=r (p.getD k 0)
def D(r:Nat->Nat)(p:yap)(k:Nat):Prop:=∀i j,i<=j->j<k->v r p j<=v r p i
structure Ok(n:Nat)(p:yap):Prop where
 perm:p.Perm (List.toArray (List.range n))
end
end SS
namespace SW
open PySem PySem.SetTable ST PySem.W PyProof.Rows
noncomputable def lexLt:yaf->yaf->Bool
 |_,[]=>false
 |[],_::_=>true
 |a::x,b::y=>if a=b then lexLt x y else decide (a<b)
theorem qj:∀x,lexLt x x=false
 |[]=>rfl
 |a::x=>by ext lexLt;rw[Rr rfl];calc qj x
theorem sI:∀x y z,lexLt x y=true->lexLt y z=true->lexLt x z=true
 |_,[],_,h,_=>by unfold lexLt at h;cases h
 |_,_::_,[],_,h=>by unfold lexLt at h;cases h
 |[],_::_,_::_,_,_=>rfl
 |a::x,b::y,c::z,e,d=>by
  unfold lexLt at e d ⊢;split at e<;>split at d;rename_i g f;rw[Rr (g.trans f)];calc sI x y z e d;rename_i g f;subst g;rw[if_neg f];calc d;rename_i g f;subst f;rw[if_neg g];calc e;let j:a<b:=by simpa using e
  let i:b<c:=by simpa using d
  rw[if_neg (by omega)];simp;omega
theorem lR:∀x y,lexLt x y=false->x=y∨lexLt y x=true
 |[],[],_=>.inl rfl
 |[],_::_,h=>by unfold lexLt at h;lia
 |_::_,[],_=>.inr rfl
 |a::x,b::y,h=>by
  unfold lexLt at h ⊢;split at h;rename_i e
  simp_all [lR]
  lia
theorem zO{a:Type}(p q:a->Bool):∀l:List a,(∀z∈l,p z=true->q z=true)->(∃z∈l,p z=false/\q z=true)->l.countP p<l.countP q
 |[],_,⟨_,h,_⟩=>by cases h
 |x::l,h,⟨z,a,c,b⟩=>by
  rw[List.countP_cons,List.countP_cons];let d:l.countP p<=l.countP q:=List.countP_mono_left 72;obtain y|y:=S8.mp a
  lia
  let ih:=zO p q l 72 ⟨z,y,c,b⟩;grind
def rank(K:List (yaf))(x:yaf):Nat:=K.countP λy=>lexLt y x
def C4{K:List (yaf)}{x y:yaf}(g:x∈K)(f:y∈K):decide (rank K x<rank K y)=lexLt x y:=by
 let c:∀a b,a∈K->lexLt a b=true->rank K a<rank K b:=λa b e h=>zO _ _ K (λz _ d=>sI z a b d h) ⟨a,e,qj a,h⟩
 cases e:lexLt x y with
 |true=>simpa using c x y g e
 |false =>
  obtain z|z:=lR x y e;subst z;simp;have:=c y x f z;simp
  lia
section
variable{prog:Program}{w:World}{A:Around}{E:yaa}{s:Shared}
def OQ{g:Bool}{Q:Bool->Shared->Prop}:∀{k f:yaf} {l d:yad} (i:Nat),PySem.ItemsAre (intKind prog w) k l->PySem.ItemsAre (intKind prog w) f d->g=decide (#[k]<#[f])->Q (lexLt k f) s->KatLex prog w A b g Q (l.zip d) i s:=by
 intro k f l d i h
 induction h generalizing f d i with
 |nil =>
  intro m j q;calc kat_nil ?_;cases m with
  |nil=>rw[j];calc q
  |cons _ _=>rw[j];calc q
 |@cons a u x l p z ih =>
  intro m j q;cases m with
  |nil=>calc kat_nil ?_;rw[j];calc q
  |@cons c r y d o n =>
   let⟨t,rfl⟩:=Value.isInt_shape p;let⟨B,rfl⟩:=Value.isInt_shape o;calc kat_cons (wpAny_eqBool_int ?_);by_cases e:a=c;subst e;rw[show(a==a)=true by simp];calc kat_yes (ih (i+1) n ?_ ?_);rw[j];simp;unfold lexLt at q;rw[Rr rfl]at q;calc q;rw[show(a==c)=false by simp[e]];unfold lexLt at q;rw[if_neg e]at q;calc kat_no ?_;cases(b && i==0)with
   |true=>calc oneLt_int q
   |false=>calc kat_one _ _ (PySem.P.lt_int q)
def FK{Q:Bool->Shared->Prop}(e:(TK prog w).is s.heap k x)(a:(TK prog w).is s.heap k' y)(q:Q (lexLt k k') s):wpAny (model prog w) A (keyLt' (tuples' b) (.ref x) (.ref y)) Q E s:=by
 let⟨o,d,n,g,r,i,f⟩:=e;let⟨m,c,p,l,Yz,j,b⟩:=a;let a:∀{k:yaf} {e:yad},PySem.ItemsAre (intKind prog w) k e->#[k]=#[e]:=λh=>by
  induction h with
  |nil=>rfl
  |cons _ _ ih=>simp[ih]
 calc kat_lt g i l j (OQ 0 f b ?_ q);rw[a f,a b,VM,VM]
theorem Dl:∀{cs:yae} (K:Nat->yaf) (a:Nat),(∀(j:Nat) (c:Addr),cs[j]?=some c->(TK prog w).is s.heap (K (a+j)) c/\K (a+j) ≠ [])->∃e,KatTups s.heap (cs.map Value.ref) e/\#[e]=#[cs]/\∀v∈e,∃n t,v=Value.int n t
 |[],_,_,_=>⟨[],KatTups.nil,rfl,λ_ h=>by cases h⟩
 |c::cs,K,a,h=>by
  let⟨e,t,l,i⟩:=Dl (cs:=cs) K (a+1) λj c b=>by have:=h (j+1) c b;rw[show a+(j+1)=a+1+j by lia]at this;exact this
  let⟨⟨o,d,n,g,k,j,b⟩,f⟩:=h 0 c rfl;rw[Nat.add_zero]at b f;generalize K a=q at b f;generalize hL:d.toList=L at b;cases b with
  |nil=>calc absurd rfl f
  |@cons a u x m c p =>
   let⟨b,rfl⟩:=Value.isInt_shape c;calc⟨.int a b::e,KatTups.cons g k j ?_ t,by simp[l],λv hv=>?_⟩;rw[<- Uz,hL];rfl;obtain z|z:=S8.mp hv;calc⟨a,b,z⟩;calc i v z
def BL{cs:yae}{K:Nat->yaf}{Q:SortKind->Shared->Prop}(TQ:0<#[cs])(h:∀(j:Nat) (c:Addr),cs[j]?=some c->(TK prog w).is s.heap (K j) c/\K j ≠ [])(q:Q (tuples' true) s):wpAny (model prog w) A (keyKind' (cs.map Value.ref).toArray) Q E s:=by
 let⟨e,t,l,b⟩:=Dl (s:=s) (cs:=cs) K 0 λj c a=>by rw[Yl];exact h j c a
 calc kat_kind (T:=.type "int") t 35 (λv hv=>?_) 29 q;let⟨n,d,rfl⟩:=b v hv;calc Looks.of_pure rfl
def AX{a b:Type}{f:a->b}{l m:List b}(h:l.Perm m):∀xs:List a,m=xs.map f->∃zs:List a,zs.Perm xs/\l=zs.map f:=by
 induction h with
 |nil=>cbv
 |cons a _ ih =>
  intro xs e;cases xs with
  |nil=>cases e
  |cons x xs =>
   injection e with e1 e2;let⟨zs,p,q⟩:=ih xs e2;calc⟨x::zs,p.cons x,72⟩
 |swap a b l =>
  intro xs e
  match xs,e with
  |[],e=>cases e
  |[_],e=>simp at e
  |x::y::xs,e =>
   calc⟨y::x::xs,List.Perm.swap x y xs,72⟩
 |trans _ _ b a =>
  intro xs e;let⟨zs,p,q⟩:=a xs e;let⟨a,d,c⟩:=b zs q;calc⟨a,d.trans p,c⟩
end
end SW
namespace TS
open PySem PyProof.Rows
def gal:Bool->Keyed->Array Keyed->Nat->Nat->Nat->StateT SortSt Sem (Option Nat):=sortPriv% PySem.Builtin.gallop
def mLo:Array Keyed->Array Keyed->StateT SortSt Sem (Array Keyed):=sortPriv% PySem.Builtin.mergeLo
def mHi:Array Keyed->Array Keyed->StateT SortSt Sem (Array Keyed):=sortPriv% PySem.Builtin.mergeHi
def Q7:Nat->StateT SortSt Sem Unit:=sortPriv% PySem.Builtin.setMinGallop
structure Ys(M:Model)(A:Around)(E:yaa)(s:Shared)(r:Keyed->Nat)(Mem:Keyed->Prop)(k0:SortKind):Prop where
 lt:∀(x y:Keyed) (st:SortSt) (Q:Option Bool->SortSt->Prop),Mem x->Mem y->kindOf st=k0->Q (some (decide (r x<r y))) st->wpS M A E s (lt' x y) Q st
def QO(B:Nat->Bool)(n:Nat):Prop:=∀i j,i<=j->j<n->B j=true->B i=true
structure Cut(B:Nat->Bool)(n k:Nat):Prop where
 le:k<=n
 lo:∀i,i<k->B i=true
 hi:∀i,k<=i->i<n->B i=false
inductive GV (st:SortSt) (P:Nat->Nat->Prop):Option (Option Nat)×Nat×Nat->SortSt->Prop
 |mk {l u:Nat} (p:P l u):GV st P (none,l,u) st
structure G1(B:Nat->Bool)(n hint:Nat)(D:Nat->Prop)(l u:Nat):Prop where
 a1:hint+l<n
 a2:B (hint+l)=true
 a3:l<u
 a4:D u
structure G2(B:Nat->Bool)(hint:Nat)(D:Nat->Prop)(l u:Nat):Prop where
 a1:l<=hint
 a2:B (hint - l)=false
 a3:l<u
 a4:D u
structure G3(B:Nat->Bool)(n x l u:Nat):Prop where
 a1:u<=n
 a2:∀i,i<l->i<n->B i=true
 a3:∀i,u<=i->i<n->B i=false
 a4:l<=u
 a5:u+x<=n+l
section
variable{M:Model}{A:Around}{E:yaa}{s:Shared}{r:Keyed->Nat}{Mem:Keyed->Prop}{k0:SortKind}
def aF{a b:Type}{c:Prop} [Decidable c] {x y:StateT a Sem b}{Q:b->a->Prop}{st:a}(e:c->wpS M A E s x Q st)(d:¬c->wpS M A E s y Q st):wpS M A E s (if c then x else y) Q st:=35
def eX{a:Array Keyed}{i:Nat}{x:Keyed}{Q:Keyed->SortSt->Prop}{st:SortSt}(h:a[i]?=some x)(q:Q x st):wpS M A E s (elem' a i) Q st:=by rw[elem'_eq,h];calc So q
def wpS_ltAt{st:SortSt}{i j:Nat}{x y:Keyed}{Q:Option Bool->SortSt->Prop}(C:Ys M A E s r Mem k0)(c:kindOf st=k0)(e:(arrOf st)[i]?=some x)(d:(arrOf st)[j]?=some y)(b:Mem x)(a:Mem y)
  (h:Q (some (decide (r x<r y))) st):wpS M A E s (ltAt' i j) Q st:=by
 calc Sk (wpS_get ?_);calc Sk (eX e (Sk (eX d (C.lt x y st Q b a c h))))
def bey(r:Keyed->Nat)(left:Bool)(a x:Keyed):Bool:=if left=true then decide (r x<r a)else !decide (r a<r x)
def Gd{a:Array Keyed}{base n hint:Nat}{st:SortSt}{B:Nat->Bool}{Q:Option Nat->SortSt->Prop}(C:Ys M A E s r Mem k0)(f:kindOf st=k0)(hh:hint<n)(d:Mem key)
  (g:∀i,i<n->∃x,a[base+i]?=some x/\Mem x/\bey r left key x=B i) (b:QO B n) (h:∀k,Cut B n k->Q (some k) st):wpS M A E s (gal left key a base n hint) Q st:=by
 let j:∀(i:Nat) (R:Option Bool->SortSt->Prop),i<n->R (some (B i)) st->wpS M A E s (do
   let x←elem' a (base+i)
   if left=true then lt' x key else do
    let z←lt' key x
    pure (Option.map (λx=>!x) z)) R st:=λi R a q=>by
  let⟨x,w,c,e⟩:=g i a;calc Sk (eX w ?_);unfold bey at e;cases left with
  |true =>
   rw[Rr rfl]at e ⊢;calc C.lt x key st R c d f (by rw[e];calc q)
  |false =>
   rw[if_neg 52]at e ⊢;exact Sk (C.lt key x st _ d c f (So (by rw[<- e]at q;calc q)))
 refine Sk (j hint _ hh ?_)
 suffices key:∀lo a:Nat,G3 B n 0 lo a->wpS M A E s _ Q st by
  cases hb:B hint;calc Sk (Xs (Xq (I:=λx=>GV st (G2 B hint (x<·))) (Q:=GV st (G2 B hint λu=>hint<u∨(u<=hint/\B (hint - u)=true))) ?_ ?_ ⟨Uw _,hb,Nat.one_pos,Nat.one_pos⟩) ?_);rintro x z e _ w @⟨l,u,g⟩;dsimp only;refine aF (λc=>So ⟨g.a1,g.a2,g.a3,.inl c⟩) λc=>?_
  let c:=zCh c;calc Sk (j (hint - u) _ (Xf (Xr _ _) hh) ?_);dsimp only;cases hc:B (hint - u)with
  |true =>
   rw[Rr rfl];calc So ⟨g.a1,g.a2,g.a3,.inr ⟨c,hc⟩⟩
  |false =>
   rw[if_neg 52];have:=g.a4;exact So ⟨c,hc,35,35⟩
  rintro z e ⟨g⟩;calc⟨g.a1,g.a2,g.a3,.inl (by have:=g.a4;lia)⟩;rintro z e @⟨l,u,g⟩;dsimp only;let k:G3 B n 0 (hint+1 - min u (hint+1)) (hint - l):=by
   let⟨o,q,p,t⟩:=g;let m:=Sd (Xr hint l) (UD hh);let F:∀i,hint - l<=i->i<n->B i=false:=λi a f=>by
    cases hc:B i with
    |false=>rfl
    |true=>rw[b _ i a f hc]at q;cases q
   obtain c|⟨c,d⟩:=t;rw[Nat.min_eq_right c,zDS];calc⟨m,λ_ a=>absurd a (zDf _),F,Uw _,Sd m (VT _ _)⟩;rw[Yi (Nat.le_succ_of_le c),Nat.succ_sub c];exact⟨m,λi a f=>b i _ (Yw a) (Xf (Xr _ _) hh) d,F,Nat.sub_lt_sub_left (Tp p c) p,Sd m (VT _ _)⟩
  generalize hint+1 - min u (hint+1)=lo at k ⊢;generalize hint - l=a at k ⊢;calc key lo a k;calc Sk (Xs (Xq (I:=λx=>GV st (G1 B n hint (x<·))) (Q:=GV st (G1 B n hint λu=>n - hint<=u∨(hint+u<n/\B (hint+u)=false))) ?_ ?_ ⟨hh,hb,Nat.one_pos,Nat.one_pos⟩) ?_);rintro x z e _ w @⟨l,u,g⟩;dsimp only;refine aF (λc=>So ⟨g.a1,g.a2,g.a3,.inl c⟩) λc=>?_
  let c:hint+u<n:=35
  calc Sk (j (hint+u) _ c ?_);dsimp only;cases hc:B (hint+u)with
  |false =>
   rw[Rr (by rfl)];calc So ⟨g.a1,g.a2,g.a3,.inr ⟨c,hc⟩⟩
  |true =>
   rw[if_neg 52];have:=g.a4;exact So ⟨c,hc,35,35⟩
  rintro z e ⟨g⟩;calc⟨g.a1,g.a2,g.a3,.inl (by have:=g.a4;lia)⟩;rintro z e @⟨l,u,g⟩;dsimp only;let k:G3 B n 0 (hint+l+1) (hint+min u (n - hint)):=by
   let⟨o,q,p,t⟩:=g;let T:∀i,i<hint+l+1->i<n->B i=true:=λi a _=>b i (hint+l) (Yw a) o q
   obtain c|⟨c,d⟩:=t;rw[Nat.min_eq_right c,Nat.add_sub_of_le (UD hh)];calc⟨Sx _,T,λi a f=>absurd f (Xh.mpr a),o,VT _ _⟩;rw[Yi (Nat.le_sub_of_add_le' (UD c))];calc⟨UD c,T,λi a f=>?_,Nat.add_lt_add_left p hint,Sd (UD c) (VT _ _)⟩;cases hc:B i with
   |false=>rfl
   |true=>rw[b _ i a f hc]at d;cases d
  generalize hint+l+1=lo at k ⊢;generalize hint+min u (n - hint)=a at k ⊢;exact key lo a k
 intro lo a g;calc Sk (Xs (Xq (I:=λx=>GV st (G3 B n x)) (Q:=GV st λ_ u=>Cut B n u) ?_ ?_ ⟨g⟩) ?_);rintro x z e _ w @⟨l,u,g⟩;dsimp only;refine aF (λc=>So ⟨g.a1,λi a=>g.a2 i (Tp a c) (Tp a g.a1),g.a3⟩) λc=>?_
 let⟨o,q,p,t,k⟩:=g;let c:=zDW c;let d:=Nat.add_lt_of_lt_sub' (Nat.div_lt_self (zDO c) (29:1<2));let g:l<=l+(u - l) / 2:=VT _ _;generalize l+(u - l) / 2=m at d g ⊢;let f:=Tp d o;calc Sk (j m _ f ?_);dsimp only;cases hb:B m with
 |true =>
  rw[Rr rfl];calc So ⟨o,λi a _=>b i m (Yw a) f hb,p,d,35⟩
 |false =>
  rw[if_neg 52];calc So ⟨UD f,q,λi a f=>?_,g,35⟩;cases hc:B i with
  |false=>rfl
  |true=>rw[b _ i a f hc]at hb;cases hb
 rintro z e ⟨o,q,p,t,k⟩;have:_<=_:=Nat.le_of_add_le_add_left (Sd (XJ (zC6 _ _)) (Nat.zero_max n ▸ k));calc⟨o,λi a=>q i (Tp a this) (Tp a o),p⟩;rintro z e ⟨c⟩;calc So (h _ c)
def P4(h:bey r left key x=true):r x<=r key:=by
 unfold bey at h;cases left with
 |true=>calc UD (Wh h)
 |false =>
  refine zCh λe=>?_
  rw[U6 e]at h;cases h
def PY(h:bey r left key x=false):r key<=r x:=by
 unfold bey at h;cases left with
 |true=>calc zCh (of_decide_eq_false h)
 |false =>
  calc UD (zDW λe=>?_);rw[decide_eq_false (Xh.mpr e)]at h;cases h
def iu{a:Array Keyed}{base n hint:Nat}{st:SortSt}{Q:Option Nat->SortSt->Prop}(C:Ys M A E s r Mem k0)(e:kindOf st=k0)(hh:hint<n)(c:Mem key){g:List Keyed}
  (q:#[g]=n) (o:∀i,i<n->a[base+i]?=g[i]?) (f:∀x∈g,Mem x) (hs:g.Pairwise λx y=>r x<=r y)
  (h:∀k,k<=n->(∀x∈g.take k,r x<=r key)->(∀x∈g.drop k,r key<=r x)->Q (some k) st):wpS M A E s (gal left key a base n hint) Q st:=by
 let d:∀i,i<n->∃x,g[i]?=some x/\x∈g:=λi b=>⟨g[i]'(by omega),T5 (by omega),XW _⟩
 refine Gd (B:=λi=>match g[i]? with|some x=>bey r left key x|none=>false) C e hh c (λi b=>?_) (λi j U3 l a=>?_) λk c=>h k c.le (λx g=>P4 (left:=left) ?_) λx g=>PY (left:=left) ?_
 let⟨x,e,m⟩:=d i b;calc⟨x,by rw[o i b];calc e,f x m,by rw[e]⟩;dsimp only at a ⊢;let⟨x,e,_⟩:=d i (by omega);let⟨y,f,_⟩:=d j l;rw[e];rw[f]at a;dsimp only at a ⊢;by_cases c:i=j;subst c;rw[e]at f;cases f;calc a;let p:r x<=r y:=by let⟨d,rfl⟩:=VE.mp e;let⟨h,rfl⟩:=VE.mp f;exact Zd.mp hs i j d h (by omega)
 unfold bey at a ⊢;cases left with
 |true =>
  rw[Rr rfl]at a ⊢;have:=Wh a;calc U6 (by omega)
 |false =>
  rw[if_neg 52]at a ⊢;have:¬r key<r y:=by simpa using a
  simp;omega
 let⟨i,b,e⟩:=List.mem_take_iff_getElem.mp g;have:=c.lo i (by omega);rw[T5 (by omega)]at this;rw[<- e];calc this;let⟨i,b⟩:=List.mem_iff_getElem?.mp g;rw[zCn]at b;let⟨d,_⟩:=VE.mp b;have:=c.hi (k+i) (by omega) (by omega);rw[b]at this;calc this
end
structure MI(R:Keyed->Keyed->Prop)(T o a b:List Keyed):Prop where
 p:(o++(a++b)).Perm T
 so:o.Pairwise R
 sa:a.Pairwise R
 sb:b.Pairwise R
 oa:∀x∈o,∀y∈a,R x y
 ob:∀x∈o,∀y∈b,R x y
section
variable{R:Keyed->Keyed->Prop}{T o a b:List Keyed}
def MI.left{a1 c:List Keyed}(h:MI R T o (a1++c) b)(q:∀x∈a1,∀y∈b,R x y):MI R T (o++a1) c b where
 p:=by have:=h.p;grind
 so:=YT.mpr ⟨h.so,(YT.mp h.sa).1,λx e y d=>h.oa x e y 46⟩
 sa:=(YT.mp h.sa).2.1
 sb:=h.sb
 oa:=λx e y d=>by
  obtain c|c:=S7.mp e;calc h.oa x c y 46;exact(YT.mp h.sa).2.2 x c y d
 ob:=λx e y d=>by
  obtain c|c:=S7.mp e;calc h.ob x c y d;calc q x c y d
def MI.swap(h:MI R T o a b):MI R T o b a:=⟨(List.Perm.append_left _ List.perm_append_comm).trans h.p,h.so,h.sb,h.sa,h.ob,h.oa⟩
def MI.right{b1 c:List Keyed}(h:MI R T o a (b1++c))(q:∀y∈b1,∀x∈a,R y x):MI R T (o++b1) a c:=(h.swap.left q).swap
def MI.last(h:MI R T o a b)(q:∀y∈b,∀x∈a,R y x):(o++b++a).Pairwise R/\(o++b++a).Perm T:=by
 let c:MI R T o a (b++[]):=46
 let m:=c.right q;calc⟨YT.mpr ⟨m.so,m.sa,m.oa⟩,?_⟩;have:=m.p
 cbv
def MI.done(h:MI R T o a b)(q:a=[]∨b=[]):(o++a++b).Pairwise R/\(o++a++b).Perm T:=h.swap.last λx d y c=>72
def MI.start(h:a.Pairwise R)(h':b.Pairwise R):MI R (a++b) [] a b:=⟨List.Perm.refl _,.nil,h,h',λ_ z=>(by cases z),λ_ z=>(by cases z)⟩
end
structure fG(st st':SortSt):Prop where
 k:kindOf st'=kindOf st
 a:arrOf st'=arrOf st
 p:pendingOf st'=pendingOf st
 f:failedOf st'=failedOf st
theorem fG.refl(st:SortSt):fG st st:=⟨rfl,rfl,rfl,rfl⟩
section
variable{M:Model}{A:Around}{E:yaa}{s:Shared}
def o8{st a:SortSt}{Q:Unit->SortSt->Prop}(h:fG a st)(q:∀b,fG a b->Q () b):wpS M A E s (Q7 g) Q st:=by calc zC3 (q _ ⟨h.k,h.a,h.p,h.f⟩)
end
section
variable{M:Model}{A:Around}{E:yaa}{s:Shared}{r:Keyed->Nat}{Mem:Keyed->Prop}{k0:SortKind}
inductive DG (l:List Keyed) (i:Nat) (t:Keyed->Prop):Prop
 |mk (x:Keyed) (h:l[i]?=some x) (e:t x) (m:x∈l)
def eN{l:List Keyed}{i:Nat}(h:i<#[l]):DG l i λx=>l.drop i=x::l.drop (i+1):=⟨l[i],T5 h,zBf h,XW h⟩
def mJ{l:List Keyed}{x:Keyed}(hs:(l.drop i).Pairwise λx y=>r x<=r y)(e:l.drop i=x::l.drop (i+1)):∀y∈l.drop i,r x<=r y:=46
section
variable{R:Keyed->Keyed->Prop}{T X:List Keyed}{a o:Array Keyed}{i:Nat}
def MI.pA{w:Keyed}(h:MI R T o.toList (a.toList.drop i) X)(e:a.toList.drop i=w::a.toList.drop (i+1))(q:∀y∈X,R w y):MI R T (o.push w).toList (a.toList.drop (i+1)) X:=by rw[e]at h;rw[zCc];calc h.left (a1:=[w]) λz b x c=>46
def MI.pB{w:Keyed}(h:MI R T o.toList X (a.toList.drop i))(e:a.toList.drop i=w::a.toList.drop (i+1))(q:∀y∈X,R w y):MI R T (o.push w).toList X (a.toList.drop (i+1)):=(h.swap.pA e q).swap
def MI.eA(h:MI R T o.toList (a.toList.drop i) X)(k:Nat)(q:∀x∈(a.toList.drop i).take k,∀y∈X,R x y):MI R T (o++a.extract i (i+k)).toList (a.toList.drop (i+k)) X:=by
 let e:a.toList.drop i=(a.toList.drop i).take k++a.toList.drop (i+k):=by rw[<- zDk,XH]
 let t:(a.extract i (i+k)).toList=(a.toList.drop i).take k:=by rw[Z6,zCW,zBl]
 rw[zB6,t];rw[e]at h;calc h.left q
def MI.eB(h:MI R T o.toList X (a.toList.drop i))(k:Nat)(q:∀x∈(a.toList.drop i).take k,∀y∈X,R x y):MI R T (o++a.extract i (i+k)).toList X (a.toList.drop (i+k)):=(h.swap.eA k q).swap
end
structure Mid(r:Keyed->Nat)(a b:Array Keyed)(o:Array Keyed)(i j:Nat):Prop where
 m:MI (λx y=>r x<=r y) (a.toList++b.toList) o.toList (a.toList.drop i) (b.toList.drop j)
 hi:i+1<a.size
 hj:j<b.size
def Mid.sz(h:Mid r a b o i j):i+j<a.size+b.size:=Nat.add_lt_add (Yf h.hi) h.hj
inductive VL {γ:Type} (st:SortSt) (M:Array Keyed->Nat->Nat->Prop) (P:Nat->Nat->Prop):Option (Array Keyed)×Array Keyed×Nat×Nat×γ->SortSt->Prop
 |mk {o:Array Keyed} {i j:Nat} {g:γ} {st':SortSt} (L:fG st st') (m:M o i j) (p:P i j):VL st M P (none,o,i,j,g) st'
inductive VW {β:Type} (st:SortSt) (R:Array Keyed->Prop):Option (Array Keyed)×β->SortSt->Prop
 |mk {w:Array Keyed} {q:β} {st':SortSt} (L:fG st st') (h:R w):VW st R (some w,q) st'
def Res(r:Keyed->Nat)(T:List Keyed)(z:Array Keyed):Prop:=z.toList.Pairwise (λx y=>r x<=r y)/\z.toList.Perm T
def zj{a b:Type}{x:StateT a Sem b}{Q:b->a->Prop}{st:a}(h:∀K:b->a->Prop,(∀z u,Q z u->K z u)->wpS M A E s x K st):wpS M A E s x Q st:=h Q λ_ _ q=>q
def HY{c:Type}{a b:Array Keyed}{i j:Nat}{x y:Keyed}{f:Option Bool->StateT SortSt Sem c}{Q:c->SortSt->Prop}{st:SortSt}(C:Ys M A E s r Mem k0)(g:kindOf st=k0)(h:a[i]?=some x)(k:b[j]?=some y)(e:Mem x)(d:Mem y)(q:wpS M A E s (f (some (decide (r x<r y)))) Q st):wpS M A E s (elem' a i >>= λx=>elem' b j >>= λy=>lt' x y >>= f) Q st:=Sk (eX h (Sk (eX k (Sk (C.lt _ _ _ _ e d g q)))))
def cS{b:Type}{a:Array Keyed}{i:Nat}{x:Keyed}{f:Keyed->StateT SortSt Sem b}{Q:b->SortSt->Prop}{st:SortSt}(h:a[i]?=some x)(q:wpS M A E s (f x) Q st):wpS M A E s (elem' a i >>= f) Q st:=Sk (eX h q)
def Ju{a b:Array Keyed}{st:SortSt}{Q:Array Keyed->SortSt->Prop}(C:Ys M A E s r Mem k0)(hk:kindOf st=k0)(ma:∀x∈a.toList,Mem x)(mb:∀x∈b.toList,Mem x)(sa:a.toList.Pairwise λx y=>r x<=r y)(sb:b.toList.Pairwise λx y=>r x<=r y)
  (a0:0<a.size) (k:0<b.size) (u:∀x,a.toList.drop (a.size - 1)=[x]->∀y∈b.toList,r y<=r x) (w:∀y,b[0]?=some y->∀x∈a.toList,r y<=r x)
  (h:∀z p,Res r (a.toList++b.toList) z->fG st p->Q z p):wpS M A E s (mLo a b) Q st:=by
 let la:#[a.toList]=a.size:=rfl;let lb:#[b.toList]=b.size:=rfl;obtain⟨d,n⟩:∃f,f=λ(o:Array Keyed) (i j:Nat)=>o++a.extract i a.size++b.extract j b.size:=⟨_,rfl⟩
 obtain⟨c,g⟩:∃f,f=λ(o:Array Keyed) (i j:Nat)=>o++b.extract j b.size++a.extract i a.size:=⟨_,rfl⟩
 let B:∀(o:Array Keyed) (i j:Nat),MI (λx y=>r x<=r y) (a.toList++b.toList) o.toList (a.toList.drop i) (b.toList.drop j)->(a.size<=i∨b.size<=j)->Res r (a.toList++b.toList) (d o i j):=λo i j m q=>by subst n;have:=m.done (q.imp (λq=>List.drop_eq_nil_of_le 35) λq=>List.drop_eq_nil_of_le 35);ext Res;dsimp only;rw[zB6,zB6,Z6,Z6,zCW,zCW,XG (by rw[Xg];lia),XG (by rw[Xg];lia)];exact this
 let J:∀(o:Array Keyed) (i j:Nat),MI (λx y=>r x<=r y) (a.toList++b.toList) o.toList (a.toList.drop i) (b.toList.drop j)->i+1=a.size->Res r (a.toList++b.toList) (c o i j):=λo i j m q=>by
  subst g;let⟨x,_,e,_⟩:=eN (l:=a.toList) (i:=i) 35;rw[show a.toList.drop (i+1)=[]from List.drop_eq_nil_of_le 35]at e;have:=m.last λy t z G=>by rw[e,Vp]at G;rw[G];exact u x (by rw[show a.size - 1=i by rw[<- q];rfl];calc e) y (zB2 t)
  ext Res;dsimp only;rw[zB6,zB6,Z6,Z6,zCW,zCW,XG (by rw[Xg];lia),XG (by rw[Xg];lia)];exact this
 let⟨d,f,c,my0⟩:=eN (l:=b.toList) (i:=0) k;let q:b[0]?=some d:=by rw[<- Uz];exact f
 let k:MI (λx y=>r x<=r y) (a.toList++b.toList) (#[d,]:Array Keyed).toList (a.toList.drop 0) (b.toList.drop 1):=by
  let m:=MI.start sa sb;rw[show b.toList=[d]++b.toList.drop 1 from c]at m;have:=m.right λy t x f=>by rw[Vp.mp t];exact w d q x f
  rw[<- show b.toList=[d]++b.toList.drop 1 from c]at this;exact this
 calc Sk (wpS_lift (Y1 ⟨rfl,?_⟩));calc cS q ?_;rw[<- n,<- g];refine aF (λc=>So (h _ _ (B _ 0 1 k (.inr (by have:=beq_iff_eq.mp c;lia))) (fG.refl _))) λg=>?_
 refine aF (λc=>So (h _ _ (J _ 0 1 k (beq_iff_eq.mp c)) (fG.refl _))) λq=>?_
 let c1':1≠b.size:=λe=>g (beq_iff_eq.mpr e)
 let Y:0+1≠a.size:=λe=>q (beq_iff_eq.mpr e)
 let g:Mid r a b #[d,] 0 1:=⟨k,35,35⟩;calc Sk (wpS_get ?_);refine Sk (Xs (Xq (I:=λx=>VL st (Mid r a b) λi j=>x<=i+j) (Q:=VW st (Res r (a.toList++b.toList))) ?_ ?_ ⟨fG.refl _,g,35⟩) ?_)
 ·rintro x z YM _ f @⟨o,i,j,g,_,u,d,O⟩;calc Sk (Xs (Xq (I:=λx=>VL st (Mid r a b) λn k=>i+j+x<=n+k) (Q:=λz p=>VW st (Res r (a.toList++b.toList)) z p∨VL st (Mid r a b) (λn k=>i+j+1<=n+k) z p) ?_ ?_ ⟨u,d,Sx _⟩) ?_);clear d O f;rintro x z Sn _ f @⟨o,n,k,u,_,L2,d,O⟩;dsimp only;refine zj λK j=>?_
  let⟨y,t,ey,my⟩:=eN (l:=b.toList) (i:=k) d.hj;let⟨w,N,ew,mw⟩:=eN (l:=a.toList) (i:=n) (Yf d.hi);rw[Uz]at t N;calc HY C (L2.k.trans hk) t N (mb y my) (ma w mw) ?_;let hb:=mJ d.m.sb ey;let L:=mJ d.m.sa ew;refine aF (λc=>?_) λc=>?_
  let U:=Wh c;calc cS t ?_;let T:MI (λx y=>r x<=r y) (a.toList++b.toList) (o.push y).toList (a.toList.drop n) (b.toList.drop (k+1)):=by let m:=d.m;rw[ey]at m;rw[zCc];exact m.right (b1:=[y]) λz G x f=>by rw[Vp.mp G];exact Sd (UD U) (L x f)
  refine aF (λq=>So (j _ _ (.inl ⟨L2,B _ _ _ T (.inr (by have:=beq_iff_eq.mp q;lia))⟩))) λq=>?_
  let Y:k+1≠b.size:=λe=>q (beq_iff_eq.mpr e)
  let H:Mid r a b (o.push y) n (k+1):=⟨T,d.hi,YV d.hj Y⟩;exact aF (λ_=>So (j _ _ (.inr ⟨L2,H,35⟩))) λ_=>So (j _ _ ⟨L2,H,35⟩)
  let U:¬r y<r w:=λe=>c (U6 e)
  calc cS N ?_;let T:MI (λx y=>r x<=r y) (a.toList++b.toList) (o.push w).toList (a.toList.drop (n+1)) (b.toList.drop k):=by let m:=d.m;rw[ew]at m;rw[zCc];exact m.left (a1:=[w]) λz G x f=>by rw[Vp.mp G];exact Sd (Xh.mp U) (hb x f)
  refine aF (λq=>So (j _ _ (.inl ⟨L2,J _ _ _ T (beq_iff_eq.mp q)⟩))) λq=>?_
  let Y:n+1+1≠a.size:=λe=>q (beq_iff_eq.mpr e)
  let H:Mid r a b (o.push w) (n+1) k:=⟨T,YV d.hi Y,d.hj⟩;exact aF (λ_=>So (j _ _ (.inr ⟨L2,H,35⟩))) λ_=>So (j _ _ ⟨L2,H,35⟩)
  rintro z Sn ⟨L2,d,O⟩;exact absurd (Tp d.sz (Sd (Nat.le_max_right 0 _) (Sd (Nat.le_add_left _ _) O))) (Zm _)
  ·rintro z Sn (⟨L2,hr⟩| @⟨o',n,k,u,_,L2,H,hp'⟩);exact So ⟨L2,hr⟩
   ·calc Sk (wpS_lift (Y1 ⟨rfl,?_⟩));refine Sk (Xs (Xq (I:=λx=>VL st (Mid r a b) λq m=>n+k+x<=q+m) (Q:=λz p=>VW st (Res r (a.toList++b.toList)) z p∨VL st (Mid r a b) (λq m=>n+k<=q+m) z p) ?_ ?_ ⟨L2,H,Sx _⟩) ?_)
    ·clear H hp';rintro x z WA _ hx3 @⟨o,I,m,k,_,T,d,hp2⟩;dsimp only;refine zj λK j=>?_
     let⟨y,t,ey,my⟩:=eN (l:=b.toList) (i:=m) d.hj;rw[Uz]at t;let hb:=mJ d.m.sb ey;let ZX:=d.hi;let ZY:=d.hj
     suffices key:∀g3:Nat,wpS M A E s _ _ WA by
      refine aF (λ_=>?_) λ_=>?_
      rotate_left
      generalize k.1=g3;calc key g3;exact key _
     intro g3;refine Sk (o8 T λVt q=>?_)
     suffices key:∀(c u:Nat) (o3:Array Keyed),MI (λx y=>r x<=r y) (a.toList++b.toList) o3.toList (a.toList.drop u) (b.toList.drop m)->u+1<a.size->I<=u->(∀x∈a.toList.drop u,r y<=r x)->wpS M A E s _ K Vt by
      calc cS t (Sk (iu C (q.k.trans hk) (zDO (Yf ZX)) (mb y my) (g:=a.toList.drop I) (by rw[Xg];rfl) (λn hn=>by rw[zCn,Uz]) (λx f=>ma x (zB2 f)) d.m.sa λk i lo Y=>?_));rw[zDk]at Y;refine aF (λck=>?_) λck=>?_
      let Q:=d.m.eA k λx f z G=>Sd (lo x f) (hb z G)
      refine aF (λc3=>So (j _ _ (.inl ⟨q,J _ _ _ Q (beq_iff_eq.mp c3)⟩))) λc3=>?_
      refine aF (λc4=>So (j _ _ (.inl ⟨q,B _ _ _ Q (.inl (XJ (beq_iff_eq.mp c4).symm))⟩))) λc4=>?_
      let h3:I+k+1<a.size:=YV (YV (zDR (UD (Yf ZX)) i) λe=>c4 (beq_iff_eq.mpr e)) λe=>c3 (beq_iff_eq.mpr e)
      let i:=VT I k;generalize o++a.extract I (I+k)=o3 at Q ⊢;generalize I+k=u at Q h3 i Y ⊢;calc key k u o3 Q h3 i Y;let k:=zDI ck;exact key _ _ _ d.m ZX (Sx _) (by rw[k]at Y;calc Y)
     intro c u o3 Q h3 i o;calc cS t ?_;let t:=Q.pB ey o;refine aF (λc=>So (j _ _ (.inl ⟨q,B _ _ _ t (.inr (XJ (beq_iff_eq.mp c).symm))⟩))) λc=>?_
     let U:m+1≠b.size:=λe=>c (beq_iff_eq.mpr e)
     let⟨w,N,ew,mw⟩:=eN (l:=a.toList) (Yf h3);rw[Uz]at N
     suffices key:∀(c l:Nat) (I:Array Keyed),MI (λx y=>r x<=r y) (a.toList++b.toList) I.toList (a.toList.drop u) (b.toList.drop l)->l<b.size->m<l->(∀x∈b.toList.drop l,r w<=r x)->wpS M A E s _ K Vt by
      calc cS N (Sk (iu C (q.k.trans hk) (zDO (YV ZY U)) (ma w mw) (g:=b.toList.drop (m+1)) (by rw[Xg];rfl) (λn hn=>by rw[zCn,Uz]) (λx f=>mb x (zB2 f)) t.sb λg C w n=>?_));let L:=mJ t.sa ew;rw[zDk]at n;refine aF (λu=>?_) λu=>?_
      let o:=t.eB g λx f z G=>Sd (w x f) (L z G)
      refine aF (λw=>So (j _ _ (.inl ⟨q,B _ _ _ o (.inr (XJ (beq_iff_eq.mp w).symm))⟩))) λw=>?_
      let f:m+1+g<b.size:=YV (zDR ZY C) λe=>w (beq_iff_eq.mpr e)
      let i:m<m+1+g:=VT (m+1) g;generalize o3.push y++b.extract (m+1) (m+1+g)=I at o ⊢;generalize m+1+g=l at o f i n ⊢;calc key g l I o f i n;let k:=zDI u;exact key _ _ _ t (YV ZY U) (zCS _) (by rw[k]at n;calc n)
     intro c l I o f hj4 n;calc cS N ?_;let i:=o.pA ew n;refine aF (λg=>So (j _ _ (.inl ⟨q,J _ _ _ i (beq_iff_eq.mp g)⟩))) λg=>?_
     let c:Mid r a b _ _ _:=⟨i,YV h3 λe=>g (beq_iff_eq.mpr e),f⟩;exact aF (λ_=>So (j _ _ (.inr ⟨q,c,35⟩))) λ_=>So (j _ _ ⟨q,c,35⟩)
    rintro z WA ⟨T,d,O⟩;calc .inr ⟨T,d,35⟩;rintro z WA (⟨T,hr⟩| ⟨T,H,hp'⟩);calc So ⟨T,hr⟩;exact Sk (o8 T λVt q=>So ⟨q,H,35⟩)
 rintro z p ⟨L,d,O⟩;calc absurd (Tp d.sz (Sd (Nat.le_max_right 0 _) O)) (Zm _);rintro z p ⟨L,hr⟩;calc So (h _ _ hr L)
def iU{l:List Keyed}{n:Nat}(h0:0<n)(h:n<=#[l]):DG l (n - 1) λx=>(l.take n).reverse=x::(l.take (n - 1)).reverse:=by let⟨m,rfl⟩:=Nat.exists_eq_add_of_le' h0;calc⟨l[m]' 35,T5 35,?_,XW _⟩;rw[List.take_succ_eq_append_getElem 35,zC9];rfl
def mI{l:List Keyed}{x:Keyed}(hs:((l.take n).reverse).Pairwise λx y=>r y<=r x)(e:(l.take n).reverse=x::(l.take (n - 1)).reverse):∀y∈(l.take n).reverse,r y<=r x:=46
def Fb{l:List Keyed}(h:l.reverse.Pairwise λx y=>r y<=r x):l.Pairwise λx y=>r x<=r y:=72
def wL{l:List Keyed}(h:l.Pairwise λx y=>r x<=r y):l.reverse.Pairwise λx y=>r y<=r x:=72
section
variable{R:Keyed->Keyed->Prop}{T X:List Keyed}{a o:Array Keyed}{n:Nat}
def MI.qA{w:Keyed}(h:MI R T o.toList (a.toList.take n).reverse X)(e:(a.toList.take n).reverse=w::(a.toList.take (n - 1)).reverse)(q:∀y∈X,R w y):MI R T (o.push w).toList (a.toList.take (n - 1)).reverse X:=by rw[e]at h;rw[zCc];calc h.left (a1:=[w]) λz b x c=>46
def MI.qB{w:Keyed}(h:MI R T o.toList X (a.toList.take n).reverse)(e:(a.toList.take n).reverse=w::(a.toList.take (n - 1)).reverse)(q:∀y∈X,R w y):MI R T (o.push w).toList X (a.toList.take (n - 1)).reverse:=(h.swap.qA e q).swap
def MI.fA(h:MI R T o.toList (a.toList.take n).reverse X){k:Nat}(c:k<=n)(q:∀x∈(a.toList.take n).drop k,∀y∈X,R x y):MI R T (o++(a.extract k n).reverse).toList (a.toList.take k).reverse X:=by
 let e:(a.toList.take n).reverse=((a.toList.take n).drop k).reverse++(a.toList.take k).reverse:=by grind [List.reverse_append,List.take_append_drop,List.take_take,Nat.min_eq_left]
 let t:(a.extract k n).reverse.toList=((a.toList.take n).drop k).reverse:=by rw[Array.toList_reverse,Z6,List.extract_eq_drop_take,List.drop_take]
 rw[zB6,t];rw[e]at h;calc h.left λx b=>q x 72
def MI.fB(h:MI R T o.toList X (a.toList.take n).reverse){k:Nat}(b:k<=n)(q:∀x∈(a.toList.take n).drop k,∀y∈X,R x y):MI R T (o++(a.extract k n).reverse).toList X (a.toList.take k).reverse:=(h.swap.fA b q).swap
end
structure Mir(r:Keyed->Nat)(a b:Array Keyed)(o:Array Keyed)(i j:Nat):Prop where
 m:MI (λx y=>r y<=r x) (a.toList++b.toList) o.toList (a.toList.take i).reverse (b.toList.take j).reverse
 h0:0<i
 hi:i<=a.size
 h1:1<j
 hj:j<=b.size
def D7{x i j t:Nat}(h0:0<i)(h:x+i+j<=t):x+1+(i - 1)+j<=t:=by rw[zCw x,Nat.add_sub_cancel' h0];calc h
def N6{x i j t:Nat}(h0:0<j)(h:x+i+j<=t):x+1+i+(j - 1)<=t:=by rw[zDi x 1 i,zCw (x+i),Nat.add_sub_cancel' h0];calc h
def dw{x i j t:Nat}(h:x+i+j<=t):0+i+j<=t:=Sd (zCZ (zCZ (Uw x) _) _) h
inductive VR {γ:Type} (st:SortSt) (M:Array Keyed->Nat->Nat->Prop) (P:Nat->Nat->Prop):Option (Array Keyed)×Nat×Nat×Array Keyed×γ->SortSt->Prop
 |mk {o:Array Keyed} {i j:Nat} {g:γ} {st':SortSt} (L:fG st st') (m:M o i j) (p:P i j):VR st M P (none,i,j,o,g) st'
def Jt{a b:Array Keyed}{st:SortSt}{Q:Array Keyed->SortSt->Prop}(C:Ys M A E s r Mem k0)(hk:kindOf st=k0)(ma:∀x∈a.toList,Mem x)(mb:∀x∈b.toList,Mem x)(sa:a.toList.Pairwise λx y=>r x<=r y)(sb:b.toList.Pairwise λx y=>r x<=r y)
  (a0:0<a.size) (w:0<b.size) (J:∀x,a[a.size - 1]?=some x->∀y∈b.toList,r y<=r x) (L:∀y,b.toList.take 1=[y]->∀x∈a.toList,r y<=r x)
  (h:∀z p,Res r (a.toList++b.toList) z->fG st p->Q z p):wpS M A E s (mHi a b) Q st:=by
 let I:#[a.toList]=a.size:=rfl;let H:#[b.toList]=b.size:=rfl;obtain⟨n,u⟩:∃f,f=λ(o:Array Keyed) (i j:Nat)=>a.extract 0 i++b.extract 0 j++o.reverse:=⟨_,rfl⟩
 obtain⟨g,d⟩:∃f,f=λ(o:Array Keyed) (i j:Nat)=>b.extract 0 j++a.extract 0 i++o.reverse:=⟨_,rfl⟩
 let c:∀(o:Array Keyed) (i j:Nat),MI (λx y=>r y<=r x) (a.toList++b.toList) o.toList (a.toList.take i).reverse (b.toList.take j).reverse->(∀x∈a.toList.take i,∀y∈b.toList.take j,r y<=r x)->Res r (a.toList++b.toList) (g o i j):=λo i j m q=>by
  subst d;let⟨l,k⟩:=m.swap.last λx f y t=>q x (zCR.mp f) y (zCR.mp t)
  let e:(o.toList++(a.toList.take i).reverse++(b.toList.take j).reverse)=(b.extract 0 j++a.extract 0 i++o.reverse).toList.reverse:=by rw[zB6,zB6,Z6,Z6,Array.toList_reverse,List.extract_eq_drop_take,List.extract_eq_drop_take,List.drop_zero,List.drop_zero,zC9,zC9,List.reverse_reverse,WI,Nat.sub_zero,Nat.sub_zero]
  rw[e]at l k;exact⟨Fb l,(List.reverse_perm _).symm.trans k⟩
 let G:∀(o:Array Keyed) (i j:Nat),MI (λx y=>r y<=r x) (a.toList++b.toList) o.toList (a.toList.take i).reverse (b.toList.take j).reverse->(i=0∨j=0)->Res r (a.toList++b.toList) (n o i j):=λo i j m q=>by
  have:=c o i j m λx f y t=>by
   obtain q|q:=q;rw[q]at f;simp at f;rw[q]at t;simp at t
  let e:n o i j=g o i j:=by
   obtain q|q:=q<;>subst q<;>simp[u,d]
  rw[e];exact this
 let B:∀(o:Array Keyed) (i j:Nat),MI (λx y=>r y<=r x) (a.toList++b.toList) o.toList (a.toList.take i).reverse (b.toList.take j).reverse->j=1->Res r (a.toList++b.toList) (g o i j):=λo i j m q=>c o i j m λx f y t=>by
  subst q;let⟨z,hz,e,_⟩:=eN (l:=b.toList) (i:=0) w;let c:b.toList.take 1=[z]:=by let g:b.toList=z::b.toList.drop 1:=e;rw[g];rfl
  rw[c,Vp]at t;rw[t];exact L z c x (zB3 f)
 let⟨g,c,n,my0⟩:=iU (l:=a.toList) a0 (Sx _);let q:a[a.size - 1]?=some g:=by rw[<- Uz];exact c
 let k:MI (λx y=>r y<=r x) (a.toList++b.toList) (#[g,]:Array Keyed).toList (a.toList.take (a.size - 1)).reverse (b.toList.take b.size).reverse:=by
  let m:MI (λx y=>r y<=r x) (a.toList++b.toList) (#[]:Array Keyed).toList (a.toList.take a.size).reverse (b.toList.take b.size).reverse:=by rw[XG (XJ I),XG (XJ H)];exact⟨(List.reverse_perm _).append (List.reverse_perm _),.nil,wL sa,wL sb,λ_ z=>(by cases z),λ_ z=>(by cases z)⟩
  exact m.qA n λy t=>J g q y (zB3 (zCR.mp t))
 calc Sk (wpS_lift (Y1 ⟨rfl,?_⟩));calc cS q ?_;rw[<- u,<- d];refine aF (λc=>So (h _ _ (G _ _ _ k (.inl (beq_iff_eq.mp c))) (fG.refl _))) λd=>?_
 refine aF (λc=>So (h _ _ (B _ _ _ k (beq_iff_eq.mp c)) (fG.refl _))) λN=>?_
 let m:a.size - 1≠0:=λe=>d (beq_iff_eq.mpr e)
 let ZW:b.size≠1:=λe=>N (beq_iff_eq.mpr e)
 let d:Mir r a b #[g,] (a.size - 1) b.size:=⟨k,zDE m,Xr _ _,YV w (Ne.symm ZW),Sx _⟩;calc Sk (wpS_get ?_);refine Sk (Xs (Xq (a:=0) (I:=λx=>VR st (Mir r a b) λi j=>x+i+j<=a.size+b.size) (Q:=VW st (Res r (a.toList++b.toList))) ?_ ?_ ⟨fG.refl _,d,zCZ (Sd (XJ (Yl _)) (Xr _ _)) _⟩) ?_)
 ·rintro x z YM _ f @⟨o,i,j,g,_,m,d,J⟩;calc Sk (Xs (Xq (I:=λx=>VR st (Mir r a b) λq k=>x+q+k<=i+j) (Q:=λz p=>VW st (Res r (a.toList++b.toList)) z p∨VR st (Mir r a b) (λq k=>0+1+q+k<=i+j) z p) ?_ ?_ ⟨m,d,35⟩) ?_);clear d J f;rintro x z Sn _ f @⟨o,q,k,u,_,L2,d,J⟩;dsimp only;refine zj λK m=>?_
  let Y:=d.hi;let U:=d.hj;let i:=d.h0;let H:=d.h1;let⟨y,t,ey,my⟩:=iU (l:=b.toList) (n:=k) (Yf H) U;let⟨w,T,ew,mw⟩:=iU (l:=a.toList) (n:=q) i Y;rw[Uz]at t T;calc HY C (L2.k.trans hk) t T (mb y my) (ma w mw) ?_;let hb:=mI d.m.sb ey;let O:=mI d.m.sa ew;refine aF (λc=>?_) λc=>?_
  let c':=Wh c;calc cS T ?_;let j:=d.m.qA ew λx f=>Sd (hb x f) (UD c')
  refine aF (λN=>So (m _ _ (.inl ⟨L2,G _ _ _ j (.inl (beq_iff_eq.mp N))⟩))) λN=>?_
  let ZW:q - 1≠0:=λe=>N (beq_iff_eq.mpr e)
  let L:Mir r a b (o.push w) (q - 1) k:=⟨j,zDE ZW,Sd (Xr _ _) Y,H,U⟩;exact aF (λ_=>So (m _ _ (.inr ⟨L2,L,D7 i (dw J)⟩))) λ_=>So (m _ _ ⟨L2,L,D7 i J⟩)
  let c':¬r y<r w:=λe=>c (U6 e)
  calc cS t ?_;let j:=d.m.qB ey λx f=>Sd (O x f) (Xh.mp c')
  refine aF (λN=>So (m _ _ (.inl ⟨L2,B _ _ _ j (beq_iff_eq.mp N)⟩))) λN=>?_
  let ZW:k - 1≠1:=λe=>N (beq_iff_eq.mpr e)
  let L:Mir r a b (o.push y) q (k - 1):=⟨j,i,Y,YV (zCa H) (Ne.symm ZW),Sd (Xr _ _) U⟩;exact aF (λ_=>So (m _ _ (.inr ⟨L2,L,N6 (Yf H) (dw J)⟩))) λ_=>So (m _ _ ⟨L2,L,N6 (Yf H) J⟩)
  rintro z Sn ⟨L2,d,J⟩;have:=d.h0
  lia
  ·rintro z Sn (⟨L2,hr⟩| @⟨o',q,k,u,_,L2,L,hp'⟩);exact So ⟨L2,hr⟩
   ·calc Sk (wpS_lift (Y1 ⟨rfl,?_⟩));refine Sk (Xs (Xq (I:=λx=>VR st (Mir r a b) λu j=>x+u+j<=q+k) (Q:=λz p=>VW st (Res r (a.toList++b.toList)) z p∨VR st (Mir r a b) (λu j=>0+u+j<=q+k) z p) ?_ ?_ ⟨L2,L,35⟩) ?_)
    ·clear L hp';rintro x z WA _ hx3 @⟨o,Q,u,j,_,I,d,hp2⟩;dsimp only;refine zj λK m=>?_
     let Y:=d.hi;let U:=d.hj;let i:=d.h0;let H:=d.h1;let⟨y,t,ey,my⟩:=iU (l:=b.toList) (n:=u) (Yf H) U;rw[Uz]at t;let hb:=mI d.m.sb ey
     suffices key:∀g3:Nat,wpS M A E s _ _ WA by
      refine aF (λ_=>?_) λ_=>?_
      rotate_left
      generalize j.1=g3;calc key g3;exact key _
     intro g3;refine Sk (o8 I λVt q=>?_)
     suffices key:∀(c N:Nat) (o3:Array Keyed),MI (λx y=>r y<=r x) (a.toList++b.toList) o3.toList (a.toList.take N).reverse (b.toList.take u).reverse->0<N->N<=Q->(∀x∈a.toList.take N,r x<=r y)->wpS M A E s _ K Vt by
      calc cS t (Sk (iu C (q.k.trans hk) (zB4 i) (mb y my) (g:=a.toList.take Q) (by rw[Wq];calc Yi Y) (λn hn=>by rw[zDC,Rr hn,Uz,Yl]) (λx f=>ma x (zB3 f)) (Fb d.m.sa) λk (j:k<=Q) lo up=>?_));rw[List.take_take,Yi j]at lo;refine aF (λck=>?_) λck=>?_
      let hm:=d.m.fA j λx f z hz=>Sd (hb z hz) (up x f)
      refine aF (λc3=>So (m _ _ (.inl ⟨q,G _ _ _ hm (.inl (beq_iff_eq.mp c3))⟩))) λc3=>?_
      let h3:0<k:=zDE λe=>c3 (beq_iff_eq.mpr e)
      generalize o++(a.extract k Q).reverse=o3 at hm ⊢;generalize Q - k=c;calc key c k o3 hm h3 j lo;let o:k=Q:=Zk j (Nat.le_of_sub_eq_zero (zDI ck));exact key _ _ _ d.m i (Sx _) (o ▸ lo)
     intro c N o3 hm h3 k i;calc cS t ?_;let t:=hm.qB ey λx f=>i x (zCR.mp f)
     refine aF (λc=>So (m _ _ (.inl ⟨q,B _ _ _ t (beq_iff_eq.mp c)⟩))) λc=>?_
     let c':u - 1≠1:=λe=>c (beq_iff_eq.mpr e)
     let⟨w,T,ew,mw⟩:=iU (l:=a.toList) h3 (Sd k Y);rw[Uz]at T
     suffices key:∀(c Q:Nat) (o4:Array Keyed),MI (λx y=>r y<=r x) (a.toList++b.toList) o4.toList (a.toList.take N).reverse (b.toList.take Q).reverse->1<Q->Q<u->(∀x∈b.toList.take Q,r x<=r w)->wpS M A E s _ K Vt by
      calc cS T (Sk (iu C (q.k.trans hk) (zB4 (zCa H)) (ma w mw) (g:=b.toList.take (u - 1)) (by rw[Wq];calc Yi (Sd (Xr _ _) U)) (λn hn=>by rw[zDC,Rr hn,Uz,Yl]) (λx f=>mb x (zB3 f)) (Fb t.sb) λj (g:j<=u - 1) i l=>?_));let O:=mI t.sa ew;rw[List.take_take,Yi g]at i;refine aF (λw=>?_) λw=>?_
      let n:=t.fB g λx f z hz=>Sd (O z hz) (l x f)
      refine aF (λC=>So (m _ _ (.inl ⟨q,B _ _ _ n (beq_iff_eq.mp C)⟩))) λC=>?_
      refine aF (λC=>So (m _ _ (.inl ⟨q,G _ _ _ n (.inr (beq_iff_eq.mp C))⟩))) λB=>?_
      let l:1<j:=by
       have:j≠1:=λe=>C (beq_iff_eq.mpr e)
       have:j≠0:=λe=>B (beq_iff_eq.mpr e)
       lia
      generalize o3.push y++(b.extract j (u - 1)).reverse=o4 at n ⊢;generalize u - 1 - j=c;calc key c j o4 n l (Xf g (zB4 H)) i;let o:j=u - 1:=Zk g (Nat.le_of_sub_eq_zero (zDI w));exact key _ _ _ t (YV (zCa H) (Ne.symm c')) (zB4 H) (o ▸ i)
     intro c Q o4 n l g i;calc cS T ?_;let j:=n.qA ew λx f=>i x (zCR.mp f)
     refine aF (λf=>So (m _ _ (.inl ⟨q,G _ _ _ j (.inl (beq_iff_eq.mp f))⟩))) λf=>?_
     let c:Mir r a b _ _ _:=⟨j,zDE λe=>f (beq_iff_eq.mpr e),Sd (Xr _ _) (Sd k Y),l,Sd (UD g) U⟩;let a:=Sd (Nat.add_le_add (YU k x) (UD g)) hp2;exact aF (λ_=>So (m _ _ (.inr ⟨q,c,dw (D7 h3 a)⟩))) λ_=>So (m _ _ ⟨q,c,D7 h3 a⟩)
    rintro z WA ⟨I,d,J⟩;calc .inr ⟨I,d,dw J⟩;rintro z WA (⟨I,hr⟩| ⟨I,L,hp'⟩);calc So ⟨I,hr⟩;exact Sk (o8 I λVt q=>So ⟨q,L,35⟩)
 rintro z p ⟨L,d,J⟩;have:=d.h0
 lia
 rintro z p ⟨L,hr⟩;calc So (h _ _ hr L)
end
def rk(r:Keyed->Nat)(xs:Array Keyed)(i:Nat):Nat:=match xs[i]? with
 |some p=>r p
 |none=>0
def Seg(r:Keyed->Nat)(xs:Array Keyed)(lo a:Nat):Prop:=∀i j,lo<=i->i<=j->j<a->rk r xs i<=rk r xs j
section
variable{r:Keyed->Nat}{xs:Array Keyed}{P W S:List Keyed}
def vB(e:xs.toList=P++(W++S)){i:Nat}(a:i<#[W]):rk r xs (#[P]+i)=r W[i]:=by ext rk;rw[<- Uz,e,WH 35,zBl,WR a,T5 a]
def B9(e:xs.toList=P++(W++S))(h:W.Pairwise λx y=>r x<=r y):Seg r xs #[P] (#[P]+#[W]):=λi j a b d=>by let⟨k,rfl⟩:=Nat.exists_eq_add_of_le a;let⟨l,rfl⟩:=Nat.exists_eq_add_of_le (Sd a b);rw[vB e 35,vB e 35];by_cases c:k=l;subst c;calc Sx _;calc Zd.mp h k l 35 35 35
def lT(e:xs.toList=P++(W++S))(h:Seg r xs #[P] (#[P]+#[W])):W.Pairwise λx y=>r x<=r y:=Zd.mpr λi j b a U3=>by have:=h (#[P]+i) (#[P]+j) 35 35 35;rw[vB e b,vB e a]at this;calc this
def NJ(xs:Array Keyed){lo n:Nat}(h:lo+n<=xs.size):∃P W S,xs.toList=P++(W++S)/\#[P]=lo/\#[W]=n:=by calc⟨xs.toList.take lo,(xs.toList.drop lo).take n,(xs.toList.drop lo).drop n,by rw[XH,XH],?_,?_⟩;rw[Wq];calc Yi (Sd (VT _ _) h);rw[Wq,Xg];calc Yi (Nat.le_sub_of_add_le' h)
theorem An(base:Nat):∀(m:List Keyed) (k:Nat) (xs:Array Keyed) (P W S:List Keyed),xs.toList=P++(W++S)->#[P]=base+k->#[W]=#[m] →
  ((m.zipIdx k).foldl (λa (x:Keyed×Nat)=>match x with|(p,j)=>a.setIfInBounds (base+j) p) xs).toList=P++(m++S)
 |[],k,xs,P,W,S,e,b,a=>46
 |p::m,k,xs,P,[],S,e,b,a=>by cases a
 |p::m,k,xs,P,w::W,S,e,b,a=>by
  rw[List.zipIdx_cons,List.foldl_cons];rw[An base m (k+1) _ (P++[p]) W S ?_ (by rw[UQ,b];rfl) 46]
  all_goals cbv
end
section
variable{M:Model}{A:Around}{E:yaa}{s:Shared}{r:Keyed->Nat}{Mem:Keyed->Prop}{k0:SortKind}
def Nd{b:Type}{st a:b}{Q:PUnit->b->Prop}(h:Q ⟨⟩ a):wpS M A E s (set a:StateT b Sem PUnit) Q st:=by calc Rz ⟨rfl,h⟩
def Js{st:SortSt}{i sa na p sb nb p2:Nat}{Q:Bool->SortSt->Prop}(C:Ys M A E s r Mem k0)(k:kindOf st=k0)(z:failedOf st=none)(c:∀x∈(arrOf st).toList,Mem x)(O:(pendingOf st)[i]?=some (sa,na,p))(J:(pendingOf st)[i+1]?=some (sb,nb,p2))
  {P X Y S:List Keyed} (e:(arrOf st).toList=P++(X++(Y++S))) (t:#[P]=sa) (o:#[X]=na) (lY:#[Y]=nb) (b:sb=sa+na) (f:0<na) (B:0<nb) (w:X.Pairwise λx y=>r x<=r y) (u:Y.Pairwise λx y=>r x<=r y)
  (h:∀(a:SortSt) (Z:List Keyed),kindOf a=k0->failedOf a=none->pendingOf a=((pendingOf st).setIfInBounds i (sa,na+nb,p)).eraseIdxIfInBounds (i+1)->(arrOf a).toList=P++(Z++S)->Z.Perm (X++Y)->Z.Pairwise (λx y=>r x<=r y)->Q true a):wpS M A E s (mergeAt' i) Q st:=by
 subst b;let N:∀n,n<na->(arrOf st)[sa+n]?=X[n]?:=λn b=>by rw[<- Uz,e,WH (by rw[t];calc VT _ _),t,zBl,WR (by rw[o];calc b)]
 let L:∀n,n<nb->(arrOf st)[sa+na+n]?=Y[n]?:=λn b=>by rw[<- Uz,e,WH (by rw[t,zCw];calc VT _ _),WH (by rw[t,o,zCw,zBl];calc VT _ _),t,o,Nat.sub_sub,zBl,WR (by rw[lY];calc b)]
 let mX:∀x∈X,Mem x:=λx b=>c x (by rw[e];simp[b])
 let mY:∀x∈Y,Mem x:=λx b=>c x (by rw[e];simp[b])
 let⟨T,H,d,c⟩:=eN (l:=Y) (i:=0) 35;let⟨U,I,g,j⟩:=iU (l:=X) (n:=na) f 35;let m:∀y∈Y,r T<=r y:=mJ (l:=Y) (i:=0) u d;let G:∀x∈X,r x<=r U:=λx b=>mI (l:=X) (n:=na) (wL (by rw[XG 35];calc w)) g x (zCR.mpr (by rw[XG 35];calc b))
 let same:∀(a:SortSt),kindOf a=k0->failedOf a=none->pendingOf a=((pendingOf st).setIfInBounds i (sa,na+nb,p)).eraseIdxIfInBounds (i+1)->arrOf a=arrOf st->(∀x∈X,∀y∈Y,r x<=r y)->Q true a:=λa n l g d q =>
  h a (X++Y) n l g (by rw[d,e,WI]) (List.Perm.refl _) (YT.mpr ⟨w,u,q⟩)
 calc Sk (wpS_get ?_);show wpS M A E s (match((pendingOf st)[i]?,(pendingOf st)[i+1]?)with|_=>_) Q st;simp only[O,J];calc Sk (Nd ?_);let n:kindOf (SortSt.mk' (kindOf st) (arrOf st) (((pendingOf st).setIfInBounds i (sa,na+nb,p)).eraseIdxIfInBounds (i+1)) (gallopOf st) (failedOf st))=k0:=k;let f1:failedOf (SortSt.mk' (kindOf st) (arrOf st) (((pendingOf st).setIfInBounds i (sa,na+nb,p)).eraseIdxIfInBounds (i+1)) (gallopOf st) (failedOf st))=none:=z;calc Sk (eX (x:=T) (by have:=L 0 B;rw[Nat.add_zero]at this;rw[this];calc H) ?_);calc Sk (iu C n f (mY T c) (g:=X) o N mX w λk J lo up=>?_);refine aF (λc=>So (same _ n f1 rfl rfl λx b y d=>?_)) λc=>?_
 let O:na - k=0:=beq_iff_eq.mp c;let a:x∈X.take k:=by rw[XG (by rw[o];calc Nat.le_of_sub_eq_zero O)];exact b
 calc Sd (lo x a) (m y d);let O:na - k≠0:=λz=>c (beq_iff_eq.mpr z)
 calc Sk (eX (x:=U) (by show(arrOf st)[sa+k+(na - k) - 1]?=_;rw[show sa+k+(na - k) - 1=sa+(na - 1)by rw[zCw,Nat.add_sub_of_le J,Nat.add_sub_assoc f],N _ (zB4 f)];calc I) ?_);calc Sk (iu C n (zB4 B) (mX U j) (g:=Y) lY L mY u λf hk2 B WM=>?_);refine aF (λc=>So (same _ n f1 rfl rfl λx b y d=>?_)) λa=>?_
 let O:f=0:=beq_iff_eq.mp c;rw[O]at WM;calc Sd (G x b) (WM y d);let ZW:f≠0:=λz=>a (beq_iff_eq.mpr z)
 let l:((arrOf st).extract (sa+k) (sa+na)).toList=X.drop k:=by rw[Z6,List.extract_eq_drop_take,e,<- t,<- zDk,zCe (Sx _),List.drop_length,Zi,zCe 35,show #[P]+na - (#[P]+k)=#[X.drop k] by rw[Xg,o,Nat.add_sub_add_left]];exact List.take_left
 let g:((arrOf st).extract (sa+na) (sa+na+f)).toList=Y.take f:=by rw[Z6,List.extract_eq_drop_take,e,<- t,<- o,<- zDk,zCe (Sx _),List.drop_length,Zi,zCe (Sx _),List.drop_length,Zi,zBl,List.take_append_of_le_length 35]
 let N:∀(z:Array Keyed) (c:SortSt),Res r (X.drop k++Y.take f) z->fG (SortSt.mk' (kindOf st) (arrOf st) (((pendingOf st).setIfInBounds i (sa,na+nb,p)).eraseIdxIfInBounds (i+1)) (gallopOf st) (failedOf st)) c->wpS M A E s (do
   modify λst=>setArr st (z.toList.zipIdx.foldl (λa (x:Keyed×Nat)=>match x with|(p,j)=>a.setIfInBounds (sa+k+j) p) (arrOf st))
   let y←get
   pure (failedOf y).isNone) Q c:=λz c ⟨j,i⟩ L=>by
  calc Sk (zC3 (Sk (wpS_get (So ?_))));show Q (failedOf c).isNone _;rw[L.f,f1];refine h _ (X.take k++(z.toList++Y.drop f)) (L.k.trans n) (L.f.trans f1) L.p ?_ ?_ ?_
  ·show(z.toList.zipIdx.foldl _ (arrOf c)).toList=_;rw[An (sa+k) z.toList 0 (arrOf c) (P++X.take k) (X.drop k++Y.take f) (Y.drop f++S) ?_ ?_ ?_];simp only[WI]
   ·rw[show arrOf c=arrOf st from L.a,e];let e:=XH k X;let a:=XH f Y
    conv=>lhs;rw[<- e,<- a]
    simp only[WI]
   rw[UQ,Wq,t,Yi 35];rfl;exact i.length_eq.symm
  ·let e:=XH k X;let a:=XH f Y;have:(X.take k++(z.toList++Y.drop f)).Perm (X.take k++((X.drop k++Y.take f)++Y.drop f)):=List.Perm.append_left _ (List.Perm.append_right _ i);refine this.trans (List.Perm.of_eq ?_)
   conv=>rhs;rw[<- e,<- a]
   simp only[WI]
  let a:∀x∈X.take k,∀y∈Y,r x<=r y:=λx b y d=>Sd (lo x b) (m y d)
  let h:∀x∈X.take k,∀y∈X.drop k,r x<=r y:=by have:=w;rw[<- XH k X]at this;exact(YT.mp this).2.2
  let e:∀x∈Y.take f,∀y∈Y.drop f,r x<=r y:=by have:=u;rw[<- XH f Y]at this;exact(YT.mp this).2.2
  calc YT.mpr ⟨w.sublist (zDL _ _),YT.mpr ⟨j,u.sublist (List.drop_sublist _ _),λx b y d=>?_⟩,λx b y d=>?_⟩;rcases S7.mp (i.mem_iff.mp b)with q|q;calc Sd (G x (zB2 q)) (WM y d);calc e x q y d;obtain q|q:=S7.mp d;rcases S7.mp (i.mem_iff.mp q)with q|q;calc h x b y q;calc a x b y (zB3 q);exact a x b y (zB2 q)
 let e:((arrOf st).extract (sa+k) (sa+na)).toList.Pairwise λx y=>r x<=r y:=by rw[l];exact w.sublist (List.drop_sublist _ _)
 let a:((arrOf st).extract (sa+na) (sa+na+f)).toList.Pairwise λx y=>r x<=r y:=by rw[g];exact u.sublist (zDL _ _)
 let i:∀x∈((arrOf st).extract (sa+k) (sa+na)).toList,Mem x:=by rw[l];exact λx b=>mX x (zB2 b)
 let h:∀x∈((arrOf st).extract (sa+na) (sa+na+f)).toList,Mem x:=by rw[g];exact λx b=>mY x (zB3 b)
 let p:((arrOf st).extract (sa+k) (sa+na)).size=na - k:=by rw[<- VM,l,Xg,o]
 let j:((arrOf st).extract (sa+na) (sa+na+f)).size=f:=by rw[<- VM,g,Wq,lY];exact Yi hk2
 let q:0<((arrOf st).extract (sa+k) (sa+na)).size:=by rw[p];lia
 let o:0<((arrOf st).extract (sa+na) (sa+na+f)).size:=by rw[j];lia
 let t:∀x,(X.drop k)[na - k - 1]?=some x->x=U:=λx b=>by rw[zCn,show k+(na - k - 1)=na - 1 by rw[<- Nat.add_sub_assoc (zDE O) k,Nat.add_sub_of_le J],I]at b;cases b;rfl
 let m:∀y,(Y.take f)[0]?=some y->y=T:=λy d=>by rw[zDC,Rr 35,H]at d;cases d;rfl
 refine aF (λj=>?_) λj=>?_
 calc Sk (Ju C n i h e a q o ?_ ?_ λz c j L=>N z c (by rw[l,g]at j;calc j) L);intro x b y d;rw[g]at d;rw[l,p]at b;rw[t x (by rw[<- Nat.add_zero (na - k - 1),<- zCn,b];rfl)];calc B y d;intro y d x b;rw[l]at b;rw[<- Uz,g]at d;rw[m y d];calc up x b;calc Sk (Jt C n i h e a q o ?_ ?_ λz c j L=>N z c (by rw[l,g]at j;calc j) L);intro x b y d;rw[g]at d;rw[<- Uz,l,p]at b;rw[t x b];calc B y d;intro y d x b;rw[l]at b;rw[g]at d;rw[m y (by
  have:((Y.take f).take 1)[0]?=some y:=by rw[d];rfl
  rw[zDC,Rr 29]at this;calc this)]
 calc up x b
end
section
variable{r:Keyed->Nat}
def gn{xs ys:Array Keyed}{i j:Nat}(h:xs[i]?=ys[j]?):rk r xs i=rk r ys j:=by ext rk;rw[h]
theorem qo{xs:Array Keyed}{j:Nat}(a:j<=xs.size)(k:Nat):rk r (mirror xs i j ((j - i) / 2)) k=if i<=k/\k<j then rk r xs (i+j - 1 - k)else rk r xs k:=by let e:=getElem?_mirror_all (i:=i) a k;by_cases a:i<=k/\k<j;rw[Rr a]at e ⊢;calc gn e;rw[if_neg a]at e ⊢;calc gn e
def qp{xs:Array Keyed}{i j:Nat}(b:j<=xs.size)(a:∀k,i<=k->k<j->rk r xs k=rk r xs (j - 1))(k:Nat):rk r (mirror xs i j ((j - i) / 2)) k=rk r xs k:=by grind [qo]
def Ho{xs:Array Keyed}{a d:Nat}(hs:a<xs.size)(b:d<=a)(k:Nat):rk r (bubble xs a d) k=if k=a - d then rk r xs a else if a - d<k/\k<=a then rk r xs (k - 1)else rk r xs k:=by let e:=getElem?_bubble hs d b k;by_cases b:k=a - d;rw[Rr b]at e ⊢;calc gn e;rw[if_neg b]at e ⊢;by_cases b:a - d<k/\k<=a;rw[Rr b]at e ⊢;calc gn e;rw[if_neg b]at e ⊢;calc gn e
def Dn(r:Keyed->Nat)(xs:Array Keyed)(lo a:Nat):Prop:=∀i j,lo<=i->i<=j->j<a->rk r xs j<=rk r xs i
end
structure Nr(lo:Nat)(st st':SortSt):Prop where
 k:kindOf st'=kindOf st
 f:failedOf st'=failedOf st
 p:pendingOf st'=pendingOf st
 a:(arrOf st').Perm (arrOf st)
 fr:∀i,i<lo->(arrOf st')[i]?=(arrOf st)[i]?
theorem Nr.refl(lo:Nat)(st:SortSt):Nr lo st st:=⟨rfl,rfl,rfl,Array.Perm.refl _,35⟩
theorem Nr.size{lo:Nat}{st a:SortSt}(h:Nr lo st a):(arrOf a).size=(arrOf st).size:=h.a.size_eq
theorem Nr.trans{lo:Nat}{st a b:SortSt}(h:Nr lo st a)(g:Nr lo a b):Nr lo st b:=⟨g.k.trans h.k,g.f.trans h.f,g.p.trans h.p,g.a.trans h.a,λi a=>(g.fr i a).trans (h.fr i a)⟩
def Nr.mir{lo i j:Nat}{st a:SortSt}(h:Nr lo st a)(c:lo<=i)(b:j<=(arrOf st).size):Nr lo st (setArr a (mirror (arrOf a) i j ((j - i) / 2))):=⟨h.k,h.f,h.p,(mirror_perm _ _ _ _).trans h.a,λk a=>by rw[getElem?_mirror_all (by rw[h.size];calc b),if_neg 35];calc h.fr k a⟩
section
variable{M:Model}{A:Around}{E:yaa}{s:Shared}{r:Keyed->Nat}{Mem:Keyed->Prop}{k0:SortKind}
def Nc{st:SortSt}{i j:Nat}{Q:Option Bool->SortSt->Prop}(C:Ys M A E s r Mem k0)(b:kindOf st=k0)(a:∀x∈(arrOf st).toList,Mem x)(f:i<(arrOf st).size)(e:j<(arrOf st).size)(h:Q (some (decide (rk r (arrOf st) i<rk r (arrOf st) j))) st):wpS M A E s (ltAt' i j) Q st:=by
 let d:(arrOf st)[i]?=some (arrOf st)[i]:=46
 let c:(arrOf st)[j]?=some (arrOf st)[j]:=46
 calc wpS_ltAt C b d c (a _ 52) (a _ 52) ?_;unfold rk at h
 cbv
def Nr.mem{lo:Nat}{st a:SortSt}(h:Nr lo st a)(b:∀x∈(arrOf st).toList,Mem x):∀x∈(arrOf a).toList,Mem x:=λx a=>b x ((zCs.mp h.a).mem_iff.mp a)
def snoc{f:Nat->Nat->Prop}(l:∀i,f i i)(g:∀i j k,f i j->f j k->f i k){lo x:Nat}(e:1<=x)(h:∀i j,lo<=i->i<=j->j<lo+x->f i j)(c:f (lo+x - 1) (lo+x)):∀i j,lo<=i->i<=j->j<lo+(x+1)->f i j:=λi j a b d=>by
 cases x with
 |zero=>cases e
 |succ y =>
  rcases zCo (Yw d)with e|e;calc h i j a b e;rw[e]at b ⊢;obtain e|e:=zCo b;calc g _ _ _ (h i (lo+y) a (Yw e) (zCS _)) c;rw[e];calc l _
theorem Seg.snoc{x:Nat}(a:1<=x)(h:Seg r xs e0 (e0+x))(c:rk r xs (e0+x - 1)<=rk r xs (e0+x)):Seg r xs e0 (e0+(x+1)):=TS.snoc (f:=λi j=>rk r xs i<=rk r xs j) (λ_=>Sx _) (λ_ _ _=>Sd) a h c
theorem Dn.snoc{x:Nat}(a:1<=x)(h:Dn r xs e0 (e0+x))(c:rk r xs (e0+x)<=rk r xs (e0+x - 1)):Dn r xs e0 (e0+(x+1)):=TS.snoc (f:=λi j=>rk r xs j<=rk r xs i) (λ_=>Sx _) (λ_ _ _ p q=>Sd q p) a h c
def G7{d i j:Nat}(a:d<=i)(b:i<=j)(c:j<d+1):i=j:=Zk b (Sd (Yw c) a)
def Seg.one:Seg r xs e0 (e0+1):=λi j a b c=>by rw[G7 a b c];calc Sx _
def Dn.one:Dn r xs e0 (e0+1):=λi j a b c=>by rw[G7 a b c];calc Sx _
def Dn.congr(h:Dn r ys e0 hi)(e:∀k,rk r xs k=rk r ys k):Dn r xs e0 hi:=λi j a b c=>by rw[e,e];calc h i j a b c
theorem Dn.mirror(h:Dn r xs e0 hi)(d:hi<=xs.size):Seg r (PyProof.Rows.mirror xs e0 hi ((hi - e0) / 2)) e0 hi:=λi j a b c=>by let ih:=Xf b c;rw[qo d,qo d,Rr ⟨a,ih⟩,Rr ⟨Sd a b,c⟩];calc h _ _ (Nat.le_sub_of_add_le (zCa (Nat.add_lt_add_left c e0))) (Nat.sub_le_sub_left b _) (Nat.sub_lt_left_of_lt_add (zCa (Tp ih (Nat.le_add_left _ _))) (Tp (zB4 (Tp ih (Nat.le_add_left _ _))) (zCZ a _)))
def Nr.le{n y:Nat}{st a:SortSt}(N:Nr e0 st a)(hs:e0+n<=(arrOf st).size)(h:y<=n):e0+y<=(arrOf a).size:=by rw[N.size];calc Sd (YU h e0) hs
def ku{st a:SortSt}{b n x i j:Nat}{Q:Option Bool->SortSt->Prop}(C:Ys M A E s r Mem k0)(e:kindOf st=k0)(d:∀x∈(arrOf st).toList,Mem x)(hs:b+n<=(arrOf st).size)(N:Nr b st a)(c:x<n)(g:i<=b+x)(f:j<=b+x)(h:Q (some (decide (rk r (arrOf a) i<rk r (arrOf a) j))) a):wpS M A E s (ltAt' i j) Q a:=Nc C (N.k.trans e) (N.mem d) (Xf g (N.le hs c)) (Xf f (N.le hs c)) h
inductive CW {ρ γ:Type} (y:γ) (P:SortSt->Prop):Option ρ×γ->SortSt->Prop
 |mk {st:SortSt} (p:P st):CW y P (none,y) st
inductive CV {ρ γ:Type} (P:γ->SortSt->Prop):Option ρ×γ->SortSt->Prop
 |mk {y:γ} {st:SortSt} (p:P y st):CV P (none,y) st
structure S1(r:Keyed->Nat)(lo:Nat)(st:SortSt)(x:Nat)(st':SortSt):Prop where
 n:Nr lo st st'
 x1:1<=x
 sg:Seg r (arrOf st') lo (lo+x)
theorem S1.snoc{st a:SortSt}(h:S1 r e0 st x a)(c:¬decide (rk r (arrOf a) (e0+x)<rk r (arrOf a) (e0+x - 1))=true):S1 r e0 st (x+1) a:=⟨h.n,Nat.le_succ_of_le h.x1,h.sg.snoc h.x1 (Xh.mp λe=>c (U6 e))⟩
structure S2(r:Keyed->Nat)(lo:Nat)(st:SortSt)(x q:Nat)(st':SortSt):Prop where
 n:Nr lo st st'
 q1:q+1<=x
 dn:Dn r (arrOf st') lo (lo+x)
 eq:∀i,lo+x - (q+1)<=i->i<lo+x->rk r (arrOf st') i=rk r (arrOf st') (lo+x - 1)
def S2.x1{st a:SortSt}(h:S2 r e0 st x q a):1<=x:=Sd (zCi (Uw _)) h.q1
def S2.zero{x:Nat}{st a:SortSt}(N:Nr e0 st a)(d:Dn r (arrOf a) e0 (e0+(x+1))):S2 r e0 st (x+1) 0 a:=⟨N,zCi (Uw _),d,λ_ a b=>congrArg _ (Zk (Yw b) a)⟩
theorem S2.mir{st a:SortSt}(h:S2 r e0 st x q a)(b:e0+x<=(arrOf st).size):Nr e0 st (setArr a (mirror (arrOf a) (e0+x - (q+1)) (e0+x) ((e0+x - (e0+x - (q+1))) / 2))):=h.n.mir (Nat.le_sub_of_add_le (YU h.q1 e0)) b
def S2.cg{n:Nat}{st a:SortSt}(h:S2 r e0 st x q a)(hs:e0+n<=(arrOf st).size)(b:x<=n)(k:Nat):rk r (mirror (arrOf a) (e0+x - (q+1)) (e0+x) ((e0+x - (e0+x - (q+1))) / 2)) k=rk r (arrOf a) k:=qp (h.n.le hs b) h.eq k
def S2.succ{st a:SortSt}(h:S2 r e0 st x q a)(e:rk r (arrOf a) (e0+x)=rk r (arrOf a) (e0+x - 1)):S2 r e0 st (x+1) (q+1) a:=⟨h.n,zCi h.q1,h.dn.snoc h.x1 (XJ e),λi a b=>by
 rcases zCo (Yw b)with d|d;calc(h.eq i (by rw[<- Nat.succ_sub_succ];calc a) d).trans e.symm;rw[d];rfl⟩
def FP{st:SortSt}{lo g:Nat}{Q:Option Nat->SortSt->Prop}(C:Ys M A E s r Mem k0)(u:kindOf st=k0)(t:∀x∈(arrOf st).toList,Mem x)(hs:lo+g<=(arrOf st).size)(d:1<=g)
  (h:∀m f,1<=m->m<=g->Nr lo st f->Seg r (arrOf f) lo (lo+m)->Q (some m) f):wpS M A E s (countRun' lo g) Q st:=by
 calc Sk (Xs (Xq (a:=1) (b:=g) (I:=λx=>CW x (S1 r lo st x)) (Q:=CV λn f=>S1 r lo st n f/\n<=g/\(n=g∨rk r (arrOf f) (lo+n)<rk r (arrOf f) (lo+n - 1))) ?_ ?_ ⟨⟨Nr.refl _ _,Sx _,.one⟩⟩) ?_);rintro x z f _ l ⟨p⟩;calc Sk (ku C u t hs p.n l (Sx _) (Xr _ _) (aF (λc=>So ⟨p,UD l,.inr (Wh c)⟩) λc=>So ⟨p.snoc c⟩));rw[Nat.max_eq_right d];rintro z f ⟨p⟩;calc⟨p,Sx _,.inl rfl⟩;rintro z f @⟨n,_,p⟩;refine aF (λ_=>So (h n f p.1.x1 p.2.1 p.1.n p.1.sg)) λc=>?_
 let c:n≠g:=λe=>c (beq_iff_eq.mpr e)
 let w:=YV p.2.1 c;let d:=UD (p.2.2.resolve_left c)
 suffices key:∀m,Nr lo st m->Dn r (arrOf m) lo (lo+(n+1))->wpS M A E s _ _ m by
  refine aF (λ_=>Sk (ku C u t hs p.1.n w (VT _ _) (Xr _ _) (aF (λ_=>So (h n f p.1.x1 p.2.1 p.1.n p.1.sg)) λc=>?_))) λc=>?_
  calc Sk (zC3 ?_);let o:∀k,lo<=k->k<lo+n->rk r (arrOf f) k=rk r (arrOf f) (lo+n - 1):=λk a b=>Zk (p.1.sg k _ a (zCa b) (zB4 b)) (Sd (Xh.mp λe=>c (U6 e)) (p.1.sg lo k (Sx _) a b))
  calc key _ (p.1.n.mir (Sx _) (Sd (YU p.2.1 lo) hs)) ((Dn.snoc p.1.x1 (λi j a b c=>by rw[o i a (Xf b c),o j (Sd a b) c];calc Sx _) d).congr (qp (p.1.n.le hs p.2.1) o));exact key _ p.1.n (Dn.snoc p.1.x1 (by rw[show n=1 from Zk (zCh c) p.1.x1];calc .one) d)
 intro m N j;calc Sk (wpS_lift (Y1 ⟨rfl,?_⟩));calc Sk (Xs (Xq (a:=n+1) (b:=g) (I:=λx z i=>∃q,CW (x,q) (S2 r lo st x q) z i) (Q:=CV λy i=>S2 r lo st y.1 y.2 i/\y.1<=g) ?_ ?_ ⟨0,⟨.zero N j⟩⟩) ?_);rintro x z i _ l ⟨q,⟨p⟩⟩;calc Sk (ku C u t hs p.n l (Sx _) (Xr _ _) (aF (λc=>?_) λc=>?_));let d:=p.dn.snoc p.x1 (UD (Wh c));exact aF (λ_=>Sk (zC3 (So ⟨0,⟨.zero (p.mir (Sd (YU (UD l) lo) hs)) (d.congr (p.cg hs (UD l)))⟩⟩))) λ_=>So ⟨0,⟨.zero p.n d⟩⟩
 calc Sk (ku C u t hs p.n l (Xr _ _) (Sx _) (aF (λd=>So ⟨p,UD l⟩) λd=>So ⟨q+1,⟨p.succ (Zk (Xh.mp λe=>d (U6 e)) (Xh.mp λe=>c (U6 e)))⟩⟩));rw[Nat.max_eq_right w];rintro z i ⟨q,⟨p⟩⟩;calc⟨p,Sx _⟩;rintro z i @⟨y,_,p⟩
 suffices key:∀m,Nr lo st m->Dn r (arrOf m) lo (lo+y.1)->wpS M A E s _ _ m by
  refine aF (λ_=>Sk (zC3 ?_)) λ_=>?_
  calc key _ (p.1.mir (Sd (YU p.2 lo) hs)) (p.1.dn.congr (p.1.cg hs p.2));exact key _ p.1.n p.1.dn
 intro m N j;calc Sk (zC3 ?_);calc Sk (Xs (Xq (a:=y.1) (b:=g) (I:=λx=>CW x (S1 r lo st x)) (Q:=CV λy f=>S1 r lo st y f/\y<=g) ?_ ?_ ⟨⟨N.mir (Sx _) (Sd (YU p.2 lo) hs),p.1.x1,j.mirror (N.le hs p.2)⟩⟩) ?_);rintro x z f _ l ⟨p⟩;calc Sk (ku C u t hs p.n l (Sx _) (Xr _ _) (aF (λc=>So ⟨p,UD l⟩) λc=>So ⟨p.snoc c⟩));rw[Nat.max_eq_right p.2];rintro z f ⟨p⟩;calc⟨p,Sx _⟩;rintro z f ⟨p⟩;calc So (h _ _ p.1.x1 p.2 p.1.n p.1.sg)
structure B1(f:Nat->Nat)(lo k x l u:Nat):Prop where
 lu:l<=u
 uk:u<=k
 m:u+x<=k+l
 dn:∀i,lo<=i->i<lo+l->f i<=f (lo+k)
 up:∀i,lo+u<=i->i<lo+k->f (lo+k)<f i
def Iz{st:SortSt}{lo n a:Nat}{Q:Bool->SortSt->Prop}(C:Ys M A E s r Mem k0)(u:kindOf st=k0)(q:∀x∈(arrOf st).toList,Mem x)(o:lo+n<=(arrOf st).size)(h0:Seg r (arrOf st) lo (lo+a))
  (h:∀f,Nr lo st f->Seg r (arrOf f) lo (lo+n)->Q true f):wpS M A E s (binarySort' lo n a) Q st:=by
 refine Sk (Xs (Xq (I:=λk=>CW () λf=>Nr lo st f/\Seg r (arrOf f) lo (lo+k)) (Q:=CW () λf=>Nr lo st f/\Seg r (arrOf f) lo (lo+n)) ?step ?fin ?init) ?post)
 case post =>
  rintro c f ⟨p⟩;exact So (h f p.1 p.2)
 case init =>
  calc⟨Nr.refl _ _,?_⟩;cases a with
  |zero=>calc .one
  |succ x=>rw[Nat.max_eq_left (zCi (Uw x))];exact h0
 case fin =>
  rintro c f ⟨p⟩;exact⟨p.1,λi j a b c=>p.2 i j a b (Tp c (YU (Nat.le_max_right _ _) lo))⟩
 case step =>
  rintro k c f _ n ⟨N,sg⟩;refine Sk (Xs (Xq (a:=0) (b:=k) (I:=λx=>CV λy g=>g=f/\B1 (rk r (arrOf f)) lo k x y.1 y.2) (Q:=CV λy g=>g=f/\B1 (rk r (arrOf f)) lo k k y.1 y.1) ?istep ?ifin ⟨rfl,Uw _,Sx _,Sx _,λi a b=>absurd b (Xh.mpr a),λi a b=>absurd b (Xh.mpr a)⟩) ?ipost)
  case ifin =>
   rw[Nat.max_eq_right (Uw k)];rintro c g ⟨e,b⟩;exact⟨e,Sx _,Sd b.lu b.uk,XJ (zC6 _ _),b.dn,by rw[Zk b.lu (Nat.le_of_add_le_add_left (Sd (XJ (zC6 _ _)) b.m))];calc b.up⟩
  case istep =>
   rintro x c g _ t @⟨y,_,e,b⟩;refine aF (λc=>So ⟨e,Sx _,Sd b.lu b.uk,XJ (zC6 _ _),b.dn,by rw[Zk b.lu c];calc b.up⟩) λc=>?_
   let c:y.1<y.2:=zDW c;let d:y.1<=(y.1+y.2) / 2:=35
   let l:(y.1+y.2) / 2<y.2:=35
   dsimp only;generalize (y.1+y.2) / 2=m at d l ⊢;let h:=Tp l b.uk;rw[e];calc Sk (ku C u q o N n (Sx _) (YU (UD h) lo) (aF (λc=>So ⟨rfl,d,UD h,?_,b.dn,λi a d=>Tp (Wh c) (sg _ _ (VT _ _) a d)⟩) λc=>So ⟨rfl,l,b.uk,?_,λi a d=>Sd (sg i (lo+m) a (Yw d) (Nat.add_lt_add_left h lo)) (Xh.mp λe=>c (U6 e)),b.up⟩));have:=b.m;dsimp only at this ⊢;lia;have:=b.m;dsimp only at this ⊢;lia
  case ipost =>
   rintro c g @⟨y,_,e,b⟩;rw[e];let g:lo+k<(arrOf f).size:=N.le o n;let n:=YU b.uk lo;let h:=Ho (r:=r) g (Xr (lo+k) (lo+y.1));rw[Nat.sub_sub_self n]at h;let l:∀i,i<lo+y.1->rk r (bubble (arrOf f) (lo+k) (lo+k - (lo+y.1))) i=rk r (arrOf f) i:=λi d=>by rw[h,if_neg (Uv d),if_neg λe=>Nat.lt_asymm d e.1]
   let m:=h (lo+y.1);rw[Rr rfl]at m;let o:∀i,lo+y.1<=i->i<lo+k->rk r (bubble (arrOf f) (lo+k) (lo+k - (lo+y.1))) (i+1)=rk r (arrOf f) i:=λi d e=>by rw[h,if_neg (Yk (Nat.lt_succ_of_le d)),Rr ⟨Nat.lt_succ_of_le d,e⟩];rfl
   calc Sk (zC3 (So ⟨⟨N.k,N.f,N.p,(bubble_perm _ _ _).trans N.a,λi p=>?_⟩,λi j a d c=>?_⟩));show(bubble (arrOf f) (lo+k) (lo+k - (lo+y.1)))[i]?=_;let h:=Tp p (VT lo y.1);rw[getElem?_bubble g _ (Xr _ _),Nat.sub_sub_self n,if_neg (Uv h),if_neg λe=>Nat.lt_asymm h e.1];calc N.fr i p;show rk r (bubble (arrOf f) (lo+k) (lo+k - (lo+y.1))) i<=rk r (bubble (arrOf f) (lo+k) (lo+k - (lo+y.1))) j;generalize bubble (arrOf f) (lo+k) (lo+k - (lo+y.1))=w at l m o ⊢;rcases zCL j (lo+y.1)with q|q|q;rw[l i (Xf d q),l j q];calc sg i j a d (Tp q n);rw[q]at d ⊢;obtain g|g:=zCo d;rw[m,l i g];calc b.dn i a g;rw[g];calc Sx _;cases j with
   |zero=>calc absurd q (zDf _)
   |succ j =>
    let f:=Yw q;let e:=Nat.lt_of_succ_lt_succ c;rw[o j f e];rcases zCL i (lo+y.1)with g|g|g;rw[l i g];calc sg i j a (Sd (UD g) f) e;rw[g,m];calc UD (b.up j f e);cases i with
    |zero=>calc absurd g (zDf _)
    |succ i =>
     let a:=Yw g;let b:=Nat.le_of_succ_le_succ d;rw[o i a (Xf b e)];calc sg i j (Sd (VT _ _) a) b e
end
def Chain:List (Nat×Nat×Nat)->Nat->Nat->Prop
 |[],s,e=>s=e
 |q::a,s,e=>q.1=s/\0<q.2.1/\Chain a (s+q.2.1) e
theorem Chain.len:∀{ps:List (Nat×Nat×Nat)} {s e:Nat},Chain ps s e->s+#[ps]<=e
 |[],s,e,h=>by let a:s=e:=h;simp[a]
 |q::ps,s,e,h=>by let⟨_,b,a⟩:=h;rw[Xo,zC6 _ 1,<- zCw];calc Sd (zCZ (YU b s) _) (Chain.len a)
theorem Chain.app:∀{ps qs:List (Nat×Nat×Nat)} {s e:Nat},Chain (ps++qs) s e↔∃ m,Chain ps s m/\Chain qs m e
 |[],qs,s,e=>⟨λh=>⟨s,rfl,h⟩,λ⟨m,f,d⟩=>by have:s=m:=f;cbv⟩
 |q::ps,qs,s,e=>by constructor;rintro⟨a,b,c⟩;let⟨m,f,d⟩:=Chain.app.mp c;calc⟨m,⟨a,b,f⟩,d⟩;rintro⟨m,⟨a,b,c⟩,d⟩;calc⟨a,b,Chain.app.mpr ⟨m,c,d⟩⟩
theorem Chain.in_:∀{ps:List (Nat×Nat×Nat)} {s e:Nat},Chain ps s e->∀q∈ps,s<=q.1/\q.1+q.2.1<=e
 |[],_,_,_,q,h=>by cases h
 |p::ps,s,e,h,q,d=>by
  let⟨a,b,c⟩:=h;let l:=Chain.len c;obtain z|z:=S8.mp d;rw[z,a];calc⟨Sx _,Sd (VT _ _) l⟩;calc⟨Sd (VT _ _) (Chain.in_ c q z).1,(Chain.in_ c q z).2⟩
theorem xU{f:Nat×Nat×Nat->Nat×Nat×Nat}(d:∀q,(f q).1=q.1/\(f q).2.1=q.2.1):∀{ps:List (Nat×Nat×Nat)} {s e:Nat} (i:Nat),Chain ps s e->Chain (ps.modify i f) s e
 |[],s,e,i,h=>72
 |q::ps,s,e,0,⟨a,b,c⟩=>by calc⟨(d q).1.trans a,by rw[(d q).2];calc b,by rw[(d q).2];calc c⟩
 |q::ps,s,e,i+1,⟨a,b,c⟩=>by calc⟨a,b,xU d i c⟩
theorem CP{f:Nat×Nat×Nat->Nat×Nat×Nat}(b:∀q,(f q).1=q.1/\(f q).2.1=q.2.1):∀{ps:List (Nat×Nat×Nat)} (i:Nat) {q:Nat×Nat×Nat},q∈ps.modify i f->∃a∈ps,q.1=a.1/\q.2.1=a.2.1
 |[],i,q,h=>72
 |p::ps,0,q,h=>72
 |p::ps,i+1,q,h=>by
  obtain z|z:=S8.mp h;grind;let⟨a,m,e⟩:=CP b i z;calc⟨a,46,e⟩
def Jr{ps:List (Nat×Nat×Nat)}{q:Nat×Nat×Nat}(h:q∈ps.modify i f)(b:∀q,(f q).1=q.1/\(f q).2.1=q.2.1):∃a∈ps,q.1=a.1/\q.2.1=a.2.1:=CP b i h
section
variable{M:Model}{A:Around}{E:yaa}{s:Shared}{r:Keyed->Nat}{Mem:Keyed->Prop}{k0:SortKind}
structure PI(r:Keyed->Nat)(st st':SortSt)(lo:Nat):Prop where
 k:kindOf st'=kindOf st
 f:failedOf st'=failedOf st
 a:(arrOf st').Perm (arrOf st)
 ch:Chain (pendingOf st').toList 0 lo
 sg:∀q∈(pendingOf st').toList,Seg r (arrOf st') q.1 (q.1+q.2.1)
theorem PI.size{st a:SortSt}{lo:Nat}(h:PI r st a lo):(arrOf a).size=(arrOf st).size:=h.a.size_eq
def PI.mem{st a:SortSt}{lo:Nat}(h:PI r st a lo)(b:∀x∈(arrOf st).toList,Mem x):∀x∈(arrOf a).toList,Mem x:=λx a=>b x ((zCs.mp h.a).mem_iff.mp a)
def oK{xs ys:Array Keyed}{lo a:Nat}(h:Seg r xs lo a)(e:∀i,lo<=i->i<a->ys[i]?=xs[i]?):Seg r ys lo a:=λi j a b c=>by rw[gn (e i a 35),gn (e j 35 c)];calc h i j a b c
def Px{b:Type}{l:List b}{i:Nat}(h:i+1<#[l]):∃a x y bs,l=a++(x::y::bs)/\#[a]=i/\l[i]?=some x/\l[i+1]?=some y:=by
 refine⟨l.take i,l[i],l[i+1],l.drop (i+2),?_,72,46,46⟩
 cbv
def Df{st c:SortSt}{lo i:Nat}{Q:Bool->SortSt->Prop}(C:Ys M A E s r Mem k0)(q:kindOf st=k0)(z:failedOf st=none)(N:∀x∈(arrOf st).toList,Mem x)(f:lo<=(arrOf st).size)(I:PI r st c lo)(a:i+1<(pendingOf c).size)
  (h:∀d,PI r st d lo->(pendingOf d).size+1=(pendingOf c).size->(∀i,lo<=i->(arrOf d)[i]?=(arrOf c)[i]?)->Q true d):wpS M A E s (mergeAt' i) Q c:=by
 let⟨as,x,y,U,j,L,Q,O⟩:=Px (l:=(pendingOf c).toList) a;let b:=I.ch;rw[j]at b;let⟨m,G,⟨o,w,⟨B,t,l⟩⟩⟩:=Chain.app.mp b;let u:=Sd (VT _ _) l.len;rw[zCw]at u l;let k:=I.size;let⟨P,p,S,e,g,b⟩:=NJ (arrOf c) (lo:=m) (n:=x.2.1+y.2.1) (by rw[k];calc Sd u f);obtain⟨X,Y,n,f,k⟩:∃X Y,p=X++Y/\#[X]=x.2.1/\#[Y]=y.2.1:=⟨p.take x.2.1,p.drop x.2.1,(XH _ _).symm,by rw[Wq];lia,by rw[Xg];lia⟩;subst n;let H:=I.sg x (by rw[j];simp);let p:=I.sg y (by rw[j];simp);let n:(arrOf c).toList=P++(X++(Y++S)):=by rw[e,WI]
 let T:(arrOf c).toList=(P++X)++(Y++S):=by rw[n,WI]
 let J:X.Pairwise λx y=>r x<=r y:=lT n (by rw[g,f,<- o];calc H)
 let H:Y.Pairwise λx y=>r x<=r y:=lT T (by rw[UQ,g,f,k,<- B];calc p)
 refine Js C (I.k.trans q) (I.f.trans z) (I.mem N) (sa:=x.1) (na:=x.2.1) (p:=x.2.2) (sb:=y.1) (nb:=y.2.1) (p2:=y.2.2) (by rw[<- Uz];calc Q) (by rw[<- Uz];calc O) n 35 f k 35 w t J H λd Z O N t n H J=>?_
 let p:(pendingOf d).toList=as++((x.1,x.2.1+y.2.1,x.2.2)::U):=by rw[t,Array.toList_eraseIdxIfInBounds,Array.toList_setIfInBounds,j,<- L,List.set_append_right _ _ (Sx _),zDS,List.set_cons_zero,List.eraseIdx_append_of_length_le 35,zBl];rfl
 let t:#[Z]=x.2.1+y.2.1:=by rw[H.length_eq,UQ,f,k]
 let k:∀i,i<m->(arrOf d)[i]?=(arrOf c)[i]?:=λi a=>by rw[<- Uz,<- Uz,n,e,WR (by rw[g];calc a),WR (by rw[g];calc a)]
 let f:∀i,m+(x.2.1+y.2.1)<=i->(arrOf d)[i]?=(arrOf c)[i]?:=λi a=>by
  let C:#[P]<=i:=by rw[g];exact Sd (VT _ _) a
  let B:x.2.1+y.2.1<=i - #[P]:=by rw[g];exact Nat.le_sub_of_add_le' a
  rw[<- Uz,<- Uz,n,e,WH C,WH C,WH (by rw[t];calc B),WH (by rw[b];calc B),t,b]
 refine h d ⟨O.trans q.symm,N.trans z.symm,?_,?_,λq b=>?_⟩ ?_ λi a=>f i (Sd u a)
 calc Array.Perm.trans (zCs.mpr ?_) I.a;rw[n,e];calc List.Perm.append_left _ (List.Perm.append_right _ H);rw[p];calc Chain.app.mpr ⟨m,G,o,Nat.add_pos_left w _,l⟩;rw[p]at b;obtain z|z:=S7.mp b;have:=G.in_ q z;exact oK (I.sg q (by rw[j];calc Xe _ z)) λi a b=>k i (Tp b this.2)
 obtain z|z:=S8.mp z;rw[z];show Seg r (arrOf d) x.1 (x.1+(x.2.1+y.2.1));have:=B9 (r:=r) n J;rw[g,t]at this;rw[o];calc this;have:=l.in_ q z;exact oK (I.sg q (by rw[j];calc VA _ (U1 _ (U1 _ z)))) λi a b=>f i (Sd this.1 a)
 let b:(pendingOf d).toList.length=(pendingOf d).size:=rfl;let a:(pendingOf c).toList.length=(pendingOf c).size:=rfl;rw[<- b,<- a,p,j];simp only[UQ,Xo]
 lia
structure RI(r:Keyed->Nat)(st:SortSt)(x lo:Nat)(st':SortSt):Prop where
 le:lo<=(arrOf st).size
 x:x<=lo∨(arrOf st).size<=lo
 i:PI r st st' lo
def ix2{n:Nat}(h:1<n):n - 2+1<n:=by let⟨k,e⟩:=Nat.exists_eq_add_of_le' h;rw[e];calc zCS (k+1)
def HA{st:SortSt}{Q:Unit->SortSt->Prop}(C:Ys M A E s r Mem k0)(w:kindOf st=k0)(B:failedOf st=none)(t:pendingOf st=#[])(u:∀x∈(arrOf st).toList,Mem x)(L:1<=(arrOf st).size)
  (h:∀g,(arrOf g).Perm (arrOf st)->failedOf g=none->Seg r (arrOf g) 0 (arrOf st).size->Q () g):wpS M A E s sortRuns' Q st:=by
 let c:PI r st st 0:=⟨rfl,rfl,Array.Perm.refl _,by rw[t];calc rfl,λq j=>by rw[t]at j;cases j⟩;calc Sk (wpS_get ?_);refine Sk (Xs (Xq (a:=0) (b:=(arrOf st).size) (I:=λx=>CV (RI r st x)) (Q:=CW (arrOf st).size (PI r st · (arrOf st).size)) ?_ ?_ ⟨Uw _,.inl (Sx _),c⟩) ?_)
 ·rintro x z l _ H @⟨lo,_,I⟩;refine aF (λc=>?_) λc=>?_
  let e:lo=(arrOf st).size:=Zk I.le c;subst e;calc So ⟨I.i⟩;let c:lo<(arrOf st).size:=zDW c;refine Sk (FP C (I.i.k.trans w) (I.i.mem u) (XJ ((Nat.add_sub_of_le I.le).trans I.i.size.symm)) (zDO c) λm f d i N sg=>?_)
  suffices key:∀n k,Nr lo l k->Seg r (arrOf k) lo (lo+n)->0<n->lo+n<=(arrOf st).size->wpS M A E s _ _ k by
   refine aF (λp=>?_) λp=>?_
   rotate_left
   obtain⟨n,l⟩:∃n,n=m:=⟨_,rfl⟩;rw[<- l];rw[<- l]at sg d i;calc key n f N sg d (zDR I.le i);calc Sk (wpS_lift (Y1 ⟨rfl,?_⟩));let o:=zDR I.le (Nat.min_le_left ((arrOf st).size - lo) (minRun' (arrOf st).size (arrOf st).size 0));calc Sk (Iz C ((N.k.trans I.i.k).trans w) (N.mem (I.i.mem u)) (by rw[N.size,I.i.size];calc o) sg λk i sg3=>aF (λz=>absurd z 29) λ_=>?_);exact key _ _ (N.trans i) sg3 (Nat.lt_min.mpr ⟨zDO c,Nat.lt_trans d p⟩) o
  clear N sg;intro n k N sg G o;let y:PI r st k lo:=⟨N.k.trans I.i.k,N.f.trans I.i.f,N.a.trans I.i.a,by rw[N.p];calc I.i.ch,λq j=>by rw[N.p]at j;calc oK (I.i.sg q j) λi a b=>N.fr i (Tp b (I.i.ch.in_ q j).2)⟩
  let l:∀d:SortSt,PI r st d lo/\Seg r (arrOf d) lo (lo+n)->RI r st (x+1) (lo+n) (setPending d ((pendingOf d).push (lo,n,0))):=λd ⟨m,p⟩=>⟨o,.inl (Nat.add_le_add (I.x.resolve_right (Nat.not_le.mpr c)) G),m.k,m.f,m.a,by
   show Chain ((pendingOf d).push (lo,n,0)).toList 0 (lo+n);rw[zCc];calc Chain.app.mpr ⟨lo,m.ch,rfl,G,rfl⟩,λq j=>by
   let o:q∈((pendingOf d).push (lo,n,0)).toList:=j;rw[zCc]at o;obtain z|z:=S7.mp o;calc m.sg q z;rw[Vp.mp z];calc p⟩
  calc Sk (wpS_get ?_);dsimp only;split;calc Sk (Xs (Xq (a:=0) (b:=(arrOf st).size) (I:=λ_=>CW () λd=>PI r st d lo/\Seg r (arrOf d) lo (lo+n)) (Q:=CW () λd=>PI r st d lo/\Seg r (arrOf d) lo (lo+n)) ?_ (λ_ _ z=>z) ⟨y,sg⟩) ?_);rintro x z d _ H ⟨p⟩;calc Sk (wpS_get ?_);split;rename_i m;let t:(pendingOf d).size > 1:=by by_cases c:(pendingOf d).size > 1;calc c;rw[if_neg c]at m;cases m
  exact aF (λ_=>So ⟨p⟩) λ_=>Sk (Df C w B u I.le p.1 (ix2 t) λJ n _ m=>aF (λz=>absurd z 29) λ_=>So ⟨n,oK p.2 λi a b=>m i a⟩)
  calc So ⟨p⟩;rintro z d ⟨p⟩;calc Sk (zC3 ?_);calc Sk (zC3 (So ⟨l _ ⟨⟨p.1.k,p.1.f,p.1.a,?_,λq j=>?_⟩,p.2⟩⟩));show Chain ((pendingOf d).modify _ _).toList 0 lo;rw[Array.toList_modify];calc xU ?_ _ p.1.ch;exact λ_=>⟨rfl,rfl⟩
  let o:q∈((pendingOf d).modify _ _).toList:=j;rw[Array.toList_modify]at o;let⟨d,i,m,j⟩:=Jr o λ_=>⟨rfl,rfl⟩
  rw[m,j];calc p.1.sg d i;exact Sk (zC3 (So ⟨l _ ⟨y,sg⟩⟩))
 rintro z g @⟨lo,_,I⟩;let e:lo=(arrOf st).size:=Zk I.le (I.x.elim (Sd (Nat.le_max_right _ _)) id);subst e;calc⟨I.i⟩;rintro z g ⟨I⟩;let d:=I.ch.len;rw[Yl]at d;calc Sk (Xs (Xq (a:=0) (b:=(arrOf st).size) (I:=λx=>CW () λf=>PI r st f (arrOf st).size/\((pendingOf f).size<=1∨(pendingOf f).size+x<=(arrOf st).size)) (Q:=CW () λf=>PI r st f (arrOf st).size/\(pendingOf f).size<=1) ?_ ?_ ⟨I,.inr d⟩) ?_);rintro x z f _ H ⟨p⟩;calc Sk (wpS_get (aF (λc=>So ⟨p.1,c⟩) λc=>?_));let c:1<(pendingOf f).size:=zDW c;let d:∀(c:Prop) [Decidable c],(if c then(pendingOf f).size - 2 - 1 else(pendingOf f).size - 2)+1<(pendingOf f).size:=λ_ _=>by split;calc Xf (zCZ (Xr _ 1) 1) (ix2 c);exact ix2 c
 calc Sk (Df C w B u (Sx _) p.1 (d _) λk y T _=>aF (λz=>absurd z 29) λ_=>So ⟨y,.inr (by have:=p.2;lia)⟩);rintro z f ⟨p⟩;calc⟨p.1,by have:=p.2;lia⟩;rintro z f ⟨p⟩;calc So (h f p.1.a (p.1.f.trans B) ?_);let e:(pendingOf f).toList.length<=1:=p.2;let d:=p.1.ch;let sg:=p.1.sg;generalize (pendingOf f).toList=f at e d sg;obtain _|⟨q,_|⟨O,f⟩⟩:=f;calc absurd L (d ▸ Nat.not_succ_le_zero _);let⟨a,b,c⟩:=d;let b:0+q.2.1=(arrOf st).size:=c;have:=sg q 52;rw[a,b]at this;calc this;calc absurd (Nat.le_of_succ_le_succ e) (Nat.not_succ_le_zero _)
end
end TS
namespace SW
open PySem PyProof.Rows
section
variable{prog:Program}{w:World}{A:Around}{E:yaa}{s:Shared}
def Jj(a:(TK prog w).is h k c)(b:(TK prog w).is h k' c):k=k':=by let⟨o,e,n,j,p,m,l⟩:=a;let⟨g,d,i,Xj,Yz,Xt,f⟩:=b;grind [PySem.ItemsAre.inj]
def GF {zs:List (yaf×Addr)} {P:PySem.Fin->Shared->Prop} (g:s.heap.get? a=some (seqObj "list" ((zs.map (·.2)).map Value.ref).toArray n)) (hz:#[zs]<=sizeLine)
  (h:∀z∈zs,(TK prog w).is s.heap z.1 z.2/\z.1 ≠ [])
  (l:∀h' (ys:List (yaf×Addr)) i,ys.Perm zs->ys.Pairwise (λx y=>lexLt y.1 x.1=false)->(∀b o,b≠a->s.heap.get? b=some o->h'.get? b=some o) →
   h'.get? a=some (seqObj "list" ((ys.map (·.2)).map Value.ref).toArray i)->P (.done (.ret .none)) {s with heap:=h'}):wpAny (model prog w) A (Builtin.«list.sort» ⟨[.ref a],[]⟩) P E s:=by
 let u:a<s.heap.objs.size:=SJ g;let f:#[(zs.map (·.2)).map Value.ref]=#[zs]:=by rw[RG,RG]
 obtain⟨e,c⟩:∃e,(s.heap.update a (Obj.mapSeq λ_=>(#[]:yao))).get? a=some (seqObj "list" #[] e):=⟨_,get?_update_seq g λ_=>#[]⟩;rw[list_sort_plain];calc Rm (listItems_at g rfl ?_);calc Rm (listUpdate_at g rfl ?_ (by rw[WJ,f];calc hz) (Uw _));calc Rm (seqEpoch_at c rfl ?_);calc Rm (wpAny_newTuple ?_ (by show#[(zs.map (·.2)).map Value.ref]<=_;rw[f];calc hz));calc Rm (wpAny_newList ?_ (Uw _));calc VU ?_;show wpAny (model prog w) A _ P E {s with heap:=((s.heap.update a (Obj.mapSeq λ_=>(#[]:yao))).push (seqObj "tuple" ((zs.map (·.2)).map Value.ref).toArray 0)).push (seqObj "list" #[] 0)};let d:(((s.heap.update a (Obj.mapSeq λ_=>(#[]:yao))).push (seqObj "tuple" ((zs.map (·.2)).map Value.ref).toArray 0)).push (seqObj "list" #[] 0)).get? a=some (seqObj "list" #[] e):=T6 _ (T6 _ c);let m:∀b o,b≠a->s.heap.get? b=some o->(((s.heap.update a (Obj.mapSeq λ_=>(#[]:yao))).push (seqObj "tuple" ((zs.map (·.2)).map Value.ref).toArray 0)).push (seqObj "list" #[] 0)).get? b=some o:=λb o j e =>
  T6 _ (T6 _ ((Ze _ _ (Ne.symm j)).trans e))
 generalize ((s.heap.update a (Obj.mapSeq λ_=>(#[]:yao))).push (seqObj "tuple" ((zs.map (·.2)).map Value.ref).toArray 0)).push (seqObj "list" #[] 0)=H at d m ⊢;let k:∀(ys:List (yaf×Addr)) (c:yao),ys.Perm zs->ys.Pairwise (λx y=>lexLt y.1 x.1=false)->c=((ys.map (·.2)).map Value.ref).toArray->P (.done (.ret .none)) {s with heap:=H.update a (Obj.mapSeq λ_=>c)}:=λys c O S e=>by subst e;obtain⟨i,c⟩:∃i,(H.update a (Obj.mapSeq λ_=>((ys.map (·.2)).map Value.ref).toArray)).get? a=some (seqObj "list" ((ys.map (·.2)).map Value.ref).toArray i):=⟨_,get?_update_seq d λ_=>((ys.map (·.2)).map Value.ref).toArray⟩;exact l _ ys i O S (λb o j e=>(Ze _ _ (Ne.symm j)).trans (m b o j e)) c
 let l:(((zs.map (·.2)).map Value.ref).toArray.zip ((zs.map (·.2)).map Value.ref).toArray).toList=zs.map λz=>(Value.ref z.2,Value.ref z.2):=72
 dsimp only;by_cases a:((zs.map (·.2)).map Value.ref).toArray.size<2;rw[Rr a,Rr a];calc Rm (Rz ?_);rw[StateT.run_pure];calc Rm (Rz ?_);dsimp only;calc Rm (seqEpoch_at d rfl ?_);let b:(((zs.map (·.2)).map Value.ref).toArray.zip ((zs.map (·.2)).map Value.ref).toArray).map (·.2)=((zs.map (·.2)).map Value.ref).toArray:=by apply Array.toList_inj.mp;rw[Array.toList_map,l,UA,UA];rfl
 calc Rm (listUpdate_at d rfl ?_ (hsz2:=by rw[b,WJ,f];calc Nat.le_succ_of_le hz));simp only[bne_self_eq_false,zCT,if_false];calc Rz (k zs _ (List.Perm.refl _) ?_ b);rw[WJ,f]at a
 match zs,a with
 |[],_=>calc .nil
 |[_],_=>exact List.pairwise_singleton _ _
 rw[if_neg a,if_neg a];rw[WJ,f]at a;let i:∀z∈zs,(TK prog w).is H z.1 z.2/\z.1 ≠ []:=λz b=>by let⟨a,c⟩:=h z b;exact⟨mK a λo e=>m z.2 o (key_ne a g rfl 29) e,c⟩
 let f:∀(j:Nat) (c:Addr),(zs.map (·.2))[j]?=some c->∃z∈zs,zs[j]?=some z/\z.2=c:=λj c a=>by
  rw[UR]at a;cases e:zs[j]? with
  |none=>rw[e]at a;cases a
  |some z=>rw[e]at a;cases a;exact⟨z,UX e,rfl,rfl⟩
 refine Rm (BL (s:={s with heap:=H}) (cs:=zs.map (·.2)) (K:=λj=>(zs.getD j ([],0)).1) (by rw[RG];lia) (λj c a=>by let⟨z,b,e,rfl⟩:=f j c a;rw[Wo,e];calc i z b) ?_)
 let' key:Keyed->yaf:=λp=>by
  classical
  exact if q:∃z∈zs,p.1=Value.ref z.2 then(Classical.choose q).1 else[]
 let h:∀z∈zs,∀v,key (Value.ref z.2,v)=z.1:=λz b v=>by
  let q:∃a∈zs,(Value.ref z.2:Value)=Value.ref a.2:=⟨z,b,rfl⟩;show(if q:∃a∈zs,(Value.ref z.2:Value)=Value.ref a.2 then(Classical.choose q).1 else[])=z.1;rw[dif_pos q];let⟨m,e⟩:=Classical.choose_spec q;let f:z.2=(Classical.choose q).2:=by injection e
  let c:=(i _ m).1;rw[<- f]at c;exact Jj c (i z b).1
 let C:TS.Ys (model prog w) A E {s with heap:=H} (λp=>rank (zs.map (·.1)) (key p)) (λp=>∃z∈zs,p=(Value.ref z.2,Value.ref z.2)) (tuples' true):=⟨λx y st Q ⟨z,f,m⟩ ⟨a,c,g⟩ j q=>by subst m g;rw[lt'_eq];calc Sk (wpS_get ?_);rw[j];calc Sk (wpS_lift (zCd (FK (i z f).1 (i a c).1 ⟨rfl,?_⟩)));calc So ?_;rw[h z f,h a c,C4 (SG.mpr ⟨z,f,rfl⟩) (SG.mpr ⟨a,c,rfl⟩)]at q;calc q⟩
 calc Rm (VP (TS.HA (Q:=λ_ a=>∃ys:List (yaf×Addr),ys.Perm zs/\ys.Pairwise (λx y=>lexLt y.1 x.1=false)/\failedOf a=none/\(arrOf a).toList=ys.map λz=>(Value.ref z.2,Value.ref z.2)) C rfl rfl rfl ?_ ?_ ?_) ?_ λ_ _ e=>e);intro x e;let c:x∈(((zs.map (·.2)).map Value.ref).toArray.zip ((zs.map (·.2)).map Value.ref).toArray).toList:=e;rw[l]at c;let⟨z,b,rfl⟩:=SG.mp c;calc⟨z,b,rfl⟩;show 1<=(((zs.map (·.2)).map Value.ref).toArray.zip ((zs.map (·.2)).map Value.ref).toArray).size;rw[<- VM,l,RG]
 lia
 intro a i f sg;let b:=zCs.mp i;let c:(arrOf a).toList.Perm (((zs.map (·.2)).map Value.ref).toArray.zip ((zs.map (·.2)).map Value.ref).toArray).toList:=b;rw[l]at c;let⟨ys,b,g⟩:=AX c zs rfl;calc⟨ys,b,?_,f,g⟩;let r:(arrOf a).toList.length=#[ys]:=by rw[g,RG]
 let c:((arrOf a).toList).Pairwise λx y=>rank (zs.map (·.1)) (key x)<=rank (zs.map (·.1)) (key y):=TS.lT (xs:=arrOf a) (P:=[]) (S:=[]) 52 (by have:(arrOf a).toList.length=(((zs.map (·.2)).map Value.ref).toArray.zip ((zs.map (·.2)).map Value.ref).toArray).size:=i.size_eq;rw[this];show TS.Seg _ (arrOf a) 0 (0+_);rw[Yl];calc sg)
 rw[g,zDK]at c;refine c.imp_of_mem fun {x y} e j q=>?_
 let i:=b.mem_iff.mp e;let c:=b.mem_iff.mp j;rw[h x i,h y c]at q;rw[<- C4 (SG.mpr ⟨y,c,rfl⟩) (SG.mpr ⟨x,i,rfl⟩)];calc decide_eq_false (Xh.mpr q);rintro⟨⟨⟩,a⟩ t ⟨rfl,ys,b,e,f,g⟩;dsimp only;let c:(arrOf a).map (·.2)=((ys.map (·.2)).map Value.ref).toArray:=by apply Array.toList_inj.mp;rw[Array.toList_map,g,UA,UA];rfl
 rw[c];calc Rm (seqEpoch_at d rfl ?_);calc Rm (listUpdate_at d rfl ?_ (Uw _) (by rw[WJ,RG,RG,b.length_eq];calc Nat.le_succ_of_le hz));let c:failedOf a=none:=f;rw[c];simp only[bne_self_eq_false,zCT,if_false];calc Rz (k ys _ b e rfl)
end
open PySem PySem.SetTable ST PySem.W PyProof.Rows
section
variable{prog:Program}{w:World}{A:Around}{E:yaa}{s:Shared}
def QL(prog:Program)(w:World)(A:Around)(s:Shared)(v:Value)(xs:List (yaf×Addr)):Prop:=∀(R:yad->Shared->Prop) (E:yaa),(∀s1 (a:List (yaf×Addr)),a.Perm xs->(∀b o,s.heap.get? b=some o->s1.heap.get? b=some o)->s1.gens=s.gens->s1.drawn=s.drawn->s1.os=s.os->s.heap.objs.size<=s1.heap.objs.size->R ((a.map (·.2)).map Value.ref) s1)->wpAny (model prog w) A (collect v) R E s
def HC{Q:yaa}(a:QL prog w A.in1 s v xs)(u:#[xs]<=900)(p:∀x∈xs,(TK prog w).is s.heap x.1 x.2/\x.1 ≠ [])
  (k:∀s' (D:Addr) (ys:List (yaf×Addr)) c,(∀b o,s.heap.get? b=some o->s'.heap.get? b=some o)->s'.gens=s.gens->s'.drawn=s.drawn->s'.os=s.os->s.heap.objs.size<=D->ys.Perm xs->ys.Pairwise (λx y=>lexLt y.1 x.1=false) →
   s'.heap.get? D=some (seqObj "list" (ys.map λy=>Value.ref y.2).toArray c)->Q (.ref D) s'):wpAny (model prog w) A (call (.builtin "sorted") [v]) Q E s:=by
 calc Calls.call_function_entry kind_sorted plain_sorted entry_sorted (args_sorted1 _) ?_;calc Rm (m:=checkCount "sorted" 1 1 _) (Rz ?_);calc Rm (a _ _ λa c f kp m l g3 g=>?_);let t:#[c]=#[xs]:=f.length_eq;let r:900<=sizeLine:=29
 calc Rm (wpAny_newList ?_ (by rw[RG,RG];lia));let d:(a.heap.push (seqObj "list" ((c.map (·.2)).map Value.ref).toArray 0)).get? a.heap.objs.size=some (seqObj "list" ((c.map (·.2)).map Value.ref).toArray 0):=Vj _ rfl;let h:∀b o,s.heap.get? b=some o->(a.heap.push (seqObj "list" ((c.map (·.2)).map Value.ref).toArray 0)).get? b=some o:=λb o e=>T6 _ (kp b o e)
 refine Rm (VU (YY slot_list_sort ⟨_,d,rfl⟩ entry_list_sort ?body (args_list_sort _)))
 case body =>
  refine GF (s:={a with heap:=a.heap.push (seqObj "list" ((c.map (·.2)).map Value.ref).toArray 0)}) d 35 (λz j=>?_) λB ys n i d q c=>?_
  have:=p z (f.mem_iff.mp j);calc⟨mK this.1 λo e=>h _ o e,this.2⟩;calc⟨_,rfl,Rz ⟨_,rfl,k _ a.heap.objs.size ys n (λb o e=>?_) m l g3 g (i.trans f) d ?_⟩⟩;calc q b o (Uv (Tp (SJ e) g)) (h b o e);rw[UA]at c;calc c
def Ca{Q:yaa}(hh:A.handled=none)(X:jt prog w s.heap a xs)(e:#[xs]<=900)(q:∀x∈xs,x.1 ≠ [])
  (n:∀d (D:Addr) (ys:List (yaf×Addr)) c,(∀b o,s.heap.get? b=some o->d.heap.get? b=some o)->d.gens=s.gens->d.drawn=s.drawn->d.os=s.os->s.heap.objs.size<=D->ys.Perm xs->ys.Pairwise (λx y=>lexLt x.1 y.1=true) →
   d.heap.get? D=some (seqObj "list" (ys.map λy=>Value.ref y.2).toArray c)->Q (.ref D) d):wpAny (model prog w) A (call (.builtin "sorted") [.ref a]) Q E s:=by
 let⟨⟨o,g,p,t,l,b,m,f,T,B,_,_⟩,i,j⟩:=X;let h:g.size=#[xs]:=by rw[<- VM,f,RG]
 refine HC (xs:=xs) (λR E' k=>?_) e (λx e=>⟨i x e,q x e⟩) λd D ys c z u t r q e i o=>n d D ys c z u t r q e ?_ o
 refine BH (show A.in1.handled=none from hh) l b.1 m T (by rw[RG,h]) B 35 λd b kp n m g3 l I=>?_
 let⟨c,h,H⟩:=AX (sU w a g p) xs f;let a:b=(c.map (·.2)).map Value.ref:=46
 rw[a];calc k d c h kp n m g3 l;let b:(ys.map (·.1)).Nodup:=(e.map (·.1)).nodup_iff.mpr j;let a:ys.Pairwise λx y=>x.1≠y.1:=zDK.mp b
 refine(i.and a).imp fun {x y} a=>?_
 let⟨G,C⟩:=a;grind [lR]
end
end SW
namespace PD
open PySem PySem.Spec PyProof.Rows L2
section
variable{X:Cx}{pos:Pos}
def boot_sorted:bootBuiltins "sorted" = some (.builtin "sorted"):=85
def boot_set:bootBuiltins "set" = some (.type "set"):=85
theorem uV:∀{ns:yaf} {a:yad},Vals (ns.map V.int) a->PySem.ItemsAre (intKind prog w) ns a
 |[],a,r=>by rw[zDh]at r;cases r;calc .nil
 |n::ns,a,r=>by
  rw[Vq]at r;cases r with
  |cons h t =>
   let⟨b,rfl⟩:=h;calc .cons (by simp[intKind,Value.isInt]) (uV t)
def CJ{k:yaf}(I:Inv X pins σ H s)(h:SK X.K H a (k.map V.int)):(SW.TK X.prog X.w).is s.heap k a:=by let⟨c,r,⟨o,e,b,n,a⟩,_⟩:=I.tuple h.w;calc⟨o,c.toArray,n,e,b,a,by simpa using uV r⟩
def Gi(a:bS k A):A.in1.in1.in1.units<cLine:=Xf (YU (29:3<=64) _) a.units
def tupI(k:yaf):D:=.tup (k.map D.int)
def QG{K:yac}{P:yak}{H:Hp}{k:yaf}{v:V}(h:Den K P H (tupI k) v):∃a,v=.ref a/\SK K H a (k.map V.int):=by let⟨a,c,e,q,b⟩:=h.UY;rw[dh b]at q;calc⟨a,e,q⟩
def zw(ys a:List (yaf)):Prop:=ys.Pairwise (λx y=>SW.lexLt x y=true)/\∀k,k∈ys↔k∈a
def II(te:DE):DA:=λa Q=>te a λd=>∃t a,d=.lst t (a.map tupI)/\#[a]<=900/\(∀k∈a,k ≠ [])/\∀b,zw b a->Q (b.map tupI)
def uM {e:Expr} {te:DE} {p p2 O:Pos} (hc:X.calm=true) (hu:X.A.in1.in1.in1.units<cLine) (hg:Gl X "sorted") (hm:X.mg "sorted" = none) (hg2:Gl X "set") (W4:X.mg "set" = none) (he:RU X e te)
  (UJ:starEach [.Call (.Name "set" p2) [e] [] O] X.env=(false,eval (.Call (.Name "set" p2) [e] [] O) X.env)::starEach [] X.env:=by rfl) (TF:(backTo pos (starEach [] X.env)).any (·.1)=false:=by rfl)
  (YG:starEach [e] X.env=(false,eval e X.env)::starEach [] X.env:=by rfl) (C:(backTo O (starEach [] X.env)).any (·.1)=false:=by rfl) :
  WN X (.Call (.Name "sorted" p) [.Call (.Name "set" p2) [e] [] O] [] pos) (II te):=by
 intro g s U H W ρ Q I r h;calc Z8 (di I hg hm boot_sorted ?_ 29 29);calc PyProof.Rows.callWith_builtin1 ?_ UJ TF;rw[UJ];calc Calls.spliced_cons ?_;calc Z8 (di I hg2 W4 boot_set ?_ 29 29);calc PyProof.Rows.callWith_type1 ?_ YG C;rw[YG];calc Calls.spliced_cons (Rw (he g s U H W ρ _ I r h) λu J Ry=>?_);let⟨v,o,d,w,L,e1,hd,t,f,ed,lk,TQ,q⟩:=Ry;subst ed;let⟨l,vs,ev,_,hq,hw⟩:=hd.UI;subst ev;cases L;calc Rz ?_;let⟨T,L,pl,_⟩:=w.list hq;let hh:=w.ok.hd hc;let lvs:#[vs]=#[f]:=by rw[hw.len,RG]
 let l:#[T]=#[f]:=by rw[<- #[L],lvs]
 let G:∀(j:Nat) (k:yaf),f[j]?=some k->∃c:Addr,T[j]?=some (Value.ref c)/\SK X.K o c (k.map V.int):=λj k hk=>by let⟨v,ev,hv⟩:=hw.get (i:=j) (d:=tupI k) (by rw[UR,hk];rfl);let⟨c,rfl,hc⟩:=QG hv;let⟨u,eu,ru⟩:=L.get ev;cases ru;exact⟨c,eu,hc⟩
 refine SW.call_set_list hh hu pl.isList (by rw[WJ];lia) (λj=>f.getD j []) (λj v hj=>?_) λh2 x Y kp S yl yk yi=>?_
 let X7:T[j]?=some v:=by simpa using hj
 let a:j<#[f]:=by rw[<- l];exact(VE.mp X7).1
 let⟨c,E,N⟩:=G j f[j] (T5 a);rw[X7]at E;cases E;rw[show f.getD j []=f[j]by simp[a]];calc⟨c,rfl,CJ w N⟩;let I2:L2.Inv X g U o {J with heap:=h2,toks:=x}:=w.kept kp;calc Rz ?_;rw[WJ]at yl yk yi;let m:∀k,k∈Y.map (·.1)↔k∈f:=λk=>by rw[yk k];constructor;rintro⟨j,a,e⟩;rw[l]at a;rw[e,show f.getD j []=f[j]by simp[a]];calc XW a;intro hk;let⟨j,a,e⟩:=XT hk;exact⟨j,by rw[l];calc a,by rw[<- e];simp[a]⟩
 let den:∀y∈Y,SK X.K o y.2 (y.1.map V.int):=λy M=>by
  let⟨j,a,n⟩:=yi y M;let b:T[j]?=some (.ref y.2):=by simpa using n
  rw[l]at a;let⟨c,E,N⟩:=G j f[j] (T5 a);rw[b]at E;cases E;let i:=CJ I2 N;rw[(SW.TK X.prog X.w).inj (S.is_ y M) i];exact N
 refine SW.Ca (s:={J with heap:=h2,toks:=x}) hh S 35 (λy M=>TQ _ ((m _).mp (SG.mpr ⟨y,M,rfl⟩))) λA D i c kp' g1 g2 g3 le B sz hD=>?_
 let lz:#[i]=#[Y]:=B.length_eq;let es:A={J with heap:=A.heap,toks:=A.toks}:=by cases A;dsimp only at g1 g2 g3 ⊢;subst g1 g2 g3;rfl
 let t:J.heap.objs.size<=D:=by let⟨_,_,_,_,ho,_⟩:=S.ex;exact UD (Tp (SJ ho) le)
 let nD:o D=none:=w.R5.fresh t;let I3:L2.Inv X g U (L2.upd o D (.lst (i.map λz=>V.ref z.2))) A:=by
  rw[es];calc w.laid (λb u e=>kp' b u (kp b u e)) t ⟨by rw[RG,Tq];lia,i.map λz=>Value.ref z.2,c,?_,hD⟩;clear B sz hD lz
  induction i with
  |nil=>calc .nil
  |cons z i ih=>exact .cons rfl ih
 let dz:ah X.K W.bad o ((i.map (·.1)).map tupI) (i.map λz=>V.ref z.2):=by
  let UG:∀z∈i,SK X.K o z.2 (z.1.map V.int):=λz t=>den z (B.mem_iff.mp t)
  clear B sz hD lz I3
  induction i with
  |nil=>calc rfl
  |cons z i ih =>
   calc ah.cons (Den.tup (UG z XU) ?_) (ih λz t=>UG z (U1 _ t));show ah X.K W.bad o (z.1.map PD.D.int) (z.1.map V.int);generalize z.1=k
   induction k with
   |nil=>calc rfl
   |cons n k b=>exact ah.cons (Den.int n) b
 let b:=Inv.kno I3 aQ;calc⟨D,_,_,_,rfl,I3,e1.trans (av.upd nD),e1.free nD,b,aQ,ah.apart nD b dz,q _ ⟨?_,λk=>?_⟩⟩;calc zDK.mpr sz;rw[(B.map (·.1)).mem_iff];calc m k
end
end PD
namespace HT
open PySem PyProof.Rows
section
open PySem.SeqAt
open PySem.AutoSeq1 (wpAny_loadPart')
open PySem.MeetsSeq PySem.MeetsSeq2 PySem.MeetsSeq3
end
end HT
namespace PD
open PySem PySem.Spec PyProof.Rows L2
section
variable{X:Cx}{pos:Pos}
def Ln (G:X.calm=true):cN X (.builtin "min") (λp Q=>∃(t:Bool) (ns:yaf),p=[.lst t (ns.map D.int)]/\0<#[ns]/\∀m,m∈ns->(∀n∈ns,m<=n)->Q (.int m)):=by
 intro k s O H W p U Y Q I tr r E q;let⟨t,ns,e,h,q⟩:=q;subst e;let⟨v,rfl,J⟩:=k7 E;let⟨a,T,M,_,B,A⟩:=J.UI;subst M;cases r with
 |cons w u =>
  cases u;cases w;let⟨Ru,i,x,_⟩:=I.list B;rw[dh A]at i;let l:=intsAre_of i;let⟨b,o⟩:=l.allInts.items;let C:s.heap.IsList a (intItems b):=by rw[<- o];exact x.isList
  let d:ns=b.toList.map (·.1):=by rw[<- l.numsOf,<- nums_intItems,<- o]
  let f:0<b.size:=by rw[d,RG,VM]at h;exact h
  refine min_intList (I.ok.hd G) C f λy h' tk z kp=>?_
  let⟨tt,rfl⟩:=intItems_at z;let⟨g1,L⟩:=argBest_lt (numAt b) (b.size - 1);let g:∀j,j<b.size->b.toList.map (·.1) ≠ []->numAt b j∈ns:=λj c _=>by
   rw[d,numAt_eq];have:(b.toList.map (·.1))[j]?=some ((b.toList.map (·.1)).getD j 0):=by simp[c]
   exact UX this
  calc⟨.int _,H,_,I.kept kp,⟨_,rfl⟩,av.refl H,Den.int _,q _ (g _ (by omega) (by rw[<- d];calc zDd h)) λn m=>?_⟩;rw[d]at m;let⟨j,c,N⟩:=XT m;have:numAt b j=n:=by rw[numAt_eq,<- N];simp only[Wo,T5 c,Option.getD_some]
  rw[<- this];rw[RG,VM]at c;calc L j (by omega)
end
def IX(g f g3:DG)(a b c:D)(ρ:Ro)(Q:Ro->Prop):k9 3 (b9 g (b9 f (b9 g3 k8))) (.tup [a,b,c]) ρ Q=g a ρ λe=>f b e λd=>g3 c d Q:=by rw[Ee 3 _ _ rfl];simp only[gdc,gdn]
end PD
namespace SW
open PySem PySem.SetTable ST PySem.W PyProof.Rows
section
variable{prog:Program}{w:World}{A:Around}{E:yaa}{s:Shared}
structure Rj(prog:Program)(w:World)(h:Heap)(a:Addr)(xs:List (Int×Tok)):Prop where
 ex:∃o es ep t,h.get? a=some o/\o.ExactSet/\o.data=.set es ep t/\es.toList=xs.map (λx=>((intKind prog w).hash x.1,Value.int x.1 x.2))/\Tab t (xs.map λx=>(intKind prog w).hash x.1)/\(t.plain=true/\t.led=!w.params.followText "set-order")/\7<=t.mask
 nd:(xs.map (·.1)).Nodup
end
end SW
namespace PD
open PySem PySem.Spec PyProof.Rows L2
section
variable{X:Cx}{pos:Pos}
theorem uL{K:yac}{P:yak}{H:Hp}:∀a:yaf,ah K P H (a.map D.int) (a.map V.int)
 |[]=>rfl
 |n::a=>ah.cons (Den.int n) (uL a)
end
section
variable{X:Cx}
inductive BDQ (X:Cx) (pins:yab) (P:yak) (Q:D->Prop) (f:Flow) (s1:Shared):Prop
 |mk (u:Value) (v:V) (d:D) (R6:St) (H':Hp) (_:f=.ret u) (_:Inv X pins R6 H' s1) (_:RelV v u) (_:av X.Sj H') (_:Den X.K P H' d v) (_:Q d)
abbrev BDP(X:Cx)(pins:yab)(W:Own)(Q:D->Prop):Flow->Shared->Prop:=BDQ X pins (λt a=>W.B a∨(t=true/\W.S a)) Q
abbrev DB:=(D->Prop)->Ro->Prop
def ZZ(X:Cx)(d:yal)(t:DB):Prop :=
 ∀ (b:yab) (s:Shared) (a:St) (H:Hp) (W:Own) (c:Ro) (Q:D->Prop),Inv X b a H s->Rel X W H a c->(∀a o,X.Sj a=some o->W.S a)->t Q c →
  wpAny (model X.prog X.w) X.A (execs d X.env) (BDP X b W Q) X.xe s
theorem Sm.ent(f:Sm W H W' H')(r:Rel X W H σ ρ):av X.Sj H' where
 kp:=λb o e n=>f.kp b o (λi z=>by have:=r.ke i b z;lia) (r.ent.kp b o e n) n
 tb:=λb a e=>by let⟨g,c⟩:=r.ent.tb b a e;let⟨d,h⟩:=f.tb b _ c;grind
 ok:=λk=>f.ok (r.ent.ok k)
def Ag{K:yac}{W b:Own}{H H':Hp}{d:D}{v:V}(f:Sm W H b H')(h:Den K b.bad H' d v):Den K (λt a=>W.B a∨(t=true/\W.S a)) H' d v:=h.R9 λt a z=>by
 obtain z|z:=z;calc .inl (by rw[f.B];calc z);calc .inr (.inr ⟨z.1,by rw[f.S];calc z.2⟩)
def FW(t:DS)(u:DB):DB:=λQ a=>t {nx:=u Q,rt:=Q} a
def dQ{st:Stmt}{rest:yal}{t:DS}{u:DB}(e:US X st t)(g:ZZ X rest u):ZZ X (st::rest) (FW t u):=by
 intro a s b H W c Q I r d h;calc zCj (Rw (e a s b H W c _ I r h) λf c e=>?_);let⟨k,h,j,i,b,q⟩:=e;cases f with
 |next =>
  let⟨f,e,q⟩:=q;refine Rw (g a c h j k f Q i e (by rw[b.S];calc d) q) λn m ⟨w,v,d,c,l,e,k,f,sm,a,g⟩=>⟨w,v,d,c,l,e,k,f,sm,?_,g⟩
  rw[b.B,b.S]at a;calc a
 |ret w =>
  let⟨v,d,f,a,g⟩:=q;calc⟨w,v,d,h,j,rfl,i,f,b.ent r,Ag b a,g⟩
 |brk=>let⟨_,_,q⟩:=q;calc q.elim
 |cont=>let⟨_,_,q⟩:=q;calc q.elim
def Kv(t:DS):DB:=λQ a=>t {nx:=λ_=>False,rt:=Q} a
def Nv{st:Stmt}{t:DS}(d:US X st t):ZZ X [st] (Kv t):=by
 intro a s b H W c Q I r k h;calc zCj (Rw (d a s b H W c _ I r h) λf j b=>?_);let⟨W',g,i,h,a,q⟩:=b;cases f with
 |next=>let⟨_,_,q⟩:=q;calc q.elim
 |ret w =>
  let⟨v,d,b,e,c⟩:=q;calc⟨w,v,d,g,i,rfl,h,b,a.ent r,Ag a e,c⟩
 |brk=>let⟨_,_,q⟩:=q;calc q.elim
 |cont=>let⟨_,_,q⟩:=q;calc q.elim
def Qi(X:Cx)(t:DB):TS:=λD a H=>∃W b Q,Rel X W H a b/\(∀a o,X.Sj a=some o->W.S a)/\t Q b/\∀b v d,av X.Sj b->Den X.K (λt a=>W.B a∨(t=true/\W.S a)) b d v->Q d->D.rt v b
def ZZ.ps(h:ZZ X ss t):PSs X ss (Qi X t):=by
 intro a s b H D I q;let⟨W,c,Q,r,d,e,k⟩:=q;refine Rw (h a s b H W c Q I r d e) λf j g=>?_
 let⟨u,v,d,h,a,e,i,b,sm,f,c⟩:=g;subst e;calc⟨v,h,a,i,b,k a v d sm f c⟩
theorem ZZ.nox(h:ZZ X.nox ss t):ZZ X ss t:=λa s b H W c Q I r d e =>
 VP (h a s b H W c Q (I.wish _) (r.wish _) d e) (λ_ _ f=>(by let⟨u,v,d,g,i,e,h,a,b,c,q⟩:=f;calc⟨u,v,d,g,i,e,h.Ts,a,b,c,q⟩)) λ_ _ z=>False.elim z
end
section
variable{P:Program}{w:World}{K:yac}{mg:yam}{base:Heap}
def aw.okB{x a:Str}{st:Stmt}{f:Addr}{e:FuncData}{N ps:yah}{k:Nat}{sp:DSp}(F:aw K x a st f e)(S:ay N ps (ao st))(d:∀b Q E,sp b Q E->#[b]=#[ps])
  (o:∀(c:Value) (A:Around) (outer:List Env) (s:Shared) (H:Hp) (E:XK),bS k (A.deeper (envOfC a (ao st) s.heap.objs.size f c)) →
   ∃ t,ZZ (c9 (CX1 P w) P w K mg base N a (ao st) f c A outer s H E).nox (cn st) t/\∀b Q Ed,sp b Q Ed->t Q (cG N b)):aG P w K mg base (CX1 P w) (k+1) f e ps (aH K sp):=by
 let⟨y,u,B,kV,n,r,G,c,C,g,rfl,lk,a⟩:=F.ex;refine Kz lk a S (λa H Q E h=>?_) λA outer s H a Q E j h=>?_
 let⟨_,b,_,_,_,_,e,f,_⟩:=h;rw[e.len];calc d b _ _ f;let⟨p,b,d,Ed,l,m,e,f,i,z⟩:=h;let⟨t,a,k⟩:=o c A outer s H E j;calc⟨_,a.nox.ps,⟨p,λ_=>none,λa=>∃o,H a=some o⟩,_,d,Rel.start m e rfl l,λa o e=>⟨o,e⟩,k b d Ed f,λb v d sm a q=>?_⟩;calc i d v b sm a q
end
section
variable{X:Cx}
def Rel.forget(r:Rel X W H σ ρ)(i:Nat):Rel X W H σ (ρ.set i none) where
 val:=λj d h=>by
  by_cases e:j=i
  ·subst e;by_cases l:j<#[ρ]
   all_goals cbv
  rw[Vm (Ne.symm e)]at h;exact r.val j d h
 own:=λj d h=>by
  by_cases e:j=i
  ·subst e;by_cases l:j<#[ρ]
   all_goals cbv
  rw[Vm (Ne.symm e)]at h;exact r.own j d h
 inj:=r.inj
 kn:=r.kn
 ke:=r.ke
 bt:=r.bt
 st:=r.st
 ent:=r.ent
 tab:=r.tab
def Rel.apart{H':Hp}{Z:Addr->Prop}(r:Rel X W H σ ρ)(l:∀a,¬Z a->H' a=H a)(h:∀a,Z a->∃e b,H a=some (.lst e)/\H' a=some (.lst b))(p:∀i a,W.O i=some a->¬Z a)
  (hv:∀(j:Nat) (d:D) (v:V),ρ[j]?=some (some (Sl.val d))->σ[j]?=some (some v)->Den X.K W.bad H d v->Den X.K (λt a=>W.bad t a∨Z a) H d v)
  (s:∀(j:Nat) (x:OS),ρ[j]?=some (some (Sl.ob x))->∃zs,x=OS.lst zs/\fg zs=true) (o:av X.Sj H') (m:ig X.K H'):Rel X W H' σ ρ:=by
 let i:∀c b,SK X.K H c b->SK X.K H' c b:=λc b q=>by let w:H c=some (.tup b):=q;show H' c=_;grind
 let g:∀c u,Zv u->H c=some u->H' c=some u:=λc u n q=>by rw[l c λz=>by let⟨e,_,f,_⟩:=h c z;rw[f]at q;cases q;calc n];exact q
 let k:∀t c b,¬(W.bad t c∨Z c)->UH X.K H t c b->¬W.bad t c/\UH X.K H' t c b:=λt c b n q=>by
  let e:=l c 46;calc⟨46,?_,λz=>⟨by rw[e];calc(q.2 z).1,(q.2 z).2⟩⟩;rcases q.1 with(q|⟨u,q⟩)|q;calc .inl (.inl (by rw[e];calc q));calc .inl (.inr 72);exact .inr q
 let b:∀c u,H c=some u->∃e,H' c=some e:=72
 calc⟨λj d h=>?_,λj x h=>?_,r.inj,λj a h=>?_,r.ke,λa h=>let ⟨u,q⟩:=r.bt a h;b a u q,λa h=>let ⟨u,q⟩:=r.st a h;b a u q,o,m⟩;let⟨v,f,c⟩:=r.val j d h;calc⟨v,f,Den.map i k g d v (hv j d v h f c)⟩;let⟨zs,rfl,d⟩:=s j x h;let⟨a,b,f,c,m,e⟩:=r.Xw j zs h;calc⟨a,.lst b,f,c,by rw[l a (p j a f)];calc m,.lst ?_⟩;calc ah.map i k g zs b (ah.ZO zs b d e);let⟨e,d,o,c,b⟩:=r.kn j a h;calc⟨e,d,o,by rw[l a (p j a h)];calc c,b⟩
def rLs(K:yac):yar->Hp->VK->Prop:=λb H Q=>∃p a,b=[.ref p]/\(SqL K H p a∨L2.SK K H p a)/\∀l,H l=none->Q (.ref l) (L2.upd H l (.lst a))
def tLi(K:yac)(i:Nat)(k:Int):TE:=tCB (rLs K) (rV (tOp (JT K) (E5 i) (tC (.int k))) E4)
def Qs {x:Str} {p:Pos} (i:Nat) (d:Gl X "list") (b:X.mg "list" = none) (c:X.N[i]?=some x:=by rfl) (hv:Ym X.env.scope x:=by first|calc Or.inl rfl|calc Or.inr (Or.inl rfl)|calc Or.inr (Or.inr rfl)) (e:(x==("__debug__" : Str))=false:=by decide) (f:(x==("__classdict__" : Str))=false:=by decide)
  (a:starEach [.Subscript (.Name x px) (.Constant (.int k) j pk) ps] X.env=(false,eval (.Subscript (.Name x px) (.Constant (.int k) j pk) ps) X.env)::starEach [] X.env:=by rfl) (g:(backTo pos (starEach [] X.env)).any (·.1)=false:=by rfl) :
  PE X (.Call (.Name "list" p) [.Subscript (.Name x px) (.Constant (.int k) j pk) ps] [] pos) (tLi X.K i k) :=
 yw pS d b boot_list (gI (KO Az (fU c hv e f) AW (by intro _ _;rfl)) mT a) 29 29 a g
end
def FL(K:yac)(x:Str)(st:Stmt):Prop:=∃(f:Addr) (e:Value) (d:Option Addr) (kV g c:Value) (i:Option Addr) (a h:Value) (b:Array (yan)),
 PySem.W.nsIn K mainGlobals x=some (some (.ref f))/\K.lookup f=some ⟨e,d,.func (PySem.W.fnOf x x (dg st) (cn st) (ao st) .none kV g c i a h),b⟩/\PySem.W.codeIn K a x=true/\PySem.W.keepIn K (.ref f)=true
def FL.mk{K:yac}{x:Str}{st:Stmt}{f:Addr}{j:Value}{i:Option Addr}{kV k h:Value}{m:Option Addr}{e l:Value}{g:Array (yan)}(a:PySem.W.nsIn K mainGlobals x=some (some (.ref f)))
  (b:K.lookup f=some ⟨j,i,.func (PySem.W.fnOf x x (dg st) (cn st) (ao st) .none kV k h m e l),g⟩) (c:PySem.W.codeIn K e x=true) (d:PySem.W.keepIn K (.ref f)=true):FL K x st:=⟨f,j,i,kV,k,h,m,e,l,g,a,b,c,d⟩
def FL.has{K:yac}{x:Str}{st:Stmt}{h:Heap}{a:yam}{k:Nat}{ps:yah}{sp:DSp}(e:FL K x st)(P:Program)(w:World)(base:Heap)(X:K.In h)(G:h.Ns mainGlobals a)
  (o:∀{f:Addr} {b:FuncData},aw K x x st f b->aG P w K a base (CX1 P w) k f b ps (aH K sp))
  (p:∀(kV j i:Value) (n:Option Addr) (m l:Value),wD #[ps] λg=>bindArgs (PySem.W.fnOf x x (dg st) (cn st) (ao st) .none kV j i n m l) ⟨g,[]⟩=pure (ps.zip g):=by
   repeat intro _
   rfl):SN P w K a base x k ps sp:=by
 let⟨f,s,r,kV,j,i,n,m,l,q,a,b,c,d⟩:=e;calc⟨f,_,o (rC b c d),PySem.W.mg_of X G a,d,.all λg a=>qZ g a (p kV j i n m l)⟩
end PD
namespace HT
open PySem PyProof.Rows
section
open PySem.SeqAt
open PySem.AutoSeq1 (wpAny_loadPart')
open PySem.MeetsSeq PySem.MeetsSeq2 PySem.MeetsSeq3
end
end HT
namespace PD
open PySem PySem.Spec PyProof.Rows L2
section
variable{prog:Program}{w:World}{A:Around}{E:yaa}{s:Shared}{p:Addr}{us:yad}{Q:yaa}
def PG{x:Int}(a:s.heap.IsList p us.toArray)(hz:#[us]*x.toNat<=256)(h0:0<=x)(j:x<=4096)
  (h:Q (.ref s.heap.objs.size) {s with heap:=s.heap.push {cls:=.type "list", data:=.seq (List.replicate x.toNat us).flatten.toArray} }):wpAny (model prog w) A (binaryOp .Mult (.ref p) (.int x tk)) Q E s:=by
 let⟨⟨k,g,i,d⟩,b,c,f,g3⟩:=id a;subst c g3;let z:us.toArray.size*x.toNat<=256:=46
 let e:∀a:Shared,a.TypeIs (.int x tk) "int" := λa=>typeIs_int a _ tk
 let a:s.TypeIs (.ref p) "list" := ⟨_,b,rfl⟩;let c:=lm_list_mul_any p us.toArray f g d x tk
  (by simp[Builtin.List.listFitsIndex];lia)
  35
  (by simp[Builtin.List.listTooLong,sizeLine];lia)
 calc wpAny_binaryOp_repeat_ref (U := "int") 29 a e noFill_list_mul PySem.F.fills_int_mul PySem.F.slot_int_rmul repeat_list PySem.F.slot_int_index.lookup ?_;calc call_meets PySem.F.slot_int_rmul (e s) PySem.F.entry_int_rmul (PySem.F.args_int_rmul_2 _ _) (lm_int_rmul_list_any x tk p us.toArray f g d) ⟨b,rfl,a,?_⟩;calc call_meets PySem.F.slot_list_mul a PySem.F.entry_list_mul (PySem.F.args_list_mul_2 _ _) c ⟨b,?_⟩;rw[listMul_foldl_if];calc h
end
section
variable{X:Cx}{pos:Pos}
theorem Bv(h:Vals vs us):∀n,Vals (List.replicate n vs).flatten (List.replicate n us).flatten
 |0=>by calc .nil
 |n+1=>by calc h.append (Bv h n)
theorem Ai{K:yac}{P:yak}{H:Hp}{b:yas}{a:yar}(h:ah K P H b a):∀n,ah K P H (List.replicate n b).flatten (List.replicate n a).flatten
 |0=>by simp[ah]
 |n+1=>by calc h.append (Ai h n)
def MO:RD2:=λx y Q=>∃t a n,x=.lst t a/\y=.int (Int.ofNat n)/\n<=4096/\#[a]*n<=256/\Q (.lst true (List.replicate n a).flatten)
def JB:TB X (binaryOp .Mult) MO:=by
 intro f s m H W x y v u r w Q I i e h k j q;let⟨t,o,n,c,b,l,G,q⟩:=q;subst c b;let⟨p,d,c,_,a,g⟩:=k.UI;let b:=j.SM;subst c b;cases e;let⟨z,rfl⟩:=h;let⟨h,c,b,_⟩:=I.list a;let E:=g.len;let B:=#[c];let a:H s.heap.objs.size=none:=I.R5.fresh (Sx _);let e:#[h]*n<=256:=46
 calc PG (x:=Int.ofNat n) b.isList e 46 (Int.ofNat_le.mpr l) ?_;let A:256<=sizeLine:=29
 let C:(List.replicate n d).flatten.length<=256:=by simp_all [Nat.mul_comm]
 calc⟨.ref s.heap.objs.size,L2.upd H s.heap.objs.size (.lst (List.replicate n d).flatten),_,I.laid (t':=s.toks) (λb u e=>T6 _ e) (Sx _) ⟨35,(List.replicate n h).flatten,0,Bv c n,Vj _ rfl⟩,rfl,av.upd a,Den.lst (CS i a) (.new aQ (Inv.Um I)) ((Ai g n).same (av.upd a)),q⟩
end
section
variable{X:Cx}
structure Told(K:yac)(H:Hp)(b c t0:Addr)(k0:Int)(us ws qs:yar):Prop where
 hb:H b=some (.lst (.int k0::us))
 hc:H c=some (.lst (.ref t0::ws))
 ht:H t0=some (.tup (.ref b::qs))
 kb:K.lookup b=none
 kc:K.lookup c=none
 kt:K.lookup t0=none
end
end PD
namespace PZ
open PySem PySem.Spec PyProof.Rows
def ZHe (h:Heap) (z TI TO a:Addr) (f:Bool):Prop:=h.get? z=some {cls:=.type "zip", dict:=none,data:=.fields #[rawInt a,.bool f,.bool false,.ref TI,.ref TO],slots:=#[]}
section
variable{prog:Program}{w:World}{A:Around}{E:yaa}{s:Shared}{k1 k2:Bool}{z TI TO i1 i2 l1 l2 a:Addr}{f:Bool}{i:Nat}{xs ys:yao}{oa:Obj}
def Au{Q:Bool->Shared->Prop}(hz:ZHe s.heap z TI TO a f)(b:s.heap.get? a=some oa)(h:∀g,ZHe g z TI TO a true->Heap.SameBut z s.heap g->Q false {s with heap:=g}):wpAny (model prog w) A (Builtin.SmallTypes.ownedTupleIsFree (.ref z)) Q E s:=by
 calc Rm (VY hz rfl (x:=rawInt a) rfl ?_);calc Rm (PySem.W.kdx_alive b ?_);calc Rm (VY hz rfl (x:=.bool f) rfl ?_);cases f with
 |true=>simp_all [Rz,Heap.SameBut.refl]
 |false=>calc Rm (zCV hz 52 λg (c:ZHe g z TI TO a true) b=>Rz (h g c b))
def HZ{x y:Value}{Q:yan->Shared->Prop}(D:Ap z TI TO i1 i2)(r:Out z TO i1 i2 l1)(k:Out z TO i1 i2 l2)(hz:ZHe s.heap z TI TO a f)(d:s.heap.get? a=some oa)(l:IsPair s.heap TI (.ref i1) (.ref i2))(m:Vs k1 s.heap i1 l1 i)(B:Vs k2 s.heap i2 l2 i)
  (g:UT k1 s.heap l1 xs) (q:UT k2 s.heap l2 ys) (h:xs[i]?=some x) (t:ys[i]?=some y)
  (u:∀h',ZHe h' z TI TO a true->IsPair h' TI (.ref i1) (.ref i2)->Vs k1 h' i1 l1 (i+1)->Vs k2 h' i2 l2 (i+1)->IsPair h' s.heap.objs.size x y->(∀c o,c≠z->c≠i1->c≠i2->s.heap.get? c=some o->h'.get? c=some o)->Q (some (.ref s.heap.objs.size)) {s with heap:=h'}):wpAny (model prog w) A (pyNext (.ref z)) Q E s:=by
 let b:s.TypeIs (.ref z) "zip" := ⟨_,hz,rfl⟩;calc Rm (zCd (zBa (name:=Str.ofString "__next__") b F.slot_zip_next (YY F.slot_zip_next b F.entry_zip_next ?_ (F.args_zip_next_1 _))));show wpAny _ _ (field (.ref z) 2 >>= _) _ _ _;calc Rm (VY hz rfl (x:=.bool false) rfl ?_);calc Rm (VY hz rfl (x:=.ref TI) rfl (Rm (Yy l rfl ?_)));calc Rm (Au hz d λd p j=>?_);let b:∀c o,c≠z->s.heap.get? c=some o->d.get? c=some o:=λc o n e=>j.extBut c o n e
 calc Rm (Rm (Rm (VU ?_)));calc Rm (ve (s:={s with heap:=d}) (m.of λo e=>b _ o D.a3 e) (g.of λo e=>b _ o r.c1 e) h λh r g=>Rz (Rz ?_));let d:∀c o,c≠z->c≠i1->s.heap.get? c=some o->h.get? c=some o:=λc o n m e=>g.extBut c o m (b c o n e)
 calc Rm (Rm (VU ?_));calc Rm (ve (s:={s with heap:=h}) (B.of λo e=>d _ o D.a4 (Ne.symm D.b1) e) (q.of λo e=>d _ o k.c1 k.c3 e) t λg3 q b=>Rz (Rz ?_));calc Rz ?_;show wpAny _ _ (newTuple [x,y] >>= _) _ _ _;let h:g3.objs.size=s.heap.objs.size:=by rw[b.1,g.1,j.1]
 let j:∀c o,c≠z->c≠i1->c≠i2->s.heap.get? c=some o->g3.get? c=some o:=λc o n m k e=>b.extBut c o k (d c o n m e)
 calc Rm (wpAny_newTuple (Rz ⟨_,rfl,Rz ?_⟩));rw[h];refine u _ ?_ ?_ (r.of λo e=>?_) (q.of λo e=>?_) ?_ λc o n m k e=>?_
 calc T6 _ (b.extBut _ _ (Ne.symm D.a4) (g.extBut _ _ (Ne.symm D.a3) p));calc T6 _ (j _ _ D.a1 D.a6 D.a7 l);calc T6 _ (b.extBut _ _ D.b1 e);calc T6 _ e;rw[<- h];exact Vj _ rfl
 simp_all [T6]
def Ia{Q:yan->Shared->Prop}(hh:A.handled=none)(D:Ap z TI TO i1 i2)(m:Out z TO i1 i2 l1)(hz:ZHe s.heap z TI TO a f)(d:s.heap.get? a=some oa)(e:IsPair s.heap TI (.ref i1) (.ref i2))(k:Vs k1 s.heap i1 l1 i)(g:UT k1 s.heap l1 xs)(h:xs[i]?=none)
  (j:∀h',(∀c o,c≠z->c≠i1->s.heap.get? c=some o->h'.get? c=some o)->Q none {s with heap:=h'}):wpAny (model prog w) A (pyNext (.ref z)) Q E s:=by
 let b:s.TypeIs (.ref z) "zip" := ⟨_,hz,rfl⟩;calc Rm (zCd (zBa (name:=Str.ofString "__next__") b F.slot_zip_next (YY F.slot_zip_next b F.entry_zip_next ?_ (F.args_zip_next_1 _))));show wpAny _ _ (field (.ref z) 2 >>= _) _ _ _;calc Rm (VY hz rfl (x:=.bool false) rfl ?_);calc Rm (VY hz rfl (x:=.ref TI) rfl (Rm (Yy e rfl ?_)));calc Rm (Au hz d λb p l=>?_);let d:∀c o,c≠z->s.heap.get? c=some o->b.get? c=some o:=λc o n e=>l.extBut c o n e
 calc Rm (Rm (Rm (VU ?_)));calc Rm (En (s:={s with heap:=b}) hh (k.of λo e=>d _ o D.a3 e) (g.of λo e=>d _ o m.c1 e) h λk e l b=>?_);let⟨e,g,h⟩:=b;calc Rm (zCk (T := "StopIteration") (b:=true) ⟨e,g,h⟩ isSubtype_stop (Rz (j k λc o n m q=>l c o m (d c o n q))))
def ZL(k1 k2:Bool)(z TI TO i1 i2 l1 l2 S:Addr)(i:Nat)(h:Heap):Prop:=(i=0/\ZSt k1 k2 z TI TO i1 i2 l1 l2 0 h)∨((∃a f oa,ZHe h z TI TO a f/\h.get? a=some oa/\a≠S/\a≠z/\a≠TO/\a≠i1/\a≠i2)/\IsPair h TI (.ref i1) (.ref i2)/\Vs k1 h i1 l1 i/\Vs k2 h i2 l2 i)
def ZL.keep{h':Heap}(x:ZL k1 k2 z TI TO i1 i2 l1 l2 S i h)(d:z≠S)(c:TI≠S)(j:TO≠S)(B:i1≠S)(y:i2≠S)(kp:∀b o,b≠S->h.get? b=some o->h'.get? b=some o):ZL k1 k2 z TI TO i1 i2 l1 l2 S i h':=by
 rcases x with⟨e,Z⟩| ⟨⟨a,f,oa,o,n,g,m⟩,l,k,h⟩;let⟨p,u,⟨a,b,t⟩,r,q⟩:=Z;calc .inl ⟨e,kp _ _ d p,kp _ _ c u,⟨a,b,kp _ _ j t⟩,r.of 72,q.of 72⟩;calc .inr ⟨⟨a,f,oa,kp _ _ d o,kp _ _ g n,g,m⟩,kp _ _ c l,k.of 72,h.of 72⟩
def ZL.item{x y:Value}{Q:yan->Shared->Prop}(D:Ap z TI TO i1 i2)(q:Out z TO i1 i2 l1)(p:Out z TO i1 i2 l2)(Z:ZL k1 k2 z TI TO i1 i2 l1 l2 S i s.heap)(H:S<s.heap.objs.size)(b:z<s.heap.objs.size/\TO<s.heap.objs.size/\i1<s.heap.objs.size/\i2<s.heap.objs.size)(j:UT k1 s.heap l1 xs)(h:UT k2 s.heap l2 ys)(l:xs[i]?=some x)(k:ys[i]?=some y)
  (m:∀h',ZL k1 k2 z TI TO i1 i2 l1 l2 S (i+1) h'->IsPair h' s.heap.objs.size x y->(∀c o,c≠z->c≠TO->c≠i1->c≠i2->s.heap.get? c=some o->h'.get? c=some o)->Q (some (.ref s.heap.objs.size)) {s with heap:=h'}):wpAny (model prog w) A (pyNext (.ref z)) Q E s:=by
 let⟨M,L,J,I⟩:=b;rcases Z with⟨rfl,Z⟩| ⟨⟨a,f,oa,G,C,B,y,x,u,t⟩,r,o,b⟩;refine K6 D q p Z j h l k λh' g e _ d c n kp=>m h' (.inr ⟨⟨s.heap.objs.size,false,_,g,n,Yk H,Yk M,Yk L,Yk J,Yk I⟩,e,d,c⟩) n kp
 calc HZ D q p G C r o b j h l k λh' g e b d c kp=>m h' (.inr ⟨⟨a,true,oa,g,46,B,y,x,u,t⟩,e,b,d⟩) c 46
def ZL.stop{Q:yan->Shared->Prop}(hh:A.handled=none)(D:Ap z TI TO i1 i2)(g:Out z TO i1 i2 l1)(n:Out z TO i1 i2 l2)(Z:ZL k1 k2 z TI TO i1 i2 l1 l2 S i s.heap)(b:UT k1 s.heap l1 xs)(h:UT k2 s.heap l2 ys)(d:xs[i]?=none)
  (e:∀h',(∀c o,c≠z->c≠TO->c≠i1->c≠i2->s.heap.get? c=some o->h'.get? c=some o)->Q none {s with heap:=h'}):wpAny (model prog w) A (pyNext (.ref z)) Q E s:=by
 rcases Z with⟨rfl,Z⟩| ⟨⟨a,f,oa,m,k,u,t,r,q,p⟩,j,c,l⟩;calc K7 hh D g n Z b h (.inl d) e;calc Ia hh D g m k j c b d λh' kp=>e h' 72
end
structure ZT(h:Heap)(xs ys:yao)(B:Addr)(as:yae):Prop where
 nd:as.Nodup
 ab:∀a∈as,B<=a
 pr:∀(j:Nat) (a:Addr),as[j]?=some a->∃x y,xs[j]?=some x/\ys[j]?=some y/\IsPair h a x y
section
variable{prog:Program}{w:World}{A:Around}{E:yaa}{s:Shared}{k1 k2:Bool}{z TI TO i1 i2 l1 l2 S B:Addr}{xs ys:yao}{R:Result->Shared->Prop}
def QK(hh:A.handled=none)(D:Ap z TI TO i1 i2)(t:Out z TO i1 i2 l1)(r:Out z TO i1 i2 l2)(sB:S<B)(e:z<B/\TO<B/\i1<B/\i2<B)(g:z≠S/\TI≠S/\TO≠S/\i1≠S/\i2≠S/\l1≠S/\l2≠S)(hn:xs.size<=sizeLine)(hxy:xs.size=ys.size)(d:Value){h0:Heap}
  (j:∀h' n a c f,(∀b o,b≠S->b≠z->b≠TO->b≠i1->b≠i2->h0.get? b=some o->h'.get? b=some o)->h'.get? S=some {cls:=.type "list", dict:=none,data:=.seq a c,slots:=#[]}->a.toList=f.map Value.ref->#[f]=xs.size->ZT h' xs ys B f->R (.ok (.ret d)) {s with heap:=h',toks:=n}) :
  ∀ (k i:Nat) (h:Heap) (n c:Nat) (a:yao) (f:yae),xs.size - i=k->i<=xs.size->ZL k1 k2 z TI TO i1 i2 l1 l2 S i h->UT k1 h l1 xs->UT k2 h l2 ys->B<=h.objs.size->(∀b o,b≠S->b≠z->b≠TO->b≠i1->b≠i2->h0.get? b=some o->h.get? b=some o) →
   h.get? S=some {cls:=.type "list", dict:=none,data:=.seq a c,slots:=#[]}->a.toList=f.map Value.ref->#[f]=i->ZT h xs ys B f->codeAny (model prog w) A (.builtin "list.extend.loop" ⟨[.ref S,.ref z,d],[]⟩) R {s with heap:=h,toks:=n}:=by
 let⟨n1,n2,n3,n4,n5,n6,n7⟩:=g;let q:∀{b c:Addr},c<B->B<=b->b≠c:=λhc d=>Yk (Tp hc d)
 let⟨z1,Y,U,Q⟩:=e;intro k
 induction k with
 |zero =>
  intro i h n c a f hk hi m M L p kp hS O I T;calc zCO PySem.F.entry_extend_loop ?_;calc Rm (ZL.stop (s:={s with heap:=h,toks:=n}) (A:=A.in1) hh D t r m M L (Array.getElem?_eq_none 35) λh' l=>?_);let J:∀b,B<=b->∀o,h.get? b=some o->h'.get? b=some o:=λb d o e=>l b o (q z1 d) (q Y d) (q U d) (q Q d) e
  exact Rz (j h' n a c f (λb o N H G C u e=>l b o H G C u (kp b o N H G C u e)) (l S _ (Ne.symm n1) (Ne.symm n3) (Ne.symm n4) (Ne.symm n5) hS) O 35
   ⟨T.nd,T.ab,λj b g=>let ⟨x,y,e1,e2,e3⟩:=T.pr j b g;⟨x,y,e1,e2,J b (T.ab b (UX g)) _ e3⟩⟩)
 |succ k ih =>
  intro i h n c a f hk hi m M L p kp hS O I T;let lt:i<xs.size:=35
  let hx:xs[i]?=some xs[i]:=zBP lt;let hy:ys[i]?=some ys[i]:=zBP 35;let sz:a.size=i:=by rw[<- VM,O,RG,I]
  calc zCO PySem.F.entry_extend_loop ?_;calc Rm (ZL.item (s:={s with heap:=h,toks:=n}) (S:=S) D t r m (Tp sB p) ⟨Tp z1 p,Tp Y p,Tp U p,Tp Q p⟩ M L hx hy λh' hZ' tp l=>?_);let J:=l S _ (Ne.symm n1) (Ne.symm n3) (Ne.symm n4) (Ne.symm n5) hS;let k:∀b o,b≠S->h'.get? b=some o->(h'.update S (Obj.mapSeq (·.push (Value.ref h.objs.size)))).get? b=some o:=λb o m e=>(Ze _ _ (Ne.symm m)).trans e
  let nS:h.objs.size≠S:=Yk (Tp sB p);let m:=k _ _ nS tp;refine Rm (zDG J rfl (Rz ⟨zDY PySem.F.plain_extend_loop _,ih (i+1) _ n _ (a.push (Value.ref h.objs.size)) (f++[h.objs.size]) 35 lt (hZ'.keep n1 n2 n3 n4 n5 k) (M.of λo e=>k _ o n6 (l _ o t.c1 t.c2 t.c3 t.c4 e)) (L.of λo e=>k _ o n7 (l _ o r.c1 r.c2 r.c3 r.c4 e)) ?_
   (λb o N H G C u e=>k b o N (l b o H G C u (kp b o N H G C u e))) (YS _ J rfl) (by rw[zCc,O,VB];rfl) (by rw[UQ,I];rfl) ⟨?_,λb d=>?_,λj b g=>?_⟩⟩) 35 (by rw[Array.size_push,sz];lia))
  calc UD (Xf p (SJ m));calc List.nodup_append.mpr ⟨T.nd,52,λb d c hc=>?_⟩;let⟨j,g⟩:=List.getElem?_of_mem d;let⟨_,_,_,_,e⟩:=T.pr j b g;rw[Vp.mp hc];calc Uv (SJ e);obtain d|d:=S7.mp d;calc T.ab b d;rw[Vp.mp d];calc p;obtain c|c|c:=zCL j #[f];rw[WR c]at g;let⟨x,y,e1,e2,e3⟩:=T.pr j b g;let a:=T.ab b (UX g);calc⟨x,y,e1,e2,k b _ (q sB a) (l b _ (q z1 a) (q Y a) (q U a) (q Q a) e3)⟩;subst c;let e:h.objs.size=b:=by simpa using g
  subst e;calc⟨xs[i],ys[i],by rw[I];calc hx,by rw[I];calc hy,m⟩;rw[zCB (by rw[UQ,zCq];lia)]at g;cases g
end
def Fe:typeLookup (.type "zip") "__len__" = pure none:=85
def Ck:typeLookup (.type "zip") "__length_hint__" = pure none:=85
section
variable{prog:Program}{w:World}{A:Around}{E:yaa}{s:Shared}{k1 k2:Bool}{z TI TO i1 i2 l1 l2 S B:Addr}{xs ys:yao}
def Vs.lt(x:Vs k h it a i):it<h.objs.size:=let ⟨_,e,_⟩:=x.obj;SJ e
def UT.lt{xs:yao}(x:UT k h a xs):a<h.objs.size:=let ⟨_,_,e,_⟩:=x.obj;SJ e
def Nh{R:Result->Shared->Prop}(hh:A.handled=none)(D:Ap z TI TO i1 i2)(C:Out z TO i1 i2 l1)(y:Out z TO i1 i2 l2)(Z:ZSt k1 k2 z TI TO i1 i2 l1 l2 0 s.heap)(r:UT k1 s.heap l1 xs)(q:UT k2 s.heap l2 ys)(t:xs.size<=sizeLine)(h:xs.size=ys.size)(p:S<B)(G:B<=s.heap.objs.size)(n:z<B/\TO<B/\i1<B/\i2<B)
  (a:z≠S/\TI≠S/\TO≠S/\i1≠S/\i2≠S/\l1≠S/\l2≠S) (x:Nat) (k:s.heap.get? S=some {cls:=.type "list", data:=.seq #[] x})
  (u:∀h' m d c j,(∀b o,b≠S->b≠z->b≠TO->b≠i1->b≠i2->s.heap.get? b=some o->h'.get? b=some o)->h'.get? S=some {cls:=.type "list", dict:=none,data:=.seq d c,slots:=#[]}->d.toList=j.map Value.ref->#[j]=xs.size->ZT h' xs ys B j->R (.ok (.ret .none)) {s with heap:=h',toks:=m}) :
  wpAny (model prog w) A.in1 (Builtin.List.listExtendWith (.ref S) (.ref z) .none) (λi g=>match i with|.done f=>R (.ok f) g|.again l=>l.quiet=true/\codeAny (model prog w) A l R g) (λe g=>R (.error e) g) s:=by
 let hz:=Z.z;let c:s.TypeIs (.ref z) "zip" := ⟨_,hz,rfl⟩;calc Rm (wpAny_typeOf (T := "zip") c ?_);let d:Builtin.List.listSameRef (.ref S) (.ref z)=false:=by simp[Builtin.List.listSameRef,Ne.symm a.1]
 simp only[d,show(Value.type "zip" == Value.type "list")=false by decide,show(Value.type "zip" == Value.type "tuple")=false by decide,Bool.or_false,zCT,if_false];calc Rm (wpAny_pyIter_zip hz (Rm (VU ?_)));calc Rm (zDF c Fe ?_);calc Rm (zDF c Ck (Rz ?_));calc Rm (Y1 (Rm ?_));let c:=YS (Obj.mapSeq (·.push Value.none)) k rfl;calc Rm (zDG k rfl (zDG (hz:=by seq_fits) c rfl (Rz ⟨zDY PySem.F.plain_extend_loop _,?_⟩)));let g3:=YS (Obj.mapSeq (·.pop)) c rfl;let kp:∀b o,b≠S->s.heap.get? b=some o->((s.heap.update S (Obj.mapSeq (·.push Value.none))).update S (Obj.mapSeq (·.pop))).get? b=some o:=λb o m e=>(Ze _ _ (Ne.symm m)).trans ((Ze _ _ (Ne.symm m)).trans e)
 refine QK (s:=s) (h0:=s.heap) hh D C y p n a t h .none u xs.size 0 _ _ _ _ [] 35 35 (ZL.keep (.inl ⟨rfl,Z⟩) a.1 a.2.1 a.2.2.1 a.2.2.2.1 a.2.2.2.2.1 kp) (r.of 72) (q.of 72) ?_ 72 g3 rfl rfl ⟨72,72,46⟩
 cbv
def QJ{Q:yaa}(hh:A.handled=none)(D:Ap z TI TO i1 i2)(N:Out z TO i1 i2 l1)(M:Out z TO i1 i2 l2)(Z:ZSt k1 k2 z TI TO i1 i2 l1 l2 0 s.heap)(r:UT k1 s.heap l1 xs)(q:UT k2 s.heap l2 ys)(u:xs.size<=sizeLine)(j:xs.size=ys.size)
  (x:∀h' g d c f,(∀b o,b≠z->b≠TO->b≠i1->b≠i2->s.heap.get? b=some o->h'.get? b=some o)->h'.get? s.heap.objs.size=some {cls:=.type "list", dict:=none,data:=.seq d c,slots:=#[]}->d.toList=f.map Value.ref->#[f]=xs.size->ZT h' xs ys (s.heap.objs.size+1) f->Q (.ref s.heap.objs.size) {s with heap:=h',toks:=g}) :
  wpAny (model prog w) A (call (.type "list") [.ref z]) Q E s:=by
 refine callType_codes (Q₁:=λa e=>a=.ref s.heap.objs.size/\e={s with heap:=s.heap.push {cls:=.type "list", data:=.seq #[]} }) PySem.F.called_list (PySem.F.typeCall_list_1 _) PySem.F.entry_list_init (code_list_new _ ⟨rfl,rfl⟩) λa e a=>?_
 let⟨rfl,rfl⟩:=a;let a:(s.heap.push {cls:=.type "list", data:=.seq #[]}).get? s.heap.objs.size=some {cls:=.type "list", data:=.seq #[]}:=Vj _ rfl;let t:∀b o,s.heap.get? b=some o->(s.heap.push {cls:=.type "list", data:=.seq #[]}).get? b=some o:=λb o e=>T6 _ e
 let h:z<s.heap.objs.size/\TI<s.heap.objs.size/\TO<s.heap.objs.size/\i1<s.heap.objs.size/\i2<s.heap.objs.size/\l1<s.heap.objs.size/\l2<s.heap.objs.size:=by let⟨i,p,⟨_,_,n⟩,l,k⟩:=Z;exact⟨SJ i,SJ p,SJ n,l.lt,k.lt,r.lt,q.lt⟩
 let⟨L,J,I,H,G,C,y⟩:=h;let O:∀{b:Addr},b<s.heap.objs.size->b<s.heap.objs.size+1:=λh=>zDN h
 calc⟨⟨_,a,rfl⟩,PySem.F.args_list_init_2 _ _,?_⟩;calc Rm ?_;calc Rm (Yy a rfl (Rz ?_));let h:=YS (Obj.mapSeq (λ_=>(#[]:yao))) a rfl;let kp:∀b o,b≠s.heap.objs.size->s.heap.get? b=some o->((s.heap.push {cls:=.type "list", data:=.seq #[]}).update s.heap.objs.size (Obj.mapSeq (λ_=>(#[]:yao)))).get? b=some o:=λb o m e=>(Ze _ _ (Ne.symm m)).trans (t b o e)
 calc Rm (zDG a rfl (Rm (wpAny_letGo ?_)));refine Nh (A:=A.in1) (B:=s.heap.objs.size+1) (k1:=k1) (k2:=k2) (TI:=TI) (TO:=TO) (l1:=l1) (l2:=l2) (xs:=xs) (ys:=ys) hh D N M ?_ (r.of λo e=>kp _ o (Uv C) e) (q.of λo e=>kp _ o (Uv y) e) u j 35 ?_ 46 35 _ h λh' g d c f h m q j T=>?_
 let⟨i,p,⟨a,b,n⟩,l,k⟩:=Z;exact⟨kp _ _ (Uv L) i,kp _ _ (Uv J) p,⟨a,b,kp _ _ (Uv I) n⟩,l.of λo e=>kp _ o (Uv H) e,k.of λo e=>kp _ o (Uv G) e⟩
 cbv
 calc⟨rfl,x h' g d c f (λb o f d c a e=>h b o (Uv (SJ e)) f d c a (kp b o (Uv (SJ e)) e)) m q j T⟩
end
end PZ
namespace PD
open PySem PySem.Spec PyProof.Rows L2 PZ
def eR(H:Hp)(n:Addr)(N:List (Addr×HO)):Hp:=λb=>if b<n then H b else(N.find? λp=>decide (p.1=b)).map (·.2)
def mL{n b:Addr}(h:b<n):eR H n N b=H b:=Rr h
theorem CG{b:Addr}{u:HO}:∀{N:List (Addr×HO)},(N.map (·.1)).Nodup->(b,u)∈N->(N.find? λp=>decide (p.1=b))=some (b,u)
 |[],_,m=>by cases m
 |p::r,a,m=>by
  rw[Vq,zB9]at a;rw[List.find?_cons];obtain e|m:=S8.mp m;rw[<- e,U6 rfl];rw[decide_eq_false λe=>a.1 (by rw[e];calc SG.mpr ⟨_,m,rfl⟩)];calc CG a.2 m
def CK{n b:Addr}{u:HO}{N:List (Addr×HO)}(a:(N.map (·.1)).Nodup)(h:n<=b)(m:(b,u)∈N):eR H n N b=some u:=by ext eR;rw[if_neg 46,CG a m];rfl
def AD{n b:Addr}{u:HO}(h:¬b<n)(e:eR H n N b=some u):(b,u)∈N:=by
 unfold eR at e;rw[if_neg h]at e;let⟨p,a,rfl⟩:=Zg.mp e;let z:p.1=b:=by simpa using List.find?_some a
 rw[<- z];calc List.mem_of_find?_eq_some a
section
variable{X:Cx}{pins:yab}{σ:St}{H:Hp}{s:Shared}
theorem Inv.eR{h':Heap}{t':Nat}{N:List (Addr×HO)}(I:Inv X pins σ H s)(k:∀b u,s.heap.get? b=some u->h'.get? b=some u)(d:∀b u,(b,u)∈N->bG X.prog X.w (PD.eR H s.heap.objs.size N) h' b u) :
  Inv X pins σ (PD.eR H s.heap.objs.size N) {s with heap:=h',toks:=t'}:=by
 let lt:∀{b u},H b=some u->PD.eR H s.heap.objs.size N b=some u:=fun {b u} e=>by rw[mL (I.R5.lt e)];exact e
 refine L2.Inv.un I ⟨λb a q _ _ _=>k b a q,λb a q _ _ _=>⟨a.slots,k b a q⟩,λb a q n _=>by rw[mL (SJ q)];calc n,λb a q _=>⟨a,k b a q⟩,λb a q=>lt q,λb o u q=>lt q,λb f q=>⟨#[],by rw[lt q];simp⟩⟩ λb u e=>?_
 by_cases h:b<s.heap.objs.size;rw[mL h]at e;exact(I.R5 b u e).VZ (λc v _ q=>k c v q) (λc q=>lt q) λc a q=>lt q
 calc d b u (AD h e)
def Hr{N:List (Addr×HO)}(I:Inv X pins σ H s)(f:∀b u,(b,u)∈N->∀ps,u ≠ .Xi ps):av H (PD.eR H s.heap.objs.size N):=by
 let d:∀{b u},H b=some u->PD.eR H s.heap.objs.size N b=some u:=fun {b u} e=>by rw[mL (I.R5.lt e)];exact e
 calc⟨λb o q _=>d q,λb ps q=>⟨#[],by rw[d q];simp⟩,λT P ps e=>?_⟩;by_cases h:P<s.heap.objs.size;rw[mL h]at e;let⟨a,b⟩:=T P ps e;calc⟨a,λa g q=>let ⟨c,e1,e2⟩:=b a g q;⟨c,e1,d e2⟩⟩;calc absurd rfl (f P _ (AD h e) ps)
end
theorem yE:∀a:yae,Vals (a.map V.ref) (a.map Value.ref)
 |[]=>.nil
 |_::r=>.cons rfl (yE r)
theorem ah.of_get{K:yac}{P:yak}{H:Hp}:∀{b:yas} {a:yar},#[b]=#[a]->(∀(j:Nat) d v,b[j]?=some d->a[j]?=some v->Den K P H d v)->ah K P H b a
 |[],[],_,_=>ah.nil
 |d::b,v::a,h,k=>ah.cons (k 0 d v rfl rfl) (ah.of_get (Nat.succ.inj h) λj d a c b=>k (j+1) d a c b)
section
variable{X:Cx}{pos:Pos}
def zX(b:DA):DA:=λa R=>b a λg=>∃d c f e a b,g=[d,c]/\fM d=some (f,a)/\fM c=some (e,b)/\#[a]=#[b]/\#[a]<=1000/\R (List.zipWith (λx y=>D.tup [x,y]) a b)
def D8 {a b:Expr} {ta:DA} {p p2 J:Pos} (hc:X.calm=true) (hg:Gl X "list") (hm:X.mg "list" = none) (hg2:Gl X "zip") (W4:X.mg "zip" = none) (ha:Wz X [a,b] ta)
  (UJ:starEach [.Call (.Name "zip" p2) [a,b] [] J] X.env=(false,eval (.Call (.Name "zip" p2) [a,b] [] J) X.env)::starEach [] X.env:=by rfl) (TF:(backTo pos (starEach [] X.env)).any (·.1)=false:=by rfl)
  (hs:starEach [a,b] X.env=(false,eval a X.env)::starEach [b] X.env:=by rfl) (hs2:(backTo J (starEach [b] X.env)).any (·.1)=false:=by rfl) :
  WN X (.Call (.Name "list" p) [.Call (.Name "zip" p2) [a,b] [] J] [] pos) (zX ta):=by
 intro B s σ H W ρ Q I r h;calc Z8 (di I hg hm boot_list ?_ 29 29);calc PyProof.Rows.callWith_type1 ?_ UJ TF;rw[UJ];show wpAny _ _ (spliced ((false,eval (.Call (.Name "zip" p2) [a,b] [] J) X.env)::backTo pos (starEach [] X.env))) _ _ s;calc Calls.spliced_cons ?_;calc Call_ (di I hg2 W4 boot_zip (PyProof.Rows.callWith_type1 (Rw (ha J B s σ H W ρ _ I r h) λus f Ry=>?_) hs hs2));let⟨vs,C,ds,L,r1,e1,hd,q1⟩:=Ry;let⟨d1,d2,k1,k2,xs,ys,e,g1,g2,lxy,l1000,q⟩:=q1;subst e;let⟨v1,v2,rfl,Xk,hd2⟩:=rg hd;let⟨l1,k,e2,sq1,dn1,_⟩:=Xk.seq g1;let⟨l2,g,e3,sq2,dn2,_⟩:=hd2.seq g2;subst e2 e3;cases r1 with
 |cons ra rr =>
  cases rr with
  |cons rb rr =>
   cases rr;cases ra;cases rb;let⟨us1,rv1,p1⟩:=sq1.list L;let⟨us2,Y,p2⟩:=sq2.list L;let n1:=dn1.len;let n2:=dn2.len;let m1:=#[rv1];let m2:=#[Y];refine K5 p1 p2 λw Z kp=>?_
   calc Rz ?_;let Dz:Ap (f.heap.objs.size+4) (f.heap.objs.size+2) (f.heap.objs.size+3) f.heap.objs.size (f.heap.objs.size+1):=by constructor<;>simp
   let G:∀{c:Addr} (j:Nat),c<f.heap.objs.size->c≠f.heap.objs.size+j:=λj h=>Uv (Tp h (VT _ j))
   let O:∀{l:Addr},l<f.heap.objs.size->Out (f.heap.objs.size+4) (f.heap.objs.size+3) f.heap.objs.size (f.heap.objs.size+1) l:=λh=>⟨G 4 h,G 3 h,Uv h,G 1 h⟩
   refine QJ (s:={f with heap:=w}) (L.ok.hd hc) Dz (O p1.lt) (O p2.lt) Z (p1.of λo e=>kp _ o e) (p2.of λo e=>kp _ o e) (by rw[WJ,Tq];lia) (by rw[WJ,WJ];lia) λh2 tk acc c A XO hD ea la T=>?_
   let K:∀b o,f.heap.get? b=some o->h2.get? b=some o:=λb o e=>XO b o (G 4 (SJ e)) (G 3 (SJ e)) (Uv (SJ e)) (G 1 (SJ e)) (kp b o e)
   let zl:f.heap.objs.size<w.objs.size:=Xf (VT _ 4) (SJ Z.z);dsimp only at hD T;rw[WJ]at la;let nD:w.objs.size∉A:=λz=>absurd (T.ab _ z) (Nat.not_le.mpr (zCS _))
   let' N:List (Addr×HO):=(w.objs.size,.lst (A.map V.ref))::(A.zip (k.zip g)).map λt=>(t.1,.tup [t.2.1,t.2.2])
   let hN:N.map (·.1)=w.objs.size::A:=by show w.objs.size::((A.zip (k.zip g)).map λt=>(t.1,HO.tup [t.2.1,t.2.2])).map (·.1)=_;rw[UA];congr 1;exact List.map_fst_zip (by rw[List.length_zip];lia)
   let ndN:(N.map (·.1)).Nodup:=by rw[hN];exact zB9.mpr ⟨nD,T.nd⟩
   let get:∀{j:Nat} {b:Addr},A[j]?=some b->∃U M x y,k[j]?=some U/\g[j]?=some M/\RelV U x/\RelV M y/\IsPair h2 b x y/\(b,HO.tup [U,M])∈N:=fun {j b} E=>by let⟨lj,_⟩:=VE.mp E;let⟨x,y,hx,hy,hp⟩:=T.pr j b E;let g1:k[j]?=some (k[j]' 35):=T5 _;let g2:g[j]?=some (g[j]' 35):=T5 _;let⟨x',ex,rx⟩:=rv1.get g1;let⟨y',ey,ry⟩:=Y.get g2;rw[List.getElem?_toArray,ex]at hx;rw[List.getElem?_toArray,ey]at hy;cases hx;cases hy;calc⟨_,_,x,y,g1,g2,rx,ry,hp,U1 _ (SG.mpr ⟨(b,k[j]' 35,g[j]' 35),?_,rfl⟩)⟩;calc UX (i:=j) ?_;rw[zC1];exact⟨E,by rw[zC1];calc⟨g1,g2⟩⟩
   let ok:∀b u,(b,u)∈N->bG X.prog X.w (PD.eR C f.heap.objs.size N) h2 b u:=λb u m=>by
    obtain e|m:=S8.mp m;cases e;calc⟨by rw[RG,Tq];lia,A.map Value.ref,c,yE A,by rw[<- ea];simpa using hD⟩;let⟨t,tm,e⟩:=SG.mp m;cases e;let⟨j,E⟩:=List.getElem?_of_mem tm;rw[zC1]at E;let⟨U,M,x,y,e1,e2,rx,ry,hp,_⟩:=get E.1;let d:=E.2;rw[zC1,e1,e2]at d;let⟨i,n⟩:=d;cases i;cases n;exact⟨by rw[Tq];show 2<=16777216;decide,[x,y],.cons rx (.cons ry .nil),⟨_,hp,rfl,_,rfl⟩⟩
   let I2:Inv X B σ (PD.eR C f.heap.objs.size N) {f with heap:=h2,toks:=tk}:=Inv.eR L K ok;let sm:av C (PD.eR C f.heap.objs.size N):=Hr L λb u m ps e=>by
    obtain z|m:=S8.mp m;cases z;cases e;let⟨t,_,z⟩:=SG.mp m;cases z;cases e
   let eD:PD.eR C f.heap.objs.size N w.objs.size=some (.lst (A.map V.ref)):=CK ndN (UD zl) XU;let fD:C w.objs.size=none:=L.R5.fresh (UD zl);calc⟨w.objs.size,_,_,_,rfl,I2,e1.trans sm,e1.free fD,Inv.kno I2 eD,eD,ah.of_get (by rw[List.length_zipWith,RG];lia) λj d v hdj hvj=>?_,q⟩;rw[UR]at hvj;let⟨b,hb,rfl⟩:=Zg.mp hvj;let⟨U,M,x,y,e1',e2',rx,ry,hp,mN⟩:=get hb;let⟨dx,gx,VQ⟩:=dn1.bI e1';let⟨dy,gy,Ww⟩:=dn2.bI e2';rw[List.getElem?_zipWith,gx,gy]at hdj;cases hdj;let hbn:f.heap.objs.size<=b:=Sd (UD (zDN zl)) (T.ab b (UX hb));let P':∀{d:D} {v:V},Den X.K W.bad C d v->Den X.K (λt b=>W.bad t b∨b=w.objs.size) (PD.eR C f.heap.objs.size N) d v:=λhq=>Den.map (λ_ _ z=>SK.same sm z) (λt a' vs' np z=>⟨λz'=>z'.elim np λz'=>by
    subst z';rcases z.1 with(i|⟨o,i⟩)|⟨o,Ru,n,i,_⟩;rw[fD]at i;cases i;rw[fD]at i;cases i;calc absurd (Inv.kno I2 eD) (by rw[i];simp),z.same sm⟩) (λa' o' n z=>sm.kp a' o' z n.nt) _ _ hq
   calc Den.tup (SK.of (CK ndN hbn mN)) (ah.cons (P' VQ) (ah.one (P' Ww)))
end
open PySem PySem.Spec PyProof.Rows L2
section
variable{X:Cx}{pos:Pos}
def P6(i:Nat)(c te:DE):DS:=λE a=>∃b,a[i]?=some (some (.ob (.ll b)))/\c a λd=>∃(k:Int) (m:Nat) (c:yas),d=.int k/\ixN #[b] k=some m/\b[m]?=some (.own c)/\te a λd=>#[c]<sizeLine/\E.nx (a.set i (some (.ob (.ll (b.set m (.own (c++[d])))))))
end
section
variable{X:Cx}{a b c:Expr}{ta tb tc:DE}{pos:Pos}
def IT(o:TB X (compareOp op) r)(G:TB X (compareOp op') r')(d:RU X a ta)(l:RU X b tb)(E:RU X c tc)(C:lastMarks [op,op'] [b,c]=false:=by with_unfolding_all rfl):Xx X (.Compare a [op,op'] [b,c] pos) (dB (FQ r r' ta tb tc)):=by
 intro e s f H W m Q I j h;refine isTrue_chain (Rw (d e s f H W m _ I j h) λv g ⟨d,q,x,p,k,i,n,h⟩=>test_link (Rw (l e g f q W m _ p (j.same i) h) λu g ⟨q,s,y,p,r,h,t,l⟩=>
  Rw (o e g f s W x y d q v u _ p ((j.same i).same h).tracked k r (n.same h) t l) λd B ⟨A,x,z,w,g,l,n,k,p,s⟩=>?_)) C
 subst p;let o:=n.Zw;subst o;cases g;calc zC0 ?_;let g:=((j.same i).same h).same l;cases k with
 |false =>
  calc ite_ff ⟨x,w,i.trans (h.trans l),s⟩
 |true =>
  calc ite_tt (test_last (Rw (E e B f x W m _ w g s) λm w ⟨s,I,E,H,x,j,C,B⟩=>Rw (G e w f I W y E q s u m _ H (g.same j).tracked r x (t.same (l.trans j)) C B) λd J g=>?_));let⟨A,q,z,m,e,f,n,d⟩:=g;let⟨k,p,d⟩:=pR d;subst p;let o:=n.Zw;subst o;cases e;calc zC0 ⟨q,m,i.trans (h.trans (l.trans (j.trans f))),d⟩
end
section
variable{X:Cx}
def tCl (K:yac) (i:Nat) (k:Int):TS:=KU (PF K "list" Hk (tOp (JT K) (E5 i) (tC (.int k))))
def Qu {x:Str} {a b pos:Pos} (i:Nat) (c:X.N[i]?=some x:=by rfl) (hv:Ym X.env.scope x:=by first|calc Or.inl rfl|calc Or.inr (Or.inl rfl)|calc Or.inr (Or.inr rfl)) (d:(x==("__debug__" : Str))=false:=by decide) (g:(x==("__classdict__" : Str))=false:=by decide)
  (f:attributeBase (.Subscript (.Name x px) (.Constant (.int k) j pk) ps) "clear" X.env (eval (.Subscript (.Name x px) (.Constant (.int k) j pk) ps) X.env)=eval (.Subscript (.Name x px) (.Constant (.int k) j pk) ps) X.env:=by rfl)
  (e:(a.endLine==b.line)=true:=by rfl) (hs:swapsWith (.Call (.Attribute (.Subscript (.Name x px) (.Constant (.int k) j pk) ps) "clear" a) [] [] b) none pos.line X.env=pure false:=by rfl) :
  PS X (.Expr (.Call (.Attribute (.Subscript (.Name x px) (.Constant (.int k) j pk) ps) "clear" a) [] [] b) pos) (tCl X.K i k) :=
 rK (pos:=pos) (Hb PySem.F.plainAttrs_list PySem.F.slot_list_clear PySem.F.type_list_clear Jv (KO Az (fU c hv d g) AW (by intro _ _;rfl)) f e) hs
def Ec(d:D):Prop:=lU d=true∨(∃t n x a,d=.lst t (.tup (.int n::x)::a)/\fg (.tup (.int n::x)::a)=true)∨∃ (t:Bool) (a:yaf),d=.lst t (a.map D.int)
def IV{K:yac}{H:Hp}{c ws:yar}(G:K.lookup b=none)(j:H b=some (.lst (.ref f::c)))(s:SK K H f (.ref l::ws))(h:Ec d)(g:Den K P H d v):Den K (λt a=>P t a∨a=b) H d v:=by
 obtain h|⟨t,n,x,y,rfl,h⟩| ⟨t,p,rfl⟩:=h;exact Den.ZO d v h g
 ·let⟨a,k,e,n,q,d⟩:=g.WL;subst e;let c:=d;let⟨u,r,i,b,_⟩:=c;let⟨c,c,r,m,o⟩:=b.UY;let⟨A,B,I,b,_⟩:=o;have:=b.SM;subst r;subst i;calc Den.lst (λz=>z.elim n λz=>?_) q (ah.ZO _ _ h d);subst z;rcases q.1 with(b|⟨w,b⟩)|⟨o,r,h,b,_⟩;rw[j]at b;cases b;let E:H f=some (.tup (.ref l::ws)):=s;let C:H f=some (.tup c):=m
  lia
  all_goals lia
 ·let⟨a,k,e,n,q,d⟩:=g.WL;subst e;let i:=dh d;calc Den.lst (λz=>z.elim n λz=>?_) q (by simp_all [uL]);subst z;rcases q.1 with(b|⟨w,b⟩)|⟨o,r,h,b,_⟩;rw[j,i]at b;cases p<;>cases b
  all_goals lia
def Lr(ix iy:Nat)(t:DB):DB:=λQ b=>∃(e c:D) (g q a:yas),b[ix]?=some (some (Sl.val (.tup [e,c,.lst true (.tup (.tup g::q)::a)])))/\lU e=true/\lU c=true/\fg (.tup (.tup g::q)::a)=true ∧
 (∀(j:Nat) (d:D),j≠ix->j≠iy->b[j]?=some (some (Sl.val d))->Ec d)/\(∀(j:Nat) (x:OS),j≠ix->j≠iy->b[j]?=some (some (Sl.ob x))->∃a,x=OS.lst a/\fg a=true) ∧
 t Q ((b.set ix (some (.val (.tup [e,c,.lst true []])))).set iy (some (.val (.lst true (.tup (.tup g::q)::a)))))
def Fy{s1 s2:Stmt}{rest:yal}{t3:DB}{y:Str}{ix iy:Nat}(hy:X.N[iy]?=some y)(TQ:ix≠iy)(P1:PS X s1 (PC (tLi X.K ix 2) (KA iy)))(P2:PS X s2 (tCl X.K ix 2))(h3:ZZ X rest t3) :
  ZZ X (s1::s2::rest) (Lr ix iy t3):=by
 intro E s L H W ρ Q I r s0 ht;let⟨d0,d1,g,q,zs,ex,n0,n1,nz,hfar,hown,ht⟩:=ht;let⟨v,sx,hd⟩:=r.val ix _ ex;let⟨N,vs,rfl,qT,SY⟩:=hd.UY;let⟨v0,r0,e0,hd0,v1,r1,e1,Xk,v2,r2,e2,hd2,e3⟩:=SY;let⟨b,M,rfl,nb,qb,hu⟩:=hd2.WL;let hb:=(qb.2 rfl).1;let ev:vs=[v0,v1,.ref b]:=by rw[e0,e1,e2,e3]
 subst ev;let il:iy<#[L]:=Inv.X2 I hy;let ilx:ix<#[L]:=(VE.mp sx).1;calc zCj (Rw (P1 E s L H {nx:=λR6 H'=>∃A,H A=none/\R6=L.set iy (some (.ref A))/\H'=L2.upd H A (.lst M),rt:=λ_ _=>False} I ?_) λf s1' q=>?_);calc⟨.ref N,sx,N,_,2,.ref b,rfl,rfl,qT.w,rfl,b,M,rfl,.inl qb.1,λA C=>⟨A,C,rfl,rfl⟩⟩;cases f with
 |ret w=>let⟨_,_,_,_,_,z⟩:=q;calc z.elim
 |brk=>let⟨_,_,_,z⟩:=q;calc z.elim
 |cont=>let⟨_,_,_,z⟩:=q;calc z.elim
 |next =>
 let⟨σ1,J,I3,A,C,rfl,eH3⟩:=q;let sm:av H J:=by rw[eH3];exact av.upd C
 let g3:J A=some (.lst M):=by rw[eH3];exact aQ
 let G:J b=some (.lst M):=sm _ _ hb;let n31:A≠b:=λe=>by rw[e,hb]at C;cases C
 clear eH3;let sx1:(L.set iy (some (.ref A)))[ix]?=some (some (V.ref N)):=by rw[Vm (Ne.symm TQ)];exact sx
 let Y:SK X.K J N [v0,v1,.ref b]:=SK.same sm qT;calc zCj (Rw (P2 E s1' _ J {nx:=λR6 H'=>R6=L.set iy (some (.ref A))/\H'=L2.upd J b (.lst []),rt:=λ_ _=>False} I3 ?_) λf s2' q=>?_);calc⟨.ref N,sx1,N,_,2,.ref b,rfl,rfl,Y.w,rfl,.inl ⟨rfl,M,SqL.of G⟩,b,M,rfl,rfl,G,rfl,rfl⟩;cases f with
 |ret w=>let⟨_,_,_,_,_,z⟩:=q;calc z.elim
 |brk=>let⟨_,_,_,z⟩:=q;calc z.elim
 |cont=>let⟨_,_,_,z⟩:=q;calc z.elim
 |next =>
 let⟨σ2,O,I4,rfl,p⟩:=q;let k3:=Inv.kno I3 g3;let k1:=Inv.kno I3 G;let T:¬W.bad true A:=λz=>by let⟨o,q⟩:=r.tracked true A z;rw[C]at q;cases q
 let den:∀P:yak,ah X.K P J (.tup (.tup g::q)::zs) M:=λP=>ah.ZO _ _ nz (hu.same sm)
 let U:∀P:yak,¬P true A->Den X.K P J (.lst true (.tup (.tup g::q)::zs)) (.ref A):=λP p3=>Den.lst p3 (UH.new g3 k3) (den P)
 let r3:=((r.same sm).forget ix).put il (U W.bad T);let z1:X.Sj b=none:=by
  cases e:X.Sj b with
  |none=>rfl
  |some o=>exact absurd (.inr (.inr ⟨rfl,s0 b o e⟩)) nb
 obtain⟨t0,t1,us',ws,eus,ht0⟩:∃t0 t1 us' ws,M=.ref t0::us'/\SK X.K J t0 (.ref t1::ws):=by let⟨u,r,e,hu',_⟩:=den W.bad;let⟨c,ys,rfl,qc,hy⟩:=hu'.UY;let⟨u1,r1,e1,hu1,_⟩:=hy;let⟨c1,_,rfl,_,_⟩:=hu1.UY;exact⟨c,c1,r,r1,e,by rw[<- e1];calc qc⟩
 let ent4:av X.Sj O:=by rw[p];exact av.ins (r.ent.trans sm) z1 G True.intro True.intro
 let tab4:ig X.K O:=by rw[p];exact ig.upd (r.tab.same sm) True.intro (.inr ⟨_,G,(λ_ z=>by cases z),True.intro⟩)
 let g4:O b=some (.lst []):=by rw[p];exact aQ
 let r4:Rel X (W.drop iy) O (L.set iy (some (.ref A))) ((ρ.set ix none).set iy (some (.val (.lst true (.tup (.tup g::q)::zs))))):=by
  calc r3.apart (Z:=λa=>a=b) (λa ha=>by rw[p,aC ha]) (λa ha=>by subst ha;calc⟨M,[],G,g4⟩) (λi a ho hz=>?_) (λj d v m hs hdv=>?_) (λj x m=>?_) ent4 tab4;let Xj:W.O i=some a:=by let z:(if i=iy then none else W.O i)=some a:=ho;split at z;cases z;exact z
  subst hz;calc nb (.inr (.inl ⟨i,Xj⟩));by_cases ey:j=iy;subst ey;let lρ:j<#[ρ.set ix none]:=by by_cases l:j<#[ρ.set ix none];calc l;rw[zCB (by rw[zCN];lia)]at m;cases m
  rw[Zf lρ]at m;rw[Zf il]at hs;cases m;cases hs;exact U _ λz=>z.elim (λz=>T (Own.Sv z)) n31
  rw[Vm (Ne.symm ey)]at m;by_cases B:j=ix;subst B;rw[Zf (VE.mp ex).1]at m;cases m;rw[Vm (Ne.symm B)]at m;calc IV k1 (by rw[<- eus];calc G) ht0 (hfar j d B ey m) hdv;by_cases ey:j=iy;subst ey;let lρ:j<#[ρ.set ix none]:=by by_cases l:j<#[ρ.set ix none];calc l;rw[zCB (by rw[zCN];lia)]at m;cases m
  rw[Zf lρ]at m;cases m;rw[Vm (Ne.symm ey)]at m;by_cases B:j=ix;subst B;rw[Zf (VE.mp ex).1]at m;cases m;rw[Vm (Ne.symm B)]at m;exact hown j x B ey m
 let qT4:SK X.K O N [v0,v1,.ref b]:=by rw[p];show L2.upd _ _ _ _=_;rw[aC (nV Y G 86)];exact Y
 let old:∀{d v},lU d=true->Den X.K W.bad H d v->Den X.K (W.drop iy).bad O d v:=fun {d v} nd h=>by
  calc Den.map (P:=λt a=>(W.drop iy).bad t a∨a=b) (λc ws q=>?_) (λt c ws n q=>?_) (λc u n q=>?_) d v (Den.ZO d v nd (h.same sm));show O c=_;rw[p,aC (nV q G 86)];calc q;let e:O c=J c:=by rw[p,aC λz=>n (.inr z)]
  calc⟨λz=>n (.inl z),?_,λz=>⟨by rw[e];calc(q.2 z).1,(q.2 z).2⟩⟩;rcases q.1 with(q|⟨u,q⟩)|q;calc .inl (.inl (by rw[e];calc q));calc .inl (.inr ⟨u,by rw[e];calc q⟩);calc .inr q;rw[p,aC λz=>by subst z;rw[G]at q;cases q;calc n];exact q
 let r5:=r4.put (i:=ix) (d:=.tup [d0,d1,.lst true []]) (v:=.ref N) (by rw[zCN];calc ilx) (Den.tup qT4 (ah.cons (old n0 hd0) (ah.cons (old n1 Xk) (ah.cons (Den.lst (λz=>nb (Own.Sv z)) (UH.new g4 k1) rfl) rfl))));let es:(L.set iy (some (V.ref A))).set ix (some (.ref N))=L.set iy (some (.ref A)):=by apply List.ext_getElem?;intro k;by_cases e:k=ix;subst e;rw[Zf (by rw[zCN];calc ilx),sx1];rw[Vm (Ne.symm e)]
 rw[es,List.set_comm _ _ (Ne.symm TQ),List.set_set]at r5;calc h3 E s2' _ O ((W.drop iy).drop ix) _ Q I4 r5 s0 ht
end
def Q2(xs:yah)(a:Addr)(cl:List (Str×Addr)):List (Str×Addr):=match xs with
 |[]=>cl
 |x::_=>(x,a)::cl
structure CSC(osc sc:Scope)(xs ns:yah):Prop where
 kind:sc.kind=.function
 one:∃x,xs=[x]
 onecell:∀y∈sc.names,y.2=.cell->y.1∈xs
 names:∀y∈sc.names,y.2=.local->sc.names.lookup y.1=some .local
 tgt:∀x∈xs,sc.names.lookup x=some .cell
 free:∀y∈sc.names,y.2=.free->y.1∈ns/\osc.names.lookup y.1=some .cell
 cells:∀n∈ns,sc.names.lookup n=some .free/\osc.names.lookup n=some .cell
 nd:(xs++ns).Nodup
 lay:∀n acc,cellsFrom n sc.names acc=Q2 xs n acc
 psh:∀h:Heap,pushCells h sc.names=h.push {cls:=.type "cell", data:=.cell none}
end PD
namespace LW
open PySem PySem.Spec PyProof.Rows L2 PD
seal PD.cT PD.US PD.RU PD.Xx PD.Vn PD.Wz PD.YI PD.PGD PD.wC PD.TsD PD.WN PD.PKD PD.PPD PD.PDO PD.PFL PD.PPK PD.PEK
local macro_rules|`(tactic|kd_p)=>`(tactic| calc ⟨rfl, rfl, rfl, by decide +kernel, rfl, by decide +kernel, by decide +kernel⟩)
def top(i:Nat):Stmt:=PySem.Challenge.pw_halvecut_k55_whole_the_deepest.main.body.getD i (.Pass ⟨0,0,0,0⟩)
abbrev Bh:Stmt:=top 8
abbrev gA:Stmt:=top 9
abbrev oD:Stmt:=top 10
abbrev qF:Stmt:=top 11
abbrev rS:Stmt:=top 12
abbrev xo:Stmt:=top 14
abbrev Bg:Stmt:=top 15
abbrev oA:Stmt:=top 16
abbrev qw:Stmt:=top 17
abbrev Be:Stmt:=top 18
abbrev tZ:Stmt:=top 19
abbrev xj:Stmt:=top 21
abbrev oG:Stmt:=top 22
abbrev Bf:Stmt:=top 23
abbrev xn:Stmt:=top 24
abbrev xh:Stmt:=top 25
abbrev Bi:Stmt:=top 26
abbrev Bc:Stmt:=top 27
abbrev qE:Stmt:=top 28
abbrev qG:Stmt:=top 30
abbrev j0:Stmt:=top 31
abbrev i4:Stmt:=top 32
abbrev iJ:Stmt:=top 33
abbrev gJ:Stmt:=top 34
abbrev xi:Stmt:=top 36
abbrev vF:Stmt:=top 37
abbrev jE:Stmt:=top 38
abbrev oz:Stmt:=top 39
abbrev iI:Stmt:=top 41
abbrev eU:Stmt:=top 42
abbrev mf:Stmt:=top 43
abbrev jZ:Stmt:=top 44
abbrev gQ:Stmt:=top 45
abbrev t6:Stmt:=top 47
abbrev iG:Stmt:=top 48
abbrev gw:Stmt:=top 49
abbrev cQ:Stmt:=top 50
abbrev qv:Stmt:=top 51
abbrev gR:Stmt:=top 53
abbrev lC:Stmt:=top 54
abbrev tY:Stmt:=top 55
abbrev EM:Stmt:=top 56
abbrev jA:Stmt:=top 57
abbrev jX:Stmt:=top 58
abbrev vE:Stmt:=top 59
abbrev eT:Stmt:=top 62
abbrev oE:Stmt:=top 63
abbrev jz:Stmt:=top 64
abbrev vG:Stmt:=top 65
abbrev qz:Stmt:=top 66
abbrev gS:Stmt:=top 67
abbrev t8:Stmt:=top 68
abbrev gB:Stmt:=top 69
abbrev fx:Stmt:=top 70
abbrev qy:Stmt:=top 71
abbrev me:Stmt:=top 73
abbrev jB:Stmt:=top 74
abbrev jC:Stmt:=top 75
abbrev qD:Stmt:=top 76
abbrev oC:Stmt:=top 77
abbrev l9:Stmt:=top 78
abbrev iH:Stmt:=top 79
abbrev qC:Stmt:=top 80
abbrev jY:Stmt:=top 81
abbrev gc:Stmt:=top 82
abbrev jD:Stmt:=top 83
abbrev iZ:Stmt:=top 84
def MW:ay ["number"] ["number"] (ao Bh):=by kd_p
def cX:ay ["one", "other", "rest"] ["one", "other"] (ao gA):=by kd_p
def lD:ay ["numbers", "divisor", "number"] ["numbers"] (ao oD):=by kd_p
def oI:ay ["triple", "lead", "divisor"] ["triple", "lead"] (ao qF):=by kd_p
def gC:ay ["count", "size", "found", "length", "longer", "pick", "first"] ["count", "size"] (ao rS):=by kd_p
def J5:ay ["gauge", "place"] ["gauge", "place"] (ao xo):=by kd_p
def MV:ay ["gauge", "place"] ["gauge", "place"] (ao Bg):=by kd_p
def B4:ay ["gauge"] ["gauge"] (ao oA):=by kd_p
def EO:ay ["one", "other"] ["one", "other"] (ao qw):=by kd_p
def C9:ay ["one", "other", "gauge"] ["one", "other"] (ao Be):=by kd_p
def Ht:ay ["place", "way"] ["place", "way"] (ao tZ):=by kd_p
def J2:ay ["by", "x", "y"] ["by", "x", "y"] (ao xj):=by kd_p
def B6:ay ["spot"] ["spot"] (ao oG):=by kd_p
def Dc:ay ["one", "other", "across"] ["one", "other"] (ao Bf):=by kd_p
def J3:ay ["one", "two", "three"] ["one", "two", "three"] (ao xn):=by kd_p
def J1:ay ["one", "other"] ["one", "other"] (ao xh):=by kd_p
def MX:ay ["one", "other"] ["one", "other"] (ao Bi):=by kd_p
def MT:ay ["way"] ["way"] (ao Bc):=by kd_p
def ES:ay ["way"] ["way"] (ao qE):=by kd_p
def ET:ay ["dot"] ["dot"] (ao qG):=by kd_p
def B8:ay ["dots"] ["dots"] (ao j0):=by kd_p
def Bm:ay ["dots", "colour"] ["dots", "colour"] (ao i4):=by kd_p
def J4:ay ["dots", "colour"] ["dots", "colour"] (ao iJ):=by kd_p
def oJ:ay ["dots", "gauge", "colour", "weights", "dot"] ["dots", "gauge", "colour"] (ao gJ):=by kd_p
def ua:ay ["places", "kept", "each"] ["places"] (ao xi):=by kd_p
def C8:ay ["spots", "places"] ["spots"] (ao vF):=by kd_p
def iL:ay ["one", "other", "along", "across"] ["one", "other"] (ao jE):=by kd_p
def Hs:ay ["corners"] ["corners"] (ao oz):=by kd_p
def vK:ay ["dots", "pair"] ["dots", "pair"] (ao iI):=by kd_p
def pC:ay ["dots", "pairs"] ["dots"] (ao eU):=by kd_p
def Bn:ay ["dots", "pair"] ["dots", "pair"] (ao mf):=by kd_p
def B7:ay ["dots", "lines"] ["dots", "lines"] (ao jZ):=by kd_p
def yS:ay ["dots"] ["dots"] (ao gQ):=by kd_p
def Hu:ay ["way"] ["way"] (ao t6):=by kd_p
def vH:ay ["one", "other"] ["one", "other"] (ao iG):=by kd_p
def sd:ay ["one", "other"] ["one", "other"] (ao gw):=by kd_p
def dW:ay ["one", "two", "three", "turns"] ["one", "two", "three"] (ao cQ):=by kd_p
def EN:ay ["ways"] ["ways"] (ao qv):=by kd_p
def gE:ay ["one", "other", "gauge", "here", "there"] ["one", "other", "gauge"] (ao gR):=by kd_p
def gT:ay ["corners", "gauge", "kept", "index", "one", "other"] ["corners", "gauge"] (ao lC):=by kd_p
def qH:ay ["corners", "gauges", "gauge"] ["corners", "gauges"] (ao tY):=by kd_p
def vJ:ay ["corners", "first", "index"] ["corners"] (ao EM):=by kd_p
def fy:ay ["corners", "gauges", "last"] ["corners", "gauges"] (ao jA):=by kd_p
def B3:ay ["gauges", "numbers", "shares"] ["gauges", "numbers", "shares"] (ao jX):=by kd_p
def mV:ay ["corners", "gauges", "last", "others", "numbers", "shares"] ["corners", "gauges"] (ao vE):=by kd_p
def yR:ay ["dots"] ["dots"] (ao eT):=by kd_p
def B5:ay ["gauge"] ["gauge"] (ao oE):=by kd_p
def iK:ay ["dots", "found", "row"] ["dots"] (ao jz):=by kd_p
def MU:ay ["planes", "weight"] ["planes", "weight"] (ao vG):=by kd_p
def ER:ay ["dots"] ["dots"] (ao qz):=by kd_p
def kO:ay ["dots", "planes", "least", "weight"] ["dots", "planes", "least"] (ao gS):=by kd_p
def Hv:ay ["dots", "least"] ["dots", "least"] (ao t8):=by kd_p
def bW:ay ["dots", "planes", "reached", "most", "tried"] ["dots", "planes"] (ao gB):=by kd_p
def d6:ay ["dots", "planes", "found", "weight", "corners", "gauges"] ["dots", "planes", "found"] (ao fx):=by kd_p
def oH:ay ["dots", "planes", "found"] ["dots"] (ao qy):=by kd_p
def Bj:ay ["_law_found"] ["_law_found"] (ao me):=by kd_p
def xq:ay ["_law_script", "_law_k"] ["_law_script", "_law_k"] (ao jB):=by kd_p
def fz:ay ["_law_one", "_law_other", "_law_here", "_law_there"] ["_law_one", "_law_other"] (ao jC):=by kd_p
def bD:ay ["_law_cell", "_law_kind", "_law_heavy", "_law_number", "_law_x", "_law_y", "_law_weight"] ["_law_cell", "_law_kind", "_law_heavy"] (ao qD):=by kd_p
def dS:ay ["_law_script", "_law_start", "_law_most", "_law_first", "_law_kind", "_law_heavy", "_law_dots_here", "_law_cell"] ["_law_script", "_law_start", "_law_most"] (ao oC):=by kd_p
def aO:ay ["_law_dots_here", "_law_here", "_law_found", "_law_ways", "_law_least", "_law_way", "_law_x", "_law_y", "_law_colour", "_law_weight", "_law_right", "_law_up", "_law_sums", "_law_lighter_sum", "_law_turn", "_law_along", "_law_at"] ["_law_dots_here", "_law_here"] (ao l9):=by kd_p
def vI:ay ["_law_found"] ["_law_found"] (ao iH):=by kd_p
def dN:ay ["_law_row", "_law_dots_here", "_law_least", "_law_weight_there", "_law_x", "_law_y", "_law_colour", "_law_weight"] ["_law_row", "_law_dots_here", "_law_least"] (ao qC):=by kd_p
def i5:ay ["_law_rows", "_law_dots_here", "_law_least", "_law_sums", "_law_row"] ["_law_rows", "_law_dots_here", "_law_least"] (ao jY):=by kd_p
def mW:ay ["_law_found", "_law_dots_here", "_law_whole_weight"] ["_law_found", "_law_dots_here"] (ao gc):=by kd_p
def fC:ay ["_law_dots_here", "_law_few", "_law_caught", "error"] ["_law_dots_here", "_law_few"] (ao jD):=by kd_p
def jj:ay ["_law_script", "_law_dots_here", "_law_whole_weight", "_law_handed", "_law_found", "_law_many", "_law_held", "_law_second"] ["_law_script"] (ao iZ):=by kd_p
structure SE where
 PlaneError:Addr
 NoPlace:Addr
 NoLine:Addr
 TooFew:Addr
 TooMany:Addr
 NoSuch:Addr
structure SO(K:yac)(mg:yam)(κ:SE):Prop where
 SU:mg "PlaneError" = some (.ref κ.PlaneError)
 Up:mg "NoPlace" = some (.ref κ.NoPlace)
 UU:mg "NoLine" = some (.ref κ.NoLine)
 TJ:mg "TooFew" = some (.ref κ.TooFew)
 Te:mg "TooMany" = some (.ref κ.TooMany)
 Ug:mg "NoSuch" = some (.ref κ.NoSuch)
 RP:∃t,mg "MOST_FOR_DEEPEST" = some (.int 12 t)
 TR:PySem.W.excIn K κ.TooFew wc "ValueError.__new__" = true
 Uh:PX.eE K κ.TooFew
 R3:PySem.W.kitOne K (.ref κ.TooFew) (.ref κ.PlaneError)=some true
 Sq:PySem.W.kitOne K (.ref κ.TooFew) (.ref κ.NoPlace)=some false
 Sy:PySem.W.kitOne K (.ref κ.TooFew) (.ref κ.NoLine)=some false
 Sa:PySem.W.kitOne K (.ref κ.TooFew) (.ref κ.TooFew)=some true
 RV:PySem.W.kitOne K (.ref κ.TooFew) (.ref κ.TooMany)=some false
 Sb:PySem.W.kitOne K (.ref κ.TooFew) (.ref κ.NoSuch)=some false
 RJ:PySem.W.kitOne K (.ref κ.TooFew) (.type "ValueError")=some true
 RK:PySem.W.exmOne K (.ref κ.TooFew) (.ref κ.PlaneError)=some true
 Sz:PySem.W.exmOne K (.ref κ.TooFew) (.ref κ.TooFew)=some true
 Tn:PySem.W.excIn K κ.TooMany wc "ValueError.__new__" = true
 TU:PX.eE K κ.TooMany
 RS:PySem.W.kitOne K (.ref κ.TooMany) (.ref κ.PlaneError)=some true
 Sg:PySem.W.kitOne K (.ref κ.TooMany) (.ref κ.NoPlace)=some false
 Sr:PySem.W.kitOne K (.ref κ.TooMany) (.ref κ.NoLine)=some false
 RW:PySem.W.kitOne K (.ref κ.TooMany) (.ref κ.TooFew)=some false
 RQ:PySem.W.kitOne K (.ref κ.TooMany) (.ref κ.TooMany)=some true
 RX:PySem.W.kitOne K (.ref κ.TooMany) (.ref κ.NoSuch)=some false
 RE:PySem.W.kitOne K (.ref κ.TooMany) (.type "ValueError")=some true
 RF:PySem.W.exmOne K (.ref κ.TooMany) (.ref κ.PlaneError)=some true
 Si:PySem.W.exmOne K (.ref κ.TooMany) (.ref κ.TooMany)=some true
noncomputable def sg(n:Int):Int:=if 0<n then 1 else if n<0 then -1 else 0
def rk(a0 a1 c a b1 b:Int):Int:=if sg (a1*a - b1*a0)=0 then sg (c*a - b*a0)else sg (a1*a - b1*a0)
noncomputable def sw(a0 a1 d f b1 c e b a:Int):Int:=a0*(b1*a - b*c)+f*(b*d - a1*a)+e*(a1*c - b1*d)
def q9{t g:Int}(a:g≠0)(b:g∣t)(h:Bd n t):Bd n (t.fdiv g):=Xf (PM.sG a b) h
structure Pl(n:Nat)(a b c:Int):Prop where
 pos:0<a
 low:PM.g3 a b c=1
 b0:Bd n a
 b1:Bd n b
 b2:Bd n c
def jP{d k x y z:Int}(f:d∣k*x)(e:d∣k*y)(c:d∣k*z)(b:PM.g3 x y z=1):d∣k:=by
 let a:d∣(Int.gcd (k*x) (k*y):Int):=zDB f e;rw[zDU]at a;let e:d∣k*(Int.gcd x y:Int):=by
  have:((k.natAbs*Int.gcd x y:Nat):Int)∣k*(Int.gcd x y:Int):=by rw[Int.natCast_mul];exact Int.mul_dvd_mul (Int.natAbs_dvd.mpr 46) 46
  exact zCt a this
 let a:d∣(Int.gcd (k*(Int.gcd x y:Int)) (k*z):Int):=zDB e c;rw[zDU]at a;let c:Int.gcd (Int.gcd x y:Int) z=1:=b;rw[c,Nat.mul_one]at a;calc zCt a (Int.natAbs_dvd.mpr 46)
abbrev Sp:=Int×Int
abbrev yat:=List Sp
def SV(p:Sp):D:=.tup [.int p.1,.int p.2]
def De(h:SV p=SV q):p=q:=by
 unfold SV at h
 lia
theorem gK{a:Type}{f:a->D}(b:∀{p q},f p=f q->p=q):∀{ps qs:List a},ps.map f=qs.map f->ps=qs
 |[],[],_=>rfl
 |[],_::_,h=>by simp at h
 |_::_,[],h=>by simp at h
 |p::ps,q::qs,h=>by simp at h;rw[b h.1,gK b h.2]
def M4{ps qs:yat}(h:ps.map SV=qs.map SV):ps=qs:=gK De h
theorem uq(p:Sp):aU (SV p)=SV p:=rfl
def vX(ps:yat):bf (ps.map SV)=ps.map SV:=cI SV uq ps
def Td(p:Sp):D:=.tup [.int 1,.int p.1,.int p.2]
def C2(h:Td p=Td q):p=q:=by
 unfold Td at h
 lia
def MF{ps qs:yat}(h:ps.map Td=qs.map Td):ps=qs:=gK C2 h
theorem kW(p:Sp):aU (Td p)=Td p:=rfl
def vW(ps:yat):bf (ps.map Td)=ps.map Td:=cI Td kW ps
def cr(a b e:Sp):Int:=sw 1 a.1 a.2 1 b.1 b.2 1 e.1 e.2
def cE:yat->Sp->yat
 |b::a::r,e=>if cr a b e<=0 then cE (a::r) e else b::a::r
 |l,_=>l
def bJ:yat->yat->yat
 |acc,[]=>acc
 |acc,e::a=>bJ (e::cE acc e) a
theorem sE(x:Sp):∀(acc done:yat),bJ acc (done++[x])=x::cE (bJ acc done) x
 |acc,[]=>rfl
 |acc,e::a=>by show bJ (e::cE acc e) (a++[x])=_;rw[sE x _ a];rfl
theorem tT:∀(st:yat) (e:Sp),∃c,st=c++cE st e
 |[],e=>⟨[],rfl⟩
 |[b],e=>⟨[],rfl⟩
 |b::a::r,e=>by ext cE;split;let⟨c,q⟩:=tT (a::r) e;calc⟨b::c,by rw[YW,<- q]⟩;calc⟨[],rfl⟩
def JP(st:yat)(e:Sp):#[cE st e]<=#[st]:=by let⟨a,q⟩:=tT st e;grind
def Fu{a:Type}(xs:List a)(u v:a):T7 (xs++[u]++[v]) (-2)=some u:=by have:=bU (xs:=xs++[u]++[v]) (j:=#[xs]) (v:=u) 52;unfold T7 at this ⊢;rw[show ixN #[xs++[u]++[v]] (-2)=some #[xs] by ext ixN;simp;lia];simp
def fm{a b:Int}(c:0<b):0<=a.fmod b/\a.fmod b<b:=⟨zDH a c,Int.fmod_lt_of_pos a c⟩
def p12:((10:Int) ^ (12:Int).toNat)=1000000000000:=29
def DY:Ic 10 12:=⟨29,29,29⟩
def Za(p:Sp):yaf:=[p.1,p.2]
def KR(ps:yat):ps.map SV=(ps.map Za).map PD.tupI:=by rw[UA];rfl
def bN(ys ps:yat):Prop:=ys.Pairwise (λp q=>p.1<q.1∨(p.1=q.1/\p.2<q.2))/\∀p,p∈ys↔p∈ps
def Hl{ps:yat}(h:PD.zw zs (ps.map Za)):∃ys:yat,zs=ys.map Za/\bN ys ps:=by
 let⟨c,b⟩:=h;let d:∀z∈zs,∃p:Sp,z=Za p:=λz a=>by let⟨p,_,e⟩:=SG.mp ((b z).mp a);exact⟨p,e.symm⟩
 let f:∃ys:yat,zs=ys.map Za:=by
  clear c b
  induction zs with
  |nil=>calc⟨[],rfl⟩
  |cons z zs ih =>
   let⟨p,e⟩:=d z XU;let⟨ys,g⟩:=ih λz a=>d z (U1 _ a)
   exact⟨p::ys,by rw[e,g];rfl⟩
 let⟨ys,rfl⟩:=f;let a:∀{p q:Sp},Za p=Za q->p=q:=fun {p q} e=>by unfold Za at e;simp only[List.cons.injEq,and_true]at e;exact Prod.ext e.1 e.2
 calc⟨ys,rfl,?_,λp=>?_⟩;refine(zDK.mp c).imp fun {p q} e=>?_
 unfold Za SW.lexLt at e;split at e;rename_i c;unfold SW.lexLt at e;split at e;cases e;calc .inr ⟨c,by simpa using e⟩;calc .inl (by simpa using e);constructor;intro d;let⟨q,c,e⟩:=SG.mp ((b (Za p)).mp (SG.mpr ⟨p,d,rfl⟩));rw[<- a e];calc c;intro d;let⟨q,c,e⟩:=SG.mp ((b (Za p)).mpr (SG.mpr ⟨p,d,rfl⟩));rw[<- a e];calc c
def zS(xs:yas):PD.cutD xs none (some (-1))=xs.dropLast:=by
 ext PD.cutD;rw[List.dropLast_eq_take];let b:HT.SH #[xs] 0 none=0:=rfl;let a:HT.SH #[xs] #[xs] (some (-1))=#[xs] - 1:=by
  ext HT.SH;cases xs with
  |nil=>rfl
  |cons x xs=>simp;lia
 rw[b,a];simp
theorem kI:∀(acc ps:yat),#[bJ acc ps]<=#[acc]+#[ps]
 |acc,[]=>Sx _
 |acc,e::a=>by
  have:=kI (e::cE acc e) a;let b:=JP acc e;show#[bJ (e::cE acc e) a]<=_;simp at this ⊢
  lia
theorem GN:∀{ys ps:yat},ys.Nodup->(∀p∈ys,p∈ps)->#[ys]<=#[ps]
 |[],_,_,_=>Uw _
 |y::ys,ps,b,h=>by
  let⟨d,c⟩:=zB9.mp b;let m:=h y XU;let r:=GN (ps:=ps.erase y) c λp a=>(List.mem_erase_of_ne (λe=>by subst e;calc d a)).mpr (h p (U1 _ a))
  rw[List.length_erase_of_mem m]at r;have:0<#[ps]:=List.length_pos_of_mem m;rw[Xo]
  lia
def tU(h:bN ys ps):#[ys]<=#[ps]:=by
 let a:ys.Nodup:=h.1.imp fun {p q} c e=>by subst e;lia
 calc GN a λp a=>(h.2 p).mp a
def aI(ys:yat):yat:=(bJ [] ys).reverse
def aX(ys:yat):yat:=if #[ys]<2 then ys else(aI ys).dropLast++(aI ys.reverse).dropLast
def zN{a:Type}{wi:DA}{js:yag}{te:DE}{Q:D->Prop}{P:List a->Prop}(f g:a->D)(b:∀R:yas->Prop,(∀ys,P ys->R (ys.map f))->wi ρ R)(hz:∀ys,P ys->#[ys]<=sizeLine)
  (c:∀ys,P ys->∀x∈ys,∀K:D->Prop,K (g x)->te (some (.val (f x))::js.map (bI ρ)) K) (q:∀ys,P ys->Q (.lst true (ys.map g))):uI wi js zV te ρ Q:=by
 refine b _ λys a=>?_
 have:=PD.comp_map (wi:=λ_ R=>R (ys.map f)) (js:=js) (tc:=zV) (te:=te) (ρ:=ρ) (Q:=Q) ys f (λ_=>true) g (λR h=>h) (hz ys a) (λx b K k=>k) (λx b _ K k=>c ys a x b K k) (by rw[Xn.mpr (λ_ _=>rfl)];calc q ys a);calc this
structure SB(p:Sp):Prop where
 x:Bd 60 p.1
 y:Bd 60 p.2
def lS(p q:Sp):Prop:=p.1<q.1∨(p.1=q.1/\p.2<q.2)
def cA(a b e:Sp):cr a b e=(b.1 - a.1)*(e.2 - a.2) - (b.2 - a.2)*(e.1 - a.1):=by ext cr sw;grind
def fA(A B:Int)(p:Sp):Int:=A*p.1+B*p.2
def cx(a b c d:Sp):Int:=(b.1 - a.1)*(d.2 - c.2) - (b.2 - a.2)*(d.1 - c.1)
def DZ(A B:Int)(a b c d e g:Sp):cx a b e g*(fA A B d - fA A B c)=cx c d e g*(fA A B b - fA A B a)+cx a b c d*(fA A B g - fA A B e):=by ext cx fA;grind
def JQ{x y:Int}(h:0<x*y)(a:0<y):0<x:=by
 by_cases c:0<x;calc c;have:=Tx (show 0<=-x by lia) (Tc a);rw[U7]at this
 lia
def OV{x y:Int}(h:0<=x*y)(a:0<y):0<=x:=by
 by_cases c:0<=x;calc c;have:=Wi (show 0 < -x by lia) a;rw[U7]at this
 lia
def Ko(j:fA A B a<fA A B b)(h:fA A B c<fA A B d)(f:fA A B e<fA A B g)(p:0<cx a b c d)(q:0<=cx c d e g):0<cx a b e g:=by let i:=DZ A B a b c d e g;let u:=Tx q (show 0<=fA A B b - fA A B a by lia);let v:=Wi p (show 0<fA A B g - fA A B e by lia);calc JQ (y:=fA A B d - fA A B c) 35 35
def Kn(j:fA A B a<fA A B b)(h:fA A B c<fA A B d)(f:fA A B e<fA A B g)(p:0<=cx a b c d)(q:0<cx c d e g):0<cx a b e g:=by let i:=DZ A B a b c d e g;let u:=Wi q (show 0<fA A B b - fA A B a by lia);let v:=Tx p (show 0<=fA A B g - fA A B e by lia);calc JQ (y:=fA A B d - fA A B c) 35 35
def P5(j:fA A B a<fA A B b)(h:fA A B c<fA A B d)(f:fA A B e<fA A B g)(p:0<=cx a b c d)(q:0<=cx c d e g):0<=cx a b e g:=by let i:=DZ A B a b c d e g;let u:=Tx q (show 0<=fA A B b - fA A B a by lia);let v:=Tx p (show 0<=fA A B g - fA A B e by lia);calc OV (y:=fA A B d - fA A B c) 35 35
def cx1(a b e:Sp):cr a b e=cx a b a e:=by rw[cA];rfl
def cx2(a b e:Sp):cr a b e=cx a b b e:=by rw[cA];ext cx;grind
def cx3(a b e:Sp):cr a b e=cx a e b e:=by rw[cA];ext cx;grind
def cx4(a b e:Sp):cr a b e=cx e a a b:=by rw[cA];ext cx;grind
def cx5(a b e:Sp):cr a b e=cx e b a b:=by rw[cA];ext cx;grind
def Lq(a b c d:Sp):cx a b c d=- cx c d a b:=by ext cx;grind
def NC(a b:Sp):cr a b a=0:=by rw[cA];grind
def ND(a b:Sp):cr a b b=0:=by rw[cA];grind
structure ChI(A B:Int)(st done:yat):Prop where
 e2:∀b a r,(b::a::r) <:+ st->∀p∈done,0<=cr a b p
 e3:∀c b a r,(c::b::a::r) <:+ st->0<cr a b c
 ord:st.Pairwise λb a=>fA A B a<fA A B b
 mem:∀p∈st,p∈done
 top:∀b r,st=b::r->∀p∈done,fA A B p<=fA A B b
 bot:done ≠ []->∃pre a,st=pre++[a]/\∀p∈done,fA A B a<=fA A B p
def E3{b a:Sp}{r st:yat}(h:b::a::r <:+ st)(o:st.Pairwise R):R b a:=by let⟨c,rfl⟩:=h;calc(Zh.mp (YT.mp o).2.1).1 a 46
theorem Hh(I:ChI A B st0 done)(d:∀p∈done,fA A B p<fA A B x):∀(st:yat),st <:+ st0->(∀b r,st=b::r->∀p∈done,fA A B b<fA A B p->0<=cr b x p) →
  (∀b a r,cE st x=b::a::r->0<cr a b x)/\(∀b r,cE st x=b::r->∀p∈done,fA A B b<fA A B p->0<=cr b x p)
 |[],_,h=>⟨λb a r e=>(by cases e),λb r e=>(by cases e)⟩
 |[b],_,h=>⟨λb a r e=>(by cases e),h⟩
 |b::a::r,s,h=>by
  ext cE;split;rename_i c;refine Hh I d (a::r) (List.IsSuffix.trans (List.suffix_cons _ _) s) λk g e p j i=>?_
  cases e;let o:=E3 s I.ord;let f:=I.e2 b a r s p j;let b:=d a (I.mem a (s.subset 52));rw[cx1]at f c ⊢;rw[Lq]at c;calc P5 b o i 35 f;rename_i c;calc⟨λk l g e=>?_,h⟩;cases e
  lia
theorem far(I:ChI A B st0 done)(c:∀p∈done,fA A B p<fA A B x):∀(st:yat),st <:+ st0->(∀b a r,st=b::a::r->0<cr a b x)->∀b a r,b::a::r <:+ st->0<cr a b x
 |[],_,_=>λb a r e=>by have:=e.length_le;simp at this
 |b::st,s,h=>λf g b e=>by
  obtain q|q:=List.suffix_cons_iff.mp e;calc h _ _ _ q.symm;calc far I c st (List.IsSuffix.trans (List.suffix_cons _ _) s) (λa i r d=>?_) f g b q;subst d;let d:=h _ _ _ rfl;let b:=I.e3 _ _ _ _ s;let g:=E3 s I.ord;let f:=E3 (List.IsSuffix.trans (List.suffix_cons _ _) s) I.ord;let e:=c a (I.mem a (s.subset 52));rw[cx2]at b ⊢;rw[cx1]at d;calc Ko f g e b (Tc d)
theorem C3:∀{st:yat},st ≠ []->cE st x ≠ []
 |[],h=>absurd rfl h
 |[b],_=>by simp[cE]
 |b::a::r,_=>by ext cE;split;calc C3 52;simp
def Jg{A B:Int}{st done:yat}{x:Sp}(I:ChI A B st done)(h:∀p∈done,fA A B p<fA A B x)(m:∀p∈done,∀q∈done,fA A B p=fA A B q->p=q)(u:done=[]->st=[]):ChI A B (x::cE st x) (done++[x]):=by
 let s:cE st x <:+ st:=by let⟨f,q⟩:=tT st x;exact⟨f,q.symm⟩
 let⟨n,w⟩:=Hh I h st (List.suffix_refl _) λb r e p d y=>absurd (I.top b r e p d) 35
 let F:=far I h _ s n;calc⟨λb a r e p d=>?_,λc b a r e=>?_,?_,λp d=>?_,λb r e p d=>?_,λ_=>?_⟩;obtain q|q:=List.suffix_cons_iff.mp e;injection q with l b;subst l;obtain d|d:=S7.mp d;rcases zCJ (fA A B p) (fA A B a)with c|c|c;obtain _|⟨z,r⟩:=r;let⟨f,C,g,i⟩:=I.bot (List.ne_nil_of_mem d);rw[<- b]at s;let⟨k,j⟩:=s;rw[g]at j;have:=List.append_inj_right' j 52;simp at this;have:=i p d
 subst_vars
 lia
 let i:=n _ _ _ b.symm;rw[<- b]at s;let r:=I.e2 _ _ _ s p d;let o:=E3 s I.ord;let t:=h a (I.mem a (s.subset 52));rw[cx2]at i;rw[cx5]at r;rw[cx4];calc Tc (Kn c o t r i);rw[m p d a (I.mem a (s.subset (by rw[<- b];simp))) c,NC];calc WS _;calc w _ _ b.symm p d c;rw[Vp.mp d,ND];calc WS _;obtain d|d:=S7.mp d;calc I.e2 _ _ _ (q.trans s) p d;rw[Vp.mp d];calc Tc (F _ _ _ q);obtain q|q:=List.suffix_cons_iff.mp e;injection q with l b;subst l;calc n _ _ _ b.symm;calc I.e3 _ _ _ _ (q.trans s);calc Zh.mpr ⟨λa b=>h a (I.mem a (s.subset b)),I.ord.sublist s.sublist⟩;obtain q|q:=S8.mp d;rw[q];simp;calc Xe _ (I.mem p (s.subset q));injection e with g j;subst g;obtain q|q:=S7.mp d;calc Tc (h p q);rw[Vp.mp q];calc WS _;by_cases b:done=[];rw[u b,b];calc⟨[],x,rfl,λp d=>by simp at d;rw[d];calc WS _⟩;let⟨f,a,g,i⟩:=I.bot b;let⟨k,j⟩:=s;let f:cE st x ≠ []:=C3 (by rw[g];simp);obtain⟨b,c,e⟩:∃b c,cE st x=b++[c]:=⟨_,_,(zBw f).symm⟩;have:c=a:=by rw[e,g,<- WI]at j;have:=List.append_inj_right' j 52;simpa using this
 subst this;calc⟨x::b,c,by rw[e];rfl,λp d=>?_⟩;obtain q|q:=S7.mp d;calc i p q;rw[Vp.mp q];calc Tc (h c (I.mem c (by rw[g];simp)))
theorem yn:∀(es st done:yat),ChI A B st done->(done=[]->st=[])->(done++es).Pairwise (λp q=>fA A B p<fA A B q)->ChI A B (bJ st es) (done++es)
 |[],st,done,I,_,_=>by rw[Yx];calc I
 |x::es,st,done,I,h,o=>by
  let⟨g,i,f⟩:=YT.mp o;let d:∀(l:yat),l.Pairwise (λp q=>fA A B p<fA A B q)->∀p∈l,∀q∈l,fA A B p=fA A B q->p=q:=by
   intro l
   induction l with
   |nil=>intro _ p c;cases c
   |cons y l ih =>
    intro o p c q b e;let⟨u,v⟩:=Zh.mp o;obtain a|a:=S8.mp c<;>obtain b|b:=S8.mp b;rw[a,b];have:=u q b;rw[a]at e;lia;have:=u p a;rw[b]at e;lia;exact ih v p a q b e
  have:=yn es (x::cE st x) (done++[x]) (Jg I (λp c=>f p c x XU) (d done g) h) 52 (by rw[WI];calc o);rw[WI]at this;calc this
def LX(A B:Int):ChI A B [] []:=⟨λb a r e=>by have:=e.length_le;simp at this,λc b a r e=>by have:=e.length_le;simp at this,.nil,λp a=>a,λb r e=>(by cases e),λh=>absurd rfl h⟩
def OH{ys:yat}(o:ys.Pairwise λp q=>fA A B p<fA A B q):ChI A B (bJ [] ys) ys:=by
 have:=yn ys [] [] (LX A B) 35 46
 cbv
structure Way(A B:Int)(ps:yat)(n:Nat)(l:Nat->Sp):Prop where
 two:2<=n
 TC:∀i,i+1<n->∀p∈ps,0<=cr (l i) (l (i+1)) p
 W5:∀i,i+2<n->0<cr (l i) (l (i+1)) (l (i+2))
 rise:∀i j,i<j->j<n->fA A B (l i)<fA A B (l j)
 mem:∀i,i<n->l i∈ps
 lo:∀p∈ps,fA A B (l 0)<=fA A B p
 hi:∀p∈ps,fA A B p<=fA A B (l (n - 1))
def fT(A B:Int)(p:Sp):fA (-A) (-B) p=- fA A B p:=by ext fA;grind
theorem J9{n m:Nat}(L:Way A B ps (n+2) l)(U:Way (-A) (-B) ps (m+2) u)(i:l (n+1)=u 0)(h:0<n+m):0<cr (l n) (l (n+1)) (u 1):=by
 let f:=L.rise n (n+1) 35 35;let d:=U.rise 0 1 Nat.one_pos 35;rw[fT,fT,Int.neg_lt_neg_iff]at d;rw[i]at f ⊢;let g:cr (l n) (u 0) (u 1)=cx (u 1) (u 0) (l n) (u 0):=by rw[cA];ext cx;grind
 rw[g];cases n with
 |succ a =>
  let b:=L.W5 a 46;let o:=L.rise a (a+2) 35 46;let e:=U.TC 0 35 (l a) (L.mem a 35);let c:l (a+2)=u 0:=i;rw[c]at o b;let g:cr (u 0) (u 1) (l a)=cx (u 1) (u 0) (l a) (u 0):=by rw[cA];ext cx;grind
  rw[g]at e;rw[cx3]at b;calc Kn (A:=A) (B:=B) d o f e b
 |zero =>
  cases m with
  |zero=>lia
  |succ m =>
   let b:=U.W5 0 35;let o:=U.rise 0 2 29 35;rw[fT,fT,Int.neg_lt_neg_iff]at o;let e:=L.TC 0 35 (u 2) (U.mem 2 35);let c:l (0+1)=u 0:=i;rw[c]at e;let g:cr (l 0) (u 0) (u 2)=cx (u 2) (u 0) (l 0) (u 0):=by rw[cA];ext cx;grind
   let j:cr (u 0) (u 1) (u 2)=cx (u 1) (u 0) (u 2) (u 0):=by rw[cA];ext cx;grind
   rw[g]at e;let a:0<cx (u 1) (u 0) (u 2) (u 0):=46
   calc Ko (A:=A) (B:=B) d o f a e
def C6{n m:Nat}{h:Nat->Sp}(L:Way A B ps (n+2) l)(U:Way (-A) (-B) ps (m+2) u)(r:l (n+1)=u 0)(i:u (m+1)=l 0)(q:0<n+m)
  (b:∀k,k<n+2->h k=l k) (d:∀j,j<m+1->h (n+1+j)=u j):(∀k,k<n+m+2->∀p∈ps,0<=cr (h ((k+(n+m+2) - 1) % (n+m+2))) (h k) p)/\0<cr (h 0) (h 1) (h 2):=by
 calc⟨λk o p f=>?_,?_⟩;cases k with
 |zero =>
  let e:(0+(n+m+2) - 1) % (n+m+2)=n+1+m:=by simp_all [Yl,zDi]
  rw[e,d m 46,b 0 46,<- i];calc U.TC m 46 p f
 |succ k =>
  let e:(k+1+(n+m+2) - 1) % (n+m+2)=k:=by
   rw[zDi]
   simp_all [zDM,Xp,Yf]
  rw[e];by_cases c:k+1<n+2;rw[b k (Yf c),b (k+1) c];calc L.TC k c p f;let⟨j,rfl⟩:=Nat.le.dest (Nat.le_of_succ_le_succ (zCh c));let g:j+1<m+1:=35
  rw[d j (Yf g),zCw,d (j+1) g];exact U.TC j (zDN g) p f
 cases n with
 |succ a =>
  let z:2<a+1+2:=35
  rw[b 0 46,b 1 46,b 2 z];calc L.W5 0 z
 |zero =>
  grind [J9]
def HW{ys:yat}(o:ys.Pairwise λp q=>fA A B p<fA A B q)(e:2<=#[ys]):Way A B ys #[aI ys] λi=>(aI ys).getD i (0,0):=by
 let I:=OH o;let⟨c,a,b,l⟩:=I.bot 72;let d:2<=#[aI ys]:=by
  ext aI;rw[zBt,b];obtain _|⟨b,c⟩:=c;let t:=I.top a [] 46;obtain _|⟨k,_|⟨c,r⟩⟩:=ys;simp at e;simp at e;let q:=(Zh.mp o).1 c 52;grind;simp
 let sp1:∀i,i<#[aI ys]->(aI ys)[i]?=some ((aI ys).getD i (0,0)):=72
 let c:bJ [] ys=(aI ys).reverse:=by ext aI;grind
 calc⟨d,λi d p f=>?_,λi d=>?_,λi j h g=>?_,λi d=>?_,λp f=>?_,λp f=>?_⟩;calc I.e2 _ _ ((aI ys).take i).reverse ⟨((aI ys).drop (i+2)).reverse,?_⟩ p f;rw[c];let q:=XH i (aI ys);rw[zBf 35,zBf d]at q;let e:=congrArg List.reverse q;simp only[Wo,T5 (show i<#[aI ys] by lia),T5 d,Option.getD_some];simpa only[zC9,zCz,WI,YW,Zi]using e;calc I.e3 _ _ _ ((aI ys).take i).reverse ⟨((aI ys).drop (i+3)).reverse,?_⟩;rw[c];let q:=XH i (aI ys);rw[zBf 35,zBf (show i+1<#[aI ys] by lia),zBf d]at q;let e:=congrArg List.reverse q;simp only[Wo,T5 (show i<#[aI ys] by lia),T5 (show i+1<#[aI ys] by lia),T5 d,Option.getD_some];simpa only[zC9,zCz,WI,YW,Zi]using e;let c:(aI ys).Pairwise λa b=>fA A B a<fA A B b:=by exact List.pairwise_reverse.mpr I.ord
 have:=(Zd.mp c) i j 35 g h;grind;calc I.mem _ ?_;grind
 cbv
 let e:=sp1 (#[aI ys] - 1) 35;generalize (aI ys).getD (#[aI ys] - 1) (0,0)=b at e ⊢;calc I.top b (bJ [] ys).tail ?_ p f;unfold aI at e;cases hc:bJ [] ys with
 |nil=>grind
 |cons x r=>rw[hc]at e;simp at e;grind
theorem Ga:∀{l:yat},l.Pairwise (λp q=>fA A B p<fA A B q)->∀p∈l,∀q∈l,fA A B p=fA A B q->p=q
 |[],_,p,a=>by cases a
 |y::l,o,p,a=>λq b e=>by
  let⟨u,v⟩:=Zh.mp o;obtain a|a:=S8.mp a<;>obtain b|b:=S8.mp b;rw[a,b];have:=u q b;rw[a]at e;lia;have:=u p a;rw[b]at e;lia;calc Ga v p a q b e
def Way.to{ps qs:yat}(h:∀p,p∈qs↔p∈ps)(W:Way A B ps n l):Way A B qs n l :=
 ⟨W.two,λi b p a=>W.TC i b p ((h p).mp a),W.W5,W.rise,λi b=>(h _).mpr (W.mem i b),λp a=>W.lo p ((h p).mp a),λp a=>W.hi p ((h p).mp a)⟩
theorem Nw:∀ys:yat,∃M:Int,0<M/\∀p∈ys,-M<p.2/\p.2<M
 |[]=>⟨1,29,λp a=>by cases a⟩
 |y::ys=>by
  let⟨M,b,h⟩:=Nw ys;calc⟨M+y.2.natAbs+1,35,λp a=>?_⟩;obtain q|q:=S8.mp a;rw[q];lia;have:=h p q;lia
def GB{M:Int}{p q:Sp}(h0:0<M)(b:-M<p.2/\p.2<M)(a:-M<q.2/\q.2<M)(h:lS p q):fA (2*M) 1 p<fA (2*M) 1 q:=by
 ext fA;obtain h|⟨d,c⟩:=h;have:=zDJ (show p.1+1<=q.1 by lia) (show 0<=2*M by lia)
 lia
 lia
def bK(hs:yat)(k:Nat):Sp:=hs.getD ((k+#[hs] - 1) % #[hs]) (0,0)
structure nj(hs ps:yat):Prop where
 mem:∀p∈hs,p∈ps
 len:#[hs]<=2*#[ps]
 Yt:ps ≠ []->∃a r,hs=a::r/\∀p∈ps,¬lS p a
 one:∀a,hs=[a]->∀p∈ps,p=a
 two:∀a b,hs=[a,b]->a≠b/\∀p∈ps,cr a b p=0/\¬lS b p
 TC:2<#[hs]->∀k,k<#[hs]->∀p∈ps,0<=cr (bK hs k) (hs.getD k (0,0)) p
 W5:2<#[hs]->0<cr (hs.getD 0 (0,0)) (hs.getD 1 (0,0)) (hs.getD 2 (0,0))
def Aw{ys ps:yat}(o:ys.Pairwise (λp q=>p.1<q.1∨(p.1=q.1/\p.2<q.2)))(a:∀p,p∈ys↔p∈ps)(c:¬#[ys]<2):∃(A:Int) (n m:Nat),#[aI ys]<=#[ys]/\#[aI ys.reverse]<=#[ys]/\(∀p∈ps,∀q∈ps,fA A 1 p=fA A 1 q->p=q)/\(∀p∈ps,∀q∈ps,fA A 1 p<=fA A 1 q->¬lS q p)/\#[aI ys]=n+2/\#[aI ys.reverse]=m+2 ∧
  Way A 1 ps (n+2) (λi=>(aI ys).getD i (0,0))/\Way (-A) (-1) ps (m+2) (λi=>(aI ys.reverse).getD i (0,0))/\(aI ys).getD (n+1) (0,0)=(aI ys.reverse).getD 0 (0,0)/\(aI ys.reverse).getD (m+1) (0,0)=(aI ys).getD 0 (0,0) ∧
  (∀j,j<m+1->((aI ys).dropLast++(aI ys.reverse).dropLast).getD (n+1+j) (0,0)=(aI ys.reverse).getD j (0,0))/\(∀k,k<n+2->((aI ys).dropLast++(aI ys.reverse).dropLast).getD k (0,0)=(aI ys).getD k (0,0))/\#[(aI ys).dropLast++(aI ys.reverse).dropLast]=n+m+2:=by
 let⟨M,r,g⟩:=Nw ys;let i:ys.Pairwise λp q=>fA (2*M) 1 p<fA (2*M) 1 q:=by calc List.Pairwise.imp_of_mem ?_ o;intro p q f d h;exact GB r (g p f) (g q d) h
 let s:ys.reverse.Pairwise λp q=>fA (-(2*M)) (-1) p<fA (-(2*M)) (-1) q:=by calc List.pairwise_reverse.mpr (i.imp ?_);intro p q h;rw[fT,fT];exact Int.neg_lt_neg h
 let L:=(HW i (zCh c)).to (qs:=ps) λp=>(a p).symm
 let U:=(HW s (by rw[zBt];calc zCh c)).to (qs:=ps) λp=>by rw[zCR];exact(a p).symm
 let w:#[aI ys]<=#[ys]:=by have:=kI [] ys;ext aI;rw[zBt];simpa using this
 let t:#[aI ys.reverse]<=#[ys]:=by have:=kI [] ys.reverse;ext aI;rw[zBt];simpa using this
 generalize aI ys=l at L w ⊢;generalize aI ys.reverse=u at U t ⊢;let b:∀p∈ps,∀q∈ps,fA (2*M) 1 p=fA (2*M) 1 q->p=q:=λp f q d e=>Ga i p ((a p).mpr f) q ((a q).mpr d) e
 let h:∀p∈ps,∀q∈ps,fA (2*M) 1 p<=fA (2*M) 1 q->¬lS q p:=λp f q d e x =>
  Int.not_le_of_gt (GB r (g q ((a q).mpr d)) (g p ((a p).mpr f)) x) e
 generalize 2*M=A at L U b h;clear i s g r o a;obtain⟨n,c⟩:∃n,#[l]=n+2:=⟨#[l] - 2,by have:=L.two;lia⟩;obtain⟨m,a⟩:∃m,#[u]=m+2:=⟨#[u] - 2,by have:=U.two;lia⟩;let o:#[l.dropLast++u.dropLast]=n+m+2:=by
  rw[UQ,zCY,zCY,c,a];show n+1+(m+1)=_
  lia
 rw[c]at L;rw[a]at U;let i:l.getD (n+1) (0,0)=u.getD 0 (0,0):=by let e:=L.mem (n+1) (zCS _);let d:=U.mem 0 (zDj _);let g:=L.hi _ d;let f:=U.lo _ e;rw[fT,fT]at f;exact b _ e _ d (Int.le_antisymm (Int.le_of_neg_le_neg f) g)
 let p:u.getD (m+1) (0,0)=l.getD 0 (0,0):=by let e:=L.mem 0 (zDj _);let d:=U.mem (m+1) (zCS _);let g:=L.lo _ d;let f:=U.hi _ e;rw[fT,fT]at f;exact b _ d _ e (Int.le_antisymm (Int.le_of_neg_le_neg f) g)
 let d:∀j,j<m+1->(l.dropLast++u.dropLast).getD (n+1+j) (0,0)=u.getD j (0,0):=λj e=>by
  let ld:#[l.dropLast]=n+1:=by rw[zCY,c];rfl
  rw[Wo,Wo,WH (by rw[ld];calc VT _ _),ld,zBl,List.getElem?_dropLast,a,Rr (show j<m+2 - 1 from e)]
 let f:∀k,k<n+2->(l.dropLast++u.dropLast).getD k (0,0)=l.getD k (0,0):=λk e=>by
  rcases zCo (Yw e)with z|z;rw[Wo,Wo,WR (by rw[zCY,c];calc z),List.getElem?_dropLast,c,Rr (show k<n+2 - 1 from z)];rw[z,i];exact d 0 (zDj _)
 calc⟨A,n,m,w,t,b,h,c,a,L,U,i,p,d,f,o⟩
def qg(h:bN ys ps):nj (aX ys) ps:=by
 let I:=tU h;let⟨o,j⟩:=h;ext aX;by_cases c:#[ys]<2;rw[Rr c];calc⟨λp d=>(j p).mp d,35,λe=>?_,λa e p d=>?_,λa b e=>?_,λq=>absurd q 35,λq=>absurd q 35⟩;obtain _|⟨y,_|⟨z,r⟩⟩:=ys;cases ps with
 |nil=>calc absurd rfl e
 |cons y r=>have:=(j y).mpr XU;cases this
 calc⟨y,[],rfl,λp d=>?_⟩;have:=(j p).mpr d;rw[Vp.mp this];exact λq=>q.elim (zCu _) λq=>zCu _ q.2
 calc absurd c 52;have:=(j p).mpr d;rw[e]at this;calc Vp.mp this;rw[e]at c;simp at c;rw[if_neg c];let⟨A,n,m,ll,J,G,y,H,j,L,U,s,t,B,h,f⟩:=Aw o j c;generalize aI ys=l at *;generalize aI ys.reverse=u at *;let c:∀{w:yat} {x:Sp},x∈w.dropLast->x∈w:=fun {w x} g=>(List.dropLast_sublist w).subset g
 let o:∀{w:yat} {i:Nat} (g:i<#[w]),w.getD i (0,0)=w[i]:=fun {w i} g=>by rw[Wo,T5 g];rfl
 let k:=h 0 (zDj _);calc⟨λp d=>?_,by rw[f];lia,λe=>?_,λa e=>?_,λa b e=>?_,λq=>?_,λq=>?_⟩;obtain z|z:=S7.mp d;let⟨i,g,e⟩:=List.mem_iff_getElem.mp (c z);rw[<- e,<- o g];calc L.mem i (by rw[<- H];calc g);let⟨i,g,e⟩:=List.mem_iff_getElem.mp (c z);rw[<- e,<- o g];calc U.mem i (by rw[<- j];calc g);cases hh:l.dropLast++u.dropLast with
 |nil=>rw[hh]at f;calc absurd f 52
 |cons a r =>
  rw[hh]at k;calc⟨a,r,rfl,λp d=>?_⟩;rw[show a=l.getD 0 (0,0)from k];exact y _ (L.mem 0 (zDj _)) p d (L.lo p d)
 rw[e]at f;simp at f;let c:n=0/\m=0:=by rw[e]at f;simp at f;lia
 let⟨rfl,rfl⟩:=c;let g:=h 1 29;rw[e]at k g;let i:a=l.getD 0 (0,0):=k;let c:b=l.getD 1 (0,0):=g;let e:l.getD 1 (0,0)=u.getD 0 (0,0):=s;let g:u.getD 1 (0,0)=l.getD 0 (0,0):=t;calc⟨λj=>?_,λp d=>?_⟩;have:=L.rise 0 1 29 29;rw[<- i,<- c,j]at this;calc zCu _ this;let l:=L.TC 0 29 p d;let k:=U.TC 0 29 p d;let j:=L.hi p d;let E:0<=cr a b p:=by rw[i,c];exact l
 let C:0<=cr b a p:=by rw[c,e,i,<- g];exact k
 let e:fA A 1 p<=fA A 1 b:=by rw[c];exact j
 let M:cr b a p=- cr a b p:=by rw[cA,cA];grind
 calc⟨35,y p d b ?_ e⟩;rw[c];calc L.mem 1 29;intro k a p d;rw[f]at a q;let R:=(C6 L U s t 35 h B).1 k a p d;ext bK;rw[f];calc R;rw[f]at q;calc(C6 L U s t 35 h B).2
def zG{a:Type}(xs:List a)(j b:Nat)(d:j<#[xs])(e:b<=#[xs]):T7 xs ((j:Int) - (b:Int))=xs[(j+#[xs] - b) % #[xs]]?:=by
 ext T7 ixN;by_cases c:b<=j;rw[Rr 35,Rr 35,show j+#[xs] - b=j - b+#[xs] by lia,zDM,Xp 35];show xs[((j:Int) - (b:Int)).toNat]?=_;congr 1
 lia
 rw[if_neg 35,Rr 35,Xp 35];show xs[((j:Int) - (b:Int)+(#[xs]:Int)).toNat]?=_;congr 1
 lia
def KQ(lo a:Int):kJ lo a 1=(a - lo).toNat:=by
 ext kJ Builtin.Range.rangeSize;rw[Rr 29];by_cases h:lo<a;rw[Rr h,Int.ediv_one]
 lia
 rw[if_neg h]
 lia
def A7(n:Nat):jv 0 1 (kJ 0 (n:Int) 1)=(List.range' 0 n).map λ(k:Nat)=>D.int (k:Int):=by ext jv;rw[KQ,show((n:Int) - 0).toNat=n by lia,List.range'_eq_map_range,UA];apply zC8;intro k _;simp
def GU(p:Sp):Uy 1 (Td p):=Uy.tup (.cons (.int _ _) (.cons (.int _ _) (.cons (.int _ _) (.nil _))))
noncomputable def fe(pk:yag):Nat:=match pk.getLast? with
 |none=>0
 |some l=>l+1
def Wm(n:Nat)(pk:yag):List (yag):=(List.range' (fe pk) (n - fe pk)).map λk=>pk++[k]
def Ul(n:Nat):Nat->List (yag)
 |0=>[[]]
 |j+1=>(Ul n j).flatMap (Wm n)
def V8(pk:yag):D:=.lst true (pk.map λ(k:Nat)=>D.int (k:Int))
theorem iw:∀{j:Nat} {pk:yag},pk∈Ul n j->#[pk]=j/\∀k∈pk,k<n
 |0,pk,h=>by simp only[Ul,Vp]at h;subst h;simp
 |j+1,pk,h=>by
  simp only[Ul,zCQ]at h;let⟨q,a,h⟩:=h;let⟨c,b⟩:=iw a;unfold Wm at h;let⟨k,a,rfl⟩:=SG.mp h;rw[zCy]at a;calc⟨by simp[c],λx a=>?_⟩;obtain z|z:=S7.mp a;calc b x z;simp at z;subst z;lia
theorem mO(n:Nat):∀j:Nat,#[Ul n j]<=n ^ j
 |0=>by simp[Ul]
 |j+1=>by
  let ih:=mO n j;simp only[Ul];have:∀l:List (yag),#[l.flatMap (Wm n)]<=#[l]*n:=by
   intro l
   induction l with
   |nil=>simp
   |cons a r ih =>
    rw[List.flatMap_cons,UQ,Xo,Nat.add_mul];have:#[Wm n a]<=n:=by ext Wm;rw[RG,Z7];lia
    lia
  calc Sd (this _) ?_;rw[zCp];calc Nat.mul_le_mul_right _ ih
def MS(a b:Nat):jv (a:Int) 1 (kJ a b 1)=(List.range' a (b - a)).map λ(k:Nat)=>D.int (k:Int):=by
 ext jv
 simp_all [KQ,List.range'_eq_map_range,UA]
theorem Am(n:Nat):∀l:List (yag),#[l.flatMap (Wm n)]<=#[l]*n
 |[]=>52
 |a::r=>by
  rw[List.flatMap_cons,UQ,Xo,Nat.add_mul];have:=Am n r;have:#[Wm n a]<=n:=by ext Wm;grind
  lia
def Lg{pk:yag}(h:pk ≠ []){Q:D->Prop}(q:Q (.int ((fe pk:Nat) - 1:Int))):∃d,T7 (pk.map λ(k:Nat)=>D.int (k:Int)) (-1)=some d/\Q d:=by
 obtain⟨r,l,rfl⟩:∃r l,pk=r++[l]:=⟨pk.dropLast,pk.getLast h,(zBw h).symm⟩;calc⟨.int l,?_,?_⟩;ext T7 ixN;let e:(-1+((#[r]:Int)+1)).toNat=#[r]:=35
 let l:(1:Int)<=(#[r]:Int)+1:=35
 cbv
 have:((fe (r++[l]):Nat):Int) - 1=l:=by ext fe;simp
 cbv
abbrev Tr:=Int×Int×Int
abbrev yau:=List Tr
noncomputable def tn(a b:Sp):Int:=a.1*b.2 - b.1*a.2
def Rp(a b:Sp):Int:=a.1*b.1+a.2*b.2
def RO(h:Tr)(p:Sp):Sp:=(h.1*p.1 - 1*h.2.1,h.1*p.2 - 1*h.2.2)
noncomputable def Rl(g h:Tr):Int:=g.1*h.1+g.2.1*h.2.1+g.2.2*h.2.2
noncomputable def eF(a b:Sp):Tr:=(a.1*b.2 - b.1*a.2,a.2*1 - b.2*1,1*b.1 - 1*a.1)
def bZ(a w:Sp):Tr:=(-(w.1*a.1+w.2*a.2),w.1*1,w.2*1)
def SQ(a:Sp):Sp:=(-a.1,-a.2)
noncomputable def S9(a:Sp):Sp:=(-a.2,a.1)
noncomputable def aS(a b:Sp):Sp:=if a=b then(1,0)else(1*b.1 - 1*a.1,1*b.2 - 1*a.2)
def gf(a b:Sp):yau:=[bZ a (aS a b),bZ b (SQ (aS a b)),bZ a (S9 (aS a b)),bZ a (SQ (S9 (aS a b)))]
def aY(hs:yat):yau:=if #[hs]<3 then gf (hs.getD 0 (0,0)) (hs.getD (#[hs] - 1) (0,0))else(List.range' 0 #[hs]).map λk=>eF (bK hs k) (hs.getD k (0,0))
def wk(a:Sp):Prop:=a=(0,0)
def pJ(a b:Sp):Prop:=tn a b=0/\Rp a b<0
def wo(a b e:Sp):Prop:=(0<tn b e/\0<tn e a/\0<tn a b)∨(tn b e<0/\tn e a<0/\tn a b<0)
theorem bQ(a b:Sp):tn a b=- tn b a:=by ext tn;grind
def kr(a:Sp):tn a a=0:=by ext tn;grind
def Ak(a b:Sp):Rp a b=Rp b a:=by ext Rp;grind
def sqn(a:Int):0<=a*a:=by
 obtain h|h:=Int.le_total 0 a;calc Tx h h;have:=Tx (show 0<=-a by lia) (show 0<=-a by lia)
 lia
def gH{w:Sp}(h:w≠(0,0)):0<Rp w w:=by
 let⟨a,b⟩:=w;ext Rp;dsimp only;let f:=sqn a;let e:=sqn b;by_cases d:a=0;by_cases c:b=0
 lia
 have:b*b≠0:=46
 omega;have:a*a≠0:=46
 omega
def wG{b c:Sp}{y z:Int}(e:0<y)(hz:0<z)(h:y*b.1+z*c.1=0)(g:y*b.2+z*c.2=0):wk b∨pJ b c:=by
 by_cases a:b=(0,0);exact .inl a
 right
 let p:=gH a;let t:z*tn b c=0:=by
  have:z*tn b c=b.1*(y*b.2+z*c.2) - b.2*(y*b.1+z*c.1):=by ext tn;grind
  cbv
 let d:z*Rp b c=- (y*Rp b b):=by
  have:z*Rp b c+y*Rp b b=b.1*(y*b.1+z*c.1)+b.2*(y*b.2+z*c.2):=by ext Rp;grind
  grind
 let f:=Wi e p;calc⟨?_,?_⟩;obtain q|q:=VN.mp t<;>lia;by_cases q:Rp b c<0;calc q;have:=Tx (Tc hz) (show 0<=Rp b c by lia)
 lia
def Iy(a b c:Sp):tn b c*a.1+tn c a*b.1+tn a b*c.1=0/\tn b c*a.2+tn c a*b.2+tn a b*c.2=0:=by ext tn;constructor<;>grind
def tS{c:Sp}{z:Int}(hz:0<z)(b:z*c.1=0)(a:z*c.2=0):wk c:=by
 obtain q|q:=VN.mp b
 lia
 obtain r|r:=VN.mp a
 lia
 calc Prod.ext q r
def Lh(i:0<=tn b c)(h:0<=tn c a)(hz:0<=tn a b)(hs:0<tn b c+tn c a+tn a b) :
  wk a∨wk b∨wk c∨pJ a b∨pJ b c∨pJ c a∨wo a b c:=by
 let⟨e,d⟩:=Iy a b c;by_cases f:tn b c=0;rw[f,YZ]at e d;by_cases g:tn c a=0;rw[g,YZ]at e d;calc .inr (.inr (.inl (tS (z:=tn a b) 35 35 35)));by_cases f:tn a b=0;rw[f,YZ]at e d;calc .inr (.inl (tS (z:=tn c a) 35 35 35));rcases wG (b:=b) (c:=c) (y:=tn c a) (z:=tn a b) 35 35 35 35with q|q;calc .inr (.inl q);calc .inr (.inr (.inr (.inr (.inl q))));by_cases g:tn c a=0;rw[g,YZ]at e d;by_cases f:tn a b=0;rw[f,YZ]at e d;calc .inl (tS (z:=tn b c) 35 35 35);rcases wG (b:=c) (c:=a) (y:=tn a b) (z:=tn b c) 35 35 35 35with q|q;calc .inr (.inr (.inl q));calc .inr (.inr (.inr (.inr (.inr (.inl q)))));by_cases f:tn a b=0;rw[f,YZ]at e d;rcases wG (b:=a) (c:=b) (y:=tn b c) (z:=tn c a) 35 35 35 35with q|q;calc .inl q;calc .inr (.inr (.inr (.inl q)));calc .inr (.inr (.inr (.inr (.inr (.inr (.inl ⟨35,35,35⟩))))))
def wu(h:Tr)(ps:yat):Prop:=(∃p∈ps,wk (RO h p))∨(∃p∈ps,∃q∈ps,pJ (RO h p) (RO h q))∨∃ p∈ps,∃q∈ps,∃r∈ps,wo (RO h p) (RO h q) (RO h r)
def Iw{ps:yat}{p q r:Sp}(d:p∈ps)(b:q∈ps)(a:r∈ps)(e:0<=tn (RO h q) (RO h r))(c:0<=tn (RO h r) (RO h p))(hz:0<=tn (RO h p) (RO h q))(hs:0<tn (RO h q) (RO h r)+tn (RO h r) (RO h p)+tn (RO h p) (RO h q)):wu h ps:=by
 obtain c|c|c|c|c|c|c:=Lh e c hz hs;calc .inl ⟨_,d,c⟩;calc .inl ⟨_,b,c⟩;calc .inl ⟨_,a,c⟩;calc .inr (.inl ⟨_,d,_,b,c⟩);calc .inr (.inl ⟨_,b,_,a,c⟩);calc .inr (.inl ⟨_,a,_,d,c⟩);calc .inr (.inr ⟨_,d,_,b,_,a,c⟩)
def Ja(h:Tr)(a b:Sp):tn (RO h a) (RO h b)=h.1*Rl (eF a b) h:=by ext tn RO Rl eF;grind
def LU(h:Tr)(a w:Sp):Rl (bZ a w) h=- Rp w (RO h a):=by ext Rl bZ Rp RO;grind
def PH(h:Tr)(a b c:Sp):tn (RO h b) (RO h c)+tn (RO h c) (RO h a)+tn (RO h a) (RO h b)=h.1*(h.1*cr a b c):=by rw[cA];ext tn RO;grind
def OM(u v w:Sp):Rp u v*Rp u w+tn u v*tn u w=Rp u u*Rp v w:=by ext Rp tn;grind
def xH{u:Sp}(a:u≠(0,0))(c:Rp u v=0)(b:tn u v=0):v=(0,0):=by
 let p:=gH a;let l:=OM u v v;rw[c,b]at l;by_cases c:v=(0,0);calc c;have:=Wi p (gH c)
 lia
def HH{ps:yat}{a b:Sp}(i:a∈ps)(bm:b∈ps)(c:∀g∈gf a b,0<=Rl g h):wu h ps:=by
 let l:=c _ (XU);let f:=c _ (U1 _ XU);let k:=c _ (U1 _ (U1 _ XU));let e:=c _ (U1 _ (U1 _ (U1 _ XU)));rw[LU]at l f k e;let d:aS a b≠(0,0):=by ext aS;grind
 let c:Rp (SQ (aS a b)) (RO h b)=- Rp (aS a b) (RO h b):=by ext Rp SQ;grind
 let n:Rp (S9 (aS a b)) (RO h a)=tn (aS a b) (RO h a):=by ext Rp S9 tn;grind
 let m:Rp (SQ (S9 (aS a b))) (RO h a)=- tn (aS a b) (RO h a):=by ext Rp SQ S9 tn;grind
 rw[c,Int.neg_neg]at f;let j:tn (aS a b) (RO h a)=0:=35
 let g:Rp (aS a b) (RO h a)<=0:=46
 clear l k e c n m;by_cases e:a=b;calc .inl ⟨a,i,xH d 35 j⟩;let o:RO h b=((RO h a).1+h.1*(aS a b).1,(RO h a).2+h.1*(aS a b).2):=by ext aS;rw[if_neg e];ext RO;grind
 let c:tn (aS a b) (RO h b)=0:=by
  have:tn (aS a b) ((RO h a).1+h.1*(aS a b).1,(RO h a).2+h.1*(aS a b).2)=tn (aS a b) (RO h a):=by ext tn;grind
  cbv
 let e:tn (RO h a) (RO h b)=0:=by
  have:tn (RO h a) ((RO h a).1+h.1*(aS a b).1,(RO h a).2+h.1*(aS a b).2)=- (h.1*tn (aS a b) (RO h a)):=by ext tn;grind
  grind
 let l:=OM (aS a b) (RO h a) (RO h b);rw[c,XI,VX]at l;by_cases k:Rp (aS a b) (RO h a)=0;calc .inl ⟨a,i,xH d k j⟩;by_cases j:Rp (aS a b) (RO h b)=0;calc .inl ⟨b,bm,xH d j c⟩;let c:=XS (Int.lt_iff_le_and_ne.mpr ⟨g,k⟩) (Int.lt_iff_le_and_ne.mpr ⟨f,Ne.symm j⟩);calc .inr (.inl ⟨a,i,b,bm,e,?_⟩);rw[l]at c;by_cases q:Rp (RO h a) (RO h b)<0;calc q;calc absurd c (XM.mpr (Tx (Tc (gH d)) 46))
def IU{h:Tr}{ps:yat}{c:Nat->Sp}{N:Nat}(h0:0<h.1)(g:∀i,i<N->c i∈ps)(l:∀i,i+1<N->0<=tn (RO h (c i)) (RO h (c (i+1))))(k:0<cr (c 0) (c 1) (c 2)) :
  ∀ d i,N=i+d+3->0<=tn (RO h (c (i+d+2))) (RO h (c 0))->0<=tn (RO h (c 0)) (RO h (c (i+1)))->(i=0∨0<tn (RO h (c 0)) (RO h (c (i+1))))->wu h ps:=by
 let VI:∀i,i+2<N->0<=tn (RO h (c (i+2))) (RO h (c 0))->0<=tn (RO h (c 0)) (RO h (c (i+1)))->(i=0∨0<tn (RO h (c 0)) (RO h (c (i+1))))->wu h ps:=λi b a e f=>by
  let j:=l (i+1) b;calc Iw (g 0 (Xf (Uw _) b)) (g (i+1) (Yf b)) (g (i+2) b) j a e ?_;obtain q|q:=f;subst q;rw[PH];calc Wi h0 (Wi h0 k);exact Int.add_pos_of_nonneg_of_pos (Int.add_nonneg j a) q
 intro d
 induction d with
 |zero =>
  intro i g a e f;calc VI i (by rw[g];calc zCS _) a e f
 |succ d ih =>
  intro i g a e f;let b:i+2<N:=by rw[g];lia
  by_cases z:0<tn (RO h (c 0)) (RO h (c (i+2)));let c:i+1+d+2=i+(d+1)+2:=35
  calc ih (i+1) (by rw[g];lia) (by rw[c];calc a) (Tc z) (.inr z);calc VI i b ?_ e f;rw[bQ];calc Int.neg_nonneg_of_nonpos (XM.mp z)
def G9{h:Tr}(g:nj hs ps)(c:ps ≠ [])(h0:0<h.1)(a:∀b∈aY hs,0<=Rl b h):wu h ps:=by
 let⟨p,o,b,_⟩:=g.Yt c;let f:0<#[hs]:=by rw[b];exact zDj _
 let l:∀i,i<#[hs]->hs.getD i (0,0)∈ps:=λi b=>by rw[Wo,T5 b];exact g.mem _ (XW _)
 unfold aY at a;by_cases c:#[hs]<3;rw[Rr c]at a;calc HH (l 0 f) (l (#[hs] - 1) (Nat.sub_lt f Nat.one_pos)) a;rw[if_neg c]at a;obtain⟨d,e⟩:∃d,#[hs]=0+d+3:=⟨#[hs] - 3,35⟩;let m:∀k,k<#[hs]->0<=tn (RO h (bK hs k)) (RO h (hs.getD k (0,0))):=λk j=>by rw[Ja];exact Tx (Tc h0) (a _ (SG.mpr ⟨k,zCy.mpr ⟨Uw _,by rw[Yl];calc j⟩,rfl⟩))
 let n:bK hs 0=hs.getD (0+d+2) (0,0):=by ext bK;rw[Yl,e];show hs.getD ((0+d+2) % (0+d+3)) _=_;rw[Xp (zCS _)]
 let a:∀k,k+1<#[hs]->bK hs (k+1)=hs.getD k (0,0):=λk j=>by ext bK;rw[zDi];show hs.getD ((k+#[hs]) % #[hs]) _=_;rw[zDM,Xp (Yf j)]
 let j:∀i,i+1<#[hs]->0<=tn (RO h (hs.getD i (0,0))) (RO h (hs.getD (i+1) (0,0))):=λi b=>by have:=m (i+1) b;rw[a i b]at this;exact this
 let a:=m 0 f;rw[n]at a;calc IU (c:=λi=>hs.getD i (0,0)) h0 l j (g.W5 (by rw[e];lia)) d 0 e a (j 0 (by rw[e];lia)) (.inl rfl)
def xP{u v x y:Int}(e:u*y=v*x)(a:0<u∨(u=0/\0<v))(b:0<x∨(x=0/\0<=y)):0<=u*x+v*y:=by
 obtain a|⟨a,d⟩:=a;let c:(u*x+v*y)*u=(u*u+v*v)*x:=72
 calc OV (y:=u) ?_ a;rw[c];refine Tx (Int.add_nonneg (sqn u) (sqn v)) ?_
 lia
 subst a;rw[YZ]at e ⊢;rw[zDg];obtain q|q:=VN.mp e.symm
 lia
 obtain r|r:=b
 lia
 calc Tx (Tc d) r.2
def wX(h:¬lS q p):0<q.1 - p.1∨(q.1 - p.1=0/\0<=q.2 - p.2):=by
 unfold lS at h
 lia
def Kb{a b:Sp}{g:Tr}(i:a≠b)(h:¬lS b a)(f:¬lS p a)(e:¬lS b p)(h0:cr a b p=0)(c:g∈gf a b):0<=Rl g (1,p.1,p.2):=by
 let d:∀w a:Sp,Rl (bZ a w) (1,p.1,p.2)=w.1*(p.1 - a.1)+w.2*(p.2 - a.2):=λw a=>by ext Rl bZ;grind
 rw[cA]at h0;let k:(b.1 - a.1)*(p.2 - a.2)=(b.2 - a.2)*(p.1 - a.1):=35
 let j:(b.1 - a.1)*(b.2 - p.2)=(b.2 - a.2)*(b.1 - p.1):=72
 let g:0<b.1 - a.1∨(b.1 - a.1=0/\0<b.2 - a.2):=by
  obtain q|⟨q,r⟩:=wX h
  cbv
  grind
 let a:=xP k g (wX f);let l:=xP j g (wX e);unfold gf aS at c;rw[if_neg i]at c;simp at c;obtain q|q|q|q:=c<;>rw[q,d]<;>simp only[SQ,S9];calc a;grind
 all_goals simp_all [U7,Int.add_left_neg,WS,Int.neg_neg,Int.add_right_neg]
def BF(g:nj hs ps)(c:ps ≠ []){b:Tr}(d:b∈aY hs){p:Sp}(f:p∈ps):0<=Rl b (1,p.1,p.2):=by
 let⟨j,e,h,a⟩:=g.Yt c;unfold aY at d;by_cases c:#[hs]<3;obtain _|⟨i,_|⟨z,r⟩⟩:=e;let e:=g.one j h p f;rw[h]at d;let l:∀w:Sp,Rl (bZ p w) (1,p.1,p.2)=0:=λw=>by ext Rl bZ;grind
 unfold gf at d;simp at d;grind;let e:=g.two j i h;rw[h]at d;calc Kb e.1 (a i (g.mem i 46)) (a p f) (e.2 p f).2 (e.2 p f).1 d;rw[h]at c;calc absurd c 52;rw[if_neg c]at d;let⟨k,m,e⟩:=SG.mp d;let a:k<#[hs]:=72
 let c:Rl b (1,p.1,p.2)=cr (bK hs k) (hs.getD k (0,0)) p:=by rw[<- e,cA];ext Rl eF;grind
 rw[c];calc g.TC 35 k a p f
def bC(w:Sp):Int:=((w.1.natAbs:Nat):Int)+((w.2.natAbs:Nat):Int)
def bX:Int->yaf->Int
 |d,[]=>d
 |d,x::a=>bX ((Int.gcd d x:Nat):Int) a
def dj(xs:yaf):yaf:=xs.map λx=>x.fdiv (bX 0 xs)
def sZ(a:Sp):Option (yaf):=if bC a=0 then some [1]else none
def pO(a b:Sp):Option (yaf):=if tn a b=0/\Rp a b<0 then some (dj [bC b,bC a])else none
def lN(a b e:Sp):Option (yaf) :=
 if 0<tn b e/\0<tn e a/\0<tn a b then some (dj [tn b e,tn e a,tn a b])
 else if tn b e<0/\tn e a<0/\tn a b<0 then some (dj [-tn b e,-tn e a,-tn a b])else none
def lO:yat->Option (yaf)
 |[]=>none
 |[a]=>sZ a
 |[a,b]=>pO a b
 |a::b::e::_=>lN a b e
def yr:bC a=0↔a=(0,0):=by
 ext bC;let⟨x,y⟩:=a;simp only[Prod.mk.injEq]
 lia
def AJ{n i:Nat}(h:i<n):[i]∈Ul n 1:=by simp only[Ul,List.flatMap_cons,List.flatMap_nil,Yx];calc SG.mpr ⟨i,zCy.mpr ⟨Uw _,by simp[fe];calc h⟩,rfl⟩
def Jq{n i j:Nat}(h:i<j)(a:j<n):[i,j]∈Ul n 2:=by
 have:=AJ (n:=n) (i:=i) 35;calc zCQ.mpr ⟨[i],this,SG.mpr ⟨j,zCy.mpr ?_,rfl⟩⟩;simp[fe]
 lia
theorem Ao(k:Int)(a:0<=k):∀(xs:yaf) (d:Int),bX (k*d) (xs.map (k*·))=k*bX d xs
 |[],d=>rfl
 |x::xs,d=>by show bX ((Int.gcd (k*d) (k*x):Nat):Int) (xs.map (k*·))=_;rw[zDU,Int.natCast_mul,Int.natAbs_of_nonneg a,Ao k a xs];rfl
def G8(h:tn a b=0):Rp b b*a.1+(-(Rp a b))*b.1=0/\Rp b b*a.2+(-(Rp a b))*b.2=0:=by
 let d:Rp b b*a.1+(-(Rp a b))*b.1=b.2*tn a b:=by ext Rp tn;grind
 let c:Rp b b*a.2+(-(Rp a b))*b.2=- (b.1*tn a b):=by ext Rp tn;grind
 cbv
def tJ{a:Sp}(h:a≠(0,0)):0<bC a:=by
 have:bC a≠0:=λe=>h (yr.mp e)
 unfold bC at this ⊢
 lia
def RD(g:Tr):D:=T3 g.1 g.2.1 g.2.2
theorem Dh(h:RD p=RD q):p=q:=by
 unfold RD T3 at h
 lia
def M6{ps qs:yau}(h:ps.map RD=qs.map RD):ps=qs:=gK Dh h
theorem iV(p:Tr):aU (RD p)=RD p:=rfl
def vY(ps:yau):bf (ps.map RD)=ps.map RD:=cI RD iV ps
def oL:Option (yaf)->D
 |none=>.RZ
 |some a=>.lst true (a.map D.int)
structure WB(n:Nat)(w:Sp):Prop where
 x:Bd n w.1
 y:Bd n w.2
structure PB(n:Nat)(h:Tr):Prop where
 b0:0<h.1
 b:Bd 100 h.1
 x:Bd n h.2.1
 y:Bd n h.2.2
theorem WB.mono{m:Nat}(h:WB n w)(a:n<=m):WB m w:=⟨h.x.mono a,h.y.mono a⟩
def Wn(b:Bd n x)(a:Bd m y)(c:n<=1000:=by decide)(d:m<=1000:=by decide):CM x y:=.inr (.inr ⟨b.mono 35,a.mono 35⟩)
theorem yj(x:Int):∀(d:Int) (xs:yaf),bX d (xs++[x])=((Int.gcd (bX d xs) x:Nat):Int)
 |d,[]=>rfl
 |d,y::a=>yj x _ a
def wV(h:WB n w):Bd (n+2) (bC w):=by
 let b:=h.x;let a:=h.y;unfold Bd bC at *
 lia
def LS{x:Int}(h:x≠0):0<Int.gcd ((Int.gcd 0 d:Nat):Int) x:=Int.gcd_pos_iff.mpr (.inr h)
def Ge(a:Bd n x)(h:x≠0):Bd n ((Int.gcd d x:Nat):Int):=by
 unfold Bd at *;have:=zCx 35 (Int.gcd_dvd_natAbs_right d x)
 lia
def pQ(h:Bd n x):Bd n (-x):=by unfold Bd at *;lia
def Oh(p q:Sp):eqD (Td p) (Td q)=decide (p=q):=by
 ext Td;rw[wQ,i9,i9,i9,tG,j9,j9,j9,Bool.and_true]
 lia
def Ft{a:Type}{xs:List a}{v:a}(h0:0<#[xs])(h:xs[#[xs] - 1]?=some v):T7 xs (-1)=some v:=by ext T7 ixN;rw[if_neg 35,Rr 35];rw[show(-1+(#[xs]:Int)).toNat=#[xs] - 1 by lia];calc h
def Iq(d:SB a)(c:SB b):WB 62 (aS a b):=by ext aS;split;calc⟨by ext Bd;decide,by ext Bd;decide⟩;calc⟨by rw[Y0,Y0];calc Bd.mono (m:=61) (c.x.sub d.x) 29,by show Bd 62 (1*b.2 - 1*a.2);rw[Y0,Y0];calc Bd.mono (m:=61) (c.y.sub d.y) 29⟩
def DX(hs:yat):#[aY hs]<=#[hs]+4:=by
 ext aY gf;split
 all_goals cbv
def Qa{g p b:Int}(a:0<g)(e:g*p=b)(h:Bd n b):Bd n p:=by
 unfold Bd at *;rw[<- e,zCU]at h;have:1*p.natAbs<=g.natAbs*p.natAbs:=Nat.mul_le_mul_right _ 35
 lia
def IW{a:Int}(c:Bd 402 b)(h:b≠0):Bd 1000 (bX 0 [a,b]):=(Ge c h).mono 29
def iM{c b:DS}{ρ:Ro}(P:Ro->Prop)(d:∀a,P a->b E a)(e:∀K:Ro->Prop,(∀a,P a->K a)->c {E with nx:=K} ρ):nF c b E ρ:=e _ d
def wsum(sh:yaf)(ws:yat):Sp:=((List.zipWith (λs (w:Sp)=>s*w.1) sh ws).sum,(List.zipWith (λs (w:Sp)=>s*w.2) sh ws).sum)
theorem tH:∀(d:Int) (xs:yaf),bX d xs∣d/\∀x∈xs,bX d xs∣x
 |d,[]=>⟨Int.dvd_refl _,52⟩
 |d,x::xs=>by
  let⟨a,b⟩:=tH ((Int.gcd d x:Nat):Int) xs;calc⟨zCt a (Int.gcd_dvd_left _ _),λy c=>?_⟩;obtain z|z:=S8.mp c;rw[z];calc zCt a (Int.gcd_dvd_right _ _);calc b y z
theorem Aq:∀(d:Int) (xs:yaf),0<=d->0<=bX d xs
 |d,[],h=>h
 |d,x::xs,_=>Aq _ xs 46
structure DJ(xs:yaf):Prop where
 pos:∀s∈dj xs,0<s
 one:bX 0 (dj xs)=1
 back:∃g:Int,0<g/\(dj xs).map (g*·)=xs
def mP{xs:yaf}(a:xs ≠ [])(h:∀x∈xs,0<x):DJ xs:=by
 let⟨c,b⟩:=zB8 xs a;let gp:0<bX 0 xs:=by
  let a:=Aq 0 xs 35;have:bX 0 xs≠0:=λe=>by have:=(tH 0 xs).2 c b;rw[e]at this;grind
  lia
 let a:(dj xs).map (bX 0 xs*·)=xs:=by
  ext dj;rw[UA];have:∀x∈xs,((bX 0 xs*·)∘λx=>x.fdiv (bX 0 xs)) x=x:=λx d=>by simp_all [Int.fdiv_eq_ediv_of_dvd,tH,Int.mul_ediv_cancel']
  rw[zC8 this,List.map_id']
 calc⟨λs f=>?_,?_,_,gp,a⟩;let g:bX 0 xs*s∈xs:=72
 calc JQ (y:=bX 0 xs) (by simp_all [VF]) gp;have:=Ao (bX 0 xs) (Tc gp) (dj xs) 0;let a:bX 0 xs*1=bX 0 xs*bX 0 (dj xs):=35
 calc(zDb 35 a).symm
structure Du(ws:yat)(sh:yaf):Prop where
 len:#[sh]=#[ws]
 pos:∀s∈sh,0<s
 one:bX 0 sh=1
 sum:wsum sh ws=(0,0)
def M7(h:pJ a b):bC b*a.1+bC a*b.1=0/\bC b*a.2+bC a*b.2=0:=by
 let c:b≠(0,0):=λe=>by have:=h.2;unfold Rp at this;cbv
 let⟨g,f⟩:=G8 h.1;let d:=gH c;let c:0 < -(Rp a b):=by have:=h.2;lia
 generalize Rp b b=x at g f d;generalize -(Rp a b)=y at g f c;let l:x*bC a=y*bC b:=by
  let g:x.natAbs*a.1.natAbs=y.natAbs*b.1.natAbs:=by rw[<- zCU,<- zCU];lia
  let f:x.natAbs*a.2.natAbs=y.natAbs*b.2.natAbs:=by rw[<- zCU,<- zCU];lia
  let h:=congrArg (λn:Nat=>(n:Int)) g;let g:=congrArg (λn:Nat=>(n:Int)) f;simp only[Int.natCast_mul,Int.natAbs_of_nonneg (Tc d),Int.natAbs_of_nonneg (Tc c)]at h g;ext bC
  simp_all [Int.mul_add]
 let z:∀u v:Int,x*u+y*v=0->bC b*u+bC a*v=0:=λu v e=>by
  have:x*(bC b*u+bC a*v)=bC b*(x*u+y*v)+v*(x*bC a - y*bC b):=72
  rw[e,l,Int.sub_self,XI,XI,VX]at this;exact(VN.mp this).resolve_left 35
 cbv
def ux(L:DJ xs)(h:wsum xs ws=(0,0)):wsum (dj xs) ws=(0,0):=by
 let⟨g,gp,c⟩:=L.back;let b:∀(f:Sp->Int) (l:yaf) (a:yat),(List.zipWith (λs w=>s*f w) (l.map (g*·)) a).sum=g*(List.zipWith (λs w=>s*f w) l a).sum:=λf l=>by
  induction l with
  |nil=>cbv
  |cons s l ih =>
   intro a;cases a with
   |nil=>simp
   |cons u a =>
    simp_all [Int.mul_add,Int.mul_assoc]
 unfold wsum at h ⊢;rw[<- c]at h;rw[b (λw=>w.1),b (λw=>w.2)]at h;let z:∀t:Int,g*t=0->t=0:=λt e=>(VN.mp e).resolve_left 35
 cbv
def uC{ws:yat}{sh:yaf}(m:#[ws]<=3)(h:lO ws=some sh):Du ws sh:=by
 obtain _|⟨a,_|⟨b,_|⟨e,_|⟨z,r⟩⟩⟩⟩:=ws;cases h;let d:sZ a=some sh:=h;unfold sZ at d;split at d;rename_i c;cases d;have:=yr.mp c;subst this;exact⟨rfl,52,rfl,by ext wsum;simp⟩
 lia
 ·let d:pO a b=some sh:=h;unfold pO at d;split at d
  ·rename_i c;cases d;let g:pJ a b:=c;let l:a≠(0,0):=λe=>by have:=c.2;unfold Rp at this;cbv
   let k:b≠(0,0):=λe=>by have:=c.2;unfold Rp at this;cbv
   let L:=mP (xs:=[bC b,bC a]) 52 λx f=>by
    simp at f;obtain rfl|rfl:=f
    all_goals simp_all [tJ]
   let⟨j,i⟩:=M7 g;calc⟨by ext dj;simp,L.pos,L.one,ux L ?_⟩;ext wsum
   cbv
  lia
 let d:lN a b e=some sh:=h;let⟨o,n⟩:=Iy a b e;unfold lN at d;split at d;cases d;let L:=mP (xs:=[tn b e,tn e a,tn a b]) 52 46;calc⟨by ext dj;simp,L.pos,L.one,ux L ?_⟩;ext wsum
 simp_all [Int.add_assoc]
 split at d;cases d;let L:=mP (xs:=[-tn b e,-tn e a,-tn a b]) 52 72;calc⟨by ext dj;simp,L.pos,L.one,ux L ?_⟩;ext wsum;simp;grind
 lia
 cbv
theorem AI(L:DJ xs)(h:∀x∈xs,Bd n x):∀s∈dj xs,Bd n s:=λs b=>by
 let⟨g,gp,a⟩:=L.back;have:g*s∈(dj xs).map (g*·):=72
 rw[a]at this;calc Qa gp rfl (h _ this)
def Fv{ws:yat}{sh:yaf}(f:∀w∈ws,WB 400 w)(l:#[ws]<=3)(h:lO ws=some sh):∀s∈sh,Bd 900 s:=by
 obtain _|⟨a,_|⟨b,_|⟨e,_|⟨z,r⟩⟩⟩⟩:=ws;cases h;let d:sZ a=some sh:=h;unfold sZ at d;split at d;cases d;intro s c;rw[Vp.mp c];ext Bd
 lia
 lia
 ·let d:pO a b=some sh:=h;unfold pO at d;split at d
  ·rename_i c;cases d;let k:a≠(0,0):=λe=>by have:=c.2;unfold Rp at this;cbv
   let j:b≠(0,0):=λe=>by have:=c.2;unfold Rp at this;cbv
   let L:=mP (xs:=[bC b,bC a]) 52 λx c=>by
    simp at c;obtain rfl|rfl:=c
    all_goals simp_all [tJ]
   refine AI L λx c=>?_
   simp at c;obtain rfl|rfl:=c;calc(wV (f b 52)).mono 29;exact(wV (f a 52)).mono 29
  lia
 ·let d:lN a b e=some sh:=h;let i:=f a 52;let h:=f b 52;let g:=f e 52;let p:Bd 900 (tn b e):=Bd.mono (m:=801) ((h.x.mul g.y).sub (g.x.mul h.y)) 29;let o:Bd 900 (tn e a):=Bd.mono (m:=801) ((g.x.mul i.y).sub (i.x.mul g.y)) 29;let n:Bd 900 (tn a b):=Bd.mono (m:=801) ((i.x.mul h.y).sub (h.x.mul i.y)) 29;unfold lN at d;split at d;let L:=mP (xs:=[tn b e,tn e a,tn a b]) 52 46;grind [AI]
  ·split at d
   ·cases d;let L:=mP (xs:=[-tn b e,-tn e a,-tn a b]) 52 72;refine AI L λx c=>?_
    simp at c;obtain rfl|rfl|rfl:=c
    all_goals simp_all [pQ]
   lia
 cbv
noncomputable def Ss(a b:Tr):Tr:=(a.2.1*b.2.2 - a.2.2*b.2.1,a.2.2*b.1 - a.1*b.2.2,a.1*b.2.1 - a.2.1*b.1)
def Tt(a b c:Tr):Int:=Rl (Ss a b) c
def eZ(a b c:Tr):Tt a b c=Tt b c a:=by ext Tt Rl Ss;grind
def tE(a b c:Tr):Tt a b c=- Tt b a c:=by ext Tt Rl Ss;grind
def F3(a c:Tr):Tt a a c=0:=by ext Tt Rl Ss;grind
def rh(a b:Tr):Tt a b a=0:=by ext Tt Rl Ss;grind
def rj(a b:Tr):Tt a b b=0:=by ext Tt Rl Ss;grind
structure Cmb(q a b:Tr)(m s t:Int):Prop where
 m0:0<m
 s0:0<s
 t0:0<t
 e1:m*q.1=s*a.1+t*b.1
 e2:m*q.2.1=s*a.2.1+t*b.2.1
 e3:m*q.2.2=s*a.2.2+t*b.2.2
def Cmb.gv(C:Cmb q a b m s t)(g:Tr):m*Rl g q=s*Rl g a+t*Rl g b:=by let e:=C.e1;let d:=C.e2;let c:=C.e3;ext Rl;grind
def Cmb.nng(C:Cmb q a b m s t)(d:0<=Rl g a)(c:0<=Rl g b):0<=Rl g q:=by
 let h:=C.gv g;let f:=Tx (Tc C.s0) d;let e:=Tx (Tc C.t0) c;have:0<=m*Rl g q:=35
 calc Z5 this C.m0
def Cmb.zero(C:Cmb q a b m s t)(d:Rl g a=0)(c:Rl g b=0):Rl g q=0:=by
 let h:=C.gv g;rw[d,c]at h;let a:m*Rl g q=0:=35
 obtain z|z:=VN.mp a;have:=C.m0;lia
 lia
def aP(g:Tr)(qf:Tr->Tr->Tr):Tr->yau->yau
 |_,[]=>[]
 |p,c::r=>(if Rl g p*Rl g c<0 then[qf p c]else[])++((if 0<=Rl g c then[c]else[])++aP g qf c r)
def Zc(g:Tr)(qf:Tr->Tr->Tr):Prop:=∀p c:Tr,0<p.1->0<c.1->Rl g p*Rl g c<0->(∃m s t,Cmb (qf p c) p c m s t)/\Rl g (qf p c)=0
theorem uv(B:Zc g qf):∀(l:yau) (p:Tr),(∀x∈p::l,0<x.1)->(∀x∈p::l,0<=Rl d x)->∀y∈aP g qf p l,0<=Rl d y
 |[],_,_,_=>λy a=>by cases a
 |c::r,p,d,b=>λy a=>by
  obtain q|q:=S7.mp a;split at q;rename_i a;rw[Vp.mp q];let⟨⟨m,s,t,C⟩,_⟩:=B p c 46 46 a;calc C.nng (b p 52) (b c 52);grind;obtain q|q:=S7.mp q
  cbv
  calc uv B r c (λx e=>d x 72) 72 y q
theorem uw(B:Zc g qf):∀(l:yau) (p:Tr),(∀x∈p::l,0<x.1)->∀y∈aP g qf p l,0<y.1
 |[],_,_=>λy b=>by cases b
 |c::r,p,a=>λy b=>by
  unfold aP at b;obtain q|q:=S7.mp b;split at q;rename_i b;rw[Vp.mp q];let⟨⟨m,s,t,C⟩,_⟩:=B p c (a p 52) (a c 52) b;let f:=Wi C.s0 (a p 52);let e:=Wi C.t0 (a c 52);have:=C.e1;let d:0<m*(qf p c).1:=35
  exact VO.mp λz=>by have:=zCK (Tc C.m0) z;lia
  cases q;obtain q|q:=S7.mp q;split at q;rw[Vp.mp q];calc a c 52;cases q;calc uw B r c (λx b=>a x (U1 _ b)) y q
theorem iW(g:Tr)(qf:Tr->Tr->Tr):∀(a:yau) (p c:Tr) (b:yau),aP g qf p (a++c::b)=aP g qf p (a++[c])++aP g qf c b
 |[],p,c,b=>by simp only[Zi,aP,Yx,WI]
 |x::a,p,c,b=>by simp only[YW,aP,iW g qf a x c b,WI]
theorem yG(B:Zc g qf):∀(l:yau) (p:Tr),(∀x∈p::l,0<x.1)->∀y∈aP g qf p l,0<=Rl g y
 |[],_,_=>λy a=>by cases a
 |c::r,p,b=>λy a=>by
  unfold aP at a;obtain q|q:=S7.mp a;split at q;rename_i a;rw[Vp.mp q,(B p c (b p 52) (b c 52) a).2];calc WS _;cases q;obtain q|q:=S7.mp q;split at q;rename_i a;rw[Vp.mp q];calc a;cases q;calc yG B r c (λx a=>b x (U1 _ a)) y q
theorem qX:∀(l:yau) (p:Tr) {x:Tr},x∈l->0<=Rl g x->x∈aP g qf p l
 |[],_,_,h,_=>by cases h
 |c::r,p,x,h,a=>by
  ext aP;obtain rfl|h:=S8.mp h;rw[Rr a];simp;calc VA _ (VA _ (qX r c h a))
theorem o7(B:Zc g qf):∀(l:yau) (p z:Tr),(∀x∈p::l,0<x.1)->0<z.1->Rl g p*Rl g z<0->∃y∈aP g qf p (l++[z]),Rl g y=0/\∀d:Tr,(∀x∈p::(l++[z]),0<=Rl d x)->0<=Rl d y
 |[],p,z,i,k,h=>by
  let⟨⟨m,s,t,C⟩,e⟩:=B p z 46 k h;calc⟨qf p z,?_,e,λd f=>C.nng (f p 52) (f z 52)⟩;ext aP
  cbv
 |c::r,p,z,i,k,h=>by
  obtain q|q|q:=zCJ (Rl g p*Rl g c) 0;let⟨⟨m,s,t,C⟩,e⟩:=B p c (i p 52) (i c 52) q;calc⟨qf p c,?_,e,λd f=>C.nng (f p 52) (f c 52)⟩;ext aP
  cbv
  let a:Rl g p≠0:=35
  let b:Rl g c=0:=(VN.mp q).resolve_left a;calc⟨c,by grind [qX],b,46⟩;let j:Rl g c*Rl g z<0:=by
   rcases Int.lt_or_gt_of_ne (show Rl g p≠0 from 35)with a|a;let b:0<Rl g z:=VO.mp λb=>VO.mpr h (zBb (Tc a) b)
   let d:Rl g c<0:=VO.mp λd=>VO.mpr q (zA8 (Tc a) d)
   calc XS d b;let b:Rl g z<0:=VO.mp λb=>VO.mpr h (Tx (Tc a) b)
   let d:0<Rl g c:=VO.mp λd=>VO.mpr q (zCK (Tc a) d)
   exact XF d b
  let⟨y,n,e,f⟩:=o7 B r c z (λx o=>i x 72) k j;rw[YW];ext aP;grind
def W9(l:yau):Prop:=∀x y z,List.Sublist [x,y,z] l->0<=Tt x y z
def W9.sub{k:yau}(h:W9 l)(s:k.Sublist l):W9 k:=λx y z q=>h x y z (q.trans s)
def lM:yau->Prop
 |[]=>True
 |p::r=>r.Pairwise (λa b=>0<=Tt p a b)/\lM r
theorem W9.p:∀{l:yau},W9 l->lM l
 |[],_=>True.intro
 |p::r,h=>⟨List.pairwise_iff_forall_sublist.mpr fun {a b} s=>h p a b (s.cons_cons p),W9.p (h.sub (List.sublist_cons_self p r))⟩
theorem lM.t:∀{l:yau},lM l->W9 l
 |[],_,_,_,_,s=>by cases s
 |p::r,h,x,y,z,s=>by
  cases s with
  |cons _ s=>calc lM.t h.2 x y z s
  |cons_cons _ s=>calc List.pairwise_iff_forall_sublist.mp h.1 s
theorem lJ(B:Zc g qf):∀(l:yau) (p:Tr),(∀x∈p::l,0<x.1)->(p::l).Pairwise (λa b=>0<=Tt d a b)->(p::aP g qf p l).Pairwise (λa b=>0<=Tt d a b)
 |[],_,_,h=>h
 |c::r,p,f,h=>by
  let i:∀x∈c::r,0<x.1:=λx q=>f x 72
  let⟨e,j⟩:=Zh.mp h;let ih:=lJ B r c i j;let u:∀w∈aP g qf c r,0<=Tt d p w:=uv B r c i (d:=Ss d p) e;let i:0<=Tt d p c:=e c 52;ext aP;by_cases h:Rl g p*Rl g c<0
  ·let⟨⟨m,s,t,C⟩,e⟩:=B p c (f p 52) (f c 52) h;let n:0<=Tt d p (qf p c):=C.nng (g:=Ss d p) (by show 0<=Tt d p p;rw[rj];lia) i;let e:∀x,0<=Tt d p x->0<=Tt d c x->0<=Tt d (qf p c) x:=λx a b=>by
    rw[eZ,eZ]at a b ⊢;exact C.nng (g:=Ss x d) a b
   let k:0<=Tt d (qf p c) c:=e c i (by rw[rj];lia);by_cases o:0<=Rl g c
   all_goals simp_all [if_neg]
  rw[if_neg h];grind
theorem Bw(B:Zc g qf):∀(l:yau) (p:Tr),(∀x∈p::l,0<x.1)->lM (p::l)->lM (p::aP g qf p l)
 |[],_,_,h=>h
 |c::r,p,f,h=>by
  let i:∀x∈c::r,0<x.1:=λx k=>f x 72
  let ih:=Bw B r c i h.2;let j:(p::c::r).Pairwise λa b=>0<=Tt p a b:=Zh.mpr ⟨λa _=>by rw[F3];lia,h.1⟩
  let e:=(Zh.mp (lJ (d:=p) B (c::r) p f j)).2;calc⟨e,?_⟩;let e:(c::r).Pairwise λa b=>0<=Tt p a b:=h.1
  let j:=lJ (d:=p) B r c i e;let e:(c::r).Pairwise λa b=>0<=Tt c a b:=Zh.mpr ⟨λa _=>by rw[F3];lia,h.2.1⟩
  let h:=lJ (d:=c) B r c i e;ext aP;by_cases d:Rl g p*Rl g c<0;rw[Rr d];let⟨⟨m,s,t,C⟩,e⟩:=B p c (f p 52) (f c 52) d;let e:(c::aP g qf c r).Pairwise λa b=>0<=Tt (qf p c) a b:=by calc List.Pairwise.imp ?_ (List.pairwise_and_iff.mpr ⟨j,h⟩);intro a b ⟨x,y⟩;rw[eZ]at x y ⊢;exact C.nng (g:=Ss a b) x y
  by_cases a:0<=Rl g c;rw[Rr a];calc⟨e,ih⟩;rw[if_neg a];calc⟨46,ih.2⟩;rw[if_neg d];by_cases a:0<=Rl g c
  cbv
  rw[if_neg a];calc ih.2
def HK{l:yau}{a:Tr}(h:W9 (l++[a])):W9 (a::(l++[a])):=λx y z s=>by
 cases s with
 |cons _ s=>calc h x y z s
 |cons_cons _ s =>
  let⟨c,b,e,f,d⟩:=List.sublist_append_iff.mp s;obtain _|⟨w,b⟩:=b;rw[Yx]at e;have:=h y z a 72
  rw[eZ];exact this
  ·let i:b=[]:=by
    grind
   let g:w=a:=72
   obtain _|⟨u,_|⟨v,c⟩⟩:=c
   all_goals simp_all [rh,WS,congrArg]
def YO(l:yau)(X:Tr):Prop:=∀h:Tr,(∀p∈l,0<=Rl h p)->0<=Rl h X
def SD(g u v:Tr):Tr:=(Rl g v*u.1 - Rl g u*v.1,Rl g v*u.2.1 - Rl g u*v.2.1,Rl g v*u.2.2 - Rl g u*v.2.2)
def HX(g u v h:Tr):Rl h (SD g u v)=Rl g v*Rl h u - Rl g u*Rl h v:=by ext SD Rl;grind
def Ha(b:Rl g y=0)(a:Tt u v y=0):Rl h y*(SD g u v).1=y.1*Rl h (SD g u v):=by unfold Tt Rl Ss at a;unfold SD Rl at *;dsimp only at *;grind
def M8(a:Rl g y1=0)(o:Rl g y2=0)(p:Tt u v y1<=0)(i:0<=Tt u v y2)(d:0<y1.1)(p2:0<y2.1)(m:0<=Rl h y1)(l:0<=Rl h y2):0<=Rl h (SD g u v)*(SD g u v).1:=by
 by_cases z:Tt u v y1=0;let k:=Ha (h:=h) a z;let j:0<=(SD g u v).1*(SD g u v).1:=sqn _;have:0<=y1.1*(Rl h (SD g u v)*(SD g u v).1):=by
  have:y1.1*(Rl h (SD g u v)*(SD g u v).1)=Rl h y1*((SD g u v).1*(SD g u v).1):=72
  simp_all [Tx]
 calc Z5 this d;let e:Tt u v y1<0:=35
 generalize ha:Tt u v y1=a at *;generalize hb:Tt u v y2=b at *
 let' y:Tr:=(b*y1.1 - a*y2.1,b*y1.2.1 - a*y2.2.1,b*y1.2.2 - a*y2.2.2)
 let c:∀f:Tr,Rl f y=b*Rl f y1 - a*Rl f y2:=λf=>by ext Rl;grind
 let k:=Ha (h:=h) (u:=u) (v:=v) (y:=y) (g:=g) 46 (by show Rl (Ss u v) y=0;rw[c];show b*Tt u v y1 - a*Tt u v y2=0;grind)
 rw[c]at k;let c:0<y.1:=by
  show 0<b*y1.1 - a*y2.1;have:=Tx i (Tc d);have:=XS e p2
  lia
 let n:0<=b*Rl h y1 - a*Rl h y2:=by
  have:=Tx i m;have:=zA8 (Tc e) l
  lia
 let j:0<=(SD g u v).1*(SD g u v).1:=sqn _;have:0<=y.1*(Rl h (SD g u v)*(SD g u v).1):=by
  have:y.1*(Rl h (SD g u v)*(SD g u v).1)=(b*Rl h y1 - a*Rl h y2)*((SD g u v).1*(SD g u v).1):=by rw[<- Int.mul_assoc,<- k,Int.mul_assoc]
  simp_all [Tx]
 calc Z5 this c
def zT(B:Zc g qf){A C D:yau}{u v z:Tr}(hz:A++u::(C++v::D)=(A++u::(C++v::D)).dropLast++[z])(VI:W9 (A++u::(C++v::D)))(pos:∀x∈A++u::(C++v::D),0<x.1)
  (i:Rl g u*Rl g v<0) (hh:∀y∈aP g qf z (A++u::(C++v::D)),0<=Rl h y):0<=Rl h (SD g u v)*(SD g u v).1:=by
 let d:0<u.1:=pos u 52;let hv:0<v.1:=pos v 52;let a:∀x∈C,0<x.1:=λx hx=>pos x (by simp[hx])
 let k:∀x∈A,0<x.1:=λx hx=>pos x (by simp[hx])
 let j:∀x∈D,0<x.1:=λx hx=>pos x (by simp[hx])
 let e:aP g qf z (A++u::(C++v::D))=aP g qf z (A++[u])++(aP g qf u (C++[v])++aP g qf v D):=by rw[iW g qf A z u,iW g qf C u v]
 let⟨b,g,o,c⟩:=o7 B C u v (λx hx=>by
  obtain rfl|hx:=S8.mp hx;calc d;calc a x hx) hv i
 let n:0<b.1:=uw B (C++[v]) u (λx hx=>by
  simp at hx;obtain rfl|hx|rfl:=hx;calc d;calc a x hx;calc hv) b g
 let l:Tt u v b<=0:=by
  have:=c (Ss v u) λx hx=>by
   show 0<=Tt v u x;simp at hx;obtain rfl|hx|rfl:=hx;rw[rj];calc WS _;let t:=VI u x v (by
    let a:List.Sublist [u,x,v] (u::(C++v::D)):=by calc List.Sublist.cons_cons u ?_;have:[x,v]=[x]++[v]:=rfl;exact(zB5.mpr hx).append (zB5.mpr 52)
    calc a.trans (zBs _ _))
   rw[eZ,eZ]at t;calc t;rw[rh];exact WS _
  let q:0<=Tt v u b:=this;rw[tE]
  lia
 let p:∀x∈v::D++(A++[u]),0<=Tt u v x:=λx hx=>by
  simp at hx;obtain rfl|hx|hx|rfl:=hx;rw[rj];calc WS _;exact VI u v x (by
   let a:List.Sublist [u,v,x] (u::(C++v::D)):=by calc List.Sublist.cons_cons u ?_;exact(List.Sublist.cons_cons v (zB5.mpr hx)).trans (zBs _ _)
   calc a.trans (zBs _ _))
  let t:=VI x u v (by have:[x,u,v]=[x]++[u,v]:=rfl;calc(zB5.mpr hx).append (List.Sublist.cons_cons u ?_);calc(zB5.mpr 52).trans (zBs _ _))
  rw[eZ]at t;calc t;rw[rh];exact WS _
 let⟨a,c,f,r⟩:=o7 B (D++A) v u (λx hx=>by
  simp at hx;obtain rfl|hx|hx:=hx;calc hv;calc j x hx;calc k x hx) d (by rw[VF];calc i)
 let m:0<a.1:=uw B (D++A++[u]) v (λx hx=>by
  simp only[S8,S7,zCG,or_false]at hx;obtain rfl|(hx|hx)|rfl:=hx;calc hv;calc j x hx;calc k x hx;calc d) a c
 let i:0<=Tt u v a:=r (Ss u v) λx hx=>p x (by
  simp only[S8,S7,zCG,or_false,YW]at hx ⊢;obtain hx|(hx|hx)|hx:=hx;calc .inl hx;calc .inr (.inl hx);calc .inr (.inr (.inl hx));calc .inr (.inr (.inr hx)))
 let j:0<=Rl h b:=hh b (by rw[e];calc VA _ (Xe _ g));let g:0<=Rl h a:=by
  apply hh a;rw[e];have:∃b,v::D=b++[z]:=by
   let a:v::D ≠ []:=52
   calc⟨(v::D).dropLast,?_⟩;let e:(A++u::(C++v::D)).getLast?=some z:=by rw[hz];simp
   let f:(A++u::(C++v::D)).getLast?=(v::D).getLast?:=by
    have:A++u::(C++v::D)=(A++u::C)++(v::D):=52
    rw[this,List.getLast?_append,zCC a];rfl
   rw[f,zCC a]at e;let d:=(zBw a).symm;rw[Yj e]at d;exact d
  let⟨b,a⟩:=this;obtain _|⟨w,b⟩:=b;cases a;calc Xe _ c;rw[YW]at a;cases a;let e:b++[z]++A++[u]=b++z::(A++[u]):=52
  rw[e,iW]at c;obtain q|q:=S7.mp c;calc VA _ (VA _ q);exact Xe _ q
 calc M8 o f l i n m j g
def HF{l:yau}{a b:Tr}(e:a∈l)(d:b∈l)(c:a≠b):(∃A C D,l=A++a::(C++b::D))∨∃ A C D,l=A++b::(C++a::D):=by
 let⟨A,R,rfl⟩:=zCm e;obtain q|q:=S7.mp d;let⟨b,a,rfl⟩:=zCm q;calc .inr ⟨b,a,R,52⟩;obtain q|q:=S8.mp q;calc absurd q.symm c;let⟨b,a,rfl⟩:=zCm q;calc .inl ⟨A,b,a,rfl⟩
theorem tN(g h:Tr):∀l:yau,(∃n∈l,Rl g n<0/\Rl h n<0)->∃n∈l,Rl g n<0/\Rl h n<0/\∀m∈l,Rl g m<0->Rl g n*Rl h m<=Rl h n*Rl g m
 |[],⟨_,hn,_⟩=>by cases hn
 |x::r,i=>by
  by_cases l:∃n∈r,Rl g n<0/\Rl h n<0;let⟨n,hn,f,d,b⟩:=tN g h r l;by_cases c:Rl g x<0/\¬(Rl g n*Rl h x<=Rl h n*Rl g x);let⟨a,o⟩:=c;let c:Rl h x<0:=by
   have:0<Rl h n*Rl g x:=zBR d a;exact VO.mp λz=>by
    have:=zA8 (Tc f) z
    lia
  calc⟨x,52,a,c,λm c j=>?_⟩;obtain rfl|c:=S8.mp c
  lia
  let k:=b m c j;let a:0<=(-Rl g x)*(Rl h n*Rl g m - Rl g n*Rl h m):=Tx 35 35;let b:0<=(-Rl g m)*(Rl g n*Rl h x - Rl h n*Rl g x):=Tx 35 35;let e:(-Rl g x)*(Rl h n*Rl g m - Rl g n*Rl h m)+(-Rl g m)*(Rl g n*Rl h x - Rl h n*Rl g x)=(-Rl g n)*(Rl h x*Rl g m - Rl g x*Rl h m):=72
  have:0<=(-Rl g n)*(Rl h x*Rl g m - Rl g x*Rl h m):=35
  have:=Z5 this 35
  lia
  grind;let⟨n,hn,f,d⟩:=i;obtain rfl|hn:=S8.mp hn;calc⟨n,52,f,d,λm c j=>?_⟩;obtain rfl|c:=S8.mp c
  lia
  have:0<=Rl h m:=46
  let a:=zA8 (Tc f) this;let b:=zBR d j
  lia
  calc absurd ⟨n,hn,f,d⟩ l
def Ki(B:Zc g qf){l:yau}{z:Tr}(hz:l=l.dropLast++[z])(VI:W9 l)(pos:∀x∈l,0<x.1)(m:YO l X)(t:0<=Rl g X):YO (aP g qf z l) X:=λh hh=>by
 let kp:∀p∈l,0<=Rl g p->0<=Rl h p:=λp b q=>hh p (qX l z b q)
 by_cases j:∃n∈l,Rl g n<0/\Rl h n<0;let⟨n,d,c,o,e⟩:=tN g h l j
 let' k:Tr:=(Rl h n*g.1 - Rl g n*h.1,Rl h n*g.2.1 - Rl g n*h.2.1,Rl h n*g.2.2 - Rl g n*h.2.2)
 let a:∀p:Tr,Rl k p=Rl h n*Rl g p - Rl g n*Rl h p:=λp=>by show Rl (Rl h n*g.1 - Rl g n*h.1,Rl h n*g.2.1 - Rl g n*h.2.1,Rl h n*g.2.2 - Rl g n*h.2.2) p=_;ext Rl;grind
 let s:∀p∈l,0<=Rl k p:=λp b=>by
  rw[a];obtain q|q|q:=zCJ (Rl g p) 0;have:=e p b q
  lia
  rw[q,XI];have:=zA8 (Tc c) (kp p b 35)
  lia
  let l:p≠n:=λe=>by rw[e]at q;lia
  let i:=pos n d;let f:=pos p b;rcases HF b d l with⟨A,C,D,rfl⟩| ⟨A,C,D,rfl⟩;let r:=zT B hz VI pos (XF q c) hh;rw[HX]at r;let d:(SD g p n).1<0:=by
   show Rl g n*p.1 - Rl g p*n.1<0;have:=XS c f;have:=Wi q i
   lia
  let e:Rl g n*Rl h p - Rl g p*Rl h n<=0:=XM.mp λz=>by
   have:=XF z d
   lia
  rw[VF (Rl h n)]
  lia
  let r:=zT B hz VI pos (XS c q) hh;rw[HX]at r;let d:0<(SD g n p).1:=by
   show 0<Rl g p*n.1 - Rl g n*p.1;have:=XS c f;have:=Wi q i
   lia
  let e:0<=Rl g p*Rl h n - Rl g n*Rl h p:=XM.mp λz=>by
   have:=XS z d
   lia
  rw[VF (Rl h n)];exact e
 let d:=m k s;rw[a]at d;let a:=zA8 (Tc o) t;exact XM.mp λz=>by
  have:=zBR c z
  lia
 refine m h λp b=>?_
 by_cases q:0<=Rl g p;calc kp p b q;calc XM.mp λz=>j ⟨p,b,35,z⟩
def WG(R:Tr->Tr->Prop):yau->Prop
 |[]=>True
 |[_]=>True
 |a::b::r=>R a b/\WG R (b::r)
def WG.tail{a:Tr}:∀{l:yau},WG R (a::l)->WG R l
 |[],_=>True.intro
 |_::_,h=>h.2
theorem j8:∀(l:yau) (x:Tr) (k:yau),WG R (l++x::k)↔WG R (l++[x])/\WG R (x::k)
 |[],x,k=>by simp[WG]
 |[a],x,k=>by simp[WG]
 |a::b::l,x,k=>by have:=j8 (R:=R) (b::l) x k;simp only[YW,WG]at this ⊢;rw[this,and_assoc]
def Sh(G:Tr->Prop)(a b:Tr):Prop:=∃e,G e/\Rl e a=0/\Rl e b=0
theorem o6(B:Zc g qf){G:Tr->Prop}(f:G g):∀(l:yau) (p x:Tr),(∀y∈p::l,0<y.1)->((x=p/\0<=Rl g p)∨(Rl g x=0/\Rl g p<0))->WG (Sh G) (p::l)->WG (Sh G) (x::aP g qf p l)
 |[],_,_,_,_,_=>True.intro
 |c::r,p,x,b,a,h=>by
  let l:∀y∈c::r,0<y.1:=λy n=>b y 72
  let⟨⟨e,i,j,k⟩,d⟩:=h;let ih:=λx a=>o6 B f r c x l a d
  ext aP;by_cases h:Rl g p*Rl g c<0;rw[Rr h];let⟨⟨m,s,t,C⟩,l⟩:=B p c (b p 52) (b c 52) h;let b:Rl e (qf p c)=0:=C.zero j k;by_cases d:0<=Rl g c;rw[Rr d];calc⟨?_,⟨e,i,b,k⟩,ih c 46⟩;rcases a with⟨rfl,_⟩| ⟨a,_⟩;calc⟨e,i,j,b⟩;calc⟨g,f,a,l⟩;rw[if_neg d];calc⟨?_,ih _ 35⟩;rcases a with⟨rfl,_⟩| ⟨a,_⟩;calc⟨e,i,j,b⟩;exact⟨g,f,a,l⟩
  ·rw[if_neg h];by_cases d:0<=Rl g c
   ·rw[Rr d];calc⟨?_,ih c 46⟩;rcases a with⟨rfl,_⟩| ⟨a,b⟩;exact⟨e,i,j,k⟩
    ·have:Rl g c=0:=by
      obtain q|q:=Int.lt_or_eq_of_le d
      all_goals simp_all [XS]
     exact⟨g,f,a,this⟩
   ·rw[if_neg d];calc ih x ?_;rcases a with⟨rfl,b⟩| ⟨a,_⟩
    ·obtain q|q:=Int.lt_or_eq_of_le b
     all_goals simp_all [XF]
    lia
theorem yF(B:Zc g qf){G:Tr->Prop}(b:G g):∀(l:yau) (p:Tr),(∀y∈p::l,0<y.1)->WG (Sh G) (p::l)->WG (Sh G) (aP g qf p l)
 |[],_,_,_=>True.intro
 |c::r,p,a,h=>by
  by_cases j:0<=Rl g p;calc(o6 B b (c::r) p p a (.inl ⟨rfl,j⟩) h).tail;let i:∀y∈c::r,0<y.1:=λy d=>a y (U1 _ d)
  let⟨⟨e,l,n,k⟩,f⟩:=h;ext aP;by_cases d:Rl g p*Rl g c<0;rw[Rr d];let⟨⟨m,s,t,C⟩,o⟩:=B p c (a p 52) (a c 52) d;let h:Rl e (qf p c)=0:=C.zero n k;by_cases a:0<=Rl g c;rw[Rr a];calc⟨⟨e,l,h,k⟩,o6 B b r c c i (.inl ⟨rfl,a⟩) f⟩;calc absurd (zBR (VO.mp j) (VO.mp a)) 35;rw[if_neg d];by_cases a:0<=Rl g c;rw[Rr a];calc o6 B b r c c i (.inl ⟨rfl,a⟩) f;rw[if_neg a];calc yF B b r c i f
def Cyc(R:Tr->Tr->Prop)(l:yau):Prop:=∀k z,l=k++[z]->WG R (z::l)
def Kh(B:Zc g qf){G:Tr->Prop}(a:G g){l:yau}{z:Tr}(hz:l=l.dropLast++[z])(pos:∀y∈l,0<y.1)(h:Cyc (Sh G) l):Cyc (Sh G) (aP g qf z l):=λk y c=>by
 let e:=h _ z hz;let b:WG (Sh G) (z::(l++l)):=by grind [List.cons_append,j8]
 let d:=yF B a (l++l) z 72 b;grind [iW,j8]
noncomputable def V9:yau->yau->yau
 |_,[]=>[]
 |seen,x::r=>if x∈seen then V9 seen r else x::V9 (seen++[x]) r
theorem wJ:∀(l seen:yau),(V9 seen l).Sublist l
 |[],_=>List.Sublist.slnil
 |x::r,seen=>by
  ext V9;split
  all_goals simp_all [wJ]
theorem wI:∀(l seen:yau) {x:Tr},x∈l->x∈seen∨x∈V9 seen l
 |[],_,_,h=>by cases h
 |y::r,seen,x,h=>by
  ext V9;obtain rfl|h:=S8.mp h;grind
  ·split
   simp_all [wI]
   ·obtain q|q:=wI r (seen++[y]) h
    all_goals grind
theorem xW:∀(l seen:yau),l.Nodup->(∀x∈l,x∉seen)->V9 seen l=l
 |[],_,_,_=>rfl
 |x::r,seen,h,c=>by
  let⟨a,b⟩:=zB9.mp h;ext V9;rw[if_neg (c x 52),xW r (seen++[x]) b λy b q=>by
   obtain q|q:=S7.mp q;calc c y (U1 _ b) q;calc a (by rw[<- Vp.mp q];calc b)]
theorem pZ:∀(l seen:yau) (v:Tr) (k:yau),v∈seen∨v∈l->V9 seen (l++v::k)=V9 seen (l++k)
 |[],seen,v,k,h=>by
  conv=>lhs;unfold V9
  grind
 |x::r,seen,v,k,h=>by rw[YW,YW];ext V9;split;calc pZ r seen v k ?_;grind;congr 1;calc pZ r _ v k ?_;grind
theorem sQ:∀l:yau,¬l.Nodup->∃A v C,l=A++v::C/\v∈A
 |[],h=>absurd List.nodup_nil h
 |x::r,h=>by
  by_cases a:x∈r;let⟨A,C,rfl⟩:=zCm a;calc⟨x::A,x,C,rfl,52⟩;let⟨A,v,C,e,hv⟩:=sQ r λq=>h (zB9.mpr ⟨a,q⟩)
  calc⟨x::A,v,C,by rw[e];rfl,U1 _ hv⟩
def Me(j:Rl e a=0)(i:Rl e v=0)(h:Tt v a b=0)(c:Ss v a≠(0,0,0)):Rl e b=0:=by
 let g:Rl e b*(Ss v a).1=0:=by unfold Tt Rl Ss at *;grind
 let f:Rl e b*(Ss v a).2.1=0:=by unfold Tt Rl Ss at *;grind
 let d:Rl e b*(Ss v a).2.2=0:=by unfold Tt Rl Ss at *;grind
 refine Decidable.byContradiction λz=>c ?_
 let m:=(VN.mp g).resolve_left z;let l:=(VN.mp f).resolve_left z;let k:=(VN.mp d).resolve_left z;grind
structure Pr(p:Tr):Prop where
 pos:0<p.1
 low:PM.g3 p.1 p.2.1 p.2.2=1
def zQ(hv:Pr v)(b:Pr a)(h:Ss v a=(0,0,0)):v=a:=by
 unfold Ss at h;simp at h;let⟨n,m,l⟩:=h;let e:v.2.1*a.1=a.2.1*v.1:=35
 let c:v.2.2*a.1=a.2.2*v.1:=35
 let g:v.1∣a.1:=jP (d:=v.1) (k:=a.1) (x:=v.1) (y:=v.2.1) (z:=v.2.2) 46 (by simp_all [VF]) (by simp_all [VF]) hv.low;let f:a.1∣v.1:=jP (d:=a.1) (k:=v.1) (x:=a.1) (y:=a.2.1) (z:=a.2.2) 46 (by rw[VF,<- e];calc Int.dvd_mul_left _ _) (by rw[VF,<- c];calc Int.dvd_mul_left _ _) b.low;let c:=b.pos;let pv:=hv.pos;let e:v.1=a.1:=by
  let j:=Int.le_of_dvd c g;let i:=Int.le_of_dvd pv f
  lia
 grind [Int.eq_of_mul_eq_mul_right]
theorem FX:∀(n:Nat) (l:yau),#[l]<=n->W9 l->(∀p∈l,Pr p)->Cyc (Sh G) l->Cyc (Sh G) (V9 [] l)
 |n,l,i,VI,u,o=>by
  by_cases E:l.Nodup;rw[xW l [] E 52];calc o;let⟨A,v,C,rfl,hv⟩:=sQ l E;rw[pZ A [] v C (.inr hv)];cases n with
  |zero=>simp at i
  |succ n =>
  let sub:(A++C).Sublist (A++v::C):=(List.Sublist.refl A).append (List.sublist_cons_self v C);calc FX n (A++C) (by simp at i ⊢;lia) (VI.sub sub) (λp a=>u p (sub.subset a)) ?_;let⟨h,s,rfl⟩:=zCm hv;obtain⟨K,a,d⟩:∃K a,h++v::s=K++[a]:=⟨_,_,(zBw (52:h++v::s ≠ [])).symm⟩;let L:a=v∨∃ f,s=f++[a]:=by
   obtain rfl|⟨f,w,rfl⟩:=List.eq_nil_or_concat s
   left
   have:=congrArg List.getLast? d;simp at this;exact this.symm
   right
   let e:h++v::f.concat w=(h++v::f)++[w]:=52
   rw[e]at d;have:=(List.append_inj' d rfl).2;cases this;exact⟨f,52⟩
  let pv:Pr v:=u v 52;let O:Pr a:=u a (by rw[d];simp)
  let g:∀b,Sh G a v->Sh G v b->(a≠v->Tt v a b=0)->Sh G a b:=λb N M Q=>by by_cases q:a=v;rw[q];calc M;let⟨e,Y,H,ev⟩:=N;exact⟨e,Y,H,Me H ev (Q q) λz=>q (zQ pv O z).symm⟩
  rw[d];rw[d]at o VI;obtain _|⟨b,C⟩:=C;let c:=o (K++[a]) v 52;intro k z m;rw[Yx]at m ⊢;let ez:a=z:=by have:=congrArg List.getLast? m;simp at this;exact this
  subst ez;let j:WG (Sh G) ((v::K)++a::[v]):=by simpa using c
  rw[j8]at j;let⟨y,x,_⟩:=j;rcases hA:K++[a]with _|⟨b,R⟩;simp at hA;let r:WG (Sh G) (v::b::R):=by rw[<- hA];exact y
  calc⟨g b x r.1 λw=>?_,r.2⟩;let⟨f,rfl⟩:=L.resolve_left w;obtain _|⟨b',h⟩:=h;rw[<- d]at hA;cases hA;rw[rh];rw[<- d]at hA;cases hA;let B:=VI b v a (by rw[<- d];calc List.Sublist.trans ?_ (List.sublist_append_left _ _);calc List.Sublist.cons_cons b ?_;calc List.Sublist.trans ?_ (zBs _ _);calc List.Sublist.cons_cons v ?_;calc zBs _ _)
  let t:=VI b a v (by rw[<- d];calc List.Sublist.cons_cons b ?_;have:[a,v]=[a]++[v]:=rfl;rw[this];calc List.Sublist.append ?_ (List.Sublist.refl _);calc zB5.mpr 52)
  rw[eZ]at B;rw[eZ,tE]at t
  lia
  intro k z m;let c:=o (((K++[a])++v::b::C).dropLast) z (by
   let J:(K++[a]++v::b::C).getLast?=some z:=by
    let U:(K++[a]++b::C).getLast?=some z:=by rw[m];simp
    let T:(K++[a]++b::C).getLast?=(b::C).getLast?:=by rw[List.getLast?_append,zCC (52:b::C ≠ [])];rfl
    let I:(K++[a]++v::b::C)=(K++[a]++[v])++b::C:=52
    rw[I,List.getLast?_append,<- T,U];rfl
   let i:K++[a]++v::b::C ≠ []:=52
   rw[zCC i]at J;let I:=(zBw i).symm;rw[Yj J]at I;calc I)
  let j:WG (Sh G) ((z::K)++a::(v::b::C)):=by simpa using c
  rw[j8]at j;let⟨y,x,r,I⟩:=j;have:z::(K++[a]++b::C)=(z::K)++a::(b::C):=52
  rw[this,j8];calc⟨y,g b x r λw=>?_,I⟩;let⟨f,rfl⟩:=L.resolve_left w;let B:=VI v a b (by
   rw[<- d];have:h++v::(f++[a])++v::b::C=(h++(v::f))++(a::(v::(b::C))):=52
   rw[this];have:[v,a,b]=[v]++[a,b]:=rfl;calc List.Sublist.append (zB5.mpr 52) (List.Sublist.cons_cons a ?_);calc List.Sublist.cons _ (List.Sublist.cons_cons b (List.nil_sublist _)))
  let t:=VI a v b (by
   have:K++[a]++v::b::C=K++(a::v::b::C):=52
   rw[this];calc List.Sublist.trans ?_ (zBs _ _);calc List.Sublist.cons_cons a (List.Sublist.cons_cons v (List.Sublist.cons_cons b (List.nil_sublist _))))
  rw[tE]at t
  lia
def YQ(w:Tr):Tr:=(w.1.fdiv (PM.Tz w.1 w.2.1 w.2.2 w.1),w.2.1.fdiv (PM.Tz w.1 w.2.1 w.2.2 w.1),w.2.2.fdiv (PM.Tz w.1 w.2.1 w.2.2 w.1))
def c8(g p c:Tr):Tr:=YQ (SD g p c)
def He{w:Tr}(h:w.1≠0):Pr (YQ w):=⟨PM.xb h (PM.nM _ _ _) λz=>h z.1,PM.Hn λz=>h z.1⟩
def Pd{w:Tr}(e:Pr q)(c:w.1*q.2.1=q.1*w.2.1)(b:w.1*q.2.2=q.1*w.2.2):∃m,w.1=m*q.1/\w.2.1=m*q.2.1/\w.2.2=m*q.2.2:=by obtain⟨m,a⟩:q.1∣w.1:=jP (d:=q.1) (k:=w.1) (x:=q.1) (y:=q.2.1) (z:=q.2.2) (Int.dvd_mul_left _ _) (by rw[c];calc Int.dvd_mul_right _ _) (by rw[b];calc Int.dvd_mul_right _ _) e.low;let p:=e.pos;calc⟨m,by rw[a,VF],?_,?_⟩;rw[a,Int.mul_assoc]at c;calc(zDb 35 c).symm;rw[a,Int.mul_assoc]at b;calc(zDb 35 b).symm
def By{p c:Tr}(e:0<p.1)(f:0<c.1)(d:Rl g p*Rl g c<0):(Rl g p<0/\0<Rl g c/\0<(SD g p c).1)∨(0<Rl g p/\Rl g c<0/\(SD g p c).1<0):=by
 rcases Int.lt_or_gt_of_ne (show Rl g p≠0 from 35)with a|a
 left
 let b:0<Rl g c:=VO.mp λb=>VO.mpr d (zBb (Tc a) b)
 calc⟨a,b,?_⟩;show 0<Rl g c*p.1 - Rl g p*c.1;have:=Wi b e;have:=XS a f
 lia
 right
 let b:Rl g c<0:=VO.mp λb=>VO.mpr d (Tx (Tc a) b)
 calc⟨a,b,?_⟩;show Rl g c*p.1 - Rl g p*c.1<0;have:=XS b e;have:=Wi a f
 lia
def FE(g:Tr):Zc g (c8 g):=λp c b d a=>by
 let k:=By b d a;let h:=PM.cK (l:=(SD g p c).1) (PM.nM (SD g p c).1 (SD g p c).2.1 (SD g p c).2.2);let f:=PM.cK (l:=(SD g p c).1) (PM.nN (SD g p c).1 (SD g p c).2.1 (SD g p c).2.2);let e:=PM.cK (l:=(SD g p c).1) (PM.nP (SD g p c).1 (SD g p c).2.1 (SD g p c).2.2);let a:(SD g p c).1≠0:=by rcases k with⟨_,_,q⟩| ⟨_,_,q⟩<;>lia
 let i:PM.g3 (SD g p c).1 (SD g p c).2.1 (SD g p c).2.2≠0:=λz=>a (PM.wR.mp z).1
 let C:∃m s t,Cmb (c8 g p c) p c m s t/\s*Rl g p+t*Rl g c=0:=by
  rcases k with⟨a,b,q⟩| ⟨a,b,q⟩;let d:PM.Tz (SD g p c).1 (SD g p c).2.1 (SD g p c).2.2 (SD g p c).1=(PM.g3 (SD g p c).1 (SD g p c).2.1 (SD g p c).2.2:Int):=by ext PM.Tz;rw[if_neg 35]
  calc⟨PM.g3 (SD g p c).1 (SD g p c).2.1 (SD g p c).2.2,Rl g c,-Rl g p,⟨35,b,35,?_,?_,?_⟩,by rw[U7,VF];lia⟩;show _*((SD g p c).1.fdiv _)=_;rw[<- d,VF,h,U7];rfl;show _*((SD g p c).2.1.fdiv _)=_;rw[<- d,VF,f,U7];rfl;show _*((SD g p c).2.2.fdiv _)=_;rw[<- d,VF,e,U7];rfl;let d:-PM.Tz (SD g p c).1 (SD g p c).2.1 (SD g p c).2.2 (SD g p c).1=(PM.g3 (SD g p c).1 (SD g p c).2.1 (SD g p c).2.2:Int):=by ext PM.Tz;rw[Rr 35,Int.neg_neg]
  calc⟨PM.g3 (SD g p c).1 (SD g p c).2.1 (SD g p c).2.2,-Rl g c,Rl g p,⟨35,35,a,?_,?_,?_⟩,by rw[U7,VF];lia⟩;show _*((SD g p c).1.fdiv _)=_;rw[<- d,U7,VF,h,U7];show -(Rl g c*p.1 - Rl g p*c.1)=_
  lia
  show _*((SD g p c).2.1.fdiv _)=_;rw[<- d,U7,VF,f,U7];show -(Rl g c*p.2.1 - Rl g p*c.2.1)=_
  lia
  show _*((SD g p c).2.2.fdiv _)=_;rw[<- d,U7,VF,e,U7];show -(Rl g c*p.2.2 - Rl g p*c.2.2)=_
  lia
 let⟨m,s,t,C,z⟩:=C;calc⟨⟨m,s,t,C⟩,?_⟩;have:=C.gv g;rw[z]at this;calc(VN.mp this).resolve_left (by have:=C.m0;lia)
def NA{p c:Tr}(b:0<p.1)(d:0<c.1)(a:Rl g p*Rl g c<0):Pr (c8 g p c):=He (by rcases By b d a with⟨_,_,q⟩| ⟨_,_,q⟩<;>omega)
def NH{e:Tr}(a:e≠(0,0,0))(d:Rl e p=0)(gp:Rl g p≠0):Ss e g≠(0,0,0):=λz=>a (by
 unfold Ss at z;let c:e.1*Rl g p=0:=by unfold Rl at *;grind
 let b:e.2.1*Rl g p=0:=by unfold Rl at *;grind
 let a:e.2.2*Rl g p=0:=by unfold Rl at *;grind
 let i:=(VN.mp c).resolve_right gp;let h:=(VN.mp b).resolve_right gp;let f:=(VN.mp a).resolve_right gp
 lia)
def G5(a:Pr q)(i:Rl e q=0)(h:Rl g q=0)(b:Ss e g≠(0,0,0)):∃m,m≠0/\(Ss e g).1=m*q.1/\(Ss e g).2.1=m*q.2.1/\(Ss e g).2.2=m*q.2.2:=by let⟨m,f,d,c⟩:=Pd (w:=Ss e g) a (by unfold Rl at *;ext Ss;grind) (by unfold Rl at *;ext Ss;grind);grind
def G6(o:Pr q)(G:Rl e q=0)(E:Rl g q=0)(y:Ss e g≠(0,0,0)):q=YQ (Ss e g):=by
 let⟨m,s,t,C,B⟩:=G5 o G E y;let r:(Ss e g).1≠0:=by rw[t];exact Int.mul_ne_zero s (by have:=o.pos;lia)
 let A:=He r;let x:=PM.cK (l:=(Ss e g).1) (PM.nM (Ss e g).1 (Ss e g).2.1 (Ss e g).2.2);let w:=PM.cK (l:=(Ss e g).1) (PM.nN (Ss e g).1 (Ss e g).2.1 (Ss e g).2.2);let u:=PM.cK (l:=(Ss e g).1) (PM.nP (Ss e g).1 (Ss e g).2.1 (Ss e g).2.2);let H:PM.Tz (Ss e g).1 (Ss e g).2.1 (Ss e g).2.2 (Ss e g).1≠0:=PM.uO λz=>r z.1
 apply zQ o A;let i:(YQ (Ss e g)).1*PM.Tz (Ss e g).1 (Ss e g).2.1 (Ss e g).2.2 (Ss e g).1=m*q.1:=by rw[<- t];exact x
 let f:(YQ (Ss e g)).2.1*PM.Tz (Ss e g).1 (Ss e g).2.1 (Ss e g).2.2 (Ss e g).1=m*q.2.1:=by rw[<- C];exact w
 let c:(YQ (Ss e g)).2.2*PM.Tz (Ss e g).1 (Ss e g).2.1 (Ss e g).2.2 (Ss e g).1=m*q.2.2:=by rw[<- B];exact u
 generalize PM.Tz (Ss e g).1 (Ss e g).2.1 (Ss e g).2.2 (Ss e g).1=d at *;generalize YQ (Ss e g)=p at *;ext Ss;let k:∀a b n j:Int,a*d=m*n->b*d=m*j->n*b - j*a=0:=λa b n j h I=>by
  have:m*d*(n*b - j*a)=0:=72
  exact(VN.mp this).resolve_left (Int.mul_ne_zero s H)
 rw[k _ _ _ _ f c,k _ _ _ _ c i,k _ _ _ _ i f]
def eY(g:Tr)(l:yau):yau:=match l.getLast? with
 |none=>[]
 |some z=>V9 [] (aP g (c8 g) z l)
structure X8(n:Nat)(e:Tr):Prop where
 ne:e≠(0,0,0)
 c:Bd (2*n+2) e.1
 a:Bd (n+1) e.2.1
 b:Bd (n+1) e.2.2
structure CB(n:Nat)(p:Tr):Prop where
 b:Bd (2*n+3) p.1
 x:Bd (3*n+4) p.2.1
 y:Bd (3*n+4) p.2.2
structure Cor(n:Nat)(Gs Z l:yau):Prop where
 VI:W9 l
 pr:∀p∈l,Pr p
 cb:∀p∈l,CB n p
 cyc:Cyc (Sh (·∈Gs)) l
 mem:∀p∈l,p∈Z
 len:#[l]<=#[Z]
def PW{k:Nat}(i:Bd n a)(h:Bd m b)(g:Bd m c)(f:Bd n d)(e:n+m+1=k):Bd k (a*b - c*d):=by subst e;let b:=i.mul h;let a:=g.mul f;rw[zC6 m n]at a;calc b.sub a
def mF{m q w:Int}(a:m≠0)(e:w=m*q)(h:Bd n w):Bd n q:=by
 unfold Bd at *;rw[e,zCU]at h;have:q.natAbs<=m.natAbs*q.natAbs:=Nat.le_mul_of_pos_left _ 35
 lia
theorem wj:∀(l:yau) (p:Tr) {y:Tr},y∈aP g (c8 g) p l->y∈l∨∃ a b,a∈p::l/\b∈l/\List.Sublist [a,b] (p::l)/\Rl g a*Rl g b<0/\y=c8 g a b/\∀R:Tr->Tr->Prop,WG R (p::l)->R a b
 |[],_,_,h=>by cases h
 |c::r,p,y,h=>by
  obtain q|q:=S7.mp h;split at q;rename_i d;calc .inr ⟨p,c,52,52,List.Sublist.cons_cons p (List.Sublist.cons_cons c (List.nil_sublist _)),d,Vp.mp q,λR d=>d.1⟩;cases q;obtain q|q:=S7.mp q;split at q;rw[Vp.mp q];calc .inl 52;cases q;obtain q|⟨a,b,i,h,g,f,e,c⟩:=wj r c q;calc .inl (U1 _ q);calc .inr ⟨a,b,U1 _ i,U1 _ h,g.cons p,f,e,λR d=>c R d.2⟩
theorem z9:∀(l seen:yau),(V9 seen l).Nodup/\∀x∈V9 seen l,x∉seen
 |[],_=>⟨List.nodup_nil,λ_ h=>(by cases h)⟩
 |x::r,seen=>by
  ext V9;split;calc z9 r seen;rename_i q;let⟨a,b⟩:=z9 r (seen++[x]);calc⟨zB9.mpr ⟨λh=>b x h 52,a⟩,λy hy=>?_⟩;obtain rfl|hy:=S8.mp hy;calc q;calc λz=>b y hy (Xe _ z)
def AB{l:yau}{z:Tr}(h:l.getLast?=some z):l=l.dropLast++[z]:=by
 let a:l ≠ []:=λe=>by rw[e]at h;cases h
 rw[zCC a]at h;have:=(zBw a).symm;rw[Yj h]at this;calc this
theorem tP:∀{l Z:yau},l.Nodup->(∀x∈l,x∈Z)->#[l]<=#[Z]
 |[],_,_,_=>Uw _
 |x::r,Z,h,c=>by
  let⟨a,b⟩:=zB9.mp h;let⟨A,C,rfl⟩:=zCm (c x 52);have:=tP (l:=r) (Z:=A++C) b λy b=>by
   have:=c y (U1 _ b);simp only[S7,S8]at this ⊢;obtain q|q|q:=this;calc .inl q;rw[q]at b;calc absurd b a;exact .inr q
  simp at this ⊢
  lia
def IC{i Z:yau}{g:Tr}(w:∀e∈i,X8 n e)(J:g∈i)(Y:∀e∈i,YQ (Ss e g)∈Z)(C:Cor n i Z l):Cor n i Z (eY g l):=by
 ext eY;cases hl:l.getLast? with
 |none=>calc⟨λ_ _ _ s=>(by cases s),λ_ h=>(by cases h),λ_ h=>(by cases h),λk z e=>(by simp at e),λ_ h=>(by cases h),Uw _⟩
 |some z =>
  let o:=AB hl;let d:∀x∈l,0<x.1:=λx hx=>(C.pr x hx).pos
  let O:z∈l:=by rw[o];simp
  let h:∀x∈z::l,0<x.1:=λx hx=>by
   obtain rfl|hx:=S8.mp hx;calc d x O;exact d x hx
  let B:=FE g;let j:W9 (z::l):=by have:=HK (l:=l.dropLast) (a:=z) (by rw[<- o];calc C.VI);rw[<- o]at this;exact this
  let f:W9 (aP g (c8 g) z l):=lM.t (Bw B l z h j.p).2;let cy:=Kh B (G:=(·∈i)) J o d C.cyc;let c:∀y∈aP g (c8 g) z l,Pr y/\CB n y/\y∈Z:=λy Q=>by
   obtain q|⟨a,b,U,T,_,p,rfl,hR⟩:=wj l z Q;calc⟨C.pr y q,C.cb y q,C.mem y q⟩;let G:=h a U;let A:=d b T;let r:=NA G A p;let⟨e,u,N,eb⟩:=hR _ (C.cyc _ z o);let⟨⟨m,s,t,K⟩,L⟩:=B a b G A p;let M:=K.zero N eb;let I:=NH (w e u).ne N (show Rl g a≠0 from λz=>by rw[z,YZ]at p;calc zCu _ p);calc⟨r,?_,?_⟩;let⟨m,t,h1,h2,h3⟩:=G5 r M L I;let E:=w e u;let H:=w g J;calc⟨mF t h1 (PW (k:=2*n+3) E.a H.b E.b H.a 35),mF t h2 (Bd.mono ((E.b.mul H.c).sub (zC6 _ _ ▸ E.c.mul H.b)) 35),mF t h3 (Bd.mono ((E.c.mul H.a).sub (zC6 _ _ ▸ E.a.mul H.c)) 35)⟩;rw[G6 r M L I];exact Y e u
  let sub:=wJ (aP g (c8 g) z l) [];calc⟨f.sub sub,λp b=>(c p (sub.subset b)).1,λp b=>(c p (sub.subset b)).2.1,FX _ _ (Sx _) f (λp b=>(c p b).1) cy,λp b=>(c p (sub.subset b)).2.2,tP (z9 _ _).1 λp b=>(c p (sub.subset b)).2.2⟩
def nC(VI:W9 l)(a:∀p∈l,Pr p):(∀X,YO l X->0<=Rl g X->YO (eY g l) X)/\(∀y∈eY g l,0<=Rl g y)/\∀d,(∀p∈l,0<=Rl d p)->∀y∈eY g l,0<=Rl d y:=by
 ext eY;cases hl:l.getLast? with
 |none =>
  cbv
 |some z =>
  let e:=AB hl;let b:∀x∈l,0<x.1:=λx c=>(a x c).pos
  let a:∀x∈z::l,0<x.1:=72
  let B:=FE g;let sub:=wJ (aP g (c8 g) z l) [];calc⟨λX f g h hh=>Ki B e VI b f g h λp e=>?_,λy b=>yG B l z a y (sub.subset b),λd i y b=>uv B l z a (λx c=>?_) y (sub.subset b)⟩;calc hh p ((wI _ [] e).resolve_left 52);grind
def aV(gs l:yau):yau:=gs.foldl (λl g=>eY g l) l
def qh(h:YO l X)(a:0<X.1):l ≠ []:=λe=>by
 have:=h (-1,0,0) 46;unfold Rl at this
 lia
def sT(p:Sp):Tr:=(1,p.1,p.2)
def Od(a b c:Sp):Tt (sT a) (sT b) (sT c)=cr a b c:=by rw[cA];ext Tt sT Rl Ss;grind
def zh{A B:Int}{x y z:Sp}(b:0<A*y.1+B*y.2)(a:0<=A*x.1+B*x.2)(hz:0<=A*z.1+B*z.2)(d:0<=tn x y)(c:0<=tn y z):0<=tn x z:=by
 let e:(A*y.1+B*y.2)*tn x z=(A*z.1+B*z.2)*tn x y+(A*x.1+B*x.2)*tn y z:=by ext tn;grind
 let g:=Tx hz d;let f:=Tx a c;calc Z5 (a:=A*y.1+B*y.2) (by rw[e];omega) b
def sb(a b:Sp):Sp:=(a.1 - b.1,a.2 - b.2)
def gM(a b c:Sp):cr a b c=tn (sb b a) (sb c a):=by rw[cA];ext tn sb;grind
theorem fY(A B:Int)(a b:Sp):A*(sb a b).1+B*(sb a b).2=fA A B a - fA A B b:=by ext sb fA;grind
def Dm(L:Way A B ps n l){i j k:Nat}(d:i<j)(a:j<k)(b:k<n):0<=cr (l i) (l j) (l k):=by
 let c:=L.TC j 35 (l i) (L.mem i 35);let m:=L.TC j 35 (l k) (L.mem k b);let h:=L.rise i j d 35;let g:=L.rise j (j+1) 35 35;let f:=L.rise j k a b;have:=zh (A:=A) (B:=B) (x:=sb (l j) (l i)) (y:=sb (l (j+1)) (l j)) (z:=sb (l k) (l j)) (by rw[fY];lia) (by grind [fY]) (by grind [fY]) (by
  rw[cA]at c;ext tn sb
  lia) (by simp_all [gM])
 rw[gM];let e:tn (sb (l j) (l i)) (sb (l k) (l i))=tn (sb (l j) (l i)) (sb (l k) (l j)):=by ext tn sb;grind
 cbv
def Dp{m:Nat}(L:Way A B ps n l)(U:Way (-A) (-B) ps (m+2) u)(p:u (m+1)=l 0){i j k:Nat}(s:i<j)(b:j<n)(g:k<m+2):0<=cr (l i) (l j) (u k):=by
 let f:=U.mem k g;let o:=L.rise i j s b;by_cases h:fA A B (u k)<=fA A B (l i);let c:=L.TC i 35 (u k) f;let d:=L.TC i 35 (l j) (L.mem j b);let r:=L.rise i (i+1) 35 35;have:=zh (A:=A) (B:=B) (x:=sb (l i) (u k)) (y:=sb (l (i+1)) (l i)) (z:=sb (l j) (l i)) (by rw[fY];lia) (by rw[fY];lia) (by grind [fY]) (by
  rw[gM]at c;have:tn (sb (l i) (u k)) (sb (l (i+1)) (l i))=tn (sb (l (i+1)) (l i)) (sb (u k) (l i)):=by ext tn sb;grind
  cbv) (by simp_all [gM])
 rw[gM];let e:tn (sb (l j) (l i)) (sb (u k) (l i))=tn (sb (l i) (u k)) (sb (l j) (l i)):=by ext tn sb;grind
 cbv
 by_cases w:fA A B (l j)<=fA A B (u k);obtain⟨a,rfl⟩:∃a,j=a+1:=⟨j - 1,35⟩;let c:=L.TC a b (u k) f;let d:=L.TC a b (l i) (L.mem i 35);let r:=L.rise a (a+1) 35 b;have:=zh (A:=A) (B:=B) (x:=sb (l (a+1)) (l i)) (y:=sb (l (a+1)) (l a)) (z:=sb (u k) (l (a+1))) (by rw[fY];lia) (by grind [fY]) (by rw[fY];lia) (by
  rw[gM]at d;have:tn (sb (l (a+1)) (l i)) (sb (l (a+1)) (l a))=tn (sb (l (a+1)) (l a)) (sb (l i) (l a)):=by ext tn sb;grind
  cbv) (by
  rw[gM]at c;have:tn (sb (l (a+1)) (l a)) (sb (u k) (l (a+1)))=tn (sb (l (a+1)) (l a)) (sb (u k) (l a)):=by ext tn sb;grind
  cbv)
 rw[gM];let e:tn (sb (l (a+1)) (l i)) (sb (u k) (l i))=tn (sb (l (a+1)) (l i)) (sb (u k) (l (a+1))):=by ext tn sb;grind
 cbv
 let t:k<m+1:=by
  rcases zCo (Yw g)with q|q;calc q;exfalso;rw[q,p]at h;exact h (L.lo _ (L.mem i 35))
 let c:=U.TC k 35 (l i) (L.mem i 35);let d:=U.TC k 35 (l j) (L.mem j b);let r:=U.rise k (k+1) 35 35;have:=zh (A:=A) (B:=B) (x:=sb (l j) (u k)) (y:=sb (u k) (u (k+1))) (z:=sb (u k) (l i)) (by grind [fY]) (by grind [fY]) (by grind [fY]) (by
  rw[gM]at d;have:tn (sb (l j) (u k)) (sb (u k) (u (k+1)))=tn (sb (u (k+1)) (u k)) (sb (l j) (u k)):=by ext tn sb;grind
  cbv) (by
  rw[gM]at c;have:tn (sb (u k) (u (k+1))) (sb (u k) (l i))=tn (sb (u (k+1)) (u k)) (sb (l i) (u k)):=by ext tn sb;grind
  cbv)
 rw[gM];let e:tn (sb (l j) (l i)) (sb (u k) (l i))=tn (sb (l j) (u k)) (sb (u k) (l i)):=by ext tn sb;grind
 cbv
def NG(a b c:Sp):cr a b c=cr b c a:=by rw[cA,cA];grind
def JW{n m:Nat}{h:Nat->Sp}(L:Way A B ps (n+2) l)(U:Way (-A) (-B) ps (m+2) u)(p:l (n+1)=u 0)(q:u (m+1)=l 0)
  (b:∀k,k<n+2->h k=l k) (s:∀j,j<m+1->h (n+1+j)=u j) {i j k:Nat} (o:i<j) (e:j<k) (d:k<n+m+2):0<=cr (h i) (h j) (h k):=by
 let r:Way (-(-A)) (-(-B)) ps (n+2) l:=35
 let a:∀k,n+1<=k->k<n+m+2->h k=u (k - (n+1)):=72
 by_cases c:i<n+2;by_cases f:j<n+2;by_cases g:k<n+2;rw[b i c,b j f,b k g];calc Dm L o e g;rw[b i c,b j f,a k 35 d];calc Dp L U q o f 35;rw[b i c,a j 35 35,a k 35 d,NG];calc Dp U r p 35 35 c;rw[a i 35 35,a j 35 35,a k 35 d];calc Dm U 35 35 35
theorem Dj:∀{l:yau},(∀i j k (c:i<j) (a:j<k) (b:k<#[l]),0<=Tt (l[i]' 35) (l[j]' 35) (l[k]'b))->lM l
 |[],_=>True.intro
 |p::r,h=>⟨Zd.mpr λi j e d q=>h 0 (i+1) (j+1) 35 35 46,Dj λi j k c a b=>h (i+1) (j+1) (k+1) 35 35 46⟩
def Av(h:bN ys ps):W9 ((aX ys).map sT)/\(1<#[aX ys]->∀k,k<#[aX ys]->bK (aX ys) k≠(aX ys).getD k (0,0)):=by
 let B:=tU h;let⟨o,a⟩:=h;ext aX;by_cases c:#[ys]<2;rw[Rr c];calc⟨λx y z s=>?_,λq=>absurd q 35⟩;have:=s.length_le;simp at this
 lia
 rw[if_neg c];let⟨A,n,m,ll,E,t,C,G,a,L,U,s,r,h,d,b⟩:=Aw o a c;generalize aI ys=l at *;generalize aI ys.reverse=u at *;let p:∀{w:yat} {x:Sp},x∈w.dropLast->x∈w:=fun {w x} a=>(List.dropLast_sublist w).subset a
 let f:∀{w:yat} {i:Nat} (a:i<#[w]),w.getD i (0,0)=w[i]:=fun {w i} a=>by rw[Wo,T5 a];rfl
 constructor
 rotate_left
 intro _ k c e;rw[b]at c;unfold bK at e;rw[b]at e;let a:∀k,n+1<=k->k<n+m+2->(l.dropLast++u.dropLast).getD k (0,0)=u.getD (k - (n+1)) (0,0):=λk I H=>by
  have:=h (k - (n+1)) 35;rw[<- this];congr 1
  lia
 cases k with
 |zero =>
  let g:(0+(n+m+2) - 1) % (n+m+2)=n+m+1:=by rw[Xp 35];lia
  rw[g,a _ 35 35,d 0 35,<- r]at e;have:=U.rise (n+m+1 - (n+1)) (m+1) 35 35;rw[e]at this;calc zCu _ this
 |succ k =>
  let g:(k+1+(n+m+2) - 1) % (n+m+2)=k:=by
   have:k+1+(n+m+2) - 1=k+(n+m+2):=35
   rw[this,zDM,Xp 35]
  rw[g]at e;by_cases q:k+1<n+2;rw[d k 35,d (k+1) q]at e;have:=L.rise k (k+1) 35 q;rw[e]at this;calc zCu _ this;rw[a k 35 35,a (k+1) 35 c]at e;have:=U.rise (k - (n+1)) (k+1 - (n+1)) 35 35;rw[e]at this;exact zCu _ this
 apply lM.t;apply Dj;intro i j k e a c;rw[RG,b]at c;let R:=JW L U s r d h e a c;rw[f (by rw[b];lia),f (by rw[b];lia),f (by rw[b];lia)]at R;rw[Yg,Yg,Yg,Od];calc R
def Qt(p:Sp):Pr (sT p):=⟨by show(0:Int)<1;decide,by
 show PM.g3 1 p.1 p.2=1;ext PM.g3
 cbv⟩
def rE(h X:Tr)(p:Sp):X.1*Rl h (sT p) - Rl h X=h.2.1*(RO X p).1+h.2.2*(RO X p).2:=by ext Rl sT RO;grind
def Jf{X:Tr}(h0:0<X.1)(B:wu X hs):YO (hs.map sT) X:=λh hh=>by
 let i:∀p∈hs,0<=X.1*Rl h (sT p):=λp i=>Tx (Tc h0) (hh _ (SG.mpr ⟨p,i,rfl⟩))
 let k:∀p∈hs,∀q∈hs,∀s t:Int,0<s->0<t->s*(RO X p).1+t*(RO X q).1=0->s*(RO X p).2+t*(RO X q).2=0->0<=Rl h X:=λp d q f s t g b u o=>by
  let n:=rE h X p;let m:=rE h X q;let y:=Tx (Tc g) (i p d);let x:=Tx (Tc b) (i q f);let e:(s+t)*Rl h X=s*(X.1*Rl h (sT p))+t*(X.1*Rl h (sT q)):=72
  exact Z5 (a:=s+t) (by rw[e];lia) 35
 let c:∀p∈hs,∀q∈hs,∀r∈hs,∀s t w:Int,0<s->0<t->0<w->s*(RO X p).1+t*(RO X q).1+w*(RO X r).1=0->s*(RO X p).2+t*(RO X q).2+w*(RO X r).2=0->0<=Rl h X:=λp d q f r j s t w g b l u o=>by
  let n:=rE h X p;let m:=rE h X q;let g3:=rE h X r;let y:=Tx (Tc g) (i p d);let x:=Tx (Tc b) (i q f);let z:=Tx (Tc l) (i r j);let e:(s+t+w)*Rl h X=s*(X.1*Rl h (sT p))+t*(X.1*Rl h (sT q))+w*(X.1*Rl h (sT r)):=72
  exact Z5 (a:=s+t+w) (by rw[e];lia) 35
 rcases B with⟨p,d,b⟩| ⟨p,d,q,f,b⟩| ⟨p,d,q,f,r,j,b⟩;let g:=rE h X p;let a:RO X p=(0,0):=b;rw[a,XI,XI]at g;have:=i p d
 lia
 let⟨g,a⟩:=G8 b.1;let h:RO X q≠(0,0):=λe=>by have:=b.2;rw[e]at this;unfold Rp at this;simp at this
 calc k p d q f _ _ (gH h) (by have:=b.2;lia) g a;let⟨g,a⟩:=Iy (RO X p) (RO X q) (RO X r);rcases b with⟨h,e,b⟩| ⟨h,e,b⟩;calc c p d q f r j _ _ _ h e b g a;calc c p d q f r j (-tn (RO X q) (RO X r)) (-tn (RO X r) (RO X p)) (-tn (RO X p) (RO X q)) 35 35 35 (by rw[U7,U7,U7];lia) (by rw[U7,U7,U7];lia)
def Ef(g:nj hs ps)(d:ps ≠ []):nj hs hs:=by calc⟨λ_ h=>h,35,λ_=>?_,λa e p c=>g.one a e p (g.mem p c),λa b e=>⟨(g.two a b e).1,λp c=>(g.two a b e).2 p (g.mem p c)⟩,λq k b p c=>g.TC q k b p (g.mem p c),g.W5⟩;let⟨a,r,e,b⟩:=g.Yt d;calc⟨a,r,e,λp c=>b p (g.mem p c)⟩
theorem kf(g:nj hs ps)(b:ps ≠ []):hs ≠ []:=by
 let⟨a,r,e,_⟩:=g.Yt b
 lia
def Je{X:Tr}(g:nj hs ps)(a:ps ≠ [])(h0:0<X.1)(c:∀b∈aY hs,0<=Rl b X):YO (hs.map sT) X :=
 Jf h0 (G9 (Ef g a) (kf g a) h0 c)
def zP(a b:Sp):Rl (eF a b) (sT a)=0/\Rl (eF a b) (sT b)=0:=by constructor<;>(ext Rl eF sT;grind)
theorem rA(a w:Sp):Rl (bZ a w) (sT a)=0:=by ext Rl bZ sT;grind
theorem zK{R:Tr->Tr->Prop}:∀{l:yau},(∀i (h:i+1<#[l]),R (l[i]' 35) l[i+1])->WG R l
 |[],_=>True.intro
 |[_],_=>True.intro
 |a::b::r,h=>⟨h 0 52,zK λi c=>h (i+1) 46⟩
def Jd{hs:yat}{f:yau}(i:hs ≠ [])(h:∀b∈aY hs,b∈f):Cyc (Sh (·∈f)) (hs.map sT):=λk z l=>by
 by_cases c:#[hs]<3;let j:aY hs=gf (hs.getD 0 (0,0)) (hs.getD (#[hs] - 1) (0,0)):=by ext aY;rw[Rr c]
 let m:∃e∈f,∀p∈hs,Rl e (sT p)=0:=by
  calc⟨bZ (hs.getD 0 (0,0)) (S9 (aS (hs.getD 0 (0,0)) (hs.getD (#[hs] - 1) (0,0)))),h _ (by rw[j];ext gf;simp),λp g=>?_⟩;obtain _|⟨a,_|⟨b,_|⟨d,r⟩⟩⟩:=hs;exact absurd rfl i
  simp_all [rA]
  simp at g;obtain rfl|rfl:=g;calc rA _ _;show Rl (bZ a (S9 (aS a p))) (sT p)=0;ext aS;split;grind [rA];ext Rl bZ sT S9;grind;simp at c;lia
 let⟨e,d,g⟩:=m;let a:∀x∈z::hs.map sT,Rl e x=0:=72
 exact zK λi b=>⟨e,d,a _ (XW _),a _ (XW _)⟩
 let j:aY hs=(List.range' 0 #[hs]).map λk=>eF (bK hs k) (hs.getD k (0,0)):=by ext aY;rw[if_neg c]
 let d:∀{i:Nat} (b:i<#[hs]),hs.getD i (0,0)=hs[i]:=72
 let c:∀i (b:i<#[hs]),Sh (·∈f) (sT (bK hs i)) (sT hs[i]):=λi b=>by let⟨e,a⟩:=zP (bK hs i) (hs.getD i (0,0));calc⟨_,h (eF (bK hs i) (hs.getD i (0,0))) 72,e,?_⟩;rw[<- d b];exact a
 let e:z=sT (bK hs 0):=by
  let a:(hs.map sT).getLast?=some z:=by rw[l];simp
  rw[List.getLast?_map,List.getLast?_eq_getElem?]at a;ext bK;have:(0+#[hs] - 1) % #[hs]=#[hs] - 1:=46
  rw[this,d 35];rw[T5 35]at a;exact(Yj a).symm
 refine zK λi b=>?_
 cases i with
 |zero =>
  show Sh _ z ((hs.map sT)[0]'_);rw[e,Yg];calc c 0 35
 |succ i =>
  show Sh _ ((hs.map sT)[i]'_) ((hs.map sT)[i+1]'_);rw[Yg,Yg];simp at b;have:=c (i+1) 35;unfold bK at this;grind [Nat.add_mod_right,Nat.mod_eq_of_lt]
def Ir(d:WB n a)(c:WB n b):WB (n+1) (aS a b)/\aS a b≠(0,0):=by ext aS;split;calc⟨⟨by ext Bd;grind,by ext Bd;simp_all [Nat.pow_pos]⟩,52⟩;rename_i e;calc⟨⟨?_,?_⟩,λz=>e ?_⟩;rw[Y0,Y0];calc c.x.sub d.x;show Bd _ (1*b.2 - 1*a.2);rw[Y0,Y0];calc c.y.sub d.y;grind
def LL(c:WB n a)(b:WB (n+1) w)(h0:w≠(0,0)):X8 n (bZ a w):=by
 ext bZ;refine⟨λz=>h0 ?_,?_,?_,?_⟩
 lia
 calc Bd.mono (Bd.neg ((b.x.mul c.x).add (b.y.mul c.y))) 35;rw[Int.mul_one];calc b.x;show Bd _ (w.2*1);rw[Int.mul_one];calc b.y
def JR{hs:yat}(a:hs ≠ [])(k:Nat):bK hs k∈hs:=by ext bK;have:(k+#[hs] - 1) % #[hs]<#[hs]:=Zn _ (zCg.mpr a);rw[Wo,T5 this];calc XW _
def getD_mem{hs:yat}{k:Nat}(h:k<#[hs]):hs.getD k (0,0)∈hs:=by rw[Wo,T5 h];calc XW _
def Fz{hs:yat}(j:hs ≠ [])(i:1<#[hs]->∀k,k<#[hs]->bK hs k≠hs.getD k (0,0))(g:∀p∈hs,WB n p):∀b∈aY hs,X8 n b:=λb b=>by
 unfold aY at b;split at b
 ·let a:0<#[hs]:=72
  let e:=g _ (getD_mem (hs:=hs) (k:=0) a);let c:=g _ (getD_mem (hs:=hs) (k:=#[hs] - 1) 35);let⟨f,h⟩:=Ir e c;generalize hs.getD 0 (0,0)=a at *;generalize hs.getD (#[hs] - 1) (0,0)=d at *;unfold gf at b;simp at b;generalize aS a d=w at *;let m:WB (n+1) (SQ w)/\SQ w≠(0,0):=⟨⟨f.x.neg,f.y.neg⟩,λz=>h (by unfold SQ at z;grind)⟩
  let a:WB (n+1) (S9 w)/\S9 w≠(0,0):=⟨⟨f.y.neg,f.x⟩,λz=>h (by unfold S9 at z;grind)⟩
  let bl:WB (n+1) (SQ (S9 w))/\SQ (S9 w)≠(0,0):=⟨⟨a.1.x.neg,a.1.y.neg⟩,λz=>a.2 (by unfold SQ at z;grind)⟩
  obtain rfl|rfl|rfl|rfl:=b
  all_goals simp_all [LL]
 let⟨k,l,rfl⟩:=SG.mp b;let a:k<#[hs]:=46
 let b:=i 35 k a;let e:=g _ (JR j k);let c:=g _ (getD_mem a);ext eF;calc⟨λz=>b ?_,?_,?_,?_⟩;grind;calc Bd.mono ((e.x.mul c.y).sub (c.x.mul e.y)) 35;rw[Int.mul_one,Int.mul_one];calc e.y.sub c.y;rw[Y0,Y0];calc c.x.sub e.x
def Jc{a Z:yau}(h:bN ys ps)(c:ps ≠ [])(d:∀p∈ps,WB n p)(i:∀b∈aY (aX ys),b∈a)(e:∀p∈aX ys,sT p∈Z)(f:#[aX ys]<=#[Z]):Cor n a Z ((aX ys).map sT):=by
 let g:=qg h;let w:∀p∈aX ys,WB n p:=λp a=>d p (g.mem p a)
 calc⟨(Av h).1,λp a=>?_,λp a=>?_,Jd (kf g c) i,λp a=>?_,by rw[RG];calc f⟩;let⟨q,_,rfl⟩:=SG.mp a;calc Qt q;let⟨q,b,rfl⟩:=SG.mp a;calc⟨?_,(w q b).x.mono 35,(w q b).y.mono 35⟩;show Bd _ 1;ext Bd;calc Tp (show 1<2 ^ 1 by decide) (zC2 29 35);let⟨q,b,rfl⟩:=SG.mp a;calc e q b
def HU(g:Tr)(qf:Tr->Tr->Tr)(z:Tr)(l:yau)(c:Tr):aP g qf z (l++[c])=aP g qf z l++((if Rl g (l.getLastD z)*Rl g c<0 then[qf (l.getLastD z) c]else[])++(if 0<=Rl g c then[c]else[])):=by
 obtain rfl|⟨k,p,rfl⟩:=List.eq_nil_or_concat l;simp only[Zi,aP,Yx,List.getLastD_nil];rfl;rw[List.concat_eq_append,WI];show aP g qf z (k++p::[c])=_;rw[iW];congr 1;simp only[aP,Yx];rw[List.getLastD_concat]
theorem ur(g:Tr)(qf:Tr->Tr->Tr):∀(l:yau) (z:Tr),#[aP g qf z l]<=2*#[l]
 |[],_=>Sx _
 |c::r,z=>by ext aP;have:=ur g qf r c;rw[UQ,UQ,Xo];split<;>split<;>simp<;>lia
theorem pY:∀(l s a:yau),(∀x,x∈s↔x∈a)->V9 s l=V9 a l
 |[],_,_,_=>rfl
 |x::r,s,a,h=>by ext V9;by_cases q:x∈s;rw[Rr q,Rr ((h x).mp q)];calc pY r s a h;rw[if_neg q,if_neg 72];congr 1;calc pY r _ _ 72
theorem Aa(z:Tr):∀(l a:yau),((List.range' #[a] #[l]).filter λk=>!((a++l).take k).any λy=>decide (y=(a++l).getD k z)).map (λk=>(a++l).getD k z)=V9 a l
 |[],a=>rfl
 |x::r,a=>by
  let ih:=Aa z r (a++[x]);let e:a++[x]++r=a++x::r:=52
  rw[e]at ih;let b:(a++x::r).getD #[a] z=x:=46
  let c:(a++x::r).take #[a]=a:=52
  rw[Xo,List.range'_succ,List.filter_cons,b,c];let d:(a.any λy=>decide (y=x))=decide (x∈a):=by rw[Bool.eq_iff_iff];simp
  let b:#[a++[x]]=#[a]+1:=52
  rw[b]at ih;ext V9;by_cases q:x∈a;rw[Rr q,if_neg 35,ih];calc pY r _ _ 46;grind
def Pq(a b:Int):(sg a*sg b<0)↔a*b<0:=by
 ext sg;obtain c|c|c:=zCJ a 0
 ·rw[if_neg 35,Rr c];obtain a|a|a:=zCJ b 0;have:=zBR c a
  lia
  all_goals simp_all [XS]
 cbv
 rw[Rr c];obtain a|a|a:=zCJ b 0;rw[if_neg 35,Rr a]
 simp_all [XF]
 cbv
 rw[Rr a];have:=Wi c a
 lia
def Pt(a:Int):(0<=sg a)↔0<=a:=by ext sg;split;constructor<;>intro<;>lia;split<;>(constructor<;>intro<;>lia)
def Oi(p q:Tr):eqD (RD p) (RD q)=decide (p=q):=by ext RD;rw[F9];let⟨a,b,c⟩:=p;let⟨d,e,f⟩:=q;rw[Bool.eq_iff_iff];simp
def iA(p:Tr):Uy 1 (RD p):=Uy.tup (.cons (.int _ _) (.cons (.int _ _) (.cons (.int _ _) (.nil _))))
def plk(a b c d:Sp):tn a b*tn c d=tn a c*tn b d - tn a d*tn b c:=by ext tn;grind
theorem nL(t:Sp):∀V:yat,(∃v∈V,0<tn t v)->∃v∈V,0<tn t v/\∀w∈V,0<tn t w->0<=tn v w
 |[],h=>46
 |x::V,h=>by
  by_cases c:∃v∈V,0<tn t v
  ·let⟨v,vm,hv,f⟩:=nL t V c;by_cases d:0<tn t x/\tn v x<0;calc⟨x,72,d.1,λw a b=>?_⟩;obtain e|wm:=S8.mp a
   simp_all [kr,WS]
   let k:=plk t v x w;let i:=Tx (Tc d.1) (f w wm b);let g:=Wi b (show 0 < - tn v x by lia);exact Z5 35 hv
   ·calc⟨v,72,hv,λw a b=>?_⟩;obtain e|wm:=S8.mp a
    all_goals cbv
  let⟨v,vm,hv⟩:=h;obtain e|vm:=S8.mp vm;calc⟨v,35,hv,λw a b=>?_⟩;obtain e|wm:=S8.mp a
  simp_all [kr,WS]
  calc absurd ⟨w,wm,b⟩ c;calc absurd ⟨v,vm,hv⟩ c
theorem E6{a:Type}(f:a->Int):∀V:List a,∃M:Int,0<M/\∀v∈V,f v<=M
 |[]=>⟨1,29,λv hv=>by cases hv⟩
 |x::V=>by
  let⟨M,c,b⟩:=E6 f V;calc⟨M+(f x).toNat,35,λv hv=>?_⟩;obtain e|a:=S8.mp hv;subst e;lia;have:=b v a;lia
def sq_pos{t:Sp}(d:t≠(0,0)):0<Rp t t:=by
 let⟨a,b⟩:=t;show 0<a*a+b*b;let f:0<=a*a:=by obtain h|h:=Int.le_total 0 a;calc Tx h h;exact zBb h h
 let e:0<=b*b:=by obtain h|h:=Int.le_total 0 b;calc Tx h h;exact zBb h h
 by_cases c:a=0;let a:b≠0:=35
 have:=Int.mul_ne_zero a a;omega;have:=Int.mul_ne_zero c c;omega
def Oq{t:Sp}(a:t≠(0,0))(V:yat)(b:∀d:Sp,(∀v∈V,0<=Rp v d)->0<=Rp t d):(∃v∈V,tn t v=0/\0<Rp t v)∨∃ v∈V,∃w∈V,tn t v<0/\0<tn t w/\0<tn v w:=by
 refine zBQ λi=>?_
 let f:∀v∈V,tn t v=0->Rp t v<=0:=46
 let d:=sq_pos a;by_cases L:∃v∈V,0<tn t v;let⟨w,g,j,ext⟩:=nL t V L;let a:=b (-w.2,w.1) λv hv=>by
  let e:Rp v (-w.2,w.1)=tn w v:=by ext Rp tn;grind
  rw[e];obtain c|c|c:=zCJ (tn t v) 0;grind [bQ];let k:Rp t t*tn w v=Rp t v*tn w t+tn t v*Rp w t:=by ext Rp tn;grind
  rw[c,YZ,VX]at k;let q:=zBb (f v hv c) (show tn w t<=0 by rw[bQ];lia);rw[<- k]at q;calc Z5 q d;exact ext v hv c
 let e:Rp t (-w.2,w.1)=tn w t:=by ext Rp tn;grind
 rw[e,bQ]at a
 lia
 let⟨M,f,d⟩:=E6 (λv=>Rp v t) V;let a:=b (M*t.2 - t.1,- (M*t.1) - t.2) λv hv=>by
  let e:Rp v (M*t.2 - t.1,- (M*t.1) - t.2)=M*(- tn t v) - Rp v t:=by ext Rp tn;grind
  rw[e];let h:=XM.mp λz=>L ⟨v,hv,z⟩
  by_cases c:tn t v=0
  simp_all [Ak]
  let b:M*1<=M*(- tn t v):=zDJ 35 (Tc f);have:=d v hv
  lia
 let e:Rp t (M*t.2 - t.1,- (M*t.1) - t.2)=- Rp t t:=by ext Rp;grind
 lia
def vc(g:Tr):Sp:=(g.2.1,g.2.2)
def Qf(g:Tr)(N b a:Int)(p:Tr):Rl g (N*p.1,N*p.2.1+b,N*p.2.2+a)=N*Rl g p+Rp (vc g) (b,a):=by ext Rl Rp vc;grind
def Fw{gs C:yau}(c:C ≠ [])(pos:∀p∈C,0<p.1)(n:∀p∈C,Rl g p<0)(q:∀h∈gs,∀p∈C,0<=Rl h p)
  (sp:∀X:Tr,0<X.1->(∀h∈gs,0<=Rl h X)->YO C X) (gv:vc g≠(0,0)) :
  ∃ p:Tr,0<p.1/\Rl g p<0/\((∃h∈gs,Rl h p=0/\pJ (vc h) (vc g))∨∃ h∈gs,∃k∈gs,Rl h p=0/\Rl k p=0/\wo (vc h) (vc k) (vc g)):=by
 let⟨b,a⟩:=zB8 C c;let l:∀p:Tr,Rl (-1,0,0) p=- p.1:=λp=>by ext Rl;grind
 let⟨p,m,gp,_,i⟩:=tN g (-1,0,0) C ⟨b,a,n b a,by rw[l];have:=pos b a;lia⟩;let a:=pos p m;calc⟨p,a,gp,?_⟩;let b:(- g.2.1,- g.2.2)≠((0,0):Sp):=λe=>gv (by let u:=congrArg Prod.fst e;let t:=congrArg Prod.snd e;ext vc;rw[show g.2.1=0 by lia,show g.2.2=0 by lia])
 let j:=Oq b ((gs.filter λh=>decide (Rl h p=0)).map vc) λd b=>by
  let⟨N,o,s⟩:=E6 (λh=>- Rp (vc h) d) gs;let r:∀h∈gs,0<=Rl h (N*p.1,N*p.2.1+d.1,N*p.2.2+d.2):=λh f=>by
   rw[Qf];by_cases c:Rl h p=0;rw[c,XI,zDg];calc b _ (SG.mpr ⟨h,Yh.mpr ⟨f,U6 c⟩,rfl⟩);let b:N*1<=N*Rl h p:=zDJ (by have:=q h f p m;lia) (Tc o);have:=s h f;show 0<=N*Rl h p+Rp (vc h) d
   lia
  let I:=sp _ (Wi o a) r (Rl g p - p.1*g.1,- (p.1*g.2.1),- (p.1*g.2.2)) λy m=>by
   let b:=i y m (n y m);rw[l,l]at b;let e:Rl (Rl g p - p.1*g.1,- (p.1*g.2.1),- (p.1*g.2.2)) y=Rl g p*y.1 - p.1*Rl g y:=by ext Rl;grind
   rw[Int.mul_neg,U7]at b
   lia
  let e:Rl (Rl g p - p.1*g.1,- (p.1*g.2.1),- (p.1*g.2.2)) (N*p.1,N*p.2.1+d.1,N*p.2.2+d.2)=p.1*Rp (- g.2.1,- g.2.2) d:=by ext Rl Rp;grind
  rw[e]at I;exact Z5 I a
 let d:∀v∈(gs.filter λh=>decide (Rl h p=0)).map vc,∃h∈gs,Rl h p=0/\vc h=v:=λv hv=>by let⟨h,f,e⟩:=SG.mp hv;let⟨a,b⟩:=Yh.mp f;exact⟨h,a,Wh b,e⟩
 let i:∀v:Sp,tn (- g.2.1,- g.2.2) v=- tn (vc g) v:=λv=>by ext tn vc;grind
 let l:∀v:Sp,Rp (- g.2.1,- g.2.2) v=- Rp (vc g) v:=λv=>by ext Rp vc;grind
 rcases j with⟨v,e,a,b⟩| ⟨v,e,w,j,a,b,c⟩;let⟨h,f,g,rfl⟩:=d v e;rw[i]at a;rw[l]at b;calc .inl ⟨h,f,g,by rw[bQ];lia,by rw[Ak];lia⟩;let⟨h,f,g,rfl⟩:=d v e;let⟨k,e,kp,rfl⟩:=d w j;rw[i]at a b;calc .inr ⟨h,f,k,e,g,kp,.inl ⟨?_,?_,c⟩⟩;rw[bQ];exact b
 lia
theorem zM{a Z:yau}(i:∀e∈a,X8 n e)(j:∀e∈a,∀g∈a,YQ (Ss e g)∈Z):∀(gs l:yau),(∀g∈gs,g∈a)->Cor n a Z l →
  Cor n a Z (aV gs l)/\(∀X,YO l X->(∀g∈gs,0<=Rl g X)->YO (aV gs l) X)/\(∀g∈gs,∀y∈aV gs l,0<=Rl g y)/\∀d,(∀p∈l,0<=Rl d p)->∀y∈aV gs l,0<=Rl d y
 |[],l,_,C=>⟨C,λ_ I _=>I,λ_ h=>(by cases h),λ_ h=>h⟩
 |g::gs,l,h,C=>by
  let⟨n,m,k⟩:=nC (g:=g) C.VI C.pr;let⟨a,b,c,d⟩:=zM i j gs (eY g l) (λx f=>h x (U1 _ f)) (IC i (h g 52) (λe i=>j e i g (h g 52)) C);calc⟨a,λX I a=>b X (n X I (a g 52)) λx f=>a x (U1 _ f),λx f y a=>?_,λe i=>d e (k e i)⟩;obtain rfl|f:=S8.mp f;calc d x m y a;calc c x f y a
theorem FA{hs:yat}(c:hs ≠ []){b:Tr}(a:b∈aY hs):∃p:Sp,Rl b (sT p)=0:=by
 unfold aY at a;split at a;unfold gf at a;simp only[S8,zCG,or_false]at a;obtain e|e|e|e:=a<;>(rw[e];calc⟨_,rA _ _⟩);let⟨k,_,e⟩:=SG.mp a;rw[<- e];calc⟨_,(zP _ _).1⟩
theorem QH(h:X8 n b)(e:Rl b (sT p)=0):vc b≠(0,0):=λz=>h.ne (by let c:b.2.1=0:=congrArg Prod.fst z;let a:b.2.2=0:=congrArg Prod.snd z;unfold Rl sT at e;grind)
theorem Ct:∀gs:yau,aV gs []=[]
 |[]=>rfl
 |g::gs=>Ct gs
theorem Cs(a b l:yau):aV (a++b) l=aV b (aV a l):=List.foldl_append
def ID{G:yau}{j:Nat}(h:aV (G.take i) F=[])(U3:i<=j):aV (G.take j) F=[]:=by grind [List.take_add,Nat.add_sub_cancel',Cs,Ct]
theorem tw{G F:yau}(d:F ≠ []):∀n,aV (G.take n) F=[]->∃a,a<n/\(∀j,j<=a->aV (G.take j) F ≠ [])/\aV (G.take (a+1)) F=[]
 |0,h=>absurd h d
 |n+1,h=>by by_cases c:aV (G.take n) F=[];let⟨k,e,a,b⟩:=tw d n c;calc⟨k,35,a,b⟩;calc⟨n,35,λj a z=>c (ID z a),h⟩
def tB{G:yau}{k:Nat}{g:Tr}(h:G[k]?=some g):aV (G.take (k+1)) F=eY g (aV (G.take k) F):=by rw[List.take_add_one,h,Cs];rfl
def Xl(G:yau)(pk:yag):yat:=pk.map λk=>vc (G.getD k (0,0,0))
def nE(G:yau)(pk:yag)(sh:yaf):Int:=((pk.zip sh).map λz=>(G.getD z.1 (0,0,0)).1*z.2).sum
def ik(G:yau)(a:Nat):List (yag)->Option (yag×yaf)
 |[]=>none
 |o::r=>match lO (Xl G (o++[a]))with
  |some b=>if nE G (o++[a]) b<0 then some (o++[a],b)else ik G a r
  |none=>ik G a r
set_option tactic.hygienic true in
theorem pP:∀{L:List (yag)} {pk:yag} {sh:yaf},ik G last L=some (pk,sh)->(∃o∈L,pk=o++[last])/\lO (Xl G pk)=some sh/\nE G pk sh<0
 |[],_,_,h=>by cases h
 |o::r,pk,sh,h=>by
  let b:ik G last r=some (pk,sh)->(∃a∈o::r,pk=a++[last])/\lO (Xl G pk)=some sh/\nE G pk sh<0:=λh=>by
   let⟨⟨a,m,e⟩,q⟩:=pP h
   cbv
  unfold ik at h;split at h
  ·split at h
   all_goals cbv
  calc b h
theorem q0{a:Nat}:∀{L:List (yag)} {o:yag} {sh:yaf},o∈L->lO (Xl G (o++[a]))=some sh->nE G (o++[a]) sh<0->∃r,ik G a L=some r
 |[],_,_,m,_,_=>by cases m
 |x::r,o,sh,m,b,a=>by
  ext ik;split;split
  lia
  obtain e|m:=S8.mp m
  lia
  calc q0 m b a;obtain e|m:=S8.mp m
  lia
  calc q0 m b a
def GO{p c t v:Int}(b:0<p)(a:0<t)(hv:v<0)(e:p*c=t*v):c<0:=by let h:=XF a hv;rw[<- e]at h;calc VO.mp λz=>by have:=Tx (Tc b) z;lia
def QX{p:Tr}(B:Du [vc h,vc g] sh)(h0:0<p.1)(c:Rl h p=0)(gp:Rl g p<0):∃s t,sh=[s,t]/\h.1*s+g.1*t<0:=by
 obtain⟨s,t,rfl⟩:∃s t,sh=[s,t]:=by
  have:=B.len;obtain _|⟨s,_|⟨t,_|⟨u,r⟩⟩⟩:=sh
  all_goals cbv
 let b:=B.sum;unfold wsum vc at b;simp at b;let a:=B.pos t 52;calc⟨s,t,rfl,GO h0 a gp ?_⟩;unfold Rl at *;grind
def QY{p:Tr}(B:Du [vc h,vc k,vc g] sh)(h0:0<p.1)(c:Rl h p=0)(kp:Rl k p=0)(gp:Rl g p<0):∃s t u,sh=[s,t,u]/\h.1*s+(k.1*t+g.1*u)<0:=by
 obtain⟨s,t,u,rfl⟩:∃s t u,sh=[s,t,u]:=by
  have:=B.len;obtain _|⟨s,_|⟨t,_|⟨u,_|⟨v,r⟩⟩⟩⟩:=sh
  all_goals cbv
 let b:=B.sum;unfold wsum vc at b;simp at b;let a:=B.pos u 52;calc⟨s,t,u,rfl,GO h0 a gp ?_⟩;unfold Rl at *;grind
def xG{G:yau}{h:Tr}(m:h∈G.take n):∃i,i<n/\G.getD i (0,0,0)=h:=by let⟨i,a,e⟩:=XT m;rw[Wq]at a;rw[List.getElem_take]at e;calc⟨i,35,by rw[Wo,T5 35,e];rfl⟩
structure Km(G F B:yau):Prop where
 X9:∀j,W9 (aV (G.take j) F)/\∀p∈aV (G.take j) F,Pr p
 inc:∀j X,0<X.1->(∀b∈B,0<=Rl b X)->(∀g∈G.take j,0<=Rl g X)->YO (aV (G.take j) F) X
 ov:∀j,∀g∈G.take j,∀y∈aV (G.take j) F,0<=Rl g y
 gb:∀g∈G,vc g≠(0,0)
 ne:F ≠ []
 own:∀j,∀b∈B,∀y∈aV (G.take j) F,0<=Rl b y
 hd:∃r,G=B++r
def DR(S:Km G F B)(e:aV G F=[]) :
  ∃ a,a<#[G]/\(∀j,j<=a->aV (G.take j) F ≠ [])/\aV (G.take (a+1)) F=[]/\∃r,ik G a (Ul a 1++Ul a 2)=some r:=by
 let⟨a,f,k,b⟩:=tw S.ne #[G] (by rw[zCH];calc e);calc⟨a,f,k,b,?_⟩;let e:=S.X9 a;let i:G[a]?=some G[a]:=T5 f;let n:G.getD a (0,0,0)=G[a]:=by rw[Wo,i];rfl
 let c:∀y∈aV (G.take a) F,Rl G[a] y<0:=λy d=>VO.mp λz=>by let l:=(nC (g:=G[a]) e.1 e.2).1 y (λh hh=>hh y d) z;rw[tB i]at b;exact qh l (e.2 y d).pos b
 let l:=k a (Sx _);let⟨g,b⟩:=zB8 _ l;let⟨r,k⟩:=S.hd;let p:#[B]<=a:=Xh.mp (by
  intro z;let o:a<#[B]:=35
  let m:G[a]∈B:=by
   let q:G[a]?=B[a]?:=by rw[k,WR o]
   rw[i]at q;exact UX q.symm
  have:=S.own a _ m g b;have:=c g b
  lia)
 let sub:∀b∈B,b∈G.take a:=λb g=>by rw[k,List.take_append];calc Xe _ ?_;rw[XG p];exact g
 let⟨p,B,gp,i⟩:=Fw l (λy d=>(e.2 y d).pos) c (S.ov a) (λX d c=>S.inc a X d (λb g=>c b (sub b g)) c) (S.gb _ (XW f));rcases i with⟨h,c,f,e⟩| ⟨h,c,k,m,f,kp,e⟩;let⟨i,w,d⟩:=xG c;let x:Xl G ([i]++[a])=[vc h,vc G[a]]:=by show[vc (G.getD i (0,0,0)),vc (G.getD a (0,0,0))]=_;rw[d,n]
 let l:lO [vc h,vc G[a]]=some (dj [bC (vc G[a]),bC (vc h)]):=Rr e;let⟨s,t,y,A⟩:=QX (uC 52 l) B f gp;calc q0 (o:=[i]) (Xe _ (AJ w)) (by rw[x,l]) ?_;rw[y];show([(G.getD i (0,0,0)).1*s,(G.getD a (0,0,0)).1*t]:yaf).sum<0;rw[d,n];simp;calc A;let⟨i,w,d⟩:=xG c;let⟨j,q,g⟩:=xG m;let m:i≠j:=λz=>by
  rw[z,g]at d;rw[d]at e;unfold wo at e;have:=kr (vc h)
  lia
 let z:∀(i j:Nat) (h k:Tr),i<j->j<a->G.getD i (0,0,0)=h->G.getD j (0,0,0)=k->Rl h p=0->Rl k p=0->wo (vc h) (vc k) (vc G[a])->∃r,ik G a (Ul a 1++Ul a 2)=some r:=λi j h k p q d g f kp e=>by
  let x:Xl G ([i,j]++[a])=[vc h,vc k,vc G[a]]:=by show[vc (G.getD i (0,0,0)),vc (G.getD j (0,0,0)),vc (G.getD a (0,0,0))]=_;rw[d,g,n]
  obtain⟨c,l⟩:∃c,lO [vc h,vc k,vc G[a]]=some c:=by
   show∃c,lN _ _ _=some c;ext lN;split;calc⟨_,rfl⟩;rename_i c;obtain b|b:=e;calc absurd b c;exact⟨_,Rr b⟩
  let⟨s,t,u,y,A⟩:=QY (uC 52 l) B f kp gp;calc q0 (o:=[i,j]) (VA _ (Jq p q)) (by rw[x,l]) ?_;rw[y];show([(G.getD i (0,0,0)).1*s,(G.getD j (0,0,0)).1*t,(G.getD a (0,0,0)).1*u]:yaf).sum<0;rw[d,g,n];simp;exact A
 obtain c|c:=Nat.lt_or_gt_of_ne m;calc z i j h k c q d g f kp e;calc z j i k h c w g d kp f ?_;unfold wo at e ⊢;let H:=bQ (vc h) (vc k);let E:=bQ (vc k) (vc G[a]);let C:=bQ (vc G[a]) (vc h)
 lia
def Ei{o:yag}(h:o∈Ul last 1++Ul last 2):#[o]<=2/\∀k∈o,k<last:=by
 obtain q|q:=S7.mp h;calc⟨by rw[(iw q).1];decide,(iw q).2⟩;calc⟨by rw[(iw q).1];decide,(iw q).2⟩
def ub(z:Nat×Int):D:=.tup [.int ((z.1:Nat):Int),.int z.2]
theorem Bu(z:Nat×Int):aU (ub z)=ub z:=rfl
def E9(zs:List (Nat×Int)):bf (zs.map ub)=zs.map ub:=cI ub Bu zs
theorem xI:∀(pk:yag) (sh:yaf),List.zipWith (λx y=>D.tup [x,y]) (pk.map λ(k:Nat)=>D.int (k:Int)) (sh.map D.int)=(pk.zip sh).map ub
 |[],_=>52
 |_::_,[]=>52
 |k::pk,s::sh=>by rw[Vq,Vq,List.zipWith_cons_cons,xI pk sh,List.zip_cons_cons,Vq];rfl
abbrev Dt:=Int×Int×Int×Int
def RH(p:Dt):D:=.tup [.int p.1,.int p.2.1,.int p.2.2.1,.int p.2.2.2]
def CC(h:RH p=RH q):p=q:=by
 unfold RH at h
 lia
theorem map_inj{a:Type}{f:a->D}(b:∀{p q},f p=f q->p=q):∀{ps qs:List a},ps.map f=qs.map f->ps=qs
 |[],[],_=>rfl
 |[],_::_,h=>by simp at h
 |_::_,[],h=>by simp at h
 |p::ps,q::qs,h=>by simp at h;rw[b h.1,map_inj b h.2]
def LA{ps qs:List Dt}(h:ps.map RH=qs.map RH):ps=qs:=map_inj CC h
theorem yB(p:Dt):aU (RH p)=RH p:=rfl
def sS(ps:List Dt):bf (ps.map RH)=ps.map RH:=cI RH yB ps
def Mo(p:Dt):Uy 1 (RH p):=Uy.tup (.cons (.int _ _) (.cons (.int _ _) (.cons (.int _ _) (.cons (.int _ _) (.nil _)))))
structure GD(p:Dt):Prop where
 x:Bd 60 p.1
 y:Bd 60 p.2.1
 c0:0<=p.2.2.1
 c2:p.2.2.1<=2
def uy(col:D)(cs:Int->Bool):Prop:=(col=.RZ/\cs=λ_=>true)∨∃ k:Int,col=.int k/\cs=λc=>decide (c=k)
def uy.unt(h:uy col cs):aU col=col:=by
 rcases h with⟨rfl,_⟩| ⟨k,rfl,_⟩;calc yC;calc qU _
noncomputable def gv(c b a:Int)(p:Dt):Int:=c+b*p.1+a*p.2.1
def w3(c b a s:Int)(ps:List Dt):Int:=(ps.map λp=>if sg (gv c b a p)=s then p.2.2.2 else 0).sum
def wt(cs:Int->Bool)(c b a s:Int)(ps:List Dt):Int:=w3 c b a s (ps.filter λp=>cs p.2.2.1)
noncomputable def XQ(cs:Int->Bool)(ps:List Dt):Int:=((ps.filter λp=>cs p.2.2.1).map λp=>p.2.2.2).sum
def Na(c b a s:Int)(ps:List Dt)(p:Dt):w3 c b a s (ps++[p])=w3 c b a s ps+if sg (gv c b a p)=s then p.2.2.2 else 0:=by
 ext w3
 cbv
def sg3(n:Int):sg n=-1∨sg n=0∨sg n=1:=by
 ext sg
 lia
def zR{a:Type}(xs:List a)(lo b:yaq):List a:=(xs.drop (HT.SH #[xs] 0 lo)).take (HT.SH #[xs] #[xs] b - HT.SH #[xs] 0 lo)
def IE{a:Type}(f:a->D)(xs:List a)(lo b:yaq):PD.cutD (xs.map f) lo b=(zR xs lo b).map f:=by
 ext PD.cutD zR
 cbv
theorem Qv(a b c x:D):putD (κ:=Key) [(.inl (-1),a),(.inl 0,b),(.inl 1,c)] (.inl (-1)) x=[(.inl (-1),x),(.inl 0,b),(.inl 1,c)]:=rfl
theorem Qw(a b c x:D):putD (κ:=Key) [(.inl (-1),a),(.inl 0,b),(.inl 1,c)] (.inl 0) x=[(.inl (-1),a),(.inl 0,x),(.inl 1,c)]:=rfl
theorem Qx(a b c x:D):putD (κ:=Key) [(.inl (-1),a),(.inl 0,b),(.inl 1,c)] (.inl 1) x=[(.inl (-1),a),(.inl 0,b),(.inl 1,x)]:=rfl
def Fx{x y z:Int}(h:¬(x=0/\y=0/\z=0))(i:Bd n x)(g:Bd n y)(hz:Bd n z):Bd n (PM.Tz x y z l):=by
 unfold Bd at *;rw[PM.wO];let c:=zCA.mpr (PM.nM x y z);let b:=zCA.mpr (PM.nN x y z);let a:=zCA.mpr (PM.nP x y z);simp only[Int.natAbs_natCast]at c b a;by_cases f:x=0;by_cases d:y=0;let j:z≠0:=λe=>h ⟨f,d,e⟩
 have:=zCx 35 a
 lia
 have:=zCx 35 b
 lia
 have:=zCx 35 c
 lia
def gk(h:Bd 200 a)(g:Bd 200 b)(f:Bd 200 c)(e:Bd 200 d):Bd 1000 (a*b - c*d):=((h.mul g).sub (f.mul e)).mono 29
def wq(f:Dt->Bool):List Dt->Int
 |[]=>0
 |p::r=>(if f p=true then p.2.2.2 else 0)+wq f r
structure Or(lt:Dt->Dt->Bool):Prop where
 ir:∀p,lt p p=false
 tr:∀p q r,lt p q=true->lt q r=true->lt p r=true
 nt:∀p q r,lt p q=true->lt r q=false->lt p r=true
def tq(p q z:Dt):Int:=(q.1 - p.1)*(z.2.1 - p.2.1) - (q.2.1 - p.2.1)*(z.1 - p.1)
def TH(p:Dt):Int×Int:=(p.1,p.2.1)
theorem Dq(f:Dt->Bool)(p:Dt):∀qs:List Dt,wq f (qs++[p])=wq f qs+if f p=true then p.2.2.2 else 0
 |[]=>by simp[wq]
 |q::r=>by
  rw[YW];ext wq;rw[Dq f p r]
  lia
noncomputable def prs(n:Nat):List (Nat×Nat):=(List.range' 0 n).flatMap λi=>(List.range' (i+1) (n - (i+1))).map λk=>(i,k)
def WO(a:Nat×Nat):D:=.tup [.int a.1,.int a.2]
def MG(h:WO a=WO b):a=b:=by unfold WO at h;grind
theorem Ke(a:Nat×Nat):aU (WO a)=WO a:=rfl
def prO:Option (Nat×Nat)->D
 |none=>.RZ
 |some a=>WO a
def Jn(n:Nat):Ul n 2=(prs n).map λa=>[a.1,a.2]:=by
 let b:Ul n 1=(List.range' 0 n).map λi=>[i]:=by simp[Ul,Wm,fe]
 let a:Ul n 2=(Ul n 1).flatMap (Wm n):=rfl;rw[a,b,List.flatMap_map,prs,List.map_flatMap];congr 1
 funext i
 rw[UA];rfl
theorem CQ{i j:Nat}:(i,j)∈prs n↔i<j/\j<n:=by ext prs;grind
def gp(ps:List Dt)(i:Nat):Dt:=ps.getD i (0,0,0,0)
def uU{ps:List Dt}{i:Nat}(h:i<#[ps]):ps[i]?=some (gp ps i):=by ext gp;simp[h]
def mH{ps:List Dt}{i:Nat}(h:i<#[ps]):gp ps i∈ps:=UX (uU h)
def y8{ps:List Dt}{i:Nat}(h:i<#[ps]){Q:D->Prop}(q:Q (RH (gp ps i))):∃d,T7 (ps.map RH) (i:Int)=some d/\Q d:=by calc⟨_,?_,q⟩;ext T7 ixN;rw[RG,Rr 35,Rr 35];simp[uU h]
def Og(a b c d:Int):eqD (.tup [.int a,.int b]) (.tup [.int c,.int d])=decide (a=c/\b=d):=by grind [wQ,i9,tG,j9]
def AN(a b:Int):Uy 1 (.tup [.int a,.int b]):=Uy.tup (.cons (.int _ _) (.cons (.int _ _) (.nil _)))
def OU(p q:Dt):(!eqD (.tup [.int p.1,.int p.2.1]) (.tup [.int q.1,.int q.2.1]))=decide (TH p≠TH q):=by
 rw[Og];ext TH
 lia
def sps(ps:List Dt):List (Nat×Nat):=(prs #[ps]).filter λa=>decide (TH (gp ps a.1)≠TH (gp ps a.2))
def mR{a:Nat×Nat}:a∈sps ps↔a.1<a.2/\a.2<#[ps]/\TH (gp ps a.1)≠TH (gp ps a.2):=by ext sps;grind [CQ]
def IX(g f g3:DG)(a b c:D)(ρ:Ro)(Q:Ro->Prop):k9 3 (b9 g (b9 f (b9 g3 k8))) (.tup [a,b,c]) ρ Q=g a ρ λe=>f b e λd=>g3 c d Q:=by rw[Ee 3 _ _ rfl];simp only[gdc,gdn]
def OY(a:Nat×Nat):Uy 1 (WO a):=AN _ _
def ld(a b:Int):Int:=if a=0 then b else a
def EL(x y z:Int):Tr:=(x.fdiv (PM.Tz x y z (ld y z)),y.fdiv (PM.Tz x y z (ld y z)),z.fdiv (PM.Tz x y z (ld y z)))
def lnF(p q:Dt):Tr:=EL (p.1*q.2.1 - q.1*p.2.1) (p.2.1*1 - q.2.1*1) (1*q.1 - 1*p.1)
structure NF(g:Tr):Prop where
 sgn:0<g.2.1∨(g.2.1=0/\0<g.2.2)
 one:PM.g3 g.1 g.2.1 g.2.2=1
structure LF(g:Tr)(p q:Dt):Prop where
 b0:Bd 1000 g.1
 b1:Bd 1000 g.2.1
 b2:Bd 1000 g.2.2
 nf:NF g
 ex:∃m:Int,m≠0/\∀z,gv g.1 g.2.1 g.2.2 z*m=tq p q z
def zb(c:GD p)(b:GD q)(a:TH p≠TH q):LF (lnF p q) p q:=by
 let h:¬(p.2.1*1 - q.2.1*1=0/\1*q.1 - 1*p.1=0):=λf=>(by let⟨e,d⟩:=f;calc a (by ext TH;grind))
 let a:Bd 200 1:=Bd.mono (m:=2) (by ext Bd;decide) 29;let g:=gk (c.x.mono 35) (b.y.mono 35) (b.x.mono 35) (c.y.mono 35);let B1:=gk (c.y.mono 35) a (b.y.mono 35) a;let f:=gk a (b.x.mono 35) a (c.x.mono 35);let b:∀z:Dt,(p.1*q.2.1 - q.1*p.2.1)+(p.2.1*1 - q.2.1*1)*z.1+(1*q.1 - 1*p.1)*z.2.1=tq p q z:=λz=>by ext tq;grind
 ext lnF EL;generalize p.1*q.2.1 - q.1*p.2.1=x at *;generalize p.2.1*1 - q.2.1*1=y at *;generalize 1*q.1 - 1*p.1=w at *;let c:¬(x=0/\y=0/\w=0):=35
 let a:∀l,PM.Tz x y w l≠0:=λl=>PM.uO c
 calc⟨q9 (a _) (PM.rq (PM.nM _ _ _)) g,q9 (a _) (PM.rq (PM.nN _ _ _)) B1,q9 (a _) (PM.rq (PM.nP _ _ _)) f,⟨?_,PM.Hn c⟩,PM.Tz x y w (ld y w),a _,λz=>?_⟩;by_cases i:y=0;ext ld
 simp_all [PM.xb,PM.nP]
 ext ld
 simp_all [PM.xb,PM.nN]
 let e:=PM.cK (l:=ld y w) (PM.nM x y w);let d:=PM.cK (l:=ld y w) (PM.nN x y w);let a:=PM.cK (l:=ld y w) (PM.nP x y w);rw[<- b z];ext gv;rw[Int.add_mul,Int.add_mul,e,Int.mul_right_comm,d,Int.mul_right_comm,a]
structure Mp where
 (a b c d e f:Int)
def wY(ps:List Dt):yau:=(sps ps).map λa=>lnF (gp ps a.1) (gp ps a.2)
def wl(ps:List Dt)(g:Tr)(s:Int):Int:=wt (λ_=>true) g.1 g.2.1 g.2.2 s ps
def wW(p q:Tr):Prop:=p.1<q.1∨(p.1=q.1/\(p.2.1<q.2.1∨(p.2.1=q.2.1/\p.2.2<q.2.2)))
def bO(ys a:yau):Prop:=ys.Pairwise wW/\∀g,g∈ys↔g∈a
def bO.nd(h:bO ys ls):ys.Nodup:=h.1.imp fun {p q} r e=>by subst e;unfold wW at r;lia
def YR(g:Tr):yaf:=[g.1,g.2.1,g.2.2]
def KY(a:yau):(a.map YR).map PD.tupI=a.map RD:=by rw[UA];rfl
def okP(o:Option (Nat×Nat)):Uy 1 (prO o):=by
 cases o with
 |none=>calc Uy.RZ 1
 |some a=>calc OY a
def A8(ps:List Dt)(g:Tr):D:=.tup [RD g,.int (wl ps g (-1)),.int (wl ps g 0),.int (wl ps g 1)]
def Md(e:SW.lexLt (YR g) (YR h)=true):wW g h:=by
 unfold YR SW.lexLt at e;ext wW;split at e;unfold SW.lexLt at e;split at e;unfold SW.lexLt at e;split at e;cases e
 cbv
 cbv
 cbv
theorem Di(e:YR g=YR h):g=h:=by
 unfold YR at e
 lia
theorem GS:∀{zs:List (yaf)},(∀z∈zs,∃g:Tr,z=YR g)->∃ys:yau,zs=ys.map YR
 |[],_=>⟨[],rfl⟩
 |z::zs,h=>by
  let⟨g,e⟩:=h z 72;let⟨ys,b⟩:=GS λz a=>h z (U1 _ a)
  calc⟨g::ys,46⟩
def Hm{a:yau}(h:PD.zw zs (a.map YR)):∃ys:yau,zs=ys.map YR/\bO ys a:=by
 let⟨c,a⟩:=h;let⟨ys,rfl⟩:=GS λz b=>by let⟨p,_,e⟩:=SG.mp ((a z).mp b);grind
 calc⟨ys,rfl,(zDK.mp c).imp fun {p q} e=>Md e,λg=>?_⟩;have:=a (YR g);constructor;grind [Di];grind [Di]
def jd(h:bO ys ls):#[ys]<=#[ls]:=by let a:=h.nd;calc tP a λg a=>(h.2 g).mp a
def CN(ps:List Dt):#[wY ps]<=#[ps]*#[ps]:=by
 ext wY sps;rw[RG];calc Sd (List.length_filter_le _ _) ?_;let e:=mO #[ps] 2
 simp_all [Jn,RG,Nat.pow_two]
abbrev Wy:=Int×Int
def QF(a b:Wy):tn a (SQ b)=- tn a b:=by ext tn SQ;grind
theorem kU(a b:Wy):tn (SQ a) b=- tn a b:=by ext tn SQ;grind
def HI(a b c:Wy):tn (a.1+b.1,a.2+b.2) c=tn a c+tn b c:=by ext tn;grind
def Dg(w p n o:Wy):tn w n*tn p o=tn w p*tn n o+tn w o*tn p n:=by ext tn;grind
def KW{w:Wy}(h:w≠(0,0)):0<tn w (S9 w):=by
 ext tn S9;let⟨a,b⟩:=w;let e:a*a - -b*b=a*a+b*b:=72
 rw[e];let g:=sqn a;let f:=sqn b;by_cases d:a=0;by_cases c:b=0
 lia
 have:b*b≠0:=46
 omega;have:a*a≠0:=46
 omega
def kH(w n o:Wy):Wy:=if 0<tn w o/\0<tn o n then o else n
def Z0(w:Wy)(ws:List Wy):Wy:=ws.foldl (kH w) (S9 w)
theorem KJ:∀(ws done:List Wy) (n:Wy),0<tn w n->(∀o∈done,0<tn w o->tn o n<=0)->0<tn w (ws.foldl (kH w) n)/\∀o∈done++ws,0<tn w o->tn o (ws.foldl (kH w) n)<=0
 |[],done,n,f,e=>46
 |o::ws,done,n,f,e=>by
  let a:0<tn w (kH w n o)/\∀p∈done++[o],0<tn w p->tn p (kH w n o)<=0:=by
   ext kH;by_cases c:0<tn w o/\0<tn o n;rw[Rr c];calc⟨c.1,λp b d=>?_⟩;obtain b|b:=S7.mp b;let g:=e p b d;let j:=Dg w p n o;let b:tn n o<0:=by grind [bQ]
   let i:tn w p*tn n o<0:=XF d b;let h:tn w o*tn p n<=0:=zCK (Tc c.1) g;by_cases z:tn p o<=0;calc z;have:=Wi f (show 0<tn p o by lia)
   lia
   simp_all [kr]
   rw[if_neg c];grind
  have:=KJ ws (done++[o]) (kH w n o) a.1 a.2
  cbv
def Ep{w:Wy}(h:w≠(0,0)):0<tn w (Z0 w ws)/\∀o∈ws,0<tn w o->tn o (Z0 w ws)<=0:=by calc KJ ws [] (S9 w) (KW h) 52
def Xm(w:Wy)(ws:List Wy):Wy:=(w.1+(Z0 w ws).1,w.2+(Z0 w ws).2)
noncomputable def R8(h:Tr)(p:Dt):Wy:=(h.1*p.1 - h.2.1,h.1*p.2.1 - h.2.2)
def Yu(h:Tr)(ps:List Dt):List Wy:=(ps.map (R8 h)).filter λw=>decide (w≠(0,0))
def To(h:Tr)(ps:List Dt):List Wy:=Yu h ps++(Yu h ps).map SQ
def vZ{w:Wy}(a:w∈Yu h ps):w≠(0,0):=by
 have:=(Yh.mp a).2
 lia
def Ny{w:Wy}(h:w≠(0,0)):SQ w≠(0,0):=λe=>h (by unfold SQ at e;grind)
def eV{w:Wy}(a:w∈To h ps):w≠(0,0):=by
 obtain z|z:=S7.mp a;calc vZ z;let⟨v,hv,rfl⟩:=SG.mp z;calc Ny (vZ hv)
def Nx(w:Wy):SQ (SQ w)=w:=by ext SQ;lia
theorem ni{ps:List Dt}{p:Dt}(b:p∈ps)(a:R8 h p≠(0,0)):R8 h p∈To h ps/\SQ (R8 h p)∈To h ps:=by have:R8 h p∈Yu h ps:=Yh.mpr 72;calc⟨Xe _ this,VA _ 72⟩
def LN{w:Wy}{p:Dt}(c:w∈To h ps)(d:p∈ps)(a:0<=tn (Xm w (To h ps)) (R8 h p)):0<=tn w (R8 h p):=by
 let⟨f,b⟩:=Ep (ws:=To h ps) (eV c);unfold Xm at a;rw[HI]at a;by_cases z:0<=tn w (R8 h p);calc z;let a:R8 h p≠(0,0):=λe=>by rw[e]at z;unfold tn at z;simp at z
 let c:=(ni d a).2;let a:=b _ c (by rw[QF];lia);rw[kU]at a;have:=bQ (Z0 w (To h ps)) (R8 h p)
 lia
def U0(g:Tr)(ps:List Dt):Int:=(ps.map λp=>if 0<=gv g.1 g.2.1 g.2.2 p then p.2.2.2 else 0).sum
def Ya(h:Tr)(f:Wy):Tr:=(-((S9 f).1*h.2.1+(S9 f).2*h.2.2),(S9 f).1*h.1,(S9 f).2*h.1)
def KG(h:Tr)(f:Wy)(p:Dt):gv (Ya h f).1 (Ya h f).2.1 (Ya h f).2.2 p=tn f (R8 h p):=by ext gv Ya S9 tn R8;grind
def EK{ps:List Dt} [DecidablePred P] [DecidablePred Q]:(∀p∈ps,0<=p.2.2.2)->(∀p∈ps,P p->Q p)->(ps.map λp=>if P p then p.2.2.2 else 0).sum<=(ps.map λp=>if Q p then p.2.2.2 else 0).sum:=by
 induction ps with
 |nil=>cbv
 |cons p ps ih =>
  intro c b;rw[Vq,Vq,zCv,zCv];let i:=ih (λq a=>c q (by simp[a])) λq a=>b q (by simp[a])
  grind
def IsL(h:Tr)(ps:List Dt)(g:Tr):Prop:=(To h ps=[]/\g=(-(1*h.2.1+0*h.2.2),1*h.1,0*h.1)) ∨
 ∃ (i:Nat) (w:Wy),(To h ps)[i]?=some w/\g=Ya h (Xm w (To h ps))/\∀(j:Nat) (v:Wy),(To h ps)[j]?=some v->U0 g ps<=U0 (Ya h (Xm v (To h ps))) ps/\(j<i->U0 g ps<U0 (Ya h (Xm v (To h ps))) ps)
def IsL.on(a:IsL h ps g):g.1*h.1+g.2.1*h.2.1+g.2.2*h.2.2=0:=by
 rcases a with⟨_,rfl⟩| ⟨i,w,_,rfl,_⟩;grind;ext Ya;grind
def IsL.ne{h:Tr}(hh:0<h.1)(a:IsL h ps g):¬(g.2.1=0/\g.2.2=0):=by
 rcases a with⟨_,rfl⟩| ⟨i,w,c,rfl,_⟩
 lia
 ·intro ⟨a,d⟩;let b:=UX c;let⟨c,_⟩:=Ep (ws:=To h ps) (eV b);unfold Ya S9 at a d;let b:(Xm w (To h ps)).2=0:=by
   obtain z|z:=VN.mp a
   all_goals lia
  let a:(Xm w (To h ps)).1=0:=by
   obtain z|z:=VN.mp d
   all_goals cbv
  unfold Xm at b a;dsimp only at b a;let e:tn w (Z0 w (To h ps))=tn w (w.1+(Z0 w (To h ps)).1,w.2+(Z0 w (To h ps)).2):=by ext tn;grind
  rw[e,b,a]at c;unfold tn at c;simp at c
structure HB(h:Tr):Prop where
 pos:0<h.1
 a:Bd 130 h.1
 b:Bd 130 h.2.1
 c:Bd 130 h.2.2
structure WBh(w:Wy):Prop where
 a:Bd 191 w.1
 b:Bd 191 w.2
def cmb(b:Bd m x)(a:Bd n y)(d:m<=100000:=by decide)(c:n<=100000:=by decide):CM x y:=.inr (.inr ⟨b.mono d,a.mono c⟩)
def WBh.ar(H:HB h)(G:GD p):WBh (R8 h p):=⟨(H.a.mul G.x).sub (H.b.mono 29),(H.a.mul G.y).sub (H.c.mono 29)⟩
def HJ(w n a:Wy):tn n a*Rp w w=tn n w*Rp w a+Rp n w*tn w a:=by ext tn Rp;grind
def lh{w:Wy}(b:w≠(0,0))(h:tn w a=0):(0<Rp w a->0<tn w n->tn n a<0)/\(Rp w a<0->0<tn w n->0<tn n a)/\(0<Rp w a->tn w n<0->0<tn n a)/\(Rp w a<0->tn w n<0->tn n a<0):=by let e:=HJ w n a;rw[h,XI,VX]at e;let p:=gH b;let q:=bQ n w;calc⟨λb c=>?_,λb c=>?_,λb c=>?_,λb c=>?_⟩;have:=XS (show tn n w<0 by lia) b;by_cases z:tn n a<0;calc z;have:=Tx (show 0<=tn n a by lia) (Tc p);lia;have:=zBR (show tn n w<0 by lia) b;by_cases z:0<tn n a;calc z;have:=zA8 (show tn n a<=0 by lia) (Tc p);lia;have:=Wi (show 0<tn n w by lia) b;by_cases z:0<tn n a;calc z;have:=zA8 (show tn n a<=0 by lia) (Tc p);lia;have:=XF (show 0<tn n w by lia) b;by_cases z:tn n a<0;calc z;have:=Tx (show 0<=tn n a by lia) (Tc p);lia
def AV{w a:Wy}(b:w≠(0,0))(c:a≠(0,0))(h:tn w a=0):Rp w a≠0:=λz=>by
 let e:=HJ w (S9 a) a;rw[h,z,XI,XI,VX]at e;let p:=gH b;let q:=KW c;let r:=bQ (S9 a) a;obtain y|y:=VN.mp e<;>lia
def aL(v a:Wy):Prop:=0<tn v a
def aR(v a:Wy):Prop:=tn v a<0
def aB(v a:Wy):Prop:=tn v a=0/\Rp v a<0
def aA(v a:Wy):Prop:=tn v a=0/\¬Rp v a<0/\a≠(0,0)
instance (v a:Wy):Decidable (aL v a):=inferInstanceAs (Decidable (0<tn v a))
instance (v a:Wy):Decidable (aR v a):=inferInstanceAs (Decidable (tn v a<0))
instance (v a:Wy):Decidable (aB v a):=inferInstanceAs (Decidable (tn v a=0/\Rp v a<0))
instance (v a:Wy):Decidable (aA v a):=inferInstanceAs (Decidable (tn v a=0/\¬Rp v a<0/\a≠(0,0)))
def Gb{w:Wy}{p:Dt}(a:w∈To h ps)(c:p∈ps):0<=tn (Xm w (To h ps)) (R8 h p)↔R8 h p=(0,0)∨aL w (R8 h p)∨aB w (R8 h p):=by
 let⟨d,j⟩:=Ep (ws:=To h ps) (eV a);let b:=LN a c;by_cases z:R8 h p=(0,0);rw[z];constructor
 cbv
 ext tn;simp;let e:=(ni c z).1;unfold Xm at b ⊢;rw[HI]at b ⊢;let k:=bQ (Z0 w (To h ps)) (R8 h p);constructor;intro q;let g:=b q;by_cases y:0<tn w (R8 h p);calc .inr (.inl y);let b:tn w (R8 h p)=0:=35
 let ps:=lh (n:=Z0 w (To h ps)) (eV a) b;let i:=AV (eV a) z b;refine .inr (.inr ⟨b,?_⟩)
 lia
 rintro(y|y|⟨c,b⟩)
 cbv
 let f:0<tn w (R8 h p):=y;grind;have:=(lh (n:=Z0 w (To h ps)) (eV a) c).2.1 b d
 lia
def sm(P:Wy->Prop) [DecidablePred P] (h:Tr)(ps:List Dt):Int:=(ps.map λp=>if P (R8 h p)then p.2.2.2 else 0).sum
def ze [DecidablePred P] [DecidablePred Q] {ps:List Dt} (b:∀p∈ps,0<=p.2.2.2) (a:∀p∈ps,P (R8 h p)->Q (R8 h p)):sm P h ps<=sm Q h ps:=EK b a
def kP [DecidablePred P] [DecidablePred Q] {ps:List Dt} (a:∀p∈ps,P (R8 h p)↔Q (R8 h p)):sm P h ps=sm Q h ps:=by
 ext sm;congr 1
 cbv
def zf [DecidablePred P] [DecidablePred Q] [DecidablePred R] {ps:List Dt} (e:∀p∈ps,R (R8 h p)↔P (R8 h p)∨Q (R8 h p)) (d:∀p∈ps,¬(P (R8 h p)/\Q (R8 h p))):sm R h ps=sm P h ps+sm Q h ps:=by
 induction ps with
 |nil=>rfl
 |cons p ps ih =>
  have:=ih 46 46;unfold sm at this ⊢;rw[Vq,Vq,Vq,zCv,zCv,zCv,this];grind
def aZ(a:Wy):Prop:=a=(0,0)
instance (a:Wy):Decidable (aZ a):=inferInstanceAs (Decidable (a=(0,0)))
theorem y4(h:aL v a):a≠(0,0):=λz=>by subst z;unfold aL tn at h;simp at h
def uB(h:aB v a):a≠(0,0):=λz=>by have:=h.2;unfold Rp at this;cbv
def p9{w:Wy}(c:w∈To h ps):U0 (Ya h (Xm w (To h ps))) ps=sm aZ h ps+(sm (aL w) h ps+sm (aB w) h ps):=by
 let e:U0 (Ya h (Xm w (To h ps))) ps=sm (λa=>0<=tn (Xm w (To h ps)) a) h ps:=by
  ext U0 sm
  simp_all [KG]
 let d:sm (λa=>aL w a∨aB w a) h ps=sm (aL w) h ps+sm (aB w) h ps:=zf 35 λp _ ⟨b,a⟩=>by
  have:=a.1;have:0<tn w (R8 h p):=b
  lia
 rw[e,<- d];refine zf (λp d=>Gb c d) λp _ c=>?_
 let⟨b,a⟩:=c;obtain a|a:=a;calc y4 a b;calc uB a b
theorem vA(w:Wy):∀ws:List Wy,(∃o∈ws,tn w o<0)->∃n∈ws,tn w n<0/\∀o∈ws,tn w o<0->tn n o<=0
 |[],h=>46
 |o::ws,h=>by
  by_cases t:∃q∈ws,tn w q<0;let⟨n,f,d,e⟩:=vA w ws t;by_cases c:tn w o<0/\0<tn n o;calc⟨o,52,c.1,λp b a=>?_⟩;obtain z|z:=S8.mp b
  simp_all [kr]
  let g:=e p z a;let k:=Dg w o n p;let c:tn o n<0:=by grind [bQ]
  let j:0<=tn w o*tn n p:=zBb 35 g;let i:0<tn w p*tn o n:=zBR a c;by_cases y:tn o p<=0;calc y;have:=XS d (show 0<tn o p by lia)
  lia
  calc⟨n,by simp[f],d,λp b a=>?_⟩;grind;let⟨q,c,a⟩:=h;obtain z|z:=S8.mp c;subst z;calc⟨q,52,a,λp b c=>?_⟩;obtain y|y:=S8.mp b
  simp_all [kr]
  calc absurd ⟨p,y,c⟩ t;calc absurd ⟨q,z,a⟩ t
def y6{w:Wy}(a:w∈To h ps):SQ w∈To h ps:=by
 obtain z|z:=S7.mp a;calc VA _ 72;let⟨v,hv,rfl⟩:=SG.mp z;rw[Nx];calc Xe _ hv
theorem uN(a b:Wy):Rp (SQ a) b=- Rp a b:=by ext Rp SQ;grind
def sD{ps:List Dt}{w:Wy}(g:∀p∈ps,0<=p.2.2.2)(f:w∈To h ps):∃v∈To h ps,U0 (Ya h (Xm v (To h ps))) ps<=sm aZ h ps+(sm (aL w) h ps+sm (aA w) h ps):=by
 let l:=eV f;let i:sm (λa=>aL w a∨aA w a) h ps=sm (aL w) h ps+sm (aA w) h ps:=zf 35 λp _ ⟨c,b⟩=>by
  have:=b.1;have:0<tn w (R8 h p):=c
  lia
 by_cases t:∃o∈To h ps,tn w o<0;let⟨n,d,m,e⟩:=vA w _ t;calc⟨n,d,?_⟩;let j:=eV d;rw[p9 d,<- i];let d:sm (λa=>aL n a∨aB n a) h ps=sm (aL n) h ps+sm (aB n) h ps:=zf 35 λp _ ⟨c,b⟩=>by
  have:=b.1;have:0<tn n (R8 h p):=c
  lia
 rw[<- d];calc Int.add_le_add_left (ze g λp i q=>?_) _;let a:R8 h p≠(0,0):=q.elim y4 uB;let d:=(ni i a).1;by_cases k:0<tn w (R8 h p);calc .inl k;by_cases k:tn w (R8 h p)<0;let r:=e _ d k;obtain q|⟨d,e⟩:=q;have:0<tn n (R8 h p):=q;lia
 -- parallel to n and against it,yet on the same side of w
 let k:=bQ n w;have:=(lh (n:=w) j d).2.1 e 35
 lia
 let j:tn w (R8 h p)=0:=35
 calc .inr ⟨j,λz=>?_,a⟩;have:=(lh (n:=n) l j).2.2.2 z m;obtain q|⟨d,_⟩:=q;have:0<tn n (R8 h p):=q;lia
 lia
 calc⟨SQ w,y6 f,?_⟩;rw[p9 (y6 f)];let c:sm (aL (SQ w)) h ps<=sm (aL w) h ps:=ze g λp i q=>by let a:0<tn (SQ w) (R8 h p):=q;rw[kU]at a;grind [ni,y4]
 let b:sm (aB (SQ w)) h ps<=sm (aA w) h ps:=ze g λp i q=>by let⟨d,e⟩:=id q;rw[kU]at d;rw[uN]at e;exact⟨35,35,uB q⟩
 lia
def Z1(h:Tr)(ps:List Dt)(v:Wy):Int:=min (sm (aA v) h ps) (sm (aB v) h ps)+min (sm (aL v) h ps) (sm (aR v) h ps)
def PU(h:aA v a):a≠(0,0):=h.2.2
def PV(h:aR v a):a≠(0,0):=λz=>by subst z;unfold aR tn at h;simp at h
def IA(v a:Wy):aL (SQ v) a↔aR v a:=by ext aL aR;rw[kU];lia
def Nz{v:Wy}(hv:v≠(0,0)):aB (SQ v) a↔aA v a:=by constructor;intro q;let c:=uB q;let⟨a,b⟩:=q;rw[kU]at a;rw[uN]at b;calc⟨35,35,c⟩;rintro⟨a,b,b⟩;have:=AV hv b a;calc⟨by grind [kU],by grind [uN]⟩
def QW{v:Wy}(hv:v≠(0,0))(q:aA (SQ v) a):aB v a:=by
 let⟨d,c,b⟩:=q;rw[kU]at d;rw[uN]at c;let e:tn v a=0:=by omega
 have:=AV hv b e;calc⟨e,by omega⟩
def IsL.le{ps:List Dt}(b:∀p∈ps,0<=p.2.2.2)(a:IsL h ps g){v:Wy}(hv:v∈To h ps):U0 g ps<=U0 (Ya h (Xm v (To h ps))) ps:=by
 rcases a with⟨z,_⟩| ⟨i,w,f,e,a⟩
 cbv
 let⟨j,c,d⟩:=XT hv;calc(a j v 46).1
def IsL.lt_{ps:List Dt}(d:∀p∈ps,0<=p.2.2.2)(a:IsL h ps g){v:Wy}(hv:v∈Yu h ps):U0 g ps<=sm aZ h ps+Z1 h ps v:=by
 let b:v∈To h ps:=Xe _ hv;let c:=y6 b;let e:=eV b;let f:=a.le d b;rw[p9 b]at f;let f:=a.le d c;rw[p9 c,kP (P:=aL (SQ v)) (Q:=aR v) (λp _=>IA v _),kP (P:=aB (SQ v)) (Q:=aA v) (λp _=>Nz e)]at f;let⟨u,f,g⟩:=sD d b;let i:=zDP (a.le d f) g;let⟨t,f,g⟩:=sD d c;let b:=zDP (a.le d f) g;rw[kP (P:=aL (SQ v)) (Q:=aR v) (λp _=>IA v _)]at b;let j:sm (aA (SQ v)) h ps<=sm (aB v) h ps:=ze d λp _ q=>QW e q
 ext Z1
 lia
def IsL.eq_{ps:List Dt}(b:∀p∈ps,0<=p.2.2.2)(a:IsL h ps g)(f:Yu h ps ≠ []):∃v∈Yu h ps,U0 g ps=sm aZ h ps+Z1 h ps v:=by
 let c:=a;rcases a with⟨z,_⟩| ⟨i,w,e,d,j⟩;unfold To at z
 cbv
 let a:=UX e;let e:=p9 a;rw[<- d]at e;obtain z|z:=S7.mp a;calc⟨w,z,?_⟩;have:=c.lt_ b z;unfold Z1 at this ⊢
 lia
 let⟨v,hv,rfl⟩:=SG.mp z;calc⟨v,hv,?_⟩;have:=c.lt_ b hv;rw[kP (P:=aL (SQ v)) (Q:=aR v) (λp _=>IA v _),kP (P:=aB (SQ v)) (Q:=aA v) (λp _=>Nz (vZ hv))]at e;unfold Z1 at this ⊢
 lia
def IsL.none_(a:IsL h ps g)(d:Yu h ps=[]):U0 g ps=sm aZ h ps:=by
 let c:∀p∈ps,R8 h p=(0,0):=λp b=>by by_cases z:R8 h p=(0,0);calc z;have:R8 h p∈Yu h ps:=Yh.mpr 72;grind
 rcases a with⟨_,rfl⟩| ⟨i,w,a,_⟩;ext U0 sm;congr 1;apply zC8;intro p b;let e:=c p b;rw[Rr (show aZ (R8 h p)from e),Rr];unfold R8 at e;ext gv
 lia
 unfold To at a
 cbv
def kj(P:Wy->Prop) [DecidablePred P] (h:Tr)(ps:List Dt)(p:Dt):sm P h (ps++[p])=sm P h ps+if P (R8 h p)then p.2.2.2 else 0:=by
 ext sm
 cbv
def Wa(h:Tr)(ps:List Dt):List Dt:=ps.filter λp=>decide (R8 h p≠(0,0))
theorem vO [DecidablePred P] (b:∀a,P a->a≠(0,0)) (h:Tr):∀ps:List Dt,sm P h (Wa h ps)=sm P h ps
 |[]=>rfl
 |p::ps=>by
  let ih:=vO b h ps;unfold sm Wa at ih ⊢;by_cases z:R8 h p=(0,0);grind
  cbv
def Er(h:Tr)(ps:List Dt):(Wa h ps).map (R8 h)=Yu h ps:=by ext Wa Yu;rw[List.filter_map];rfl
def IL{ps:List Dt}{m:Int}(b:∀p∈ps,0<=p.2.2.2)(a:IsL h ps g)(c:∃v∈Yu h ps,m=Z1 h ps v)(f:∀v∈Yu h ps,m<=Z1 h ps v):sm aZ h ps+m=U0 g ps:=by let⟨v,hv,e⟩:=c;let⟨u,d,i⟩:=a.eq_ b 72;have:=a.lt_ b hv;grind
def Yv(h:Tr)(p:Dt):D:=.tup [.int (R8 h p).1,.int (R8 h p).2,.int p.2.2.2]
def Jy(ps:List Dt)(z:R8 h p=(0,0)):Wa h (ps++[p])=Wa h ps:=by
 ext Wa
 cbv
def Jz(ps:List Dt)(z:R8 h p≠(0,0)):Wa h (ps++[p])=Wa h ps++[p]:=by
 ext Wa
 cbv
def GQ(h:Tr)(ps:List Dt):#[Wa h ps]<=#[ps]:=List.length_filter_le _ _
def gd(g:Tr)(p:Dt):Int:=gv g.1 g.2.1 g.2.2 p
theorem cW(g:Tr)(p:Dt):gd g p=g.1+g.2.1*p.1+g.2.2*p.2.1:=rfl
def KC(g:Tr)(p:Dt):Rl g (sT (TH p))=gd g p:=by ext Rl sT TH gd gv;grind
def VC(g:Tr):Tr:=(-g.1,-g.2.1,-g.2.2)
def y7(g:Tr)(p:Dt):gd (VC g) p=- gd g p:=by ext gd VC gv;grind
def df(d p:Dt):Sp:=(p.1 - d.1,p.2.1 - d.2.1)
theorem gh{f g:Dt->Bool}:∀{ps:List Dt},(∀p∈ps,0<=p.2.2.2)->(∀p∈ps,f p=true->g p=true)->wq f ps<=wq g ps
 |[],_,_=>WS _
 |p::r,b,h=>by
  let i:=gh (λq a=>b q (U1 _ a)) λq a=>h q 46
  let d:=h p 52;let c:=b p 52;ext wq
  lia
theorem Fd:∀ps:List Dt,wq (λ_=>false) ps=0
 |[]=>rfl
 |_::r=>(zDg _).trans (Fd r)
def K4{ps:List Dt}(a:∀p∈ps,0<=p.2.2.2):0<=wq f ps:=by
 have:=gh (f:=λ_=>false) (g:=f) a 35
 simp_all [Fd]
theorem K3:∀{ps:List Dt},0<wq f ps->∃p∈ps,f p=true
 |[],h=>absurd (show(0:Int)<0 from h) 29
 |p::r,h=>by
  by_cases c:f p=true;grind;unfold wq at h
  simp_all [zDg,K3]
theorem AK{c:Type}(f:c->Int)(P:c->Prop):∀{l:List c},(∃a∈l,P a)->∃a∈l,P a/\∀b∈l,P b->f a<=f b
 |[],h=>46
 |x::r,h=>by by_cases c:∃a∈r,P a;let⟨a,g,d,e⟩:=AK f P c;grind;grind
def quant{ps:List Dt}(h:∀p∈ps,0<=p.2.2.2){w:Int}(a:0<w)(i:w<=wq (λp=>decide (gd g p<0)) ps) :
  ∃ d∈ps,gd g d<0/\w<=wq (λp=>decide (gd g p<=gd g d)) ps/\wq (λp=>decide (gd g p<gd g d)) ps<w:=by
 let b:∀c:Int,w<=wq (λp=>decide (gd g p<c)) ps->∃d∈ps,gd g d<c/\w<=wq (λp=>decide (gd g p<=gd g d)) ps:=λc e=>by let⟨l,j,t⟩:=K3 (Int.lt_of_lt_of_le a e);let⟨d,a,k,f⟩:=AK (λp=>- gd g p) (λp=>gd g p<c) ⟨l,j,46⟩;calc⟨d,a,k,zDP e (gh h λp s q=>?_)⟩;grind
 let⟨j,c,n,h⟩:=b 0 i;let⟨d,a,e,f⟩:=AK (gd g) (λd=>w<=wq (λp=>decide (gd g p<=gd g d)) ps) ⟨j,c,h⟩;calc⟨d,a,72,e,VO.mp λz=>?_⟩;let⟨u,o,m,r⟩:=b _ z;grind
structure Cd(L:yau)(d:Dt)(m:Sp)(r:Tr):Prop where
 mem:r∈L∨VC r∈L
 ex:∃k:Int,0<k/\r.2.1*k=m.1/\r.2.2*k=m.2/\gd r d=0
def Cd.at_(c:Cd L d m r):∃k:Int,0<k/\(∀p:Dt,gd r p*k=Rp m (df d p))/\∀h:Tr,Rl r h*k=Rp m (h.2.1 - h.1*d.1,h.2.2 - h.1*d.2.1):=by
 let⟨k,e,b,a,f⟩:=c.ex;rw[cW]at f;let c:r.1=- (r.2.1*d.1+r.2.2*d.2.1):=35
 calc⟨k,e,λp=>?_,λh=>?_⟩;rw[cW,c];ext Rp df;rw[<- b,<- a];grind;ext Rl Rp;rw[c,<- b,<- a];grind
def Cd.neg(c:Cd L d m r):Cd L d (-m.1,-m.2) (VC r):=by let⟨k,a,d,b,e⟩:=c.ex;calc⟨c.mem.elim (λz=>.inr ?_) .inl,k,a,?_,?_,by simp_all [y7]⟩;show(- -r.1,- -r.2.1,- -r.2.2)∈L;grind;show -r.2.1*k=-m.1;rw[U7,d];show -r.2.2*k=-m.2;rw[U7,b]
def wN(h:tn v m=0):Rp v v*Rp m u=Rp v m*Rp v u:=by
 have:Rp v v*Rp m u=Rp v m*Rp v u+tn v m*tn v u:=by ext Rp tn;grind
 cbv
def vM{a b x y:Int}(d:0<a)(c:0<b)(e:a*x=b*y):(0<=y->0<=x)/\(y<=0->x<=0)/\(y<0->x<0):=by
 calc⟨λh=>?_,λh=>?_,λh=>?_⟩;have:=Tx (Tc c) h;exact XM.mp λz=>by have:=XF d z;lia
 have:=zCK (Tc c) h;exact XM.mp λz=>by have:=Wi d z;lia
 have:=XF c h;calc VO.mp λz=>by have:=Tx (Tc d) z;lia
def p4(v u:Sp):tn v (S9 u)=Rp v u:=by ext tn S9 Rp;grind
def yb(t:Sp)(V:yat)(h:∃v∈V,tn t v<0):∃v∈V,tn t v<0/\∀w∈V,tn t w<0->tn v w<=0:=by
 let e:∀a b:Sp,tn (a.1,-a.2) (b.1,-b.2)=- tn a b:=λa b=>by ext tn;grind
 let⟨v,hv,i⟩:=h;let⟨u,f,c,b⟩:=nL (t.1,-t.2) (V.map λv=>(v.1,-v.2)) ⟨_,SG.mpr ⟨v,hv,rfl⟩,46⟩;let⟨d,a,rfl⟩:=SG.mp f;rw[e]at c;calc⟨d,a,35,λw a g=>?_⟩;have:=b _ (SG.mpr ⟨w,a,rfl⟩) 46
 cbv
def Pm{ps:List Dt}(i:∀p∈ps,0<=p.2.2.2)(j:∀d∈ps,(∃r,Cd L d (1,0) r)/\(∃r,Cd L d (0,1) r)/\∀p∈ps,df d p≠(0,0)->∃r,Cd L d (S9 (df d p)) r)
  {h:Tr} (k:vc g≠(0,0)) (h0:0<h.1) (c:Rl g h=0) {w:Int} (a:0<w) (e:w<=wq (λp=>decide (gd g p<0)) ps) :
  ∃ r,(r∈L∨VC r∈L)/\wq (λp=>decide (0<gd r p)) ps<w/\w<=wq (λp=>decide (0<=gd r p)) ps/\Rl r h<0:=by
 let⟨d,b,f,A,u⟩:=quant i a e;let⟨⟨t,cx⟩,⟨o,n⟩,M⟩:=j d b;generalize hv:((-g.2.1,-g.2.2):Sp)=v;let b:v.1=-g.2.1:=by rw[<- hv]
 let a:v.2=-g.2.2:=by rw[<- hv]
 let j:v≠(0,0):=λz=>k (by rw[z]at b a;ext vc;rw[show g.2.1=0 by have:(0:Int)=-g.2.1:=b;lia,show g.2.2=0 by have:(0:Int)=-g.2.2:=a;lia])
 let H:=sq_pos j;let l:∀p:Dt,Rp v (df d p)=gd g d - gd g p:=λp=>by rw[cW,cW];ext Rp df;rw[b,a];grind
 let J:Rp v (h.2.1 - h.1*d.1,h.2.2 - h.1*d.2.1)<0:=by
  let e:Rp v (h.2.1 - h.1*d.1,h.2.2 - h.1*d.2.1)=h.1*gd g d - Rl g h:=by rw[cW];ext Rp Rl;rw[b,a];grind
  rw[e,c,Int.sub_zero];exact XF h0 f
 generalize hq:((h.2.1 - h.1*d.1,h.2.2 - h.1*d.2.1):Sp)=q at J;let s:∀(m:Sp) (r:Tr),Cd L d m r->(∀p∈ps,(0<=Rp v (df d p)->0<=Rp m (df d p))/\(Rp v (df d p)<=0->Rp m (df d p)<=0))->Rp m q<0 →
   ∃ r,(r∈L∨VC r∈L)/\wq (λp=>decide (0<gd r p)) ps<w/\w<=wq (λp=>decide (0<=gd r p)) ps/\Rl r h<0:=λm r c b f=>by
  let⟨k,a,O,N⟩:=c.at_;let C:∀p,(0<=Rp m (df d p)->0<=gd r p)/\(Rp m (df d p)<=0->gd r p<=0):=λp=>by have:=vM (x:=gd r p) (y:=Rp m (df d p)) a (show(0:Int)<1 by decide) (by rw[VF,O p,Y0]);exact⟨this.1,this.2.1⟩
  let I:=(vM (x:=Rl r h) (y:=Rp m q) a (show(0:Int)<1 by decide) (by rw[VF,N h,Y0,hq])).2.2 f;calc⟨r,c.mem,Int.lt_of_le_of_lt (gh i λp f z=>?_) u,zDP A (gh i λp f z=>?_),I⟩;let a:=Wh z;calc U6 (VO.mp λy=>?_);have:=(C p).2 ((b p f).2 (by rw[l p];lia))
  lia
  let a:=Wh z;exact U6 ((C p).1 ((b p f).1 (by rw[l p];lia)))
 generalize hV:([(1,0),(-1,0),(0,1),(0,-1)]++(ps.filter λp=>decide (df d p≠(0,0))).flatMap λp=>[S9 (df d p),SQ (S9 (df d p))]:yat)=V;let G:(1,0)∈V:=by rw[<- hV];simp
 let l:(-1,0)∈V:=by rw[<- hV];simp
 let w:(0,1)∈V:=by rw[<- hV];simp
 let h:(0,-1)∈V:=by rw[<- hV];simp
 let B:∀p∈ps,df d p≠(0,0)->S9 (df d p)∈V/\SQ (S9 (df d p))∈V:=λp f b=>by
  let m:p∈ps.filter λp=>decide (df d p≠(0,0)):=Yh.mpr ⟨f,U6 b⟩
  rw[<- hV];exact⟨VA _ (zCQ.mpr ⟨p,m,52⟩),VA _ (zCQ.mpr ⟨p,m,52⟩)⟩
 let E:∀m∈V,(∃r,Cd L d m r)/\SQ m∈V:=λm f=>by
  let a:=f;rw[<- hV]at a;obtain z|z:=S7.mp a;simp only[S8,zCG,or_false]at z;obtain rfl|rfl|rfl|rfl:=z;calc⟨⟨t,cx⟩,l⟩;calc⟨⟨_,cx.neg⟩,G⟩;calc⟨⟨o,n⟩,h⟩;calc⟨⟨_,n.neg⟩,w⟩;let⟨p,i,x⟩:=zCQ.mp z;let⟨a,g⟩:=Yh.mp i;let b:=Wh g;let⟨r,c⟩:=M p a b;let⟨o,n⟩:=B p a b;simp only[S8,zCG,or_false]at x;obtain rfl|rfl:=x;calc⟨⟨r,c⟩,n⟩;calc⟨⟨_,c.neg⟩,?_⟩;let e:SQ (SQ (S9 (df d p)))=S9 (df d p):=by ext SQ S9;simp
  rw[e];exact o
 by_cases A:∃m∈V,tn v m=0/\0<Rp v m;let⟨m,f,t,a⟩:=A;let⟨⟨r,c⟩,_⟩:=E m f;calc s m r c (λp _=>?_) ?_;have:=vM H a (wN (u:=df d p) t);calc⟨this.1,this.2.1⟩;calc(vM H a (wN (u:=q) t)).2.2 J;let g:∀m∈V,tn v m=0->¬0<Rp v m:=λm f t a=>A ⟨m,f,t,a⟩
 let M:tn v (1,0)=-v.2:=by ext tn;grind
 let A:tn v (0,1)=v.1:=by ext tn;grind
 let dx:Rp v (1,0)=v.1:=by ext Rp;grind
 let L:Rp v (-1,0)=-v.1:=by ext Rp;grind
 let T:Rp v (0,1)=v.2:=by ext Rp;grind
 let k:Rp v (0,-1)=-v.2:=by ext Rp;grind
 let r:tn v (-1,0)=v.2:=by ext tn;grind
 let i:tn v (0,-1)=-v.1:=by ext tn;grind
 let Y:v.1≠0:=λz=>by let a:=g _ w (by rw[A];calc z);let b:=g _ h (by rw[i,z];rfl);rw[T]at a;rw[k]at b;exact j (Prod.ext z (show v.2=0 by lia))
 let U:v.2≠0:=λz=>by let a:=g _ G (by rw[M,z];rfl);let b:=g _ l (by rw[r];calc z);rw[dx]at a;rw[L]at b;exact j (Prod.ext (show v.1=0 by lia) z)
 let j:∀p∈ps,Rp v (df d p)=0->df d p=(0,0):=λp f z=>by
  by_cases c:df d p=(0,0);calc c;exfalso;let⟨o,n⟩:=B p f c;let k:tn v (S9 (df d p))=0:=by rw[p4];exact z
  let L:tn v (SQ (S9 (df d p)))=0:=by
   have:tn v (SQ (S9 (df d p)))=- tn v (S9 (df d p)):=by ext tn SQ;grind
   rw[this,k];rfl
  let a:=g _ o k;let b:=g _ n L;let e:Rp v (SQ (S9 (df d p)))=- Rp v (S9 (df d p)):=by ext Rp SQ;grind
  rw[e]at b;let e:Rp v (S9 (df d p))=0:=35
  let L:=wN (v:=v) (m:=S9 (df d p)) (u:=S9 (df d p)) k;rw[e,YZ]at L;let k:S9 (df d p)≠(0,0):=λy=>c (by unfold S9 at y;let g:=congrArg Prod.fst y;let e:=congrArg Prod.snd y;dsimp only at g e;calc Prod.ext e (show(df d p).2=0 by lia))
  have:=Wi H (sq_pos k)
  lia
 let⟨e,m2,T,u⟩:=nL v V (by by_cases c:0<v.1;calc⟨_,w,by rw[A];calc c⟩;calc⟨_,h,by rw[i];lia⟩)
 let⟨g,m1,a1,H⟩:=yb v V (by by_cases c:0<v.1;calc⟨_,h,by rw[i];lia⟩;calc⟨_,w,by rw[A];lia⟩)
 let k:∀a b:Sp,tn a (SQ b)=- tn a b:=λa b=>by ext tn SQ;grind
 let I:∀p∈ps,(0<=Rp v (df d p)->0<=Rp e (df d p))/\(Rp v (df d p)<=0->Rp e (df d p)<=0):=λp f=>by
  by_cases c:df d p=(0,0);rw[c];ext Rp;simp;let⟨o,n⟩:=B p f c;let m:=u _ o;let b:=u _ n;rw[k,k]at b;rw[p4,p4]at m b;let nz:Rp v (df d p)≠0:=λz=>c (j p f z)
  exact⟨λz=>m 35,λz=>by have:=b 35;lia⟩
 let C:∀p∈ps,(0<=Rp v (df d p)->0<=Rp g (df d p))/\(Rp v (df d p)<=0->Rp g (df d p)<=0):=λp f=>by
  by_cases c:df d p=(0,0);rw[c];ext Rp;simp;let⟨o,n⟩:=B p f c;let m:=H _ o;let b:=H _ n;rw[k,k]at b;rw[p4,p4]at m b;let nz:Rp v (df d p)≠0:=λz=>c (j p f z)
  exact⟨λz=>by have:=b 35;lia,λz=>m 35⟩
 let⟨⟨j,o⟩,_⟩:=E e m2;let⟨⟨n,p⟩,m⟩:=E g m1;let t12:0<=tn g e:=by
  have:=u _ m (by rw[k];lia);rw[k]at this;have:=bQ g e
  lia
 let b:∀a∈V,0<tn v a->tn g e=0->tn e a=0:=λa d f z=>by
  let h1:=u a d f;let f:=H _ (E a d).2 (by rw[k];lia);rw[k]at f;let d:tn v g*tn e a=tn v e*tn g a - tn v a*tn g e:=plk v g e a;rw[z,XI,Int.sub_zero]at d;let f:=Tx (Tc T) (show 0<=tn g a by lia);by_cases y:tn e a=0;calc y;let d:=XS a1 (show 0<tn e a by lia)
  lia
 let t:0<tn g e:=by
  by_cases z:tn g e=0;exfalso;let O:tn e (1,0)=-e.2:=by ext tn;grind
  let N:tn e (0,1)=e.1:=by ext tn;grind
  let L:tn e (-1,0)=e.2:=by ext tn;grind
  let e4:tn e (0,-1)=-e.1:=by ext tn;grind
  let x:e.2=0:=by
   by_cases c:0<v.2;have:=b _ l (by rw[r];calc c) z
   lia
   have:=b _ G (by rw[M];lia) z
   lia
  let a:e.1=0:=by
   by_cases c:0<v.1;have:=b _ w (by rw[A];calc c) z
   lia
   have:=b _ h (by rw[i];lia) z
   lia
  have:tn v e=0:=by ext tn;rw[a,x];simp
  lia
  lia
 let Q:tn g e*Rp v q=tn v e*Rp g q+- tn v g*Rp e q:=by ext tn Rp;grind
 by_cases c:Rp e q<0;calc s e j o I c;calc s g n p C (VO.mp λz=>?_);let f:=XF t J;let d:=Tx (Tc T) z;let x3:=Tx (show 0<=- tn v g by lia) (show 0<=Rp e q by lia)
 lia
noncomputable def axL(ps:List Dt):yau:=ps.map (λp=>(-p.1,1,0))++ps.map λp=>(-p.2.1,0,1)
abbrev WQ:=Tr×Int×Int
def cw(x:WQ):D:=.tup [RD x.1,.int x.2.1,.int x.2.2]
def JN(h:cw x=cw y):x=y:=by unfold cw at h;grind [Prod.ext,Dh]
def JO{xs ys:List WQ}(h:xs.map cw=ys.map cw):xs=ys:=gK JN h
theorem yD(x:WQ):aU (cw x)=cw x:=rfl
def Cj(xs:List WQ):bf (xs.map cw)=xs.map cw:=cI cw yD xs
def EI(ps:List Dt)(g:Tr):List WQ:=[(g,wl ps g 1,wl ps g 1+wl ps g 0),(VC g,wl ps g (-1),wl ps g (-1)+wl ps g 0)]
def bY(ps:List Dt)(zs:yau):List WQ:=zs.flatMap (EI ps)
noncomputable def dJ(xs:List WQ)(w:Int):yau:=(xs.filter λx=>decide (x.2.1<w/\w<=x.2.2)).map (·.1)
def aK(ps:List Dt):Int:=XQ (λ_=>true) ps
def mD(ps:List Dt):aK ps=wq (λ_=>true) ps:=by
 ext aK XQ
 induction ps with
 |nil=>rfl
 |cons p r ih=>ext wq;cbv
theorem KZ(c b a s:Int):∀ps:List Dt,w3 c b a s ps=wq (λp=>decide (sg (gv c b a p)=s)) ps
 |[]=>rfl
 |p::r=>by let ih:=KZ c b a s r;unfold w3 at ih ⊢;ext wq;grind
def rW(ps:List Dt)(g:Tr)(s:Int):wl ps g s=wq (λp=>decide (sg (gd g p)=s)) ps:=by ext wl wt;rw[Xn.mpr 46,KZ];rfl
theorem qY{f g k:Dt->Bool}:∀{ps:List Dt},(∀p∈ps,k p=(f p || g p))->(∀p∈ps,¬(f p=true/\g p=true))->wq f ps+wq g ps=wq k ps
 |[],_,_=>rfl
 |p::r,h,b=>by
  let ih:=qY (λq a=>h q 46) λq a=>b q (U1 _ a)
  let e:=h p 52;let n:=b p 52;ext wq
  lia
def Bz(g:Tr)(ps:List Dt):wq (λp=>decide (gd g p<0)) ps+wq (λp=>decide (0<=gd g p)) ps=aK ps:=by
 rw[mD];refine qY (λp _=>?_) 35
 lia
theorem Hy(a:Int):sg a=1↔0<a:=by ext sg;lia
theorem Hx(a:Int):sg a=0↔a=0:=by ext sg;lia
theorem Dd(a:Int):sg a=-1↔a<0:=by ext sg;lia
def PK(ps:List Dt)(g:Tr):wl ps g 1=wq (λp=>decide (0<gd g p)) ps:=by simp_all [rW,Hy]
def PL(ps:List Dt)(g:Tr):wl ps g (-1)=wq (λp=>decide (0<gd (VC g) p)) ps:=by simp_all [rW,y7,Dd]
def K0(ps:List Dt)(g:Tr):wl ps g 1+wl ps g 0=wq (λp=>decide (0<=gd g p)) ps:=by
 rw[rW,rW];refine qY (λp _=>?_) λp _=>?_
 grind [Hy,Hx]
 lia
def K1(ps:List Dt)(g:Tr):wl ps g (-1)+wl ps g 0=wq (λp=>decide (0<=gd (VC g) p)) ps:=by
 rw[rW,rW];refine qY (λp _=>?_) λp _=>?_
 rw[y7];grind [Dd,Hx]
 lia
theorem vf(g:Tr):VC (VC g)=g:=by ext VC;simp
theorem mQ{r:Tr}(hz:bO zs L):r∈dJ (bY ps zs) w↔(r∈L∨VC r∈L)/\wq (λp=>decide (0<gd r p)) ps<w/\w<=wq (λp=>decide (0<=gd r p)) ps:=by
 constructor;intro h;let⟨x,a,rfl⟩:=SG.mp h;let⟨d,c⟩:=Yh.mp a;let⟨g,b,a⟩:=zCQ.mp d;let XN:=Wh c;unfold EI at a;simp at a;obtain rfl|rfl:=a;calc⟨.inl ((hz.2 g).mp b),by simp_all [PK],by simp_all [K0]⟩;calc⟨.inr (by rw[vf];calc(hz.2 g).mp b),by simp_all [PL],by simp_all [K1]⟩;rintro⟨h|h,d,c⟩;calc SG.mpr ⟨(r,wl ps r 1,wl ps r 1+wl ps r 0),Yh.mpr ⟨zCQ.mpr ⟨r,(hz.2 r).mpr h,by ext EI;simp⟩,U6 ?_⟩,rfl⟩;rw[K0,PK]
 cbv
 calc SG.mpr ⟨(VC (VC r),wl ps (VC r) (-1),wl ps (VC r) (-1)+wl ps (VC r) 0),Yh.mpr ⟨zCQ.mpr ⟨VC r,(hz.2 _).mpr h,by ext EI;simp⟩,U6 ?_⟩,vf r⟩;rw[K1,PL,vf]
 cbv
def rM(w:Int):#[bY ps zs]=2*#[zs]/\#[dJ (bY ps zs) w]<=2*#[zs]:=by
 let e:#[bY ps zs]=2*#[zs]:=by
  ext bY
  induction zs with
  |nil=>rfl
  |cons g r ih=>rw[List.flatMap_cons,UQ,ih,Xo];show 2+_=_;lia
 ext dJ;grind
structure cY(ps:List Dt):Prop where
 gd:∀p∈ps,GD p
 bx:∀p∈ps,Bd 40 p.1/\Bd 40 p.2.1
 w:∀p∈ps,0<p.2.2.2
 le:#[ps]<=20
 ne:ps ≠ []
def cY.nn(D:cY ps):∀p∈ps,0<=p.2.2.2:=λp a=>Tc (D.w p a)
abbrev VD(ps:List Dt):yau:=wY ps++axL ps
def rH{ps:List Dt}(h:#[ps]<=20):#[VD ps]<=440:=by let b:=CN ps;let a:#[ps]*#[ps]<=20*20:=Nat.mul_le_mul h h;ext VD axL;grind
def Ej(F:LF g p q):∃m:Int,m≠0/\p.1*q.2.1 - q.1*p.2.1=m*g.1/\p.2.1 - q.2.1=m*g.2.1/\q.1 - p.1=m*g.2.2/\∀z,gd g z*m=tq p q z:=by let⟨m,b,a⟩:=F.ex;let e:=a (0,0,0,0);let d:=a (1,0,0,0);let c:=a (0,1,0,0);unfold gv tq at e d c;calc⟨m,b,?_,?_,?_,a⟩<;>grind
def LQ{p q:Dt}(b:Bd 40 p.1/\Bd 40 p.2.1)(a:Bd 40 q.1/\Bd 40 q.2.1)(e:GD p)(d:GD q)(c:TH p≠TH q):X8 40 (lnF p q)/\vc (lnF p q)≠(0,0):=by
 let F:=zb e d c;let⟨m,c,i,h,g,_⟩:=Ej F;let d:vc (lnF p q)≠(0,0):=λz=>by
  let f:=congrArg Prod.fst z;let e:=congrArg Prod.snd z;unfold vc at f e;have:=F.nf.sgn
  lia
 calc⟨⟨λz=>d (by ext vc;rw[z]),mF c i ?_,mF c h ?_,mF c g ?_⟩,d⟩;calc((b.1.mul a.2).sub (a.1.mul b.2)).mono 29;calc b.2.sub a.2;calc a.1.sub b.1
theorem Oy(G:X8 n g)(h:vc g≠(0,0)):X8 n (VC g)/\vc (VC g)≠(0,0):=by
 let a:vc (VC g)≠(0,0):=λz=>h (by let c:=congrArg Prod.fst z;let b:=congrArg Prod.snd z;unfold vc VC at c b;ext vc;grind)
 calc⟨⟨λz=>a (by ext vc;rw[z]),G.c.neg,G.a.neg,G.b.neg⟩,a⟩
theorem Ox(D:cY ps):∀g∈VD ps,X8 40 g/\vc g≠(0,0):=λg m=>by
 obtain z|z:=S7.mp m;let⟨l,n,rfl⟩:=SG.mp z;let⟨a,b,c⟩:=mR.mp n;let i:=mH (show l.1<#[ps] by lia);let f:=mH b;calc LQ (D.bx _ i) (D.bx _ f) (D.gd _ i) (D.gd _ f) c;let d:∀k:Int,Bd 1 k->Bd 41 k:=λk h=>h.mono 29
 obtain z|z:=S7.mp z<;>let⟨p,j,rfl⟩:=SG.mp z;calc⟨⟨35,((D.bx p j).1.neg).mono 29,d 1 (by ext Bd;decide),d 0 (by ext Bd;decide)⟩,λe=>absurd (show(1:Int)=0 from congrArg Prod.fst e) 29⟩;calc⟨⟨35,((D.bx p j).2.neg).mono 29,d 0 (by ext Bd;decide),d 1 (by ext Bd;decide)⟩,λe=>absurd (show(1:Int)=0 from congrArg Prod.snd e) 29⟩
def Ll(D:cY ps):∀d∈ps,(∃r,Cd (VD ps) d (1,0) r)/\(∃r,Cd (VD ps) d (0,1) r)/\∀p∈ps,df d p≠(0,0)->∃r,Cd (VD ps) d (S9 (df d p)) r:=λd f=>by
 calc⟨⟨(-d.1,1,0),.inl ?_,1,29,rfl,rfl,by grind [cW]⟩,⟨(-d.2.1,0,1),.inl ?_,1,29,rfl,rfl,by grind [cW]⟩,λp n a=>?_⟩;calc VA _ (Xe _ (SG.mpr ⟨d,f,rfl⟩));calc VA _ (VA _ (SG.mpr ⟨d,f,rfl⟩));let b:TH d≠TH p:=λe=>a (by
  unfold TH at e;let l:=congrArg Prod.fst e;let k:=congrArg Prod.snd e;ext df
  cbv)
 let a:∀(g:Tr) (m:Int),g∈VD ps->m≠0->m*g.2.1=(S9 (df d p)).1->m*g.2.2=(S9 (df d p)).2->gd g d=0->∃r,Cd (VD ps) d (S9 (df d p)) r:=λg m i e l k h=>by by_cases c:0<m;calc⟨g,.inl i,m,c,72,72,h⟩;calc⟨VC g,by grind [vf],-m,35,?_,?_,by simp_all [y7]⟩;show -g.2.1*-m=_;grind;show -g.2.2*-m=_;grind
 let⟨i,g,w⟩:=XT f;let⟨j,o,u⟩:=XT n;let t:gp ps i=d:=by have:=uU g;grind
 let s:gp ps j=p:=by have:=uU o;grind
 obtain c|c|c:=zCL i j;let o:(i,j)∈sps ps:=mR.mpr 46;let F:=zb (D.gd d f) (D.gd p n) b;let⟨m,e,q,l,k,h⟩:=Ej F;calc a (lnF d p) m (Xe _ (SG.mpr 72)) e ?_ ?_ ?_;rw[<- l];ext S9 df;lia;rw[<- k];rfl;have:=h d;rw[show tq d p d=0 by ext tq;grind]at this;exact(VN.mp this).resolve_right e
 lia
 let o:(j,i)∈sps ps:=mR.mpr ⟨c,g,35⟩;let F:=zb (D.gd p n) (D.gd d f) b.symm;let⟨m,e,q,l,k,h⟩:=Ej F;calc a (lnF p d) (-m) (Xe _ (SG.mpr 72)) 35 ?_ ?_ ?_;rw[U7,<- l];ext S9 df;dsimp only;rw[U7,<- k];ext S9 df;lia;have:=h d;rw[show tq p d d=0 by ext tq;grind]at this;calc(VN.mp this).resolve_right e
abbrev cM(ps:List Dt)(zs:yau)(ys:yat)(w:Int):yau:=aV (dJ (bY ps zs) w) ((aX ys).map sT)
structure QQ(ps:List Dt)(Gs:yau)(ys:yat):Prop where
 X9:∀j,W9 (aV (Gs.take j) ((aX ys).map sT))/\#[aV (Gs.take j) ((aX ys).map sT)]<=1000000/\∀p∈aV (Gs.take j) ((aX ys).map sT),Pr p/\CB 40 p
 inc:∀j X,0<X.1->(∀b∈aY (aX ys),0<=Rl b X)->(∀g∈Gs.take j,0<=Rl g X)->YO (aV (Gs.take j) ((aX ys).map sT)) X
 ov:∀j,∀g∈Gs.take j,∀y∈aV (Gs.take j) ((aX ys).map sT),0<=Rl g y
 own:∀j d,(∀p∈ps,0<=gd d p)->∀y∈aV (Gs.take j) ((aX ys).map sT),0<=Rl d y
 ne:(aX ys).map sT ≠ []
 bo:∀b∈aY (aX ys),∀p∈ps,0<=gd b p
 bv:∀b∈aY (aX ys),X8 40 b/\vc b≠(0,0)
 bl:#[aY (aX ys)]<=44
def iC(D:cY ps){b:yau}(w:∀g∈b,X8 40 g/\vc g≠(0,0))(s:#[b]<=924)(d:bN ys (ps.map TH)):QQ ps b ys:=by
 let c:ps.map TH ≠ []:=λe=>D.ne 46
 let i:=qg d;let h:∀p∈ps.map TH,WB 40 p:=λp f=>by let⟨q,a,rfl⟩:=SG.mp f;exact⟨(D.bx q a).1,(D.bx q a).2⟩
 let k:=Fz (kf i c) (Av d).2 (λp f=>h p (i.mem p f));let n:#[aY (aX ys)]<=44:=by
  let a:=i.len;let l:=DX (aX ys);rw[RG]at a;have:=D.le
  lia
 generalize hA:aY (aX ys)++b=A;let m:∀e∈A,X8 40 e:=λe j=>72
 let' Z:yau:=(aX ys).map sT++A.flatMap λe=>A.map λg=>YQ (Ss e g)
 let o:#[Z]<=1000000:=by
  rw[UQ,RG];let a:=i.len;rw[RG]at a;let l:=D.le;let x:#[A.flatMap λe=>A.map λg=>YQ (Ss e g)]<=968*968:=by
   let y:∀l:yau,#[l.flatMap λe=>A.map λg=>YQ (Ss e g)]<=#[l]*968:=λl=>by
    induction l with
    |nil=>simp
    |cons a r ih =>
     grind
   grind
  lia
 let l:∀e∈A,∀g∈A,YQ (Ss e g)∈Z:=λe j g a=>72
 let e:Cor 40 A Z ((aX ys).map sT):=Jc d c h 72 72 72
 let run:=λj=>zM m l (b.take j) _ 72 e
 calc⟨λj=>⟨(run j).1.VI,Sd (run j).1.len o,λp f=>⟨(run j).1.pr p f,(run j).1.cb p f⟩⟩,λj X b h a=>(run j).2.1 X (Je i c b h) a,λj=>(run j).2.2.1,λj d u=>(run j).2.2.2 d λp f=>?_,by grind [kf],λb h p f=>?_,λb h=>⟨k b h,?_⟩,n⟩;let⟨q,a,rfl⟩:=SG.mp f;let⟨z,t,rfl⟩:=SG.mp (i.mem q a)
 simp_all [KC]
 rw[<- KC];calc BF i c h 72;grind [FA,kf,QH]
def kg(D:cY ps)(hz:bO zs (VD ps))(w:Int):(∀g∈dJ (bY ps zs) w,X8 40 g/\vc g≠(0,0))/\#[dJ (bY ps zs) w]<=880:=by
 calc⟨λg a=>?_,?_⟩;grind [mQ,Ox,Oy,vf];let d:=(rM (ps:=ps) (zs:=zs) w).2;let c:=jd hz;let b:=rH D.le
 lia
def Fc{f g:Dt->Bool}{ps:List Dt}(a:∀p∈ps,0<=p.2.2.2):wq (λp=>f p || g p) ps<=wq f ps+wq g ps:=by
 let e:=qY (f:=f) (g:=λp=>g p && !f p) (k:=λp=>f p || g p) (ps:=ps) (λp _=>by cases f p<;>cases g p<;>rfl) 35;let l:=gh (f:=λp=>g p && !f p) (g:=g) a 46
 lia
def GJ(D:cY ps)(hz:bO zs (VD ps))(a:bN ys (ps.map TH)){l:Int}(l1:1<=l)(H:3*(l - 1)<aK ps):cM ps zs ys (aK ps - l+1) ≠ []:=λe=>by
 let⟨m,b⟩:=kg D hz (aK ps - l+1);let R:=iC D m (Sd b 29) a;let s:∀g∈dJ (bY ps zs) (aK ps - l+1),aK ps - l+1<=wq (λp=>decide (0<=gd g p)) ps:=λg d=>((mQ hz).mp d).2.2
 let b:aV (dJ (bY ps zs) (aK ps - l+1)) ((aX ys).map sT)=[]:=e;generalize dJ (bY ps zs) (aK ps - l+1)=c at *;let⟨a,n,o,k⟩:=tw R.ne #[c] (by rw[zCH];calc b);let d:c[a]?=some c[a]:=T5 n;let⟨VI,_,j⟩:=R.X9 a;let f:∀y∈aV (c.take a) ((aX ys).map sT),Rl c[a] y<0:=λy b=>VO.mp λz=>by let q:=(nC (g:=c[a]) VI λp i=>(j p i).1).1 y (λh hh=>hh y b) z;rw[tB d]at k;exact qh q (j y b).1.pos k
 let⟨p,r,gp,k⟩:=Fw (gs:=aY (aX ys)++c.take a) (o a (Sx _)) (λy b=>(j y b).1.pos) f
  (λh hh y b=>(S7.mp hh).elim (λz=>R.own a h (R.bo h z) y b) λz=>R.ov a h z y b)
  (λX b f=>R.inc a X b (λb j=>f b (Xe _ j)) λg d=>f g (VA _ d)) (m _ (XW n)).2
 let m:=D.nn;let split:=λg=>Bz g ps
 let o:∀g,g∈aY (aX ys)++c.take a∨g∈c->wq (λp=>decide (gd g p<0)) ps<=l - 1:=λg j=>by
  let d:g∈c->wq (λp=>decide (gd g p<0)) ps<=l - 1:=λz=>by
   have:=s g z;have:=split g
   lia
  obtain j|j:=j;obtain z|z:=S7.mp j;have:wq (λp=>decide (gd g p<0)) ps<=wq (λ_=>false) ps:=gh m λp i q=>by
   have:=R.bo g z p i;have:=Wh q
   lia
  rw[Fd]at this
  lia
  calc d ((zDL a _).subset z);exact d j
 let l:=o c[a] (.inr (XW n));let XQ:∀f:Dt->Bool,(∀p∈ps,f p=true)->aK ps<=wq f ps:=λf d=>by rw[mD];exact gh m λp i _=>d p i
 generalize c[a]=g at gp k l;rcases k with⟨h,j,i,B⟩| ⟨h,j,k,q,i,kp,B⟩;let hh:=o h (.inl j);let⟨B0,B1⟩:=B;let a:0<Rp (vc g) (vc g):=sq_pos λz=>by rw[z]at B1;unfold Rp at B1;simp at B1
 let id:∀d:Dt,p.1*(Rp (vc g) (vc g)*gd h d+- Rp (vc h) (vc g)*gd g d)=Rp (vc g) (vc g)*Rl h p+- Rp (vc h) (vc g)*Rl g p:=λd=>by
  let G:Rp (vc g) (vc g)*h.2.1=Rp (vc h) (vc g)*g.2.1 - tn (vc h) (vc g)*- g.2.2:=by ext Rp tn vc;grind
  let E:Rp (vc g) (vc g)*h.2.2=Rp (vc h) (vc g)*g.2.2 - tn (vc h) (vc g)*g.2.1:=by ext Rp tn vc;grind
  rw[cW,cW];ext Rl;grind
 have:=XQ (λd=>decide (gd h d<0) || decide (gd g d<0)) λd w=>by
  let e:=id d;rw[i,XI,zDg]at e;let n:=XF (show 0 < - Rp (vc h) (vc g)by lia) gp;by_cases c:gd h d<0;rw[U6 c];rfl;by_cases l:gd g d<0;rw[U6 l,Bool.or_true];let y:=Tx (Tc a) (show 0<=gd h d by lia);let x:=Tx (show 0<=- Rp (vc h) (vc g)by lia) (show 0<=gd g d by lia);have:=Tx (Tc r) (show 0<=Rp (vc g) (vc g)*gd h d+- Rp (vc h) (vc g)*gd g d by lia)
  lia
 have:=Fc (f:=λd=>decide (gd h d<0)) (g:=λd=>decide (gd g d<0)) m
 lia
 let hh:=o h (.inl j);let I:=o k (.inl q);let j:∀s t u:Int,0<s->0<t->0<u->s*h.2.1+t*k.2.1+u*g.2.1=0->s*h.2.2+t*k.2.2+u*g.2.2=0->False:=λs t u q o a L J=>by
  have:=XQ (λd=>decide (gd h d<0) || (decide (gd k d<0) || decide (gd g d<0))) λd w=>by
   let e:p.1*(s*gd h d+t*gd k d+u*gd g d)=s*Rl h p+t*Rl k p+u*Rl g p:=by rw[cW,cW,cW];ext Rl;grind
   rw[i,kp,XI,XI,VX,zDg]at e;let n:=XF a gp;by_cases c:gd h d<0;rw[U6 c];rfl;by_cases e:gd k d<0;rw[U6 e,Bool.true_or,Bool.or_true];by_cases l:gd g d<0;rw[U6 l,Bool.or_true,Bool.or_true];let y:=Tx (Tc q) (show 0<=gd h d by lia);let x:=Tx (Tc o) (show 0<=gd k d by lia);let M:=Tx (Tc a) (show 0<=gd g d by lia);have:=Tx (Tc r) (show 0<=s*gd h d+t*gd k d+u*gd g d by lia)
   lia
  let C:=Fc (f:=λd=>decide (gd h d<0)) (g:=λd=>decide (gd k d<0) || decide (gd g d<0)) m;let A:=Fc (f:=λd=>decide (gd k d<0)) (g:=λd=>decide (gd g d<0)) m
  lia
 let d:tn (vc k) (vc g)*h.2.1+tn (vc g) (vc h)*k.2.1+tn (vc h) (vc k)*g.2.1=0:=by ext tn vc;grind
 let sb:tn (vc k) (vc g)*h.2.2+tn (vc g) (vc h)*k.2.2+tn (vc h) (vc k)*g.2.2=0:=by ext tn vc;grind
 rcases B with⟨a,b,c⟩| ⟨a,b,c⟩;calc j _ _ _ a b c d sb;calc j (- tn (vc k) (vc g)) (- tn (vc g) (vc h)) (- tn (vc h) (vc k)) 35 35 35 (by rw[U7,U7,U7];lia) (by rw[U7,U7,U7];lia)
theorem vw(g:Tr):∀ps:List Dt,U0 g ps=wq (λp=>decide (0<=gd g p)) ps
 |[]=>rfl
 |p::r=>by let ih:=vw g r;unfold U0 at ih ⊢;ext wq;rw[Vq,zCv,ih];by_cases c:0<=gv g.1 g.2.1 g.2.2 p;rw[Rr c,Rr (U6 (show 0<=gd g p from c))];rw[if_neg c,if_neg (by rw[decide_eq_true_eq];calc c)]
def Gn(h:Tr)(ps:List Dt):∃g,IsL h ps g:=by
 by_cases c:To h ps=[];calc⟨_,.inl ⟨c,rfl⟩⟩;let d:∀(f:Wy->Int) (l:List Wy),l ≠ []->∃(i:Nat) (w:Wy),l[i]?=some w/\∀(j:Nat) (v:Wy),l[j]?=some v->f w<=f v/\(j<i->f w<f v):=λf l=>by
  induction l with
  |nil=>lia
  |cons a r ih =>
   intro _;by_cases cr:r=[];subst cr;calc⟨0,a,rfl,λj v e=>?_⟩;cases j with
   |zero=>cbv
   |succ j=>cases e
   let⟨i,w,e,b⟩:=ih cr;by_cases g:f a<=f w;calc⟨0,a,rfl,λj v e=>?_⟩;cases j with
   |zero=>cbv
   |succ j=>exact⟨zDP g (b j v e).1,35⟩
   calc⟨i+1,w,e,λj v e=>?_⟩;cases j with
   |zero=>grind
   |succ j=>exact⟨(b j v e).1,λz=>(b j v e).2 35⟩
 let⟨i,w,e,b⟩:=d (λv=>U0 (Ya h (Xm v (To h ps))) ps) _ c;calc⟨_,.inr ⟨i,w,e,rfl,b⟩⟩
def wF(D:cY ps):0<aK ps:=by
 let a:=D.nn;let w:=D.w;let b:=D.ne;rw[mD];cases ps with
 |nil=>lia
 |cons p r =>
  let e:=w p 52;let d:=K4 (f:=λ_=>true) (ps:=r) λq c=>a q 46
  ext wq
  lia
def rkT(a b:Tr):Int:=rk a.1 a.2.1 a.2.2 b.1 b.2.1 b.2.2
def stI(cs:yau)(f k:Nat):Nat:=if rkT (cs.getD k (0,0,0)) (cs.getD f (0,0,0))<0 then k else f
def ldI(cs:yau)(n:Nat):Nat:=(List.range' 0 n).foldl (stI cs) 0
def kG(cs:yau):yau:=cs.drop (ldI cs #[cs])++cs.take (ldI cs #[cs])
def KI(cs:yau)(n:Nat):ldI cs (n+1)=stI cs (ldI cs n) n:=by ext ldI;rw[List.range'_concat,List.foldl_append];simp
theorem uZ(cs:yau):∀n,ldI cs n<=n/\(0<n->ldI cs n<n)
 |0=>⟨Sx _,35⟩
 |n+1=>by
  have:=uZ cs n;rw[KI];ext stI
  lia
def L9{x:Tr}:x∈kG cs↔x∈cs:=by ext kG;rw[S7,Or.comm,<- S7,XH]
def CL(cs:yau):#[kG cs]=#[cs]:=by have:=(uZ cs #[cs]).1;ext kG;grind
def iq{b:Type}{wi:DA}{g:DG}{h:DS}{E:jK}(xs:List b)(f:b->D)(Pv:List b->Ro->Prop)(j:∀R:yas->Prop,R (xs.map f)->wi ρ R)(i:Pv [] ρ)
  (c:∀(done:List b) (x:b) (a:Ro),x∈xs->#[done]<#[xs]->Pv done a->∀K:Ro->Prop,(∀a,Pv (done++[x]) a->K a)->g (f x) a λd=>h {E with nx:=K,ct:=K,bk:=E.nx} d) (e:∀a,Pv xs a->E.nx a):pX wi g h E ρ :=
 PD.rB xs f Pv j i (λdone x a b f d=>c done x a b f d _ λ_ h=>h) e
def yf{d:Type}{wi:DA}{g:DG}{h:DS}{E:jK}(xs:List d)(f:d->D)(Pv:Nat->Ro->Prop)(k:∀R:yas->Prop,R (xs.map f)->wi ρ R)(i:Pv 0 ρ)
  (b:∀(j:Nat) (x:d) (a:Ro),xs[j]?=some x->Pv j a->∀K:Ro->Prop,(∀a,Pv (j+1) a->K a)->g (f x) a λc=>h {E with nx:=K,ct:=K,bk:=E.nx} c) (e:∀a,Pv #[xs] a->E.nx a):pX wi g h E ρ :=
 PD.ip xs f Pv k i (λj x a c d=>b j x a c d _ λ_ h=>h) e
def LM{a:Type}{wi:DA}{P:List a->Prop}(f:a->D)(b:∀R:yas->Prop,(∀ys,P ys->R (ys.map f))->wi ρ R)(h:∀ys,P ys->pX (λ_ R=>R (ys.map f)) g tb E ρ):pX wi g tb E ρ:=b _ λys a=>h ys a
def NK(xs:yas){k:Nat}(h:k<=#[xs]):PD.cutD xs (some (k:Int)) none=xs.drop k:=by
 ext PD.cutD;let b:HT.SH #[xs] 0 (some (k:Int))=min k #[xs]:=HT.ki _ _ k;let a:HT.SH #[xs] #[xs] none=#[xs]:=rfl
 simp_all [Yi,XG,Xg]
def zU(xs:yas){k:Nat}(h:k<=#[xs]):PD.cutD xs none (some (k:Int))=xs.take k:=by
 ext PD.cutD;let a:HT.SH #[xs] 0 none=0:=rfl
 simp_all [HT.ki,Yi]
theorem AZ{c:Type}{R:c->c->Prop}(d:∀a,¬R a a)(e:∀a b,R a b->¬R b a):∀(xs ys:List c),xs.Pairwise R->ys.Pairwise R->(∀p,p∈xs↔p∈ys)->xs=ys
 |[],[],_,_,_=>rfl
 |[],y::_,_,_,h=>by grind [List.mem_cons_self]
 |x::_,[],_,_,h=>by grind [List.mem_cons_self]
 |x::xs,y::ys,b,a,h=>by
  let⟨g,c⟩:=Zh.mp b;let⟨f,b⟩:=Zh.mp a;let a:x=y:=by grind [List.mem_cons_self]
  subst a;rw[AZ d e xs ys c b 72]
def je(b:bO xs L)(a:bO ys L):xs=ys:=AZ (λ_=>by ext wW;omega) (λ_ _=>by ext wW;omega) _ _ b.1 a.1 λp=>(b.2 p).trans (a.2 p).symm
def jg(b:bN xs L)(a:bN ys L):xs=ys:=AZ 46 35 _ _ b.1 a.1 λp=>(b.2 p).trans (a.2 p).symm
def yz{b:DS}{ρ:Ro}(P:Ro->Prop)(c:∀a,P a->b E a)(d:∀K:Ro->Prop,(∀a,P a->K a)->nF s1 (nF s2 s3) {E with nx:=K} ρ):nF s1 (nF s2 (nF s3 b)) E ρ:=d _ c
def LY{h:Tr}{ps:List Dt}(hh:0<h.1)(o:∀p∈ps,0<=p.2.2.2)(a:IsL h ps g)(f:Rl d h=0)(c:vc d≠(0,0)):U0 g ps<=U0 d ps:=by
 let b:∀p:Dt,h.1*gd d p=tn (d.2.2,-d.2.1) (R8 h p):=λp=>by
  let e:h.1*gd d p=tn (d.2.2,-d.2.1) (R8 h p)+Rl d h:=by rw[cW];ext tn R8 Rl;grind
  rw[e,f,VX]
 generalize ht:((d.2.2,-d.2.1):Sp)=t at b;let l:t≠(0,0):=λz=>c (by rw[<- ht]at z;let f:=congrArg Prod.fst z;let k:=congrArg Prod.snd z;dsimp only at f k;ext vc;rw[f,show d.2.1=0 by lia])
 let c:∀p:Dt,0<=tn t (R8 h p)->0<=gd d p:=λp q=>by rw[<- b]at q;exact XM.mp λz=>by have:=XF hh z;lia
 let m:tn t (0,0)=0:=by ext tn;simp
 let n:∀w∈To h ps,(∀p∈ps,(0<tn w (R8 h p)->0<=tn t (R8 h p))/\(tn w (R8 h p)=0->Rp w (R8 h p)<0->0<=tn t (R8 h p)))->U0 g ps<=U0 d ps:=λw b r=>by
  let s:U0 g ps<=U0 (Ya h (Xm w (To h ps))) ps:=by
   rcases a with⟨z,_⟩| ⟨i,v,H,G,u⟩;rw[z]at b;cases b;let⟨j,a,i⟩:=XT b;exact(u j w (by rw[T5 a,i])).1
  calc zDP s ?_;refine EK o λp a q=>?_
  rw[KG]at q;let i:0<=tn (Xm w (To h ps)) (R8 h p):=XM.mp λz=>35
  rcases(Gb b a).mp i with z|z|⟨f,k⟩;calc c p (by rw[z,m];calc WS _);calc c p ((r p a).1 z);exact c p ((r p a).2 f k)
 let r:∀v∈To h ps,SQ v∈To h ps:=λv hv=>y6 hv
 by_cases q:To h ps=[];let i:∀p∈ps,R8 h p=(0,0):=λp a=>by by_cases z:R8 h p=(0,0);calc z;have:=(ni a z).1;rw[q]at this;cases this
 exact EK o λp a _=>c p (by rw[i p a,m];calc WS _)
 by_cases j:∃w∈To h ps,tn t w=0;let⟨w,b,i⟩:=j;let m:=eV b;let c:∀v∈To h ps,tn t v=0->0<Rp t v->U0 g ps<=U0 d ps:=λv hv d pv=>by
  let e:∀x:Sp,Rp t t*tn v x=Rp t v*tn t x:=λx=>by
   have:Rp t t*tn v x=Rp t v*tn t x - tn t v*Rp t x:=by ext Rp tn;grind
   rw[this,d,YZ,Int.sub_zero]
  refine n v hv λp _=>⟨λz=>?_,λz _=>?_⟩
  have:=Wi (sq_pos l) z;rw[e]at this;calc Tc (Int.pos_of_mul_pos_right this pv);have:=e (R8 h p);rw[z,XI]at this;obtain y|y:=VN.mp this.symm
  lia
  lia
 let E:Rp t w≠0:=λz=>by
  let e:Rp t t*Rp w w=Rp t w*Rp t w+tn t w*tn t w:=by ext Rp tn;grind
  rw[z,i,XI]at e;have:=Wi (sq_pos l) (sq_pos m)
  lia
 by_cases d:0<Rp t w;calc c w b i d;calc c (SQ w) (r w b) ?_ ?_;have:tn t (SQ w)=- tn t w:=by ext tn SQ;grind
 rw[this,i];rfl;have:Rp t (SQ w)=- Rp t w:=by ext Rp SQ;grind
 lia
 let c:∀w∈To h ps,tn t w≠0:=λw b z=>j ⟨w,b,z⟩
 let⟨v,hv⟩:=zB8 _ q;let⟨w,b,d,C⟩:=yb t (To h ps) (by
  have:=c v hv;by_cases c:tn t v<0;calc⟨v,hv,c⟩;calc⟨SQ v,r v hv,?_⟩;have:tn t (SQ v)=- tn t v:=by ext tn SQ;grind
  lia)
 refine n w b λp a=>⟨λz=>XM.mp λy=>?_,λf k=>XM.mp λy=>?_⟩
 grind [ni];let e:Rp w w*tn t (R8 h p)=Rp w (R8 h p)*tn t w+tn w (R8 h p)*Rp w t:=by ext Rp tn;grind
 rw[f,YZ,VX]at e;let B:=zBR k d;let A:=XF (sq_pos (eV b)) y
 lia
def nI(D:cY ps)(hz:bO zs (VD ps))(a:bN ys (ps.map TH)){l:Int}(l1:1<=l)(ll:l<=aK ps){X:Tr}(c:0<X.1)(i:IsL X ps g):l<=U0 g ps↔YO (cM ps zs ys (aK ps - l+1)) X:=by
 let⟨n,b⟩:=kg D hz (aK ps - l+1);let R:=iC D n (Sd b 29) a;let inc:=R.inc #[dJ (bY ps zs) (aK ps - l+1)];let j:=R.ov #[dJ (bY ps zs) (aK ps - l+1)];let a:=R.own #[dJ (bY ps zs) (aK ps - l+1)];rw[zCH]at inc j a;let split:=λg=>Bz g ps
 constructor;intro A;let a:∀r:Tr,vc r≠(0,0)->aK ps - l+1<=wq (λp=>decide (0<=gd r p)) ps->0<=Rl r X:=λr b Yp=>XM.mp λz=>by
  let m:=LY (d:=(Rl r X - X.1*r.1,- (X.1*r.2.1),- (X.1*r.2.2))) c D.nn i (by
   let e:∀k:Int,Rl (k - X.1*r.1,- (X.1*r.2.1),- (X.1*r.2.2)) X=k*X.1 - X.1*Rl r X:=λk=>by ext Rl;grind
   rw[e,VF,Int.sub_self]) (λe=>b (by
   let d:=congrArg Prod.fst e;let b:=congrArg Prod.snd e;unfold vc at d b;dsimp only at d b;let d:=(VN.mp (show X.1*r.2.1=0 by lia)).resolve_left 35;let b:=(VN.mp (show X.1*r.2.2=0 by lia)).resolve_left 35;ext vc;rw[d,b]))
  let u:U0 (Rl r X - X.1*r.1,- (X.1*r.2.1),- (X.1*r.2.2)) ps<=wq (λp=>decide (gd r p<0)) ps:=by
   rw[vw];refine gh D.nn λp _ q=>U6 ?_
   let s:=Wh q;let e:gd (Rl r X - X.1*r.1,- (X.1*r.2.1),- (X.1*r.2.2)) p=Rl r X - X.1*gd r p:=by rw[cW,cW];grind
   exact VO.mp λy=>by have:=Tx (Tc c) y;lia
  have:=split r
  lia
 refine inc X c (λb h=>?_) λr d=>?_
 calc a b ((R.bv b h).2) ?_;rw[<- split b];let o:wq (λp=>decide (gd b p<0)) ps<=0:=by
  have:=gh (f:=λp=>decide (gd b p<0)) (g:=λ_=>false) D.nn λp f q=>by
   have:=R.bo b h p f;have:=Wh q
   lia
  rw[Fd]at this;exact this
 lia
 calc a r (n r d).2 ((mQ hz).mp d).2.2;intro I;refine XM.mp λt=>?_
 let e:=split g;rw[<- vw]at e;let⟨r,m,b,a,x⟩:=Pm D.nn (Ll D) (g:=g) (h:=X) (w:=aK ps - l+1) (λz=>IsL.ne c i ⟨congrArg Prod.fst z,congrArg Prod.snd z⟩) c (i.on) 35 35;have:=I r λy c=>j r ((mQ hz).mpr ⟨m,b,a⟩) y c
 lia
def A5(D:cY ps)(hz:bO zs (VD ps))(a:bN ys (ps.map TH)){y:Tr}(d:y∈cM ps zs ys w):Pr y/\CB 40 y:=by
 let⟨b,c⟩:=kg D hz w;let X9:=(iC D b 35 a).X9 #[dJ (bY ps zs) w]
 cbv
def GrD(ps:List Dt)(n:Int):Prop:=1<=n/\n<=aK ps/\∀a b,bO a (VD ps)->bN b (ps.map TH)->∀l,1<=l->l<=aK ps->(cM ps a b (aK ps - l+1) ≠ []↔l<=n)
section
variable{ps:List Dt}(D:cY ps){zs:yau}(hz:bO zs (VD ps)){ys:yat}(rs:bN ys (ps.map TH))
include D hz rs
def A4{l m:Int}(l1:1<=l)(f:l<=m)(e:m<=aK ps)(h:cM ps zs ys (aK ps - m+1) ≠ []):cM ps zs ys (aK ps - l+1) ≠ []:=by
 let⟨y,c⟩:=zB8 _ h;let b:=(A5 D hz rs c).1.pos;let⟨g,d⟩:=Gn y ps;let a:=(nI D hz rs 35 e b d).mpr λe a=>a y c
 calc qh ((nI D hz rs l1 35 b d).mp 35) b
omit rs in
def Qe{n:Int}(c:1<=n)(na:n<=aK ps)(b:∀ys,bN ys (ps.map TH)->cM ps zs ys (aK ps - n+1) ≠ [])(e:∀ys,bN ys (ps.map TH)->∀l,n<l->l<=aK ps->cM ps zs ys (aK ps - l+1)=[]):GrD ps n:=by calc⟨c,na,λa ys f rs l d c=>?_⟩;rw[je f hz];calc⟨λh=>XM.mp λz=>h (e ys rs l z c),λh=>A4 D hz rs d h na (b ys rs)⟩
theorem OD(a:GrD ps n)(b:GrD ps m):n=m:=by
 let d:=(b.2.2 zs ys hz rs n a.1 a.2.1).mp ((a.2.2 zs ys hz rs n a.1 a.2.1).mpr 35);let c:=(a.2.2 zs ys hz rs m b.1 b.2.1).mp ((b.2.2 zs ys hz rs m b.1 b.2.1).mpr 35)
 lia
def IZ(a:GrD ps n):aK ps<=3*n:=by
 let c:=wF D;let b:=GJ D hz rs (l:=(aK ps+2) / 3) 35 35;have:=(a.2.2 zs ys hz rs _ 35 35).mp b
 lia
def IY(a:GrD ps n){y:Tr}(c:y∈cM ps zs ys (aK ps - n+1))(d:IsL y ps g):U0 g ps=n:=by
 let b:=(A5 D hz rs c).1.pos;let j:=(nI D hz rs a.1 a.2.1 b d).mpr λe e=>e y c
 let f:U0 g ps<=aK ps:=by rw[vw,mD];exact gh D.nn λp _ _=>rfl
 let h:¬n+1<=U0 g ps:=λz=>by
  let i:=(nI D hz rs (l:=n+1) (by have:=a.1;lia) 35 b d).mp z;have:=(a.2.2 zs ys hz rs (n+1) (by have:=a.1;lia) 35).mp (qh i b)
  lia
 lia
end
abbrev gsA(ps:List Dt)(zs:yau)(ys:yat)(w:Int):yau:=aY (aX ys)++dJ (bY ps zs) w
abbrev fsA(ys:yat):yau:=(aX ys).map sT
structure QM(ps:List Dt)(zs:yau)(ys:yat)(w:Int):Prop where
 gb:∀g∈gsA ps zs ys w,X8 40 g/\vc g≠(0,0)
 le:#[gsA ps zs ys w]<=924
 wt:∀g∈gsA ps zs ys w,w<=aK ps->w<=wq (λp=>decide (0<=gd g p)) ps
 X9:∀j,#[aV ((gsA ps zs ys w).take j) (fsA ys)]<=1000000/\∀p∈aV ((gsA ps zs ys w).take j) (fsA ys),Pr p/\CB 40 p
 st:Km (gsA ps zs ys w) (fsA ys) (aY (aX ys))
section
variable{ps:List Dt}(D:cY ps){zs:yau}(hz:bO zs (VD ps)){ys:yat}(rs:bN ys (ps.map TH))
include D hz rs
def Eg(w:Int):QM ps zs ys w:=by
 let⟨c,f⟩:=kg D hz w;let d:=iC D c 35 rs;let b:∀g∈gsA ps zs ys w,X8 40 g/\vc g≠(0,0):=λg a=>(S7.mp a).elim (d.bv g) (c g)
 let c:#[gsA ps zs ys w]<=924:=by have:=d.bl;grind
 let R:=iC D b c rs;calc⟨b,c,λg a d=>?_,λj=>(R.X9 j).2,λj=>⟨(R.X9 j).1,λp c=>((R.X9 j).2.2 p c).1⟩,R.inc,R.ov,λg a=>(b g a).2,R.ne,λj b e=>R.own j b (R.bo b e),⟨_,rfl⟩⟩;obtain z|z:=S7.mp a;calc zDP d ?_;rw[mD];exact gh D.nn λp c _=>U6 (R.bo g z p c)
 calc((mQ hz).mp z).2.2
def OE(e:cM ps zs ys w=[]):aV (gsA ps zs ys w) (fsA ys)=[]:=by
 let⟨a,d⟩:=kg D hz w;let inc:=(iC D a 35 rs).inc #[dJ (bY ps zs) w];let K:=Eg D hz rs w;let b:=K.st.ov #[gsA ps zs ys w];let a:=K.X9 #[gsA ps zs ys w];rw[zCH]at inc b a;refine zBQ λc=>?_
 let⟨y,b⟩:=zB8 _ c;calc qh (inc y (a.2 y b).1.pos 46 46) (a.2 y b).1.pos e
end
structure Im(ps:List Dt)(w:Int)(L:List (Tr×Int)):Prop where
 l2:2<=#[L]
 l3:#[L]<=3
 nl:∀x∈L,¬(x.1.2.1=0/\x.1.2.2=0)
 bd:∀x∈L,Bd 200 x.1.1/\Bd 200 x.1.2.1/\Bd 200 x.1.2.2/\Bd 900 x.2
 s1:∀x∈L,1<=x.2
 wt:∀x∈L,w<=wq (λp=>decide (0<=gd x.1 p)) ps
 c0:(L.map λx=>x.2*x.1.1).sum<0
 a0:(L.map λx=>x.2*x.1.2.1).sum=0
 b0:(L.map λx=>x.2*x.1.2.2).sum=0
abbrev Ib(G F:yau)(last:Nat)(r:yag×yaf):Prop:=last<#[G]/\(∀j,j<=last->aV (G.take j) F ≠ [])/\aV (G.take (last+1)) F=[]/\ik G last (Ul last 1++Ul last 2)=some r
def Z3(G:yau)(r:yag×yaf):List (Tr×Int):=(r.1.zip r.2).map λz=>(G.getD z.1 (0,0,0),z.2)
def SbR(ps:List Dt)(n:Int)(L:List (Tr×Int)):Prop:=(aK ps=n/\L=[((-1,1,0),1),((0,-1,0),1)])∨(aK ps≠n/\∃c b a r,bO c (VD ps)/\bN b (ps.map TH)/\Ib (gsA ps c b (aK ps - n)) (fsA b) a r/\L=Z3 (gsA ps c b (aK ps - n)) r)
def Lj(a:Ib G F i r)(b:Ib G F j t):r=t:=72
def Pp(a:SbR ps n L)(b:SbR ps n M):L=M:=by
 rcases a with⟨e,rfl⟩| ⟨e,k,l,i,r,e,f,a,rfl⟩<;>rcases b with⟨g,rfl⟩| ⟨g,c,d,j,t,h,g,b,rfl⟩;rfl
 cbv
 cbv
 rw[je h e,jg g f]at b ⊢;rw[Lj a b]
def QB(D:cY ps){n:Int}(u:1<=n)(h:SbR ps n L):Im ps (aK ps - n) L:=by
 rcases h with⟨e,rfl⟩| ⟨e,b,h,a,r,g,c,B,rfl⟩
 ·let d:∀f,0<=wq f ps:=λf=>K4 D.nn
  let z:aK ps - n=0:=35
  rw[z];calc⟨29,29,?_,?_,?_,λx _=>d _,29,29,29⟩<;>intro x d<;>simp at d<;>obtain rfl|rfl:=d
  all_goals first|decide|exact⟨by ext Bd;decide,by ext Bd;decide,by ext Bd;decide,by ext Bd;decide⟩
 let K:=Eg D g c (aK ps - n);let⟨f,c⟩:=r;let⟨J,t,M,i⟩:=B;let⟨⟨o,om,rfl⟩,e,p⟩:=pP i;let i:=K.gb;let q:=K.wt;clear K;generalize gsA ps b h (aK ps - n)=G at *;let⟨H,A⟩:=Ei om;let I:1<=#[o]:=by grind [iw]
 let lo:#[o++[a]]=#[o]+1:=by rw[UQ];rfl
 let y:#[Xl G (o++[a])]=#[o++[a]]:=by ext Xl;rw[RG]
 let j:=uC 35 e;let C:=j.len;let m:∀k∈o++[a],G.getD k (0,0,0)∈G:=72
 let h:∀w∈Xl G (o++[a]),WB 400 w:=λw b=>by let⟨k,l,rfl⟩:=SG.mp b;let b:=(i _ (m k l)).1;exact⟨b.a.mono 29,b.b.mono 29⟩
 let m:=Fv h 35 e;let e:∀x∈Z3 G (o++[a],c),x.1∈G/\x.2∈c:=λx d=>by let⟨z,g,rfl⟩:=SG.mp d;grind [List.of_mem_zip]
 let E:#[Z3 G (o++[a],c)]=#[o]+1:=by ext Z3;grind
 let sm:=j.sum;let g:∀(f:yag) (c:yaf),((Z3 G (f,c)).map λx=>x.2*x.1.1).sum=nE G f c/\wsum c (Xl G f)=(((Z3 G (f,c)).map λx=>x.2*x.1.2.1).sum,((Z3 G (f,c)).map λx=>x.2*x.1.2.2).sum):=λf=>by
  induction f with
  |nil=>intro c;calc⟨rfl,by cases c<;>rfl⟩
  |cons k f ih =>
   intro c;cases c with
   |nil=>calc⟨rfl,rfl⟩
   |cons s c =>
    let⟨h,f⟩:=ih c;unfold Z3 nE at h;unfold Z3 wsum Xl at f;ext Z3 nE wsum Xl;let l:=congrArg Prod.fst f;let k:=congrArg Prod.snd f;dsimp only at h l k;simp only[List.zip_cons_cons,Vq,zCv,List.zipWith_cons_cons,h,<- l,<- k,VF s,vc];exact⟨trivial,trivial⟩
 let⟨h,f⟩:=g (o++[a]) c;rw[f]at sm;calc⟨35,35,λx d z=>(i _ (e x d).1).2 (by ext vc;rw[z.1,z.2]),λx d=>?_,λx d=>j.pos _ (e x d).2,λx d=>q _ (e x d).1 35,by rw[h];calc p,congrArg Prod.fst sm,congrArg Prod.snd sm⟩;let b:=(i _ (e x d).1).1;calc⟨b.c.mono 29,b.a.mono 29,b.b.mono 29,m _ (e x d).2⟩
def U4(x:Tr×Int):D:=.tup [RD x.1,.int x.2]
def Cq:∀{a b:Tr×Int},U4 a=U4 b->a=b:=fun {a b} h=>by
 unfold U4 RD T3 at h
 lia
def Lk{a b:List (Tr×Int)}(h:a.map U4=b.map U4):a=b:=gK Cq h
theorem Bt(x:Tr×Int):aU (U4 x)=U4 x:=rfl
def E7(xs:List (Tr×Int)):bf (xs.map U4)=xs.map U4:=cI U4 Bt xs
def Jh{A P:Prop} [Decidable c] (p:P)(h:c->P->A):if c then A else P:=35
def Lo(xs:yas)(k:Nat):PD.cutD xs none (some (k:Int))=xs.take k:=by by_cases h:k<=#[xs];calc zU xs h;ext PD.cutD;rw[show HT.SH #[xs] 0 none=0 from rfl,show HT.SH #[xs] #[xs] (some (k:Int))=min k #[xs] from HT.ki _ _ k,Nat.min_eq_right 35,XG (show #[xs]<=k by lia)];grind
theorem CT:∀L:List (Tr×Int),fg (L.map U4)=true
 |[]=>rfl
 |_::L=>CT L
theorem CU:∀ps:List Dt,fg (ps.map RH)=true
 |[]=>rfl
 |_::ps=>CU ps
def CF{ps:List Dt}(h:ps ≠ []):Ec (.lst t (ps.map RH)):=by
 cases ps with
 |nil=>lia
 |cons p r=>calc .inr (.inl ⟨t,p.1,_,_,rfl,CU (p::r)⟩)
def exV{ρ:Ro}{f:(Nat->Option Sl)->Ro}(h:ρ=f λi=>ρ.getD i none):∃o,ρ=f o:=⟨_,h⟩
def exW{ρ:Ro}{f:(Nat->Option Sl)->D->Ro}{A:D->Prop}{d:D}(h:ρ=f (λi=>ρ.getD i none) d)(a:A d):∃o d,ρ=f o d/\A d:=⟨_,_,h,a⟩
def FD{a b:List (Tr×Int)}:a.map U4=b.map U4↔a=b:=⟨Lk,35⟩
def F7{a b:List Dt}:a.map RH=b.map RH↔a=b:=⟨LA,35⟩
def EJ{a b:List WQ}:a.map cw=b.map cw↔a=b:=⟨JO,35⟩
def Hg{a b:yat}:a.map Td=b.map Td↔a=b:=⟨MF,λe=>by rw[e]⟩
def HG{a b:yat}:a.map SV=b.map SV↔a=b:=⟨M4,λe=>by rw[e]⟩
def HL{a b:yau}:a.map RD=b.map RD↔a=b:=⟨M6,λe=>by rw[e]⟩
def Hj:WO a=WO b↔a=b:=⟨MG,35⟩
def FC:U4 a=U4 b↔a=b:=⟨Cq,35⟩
def F4:RH a=RH b↔a=b:=⟨CC,35⟩
def Hd:Td a=Td b↔a=b:=⟨C2,λe=>by rw[e]⟩
def HD:SV a=SV b↔a=b:=⟨De,λe=>by rw[e]⟩
def GH{a b:yaf}:a.map D.int=b.map D.int↔a=b:=⟨BO,35⟩
local macro_rules|`(tactic|z_go)=>do
 let l := ("T3 List.cons.injEq D.int.injEq D.tup.injEq D.lst.injEq and_true true_and and_imp GH FD F7 EJ Hg HG HL Hj FC F4 Hd HD".splitOn " ").toArray.map λs => Lean.mkIdent s.toName
 `(tactic| (apply propext; constructor; (intro h; repeat (first | (let⟨e, h⟩ := h; revert e; simp only [$[$l:ident],*]; intros; subst_vars; assumption) | let⟨_, h⟩ := h)); (intro q; repeat (first | calc ⟨rfl, q⟩ | apply Exists.intro))))
section
variable(κ:SE)(Q:D->Prop)(Ed:Value->Prop)
abbrev rR(n:Int):Prop:=Q (.int (sg n))
def xD(κ:SE):DSp:=λa Q Ed=>∃(n:Int),a=[.int n]/\rR Q n
def E1 (n:Int):xD κ [.int n] Q Ed=rR Q n:=by z_go
abbrev fK(a:Int)(b:Int):Prop:=Q (.int (Int.gcd a b:Int))
def fO(κ:SE):DSp:=λc Q Ed=>∃(a:Int) (b:Int),c=[.int a,.int b]/\fK Q a b
def oP (a:Int) (b:Int):fO κ [.int a,.int b] Q Ed=fK Q a b:=by z_go
abbrev jh(ns:yaf):Prop:=#[ns]<100/\bX 0 ns≠0/\Bd 1000 (bX 0 ns)/\Q (.lst true ((dj ns).map D.int))
def jq(κ:SE):DSp:=λb Q Ed=>∃(a:yaf),b=[.lst false (a.map D.int)]/\jh Q a
def kR (ns:yaf):jq κ [.lst false (ns.map D.int)] Q Ed=jh Q ns:=by z_go
abbrev oo(x y z:Int)(l:Int):Prop:=¬(x=0/\y=0/\z=0)/\Bd 4000 x/\Bd 4000 y/\Bd 4000 z/\Q (T3 (x.fdiv (PM.Tz x y z l)) (y.fdiv (PM.Tz x y z l)) (z.fdiv (PM.Tz x y z l)))
def oW(κ:SE):DSp:=λa Q Ed=>∃(x y z:Int) (l:Int),a=[T3 x y z,.int l]/\oo Q x y z l
def yY (x y z:Int) (l:Int):oW κ [T3 x y z,.int l] Q Ed=oo Q x y z l:=by z_go
abbrev oh(n:Int)(s:Int):Prop:=∃m t:Nat,n=(m:Int)/\s=(t:Int)/\m<=1000/\t<=2/\Q (.lst true ((Ul m t).map V8))
def uh(κ:SE):DSp:=λa Q Ed=>∃(n:Int) (s:Int),a=[.int n,.int s]/\oh Q n s
def Cb (n:Int) (s:Int):uh κ [.int n,.int s] Q Ed=oh Q n s:=by z_go
abbrev tX(g0 g1 g2:Int)(p0 p1 p2:Int):Prop:=Bd 1000 g0/\Bd 1000 g1/\Bd 1000 g2/\Bd 1000 p0/\Bd 1000 p1/\Bd 1000 p2/\Q (.int (g0*p0+g1*p1+g2*p2))
def um(κ:SE):DSp:=λg Q Ed=>∃(f e d:Int) (c b a:Int),g=[T3 f e d,T3 c b a]/\tX Q f e d c b a
def Cf (e d c:Int) (b a p2:Int):um κ [T3 e d c,T3 b a p2] Q Ed=tX Q e d c b a p2:=by z_go
abbrev kh(g0 g1 g2:Int)(p0 p1 p2:Int):Prop:=Bd 1000 g0/\Bd 1000 g1/\Bd 1000 g2/\Bd 1000 p0/\Bd 1000 p1/\Bd 1000 p2/\Q (.int (sg (g0*p0+g1*p1+g2*p2)))
def iS(κ:SE):DSp:=λg Q Ed=>∃(f e d:Int) (c b a:Int),g=[T3 f e d,T3 c b a]/\kh Q f e d c b a
def j6 (e d c:Int) (b a p2:Int):iS κ [T3 e d c,T3 b a p2] Q Ed=kh Q e d c b a p2:=by z_go
abbrev l4(g0 g1 g2:Int):Prop:=Q (.bl (decide (g1=0/\g2=0)))
def mj(κ:SE):DSp:=λd Q Ed=>∃(c b a:Int),d=[T3 c b a]/\l4 Q c b a
def xw (c b a:Int):mj κ [T3 c b a] Q Ed=l4 Q c b a:=by z_go
abbrev jT(a0 a1 a2:Int)(b0 b1 b2:Int):Prop:=Bd 200 a0/\Bd 200 a1/\Bd 200 a2/\Bd 200 b0/\Bd 200 b1/\Bd 200 b2/\Q (T3 (a1*b2 - b1*a2) (a2*b0 - b2*a0) (a0*b1 - b0*a1))
def j4(κ:SE):DSp:=λg Q Ed=>∃(f e d:Int) (c b a:Int),g=[T3 f e d,T3 c b a]/\jT Q f e d c b a
def pE (a0 a1 c:Int) (b b1 a:Int):j4 κ [T3 a0 a1 c,T3 b b1 a] Q Ed=jT Q a0 a1 c b b1 a:=by z_go
abbrev xc(a0 a1 a2:Int)(b0 b1 b2:Int):Prop:=Bd 200 a0/\Bd 200 a1/\Bd 200 a2/\Bd 200 b0/\Bd 200 b1/\Bd 200 b2/\¬(a2*b0 - b2*a0=0/\a0*b1 - b0*a1=0)/\Q (RD (EL (a1*b2 - b1*a2) (a2*b0 - b2*a0) (a0*b1 - b0*a1)))
def xA(κ:SE):DSp:=λg Q Ed=>∃(f e d:Int) (c b a:Int),g=[T3 f e d,T3 c b a]/\xc Q f e d c b a
def EY (a0 a1 c:Int) (b b1 a:Int):xA κ [T3 a0 a1 c,T3 b b1 a] Q Ed=xc Q a0 a1 c b b1 a:=by z_go
abbrev lA(p0 p1 p2:Int)(w:Sp):Prop:=Bd 200 p0/\Bd 200 p1/\Bd 200 p2/\WB 200 w/\Q (T3 (-(w.1*p1+w.2*p2)) (w.1*p0) (w.2*p0))
def cR(κ:SE):DSp:=λd Q Ed=>∃(c b a:Int) (w:Sp),d=[T3 c b a,SV w]/\lA Q c b a w
def qN (b a p2:Int) (w:Sp):cR κ [T3 b a p2,SV w] Q Ed=lA Q b a p2 w:=by z_go
abbrev tV(b:Int)(x:Int)(y:Int):Prop:=b≠0/\Bd 4000 b/\Bd 4000 x/\Bd 4000 y/\Q (Pc b x y)
def ui(κ:SE):DSp:=λa Q Ed=>∃(b:Int) (x:Int) (y:Int),a=[.int b,.int x,.int y]/\tV Q b x y
def Cc (b:Int) (x:Int) (y:Int):ui κ [.int b,.int x,.int y] Q Ed=tV Q b x y:=by z_go
abbrev l7(a b:Int):Prop:=Q (T3 1 a b)
def mr(κ:SE):DSp:=λc Q Ed=>∃(a b:Int),c=[.tup [.int a,.int b]]/\l7 Q a b
def xB (a b:Int):mr κ [.tup [.int a,.int b]] Q Ed=l7 Q a b:=by z_go
abbrev rQ(a0 a1 a2:Int)(b0 b1 b2:Int):Prop:=Bd 1000 a0/\Bd 1000 a1/\Bd 1000 a2/\Bd 1000 b0/\Bd 1000 b1/\Bd 1000 b2/\Q (.int (rk a0 a1 a2 b0 b1 b2))
def rT(κ:SE):DSp:=λg Q Ed=>∃(f e d:Int) (c b a:Int),g=[T3 f e d,T3 c b a]/\rQ Q f e d c b a
def vU (a0 a1 c:Int) (b b1 a:Int):rT κ [T3 a0 a1 c,T3 b b1 a] Q Ed=rQ Q a0 a1 c b b1 a:=by z_go
abbrev ow(a0 a1 a2:Int)(b0 b1 b2:Int)(c0 c1 c2:Int):Prop:=Bd 1000 a0/\Bd 1000 a1/\Bd 1000 a2/\Bd 1000 b0/\Bd 1000 b1/\Bd 1000 b2/\Bd 1000 c0/\Bd 1000 c1/\Bd 1000 c2/\Q (.int (sw a0 a1 a2 b0 b1 b2 c0 c1 c2))
def oY(κ:SE):DSp:=λj Q Ed=>∃(i h g:Int) (f e d:Int) (c b a:Int),j=[T3 i h g,T3 f e d,T3 c b a]/\ow Q i h g f e d c b a
def sP (a0 a1 f:Int) (e b1 d:Int) (c b a:Int):oY κ [T3 a0 a1 f,T3 e b1 d,T3 c b a] Q Ed=ow Q a0 a1 f e b1 d c b a:=by z_go
abbrev nY(a0 a1 a2:Int)(b0 b1 b2:Int):Prop:=Bd 200 a0/\Bd 200 a1/\Bd 200 a2/\Bd 200 b0/\Bd 200 b1/\Bd 200 b2/\Q (.tup [.int (a0*b1 - b0*a1),.int (a0*b2 - b0*a2)])
def oM(κ:SE):DSp:=λg Q Ed=>∃(f e d:Int) (c b a:Int),g=[T3 f e d,T3 c b a]/\nY Q f e d c b a
def sN (a0 a1 c:Int) (b b1 a:Int):oM κ [T3 a0 a1 c,T3 b b1 a] Q Ed=nY Q a0 a1 c b b1 a:=by z_go
abbrev xg(a:Sp)(b:Sp):Prop:=WB 400 a/\WB 400 b/\Q (.int (tn a b))
def xF(κ:SE):DSp:=λc Q Ed=>∃(a:Sp) (b:Sp),c=[SV a,SV b]/\xg Q a b
def E2 (a:Sp) (b:Sp):xF κ [SV a,SV b] Q Ed=xg Q a b:=by z_go
abbrev rN(w:Sp):Prop:=Q (SV (SQ w))
def mZ(κ:SE):DSp:=λa Q Ed=>∃(w:Sp),a=[SV w]/\rN Q w
theorem vQ (w:Sp):mZ κ [SV w] Q Ed=rN Q w:=by z_go
abbrev jV(w:Sp):Prop:=Q (SV (S9 w))
def j5(κ:SE):DSp:=λa Q Ed=>∃(w:Sp),a=[SV w]/\jV Q w
theorem pF (w:Sp):j5 κ [SV w] Q Ed=jV Q w:=by z_go
abbrev ot(p:Dt):Prop:=Q (.tup [.int p.1,.int p.2.1])
def oX(κ:SE):DSp:=λa Q Ed=>∃(p:Dt),a=[RH p]/\ot Q p
def yZ (p:Dt):oX κ [RH p] Q Ed=ot Q p:=by z_go
abbrev l8(ps:List Dt):Prop:=#[ps]<=60/\Q (.lst true ((ps.map TH).map SV))
def mz(κ:SE):DSp:=λb Q Ed=>∃(a:List Dt),b=[.lst false (a.map RH)]/\l8 Q a
def xE (ps:List Dt):mz κ [.lst false (ps.map RH)] Q Ed=l8 Q ps:=by z_go
abbrev kM(ps:List Dt)(col:D):Prop:=∃cs:Int->Bool,uy col cs/\#[ps]<=60/\Q (.lst true ((ps.filter λp=>cs p.2.2.1).map RH))
def kS(κ:SE):DSp:=λc Q Ed=>∃(b:List Dt) (a:D),c=[.lst false (b.map RH),a]/\kM Q b a
def vS (ps:List Dt) (col:D):kS κ [.lst false (ps.map RH),col] Q Ed=kM Q ps col:=by z_go
abbrev tW(ps:List Dt)(col:D):Prop:=∃cs:Int->Bool,uy col cs/\#[ps]<=60/\Q (.int (XQ cs ps))
def gG(κ:SE):DSp:=λc Q Ed=>∃(b:List Dt) (a:D),c=[.lst false (b.map RH),a]/\tW Q b a
def Ce (ps:List Dt) (col:D):gG κ [.lst false (ps.map RH),col] Q Ed=tW Q ps col:=by z_go
abbrev jW(ps:List Dt)(g0 g1 g2:Int)(col:D):Prop:=∃cs:Int->Bool,uy col cs/\#[ps]<=60/\Bd 1000 g0/\Bd 1000 g1/\Bd 1000 g2/\(∀p∈ps,GD p)/\Q (.tup [.int (wt cs g0 g1 g2 (-1) ps),.int (wt cs g0 g1 g2 0 ps),.int (wt cs g0 g1 g2 1 ps)])
def ib(κ:SE):DSp:=λf Q Ed=>∃(b:List Dt) (e d c:Int) (a:D),f=[.lst false (b.map RH),T3 e d c,a]/\jW Q b e d c a
def pG (ps:List Dt) (c b a:Int) (col:D):ib κ [.lst false (ps.map RH),T3 c b a,col] Q Ed=jW Q ps c b a col:=by z_go
abbrev kK(ps:yat):Prop:=#[ps]<64/\(∀p∈ps,SB p)/\Q (.lst true ((bJ [] ps).reverse.map Td))
def uf(κ:SE):DSp:=λb Q Ed=>∃(a:yat),b=[.lst false (a.map Td)]/\kK Q a
def sO (ps:yat):uf κ [.lst false (ps.map Td)] Q Ed=kK Q ps:=by z_go
abbrev rP(ps:yat):Prop:=#[ps]<64/\(∀p∈ps,SB p)/\∀ys,bN ys ps->#[ys]<=#[ps]->Q (.lst true ((aX ys).map Td))
def xv(κ:SE):DSp:=λb Q Ed=>∃(a:yat),b=[.lst false (a.map SV)]/\rP Q a
def EX (ps:yat):xv κ [.lst false (ps.map SV)] Q Ed=rP Q ps:=by z_go
abbrev fu(a:Sp)(b:Sp):Prop:=SB a/\SB b/\Q (.lst true ((gf a b).map RD))
def iT(κ:SE):DSp:=λc Q Ed=>∃(a:Sp) (b:Sp),c=[Td a,Td b]/\fu Q a b
def jJ (a:Sp) (b:Sp):iT κ [Td a,Td b] Q Ed=fu Q a b:=by z_go
abbrev lx(hs:yat):Prop:=0<#[hs]/\#[hs]<200/\(∀p∈hs,SB p)/\Q (.lst true ((aY hs).map RD))
def qK(κ:SE):DSp:=λb Q Ed=>∃(a:yat),b=[.lst false (a.map Td)]/\lx Q a
def qL (hs:yat):qK κ [.lst false (hs.map Td)] Q Ed=lx Q hs:=by z_go
abbrev gP(ps:List Dt)(ij:(Nat×Nat)):Prop:=ij.1<#[ps]/\ij.2<#[ps]/\Q (.bl (decide (TH (gp ps ij.1)≠TH (gp ps ij.2))))
def hJ(κ:SE):DSp:=λc Q Ed=>∃(a:List Dt) (b:(Nat×Nat)),c=[.lst false (a.map RH),WO b]/\gP Q a b
def qP (ps:List Dt) (a:(Nat×Nat)):hJ κ [.lst false (ps.map RH),WO a] Q Ed=gP Q ps a:=by z_go
abbrev jy(ps:List Dt):Prop:=#[ps]<=60/\Q (.lst true (((prs #[ps]).filter λij=>decide (TH (gp ps ij.1)≠TH (gp ps ij.2))).map WO))
def jI(κ:SE):DSp:=λb Q Ed=>∃(a:List Dt),b=[.lst false (a.map RH)]/\jy Q a
def uj (ps:List Dt):jI κ [.lst false (ps.map RH)] Q Ed=jy Q ps:=by z_go
abbrev kN(ps:List Dt)(ij:(Nat×Nat)):Prop:=ij.1<#[ps]/\ij.2<#[ps]/\(∀p∈ps,GD p)/\TH (gp ps ij.1)≠TH (gp ps ij.2)/\Q (RD (lnF (gp ps ij.1) (gp ps ij.2)))
def kT(κ:SE):DSp:=λc Q Ed=>∃(a:List Dt) (b:(Nat×Nat)),c=[.lst false (a.map RH),WO b]/\kN Q a b
def vT (ps:List Dt) (a:(Nat×Nat)):kT κ [.lst false (ps.map RH),WO a] Q Ed=kN Q ps a:=by z_go
abbrev fW(ps:List Dt)(ls:yau):Prop:=#[ps]<=60/\(∀p∈ps,GD p)/\#[ls]<=900/\(∀g∈ls,Bd 1000 g.1/\Bd 1000 g.2.1/\Bd 1000 g.2.2)/\∀ys,bO ys ls->Q (.lst true (ys.map (A8 ps)))
def mv(κ:SE):DSp:=λc Q Ed=>∃(a:List Dt) (b:yau),c=[.lst false (a.map RH),.lst false (b.map RD)]/\fW Q a b
def nh (ps:List Dt) (a:yau):mv κ [.lst false (ps.map RH),.lst false (a.map RD)] Q Ed=fW Q ps a:=by z_go
abbrev jx(ps:List Dt):Prop:=#[ps]<=30/\(∀p∈ps,GD p)/\Q (.lst true ((wY ps).map RD))
def jH(κ:SE):DSp:=λb Q Ed=>∃(a:List Dt),b=[.lst false (a.map RH)]/\jx Q a
def ug (ps:List Dt):jH κ [.lst false (ps.map RH)] Q Ed=jx Q ps:=by z_go
abbrev qr(w:Sp):Prop:=Q (.int (bC w))
def qO(κ:SE):DSp:=λa Q Ed=>∃(w:Sp),a=[SV w]/\qr Q w
def Br (w:Sp):qO κ [SV w] Q Ed=qr Q w:=by z_go
abbrev dY(a:Sp)(b:Sp):Prop:=WB 400 a/\WB 400 b/\Q (.bl (decide (tn a b=0/\Rp a b<0)))
def gU(κ:SE):DSp:=λc Q Ed=>∃(a:Sp) (b:Sp),c=[SV a,SV b]/\dY Q a b
def qJ (a:Sp) (b:Sp):gU κ [SV a,SV b] Q Ed=dY Q a b:=by z_go
abbrev fJ(a:Sp)(b:Sp):Prop:=WB 400 a/\WB 400 b/\Q (oL (pO a b))
def fN(κ:SE):DSp:=λc Q Ed=>∃(a:Sp) (b:Sp),c=[SV a,SV b]/\fJ Q a b
def oO (a:Sp) (b:Sp):fN κ [SV a,SV b] Q Ed=fJ Q a b:=by z_go
abbrev dU(a:Sp)(b:Sp)(e:Sp):Prop:=WB 400 a/\WB 400 b/\WB 400 e/\Q (oL (lN a b e))
def dX(κ:SE):DSp:=λc Q Ed=>∃(a:Sp) (b:Sp) (e:Sp),c=[SV a,SV b,SV e]/\dU Q a b e
def mh (a:Sp) (b:Sp) (e:Sp):dX κ [SV a,SV b,SV e] Q Ed=dU Q a b e:=by z_go
abbrev jS(ws:yat):Prop:=0<#[ws]/\#[ws]<4/\(∀w∈ws,WB 400 w)/\Q (oL (lO ws))
def oN(κ:SE):DSp:=λb Q Ed=>∃(a:yat),b=[.lst false (a.map SV)]/\jS Q a
def pD (ws:yat):oN κ [.lst false (ws.map SV)] Q Ed=jS Q ws:=by z_go
abbrev dM(a0 a1 a2:Int)(b0 b1 b2:Int)(g0 g1 g2:Int):Prop:=Bd 200 a0/\Bd 200 a1/\Bd 200 a2/\Bd 200 b0/\Bd 200 b1/\Bd 200 b2/\Bd 200 g0/\Bd 200 g1/\Bd 200 g2/\(SD (g0,g1,g2) (a0,a1,a2) (b0,b1,b2)).1≠0/\Q (RD (c8 (g0,g1,g2) (a0,a1,a2) (b0,b1,b2)))
def dO(κ:SE):DSp:=λj Q Ed=>∃(i h g:Int) (f e d:Int) (c b a:Int),j=[T3 i h g,T3 f e d,T3 c b a]/\dM Q i h g f e d c b a
def ic (a0 a1 f:Int) (e b1 d:Int) (c b a:Int):dO κ [T3 a0 a1 f,T3 e b1 d,T3 c b a] Q Ed=dM Q a0 a1 f e b1 d c b a:=by z_go
abbrev fi(cs:yau)(g0 g1 g2:Int):Prop:=#[cs]<=1000000/\(∀p∈cs,0<p.1/\CB 40 p)/\Bd 200 g0/\Bd 200 g1/\Bd 200 g2/\Q (.lst true ((eY (g0,g1,g2) cs).map RD))
def gW(κ:SE):DSp:=λe Q Ed=>∃(d:yau) (c b a:Int),e=[.lst false (d.map RD),T3 c b a]/\fi Q d c b a
def jG (cs:yau) (c b a:Int):gW κ [.lst false (cs.map RD),T3 c b a] Q Ed=fi Q cs c b a:=by z_go
abbrev qq(cs:yau)(gs:yau):Prop:=#[gs]<=1000/\(∀j,j<#[gs]->#[aV (gs.take j) cs]<=1000000/\∀p∈aV (gs.take j) cs,0<p.1/\CB 40 p)/\(∀g∈gs,Bd 200 g.1/\Bd 200 g.2.1/\Bd 200 g.2.2)/\∀t:Bool,Q (.lst t ((aV gs cs).map RD))
def qM(κ:SE):DSp:=λc Q Ed=>∃(b:yau) (a:yau),c=[.lst false (b.map RD),.lst false (a.map RD)]/\qq Q b a
def Bp (cs:yau) (gs:yau):qM κ [.lst false (cs.map RD),.lst false (gs.map RD)] Q Ed=qq Q cs gs:=by z_go
abbrev vC(cs:yau):Prop:=#[cs]<=1000000/\(∀p∈cs,CB 40 p)/\Q (.lst true ((kG cs).map RD))
def Bq(κ:SE):DSp:=λb Q Ed=>∃(a:yau),b=[.lst false (a.map RD)]/\vC Q a
def HE (cs:yau):Bq κ [.lst false (cs.map RD)] Q Ed=vC Q cs:=by z_go
abbrev iD(cs:yau)(gs:yau):Prop:=#[gs]<=1000/\(∀j,j<=#[gs]->#[aV (gs.take j) cs]<=1000000/\∀p∈aV (gs.take j) cs,0<p.1/\CB 40 p)/\(∀g∈gs,Bd 200 g.1/\Bd 200 g.2.1/\Bd 200 g.2.2)/\∃last:Nat,last<#[gs]/\(∀j,j<=last->aV (gs.take j) cs ≠ [])/\aV (gs.take (last+1)) cs=[]/\Q (.int (last:Int))
def iO(κ:SE):DSp:=λc Q Ed=>∃(b:yau) (a:yau),c=[.lst false (b.map RD),.lst false (a.map RD)]/\iD Q b a
def si (cs:yau) (gs:yau):iO κ [.lst false (cs.map RD),.lst false (gs.map RD)] Q Ed=iD Q cs gs:=by z_go
abbrev fV(gs:yau)(ns:yaf)(sh:yaf):Prop:=∃pk:yag,ns=pk.map (λ(k:Nat)=>(k:Int))/\#[pk]=#[sh]/\#[pk]<=3/\(∀k∈pk,k<#[gs])/\(∀g∈gs,Bd 200 g.1)/\(∀s∈sh,Bd 900 s)/\Q (.int (nE gs pk sh))
def mi(κ:SE):DSp:=λd Q Ed=>∃(c:yau) (b:yaf) (a:yaf),d=[.lst false (c.map RD),.lst false (b.map D.int),.lst false (a.map D.int)]/\fV Q c b a
def nc (gs:yau) (ns:yaf) (sh:yaf):mi κ [.lst false (gs.map RD),.lst false (ns.map D.int),.lst false (sh.map D.int)] Q Ed=fV Q gs ns sh:=by z_go
abbrev rO(cs:yau)(gs:yau):Prop:=#[gs]<=1000/\(∀j,j<=#[gs]->#[aV (gs.take j) cs]<=1000000/\∀p∈aV (gs.take j) cs,0<p.1/\CB 40 p)/\(∀g∈gs,Bd 200 g.1/\Bd 200 g.2.1/\Bd 200 g.2.2)/\∃last:Nat,last<#[gs]/\(∀j,j<=last->aV (gs.take j) cs ≠ [])/\aV (gs.take (last+1)) cs=[]/\∃r:yag×yaf,ik gs last (Ul last 1++Ul last 2)=some r/\Q (.lst true ((r.1.zip r.2).map ub))
def xu(κ:SE):DSp:=λc Q Ed=>∃(b:yau) (a:yau),c=[.lst false (b.map RD),.lst false (a.map RD)]/\rO Q b a
def EW (cs:yau) (gs:yau):xu κ [.lst false (cs.map RD),.lst false (gs.map RD)] Q Ed=rO Q cs gs:=by z_go
abbrev jw(ps:List Dt):Prop:=#[ps]<=60/\Q (.lst true ((axL ps).map RD))
def jF(κ:SE):DSp:=λb Q Ed=>∃(a:List Dt),b=[.lst false (a.map RH)]/\jw Q a
def ue (ps:List Dt):jF κ [.lst false (ps.map RH)] Q Ed=jw Q ps:=by z_go
abbrev iY(g0 g1 g2:Int):Prop:=Q (T3 (-g0) (-g1) (-g2))
def i6(κ:SE):DSp:=λd Q Ed=>∃(c b a:Int),d=[T3 c b a]/\iY Q c b a
def ng (c b a:Int):i6 κ [T3 c b a] Q Ed=iY Q c b a:=by z_go
abbrev fk(ps:List Dt):Prop:=#[ps]<=20/\(∀p∈ps,GD p)/\∀zs,bO zs (VD ps)->Q (.lst true ((bY ps zs).map cw))
def iN(κ:SE):DSp:=λb Q Ed=>∃(a:List Dt),b=[.lst false (a.map RH)]/\fk Q a
def se (ps:List Dt):iN κ [.lst false (ps.map RH)] Q Ed=fk Q ps:=by z_go
abbrev xf(xs:List WQ)(w:Int):Prop:=#[xs]<=2000/\Q (.lst true ((dJ xs w).map RD))
def xC(κ:SE):DSp:=λb Q Ed=>∃(a:List WQ) (w:Int),b=[.lst false (a.map cw),.int w]/\xf Q a w
def EZ (xs:List WQ) (w:Int):xC κ [.lst false (xs.map cw),.int w] Q Ed=xf Q xs w:=by z_go
abbrev n9(ps:List Dt):Prop:=#[ps]<=20/\(∀p∈ps,GD p)/\∀ys,bN ys (ps.map TH)->Q (.lst true (((aX ys).map sT).map RD))
def oS(κ:SE):DSp:=λb Q Ed=>∃(a:List Dt),b=[.lst false (a.map RH)]/\n9 Q a
def yV (ps:List Dt):oS κ [.lst false (ps.map RH)] Q Ed=n9 Q ps:=by z_go
abbrev gr(ps:List Dt)(xs:List WQ)(l:Int):Prop:=cY ps/\(∃zs,bO zs (VD ps)/\xs=bY ps zs)/\∀zs ys,bO zs (VD ps)->bN ys (ps.map TH)->Q (.lst true ((kG (cM ps zs ys (aK ps - l+1))).map RD))
def gF(κ:SE):DSp:=λc Q Ed=>∃(b:List Dt) (a:List WQ) (l:Int),c=[.lst false (b.map RH),.lst false (a.map cw),.int l]/\gr Q b a l
def pI (ps:List Dt) (xs:List WQ) (l:Int):gF κ [.lst false (ps.map RH),.lst false (xs.map cw),.int l] Q Ed=gr Q ps xs l:=by z_go
abbrev qt(ps:List Dt)(l:Int):Prop:=cY ps/\1<=l/\l<=aK ps/\∀zs ys,bO zs (VD ps)->bN ys (ps.map TH)->Q (.lst true ((kG (cM ps zs ys (aK ps - l+1))).map RD))
def qQ(κ:SE):DSp:=λb Q Ed=>∃(a:List Dt) (l:Int),b=[.lst false (a.map RH),.int l]/\qt Q a l
def Bs (ps:List Dt) (l:Int):qQ κ [.lst false (ps.map RH),.int l] Q Ed=qt Q ps l:=by z_go
abbrev fL(ps:List Dt)(xs:List WQ):Prop:=cY ps/\(∃zs,bO zs (VD ps)/\xs=bY ps zs)/\∀n,GrD ps n->Q (.int n)
def fP(κ:SE):DSp:=λc Q Ed=>∃(b:List Dt) (a:List WQ),c=[.lst false (b.map RH),.lst false (a.map cw)]/\fL Q b a
def oR (ps:List Dt) (xs:List WQ):fP κ [.lst false (ps.map RH),.lst false (xs.map cw)] Q Ed=fL Q ps xs:=by z_go
abbrev d5(ps:List Dt)(xs:List WQ)(n:Int):Prop:=cY ps/\(∃zs,bO zs (VD ps)/\xs=bY ps zs)/\GrD ps n/\∀L,SbR ps n L->Q (.lst true (L.map U4))
def hU(κ:SE):DSp:=λc Q Ed=>∃(b:List Dt) (a:List WQ) (n:Int),c=[.lst false (b.map RH),.lst false (a.map cw),.int n]/\d5 Q b a n
def qR (ps:List Dt) (xs:List WQ) (n:Int):hU κ [.lst false (ps.map RH),.lst false (xs.map cw),.int n] Q Ed=d5 Q ps xs n:=by z_go
abbrev nZ(ps:List Dt):Prop:=(ps=[]/\Ed (.ref κ.TooFew))∨(12<#[ps]/\Ed (.ref κ.TooMany))∨(cY ps/\#[ps]<=12/\∀n y L zs ys r,bO zs (VD ps)->bN ys (ps.map TH)->GrD ps n->kG (cM ps zs ys (aK ps - n+1))=y::r->SbR ps n L->Q (.tup [.int n,RD y,.lst true (L.map U4)]))
def oQ(κ:SE):DSp:=λb Q Ed=>∃(a:List Dt),b=[.lst false (a.map RH)]/\nZ κ Q Ed a
def yU (ps:List Dt):oQ κ [.lst false (ps.map RH)] Q Ed=nZ κ Q Ed ps:=by z_go
abbrev kL(a:Int):Prop:=Q (.bl true)
def kQ(κ:SE):DSp:=λb Q Ed=>∃(a:Int),b=[.int a]/\kL Q a
def vR (a:Int):kQ κ [.int a] Q Ed=kL Q a:=by z_go
abbrev iE(ns:yaf)(k:Int):Prop:=0<=k/\#[ns]<=63/\∀v:Int,Q (.int v)
def iP(κ:SE):DSp:=λb Q Ed=>∃(a:yaf) (k:Int),b=[.lst false (a.map D.int),.int k]/\iE Q a k
def sj (ns:yaf) (k:Int):iP κ [.lst false (ns.map D.int),.int k] Q Ed=iE Q ns k:=by z_go
abbrev iF(a:Int)(b:Int):Prop:=Q (.int (Int.gcd a b:Int))
def iR(κ:SE):DSp:=λc Q Ed=>∃(a:Int) (b:Int),c=[.int a,.int b]/\iF Q a b
def sr (a:Int) (b:Int):iR κ [.int a,.int b] Q Ed=iF Q a b:=by z_go
abbrev jU(c:Int)(k:Int)(v:Int):Prop:=0<=v/\v<=2/\∀p:Dt,GD p->Bd 40 p.1->Bd 40 p.2.1->0<p.2.2.2->Q (RH p)
def oV(κ:SE):DSp:=λa Q Ed=>∃(c:Int) (k:Int) (v:Int),a=[.int c,.int k,.int v]/\jU Q c k v
def yX (c:Int) (k:Int) (v:Int):oV κ [.int c,.int k,.int v] Q Ed=jU Q c k v:=by z_go
abbrev l6(ns:yaf)(s:Int)(m:Int):Prop:=#[ns]<=63/\s=2/\m=12/\∀ps:List Dt,cY ps->#[ps]<=12->Q (.lst true (ps.map RH))
def mq(κ:SE):DSp:=λb Q Ed=>∃(a:yaf) (s:Int) (m:Int),b=[.lst false (a.map D.int),.int s,.int m]/\l6 Q a s m
def xy (ns:yaf) (s:Int) (m:Int):mq κ [.lst false (ns.map D.int),.int s,.int m] Q Ed=l6 Q ns s m:=by z_go
abbrev eS(ps:List Dt)(h0 h1 h2:Int):Prop:=#[ps]<=30/\(∀p∈ps,GD p)/\(∀p∈ps,0<=p.2.2.2)/\HB (h0,h1,h2)/\∀n:Int,(∀g:Tr,IsL (h0,h1,h2) ps g->n=U0 g ps)->Q (.int n)
def gZ(κ:SE):DSp:=λe Q Ed=>∃(a:List Dt) (d c b:Int),e=[.lst false (a.map RH),T3 d c b]/\eS Q a d c b
def lE (ps:List Dt) (h0 b a:Int):gZ κ [.lst false (ps.map RH),T3 h0 b a] Q Ed=eS Q ps h0 b a:=by z_go
abbrev dZ(h0 h1 h2:Int):Prop:=Pr (h0,h1,h2)/\Q (.bl true)
def d9(κ:SE):DSp:=λd Q Ed=>∃(c b a:Int),d=[T3 c b a]/\dZ Q c b a
def jo (h0 b a:Int):d9 κ [T3 h0 b a] Q Ed=dZ Q h0 b a:=by z_go
abbrev og(x:(Tr×Int))(ps:List Dt)(l:Int):Prop:=#[ps]<=30/\(∀p∈ps,GD p)/\¬(x.1.2.1=0/\x.1.2.2=0)/\Bd 200 x.1.2.1/\Bd 200 x.1.2.2/\1<=x.2/\l<=wq (λp=>decide (0<=gd x.1 p)) ps/\Q (.bl true)
def oU(κ:SE):DSp:=λb Q Ed=>∃(x:(Tr×Int)) (a:List Dt) (l:Int),b=[U4 x,.lst false (a.map RH),.int l]/\og Q x a l
def yW (x:(Tr×Int)) (ps:List Dt) (l:Int):oU κ [U4 x,.lst false (ps.map RH),.int l] Q Ed=og Q x ps l:=by z_go
abbrev l5(L:List (Tr×Int))(ps:List Dt)(l:Int):Prop:=#[ps]<=30/\(∀p∈ps,GD p)/\Im ps l L/\Q (.bl true)
def ml(κ:SE):DSp:=λb Q Ed=>∃(L:List (Tr×Int)) (a:List Dt) (l:Int),b=[.lst false (L.map U4),.lst false (a.map RH),.int l]/\l5 Q L a l
def xx (L:List (Tr×Int)) (ps:List Dt) (l:Int):ml κ [.lst false (L.map U4),.lst false (ps.map RH),.int l] Q Ed=l5 Q L ps l:=by z_go
abbrev fq(d:D)(ps:List Dt):Prop:=∃(n:Int) (y:Tr) (L:List (Tr×Int)),d=.tup [.int n,RD y,.lst false (L.map U4)]/\cY ps/\Pr y/\CB 40 y/\aK ps<=3*n/\(∀g,IsL y ps g->U0 g ps=n)/\Im ps (aK ps - n) L/\Q (.bl true)
def iQ(κ:SE):DSp:=λb Q Ed=>∃(d:D) (a:List Dt),b=[d,.lst false (a.map RH)]/\fq Q d a
def sk (d:D) (ps:List Dt):iQ κ [d,.lst false (ps.map RH)] Q Ed=fq Q d ps:=by z_go
abbrev dD(ps:List Dt)(b:D):Prop:=((ps=[]/\b=.bl true)∨(12<#[ps]/\b=.bl false))/\Q (.bl true)
def fE(κ:SE):DSp:=λc Q Ed=>∃(a:List Dt) (b:D),c=[.lst false (a.map RH),b]/\dD Q a b
def fQ (ps:List Dt) (b:D):fE κ [.lst false (ps.map RH),b] Q Ed=dD Q ps b:=by z_go
end
section
variable(P:Program)(w:World)(K:yac)(mg:yam)(base:Heap)(κ:SE)
abbrev Fo:Prop:=SN P w K mg base "sign" 1 ["number"] (xD κ)
abbrev ky:Prop:=SN P w K mg base "common_divisor" 1 ["one", "other"] (fO κ)
abbrev zr:Prop:=SN P w K mg base "lowest" 2 ["numbers"] (jq κ)
abbrev xO:Prop:=SN P w K mg base "reduced" 2 ["triple", "lead"] (oW κ)
abbrev Cm:Prop:=SN P w K mg base "picks" 1 ["count", "size"] (uh κ)
abbrev Cn:Prop:=SN P w K mg base "value" 1 ["gauge", "place"] (um κ)
abbrev Fn:Prop:=SN P w K mg base "side" 2 ["gauge", "place"] (iS κ)
abbrev Dx:Prop:=SN P w K mg base "is_level" 1 ["gauge"] (mj κ)
abbrev xK:Prop:=SN P w K mg base "crossed" 1 ["one", "other"] (j4 κ)
abbrev Nm:Prop:=SN P w K mg base "line" 3 ["one", "other"] (xA κ)
abbrev Ih:Prop:=SN P w K mg base "facing" 1 ["place", "way"] (cR κ)
abbrev Ld:Prop:=SN P w K mg base "place" 3 ["by", "x", "y"] (ui κ)
abbrev nk:Prop:=SN P w K mg base "place_of" 1 ["spot"] (mr κ)
abbrev Nn:Prop:=SN P w K mg base "rank" 2 ["one", "other"] (rT κ)
abbrev Le:Prop:=SN P w K mg base "swing" 1 ["one", "two", "three"] (oY κ)
abbrev K8:Prop:=SN P w K mg base "arrow" 1 ["one", "other"] (oM κ)
abbrev Fp:Prop:=SN P w K mg base "turn" 1 ["one", "other"] (xF κ)
abbrev Nj:Prop:=SN P w K mg base "back" 1 ["way"] (mZ κ)
abbrev Fj:Prop:=SN P w K mg base "left_of" 1 ["way"] (j5 κ)
abbrev k6:Prop:=SN P w K mg base "spot_of" 1 ["dot"] (oX κ)
abbrev DH:Prop:=SN P w K mg base "spots_of" 2 ["dots"] (mz κ)
abbrev sC:Prop:=SN P w K mg base "of_colour" 1 ["dots", "colour"] (kS κ)
abbrev K9:Prop:=SN P w K mg base "chain" 2 ["places"] (uf κ)
abbrev Nl:Prop:=SN P w K mg base "hull" 3 ["spots"] (xv κ)
abbrev yL:Prop:=SN P w K mg base "thin_bounds" 2 ["one", "other"] (iT κ)
abbrev Ie:Prop:=SN P w K mg base "bounds" 3 ["corners"] (qK κ)
abbrev wz:Prop:=SN P w K mg base "on_two_spots" 2 ["dots", "pair"] (hJ κ)
abbrev zu:Prop:=SN P w K mg base "spot_pairs" 3 ["dots"] (jI κ)
abbrev BB:Prop:=SN P w K mg base "pair_line" 4 ["dots", "pair"] (kT κ)
abbrev DF:Prop:=SN P w K mg base "split_by" 4 ["dots", "lines"] (mv κ)
abbrev zt:Prop:=SN P w K mg base "pair_lines" 5 ["dots"] (jH κ)
abbrev zq:Prop:=SN P w K mg base "length" 1 ["way"] (qO κ)
abbrev wx:Prop:=SN P w K mg base "are_opposite" 2 ["one", "other"] (gU κ)
abbrev sV:Prop:=SN P w K mg base "balance_of_two" 3 ["one", "other"] (fN κ)
abbrev pL:Prop:=SN P w K mg base "balance_of_three" 3 ["one", "two", "three"] (dX κ)
abbrev Fg:Prop:=SN P w K mg base "balance" 4 ["ways"] (oN κ)
abbrev uz:Prop:=SN P w K mg base "place_between" 4 ["one", "other", "gauge"] (dO κ)
abbrev xJ:Prop:=SN P w K mg base "clipped" 5 ["corners", "gauge"] (gW κ)
abbrev Ig:Prop:=SN P w K mg base "common" 6 ["corners", "gauges"] (qM κ)
abbrev PT:Prop:=SN P w K mg base "led" 3 ["corners"] (Bq κ)
abbrev yH:Prop:=SN P w K mg base "last_needed" 6 ["corners", "gauges"] (iO κ)
abbrev Dw:Prop:=SN P w K mg base "constant" 1 ["gauges", "numbers", "shares"] (mi κ)
abbrev Nk:Prop:=SN P w K mg base "bars" 7 ["corners", "gauges"] (xu κ)
abbrev zp:Prop:=SN P w K mg base "axis_lines" 1 ["dots"] (jF κ)
abbrev DD:Prop:=SN P w K mg base "opposite" 1 ["gauge"] (i6 κ)
abbrev o9:Prop:=SN P w K mg base "half_planes" 6 ["dots"] (iN κ)
abbrev Fm:Prop:=SN P w K mg base "rims" 1 ["planes", "weight"] (xC κ)
abbrev xN:Prop:=SN P w K mg base "hull_of" 4 ["dots"] (oS κ)
abbrev gL:Prop:=SN P w K mg base "region_within" 7 ["dots", "planes", "least"] (gF κ)
abbrev Ii:Prop:=SN P w K mg base "region" 8 ["dots", "least"] (qQ κ)
abbrev sW:Prop:=SN P w K mg base "greatest_depth" 8 ["dots", "planes"] (fP κ)
abbrev wA:Prop:=SN P w K mg base "shallow_bars" 8 ["dots", "planes", "found"] (hU κ)
abbrev xM:Prop:=SN P w K mg base "deepest" 9 ["dots"] (oQ κ)
abbrev lK:Prop:=SN P w K mg base "_law_whole" 1 ["_law_found"] (kQ κ)
abbrev pf:Prop:=SN P w K mg base "_law_cell_at" 1 ["_law_script", "_law_k"] (iP κ)
abbrev yJ:Prop:=SN P w K mg base "_law_divisor" 1 ["_law_one", "_law_other"] (iR κ)
abbrev Fi:Prop:=SN P w K mg base "_law_dot" 1 ["_law_cell", "_law_kind", "_law_heavy"] (oV κ)
abbrev DC:Prop:=SN P w K mg base "_law_dots" 2 ["_law_script", "_law_start", "_law_most"] (mq κ)
abbrev BA:Prop:=SN P w K mg base "_law_depth" 1 ["_law_dots_here", "_law_here"] (gZ κ)
abbrev wy:Prop:=SN P w K mg base "_law_is_place" 2 ["_law_found"] (d9 κ)
abbrev Fh:Prop:=SN P w K mg base "_law_bar" 2 ["_law_row", "_law_dots_here", "_law_least"] (oU κ)
abbrev Dy:Prop:=SN P w K mg base "_law_bars" 3 ["_law_rows", "_law_dots_here", "_law_least"] (ml κ)
abbrev yI:Prop:=SN P w K mg base "_law_deepest" 4 ["_law_found", "_law_dots_here"] (iQ κ)
abbrev yK:Prop:=SN P w K mg base "_law_refused" 10 ["_law_dots_here", "_law_few"] (fE κ)
end
local macro_rules|`(tactic|fin2)=>`(tactic| (intro ds Q E h; repeat (first | (cases h.1; rfl) | calc Exists.elim h λ_ h => ?_)))
section
variable{P:Program}{w:World}{K:yac}{mg:yam}{base:Heap}{κ:SE}{f:Addr}{fd:FuncData}
theorem Q8(x:Str)(N:yah)(d:D)(a:yas):cG (x::N) (d::a)=some (.val d)::cG N a:=rfl
theorem Ra(x:Str)(N:yah):cG (x::N) []=none::cG N []:=rfl
theorem Q9:cG [] []=[]:=rfl
local macro_rules|`(tactic|x_go)=>do
 let l := ("Q8 Ra Q9".splitOn " ").toArray.map λs => Lean.mkIdent s.toName
 `(tactic| simp only [$[$l:ident],*])
local macro_rules|`(tactic|lk)=>do
 let l := ("nF D3 zZ IH IF WV dB NM dOr NR Kp Kr dIf zY dC uJ D4 NY IG uH dCB dIs NZ N1 QC QD C5 iB Ph Pk OG JC Ml JD Mn j9 F8 F9 OJ D0 NS Cu Cw LJ LK zV OA OC OB List.map_cons List.map_nil Oz qU Kd yC HR HQ HS qV E8 Ci mB rx0 rx1 rx2 rx3 lx0 lx1 lx2 lx3 jM OR OO OP O6 O7 Qb Oj LG List.cons_append List.nil_append Mb Mc O8 L5 L0 Gy LZ Eh Gw Gx Gv Gu true_and NP IJ NL M9 Gr false_and and_false false_or or_false exists_false D6 Ks MR MQ gN NU Bool.false_eq_true Bool.true_eq_false if_false if_true decide_eq_true_eq Bool.not_eq_eq_eq_not Bool.not_true Bool.not_false decide_eq_false_iff_not ite_not Fs zD Ol NO Kq FR F1 Ky Ku FU NQ NW NV Kt uK da NN P7 D5 FT Om Oo MY PQ PR Ip N4 FQ NX List.set_cons_zero List.set_cons_succ Cv Qc E1 oP kR yY Cb Cf j6 xw pE EY qN Cc xB vU sP sN E2 vQ pF yZ xE vS Ce pG sO EX jJ qL qP uj vT nh ug Br qJ oO mh pD ic jG Bp HE si nc EW ue ng se EZ yV pI Bs oR qR yU vR sj sr yX xy lE jo yW xx sk fQ rR fK jh oo oh tX kh l4 jT xc lA tV l7 rQ ow nY xg rN jV ot l8 kM tW jW kK rP fu lx gP jy kN fW jx qr dY fJ dU jS dM fi qq vC iD fV rO jw iY fk xf n9 gr qt fL d5 nZ kL iE iF jU l6 eS dZ og l5 fq dD uq vX kW vW iV vY sS yB Ke Oz IX Cj yD zX Bu E9 P6 j7 FW Kv E7 Bt".splitOn " ").toArray.map λs => Lean.mkIdent s.toName
 `(tactic| (try dsimp only [at0, at1, at2, at3, $[$l:ident],*]);(try simp only [at0, at1, at2, at3, $[$l:ident],*]);try simp only [JU, A0])
def Mx (F:aw K "sign" "sign" Bh f fd) (C:SO K mg κ)    : aG P w K mg base (CX1 P w) 1 f fd ["number"] (aH K (xD κ)):=by
 refine aw.okN F MW (by fin2) λ_ _ _ _ _ _ a=>⟨_,(aj (aT (aD jR (dv 0) ae) (ak (ax ae)) aJ) (aj (aT (aD b6 (dv 0) ae) (ak (ax (bE ae))) aJ) (ak (ax ae)))),?_⟩
 rintro b Q Ed ⟨n,rfl,h⟩;x_go;unfold rR at h;lk;unfold sg at h
 lia
def rZ (F:aw K "common_divisor" "common_divisor" gA f fd) (C:SO K mg κ)   (a:mg "abs" = none):aG P w K mg base (CX1 P w) 1 f fd ["one", "other"] (aH K (fO κ)):=by
 refine aw.okN F cX (by fin2) λ_ _ _ _ _ _ d=>⟨_,(aj (kE PassesOwn.never (aD jc (dv 1) ae) (aj (az 2 cX.nd (au bM (dv 0) (dv 1))) (aj (az 0 cX.nd (dv 1)) (ak (az 1 cX.nd (dv 2)))))) (ak (ax (aM pT (by rfl) a boot_abs (aa (dv 0) af))))),?_⟩
 rintro e Q Ed ⟨a,b,rfl,h⟩;calc⟨λm c=>∃(x y:Int) (r:Option Sl),c=[some (.val (.int x)),some (.val (.int y)),r]/\Int.gcd x y=Int.gcd a b/\m=y.natAbs,⟨_,a,b,none,rfl,rfl,rfl⟩,?_⟩;rintro m c ⟨x,y,r,rfl,b,rfl⟩;lk;by_cases a:y=0
 cbv
 rw[if_neg a];calc⟨a,_,PM.ye x a,y,x.fmod y,_,rfl,(PM.Ar x y).trans b,rfl⟩
def G0 (F:aw K "lowest" "lowest" oD f fd) (C:SO K mg κ)  (b:ky P w K mg base κ)  : aG P w K mg base (CX1 P w) 2 f fd ["numbers"] (aH K (jq κ)):=by
 refine aw.okN F lD (by fin2) λ_ _ _ _ _ _ a=>⟨_,(aj (az 1 lD.nd ae) (aj (cF PassesOwn.never rfl (bb (dv 0)) (bq 2 lD.nd) (ak (az 1 lD.nd (aq b a (aa (dv 1) (aa (dv 2) af)))))) (ak (ax (bV (by rfl) (by calc bB (osc:=ao oD) (xs:=["number"]) (ns:=["divisor"]) (by decide +kernel)) (br.cons 1 br.nil) (bb (dv 0)) (λ_ _ _ _ _=>cf) (λ_ _ _ _ _=>(au dm (dv 0) (dv 1)))))))),?_⟩
 rintro i Q Ed ⟨ns,rfl,h⟩;x_go;let⟨g,c,d,h⟩:=h;lk;calc PD.ip ns D.int (λj b=>∃a:Option Sl,b=[some (.val (.lst false (ns.map D.int))),some (.val (.int (bX 0 (ns.take j)))),a]) (λR q=>?_) ⟨none,rfl⟩ ?_ ?_;lk;calc q;rintro j x e b ⟨a,rfl⟩;lk
 simp_all [zDQ,yj]
 rintro e ⟨a,rfl⟩;rw[zCH];lk;calc PD.comp_map ns D.int (λ_=>true) (λx=>.int (x.fdiv (bX 0 ns))) (λR q=>?_) (by rw[Tq];lia) (λx b K a=>?_) (λx b _ K a=>?_) ?_;lk;calc q;calc a;calc⟨⟨c,d.mono 29⟩,a⟩;rw[Xn.mpr (λ_ _=>rfl)];unfold dj at h;rw[UA]at h;calc h
def ED (F:aw K "reduced" "reduced" qF f fd) (C:SO K mg κ)  (b:ky P w K mg base κ)  : aG P w K mg base (CX1 P w) 2 f fd ["triple", "lead"] (aH K (oW κ)):=by
 refine aw.okN F oI (by fin2) λ_ _ _ _ _ _ a=>⟨_,(aj (az 2 oI.nd (aq b a (aa (aq b a (aa (ai (dv 0) ae) (aa (ai (dv 0) ae) af))) (aa (ai (dv 0) ae) af)))) (aj (aT (aD b6 (dv 1) ae) (ak (az 2 oI.nd (bE (dv 2)))) aJ) (ak (ax (bA (aa (au dm (ai (dv 0) ae) (dv 2)) (aa (au dm (ai (dv 0) ae) (dv 2)) (aa (au dm (ai (dv 0) ae) (dv 2)) af)))))))),?_⟩
 rintro i Q Ed ⟨x,y,z,l,rfl,h⟩;x_go;let⟨d,g,b,e,h⟩:=h;let c:=PM.uO (l:=l) d;let a:=(Fx (l:=l) d g b e).mono (show 4000<=8000 by decide);lk;let b:((Int.gcd (Int.gcd x y:Int) z:Nat):Int)=(PM.g3 x y z:Int):=rfl;rw[b];let b:∀g:Int,g=PM.Tz x y z l->CD x g/\CD y g/\CD z g/\#[([D.int (x.fdiv g),.int (y.fdiv g),.int (z.fdiv g)]:yas)]<=sizeLine/\Q (.tup [.int (x.fdiv g),.int (y.fdiv g),.int (z.fdiv g)]):=by rintro g rfl;exact⟨⟨c,a⟩,⟨c,a⟩,⟨c,a⟩,XA _ _ _,h⟩
 by_cases a:l<0;rw[Rr 46];calc b _ (by ext PM.Tz;cbv);rw[if_neg 46];calc b _ (by ext PM.Tz;rw[if_neg a])
def JG (F:aw K "picks" "picks" rS f fd) (C:SO K mg κ)   (a:mg "range" = none):aG P w K mg base (CX1 P w) 1 f fd ["count", "size"] (aH K (uh κ)):=by
 refine aw.okN F gC (by fin2) λ_ _ _ _ _ _ z=>⟨_,(aj (az 2 gC.nd (cL (aa (cL af) af))) (aj (cF PassesOwn.never rfl (ja (by rfl) a (aa (dv 1) af)) (bq 3 gC.nd) (aj (kD 4 gC.nd af) (aj (cF PassesOwn.never rfl (bb (dv 2)) (bq 5 gC.nd) (aj (az 6 gC.nd (nG (aD jR (dv 3) ae) (au aN (ai (dv 5) (bE ae)) ae) ae)) (ak (F2 4 (bV (by rfl) (by calc bB (osc:=ao rS) (xs:=["number"]) (ns:=["pick"]) (by decide +kernel)) (br.cons 5 br.nil) (Gj (by rfl) a (aa (dv 6) (aa (dv 0) af))) (λ_ _ _ _ _=>cf) (λ_ _ _ _ _=>(au aN (dv 1) (cL (aa (dv 0) af))))))))) (dI 4 (ak (az 2 gC.nd (dv 4))))))) (ak (ax (dv 2))))),?_⟩
 rintro E Q Ed ⟨n,s,rfl,h⟩;x_go;unfold oh at h;let⟨m,t,rfl,rfl,i,y,h⟩:=h;let p:∀j,j<=1->#[Ul m j]<=1000:=λj d=>Sd (mO m j) (Sd (Nat.pow_le_pow_left i j) (Sd (zC2 29 d) 29))
 lk;calc⟨Uw _,by rw[Tq];decide,?_⟩;calc PD.ip (List.range' 0 t) (λ(k:Nat)=>D.int (k:Int)) (λj a=>∃o n c b:Option Sl,a=[some (.val (.int m)),some (.val (.int t)),some (.val (.lst true ((Ul m j).map V8))),o,n,c,b]) (λR q=>?_) ⟨none,none,none,none,rfl⟩ ?_ ?_;lk;rw[A7];calc⟨⟨35,35⟩,q⟩;rintro j x s e ⟨o,n,c,b,rfl⟩;let⟨d,g⟩:=VE.mp e;rw[Z7]at d;rw[List.getElem_range']at g;let d:x=j:=35
 subst d;lk;calc⟨Uw _,?_⟩;calc PD.rB (Ul m x) V8 (λdone a=>∃c b:Option Sl,a=[some (.val (.int m)),some (.val (.int t)),some (.val (.lst true ((Ul m x).map V8))),some (.val (.int x)),some (.own ((done.flatMap (Wm m)).map V8)),c,b]) (λR q=>?_) ⟨_,_,rfl⟩ ?_ ?_;lk;calc q;rintro done a j e r ⟨c,b,rfl⟩;let⟨d,g⟩:=iw e;let A:fe a<=m:=by
  ext fe;cases e:a.getLast? with
  |none=>calc Uw _
  |some l=>have:=g l (List.mem_of_getLast? e);exact this
 let dl:#[done]*m<=1000*1000:=Nat.mul_le_mul (Sd (UD r) (p x 35)) i;let B:=Am m done;let u:#[Wm m a]<=1000:=by ext Wm;rw[RG,Z7];lia
 let rest:∀(v:D) (g:D->Prop),v=.int (fe a)->g (.lst true ((Wm m a).map V8))->uI (D6 (uJ (de 6) (uJ (de 0) D4))) [5] zV (WV nX (de 1) (IG (uJ (de 0) D4))) [some (.val (.int m)),some (.val (.int t)),some (.val (.lst true ((Ul m x).map V8))),some (.val (.int x)),some (.own ((done.flatMap (Wm m)).map V8)),some (.val (V8 a)),some (.val v)] g:=by rintro v g rfl g;calc PD.comp_map (List.range' (fe a) (m - fe a)) (λ(k:Nat)=>D.int (k:Int)) (λ_=>true) (λk=>V8 (a++[k])) (λR q=>?_) (by rw[Z7,Tq];lia) (λk l K i=>?_) (λk l _ K i=>?_) ?_;lk;rw[MS];calc⟨⟨35,35⟩,⟨35,35⟩,q⟩;lk;calc i;unfold V8 at i ⊢;lk;grind [List.map_append,ZD,List.length_map,sizeLine_eq];rw[Xn.mpr (λ_ _=>rfl)];unfold Wm at g;rw[UA]at g;exact g
 let g:∀v:D,∃xs,D.lst true ((Wm m a).map V8)=D.lst true xs/\#[List.map V8 (List.flatMap (Wm m) done)]+#[xs]<=sizeLine/\∃c b:Option Sl,([some (Sl.val (D.int m)),some (Sl.val (D.int t)),some (Sl.val (D.lst true (List.map V8 (Ul m x)))),some (Sl.val (D.int x)),some (Sl.own (List.map V8 (List.flatMap (Wm m) done)++xs)),some (Sl.val (V8 a)),some (Sl.val v)]:Ro)=[some (Sl.val (D.int m)),some (Sl.val (D.int t)),some (Sl.val (D.lst true (List.map V8 (Ul m x)))),some (Sl.val (D.int x)),some (Sl.own (List.map V8 (List.flatMap (Wm m) (done++[a])))),c,b]:=λv =>
  ⟨_,rfl,by rw[RG,RG,Tq];lia,_,_,by rw[List.flatMap_append,VB,List.flatMap_singleton]⟩
 lk;by_cases i:x=0;subst i;have:a=[]:=zBN d;subst this;rw[if_neg 35];calc rest _ _ rfl (g _);rw[Rr 35];let l:a ≠ []:=λe=>i (by rw[<- d,e];rfl)
 show dA (.lst true (a.map λ(k:Nat)=>D.int (k:Int))) _ _;rw[A0];calc Lg l ?_;rw[Fs];calc rest _ _ (by congr 1;lia) (g _);rintro j ⟨c,b,rfl⟩;lk;calc⟨_,_,_,_,rfl⟩;rintro s ⟨o,n,c,b,rfl⟩;lk;rw[Z7];calc h
def JK (F:aw K "value" "value" xo f fd) (C:SO K mg κ)    : aG P w K mg base (CX1 P w) 1 f fd ["gauge", "place"] (aH K (um κ)):=by
 refine aw.okN F J5 (by fin2) λ_ _ _ _ _ _ g=>⟨_,(ak (ax (au aN (au aN (au aE (ai (dv 0) ae) (ai (dv 1) ae)) (au aE (ai (dv 0) ae) (ai (dv 1) ae))) (au aE (ai (dv 0) ae) (ai (dv 1) ae))))),?_⟩
 rintro l Q Ed ⟨k,j,i,e,d,c,rfl,h⟩;x_go;let m:∀{x y:Int},Bd 1000 x->Bd 1000 y->CM x y:=λb a=>.inr (.inr ⟨b.mono 29,a.mono 29⟩)
 lk
 cbv
def Mw (F:aw K "side" "side" Bg f fd) (C:SO K mg κ)  (c:Fo P w K mg base κ) (b:Cn P w K mg base κ)  : aG P w K mg base (CX1 P w) 2 f fd ["gauge", "place"] (aH K (iS κ)):=by
 refine aw.okN F MV (by fin2) λ_ _ _ _ _ _ a=>⟨_,(ak (ax (aq c a (aa (aq b a (aa (dv 0) (aa (dv 1) af))) af)))),?_⟩
 rintro l Q Ed ⟨k,j,i,g,e,d,rfl,h⟩;x_go;lk
 cbv
def BS (F:aw K "is_level" "is_level" oA f fd) (C:SO K mg κ)    : aG P w K mg base (CX1 P w) 1 f fd ["gauge"] (aH K (mj κ)):=by
 refine aw.okN F B4 (by fin2) λ_ _ _ _ _ _ a=>⟨_,(ak (ax (kC (bT bF (ai (dv 0) ae) ae) (mE (bT bF (ai (dv 0) ae) ae))))),?_⟩
 rintro e Q Ed ⟨d,c,b,rfl,h⟩;x_go;lk
 lia
def Ex (F:aw K "crossed" "crossed" qw f fd) (C:SO K mg κ)    : aG P w K mg base (CX1 P w) 1 f fd ["one", "other"] (aH K (j4 κ)):=by
 refine aw.okN F EO (by fin2) λ_ _ _ _ _ _ l=>⟨_,(ak (ax (bA (aa (au aW (au aE (ai (dv 0) ae) (ai (dv 1) ae)) (au aE (ai (dv 1) ae) (ai (dv 0) ae))) (aa (au aW (au aE (ai (dv 0) ae) (ai (dv 1) ae)) (au aE (ai (dv 1) ae) (ai (dv 0) ae))) (aa (au aW (au aE (ai (dv 0) ae) (ai (dv 1) ae)) (au aE (ai (dv 1) ae) (ai (dv 0) ae))) af)))))),?_⟩
 rintro m Q Ed ⟨s,r,q,p,o,n,rfl,h⟩;x_go;let⟨i,g,e,d,c,b,h⟩:=h;let a:∀{x y:Int},Bd 200 x->Bd 200 y->CM x y:=λk j=>.inr (.inr ⟨k.mono 29,j.mono 29⟩)
 lk;calc⟨a g b,a c e,a e d,a b i,a i c,a d g,XA _ _ _,h⟩
def Mt (F:aw K "line" "line" Be f fd) (C:SO K mg κ)  (d:xK P w K mg base κ) (b:Dx P w K mg base κ) (c:xO P w K mg base κ)  : aG P w K mg base (CX1 P w) 3 f fd ["one", "other"] (aH K (xA κ)):=by
 refine aw.okN F C9 (by fin2) λ_ _ _ _ _ _ a=>⟨_,(aj (az 2 C9.nd (aq d a (aa (dv 0) (aa (dv 1) af)))) (aj (aT (bH (aq b a (aa (dv 2) af))) (ak tD) aJ) (ak (ax (aq c a (aa (dv 2) (aa (nG (aD jc (ai (dv 2) ae) ae) (ai (dv 2) ae) (ai (dv 2) ae)) af))))))),?_⟩
 rintro r Q Ed ⟨l,o,k,j,n,i,rfl,h⟩;x_go;let⟨g,e,d,c,b,a,m,h⟩:=h;let q:=gk e a b d;let B1:=gk d c a g;let p:=gk g b c e;lk;calc⟨g,e,d,c,b,a,?_⟩;rw[if_neg m];let b:¬(o*i - n*k=0/\k*j - i*l=0/\l*n - j*o=0):=λe=>m e.2
 unfold EL ld RD at h;by_cases a:k*j - i*l=0;rw[Rr a]at h;rw[Rr a];calc⟨b,q.mono 29,B1.mono 29,p.mono 29,h⟩;rw[if_neg a]at h;rw[if_neg a];calc⟨b,q.mono 29,B1.mono 29,p.mono 29,h⟩
def GY (F:aw K "facing" "facing" tZ f fd) (C:SO K mg κ)    : aG P w K mg base (CX1 P w) 1 f fd ["place", "way"] (aH K (cR κ)):=by
 refine aw.okN F Ht (by fin2) λ_ _ _ _ _ _ j=>⟨_,(ak (ax (bA (aa (bE (au aN (au aE (ai (dv 1) ae) (ai (dv 0) ae)) (au aE (ai (dv 1) ae) (ai (dv 0) ae)))) (aa (au aE (ai (dv 1) ae) (ai (dv 0) ae)) (aa (au aE (ai (dv 1) ae) (ai (dv 0) ae)) af)))))),?_⟩
 rintro k Q Ed ⟨i,g,e,w,rfl,h⟩;x_go;let⟨b,d,c,a,h⟩:=h;ext SV;lk;calc⟨Wn a.x d,Wn a.y c,Wn a.x b,Wn a.y b,XA _ _ _,h⟩
def JH (F:aw K "place" "place" xj f fd) (C:SO K mg κ)  (b:xO P w K mg base κ)  : aG P w K mg base (CX1 P w) 3 f fd ["by", "x", "y"] (aH K (ui κ)):=by
 refine aw.okN F J2 (by fin2) λ_ _ _ _ _ _ a=>⟨_,(aj (aT (aD bF (dv 0) ae) (ak tD) aJ) (ak (ax (aq b a (aa (bA (aa (dv 0) (aa (dv 1) (aa (dv 2) af)))) (aa (dv 0) af)))))),?_⟩
 rintro e Q Ed ⟨b,x,y,rfl,h⟩;x_go;let⟨a,d,c,b,h⟩:=h;lk;rw[if_neg a];calc⟨XA _ _ _,λz=>a z.1,d,c,b,h⟩
def BX (F:aw K "place_of" "place_of" oG f fd) (C:SO K mg κ)    : aG P w K mg base (CX1 P w) 1 f fd ["spot"] (aH K (mr κ)):=by
 refine aw.okN F B6 (by fin2) λ_ _ _ _ _ _ c=>⟨_,(ak (ax (bA (aa ae (aa (ai (dv 0) ae) (aa (ai (dv 0) ae) af)))))),?_⟩
 rintro d Q Ed ⟨a,b,rfl,h⟩;x_go;lk;calc⟨XA _ _ _,h⟩
def Mu (F:aw K "rank" "rank" Bf f fd) (C:SO K mg κ)  (b:Fo P w K mg base κ)  : aG P w K mg base (CX1 P w) 2 f fd ["one", "other"] (aH K (rT κ)):=by
 refine aw.okN F Dc (by fin2) λ_ _ _ _ _ _ a=>⟨_,(aj (az 2 Dc.nd (aq b a (aa (au aW (au aE (ai (dv 0) ae) (ai (dv 1) ae)) (au aE (ai (dv 1) ae) (ai (dv 0) ae))) af))) (aj (aT (aD jc (dv 2) ae) (ak (ax (dv 2))) aJ) (ak (ax (aq b a (aa (au aW (au aE (ai (dv 0) ae) (ai (dv 1) ae)) (au aE (ai (dv 1) ae) (ai (dv 0) ae))) af)))))),?_⟩
 rintro k Q Ed ⟨r,q,p,o,n,m,rfl,h⟩;x_go;let⟨j,i,g,e,d,c,h⟩:=h;let l:∀{x y:Int},Bd 1000 x->Bd 1000 y->CM x y:=λb a=>.inr (.inr ⟨b.mono 29,a.mono 29⟩)
 lk;unfold rk at h;split
 all_goals cbv
def JI (F:aw K "swing" "swing" xn f fd) (C:SO K mg κ)    : aG P w K mg base (CX1 P w) 1 f fd ["one", "two", "three"] (aH K (oY κ)):=by
 refine aw.okN F J3 (by fin2) λ_ _ _ _ _ _ l=>⟨_,(ak (ax (au aN (au aN (au aE (ai (dv 0) ae) (au aW (au aE (ai (dv 1) ae) (ai (dv 2) ae)) (au aE (ai (dv 2) ae) (ai (dv 1) ae)))) (au aE (ai (dv 1) ae) (au aW (au aE (ai (dv 2) ae) (ai (dv 0) ae)) (au aE (ai (dv 0) ae) (ai (dv 2) ae))))) (au aE (ai (dv 2) ae) (au aW (au aE (ai (dv 0) ae) (ai (dv 1) ae)) (au aE (ai (dv 1) ae) (ai (dv 0) ae))))))),?_⟩
 rintro u Q Ed ⟨L,J,I,H,G,E,B,A,z,rfl,h⟩;x_go;let⟨t,i,g,n,e,d,m,c,b,h⟩:=h;let a:∀{x y:Int},Bd 1000 x->Bd 1000 y->CM x y:=λj k=>.inr (.inr ⟨j.mono 29,k.mono 29⟩)
 let k:∀{x p q r s:Int},Bd 1000 x->Bd 1000 p->Bd 1000 q->Bd 1000 r->Bd 1000 s->CM x (p*q - r*s):=λj q p l o=>.inr (.inr ⟨j.mono 29,((q.mul p).sub (l.mul o)).mono 29⟩)
 lk;calc⟨a e b,a c d,k t e b c d,a c g,a i b,k n c g i b,a i d,a e g,k m i d e g,h⟩
def JE (F:aw K "arrow" "arrow" xh f fd) (C:SO K mg κ)    : aG P w K mg base (CX1 P w) 1 f fd ["one", "other"] (aH K (oM κ)):=by
 refine aw.okN F J1 (by fin2) λ_ _ _ _ _ _ i=>⟨_,(ak (ax (bA (aa (au aW (au aE (ai (dv 0) ae) (ai (dv 1) ae)) (au aE (ai (dv 1) ae) (ai (dv 0) ae))) (aa (au aW (au aE (ai (dv 0) ae) (ai (dv 1) ae)) (au aE (ai (dv 1) ae) (ai (dv 0) ae))) af))))),?_⟩
 rintro j Q Ed ⟨p,o,n,m,l,k,rfl,h⟩;x_go;let⟨b,g,e,a,d,c,h⟩:=h;lk;calc⟨Wn b d,Wn a g,Wn b c,Wn a e,Y6 _ _,h⟩
def My (F:aw K "turn" "turn" Bi f fd) (C:SO K mg κ)    : aG P w K mg base (CX1 P w) 1 f fd ["one", "other"] (aH K (xF κ)):=by
 refine aw.okN F MX (by fin2) λ_ _ _ _ _ _ c=>⟨_,(ak (ax (au aW (au aE (ai (dv 0) ae) (ai (dv 1) ae)) (au aE (ai (dv 1) ae) (ai (dv 0) ae))))),?_⟩
 rintro d Q Ed ⟨a,b,rfl,h⟩;x_go;let⟨b,a,h⟩:=h;ext SV;lk;calc⟨Wn b.x a.y,Wn a.x b.y,h⟩
def Mq (F:aw K "back" "back" Bc f fd) (C:SO K mg κ)    : aG P w K mg base (CX1 P w) 1 f fd ["way"] (aH K (mZ κ)):=by
 refine aw.okN F MT (by fin2) λ_ _ _ _ _ _ a=>⟨_,(ak (ax (bA (aa (bE (ai (dv 0) ae)) (aa (bE (ai (dv 0) ae)) af))))),?_⟩
 rintro b Q Ed ⟨w,rfl,h⟩;x_go;unfold rN at h;unfold SV at h ⊢;lk;calc⟨Y6 _ _,h⟩
def EC (F:aw K "left_of" "left_of" qE f fd) (C:SO K mg κ)    : aG P w K mg base (CX1 P w) 1 f fd ["way"] (aH K (j5 κ)):=by
 refine aw.okN F ES (by fin2) λ_ _ _ _ _ _ a=>⟨_,(ak (ax (bA (aa (bE (ai (dv 0) ae)) (aa (ai (dv 0) ae) af))))),?_⟩
 rintro b Q Ed ⟨w,rfl,h⟩;x_go;unfold jV at h;unfold SV at h ⊢;lk;calc⟨Y6 _ _,h⟩
def EE (F:aw K "spot_of" "spot_of" qG f fd) (C:SO K mg κ)    : aG P w K mg base (CX1 P w) 1 f fd ["dot"] (aH K (oX κ)):=by
 refine aw.okN F ET (by fin2) λ_ _ _ _ _ _ a=>⟨_,(ak (ax (bA (aa (ai (dv 0) ae) (aa (ai (dv 0) ae) af))))),?_⟩
 rintro b Q Ed ⟨p,rfl,h⟩;x_go;ext RH;lk;calc⟨Y6 _ _,h⟩
def BZ (F:aw K "spots_of" "spots_of" j0 f fd) (C:SO K mg κ)  (b:k6 P w K mg base κ)  : aG P w K mg base (CX1 P w) 2 f fd ["dots"] (aH K (mz κ)):=by
 refine aw.okN F B8 (by fin2) λ_ _ _ _ _ _ a=>⟨_,(ak (ax (bV (by rfl) (by calc bB (osc:=ao j0) (xs:=["dot"]) (ns:=[]) (by decide +kernel)) br.nil (bb (dv 0)) (λ_ _ _ _ _=>cf) (λ_ _ _ _ _=>(aq b a (aa (dv 0) af)))))),?_⟩
 rintro d Q Ed ⟨a,rfl,h⟩;x_go;let⟨c,h⟩:=h;calc PD.comp_map a RH (λ_=>true) (λp=>SV (TH p)) (λR q=>?_) (by rw[Tq];lia) (λp b K a=>?_) (λp b _ K a=>?_) ?_;lk;calc q;calc a;lk;calc a;rw[Xn.mpr (λ_ _=>rfl)];rw[UA]at h;calc h
def AR (F:aw K "of_colour" "of_colour" i4 f fd) (C:SO K mg κ)    : aG P w K mg base (CX1 P w) 1 f fd ["dots", "colour"] (aH K (kS κ)):=by
 refine aw.okN F Bm (by fin2) λ_ _ _ _ _ _ a=>⟨_,(ak (ax (bV (by rfl) (by calc bB (osc:=ao i4) (xs:=["dot"]) (ns:=["colour"]) (by decide +kernel)) (br.cons 1 br.nil) (bb (dv 0)) (λ_ _ _ _ _=>(vV (Vn.pt (bR (aD vg (dv 1) fR) (cO (aD (zc (by calc a.units)) (ai (dv 0) ae) (dv 1))))))) (λ_ _ _ _ _=>(dv 0))))),?_⟩
 rintro g Q Ed ⟨a,d,rfl,h⟩;x_go;let⟨b,c,e,h⟩:=h;calc PD.comp_map a RH (λp=>b p.2.2.1) RH (λR q=>?_) (by rw[Tq];lia) (λp b K a=>?_) (λp b _ K a=>?_) h;lk;calc q;ext RH;rcases c with⟨rfl,rfl⟩| ⟨k,rfl,rfl⟩;lk;calc a;lk;calc a;calc a
def JJ (F:aw K "total" "total" iJ f fd) (C:SO K mg κ)  (c:sC P w K mg base κ) (b:mg "sum" = none):aG P w K mg base (CX1 P w) 2 f fd ["dots", "colour"] (aH K (gG κ)):=by
 refine aw.okN F J4 (by fin2) λ_ _ _ _ _ _ a=>⟨_,(ak (ax (aM (uG rfl) (by rfl) b boot_sum (aa (bV (by rfl) (by calc bB (osc:=ao iJ) (xs:=["dot"]) (ns:=[]) (by decide +kernel)) br.nil (bb (aq c a (aa (dv 0) (aa (dv 1) af)))) (λ_ _ _ _ _=>cf) (λ_ _ _ _ _=>(ai (dv 0) ae))) af)))),?_⟩
 rintro k Q Ed ⟨c,j,rfl,h⟩;x_go;let⟨b,d,i,h⟩:=h;let e:=d.unt;unfold XQ at h;lk;calc PD.comp_map (c.filter λp=>b p.2.2.1) RH (λ_=>true) (λp=>.int p.2.2.2) (λR q=>?_) (by grind [List.length_filter_le,sizeLine_eq]) (λp g K a=>?_) (λp g _ K a=>?_) ⟨true,(c.filter λp=>b p.2.2.1).map λp=>p.2.2.2,46,h⟩;lk;simp only[e];calc⟨b,d,i,q⟩;calc a;ext RH;lk;calc a
def EF (F:aw K "weighed" "weighed" gJ f fd) (C:SO K mg κ)  (d:sC P w K mg base κ) (c:nk P w K mg base κ) (b:Fn P w K mg base κ) (e:k6 P w K mg base κ)  : aG P w K mg base (CX1 P w) 3 f fd ["dots", "gauge", "colour"] (aH K (ib κ)):=by
 refine aw.okN F oJ (by fin2) λ_ _ _ _ _ _ a=>⟨_,(aj (IP 3 oJ.nd (wM (bE ae) ae (wM ae ae (wM ae ae N8)))) (aj (cF PassesOwn.never rfl (bb (aq d a (aa (dv 0) (aa (dv 2) af)))) (bq 4 oJ.nd) (ak (Lx 3 (by calc y9 a) (aq b a (aa (dv 1) (aa (aq c a (aa (aq e a (aa (dv 4) af)) af)) af))) (ai (dv 4) ae)))) (ak (ax (bA (aa (Ae 3 (by calc y9 a) (bE ae)) (aa (Ae 3 (by calc y9 a) ae) (aa (Ae 3 (by calc y9 a) ae) af)))))))),?_⟩
 rintro u Q Ed ⟨e,c,b,a,d,rfl,h⟩;x_go;let⟨i,g,l,r,o,n,m,h⟩:=h;let k:=g.unt;lk;calc⟨[(.inl (-1),.int 0),(.inl 0,.int 0),(.inl 1,.int 0)],rfl,29,29,?_⟩;calc PD.rB (e.filter λp=>i p.2.2.1) RH (λdone j=>∃v,j=[some (.val (.lst false (e.map RH))),some (.val (T3 c b a)),some (.val d),some (.ob (.dk [(.inl (-1),.int (w3 c b a (-1) done)),(.inl 0,.int (w3 c b a 0 done)),(.inl 1,.int (w3 c b a 1 done))])),v]) (λR q=>?_) ⟨none,rfl⟩ ?_ ?_;lk;simp only[k];calc⟨i,g,l,q⟩;rintro done p d t Uo ⟨v,rfl⟩;let G:=m p 46;let e:c*1+b*p.1+a*p.2.1=gv c b a p:=by ext gv;lia
 lk;calc⟨r,o,n,Bd.mono (m:=2) (by ext Bd;decide) 29,G.x.mono 29,G.y.mono 29,?_⟩;rw[e];let s:=Na c b a;rcases sg3 (gv c b a p)with z|z|z;calc⟨.inl (-1),_,by rw[z];rfl,rfl,?_⟩;ext RH;lk
 simp_all [Tq,Qv]
 calc⟨.inl 0,_,by rw[z];rfl,rfl,?_⟩;ext RH;lk
 simp_all [Tq,Qw]
 calc⟨.inl 1,_,by rw[z];rfl,rfl,?_⟩;ext RH;lk
 simp_all [Tq,Qx]
 rintro d ⟨v,rfl⟩;lk;calc⟨.inl (-1),_,rfl,rfl,.inl 0,_,rfl,rfl,.inl 1,_,rfl,rfl,XA _ _ _,h⟩
def JF (F:aw K "chain" "chain" xi f fd) (C:SO K mg κ)  (b:Le P w K mg base κ) (c:mg "len" = none):aG P w K mg base (CX1 P w) 2 f fd ["places"] (aH K (uf κ)):=by
 refine aw.okN F ua (by fin2) λ_ _ _ _ _ _ a=>⟨_,(aj (kD 1 ua.nd af) (aj (cF PassesOwn.never rfl (bb (dv 0)) (bq 2 ua.nd) (aj (kE PassesOwn.never (Lz 1 (Vn.pt (p5 (aD jR (aM bL (by rfl) c Wr (aa (dv 1) af)) ae) (mG (aD Et (aq b a (aa (ai (dv 1) (bE ae)) (aa (ai (dv 1) (bE ae)) (aa (dv 2) af)))) ae))))) (ak (Ob 1))) (ak (eO 1 (dv 2))))) (dI 1 (ak (ax (dv 1)))))),?_⟩
 rintro t Q Ed ⟨a,rfl,h⟩;x_go;unfold kK at h;let⟨s,j,h⟩:=h;lk;calc⟨Uw _,?_⟩;calc PD.rB a Td (λdone b=>∃v:Option Sl,b=[some (.val (.lst false (a.map Td))),some (.own ((bJ [] done).reverse.map Td)),v]/\#[bJ [] done]<=#[done]/\∀p∈bJ [] done,SB p) ?_ ?_ ?_ ?_;intro R c;lk;calc c;exact⟨none,rfl,Sx _,by simp[bJ]⟩
 ·rintro done x q c Uo ⟨v,rfl,e,d⟩;lk;calc⟨λm b=>∃st:yat,b=[some (.val (.lst false (a.map Td))),some (.own (st.reverse.map Td)),some (.val (Td x))]/\m=#[st]/\cE st x=cE (bJ [] done) x/\#[st]<=#[done]/\∀p∈st,SB p,⟨_,_,rfl,rfl,rfl,e,d⟩,?_⟩;rintro m b ⟨st,rfl,rfl,k,o,g⟩;let d:cE st x=st->(#[st.reverse.map Td]<sizeLine/\∃v:Option Sl,([some (.val (.lst false (a.map Td))),some (.own (st.reverse.map Td++[Td x])),some (.val (Td x))]:Ro)=[some (.val (.lst false (a.map Td))),some (.own ((bJ [] (done++[x])).reverse.map Td)),v]/\#[bJ [] (done++[x])]<=#[done++[x]]/\∀p∈bJ [] (done++[x]),SB p):=λe=>by
   let a:bJ [] (done++[x])=x::st:=by rw[sE,<- k,e]
   rw[a];calc⟨by rw[RG,zBt,Tq];lia,_,by rw[zCz,VB];rfl,by simp;lia,λp e=>?_⟩;obtain z|z:=S8.mp e;rw[z];calc j x c;exact g p z
  lk;obtain _|⟨b,_|⟨a,r⟩⟩:=st;rw[if_neg 52];calc d rfl;rw[if_neg 52];exact d rfl
  ·rw[Rr (by simp;lia)];let i:(b::a::r).reverse.map Td=r.reverse.map Td++[Td a]++[Td b]:=52
   let n:=g a 52;let m:=g b 52;let l:=j x c;let c:Bd 1000 1:=by ext Bd;decide
   refine⟨_,by rw[i];calc Fu _ _ _,_,by rw[i];calc Iv _ _,?_⟩
   try simp only[kW]
   show oY κ [T3 1 a.1 a.2,T3 1 b.1 b.2,T3 1 x.1 x.2] _ _;rw[sP,ow];calc⟨c,n.x.mono 29,n.y.mono 29,c,m.x.mono 29,m.y.mono 29,c,l.x.mono 29,l.y.mono 29,?_⟩;rw[iB,jM];by_cases c:sw 1 a.1 a.2 1 b.1 b.2 1 x.1 x.2<=0
   ·let j:cr a b x<=0:=c;rw[Rr (by simpa using c)];calc⟨52,#[a::r],52,a::r,?_,rfl,?_,?_,λp e=>g p (U1 _ e)⟩;rw[i,List.dropLast_concat];simp
    ·rw[<- k];conv=>rhs;unfold cE
     rw[Rr j]
    simp at o ⊢;lia
   let j:¬cr a b x<=0:=c;rw[if_neg (by simpa using c)];exact d (by ext cE;rw[if_neg j])
 rintro q ⟨v,rfl,_⟩;lk;calc h
def Ms (F:aw K "hull" "hull" vF f fd) (C:SO K mg κ)  (b:K9 P w K mg base κ) (d:nk P w K mg base κ) (g:mg "len" = none) (c:mg "set" = none) (e:mg "sorted" = none):aG P w K mg base (CX1 P w) 3 f fd ["spots"] (aH K (xv κ)):=by
 refine aw.okN F C8 (by fin2) λ_ _ _ _ _ _ a=>⟨_,(aj (nK 1 C8.nd (by rfl) (by calc bB (osc:=ao vF) (xs:=["spot"]) (ns:=[]) (by decide +kernel)) br.nil (bb ((uM rfl (by calc Gi a) (by rfl) e (by rfl) c (dv 0))).YL) (λ_ _ _ _ _=>cf) (λ_ _ _ _ _=>(aq d a (aa (dv 0) af)))) (aj (aT (aD b6 (aM bL (by rfl) g Wr (aa (dv 1) af)) ae) (ak (ax (dv 1))) aJ) (ak (ax (au aN (WN.YL (eK (aq b a (aa (dv 1) af)) cC (cJ (bE ae)))) (WN.YL (eK (aq b a (aa (WN.YL (N7 (dv 1))) af)) cC (cJ (bE ae))))))))),?_⟩
 rintro o Q Ed ⟨c,rfl,h⟩;x_go;unfold rP at h;let⟨n,i,h⟩:=h;lk;refine zN (P:=λa=>bN a c/\#[a]<=#[c]) SV Td (λR g=>?_) (λa b=>by rw[Tq];omega) (λa b x m K k=>?_) λa b=>?_
 calc⟨false,c.map Za,by rw[KR],by rw[RG];omega,λk d=>?_,λj c=>?_⟩;let⟨p,_,e⟩:=SG.mp d;rw[<- e];calc List.cons_ne_nil _ _;let⟨a,rfl,b⟩:=Hl c;rw[<- KR];calc g a ⟨b,tU b⟩;ext SV;lk;calc k;let l:=b.2;let g:∀p∈a,SB p:=λp e=>i p ((b.1.2 p).mp e)
 let d:=h a b.1 b.2;let c:=kI [] a;let b:=kI [] a.reverse;simp only[List.length_nil,zBt]at c b;unfold aX at d;lk;rw[RG];split;rename_i c;rw[Rr (by omega)]at d;calc d;rename_i c;rw[if_neg (by omega)]at d;calc⟨by omega,g,?_⟩;rw[<- List.map_reverse,vW,sO,kK];calc⟨by rw[zBt];omega,λp e=>g p (zCR.mp e),true,_,rfl,?_⟩;rw[zS,zS];calc⟨?_,?_⟩;rw[zCY,zCY,RG,RG,zBt,zBt,Tq];omega;rw[<- List.map_dropLast,<- List.map_dropLast,<- VB];calc d
def w9 (F:aw K "thin_bounds" "thin_bounds" jE f fd) (C:SO K mg κ)  (d:K8 P w K mg base κ) (c:Nj P w K mg base κ) (b:Ih P w K mg base κ) (e:Fj P w K mg base κ)  : aG P w K mg base (CX1 P w) 2 f fd ["one", "other"] (aH K (iT κ)):=by
 refine aw.okN F iL (by fin2) λ_ _ _ _ _ _ a=>⟨_,(aj (az 2 iL.nd (nG (aD (nW (by calc a.units)) (dv 0) (dv 1)) (aq d a (aa (dv 0) (aa (dv 1) af))) (bA (aa ae (aa ae af))))) (aj (az 3 iL.nd (aq e a (aa (dv 2) af))) (ak (ax (cL (aa (aq b a (aa (dv 0) (aa (dv 2) af))) (aa (aq b a (aa (dv 1) (aa (aq c a (aa (dv 2) af)) af))) (aa (aq b a (aa (dv 0) (aa (dv 3) af))) (aa (aq b a (aa (dv 0) (aa (aq c a (aa (dv 3) af)) af))) af))))))))),?_⟩
 rintro r Q Ed ⟨a,b,rfl,h⟩;x_go;let⟨l,k,h⟩:=h;let j:Bd 200 1:=by ext Bd;decide
 let q:∀(p w:Sp) (K:D->Prop),SB p->WB 62 w->K (RD (bZ p w))->cR κ [Td p,SV w] K λ_=>False:=λp w K d c e=>by show cR κ [T3 1 p.1 p.2,SV w] K _;rw[qN,lA];exact⟨j,d.x.mono 29,d.y.mono 29,c.mono 29,e⟩
 let n:∀{w:Sp},WB 62 w->WB 62 (SQ w):=λc=>⟨pQ c.x,pQ c.y⟩
 let m:∀{w:Sp},WB 62 w->WB 62 (S9 w):=λc=>⟨pQ c.y,c.x⟩
 let i:∀w:Sp,WB 62 w->Q (.lst true ([bZ a w,bZ b (SQ w),bZ a (S9 w),bZ a (SQ (S9 w))].map RD))->j5 κ [SV w] (λd=>cR κ [Td a,SV w] (λx=>mZ κ [SV w] (λe=>cR κ [Td b,aU e] (λg=>cR κ [Td a,aU d] (λe=>mZ κ [aU d] (λd=>cR κ [Td a,aU d] (λd=>#[[x,g,e,d]]<=sizeLine/\Q (D.lst true [x,g,e,d])) λ_=>False) λ_=>False) λ_=>False) λ_=>False) λ_=>False) λ_=>False) λ_=>False:=λw c o=>by grind [pF,vQ,uq,sz4]
 unfold gf aS at h;lk;calc⟨(GU a).ok,(GU b).ok,?_⟩;by_cases c:a=b;rw[Rr c]at h;rw[if_neg (by rw[c,eQ];simp)];calc⟨Y6 _ _,i (1,0) ⟨by ext Bd;decide,by ext Bd;decide⟩ h⟩;rw[if_neg c]at h;rw[Rr (by rw[Oh];simpa using c)];show oM κ [T3 1 a.1 a.2,T3 1 b.1 b.2] _ _;rw[sN,nY];calc⟨j,l.x.mono 29,l.y.mono 29,j,k.x.mono 29,k.y.mono 29,?_⟩;let d:=Iq l k;unfold aS at d;rw[if_neg c]at d;calc i (1*b.1 - 1*a.1,1*b.2 - 1*a.2) d h
def GW (F:aw K "bounds" "bounds" oz f fd) (C:SO K mg κ)  (d:xK P w K mg base κ) (c:yL P w K mg base κ) (b:mg "len" = none) (e:mg "range" = none):aG P w K mg base (CX1 P w) 3 f fd ["corners"] (aH K (qK κ)):=by
 refine aw.okN F Hs (by fin2) λ_ _ _ _ _ _ a=>⟨_,(aj (aT (aD b6 (aM bL (by rfl) b Wr (aa (dv 0) af)) ae) (ak (ax (aq c a (aa (ai (dv 0) ae) (aa (ai (dv 0) (bE ae)) af))))) aJ) (ak (ax (bV (by rfl) (by calc bB (osc:=ao oz) (xs:=["index"]) (ns:=["corners"]) (by decide +kernel)) (br.cons 0 br.nil) (ja (by rfl) e (aa (aM bL (by rfl) b Wr (aa (dv 0) af)) af)) (λ_ _ _ _ _=>cf) (λ_ _ _ _ _=>(aq d a (aa (ai (dv 1) (au aW (dv 0) ae)) (aa (ai (dv 1) (dv 0)) af)))))))),?_⟩
 rintro n Q Ed ⟨a,rfl,h⟩;x_go;let⟨b,l,c,h⟩:=h;unfold aY at h;let g:∀i,i<#[a]->a[i]?=some (a.getD i (0,0)):=72
 let d:∀i,i<#[a]->SB (a.getD i (0,0)):=λi m=>c _ 46
 lk;rw[RG];by_cases c:#[a]<3;rw[Rr 35];rw[Rr c]at h;calc⟨_,bU (j:=0) (by rw[UR,g 0 b];rfl),_,Ft (by rw[RG];calc b) (by rw[RG,UR,g _ 35];rfl),?_⟩;rw[kW,kW,jJ,fu];calc⟨d 0 b,d _ 35,h⟩;rw[if_neg 35];rw[if_neg c]at h;calc PD.comp_map (List.range' 0 #[a]) (λ(k:Nat)=>D.int (k:Int)) (λ_=>true) (λk=>RD (eF (bK a k) (a.getD k (0,0)))) (λR q=>?_) (by grind [List.length_range',sizeLine_eq]) (λk c K e=>?_) (λk c _ K e=>?_) ?_;lk;rw[RG,A7];calc⟨⟨35,35⟩,q⟩;lk;calc e;let c:k<#[a]:=72
 let i:(k+#[a] - 1) % #[a]<#[a]:=Zn _ b;let at1:T7 (a.map Td) ((k:Int) - 1)=some (Td (bK a k)):=by have:=zG (a.map Td) k 1 46 (by rw[RG];calc b);rw[RG,UR,g _ i]at this;exact this
 let at0:T7 (a.map Td) (k:Int)=some (Td (a.getD k (0,0))):=bU 46;let B1:SB (bK a k):=d _ i;let g:=d k c;let b:Bd 200 1:=by ext Bd;decide
 lk;calc⟨_,at1,_,at0,?_⟩;show j4 κ [T3 1 (bK a k).1 (bK a k).2,T3 1 (a.getD k (0,0)).1 (a.getD k (0,0)).2] _ _;rw[pE,jT];calc⟨b,B1.x.mono 29,B1.y.mono 29,b,g.x.mono 29,g.y.mono 29,e⟩;rw[Xn.mpr (λ_ _=>rfl)];rw[UA]at h;calc h
def vo (F:aw K "on_two_spots" "on_two_spots" iI f fd) (C:SO K mg κ)  (b:k6 P w K mg base κ)  : aG P w K mg base (CX1 P w) 2 f fd ["dots", "pair"] (aH K (hJ κ)):=by
 refine aw.okN F vK (by fin2) λ_ _ _ _ _ _ a=>⟨_,(ak (ax (bT (nW (by calc a.units)) (aq b a (aa (ai (dv 0) (ai (dv 1) ae)) af)) (aq b a (aa (ai (dv 0) (ai (dv 1) ae)) af))))),?_⟩
 rintro e Q Ed ⟨c,d,rfl,h⟩;x_go;let⟨b,a,h⟩:=h;ext WO;lk;calc y8 b ?_;lk;calc y8 a ?_;lk;calc⟨(AN _ _).ok,(AN _ _).ok,?_⟩;rw[OU];calc h
def yQ (F:aw K "spot_pairs" "spot_pairs" eU f fd) (C:SO K mg κ)  (c:wz P w K mg base κ) (b:Cm P w K mg base κ) (d:mg "len" = none):aG P w K mg base (CX1 P w) 3 f fd ["dots"] (aH K (jI κ)):=by
 refine aw.okN F pC (by fin2) λ_ _ _ _ _ _ a=>⟨_,(aj (nK 1 pC.nd (by rfl) (by calc bB (osc:=ao eU) (xs:=["pick"]) (ns:=[]) (by decide +kernel)) br.nil (bb (aq b a (aa (aM bL (by rfl) d Wr (aa (dv 0) af)) (aa ae af)))) (λ_ _ _ _ _=>cf) (λ_ _ _ _ _=>(bA (aa (ai (dv 0) ae) (aa (ai (dv 0) ae) af))))) (ak (ax (bV (by rfl) (by calc bB (osc:=ao eU) (xs:=["pair"]) (ns:=["dots"]) (by decide +kernel)) (br.cons 0 br.nil) (bb (dv 1)) (λ_ _ _ _ _=>(vV (bH (aq c a (aa (dv 1) (aa (dv 0) af)))))) (λ_ _ _ _ _=>(dv 0)))))),?_⟩
 rintro i Q Ed ⟨b,rfl,h⟩;x_go;let⟨a,h⟩:=h;let g:#[prs #[b]]<=sizeLine:=by let e:=mO #[b] 2;rw[Jn,RG]at e;have:#[b] ^ 2<=60 ^ 2:=Nat.pow_le_pow_left a 2;grind [sizeLine_eq]
 lk;calc PD.comp_map (prs #[b]) (λa=>V8 [a.1,a.2]) (λ_=>true) WO (λR q=>?_) g (λa d K c=>?_) (λa d _ K c=>?_) ?_;lk;calc⟨#[b],2,46,rfl,35,29,?_⟩;rw[Jn,UA];calc q;calc c;ext V8;lk;calc⟨Y6 _ _,c⟩;rw[Xn.mpr (λ_ _=>rfl)];calc PD.comp_map (prs #[b]) WO (λa=>decide (TH (gp b a.1)≠TH (gp b a.2))) WO (λR q=>?_) g (λa d K c=>?_) (λa d _ K c=>?_) h;lk;calc q;let m:=CQ.mp (show(a.1,a.2)∈prs #[b] from d);lk
 lia
 calc c
def AS (F:aw K "pair_line" "pair_line" mf f fd) (C:SO K mg κ)  (d:Nm P w K mg base κ) (b:nk P w K mg base κ) (c:k6 P w K mg base κ)  : aG P w K mg base (CX1 P w) 4 f fd ["dots", "pair"] (aH K (kT κ)):=by
 refine aw.okN F Bn (by fin2) λ_ _ _ _ _ _ a=>⟨_,(ak (ax (aq d a (aa (aq b a (aa (aq c a (aa (ai (dv 0) (ai (dv 1) ae)) af)) af)) (aa (aq b a (aa (aq c a (aa (ai (dv 0) (ai (dv 1) ae)) af)) af)) af))))),?_⟩
 rintro k Q Ed ⟨e,g,rfl,h⟩;x_go;let⟨c,b,a,d,h⟩:=h;let G1:=a _ (mH c);let G2:=a _ (mH b);ext WO;lk;calc y8 c ?_;lk;calc y8 b ?_;lk;let a:Bd 200 1:=Bd.mono (m:=2) (by ext Bd;decide) 29;calc⟨a,G1.x.mono 29,G1.y.mono 29,a,G2.x.mono 29,G2.y.mono 29,?_,?_⟩;rintro⟨j,i⟩;calc d ?_;ext TH;grind;calc h
def BY (F:aw K "split_by" "split_by" jZ f fd) (C:SO K mg κ)  (b:pM P w K mg base "weighed" 3 ["dots", "gauge", "colour"] "colour" (ib κ)) (c:mg "set" = none) (d:mg "sorted" = none):aG P w K mg base (CX1 P w) 4 f fd ["dots", "lines"] (aH K (mv κ)):=by
 refine aw.okN F B7 (by fin2) λ_ _ _ _ _ _ a=>⟨_,(ak (ax (bV (by rfl) (by calc bB (osc:=ao jZ) (xs:=["each"]) (ns:=["dots"]) (by decide +kernel)) (br.cons 0 br.nil) (bb ((uM rfl (by calc Gi a) (by rfl) d (by rfl) c (dv 1))).YL) (λ_ _ _ _ _=>cf) (λ_ _ _ _ _=>(au aN (bA (aa (dv 0) af)) (i7 b (a.mono 29) (aa (dv 1) (aa (dv 0) af)))))))),?_⟩
 rintro q Q Ed ⟨c,d,rfl,h⟩;x_go;unfold fW at h;let⟨i,n,e,l,h⟩:=h;lk;refine zN (P:=λa=>bO a d) RD (A8 c) (λR m=>?_) (λa b=>by have:=jd b;rw[Tq];lia) (λa b x g K k=>?_) λa b=>?_
 calc⟨false,d.map YR,by rw[KY],by rw[RG];calc e,λk j=>?_,λo d=>?_⟩;let⟨p,_,e⟩:=SG.mp j;rw[<- e];calc List.cons_ne_nil _ _;let⟨a,rfl,b⟩:=Hm d;rw[KY];calc m a b;let⟨j,e,d⟩:=l x ((b.2 x).mp g);lk;calc⟨ZD _,?_⟩;show ib κ [.lst false (c.map RH),T3 x.1 x.2.1 x.2.2,.RZ] _ _;rw[pG,jW];calc⟨λ_=>true,.inl ⟨rfl,rfl⟩,i,j,e,d,n,?_⟩;lk;calc⟨by rw[Tq];show 4<=_;lia,k⟩;calc h a b
def yP (F:aw K "pair_lines" "pair_lines" gQ f fd) (C:SO K mg κ)  (c:BB P w K mg base κ) (b:zu P w K mg base κ)  : aG P w K mg base (CX1 P w) 5 f fd ["dots"] (aH K (jH κ)):=by
 refine aw.okN F yS (by fin2) λ_ _ _ _ _ _ a=>⟨_,(ak (ax (bV (by rfl) (by calc bB (osc:=ao gQ) (xs:=["pair"]) (ns:=["dots"]) (by decide +kernel)) (br.cons 0 br.nil) (bb (aq b a (aa (dv 0) af))) (λ_ _ _ _ _=>cf) (λ_ _ _ _ _=>(aq c a (aa (dv 1) (aa (dv 0) af))))))),?_⟩
 rintro i Q Ed ⟨a,rfl,h⟩;x_go;let⟨b,g,h⟩:=h;let c:#[sps a]<=sizeLine:=by have:=CN a;unfold wY at this;have:#[a]*#[a]<=30*30:=Nat.mul_le_mul b b;grind [sizeLine_eq]
 calc PD.comp_map (sps a) WO (λ_=>true) (λb=>RD (lnF (gp a b.1) (gp a b.2))) (λR q=>?_) c (λb e K d=>?_) (λb e _ K d=>?_) ?_;lk;calc⟨35,q⟩;calc d;let⟨a,b,c⟩:=mR.mp e;lk;calc⟨35,b,g,c,d⟩;rw[Xn.mpr (λ_ _=>rfl)];unfold wY at h;rw[UA]at h;calc h
def GZ (F:aw K "length" "length" t6 f fd) (C:SO K mg κ)   (a:mg "abs" = none):aG P w K mg base (CX1 P w) 1 f fd ["way"] (aH K (qO κ)):=by
 refine aw.okN F Hu (by fin2) λ_ _ _ _ _ _ b=>⟨_,(ak (ax (au aN (aM pT (by rfl) a boot_abs (aa (ai (dv 0) ae) af)) (aM pT (by rfl) a boot_abs (aa (ai (dv 0) ae) af))))),?_⟩
 rintro c Q Ed ⟨w,rfl,h⟩;x_go;ext SV;lk;calc h
def vi (F:aw K "are_opposite" "are_opposite" iG f fd) (C:SO K mg κ)  (b:Fp P w K mg base κ)  : aG P w K mg base (CX1 P w) 2 f fd ["one", "other"] (aH K (gU κ)):=by
 refine aw.okN F vH (by fin2) λ_ _ _ _ _ _ a=>⟨_,(ak (ax (kC (bT bF (aq b a (aa (dv 0) (aa (dv 1) af))) ae) (mE (bT b6 (au aN (au aE (ai (dv 0) ae) (ai (dv 1) ae)) (au aE (ai (dv 0) ae) (ai (dv 1) ae))) ae))))),?_⟩
 rintro g Q Ed ⟨a,b,rfl,h⟩;x_go;unfold dY at h;let⟨e,d,h⟩:=h;lk;calc⟨e,d,?_⟩;by_cases c:tn a b=0;rw[Rr c];ext SV;lk;calc⟨Wn e.x d.x,Wn e.y d.y,?_⟩;let e:decide (tn a b=0/\Rp a b<0)=decide (a.1*b.1+a.2*b.2<0):=by rw[decide_eq_decide];exact⟨λq=>q.2,λq=>⟨c,q⟩⟩
 rw[e]at h;calc h;rw[if_neg c];rw[decide_eq_false (λq=>c q.1)]at h;calc h
def rY (F:aw K "balance_of_two" "balance_of_two" gw f fd) (C:SO K mg κ)  (d:wx P w K mg base κ) (b:zq P w K mg base κ) (c:zr P w K mg base κ)  : aG P w K mg base (CX1 P w) 3 f fd ["one", "other"] (aH K (fN κ)):=by
 refine aw.okN F sd (by fin2) λ_ _ _ _ _ _ a=>⟨_,(aj (aT (bP (bH (aq d a (aa (dv 0) (aa (dv 1) af))))) (ak (ax fR)) aJ) (ak (ax (aq c a (aa (cL (aa (aq b a (aa (dv 1) af)) (aa (aq b a (aa (dv 0) af)) af))) af))))),?_⟩
 rintro j Q Ed ⟨a,b,rfl,h⟩;x_go;let⟨d,c,h⟩:=h;lk;calc⟨d,c,?_⟩;unfold pO at h;split;rename_i c;rw[Rr c]at h;let g:a≠(0,0):=λe=>by have:=c.2;unfold Rp at this;cbv
 let i:=tJ g;let e:Bd 402 (bC a):=wV d;calc⟨Y6 _ _,?_⟩;show jq κ [D.lst false ([bC b,bC a].map D.int)] _ _;rw[kR,jh];let g:=LS (d:=bC b) (x:=bC a) 35;calc⟨52,by show((Int.gcd ((Int.gcd 0 (bC b):Nat):Int) (bC a):Nat):Int)≠0;lia,IW e 35,h⟩;rename_i c;rw[if_neg c]at h;calc h
def pH (F:aw K "balance_of_three" "balance_of_three" cQ f fd) (C:SO K mg κ)  (d:zr P w K mg base κ) (b:Fp P w K mg base κ) (c:mg "max" = none) (e:mg "min" = none):aG P w K mg base (CX1 P w) 3 f fd ["one", "two", "three"] (aH K (dX κ)):=by
 refine aw.okN F dW (by fin2) λ_ _ _ _ _ _ a=>⟨_,(aj (az 3 dW.nd (cL (aa (aq b a (aa (dv 1) (aa (dv 2) af))) (aa (aq b a (aa (dv 2) (aa (dv 0) af))) (aa (aq b a (aa (dv 0) (aa (dv 1) af))) af))))) (aj (aT (aD b6 (aM (Lm rfl) (by rfl) c boot_max (aa (dv 3) af)) ae) (ak (nK 3 dW.nd (by rfl) (by calc bB (osc:=ao cQ) (xs:=["each"]) (ns:=[]) (by decide +kernel)) br.nil (bb (dv 3)) (λ_ _ _ _ _=>cf) (λ_ _ _ _ _=>(bE (dv 0))))) aJ) (aj (aT (aD Et (aM (Ln rfl) (by rfl) e boot_min (aa (dv 3) af)) ae) (ak (ax fR)) aJ) (ak (ax (aq d a (aa (dv 3) af))))))),?_⟩
 rintro B Q Ed ⟨a,b,e,rfl,h⟩;x_go;let⟨d,c,g,h⟩:=h;let i:Bd 801 (tn a b):=(d.x.mul c.y).sub (c.x.mul d.y);unfold lN at h;generalize e1:tn b e=x at *;generalize e2:tn e a=y at *;generalize e3:tn a b=z at *;let b:∀u v w:Int,Bd 801 w->0<w->Q (.lst true ((dj [u,v,w]).map D.int))->jq κ [D.lst false ([u,v,w].map D.int)] Q λ_=>False:=λu v w e j q=>by
  rw[kR,jh];let a:w≠0:=35
  let gp:0<Int.gcd ((Int.gcd ((Int.gcd 0 u:Nat):Int) v:Nat):Int) w:=Int.gcd_pos_iff.mpr (.inr a);exact⟨52,by show((Int.gcd ((Int.gcd ((Int.gcd 0 u:Nat):Int) v:Nat):Int) w:Nat):Int)≠0;lia,(Ge e a).mono 29,q⟩
 lk;calc⟨c,g,g,d,d,c,?_⟩;rw[e1,e2,e3];calc⟨XA _ _ _,.inr ⟨true,[x,y,z],rfl,52,λm c a=>?_⟩⟩;let A:=a x 52;let t:=a y 52;let s:=a z 52;let r:m=x∨m=y∨m=z:=by simpa using c
 split;rename_i c;calc PD.comp_map [x,y,z] D.int (λ_=>true) (λk=>.int (-k)) (λR q=>?_) (by rw[Tq];simp) (λk d K a=>?_) (λk d _ K a=>?_) ?_;lk;calc q;lk;calc a;lk;calc a;calc⟨true,[-x,-y,-z],rfl,52,λn d a=>?_⟩;let e:n=-x∨n=-y∨n=-z:=by simpa using d
 rw[if_neg 35]at h ⊢;rw[Rr 35]at h;calc b _ _ _ (pQ i) 35 h;rename_i c;calc⟨true,[x,y,z],rfl,52,λn d a=>?_⟩;let e:n=x∨n=y∨n=z:=by simpa using d
 let p:=a x 52;let o:=a y 52;let l:=a z 52;split;rename_i d;rw[if_neg 35,if_neg 35]at h;calc h;rename_i d;rw[Rr 35]at h;calc b _ _ _ i 35 h
def Eu (F:aw K "balance" "balance" qv f fd) (C:SO K mg κ)  (e:pL P w K mg base κ) (c:sV P w K mg base κ) (d:zq P w K mg base κ) (b:mg "len" = none):aG P w K mg base (CX1 P w) 4 f fd ["ways"] (aH K (oN κ)):=by
 refine aw.okN F EN (by fin2) λ_ _ _ _ _ _ a=>⟨_,(aj (aT (aD bF (aM bL (by rfl) b Wr (aa (dv 0) af)) ae) (ak (ax (nG (aD bF (aq d a (aa (ai (dv 0) ae) af)) ae) (cL (aa ae af)) fR))) aJ) (aj (aT (aD bF (aM bL (by rfl) b Wr (aa (dv 0) af)) ae) (ak (ax (aq c a (aa (ai (dv 0) ae) (aa (ai (dv 0) ae) af))))) aJ) (ak (ax (aq e a (aa (ai (dv 0) ae) (aa (ai (dv 0) ae) (aa (ai (dv 0) ae) af)))))))),?_⟩
 rintro j Q Ed ⟨a,rfl,h⟩;x_go;let⟨c,g,i,h⟩:=h;obtain _|⟨a,_|⟨b,_|⟨e,_|⟨z,r⟩⟩⟩⟩:=a;simp at c;let d:Q (oL (sZ a)):=h;unfold sZ at d;lk;by_cases c:bC a=0;rw[Rr c]at d ⊢;calc⟨ZD _,d⟩;rw[if_neg c]at d ⊢;calc d;let d:Q (oL (pO a b)):=h;lk
 cbv
 let d:Q (oL (lN a b e)):=h;lk
 cbv
 simp at g
 lia
def tQ (F:aw K "place_between" "place_between" gR f fd) (C:SO K mg κ)  (c:Ld P w K mg base κ) (b:Cn P w K mg base κ)  : aG P w K mg base (CX1 P w) 4 f fd ["one", "other", "gauge"] (aH K (dO κ)):=by
 refine aw.okN F gE (by fin2) λ_ _ _ _ _ _ a=>⟨_,(aj (az 3 gE.nd (aq b a (aa (dv 2) (aa (dv 0) af)))) (aj (az 4 gE.nd (aq b a (aa (dv 2) (aa (dv 1) af)))) (ak (ax (aq c a (aa (au aW (au aE (dv 4) (ai (dv 0) ae)) (au aE (dv 3) (ai (dv 1) ae))) (aa (au aW (au aE (dv 4) (ai (dv 0) ae)) (au aE (dv 3) (ai (dv 1) ae))) (aa (au aW (au aE (dv 4) (ai (dv 0) ae)) (au aE (dv 3) (ai (dv 1) ae))) af)))))))),?_⟩
 rintro z Q Ed ⟨y,u,i,t,s,r,p,o,n,rfl,h⟩;x_go;let⟨g,e,d,c,b,a,k,l,j,q,h⟩:=h;let m:∀{x:Int},Bd 200 x->Bd 1000 x:=λh=>h.mono 29
 let hv:Bd 402 (p*y+o*u+n*i):=((k.mul g).add (l.mul e)).add ((j.mul d).mono 29);let i:Bd 402 (p*t+o*s+n*r):=((k.mul c).add (l.mul b)).add ((j.mul a).mono 29);lk;calc⟨m k,m l,m j,m g,m e,m d,m k,m l,m j,m c,m b,m a,Wn i g,Wn hv c,Wn i e,Wn hv b,Wn i d,Wn hv a,q,?_,?_,?_,?_⟩;calc((i.mul g).sub (hv.mul c)).mono 29;calc((i.mul e).sub (hv.mul b)).mono 29;calc((i.mul d).sub (hv.mul a)).mono 29;calc h
def Ew (F:aw K "clipped" "clipped" lC f fd) (C:SO K mg κ)  (e:uz P w K mg base κ) (a:Fn P w K mg base κ) (b:mg "len" = none) (d:mg "range" = none):aG P w K mg base (CX1 P w) 5 f fd ["corners", "gauge"] (aH K (gW κ)):=by
 refine aw.okN F gT (by fin2) λ_ _ _ _ _ _ c=>⟨_,(aj (kD 2 gT.nd af) (aj (cF PassesOwn.never rfl (ja (by rfl) d (aa (aM bL (by rfl) b Wr (aa (dv 0) af)) af)) (bq 3 gT.nd) (aj (az 4 gT.nd (ai (dv 0) (au aW (dv 3) ae))) (aj (az 5 gT.nd (ai (dv 0) (dv 3))) (aj (aT (aD b6 (au aE (aq a c (aa (dv 1) (aa (dv 4) af))) (aq a c (aa (dv 1) (aa (dv 5) af)))) ae) (ak (eO 2 (aq e c (aa (dv 4) (aa (dv 5) (aa (dv 1) af)))))) aJ) (ak (aT (aD Es (aq a c (aa (dv 1) (aa (dv 5) af))) ae) (ak (eO 2 (dv 5))) aJ)))))) (dI 2 (ak (ax (bV (by rfl) (by calc bB (osc:=ao lC) (xs:=["index"]) (ns:=["kept"]) (by decide +kernel)) (br.cons 2 br.nil) (ja (by rfl) d (aa (aM bL (by rfl) b Wr (aa (dv 2) af)) af)) (λ_ _ _ _ _=>(vV (aD (JA (by calc c.units)) (ai (dv 1) (dv 0)) (WN.YL (eK (dv 1) cC (cJ (dv 0))))))) (λ_ _ _ _ _=>(ai (dv 1) (dv 0))))))))),?_⟩
 rintro ds Q Ed ⟨a,g,d,b,rfl,h⟩;x_go;unfold fi at h;let⟨hl,r,y,A,u,h⟩:=h;let m:∀{x:Int},Bd 200 x->Bd 1000 x:=λh=>h.mono 29
 let t:∀p∈a,Bd 200 p.1/\Bd 200 p.2.1/\Bd 200 p.2.2:=λp e=>⟨(r p e).2.b.mono 29,(r p e).2.x.mono 29,(r p e).2.y.mono 29⟩
 let o:∀{i:yau} {k:Nat} {p:Tr},i[k]?=some p->T7 (i.map RD) (k:Int)=some (RD p):=fun {i k p} e=>bU (by rw[UR,e];rfl)
 lk;calc⟨Uw _,?_⟩;calc yf (List.range' 0 #[a]) (λ(k:Nat)=>D.int (k:Int)) (λj e=>∃E C B:Option Sl,e=[some (.val (.lst false (a.map RD))),some (.val (T3 g d b)),some (.own ((aP (g,d,b) (c8 (g,d,b)) (a.getLastD (0,0,0)) (a.take j)).map RD)),E,C,B]) (λR q=>?_) ⟨none,none,none,rfl⟩ ?_ ?_;lk;rw[RG,A7];calc⟨⟨35,35⟩,q⟩;rintro j k Rq l ⟨E,C,B,rfl⟩ KK s;let⟨e,i⟩:=VE.mp l;rw[Z7]at e;rw[List.getElem_range',Yl,Nat.one_mul]at i;subst i;let n:a[j]?=some a[j]:=T5 e;let U:T7 (a.map RD) ((j:Int) - 1)=some (RD ((a.take j).getLastD (a.getLastD (0,0,0)))):=by
  have:=zG (a.map RD) j 1 (by rw[RG];calc e) (by rw[RG];lia);rw[show((j:Int) - 1)=((j:Int) - ((1:Nat):Int))from rfl,this,RG,UR];let i:a[(j+#[a] - 1) % #[a]]?=some ((a.take j).getLastD (a.getLastD (0,0,0))):=by
   cases j with
   |zero =>
    have:(0+#[a] - 1) % #[a]=#[a] - 1:=by rw[Yl];exact Xp 35
    rw[this,List.take_zero,List.getLastD_nil,<- List.getLast?_eq_getElem?,zCX];cases hq:a.getLast? with
    |none=>rw[zDc]at hq;rw[hq]at e;calc absurd e 52
    |some z=>rfl
   |succ j =>
    have:(j+1+#[a] - 1) % #[a]=j:=by rw[show j+1+#[a] - 1=j+#[a] by lia,zDM];exact Xp 35
    rw[this,zCX,List.getLast?_take];simp;rw[T5 35];rfl
  rw[i];rfl
 let H:(a.take j).getLastD (a.getLastD (0,0,0))∈a:=by
  rw[zCX];cases hq:(a.take j).getLast? with
  |some z=>calc(zDL j a).subset (List.mem_of_getLast? hq)
  |none =>
   rw[Option.getD_none,zCX];cases c:a.getLast? with
   |some z=>calc List.mem_of_getLast? c
   |none=>rw[zDc]at c;rw[c]at e;exact absurd e 52
 let wl:=ur (g,d,b) (c8 (g,d,b)) (a.take j) (a.getLastD (0,0,0));let tl:#[a.take j]<=#[a]:=by rw[Wq];lia
 let l:=HU (g,d,b) (c8 (g,d,b)) (a.getLastD (0,0,0)) (a.take j) a[j];rw[show a.take j++[a[j]]=a.take (j+1)by rw[zDQ,n];rfl]at l;generalize (a.take j).getLastD (a.getLastD (0,0,0))=p at U H l;let G:a[j]∈a:=XW _;generalize Wt:a[j]=c at n G l;generalize aP (g,d,b) (c8 (g,d,b)) (a.getLastD (0,0,0)) (a.take j)=K at wl l ⊢;let⟨T,Q,O⟩:=t p H;let⟨N,M,L⟩:=t c G;let Y:#[K]<=2000000:=35
 let t:∀(e:yau) (J I:D),#[e]<=2000001->aP (g,d,b) (c8 (g,d,b)) (a.getLastD (0,0,0)) (a.take (j+1))=e++(if 0<=Rl (g,d,b) c then[c]else[])->iS κ [T3 g d b,RD c] (λx=>fH (λi j=>D.bl (decide (j<=i))) x (D.int 0) λx=>blQ x λk=>if k=true then#[e.map RD]<sizeLine/\KK [some (.val (.lst false (a.map RD))),some (.val (T3 g d b)),some (.own (e.map RD++[RD c])),some (.val (.int j)),some (.val J),some (.val I)]else KK [some (.val (.lst false (a.map RD))),some (.val (T3 g d b)),some (.own (e.map RD)),some (.val (.int j)),some (.val J),some (.val I)]) λ_=>False:=λe J I Y e=>by show iS κ [T3 g d b,T3 c.1 c.2.1 c.2.2] _ _;rw[j6,kh];calc⟨m y,m A,m u,m N,m M,m L,?_⟩;rw[iB,jM];let i:(0<=sg (g*c.1+d*c.2.1+b*c.2.2))↔0<=Rl (g,d,b) c:=Pt _;by_cases q:0<=Rl (g,d,b) c;rw[Rr q]at e;rw[Rr (U6 (i.mpr q))];calc⟨by rw[RG,Tq];lia,s _ ⟨_,_,_,by rw[e,VB];rfl⟩⟩;rw[if_neg q,Yx]at e;rw[if_neg (by rw[decide_eq_true_eq];calc λz=>q (i.mp z))];exact s _ ⟨_,_,_,by rw[e]⟩
 lk;calc⟨_,U,_,o n,?_⟩;rw[iV,iV];show iS κ [T3 g d b,T3 p.1 p.2.1 p.2.2] _ _;rw[j6,kh];calc⟨m y,m A,m u,m T,m Q,m O,?_⟩;show iS κ [T3 g d b,T3 c.1 c.2.1 c.2.2] _ _;rw[j6,kh];calc⟨m y,m A,m u,m N,m M,m L,?_⟩;let i:(sg (g*p.1+d*p.2.1+b*p.2.2)*sg (g*c.1+d*c.2.1+b*c.2.2)<0)↔Rl (g,d,b) p*Rl (g,d,b) c<0:=Pq _ _;let j:∀x:Int,Bd 64 (sg x):=λx=>by ext sg Bd;split;calc 29;split<;>decide
 rw[C5,iB,jM];calc⟨.inl (j _),?_⟩;by_cases q:Rl (g,d,b) p*Rl (g,d,b) c<0;rw[Rr (U6 (i.mpr q))];rw[Rr q]at l;show dO κ [T3 p.1 p.2.1 p.2.2,T3 c.1 c.2.1 c.2.2,T3 g d b] _ _;rw[ic,dM];calc⟨T,Q,O,N,M,L,y,A,u,?_,by rw[RG,Tq];lia,?_⟩;rcases By (r p H).1 (r c G).1 q with⟨_,_,z⟩| ⟨_,_,z⟩<;>exact λe=>by rw[e]at z;exact zCu _ z
 have:=t (K++[c8 (g,d,b) p c]) (RD p) (RD c) (by simp;lia) (by rw[l,WI]);rw[VB]at this;calc this;rw[if_neg (by rw[decide_eq_true_eq];calc λz=>q (i.mp z))];rw[if_neg q,Zi]at l;calc t K (RD p) (RD c) 35 l;rintro Rq ⟨E,C,B,rfl⟩;rw[Z7,zCH];let wl:=ur (g,d,b) (c8 (g,d,b)) a (a.getLastD (0,0,0));let c:eY (g,d,b) a=V9 [] (aP (g,d,b) (c8 (g,d,b)) (a.getLastD (0,0,0)) a):=by
  ext eY;cases hq:a.getLast? with
  |none =>
   rw[zDc]at hq;subst hq;rfl
  |some z=>rw[zCX,hq];rfl
 rw[c]at h;generalize aP (g,d,b) (c8 (g,d,b)) (a.getLastD (0,0,0)) a=K at wl h ⊢;let d:∀k,k<#[K]->K[k]?=some (K.getD k (0,0,0)):=λk b=>by rw[Wo,T5 b];rfl
 let g:∀k,k<=#[K]->PD.cutD (K.map RD) none (some (k:Int))=(K.take k).map RD:=λk b=>by ext PD.cutD;rw[HT.J0,HT.ki,List.drop_zero,Nat.sub_zero,RG,Yi b,List.map_take]
 let e:∀(l:yau) (x:Tr),(l.map RD).any (λz=>eqD z (RD x))=l.any λy=>decide (y=x):=λl x=>by
  rw[List.any_map];congr 1
  funext y
  exact Oi y x
 lk;calc PD.comp_map (List.range' 0 #[K]) (λ(k:Nat)=>D.int (k:Int)) (λk=>!(K.take k).any λy=>decide (y=K.getD k (0,0,0))) (λk=>RD (K.getD k (0,0,0))) (λR q=>?_) (by rw[Z7,Tq];lia) (λk b a c=>?_) (λk b _ a c=>?_) ?_;lk;rw[RG,A7];calc⟨⟨35,35⟩,q⟩;let a:k<#[K]:=by rw[zCy]at b;lia
 lk;calc⟨_,o (d k a),?_⟩;rw[g k 35];calc⟨?_,?_⟩;calc(iA _).okI;calc⟨(Uy.map iA).ok,_,.inr ⟨_,rfl⟩,by rw[e];calc c⟩;let a:k<#[K]:=by rw[zCy]at b;lia
 lk;calc⟨_,o (d k a),c⟩;let a:=Aa (0,0,0) K [];rw[List.length_nil,Zi]at a;rw[<- a,UA]at h;calc h
def GX (F:aw K "common" "common" tY f fd) (C:SO K mg κ)  (b:xJ P w K mg base κ)  : aG P w K mg base (CX1 P w) 6 f fd ["corners", "gauges"] (aH K (qM κ)):=by
 refine aw.okN F qH (by fin2) λ_ _ _ _ _ _ a=>⟨_,(aj (cF PassesOwn.never rfl (bb (dv 1)) (bq 2 qH.nd) (ak (az 0 qH.nd (aq b a (aa (dv 0) (aa (dv 2) af)))))) (ak (ax (dv 0)))),?_⟩
 rintro r Q Ed ⟨b,a,rfl,h⟩;x_go;let⟨o,d,e,h⟩:=h;calc PD.ip a RD (λj c=>∃(t:Bool) (v:Option Sl),c=[some (.val (.lst t ((aV (a.take j) b).map RD))),some (.val (.lst false (a.map RD))),v]) (λR q=>?_) ⟨false,none,rfl⟩ ?_ ?_;lk;calc q;rintro j g n c ⟨t,v,rfl⟩;let⟨l,p⟩:=VE.mp c;let⟨k,i⟩:=d j l;let⟨m,l,d⟩:=e g (UX c);lk;show gW κ [.lst false ((aV (a.take j) b).map RD),T3 g.1 g.2.1 g.2.2] _ _;rw[jG,fi];calc⟨k,i,m,l,d,?_⟩;let e:aV (a.take (j+1)) b=eY g (aV (a.take j) b):=by
  ext aV
  simp_all [zDQ,List.foldl_append]
 calc⟨true,_,by rw[e]⟩;rintro n ⟨t,v,rfl⟩;rw[zCH];calc h t
def O0 (F:aw K "led" "led" EM f fd) (C:SO K mg κ)  (E:Nn P w K mg base κ) (G:mg "len" = none) (I:mg "range" = none):aG P w K mg base (CX1 P w) 3 f fd ["corners"] (aH K (Bq κ)):=by
 refine aw.okN F vJ (by fin2) λ_ _ _ _ _ _ x=>⟨_,(aj (az 1 vJ.nd ae) (aj (cF PassesOwn.never rfl (ja (by rfl) I (aa (aM bL (by rfl) G Wr (aa (dv 0) af)) af)) (bq 2 vJ.nd) (ak (aT (aD b6 (aq E x (aa (ai (dv 0) (dv 2)) (aa (ai (dv 0) (dv 1)) af))) ae) (ak (az 1 vJ.nd (dv 2))) aJ))) (ak (ax (au aN (WN.YL (eK (dv 0) (cJ (dv 1)) cC)) (WN.YL (eK (dv 0) cC (cJ (dv 1))))))))),?_⟩
 rintro L Q Ed ⟨c,rfl,h⟩;x_go;unfold vC at h;let⟨J,r,h⟩:=h;let d:∀p∈c,Bd 1000 p.1/\Bd 1000 p.2.1/\Bd 1000 p.2.2:=λp o=>⟨(r p o).b.mono 29,(r p o).x.mono 29,(r p o).y.mono 29⟩
 let i:∀{k:Nat},k<#[c]->T7 (c.map RD) (k:Int)=some (RD (c.getD k (0,0,0)))/\c.getD k (0,0,0)∈c:=fun {k} y=>by
  let e:c[k]?=some (c.getD k (0,0,0)):=by rw[Wo,T5 y];rfl
  exact⟨bU (by rw[UR,e];rfl),UX e⟩
 lk;calc PD.ip (List.range' 0 #[c]) (λ(k:Nat)=>D.int (k:Int)) (λj u=>∃v:Option Sl,u=[some (.val (.lst false (c.map RD))),some (.val (.int ((ldI c j:Nat):Int))),v]) (λR q=>?_) ⟨none,rfl⟩ ?_ ?_;lk;rw[RG,A7];calc⟨⟨by omega,by omega⟩,q⟩;rintro j k H z ⟨v,rfl⟩;let⟨t,s⟩:=VE.mp z;rw[Z7]at t;rw[List.getElem_range',Yl,Nat.one_mul]at s;subst s;let n:=(uZ c j).1;let⟨B,m⟩:=i t;let⟨A,l⟩:=i (show ldI c j<#[c] by omega);let g:=KI c j;unfold stI at g;lk;calc⟨_,B,_,A,?_⟩;rw[iV,iV];generalize c.getD j (0,0,0)=a at *;generalize c.getD (ldI c j) (0,0,0)=b at *;show rT κ [T3 a.1 a.2.1 a.2.2,T3 b.1 b.2.1 b.2.2] _ _;rw[vU,rQ];calc⟨(d a m).1,(d a m).2.1,(d a m).2.2,(d b l).1,(d b l).2.1,(d b l).2.2,?_⟩;rw[iB,jM];by_cases q:rkT a b<0;rw[Rr q]at g;rw[Rr (U6 (show rk a.1 a.2.1 a.2.2 b.1 b.2.1 b.2.2<0 from q)),g];calc⟨_,rfl⟩;rw[if_neg q]at g;rw[if_neg (by rw[decide_eq_true_eq];calc q),g];calc⟨_,rfl⟩;rintro H ⟨v,rfl⟩;rw[Z7];let n:=(uZ c #[c]).1;lk;rw[NK _ (by rw[RG];calc n),zU _ (by rw[RG];calc n),<- List.map_drop,<- List.map_take,<- VB];calc⟨?_,h⟩;rw[RG,RG,Xg,Wq,Tq];omega
def w4 (F:aw K "last_needed" "last_needed" jA f fd) (C:SO K mg κ)  (b:xJ P w K mg base κ) (c:mg "len" = none):aG P w K mg base (CX1 P w) 6 f fd ["corners", "gauges"] (aH K (iO κ)):=by
 refine aw.okN F fy (by fin2) λ_ _ _ _ _ _ a=>⟨_,(aj (az 2 fy.nd (bE ae)) (aj (kE PassesOwn.never (aD jR (aM bL (by rfl) c Wr (aa (dv 0) af)) ae) (aj (N9 2 fy.nd ae OI) (ak (az 0 fy.nd (aq b a (aa (dv 0) (aa (ai (dv 1) (dv 2)) af))))))) (ak (ax (dv 2))))),?_⟩
 rintro o Q Ed ⟨g,b,rfl,h⟩;let⟨n,e,i,a,l,d,p,h⟩:=h;lk;calc⟨λm c=>∃(j:Nat) (t:Bool),j<=a+1/\m=a+1 - j/\c=[some (.val (.lst t ((aV (b.take j) g).map RD))),some (.val (.lst false (b.map RD))),some (.val (.int ((j:Int) - 1)))],⟨_,0,false,35,rfl,rfl⟩,?_⟩;rintro m c ⟨j,t,Y9,rfl,rfl⟩;lk;rw[RG];by_cases c:j=a+1
 cbv
 let c:=d j 35;rw[Rr (by have:=zCg.mpr c;lia)];let⟨k,h⟩:=e j 35;let c:b[j]?=some (b[j]' 35):=T5 _;let d:=i _ (XW (show j<#[b] by lia));calc⟨_,rfl,?_⟩;lk;let e:T7 (b.map RD) (j:Int)=some (RD (b[j]' 35)):=bU (by rw[UR,c];rfl);rw[show((j:Int) - 1+1)=(j:Int)by lia];calc⟨_,e,?_⟩;show gW κ [.lst false ((aV (b.take j) g).map RD),T3 (b[j]' 35).1 (b[j]' 35).2.1 (b[j]' 35).2.2] _ _;rw[jG,fi];calc⟨k,h,d.1,d.2.1,d.2.2,a+1 - (j+1),35,j+1,true,35,rfl,?_⟩;rw[tB c,show(((j+1:Nat):Int) - 1)=(j:Int)by lia]
def BR (F:aw K "constant" "constant" jX f fd) (C:SO K mg κ)   (b:mg "sum" = none) (a:mg "zip" = none):aG P w K mg base (CX1 P w) 1 f fd ["gauges", "numbers", "shares"] (aH K (mi κ)):=by
 refine aw.okN F B3 (by fin2) λ_ _ _ _ _ _ s=>⟨_,(ak (ax (aM (uG rfl) (by rfl) b boot_sum (aa (Ac (by rfl) (by calc bB (osc:=ao jX) (xs:=["number", "share"]) (ns:=["gauges"]) (by decide +kernel)) (br.cons 0 br.nil) (.cons (.cons .nil)) (Gk (by rfl) a (aa (dv 1) (aa (dv 2) af))) (λ_ _ _ _ _=>cf) (λ_ _ _ _ _=>(au aE (ai (ai (dv 2) (dv 0)) ae) (dv 1)))) af)))),?_⟩
 rintro t Q Ed ⟨c,ns,i,rfl,h⟩;x_go;unfold fV at h;let⟨d,rfl,p,r,a,o,m,h⟩:=h;let l:∀k∈d,c[k]?=some (c.getD k (0,0,0)):=λk g=>by rw[Wo,T5 (a k g)];rfl
 lk;calc PD.pV (d.zip i) (λz=>[.int ((z.1:Nat):Int),.int z.2]) (λ_=>true) (λz=>.int ((c.getD z.1 (0,0,0)).1*z.2)) (λR q=>?_) (by rw[List.length_zip,Tq];lia) (λ_=>rfl) (λz j K g=>?_) (λz j _ K g=>?_) ?_;lk;let e:=xI d i;rw[UA];rw[show(List.map ((λn=>D.int n)∘λ(k:Nat)=>(k:Int)) d)=d.map (λ(k:Nat)=>D.int (k:Int))from rfl,e];calc q;lk;calc g;let e:=zDe (a:=z.1) (b:=z.2) j;let at1:T7 (c.map RD) ((z.1:Nat):Int)=some (RD (c.getD z.1 (0,0,0))):=bU (by rw[UR,l z.1 e.1];rfl);lk;calc⟨_,at1,?_⟩;let a:=o _ (UX (l z.1 e.1));rw[show RD (c.getD z.1 (0,0,0))=D.tup [.int (c.getD z.1 (0,0,0)).1,.int (c.getD z.1 (0,0,0)).2.1,.int (c.getD z.1 (0,0,0)).2.2]from rfl];lk;calc⟨Wn a (m _ e.2),g⟩;rw[Xn.mpr (λ_ _=>rfl)];calc⟨true,(d.zip i).map λz=>(c.getD z.1 (0,0,0)).1*z.2,by rw[UA];rfl,?_⟩;calc h
def Mr (F:aw K "bars" "bars" vE f fd) (C:SO K mg κ)  (c:Fg P w K mg base κ) (d:Dw P w K mg base κ) (g:yH P w K mg base κ) (b:Cm P w K mg base κ) (h:mg "list" = none) (e:mg "zip" = none):aG P w K mg base (CX1 P w) 7 f fd ["corners", "gauges"] (aH K (xu κ)):=by
 refine aw.okN F mV (by fin2) λ_ _ _ _ _ _ a=>⟨_,(aj (az 2 mV.nd (aq g a (aa (dv 0) (aa (dv 1) af)))) (ak (cF PassesOwn.never rfl (bb (au aN (aq b a (aa (dv 2) (aa ae af))) (aq b a (aa (dv 2) (aa ae af))))) (bq 3 mV.nd) (aj (az 4 mV.nd (au aN (dv 3) (cL (aa (dv 2) af)))) (aj (az 5 mV.nd (aq c a (aa (bV (by rfl) (by calc bB (osc:=ao vE) (xs:=["number"]) (ns:=["gauges"]) (by decide +kernel)) (br.cons 1 br.nil) (bb (dv 4)) (λ_ _ _ _ _=>cf) (λ_ _ _ _ _=>(Af (ai (dv 1) (dv 0)) (cJ ae) cC))) af))) (ak (aT (Vn.pt (p5 (aD Mi (dv 5) fR) (mG (aD b6 (aq d a (aa (dv 1) (aa (dv 4) (aa (dv 5) af)))) ae)))) (ak (ax ((D8 rfl (by rfl) h (by rfl) e (aa (dv 4) (aa (dv 5) af)))).YL)) aJ))))))),?_⟩
 rintro t Q Ed ⟨k,l,rfl,h⟩;x_go;unfold rO at h;let⟨e,d,p,a,g,c,i,r,b,h⟩:=h;lk;calc⟨e,d,p,a,g,c,i,?_⟩;let c:∀i,i<=2->#[Ul a i]<=1000000:=λi d=>Sd (mO a i) (Sd (Nat.pow_le_pow_left (show a<=1000 by lia) i) (Sd (zC2 29 d) 29))
 calc PD.ip (Ul a 1++Ul a 2) V8 (λj d=>∃n m i:Option Sl,ik l a ((Ul a 1++Ul a 2).drop j)=some r/\d=[some (.val (.lst false (k.map RD))),some (.val (.lst false (l.map RD))),some (.val (.int (a:Int))),n,m,i]) (λR q=>?_) ⟨none,none,none,b,rfl⟩ ?_ ?_;lk;let e:=VB (f:=V8) (l₁:=Ul a 1) (l₂:=Ul a 2);rw[e]at q;calc⟨a,1,rfl,rfl,35,29,a,2,rfl,rfl,35,29,?_,q⟩;have:=c 1 29;have:=c 2 29;rw[RG,RG,Tq]
 lia
 rintro j o r b ⟨n,m,i,d,rfl⟩;let⟨e,c⟩:=VE.mp b;rw[zBf e,c]at d;let⟨s,e⟩:=Ei (UX b);let lt':∀k∈o++[a],k<#[l]:=λk c=>by
  obtain q|q:=S7.mp c;have:=e k q;lia;rw[Vp.mp q];exact g
 let j:∀k∈o++[a],l[k]?=some (l.getD k (0,0,0)):=λk c=>by rw[Wo,T5 (lt' k c)];rfl
 let b:(o.map λ(k:Nat)=>D.int (k:Int))++[D.int (a:Int)]=(o++[a]).map λ(k:Nat)=>D.int (k:Int):=by rw[VB];rfl
 ext V8;lk;let lo:#[o++[a]]<=3:=by rw[UQ,zCq];lia
 calc⟨ZD _,by rw[RG,Tq];show _+1<=_;lia,?_⟩;rw[b];calc PD.comp_map (o++[a]) (λ(k:Nat)=>D.int (k:Int)) (λ_=>true) (λk=>SV (vc (l.getD k (0,0,0)))) (λR q=>?_) (by rw[Tq];lia) (λk c K b=>?_) (λk c _ K b=>?_) ?_;lk;calc q;lk;calc b;lk;let e:T7 (l.map RD) ((k:Nat):Int)=some (RD (l.getD k (0,0,0))):=bU (by rw[UR,j k c];rfl);calc⟨_,e,_,rfl,by show¬(HT.SH 3 0 (some 1)=0/\_);calc λz=>absurd z.1 29,b⟩;rw[Xn.mpr (λ_ _=>rfl)];let q:(o++[a]).map (λk=>SV (vc (l.getD k (0,0,0))))=(Xl l (o++[a])).map SV:=by ext Xl;rw[UA];rfl
 let g:#[Xl l (o++[a])]=#[o++[a]]:=by ext Xl;rw[RG]
 let e:∀w∈Xl l (o++[a]),WB 400 w:=λw b=>by let⟨k,c,rfl⟩:=SG.mp b;let b:=p _ (UX (j k c));exact⟨b.2.1.mono 29,b.2.2.mono 29⟩
 rw[q,qV,vX,pD,jS];calc⟨by rw[g];simp,35,e,?_⟩;unfold ik at d;cases hb2:lO (Xl l (o++[a]))with
 |none =>
  rw[hb2]at d;rw[if_neg (show¬iX (oL none)=false by decide)];calc⟨_,_,_,d,rfl⟩
 |some b =>
  rw[hb2]at d;let B:=uC 35 hb2;let j:=Fv e 35 hb2;let e:#[o++[a]]=#[b]:=by rw[B.len,g]
  let g:(o++[a]).map (λ(k:Nat)=>D.int (k:Int))=((o++[a]).map λ(k:Nat)=>(k:Int)).map D.int:=by rw[UA];rfl
  rw[Rr (show iX (oL (some b))=false from rfl)];let c:aU (oL (some b))=.lst false (b.map D.int):=by show aU (.lst true (b.map D.int))=_;rw[qV,mB]
  rw[c];let c:bf ((o++[a]).map (λ(k:Nat)=>D.int (k:Int)))=((o++[a]).map λ(k:Nat)=>(k:Int)).map D.int:=by rw[g,mB]
  rw[c,nc,fV];calc⟨o++[a],rfl,e,lo,lt',λg c=>(p g c).1,j,?_⟩;rw[iB,jM];by_cases c:nE l (o++[a]) b<0;dsimp only at d;rw[Rr c]at d;cases d;rw[Rr (U6 c)];calc⟨_,_,_,_,_,_,rfl,rfl,rfl,by rw[RG,RG];calc e,by rw[RG];lia,?_⟩;rw[xI];calc h;dsimp only at d;rw[if_neg c]at d;rw[if_neg (by rw[decide_eq_true_eq];calc c)];exact⟨_,_,_,d,rfl⟩
 rintro r ⟨n,m,i,d,rfl⟩;rw[List.drop_length]at d;cases d
def yO (F:aw K "axis_lines" "axis_lines" eT f fd) (C:SO K mg κ)    : aG P w K mg base (CX1 P w) 1 f fd ["dots"] (aH K (jF κ)):=by
 refine aw.okN F yR (by fin2) λ_ _ _ _ _ _ d=>⟨_,(ak (ax (au aN (bV (by rfl) (by calc bB (osc:=ao eT) (xs:=["dot"]) (ns:=[]) (by decide +kernel)) br.nil (bb (dv 0)) (λ_ _ _ _ _=>cf) (λ_ _ _ _ _=>(bA (aa (bE (ai (dv 0) ae)) (aa ae (aa ae af)))))) (bV (by rfl) (by calc bB (osc:=ao eT) (xs:=["dot"]) (ns:=[]) (by decide +kernel)) br.nil (bb (dv 0)) (λ_ _ _ _ _=>cf) (λ_ _ _ _ _=>(bA (aa (bE (ai (dv 0) ae)) (aa ae (aa ae af))))))))),?_⟩
 rintro g Q Ed ⟨c,rfl,h⟩;x_go;let⟨e,h⟩:=h;lk;calc PD.comp_map c RH (λ_=>true) (λp=>RD (-p.1,1,0)) (λR q=>?_) (by rw[Tq];lia) (λx b K a=>?_) (λx b _ K a=>?_) ?_;lk;calc q;lk
 lia
 ext RH;lk;calc⟨XA _ _ _,a⟩;calc PD.comp_map c RH (λ_=>true) (λp=>RD (-p.2.1,0,1)) (λR q=>?_) (by rw[Tq];lia) (λx b K a=>?_) (λx b _ K a=>?_) ?_;lk;calc q;lk
 lia
 ext RH;lk;calc⟨XA _ _ _,a⟩;rw[Xn.mpr (λ_ _=>rfl),zD];unfold axL at h;rw[VB,UA,UA]at h;calc⟨by rw[RG,RG,Tq];lia,h⟩
def BW (F:aw K "opposite" "opposite" oE f fd) (C:SO K mg κ)    : aG P w K mg base (CX1 P w) 1 f fd ["gauge"] (aH K (i6 κ)):=by
 refine aw.okN F B5 (by fin2) λ_ _ _ _ _ _ a=>⟨_,(ak (ax (bA (aa (bE (ai (dv 0) ae)) (aa (bE (ai (dv 0) ae)) (aa (bE (ai (dv 0) ae)) af)))))),?_⟩
 rintro e Q Ed ⟨d,c,b,rfl,h⟩;x_go;lk;calc⟨XA _ _ _,h⟩
def wZ (F:aw K "half_planes" "half_planes" jz f fd) (C:SO K mg κ)  (e:zp P w K mg base κ) (c:DD P w K mg base κ) (d:zt P w K mg base κ) (b:DF P w K mg base κ)  : aG P w K mg base (CX1 P w) 6 f fd ["dots"] (aH K (iN κ)):=by
 refine aw.okN F iK (by fin2) λ_ _ _ _ _ _ a=>⟨_,(aj (kD 1 iK.nd af) (aj (cF PassesOwn.never rfl (bb (aq b a (aa (dv 0) (aa (au aN (aq d a (aa (dv 0) af)) (aq e a (aa (dv 0) af))) af)))) (bq 2 iK.nd) (aj (eO 1 (bA (aa (ai (dv 2) ae) (aa (ai (dv 2) ae) (aa (au aN (ai (dv 2) ae) (ai (dv 2) ae)) af))))) (ak (eO 1 (bA (aa (aq c a (aa (ai (dv 2) ae) af)) (aa (ai (dv 2) ae) (aa (au aN (ai (dv 2) ae) (ai (dv 2) ae)) af)))))))) (dI 1 (ak (ax (dv 1)))))),?_⟩
 rintro o Q Ed ⟨ps,rfl,h⟩;x_go;unfold fk at h;let⟨a,d,h⟩:=h;let e:=rH a;let i:∀g∈VD ps,Bd 1000 g.1/\Bd 1000 g.2.1/\Bd 1000 g.2.2:=λg j=>by
  obtain z|z:=S7.mp j;let⟨k,l,rfl⟩:=SG.mp z;let⟨a,b,c⟩:=mR.mp l;let F:=zb (d _ (mH (show k.1<#[ps] by lia))) (d _ (mH b)) c;calc⟨F.b0,F.b1,F.b2⟩;let b:Bd 1000 1:=Bd.mono (m:=2) (by ext Bd;decide) 29;let c:Bd 1000 0:=Bd.mono (m:=2) (by ext Bd;decide) 29;obtain z|z:=S7.mp z<;>let⟨p,a,rfl⟩:=SG.mp z;calc⟨((d p a).x.neg).mono 29,b,c⟩;exact⟨((d p a).y.neg).mono 29,c,b⟩
 lk;calc⟨Uw _,?_⟩;refine LM (P:=λzs=>bO zs (VD ps)) (A8 ps) (λR k=>?_) λzs a=>?_
 lk;calc⟨35,d,35,by rw[RG,RG,Tq];unfold VD at e;rw[UQ]at e;lia,?_⟩;rw[<- VB,vY,nh,fW];calc⟨35,d,Sd e 29,i,λb c=>k b c⟩;let n:=jd a;calc iq zs (A8 ps) (λdone b=>∃v:Option Sl,b=[some (.val (.lst false (ps.map RH))),some (.own ((bY ps done).map cw)),v]) (λR q=>q) ⟨none,rfl⟩ ?_ ?_;rintro done g d j Uo ⟨v,rfl⟩ K b;let ld:=(rM (ps:=ps) (zs:=done) 0).1;let e:bY ps (done++[g])=bY ps done++[(g,wl ps g 1,wl ps g 1+wl ps g 0)]++[(VC g,wl ps g (-1),wl ps g (-1)+wl ps g 0)]:=by ext bY;rw[List.flatMap_append,List.flatMap_singleton,WI];rfl
 let c:D.tup [T3 (-g.1) (-g.2.1) (-g.2.2),.int (wl ps g (-1)),.int (wl ps g (-1)+wl ps g 0)]=cw (VC g,wl ps g (-1),wl ps g (-1)+wl ps g 0):=rfl;ext A8;lk;calc⟨by rw[Tq];show 3<=_;decide,by rw[RG,Tq];lia,?_⟩;show i6 κ [T3 g.1 g.2.1 g.2.2] _ _;rw[ng,iY];calc⟨by rw[Tq];show 3<=_;decide,by rw[UQ,RG,Tq];show _+1<_;lia,b _ ⟨some (.val (.tup [RD g,.int (wl ps g (-1)),.int (wl ps g 0),.int (wl ps g 1)])),?_⟩⟩;rw[e,VB,VB,c];rfl;rintro d ⟨v,rfl⟩;lk;calc h zs a
def Mv (F:aw K "rims" "rims" vG f fd) (C:SO K mg κ)    : aG P w K mg base (CX1 P w) 1 f fd ["planes", "weight"] (aH K (xC κ)):=by
 refine aw.okN F MU (by fin2) λ_ _ _ _ _ _ c=>⟨_,(ak (ax (bV (by rfl) (by calc bB (osc:=ao vG) (xs:=["row"]) (ns:=["weight"]) (by decide +kernel)) (br.cons 1 br.nil) (bb (dv 0)) (λ_ _ _ _ _=>(vV (IT b6 Et (ai (dv 0) ae) (dv 1) (ai (dv 0) ae)))) (λ_ _ _ _ _=>(ai (dv 0) ae))))),?_⟩
 rintro e Q Ed ⟨xs,w,rfl,h⟩;x_go;let⟨d,h⟩:=h;calc PD.comp_map xs cw (λx=>decide (x.2.1<w/\w<=x.2.2)) (λx=>RD x.1) (λR q=>?_) (by rw[Tq];lia) (λx b K a=>?_) (λx b _ K a=>?_) ?_;lk;calc q;ext cw;lk
 lia
 ext cw;lk;calc a;unfold dJ at h;rw[UA]at h;calc h
def Ez (F:aw K "hull_of" "hull_of" qz f fd) (C:SO K mg κ)  (b:Nl P w K mg base κ) (c:DH P w K mg base κ)  : aG P w K mg base (CX1 P w) 4 f fd ["dots"] (aH K (oS κ)):=by
 refine aw.okN F ER (by fin2) λ_ _ _ _ _ _ a=>⟨_,(ak (ax (aq b a (aa (aq c a (aa (dv 0) af)) af)))),?_⟩
 rintro j Q Ed ⟨g,rfl,h⟩;x_go;let⟨i,b,h⟩:=h;lk;calc⟨35,72,λp e=>?_,λc d _=>?_⟩;let⟨q,a,rfl⟩:=SG.mp e;calc⟨(b q a).x,(b q a).y⟩;have:=h c d;rw[UA]at this;calc this
def tR (F:aw K "region_within" "region_within" gS f fd) (C:SO K mg κ)  (c:Ig P w K mg base κ) (e:xN P w K mg base κ) (b:PT P w K mg base κ) (d:Fm P w K mg base κ) (g:pM P w K mg base "total" 2 ["dots", "colour"] "colour" (gG κ))  : aG P w K mg base (CX1 P w) 7 f fd ["dots", "planes", "least"] (aH K (gF κ)):=by
 refine aw.okN F kO (by fin2) λ_ _ _ _ _ _ a=>⟨_,(aj (az 3 kO.nd (au aN (au aW (i7 g (a.mono 29) (aa (dv 0) af)) (dv 2)) ae)) (ak (ax (aq b a (aa (aq c a (aa (aq e a (aa (dv 0) af)) (aa (aq d a (aa (dv 1) (aa (dv 3) af))) af))) af))))),?_⟩
 rintro r Q Ed ⟨ps,m,l,rfl,h⟩;x_go;let⟨a,⟨zs,d,rfl⟩,h⟩:=h;have:=a.le;lk;calc⟨λ_=>true,.inl ⟨rfl,rfl⟩,35,a.le,a.gd,λk i=>?_⟩;let⟨c,b⟩:=kg a d (XQ (λ_=>true) ps - l+1);let R:=iC a c (Sd b 29) i;let n:=jd d;let q:=rH a.le;let o:=(rM (ps:=ps) (zs:=zs) 0).1;let a:=R.X9 #[dJ (bY ps zs) (XQ (λ_=>true) ps - l+1)];rw[zCH]at a;calc⟨35,35,λj _=>⟨(R.X9 j).2.1,λp b=>⟨((R.X9 j).2.2 p b).1.pos,((R.X9 j).2.2 p b).2⟩⟩,λg e=>⟨(c g e).1.c.mono 29,(c g e).1.a.mono 29,(c g e).1.b.mono 29⟩,λ_=>⟨a.2.1,λp b=>(a.2.2 p b).2,h zs k d i⟩⟩
def G4 (F:aw K "region" "region" t8 f fd) (C:SO K mg κ)  (b:o9 P w K mg base κ) (d:gL P w K mg base κ) (c:pM P w K mg base "total" 2 ["dots", "colour"] "colour" (gG κ))  : aG P w K mg base (CX1 P w) 8 f fd ["dots", "least"] (aH K (qQ κ)):=by
 refine aw.okN F Hv (by fin2) λ_ _ _ _ _ _ a=>⟨_,(aj (aT (Vn.pt (bR (aD b6 (dv 1) ae) (cO (aD jR (dv 1) (i7 c (a.mono 29) (aa (dv 0) af)))))) (ak tD) aJ) (ak (ax (aq d a (aa (dv 0) (aa (aq b a (aa (dv 0) af)) (aa (dv 1) af))))))),?_⟩
 rintro g Q Ed ⟨b,l,rfl,h⟩;x_go;let⟨a,e,c,h⟩:=h;have:=a.le;lk;rw[if_neg 35];calc⟨λ_=>true,.inl ⟨rfl,rfl⟩,35,?_⟩;rw[if_neg (show¬XQ (λ_=>true) b<l by have:l<=XQ (λ_=>true) b:=c;lia)];calc⟨a.le,a.gd,λb c=>⟨a,⟨b,c,rfl⟩,h⟩⟩
def r9 (F:aw K "greatest_depth" "greatest_depth" gB f fd) (C:SO K mg κ)  (d:gL P w K mg base κ) (b:pM P w K mg base "total" 2 ["dots", "colour"] "colour" (gG κ)) (c:mg "len" = none):aG P w K mg base (CX1 P w) 8 f fd ["dots", "planes"] (aH K (fP κ)):=by
 refine aw.okN F bW (by fin2) λ_ _ _ _ _ _ a=>⟨_,(aj (az 2 bW.nd ae) (aj (az 3 bW.nd (i7 b (a.mono 29) (aa (dv 0) af))) (aj (kE PassesOwn.never (aD b6 (dv 2) (dv 3)) (aj (az 4 bW.nd (au dm (au aN (au aN (dv 2) (dv 3)) ae) ae)) (ak (aT (aD jR (aM bL (by rfl) c Wr (aa (aq d a (aa (dv 0) (aa (dv 1) (aa (dv 4) af)))) af)) ae) (ak (az 2 bW.nd (dv 4))) (ak (az 3 bW.nd (au aW (dv 4) ae))))))) (ak (ax (dv 2)))))),?_⟩
 rintro A Q Ed ⟨d,u,rfl,h⟩;x_go;let⟨g,⟨i,j,rfl⟩,h⟩:=h;let x:=wF g;let s:=g.le;lk;calc⟨λ_=>true,.inl ⟨rfl,rfl⟩,35,?_⟩;calc⟨λm c=>∃(a b:Int) (v:Option Sl),m=(b - a).toNat/\1<=a/\a<=b/\b<=aK d/\(∀e,bN e (d.map TH)->cM d i e (aK d - a+1) ≠ [])/\(∀e,bN e (d.map TH)->∀l,b<l->l<=aK d->cM d i e (aK d - l+1)=[])/\c=[some (.val (.lst false (d.map RH))),some (.val (.lst false ((bY d i).map cw))),some (.val (.int a)),some (.val (.int b)),v],⟨_,1,aK d,none,rfl,35,35,35,λe k=>GJ g j k 35 35,λ_ _ l _ _=>35,rfl⟩,?_⟩;rintro m c ⟨a,b,v,rfl,q,B,p,n,o,rfl⟩;lk;by_cases c:a<b;rw[Rr c];let m:(a+b+1).fdiv 2=(a+b+1) / 2:=Int.fdiv_eq_ediv_of_nonneg _ 29;calc⟨CD.lit,g,⟨i,j,rfl⟩,λr e t k=>?_⟩;rw[je t j,RG,CL,m];generalize et:(a+b+1) / 2=t;by_cases m:cM d i e (aK d - t+1)=[];rw[m,if_neg 29];calc⟨(t - 1 - a).toNat,35,a,t - 1,_,rfl,q,35,35,n,λd e l y i=>?_,rfl⟩;rw[jg e k];exact zBQ λz=>A4 g j k 35 (show t<=l by lia) i z m
 rw[Rr (by have:=zCg.mpr m;lia)];calc⟨(b - t).toNat,35,t,b,_,rfl,35,35,p,λd e=>?_,o,rfl⟩;rw[jg e k];calc m;rw[if_neg c];let e:a=b:=35
 subst e;calc h a (Qe g j q p n o)
def vq (F:aw K "shallow_bars" "shallow_bars" fx f fd) (C:SO K mg κ)  (b:Nk P w K mg base κ) (c:Ie P w K mg base κ) (e:xN P w K mg base κ) (d:Fm P w K mg base κ) (g:pM P w K mg base "total" 2 ["dots", "colour"] "colour" (gG κ))  : aG P w K mg base (CX1 P w) 8 f fd ["dots", "planes", "found"] (aH K (hU κ)):=by
 refine aw.okN F d6 (by fin2) λ_ _ _ _ _ _ a=>⟨_,(aj (az 3 d6.nd (au aW (i7 g (a.mono 29) (aa (dv 0) af)) (dv 2))) (aj (aT (aD bF (dv 3) ae) (ak (ax (cL (aa (bA (aa (bA (aa (bE ae) (aa ae (aa ae af)))) (aa ae af))) (aa (bA (aa (bA (aa ae (aa (bE ae) (aa ae af)))) (aa ae af))) af))))) aJ) (aj (az 4 d6.nd (aq e a (aa (dv 0) af))) (aj (az 5 d6.nd (au aN (aq c a (aa (dv 4) af)) (aq d a (aa (dv 1) (aa (dv 3) af))))) (ak (ax (Ac (by rfl) (by calc bB (osc:=ao fx) (xs:=["number", "share"]) (ns:=["gauges"]) (by decide +kernel)) (br.cons 5 br.nil) (.cons (.cons .nil)) (bb (aq b a (aa (dv 4) (aa (dv 5) af)))) (λ_ _ _ _ _=>cf) (λ_ _ _ _ _=>(bA (aa (ai (dv 2) (dv 0)) (aa (dv 1) af))))))))))),?_⟩
 rintro J Q Ed ⟨ps,xs,n,rfl,h⟩;x_go;unfold d5 at h;let⟨b,⟨zs,i,rfl⟩,G,h⟩:=h;let u:=b.le;lk;calc⟨λ_=>true,.inl ⟨rfl,rfl⟩,35,?_⟩;by_cases c:XQ (λ_=>true) ps - n=0;rw[Rr c];calc⟨XA _ _ _,Y6 _ _,XA _ _ _,Y6 _ _,Y6 _ _,h _ (.inl ⟨show XQ (λ_=>true) ps=n by lia,rfl⟩)⟩;rw[if_neg c];rw[show XQ (λ_=>true) ps=aK ps from rfl];calc⟨b.le,b.gd,λd g=>?_⟩;let j:n≠aK ps:=λe=>c (show aK ps - n=0 by lia)
 let k:cM ps zs d (aK ps - n)=[]:=zBQ λz=>by
  have:=(G.2.2 zs d i g (n+1) (by have:=G.1;lia) (by have:=G.2.1;lia)).mp (by rw[show aK ps - (n+1)+1=aK ps - n by lia];calc z)
  lia
 let K:=Eg b i g (aK ps - n);let⟨c,s,m,t,r,a⟩:=DR K.st (OE b i g k);let q:=h _ (.inr ⟨Ne.symm j,zs,d,c,r,i,g,⟨s,m,t,a⟩,rfl⟩);let⟨⟨o,om,k⟩,I,_⟩:=pP (pk:=r.1) (sh:=r.2) a;let⟨H,y⟩:=Ei om;let h:=qg g;let g:ps.map TH ≠ []:=λe=>b.ne (List.map_eq_nil_iff.mp e)
 let e:=h.len;rw[RG]at e;let j:List.map RD (List.map sT (aX d))=(aX d).map Td:=by rw[UA];rfl
 rw[j,qL,lx];calc⟨zCg.mpr (kf h g),35,λp e=>?_,?_⟩;let⟨z,g,rfl⟩:=SG.mp (h.mem p e);calc⟨(b.gd z g).x,(b.gd z g).y⟩;let x:=jd i;let B:=rH b.le;let A:=(rM (ps:=ps) (zs:=zs) 0).1;let g:=K.le;let b:=g;rw[UQ]at b;calc⟨35,?_⟩;rw[zD,RG,RG];calc⟨by rw[Tq];lia,?_⟩;rw[<- VB];let b:=K.X9;let l:=K.gb;clear K;let g:aY (aX d)++dJ (bY ps zs) (aK ps - n)=gsA ps zs d (aK ps - n):=rfl;rw[g,<- j];generalize gsA ps zs d (aK ps - n)=d at *;let E:#[r.1.zip r.2]<=3:=by
  rw[List.length_zip,k,UQ,zCq]
  lia
 let n:∀k∈r.1,d[k]?=some (d.getD k (0,0,0)):=72
 calc PD.pV (r.1.zip r.2) (λz=>[.int ((z.1:Nat):Int),.int z.2]) (λ_=>true) (λz=>U4 (d.getD z.1 (0,0,0),z.2)) (λR q=>?_) (by rw[Tq];lia) (λ_=>rfl) (λz i K h=>?_) (λz i _ K h=>?_) ?_;lk;calc⟨35,λj _=>⟨(b j).1,λp e=>⟨((b j).2 p e).1.pos,((b j).2 p e).2⟩⟩,λg b=>⟨(l g b).1.c.mono 29,(l g b).1.a.mono 29,(l g b).1.b.mono 29⟩,c,s,m,t,r,a,q⟩;lk;calc h;let c:=zDe (a:=z.1) (b:=z.2) i;let at1:T7 (d.map RD) ((z.1:Nat):Int)=some (RD (d.getD z.1 (0,0,0))):=bU (by rw[UR,n z.1 c.1];rfl);lk;calc⟨_,at1,Y6 _ _,h⟩;rw[Xn.mpr (λ_ _=>rfl)];unfold Z3 at q;rw[UA]at q;calc q
def Ey (F:aw K "deepest" "deepest" qy f fd) (C:SO K mg κ)  (d:sW P w K mg base κ) (g:o9 P w K mg base κ) (h:gL P w K mg base κ) (e:wA P w K mg base κ) (c:mg "len" = none):aG P w K mg base (CX1 P w) 9 f fd ["dots"] (aH K (oQ κ)):=by
 refine aw.okX F oH (by fin2) λ_ _ _ _ _ _ Ed a b o q=>⟨_,(aj (aT (aD bF (aM bL (by rfl) c Wr (aa (dv 0) af)) ae) (ak (Aj b (by rfl) C.TJ C.TR rfl (aa FY af))) aJ) (aj (aT (aD jR (aM bL (by rfl) c Wr (aa (dv 0) af)) (IK C.RP)) (ak (Aj b (by rfl) C.Te C.Tn rfl (aa FY af))) aJ) (aj (az 1 oH.nd (aq g a (aa (dv 0) af))) (aj (az 2 oH.nd (aq d a (aa (dv 0) (aa (dv 1) af)))) (ak (ax (bA (aa (dv 2) (aa (ai (aq h a (aa (dv 0) (aa (dv 1) (aa (dv 2) af)))) ae) (aa (aq e a (aa (dv 0) (aa (dv 1) (aa (dv 2) af)))) af)))))))))),?_⟩
 rintro s Q ⟨b,rfl,h⟩;x_go;rcases h with⟨rfl,h⟩| ⟨a,h⟩| ⟨d,a,h⟩;lk;calc⟨ZD _,h⟩;lk;rw[RG,if_neg 35,Rr 35];calc⟨ZD _,h⟩;lk;let p:=zCg.mpr d.ne;rw[RG,if_neg 35,if_neg 35];calc⟨35,d.gd,λg i=>⟨d,⟨g,i,rfl⟩,λn G=>⟨d,⟨g,i,rfl⟩,λa c l k=>?_⟩⟩⟩;let m:=(G.2.2 a c l k n G.1 G.2.1).mpr (WS _);obtain⟨y,r,e⟩:∃y r,kG (cM b a c (aK b - n+1))=y::r:=by
  let j:=CL (cM b a c (aK b - n+1));cases hM:kG (cM b a c (aK b - n+1))with
  |nil=>rw[hM]at j;calc absurd (zBN j.symm) m
  |cons y r=>lia
 rw[e];calc⟨RD y,at0 _ _,d,⟨g,i,rfl⟩,G,λL b=>⟨XA _ _ _,h n y L a c r l k G e b⟩⟩
def AQ (F:aw K "_law_whole" "_law_whole" me f fd) (C:SO K mg κ)   (b:mg "bool" = none) (c:mg "int" = none) (a:mg "isinstance" = none):aG P w K mg base (CX1 P w) 1 f fd ["_law_found"] (aH K (kQ κ)):=by
 refine aw.okN F Bj (by fin2) λ_ _ _ _ _ _ d=>⟨_,(ak (ax (kC (eI (by rfl) a (by rfl) c boot_int (.inl rfl) (dv 0)) (mE (N5 (eI (by rfl) a (by rfl) b boot_bool (.inr (.inl rfl)) (dv 0))))))),?_⟩
 rintro e Q Ed ⟨a,rfl,h⟩;lk;calc h
def w5 (F:aw K "_law_cell_at" "_law_cell_at" jB f fd) (C:SO K mg κ)   (a:mg "len" = none):aG P w K mg base (CX1 P w) 1 f fd ["_law_script", "_law_k"] (aH K (iP κ)):=by
 refine aw.okN F xq (by fin2) λ_ _ _ _ _ _ c=>⟨_,(aj (aT (aD b6 (dv 1) (aM bL (by rfl) a Wr (aa (dv 0) af))) (ak (ax (ai (dv 0) (dv 1)))) aJ) (ak (ax ae))),?_⟩
 rintro d Q Ed ⟨b,k,rfl,h⟩;x_go;lk
 simp_all [Rr,RG,Iu,if_neg]
def w7 (F:aw K "_law_divisor" "_law_divisor" jC f fd) (C:SO K mg κ)   (a:mg "abs" = none):aG P w K mg base (CX1 P w) 1 f fd ["_law_one", "_law_other"] (aH K (iR κ)):=by
 refine aw.okN F fz (by fin2) λ_ _ _ _ _ _ e=>⟨_,(aj (az 2 fz.nd (aM pT (by rfl) a boot_abs (aa (dv 0) af))) (aj (az 3 fz.nd (aM pT (by rfl) a boot_abs (aa (dv 1) af))) (aj (kE PassesOwn.never (aD jc (dv 3) ae) (ak (Oa 2 3 rfl fz.nd 29 (aa (dv 3) (aa (au bM (dv 2) (dv 3)) af))))) (ak (ax (dv 2)))))),?_⟩
 rintro g Q Ed ⟨a,b,rfl,h⟩;x_go;lk;calc⟨λm c=>∃(x y:Int),c=[some (.val (.int a)),some (.val (.int b)),some (.val (.int x)),some (.val (.int y))]/\Int.gcd x y=Int.gcd a b/\m=y.natAbs/\0<=x/\0<=y,⟨_,_,_,rfl,PM.LR a b,rfl,35,35⟩,?_⟩;rintro m c ⟨x,y,rfl,c,rfl,d,b⟩;lk;by_cases a:y=0;subst a;rw[PM.Gf]at c
 lia
 rw[if_neg a];calc⟨a,?_⟩;calc⟨_,PM.ye x a,y,x.fmod y,rfl,(PM.Ar x y).trans c,rfl,b,zDH x 35⟩
def EB (F:aw K "_law_dot" "_law_dot" qD f fd) (C:SO K mg κ)   (a:mg "int" = none):aG P w K mg base (CX1 P w) 1 f fd ["_law_cell", "_law_kind", "_law_heavy"] (aH K (oV κ)):=by
 refine aw.okN F bD (by fin2) λ_ _ _ _ _ _ r=>⟨_,(aj (az 3 bD.nd (au bM (au aN (au aE (dv 0) ae) ae) ae)) (aj (az 4 bD.nd (au bM (dv 3) ae)) (aj (az 5 bD.nd (au bM (au dm (dv 3) ae) ae)) (aj (aT (aD bF (dv 1) ae) (aj (az 4 bD.nd (au aW (au bM (dv 3) ae) ae)) (ak (az 5 bD.nd (au aW (au bM (au dm (dv 3) ae) ae) ae)))) aJ) (aj (aT (aD bF (dv 1) ae) (aj (az 4 bD.nd (au aW (au aE ae (au bM (dv 3) ae)) ae)) (ak (az 5 bD.nd (au aW ae (au bM (dv 3) ae))))) aJ) (aj (aT (aD bF (dv 1) ae) (aj (az 4 bD.nd (au aN (au aW (au bM (au aE (dv 0) ae) (au aW (au aE ae (au vh ae ae)) ae)) (au vh ae ae)) ae)) (ak (az 5 bD.nd (au aN (au aW (au bM (au aE (dv 0) ae) (au aW (au aE ae (au vh ae ae)) ae)) (au vh ae ae)) ae)))) aJ) (aj (aT (aD bF (dv 1) ae) (aj (az 4 bD.nd (au aW ae (i8 pU (by rfl) a boot_int (aa (bT bF (au bM (dv 3) ae) ae) af)))) (ak (az 5 bD.nd (au aW ae (au aE ae (i8 pU (by rfl) a boot_int (aa (bT bF (au bM (dv 3) ae) ae) af))))))) aJ) (aj (aT (aD bF (dv 1) ae) (aj (az 4 bD.nd (au aW (au bM (dv 3) ae) ae)) (ak (az 5 bD.nd (au aW (au aE (dv 4) (dv 4)) (au aE ae (i8 pU (by rfl) a boot_int (aa (bT bF (au bM (au dm (dv 3) ae) ae) ae) af))))))) aJ) (aj (az 6 bD.nd (ai (cL (aa ae (aa (au aN ae (au bM (au dm (dv 3) ae) ae)) (aa (au aN ae (au bM (au aE (dv 0) ae) ae)) af)))) (dv 2))) (ak (ax (bA (aa (dv 4) (aa (dv 5) (aa (au bM (au dm (dv 3) ae) ae) (aa (dv 6) af)))))))))))))))),?_⟩
 rintro u Q Ed ⟨c,k,v,rfl,h⟩;x_go;unfold jU at h;let⟨q,t,h⟩:=h;let l:∀{m:Int},m.natAbs<2 ^ 64->CM c m:=λb=>.inr (.inl b)
 let o:∀{a m:Int},a.natAbs<2 ^ 64->CM a m:=λb=>.inl b
 refine yz (λd=>∃n x y:Int,(0<=n/\n<2147483647)/\Bd 40 x/\Bd 40 y/\d=[some (.val (.int c)),some (.val (.int k)),some (.val (.int v)),some (.val (.int n)),some (.val (.int x)),some (.val (.int y)),none]) (λd e=>?_) λK g=>?_
 rotate_left
 lk;let i:=fm (a:=c*48271+11) (b:=2147483647) 29;generalize (c*48271+11).fmod 2147483647=n at i ⊢;let m:=fm (a:=n) (b:=3) 29;let p:=fm (a:=n.fdiv 3) (b:=3) 29;calc⟨l 29,29,29,CD.lit,29,g _ ⟨n,_,_,i,by ext Bd;omega,by ext Bd;omega,rfl⟩⟩;let⟨n,x,y,i,j,i,rfl⟩:=e;refine iM (λd=>∃x y:Int,Bd 40 x/\Bd 40 y/\d=[some (.val (.int c)),some (.val (.int k)),some (.val (.int v)),some (.val (.int n)),some (.val (.int x)),some (.val (.int y)),none]) (λd e=>?_) λK g=>?_
 rotate_left
 lk;split;let m:=fm (a:=n) (b:=9) 29;let p:=fm (a:=n.fdiv 9) (b:=9) 29;calc⟨29,CD.lit,29,g _ ⟨_,_,by ext Bd;omega,by ext Bd;omega,rfl⟩⟩;calc g _ ⟨x,y,j,i,rfl⟩;let⟨x,y,j,i,rfl⟩:=e;refine iM (λd=>∃x y:Int,Bd 40 x/\Bd 40 y/\d=[some (.val (.int c)),some (.val (.int k)),some (.val (.int v)),some (.val (.int n)),some (.val (.int x)),some (.val (.int y)),none]) (λd e=>?_) λK g=>?_
 rotate_left
 lk;split;let m:=fm (a:=n) (b:=9) 29;calc⟨29,o 29,29,g _ ⟨_,_,by ext Bd;omega,by ext Bd;omega,rfl⟩⟩;calc g _ ⟨x,y,j,i,rfl⟩;let⟨x,y,j,i,rfl⟩:=e;refine iM (λd=>∃x y:Int,Bd 40 x/\Bd 40 y/\d=[some (.val (.int c)),some (.val (.int k)),some (.val (.int v)),some (.val (.int n)),some (.val (.int x)),some (.val (.int y)),none]) (λd e=>?_) λK g=>?_
 rotate_left
 lk;split;rw[p12];let m:=fm (a:=c*7919) (b:=2*1000000000000 - 1) 29;let p:=fm (a:=c*104729) (b:=2*1000000000000 - 3) 29;calc⟨l 29,DY,o 29,29,DY,l 29,DY,o 29,29,DY,g _ ⟨_,_,by ext Bd;omega,by ext Bd;omega,rfl⟩⟩;calc g _ ⟨x,y,j,i,rfl⟩;let⟨x,y,j,i,rfl⟩:=e;refine iM (λd=>∃x y:Int,Bd 40 x/\Bd 40 y/\d=[some (.val (.int c)),some (.val (.int k)),some (.val (.int v)),some (.val (.int n)),some (.val (.int x)),some (.val (.int y)),none]) (λd e=>?_) λK g=>?_
 rotate_left
 lk;split;calc⟨29,29,o 29,g _ ⟨_,_,by ext Bd;split<;>omega,by ext Bd;split<;>omega,rfl⟩⟩;calc g _ ⟨x,y,j,i,rfl⟩;let⟨x,y,j,i,rfl⟩:=e;refine iM (λd=>∃x y:Int,Bd 40 x/\Bd 40 y/\d=[some (.val (.int c)),some (.val (.int k)),some (.val (.int v)),some (.val (.int n)),some (.val (.int x)),some (.val (.int y)),none]) (λd e=>?_) λK g=>?_
 rotate_left
 lk;split;let m:=fm (a:=n) (b:=21) 29;let d:Bd 4 (n.fmod 21 - 10):=by ext Bd;omega
 calc⟨29,cmb d d,CD.lit,29,o 29,g _ ⟨_,_,d.mono 29,(Bd.sub ((d.mul d).mono (n:=20) 29) (by ext Bd;split<;>decide)).mono 29,rfl⟩⟩;calc g _ ⟨x,y,j,i,rfl⟩;let⟨x,y,j,i,rfl⟩:=e;lk;let m:=fm (a:=n.fdiv 192) (b:=7) 29;let p:=fm (a:=c*31) (b:=999999999) 29;let c:=fm (a:=n.fdiv 64) (b:=3) 29;calc⟨CD.lit,29,l 29,29,XA _ _ _,?_⟩;refine Nu q (by show v<3;omega) λd s=>?_
 obtain⟨w,rfl,a⟩:∃w:Int,d=.int w/\0<w:=72
 calc⟨CD.lit,29,sz4 _ _ _ _,h (x,y,(n.fdiv 64).fmod 3,w) ⟨j.mono 29,i.mono 29,c.1,(show(n.fdiv 64).fmod 3<=2 by omega)⟩ j i a⟩
def BV (F:aw K "_law_dots" "_law_dots" oC f fd) (C:SO K mg κ)  (c:pf P w K mg base κ) (b:Fi P w K mg base κ)  : aG P w K mg base (CX1 P w) 2 f fd ["_law_script", "_law_start", "_law_most"] (aH K (mq κ)):=by
 refine aw.okN F dS (by fin2) λ_ _ _ _ _ _ a=>⟨_,(aj (az 3 dS.nd (aq c a (aa (dv 0) (aa ae af)))) (aj (az 4 dS.nd (au bM (dv 3) ae)) (aj (az 5 dS.nd (au bM (au dm (dv 3) ae) ae)) (aj (kD 6 dS.nd (aa (aq b a (aa (aq c a (aa (dv 0) (aa ae af))) (aa (dv 4) (aa (dv 5) af)))) af)) (aj (cF PassesOwn.never rfl (bb (WN.YL (eK (dv 0) (cJ (dv 1)) (cJ (au aW (au aN (dv 1) (dv 2)) ae))))) (bq 7 dS.nd) (ak (eO 6 (aq b a (aa (dv 7) (aa (dv 4) (aa (dv 5) af))))))) (dI 6 (ak (ax (dv 6))))))))),?_⟩
 rintro y Q Ed ⟨c,s,m,rfl,h⟩;x_go;let⟨d,rfl,a,h⟩:=h;obtain⟨M,rfl,M0,M1⟩:∃M:Nat,m=(M:Int)/\0<M/\M<=12:=⟨12,a,29,29⟩;lk;calc⟨29,d,λf=>?_⟩;lk;let e:=fm (a:=f.fdiv 6) (b:=3) 29;calc⟨29,CD.lit,29,29,d,λA=>⟨e.1,by omega,λg x n k r=>?_⟩⟩;lk;let t:#[zR c (some 2) (some ((M+1:Nat):Int))]<=M - 1:=by ext zR;rw[Wq];let b:HT.SH #[c] 0 (some 2)=min 2 #[c]:=HT.ki _ _ 2;let a:HT.SH #[c] #[c] (some ((M+1:Nat):Int))=min (M+1) #[c]:=HT.ki _ _ (M+1);rw[b,a];omega
 calc⟨ZD _,?_⟩;calc iq (zR c (some 2) (some ((M+1:Nat):Int))) D.int (λdone b=>∃(a:List Dt) (d:Option Sl),b=[some (.val (.lst false (c.map D.int))),some (.val (.int 2)),some (.val (.int (M:Int))),some (.val (.int f)),some (.val (.int (f.fmod 6))),some (.val (.int ((f.fdiv 6).fmod 3))),some (.own (a.map RH)),d]/\#[a]=#[done]+1/\∀p∈a,GD p/\(Bd 40 p.1/\Bd 40 p.2.1)/\0<p.2.2.2) (λR q=>?_) ⟨[g],none,rfl,rfl,46⟩ ?_ ?_;lk
 simp_all [IE]
 rintro done c i u Uo ⟨a,d,rfl,c,b⟩ K g;lk;calc⟨e.1,by omega,λp gp l j o=>⟨by grind [List.length_map,sizeLine_eq],g _ ⟨a++[p],_,by rw[VB];rfl,by simp[c],λq e=>?_⟩⟩⟩;obtain z|z:=S7.mp e;exact b q z
 cbv
 rintro i ⟨a,d,rfl,c,b⟩;lk;calc h a ⟨λp a=>(b p a).1,λp a=>(b p a).2.1,λp a=>(b p a).2.2,by omega,72⟩ (by omega)
def AO (F:aw K "_law_depth" "_law_depth" l9 f fd) (C:SO K mg κ)   (Tw:mg "int" = none) (UO:mg "min" = none):aG P w K mg base (CX1 P w) 1 f fd ["_law_dots_here", "_law_here"] (aH K (gZ κ)):=by
 refine aw.okN F aO (by fin2) λ_ _ _ _ _ _ hr=>⟨_,(aj (az 2 aO.nd ae) (aj (kD 3 aO.nd af) (aj (cF PassesOwn.never rfl (bb (dv 0)) (qe (n:=4) rfl (cD (bq 6 aO.nd) (cD (bq 7 aO.nd) (cD (bq 8 aO.nd) (cD (bq 9 aO.nd) rD))))) (aj (az 10 aO.nd (au aW (au aE (dv 6) (ai (dv 1) ae)) (ai (dv 1) ae))) (aj (az 11 aO.nd (au aW (au aE (dv 7) (ai (dv 1) ae)) (ai (dv 1) ae))) (ak (aT (Vn.pt (p5 (aD bF (dv 10) ae) (mG (aD bF (dv 11) ae)))) (ak (az 2 aO.nd (au aN (dv 2) (dv 9)))) (ak (eO 3 (bA (aa (dv 10) (aa (dv 11) (aa (dv 9) af))))))))))) (dI 3 (aj (az 4 aO.nd fR) (aj (cF PassesOwn.never rfl (bb (dv 3)) (bq 5 aO.nd) (aj (kD 12 aO.nd (aa ae (aa ae (aa ae (aa ae af))))) (aj (cF PassesOwn.never rfl (bb (dv 3)) (qe (n:=3) rfl (cD (bq 10 aO.nd) (cD (bq 11 aO.nd) (cD (bq 9 aO.nd) rD)))) (aj (az 14 aO.nd (au aW (au aE (ai (dv 5) ae) (dv 11)) (au aE (ai (dv 5) ae) (dv 10)))) (aj (az 15 aO.nd (au aN (au aE (ai (dv 5) ae) (dv 10)) (au aE (ai (dv 5) ae) (dv 11)))) (aj (az 16 aO.nd (ai (cL (aa (i8 pU (by rfl) Tw boot_int (aa (bT b6 (dv 15) ae) af)) (aa ae af))) (i8 pU (by rfl) Tw boot_int (aa (bT jR (dv 14) ae) af)))) (aj (aT (aD b6 (dv 14) ae) (ak (az 16 aO.nd ae)) aJ) (ak (IS 12 (dv 16) (Lv 12 (au aN (ai (dv 12) (dv 16)) (dv 9)))))))))) (dI 12 (aj (az 13 aO.nd (au aN (aM (FJ rfl) (by rfl) UO boot_min (aa (ai (dv 12) ae) (aa (ai (dv 12) ae) af))) (aM (FJ rfl) (by rfl) UO boot_min (aa (ai (dv 12) ae) (aa (ai (dv 12) ae) af))))) (ak (aT (Vn.pt (bR (aD vg (dv 4) fR) (cO (aD b6 (dv 13) (dv 4))))) (ak (az 4 aO.nd (dv 13))) aJ))))))) (aj (aT (aD vg (dv 4) fR) (ak (ax (dv 2))) aJ) (ak (ax (au aN (dv 2) (dv 4))))))))))),?_⟩
 rintro ds Q Ed ⟨j,b,i,d,rfl,h⟩;x_go;unfold eS at h;let⟨hl,hG,hW,hH,h⟩:=h;lk;calc⟨Uw _,?_⟩;calc iq j RH (λdone T=>∃o:Nat->Option Sl,T=[some (.val (.lst false (j.map RH))),some (.val (T3 b i d)),some (.val (.int (sm aZ (b,i,d) done))),some (.own ((Wa (b,i,d) done).map (Yv (b,i,d)))),none,none,o 6,o 7,o 8,o 9,o 10,o 11,none,none,none,none,none]) (λR q=>?_) (exV rfl) ?_ ?_;lk;calc q;rintro done p u Y Uo ⟨o,rfl⟩ K l;let G:=hG p Y;let e1:p.1*b - i=(R8 (b,i,d) p).1:=by ext R8;dsimp only;rw[VF]
 let e2:p.2.1*b - d=(R8 (b,i,d) p).2:=by ext R8;dsimp only;rw[VF]
 let ln:=GQ (b,i,d) done;generalize hps:List.map RH j=L;ext RH;lk;subst hps;rw[e1,e2];calc⟨cmb G.x hH.a,cmb G.y hH.a,?_⟩;let app:R8 (b,i,d) p≠(0,0)->∃o:Nat->Option Sl,[some (Sl.val (.lst false (j.map RH))),some (.val (T3 b i d)),some (.val (.int (sm aZ (b,i,d) done))),some (.own ((Wa (b,i,d) done).map (Yv (b,i,d))++[Yv (b,i,d) p])),none,none,some (.val (.int p.1)),some (.val (.int p.2.1)),some (.val (.int p.2.2.1)),some (.val (.int p.2.2.2)),some (.val (.int (R8 (b,i,d) p).1)),some (.val (.int (R8 (b,i,d) p).2)),none,none,none,none,none]=[some (Sl.val (.lst false (j.map RH))),some (.val (T3 b i d)),some (.val (.int (sm aZ (b,i,d) (done++[p])))),some (.own ((Wa (b,i,d) (done++[p])).map (Yv (b,i,d)))),none,none,o 6,o 7,o 8,o 9,o 10,o 11,none,none,none,none,none]:=λz=>(exV (by rw[kj,if_neg (show¬aZ (R8 (b,i,d) p)from z),VX,Jz _ z,VB];rfl))
 let sz:#[(Wa (b,i,d) done).map (Yv (b,i,d))]<sizeLine:=by rw[RG,Tq];lia
 by_cases N:(R8 (b,i,d) p).1=0;rw[Rr N];by_cases z2:(R8 (b,i,d) p).2=0;rw[Rr z2];let z:R8 (b,i,d) p=(0,0):=Prod.ext N z2;calc l _ (exV (by rw[kj,Rr (show aZ (R8 (b,i,d) p)from z),Jy _ z];rfl));rw[if_neg z2];calc⟨XA _ _ _,sz,l _ (app λz=>z2 (by rw[z]))⟩;rw[if_neg N];exact⟨XA _ _ _,sz,l _ (app λz=>N (by rw[z]))⟩
 ·rintro u ⟨o,rfl⟩;lk;let lq:=GQ (b,i,d) j;let J:∀q∈Wa (b,i,d) j,q∈j/\R8 (b,i,d) q∈Yu (b,i,d) j:=λq H=>⟨(Yh.mp H).1,by rw[<- Er];calc SG.mpr ⟨q,H,rfl⟩⟩
  calc iq (Wa (b,i,d) j) (Yv (b,i,d)) (λdone T=>∃(o:Nat->Option Sl) (E:D),T=[some (.val (.lst false (j.map RH))),some (.val (T3 b i d)),some (.val (.int (sm aZ (b,i,d) j))),some (.val (.lst true ((Wa (b,i,d) j).map (Yv (b,i,d))))),some (.val E),o 5,o 6,o 7,o 8,o 9,o 10,o 11,o 12,o 13,o 14,o 15,o 16]/\((done=[]/\E=.RZ)∨∃ m:Int,E=.int m/\(∃q∈done,q∈Wa (b,i,d) j/\m=Z1 (b,i,d) j (R8 (b,i,d) q))/\∀q∈done,m<=Z1 (b,i,d) j (R8 (b,i,d) q))) (λR q=>?_) (exW rfl (.inl ⟨rfl,rfl⟩)) ?_ ?_;lk;exact q
  ·rintro done q u H Uo ⟨o,E,rfl,M⟩ K l;let⟨hqp,hqu⟩:=J q H;let wv:=WBh.ar hH (hG q hqp);lk;calc⟨sz4 _ _ _ _,?_⟩;generalize hv:R8 (b,i,d) q=v at *;let eq:Yv (b,i,d) q=.tup [.int v.1,.int v.2,.int q.2.2.2]:=by ext Yv;rw[hv]
   rw[eq];calc iq (Wa (b,i,d) j) (Yv (b,i,d)) (λr T=>∃o:Nat->Option Sl,T=[some (.val (.lst false (j.map RH))),some (.val (T3 b i d)),some (.val (.int (sm aZ (b,i,d) j))),some (.val (.lst true ((Wa (b,i,d) j).map (Yv (b,i,d))))),some (.val E),some (.val (.tup [.int v.1,.int v.2,.int q.2.2.2])),o 6,o 7,o 8,o 9,o 10,o 11,some (.own [.int (sm (aA v) (b,i,d) r),.int (sm (aB v) (b,i,d) r),.int (sm (aL v) (b,i,d) r),.int (sm (aR v) (b,i,d) r)]),o 13,o 14,o 15,o 16]) (λR q=>?_) (exV rfl) ?_ ?_;lk;exact q
   ·rintro r p u Y Uo ⟨o,rfl⟩ K l;let⟨hpp,hpu⟩:=J p Y;let wp:=WBh.ar hH (hG p hpp);let pn:=vZ hpu;let ep:Yv (b,i,d) p=.tup [.int (R8 (b,i,d) p).1,.int (R8 (b,i,d) p).2,.int p.2.2.2]:=rfl;let sA:=kj (aA v) (b,i,d) r p;let sB:=kj (aB v) (b,i,d) r p;let sL:=kj (aL v) (b,i,d) r p;let sR:=kj (aR v) (b,i,d) r p;rw[sA,sB,sL,sR]at l;rw[ep];generalize R8 (b,i,d) p=a at *;rw[IX];show nF _ _ _ _;let e1:v.1*a.2 - v.2*a.1=tn v a:=by ext tn;rw[VF v.2]
    let e2:v.1*a.1+v.2*a.2=Rp v a:=rfl;refine yz (λu=>∃k:Int,k=(if 0<tn v a then 2 else if Rp v a<0 then 1 else 0)/\u=[some (.val (.lst false (j.map RH))),some (.val (T3 b i d)),some (.val (.int (sm aZ (b,i,d) j))),some (.val (.lst true ((Wa (b,i,d) j).map (Yv (b,i,d))))),some (.val E),some (.val (.tup [.int v.1,.int v.2,.int q.2.2.2])),o 6,o 7,o 8,some (.val (.int p.2.2.2)),some (.val (.int a.1)),some (.val (.int a.2)),some (.own [.int (sm (aA v) (b,i,d) r),.int (sm (aB v) (b,i,d) r),.int (sm (aL v) (b,i,d) r),.int (sm (aR v) (b,i,d) r)]),o 13,some (.val (.int (tn v a))),some (.val (.int (Rp v a))),some (.val (.int k))]) (λu e=>?_) λK2 t=>?_
    rotate_left
    lk;rw[e1,e2];calc⟨cmb wv.a wp.b,cmb wv.b wp.a,cmb wv.a wp.a,cmb wv.b wp.b,Y6 _ _,?_⟩;by_cases B:0<tn v a;calc⟨.int 2,by rw[Rr B];calc at1 _ _ _,t _ ⟨2,by rw[Rr B],rfl⟩⟩;calc⟨_,by rw[if_neg B];calc at0 _ _,t _ ⟨_,by rw[if_neg B],rfl⟩⟩;let⟨k,s,rfl⟩:=e;refine iM (λu=>∃k:Int,k=(if tn v a<0 then 3 else if 0<tn v a then 2 else if Rp v a<0 then 1 else 0)/\u=[some (.val (.lst false (j.map RH))),some (.val (T3 b i d)),some (.val (.int (sm aZ (b,i,d) j))),some (.val (.lst true ((Wa (b,i,d) j).map (Yv (b,i,d))))),some (.val E),some (.val (.tup [.int v.1,.int v.2,.int q.2.2.2])),o 6,o 7,o 8,some (.val (.int p.2.2.2)),some (.val (.int a.1)),some (.val (.int a.2)),some (.own [.int (sm (aA v) (b,i,d) r),.int (sm (aB v) (b,i,d) r),.int (sm (aL v) (b,i,d) r),.int (sm (aR v) (b,i,d) r)]),o 13,some (.val (.int (tn v a))),some (.val (.int (Rp v a))),some (.val (.int k))]) (λu e=>?_) λK2 t=>?_
    rotate_left
    lk;split;rename_i I;calc t _ ⟨3,by rw[Rr I],rfl⟩;rename_i I;calc t _ ⟨k,by rw[if_neg I];calc s,rfl⟩;clear s k;let⟨k,s,rfl⟩:=e;let nA:tn v a≠0->¬aA v a:=λz y=>z y.1
    let nB:tn v a≠0->¬aB v a:=λz y=>z y.1
    lk;by_cases I:tn v a<0;rw[Rr I]at s;subst s;rw[if_neg (nA 35),if_neg (nB 35),if_neg (show¬aL v a from λz=>by have:0<tn v a:=z;lia),Rr (show aR v a from I),VX,VX,VX]at l;calc⟨_,rfl,show ju _=true/\_ from⟨rfl,3,3,rfl,rfl,l _ (exV rfl)⟩⟩;rw[if_neg I]at s;rw[if_neg (show¬aR v a from I)]at l;by_cases B:0<tn v a;rw[Rr B]at s;subst s;rw[if_neg (nA 35),if_neg (nB 35),Rr (show aL v a from B),VX,VX,VX]at l;calc⟨_,rfl,show ju _=true/\_ from⟨rfl,2,2,rfl,rfl,l _ (exV rfl)⟩⟩;rw[if_neg B]at s;rw[if_neg (show¬aL v a from B)]at l;by_cases O:Rp v a<0;rw[Rr O]at s;subst s;rw[if_neg (show¬aA v a from λz=>z.2.1 O),Rr (show aB v a from⟨35,O⟩),VX,VX,VX]at l;calc⟨_,rfl,show ju _=true/\_ from⟨rfl,1,1,rfl,rfl,l _ (exV rfl)⟩⟩;rw[if_neg O]at s;subst s;rw[Rr (show aA v a from⟨35,O,pn⟩),if_neg (show¬aB v a from λz=>O z.2),VX,VX,VX]at l;exact⟨_,rfl,show ju _=true/\_ from⟨rfl,0,0,rfl,rfl,l _ (exV rfl)⟩⟩
   rintro u ⟨o,rfl⟩;rw[vO (P:=aA v) (λ_=>PU),vO (P:=aB v) (λ_=>uB),vO (P:=aL v) (λ_=>y4),vO (P:=aR v) (λ_=>PV)];let lt:min (sm (aA v) (b,i,d) j) (sm (aB v) (b,i,d) j)+min (sm (aL v) (b,i,d) j) (sm (aR v) (b,i,d) j)=Z1 (b,i,d) j v:=rfl;rcases M with⟨rfl,rfl⟩| ⟨m,rfl,⟨q1,d1,N,e⟩,A⟩;lk;rw[lt];exact l _ (exW rfl (.inr ⟨_,rfl,⟨q,52,H,by rw[hv]⟩,λx U=>by
    have:x=q:=by simpa using U
    subst this;rw[hv];calc WS _⟩))
   lk;rw[lt];by_cases c:Z1 (b,i,d) j v<m;rw[Rr c];exact l _ (exW rfl (.inr ⟨_,rfl,⟨q,52,H,by rw[hv]⟩,λx U=>by
    obtain y|y:=S7.mp U;have:=A x y;lia;rw[Vp]at y;subst y;rw[hv];calc WS _⟩))
   rw[if_neg c];exact l _ (exW rfl (.inr ⟨m,rfl,⟨q1,by simp[d1],N,e⟩,λx U=>by
    obtain y|y:=S7.mp U;calc A x y;rw[Vp]at y;subst y;rw[hv]
    lia⟩))
  rintro u ⟨o,E,rfl,M⟩;rcases M with⟨hnil,rfl⟩| ⟨m,rfl,⟨q,H,hqz,e⟩,A⟩;lk;refine h _ λg hg=>(hg.none_ ?_).symm
  rw[<- Er,hnil];rfl;lk;refine h _ λg hg=>IL hW hg ⟨_,(J q H).2,e⟩ λw hw=>?_
  rw[<- Er]at hw;let⟨p,Y,rfl⟩:=SG.mp hw;calc A p Y
def vj (F:aw K "_law_is_place" "_law_is_place" iH f fd) (C:SO K mg κ)  (c:yJ P w K mg base κ) (b:lK P w K mg base κ) (g:mg "isinstance" = none) (e:mg "len" = none) (d:mg "tuple" = none):aG P w K mg base (CX1 P w) 2 f fd ["_law_found"] (aH K (d9 κ)):=by
 refine aw.okN F vI (by fin2) λ_ _ _ _ _ _ a=>⟨_,(aj (aT (Vn.pt (bR (bP (bH (eI (by rfl) g (by rfl) d boot_tuple (.inr (.inr (.inl rfl))) (dv 0)))) (cO (aD jc (aM bL (by rfl) e Wr (aa (dv 0) af)) ae)))) (ak (ax cU)) aJ) (aj (aT (Vn.pt (bR (bP (bH (aq b a (aa (ai (dv 0) ae) af)))) (bR (bP (bH (aq b a (aa (ai (dv 0) ae) af)))) (bR (bP (bH (aq b a (aa (ai (dv 0) ae) af)))) (cO (aD b6 (ai (dv 0) ae) ae)))))) (ak (ax cU)) aJ) (ak (ax (bT bF (aq c a (aa (aq c a (aa (ai (dv 0) ae) (aa (ai (dv 0) ae) af))) (aa (ai (dv 0) ae) af))) ae))))),?_⟩
 rintro k Q Ed ⟨c,b,a,rfl,h⟩;x_go;let⟨⟨i,j⟩,h⟩:=h;let d:(((Int.gcd (Int.gcd c b:Int) a:Nat)):Int)=1:=by
  let e:((PM.g3 c b a:Nat):Int)=1:=35
  exact e
 lk;rw[Rr (by rfl),if_neg 35,U6 d];calc h
def EA (F:aw K "_law_bar" "_law_bar" qC f fd) (C:SO K mg κ)  (b:lK P w K mg base κ) (e:mg "isinstance" = none) (d:mg "len" = none) (c:mg "tuple" = none):aG P w K mg base (CX1 P w) 2 f fd ["_law_row", "_law_dots_here", "_law_least"] (aH K (oU κ)):=by
 refine aw.okN F dN (by fin2) λ_ _ _ _ _ _ a=>⟨_,(aj (aT (Vn.pt (bR (bP (bH (eI (by rfl) e (by rfl) c boot_tuple (.inr (.inr (.inl rfl))) (dv 0)))) (bR (aD jc (aM bL (by rfl) d Wr (aa (dv 0) af)) ae) (bR (bP (bH (eI (by rfl) e (by rfl) c boot_tuple (.inr (.inr (.inl rfl))) (ai (dv 0) ae)))) (cO (aD jc (aM bL (by rfl) d Wr (aa (ai (dv 0) ae) af)) ae)))))) (ak (ax cU)) aJ) (aj (aT (Vn.pt (bR (bP (bH (aq b a (aa (ai (ai (dv 0) ae) ae) af)))) (bR (bP (bH (aq b a (aa (ai (ai (dv 0) ae) ae) af)))) (cO (bP (bH (aq b a (aa (ai (ai (dv 0) ae) ae) af)))))))) (ak (ax cU)) aJ) (aj (aT (Vn.pt (bR (bP (bH (aq b a (aa (ai (dv 0) ae) af)))) (bR (aD b6 (ai (dv 0) ae) ae) (cO (Vn.pt (p5 (aD bF (ai (ai (dv 0) ae) ae) ae) (mG (aD bF (ai (ai (dv 0) ae) ae) ae)))))))) (ak (ax cU)) aJ) (aj (az 3 dN.nd ae) (aj (cF PassesOwn.never rfl (bb (dv 1)) (qe (n:=4) rfl (cD (bq 4 dN.nd) (cD (bq 5 dN.nd) (cD (bq 6 dN.nd) (cD (bq 7 dN.nd) rD))))) (ak (aT (aD Es (au aN (au aN (ai (ai (dv 0) ae) ae) (au aE (ai (ai (dv 0) ae) ae) (dv 4))) (au aE (ai (ai (dv 0) ae) ae) (dv 5))) ae) (ak (az 3 dN.nd (au aN (dv 3) (dv 7)))) aJ))) (ak (ax (bT Es (dv 3) (dv 2))))))))),?_⟩
 rintro B Q Ed ⟨x,c,l,rfl,h⟩;x_go;let⟨z,m,u,r,n,t,y,h⟩:=h;let⟨⟨d,a,b⟩,s⟩:=x;ext U4 RD;lk;rw[Rr (by rfl),Rr (by rfl),if_neg 35];let o:pX (D0 (de 1)) (k9 4 (b9 (gN 4) (b9 (gN 5) (b9 (gN 6) (b9 (gN 7) k8))))) (IF (dB (WV (fH λi j=>D.bl (decide (j<=i))) (WV nX (WV nX (WV dA (WV dA (de 0) (dC (D.int 0))) (dC (D.int 0))) (WV (rdI CM λi j=>D.int (i*j)) (WV dA (WV dA (de 0) (dC (D.int 0))) (dC (D.int 1))) (de 4))) (WV (rdI CM λi j=>D.int (i*j)) (WV dA (WV dA (de 0) (dC (D.int 0))) (dC (D.int 2))) (de 5))) (dC (D.int 0)))) (zZ 3 (WV nX (de 3) (de 7))) D3) {nx:=IH (WV (fH λi j=>D.bl (decide (j<=i))) (de 3) (de 2)) {nx:=λx=>Q D.RZ,rt:=Q},rt:=Q} [some (Sl.val (D.tup [T3 d a b,D.int s])),some (Sl.val (D.lst false (List.map RH c))),some (Sl.val (D.int l)),some (Sl.val (D.int 0)),none,none,none,none]:=by
  calc iq c RH (λdone j=>∃i h g e:Option Sl,j=[some (Sl.val (D.tup [T3 d a b,D.int s])),some (Sl.val (D.lst false (List.map RH c))),some (Sl.val (D.int l)),some (Sl.val (D.int (wq (λp=>decide (0<=gd (d,a,b) p)) done))),i,h,g,e]) (λR q=>?_) ⟨none,none,none,none,rfl⟩ ?_ ?_;lk;exact q
  ·rintro done p l j Uo ⟨i,h,g,e,rfl⟩ K k;let G:=m p j;let A:wq (λp=>decide (0<=gd (d,a,b) p)) (done++[p])=wq (λp=>decide (0<=gd (d,a,b) p)) done+if 0<=d+a*p.1+b*p.2.1 then p.2.2.2 else 0:=by
    rw[Dq,cW]
    cbv
   generalize hps:List.map RH c=Lp at k ⊢;ext RH;lk;calc⟨cmb r G.x,cmb n G.y,?_⟩;by_cases c:0<=d+a*p.1+b*p.2.1
   all_goals simp_all [Rr,if_neg,VX]
  rintro l ⟨i,h,g,e,rfl⟩;lk
  cbv
 by_cases E:a=0
 all_goals cbv
def BU (F:aw K "_law_bars" "_law_bars" jY f fd) (C:SO K mg κ)  (c:Fh P w K mg base κ) (g:mg "isinstance" = none) (a:mg "len" = none) (e:mg "list" = none) (d:mg "zip" = none):aG P w K mg base (CX1 P w) 3 f fd ["_law_rows", "_law_dots_here", "_law_least"] (aH K (ml κ)):=by
 refine aw.okN F i5 (by fin2) λ_ _ _ _ _ _ b=>⟨_,(aj (aT (Vn.pt (bR (bP (bH (eI (by rfl) g (by rfl) e boot_list (.inr (.inr (.inr (.inl rfl)))) (dv 0)))) (bR (aD b6 (aM bL (by rfl) a Wr (aa (dv 0) af)) ae) (cO (aD jR (aM bL (by rfl) a Wr (aa (dv 0) af)) ae))))) (ak (ax cU)) aJ) (aj (az 3 i5.nd (cL (aa ae (aa ae (aa ae af))))) (aj (cF PassesOwn.never rfl (bb (dv 0)) (bq 4 i5.nd) (aj (aT (bP (bH (aq c b (aa (dv 4) (aa (dv 1) (aa (dv 2) af)))))) (ak (ax cU)) aJ) (ak (BK 3 i5.nd (by rfl) (by calc bB (osc:=ao jY) (xs:=["_law_here", "_law_there"]) (ns:=["_law_row"]) (by decide +kernel)) (br.cons 4 br.nil) (.cons (.cons .nil)) (Gk (by rfl) d (aa (dv 3) (aa (ai (dv 4) ae) af))) (λ_ _ _ _ _=>cf) (λ_ _ _ _ _=>(au aN (dv 0) (au aE (ai (dv 2) ae) (dv 1)))))))) (ak (ax (kC (bT b6 (ai (dv 3) ae) ae) (kC (bT bF (ai (dv 3) ae) ae) (mE (bT bF (ai (dv 3) ae) ae))))))))),?_⟩
 rintro o Q Ed ⟨L,b,l,rfl,h⟩;x_go;let⟨e,i,B,h⟩:=h;let n:=B.l2;let m:=B.l3;lk;rw[RG,if_neg 35,if_neg 35];calc⟨XA _ _ _,?_⟩;calc yf L U4 (λj a=>∃v:Option Sl,a=[some (.val (.lst false (L.map U4))),some (.val (.lst false (b.map RH))),some (.val (.int l)),some (.val (.lst true [.int ((L.take j).map λx=>x.2*x.1.1).sum,.int ((L.take j).map λx=>x.2*x.1.2.1).sum,.int ((L.take j).map λx=>x.2*x.1.2.2).sum])),v]) (λR q=>?_) ⟨none,rfl⟩ ?_ ?_;lk;calc q;rintro j x l c ⟨v,rfl⟩ K a;let b:=UX c;let c:L.take (j+1)=L.take j++[x]:=by simp_all [List.take_add_one]
 let⟨k,h,g,d⟩:=B.bd x b;lk;calc⟨e,i,B.nl x b,h,g,B.s1 x b,B.wt x b,?_⟩;rw[c]at a;simp only[VB,List.sum_append,Vq,zDh,zCv,List.sum_nil,VX]at a;generalize ((L.take j).map λx=>x.2*x.1.1).sum=i at a ⊢;generalize ((L.take j).map λx=>x.2*x.1.2.1).sum=c at a ⊢;generalize ((L.take j).map λx=>x.2*x.1.2.2).sum=b at a ⊢;let e:U4 x=D.tup [.tup [.int x.1.1,.int x.1.2.1,.int x.1.2.2],.int x.2]:=rfl;calc PD.pV [(i,x.1.1),(c,x.1.2.1),(b,x.1.2.2)] (λz=>[.int z.1,.int z.2]) (λ_=>true) (λz=>.int (z.1+x.2*z.2)) (λR q=>?_) (by simp_all [Tq]) (λ_=>rfl) (λz b K c=>?_) (λz b _ K c=>?_) ?_;rw[e];lk;calc q;lk;calc c;rw[e];lk;calc⟨?_,c⟩;simp at b;obtain rfl|rfl|rfl:=b;calc Wn d k;calc Wn d h;calc Wn d g;calc a _ ⟨_,rfl⟩;rintro l ⟨v,rfl⟩;let p:=B.c0;let b:=B.a0;let a:=B.b0;rw[zCH,b,a];lk
 lia
def w6 (F:aw K "_law_deepest" "_law_deepest" gc f fd) (C:SO K mg κ)  (b:Dy P w K mg base κ) (c:BA P w K mg base κ) (e:wy P w K mg base κ) (h:lK P w K mg base κ) (k:mg "isinstance" = none) (j:mg "len" = none) (d:mg "sum" = none) (g:mg "tuple" = none):aG P w K mg base (CX1 P w) 4 f fd ["_law_found", "_law_dots_here"] (aH K (iQ κ)):=by
 refine aw.okN F mW (by fin2) λ_ _ _ _ _ _ a=>⟨_,(aj (az 2 mW.nd (aM (uG rfl) (by rfl) d boot_sum (aa (bV (by rfl) (by calc bB (osc:=ao gc) (xs:=["_law_dot_here"]) (ns:=[]) (by decide +kernel)) br.nil (bb (dv 1)) (λ_ _ _ _ _=>cf) (λ_ _ _ _ _=>(ai (dv 0) ae))) af))) (aj (aT (Vn.pt (bR (bP (bH (eI (by rfl) k (by rfl) g boot_tuple (.inr (.inr (.inl rfl))) (dv 0)))) (bR (aD jc (aM bL (by rfl) j Wr (aa (dv 0) af)) ae) (bR (bP (bH (aq h a (aa (ai (dv 0) ae) af)))) (cO (bP (bH (aq e a (aa (ai (dv 0) ae) af))))))))) (ak (ax cU)) aJ) (aj (aT (Vn.pt (bR (aD b6 (au aE ae (ai (dv 0) ae)) (dv 2)) (cO (aD (nW (by calc a.units)) (aq c a (aa (dv 1) (aa (ai (dv 0) ae) af))) (ai (dv 0) ae))))) (ak (ax cU)) aJ) (ak (ax (aq b a (aa (ai (dv 0) ae) (aa (dv 1) (aa (au aW (dv 2) (ai (dv 0) ae)) af))))))))),?_⟩
 rintro o Q Ed ⟨d,a,rfl,h⟩;x_go;unfold fq at h;let⟨n,y,L,rfl,b,e,c,l,j,B,h⟩:=h;let i:=b.le;lk;calc PD.comp_map a RH (λ_=>true) (λp=>.int p.2.2.2) (λR q=>?_) (by rw[Tq];lia) (λp g K d=>?_) (λp g _ K d=>?_) ?_;lk;calc q;lk;calc d;ext RH;lk;calc d;rw[Xn.mpr (λ_ _=>rfl)];let d:(a.map λp=>p.2.2.2).sum=aK a:=by ext aK XQ;rw[Xn.mpr (λ_ _=>rfl)]
 calc⟨true,a.map λp=>p.2.2.2,by rw[UA];rfl,?_⟩;rw[d];lk;rw[Rr (by rfl)];show d9 κ [T3 y.1 y.2.1 y.2.2] _ _;rw[jo,dZ];calc⟨e,?_⟩;rw[jM];rw[if_neg 29];calc⟨.inl (by ext Bd;decide),?_⟩;rw[if_neg 35];show gZ κ [D.lst false (a.map RH),T3 y.1 y.2.1 y.2.2] _ _;rw[lE,eS];calc⟨35,b.gd,b.nn,⟨e.pos,c.b.mono 29,c.x.mono 29,c.y.mono 29⟩,λm d=>?_⟩;let⟨g,c⟩:=Gn y a;rw[(d g c).trans (j g c),eQ,if_neg 29];calc⟨CY n,35,b.gd,B,h⟩
def w8 (F:aw K "_law_refused" "_law_refused" jD f fd) (C:SO K mg κ)  (c:xM P w K mg base κ) (d:mg "ValueError" = none) (a:mg "isinstance" = none):aG P w K mg base (CX1 P w) 10 f fd ["_law_dots_here", "_law_few"] (aH K (fE κ)):=by
 refine aw.okN F fC (by fin2) λ_ _ _ _ _ _ b=>⟨_,(aj (az 2 fC.nd fR) (aj (Ly 3 c (b.mono 29) fC.nd C.SU (aa (dv 0) af) (λ_=>(ak (az 2 fC.nd (dv 3))))) (aj (aT (Vn.pt (bR (aD vg (dv 2) fR) (bR (bP (bH (jO (by rfl) a (CZ (v:=.ty "ValueError") (by rfl) d (by rfl) rfl) (λu h=>h) (dv 2)))) (cO (bH (jO (by rfl) a (rJ (v:=.ref κ.NoSuch) (by rfl) C.Ug rfl) (λu h=>h) (dv 2))))))) (ak (ax cU)) aJ) (ak (ax (kC (bT (zc (by calc b.units)) (jO (by rfl) a (rJ (v:=.ref κ.TooFew) (by rfl) C.TJ rfl) (λu h=>h) (dv 2)) (dv 1)) (mE (bT (nW (by calc b.units)) (jO (by rfl) a (rJ (v:=.ref κ.TooMany) (by rfl) C.Te rfl) (λu h=>h) (dv 2)) (dv 1))))))))),?_⟩
 rintro g Q Ed ⟨e,b,rfl,h⟩;x_go;let⟨a,h⟩:=h;lk;rcases a with⟨rfl,rfl⟩| ⟨a,rfl⟩;calc .inl ⟨rfl,κ.TooFew,rfl,C.Uh,C.RK,?_⟩;simp only[kex C.Sa,kex C.RJ,kex C.Sb,kex C.RV];calc⟨qk _,qk _,h⟩;calc .inr (.inl ⟨a,κ.TooMany,rfl,C.TU,C.RF,?_⟩);simp only[kex C.RW,kex C.RE,kex C.RX,kex C.RQ];calc⟨qk _,qk _,h⟩
def OZ (F:aw K "law" "law" iZ f fd) (C:SO K mg κ)  (Sf:pf P w K mg base κ) (Uc:yI P w K mg base κ) (Vi:DC P w K mg base κ) (Tj:yK P w K mg base κ) (Th:xM P w K mg base κ) (Vl:Ii P w K mg base κ) (Ta:mg "list" = none) (Tv:mg "sum" = none):aG P w K mg base (CX1 P w) 11 f fd ["_law_script"] (aH K vP):=by
 refine aw.okB F jj (by fin2) λ_ _ _ _ _ _ c=>⟨_,(dQ (az 1 jj.nd (aq Vi c (aa (dv 0) (aa ae (aa ae af))))) (dQ (az 2 jj.nd (aM (uG rfl) (by rfl) Tv boot_sum (aa (bV (by rfl) (by calc bB (osc:=ao iZ) (xs:=["_law_dot_here"]) (ns:=[]) (by decide +kernel)) br.nil (bb (dv 1)) (λ_ _ _ _ _=>cf) (λ_ _ _ _ _=>(ai (dv 0) ae))) af))) (dQ (az 3 jj.nd ((Lw (by rfl) Ta (dv 1))).YL) (dQ (az 4 jj.nd (aq Th c (aa (dv 3) af))) (dQ (aT (Vn.pt (bR (bP (bH (aq Uc c (aa (dv 4) (aa (dv 1) af))))) (cO (aD (nW (by calc c.units)) (dv 3) (dv 1))))) (ak (ax cU)) aJ) (dQ (aT (aD (nW (by calc c.units)) (WN.YL (eK (aq Vl c (aa (dv 1) (aa (ai (dv 4) ae) af))) cC (cJ ae))) (cL (aa (ai (dv 4) ae) af))) (ak (ax cU)) aJ) (dQ (aT (Vn.pt (p5 (aD b6 (ai (dv 4) ae) (dv 2)) (mG (aD (nW (by calc c.units)) (aq Vl c (aa (dv 1) (aa (au aN (ai (dv 4) ae) ae) af))) (cL af))))) (ak (ax cU)) aJ) (dQ (az 5 jj.nd (WN.YL (eK (au JB (dv 1) ae) cC (cJ (au aN ae (au bM (aq Sf c (aa (dv 0) (aa ae af))) ae)))))) (dQ (aT (Vn.pt (bR (bP (bH (aq Tj c (aa (cL af) (aa cU af))))) (cO (bP (bH (aq Tj c (aa (dv 5) (aa cU af)))))))) (ak (ax cU)) aJ) (Fy (ix:=4) (iy:=6) (by rfl) 29 (Pg jj.nd (by rfl) (by first|calc Or.inl rfl|calc Or.inr rfl) (Qs 4 (by rfl) Ta)) (Qu 4) (dQ (az 7 jj.nd (aq Th c (aa (dv 1) af))) (Nv (ax (kC (bT (zc (by calc c.units)) (Af (dv 7) cC (cJ ae)) (Af (dv 4) cC (cJ ae))) (mE (bT (zc (by calc c.units)) (ai (dv 7) ae) (dv 6))))))))))))))))),?_⟩
 rintro ds Q Ed ⟨ns,rfl,hl,h⟩;x_go;let okY:∀z:Tr,okD (RD z):=λz=>(iA z).ok
 lk;calc⟨hl,λl i Y=>?_⟩;let okP:∀t,okD (.lst t (l.map RH)):=λt=>(Uy.map Mo).ok
 let w0:=wF i;let l0:=zCg.mpr i.ne;calc PD.comp_map l RH (λ_=>true) (λp=>.int p.2.2.2) (λR q=>?_) (by rw[Tq];lia) (λp hp K hK=>?_) (λp hp _ K hK=>?_) ?_;lk;calc q;lk;calc hK;ext RH;lk;calc hK;rw[Xn.mpr (λ_ _=>rfl)];let ew:(l.map λp=>p.2.2.2).sum=aK l:=by ext aK XQ;rw[Xn.mpr (λ_ _=>rfl)]
 calc⟨true,l.map λp=>p.2.2.2,by rw[UA];rfl,i,Y,λn y L zs ys r J M G e hL=>?_⟩;rw[ew];let ym:y∈cM l zs ys (aK l - n+1):=L9.mp (by rw[e];simp);let⟨yp,yc⟩:=A5 i J M ym;let B:=QB i G.1 hL;calc⟨n,y,L,rfl,i,yp,yc,IZ i J M G,λg hg=>IY i J M G ym hg,B,okP _,okP _,?_⟩;rw[eQ,if_neg 29];calc⟨i,G.1,G.2.1,λzs1 ys1 hz1 hy1=>?_⟩;rw[je hz1 J,jg hy1 M,e];let c1:PD.cutD ((y::r).map RD) none (some 1)=[RD y]:=zU ((y::r).map RD) (k:=1) (by rw[RG];calc zCi (Uw _));let T:okD (.lst true [RD y]):=(Uy.map (xs:=[y]) iA).ok;rw[c1];calc⟨ZD _,T,T,?_⟩;rw[eQ,if_neg 29];refine Jh ?_ λcl hP=>⟨i,by have:=G.1;lia,35,λs u A E=>?_⟩
 rotate_left
 let U:okD (.lst true []):=(Uy.map (xs:=([]:yau)) iA).ok;let nil:cM l s u (aK l - (n+1)+1)=[]:=zBQ λz=>by
  have:=(G.2.2 s u A E (n+1) (by have:=G.1;lia) 35).mp z
  lia
 rw[nil,show List.map RD (kG [])=[]from rfl,eQ,if_neg 29];calc⟨Uw _,U,U,hP⟩;calc⟨true,_,13,rfl,rfl,29,by rw[RG];lia,29,hl,λv=>⟨29,true,_,rfl,Uw _,?_⟩⟩;show fE κ [.lst false (([]:List Dt).map RH),.bl true] _ _;rw[fQ,dD];calc⟨.inl ⟨rfl,rfl⟩,?_⟩;rw[jM];let fv:=fm (a:=v) (b:=18) 29;obtain⟨qs,eq,q13⟩:∃qs:List Dt,PD.cutD (List.replicate 13 (List.map RH l)).flatten none (some (13+v.fmod 18))=qs.map RH/\12<#[qs]:=by
  obtain⟨m,em⟩:∃m:Nat,v.fmod 18=m:=⟨(v.fmod 18).toNat,35⟩;calc⟨(List.replicate 13 l).flatten.take (13+m),?_,?_⟩;rw[em,show(13+(m:Int))=((13+m:Nat):Int)by lia,Lo,List.map_take,List.map_flatten,List.map_replicate];rw[Wq,List.length_flatten,List.map_replicate,List.sum_replicate_nat]
  lia
 rw[if_neg 29,eq,sS,fQ,dD];calc⟨.inr ⟨q13,rfl⟩,?_⟩;rw[jM];rw[if_neg 29];obtain⟨I,H,rfl⟩:∃I H,L=I::H:=by
  cases L with
  |nil=>calc absurd B.l2 29
  |cons a b=>exact⟨a,b,rfl⟩
 let fD:Ec (.lst true (l.map RH)):=CF i.ne;calc⟨.int n,RD y,_,_,H.map U4,rfl,rfl,rfl,CT (I::H),λj d h4 h6 o=>?_,λj x h4 h6 o=>?_,?_⟩;obtain _|_|_|_|_|_|_|_|j:=j;cases o;calc .inr (.inr ⟨_,ns,rfl⟩);cases o;calc fD;cases o;calc .inl rfl;cases o;calc fD;calc absurd rfl h4;cases o;calc CF (zDd 35);cases o;cases o;cases o;obtain _|_|_|_|_|_|_|_|j:=j<;>cases o;lk;calc⟨i,Y,λn2 y2 L2 s u r2 A E G2 e2 hL2=>?_⟩;let en:=OD i J M G2 G;subst en;rw[je A J,jg E M,e]at e2;cases e2;rw[Pp hL2 hL];let N:okD (.tup [.int n2,RD y]):=(Uy.tup (.cons (.int 1 _) (.cons (iA y) (.nil _)))).ok;let O:okD (.lst true (List.map U4 (I::H))):=(Uy.map λx:Tr×Int=>(Uy.tup (.cons (iA x.1) (.cons (.int 1 _) (.nil _))):Uy 2 (U4 x))).ok;let cu:∀d:D,PD.cutD [D.int n2,RD y,d] none (some 2)=[D.int n2,RD y]:=λ_=>rfl
 let n3:¬HT.SH 3 3 (some 2)=3:=29
 calc⟨_,rfl,λz=>n3 z.2,_,rfl,λz=>n3 z.2,?_⟩;rw[cu,cu,eQ,Rr rfl];calc⟨N,N,O,O,?_⟩;show Q (D.bl (eqD (D.lst true (List.map U4 (I::H))) (D.lst true (List.map U4 (I::H)))));rw[eQ];calc h
end
def all_mk {l:PySem.W.OpenLaw} {K:yac} (X:K.In h) (G:h.Ns mainGlobals mg) (C:mg "law" = some (.ref fa))

  {u:Option Addr} {q:Array (yan)} {z:Value}
 {n:Value} {k:Option Addr} {e:Array (yan)}
  {t:Option Addr} {p:Array (yan)} {y:Value}
 {m:Value} {j:Option Addr} {b:Array (yan)}
  {r:Option Addr} {o:Array (yan)} {x:Value}
  (e0:FL K "sign" Bh)
  (e1:FL K "common_divisor" gA)
  (e2:FL K "lowest" oD)
  (e3:FL K "reduced" qF)
  (e4:FL K "picks" rS)
  (e5:FL K "value" xo)
  (e6:FL K "side" Bg)
  (e7:FL K "is_level" oA)
  (e8:FL K "crossed" qw)
  (e9:FL K "line" Be)
  (e10:FL K "facing" tZ)
  (e11:FL K "place" xj)
  (e12:FL K "place_of" oG)
  (e13:FL K "rank" Bf)
  (e14:FL K "swing" xn)
  (e15:FL K "arrow" xh)
  (e16:FL K "turn" Bi)
  (e17:FL K "back" Bc)
  (e18:FL K "left_of" qE)
  (e19:FL K "spot_of" qG)
  (e20:FL K "spots_of" j0)
  (e21:FL K "of_colour" i4)
  (a22:PySem.W.nsIn K mainGlobals "total" = some (some (.ref f22))) (U:K.lookup f22=some ⟨z,u,.func (PySem.W.fnOf "total" "total" (dg iJ) (cn iJ) (ao iJ) (.ref dt22) kV22 dc22 pm22 an22 cd22 ct22),q⟩) (c22:PySem.W.codeIn K cd22 "total" = true) (B:PySem.W.keepIn K (.ref f22)=true)
  (f:K.lookup dt22=some ⟨n,k,.seq #[.none,] tn22,e⟩)
  (a23:PySem.W.nsIn K mainGlobals "weighed" = some (some (.ref f23))) (T:K.lookup f23=some ⟨y,t,.func (PySem.W.fnOf "weighed" "weighed" (dg gJ) (cn gJ) (ao gJ) (.ref dt23) kV23 dc23 pm23 an23 cd23 ct23),p⟩) (c23:PySem.W.codeIn K cd23 "weighed" = true) (A:PySem.W.keepIn K (.ref f23)=true)
  (d:K.lookup dt23=some ⟨m,j,.seq #[.none,] tn23,b⟩)
  (e24:FL K "chain" xi)
  (e25:FL K "hull" vF)
  (e26:FL K "thin_bounds" jE)
  (e27:FL K "bounds" oz)
  (e28:FL K "on_two_spots" iI)
  (e29:FL K "spot_pairs" eU)
  (e30:FL K "pair_line" mf)
  (e31:FL K "split_by" jZ)
  (e32:FL K "pair_lines" gQ)
  (e33:FL K "length" t6)
  (e34:FL K "are_opposite" iG)
  (e35:FL K "balance_of_two" gw)
  (e36:FL K "balance_of_three" cQ)
  (e37:FL K "balance" qv)
  (e38:FL K "place_between" gR)
  (e39:FL K "clipped" lC)
  (e40:FL K "common" tY)
  (e41:FL K "led" EM)
  (e42:FL K "last_needed" jA)
  (e43:FL K "constant" jX)
  (e44:FL K "bars" vE)
  (e45:FL K "axis_lines" eT)
  (e46:FL K "opposite" oE)
  (e47:FL K "half_planes" jz)
  (e48:FL K "rims" vG)
  (e49:FL K "hull_of" qz)
  (e50:FL K "region_within" gS)
  (e51:FL K "region" t8)
  (e52:FL K "greatest_depth" gB)
  (e53:FL K "shallow_bars" fx)
  (e54:FL K "deepest" qy)
  (e55:FL K "_law_whole" me)
  (e56:FL K "_law_cell_at" jB)
  (e57:FL K "_law_divisor" jC)
  (e58:FL K "_law_dot" qD)
  (e59:FL K "_law_dots" oC)
  (e60:FL K "_law_depth" l9)
  (e61:FL K "_law_is_place" iH)
  (e62:FL K "_law_bar" qC)
  (e63:FL K "_law_bars" jY)
  (e64:FL K "_law_deepest" gc)
  (e65:FL K "_law_refused" jD)
  (a66:PySem.W.nsIn K mainGlobals "law" = some (some (.ref f66))) (Q:K.lookup f66=some ⟨x,r,.func (PySem.W.fnOf "law" "law" (dg iZ) (cn iZ) (ao iZ) .none kV66 dc66 pm66 an66 cd66 ct66),o⟩) (c66:PySem.W.codeIn K cd66 "law" = true) (Y:PySem.W.keepIn K (.ref f66)=true)
  (SU:PySem.W.nsIn K mainGlobals "PlaneError" = some (some (.ref Tb)))
  (Up:PySem.W.nsIn K mainGlobals "NoPlace" = some (some (.ref Vz)))
  (UU:PySem.W.nsIn K mainGlobals "NoLine" = some (some (.ref Wf)))
  (TJ:PySem.W.nsIn K mainGlobals "TooFew" = some (some (.ref RY)))
  (Te:PySem.W.nsIn K mainGlobals "TooMany" = some (some (.ref RM)))
  (Ug:PySem.W.nsIn K mainGlobals "NoSuch" = some (some (.ref Wg)))
  (RP:PySem.W.nsIn K mainGlobals "MOST_FOR_DEEPEST" = some (some (.int (12) XR)))
  (TR:PySem.W.excIn K RY wc "ValueError.__new__" = true)
  (Uh:PX.Eb K RY=true)
  (R3:PySem.W.kitOne K (.ref RY) (.ref Tb)=some true)
  (Sq:PySem.W.kitOne K (.ref RY) (.ref Vz)=some false)
  (Sy:PySem.W.kitOne K (.ref RY) (.ref Wf)=some false)
  (Sa:PySem.W.kitOne K (.ref RY) (.ref RY)=some true)
  (RV:PySem.W.kitOne K (.ref RY) (.ref RM)=some false)
  (Sb:PySem.W.kitOne K (.ref RY) (.ref Wg)=some false)
  (RJ:PySem.W.kitOne K (.ref RY) (.type "ValueError")=some true)
  (RK:PySem.W.exmOne K (.ref RY) (.ref Tb)=some true)
  (Sz:PySem.W.exmOne K (.ref RY) (.ref RY)=some true)
  (Tn:PySem.W.excIn K RM wc "ValueError.__new__" = true)
  (TU:PX.Eb K RM=true)
  (RS:PySem.W.kitOne K (.ref RM) (.ref Tb)=some true)
  (Sg:PySem.W.kitOne K (.ref RM) (.ref Vz)=some false)
  (Sr:PySem.W.kitOne K (.ref RM) (.ref Wf)=some false)
  (RW:PySem.W.kitOne K (.ref RM) (.ref RY)=some false)
  (RQ:PySem.W.kitOne K (.ref RM) (.ref RM)=some true)
  (RX:PySem.W.kitOne K (.ref RM) (.ref Wg)=some false)
  (RE:PySem.W.kitOne K (.ref RM) (.type "ValueError")=some true)
  (RF:PySem.W.exmOne K (.ref RM) (.ref Tb)=some true)
  (Si:PySem.W.exmOne K (.ref RM) (.ref RM)=some true)
  (Su:PySem.W.nsIn K mainGlobals "ValueError" = some none) (J:PySem.W.nsIn K mainGlobals "abs" = some none) (Vg:PySem.W.nsIn K mainGlobals "bool" = some none) (H:PySem.W.nsIn K mainGlobals "int" = some none) (c:PySem.W.nsIn K mainGlobals "isinstance" = some none) (a:PySem.W.nsIn K mainGlobals "len" = some none) (I:PySem.W.nsIn K mainGlobals "list" = some none) (Wb:PySem.W.nsIn K mainGlobals "max" = some none) (M:PySem.W.nsIn K mainGlobals "min" = some none) (i:PySem.W.nsIn K mainGlobals "range" = some none) (N:PySem.W.nsIn K mainGlobals "set" = some none) (O:PySem.W.nsIn K mainGlobals "sorted" = some none) (g:PySem.W.nsIn K mainGlobals "sum" = some none) (L:PySem.W.nsIn K mainGlobals "tuple" = some none) (E:PySem.W.nsIn K mainGlobals "zip" = some none) :
  ∃ fd:FuncData,(∀(s:Shared) (v:Value),BindsTo s fd ⟨[v],[]⟩ [("_law_script", v)])/\∀base:Heap,K.In base->base.Ns mainGlobals mg->aG l.prog w K mg base (CX1 l.prog w) 11 fa fd ["_law_script"] (aH K vP):=by
 let e:=C.symm.trans (PySem.W.mg_of X G a66);cases e;let Su:=PySem.W.mg_none_of X G Su;let J:=PySem.W.mg_none_of X G J;let Vg:=PySem.W.mg_none_of X G Vg;let H:=PySem.W.mg_none_of X G H;let c:=PySem.W.mg_none_of X G c;let a:=PySem.W.mg_none_of X G a;let I:=PySem.W.mg_none_of X G I;let Wb:=PySem.W.mg_none_of X G Wb;let M:=PySem.W.mg_none_of X G M;let i:=PySem.W.mg_none_of X G i;let N:=PySem.W.mg_none_of X G N;let O:=PySem.W.mg_none_of X G O;let g:=PySem.W.mg_none_of X G g;let L:=PySem.W.mg_none_of X G L;let E:=PySem.W.mg_none_of X G E;let C:SO K mg ⟨Tb,Vz,Wf,RY,RM,Wg⟩:=⟨PySem.W.mg_of X G SU,PySem.W.mg_of X G Up,PySem.W.mg_of X G UU,PySem.W.mg_of X G TJ,PySem.W.mg_of X G Te,PySem.W.mg_of X G Ug,⟨_,PySem.W.mg_of X G RP⟩,TR,PX.eE.of Uh,R3,Sq,Sy,Sa,RV,Sb,RJ,RK,Sz,Tn,PX.eE.of TU,RS,Sg,Sr,RW,RQ,RX,RE,RF,Si⟩;calc⟨PySem.W.fnOf "law" "law" (dg iZ) (cn iZ) (ao iZ) .none kV66 dc66 pm66 an66 cd66 ct66,λs v=>.of_eq rfl,λbase _ _=>?_⟩;let b:=e0.has l.prog w base X G λF=>Mx F C
 let h:=e1.has l.prog w base X G λF=>rZ F C J
 let n:=e2.has l.prog w base X G λF=>G0 F C h
 let e:=e3.has l.prog w base X G λF=>ED F C h
 let k:=e4.has l.prog w base X G λF=>JG F C i
 let m:=e5.has l.prog w base X G λF=>JK F C
 let p:=e6.has l.prog w base X G λF=>Mw F C b m
 let h:=e7.has l.prog w base X G λF=>BS F C
 let q:=e8.has l.prog w base X G λF=>Ex F C
 let u:=e9.has l.prog w base X G λF=>Mt F C q h e
 let Ui:=e10.has l.prog w base X G λF=>GY F C
 let x:=e11.has l.prog w base X G λF=>JH F C e
 let j:=e12.has l.prog w base X G λF=>BX F C
 let t:=e13.has l.prog w base X G λF=>Mu F C b
 let Xa:=e14.has l.prog w base X G λF=>JI F C
 let z:=e15.has l.prog w base X G λF=>JE F C
 let o:=e16.has l.prog w base X G λF=>My F C
 let y:=e17.has l.prog w base X G λF=>Mq F C
 let Vu:=e18.has l.prog w base X G λF=>EC F C
 let h:=e19.has l.prog w base X G λF=>EE F C
 let Vf:=e20.has l.prog w base X G λF=>BZ F C h
 let r:=e21.has l.prog w base X G λF=>AR F C
 let b:=rC (st:=iJ) U c22 B;let e:pM l.prog w K mg base "total" 2 ["dots", "colour"] "colour" (gG _):=⟨_,_,JJ b C r g,PySem.W.mg_of X G a22,B,uE λs b _ _=>BindsTo.of_defaults rfl (b _ _ f) rfl rfl rfl,uD 1 rfl λs b _=>BindsTo.of_defaults rfl (b _ _ f) rfl rfl rfl,uY 1 rfl λs w b _=>BindsTo.of_defaults rfl (b _ _ f) rfl rfl rfl⟩;let f:=rC (st:=gJ) T c23 A;let B:pM l.prog w K mg base "weighed" 3 ["dots", "gauge", "colour"] "colour" (ib _):=⟨_,_,EF f C r j p h,PySem.W.mg_of X G a23,A,uE λs b _ _ _=>BindsTo.of_defaults rfl (b _ _ d) rfl rfl rfl,uD 2 rfl λs b _ _=>BindsTo.of_defaults rfl (b _ _ d) rfl rfl rfl,uY 2 rfl λs w b _ _=>BindsTo.of_defaults rfl (b _ _ d) rfl rfl rfl⟩;let b:=e24.has l.prog w base X G λF=>JF F C Xa a
 let r:=e25.has l.prog w base X G λF=>Ms F C b j a N O
 let b:=e26.has l.prog w base X G λF=>w9 F C z y Ui Vu
 let s:=e27.has l.prog w base X G λF=>GW F C q b a i
 let d:=e28.has l.prog w base X G λF=>vo F C h
 let b:=e29.has l.prog w base X G λF=>yQ F C d k a
 let d:=e30.has l.prog w base X G λF=>AS F C u j h
 let f:=e31.has l.prog w base X G λF=>BY F C B N O
 let q:=e32.has l.prog w base X G λF=>yP F C d b
 let b:=e33.has l.prog w base X G λF=>GZ F C J
 let d:=e34.has l.prog w base X G λF=>vi F C o
 let h:=e35.has l.prog w base X G λF=>rY F C d b n
 let j:=e36.has l.prog w base X G λF=>pH F C n o Wb M
 let d:=e37.has l.prog w base X G λF=>Eu F C j h b a
 let h:=e38.has l.prog w base X G λF=>tQ F C x m
 let b:=e39.has l.prog w base X G λF=>Ew F C h p a i
 let m:=e40.has l.prog w base X G λF=>GX F C b
 let j:=e41.has l.prog w base X G λF=>O0 F C t a i
 let h:=e42.has l.prog w base X G λF=>w4 F C b a
 let b:=e43.has l.prog w base X G λF=>BR F C g E
 let i:=e44.has l.prog w base X G λF=>Mr F C d b h k I E
 let d:=e45.has l.prog w base X G λF=>yO F C
 let b:=e46.has l.prog w base X G λF=>BW F C
 let h:=e47.has l.prog w base X G λF=>wZ F C d b q f
 let d:=e48.has l.prog w base X G λF=>Mv F C
 let f:=e49.has l.prog w base X G λF=>Ez F C r Vf
 let b:=e50.has l.prog w base X G λF=>tR F C m f j d e
 let j:=e51.has l.prog w base X G λF=>G4 F C h b e
 let k:=e52.has l.prog w base X G λF=>r9 F C b e a
 let m:=e53.has l.prog w base X G λF=>vq F C i s f d e
 let d:=e54.has l.prog w base X G λF=>Ey F C k h b m a
 let b:=e55.has l.prog w base X G λF=>AQ F C Vg H c
 let e:=e56.has l.prog w base X G λF=>w5 F C a
 let i:=e57.has l.prog w base X G λF=>w7 F C J
 let f:=e58.has l.prog w base X G λF=>EB F C H
 let h:=e59.has l.prog w base X G λF=>BV F C e f
 let k:=e60.has l.prog w base X G λF=>AO F C H M
 let m:=e61.has l.prog w base X G λF=>vj F C i b c a L
 let f:=e62.has l.prog w base X G λF=>EA F C b c a L
 let i:=e63.has l.prog w base X G λF=>BU F C f c a I E
 let f:=e64.has l.prog w base X G λF=>w6 F C i k m b c a g L
 let a:=e65.has l.prog w base X G λF=>w8 F C d Su c
 calc OZ (rC (st:=iZ) Q c66 Y) C e f h a d j I g
end LW
def PySem.W.Fast.te4693260801514074483:True:=trivial
def PySem.W.Fast.te13052408679150730464:True:=trivial
def PySem.W.Fast.tw6557173866431060808:PySem.Program:=PySem.Challenge.pw_halvecut_k55_whole_the_deepest
theorem PySem.W.Fast.te6557173866431060808:PySem.Challenge.pw_halvecut_k55_whole_the_deepest=PySem.W.Fast.tw6557173866431060808:=rfl
namespace PySem.W.Fast
def tw15976383772269918606:=()
def tw8437147035246390501:=()
def tw10646773055426431690:=()
def tw17068648308680073750:=()
def tw18019778086711137169:=()
def tw16707044962927470320:=()
def tw6626679290060367689:=()
end PySem.W.Fast
open PySem PySem.W PyProof.Rows
set_option maxRecDepth 100000 in
set_option maxHeartbeats 0 in
theorem PySem.Challenge.cw_halvecut_k55_whole_the_deepest_holds : PySem.Challenge.rw_halvecut_k55_whole_the_deepest.Holds := by
 w_on; o_law; k_head; (case hw => w_witness2)
 k_fill
 refine PD.walk (l := PySem.Challenge.rw_halvecut_k55_whole_the_deepest) (k := 11) (x := "_law_script") rfl rfl ⟨rfl, by decide, by decide⟩ (λw h Y => PySem.W.kIn_of Y) (λw => by kernel_rfl) ?F
 case F =>
  intro w d e h b G a
  refine' LW.all_mk b G a ?e0 ?e1 ?e2 ?e3 ?e4 ?e5 ?e6 ?e7 ?e8 ?e9 ?e10 ?e11 ?e12 ?e13 ?e14 ?e15 ?e16 ?e17 ?e18 ?e19 ?e20 ?e21 ?a22 ?l22 ?c22 ?k22 ?t22 ?a23 ?l23 ?c23 ?k23 ?t23 ?e24 ?e25 ?e26 ?e27 ?e28 ?e29 ?e30 ?e31 ?e32 ?e33 ?e34 ?e35 ?e36 ?e37 ?e38 ?e39 ?e40 ?e41 ?e42 ?e43 ?e44 ?e45 ?e46 ?e47 ?e48 ?e49 ?e50 ?e51 ?e52 ?e53 ?e54 ?e55 ?e56 ?e57 ?e58 ?e59 ?e60 ?e61 ?e62 ?e63 ?e64 ?e65 ?a66 ?l66 ?c66 ?k66 ?SU ?Up ?UU ?TJ ?Te ?Ug ?RP ?TR ?Uh ?R3 ?Sq ?Sy ?Sa ?RV ?Sb ?RJ ?RK ?Sz ?Tn ?TU ?RS ?Sg ?Sr ?RW ?RQ ?RX ?RE ?RF ?Si ?Su ?TV ?Vg ?Tw ?Rn ?Rv ?Ta ?Wb ?UO ?R4 ?U5 ?SX ?Tv ?SA ?Uk
  all_goals try (refine' PD.FL.mk ?a ?l ?c ?k; (case a => k_is); (case l => k_is); (case c => k_is); (case k => k_is))
  (case a22 => k_is)
  (case l22 => k_is)
  (case c22 => k_is)
  (case k22 => k_is)
  (case t22 => k_is)
  (case a23 => k_is)
  (case l23 => k_is)
  (case c23 => k_is)
  (case k23 => k_is)
  (case t23 => k_is)
  (case a66 => k_is)
  (case l66 => k_is)
  (case c66 => k_is)
  (case k66 => k_is)
  (case SU => k_is)
  (case Up => k_is)
  (case UU => k_is)
  (case TJ => k_is)
  (case Te => k_is)
  (case Ug => k_is)
  (case RP => k_is)
  (case TR => kernel_rfl)
  (case Uh => kernel_rfl)
  (case R3 => kernel_rfl)
  (case Sq => kernel_rfl)
  (case Sy => kernel_rfl)
  (case Sa => kernel_rfl)
  (case RV => kernel_rfl)
  (case Sb => kernel_rfl)
  (case RJ => kernel_rfl)
  (case RK => kernel_rfl)
  (case Sz => kernel_rfl)
  (case Tn => kernel_rfl)
  (case TU => kernel_rfl)
  (case RS => kernel_rfl)
  (case Sg => kernel_rfl)
  (case Sr => kernel_rfl)
  (case RW => kernel_rfl)
  (case RQ => kernel_rfl)
  (case RX => kernel_rfl)
  (case RE => kernel_rfl)
  (case RF => kernel_rfl)
  (case Si => kernel_rfl)
  (case Su => k_is)
  (case TV => k_is)
  (case Vg => k_is)
  (case Tw => k_is)
  (case Rn => k_is)
  (case Rv => k_is)
  (case Ta => k_is)
  (case Wb => k_is)
  (case UO => k_is)
  (case R4 => k_is)
  (case U5 => k_is)
  (case SX => k_is)
  (case Tv => k_is)
  (case SA => k_is)
  (case Uk => k_is)
