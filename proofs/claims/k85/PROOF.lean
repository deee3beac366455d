import PyProof.Rows.All
import KE.KNestM
import KE.KLam
import KE.KSortTup
import KE.LcSums
import KE.KIntText
import KE.KMinKey
import KE.KTryMore
import KE.KItemsList
import KE.KRevSl
import KE.KDictOf
import KE.KEqSeq
import KE.KFromBytes
import Lean
import PyProof.EqAt
import PyProof.EqKinds
import PyProof.TupleCall
import PySem.Challenge.RW_halvecut_k85_what_a_sheet_refuses
set_option compiler.extract_closed false
set_option Elab.async false
set_option linter.all false
set_option maxRecDepth 100000
namespace PySem.W.Fast
def tw1697484009105599558:=()
def tw13565075989097950994:=()
def tw9586060045948190870:=()
def tw16709734419726384468:=()
def tw11035200956133390806:=()
def tw14457212736676995302:=()
def tw18156619742916997999:=()
def tw3784943847461158372:=()
def tw1741621944017962159:=()
def tw12829035249348223964:=()
def tw13041441507150908138:=()
def tw8612617457219111866:=()
def tw6414390546076976596:=()
def tw10517814203008272955:=()
def tw15447252310711954189:=()
def tw202576468913197896:=()
def tw1004766401345164861:=()
def tw17417065632486874539:=()
def tw12779934388058057709:=()
def tw17072710466608892201:=()
def tw12660567954315075846:=()
def tw8415583868466522910:=()
def tw6893906775397868822:=()
def tw3104742324993121202:=()
def tw4741973664970219553:=()
def tw9383153130889064872:=()
def tw2304041170747145692:=()
def tw12191213389867800488:=()
def tw14069809540480829324:=()
def tw12479836487442439619:=()
def tw6217299848852985877:=()
def tw14515557273041153399:=()
def tw2054658569851338437:=()
def tw12122390356044983998:=()
def tw7490478059796849504:=()
def tw2798261964635548520:=()
def tw1305019732279307157:=()
def tw10460311381204543673:=()
def tw2772133710851360193:=()
def tw3888312793688212073:=()
def tw11221090552011808171:=()
def tw13120932789243523923:=()
def tw9131711508269209851:=()
def tw10350541374539202329:=()
def tw12208891138036253468:=()
def tw3462692602607512879:=()
def tw6526341741021817278:=()
def tw3496661254590555532:=()
def tw758569914755682308:=()
def tw8273331245083756766:=()
def tw7985619128201495111:=()
def tw18373827141294217363:=()
def tw17271531817770863746:=()
def tw6080611030568796575:=()
def tw15412521528634220601:=()
def tw11994882567233006228:=()
def tw3000274660631148287:=()
def tw2410312607573913976:=()
def tw8821015151069427006:=()
def tw9606832142922968461:=()
def tw2645941270072591286:=()
def tw18349754726779026148:=()
def tw7124910630039601099:=()
def tw2175141061427777054:=()
def tw11763917993022432174:=()
def tw15752631054370901737:=()
def tw13403934326007234031:=()
def tw9434142051583645851:=()
def tw14085075436875229823:=()
def tw11818561896252136570:=()
def tw12236641533586979853:=()
def tw6589237321803202448:=()
def tw7782573085817673116:=()
def tw12611621809345473767:=()
def tw3981934562622237251:=()
def tw15009327508134896449:=()
def tw16986111123729338826:=()
def tw4595497542384765255:=()
def tw7764456676718414669:=()
def tw16268396156472631182:=()
def tw17382402715166692923:=()
def tw2813989326497079371:=()
def tw1668858552281933440:=()
def tw5811271514486658201:=()
def tw10599014466255598830:=()
def tw426701611822954289:=()
def tw3405625877048052687:=()
def tw12159754704175007841:=()
def tw17124960922739108073:=()
def tw14163854161590000236:=()
def tw7752195161822876969:=()
def tw6436879493782143368:=()
def tw9858555267528693923:=()
def tw5779487841644907915:=()
def tw5975692559657680214:=()
def tw11114848320203728045:=()
def tw10055767203138745971:=()
def tw9825260350816885037:=()
def tw17534463071787427199:=()
def tw17667309960972745604:=()
def tw17959010796730337433:=()
def tw10888490103828949197:=()
def tw4241732845021565316:=()
def tw6799195382548687836:=()
def tw8168454693457820741:=()
def tw15352000998347770155:=()
def tw14402230155790485388:=()
def tw5839948884112004365:=()
def tw3058319829464481998:=()
def tw16489721036508667268:=()
def tw6198015401050950284:=()
def tw18179596703872748668:=()
def tw4561716217881566002:=()
def tw12635645288241639212:=()
def tw2198835700341626493:=()
def tw618053762867915108:=()
def tw12860612674255049266:=()
def tw16517567863524690697:=()
def tw5841623118790272066:=()
def tw7631507113677135860:=()
def tw16075879449745086307:=()
def tw12601746922304578641:=()
def tw15322768523675496211:=()
def tw15957706890940233589:=()
def tw14110711923631304348:=()
def tw4465229116556810780:=()
def tw12886325785248118536:=()
def tw3995160316887722669:=()
def tw9247418654313591695:=()
def tw16315862154762799317:=()
def tw10917564315229810692:=()
def tw8078256992842339924:=()
def tw2862198386882940852:=()
def tw9919752412551266303:=()
def tw12957910841914916500:=()
def tw7204117914121501874:=()
def tw12278246575746225370:=()
def tw5140590252876005742:=()
def tw10713737946145062686:=()
def tw16096074214915275522:=()
def tw13608945210935879410:=()
def tw2746932465087190298:=()
def tw17295302445862970717:=()
def tw13054977117030030591:=()
def tw4582452504994459309:=()
def tw15684408340055837343:=()
def tw8106867955793464208:=()
def tw5340120891517554508:=()
def tw7292354240632712436:=()
def tw15161582209954185730:=()
def tw2223446341646354308:=()
def tw4942814703303580476:=()
def tw2145217014668195618:=()
def tw6286406476402347124:=()
def tw18143975565262630515:=()
def tw1211459692984238885:=()
def tw15409133754542540845:=()
def tw10047002307131491029:=()
def tw9820325214880794859:=()
def tw1080583762338116680:=()
def tw1549986331395804019:=()
def tw9413599821090688149:=()
def tw5958074130532771426:=()
def tw4983921491395452077:=()
def tw3504715613948602100:=()
def tw2486345843148011869:=()
def tw1972495490003491477:=()
def tw3976719169512444783:=()
def tw8189473778914711221:=()
def tw2980882016659423601:=()
def tw16599802874478329262:=()
def tw15661906531577440720:=()
def tw2003401382343255472:=()
def tw6815443407458797446:=()
def tw465312959173121820:=()
def tw7184248880517083684:=()
def tw17152608115163454707:=()
def tw15397391601820104674:=()
def tw934324242479864072:=()
def tw17126283542685497815:=()
def tw31585934100631441:=()
def tw5484038820972775152:=()
def tw14580220683020140443:=()
def tw10959297890627530889:=()
def tw1146292352759133539:=()
def tw18047883216015298918:=()
def tw16556951575496625146:=()
def tw9235189674958276893:=()
def tw6131382489894594882:=()
def tw7417897326272920922:=()
def tw3596095112113254382:=()
def tw17844389214179948460:=()
def tw1964698051219541929:=()
def tw18031303014998171453:=()
def tw13426724998304578544:=()
def tw17472225832201843030:=()
def tw8237364376065462760:=()
def tw12646541088469792874:=()
def tw9015846544750730767:=()
def tw17360287755902400462:=()
def tw3436417673375266082:=()
def tw4158709994130640873:=()
def tw10133663577568121695:=()
def tw2104582444246250867:=()
def tw1799841468044228060:=()
def tw3501397196029625836:=()
def tw16109196809987546603:=()
def tw11452461011697292560:=()
def tw708392173534660332:=()
def tw98488626240888314:=()
def tw2791227270868672537:=()
def tw13870908817797860317:=()
def tw16463748235533857961:=()
def tw523902407498700459:=()
def tw12073150675621167606:=()
def tw11178167471517607940:=()
def tw17125964315296851312:=()
def tw7059884071234578162:=()
def tw6131305155100529772:=()
def tw5738444043029027185:=()
def tw4873686067713319370:=()
def tw17032849231705971949:=()
def tw1493233914840575968:=()
def tw110499372009592253:=()
def tw2218845105804311325:=()
def tw2055252796193949761:=()
def tw14718810444908175642:=()
def tw12231227360056201702:=()
def tw9480029326959243520:=()
def tw7644601120943020630:=()
def tw14128140311907809858:=()
def tw1659419507349079942:=()
def tw888696853678363278:=()
def tw5790697300632055886:=()
def tw8658117553367726521:=()
def tw12245866840980130383:=()
def tw7607568571318521195:=()
def tw8934589031039211662:=()
def tw473512402487025742:=()
def tw18264399152396863213:=()
def tw6358289033946866268:=()
def tw4877562219703115856:=()
def tw16562166964830017144:=()
def tw4824030462741806656:=()
def tw17732667728730513671:=()
def tw409516855261481305:=()
def tw11286012047872172:=()
def tw13707356395309559114:=()
def tw8237712643259731827:=()
def tw1760692040226507847:=()
def tw17170044307365378897:=()
def tw13560454733248442079:=()
def tw3555935647559134019:=()
def tw13525818215780778568:=()
def tw16849537020789450273:=()
def tw12810620629241608984:=()
def tw2535300972667844001:=()
def tw17104738430714852283:=()
def tw10498040397487803268:=()
def tw1422633247220658433:=()
end PySem.W.Fast
abbrev yaa:=PySem.Value->PySem.Shared->Prop
abbrev yab:=List (PySem.Addr×PySem.Obj)
abbrev yac:=PySem.W.Frag
abbrev yad:=List PySem.Value
abbrev yae:=List PySem.Addr
abbrev yaf:=List Int
abbrev yag:=List Nat
abbrev yah:=List PySem.Str
abbrev yai:=List PySem.Expr
abbrev yaj:=Nat->Option PySem.Addr
abbrev yak:=Bool->PySem.Addr->Prop
abbrev yal:=List PySem.Stmt
abbrev yam:=PySem.Str->Option PySem.Value
abbrev yan:=Option PySem.Value
abbrev yao:=Array PySem.Value
abbrev yap:=Array Nat
abbrev yaq:=Option Int
def L3:=@PySem.wpAny_bind
def LO:=@if_neg
def LX:=@if_pos
def P7:=@PySem.Heap.get?_push_of_some
def Ph:=@List.length_map
def O8:=@PySem.Heap.lt_size
def O2:=@Nat.le_refl
def OQ:=@PySem.wpAny_pure
def Q7:=@List.length_append
def Rm:=@PySem.Heap.get?_push_size
def O3:=@PySem.wpAny_mono
def Ss:=@List.mem_append_right
def RX:=@Nat.lt_of_lt_of_le
def SD:=@List.mem_cons_of_mem
def Su:=@List.mem_cons_self
def Rb:=@List.mem_cons
def Sd:=@List.length_cons
def Tx:=@List.getElem?_set_ne
def S6:=@Bool.false_ne_true
def U3:=@List.getElem?_eq_some_iff
def Td:=@List.getElem?_map
def S7:=@Bool.and_eq_true
def Te:=@List.lookup_cons
def UP:=@Nat.le_of_ble_eq_true
def Sv:=@List.map_cons
def Tf:=@List.mem_append
def Uo:=@List.size_toArray
def Sn:=@Nat.ne_of_lt
def Up:=@List.all_eq_true
def Uq:=@List.length_take
def Sw:=@Nat.le_trans
def S8:=@PySem.wpAny_holding
def TL:=@decide_eq_false
def Tz:=@decide_eq_true
def S9:=@Nat.zero_le
def TB:=@List.mem_map
def UQ:=@Option.some.inj
def UR:=@PySem.wpAny_passesOwn
def Xh:=@List.getElem?_append_right
def XX:=@List.eq_nil_of_length_eq_zero
def Tg:=@PySem.wpAny_field
def WX:=@PySem.Heap.get?_update_other
def WY:=@List.getElem?_set_self
def TM:=@PySem.sizeLine_eq
def Se:=@PySem.boot_len
def XY:=@List.getElem?_append_left
def Wg:=@List.mem_singleton
def Xi:=@List.take_of_length_le
def Wh:=@PySem.wpAny_Call_Name_kw
def VC:=@List.map_append
def VZ:=@List.not_mem_nil
def Wi:=@of_decide_eq_true
def Wj:=@PySem.wpAny_truthy_bool
def V0:=@List.append_nil
def Xj:=@List.mem_of_getElem?
def V1:=@PySem.wpAny_execs_nil
def Uy:=@Nat.not_lt
def VD:=@Nat.lt_irrefl
def XZ:=@PySem.Heap.get?_update_self
def Yj:=@List.getElem?_eq_getElem
def X0:=@Bool.false_eq_true
def Xk:=@List.cons_append
def WZ:=@List.length_drop
def V5:=@PySem.wpAny_standAt
def X1:=@Array.append_assoc
def Wk:=@List.map_nil
def Zl:=@List.getElem?_replicate
def Yk:=@beq_eq_false_iff_ne
def Zm:=@Option.map_eq_some_iff
def ZM:=@Array.getElem?_eq_some_iff
def US:=@PyProof.Rows.boot_str
def Zn:=@List.getElem?_eq_none
def W4:=@Nat.pow_succ
def ZN:=@PySem.wpAny_comprehension_free
def Zo:=@List.filter_eq_self
def X2:=@PySem.Heap.size_push
def Yl:=@Nat.mod_eq_of_lt
def Ym:=@PySem.wpAny_execs_cons
def X3:=@PySem.wpAny_seqItems
def Zp:=@PySem.wpAny_setField_rec
def Yn:=@Bool.or_eq_true
def Zq:=@PySem.wpAny_assign_Name
def zBU:=@List.drop_eq_getElem_cons
def ZO:=@List.mem_append_left
def ZP:=@Nat.pow_le_pow_right
def Yo:=@Bool.false_and
def Yp:=@List.take_succ
def Yq:=@PySem.wpAny_setField
def Zr:=@List.take_length
def ZQ:=@List.filterMap_cons
def zBc:=@PySem.Heap.IsTupleIter.typeIs
def zBd:=@PySem.wpAny_callSpecial?_slot
def ZR:=@List.mem_filterMap
def Zs:=@List.of_mem_zip
def ZS:=@List.zip_cons_cons
def Xl:=@PySem.typeIs_str
def ZU:=@Int.toNat_natCast
def ZV:=@Nat.lt_of_succ_le
def ZW:=@PySem.wpAny_newObj_type
def zBl:=@List.length_singleton
def Yr:=@List.map_map
def zBn:=@List.take_append_drop
def zBo:=@PySem.exec_Assign_Name_used
def zBp:=@PySem.wpAny_isTrue_Compare1
def Zt:=@Bool.true_and
def zBr:=@List.getD_eq_getElem?_getD
def zBs:=@List.cons.injEq
def ZX:=@Nat.min_eq_left
def zBu:=@List.filter_append
namespace WC
open PySem PySem.Spec PySem.W PyProof.Rows
def HC(Γ:PySem.Ctx):Prop:=(Γ.below.any fun x=>x.1.isCaller)=true
def LL{α:Type}(M:Model)(A:Around)(t:Sem α)(Q:α->Shared->Prop)(E:yaa)(s:Shared):Prop :=
 ∀ Γ p,PySem.Ctx.In Γ A->HC Γ->Sem.wp M Γ t (fun a _ s'=>Q a s') (fun e _ s'=>E e s') p s
def aN(M:Model)(A:Around)(c:Code)(R:Result->Shared->Prop)(s:Shared):Prop :=
 ∀ Γ p,PySem.Ctx.code Γ=c->Γ.Below A->HC Γ->wpCode M Γ R p s
section
variable{α β:Type}{M:Model}{A:Around}{E:yaa}{s:Shared}
theorem LL.of{t:Sem α}{Q:α->Shared->Prop}(h:wpAny M A t Q E s):LL M A t Q E s:=fun Γ p R5 _=>h Γ p R5
theorem aN.of{c:Code}{R:Result->Shared->Prop}(h:codeAny M A c R s):aN M A c R s:=fun Γ p hc R5 _=>h Γ p hc R5
theorem LL.mono{t:Sem α}{Q Q':α->Shared->Prop}{E':yaa}(h:LL M A t Q E s)(hQ:∀a s,Q a s->Q' a s)(hE:∀e s,E e s->E' e s):LL M A t Q' E' s :=
 fun Γ p R5 c=>Sem.wp_mono M Γ t (fun a _ s=>hQ a s) (fun e _ s=>hE e s) p s (h Γ p R5 c)
theorem LL.LS{t:Sem α}{Q Q':α->Shared->Prop}(h:LL M A t Q E s)(hQ:∀a s,Q a s->Q' a s):LL M A t Q' E s:=h.mono hQ fun _ _ z=>z
theorem aN.mono{c:Code}{R R':Result->Shared->Prop}(h:aN M A c R s)(hR:∀r s,R r s->R' r s):aN M A c R' s:=fun Γ p hc R5 k=>wpCode_mono hR (h Γ p hc R5 k)
theorem LL.bind{m:Sem α}{f:α->Sem β}{Q:β->Shared->Prop}(h:LL M A m (fun a s'=>LL M A (f a) Q E s') E s):LL M A (m >>= f) Q E s:=fun Γ p R5 c=>by rw[Sem.wp_bind'];exact Sem.wp_mono M Γ m (fun a p' s' h'=>h' Γ p' R5 c) (fun _ _ _ z=>z) p s (h Γ p R5 c)
theorem LL.NS{m:Sem α}{f:α->Sem β}{Q:β->Shared->Prop}(h:wpAny M A m (fun a s'=>LL M A (f a) Q E s') E s):LL M A (m >>= f) Q E s:=LL.bind (LL.of h)
theorem LL.pure{a:α}{Q:α->Shared->Prop}(h:Q a s):LL M A (pure a) Q E s:=fun _ _ _ _=>h
theorem LL.holding{vs:yad}{m:Sem α}{Q:α->Shared->Prop}(h:LL M A m Q E s):LL M A (holding vs m) Q E s:=fun Γ p R5 c=>by rw[Sem.wp_holding];exact h Γ p R5 c
theorem LL.attempt{m:Sem α}{Q:Except Value α->Shared->Prop}(h:LL M A m (fun a=>Q (.ok a)) (fun e=>Q (.error e)) s):LL M A m.attempt Q E s:=fun Γ p R5 c=>by rw[Sem.wp_attempt];exact h Γ p R5 c
theorem LL.onRaise{m:Sem α}{k:Value->Sem Unit}{Q:α->Shared->Prop}(h:LL M A m Q (fun e s'=>LL M A (k e) (fun _ T2=>E e T2) E s') s):LL M A (m.onRaise k) Q E s:=fun Γ p R5 c=>by rw[Sem.wp_onRaise];exact Sem.wp_mono M Γ m (fun _ _ _ z=>z) (fun e p' s' h'=>h' Γ p' R5 c) p s (h Γ p R5 c)
theorem LL.OX{pos:Pos}{f:Unit->Sem β}{Q:β->Shared->Prop}(h:LL M A (f ()) Q E s):LL M A (standAt pos >>= f) Q E s:=LL.NS (V5 h)
theorem HC.enter{Γ:PySem.Ctx}(h:HC Γ)(c:Code)(hd:yan)(p:Pos):HC (Γ.enter c hd p):=by show(((Γ.code,p)::Γ.below).any fun x=>x.1.isCaller)=true;rw[List.any_cons,show(Γ.below.any fun x=>x.1.isCaller)=true from h,Bool.or_true]
theorem aN.tree{c:Code}{R:Result->Shared->Prop}(h:LL M (A.under c) (M.den c) (fun fin s'=>match fin with|.done f=>R (.ok f) s'|.again c'=>c'.quiet=true/\aN M A c' R s') (fun e s'=>R (.error e) s') s):aN M A c R s:=by
 intro Γ p hc R5 k;rw[wpCode_iff_wp,hc];refine Sem.wp_mono M Γ _ (fun fin p' s' h'=>?_) (fun _ _ _ z=>z) p s (h Γ p (hc ▸ R5.in) k);cases fin with
 |done f=>exact h'
 |again c'=>exact⟨h'.1,h'.2 (Γ.goto c') p' rfl (R5.goto c') k⟩
theorem LL.runValue{c:Code}{Q:yaa}(hc:aN M A c (fun r s'=>match r with|.ok (.ret v)=>Q v s'|.ok _=>False|.error e=>E e s') s):LL M A (runValue c) Q E s :=
 fun Γ p R5 k=>by rw[Sem.wp_runValue];exact hc _ p rfl (R5.enter c none p (by intro x;cases x)) (k.enter _ _ _)
theorem LL.call{f:Value}{us:yad}{kw:List (Str×Value)}{Q:yaa}(hc:aN M A (.call f ⟨us,kw⟩) (fun r s'=>match r with|.ok (.ret v)=>Q v s'|.ok _=>False|.error e=>E e s') s):LL M A (PySem.call f us kw) Q E s:=LL.runValue hc
theorem LL.run{c:Code}{Q:Flow->Shared->Prop}(hc:aN M A c (fun r s'=>match r with|.ok f=>Q f s'|.error e=>E e s') s):LL M A (PySem.run c) Q E s :=
 fun Γ p R5 k=>by rw[Sem.wp_run];exact hc _ p rfl (by have:=R5.enter c none p (by intro x;cases x);exact this) (k.enter _ _ _)
theorem LL.runOwn{env:Env}{c:Code}{Q:Flow->Shared->Prop}(hc:aN M A c (fun r s'=>match r with|.ok f=>Q f s'|.error e=>cameBackBy M A env E e s') s):LL M A (PySem.runOwn c env) Q E s:=by unfold PySem.runOwn;exact LL.onRaise ((LL.run (E:=cameBackBy M A env E) hc).mono (fun _ _ z=>z) fun _ _ z=>LL.of z)
theorem LL.WJ{env:Env}{m:Sem α}{Q:α->Shared->Prop}(h:LL M A m Q (notedBy M A env E) s):LL M A (m.onRaise fun x=>do noteFrame x env;theTreesLotGoes x) Q E s :=
 LL.onRaise (h.mono (fun _ _ q=>q) fun _ _ hx=>LL.of (L3 (O3 hx (fun _ _ e=>wpAny_theTreesLotGoes e) fun _ _ e=>e)))
end
section
variable{M:Model}{A:Around}{E:yaa}{s:Shared}{env:Env}
theorem nK{st:Stmt}{rest:yal}{Q:Flow->Shared->Prop}(h:LL M A (exec st env) (fun f s'=>match f with|.next=>LL M A (execs rest env) Q E s'|f=>Q f s') E s):LL M A (execs (st::rest) env) Q E s:=by
 rw[execs_cons];refine LL.bind (h.LS fun f s' z=>?_);cases f with
 |next=>exact z
 |brk=>exact LL.pure z
 |cont=>exact LL.pure z
 |ret v=>exact LL.pure z
theorem Jy{x:Str}{pos' pos:Pos}{value:Expr}{Q:Flow->Shared->Prop}(h:LL M A (eval value env) (fun v LP=>wpAny M A (storeName env x v) (fun _=>Q .next) E LP) E s)
  (hs:swapsWith value (some (.Name x pos')) pos.line env=pure false:=by rfl):LL M A (exec (.Assign [.Name x pos'] value pos) env) Q E s:=by
 rw[exec_Assign_Name env x pos' value pos hs];exact LL.OX (LL.bind (h.LS fun v s1 z=>LL.OX (LL.NS (wpAny_bindName (O3 z (fun _ _ q=>LL.pure q) fun _ _ q=>q)))))
theorem Gi{test:Expr}{body orelse:yal}{pos:Pos}{Q:Flow->Shared->Prop}(h:LL M A (isTrue test env (eval test env)) (fun b LN=>if b then LL M A (execs body env) Q E LN else LL M A (execs orelse env) Q E LN) E s) :
  LL M A (exec (.If test body orelse pos) env) Q E s:=by
 rw[exec_If];refine LL.OX (LL.bind (h.LS fun b s1 z=>?_));cases b<;>exact z
theorem Ds{e:Expr}{pos:Pos}{Q:Flow->Shared->Prop}(h:LL M A (eval e env) (fun v=>Q (.ret v)) E s):LL M A (exec (.Return (some e) pos) env) Q E s:=by rw[exec_Return_some];exact LL.OX (LL.bind (h.LS fun v s1 z=>LL.pure z))
theorem Dt{body:yal}{h₀:ExceptHandler}{hs:List ExceptHandler}{pos:Pos}{Q:Flow->Shared->Prop}
  (h:LL M A (execs body env) (fun f LP=>match f with|.next=>wpAny M A (execs [] env) Q E LP|f=>Q f LP)
   (fun e LP=>wpAny M A (noteFrame e env) (fun _ LN=>wpAny M A (setFlight e none) (fun _ OJ=>wpAny M A (handleBy e env (h₀::hs)) Q E OJ) E LN) E LP) s) :
  LL M A (exec (.Try body (h₀::hs) [] [] pos) env) Q E s:=by
 rw[arm_exec_Try];refine LL.OX ?_;unfold tryStmt;simp only[List.isEmpty_nil,if_true,List.isEmpty_cons,Yo,X0,if_false];refine LL.bind (LL.attempt (h.mono (fun f s1 z=>?_) fun e s1 z=>?_))
 ·cases f with
  |next=>exact LL.of z
  |brk=>exact LL.pure z
  |cont=>exact LL.pure z
  |ret v=>exact LL.pure z
 ·exact LL.of (L3 (O3 z (fun _ _ q=>L3 q) fun _ _ q=>q))
end
section
variable{prog:Program}{w:World}{A:Around}{E:yaa}{s:Shared}{env:Env}
theorem Gh{e:Expr}{pos:Pos}{Q:Flow->Shared->Prop}(h:LL (model prog w) A (eval e env) (fun _=>Q .next) E s)(hi:interactive env=false:=by rfl)(hs:swapsWith e none pos.line env=pure false:=by rfl) :
  LL (model prog w) A (exec (.Expr e pos) env) Q E s:=by
 rw[exec_Expr env e pos hi hs];exact LL.OX (LL.bind (h.LS fun v s' z=>LL.of (wpAny_dropValue z)))
theorem Eb{stmts:yal}{R:Result->Shared->Prop}(h:LL (model prog w) A (execs stmts env) (fun f s'=>R (.ok f) s') (notedBy (model prog w) A env fun e s'=>R (.error e) s') s):aN (model prog w) A (.block stmts env) R s:=by refine aN.tree ?_;show LL _ _ (do return Fin.done (←(execs stmts env).onRaise (fun x=>do noteFrame x env;theTreesLotGoes x))) _ _ s;exact LL.bind (LL.WJ (h.mono (fun f s' z=>LL.pure z) fun _ _ z=>z))
theorem Jw{target iter:Expr}{body orelse:yal}{pos:Pos}{Q:Flow->Shared->Prop}
  (h:wpAny (model prog w) A (eval iter env) (fun x LP=>wpAny (model prog w) A (pyIter x) (fun it LN =>
   aN (model prog w) A (.forLoop target it body orelse env) (fun r s'=>match r with|.ok f=>Q f s'|.error e=>cameBackBy (model prog w) A env E e s') LN) E LP) E s)
  (hs:∀x,foldedSetIterable iter env x=pure x:=by intro _;rfl):LL (model prog w) A (exec (.For target iter body orelse pos) env) Q E s:=by
 rw[exec_For];refine LL.OX (LL.NS (O3 h (fun x s1 z=>?_) fun _ _ z=>z));rw[hs x];exact LL.bind (LL.pure (LL.OX (LL.NS (S8 (O3 z (fun it s2 q=>LL.runOwn q) fun _ _ q=>q)))))
theorem zJ{c:Code}{M:Model}{R:Result->Shared->Prop}(hq:c.quiet=true)(I:Nat->Shared->Prop)
  (turn:∀n s,I n s->LL M (A.under c) (M.den c) (fun fin s'=>match fin with
    |.done f=>R (.ok f) s'
    |.again c'=>(c'=c/\∃m,m<n/\I m s')∨(c'.quiet=true/\aN M A c' R s')) (fun e s'=>R (.error e) s') s):∀(n:Nat) (s:Shared),I n s->aN M A c R s:=by
 intro n
 induction n using Nat.strongRecOn with
 |ind n ih =>
  intro s h;refine aN.tree ((turn n s h).LS fun fin s' z=>?_);cases fin with
  |done f=>exact z
  |again c' =>
   rcases z with⟨rfl,m,hm,hI⟩| z
   ·exact⟨hq,ih m hm s' hI⟩
   ·exact z
theorem Ei{R:Result->Shared->Prop}{target:Expr}{it:Value}{body orelse:yal}(I:Nat->Shared->Prop)
  (turn:∀n s,I n s->wpAny (model prog w) A (pyNext it) (fun r LP=>match r with
   |none=>LL (model prog w) A (execs orelse env) (fun f OJ=>R (.ok f) OJ) (notedBy (model prog w) A env fun e s'=>R (.error e) s') LP
   |some v=>wpAny (model prog w) A (letOwnedTupleGo target it v) (fun _ s₁' =>
     wpAny (model prog w) A (assign target env v) (fun _ LN=>LL (model prog w) A (execs body env) (fun f OJ=>match f with
      |.next|.cont=>∃m,m<n/\I m OJ
      |.brk=>R (.ok .next) OJ
      |.ret v=>R (.ok (.ret v)) OJ) (notedBy (model prog w) A env fun e s'=>R (.error e) s') LN) (notedBy (model prog w) A env fun e s'=>R (.error e) s') s₁') (notedBy (model prog w) A env fun e s'=>R (.error e) s') LP) (notedBy (model prog w) A env fun e s'=>R (.error e) s') s)
  (n:Nat) (h:I n s):aN (model prog w) A (.forLoop target it body orelse env) R s:=by
 refine zJ rfl I (fun n s hI=>?_) n s h;show LL _ A ((forTurn target it body orelse env).onRaise (fun x=>do noteFrame x env;theTreesLotGoes x)) _ _ s;refine LL.WJ ?_;simp only[forTurn];refine LL.OX (LL.NS (wpAny_onRaise (O3 (turn n s hI) (fun r s1 z=>?_) fun _ _ z=>V5 z)));cases r with
 |none=>exact LL.pure (.inr ⟨rfl,Eb z⟩)
 |some v =>
  refine LL.NS (O3 z (fun _ s2 z2=>LL.NS (O3 z2 (fun _ s3 z3=>LL.bind (z3.LS fun f s4 z4=>?_)) fun _ _ z=>z)) fun _ _ z=>z);cases f with
  |next=>exact LL.pure (.inl ⟨rfl,z4⟩)
  |cont=>exact LL.pure (.inl ⟨rfl,z4⟩)
  |brk=>exact LL.pure z4
  |ret v=>exact LL.pure z4
end
section
variable{M:Model}{A:Around}{E:yaa}{s:Shared}{env:Env}
theorem Jx{x:Expr}{pos:Pos}{whole:Sem Value}{Q:Bool->Shared->Prop}(h:LL M A (isTrue x env (eval x env)) (fun c s'=>Q (!c) s') E s):LL M A (isTrue (.UnaryOp .Not x pos) env whole) Q E s:=by show LL M A (do return !(←isTrue x env (eval x env))) Q E s;exact LL.bind (h.LS fun c s' z=>LL.pure z)
theorem Eg{e:Expr}{whole:Sem Value}{Q:Bool->Shared->Prop}(h:LL M A whole (fun v LP=>wpAny M A (truthy v) Q E LP) E s)(he:isTrue e env whole=(do let v←whole;standAt e.pos;holding [v] (truthy v)):=by rfl):LL M A (isTrue e env whole) Q E s:=by rw[he];exact LL.bind (h.LS fun v s1 z=>LL.OX (LL.of (S8 z)))
theorem Gk{x:Expr}{rest:yai}{pos:Pos}{whole:Sem Value}{Q:Bool->Shared->Prop}
  (h:LL M A (isTrue x env (eval x env)) (fun c s'=>if c then Q true s' else LL M A (isTrue (.BoolOp .Or rest pos) env whole) Q E s') E s):LL M A (isTrue (.BoolOp .Or (x::rest) pos) env whole) Q E s:=by
 show LL M A (do
  match BoolOp.Or,<- isTrue x env (eval x env)with
  |.And,false=>pure false
  |.Or,true=>pure true
  |_,_=>allTrue .Or rest env) Q E s
 refine LL.bind (h.LS fun c s' z=>?_);cases c with
 |true=>exact LL.pure z
 |false=>exact z
theorem xO{id:Str}{p pos:Pos}{args:yai}{Q:yaa}
  (h:wpAny M A (eval (.Name id p) env) (fun f LP=>LL M A (callWith pos f [] (backTo pos (starEach args env)) (backToKw pos (keywordEach [] env))) Q E LP) E s):LL M A (eval (.Call (.Name id p) args [] pos) env) Q E s:=by
 rw[arm_eval_Call_Name'];exact LL.NS h
theorem vh{x:Sem Value}{rest:List (Bool×Sem Value)}{Q:yad->Shared->Prop}(h:LL M A x (fun v LP=>LL M A (spliced rest) (fun vs LN=>Q (v::vs) LN) E LP) E s):LL M A (spliced ((false,x)::rest)) Q E s:=by rw[spliced];refine LL.bind (h.LS fun v s1 z=>?_);simp only[X0,if_false];exact LL.bind (LL.pure (LL.bind (LL.holding (z.LS fun vs s2 q=>LL.pure q))))
theorem zG{f:Value}{x:Sem Value}{rest:List (Bool×Sem Value)}{Q:Args->Shared->Prop}(h:LL M A (spliced ((false,x)::rest)) (fun vs s'=>Q ⟨vs,[]⟩ s') E s):LL M A (evalArgs f true ((false,x)::rest) []) Q E s:=by unfold evalArgs;show LL M A (spliced ((false,x)::rest) >>= _) Q E s;exact LL.bind (h.LS fun vs s' z=>LL.of (S8 (L3 (OQ (L3 (OQ (OQ z)))))))
theorem Gm{P:Heap->Prop}{f:Value}{first:yad}{pos:Pos}{Q:yaa}{args:List (Bool×Sem Value)}(PJ:(args.any (·.1) || false)=false)
  (hk:∀h,P h->∃k,(k=Keeper.frame∨k=Keeper.machine∨k=Keeper.boundFrame)/\Looks M h (keeperOf f) k)
  (h:LL M A (evalArgs f true args []) (fun a LP=>P LP.heap/\LL M A (PySem.call f (first++a.pos) a.kw) Q E LP) E s):LL M A (callWith pos f first args []) Q E s:=by
 unfold callWith;refine LL.bind (LL.holding (h.LS fun a s1 z=>LL.OX ?_));obtain⟨k,hk',L⟩:=hk _ z.1;simp only[List.any_nil,PJ];refine LL.NS (L.here ?_);have tail:∀{t:Sem Value},LL M A t Q E s1->LL M A (t >>= fun r=>holding [r] point >>= fun _=>pure r) Q E s1 :=
  fun ht=>LL.bind (ht.LS fun r s2 hr=>LL.of (L3 (S8 (wpAny_point (OQ hr)))))
 have marked (mk:Value):LL M A (callMarked mk f (first++a.pos) a.kw) Q E s1:=by unfold callMarked;intro Γ p R5 c;rw[Sem.wp_keep];exact z.2 Γ p R5 c
 rcases hk' with rfl|rfl|rfl<;>dsimp only<;>first|exact tail z.2|(split<;>first|exact tail z.2|exact tail (marked _))
theorem xP{h₀:Heap}{K:yac}{f:Value}{first:yad}{pos:Pos}{Q:yaa}{e:Expr}{rest:yai}(_X:K.In h₀)(hk:keepIn K f=true)
  (h:LL M A (spliced (backTo pos (starEach (e::rest) env))) (fun vs LP=>K.In LP.heap/\LL M A (PySem.call f (first++vs)) Q E LP) E s)
  (he:starEach (e::rest) env=(false,eval e env)::starEach rest env:=by rfl) (PJ:(backTo pos (starEach rest env)).any (·.1)=false:=by rfl) :
  LL M A (callWith pos f first (backTo pos (starEach (e::rest) env)) []) Q E s:=by
 rw[he]at h ⊢;exact Gm (by show((false || (backTo pos (starEach rest env)).any (·.1)) || false)=false;rw[PJ];rfl) (keeps_K hk) (zG h)
end
section
variable{prog:Program}{w:World}{A:Around}{E:yaa}{s:Shared}{env:Env}
theorem Gj {elts:yai} {pos:Pos} {Q:yaa} (h:LL (model prog w) A (spliced (backTo pos (starEach elts env))) (fun vs LP=>vs.length<=sizeLine/\Q (.ref LP.heap.objs.size) {LP with heap:=LP.heap.push {cls:=.type "list", data:=.seq vs.toArray} }) E s) :
  LL (model prog w) A (eval (.List elts pos) env) Q E s:=by
 rw[arm_eval_List];exact LL.OX (LL.bind (h.LS fun vs s1 z=>LL.of (wpAny_newList z.2 z.1)))
theorem Eh{elts:yai}{pos:Pos}{x1:Nat}{Q:yaa}(h:LL (model prog w) A (spliced (backTo pos (starEach elts env))) (fun vs LP=>wpAny (model prog w) A (newTuple vs) Q E LP) E s) :
  LL (model prog w) A (eval (.Tuple elts x1 pos) env) Q E s:=by
 rw[arm_eval_Tuple];exact LL.OX (LL.bind (h.LS fun vs s1 z=>LL.of z))
theorem zI{R:Result->Shared->Prop}{body:yal}(h:LL (model prog w) (A.deeper env) (execs body env) (fun f s'=>R (.ok (.ret (match f with|.ret v=>v|_=>.none))) s')
   (fun e s'=>wpAny (model prog w) (A.deeper env) (leaving env e) (fun _ T2=>R (.error e) T2) (fun e' T2=>R (.error e') T2) s') s):aN (model prog w) A (.func body env) R s:=by
 refine aN.tree ?_;show LL _ (A.deeper env) (do point;match←(execs body env).onRaise (leaving env)with|.ret v=>ret v|_=>ret .none) _ _ s;refine LL.NS (wpAny_point (LL.bind (LL.onRaise (h.mono (fun f s' z=>?_) fun _ _ z=>LL.of z))));cases f<;>exact LL.pure z
theorem zH{R:Result->Shared->Prop}{a:Addr}{args:Args}{o:Obj}{fd:FuncData}{body:yal}(hroom:A.depth<recursionLimit)(ho:s.heap.get? a=some o)
  (TR:o.data=.func fd) (hco:fd.scope.isCoroutine=false) (hgen:fd.scope.isGenerator=false) (PF:fd.body=.stmts body) (RN:s.heap.CodeRec fd.code fd.qualname)
  (h:wpAny (model prog w) A.in1 (bindArgs fd args) (fun binds LP =>
   wpAny (model prog w) A.in1 (newFunctionEnv fd.scope fd.globals fd.closure binds (fd.qualname ++ ".<locals>.") (some a) fd.code none fd.builtins)
    (fun env LN=>LN.heap.NoLimit/\aN (model prog w) A (.func body env) R LN) (fun e s'=>R (.error e) s') LP) (fun e s'=>R (.error e) s') s) :
  aN (model prog w) A (.call (.ref a) args) R s:=by
 refine aN.tree ?_;show LL _ A.in1 (callAny (.ref a) args) _ _ s;simp only[callAny];refine LL.NS (wpAny_load ho ?_);obtain⟨c,oc,vs,tq,hc,hoc,hdc,hq⟩:=RN;simp only[TR,callFunction,hco,hgen,PF,hc];rw[hc]at h;refine LL.NS (m:=field (.ref c) 1) (Tg hoc hdc hq (LL.bind (LL.pure ?_)));exact LL.NS (O3 h (fun binds s1 z=>LL.NS (O3 z (fun env s2 q=>LL.NS (wpAny_enterFrame q.1 hroom (LL.pure (And.intro rfl q.2)))) fun _ _ z=>z)) fun _ _ z=>z)
end
abbrev D6(x:Str)(vs:yad):Sem Fin:=do
 match←nsGet mainNs x with
 |some f=>do ret (←PySem.call f vs)
 |none=>unsupported "claim.caller:no-such-global"
theorem Jh{prog:Program}{w:World}{x:Str}{vs:yad}{s:Shared}{mg:yam}{f:Value}{R:Result->Shared->Prop}(hg:s.heap.Ns mainGlobals mg)(hf:mg x=some f)
  (h:aN (model prog w) callerA (.call f ⟨vs,[]⟩) (fun r s'=>match r with|.ok (.ret v)=>R (.ok (.ret v)) s'|.ok _=>False|.error e=>R (.error e) s') s) :
  Sem.wp (model prog w) ⟨.builtin "claim.caller" {},none,none,[],none⟩ (D6 x vs) (Sem.finPost (model prog w) ⟨.builtin "claim.caller" {},none,none,[],none⟩ R) (fun e _ s'=>R (.error e) s') default s:=by
 have a:wpAny (model prog w) callerA (nsGet mainNs x) (fun o s'=>o=some f/\s'=s) (fun _ _=>False) s:=wpAny_nsGet hg ⟨hf,rfl⟩;unfold D6;rw[Sem.wp_bind'];refine Sem.wp_mono _ _ _ (fun o p s' z=>?_) (fun _ _ _ z=>z.elim) default s (a _ default caller_in);obtain⟨rfl,rfl⟩:=z;show Sem.wp _ _ (PySem.call f vs >>= fun v=>ret v) _ _ _ _;rw[Sem.wp_bind'];unfold PySem.call;rw[Sem.wp_runValue];refine wpCode_mono (fun r s' z=>?_) (h _ p rfl (caller_in.enter _ none p (by intro z;cases z)) (by show(List.any [_] _)=true;rfl));cases r with
 |error e=>exact z
 |ok fl=>cases fl<;>first|exact z|exact z.elim
theorem Gu {c : ClaimW} {x : Str} {w : World} {s : Shared} {free : Addr -> Prop} {gens : Prop} {kept : Heap -> Prop} (hz : s.asleep) (WK : s.gens = #[])
  (spec : ∀ args, c.pre args = true -> WData.layableAll args = true -> ∀ ord : List DictEntry -> List DictEntry, (∀ l, (ord l).Perm l) →
   ∃ vs LP mg f, layAllW c.records (classAt s.heap) w.params ord args s = some (vs, LP) /\ LP.heap.Ns mainGlobals mg /\ mg x = some f ∧
    aN (model c.prog w) callerA (.call f ⟨vs, []⟩) (fun r s' => match r with
     | .ok (.ret v) => c.Ends s args vs LP (.ok (.ret v)) s' /\ s'.os = s.os /\ AllBare s'.gens /\ kept s'.heap
     | .ok _ => False
     | .error e => c.Ends s args vs LP (.error e) s' /\ s'.os = s.os /\ AllBare s'.gens /\ kept s'.heap) LP) : c.CallFrom (callStub x) w free gens kept s := by
 intro args hp hl ord ho;obtain ⟨vs, s1, mg, f, laid, hg, hf, hc⟩ := spec args hp hl ord ho;have al := layAllW_rest _ _ _ laid;obtain ⟨n, r, s', T2, hs, hn, fo, E1, E2, E3⟩ := wp_halts_full (M := model c.prog w) (R := fun r s' => c.Ends s args vs s1 r s' /\ s'.os = s.os /\ kept s'.heap) (Shared.asleep_of_life al.2.2.2 hz)
  (Jh (R := fun r s' => (c.Ends s args vs s1 r s' /\ s'.os = s.os /\ kept s'.heap) /\ leftWithCleanup s'.gens = false) hg hf (hc.mono fun r s' z => by
   cases r with
   | error e => exact ⟨⟨z.1, z.2.1, z.2.2.2⟩, leftWithCleanup_false_of_bare z.2.2.1⟩
   | ok fl => cases fl <;> first | exact ⟨⟨z.1, z.2.1, z.2.2.2⟩, leftWithCleanup_false_of_bare z.2.2.1⟩ | exact z))
 obtain ⟨eh, _, _, eo, _⟩ := Shared.forget_eq fo;have E1 : c.Ends s args vs s1 r T2 := E1.congr eh;have E3 : kept T2.heap := by rw [eh]; exact E3
 have E2 : T2.os = s.os := eo.trans E2;have life : T2.heap.life = s.heap.life := (runN_life _ _ _ hn).trans al.2.2.2;refine ⟨vs, s1, laid, n, _, T2, hs, ?_, (fun _ i y hy => by rw [WK] at hy; simp at hy), E3, by rw [life], Shared.rest_eq E2⟩;rcases E1 with ⟨v, rfl, d1, d2, d3, d4, d5⟩ | ⟨e, ob, cls, rfl, d1, d2, d3, d4, d5⟩
 ·exact .inl ⟨v, rfl, d1, d2, d3, fun b o y _ => d4 b o y, d5⟩
 ·exact .inr ⟨e, ob, cls, rfl, d1, d2, d3, d4, fun b o y _ => d5 b o y⟩
abbrev Dq(q:Program)(loose:yah)(XP:(yam)->Heap->Prop)(YP:World->Heap->Prop)(r:RowW)(d:DefRec)(kwd:List (Str×Expr)):Prop :=
 ∀ (w:World) (MY LP:Shared) (mg mb:yam),Ground q loose r.records XP w MY mg mb LP.heap->YP w LP.heap->∀(a:Addr) (o:Obj) (pm cd doc dV kV:Value),LP.heap.get? a=some o →
  o.data=.func {Calls.docDef d.name d.params d.body d.scope pm cd doc with defaults:=dV,kwdefaults:=kV}->LP.heap.CodeRec cd d.name->Dflts mg LP.heap d.params kwd dV kV->mg d.name=some (.ref a)->LP.gens=#[] →
  ∀ (args:List WData) (vals:yad) (as:yae),r.claim.pre args=true->WData.layableAll args=true->ReadsAllW r.records (classAt MY.heap) LP.heap vals args as->WellAll w.params LP.heap vals args->(∀a∈as,(a==sysModules)=false) →
   aN (model r.prog w) callerA (.call (.ref a) ⟨vals,[]⟩) (fun res s'=>match res with
    |.ok (.ret v)=>GoodWG r.claim (classAt MY.heap) (ExcName.means MY.heap) args LP (.ok (.ret v)) s'
    |.ok _=>False
    |.error e=>GoodWG r.claim (classAt MY.heap) (ExcName.means MY.heap) args LP (.error e) s') LP
theorem PySem.W.holds_open{r:OpenRow}{q:Program}{loose:yah}{Xt:Shared->Bool}{XP:(yam)->Heap->Prop}{α:Type}{Yf:Shared->α}{Ya:World->α}{YP:World->Heap->Prop}{d:DefRec}{kwd:List (Str×Expr)}{N:Nat}
  (left:LeftO r.prog q loose Xt Yf Ya N) (hY:∀w s,Yf s=Ya w->YP w s.heap) (hYk:∀w h h',YP w h->(∀b o,h.get? b=some o->h'.get? b=some o)->YP w h')
  (hX:∀s,Xt s=true->XP (s.heap.nsMap mainGlobals) s.heap) (hXk:∀mg h h',XP mg h->(∀b o,h.get? b=some o->h'.get? b=some o)->XP mg h')
  (Y3:defOf q r.name=some (d,kwd)) (hp:r.prog.theDef r.name=some (d.params,d.body,d.scope)) (hk:kwWritten? d.params.kwonlyargs d.params.kw_defaults=some kwd) (hRf:∀s,Xt s=true->RecFacts r.records s.heap) (hwr:(!r.writes || r.records.isEmpty)=true)
  (k1:r.wellSaid=true) (ok:(chainsOk q && opensWell r.prog && (frees r.toRowW && r.within.isEmpty))=true) (hb:r.prog.bare) (hw:r.toRowW.promised)
  (call:Dq q loose XP YP r.toRowW d kwd):r.Holds:=by
 refine⟨k1,hw,?_⟩;obtain⟨ok,k5⟩:=Bool.and_eq_true_iff.mp ok;obtain⟨TU,o1⟩:=Bool.and_eq_true_iff.mp ok;obtain⟨k5,k6⟩:=Bool.and_eq_true_iff.mp k5;obtain⟨same,hu,ha,hap,hm⟩:=frees_parts k5;refine⟨⟨hb,o1,by show r.makers.map _=[];rw[hm];rfl⟩,hw.witness,fun w=>⟨(left.behind hX TU w).1,fun s' hs'=>?_⟩⟩;obtain⟨s0,hf,hg0,s,hT,hz,WK,hg,VU,y⟩:=(left.behind (XP:=fun mg h=>XP mg h/\RecFacts r.records h) (fun s hs=>⟨hX s hs,hRf s hs⟩) TU w).2 s' hs';have G0:Ground q loose [] XP w s (s.heap.nsMap mainGlobals) (s.heap.nsMap builtinsNs) s.heap:=⟨VU.T,VU.B,VU.D,VU.TE,VU.TD,VU.W,VU.X.1,VU.cls,VU.has,VU.apart,VU.once,VU.K⟩;have RF:=VU.X.2;refine⟨s0,hf,hg0,s,hT,fun n hn=>?_,RF.1,RF.2.1,?_⟩
 ·obtain rfl:n=r.name:=by split at hn<;>simp_all
  exact pinned_of_view hg G0 Y3 hp hk
 have gens:s.gens=#[]:=Array.eq_empty_of_size_eq_zero (beq_iff_eq.mp WK);have G:Ground q loose r.records XP w s _ _ s.heap:=RF.ground G0;refine Gu (c:=r.toRowW.claim) hz gens fun args U6 Y4 ord hord=>?_
 obtain⟨⟨vs,s1⟩,laid⟩:=Option.isSome_iff_exists.mp (layAllW_isSome (P:=w.params) (ord:=ord) G.has args r.args s (pre_splitW U6).1);have keeps:=layAllW_keeps _ _ _ laid;have al:=layAllW_rest _ _ _ laid;obtain⟨as,hrd,hin,hold⟩:=reads_layAllW hord _ _ _ laid Y4 s1.heap (fun _ _ e=>e);have L:Laid r.records w s s1 args vs as:=⟨⟨ord,hord,laid⟩,hrd,hin,hold,keeps,al.1.trans gens,al.2.2.1⟩;have G1:=G.keeps hXk keeps;obtain⟨a,o,pm,cd,doc,dV,kV,h1,h2,h3,h4,h5⟩:=G1.fn Y3;have hi:=ident_freeW hu ha hap;have hwi:r.toRowW.claim.within=[]:=List.isEmpty_iff.mp k6;refine⟨vs,s1,_,.ref a,laid,G1.T.g,h1,(call w s s1 _ _ G1 (hYk _ _ _ (hY w s y) keeps) a o pm cd doc dV kV h2 h3 h4 h5 (defOf_name Y3 ▸ h1) L.gens args vs as U6 Y4 L.reads L.well (L.low G.low)).mono fun res s' z=>?_⟩;cases res with
 |error e=>have q:=z.laid (c:=r.toRowW.claim) same hwi hi L;exact⟨q.1,q.2.1,q.2.2,fun k=>⟨namesKept_of hT hg r.keeps keeps z.2.1.old,noTable hwr k⟩⟩
 |ok fl=>cases fl<;>first|exact z.elim|(have q:=z.laid (c:=r.toRowW.claim) same hwi hi L;exact⟨q.1,q.2.1,q.2.2,fun k=>⟨namesKept_of hT hg r.keeps keeps z.2.1.old,noTable hwr k⟩⟩)
end WC
namespace WC
open _root_.PySem _root_.PySem.W PyProof.Rows in
set_option maxHeartbeats 0 in
open_top hd0 for _root_.PySem.Challenge.rw_halvecut_k85_what_a_sheet_refuses
end WC
namespace L2
open PySem PySem.Spec PyProof.Rows
abbrev Key:=Sum Int Str
def lK:Key->Value->Bool
 |.inl k,v=>Value.isInt k v
 |.inr x,v=>Value.isStrOf x v
def K8(w:World):Key->Int
 |.inl k=>hashInt k
 |.inr x=>hashStr w x
theorem bV:∀{k:Key} {v:Value},lK k v=true->(∃i t,k=Sum.inl i/\v=Value.int i t)∨(∃x t,k=Sum.inr x/\v=Value.str x t)
 |.inl i,v,h=>by obtain⟨t,e⟩:=Value.isInt_shape (k:=i) (v:=v) h;exact .inl ⟨i,t,rfl,e⟩
 |.inr x,v,h=>by obtain⟨t,e⟩:=Value.isStrOf_shape (x:=x) (v:=v) h;exact .inr ⟨x,t,rfl,e⟩
theorem gY(x:Str)(t:Tok):lK (.inr x) (.str x t)=true:=by simp[lK,Value.isStrOf]
theorem HN(a b:Int):decide ((Sum.inl a:Key)=Sum.inl b)=(a==b):=by
 by_cases e:a=b
 ·subst e;simp
 ·have h:¬(Sum.inl a:Key)=Sum.inl b:=fun q=>e (Sum.inl.inj q)
  rw[TL h];exact(Yk.mpr e).symm
theorem HS(a b:Str):decide ((Sum.inr a:Key)=Sum.inr b)=decide (a=b):=by
 by_cases e:a=b
 ·subst e;simp
 ·have h:¬(Sum.inr a:Key)=Sum.inr b:=fun q=>e (Sum.inr.inj q)
  rw[TL h,TL e]
theorem HQ(a:Int)(b:Str):decide ((Sum.inl a:Key)=Sum.inr b)=false:=TL (fun q=>nomatch q)
theorem HR(a:Str)(b:Int):decide ((Sum.inr a:Key)=Sum.inl b)=false:=TL (fun q=>nomatch q)
def iT(prog:Program)(w:World):PySem.KeyKind prog w Key where
 is:=lK
 hash:=K8 w
 inj:=fun v a b ha hb=>by
  rcases bV ha with⟨i,t,rfl,rfl⟩| ⟨x,t,rfl,rfl⟩
  ·rcases bV hb with⟨j,u,rfl,e⟩| ⟨y,u,rfl,e⟩
   ·injection e with e1 _;rw[e1]
   ·exact nomatch e
  ·rcases bV hb with⟨j,u,rfl,e⟩| ⟨y,u,rfl,e⟩
   ·exact nomatch e
   ·injection e with e1 _;rw[e1]
 byValue:=fun k v h=>by
  rcases bV h with⟨i,t,rfl,rfl⟩| ⟨x,t,rfl,rfl⟩<;>rfl
 pyHash:=fun hv h=>by
  rcases bV hv with⟨i,t,rfl,rfl⟩| ⟨x,t,rfl,rfl⟩
  ·exact wpAny_pyHash_int h
  ·exact wpAny_pyHash_str h
 eqBool:=fun hu hv h=>by
  rcases bV hu with⟨i,t,rfl,rfl⟩| ⟨x,t,rfl,rfl⟩
  ·rcases bV hv with⟨j,u,rfl,rfl⟩| ⟨y,u,rfl,rfl⟩
   ·rw[HN]at h;exact wpAny_eqBool_int h
   ·rw[HQ]at h;exact SeqAt.EqAt.int_str i t y u _ _ _ _ h
  ·rcases bV hv with⟨j,u,rfl,rfl⟩| ⟨y,u,rfl,rfl⟩
   ·rw[HR]at h;exact SeqAt.EqAt.str_int x t j u _ _ _ _ h
   ·rw[HS]at h;exact wpAny_eqBool_str h
 «strs»:=fun k x t v h=>by
  rcases bV h with⟨i,u,rfl,e⟩| ⟨y,u,rfl,e⟩
  ·exact nomatch e
  ·injection e with e1 _;subst e1;cases v<;>rfl
inductive V where
 |Nx|bl (b:Bool)|int (i:Int)|str (x:Str)|V6 (b:Array UInt8)|Zu (b:UInt64)|ref (a:Addr)|ty (n:String)
 deriving DecidableEq
abbrev yar:=List V
def RelV:V->Value->Prop
 |.Nx,u=>u=Value.none
 |.bl b,u=>u=Value.bool b
 |.int i,u=>∃t,u=Value.int i t
 |.str x,u=>∃t,u=Value.str x t
 |.V6 b,u=>∃t,u=Value.bytes b t
 |.Zu b,u=>∃t,u=Value.float b t
 |.ref a,u=>u=Value.ref a
 |.ty n,u=>u=Value.type n
abbrev Vals:yar->yad->Prop:=Paired RelV
theorem Vals.length{xs:yar}{us:yad}(r:Vals xs us):xs.length=us.length:=Paired.length r
theorem Vals.get:∀{xs:yar} {us:yad} {i:Nat} {x:V},Vals xs us->xs[i]?=some x->∃u,us[i]?=some u/\RelV x u
 |_,_,_,_,.nil,e=>by simp at e
 |_,_,0,_,.cons r _,e=>by simp at e;subst e;exact⟨_,rfl,r⟩
 |_,_,i+1,x,.cons _ t,e=>by obtain⟨u,h1,h2⟩:=Vals.get (i:=i) (x:=x) t (by simpa using e);exact⟨u,by simpa using h1,h2⟩
theorem Vals.append:∀{xs ys:yar} {us ws:yad},Vals xs us->Vals ys ws->Vals (xs++ys) (us++ws)
 |_,_,_,_,.nil,s=>s
 |_,_,_,_,.cons r t,s=>.cons r (Vals.append t s)
theorem Vals.take:∀{xs:yar} {us:yad} (n:Nat),Vals xs us->Vals (xs.take n) (us.take n)
 |_,_,0,_=>.nil
 |_,_,_+1,.nil=>.nil
 |_,_,n+1,.cons r t=>.cons r (Vals.take n t)
theorem Vals.drop:∀{xs:yar} {us:yad} (n:Nat),Vals xs us->Vals (xs.drop n) (us.drop n)
 |_,_,0,r=>r
 |_,_,_+1,.nil=>.nil
 |_,_,n+1,.cons _ t=>Vals.drop n t
theorem Vals.none_of:∀{xs:yar} {us:yad} {i:Nat},Vals xs us->xs[i]?=none->us[i]?=none:=fun {xs us i} r e=>by have h1:=r.length;have h2:xs.length<=i:=List.getElem?_eq_none_iff.mp e;exact List.getElem?_eq_none_iff.mpr (by omega)
def j5:Option V->yan->Prop
 |some v,some u=>RelV v u
 |none,none=>True
 |_,_=>False
def KV{κ:Type}:List (κ×V)->List (κ×Value)->Prop:=Paired fun(p:κ×V) (q:κ×Value)=>p.1=q.1/\RelV p.2 q.2
def kV:Key->V
 |.inl i=>.int i
 |.inr x=>.str x
inductive HO where
 |lst (xs:yar)
 |tup (xs:yar)
 |dK (kvs:List (Key×V))|dT (kvs:List (List Key×V))
 |set (S:Int->Bool) (n:Nat)
 |ins (C dx:Addr) (fs:List (Str×V))
 |own (x:Addr)
 |xd (fs:List (Str×V))
 |met (f x:Addr)
 |rng (lo hi:Int)
 |frz (o:Obj) (u:HO)
 |So (ps:yao)
 |ext (φ:Heap->Prop)
abbrev Hp:=Addr->Option HO
def upd(H:Hp)(a:Addr)(o:HO):Hp:=fun b=>if b=a then some o else H b
theorem ax{H:Hp}{a:Addr}{o:HO}:upd H a o a=some o:=by unfold upd;rw[LX rfl]
theorem aq{H:Hp}{a b:Addr}{o:HO}(h:b≠a):upd H a o b=H b:=by unfold upd;rw[LO h]
theorem FU{H:Hp}{a:Addr}{o u:HO}:upd (upd H a o) a u=upd H a u:=by funext b;unfold upd;split<;>rfl
theorem uM{H:Hp}{a b:Addr}{o u:HO}(h:H a=some o)(h':H b=some u)(d:o≠u):a≠b:=by intro e;subst e;rw[h]at h';exact d (UQ h')
theorem aY{H:Hp}{a b:Addr}{o:HO}(h:H a=some o)(h':H b=none):a≠b:=by intro e;subst e;rw[h]at h';cases h'
section
variable(P:Program)(w:World)
def bQ(H:Hp)(h:Heap)(a:Addr):HO->Prop
 |.lst xs=>xs.length<=sizeLine/\∃(its:yad) (n:Nat),Vals xs its/\h.get? a=some {cls:=.type "list", data:=.seq its.toArray n}
 |.tup xs=>xs.length<=sizeLine/\∃its:yad,Vals xs its/\IsTup h a its.toArray
 |.dK kvs=>kvs.length<=sizeLine/\(a==sysModules)=false/\∃vs,KV kvs vs/\h.DictOf (iT P w) a vs
 |.dT kvs=>kvs.length<=sizeLine/\(a==sysModules)=false/\∃xs:List (List Key×Addr×Value),
   Paired (fun(p:List Key×V) (q:List Key×Addr×Value)=>p.1=q.1/\H q.2.1=some (.tup (p.1.map kV))/\RelV p.2 q.2.2) kvs xs ∧
   ∃ o es ep,h.get? a=some o/\o.ExactDict/\o.data=.dict es ep/\es.toList=xs.map (entryOfKey (tupleKind (iT P w)))/\(xs.map (·.1)).Nodup
 |.set S n=>h.SetOf (intKind P w) a S n
 |.ins C dx fs=>H dx=some (.own a)/\fs.length<=1000/\dx≠a/\h.get? a=some (PySem.W.instObj C dx) ∧
   ∃ mA,h.Ns1 dx mA/\(∀f,j5 (fs.lookup f) (mA f))/\PySem.Within mA (fs.map (·.1))
 |.own _=>∃o,h.get? a=some o
 |.xd fs=>∃mA,h.Ns1 a mA/\∀f,j5 (fs.lookup f) (mA f)
 |.rng lo hi=>∃t u v,h.get? a=some {cls:=.type "range", data:=.fields #[.int lo t,.int hi u,.int 1 v]}
 |.frz o u=>h.get? a=some o/\bQ H h a u
 |.So ps=>h.get? a=some {cls:=.none,data:=.fields ps}
 |.met f x=>h.get? a=some (PySem.W.methodObj (.ref f) (.ref x))
 |.ext φ=>φ h/\(∃o,h.get? a=some o)/\∀h1 h2:Heap,φ h1->(∀o,h1.get? a=some o->h2.get? a=some o)->φ h2
def Rc(H:Hp)(h:Heap):Prop:=∀a o,H a=some o->bQ P w H h a o
end
section
variable{P:Program}{w:World}{H H':Hp}{h h':Heap}{a:Addr}{o:HO}
theorem bQ.lt(x:bQ P w H h a o):a<h.objs.size:=by
 cases o with
 |lst xs=>obtain⟨_,_,_,_,e⟩:=x;exact O8 e
 |tup xs=>obtain⟨_,_,_,p⟩:=x;exact p.lt
 |dK kvs=>obtain⟨_,_,_,_,o,_,_,e,_⟩:=x;exact O8 e
 |dT kvs=>obtain⟨_,_,_,_,o,_,_,e,_⟩:=x;exact O8 e
 |set S n=>obtain⟨o,_,_,_,e,_⟩:=x;exact O8 e
 |ins C dx fs=>obtain⟨_,_,_,e,_⟩:=x;exact O8 e
 |own y=>obtain⟨_,e⟩:=x;exact O8 e
 |xd fs=>obtain⟨_,⟨_,_,_,e,_⟩,_⟩:=x;exact O8 e
 |rng lo hi=>obtain⟨_,_,_,e⟩:=x;exact O8 e
 |frz ob u=>obtain⟨e,_⟩:=x;exact O8 e
 |So ps=>exact O8 (show h.get? a=some _ from x)
 |met f y=>exact O8 (show h.get? a=some _ from x)
 |ext φ=>obtain⟨_,⟨_,e⟩,_⟩:=x;exact O8 e
theorem Paired.TN{α β:Type}{F G:α->β->Prop}:∀{ZY:List α} {ZZ:List β},Paired F ZY ZZ->(∀a b,F a b->G a b)->Paired G ZY ZZ
 |_,_,.nil,_=>.nil
 |_,_,.cons r t,f=>.cons (f _ _ r) (Paired.TN t f)
theorem bQ.Th(x:bQ P w H h a o)(k:∀b u,(b=a∨H b=some (.own a))->h.get? b=some u->h'.get? b=some u)
  (ho:∀b,H b=some (.own a)->H' b=some (.own a)) (ht:∀b xs,H b=some (.tup xs)->H' b=some (.tup xs)):bQ P w H' h' a o:=by
 induction o with
 |lst xs=>obtain⟨z,its,n,r,e⟩:=x;exact⟨z,its,n,r,k _ _ (.inl rfl) e⟩
 |tup xs=>obtain⟨z,its,r,ob,e,c⟩:=x;exact⟨z,its,r,ob,k _ _ (.inl rfl) e,c⟩
 |dK kvs=>obtain⟨z,y,vs,r,ob,es,ep,e,c⟩:=x;exact⟨z,y,vs,r,ob,es,ep,k _ _ (.inl rfl) e,c⟩
 |dT kvs =>
  obtain⟨z,y,xs,r,ob,es,ep,e,c⟩:=x;exact⟨z,y,xs,Paired.TN r fun p q z=>⟨z.1,ht _ _ z.2.1,z.2.2⟩,ob,es,ep,k _ _ (.inl rfl) e,c⟩
 |set S n=>obtain⟨ob,es,ep,t,e,c⟩:=x;exact⟨ob,es,ep,t,k _ _ (.inl rfl) e,c⟩
 |ins C dx fs =>
  obtain⟨d,z,ne,e,mA,⟨od,es,ep,e2,c⟩,r⟩:=x;exact⟨ho _ d,z,ne,k _ _ (.inl rfl) e,mA,⟨od,es,ep,k _ _ (.inr d) e2,c⟩,r⟩
 |own y=>obtain⟨ob,e⟩:=x;exact⟨ob,k _ _ (.inl rfl) e⟩
 |xd fs=>obtain⟨mA,⟨od,es,ep,e,c⟩,r⟩:=x;exact⟨mA,⟨od,es,ep,k _ _ (.inl rfl) e,c⟩,r⟩
 |rng lo hi=>obtain⟨t,u,v,e⟩:=x;exact⟨t,u,v,k _ _ (.inl rfl) e⟩
 |frz ob u ih=>obtain⟨e,q⟩:=x;exact⟨k _ _ (.inl rfl) e,ih q⟩
 |So ps =>
  have e:h.get? a=some {cls:=.none,data:=.fields ps}:=x;show h'.get? a=some {cls:=.none,data:=.fields ps};exact k a _ (.inl rfl) e
 |met f y =>
  have e:h.get? a=some (PySem.W.methodObj (.ref f) (.ref y)):=x;show h'.get? a=some (PySem.W.methodObj (.ref f) (.ref y));exact k a _ (.inl rfl) e
 |ext φ=>obtain⟨p,⟨o,e⟩,st⟩:=x;exact⟨st _ _ p fun o q=>k _ _ (.inl rfl) q,⟨o,k _ _ (.inl rfl) e⟩,st⟩
theorem Rc.lt(x:Rc P w H h)(e:H a=some o):a<h.objs.size:=(x a o e).lt
theorem Rc.fresh(x:Rc P w H h)(e:h.objs.size<=a):H a=none:=by
 cases q:H a with
 |none=>rfl
 |some u=>exact absurd (RX (x.lt q) e) (VD _)
theorem Rc.kept(x:Rc P w H h)(k:∀b u,h.get? b=some u->h'.get? b=some u):Rc P w H h':=fun a o e =>
 (x a o e).Th (fun b u _ q=>k b u q) (fun _ q=>q) fun _ _ q=>q
theorem Rc.laid(x:Rc P w H h)(k:∀b u,h.get? b=some u->h'.get? b=some u)(hp:h.objs.size<=a)(new:bQ P w (upd H a o) h' a o):Rc P w (upd H a o) h':=fun b u e=>by
 have hn:=x.fresh hp;by_cases hb:b=a
 ·subst hb;rw[ax]at e;cases e;exact new
 ·rw[aq hb]at e;exact(x b u e).Th (fun c v _ q=>k c v q) (fun c q=>by rw[aq (aY q hn)];exact q) fun c xs q=>by rw[aq (aY q hn)];exact q
end
def Rd(H:Hp)(a:Addr)(u:HO):Prop:=H a=some u∨∃ o,H a=some (.frz o u)
theorem Rd.ok{P:Program}{w:World}{H:Hp}{h:Heap}{a:Addr}{u:HO}(r:Rd H a u)(x:Rc P w H h):bQ P w H h a u:=by
 rcases r with r|⟨o,r⟩
 ·exact x a u r
 ·obtain⟨_,q⟩:=x a _ r;exact q
def Mut:Option HO->Prop
 |some (.lst _)=>True
 |some (.dK _)=>True
 |some (.dT _)=>True
 |some (.set _ _)=>True
 |some (.ins _ _ _)=>True
 |some (.ext _)=>True
 |_=>False
section
variable{P:Program}{w:World}{H:Hp}{h h':Heap}{x e:Addr}{o':HO}
theorem Rc.write(ok:Rc P w H h)(mu:Mut (H x))(he:e=x∨H e=some (.own x))(k:∀b u,b≠e->h.get? b=some u->h'.get? b=some u)(Zv:∃u,h'.get? e=some u)
  (new:bQ P w (upd H x o') h' x o'):Rc P w (upd H x o') h':=fun b u q=>by
 have Z0:∀c y,H c=some (.own y)->c≠x:=fun c y r z=>by subst z;rw[r]at mu;exact mu
 have ntup:∀c xs,H c=some (.tup xs)->c≠x:=fun c xs r z=>by subst z;rw[r]at mu;exact mu
 by_cases hb:b=x
 ·subst hb;rw[ax]at q;cases q;exact new
 ·rw[aq hb]at q;by_cases Ys:b=e
  ·have q':H b=some (.own x):=by
    rcases he with z|z
    ·exact absurd (Ys.trans z) hb
    ·rw[Ys];exact z
   rw[q]at q';cases q';obtain⟨v,hv⟩:=Zv;exact⟨v,by rw[Ys];exact hv⟩
  ·refine(ok b u q).Th (fun c v hc r=>k c v ?_ r) (fun c r=>by rw[aq (Z0 c b r)];exact r) fun c xs r=>by rw[aq (ntup c xs r)];exact r
   rcases hc with rfl|hc
   ·exact Ys
   ·rintro rfl;rcases he with z|z
    ·exact Z0 c b hc z
    ·rw[hc]at z;cases z;exact hb rfl
end
structure Un(fs ex:yae)(H H':Hp)(h h':Heap):Prop where
 keep:∀b o,h.get? b=some o->H b=none->b∉fs->b∉ex->h'.get? b=some o
 slot:∀b o,h.get? b=some o->H b=none->b∈fs->b∉ex->∃sl,h'.get? b=some {o with slots:=sl}
 free:∀b o,h.get? b=some o->H b=none->b∉ex->H' b=none
 there:∀b o,h.get? b=some o->b∉ex->∃o',h'.get? b=some o'
 Qq:∀b xs,H b=some (.tup xs)->H' b=some (.tup xs)
 Qk:∀b o u,H b=some (.frz o u)->H' b=some (.frz o u)
 Ql:∀b ps,H b=some (.So ps)->∃more,H' b=some (.So (ps++more))
section
variable{fs fs' ex ex':yae}{H H1 H2:Hp}{h h1 h2 h':Heap}{a x e:Addr}{o:HO}
theorem Un.any(u:Un fs ex H H1 h h1){b:Addr}{ob:Obj}(q:h.get? b=some ob)(n:H b=none)(hx:b∉ex):∃sl,h1.get? b=some {ob with slots:=sl}:=by
 by_cases hb:b∈fs
 ·exact u.slot b ob q n hb hx
 ·exact⟨ob.slots,u.keep b ob q n hb hx⟩
theorem Un.kept(k:∀b u,h.get? b=some u->h'.get? b=some u):Un fs ex H H h h' :=
 ⟨fun b ob q _ _ _=>k b ob q,fun b ob q _ _ _=>⟨ob.slots,k b ob q⟩,fun _ _ _ n _=>n,fun b ob q _=>⟨ob,k b ob q⟩,fun _ _ q=>q,fun _ _ _ q=>q,fun _ ps q=>⟨#[],by rw[q];simp⟩⟩
theorem Un.refl:Un fs ex H H h h:=Un.kept fun _ _ q=>q
theorem Un.laid(k:∀b u,h.get? b=some u->h'.get? b=some u)(hp:h.objs.size<=a)(hn:H a=none):Un fs ex H (upd H a o) h h' where
 keep:=fun b u q _ _ _=>k b u q
 slot:=fun b u q _ _ _=>⟨u.slots,k b u q⟩
 free:=fun b u q n _=>by rw[aq (Sn (RX (O8 q) hp))];exact n
 there:=fun b u q _=>⟨u,k b u q⟩
 Qq:=fun b xs q=>by rw[aq (aY q hn)];exact q
 Qk:=fun b u xs q=>by rw[aq (aY q hn)];exact q
 Ql:=fun b ps q=>⟨#[],by rw[aq (aY q hn),q];simp⟩
theorem Un.write(mu:Mut (H x))(he:e=x∨H e=some (.own x))(k:∀b u,b≠e->h.get? b=some u->h'.get? b=some u)(Zv:∃u,h'.get? e=some u):Un fs ex H (upd H x o) h h':=by
 have hx:∀b,H b=none->b≠x:=fun b n z=>by subst z;rw[n]at mu;exact mu
 have hb:∀b,H b=none->b≠e:=fun b n z=>by
  subst z;rcases he with r|r
  ·exact hx b n r
  ·rw[n]at r;cases r
 have hm:∀b u,H b=some u->¬Mut (some u)->b≠x:=fun b u q nm z=>by subst z;rw[q]at mu;exact nm mu
 refine⟨fun b u q n _ _=>k b u (hb b n) q,fun b u q n _ _=>⟨u.slots,k b u (hb b n) q⟩,fun b u q n _=>by rw[aq (hx b n)];exact n,fun b u q _=>?_,
  fun b xs q=>by rw[aq (hm b _ q fun z=>z)];exact q,fun b u xs q=>by rw[aq (hm b _ q fun z=>z)];exact q,fun b ps q=>⟨#[],by rw[aq (hm b _ q fun z=>z),q];simp⟩⟩
 by_cases Ys:b=e
 ·subst Ys;exact Zv
 ·exact⟨u,k b u Ys q⟩
end
def trk(h:Heap)(H:Hp):yae:=(List.range h.objs.size).filter fun a=>(H a).isSome
def j9(h:Heap)(H:Hp):Heap:=PySem.W.hideAll h (trk h H)
theorem Ax(h:Heap)(H:Hp):(j9 h H).objs.size=h.objs.size:=PySem.W.hideAll_size _ _
theorem Cn{h:Heap}{H:Hp}{b:Addr}{o:Obj}(e:h.get? b=some o)(n:H b=none):(j9 h H).get? b=some o :=
 PySem.W.hideAll_get _ e fun hm=>by have q:(H b).isSome=true:=(List.mem_filter.mp hm).2;rw[n]at q;simp at q
theorem E4{h:Heap}{H:Hp}{b:Addr}{o:Obj}(e:(j9 h H).get? b=some o):h.get? b=some o/\H b=none:=by
 have e':h.get? b=some o:=PySem.W.of_hideAll (trk h H) e;refine⟨e',?_⟩;cases q:H b with
 |none=>rfl
 |some x =>
  have hm:b∈trk h H:=List.mem_filter.mpr ⟨List.mem_range.mpr (O8 e'),by simp[q]⟩;have z:(j9 h H).get? b=none:=PySem.W.hideAll_none (trk h H) hm;rw[z]at e;cases e
def D9(g h:Heap)(L:Addr):yab:=(List.range h.objs.size).filterMap fun a=>if a=L∨(g.get? a).isSome=true then none else(h.get? a).map fun o=>(a,o)
def rest(g h:Heap)(L d:Addr):yab:=(D9 g h L).filter fun p=>decide (p.1≠d)
structure Mod(K:yac)(mg:yam)(base:Heap):Prop where
 Uz:K.In base
 glob:base.Ns mainGlobals mg
 blt:∃mb,base.Ns builtinsNs mb/\∀x:Str,x ≠ "__name__" -> mb x=bootBuiltins x
 nolimit:base.NoLimit
structure Cx where
 prog:Program
 w:World
 K:yac
 mg:yam
 base:Heap
 A:Around
 N:yah
 MY:Shared
 H₀:Hp
 env:Env
 outer:List Env
 stack:List Env
 ex:yae
 fn:Str->Bool
 calm:Bool
 pn:yab
 xe:yaa
def RM(l:List Env):yae:=l.filterMap (·.frame)
abbrev Cx.fs(X:Cx):yae:=RM X.outer
def Z1(sc:Scope)(x:Str):Prop:=sc.names.lookup x=some .local∨sc.names.lookup x=some .cell∨sc.names.lookup x=some .free
def Loc(sc:Scope)(x:Str):Prop:=sc.names.lookup x=some .local∨sc.names.lookup x=some .cell
def Look(env:Env)(h:Heap)(m:yam)(x:Str)(u:Value):Prop :=
 (env.kindOf x=some .local/\m x=some u)∨((env.kindOf x=some .cell∨env.kindOf x=some .free)/\∃c,env.cells.lookup x=some c/\h.IsCell c (some u))
structure Cx.Ok(X:Cx):Prop where
 mod:Mod X.K X.mg X.base
 kind:X.env.scope.kind=.function
 glob:X.env.globals=mainGlobals
 blt:X.env.builtins=builtinsNs
 above:X.MY.heap.objs.size<=X.env.locals
 inj:∀x y c,X.env.cells.lookup x=some c->X.env.cells.lookup y=some c->x=y
 has:∀x,(X.env.kindOf x=some .cell∨X.env.kindOf x=some .free)->∃c,X.env.cells.lookup x=some c
 Vu:∀x c,X.fn x=true->X.env.cells.lookup x=some c->X.MY.heap.objs.size<=c
 hd:X.calm=true->X.A.handled=none
 frames:X.A.frames=some X.stack
 Yt:X.stack=X.outer∨(X.stack=X.env::X.outer/\X.env.frame=some X.env.locals)
 Z2:∀b∈X.ex,b≠X.env.locals/\∀x c,X.env.cells.lookup x=some c->c≠b
 bs:∀b o,X.base.get? b=some o->X.MY.heap.get? b=some o/\X.H₀ b=none
 V7:X.base.objs.size<=X.MY.heap.objs.size
 TQ:∀b o,X.base.get? b=some o->b∉X.ex
 U4:∀b∈X.ex,b∉X.fs
 Rf:X.MY.heap.FunFrames X.base X.outer
 Wl:∀b∈X.fs,X.H₀ b=none
structure Inv(X:Cx)(pins:yab)(σ:List (Option V))(H:Hp)(s:Shared):Prop where
 ok:X.Ok
 os:s.os=X.MY.os
 bare:AllBare s.gens
 base:Un X.fs X.ex X.H₀ H X.MY.heap s.heap
 loc:∃m,s.heap.Ns X.env.locals m/\∀(i:Nat) (x:Str) (v:V),X.N[i]?=some x->σ[i]?=some (some v)->Z1 X.env.scope x->∃u,RelV v u/\Look X.env s.heap m x u
 cell:∀x c,X.env.cells.lookup x=some c->∃v,s.heap.IsCell c v
 free:H X.env.locals=none
 OW:∀x c,X.env.cells.lookup x=some c->H c=none
 pin:∀p∈X.pn++pins,s.heap.get? p.1=some p.2/\H p.1=none/\p.1≠X.env.locals/\p.1∉X.fs/\∀v,p.2.data ≠ .cell v
 Nw:Rc X.prog X.w H s.heap
 len:σ.length=X.N.length
section
variable{X:Cx}{pins:yab}{σ:List (Option V)}{H H':Hp}{s:Shared}{h':Heap}
theorem Cx.Ok.nofr(ok:X.Ok){b:Addr}{o:Obj}(e:X.base.get? b=some o):b∉X.fs:=fun hb=>by have:=(ok.Rf.mem hb).1;rw[e]at this;cases this
theorem Inv.bs(I:Inv X pins σ H s):∀b o,X.base.get? b=some o->s.heap.get? b=some o/\H b=none:=fun b o e =>
 ⟨I.base.keep b o (I.ok.bs b o e).1 (I.ok.bs b o e).2 (I.ok.nofr e) (I.ok.TQ b o e),I.base.free b o (I.ok.bs b o e).1 (I.ok.bs b o e).2 (I.ok.TQ b o e)⟩
theorem Inv.bk(I:Inv X pins σ H s):∀b o,X.base.get? b=some o->s.heap.get? b=some o:=fun b o e=>(I.bs b o e).1
theorem Inv.mod(I:Inv X pins σ H s):Mod X.K X.mg X.base:=I.ok.mod
theorem Inv.QI(I:Inv X pins σ H s):X.K.In s.heap:=I.ok.mod.Uz.keeps I.bk
theorem Inv.fr(I:Inv X pins σ H s):∃m,Fr X.base X.env.locals s.heap m :=
 let ⟨m,hn,_⟩:=I.loc
 ⟨m,hn,I.bk,Sw I.ok.V7 I.ok.above⟩
theorem Inv.lt(I:Inv X pins σ H s):X.env.locals<s.heap.objs.size:=let ⟨_,hn,_⟩:=I.loc;hn.lt
theorem Inv.sz(I:Inv X pins σ H s):X.MY.heap.objs.size<=s.heap.objs.size:=Sw I.ok.above (Nat.le_of_lt I.lt)
theorem Inv.Z3(I:Inv X pins σ H s){a:Addr}(h:s.heap.objs.size<=a):a∉X.fs:=fun hb=>by obtain⟨_,o,ho,_⟩:=I.ok.Rf.mem hb;exact absurd (RX (O8 ho) (Sw I.sz h)) (VD _)
theorem Inv.Xm(I:Inv X pins σ H s):∀x c,X.env.cells.lookup x=some c->c≠X.env.locals:=fun x c e z=>by obtain⟨v,o,ho,hd⟩:=I.cell x c e;obtain⟨m,⟨o',es,ep,Xn,TR,_⟩,_⟩:=I.loc;rw[z,Xn]at ho;cases ho;rw[TR]at hd;cases hd
theorem Inv.Rf(I:Inv X pins σ H s):s.heap.FunFrames X.base X.outer:=by
 have all:∀(l:List Env),(∀b∈RM l,b∈X.fs)->X.MY.heap.FunFrames X.base l->s.heap.FunFrames X.base l:=by
  intro l
  induction l with
  |nil=>intro _ _;trivial
  |cons env r ih =>
   intro hs hl;obtain⟨hk,⟨L,o,hf,hn,ho,hd⟩,hr⟩:=hl;have hL:L∈X.fs:=hs L (by unfold RM;rw[ZQ,hf];exact Su);obtain⟨sl,e⟩:=I.base.slot L o ho (I.ok.Wl L hL) hL fun z=>I.ok.U4 L z hL
   exact⟨hk,⟨L,_,hf,hn,e,hd⟩,ih (fun b hb=>hs b (by unfold RM;rw[ZQ,hf];exact SD _ hb)) hr⟩
 exact all X.outer (fun _ hb=>hb) I.ok.Rf
theorem Inv.stack(I:Inv X pins σ H s):s.heap.FunFrames X.base X.stack:=by
 rcases I.ok.Yt with e|⟨e,hf⟩
 ·rw[e];exact I.Rf
 ·rw[e];obtain⟨m,hn,_⟩:=I.loc;refine .cons (by rw[I.ok.kind];decide) hf hn ?_ I.Rf;exact Heap.get?_none_of_le (Sw I.ok.V7 I.ok.above)
theorem Inv.Rn(I:Inv X pins σ H s):∀b∈RM X.stack,b∈X.env.locals::X.fs:=fun b hb=>by
 rcases I.ok.Yt with e|⟨e,hf⟩
 ·rw[e]at hb;exact SD _ hb
 ·rw[e]at hb;unfold RM at hb;rw[ZQ,hf]at hb;exact hb
theorem Inv.Sx(I:Inv X pins σ H s):∀b∈RM X.stack,H b=none:=fun b hb=>by
 rcases Rb.mp (I.Rn b hb)with e|hb
 ·rw[e];exact I.free
 ·obtain⟨_,o,ho,_⟩:=I.ok.Rf.mem hb;exact I.base.free b o ho (I.ok.Wl b hb) fun z=>I.ok.U4 b z hb
theorem Inv.step{g':Array GenState}{t':Nat}{d':Drawn}{ch:yae}(I:Inv X pins σ H s)
  (TU:∀b∈ch,(b∈X.ex∨X.MY.heap.objs.size<=b)/\b≠X.env.locals/\(∀x c,X.env.cells.lookup x=some c->c≠b)/\∀p∈X.pn++pins,p.1≠b)
  (keep:∀b o,b≠X.env.locals->b∉X.fs->b∉ch->s.heap.get? b=some o->H b=none->h'.get? b=some o)
  (slot:∀b o,b≠X.env.locals->b∈X.fs->b∉ch->s.heap.get? b=some o->H b=none->∃sl,h'.get? b=some {o with slots:=sl}) (free:∀b o,b∉ch->s.heap.get? b=some o->H b=none->H' b=none)
  (there:∀b o,b∉ch->s.heap.get? b=some o->∃o',h'.get? b=some o')
  (Qq:∀b xs,H b=some (.tup xs)->H' b=some (.tup xs)) (Qk:∀b o u,H b=some (.frz o u)->H' b=some (.frz o u)) (Ql:∀b ps,H b=some (.So ps)->∃more,H' b=some (.So (ps++more)))
  (ns:∀m,s.heap.Ns X.env.locals m->h'.Ns X.env.locals m) (Nw:Rc X.prog X.w H' h') (hg:AllBare g') :
  Inv X pins σ H' {s with heap:=h',gens:=g',drawn:=d',toks:=t'}:=by
 have Zw:∀b o,X.MY.heap.get? b=some o->b≠X.env.locals:=fun b o e=>Sn (RX (O8 e) I.ok.above)
 have neC:∀b o,X.MY.heap.get? b=some o->b∉X.ex->b∉ch:=fun b o e hx hb=>by
  rcases(TU b hb).1 with z|z
  ·exact hx z
  ·exact absurd (RX (O8 e) z) (VD _)
 have cellK:∀x c,X.env.cells.lookup x=some c->∀v,s.heap.IsCell c v->h'.IsCell c v:=fun x c e v ⟨o,ho,hd⟩=>by
  have Wm:c∉ch:=fun z=>(TU c z).2.2.1 x c e rfl
  by_cases hc:c∈X.fs
  ·obtain⟨sl,q⟩:=slot c o (I.Xm x c e) hc Wm ho (I.OW x c e);exact⟨_,q,hd⟩
  ·exact⟨o,keep c o (I.Xm x c e) hc Wm ho (I.OW x c e),hd⟩
 refine⟨I.ok,I.os,hg,⟨fun b o e n hb hx=>?_,fun b o e n hb hx=>?_,fun b o e n hx=>?_,fun b o e hx=>?_,fun b xs e=>Qq b xs (I.base.Qq b xs e),fun b o xs e=>Qk b o xs (I.base.Qk b o xs e),fun b ps e=>?_⟩,?_,fun x c e=>?_,?_,fun x c e=>?_,fun p hp=>?_,Nw,I.len⟩
 ·exact keep b o (Zw b o e) hb (neC b o e hx) (I.base.keep b o e n hb hx) (I.base.free b o e n hx)
 ·obtain⟨sl,e1⟩:=I.base.slot b o e n hb hx;obtain⟨sl',e2⟩:=slot b _ (Zw b o e) hb (neC b o e hx) e1 (I.base.free b o e n hx);exact⟨sl',e2⟩
 ·obtain⟨o',e1⟩:=I.base.there b o e hx;exact free b o' (neC b o e hx) e1 (I.base.free b o e n hx)
 ·obtain⟨o',e1⟩:=I.base.there b o e hx;exact there b o' (neC b o e hx) e1
 ·obtain⟨m1,e1⟩:=I.base.Ql b ps e;obtain⟨m2,e2⟩:=Ql b _ e1;exact⟨m1++m2,by rw[e2,X1]⟩
 ·obtain⟨m,hn,hl⟩:=I.loc;refine⟨m,ns m hn,fun i x v e1 e2 e3=>?_⟩;obtain⟨u,r,l⟩:=hl i x v e1 e2 e3;refine⟨u,r,?_⟩;rcases l with l|⟨k,c,e,z⟩
  ·exact .inl l
  ·exact .inr ⟨k,c,e,cellK x c e _ z⟩
 ·obtain⟨v,z⟩:=I.cell x c e;exact⟨v,cellK x c e v z⟩
 ·obtain⟨m,⟨o,_,_,ho,_⟩,_⟩:=I.loc;exact free _ o (fun z=>(TU _ z).2.1 rfl) ho I.free
 ·obtain⟨v,o,ho,hd⟩:=I.cell x c e;exact free c o (fun z=>(TU c z).2.2.1 x c e rfl) ho (I.OW x c e)
 ·obtain⟨e,n,ne,nf,d⟩:=I.pin p hp;have Wm:p.1∉ch:=fun z=>(TU p.1 z).2.2.2 p hp rfl
  exact⟨keep p.1 p.2 ne nf Wm e n,free p.1 p.2 Wm e n,ne,nf,d⟩
theorem Inv.un{t':Nat}(I:Inv X pins σ H s)(u:Un X.fs [] H H' s.heap h')(Nw:Rc X.prog X.w H' h'):Inv X pins σ H' {s with heap:=h',toks:=t'}:=by
 obtain⟨m,⟨o,es,ep,ho,r⟩,_⟩:=id I.loc;obtain⟨sl,hL⟩:=u.any ho I.free (by simp);exact I.step (g':=s.gens) (d':=s.drawn) (ch:=[]) (fun _ z=>nomatch z) (fun b o _ hb _ e n=>u.keep b o e n hb (by simp)) (fun b o _ hb _ e n=>u.slot b o e n hb (by simp)) (fun b o _ e n=>u.free b o e n (by simp)) (fun b o _ e=>u.there b o e (by simp)) u.Qq u.Qk u.Ql (fun m' hm=>by obtain⟨o',Yu,ep',Xn,r'⟩:=hm;rw[ho]at Xn;cases Xn;exact⟨_,Yu,ep',hL,r'⟩) Nw I.bare
theorem Inv.call{g':Array GenState}{t':Nat}{d':Drawn}{ch:yae}(I:Inv X pins σ H s)(u:Un (RM X.stack) ch H H' s.heap h')(Nw:Rc X.prog X.w H' h')(hg:AllBare g')
  (TU:∀b∈ch,(b∈X.ex∨X.MY.heap.objs.size<=b)/\b≠X.env.locals/\(∀x c,X.env.cells.lookup x=some c->c≠b)/\∀p∈X.pn++pins,p.1≠b) :
  Inv X pins σ H' {s with heap:=h',gens:=g',drawn:=d',toks:=t'}:=by
 obtain⟨m,⟨o,es,ep,ho,r⟩,_⟩:=id I.loc;obtain⟨sl,hL⟩:=u.any ho I.free fun z=>(TU _ z).2.1 rfl
 exact I.step (ch:=ch) TU (fun b o hL hb hc e n=>u.keep b o e n (fun z=>(Rb.mp (I.Rn b z)).elim hL hb) hc) (fun b o _ _ hc e n=>u.any e n hc) (fun b o hc e n=>u.free b o e n hc) (fun b o hc e=>u.there b o e hc) u.Qq u.Qk u.Ql (fun m' hm=>by obtain⟨o',Yu,ep',Xn,r'⟩:=hm;rw[ho]at Xn;cases Xn;exact⟨_,Yu,ep',hL,r'⟩) Nw hg
theorem Inv.turned{t':Nat}{it:Addr}(I:Inv X pins σ H s)(k:∀b o,b≠it->s.heap.get? b=some o->h'.get? b=some o)(hn:H it=none)(hL:it≠X.env.locals)
  (h1:it∈X.ex∨X.MY.heap.objs.size<=it) (h2:∀x c,X.env.cells.lookup x=some c->c≠it) (h3:∀p∈X.pn++pins,p.1≠it):Inv X pins σ H {s with heap:=h',toks:=t'}:=by
 have nit:∀b u,H b=some u->b≠it:=fun b u e z=>by rw[z,hn]at e;cases e
 refine I.step (g':=s.gens) (d':=s.drawn) (ch:=[it]) (fun b hb=>?_) (fun b o _ _ hc e _=>k b o (fun z=>hc (by simp[z])) e) (fun b o _ _ hc e _=>⟨o.slots,k b o (fun z=>hc (by simp[z])) e⟩) (fun _ _ _ _ n=>n)
  (fun b o hc e=>⟨o,k b o (fun z=>hc (by simp[z])) e⟩) (fun _ _ e=>e) (fun _ _ _ e=>e) (fun b ps e=>⟨#[],by rw[e];simp⟩) (fun m hm=>?_) (fun b u e=>?_) I.bare
 ·have e:b=it:=by simpa using hb
  subst e;exact⟨h1,hL,h2,h3⟩
 ·obtain⟨o,es,ep,ho,r⟩:=hm;exact⟨o,es,ep,k _ o (Ne.symm hL) ho,r⟩
 ·refine(I.Nw b u e).Th (fun c v hc q=>k c v ?_ q) (fun _ q=>q) fun _ _ q=>q
  rcases hc with z|z
  ·rw[z];exact nit b u e
  ·exact nit c _ z
theorem Inv.tok(I:Inv X pins σ H s)(t:Nat):Inv X pins σ H {s with toks:=t}:=I.un (h':=s.heap) (t':=t) Un.refl I.Nw
theorem Inv.kept{t':Nat}(I:Inv X pins σ H s)(k:∀b u,s.heap.get? b=some u->h'.get? b=some u):Inv X pins σ H {s with heap:=h',toks:=t'}:=I.un (Un.kept k) (I.Nw.kept k)
theorem Inv.laid{a:Addr}{o:HO}{t':Nat}(I:Inv X pins σ H s)(k:∀b u,s.heap.get? b=some u->h'.get? b=some u)(hp:s.heap.objs.size<=a)(new:bQ X.prog X.w (upd H a o) h' a o) :
  Inv X pins σ (upd H a o) {s with heap:=h',toks:=t'}:=I.un (Un.laid k hp (I.Nw.fresh hp)) (I.Nw.laid k hp new)
theorem Inv.write{x e:Addr}{o:HO}{t':Nat}(I:Inv X pins σ H s)(mu:Mut (H x))(he:e=x∨H e=some (.own x))(k:∀b u,b≠e->s.heap.get? b=some u->h'.get? b=some u)(Zv:∃u,h'.get? e=some u)
  (new:bQ X.prog X.w (upd H x o) h' x o):Inv X pins σ (upd H x o) {s with heap:=h',toks:=t'}:=I.un (Un.write mu he k Zv) (I.Nw.write mu he k Zv new)
theorem Inv.Vv{Wn:yab}(I:Inv X pins σ H s)(h:∀p∈Wn,s.heap.get? p.1=some p.2/\H p.1=none/\p.1≠X.env.locals/\p.1∉X.fs/\∀v,p.2.data ≠ .cell v):Inv X Wn σ H s :=
 ⟨I.ok,I.os,I.bare,I.base,I.loc,I.cell,I.free,I.OW,fun p hp=>(Tf.mp hp).elim (fun z=>I.pin p (ZO _ z)) (h p),I.Nw,I.len⟩
theorem pD{N:yah}(hN:N.Nodup){i j:Nat}{x:Str}(a:N[i]?=some x)(b:N[j]?=some x):i=j:=by obtain⟨h1,e1⟩:=U3.mp a;obtain⟨h2,e2⟩:=U3.mp b;exact(List.getElem_inj hN).mp (e1.trans e2.symm)
theorem hJ{M:Model}{A:Around}{E:yaa}{i:Nat}{x:Str}{v:V}{u:Value}{Q:Unit->Shared->Prop}(I:Inv X pins σ H s)(hN:X.N.Nodup)(hi:X.N[i]?=some x)(hx:Loc X.env.scope x)(r:RelV v u)
  (h:∀s',Inv X pins (σ.set i (some v)) H s'->(∃a,Heap.SameBut a s.heap s'.heap/\(a=X.env.locals∨X.env.cells.lookup x=some a))->Q () s') (hf:X.fn x=true∨X.env.scope.names.lookup x=some .local:=by first|exact .inl rfl|exact .inr rfl|assumption):wpAny M A (storeName X.env x u) Q E s:=by
 obtain⟨m,hn,hl⟩:=id I.loc;have hcls:(X.env.scope.kind==.class || (X.env.scope.kind==.module && X.env.locals != X.env.globals))=false:=by rw[I.ok.kind];rfl
 have Z4:i<σ.length:=by rw[I.len];exact(U3.mp hi).1
 have Xm:=I.Xm;have tracked:∀{a:Addr} {h':Heap},(∃o,s.heap.get? a=some o/\H a=none)->Heap.SameBut a s.heap h'->Rc X.prog X.w H h':=fun {a h'} ha hs b ob e=>by
  obtain⟨_,_,X4⟩:=ha;refine(I.Nw b ob e).Th (fun c w' hc q=>(hs.2 c ?_).trans q) (fun _ q=>q) fun _ _ q=>q
  rintro rfl;rcases hc with rfl|hc
  ·rw[X4]at e;cases e
  ·rw[X4]at hc;cases hc
 rcases hx with hk|hk
 ·refine wpAny_storeName_local hk hn (fun h' hn' hs=>?_) hcls;obtain⟨oL,_,_,hoL,_⟩:=id hn;refine h _ ⟨I.ok,I.os,I.bare,⟨fun b o e n hb hx=>?_,fun b o e n hb hx=>?_,I.base.free,fun b o e hx=>?_,I.base.Qq,I.base.Qk,I.base.Ql⟩,⟨_,hn',fun j y v' e1 e2 e3=>?_⟩,fun y c e=>?_,I.free,I.OW,fun p hp=>?_,tracked ⟨oL,hoL,I.free⟩ hs,by simpa using I.len⟩ ⟨_,hs,.inl rfl⟩
  ·exact(hs.2 b (Sn (RX (O8 e) I.ok.above))).trans (I.base.keep b o e n hb hx)
  ·obtain⟨sl,e1⟩:=I.base.slot b o e n hb hx;exact⟨sl,(hs.2 b (Sn (RX (O8 e) I.ok.above))).trans e1⟩
  ·obtain⟨o',e1⟩:=I.base.there b o e hx;exact⟨o',(hs.2 b (Sn (RX (O8 e) I.ok.above))).trans e1⟩
  ·by_cases hj:j=i
   ·subst hj;rw[hi]at e1;cases e1;rw[WY Z4]at e2;cases e2;exact⟨u,r,.inl ⟨hk,by simp⟩⟩
   ·rw[Tx (Ne.symm hj)]at e2;obtain⟨u',r',q⟩:=hl j y v' e1 e2 e3;refine⟨u',r',?_⟩;rcases q with⟨k,e⟩| ⟨k,c,e,z⟩
    ·refine .inl ⟨k,?_⟩;have:y≠x:=fun e=>hj (pD hN e1 (e ▸ hi))
     simp[this,e]
    ·exact .inr ⟨k,c,e,z.sameBut hs (Xm y c e)⟩
  ·obtain⟨w',z⟩:=I.cell y c e;exact⟨w',z.sameBut hs (Xm y c e)⟩
  ·obtain⟨e,n,ne,nf,d⟩:=I.pin p hp;exact⟨(hs.2 p.1 ne).trans e,n,ne,nf,d⟩
 ·have hfn:X.fn x=true:=by
   rcases hf with z|z
   ·exact z
   ·rw[z]at hk;cases hk
  obtain⟨c,hc⟩:=I.ok.has x (.inl hk);obtain⟨w',z⟩:=I.cell x c hc;refine wpAny_storeName_cell I.ok.kind hk hc z (fun h' Ti hs=>?_);obtain⟨oc,hoc,hocd⟩:=id z;refine h {s with heap:=h'} ⟨I.ok,I.os,I.bare,⟨fun b o e n hb hx=>?_,fun b o e n hb hx=>?_,I.base.free,fun b o e hx=>?_,I.base.Qq,I.base.Qk,I.base.Ql⟩,⟨m,hn.sameBut hs (Ne.symm (Xm x c hc)),fun j y v' e1 e2 e3=>?_⟩,fun y c' e=>?_,I.free,I.OW,fun p hp=>?_,tracked ⟨oc,hoc,I.OW x c hc⟩ hs,by simpa using I.len⟩ ⟨c,hs,.inr hc⟩
  ·exact(hs.2 b (Sn (RX (O8 e) (I.ok.Vu x c hfn hc)))).trans (I.base.keep b o e n hb hx)
  ·obtain⟨sl,e1⟩:=I.base.slot b o e n hb hx;exact⟨sl,(hs.2 b (Sn (RX (O8 e) (I.ok.Vu x c hfn hc)))).trans e1⟩
  ·obtain⟨o',e1⟩:=I.base.there b o e hx;exact⟨o',(hs.2 b (Sn (RX (O8 e) (I.ok.Vu x c hfn hc)))).trans e1⟩
  ·by_cases hj:j=i
   ·subst hj;rw[hi]at e1;cases e1;rw[WY Z4]at e2;cases e2;exact⟨u,r,.inr ⟨.inl hk,c,hc,Ti⟩⟩
   ·rw[Tx (Ne.symm hj)]at e2;obtain⟨u',r',q⟩:=hl j y v' e1 e2 e3;refine⟨u',r',?_⟩;rcases q with q|⟨k,c',e,z'⟩
    ·exact .inl q
    ·refine .inr ⟨k,c',e,z'.sameBut hs ?_⟩;rintro rfl;exact hj (pD hN e1 (I.ok.inj _ _ _ e hc ▸ hi))
  ·by_cases V8:c'=c
   ·subst V8;exact⟨_,Ti⟩
   ·obtain⟨w2,z2⟩:=I.cell y c' e;exact⟨w2,z2.sameBut hs V8⟩
  ·obtain⟨e,n,ne,nf,d⟩:=I.pin p hp;refine⟨(hs.2 p.1 ?_).trans e,n,ne,nf,d⟩;intro q;rw[q,hoc]at e;have q':oc=p.2:=UQ e;exact d w' (by rw[<- q'];exact hocd)
theorem dS{M:Model}{A:Around}{E:yaa}{i:Nat}{x:Str}{v:V}{u:Value}{Q:Unit->Shared->Prop}(I:Inv X pins σ H s)(hN:X.N.Nodup)(hi:X.N[i]?=some x)(hx:Loc X.env.scope x)(r:RelV v u)
  (h:∀s',Inv X pins (σ.set i (some v)) H s'->Q () s') (hf:X.fn x=true∨X.env.scope.names.lookup x=some .local:=by first|exact .inl rfl|exact .inr rfl|assumption):wpAny M A (storeName X.env x u) Q E s :=
 hJ I hN hi hx r (fun s' I' _=>h s' I') hf
theorem Inv.RO{s':Shared}{ch:yae}(I:Inv X pins σ H s)(ho:s'.os=s.os)(u:Un (RM X.stack) ch H H' s.heap s'.heap)(Nw:Rc X.prog X.w H' s'.heap)(hg:AllBare s'.gens)
  (TU:∀b∈ch,(b∈X.ex∨X.MY.heap.objs.size<=b)/\b≠X.env.locals/\(∀x c,X.env.cells.lookup x=some c->c≠b)/\∀p∈X.pn++pins,p.1≠b):Inv X pins σ H' s':=by
 obtain⟨h',g',d',t',o'⟩:=s';have e:o'=s.os:=ho;subst e;exact I.call (g':=g') (t':=t') (d':=d') u Nw hg TU
end
abbrev XK:=Value->Option Addr->Hp->Prop
abbrev St:=List (Option V)
abbrev VK:=V->Hp->Prop
abbrev TE:=St->Hp->VK->Prop
abbrev TT:=St->Hp->(Bool->Hp->Prop)->Prop
abbrev TA:=St->Hp->(yar->Hp->Prop)->Prop
structure Ends where
 nx:St->Hp->Prop
 rt:VK
 bk:St->Hp->Prop:=fun _ _=>False
 ct:St->Hp->Prop:=fun _ _=>False
abbrev TS:=Ends->St->Hp->Prop
def EP(X:Cx)(pins:yab)(σ:St)(Q:VK)(u:Value)(s':Shared):Prop:=∃v H',Inv X pins σ H' s'/\RelV v u/\Q v H'
def TP(X:Cx)(pins:yab)(σ:St)(Q:Bool->Hp->Prop)(b:Bool)(s':Shared):Prop:=∃H',Inv X pins σ H' s'/\Q b H'
def AP(X:Cx)(pins:yab)(σ:St)(Q:yar->Hp->Prop)(us:yad)(s':Shared):Prop:=∃vs H',Inv X pins σ H' s'/\Vals vs us/\Q vs H'
def SP(X:Cx)(pins:yab)(D:Ends)(f:Flow)(s':Shared):Prop :=
 match f with
 |.next=>∃σ' H',Inv X pins σ' H' s'/\D.nx σ' H'
 |.brk=>∃σ' H',Inv X pins σ' H' s'/\D.bk σ' H'
 |.cont=>∃σ' H',Inv X pins σ' H' s'/\D.ct σ' H'
 |.ret u=>∃v σ' H',Inv X pins σ' H' s'/\RelV v u/\D.rt v H'
def PE(X:Cx)(e:Expr)(t:TE):Prop :=
 ∀ (pins:yab) (s:Shared) (σ:St) (H:Hp) (Q:VK),Inv X pins σ H s->t σ H Q->wpAny (model X.prog X.w) X.A (eval e X.env) (EP X pins σ Q) X.xe s
def PT(X:Cx)(e:Expr)(t:TT):Prop :=
 ∀ (pins:yab) (s:Shared) (σ:St) (H:Hp) (Q:Bool->Hp->Prop),Inv X pins σ H s->t σ H Q->wpAny (model X.prog X.w) X.A (isTrue e X.env (eval e X.env)) (TP X pins σ Q) X.xe s
def PA(X:Cx)(es:yai)(t:TA):Prop :=
 ∀ (pos:Pos) (pins:yab) (s:Shared) (σ:St) (H:Hp) (Q:yar->Hp->Prop),Inv X pins σ H s->t σ H Q->wpAny (model X.prog X.w) X.A (spliced (backTo pos (starEach es X.env))) (AP X pins σ Q) X.xe s
def PS(X:Cx)(st:Stmt)(t:TS):Prop :=
 ∀ (pins:yab) (s:Shared) (σ:St) (H:Hp) (D:Ends),Inv X pins σ H s->t D σ H->wpAny (model X.prog X.w) X.A (exec st X.env) (SP X pins D) X.xe s
def UT(X:Cx)(st:yal)(t:TS):Prop :=
 ∀ (pins:yab) (s:Shared) (σ:St) (H:Hp) (D:Ends),Inv X pins σ H s->t D σ H->wpAny (model X.prog X.w) X.A (execs st X.env) (SP X pins D) X.xe s
theorem LS{α:Type}{t:Sem α}{Q Q':α->Shared->Prop}{M:Model}{A:Around}{E:yaa}{s:Shared}(h:wpAny M A t Q E s)(hQ:∀a s,Q a s->Q' a s):wpAny M A t Q' E s:=O3 h hQ fun _ _ x=>x
section
variable{X:Cx}
def Dc(i:Nat):TE:=fun σ H Q=>∃v,σ[i]?=some (some v)/\Q v H
def tC(v:V):TE:=fun _ H Q=>Q v H
theorem we {i:Nat} {x:Str} {pos:Pos} (hN:X.N[i]?=some x) (hv:Z1 X.env.scope x) (hd:(x==("__debug__" : Str))=false:=by decide) (RN:(x==("__classdict__" : Str))=false:=by decide):PE X (.Name x pos) (Dc i):=by
 intro pins s σ H Q I h;obtain⟨v,e,h⟩:=h;obtain⟨m,hn,hl⟩:=I.loc;obtain⟨u,r,l⟩:=hl i x v hN e hv;have fin:EP X pins σ Q u s:=⟨v,H,I,r,h⟩;rcases l with⟨hk,hm⟩| ⟨hk,c,hc,X5⟩
 ·exact wpAny_Name (wpAny_loadName_local I.ok.kind hk hn hm fin) hd
 ·rcases hk with hk|hk
  ·exact wpAny_Name (wpAny_loadName_cell I.ok.kind hk hc X5 fin) hd
  ·exact wpAny_Name (wpAny_loadName_free I.ok.kind hk hc X5 fin RN) hd
theorem AZ{i j pos}:PE X (.Constant (.int i) j pos) (tC (.int i)):=fun _ _ _ H _ I h=>wpAny_Constant_int ⟨.int i,H,I.tok _,⟨_,rfl⟩,h⟩
theorem qJ{b j pos}:PE X (.Constant (.bool b) j pos) (tC (.bl b)):=fun _ _ _ H _ I h=>Constant_bool ⟨.bl b,H,I,rfl,h⟩
theorem II{j pos}:PE X (.Constant .none j pos) (tC .Nx):=fun _ _ _ H _ I h=>Constant_none ⟨.Nx,H,I,rfl,h⟩
theorem A2{x j pos}:PE X (.Constant (.str x) j pos) (tC (.str x)):=fun _ _ _ H _ I h=>Calls.Constant_str ⟨.str x,H,I.tok _,⟨_,rfl⟩,h⟩
def Gl(X:Cx)(x:Str):Prop:=X.env.kindOf x=some .globalImplicit
theorem cx{E:yaa}{pins:yab}{s:Shared}{σ:St}{H:Hp}{x:Str}{u:Value}{pos:Pos}{Q:yaa}(I:Inv X pins σ H s)(hg:Gl X x)(hm:X.mg x=some u)(h:Q u s)
  (hd:(x==("__debug__" : Str))=false:=by decide):wpAny (model X.prog X.w) X.A (eval (.Name x pos) X.env) Q E s :=
 Calls.Name_function_global I.ok.kind hg (Calls.loadGlobal_global (by rw[I.ok.glob];exact I.mod.glob.keeps I.bk) hm h) hd
theorem dI{E:yaa}{pins:yab}{s:Shared}{σ:St}{H:Hp}{x:Str}{u:Value}{pos:Pos}{Q:yaa}(I:Inv X pins σ H s)(hg:Gl X x)(hm:X.mg x=none)(hv:bootBuiltins x=some u)(h:Q u s)
  (hn:x ≠ "__name__" := by decide) (hd:(x==("__debug__" : Str))=false:=by decide):wpAny (model X.prog X.w) X.A (eval (.Name x pos) X.env) Q E s:=by
 obtain⟨mb,h1,h2⟩:=I.mod.blt;exact Calls.Name_function_global I.ok.kind hg (Calls.loadGlobal_builtin (by rw[I.ok.glob];exact I.mod.glob.keeps I.bk) hm (by rw[I.ok.blt];exact h1.keeps I.bk) ((h2 x hn).trans hv) h) hd
theorem cV {x:Str} {v:V} {u:Value} {pos:Pos} (hg:Gl X x) (hm:X.mg x=some u) (r:RelV v u) (hd:(x==("__debug__" : Str))=false:=by decide):PE X (.Name x pos) (tC v) :=
 fun _ _ _ H _ I h=>cx I hg hm ⟨v,H,I,r,h⟩ hd
theorem si {x:Str} {v:V} {u:Value} {pos:Pos} (hg:Gl X x) (hm:X.mg x=none) (hv:bootBuiltins x=some u) (r:RelV v u) (hn:x ≠ "__name__" := by decide) (hd:(x==("__debug__" : Str))=false:=by decide):PE X (.Name x pos) (tC v) :=
 fun _ _ _ H _ I h=>dI I hg hm hv ⟨v,H,I,r,h⟩ hn hd
variable{a b:Expr}{ta tb:TE}{pos:Pos}
theorem vN(b:Expr){op:CmpOp}(h:op ≠ .In)(h2:op ≠ .NotIn):behindInMarks op b=false:=by
 have e1:(op==CmpOp.In)=false:=by cases op<;>first|rfl|exact absurd rfl h
 have e2:(op==CmpOp.NotIn)=false:=by cases op<;>first|rfl|exact absurd rfl h2
 cases b<;>simp[behindInMarks,e1,e2]
def tB(t:TE):TT:=fun σ H Q=>t σ H fun x H1=>∃c,x=.bl c/\Q c H1
theorem IS{e:Expr}{t:TE}(h:PE X e t)(he:∀whole,isTrue e X.env whole=(do let v←whole;standAt e.pos;holding [v] (truthy v)):=by intro _;rfl):PT X e (tB t):=by intro pins s σ H Q I hw;refine isTrue_plain (LS (h pins s σ H _ I hw) fun v s1 ⟨x,H1,I1,r1,q1⟩=>?_) (he _);obtain⟨d,rfl,q⟩:=q1;cases r1;exact Wj ⟨H1,I1,q⟩
variable{tA tB':TT}{rest:yai}
def Jd(t:TT):TT:=fun σ H Q=>t σ H fun c H1=>Q (!c) H1
theorem IQ(ha:PT X a tA):PT X (.UnaryOp .Not a pos) (Jd tA):=by intro pins s σ H Q I h;exact isTrue_not (ha pins s σ H (fun c H1=>Q (!c) H1) I h)
end
def SqL(K:yac)(H:Hp)(a:Addr)(xs:yar):Prop :=
 Rd H a (.lst xs) ∨
  ∃ (o:Obj) (its:yao) (n:Nat),K.lookup a=some o/\o.cls=.type "list" /\ o.dict=none/\o.data=.seq its n/\its.size<=sizeLine/\Vals xs its.toList
def OM(K:yac)(H:Hp)(a:Addr)(xs:yar):Prop :=
 Rd H a (.tup xs) ∨
  ∃ (o:Obj) (its:yao) (n:Nat),K.lookup a=some o/\o.cls=.type "tuple" /\ o.data=.seq its n/\its.size<=sizeLine/\Vals xs its.toList
def KJ:Value->Option V
 |.none=>some .Nx
 |.bool b=>some (.bl b)
 |.int i _=>some (.int i)
 |.str x _=>some (.str x)
 |.bytes b _=>some (.V6 b)
 |.float b _=>some (.Zu b)
 |.ref a=>some (.ref a)
 |.type n=>some (.ty n)
 |_=>none
theorem RelV.abs{x:V}{u:Value}(r:RelV x u):KJ u=some x:=by
 cases x with
 |Nx=>cases r;rfl
 |bl _=>cases r;rfl
 |int _=>obtain⟨t,rfl⟩:=r;rfl
 |str _=>obtain⟨t,rfl⟩:=r;rfl
 |V6 _=>obtain⟨t,rfl⟩:=r;rfl
 |Zu _=>obtain⟨t,rfl⟩:=r;rfl
 |ref _=>cases r;rfl
 |ty _=>cases r;rfl
theorem RelV.inj{x y:V}{u:Value}(r:RelV x u)(q:RelV y u):x=y:=UQ (r.abs.symm.trans q.abs)
theorem Vals.inj:∀{xs ys:yar} {us:yad},Vals xs us->Vals ys us->xs=ys
 |_,_,_,.nil,.nil=>rfl
 |_,_,_,.cons r t,.cons r' t'=>by rw[r.inj r',Vals.inj t t']
section
variable{X:Cx}{pins:yab}{σ:St}{H:Hp}{s:Shared}{a:Addr}{xs ys:yar}
theorem SqL.of{K:yac}(h:H a=some (.lst xs)):SqL K H a xs:=.inl (.inl h)
theorem OM.of{K:yac}(h:H a=some (.tup xs)):OM K H a xs:=.inl (.inl h)
theorem Inv.list(I:Inv X pins σ H s)(h:SqL X.K H a xs):∃its:yad,Vals xs its/\PlainL s.heap a its.toArray/\xs.length<=sizeLine:=by
 rcases h with h|⟨o,its,n,hk,hc,hd,hs,hz,r⟩
 ·obtain⟨z,its,n,r,e⟩:=h.ok I.Nw;exact⟨its,r,⟨_,n,e,rfl,rfl,rfl⟩,z⟩
 ·refine⟨its.toList,r,⟨o,n,I.QI a o hk,hc,hd,by simpa using hs⟩,?_⟩;have e:=r.length;simp only[Array.length_toList]at e;omega
theorem Inv.tuple(I:Inv X pins σ H s)(h:OM X.K H a xs):∃its:yad,Vals xs its/\IsTup s.heap a its.toArray/\xs.length<=sizeLine:=by
 rcases h with h|⟨o,its,n,hk,hc,hs,hz,r⟩
 ·obtain⟨z,its,r,p⟩:=h.ok I.Nw;exact⟨its,r,p,z⟩
 ·refine⟨its.toList,r,⟨o,I.QI a o hk,hc,n,by simpa using hs⟩,?_⟩;have e:=r.length;simp only[Array.length_toList]at e;omega
theorem Inv.UA(I:Inv X pins σ H s)(h:SqL X.K H a xs)(h':SqL X.K H a ys):xs=ys:=by
 obtain⟨its,r,⟨o,n,e,_,_,d⟩,_⟩:=I.list h;obtain⟨its',r',⟨o',n',e',_,_,d'⟩,_⟩:=I.list h';rw[e]at e';cases e';rw[d]at d';injection d' with d1 _;have:its=its':=by simpa using congrArg Array.toList d1
 subst this;exact r.inj r'
theorem Inv.TC(I:Inv X pins σ H s)(h:OM X.K H a xs)(h':OM X.K H a ys):xs=ys:=by
 obtain⟨its,r,⟨o,e,_,n,d⟩,_⟩:=I.tuple h;obtain⟨its',r',⟨o',e',_,n',d'⟩,_⟩:=I.tuple h';rw[e]at e';cases e';rw[d]at d';injection d' with d1 _;have:its=its':=by simpa using congrArg Array.toList d1
 subst this;exact r.inj r'
end
abbrev Cx.wish(X:Cx)(E:yaa):Cx:={X with xe:=E}
abbrev Cx.Qp(X:Cx):Cx:=X.wish fun _ _=>False
theorem Cx.Ok.wish{X:Cx}(ok:X.Ok)(E:yaa):(X.wish E).Ok :=
 ⟨ok.mod,ok.kind,ok.glob,ok.blt,ok.above,ok.inj,ok.has,ok.Vu,ok.hd,ok.frames,ok.Yt,ok.Z2,ok.bs,ok.V7,ok.TQ,ok.U4,ok.Rf,ok.Wl⟩
theorem Cx.Ok.MZ{X:Cx}{E:yaa}(ok:(X.wish E).Ok):X.Ok :=
 ⟨ok.mod,ok.kind,ok.glob,ok.blt,ok.above,ok.inj,ok.has,ok.Vu,ok.hd,ok.frames,ok.Yt,ok.Z2,ok.bs,ok.V7,ok.TQ,ok.U4,ok.Rf,ok.Wl⟩
section
variable{X:Cx}{pins:yab}{σ:St}{H:Hp}{s:Shared}{E:yaa}
theorem Inv.wish(I:Inv X pins σ H s)(E:yaa):Inv (X.wish E) pins σ H s:=⟨I.ok.wish E,I.os,I.bare,I.base,I.loc,I.cell,I.free,I.OW,I.pin,I.Nw,I.len⟩
theorem Inv.MZ(I:Inv (X.wish E) pins σ H s):Inv X pins σ H s:=⟨I.ok.MZ,I.os,I.bare,I.base,I.loc,I.cell,I.free,I.OW,I.pin,I.Nw,I.len⟩
end
section
variable{X:Cx}{st:Stmt}{rest:yal}{t u:TS}{e:Expr}{te:TE}{pos:Pos}
def Kx:TS:=fun D σ H=>D.nx σ H
def C9(t u:TS):TS:=fun D σ H=>t {D with nx:=u D} σ H
theorem gr:UT X [] Kx:=fun _ _ σ H _ I h=>V1 ⟨σ,H,I,h⟩
theorem cM(h1:PS X st t)(h2:UT X rest u):UT X (st::rest) (C9 t u):=by
 intro pins s σ H D I h;refine Ym (LS (h1 pins s σ H {D with nx:=u D} I h) fun f s1 q=>?_);cases f with
 |next =>
  obtain⟨σ',H',I',q⟩:=q;exact h2 pins s1 σ' H' D I' q
 |ret v=>exact q
 |brk=>exact q
 |cont=>exact q
theorem bT(h1:PS X st t):UT X [st] t:=by
 intro pins s σ H D I h;refine Ym (LS (h1 pins s σ H D I h) fun f s1 q=>?_);cases f with
 |next=>exact V1 q
 |ret v=>exact q
 |brk=>exact q
 |cont=>exact q
theorem Inv.quiet{pins:yab}{σ:St}{H:Hp}{s:Shared}(I:Inv X pins σ H s):interactive X.env=false:=by simp[interactive,I.ok.kind]
def Kv(te:TE):TS:=fun D σ H=>te σ H fun _ H1=>D.nx σ H1
theorem sk(he:PE X e te)(hs:swapsWith e none pos.line X.env=pure false:=by rfl):PS X (.Expr e pos) (Kv te):=by intro pins s σ H D I h;exact wpAny_Expr_any (LS (he pins s σ H _ I h) fun v s1 ⟨x,H1,I1,r1,q1⟩=>⟨σ,H1,I1,q1⟩) I.quiet hs
def Jg(te:TE):TS:=fun D σ H=>te σ H D.rt
theorem jj(he:PE X e te):PS X (.Return (some e) pos) (Jg te):=by intro pins s σ H D I h;exact wpAny_Return_some (LS (he pins s σ H _ I h) fun v s1 ⟨x,H1,I1,r1,q1⟩=>⟨x,σ,H1,I1,r1,q1⟩)
def zz(c:TT)(t u:TS):TS:=fun D σ H=>c σ H fun b H1=>if b=true then t D σ H1 else u D σ H1
theorem nU{c:Expr}{a b:yal}{tc:TT}(hc:PT X c tc)(ha:UT X a t)(hb:UT X b u):PS X (.If c a b pos) (zz tc t u):=by
 intro pins s σ H D I h;refine wpAny_If (LS (hc pins s σ H _ I h) fun d s1 ⟨H1,I1,q1⟩=>?_);cases d with
 |true=>exact ha pins s1 σ H1 D I1 q1
 |false=>exact hb pins s1 σ H1 D I1 q1
def Bs:TS:=fun _ _ _=>False
theorem CN:PS X st Bs:=fun _ _ _ _ _ _ h=>h.elim
theorem A5{sts:yal}:UT X sts Bs:=fun _ _ _ _ _ _ h=>h.elim
end
abbrev TG:=V->St->Hp->(St->Hp->Prop)->Prop
abbrev Yv:=yar->St->Hp->(St->Hp->Prop)->Prop
def PG(X:Cx)(target:Expr)(t:TG):Prop :=
 ∀ (pins:yab) (s:Shared) (σ:St) (H:Hp) (v:V) (u:Value) (Q:St->Hp->Prop),Inv X pins σ H s->RelV v u->t v σ H Q →
  wpAny (model X.prog X.w) X.A (assign target X.env u) (fun _ s'=>∃σ' H',Inv X pins σ' H' s'/\Q σ' H') X.xe s
def PGs(X:Cx)(ts:yai)(t:Yv):Prop :=
 ∀ (pins:yab) (s:Shared) (σ:St) (H:Hp) (vs:yar) (us:yad) (Q:St->Hp->Prop),Inv X pins σ H s->Vals vs us->t vs σ H Q →
  wpAny (model X.prog X.w) X.A (assignInOrder ((assignEach ts X.env).map (·.2)) us) (fun _ s'=>∃σ' H',Inv X pins σ' H' s'/\Q σ' H') X.xe s
section
variable{X:Cx}{pos:Pos}
def yW(i:Nat):TG:=fun v σ H Q=>Q (σ.set i (some v)) H
theorem lj{i:Nat}{x:Str}(hN:X.N.Nodup)(hi:X.N[i]?=some x)(hx:Loc X.env.scope x)(hf:X.fn x=true∨X.env.scope.names.lookup x=some .local:=by first|exact .inl rfl|exact .inr rfl|assumption):PG X (.Name x pos) (yW i):=by intro pins s σ H v u Q I r h;exact Zq (dS I hN hi hx r (fun s' I'=>⟨_,H,I',h⟩) hf)
def K3:Yv:=fun vs σ H Q=>vs=[]/\Q σ H
def JZ(t:TG)(u:Yv):Yv:=fun vs σ H Q=>∃v r,vs=v::r/\t v σ H fun σ' H'=>u r σ' H' Q
theorem Fi:PGs X [] K3:=by intro pins s σ H vs us Q I r h;obtain⟨e,h⟩:=h;subst e;cases r;exact assignInOrder_nil ⟨σ,H,I,h⟩
theorem wg{e:Expr}{es:yai}{t:TG}{u:Yv}(h1:PG X e t)(h2:PGs X es u)
  (hs:(assignEach (e::es) X.env).map (·.2)=assign e X.env::(assignEach es X.env).map (·.2):=by rfl):PGs X (e::es) (JZ t u):=by
 intro pins s σ H vs us Q I r h;obtain⟨v,vr,e1,h⟩:=h;subst e1;cases r with
 |cons r rr =>
  rw[hs];refine assignInOrder_cons (LS (h1 pins s σ H _ _ _ I r h) fun _ s1 ⟨VE,H1,I1,q1⟩=>?_);exact h2 pins s1 VE H1 _ _ Q I1 rr q1
def K4(K:yac)(n:Nat)(t:Yv):TG:=fun v σ H Q=>∃a xs,v=.ref a/\OM K H a xs/\xs.length=n/\t xs σ H Q
theorem IJ{es:yai}{k:Nat}{t:Yv}{n:Nat}(hc:X.calm=true)(h:PGs X es t)
  (hn:(assignEach es X.env).length=n:=by rfl) (Py:(assignEach es X.env).findIdx? (·.1)=none:=by rfl):PG X (.Tuple es k pos) (K4 X.K n t):=by
 intro pins s σ H v u Q I r hw;obtain⟨a,xs,e1,hq,hl,hw⟩:=hw;subst e1;cases r;obtain⟨its,rv,ht,hz⟩:=I.tuple hq;refine assign_Tuple_tuple (I.ok.hd hc) ht (by simp[hn,<- hl,rv.length]) Py fun h' hx=>?_
 have I1:Inv X pins σ H {s with heap:=h'}:=I.kept (t':=s.toks) fun b o e=>hx b o (Sn (O8 e)) e
 exact h pins _ σ H xs _ Q I1 (by simpa using rv) hw
def Jb(te:TE)(g:TG):TS:=fun D σ H=>te σ H fun x H1=>g x σ H1 D.nx
theorem IP{tg e:Expr}{te:TE}{g:TG}(he:PE X e te)(hg:PG X tg g)(hs:swapsWithSole [tg] e pos.line X.env=pure false:=by rfl)(hw:swappedStores [tg] e X.env=pure none:=by rfl)
  (h1:(assignEach [tg] X.env).map (·.2)=[assign tg X.env]:=by rfl):PS X (.Assign [tg] e pos) (Jb te g):=by
 intro pins s σ H D I h;refine wpAny_Assign_stores (LS (he pins s σ H _ I h) fun v s1 ⟨x,H1,I1,r1,q1⟩=>?_) hs hw;rw[h1];exact LS (hg pins s1 σ H1 x v _ I1 r1 q1) fun _ s2 q=>q
theorem lp{i:Nat}{x:Str}{e:Expr}{te:TE}{pos':Pos}(hN:X.N.Nodup)(hi:X.N[i]?=some x)(hx:Loc X.env.scope x)(he:PE X e te)(hs:swapsWith e (some (.Name x pos')) pos.line X.env=pure false:=by rfl)(hf:X.fn x=true∨X.env.scope.names.lookup x=some .local:=by first|exact .inl rfl|exact .inr rfl|assumption) :
  PS X (.Assign [.Name x pos'] e pos) (Jb te (yW i)):=by
 intro pins s σ H D I h;refine wpAny_Assign_Name (LS (he pins s σ H _ I h) fun v s1 ⟨y,H1,I1,r1,q1⟩=>?_) hs;exact dS I1 hN hi hx r1 (fun s2 I2=>⟨_,H1,I2,q1⟩) hf
end
structure It where
 go:Nat->Hp->Prop
 Z5:Nat->Hp->V->Hp->Prop
 stop:Nat->Hp->Prop
def cy(X:Cx)(pins:yab)(H:Hp)(b:Addr):Prop :=
 H b=none/\b≠X.env.locals/\b∉X.fs/\(b∈X.ex∨X.MY.heap.objs.size<=b)/\(∀x c,X.env.cells.lookup x=some c->c≠b)/\∀p∈X.pn++pins,p.1≠b
theorem Inv.Wo{X:Cx}{pins:yab}{σ:St}{H H':Hp}{s:Shared}{b:Addr}(I:Inv X pins σ H s)(hb:s.heap.objs.size<=b)(hn:H' b=none):cy X pins H' b:=by
 refine⟨hn,Nat.ne_of_gt (RX I.lt hb),I.Z3 hb,.inr (Sw I.sz hb),fun x c e z=>?_,fun p hp z=>?_⟩
 ·obtain⟨v,q⟩:=I.cell x c e;exact absurd (RX q.lt (by rw[z];exact hb)) (VD _)
 ·exact absurd (RX (O8 (I.pin p hp).1) (by rw[z];exact hb)) (VD _)
structure Turn(P:Program)(w:World)(K:yac)(tg:Expr)(J:It)(fp:yae)(it:Addr)(tn:Nat->Heap->Prop):Prop where
 mem:it∈fp
 obj:∀i h,tn i h->∀b∈fp,∃o,h.get? b=some o/\∀v,o.data ≠ .cell v
 keep:∀i h h',tn i h->(∀b∈fp,∀o,h.get? b=some o->h'.get? b=some o)->tn i h'
 item:∀(X:Cx),X.prog=P->X.w=w->X.K=K->X.calm=true->∀(i:Nat) (pins:yab) (s:Shared) (σ:St) (H:Hp) (E:yaa),Inv X pins σ H s->(∀b∈fp,cy X pins H b)->tn i s.heap->J.go i H →
  wpAny (model P w) X.A (pyNext (.ref it)) (fun r s1=>∃u,r=some u ∧
   wpAny (model P w) X.A (letOwnedTupleGo tg (.ref it) u) (fun _ s2=>∃x H',Inv X pins σ H' s2/\RelV x u/\J.Z5 i H x H'/\tn (i+1) s2.heap/\∀b∈fp,H' b=none) E s1) E s
 done:∀(X:Cx),X.prog=P->X.w=w->X.K=K->X.calm=true->∀(i:Nat) (pins:yab) (s:Shared) (σ:St) (H:Hp) (E:yaa),Inv X pins σ H s->(∀b∈fp,cy X pins H b)->tn i s.heap->J.stop i H →
  wpAny (model P w) X.A (pyNext (.ref it)) (fun r s1=>r=none/\Inv X pins σ H s1) E s
 self:∀(A:Around) (i:Nat) (s:Shared) (Q:yaa) (E:yaa),tn i s.heap->Q (.ref it) s->wpAny (model P w) A (pyIter (.ref it)) Q E s
abbrev TI:=St->Hp->(It->Hp->Prop)->Prop
def PIE(X:Cx)(pins:yab)(σ:St)(tg:Expr)(R:It->Hp->Prop)(Vw:Value)(s2:Shared):Prop :=
 ∃ (it:Addr) (fp:yae) (tn:Nat->Heap->Prop) (J:It) (H':Hp),Vw=.ref it/\Inv X pins σ H' s2/\Turn X.prog X.w X.K tg J fp it tn/\tn 0 s2.heap/\(∀b∈fp,cy X pins H' b)/\R J H'
def PI(X:Cx)(tg iter:Expr)(wi:TI):Prop :=
 ∀ (pins:yab) (s:Shared) (σ:St) (H:Hp) (R:It->Hp->Prop),Inv X pins σ H s->wi σ H R →
  wpAny (model X.prog X.w) X.A (eval iter X.env) (fun v s1=>wpAny (model X.prog X.w) X.A (pyIter v) (PIE X pins σ tg R) X.xe s1) X.xe s
theorem uL {M : Model} {A : Around} {E : yaa} {s : Shared} {tg : Expr} {it : Addr} {u : Value} {o : Obj} {n : String} {vs : yao} {Q : Unit -> Shared -> Prop} (ho : s.heap.get? it = some o) (hc : o.cls = .type n) (hd : o.data = .fields vs)
    (hn : ["enumerate", "zip", "dict_itemiterator", "dict_reverseitemiterator", "odict_iterator", "itertools.zip_longest", "itertools.pairwise"].contains n = false) (hQ : Q () s) : wpAny M A (letOwnedTupleGo tg (.ref it) u) Q E s := by
  unfold letOwnedTupleGo;cases tg <;> first
    | exact OQ hQ
    | (cases u <;> first
        | exact OQ hQ
        | (refine L3 (wpAny_load ho ?_)
           rw [hc, hd];show wpAny M A (if (["enumerate", "zip", "dict_itemiterator", "dict_reverseitemiterator", "odict_iterator", "itertools.zip_longest", "itertools.pairwise"].contains n && vs[0]? == some (rawInt _)) = true then _ else _) Q E s;rw [LO (by intro h; rw [hn, Yo] at h; cases h)];exact OQ hQ))
def Z6(K:yac)(a:Addr):It :=
 ⟨fun i H=>∃xs x,SqL K H a xs/\xs[i]?=some x,fun i H x H'=>H'=H/\∀xs,SqL K H a xs->xs[i]?=some x,fun i H=>∃xs,SqL K H a xs/\xs.length<=i⟩
def Itt(K:yac)(a:Addr):It :=
 ⟨fun i H=>∃xs x,OM K H a xs/\xs[i]?=some x,fun i H x H'=>H'=H/\∀xs,OM K H a xs->xs[i]?=some x,fun i H=>∃xs,OM K H a xs/\xs.length<=i⟩
def Zx(lo:Int)(n:Nat):It:=⟨fun i _=>i<n,fun i H x H'=>H'=H/\x=.int (lo+i),fun i _=>n<=i⟩
theorem Bt{P:Program}{w:World}{K:yac}{tg:Expr}(a it:Addr):Turn P w K tg (Z6 K a) [it] it (fun i h=>h.IsListIter it a i) where
 mem:=by simp
 obj:=fun i h st b hb=>by
  have e:b=it:=by simpa using hb
  subst e;obtain⟨o,e,c,d⟩:=st;exact⟨o,e,fun v z=>by rw[d]at z;cases z⟩
 keep:=fun i h h' st k=>st.at fun o e=>k it (by simp) o e
 item:=by
  intro X hP hw hK hc i pins s σ H E I hf st hg;subst hP hw hK;obtain⟨xs,x,hq,hx⟩:=hg;obtain⟨its,rv,p,hz⟩:=I.list hq;obtain⟨u,hu,ru⟩:=rv.get hx;obtain⟨f0,f1,f2,f3,f4,f5⟩:=hf it (by simp);refine wpAny_pyNext_list_item st p.isList (x:=u) (by simpa using hu) fun h' st' sb=>?_
  have I1:Inv X pins σ H {s with heap:=h'}:=I.turned (t':=s.toks) (fun b o hb e=>(sb.2 b hb).trans e) f0 f1 f3 f4 f5;obtain⟨o,e,c,d⟩:=id st';exact⟨u,rfl,uL (s:={s with heap:=h'}) e c d (by decide) ⟨x,H,I1,ru,⟨rfl,fun ys hy=>by rw[I.UA hy hq];exact hx⟩,st',fun b hb=>(hf b hb).1⟩⟩
 done:=by intro X hP hw hK hc i pins s σ H E I hf st hg;subst hP hw hK;obtain⟨xs,hq,hx⟩:=hg;obtain⟨its,rv,p,hz⟩:=I.list hq;obtain⟨f0,f1,f2,f3,f4,f5⟩:=hf it (by simp);have hl:=rv.length;exact wpAny_pyNext_list_end (I.ok.hd hc) st p.isList (by simp;omega) fun h' eb=>⟨rfl,I.turned (t':=s.toks) (fun b o hb e=>eb b o hb e) f0 f1 f3 f4 f5⟩
 self:=fun _ _ _ _ _ st h=>wpAny_pyIter_listiter st h
theorem zB{P:Program}{w:World}{K:yac}{tg:Expr}(a it:Addr):Turn P w K tg (Itt K a) [it] it (fun i h=>h.IsTupleIter it a i) where
 mem:=by simp
 obj:=fun i h st b hb=>by
  have e:b=it:=by simpa using hb
  subst e;obtain⟨o,e,c,d⟩:=st;exact⟨o,e,fun v z=>by rw[d]at z;cases z⟩
 keep:=fun i h h' st k=>st.at fun o e=>k it (by simp) o e
 item:=by
  intro X hP hw hK hc i pins s σ H E I hf st hg;subst hP hw hK;obtain⟨xs,x,hq,hx⟩:=hg;obtain⟨its,rv,p,hz⟩:=I.tuple hq;obtain⟨u,hu,ru⟩:=rv.get hx;obtain⟨f0,f1,f2,f3,f4,f5⟩:=hf it (by simp);refine wpAny_pyNext_tuple_item st (show s.heap.IsTuple a its.toArray from p) (x:=u) (by simpa using hu) fun h' st' sb=>?_
  have I1:Inv X pins σ H {s with heap:=h'}:=I.turned (t':=s.toks) (fun b o hb e=>(sb.2 b hb).trans e) f0 f1 f3 f4 f5;obtain⟨o,e,c,d⟩:=id st';exact⟨u,rfl,uL (s:={s with heap:=h'}) e c d (by decide) ⟨x,H,I1,ru,⟨rfl,fun ys hy=>by rw[I.TC hy hq];exact hx⟩,st',fun b hb=>(hf b hb).1⟩⟩
 done:=by intro X hP hw hK hc i pins s σ H E I hf st hg;subst hP hw hK;obtain⟨xs,hq,hx⟩:=hg;obtain⟨its,rv,p,hz⟩:=I.tuple hq;obtain⟨f0,f1,f2,f3,f4,f5⟩:=hf it (by simp);have hl:=rv.length;exact wpAny_pyNext_tuple_end (I.ok.hd hc) st (show s.heap.IsTuple a its.toArray from p) (by simp;omega) fun h' eb=>⟨rfl,I.turned (t':=s.toks) (fun b o hb e=>eb b o hb e) f0 f1 f3 f4 f5⟩
 self:=fun _ _ _ _ _ st h=>wpAny_pyIter_tupleiter st h
theorem zA{P:Program}{w:World}{K:yac}{tg:Expr}(it:Addr)(lo:Int)(n:Nat):Turn P w K tg (Zx lo n) [it] it (fun i h=>IsRangeIter h it (lo+(i:Nat)*1) ((n:Int) - (i:Nat)) 1) where
 mem:=by simp
 obj:=fun i h st b hb=>by
  have e:b=it:=by simpa using hb
  subst e;exact⟨_,st,fun v z=>by have z':Data.fields _=Data.cell v:=z;cases z'⟩
 keep:=fun i h h' st k=>k it (by simp) _ st
 item:=by
  intro X hP hw hK hc i pins s σ H E I hf st hg;subst hP hw hK;obtain⟨f0,f1,f2,f3,f4,f5⟩:=hf it (by simp);have W:=Walks.range (prog:=X.prog) (w:=X.w) (I.ok.hd hc) it lo 1 n;refine W.item i s _ _ hg st fun v h' tk hv st' kk=>?_
  obtain⟨t,rfl⟩:=hv;have I1:Inv X pins σ H {s with heap:=h',toks:=tk}:=I.turned (fun b o hb e=>kk b o (by simpa using hb) e) f0 f1 f3 f4 f5;refine⟨_,rfl,uL (s:={s with heap:=h',toks:=tk}) (n := "range_iterator") st' rfl rfl (by decide) ⟨.int (lo+i),H,I1,⟨t,?_⟩,⟨rfl,rfl⟩,st',fun b hb=>(hf b hb).1⟩⟩;rw[Int.mul_one]
 done:=by intro X hP hw hK hc i pins s σ H E I hf st hg;subst hP hw hK;obtain⟨f0,f1,f2,f3,f4,f5⟩:=hf it (by simp);exact wpAny_pyNext_range_end (I.ok.hd hc) st (by have:n<=i:=hg;omega) fun h' eb=>⟨rfl,I.turned (t':=s.toks) (fun b o hb e=>eb b o hb e) f0 f1 f3 f4 f5⟩
 self:=fun _ _ _ _ _ st h=>wpAny_pyIter_rangeiter st h
section
variable{X:Cx}{tg:Expr}
def J1(K:yac)(tl:TE):TI:=fun σ H R=>tl σ H fun x H1=>∃a,x=.ref a/\(∃xs,SqL K H1 a xs)/\R (Z6 K a) H1
def K7(K:yac)(tl:TE):TI:=fun σ H R=>tl σ H fun x H1=>∃a,x=.ref a/\(∃xs,OM K H1 a xs)/\R (Itt K a) H1
theorem yu{l:Expr}{tl:TE}(hl:PE X l tl):PI X tg l (J1 X.K tl):=by
 intro pins s σ H R I h;refine LS (hl pins s σ H _ I h) fun v s1 ⟨x,H1,I1,r1,q1⟩=>?_
 obtain⟨a,e,⟨xs,hq⟩,q⟩:=q1;subst e;cases r1;obtain⟨its,rv,p,hz⟩:=I1.list hq;refine wpAny_pyIter_list p.isList ?_;refine⟨s1.heap.objs.size,[s1.heap.objs.size],_,_,H1,rfl,I1.kept (t':=s1.toks) fun b o e=>P7 _ e,Bt a _,⟨_,Rm _ rfl,rfl,rfl⟩,fun b hb=>?_,q⟩;have e:b=s1.heap.objs.size:=by simpa using hb
 subst e;exact I1.Wo (O2 _) (I1.Nw.fresh (O2 _))
theorem IK{l:Expr}{tl:TE}(hl:PE X l tl):PI X tg l (K7 X.K tl):=by
 intro pins s σ H R I h;refine LS (hl pins s σ H _ I h) fun v s1 ⟨x,H1,I1,r1,q1⟩=>?_
 obtain⟨a,e,⟨xs,hq⟩,q⟩:=q1;subst e;cases r1;obtain⟨its,rv,p,hz⟩:=I1.tuple hq;refine wpAny_pyIter_tuple (show s1.heap.IsTuple a its.toArray from p) ?_;refine⟨s1.heap.objs.size,[s1.heap.objs.size],_,_,H1,rfl,I1.kept (t':=s1.toks) fun b o e=>P7 _ e,zB a _,⟨_,Rm _ rfl,rfl,rfl⟩,fun b hb=>?_,q⟩;have e:b=s1.heap.objs.size:=by simpa using hb
 subst e;exact I1.Wo (O2 _) (I1.Nw.fresh (O2 _))
theorem CO{pins:yab}{σ:St}{H:Hp}{s:Shared}{R:It->Hp->Prop}{E:yaa}{lo hi:Int}{t u v:Tok}{tk:Nat}(I:Inv X pins σ H s)(h1:-(2 ^ 62)<=lo)(h2:lo<2 ^ 62)(h3:-(2 ^ 62)<=hi)(h4:hi<2 ^ 62)
  (q:R (Zx lo (hi - lo).toNat) H):wpAny (model X.prog X.w) X.A (pyIter (.ref s.heap.objs.size)) (PIE X pins σ tg R) E {s with heap:=s.heap.push {cls:=.type "range", data:=.fields #[.int lo t,.int hi u,.int 1 v]},toks:=tk}:=by
 refine wpAny_pyIter_range (IsRange.new ..) (small_one h1 h2 h3 h4) ?_;have I1:Inv X pins σ H {s with heap:=s.heap.push {cls:=.type "range", data:=.fields #[.int lo t,.int hi u,.int 1 v]},toks:=tk}:=I.kept fun b o e=>P7 _ e
 refine⟨(s.heap.push {cls:=.type "range", data:=.fields #[.int lo t,.int hi u,.int 1 v]}).objs.size,[(s.heap.push {cls:=.type "range", data:=.fields #[.int lo t,.int hi u,.int 1 v]}).objs.size],_,_,H,rfl,
  I1.kept (t':=tk) fun b o e=>P7 _ e,zA _ lo (hi - lo).toNat,?_,fun b hb=>?_,q⟩
 ·have e1:lo+((0:Nat):Int)*1=lo:=by simp
  have e2:(((hi - lo).toNat:Nat):Int) - ((0:Nat):Int)=Builtin.Range.rangeSize lo hi 1:=by rw[rangeSize_one];split<;>omega
  show IsRangeIter _ _ (lo+((0:Nat):Int)*1) ((((hi - lo).toNat:Nat):Int) - ((0:Nat):Int)) 1;rw[e1,e2];exact Rm _ rfl
 ·have e:b=(s.heap.push {cls:=.type "range", data:=.fields #[.int lo t,.int hi u,.int 1 v]}).objs.size:=by simpa using hb
  subst e;exact I1.Wo (O2 _) (I1.Nw.fresh (O2 _))
def J2(ta:TA):TI:=fun σ H R=>ta σ H fun vs H1=>∃j:Int,vs=[.int j]/\-(2 ^ 62)<=j/\j<2 ^ 62/\R (Zx 0 j.toNat) H1
theorem tX {a:Expr} {ta:TA} {p pos:Pos} (hg:Gl X "range") (hm:X.mg "range" = none) (ha:PA X [a] ta) (hs:starEach [a] X.env=[(false,eval a X.env)]:=by rfl):PI X tg (.Call (.Name "range" p) [a] [] pos) (J2 ta):=by
 intro pins s σ H R I h;refine Call_ (dI I hg hm boot_range (PyProof.Rows.callWith_type1 (LS (ha pos pins s σ H _ I h) fun us s1 ⟨vs,H1,I1,r1,q1⟩=>?_) hs rfl));obtain⟨j,e,q1,q2,q⟩:=q1;subst e;cases r1 with
 |cons r rr =>
  cases rr;obtain⟨t,rfl⟩:=r;exact call_range_1 (CO I1 (by omega) (by omega) q1 q2 (by simpa using q))
def Jc(wi:TI)(g:TG)(tb:TS):TS:=fun D σ H=>wi σ H fun J H1=>∃W:Nat->Nat->St->Hp->Prop,(∃m,W 0 m σ H1)/\∀i m σ H,W i m σ H →
 (J.stop i H/\D.nx σ H)∨(J.go i H/\∃N:St->Hp->Prop,(∀σ' H',N σ' H'->∃m',m'<m/\W (i+1) m' σ' H')/\∀x H',J.Z5 i H x H'->g x σ H' fun Ur H2=>tb {D with nx:=N,ct:=N,bk:=D.nx} Ur H2)
def ji(fp:yae)(h:Heap):yab:=fp.filterMap fun b=>(h.get? b).map fun o=>(b,o)
theorem bW{fp:yae}{h:Heap}{b:Addr}{o:Obj}(hb:b∈fp)(e:h.get? b=some o):(b,o)∈ji fp h:=ZR.mpr ⟨b,hb,by rw[e];rfl⟩
theorem AR{fp:yae}{h:Heap}{p:Addr×Obj}(hp:p∈ji fp h):p.1∈fp/\h.get? p.1=some p.2:=by
 obtain⟨b,hb,e⟩:=ZR.mp hp;cases q:h.get? b with
 |none=>rw[q]at e;cases e
 |some o =>
  rw[q]at e;have e':(b,o)=p:=UQ e;subst e';exact⟨hb,q⟩
theorem Inv.pinned{pins:yab}{σ:St}{H:Hp}{s:Shared}{fp:yae}(I:Inv X pins σ H s)(hf:∀b∈fp,cy X pins H b)(ho:∀b∈fp,∃o,s.heap.get? b=some o/\∀v,o.data ≠ .cell v):Inv X (pins++ji fp s.heap) σ H s :=
 I.Vv fun p hp=>(Tf.mp hp).elim (fun z=>I.pin p (Ss _ z)) fun z=>by obtain⟨hb,e⟩:=AR z;obtain⟨f0,f1,f2,_⟩:=hf p.1 hb;obtain⟨o,e',d⟩:=ho p.1 hb;rw[e]at e';cases e';exact⟨e,f0,f1,f2,d⟩
theorem Inv.Ox{pins pl:yab}{σ:St}{H:Hp}{s:Shared}(I:Inv X (pins++pl) σ H s):Inv X pins σ H s:=I.Vv fun p hp=>I.pin p (Ss _ (ZO _ hp))
theorem A4{iter:Expr}{body:yal}{wi:TI}{g:TG}{tb:TS}{pos:Pos}(hp:PassesOwn (model X.prog X.w) X.A X.env X.xe)(hc:X.calm=true)(hi:PI X tg iter wi)(hg:PG X tg g)(hb:UT X body tb)
  (hs:∀x,foldedSetIterable iter X.env x=pure x:=by intro _;rfl):PS X (.For tg iter body [] pos) (Jc wi g tb):=by
 intro pins s σ H D I h;refine wpAny_For (LS (hi pins s σ H _ I h) fun v s1 h1=>LS h1 fun Vw s2 h2=>?_) hs;obtain⟨it,fp,tn,J,H2,e,I2,T,TV,f2,W,⟨m0,w0⟩,turn⟩:=h2;subst e;have SE:∀{H':Hp},(∀b∈fp,H' b=none)->∀b∈fp,cy X pins H' b:=fun hn b hb=>⟨hn b hb,(f2 b hb).2⟩
 refine codeAny_forLoop_any (fun n s'=>∃i σ' H',Inv X pins σ' H' s'/\tn i s'.heap/\(∀b∈fp,H' b=none)/\W i n σ' H') ?_ m0 ⟨0,σ,H2,I2,TV,fun b hb=>(f2 b hb).1,w0⟩;rintro n s3 ⟨i,RY,H3,I3,Vx,Vy,w3⟩;rcases turn i n RY H3 w3 with⟨stop,qn⟩| ⟨go,N,hN,step⟩
 ·refine UR hp (LS (T.done X rfl rfl rfl hc i pins s3 RY H3 X.xe I3 (SE Vy) Vx stop) fun r s4 ⟨hr,I4⟩=>?_);subst hr;exact V1 ⟨RY,H3,I4,qn⟩
 ·refine UR hp (LS (T.item X rfl rfl rfl hc i pins s3 RY H3 X.xe I3 (SE Vy) Vx go) fun r s4 ⟨u,hr,h4⟩=>?_);subst hr;refine UR hp (LS h4 fun _ s5 ⟨x,H5,I5,r5,y5,TY,Xo⟩=>?_);have Xp:=I5.pinned (SE Xo) (T.obj _ _ TY);refine UR hp (LS (hg _ s5 RY H5 x u _ Xp r5 (step x H5 y5)) fun _ s6 ⟨VF,H6,I6,q6⟩=>?_);refine UR hp (LS (hb _ s6 VF H6 _ I6 q6) fun f s7 q7=>?_);have again:∀{Q8:St} {H7:Hp},Inv X (pins++ji fp s5.heap) Q8 H7 s7->N Q8 H7->∃m,m<n/\∃i σ' H',Inv X pins σ' H' s7/\tn i s7.heap/\(∀b∈fp,H' b=none)/\W i m σ' H':=fun {Q8 H7} I7 n7=>by
   obtain⟨m',hm,w7⟩:=hN Q8 H7 n7;refine⟨m',hm,i+1,Q8,H7,I7.Ox,T.keep _ _ _ TY fun b hb o e=>(I7.pin (b,o) (Ss _ (Ss _ (bW hb e)))).1,fun b hb=>?_,w7⟩;obtain⟨o,e,d⟩:=T.obj _ _ TY b hb;exact(I7.pin (b,o) (Ss _ (Ss _ (bW hb e)))).2.1
  cases f with
  |next=>obtain⟨Q8,H7,I7,n7⟩:=q7;exact again I7 n7
  |cont=>obtain⟨Q8,H7,I7,n7⟩:=q7;exact again I7 n7
  |brk=>obtain⟨Q8,H7,I7,q7⟩:=q7;exact⟨Q8,H7,I7.Ox,q7⟩
  |ret v=>obtain⟨x7,Q8,H7,I7,r7,q7⟩:=q7;exact⟨x7,Q8,H7,I7.Ox,r7,q7⟩
end
theorem Ce{K:yac}{a:Addr}{xs:yar}{g:TG}{tb:TS}{D:Ends}{σ:St}{H:Hp}(Pv:Nat->St->Hp->Prop)(h0:Pv 0 σ H)(hl:∀i σ H,i<=xs.length->Pv i σ H->SqL K H a xs)
  (hs:∀i x σ H,xs[i]?=some x->Pv i σ H->g x σ H fun Ur H2=>tb {D with nx:=Pv (i+1),ct:=Pv (i+1),bk:=D.nx} Ur H2) (hd:∀σ H,Pv xs.length σ H->D.nx σ H) :
  ∃ W:Nat->Nat->St->Hp->Prop,(∃m,W 0 m σ H)/\∀i m σ H,W i m σ H →
   ((Z6 K a).stop i H/\D.nx σ H)∨((Z6 K a).go i H/\∃N:St->Hp->Prop,(∀σ' H',N σ' H'->∃m',m'<m/\W (i+1) m' σ' H')/\∀x H',(Z6 K a).Z5 i H x H'->g x σ H' fun Ur H2=>tb {D with nx:=N,ct:=N,bk:=D.nx} Ur H2):=by
 refine⟨fun i m σ H=>m=xs.length - i/\i<=xs.length/\Pv i σ H,⟨xs.length,by simp,S9 _,h0⟩,?_⟩;rintro i m σ H ⟨rfl,hi,p⟩;have q:=hl i σ H hi p;by_cases QJ:i<xs.length
 ·refine .inr ⟨⟨xs,xs[i],q,by simp[QJ]⟩,Pv (i+1),fun σ' H' p'=>⟨xs.length - (i+1),by omega,rfl,QJ,p'⟩,fun x H' y=>?_⟩;obtain⟨e,y⟩:=y;subst e;exact hs i x σ _ (y xs q) p
 ·have e:i=xs.length:=by omega
  subst e;exact .inl ⟨⟨xs,q,O2 _⟩,hd σ H p⟩
theorem tO{lo:Int}{n:Nat}{g:TG}{tb:TS}{D:Ends}{σ:St}{H:Hp}(Pv:Nat->St->Hp->Prop)(h0:Pv 0 σ H)
  (hs:∀i σ H,i<n->Pv i σ H->g (.int (lo+i)) σ H fun Ur H2=>tb {D with nx:=Pv (i+1),ct:=Pv (i+1),bk:=D.nx} Ur H2) (hd:∀σ H,Pv n σ H->D.nx σ H) :
  ∃ W:Nat->Nat->St->Hp->Prop,(∃m,W 0 m σ H)/\∀i m σ H,W i m σ H →
   ((Zx lo n).stop i H/\D.nx σ H)∨((Zx lo n).go i H/\∃N:St->Hp->Prop,(∀σ' H',N σ' H'->∃m',m'<m/\W (i+1) m' σ' H')/\∀x H',(Zx lo n).Z5 i H x H'->g x σ H' fun Ur H2=>tb {D with nx:=N,ct:=N,bk:=D.nx} Ur H2):=by
 refine⟨fun i m σ H=>m=n - i/\i<=n/\Pv i σ H,⟨n,by simp,S9 _,h0⟩,?_⟩;rintro i m σ H ⟨rfl,hi,p⟩;by_cases QJ:i<n
 ·refine .inr ⟨QJ,Pv (i+1),fun σ' H' p'=>⟨n - (i+1),by omega,rfl,QJ,p'⟩,fun x H' y=>?_⟩;obtain⟨e,y⟩:=y;subst e y;exact hs i σ _ QJ p
 ·have e:i=n:=by omega
  subst e;exact .inl ⟨O2 _,hd σ H p⟩
abbrev R2:=V->V->Hp->VK->Prop
def SF(X:Cx)(f:Value->Value->Sem Value)(r:R2):Prop :=
 ∀ (pins:yab) (s:Shared) (σ:St) (H:Hp) (x y:V) (v u:Value) (Q:VK),Inv X pins σ H s->RelV x v->RelV y u->r x y H Q →
  wpAny (model X.prog X.w) X.A (f v u) (EP X pins σ Q) X.xe s
def UnR(X:Cx)(f:Value->Sem Value)(r:V->Hp->VK->Prop):Prop :=
 ∀ (pins:yab) (s:Shared) (σ:St) (H:Hp) (x:V) (v:Value) (Q:VK),Inv X pins σ H s->RelV x v->r x H Q →
  wpAny (model X.prog X.w) X.A (f v) (EP X pins σ Q) X.xe s
def jN(X:Cx)(f:Value)(r:yar->Hp->VK->Prop):Prop :=
 ∀ (pins:yab) (s:Shared) (σ:St) (H:Hp) (xs:yar) (us:yad) (Q:VK),Inv X pins σ H s->Vals xs us->r xs H Q →
  wpAny (model X.prog X.w) X.A (call f us) (EP X pins σ Q) X.xe s
def tOp(r:R2)(ta tb:TE):TE:=fun σ H Q=>ta σ H fun x H1=>tb σ H1 fun y H2=>r x y H2 Q
def tUn(r:V->Hp->VK->Prop)(ta:TE):TE:=fun σ H Q=>ta σ H fun x H1=>r x H1 Q
def rI(C:Int->Int->Prop)(g:Int->Int->V):R2:=fun x y H Q=>∃i j,x=.int i/\y=.int j/\C i j/\Q (g i j) H
def W5(g:Int->Int->V):R2:=fun x y H Q=>∃i j,x=.int i/\y=.int j/\Q (g i j) H
def rU(g:Int->V):V->Hp->VK->Prop:=fun x H Q=>∃i,x=.int i/\Q (g i) H
section
variable{X:Cx}{a b c:Expr}{ta tb tc:TE}{pos:Pos}
theorem KN(ha:PE X a ta)(hb:PE X b tb){pins:yab}{s:Shared}{σ:St}{H:Hp}{R:V->V->Hp->Prop}(I:Inv X pins σ H s)
  (h:ta σ H fun x H1=>tb σ H1 fun y H2=>R x y H2) {Q:yaa} {f:Value->Value->Sem Value}
  (hf:∀v u s2 x y H2,Inv X pins σ H2 s2->RelV x v->RelV y u->R x y H2->wpAny (model X.prog X.w) X.A (f v u) Q X.xe s2) :
  wpAny (model X.prog X.w) X.A (eval a X.env) (fun v LP=>wpAny (model X.prog X.w) X.A (eval b X.env) (fun u LN=>wpAny (model X.prog X.w) X.A (f v u) Q X.xe LN) X.xe LP) X.xe s:=by
 refine LS (ha pins s σ H _ I h) fun v s1 ⟨x,H1,I1,r1,q1⟩=>?_
 refine LS (hb pins s1 σ H1 _ I1 q1) fun u s2 ⟨y,H2,I2,r2,q2⟩=>?_
 exact hf v u s2 x y H2 I2 r1 r2 q2
theorem Ko{op:Operator}{r:R2}(ho:SF X (binaryOp op) r)(ha:PE X a ta)(hb:PE X b tb):PE X (.BinOp a op b pos) (tOp r ta tb):=by intro pins s σ H Q I h;exact wpAny_BinOp (KN ha hb I h fun v u s2 x y H2 I2 rx ry q=>ho pins s2 σ H2 x y v u Q I2 rx ry q)
theorem Kp{op:UnaryOp}{r:V->Hp->VK->Prop}(ho:UnR X (unaryOp op) r)(ha:PE X a ta):PE X (.UnaryOp op a pos) (tUn r ta):=by intro pins s σ H Q I h;exact UnaryOp_ (LS (ha pins s σ H _ I h) fun v s1 ⟨x,H1,I1,r1,q1⟩=>ho pins s1 σ H1 x v Q I1 r1 q1)
theorem opI{f:Value->Value->Sem Value}{C:Int->Int->Prop}{g:Int->Int->Int}
  (rule:∀(i j:Int) (t u:Tok) (s:Shared) (Q:yaa) (E:yaa),C i j->Q (.int (g i j) s.toks) {s with toks:=s.toks+1}->wpAny (model X.prog X.w) X.A (f (.int i t) (.int j u)) Q E s) :
  SF X f (rI C fun i j=>.int (g i j)):=by
 intro pins s σ H x y v u Q I rx ry h;obtain⟨i,j,rfl,rfl,hc,q⟩:=h;obtain⟨t,rfl⟩:=rx;obtain⟨t',rfl⟩:=ry;exact rule i j t t' s _ _ hc ⟨.int (g i j),H,I.tok _,⟨_,rfl⟩,q⟩
theorem Iz{f:Value->Value->Sem Value}{g:Int->Int->Int}
  (rule:∀(i j:Int) (t u:Tok) (s:Shared) (Q:yaa) (E:yaa),Q (.int (g i j) s.toks) {s with toks:=s.toks+1}->wpAny (model X.prog X.w) X.A (f (.int i t) (.int j u)) Q E s) :
  SF X f (W5 fun i j=>.int (g i j)):=by
 intro pins s σ H x y v u Q I rx ry h;obtain⟨i,j,rfl,rfl,q⟩:=h;obtain⟨t,rfl⟩:=rx;obtain⟨t',rfl⟩:=ry;exact rule i j t t' s _ _ ⟨.int (g i j),H,I.tok _,⟨_,rfl⟩,q⟩
theorem zd{f:Value->Value->Sem Value}{g:Int->Int->Bool}
  (rule:∀(i j:Int) (t u:Tok) (s:Shared) (Q:yaa) (E:yaa),Q (.bool (g i j)) s->wpAny (model X.prog X.w) X.A (f (.int i t) (.int j u)) Q E s) :
  SF X f (W5 fun i j=>.bl (g i j)):=by
 intro pins s σ H x y v u Q I rx ry h;obtain⟨i,j,rfl,rfl,q⟩:=h;obtain⟨t,rfl⟩:=rx;obtain⟨t',rfl⟩:=ry;exact rule i j t t' s _ _ ⟨.bl (g i j),H,I,rfl,q⟩
theorem IA:SF X (binaryOp .Add) (W5 fun i j=>.int (i+j)):=Iz fun _ _ _ _ _ _ _ q=>add_int q
theorem ID:SF X (binaryOp .Sub) (W5 fun i j=>.int (i - j)):=Iz fun _ _ _ _ _ _ _ q=>sub_int q
theorem Fb:SF X (binaryOp .Mod) (rI (fun _ j=>j≠0) fun i j=>.int (i.fmod j)):=opI fun _ _ _ _ _ _ _ hc q=>mod_int' hc q
theorem unI{f:Value->Sem Value}{g:Int->Int}
  (rule:∀(i:Int) (t:Tok) (s:Shared) (Q:yaa) (E:yaa),Q (.int (g i) s.toks) {s with toks:=s.toks+1}->wpAny (model X.prog X.w) X.A (f (.int i t)) Q E s) :
  UnR X f (rU fun i=>.int (g i)):=by
 intro pins s σ H x v Q I rx h;obtain⟨i,rfl,q⟩:=h;obtain⟨t,rfl⟩:=rx;exact rule i t s _ _ ⟨.int (g i),H,I.tok _,⟨_,rfl⟩,q⟩
theorem Bw:UnR X (unaryOp .USub) (rU fun i=>.int (-i)):=unI fun _ _ _ _ _ q=>neg_int q
end
def sG:V->V->Bool
 |.Nx,.Nx=>true|.Nx,.int _=>true|.int _,.Nx=>true|.Nx,.bl _=>true|.bl _,.Nx=>true|.Nx,.str _=>true|.str _,.Nx=>true
 |.int _,.int _=>true|.bl _,.bl _=>true|.str _,.str _=>true|.V6 _,.V6 _=>true
 |.int _,.str _=>true|.str _,.int _=>true|.bl _,.str _=>true|.str _,.bl _=>true
 |_,_=>false
def rEq:R2:=fun x y H Q=>sG x y=true/\Q (.bl (decide (x=y))) H
def rNe:R2:=fun x y H Q=>sG x y=true/\Q (.bl (!decide (x=y))) H
theorem nP{i j:Int}:decide (V.int i=V.int j)=(i==j):=by rw[Bool.eq_iff_iff];simp
theorem Ac{i j:Bool}:decide (V.bl i=V.bl j)=(i==j):=by rw[Bool.eq_iff_iff];simp
theorem xV{i j:Str}:decide (V.str i=V.str j)=(i==j):=by rw[Bool.eq_iff_iff];simp
theorem xU{i j:Array UInt8}:decide (V.V6 i=V.V6 j)=(i.toList==j.toList):=by rw[Bool.eq_iff_iff];cases i;cases j;simp
section
variable{X:Cx}{a b c:Expr}{ta tb tc:TE}{pos:Pos}
theorem aZ{pins:yab}{σ:St}{H:Hp}{s:Shared}{Q:VK}{k k':Bool}(I:Inv X pins σ H s)(q:Q (.bl k) H)(e:k=k'):EP X pins σ Q (.bool k') s:=by subst e;exact⟨.bl k,H,I,rfl,q⟩
theorem DW:SF X (compareOp .Eq) rEq:=by
 intro pins s σ H x y v u Q I rx ry h;obtain⟨hs,q⟩:=h;cases x with
 |Nx =>
  cases rx;cases y with
  |Nx=>cases ry;exact PySem.EqNone.eq_none_none (aZ I q (by simp))
  |bl j=>cases ry;exact PySem.EqNone.eq_none_bool (aZ I q (by simp))
  |int j=>obtain⟨t',rfl⟩:=ry;exact PySem.EqNone.eq_none_int (aZ I q (by simp))
  |str j=>obtain⟨t',rfl⟩:=ry;exact PySem.EqNone.eq_none_str (aZ I q (by simp))
  |_=>exact absurd (show false=true from hs) S6
 |bl i =>
  cases rx;cases y with
  |Nx=>cases ry;exact PySem.EqNone.eq_bool_none (aZ I q (by simp))
  |bl j=>cases ry;exact eq_bool (aZ I q Ac)
  |str j=>obtain⟨t',rfl⟩:=ry;exact PySem.EqMixed.eq_bool_str (aZ I q (by simp))
  |_=>exact absurd (show false=true from hs) S6
 |int i =>
  obtain⟨t,rfl⟩:=rx;cases y with
  |Nx=>cases ry;exact PySem.EqNone.eq_int_none (aZ I q (by simp))
  |int j=>obtain⟨t',rfl⟩:=ry;exact eq_int (aZ I q nP)
  |str j=>obtain⟨t',rfl⟩:=ry;exact PySem.EqMixed.eq_int_str (aZ I q (by simp))
  |_=>exact absurd (show false=true from hs) S6
 |str i =>
  obtain⟨t,rfl⟩:=rx;cases y with
  |Nx=>cases ry;exact PySem.EqNone.eq_str_none (aZ I q (by simp))
  |bl j=>cases ry;exact PySem.EqMixed.eq_str_bool (aZ I q (by simp))
  |int j=>obtain⟨t',rfl⟩:=ry;exact PySem.EqMixed.eq_str_int (aZ I q (by simp))
  |str j=>obtain⟨t',rfl⟩:=ry;exact eq_str (aZ I q xV)
  |_=>exact absurd (show false=true from hs) S6
 |V6 i =>
  obtain⟨t,rfl⟩:=rx;cases y with
  |V6 j=>obtain⟨t',rfl⟩:=ry;exact PySem.W.eq_bytes (aZ I q xU)
  |_=>exact absurd (show false=true from hs) S6
 |_=>cases y<;>exact absurd (show false=true from hs) S6
theorem zf:SF X (compareOp .NotEq) rNe:=by
 intro pins s σ H x y v u Q I rx ry h;obtain⟨hs,q⟩:=h;cases x with
 |Nx =>
  cases rx;cases y with
  |Nx=>cases ry;exact PySem.EqNone.ne_none_none (aZ I q (by simp))
  |bl j=>cases ry;exact PySem.EqNone.ne_none_bool (aZ I q (by simp))
  |int j=>obtain⟨t',rfl⟩:=ry;exact PySem.EqNone.ne_none_int (aZ I q (by simp))
  |str j=>obtain⟨t',rfl⟩:=ry;exact PySem.EqNone.ne_none_str (aZ I q (by simp))
  |_=>exact absurd (show false=true from hs) S6
 |bl i =>
  cases rx;cases y with
  |Nx=>cases ry;exact PySem.EqNone.ne_bool_none (aZ I q (by simp))
  |bl j=>cases ry;exact ne_bool (aZ I q (congrArg not Ac))
  |str j=>obtain⟨t',rfl⟩:=ry;exact PySem.EqMixed.ne_bool_str (aZ I q (by simp))
  |_=>exact absurd (show false=true from hs) S6
 |int i =>
  obtain⟨t,rfl⟩:=rx;cases y with
  |Nx=>cases ry;exact PySem.EqNone.ne_int_none (aZ I q (by simp))
  |int j=>obtain⟨t',rfl⟩:=ry;exact ne_int (aZ I q (congrArg not nP))
  |str j=>obtain⟨t',rfl⟩:=ry;exact PySem.EqMixed.ne_int_str (aZ I q (by simp))
  |_=>exact absurd (show false=true from hs) S6
 |str i =>
  obtain⟨t,rfl⟩:=rx;cases y with
  |Nx=>cases ry;exact PySem.EqNone.ne_str_none (aZ I q (by simp))
  |bl j=>cases ry;exact PySem.EqMixed.ne_str_bool (aZ I q (by simp))
  |int j=>obtain⟨t',rfl⟩:=ry;exact PySem.EqMixed.ne_str_int (aZ I q (by simp))
  |str j=>obtain⟨t',rfl⟩:=ry;exact ne_str (aZ I q (congrArg not xV))
  |_=>exact absurd (show false=true from hs) S6
 |V6 i =>
  obtain⟨t,rfl⟩:=rx;cases y with
  |V6 j=>obtain⟨t',rfl⟩:=ry;exact PySem.W.ne_bytes (aZ I q (congrArg not xU))
  |_=>exact absurd (show false=true from hs) S6
 |_=>cases y<;>exact absurd (show false=true from hs) S6
theorem Km:SF X (compareOp .Lt) (W5 fun i j=>.bl (decide (i<j))):=zd fun _ _ _ _ _ _ _ q=>lt_int q
theorem Kl:SF X (compareOp .LtE) (W5 fun i j=>.bl (decide (i<=j))):=zd fun _ _ _ _ _ _ _ q=>le_int q
theorem Kk:SF X (compareOp .Gt) (W5 fun i j=>.bl (decide (j<i))):=zd fun _ _ _ _ _ _ _ q=>gt_int q
theorem Kj:SF X (compareOp .GtE) (W5 fun i j=>.bl (decide (j<=i))):=zd fun _ _ _ _ _ _ _ q=>ge_int q
theorem IC:SF X (compareOp .Is) (fun x y H Q=>y=.Nx/\Q (.bl (decide (x=.Nx))) H):=by
 intro pins s σ H x y v u Q I rx ry h;obtain⟨rfl,q⟩:=h;cases ry;refine is_none_gen (aZ I q ?_);cases x<;>first
  |(cases rx;rfl)
  |(obtain⟨t,rfl⟩:=rx;rfl)
theorem Il(b:Expr){op:CmpOp}(h:op ≠ .In:=by decide)(h2:op ≠ .NotIn:=by decide):behindInMarks op b=false:=by
 have e1:(op==CmpOp.In)=false:=by cases op<;>first|rfl|exact absurd rfl h
 have e2:(op==CmpOp.NotIn)=false:=by cases op<;>first|rfl|exact absurd rfl h2
 cases b<;>simp[behindInMarks,e1,e2]
def D5(t:TE):TT:=fun σ H Q=>t σ H fun x H'=>∃k,x=.bl k/\Q k H'
theorem sr{op:CmpOp}{r:R2}(ho:SF X (compareOp op) r)(ha:PE X a ta)(hb:PE X b tb)(hm:behindInMarks op b=false):PT X (.Compare a [op] [b] pos) (D5 (tOp r ta tb)):=by
 intro pins s σ H Q I h;refine zBp (LS (ha pins s σ H _ I h) fun v s1 ⟨x,H1,I1,r1,q1⟩=>LS (hb pins s1 σ H1 _ I1 q1) fun u s2 ⟨y,H2,I2,r2,q2⟩=>
  LS (ho pins s2 σ H2 x y v u _ I2 r1 r2 q2) fun c s3 ⟨z,H3,I3,r3,k,e,q3⟩=>?_) hm
 subst e;cases r3;exact Wj ⟨H3,I3,q3⟩
theorem qB:(sizeLine:Nat)<2 ^ 63:=by rw[TM];decide
theorem ze:SF X (binaryOp .Add) (fun x y H Q=>∃i j,x=.str i/\y=.str j/\i.length+j.length<=sizeLine/\Q (.str (i++j)) H):=by intro pins s σ H x y v u Q I rx ry h;obtain⟨i,j,rfl,rfl,hz,q⟩:=h;obtain⟨t,rfl⟩:=rx;obtain⟨t',rfl⟩:=ry;exact add_str (fun t' tk=>⟨.str (i++j),H,I.tok _,⟨_,rfl⟩,q⟩) hz
theorem vals1{x:V}{us:yad}(r:Vals [x] us):∃u,us=[u]/\RelV x u:=by
 cases r with
 |cons r1 r2=>cases r2;exact⟨_,rfl,r1⟩
theorem vals2{x y:V}{us:yad}(r:Vals [x,y] us):∃u w',us=[u,w']/\RelV x u/\RelV y w':=by
 cases r with
 |cons r1 r2 =>
  cases r2 with
  |cons r3 r4=>cases r4;exact⟨_,_,rfl,r1,r3⟩
theorem BW:jN X (.builtin "abs") (fun xs H Q=>∃i,xs=[.int i]/\Q (.int (if i<0 then -i else i)) H):=by intro pins s σ H xs us Q I r h;obtain⟨i,rfl,q⟩:=h;obtain⟨u,rfl,t,rfl⟩:=vals1 r;exact call_abs_int fun u tk=>⟨.int (if i<0 then -i else i),H,I.tok _,⟨_,rfl⟩,q⟩
theorem zL (hc:X.calm=true):jN X (.builtin "max") (fun xs H Q=>∃i j,xs=[.int i,.int j]/\Q (.int (if j > i then j else i)) H):=by
 intro pins s σ H xs us Q I r h;obtain⟨i,j,rfl,q⟩:=h;obtain⟨u,w',rfl,⟨t,rfl⟩,⟨t',rfl⟩⟩:=vals2 r;refine max_two_ints (I.ok.hd hc) fun h' tk k=>⟨_,H,I.kept k,?_,q⟩
 by_cases hj:j > i
 ·rw[LX hj,LX hj];exact⟨_,rfl⟩
 ·rw[LO hj,LO hj];exact⟨_,rfl⟩
theorem zM (hc:X.calm=true):jN X (.builtin "min") (fun xs H Q=>∃i j,xs=[.int i,.int j]/\Q (.int (if j<i then j else i)) H):=by
 intro pins s σ H xs us Q I r h;obtain⟨i,j,rfl,q⟩:=h;obtain⟨u,w',rfl,⟨t,rfl⟩,⟨t',rfl⟩⟩:=vals2 r;refine min_two_ints (I.ok.hd hc) fun h' tk k=>⟨_,H,I.kept k,?_,q⟩
 by_cases hj:j<i
 ·rw[LX hj,LX hj];exact⟨_,rfl⟩
 ·rw[LO hj,LO hj];exact⟨_,rfl⟩
theorem vi:jN X (.type "str") (fun xs H Q=>∃i,xs=[.int i]/\i.natAbs.log2<1920/\Q (.str (toString i)) H):=by intro pins s σ H xs us Q I r h;obtain⟨i,rfl,hz,q⟩:=h;obtain⟨u,rfl,t,rfl⟩:=vals1 r;exact PySem.P.str_of_int hz ⟨.str _,H,I.tok _,⟨_,rfl⟩,q⟩
end
structure mC(h:Heap)(x dx C:Addr)(mA:yam):Prop where
 obj:h.get? x=some (PySem.W.instObj C dx)
 ns:h.Ns1 dx mA
 ne:dx≠x
theorem AK{h:Heap}{dx:Addr}{mA:yam}(n:h.Ns1 dx mA):∃od,h.get? dx=some od/\∀name,PySem.W.lookIn name od=some (mA name):=by
 obtain⟨o,es,ep,ho,hd,hk,_,hm⟩:=n;refine⟨o,ho,fun name=>?_⟩;have e:=hm name;unfold nsFind findBy at e;rw[<- Array.find?_toList]at e;unfold PySem.W.lookIn;rw[hd];dsimp only;split
 ·rename_i y q;rw[q]at e;exact congrArg some e
 ·rename_i q;rw[q]at e;have a:es.toList.any (·.refKey)=false:=by
   rw[List.any_eq_false];intro y hy;obtain⟨z,t,hkey⟩:=hk y (Array.mem_toList_iff.mp hy);simp[DictEntry.refKey,hkey]
  have a':¬es.toList.any (·.refKey)=true:=by rw[a];exact S6
  rw[LO a'];exact congrArg some e
theorem mC.look{h:Heap}{x dx C:Addr}{mA:yam}(I:mC h x dx C mA):∃od,PySem.W.InstAt h x (PySem.W.instObj C dx) C (some od)/\∀name,PySem.W.lookIn name od=some (mA name) :=
 let ⟨od,ho,hl⟩:=AK I.ns
 ⟨od,⟨I.obj,rfl,rfl,ho⟩,hl⟩
section
variable{prog:Program}{w:World}{A:Around}{E:yaa}{s:Shared}{K:yac}{x dx C f:Addr}{mA:yam}{name:Str}{v:Value}
theorem get_map{expr:Bool}{Q:yaa}(X:K.In s.heap)(I:mC s.heap x dx C mA)(hg:PySem.W.plainGet K C name=true)(hh:PySem.W.hasDictIn K C=true)
  (ha:PySem.W.findIn K (.ref C) name=some none) (hv:mA name=some v) (hv':PySem.W.handedIn v=true) (h:Q v {s with toks:=s.toks+1}) :
  wpAny (model prog w) A (getAttr (.ref x) name expr) Q E s:=by
 obtain⟨od,J,hl⟩:=I.look;exact PySem.W.get_value X J (PySem.W.plainGet_of hg).1 (PySem.W.findObj_own hh ha rfl (by rw[hl,hv])) hv' h
theorem Cj{pl:Sem Bool}{Q:Value×yad->Shared->Prop}(X:K.In s.heap)(I:mC s.heap x dx C mA)(hg:PySem.W.plainGet K C name=true)
  (hf:PySem.W.findIn K (.ref C) name=some (some (.ref f))) (ht:PySem.W.isFn K (.ref f)=true) (hv:mA name=none) (h:Q (.ref f,[.ref x]) s) :
  wpAny (model prog w) A (getMethod (.ref x) name pl) Q E s:=by
 obtain⟨od,J,hl⟩:=I.look;exact PySem.W.method_fn X J (PySem.W.plainGet_of hg).1 (PySem.W.plainGet_of hg).2 hf (beq_iff_eq.mp ht) (by show(PySem.W.lookIn name od).map (·.isSome)=some false;rw[hl,hv];rfl) h
theorem FF{ns:yah}{Q:Unit->Shared->Prop}(X:K.In s.heap)(I:mC s.heap x dx C mA)
  (hs:PySem.W.findIn K (.ref C) "__setattr__" = some (some (.builtin "object.__setattr__"))) (hp:PySem.W.plainOver K C=true) (ht:PySem.W.takerIn K C name=some none) (hh:PySem.W.hasDictIn K C=true)
  (hw:PySem.Within mA ns) (hsz:ns.length<=sizeLine)
  (h:∀h',mC h' x dx C (fun y=>if y=name then some v else mA y)->Heap.SameBut dx s.heap h'->Q () {s with heap:=h',toks:=s.toks+2}) :
  wpAny (model prog w) A (setAttr (.ref x) name v) Q E s:=by
 obtain⟨od,J,hl⟩:=I.look;refine PySem.W.set_plain X J hs (PySem.W.osa_open (s:={s with toks:=s.toks+1}) (r:=none) X J hp ht fun b=>?_);obtain⟨cd,hc,TR⟩:=PySem.W.any_some hh;have hx:s.heap.get? x=some ⟨.ref C,some dx,.plain,#[]⟩:=I.obj;refine L3 (OQ (L3 (L3 (wpAny_loadPart hx (L3 (PySem.W.Looks.here (s:={s with toks:=s.toks+1}) (PySem.W.looks_clsIn X hc) ?_))))));rw[TR];refine OQ (a:=some dx) (L3 (OQ (L3 ?_)));refine wpAny_nsSet1 (s:={s with toks:=s.toks+1}) I.ns fun h' hn2 X6=>?_
 obtain⟨oD,esD,epD,hoD,hdD,hcD⟩:=hn2.count (PySem.Within.cons name v hw);refine L3 (wpAny_lookBehind hoD (by rw[hdD];exact pastItsLine_dict (Sw hcD (by rw[Sd];omega))) ?_);exact OQ (h _ ⟨(X6.2 _ (Ne.symm I.ne)).trans I.obj,hn2,I.ne⟩ X6)
theorem Cv{R:Result->Shared->Prop}{vs:yad}{kw:List (Str×Value)}(X:K.In s.heap)(hm:PySem.W.makesIn K C=true)
  (hi:PySem.W.findIn K (.ref C) "__init__" = some (some (.ref f))) (hf:PySem.W.typeIn K (.ref f)=some (.type "function"))
  (h:codeAny (model prog w) (A.under (.builtin "type.__call__" ⟨.ref C::vs,kw⟩)) (.call (.ref f) ⟨.ref (s.heap.objs.size+1)::vs,kw⟩) (PySem.W.InitBack (s.heap.objs.size+1) R)
   {s with heap:=(s.heap.push PySem.W.emptyDict).push (PySem.W.instObj C s.heap.objs.size)}) :
  codeAny (model prog w) A (.call (.ref C) ⟨vs,kw⟩) R s:=by
 obtain⟨hh,g,d,t,os⟩:=s;exact PySem.W.make_core (PySem.W.makes_of X hm) (PySem.W.looks_findIn X hi) (fun self=>PySem.W.bind_fn X self hf) (.inl rfl) h
end
def eJ(f:Str)(v:V):List (Str×V)->List (Str×V)
 |[]=>[(f,v)]
 |(g,x)::r=>if g=f then(g,v)::r else(g,x)::eJ f v r
theorem oK(f g:Str)(v:V):∀fs:List (Str×V),(eJ f v fs).lookup g=if g=f then some v else fs.lookup g
 |[]=>by
  show List.lookup g [(f,v)]=_;by_cases h:g=f
  ·have hb:(g==f)=true:=beq_iff_eq.mpr h;simp only[List.lookup,hb,LX h]
  ·have hb:(g==f)=false:=Yk.mpr h;simp only[List.lookup,hb,LO h]
 |(k,x)::r=>by
  have ih:=oK f g v r;rw[show eJ f v ((k,x)::r)=(if k=f then(k,v)::r else(k,x)::eJ f v r)from rfl];by_cases hk:k=f
  ·rw[LX hk];by_cases h:g=k
   ·have hb:(g==k)=true:=beq_iff_eq.mpr h;simp only[List.lookup,hb,LX (h.trans hk)]
   ·have hb:(g==k)=false:=Yk.mpr h;simp only[List.lookup,hb,LO (fun e:g=f=>h (e.trans hk.symm))]
  ·rw[LO hk];by_cases h:g=k
   ·have hb:(g==k)=true:=beq_iff_eq.mpr h;simp only[List.lookup,hb,LO (fun e:g=f=>hk (h.symm.trans e))]
   ·have hb:(g==k)=false:=Yk.mpr h;simp only[List.lookup,hb];exact ih
theorem mS(f:Str)(v:V):∀fs:List (Str×V),f∈(eJ f v fs).map (·.1)/\∀g,g∈fs.map (·.1)->g∈(eJ f v fs).map (·.1)
 |[]=>⟨by simp[eJ],fun g h=>by simp at h⟩
 |(k,x)::r=>by
  obtain⟨i1,i2⟩:=mS f v r;rw[show eJ f v ((k,x)::r)=(if k=f then(k,v)::r else(k,x)::eJ f v r)from rfl];by_cases hk:k=f
  ·rw[LX hk];subst hk;exact⟨by simp,fun g h=>by simpa using h⟩
  ·rw[LO hk];refine⟨?_,fun g h=>?_⟩
   ·rw[Sv];exact SD _ i1
   ·rw[Sv]at h ⊢;rcases Rb.mp h with e|e
    ·exact Rb.mpr (.inl e)
    ·exact SD _ (i2 g e)
theorem oJ(f:Str)(v:V):∀fs:List (Str×V),(eJ f v fs).length<=fs.length+1
 |[]=>by simp[eJ]
 |(k,x)::r=>by
  have ih:=oJ f v r;rw[show eJ f v ((k,x)::r)=(if k=f then(k,v)::r else(k,x)::eJ f v r)from rfl];by_cases hk:k=f
  ·rw[LX hk,Sd,Sd];omega
  ·rw[LO hk,Sd,Sd];omega
theorem j5.some_of{v:V}{o:yan}(r:j5 (some v) o):∃u,o=some u/\RelV v u:=by
 cases o with
 |none=>exact(show False from r).elim
 |some u=>exact⟨u,rfl,r⟩
theorem j5.none_of{o:yan}(r:j5 none o):o=none:=by
 cases o with
 |none=>rfl
 |some u=>exact(show False from r).elim
theorem Aw{v:V}{u:Value}(r:RelV v u):PySem.W.handedIn u=true:=by
 cases v with
 |Nx=>cases(show u=Value.none from r);rfl
 |bl b=>cases(show u=Value.bool b from r);rfl
 |int i=>obtain⟨t,e⟩:=(show∃t,u=Value.int i t from r);cases e;rfl
 |str x=>obtain⟨t,e⟩:=(show∃t,u=Value.str x t from r);cases e;rfl
 |V6 b=>obtain⟨t,e⟩:=(show∃t,u=Value.bytes b t from r);cases e;rfl
 |Zu b=>obtain⟨t,e⟩:=(show∃t,u=Value.float b t from r);cases e;rfl
 |ref a=>cases(show u=Value.ref a from r);rfl
 |ty n=>cases(show u=Value.type n from r);rfl
section
variable{P:Program}{w:World}{H H':Hp}{h h':Heap}{a C dx:Addr}{fs fs':List (Str×V)}
theorem rP(Nw:Rc P w H h)(e:H a=some (.ins C dx fs)):∃mA,mC h a dx C mA/\(∀f,j5 (fs.lookup f) (mA f))/\PySem.Within mA (fs.map (·.1))/\fs.length<=1000/\H dx=some (.own a):=by obtain⟨d,z,ne,ob,mA,n,r,q⟩:=(show bQ P w H h a (.ins C dx fs)from Nw a _ e);exact⟨mA,⟨ob,n,ne⟩,r,q,z,d⟩
end
structure Cls(K:yac)(C:Addr):Prop where
 pg:PySem.W.plainGet K C Str.empty=true
 hd:PySem.W.hasDictIn K C=true
 po:PySem.W.plainOver K C=true
 sa:PySem.W.findIn K (.ref C) "__setattr__" = some (some (.builtin "object.__setattr__"))
theorem Cls.get{K:yac}{C:Addr}(c:Cls K C)(f:Str):PySem.W.plainGet K C f=true:=c.pg
def fG(K:yac)(C:Addr)(f:Str):Prop:=PySem.W.findIn K (.ref C) f=some none
theorem fG.Z7{K:yac}{C:Addr}{f:Str}(n:fG K C f):PySem.W.takerIn K C f=some none:=by unfold PySem.W.takerIn;rw[show PySem.W.findIn K (.ref C) f=some none from n];rfl
structure Con(K:yac)(C:Addr)(f:Str)(v:V)(u:Value):Prop where
 at_:PySem.W.findIn K (.ref C) f=some (some u)
 rel:RelV v u
 get:PySem.W.specialIn K u "__get__" = some none
 cp:PySem.W.copiedNames.contains f=false
structure Meth(K:yac)(C:Addr)(m:Str)(f:Addr):Prop where
 at_:PySem.W.findIn K (.ref C) m=some (some (.ref f))
 fn:PySem.W.isFn K (.ref f)=true
 kp:PySem.W.keepIn K (.ref f)=true
section
variable{X:Cx}{pins:yab}{σ:St}{H:Hp}{s:Shared}{a C dx:Addr}{fs:List (Str×V)}{f:Str}{v:V}{A:Around}{E:yaa}
theorem qv{b:Bool}{Q:yaa}(I:Inv X pins σ H s)(e:H a=some (.ins C dx fs))(c:Cls X.K C)(n:fG X.K C f)(l:fs.lookup f=some v)
  (h:∀u s',Inv X pins σ H s'->RelV v u->Q u s'):wpAny (model X.prog X.w) A (getAttr (.ref a) f b) Q E s:=by
 obtain⟨mA,O,r,_,_,_⟩:=rP I.Nw e;obtain⟨u,hu,ru⟩:=j5.some_of (v:=v) (o:=mA f) (by rw[<- l];exact r f);exact get_map I.QI O (c.get f) c.hd n hu (Aw ru) (h u _ (I.tok _) ru)
theorem dY{m:Str}{g:Addr}{pl:Sem Bool}{Q:Value×yad->Shared->Prop}(I:Inv X pins σ H s)(e:H a=some (.ins C dx fs))(c:Cls X.K C)(k:Meth X.K C m g)(l:fs.lookup m=none)
  (h:Q (.ref g,[.ref a]) s):wpAny (model X.prog X.w) A (getMethod (.ref a) m pl) Q E s:=by
 obtain⟨mA,O,r,_,_,_⟩:=rP I.Nw e;have hn:mA m=none:=j5.none_of (by rw[<- l];exact r m);exact Cj I.QI O (c.get m) k.at_ k.fn hn h
theorem zv{y:V}{u:Value}{Q:Unit->Shared->Prop}(I:Inv X pins σ H s)(e:H a=some (.ins C dx fs))(c:Cls X.K C)(n:fG X.K C f)(hl:fs.length<1000)(ry:RelV y u)
  (h:∀s',Inv X pins σ (upd H a (.ins C dx (eJ f y fs))) s'->Q () s'):wpAny (model X.prog X.w) A (setAttr (.ref a) f u) Q E s:=by
 obtain⟨mA,O,r,wi,_,ho⟩:=rP I.Nw e;have hz:(fs.map (·.1)).length<=sizeLine:=by rw[Ph,TM];omega
 refine FF I.QI O c.sa c.po n.Z7 c.hd wi hz fun h' O' sb=>h _ ?_
 have hd:∃o,h'.get? dx=some o:=let ⟨o,_,_,e',_⟩:=O'.ns;⟨o,e'⟩;refine I.write (x:=a) (e:=dx) (by rw[e];exact True.intro) (.inr ho) (fun b q hb z=>(sb.2 b hb).trans z) hd ?_;refine⟨by rw[aq O.ne];exact ho,?_,O.ne,O'.obj,_,O'.ns,fun g=>?_,fun g hg=>?_⟩
 ·have:=oJ f y fs;omega
 ·show j5 ((eJ f y fs).lookup g) (if g=f then some u else mA g);rw[oK];by_cases q:g=f
  ·rw[LX q,LX q];exact ry
  ·rw[LO q,LO q];exact r g
 ·by_cases q:g=f
  ·rw[q];exact(mS f y fs).1
  ·refine(mS f y fs).2 g (wi g fun z=>hg ?_);show(if g=f then some u else mA g)=none;rw[LO q];exact z
theorem Inv.made(I:Inv X pins σ H s):Inv X pins σ (upd (upd H s.heap.objs.size (.own (s.heap.objs.size+1))) (s.heap.objs.size+1) (.ins C s.heap.objs.size []))
  {s with heap:=(s.heap.push PySem.W.emptyDict).push (PySem.W.instObj C s.heap.objs.size)}:=by
 have e1:(s.heap.push PySem.W.emptyDict).get? s.heap.objs.size=some PySem.W.emptyDict:=Rm s.heap rfl;have e2:((s.heap.push PySem.W.emptyDict).push (PySem.W.instObj C s.heap.objs.size)).get? (s.heap.objs.size+1)=some (PySem.W.instObj C s.heap.objs.size):=by
  have:=Rm (s.heap.push PySem.W.emptyDict) (o:=PySem.W.instObj C s.heap.objs.size) rfl
  rwa [X2]at this
 have e3:(s.heap.push PySem.W.emptyDict).Ns s.heap.objs.size (fun _=>none):=⟨PySem.W.emptyDict,#[],_,e1,rfl,(fun e he=>absurd he (by simp)),fun _=>rfl⟩;have I1:=I.laid (a:=s.heap.objs.size) (o:=.own (s.heap.objs.size+1)) (h':=s.heap.push PySem.W.emptyDict) (t':=s.toks) (fun b u q=>P7 _ q) (O2 _) ⟨_,e1⟩;refine I1.laid (a:=s.heap.objs.size+1) (o:=.ins C s.heap.objs.size []) (t':=s.toks) (fun b u q=>P7 _ q) (Nat.le_of_eq (X2 _ _)) ?_;have ne:s.heap.objs.size≠s.heap.objs.size+1:=Sn (Nat.lt_succ_self _);refine⟨by rw[aq ne,ax],S9 _,ne,e2,fun _=>none,(Heap.Ns1.of_empty e3).at fun o q=>P7 _ q,fun _=>True.intro,fun y hy=>absurd rfl hy⟩
theorem xN{prog:Program}{w:World}{env:Env}{e:Expr}{f:Str}{pos:Pos}{s:Shared}{Q:yaa}(hb:attributeBase e f env (eval e env)=eval e env)
  (h:wpAny (model prog w) A (eval e env) (fun o LP=>wpAny (model prog w) A (getAttr o f true) Q E LP) E s):wpAny (model prog w) A (eval (.Attribute e f pos) env) Q E s :=
 Attribute_any_ h (by rw[arm_eval_Attribute,hb])
end
def Lv(K:yac)(ta:TE)(f:Str):TE:=fun σ H Q=>ta σ H fun x H1=>∃a C dx fs v,x=.ref a/\H1 a=some (.ins C dx fs)/\Cls K C/\fG K C f/\fs.lookup f=some v/\Q v H1
def Lp(K:yac)(ta tv:TE)(f:Str):TS:=fun D σ H=>tv σ H fun y H1=>ta σ H1 fun x H2=>∃a C dx fs,x=.ref a/\H2 a=some (.ins C dx fs)/\Cls K C/\fG K C f/\fs.length<1000 ∧
 D.nx σ (upd H2 a (.ins C dx (eJ f y fs)))
section
variable{X:Cx}{o e value:Expr}{f:Str}{pos pos' tpos:Pos}{ta tv:TE}
theorem qK(he:PE X e ta)(hb:attributeBase e f X.env (eval e X.env)=eval e X.env):PE X (.Attribute e f pos) (Lv X.K ta f):=by intro pins s σ H Q I h;refine xN hb (LS (he pins s σ H _ I h) fun u s1 ⟨x,H1,I1,rx,a,C,dx,fs,v,ex,ea,c,n,l,q⟩=>?_);subst ex;obtain rfl:u=Value.ref a:=rx;exact qv I1 ea c n l fun u' s2 I2 ru=>⟨v,H1,I2,ru,q⟩
theorem mX(ha:PE X o ta)(hv:PE X value tv)(hs:swapsWith value (some (.Attribute o f pos')) pos.line X.env=pure false):PS X (.Assign [.Attribute o f pos'] value pos) (Lp X.K ta tv f):=by intro pins s σ H D I h;refine plainObj_wpAny_Assign_Attribute (LS (hv pins s σ H _ I h) fun u s1 ⟨y,H1,I1,ry,q⟩=>LS (ha pins s1 σ H1 _ I1 q) fun ov s2 ⟨x,H2,I2,rx,a,C,dx,fs,ex,ea,c,n,l,q2⟩=>?_) hs;subst ex;obtain rfl:ov=Value.ref a:=rx;exact zv I2 ea c n l ry fun s3 I3=>⟨σ,_,I3,q2⟩
end
section
variable{X:Cx}{pins:yab}{σ:St}{H:Hp}{s:Shared}{A:Around}{E:yaa}{Q:yaa}{c:Value}{b:Bool}
inductive i4 (K:yac) (H:Hp):V->Value->Prop where
 |Nx:i4 K H .Nx (.type "NoneType")
 |bl (x:Bool):i4 K H (.bl x) (.type "bool")
 |int (i:Int):i4 K H (.int i) (.type "int")
 |str (x:Str):i4 K H (.str x) (.type "str")
 |Zu (x:UInt64):i4 K H (.Zu x) (.type "float")
 |lst {a:Addr} {xs:yar} (e:H a=some (.lst xs)):i4 K H (.ref a) (.type "list")
 |frz {a:Addr} {o:Obj} {xs:yar} (e:H a=some (.frz o (.lst xs))):i4 K H (.ref a) (.type "list")
 |tup {a:Addr} {xs:yar} (e:H a=some (.tup xs)):i4 K H (.ref a) (.type "tuple")
 |dK {a:Addr} {kvs:List (Key×V)} (e:H a=some (.dK kvs)):i4 K H (.ref a) (.type "dict")
 |dT {a:Addr} {kvs:List (List Key×V)} (e:H a=some (.dT kvs)):i4 K H (.ref a) (.type "dict")
 |ins {a C dx:Addr} {fs:List (Str×V)} (e:H a=some (.ins C dx fs)) (cl:Cls K C) (ha:PySem.W.findIn K (.ref C) "__class__" = some (some (.builtin "object.__class__")))
   (hn:PySem.W.specialIn K (.builtin "object.__class__") "__get__" = some (some (.builtin "getset_descriptor.__get__"))) (htk:PySem.W.takesIn K (.builtin "object.__class__")=some true)
   (hm:PySem.W.mroIn K C (.type "object")=some true):i4 K H (.ref a) (.ref C)
end
structure aX(k:Nat)(A:Around):Prop where
 hd:A.handled=none
 dp:A.depth+3*k+5<recursionLimit
 un:A.units+16*k+200<cLine
theorem aX.mono{j k:Nat}{A:Around}(r:aX k A)(h:j<=k):aX j A:=⟨r.hd,by have:=r.dp;omega,by have:=r.un;omega⟩
theorem aX.deeper{k:Nat}{A:Around}(r:aX (k+1) A)(env:Env):aX k (A.deeper env) :=
 ⟨r.hd,by have:=r.dp;show A.depth+1+3*k+5<_;omega,by have:=r.un;show A.units+3+16*k+200<_;omega⟩
theorem y4 {A:Around} {C:Addr} {us:yad} {kw:List (Str×Value)}:(A.under (.builtin "type.__call__" ⟨.ref C::us,kw⟩)).depth=A.depth+1:=by
 first|rfl|simp[Around.under,Code.weight,Code.isCreation,Code.isGuard,Code.isCaller,Code.frames,Code.isFrame,guardIds]
theorem y6 {A:Around} {C:Addr} {us:yad} {kw:List (Str×Value)}:(A.under (.builtin "type.__call__" ⟨.ref C::us,kw⟩)).units=A.units+1:=by
 first|rfl|simp[Around.under,Code.cUnits,Code.frames,Code.isFrame]
theorem aX.make {k:Nat} {A:Around} (r:aX (k+1) A) (C:Addr) (us:yad) (kw:List (Str×Value)):aX k (A.under (.builtin "type.__call__" ⟨.ref C::us,kw⟩)) :=
 ⟨r.hd,by have:=r.dp;rw[y4];omega,by have:=r.un;rw[y6];omega⟩
theorem aX.depth{k:Nat}{A:Around}(r:aX k A):A.depth<recursionLimit:=by have:=r.dp;omega
theorem aX.units{k:Nat}{A:Around}(r:aX k A):A.units+64<cLine:=by have:=r.un;omega
def nB:TA:=fun _ H Q=>Q [] H
def j2(ta:TE)(tr:TA):TA:=fun σ H Q=>ta σ H fun x H1=>tr σ H1 fun xs H2=>Q (x::xs) H2
section
variable{X:Cx}{e:Expr}{es:yai}{te:TE}{t:TA}{pos:Pos}
theorem cB:PA X [] nB:=fun _ _ _ _ H Q I h=>Calls.spliced_nil ⟨[],H,I,.nil,h⟩
theorem bI(ha:PE X e te)(hr:PA X es t)(hs:starEach (e::es) X.env=(false,eval e X.env)::starEach es X.env:=by rfl):PA X (e::es) (j2 te t):=by intro pos pins s σ H Q I h;rw[hs];show wpAny _ _ (spliced ((false,eval e X.env)::backTo pos (starEach es X.env))) _ _ s;refine Calls.spliced_cons (LS (ha pins s σ H _ I h) fun u s1 ⟨x,H1,I1,r1,q1⟩=>?_);exact LS (hr pos pins s1 σ H1 _ I1 q1) fun us s2 ⟨xs,H2,I2,r2,q2⟩=>⟨x::xs,H2,I2,.cons r1 r2,q2⟩
def Lw(t:TA):TE:=fun σ H Q=>t σ H fun xs H1=>xs.length<=sizeLine/\∀p,H1 p=none->Q (.ref p) (upd H1 p (.lst xs))
theorem wb(h:PA X es t):PE X (.List es pos) (Lw t):=by intro pins s σ H Q I hq;refine wpAny_List_spliced (LS (h pos pins s σ H _ I hq) fun us s1 ⟨xs,H1,I1,r,z,q⟩=>⟨by rw[<- r.length];exact z,?_⟩);have hf:H1 s1.heap.objs.size=none:=I1.Nw.fresh (O2 _);refine⟨.ref s1.heap.objs.size,upd H1 s1.heap.objs.size (.lst xs),I1.laid (t':=s1.toks) (fun b u e=>P7 _ e) (O2 _) ?_,rfl,q _ hf⟩;exact⟨z,us,0,r,Rm _ rfl⟩
end
abbrev Sp:=yar->Hp->VK->XK->Prop
abbrev CXT:=List Env->Hp->Shared->XK->yaa
structure mz(P:Program)(w:World)(K:yac)(mg:yam)(base:Heap)(A:Around)(outer:List Env)(s:Shared)(H:Hp):Prop where
 frames:A.frames=some outer
 mod:Mod K mg base
 bs:∀b o,base.get? b=some o->s.heap.get? b=some o/\H b=none
 V7:base.objs.size<=s.heap.objs.size
 Rf:s.heap.FunFrames base outer
 Wl:∀b∈RM outer,H b=none
 Nw:Rc P w H s.heap
 bare:AllBare s.gens
def CE(outer:List Env)(P:Program)(w:World)(H:Hp)(s:Shared)(Q:VK)(u:Value)(s':Shared):Prop :=
 ∃ v H',s'.os=s.os/\AllBare s'.gens/\Un (RM outer) [] H H' s.heap s'.heap/\Rc P w H' s'.heap/\RelV v u/\Q v H'
def CR(CX:CXT)(outer:List Env)(P:Program)(w:World)(H:Hp)(s:Shared)(Q:VK)(E:XK)(r:Result)(s':Shared):Prop :=
 match r with
 |.ok (.ret u)=>CE outer P w H s Q u s'
 |.ok _=>False
 |.error e=>CX outer H s E e s'
structure aE(P:Program)(w:World)(K:yac)(mg:yam)(base:Heap)(CX:CXT)(k:Nat)(f:Addr)(fd:FuncData)(ps:yah)(sp:Sp):Prop where
 len:∀vs H Q E,sp vs H Q E->vs.length=ps.length
 run:∀(A:Around) (outer:List Env) (s:Shared) (H:Hp) (args:Args) (us:yad) (vs:yar) (Q:VK) (E:XK),aX k A->mz P w K mg base A outer s H->BindsTo s fd args (ps.zip us)->Vals vs us->sp vs H Q E →
  codeAny (model P w) A (.call (.ref f) args) (CR CX outer P w H s Q E) s
theorem aE.imp{P:Program}{w:World}{K:yac}{mg:yam}{base:Heap}{CX:CXT}{k:Nat}{f:Addr}{fd:FuncData}{ps:yah}{sp VG:Sp}(F:aE P w K mg base CX k f fd ps sp)
  (h:∀vs H Q E,VG vs H Q E->sp vs H Q E):aE P w K mg base CX k f fd ps VG :=
 ⟨fun vs H Q E q=>F.len vs H Q E (h _ _ _ _ q),fun A outer s H args us vs Q E hr he hb hv hs=>F.run A outer s H args us vs Q E hr he hb hv (h _ _ _ _ hs)⟩
theorem mz.make{P:Program}{w:World}{K:yac}{mg:yam}{base:Heap}{A:Around}{outer:List Env}{s:Shared}{H:Hp}(e:mz P w K mg base A outer s H)(C:Addr)(us:yad)(kw:List (Str×Value)) :
  mz P w K mg base (A.under (.builtin "type.__call__" ⟨.ref C::us,kw⟩)) outer s H:=⟨by first|exact e.frames|(simpa [Around.under,Code.envs,Code.isFrame,pushEnvs]using e.frames),e.mod,e.bs,e.V7,e.Rf,e.Wl,e.Nw,e.bare⟩
section
variable{X:Cx}{pins:yab}{σ:St}{H:Hp}{s s':Shared}
theorem Inv.Xq(I:Inv X pins σ H s):mz X.prog X.w X.K X.mg X.base X.A X.stack s H :=
 ⟨I.ok.frames,I.ok.mod,I.bs,Sw I.ok.V7 I.sz,I.stack,I.Sx,I.Nw,I.bare⟩
theorem Inv.after{Q:VK}{u:Value}(I:Inv X pins σ H s)(h:CE X.stack X.prog X.w H s Q u s'):EP X pins σ Q u s':=by obtain⟨v,H',os,bare,un,Nw,r,q⟩:=h;obtain⟨hh,g,d,t,os'⟩:=s';obtain rfl:os'=s.os:=os;exact⟨v,H',I.call (h':=hh) (g':=g) (d':=d) (t':=t) (ch:=[]) un Nw bare (fun b z=>absurd z (by simp)),r,q⟩
end
def D3(sp:Sp)(Tj:yar)(E:XK)(t:TA):TE:=fun σ H Q=>t σ H fun vs H1=>sp (vs++Tj) H1 Q E
def rq(C:Addr)(m:Str)(sp:Sp)(Tj:yar)(E:XK)(ta:TE)(t:TA):TE:=fun σ H Q=>ta σ H fun x H1=>∃a dx fs,x=.ref a/\H1 a=some (.ins C dx fs)/\fs.lookup m=none ∧
 t σ H1 fun vs H2=>sp (x::(vs++Tj)) H2 Q E
def Kw(C:Addr)(sp:Sp)(Tj:yar)(E:XK)(t:TA):TE:=fun σ H Q=>t σ H fun vs H1=>∀x dx,H1 x=none->H1 dx=none->dx≠x →
 sp (.ref x::(vs++Tj)) (upd (upd H1 dx (.own x)) x (.ins C dx [])) (fun v H2=>v=.Nx/\Q (.ref x) H2) E
def Binds(K:yac)(fd:FuncData)(ps:yah)(ds:yad):Prop :=
 ∀ (s:Shared) (us:yad),K.In s.heap->(us++ds).length=ps.length->BindsTo s fd ⟨us,[]⟩ (ps.zip (us++ds))
theorem Binds.all{K:yac}{fd:FuncData}{ps:yah}(h:∀us:yad,us.length=ps.length->bindArgs fd ⟨us,[]⟩=pure (ps.zip us)):Binds K fd ps []:=fun s us _ hl=>by rw[V0]at hl ⊢;exact .of_eq (h us hl)
def Passes(CX:CXT)(X:Cx)(E:XK):Prop:=∀(pins:yab) (σ:St) (H:Hp) (s:Shared) (e:Value) (s':Shared),Inv X pins σ H s->CX X.stack H s E e s'->X.xe e s'
section
variable{X:Cx}{CX:CXT}{k:Nat}{f C:Addr}{fd:FuncData}{ps:yah}{sp:Sp}{Tj:yar}{ds:yad}{E:XK}{x m:Str}{p pos apos:Pos}{e o:Expr}{es:yai}{ta:TE}{t:TA}
theorem qO{pins:yab}{σ:St}{H:Hp}{s:Shared}{Q:VK}{us:yad}{vs:yar}(F:aE X.prog X.w X.K X.mg X.base CX k f fd ps sp)(hr:aX k X.A)(hb:Binds X.K fd ps ds)(hd:Vals Tj ds)(hx:Passes CX X E)
  (I:Inv X pins σ H s) (r:Vals vs us) (h:sp (vs++Tj) H Q E):wpAny (model X.prog X.w) X.A (call (.ref f) us) (EP X pins σ Q) X.xe s:=by
 have r2:Vals (vs++Tj) (us++ds):=r.append hd;have hl:(us++ds).length=ps.length:=by rw[<- r2.length];exact F.len _ _ _ _ h
 refine wpAny_call (codeAny_mono (F.run X.A X.stack s H ⟨us,[]⟩ (us++ds) (vs++Tj) Q E hr I.Xq (hb s us I.QI hl) r2 h) fun r s' hq=>?_);cases r with
 |error e=>exact hx pins σ H s e s' I hq
 |ok fl =>
  cases fl with
  |ret u=>exact I.after hq
  |next=>exact False.elim hq
  |brk=>exact False.elim hq
  |cont=>exact False.elim hq
theorem Fg(F:aE X.prog X.w X.K X.mg X.base CX k f fd ps sp)(hr:aX k X.A)(hg:Gl X x)(hm:X.mg x=some (.ref f))(hk:PySem.W.keepIn X.K (.ref f)=true)(hb:Binds X.K fd ps ds)(hd:Vals Tj ds)(hx:Passes CX X E)
  (ha:PA X (e::es) t) (PC:(x==("__debug__" : Str))=false:=by decide) (he:starEach (e::es) X.env=(false,eval e X.env)::starEach es X.env:=by rfl) (Qj:(backTo pos (starEach es X.env)).any (·.1)=false:=by rfl) :
  PE X (.Call (.Name x p) (e::es) [] pos) (D3 sp Tj E t):=by
 intro pins s σ H Q I h;refine Wh (cx I hg hm ?_ PC);refine PySem.W.callWith_K (h₀:=X.base) I.ok.mod.Uz hk (LS (ha pos pins s σ H _ I h) fun us s1 ⟨vs,H1,I1,r,q⟩=>⟨I1.QI,?_⟩) he Qj;exact qO F hr hb hd hx I1 r q
theorem Fh{pl:Sem Bool}(he:PE X o ta)(c:Cls X.K C)(hm:Meth X.K C m f)(F:aE X.prog X.w X.K X.mg X.base CX k f fd ps sp)(hr:aX k X.A)(hb:Binds X.K fd ps ds)(hd:Vals Tj ds)(hx:Passes CX X E)(ha:PA X (e::es) t)
  (Py:starEach (e::es) X.env=(false,eval e X.env)::starEach es X.env:=by rfl) (Qj:(backTo pos (starEach es X.env)).any (·.1)=false:=by rfl)
  (ht:eval (.Call (.Attribute o m apos) (e::es) [] pos) X.env=(do
   let ov←eval o X.env
   standAt apos.atName
   let (f,first)←holding [ov] (getMethod ov m pl)
   callWith pos f first (backTo pos (starEach (e::es) X.env)) (backToKw pos (keywordEach [] X.env))):=by rfl) :
  PE X (.Call (.Attribute o m apos) (e::es) [] pos) (rq C m sp Tj E ta t):=by
 intro pins s σ H Q I h;refine PySem.W.methodCall_KW (pl:=pl) (LS (he pins s σ H _ I h) fun u s1 ⟨x,H1,I1,rx,a,dx,fs,ex,ea,l,q⟩=>?_) ht;subst ex;obtain rfl:u=Value.ref a:=rx;refine dY I1 ea c hm l ?_;refine PySem.W.callWith_K (first:=[.ref a]) (h₀:=X.base) I.ok.mod.Uz hm.kp (LS (ha pos pins s1 σ H1 _ I1 q) fun us s2 ⟨vs,H2,I2,r,q2⟩=>⟨I2.QI,?_⟩) Py Qj;exact qO (us:=.ref a::us) (vs:=.ref a::vs) F hr hb hd hx I2 (.cons rfl r) q2
theorem CK{pl:Sem Bool}(he:PE X o ta)(c:Cls X.K C)(hm:Meth X.K C m f)(F:aE X.prog X.w X.K X.mg X.base CX k f fd ps sp)(hr:aX k X.A)(hb:Binds X.K fd ps ds)(hd:Vals Tj ds)(hx:Passes CX X E)
  (ht:eval (.Call (.Attribute o m apos) [] [] pos) X.env=(do
   let ov←eval o X.env
   standAt apos.atName
   let (f,first)←holding [ov] (getMethod ov m pl)
   callWith pos f first (backTo pos (starEach [] X.env)) (backToKw pos (keywordEach [] X.env))):=by rfl) :
  PE X (.Call (.Attribute o m apos) [] [] pos) (rq C m sp Tj E ta nB):=by
 intro pins s σ H Q I h;refine PySem.W.methodCall_KW (pl:=pl) (LS (he pins s σ H _ I h) fun u s1 ⟨x,H1,I1,rx,a,dx,fs,ex,ea,l,q⟩=>?_) ht;subst ex;obtain rfl:u=Value.ref a:=rx;refine dY I1 ea c hm l ?_;exact PySem.W.callWith_K0 (first:=[.ref a]) I1.QI hm.kp (qO (us:=[.ref a]) (vs:=[.ref a]) F hr hb hd hx I1 (.cons rfl .nil) q)
structure Mk(K:yac)(C f:Addr):Prop where
 makes:PySem.W.makesIn K C=true
 init:PySem.W.findIn K (.ref C) "__init__" = some (some (.ref f))
 fn:PySem.W.isFn K (.ref f)=true
 kp:PySem.W.keepIn K (.ref C)=true
theorem C0{pins:yab}{σ:St}{H:Hp}{s:Shared}{Q:VK}{us:yad}{vs:yar}(M:Mk X.K C f)(F:aE X.prog X.w X.K X.mg X.base CX k f fd ps sp)(hr:aX (k+1) X.A)(hb:Binds X.K fd ps ds)(hd:Vals Tj ds)
  (hx:Passes CX X E) (I:Inv X pins σ H s) (r:Vals vs us)
  (h:∀x dx,H x=none->H dx=none->dx≠x->sp (.ref x::(vs++Tj)) (upd (upd H dx (.own x)) x (.ins C dx [])) (fun v H2=>v=.Nx/\Q (.ref x) H2) E) :
  wpAny (model X.prog X.w) X.A (call (.ref C) us) (EP X pins σ Q) X.xe s:=by
 have hq:=h (s.heap.objs.size+1) s.heap.objs.size (I.Nw.fresh (Nat.le_succ _)) (I.Nw.fresh (O2 _)) (Sn (Nat.lt_succ_self _));have I2:=Inv.made (C:=C) I;have r2:Vals (V.ref (s.heap.objs.size+1)::(vs++Tj)) (Value.ref (s.heap.objs.size+1)::(us++ds)):=.cons rfl (r.append hd);have hl:(Value.ref (s.heap.objs.size+1)::us++ds).length=ps.length:=by have e:=r2.length;rw[F.len _ _ _ _ hq]at e;exact e.symm
 refine wpAny_call (Cv (f:=f) I.QI M.makes M.init (beq_iff_eq.mp M.fn) (codeAny_mono (F.run _ X.stack _ _ ⟨Value.ref (s.heap.objs.size+1)::us,[]⟩ (Value.ref (s.heap.objs.size+1)::(us++ds)) _ _ E (hr.make C us [])
  (I2.Xq.make C us []) (hb _ (Value.ref (s.heap.objs.size+1)::us) I2.QI hl) r2 hq) fun r s' U5=>?_))
 cases r with
 |error e=>exact hx pins σ _ _ e s' I2 U5
 |ok fl =>
  cases fl with
  |ret u =>
   obtain⟨v,H',I3,rv,ev,q3⟩:=I2.after U5;subst ev;exact⟨rv,⟨V.ref (s.heap.objs.size+1),H',I3,rfl,q3⟩⟩
  |next=>exact False.elim U5
  |brk=>exact False.elim U5
  |cont=>exact False.elim U5
theorem CJ(M:Mk X.K C f)(F:aE X.prog X.w X.K X.mg X.base CX k f fd ps sp)(hr:aX (k+1) X.A)(hg:Gl X x)(hm:X.mg x=some (.ref C))(hb:Binds X.K fd ps ds)(hd:Vals Tj ds)(hx:Passes CX X E)
  (PC:(x==("__debug__" : Str))=false:=by decide):PE X (.Call (.Name x p) [] [] pos) (Kw C sp Tj E nB):=by
 intro pins s σ H Q I h;refine Wh (cx I hg hm ?_ PC);exact PySem.W.callWith_K0 I.QI M.kp (C0 (us:=[]) M F hr hb hd hx I .nil h)
end
section
variable{X:Cx}{CX:CXT}{k:Nat}{f C:Addr}{fd:FuncData}{ps ks:yah}{sp:Sp}{E:XK}{x m:Str}{p pos apos kpos:Pos}{e o:Expr}{es:yai}{Sf:List Keyword}{te ta:TE}{t tk:TA}{nm:Option Str}
structure LA(K:yac)(fd:FuncData)(ps ks:yah)(g:yad->yad->yad)(gV:yar->yar->yar):Prop where
 to:∀(s:Shared) (us ws:yad),K.In s.heap->(g us ws).length=ps.length->BindsTo s fd ⟨us,ks.zip ws⟩ (ps.zip (g us ws))
 rel:∀{vs:yar} {us:yad} {zs:yar} {ws:yad},Vals vs us->Vals zs ws->Vals (gV vs zs) (g us ws)
variable{g:yad->yad->yad}{gV:yar->yar->yar}
end
structure aw(N P:yah)(sc:Scope):Prop where
 kind:sc.kind=.function
 co:sc.isCoroutine=false
 gen:sc.isGenerator=false
 nd:N.Nodup
 pre:N.take P.length=P
 par:∀x∈P,sc.names.lookup x=some .local∨sc.names.lookup x=some .cell
 Yw:∀y∈sc.names,y.2 ≠ .free
theorem tw{kindOf:Str->Option NameKind}{x:Str}:∀{binds:List (Str×Value)} {m:yam},(∀v,(x,v)∉binds)->bindL kindOf binds m x=m x
 |[],_,_=>rfl
 |(n,v)::r,m,h=>by
  unfold bindL;rw[tw fun w hw=>h w (SD _ hw)];split
  ·have:x≠n:=by rintro rfl;exact h v Su
   simp[this]
  ·rfl
theorem tj{kindOf:Str->Option NameKind}{x:Str}:∀{binds:List (Str×Value)} {m:yam},(∀v,(x,v)∉binds)->bindC kindOf binds m x=m x
 |[],_,_=>rfl
 |(n,v)::r,m,h=>by
  unfold bindC;rw[tj fun w hw=>h w (SD _ hw)];split
  ·rfl
  ·have:x≠n:=by rintro rfl;exact h v Su
   simp[this]
theorem tu{kindOf:Str->Option NameKind}{x:Str}{v:Value}:∀{P:yah} {vs:yad} {i:Nat} {m:yam},P.Nodup->P[i]?=some x->vs[i]?=some v->kindOf x=some .local →
  bindL kindOf (P.zip vs) m x=some v
 |[],_,_,_,_,h,_,_=>by simp at h
 |_::_,[],_,_,_,_,h,_=>by simp at h
 |p::P,w::vs,0,m,nd,h1,h2,hk=>by simp at h1 h2;subst h1;subst h2;show bindL kindOf ((p,w)::P.zip vs) m p=_;unfold bindL;rw[tw fun v hv=>(List.nodup_cons.mp nd).1 (Zs hv).1,LX hk];simp
 |p::P,w::vs,i+1,m,nd,h1,h2,hk=>by show bindL kindOf ((p,w)::P.zip vs) m x=_;unfold bindL;exact tu (i:=i) (List.nodup_cons.mp nd).2 (by simpa using h1) (by simpa using h2) hk
theorem tf{kindOf:Str->Option NameKind}{x:Str}{v:Value}:∀{P:yah} {vs:yad} {i:Nat} {m:yam},P.Nodup->P[i]?=some x->vs[i]?=some v->kindOf x≠some .local →
  bindC kindOf (P.zip vs) m x=some v
 |[],_,_,_,_,h,_,_=>by simp at h
 |_::_,[],_,_,_,_,h,_=>by simp at h
 |p::P,w::vs,0,m,nd,h1,h2,hk=>by simp at h1 h2;subst h1;subst h2;show bindC kindOf ((p,w)::P.zip vs) m p=_;unfold bindC;rw[tj fun v hv=>(List.nodup_cons.mp nd).1 (Zs hv).1,LO hk];simp
 |p::P,w::vs,i+1,m,nd,h1,h2,hk=>by show bindC kindOf ((p,w)::P.zip vs) m x=_;unfold bindC;exact tf (i:=i) (List.nodup_cons.mp nd).2 (by simpa using h1) (by simpa using h2) hk
def start(N:yah)(vs:yar):St:=vs.map some++List.replicate (N.length - vs.length) none
def bM(CX:CXT)(P:Program)(w:World)(K:yac)(mg:yam)(base:Heap)(N:yah)(qual:Str)(scope:Scope)(f:Addr)(cd:Value)(A:Around)(outer:List Env)(s:Shared)(H:Hp)(E:XK):Cx where
 prog:=P
 w:=w
 K:=K
 mg:=mg
 base:=base
 A:=A.deeper (envOfC qual scope s.heap.objs.size f cd)
 N:=N
 MY:=s
 H₀:=H
 env:=envOfC qual scope s.heap.objs.size f cd
 outer:=outer
 stack:=envOfC qual scope s.heap.objs.size f cd::outer
 ex:=[]
 calm:=true
 fn:=fun _=>true
 pn:=[]
 xe:=fun e s'=>wpAny (model P w) (A.deeper (envOfC qual scope s.heap.objs.size f cd)) (leaving (envOfC qual scope s.heap.objs.size f cd) e) (fun _ T2=>CX outer H s E e T2) (fun e' T2=>CX outer H s E e' T2) s'
theorem vm{sc:Scope}{n:Nat}{x:Str}(h:sc.names.lookup x=some .cell):∃c,(cellsFrom n sc.names []).lookup x=some c:=by have q:=PySem.W.cellsFrom_some sc.names n [] (.inl h);exact Option.isSome_iff_exists.mp q
theorem mP{CX:CXT}{P:Program}{w:World}{K:yac}{mg:yam}{base:Heap}{N ps:yah}{qual:Str}{scope:Scope}{f:Addr}{cd:Value}{A:Around}{outer:List Env}{s s1:Shared}{H:Hp}{E:XK}{us:yad}{vs:yar}
  (S:aw N ps scope) (hd:A.handled=none) (e0:mz P w K mg base A outer s H) (hl:vs.length=ps.length) (r:Vals vs us)
  (x:InCallC s s.heap.objs.size (bindL (envOfC qual scope s.heap.objs.size f cd).kindOf (ps.zip us) fun _=>none) (cellsFrom (s.heap.objs.size+1) scope.names []) (bindC (envOfC qual scope s.heap.objs.size f cd).kindOf (ps.zip us) fun _=>none) s1) :
  Inv (bM CX P w K mg base N qual scope f cd A outer s H E) [] (start N vs) H s1:=by
 have Qj:ps.length<=N.length:=by have:=congrArg List.length S.pre;rw[Uq]at this;omega
 obtain⟨h1,tk,rfl,hk⟩:=x.done;have noA:∀b:Addr,b∉(bM CX P w K mg base N qual scope f cd A outer s H E).ex:=fun b z=>absurd (show b∈([]:yae)from z) (by simp)
 refine⟨⟨e0.mod,S.kind,rfl,rfl,O2 _,fun y z c h1 h2=>?_,fun y hy=>?_,fun y c _ h=>?_,fun _=>hd,Around.frames_deeper e0.frames,.inr ⟨rfl,rfl⟩,fun b z=>absurd z (noA b),e0.bs,e0.V7,fun b _ _=>noA b,fun b z=>absurd z (noA b),e0.Rf,e0.Wl⟩,
  rfl,e0.bare,Un.kept hk,⟨_,x.toInCall.ns,fun i y v h1 h2 h3=>?_⟩,fun y c h=>⟨_,x.cell y c h⟩,e0.Nw.fresh (O2 _),fun y c h=>?_,fun p hp=>absurd (show p∈([]:yab)from hp) (by simp),e0.Nw.kept hk,?_⟩
 ·exact name_of_addr x.apart (PySem.mem_of_lookup h1) (PySem.mem_of_lookup h2)
 ·have hy:scope.names.lookup y=some .cell∨scope.names.lookup y=some .free:=hy;rcases hy with hy|hy
  ·exact vm hy
  ·exact absurd rfl (S.Yw _ (PySem.mem_of_lookup hy))
 ·exact Nat.le_of_lt (x.above y c (PySem.mem_of_lookup h))
 ·have hi:i<vs.length:=by
   unfold start at h2;by_cases hi:i<vs.length
   ·exact hi
   ·rw[Xh (by simpa using hi)]at h2;rw[Zl]at h2;split at h2<;>cases h2
  have ha:vs[i]?=some v:=by
   unfold start at h2;rw[XY (by simpa using hi),Td]at h2;cases e:vs[i]? with
   |none=>rw[e]at h2;cases h2
   |some a=>rw[e]at h2;cases h2;rfl
  obtain⟨u,hu,rv⟩:=r.get ha;have hp:ps[i]?=some y:=by rw[<- S.pre,List.getElem?_take_of_lt (by omega)];exact h1
  have ndP:ps.Nodup:=by rw[<- S.pre];exact S.nd.sublist (List.take_sublist _ _)
  refine⟨u,rv,?_⟩;rcases S.par y (Xj hp)with k|k
  ·exact .inl ⟨k,tu ndP hp hu k⟩
  ·obtain⟨c,e⟩:=vm (n:=s.heap.objs.size+1) k;refine .inr ⟨.inl k,c,e,?_⟩;have q:=x.cell y c e;rw[tf ndP hp hu (by show scope.names.lookup y≠_;rw[k];decide)]at q;exact q
 ·exact e0.Nw.fresh (Nat.le_of_lt (x.above y c (PySem.mem_of_lookup h)))
 ·unfold start;show _=N.length;rw[Q7,Ph,List.length_replicate];omega
theorem nR{CX:CXT}{P:Program}{w:World}{K:yac}{mg:yam}{base:Heap}{k:Nat}{f:Addr}{name qual:Str}{params:Arguments}{body:yal}{scope:Scope}{dV kV doc pm cdv ct oc:Value}{an od:Option Addr}
  {Us:Array (yan)} {N ps:yah} {sp:Sp} (lk:K.lookup f=some ⟨oc,od,.func (PySem.W.fnOf name qual params body scope dV kV doc pm an cdv ct),Us⟩) (RN:PySem.W.codeIn K cdv qual=true) (S:aw N ps scope)
  (len:∀vs H Q E,sp vs H Q E->vs.length=ps.length)
  (PF:∀(A:Around) (outer:List Env) (s:Shared) (H:Hp) (vs:yar) (Q:VK) (E:XK),aX k (A.deeper (envOfC qual scope s.heap.objs.size f cdv))->sp vs H Q E →
   ∃ t,UT (bM CX P w K mg base N qual scope f cdv A outer s H E) body t/\t {nx:=fun _ H'=>Q .Nx H',rt:=Q} (start N vs) H) :
  aE P w K mg base CX (k+1) f (PySem.W.fnOf name qual params body scope dV kV doc pm an cdv ct) ps sp:=by
 refine⟨len,fun A outer s H args us vs Q E hr e0 hb r Ut=>?_⟩;have hl:=len _ _ _ _ Ut;have KX:K.In s.heap:=e0.mod.Uz.keeps fun b o e=>(e0.bs b o e).1
 have lim:s.heap.NoLimit:=e0.mod.nolimit.keeps fun b o e=>(e0.bs b o e).1
 have UB:∀y∈ps.zip us,scope.names.lookup y.1=some .local∨(scope.names.lookup y.1=some .cell/\((cellsFrom (s.heap.objs.size+1) scope.names []).lookup y.1).isSome=true):=fun⟨n,v⟩ hy=>by
  rcases S.par n (Zs hy).1 with q|q
  ·exact .inl q
  ·exact .inr ⟨q,PySem.W.cellsFrom_some _ _ _ (.inl q)⟩
 refine codeAny_call_function hr.depth (KX _ _ lk) rfl S.co S.gen rfl (PySem.W.codeRec_of KX RN) (hb _ _ _ _ ?_);refine wpAny_newFunctionEnv_cells S.kind UB fun env he s1 x=>?_
 subst he;refine⟨lim.keeps x.toInCall.keep,codeAny_func ?_⟩;obtain⟨t,ht,hq⟩:=PF A outer s H vs Q E (hr.deeper _) Ut;have I:Inv (bM CX P w K mg base N qual scope f cdv A outer s H E) [] (start N vs) H s1:=mP S hr.hd e0 hl r x;refine O3 (ht [] s1 (start N vs) H _ I hq) (fun fl s' hs=>?_) fun e s' hs=>hs
 have fin:∀{σ':St} {H':Hp} {v:V} {u:Value},Inv (bM CX P w K mg base N qual scope f cdv A outer s H E) [] σ' H' s'->RelV v u->Q v H'->CE outer P w H s Q u s' :=
  fun {σ' H' v u} J rv q=>⟨v,H',J.os,J.bare,J.base,J.Nw,rv,q⟩
 cases fl with
 |ret u =>
  obtain⟨v,σ',H',J,rv,q⟩:=hs;exact fin J rv q
 |next =>
  obtain⟨σ',H',J,q⟩:=hs;exact fin (v:=V.Nx) (u:=Value.none) J rfl q
 |brk =>
  obtain⟨_,_,_,q⟩:=hs;exact False.elim q
 |cont =>
  obtain⟨_,_,_,q⟩:=hs;exact False.elim q
section
variable{X:Cx}{x:Str}{p pos:Pos}{e:Expr}{es:yai}{t:TA}{id T:String}{r:yar->Hp->VK->Prop}
def tCB(r:yar->Hp->VK->Prop)(t:TA):TE:=fun σ H Q=>t σ H fun vs H1=>r vs H1 Q
theorem wa (hc:jN X (.builtin id) r) (hg:Gl X x) (hm:X.mg x=none) (hv:bootBuiltins x=some (.builtin id)) (ha:PA X (e::es) t) (hn:x ≠ "__name__" := by decide) (PC:(x==("__debug__" : Str))=false:=by decide)
  (he:starEach (e::es) X.env=(false,eval e X.env)::starEach es X.env:=by rfl) (Qj:(backTo pos (starEach es X.env)).any (·.1)=false:=by rfl):PE X (.Call (.Name x p) (e::es) [] pos) (tCB r t):=by
 intro pins s σ H Q I h;refine Wh (dI I hg hm hv ?_ hn PC);exact PyProof.Rows.callWith_builtin1 (LS (ha pos pins s σ H _ I h) fun us s1 ⟨vs,H1,I1,r1,q1⟩=>hc pins s1 σ H1 vs us Q I1 r1 q1) he Qj
end
end L2
namespace HT
open PySem PyProof.Rows
section
open PySem.SeqAt
open PySem.AutoSeq1 (wpAny_loadPart')
open PySem.MeetsSeq PySem.MeetsSeq2 PySem.MeetsSeq3
end
section
variable{prog:Program}{w:World}{A:Around}{E:yaa}{s:Shared}
def Sg(n d:Nat):yaq->Nat
 |none=>d
 |some v=>if v<0 then(v+(n:Int)).toNat else min v.toNat n
theorem pL(n d:Nat):Sg n d none=d:=rfl
theorem yw(n d k:Nat):Sg n d (some (k:Int))=min k n:=by show(if(k:Int)<0 then((k:Int)+(n:Int)).toNat else min (k:Int).toNat n)=min k n;rw[LO (by omega),ZU]
end
end HT
namespace L2
open PySem PySem.Spec PyProof.Rows
abbrev TO:=St->Hp->(yaq->Hp->Prop)->Prop
def PO(X:Cx)(e:Option Expr)(t:TO):Prop :=
 ∀ (pins:yab) (s:Shared) (σ:St) (H:Hp) (Q:yaq->Hp->Prop),Inv X pins σ H s->t σ H Q →
  wpAny (model X.prog X.w) X.A (evalPart e X.env) (fun u s'=>∃o H',Inv X pins σ H' s'/\IsPart u o/\Q o H') X.xe s
def FP:TO:=fun _ H Q=>Q none H
def Ky(t:TE):TO:=fun σ H Q=>t σ H fun x H1=>∃i,x=.int i/\Q (some i) H1
section
variable{X:Cx}{e:Expr}{te:TE}{lo hi:Option Expr}{tl th:TO}{pos p2:Pos}
theorem Fj:PO X none FP:=by intro pins s σ H Q I h;rw[evalPart_none];exact OQ ⟨none,H,I,.none,h⟩
theorem Fm(h:PE X e te):PO X (some e) (Ky te):=by
 intro pins s σ H Q I hw;rw[evalPart_some];refine LS (h pins s σ H _ I hw) fun u s1 ⟨x,H1,I1,r1,q1⟩=>?_
 obtain⟨i,rfl,q⟩:=q1;obtain⟨t,rfl⟩:=r1;exact⟨some i,H1,I1,.int i t,q⟩
def SlR(X:Cx)(r:V->yaq->yaq->Hp->VK->Prop):Prop :=
 ∀ (pins:yab) (s:Shared) (σ:St) (H:Hp) (x:V) (v vl vu:Value) (lo hi:yaq) (sl:Addr) (Q:VK),Inv X pins σ H s->RelV x v->s.heap.IsSliceOf sl vl vu .none->IsPart vl lo->IsPart vu hi->r x lo hi H Q →
  ∃ T id,typeLookup (.type T) "__getitem__" = pure (some (.builtin id))/\s.TypeIs v T/\wpAny (model X.prog X.w) X.A (getItem v (.ref sl)) (EP X pins σ Q) X.xe s
def tSl(r:V->yaq->yaq->Hp->VK->Prop)(te:TE)(tl th:TO):TE:=fun σ H Q=>te σ H fun x H1=>tl σ H1 fun l H2=>th σ H2 fun u H3=>r x l u H3 Q
theorem CL{r:V->yaq->yaq->Hp->VK->Prop}(hr:SlR X r)(he:PE X e te)(hl:PO X lo tl)(hu:PO X hi th):PE X (.Subscript e (.Slice lo hi none p2) pos) (tSl r te tl th):=by
 intro pins s σ H Q I h;refine Subscript_ (LS (he pins s σ H _ I h) fun v s1 ⟨x,H1,I1,r1,q1⟩=>?_);refine wpAny_Slice (LS (hl pins s1 σ H1 _ I1 q1) fun vl s2 ⟨l,H2,I2,pl,q2⟩=>LS (hu pins s2 σ H2 _ I2 q2) fun vu s3 ⟨u,H3,I3,pu,q3⟩=>?_);rw[evalPart_none];refine OQ ?_;have I4:Inv X pins σ H3 {s3 with heap:=s3.heap.push {cls:=.type "slice", data:=.fields #[vl,vu,.none]} }:=I3.kept (t':=s3.toks) fun b ob q=>P7 _ q
 obtain⟨T,id,hT,ht,hg⟩:=hr pins {s3 with heap:=s3.heap.push {cls:=.type "slice", data:=.fields #[vl,vu,.none]} } σ H3 x v vl vu l u s3.heap.objs.size Q I4 r1 (Heap.IsSliceOf.new ..) pl pu q3;show wpAny (model X.prog X.w) X.A (subscriptTail e (.Slice lo hi none p2) v (.ref s3.heap.objs.size)) (EP X pins σ Q) X.xe {s3 with heap:=s3.heap.push {cls:=.type "slice", data:=.fields #[vl,vu,.none]} };exact tail_any (ops:=[.ref s3.heap.objs.size,v]) ht hT hg (by with_unfolding_all rfl)
def ib(xs:yar)(lo hi:yaq):yar:=(xs.drop (HT.Sg xs.length 0 lo)).take (HT.Sg xs.length xs.length hi - HT.Sg xs.length 0 lo)
theorem oI(xs:yar)(lo hi:yaq):(ib xs lo hi).length<=xs.length:=by unfold ib;rw[Uq,WZ];omega
end
def ixN(n:Nat)(i:Int):Option Nat:=if 0<=i then(if i<n then some i.toNat else none)else if -(n:Int)<=i then some (i+n).toNat else none
def Rp{α:Type}(xs:List α)(i:Int):Option α:=(ixN xs.length i).bind fun j=>xs[j]?
theorem EN{n:Nat}{i:Int}{j:Nat}(h:ixN n i=some j):seqIndex? i n=some j/\j<n/\-(n:Int)<=i/\i<n:=by
 unfold ixN at h;by_cases h0:0<=i
 ·rw[LX h0]at h;by_cases h1:i<n
  ·rw[LX h1]at h;have e:i.toNat=j:=UQ h;exact⟨by rw[seqIndex_of h0 h1,e],by omega,by omega,h1⟩
  ·rw[LO h1]at h;cases h
 ·rw[LO h0]at h;by_cases h1:-(n:Int)<=i
  ·rw[LX h1]at h;have e:(i+n).toNat=j:=UQ h;exact⟨by rw[seqIndex_neg (by omega) h1,e],by omega,h1,by omega⟩
  ·rw[LO h1]at h;cases h
theorem rF{α:Type}{xs:List α}{i:Int}{v:α}(h:Rp xs i=some v):∃j,seqIndex? i xs.length=some j/\xs[j]?=some v/\j<xs.length/\-(xs.length:Int)<=i/\i<xs.length:=by
 unfold Rp at h;cases e:ixN xs.length i with
 |none=>rw[e]at h;cases h
 |some j =>
  rw[e]at h;obtain⟨h1,h2,h3,h4⟩:=EN e;exact⟨j,h1,h,h2,h3,h4⟩
theorem cT{α:Type}{xs:List α}{j:Nat}{v:α}(h:xs[j]?=some v):Rp xs (j:Int)=some v:=by
 have hj:j<xs.length:=(U3.mp h).1;have e:ixN xs.length (j:Int)=some j:=by unfold ixN;rw[LX (by omega),LX (by omega)];simp
 unfold Rp;rw[e];exact h
def xM(b:Expr):Prop:=∀o i,subscripted b false o i=operate [o,i] (getItem o i)
def IxR(X:Cx)(r:R2):Prop :=
 ∀ (value slice:Expr) (pins:yab) (s:Shared) (σ:St) (H:Hp) (x y:V) (v u:Value) (Q:VK),Inv X pins σ H s->RelV x v->RelV y u->r x y H Q →
  subscripted slice false v u=operate [v,u] (getItem v u)->wpAny (model X.prog X.w) X.A (subscriptTail value slice v u) (EP X pins σ Q) X.xe s
def MtR(X:Cx)(id:String)(r:V->yar->Hp->VK->Prop):Prop :=
 ∀ (pins:yab) (s:Shared) (σ:St) (H:Hp) (x:V) (xs:yar) (v:Value) (us:yad) (Q:VK),Inv X pins σ H s->RelV x v->Vals xs us->r x xs H Q →
  wpAny (model X.prog X.w) X.A (call (.builtin id) (v::us)) (EP X pins σ Q) X.xe s
section
variable{X:Cx}{a b:Expr}{ta tb:TE}{pos:Pos}
def Lh(K:yac):R2:=fun x y H Q=>∃p xs i v,x=.ref p/\y=.int i/\SqL K H p xs/\Rp xs i=some v/\Q v H
def Lk(K:yac):R2:=fun x y H Q=>∃p xs i v,x=.ref p/\y=.int i/\OM K H p xs/\Rp xs i=some v/\Q v H
def Lj:R2:=fun x y H Q=>∃z i c,x=.str z/\y=.int i/\z.length<=sizeLine/\Rp z.cps.toList i=some c/\Q (.str ⟨#[c]⟩) H
theorem EO:IxR X (Lh X.K):=by
 intro value slice pins s σ H x y v u Q I rx ry h hs;obtain⟨p,xs,i,z,rfl,rfl,hq,he,q⟩:=h;cases rx;obtain⟨t,rfl⟩:=ry;obtain⟨its,r,pl,hz⟩:=I.list hq;obtain⟨j,h1,h2,h3,h4,h5⟩:=rF he;obtain⟨w,ew,rw'⟩:=r.get h2;have hl:=r.length;have hn:=qB;have fin:EP X pins σ Q w s:=⟨z,H,I,rw',q⟩;by_cases h0:0<=i
 ·have hj:i.toNat=j:=by
   rw[seqIndex_of h0 h5]at h1;exact UQ h1
  exact item_listR pl.isList h0 (by omega) (by rw[hj];simpa using ew) fin hs
 ·have hj:(i+(its.toArray.size:Int)).toNat=j:=by
   rw[seqIndex_neg (by omega) h4]at h1;rw[Uo,<- hl];exact UQ h1
  exact subscriptTail_builtinR (x:=w) pl.isList.typeIs slot_list_getitem.lookup
   (wpAny_getItem_list_neg (Q:=fun r s'=>r=w/\EP X pins σ Q r s') pl.isList (by omega) (by rw[Uo]<;>omega) (by omega) (by rw[hj];simpa using ew) ⟨rfl,fin⟩) hs
theorem HL:IxR X (Lk X.K):=by
 intro value slice pins s σ H x y v u Q I rx ry h hs;obtain⟨p,xs,i,z,rfl,rfl,hq,he,q⟩:=h;cases rx;obtain⟨t,rfl⟩:=ry;obtain⟨its,r,pl,hz⟩:=I.tuple hq;obtain⟨j,h1,h2,h3,h4,h5⟩:=rF he;obtain⟨w,ew,rw'⟩:=r.get h2;have hl:=r.length;have hn:=qB;have fin:EP X pins σ Q w s:=⟨z,H,I,rw',q⟩;exact subscriptTail_builtinR (x:=w) pl.typeIs slot_tuple_getitem.lookup
  (getItem_tuple (j:=j) (Q:=fun r s'=>r=w/\EP X pins σ Q r s') pl (by omega) (by omega) (by rw[Uo,<- hl];exact h1) (by simpa using ew) ⟨rfl,fin⟩) hs
theorem HK:IxR X Lj:=by
 intro value slice pins s σ H x y v u Q I rx ry h hs;obtain⟨z,i,c,rfl,rfl,hz,he,q⟩:=h;obtain⟨t,rfl⟩:=rx;obtain⟨t',rfl⟩:=ry;obtain⟨j,h1,h2,h3,h4,h5⟩:=rF he;have hl:z.cps.toList.length=z.length:=by simp[Str.length]
 rw[hl]at h1 h4 h5;have hn:=qB;exact tail_any (Xl s z t) slot_str_getitem.lookup (getItem_str (c:=c) (by have e1:decide (i < -(2 ^ 63:Int))=false:=TL (by omega);have e2:decide (i≥2 ^ 63)=false:=TL (by omega);rw[e1,e2,Bool.or_false]) (by rw[h1];simpa using h2) ⟨.str ⟨#[c]⟩,H,I.tok _,⟨_,rfl⟩,q⟩) hs
theorem Inv.lst{pins:yab}{σ:St}{H:Hp}{s:Shared}{p:Addr}{xs:yar}(I:Inv X pins σ H s)(h:H p=some (.lst xs)) :
  ∃ (its:yad) (n:Nat),Vals xs its/\s.heap.get? p=some {cls:=.type "list", data:=.seq its.toArray n}/\xs.length<=sizeLine:=by
 obtain⟨z,its,n,r,e⟩:=I.Nw p _ h;exact⟨its,n,r,e,z⟩
theorem wH(lo hi:yaq)(n:Nat):(sliceBounds lo hi none n).1=((HT.Sg n 0 lo:Nat):Int)/\(sliceBounds lo hi none n).2.1=((HT.Sg n n hi:Nat):Int)/\(sliceBounds lo hi none n).2.2=1:=by
 refine⟨?_,?_,rfl⟩
 ·cases lo with
  |none=>simp[sliceBounds,HT.Sg]
  |some i =>
   simp only[sliceBounds,HT.Sg,Option.getD_none,show(1:Int) > 0 by decide,if_true];by_cases h:i<0
   ·simp only[h,if_true]<;>omega
   ·simp only[h,if_false]<;>omega
 ·cases hi with
  |none=>simp[sliceBounds,HT.Sg]
  |some i =>
   simp only[sliceBounds,HT.Sg,Option.getD_none,show(1:Int) > 0 by decide,if_true];by_cases h:i<0
   ·simp only[h,if_true]<;>omega
   ·simp only[h,if_false]<;>omega
theorem mr(its:yad)(lo hi:yaq):slicePick its.toArray lo hi none=((its.drop (HT.Sg its.length 0 lo)).take (HT.Sg its.length its.length hi - HT.Sg its.length 0 lo)).toArray:=by obtain⟨h1,h2,h3⟩:=wH lo hi its.toArray.size;unfold slicePick;rw[h1,h2,h3];simp only[sliceRange_one,pick_run,Uo]<;>rfl
def Lm(K:yac):V->yaq->yaq->Hp->VK->Prop:=fun x lo hi H Q=>∃a xs,x=.ref a/\SqL K H a xs/\∀p,H p=none->Q (.ref p) (upd H p (.lst (ib xs lo hi)))
theorem FG:SlR X (Lm X.K):=by intro pins s σ H x v vl vu lo hi sl Q I rx hs pl pu h;obtain⟨a,xs,rfl,hx,q⟩:=h;cases rx;obtain⟨its,r,ht,hz⟩:=I.list hx;have hlen:=r.length;refine⟨"list", _,slot_list_getitem.lookup,ht.isList.typeIs,?_⟩;refine wpAny_getItem_list_slice ht.isList hs pl pu .none (by simp) ?_ (by rw[Uo]<;>omega);rw[mr,<- hlen];refine⟨.ref s.heap.objs.size,_,I.laid (t':=s.toks) (o:=.lst (ib xs lo hi)) (fun b ob q=>P7 _ q) (O2 _) ?_,rfl,q _ (I.Nw.fresh (O2 _))⟩;exact⟨Sw (oI xs lo hi) hz,_,0,(r.drop (HT.Sg xs.length 0 lo)).take (HT.Sg xs.length xs.length hi - HT.Sg xs.length 0 lo),Rm _ rfl⟩
theorem i5:jN X (.builtin "len") (fun xs H Q=>∃p ys,xs=[.ref p]/\(SqL X.K H p ys∨OM X.K H p ys)/\Q (.int ys.length) H):=by
 intro pins s σ H xs us Q I r h;obtain⟨p,ys,rfl,hq,q⟩:=h;obtain⟨u,rfl,rx⟩:=vals1 r;cases rx;have hn:=qB;rcases hq with hq|hq
 ·obtain⟨its,r',pl,hz⟩:=I.list hq;have hlen:=r'.length;exact Calls.call_len_list pl.isList (by simp only[Uo]<;>omega) ⟨.int ys.length,H,I.tok _,⟨s.toks+1,by rw[Uo,hlen]⟩,q⟩
 ·obtain⟨its,r',pl,hz⟩:=I.tuple hq;have hlen:=r'.length;exact len_tuple pl (by simp only[Uo]<;>omega) ⟨.int ys.length,H,I.tok _,⟨s.toks+1,by rw[Uo,hlen]⟩,q⟩
theorem uh:jN X (.type "tuple") (fun xs H Q=>∃p ys,xs=[.ref p]/\((SqL X.K H p ys/\∀l,H l=none->Q (.ref l) (upd H l (.tup ys)))∨(OM X.K H p ys/\Q (.ref p) H))):=by
 intro pins s σ H xs us Q I r h;obtain⟨p,ys,rfl,h⟩:=h;obtain⟨u,rfl,rx⟩:=vals1 r;cases rx;rcases h with⟨hq,q⟩| ⟨hq,q⟩
 ·obtain⟨its,r',pl,hz⟩:=I.list hq;have hlen:=r'.length;refine call_tuple_list pl.isList (fun h' kp=>?_) (by simp only[Uo]<;>omega);have I1:Inv X pins σ H {s with heap:=h'}:=I.kept (t':=s.toks) kp;have I2:Inv X pins σ (upd H h'.objs.size (.tup ys)) {s with heap:=h'.push {cls:=.type "tuple", data:=.seq its.toArray} } :=
   I1.laid (t':=s.toks) (fun b o e=>P7 _ e) (O2 _) (show bQ X.prog X.w _ _ _ (.tup ys)from⟨hz,its,r',IsTup.new _ _⟩)
  exact⟨.ref h'.objs.size,_,I2,rfl,q _ (I1.Nw.fresh (O2 _))⟩
 ·obtain⟨its,r',pl,hz⟩:=I.tuple hq;exact call_tuple_same pl ⟨.ref p,H,I,rfl,q⟩
def W9(K:yac)(T:String)(x:V)(H:Hp):Prop:=match x with
 |.str _=>T = "str"
 |.int _=>T = "int"
 |.ref p=>(T = "list" /\∃xs,SqL K H p xs)∨(T = "tuple" /\∃o,K.lookup p=some o/\o.cls=.type "tuple" /\ o.dict=none) ∨
   (T = "dict" /\ ((∃kvs,H p=some (.dK kvs))∨∃ kvs,H p=some (.dT kvs)))∨(T = "set" /\∃S n,H p=some (.set S n))
 |_=>False
theorem Bv{pins:yab}{σ:St}{H:Hp}{s:Shared}{T:String}{x:V}{v:Value}(I:Inv X pins σ H s)(r:RelV x v)(ty:W9 X.K T x H) :
  s.TypeIs v T/\∀a,v=.ref a->∃ob,s.heap.get? a=some ob/\ob.dict=none:=by
 cases x with
 |str z =>
  obtain⟨t,rfl⟩:=r;cases(show T = "str" from ty);exact⟨Xl s z t,fun _ e=>nomatch e⟩
 |int i =>
  obtain⟨t,rfl⟩:=r;cases(show T = "int" from ty);exact⟨typeIs_int s i t,fun _ e=>nomatch e⟩
 |ref p =>
  cases r;rcases ty with⟨rfl,xs,hq⟩| ⟨rfl,o,hk,hc,hd⟩| ⟨rfl,hk⟩| ⟨rfl,S,n,hk⟩
  ·obtain⟨its,_,pl,_⟩:=I.list hq;refine⟨pl.isList.typeIs,fun a e=>?_⟩;cases e;obtain⟨o,n,e,c,hd,_⟩:=pl;exact⟨o,e,hd⟩
  ·refine⟨⟨o,I.QI p o hk,hc⟩,fun a e=>?_⟩;cases e;exact⟨o,I.QI _ o hk,hd⟩
  ·have z:∃o,s.heap.get? p=some o/\o.ExactDict:=by
    rcases hk with⟨kvs,hk⟩| ⟨kvs,hk⟩
    ·obtain⟨_,_,_,_,o,_,_,e,ex,_⟩:=I.Nw p _ hk;exact⟨o,e,ex⟩
    ·obtain⟨_,_,_,_,o,_,_,e,ex,_⟩:=I.Nw p _ hk;exact⟨o,e,ex⟩
   obtain⟨o,e,ex⟩:=z;refine⟨⟨o,e,ex.1⟩,fun a e2=>?_⟩;cases e2;exact⟨o,e,ex.2.1⟩
  ·obtain⟨o,_,_,_,e,ex,_⟩:=I.Nw p _ hk;refine⟨⟨o,e,ex.1⟩,fun a e2=>?_⟩;cases e2;exact⟨o,e,ex.2.1⟩
 |_=>exact False.elim ty
def Lu(K:yac)(T:String)(r:V->yar->Hp->VK->Prop)(to:TE):TE:=fun σ H Q=>to σ H fun x H1=>W9 K T x H1/\r x [] H1 Q
def tBM(K:yac)(T:String)(r:V->yar->Hp->VK->Prop)(to:TE)(t:TA):TE:=fun σ H Q=>to σ H fun x H1=>W9 K T x H1/\t σ H1 fun xs H2=>r x xs H2 Q
variable{o e:Expr}{es:yai}{to:TE}{t:TA}{name:Str}{apos M0:Pos}{T id:String}{r:V->yar->Hp->VK->Prop}
theorem IH (pa:PlainAttrs T) (slot:Slot T name id) (Z8:typeOf (.builtin id)=pure (.type "method_descriptor")) (hm:MtR X id r) (ho:PE X o to)
  (Po:attributeBase o name X.env (eval o X.env)=eval o X.env:=by rfl) (PH:(apos.endLine==M0.line)=true:=by rfl):PE X (.Call (.Attribute o name apos) [] [] M0) (Lu X.K T r to):=by
 intro pins s σ H Q I h;refine wpAny_Call_method0_late Po PH (LS (ho pins s σ H _ I h) fun v s1 ⟨x,H1,I1,r1,ty,q1⟩=>?_);obtain⟨h1,h2⟩:=Bv I1 r1 ty;exact⟨T,id,pa,slot,Z8,h1,h2,Calls.callWith_builtin rfl (PySem.evalArgs_none (hm pins s1 σ H1 x [] v [] Q I1 r1 .nil q1))⟩
theorem Kn (pa:PlainAttrs T) (slot:Slot T name id) (Z8:typeOf (.builtin id)=pure (.type "method_descriptor")) (hm:MtR X id r) (ho:PE X o to) (ha:PA X (e::es) t)
  (Po:attributeBase o name X.env (eval o X.env)=eval o X.env:=by rfl)
  (RZ:((backTo M0 (starEach (e::es) X.env)).all (fun x=>!x.1) && (backToKw M0 (keywordEach [] X.env)).all (fun x=>x.1.isSome)
   && decide ((e::es).length+([]:List Keyword).length+(if([]:List Keyword).isEmpty then 0 else 1)<30))=true:=by rfl)
  (PH:(apos.endLine==M0.line)=true:=by rfl) (hs:starEach (e::es) X.env=(false,eval e X.env)::starEach es X.env:=by rfl) (PJ:(backTo M0 (starEach es X.env)).any (·.1)=false:=by rfl) :
  PE X (.Call (.Attribute o name apos) (e::es) [] M0) (tBM X.K T r to t):=by
 intro pins s σ H Q I h;refine wpAny_Call_method_late Po RZ PH rfl (LS (ho pins s σ H _ I h) fun v s1 ⟨x,H1,I1,r1,ty,q1⟩=>?_);obtain⟨h1,h2⟩:=Bv I1 r1 ty;refine⟨T,id,pa,slot,Z8,h1,h2,?_⟩;have hA:=ha M0 pins s1 σ H1 _ I1 q1;rw[hs]at hA ⊢;refine Calls.callWith_builtin (by show(false || (backTo M0 (starEach es X.env)).any (·.1))=false;rw[PJ]<;>rfl) (Calls.evalArgs_plain ?_);exact LS hA fun us s2 ⟨vs,H2,I2,r2,q2⟩=>hm pins s2 σ H2 x vs v us Q I2 r1 r2 q2
end
def MtM(X:Cx)(id:String)(r:V->yar->Hp->VK->Prop):Prop :=
 ∀ (pins:yab) (s:Shared) (σ:St) (H:Hp) (x:V) (xs:yar) (v:Value) (us:yad) (Q:VK),Inv X pins σ H s->RelV x v->Vals xs us->r x xs H Q →
  wpAny (model X.prog X.w) X.A (call (.builtin id) (v::us)) (EP X pins σ Q) X.xe s
theorem Vals.one:∀{x:V} {us:yad},Vals [x] us->∃u,us=[u]/\RelV x u
 |_,_,.cons r .nil=>⟨_,rfl,r⟩
theorem Vals.zero:∀{us:yad},Vals [] us->us=[]
 |_,.nil=>rfl
theorem Vals.dropLast{xs:yar}{us:yad}(h:Vals xs us):Vals xs.dropLast us.dropLast:=by
 induction h with
 |nil=>exact .nil
 |cons r t ih =>
  cases t with
  |nil=>exact .nil
  |cons q t'=>exact .cons r ih
theorem yT{α:Type}(l:List α):l.eraseIdx (l.length - 1)=l.dropLast:=by
 induction l with
 |nil=>rfl
 |cons a r ih =>
  cases r with
  |nil=>rfl
  |cons b r =>
   have e:(a::b::r).length - 1=((b::r).length - 1)+1:=by have h1:(a::b::r).length=r.length+2:=rfl;have h2:(b::r).length=r.length+1:=rfl;omega
   rw[e,List.eraseIdx_cons_succ,ih]
   all_goals rfl
section
variable{X:Cx}{pins:yab}{σ:St}{H:Hp}{s:Shared}{l b:Addr}{xs ys zs:yar}
theorem Inv.Z9{its its':yad}{n:Nat}{f:yao->yao}{t':Nat}(I:Inv X pins σ H s)(hH:H l=some (.lst xs))
  (e:s.heap.get? l=some {cls:=.type "list", data:=.seq its.toArray n}) (hf:f its.toArray=its'.toArray) (hv:Vals ys its') (hz:ys.length<=sizeLine) :
  Inv X pins σ (upd H l (.lst ys)) {s with heap:=s.heap.update l (Obj.mapSeq f),toks:=t'}:=by
 have q:=PySem.IsL.update e f;rw[hf]at q;refine I.write (x:=l) (e:=l) (by rw[hH];exact trivial) (.inl rfl) (fun b' u hb hu=>(WX s.heap (Obj.mapSeq f) (Ne.symm hb)).trans hu) ⟨_,q⟩ ?_;exact⟨hz,its',_,hv,q⟩
theorem Inv.lnew{its:yad}{t':Nat}(I:Inv X pins σ H s)(hv:Vals ys its)(hz:ys.length<=sizeLine) :
  Inv X pins σ (upd H s.heap.objs.size (.lst ys)) {s with heap:=s.heap.push {cls:=.type "list", data:=.seq its.toArray},toks:=t'} :=
 I.laid (fun _ _ q=>P7 _ q) (O2 _) ⟨hz,its,0,hv,Rm _ rfl⟩
theorem Inv.fresh(I:Inv X pins σ H s):H s.heap.objs.size=none:=I.Nw.fresh (O2 _)
theorem Inv.Xr (I:Inv X pins σ H s) (hH:H l=some (.lst xs)):xs.length<=sizeLine/\∃(its:yad) (n:Nat),Vals xs its/\xs.length=its.length/\s.heap.get? l=some {cls:=.type "list", data:=.seq its.toArray n}:=by obtain⟨z,its,n,r,e⟩:=I.Nw l _ hH;exact⟨z,its,n,r,r.length,e⟩
end
section
variable{X:Cx}
def Fq:V->yar->Hp->VK->Prop:=fun x vs H Q=>∃l xs y,x=.ref l/\vs=[y]/\H l=some (.lst xs)/\xs.length<sizeLine/\Q .Nx (upd H l (.lst (xs++[y])))
theorem mT:MtM X "list.append" Fq:=by intro pins s σ H x vs v us Q I rx rv h;obtain⟨l,xs,y,rfl,rfl,hH,hz,q⟩:=h;cases rx;obtain⟨u,rfl,ru⟩:=rv.one;obtain⟨z,its,n,r,hl,e⟩:=I.Xr hH;refine call_meets F.slot_list_append ⟨_,e,rfl⟩ F.entry_list_append (F.args_list_append_2 _ _) (PySem.list_append l its.toArray n u (by rw[Uo];omega)) ⟨e,?_⟩;refine⟨.Nx,_,I.Z9 (its':=its++[u]) hH e (by simp) (r.append (.cons ru .nil)) ?_,rfl,q⟩;rw[Q7,zBl];omega
def Ll:V->yar->Hp->VK->Prop:=fun x vs H Q=>∃l xs y,x=.ref l/\vs=[]/\H l=some (.lst xs)/\xs[xs.length - 1]?=some y/\Q y (upd H l (.lst xs.dropLast))
theorem Ii:MtM X "list.pop" Ll:=by
 intro pins s σ H x vs v us Q I rx rv h;obtain⟨l,xs,y,rfl,rfl,hH,hy,q⟩:=h;cases rx;have hus:=rv.zero;subst hus;obtain⟨z,its,n,r,hl,e⟩:=I.Xr hH;obtain⟨u,hu,ru⟩:=r.get hy;have Yx:its.toArray[its.toArray.size - 1]?=some u:=by show its.toArray[its.length - 1]?=some u;rw[<- Array.getElem?_toList,<- hl];exact hu
 refine call_meets F.slot_list_pop ⟨_,e,rfl⟩ F.entry_list_pop (F.args_list_pop_1 _) (MeetsSeq.list_pop_last l its.toArray n u Yx (by rw[Uo];omega)) ⟨e,?_⟩;refine⟨y,_,I.Z9 (its':=its.dropLast) hH e ?_ r.dropLast ?_,ru,q⟩
 ·show its.toArray.eraseIdxIfInBounds (its.toArray.size - 1)=its.dropLast.toArray;rw[Uo,List.eraseIdxIfInBounds_toArray,yT]
 ·rw[List.length_dropLast];omega
def Lg:R2:=fun x y H Q=>∃l b xs zs,x=.ref l/\y=.ref b/\H l=some (.lst xs)/\H b=some (.lst zs)/\xs.length+zs.length<=sizeLine/\∀p,H p=none->Q (.ref p) (upd H p (.lst (xs++zs)))
theorem IB:SF X (binaryOp .Add) Lg:=by
 intro pins s σ H x y v u Q I rx ry h;obtain⟨l,b,xs,zs,rfl,rfl,hH,hB,hz,q⟩:=h;cases rx;cases ry;obtain⟨z,its,n,r,hl,e⟩:=I.Xr hH;obtain⟨z2,its2,n2,r2,hl2,e2⟩:=I.Xr hB;refine PySem.P.add_list e e2 ?_ (by rw[Uo,Uo];omega);have ea:its.toArray++its2.toArray=(its++its2).toArray:=by simp
 rw[ea];exact⟨.ref _,_,I.lnew (t':=s.toks) (r.append r2) (by rw[Q7];omega),rfl,q _ I.fresh⟩
end
section
variable{prog:Program}{w:World}{A:Around}{E:yaa}{s:Shared}
set_option maxRecDepth 100000 in
end
end L2
namespace Att
open PySem PySem.W PySem.Calls PyProof.Rows
theorem qw{P:Params}{h:Heap}:∀(ns:yaf) (vs:yad),WellAll P h vs (ns.map WData.int)->IntsAre vs ns:=by
 intro ns
 induction ns with
 |nil =>
  intro vs w;rw[Wk]at w;cases w;exact .nil
 |cons n ns ih =>
  intro vs w;rw[Sv]at w;cases w with
  |cons a b =>
   cases a;exact .cons _ _ (ih _ b)
theorem Bj{l:OpenLaw}{n:Nat}(hn:l.most=some n){P:Params}{h:Heap}{args:List WData}{vals:yad}
  (U6:l.row.toRowW.claim.pre args=true) (hwl:WellAll P h vals args) :
  ∃ a vs ns,vals=[Value.ref a]/\args=[WData.list (ns.map WData.int)]/\h.get? a=some {cls:=.type "list", data:=.seq vs.toArray}/\IntsAre vs ns/\ns.length<=n:=by
 have hsh:WShape.hasAll [] args [.list .int]=true:=(pre_splitW U6).1;have hc:l.pre.holds [] {args:=args}=true:=(pre_splitW U6).2;obtain⟨d,r,rfl,h1,h2⟩:=hasAllW_cons hsh;obtain rfl:=hasAllW_nil h2;obtain⟨xs,rfl,h3⟩:=hasW_list h1;obtain⟨ns,rfl⟩:=items_int h3;have hlen:ns.length<=n:=by
  unfold OpenLaw.pre at hc;have h4:(WTm.not (.lt (.lit (.int (n:Int))) (.len (.arg 0)))).holds [] {args:=[.list (ns.map .int)]}=true:=by have h4:=(holds_andW hc).1;rw[hn]at h4;exact h4
  have h5:=condW_of h4 (w_not (w_lt w_lit (w_len_list (w_arg rfl))));rw[Ph]at h5;refine Nat.le_of_not_lt fun q=>?_
  have q':(n:Int)<((ns.length:Nat):Int):=by omega
  first
   |(rw[Tz q']at h5;exact absurd h5 (by decide))
   |(simp at h5;omega)
 cases hwl with
 |cons w1 w2 =>
  cases w2;cases w1 with
  |list ho SG=>exact⟨_,_,ns,rfl,rfl,ho,qw ns _ SG,hlen⟩
theorem A3(l:OpenLaw)(args:List WData):l.row.toRowW.claim.post args (.bool true) args=true :=
 postW_of (r:=l.row.toRowW) (X:=(true==true))
  (show WShape.has [] (.bool true) .bool=true by first|rfl|decide|simp[WShape.has,WShape.arms,WShape.armsAll])
  (show(WTm.eq .res (.lit (.bool true))).value [] {args:=args,res:=some (.bool true),after:=args}=some (.bool (true==true))from w_eq_bool (w_res rfl) w_lit) rfl
section
variable{prog:Program}{w:World}{A:Around}{E:yaa}{s:Shared}{K:Frag}
def ledger(h:Heap)(L d:Addr):yab:=(List.range h.objs.size).filterMap fun a=>if a=L∨a=d then none else(h.get? a).map fun o=>(a,o)
end
end Att
namespace L2
open PySem PySem.Spec PyProof.Rows
theorem j3:∀{vs:yad} {ns:yaf},IntsAre vs ns->Vals (ns.map V.int) vs
 |_,_,.nil=>.nil
 |_,_,.cons n t h=>.cons ⟨t,rfl⟩ (j3 h)
def bG(s:Stmt):Arguments:=match s with
 |.FunctionDef _ a _ _ _ _ _ _ _ _=>a
 |_=>{posonlyargs:=[],args:=[],vararg:=none,kwonlyargs:=[],kw_defaults:=[],kwarg:=none,defaults:=[]}
def bp(s:Stmt):yal:=match s with
 |.FunctionDef _ _ b _ _ _ _ _ _ _=>b
 |_=>[]
def ah(s:Stmt):Scope:=match s with
 |.FunctionDef _ _ _ _ _ _ sc _ _ _=>sc
 |_=>{kind:=.function,names:=[],isGenerator:=false,isCoroutine:=false}
abbrev E0:XK:=fun _ _ _=>False
structure Fun(K:yac)(x qual:Str)(st:Stmt)(f:Addr)(fd:FuncData):Prop where
 ex:∃(oc:Value) (od:Option Addr) (kV doc pm:Value) (an:Option Addr) (cdv ct:Value) (Us:Array (yan)),
  fd=PySem.W.fnOf x qual (bG st) (bp st) (ah st) .none kV doc pm an cdv ct/\K.lookup f=some ⟨oc,od,.func fd,Us⟩/\PySem.W.codeIn K cdv qual=true
 kp:PySem.W.keepIn K (.ref f)=true
section
variable{X:Cx}
theorem pv (i:Nat) {x:Str} {pos:Pos} (hN:X.N[i]?=some x:=by rfl) (hv:Z1 X.env.scope x:=by first|exact Or.inl rfl|exact Or.inr (Or.inl rfl)|exact Or.inr (Or.inr rfl)) (hd:(x==("__debug__" : Str))=false:=by decide)
  (RN:(x==("__classdict__" : Str))=false:=by decide):PE X (.Name x pos) (Dc i):=we hN hv hd RN
end
def ai(H H':Hp):Prop:=∀b o,H b=some o->H' b=some o
theorem ai.refl(H:Hp):ai H H:=fun _ _ h=>h
theorem ai.trans{H H1 H2:Hp}(a:ai H H1)(b:ai H1 H2):ai H H2:=fun c o h=>b c o (a c o h)
theorem ai.free{H H':Hp}(e:ai H H'){l:Addr}(h:H' l=Option.none):H l=Option.none:=by
 cases q:H l with
 |none=>rfl
 |some o =>
  rw[e l o q]at h;cases h
theorem ai.seq{K:yac}{H H':Hp}{a:Addr}{xs:yar}(e:ai H H')(h:SqL K H a xs):SqL K H' a xs:=by
 rcases h with(h|⟨o,h⟩)|h
 ·exact .inl (.inl (e _ _ h))
 ·exact .inl (.inr ⟨o,e _ _ h⟩)
 ·exact .inr h
end L2
set_option maxHeartbeats 4000000
namespace L2
open PySem PySem.Spec PyProof.Rows
def oY(i:Expr):Prop:=∀ov iv,subscripted i false ov iv=operate [ov,iv] (getItem ov iv)
theorem FN{prog:Program}{w:World}{A:Around}{E:yaa}{s:Shared}{env:Env}{value slice:Expr}{pos:Pos}{T id:String}{Q:yaa}
  (hl:typeLookup (.type T) "__getitem__" = pure (some (.builtin id))) (hs:oY slice)
  (h:wpAny (model prog w) A (eval value env) (fun o LP=>wpAny (model prog w) A (eval slice env) (fun i LN=>LN.TypeIs o T/\wpAny (model prog w) A (getItem o i) Q E LN) E LP) E s) :
  wpAny (model prog w) A (eval (.Subscript value slice pos) env) Q E s:=by
 refine Subscript_ (O3 h (fun o LP OI=>O3 OI (fun i LN T5=>?_) fun _ _ x=>x) fun _ _ x=>x);obtain⟨hT,T5⟩:=T5;unfold subscriptTail;refine L3 ?_;rw[getitemInPython_of_ne hT.not_modules];refine L3 (wpAny_specialOf hT hl ?_);have fin:wpAny (model prog w) A (subscripted slice false o i) (fun r OJ=>wpAny (model prog w) A (letTemporaryGo value o r >>= fun _=>pure r) Q E OJ) E LN:=by rw[hs o i];exact wpAny_operating (O3 T5 (fun r OJ Yy=>L3 (wpAny_letTemporaryGo (OQ Yy))) fun _ _ x=>x)
 first
  |exact OQ (L3 fin)
  |exact L3 (OQ (L3 fin))
  |exact L3 fin
abbrev VV:List (V×V)->List (Value×Value)->Prop:=Paired fun p q=>RelV p.1 q.1/\RelV p.2 q.2
structure M1(X:Cx)(o:Expr)(m:Str)(apos:Pos)(e:Expr)(M0:Pos):Prop where
 base:attributeBase o m X.env (eval o X.env)=eval o X.env
 few:((backTo M0 (starEach [e] X.env)).all (fun x=>!x.1) && (backToKw M0 (keywordEach [] X.env)).all (fun x=>x.1.isSome)
  && decide (([e]:yai).length+([]:List Keyword).length+(if([]:List Keyword).isEmpty then 0 else 1)<30))=true
 line:(apos.endLine==M0.line)=true
 trees:backTo M0 (starEach [e] X.env)=[(false,eval e X.env)]
structure M2(X:Cx)(o:Expr)(m:Str)(apos:Pos)(e f:Expr)(M0:Pos):Prop where
 base:attributeBase o m X.env (eval o X.env)=eval o X.env
 few:((backTo M0 (starEach [e,f] X.env)).all (fun x=>!x.1) && (backToKw M0 (keywordEach [] X.env)).all (fun x=>x.1.isSome)
  && decide (([e,f]:yai).length+([]:List Keyword).length+(if([]:List Keyword).isEmpty then 0 else 1)<30))=true
 line:(apos.endLine==M0.line)=true
 trees:backTo M0 (starEach [e,f] X.env)=[(false,eval e X.env),(false,eval f X.env)]
end L2
namespace PM
theorem Cg(a b:Int):Int.gcd b (a.fmod b)=Int.gcd a b:=by
 have h:=Int.fmod_add_mul_fdiv a b;have h':a=a.fmod b+a.fdiv b*b:=by rw[Int.mul_comm];exact h.symm
 rw[Int.gcd_comm a b]
 conv=>rhs;rw[h']
 rw[Int.gcd_add_mul_right_right]
theorem Aq(a:Int){b:Int}(hb:b≠0):(a.fmod b).natAbs<b.natAbs:=by
 by_cases h:0<b
 ·have h1:=Int.fmod_lt_of_pos a h;have h2:=Int.fmod_nonneg_of_pos a h;omega
 ·have h1:b<0:=by omega
  have e:a.fmod b=-((-a).fmod (-b)):=by have:=Int.neg_fmod_neg (a:=a) (b:=b);omega
  have h2:=Int.fmod_lt_of_pos (-a) (b:=-b) (by omega);have h3:=Int.fmod_nonneg_of_pos (-a) (b:=-b) (by omega);omega
def g3(x y z:Int):Nat:=Int.gcd (Int.gcd x y:Int) z
theorem Au(a:Int):Int.gcd a 0=a.natAbs:=by simp
end PM
namespace PX
open PySem PySem.W PySem.Spec PySem.Calls PyProof.Rows PySem.Builtin.ObjectAttr PySem.Builtin.Getset_descriptor
def ExcAt(e c:Addr)(h:Heap):Prop:=∃o vs,h.get? e=some o/\o.cls=.ref c/\o.data=.fields vs
theorem ExcAt.ty{M:Model}{e c:Addr}{h:Heap}(p:ExcAt e c h):Looks M h (typeOf (.ref e)) (.ref c):=by obtain⟨o,vs,h1,h2,_⟩:=p;exact h2 ▸ (Looks.ld h1).andThen .now
def lG(K:Frag)(c:Addr):Bool :=
 (clsIn K c).isSome && findIn K (.ref c) "__getattribute__" == some (some (.builtin "BaseException.__getattribute__"))
 && findIn K (.ref c) "__getattr__" == some none && findIn K (.ref c) "__class__" == some (some (.builtin "object.__class__"))
 && specialIn K (.builtin "object.__class__") "__get__" == some (some (.builtin "getset_descriptor.__get__"))
 && takesIn K (.builtin "object.__class__")==some true
 && mroIn K c (.type "object")==some true && mroIn K c (.type "BaseException")==some true
 && kitOne K (.ref c) (.type "int")==some false && kitOne K (.ref c) (.type "bool")==some false && kitOne K (.ref c) (.type "tuple")==some false
 && kitOne K (.ref c) (.type "list")==some false && kitOne K (.ref c) (.type "str")==some false
def CB(K:Frag)(c:Addr):Bool :=
 plainGet K c "__class__" && hasDictIn K c && findIn K (.ref c) "__class__" == some (some (.builtin "object.__class__"))
 && specialIn K (.builtin "object.__class__") "__get__" == some (some (.builtin "getset_descriptor.__get__"))
 && takesIn K (.builtin "object.__class__")==some true && mroIn K c (.type "object")==some true
 && kitOne K (.ref c) (.type "int")==some false && kitOne K (.ref c) (.type "bool")==some false && kitOne K (.ref c) (.type "tuple")==some false
 && kitOne K (.ref c) (.type "list")==some false && kitOne K (.ref c) (.type "str")==some false
structure hW(K:Frag)(c:Addr):Prop where
 pg:plainGet K c "__class__" = true
 hd:hasDictIn K c=true
 at_:findIn K (.ref c) "__class__" = some (some (.builtin "object.__class__"))
 get:specialIn K (.builtin "object.__class__") "__get__" = some (some (.builtin "getset_descriptor.__get__"))
 takes:takesIn K (.builtin "object.__class__")=some true
 obj:mroIn K c (.type "object")=some true
 not:∀T,(T = "int" ∨ T = "bool" ∨ T = "tuple" ∨ T = "list" ∨ T = "str")->kitOne K (.ref c) (.type T)=some false
theorem hW.of{K:Frag}{c:Addr}(h:CB K c=true):hW K c:=by
 unfold CB at h;simp only[S7,beq_iff_eq]at h;obtain⟨⟨⟨⟨⟨⟨⟨⟨⟨⟨h1,h2⟩,h3⟩,h4⟩,h5⟩,h6⟩,h9⟩,h10⟩,h11⟩,Yz⟩,h13⟩:=h;exact⟨h1,h2,h3,h4,h5,h6,fun T hT=>by rcases hT with e|e|e|e|e<;>subst e<;>assumption⟩
structure bP(K:Frag)(c:Addr):Prop where
 cls:(clsIn K c).isSome=true
 ga:findIn K (.ref c) "__getattribute__" = some (some (.builtin "BaseException.__getattribute__"))
 hook:findIn K (.ref c) "__getattr__" = some none
 at_:findIn K (.ref c) "__class__" = some (some (.builtin "object.__class__"))
 get:specialIn K (.builtin "object.__class__") "__get__" = some (some (.builtin "getset_descriptor.__get__"))
 takes:takesIn K (.builtin "object.__class__")=some true
 obj:mroIn K c (.type "object")=some true
 exc:mroIn K c (.type "BaseException")=some true
 not:∀T,(T = "int" ∨ T = "bool" ∨ T = "tuple" ∨ T = "list" ∨ T = "str")->kitOne K (.ref c) (.type T)=some false
theorem bP.of{K:Frag}{c:Addr}(h:lG K c=true):bP K c:=by
 unfold lG at h;simp only[S7,beq_iff_eq]at h;obtain⟨⟨⟨⟨⟨⟨⟨⟨⟨⟨⟨⟨h1,h2⟩,h3⟩,h4⟩,h5⟩,h6⟩,h7⟩,h8⟩,h9⟩,h10⟩,h11⟩,Yz⟩,h13⟩:=h;exact⟨h1,h2,h3,h4,h5,h6,h7,h8,fun T hT=>by rcases hT with e|e|e|e|e<;>subst e<;>assumption⟩
section
variable{prog:Program}{w:World}{A:Around}{E:yaa}{s:Shared}{K:Frag}{e c:Addr}
theorem KA {R:Result->Shared->Prop} {tp:Value} (X:K.In s.heap) (p:ExcAt e c s.heap) (hm:mroIn K c (.type "object")=some true) (hq:R (.ok (.ret (.ref c))) s) :
  codeAny (model prog w) A (.call (.builtin "getset_descriptor.__get__") ⟨[.builtin "object.__class__", .ref e,tp],[]⟩) R s:=by
 obtain⟨h,g,dr,t,os⟩:=s;have La:=p.ty (M:=model prog w);have Lb:=looks_mroIn (M:=model prog w) X hm;refine codeAny_call_builtin (KF.slot_gs.plain) KF.entry_gs (KF.slot_gs.check _ _ _ _ _ _ _ _ KF.type_class (KF.args_gs _ _ _) ?_);unfold Builtin.«getset_descriptor.__get__» descrGet;rw[dga_obj];refine L3 (OQ ?_);unfold descrGetter descrCheckInstance descrNameAndClass isInstance;simp only[KF.owner_class]
 repeat lk
 refine⟨Code.quiet_builtin _ (by decide +kernel),codeAny_builtin KF.entry_class ?_⟩;unfold Builtin.«object.__class__» shownTypeOf
 repeat lk
 exact hq
theorem Jn {M:Model} {h:Heap} (k:bP K c) (X:K.In h):Looks M h (find (.ref e) (.ref c) "__class__") (.bind (.builtin "getset_descriptor.__get__") (.builtin "object.__class__")):=by have La:=looks_findIn (M:=M) X k.at_;have Lb:Looks M h (getOf (some (.builtin "object.__class__"))) (some (.builtin "getset_descriptor.__get__")):=looks_specialIn X k.get;have Lc:=looks_takesIn (M:=M) X k.takes;refine La.andThen (Lb.andThen ?_);exact(show Looks M h (dataDescriptor? (some (.builtin "object.__class__")) (some (.builtin "getset_descriptor.__get__"))) (some (.builtin "getset_descriptor.__get__", .builtin "object.__class__"))from Lc.andThen .now).andThen (Looks.tag .now)
theorem FY{tk:Tok}{Q:Fin->Shared->Prop}(k:bP K c)(X:K.In s.heap)(p:ExcAt e c s.heap)(hq:Q (.done (.ret (.ref c))) s) :
  wpAny (model prog w) A (Builtin.«object.__getattribute__» ⟨[.ref e,.str "__class__" tk],[]⟩) Q E s:=by
 obtain⟨h,g,dr,t,os⟩:=s;have La:=p.ty (M:=model prog w);have Lb:=Jn (M:=model prog w) (e:=e) k X;refine L3 (OQ ?_);refine L3 (OQ ?_);refine L3 (La.at (L3 (Lb.at ?_)));show wpAny _ _ (bindTo _ _ _ _) _ _ _;unfold bindTo
 repeat (first|with_reducible refine L3 ?_|with_reducible refine S8 ?_)
 refine wpAny_call (KA X p k.obj ?_);exact OQ hq
theorem FX{M:Model}{nv:Value}{Q:Unit->Shared->Prop}(k:bP K c)(X:K.In s.heap)(p:ExcAt e c s.heap)(hq:Q () s) :
  wpAny M A (checkBuiltinCall "BaseException.__getattribute__" ⟨[.ref e,nv],[]⟩) Q E s:=by
 obtain⟨h,g,dr,t,os⟩:=s;have hk:builtinKind "BaseException.__getattribute__" = some .slot:=by decide +kernel
 have Ut:splitId "BaseException.__getattribute__" = some ("BaseException", "__getattribute__"):=by decide +kernel
 have ha:=F.args_bexc_ga (.ref e) nv;have La:=p.ty (M:=M);have Lb:=looks_mroIn (M:=M) X k.exc;have Li:Looks M h (isInstance (.ref e) (.type "BaseException")) true:=La.andThen Lb;simp only[checkBuiltinCall,hk,Ut];refine L3 (Li.at ?_)
 repeat (first|wp_step)
 exact hq
theorem x_call{tk:Tok}{R:Result->Shared->Prop}(k:bP K c)(X:K.In s.heap)(p:ExcAt e c s.heap)(hq:R (.ok (.ret (.ref c))) s) :
  codeAny (model prog w) A (.call (.builtin "BaseException.__getattribute__") ⟨[.ref e,.str "__class__" tk],[]⟩) R s :=
 codeAny_call_builtin F.excAttr_ValueError.ga.plain F.entry_bexc_ga (FX k X p (FY k X p hq))
theorem Jm{Q:yan->Shared->Prop}(k:bP K c)(X:K.In s.heap)(p:ExcAt e c s.heap)(hq:Q (some (.ref c)) {s with toks:=s.toks+1}) :
  wpAny (model prog w) A (getAttr? (.ref e) "__class__") Q E s:=by
 obtain⟨h,g,dr,t,os⟩:=s;have La:=p.ty (M:=model prog w);have Lb:=looks_findIn (M:=model prog w) X k.ga;have Lc:=looks_findIn (M:=model prog w) X k.hook;have f3:=F.excAttr_ValueError.ga.bind (.ref e);unfold getAttr? getAttrBy? getAttrBy;refine L3 (wpAny_mkText (L3 (wpAny_attempt (S8 (L3 (La.at (L3 (Lb.at ?_))))))));have RP:(Value.builtin "BaseException.__getattribute__" == Value.builtin "object.__getattribute__")=false:=by decide +kernel
 simp only[onTheHeap,Zt,RP,X0,if_false];unfold getAttrByItsOwn hookBefore;simp only[onTheHeap,if_true];refine L3 (Lc.at ?_);refine L3 (wpAny_attempt (S8 ?_));unfold callGetattribute boundAndCalled;simp only[Yo,X0,if_false];refine L3 (wpAny_of_eq f3 ?_);refine wpAny_call (x_call k X p ?_);refine OQ (a:=Value.ref c) ?_;exact OQ hq
theorem Cr(k:bP K c):KitX K (.ref e) (.ref c) (ExcAt e c) where
 ty:=fun _ _ _ p=>p.ty
 it:=fun _ _ X _=>by
  have h:=k.cls;unfold clsIn at h;split at h
  ·rename_i c' d' cd' sl' ho;intro A' Q' E' s' kk q;unfold isType loadHead;exact L3 (wpAny_loadPart (kk _ _ (X _ _ ho)) (OQ q))
  ·cases h
 ne:=fun h tp dd its n sl X htp=>by
  have h:=k.cls;refine Bool.eq_false_iff.mpr fun q=>?_
  have z:c=tp:=Value.ref.inj (beq_iff_eq.mp q);subst z;unfold clsIn at h;split at h
  ·rename_i c' d' cd' sl' ho;cases(X _ _ ho).symm.trans htp
  ·cases h
 ca:=fun X p kk=>Jm k X p kk
end
end PX
namespace PD
open PySem PySem.Spec PyProof.Rows L2 PX
abbrev St:=L2.St
def NT:HO->Prop
 |.So _=>False
 |_=>True
def K9:Str := "lightest.<locals>.<lambda>"
def FZ(c:Addr):Heap->Prop:=fun h=>h.CodeRec (.ref c) K9
def cN(H:Hp):Prop:=∀P ps,H P=some (.So ps)->TriplesOk ps.toList/\∀pos cv,codeAmong pos ps.toList=some cv->∃c,cv=.ref c/\H c=some (.ext (FZ c))
def tabOf(K:yac):Option Addr :=
 match PySem.W.nsIn K mainGlobals "lightest" with
 |some (some (.ref f))=>(match K.lookup f with
  |some ⟨_,_,.func fd,_⟩=>(match fd.code with
   |.ref c=>(match K.lookup c with
    |some ⟨_,_,.fields vs,_⟩=>(match(vs[11]?:yan)with
     |some (.ref P)=>if(K.lookup P).isNone=true then some P else none
     |_=>none)
    |_=>none)
   |_=>none)
  |_=>none)
 |_=>none
structure ai(H H':Hp):Prop where
 kp:∀b o,H b=some o->NT o->H' b=some o
 tb:∀b ps,H b=some (.So ps)->∃more,H' b=some (.So (ps++more))
 ok:cN H->cN H'
theorem ai.app{H H':Hp}(e:ai H H')(b:Addr)(o:HO)(h:H b=some o)(nt:NT o:=by first|exact True.intro|assumption):H' b=some o:=e.kp b o h nt
instance {H H':Hp}:CoeFun (ai H H') (fun _=>∀(b:Addr) (o:HO),H b=some o->(nt:NT o:=by first|exact True.intro|assumption)->H' b=some o):=⟨@ai.app H H'⟩
theorem ai.refl(H:Hp):ai H H:=⟨fun _ _ h _=>h,fun _ ps h=>⟨#[],by rw[h];simp⟩,id⟩
theorem ai.trans{H H1 H2:Hp}(a:ai H H1)(b:ai H1 H2):ai H H2:=⟨fun c o h n=>b.kp c o (a.kp c o h n) n,fun c ps h=>by obtain⟨m1,e1⟩:=a.tb c ps h;obtain⟨m2,e2⟩:=b.tb c _ e1;exact⟨m1++m2,by rw[e2,X1]⟩,fun h=>b.ok (a.ok h)⟩
theorem ai.ex{H H':Hp}(e:ai H H'){b:Addr}{o:HO}(h:H b=some o):∃o',H' b=some o':=by
 by_cases n:NT o
 ·exact⟨o,e.kp b o h n⟩
 ·cases o with
  |So ps =>
   obtain⟨m,q⟩:=e.tb b ps h;exact⟨_,q⟩
  |_=>exact absurd True.intro n
theorem ai.free{H H':Hp}(e:ai H H'){l:Addr}(h:H' l=Option.none):H l=Option.none:=by
 cases q:H l with
 |none=>rfl
 |some o =>
  obtain⟨o',z⟩:=e.ex q;rw[h]at z;cases z
theorem ai.seq{K:yac}{H H':Hp}{a:Addr}{xs:yar}(e:ai H H')(h:SqL K H a xs):SqL K H' a xs:=by
 rcases h with(h|⟨o,h⟩)|h
 ·exact .inl (.inl (e _ _ h))
 ·exact .inl (.inr ⟨o,e _ _ h⟩)
 ·exact .inr h
theorem cN.upd{H:Hp}{p:Addr}{o:HO}(n:NT o)(hp:H p=none∨∃ u,H p=some u/\(∀φ,u ≠ .ext φ)/\NT u)(h:cN H):cN (upd H p o):=by
 intro P ps e;have RP:P≠p:=fun z=>by subst z;rw[ax]at e;cases e;exact n
 rw[aq RP]at e;obtain⟨h1,h2⟩:=h P ps e;refine⟨h1,fun pos cv q=>?_⟩;obtain⟨c,e1,e2⟩:=h2 pos cv q;refine⟨c,e1,?_⟩;rw[aq fun z=>?_]
 ·exact e2
 ·subst z;rcases hp with hp|⟨u,hp,hu,_⟩
  ·rw[hp]at e2;cases e2
  ·rw[hp]at e2;cases e2;exact hu _ rfl
structure cK(K:yac)(H:Hp):Prop where
 ok:cN H
 at':∀P,tabOf K=some P->∃ps,H P=some (.So ps)
theorem cK.same{K:yac}{H H':Hp}(h:cK K H)(e:ai H H'):cK K H':=⟨e.ok h.ok,fun P q=>by obtain⟨ps,z⟩:=h.at' P q;obtain⟨m,z⟩:=e.tb P ps z;exact⟨_,z⟩⟩
theorem cK.upd{K:yac}{H:Hp}{p:Addr}{o:HO}(h:cK K H)(n:NT o)(hp:H p=none∨∃ u,H p=some u/\(∀φ,u ≠ .ext φ)/\NT u):cK K (upd H p o):=⟨cN.upd n hp h.ok,fun P q=>by
 obtain⟨ps,z⟩:=h.at' P q;refine⟨ps,?_⟩;rw[aq fun e=>?_]
 ·exact z
 ·subst e;rcases hp with hp|⟨u,hp,_,hu⟩
  ·rw[hp]at z;cases z
  ·rw[hp]at z;cases z;exact hu⟩
inductive D where
 |Nx|bl (b:Bool)|int (i:Int)|str (x:Str)|tup (ds:List D)|lst (t:Bool) (ds:List D)|exc (c:Addr)|obj (C:Addr) (ns:yah) (ds:List D)|Sy|Si (ks:yaf) (ds:List D)
abbrev yas:=List D
def Xs:HO->Prop
 |.ext _=>True|.ins _ _ _=>True|.frz _ (.dK _)=>True|_=>False
theorem Xs.nt{o:HO}(h:Xs o):NT o:=by cases o<;>first|exact True.intro|exact h.elim
def QK(K:yac)(H:Hp)(t:Bool)(a:Addr)(vs:yar):Prop:=SqL K H a vs/\(t=true->H a=some (.lst vs)/\K.lookup a=none)
theorem QK.same{K:yac}{H H':Hp}{t:Bool}{a:Addr}{vs:yar}(e:ai H H')(q:QK K H t a vs):QK K H' t a vs:=⟨e.seq q.1,fun z=>⟨e _ _ (q.2 z).1,(q.2 z).2⟩⟩
theorem QK.any{K:yac}{H:Hp}{a:Addr}{vs:yar}(q:SqL K H a vs):QK K H false a vs:=⟨q,fun z=>by cases z⟩
theorem QK.new{K:yac}{H:Hp}{t:Bool}{a:Addr}{vs:yar}(q:H a=some (.lst vs))(k:K.lookup a=none):QK K H t a vs:=⟨SqL.of q,fun _=>⟨q,k⟩⟩
def OM(_:yac)(H:Hp)(a:Addr)(xs:yar):Prop:=H a=some (.tup xs)
theorem OM.w{K:yac}{H:Hp}{a:Addr}{xs:yar}(h:OM K H a xs):L2.OM K H a xs:=.inl (.inl h)
theorem OM.of{K:yac}{H:Hp}{a:Addr}{xs:yar}(h:H a=some (.tup xs)):OM K H a xs:=h
mutual
def Den(K:yac)(P:yak)(H:Hp):D->V->Prop
 |.Nx,v=>v=.Nx
 |.bl b,v=>v=.bl b
 |.int i,v=>v=.int i
 |.str x,v=>v=.str x
 |.tup ds,v=>∃a vs,v=.ref a/\OM K H a vs/\af K P H ds vs
 |.lst t ds,v=>∃a vs,v=.ref a/\¬P t a/\QK K H t a vs/\af K P H ds vs
 |.exc c,v=>∃e,v=.ref e/\H e=some (.ext (ExcAt e c))/\bP K c
 |.Sy,v=>∃a,v=.ref a/\H a=some (.ext (PySem.W.KitAt a "dict"))
 |.obj C ns ds,v=>∃a dx vs,v=.ref a/\H a=some (.ins C dx (ns.zip vs))/\vs.length=ns.length/\hW K C/\af K P H ds vs
 |.Si ks ds,v=>∃a o Sf vs,v=.ref a/\H a=some (.frz o (.dK Sf))/\Sf=(ks.map Sum.inl).zip vs/\vs.length=ks.length/\af K P H ds vs
def af(K:yac)(P:yak)(H:Hp):yas->yar->Prop
 |[],vs=>vs=[]
 |d::ds,vs=>∃v r,vs=v::r/\Den K P H d v/\af K P H ds r
end
section
variable{K:yac}{P P':yak}{H H':Hp}
mutual
theorem Den.map(hT:∀a vs,OM K H a vs->OM K H' a vs)(hL:∀t a vs,¬P t a->QK K H t a vs->¬P' t a/\QK K H' t a vs)(hX:∀a o,Xs o->H a=some o->H' a=some o):∀(d:D) (v:V),Den K P H d v->Den K P' H' d v
 |.Nx,_,h=>by simpa only[Den]using h
 |.bl _,_,h=>by simpa only[Den]using h
 |.int _,_,h=>by simpa only[Den]using h
 |.str _,_,h=>by simpa only[Den]using h
 |.tup ds,_,h=>by simp only[Den]at h ⊢;obtain⟨a,vs,e,q,r⟩:=h;exact⟨a,vs,e,hT a vs q,af.map hT hL hX ds vs r⟩
 |.lst t ds,_,h=>by simp only[Den]at h ⊢;obtain⟨a,vs,e,p,q,r⟩:=h;exact⟨a,vs,e,(hL t a vs p q).1,(hL t a vs p q).2,af.map hT hL hX ds vs r⟩
 |.exc c,_,h=>by simp only[Den]at h ⊢;obtain⟨a,e,q,k⟩:=h;exact⟨a,e,hX a _ True.intro q,k⟩
 |.obj C ns ds,_,h=>by simp only[Den]at h ⊢;obtain⟨a,dx,vs,e,q,l,k,r⟩:=h;exact⟨a,dx,vs,e,hX a _ True.intro q,l,k,af.map hT hL hX ds vs r⟩
 |.Sy,_,h=>by simp only[Den]at h ⊢;obtain⟨a,e,q⟩:=h;exact⟨a,e,hX a _ True.intro q⟩
 |.Si ks ds,_,h=>by simp only[Den]at h ⊢;obtain⟨a,o,Sf,vs,e,q,l,k,r⟩:=h;exact⟨a,o,Sf,vs,e,hX a _ True.intro q,l,k,af.map hT hL hX ds vs r⟩
theorem af.map(hT:∀a vs,OM K H a vs->OM K H' a vs)(hL:∀t a vs,¬P t a->QK K H t a vs->¬P' t a/\QK K H' t a vs)(hX:∀a o,Xs o->H a=some o->H' a=some o):∀(ds:yas) (vs:yar),af K P H ds vs->af K P' H' ds vs
 |[],_,h=>by simpa only[af]using h
 |d::ds,_,h=>by simp only[af]at h ⊢;obtain⟨v,r,e,h1,h2⟩:=h;exact⟨v,r,e,Den.map hT hL hX d v h1,af.map hT hL hX ds r h2⟩
end
end
theorem OM.same{K:yac}{H H':Hp}{a:Addr}{xs:yar}(e:ai H H')(h:OM K H a xs):OM K H' a xs:=e _ _ h
section
variable{K:yac}{P:yak}{H H':Hp}
theorem Den.same{d:D}{v:V}(e:ai H H')(h:Den K P H d v):Den K P H' d v:=Den.map (fun _ _ q=>OM.same e q) (fun _ _ _ p q=>⟨p,q.same e⟩) (fun a _ n q=>e.kp a _ q n.nt) d v h
theorem af.same{ds:yas}{vs:yar}(e:ai H H')(h:af K P H ds vs):af K P H' ds vs:=af.map (fun _ _ q=>OM.same e q) (fun _ _ _ p q=>⟨p,q.same e⟩) (fun a _ n q=>e.kp a _ q n.nt) ds vs h
theorem Den.MG{P':yak}{d:D}{v:V}(e:∀t a,P' t a->P t a)(h:Den K P H d v):Den K P' H d v:=Den.map (fun _ _ q=>q) (fun _ _ _ p q=>⟨fun z=>p (e _ _ z),q⟩) (fun _ _ _ q=>q) d v h
theorem af.MG{P':yak}{ds:yas}{vs:yar}(e:∀t a,P' t a->P t a)(h:af K P H ds vs):af K P' H ds vs:=af.map (fun _ _ q=>q) (fun _ _ _ p q=>⟨fun z=>p (e _ _ z),q⟩) (fun _ _ _ q=>q) ds vs h
theorem af.len:∀{ds:yas} {vs:yar},af K P H ds vs->vs.length=ds.length
 |[],_,h=>by simp only[af]at h;subst h;rfl
 |d::ds,_,h=>by simp only[af]at h;obtain⟨v,r,rfl,_,h2⟩:=h;simp[af.len h2]
theorem af.get:∀{ds:yas} {vs:yar} {i:Nat} {d:D},af K P H ds vs->ds[i]?=some d->∃v,vs[i]?=some v/\Den K P H d v
 |[],_,_,_,_,e=>by simp at e
 |d::ds,_,0,_,h,e=>by simp only[af]at h;obtain⟨v,r,rfl,h1,_⟩:=h;simp at e;subst e;exact⟨v,rfl,h1⟩
 |d::ds,_,i+1,x,h,e=>by simp only[af]at h;obtain⟨v,r,rfl,_,h2⟩:=h;obtain⟨u,e1,e2⟩:=af.get (i:=i) (d:=x) h2 (by simpa using e);exact⟨u,by simpa using e1,e2⟩
theorem af.aU:∀{ds:yas} {vs:yar} {i:Nat} {v:V},af K P H ds vs->vs[i]?=some v->∃d,ds[i]?=some d/\Den K P H d v
 |[],_,_,_,h,e=>by simp only[af]at h;subst h;simp at e
 |d::ds,_,0,_,h,e=>by simp only[af]at h;obtain⟨v,r,rfl,h1,_⟩:=h;simp at e;subst e;exact⟨d,rfl,h1⟩
 |d::ds,_,i+1,x,h,e=>by simp only[af]at h;obtain⟨v,r,rfl,_,h2⟩:=h;obtain⟨u,e1,e2⟩:=af.aU (i:=i) (v:=x) h2 (by simpa using e);exact⟨u,by simpa using e1,e2⟩
theorem af.append:∀{ds es:yas} {vs us:yar},af K P H ds vs->af K P H es us->af K P H (ds++es) (vs++us)
 |[],_,_,_,h,h'=>by simp only[af]at h;subst h;exact h'
 |d::ds,_,_,_,h,h'=>by simp only[af]at h;obtain⟨v,r,rfl,h1,h2⟩:=h;simp only[Xk,af];exact⟨v,_,rfl,h1,af.append h2 h'⟩
theorem af.one{d:D}{v:V}(h:Den K P H d v):af K P H [d] [v]:=by simp only[af];exact⟨v,[],rfl,h,rfl⟩
theorem af.nil:af K P H [] []:=by simp only[af]
theorem af.cons{d:D}{v:V}{ds:yas}{vs:yar}(h:Den K P H d v)(h':af K P H ds vs):af K P H (d::ds) (v::vs):=by simp only[af];exact⟨v,vs,rfl,h,h'⟩
theorem Den.O4{i:Int}{v:V}(h:Den K P H (.int i) v):v=.int i:=by simpa only[Den]using h
theorem Den.VH{b:Bool}{v:V}(h:Den K P H (.bl b) v):v=.bl b:=by simpa only[Den]using h
theorem Den.Xu{v:V}(h:Den K P H .Nx v):v=.Nx:=by simpa only[Den]using h
theorem Den.QM{x:Str}{v:V}(h:Den K P H (.str x) v):v=.str x:=by simpa only[Den]using h
theorem Den.int(i:Int):Den K P H (.int i) (.int i):=by simp only[Den]
theorem Den.bl(b:Bool):Den K P H (.bl b) (.bl b):=by simp only[Den]
theorem Den.Nx:Den K P H .Nx .Nx:=by simp only[Den]
theorem Den.str(x:Str):Den K P H (.str x) (.str x):=by simp only[Den]
theorem Den.Sq{ds:yas}{v:V}(h:Den K P H (.tup ds) v):∃a vs,v=.ref a/\OM K H a vs/\af K P H ds vs:=by simpa only[Den]using h
theorem Den.UC{t:Bool}{ds:yas}{v:V}(h:Den K P H (.lst t ds) v):∃a vs,v=.ref a/\¬P t a/\QK K H t a vs/\af K P H ds vs:=by simpa only[Den]using h
theorem Den.Rg{t:Bool}{ds:yas}{v:V}(h:Den K P H (.lst t ds) v):∃a vs,v=.ref a/\¬P t a/\SqL K H a vs/\af K P H ds vs:=by obtain⟨a,vs,h1,h2,h3,h4⟩:=h.UC;exact⟨a,vs,h1,h2,h3.1,h4⟩
theorem Den.dic_ {v:V} (h:Den K P H .Sy v):∃a,v=.ref a/\H a=some (.ext (PySem.W.KitAt a "dict")):=by simpa only[Den]using h
theorem Den.Sy {a:Addr} (h:H a=some (.ext (PySem.W.KitAt a "dict"))):Den K P H .Sy (.ref a):=by simp only[Den];exact⟨a,rfl,h⟩
theorem Den.UD{C:Addr}{ns:yah}{ds:yas}{v:V}(h:Den K P H (.obj C ns ds) v):∃a dx vs,v=.ref a/\H a=some (.ins C dx (ns.zip vs))/\vs.length=ns.length/\hW K C/\af K P H ds vs:=by simpa only[Den]using h
theorem Den.obj{C a dx:Addr}{ns:yah}{ds:yas}{vs:yar}(h:H a=some (.ins C dx (ns.zip vs)))(l:vs.length=ns.length)(k:hW K C)(d:af K P H ds vs):Den K P H (.obj C ns ds) (.ref a):=by simp only[Den];exact⟨a,dx,vs,rfl,h,l,k,d⟩
theorem Den.dik_{ks:yaf}{ds:yas}{v:V}(h:Den K P H (.Si ks ds) v):∃a o Sf vs,v=.ref a/\H a=some (.frz o (.dK Sf))/\Sf=(ks.map Sum.inl).zip vs/\vs.length=ks.length/\af K P H ds vs:=by simpa only[Den]using h
theorem Den.Si{a:Addr}{o:Obj}{ks:yaf}{ds:yas}{vs:yar}(h:H a=some (.frz o (.dK ((ks.map Sum.inl).zip vs))))(l:vs.length=ks.length)(d:af K P H ds vs):Den K P H (.Si ks ds) (.ref a):=by simp only[Den];exact⟨a,o,_,vs,rfl,h,rfl,l,d⟩
theorem Den.YA{c:Addr}{v:V}(h:Den K P H (.exc c) v):∃e,v=.ref e/\H e=some (.ext (ExcAt e c))/\bP K c:=by simpa only[Den]using h
theorem Den.exc{c e:Addr}(h:H e=some (.ext (ExcAt e c)))(k:bP K c):Den K P H (.exc c) (.ref e):=by simp only[Den];exact⟨e,rfl,h,k⟩
theorem Den.tup{ds:yas}{a:Addr}{vs:yar}(h:OM K H a vs)(h':af K P H ds vs):Den K P H (.tup ds) (.ref a):=by simp only[Den];exact⟨a,vs,rfl,h,h'⟩
theorem Den.lst{t:Bool}{ds:yas}{a:Addr}{vs:yar}(p:¬P t a)(h:QK K H t a vs)(h':af K P H ds vs):Den K P H (.lst t ds) (.ref a):=by simp only[Den];exact⟨a,vs,rfl,p,h,h'⟩
end
inductive LI where
 |own (ds:yas)|val (d:D)
inductive OS where
 |lst (ds:yas)|dk (kvs:List (Key×D))|dt (kvs:List (List Key×D))|ll (xs:List LI)
inductive Sl where
 |val (d:D)
 |ob (x:OS)
abbrev Sl.own(ds:yas):Sl:=.ob (.lst ds)
def aI(K:yac)(P:yak)(H:Hp)(B:yaj):Nat->List LI->yar->Prop
 |_,[],vs=>vs=[]
 |k,.own ds::r,vs=>∃b us u,vs=.ref b::u/\B k=some b/\H b=some (.lst us)/\af K P H ds us/\aI K P H B (k+1) r u
 |k,.val d::r,vs=>∃v u,vs=v::u/\Den K P H d v/\aI K P H B (k+1) r u
theorem aI.map{K:yac}{P P':yak}{H H':Hp}{B B':yaj}(hd:∀ds vs,af K P H ds vs->af K P' H' ds vs)(hB:∀k b,B k=some b->B' k=some b/\∀us,H b=some (.lst us)->H' b=some (.lst us)):∀{k:Nat} {xs:List LI} {vs:yar},aI K P H B k xs vs->aI K P' H' B' k xs vs
 |_,[],_,h=>by simpa only[aI]using h
 |k,.own ds::r,_,h=>by simp only[aI]at h ⊢;obtain⟨b,us,u,e,h1,h2,h3,h4⟩:=h;exact⟨b,us,u,e,(hB k b h1).1,(hB k b h1).2 us h2,hd ds us h3,aI.map hd hB h4⟩
 |k,.val d::r,_,h=>by simp only[aI]at h ⊢;obtain⟨v,u,e,h1,h2⟩:=h;have h3:=hd [d] [v] (af.one h1);simp only[af]at h3;obtain⟨v',r',e',h4,_⟩:=h3;cases e';exact⟨v,u,e,h4,aI.map hd hB h2⟩
theorem aI.len{K:yac}{P:yak}{H:Hp}{B:yaj}:∀{k:Nat} {xs:List LI} {vs:yar},aI K P H B k xs vs->vs.length=xs.length
 |_,[],_,h=>by simp only[aI]at h;subst h;rfl
 |k,.own ds::r,_,h=>by simp only[aI]at h;obtain⟨b,us,u,rfl,_,_,_,h4⟩:=h;simp[aI.len h4]
 |k,.val d::r,_,h=>by simp only[aI]at h;obtain⟨v,u,rfl,_,h2⟩:=h;simp[aI.len h2]
inductive cS (K:yac) (P:yak) (H:Hp) (B:yaj):OS->HO->Prop where
 |lst {ds:yas} {vs:yar} (h:af K P H ds vs):cS K P H B (.lst ds) (.lst vs)
 |ll {xs:List LI} {vs:yar} (h:aI K P H B 0 xs vs):cS K P H B (.ll xs) (.lst vs)
 |dk {kvs:List (Key×D)} {Sf:List (Key×V)} (e:Sf.map (·.1)=kvs.map (·.1)) (h:af K P H (kvs.map (·.2)) (Sf.map (·.2))):cS K P H B (.dk kvs) (.dK Sf)
 |dt {kvs:List (List Key×D)} {Sf:List (List Key×V)} (e:Sf.map (·.1)=kvs.map (·.1)) (h:af K P H (kvs.map (·.2)) (Sf.map (·.2))):cS K P H B (.dt kvs) (.dT Sf)
def iX:HO->Prop
 |.lst _=>True|.dK _=>True|.dT _=>True|_=>False
theorem iX.nt{o:HO}(h:iX o):NT o:=by cases o<;>first|exact True.intro|exact h.elim
theorem iX.sol{o:HO}(h:iX o):¬Xs o:=by cases o<;>first|exact h.elim|exact fun z=>z
theorem iX.ne{o:HO}(h:iX o):∀φ,o ≠ .ext φ:=fun _ e=>by subst e;exact h
section
variable{K:yac}{P P':yak}{H H':Hp}{B B':yaj}{x:OS}{o:HO}
theorem cS.map(k:∀ds vs,af K P H ds vs->af K P' H' ds vs)(hB:∀k b,B k=some b->B' k=some b/\∀us,H b=some (.lst us)->H' b=some (.lst us))(h:cS K P H B x o):cS K P' H' B' x o:=by
 cases h with
 |lst h=>exact .lst (k _ _ h)
 |ll h=>exact .ll (h.map k hB)
 |dk e h=>exact .dk e (k _ _ h)
 |dt e h=>exact .dt e (k _ _ h)
theorem cS.same(e:ai H H')(h:cS K P H B x o):cS K P H' B x o:=h.map (fun _ _ z=>z.same e) fun _ _ q=>⟨q,fun _ z=>e _ _ z⟩
theorem cS.MG(e:∀t a,P' t a->P t a)(hB:∀k b,B k=some b->B' k=some b)(h:cS K P H B x o):cS K P' H B' x o:=h.map (fun _ _ z=>z.MG e) fun k b q=>⟨hB k b q,fun _ z=>z⟩
theorem cS.Xa(h:cS K P H B x o):iX o:=by cases h<;>exact True.intro
theorem cS.Rg{ds:yas}(h:cS K P H B (.lst ds) o):∃vs,o=.lst vs/\af K P H ds vs:=by
 cases h with
 |lst h=>exact⟨_,rfl,h⟩
end
abbrev Ro:=List (Option Sl)
structure Own where
 B:Addr->Prop
 O:yaj
 S:Addr->Prop
def Own.bad(W:Own)(t:Bool)(a:Addr):Prop:=W.B a∨(∃i,W.O i=some a)∨(t=true/\W.S a)
def Own.drop(W:Own)(i:Nat):Own:=⟨W.B,fun j=>if j=i then none else W.O j,W.S⟩
def Own.put(W:Own)(i:Nat)(a:Addr):Own:=⟨W.B,fun j=>if j=i then some a else W.O j,W.S⟩
theorem Own.O5{W:Own}{i:Nat}{t:Bool}{a:Addr}(h:(W.drop i).bad t a):W.bad t a:=by
 rcases h with h|⟨j,h⟩| h
 ·exact .inl h
 ·have h':(if j=i then none else W.O j)=some a:=h;by_cases e:j=i
  ·rw[LX e]at h';cases h'
  ·rw[LO e]at h';exact .inr (.inl ⟨j,h'⟩)
 ·exact .inr (.inr h)
theorem Own.SH{W:Own}{t:Bool}{a:Addr}(h:W.bad false a):W.bad t a:=by
 rcases h with h|h|⟨h,_⟩
 ·exact .inl h
 ·exact .inr (.inl h)
 ·cases h
def YB(n i k:Nat):Nat:=n*(k+1)+i
theorem rz{n i j k:Nat}(h:j<n):YB n i k≠j:=fun e=>by unfold YB at e;rw[Nat.mul_add]at e;omega
abbrev Own.sub(W:Own)(n i:Nat)(k:Nat):Option Addr:=W.O (YB n i k)
theorem Own.SJ{W:Own}{n i j:Nat}(h:i<n)(k:Nat)(b:Addr)(e:W.sub n j k=some b):(W.drop i).sub n j k=some b:=by show(if YB n j k=i then none else W.O (YB n j k))=_;rw[LO (rz h)];exact e
structure Rel(X:Cx)(W:Own)(H:Hp)(σ:St)(ρ:Ro):Prop where
 val:∀(i:Nat) (d:D),ρ[i]?=some (some (Sl.val d))->∃v,σ[i]?=some (some v)/\Den X.K W.bad H d v
 own:∀(i:Nat) (x:OS),ρ[i]?=some (some (Sl.ob x))->∃a o,W.O i=some a/\σ[i]?=some (some (.ref a))/\H a=some o/\cS X.K W.bad H (W.sub σ.length i) x o
 inj:∀i j a,W.O i=some a->W.O j=some a->i=j
 kn:∀i a,W.O i=some a->X.K.lookup a=none/\(¬W.B a/\¬W.S a)/\∃o,H a=some o/\iX o
 ke:∀i a,W.O i=some a->X.H₀ a=none
 bt:∀a,W.B a->∃o,H a=some o
 st:∀a,W.S a->∃o,H a=some o
 ent:ai X.H₀ H
 tab:cK X.K H
theorem Rel.same{X:Cx}{W:Own}{H H':Hp}{σ:St}{ρ:Ro}(r:Rel X W H σ ρ)(e:ai H H'):Rel X W H' σ ρ where
 val:=fun i d h=>let ⟨v,h1,h2⟩:=r.val i d h;⟨v,h1,h2.same e⟩
 own:=fun i ds h=>let ⟨a,vs,h1,h2,h3,h4⟩:=r.own i ds h;⟨a,vs,h1,h2,e.kp _ _ h3 h4.Xa.nt,h4.same e⟩
 inj:=r.inj
 kn:=fun i a h=>let ⟨h1,h2,o,h3,h4⟩:=r.kn i a h;⟨h1,h2,o,e.kp _ _ h3 h4.nt,h4⟩
 ke:=r.ke
 bt:=fun a h=>let ⟨_,q⟩:=r.bt a h;e.ex q
 st:=fun a h=>let ⟨_,q⟩:=r.st a h;e.ex q
 ent:=r.ent.trans e
 tab:=r.tab.same e
theorem Rel.YC{X:Cx}{W:Own}{H:Hp}{σ:St}{ρ:Ro}(r:Rel X W H σ ρ)(i:Nat)(ds:yas)(h:ρ[i]?=some (some (Sl.own ds))):∃a vs,W.O i=some a/\σ[i]?=some (some (.ref a))/\H a=some (.lst vs)/\af X.K W.bad H ds vs:=by obtain⟨a,o,h1,h2,h3,h4⟩:=r.own i _ h;obtain⟨vs,e,h5⟩:=h4.Rg;subst e;exact⟨a,vs,h1,h2,h3,h5⟩
theorem Rel.tracked{X:Cx}{W:Own}{H:Hp}{σ:St}{ρ:Ro}(r:Rel X W H σ ρ)(t:Bool)(a:Addr)(h:W.bad t a):∃o,H a=some o:=by
 rcases h with h|⟨i,h⟩| ⟨_,h⟩
 ·exact r.bt a h
 ·obtain⟨_,_,o,q,_⟩:=r.kn i a h;exact⟨_,q⟩
 ·exact r.st a h
theorem Rel.fresh{X:Cx}{W:Own}{H:Hp}{σ:St}{ρ:Ro}(r:Rel X W H σ ρ){t:Bool}{p:Addr}(h:H p=none):¬W.bad t p:=fun z=>by obtain⟨o,q⟩:=r.tracked t p z;rw[h]at q;cases q
structure OB(W:Own)(H:Hp)(W':Own)(H':Hp):Prop where
 B:W'.B=W.B
 S:W'.S=W.S
 kp:∀b o,(∀i,W.O i≠some b)->H b=some o->NT o->H' b=some o
 new:∀i a,W'.O i=some a->(∃j,W.O j=some a)∨H a=none
 tb:∀b ps,H b=some (.So ps)->∃more,H' b=some (.So (ps++more))
 ok:cN H->cN H'
theorem OB.keep{W W':Own}{H H':Hp}(f:OB W H W' H')(b:Addr)(o:HO)(h:∀i,W.O i≠some b)(q:H b=some o)(nt:NT o:=by first|exact True.intro|assumption):H' b=some o:=f.kp b o h q nt
theorem OB.ex{W W':Own}{H H':Hp}(f:OB W H W' H'){b:Addr}{o:HO}(h:∀i,W.O i≠some b)(q:H b=some o):∃o',H' b=some o':=by
 by_cases n:NT o
 ·exact⟨o,f.kp b o h q n⟩
 ·cases o with
  |So ps =>
   obtain⟨m,e⟩:=f.tb b ps q;exact⟨_,e⟩
  |_=>exact absurd True.intro n
theorem OB.refl(W:Own)(H:Hp):OB W H W H:=⟨rfl,rfl,fun _ _ _ h _=>h,fun i _ h=>.inl ⟨i,h⟩,fun _ ps h=>⟨#[],by rw[h];simp⟩,id⟩
theorem OB.trans{W W1 W2:Own}{H H1 H2:Hp}(a:OB W H W1 H1)(b:OB W1 H1 W2 H2):OB W H W2 H2:=by
 refine⟨b.B.trans a.B,b.S.trans a.S,fun x o n h t=>b.kp x o (fun i z=>?_) (a.kp x o n h t) t,fun i x h=>?_,fun c ps h=>?_,fun h=>b.ok (a.ok h)⟩
 ·rcases a.new i x z with⟨j,q⟩| q
  ·exact n j q
  ·rw[h]at q;cases q
 ·rcases b.new i x h with⟨j,q⟩| q
  ·exact a.new j x q
  ·by_cases z:∃j,W.O j=some x
   ·exact .inl z
   ·refine .inr ?_;cases e:H x with
    |none=>rfl
    |some o =>
     obtain⟨o',this⟩:=a.ex (fun i w=>z ⟨i,w⟩) e;rw[this]at q;cases q
 ·obtain⟨m1,e1⟩:=a.tb c ps h;obtain⟨m2,e2⟩:=b.tb c _ e1;exact⟨m1++m2,by rw[e2,X1]⟩
theorem OB.same{W:Own}{H H':Hp}(e:ai H H'):OB W H W H':=⟨rfl,rfl,fun _ _ _ h n=>e.kp _ _ h n,fun i _ h=>.inl ⟨i,h⟩,e.tb,e.ok⟩
theorem ai.ins{H₀ H:Hp}(e:ai H₀ H){a:Addr}{o o':HO}(h0:H₀ a=none)(ha:H a=some o)(hm:iX o)(hn:NT o'):ai H₀ (upd H a o') :=
 ⟨fun b u h n=>by rw[aq (aY h h0)];exact e.kp b u h n,fun b ps h=>by rw[aq (aY h h0)];exact e.tb b ps h,fun h=>cN.upd hn (.inr ⟨o,ha,hm.ne,hm.nt⟩) (e.ok h)⟩
theorem OB.upd{W:Own}{H:Hp}{i:Nat}{a:Addr}{o o':HO}(oa:W.O i=some a)(ha:H a=some o)(hm:iX o)(hn:NT o'):OB W H W (upd H a o') :=
 ⟨rfl,rfl,fun b u n h _=>by rw[aq fun e=>n i (by rw[e];exact oa)];exact h,fun j _ h=>.inl ⟨j,h⟩,fun b ps h=>⟨#[],by rw[aq (fun e=>by subst e;rw[ha]at h;cases h;exact hm),h];simp⟩,cN.upd hn (.inr ⟨o,ha,hm.ne,hm.nt⟩)⟩
structure eU where
 nx:Ro->Prop
 rt:D->Prop
 bk:Ro->Prop:=fun _=>False
 ct:Ro->Prop:=fun _=>False
abbrev DE:=Ro->(D->Prop)->Prop
abbrev DT:=Ro->(Bool->Prop)->Prop
abbrev DA:=Ro->(yas->Prop)->Prop
abbrev DS:=eU->Ro->Prop
inductive DP (X:Cx) (pins:yab) (σ:St) (W:Own) (H:Hp) (Q:D->Prop) (u:Value) (s':Shared):Prop
 |mk (v:V) (H':Hp) (d:D) (_:Inv X pins σ H' s') (_:RelV v u) (_:ai H H') (_:Den X.K W.bad H' d v) (_:Q d)
inductive DTP (X:Cx) (pins:yab) (σ:St) (H:Hp) (Q:Bool->Prop) (b:Bool) (s':Shared):Prop
 |mk (H':Hp) (_:Inv X pins σ H' s') (_:ai H H') (_:Q b)
inductive DAP (X:Cx) (pins:yab) (σ:St) (W:Own) (H:Hp) (Q:yas->Prop) (us:yad) (s':Shared):Prop
 |mk (vs:yar) (H':Hp) (ds:yas) (_:Inv X pins σ H' s') (_:Vals vs us) (_:ai H H') (_:af X.K W.bad H' ds vs) (_:Q ds)
def SPf(X:Cx)(E:eU)(W':Own)(σ':St)(H':Hp)(f:Flow):Prop :=
 match f with
 |.next=>∃NQ,Rel X W' H' σ' NQ/\E.nx NQ
 |.brk=>∃NQ,Rel X W' H' σ' NQ/\E.bk NQ
 |.cont=>∃NQ,Rel X W' H' σ' NQ/\E.ct NQ
 |.ret u=>∃v d,RelV v u/\Den X.K W'.bad H' d v/\E.rt d
inductive UE (X:Cx) (pins:yab) (W:Own) (H:Hp) (E:eU) (f:Flow) (s':Shared):Prop
 |mk (W':Own) (σ':St) (H':Hp) (_:Inv X pins σ' H' s') (_:OB W H W' H') (_:SPf X E W' σ' H' f)
def Mv(X:Cx)(e:Expr)(t:DE):Prop :=
 ∀ (pins:yab) (s:Shared) (σ:St) (H:Hp) (W:Own) (ρ:Ro) (Q:D->Prop),Inv X pins σ H s->Rel X W H σ ρ->t ρ Q →
  wpAny (model X.prog X.w) X.A (eval e X.env) (DP X pins σ W H Q) X.xe s
def Tn(X:Cx)(e:Expr)(t:DT):Prop :=
 ∀ (pins:yab) (s:Shared) (σ:St) (H:Hp) (W:Own) (ρ:Ro) (Q:Bool->Prop),Inv X pins σ H s->Rel X W H σ ρ->t ρ Q →
  wpAny (model X.prog X.w) X.A (isTrue e X.env (eval e X.env)) (DTP X pins σ H Q) X.xe s
def VI(X:Cx)(e:Expr)(t:DT):Prop :=
 ∀ (whole:Sem Value) (pins:yab) (s:Shared) (σ:St) (H:Hp) (W:Own) (ρ:Ro) (Q:Bool->Prop),Inv X pins σ H s->Rel X W H σ ρ->t ρ Q →
  wpAny (model X.prog X.w) X.A (isTrue e X.env whole) (DTP X pins σ H Q) X.xe s
theorem VI.pt{X:Cx}{e:Expr}{t:DT}(h:VI X e t):Tn X e t:=h _
def Qc(X:Cx)(es:yai)(t:DA):Prop :=
 ∀ (pos:Pos) (pins:yab) (s:Shared) (σ:St) (H:Hp) (W:Own) (ρ:Ro) (Q:yas->Prop),Inv X pins σ H s->Rel X W H σ ρ->t ρ Q →
  wpAny (model X.prog X.w) X.A (spliced (backTo pos (starEach es X.env))) (DAP X pins σ W H Q) X.xe s
def Q9(X:Cx)(st:Stmt)(t:DS):Prop :=
 ∀ (pins:yab) (s:Shared) (σ:St) (H:Hp) (W:Own) (ρ:Ro) (E:eU),Inv X pins σ H s->Rel X W H σ ρ->t E ρ →
  wpAny (model X.prog X.w) X.A (exec st X.env) (UE X pins W H E) X.xe s
def bq(X:Cx)(st:yal)(t:DS):Prop :=
 ∀ (pins:yab) (s:Shared) (σ:St) (H:Hp) (W:Own) (ρ:Ro) (E:eU),Inv X pins σ H s->Rel X W H σ ρ->t E ρ →
  wpAny (model X.prog X.w) X.A (execs st X.env) (UE X pins W H E) X.xe s
def qA(X:Cx)(t:DE):TE:=fun σ H Q=>∃W ρ Qd,Rel X W H σ ρ/\t ρ Qd/\∀v H' d,ai H H'->Den X.K W.bad H' d v->Qd d->Q v H'
def Kh(X:Cx)(t:DS):TS:=fun D σ H=>∃W ρ Ed,Rel X W H σ ρ/\t Ed ρ ∧
 (∀W' σ' H' NQ,OB W H W' H'->Rel X W' H' σ' NQ->Ed.nx NQ->D.nx σ' H') ∧
 (∀W' H' v d,OB W H W' H'->Den X.K W'.bad H' d v->Ed.rt d->D.rt v H') ∧
 (∀W' σ' H' NQ,OB W H W' H'->Rel X W' H' σ' NQ->Ed.bk NQ->D.bk σ' H') ∧
 (∀W' σ' H' NQ,OB W H W' H'->Rel X W' H' σ' NQ->Ed.ct NQ->D.ct σ' H')
section
variable{X:Cx}
theorem Mv.pe{e:Expr}{t:DE}(h:Mv X e t):PE X e (qA X t):=by intro pins s σ H Q I q;obtain⟨W,ρ,Qd,r,ht,k⟩:=q;exact LS (h pins s σ H W ρ Qd I r ht) fun u s1 ⟨v,H',d,I1,rv,e1,hd,qd⟩=>⟨v,H',I1,rv,k v H' d e1 hd qd⟩
theorem bq.ps{st:yal}{t:DS}(h:bq X st t):UT X st (Kh X t):=by
 intro pins s σ H D I q;obtain⟨W,ρ,Ed,r,ht,k1,k2,k3,k4⟩:=q;refine LS (h pins s σ H W ρ Ed I r ht) fun f s1 ⟨W',σ',H',I1,fw,q⟩=>?_
 cases f with
 |next=>obtain⟨NQ,r',q'⟩:=q;exact⟨σ',H',I1,k1 W' σ' H' NQ fw r' q'⟩
 |brk=>obtain⟨NQ,r',q'⟩:=q;exact⟨σ',H',I1,k3 W' σ' H' NQ fw r' q'⟩
 |cont=>obtain⟨NQ,r',q'⟩:=q;exact⟨σ',H',I1,k4 W' σ' H' NQ fw r' q'⟩
 |ret u=>obtain⟨v,d,rv,hd,q'⟩:=q;exact⟨v,σ',H',I1,rv,k2 W' H' v d fw hd q'⟩
theorem Mv.of{e:Expr}{te:TE}{t:DE}(h:PE X e te)(k:∀σ H W ρ Q,Rel X W H σ ρ->t ρ Q->te σ H fun v H'=>ai H H'/\∃d,Den X.K W.bad H' d v/\Q d):Mv X e t:=by intro pins s σ H W ρ Q I r ht;exact LS (h pins s σ H _ I (k σ H W ρ Q r ht)) fun u s1 ⟨v,H',I1,rv,e1,d,hd,q⟩=>⟨v,H',d,I1,rv,e1,hd,q⟩
end
section
variable{X:Cx}{a b c:Expr}{ta tb:DE}{pos:Pos}
def i9(i:Nat):DE:=fun ρ Q=>match ρ[i]? with
 |some (some (.val d))=>Q d
 |_=>False
theorem Et{i:Nat}{ρ:Ro}{Q:D->Prop}(h:i9 i ρ Q):∃d,ρ[i]?=some (some (.val d))/\Q d:=by
 unfold i9 at h;split at h
 ·rename_i d e;exact⟨d,e,h⟩
 ·exact h.elim
def dC(d:D):DE:=fun _ Q=>Q d
theorem dv (i:Nat) {x:Str} {pos:Pos} (hN:X.N[i]?=some x:=by rfl) (hv:Z1 X.env.scope x:=by first|exact Or.inl rfl|exact Or.inr (Or.inl rfl)|exact Or.inr (Or.inr rfl)) (hd:(x==("__debug__" : Str))=false:=by decide)
  (RN:(x==("__classdict__" : Str))=false:=by decide):Mv X (.Name x pos) (i9 i) :=
 Mv.of (we hN hv hd RN) fun σ H W ρ Q r ht=>by obtain⟨d,e,q⟩:=Et ht;obtain⟨v,e1,e2⟩:=r.val i d e;exact⟨v,e1,ai.refl H,d,e2,q⟩
theorem ag{i j pos}:Mv X (.Constant (.int i) j pos) (dC (.int i)):=Mv.of AZ fun _ H _ _ _ _ q=>⟨ai.refl H,_,Den.int i,q⟩
theorem qm{i j pos}:Mv X (.Constant (.bool i) j pos) (dC (.bl i)):=Mv.of qJ fun _ H _ _ _ _ q=>⟨ai.refl H,_,Den.bl i,q⟩
theorem mJ{j pos}:Mv X (.Constant .none j pos) (dC .Nx):=Mv.of II fun _ H _ _ _ _ q=>⟨ai.refl H,_,Den.Nx,q⟩
theorem ak{x j pos}:Mv X (.Constant (.str x) j pos) (dC (.str x)):=Mv.of A2 fun _ H _ _ _ _ q=>⟨ai.refl H,_,Den.str x,q⟩
abbrev RD2:=D->D->(D->Prop)->Prop
def PK(X:Cx)(f:Value->Value->Sem Value)(r:RD2):Prop :=
 ∀ (pins:yab) (s:Shared) (σ:St) (H:Hp) (W:Own) (x y:D) (v u:V) (vv uu:Value) (Q:D->Prop),Inv X pins σ H s->(∀t a,W.bad t a->∃o,H a=some o)->RelV v vv->RelV u uu->Den X.K W.bad H x v->Den X.K W.bad H y u->r x y Q →
  wpAny (model X.prog X.w) X.A (f vv uu) (DP X pins σ W H Q) X.xe s
def X7(r:RD2)(ta tb:DE):DE:=fun ρ Q=>ta ρ fun x=>tb ρ fun y=>r x y Q
theorem qf(ha:Mv X a ta)(hb:Mv X b tb){pins:yab}{s:Shared}{σ:St}{H:Hp}{W:Own}{ρ:Ro}{R:D->D->Prop}(I:Inv X pins σ H s)(r:Rel X W H σ ρ)(h:ta ρ fun x=>tb ρ fun y=>R x y)
  {α:Type} {Q:α->Shared->Prop} {f:Value->Value->Sem α}
  (hf:∀vv uu s2 v u x y H2,Inv X pins σ H2 s2->ai H H2->RelV v vv->RelV u uu->Den X.K W.bad H2 x v->Den X.K W.bad H2 y u->R x y->wpAny (model X.prog X.w) X.A (f vv uu) Q X.xe s2) :
  wpAny (model X.prog X.w) X.A (eval a X.env) (fun v LP=>wpAny (model X.prog X.w) X.A (eval b X.env) (fun u LN=>wpAny (model X.prog X.w) X.A (f v u) Q X.xe LN) X.xe LP) X.xe s:=by
 refine LS (ha pins s σ H W ρ _ I r h) fun vv s1 ⟨v,H1,x,I1,rv,e1,hx,q1⟩=>?_
 refine LS (hb pins s1 σ H1 W ρ _ I1 (r.same e1) q1) fun uu s2 ⟨u,H2,y,I2,ru,e2,hy,q2⟩=>?_
 exact hf vv uu s2 v u x y H2 I2 (e1.trans e2) rv ru (hx.same e2) hy q2
theorem DP.up{pins:yab}{σ:St}{W:Own}{H H1:Hp}{Q:D->Prop}{u:Value}{s':Shared}(e:ai H H1)(h:DP X pins σ W H1 Q u s'):DP X pins σ W H Q u s':=by obtain⟨v,H',d,I,r,e1,hd,q⟩:=h;exact⟨v,H',d,I,r,e.trans e1,hd,q⟩
theorem aG{op:Operator}{r:RD2}(ho:PK X (binaryOp op) r)(ha:Mv X a ta)(hb:Mv X b tb):Mv X (.BinOp a op b pos) (X7 r ta tb):=by intro pins s σ H W ρ Q I rr h;refine wpAny_BinOp (qf ha hb I rr h fun vv uu s2 v u x y H2 I2 e rv ru hx hy q=>?_);exact LS (ho pins s2 σ H2 W x y v u vv uu Q I2 (rr.same e).tracked rv ru hx hy q) fun _ _ z=>z.up e
theorem JQ{op:UnaryOp}{r:V->Hp->VK->Prop}{rd:D->(D->Prop)->Prop}(ho:UnR X (unaryOp op) r)(ha:Mv X a ta)
  (k:∀P H d v Q,Den X.K P H d v->rd d Q->r v H fun v' H'=>ai H H'/\∃d',Den X.K P H' d' v'/\Q d'):Mv X (.UnaryOp op a pos) (fun ρ Q=>ta ρ fun x=>rd x Q):=by
 intro pins s σ H W ρ Q I rr h;refine UnaryOp_ (LS (ha pins s σ H W ρ _ I rr h) fun vv s1 ⟨v,H1,x,I1,rv,e1,hx,q1⟩=>?_);exact LS (ho pins s1 σ H1 v vv _ I1 rv (k _ H1 x v Q hx q1)) fun u s2 ⟨w',H2,I2,r2,e2,d,hd,q2⟩=>⟨w',H2,d,I2,r2,e1.trans e2,hd,q2⟩
def jh:Option (Option Sl)->(yas->Prop)->Prop
 |some (some (.ob (.lst ds))),R=>R ds
 |_,_=>False
theorem sh{x:Option (Option Sl)}{R:yas->Prop}(h:jh x R):∃ds,x=some (some (.own ds))/\R ds:=by
 unfold jh at h;split at h
 ·exact⟨_,rfl,h⟩
 ·exact h.elim
theorem IE(ds:yas)(r:Ro)(R:yas->Prop):jh (some (Sl.own ds)::r)[0]? R=R ds:=rfl
theorem IF(n:Nat)(x:Option Sl)(r:Ro)(R:yas->Prop):jh (x::r)[n+1]? R=jh r[n]? R:=rfl
def Zy:D->(Bool->Prop)->Prop
 |.bl k,Q=>Q k
 |_,_=>False
theorem mE{x:D}{Q:Bool->Prop}(h:Zy x Q):∃k,x=.bl k/\Q k:=by
 cases x<;>first|exact False.elim h|exact⟨_,rfl,h⟩
theorem Jv(k:Bool)(Q:Bool->Prop):Zy (.bl k) Q=Q k:=rfl
def GN(ta:DE):DE:=fun ρ Q=>ta ρ fun x=>∃i,x=.int i/\Q (.int (-i))
theorem G9(ha:Mv X a ta):Mv X (.UnaryOp .USub a pos) (GN ta) :=
 JQ (rd:=fun x Q=>∃i,x=.int i/\Q (.int (-i))) Bw ha fun P H d v Q hd ⟨i,e,q⟩=>by subst e;exact⟨i,hd.O4,ai.refl H,_,Den.int _,q⟩
theorem PK.of{f:Value->Value->Sem Value}{r:R2}{rd:RD2}(h:SF X f r)(k:∀P H x y v u Q,Den X.K P H x v->Den X.K P H y u->rd x y Q->r v u H fun v' H'=>ai H H'/\∃d',Den X.K P H' d' v'/\Q d'):PK X f rd:=by intro pins s σ H W x y v u vv uu Q I _ rv ru hx hy q;exact LS (h pins s σ H v u vv uu _ I rv ru (k _ H x y v u Q hx hy q)) fun _ s2 ⟨w',H2,I2,r2,e2,d,hd,q2⟩=>⟨w',H2,d,I2,r2,e2,hd,q2⟩
def YE(C:Int->Int->Prop)(g:Int->Int->D):RD2:=fun x y Q=>match x,y with
 |.int i,.int j=>C i j/\Q (g i j)
 |_,_=>False
def fy(g:Int->Int->D):RD2:=fun x y Q=>match x,y with
 |.int i,.int j=>Q (g i j)
 |_,_=>False
theorem IV{C:Int->Int->Prop}{g:Int->Int->D}{x y:D}{Q:D->Prop}(h:YE C g x y Q):∃i j,x=.int i/\y=.int j/\C i j/\Q (g i j):=by
 unfold YE at h;split at h
 ·exact⟨_,_,rfl,rfl,h⟩
 ·exact h.elim
theorem nV{g:Int->Int->D}{x y:D}{Q:D->Prop}(h:fy g x y Q):∃i j,x=.int i/\y=.int j/\Q (g i j):=by
 unfold fy at h;split at h
 ·exact⟨_,_,rfl,rfl,h⟩
 ·exact h.elim
theorem PK.ofI{f:Value->Value->Sem Value}{C:Int->Int->Prop}{g:Int->Int->Int}(h:SF X f (rI C fun i j=>.int (g i j))):PK X f (YE C fun i j=>.int (g i j)) :=
 PK.of h fun P H x y v u Q hx hy z=>by obtain⟨i,j,e1,e2,hc,q⟩:=IV z;subst e1 e2;exact⟨i,j,hx.O4,hy.O4,hc,ai.refl H,_,Den.int _,q⟩
theorem PK.ofI0{f:Value->Value->Sem Value}{g:Int->Int->Int}(h:SF X f (W5 fun i j=>.int (g i j))):PK X f (fy fun i j=>.int (g i j)) :=
 PK.of h fun P H x y v u Q hx hy z=>by obtain⟨i,j,e1,e2,q⟩:=nV z;subst e1 e2;exact⟨i,j,hx.O4,hy.O4,ai.refl H,_,Den.int _,q⟩
theorem PK.Xv{f:Value->Value->Sem Value}{g:Int->Int->Bool}(h:SF X f (W5 fun i j=>.bl (g i j))):PK X f (fy fun i j=>.bl (g i j)) :=
 PK.of h fun P H x y v u Q hx hy z=>by obtain⟨i,j,e1,e2,q⟩:=nV z;subst e1 e2;exact⟨i,j,hx.O4,hy.O4,ai.refl H,_,Den.bl _,q⟩
theorem Ip:PK X (binaryOp .Add) (fy fun i j=>.int (i+j)):=PK.ofI0 IA
theorem mU:PK X (binaryOp .Sub) (fy fun i j=>.int (i - j)):=PK.ofI0 ID
theorem jU:PK X (compareOp .Lt) (fy fun i j=>.bl (decide (i<j))):=PK.Xv Km
theorem DU:PK X (compareOp .LtE) (fy fun i j=>.bl (decide (i<=j))):=PK.Xv Kl
theorem uO:PK X (compareOp .Gt) (fy fun i j=>.bl (decide (j<i))):=PK.Xv Kk
theorem DR:PK X (compareOp .GtE) (fy fun i j=>.bl (decide (j<=i))):=PK.Xv Kj
def Bd(n:Nat)(x:Int):Prop:=x.natAbs<2 ^ n
theorem Bd.mono{m n:Nat}{x:Int}(h:Bd m x)(l:m<=n):Bd n x:=RX h (ZP (by decide) l)
theorem Bd.bits{n:Nat}{x:Int}(h:Bd n x):Builtin.Int.intBits x<=n:=by
 unfold Bd at h;unfold Builtin.Int.intBits;split
 ·exact S9 _
 ·rename_i hz;have hp:x.natAbs≠0:=by
   intro e;apply hz;have:x=0:=Int.natAbs_eq_zero.mp e;simp[this]
  have:=(Nat.log2_lt hp).mpr h;omega
def CM(i j:Int):Prop:=Bd 64 i∨Bd 64 j∨(Bd 100000 i/\Bd 100000 j)
theorem CM.ok{i j:Int}(h:CM i j):IntMulOk i j:=by
 rcases h with h|h|⟨h,h'⟩
 ·exact .of_left h.bits
 ·exact .of_right h.bits
 ·exact .of_bits (Sw h.bits (by decide)) (Sw h'.bits (by decide))
theorem Fc:SF X (binaryOp .Mult) (rI CM fun i j=>.int (i*j)):=opI fun _ _ _ _ _ _ _ hc q=>mul_int q hc.ok
theorem dJ:PK X (binaryOp .Mult) (YE CM fun i j=>.int (i*j)):=PK.ofI Fc
def CD(_:Int)(j:Int):Prop:=j≠0/\Bd 8000 j
theorem CD.noPy{i j:Int}(h:CD i j):Builtin.divisionGoesByPylong i j=false:=by
 refine PyProof.noPylong_of_log2 ?_;have hz:j.natAbs≠0:=fun e=>h.1 (Int.natAbs_eq_zero.mp e)
 have:=(Nat.log2_lt hz).mpr h.2;omega
theorem CH:SF X (binaryOp .FloorDiv) (rI CD fun i j=>.int (i.fdiv j)):=opI fun _ _ _ _ _ _ _ hc q=>floordiv_int hc.1 q (.inl hc.noPy)
theorem la:PK X (binaryOp .FloorDiv) (YE CD fun i j=>.int (i.fdiv j)):=PK.ofI CH
theorem eT:PK X (binaryOp .Mod) (YE (fun _ j=>j≠0) fun i j=>.int (i.fmod j)):=PK.ofI Fb
def dB(t:DE):DT:=fun ρ Q=>t ρ fun x=>Zy x Q
theorem kW{op:CmpOp}{r:RD2}(ho:PK X (compareOp op) r)(ha:Mv X a ta)(hb:Mv X b tb)(hm:behindInMarks op b=false:=by first|exact vN _ (by decide) (by decide)|rfl):Mv X (.Compare a [op] [b] pos) (X7 r ta tb):=by intro pins s σ H W ρ Q I rr h;refine wpAny_Compare1 (qf ha hb I rr h fun vv uu s2 v u x y H2 I2 e rv ru hx hy q=>?_) hm;exact LS (ho pins s2 σ H2 W x y v u vv uu Q I2 (rr.same e).tracked rv ru hx hy q) fun _ _ z=>z.up e
theorem aK{op:CmpOp}{r:RD2}(ho:PK X (compareOp op) r)(ha:Mv X a ta)(hb:Mv X b tb)(hm:behindInMarks op b=false:=by first|exact vN _ (by decide) (by decide)|rfl):Tn X (.Compare a [op] [b] pos) (dB (X7 r ta tb)):=by
 intro pins s σ H W ρ Q I rr h;refine zBp (LS (ha pins s σ H W ρ _ I rr h) fun vv s1 ⟨v,H1,x,I1,rv,e1,hx,q1⟩=>LS (hb pins s1 σ H1 W ρ _ I1 (rr.same e1) q1) fun uu s2 ⟨u,H2,y,I2,ru,e2,hy,q2⟩=>
  LS (ho pins s2 σ H2 W x y v u vv uu _ I2 ((rr.same e1).same e2).tracked rv ru (hx.same e2) hy q2) fun c s3 ⟨z,H3,d,I3,r3,e3,hd,q3⟩=>?_) hm
 obtain⟨k,ek,q3⟩:=mE q3;subst ek;have hz:=hd.VH;subst hz;cases r3;exact Wj ⟨H3,I3,e1.trans (e2.trans e3),q3⟩
theorem eQ{e:Expr}{t:DE}(h:Mv X e t)(he:∀whole,isTrue e X.env whole=(do let v←whole;standAt e.pos;holding [v] (truthy v)):=by intro _;rfl):Tn X e (dB t):=by intro pins s σ H W ρ Q I rr hw;refine isTrue_plain (LS (h pins s σ H W ρ _ I rr hw) fun vv s1 ⟨v,H1,x,I1,rv,e1,hx,q⟩=>?_) (he _);obtain⟨k,ek,q⟩:=mE q;subst ek;have hz:=hx.VH;subst hz;cases rv;exact Wj ⟨H1,I1,e1,q⟩
variable{tA tB':DT}{rest:yai}
def KQ(t u:DT):DT:=fun ρ Q=>t ρ fun c=>if c=true then u ρ Q else Q false
def dOr(t u:DT):DT:=fun ρ Q=>t ρ fun c=>if c=true then Q true else u ρ Q
def B4(t:DT):DT:=fun ρ Q=>t ρ fun c=>Q (!c)
theorem jc(ha:Tn X a tA):VI X (.BoolOp .Or [a] pos) tA:=by
 intro wh pins s σ H W ρ Q I rr h;refine isTrue_or (LS (ha pins s σ H W ρ Q I rr h) fun c s1 e=>?_);cases c with
 |false=>exact isTrue_or_nil e
 |true=>exact e
theorem lF(ha:Tn X a tA)(hb:VI X (.BoolOp .Or (b::rest) pos) tB'):VI X (.BoolOp .Or (a::b::rest) pos) (dOr tA tB'):=by
 intro wh pins s σ H W ρ Q I rr h;refine isTrue_or (LS (ha pins s σ H W ρ _ I rr h) fun c s1 ⟨H1,I1,e1,q1⟩=>?_);cases c with
 |true=>exact⟨H1,I1,e1,q1⟩
 |false=>exact LS (hb wh pins s1 σ H1 W ρ Q I1 (rr.same e1) q1) fun _ _ ⟨H2,I2,e2,q2⟩=>⟨H2,I2,e1.trans e2,q2⟩
theorem eP(ha:Tn X a tA):Tn X (.UnaryOp .Not a pos) (B4 tA):=by intro pins s σ H W ρ Q I rr h;exact isTrue_not (LS (ha pins s σ H W ρ (fun c=>Q (!c)) I rr h) fun _ _ ⟨a,b,c,d⟩=>⟨a,b,c,d⟩)
def Dv(ta tb:DE):DE:=fun ρ Q=>ta ρ fun x=>Zy x fun c=>if c=true then tb ρ Q else Q (.bl false)
def KU(ta tb:DE):DE:=fun ρ Q=>ta ρ fun x=>Zy x fun c=>if c=true then Q (.bl true)else tb ρ Q
def DC(ta:DE):DE:=fun ρ Q=>ta ρ fun x=>Zy x fun c=>Q (.bl (!c))
theorem Ab{op}{t:DE}(h:Mv X a t):Mv X (.BoolOp op [a] pos) t:=fun pins s σ H W ρ Q I rr hw=>BoolOp_one (h pins s σ H W ρ Q I rr hw)
theorem z0(ha:Mv X a ta)(hb:Mv X (.BoolOp .And (b::rest) pos) tb):Mv X (.BoolOp .And (a::b::rest) pos) (Dv ta tb):=by
 intro pins s σ H W ρ Q I rr h;refine BoolOp_and (LS (ha pins s σ H W ρ _ I rr h) fun vv s1 ⟨v,H1,x,I1,rv,e1,hx,q1⟩=>?_);obtain⟨c,ec,q1⟩:=mE q1;subst ec;have hz:=hx.VH;subst hz;cases rv;refine Wj ?_;cases c with
 |true=>exact LS (hb pins s1 σ H1 W ρ Q I1 (rr.same e1) q1) fun _ _ z=>z.up e1
 |false=>exact⟨.bl false,H1,_,I1,rfl,e1,Den.bl _,q1⟩
theorem Ha(ha:Mv X a ta):Mv X (.UnaryOp .Not a pos) (DC ta):=by intro pins s σ H W ρ Q I rr h;refine UnaryOp_ (LS (ha pins s σ H W ρ _ I rr h) fun vv s1 ⟨v,H1,x,I1,rv,e1,hx,q1⟩=>?_);obtain⟨c,ec,q1⟩:=mE q1;subst ec;have hz:=hx.VH;subst hz;cases rv;exact not_of (Wj ⟨.bl (!c),H1,_,I1,rfl,e1,Den.bl _,q1⟩)
def dIf(t:DT)(ta tb:DE):DE:=fun ρ Q=>t ρ fun c=>if c=true then ta ρ Q else tb ρ Q
theorem jb(hc:Tn X c tA)(ha:Mv X a ta)(hb:Mv X b tb):Mv X (.IfExp c a b pos) (dIf tA ta tb):=by
 intro pins s σ H W ρ Q I rr h;refine wpAny_IfExp (LS (hc pins s σ H W ρ _ I rr h) fun d s1 ⟨H1,I1,e1,q1⟩=>?_);cases d with
 |true=>exact LS (ha pins s1 σ H1 W ρ Q I1 (rr.same e1) q1) fun _ _ z=>z.up e1
 |false=>exact LS (hb pins s1 σ H1 W ρ Q I1 (rr.same e1) q1) fun _ _ z=>z.up e1
def ixQ(ds:yas):Int->(D->Prop)->Prop
 |.ofNat n,Q=>match ds[n]? with
  |some d=>Q d
  |none=>False
 |i,Q=>∃d,Rp ds i=some d/\Q d
theorem qy(ds:yas)(i:Int)(Q:D->Prop):ixQ ds i Q=∃d,Rp ds i=some d/\Q d:=by
 cases i with
 |ofNat n =>
  show(match ds[n]? with
   |some d=>Q d
   |none=>False)=_
  by_cases h:n<ds.length
  ·have e:Rp ds (Int.ofNat n)=some ds[n]:=cT (by simp[h]);rw[e,Yj h];exact propext ⟨fun q=>⟨_,rfl,q⟩,fun⟨_,q,z⟩=>by cases q;exact z⟩
  ·rw[Zn (Uy.mp h)];refine propext ⟨False.elim,fun⟨d,q,z⟩=>?_⟩
   replace q:Rp ds (n:Int)=some d:=q
   unfold Rp ixN at q;rw[LX (Int.natCast_nonneg n),LO (by omega)]at q;cases q
 |negSucc n=>rfl
def fz:RD2:=fun x y Q=>match x,y with
 |.tup ds,.int i=>ixQ ds i Q
 |.lst _ ds,.int i=>ixQ ds i Q
 |_,_=>False
theorem Ft{x y:D}{Q:D->Prop}(h:fz x y Q):∃ds i d,(x=.tup ds∨∃ t,x=.lst t ds)/\y=.int i/\Rp ds i=some d/\Q d:=by
 unfold fz at h;split at h
 ·rw[qy]at h;obtain⟨d,h⟩:=h;exact⟨_,_,d,.inl rfl,rfl,h⟩
 ·rw[qy]at h;obtain⟨d,h⟩:=h;exact⟨_,_,d,.inr ⟨_,rfl⟩,rfl,h⟩
 ·exact h.elim
theorem vf{K:yac}{P:yak}{H:Hp}{ds:yas}{vs:yar}{i:Int}{d:D}(h:af K P H ds vs)(e:Rp ds i=some d):∃v,Rp vs i=some v/\Den K P H d v:=by
 unfold Rp at e ⊢;rw[h.len];cases q:ixN ds.length i with
 |none=>rw[q]at e;cases e
 |some j =>
  rw[q]at e;exact h.get e
theorem az(ha:Mv X a ta)(hb:Mv X b tb)(hs:xM b:=by intro _ _;rfl):Mv X (.Subscript a b pos) (X7 fz ta tb):=by
 intro pins s σ H W ρ Q I rr h;refine Subscript_ (qf ha hb I rr h fun vv uu s2 v u x y H2 I2 e rv ru hx hy q=>?_)
 replace q:=Ft q
 obtain⟨ds,i,d,ex,ey,ei,q⟩:=q;subst ey;have hu:=hy.O4;subst hu;have fin:∀(v':V),Den X.K W.bad H2 d v'->ai H2 H2/\∃d',Den X.K W.bad H2 d' v'/\Q d':=fun v' hd=>⟨ai.refl _,d,hd,q⟩
 rcases ex with ex|⟨tg,ex⟩
 ·subst ex;obtain⟨p,vs,ev,hq,hd⟩:=hx.Sq;subst ev;obtain⟨v',e1,e2⟩:=vf hd ei;exact LS (HL a b pins s2 σ H2 _ _ vv uu (fun v' H'=>ai H2 H'/\∃d',Den X.K W.bad H' d' v'/\Q d') I2 rv ru ⟨p,vs,i,v',rfl,rfl,hq.w,e1,fin v' e2⟩ (hs _ _))
   fun _ s3 ⟨w',H3,I3,r3,e3,d',TR,q'⟩=>⟨w',H3,d',I3,r3,e.trans e3,TR,q'⟩
 ·subst ex;obtain⟨p,vs,ev,_,hq,hd⟩:=hx.Rg;subst ev;obtain⟨v',e1,e2⟩:=vf hd ei;exact LS (EO a b pins s2 σ H2 _ _ vv uu (fun v' H'=>ai H2 H'/\∃d',Den X.K W.bad H' d' v'/\Q d') I2 rv ru ⟨p,vs,i,v',rfl,rfl,hq,e1,fin v' e2⟩ (hs _ _))
   fun _ s3 ⟨w',H3,I3,r3,e3,d',TR,q'⟩=>⟨w',H3,d',I3,r3,e.trans e3,TR,q'⟩
end
section
variable{X:Cx}{e:Expr}{es:yai}{te:DE}{t:DA}{pos:Pos}
def mH:DA:=fun _ Q=>Q []
def lD(ta:DE)(tr:DA):DA:=fun ρ Q=>ta ρ fun x=>tr ρ fun xs=>Q (x::xs)
theorem ae:Qc X [] mH:=fun _ _ _ _ H W ρ Q I _ h=>Calls.spliced_nil ⟨[],H,[],I,.nil,ai.refl H,af.nil,h⟩
theorem aa(ha:Mv X e te)(hr:Qc X es t)(hs:starEach (e::es) X.env=(false,eval e X.env)::starEach es X.env:=by rfl):Qc X (e::es) (lD te t):=by intro pos pins s σ H W ρ Q I rr h;rw[hs];show wpAny _ _ (spliced ((false,eval e X.env)::backTo pos (starEach es X.env))) _ _ s;refine Calls.spliced_cons (LS (ha pins s σ H W ρ _ I rr h) fun u s1 ⟨v,H1,x,I1,r1,e1,hx,q1⟩=>?_);exact LS (hr pos pins s1 σ H1 W ρ _ I1 (rr.same e1) q1) fun us s2 ⟨vs,H2,xs,I2,r2,e2,hxs,q2⟩=>⟨v::vs,H2,x::xs,I2,.cons r1 r2,e1.trans e2,af.cons (hx.same e2) hxs,q2⟩
theorem ai.upd{H:Hp}{p:Addr}{o:HO}(h:H p=none)(n:NT o:=by exact True.intro):ai H (upd H p o):=⟨fun b u e _=>by rw[aq (aY e h)];exact e,fun b ps e=>⟨#[],by rw[aq (aY e h),e];simp⟩,cN.upd n (.inl h)⟩
def B6(t:DA):DE:=fun ρ Q=>t ρ fun ds=>ds.length<=sizeLine/\Q (.tup ds)
def B3(t:DA):DE:=fun ρ Q=>t ρ fun ds=>ds.length<=sizeLine/\Q (.lst true ds)
theorem bF{x1}(h:Qc X es t):Mv X (.Tuple es x1 pos) (B6 t):=by intro pins s σ H W ρ Q I rr hq;refine wpAny_Tuple_spliced (LS (h pos pins s σ H W ρ _ I rr hq) fun us s1 ⟨vs,H1,ds,I1,r,e1,hd,z,q⟩=>?_);rw[<- hd.len]at z;refine⟨by rw[<- r.length];exact z,?_⟩;have hf:H1 s1.heap.objs.size=none:=I1.Nw.fresh (O2 _);refine⟨.ref s1.heap.objs.size,L2.upd H1 s1.heap.objs.size (.tup vs),_,I1.laid (t':=s1.toks) (fun b u e=>P7 _ e) (O2 _) ⟨z,us,r,⟨_,Rm _ rfl,rfl,_,rfl⟩⟩,rfl,e1.trans (ai.upd hf),Den.tup (OM.of ax) (hd.same (ai.upd hf)),q⟩
theorem Inv.Pq{pins:yab}{σ:St}{H:Hp}{s:Shared}(I:Inv X pins σ H s):X.K.lookup s.heap.objs.size=none:=by
 cases e:X.K.lookup s.heap.objs.size with
 |none=>rfl
 |some o=>exact absurd (O8 (I.QI _ _ e)) (VD _)
theorem b9(h:Qc X es t):Mv X (.List es pos) (B3 t):=by
 intro pins s σ H W ρ Q I rr hq;refine wpAny_List_spliced (LS (h pos pins s σ H W ρ _ I rr hq) fun us s1 ⟨vs,H1,ds,I1,r,e1,hd,z,q⟩=>?_);rw[<- hd.len]at z;refine⟨by rw[<- r.length];exact z,?_⟩;have hf:H1 s1.heap.objs.size=none:=I1.Nw.fresh (O2 _);exact⟨.ref s1.heap.objs.size,L2.upd H1 s1.heap.objs.size (.lst vs),_,I1.laid (t':=s1.toks) (fun b u e=>P7 _ e) (O2 _) ⟨z,us,0,r,Rm _ rfl⟩,rfl,e1.trans (ai.upd hf),
  Den.lst ((rr.same e1).fresh hf) (.new ax (Inv.Pq I1)) (hd.same (ai.upd hf)),q⟩
end
abbrev DSp:=yas->(D->Prop)->(Value->Prop)->Prop
def aJ(K:yac)(sp:DSp):Sp:=fun vs H Q E=>∃(P:Addr->Prop) (ds:yas) (Qd:D->Prop) (Ed:Value->Prop),cK K H/\(∀a,P a->∃o,H a=some o)/\af K (fun t a=>t=true∨P a) H ds vs/\sp ds Qd Ed ∧
 (∀d v H',ai H H'->Den K (fun t a=>P a∨(t=true/\∃o,H a=some o)) H' d v->Qd d->Q v H')/\∀c a H',ai H H'->Ed c->E c a H'
mutual
def av:D->D
 |.tup ds=>.tup (ay ds)
 |.lst _ ds=>.lst false (ay ds)
 |.obj C ns ds=>.obj C ns (ay ds)
 |.Sy=>.Sy
 |.Si ks ds=>.Si ks (ay ds)
 |.Nx=>.Nx|.bl b=>.bl b|.int i=>.int i|.str x=>.str x|.exc c=>.exc c
def ay:yas->yas
 |[]=>[]
 |d::ds=>av d::ay ds
end
section
variable{K:yac}{P:yak}{P':Addr->Prop}{H:Hp}
mutual
theorem Den.av(h:∀t a,P' a->P t a):∀(d:D) (v:V),Den K P H d v->Den K (fun t a=>t=true∨P' a) H (PD.av d) v
 |.Nx,_,q=>by simpa only[Den,PD.av]using q
 |.bl _,_,q=>by simpa only[Den,PD.av]using q
 |.int _,_,q=>by simpa only[Den,PD.av]using q
 |.str _,_,q=>by simpa only[Den,PD.av]using q
 |.exc _,_,q=>by simpa only[Den,PD.av]using q
 |.tup ds,_,q=>by simp only[Den,PD.av]at q ⊢;obtain⟨a,vs,e,q1,q2⟩:=q;exact⟨a,vs,e,q1,af.av h ds vs q2⟩
 |.obj C ns ds,_,q=>by simp only[Den,PD.av]at q ⊢;obtain⟨a,dx,vs,e,q1,l,k,q2⟩:=q;exact⟨a,dx,vs,e,q1,l,k,af.av h ds vs q2⟩
 |.Sy,_,q=>by simpa only[Den,PD.av]using q
 |.Si ks ds,_,q=>by simp only[Den,PD.av]at q ⊢;obtain⟨a,o,Sf,vs,e,q1,l,k,q2⟩:=q;exact⟨a,o,Sf,vs,e,q1,l,k,af.av h ds vs q2⟩
 |.lst t ds,_,q=>by simp only[Den,PD.av]at q ⊢;obtain⟨a,vs,e,p,q1,q2⟩:=q;exact⟨a,vs,e,fun z=>z.elim (fun z=>by cases z) fun z=>p (h t a z),.any q1.1,af.av h ds vs q2⟩
theorem af.av(h:∀t a,P' a->P t a):∀(ds:yas) (vs:yar),af K P H ds vs->af K (fun t a=>t=true∨P' a) H (PD.ay ds) vs
 |[],_,q=>by simpa only[af,PD.ay]using q
 |d::ds,_,q=>by simp only[af,PD.ay]at q ⊢;obtain⟨v,r,e,h1,h2⟩:=q;exact⟨v,r,e,Den.av h d v h1,af.av h ds r h2⟩
end
end
theorem Den.back{K:yac}{W:Own}{H H':Hp}{d:D}{v:V}(tr:∀t a,W.bad t a->∃o,H a=some o)(h:Den K (fun t a=>W.bad false a∨(t=true/\∃o,H a=some o)) H' d v):Den K W.bad H' d v :=
 h.MG fun t a z=>by
  cases t with
  |false=>exact .inl z
  |true=>exact .inr ⟨rfl,tr true a z⟩
section
variable{X:Cx}{CX:CXT}{k:Nat}{f:Addr}{fd:FuncData}{ps:yah}{sp:DSp}{x:Str}{p pos:Pos}{e:Expr}{es:yai}{t:DA}
def qi(sp:DSp)(dds:yas)(t:DA):DE:=fun ρ Q=>t ρ fun ds=>sp (ay ds++dds) Q fun _=>False
def mK:D->V
 |.Nx=>.Nx|.bl b=>.bl b|.int i=>.int i|.str x=>.str x|_=>.Nx
def qT:D->Prop
 |.tup _=>False|.lst _ _=>False|.exc _=>False|.obj _ _ _=>False|.Sy=>False|.Si _ _=>False|_=>True
theorem af.sG{K:yac}{P:yak}{H:Hp}:∀{dds:yas},(∀d∈dds,qT d)->af K P H dds (dds.map mK)
 |[],_=>af.nil
 |d::r,h=>by
  refine af.cons ?_ (af.sG fun x hx=>h x (SD _ hx));have:=h d Su;cases d with
  |Nx=>exact Den.Nx
  |bl b=>exact Den.bl b
  |int i=>exact Den.int i
  |str x=>exact Den.str x
  |tup _=>exact this.elim
  |lst _ _=>exact this.elim
  |exc _=>exact this.elim
  |obj _ _ _=>exact this.elim
  |Sy=>exact this.elim
  |Si _ _=>exact this.elim
theorem zm{dds:yas}{dsv:yad}(F:aE X.prog X.w X.K X.mg X.base CX k f fd ps (aJ X.K sp))(hr:aX k X.A)(hb:Binds X.K fd ps dsv)(hd:Vals (dds.map mK) dsv)(hs:∀d∈dds,qT d)(hx:Passes CX X E0)
  {pins:yab} {σ:St} {H:Hp} {s:Shared} {W:Own} {ρ:Ro} {us:yad} {vs:yar} {ds:yas} {Q:D->Prop} (I:Inv X pins σ H s) (rr:Rel X W H σ ρ) (r:Vals vs us) (O6:af X.K W.bad H ds vs)
  (q:sp (ay ds++dds) Q fun _=>False):wpAny (model X.prog X.w) X.A (call (.ref f) us) (DP X pins σ W H Q) X.xe s:=by
 refine LS (qO (Q:=fun v H'=>ai H H'/\∃d,Den X.K W.bad H' d v/\Q d) F hr hb hd hx I r ⟨W.bad false,ay ds++dds,Q,fun _=>False,rr.tab,rr.tracked false,(af.av (fun _ _=>Own.SH) ds vs O6).append (af.sG hs),q,fun d v H' e h1 h2=>⟨e,d,Den.back rr.tracked h1,h2⟩,fun _ _ _ _ z=>z.elim⟩)
  fun u s2 ⟨v,H2,I2,r2,e2,d,h1,h2⟩=>⟨v,H2,d,I2,r2,e2,h1,h2⟩
theorem B7{dds:yas}{dsv:yad}(F:aE X.prog X.w X.K X.mg X.base CX k f fd ps (aJ X.K sp))(hr:aX k X.A)(hg:Gl X x)(hm:X.mg x=some (.ref f))(hk:PySem.W.keepIn X.K (.ref f)=true)(hb:Binds X.K fd ps dsv)(hd:Vals (dds.map mK) dsv)(hs:∀d∈dds,qT d)(hx:Passes CX X E0)
  (ha:Qc X (e::es) t) (PC:(x==("__debug__" : Str))=false:=by decide) (he:starEach (e::es) X.env=(false,eval e X.env)::starEach es X.env:=by rfl) (Qj:(backTo pos (starEach es X.env)).any (·.1)=false:=by rfl) :
  Mv X (.Call (.Name x p) (e::es) [] pos) (qi sp dds t):=by
 intro pins s σ H W ρ Q I rr h;refine Wh (cx I hg hm ?_ PC);refine PySem.W.callWith_K (h₀:=X.base) I.ok.mod.Uz hk (LS (ha pos pins s σ H W ρ _ I rr h) fun us s1 ⟨vs,H1,ds,I1,r,e1,O6,q⟩=>⟨I1.QI,?_⟩) he Qj;exact LS (zm F hr hb hd hs hx I1 (rr.same e1) r O6 q) fun _ _ z=>z.up e1
def dCB(r:yas->(D->Prop)->Prop)(t:DA):DE:=fun ρ Q=>t ρ fun ds=>r ds Q
def cn(X:Cx)(f:Value)(r:yas->(D->Prop)->Prop):Prop :=
 ∀ (pins:yab) (s:Shared) (σ:St) (H:Hp) (W:Own) (ds:yas) (vs:yar) (us:yad) (Q:D->Prop),Inv X pins σ H s->(∀t a,W.bad t a->∃o,H a=some o)->Vals vs us->af X.K W.bad H ds vs->r ds Q →
  wpAny (model X.prog X.w) X.A (call f us) (DP X pins σ W H Q) X.xe s
theorem cn.of{f:Value}{r:yar->Hp->VK->Prop}{rd:yas->(D->Prop)->Prop}(h:jN X f r)(k:∀P H ds vs Q,(∀t a,P t a->∃o,H a=some o)->af X.K P H ds vs->rd ds Q->r vs H fun v' H'=>ai H H'/\∃d',Den X.K P H' d' v'/\Q d'):cn X f rd:=by intro pins s σ H W ds vs us Q I tr r hd q;exact LS (h pins s σ H vs us _ I r (k _ H ds vs Q tr hd q)) fun _ s2 ⟨w',H2,I2,r2,e2,d,hd,q2⟩=>⟨w',H2,d,I2,r2,e2,hd,q2⟩
variable{id T:String}{r:yas->(D->Prop)->Prop}
theorem aO (hc:cn X (.builtin id) r) (hg:Gl X x) (hm:X.mg x=none) (hv:bootBuiltins x=some (.builtin id)) (ha:Qc X (e::es) t) (hn:x ≠ "__name__" := by decide) (PC:(x==("__debug__" : Str))=false:=by decide)
  (Py:starEach (e::es) X.env=(false,eval e X.env)::starEach es X.env:=by rfl) (Qj:(backTo pos (starEach es X.env)).any (·.1)=false:=by rfl) :
  Mv X (.Call (.Name x p) (e::es) [] pos) (dCB r t):=by
 intro pins s σ H W ρ Q I rr h;refine Wh (dI I hg hm hv ?_ hn PC);exact PyProof.Rows.callWith_builtin1 (LS (ha pos pins s σ H W ρ _ I rr h) fun us s1 ⟨vs,H1,ds,I1,rv,e1,hd,q⟩=>LS (hc pins s1 σ H1 W ds vs us Q I1 (rr.same e1).tracked rv hd q) fun _ _ z=>z.up e1) Py Qj
theorem bu (hc:cn X (.type T) r) (hg:Gl X x) (hm:X.mg x=none) (hv:bootBuiltins x=some (.type T)) (ha:Qc X (e::es) t) (hn:x ≠ "__name__" := by decide) (PC:(x==("__debug__" : Str))=false:=by decide)
  (Py:starEach (e::es) X.env=(false,eval e X.env)::starEach es X.env:=by rfl) (Qj:(backTo pos (starEach es X.env)).any (·.1)=false:=by rfl) :
  Mv X (.Call (.Name x p) (e::es) [] pos) (dCB r t):=by
 intro pins s σ H W ρ Q I rr h;refine Wh (dI I hg hm hv ?_ hn PC);exact PyProof.Rows.callWith_type1 (LS (ha pos pins s σ H W ρ _ I rr h) fun us s1 ⟨vs,H1,ds,I1,rv,e1,hd,q⟩=>LS (hc pins s1 σ H1 W ds vs us Q I1 (rr.same e1).tracked rv hd q) fun _ _ z=>z.up e1) Py Qj
end
mutual
def Qm:D->PyData
 |.Nx=>.none
 |.bl b=>.bool b
 |.int i=>.int i
 |.str x=>.str x
 |.tup ds=>.tuple (c6 ds)
 |.lst _ ds=>.list (c6 ds)
 |.exc _=>.none
 |.obj _ _ _=>.none
 |.Si _ _=>.none
 |.Sy=>.none
def c6:yas->List PyData
 |[]=>[]
 |d::ds=>Qm d::c6 ds
end
mutual
def Uu:D->Bool
 |.tup ds=>lN ds
 |.lst _ ds=>lN ds
 |.exc _=>false
 |.obj _ _ _=>false
 |.Si _ _=>false
 |.Sy=>false
 |_=>true
def lN:yas->Bool
 |[]=>true
 |d::ds=>Uu d && lN ds
end
def eqD(x y:D):Bool:=PyData.eqv (Qm x) (Qm y)
def okD(x:D):Prop:=Uu x=true/\SeqAt.shaped (Qm x)=true
section
variable{X:Cx}{pins:yab}{σ:St}{H:Hp}{s:Shared}{P:yak}
mutual
theorem gT(I:Inv X pins σ H s):∀(d:D) (v:V) (u:Value),Den X.K P H d v->RelV v u->Uu d=true->∃as,Reads s.heap u (Qm d) as
 |.Nx,_,_,h,r,_=>by have e:=h.Xu;subst e;cases r;rw[Qm];exact⟨_,.none⟩
 |.bl b,_,_,h,r,_=>by have e:=h.VH;subst e;cases r;rw[Qm];exact⟨_,.bool b⟩
 |.int i,_,_,h,r,_=>by have e:=h.O4;subst e;obtain⟨t,rfl⟩:=r;rw[Qm];exact⟨_,.int i t⟩
 |.str x,_,_,h,r,_=>by have e:=h.QM;subst e;obtain⟨t,rfl⟩:=r;rw[Qm];exact⟨_,.str x t⟩
 |.tup ds,_,_,h,r,pl=>by rw[Uu]at pl;obtain⟨a,vs,e,hq,hd⟩:=h.Sq;subst e;cases r;obtain⟨its,rv,⟨o,h1,h2,n,h3⟩,_⟩:=I.tuple hq.w;obtain⟨as,q⟩:=lE I ds vs its hd rv pl;rw[Qm];exact⟨as,reads_tuple_at h1 h2 h3 (by simpa using q)⟩
 |.lst _ ds,_,_,h,r,pl=>by rw[Uu]at pl;obtain⟨a,vs,e,_,hq,hd⟩:=h.Rg;subst e;cases r;obtain⟨its,rv,⟨o,n,h1,h2,_,h3⟩,_⟩:=I.list hq;obtain⟨as,q⟩:=lE I ds vs its hd rv pl;rw[Qm];exact⟨_,reads_list_at h1 h2 h3 (by simpa using q)⟩
 |.exc _,_,_,_,_,pl=>by rw[Uu]at pl;cases pl
 |.obj _ _ _,_,_,_,_,pl=>by rw[Uu]at pl;cases pl
 |.Si _ _,_,_,_,_,pl=>by rw[Uu]at pl;cases pl
 |.Sy,_,_,_,_,pl=>by rw[Uu]at pl;cases pl
theorem lE(I:Inv X pins σ H s):∀(ds:yas) (vs:yar) (us:yad),af X.K P H ds vs->Vals vs us->lN ds=true->∃as,ReadsAll s.heap us (c6 ds) as
 |[],_,_,h,r,_=>by simp only[af]at h;subst h;cases r;rw[c6];exact⟨_,.nil⟩
 |d::ds,_,_,h,r,pl=>by
  rw[lN,S7]at pl;simp only[af]at h;obtain⟨v,r',rfl,h1,h2⟩:=h;cases r with
  |cons ra rb =>
   obtain⟨as,q⟩:=gT I d v _ h1 ra pl.1;obtain⟨bs,q'⟩:=lE I ds _ _ h2 rb pl.2;rw[c6];exact⟨_,.cons q q'⟩
end
def IU:RD2:=fun x y Q=>okD x/\okD y/\Q (.bl (eqD x y))
def IX:RD2:=fun x y Q=>okD x/\okD y/\Q (.bl (!eqD x y))
theorem cO(hu:X.A.units+64<cLine):PK X (compareOp .Eq) IU:=by intro pins s σ H W x y v u vv uu Q I _ rv ru hx hy q;obtain⟨h1,h2,q⟩:=q;obtain⟨as,ra⟩:=gT I x v vv hx rv h1.1;obtain⟨bs,rb⟩:=gT I y u uu hy ru h2.1;exact eq_dataH ra rb h1.2 h2.2 hu ⟨.bl _,H,_,I,rfl,ai.refl H,Den.bl _,q⟩
theorem uP(hu:X.A.units+64<cLine):PK X (compareOp .NotEq) IX:=by intro pins s σ H W x y v u vv uu Q I _ rv ru hx hy q;obtain⟨h1,h2,q⟩:=q;obtain⟨as,ra⟩:=gT I x v vv hx rv h1.1;obtain⟨bs,rb⟩:=gT I y u uu hy ru h2.1;exact ne_dataH ra rb h1.2 h2.2 hu ⟨.bl _,H,_,I,rfl,ai.refl H,Den.bl _,q⟩
theorem hG:PK X (compareOp .Eq) (fy fun i j=>.bl (decide (i=j))):=PK.of DW fun P H x y v u Q hx hy z=>by obtain⟨i,j,e1,e2,q⟩:=nV z;subst e1 e2;have a:=hx.O4;have b:=hy.O4;subst a b;refine⟨rfl,ai.refl H,_,Den.bl _,?_⟩;rw[show decide (V.int i=V.int j)=decide (i=j)from by rw[nP];rfl];exact q
theorem jg:PK X (compareOp .NotEq) (fy fun i j=>.bl (!decide (i=j))):=PK.of zf fun P H x y v u Q hx hy z=>by obtain⟨i,j,e1,e2,q⟩:=nV z;subst e1 e2;have a:=hx.O4;have b:=hy.O4;subst a b;refine⟨rfl,ai.refl H,_,Den.bl _,?_⟩;rw[show decide (V.int i=V.int j)=decide (i=j)from by rw[nP];rfl];exact q
def lJ:D->Bool
 |.Nx=>true
 |_=>false
theorem Af{K:yac}{d:D}{v:V}(h:Den K P H d v):decide (v=.Nx)=lJ d:=by
 cases d with
 |Nx=>have:=h.Xu;subst this;rfl
 |bl b=>have:=h.VH;subst this;rfl
 |int b=>have:=h.O4;subst this;rfl
 |str b=>have:=h.QM;subst this;rfl
 |tup ds=>obtain⟨a,vs,e,_⟩:=h.Sq;subst e;rfl
 |lst _ ds=>obtain⟨a,vs,e,_⟩:=h.Rg;subst e;rfl
 |exc c=>obtain⟨a,e,_⟩:=h.YA;subst e;rfl
 |obj C ns ds=>obtain⟨a,dx,vs,e,_⟩:=h.UD;subst e;rfl
 |Sy=>obtain⟨a,e,_⟩:=h.dic_;subst e;rfl
 |Si ks ds=>obtain⟨a,_,_,vs,e,_⟩:=h.dik_;subst e;rfl
theorem AQ:PK X (compareOp .Is) (fun x y Q=>y=.Nx/\Q (.bl (lJ x))):=PK.of IC fun P H x y v u Q hx hy ⟨e,q⟩=>by subst e;refine⟨hy.Xu,ai.refl H,_,Den.bl _,?_⟩;rw[Af hx];exact q
end
section
variable{X:Cx}
theorem vj:cn X (.builtin "abs") (fun ds Q=>∃i:Int,ds=[.int i]/\Q (.int (i.natAbs:Int))):=cn.of BW fun P H ds vs Q _ hd ⟨i,e,q⟩=>by
 subst e;obtain⟨v,r,rfl,h1,h2⟩:∃v r,vs=v::r/\Den X.K P H (.int i) v/\af X.K P H [] r:=by simpa only[af]using hd
 have e1:=h1.O4;have e2:r=[]:=by simpa only[af]using h2
 subst e1 e2;refine⟨i,rfl,ai.refl H,_,Den.int _,?_⟩;have:(if i<0 then -i else i)=(i.natAbs:Int):=by split<;>omega
 rw[this];exact q
theorem DH{K:yac}{P:yak}{H:Hp}{x y:D}{vs:yar}(h:af K P H [x,y] vs):∃v u,vs=[v,u]/\Den K P H x v/\Den K P H y u:=by simp only[af]at h;obtain⟨v,r,e,h1,u,r',e',h2,e''⟩:=h;subst e' e'' e;exact⟨v,u,rfl,h1,h2⟩
theorem eW{K:yac}{P:yak}{H:Hp}{x:D}{vs:yar}(h:af K P H [x] vs):∃v,vs=[v]/\Den K P H x v:=by simp only[af]at h;obtain⟨v,r,e,h1,e'⟩:=h;subst e' e;exact⟨v,rfl,h1⟩
theorem Gq (hc:X.calm=true):cn X (.builtin "min") (fun ds Q=>∃i j:Int,ds=[.int i,.int j]/\Q (.int (min i j))):=cn.of (zM hc) fun P H ds vs Q _ hd ⟨i,j,e,q⟩=>by
 subst e;obtain⟨v,u,rfl,h1,h2⟩:=DH hd;have e1:=h1.O4;have e2:=h2.O4;subst e1 e2;refine⟨i,j,rfl,ai.refl H,_,Den.int _,?_⟩;have:(if j<i then j else i)=min i j:=by split<;>omega
 rw[this];exact q
theorem Gp (hc:X.calm=true):cn X (.builtin "max") (fun ds Q=>∃i j:Int,ds=[.int i,.int j]/\Q (.int (max i j))):=cn.of (zL hc) fun P H ds vs Q _ hd ⟨i,j,e,q⟩=>by
 subst e;obtain⟨v,u,rfl,h1,h2⟩:=DH hd;have e1:=h1.O4;have e2:=h2.O4;subst e1 e2;refine⟨i,j,rfl,ai.refl H,_,Den.int _,?_⟩;have:(if j > i then j else i)=max i j:=by split<;>omega
 rw[this];exact q
def rQ(ds:yas)(Q:D->Prop):Prop:=match ds with
 |[.lst _ xs]=>Q (.int (xs.length:Int))
 |[.tup xs]=>Q (.int (xs.length:Int))
 |_=>False
theorem Ia(t:Bool)(xs:yas)(Q:D->Prop):rQ [.lst t xs] Q=Q (.int (xs.length:Int)):=rfl
theorem Ib(xs:yas)(Q:D->Prop):rQ [.tup xs] Q=Q (.int (xs.length:Int)):=rfl
theorem ER{ds:yas}{Q:D->Prop}(h:rQ ds Q):∃xs,((∃t,ds=[.lst t xs])∨ds=[.tup xs])/\Q (.int (xs.length:Int)):=by
 unfold rQ at h;split at h
 ·exact⟨_,.inl ⟨_,rfl⟩,h⟩
 ·exact⟨_,.inr rfl,h⟩
 ·exact h.elim
theorem bE:cn X (.builtin "len") rQ:=cn.of i5 fun P H ds vs Q _ hd h=>by
 obtain⟨xs,e,q⟩:=ER h;rcases e with⟨tg,e⟩| e
 ·subst e;obtain⟨v,rfl,h1⟩:=eW hd;obtain⟨a,ws,e,_,hq,hw⟩:=h1.Rg;subst e;refine⟨a,ws,rfl,.inl hq,ai.refl H,_,Den.int _,?_⟩;rw[hw.len];exact q
 ·subst e;obtain⟨v,rfl,h1⟩:=eW hd;obtain⟨a,ws,e,hq,hw⟩:=h1.Sq;subst e;refine⟨a,ws,rfl,.inr hq.w,ai.refl H,_,Den.int _,?_⟩;rw[hw.len];exact q
def U7:D->String
 |.Nx => "NoneType" | .bl _ => "bool" | .int _ => "int" | .str _ => "str" | .tup _ => "tuple" | .lst _ _ => "list" | .exc _ => "object" | .obj _ _ _ => "object" | .Sy => "dict" | .Si _ _ => "dict"
def W9:D->Value
 |.exc c=>.ref c
 |.obj C _ _=>.ref C
 |d=>.type (U7 d)
variable{e:Expr}{te:DE}{p p' pos:Pos}{T:String}{x:Str}
theorem EJ{P:Program}{w:World}{H:Hp}{h:Heap}{a C dx:Addr}{fs:List (Str×V)}(x:bQ P w H h a (.ins C dx fs)):∃od,PySem.W.InstAt h a (PySem.W.instObj C dx) C (some od):=by obtain⟨d,z,ne,ob,mA,n,r,q⟩:=x;obtain⟨od,hI,_⟩:=mC.look ⟨ob,n,ne⟩;exact⟨od,hI⟩
theorem vH{pins:yab}{σ:St}{H:Hp}{s:Shared}{P:yak}{A:Around}{E:yaa}{Q:yaa}{c:Value}{b:Bool}{d:D}{v:V}{u:Value}(I:Inv X pins σ H s)(h:Den X.K P H d v)(r:RelV v u)
  (e:PySem.W.kitOne X.K (W9 d) c=some b) (q:∀tk,Q (.bool b) {s with toks:=tk}):wpAny (model X.prog X.w) A (call (.builtin "isinstance") [u,c]) Q E s:=by
 cases d with
 |Nx=>have z:=h.Xu;subst z;cases r;exact PySem.W.kia_one PySem.W.kitx_none I.QI True.intro e (fun z=>nomatch z) q
 |bl y=>have z:=h.VH;subst z;cases r;exact PySem.W.kia_one PySem.W.kitx_bool I.QI True.intro e (fun z=>nomatch z) q
 |int i=>have z:=h.O4;subst z;obtain⟨t,rfl⟩:=r;exact PySem.W.kia_one PySem.W.kitx_int I.QI True.intro e (fun z=>nomatch z) q
 |str y=>have z:=h.QM;subst z;obtain⟨t,rfl⟩:=r;exact PySem.W.kia_one PySem.W.kitx_str I.QI True.intro e (fun z=>nomatch z) q
 |tup ds =>
  obtain⟨a,vs,z,hq,_⟩:=h.Sq;subst z;cases r;obtain⟨its,rv,⟨o,h1,h2,n,h3⟩,_⟩:=I.tuple hq.w;exact PySem.W.kia_one PySem.W.kitx_tuple I.QI ⟨o,h1,h2⟩ e (fun z=>nomatch z) q
 |lst _ ds =>
  obtain⟨a,vs,z,_,hq,_⟩:=h.Rg;subst z;cases r;obtain⟨its,rv,⟨o,n,h1,h2,_,h3⟩,_⟩:=I.list hq;exact PySem.W.kia_one PySem.W.kitx_list I.QI ⟨o,h1,h2⟩ e (fun z=>nomatch z) q
 |exc c' =>
  obtain⟨a,z,hq,k⟩:=h.YA;subst z;cases r;exact PySem.W.kia_one (Cr k) I.QI (I.Nw a _ hq).1 e (fun z=>nomatch z) q
 |obj C ns ds =>
  obtain⟨a,dx,vs,z,hq,_,k,_⟩:=h.UD;subst z;cases r;obtain⟨od,hI⟩:=EJ (I.Nw a _ hq);exact PySem.W.kia_one (PySem.W.kitx_own k.pg k.hd k.at_ k.get k.takes k.obj) I.QI hI e (fun z=>nomatch z) q
 |Sy =>
  obtain⟨a,z,hq⟩:=h.dic_;subst z;cases r;exact PySem.W.kia_one PySem.W.kitx_dict I.QI (I.Nw a _ hq).1 e (fun z=>nomatch z) q
 |Si ks ds =>
  obtain⟨a,o,Sf,vs,z,hq,_⟩:=h.dik_;subst z;cases r;obtain⟨_,_,_,_,_,q',_,_,U5,hx,_⟩:=I.Nw a _ hq;exact PySem.W.kia_one PySem.W.kitx_dict I.QI ⟨q',U5,hx.1⟩ e (fun z=>nomatch z) q
theorem xn(K:yac)(S T:String):PySem.W.kitOne K (.type S) (.type T)=if S=T then some true else if PySem.W.kitMeta T=true then(fastBuiltinMro S).map (·.contains (.type T))else none:=by
 unfold PySem.W.kitOne PySem.W.kitCls PySem.W.subIn;by_cases h:S=T
 ·subst h;simp
 ·have:(Value.type S==Value.type T)=false:=by
   rw[Yk];intro e;injection e with e;exact h e
  rw[this,LO S6,LO h]
def Ta (T:String) (d:D):Bool:=U7 d==T || (U7 d == "bool" && T == "int")
theorem kit_ans (K:yac) (d:D) (hk:∀c,d=.exc c->bP K c) (ho:∀C ns ds,d=.obj C ns ds->hW K C) (hT:T = "int" ∨ T = "bool" ∨ T = "tuple" ∨ T = "list" ∨ T = "str"):PySem.W.kitOne K (W9 d) (.type T)=some (Ta T d):=by
 by_cases hx:∃c,d=.exc c
 ·obtain⟨c,rfl⟩:=hx;show PySem.W.kitOne K (.ref c) (.type T)=_;rw[(hk c rfl).not T hT];show _=some ("object" == T || ("object" == "bool" && T == "int"));rcases hT with e|e|e|e|e<;>subst e<;>decide +kernel
 by_cases hy:∃C ns ds,d=.obj C ns ds
 ·obtain⟨C,ns,ds,rfl⟩:=hy;show PySem.W.kitOne K (.ref C) (.type T)=_;rw[(ho C ns ds rfl).not T hT];show _=some ("object" == T || ("object" == "bool" && T == "int"));rcases hT with e|e|e|e|e<;>subst e<;>decide +kernel
 have hv:W9 d=.type (U7 d):=by cases d<;>first|rfl|exact absurd ⟨_,rfl⟩ hx|exact absurd ⟨_,_,_,rfl⟩ hy
 rw[hv,xn];unfold Ta;have hS:U7 d = "NoneType" ∨ U7 d = "bool" ∨ U7 d = "int" ∨ U7 d = "str" ∨ U7 d = "tuple" ∨ U7 d = "list" ∨ U7 d = "dict" := by cases d<;>first|exact absurd ⟨_,rfl⟩ hx|exact absurd ⟨_,_,_,rfl⟩ hy|simp[U7]
 generalize U7 d=S at hS ⊢;rcases hT with e|e|e|e|e<;>subst e<;>rcases hS with e|e|e|e|e|e|e<;>subst e<;>decide +kernel
def dIs(T:String)(te:DE):DE:=fun ρ Q=>te ρ fun d=>Q (.bl (Ta T d))
theorem fE (hg:Gl X "isinstance") (hm:X.mg "isinstance" = none) (hgT:Gl X x) (hmT:X.mg x=none) (hv:bootBuiltins x=some (.type T)) (hT:T = "int" ∨ T = "bool" ∨ T = "tuple" ∨ T = "list" ∨ T = "str") (he:Mv X e te)
  (hn:x ≠ "__name__" := by decide) (PC:(x==("__debug__" : Str))=false:=by decide)
  (Py:starEach [e,.Name x p'] X.env=(false,eval e X.env)::starEach [.Name x p'] X.env:=by rfl) (YF:starEach [.Name x p'] X.env=(false,eval (.Name x p') X.env)::starEach [] X.env:=by rfl) (YG:(backTo pos (starEach [.Name x p'] X.env)).any (·.1)=false:=by rfl) :
  Mv X (.Call (.Name "isinstance" p) [e,.Name x p'] [] pos) (dIs T te):=by
 intro pins s σ H W ρ Q I rr h;have hpa:PA X [e,.Name x p'] (j2 (qA X te) (j2 (tC (.ty T)) nB)):=bI he.pe (bI (si hgT hmT hv rfl hn PC) cB YF) Py;refine Wh (dI I hg hm boot_isinstance ?_ (by decide) (by decide));refine PyProof.Rows.callWith_builtin1 (LS (hpa pos pins s σ H (fun vs H1=>∃v d,vs=[v,.ty T]/\ai H H1/\Den X.K W.bad H1 d v/\Q (.bl (Ta T d))) I ⟨W,ρ,_,rr,h,fun v H1 d e1 hd q1=>⟨v,d,rfl,e1,hd,q1⟩⟩) fun us s1 ⟨vs,H1,I1,rv,v,d,ev,e1,hd,q1⟩=>?_) Py YG;subst ev;cases rv with
 |cons r1 rr =>
  cases rr with
  |cons r2 rr =>
   cases rr;cases(show _=Value.type T from r2);exact vH I1 hd r1 (kit_ans X.K d (fun c z=>by subst z;exact hd.YA.choose_spec.2.2) (fun C ns ds z=>by subst z;obtain⟨_,_,_,_,_,_,k,_⟩:=hd.UD;exact k) hT) fun tk=>⟨.bl _,H1,_,I1.tok tk,rfl,e1,Den.bl _,q1⟩
end
section
variable{X:Cx}{pos:Pos}
theorem UE.up{pins:yab}{W0 W:Own}{H0 H:Hp}{E:eU}{f:Flow}{s':Shared}(g:OB W0 H0 W H)(h:UE X pins W H E f s'):UE X pins W0 H0 E f s':=by obtain⟨W',σ',H',I,fw,q⟩:=h;exact⟨W',σ',H',I,g.trans fw,q⟩
variable{st:Stmt}{rest:yal}{t u:DS}{e:Expr}{te:DE}
def DB:DS:=fun E ρ=>E.nx ρ
def B5(t u:DS):DS:=fun E ρ=>t {E with nx:=u E} ρ
theorem aB:bq X [] DB:=fun _ _ σ H W ρ E I r h=>V1 ⟨W,σ,H,I,OB.refl W H,ρ,r,h⟩
theorem ao(h1:Q9 X st t)(h2:bq X rest u):bq X (st::rest) (B5 t u):=by
 intro pins s σ H W ρ E I r h;refine Ym (LS (h1 pins s σ H W ρ {E with nx:=u E} I r h) fun f s1 ⟨W',σ',H',I',fw,q⟩=>?_);cases f with
 |next =>
  obtain⟨NQ,r',q⟩:=q;exact LS (h2 pins s1 σ' H' W' NQ E I' r' q) fun _ _ z=>z.up fw
 |ret v=>exact⟨W',σ',H',I',fw,q⟩
 |brk=>exact⟨W',σ',H',I',fw,q⟩
 |cont=>exact⟨W',σ',H',I',fw,q⟩
theorem aj(h1:Q9 X st t):bq X [st] t:=by
 intro pins s σ H W ρ E I r h;refine Ym (LS (h1 pins s σ H W ρ E I r h) fun f s1 q=>?_);cases f with
 |next=>exact V1 q
 |ret v=>exact q
 |brk=>exact q
 |cont=>exact q
def yR(te:DE):DS:=fun E ρ=>te ρ E.rt
theorem aC(he:Mv X e te):Q9 X (.Return (some e) pos) (yR te):=by intro pins s σ H W ρ E I r h;exact wpAny_Return_some (LS (he pins s σ H W ρ _ I r h) fun u s1 ⟨v,H1,d,I1,r1,e1,hd,q1⟩=>⟨W,σ,H1,I1,OB.same e1,v,d,r1,hd,q1⟩)
def Dw(te:DE):DS:=fun E ρ=>te ρ fun _=>E.nx ρ
theorem iS(he:Mv X e te)(hs:swapsWith e none pos.line X.env=pure false:=by rfl):Q9 X (.Expr e pos) (Dw te):=by intro pins s σ H W ρ E I r h;exact wpAny_Expr_any (LS (he pins s σ H W ρ _ I r h) fun u s1 ⟨v,H1,d,I1,r1,e1,hd,q1⟩=>⟨W,σ,H1,I1,OB.same e1,ρ,r.same e1,q1⟩) I.quiet hs
def B2(c:DT)(t u:DS):DS:=fun E ρ=>c ρ fun b=>if b=true then t E ρ else u E ρ
theorem aS{c:Expr}{a b:yal}{tc:DT}(hc:Tn X c tc)(ha:bq X a t)(hb:bq X b u):Q9 X (.If c a b pos) (B2 tc t u):=by
 intro pins s σ H W ρ E I r h;refine wpAny_If (LS (hc pins s σ H W ρ _ I r h) fun d s1 ⟨H1,I1,e1,q1⟩=>?_);cases d with
 |true=>exact LS (ha pins s1 σ H1 W ρ E I1 (r.same e1) q1) fun _ _ z=>z.up (OB.same e1)
 |false=>exact LS (hb pins s1 σ H1 W ρ E I1 (r.same e1) q1) fun _ _ z=>z.up (OB.same e1)
theorem Rel.put{X:Cx}{W:Own}{H:Hp}{σ:St}{ρ:Ro}{i:Nat}{d:D}{v:V}(r:Rel X W H σ ρ)(hi:i<σ.length)(hd:Den X.K W.bad H d v):Rel X (W.drop i) H (σ.set i (some v)) (ρ.set i (some (.val d))) where
 val:=fun j x h=>by
  by_cases hj:j=i
  ·subst hj;refine⟨v,by simp[hi],?_⟩;by_cases hl:j<ρ.length
   ·rw[WY hl]at h;cases h;exact hd.MG fun _ _=>Own.O5
   ·rw[Zn (by simpa using hl)]at h;cases h
  ·rw[Tx (Ne.symm hj)]at h;obtain⟨w,h1,h2⟩:=r.val j x h;exact⟨w,by rw[Tx (Ne.symm hj)];exact h1,h2.MG fun _ _=>Own.O5⟩
 own:=fun j x h=>by
  by_cases hj:j=i
  ·subst hj;by_cases hl:j<ρ.length
   ·rw[WY hl]at h;cases h
   ·rw[Zn (by simpa using hl)]at h;cases h
  ·rw[Tx (Ne.symm hj)]at h;obtain⟨a,vs,h1,h2,h3,h4⟩:=r.own j x h;exact⟨a,vs,by show(if j=i then none else W.O j)=_;rw[LO hj];exact h1,by rw[Tx (Ne.symm hj)];exact h2,h3,by rw[List.length_set];exact h4.MG (fun _ _=>Own.O5) (Own.SJ hi)⟩
 inj:=fun j k a h1 h2=>by
  have Rh:(if j=i then none else W.O j)=some a:=h1;have UU:(if k=i then none else W.O k)=some a:=h2;by_cases e1:j=i
  ·rw[LX e1]at Rh;cases Rh
  ·by_cases e2:k=i
   ·rw[LX e2]at UU;cases UU
   ·rw[LO e1]at Rh;rw[LO e2]at UU;exact r.inj j k a Rh UU
 kn:=fun j a h1=>by
  have Rh:(if j=i then none else W.O j)=some a:=h1;by_cases e1:j=i
  ·rw[LX e1]at Rh;cases Rh
  ·rw[LO e1]at Rh;exact r.kn j a Rh
 ke:=fun j a h1=>by
  have Rh:(if j=i then none else W.O j)=some a:=h1;by_cases e1:j=i
  ·rw[LX e1]at Rh;cases Rh
  ·rw[LO e1]at Rh;exact r.ke j a Rh
 bt:=r.bt
 st:=r.st
 ent:=r.ent
 tab:=r.tab
theorem OB.drop(W:Own)(H:Hp)(i:Nat):OB W H (W.drop i) H:=⟨rfl,rfl,fun _ _ _ h _=>h,fun j a h=>by
 have h':(if j=i then none else W.O j)=some a:=h;by_cases e1:j=i
 ·rw[LX e1]at h';cases h'
 ·rw[LO e1]at h';exact .inl ⟨j,h'⟩,fun _ ps h=>⟨#[],by rw[h];simp⟩,id⟩
theorem Inv.V9{pins:yab}{σ:St}{H:Hp}{s:Shared}{i:Nat}{x:Str}(I:Inv X pins σ H s)(hi:X.N[i]?=some x):i<σ.length:=by rw[I.len];exact(U3.mp hi).1
def rH(i:Nat)(te:DE):DS:=fun E ρ=>te ρ fun d=>E.nx (ρ.set i (some (.val d)))
theorem aL{x:Str}{pos':Pos}(i:Nat)(hN:X.N.Nodup)(he:Mv X e te)(hi:X.N[i]?=some x:=by rfl)(hx:Loc X.env.scope x:=by first|exact Or.inl rfl|exact Or.inr rfl)(hs:swapsWith e (some (.Name x pos')) pos.line X.env=pure false:=by rfl)
  (hf:X.fn x=true∨X.env.scope.names.lookup x=some .local:=by first|exact .inl rfl|exact .inr rfl|assumption):Q9 X (.Assign [.Name x pos'] e pos) (rH i te):=by
 intro pins s σ H W ρ E I r h;refine wpAny_Assign_Name (LS (he pins s σ H W ρ _ I r h) fun u s1 ⟨v,H1,d,I1,r1,e1,hd,q1⟩=>?_) hs;exact dS I1 hN hi hx r1 (fun s2 I2=>⟨W.drop i,_,H1,I2,(OB.same e1).trans (OB.drop W H1 i),_,(r.same e1).put (Inv.V9 I1 hi) hd,q1⟩) hf
theorem Q9.of{ts:TS}{t:DS}(h:PS X st ts)(k:∀σ H W ρ E,Rel X W H σ ρ->σ.length=X.N.length->t E ρ->ts ⟨(fun σ' H'=>∃W' NQ,OB W H W' H'/\Rel X W' H' σ' NQ/\E.nx NQ),(fun v H'=>∃W' d,OB W H W' H'/\Den X.K W'.bad H' d v/\E.rt d),
   (fun σ' H'=>∃W' NQ,OB W H W' H'/\Rel X W' H' σ' NQ/\E.bk NQ),(fun σ' H'=>∃W' NQ,OB W H W' H'/\Rel X W' H' σ' NQ/\E.ct NQ)⟩ σ H):Q9 X st t:=by
 intro pins s σ H W ρ E I r ht;refine LS (h pins s σ H _ I (k σ H W ρ E r I.len ht)) fun f s1 q=>?_
 cases f with
 |next=>obtain⟨σ',H',I',W',NQ,fw,r',q⟩:=q;exact⟨W',σ',H',I',fw,NQ,r',q⟩
 |brk=>obtain⟨σ',H',I',W',NQ,fw,r',q⟩:=q;exact⟨W',σ',H',I',fw,NQ,r',q⟩
 |cont=>obtain⟨σ',H',I',W',NQ,fw,r',q⟩:=q;exact⟨W',σ',H',I',fw,NQ,r',q⟩
 |ret u=>obtain⟨v,σ',H',I',rv,W',d,fw,hd,q⟩:=q;exact⟨W',σ',H',I',fw,v,d,rv,hd,q⟩
def G8(c:DT)(tb:DS):DS:=fun E ρ=>∃W:Nat->Ro->Prop,(∃m,W m ρ)/\∀m ρ,W m ρ->c ρ fun b=>if b=true then tb {E with nx:=fun NQ=>∃m',m'<m/\W m' NQ,ct:=fun NQ=>∃m',m'<m/\W m' NQ,bk:=E.nx} ρ else E.nx ρ
theorem Cc{c:Expr}{body:yal}{tc:DT}{tb:DS}(hp:PassesOwn (model X.prog X.w) X.A X.env X.xe)(hc:Tn X c tc)(hb:bq X body tb):Q9 X (.While c body [] pos) (G8 tc tb):=by
 intro pins s σ H W ρ E I r h;obtain⟨Wd,⟨m0,w0⟩,turn⟩:=h;refine wpAny_While (codeAny_whileLoop (fun n s'=>∃W' σ' H' NQ,Inv X pins σ' H' s'/\OB W H W' H'/\Rel X W' H' σ' NQ/\Wd n NQ) ?_ m0 ⟨W,σ,H,ρ,I,OB.refl W H,r,w0⟩);rintro n s1 ⟨W1,VE,H1,P8,I1,fw1,r1,w1⟩;refine UR hp (LS (hc pins s1 VE H1 W1 P8 _ I1 r1 (turn n P8 w1)) fun b s2 ⟨H2,I2,e2,q2⟩=>?_);have fw2:=fw1.trans (OB.same (W:=W1) e2);cases b with
 |true =>
  rw[LX rfl]at q2;rw[LX rfl];refine UR hp (LS (hb pins s2 VE H2 W1 P8 _ I2 (r1.same e2) q2) fun f s3 q3=>?_);obtain⟨W3,RY,H3,I3,Xb,q3⟩:=q3;cases f with
  |next =>
   obtain⟨UW,r3,m',hm,w3⟩:=q3;exact⟨m',hm,W3,RY,H3,UW,I3,fw2.trans Xb,r3,w3⟩
  |cont =>
   obtain⟨UW,r3,m',hm,w3⟩:=q3;exact⟨m',hm,W3,RY,H3,UW,I3,fw2.trans Xb,r3,w3⟩
  |brk=>exact⟨W3,RY,H3,I3,fw2.trans Xb,q3⟩
  |ret v=>exact⟨W3,RY,H3,I3,fw2.trans Xb,q3⟩
 |false =>
  rw[LO S6]at q2;rw[LO S6];exact V1 ⟨W1,VE,H2,I2,fw2,P8,r1.same e2,q2⟩
theorem Hv{X:Cx}{W W':Own}{H H':Hp}{σ:St}{ρ:Ro}(r:Rel X W H σ ρ)(f:OB W H W' H')(a:Addr)(o:HO)(n:Xs o)(q:H a=some o):H' a=some o :=
 f.kp a _ (fun i z=>by obtain⟨_,_,o',q',m⟩:=r.kn i a z;rw[q]at q';cases q';exact m.sol n) q n.nt
theorem Hu{X:Cx}{W W':Own}{H H':Hp}{σ:St}{ρ:Ro}(r:Rel X W H σ ρ)(f:OB W H W' H')(a:Addr)(vs:yar)(q:OM X.K H a vs):OM X.K H' a vs:=by
 exact f.keep a _ (fun i e=>by obtain⟨_,_,o',q',m⟩:=r.kn i a e;have q2:H a=some (.tup vs):=q;rw[q']at q2;cases q2;exact m) q
theorem Ht{X:Cx}{W W':Own}{H H':Hp}{σ':St}{NQ:Ro}(r':Rel X W' H' σ' NQ)(f:OB W H W' H')(t:Bool)(a:Addr)(vs:yar)(p:¬W.bad t a)(q:QK X.K H t a vs):¬W'.bad t a/\QK X.K H' t a vs:=by
 have no:∀i,W.O i≠some a:=fun i e=>p (.inr (.inl ⟨i,e⟩))
 refine⟨fun b=>?_,?_,fun z=>⟨f.keep a _ no (q.2 z).1,(q.2 z).2⟩⟩
 ·rcases b with b|⟨i,b⟩| ⟨e,b⟩
  ·rw[f.B]at b;exact p (.inl b)
  ·rcases f.new i a b with⟨j,z⟩| z
   ·exact no j z
   ·rcases q.1 with(q|⟨o,q⟩)|⟨o,its,n,q,_⟩
    ·rw[z]at q;cases q
    ·rw[z]at q;cases q
    ·rw[(r'.kn i a b).1]at q;cases q
  ·rw[f.S]at b;exact p (.inr (.inr ⟨e,b⟩))
 ·rcases q.1 with(q|⟨o,q⟩)|q
  ·exact .inl (.inl (f.keep a _ no q))
  ·exact .inl (.inr ⟨o,f.keep a _ no q⟩)
  ·exact .inr q
theorem Den.fwd{X:Cx}{W W':Own}{H H':Hp}{σ σ':St}{ρ NQ:Ro}{d:D}{v:V}(r:Rel X W H σ ρ)(r':Rel X W' H' σ' NQ)(f:OB W H W' H')(h:Den X.K W.bad H d v):Den X.K W'.bad H' d v :=
 Den.map (Hu r f) (Ht r' f) (Hv r f) d v h
abbrev DG:=D->Ro->(Ro->Prop)->Prop
inductive GP (X:Cx) (pins:yab) (W:Own) (H:Hp) (Q:Ro->Prop) (s':Shared):Prop
 |mk (W':Own) (σ':St) (H':Hp) (NQ:Ro) (_:Inv X pins σ' H' s') (_:OB W H W' H') (_:Rel X W' H' σ' NQ) (_:Q NQ)
abbrev GDP{α:Type}(X:Cx)(pins:yab)(W:Own)(H:Hp)(Q:Ro->Prop)(_:α)(s':Shared):Prop:=GP X pins W H Q s'
def Wa(X:Cx)(target:Expr)(g:DG):Prop :=
 ∀ (pins:yab) (s:Shared) (σ:St) (H:Hp) (W:Own) (ρ:Ro) (d:D) (v:V) (u:Value) (Q:Ro->Prop),Inv X pins σ H s->Rel X W H σ ρ->RelV v u->Den X.K W.bad H d v->g d ρ Q →
  wpAny (model X.prog X.w) X.A (assign target X.env u) (GDP X pins W H Q) X.xe s
abbrev Wq:=yas->Ro->(Ro->Prop)->Prop
def rD(X:Cx)(ts:yai)(t:Wq):Prop :=
 ∀ (pins:yab) (s:Shared) (σ:St) (H:Hp) (W:Own) (ρ:Ro) (ds:yas) (vs:yar) (us:yad) (Q:Ro->Prop),Inv X pins σ H s->Rel X W H σ ρ->Vals vs us->af X.K W.bad H ds vs->t ds ρ Q →
  wpAny (model X.prog X.w) X.A (assignInOrder ((assignEach ts X.env).map (·.2)) us) (GDP X pins W H Q) X.xe s
theorem af.fwd{X:Cx}{W W':Own}{H H':Hp}{σ σ':St}{ρ NQ:Ro}(r:Rel X W H σ ρ)(r':Rel X W' H' σ' NQ)(f:OB W H W' H'):∀{ds:yas} {vs:yar},af X.K W.bad H ds vs->af X.K W'.bad H' ds vs
 |[],_,h=>by simpa only[af]using h
 |d::ds,_,h=>by simp only[af]at h ⊢;obtain⟨v,q,e,h1,h2⟩:=h;exact⟨v,q,e,Den.fwd r r' f h1,af.fwd r r' f h2⟩
def mO(i:Nat):DG:=fun d ρ Q=>Q (ρ.set i (some (.val d)))
theorem nS{x:Str}(i:Nat)(hN:X.N.Nodup)(hi:X.N[i]?=some x:=by rfl)(hx:Loc X.env.scope x:=by first|exact Or.inl rfl|exact Or.inr rfl)
  (hf:X.fn x=true∨X.env.scope.names.lookup x=some .local:=by first|exact .inl rfl|exact .inr rfl|assumption):Wa X (.Name x pos) (mO i):=by
 intro pins s σ H W ρ d v u Q I r rv hd h;exact Zq (dS I hN hi hx rv (fun s' I'=>⟨W.drop i,_,H,_,I',OB.drop W H i,r.put (Inv.V9 I hi) hd,h⟩) hf)
def jS:Wq:=fun ds ρ Q=>ds=[]/\Q ρ
def cA(g:DG)(u:Wq):Wq:=fun ds ρ Q=>∃d r,ds=d::r/\g d ρ fun NQ=>u r NQ Q
theorem EI:rD X [] jS:=by intro pins s σ H W ρ ds vs us Q I r rv hd h;obtain⟨e,h⟩:=h;subst e;simp only[af]at hd;subst hd;cases rv;exact assignInOrder_nil ⟨W,σ,H,ρ,I,OB.refl W H,r,h⟩
theorem Ci{e:Expr}{es:yai}{g:DG}{u:Wq}(h1:Wa X e g)(h2:rD X es u)(hs:(assignEach (e::es) X.env).map (·.2)=assign e X.env::(assignEach es X.env).map (·.2):=by rfl):rD X (e::es) (cA g u):=by
 intro pins s σ H W ρ ds vs us Q I r rv hd h;obtain⟨d,dr,e1,h⟩:=h;subst e1;simp only[af]at hd;obtain⟨v,vr,e2,UX,hd2⟩:=hd;subst e2;cases rv with
 |cons ra rb =>
  rw[hs];refine assignInOrder_cons (LS (h1 pins s σ H W ρ d v _ _ I r ra UX h) fun _ s1 ⟨W1,VE,H1,P8,I1,f1,r1,q1⟩=>?_);exact LS (h2 pins s1 VE H1 W1 P8 dr vr _ Q I1 r1 rb (af.fwd r r1 f1 hd2) q1) fun _ s2 ⟨W2,Ur,H2,Pu,I2,f2,r2,q2⟩=>⟨W2,Ur,H2,Pu,I2,f1.trans f2,r2,q2⟩
theorem vG{h h':Heap}{it l:Addr}{items:yao}(hl:h.IsList l items)(hs:Heap.SameBut it h h')(RP:l≠it):h'.IsList l items:=by obtain⟨o,ho,r⟩:=hl;exact⟨o,(hs.2 l RP).trans ho,r⟩
theorem tK{prog:Program}{w:World}{A:Around}{E:yaa}{it l:Addr}{items:yao}(RP:l≠it):∀(n i:Nat) (s:Shared) (Q:yad->Shared->Prop),s.heap.IsListIter it l i->s.heap.IsList l items->i+n<=items.size →
  (∀h',h'.IsListIter it l (i+n)->Heap.SameBut it s.heap h'->Q ((items.toList.drop i).take n) {s with heap:=h'})->wpAny (model prog w) A (draw (.ref it) n) Q E s
 |0,i,s,Q,hit,_,_,hQ=>by show wpAny _ _ (pure []) Q E s;exact OQ (by simpa using hQ s.heap hit (Heap.SameBut.refl ..))
 |n+1,i,s,Q,hit,hl,hle,hQ=>by
  have QJ:i<items.size:=by omega
  show wpAny _ _ (pyNext (.ref it) >>= _) Q E s;refine L3 (wpAny_pyNext_list_item hit hl (x:=items[i]) (by simp[QJ]) fun OI U8 UG=>?_);refine L3 (S8 (tK RP n (i+1) _ _ U8 (vG hl UG RP) (by omega) fun T5 YH hs₂=>OQ ?_));have hd:items.toList.drop i=items[i]::items.toList.drop (i+1):=by simp[zBU,QJ]
  have:=hQ T5 (by rw[show i+(n+1)=i+1+n by omega];exact YH) (UG.trans hs₂);rw[hd,List.take_succ_cons]at this;exact this
theorem qa{prog:Program}{w:World}{A:Around}{E:yaa}{s:Shared}{l:Addr}{items:yao}{Q:yad->Shared->Prop}(hh:A.handled=none)(hl:s.heap.IsList l items)
  (hQ:∀h',Heap.ExtBut s.heap.objs.size s.heap h'->Q items.toList {s with heap:=h'}):wpAny (model prog w) A (unpackItems (.ref l) items.size none) Q E s:=by
 have QJ:l≠s.heap.objs.size:=by obtain⟨o,ho,_⟩:=hl;exact Sn (O8 ho)
 unfold unpackItems;refine L3 ?_
 ·unfold notIterableAtAll;refine L3 (wpAny_specialOf hl.typeIs F.slot_list_iter.lookup ?_);refine OQ ?_;simp only[X0,if_false];refine L3 (S8 (wpAny_pyIter_list hl ?_));have hl0:(s.heap.push {cls:=.type "list_iterator", data:=.fields #[.ref l,rawInt 0]}).IsList l items:=by
   obtain⟨o,ho,r⟩:=hl;exact⟨o,P7 _ ho,r⟩
  refine L3 (S8 (tK QJ items.size 0 _ _ ⟨_,Rm _ rfl,rfl,rfl⟩ hl0 (by omega) fun OI U8 UG=>?_));have SG:List.take items.size (List.drop 0 items.toList)=items.toList:=by rw[List.drop_zero];exact Xi (by simp)
  rw[SG];rw[LO (by simp)];have hl₁:OI.IsList l items:=vG hl0 UG QJ;refine L3 (S8 (wpAny_pyNext_list_end hh U8 hl₁ (by simp) fun T5 he₂=>?_));simp only[Option.isSome_none,X0,if_false];refine OQ (hQ T5 fun b o hb e=>he₂ b o hb (UG.extBut b o hb (P7 _ e)))
def gC(n:Nat)(t:Wq):DG:=fun d ρ Q=>∃ds,(d=.tup ds∨∃ t,d=.lst t ds)/\ds.length=n/\t ds ρ Q
theorem vF{es:yai}{k:Nat}{t:Wq}{n:Nat}(hc:X.calm=true)(h:rD X es t)(hn:(assignEach es X.env).length=n:=by rfl)(Py:(assignEach es X.env).findIdx? (·.1)=none:=by rfl):Wa X (.Tuple es k pos) (gC n t):=by
 intro pins s σ H W ρ d v u Q I r rv hd hw;obtain⟨ds,ed,hl,hw⟩:=hw;rcases ed with ed|⟨tg,ed⟩
 ·subst ed;obtain⟨a,vs,e1,hq,O6⟩:=hd.Sq;subst e1;cases rv;obtain⟨its,rvs,ht,hz⟩:=I.tuple hq.w;refine assign_Tuple_tuple (I.ok.hd hc) ht (by simp[hn,<- hl,<- rvs.length,O6.len]) Py fun h' hx=>?_
  have I1:Inv X pins σ H {s with heap:=h'}:=I.kept (t':=s.toks) fun b o e=>hx b o (Sn (O8 e)) e
  exact h pins _ σ H W ρ ds vs _ Q I1 r (by simpa using rvs) O6 hw
 ·subst ed;obtain⟨a,vs,e1,_,hq,O6⟩:=hd.Rg;subst e1;cases rv;obtain⟨its,rvs,ht,hz⟩:=I.list hq;rw[assign_Tuple];refine L3 (V5 ?_);unfold unpack;rw[Py,show(assignEach es X.env).length=its.toArray.size by simp[hn,<- hl,<- rvs.length,O6.len]];refine L3 (S8 (qa (I.ok.hd hc) ht.isList fun h' hx=>?_));have I1:Inv X pins σ H {s with heap:=h'}:=I.kept (t':=s.toks) fun b o e=>hx b o (Sn (O8 e)) e
  exact h pins _ σ H W ρ ds vs _ Q I1 r (by simpa using rvs) O6 hw
def KR(te:DE)(g:DG):DS:=fun E ρ=>te ρ fun d=>g d ρ E.nx
def YD(K:yac)(W:Own)(H:Hp)(J:It)(ds:yas):Prop:=∀(P':yak) (H':Hp),(∀a vs,OM K H a vs->OM K H' a vs)->(∀t a vs,¬W.bad t a->QK K H t a vs->¬P' t a/\QK K H' t a vs)->(∀a o,Xs o->H a=some o->H' a=some o)->∀i,(i<ds.length->J.go i H')/\(∀x H3,J.Z5 i H' x H3->i<ds.length->ai H' H3/\∃d,ds[i]?=some d/\Den K P' H3 d x)/\(ds.length<=i->J.stop i H')
inductive IDP (X:Cx) (pins:yab) (σ:St) (W:Own) (H:Hp) (tg:Expr) (R:yas->Prop) (Vw:Value) (s2:Shared):Prop
 |mk (it:Addr) (fp:yae) (tn:Nat->Heap->Prop) (J:It) (H':Hp) (ds:yas) (_:Vw=.ref it) (_:Inv X pins σ H' s2) (_:ai H H') (_:Turn X.prog X.w X.K tg J fp it tn) (_:tn 0 s2.heap) (_:∀b∈fp,cy X pins H' b) (_:YD X.K W H' J ds) (_:R ds)
def Uv(X:Cx)(tg iter:Expr)(wi:DA):Prop :=
 ∀ (pins:yab) (s:Shared) (σ:St) (H:Hp) (W:Own) (ρ:Ro) (R:yas->Prop),Inv X pins σ H s->Rel X W H σ ρ->wi ρ R →
  wpAny (model X.prog X.w) X.A (eval iter X.env) (fun v s1=>wpAny (model X.prog X.w) X.A (pyIter v) (IDP X pins σ W H tg R) X.xe s1) X.xe s
theorem Uv.of{tg iter:Expr}{wi:TI}{wd:DA}(h:PI X tg iter wi)(k:∀σ H W ρ R,Rel X W H σ ρ->wd ρ R->wi σ H fun J H'=>ai H H'/\∃ds,YD X.K W H' J ds/\R ds):Uv X tg iter wd:=by
 intro pins s σ H W ρ R I r hw;refine LS (h pins s σ H _ I (k σ H W ρ R r hw)) fun v s1 h1=>LS h1 fun Vw s2 h2=>?_
 obtain⟨it,fp,tn,J,H',e,I2,T,st,f2,e2,ds,y,q⟩:=h2;exact⟨it,fp,tn,J,H',ds,e,I2,e2,T,st,f2,y,q⟩
def Ct:D->(yas->Prop)->Prop
 |.lst _ ds,R=>R ds
 |_,_=>False
theorem EV{x:D}{R:yas->Prop}(h:Ct x R):∃t ds,x=.lst t ds/\R ds:=by
 cases x<;>first|exact False.elim h|exact⟨_,_,rfl,h⟩
theorem Ie(t:Bool)(ds:yas)(R:yas->Prop):Ct (.lst t ds) R=R ds:=rfl
def Dy(ti:DE):DA:=fun ρ R=>ti ρ fun d=>Ct d R
theorem dZ{tg iter:Expr}{ti:DE}(h:Mv X iter ti):Uv X tg iter (Dy ti):=by
 refine Uv.of (yu h.pe) fun σ H W ρ R r hw=>⟨W,ρ,_,r,hw,fun v H1 d e1 hd q=>?_⟩
 obtain⟨tg',ds,rfl,q⟩:=EV q;obtain⟨a,vs,rfl,na,hq,O6⟩:=hd.UC;refine⟨a,rfl,⟨vs,hq.1⟩,e1,ds,?_,q⟩;intro P' H' hT hL hX i;have U5:SqL X.K H' a vs:=(hL _ a vs na hq).2.1;have hl:=O6.len;refine⟨fun hi=>?_,fun x H3 y hi=>?_,fun hi=>⟨vs,U5,by omega⟩⟩
 ·obtain⟨v,hv,_⟩:=O6.get (i:=i) (d:=ds[i]) (by simp[hi]);exact⟨vs,v,U5,hv⟩
 ·obtain⟨e3,y⟩:=y;subst e3;obtain⟨d,h1,h2⟩:=O6.aU (y vs U5);exact⟨ai.refl _,d,h1,Den.map hT hL hX d _ h2⟩
def kh(lo step:Int)(n:Nat):yas:=(List.range n).map fun(i:Nat)=>D.int (lo+i*step)
theorem jl(lo step:Int)(n:Nat):(kh lo step n).length=n:=by simp[kh]
theorem wu{lo step:Int}{n i:Nat}(h:i<n):(kh lo step n)[i]?=some (D.int (lo+i*step)):=by simp[kh,h]
def Ga(lo c:Int)(n:Nat):It:=⟨fun i _=>i<n,fun i H x H'=>H'=H/\x=.int (lo+i*c),fun i _=>n<=i⟩
theorem Dg(K:yac)(W:Own)(H:Hp)(lo c:Int)(n:Nat):YD K W H (Ga lo c n) (kh lo c n):=fun P' H' _ _ _ i=>by rw[jl];refine⟨fun h=>h,fun x H3 y hi=>?_,fun h=>h⟩;obtain⟨e,ex⟩:=y;subst e ex;exact⟨ai.refl _,_,wu hi,Den.int _⟩
theorem xJ{P:Program}{w:World}{K:yac}{tg:Expr}(it:Addr)(lo c:Int)(n:Nat):Turn P w K tg (Ga lo c n) [it] it (fun i h=>IsRangeIter h it (lo+(i:Nat)*c) ((n:Int) - (i:Nat)) c) where
 mem:=by simp
 obj:=fun i h st b hb=>by
  have e:b=it:=by simpa using hb
  subst e;exact⟨_,st,fun v z=>by have z':Data.fields _=Data.cell v:=z;cases z'⟩
 keep:=fun i h h' st k=>k it (by simp) _ st
 item:=by
  intro X hP hw hK hc i pins s σ H E I hf st hg;subst hP hw hK;obtain⟨f0,f1,f2,f3,f4,f5⟩:=hf it (by simp);have W:=Walks.range (prog:=X.prog) (w:=X.w) (I.ok.hd hc) it lo c n;refine W.item i s _ _ hg st fun v h' tk hv st' kk=>?_
  obtain⟨t,rfl⟩:=hv;have I1:Inv X pins σ H {s with heap:=h',toks:=tk}:=I.turned (fun b o hb e=>kk b o (by simpa using hb) e) f0 f1 f3 f4 f5;exact⟨_,rfl,uL (s:={s with heap:=h',toks:=tk}) (n := "range_iterator") st' rfl rfl (by decide) ⟨.int (lo+i*c),H,I1,⟨t,rfl⟩,⟨rfl,rfl⟩,st',fun b hb=>(hf b hb).1⟩⟩
 done:=by intro X hP hw hK hc i pins s σ H E I hf st hg;subst hP hw hK;obtain⟨f0,f1,f2,f3,f4,f5⟩:=hf it (by simp);exact wpAny_pyNext_range_end (I.ok.hd hc) st (by have:n<=i:=hg;omega) fun h' eb=>⟨rfl,I.turned (t':=s.toks) (fun b o hb e=>eb b o hb e) f0 f1 f3 f4 f5⟩
 self:=fun _ _ _ _ _ st h=>wpAny_pyIter_rangeiter st h
def fL(lo hi c:Int):Nat:=(Builtin.Range.rangeSize lo hi c).toNat
theorem Bk{a b c:Int}(ha:-(2 ^ 40)<=a)(Wr:a<2 ^ 40)(hb:-(2 ^ 40)<=b)(hb':b<2 ^ 40)(hc:0<c)(Ti:c<2 ^ 20):Builtin.Range.small a b c=true/\0<=Builtin.Range.rangeSize a b c:=by
 have hd:a<b->0<=(b - a - 1) / c/\(b - a - 1) / c<=b - a - 1:=fun h=>⟨Int.ediv_nonneg (by omega) (by omega),Int.ediv_le_self _ (by omega)⟩
 have hm:a<b->(b - a - 1) / c*c<=b - a - 1:=fun h=>Int.ediv_mul_le _ (by omega)
 unfold Builtin.Range.small Builtin.Range.rangeSize;rw[LX (show c > 0 from hc)];by_cases h:a<b
 ·obtain⟨h1,h2⟩:=hd h;have h3:=hm h;rw[LX h];generalize (b - a - 1) / c=q at h1 h2 h3 ⊢;have h4:0<=q*c:=Int.mul_nonneg h1 (by omega);simp only[Builtin.Range.rangeFitsLong,S7,Yn,decide_eq_true_eq,beq_iff_eq];have e:(q+1 - 1)*c=q*c:=by rw[Int.add_sub_cancel]
  have e':(q+1)*c=q*c+c:=by rw[Int.add_mul,Int.one_mul]
  constructor
  ·rw[LX (show c > 0 from hc)];simp only[S7,decide_eq_true_eq];omega
  ·omega
 ·rw[LO h];simp only[Builtin.Range.rangeFitsLong,S7,Yn,decide_eq_true_eq,beq_iff_eq];constructor
  ·simp;omega
  ·exact Int.le_refl _
theorem A9{pins:yab}{σ:St}{H:Hp}{s:Shared}{W:Own}{R:yas->Prop}{E:yaa}{tg:Expr}{lo hi c:Int}{t u v:Tok}{tk:Nat}(I:Inv X pins σ H s)(h1:-(2 ^ 40)<=lo)(h2:lo<2 ^ 40)(h3:-(2 ^ 40)<=hi)(h4:hi<2 ^ 40)(h5:0<c)(h6:c<2 ^ 20)
  (q:R (kh lo c (fL lo hi c))):wpAny (model X.prog X.w) X.A (pyIter (.ref s.heap.objs.size)) (IDP X pins σ W H tg R) E {s with heap:=s.heap.push {cls:=.type "range", data:=.fields #[.int lo t,.int hi u,.int c v]},toks:=tk}:=by
 obtain⟨sm,nn⟩:=Bk h1 h2 h3 h4 h5 h6;refine wpAny_pyIter_range (IsRange.new ..) sm ?_;have I1:Inv X pins σ H {s with heap:=s.heap.push {cls:=.type "range", data:=.fields #[.int lo t,.int hi u,.int c v]},toks:=tk}:=I.kept fun b o e=>P7 _ e
 refine⟨(s.heap.push {cls:=.type "range", data:=.fields #[.int lo t,.int hi u,.int c v]}).objs.size,[(s.heap.push {cls:=.type "range", data:=.fields #[.int lo t,.int hi u,.int c v]}).objs.size],_,_,H,_,rfl,
  I1.kept (t':=tk) fun b o e=>P7 _ e,ai.refl H,xJ _ lo c (fL lo hi c),?_,fun b hb=>?_,Dg _ _ _ _ _ _,q⟩
 ·have e1:lo+((0:Nat):Int)*c=lo:=by simp
  have e2:((fL lo hi c:Nat):Int) - ((0:Nat):Int)=Builtin.Range.rangeSize lo hi c:=by unfold fL;omega
  show IsRangeIter _ _ (lo+((0:Nat):Int)*c) (((fL lo hi c:Nat):Int) - ((0:Nat):Int)) c;rw[e1,e2];exact Rm _ rfl
 ·have e:b=(s.heap.push {cls:=.type "range", data:=.fields #[.int lo t,.int hi u,.int c v]}).objs.size:=by simpa using hb
  subst e;exact I1.Wo (O2 _) (I1.Nw.fresh (O2 _))
def CR3(i:Int):Prop:=-(2 ^ 40)<=i/\i<2 ^ 40
def JJ(ta:DA):DA:=fun ρ R=>ta ρ fun ds=>∃i j c:Int,ds=[.int i,.int j,.int c]/\CR3 i/\CR3 j/\0<c/\c<2 ^ 20/\R (kh i c (fL i j c))
def JI(ta:DA):DA:=fun ρ R=>ta ρ fun ds=>∃i j:Int,ds=[.int i,.int j]/\CR3 i/\CR3 j/\R (kh i 1 (fL i j 1))
def uJ(ta:DA):DA:=fun ρ R=>ta ρ fun ds=>∃j:Int,ds=[.int j]/\CR3 j/\R (kh 0 1 (fL 0 j 1))
theorem jT {tg a:Expr} {ta:DA} {p pos:Pos} (hg:Gl X "range") (hm:X.mg "range" = none) (ha:Qc X [a] ta) (hs:starEach [a] X.env=(false,eval a X.env)::starEach [] X.env:=by rfl) (X6:(backTo pos (starEach [] X.env)).any (·.1)=false:=by rfl) :
  Uv X tg (.Call (.Name "range" p) [a] [] pos) (uJ ta):=by
 intro pins s σ H W ρ R I r h;refine Call_ (dI I hg hm boot_range (PyProof.Rows.callWith_type1 (LS (ha pos pins s σ H W ρ _ I r h) fun us s1 ⟨vs,H1,ds,I1,r1,e1,hd,q1⟩=>?_) hs X6));obtain⟨j,e,⟨b1,b2⟩,q⟩:=q1;subst e;obtain⟨v1,rfl,d1⟩:=eW hd;have z1:=d1.O4;subst z1;cases r1 with
 |cons ra rr =>
  cases rr;obtain⟨t,rfl⟩:=ra;refine call_range_1 ?_;exact LS (A9 (W:=W) (R:=R) I1 (by decide) (by decide) b1 b2 (by decide) (by decide) q) fun Vw s2 ⟨it,fp,tn,J,H',ds,x1,x2,x3,x4,x5,x6,x7,x8⟩=>⟨it,fp,tn,J,H',ds,x1,x2,e1.trans x3,x4,x5,x6,x7,x8⟩
def B0(wi:DA)(g:DG)(tb:DS):DS:=fun E ρ=>wi ρ fun ds=>∃Pv:Nat->Ro->Prop,Pv 0 ρ ∧
 (∀j x NQ,ds[j]?=some x->Pv j NQ->g x NQ fun Pu=>tb {E with nx:=Pv (j+1),ct:=Pv (j+1),bk:=E.nx} Pu)/\∀NQ,Pv ds.length NQ->E.nx NQ
theorem Ak{tg iter:Expr}{body:yal}{wi:DA}{g:DG}{tb:DS}(hp:PassesOwn (model X.prog X.w) X.A X.env X.xe)(hc:X.calm=true)(hi:Uv X tg iter wi)(hg:Wa X tg g)(hb:bq X body tb)
  (hs:∀x,foldedSetIterable iter X.env x=pure x:=by intro _;rfl):Q9 X (.For tg iter body [] pos) (B0 wi g tb):=by
 intro pins s σ H W ρ E I r h;refine wpAny_For (LS (hi pins s σ H W ρ _ I r h) fun v s1 h1=>LS h1 fun Vw s2 h2=>?_) hs;obtain⟨it,fp,tn,J,H2,ds,e,I2,e2,T,TV,f2,yd,Pv,p0,turn,pd⟩:=h2;subst e;have r2:=r.same e2;have SE:∀{H':Hp},(∀b∈fp,H' b=none)->∀b∈fp,cy X pins H' b:=fun hn b hb=>⟨hn b hb,(f2 b hb).2⟩
 refine codeAny_forLoop_any (fun n s'=>∃i W' σ' H' NQ,n=ds.length - i/\i<=ds.length/\Inv X pins σ' H' s'/\tn i s'.heap/\(∀b∈fp,H' b=none)/\OB W H2 W' H'/\Rel X W' H' σ' NQ/\Pv i NQ) ?_ ds.length ⟨0,W,σ,H2,ρ,by simp,S9 _,I2,TV,fun b hb=>(f2 b hb).1,OB.refl W H2,r2,p0⟩;rintro n s3 ⟨i,W3,RY,H3,UW,en,hle,I3,Vx,Vy,Xb,r3,p3⟩;obtain⟨yg,yy,ys⟩:=yd W3.bad H3 (Hu r2 Xb) (Ht r3 Xb) (Hv r2 Xb) i;by_cases QJ:i<ds.length
 ·refine UR hp (LS (T.item X rfl rfl rfl hc i pins s3 RY H3 X.xe I3 (SE Vy) Vx (yg QJ)) fun rr s4 ⟨u,hr,h4⟩=>?_);subst hr;refine UR hp (LS h4 fun _ s5 ⟨x,H5,I5,r5,y5,TY,Xo⟩=>?_);obtain⟨e5,d,hd,QP⟩:=yy x H5 y5 QJ;have Xp:=I5.pinned (SE Xo) (T.obj _ _ TY);have U9:=r3.same e5;refine UR hp (LS (hg _ s5 RY H5 W3 UW d x u _ Xp U9 r5 QP (turn i d UW hd p3)) fun _ s6 ⟨W6,VF,H6,Xw,I6,f6,r6,q6⟩=>?_);refine UR hp (LS (hb _ s6 VF H6 W6 Xw _ I6 r6 q6) fun f s7 q7=>?_);obtain⟨W7,Q8,H7,I7,f7,q7⟩:=q7;have fw7:OB W H2 W7 H7:=Xb.trans ((OB.same e5).trans (f6.trans f7));have fw70:OB W H W7 H7:=(OB.same e2).trans fw7;have again:∀{X8:Ro},Rel X W7 H7 Q8 X8->Pv (i+1) X8->∃m,m<n/\∃i W' σ' H' NQ,m=ds.length - i/\i<=ds.length/\Inv X pins σ' H' s7/\tn i s7.heap/\(∀b∈fp,H' b=none)/\OB W H2 W' H'/\Rel X W' H' σ' NQ/\Pv i NQ:=fun {X8} r7 p7=>by
   refine⟨ds.length - (i+1),by omega,i+1,W7,Q8,H7,X8,rfl,QJ,I7.Ox,T.keep _ _ _ TY fun b hb o e=>(I7.pin (b,o) (Ss _ (Ss _ (bW hb e)))).1,fun b hb=>?_,fw7,r7,p7⟩;obtain⟨o,e,d⟩:=T.obj _ _ TY b hb;exact(I7.pin (b,o) (Ss _ (Ss _ (bW hb e)))).2.1
  cases f with
  |next=>obtain⟨X8,r7,n7⟩:=q7;exact again r7 n7
  |cont=>obtain⟨X8,r7,n7⟩:=q7;exact again r7 n7
  |brk=>obtain⟨X8,r7,q7⟩:=q7;exact⟨W7,Q8,H7,I7.Ox,fw70,X8,r7,q7⟩
  |ret v=>obtain⟨x7,d7,r7,h7,q7⟩:=q7;exact⟨W7,Q8,H7,I7.Ox,fw70,x7,d7,r7,h7,q7⟩
 ·have e:i=ds.length:=by omega
  refine UR hp (LS (T.done X rfl rfl rfl hc i pins s3 RY H3 X.xe I3 (SE Vy) Vx (ys (by omega))) fun rr s4 ⟨hr,I4⟩=>?_);subst hr;subst e;exact V1 ⟨W3,RY,H3,I4,(OB.same e2).trans Xb,UW,r3,pd UW p3⟩
def KW(i j:Nat)(ta:DA):DS:=fun E ρ=>ta ρ fun ds=>∃d e,ds=[d,e]/\E.nx ((ρ.set i (some (.val d))).set j (some (.val e)))
end
def cb:yah->yas->Ro
 |_::N,d::ds=>some (.val d)::cb N ds
 |_::N,[]=>none::cb N []
 |[],ds=>ds.map fun d=>some (.val d)
theorem j1:∀(N:yah) (ds:yas),cb N ds=ds.map (fun d=>some (.val d))++List.replicate (N.length - ds.length) none
 |_::N,d::ds=>by rw[cb,j1 N ds,Sv,Sd,Sd,Nat.add_sub_add_right];rfl
 |_::N,[]=>by rw[cb,j1 N []];rfl
 |[],ds=>by rw[cb,List.length_nil,Nat.zero_sub];simp
theorem Rel.start{X:Cx}{P:Addr->Prop}{H:Hp}{N:yah}{ds:yas}{vs:yar}(hP:∀a,P a->∃o,H a=some o)(h:af X.K (fun t a=>t=true∨P a) H ds vs)(hH:X.H₀=H)(hT:cK X.K H):Rel X ⟨P,fun _=>none,fun a=>∃o,H a=some o⟩ H (start N vs) (cb N ds) where
 val:=fun i d e=>by
  rw[j1]at e;have hl:=h.len;by_cases hi:i<ds.length
  ·rw[XY (by simpa using hi),Td]at e;cases q:ds[i]? with
   |none=>rw[q]at e;cases e
   |some d' =>
    rw[q]at e;have e':d'=d:=by simpa using e
    subst e';obtain⟨v,h1,h2⟩:=h.get q;refine⟨v,?_,h2.MG fun tg a z=>?_⟩
    ·unfold L2.start;rw[XY (by simpa [hl]using hi),Td,h1];rfl
    ·rcases z with z|⟨j,z⟩| ⟨z,_⟩
     ·exact .inr z
     ·cases z
     ·exact .inl z
  ·rw[Xh (by simpa using hi),Zl]at e;split at e<;>cases e
 own:=fun i d e=>by
  rw[j1]at e;by_cases hi:i<ds.length
  ·rw[XY (by simpa using hi),Td]at e;cases q:ds[i]? with
   |none=>rw[q]at e;cases e
   |some d'=>rw[q]at e;cases e
  ·rw[Xh (by simpa using hi),Zl]at e;split at e<;>cases e
 inj:=fun i j a h _=>by cases h
 kn:=fun i a h=>by cases h
 ke:=fun i a h=>by cases h
 bt:=hP
 st:=fun _ z=>z
 ent:=by rw[hH];exact ai.refl H
 tab:=hT
theorem bQ.there{P:Program}{w:World}{H:Hp}{h:Heap}{a:Addr}{o:HO}(x:bQ P w H h a o):∃u,h.get? a=some u:=by
 cases o with
 |lst xs=>obtain⟨_,_,_,_,e⟩:=x;exact⟨_,e⟩
 |tup xs=>obtain⟨_,_,_,ob,e,_⟩:=x;exact⟨ob,e⟩
 |dK kvs=>obtain⟨_,_,_,_,ob,_,_,e,_⟩:=x;exact⟨ob,e⟩
 |dT kvs=>obtain⟨_,_,_,_,ob,_,_,e,_⟩:=x;exact⟨ob,e⟩
 |set S n=>obtain⟨ob,_,_,_,e,_⟩:=x;exact⟨ob,e⟩
 |ins C dx fs=>obtain⟨_,_,_,e,_⟩:=x;exact⟨_,e⟩
 |own y=>exact x
 |xd fs=>obtain⟨_,⟨ob,_,_,e,_⟩,_⟩:=x;exact⟨ob,e⟩
 |rng lo hi=>obtain⟨_,_,_,e⟩:=x;exact⟨_,e⟩
 |frz ob u=>obtain⟨e,_⟩:=x;exact⟨ob,e⟩
 |So ps=>exact⟨_,x⟩
 |met f y=>exact⟨_,x⟩
 |ext φ=>obtain⟨_,e,_⟩:=x;exact e
theorem Rc.X9 {P : Program} {w : World} {H : Hp} {h h' : Heap} (x : Rc P w H h) (k : ∀ b u, (∃ o, H b = some o) -> h.get? b = some u -> h'.get? b = some u) : Rc P w H h' := fun a o e =>
 (x a o e).Th (fun b u hb q => k b u (by
  rcases hb with z | z
  ·subst z; exact ⟨o, e⟩
  ·exact ⟨_, z⟩) q) (fun _ q => q) fun _ _ q => q
structure Fl(P:Program)(w:World)(l:List Env)(h₀:Heap)(H₀ H:Hp)(B h:Heap):Prop where
 un:Un (RM l) [] H₀ H h₀ h
 Nw:Rc P w H h
 fr:∀b∈RM l,H₀ b=none/\∃o,h₀.get? b=some o/\∀vs,o.data ≠ .fields vs
 Yb:∀b o,h.get? b=some o->((∃u,H b=some u)∨∃ o',h₀.get? b=some o')->b∉RM l->B.get? b=some o
section
variable{P:Program}{w:World}{l:List Env}{h₀:Heap}{H₀ H:Hp}{B h h':Heap}
theorem Fl.free(F:Fl P w l h₀ H₀ H B h){b:Addr}(hb:b∈RM l):H b=none:=by obtain⟨n,o,e,_⟩:=F.fr b hb;exact F.un.free b o e n (by simp)
theorem Fl.step(F:Fl P w l h₀ H₀ H B h)(st:B.StaysIn h')(sl:h.UpToSlots h'):Fl P w l h₀ H₀ H B h':=by
 have fr1:∀b o,b∈RM l->h₀.get? b=some o->∃s',h'.get? b=some {o with slots:=s'}:=fun b o hb e=>by obtain⟨n,o',e',hd⟩:=F.fr b hb;rw[e]at e';cases e';obtain⟨s1,e1⟩:=F.un.slot b o e n hb (by simp);obtain⟨s2,e2⟩:=sl b _ e1 hd;exact⟨s2,e2⟩
 have kp:∀b o,h.get? b=some o->((∃u,H b=some u)∨∃ o',h₀.get? b=some o')->b∉RM l->h'.get? b=some o:=fun b o e c n=>st b o (F.Yb b o e c n)
 refine⟨⟨fun b o e n hb hx=>kp b o (F.un.keep b o e n hb hx) (.inr ⟨o,e⟩) hb,fun b o e n hb hx=>fr1 b o hb e,F.un.free,fun b o e hx=>?_,F.un.Qq,F.un.Qk,F.un.Ql⟩,PD.Rc.X9 F.Nw (fun b u hu e=>kp b u e (.inl hu) fun z=>?_),F.fr,fun b o e c n=>?_⟩
 ·by_cases hb:b∈RM l
  ·obtain⟨s2,e2⟩:=fr1 b o hb e;exact⟨_,e2⟩
  ·obtain⟨o',e1⟩:=F.un.there b o e hx;exact⟨o',kp b o' e1 (.inr ⟨o,e⟩) hb⟩
 ·obtain⟨o,q⟩:=hu;rw[F.free z]at q;cases q
 ·have:∃o1,h.get? b=some o1:=by
   rcases c with⟨u,c⟩| ⟨o',c⟩
   ·exact PD.bQ.there (F.Nw b u c)
   ·exact F.un.there b o' c (by simp)
  obtain⟨o1,e1⟩:=this;have q:=kp b o1 e1 c n;rw[e]at q;cases q;exact F.Yb b o e1 c n
end
def CX1(P:Program)(w:World):CXT:=fun outer H s E e s'=>∃(ea c:Addr) (H':Hp) (B:Heap) (a0:Value),e=.ref ea/\s'.os=s.os/\AllBare s'.gens/\Fl P w outer s.heap H H' B s'.heap/\ai H H'/\H' ea=none/\s.heap.get? ea=none ∧
 Heap.FlyingW B outer ea (.ref c) a0 s'.heap/\E (.ref c) none H'
theorem lM{P:Program}{w:World}{X:Cx}:Passes (CX1 P w) X E0:=fun _ _ _ _ _ _ _ h=>by obtain⟨_,_,_,_,_,_,_,_,_,_,_,_,_,z⟩:=h;exact z.elim
def MadeX(X:Cx)(Ed:Value->Prop):Prop:=∀(pins:yab) (σ:St) (H:Hp) (W:Own) (ρ:Ro) (s:Shared) (e c:Addr) (vs:yad) (h':Heap),Inv X pins σ H s->Rel X W H σ ρ->Heap.MadeExcOf s.heap h' e (.ref c) vs->Ed (.ref c)->X.xe (.ref e) {s with heap:=h'}
def bj(X:Cx)(Ed:Value->Prop):Prop:=∀(pins:yab) (σ:St) (H:Hp) (W:Own) (ρ:Ro) (s:Shared) (e:Value) (s':Shared),Inv X pins σ H s->Rel X W H σ ρ->CX1 X.prog X.w X.stack H s (fun c _ _=>Ed c) e s'->X.xe e s'
section
variable{P:Program}{w:World}{K:yac}{mg:yam}{base:Heap}{N:yah}{qual:Str}{sc:Scope}{f:Addr}{cd:Value}{A:Around}{outer:List Env}{MY:Shared}{H₀:Hp}{E:XK}
theorem vn{pins:yab}{σ:St}{H:Hp}{s:Shared}{B h':Heap}{e c:Addr}{a0:Value}(I:Inv (bM (CX1 P w) P w K mg base N qual sc f cd A outer MY H₀ E) pins σ H s)(hS:ai H₀ H)(hn:H e=none)(Uw:MY.heap.get? e=none)
  (Yb:∀b o,s.heap.get? b=some o->((∃u,H b=some u)∨∃ o',MY.heap.get? b=some o')->b∉RM (envOfC qual sc MY.heap.objs.size f cd::outer)->B.get? b=some o)
  (fl:Heap.FlyingW B outer e (.ref c) a0 h') (sl:s.heap.UpToSlots h') (hE:E (.ref c) none H):CX1 P w outer H₀ MY E (.ref e) {s with heap:=h'}:=by
 have nf:∀b,((∃u,H b=some u)∨∃ o',MY.heap.get? b=some o')->b∉RM outer->b∉RM (envOfC qual sc MY.heap.objs.size f cd::outer):=fun b c n z=>by
  rcases c with⟨u,c⟩| ⟨o',c⟩
  ·have:=I.Sx b z;rw[c]at this;cases this
  ·rcases Rb.mp (I.Rn b z)with q|q
   ·have h1:=O8 c;have h2:MY.heap.objs.size<=b:=by rw[q];exact I.ok.above
    exact absurd (RX h1 h2) (VD _)
   ·exact n q
 have F:Fl P w outer MY.heap H₀ H B s.heap:=⟨I.base,I.Nw,fun b hb=>⟨I.ok.Wl b hb,by obtain⟨_,o,e,d⟩:=I.ok.Rf.mem hb;exact⟨o,e,d⟩⟩,fun b o e c n=>Yb b o e c (nf b c n)⟩
 exact⟨e,c,H,B,a0,rfl,I.os,I.bare,F.step fl.1 sl,hS,hn,Uw,fl,hE⟩
theorem DL{Ed:Value->Prop}(hE:∀c a H',ai H₀ H'->Ed c->E c a H'):MadeX (bM (CX1 P w) P w K mg base N qual sc f cd A outer MY H₀ E) Ed:=by
 intro pins σ H W ρ s e c vs h' I r hx hd;show wpAny (model P w) (A.deeper (envOfC qual sc MY.heap.objs.size f cd)) (leaving (envOfC qual sc MY.heap.objs.size f cd) (.ref e)) _ _ _;refine wpAny_leaves_madeW (base:=PySem.W.hideAll s.heap (RM (envOfC qual sc MY.heap.objs.size f cd::outer))) (h:=s.heap) (outer:=outer) I.ok.frames rfl (fun b o q=>PySem.W.of_hideAll _ q)
  (PySem.W.funFrames_hide I.stack fun env he b hb=>ZR.mpr ⟨env,he,hb⟩) hx fun Xc t x1 _ _ x4=>?_
 have ne:∀{h1:Heap},(∀b o,h1.get? b=some o->∃o',s.heap.get? b=some o')->h1.get? e=none:=fun {h1} k=>by
  cases q:h1.get? e with
  |none=>rfl
  |some o =>
   obtain⟨o',q'⟩:=k e o q;rw[hx.new]at q';cases q'
 refine vn (s:=s) (h':=Xc) I r.ent ?_ (ne fun b o q=>I.base.there b o q (by intro z;cases z)) (fun b o q _ n=>PySem.W.hideAll_get _ q n) x1 (fun b o q d=>?_) (hE _ _ _ r.ent hd)
 ·cases q:H e with
  |none=>rfl
  |some u =>
   obtain⟨o,z⟩:=PD.bQ.there (I.Nw e u q);rw[hx.new]at z;cases z
 ·exact x4 b o (hx.keeps b o q) d
theorem yt{Ed:Value->Prop}(hE:∀c a H',ai H₀ H'->Ed c->E c a H'):bj (bM (CX1 P w) P w K mg base N qual sc f cd A outer MY H₀ E) Ed:=by
 intro pins σ H W ρ s e s' I r hx;obtain⟨ea,c,H',B,a0,rfl,os,bare,F,sm,hn,Uw,fl,hd⟩:=hx;show wpAny (model P w) (A.deeper (envOfC qual sc MY.heap.objs.size f cd)) (leaving (envOfC qual sc MY.heap.objs.size f cd) (.ref ea)) _ _ _;refine wpAny_leaves_onW (outer:=outer) I.ok.frames rfl fl fun Xc x1 x2=>?_
 have I':=I.RO os F.un F.Nw bare (by intro b z;cases z);refine vn (s:=s') (h':=Xc) I' (r.ent.trans sm) hn ?_ (fun b o q z n=>F.Yb b o q (z.elim .inl fun⟨o',z⟩=>.inr (I.base.there b o' z (by intro q;cases q))) n) x1 x2 (hE _ _ _ (r.ent.trans sm) hd);cases q:MY.heap.get? ea with
 |none=>rfl
 |some o =>
  obtain⟨o',q'⟩:=I.base.there ea o q (by intro z;cases z);rw[Uw]at q';cases q'
end
section
variable{X:Cx}{k:Nat}{f:Addr}{fd:FuncData}{ps:yah}{sp:DSp}{x:Str}{p pos:Pos}{e:Expr}{es:yai}{t:DA}
theorem qN{dds:yas}{dsv:yad}{Ed:Value->Prop}{XE:yaa}(F:aE X.prog X.w X.K X.mg X.base (CX1 X.prog X.w) k f fd ps (aJ X.K sp))(hr:aX k X.A)(hb:Binds X.K fd ps dsv)(hd:Vals (dds.map mK) dsv)(hs:∀d∈dds,qT d)
  {pins:yab} {σ:St} {H:Hp} {s:Shared} {W:Own} {ρ:Ro} {us:yad} {vs:yar} {ds:yas} {Q:D->Prop} (I:Inv X pins σ H s) (rr:Rel X W H σ ρ) (r:Vals vs us) (O6:af X.K W.bad H ds vs)
  (q:sp (ay ds++dds) Q Ed) (hx:∀e s',CX1 X.prog X.w X.stack H s (fun c _ _=>Ed c) e s'->XE e s'):wpAny (model X.prog X.w) X.A (call (.ref f) us) (DP X pins σ W H Q) XE s:=by
 have r2:Vals (vs++dds.map mK) (us++dsv):=r.append hd;have Ut:aJ X.K sp (vs++dds.map mK) H (fun v H'=>ai H H'/\∃d,Den X.K W.bad H' d v/\Q d) (fun c _ _=>Ed c) :=
  ⟨W.bad false,ay ds++dds,Q,Ed,rr.tab,rr.tracked false,(af.av (fun _ _=>Own.SH) ds vs O6).append (af.sG hs),q,fun d v H' e h1 h2=>⟨e,d,Den.back rr.tracked h1,h2⟩,fun _ _ _ _ z=>z⟩
 have hl:(us++dsv).length=ps.length:=by rw[<- r2.length];exact F.len _ _ _ _ Ut
 refine wpAny_call (codeAny_mono (F.run X.A X.stack s H ⟨us,[]⟩ (us++dsv) (vs++dds.map mK) _ _ hr I.Xq (hb s us I.QI hl) r2 Ut) fun res s' hq=>?_);cases res with
 |error er=>exact hx er s' hq
 |ok fl =>
  cases fl with
  |ret u =>
   obtain⟨v,H2,I2,r2,e2,d,h1,h2⟩:=I.after hq;exact⟨v,H2,d,I2,r2,e2,h1,h2⟩
  |next=>exact False.elim hq
  |brk=>exact False.elim hq
  |cont=>exact False.elim hq
def qj(sp:DSp)(Ed:Value->Prop)(dds:yas)(t:DA):DE:=fun ρ Q=>t ρ fun ds=>sp (ay ds++dds) Q Ed
theorem z9{dds:yas}{dsv:yad}{Ed:Value->Prop}(px:bj X Ed)(F:aE X.prog X.w X.K X.mg X.base (CX1 X.prog X.w) k f fd ps (aJ X.K sp))(hr:aX k X.A)(hg:Gl X x)(hm:X.mg x=some (.ref f))(hk:PySem.W.keepIn X.K (.ref f)=true)(hb:Binds X.K fd ps dsv)(hd:Vals (dds.map mK) dsv)(hs:∀d∈dds,qT d)
  (ha:Qc X (e::es) t) (PC:(x==("__debug__" : Str))=false:=by decide) (he:starEach (e::es) X.env=(false,eval e X.env)::starEach es X.env:=by rfl) (Qj:(backTo pos (starEach es X.env)).any (·.1)=false:=by rfl) :
  Mv X (.Call (.Name x p) (e::es) [] pos) (qj sp Ed dds t):=by
 intro pins s σ H W ρ Q I rr h;refine Wh (cx I hg hm ?_ PC);refine PySem.W.callWith_K (h₀:=X.base) I.ok.mod.Uz hk (LS (ha pos pins s σ H W ρ _ I rr h) fun us s1 ⟨vs,H1,ds,I1,r,e1,O6,q⟩=>⟨I1.QI,?_⟩) he Qj;exact LS (qN F hr hb hd hs I1 (rr.same e1) r O6 q fun er s' hx=>px pins σ H1 W ρ s1 er s' I1 (rr.same e1) hx) fun _ _ z=>z.up e1
end
theorem yc{K:yac}{h:Heap}{C:Addr}{bmB:yad}{newId:String}(X:K.In h)(q:PySem.W.excIn K C bmB newId=true):∃tl N nm qn bs hd sn sub ab col dd k0 k1 k2 k3 k5 mN,
  h.get? C=some (excClassObj nm qn C N bs tl hd sn sub ab col dd k0 k1 k2 k3 k5 newId)/\h.Ns N mN/\mN "__init__" = none/\OwnTail h bmB tl:=by
 unfold PySem.W.excIn at q;split at q
 next dd cd sl ho =>
  split at q
  next C' tl k0 k1 k2 k3 n k5 hm hs =>
   simp only[S7,beq_iff_eq,Bool.not_eq_true']at q;obtain⟨⟨⟨⟨⟨e1,e2⟩,hdel⟩,ht⟩,Nw⟩,Zz⟩:=q;subst e1 e2;cases cd with
   |mk nm bs mro ns qn hd sn sub ab col del =>
    simp only at hm hdel Nw Zz;subst hm hdel;have Xx:sl=#[k0,k1,k2,k3,some (.builtin n),k5]:=by apply Array.ext';rw[hs]
    subst Xx;exact⟨tl,ns,nm,qn,bs,hd,sn,sub,ab,col,dd,k0,k1,k2,k3,k5,_,X _ _ ho,.of_isNs (PySem.W.isNs_of_in X Nw),PySem.W.nsMap_none_of_in X Nw Zz,PySem.W.tail_of_in X ht⟩
  next=>cases q
 next=>cases q
abbrev cJ:yad:=[.type "ValueError", .type "Exception", .type "BaseException", .type "object"]
section
variable{X:Cx}{pos:Pos}
theorem aW {x:Str} {C:Addr} {e:Expr} {es:yai} {t:DA} {np M0:Pos} {Ed:Value->Prop} (pm:MadeX X Ed) (hg:Gl X x) (hm:X.mg x=some (.ref C)) (q:PySem.W.excIn X.K C cJ "ValueError.__new__" = true) (hc:X.calm=true) (ha:Qc X (e::es) t)
  (he:starEach (e::es) X.env=(false,eval e X.env)::starEach es X.env:=by rfl) (Qj:(backTo M0 (starEach es X.env)).any (·.1)=false:=by rfl) (PC:(x==("__debug__" : Str))=false:=by decide) :
  Q9 X (.Raise (some (.Call (.Name x np) (e::es) [] M0)) none pos) (fun _ ρ=>t ρ fun ds=>ds.length<=sizeLine/\Ed (.ref C)):=by
 intro pins s σ H W ρ E I r h;obtain⟨tl,N,nm,qn,bs,hd,sn,sub,ab,col,dd,k0,k1,k2,k3,k5,mN,hC,hN,Zz,T⟩:=yc I.ok.mod.Uz q;have FB:=PySem.F.excBase_ValueError;refine wpAny_Raise_call_subT (C:=C) (nm:=nm) (q:=qn) (N:=N) (bs:=bs) (bm:=tl) (hdct:=hd) (sn:=sn) (sub:=sub) (ab:=ab) (col:=col) (dd:=dd) (k0:=k0) (k1:=k1) (k2:=k2) (k3:=k3) (k5:=k5) FB (mN:=mN) (T.hasType FB.hasBase) (I.ok.hd hc)
  (by rw[he];show(false || (backTo M0 (starEach es X.env)).any (·.1))=false;rw[Qj];rfl) Zz (cx I hg hm ⟨rfl,?_⟩ PC)
 have hz:=ha M0 pins s σ H W ρ _ I r h;rw[he]at hz ⊢;refine Calls.evalArgs_plain (LS hz fun us s1 ⟨vs,H1,ds,I1,rv,e1,O6,z,hE⟩=>?_);exact⟨rfl,by rw[<- O6.len,rv.length]at z;exact z,I1.bk _ _ hC,hN.keeps I1.bk,T.keeps I1.bk,fun h' ea hm=>pm pins σ H1 W ρ s1 ea C us h' I1 (r.same e1) hm hE⟩
theorem cZ{st:Stmt}:Q9 X st (fun _ _=>False):=fun _ _ _ _ _ _ _ _ _ h=>h.elim
theorem Rel.wish{W:Own}{H:Hp}{σ:St}{ρ:Ro}(r:Rel X W H σ ρ)(E:yaa):Rel (X.wish E) W H σ ρ:=⟨r.val,r.own,r.inj,r.kn,r.ke,r.bt,r.st,r.ent,r.tab⟩
theorem Rel.MZ{W:Own}{H:Hp}{σ:St}{ρ:Ro}{E:yaa}(r:Rel (X.wish E) W H σ ρ):Rel X W H σ ρ:=⟨r.val,r.own,r.inj,r.kn,r.ke,r.bt,r.st,r.ent,r.tab⟩
theorem UE.MZ{pins:yab}{W:Own}{H:Hp}{E:eU}{f:Flow}{s':Shared}{XE:yaa}(h:UE (X.wish XE) pins W H E f s'):UE X pins W H E f s':=by
 obtain⟨W',σ',H',I,fw,q⟩:=h;refine⟨W',σ',H',I.MZ,fw,?_⟩;cases f with
 |next=>obtain⟨NQ,r,q⟩:=q;exact⟨NQ,r.MZ,q⟩
 |brk=>obtain⟨NQ,r,q⟩:=q;exact⟨NQ,r.MZ,q⟩
 |cont=>obtain⟨NQ,r,q⟩:=q;exact⟨NQ,r.MZ,q⟩
 |ret u=>exact q
theorem bq.Qp{st:yal}{t:DS}(h:bq X.Qp st t):bq X st t:=fun pins s σ H W ρ E I r hw =>
 O3 (h pins s σ H W ρ E (I.wish _) (r.wish _) hw) (fun _ _ q=>q.MZ) fun _ _ z=>False.elim z
theorem Mv.Qp{e:Expr}{t:DE}(h:Mv X.Qp e t):Mv X e t:=fun pins s σ H W ρ Q I r hw =>
 O3 (h pins s σ H W ρ Q (I.wish _) (r.wish _) hw) (fun _ _ ⟨v,H',d,I',a,b,c,q⟩=>⟨v,H',d,I'.MZ,a,b,c,q⟩) fun _ _ z=>False.elim z
abbrev Cx.markX(X:Cx)(e:Value):Cx:={X with A:=X.A.mark (some e),calm:=false,xe:=fun _ _=>False}
theorem Inv.marked{pins:yab}{σ:St}{H:Hp}{s:Shared}(I:Inv X pins σ H s)(e:Value):Inv (Cx.markX X e) pins σ H s :=
 have ok:=I.ok
 ⟨⟨ok.mod,ok.kind,ok.glob,ok.blt,ok.above,ok.inj,ok.has,ok.Vu,(fun z=>by cases z),ok.frames,ok.Yt,ok.Z2,ok.bs,ok.V7,ok.TQ,ok.U4,ok.Rf,ok.Wl⟩,I.os,I.bare,I.base,I.loc,I.cell,I.free,I.OW,I.pin,I.Nw,I.len⟩
theorem Inv.unmark{pins:yab}{σ:St}{H:Hp}{s:Shared}{e:Value}(J:Inv (Cx.markX X e) pins σ H s)(ok:X.Ok):Inv X pins σ H s :=
 ⟨ok,J.os,J.bare,J.base,J.loc,J.cell,J.free,J.OW,J.pin,J.Nw,J.len⟩
theorem Rel.marked{W:Own}{H:Hp}{σ:St}{ρ:Ro}(r:Rel X W H σ ρ)(e:Value):Rel (Cx.markX X e) W H σ ρ:=⟨r.val,r.own,r.inj,r.kn,r.ke,r.bt,r.st,r.ent,r.tab⟩
theorem Rel.unmark{W:Own}{H:Hp}{σ:St}{ρ:Ro}{e:Value}(r:Rel (Cx.markX X e) W H σ ρ):Rel X W H σ ρ:=⟨r.val,r.own,r.inj,r.kn,r.ke,r.bt,r.st,r.ent,r.tab⟩
theorem Inv.track{pins:yab}{σ:St}{H:Hp}{s:Shared}{e:Addr}{o:HO}(I:Inv X pins σ H s)(hn:H e=none)(h0:X.MY.heap.get? e=none)(hL:e≠X.env.locals)(hc:∀x c,X.env.cells.lookup x=some c->c≠e)(hp:∀p∈X.pn++pins,p.1≠e)
  (new:bQ X.prog X.w (L2.upd H e o) s.heap e o):Inv X pins σ (L2.upd H e o) s:=by
 refine⟨I.ok,I.os,I.bare,⟨I.base.keep,I.base.slot,fun b u q n x=>?_,I.base.there,fun b xs q=>?_,fun b u xs q=>?_,fun b ps q=>?_⟩,I.loc,I.cell,by rw[aq (Ne.symm hL)];exact I.free,fun x c q=>by rw[aq (hc x c q)];exact I.OW x c q,fun p q=>?_,fun b u q=>?_,I.len⟩
 ·rw[aq (fun z=>by rw[z,h0]at q;cases q)];exact I.base.free b u q n x
 ·have:=I.base.Qq b xs q;rw[aq (aY this hn)];exact this
 ·have:=I.base.Qk b u xs q;rw[aq (aY this hn)];exact this
 ·obtain⟨more,this⟩:=I.base.Ql b ps q;exact⟨more,by rw[aq (aY this hn)];exact this⟩
 ·obtain⟨p1,p2,p3⟩:=I.pin p q;exact⟨p1,by rw[aq (hp p q)];exact p2,p3⟩
 ·by_cases hb:b=e
  ·subst hb;rw[ax]at q;cases q;exact new
  ·rw[aq hb]at q;exact(I.Nw b u q).Th (fun c v _ z=>z) (fun c z=>by rw[aq (aY z hn)];exact z) fun c xs z=>by rw[aq (aY z hn)];exact z
theorem AM{M:Model}{A:Around}{E:yaa}{pins:yab}{σ:St}{H:Hp}{s:Shared}{i:Nat}{n:Str}{Q:Unit->Shared->Prop}(I:Inv X pins σ H s)(hN:X.N.Nodup)(hi:X.N[i]?=some n)(hk:X.env.scope.names.lookup n=some .local)
  (h:∀s',Inv X pins (σ.set i none) H s'->Q () s'):wpAny M A (do bindName X.env n .none;unbindBehindTheSuite X.env n pos) Q E s:=by
 obtain⟨m,hn,hl⟩:=id I.loc;refine wpAny_nameGoes_keeps hk hn (by rw[I.ok.kind];rfl) fun h' v hn' hs=>h _ ?_
 have Zw:∀b o,X.MY.heap.get? b=some o->b≠X.env.locals:=fun b o e=>Sn (RX (O8 e) I.ok.above)
 refine⟨I.ok,I.os,I.bare,⟨fun b o e z hb hx=>(hs.2 b (Zw b o e)).trans (I.base.keep b o e z hb hx),fun b o e z hb hx=>?_,I.base.free,fun b o e hx=>?_,I.base.Qq,I.base.Qk,I.base.Ql⟩,⟨_,hn',fun j y v' e1 e2 e3=>?_⟩,fun y c e=>?_,I.free,I.OW,fun p hp=>?_,fun b ob e=>?_,by simpa using I.len⟩
 ·obtain⟨sl,e1⟩:=I.base.slot b o e z hb hx;exact⟨sl,(hs.2 b (Zw b o e)).trans e1⟩
 ·obtain⟨o',e1⟩:=I.base.there b o e hx;exact⟨o',(hs.2 b (Zw b o e)).trans e1⟩
 ·by_cases hj:j=i
  ·subst hj;rw[List.getElem?_set]at e2;simp at e2
  ·rw[Tx (Ne.symm hj)]at e2;obtain⟨u',r',q⟩:=hl j y v' e1 e2 e3;refine⟨u',r',?_⟩;rcases q with⟨k,e⟩| ⟨k,c,e,z⟩
   ·refine .inl ⟨k,?_⟩;have:y≠n:=fun e=>hj (pD hN e1 (e ▸ hi))
    simp[this,e]
   ·exact .inr ⟨k,c,e,z.sameBut hs (I.Xm y c e)⟩
 ·obtain⟨w',z⟩:=I.cell y c e;exact⟨w',z.sameBut hs (I.Xm y c e)⟩
 ·obtain⟨e,z,ne,nf,d⟩:=I.pin p hp;exact⟨(hs.2 p.1 ne).trans e,z,ne,nf,d⟩
 ·refine(I.Nw b ob e).Th (fun c w' hc q=>(hs.2 c ?_).trans q) (fun _ q=>q) fun _ _ q=>q
  intro z;rcases hc with hc|hc
  ·rw[<- hc,z,I.free]at e;cases e
  ·rw[z,I.free]at hc;cases hc
theorem Rel.unset{W:Own}{H:Hp}{σ:St}{ρ:Ro}{i:Nat}(r:Rel X W H σ ρ)(hi:i<σ.length):Rel X (W.drop i) H (σ.set i none) (ρ.set i none):=by
 have at_:∀{j:Nat} {x:Sl},(ρ.set i none)[j]?=some (some x)->j≠i/\ρ[j]?=some (some x):=fun {j x} h=>by
  by_cases hj:j=i
  ·subst hj;rw[List.getElem?_set]at h;simp at h
  ·rw[Tx (Ne.symm hj)]at h;exact⟨hj,h⟩
 have dr:∀{j:Nat} {a:Addr},(W.drop i).O j=some a->j≠i/\W.O j=some a:=fun {j a} h=>by
  have h':(if j=i then none else W.O j)=some a:=h;by_cases e1:j=i
  ·rw[LX e1]at h';cases h'
  ·rw[LO e1]at h';exact⟨e1,h'⟩
 refine⟨fun j d h=>?_,fun j ds h=>?_,fun j k a h1 h2=>r.inj j k a (dr h1).2 (dr h2).2,fun j a h=>r.kn j a (dr h).2,fun j a h=>r.ke j a (dr h).2,r.bt,r.st,r.ent,r.tab⟩
 ·obtain⟨hj,h⟩:=at_ h;obtain⟨v,h1,h2⟩:=r.val j d h;exact⟨v,by rw[Tx (Ne.symm hj)];exact h1,h2.MG fun _ _=>Own.O5⟩
 ·obtain⟨hj,h⟩:=at_ h;obtain⟨a,vs,h1,h2,h3,h4⟩:=r.own j ds h;exact⟨a,vs,by show(if j=i then none else W.O j)=_;rw[LO hj];exact h1,by rw[Tx (Ne.symm hj)];exact h2,h3,by rw[List.length_set];exact h4.MG (fun _ _=>Own.O5) (Own.SJ hi)⟩
def K0(K:yac)(C:Addr)(i:Nat)(sp:DSp)(t:DA)(su:DS):DS:=fun E ρ=>t ρ fun ds=>sp (ay ds) (fun _=>E.nx ρ) fun cv=>∃c,cv=.ref c/\bP K c/\PySem.W.exmOne K (.ref c) (.ref C)=some true ∧
 su ⟨fun NQ=>E.nx (NQ.set i none),E.rt,fun NQ=>E.bk (NQ.set i none),fun NQ=>E.ct (NQ.set i none)⟩ (ρ.set i (some (.val (.exc c))))
def GK(K:yac)(c:Value)(te:DE):DE:=fun ρ Q=>te ρ fun d=>∃b,PySem.W.kitOne K (W9 d) c=some b/\Q (.bl b)
theorem bU {e:Expr} {te:DE} {p p':Pos} {x:Str} {cv:V} {c:Value} (hg:Gl X "isinstance") (hm:X.mg "isinstance" = none) (hx:PE X (.Name x p') (tC cv)) (rc:∀u,RelV cv u->u=c) (he:Mv X e te)
  (Py:starEach [e,.Name x p'] X.env=(false,eval e X.env)::starEach [.Name x p'] X.env:=by rfl) (YF:starEach [.Name x p'] X.env=(false,eval (.Name x p') X.env)::starEach [] X.env:=by rfl) (YG:(backTo pos (starEach [.Name x p'] X.env)).any (·.1)=false:=by rfl) :
  Mv X (.Call (.Name "isinstance" p) [e,.Name x p'] [] pos) (GK X.K c te):=by
 intro pins s σ H W ρ Q I rr h;have hpa:PA X [e,.Name x p'] (j2 (qA X te) (j2 (tC cv) nB)):=bI he.pe (bI hx cB YF) Py;refine Wh (dI I hg hm boot_isinstance ?_ (by decide) (by decide));refine PyProof.Rows.callWith_builtin1 (LS (hpa pos pins s σ H (fun vs H1=>∃v d,vs=[v,cv]/\ai H H1/\Den X.K W.bad H1 d v/\∃b,PySem.W.kitOne X.K (W9 d) c=some b/\Q (.bl b)) I ⟨W,ρ,_,rr,h,fun v H1 d e1 hd q1=>⟨v,d,rfl,e1,hd,q1⟩⟩) fun us s1 ⟨vs,H1,I1,rv,v,d,ev,e1,hd,b,kb,q1⟩=>?_) Py YG;subst ev;cases rv with
 |cons r1 rr =>
  cases rr with
  |cons r2 rr =>
   cases rr;have:=rc _ r2;subst this;exact vH I1 hd r1 kb fun tk=>⟨.bl _,H1,_,I1.tok tk,rfl,e1,Den.bl _,q1⟩
end
def eG(base:Heap)(l:List Env)(e:Addr)(cls a0:Value)(h:Heap):Prop:=base.StaysIn h/\base.get? e=none/\h.FunFrames base l/\∃fl,h.TracedAtW base e cls a0 fl
section
variable{M:Model}{A:Around}{E:yaa}{s:Shared}{base:Heap}{l outer:List Env}{env:Env}{e L:Addr}{cls a0:Value}
theorem rS{fr:Option Addr}{Q:Unit->Shared->Prop}(R:eG base l e cls a0 s.heap)(h:∀h',eG base l e cls a0 h'->s.heap.UpToSlots h'->Q () {s with heap:=h'}):wpAny M A (setFlight (.ref e) fr) Q E s:=by
 obtain⟨k1,k2,k3,fl,oe,vs,T,oT,ts,g1,g2,g3,g4,g5,g6,g7,g8,g9⟩:=R;have z3:3<ts.size:=(ZM.mp g9).1;have T6:∀b,b≠T->(s.heap.update T (Obj.mapFields (·.setIfInBounds 3 (fr.elim Value.none fun f=>rawInt f)))).get? b=s.heap.get? b:=fun b hb=>WX _ _ (Ne.symm hb)
 have UH:∀b o,s.heap.get? b=some o->(∀vs,o.data ≠ .fields vs)->b≠T:=fun b o hb hn q=>by rw[q,g7]at hb;cases hb;exact hn ts g8
 unfold setFlight;refine L3 (Tg g1 g3 g4 ?_);rw[LX (by simp)];refine Yq g7 g8 z3 (h _ ⟨fun b o hb=>(T6 b fun q=>by rw[q,g5]at hb;cases hb).trans (k1 b o hb),k2,k3.of_keeps fun b o hb hn=>⟨o,(T6 b (UH b o hb hn)).trans hb,rfl⟩,?_⟩ fun b o hb hn=>⟨o.slots,(T6 b (UH b o hb hn)).trans hb⟩);exact⟨_,oe,vs,T,_,_,(T6 e (Ne.symm g6)).trans g1,g2,g3,g4,g5,g6,XZ _ g7 (Obj.isFreed_of_fields (Obj.data_mapFields g8 _)),Obj.data_mapFields g8 _,by simp[z3];rfl⟩
theorem Fe{what:String}{cenv:Env}(R:eG base l e cls a0 s.heap)(h:∀h',eG base l e cls a0 h'->s.heap.UpToSlots h'->E (.ref e) {s with heap:=h'}):wpAny M A (PySem.passOn what (.ref e) cenv:Sem Value) (fun _ _=>False) E s:=by
 obtain⟨_,_,_,fl,oe,vs,T,oT,ts,g1,g2,g3,g4,_⟩:=id R;unfold PySem.passOn;refine L3 (Tg g1 g3 g4 ?_);rw[LO (by simp)]
 first
  |exact L3 (OQ (L3 (rS R fun h' R' sl=>wpAny_throw (h h' R' sl))))
  |exact L3 (rS R fun h' R' sl=>wpAny_throw (h h' R' sl))
theorem yo{Q:Unit->Shared->Prop}(YI:A.frames=some (env::outer))(hf:env.frame=some L)(R:eG base (env::outer) e cls a0 s.heap)
  (h:∀h',eG base (env::outer) e cls a0 h'->s.heap.UpToSlots h'->Q () {s with heap:=h'}):wpAny M A (noteFrame (.ref e) env) Q E s:=by
 obtain⟨k1,k2,k3,fl,oe,vs,T,oT,ts,g1,g2,g3,g4,g5,g6,g7,g8,g9⟩:=id R;by_cases hfl:(fl==rawInt L)=true
 ·have efl:fl=rawInt L:=by simpa using hfl
  subst efl;exact wpAny_noteFrame_againW (base:=base) (cls:=cls) (a0:=a0) hf ⟨oe,vs,T,oT,ts,g1,g2,g3,g4,g5,g6,g7,g8,g9⟩ (h _ R (Heap.UpToSlots.refl _))
 ·obtain⟨ec,g0⟩:=g2;subst ec;unfold noteFrame;simp only[hf];refine L3 (Tg g1 g3 g4 ?_);rw[LX (by simp)];refine L3 (Tg g7 g8 g9 ?_);rw[LO hfl];refine L3 (Yq g7 g8 (ZM.mp g9).1 ?_);have T6:∀b,b≠T->(s.heap.update T (Obj.mapFields (·.setIfInBounds 3 Value.none))).get? b=s.heap.get? b:=fun b hb=>WX _ _ (Ne.symm hb)
  have UH:∀b o,s.heap.get? b=some o->(∀vs,o.data ≠ .fields vs)->b≠T:=fun b o hb hn q=>by rw[q,g7]at hb;cases hb;exact hn ts g8
  refine wpAny_entryW (base:=base) YI (k3.of_keeps fun b o hb hn=>⟨o,(T6 b (UH b o hb hn)).trans hb,rfl⟩) hf ((T6 e (Ne.symm g6)).trans g1) (fun b o hb=>(T6 b fun q=>by rw[q,g5]at hb;cases hb).trans (k1 b o hb)) k2 g3 (ZM.mp g4).1 g0 fun h' hN=>?_
  obtain⟨n1,n2,n3,n4⟩:=hN;exact h h' ⟨n1,k2,n2,_,n3⟩ fun b o hb hn=>n4 b o ((T6 b (UH b o hb hn)).trans hb) hn
theorem Cs{Q:Unit->Shared->Prop}(YI:A.frames=some (env::outer))(hf:env.frame=some L)(R:eG base (env::outer) e cls a0 s.heap)
  (h:∀h',Heap.FlyingW base outer e cls a0 h'->s.heap.UpToSlots h'->Q () {s with heap:=h'}):wpAny M A (leaving env (.ref e)) Q E s:=by
 unfold leaving;refine L3 (yo YI hf R fun h1 R1 s1=>?_);obtain⟨k1,k2,k3,fl,k4⟩:=R1;refine wpAny_setFlight_noneW (base:=base) k1 k3 k4 fun h2 m1 m2 m3 m4=>?_
 obtain⟨_,_,m2⟩:=m2;exact h h2 ⟨m1,k2,m2,m3⟩ (s1.trans fun b o hb hn=>⟨o.slots,m4 b o hb hn⟩)
end
def jP(X:Cx)(Ed:Value->Prop):Prop:=∀(pins:yab) (σ:St) (H:Hp) (W:Own) (ρ:Ro) (s s':Shared) (ea c:Addr) (H':Hp) (B:Heap) (a0:Value),Inv X pins σ H s->Rel X W H σ ρ->s'.os=s.os->AllBare s'.gens->Fl X.prog X.w X.stack s.heap H H' B s'.heap->ai H H'->H' ea=none->s.heap.get? ea=none →
 eG B X.stack ea (.ref c) a0 s'.heap->Ed (.ref c)->X.xe (.ref ea) s'
section
variable{P:Program}{w:World}{K:yac}{mg:yam}{base:Heap}{N:yah}{qual:Str}{sc:Scope}{f:Addr}{cd:Value}{A:Around}{outer:List Env}{MY:Shared}{H₀:Hp}{E:XK}
theorem DJ{Ed:Value->Prop}(hE:∀c a H',ai H₀ H'->Ed c->E c a H'):jP (bM (CX1 P w) P w K mg base N qual sc f cd A outer MY H₀ E) Ed:=by
 intro pins σ H W ρ s s' ea c H' B a0 I r os bare F sm hn Uw R hd;show wpAny (model P w) (A.deeper (envOfC qual sc MY.heap.objs.size f cd)) (leaving (envOfC qual sc MY.heap.objs.size f cd) (.ref ea)) _ _ _;refine Cs (outer:=outer) I.ok.frames rfl R fun Xc x1 x2=>?_
 have I':=I.RO os F.un F.Nw bare (by intro b z;cases z);refine vn (s:=s') (h':=Xc) I' (r.ent.trans sm) hn ?_ (fun b o q z n=>F.Yb b o q (z.elim .inl fun⟨o',z⟩=>.inr (I.base.there b o' z (by intro q;cases q))) n) x1 x2 (hE _ _ _ (r.ent.trans sm) hd);cases q:MY.heap.get? ea with
 |none=>rfl
 |some o =>
  obtain⟨o',q'⟩:=I.base.there ea o q (by intro z;cases z);rw[Uw]at q';cases q'
end
section
variable{P:Program}{w:World}{K:yac}{mg:yam}{base:Heap}
structure ar(K:yac)(x qual:Str)(st:Stmt)(f:Addr)(fd:FuncData):Prop where
 ex:∃(oc:Value) (od:Option Addr) (dV kV doc pm:Value) (an:Option Addr) (cdv ct:Value) (Us:Array (yan)),
  fd=PySem.W.fnOf x qual (bG st) (bp st) (ah st) dV kV doc pm an cdv ct/\K.lookup f=some ⟨oc,od,.func fd,Us⟩/\PySem.W.codeIn K cdv qual=true
 kp:PySem.W.keepIn K (.ref f)=true
theorem ar.okC{x qual:Str}{st:Stmt}{f:Addr}{fd:FuncData}{N ps:yah}{k:Nat}{sp:DSp}(F:ar K x qual st f fd)(S:aw N ps (ah st))(len:∀ds Q E,sp ds Q E->ds.length=ps.length)
  (PF:∀(cdv:Value),fd.code=cdv->∀(A:Around) (outer:List Env) (s:Shared) (H:Hp) (E:XK) (Ed:Value->Prop),aX k (A.deeper (envOfC qual (ah st) s.heap.objs.size f cdv))->MadeX (bM (CX1 P w) P w K mg base N qual (ah st) f cdv A outer s H E) Ed->bj (bM (CX1 P w) P w K mg base N qual (ah st) f cdv A outer s H E) Ed->jP (bM (CX1 P w) P w K mg base N qual (ah st) f cdv A outer s H E) Ed →
   ∃ t,bq (bM (CX1 P w) P w K mg base N qual (ah st) f cdv A outer s H E) (bp st) t/\∀ds Q,sp ds Q Ed->t {nx:=fun _=>Q .Nx,rt:=Q} (cb N ds)):aE P w K mg base (CX1 P w) (k+1) f fd ps (aJ K sp):=by
 obtain⟨oc,od,dV,kV,doc,pm,an,cdv,ct,Us,rfl,lk,RN⟩:=F.ex;refine nR lk RN S (fun vs H Q E h=>?_) fun A outer s H vs Q E hr h=>?_
 ·obtain⟨_,ds,_,_,_,_,hd,hs,_⟩:=h;rw[hd.len];exact len ds _ _ hs
 ·obtain⟨Pb,ds,Qd,Ed,hT,hP,hd,hs,kq,ke⟩:=h;obtain⟨t,ht,k⟩:=PF cdv rfl A outer s H E Ed hr (DL ke) (yt ke) (DJ ke);refine⟨_,ht.ps,⟨Pb,fun _=>none,fun a=>∃o,H a=some o⟩,_,_,Rel.start hP hd rfl hT,k ds Qd hs,fun W' σ' H' NQ f r q=>?_,fun W' H' v d f TR q=>?_,fun _ _ _ _ _ _ q=>q,fun _ _ _ _ _ _ q=>q⟩
  ·exact kq .Nx .Nx H' ⟨fun b o e n=>f.kp b o (fun i z=>by cases z) e n,f.tb,f.ok⟩ Den.Nx q
  ·refine kq d v H' ⟨fun b o e n=>f.kp b o (fun i z=>by cases z) e n,f.tb,f.ok⟩ (TR.MG fun t a z=>?_) q;rcases z with z|z
   ·exact .inl (by rw[f.B];exact z)
   ·exact .inr (.inr ⟨z.1,by rw[f.S];exact z.2⟩)
theorem ar.Sz{x qual:Str}{st:Stmt}{f:Addr}{fd:FuncData}{N ps:yah}{k:Nat}{sp:DSp}(F:ar K x qual st f fd)(S:aw N ps (ah st))(len:∀ds Q E,sp ds Q E->ds.length=ps.length)
  (PF:∀(cdv:Value) (A:Around) (outer:List Env) (s:Shared) (H:Hp) (E:XK) (Ed:Value->Prop),aX k (A.deeper (envOfC qual (ah st) s.heap.objs.size f cdv))->MadeX (bM (CX1 P w) P w K mg base N qual (ah st) f cdv A outer s H E) Ed->bj (bM (CX1 P w) P w K mg base N qual (ah st) f cdv A outer s H E) Ed->jP (bM (CX1 P w) P w K mg base N qual (ah st) f cdv A outer s H E) Ed →
   ∃ t,bq (bM (CX1 P w) P w K mg base N qual (ah st) f cdv A outer s H E) (bp st) t/\∀ds Q,sp ds Q Ed->t {nx:=fun _=>Q .Nx,rt:=Q} (cb N ds)):aE P w K mg base (CX1 P w) (k+1) f fd ps (aJ K sp):=ar.okC F S len fun cdv _=>PF cdv
theorem ar.okN{x qual:Str}{st:Stmt}{f:Addr}{fd:FuncData}{N ps:yah}{k:Nat}{sp:DSp}(F:ar K x qual st f fd)(S:aw N ps (ah st))(len:∀ds Q E,sp ds Q E->ds.length=ps.length)
  (PF:∀(cdv:Value) (A:Around) (outer:List Env) (s:Shared) (H:Hp) (E:XK),aX k (A.deeper (envOfC qual (ah st) s.heap.objs.size f cdv)) →
   ∃ t,bq (bM (CX1 P w) P w K mg base N qual (ah st) f cdv A outer s H E).Qp (bp st) t/\∀ds Q Ed,sp ds Q Ed->t {nx:=fun _=>Q .Nx,rt:=Q} (cb N ds)):aE P w K mg base (CX1 P w) (k+1) f fd ps (aJ K sp) :=
 ar.Sz F S len fun cdv A outer s H E Ed hr _ _ _=>by obtain⟨t,ht,k⟩:=PF cdv A outer s H E hr;exact⟨t,ht.Qp,fun ds Q h=>k ds Q Ed h⟩
theorem fF{x qual:Str}{st:Stmt}{f:Addr}{oc:Value}{od an:Option Addr}{Us:Array (yan)}{dV kV doc pm cdv ct:Value}(l:K.lookup f=some ⟨oc,od,.func (PySem.W.fnOf x qual (bG st) (bp st) (ah st) dV kV doc pm an cdv ct),Us⟩)
  (c:PySem.W.codeIn K cdv qual=true) (k:PySem.W.keepIn K (.ref f)=true):ar K x qual st f (PySem.W.fnOf x qual (bG st) (bp st) (ah st) dV kV doc pm an cdv ct):=⟨⟨oc,od,dV,kV,doc,pm,an,cdv,ct,Us,rfl,l,c⟩,k⟩
end
open PySem PySem.Spec PyProof.Rows L2
def Pj(P:Program)(w:World)(K:yac)(mg:yam)(base:Heap)(x:Str)(k:Nat)(ps:yah)(sp:DSp):Prop :=
 ∃ f fd,aE P w K mg base (CX1 P w) k f fd ps (aJ K sp)/\mg x=some (.ref f)/\PySem.W.keepIn K (.ref f)=true/\Binds K fd ps []
section
variable{X:Cx}{k:Nat}{ps:yah}{sp:DSp}{x:Str}{p pos:Pos}{e:Expr}{es:yai}{t:DA}
theorem rJ (h:Pj X.prog X.w X.K X.mg X.base x k ps sp) (hr:aX k X.A) (ha:Qc X (e::es) t) (hg:Gl X x:=by rfl) (PC:(x==("__debug__" : Str))=false:=by decide)
  (he:starEach (e::es) X.env=(false,eval e X.env)::starEach es X.env:=by rfl) (Qj:(backTo pos (starEach es X.env)).any (·.1)=false:=by rfl):Mv X (.Call (.Name x p) (e::es) [] pos) (qi sp [] t):=by
 obtain⟨f,fd,F,hm,hk,hb⟩:=h;exact B7 (dds:=[]) (dsv:=[]) F hr hg hm hk hb .nil (by simp) lM ha PC he Qj
theorem aM {n:Nat} (h:Pj X.prog X.w X.K X.mg X.base x k ps sp) (hr:aX n X.A) (ha:Qc X (e::es) t) (hk:k<=n:=by decide) (hg:Gl X x:=by rfl) (PC:(x==("__debug__" : Str))=false:=by decide)
  (he:starEach (e::es) X.env=(false,eval e X.env)::starEach es X.env:=by rfl) (Qj:(backTo pos (starEach es X.env)).any (·.1)=false:=by rfl):Mv X (.Call (.Name x p) (e::es) [] pos) (qi sp [] t):=rJ h (hr.mono hk) ha hg PC he Qj
theorem bw {Ed:Value->Prop} (px:bj X Ed) (h:Pj X.prog X.w X.K X.mg X.base x k ps sp) (hr:aX k X.A) (ha:Qc X (e::es) t) (hg:Gl X x:=by rfl) (PC:(x==("__debug__" : Str))=false:=by decide)
  (he:starEach (e::es) X.env=(false,eval e X.env)::starEach es X.env:=by rfl) (Qj:(backTo pos (starEach es X.env)).any (·.1)=false:=by rfl):Mv X (.Call (.Name x p) (e::es) [] pos) (qj sp Ed [] t):=by
 obtain⟨f,fd,F,hm,hk,hb⟩:=h;exact z9 (dds:=[]) (dsv:=[]) px F hr hg hm hk hb .nil (by simp) ha PC he Qj
end
theorem GD{CX:CXT}{P:Program}{w:World}{K:yac}{mg:yam}{base:Heap}{N:yah}{qual:Str}{sc:Scope}{f:Addr}{cd:Value}{A:Around}{outer:List Env}{s:Shared}{H:Hp}{E:XK}:(bM CX P w K mg base N qual sc f cd A outer s H E).K=K:=rfl
theorem FR(c:Addr):W9 (.exc c)=.ref c:=rfl
theorem Az(c:Addr):lJ (.exc c)=false:=rfl
def uR:DSp:=fun ds Q _=>∃ns:yaf,ds=[.lst false (ns.map .int)]/\ns.length<=63/\Q (.bl true)
theorem tH{K:yac}{P:yak}{H:Hp}:∀ns:yaf,af K P H (ns.map D.int) (ns.map V.int)
 |[]=>af.nil
 |n::r=>af.cons (Den.int n) (tH r)
theorem HU{K:yac}{H:Hp}{a:Addr}{ns:yaf}(hl:ns.length<=63)(hS:SqL K H a (ns.map V.int))(hT:cK K H):aJ K uR [.ref a] H (fun v _=>v=.bl true) fun _ _ _=>False :=
 ⟨fun _=>False,[.lst false (ns.map D.int)],fun d=>d=.bl true,fun _=>False,hT,fun _ z=>z.elim,af.one (Den.lst (fun z=>z.elim (fun z=>by cases z) id) (.any hS) (tH ns)),⟨ns,rfl,hl,rfl⟩,fun d v H' _ hd e=>by subst e;exact hd.VH,fun _ _ _ _ z=>z.elim⟩
theorem at0{α:Type}(a:α)(r:List α):Rp (a::r) 0=some a:=cT (j:=0) rfl
theorem at1{α:Type}(a b:α)(r:List α):Rp (a::b::r) 1=some b:=cT (j:=1) rfl
theorem at2{α:Type}(a b c:α)(r:List α):Rp (a::b::c::r) 2=some c:=cT (j:=2) rfl
theorem at3{α:Type}(a b c d:α)(r:List α):Rp (a::b::c::d::r) 3=some d:=cT (j:=3) rfl
theorem CS(ds:yas)(i:Int)(Q:D->Prop):fz (.tup ds) (.int i) Q=∃d,Rp ds i=some d/\Q d:=qy ds i Q
theorem CQ(t:Bool)(ds:yas)(i:Int)(Q:D->Prop):fz (.lst t ds) (.int i) Q=∃d,Rp ds i=some d/\Q d:=qy ds i Q
section
variable{a b c d:D}{r:yas}{t:Bool}{Q:D->Prop}
theorem rx0:fz (.tup (a::r)) (.int 0) Q=Q a:=rfl
theorem rx1:fz (.tup (a::b::r)) (.int 1) Q=Q b:=rfl
theorem rx2:fz (.tup (a::b::c::r)) (.int 2) Q=Q c:=rfl
theorem rx3:fz (.tup (a::b::c::d::r)) (.int 3) Q=Q d:=rfl
theorem lx0:fz (.lst t (a::r)) (.int 0) Q=Q a:=rfl
theorem lx1:fz (.lst t (a::b::r)) (.int 1) Q=Q b:=rfl
theorem lx2:fz (.lst t (a::b::c::r)) (.int 2) Q=Q c:=rfl
theorem lx3:fz (.lst t (a::b::c::d::r)) (.int 3) Q=Q d:=rfl
end
theorem t6(i:Int):av (.int i)=.int i:=rfl
theorem De(b:Bool):av (.bl b)=.bl b:=rfl
theorem Bz:av .Nx=.Nx:=rfl
theorem t8(x:Str):av (.str x)=.str x:=rfl
theorem Bx(c:Addr):av (.exc c)=.exc c:=rfl
theorem BA(ds:yas):av (.tup ds)=.tup (ay ds):=rfl
theorem By(t:Bool)(ds:yas):av (.lst t ds)=.lst false (ay ds):=rfl
theorem bZ:ay []=[]:=rfl
theorem aR(d:D)(ds:yas):ay (d::ds)=av d::ay ds:=rfl
theorem cI{α:Type}(f:α->D)(h:∀x,av (f x)=f x):∀xs:List α,ay (xs.map f)=xs.map f
 |[]=>by rw[Wk,ay]
 |x::r=>by rw[Sv,ay,h,cI f h r]
theorem oU(ns:yaf):ay (ns.map D.int)=ns.map D.int:=cI _ t6 ns
theorem Fs(C:Int->Int->Prop)(g:Int->Int->D)(i j:Int)(Q:D->Prop):YE C g (.int i) (.int j) Q=(C i j/\Q (g i j)):=rfl
theorem CP(g:Int->Int->D)(i j:Int)(Q:D->Prop):fy g (.int i) (.int j) Q=Q (g i j):=rfl
theorem G6(d:D)(r:Ro)(Q:D->Prop):i9 0 (some (.val d)::r) Q=Q d:=rfl
theorem G7(n:Nat)(x:Option Sl)(r:Ro)(Q:D->Prop):i9 (n+1) (x::r) Q=i9 n r Q:=rfl
theorem Kt(x y:Option Sl)(r:Ro):List.set (x::r) 0 y=y::r:=rfl
theorem Ku(n:Nat)(x y:Option Sl)(r:Ro):List.set (x::r) (n+1) y=x::List.set r n y:=rfl
theorem JV(k:Bool)(R:Bool->Prop):(∃c,(D.bl k)=.bl c/\R c)=R k:=by
 apply propext;constructor
 ·rintro⟨c,e,q⟩;cases e;exact q
 ·intro q;exact⟨k,rfl,q⟩
theorem Hi(k:Int)(R:Int->Prop):(∃c,(D.int k)=.int c/\R c)=R k:=by
 apply propext;constructor
 ·rintro⟨c,e,q⟩;cases e;exact q
 ·intro q;exact⟨k,rfl,q⟩
theorem ED{α:Type}(k:α)(R:α->Prop):(∃c,some k=some c/\R c)=R k:=by
 apply propext;constructor
 ·rintro⟨c,e,q⟩;cases e;exact q
 ·intro q;exact⟨k,rfl,q⟩
theorem sz3(a b c:D):([a,b,c]:yas).length<=sizeLine:=by rw[TM];show 3<=16777216;decide
theorem sz2(a b:D):([a,b]:yas).length<=sizeLine:=by rw[TM];show 2<=16777216;decide
theorem SA(a:D):([a]:yas).length<=sizeLine:=by rw[TM];show 1<=16777216;decide
theorem sz4(a b c d:D):([a,b,c,d]:yas).length<=sizeLine:=by rw[TM];show 4<=16777216;decide
theorem ES(t:Bool)(xs:yas)(R:yas->Prop):(∃ys,((∃t',[D.lst t xs]=[.lst t' ys]) ∨ [D.lst t xs]=[.tup ys])/\R ys)=R xs:=by
 apply propext;constructor
 ·rintro⟨c,e,q⟩;rcases e with⟨_,e⟩| e
  ·cases e;exact q
  ·cases e
 ·intro q;exact⟨xs,.inl ⟨t,rfl⟩,q⟩
theorem ET(xs:yas)(R:yas->Prop):(∃ys,((∃t',[D.tup xs]=[.lst t' ys]) ∨ [D.tup xs]=[.tup ys])/\R ys)=R xs:=by
 apply propext;constructor
 ·rintro⟨c,e,q⟩;rcases e with⟨_,e⟩| e
  ·cases e
  ·cases e;exact q
 ·intro q;exact⟨xs,.inr rfl,q⟩
theorem IG(a b:D)(R:D->D->Prop):(∃d e,[a,b]=[d,e]/\R d e)=R a b:=by
 apply propext;constructor
 ·rintro⟨_,_,e,q⟩;cases e;exact q
 ·intro q;exact⟨a,b,rfl,q⟩
theorem ym (ds:yas):Ta "tuple" (.tup ds)=true:=rfl
theorem AG (t:Bool) (ds:yas):Ta "tuple" (.lst t ds)=false:=rfl
theorem EM (t:Bool) (ds:yas):Ta "list" (.lst t ds)=true:=rfl
theorem AF (ds:yas):Ta "list" (.tup ds)=false:=rfl
theorem EL (i:Int):Ta "int" (.int i)=true:=rfl
theorem yY (i:Int):Ta "bool" (.int i)=false:=rfl
theorem AD:lJ .Nx=true:=rfl
theorem AE(ds:yas):lJ (.tup ds)=false:=rfl
theorem AB(t:Bool)(ds:yas):lJ (.lst t ds)=false:=rfl
theorem AA(i:Int):lJ (.int i)=false:=rfl
theorem yq(i:Int):okD (.int i):=by unfold okD;rw[Qm,Uu]<;>first|exact⟨rfl,rfl⟩| (intros;contradiction)
theorem yr:okD .Nx:=by unfold okD;rw[Qm,Uu]<;>first|exact⟨rfl,rfl⟩| (intros;contradiction)
theorem Iu(a b c:Int):okD (.tup [.int a,.int b,.int c]):=by unfold okD;simp only[Qm,c6,Uu,lN];exact⟨rfl,rfl⟩
theorem Hh(a b c x y z:Int):eqD (.tup [.int a,.int b,.int c]) (.tup [.int x,.int y,.int z])=(decide (a=x) && (decide (b=y) && decide (c=z))):=by unfold eqD;simp only[Qm,c6,PyData.eqv,PyData.eqvAll,Bool.and_true];rfl
abbrev T3(a b c:Int):D:=.tup [.int a,.int b,.int c]
theorem CD.lit{i n:Int}(h:n≠0/\n.natAbs<2 ^ 64:=by decide):CD i n:=⟨h.1,RX h.2 (ZP (by decide) (by decide))⟩
theorem Fw(a b d:Int)(R:Int->Int->Int->Prop):(∃i j c:Int,[D.int a,D.int b,D.int d]=[.int i,.int j,.int c]/\R i j c)=R a b d:=by
 apply propext;constructor
 ·rintro⟨_,_,_,e,q⟩;cases e;exact q
 ·intro q;exact⟨a,b,d,rfl,q⟩
theorem Fv(a b:Int)(R:Int->Int->Prop):(∃i j:Int,[D.int a,D.int b]=[.int i,.int j]/\R i j)=R a b:=by
 apply propext;constructor
 ·rintro⟨_,_,e,q⟩;cases e;exact q
 ·intro q;exact⟨a,b,rfl,q⟩
theorem Fu(a:Int)(R:Int->Prop):(∃i:Int,[D.int a]=[.int i]/\R i)=R a:=by
 apply propext;constructor
 ·rintro⟨_,e,q⟩;cases e;exact q
 ·intro q;exact⟨a,rfl,q⟩
theorem tY{lo c:Int}{n j:Nat}{x:D}(h:(kh lo c n)[j]?=some x):j<n/\x=.int (lo+j*c):=by
 by_cases hj:j<n
 ·rw[wu hj]at h;exact⟨hj,(UQ h).symm⟩
 ·rw[Zn (by rw[jl];omega)]at h;cases h
theorem Fx{lo hi c:Int}{j:Nat}(hc:0<c)(h:j<fL lo hi c):lo+j*c<hi:=by
 unfold fL Builtin.Range.rangeSize at h;rw[LX (show c > 0 from hc)]at h;by_cases hl:lo<hi
 ·rw[LX hl]at h;have h1:(j:Int)<=(hi - lo - 1) / c:=by omega
  have h2:=(Int.le_ediv_iff_mul_le hc).mp h1;omega
 ·rw[LO hl]at h;simp at h
theorem BP{ns:yaf}{k:Int}(h0:0<=k)(h1:k<ns.length):Rp (ns.map D.int) k=some (.int (ns.getD k.toNat 0)):=by
 have e:k=((k.toNat:Nat):Int):=by omega
 have hl:k.toNat<ns.length:=by omega
 have q:Rp (ns.map D.int) ((k.toNat:Nat):Int)=some (.int (ns.getD k.toNat 0)):=cT (by simp[Td,Yj hl,zBr]);rw[<- e]at q;exact q
theorem xq{xs ys:yaf}(h:xs.map D.int=ys.map D.int):xs=ys:=by
 induction xs generalizing ys with
 |nil=>cases ys with
  |nil=>rfl
  |cons y r=>simp at h
 |cons x r ih=>cases ys with
  |nil=>simp at h
  |cons y q =>
   simp only[Sv,zBs,D.int.injEq]at h;rw[h.1,ih h.2]
theorem gdN(n:Nat)(t:Wq)(tg:Bool)(ds:yas)(h:ds.length=n)(ρ:Ro)(Q:Ro->Prop):gC n t (.lst tg ds) ρ Q=t ds ρ Q:=by
 apply propext;unfold gC;constructor
 ·rintro⟨T8,e,_,h⟩;rcases e with e|⟨_,e⟩
  ·cases e
  ·cases e;exact h
 ·intro q;exact⟨ds,.inr ⟨tg,rfl⟩,h,q⟩
theorem yX(n:Nat)(t:Wq)(ds:yas)(h:ds.length=n)(ρ:Ro)(Q:Ro->Prop):gC n t (.tup ds) ρ Q=t ds ρ Q:=by
 apply propext;unfold gC;constructor
 ·rintro⟨T8,e,_,h⟩;rcases e with e|⟨_,e⟩
  ·cases e;exact h
  ·cases e
 ·intro q;exact⟨ds,.inl rfl,h,q⟩
theorem gdc(g:DG)(u:Wq)(x:D)(r:yas)(ρ:Ro)(Q:Ro->Prop):cA g u (x::r) ρ Q=g x ρ fun NQ=>u r NQ Q:=by
 apply propext;unfold cA;constructor
 ·rintro⟨d,r',e,h⟩;cases e;exact h
 ·intro h;exact⟨x,r,rfl,h⟩
theorem gdn(ρ:Ro)(Q:Ro->Prop):jS [] ρ Q=Q ρ:=by apply propext;unfold jS;simp
theorem gd2(g1 g2:DG)(tg:Bool)(a b:D)(ρ:Ro)(Q:Ro->Prop):gC 2 (cA g1 (cA g2 jS)) (.lst tg [a,b]) ρ Q=g1 a ρ fun P8=>g2 b P8 Q:=by
 (first|rw[gdN 2 _ _ _ rfl]|rw[gdN 3 _ _ _ rfl]);simp only[gdc,gdn]
theorem K5(g1 g2:DG)(a b:D)(ρ:Ro)(Q:Ro->Prop):gC 2 (cA g1 (cA g2 jS)) (.tup [a,b]) ρ Q=g1 a ρ fun P8=>g2 b P8 Q:=by
 (first|rw[yX 2 _ _ rfl]|rw[yX 4 _ _ rfl]);simp only[gdc,gdn]
theorem gd3(g1 g2 g3:DG)(tg:Bool)(a b c:D)(ρ:Ro)(Q:Ro->Prop):gC 3 (cA g1 (cA g2 (cA g3 jS))) (.lst tg [a,b,c]) ρ Q=g1 a ρ fun P8=>g2 b P8 fun Pu=>g3 c Pu Q:=by
 (first|rw[gdN 2 _ _ _ rfl]|rw[gdN 3 _ _ _ rfl]);simp only[gdc,gdn]
theorem K6(g1 g2 g3 g4:DG)(a b c d:D)(ρ:Ro)(Q:Ro->Prop):gC 4 (cA g1 (cA g2 (cA g3 (cA g4 jS)))) (.tup [a,b,c,d]) ρ Q=g1 a ρ fun P8=>g2 b P8 fun Pu=>g3 c Pu fun UW=>g4 d UW Q:=by
 (first|rw[yX 2 _ _ rfl]|rw[yX 4 _ _ rfl]);simp only[gdc,gdn]
section
variable{X:Cx}{pos:Pos}
theorem Rel.putG{W:Own}{H H':Hp}{σ:St}{ρ:Ro}{i:Nat}{p:Addr}{x:OS}{o:HO}(r:Rel X W H σ ρ)(hi:i<σ.length)(sm:ai H H')(hp:H p=none)(hk:X.K.lookup p=none)(h':H' p=some o)(hd:cS X.K (fun t b=>W.bad t b∨b=p) H' (W.sub σ.length i) x o) :
  Rel X ((W.drop i).put i p) H' (σ.set i (some (.ref p))) (ρ.set i (some (.ob x)))/\OB W H ((W.drop i).put i p) H':=by
 have hO:∀j a,((W.drop i).put i p).O j=some a->(j=i/\a=p)∨(j≠i/\W.O j=some a):=fun j a h=>by
  have h1:(if j=i then some p else(if j=i then none else W.O j))=some a:=h;by_cases e:j=i
  ·rw[LX e]at h1;cases h1;exact .inl ⟨e,rfl⟩
  ·rw[LO e,LO e]at h1;exact .inr ⟨e,h1⟩
 have hOi:((W.drop i).put i p).O i=some p:=by show(if i=i then some p else _)=_;rw[LX rfl]
 have hOj:∀j,j≠i->((W.drop i).put i p).O j=W.O j:=fun j n=>by show(if j=i then some p else(if j=i then none else W.O j))=_;rw[LO n,LO n]
 have hS:∀j k b,W.sub σ.length j k=some b->((W.drop i).put i p).sub σ.length j k=some b:=fun j k b e=>(hOj _ (rz hi)).trans e
 have Sr:∀t a,((W.drop i).put i p).bad t a->W.bad t a∨a=p:=fun t a z=>by
  rcases z with z|⟨j,z⟩| z
  ·exact .inl (.inl z)
  ·rcases hO j a z with⟨_,q⟩| ⟨_,q⟩
   ·exact .inr q
   ·exact .inl (.inr (.inl ⟨j,q⟩))
  ·exact .inl (.inr (.inr z))
 have nb:∀{t:Bool} {a:Addr} {ws:yar},QK X.K H t a ws->a≠p:=fun {t a ws} q z=>by
  subst z;rcases q.1 with(q|⟨o,q⟩)|⟨o,its,n,q,_⟩
  ·rw[hp]at q;cases q
  ·rw[hp]at q;cases q
  ·rw[hk]at q;cases q
 have up:∀(d:D) (v:V),Den X.K W.bad H d v->Den X.K ((W.drop i).put i p).bad H' d v:=Den.map (fun _ _ q=>OM.same sm q) (fun t a ws n q=>⟨fun z=>(Sr t a z).elim n (nb q),q.same sm⟩) (fun a _ n q=>sm.kp a _ q n.nt);have ups:∀(ds:yas) (vs':yar),af X.K W.bad H ds vs'->af X.K ((W.drop i).put i p).bad H' ds vs':=af.map (fun _ _ q=>OM.same sm q) (fun t a ws n q=>⟨fun z=>(Sr t a z).elim n (nb q),q.same sm⟩) (fun a _ n q=>sm.kp a _ q n.nt);refine⟨⟨fun j d h=>?_,fun j x h=>?_,fun j k a h1 h2=>?_,fun j a h1=>?_,fun j a h1=>?_,fun a h=>let ⟨_,q⟩:=r.bt a h;sm.ex q,fun a h=>let ⟨_,q⟩:=r.st a h;sm.ex q,r.ent.trans sm,r.tab.same sm⟩,rfl,rfl,fun b o _ q n=>sm.kp b o q n,fun j a h=>?_,sm.tb,sm.ok⟩
 ·by_cases hj:j=i
  ·subst hj;rw[List.getElem?_set]at h;split at h
   ·split at h<;>cases h
   ·omega
  ·rw[Tx (Ne.symm hj)]at h;obtain⟨w,h1,h2⟩:=r.val j d h;exact⟨w,by rw[Tx (Ne.symm hj)];exact h1,up d w h2⟩
 ·by_cases hj:j=i
  ·subst hj;rw[List.getElem?_set]at h;split at h
   ·split at h
    ·cases h;exact⟨p,_,hOi,by simp[hi],h',by rw[List.length_set];exact hd.MG (fun t a z=>Sr t a z) (hS _)⟩
    ·cases h
   ·omega
  ·rw[Tx (Ne.symm hj)]at h;obtain⟨a,ws,h1,h2,h3,h4⟩:=r.own j x h;exact⟨a,ws,(hOj j hj).trans h1,by rw[Tx (Ne.symm hj)];exact h2,sm.kp _ _ h3 h4.Xa.nt,by rw[List.length_set];exact h4.map ups fun k b q=>⟨hS j k b q,fun _ z=>sm _ _ z⟩⟩
 ·rcases hO j a h1 with⟨e1,q1⟩| ⟨e1,q1⟩<;>rcases hO k a h2 with⟨e2,q2⟩| ⟨e2,q2⟩
  ·rw[e1,e2]
  ·subst q1;obtain⟨_,_,ws,q,_⟩:=r.kn k _ q2;rw[hp]at q;cases q
  ·subst q2;obtain⟨_,_,ws,q,_⟩:=r.kn j _ q1;rw[hp]at q;cases q
  ·exact r.inj j k a q1 q2
 ·rcases hO j a h1 with⟨e1,q1⟩| ⟨e1,q1⟩
  ·subst q1;exact⟨hk,⟨fun z=>(by obtain⟨o,q⟩:=r.bt _ z;rw[hp]at q;cases q),fun z=>(by obtain⟨o,q⟩:=r.st _ z;rw[hp]at q;cases q)⟩,_,h',hd.Xa⟩
  ·obtain⟨a1,a2,ws,a3,a4⟩:=r.kn j a q1;exact⟨a1,a2,ws,sm.kp _ _ a3 a4.nt,a4⟩
 ·rcases hO j a h1 with⟨e1,q1⟩| ⟨e1,q1⟩
  ·subst q1;exact r.ent.free hp
  ·exact r.ke j a q1
 ·rcases hO j a h with⟨e1,q1⟩| ⟨e1,q1⟩
  ·subst q1;exact .inr hp
  ·exact .inl ⟨j,q1⟩
theorem Rel.Vz{W:Own}{H H':Hp}{σ:St}{ρ:Ro}{i:Nat}{p:Addr}{ds:yas}{vs:yar}(r:Rel X W H σ ρ)(hi:i<σ.length)(sm:ai H H')(hp:H p=none)(hk:X.K.lookup p=none)(h':H' p=some (.lst vs))(hd:af X.K (fun t b=>W.bad t b∨b=p) H' ds vs) :
  Rel X ((W.drop i).put i p) H' (σ.set i (some (.ref p))) (ρ.set i (some (.own ds)))/\OB W H ((W.drop i).put i p) H':=r.putG hi sm hp hk h' (.lst hd)
theorem af.apart{K:yac}{P:yak}{H:Hp}{a:Addr}{o:HO}{ds:yas}{us:yar}(n:H a=none)(k:K.lookup a=none)(h:af K P H ds us)(nt:NT o:=by exact True.intro):af K (fun t b=>P t b∨b=a) (L2.upd H a o) ds us :=
 af.map (fun _ _ q=>OM.same (ai.upd n nt) q) (fun t b ws p q=>⟨(fun z=>z.elim p fun z=>by
  subst z;rcases q.1 with(q|⟨o,q⟩)|⟨o,its,m,q,_⟩
  ·rw[n]at q;cases q
  ·rw[n]at q;cases q
  ·rw[k]at q;cases q),q.same (ai.upd n nt)⟩) (fun b _ m q=>(ai.upd n nt).kp b _ q m.nt) ds us h
theorem Rel.mutG{W:Own}{H:Hp}{σ:St}{ρ:Ro}{i:Nat}{a:Addr}{x x':OS}{o o':HO}(r:Rel X W H σ ρ)(eo:ρ[i]?=some (some (.ob x)))(oa:W.O i=some a)(sa:σ[i]?=some (some (.ref a)))(ha:H a=some o)(hm:iX o)(hd:cS X.K W.bad H (W.sub σ.length i) x' o') :
  Rel X W (L2.upd H a o') σ (ρ.set i (some (.ob x')))/\OB W H W (L2.upd H a o'):=by
 have badA:∀t,W.bad t a:=fun _=>.inr (.inl ⟨i,oa⟩)
 have YJ:∀b ws,OM X.K H b ws->OM X.K (L2.upd H a o') b ws:=fun b ws q=>by show L2.upd _ _ _ _=_;rw[aq (uM q ha (by intro z;subst z;exact hm))];exact q
 have YK:∀t b ws,¬W.bad t b->QK X.K H t b ws->¬W.bad t b/\QK X.K (L2.upd H a o') t b ws:=fun t b ws n q=>by
  have RP:b≠a:=fun e=>n (e ▸ badA t)
  refine⟨n,?_,fun z=>⟨by rw[aq RP];exact(q.2 z).1,(q.2 z).2⟩⟩;rcases q.1 with(q|⟨u,q⟩)|q
  ·exact .inl (.inl (by rw[aq RP];exact q))
  ·exact .inl (.inr ⟨u,by rw[aq RP];exact q⟩)
  ·exact .inr q
 have YL:∀b u,Xs u->H b=some u->L2.upd H a o' b=some u:=fun b u n q=>by rw[aq (uM q ha (by intro z;subst z;exact hm.sol n))];exact q
 have Xd:i<ρ.length:=(U3.mp eo).1;have il:i<σ.length:=(U3.mp sa).1;have hSb:∀j k b,W.sub σ.length j k=some b->W.sub σ.length j k=some b/\∀us,H b=some (.lst us)->L2.upd H a o' b=some (.lst us):=fun j k b q=>⟨q,fun us z=>by rw[aq (fun e=>rz il (r.inj _ _ a (by rw[<- e];exact q) oa))];exact z⟩
 have tr:∀b u,H b=some u->∃u',L2.upd H a o' b=some u':=fun b u q=>by
  by_cases UY:b=a
  ·subst UY;exact⟨_,ax⟩
  ·exact⟨u,by rw[aq UY];exact q⟩
 refine⟨⟨fun j d h=>?_,fun j y h=>?_,r.inj,fun j b hb=>?_,r.ke,fun b hb=>let ⟨u,q⟩:=r.bt b hb;tr b u q,fun b hb=>let ⟨u,q⟩:=r.st b hb;tr b u q,r.ent.ins (r.ke i a oa) ha hm hd.Xa.nt,r.tab.upd hd.Xa.nt (.inr ⟨o,ha,hm.ne,hm.nt⟩)⟩,OB.upd oa ha hm hd.Xa.nt⟩
 ·by_cases hj:j=i
  ·subst hj;rw[WY Xd]at h;cases h
  ·rw[Tx (Ne.symm hj)]at h;obtain⟨w,h1,h2⟩:=r.val j d h;exact⟨w,h1,Den.map YJ YK YL d w h2⟩
 ·by_cases hj:j=i
  ·subst hj;rw[WY Xd]at h;cases h;exact⟨a,o',oa,sa,ax,hd.map (af.map YJ YK YL) (hSb _)⟩
  ·rw[Tx (Ne.symm hj)]at h;obtain⟨b,ws,h1,h2,h3,h4⟩:=r.own j y h;have RP:b≠a:=fun e=>hj (r.inj j i a (by rw[<- e];exact h1) oa)
   exact⟨b,ws,h1,h2,by rw[aq RP];exact h3,h4.map (af.map YJ YK YL) (hSb _)⟩
 ·obtain⟨k1,k2,ws,k3,k4⟩:=r.kn j b hb;refine⟨k1,k2,?_⟩;by_cases UY:b=a
  ·subst UY;exact⟨_,ax,hd.Xa⟩
  ·exact⟨ws,by rw[aq UY];exact k3,k4⟩
theorem Rel.Xa{W:Own}{H:Hp}{σ:St}{ρ:Ro}{i:Nat}{a:Addr}{ds T8:yas}{vs vs':yar}(r:Rel X W H σ ρ)(eo:ρ[i]?=some (some (.own ds)))(oa:W.O i=some a)(sa:σ[i]?=some (some (.ref a)))(ha:H a=some (.lst vs))(hd:af X.K W.bad H T8 vs') :
  Rel X W (L2.upd H a (.lst vs')) σ (ρ.set i (some (.own T8)))/\OB W H W (L2.upd H a (.lst vs')):=r.mutG eo oa sa ha True.intro (.lst hd)
variable{es:yai}{t:DA}
def GQ(i:Nat)(t:DA):DS:=fun E ρ=>t ρ fun ds=>ds.length<=sizeLine/\E.nx (ρ.set i (some (.own ds)))
theorem Al{x:Str}{pos' YM:Pos}(i:Nat)(hN:X.N.Nodup)(h:Qc X es t)(hi:X.N[i]?=some x:=by rfl)(hx:Loc X.env.scope x:=by first|exact Or.inl rfl|exact Or.inr rfl)
  (hs:swapsWith (.List es YM) (some (.Name x pos')) pos.line X.env=pure false:=by rfl) (hf:X.fn x=true∨X.env.scope.names.lookup x=some .local:=by first|exact .inl rfl|exact .inr rfl|assumption) :
  Q9 X (.Assign [.Name x pos'] (.List es YM) pos) (GQ i t):=by
 intro pins s σ H W ρ E I r hq;refine wpAny_Assign_Name (wpAny_List_spliced (LS (h YM pins s σ H W ρ _ I r hq) fun us s1 ⟨vs,H1,ds,I1,rv,e1,hd,z,q⟩=>?_)) hs;rw[<- hd.len]at z;refine⟨by rw[<- rv.length];exact z,?_⟩;have hf1:H1 s1.heap.objs.size=none:=I1.Nw.fresh (O2 _);have I2:=I1.laid (o:=.lst vs) (t':=s1.toks) (fun b u e=>P7 _ e) (O2 _) ⟨z,us,0,rv,Rm _ rfl⟩;have rp:=(r.same e1).Vz (Inv.V9 I1 hi) (ai.upd (o:=.lst vs) hf1) hf1 (Inv.Pq I1) ax (af.apart hf1 (Inv.Pq I1) hd);exact dS (v:=.ref s1.heap.objs.size) I2 hN hi hx rfl (fun s2 I3=>⟨_,_,_,I3,(OB.same e1).trans rp.2,_,rp.1,q⟩) hf
def xR(i:Nat)(te:DE):DS:=fun E ρ=>jh ρ[i]? fun ds=>te ρ fun d=>ds.length<sizeLine/\E.nx (ρ.set i (some (.own (ds++[d]))))
theorem gU{x:Str}{e:Expr}{te:DE}{px apos M0:Pos}(i:Nat)(he:Mv X e te)(hi:X.N[i]?=some x:=by rfl)(hv:Z1 X.env.scope x:=by first|exact Or.inl rfl|exact Or.inr (Or.inl rfl)|exact Or.inr (Or.inr rfl))
  (hd:(x==("__debug__" : Str))=false:=by decide) (RN:(x==("__classdict__" : Str))=false:=by decide)
  (Po:attributeBase (.Name x px) "append" X.env (eval (.Name x px) X.env)=eval (.Name x px) X.env:=by rfl)
  (RZ:((backTo M0 (starEach [e] X.env)).all (fun x=>!x.1) && (backToKw M0 (keywordEach [] X.env)).all (fun x=>x.1.isSome) && decide ([e].length+([]:List Keyword).length+(if([]:List Keyword).isEmpty then 0 else 1)<30))=true:=by rfl)
  (PH:(apos.endLine==M0.line)=true:=by rfl) (Py:starEach [e] X.env=(false,eval e X.env)::starEach [] X.env:=by rfl) (PJ:(backTo M0 (starEach [] X.env)).any (·.1)=false:=by rfl)
  (hs:swapsWith (.Call (.Attribute (.Name x px) "append" apos) [e] [] M0) none pos.line X.env=pure false:=by rfl) :
  Q9 X (.Expr (.Call (.Attribute (.Name x px) "append" apos) [e] [] M0) pos) (xR i te):=by
 have P0:=sk (pos:=pos) (Kn PySem.F.plainAttrs_list PySem.F.slot_list_append PySem.F.type_list_append mT (we hi hv hd RN) (bI he.pe cB Py) Po RZ PH Py PJ) hs;refine Q9.of P0 fun σ H W ρ E r hl h=>?_
 obtain⟨ds,eo,h⟩:=sh h;obtain⟨a,vs,oa,sa,ha,O6⟩:=r.YC i ds eo;refine⟨.ref a,sa,.inl ⟨rfl,_,SqL.of ha⟩,W,ρ,_,r,h,fun v H' d e1 TR q=>?_⟩;obtain⟨z,q⟩:=q;have Wr:=e1 _ _ ha;have r':=r.same e1;have VJ:=O6.same e1;refine⟨a,vs,v,rfl,rfl,Wr,by rw[VJ.len];exact z,?_⟩;obtain⟨r2,f2⟩:=r'.Xa (vs':=vs++[v]) eo oa sa Wr (VJ.append (af.one TR));exact⟨W,_,(OB.same e1).trans f2,r2,q⟩
theorem Rel.freeze{X:Cx}{W:Own}{H:Hp}{σ:St}{ρ:Ro}{i:Nat}{ds:yas}(r:Rel X W H σ ρ)(e:ρ[i]?=some (some (.own ds))):Rel X (W.drop i) H σ (ρ.set i (some (.val (.lst true ds)))):=by
 obtain⟨a,vs,oa,sa,ha,O6⟩:=r.YC i ds e;have il:i<σ.length:=(U3.mp sa).1;have Xd:i<ρ.length:=(U3.mp e).1;have nb:¬(W.drop i).bad true a:=fun z=>by
  rcases z with z|⟨j,z⟩| ⟨_,z⟩
  rotate_right
  ·exact(r.kn i a oa).2.1.2 z
  ·exact(r.kn i a oa).2.1.1 z
  ·have z':(if j=i then none else W.O j)=some a:=z;by_cases ej:j=i
   ·rw[LX ej]at z';cases z'
   ·rw[LO ej]at z';exact ej (r.inj j i a z' oa)
 have hd:Den X.K (W.drop i).bad H (.lst true ds) (.ref a):=Den.lst nb (.new ha (r.kn i a oa).1) (O6.MG fun _ _=>Own.O5);refine⟨fun j x h=>?_,fun j x h=>?_,fun j k b h1 h2=>?_,fun j b h1=>?_,fun j b h1=>?_,r.bt,r.st,r.ent,r.tab⟩
 ·by_cases hj:j=i
  ·subst hj;rw[WY Xd]at h;cases h;exact⟨.ref a,sa,hd⟩
  ·rw[Tx (Ne.symm hj)]at h;obtain⟨w,h1,h2⟩:=r.val j x h;exact⟨w,h1,h2.MG fun _ _=>Own.O5⟩
 ·by_cases hj:j=i
  ·subst hj;rw[WY Xd]at h;cases h
  ·rw[Tx (Ne.symm hj)]at h;obtain⟨b,ws,h1,h2,h3,h4⟩:=r.own j x h;exact⟨b,ws,by show(if j=i then none else W.O j)=_;rw[LO hj];exact h1,h2,h3,h4.MG (fun _ _=>Own.O5) (Own.SJ il)⟩
 ·have Rh:(if j=i then none else W.O j)=some b:=h1;have UU:(if k=i then none else W.O k)=some b:=h2;by_cases e1:j=i
  ·rw[LX e1]at Rh;cases Rh
  ·by_cases e2:k=i
   ·rw[LX e2]at UU;cases UU
   ·rw[LO e1]at Rh;rw[LO e2]at UU;exact r.inj j k b Rh UU
 ·have Rh:(if j=i then none else W.O j)=some b:=h1;by_cases e1:j=i
  ·rw[LX e1]at Rh;cases Rh
  ·rw[LO e1]at Rh;exact r.kn j b Rh
 ·have Rh:(if j=i then none else W.O j)=some b:=h1;by_cases e1:j=i
  ·rw[LX e1]at Rh;cases Rh
  ·rw[LO e1]at Rh;exact r.ke j b Rh
def xS(i:Nat)(t:DS):DS:=fun E ρ=>jh ρ[i]? fun ds=>t E (ρ.set i (some (.val (.lst true ds))))
theorem qt{sts:yal}{t:DS}(i:Nat)(h:bq X sts t):bq X sts (xS i t):=by intro pins s σ H W ρ E I r hq;obtain⟨ds,e,hq⟩:=sh hq;exact LS (h pins s σ H (W.drop i) _ E I (r.freeze e) hq) fun _ _ z=>z.up (OB.drop W H i)
end
def cf(env:Env)(ns:yah):List (Str×Addr):=ns.filterMap fun n=>(env.cells.lookup n).map fun c=>(n,c)
theorem i6{env:Env}:∀{ns:yah} {x:Str} {c:Addr},(cf env ns).lookup x=some c->env.cells.lookup x=some c
 |[],_,_,h=>by cases h
 |n::r,x,c,h=>by
  unfold cf at h;rw[ZQ]at h;cases e:env.cells.lookup n with
  |none =>
   rw[e]at h;exact i6 (ns:=r) h
  |some c' =>
   rw[e]at h;have h':List.lookup x ((n,c')::cf env r)=some c:=h;rw[Te]at h';cases q:x==n with
   |true =>
    rw[q]at h';have ex:x=n:=by simpa using q
    subst ex;rw[e];exact h'
   |false =>
    rw[q]at h';exact i6 (ns:=r) h'
theorem ph{env:Env}:∀{ns:yah} {x:Str} {c:Addr},x∈ns->env.cells.lookup x=some c->(cf env ns).lookup x=some c
 |[],_,_,h,_=>by cases h
 |n::r,x,c,h,e=>by
  unfold cf;rw[ZQ];by_cases ex:x=n
  ·subst ex;rw[e];show List.lookup x ((x,c)::_)=some c;simp[Te]
  ·have h':x∈r:=by
    rcases Rb.mp h with z|z
    ·exact absurd z ex
    ·exact z
   have ih:=ph (ns:=r) h' e;cases q:env.cells.lookup n with
   |none=>exact ih
   |some c' =>
    show List.lookup x ((n,c')::cf env r)=some c;rw[Te];have:(x==n)=false:=by simpa using ex
    rw[this];exact ih
structure Va(osc sc:Scope)(xs ns:yah):Prop where
 kind:sc.kind=.function
 Vb:∀y∈sc.names,y.2 ≠ .cell
 names:∀y∈sc.names,y.2=.local->sc.names.lookup y.1=some .local
 tgt:∀x∈xs,sc.names.lookup x=some .local
 free:∀y∈sc.names,y.2=.free->y.1∈ns/\osc.names.lookup y.1=some .cell
 cells:∀n∈ns,sc.names.lookup n=some .free/\osc.names.lookup n=some .cell
 nd:(xs++ns).Nodup
def aH(X:Cx)(sc:Scope)(ns xs:yah)(C:Addr)(LN:Shared)(LV:Hp)(fp:yae)(XE:yaa):Cx :=
 {X with N:=xs++ns,MY:=LN,H₀:=LV,env:=compEnvC sc (cf X.env ns) C X.env,outer:=X.stack,stack:=X.stack,ex:=fp,fn:=fun _=>false,pn:=[],xe:=XE}
theorem lq{env:Env}(hk:env.scope.kind=.function):∀{names:List (Str×NameKind)} {n:Str},names.lookup n=some .free->env.kindOf n=some .cell →
  (names.map fun(n,k)=>if(k==NameKind.free && env.scope.kind==.function && env.kindOf n==some .cell)then(n,NameKind.cell)else(n,k)).lookup n=some .cell
 |[],_,h,_=>by simp at h
 |(m,k)::r,n,h,hc=>by
  have ih:=@lq env hk r n;show List.lookup n ((if(k==NameKind.free && env.scope.kind==.function && env.kindOf m==some .cell)=true then(m,NameKind.cell)else(m,k))::_)=_;cases hx:n==m with
  |true =>
   simp only[Te,hx]at h;cases h;have e:n=m:=by simpa using hx
   subst e;rw[hk,hc];simp[Te]
  |false =>
   simp only[Te,hx]at h;by_cases V8:(k==NameKind.free && env.scope.kind==.function && env.kindOf m==some .cell)=true
   ·rw[LX V8];simp only[Te,hx];exact ih h hc
   ·rw[LO V8];simp only[Te,hx];exact ih h hc
theorem kg{env:Env}:∀{names:List (Str×NameKind)} {n:Str} {k:NameKind},
  (names.map fun(n,k)=>if(k==NameKind.free && env.scope.kind==.function && env.kindOf n==some .cell)then(n,NameKind.cell)else(n,k)).lookup n=some k->(k=.cell∨k=.free) →
  (∃y∈names,y.1=n/\y.2=.free)∨∃ y∈names,y.1=n/\y.2=.cell
 |[],_,_,h,_=>by simp at h
 |(m,j)::r,n,k,h,hk=>by
  have h':List.lookup n ((if(j==NameKind.free && env.scope.kind==.function && env.kindOf m==some .cell)=true then(m,NameKind.cell)else(m,j))::(r.map fun(n,k)=>if(k==NameKind.free && env.scope.kind==.function && env.kindOf n==some .cell)then(n,NameKind.cell)else(n,k)))=some k:=h;have up:((∃y∈r,y.1=n/\y.2=.free)∨∃ y∈r,y.1=n/\y.2=.cell)->((∃y∈(m,j)::r,y.1=n/\y.2=.free)∨∃ y∈(m,j)::r,y.1=n/\y.2=.cell):=fun z=>by
   rcases z with⟨y,hy,q⟩| ⟨y,hy,q⟩
   ·exact .inl ⟨y,SD _ hy,q⟩
   ·exact .inr ⟨y,SD _ hy,q⟩
  cases hx:n==m with
  |true =>
   have e:n=m:=by simpa using hx
   subst e;by_cases V8:(j==NameKind.free && env.scope.kind==.function && env.kindOf n==some .cell)=true
   ·have:j=.free:=by
     simp only[S7]at V8;exact beq_iff_eq.mp V8.1.1
    exact .inl ⟨(n,j),Su,rfl,this⟩
   ·rw[LO V8]at h';simp only[Te,hx]at h';cases h';rcases hk with hk|hk
    ·exact .inr ⟨(n,j),Su,rfl,hk⟩
    ·exact .inl ⟨(n,j),Su,rfl,hk⟩
  |false =>
   by_cases V8:(j==NameKind.free && env.scope.kind==.function && env.kindOf m==some .cell)=true
   ·rw[LX V8]at h';simp only[Te,hx]at h';exact up (kg h' hk)
   ·rw[LO V8]at h';simp only[Te,hx]at h';exact up (kg h' hk)
def aU(ρ:Ro)(j:Nat):Option Sl:=match ρ[j]? with
 |some (some (.val d))=>some (.val d)
 |_=>none
def dH(σ:St)(j:Nat):Option V:=match σ[j]? with
 |some (some v)=>some v
 |_=>none
section
variable{X:Cx}{pins:yab}{σ:St}{H:Hp}{s:Shared}{sc:Scope}{ns:yah}{js:yag}{xs:yah}{fp:yae}
theorem Inv.comp{XE:yaa}{LP:Shared}{Ws:Hp}{C:Addr}(I:Inv X pins σ H s)(S:Va X.env.scope sc xs ns)(hj:js.length=ns.length/\∀(i:Nat) (j:Nat) (n:Str),js[i]?=some j->ns[i]?=some n->X.N[j]?=some n)(SK:∀b∈fp,cy X pins H b)(Wt:∀b∈fp,∃o,s.heap.get? b=some o)(hC:s.heap.objs.size<=C)
  (hos:LP.os=s.os) (hg:AllBare LP.gens) (hk:∀b o,s.heap.get? b=some o->LP.heap.get? b=some o) (UZ:LP.heap.Ns C fun _=>none) (VM:Ws C=none) (hs:ai H Ws) (hnew:∀b o,s.heap.get? b=some o->H b=none->Ws b=none) (Nw:Rc X.prog X.w Ws LP.heap) :
  Inv (aH X sc ns xs C s H fp XE) [] (List.replicate xs.length none++js.map (dH σ)) Ws LP:=by
 have kd:X.env.scope.kind=.function:=I.ok.kind;have Vu:∀y c,(cf X.env ns).lookup y=some c->X.env.cells.lookup y=some c:=fun y c e=>i6 e
 have cold:∀y c,(cf X.env ns).lookup y=some c->∃v,s.heap.IsCell c v:=fun y c e=>I.cell y c (Vu y c e)
 refine⟨⟨I.ok.mod,S.kind,I.ok.glob,I.ok.blt,hC,fun y z c h1 h2=>I.ok.inj y z c (Vu y c h1) (Vu z c h2),fun y hy=>?_,fun y c h _=>(by cases h),I.ok.hd,I.ok.frames,.inl rfl,fun b hb=>?_,I.bs,Sw I.ok.V7 I.sz,fun b o e hb=>?_,fun b hb z=>?_,I.stack,I.Sx⟩,
  hos,hg,⟨fun b o e n _ _=>hk b o e,fun b o e n _ _=>⟨o.slots,hk b o e⟩,fun b o e n _=>hnew b o e n,fun b o e _=>⟨o,hk b o e⟩,fun b xs e=>hs b _ e,fun b o u e=>hs b _ e,fun b ps e=>hs.tb b ps e⟩,⟨_,UZ,fun i y v h1 h2 h3=>?_⟩,fun y c e=>?_,VM,fun y c e=>?_,fun p hp=>absurd (show p∈([]:yab)from hp) (by simp),Nw,?_⟩
 ·-- every cell of the block is one of the body's
  have Yx:∃k,((relabel sc X.env).names.lookup y=some k)/\(k=.cell∨k=.free):=by
   rcases hy with hy|hy
   ·exact⟨_,hy,.inl rfl⟩
   ·exact⟨_,hy,.inr rfl⟩
  obtain⟨k,h1,h2⟩:=Yx;rcases kg (env:=X.env) h1 h2 with⟨z,hz,e1,e2⟩| ⟨z,hz,e1,e2⟩
  ·obtain⟨m1,m2⟩:=S.free z hz e2;subst e1;obtain⟨c,hc⟩:=I.ok.has z.1 (.inl m2);exact⟨c,ph m1 hc⟩
  ·exact absurd e2 (S.Vb z hz)
 ·refine⟨fun z=>?_,fun y c e z=>?_⟩
  ·have z':b=C:=z;obtain⟨o,ho⟩:=Wt b hb;have QJ:=O8 ho;rw[z']at QJ;exact absurd (RX QJ hC) (VD _)
  ·exact(SK b hb).2.2.2.2.1 y c (Vu y c e) z
 ·obtain⟨f0,f1,f2,f3,f4,f5⟩:=SK b hb;rcases f3 with f3|f3
  ·exact I.ok.TQ b o e f3
  ·exact absurd (RX (O8 (I.ok.bs b o e).1) f3) (VD _)
 ·obtain⟨f0,f1,f2,f3,f4,f5⟩:=SK b hb;rcases Rb.mp (I.Rn b z)with e|e
  ·exact f1 e
  ·exact f2 e
 ·by_cases hi:i<xs.length
  ·rw[XY (by simpa using hi),Zl,LX hi]at h2;cases h2
  ·have Rh:ns[i - xs.length]?=some y:=by
    have h1:(xs++ns)[i]?=some y:=h1;rw[Xh (by omega)]at h1;exact h1
   have UU:(js.map (dH σ))[i - xs.length]?=some (some v):=by rw[Xh (by simpa using hi)]at h2;simpa using h2
   generalize i - xs.length=i at Rh UU;rw[Td]at UU;cases e:js[i]? with
   |none=>rw[e]at UU;cases UU
   |some j =>
    rw[e]at UU;have h4:dH σ j=some v:=UQ UU;have h5:σ[j]?=some (some v):=by
     unfold dH at h4;split at h4
     ·rename_i u q;cases h4;exact q
     ·cases h4
    have hN:=hj.2 i j y e Rh;have mem:y∈ns:=Xj Rh;obtain⟨c1,c2⟩:=S.cells y mem;obtain⟨m,hm,hl⟩:=I.loc;obtain⟨u,ru,lk⟩:=hl j y v hN h5 (.inr (.inl c2));refine⟨u,ru,?_⟩;rcases lk with⟨k1,_⟩| ⟨_,c,e1,o,ho,hd⟩
    ·have T9:X.env.scope.names.lookup y=some .local:=k1;rw[c2]at T9;cases T9
    ·exact .inr ⟨.inl (lq kd c1 c2),c,ph mem e1,o,hk c o ho,hd⟩
 ·obtain⟨v,z⟩:=cold y c e;obtain⟨o,ho,hd⟩:=z;exact⟨v,o,hk c o ho,hd⟩
 ·obtain⟨v,o,ho,hd⟩:=cold y c e;exact hnew c o ho (I.OW y c (Vu y c e))
 ·show(List.replicate xs.length none++js.map (dH σ)).length=(xs++ns).length;simp[hj.1]
def Vc(X:Cx)(ifs:yai)(t:DT):Prop :=
 ∀ (pins:yab) (s:Shared) (σ:St) (H:Hp) (W:Own) (ρ:Ro) (Q:Bool->Prop),Inv X pins σ H s->Rel X W H σ ρ->t ρ Q →
  wpAny (model X.prog X.w) X.A (forIn ifs true fun c r=>if r=true then do let ok←isTrue c X.env (eval c X.env);pure (ForInStep.yield ok)else pure (ForInStep.yield r)) (DTP X pins σ H Q) X.xe s
def mG:DT:=fun _ Q=>Q true
theorem cD{X:Cx}:Vc X [] mG:=fun _ s σ H W ρ Q I r h=>wpAny_tests_nil ⟨H,I,ai.refl H,h⟩
def dE(n:Nat)(To ρ:Ro):Prop:=∃r0:Ro,r0.length=n/\ρ=r0++To
theorem zS{prog:Program}{w:World}{A:Around}{s:Shared}{R:Result->Shared->Prop}{elt target iter:Expr}{ifs:yai}{scope:Scope}{pos:Pos}{it acc:Value}{env:Env}(I:Nat->Shared->Prop)
  (turn:∀n s,I n s->wpAny (model prog w) A (pyNext it) (fun r LP=>match r with
   |none=>R (.ok .next) LP
   |some v=>wpAny (model prog w) A (letOwnedTupleGo target it v) (fun _ VN=>wpAny (model prog w) A (assign target env v) (fun _ LN =>
     wpAny (model prog w) A (forIn ifs true fun c r=>if r=true then do let ok←isTrue c env (eval c env);pure (ForInStep.yield ok)else pure (ForInStep.yield r)) (fun ok OJ=>if ok=true then wpAny (model prog w) A (eval elt env) (fun x SM =>
       wpAny (model prog w) A (call (.builtin "list.append") [acc,x]) (fun _ YN=>∃m,m<n/\I m YN) (notedBy (model prog w) A env fun e z=>R (.error e) z) SM) (notedBy (model prog w) A env fun e z=>R (.error e) z) OJ
      else∃m,m<n/\I m OJ) (notedBy (model prog w) A env fun e z=>R (.error e) z) LN) (notedBy (model prog w) A env fun e z=>R (.error e) z) VN) (notedBy (model prog w) A env fun e z=>R (.error e) z) LP) (notedBy (model prog w) A env fun e z=>R (.error e) z) s)
  (n:Nat) (h:I n s):codeAny (model prog w) A (.compLoop (.ListComp elt [⟨target,iter,ifs,0⟩] scope pos) 0 it acc env) R s:=by
 refine codeAny_loop rfl I (fun m z hI=>?_) n h;show wpAny _ A ((compTurn (.ListComp elt [⟨target,iter,ifs,0⟩] scope pos) 0 it acc env).onRaise (fun e=>do noteFrame e env;theTreesLotGoes e)) _ _ z;refine wpAny_noted ?_;rw[compTurn_list];refine L3 (V5 (L3 (O3 (turn m z hI) (fun r z1 g1=>?_) fun _ _ q=>q)));cases r with
 |none=>exact OQ g1
 |some v =>
  refine L3 (O3 g1 (fun _ z2 g2=>?_) fun _ _ q=>q);refine L3 (O3 g2 (fun _ z3 g3=>L3 (O3 g3 (fun ok z4 g4=>?_) fun _ _ q=>q)) fun _ _ q=>q);cases ok with
  |false=>exact OQ ⟨rfl,g4⟩
  |true=>exact L3 (L3 (O3 g4 (fun y z5 g5=>L3 (O3 g5 (fun _ z6 g6=>OQ (OQ ⟨rfl,g6⟩)) fun _ _ q=>q)) fun _ _ q=>q))
theorem Rel.mutB{X:Cx}{W:Own}{H:Hp}{σ:St}{ρ:Ro}{a:Addr}{vs vs':yar}(r:Rel X W H σ ρ)(hB:W.B a)(ha:H a=some (.lst vs))(h0:X.H₀ a=none) :
  Rel X W (L2.upd H a (.lst vs')) σ ρ/\∀ds us,af X.K W.bad H ds us->af X.K W.bad (L2.upd H a (.lst vs')) ds us:=by
 have YJ:∀b ws,OM X.K H b ws->OM X.K (L2.upd H a (.lst vs')) b ws:=fun b ws q=>by show L2.upd _ _ _ _=_;rw[aq (uM q ha (by intro z;cases z))];exact q
 have YK:∀t b ws,¬W.bad t b->QK X.K H t b ws->¬W.bad t b/\QK X.K (L2.upd H a (.lst vs')) t b ws:=fun t b ws n q=>by
  have RP:b≠a:=fun e=>n (.inl (e ▸ hB))
  refine⟨n,?_,fun z=>⟨by rw[aq RP];exact(q.2 z).1,(q.2 z).2⟩⟩;rcases q.1 with(q|⟨o,q⟩)|q
  ·exact .inl (.inl (by rw[aq RP];exact q))
  ·exact .inl (.inr ⟨o,by rw[aq RP];exact q⟩)
  ·exact .inr q
 have YL:∀b u,Xs u->H b=some u->L2.upd H a (.lst vs') b=some u:=fun b u n q=>by rw[aq (uM q ha (by intro z;subst z;exact n))];exact q
 have tr:∀b o,H b=some o->∃o',L2.upd H a (.lst vs') b=some o':=fun b o q=>by
  by_cases UY:b=a
  ·subst UY;exact⟨_,ax⟩
  ·exact⟨o,by rw[aq UY];exact q⟩
 refine⟨⟨fun j d h=>?_,fun j y h=>?_,r.inj,fun j b hb=>?_,r.ke,fun b hb=>let ⟨o,q⟩:=r.bt b hb;tr b o q,fun b hb=>let ⟨o,q⟩:=r.st b hb;tr b o q,r.ent.ins h0 ha True.intro True.intro,r.tab.upd True.intro (.inr ⟨_,ha,(fun _ z=>by cases z),True.intro⟩)⟩,af.map YJ YK YL⟩
 ·obtain⟨v,h1,h2⟩:=r.val j d h;exact⟨v,h1,Den.map YJ YK YL d v h2⟩
 ·obtain⟨b,o,h1,h2,h3,h4⟩:=r.own j y h;exact⟨b,o,h1,h2,by rw[aq (fun e=>(r.kn j b h1).2.1.1 (by rw[e];exact hB))];exact h3,h4.map (af.map YJ YK YL) fun k c q=>⟨q,fun us z=>by rw[aq (fun e=>(r.kn _ c q).2.1.1 (by rw[e];exact hB))];exact z⟩⟩
 ·obtain⟨k1,k2,o,k3,k4⟩:=r.kn j b hb;exact⟨k1,k2,o,by rw[aq (fun e=>k2.1 (by rw[e];exact hB))];exact k3,k4⟩
def lL(X:Cx)(sc:Scope)(ns:yah)(RR:Value->Addr->Result->Shared->Prop)(D C:Addr):yaa:=notedBy (model X.prog X.w) X.A (compEnvC sc (cf X.env ns) C X.env) fun e T2=>RR (.ref D) C (.error e) T2
theorem bj.no{X:Cx}:bj X fun _=>False:=fun _ _ _ _ _ _ _ _ _ _ h=>by obtain⟨_,_,_,_,_,_,_,_,_,_,_,_,_,z⟩:=h;exact z.elim
end
abbrev DM:=Ro->(LI->Prop)->Prop
def KH(K:yac)(P:yak)(H H':Hp):LI->V->Prop
 |.own ds,v=>∃a vs,v=.ref a/\H a=none/\K.lookup a=none/\H' a=some (.lst vs)/\af K (fun t b=>P t b∨b=a) H' ds vs
 |.val d,v=>Den K P H' d v
inductive MDP (X:Cx) (pins:yab) (σ:St) (W:Own) (H:Hp) (Q:LI->Prop) (u:Value) (s':Shared):Prop
 |mk (v:V) (H':Hp) (li:LI) (_:Inv X pins σ H' s') (_:RelV v u) (_:ai H H') (_:KH X.K W.bad H H' li v) (_:Q li)
def PEM(X:Cx)(e:Expr)(t:DM):Prop :=
 ∀ (pins:yab) (s:Shared) (σ:St) (H:Hp) (W:Own) (ρ:Ro) (Q:LI->Prop),Inv X pins σ H s->Rel X W H σ ρ->t ρ Q →
  wpAny (model X.prog X.w) X.A (eval e X.env) (MDP X pins σ W H Q) X.xe s
structure dA(K:yac)(H:Hp)(D:Addr)(n:Nat)(bs:yaj):Prop where
 ok:∀k b,bs k=some b->k<n/\H b=none/\K.lookup b=none/\b≠D
 inj:∀k l b,bs k=some b->bs l=some b->k=l
theorem dA.nil{K:yac}{H:Hp}{D:Addr}{n:Nat}:dA K H D n fun _=>none:=⟨fun _ _ h=>(by cases h),fun _ _ _ h=>(by cases h)⟩
theorem dA.up{K:yac}{H:Hp}{D:Addr}{n m:Nat}{bs:yaj}(h:dA K H D n bs)(l:n<=m):dA K H D m bs:=⟨fun k b q=>let ⟨a,r⟩:=h.ok k b q;⟨RX a l,r⟩,h.inj⟩
theorem dA.put{K:yac}{H:Hp}{D a:Addr}{out:List LI}{x:LI}{bs:yaj}(h:dA K H D out.length bs)(n:H a=none)(k:K.lookup a=none)(nd:a≠D)(new:∀k,bs k=some a->False) :
  dA K H D (out++[x]).length fun k=>if k=out.length then some a else bs k:=⟨fun l b q=>by
  rw[Q7,zBl];by_cases e:l=out.length
  ·rw[LX e]at q;cases q;exact⟨by omega,n,k,nd⟩
  ·rw[LO e]at q;obtain⟨a1,a2⟩:=h.ok l b q;exact⟨by omega,a2⟩,fun l m b q1 q2=>by
  by_cases e1:l=out.length
  ·by_cases e2:m=out.length
   ·rw[e1,e2]
   ·rw[LX e1]at q1;rw[LO e2]at q2;cases q1;exact(new m q2).elim
  ·by_cases e2:m=out.length
   ·rw[LO e1]at q1;rw[LX e2]at q2;cases q2;exact(new l q1).elim
   ·rw[LO e1]at q1;rw[LO e2]at q2;exact h.inj l m b q1 q2⟩
section
variable{K:yac}{P:yak}{H:Hp}{B:yaj}
theorem aI.RQ{d:D}{v:V}(h1:Den K P H d v):∀{k:Nat} {xs:List LI} {vs:yar},aI K P H B k xs vs->aI K P H B k (xs++[.val d]) (vs++[v])
 |k,[],_,h=>by simp only[aI]at h;subst h;simp only[List.nil_append,aI];exact⟨v,[],rfl,h1,rfl⟩
 |k,.own ds::r,_,h=>by simp only[aI]at h;obtain⟨b,us,u,rfl,q1,q2,q3,q4⟩:=h;simp only[Xk,aI];exact⟨b,us,_,rfl,q1,q2,q3,aI.RQ h1 q4⟩
 |k,.val e::r,_,h=>by simp only[aI]at h;obtain⟨w,u,rfl,q1,q2⟩:=h;simp only[Xk,aI];exact⟨w,_,rfl,q1,aI.RQ h1 q2⟩
theorem aI.RS{ds:yas}{a:Addr}{ws:yar}:∀{k:Nat} {xs:List LI} {vs:yar},aI K P H B k xs vs->B (k+xs.length)=some a->H a=some (.lst ws)->af K P H ds ws->aI K P H B k (xs++[.own ds]) (vs++[.ref a])
 |k,[],_,h,hb,ha,hd=>by simp only[aI]at h;subst h;simp only[List.nil_append,aI];exact⟨a,ws,[],rfl,by simpa using hb,ha,hd,rfl⟩
 |k,.own es::r,_,h,hb,ha,hd=>by simp only[aI]at h;obtain⟨b,us,u,rfl,q1,q2,q3,q4⟩:=h;simp only[Xk,aI];exact⟨b,us,_,rfl,q1,q2,q3,aI.RS q4 (by rw[<- hb];congr 1;simp;omega) ha hd⟩
 |k,.val e::r,_,h,hb,ha,hd=>by simp only[aI]at h;obtain⟨w,u,rfl,q1,q2⟩:=h;simp only[Xk,aI];exact⟨w,_,rfl,q1,aI.RS q2 (by rw[<- hb];congr 1;simp;omega) ha hd⟩
end
section
variable{X:Cx}
theorem Rel.ban{W:Own}{H H':Hp}{σ:St}{ρ:Ro}{p:Addr}{o:HO}(r:Rel X W H σ ρ)(sm:ai H H')(hp:H p=none)(hk:X.K.lookup p=none)(h':H' p=some o) :
  Rel X ⟨fun b=>W.B b∨b=p,W.O,W.S⟩ H' σ ρ/\∀ds vs,af X.K W.bad H ds vs->af X.K (Own.bad ⟨fun b=>W.B b∨b=p,W.O,W.S⟩) H' ds vs:=by
 have Sr:∀t a,Own.bad ⟨fun b=>W.B b∨b=p,W.O,W.S⟩ t a->W.bad t a∨a=p:=fun t a z=>by
  rcases z with(z|z)|z|z
  ·exact .inl (.inl z)
  ·exact .inr z
  ·exact .inl (.inr (.inl z))
  ·exact .inl (.inr (.inr z))
 have nb:∀{t:Bool} {a:Addr} {ws:yar},QK X.K H t a ws->a≠p:=fun {t a ws} q z=>by
  subst z;rcases q.1 with(q|⟨o,q⟩)|⟨o,its,n,q,_⟩
  ·rw[hp]at q;cases q
  ·rw[hp]at q;cases q
  ·rw[hk]at q;cases q
 have up:∀(d:D) (v:V),Den X.K W.bad H d v->Den X.K (Own.bad ⟨fun b=>W.B b∨b=p,W.O,W.S⟩) H' d v:=Den.map (fun _ _ q=>OM.same sm q) (fun t a ws n q=>⟨fun z=>(Sr t a z).elim n (nb q),q.same sm⟩) (fun a _ n q=>sm.kp a _ q n.nt);have ups:∀(ds:yas) (vs':yar),af X.K W.bad H ds vs'->af X.K (Own.bad ⟨fun b=>W.B b∨b=p,W.O,W.S⟩) H' ds vs':=af.map (fun _ _ q=>OM.same sm q) (fun t a ws n q=>⟨fun z=>(Sr t a z).elim n (nb q),q.same sm⟩) (fun a _ n q=>sm.kp a _ q n.nt);refine⟨⟨fun j d h=>?_,fun j x h=>?_,r.inj,fun j a h1=>?_,r.ke,fun a h=>?_,fun a h=>let ⟨_,q⟩:=r.st a h;sm.ex q,r.ent.trans sm,r.tab.same sm⟩,ups⟩
 ·obtain⟨w,h1,h2⟩:=r.val j d h;exact⟨w,h1,up d w h2⟩
 ·obtain⟨a,ws,h1,h2,h3,h4⟩:=r.own j x h;exact⟨a,ws,h1,h2,sm.kp _ _ h3 h4.Xa.nt,h4.map ups fun l b q=>⟨q,fun _ z=>sm _ _ z⟩⟩
 ·obtain⟨a1,⟨n1,n2⟩,ws,a3,a4⟩:=r.kn j a h1;exact⟨a1,⟨fun z=>z.elim n1 fun e=>(by subst e;rw[hp]at a3;cases a3),n2⟩,ws,sm.kp _ _ a3 a4.nt,a4⟩
 ·rcases h with h|h
  ·obtain⟨_,q⟩:=r.bt a h;exact sm.ex q
  ·exact⟨o,h ▸ h'⟩
end
section
variable{X:Cx}{pins:yab}{σ:St}{H:Hp}{s:Shared}{sc:Scope}{ns:yah}{js:yag}{xs:yah}{fp:yae}
def Sj(X:Cx)(sc:Scope)(ns xs:yah)(cl:List (Str×Addr))(fn:Str->Bool)(C:Addr)(LN:Shared)(LV:Hp)(fp:yae)(XE:yaa):Cx :=
 {X with N:=xs++ns,MY:=LN,H₀:=LV,env:=compEnvC sc cl C X.env,outer:=X.stack,stack:=X.stack,ex:=fp,fn:=fn,pn:=[],xe:=XE}
def bB(X:Cx)(sc:Scope)(cl:List (Str×Addr))(RR:Value->Addr->Result->Shared->Prop)(D C:Addr):yaa:=notedBy (model X.prog X.w) X.A (compEnvC sc cl C X.env) fun e T2=>RR (.ref D) C (.error e) T2
inductive CLI (K:yac) (Y:Cx) (H:Hp) (fp:yae) (Ad:Addr) (ds:yas) (W':Own) (tn:Nat->Heap->Prop) (m:Nat) (cp:Ro) (Pv:Nat->List LI->Prop) (n:Nat) (s':Shared):Prop
 |mk (i:Nat) (W2:Own) (Ur:St) (Pu:Ro) (H':Hp) (out:List LI) (vs:yar) (bs:yaj) (_:n=ds.length - i) (_:i<=ds.length) (_:Inv Y [] Ur H' s') (_:tn i s'.heap) (_:∀b∈fp,H' b=none) (_:H' Ad=some (.lst vs)) (_:W2.B=(fun a=>W'.B a∨∃ k,bs k=some a)/\W2.S=W'.S) (_:dA K H Ad out.length bs) (_:∀k b,bs k=some b->∃us,H' b=some (.lst us)) (_:aI K W2.bad H' bs 0 out vs) (_:ai H H') (_:Rel Y W2 H' Ur Pu) (_:dE m cp Pu) (_:Pv i out) (_:out.length<=i)
theorem zV{elt iter tg:Expr}{ifs:yai}{pos:Pos}{g:DG}{te:DM}{tc:DT}{W:Own}{ρ:Ro}{J:It}{it:Addr}{tn:Nat->Heap->Prop}{ds:yas}{RR:Value->Addr->Result->Shared->Prop}{cl:List (Str×Addr)}{fn:Str->Bool}{Ad C:Addr}{OI:Heap}(hc:X.calm=true)
  (he:PEM (Sj X sc ns xs cl fn C s H fp (bB X sc cl RR Ad C)) elt te) (ht:Vc (Sj X sc ns xs cl fn C s H fp (bB X sc cl RR Ad C)) ifs tc) (hg:Wa (Sj X sc ns xs cl fn C s H fp (bB X sc cl RR Ad C)) tg g) (I:Inv X pins σ H s) (r:Rel X W H σ ρ) (T:Turn X.prog X.w X.K tg J fp it tn) (st:tn 0 s.heap) (SK:∀b∈fp,cy X pins H b) (yd:YD X.K W H J ds) (hz:ds.length<=sizeLine)
  (Pv:Nat->List LI->Prop) (p0:Pv 0 []) (step:∀j d out P8,ds[j]?=some d->Pv j out->dE xs.length (js.map (aU ρ)) P8->g d P8 fun Pu=>dE xs.length (js.map (aU ρ)) Pu/\tc Pu fun b=>if b=true then te Pu (fun e=>Pv (j+1) (out++[e]))else Pv (j+1) out)
  (Wu:∀(s':Shared) (H':Hp) (m':yam) (out:List LI) (bs:yaj),Inv X pins σ H' s'->ai H H'->s'.heap.Ns C m'->H' C=none->C≠X.env.locals->X.MY.heap.objs.size<=C->(∀y c,X.env.cells.lookup y=some c->c≠C)->(∀p∈X.pn++pins,p.1≠C) →
   (H Ad=none/\X.K.lookup Ad=none/\∃vs,H' Ad=some (.lst vs)/\dA X.K H Ad out.length bs/\(∀k b,bs k=some b->∃us,H' b=some (.lst us))/\aI X.K (fun t b=>W.bad t b∨b=Ad∨∃ k,bs k=some b) H' bs 0 out vs)->Pv ds.length out->RR (.ref Ad) C (.ok .next) s')
  (Tp:H Ad=none) (Xy:X.K.lookup Ad=none) (Wv:s.heap.objs.size<=Ad) (Qr:s.heap.objs.size<=C) (old:∀b o,s.heap.get? b=some o->OI.get? b=some o) (hcl:∀y c,cl.lookup y=some c->X.env.cells.lookup y=some c∨s.heap.objs.size<=c)
  (I1:Inv (Sj X sc ns xs cl fn C s H fp (bB X sc cl RR Ad C)) [] (List.replicate xs.length none++js.map (dH σ)) (L2.upd H Ad (.lst [])) {s with heap:=OI,toks:=s.toks+([]:List (Str×Value)).length}) :
  codeAny (model X.prog X.w) X.A (.compStart (.ListComp elt [⟨tg,iter,ifs,0⟩] sc pos) 0 (.ref it) (.ref Ad) (compEnvC sc cl C X.env)) (RR (.ref Ad) C) {s with heap:=OI,toks:=s.toks+([]:List (Str×Value)).length}:=by
 have Wt:∀b∈fp,∃o,s.heap.get? b=some o:=fun b hb=>let ⟨o,e,_⟩:=T.obj 0 s.heap st b hb;⟨o,e⟩
 have nl:∀{a:Addr} {ws:yar},SqL X.K H a ws->a≠Ad:=fun {a ws} q z=>by
  subst z;rcases q with(q|⟨o,q⟩)|⟨o,its,n,q,_⟩
  ·rw[Tp]at q;cases q
  ·rw[Tp]at q;cases q
  ·rw[Xy]at q;cases q
 let W':Own:=⟨fun a=>W.bad false a∨a=Ad,fun _=>none,W.S⟩
 have Sr:∀t a,W'.bad t a↔(W.bad t a∨a=Ad):=fun t a=>⟨fun z=>by
  rcases z with(z|z)|⟨_,q⟩| ⟨z1,z2⟩
  ·exact .inl (Own.SH z)
  ·exact .inr z
  ·cases q
  ·exact .inl (.inr (.inr ⟨z1,z2⟩)),fun z=>by
  rcases z with z|z
  ·rcases z with z|z|z
   ·exact .inl (.inl (.inl z))
   ·exact .inl (.inl (.inr (.inl z)))
   ·exact .inr (.inr z)
  ·exact .inl (.inr z)⟩
 have hT:∀{H':Hp},ai H H'->∀a vs,OM X.K H a vs->OM X.K H' a vs:=fun sm a vs q=>OM.same sm q
 have hL:∀{H':Hp},ai H H'->∀t a vs,¬W.bad t a->QK X.K H t a vs->¬W'.bad t a/\QK X.K H' t a vs:=fun sm t a vs n q=>⟨fun z=>((Sr t a).mp z).elim n (nl q.1),q.same sm⟩
 have YO:Rel (Sj X sc ns xs cl fn C s H fp (bB X sc cl RR Ad C)) W' (L2.upd H Ad (.lst [])) (List.replicate xs.length none++js.map (dH σ)) (List.replicate xs.length none++js.map (aU ρ)):=by
  have sm:ai H (L2.upd H Ad (.lst [])):=ai.upd Tp;have at_:∀{i:Nat} {z:Sl},(List.replicate xs.length none++js.map (aU ρ))[i]?=some (some z)->¬i<xs.length/\(js.map (aU ρ))[i - xs.length]?=some (some z):=fun {i z} h=>by
   by_cases hi:i<xs.length
   ·rw[XY (by simpa using hi),Zl,LX hi]at h;cases h
   ·rw[Xh (by simpa using hi)]at h;exact⟨hi,by simpa using h⟩
  refine⟨fun i d h=>?_,fun i x h=>?_,fun i j a h _=>(by cases h),fun i a h=>(by cases h),fun i a h=>(by cases h),fun a h=>?_,fun a h=>?_,sm,r.tab.same sm⟩
  ·obtain⟨hi,h'⟩:=at_ h;rw[Td]at h';cases e:js[i - xs.length]? with
   |none=>rw[e]at h';cases h'
   |some j =>
    rw[e]at h';have h4:aU ρ j=some (.val d):=UQ h';have h5:ρ[j]?=some (some (.val d)):=by
     unfold aU at h4;split at h4
     ·rename_i u q;cases h4;exact q
     ·cases h4
    obtain⟨v,e1,e2⟩:=r.val j d h5;refine⟨v,?_,Den.map (hT sm) (hL sm) (fun a _ n q=>sm.kp a _ q n.nt) d v e2⟩;rw[Xh (by simpa using hi)];show(js.map (dH σ))[i - (List.replicate xs.length (none:Option V)).length]?=some (some v);rw[List.length_replicate,Td,e];show some (dH σ j)=some (some v);unfold dH;rw[e1]
  ·obtain⟨hi,h'⟩:=at_ h;rw[Td]at h';cases e:js[i - xs.length]? with
   |none=>rw[e]at h';cases h'
   |some j =>
    rw[e]at h';have h4:aU ρ j=some (.ob x):=UQ h';unfold aU at h4;split at h4<;>cases h4
  ·rcases h with h|h
   ·obtain⟨o,q⟩:=r.tracked false a h;exact sm.ex q
   ·rw[h];exact⟨_,ax⟩
  ·obtain⟨o,q⟩:=r.st a h;exact sm.ex q
 have SN:∀{H':Hp},(∀b∈fp,H' b=none)->∀b∈fp,cy (Sj X sc ns xs cl fn C s H fp (bB X sc cl RR Ad C)) [] H' b:=fun hn b hb=>by
  obtain⟨f0,f1,f2,f3,f4,f5⟩:=SK b hb;obtain⟨o,ho⟩:=Wt b hb;refine⟨hn b hb,fun z=>?_,fun z=>?_,.inl hb,fun y c e z=>(hcl y c e).elim (fun e=>f4 y c e z) fun q=>absurd (O8 ho) (by rw[<- z];exact Uy.mpr q),fun p hp=>absurd (show p∈([]:yab)from hp) (by simp)⟩
  ·have z':b=C:=z;have QJ:=O8 ho;rw[z']at QJ;exact absurd (RX QJ Qr) (VD _)
  ·rcases Rb.mp (I.Rn b z)with e|e
   ·exact f1 e
   ·exact f2 e
 have TU:∀b∈fp,(b∈X.ex∨X.MY.heap.objs.size<=b)/\b≠X.env.locals/\(∀x c,X.env.cells.lookup x=some c->c≠b)/\∀p∈X.pn++pins,p.1≠b:=fun b hb=>by obtain⟨f0,f1,f2,f3,f4,f5⟩:=SK b hb;exact⟨f3,f1,f4,f5⟩
 have BD0:W'.B Ad:=.inr rfl;have loop:∀OJ:Shared,OJ={s with heap:=OI,toks:=s.toks+([]:List (Str×Value)).length} →
   codeAny (model X.prog X.w) X.A (.compLoop (.ListComp elt [⟨tg,iter,ifs,0⟩] sc pos) 0 (.ref it) (.ref Ad) (compEnvC sc cl C X.env)) (RR (.ref Ad) C) OJ:=by
  rintro OJ rfl;refine zS (CLI X.K (Sj X sc ns xs cl fn C s H fp (bB X sc cl RR Ad C)) H fp Ad ds W' tn xs.length (js.map (aU ρ)) Pv) ?_ ds.length
   ⟨0,W',_,_,_,[],[],fun _=>none,by simp,S9 _,I1,T.keep 0 s.heap OI st (fun b hb o e=>old b o e),fun b hb=>?_,ax,⟨by funext a;simp,rfl⟩,dA.nil,(fun _ _ h=>by cases h),by simp only[aI],ai.upd Tp,YO,⟨_,by simp,rfl⟩,p0,O2 _⟩
  rotate_left
  ·obtain⟨o,ho⟩:=Wt b hb;rw[aq (fun z=>absurd (O8 ho) (by rw[z];exact Uy.mpr Wv))];exact(SK b hb).1
  rintro n s3 ⟨i,W2,Ur,Pu,H3,out,vs,bs,en,hle,I3,Vx,Vy,hD3,Tq,Vd,hls,Ww,Wx,rl3,YQ,p3,ol⟩;have nb2:∀{W3:Own} {H':Hp} {RY:St} {UW:Ro},(W3.B=(fun a=>W'.B a∨∃ k,bs k=some a)/\W3.S=W'.S)->Rel (Sj X sc ns xs cl fn C s H fp (bB X sc cl RR Ad C)) W3 H' RY UW->ai H H'->∀t a vs,¬W.bad t a->QK X.K H t a vs->¬W3.bad t a/\QK X.K H' t a vs:=fun {W3 H' RY UW} hw rl sm t a vs n q=>by
   refine⟨fun z=>?_,q.same sm⟩;rcases z with z|⟨k,z⟩| ⟨z1,z2⟩
   ·rw[hw.1]at z;rcases z with z|⟨k,z⟩
    ·exact(hL sm t a vs n q).1 (.inl z)
    ·obtain⟨_,h0,kk,_⟩:=Vd.ok k a z;rcases q.1 with(q1|⟨o,q1⟩)|⟨o,its,m,q1,_⟩
     ·rw[h0]at q1;cases q1
     ·rw[h0]at q1;cases q1
     ·rw[kk]at q1;cases q1
   ·have h0:H a=none:=rl.ke k a z;rcases q.1 with(q1|⟨o,q1⟩)|⟨o,its,m,q1,_⟩
    ·rw[h0]at q1;cases q1
    ·rw[h0]at q1;cases q1
    ·have kk:X.K.lookup a=none:=(rl.kn k a z).1;rw[kk]at q1;cases q1
   ·rw[hw.2]at z2;exact(hL sm t a vs n q).1 (.inr (.inr ⟨z1,z2⟩))
  obtain⟨yg,yy,ys⟩:=yd W2.bad H3 (hT Wx) (nb2 Tq rl3 Wx) (fun a _ n q=>Wx.kp a _ q n.nt) i;by_cases QJ:i<ds.length
  ·refine LS (T.item (Sj X sc ns xs cl fn C s H fp (bB X sc cl RR Ad C)) rfl rfl rfl hc i [] s3 _ H3 _ I3 (SN Vy) Vx (yg QJ)) fun rr s4 ⟨u,hr,h4⟩=>?_
   subst hr;refine LS h4 fun _ s5 ⟨x5,H5,I5,r5,y5,TY,Xo⟩=>?_
   obtain⟨e5,d,hd,QP⟩:=yy x5 H5 y5 QJ;have Xp:=I5.pinned (SN Xo) (T.obj _ _ TY);have U9:=rl3.same e5;have YR:ai H H5:=Wx.trans e5;refine O3 (hg _ s5 Ur H5 W2 Pu d x5 u _ Xp U9 r5 QP (step i d out Pu hd p3 YQ)) (fun _ s6 ⟨W6,VF,H6,Xw,I6,f6,Wy,Wz,q6⟩=>?_) (fun _ _ z=>z);have WA:W6.B=(fun a=>W'.B a∨∃ k,bs k=some a)/\W6.S=W'.S:=⟨f6.B.trans Tq.1,f6.S.trans Tq.2⟩;have YS:ai H H6:=⟨fun b o e n=>f6.kp b o (fun k z=>by have h0:H b=none:=U9.ke k b z;rw[e]at h0;cases h0) (YR.kp b o e n) n,(fun b ps e=>by obtain⟨m1,e1⟩:=YR.tb b ps e;obtain⟨m2,e2⟩:=f6.tb b _ e1;exact⟨m1++m2,by rw[e2,X1]⟩),fun h=>f6.ok (YR.ok h)⟩;have BD:W'.B Ad:=.inr rfl;have YT:H6 Ad=some (.lst vs):=f6.keep Ad _ (fun k z=>(U9.kn k Ad z).2.1.1 (by rw[Tq.1];exact .inl BD)) (e5 _ _ hD3);have YU:aI X.K W2.bad H5 bs 0 out vs:=Ww.map (fun _ _ z=>z.same e5) fun _ _ q=>⟨q,fun _ z=>e5 _ _ z⟩
   have Ve:∀k b,bs k=some b->∃us,H6 b=some (.lst us):=fun k b q=>let ⟨us,z⟩:=hls k b q;⟨us,f6.keep b _ (fun l y=>(U9.kn l b y).2.1.1 (by rw[Tq.1];exact .inr ⟨k,q⟩)) (e5 _ _ z)⟩
   have WB:aI X.K W6.bad H6 bs 0 out vs:=YU.map (fun _ _ z=>af.fwd U9 Wy f6 z) fun k b q=>⟨q,fun us z=>f6.keep b _ (fun l y=>(U9.kn l b y).2.1.1 (by rw[Tq.1];exact .inr ⟨k,q⟩)) z⟩
   have UI:∀{Q8:St} {H7:Hp} {s7:Shared},Inv (Sj X sc ns xs cl fn C s H fp (bB X sc cl RR Ad C)) ([]++ji fp s5.heap) Q8 H7 s7->tn (i+1) s7.heap/\∀b∈fp,H7 b=none:=fun {Q8 H7 s7} I7=>by refine⟨T.keep _ _ _ TY fun b hb o e=>(I7.pin (b,o) (Ss _ (Ss _ (bW hb e)))).1,fun b hb=>?_⟩;obtain⟨o,e,_⟩:=T.obj _ _ TY b hb;exact(I7.pin (b,o) (Ss _ (Ss _ (bW hb e)))).2.1
   refine O3 (ht _ s6 _ H6 W6 _ _ I6 Wy q6) (fun b s7 ⟨H7,I7,e7,q7⟩=>?_) (fun _ _ z=>z);cases b with
   |false =>
    rw[LO S6]at q7;rw[LO S6];obtain⟨t7,f7⟩:=UI I7;exact⟨ds.length - (i+1),by omega,i+1,W6,VF,Xw,H7,out,vs,bs,rfl,QJ,I7.Ox,t7,f7,e7 _ _ YT,WA,Vd,(fun k b q=>let ⟨us,z⟩:=Ve k b q;⟨us,e7 _ _ z⟩),WB.map (fun _ _ z=>z.same e7) (fun _ _ q=>⟨q,fun _ z=>e7 _ _ z⟩),YS.trans e7,Wy.same e7,Wz,q7,by omega⟩
   |true =>
    rw[LX rfl]at q7;rw[LX rfl];refine O3 (he _ s7 _ H7 W6 _ _ I7 (Wy.same e7) q7) (fun u8 s8 ⟨v8,H8,e8,I8,r8,VO,Xz,q8⟩=>?_) (fun _ _ z=>z);have Ua:=e7.trans VO;have YV:=Ua _ _ YT;have XA:=Wy.same e7;have Vf:aI X.K W6.bad H7 bs 0 out vs:=WB.map (fun _ _ z=>z.same e7) fun _ _ q=>⟨q,fun _ z=>e7 _ _ z⟩
    have smH:ai H H8:=YS.trans Ua;obtain⟨W8,VP,hW8,Vg,YW,rl8,YX,WD⟩:∃(W8:Own) (VP:yaj),(W8.B=(fun a=>W'.B a∨∃ k,VP k=some a)/\W8.S=W'.S)/\dA X.K H Ad (out++[e8]).length VP/\(∀k b,VP k=some b->∃us,H8 b=some (.lst us))/\Rel (Sj X sc ns xs cl fn C s H fp (bB X sc cl RR Ad C)) W8 H8 VF Xw/\aI X.K W8.bad H8 VP 0 (out++[e8]) (vs++[v8])/\vs.length=out.length:=by
     have ln:=Vf.len;cases e8 with
     |val d =>
      refine⟨W6,bs,WA,Vd.up (by simp),(fun k b q=>let ⟨us,z⟩:=Ve k b q;⟨us,Ua _ _ z⟩),XA.same VO,?_,ln⟩;exact(Vf.map (fun _ _ z=>z.same VO) fun _ _ q=>⟨q,fun _ z=>VO _ _ z⟩).RQ Xz
     |own T8 =>
      obtain⟨a,ws,rfl,na,ka,ha,VJ⟩:=Xz;obtain⟨rb,db⟩:=XA.ban VO na ka ha;have nH:H a=none:=(YS.trans e7).free na;have nD:a≠Ad:=fun z=>by rw[z,e7 _ _ YT]at na;cases na
      refine⟨⟨fun b=>W6.B b∨b=a,W6.O,W6.S⟩,fun k=>if k=out.length then some a else bs k,⟨?_,WA.2⟩,Vd.put nH ka nD (fun k z=>?_),(fun k b q=>?_),rb,?_,ln⟩
      ·funext b
       show(W6.B b∨b=a)=_;rw[WA.1];refine propext ⟨fun z=>?_,fun z=>?_⟩
       ·rcases z with(z|⟨k,z⟩)|z
        ·exact .inl z
        ·exact .inr ⟨k,by show(if k=out.length then some a else bs k)=some b;rw[LO (Sn (Vd.ok k b z).1)];exact z⟩
        ·exact .inr ⟨out.length,by show(if out.length=out.length then some a else bs out.length)=some b;rw[LX rfl,z]⟩
       ·rcases z with z|⟨k,z⟩
        ·exact .inl (.inl z)
        ·have z:(if k=out.length then some a else bs k)=some b:=z;by_cases ek:k=out.length
         ·rw[LX ek]at z;cases z;exact .inr rfl
         ·rw[LO ek]at z;exact .inl (.inr ⟨k,z⟩)
      ·obtain⟨o,hu⟩:=XA.bt a (by rw[WA.1];exact .inr ⟨k,z⟩);rw[hu]at na;cases na
      ·have q:(if k=out.length then some a else bs k)=some b:=q;by_cases ek:k=out.length
       ·rw[LX ek]at q;cases q;exact⟨_,ha⟩
       ·rw[LO ek]at q;obtain⟨us,z⟩:=Ve k b q;exact⟨us,Ua _ _ z⟩
      ·refine aI.RS (Vf.map (B':=fun k=>if k=out.length then some a else bs k) (fun ds vs z=>db ds vs z) fun k b q=>⟨by show(if k=out.length then some a else bs k)=some b;rw[LO (Sn (Vd.ok k b q).1)];exact q,fun _ z=>VO _ _ z⟩) (by simp) ha (VJ.MG fun t b z=>?_);rcases z with(z|z)|z|z
       ·exact .inl (.inl z)
       ·exact .inr z
       ·exact .inl (.inr (.inl z))
       ·exact .inl (.inr (.inr z))
    have BD8:W8.B Ad:=by rw[hW8.1];exact .inl BD
    refine O3 (mT (X:=Sj X sc ns xs cl fn C s H fp (bB X sc cl RR Ad C)) _ s8 _ H8 (.ref Ad) [v8] (.ref Ad) [u8] (fun _ H'=>H'=L2.upd H8 Ad (.lst (vs++[v8]))) I8 rfl (.cons r8 .nil) ⟨Ad,vs,v8,rfl,rfl,YV,by rw[WD];omega,rfl⟩) (fun _ s9 ⟨v9,H9,I9,_,eH⟩=>?_) (fun _ _ z=>z);subst eH;obtain⟨t9,f9⟩:=UI I9;obtain⟨rl9,dn9⟩:=rl8.mutB (vs':=vs++[v8]) BD8 YV Tp;exact⟨ds.length - (i+1),by omega,i+1,W8,VF,Xw,_,out++[e8],vs++[v8],VP,rfl,QJ,I9.Ox,t9,f9,ax,hW8,Vg,(fun k b q=>let ⟨us,z⟩:=YW k b q;⟨us,by rw[aq (Vg.ok k b q).2.2.2];exact z⟩),YX.map dn9 (fun k b q=>⟨q,fun us z=>by rw[aq (Vg.ok k b q).2.2.2];exact z⟩),smH.ins Tp YV True.intro True.intro,rl9,Wz,q8,by rw[Q7,zBl];omega⟩
  ·have e:i=ds.length:=by omega
   refine LS (T.done (Sj X sc ns xs cl fn C s H fp (bB X sc cl RR Ad C)) rfl rfl rfl hc i [] s3 _ H3 _ I3 (SN Vy) Vx (ys (by omega))) fun rr s4 ⟨hr,I4⟩=>?_
   subst hr;subst e;have Io:Inv X pins σ H3 s4:=I.RO I4.os I4.base I4.Nw I4.bare TU;obtain⟨m,hm,_⟩:=I4.loc;exact Wu s4 H3 m out bs Io Wx hm I4.free (fun z=>absurd I.lt (by rw[<- z];exact Uy.mpr Qr)) (Sw I.sz Qr) (fun y c e z=>by
    obtain⟨v,q⟩:=I.cell y c e;exact absurd q.lt (by rw[z];exact Uy.mpr Qr)) (fun p hp z=>absurd (O8 (I.pin p hp).1) (by rw[z];exact Uy.mpr Qr))
    ⟨Tp,Xy,_,hD3,Vd,hls,Ww.map (fun _ _ z=>z.MG fun t a z=>(by
     rcases z with z|z
     ·rcases(Sr t a).mpr (.inl z)with q|⟨k,q⟩| q
      ·exact .inl (by rw[Tq.1];exact .inl q)
      ·cases q
      ·exact .inr (.inr ⟨q.1,by rw[Tq.2];exact q.2⟩)
     ·rcases z with z|z
      ·exact .inl (by rw[Tq.1];exact .inl (z ▸ BD0))
      ·exact .inl (by rw[Tq.1];exact .inr z))) fun _ _ q=>⟨q,fun _ z=>z⟩⟩ p3
 exact codeAny_compStart_list (loop _ rfl) (T.self _ 0 _ _ _ (T.keep 0 s.heap OI st (fun b hb o e=>old b o e)) (loop _ rfl))
theorem xi{elt iter tg:Expr}{ifs:yai}{pos:Pos}{g:DG}{te:DM}{tc:DT}{W:Own}{ρ:Ro}{J:It}{it:Addr}{tn:Nat->Heap->Prop}{ds:yas}{E:yaa}{RR:Value->Addr->Result->Shared->Prop}(hc:X.calm=true)(S:Va X.env.scope sc xs ns)
  (hj:js.length=ns.length/\∀(i:Nat) (j:Nat) (n:Str),js[i]?=some j->ns[i]?=some n->X.N[j]?=some n)
  {Ed:Value->Prop} (he:∀(C:Addr) (LN:Shared) (LV:Hp) (fp:yae) (XE:yaa),bj (aH X sc ns xs C LN LV fp XE) Ed->PEM (aH X sc ns xs C LN LV fp XE) elt te) (ht:∀(C:Addr) (LN:Shared) (LV:Hp) (fp:yae) (XE:yaa),bj (aH X sc ns xs C LN LV fp XE) Ed->Vc (aH X sc ns xs C LN LV fp XE) ifs tc)
  (hx:∀D C:Addr,bj (aH X sc ns xs C s H fp (lL X sc ns RR D C)) Ed) (I:Inv X pins σ H s) (r:Rel X W H σ ρ) (hg:∀(C:Addr) (LN:Shared) (LV:Hp) (fp:yae) (XE:yaa),Wa (aH X sc ns xs C LN LV fp XE) tg g) (T:Turn X.prog X.w X.K tg J fp it tn) (st:tn 0 s.heap) (SK:∀b∈fp,cy X pins H b) (yd:YD X.K W H J ds) (hz:ds.length<=sizeLine)
  (Pv:Nat->List LI->Prop) (p0:Pv 0 []) (step:∀j d out P8,ds[j]?=some d->Pv j out->dE xs.length (js.map (aU ρ)) P8->g d P8 fun Pu=>dE xs.length (js.map (aU ρ)) Pu/\tc Pu fun b=>if b=true then te Pu (fun e=>Pv (j+1) (out++[e]))else Pv (j+1) out)
  (Wu:∀(D C:Addr) (s':Shared) (H':Hp) (m':yam) (out:List LI) (bs:yaj),Inv X pins σ H' s'->ai H H'->s'.heap.Ns C m'->H' C=none->C≠X.env.locals->X.MY.heap.objs.size<=C->(∀y c,X.env.cells.lookup y=some c->c≠C)->(∀p∈X.pn++pins,p.1≠C) →
   (H D=none/\X.K.lookup D=none/\∃vs,H' D=some (.lst vs)/\dA X.K H D out.length bs/\(∀k b,bs k=some b->∃us,H' b=some (.lst us))/\aI X.K (fun t b=>W.bad t b∨b=D∨∃ k,bs k=some b) H' bs 0 out vs)->Pv ds.length out->RR (.ref D) C (.ok .next) s') :
  wpAny (model X.prog X.w) X.A (newList []) (fun acc OJ=>wpAny (model X.prog X.w) X.A (newFunctionEnv sc X.env.globals (cf X.env ns) [] X.env.qual none .none (some X.env)) (fun cenv SM =>
   codeAny (model X.prog X.w) X.A (.compStart (.ListComp elt [⟨tg,iter,ifs,0⟩] sc pos) 0 (.ref it) acc {cenv with scope:=relabel sc X.env}) (RR acc cenv.locals) SM) E OJ) E s:=by
 refine ZW (wpAny_newFunctionEnv S.Vb (by intro y hy;simp at hy) (fun OI Rq Qs=>?_) S.kind);dsimp only at Rq Qs ⊢;generalize YY:s.heap.push {cls:=.type "list", dict:=none,data:=.seq ([]:yad).toArray}=HP at Rq Qs ⊢;have hC:HP.objs.size=s.heap.objs.size+1:=by rw[<- YY,X2]
 have YZ:s.heap.objs.size≠HP.objs.size:=by rw[hC];exact Sn (Nat.lt_succ_self _)
 have Qr:s.heap.objs.size<=HP.objs.size:=by rw[hC];exact Nat.le_succ _
 have below:∀b,b<s.heap.objs.size->b≠HP.objs.size:=fun b hb=>by rw[hC];exact Sn (Nat.lt_succ_of_lt hb)
 have old:∀b o,s.heap.get? b=some o->OI.get? b=some o:=fun b o e=>Qs.extBut b o (below b (O8 e)) (P7 _ (YY ▸ P7 _ e))
 have WE:OI.get? s.heap.objs.size=some {cls:=.type "list", data:=.seq ([]:yad).toArray}:=Qs.extBut _ _ YZ (P7 _ (YY ▸ Rm _ rfl));generalize eD:s.heap.objs.size=D at YZ WE;generalize eC:HP.objs.size=C at *;have Tp:H D=none:=by rw[<- eD];exact I.Nw.fresh (O2 _)
 have Xy:X.K.lookup D=none:=by rw[<- eD];exact Inv.Pq I
 have Yc:H C=none:=I.Nw.fresh Qr;have Wt:∀b∈fp,∃o,s.heap.get? b=some o:=fun b hb=>let ⟨o,e,_⟩:=T.obj 0 s.heap st b hb;⟨o,e⟩
 have Wv:s.heap.objs.size<=D:=Nat.le_of_eq eD;have Tr:Rc X.prog X.w (L2.upd H D (.lst [])) OI:=I.Nw.laid old Wv ⟨S9 _,[],0,.nil,WE⟩;have Y0:∀o,L2.upd H D o C=none:=fun o=>by rw[aq (Ne.symm YZ)];exact Yc
 have I1:Inv (aH X sc ns xs C s H fp (lL X sc ns RR D C)) [] (List.replicate xs.length none++js.map (dH σ)) (L2.upd H D (.lst [])) {s with heap:=OI,toks:=s.toks+([]:List (Str×Value)).length} :=
  Inv.comp I S hj SK Wt Qr rfl I.bare old Rq (Y0 _) (ai.upd Tp) (fun b o e n=>by rw[aq (fun z=>absurd (O8 e) (by rw[z];exact Uy.mpr Wv))];exact n) Tr
 exact zV (cl:=cf X.env ns) (fn:=fun _=>false) hc (he C s H fp _ (hx D C)) (ht C s H fp _ (hx D C)) (hg C s H fp _) I r T st SK yd hz Pv p0 step (Wu D C) Tp Xy Wv Qr old (fun y c e=>.inl (i6 e)) I1
end
theorem aI.vals{K:yac}{P:yak}{H:Hp}{B:yaj}:∀{ds:yas} {k:Nat} {vs:yar},aI K P H B k (ds.map .val) vs->af K P H ds vs
 |[],_,_,h=>by simp only[Wk,aI]at h;subst h;exact af.nil
 |d::r,_,_,h=>by simp only[Sv,aI]at h;obtain⟨v,u,rfl,h1,h2⟩:=h;exact af.cons h1 h2.vals
theorem Hg{X:Cx}{e:Expr}{te:DE}(h:Mv X e te):PEM X e fun ρ Q=>te ρ fun d=>Q (.val d):=fun pins s σ H W ρ Q I r t=>O3 (h pins s σ H W ρ _ I r t) (fun _ _ ⟨v,H',d,a,b,c,q,z⟩=>⟨v,H',.val d,a,b,c,q,z⟩) fun _ _ z=>z
section
variable{X:Cx}{pins:yab}{σ:St}{H:Hp}{s:Shared}{sc:Scope}{ns:yah}{js:yag}{xs:yah}{fp:yae}
theorem fH{elt iter tg:Expr}{ifs:yai}{pos:Pos}{g:DG}{te:DE}{tc:DT}{W:Own}{ρ:Ro}{J:It}{it:Addr}{tn:Nat->Heap->Prop}{ds:yas}{E:yaa}{RR:Value->Addr->Result->Shared->Prop}(hc:X.calm=true)(S:Va X.env.scope sc xs ns)
  (hj:js.length=ns.length/\∀(i:Nat) (j:Nat) (n:Str),js[i]?=some j->ns[i]?=some n->X.N[j]?=some n)
  {Ed:Value->Prop} (he:∀(C:Addr) (LN:Shared) (LV:Hp) (fp:yae) (XE:yaa),bj (aH X sc ns xs C LN LV fp XE) Ed->Mv (aH X sc ns xs C LN LV fp XE) elt te) (ht:∀(C:Addr) (LN:Shared) (LV:Hp) (fp:yae) (XE:yaa),bj (aH X sc ns xs C LN LV fp XE) Ed->Vc (aH X sc ns xs C LN LV fp XE) ifs tc)
  (hx:∀D C:Addr,bj (aH X sc ns xs C s H fp (lL X sc ns RR D C)) Ed) (I:Inv X pins σ H s) (r:Rel X W H σ ρ) (hg:∀(C:Addr) (LN:Shared) (LV:Hp) (fp:yae) (XE:yaa),Wa (aH X sc ns xs C LN LV fp XE) tg g) (T:Turn X.prog X.w X.K tg J fp it tn) (st:tn 0 s.heap) (SK:∀b∈fp,cy X pins H b) (yd:YD X.K W H J ds) (hz:ds.length<=sizeLine)
  (Pv:Nat->yas->Prop) (p0:Pv 0 []) (step:∀j d out P8,ds[j]?=some d->Pv j out->dE xs.length (js.map (aU ρ)) P8->g d P8 fun Pu=>dE xs.length (js.map (aU ρ)) Pu/\tc Pu fun b=>if b=true then te Pu (fun e=>Pv (j+1) (out++[e]))else Pv (j+1) out)
  (Wu:∀(D C:Addr) (s':Shared) (H':Hp) (m':yam) (out:List PD.D),Inv X pins σ H' s'->ai H H'->s'.heap.Ns C m'->H' C=none->C≠X.env.locals->X.MY.heap.objs.size<=C->(∀y c,X.env.cells.lookup y=some c->c≠C)->(∀p∈X.pn++pins,p.1≠C) →
   (H D=none/\X.K.lookup D=none/\∃vs,H' D=some (.lst vs)/\af X.K (fun t b=>W.bad t b∨b=D) H' out vs)->Pv ds.length out->RR (.ref D) C (.ok .next) s') :
  wpAny (model X.prog X.w) X.A (newList []) (fun acc OJ=>wpAny (model X.prog X.w) X.A (newFunctionEnv sc X.env.globals (cf X.env ns) [] X.env.qual none .none (some X.env)) (fun cenv SM =>
   codeAny (model X.prog X.w) X.A (.compStart (.ListComp elt [⟨tg,iter,ifs,0⟩] sc pos) 0 (.ref it) acc {cenv with scope:=relabel sc X.env}) (RR acc cenv.locals) SM) E OJ) E s:=by
 have e:∀k l,(∃q,l.map LI.val=q.map LI.val/\Pv k q)=Pv k l:=fun k l=>propext ⟨fun⟨q,a,b⟩=>(List.map_inj_right (fun _ _=>LI.val.inj)).mp a ▸ b,fun b=>⟨l,rfl,b⟩⟩
 refine xi (te:=fun ρ Q=>te ρ fun d=>Q (.val d)) hc S hj (fun C LN LV fp XE p=>Hg (he C LN LV fp XE p)) ht hx I r hg T st SK yd hz (fun k o=>∃q,o=q.map LI.val/\Pv k q) ⟨[],rfl,p0⟩ ?_ ?_
 ·rintro j d _ P8 hd ⟨q,rfl,hp⟩ cr;have e2:∀x,q.map LI.val++[LI.val x]=(q++[x]).map LI.val:=fun x=>by rw[VC];rfl
  simp only[e2,e];exact step j d q P8 hd hp cr
 ·rintro D C s' H' m' _ bs I' sm a1 a2 a3 a4 a5 a6 ⟨h1,h2,vs,h3,_,_,h4⟩ ⟨q,rfl,hp⟩;exact Wu D C s' H' m' q I' sm a1 a2 a3 a4 a5 a6 ⟨h1,h2,vs,h3,h4.vals.MG fun t b z=>z.elim .inl fun z=>.inr (.inl z)⟩ hp
theorem pA{X:Cx}{sc:Scope}{ns:yah}{x:Str}{px:Pos}{C:Addr}{LN:Shared}{LV:Hp}{fp:yae}{XE:yaa}(S:Va X.env.scope sc [x] ns):Wa (aH X sc ns [x] C LN LV fp XE) (.Name x px) (mO 0) :=
 have tl:(compEnvC sc (cf X.env ns) C X.env).scope.names.lookup x=some .local:=lookup_relabel_local (S.tgt x (by simp))
 nS (X:=aH X sc ns [x] C LN LV fp XE) 0 S.nd rfl (.inl tl) (.inr tl)
theorem zy{ds:yas}{Pv:Nat->yas->Prop}{tc:DT}{te:DE}{To:Ro}(step:∀j d out,ds[j]?=some d->Pv j out->tc (some (.val d)::To) fun b=>if b=true then te (some (.val d)::To) (fun e=>Pv (j+1) (out++[e]))else Pv (j+1) out) :
  ∀ j d out P8,ds[j]?=some d->Pv j out->dE 1 To P8->mO 0 d P8 fun Pu=>dE 1 To Pu/\tc Pu fun b=>if b=true then te Pu (fun e=>Pv (j+1) (out++[e]))else Pv (j+1) out:=by
 rintro j d out P8 hd hp ⟨r0,hl,rfl⟩
 match r0,hl with
 |[a],_=>exact⟨⟨[some (.val d)],rfl,rfl⟩,step j d out hd hp⟩
def jR(wi:DA)(js:yag)(tc:DT)(te:DE):DE:=fun ρ Q=>wi ρ fun ds=>ds.length<=sizeLine/\∃Pv:Nat->yas->Prop,Pv 0 [] ∧
 (∀j d out,ds[j]?=some d->Pv j out->tc (some (.val d)::js.map (aU ρ)) fun b=>if b=true then te (some (.val d)::js.map (aU ρ)) (fun e=>Pv (j+1) (out++[e]))else Pv (j+1) out)/\∀out,Pv ds.length out->Q (.lst true out)
def bC(N:yah)(ns:yah)(js:yag):Prop:=js.length=ns.length/\∀(i:Nat) (j:Nat) (n:Str),js[i]?=some j->ns[i]?=some n->N[j]?=some n
theorem bC.nil{N:yah}:bC N [] []:=⟨rfl,fun i j n h=>by simp at h⟩
theorem bC.cons{N ns:yah}{js:yag}{n:Str}(j:Nat)(h:bC N ns js)(e:N[j]?=some n:=by rfl):bC N (n::ns) (j::js):=⟨by simp[h.1],fun i j' m h1 h2=>by
 cases i with
 |zero=>simp at h1 h2;subst h1 h2;exact e
 |succ i=>exact h.2 i j' m (by simpa using h1) (by simpa using h2)⟩
variable{elt iter:Expr}{ifs:yai}{px pos:Pos}{te:DE}{tc:DT}{wi:DA}{x:Str}
theorem df(hc:X.calm=true)(S:Va X.env.scope sc [x] ns)(hj:bC X.N ns js)(hi:Uv X (.Name x px) iter wi)(ht:∀(C:Addr) (LN:Shared) (LV:Hp) (fp:yae) (XE:yaa),Vc (aH X sc ns [x] C LN LV fp XE) ifs tc)
  (he:∀(C:Addr) (LN:Shared) (LV:Hp) (fp:yae) (XE:yaa),Mv (aH X sc ns [x] C LN LV fp XE) elt te) (PL:closureFor sc X.env=pure (cf X.env ns):=by rfl) (hs:∀x,foldedSetIterable iter X.env x=pure x:=by intro _;rfl) :
  Mv X (.ListComp elt [⟨.Name x px,iter,ifs,0⟩] sc pos) (jR wi js tc te):=by
 intro pins s σ H W ρ Q I r h;rw[eval_ListComp];refine ZN (use:=none) rfl hs PL S.kind S.names (LS (hi pins s σ H W ρ _ I r h) fun v s1 h1=>LS h1 fun Vw s2 h2=>?_);obtain⟨it,fp,tn,J,H2,ds,e,I2,e2,T,TV,f2,yd,hz,Pv,p0,step,fin⟩:=h2;subst e;refine fH (RR:=fun acc C=>compPost (model X.prog X.w) X.A X.xe none (DP X pins σ W H Q) acc C) hc S hj (Ed:=fun _=>False) (fun C LN LV fp XE _=>he C LN LV fp XE) (fun C LN LV fp XE _=>ht C LN LV fp XE) (fun _ _=>bj.no) I2 (r.same e2) (fun C LN LV fp XE=>pA S) T TV f2 yd hz Pv p0 (zy step) ?_;intro D C s' H' m' out I' sm UZ VM Vh WG Vi U0 ⟨hn,hk,vs,hD,O6⟩ pv;have QP:Den X.K W.bad H' (.lst true out) (.ref D):=Den.lst ((r.same e2).fresh hn) (.new hD hk) (O6.MG fun _ _ z=>.inl z);refine⟨m',UZ,fun h' VA=>?_⟩;exact⟨.ref D,H',_,I'.turned (t':=s'.toks) (fun b o hb e=>(VA.2 b hb).trans e) VM Vh (.inr WG) Vi U0,rfl,e2.trans sm,QP,fin out pv⟩
theorem yS{y:Str}{py RT:Pos}(i:Nat)(hN:X.N.Nodup)(hc:X.calm=true)(S:Va X.env.scope sc [x] ns)(hj:bC X.N ns js)(hi:Uv X (.Name x px) iter wi)(ht:∀(C:Addr) (LN:Shared) (LV:Hp) (fp:yae) (XE:yaa),Vc (aH X sc ns [x] C LN LV fp XE) ifs tc)
  (he:∀(C:Addr) (LN:Shared) (LV:Hp) (fp:yae) (XE:yaa),Mv (aH X sc ns [x] C LN LV fp XE) elt te) (hy:X.N[i]?=some y:=by rfl) (VQ:X.env.scope.names.lookup y=some .local:=by rfl) (PL:closureFor sc X.env=pure (cf X.env ns):=by rfl) (hs:∀x,foldedSetIterable iter X.env x=pure x:=by intro _;rfl)
  (VS:swapsWith (.ListComp elt [⟨.Name x px,iter,ifs,0⟩] sc pos) (some (.Name y py)) RT.line X.env=pure true:=by rfl) :
  Q9 X (.Assign [.Name y py] (.ListComp elt [⟨.Name x px,iter,ifs,0⟩] sc pos) RT) (rH i (jR wi js tc te)):=by
 intro pins s σ H W ρ E I r h;rw[zBo _ _ _ _ VS];refine L3 (V5 (L3 ?_));show wpAny _ X.A (do let _←comprehension (.ListComp elt [⟨.Name x px,iter,ifs,0⟩] sc pos) sc X.env _ (newList []) false (eval iter X.env) (some (assign (.Name y py) X.env))) _ _ s;refine L3 (O3 (ZN (use:=some (assign (.Name y py) X.env)) (Q:=fun _ s'=>UE X pins W H E .next s') rfl hs PL S.kind S.names
  (LS (hi pins s σ H W ρ _ I r h) fun v s1 h1=>LS h1 fun Vw s2 h2=>?_)) (fun _ s' hq=>OQ (OQ hq)) fun _ _ e=>e)
 obtain⟨it,fp,tn,J,H2,ds,e,I2,e2,T,TV,f2,yd,hz,Pv,p0,step,fin⟩:=h2;subst e;refine fH (RR:=fun acc C=>compPost (model X.prog X.w) X.A X.xe (some (assign (.Name y py) X.env)) (fun _ s'=>UE X pins W H E .next s') acc C) hc S hj (Ed:=fun _=>False) (fun C LN LV fp XE _=>he C LN LV fp XE) (fun C LN LV fp XE _=>ht C LN LV fp XE) (fun _ _=>bj.no) I2 (r.same e2) (fun C LN LV fp XE=>pA S) T TV f2 yd hz Pv p0 (zy step) ?_;intro D C s' H' m' out I' sm UZ VM Vh WG Vi U0 ⟨hn,hk,vs,hD,O6⟩ pv;have QP:Den X.K W.bad H' (.lst true out) (.ref D):=Den.lst ((r.same e2).fresh hn) (.new hD hk) (O6.MG fun _ _ z=>.inl z);have rr:=(r.same e2).same sm;show wpAny _ X.A (assign (.Name y py) X.env (.ref D)) _ _ _;refine Zq (hJ (v:=.ref D) I' hN hy (.inl VQ) rfl (fun s3 I3 ⟨a,VA,ha⟩=>?_) (.inr VQ));have RP:C≠a:=by
  rcases ha with z|z
  ·rw[z];exact Vh
  ·exact fun q=>Vi y a z q.symm
 refine⟨m',UZ.sameBut VA RP,fun h' Vj=>?_⟩;refine⟨W.drop i,_,H',I3.turned (t':=s3.toks) (fun b o hb e=>(Vj.2 b hb).trans e) VM Vh (.inr WG) Vi U0,(OB.same (e2.trans sm)).trans (OB.drop W H' i),_,rr.put (Inv.V9 I' hy) QP,fin out pv⟩
end
section
theorem vM{g:Heap}{C b:Addr}{o:Obj}(e:(PySem.W.hideAll g [C]).get? b=some o):b≠C:=fun z=>by rw[PySem.W.hideAll_none [C] (by simp[z])]at e;cases e
theorem Fl.hide{P:Program}{w:World}{l:List Env}{h₀:Heap}{H₀ H:Hp}{B h h':Heap}{C:Addr}(F:Fl P w l h₀ H₀ H B h)(hC:C∉RM l)(n1:H C=none)(hs:Heap.SameBut C h h'):Fl P w l (PySem.W.hideAll h₀ [C]) H₀ H (PySem.W.hideAll B [C]) h':=by
 have un:=F.un;refine⟨⟨fun b o e n hb hx=>(hs.2 b (vM e)).trans (un.keep b o (PySem.W.of_hideAll [C] e) n hb hx),fun b o e n hb hx=>?_,fun b o e n hx=>un.free b o (PySem.W.of_hideAll [C] e) n hx,fun b o e hx=>?_,un.Qq,un.Qk,un.Ql⟩,PD.Rc.X9 F.Nw (fun b u hu e=>?_),fun b hb=>?_,fun b o e z n=>?_⟩
 ·obtain⟨sl,q⟩:=un.slot b o (PySem.W.of_hideAll [C] e) n hb hx;exact⟨sl,(hs.2 b (vM e)).trans q⟩
 ·obtain⟨o',q⟩:=un.there b o (PySem.W.of_hideAll [C] e) hx;exact⟨o',(hs.2 b (vM e)).trans q⟩
 ·refine(hs.2 b fun z=>?_).trans e;obtain⟨o,q⟩:=hu;rw[z,n1]at q;cases q
 ·obtain⟨n,o,e,d⟩:=F.fr b hb;exact⟨n,o,PySem.W.hideAll_get [C] e (fun z=>hC (by simp at z;rw[<- z];exact hb)),d⟩
 ·have RP:b≠C:=by
   rcases z with⟨u,z⟩| ⟨o',z⟩
   ·intro q;rw[q,n1]at z;cases z
   ·exact vM z
  refine PySem.W.hideAll_get [C] (F.Yb b o ((hs.2 b RP).symm.trans e) ?_ n) (by simpa using RP);rcases z with z|⟨o',z⟩
  ·exact .inl z
  ·exact .inr ⟨o',PySem.W.of_hideAll [C] z⟩
theorem ye{B h h':Heap}{C:Addr}(hs:Heap.SameBut C h h'):∀{l:List Env},(∀env∈l,env.frame≠some C)->h.FunFrames B l->h'.FunFrames (PySem.W.hideAll B [C]) l
 |[],_,_=>trivial
 |env::r,hn,⟨hk,⟨L,o,hf,hb,ho,hd⟩,hr⟩=>⟨hk,⟨L,o,hf,(by
   cases q:(PySem.W.hideAll B [C]).get? L with
   |none=>rfl
   |some o' =>
    have:=PySem.W.of_hideAll [C] q;rw[hb]at this;cases this),(hs.2 L fun z=>hn env Su (by rw[hf,z])).trans ho,hd⟩,ye hs (fun e he=>hn e (SD _ he)) hr⟩
theorem eG.hide{B h h':Heap}{l:List Env}{e C:Addr}{cls a0:Value}{oC:Obj}(R:eG B l e cls a0 h)(hn:∀env∈l,env.frame≠some C)(he:e≠C)(hB:B.get? C=some oC)(hs:Heap.SameBut C h h'):eG (PySem.W.hideAll B [C]) l e cls a0 h':=by
 have no:∀b,B.get? b=none->(PySem.W.hideAll B [C]).get? b=none:=fun b q=>by
  cases z:(PySem.W.hideAll B [C]).get? b with
  |none=>rfl
  |some o' =>
   have:=PySem.W.of_hideAll [C] z;rw[q]at this;cases this
 obtain⟨k1,k2,k3,fl,oe,vs,T,oT,ts,g1,g2,g3,g4,g5,g6,g7,g8,g9⟩:=R;have hT:T≠C:=fun z=>by rw[z,hB]at g5;cases g5
 exact⟨fun b o q=>(hs.2 b (vM q)).trans (k1 b o (PySem.W.of_hideAll [C] q)),no e k2,ye hs hn k3,fl,oe,vs,T,oT,ts,(hs.2 e he).trans g1,g2,g3,g4,no T g5,g6,(hs.2 T hT).trans g7,g8,g9⟩
variable{X:Cx}{pins:yab}{σ:St}{H:Hp}{s:Shared}{sc:Scope}{ns:yah}{js:yag}{xs:yah}{fp:yae}
theorem tE{W:Own}{ρ:Ro}{Ed:Value->Prop}{use:Option (Value->Sem Unit)}{Q:yaa}(hX:jP X Ed)(Py:X.stack=X.env::X.outer)(VB:X.env.frame=some X.env.locals)(I:Inv X pins σ H s)(r:Rel X W H σ ρ)(SK:∀b∈fp,cy X pins H b)(D C:Addr) :
  bj (aH X sc ns xs C s H fp (lL X sc ns (fun acc C=>compPost (model X.prog X.w) X.A X.xe use Q acc C) D C)) Ed:=by
 intro Wn σ' H' W' NQ s1 e s' I' r' hcx;obtain⟨ea,c,H2,B,a0,rfl,os,bare,F,sm,hn,Uw,fl,hd⟩:=hcx;have le:s.heap.objs.size<=C:=I'.ok.above;have Yc:C∉RM X.stack:=fun z=>by
  rcases Rb.mp (I.Rn C z)with q|q
  ·exact absurd I.lt (by rw[<- q];exact Uy.mpr le)
  ·exact I.Z3 le q
 have hCl:C≠X.env.locals:=fun q=>absurd I.lt (by rw[<- q];exact Uy.mpr le)
 have Io:Inv X pins σ H' s1:=I.RO I'.os I'.base I'.Nw I'.bare fun b hb=>by obtain⟨f0,f1,f2,f3,f4,f5⟩:=SK b hb;exact⟨f3,f1,f4,f5⟩
 have nC:H' C=none:=I'.free;obtain⟨m,hm,_⟩:=I'.loc;obtain⟨oC,es,ep,ho,hrest⟩:=hm;have kC:s'.heap.get? C=some oC:=F.un.keep C oC ho nC Yc (by intro z;cases z);have BC:B.get? C=some oC:=F.Yb C oC kC (.inr ⟨oC,ho⟩) Yc;have n2:H2 C=none:=F.un.free C oC ho nC (by intro z;cases z);have hea:ea≠C:=fun z=>by rw[z]at Uw;rw[show s1.heap.get? C=some oC from ho]at Uw;cases Uw
 have YI:∀env∈X.stack,env.frame≠some C:=fun env he q=>Yc (ZR.mpr ⟨env,he,q⟩)
 have R0:eG B (X.env::X.outer) ea (.ref c) a0 s'.heap:=by have fl':Heap.FlyingW B X.stack ea (.ref c) a0 s'.heap:=fl;rw[Py]at fl';exact⟨fl'.1,fl'.2.1,fl'.2.2.1,.none,fl'.2.2.2⟩
 show wpAny (model X.prog X.w) X.A (noteFrame (.ref ea) X.env) _ _ s';refine yo (outer:=X.outer) (by rw[I.ok.frames,Py]) VB R0 fun h1 R1 sl1=>?_
 have R1':eG B X.stack ea (.ref c) a0 h1:=by rw[Py];exact R1
 have F1:=Fl.step F R1.1 sl1;refine⟨m,sl1.ns ⟨oC,es,ep,kC,hrest⟩,fun h' VA cenv _=>?_⟩;have F2:=Fl.hide F1 Yc n2 VA;refine Fe (R1'.hide YI hea BC VA) fun h3 R3 sl3=>?_
 have F3:=Fl.step F2 R3.1 sl3;refine hX pins σ H' W ρ {s1 with heap:=PySem.W.hideAll s1.heap [C]} _ ea c H2 (PySem.W.hideAll B [C]) a0 (Io.turned (t':=s1.toks) (it:=C) (fun b o hb q=>PySem.W.hideAll_get [C] q (by simpa using hb)) nC hCl (.inr (Sw I.sz le)) (fun y c e z=>?_) (fun p hp z=>?_)) (r.same r'.ent) os bare F3 sm hn ?_ R3 hd
 ·obtain⟨v,q⟩:=I.cell y c e;exact absurd q.lt (by rw[z];exact Uy.mpr le)
 ·exact absurd (O8 (I.pin p hp).1) (by rw[z];exact Uy.mpr le)
 ·cases q:(PySem.W.hideAll s1.heap [C]).get? ea with
  |none=>rfl
  |some o =>
   have:=PySem.W.of_hideAll [C] q;rw[Uw]at this;cases this
variable{elt iter:Expr}{ifs:yai}{px pos:Pos}{te:DE}{tc:DT}{wi:DA}{x:Str}
theorem B9{Ed:Value->Prop}(hX:jP X Ed)(hc:X.calm=true)(S:Va X.env.scope sc [x] ns)(hj:bC X.N ns js)(hi:Uv X (.Name x px) iter wi)(ht:∀(C:Addr) (LN:Shared) (LV:Hp) (fp:yae) (XE:yaa),bj (aH X sc ns [x] C LN LV fp XE) Ed->Vc (aH X sc ns [x] C LN LV fp XE) ifs tc)
  (he:∀(C:Addr) (LN:Shared) (LV:Hp) (fp:yae) (XE:yaa),bj (aH X sc ns [x] C LN LV fp XE) Ed->Mv (aH X sc ns [x] C LN LV fp XE) elt te) (Py:X.stack=X.env::X.outer:=by rfl) (VB:X.env.frame=some X.env.locals:=by rfl) (PL:closureFor sc X.env=pure (cf X.env ns):=by rfl) (hs:∀x,foldedSetIterable iter X.env x=pure x:=by intro _;rfl) :
  Mv X (.ListComp elt [⟨.Name x px,iter,ifs,0⟩] sc pos) (jR wi js tc te):=by
 intro pins s σ H W ρ Q I r h;rw[eval_ListComp];refine ZN (use:=none) rfl hs PL S.kind S.names (LS (hi pins s σ H W ρ _ I r h) fun v s1 h1=>LS h1 fun Vw s2 h2=>?_);obtain⟨it,fp,tn,J,H2,ds,e,I2,e2,T,TV,f2,yd,hz,Pv,p0,step,fin⟩:=h2;subst e;refine fH (RR:=fun acc C=>compPost (model X.prog X.w) X.A X.xe none (DP X pins σ W H Q) acc C) hc S hj he ht (tE hX Py VB I2 (r.same e2) f2) I2 (r.same e2) (fun C LN LV fp XE=>pA S) T TV f2 yd hz Pv p0 (zy step) ?_;intro D C s' H' m' out I' sm UZ VM Vh WG Vi U0 ⟨hn,hk,vs,hD,O6⟩ pv;have QP:Den X.K W.bad H' (.lst true out) (.ref D):=Den.lst ((r.same e2).fresh hn) (.new hD hk) (O6.MG fun _ _ z=>.inl z);refine⟨m',UZ,fun h' VA=>?_⟩;exact⟨.ref D,H',_,I'.turned (t':=s'.toks) (fun b o hb e=>(VA.2 b hb).trans e) VM Vh (.inr WG) Vi U0,rfl,e2.trans sm,QP,fin out pv⟩
end
def Gx(osc sc:Scope)(xs ns:yah):Bool :=
 decide (sc.kind=.function) && (sc.names.all fun y=>decide (y.2 ≠ .cell)) && (sc.names.all fun y=>decide (y.2=.local->sc.names.lookup y.1=some .local)) && (xs.all fun x=>decide (sc.names.lookup x=some .local)) &&
 (sc.names.all fun y=>decide (y.2=.free->y.1∈ns/\osc.names.lookup y.1=some .cell)) && (ns.all fun n=>decide (sc.names.lookup n=some .free/\osc.names.lookup n=some .cell)) && decide (xs++ns).Nodup
theorem bS{osc sc:Scope}{xs ns:yah}(h:Gx osc sc xs ns=true):Va osc sc xs ns:=by unfold Gx at h;simp only[S7]at h;obtain⟨⟨⟨⟨⟨⟨h1,h2⟩,h3⟩,h4⟩,h5⟩,h6⟩,h7⟩:=h;exact⟨Wi h1,fun y hy=>Wi (Up.mp h2 y hy),fun y hy=>Wi (Up.mp h3 y hy),fun x hx=>Wi (Up.mp h4 x hx),fun y hy=>Wi (Up.mp h5 y hy),fun n hn=>Wi (Up.mp h6 n hn),Wi h7⟩
inductive UJ:yai->yah->Prop where
 |nil:UJ [] []
 |cons {x:Str} {p:Pos} {es:yai} {xs:yah} (h:UJ es xs):UJ (.Name x p::es) (x::xs)
def mM:Nat->Nat->Wq
 |_,0=>jS
 |i,n+1=>cA (mO i) (mM (i+1) n)
theorem qu:∀(ys:yas) (pre r0 To:Ro) (Q:Ro->Prop),r0.length=ys.length->Q (pre++ys.map (fun d=>some (Sl.val d))++To)->mM pre.length ys.length ys (pre++r0++To) Q
 |[],pre,r0,To,Q,hl,h=>by have:r0=[]:=XX hl;subst this;exact⟨rfl,h⟩
 |d::r,pre,r0,To,Q,hl,h=>by
  match r0,hl with
  |a::q,hl =>
   refine⟨d,r,rfl,?_⟩;show mM (pre.length+1) r.length r ((pre++a::q++To).set pre.length (some (.val d))) Q;have e:(pre++a::q++To).set pre.length (some (Sl.val d))=(pre++[some (Sl.val d)])++q++To:=by rw[List.append_assoc,List.set_append_right _ _ (O2 _),Nat.sub_self];simp
   have e2:pre.length+1=(pre++[some (Sl.val d)]).length:=by simp
   rw[e,e2];refine qu r _ q To Q (by simpa using hl) ?_;simpa using h
section
variable{X:Cx}{sc:Scope}{ns xs:yah}{js:yag}
theorem UJ.len{env:Env}:∀{es:yai} {ys:yah},UJ es ys->(assignEach es env).length=ys.length/\(assignEach es env).findIdx? (·.1)=none
 |_,_,.nil=>⟨rfl,rfl⟩
 |_,_,.cons (x:=x) (p:=p) (es:=es) h=>by obtain⟨h1,h2⟩:=UJ.len (env:=env) h;have e:assignEach (.Name x p::es) env=(false,assign (.Name x p) env)::assignEach es env:=rfl;rw[e];refine⟨by rw[Sd,h1];rfl,?_⟩;rw[List.findIdx?_cons,h2];rfl
theorem iH{C:Addr}{LN:Shared}{LV:Hp}{fp:yae}{XE:yaa}(S:Va X.env.scope sc xs ns):∀{es:yai} {ys:yah} (i:Nat),UJ es ys->(∀k y,ys[k]?=some y->xs[i+k]?=some y)->rD (aH X sc ns xs C LN LV fp XE) es (mM i ys.length)
 |_,_,_,.nil,_=>EI
 |_,_,i,.cons (x:=x) (xs:=ys) h,hk=>by
  have hx:xs[i]?=some x:=hk 0 x rfl;have tl:(compEnvC sc (cf X.env ns) C X.env).scope.names.lookup x=some .local:=lookup_relabel_local (S.tgt x (Xj hx));have hN:(xs++ns)[i]?=some x:=by rw[XY (U3.mp hx).1];exact hx
  exact Ci (nS (X:=aH X sc ns xs C LN LV fp XE) i S.nd hN (.inl tl) (.inr tl)) (iH S (i+1) h fun k y e=>by have:=hk (k+1) y e;rw[show i+(k+1)=i+1+k by omega]at this;exact this)
variable{elt iter:Expr}{ifs es:yai}{kt:Nat}{tp pos:Pos}{te:DE}{tc:DT}{wi:DA}
def gS(ys:yas):Ro:=ys.map fun d=>some (Sl.val d)
def i8(n:Nat)(wi:DA)(js:yag)(tc:DT)(te:DE):DE:=fun ρ Q=>wi ρ fun ds=>ds.length<=sizeLine/\∃Pv:Nat->yas->Prop,Pv 0 [] ∧
 (∀j d out,ds[j]?=some d->Pv j out->∃ys,(d=.tup ys∨∃ t,d=.lst t ys)/\ys.length=n/\tc (gS ys++js.map (aU ρ)) fun b=>if b=true then te (gS ys++js.map (aU ρ)) (fun e=>Pv (j+1) (out++[e]))else Pv (j+1) out)/\∀out,Pv ds.length out->Q (.lst true out)
theorem stepT{n:Nat}{ds:yas}{Pv:Nat->yas->Prop}{To:Ro}(step:∀j d out,ds[j]?=some d->Pv j out->∃ys,(d=.tup ys∨∃ t,d=.lst t ys)/\ys.length=n/\tc (gS ys++To) fun b=>if b=true then te (gS ys++To) (fun e=>Pv (j+1) (out++[e]))else Pv (j+1) out) :
  ∀ j d out P8,ds[j]?=some d->Pv j out->dE n To P8->gC n (mM 0 n) d P8 fun Pu=>dE n To Pu/\tc Pu fun b=>if b=true then te Pu (fun e=>Pv (j+1) (out++[e]))else Pv (j+1) out:=by
 rintro j d out P8 hd hp ⟨r0,hl,rfl⟩;obtain⟨ys,e,hn,h⟩:=step j d out hd hp;refine⟨ys,e,hn,?_⟩;subst hn;exact qu ys [] r0 To _ hl ⟨⟨gS ys,by simp[gS],rfl⟩,h⟩
theorem xm{y:Str}{py RT:Pos}(i:Nat)(hN:X.N.Nodup)(hc:X.calm=true)(S:Va X.env.scope sc xs ns)(hj:bC X.N ns js)(hn:UJ es xs)(hi:Uv X (.Tuple es kt tp) iter wi)(ht:∀(C:Addr) (LN:Shared) (LV:Hp) (fp:yae) (XE:yaa),Vc (aH X sc ns xs C LN LV fp XE) ifs tc)
  (he:∀(C:Addr) (LN:Shared) (LV:Hp) (fp:yae) (XE:yaa),Mv (aH X sc ns xs C LN LV fp XE) elt te) (hy:X.N[i]?=some y:=by rfl) (VQ:X.env.scope.names.lookup y=some .local:=by rfl) (PL:closureFor sc X.env=pure (cf X.env ns):=by rfl) (hs:∀x,foldedSetIterable iter X.env x=pure x:=by intro _;rfl)
  (VS:swapsWith (.ListComp elt [⟨.Tuple es kt tp,iter,ifs,0⟩] sc pos) (some (.Name y py)) RT.line X.env=pure true:=by rfl) :
  Q9 X (.Assign [.Name y py] (.ListComp elt [⟨.Tuple es kt tp,iter,ifs,0⟩] sc pos) RT) (rH i (i8 xs.length wi js tc te)):=by
 intro pins s σ H W ρ E I r h;rw[zBo _ _ _ _ VS];refine L3 (V5 (L3 ?_));show wpAny _ X.A (do let _←comprehension (.ListComp elt [⟨.Tuple es kt tp,iter,ifs,0⟩] sc pos) sc X.env _ (newList []) false (eval iter X.env) (some (assign (.Name y py) X.env))) _ _ s;refine L3 (O3 (ZN (use:=some (assign (.Name y py) X.env)) (Q:=fun _ s'=>UE X pins W H E .next s') rfl hs PL S.kind S.names
  (LS (hi pins s σ H W ρ _ I r h) fun v s1 h1=>LS h1 fun Vw s2 h2=>?_)) (fun _ s' hq=>OQ (OQ hq)) fun _ _ e=>e)
 obtain⟨it,fp,tn,J,H2,ds,e,I2,e2,T,TV,f2,yd,hz,Pv,p0,step,fin⟩:=h2;subst e;refine fH (RR:=fun acc C=>compPost (model X.prog X.w) X.A X.xe (some (assign (.Name y py) X.env)) (fun _ s'=>UE X pins W H E .next s') acc C) hc S hj (Ed:=fun _=>False) (fun C LN LV fp XE _=>he C LN LV fp XE) (fun C LN LV fp XE _=>ht C LN LV fp XE) (fun _ _=>bj.no) I2 (r.same e2) (fun C LN LV fp XE=>vF (X:=aH X sc ns xs C LN LV fp XE) hc (iH S 0 hn fun k y q=>by simpa using q) (UJ.len hn).1 (UJ.len hn).2) T TV f2 yd hz Pv p0 (stepT step) ?_;intro D C s' H' m' out I' sm UZ VM Vh WG Vi U0 ⟨hn,hk,vs,hD,O6⟩ pv;have QP:Den X.K W.bad H' (.lst true out) (.ref D):=Den.lst ((r.same e2).fresh hn) (.new hD hk) (O6.MG fun _ _ z=>.inl z);have rr:=(r.same e2).same sm;show wpAny _ X.A (assign (.Name y py) X.env (.ref D)) _ _ _;refine Zq (hJ (v:=.ref D) I' hN hy (.inl VQ) rfl (fun s3 I3 ⟨a,VA,ha⟩=>?_) (.inr VQ));have RP:C≠a:=by
  rcases ha with z|z
  ·rw[z];exact Vh
  ·exact fun q=>Vi y a z q.symm
 refine⟨m',UZ.sameBut VA RP,fun h' Vj=>?_⟩;refine⟨W.drop i,_,H',I3.turned (t':=s3.toks) (fun b o hb e=>(Vj.2 b hb).trans e) VM Vh (.inr WG) Vi U0,(OB.same (e2.trans sm)).trans (OB.drop W H' i),_,rr.put (Inv.V9 I' hy) QP,fin out pv⟩
end
theorem zT{α:Type}{n:Nat}{wi:DA}{js:yag}{tc:DT}{te:DE}{ρ:Ro}{Q:D->Prop}(zs:List α)(f:α->yas)(c:α->Bool)(g:α->D)(hw:∀R:yas->Prop,R (zs.map fun z=>.tup (f z))->wi ρ R)(hz:zs.length<=sizeLine)(hn:∀z,(f z).length=n)
  (hc:∀z∈zs,∀K:Bool->Prop,K (c z)->tc (gS (f z)++js.map (aU ρ)) K) (he:∀z∈zs,c z=true->∀K:D->Prop,K (g z)->te (gS (f z)++js.map (aU ρ)) K) (q:Q (.lst true ((zs.filter c).map g))):i8 n wi js tc te ρ Q:=by
 refine hw _ ⟨by rw[Ph];exact hz,fun j out=>out=((zs.take j).filter c).map g,by simp,fun j d out hd ho=>?_,fun out ho=>?_⟩
 ·rw[Td]at hd;cases ex:zs[j]? with
  |none=>rw[ex]at hd;cases hd
  |some x =>
   rw[ex]at hd;cases hd;have hm:x∈zs:=Xj ex;have ht:zs.take (j+1)=zs.take j++[x]:=by rw[Yp,ex];rfl
   refine⟨f x,.inl rfl,hn x,hc x hm _ ?_⟩;by_cases z:c x=true
   ·rw[LX z];refine he x hm z _ ?_;show _=List.map g (List.filter c (List.take (j+1) zs));rw[ht,ho,zBu,VC];simp[z]
   ·rw[LO z];show _=List.map g (List.filter c (List.take (j+1) zs));rw[ht,ho,zBu];simp[z]
 ·rw[Ph,Xi (O2 _)]at ho;rw[ho];exact q
theorem HG(k:Bool)(R:Int->Prop)(S:Bool->Prop):((∃i:Int,[D.bl k]=[.int i]/\R i)∨∃ j:Bool,[D.bl k]=[.bl j]/\S j)=S k:=by
 apply propext;constructor
 ·rintro(⟨_,e,_⟩| ⟨_,e,q⟩)
  ·cases e
  ·cases e;exact q
 ·intro q;exact .inr ⟨k,rfl,q⟩
theorem Ir(b:Bool):okD (.bl b):=by unfold okD;rw[Qm,Uu]<;>first|exact⟨rfl,rfl⟩| (intros;contradiction)
theorem CC(i:Int):okD (.int i)=True:=eq_true (yq i)
theorem E5(b:Bool):okD (.bl b)=True:=eq_true (Ir b)
theorem CF:okD .Nx=True:=eq_true yr
theorem E6(a b c:Int):okD (.tup [.int a,.int b,.int c])=True:=eq_true (Iu a b c)
theorem rL(i j:Int):eqD (.int i) (.int j)=decide (i=j):=rfl
theorem Ao(i j:Bool):eqD (.bl i) (.bl j)=decide (i=j):=by unfold eqD;rw[Qm,Qm];cases i<;>cases j<;>rfl
theorem HI(t:Bool)(xs:yas)(R:yas->Prop):(∃t' ds,D.lst t xs=.lst t' ds/\R ds)=R xs:=by
 apply propext;constructor
 ·rintro⟨_,_,e,q⟩;cases e;exact q
 ·intro q;exact⟨t,xs,rfl,q⟩
theorem EE(ds:yas)(r:Ro)(R:yas->Prop):(∃T8,(some (Sl.own ds)::r)[0]?=some (some (Sl.own T8))/\R T8)=R ds:=by
 apply propext;constructor
 ·rintro⟨_,e,q⟩;have e':some (some (Sl.own ds))=some (some (Sl.own _)):=e;cases e';exact q
 ·intro q;exact⟨ds,rfl,q⟩
theorem EF(n:Nat)(x:Option Sl)(r:Ro)(R:yas->Prop):(∃T8,(x::r)[n+1]?=some (some (Sl.own T8))/\R T8)=(∃T8,r[n]?=some (some (Sl.own T8))/\R T8):=rfl
theorem Hw(d:D)(r:Ro):aU (some (.val d)::r) 0=some (.val d):=rfl
theorem Hy(r:Ro):aU (none::r) 0=none:=rfl
theorem Hx(n:Nat)(x:Option Sl)(r:Ro):aU (x::r) (n+1)=aU r n:=rfl
def sg(n:Int):Int:=if 0<n then 1 else if n<0 then -1 else 0
def rk(a0 a1 a2 b0 b1 b2:Int):Int:=if sg (a1*b0 - b1*a0)=0 then sg (a2*b0 - b2*a0)else sg (a1*b0 - b1*a0)
structure Pl(n:Nat)(a b c:Int):Prop where
 pos:0<a
 low:PM.g3 a b c=1
 b0:Bd n a
 b1:Bd n b
 b2:Bd n c
structure LB(d:D)(b x y:Int):Prop where
 ex:∃p q r,d=T3 p q r/\Bd 4000 p/\Bd 4000 q/\Bd 4000 r/\0<p/\p*x=b*q/\p*y=b*r/\PM.g3 p q r=1
end PD
namespace PZ
open PySem PySem.Spec PyProof.Rows
def Ux:Bool->Heap->Addr->Addr->Nat->Prop
 |true,h,it,a,i=>h.IsListIter it a i
 |false,h,it,a,i=>h.IsTupleIter it a i
def UK:Bool->Heap->Addr->yao->Prop
 |true,h,a,xs=>h.IsList a xs
 |false,h,a,xs=>h.IsTuple a xs
def gX:Bool->String
 |true => "list_iterator"
 |false => "tuple_iterator"
section
variable{k:Bool}{h h':Heap}{it a b:Addr}{i:Nat}{xs:yao}
theorem Ux.of(x:Ux k h it a i)(e:∀o,h.get? it=some o->h'.get? it=some o):Ux k h' it a i:=by
 cases k with
 |true=>obtain⟨o,ho,r⟩:=x;exact⟨o,e o ho,r⟩
 |false=>obtain⟨o,ho,r⟩:=x;exact⟨o,e o ho,r⟩
theorem UK.of(x:UK k h a xs)(e:∀o,h.get? a=some o->h'.get? a=some o):UK k h' a xs:=by
 cases k with
 |true=>obtain⟨o,ho,r⟩:=x;exact⟨o,e o ho,r⟩
 |false=>obtain⟨o,ho,r⟩:=x;exact⟨o,e o ho,r⟩
theorem Ux.obj(x:Ux k h it a i):∃o,h.get? it=some o/\o.cls=.type (gX k)/\o.data=.fields #[.ref a,.int i 0]:=by
 cases k with
 |true=>exact x
 |false=>exact x
end
section
variable{prog:Program}{w:World}{A:Around}{E:yaa}{s:Shared}{k:Bool}{it a:Addr}{i:Nat}{xs:yao}
theorem y7{x:Value}{Q:yaa}(hi:Ux k s.heap it a i)(hs:UK k s.heap a xs)(hx:xs[i]?=some x)(hQ:∀h',Ux k h' it a (i+1)->Heap.SameBut it s.heap h'->Q x {s with heap:=h'}) :
  wpAny (model prog w) A (Builtin.SmallTypes.nextOf (.ref it)) Q E s:=by
 cases k with
 |true=>exact wpAny_nextOf_list_item hi hs hx hQ
 |false =>
  obtain⟨o,ho,hc,hd⟩:=id hi;obtain⟨oq,hq,_,nq,hdq⟩:=hs;unfold Builtin.SmallTypes.nextOf;refine L3 (zBd (name:=Str.ofString "__next__") (zBc hi) F.slot_tuple_iterator_next (wpAny_call_entry F.slot_tuple_iterator_next (zBc hi) F.entry_tuple_iterator_next ?_ (F.args_tuple_iterator_next_1 _)));show wpAny _ _ (field (.ref it) 0 >>= _) _ _ s;refine L3 (Tg ho hd (x:=.ref a) rfl ?_);show wpAny _ _ (if(Value.ref a==Value.none)=true then _ else _) _ _ s;rw[LO (show¬((Value.ref a==Value.none)=true)from S6)];show wpAny _ _ (field (.ref it) 1 >>= _) _ _ s;refine L3 (Tg ho hd (x:=.int i 0) rfl ?_);show wpAny _ _ (seqItems? (.ref a) >>= _) _ _ s;refine L3 (X3 hq hdq ?_);simp only[ZU,hx];refine L3 (Yq ho hd (by simp) (OQ ⟨x,rfl,OQ (hQ _ ⟨_,XZ _ ho (Obj.isFreed_of_fields (Obj.data_mapFields hd _)),(Obj.cls_mapFields ..).trans hc,by rw[Obj.data_mapFields hd];simp[rawInt]⟩ (Heap.SameBut.update ..))⟩))
theorem DQ{Q:yaa}(hh:A.handled=none)(hi:Ux k s.heap it a i)(hs:UK k s.heap a xs)(hx:xs[i]?=none)
  (hE:∀h' e,Heap.ExtBut it s.heap h'->(∃o,h'.get? e=some o/\o.cls=.type "StopIteration")->E (.ref e) {s with heap:=h'}):wpAny (model prog w) A (Builtin.SmallTypes.nextOf (.ref it)) Q E s:=by
 cases k with
 |true=>exact wpAny_nextOf_list_end hh hi hs hx hE
 |false =>
  obtain⟨o,ho,hc,hd⟩:=id hi;obtain⟨oq,hq,_,nq,hdq⟩:=hs;unfold Builtin.SmallTypes.nextOf;refine L3 (zBd (name:=Str.ofString "__next__") (zBc hi) F.slot_tuple_iterator_next (wpAny_call_entry F.slot_tuple_iterator_next (zBc hi) F.entry_tuple_iterator_next ?_ (F.args_tuple_iterator_next_1 _)));show wpAny _ _ (field (.ref it) 0 >>= _) _ _ s;refine L3 (Tg ho hd (x:=.ref a) rfl ?_);show wpAny _ _ (if(Value.ref a==Value.none)=true then _ else _) _ _ s;rw[LO (show¬((Value.ref a==Value.none)=true)from S6)];show wpAny _ _ (field (.ref it) 1 >>= _) _ _ s;refine L3 (Tg ho hd (x:=.int i 0) rfl ?_);show wpAny _ _ (seqItems? (.ref a) >>= _) _ _ s;refine L3 (X3 hq hdq ?_);simp only[ZU,hx];refine L3 (wpAny_rule (L3 (Yq ho hd (by simp) ?_)));show wpAny _ _ (newExc (.type "StopIteration") [] >>= _) _ _ _;refine L3 ?_;simp only[newExc,newTuple];refine L3 (ZW ?_ (by size_fits));refine L3 (m:=firstArgMember _ _) (wpAny_of_eq (a:=Value.none) (by simp only[firstArgMember];rfl) ?_);refine ZW ?_ (by size_fits);simp only[raiseNew];refine L3 (wpAny_handled ?_);first|rw[show A.in1.handled=none from hh]|rw[hh]
  exact L3 (OQ (wpAny_throw (hE _ _ (((Heap.SameBut.update ..).extBut.push _).push _) ⟨_,Rm _ rfl,rfl⟩)))
end
structure Ap(z TI TO i1 i2:Addr):Prop where
 a1:TI≠z
 a2:TO≠z
 a3:i1≠z
 a4:i2≠z
 a5:TI≠TO
 a6:TI≠i1
 a7:TI≠i2
 a8:TO≠i1
 a9:TO≠i2
 b1:i1≠i2
structure Out(z TO i1 i2 l:Addr):Prop where
 c1:l≠z
 c2:l≠TO
 c3:l≠i1
 c4:l≠i2
structure ZSt(k1 k2:Bool)(z TI TO i1 i2 l1 l2:Addr)(i:Nat)(h:Heap):Prop where
 z:IsZip h z TI TO .none
 ti:IsPair h TI (.ref i1) (.ref i2)
 to:∃a b,IsPair h TO a b
 s1:Ux k1 h i1 l1 i
 s2:Ux k2 h i2 l2 i
section
variable{prog:Program}{w:World}{A:Around}{E:yaa}{s:Shared}{k1 k2:Bool}{z TI TO i1 i2 l1 l2:Addr}{i:Nat}{xs ys:yao}
theorem KD{x y:Value}{Q:yan->Shared->Prop}(D:Ap z TI TO i1 i2)(D1:Out z TO i1 i2 l1)(D2:Out z TO i1 i2 l2)(Z:ZSt k1 k2 z TI TO i1 i2 l1 l2 i s.heap)(q1:UK k1 s.heap l1 xs)(q2:UK k2 s.heap l2 ys)(hx:xs[i]?=some x)(hy:ys[i]?=some y)
  (hQ:∀h',IsZip h' z TI TO (rawInt s.heap.objs.size)->IsPair h' TI (.ref i1) (.ref i2)->IsPair h' TO x y->Ux k1 h' i1 l1 (i+1)->Ux k2 h' i2 l2 (i+1)->IsPair h' s.heap.objs.size x y →
   (∀c o,c≠z->c≠TO->c≠i1->c≠i2->s.heap.get? c=some o->h'.get? c=some o)->Q (some (.ref s.heap.objs.size)) {s with heap:=h'}):wpAny (model prog w) A (pyNext (.ref z)) Q E s:=by
 obtain⟨hz,Xe,⟨a,b,XB⟩,h1,h2⟩:=Z;have hT:s.TypeIs (.ref z) "zip" := ⟨_,hz,rfl⟩;unfold pyNext;refine L3 (wpAny_attempt (zBd (name:=Str.ofString "__next__") hT F.slot_zip_next (wpAny_call_entry F.slot_zip_next hT F.entry_zip_next ?_ (F.args_zip_next_1 _))));show wpAny _ _ (field (.ref z) 2 >>= _) _ _ _;refine L3 (Tg hz rfl (x:=.bool false) rfl ?_);show wpAny _ _ (field (.ref z) 3 >>= _) _ _ _;refine L3 (Tg hz rfl (x:=.ref TI) rfl (L3 (X3 Xe rfl ?_)));show wpAny _ _ (Builtin.SmallTypes.ownedTupleIsFree (.ref z) >>= _) _ _ _;refine L3 ?_;unfold Builtin.SmallTypes.ownedTupleIsFree;refine L3 (Tg hz rfl (x:=.none) rfl (OQ ?_));simp only[if_true];refine L3 (wpAny_rule (L3 (Tg hz rfl (x:=.ref TO) rfl ?_)));refine L3 (Zp hz (by simp) fun g1 (z1:IsZip g1 z TI TO .ellipsis) b1=>L3 ?_);simp only[List.zipIdx_cons,List.zipIdx_nil,List.forIn_cons,List.forIn_nil];have T9:∀c o,c≠z->s.heap.get? c=some o->g1.get? c=some o:=fun c o n e=>b1.extBut c o n e
 refine L3 (L3 (wpAny_onRaise ?_));show wpAny _ _ (Builtin.SmallTypes.nextOf (.ref i1) >>= _) _ _ _;refine L3 (y7 (s:={s with heap:=g1}) (h1.of fun o e=>T9 _ o D.a3 e) (q1.of fun o e=>T9 _ o D1.c1 e) hx fun g2 n2 b2=>OQ ?_);have t2:IsPair g2 TO a b:=b2.extBut _ _ D.a8 (T9 _ _ D.a2 XB);refine L3 (X3 t2 rfl (L3 (wpAny_updateSeq_pair t2 fun g3 (t3:IsPair g3 TO x b) b3=>L3 (wpAny_letGo (OQ ?_)))));have k3:∀c o,c≠z->c≠TO->c≠i1->s.heap.get? c=some o->g3.get? c=some o:=fun c o n1 n2 n3 e=>b3.extBut c o n2 (b2.extBut c o n3 (T9 c o n1 e))
 refine L3 (L3 (wpAny_onRaise ?_));show wpAny _ _ (Builtin.SmallTypes.nextOf (.ref i2) >>= _) _ _ _;refine L3 (y7 (s:={s with heap:=g3}) (h2.of fun o e=>k3 _ o D.a4 (Ne.symm D.a9) (Ne.symm D.b1) e) (q2.of fun o e=>k3 _ o D2.c1 D2.c2 D2.c3 e) hy fun g4 n4 b4=>OQ ?_);have t4:IsPair g4 TO x b:=b4.extBut _ _ D.a9 t3;refine L3 (X3 t4 rfl (L3 (wpAny_updateSeq_pair t4 fun g5 (t5:IsPair g5 TO x y) b5=>L3 (wpAny_letGo (OQ (OQ ?_))))));refine L3 (X3 t5 rfl (L3 (wpAny_newTuple ?_)));have sz:g5.objs.size=s.heap.objs.size:=by rw[b5.1,b4.1,b3.1,b2.1,b1.1]
 have k5:∀c o,c≠z->c≠TO->c≠i1->c≠i2->s.heap.get? c=some o->g5.get? c=some o:=fun c o n1 n2 n3 n4 e=>b5.extBut c o n2 (b4.extBut c o n4 (k3 c o n1 n2 n3 e))
 have z5:IsZip g5 z TI TO .ellipsis:=b5.extBut _ _ (Ne.symm D.a2) (b4.extBut _ _ (Ne.symm D.a4) (b3.extBut _ _ (Ne.symm D.a2) (b2.extBut _ _ (Ne.symm D.a3) z1)));have s15:Ux k1 g5 i1 l1 (i+1):=n2.of fun o e=>b5.extBut _ o (Ne.symm D.a8) (b4.extBut _ o D.b1 (b3.extBut _ o (Ne.symm D.a8) e))
 have s25:Ux k2 g5 i2 l2 (i+1):=n4.of fun o e=>b5.extBut _ o (Ne.symm D.a9) e
 have zl:z<g5.objs.size:=O8 z5;show wpAny _ _ (Builtin.SmallTypes.ownedTupleHandOut (.ref z) (.ref g5.objs.size) >>= _) _ _ _;refine L3 ?_;unfold Builtin.SmallTypes.ownedTupleHandOut;have z6:IsZip (g5.push {cls:=.type "tuple", data:=.seq #[x,y]}) z TI TO .ellipsis:=P7 _ z5;refine L3 (Zp z6 (by simp) fun g7 (z7:IsZip g7 z TI TO (rawInt g5.objs.size)) b7=>Zp z7 (by simp) fun g8 (z8:IsZip g8 z TI TO (rawInt g5.objs.size)) b8=>OQ ?_);have up:∀c o,c≠z->g5.get? c=some o->g8.get? c=some o:=fun c o n e=>b8.extBut c o n (b7.extBut c o n (P7 _ e))
 have p8:IsPair g8 g5.objs.size x y:=b8.extBut _ _ (Nat.ne_of_gt zl) (b7.extBut _ _ (Nat.ne_of_gt zl) (Rm _ rfl));refine⟨_,rfl,?_⟩;rw[sz]at z8 p8;refine OQ ?_;show Q (some (.ref g5.objs.size)) _;rw[sz];exact hQ g8 z8 (up _ _ D.a1 (k5 _ _ D.a1 D.a5 D.a6 D.a7 Xe)) (up _ _ D.a2 t5) (s15.of fun o e=>up _ o D.a3 e) (s25.of fun o e=>up _ o D.a4 e) p8 fun c o n1 n2 n3 n4 e=>up c o n1 (k5 c o n1 n2 n3 n4 e)
theorem KG{Q:yan->Shared->Prop}(hh:A.handled=none)(D:Ap z TI TO i1 i2)(D1:Out z TO i1 i2 l1)(D2:Out z TO i1 i2 l2)(Z:ZSt k1 k2 z TI TO i1 i2 l1 l2 i s.heap)(q1:UK k1 s.heap l1 xs)(q2:UK k2 s.heap l2 ys)(Y1:xs[i]?=none∨ys[i]?=none)
  (hQ:∀h',(∀c o,c≠z->c≠TO->c≠i1->c≠i2->s.heap.get? c=some o->h'.get? c=some o)->Q none {s with heap:=h'}):wpAny (model prog w) A (pyNext (.ref z)) Q E s:=by
 obtain⟨hz,Xe,⟨a,b,XB⟩,h1,h2⟩:=Z;have hT:s.TypeIs (.ref z) "zip" := ⟨_,hz,rfl⟩;unfold pyNext;refine L3 (wpAny_attempt (zBd (name:=Str.ofString "__next__") hT F.slot_zip_next (wpAny_call_entry F.slot_zip_next hT F.entry_zip_next ?_ (F.args_zip_next_1 _))));show wpAny _ _ (field (.ref z) 2 >>= _) _ _ _;refine L3 (Tg hz rfl (x:=.bool false) rfl ?_);show wpAny _ _ (field (.ref z) 3 >>= _) _ _ _;refine L3 (Tg hz rfl (x:=.ref TI) rfl (L3 (X3 Xe rfl ?_)));show wpAny _ _ (Builtin.SmallTypes.ownedTupleIsFree (.ref z) >>= _) _ _ _;refine L3 ?_;unfold Builtin.SmallTypes.ownedTupleIsFree;refine L3 (Tg hz rfl (x:=.none) rfl (OQ ?_));simp only[if_true];refine L3 (wpAny_rule (L3 (Tg hz rfl (x:=.ref TO) rfl ?_)));refine L3 (Zp hz (by simp) fun g1 (z1:IsZip g1 z TI TO .ellipsis) b1=>L3 ?_);simp only[List.zipIdx_cons,List.zipIdx_nil,List.forIn_cons,List.forIn_nil];have T9:∀c o,c≠z->s.heap.get? c=some o->g1.get? c=some o:=fun c o n e=>b1.extBut c o n e
 refine L3 (L3 (wpAny_onRaise ?_));show wpAny _ _ (Builtin.SmallTypes.nextOf (.ref i1) >>= _) _ _ _;cases hx:xs[i]? with
 |none =>
  refine L3 (DQ (s:={s with heap:=g1}) hh (h1.of fun o e=>T9 _ o D.a3 e) (q1.of fun o e=>T9 _ o D1.c1 e) hx fun g2 e b2 he=>?_);obtain⟨oe,ho,hc⟩:=he;have z2:IsZip g2 z TI TO .ellipsis:=b2 _ _ (Ne.symm D.a3) z1;have nz:e≠z:=fun q=>by subst q;rw[z2]at ho;cases ho;simp at hc
  refine Zp z2 (by simp) fun g3 _ b3=>L3 (wpAny_isInstance (T := "StopIteration") (b:=true) ⟨oe,b3.extBut _ _ nz ho,hc⟩ isSubtype_stop ?_)
  exact OQ (hQ g3 fun c o n1 _ n3 _ q=>b3.extBut c o n1 (b2 c o n3 (T9 c o n1 q)))
 |some x =>
  have hy:ys[i]?=none:=by
   rcases Y1 with q|q
   ·rw[hx]at q;cases q
   ·exact q
  refine L3 (y7 (s:={s with heap:=g1}) (h1.of fun o e=>T9 _ o D.a3 e) (q1.of fun o e=>T9 _ o D1.c1 e) hx fun g2 n2 b2=>OQ ?_);have t2:IsPair g2 TO a b:=b2.extBut _ _ D.a8 (T9 _ _ D.a2 XB);refine L3 (X3 t2 rfl (L3 (wpAny_updateSeq_pair t2 fun g3 t3 b3=>L3 (wpAny_letGo (OQ ?_)))));have k3:∀c o,c≠z->c≠TO->c≠i1->s.heap.get? c=some o->g3.get? c=some o:=fun c o n1 n2 n3 e=>b3.extBut c o n2 (b2.extBut c o n3 (T9 c o n1 e))
  refine L3 (L3 (wpAny_onRaise ?_));show wpAny _ _ (Builtin.SmallTypes.nextOf (.ref i2) >>= _) _ _ _;refine L3 (DQ (s:={s with heap:=g3}) hh (h2.of fun o e=>k3 _ o D.a4 (Ne.symm D.a9) (Ne.symm D.b1) e) (q2.of fun o e=>k3 _ o D2.c1 D2.c2 D2.c3 e) hy fun g4 e b4 he=>?_);obtain⟨oe,ho,hc⟩:=he;have z4:IsZip g4 z TI TO .ellipsis:=b4 _ _ (Ne.symm D.a4) (b3.extBut _ _ (Ne.symm D.a2) (b2.extBut _ _ (Ne.symm D.a3) z1));have nz:e≠z:=fun q=>by subst q;rw[z4]at ho;cases ho;simp at hc
  refine Zp z4 (by simp) fun g5 _ b5=>L3 (wpAny_isInstance (T := "StopIteration") (b:=true) ⟨oe,b5.extBut _ _ nz ho,hc⟩ isSubtype_stop ?_)
  exact OQ (hQ g5 fun c o n1 n2 n3 n4 q=>b5.extBut c o n1 (b4 c o n4 (k3 c o n1 n2 n3 q)))
theorem DK{k:Bool}{a:Addr}{Q:yaa}(q:UK k s.heap a xs)(hQ:Q (.ref s.heap.objs.size) {s with heap:=s.heap.push {cls:=.type (gX k),data:=.fields #[.ref a,.int 0 0]} }):wpAny (model prog w) A (pyIter (.ref a)) Q E s:=by
 cases k with
 |true=>exact wpAny_pyIter_list q hQ
 |false=>exact wpAny_pyIter_tuple q hQ
end
abbrev zp1(k1:Bool)(h:Heap)(l1:Addr):Heap:=h.push {cls:=.type (gX k1),data:=.fields #[.ref l1,.int 0 0]}
abbrev zp2(k1 k2:Bool)(h:Heap)(l1 l2:Addr):Heap:=(zp1 k1 h l1).push {cls:=.type (gX k2),data:=.fields #[.ref l2,.int 0 0]}
abbrev zp3 (k1 k2:Bool) (h:Heap) (l1 l2:Addr):Heap:=(zp2 k1 k2 h l1 l2).push {cls:=.type "tuple", data:=.seq #[.ref h.objs.size,.ref (zp1 k1 h l1).objs.size]}
abbrev zp4 (k1 k2:Bool) (h:Heap) (l1 l2:Addr):Heap:=(zp3 k1 k2 h l1 l2).push {cls:=.type "tuple", data:=.seq #[.none,.none]}
abbrev Y2 (k1 k2:Bool) (h:Heap) (l1 l2:Addr):Heap:=(zp4 k1 k2 h l1 l2).push {cls:=.type "zip", data:=.fields #[.none,.bool false,.bool false,.ref (zp2 k1 k2 h l1 l2).objs.size,.ref (zp3 k1 k2 h l1 l2).objs.size]}
theorem Lz (k1 k2:Bool) (l1 l2:Addr) (xs ys:yao):Meets (Builtin.«zip.__new__» ⟨[.type "zip", .ref l1,.ref l2],[]⟩) (fun _ R s=>UK k1 s.heap l1 xs/\UK k2 s.heap l2 ys/\R (.ok (.ret (.ref (zp4 k1 k2 s.heap l1 l2).objs.size))) {s with heap:=Y2 k1 k2 s.heap l1 l2}) :=
 .of_wp fun prog w A R s h=>by
  obtain⟨hp,g,d,tk,os⟩:=s;obtain⟨q1,q2,h⟩:=h;have hsub:=sub_zip;have p1:UK k1 (Shared.heap ⟨hp,g,d,tk,os⟩) l1 xs:=q1;have p2:UK k2 (Shared.heap ⟨hp.push {cls:=.type (gX k1),data:=.fields #[.ref l1,.int 0 0]},g,d,tk,os⟩) l2 ys:=q2.of fun o e=>P7 _ e
  wp_walk using DK p1,DK p2
  exact⟨_,rfl,h⟩
section
variable{prog:Program}{w:World}{A:Around}{E:yaa}{s:Shared}{k1 k2:Bool}{l1 l2:Addr}{xs ys:yao}
theorem KC{Q:yaa}(q1:UK k1 s.heap l1 xs)(q2:UK k2 s.heap l2 ys)
  (hQ:∀h',ZSt k1 k2 (s.heap.objs.size+4) (s.heap.objs.size+2) (s.heap.objs.size+3) s.heap.objs.size (s.heap.objs.size+1) l1 l2 0 h'->(∀c o,s.heap.get? c=some o->h'.get? c=some o)->Q (.ref (s.heap.objs.size+4)) {s with heap:=h'}) :
  wpAny (model prog w) A (call (.type "zip") [.ref l1,.ref l2]) Q E s:=by
 refine callType_new F.called_zip (by decide) (F.typeCall_zip_2 _ _) (F.newCall_zip_2 _ _) (fun obj=>F.args_object_init_3 obj _ _) F.entry_zip_new (Lz k1 k2 l1 l2 xs ys) ⟨q1,q2,?_⟩;have n1:(zp1 k1 s.heap l1).objs.size=s.heap.objs.size+1:=X2 ..;have n2:(zp2 k1 k2 s.heap l1 l2).objs.size=s.heap.objs.size+2:=by rw[X2,n1]
 have n3:(zp3 k1 k2 s.heap l1 l2).objs.size=s.heap.objs.size+3:=by rw[X2,n2]
 have n4:(zp4 k1 k2 s.heap l1 l2).objs.size=s.heap.objs.size+4:=by rw[X2,n3]
 have up5:∀c o,(zp4 k1 k2 s.heap l1 l2).get? c=some o->(Y2 k1 k2 s.heap l1 l2).get? c=some o:=fun c o e=>P7 _ e
 have up4:∀c o,(zp3 k1 k2 s.heap l1 l2).get? c=some o->(Y2 k1 k2 s.heap l1 l2).get? c=some o:=fun c o e=>up5 c o (P7 _ e)
 have up3:∀c o,(zp2 k1 k2 s.heap l1 l2).get? c=some o->(Y2 k1 k2 s.heap l1 l2).get? c=some o:=fun c o e=>up4 c o (P7 _ e)
 have up2:∀c o,(zp1 k1 s.heap l1).get? c=some o->(Y2 k1 k2 s.heap l1 l2).get? c=some o:=fun c o e=>up3 c o (P7 _ e)
 have g5:(Y2 k1 k2 s.heap l1 l2).get? (zp4 k1 k2 s.heap l1 l2).objs.size=some _:=Rm _ rfl;have g4:=up5 _ _ (Rm (zp3 k1 k2 s.heap l1 l2) (o:={cls:=.type "tuple", data:=.seq #[.none,.none]}) rfl);have g3:=up4 _ _ (Rm (zp2 k1 k2 s.heap l1 l2) (o:={cls:=.type "tuple", data:=.seq #[.ref s.heap.objs.size,.ref (zp1 k1 s.heap l1).objs.size]}) rfl);have g2:=up3 _ _ (Rm (zp1 k1 s.heap l1) (o:={cls:=.type (gX k2),data:=.fields #[.ref l2,.int 0 0]}) rfl);have g1:=up2 _ _ (Rm s.heap (o:={cls:=.type (gX k1),data:=.fields #[.ref l1,.int 0 0]}) rfl);have hQ':=hQ (Y2 k1 k2 s.heap l1 l2);rw[n2,n3,n4]at g5;rw[n3]at g4;rw[n1,n2]at g3;rw[n1]at g2;have sit:∀{k:Bool} {h:Heap} {it a:Addr},h.get? it=some {cls:=.type (gX k),data:=.fields #[.ref a,.int 0 0]}->Ux k h it a 0:=fun {k h it a} e=>by
  cases k with
  |true=>exact⟨_,e,rfl,rfl⟩
  |false=>exact⟨_,e,rfl,rfl⟩
 show _/\_;rw[n4];exact⟨⟨_,g5,rfl⟩,hQ' ⟨g5,g3,⟨_,_,g4⟩,sit g1,sit g2⟩ fun c o e=>up2 c o (P7 _ e)⟩
end
end PZ
namespace PD
open PySem PySem.Spec PyProof.Rows L2 PZ
def Ub(K:yac):Bool->Hp->Addr->yar->Prop
 |true=>SqL K
 |false=>L2.OM K
section
variable{X:Cx}{pins:yab}{σ:St}{H:Hp}{s:Shared}{k:Bool}{a:Addr}{xs:yar}
theorem Ub.list(I:Inv X pins σ H s)(h:Ub X.K k H a xs):∃its:yad,Vals xs its/\UK k s.heap a its.toArray:=by
 cases k with
 |true =>
  obtain⟨its,r,p,_⟩:=I.list h;exact⟨its,r,p.isList⟩
 |false =>
  obtain⟨its,r,p,_⟩:=I.tuple h;exact⟨its,r,p⟩
theorem Ub.inj(I:Inv X pins σ H s){ys:yar}(h:Ub X.K k H a xs)(h':Ub X.K k H a ys):xs=ys:=by
 cases k with
 |true=>exact I.UA h h'
 |false=>exact I.TC h h'
theorem Ub.ne(I:Inv X pins σ H s){b:Addr}(f:cy X pins H b)(h:Ub X.K k H a xs):a≠b:=fun e=>by
 subst e;obtain⟨f0,f1,f2,f3,f4,f5⟩:=f;have kn:∀o,X.K.lookup a=some o->False:=fun o q=>by
  have hb:=I.ok.mod.Uz a o q;rcases f3 with z|z
  ·exact I.ok.TQ a o hb z
  ·exact absurd (RX (O8 (I.ok.bs a o hb).1) z) (VD _)
 cases k with
 |true =>
  rcases h with(h|⟨o,h⟩)|⟨o,its,n,h,_⟩
  ·rw[f0]at h;cases h
  ·rw[f0]at h;cases h
  ·exact kn o h
 |false =>
  rcases h with(h|⟨o,h⟩)|⟨o,its,n,h,_⟩
  ·rw[f0]at h;cases h
  ·rw[f0]at h;cases h
  ·exact kn o h
end
def Itz(K:yac)(k1 k2:Bool)(a b:Addr):It :=
 ⟨fun i H=>∃xs ys x y,Ub K k1 H a xs/\Ub K k2 H b ys/\xs[i]?=some x/\ys[i]?=some y,
  fun i H v H'=>∃T x y,v=.ref T/\H T=none/\H'=L2.upd H T (.tup [x,y])/\(∀xs,Ub K k1 H a xs->xs[i]?=some x)/\∀ys,Ub K k2 H b ys->ys[i]?=some y,
  fun i H=>∃xs ys,Ub K k1 H a xs/\Ub K k2 H b ys/\(xs[i]?=none∨ys[i]?=none)⟩
theorem Dd{P:Program}{w:World}{K:yac}{es:yai}{kt:Nat}{tp:Pos}(k1 k2:Bool)(a b z TI TO i1 i2:Addr)(D:Ap z TI TO i1 i2) :
  Turn P w K (.Tuple es kt tp) (Itz K k1 k2 a b) [z,TI,TO,i1,i2] z (fun i h=>ZSt k1 k2 z TI TO i1 i2 a b i h) where
 mem:=by simp
 obj:=fun i h st c hc=>by
  obtain⟨hz,Xe,⟨x,y,XB⟩,s1,s2⟩:=st;simp only[Rb,VZ,or_false]at hc;rcases hc with e|e|e|e|e<;>subst e
  ·exact⟨_,hz,fun v q=>by cases q⟩
  ·exact⟨_,Xe,fun v q=>by cases q⟩
  ·exact⟨_,XB,fun v q=>by cases q⟩
  ·obtain⟨o,q1,_,q2⟩:=s1.obj;exact⟨o,q1,fun v q=>by rw[q2]at q;cases q⟩
  ·obtain⟨o,q1,_,q2⟩:=s2.obj;exact⟨o,q1,fun v q=>by rw[q2]at q;cases q⟩
 keep:=fun i h h' st kp=>by obtain⟨hz,Xe,⟨x,y,XB⟩,s1,s2⟩:=st;exact⟨kp z (by simp) _ hz,kp TI (by simp) _ Xe,⟨x,y,kp TO (by simp) _ XB⟩,s1.of fun o e=>kp i1 (by simp) o e,s2.of fun o e=>kp i2 (by simp) o e⟩
 item:=by
  intro X hP hw hK hc i pins s σ H E I hf st hg;subst hP hw hK;obtain⟨xs,ys,x,y,q1,q2,hx,hy⟩:=hg;obtain⟨us,r1,p1⟩:=q1.list I;obtain⟨ws,r2,p2⟩:=q2.list I;obtain⟨u,hu,ru⟩:=r1.get hx;obtain⟨v,hv,rv⟩:=r2.get hy;have out:∀{k:Bool} {l:Addr} {zs:yar},Ub X.K k H l zs->Out z TO i1 i2 l:=fun q=>⟨q.ne I (hf z (by simp)),q.ne I (hf TO (by simp)),q.ne I (hf i1 (by simp)),q.ne I (hf i2 (by simp))⟩
  refine KD D (out q1) (out q2) st p1 p2 (x:=u) (y:=v) (by simpa using hu) (by simpa using hv) fun h' z1 ti to s1 s2 pr kp=>⟨_,rfl,wpAny_letOwnedTupleGo_zip z1 fun Xc z2 sb=>?_⟩
  have sz:s.heap.objs.size<=s.heap.objs.size:=O2 _;have nz:s.heap.objs.size≠z:=Nat.ne_of_gt (O8 st.z);have nT:H s.heap.objs.size=none:=I.Nw.fresh sz;have WH:∀c o,c ∉ [z,TI,TO,i1,i2]->s.heap.get? c=some o->Xc.get? c=some o:=fun c o n e=>by simp only[Rb,VZ,or_false,not_or]at n;exact sb.extBut c o n.1 (kp c o n.1 n.2.2.1 n.2.2.2.1 n.2.2.2.2 e)
  have TV:ZSt k1 k2 z TI TO i1 i2 a b (i+1) Xc:=⟨z2,sb.extBut _ _ D.a1 ti,⟨_,_,sb.extBut _ _ D.a2 to⟩,s1.of fun o e=>sb.extBut _ o D.a3 e,s2.of fun o e=>sb.extBut _ o D.a4 e⟩;have pr2:IsPair Xc s.heap.objs.size u v:=sb.extBut _ _ nz pr;have lo:∀c ∈ [z,TI,TO,i1,i2],c≠s.heap.objs.size:=fun c hc e=>by
   have QJ:c<s.heap.objs.size:=by
    obtain⟨hz,Xe,⟨x',y',XB⟩,t1,t2⟩:=st;simp only[Rb,VZ,or_false]at hc;rcases hc with q|q|q|q|q<;>subst q
    ·exact O8 hz
    ·exact O8 Xe
    ·exact O8 XB
    ·obtain⟨o,q1,_⟩:=t1.obj;exact O8 q1
    ·obtain⟨o,q1,_⟩:=t2.obj;exact O8 q1
   rw[e]at QJ;exact VD _ QJ
  refine⟨.ref s.heap.objs.size,L2.upd H s.heap.objs.size (.tup [x,y]),?_,rfl,⟨_,x,y,rfl,nT,rfl,fun xs' q=>by rw[q.inj I q1];exact hx,fun ys' q=>by rw[q.inj I q2];exact hy⟩,TV,fun c hc=>by rw[aq (lo c hc)];exact(hf c hc).1⟩;have Wm:∀c o,H c=some o->c ∉ [z,TI,TO,i1,i2]:=fun c o e hc=>by have:=(hf c hc).1;rw[e]at this;cases this
  refine L2.Inv.step (s:=s) (h':=Xc) (g':=s.gens) (d':=s.drawn) (t':=s.toks) (ch:=[z,TI,TO,i1,i2]) I (fun c hc=>?_) (fun c o _ _ n e _=>WH c o n e) (fun c o _ _ n e _=>⟨o.slots,WH c o n e⟩) (fun c o _ e n=>by rw[aq (Sn (O8 e))];exact n) (fun c o n e=>⟨o,WH c o n e⟩)
   (fun c ls e=>by rw[aq (aY e nT)];exact e) (fun c o ls e=>by rw[aq (aY e nT)];exact e) (fun c ps e=>⟨#[],by rw[aq (aY e nT),e];simp⟩) (fun m hm=>?_) (fun c o e=>?_) I.bare
  ·obtain⟨f0,f1,f2,f3,f4,f5⟩:=hf c hc;exact⟨f3,f1,f4,f5⟩
  ·obtain⟨o,Yu,ep,ho,r⟩:=hm;exact⟨o,Yu,ep,WH _ o (fun q=>(hf _ q).2.1 rfl) ho,r⟩
  ·by_cases hcT:c=s.heap.objs.size
   ·subst hcT;rw[ax]at e;cases e;exact⟨by rw[TM];show 2<=16777216;decide,[u,v],.cons ru (.cons rv .nil),⟨_,pr2,rfl,_,rfl⟩⟩
   ·rw[aq hcT]at e;refine(I.Nw c o e).Th (fun d' o' hd q=>WH d' o' ?_ q) (fun d' q=>by rw[aq (aY q nT)];exact q) fun d' ls q=>by rw[aq (aY q nT)];exact q
    rcases hd with q'|q'
    ·rw[q'];exact Wm c o e
    ·exact Wm d' _ q'
 done:=by
  intro X hP hw hK hc i pins s σ H E I hf st hg;subst hP hw hK;obtain⟨xs,ys,q1,q2,Y1⟩:=hg;obtain⟨us,r1,p1⟩:=q1.list I;obtain⟨ws,r2,p2⟩:=q2.list I;have out:∀{k:Bool} {l:Addr} {zs:yar},Ub X.K k H l zs->Out z TO i1 i2 l:=fun q=>⟨q.ne I (hf z (by simp)),q.ne I (hf TO (by simp)),q.ne I (hf i1 (by simp)),q.ne I (hf i2 (by simp))⟩
  refine KG (I.ok.hd hc) D (out q1) (out q2) st p1 p2 (Y1.imp (fun q=>by simpa using r1.none_of q) fun q=>by simpa using r2.none_of q) fun h' kp=>⟨rfl,?_⟩
  have WH:∀c o,c ∉ [z,TI,TO,i1,i2]->s.heap.get? c=some o->h'.get? c=some o:=fun c o n e=>by simp only[Rb,VZ,or_false,not_or]at n;exact kp c o n.1 n.2.2.1 n.2.2.2.1 n.2.2.2.2 e
  have Wm:∀c o,H c=some o->c ∉ [z,TI,TO,i1,i2]:=fun c o e hc=>by have:=(hf c hc).1;rw[e]at this;cases this
  refine L2.Inv.step (s:=s) (h':=h') (g':=s.gens) (d':=s.drawn) (t':=s.toks) (ch:=[z,TI,TO,i1,i2]) I (fun c hc=>?_) (fun c o _ _ n e _=>WH c o n e) (fun c o _ _ n e _=>⟨o.slots,WH c o n e⟩) (fun _ _ _ _ n=>n) (fun c o n e=>⟨o,WH c o n e⟩) (fun _ _ e=>e) (fun _ _ _ e=>e) (fun c ps e=>⟨#[],by rw[e];simp⟩) (fun m hm=>?_) (fun c o e=>?_) I.bare
  ·obtain⟨f0,f1,f2,f3,f4,f5⟩:=hf c hc;exact⟨f3,f1,f4,f5⟩
  ·obtain⟨o,Yu,ep,ho,r⟩:=hm;exact⟨o,Yu,ep,WH _ o (fun q=>(hf _ q).2.1 rfl) ho,r⟩
  ·refine(I.Nw c o e).Th (fun d' o' hd q=>WH d' o' ?_ q) (fun _ q=>q) fun _ _ q=>q
   rcases hd with q'|q'
   ·rw[q'];exact Wm c o e
   ·exact Wm d' _ q'
 self:=fun _ _ _ _ _ st h=>wpAny_pyIter_zip st.z h
def cC:D->Option (Bool×yas)
 |.lst _ ds=>some (true,ds)
 |.tup ds=>some (false,ds)
 |_=>none
section
variable{X:Cx}
theorem Den.seq{P:yak}{H:Hp}{d:D}{v:V}{k:Bool}{ds:yas}(h:Den X.K P H d v)(e:cC d=some (k,ds)):∃a vs,v=.ref a/\Ub X.K k H a vs/\af X.K P H ds vs ∧
  ∀ (P':yak) (H':Hp),(∀a vs,OM X.K H a vs->OM X.K H' a vs)->(∀t a vs,¬P t a->QK X.K H t a vs->¬P' t a/\QK X.K H' t a vs)->Ub X.K k H' a vs:=by
 cases d with
 |lst t es =>
  cases e;obtain⟨a,vs,e1,p,q,hd⟩:=h.UC;exact⟨a,vs,e1,q.1,hd,fun P' H' _ hL=>(hL t a vs p q).2.1⟩
 |tup es =>
  cases e;obtain⟨a,vs,e1,q,hd⟩:=h.Sq;exact⟨a,vs,e1,q.w,hd,fun P' H' hT _=>(hT a vs q).w⟩
 |Nx=>cases e
 |bl _=>cases e
 |int _=>cases e
 |str _=>cases e
 |exc _=>cases e
 |obj _ _ _=>cases e
 |Sy=>cases e
 |Si _ _=>cases e
def K1(ta:DA):DA:=fun ρ R=>ta ρ fun ds=>∃d1 d2 k1 k2 xs ys,ds=[d1,d2]/\cC d1=some (k1,xs)/\cC d2=some (k2,ys)/\R (List.zipWith (fun x y=>D.tup [x,y]) xs ys)
end
open PySem PySem.Spec PyProof.Rows L2
inductive FDP (X:Cx) (pins:yab) (σ:St) (W:Own) (H:Hp) (Q:yas->Prop) (u:Value) (s':Shared):Prop
 |mk (a:Addr) (vs:yar) (H':Hp) (ds:yas) (_:u=.ref a) (_:Inv X pins σ H' s') (_:ai H H') (_:H a=none) (_:X.K.lookup a=none) (_:H' a=some (.lst vs)) (_:af X.K (fun t b=>W.bad t b∨b=a) H' ds vs) (_:Q ds)
def U1(X:Cx)(e:Expr)(t:DA):Prop :=
 ∀ (pins:yab) (s:Shared) (σ:St) (H:Hp) (W:Own) (ρ:Ro) (Q:yas->Prop),Inv X pins σ H s->Rel X W H σ ρ->t ρ Q →
  wpAny (model X.prog X.w) X.A (eval e X.env) (FDP X pins σ W H Q) X.xe s
def GO(t:DA):DE:=fun ρ Q=>t ρ fun ds=>Q (.lst true ds)
section
variable{X:Cx}{e:Expr}{t:DA}{pos:Pos}
theorem U1.Yd(h:U1 X e t):Mv X e (GO t):=by
 intro pins s σ H W ρ Q I r hw;refine LS (h pins s σ H W ρ _ I r hw) fun u s1 ⟨a,vs,H',ds,e,I1,sm,n,k,ha,hd,q⟩=>?_
 subst e;exact⟨.ref a,H',_,I1,rfl,sm,Den.lst (r.fresh n) (.new ha k) (hd.MG fun _ _ z=>.inl z),q⟩
theorem Inv.kno{pins:yab}{σ:St}{H:Hp}{s:Shared}{a:Addr}{o:HO}(I:Inv X pins σ H s)(h:H a=some o):X.K.lookup a=none:=by
 cases e:X.K.lookup a with
 |none=>rfl
 |some ob =>
  have:=(I.bs a ob (I.ok.mod.Uz a ob e)).2;rw[h]at this;cases this
def DD(i:Nat)(t:DA):DS:=fun E ρ=>t ρ fun ds=>E.nx (ρ.set i (some (.own ds)))
theorem Ew{x:Str}{pos':Pos}(i:Nat)(hN:X.N.Nodup)(he:U1 X e t)(hi:X.N[i]?=some x:=by rfl)(hx:Loc X.env.scope x:=by first|exact Or.inl rfl|exact Or.inr rfl)(hs:swapsWith e (some (.Name x pos')) pos.line X.env=pure false:=by rfl)
  (hf:X.fn x=true∨X.env.scope.names.lookup x=some .local:=by first|exact .inl rfl|exact .inr rfl|assumption):Q9 X (.Assign [.Name x pos'] e pos) (DD i t):=by
 intro pins s σ H W ρ E I r h;refine wpAny_Assign_Name (LS (he pins s σ H W ρ _ I r h) fun u s1 ⟨a,vs,H1,ds,e1,I1,sm,n,k,ha,hd,q1⟩=>?_) hs;subst e1;obtain⟨r',f'⟩:=r.Vz (Inv.V9 I1 hi) sm n k ha hd;exact dS (v:=.ref a) I1 hN hi hx rfl (fun s2 I2=>⟨_,_,H1,I2,f',_,r',q1⟩) hf
end
mutual
def pE:D->Bool
 |.tup ds=>eX ds
 |.obj _ _ ds=>eX ds
 |.Si _ ds=>eX ds
 |.lst _ _=>false
 |_=>true
def eX:yas->Bool
 |[]=>true
 |d::ds=>pE d && eX ds
end
mutual
def hZ:D->Bool
 |.tup ds=>iF ds
 |.obj _ _ ds=>iF ds
 |.Si _ ds=>iF ds
 |.lst t ds=>t && iF ds
 |_=>true
def iF:yas->Bool
 |[]=>true
 |d::ds=>hZ d && iF ds
end
section
variable{K:yac}{P P':yak}{H:Hp}
mutual
theorem Den.Ye:∀(d:D) (v:V),pE d=true->Den K P H d v->Den K P' H d v
 |.Nx,_,_,h=>by simpa only[Den]using h
 |.bl _,_,_,h=>by simpa only[Den]using h
 |.int _,_,_,h=>by simpa only[Den]using h
 |.str _,_,_,h=>by simpa only[Den]using h
 |.exc _,_,_,h=>by simpa only[Den]using h
 |.obj C ns ds,_,n,h=>by rw[pE]at n;simp only[Den]at h ⊢;obtain⟨a,dx,vs,e,q,l,k,r⟩:=h;exact⟨a,dx,vs,e,q,l,k,af.Ye ds vs n r⟩
 |.Sy,_,_,h=>by simpa only[Den]using h
 |.Si ks ds,_,n,h=>by rw[pE]at n;simp only[Den]at h ⊢;obtain⟨a,o,Sf,vs,e,q,l,k,r⟩:=h;exact⟨a,o,Sf,vs,e,q,l,k,af.Ye ds vs n r⟩
 |.lst _ _,_,n,_=>by rw[pE]at n;cases n
 |.tup ds,_,n,h=>by rw[pE]at n;simp only[Den]at h ⊢;obtain⟨a,vs,e,q,r⟩:=h;exact⟨a,vs,e,q,af.Ye ds vs n r⟩
theorem af.Ye:∀(ds:yas) (vs:yar),eX ds=true->af K P H ds vs->af K P' H ds vs
 |[],_,_,h=>by simpa only[af]using h
 |d::ds,_,n,h=>by rw[eX,S7]at n;simp only[af]at h ⊢;obtain⟨v,r,e,h1,h2⟩:=h;exact⟨v,r,e,Den.Ye d v n.1 h1,af.Ye ds r n.2 h2⟩
end
mutual
theorem Den.UL(k:∀a,P' true a->P true a):∀(d:D) (v:V),hZ d=true->Den K P H d v->Den K P' H d v
 |.Nx,_,_,h=>by simpa only[Den]using h
 |.bl _,_,_,h=>by simpa only[Den]using h
 |.int _,_,_,h=>by simpa only[Den]using h
 |.str _,_,_,h=>by simpa only[Den]using h
 |.exc _,_,_,h=>by simpa only[Den]using h
 |.obj C ns ds,_,n,h=>by rw[hZ]at n;simp only[Den]at h ⊢;obtain⟨a,dx,vs,e,q,l,kk,r⟩:=h;exact⟨a,dx,vs,e,q,l,kk,af.UL k ds vs n r⟩
 |.Sy,_,_,h=>by simpa only[Den]using h
 |.Si ks ds,_,n,h=>by rw[hZ]at n;simp only[Den]at h ⊢;obtain⟨a,o,Sf,vs,e,q,l,kk,r⟩:=h;exact⟨a,o,Sf,vs,e,q,l,kk,af.UL k ds vs n r⟩
 |.lst t ds,_,n,h=>by rw[hZ,S7]at n;obtain⟨n1,n2⟩:=n;subst n1;simp only[Den]at h ⊢;obtain⟨a,vs,e,p,q,r⟩:=h;exact⟨a,vs,e,fun z=>p (k a z),q,af.UL k ds vs n2 r⟩
 |.tup ds,_,n,h=>by rw[hZ]at n;simp only[Den]at h ⊢;obtain⟨a,vs,e,q,r⟩:=h;exact⟨a,vs,e,q,af.UL k ds vs n r⟩
theorem af.UL(k:∀a,P' true a->P true a):∀(ds:yas) (vs:yar),iF ds=true->af K P H ds vs->af K P' H ds vs
 |[],_,_,h=>by simpa only[af]using h
 |d::ds,_,n,h=>by rw[iF,S7]at n;simp only[af]at h ⊢;obtain⟨v,r,e,h1,h2⟩:=h;exact⟨v,r,e,Den.UL k d v n.1 h1,af.UL k ds r n.2 h2⟩
end
end
def Own.soft(W:Own)(i:Nat)(a:Addr):Own:=⟨W.B,fun j=>if j=i then none else W.O j,fun b=>W.S b∨b=a⟩
section
variable{X:Cx}
theorem Rel.soft{W:Own}{H:Hp}{σ:St}{ρ:Ro}{i:Nat}{ds:yas}(r:Rel X W H σ ρ)(e:ρ[i]?=some (some (.own ds))):∃a,W.O i=some a/\Rel X (W.soft i a) H σ (ρ.set i (some (.val (.lst false ds))))/\∀b,W.bad true b->(W.soft i a).bad true b:=by
 obtain⟨a,vs,oa,sa,ha,O6⟩:=r.YC i ds e;have Xd:i<ρ.length:=(U3.mp e).1;have hO:∀j b,(W.soft i a).O j=some b->j≠i/\W.O j=some b:=fun j b h=>by
  have h1:(if j=i then none else W.O j)=some b:=h;by_cases z:j=i
  ·rw[LX z]at h1;cases h1
  ·rw[LO z]at h1;exact⟨z,h1⟩
 have low:∀t b,(W.soft i a).bad t b->W.bad t b:=fun t b z=>by
  rcases z with z|⟨j,z⟩| ⟨z1,z2⟩
  ·exact .inl z
  ·exact .inr (.inl ⟨j,(hO j b z).2⟩)
  ·rcases z2 with z2|z2
   ·exact .inr (.inr ⟨z1,z2⟩)
   ·subst z2;exact .inr (.inl ⟨i,oa⟩)
 have nb:¬(W.soft i a).bad false a:=fun z=>by
  rcases z with z|⟨j,z⟩| ⟨z1,_⟩
  ·exact(r.kn i a oa).2.1.1 z
  ·exact(hO j a z).1 (r.inj j i a (hO j a z).2 oa)
  ·cases z1
 refine⟨a,oa,⟨fun j d h=>?_,fun j x h=>?_,fun j k b h1 h2=>r.inj j k b (hO j b h1).2 (hO k b h2).2,fun j b h=>?_,fun j b h=>r.ke j b (hO j b h).2,r.bt,fun b h=>?_,r.ent,r.tab⟩,fun b z=>?_⟩
 ·by_cases hj:j=i
  ·subst hj;rw[WY Xd]at h;cases h;exact⟨.ref a,sa,Den.lst nb (.any (SqL.of ha)) (O6.MG low)⟩
  ·rw[Tx (Ne.symm hj)]at h;obtain⟨w,h1,h2⟩:=r.val j d h;exact⟨w,h1,h2.MG low⟩
 ·by_cases hj:j=i
  ·subst hj;rw[WY Xd]at h;cases h
  ·rw[Tx (Ne.symm hj)]at h;obtain⟨b,ws,h1,h2,h3,h4⟩:=r.own j x h;exact⟨b,ws,by show(if j=i then none else W.O j)=_;rw[LO hj];exact h1,h2,h3,h4.MG low fun k c q=>(by show(if YB σ.length j k=i then none else W.O (YB σ.length j k))=_;rw[LO (rz (U3.mp sa).1)];exact q)⟩
 ·obtain⟨k1,⟨k2,k3⟩,k4⟩:=r.kn j b (hO j b h).2;refine⟨k1,⟨k2,fun z=>z.elim k3 fun z=>?_⟩,k4⟩;subst z;exact(hO j b h).1 (r.inj j i b (hO j b h).2 oa)
 ·rcases h with h|h
  ·exact r.st b h
  ·subst h;exact⟨_,ha⟩
 ·rcases z with z|⟨j,z⟩| ⟨_,z⟩
  ·exact .inl z
  ·by_cases hj:j=i
   ·subst hj;rw[oa]at z;cases z;exact .inr (.inr ⟨rfl,.inr rfl⟩)
   ·exact .inr (.inl ⟨j,by show(if j=i then none else W.O j)=_;rw[LO hj];exact z⟩)
  ·exact .inr (.inr ⟨rfl,.inl z⟩)
variable{e:Expr}{te:DE}{tt:DT}{ta:DA}
def JL(i:Nat)(t:DE):DE:=fun ρ Q=>jh ρ[i]? fun ds=>t (ρ.set i (some (.val (.lst false ds)))) fun d=>hZ d=true/\Q d
def G5(i:Nat)(t:DT):DT:=fun ρ Q=>jh ρ[i]? fun ds=>t (ρ.set i (some (.val (.lst false ds)))) Q
def zZ(i:Nat)(t:DA):DA:=fun ρ Q=>jh ρ[i]? fun ds=>t (ρ.set i (some (.val (.lst false ds)))) fun ys=>iF ys=true/\Q ys
theorem Eu(i:Nat)(h:U1 X e ta):U1 X e (zZ i ta):=by intro pins s σ H W ρ Q I r hw;obtain⟨ds,eo,hw⟩:=sh hw;obtain⟨a,oa,r',up⟩:=r.soft eo;exact LS (h pins s σ H _ _ _ I r' hw) fun u s1 ⟨b,vs,H',ys,e1,I1,sm,n,k,hb,hd,al,q⟩=>⟨b,vs,H',ys,e1,I1,sm,n,k,hb,af.UL (fun c z=>z.elim (fun z=>.inl (up c z)) .inr) ys vs al hd,q⟩
end
section
variable{X:Cx}{pos:Pos}
theorem af.take{K:yac}{P:yak}{H:Hp}:∀{ds:yas} {vs:yar} (n:Nat),af K P H ds vs->af K P H (ds.take n) (vs.take n)
 |_,_,0,_=>by simp only[List.take_zero];exact af.nil
 |[],_,_+1,h=>by simp only[af]at h;subst h;exact af.nil
 |x::r,_,n+1,h=>by simp only[af]at h;obtain⟨u,w,rfl,h1,h2⟩:=h;exact af.cons h1 (af.take n h2)
theorem af.drop{K:yac}{P:yak}{H:Hp}:∀{ds:yas} {vs:yar} (n:Nat),af K P H ds vs->af K P H (ds.drop n) (vs.drop n)
 |_,_,0,h=>by simpa only[List.drop_zero]using h
 |[],_,_+1,h=>by simp only[af]at h;subst h;exact af.nil
 |x::r,_,n+1,h=>by simp only[af]at h;obtain⟨u,w,rfl,h1,h2⟩:=h;exact af.drop n h2
def GW(i:Nat)(tk te:DE):DS:=fun E ρ=>∃ds,ρ[i]?=some (some (.own ds))/\te ρ fun d=>tk ρ fun k=>∃n j,k=.int n/\ixN ds.length n=some j/\E.nx (ρ.set i (some (.own (ds.set j d))))
def JG(i:Nat)(C:yas->Prop)(f:yas->yas):DS:=fun E ρ=>jh ρ[i]? fun ds=>C ds/\E.nx (ρ.set i (some (.own (f ds))))
variable{e:Expr}{te:DE}{p:Pos}
def JK(te:DE):DA:=fun ρ Q=>te ρ fun d=>∃k ds,cC d=some (k,ds)/\Q ds
theorem vB{K:yac}{P:yak}{H:Hp}{d:D}{v:V}{k:Bool}{ds:yas}(h:Den K P H d v)(e:cC d=some (k,ds)):∃a vs,v=.ref a/\(SqL K H a vs∨OM K H a vs)/\af K P H ds vs:=by
 cases d with
 |lst t es =>
  cases e;obtain⟨a,vs,e1,p,q,hd⟩:=h.Rg;exact⟨a,vs,e1,.inl q,hd⟩
 |tup es =>
  cases e;obtain⟨a,vs,e1,q,hd⟩:=h.Sq;exact⟨a,vs,e1,.inr q,hd⟩
 |Nx=>cases e
 |bl _=>cases e
 |int _=>cases e
 |str _=>cases e
 |exc _=>cases e
 |obj _ _ _=>cases e
 |Sy=>cases e
 |Si _ _=>cases e
theorem BX:cn X (.type "tuple") (fun ds Q=>∃d k xs,ds=[d]/\cC d=some (k,xs)/\Q (.tup xs)):=cn.of uh fun P H ds vs Q tr hd ⟨d,k,xs,e,es,q⟩=>by
 subst e;obtain⟨v,rfl,h1⟩:=eW hd;obtain⟨a,ws,ev,hq,hw⟩:=vB h1 es;subst ev;refine⟨a,ws,rfl,?_⟩;rcases hq with hq|hq
 ·exact .inl ⟨hq,fun l hl=>⟨ai.upd hl,_,Den.tup (OM.of ax) (hw.same (ai.upd hl)),q⟩⟩
 ·exact .inr ⟨hq.w,ai.refl H,_,Den.tup hq hw,q⟩
def cutD(xs:yas)(lo hi:yaq):yas:=(xs.drop (HT.Sg xs.length 0 lo)).take (HT.Sg xs.length xs.length hi - HT.Sg xs.length 0 lo)
theorem af.cut{K:yac}{P:yak}{H:Hp}{ds:yas}{vs:yar}(lo hi:yaq)(h:af K P H ds vs):af K P H (cutD ds lo hi) (ib vs lo hi):=by unfold cutD ib;rw[h.len];exact(h.drop _).take _
abbrev DO:=Ro->(yaq->Prop)->Prop
def Xf(X:Cx)(e:Option Expr)(t:DO):Prop :=
 ∀ (pins:yab) (s:Shared) (σ:St) (H:Hp) (W:Own) (ρ:Ro) (Q:yaq->Prop),Inv X pins σ H s->Rel X W H σ ρ->t ρ Q →
  wpAny (model X.prog X.w) X.A (evalPart e X.env) (fun u s'=>∃o H',Inv X pins σ H' s'/\IsPart u o/\ai H H'/\Q o) X.xe s
def iQ:DO:=fun _ Q=>Q none
def DF(te:DE):DO:=fun ρ Q=>te ρ fun d=>∃i,d=.int i/\Q (some i)
theorem cq:Xf X none iQ:=by intro pins s σ H W ρ Q I r h;rw[evalPart_none];exact OQ ⟨none,H,I,.none,ai.refl H,h⟩
theorem cu(he:Mv X e te):Xf X (some e) (DF te):=by
 intro pins s σ H W ρ Q I r h;rw[evalPart_some];refine LS (he pins s σ H W ρ _ I r h) fun u s1 ⟨v,H1,d,I1,rv,e1,hd,i,ed,q⟩=>?_
 subst ed;have z:=hd.O4;subst z;obtain⟨t,rfl⟩:=rv;exact⟨some i,H1,I1,.int i t,e1,q⟩
variable{lo hi st:Option Expr}{tl th ts:DO}{p2:Pos}
theorem wJ{Q:yaa}{pins:yab}{s:Shared}{σ:St}{H:Hp}{W:Own}{ρ:Ro}{R:D->yaq->yaq->yaq->Prop}(he:Mv X e te)(hl:Xf X lo tl)(hh:Xf X hi th)(ht:Xf X st ts)(I:Inv X pins σ H s)(r:Rel X W H σ ρ)
  (h:te ρ fun d=>tl ρ fun l=>th ρ fun u=>ts ρ fun k=>R d l u k)
  (hk:∀(v:V) (vv vl vu vk:Value) (l u k:yaq) (d:D) (sl:Addr) (H':Hp) (s':Shared),Inv X pins σ H' s'->ai H H'->RelV v vv->Den X.K W.bad H' d v->s'.heap.IsSliceOf sl vl vu vk->IsPart vl l->IsPart vu u->IsPart vk k->R d l u k →
   ∃ T id,typeLookup (.type T) "__getitem__" = pure (some (.builtin id))/\s'.TypeIs vv T/\wpAny (model X.prog X.w) X.A (getItem vv (.ref sl)) Q X.xe s')
  (htail:∀vv sl,∃ops,subscripted (.Slice lo hi st p2) false vv sl=operate ops (getItem vv sl)):wpAny (model X.prog X.w) X.A (eval (.Subscript e (.Slice lo hi st p2) pos) X.env) Q X.xe s:=by
 refine Subscript_ (LS (he pins s σ H W ρ _ I r h) fun vv s1 ⟨v,H1,d,I1,rv,e1,hd,q1⟩=>?_);have r1:=r.same e1;refine wpAny_Slice (LS (hl pins s1 σ H1 W ρ _ I1 r1 q1) fun vl s2 ⟨l,H2,I2,pl,e2,q2⟩=>LS (hh pins s2 σ H2 W ρ _ I2 (r1.same e2) q2) fun vu s3 ⟨u,H3,I3,pu,e3,q3⟩=>LS (ht pins s3 σ H3 W ρ _ I3 ((r1.same e2).same e3) q3) fun vk s4 ⟨k,H4,I4,pk,e4,q4⟩=>?_);have I5:Inv X pins σ H4 {s4 with heap:=s4.heap.push {cls:=.type "slice", data:=.fields #[vl,vu,vk]} }:=I4.kept (t':=s4.toks) fun b ob q=>P7 _ q
 obtain⟨T,id,hT,ht',hg⟩:=hk v vv vl vu vk l u k d s4.heap.objs.size H4 _ I5 (e1.trans (e2.trans (e3.trans e4))) rv (hd.same (e2.trans (e3.trans e4))) (Heap.IsSliceOf.new ..) pl pu pk q4;show wpAny (model X.prog X.w) X.A (subscriptTail e (.Slice lo hi st p2) vv (.ref s4.heap.objs.size)) Q X.xe _;obtain⟨ops,ho⟩:=htail vv (.ref s4.heap.objs.size);exact tail_any (ops:=ops) ht' hT hg ho
def GY(te:DE)(tl th:DO):DA:=fun ρ Q=>te ρ fun d=>tl ρ fun l=>th ρ fun u=>∃t ds,d=.lst t ds/\Q (cutD ds l u)
def KZ(te:DE)(tl th:DO):DE:=fun ρ Q=>te ρ fun d=>tl ρ fun l=>th ρ fun u=>∃ds,d=.tup ds/\¬(HT.Sg ds.length 0 l=0/\HT.Sg ds.length ds.length u=ds.length)/\Q (.tup (cutD ds l u))
theorem xo{pins:yab}{s:Shared}{σ:St}{H H':Hp}{W:Own}{v:V}{vv vl vu vk:Value}{l u k:yaq}{tg:Bool}{ds:yas}{sl:Addr}(f:yar->yar)(g:yas->yas)(I:Inv X pins σ H' s)(r:Rel X W H' σ ρ)(sm:ai H H')(rv:RelV v vv)(hd:Den X.K W.bad H' (.lst tg ds) v)(hs:s.heap.IsSliceOf sl vl vu vk)(pl:IsPart vl l)(pu:IsPart vu u)(pk:IsPart vk k)(k0:k≠some 0)
  (hp:∀its:yad,∃g':yad->yad,slicePick its.toArray l u k=(g' its).toArray/\∀vs,Vals vs its->Vals (f vs) (g' its)/\(f vs).length<=vs.length) (hg:∀vs,af X.K W.bad H' ds vs->af X.K W.bad H' (g ds) (f vs)) {Q:yas->Prop} (q:Q (g ds)) :
  ∃ T id,typeLookup (.type T) "__getitem__" = pure (some (.builtin id))/\s.TypeIs vv T/\wpAny (model X.prog X.w) X.A (getItem vv (.ref sl)) (FDP X pins σ W H Q) X.xe s:=by
 obtain⟨a,vs,ev,_,hq,O6⟩:=hd.Rg;subst ev;cases rv;obtain⟨its,rr,ht,hz⟩:=I.list hq;have hlen:=rr.length;refine⟨"list", _,slot_list_getitem.lookup,ht.isList.typeIs,?_⟩;refine wpAny_getItem_list_slice ht.isList hs pl pu pk k0 ?_ (by rw[Uo]<;>omega);obtain⟨g',e,hv⟩:=hp its;rw[e];obtain⟨rv',Xd⟩:=hv vs rr;have hf:H' s.heap.objs.size=none:=I.Nw.fresh (O2 _);refine⟨s.heap.objs.size,f vs,_,g ds,rfl,I.laid (t':=s.toks) (o:=.lst (f vs)) (fun b ob q=>P7 _ q) (O2 _) ⟨Sw Xd hz,_,0,rv',Rm _ rfl⟩,sm.trans (ai.upd hf),sm.free hf,Inv.Pq I,ax,af.apart hf (Inv.Pq I) (hg vs O6),q⟩
theorem dG(he:Mv X e te)(hl:Xf X lo tl)(hh:Xf X hi th):U1 X (.Subscript e (.Slice lo hi none p2) pos) (GY te tl th):=by
 intro pins s σ H W ρ Q I r h;refine wJ (st:=none) (ts:=iQ) (R:=fun d l u k=>k=none/\∃t ds,d=.lst t ds/\Q (cutD ds l u)) he hl hh cq I r ?_ ?_ (fun _ _=>⟨_,rfl⟩)
 ·have e1:(fun d=>tl ρ fun l=>th ρ fun u=>iQ ρ fun k=>k=none/\∃t ds,d=D.lst t ds/\Q (cutD ds l u))=fun d=>tl ρ fun l=>th ρ fun u=>∃t ds,d=D.lst t ds/\Q (cutD ds l u):=by
   funext d
   congr 1
   funext l
   congr 1
   funext u
   exact propext ⟨fun z=>z.2,fun z=>⟨rfl,z⟩⟩
  rw[e1];exact h
 ·intro v vv vl vu vk l u k d sl H' s' I' sm rv hd hs pl pu pk hR;obtain⟨ek,t,ds,ed,q⟩:=hR;subst ek ed;exact xo (fun vs=>ib vs l u) (fun ds=>cutD ds l u) I' (r.same sm) sm rv hd hs pl pu pk (by simp) (fun its=>⟨fun its=>(its.drop (HT.Sg its.length 0 l)).take (HT.Sg its.length its.length u - HT.Sg its.length 0 l),mr its l u,fun vs rr=>⟨by unfold ib;rw[rr.length];exact(rr.drop _).take _,oI vs l u⟩⟩) (fun vs O6=>O6.cut l u) q
def KY(te:DE):DA:=fun ρ Q=>te ρ fun d=>∃t ds,d=.lst t ds/\Q ds.reverse
end
section
variable{prog:Program}{w:World}{A:Around}{E:yaa}{s:Shared}{p q:Addr}{us ws:yad}{Q:yaa}
theorem Gb(hp:s.heap.IsList p us.toArray)(hq:s.heap.IsList q ws.toArray)(hz:us.length+ws.length<=sizeLine)
  (h:Q (.ref s.heap.objs.size) {s with heap:=s.heap.push {cls:=.type "list", data:=.seq (us++ws).toArray} }):wpAny (model prog w) A (binaryOp .Add (.ref p) (.ref q)) Q E s:=by
 obtain⟨⟨c1,k1,x1,y1⟩,g1,g2,n1,g3⟩:=id hp;obtain⟨⟨c2,k2,x2,y2⟩,f1,f2,n2,f3⟩:=id hq;simp only at g2 g3 f2 f3;subst g2 g3 f2 f3;refine concat_meets ⟨_,g1,rfl⟩ ⟨_,f1,rfl⟩ noFill_list_add seq_list_add PySem.F.slot_list_add PySem.F.entry_list_add (PySem.F.args_list_add_2 _ _) (list_addW p q us.toArray ws.toArray n1 n2 k1 k2 y1 y2 (by simpa using hz)) ⟨g1,f1,?_⟩;rw[show us.toArray++ws.toArray=(us++ws).toArray by simp];exact h
theorem KL(hp:IsTup s.heap p us.toArray)(hq:IsTup s.heap q ws.toArray)(hz:us.length+ws.length<=sizeLine)(h0:us=[]->Q (.ref q) s)(h1:ws=[]->Q (.ref p) s)
  (h:Q (.ref s.heap.objs.size) {s with heap:=s.heap.push {cls:=.type "tuple", data:=.seq (us++ws).toArray} }):wpAny (model prog w) A (binaryOp .Add (.ref p) (.ref q)) Q E s:=by
 obtain⟨⟨c1,k1,x1,y1⟩,g1,g2,n1,g3⟩:=id hp;obtain⟨⟨c2,k2,x2,y2⟩,f1,f2,n2,f3⟩:=id hq;simp only at g2 g3 f2 f3;subst g2 g3 f2 f3;by_cases hv:us=[]
 ·exact concat_meets ⟨_,g1,rfl⟩ ⟨_,f1,rfl⟩ noFill_tuple_add seq_tuple_add PySem.F.slot_tuple_add PySem.F.entry_tuple_add (PySem.F.args_tuple_add_2 _ _) (tuple_addW0 p q us.toArray ws.toArray n1 n2 k1 k2 y1 y2 (by simp[hv])) ⟨g1,f1,h0 hv⟩
 ·by_cases hw:ws=[]
  ·exact concat_meets ⟨_,g1,rfl⟩ ⟨_,f1,rfl⟩ noFill_tuple_add seq_tuple_add PySem.F.slot_tuple_add PySem.F.entry_tuple_add (PySem.F.args_tuple_add_2 _ _) (tuple_addW1 p q us.toArray ws.toArray n1 n2 k1 k2 y1 y2 (by simpa using hv) (by simp[hw])) ⟨g1,f1,h1 hw⟩
  ·refine concat_meets ⟨_,g1,rfl⟩ ⟨_,f1,rfl⟩ noFill_tuple_add seq_tuple_add PySem.F.slot_tuple_add PySem.F.entry_tuple_add (PySem.F.args_tuple_add_2 _ _) (tuple_addW2 p q us.toArray ws.toArray n1 n2 k1 k2 y1 y2 (by simpa using hv) (by simpa using hw) (by simpa using hz)) ⟨g1,f1,?_⟩;rw[show us.toArray++ws.toArray=(us++ws).toArray by simp];exact h
end
section
variable{X:Cx}{pos:Pos}
def uQ:RD2:=fun x y Q=>match x,y with
 |.int i,.int j=>Q (.int (i+j))
 |.tup xs,.tup ys=>xs.length+ys.length<=sizeLine/\Q (.tup (xs++ys))
 |.lst _ xs,.lst _ ys=>xs.length+ys.length<=sizeLine/\Q (.lst true (xs++ys))
 |_,_=>False
theorem Gd(i j:Int)(Q:D->Prop):uQ (.int i) (.int j) Q=Q (.int (i+j)):=rfl
theorem Gf(xs ys:yas)(Q:D->Prop):uQ (.tup xs) (.tup ys) Q=(xs.length+ys.length<=sizeLine/\Q (.tup (xs++ys))):=rfl
theorem Ge(t u:Bool)(xs ys:yas)(Q:D->Prop):uQ (.lst t xs) (.lst u ys) Q=(xs.length+ys.length<=sizeLine/\Q (.lst true (xs++ys))):=rfl
theorem EZ{W:Own}{H:Hp}{t:Bool}{a:Addr}(tr:∀t a,W.bad t a->∃o,H a=some o)(h:H a=none):¬W.bad t a:=fun z=>by obtain⟨o,q⟩:=tr _ _ z;rw[h]at q;cases q
theorem bh:PK X (binaryOp .Add) uQ:=by
 intro pins s σ H W x y v u vv uu Q I tr rv ru hx hy q;cases x<;>cases y<;>first|exact q.elim|skip
 ·exact Ip pins s σ H W _ _ v u vv uu Q I tr rv ru hx hy q
 ·rename_i xs ys;obtain⟨p,vs,e1,hq1,UX⟩:=hx.Sq;obtain⟨p',vs',e2,hq2,hd2⟩:=hy.Sq;subst e1 e2;cases rv;cases ru;obtain⟨its,r1,t1,_⟩:=I.tuple hq1.w;obtain⟨its',r2,t2,_⟩:=I.tuple hq2.w;obtain⟨hz,q⟩:=q;have l1:=UX.len;have l2:=hd2.len;have m1:=r1.length;have m2:=r2.length;have XC:its.length+its'.length<=sizeLine:=by omega
  have hf:H s.heap.objs.size=none:=I.Nw.fresh (O2 _);refine KL t1 t2 XC (fun e=>?_) (fun e=>?_) ?_
  ·subst e;have:vs=[]:=XX (by simpa using m1);subst this;have:xs=[]:=XX (by simpa using l1.symm);subst this;exact⟨.ref p',H,_,I,rfl,ai.refl H,hy,q⟩
  ·subst e;have:vs'=[]:=XX (by simpa using m2);subst this;have:ys=[]:=XX (by simpa using l2.symm);subst this;rw[V0]at q;exact⟨.ref p,H,_,I,rfl,ai.refl H,hx,q⟩
  ·exact⟨.ref s.heap.objs.size,L2.upd H s.heap.objs.size (.tup (vs++vs')),_,I.laid (t':=s.toks) (fun b u e=>P7 _ e) (O2 _) ⟨by rw[Q7];omega,its++its',r1.append r2,⟨_,Rm _ rfl,rfl,_,rfl⟩⟩,rfl,ai.upd hf,Den.tup (OM.of ax) ((UX.append hd2).same (ai.upd hf)),q⟩
 ·obtain⟨p,vs,e1,_,hq1,UX⟩:=hx.Rg;obtain⟨p',vs',e2,_,hq2,hd2⟩:=hy.Rg;subst e1 e2;cases rv;cases ru;obtain⟨its,r1,t1,_⟩:=I.list hq1;obtain⟨its',r2,t2,_⟩:=I.list hq2;obtain⟨hz,q⟩:=q;have l1:=UX.len;have l2:=hd2.len;have m1:=r1.length;have m2:=r2.length;have hf:H s.heap.objs.size=none:=I.Nw.fresh (O2 _);refine Gb t1.isList t2.isList (by omega) ?_;exact⟨.ref s.heap.objs.size,L2.upd H s.heap.objs.size (.lst (vs++vs')),_,I.laid (t':=s.toks) (fun b u e=>P7 _ e) (O2 _) ⟨by rw[Q7];omega,its++its',0,r1.append r2,Rm _ rfl⟩,rfl,ai.upd hf,Den.lst (EZ tr hf) (.new ax (Inv.Pq I)) ((UX.append hd2).same (ai.upd hf)),q⟩
def GH(ta tb:DE):DA:=fun ρ Q=>ta ρ fun x=>tb ρ fun y=>∃t xs t' ys,x=.lst t xs/\y=.lst t' ys/\xs.length+ys.length<=sizeLine/\Q (xs++ys)
theorem Hd{a b:Expr}{ta tb:DE}(ha:Mv X a ta)(hb:Mv X b tb):U1 X (.BinOp a .Add b pos) (GH ta tb):=by intro pins s σ H W ρ Q I rr h;refine wpAny_BinOp (qf ha hb I rr h fun vv uu s2 v u x y H2 I2 e rv ru hx hy q=>?_);obtain⟨t,xs,t',ys,ex,ey,hz,q⟩:=q;subst ex ey;obtain⟨p,vs,e1,_,hq1,UX⟩:=hx.Rg;obtain⟨p',vs',e2,_,hq2,hd2⟩:=hy.Rg;subst e1 e2;cases rv;cases ru;obtain⟨its,r1,t1,_⟩:=I2.list hq1;obtain⟨its',r2,t2,_⟩:=I2.list hq2;have l1:=UX.len;have l2:=hd2.len;have m1:=r1.length;have m2:=r2.length;have hf:H2 s2.heap.objs.size=none:=I2.Nw.fresh (O2 _);refine Gb t1.isList t2.isList (by omega) ?_;exact⟨s2.heap.objs.size,vs++vs',_,xs++ys,rfl,I2.laid (t':=s2.toks) (o:=.lst (vs++vs')) (fun b u e=>P7 _ e) (O2 _) ⟨by rw[Q7];omega,its++its',0,r1.append r2,Rm _ rfl⟩,e.trans (ai.upd hf),e.free hf,Inv.Pq I2,ax,af.apart hf (Inv.Pq I2) (UX.append hd2),q⟩
def okI(x:D):Prop:=okD x/\(Qm x).depth<64
def IW:RD2:=fun x y Q=>okI x/\okD y/\∃ys,(y=.tup ys∨∃ t,y=.lst t ys)/\Q (.bl (ys.any fun z=>eqD z x))
theorem HD(x:D)(t:Bool)(ys:yas)(Q:D->Prop):IW x (.lst t ys) Q=(okI x/\okD (.lst t ys)/\Q (.bl (ys.any fun z=>eqD z x))):=by
 apply propext;constructor
 ·rintro⟨h1,h2,zs,e,q⟩;rcases e with e|⟨_,e⟩
  ·cases e
  ·cases e;exact⟨h1,h2,q⟩
 ·rintro⟨h1,h2,q⟩;exact⟨h1,h2,ys,.inr ⟨t,rfl⟩,q⟩
theorem HE(x:D)(ys:yas)(Q:D->Prop):IW x (.tup ys) Q=(okI x/\okD (.tup ys)/\Q (.bl (ys.any fun z=>eqD z x))):=by
 apply propext;constructor
 ·rintro⟨h1,h2,zs,e,q⟩;rcases e with e|⟨_,e⟩
  ·cases e;exact⟨h1,h2,q⟩
  ·cases e
 ·rintro⟨h1,h2,q⟩;exact⟨h1,h2,ys,.inl rfl,q⟩
theorem E7(i:Int):okI (.int i)=True:=eq_true ⟨yq i,by rw[Qm,PyData.depth];decide⟩
theorem E8:okI .Nx=True:=eq_true ⟨yr,by rw[Qm,PyData.depth];decide⟩
end
def PKD(X:Cx)(Sf:List Keyword)(t:DA):Prop :=
 ∀ (pos:Pos) (pins:yab) (s:Shared) (σ:St) (H:Hp) (W:Own) (ρ:Ro) (Q:yas->Prop),Inv X pins σ H s->Rel X W H σ ρ->t ρ Q →
  wpAny (model X.prog X.w) X.A (evalAll ((backToKw pos (keywordEach Sf X.env)).map (·.2))) (DAP X pins σ W H Q) X.xe s
section
variable{X:Cx}{k:Nat}{ps:yah}{kn:Str}{sp:DSp}{x:Str}{p pos kpos:Pos}{e:Expr}{es:yai}{t tk:DA}{te:DE}{nm:Option Str}{Sf:List Keyword}
def GG(sp:DSp)(t tk:DA):DE:=fun ρ Q=>t ρ fun ds=>tk ρ fun es=>∃d,es=[d]/\sp (ay (ds++[d])) Q fun _=>False
theorem Hj(a:D)(R:D->Prop):(∃d,[a]=[d]/\R d)=R a:=by
 apply propext;constructor
 ·rintro⟨_,e,q⟩;cases e;exact q
 ·intro q;exact⟨a,rfl,q⟩
def GF(sp:DSp)(t:DA):DA:=fun ρ Q=>t ρ fun ds=>sp (ay ds) (fun d=>∃ys,d=.lst true ys/\eX ys=true/\Q ys) fun _=>False
end
def pC:Key->D
 |.inl i=>.int i
 |.inr x=>.str x
section
variable{κ:Type} [DecidableEq κ] {K:yac}{P:yak}{H:Hp}
def qC(kvs:List (κ×D))(k:κ):Option D:=(kvs.find? fun kv=>decide (kv.1=k)).map (·.2)
def putD(kvs:List (κ×D))(k:κ)(d:D):List (κ×D):=if(qC kvs k).isSome=true then kvs.map (fun kv=>if kv.1=k then(kv.1,d)else kv)else kvs++[(k,d)]
end
def PPD(X:Cx)(pos:Pos)(keys:List (Option Expr))(values:yai)(t:Ro->(List (D×D)->Prop)->Prop):Prop :=
 ∀ (pins:yab) (s:Shared) (σ:St) (H:Hp) (W:Own) (ρ:Ro) (Q:List (D×D)->Prop),Inv X pins σ H s->Rel X W H σ ρ->t ρ Q →
  wpAny (model X.prog X.w) X.A (evalPairs (pairTrees keys values X.env pos)) (fun vs s'=>∃ps H' ds,Inv X pins σ H' s'/\VV ps vs/\ai H H'/\af X.K W.bad H' (ds.map (·.1)) (ps.map (·.1))/\af X.K W.bad H' (ds.map (·.2)) (ps.map (·.2))/\Q ds) X.xe s
section
variable{X:Cx}{pos:Pos}
def JU:Ro->(List (D×D)->Prop)->Prop:=fun _ Q=>Q []
def Hf(tk tv:DE)(t:Ro->(List (D×D)->Prop)->Prop):Ro->(List (D×D)->Prop)->Prop:=fun ρ Q=>tk ρ fun k=>tv ρ fun v=>t ρ fun r=>Q ((k,v)::r)
def GR(i:Nat)(t:Ro->(List (D×D)->Prop)->Prop):DS:=fun E ρ=>t ρ fun ps=>∃kvs:List (Key×D),ps=kvs.map (fun kv=>(pC kv.1,kv.2))/\kvs.length<=15/\(kvs.map (·.1)).Nodup/\E.nx (ρ.set i (some (.ob (.dk kvs))))
def KS(i:Nat)(tb:DE):DE:=fun ρ Q=>∃kvs,ρ[i]?=some (some (.ob (.dk kvs)))/\tb ρ fun k=>∃key d,k=pC key/\qC kvs key=some d/\Q d
def JC(i:Nat)(tk te:DE):DS:=fun E ρ=>∃kvs,ρ[i]?=some (some (.ob (.dk kvs)))/\tk ρ fun k=>∃key n,k=pC key/\qC kvs key=some (.int n)/\te ρ fun d=>∃m,d=.int m/\kvs.length<sizeLine/\E.nx (ρ.set i (some (.ob (.dk (putD kvs key (.int (n+m)))))))
end
theorem Hq(kvs:List (Key×D))(r:Ro)(R:List (Key×D)->Prop):(∃ys,(some (Sl.ob (.dk kvs))::r)[0]?=some (some (Sl.ob (.dk ys)))/\R ys)=R kvs:=by
 apply propext;constructor
 ·rintro⟨_,e,q⟩;have e':some (some (Sl.ob (.dk kvs)))=some (some (Sl.ob (.dk _))):=e;cases e';exact q
 ·intro q;exact⟨kvs,rfl,q⟩
theorem Hr(n:Nat)(x:Option Sl)(r:Ro)(R:List (Key×D)->Prop):(∃ys,(x::r)[n+1]?=some (some (Sl.ob (.dk ys)))/\R ys)=(∃ys,r[n]?=some (some (Sl.ob (.dk ys)))/\R ys):=rfl
theorem FD(t:Bool)(xs:yas)(R:yas->Prop):(∃k ds,cC (.lst t xs)=some (k,ds)/\R ds)=R xs:=by
 apply propext;constructor
 ·rintro⟨_,_,e,q⟩;cases e;exact q
 ·intro q;exact⟨_,_,rfl,q⟩
theorem FE(xs:yas)(R:yas->Prop):(∃k ds,cC (.tup xs)=some (k,ds)/\R ds)=R xs:=by
 apply propext;constructor
 ·rintro⟨_,_,e,q⟩;cases e;exact q
 ·intro q;exact⟨_,_,rfl,q⟩
theorem nZ{a b:D}{k1 k2:Bool}{xs ys:yas}(h1:cC a=some (k1,xs))(h2:cC b=some (k2,ys))(R:yas->Prop):(∃d1 d2 k1 k2 us vs,[a,b]=[d1,d2]/\cC d1=some (k1,us)/\cC d2=some (k2,vs)/\R (List.zipWith (fun x y=>D.tup [x,y]) us vs))=R (List.zipWith (fun x y=>D.tup [x,y]) xs ys):=by
 apply propext;constructor
 ·rintro⟨_,_,_,_,_,_,e,e1,e2,q⟩;cases e;rw[h1]at e1;rw[h2]at e2;cases e1;cases e2;exact q
 ·intro q;exact⟨_,_,_,_,_,_,rfl,h1,h2,q⟩
theorem Jo(t u:Bool)(xs ys:yas)(R:yas->Prop):(∃d1 d2 k1 k2 us vs,[D.lst t xs,D.lst u ys]=[d1,d2]/\cC d1=some (k1,us)/\cC d2=some (k2,vs)/\R (List.zipWith (fun x y=>D.tup [x,y]) us vs))=R (List.zipWith (fun x y=>D.tup [x,y]) xs ys):=nZ rfl rfl R
theorem Jq(u:Bool)(xs ys:yas)(R:yas->Prop):(∃d1 d2 k1 k2 us vs,[D.tup xs,D.lst u ys]=[d1,d2]/\cC d1=some (k1,us)/\cC d2=some (k2,vs)/\R (List.zipWith (fun x y=>D.tup [x,y]) us vs))=R (List.zipWith (fun x y=>D.tup [x,y]) xs ys):=nZ rfl rfl R
theorem Jp(u:Bool)(xs ys:yas)(R:yas->Prop):(∃d1 d2 k1 k2 us vs,[D.lst u xs,D.tup ys]=[d1,d2]/\cC d1=some (k1,us)/\cC d2=some (k2,vs)/\R (List.zipWith (fun x y=>D.tup [x,y]) us vs))=R (List.zipWith (fun x y=>D.tup [x,y]) xs ys):=nZ rfl rfl R
theorem Jr(xs ys:yas)(R:yas->Prop):(∃d1 d2 k1 k2 us vs,[D.tup xs,D.tup ys]=[d1,d2]/\cC d1=some (k1,us)/\cC d2=some (k2,vs)/\R (List.zipWith (fun x y=>D.tup [x,y]) us vs))=R (List.zipWith (fun x y=>D.tup [x,y]) xs ys):=nZ rfl rfl R
theorem Ea(b:Bool):hZ (.bl b)=true:=rfl
theorem BM(b:Int):hZ (.int b)=true:=rfl
theorem BN:hZ .Nx=true:=rfl
theorem comp_map{α:Type}{wi:DA}{js:yag}{tc:DT}{te:DE}{ρ:Ro}{Q:D->Prop}(xs:List α)(f:α->D)(c:α->Bool)(g:α->D)(hw:∀R:yas->Prop,R (xs.map f)->wi ρ R)(hz:xs.length<=sizeLine)
  (hc:∀x∈xs,∀K:Bool->Prop,K (c x)->tc (some (.val (f x))::js.map (aU ρ)) K) (he:∀x∈xs,c x=true->∀K:D->Prop,K (g x)->te (some (.val (f x))::js.map (aU ρ)) K) (q:Q (.lst true ((xs.filter c).map g))):jR wi js tc te ρ Q:=by
 refine hw _ ⟨by rw[Ph];exact hz,fun j out=>out=((xs.take j).filter c).map g,by simp,fun j d out hd ho=>?_,fun out ho=>?_⟩
 ·rw[Td]at hd;cases ex:xs[j]? with
  |none=>rw[ex]at hd;cases hd
  |some x =>
   rw[ex]at hd;cases hd;have hm:x∈xs:=Xj ex;have ht:xs.take (j+1)=xs.take j++[x]:=by rw[Yp,ex];rfl
   refine hc x hm _ ?_;by_cases z:c x=true
   ·rw[LX z];refine he x hm z _ ?_;show _=List.map g (List.filter c (List.take (j+1) xs));rw[ht,ho,zBu,VC];simp[z]
   ·rw[LO z];show _=List.map g (List.filter c (List.take (j+1) xs));rw[ht,ho,zBu];simp[z]
 ·rw[Ph,Xi (O2 _)]at ho;rw[ho];exact q
structure Wb(n:Nat)(d:D):Prop where
 pl:Uu d=true
 lay:(Qm d).canLay0=true
 dp:(Qm d).depth<=n
structure iY(n:Nat)(ds:yas):Prop where
 pl:lN ds=true
 lay:PyData.canLayAll0 (c6 ds)=true
 dp:PyData.depthAll (c6 ds)<=n
theorem Wb.ok{n:Nat}{d:D}(h:Wb n d)(hn:n<=64:=by decide):okD d:=⟨h.pl,by unfold SeqAt.shaped;rw[h.lay,Tz (Sw h.dp hn)];rfl⟩
theorem Wb.int(n:Nat)(i:Int):Wb n (.int i):=⟨by rw[Uu]<;>(intros;contradiction),by rw[Qm,PyData.canLay0],by rw[Qm,PyData.depth];exact S9 _⟩
theorem iY.nil(n:Nat):iY n []:=⟨by rw[lN],by rw[c6,PyData.canLayAll0],by rw[c6,PyData.depthAll];exact S9 _⟩
theorem iY.cons{n:Nat}{d:D}{ds:yas}(h:Wb n d)(h':iY n ds):iY n (d::ds):=⟨by rw[lN,h.pl,h'.pl];rfl,by rw[c6,PyData.canLayAll0,h.lay,h'.lay];rfl,by rw[c6,PyData.depthAll];exact Nat.max_le.mpr ⟨h.dp,h'.dp⟩⟩
theorem iY.of{n:Nat}:∀{ds:yas},(∀d∈ds,Wb n d)->iY n ds
 |[],_=>.nil n
 |d::r,h=>.cons (h d Su) (iY.of fun x hx=>h x (SD _ hx))
theorem Wb.lst{n:Nat}{t:Bool}{ds:yas}(h:iY n ds):Wb (n+1) (.lst t ds):=⟨by rw[Uu];exact h.pl,by rw[Qm,PyData.canLay0];exact h.lay,by rw[Qm,PyData.depth];exact Nat.succ_le_succ h.dp⟩
def j7(xs ys:yas):Bool:=PyData.eqvAll (c6 xs) (c6 ys)
theorem ya(t u:Bool)(xs ys:yas):eqD (.lst t xs) (.lst u ys)=j7 xs ys:=by unfold eqD j7;rw[Qm,Qm,PyData.eqv]
theorem EB(xs ys:yas):eqD (.tup xs) (.tup ys)=j7 xs ys:=by unfold eqD j7;rw[Qm,Qm,PyData.eqv]
theorem Cd:j7 [] []=true:=by unfold j7;rw[c6,PyData.eqvAll]
theorem tN(x y:D)(xs ys:yas):j7 (x::xs) (y::ys)=(eqD x y && j7 xs ys):=by unfold j7 eqD;rw[c6,c6,PyData.eqvAll]
theorem yb(x y:Str):eqD (.str x) (.str y)=(x==y):=by unfold eqD;rw[Qm,Qm,PyData.eqv]
theorem EA:eqD .Nx .Nx=true:=by unfold eqD;rw[Qm,PyData.eqv]
mutual
theorem cz:∀d:D,eqD d d=true
 |.Nx=>EA
 |.bl b=>by rw[Ao];simp
 |.int i=>by rw[rL];simp
 |.str x=>by rw[yb];simp
 |.exc _=>by unfold eqD;rw[Qm,PyData.eqv]
 |.obj _ _ _=>by unfold eqD;rw[Qm,PyData.eqv]
 |.Sy=>by unfold eqD;rw[Qm,PyData.eqv]
 |.Si _ _=>by unfold eqD;rw[Qm,PyData.eqv]
 |.tup ds=>by rw[EB];exact mL ds
 |.lst t ds=>by rw[ya];exact mL ds
theorem mL:∀ds:yas,j7 ds ds=true
 |[]=>Cd
 |d::r=>by rw[tN,cz d,mL r];rfl
end
section
variable{X:Cx}{a b c:Expr}{ta tb tc:DE}{pos:Pos}
def zW(r r':RD2)(ta tb tc:DE):DE:=fun ρ Q=>ta ρ fun x=>tb ρ fun y=>r x y fun z=>∃k,z=.bl k/\if k=true then tc ρ fun u=>r' y u Q else Q (.bl false)
theorem B8{op op':CmpOp}{r r':RD2}(ho:PK X (compareOp op) r)(Xn:PK X (compareOp op') r')(ha:Mv X a ta)(hb:Mv X b tb)(hc:Mv X c tc)(hm:lastMarks [op,op'] [b,c]=false:=by with_unfolding_all rfl):Mv X (.Compare a [op,op'] [b,c] pos) (zW r r' ta tb tc):=by
 intro pins s σ H W ρ Q I rr h;refine Compare_chain (LS (ha pins s σ H W ρ _ I rr h) fun v s1 ⟨vx,H1,x,I1,r1,e1,hx,q1⟩=>chain_link (LS (hb pins s1 σ H1 W ρ _ I1 (rr.same e1) q1) fun u s2 ⟨vy,H2,y,I2,r2,e2,hy,q2⟩=>
  LS (ho pins s2 σ H2 W x y vx vy v u _ I2 ((rr.same e1).same e2).tracked r1 r2 (hx.same e2) hy q2) fun d s3 ⟨vz,H3,z,I3,r3,e3,hz,k,ek,q3⟩=>?_)) hm
 subst ek;have ez:=hz.VH;subst ez;cases r3;refine Wj ?_;have rr3:=((rr.same e1).same e2).same e3;cases k with
 |false=>exact ite_ff ⟨.bl false,H3,_,I3,rfl,e1.trans (e2.trans e3),Den.bl _,q3⟩
 |true=>exact ite_tt (chain_last (LS (hc pins s3 σ H3 W ρ _ I3 rr3 q3) fun w' s4 ⟨vu,H4,du,I4,r4,e4,hu,q4⟩=>LS (Xn pins s4 σ H4 W y du vy vu u w' Q I4 (rr3.same e4).tracked r2 r4 (hy.same (e3.trans e4)) hu q4) fun _ _ z=>z.up (e1.trans (e2.trans (e3.trans e4)))))
theorem bz {x:Str} {i:Int} (hm:∃t,X.mg x=some (.int i t)) (hg:Gl X x:=by rfl) (hd:(x==("__debug__" : Str))=false:=by decide):Mv X (.Name x pos) (dC (.int i)):=by obtain⟨t,hm⟩:=hm;exact Mv.of (cV (v:=.int i) hg hm ⟨t,rfl⟩ hd) fun _ H _ _ _ _ q=>⟨ai.refl H,_,Den.int i,q⟩
theorem allB{prog:Program}{w:World}{A:Around}{E:yaa}{s:Shared}{l:Addr}{vs:yad}{bs:List Bool}{Q:yaa}(hh:A.handled=none)(hl:s.heap.IsList l vs.toArray)(hb:LSm.BoolsAre vs bs)
  (h:∀h' tk,(∀b o,s.heap.get? b=some o->h'.get? b=some o)->Q (.bool (bs.all id)) {s with heap:=h',toks:=tk}):wpAny (model prog w) A (call (.builtin "all") [.ref l]) Q E s:=by
 have lt:l<s.heap.objs.size:=by obtain⟨_,e,_⟩:=hl;exact O8 e
 refine call_all_walk (wpAny_pyIter_list hl ?_);refine⟨s.heap.objs.size,[s.heap.objs.size,l],[s.heap.objs.size],vs.toArray.size,_,_,fun i=>(bs[i]?).getD true,rfl,Walks.list (A:=A.in1) hh _ l (Sn lt) vs.toArray,⟨⟨_,Rm _ rfl,rfl,rfl⟩,hl.push _⟩,(fun i v s1 Q1 E1 hP hQ=>?_),(fun h1 tk hk=>?_)⟩
 ·obtain⟨k,e,ek⟩:=hb.get i v (by simpa using hP);subst ek;simp only[e,Option.getD_some]at hQ;exact Wj hQ
 ·have e:((List.range vs.toArray.size).all fun i=>(bs[i]?).getD true)=bs.all id:=by
   rw[Uo,hb.length];exact LSm.range_all bs
  rw[e];exact h h1 tk (LSm.kept_iter hk)
theorem vg{K:yac}{P:yak}{H:Hp}:∀{bs:List Bool} {vs:yar} {us:yad},af K P H (bs.map D.bl) vs->Vals vs us->LSm.BoolsAre us bs
 |[],_,_,h,r=>by simp only[Wk,af]at h;subst h;cases r;exact .nil
 |b::q,_,_,h,r=>by
  simp only[Sv,af]at h;obtain⟨v,w,e,h1,h2⟩:=h;subst e;have:=h1.VH;subst this;cases r with
  |cons ra rb =>
   cases ra;exact .cons b (vg h2 rb)
theorem Gn (hc:X.calm=true):cn X (.builtin "all") (fun ds Q=>∃(t:Bool) (bs:List Bool),ds=[.lst t (bs.map D.bl)]/\Q (.bl (bs.all id))):=by
 intro pins s σ H W ds vs us Q I tr r hd q;obtain⟨t,bs,e,q⟩:=q;subst e;obtain⟨v,rfl,h1⟩:=eW hd;obtain⟨p,ws,ev,_,hq,hw⟩:=h1.Rg;subst ev;cases r with
 |cons r1 rr =>
  cases rr;cases r1;obtain⟨its,rv,pl,_⟩:=I.list hq;exact allB (I.ok.hd hc) pl.isList (vg hw rv) fun h' tk kp=>⟨.bl _,H,_,I.kept kp,rfl,ai.refl H,Den.bl _,q⟩
def zX(ti:DE):DA:=fun ρ R=>ti ρ fun d=>∃ds,d=.tup ds/\R ds
theorem HB{tg iter:Expr}{ti:DE}(h:Mv X iter ti):Uv X tg iter (zX ti):=by
 refine Uv.of (IK h.pe) fun σ H W ρ R r hw=>⟨W,ρ,_,r,hw,fun v H1 d e1 hd q=>?_⟩
 obtain⟨ds,rfl,q⟩:=q;obtain⟨p,vs,rfl,hq,O6⟩:=hd.Sq;refine⟨p,rfl,⟨vs,hq.w⟩,e1,ds,?_,q⟩;intro P' H' hT hL hX i;have U5:=(hT p vs hq).w;have hl:=O6.len;refine⟨fun hi=>?_,fun x H3 y hi=>?_,fun hi=>⟨vs,U5,by omega⟩⟩
 ·obtain⟨v,hv,_⟩:=O6.get (i:=i) (d:=ds[i]) (by simp[hi]);exact⟨vs,v,U5,hv⟩
 ·obtain⟨e3,y⟩:=y;subst e3;obtain⟨d,h1,h2⟩:=O6.aU (y vs U5);exact⟨ai.refl _,d,h1,Den.map hT hL hX d _ h2⟩
theorem HJ(xs:yas)(R:yas->Prop):(∃ds,D.tup xs=.tup ds/\R ds)=R xs:=by
 apply propext;constructor
 ·rintro⟨_,e,q⟩;cases e;exact q
 ·intro q;exact⟨xs,rfl,q⟩
variable{e:Expr}{te:DE}{lo hi:Option Expr}{tl th:DO}{p2:Pos}
def pb{α:Type}:Nat->(List α->Prop)->Prop
 |0,P=>P []
 |n+1,P=>∀a,pb n fun l=>P (a::l)
theorem kT{α:Type}{n:Nat}:∀{P:List α->Prop} (us:List α),us.length=n->pb n P->P us:=by
 induction n with
 |zero=>intro P us e h;cases XX e;exact h
 |succ n ih =>
  intro P us e h;cases us with
  |nil=>cases e
  |cons a l=>exact ih (P:=fun l=>P (a::l)) l (Nat.succ.inj e) (h a)
end
theorem jQ{α:Type}{wi:DA}{js:yag}{te:DE}{ρ:Ro}{Q:D->Prop}(xs:List α)(f:α->D)(ok:α->Bool)(g:α->D)(hw:∀R:yas->Prop,R (xs.map f)->wi ρ R)(hz:xs.length<=sizeLine)
  (he:∀x∈xs,ok x=true->∀K:D->Prop,K (g x)->te (some (.val (f x))::js.map (aU ρ)) K) (hx:∀x∈xs,ok x=false->∀K:D->Prop,te (some (.val (f x))::js.map (aU ρ)) K) (q:xs.all ok=true->Q (.lst true (xs.map g))):jR wi js mG te ρ Q:=by
 refine hw _ ⟨by rw[Ph];exact hz,fun j out=>out=(xs.take j).map g/\(xs.take j).all ok=true,by simp,fun j d out hd ho=>?_,fun out ho=>?_⟩
 ·rw[Td]at hd;cases ex:xs[j]? with
  |none=>rw[ex]at hd;cases hd
  |some x =>
   rw[ex]at hd;cases hd;have hm:x∈xs:=Xj ex;have ht:xs.take (j+1)=xs.take j++[x]:=by rw[Yp,ex];rfl
   show(if(true:Bool)=true then te (some (Sl.val (f x))::List.map (aU ρ) js) (fun e=>out++[e]=List.map g (List.take (j+1) xs)/\(List.take (j+1) xs).all ok=true)else out=List.map g (List.take (j+1) xs)/\(List.take (j+1) xs).all ok=true);rw[LX rfl];cases z:ok x with
   |true =>
    refine he x hm z _ ?_;show _=List.map g (List.take (j+1) xs)/\(List.take (j+1) xs).all ok=true;rw[ht,ho.1,VC,List.all_append,ho.2];exact⟨rfl,by simp[z]⟩
   |false=>exact hx x hm z _
 ·rw[Ph,Xi (O2 _)]at ho;rw[ho.1];exact q ho.2
section
variable{X:Cx}{pos:Pos}
def PFL(X:Cx)(i:Nat)(es:yai)(t:Ro->(List (yas)->Prop)->Prop):Prop :=
 ∀ (pos:Pos) (pins:yab) (s:Shared) (σ:St) (H:Hp) (W:Own) (ρ:Ro) (k:Nat) (Q:List (yas)->Prop),Inv X pins σ H s->Rel X W H σ ρ->i<σ.length->ρ[i]?=some none->t ρ Q →
  wpAny (model X.prog X.w) X.A (spliced (backTo pos (starEach es X.env))) (fun us s'=>∃vs H' W' xss,Inv X pins σ H' s'/\Vals vs us/\ai H H'/\Rel X W' H' σ ρ/\OB W H W' H'/\aI X.K W'.bad H' (W'.sub σ.length i) k (xss.map LI.own) vs/\(∀l,l<k->W'.sub σ.length i l=W.sub σ.length i l)/\Q xss) X.xe s
def JR:Ro->(List (yas)->Prop)->Prop:=fun _ Q=>Q []
def Hb(ta:DA)(t:Ro->(List (yas)->Prop)->Prop):Ro->(List (yas)->Prop)->Prop:=fun ρ Q=>ta ρ fun x=>t ρ fun xs=>Q (x::xs)
def GU(i:Nat)(t:Ro->(List (yas)->Prop)->Prop):DS:=fun E ρ=>ρ[i]?=some none/\t ρ fun xss=>xss.length<=sizeLine/\E.nx (ρ.set i (some (.ob (.ll (xss.map LI.own)))))
def zw:LI->D
 |.own ds=>.lst false ds
 |.val d=>d
variable{e:Expr}{te:DE}{tt:DT}{ta:DA}
def G4(i:Nat)(t:DE):DE:=fun ρ Q=>∃xs,ρ[i]?=some (some (.ob (.ll xs)))/\t (ρ.set i (some (.val (.lst false (xs.map zw))))) fun d=>hZ d=true/\Q d
def Es(i:Nat)(t:DT):DT:=fun ρ Q=>∃xs,ρ[i]?=some (some (.ob (.ll xs)))/\t (ρ.set i (some (.val (.lst false (xs.map zw))))) Q
def GX(i:Nat)(tc tk te:DE):DS:=fun E ρ=>∃xs,ρ[i]?=some (some (.ob (.ll xs)))/\te ρ fun d=>tc ρ fun c=>∃n m ds,c=.int n/\ixN xs.length n=some m/\xs[m]?=some (.own ds)/\tk ρ fun k=>∃l j,k=.int l/\ixN ds.length l=some j/\E.nx (ρ.set i (some (.ob (.ll (xs.set m (.own (ds.set j d)))))))
end
theorem Hn(xs:List LI)(r:Ro)(R:List LI->Prop):(∃ys,(some (Sl.ob (.ll xs))::r)[0]?=some (some (Sl.ob (.ll ys)))/\R ys)=R xs:=by
 apply propext;constructor
 ·rintro⟨_,e,q⟩;have e':some (some (Sl.ob (.ll xs)))=some (some (Sl.ob (.ll _))):=e;cases e';exact q
 ·intro q;exact⟨xs,rfl,q⟩
theorem Ho(n:Nat)(x:Option Sl)(r:Ro)(R:List LI->Prop):(∃ys,(x::r)[n+1]?=some (some (Sl.ob (.ll ys)))/\R ys)=(∃ys,r[n]?=some (some (Sl.ob (.ll ys)))/\R ys):=rfl
theorem Hz(r:Ro):((none::r)[0]?=some (none:Option Sl))=True:=eq_true rfl
theorem HA(n:Nat)(x:Option Sl)(r:Ro):((x::r)[n+1]?=some (none:Option Sl))=(r[n]?=some none):=rfl
theorem Ke{α:Type}(x:α)(xs:List α)(R:Nat->Prop):(∃m,ixN (x::xs).length 0=some m/\R m)=R 0:=by
 have e:ixN (x::xs).length 0=some 0:=by unfold ixN;simp
 apply propext;constructor
 ·rintro⟨_,h,q⟩;rw[e]at h;cases h;exact q
 ·intro q;exact⟨0,e,q⟩
theorem Kf{α:Type}(x y:α)(xs:List α)(R:Nat->Prop):(∃m,ixN (x::y::xs).length 1=some m/\R m)=R 1:=by
 have e:ixN (x::y::xs).length 1=some 1:=by unfold ixN;simp;omega
 apply propext;constructor
 ·rintro⟨_,h,q⟩;rw[e]at h;cases h;exact q
 ·intro q;exact⟨1,e,q⟩
theorem Ld(ds:yas)(r:List LI)(R:yas->Prop):(∃es,(LI.own ds::r)[0]?=some (LI.own es)/\R es)=R ds:=by
 apply propext;constructor
 ·rintro⟨_,e,q⟩;have e':some (LI.own ds)=some (LI.own _):=e;cases e';exact q
 ·intro q;exact⟨ds,rfl,q⟩
theorem Le(n:Nat)(x:LI)(r:List LI)(R:yas->Prop):(∃es,(x::r)[n+1]?=some (LI.own es)/\R es)=(∃es,r[n]?=some (LI.own es)/\R es):=rfl
section
variable{X:Cx}{pins:yab}{σ:St}{H:Hp}{s:Shared}{sc:Scope}{ns:yah}{js:yag}{x:Str}
def BMain (mg:yam) (base:Heap):Prop:=∃bm ob,mg "__builtins__" = some (.ref bm)/\bm≠builtinsNs/\base.get? bm=some ob/\ob.cls=.type "module" /\ ob.dict=some builtinsNs/\ob.data=.plain
end
section
variable{X:Cx}{pins:yab}{σ:St}{H:Hp}
structure LC(X:Cx)(pins:yab)(H:Hp)(s:Shared)(l f S I:Addr)(fo:Obj)(j:Nat)(vb:Value)(k:Int):Prop where
 fo:s.heap.get? f=some fo
 ff:cy X pins H f
 so:∃tb n,s.heap.get? S=some (seqObj "list" #[vb,.int k tb] n)
 sf:cy X pins H S
 io:s.heap.IsListIter I l j
 jf:cy X pins H I
 fS:f≠S
 fI:f≠I
 SI:S≠I
 lI:l≠I
end
section
variable{X:Cx}{sc:Scope}{ns:yah}{js:yag}{x:Str}{pos:Pos}
def Eo(te:DE)(js:yag)(tb:DE):DE:=fun ρ Q=>te ρ fun d=>∃(t:Bool) (ds:yas) (kf:Nat->Int),d=.lst t ds/\0<ds.length/\(∀i x,ds[i]?=some x->tb (some (.val x)::js.map (aU ρ)) fun r=>r=.int (kf i))/\∀i x,ds[i]?=some x->(∀j,j<ds.length->kf i<=kf j/\(j<i->kf i<kf j))->Q x
end
section
variable{X:Cx}{pos:Pos}
def El(i:Nat)(te:DE):DS:=fun E ρ=>∃ds,ρ[i]?=some (some (.own ds))/\te ρ fun d=>∃xs,d=.lst true xs/\ds.length+xs.length<=sizeLine/\E.nx (ρ.set i (some (.own (ds++xs))))
def GS(i:Nat):DS:=fun E ρ=>E.nx (ρ.set i (some (.ob (.dt []))))
inductive KDP (X:Cx) (pins:yab) (σ:St) (W:Own) (H:Hp) (Q:D->Prop) (u:Value) (s':Shared):Prop
 |mk (b:Addr) (vs:yar) (H':Hp) (ds:yas) (_:u=.ref b) (_:Inv X pins σ H' s') (_:ai H H') (_:H' b=some (.tup vs)) (_:af X.K W.bad H' ds vs) (_:Q (.tup ds))
def PEK(X:Cx)(e:Expr)(t:DE):Prop :=
 ∀ (pins:yab) (s:Shared) (σ:St) (H:Hp) (W:Own) (ρ:Ro) (Q:D->Prop),Inv X pins σ H s->Rel X W H σ ρ->t ρ Q →
  wpAny (model X.prog X.w) X.A (eval e X.env) (KDP X pins σ W H Q) X.xe s
def JH(i:Nat)(tk te:DE):DS:=fun E ρ=>∃kvs,ρ[i]?=some (some (.ob (.dt kvs)))/\te ρ fun d=>tk ρ fun k=>∃ks:List Key,k=.tup (ks.map pC)/\kvs.length<sizeLine/\E.nx (ρ.set i (some (.ob (.dt (putD kvs ks d)))))
def JE(i:Nat):DE:=fun ρ Q=>∃kvs,ρ[i]?=some (some (.ob (.dt kvs)))/\Q (.int (kvs.length:Int))
end
theorem Hl(kvs:List (List Key×D))(r:Ro)(R:List (List Key×D)->Prop):(∃ys,(some (Sl.ob (.dt kvs))::r)[0]?=some (some (Sl.ob (.dt ys)))/\R ys)=R kvs:=by
 apply propext;constructor
 ·rintro⟨ys,e,q⟩;simp only[List.getElem?_cons_zero,Option.some.injEq,Sl.ob.injEq,OS.dt.injEq]at e;subst e;exact q
 ·intro q;exact⟨kvs,rfl,q⟩
theorem Hm(n:Nat)(x:Option Sl)(r:Ro)(R:List (List Key×D)->Prop):(∃ys,(x::r)[n+1]?=some (some (Sl.ob (.dt ys)))/\R ys)=(∃ys,r[n]?=some (some (Sl.ob (.dt ys)))/\R ys):=rfl
theorem JX(ys:yas)(R:yas->Prop):(∃xs,D.lst true ys=.lst true xs/\R xs)=R ys:=by
 apply propext;constructor
 ·rintro⟨xs,e,q⟩;cases e;exact q
 ·intro q;exact⟨ys,rfl,q⟩
theorem Cf{α:Type}{wi:DA}{g:DG}{tb:DS}{E:eU}{ρ:Ro}(xs:List α)(f:α->D)(Pv:Nat->Ro->Prop)(hw:∀R:yas->Prop,R (xs.map f)->wi ρ R)(p0:Pv 0 ρ)
  (turn:∀(j:Nat) (x:α) (NQ:Ro),xs[j]?=some x->Pv j NQ->g (f x) NQ fun Pu=>tb {E with nx:=Pv (j+1),ct:=Pv (j+1),bk:=E.nx} Pu) (fin:∀NQ,Pv xs.length NQ->E.nx NQ):B0 wi g tb E ρ:=by
 refine hw _ ⟨Pv,p0,fun j d NQ hd hp=>?_,fun NQ hp=>fin NQ (by rw[Ph]at hp;exact hp)⟩;rw[Td]at hd;cases ex:xs[j]? with
 |none=>rw[ex]at hd;cases hd
 |some x =>
  rw[ex]at hd;cases hd;exact turn j x NQ ex hp
section
variable{X:Cx}{pos:Pos}
def JO(i:Nat):DA:=fun ρ Q=>∃kvs,ρ[i]?=some (some (.ob (.dt kvs)))/\Q (kvs.map (·.2))
def JD(i:Nat)(ta:DE):DE:=fun ρ Q=>∃kvs,ρ[i]?=some (some (.ob (.dt kvs)))/\ta ρ fun k=>∃ks:List Key,k=.tup (ks.map pC)/\Q (.bl (qC kvs ks).isSome)
def GI(i:Nat)(tk te:DE):DS:=fun E ρ=>∃kvs,ρ[i]?=some (some (.ob (.dt kvs)))/\tk ρ fun k=>∃(ks:List Key) (n:Int),k=.tup (ks.map pC)/\qC kvs ks=some (.int n)/\te ρ fun d=>∃m,d=.int m/\E.nx (ρ.set i (some (.ob (.dt (putD kvs ks (.int (n+m)))))))
end
inductive KPs (K:yac) (P:yak) (H:Hp):List (yas×D)->List (Value×Value)->Prop
 |nil:KPs K P H [] []
 |cons {b:Addr} {vs:yar} {ks:yas} {d:D} {x:V} {u:Value} {ds:List (yas×D)} {ws:List (Value×Value)} (hb:H b=some (.tup vs)) (hk:af K P H ks vs) (hd:Den K P H d x) (r:RelV x u) (t:KPs K P H ds ws):KPs K P H ((ks,d)::ds) ((.ref b,u)::ws)
def PPK(X:Cx)(pos:Pos)(keys:List (Option Expr))(values:yai)(t:Ro->(List (yas×D)->Prop)->Prop):Prop :=
 ∀ (pins:yab) (s:Shared) (σ:St) (H:Hp) (W:Own) (ρ:Ro) (Q:List (yas×D)->Prop),Inv X pins σ H s->Rel X W H σ ρ->t ρ Q →
  wpAny (model X.prog X.w) X.A (evalPairs (pairTrees keys values X.env pos)) (fun ws s'=>∃H' ds,Inv X pins σ H' s'/\ai H H'/\KPs X.K W.bad H' ds ws/\Q ds) X.xe s
section
variable{X:Cx}{pos:Pos}
def JT:Ro->(List (yas×D)->Prop)->Prop:=fun _ Q=>Q []
def He(tk tv:DE)(t:Ro->(List (yas×D)->Prop)->Prop):Ro->(List (yas×D)->Prop)->Prop:=fun ρ Q=>tk ρ fun k=>∃ks,k=.tup ks/\tv ρ fun v=>t ρ fun r=>Q ((ks,v)::r)
inductive KPi (H:Hp):List (List Key×Int)->List (Value×Value)->Prop
 |nil:KPi H [] []
 |cons {b:Addr} {k:List Key} {n:Int} {u:Value} {ds:List (List Key×Int)} {ws:List (Value×Value)} (hb:H b=some (.tup (k.map kV))) (r:RelV (.int n) u) (t:KPi H ds ws):KPi H ((k,n)::ds) ((.ref b,u)::ws)
def Ep(i:Nat)(t:Ro->(List (yas×D)->Prop)->Prop):DS:=fun E ρ=>t ρ fun ps=>∃kns:List (List Key×Int),ps=kns.map (fun kn=>(kn.1.map pC,D.int kn.2))/\kns.length<=15/\(kns.map (·.1)).Nodup/\E.nx (ρ.set i (some (.ob (.dt (kns.map fun kn=>(kn.1,D.int kn.2))))))
end
end PD
namespace PZ
open PySem PySem.Spec PyProof.Rows
abbrev Dj (h:Heap) (T:Addr) (a b c:Value):Prop:=h.get? T=some {cls:=.type "tuple", data:=.seq #[a,b,c]}
structure Ap3(z TI TO i1 i2 i3:Addr):Prop where
 a1:TI≠z
 a2:TO≠z
 a3:i1≠z
 a4:i2≠z
 a5:i3≠z
 b1:TI≠TO
 b2:TI≠i1
 b3:TI≠i2
 b4:TI≠i3
 c1:TO≠i1
 c2:TO≠i2
 c3:TO≠i3
 d1:i1≠i2
 d2:i1≠i3
 d3:i2≠i3
structure LD(z TO i1 i2 i3 l:Addr):Prop where
 c1:l≠z
 c2:l≠TO
 c3:l≠i1
 c4:l≠i2
 c5:l≠i3
structure LH(z TI TO i1 i2 i3 l1 l2 l3:Addr)(i:Nat)(h:Heap):Prop where
 z:IsZip h z TI TO .none
 ti:Dj h TI (.ref i1) (.ref i2) (.ref i3)
 to:∃a b c,Dj h TO a b c
 s1:Ux true h i1 l1 i
 s2:Ux true h i2 l2 i
 s3:Ux true h i3 l3 i
end PZ
namespace PD
open PySem PySem.Spec PyProof.Rows L2 PZ
section
variable{X:Cx}
def tri(xs ys zs:yas):yas:=List.zipWith (fun f z=>f z) (List.zipWith (fun x y z=>D.tup [x,y,z]) xs ys) zs
def JP(ta:DA):DA:=fun ρ R=>ta ρ fun ds=>∃t1 t2 t3 xs ys zs,ds=[.lst t1 xs,.lst t2 ys,.lst t3 zs]/\ys.length=xs.length/\zs.length=xs.length/\R (tri xs ys zs)
end
open PySem PySem.Spec PyProof.Rows L2
section
variable{X:Cx}{pos:Pos}
def Em(i iw:Nat)(tt:DT):DS:=fun E ρ=>∃ds,ρ[i]?=some (some (.own ds))/\ds ≠ []/\(∀d∈ds,tt (ρ.set iw (some (.val d))) fun k=>k=false)/\∀d∈ds,E.nx (ρ.set iw (some (.val d)))
end
end PD
namespace ST
open PySem PySem.SetTable
def S:Nat->Nat
 |0=>0
 |n+1=>5*S n+1
theorem uI:∀n,5 ^ n=4*S n+1
 |0=>rfl
 |n+1=>by rw[W4,uI n];show _=4*(5*S n+1)+1;omega
theorem yK(m:Nat):∀n,S (n+m)=5 ^ m*S n+S m
 |0=>by simp[S]
 |n+1=>by rw[show n+1+m=(n+m)+1 by omega];show 5*S (n+m)+1=5 ^ m*(5*S n+1)+S m;rw[yK m n,uI m];grind
theorem Dl:∀k,∃o,S (2 ^ k)=2 ^ k*(2*o+1)
 |0=>⟨0,rfl⟩
 |k+1=>by obtain⟨o,e⟩:=Dl k;refine⟨o+(2*o+1)*(2 ^ k*(2*o+1)),?_⟩;rw[show 2 ^ (k+1)=2 ^ k+2 ^ k by rw[W4];omega,yK,uI,e];grind
theorem round:∀(k x e:Nat),e<2 ^ k->∃n,n<2 ^ k/\(5 ^ n*x+S n) % 2 ^ k=e
 |0,x,e,h=>⟨0,by decide,by omega⟩
 |k+1,x,e,h=>by
  obtain⟨n,hn,q⟩:=round k x (e % 2 ^ k) (Nat.mod_lt _ (Nat.two_pow_pos k));obtain⟨o,eo⟩:=Dl k;have hp:=Nat.two_pow_pos k;have h2:2 ^ (k+1)=2*2 ^ k:=by rw[W4];omega
  generalize hv:5 ^ n*x+S n=v at q;have nxt:5 ^ (n+2 ^ k)*x+S (n+2 ^ k)=v+2 ^ k+2 ^ (k+1)*(o+2*(2*o+1)*v):=by rw[yK,Nat.pow_add,uI (2 ^ k),eo,h2,<- hv];grind
  generalize 2 ^ k=p at *;rw[h2]at h ⊢;by_cases z:v % (2*p)=e
  ·exact⟨n,by omega,by rw[hv];exact z⟩
  ·refine⟨n+p,by omega,?_⟩;rw[nxt,h2,Nat.add_mul_mod_self_left];have a1:v % (2*p) % p=v % p:=Nat.mod_mul_left_mod v 2 p;have l1:v % (2*p)<2*p:=Nat.mod_lt _ (by omega);rw[Nat.add_mod,Yl (show p<2*p by omega)];generalize v % (2*p)=u at *;have eu:u=u % p∨u=u % p+p:=by
    by_cases c:u<p
    ·left;rw[Yl c]
    ·right
     have:u % p=u - p:=by rw[Nat.mod_eq_sub_mod (by omega),Yl (by omega)]
     omega
   have ee:e=e % p∨e=e % p+p:=by
    by_cases c:e<p
    ·left;rw[Yl c]
    ·right
     have:e % p=e - p:=by rw[Nat.mod_eq_sub_mod (by omega),Yl (by omega)]
     omega
   have lt:e % p<p:=Nat.mod_lt _ hp;rcases eu with eu|eu<;>rcases ee with ee|ee
   ·omega
   ·rw[Yl (by omega)];omega
   ·rw[Nat.mod_eq_sub_mod (by omega),Yl (by omega)];omega
   ·omega
def runs(mask:Nat):Nat->Nat->Nat->yag
 |0,_,_=>[]
 |c+1,i,pt=>List.range' i (runEnd mask i+1 - i)++runs mask c (leap mask i pt).1 (leap mask i pt).2
def BB(mask:Nat)(h:Int):yag:=runs mask (turns mask) (bits h % (mask+1)) (bits h)
def Kg(mask:Nat):Nat->Nat×Nat->Nat×Nat
 |0,p=>p
 |n+1,p=>Kg mask n (leap mask p.1 p.2)
def KI(xs:yap):Prop:=∀a b:Nat,a<b->b<xs.size->xs.getD a 0<xs.getD b 0
def ahead(mask:Nat)(c:Nat)(p:Probe):yag:=List.range' p.j (p.more+1)++runs mask c (leap mask p.i p.perturb).1 (leap mask p.i p.perturb).2
structure Tab(t:SetTable)(hs:yaf):Prop where
 k:∃k,t.mask+1=2 ^ (k+1)
 rise:KI t.place
 le:∀x∈t.place.toList,x<=t.mask
 dum:t.dummies=#[]
 len:t.place.size=hs.length
 room:t.place.size<=t.mask
 reach:∀(a x:Nat) (h:Int),t.place[a]?=some x->hs[a]?=some h->∃pre post,BB t.mask h=pre++x::post/\∀y∈pre,y∈t.place.toList
structure Ow(mask:Nat)(hs:yaf)(owner:Array (Option Nat)):Prop where
 size:owner.size=mask+1
 cnt:(owner.toList.filter Option.isSome).length=hs.length
 at_:∀(i:Nat) (h:Int),hs[i]?=some h->∃j:Nat,owner[j]?=some (some i)/\∃pre post,BB mask h=pre++j::post/\∀y∈pre,∃q,owner[y]?=some (some q)
 lt:∀j i:Nat,owner[j]?=some (some i)->i<hs.length
 inj:∀j j' i:Nat,owner[j]?=some (some i)->owner[j']?=some (some i)->j=j'
theorem vd:∀(fuel size n:Nat),n<size*2 ^ fuel->∃m,sizeAbove.go n fuel size=size*2 ^ m/\n<size*2 ^ m
 |0,size,n,h=>⟨0,by simp[sizeAbove.go],h⟩
 |fuel+1,size,n,h=>by
  unfold sizeAbove.go;by_cases c:size<=n
  ·rw[LX c];obtain⟨m,e1,e2⟩:=vd fuel (size*2) n (by rw[W4]at h;rw[Nat.mul_assoc,Nat.mul_comm 2];exact h);refine⟨m+1,?_,?_⟩
   ·rw[e1,W4,Nat.mul_assoc,Nat.mul_comm 2]
   ·rw[W4,Nat.mul_comm (2 ^ m),<- Nat.mul_assoc];exact e2
  ·rw[LO c];exact⟨0,by simp,by simp;omega⟩
theorem above{n:Nat}(h:n<2 ^ 60):∃k,sizeAbove n - 1+1=2 ^ (k+1)/\n<=sizeAbove n - 1:=by obtain⟨m,e1,e2⟩:=vd 64 8 n (RX h (by decide));have e:sizeAbove n=8*2 ^ m:=e1;have hp:=Nat.two_pow_pos m;refine⟨m+2,?_,by omega⟩;rw[e,show 2 ^ (m+2+1)=8*2 ^ m by rw[W4,W4,W4];omega];omega
end ST
namespace SW
open PySem PySem.SetTable ST
section
variable{prog:Program}{w:World}{A:Around}{E:yaa}{s:Shared}
abbrev TK(prog:Program)(w:World):HeapKind prog w (yaf):=tupleKind (intKind prog w)
theorem items_int:∀{ks:yaf} {vs:yad},ItemsAre (intKind prog w) ks vs->∀v∈vs,∃n t,v=Value.int n t
 |_,_,.nil,v,h=>by cases h
 |_,_,.cons h t,v,hv=>by
  rcases Rb.mp hv with z|z
  ·subst z;obtain⟨t,e⟩:=Value.isInt_shape h;exact⟨_,t,e⟩
  ·exact items_int t v z
structure LG(prog:Program)(w:World)(h:Heap)(a:Addr)(xs:List (yaf×Addr)):Prop where
 ex:∃o es ep t,h.get? a=some o/\o.ExactSet/\o.data=.set es ep t/\es.toList=xs.map (fun x=>((TK prog w).hash x.1,Value.ref x.2))/\Tab t (xs.map fun x=>(TK prog w).hash x.1)/\(t.plain=true/\t.led=!w.params.followText "set-order")/\t.place.size*5<t.mask*3/\t.mask<=8191
 is_:∀x∈xs,(TK prog w).is h x.1 x.2
 nd:(xs.map (·.1)).Nodup
set_option maxHeartbeats 1000000 in
end
end SW
namespace SS
open PySem PySem.W PyProof.Rows
def good{α:Type}(r:Nat->Nat)(n:Nat)(G:α->Prop):KasT α->Prop
 |.ret a=>G a
 |.ask i j k=>i<n/\j<n/\good r n G (k (decide (r i<r j)))
section
variable{r:Nat->Nat}{n:Nat}
def v(r:Nat->Nat)(p:yap)(k:Nat):Nat:=r (p.getD k 0)
def S(r:Nat->Nat)(p:yap)(k:Nat):Prop:=∀i j,i<=j->j<k->v r p i<=v r p j
def D(r:Nat->Nat)(p:yap)(k:Nat):Prop:=∀i j,i<=j->j<k->v r p j<=v r p i
structure Ok(n:Nat)(p:yap):Prop where
 perm:p.Perm (List.toArray (List.range n))
end
end SS
namespace TS
open PySem PyProof.Rows
structure Cmp(M:Model)(A:Around)(E:yaa)(s:Shared)(r:Keyed->Nat)(Mem:Keyed->Prop)(k0:SortKind):Prop where
 lt:∀(x y:Keyed) (st:SortSt) (Q:Option Bool->SortSt->Prop),Mem x->Mem y->kindOf st=k0->Q (some (decide (r x<r y))) st->wpS M A E s (lt' x y) Q st
structure Cut(B:Nat->Bool)(n k:Nat):Prop where
 le:k<=n
 lo:∀i,i<k->B i=true
 hi:∀i,k<=i->i<n->B i=false
inductive GV (st:SortSt) (P:Nat->Nat->Prop):Option (Option Nat)×Nat×Nat->SortSt->Prop
 |mk {l u:Nat} (p:P l u):GV st P (none,l,u) st
structure G1(B:Nat->Bool)(n hint:Nat)(D:Nat->Prop)(l u:Nat):Prop where
 a1:hint+l<n
 a2:B (hint+l)=true
 a3:l<u
 a4:D u
structure G2(B:Nat->Bool)(hint:Nat)(D:Nat->Prop)(l u:Nat):Prop where
 a1:l<=hint
 a2:B (hint - l)=false
 a3:l<u
 a4:D u
structure G3(B:Nat->Bool)(n x l u:Nat):Prop where
 a1:u<=n
 a2:∀i,i<l->i<n->B i=true
 a3:∀i,u<=i->i<n->B i=false
 a4:l<=u
 a5:u+x<=n+l
structure MI(R:Keyed->Keyed->Prop)(T o a b:List Keyed):Prop where
 p:(o++(a++b)).Perm T
 so:o.Pairwise R
 sa:a.Pairwise R
 sb:b.Pairwise R
 oa:∀x∈o,∀y∈a,R x y
 ob:∀x∈o,∀y∈b,R x y
structure BK(st st':SortSt):Prop where
 k:kindOf st'=kindOf st
 a:arrOf st'=arrOf st
 p:pendingOf st'=pendingOf st
 f:failedOf st'=failedOf st
section
variable{M:Model}{A:Around}{E:yaa}{s:Shared}{r:Keyed->Nat}{Mem:Keyed->Prop}{k0:SortKind}
inductive DG (l:List Keyed) (i:Nat) (t:Keyed->Prop):Prop
 |mk (x:Keyed) (h:l[i]?=some x) (e:t x) (m:x∈l)
structure Mid(r:Keyed->Nat)(a b:Array Keyed)(o:Array Keyed)(i j:Nat):Prop where
 m:MI (fun x y=>r x<=r y) (a.toList++b.toList) o.toList (a.toList.drop i) (b.toList.drop j)
 hi:i+1<a.size
 hj:j<b.size
inductive VL {γ:Type} (st:SortSt) (M:Array Keyed->Nat->Nat->Prop) (P:Nat->Nat->Prop):Option (Array Keyed)×Array Keyed×Nat×Nat×γ->SortSt->Prop
 |mk {o:Array Keyed} {i j:Nat} {g:γ} {st':SortSt} (L:BK st st') (m:M o i j) (p:P i j):VL st M P (none,o,i,j,g) st'
inductive VW {β:Type} (st:SortSt) (R:Array Keyed->Prop):Option (Array Keyed)×β->SortSt->Prop
 |mk {w:Array Keyed} {q:β} {st':SortSt} (L:BK st st') (h:R w):VW st R (some w,q) st'
structure Mir(r:Keyed->Nat)(a b:Array Keyed)(o:Array Keyed)(i j:Nat):Prop where
 m:MI (fun x y=>r y<=r x) (a.toList++b.toList) o.toList (a.toList.take i).reverse (b.toList.take j).reverse
 h0:0<i
 hi:i<=a.size
 h1:1<j
 hj:j<=b.size
inductive VR {γ:Type} (st:SortSt) (M:Array Keyed->Nat->Nat->Prop) (P:Nat->Nat->Prop):Option (Array Keyed)×Nat×Nat×Array Keyed×γ->SortSt->Prop
 |mk {o:Array Keyed} {i j:Nat} {g:γ} {st':SortSt} (L:BK st st') (m:M o i j) (p:P i j):VR st M P (none,i,j,o,g) st'
end
def rk(r:Keyed->Nat)(xs:Array Keyed)(i:Nat):Nat:=match xs[i]? with
 |some p=>r p
 |none=>0
def Seg(r:Keyed->Nat)(xs:Array Keyed)(lo hi:Nat):Prop:=∀i j,lo<=i->i<=j->j<hi->rk r xs i<=rk r xs j
section
variable{r:Keyed->Nat}{xs:Array Keyed}{P W S:List Keyed}
theorem i7(xs:Array Keyed){lo n:Nat}(h:lo+n<=xs.size):∃P W S,xs.toList=P++(W++S)/\P.length=lo/\W.length=n:=by
 refine⟨xs.toList.take lo,(xs.toList.drop lo).take n,(xs.toList.drop lo).drop n,by rw[zBn,zBn],?_,?_⟩
 ·rw[Uq];exact ZX (Sw (Nat.le_add_right _ _) h)
 ·rw[Uq,WZ];exact ZX (Nat.le_sub_of_add_le' h)
end
section
variable{r:Keyed->Nat}
def Dn(r:Keyed->Nat)(xs:Array Keyed)(lo hi:Nat):Prop:=∀i j,lo<=i->i<=j->j<hi->rk r xs j<=rk r xs i
end
structure Nr(lo:Nat)(st st':SortSt):Prop where
 k:kindOf st'=kindOf st
 f:failedOf st'=failedOf st
 p:pendingOf st'=pendingOf st
 a:(arrOf st').Perm (arrOf st)
 fr:∀i,i<lo->(arrOf st')[i]?=(arrOf st)[i]?
section
variable{M:Model}{A:Around}{E:yaa}{s:Shared}{r:Keyed->Nat}{Mem:Keyed->Prop}{k0:SortKind}
inductive CW {ρ γ:Type} (y:γ) (P:SortSt->Prop):Option ρ×γ->SortSt->Prop
 |mk {st:SortSt} (p:P st):CW y P (none,y) st
inductive CV {ρ γ:Type} (P:γ->SortSt->Prop):Option ρ×γ->SortSt->Prop
 |mk {y:γ} {st:SortSt} (p:P y st):CV P (none,y) st
structure S1(r:Keyed->Nat)(lo:Nat)(st:SortSt)(x:Nat)(st':SortSt):Prop where
 n:Nr lo st st'
 x1:1<=x
 sg:Seg r (arrOf st') lo (lo+x)
structure S2(r:Keyed->Nat)(lo:Nat)(st:SortSt)(x q:Nat)(st':SortSt):Prop where
 n:Nr lo st st'
 q1:q+1<=x
 dn:Dn r (arrOf st') lo (lo+x)
 eq:∀i,lo+x - (q+1)<=i->i<lo+x->rk r (arrOf st') i=rk r (arrOf st') (lo+x - 1)
structure B1(f:Nat->Nat)(lo k x l u:Nat):Prop where
 lu:l<=u
 uk:u<=k
 m:u+x<=k+l
 dn:∀i,lo<=i->i<lo+l->f i<=f (lo+k)
 up:∀i,lo+u<=i->i<lo+k->f (lo+k)<f i
end
def Chain:List (Nat×Nat×Nat)->Nat->Nat->Prop
 |[],s,e=>s=e
 |q::ps,s,e=>q.1=s/\0<q.2.1/\Chain ps (s+q.2.1) e
section
variable{M:Model}{A:Around}{E:yaa}{s:Shared}{r:Keyed->Nat}{Mem:Keyed->Prop}{k0:SortKind}
structure PI(r:Keyed->Nat)(st st':SortSt)(lo:Nat):Prop where
 k:kindOf st'=kindOf st
 f:failedOf st'=failedOf st
 a:(arrOf st').Perm (arrOf st)
 ch:Chain (pendingOf st').toList 0 lo
 sg:∀q∈(pendingOf st').toList,Seg r (arrOf st') q.1 (q.1+q.2.1)
structure RI(r:Keyed->Nat)(st:SortSt)(x lo:Nat)(st':SortSt):Prop where
 le:lo<=(arrOf st).size
 x:x<=lo∨(arrOf st).size<=lo
 i:PI r st st' lo
end
end TS
namespace HT
open PySem PyProof.Rows
section
open PySem.SeqAt
open PySem.AutoSeq1 (wpAny_loadPart')
open PySem.MeetsSeq PySem.MeetsSeq2 PySem.MeetsSeq3
end
end HT
namespace SW
open PySem PySem.SetTable ST PySem.W PyProof.Rows
section
variable{prog:Program}{w:World}{A:Around}{E:yaa}{s:Shared}
structure LF(prog:Program)(w:World)(h:Heap)(a:Addr)(xs:List (Int×Tok)):Prop where
 ex:∃o es ep t,h.get? a=some o/\o.ExactSet/\o.data=.set es ep t/\es.toList=xs.map (fun x=>((intKind prog w).hash x.1,Value.int x.1 x.2))/\Tab t (xs.map fun x=>(intKind prog w).hash x.1)/\(t.plain=true/\t.led=!w.params.followText "set-order")/\7<=t.mask
 nd:(xs.map (·.1)).Nodup
end
end SW
namespace PD
open PySem PySem.Spec PyProof.Rows L2
section
variable{X:Cx}{pos:Pos}
theorem j3:∀{out:yad} {ms:yaf},IntsAre out ms->Vals (ms.map V.int) out
 |_,_,.nil=>.nil
 |_,_,.cons n t r=>.cons ⟨t,rfl⟩ (j3 r)
end
section
variable{X:Cx}
inductive BDQ (X:Cx) (pins:yab) (P:yak) (Q:D->Prop) (f:Flow) (s1:Shared):Prop
 |mk (u:Value) (v:V) (d:D) (σ':St) (H':Hp) (_:f=.ret u) (_:Inv X pins σ' H' s1) (_:RelV v u) (_:ai X.H₀ H') (_:Den X.K P H' d v) (_:Q d)
def cL(d:D):Prop:=pE d=true∨∃ t x zs,d=.lst t (.tup x::zs)/\eX (.tup x::zs)=true
end
def FL(K:yac)(x:Str)(st:Stmt):Prop:=∃(f:Addr) (oc:Value) (od:Option Addr) (kV dc pm:Value) (an:Option Addr) (cd ct:Value) (sl:Array (yan)),
 PySem.W.nsIn K mainGlobals x=some (some (.ref f))/\K.lookup f=some ⟨oc,od,.func (PySem.W.fnOf x x (bG st) (bp st) (ah st) .none kV dc pm an cd ct),sl⟩/\PySem.W.codeIn K cd x=true/\PySem.W.keepIn K (.ref f)=true
theorem FL.mk{K:yac}{x:Str}{st:Stmt}{f:Addr}{oc:Value}{od:Option Addr}{kV dc pm:Value}{an:Option Addr}{cd ct:Value}{sl:Array (yan)}(a:PySem.W.nsIn K mainGlobals x=some (some (.ref f)))
  (b:K.lookup f=some ⟨oc,od,.func (PySem.W.fnOf x x (bG st) (bp st) (ah st) .none kV dc pm an cd ct),sl⟩) (c:PySem.W.codeIn K cd x=true) (d:PySem.W.keepIn K (.ref f)=true):FL K x st:=⟨f,oc,od,kV,dc,pm,an,cd,ct,sl,a,b,c,d⟩
theorem HV{α:Type}:∀{us:List α},us.length=1->∃a,us=[a]
 |[a],_=>⟨a,rfl⟩
theorem HW{α:Type}:∀{us:List α},us.length=2->∃a b,us=[a,b]
 |[a,b],_=>⟨a,b,rfl⟩
theorem HX{α:Type}:∀{us:List α},us.length=3->∃a b c,us=[a,b,c]
 |[a,b,c],_=>⟨a,b,c,rfl⟩
theorem HY{α:Type}:∀{us:List α},us.length=4->∃a b c d,us=[a,b,c,d]
 |[a,b,c,d],_=>⟨a,b,c,d,rfl⟩
theorem HZ{α:Type}:∀{us:List α},us.length=5->∃a b c d e,us=[a,b,c,d,e]
 |[a,b,c,d,e],_=>⟨a,b,c,d,e,rfl⟩
theorem FL.has{K:yac}{x:Str}{st:Stmt}{h:Heap}{mg:yam}{k:Nat}{ps:yah}{sp:DSp}(e:FL K x st)(P:Program)(w:World)(base:Heap)(X:K.In h)(G:h.Ns mainGlobals mg)
  (ok:∀{f:Addr} {fd:FuncData},ar K x x st f fd->aE P w K mg base (CX1 P w) k f fd ps (aJ K sp))
  (hb:∀(kV dc pm:Value) (an:Option Addr) (cd ct:Value),pb ps.length fun us=>bindArgs (PySem.W.fnOf x x (bG st) (bp st) (ah st) .none kV dc pm an cd ct) ⟨us,[]⟩=pure (ps.zip us):=by
   repeat intro _
   rfl):Pj P w K mg base x k ps sp:=by
 obtain⟨f,oc,od,kV,dc,pm,an,cd,ct,sl,a,b,c,d⟩:=e;exact⟨f,_,ok (fF b c d),PySem.W.mg_of X G a,d,.all fun us hl=>kT us hl (hb kV dc pm an cd ct)⟩
end PD
namespace HT
open PySem PyProof.Rows
section
open PySem.SeqAt
open PySem.AutoSeq1 (wpAny_loadPart')
open PySem.MeetsSeq PySem.MeetsSeq2 PySem.MeetsSeq3
end
end HT
namespace PD
open PySem PySem.Spec PyProof.Rows L2
def hV(P:Program)(w:World)(K:yac)(mg:yam)(base:Heap)(C:Addr)(m:Str)(k:Nat)(ps:yah)(sp:DSp):Prop :=
 ∃ f fd,aE P w K mg base (CX1 P w) k f fd ps (aJ K sp)/\Meth K C m f/\Binds K fd ps []
section
variable{K:yac}{P:yak}{H:Hp}
theorem yh{f:Str}{x:D}:∀{ns:yah} {ds:yas} {vs:yar},af K P H ds vs->(ns.zip ds).lookup f=some x->∃v,(ns.zip vs).lookup f=some v/\Den K P H x v
 |[],_,_,_,l=>by simp at l
 |_::_,[],_,_,l=>by simp at l
 |n::ns,d::ds,_,h,l=>by
  simp only[af]at h;obtain⟨v,r,rfl,h1,h2⟩:=h;rw[ZS,Te]at l ⊢;cases e:f==n with
  |true =>
   rw[e]at l;cases l;exact⟨v,rfl,h1⟩
  |false =>
   rw[e]at l;exact yh h2 l
theorem jd{m:Str}:∀{ns:yah} {vs:yar},m∉ns->(ns.zip vs).lookup m=none
 |[],_,_=>by simp
 |_::_,[],_=>by simp
 |n::ns,v::vs,h=>by
  rw[ZS,Te];have e:(m==n)=false:=Yk.mpr fun z=>h (by rw[z];exact Su)
  rw[e];exact jd fun z=>h (SD _ z)
end
section
variable{X:Cx}{k:Nat}{ps:yah}{sp:DSp}{x m f:Str}{p pos apos:Pos}{e o:Expr}{es:yai}{te to:DE}{t:DA}{C:Addr}
def ic(C:Addr)(te:DE)(f:Str):DE:=fun ρ Q=>te ρ fun d=>∃ns ds x,d=.obj C ns ds/\(ns.zip ds).lookup f=some x/\Q x
theorem fJ(c:Cls X.K C)(n:fG X.K C f)(he:Mv X e te)(hb:attributeBase e f X.env (eval e X.env)=eval e X.env:=by rfl):Mv X (.Attribute e f pos) (ic C te f):=by intro pins s σ H W ρ Q I r h;refine xN hb (LS (he pins s σ H W ρ _ I r h) fun u s1 ⟨v,H1,d,I1,ru,sm,hd,ns,ds,y,e1,l,q⟩=>?_);subst e1;obtain⟨a,dx,vs,e2,ha,_,_,O6⟩:=hd.UD;subst e2;cases ru;obtain⟨v2,l2,hy⟩:=yh O6 l;exact qv I1 ha c n l2 fun u' s2 I2 ru'=>⟨v2,H1,y,I2,ru',sm,hy,q⟩
def nN(C:Addr)(m:Str)(sp:DSp)(to:DE)(t:DA):DE:=fun ρ Q=>to ρ fun d=>∃ns ds,d=.obj C ns ds/\m∉ns/\t ρ fun as=>sp (av d::ay as) Q fun _=>False
theorem nO{pl:Sem Bool}(c:Cls X.K C)(hM:hV X.prog X.w X.K X.mg X.base C m k ps sp)(hr:aX k X.A)(he:Mv X o to)(ha:Qc X (e::es) t)
  (Py:starEach (e::es) X.env=(false,eval e X.env)::starEach es X.env:=by rfl) (Qj:(backTo pos (starEach es X.env)).any (·.1)=false:=by rfl)
  (ht:eval (.Call (.Attribute o m apos) (e::es) [] pos) X.env=(do
   let ov←eval o X.env
   standAt apos.atName
   let (f,first)←holding [ov] (getMethod ov m pl)
   callWith pos f first (backTo pos (starEach (e::es) X.env)) (backToKw pos (keywordEach [] X.env))):=by rfl) :
  Mv X (.Call (.Attribute o m apos) (e::es) [] pos) (nN C m sp to t):=by
 obtain⟨f,fd,F,hm,hb⟩:=hM;intro pins s σ H W ρ Q I r h;refine PySem.W.methodCall_KW (pl:=pl) (LS (he pins s σ H W ρ _ I r h) fun u s1 ⟨v,H1,d,I1,ru,sm,hd,ns,ds,e1,nm,q⟩=>?_) ht;subst e1;have WI:=hd;obtain⟨a,dx,vs,e2,Wr,_,_,O6⟩:=hd.UD;subst e2;cases ru;refine dY I1 Wr c hm (jd nm) ?_;refine PySem.W.callWith_K (first:=[.ref a]) (h₀:=X.base) I.ok.mod.Uz hm.kp (LS (ha pos pins s1 σ H1 W ρ _ I1 (r.same sm) q) fun us s2 ⟨vs2,H2,ds2,I2,rv,VT,hd2,q2⟩=>⟨I2.QI,?_⟩) Py Qj;refine LS (zm (dds:=[]) (dsv:=[]) (us:=.ref a::us) (vs:=.ref a::vs2) (ds:=.obj C ns ds::ds2) F hr hb .nil (by simp) lM I2 ((r.same sm).same VT) (.cons rfl rv) (af.cons (WI.same VT) hd2) ?_) fun _ _ z=>(z.up VT).up sm
 rw[V0,ay];exact q2
def F9(P:Program)(w:World)(K:yac)(mg:yam)(base:Heap)(x:Str)(C:Addr)(k:Nat)(sp:Sp):Prop :=
 ∃ f fd ps,aE P w K mg base (CX1 P w) k f fd ps sp/\Mk K C f/\mg x=some (.ref C)/\PX.hW K C/\Binds K fd ps []
end
def KP(s:Stmt):yal:=match s with
 |.ClassDef _ _ _ b _ _ _ _ _ _ _=>b
 |_=>[]
def vo (K:yac) (C:Addr):Bool:=PySem.W.plainGet K C Str.empty && PySem.W.hasDictIn K C && PySem.W.plainOver K C && PySem.W.findIn K (.ref C) "__setattr__" == some (some (.builtin "object.__setattr__"))
theorem vo.of{K:yac}{C:Addr}(h:vo K C=true):Cls K C:=by unfold vo at h;simp only[S7,beq_iff_eq]at h;exact⟨h.1.1.1,h.1.1.2,h.1.2,h.2⟩
def Vk(K:yac)(C:Addr)(m qual:Str)(st:Stmt):Prop:=∃(f:Addr) (oc:Value) (od:Option Addr) (kV dc pm:Value) (an:Option Addr) (cd ct:Value) (sl:Array (yan)),
 PySem.W.findIn K (.ref C) m=some (some (.ref f))/\PySem.W.isFn K (.ref f)=true/\K.lookup f=some ⟨oc,od,.func (PySem.W.fnOf m qual (bG st) (bp st) (ah st) .none kV dc pm an cd ct),sl⟩/\PySem.W.codeIn K cd qual=true/\PySem.W.keepIn K (.ref f)=true
theorem Vk.mk{K:yac}{C:Addr}{m qual:Str}{st:Stmt}{f:Addr}{oc:Value}{od:Option Addr}{kV dc pm:Value}{an:Option Addr}{cd ct:Value}{sl:Array (yan)}(a:PySem.W.findIn K (.ref C) m=some (some (.ref f)))(i:PySem.W.isFn K (.ref f)=true)
  (b:K.lookup f=some ⟨oc,od,.func (PySem.W.fnOf m qual (bG st) (bp st) (ah st) .none kV dc pm an cd ct),sl⟩) (c:PySem.W.codeIn K cd qual=true) (d:PySem.W.keepIn K (.ref f)=true):Vk K C m qual st:=⟨f,oc,od,kV,dc,pm,an,cd,ct,sl,a,i,b,c,d⟩
section
variable{K:yac}{C:Addr}{m qual:Str}{st:Stmt}{mg:yam}{k:Nat}{ps:yah}{sp:DSp}
theorem Vk.has(e:Vk K C m qual st)(P:Program)(w:World)(base:Heap)
  (ok:∀{f:Addr} {fd:FuncData},ar K m qual st f fd->aE P w K mg base (CX1 P w) k f fd ps (aJ K sp))
  (hb:∀(kV dc pm:Value) (an:Option Addr) (cd ct:Value) (us:yad),us.length=ps.length->bindArgs (PySem.W.fnOf m qual (bG st) (bp st) (ah st) .none kV dc pm an cd ct) ⟨us,[]⟩=pure (ps.zip us):=by
   intro _ _ _ _ _ _ us hl
   first
    |(obtain⟨a,e⟩:=HV hl;subst e;rfl)
    |(obtain⟨a,b,e⟩:=HW hl;subst e;rfl)
    |(obtain⟨a,b,c,e⟩:=HX hl;subst e;rfl)
    |(obtain⟨a,b,c,d,e⟩:=HY hl;subst e;rfl)
    |(obtain⟨a,b,c,d,e',e⟩:=HZ hl;subst e;rfl)):hV P w K mg base C m k ps sp:=by
 obtain⟨f,oc,od,kV,dc,pm,an,cd,ct,sl,a,i,b,c,d⟩:=e;exact⟨f,_,ok (fF b c d),⟨a,i,d⟩,.all fun us hl=>hb kV dc pm an cd ct us hl⟩
theorem Vk.made {x:Str} {sp:Sp} (e:Vk K C "__init__" qual st) (hm:PySem.W.makesIn K C=true) (hk:PySem.W.keepIn K (.ref C)=true) (hx:mg x=some (.ref C)) (ko:PX.hW K C) (P:Program) (w:World) (base:Heap)
  (ok:∀{f:Addr} {fd:FuncData},ar K "__init__" qual st f fd->aE P w K mg base (CX1 P w) k f fd ps sp)
  (hb:∀(kV dc pm:Value) (an:Option Addr) (cd ct:Value) (us:yad),us.length=ps.length->bindArgs (PySem.W.fnOf "__init__" qual (bG st) (bp st) (ah st) .none kV dc pm an cd ct) ⟨us,[]⟩=pure (ps.zip us):=by
   intro _ _ _ _ _ _ us hl
   first
    |(obtain⟨a,e⟩:=HV hl;subst e;rfl)
    |(obtain⟨a,b,e⟩:=HW hl;subst e;rfl)
    |(obtain⟨a,b,c,e⟩:=HX hl;subst e;rfl)
    |(obtain⟨a,b,c,d,e⟩:=HY hl;subst e;rfl)
    |(obtain⟨a,b,c,d,e',e⟩:=HZ hl;subst e;rfl)):F9 P w K mg base x C k sp:=by
 obtain⟨f,oc,od,kV,dc,pm,an,cd,ct,sl,a,i,b,c,d⟩:=e;exact⟨f,_,ps,ok (fF b c d),⟨hm,a,i,hk⟩,hx,ko,.all fun us hl=>hb kV dc pm an cd ct us hl⟩
end
section
variable{X:Cx}
structure Told(K:yac)(H:Hp)(b c t0:Addr)(k0:Int)(us ws qs:yar):Prop where
 hb:H b=some (.lst (.int k0::us))
 hc:H c=some (.lst (.ref t0::ws))
 ht:H t0=some (.tup (.ref b::qs))
 kb:K.lookup b=none
 kc:K.lookup c=none
 kt:K.lookup t0=none
end
end PD
namespace PZ
open PySem PySem.Spec PyProof.Rows
structure ZT(h:Heap)(xs ys:yao)(B:Addr)(as:yae):Prop where
 nd:as.Nodup
 ab:∀a∈as,B<=a
 pr:∀(j:Nat) (a:Addr),as[j]?=some a->∃x y,xs[j]?=some x/\ys[j]?=some y/\IsPair h a x y
end PZ
namespace PD
open PySem PySem.Spec PyProof.Rows L2
section
variable{X:Cx}{a b c:Expr}{ta tb tc:DE}{pos:Pos}
theorem tF {n k:Nat} {ps:yah} {sp:DSp} {x:Str} {p:Pos} (h:Pj X.prog X.w X.K X.mg X.base x k ps sp) (hr:aX n X.A) (hk:k<=n:=by decide) (hg:Gl X x:=by rfl) (PC:(x==("__debug__" : Str))=false:=by decide):Mv X (.Call (.Name x p) [] [] pos) (qi sp [] mH):=by obtain⟨f,fd,F,hm,hkp,hb⟩:=h;intro pins s σ H W ρ Q I rr h;refine Wh (cx I hg hm ?_ PC);refine PySem.W.callWith_K0 I.QI hkp ?_;exact zm (dds:=[]) (dsv:=[]) (ds:=[]) (vs:=[]) F (hr.mono hk) hb .nil (by simp) lM I rr .nil .nil h
end
def Lf(xs:yah)(cc:Addr)(cl:List (Str×Addr)):List (Str×Addr):=match xs with
 |[]=>cl
 |x::_=>(x,cc)::cl
structure CSC(osc sc:Scope)(xs ns:yah):Prop where
 kind:sc.kind=.function
 one:∃x,xs=[x]
 onecell:∀y∈sc.names,y.2=.cell->y.1∈xs
 names:∀y∈sc.names,y.2=.local->sc.names.lookup y.1=some .local
 tgt:∀x∈xs,sc.names.lookup x=some .cell
 free:∀y∈sc.names,y.2=.free->y.1∈ns/\osc.names.lookup y.1=some .cell
 cells:∀n∈ns,sc.names.lookup n=some .free/\osc.names.lookup n=some .cell
 nd:(xs++ns).Nodup
 lay:∀n acc,cellsFrom n sc.names acc=Lf xs n acc
 psh:∀h:Heap,pushCells h sc.names=h.push {cls:=.type "cell", data:=.cell none}
end PD
set_option linter.all false
set_option linter.all false
namespace PD
open PySem PySem.Spec PyProof.Rows L2 PX WC
def Vl(X:Cx)(e:Expr)(t:DE):Prop :=
 ∀ (pins:yab) (s:Shared) (σ:St) (H:Hp) (W:Own) (ρ:Ro) (Q:D->Prop),Inv X pins σ H s->Rel X W H σ ρ->t ρ Q →
  LL (model X.prog X.w) X.A (eval e X.env) (DP X pins σ W H Q) X.xe s
def WL(X:Cx)(e:Expr)(t:DT):Prop :=
 ∀ (pins:yab) (s:Shared) (σ:St) (H:Hp) (W:Own) (ρ:Ro) (Q:Bool->Prop),Inv X pins σ H s->Rel X W H σ ρ->t ρ Q →
  LL (model X.prog X.w) X.A (isTrue e X.env (eval e X.env)) (DTP X pins σ H Q) X.xe s
def Y5(X:Cx)(e:Expr)(t:DT):Prop :=
 ∀ (whole:Sem Value) (pins:yab) (s:Shared) (σ:St) (H:Hp) (W:Own) (ρ:Ro) (Q:Bool->Prop),Inv X pins σ H s->Rel X W H σ ρ->t ρ Q →
  LL (model X.prog X.w) X.A (isTrue e X.env whole) (DTP X pins σ H Q) X.xe s
def Y6(X:Cx)(es:yai)(t:DA):Prop :=
 ∀ (pos:Pos) (pins:yab) (s:Shared) (σ:St) (H:Hp) (W:Own) (ρ:Ro) (Q:yas->Prop),Inv X pins σ H s->Rel X W H σ ρ->t ρ Q →
  LL (model X.prog X.w) X.A (spliced (backTo pos (starEach es X.env))) (DAP X pins σ W H Q) X.xe s
def XD(X:Cx)(st:Stmt)(t:DS):Prop :=
 ∀ (pins:yab) (s:Shared) (σ:St) (H:Hp) (W:Own) (ρ:Ro) (E:eU),Inv X pins σ H s->Rel X W H σ ρ->t E ρ →
  LL (model X.prog X.w) X.A (exec st X.env) (UE X pins W H E) X.xe s
def iZ(X:Cx)(st:yal)(t:DS):Prop :=
 ∀ (pins:yab) (s:Shared) (σ:St) (H:Hp) (W:Own) (ρ:Ro) (E:eU),Inv X pins σ H s->Rel X W H σ ρ->t E ρ →
  LL (model X.prog X.w) X.A (execs st X.env) (UE X pins W H E) X.xe s
section
variable{X:Cx}{e a b:Expr}{es rest':yai}{te:DE}{tA tB:DT}{t u:DS}{tl:DA}{st:Stmt}{rest:yal}{pos:Pos}
theorem Mv.c(h:Mv X e te):Vl X e te:=fun pins s σ H W ρ Q I r q=>LL.of (h pins s σ H W ρ Q I r q)
theorem Tn.c(h:Tn X e tA):WL X e tA:=fun pins s σ H W ρ Q I r q=>LL.of (h pins s σ H W ρ Q I r q)
theorem Qc.c(h:Qc X es tl):Y6 X es tl:=fun p pins s σ H W ρ Q I r q=>LL.of (h p pins s σ H W ρ Q I r q)
theorem Q9.c(h:Q9 X st t):XD X st t:=fun pins s σ H W ρ E I r q=>LL.of (h pins s σ H W ρ E I r q)
theorem bq.c(h:bq X rest t):iZ X rest t:=fun pins s σ H W ρ E I r q=>LL.of (h pins s σ H W ρ E I r q)
theorem Y5.pt(h:Y5 X e tA):WL X e tA:=h _
theorem aV(h1:XD X st t)(h2:iZ X rest u):iZ X (st::rest) (B5 t u):=by
 intro pins s σ H W ρ E I r h;refine nK ((h1 pins s σ H W ρ {E with nx:=u E} I r h).LS fun f s1 ⟨W',σ',H',I',fw,q⟩=>?_);cases f with
 |next =>
  obtain⟨NQ,r',q⟩:=q;exact(h2 pins s1 σ' H' W' NQ E I' r' q).LS fun _ _ z=>z.up fw
 |ret v=>exact⟨W',σ',H',I',fw,q⟩
 |brk=>exact⟨W',σ',H',I',fw,q⟩
 |cont=>exact⟨W',σ',H',I',fw,q⟩
theorem qh{x:Str}{pos':Pos}(i:Nat)(hN:X.N.Nodup)(he:Vl X e te)(hi:X.N[i]?=some x:=by rfl)(hx:Loc X.env.scope x:=by first|exact Or.inl rfl|exact Or.inr rfl)(hs:swapsWith e (some (.Name x pos')) pos.line X.env=pure false:=by rfl)
  (hf:X.fn x=true∨X.env.scope.names.lookup x=some .local:=by first|exact .inl rfl|exact .inr rfl|assumption):XD X (.Assign [.Name x pos'] e pos) (rH i te):=by
 intro pins s σ H W ρ E I r h;refine Jy ((he pins s σ H W ρ _ I r h).LS fun u s1 ⟨v,H1,d,I1,r1,e1,hd,q1⟩=>?_) hs;exact dS I1 hN hi hx r1 (fun s2 I2=>⟨W.drop i,_,H1,I2,(OB.same e1).trans (OB.drop W H1 i),_,(r.same e1).put (Inv.V9 I1 hi) hd,q1⟩) hf
theorem yN{c:Expr}{a b:yal}{tc:DT}(hc:WL X c tc)(ha:iZ X a t)(hb:iZ X b u):XD X (.If c a b pos) (B2 tc t u):=by
 intro pins s σ H W ρ E I r h;refine Gi ((hc pins s σ H W ρ _ I r h).LS fun d s1 ⟨H1,I1,e1,q1⟩=>?_);cases d with
 |true=>exact(ha pins s1 σ H1 W ρ E I1 (r.same e1) q1).LS fun _ _ z=>z.up (OB.same e1)
 |false=>exact(hb pins s1 σ H1 W ρ E I1 (r.same e1) q1).LS fun _ _ z=>z.up (OB.same e1)
theorem qg(he:Vl X e te):XD X (.Return (some e) pos) (yR te):=by intro pins s σ H W ρ E I r h;exact Ds ((he pins s σ H W ρ _ I r h).LS fun u s1 ⟨v,H1,d,I1,r1,e1,hd,q1⟩=>⟨W,σ,H1,I1,OB.same e1,v,d,r1,hd,q1⟩)
theorem Gz(h:Vl X e te)(he:∀whole,isTrue e X.env whole=(do let v←whole;standAt e.pos;holding [v] (truthy v)):=by intro _;rfl):WL X e (dB te):=by intro pins s σ H W ρ Q I rr hw;refine Eg ((h pins s σ H W ρ _ I rr hw).LS fun vv s1 ⟨v,H1,x,I1,rv,e1,hx,q⟩=>?_) (he _);obtain⟨k,ek,q⟩:=mE q;subst ek;have hz:=hx.VH;subst hz;cases rv;exact Wj ⟨H1,I1,e1,q⟩
theorem Gy(ha:WL X a tA):WL X (.UnaryOp .Not a pos) (B4 tA):=by intro pins s σ H W ρ Q I rr h;exact Jx ((ha pins s σ H W ρ (fun c=>Q (!c)) I rr h).LS fun _ _ ⟨a,b,c,d⟩=>⟨a,b,c,d⟩)
theorem JB(ha:WL X a tA)(hb:Y5 X (.BoolOp .Or (b::rest') pos) tB):Y5 X (.BoolOp .Or (a::b::rest') pos) (dOr tA tB):=by
 intro wh pins s σ H W ρ Q I rr h;refine Gk ((ha pins s σ H W ρ _ I rr h).LS fun c s1 ⟨H1,I1,e1,q1⟩=>?_);cases c with
 |true=>exact⟨H1,I1,e1,q1⟩
 |false=>exact(hb wh pins s1 σ H1 W ρ Q I1 (rr.same e1) q1).LS fun _ _ ⟨H2,I2,e2,q2⟩=>⟨H2,I2,e1.trans e2,q2⟩
theorem GC(ha:WL X a tA):Y5 X (.BoolOp .Or [a] pos) tA:=by
 intro wh pins s σ H W ρ Q I rr h;refine Gk ((ha pins s σ H W ρ Q I rr h).LS fun c s1 e=>?_);cases c with
 |false=>exact LL.of (isTrue_or_nil e)
 |true=>exact e
theorem gq(ha:Vl X e te)(hr:Y6 X es tl)(hs:starEach (e::es) X.env=(false,eval e X.env)::starEach es X.env:=by rfl):Y6 X (e::es) (lD te tl):=by intro pos pins s σ H W ρ Q I rr h;rw[hs];show LL _ _ (spliced ((false,eval e X.env)::backTo pos (starEach es X.env))) _ _ s;refine vh ((ha pins s σ H W ρ _ I rr h).LS fun u s1 ⟨v,H1,x,I1,r1,e1,hx,q1⟩=>?_);exact(hr pos pins s1 σ H1 W ρ _ I1 (rr.same e1) q1).LS fun us s2 ⟨vs,H2,xs,I2,r2,e2,hxs,q2⟩=>⟨v::vs,H2,x::xs,I2,.cons r1 r2,e1.trans e2,af.cons (hx.same e2) hxs,q2⟩
theorem iZ.Qp(h:iZ X.Qp rest t):iZ X rest t:=fun pins s σ H W ρ E I r hw =>
 (h pins s σ H W ρ E (I.wish _) (r.wish _) hw).mono (fun _ _ q=>q.MZ) fun _ _ z=>False.elim z
end
structure FnC(P:Program)(w:World)(K:yac)(mg:yam)(base:Heap)(k:Nat)(f:Addr)(fd:FuncData)(ps:yah)(sp:DSp):Prop where
 len:∀vs H Q E,aJ K sp vs H Q E->vs.length=ps.length
 run:∀(A:Around) (outer:List Env) (s:Shared) (H:Hp) (args:Args) (us:yad) (vs:yar) (Q:VK) (E:XK),aX k A->mz P w K mg base A outer s H->BindsTo s fd args (ps.zip us)->Vals vs us->aJ K sp vs H Q E →
  aN (model P w) A (.call (.ref f) args) (CR (CX1 P w) outer P w H s Q E) s
def lC(P:Program)(w:World)(K:yac)(mg:yam)(base:Heap)(x:Str)(k:Nat)(ps:yah)(sp:DSp):Prop :=
 ∃ f fd,FnC P w K mg base k f fd ps sp/\mg x=some (.ref f)/\PySem.W.keepIn K (.ref f)=true/\Binds K fd ps []
section
variable{X:Cx}{k:Nat}{f:Addr}{fd:FuncData}{ps:yah}{sp:DSp}{x:Str}{p pos:Pos}{e:Expr}{es:yai}{t:DA}
theorem Be{Ed:Value->Prop}{XE:yaa}(F:FnC X.prog X.w X.K X.mg X.base k f fd ps sp)(hr:aX k X.A)(hb:Binds X.K fd ps [])
  {pins:yab} {σ:St} {H:Hp} {s:Shared} {W:Own} {ρ:Ro} {us:yad} {vs:yar} {ds:yas} {Q:D->Prop} (I:Inv X pins σ H s) (rr:Rel X W H σ ρ) (r:Vals vs us) (O6:af X.K W.bad H ds vs)
  (q:sp (ay ds) Q Ed) (hx:∀e s',CX1 X.prog X.w X.stack H s (fun c _ _=>Ed c) e s'->XE e s'):LL (model X.prog X.w) X.A (call (.ref f) us) (DP X pins σ W H Q) XE s:=by
 have Ut:aJ X.K sp vs H (fun v H'=>ai H H'/\∃d,Den X.K W.bad H' d v/\Q d) (fun c _ _=>Ed c) :=
  ⟨W.bad false,ay ds,Q,Ed,rr.tab,rr.tracked false,af.av (fun _ _=>Own.SH) ds vs O6,q,fun d v H' e h1 h2=>⟨e,d,Den.back rr.tracked h1,h2⟩,fun _ _ _ _ z=>z⟩
 have hl:us.length=ps.length:=by rw[<- r.length];exact F.len _ _ _ _ Ut
 refine LL.call ((F.run X.A X.stack s H ⟨us,[]⟩ us vs _ _ hr I.Xq (by have:=hb s us I.QI (by rw[V0];exact hl);rwa [V0]at this) r Ut).mono fun res s' hq=>?_);cases res with
 |error er=>exact hx er s' hq
 |ok fl =>
  cases fl with
  |ret u =>
   obtain⟨v,H2,I2,r2,e2,d,h1,h2⟩:=I.after hq;exact⟨v,H2,d,I2,r2,e2,h1,h2⟩
  |next=>exact False.elim hq
  |brk=>exact False.elim hq
  |cont=>exact False.elim hq
theorem bR {Ed:Value->Prop} (px:bj X Ed) (h:lC X.prog X.w X.K X.mg X.base x k ps sp) (hr:aX k X.A) (ha:Y6 X (e::es) t) (hg:Gl X x:=by rfl) (PC:(x==("__debug__" : Str))=false:=by decide)
  (he:starEach (e::es) X.env=(false,eval e X.env)::starEach es X.env:=by rfl) (Qj:(backTo pos (starEach es X.env)).any (·.1)=false:=by rfl):Vl X (.Call (.Name x p) (e::es) [] pos) (qj sp Ed [] t):=by
 obtain⟨f,fd,F,hm,hk,hb⟩:=h;intro pins s σ H W ρ Q I rr h;refine xO (cx I hg hm ?_ PC);refine xP (h₀:=X.base) I.ok.mod.Uz hk ((ha pos pins s σ H W ρ _ I rr h).LS fun us s1 ⟨vs,H1,ds,I1,r,e1,O6,q⟩=>⟨I1.QI,?_⟩) he Qj;exact(Be F hr hb I1 (rr.same e1) r O6 (by rwa [V0]at q) fun er s' hx=>px pins σ H1 W ρ s1 er s' I1 (rr.same e1) hx).LS fun _ _ z=>z.up e1
theorem DX:bj X.Qp fun _=>False:=fun _ _ _ _ _ _ _ _ _ _ h=>by obtain⟨_,_,_,_,_,_,_,_,_,_,_,_,_,z⟩:=h;exact z.elim
end
section
variable{P:Program}{w:World}{K:yac}{mg:yam}{base:Heap}
theorem ar.Yg{x qual:Str}{st:Stmt}{f:Addr}{fd:FuncData}{N ps:yah}{k:Nat}{sp:DSp}(F:ar K x qual st f fd)(S:aw N ps (ah st))(len:∀ds Q E,sp ds Q E->ds.length=ps.length)
  (PF:∀(cdv:Value) (A:Around) (outer:List Env) (s:Shared) (H:Hp) (E:XK) (Ed:Value->Prop),aX k (A.deeper (envOfC qual (ah st) s.heap.objs.size f cdv))->MadeX (bM (CX1 P w) P w K mg base N qual (ah st) f cdv A outer s H E) Ed->bj (bM (CX1 P w) P w K mg base N qual (ah st) f cdv A outer s H E) Ed->jP (bM (CX1 P w) P w K mg base N qual (ah st) f cdv A outer s H E) Ed →
   ∃ t,iZ (bM (CX1 P w) P w K mg base N qual (ah st) f cdv A outer s H E) (bp st) t/\∀ds Q,sp ds Q Ed->t {nx:=fun _=>Q .Nx,rt:=Q} (cb N ds)):FnC P w K mg base (k+1) f fd ps sp:=by
 obtain⟨oc,od,dV,kV,doc,pm,an,cdv,ct,Us,rfl,lk,RN⟩:=F.ex;have len':∀vs H Q E,aJ K sp vs H Q E->vs.length=ps.length:=fun vs H Q E h=>by obtain⟨_,ds,_,_,_,_,hd,hs,_⟩:=h;rw[hd.len];exact len ds _ _ hs
 refine⟨len',fun A outer s H args us vs Q E hr e0 hb r Ut=>?_⟩;have hl:=len' _ _ _ _ Ut;have KX:K.In s.heap:=e0.mod.Uz.keeps fun b o e=>(e0.bs b o e).1
 have lim:s.heap.NoLimit:=e0.mod.nolimit.keeps fun b o e=>(e0.bs b o e).1
 have UB:∀y∈ps.zip us,(ah st).names.lookup y.1=some .local∨((ah st).names.lookup y.1=some .cell/\((cellsFrom (s.heap.objs.size+1) (ah st).names []).lookup y.1).isSome=true):=fun⟨n,v⟩ hy=>by
  rcases S.par n (Zs hy).1 with q|q
  ·exact .inl q
  ·exact .inr ⟨q,PySem.W.cellsFrom_some _ _ _ (.inl q)⟩
 refine zH hr.depth (KX _ _ lk) rfl S.co S.gen rfl (PySem.W.codeRec_of KX RN) (hb _ _ _ _ ?_);refine wpAny_newFunctionEnv_cells S.kind UB fun env he s1 x=>?_
 subst he;refine⟨lim.keeps x.toInCall.keep,zI ?_⟩;obtain⟨Pb,ds,Qd,Ed,hT,hP,hd,hs,kq,ke⟩:=Ut;obtain⟨t,ht,kk⟩:=PF cdv A outer s H E Ed (hr.deeper _) (DL ke) (yt ke) (DJ ke);have I:Inv (bM (CX1 P w) P w K mg base N qual (ah st) f cdv A outer s H E) [] (start N vs) H s1:=mP S hr.hd e0 hl r x;refine(ht [] s1 (start N vs) H ⟨Pb,fun _=>none,fun a=>∃o,H a=some o⟩ _ _ I (Rel.start hP hd rfl hT) (kk ds Qd hs)).mono (fun fl s' hs=>?_) fun e s' hs=>hs
 have fin:∀{σ':St} {H':Hp} {v:V} {u:Value},Inv (bM (CX1 P w) P w K mg base N qual (ah st) f cdv A outer s H E) [] σ' H' s'->RelV v u->Q v H'->CE outer P w H s Q u s' :=
  fun {σ' H' v u} J rv q=>⟨v,H',J.os,J.bare,J.base,J.Nw,rv,q⟩
 obtain⟨W',σ',H',J,fw,q⟩:=hs;have sm:ai H H':=⟨fun b o e n=>fw.kp b o (fun i z=>by cases z) e n,fw.tb,fw.ok⟩;cases fl with
 |ret u =>
  obtain⟨v,d,rv,TR,q⟩:=q;refine fin J rv (kq d v H' sm (TR.MG fun t a z=>?_) q);rcases z with z|z
  ·exact .inl (by rw[fw.B];exact z)
  ·exact .inr (.inr ⟨z.1,by rw[fw.S];exact z.2⟩)
 |next =>
  obtain⟨NQ,r',q⟩:=q;exact fin (v:=V.Nx) (u:=Value.none) J rfl (kq .Nx .Nx H' sm Den.Nx q)
 |brk=>obtain⟨_,_,q⟩:=q;exact False.elim q
 |cont=>obtain⟨_,_,q⟩:=q;exact False.elim q
end
end PD
set_option linter.all false
namespace PD
open PySem PySem.Spec PyProof.Rows L2 PX WC
section
variable{X:Cx}{pos:Pos}
def rM(K:yac)(C:Addr)(i:Nat)(su:DS)(E:eU)(ρ:Ro)(cv:Value):Prop:=∃c,cv=.ref c/\bP K c/\PySem.W.exmOne K (.ref c) (.ref C)=some true ∧
 su ⟨fun NQ=>E.nx (NQ.set i none),E.rt,fun NQ=>E.bk (NQ.set i none),fun NQ=>E.ct (NQ.set i none)⟩ (ρ.set i (some (.val (.exc c))))
theorem zN{C:Addr}{x n:Str}{np hp:Pos}{UM:Stmt}{Sk:yal}{su:DS}(i:Nat)(hN:X.N.Nodup)(hmx:X.mg x=some (.ref C))(hsu:∀v,bq (Cx.markX X v) (UM::Sk) su)(hgx:Gl X x)(hi:X.N[i]?=some n)(Y7:X.env.scope.names.lookup n=some .local)
  (hex:X.ex=[]) (Py:X.stack=X.env::X.outer) (VB:X.env.frame=some X.env.locals) (hdx:(x==("__debug__" : Str))=false) {pins:yab} {s1 s':Shared} {σ:St} {H H1:Hp} {W:Own} {ρ:Ro} {E:eU} {er:Value}
  (I1:Inv X pins σ H1 s1) (Y8:Rel X W H1 σ ρ) (e1:ai H H1) (hx:CX1 X.prog X.w X.stack H1 s1 (fun c _ _=>rM X.K C i su E ρ c) er s') :
  wpAny (model X.prog X.w) X.A (noteFrame er X.env) (fun _ LN=>wpAny (model X.prog X.w) X.A (setFlight er none) (fun _ OJ=>wpAny (model X.prog X.w) X.A (handleBy er X.env [.ExceptHandler (some (.Name x np)) (some n) (UM::Sk) hp]) (UE X pins W H E) X.xe OJ) X.xe LN) X.xe s':=by
 have ist:i<σ.length:=Inv.V9 I1 hi;obtain⟨ea,c,H',B,a0,rfl,os,bare,Ff,sm,hn,Uw,fl,c',Ti,xk,exm,hsu'⟩:=hx;cases Ti;have fr':X.A.frames=some (X.env::X.outer):=by rw[<- Py];exact I1.ok.frames
 rw[Py]at fl;refine wpAny_looks_onW fr' VB fl fun h4 x4 u4=>wpAny_landsW x4 fun h5 x5 u5=>?_
 have F5:=(Ff.step x4.1 u4).step x5.1 u5;have I5:Inv X pins σ H' {s' with heap:=h5}:=I1.RO os F5.un F5.Nw bare (by intro b z;cases z);have ex_:∀{h':Heap},Heap.FlyingW B (X.env::X.outer) ea (.ref c) a0 h'->ExcAt ea c h':=fun {h'} x=>by obtain⟨oe,ws,q1,q2,q3,_⟩:=x.first;exact⟨oe,ws,q1,q2,q3⟩
 refine wpAny_handleBy_cons (codeAny_handlers_test (cx (Inv.marked I5 (.ref ea)) hgx hmx ?_ hdx)) (by intro q;cases q);refine(PySem.W.exm_one I5.QI (ExcAt.ty (ex_ x5)) exm).here ?_;refine codeAny_handlers_suite_as (lands_againW x5 fun h6 x6 u6=>?_);have F6:=F5.step x6.1 u6;have I6:Inv X pins σ H' {s' with heap:=h6}:=I1.RO os F6.un F6.Nw bare (by intro b z;cases z);have I7:Inv X pins σ (L2.upd H' ea (.ext (ExcAt ea c))) {s' with heap:=h6}:=by
  refine Inv.track I6 hn ?_ ?_ (fun y c' q z=>?_) (fun p hp z=>?_) ⟨ex_ x6,?_,fun h1 h2 q z=>?_⟩
  ·cases q:X.MY.heap.get? ea with
   |none=>rfl
   |some o =>
    by_cases hx:ea∈X.ex
    ·rw[hex]at hx;cases hx
    ·obtain⟨o',q'⟩:=I1.base.there ea o q hx;rw[Uw]at q';cases q'
  ·intro z;obtain⟨m,⟨o,_,_,q,_⟩,_⟩:=I1.loc;rw[<- z,Uw]at q;cases q
  ·obtain⟨w',o,z',_⟩:=I1.cell y c' q;rw[z,Uw]at z';cases z'
  ·have:=(I1.pin p hp).1;rw[z,Uw]at this;cases this
  ·obtain⟨oe,ws,q1,_⟩:=ex_ x6;exact⟨oe,q1⟩
  ·obtain⟨oe,ws,q1,q2,q3⟩:=q;exact⟨oe,ws,z _ q1,q2,q3⟩
 have smu:ai H' (L2.upd H' ea (.ext (ExcAt ea c))):=ai.upd hn;refine dS (X:=Cx.markX X (.ref ea)) (v:=.ref ea) (Inv.marked I7 (.ref ea)) hN hi (.inl Y7) rfl (fun s7 J7=>?_) (.inr Y7);have XA:Rel X (W.drop i) (L2.upd H' ea (.ext (ExcAt ea c))) (σ.set i (some (.ref ea))) (ρ.set i (some (.val (.exc c)))):=((Y8.same sm).same smu).put ist (Den.exc ax xk);refine O3 (hsu (.ref ea) pins s7 _ _ _ _ _ J7 (Rel.marked XA _) hsu') (fun fw s8 q8=>?_) fun _ _ z=>False.elim z
 obtain⟨W8,σ8,H8,J8,f8,q8⟩:=q8;have ff:OB W H (W8.drop i) H8:=(OB.same ((e1.trans sm).trans smu)).trans ((OB.drop W _ i).trans (f8.trans (OB.drop W8 H8 i)));refine AM (Inv.unmark J8 I1.ok) hN hi Y7 fun s9 I9=>⟨W8.drop i,_,H8,I9,ff,?_⟩
 cases fw with
 |next=>obtain⟨ρ8,r8,n8⟩:=q8;exact⟨_,(Rel.unmark r8).unset (Inv.V9 (Inv.unmark J8 I1.ok) hi),n8⟩
 |brk=>obtain⟨ρ8,r8,n8⟩:=q8;exact⟨_,(Rel.unmark r8).unset (Inv.V9 (Inv.unmark J8 I1.ok) hi),n8⟩
 |cont=>obtain⟨ρ8,r8,n8⟩:=q8;exact⟨_,(Rel.unmark r8).unset (Inv.V9 (Inv.unmark J8 I1.ok) hi),n8⟩
 |ret v=>obtain⟨x8,d8,r8,h8,n8⟩:=q8;exact⟨x8,d8,r8,h8.MG fun _ _=>Own.O5,n8⟩
def JN(K:yac)(C:Addr)(i j:Nat)(sp:DSp)(t:DA)(su:DS):DS:=fun E ρ=>t ρ fun ds=>sp (ay ds) (fun d=>E.nx (ρ.set j (some (.val d)))) (rM K C i su E ρ)
end
end PD
set_option linter.all false
namespace PD
open PySem PySem.Spec PyProof.Rows L2 PX WC
section
variable{X:Cx}{es:yai}{t:DA}{pos:Pos}
theorem Gr(h:Y6 X es t):Vl X (.List es pos) (B3 t):=by
 intro pins s σ H W ρ Q I rr hq;refine Gj ((h pos pins s σ H W ρ _ I rr hq).LS fun us s1 ⟨vs,H1,ds,I1,r,e1,hd,z,q⟩=>?_);rw[<- hd.len]at z;refine⟨by rw[<- r.length];exact z,?_⟩;have hf:H1 s1.heap.objs.size=none:=I1.Nw.fresh (O2 _);exact⟨.ref s1.heap.objs.size,L2.upd H1 s1.heap.objs.size (.lst vs),_,I1.laid (t':=s1.toks) (fun b u e=>P7 _ e) (O2 _) ⟨z,us,0,r,Rm _ rfl⟩,rfl,e1.trans (ai.upd hf),
  Den.lst ((rr.same e1).fresh hf) (.new ax (Inv.Pq I1)) (hd.same (ai.upd hf)),q⟩
theorem ar.okKN{P:Program}{w:World}{K:yac}{mg:yam}{base:Heap}{x qual:Str}{st:Stmt}{f:Addr}{fd:FuncData}{N ps:yah}{k:Nat}{sp:DSp}(F:ar K x qual st f fd)(S:aw N ps (ah st))(len:∀ds Q E,sp ds Q E->ds.length=ps.length)
  (PF:∀(cdv:Value) (A:Around) (outer:List Env) (s:Shared) (H:Hp) (E:XK),aX k (A.deeper (envOfC qual (ah st) s.heap.objs.size f cdv)) →
   ∃ t,iZ (bM (CX1 P w) P w K mg base N qual (ah st) f cdv A outer s H E).Qp (bp st) t/\∀ds Q Ed,sp ds Q Ed->t {nx:=fun _=>Q .Nx,rt:=Q} (cb N ds)):FnC P w K mg base (k+1) f fd ps sp :=
 ar.Yg F S len fun cdv A outer s H E Ed hr _ _ _=>by obtain⟨t,ht,k⟩:=PF cdv A outer s H E hr;exact⟨t,ht.Qp,fun ds Q h=>k ds Q Ed h⟩
theorem FL.Vm{K:yac}{x:Str}{st:Stmt}{h:Heap}{mg:yam}{k:Nat}{ps:yah}{sp:DSp}(e:FL K x st)(P:Program)(w:World)(base:Heap)(X:K.In h)(G:h.Ns mainGlobals mg)
  (ok:∀{f:Addr} {fd:FuncData},ar K x x st f fd->FnC P w K mg base k f fd ps sp)
  (hb:∀(kV dc pm:Value) (an:Option Addr) (cd ct:Value),pb ps.length fun us=>bindArgs (PySem.W.fnOf x x (bG st) (bp st) (ah st) .none kV dc pm an cd ct) ⟨us,[]⟩=pure (ps.zip us):=by
   repeat intro _
   rfl):lC P w K mg base x k ps sp:=by
 obtain⟨f,oc,od,kV,dc,pm,an,cd,ct,sl,a,b,c,d⟩:=e;exact⟨f,_,ok (fF b c d),PySem.W.mg_of X G a,d,.all fun us hl=>kT us hl (hb kV dc pm an cd ct)⟩
end
end PD
set_option linter.all false
set_option maxRecDepth 100000
namespace TX
open PySem PySem.Spec PySem.W WC PySem.Calls PySem.NumText PyProof.Rows L2 PD
theorem Ik (x:Str) (u:Tok):Builtin.«int.__new__» ⟨[.type "int", .str x u],[]⟩=((int_private% "intFromObject") (.str x u) >>= fun v=>ret v):=by unfold Builtin.«int.__new__»;simp only[F.conv_sub_int,F.madeHere_int,isType,pure_bind,Sd,List.length_nil,List.isEmpty_nil,Bool.not_true,X0,if_false,if_true];rfl
theorem Im (x:Str) (u:Tok):(int_private% "intFromObject") (.str x u)=(int_private% "intFromText") (.str x u) (numTextOf x) 10:=by
 have f6:typeOf (.str x u)=pure (.type "str"):=rfl;have a:callSpecial? (.str x u) "__int__" = pure none:=by unfold callSpecial?;simp only[specialOf,f6,KIN.str_int,pure_bind]
 have b:specialOf (.str x u) "__index__" = pure none:=by simp only[specialOf,f6,KIN.str_idx,pure_bind]
 have c:specialOf (.str x u) "__trunc__" = pure none:=by simp only[specialOf,f6,KIN.str_trunc,pure_bind]
 show(callSpecial? (.str x u) "__int__" >>= _)=_;rw[a,pure_bind];show(specialOf (.str x u) "__index__" >>= _)=_;rw[b,pure_bind];show(specialOf (.str x u) "__trunc__" >>= _)=_;rw[c,pure_bind];rfl
def refuse(x:Str)(u:Tok):Sem Value:=do
 rule "int.__new__.invalid-literal"
 let shown←pyRepr (.str x u)
 let refusal←newExc (.type "ValueError") [<- mkStr (((s!"invalid literal for int() with base {10}: " : String)++⟨shown.cps.extract 0 200⟩:Str))]
 markTheRefusal ["int.__new__"] refusal
 raiseNew refusal
theorem FQ (x:Str) (u:Tok) (hl:x.length<=640) (hn:PySem.intText? x=none):(int_private% "intFromText") (.str x u) (numTextOf x) 10=refuse x u:=by
 have hs:(numSeenOf x).length<=640:=Sw (seen_length x) hl;show(do
  let limit←if(numSeenOf x).length<=640 then pure 0 else _
  _:Sem Value)=_
 rw[LX hs,pure_bind];dsimp only;rcases read0 x hs with⟨n,h,_⟩| ⟨_,h|⟨i,h,h2⟩⟩
 ·rw[hn]at h;cases h
 ·rw[h];rfl
 ·rw[h];show(if((numSeenOf x).length==(numTextOf x).length)=true then _ else _)=_;rw[LO h2];rfl
theorem Ih{M:Model}{A:Around}{own:List String}{e:Value}{s:Shared}{Q:Unit->Shared->Prop}{E:yaa}(h:Q () s):LL M A (markTheRefusal own e) Q E s:=by
 intro Γ p R5 c;unfold markTheRefusal;rw[Sem.wp_bind'];show Sem.wp M Γ (if pythonCodeMadeTheCall own (((Γ.code,p)::Γ.below).map (·.1))=true then _ else _) _ _ p s;have:pythonCodeMadeTheCall own (((Γ.code,p)::Γ.below).map (·.1))=false:=by
  unfold pythonCodeMadeTheCall;have a:((((Γ.code,p)::Γ.below).map (·.1)).any fun c=>match c with|.builtin "claim.caller" _=>true|_=>false)=true:=by
   rw[Sv,List.any_cons];have c':(Γ.below.any fun x=>x.1.isCaller)=true:=c;rw[List.any_map];rw[show(Γ.below.any ((fun c=>match c with|.builtin "claim.caller" _=>true|_=>false)∘fun x=>x.1))=true from c',Bool.or_true]
  exact Bool.and_eq_false_iff.mpr (.inl (Bool.and_eq_false_iff.mpr (.inl (congrArg (!·) a))))
 rw[LO (by rw[this];decide)];exact h
theorem CY{prog:Program}{w:World}{A:Around}{x:Str}{u:Tok}{s:Shared}{Q:yaa}{E:yaa}(hl:x.length<=640)(hx:∀c∈x.cps.toList,c<256)(hh:A.handled=none)
  (h:∀h' tk e t y,Heap.MadeExc s.heap h' e "ValueError" [.str y t]->E (.ref e) {s with heap:=h',toks:=tk}):LL (model prog w) A (refuse x u) Q E s:=by
 unfold refuse;refine LL.NS (wpAny_rule (LL.NS (wpAny_pyRepr_str (LL.NS (wpAny_mkStr (LL.NS (wpAny_newExc_plain ?_ fun h' e m=>?_)) ?_)) ?_)))
 ·exact plainExc_ValueError
 ·exact LL.bind (Ih (LL.of (wpAny_raiseNew_none hh (h _ _ _ _ _ m))))
 ·rw[TM];show(Array.size (_++Array.extract _ 0 200))<=_;rw[Array.size_append,Array.size_extract];have:(Str.ofString (s!"invalid literal for int() with base {10}: ")).cps.size<=1000:=by decide +kernel
  omega
 ·have:=StrLaws.reprText_len x fun c hc=>Nat.lt_trans (hx c hc) (by decide)
  rw[TM];omega
theorem Kz (v:Value):∃k,Builtin.«type.__call__» ⟨[.type "int", v],[]⟩=(holding [.builtin "int.__new__"] (PySem.call (.builtin "int.__new__") [.type "int", v]) >>= k):=by obtain⟨c,tl,hm⟩:=F.called_int.mro;unfold Builtin.«type.__call__»;simp only[F.called_int.notType,X0,if_false,F.called_int.canCreate,F.typeCall_int_1,pure_bind,hm,List.isEmpty_cons,F.called_int.made];exact⟨_,rfl⟩
section
variable{prog:Program}{w:World}{A:Around}{s:Shared}{R:Result->Shared->Prop}
theorem tD{id:String}{args:Args}{b:Builtin}(hb:entryFor table id=some b)
  (h:LL (model prog w) (A.under (.builtin id args)) (b args) (fun fin s'=>match fin with|.done f=>R (.ok f) s'|.again c'=>c'.quiet=true/\aN (model prog w) A c' R s') (fun e s'=>R (.error e) s') s) :
  aN (model prog w) A (.builtin id args) R s:=by
 refine aN.tree ?_;show LL _ _ (match entryFor table id with|some b=>b args|none=>unsupported ((withoutEnding? id "#data").getD id)) _ _ s;rw[hb];exact h
theorem Ec{id:String}{args:Args}(hq:(Code.builtin id args).quiet=true)(hc:checkBuiltinCall id args=pure ())(h:aN (model prog w) A (.builtin id args) R s):aN (model prog w) A (.call (.builtin id) args) R s:=by refine aN.tree ?_;show LL _ A.in1 (do checkBuiltinCall id args;again (.builtin id args)) _ _ s;rw[hc,pure_bind];exact LL.pure ⟨hq,h⟩
theorem Ee {T:String} {args:Args} (h:aN (model prog w) A (.builtin "type.__call__" ⟨.type T::args.pos,args.kw⟩) R s):aN (model prog w) A (.call (.type T) args) R s:=by refine aN.tree ?_;show LL _ _ (callAny (.type T) args) _ _ _;exact LL.pure ⟨Code.quiet_builtin _ (by decide +kernel),h⟩
end
theorem J3{prog:Program}{w:World}{A:Around}{x:Str}{u:Tok}{s:Shared}{Q:yaa}{E:yaa}(hl:x.length<=640)(hx:∀c∈x.cps.toList,c<256)(hn:PySem.intText? x=none)(hh:A.handled=none)
  (h:∀h' tk e t y,Heap.MadeExc s.heap h' e "ValueError" [.str y t]->E (.ref e) {s with heap:=h',toks:=tk}):LL (model prog w) A (PySem.call (.type "int") [.str x u]) Q E s:=by
 obtain⟨k,e⟩:=Kz (.str x u);refine LL.call (Ee (tD F.entry_type_call ?_));rw[e,Around.under_plain (weight_type_call_type "int" [.str x u] []) (units_type_call_type "int" [.str x u] [])];refine LL.bind (LL.holding (LL.call (Ec (Code.quiet_builtin _ (by decide +kernel)) (F.newCall_int_1 _) (tD F.entry_int_new ?_))));rw[Ik,Im,FQ x u hl hn,Around.under_plainId (by decide +kernel)];exact LL.bind (CY hl hx hh h)
end TX
set_option linter.all false
set_option maxRecDepth 100000
namespace TX
open PySem PySem.Spec PySem.W WC PySem.Calls PySem.NumText PyProof.Rows L2 PD PX
theorem ui:entryFor table "proto.unchain" = some Builtin.«proto.unchain»:=entryFor_of_tree (by kernel_rfl)
section
variable{prog:Program}{w:World}{A:Around}{E:yaa}{env:Env}
variable{nm q:Str}{C N:Addr}{bs bm:yad}{hdct:Bool}{sn:yah}{sub:yad}{ab:Bool}{col:Option Bool}{dd:Option Addr}{k0 k1 k2 k3 k5:yan}{newId:String}
theorem zh {s:Shared} {x c:Sem Value} {eh:Addr} {Q:Flow->Shared->Prop} (Po:bm.contains (.type "BaseException")=true) (hh:A.handled=some (.ref eh))
  (h:wpAny (model prog w) A x (fun v LP=>∃e t oh vs,v=.ref e/\LP.heap.get? C=some (excClassObj nm q C N bs bm hdct sn sub ab col dd k0 k1 k2 k3 k5 newId) ∧
   LP.heap.get? e=some {cls:=.ref C,data:=.fields #[.ref t,.none,.none,.none,.bool false,.none]}/\LP.heap.get? eh=some oh/\oh.data=.fields vs/\vs[2]?=some .none/\eh≠e/\C≠e ∧
   (∀{Q':yaa},Q' .none LP->wpAny (model prog w) A c Q' E LP) ∧
   ∀ h',h'.get? e=some {cls:=.ref C,data:=.fields #[.ref t,.none,.ref eh,.none,.bool true,.none]}->(∀b,b≠e->h'.get? b=LP.heap.get? b)->E (.ref e) {LP with heap:=h'}) E s) :
  wpAny (model prog w) A (raiseStmt env (some x) (some c)) Q E s:=by
 have hcB:(Value.ref C::bm).contains (.type "BaseException")=true:=by rw[List.contains_cons,Po,Bool.or_true]
 unfold raiseStmt;refine L3 (O3 h (fun v LP OI=>?_) fun _ _ x=>x);obtain⟨e,t,oh,vs,rfl,hC,he,hoh,hvs,h2,ne,nC,hc,hE⟩:=OI;refine L3 (S8 (hc (L3 (OQ ?_))));obtain⟨hp,g,d,tk,os⟩:=LP
 repeat (first|with_reducible refine wpAny_loadPart_at he ?_|with_reducible refine wpAny_loadPart_at hC ?_|(with_reducible refine wpAny_isSubtype_exc hC ?_;rw[hcB])|wp_step)
 have h3:((hp.update e (Obj.mapFields fun x=>x.setIfInBounds 3 Value.none)).update e (Obj.mapFields fun x=>x.setIfInBounds 4 (Value.bool true))).get? e=some {cls:=.ref C,data:=.fields #[.ref t,.none,.none,.none,.bool true,.none]}:=by have a:=XZ (Obj.mapFields fun x=>x.setIfInBounds 3 Value.none) he rfl;exact XZ (Obj.mapFields fun x=>x.setIfInBounds 4 (Value.bool true)) a rfl
 have T6:∀b,b≠e->((hp.update e (Obj.mapFields fun x=>x.setIfInBounds 3 Value.none)).update e (Obj.mapFields fun x=>x.setIfInBounds 4 (Value.bool true))).get? b=hp.get? b:=fun b hb=>by rw[WX _ _ (Ne.symm hb),WX _ _ (Ne.symm hb)]
 generalize (hp.update e (Obj.mapFields fun x=>x.setIfInBounds 3 Value.none)).update e (Obj.mapFields fun x=>x.setIfInBounds 4 (Value.bool true))=hq at h3 T6 ⊢;unfold raiseNew;refine L3 (wpAny_handled ?_);rw[hh];have nb:(Value.ref eh != Value.ref e)=true:=by simpa using ne
 show wpAny _ _ (if(Value.ref eh != Value.ref e)=true then _ else _) _ _ _;rw[LX nb];have hoh':hq.get? eh=some oh:=(T6 eh ne).trans hoh;refine L3 (S8 (wpAny_runValue (codeAny_builtin ui ?_)));show wpAny _ _ (field (.ref eh) 2 >>= _) _ _ _;refine L3 (Tg hoh' hvs h2 ?_);show wpAny _ _ (ret .none) _ _ _;refine OQ ?_;show wpAny _ _ (updateField e 2 (.ref eh) >>= _) _ _ _;refine L3 (Yq (a:=e) (i:=2) (x:=.ref eh) h3 rfl (by show 2<6;decide) (wpAny_throw (hE _ ?_ fun b hb=>?_)))
 ·exact XZ _ h3 rfl
 ·rw[WX _ _ (Ne.symm hb)];exact T6 b hb
end
end TX
set_option linter.all false
set_option maxRecDepth 100000
namespace PD
open PySem PySem.Spec PyProof.Rows L2 PX WC TX
theorem Ej{M:Model}{A:Around}{E:yaa}{s:Shared}{pos:Pos}{T:String}{first:yad}{args:List (Bool×Sem Value)}{Q:yaa}(PJ:args.any (·.1)=false)
  (h:LL M A (evalArgs (.type T) true args []) (fun a LP=>LL M A (PySem.call (.type T) (first++a.pos) a.kw) Q E LP) E s):LL M A (callWith pos (.type T) first args []) Q E s:=by
 unfold callWith;refine LL.bind (LL.holding (h.LS fun a s1 z=>LL.OX ?_));simp only[PJ,List.any_nil,Bool.or_false];exact LL.bind (LL.pure (LL.bind (z.LS fun r s2 hr=>LL.of (L3 (S8 (wpAny_point (OQ hr)))))))
def yJ(h:Heap)(e:Addr):Prop:=∃oe vs,h.get? e=some oe/\oe.data=.fields vs/\vs[2]?=some .none
theorem yp{M:Model}{A:Around}{E:yaa}{s:Shared}{base:Heap}{outer:List Env}{env:Env}{e L:Addr}{oe:Obj}{vs:yao}{a0:Value}{Q:Unit->Shared->Prop}(YI:A.frames=some (env::outer))(hf:env.frame=some L)
  (he:s.heap.get? e=some oe) (hd:oe.data=.fields vs) (h1:vs[1]?=some .none) (h0:vs[0]?=some a0) (hkb:base.StaysIn s.heap) (hen:base.get? e=none) (hl:s.heap.FunFrames base (env::outer))
  (h:∀h',eG base (env::outer) e oe.cls a0 h'->s.heap.UpToSlots h'->(vs[2]?=some .none->yJ h' e)->Q () {s with heap:=h'}):wpAny M A (noteFrame (.ref e) env) Q E s:=by
 unfold noteFrame;simp only[hf];refine L3 (Tg he hd h1 ?_);rw[LO (by decide)];have z1:1<vs.size:=(ZM.mp h1).1;have ne:∀b o,s.heap.get? b=some o->(∀vs,o.data ≠ .fields vs)->b≠e:=fun b o hb n q=>by rw[q,he]at hb;cases hb;exact n vs hd
 have nf:e∉(env::outer).filterMap (·.frame):=fun hm=>by obtain⟨_,o,ho,n⟩:=hl.mem hm;exact ne e o ho n rfl
 refine L3 (wpAny_frameOf_fun YI hl hf fun g k=>L3 (wpAny_entryPlaceOf fun pl Qj=>?_));unfold EntryCells.newEntry newFields;refine L3 (ZW ?_ (Qj.sizeOk5 _ _ _ _ _));have e1:g.get? e=some oe:=(k.2.1 e nf).trans he;have kb:base.StaysIn g:=fun b o q=>(k.2.1 b fun hm=>by rw[(hl.mem hm).1]at q;cases q).trans (hkb b o q)
 have h5:∃fl,([Value.none,Value.ref L,.none,rawInt L,.none]++(if pl.isEmpty then List.replicate 6 Value.none else pl)).toArray[3]?=some fl:=⟨rawInt L,by first|(simp;done)|(rcases Qj with rfl|⟨_,_,_,_,_,_,_,rfl⟩<;>simp)⟩;generalize ([Value.none,Value.ref L,.none,rawInt L,.none]++(if pl.isEmpty then List.replicate 6 Value.none else pl)).toArray=ts at h5 ⊢;have e2:=P7 (h:=g) {cls:=.type "traceback", dict:=none,data:=.fields ts} e1;have T1:=Rm (o:={cls:=.type "traceback", dict:=none,data:=.fields ts}) g rfl;have kp:∀b o,g.get? b=some o->(g.push {cls:=.type "traceback", dict:=none,data:=.fields ts}).get? b=some o:=fun b o q=>P7 _ q
 have nT:g.objs.size≠e:=Nat.ne_of_gt (O8 e1);generalize g.push {cls:=.type "traceback", dict:=none,data:=.fields ts}=g2 at e2 T1 kp ⊢;refine Yq e2 hd z1 (h _ ?_ ?_ fun z2=>?_)
 ·have keep:∀b o,b≠e->g.get? b=some o->(g2.update e (Obj.mapFields (·.setIfInBounds 1 (Value.ref g.objs.size)))).get? b=some o:=fun b o q r=>(WX _ _ (Ne.symm q)).trans (kp b o r)
  have d3:=Obj.data_mapFields hd (·.setIfInBounds 1 (Value.ref g.objs.size));refine⟨fun b o q=>keep b o (fun z=>by rw[z,hen]at q;cases q) (kb b o q),hen,hl.of_keeps fun b o q n=>?_,?_⟩
  ·obtain⟨sl,r⟩:=k.2.2 b o q;exact⟨_,keep b _ (ne b o q n) r,rfl⟩
  ·obtain⟨fl,h5⟩:=h5;exact⟨fl,_,_,g.objs.size,_,_,XZ (Obj.mapFields (·.setIfInBounds 1 (Value.ref g.objs.size))) e2 (Obj.isFreed_of_fields d3),⟨Obj.cls_mapFields _ _,by rw[Array.getElem?_setIfInBounds_ne (by decide)];exact h0⟩,d3,by simp[z1],kb.fresh,nT,(WX _ _ (Ne.symm nT)).trans T1,rfl,h5⟩
 ·intro b o q n;obtain⟨sl,r⟩:=k.2.2 b o q;exact⟨sl,(WX _ _ (Ne.symm (ne b o q n))).trans (kp b _ r)⟩
 ·have d3:=Obj.data_mapFields hd (·.setIfInBounds 1 (Value.ref g.objs.size));exact⟨_,_,XZ (Obj.mapFields (·.setIfInBounds 1 (Value.ref g.objs.size))) e2 (Obj.isFreed_of_fields d3),d3,by rw[Array.getElem?_setIfInBounds_ne (by decide)];exact z2⟩
theorem markV{M:Model}{A:Around}{E:yaa}{s:Shared}{base:Heap}{l:List Env}{e:Addr}{cls a0:Value}{fr:Option Addr}{Q:Unit->Shared->Prop}(R:eG base l e cls a0 s.heap)(V:yJ s.heap e)
  (h:∀h',eG base l e cls a0 h'->s.heap.UpToSlots h'->yJ h' e->Q () {s with heap:=h'}):wpAny M A (setFlight (.ref e) fr) Q E s:=by
 obtain⟨k1,k2,k3,fl,oe,vs,T,oT,ts,g1,g2,g3,g4,g5,g6,g7,g8,g9⟩:=R;have z3:3<ts.size:=(ZM.mp g9).1;have T6:∀b,b≠T->(s.heap.update T (Obj.mapFields (·.setIfInBounds 3 (fr.elim Value.none fun f=>rawInt f)))).get? b=s.heap.get? b:=fun b hb=>WX _ _ (Ne.symm hb)
 have UH:∀b o,s.heap.get? b=some o->(∀vs,o.data ≠ .fields vs)->b≠T:=fun b o hb hn q=>by rw[q,g7]at hb;cases hb;exact hn ts g8
 unfold setFlight;refine L3 (Tg g1 g3 g4 ?_);rw[LX (by simp)];refine Yq g7 g8 z3 (h _ ⟨fun b o hb=>(T6 b fun q=>by rw[q,g5]at hb;cases hb).trans (k1 b o hb),k2,k3.of_keeps fun b o hb hn=>⟨o,(T6 b (UH b o hb hn)).trans hb,rfl⟩,?_⟩ (fun b o hb hn=>⟨o.slots,(T6 b (UH b o hb hn)).trans hb⟩) ?_)
 ·exact⟨_,oe,vs,T,_,_,(T6 e (Ne.symm g6)).trans g1,g2,g3,g4,g5,g6,XZ _ g7 (Obj.isFreed_of_fields (Obj.data_mapFields g8 _)),Obj.data_mapFields g8 _,by simp[z3];rfl⟩
 ·obtain⟨oe',vs',v1,v2,v3⟩:=V;exact⟨oe',vs',(T6 e (Ne.symm g6)).trans v1,v2,v3⟩
section
variable{X:Cx}{pins:yab}{σ:St}{H:Hp}{s:Shared}
theorem EH(I:Inv X pins σ H s):Fl X.prog X.w X.stack s.heap H H (PySem.W.hideAll s.heap (RM X.stack)) s.heap :=
 ⟨Un.refl,I.Nw,fun b hb=>⟨I.Sx b hb,by obtain⟨_,o,e,d⟩:=I.stack.mem hb;exact⟨o,e,d⟩⟩,fun b o e _ n=>PySem.W.hideAll_get _ e n⟩
theorem EG(I:Inv X pins σ H s):s.heap.FunFrames (PySem.W.hideAll s.heap (RM X.stack)) X.stack:=PySem.W.funFrames_hide I.stack fun env he b hb=>ZR.mpr ⟨env,he,hb⟩
end
theorem FV:isSubtype (.type "ValueError") (.type "BaseException")=pure true:=by rw[isSubtype_type];kernel_rfl
theorem FW:isSubtype (.type "ValueError") (.type "ValueError")=pure true:=by rw[isSubtype_type];kernel_rfl
theorem Jj:isSubtype (.type ((Manifest.find? "ValueError").elim "type" fun x=>x.metatype)) (.type "tuple")=pure false:=by rw[isSubtype_type];kernel_rfl
def Dx(Ed:Value->Prop)(C:Addr)(te:DE):DS:=fun E ρ=>te ρ fun d=>∃x,d=.str x/\x.length<=640/\(∀c∈x.cps.toList,c<256)/\match PySem.intText? x with
 |some n=>E.rt (.int n)
 |none=>Ed (.ref C)
section
variable{X:Cx}{pos:Pos}
set_option maxHeartbeats 1000000 in
theorem Gw {x:Str} {C:Addr} {e:Expr} {te:DE} {Ed:Value->Prop} {p cp rp vp np M0 mp kp pos' hp:Pos} {msg:Str} {j j':Nat} (px:jP X Ed) (hc:X.calm=true) (hm:X.mg x=some (.ref C)) (q:PySem.W.excIn X.K C cJ "ValueError.__new__" = true) (hmi:X.mg "int" = none) (hmv:X.mg "ValueError" = none)
  (he:Mv X.Qp e te) (hg:Gl X x:=by rfl) (hgi:Gl X "int" := by rfl) (hgv:Gl X "ValueError" := by rfl) (Py:X.stack=X.env::X.outer:=by rfl) (VB:X.env.frame=some X.env.locals:=by rfl) (PC:(x==("__debug__" : Str))=false:=by decide)
  (hs:starEach [e] X.env=(false,eval e X.env)::starEach [] X.env:=by rfl) :
  XD X (.Try [.Return (some (.Call (.Name "int" p) [e] [] cp)) rp] [.ExceptHandler (some (.Name "ValueError" vp)) none [.Raise (some (.Call (.Name x np) [.Constant (.str msg) j mp] [] M0)) (some (.Constant .none j' kp)) pos'] hp] [] [] pos) (Dx Ed C te):=by
 intro pins s σ H W ρ E I r h;refine Dt (nK (Ds (xO (dI I hgi hmi (u:=.type "int") rfl ?_ (by decide) (by decide)))));rw[hs];refine Ej (by rfl) (zG ?_);show LL _ _ (spliced ((false,eval e X.env)::_)) _ _ _;refine vh (LL.of (O3 (he pins s σ H W ρ _ (I.wish _) (r.wish _) h) (fun u s1 ⟨v,H1,d,I1,rv,e1,hd,q1⟩=>?_) fun _ _ z=>False.elim z));have I1:=I1.MZ;obtain⟨y,rfl,hl,hy,q1⟩:=q1;have hz:=hd.QM;subst hz;obtain⟨t,rfl⟩:∃t,u=Value.str y t:=rv;refine LL.of (Calls.spliced_nil ?_);cases hn:PySem.intText? y with
 |some n =>
  rw[hn]at q1;exact LL.of (PySem.W.KIN.call_text hn hl ⟨W,σ,H1,I1.tok _,OB.same e1,.int n,.int n,⟨_,rfl⟩,Den.int n,q1⟩)
 |none =>
  rw[hn]at q1;refine J3 hl hy hn (I.ok.hd hc) fun h1 tk ea t' y' mk=>?_
  obtain⟨tt,me,_,_⟩:=mk.there;have fr':X.A.frames=some (X.env::X.outer):=by rw[<- Py];exact I1.ok.frames
  have r1:=r.same e1;have hen:(PySem.W.hideAll s1.heap (RM X.stack)).get? ea=none:=by
   cases z:(PySem.W.hideAll s1.heap (RM X.stack)).get? ea with
   |none=>rfl
   |some o=>have:=PySem.W.of_hideAll _ z;rw[mk.new]at this;cases this
  have F0:=EH I1;have ff:=EG I1;have st1:(PySem.W.hideAll s1.heap (RM X.stack)).StaysIn h1:=fun b o z=>mk.keeps b o (PySem.W.of_hideAll _ z)
  have F1:=F0.step st1 fun b o z _=>⟨o.slots,mk.keeps b o z⟩
  generalize PySem.W.hideAll s1.heap (RM X.stack)=B at hen F0 ff st1 F1;have ff1:h1.FunFrames B (X.env::X.outer):=by rw[<- Py];exact ff.of_keeps fun b o z _=>⟨o,mk.keeps b o z,rfl⟩
  refine yp (base:=B) fr' VB me rfl rfl rfl st1 hen ff1 fun h2 R2 u2 V2=>?_
  refine markV R2 (V2 rfl) fun h3 R3 u3 V3=>?_
  have F3:=(F1.step R2.1 u2).step R3.1 u3;have I3:Inv X pins σ H1 {s1 with heap:=h3,toks:=tk}:=I1.RO rfl F3.un F3.Nw I1.bare (by intro b z;cases z);refine wpAny_handleBy_cons (codeAny_handlers_test (dI (Inv.marked I3 (.ref ea)) hgv hmv (u:=.type "ValueError") rfl ?_ (by decide) (by decide))) (by intro q;cases q);have ty:({s1 with heap:=h3,toks:=tk}:Shared).TypeIs (.ref ea) "ValueError" := by obtain⟨_,_,_,fl,oe,vs,T,oT,ts,g1,g2,_⟩:=R3;exact⟨oe,g1,g2.1⟩
  refine wpAny_excMatches_type ty FV Jj FW ?_;show codeAny (model X.prog X.w) (X.A.mark (some (.ref ea))) (.handlers (.ref ea) [.ExceptHandler none none [_] hp] X.env) _ _;refine codeAny_handlers_suite (markV R3 V3 fun h4 R4 u4 V4=>?_);have F4:=F3.step R4.1 u4;have I4:Inv X pins σ H1 {s1 with heap:=h4,toks:=tk}:=I1.RO rfl F4.un F4.Nw I1.bare (by intro b z;cases z);have J4:=Inv.marked I4 (.ref ea);obtain⟨tl,N,nm,qn,bs,TR,sn,sub,ab,col,dd,k0,k1,k2,k3,k5,mN,hC,hN,Zz,T⟩:=yc I4.ok.mod.Uz q;have FB:=PySem.F.excBase_ValueError;refine Ym ?_;rw[arm_exec_Raise];refine L3 (V5 ?_);refine zh (eh:=ea) (C:=C) (nm:=nm) (q:=qn) (N:=N) (bs:=bs) (bm:=tl) (hdct:=TR) (sn:=sn) (sub:=sub) (ab:=ab) (col:=col) (dd:=dd) (k0:=k0) (k1:=k1) (k2:=k2) (k3:=k3) (k5:=k5) (newId := "ValueError.__new__") (T.hasType FB.hasBase) rfl ?_;refine L3 (Wh (cx J4 hg hm ?_ PC));have U0:h4.get? C=some _:=I4.bk _ _ hC;have hN4:h4.Ns N mN:=hN.keeps I4.bk;have T4:OwnTail h4 cJ tl:=T.keeps I4.bk;show wpAny _ _ (callWith M0 (.ref C) [] ((false,eval (.Constant (.str msg) j mp) X.env)::[]) []) _ _ _;unfold callWith;refine L3 (S8 (Calls.evalArgs_plain (Calls.spliced_cons (Calls.Constant_str (Calls.spliced_nil ?_)))));refine L3 (V5 ?_);show wpAny _ _ (keeperOf (.ref C) >>= _) _ _ _;refine L3 (wpAny_keeperOf_exc U0 ?_);refine L3 (wpAny_call_exc_subT (hrest:=by show 1<=sizeLine;decide) FB T4 U0 hN4 Zz fun h5 e2 m2=>L3 (S8 (wpAny_point (OQ ?_))));refine L3 (V5 (OQ ?_));obtain⟨t2,me2,_,_⟩:=m2.there;have nw:∀b o,h4.get? b=some o->b≠e2:=fun b o z w=>by rw[w,m2.new]at z;cases z
  obtain⟨oh,vs,v1,v2,v3⟩:=V4;refine⟨e2,t2,oh,vs,rfl,m2.keeps _ _ U0,me2,m2.keeps _ _ v1,v2,v3,nw _ _ v1,nw _ _ U0,fun {Q'} z=>L3 (Constant_none (L3 (V5 (OQ z)))),fun h6 g6 o6=>?_⟩;have k6:∀b o,h4.get? b=some o->h6.get? b=some o:=fun b o z=>(o6 b (nw b o z)).trans (m2.keeps b o z)
  have hen2:B.get? e2=none:=by
   cases z:B.get? e2 with
   |none=>rfl
   |some o=>exact absurd rfl (nw _ _ (R4.1 _ _ z))
  have st6:B.StaysIn h6:=fun b o z=>k6 b o (R4.1 b o z)
  refine yp (base:=B) (outer:=X.outer) (A:=X.A.mark (some (.ref ea))) fr' VB g6 rfl rfl rfl st6 hen2 (R4.2.2.1.of_keeps fun b o z _=>⟨o,k6 b o z,rfl⟩) fun h7 R7 u7 _=>?_
  have F7:=(F4.step st6 fun b o z _=>⟨o.slots,k6 b o z⟩).step R7.1 u7;show cameBackBy _ _ _ _ _ _;unfold cameBackBy;obtain⟨_,_,_,fl7,oe7,vs7,T7,oT7,ts7,w1,w2,w3,w4,_⟩:=id R7;refine L3 (Tg w1 w3 w4 ?_);rw[LO (by simp)];refine rS R7 fun h8 R8 u8=>?_
  have Uw:s1.heap.get? e2=none:=by
   cases z:s1.heap.get? e2 with
   |none=>rfl
   |some o =>
    obtain⟨o',z'⟩:=F4.un.there e2 o z (by simp);exact absurd rfl (nw _ _ z')
  refine px pins σ H1 W ρ s1 _ e2 C H1 B _ I1 r1 rfl I1.bare (F7.step R8.1 u8) (ai.refl H1) ?_ Uw (by rw[Py];exact R8) q1;cases z:H1 e2 with
  |none=>rfl
  |some u =>
   obtain⟨o,z'⟩:=PD.bQ.there (I1.Nw e2 u z);rw[Uw]at z';cases z'
end
end PD
set_option linter.all false
set_option maxRecDepth 100000
namespace PD
open PySem PySem.Spec PyProof.Rows L2 PX WC TX
section
variable{X:Cx}{pos:Pos}
theorem ft{K:yac}{P:yak}{H:Hp}{x:Str}{v:V}{u:Value}(h:Den K P H (.str x) v)(r:RelV v u):∃t,u=Value.str x t:=by have:=h.QM;subst this;exact r
def ZA(g:Str->Str->D)(C:Str->Str->Prop):RD2:=fun x y Q=>match x,y with
 |.str i,.str j=>C i j/\Q (g i j)
 |_,_=>False
theorem wq{g:Str->Str->D}{C:Str->Str->Prop}{x y:D}{Q:D->Prop}(h:ZA g C x y Q):∃i j,x=.str i/\y=.str j/\C i j/\Q (g i j):=by
 unfold ZA at h;split at h
 ·exact⟨_,_,rfl,rfl,h⟩
 ·exact h.elim
theorem dM:PK X (binaryOp .Add) (ZA (fun i j=>.str (i++j)) fun i j=>i.length+j.length<=sizeLine):=PK.of ze fun P H x y v u Q hx hy z=>by obtain⟨i,j,e1,e2,hc,q⟩:=wq z;subst e1 e2;exact⟨i,j,hx.QM,hy.QM,hc,ai.refl H,_,Den.str _,q⟩
theorem cU:cn X (.type "str") (fun ds Q=>∃i:Int,ds=[.int i]/\i.natAbs.log2<1920/\Q (.str (toString i))):=cn.of vi fun P H ds vs Q _ hd ⟨i,e,l,q⟩=>by subst e;obtain⟨v,rfl,h1⟩:=eW hd;have e1:=h1.O4;subst e1;exact⟨i,rfl,l,ai.refl H,_,Den.str _,q⟩
theorem nL:cn X (.builtin "len") (fun ds Q=>∃x:Str,ds=[.str x]/\x.length<=sizeLine/\Q (.int x.length)):=by
 intro pins s σ H W ds vs us Q I tr r hd ⟨x,e,l,q⟩;subst e;obtain⟨v,rfl,h1⟩:=eW hd;cases r with
 |cons r1 r2 =>
  cases r2;obtain⟨t,rfl⟩:=ft h1 r1;refine P.len_str (by rw[TM]at l;omega) ⟨.int _,H,_,I.tok _,⟨_,rfl⟩,ai.refl H,Den.int _,q⟩
theorem Ek:cn X (.type "int") (fun ds Q=>∃(x:Str) (n:Int),ds=[.str x]/\PySem.intText? x=some n/\x.length<=640/\Q (.int n)):=by
 intro pins s σ H W ds vs us Q I tr r hd ⟨x,n,e,hn,l,q⟩;subst e;obtain⟨v,rfl,h1⟩:=eW hd;cases r with
 |cons r1 r2 =>
  cases r2;obtain⟨t,rfl⟩:=ft h1 r1;exact PySem.W.KIN.call_text hn l ⟨.int _,H,_,I.tok _,⟨_,rfl⟩,ai.refl H,Den.int _,q⟩
def inT(x y:Str):Bool:=!(Builtin.Str.occurrences x y 0 x.length 1).isEmpty
theorem Iq:PK X (compareOp .In) (ZA (fun i j=>.bl (inT j i)) fun _ _=>True):=by intro pins s σ H W x y v u vv uu Q I _ rv ru hx hy z;obtain⟨i,j,e1,e2,_,q⟩:=wq z;subst e1 e2;obtain⟨t,rfl⟩:=ft hx rv;obtain⟨t',rfl⟩:=ft hy ru;exact P.in_str ⟨.bl _,H,_,I,rfl,ai.refl H,Den.bl _,q⟩
theorem tU:PK X (compareOp .NotIn) (ZA (fun i j=>.bl (!inT j i)) fun _ _=>True):=by intro pins s σ H W x y v u vv uu Q I _ rv ru hx hy z;obtain⟨i,j,e1,e2,_,q⟩:=wq z;subst e1 e2;obtain⟨t,rfl⟩:=ft hx rv;obtain⟨t',rfl⟩:=ft hy ru;exact P.notIn_str ⟨.bl _,H,_,I,rfl,ai.refl H,Den.bl _,q⟩
variable{a b o e:Expr}{ta tb to te:DE}{es:yai}{t:DA}
def zj:RD2:=fun x y Q=>match x,y with
 |.str z,.int i=>z.length<=sizeLine/\∃c,Rp z.cps.toList i=some c/\Q (.str ⟨#[c]⟩)
 |_,_=>False
theorem Aa(ha:Mv X a ta)(hb:Mv X b tb)(hs:xM b:=by intro _ _;rfl):Mv X (.Subscript a b pos) (X7 zj ta tb):=by
 intro pins s σ H W ρ Q I rr h;refine Subscript_ (qf ha hb I rr h fun vv uu s2 v u x y H2 I2 e rv ru hx hy q=>?_);unfold zj at q;split at q
 ·rename_i z i;obtain⟨l,c,ei,q⟩:=q;have e1:=hx.QM;have e2:=hy.O4;subst e1 e2;exact LS (HK a b pins s2 σ H2 _ _ vv uu (fun v' H'=>ai H2 H'/\∃d',Den X.K W.bad H' d' v'/\Q d') I2 rv ru ⟨z,i,c,rfl,rfl,l,ei,ai.refl _,_,Den.str _,q⟩ (hs _ _))
   fun _ s3 ⟨w',H3,I3,r3,e3,d',TR,q'⟩=>⟨w',H3,d',I3,r3,e.trans e3,TR,q'⟩
 ·exact q.elim
def GZ(te:DE)(tl th:DO):DE:=fun ρ Q=>te ρ fun d=>tl ρ fun l=>th ρ fun u=>∃z,d=.str z/\z.length<=sizeLine/\Q (.str (Txt.slice z l u))
theorem qo{lo hi:Option Expr}{tl th:DO}{p2:Pos}(he:Mv X e te)(hl:Xf X lo tl)(hh:Xf X hi th):Mv X (.Subscript e (.Slice lo hi none p2) pos) (GZ te tl th):=by
 intro pins s σ H W ρ Q I r h;refine wJ (st:=none) (ts:=iQ) (R:=fun d l u k=>k=none/\∃z,d=.str z/\z.length<=sizeLine/\Q (.str (Txt.slice z l u))) he hl hh cq I r ?_ ?_ (fun _ _=>⟨_,rfl⟩)
 ·have e1:(fun d=>tl ρ fun l=>th ρ fun u=>iQ ρ fun k=>k=none/\∃z,d=D.str z/\z.length<=sizeLine/\Q (.str (Txt.slice z l u)))=fun d=>tl ρ fun l=>th ρ fun u=>∃z,d=D.str z/\z.length<=sizeLine/\Q (.str (Txt.slice z l u)):=by
   funext d
   congr 1
   funext l
   congr 1
   funext u
   exact propext ⟨fun z=>z.2,fun z=>⟨rfl,z⟩⟩
  rw[e1];exact h
 ·intro v vv vl vu vk l u k d sl H' s' I' sm rv hd hs pl pu pk hR;obtain⟨ek,z,ed,hw,q⟩:=hR;subst ek ed;obtain⟨t,rfl⟩:=ft hd rv;refine⟨"str", _,PySem.F.slot_str_getitem.lookup,Xl _ _ _,?_⟩;have fin:∀t' k,DP X pins σ W H Q (.str (Txt.slice z l u) t') {s' with toks:=k}:=fun t' k=>⟨.str _,H',_,I'.tok k,⟨_,rfl⟩,sm,Den.str _,q⟩
  have pv:∀{v:Value} {o:yaq},IsPart v o->∃p:Option (Int×Tok),v=partValue p/\p.map (·.1)=o:=fun {v o} q=>by
   cases q
   ·exact⟨none,rfl,rfl⟩
   ·exact⟨some (_,_),rfl,rfl⟩
  obtain⟨pl',rfl,rfl⟩:=pv pl;obtain⟨pu',rfl,rfl⟩:=pv pu;obtain⟨pk',rfl,e3⟩:=pv pk;have:pk'=none:=by cases pk'<;>first|rfl|cases e3
  subst this;exact wpAny_getItem_str_slice (l:=pl') (u:=pu') (st:=none) hs rfl (post_val_or_str ⟨Sw (Txt.slice_le z _ _) hw,fin⟩)
def MtS(X:Cx)(id:String)(r:Str->yas->(D->Prop)->Prop):Prop :=
 ∀ (pins:yab) (s:Shared) (σ:St) (H:Hp) (W:Own) (x:Str) (t:Tok) (ds:yas) (vs:yar) (us:yad) (Q:D->Prop),Inv X pins σ H s->(∀t a,W.bad t a->∃o,H a=some o)->Vals vs us->af X.K W.bad H ds vs->r x ds Q →
  wpAny (model X.prog X.w) X.A (call (.builtin id) (.str x t::us)) (DP X pins σ W H Q) X.xe s
def ZC(r:Str->yas->(D->Prop)->Prop)(to:DE)(t:DA):DE:=fun ρ Q=>to ρ fun d=>∃x,d=.str x/\t ρ fun ds=>r x ds Q
theorem uK {name:Str} {apos M0:Pos} {id:String} {r:Str->yas->(D->Prop)->Prop} (pa:PlainAttrs "str") (slot:Slot "str" name id) (Z8:typeOf (.builtin id)=pure (.type "method_descriptor")) (hm:MtS X id r) (ho:Mv X o to) (ha:Qc X (e::es) t)
  (Po:attributeBase o name X.env (eval o X.env)=eval o X.env:=by rfl)
  (RZ:((backTo M0 (starEach (e::es) X.env)).all (fun x=>!x.1) && (backToKw M0 (keywordEach [] X.env)).all (fun x=>x.1.isSome)
   && decide ((e::es).length+([]:List Keyword).length+(if([]:List Keyword).isEmpty then 0 else 1)<30))=true:=by rfl)
  (PH:(apos.endLine==M0.line)=true:=by rfl) (hs:starEach (e::es) X.env=(false,eval e X.env)::starEach es X.env:=by rfl) (PJ:(backTo M0 (starEach es X.env)).any (·.1)=false:=by rfl) :
  Mv X (.Call (.Attribute o name apos) (e::es) [] M0) (ZC r to t):=by
 intro pins s σ H W ρ Q I rr h;refine wpAny_Call_method_late Po RZ PH rfl (LS (ho pins s σ H W ρ _ I rr h) fun v s1 ⟨x,H1,d,I1,r1,e1,hd,z,ed,q1⟩=>?_);subst ed;obtain⟨tk,rfl⟩:=ft hd r1;refine⟨"str", id,pa,slot,Z8,Xl _ _ _,fun a q=>(by cases q),?_⟩;have hA:=ha M0 pins s1 σ H1 W ρ _ I1 (rr.same e1) q1;rw[hs]at hA ⊢;refine Calls.callWith_builtin (by show(false || (backTo M0 (starEach es X.env)).any (·.1))=false;rw[PJ]<;>rfl) (Calls.evalArgs_plain ?_);exact LS hA fun us s2 ⟨vs,H2,ds,I2,r2,e2,O6,q2⟩=>LS (hm pins s2 σ H2 W z tk ds vs us Q I2 ((rr.same e1).same e2).tracked r2 O6 q2) fun _ _ y=>y.up (e1.trans e2)
def iJ(x y:Str):D:=.tup [.str (Txt.partition x y).1,.str (Txt.partition x y).2.1,.str (Txt.partition x y).2.2]
theorem EY:MtS X "str.partition" (fun x ds Q=>∃y,ds=[.str y]/\(y.length==0)=false/\x.length<=sizeLine/\Q (iJ x y)):=by
 intro pins s σ H W x t ds vs us Q I tr r hd ⟨y,e,hy,hz,q⟩;subst e;obtain⟨v,rfl,h1⟩:=eW hd;cases r with
 |cons r1 r2 =>
  cases r2;obtain⟨t',rfl⟩:=ft h1 r1;refine call_meets PySem.F.slot_str_partition (Xl _ _ _) PySem.F.entry_str_partition (PySem.F.args_str_partition_2 _ _) (meets_str_partition x y t t' hy hz) ?_;have hf:H s.heap.objs.size=none:=I.Nw.fresh (O2 _);have fin:∀(a b c:Str) (ta tb tc:Tok) (k:Nat),Txt.partition x y=(a,b,c)->DP X pins σ W H Q (.ref s.heap.objs.size) {s with heap:=s.heap.push {cls:=.type "tuple", data:=.seq [Value.str a ta,.str b tb,.str c tc].toArray},toks:=k}:=fun a b c ta tb tc k e=>by unfold iJ at q;rw[e]at q;refine⟨.ref s.heap.objs.size,L2.upd H s.heap.objs.size (.tup [.str a,.str b,.str c]),_,I.laid (t':=k) (fun b u e=>P7 _ e) (O2 _) ⟨by show 3<=sizeLine;decide,_,.cons ⟨_,rfl⟩ (.cons ⟨_,rfl⟩ (.cons ⟨_,rfl⟩ .nil)),⟨_,Rm _ rfl,rfl,_,rfl⟩⟩,rfl,ai.upd hf,Den.tup (OM.of ax) ?_,q⟩;exact af.cons (Den.str _) (af.cons (Den.str _) (af.cons (Den.str _) af.nil))
  unfold Txt.partition at fin
  revert fin
  cases Builtin.Str.occurrences x y 0 x.length 1 with
  |nil=>intro fin;exact fin _ _ _ _ _ _ _ rfl
  |cons i r=>intro fin;exact fin _ _ _ _ _ _ _ rfl
theorem iR {apos M0:Pos} (ho:Mv X o to) (ha:Qc X [e] t) (Po:attributeBase o "partition" X.env (eval o X.env)=eval o X.env:=by rfl)
  (RZ:((backTo M0 (starEach [e] X.env)).all (fun x=>!x.1) && (backToKw M0 (keywordEach [] X.env)).all (fun x=>x.1.isSome) && decide ([e].length+([]:List Keyword).length+(if([]:List Keyword).isEmpty then 0 else 1)<30))=true:=by rfl)
  (PH:(apos.endLine==M0.line)=true:=by rfl) (hs:starEach [e] X.env=(false,eval e X.env)::starEach [] X.env:=by rfl):Mv X (.Call (.Attribute o "partition" apos) [e] [] M0) (ZC (fun x ds Q=>∃y,ds=[.str y]/\(y.length==0)=false/\x.length<=sizeLine/\Q (iJ x y)) to t) :=
 uK PySem.F.plainAttrs_str PySem.F.slot_str_partition PySem.F.type_str_partition EY ho ha Po RZ PH hs
end
end PD
set_option linter.all false
set_option maxRecDepth 100000
namespace PD
open PySem PySem.Spec PyProof.Rows L2 PX WC TX
def chD(x:Str):yas:=x.cps.toList.map fun c=>D.str ⟨#[c]⟩
def GL(ti:DE):DA:=fun ρ R=>ti ρ fun d=>∃x,d=.str x/\x.cps.all (·<128)=true/\R (chD x)
section
variable{X:Cx}{e e':Expr}{es:yai}{te:DE}{pos:Pos}
def PJD(X:Cx)(es:yai)(t:Str->Ro->(D->Prop)->Prop):Prop:=∀(out:Str) (pins:yab) (s:Shared) (σ:St) (H:Hp) (W:Own) (ρ:Ro) (Q:D->Prop),Inv X pins σ H s->Rel X W H σ ρ->t out ρ Q →
 wpAny (model X.prog X.w) X.A (joinParts out (evalEach es X.env)) (DP X pins σ W H Q) X.xe s
def DI(out:Str)(_:Ro)(Q:D->Prop):Prop:=out.length<=sizeLine/\Q (.str out)
def Ah(te:DE)(t:Str->Ro->(D->Prop)->Prop)(out:Str)(ρ:Ro)(Q:D->Prop):Prop:=te ρ fun d=>∃y,d=.str y/\(out++y).length<=sizeLine/\t (out++y) ρ Q
theorem vD:PJD X [] DI:=fun out pins s σ H W ρ Q I r ⟨l,q⟩=>joinParts_nil ⟨.str out,H,_,I.tok _,⟨_,rfl⟩,ai.refl H,Den.str _,q⟩ l
theorem dX{t:Str->Ro->(D->Prop)->Prop}(he:Mv X e te)(hr:PJD X es t)(hs:evalEach (e::es) X.env=eval e X.env::evalEach es X.env:=by rfl):PJD X (e::es) (Ah te t):=by intro out pins s σ H W ρ Q I r h;rw[hs];refine joinParts_cons (LS (he pins s σ H W ρ _ I r h) fun v s1 ⟨vv,H1,d,I1,rv,e1,hd,y,ed,l,q⟩=>?_);subst ed;obtain⟨t',rfl⟩:=ft hd rv;exact⟨l,LS (hr _ pins s1 σ H1 W ρ Q I1 (r.same e1) q) fun _ _ z=>z.up e1⟩
theorem mI{t:Str->Ro->(D->Prop)->Prop}(h:PJD X (e::e'::es) t)(hs:evalEach (e::e'::es) X.env=eval e X.env::eval e' X.env::evalEach es X.env:=by rfl):Mv X (.JoinedStr (e::e'::es) pos) (fun ρ Q=>t Str.empty ρ Q):=by intro pins s σ H W ρ Q I r hq;have:=h Str.empty pins s σ H W ρ Q I r hq;rw[hs]at this;exact JoinedStr_many this
def GJ(te:DE):DE:=fun ρ Q=>te ρ fun d=>match d with
 |.int i=>i.natAbs.log2<1920/\Q (.str (toString i))
 |.str x=>x.length<=sizeLine/\Q (.str x)
 |_=>False
theorem kX(he:Mv X e te):Mv X (.FormattedValue e (-1) none pos) (GJ te):=by
 intro pins s σ H W ρ Q I r h;refine FormattedValue_plain (LS (he pins s σ H W ρ _ I r h) fun v s1 ⟨vv,H1,d,I1,rv,e1,hd,q⟩=>?_);cases d with
 |int i =>
  have:=hd.O4;subst this;obtain⟨t,rfl⟩:=rv;exact wpAny_formatField_int q.1 ⟨.str _,H1,_,I1.tok _,⟨_,rfl⟩,e1,Den.str _,q.2⟩
 |str x =>
  obtain⟨t',rfl⟩:=ft hd rv;exact formatField_str (fun t' k=>⟨.str x,H1,_,I1.tok k,⟨_,rfl⟩,e1,Den.str _,q.2⟩) q.1
 |_=>exact False.elim q
end
end PD
set_option linter.all false
set_option maxRecDepth 100000
namespace PD
open PySem PySem.Spec PyProof.Rows L2 PX WC
section
variable{prog:Program}{w:World}{A:Around}{s:Shared}{R:Result->Shared->Prop}
theorem xg{elt target iter:Expr}{ifs:yai}{rest:List Comprehension}{scope:Scope}{pos:Pos}{it acc:Value}{env:Env}
  (h0:aN (model prog w) A (.compLoop (.ListComp elt (⟨target,iter,ifs,0⟩:: rest) scope pos) 0 it acc env) R s)
  (h:wpAny (model prog w) A (pyIter it) (fun it' s'=>aN (model prog w) A (.compLoop (.ListComp elt (⟨target,iter,ifs,0⟩:: rest) scope pos) 0 it' acc env) R s') (notedBy (model prog w) A env fun x s'=>R (.error x) s') s) :
  aN (model prog w) A (.compStart (.ListComp elt (⟨target,iter,ifs,0⟩:: rest) scope pos) 0 it acc env) R s:=by
 refine aN.tree ?_;show LL _ _ ((compStart (.ListComp elt (⟨target,iter,ifs,0⟩:: rest) scope pos) 0 it acc env).onRaise (fun x=>do noteFrame x env;standAt theWindowsPlace)) _ _ s;refine LL.onRaise (LL.mono (E:=notedBy (model prog w) A env fun x s'=>R (.error x) s') ?_ (fun _ _ q=>q) fun _ _ hx=>LL.of (L3 (O3 hx (fun _ _ e=>V5 e) fun _ _ e=>e)));unfold compStart;refine LL.NS (wpAny_askSetting ?_);split
 ·first
   |exact LL.bind (LL.pure (LL.pure ⟨rfl,h0⟩))
   |exact LL.pure ⟨rfl,h0⟩
 ·refine LL.NS (wpAny_rule ?_);exact LL.OX (LL.NS (O3 h (fun it' s' h'=>LL.pure ⟨rfl,h'⟩) fun _ _ x=>x))
theorem zR{elt target iter:Expr}{ifs:yai}{scope:Scope}{pos:Pos}{it acc:Value}{env:Env}(I:Nat->Shared->Prop)
  (turn:∀n s,I n s->wpAny (model prog w) A (pyNext it) (fun r LP=>match r with
   |none=>R (.ok .next) LP
   |some v=>wpAny (model prog w) A (letOwnedTupleGo target it v) (fun _ VN=>wpAny (model prog w) A (assign target env v) (fun _ LN =>
     wpAny (model prog w) A (forIn ifs true fun c r=>if r=true then do let ok←isTrue c env (eval c env);pure (ForInStep.yield ok)else pure (ForInStep.yield r)) (fun ok OJ=>if ok=true then LL (model prog w) A (eval elt env) (fun x SM =>
       wpAny (model prog w) A (call (.builtin "list.append") [acc,x]) (fun _ YN=>∃m,m<n/\I m YN) (notedBy (model prog w) A env fun e z=>R (.error e) z) SM) (notedBy (model prog w) A env fun e z=>R (.error e) z) OJ
      else∃m,m<n/\I m OJ) (notedBy (model prog w) A env fun e z=>R (.error e) z) LN) (notedBy (model prog w) A env fun e z=>R (.error e) z) VN) (notedBy (model prog w) A env fun e z=>R (.error e) z) LP) (notedBy (model prog w) A env fun e z=>R (.error e) z) s)
  (n:Nat) (h:I n s):aN (model prog w) A (.compLoop (.ListComp elt [⟨target,iter,ifs,0⟩] scope pos) 0 it acc env) R s:=by
 refine zJ rfl I (fun m z hI=>?_) n s h;show LL _ A ((compTurn (.ListComp elt [⟨target,iter,ifs,0⟩] scope pos) 0 it acc env).onRaise (fun e=>do noteFrame e env;theTreesLotGoes e)) _ _ z;refine LL.WJ ?_;rw[compTurn_list];refine LL.OX (LL.NS (O3 (turn m z hI) (fun r z1 g1=>?_) fun _ _ q=>q));cases r with
 |none=>exact LL.pure g1
 |some v =>
  refine LL.NS (O3 g1 (fun _ z2 g2=>?_) fun _ _ q=>q);refine LL.NS (O3 g2 (fun _ z3 g3=>LL.NS (O3 g3 (fun ok z4 g4=>?_) fun _ _ q=>q)) fun _ _ q=>q);cases ok with
  |false=>exact LL.pure (.inl ⟨rfl,g4⟩)
  |true=>exact LL.bind (LL.bind (g4.LS fun y z5 g5=>LL.NS (O3 g5 (fun _ z6 g6=>LL.pure (LL.pure (.inl ⟨rfl,g6⟩))) fun _ _ q=>q)))
end
def BL(X:Cx)(e:Expr)(t:DM):Prop :=
 ∀ (pins:yab) (s:Shared) (σ:St) (H:Hp) (W:Own) (ρ:Ro) (Q:LI->Prop),Inv X pins σ H s->Rel X W H σ ρ->t ρ Q →
  LL (model X.prog X.w) X.A (eval e X.env) (MDP X pins σ W H Q) X.xe s
theorem Ez{X:Cx}{e:Expr}{te:DE}(h:Vl X e te):BL X e fun ρ Q=>te ρ fun d=>Q (.val d):=fun pins s σ H W ρ Q I r t=>(h pins s σ H W ρ _ I r t).LS fun _ _ ⟨v,H',d,a,b,c,q,z⟩=>⟨v,H',.val d,a,b,c,q,z⟩
section
variable{X:Cx}{pins:yab}{σ:St}{H:Hp}{s:Shared}{sc:Scope}{ns:yah}{js:yag}{xs:yah}{fp:yae}
theorem yM{elt iter tg:Expr}{ifs:yai}{pos:Pos}{g:DG}{te:DM}{tc:DT}{W:Own}{ρ:Ro}{J:It}{it:Addr}{tn:Nat->Heap->Prop}{ds:yas}{RR:Value->Addr->Result->Shared->Prop}{cl:List (Str×Addr)}{fn:Str->Bool}{Ad C:Addr}{OI:Heap}(hc:X.calm=true)
  (he:BL (Sj X sc ns xs cl fn C s H fp (bB X sc cl RR Ad C)) elt te) (ht:Vc (Sj X sc ns xs cl fn C s H fp (bB X sc cl RR Ad C)) ifs tc) (hg:Wa (Sj X sc ns xs cl fn C s H fp (bB X sc cl RR Ad C)) tg g) (I:Inv X pins σ H s) (r:Rel X W H σ ρ) (T:Turn X.prog X.w X.K tg J fp it tn) (st:tn 0 s.heap) (SK:∀b∈fp,cy X pins H b) (yd:YD X.K W H J ds) (hz:ds.length<=sizeLine)
  (Pv:Nat->List LI->Prop) (p0:Pv 0 []) (step:∀j d out P8,ds[j]?=some d->Pv j out->dE xs.length (js.map (aU ρ)) P8->g d P8 fun Pu=>dE xs.length (js.map (aU ρ)) Pu/\tc Pu fun b=>if b=true then te Pu (fun e=>Pv (j+1) (out++[e]))else Pv (j+1) out)
  (Wu:∀(s':Shared) (H':Hp) (m':yam) (out:List LI) (bs:yaj),Inv X pins σ H' s'->ai H H'->s'.heap.Ns C m'->H' C=none->C≠X.env.locals->X.MY.heap.objs.size<=C->(∀y c,X.env.cells.lookup y=some c->c≠C)->(∀p∈X.pn++pins,p.1≠C) →
   (H Ad=none/\X.K.lookup Ad=none/\∃vs,H' Ad=some (.lst vs)/\dA X.K H Ad out.length bs/\(∀k b,bs k=some b->∃us,H' b=some (.lst us))/\aI X.K (fun t b=>W.bad t b∨b=Ad∨∃ k,bs k=some b) H' bs 0 out vs)->Pv ds.length out->RR (.ref Ad) C (.ok .next) s')
  (Tp:H Ad=none) (Xy:X.K.lookup Ad=none) (Wv:s.heap.objs.size<=Ad) (Qr:s.heap.objs.size<=C) (old:∀b o,s.heap.get? b=some o->OI.get? b=some o) (hcl:∀y c,cl.lookup y=some c->X.env.cells.lookup y=some c∨s.heap.objs.size<=c)
  (I1:Inv (Sj X sc ns xs cl fn C s H fp (bB X sc cl RR Ad C)) [] (List.replicate xs.length none++js.map (dH σ)) (L2.upd H Ad (.lst [])) {s with heap:=OI,toks:=s.toks+([]:List (Str×Value)).length}) :
  aN (model X.prog X.w) X.A (.compStart (.ListComp elt [⟨tg,iter,ifs,0⟩] sc pos) 0 (.ref it) (.ref Ad) (compEnvC sc cl C X.env)) (RR (.ref Ad) C) {s with heap:=OI,toks:=s.toks+([]:List (Str×Value)).length}:=by
 have Wt:∀b∈fp,∃o,s.heap.get? b=some o:=fun b hb=>let ⟨o,e,_⟩:=T.obj 0 s.heap st b hb;⟨o,e⟩
 have nl:∀{a:Addr} {ws:yar},SqL X.K H a ws->a≠Ad:=fun {a ws} q z=>by
  subst z;rcases q with(q|⟨o,q⟩)|⟨o,its,n,q,_⟩
  ·rw[Tp]at q;cases q
  ·rw[Tp]at q;cases q
  ·rw[Xy]at q;cases q
 let W':Own:=⟨fun a=>W.bad false a∨a=Ad,fun _=>none,W.S⟩
 have Sr:∀t a,W'.bad t a↔(W.bad t a∨a=Ad):=fun t a=>⟨fun z=>by
  rcases z with(z|z)|⟨_,q⟩| ⟨z1,z2⟩
  ·exact .inl (Own.SH z)
  ·exact .inr z
  ·cases q
  ·exact .inl (.inr (.inr ⟨z1,z2⟩)),fun z=>by
  rcases z with z|z
  ·rcases z with z|z|z
   ·exact .inl (.inl (.inl z))
   ·exact .inl (.inl (.inr (.inl z)))
   ·exact .inr (.inr z)
  ·exact .inl (.inr z)⟩
 have hT:∀{H':Hp},ai H H'->∀a vs,OM X.K H a vs->OM X.K H' a vs:=fun sm a vs q=>OM.same sm q
 have hL:∀{H':Hp},ai H H'->∀t a vs,¬W.bad t a->QK X.K H t a vs->¬W'.bad t a/\QK X.K H' t a vs:=fun sm t a vs n q=>⟨fun z=>((Sr t a).mp z).elim n (nl q.1),q.same sm⟩
 have YO:Rel (Sj X sc ns xs cl fn C s H fp (bB X sc cl RR Ad C)) W' (L2.upd H Ad (.lst [])) (List.replicate xs.length none++js.map (dH σ)) (List.replicate xs.length none++js.map (aU ρ)):=by
  have sm:ai H (L2.upd H Ad (.lst [])):=ai.upd Tp;have at_:∀{i:Nat} {z:Sl},(List.replicate xs.length none++js.map (aU ρ))[i]?=some (some z)->¬i<xs.length/\(js.map (aU ρ))[i - xs.length]?=some (some z):=fun {i z} h=>by
   by_cases hi:i<xs.length
   ·rw[XY (by simpa using hi),Zl,LX hi]at h;cases h
   ·rw[Xh (by simpa using hi)]at h;exact⟨hi,by simpa using h⟩
  refine⟨fun i d h=>?_,fun i x h=>?_,fun i j a h _=>(by cases h),fun i a h=>(by cases h),fun i a h=>(by cases h),fun a h=>?_,fun a h=>?_,sm,r.tab.same sm⟩
  ·obtain⟨hi,h'⟩:=at_ h;rw[Td]at h';cases e:js[i - xs.length]? with
   |none=>rw[e]at h';cases h'
   |some j =>
    rw[e]at h';have h4:aU ρ j=some (.val d):=UQ h';have h5:ρ[j]?=some (some (.val d)):=by
     unfold aU at h4;split at h4
     ·rename_i u q;cases h4;exact q
     ·cases h4
    obtain⟨v,e1,e2⟩:=r.val j d h5;refine⟨v,?_,Den.map (hT sm) (hL sm) (fun a _ n q=>sm.kp a _ q n.nt) d v e2⟩;rw[Xh (by simpa using hi)];show(js.map (dH σ))[i - (List.replicate xs.length (none:Option V)).length]?=some (some v);rw[List.length_replicate,Td,e];show some (dH σ j)=some (some v);unfold dH;rw[e1]
  ·obtain⟨hi,h'⟩:=at_ h;rw[Td]at h';cases e:js[i - xs.length]? with
   |none=>rw[e]at h';cases h'
   |some j =>
    rw[e]at h';have h4:aU ρ j=some (.ob x):=UQ h';unfold aU at h4;split at h4<;>cases h4
  ·rcases h with h|h
   ·obtain⟨o,q⟩:=r.tracked false a h;exact sm.ex q
   ·rw[h];exact⟨_,ax⟩
  ·obtain⟨o,q⟩:=r.st a h;exact sm.ex q
 have SN:∀{H':Hp},(∀b∈fp,H' b=none)->∀b∈fp,cy (Sj X sc ns xs cl fn C s H fp (bB X sc cl RR Ad C)) [] H' b:=fun hn b hb=>by
  obtain⟨f0,f1,f2,f3,f4,f5⟩:=SK b hb;obtain⟨o,ho⟩:=Wt b hb;refine⟨hn b hb,fun z=>?_,fun z=>?_,.inl hb,fun y c e z=>(hcl y c e).elim (fun e=>f4 y c e z) fun q=>absurd (O8 ho) (by rw[<- z];exact Uy.mpr q),fun p hp=>absurd (show p∈([]:yab)from hp) (by simp)⟩
  ·have z':b=C:=z;have QJ:=O8 ho;rw[z']at QJ;exact absurd (RX QJ Qr) (VD _)
  ·rcases Rb.mp (I.Rn b z)with e|e
   ·exact f1 e
   ·exact f2 e
 have TU:∀b∈fp,(b∈X.ex∨X.MY.heap.objs.size<=b)/\b≠X.env.locals/\(∀x c,X.env.cells.lookup x=some c->c≠b)/\∀p∈X.pn++pins,p.1≠b:=fun b hb=>by obtain⟨f0,f1,f2,f3,f4,f5⟩:=SK b hb;exact⟨f3,f1,f4,f5⟩
 have BD0:W'.B Ad:=.inr rfl;have loop:∀OJ:Shared,OJ={s with heap:=OI,toks:=s.toks+([]:List (Str×Value)).length} →
   aN (model X.prog X.w) X.A (.compLoop (.ListComp elt [⟨tg,iter,ifs,0⟩] sc pos) 0 (.ref it) (.ref Ad) (compEnvC sc cl C X.env)) (RR (.ref Ad) C) OJ:=by
  rintro OJ rfl;refine zR (CLI X.K (Sj X sc ns xs cl fn C s H fp (bB X sc cl RR Ad C)) H fp Ad ds W' tn xs.length (js.map (aU ρ)) Pv) ?_ ds.length
   ⟨0,W',_,_,_,[],[],fun _=>none,by simp,S9 _,I1,T.keep 0 s.heap OI st (fun b hb o e=>old b o e),fun b hb=>?_,ax,⟨by funext a;simp,rfl⟩,dA.nil,(fun _ _ h=>by cases h),by simp only[aI],ai.upd Tp,YO,⟨_,by simp,rfl⟩,p0,O2 _⟩
  rotate_left
  ·obtain⟨o,ho⟩:=Wt b hb;rw[aq (fun z=>absurd (O8 ho) (by rw[z];exact Uy.mpr Wv))];exact(SK b hb).1
  rintro n s3 ⟨i,W2,Ur,Pu,H3,out,vs,bs,en,hle,I3,Vx,Vy,hD3,Tq,Vd,hls,Ww,Wx,rl3,YQ,p3,ol⟩;have nb2:∀{W3:Own} {H':Hp} {RY:St} {UW:Ro},(W3.B=(fun a=>W'.B a∨∃ k,bs k=some a)/\W3.S=W'.S)->Rel (Sj X sc ns xs cl fn C s H fp (bB X sc cl RR Ad C)) W3 H' RY UW->ai H H'->∀t a vs,¬W.bad t a->QK X.K H t a vs->¬W3.bad t a/\QK X.K H' t a vs:=fun {W3 H' RY UW} hw rl sm t a vs n q=>by
   refine⟨fun z=>?_,q.same sm⟩;rcases z with z|⟨k,z⟩| ⟨z1,z2⟩
   ·rw[hw.1]at z;rcases z with z|⟨k,z⟩
    ·exact(hL sm t a vs n q).1 (.inl z)
    ·obtain⟨_,h0,kk,_⟩:=Vd.ok k a z;rcases q.1 with(q1|⟨o,q1⟩)|⟨o,its,m,q1,_⟩
     ·rw[h0]at q1;cases q1
     ·rw[h0]at q1;cases q1
     ·rw[kk]at q1;cases q1
   ·have h0:H a=none:=rl.ke k a z;rcases q.1 with(q1|⟨o,q1⟩)|⟨o,its,m,q1,_⟩
    ·rw[h0]at q1;cases q1
    ·rw[h0]at q1;cases q1
    ·have kk:X.K.lookup a=none:=(rl.kn k a z).1;rw[kk]at q1;cases q1
   ·rw[hw.2]at z2;exact(hL sm t a vs n q).1 (.inr (.inr ⟨z1,z2⟩))
  obtain⟨yg,yy,ys⟩:=yd W2.bad H3 (hT Wx) (nb2 Tq rl3 Wx) (fun a _ n q=>Wx.kp a _ q n.nt) i;by_cases QJ:i<ds.length
  ·refine LS (T.item (Sj X sc ns xs cl fn C s H fp (bB X sc cl RR Ad C)) rfl rfl rfl hc i [] s3 _ H3 _ I3 (SN Vy) Vx (yg QJ)) fun rr s4 ⟨u,hr,h4⟩=>?_
   subst hr;refine LS h4 fun _ s5 ⟨x5,H5,I5,r5,y5,TY,Xo⟩=>?_
   obtain⟨e5,d,hd,QP⟩:=yy x5 H5 y5 QJ;have Xp:=I5.pinned (SN Xo) (T.obj _ _ TY);have U9:=rl3.same e5;have YR:ai H H5:=Wx.trans e5;refine O3 (hg _ s5 Ur H5 W2 Pu d x5 u _ Xp U9 r5 QP (step i d out Pu hd p3 YQ)) (fun _ s6 ⟨W6,VF,H6,Xw,I6,f6,Wy,Wz,q6⟩=>?_) (fun _ _ z=>z);have WA:W6.B=(fun a=>W'.B a∨∃ k,bs k=some a)/\W6.S=W'.S:=⟨f6.B.trans Tq.1,f6.S.trans Tq.2⟩;have YS:ai H H6:=⟨fun b o e n=>f6.kp b o (fun k z=>by have h0:H b=none:=U9.ke k b z;rw[e]at h0;cases h0) (YR.kp b o e n) n,(fun b ps e=>by obtain⟨m1,e1⟩:=YR.tb b ps e;obtain⟨m2,e2⟩:=f6.tb b _ e1;exact⟨m1++m2,by rw[e2,X1]⟩),fun h=>f6.ok (YR.ok h)⟩;have BD:W'.B Ad:=.inr rfl;have YT:H6 Ad=some (.lst vs):=f6.keep Ad _ (fun k z=>(U9.kn k Ad z).2.1.1 (by rw[Tq.1];exact .inl BD)) (e5 _ _ hD3);have YU:aI X.K W2.bad H5 bs 0 out vs:=Ww.map (fun _ _ z=>z.same e5) fun _ _ q=>⟨q,fun _ z=>e5 _ _ z⟩
   have Ve:∀k b,bs k=some b->∃us,H6 b=some (.lst us):=fun k b q=>let ⟨us,z⟩:=hls k b q;⟨us,f6.keep b _ (fun l y=>(U9.kn l b y).2.1.1 (by rw[Tq.1];exact .inr ⟨k,q⟩)) (e5 _ _ z)⟩
   have WB:aI X.K W6.bad H6 bs 0 out vs:=YU.map (fun _ _ z=>af.fwd U9 Wy f6 z) fun k b q=>⟨q,fun us z=>f6.keep b _ (fun l y=>(U9.kn l b y).2.1.1 (by rw[Tq.1];exact .inr ⟨k,q⟩)) z⟩
   have UI:∀{Q8:St} {H7:Hp} {s7:Shared},Inv (Sj X sc ns xs cl fn C s H fp (bB X sc cl RR Ad C)) ([]++ji fp s5.heap) Q8 H7 s7->tn (i+1) s7.heap/\∀b∈fp,H7 b=none:=fun {Q8 H7 s7} I7=>by refine⟨T.keep _ _ _ TY fun b hb o e=>(I7.pin (b,o) (Ss _ (Ss _ (bW hb e)))).1,fun b hb=>?_⟩;obtain⟨o,e,_⟩:=T.obj _ _ TY b hb;exact(I7.pin (b,o) (Ss _ (Ss _ (bW hb e)))).2.1
   refine O3 (ht _ s6 _ H6 W6 _ _ I6 Wy q6) (fun b s7 ⟨H7,I7,e7,q7⟩=>?_) (fun _ _ z=>z);cases b with
   |false =>
    rw[LO S6]at q7;rw[LO S6];obtain⟨t7,f7⟩:=UI I7;exact⟨ds.length - (i+1),by omega,i+1,W6,VF,Xw,H7,out,vs,bs,rfl,QJ,I7.Ox,t7,f7,e7 _ _ YT,WA,Vd,(fun k b q=>let ⟨us,z⟩:=Ve k b q;⟨us,e7 _ _ z⟩),WB.map (fun _ _ z=>z.same e7) (fun _ _ q=>⟨q,fun _ z=>e7 _ _ z⟩),YS.trans e7,Wy.same e7,Wz,q7,by omega⟩
   |true =>
    rw[LX rfl]at q7;rw[LX rfl];refine LL.mono (he _ s7 _ H7 W6 _ _ I7 (Wy.same e7) q7) (fun u8 s8 ⟨v8,H8,e8,I8,r8,VO,Xz,q8⟩=>?_) (fun _ _ z=>z);have Ua:=e7.trans VO;have YV:=Ua _ _ YT;have XA:=Wy.same e7;have Vf:aI X.K W6.bad H7 bs 0 out vs:=WB.map (fun _ _ z=>z.same e7) fun _ _ q=>⟨q,fun _ z=>e7 _ _ z⟩
    have smH:ai H H8:=YS.trans Ua;obtain⟨W8,VP,hW8,Vg,YW,rl8,YX,WD⟩:∃(W8:Own) (VP:yaj),(W8.B=(fun a=>W'.B a∨∃ k,VP k=some a)/\W8.S=W'.S)/\dA X.K H Ad (out++[e8]).length VP/\(∀k b,VP k=some b->∃us,H8 b=some (.lst us))/\Rel (Sj X sc ns xs cl fn C s H fp (bB X sc cl RR Ad C)) W8 H8 VF Xw/\aI X.K W8.bad H8 VP 0 (out++[e8]) (vs++[v8])/\vs.length=out.length:=by
     have ln:=Vf.len;cases e8 with
     |val d =>
      refine⟨W6,bs,WA,Vd.up (by simp),(fun k b q=>let ⟨us,z⟩:=Ve k b q;⟨us,Ua _ _ z⟩),XA.same VO,?_,ln⟩;exact(Vf.map (fun _ _ z=>z.same VO) fun _ _ q=>⟨q,fun _ z=>VO _ _ z⟩).RQ Xz
     |own T8 =>
      obtain⟨a,ws,rfl,na,ka,ha,VJ⟩:=Xz;obtain⟨rb,db⟩:=XA.ban VO na ka ha;have nH:H a=none:=(YS.trans e7).free na;have nD:a≠Ad:=fun z=>by rw[z,e7 _ _ YT]at na;cases na
      refine⟨⟨fun b=>W6.B b∨b=a,W6.O,W6.S⟩,fun k=>if k=out.length then some a else bs k,⟨?_,WA.2⟩,Vd.put nH ka nD (fun k z=>?_),(fun k b q=>?_),rb,?_,ln⟩
      ·funext b
       show(W6.B b∨b=a)=_;rw[WA.1];refine propext ⟨fun z=>?_,fun z=>?_⟩
       ·rcases z with(z|⟨k,z⟩)|z
        ·exact .inl z
        ·exact .inr ⟨k,by show(if k=out.length then some a else bs k)=some b;rw[LO (Sn (Vd.ok k b z).1)];exact z⟩
        ·exact .inr ⟨out.length,by show(if out.length=out.length then some a else bs out.length)=some b;rw[LX rfl,z]⟩
       ·rcases z with z|⟨k,z⟩
        ·exact .inl (.inl z)
        ·have z:(if k=out.length then some a else bs k)=some b:=z;by_cases ek:k=out.length
         ·rw[LX ek]at z;cases z;exact .inr rfl
         ·rw[LO ek]at z;exact .inl (.inr ⟨k,z⟩)
      ·obtain⟨o,hu⟩:=XA.bt a (by rw[WA.1];exact .inr ⟨k,z⟩);rw[hu]at na;cases na
      ·have q:(if k=out.length then some a else bs k)=some b:=q;by_cases ek:k=out.length
       ·rw[LX ek]at q;cases q;exact⟨_,ha⟩
       ·rw[LO ek]at q;obtain⟨us,z⟩:=Ve k b q;exact⟨us,Ua _ _ z⟩
      ·refine aI.RS (Vf.map (B':=fun k=>if k=out.length then some a else bs k) (fun ds vs z=>db ds vs z) fun k b q=>⟨by show(if k=out.length then some a else bs k)=some b;rw[LO (Sn (Vd.ok k b q).1)];exact q,fun _ z=>VO _ _ z⟩) (by simp) ha (VJ.MG fun t b z=>?_);rcases z with(z|z)|z|z
       ·exact .inl (.inl z)
       ·exact .inr z
       ·exact .inl (.inr (.inl z))
       ·exact .inl (.inr (.inr z))
    have BD8:W8.B Ad:=by rw[hW8.1];exact .inl BD
    refine O3 (mT (X:=Sj X sc ns xs cl fn C s H fp (bB X sc cl RR Ad C)) _ s8 _ H8 (.ref Ad) [v8] (.ref Ad) [u8] (fun _ H'=>H'=L2.upd H8 Ad (.lst (vs++[v8]))) I8 rfl (.cons r8 .nil) ⟨Ad,vs,v8,rfl,rfl,YV,by rw[WD];omega,rfl⟩) (fun _ s9 ⟨v9,H9,I9,_,eH⟩=>?_) (fun _ _ z=>z);subst eH;obtain⟨t9,f9⟩:=UI I9;obtain⟨rl9,dn9⟩:=rl8.mutB (vs':=vs++[v8]) BD8 YV Tp;exact⟨ds.length - (i+1),by omega,i+1,W8,VF,Xw,_,out++[e8],vs++[v8],VP,rfl,QJ,I9.Ox,t9,f9,ax,hW8,Vg,(fun k b q=>let ⟨us,z⟩:=YW k b q;⟨us,by rw[aq (Vg.ok k b q).2.2.2];exact z⟩),YX.map dn9 (fun k b q=>⟨q,fun us z=>by rw[aq (Vg.ok k b q).2.2.2];exact z⟩),smH.ins Tp YV True.intro True.intro,rl9,Wz,q8,by rw[Q7,zBl];omega⟩
  ·have e:i=ds.length:=by omega
   refine LS (T.done (Sj X sc ns xs cl fn C s H fp (bB X sc cl RR Ad C)) rfl rfl rfl hc i [] s3 _ H3 _ I3 (SN Vy) Vx (ys (by omega))) fun rr s4 ⟨hr,I4⟩=>?_
   subst hr;subst e;have Io:Inv X pins σ H3 s4:=I.RO I4.os I4.base I4.Nw I4.bare TU;obtain⟨m,hm,_⟩:=I4.loc;exact Wu s4 H3 m out bs Io Wx hm I4.free (fun z=>absurd I.lt (by rw[<- z];exact Uy.mpr Qr)) (Sw I.sz Qr) (fun y c e z=>by
    obtain⟨v,q⟩:=I.cell y c e;exact absurd q.lt (by rw[z];exact Uy.mpr Qr)) (fun p hp z=>absurd (O8 (I.pin p hp).1) (by rw[z];exact Uy.mpr Qr))
    ⟨Tp,Xy,_,hD3,Vd,hls,Ww.map (fun _ _ z=>z.MG fun t a z=>(by
     rcases z with z|z
     ·rcases(Sr t a).mpr (.inl z)with q|⟨k,q⟩| q
      ·exact .inl (by rw[Tq.1];exact .inl q)
      ·cases q
      ·exact .inr (.inr ⟨q.1,by rw[Tq.2];exact q.2⟩)
     ·rcases z with z|z
      ·exact .inl (by rw[Tq.1];exact .inl (z ▸ BD0))
      ·exact .inl (by rw[Tq.1];exact .inr z))) fun _ _ q=>⟨q,fun _ z=>z⟩⟩ p3
 exact xg (loop _ rfl) (T.self _ 0 _ _ _ (T.keep 0 s.heap OI st (fun b hb o e=>old b o e)) (loop _ rfl))
theorem vq{elt iter tg:Expr}{ifs:yai}{pos:Pos}{g:DG}{te:DM}{tc:DT}{W:Own}{ρ:Ro}{J:It}{it:Addr}{tn:Nat->Heap->Prop}{ds:yas}{E:yaa}{RR:Value->Addr->Result->Shared->Prop}(hc:X.calm=true)(S:Va X.env.scope sc xs ns)
  (hj:js.length=ns.length/\∀(i:Nat) (j:Nat) (n:Str),js[i]?=some j->ns[i]?=some n->X.N[j]?=some n)
  {Ed:Value->Prop} (he:∀(C:Addr) (LN:Shared) (LV:Hp) (fp:yae) (XE:yaa),bj (aH X sc ns xs C LN LV fp XE) Ed->BL (aH X sc ns xs C LN LV fp XE) elt te) (ht:∀(C:Addr) (LN:Shared) (LV:Hp) (fp:yae) (XE:yaa),bj (aH X sc ns xs C LN LV fp XE) Ed->Vc (aH X sc ns xs C LN LV fp XE) ifs tc)
  (hx:∀D C:Addr,bj (aH X sc ns xs C s H fp (lL X sc ns RR D C)) Ed) (I:Inv X pins σ H s) (r:Rel X W H σ ρ) (hg:∀(C:Addr) (LN:Shared) (LV:Hp) (fp:yae) (XE:yaa),Wa (aH X sc ns xs C LN LV fp XE) tg g) (T:Turn X.prog X.w X.K tg J fp it tn) (st:tn 0 s.heap) (SK:∀b∈fp,cy X pins H b) (yd:YD X.K W H J ds) (hz:ds.length<=sizeLine)
  (Pv:Nat->List LI->Prop) (p0:Pv 0 []) (step:∀j d out P8,ds[j]?=some d->Pv j out->dE xs.length (js.map (aU ρ)) P8->g d P8 fun Pu=>dE xs.length (js.map (aU ρ)) Pu/\tc Pu fun b=>if b=true then te Pu (fun e=>Pv (j+1) (out++[e]))else Pv (j+1) out)
  (Wu:∀(D C:Addr) (s':Shared) (H':Hp) (m':yam) (out:List LI) (bs:yaj),Inv X pins σ H' s'->ai H H'->s'.heap.Ns C m'->H' C=none->C≠X.env.locals->X.MY.heap.objs.size<=C->(∀y c,X.env.cells.lookup y=some c->c≠C)->(∀p∈X.pn++pins,p.1≠C) →
   (H D=none/\X.K.lookup D=none/\∃vs,H' D=some (.lst vs)/\dA X.K H D out.length bs/\(∀k b,bs k=some b->∃us,H' b=some (.lst us))/\aI X.K (fun t b=>W.bad t b∨b=D∨∃ k,bs k=some b) H' bs 0 out vs)->Pv ds.length out->RR (.ref D) C (.ok .next) s') :
  wpAny (model X.prog X.w) X.A (newList []) (fun acc OJ=>wpAny (model X.prog X.w) X.A (newFunctionEnv sc X.env.globals (cf X.env ns) [] X.env.qual none .none (some X.env)) (fun cenv SM =>
   aN (model X.prog X.w) X.A (.compStart (.ListComp elt [⟨tg,iter,ifs,0⟩] sc pos) 0 (.ref it) acc {cenv with scope:=relabel sc X.env}) (RR acc cenv.locals) SM) E OJ) E s:=by
 refine ZW (wpAny_newFunctionEnv S.Vb (by intro y hy;simp at hy) (fun OI Rq Qs=>?_) S.kind);dsimp only at Rq Qs ⊢;generalize YY:s.heap.push {cls:=.type "list", dict:=none,data:=.seq ([]:yad).toArray}=HP at Rq Qs ⊢;have hC:HP.objs.size=s.heap.objs.size+1:=by rw[<- YY,X2]
 have YZ:s.heap.objs.size≠HP.objs.size:=by rw[hC];exact Sn (Nat.lt_succ_self _)
 have Qr:s.heap.objs.size<=HP.objs.size:=by rw[hC];exact Nat.le_succ _
 have below:∀b,b<s.heap.objs.size->b≠HP.objs.size:=fun b hb=>by rw[hC];exact Sn (Nat.lt_succ_of_lt hb)
 have old:∀b o,s.heap.get? b=some o->OI.get? b=some o:=fun b o e=>Qs.extBut b o (below b (O8 e)) (P7 _ (YY ▸ P7 _ e))
 have WE:OI.get? s.heap.objs.size=some {cls:=.type "list", data:=.seq ([]:yad).toArray}:=Qs.extBut _ _ YZ (P7 _ (YY ▸ Rm _ rfl));generalize eD:s.heap.objs.size=D at YZ WE;generalize eC:HP.objs.size=C at *;have Tp:H D=none:=by rw[<- eD];exact I.Nw.fresh (O2 _)
 have Xy:X.K.lookup D=none:=by rw[<- eD];exact Inv.Pq I
 have Yc:H C=none:=I.Nw.fresh Qr;have Wt:∀b∈fp,∃o,s.heap.get? b=some o:=fun b hb=>let ⟨o,e,_⟩:=T.obj 0 s.heap st b hb;⟨o,e⟩
 have Wv:s.heap.objs.size<=D:=Nat.le_of_eq eD;have Tr:Rc X.prog X.w (L2.upd H D (.lst [])) OI:=I.Nw.laid old Wv ⟨S9 _,[],0,.nil,WE⟩;have Y0:∀o,L2.upd H D o C=none:=fun o=>by rw[aq (Ne.symm YZ)];exact Yc
 have I1:Inv (aH X sc ns xs C s H fp (lL X sc ns RR D C)) [] (List.replicate xs.length none++js.map (dH σ)) (L2.upd H D (.lst [])) {s with heap:=OI,toks:=s.toks+([]:List (Str×Value)).length} :=
  Inv.comp I S hj SK Wt Qr rfl I.bare old Rq (Y0 _) (ai.upd Tp) (fun b o e n=>by rw[aq (fun z=>absurd (O8 e) (by rw[z];exact Uy.mpr Wv))];exact n) Tr
 exact yM (cl:=cf X.env ns) (fn:=fun _=>false) hc (he C s H fp _ (hx D C)) (ht C s H fp _ (hx D C)) (hg C s H fp _) I r T st SK yd hz Pv p0 step (Wu D C) Tp Xy Wv Qr old (fun y c e=>.inl (i6 e)) I1
theorem xh{elt iter tg:Expr}{ifs:yai}{pos:Pos}{g:DG}{te:DE}{tc:DT}{W:Own}{ρ:Ro}{J:It}{it:Addr}{tn:Nat->Heap->Prop}{ds:yas}{E:yaa}{RR:Value->Addr->Result->Shared->Prop}(hc:X.calm=true)(S:Va X.env.scope sc xs ns)
  (hj:js.length=ns.length/\∀(i:Nat) (j:Nat) (n:Str),js[i]?=some j->ns[i]?=some n->X.N[j]?=some n)
  {Ed:Value->Prop} (he:∀(C:Addr) (LN:Shared) (LV:Hp) (fp:yae) (XE:yaa),bj (aH X sc ns xs C LN LV fp XE) Ed->Vl (aH X sc ns xs C LN LV fp XE) elt te) (ht:∀(C:Addr) (LN:Shared) (LV:Hp) (fp:yae) (XE:yaa),bj (aH X sc ns xs C LN LV fp XE) Ed->Vc (aH X sc ns xs C LN LV fp XE) ifs tc)
  (hx:∀D C:Addr,bj (aH X sc ns xs C s H fp (lL X sc ns RR D C)) Ed) (I:Inv X pins σ H s) (r:Rel X W H σ ρ) (hg:∀(C:Addr) (LN:Shared) (LV:Hp) (fp:yae) (XE:yaa),Wa (aH X sc ns xs C LN LV fp XE) tg g) (T:Turn X.prog X.w X.K tg J fp it tn) (st:tn 0 s.heap) (SK:∀b∈fp,cy X pins H b) (yd:YD X.K W H J ds) (hz:ds.length<=sizeLine)
  (Pv:Nat->yas->Prop) (p0:Pv 0 []) (step:∀j d out P8,ds[j]?=some d->Pv j out->dE xs.length (js.map (aU ρ)) P8->g d P8 fun Pu=>dE xs.length (js.map (aU ρ)) Pu/\tc Pu fun b=>if b=true then te Pu (fun e=>Pv (j+1) (out++[e]))else Pv (j+1) out)
  (Wu:∀(D C:Addr) (s':Shared) (H':Hp) (m':yam) (out:List PD.D),Inv X pins σ H' s'->ai H H'->s'.heap.Ns C m'->H' C=none->C≠X.env.locals->X.MY.heap.objs.size<=C->(∀y c,X.env.cells.lookup y=some c->c≠C)->(∀p∈X.pn++pins,p.1≠C) →
   (H D=none/\X.K.lookup D=none/\∃vs,H' D=some (.lst vs)/\af X.K (fun t b=>W.bad t b∨b=D) H' out vs)->Pv ds.length out->RR (.ref D) C (.ok .next) s') :
  wpAny (model X.prog X.w) X.A (newList []) (fun acc OJ=>wpAny (model X.prog X.w) X.A (newFunctionEnv sc X.env.globals (cf X.env ns) [] X.env.qual none .none (some X.env)) (fun cenv SM =>
   aN (model X.prog X.w) X.A (.compStart (.ListComp elt [⟨tg,iter,ifs,0⟩] sc pos) 0 (.ref it) acc {cenv with scope:=relabel sc X.env}) (RR acc cenv.locals) SM) E OJ) E s:=by
 have e:∀k l,(∃q,l.map LI.val=q.map LI.val/\Pv k q)=Pv k l:=fun k l=>propext ⟨fun⟨q,a,b⟩=>(List.map_inj_right (fun _ _=>LI.val.inj)).mp a ▸ b,fun b=>⟨l,rfl,b⟩⟩
 refine vq (te:=fun ρ Q=>te ρ fun d=>Q (.val d)) hc S hj (fun C LN LV fp XE p=>Ez (he C LN LV fp XE p)) ht hx I r hg T st SK yd hz (fun k o=>∃q,o=q.map LI.val/\Pv k q) ⟨[],rfl,p0⟩ ?_ ?_
 ·rintro j d _ P8 hd ⟨q,rfl,hp⟩ cr;have e2:∀x,q.map LI.val++[LI.val x]=(q++[x]).map LI.val:=fun x=>by rw[VC];rfl
  simp only[e2,e];exact step j d q P8 hd hp cr
 ·rintro D C s' H' m' _ bs I' sm a1 a2 a3 a4 a5 a6 ⟨h1,h2,vs,h3,_,_,h4⟩ ⟨q,rfl,hp⟩;exact Wu D C s' H' m' q I' sm a1 a2 a3 a4 a5 a6 ⟨h1,h2,vs,h3,h4.vals.MG fun t b z=>z.elim .inl fun z=>.inr (.inl z)⟩ hp
end
end PD
set_option linter.all false
set_option maxRecDepth 100000
namespace PD
open PySem PySem.Spec PyProof.Rows L2 PX WC
section
variable{M:Model}{A:Around}{E:yaa}{s:Shared}{env:Env}
theorem zK{α:Type}{c:Prop} [Decidable c] {pos:Pos}{k:PUnit->Sem α}{Q:α->Shared->Prop}(h:LL M A (k ()) Q E s):LL M A (if c then(standAt pos >>= k)else k ()) Q E s:=by
 split
 ·exact LL.OX h
 ·exact h
theorem Gg{e:Expr}{scope:Scope}{pos:Pos}{WM first:Sem Value}{g:Comprehension}{gs:List Comprehension}{cl:List (Str×Addr)}{use:Option (Value->Sem Unit)}{Q:yaa}(hcl:clausesOf e=g::gs)(hs:∀x,foldedSetIterable g.iter env x=pure x)(PL:closureFor scope env=pure cl)
  (hk:scope.kind=.function) (hn:∀x∈scope.names,x.2=.local->scope.names.lookup x.1=some .local)
  (h:wpAny M A first (fun x VN=>wpAny M A (pyIter x) (fun it z₂=>wpAny M A WM (fun acc z₃=>wpAny M A (newFunctionEnv scope env.globals cl [] env.qual none .none (some env)) (fun ce z₄=>aN M A (.compStart e 0 it acc {ce with scope:=relabel scope env}) (compPost M A E use Q acc ce.locals) z₄) E z₃) E z₂) E VN) E s) :
  LL M A (comprehension e scope env pos WM false first use) Q E s:=by
 unfold comprehension;rw[PL,hcl];refine LL.NS (O3 h (fun x VN OI=>?_) fun _ _ z=>z);refine LL.OX (LL.NS (wpAny_of_eq (hs x) ?_));refine LL.NS (S8 (O3 OI (fun it z₂ T5=>?_) fun _ _ z=>z));refine zK (LL.NS (O3 T5 (fun acc z₃ Yy=>?_) fun _ _ z=>z));refine LL.bind (LL.pure (LL.NS (O3 Yy (fun ce z₄ h₄=>?_) fun _ _ z=>z)));dsimp only;have kv:∀y,y∈scope.names->y.2=.local->Env.kindOf {ce with scope:=relabel scope env} y.1=some .local:=fun y hy hl=>lookup_relabel_local (hn y hy hl)
 have v1:∀y∈(scope.names.filter fun y=>(y.2==.local || y.2==.cell) && y.1 != (".0" : Str)).reverse,y.2=.local->Env.kindOf {ce with scope:=relabel scope env} y.1=some .local:=fun y hy hl=>kv y (List.mem_filter.mp (List.mem_reverse.mp hy)).1 hl
 have v2:∀y∈(scope.names.filter fun y=>(y.2==.local || y.2==.cell) && y.1 != (".0" : Str)).reverse.drop 1++(scope.names.filter fun y=>(y.2==.local || y.2==.cell) && y.1 != (".0" : Str)).reverse.take 1,y.2=.local->Env.kindOf {ce with scope:=relabel scope env} y.1=some .local:=fun y hy hl =>
  (Tf.mp hy).elim (fun q=>v1 y (List.mem_of_mem_drop q) hl) fun q=>v1 y (List.mem_of_mem_take q) hl
 refine LL.holding (LL.bind (LL.attempt (LL.holding (LL.run (h₄.mono fun r WN hr=>?_)))));cases r with
 |ok f =>
  cases use with
  |none =>
   obtain⟨m,hm,hr⟩:=hr;exact LL.of (L3 (S8 (wpAny_comp_letGo (cenv:={ce with scope:=relabel scope env}) hk _ WN m v1 hm fun h' m' _ hq=>OQ (hr h' hq))))
  |some u =>
   refine LL.of (L3 (wpAny_rule (L3 (S8 (O3 hr (fun _ z₆ hq=>?_) fun _ _ z=>z)))));obtain⟨m,hm,hq⟩:=hq;exact L3 (wpAny_comp_letGo (cenv:={ce with scope:=relabel scope env}) hk _ z₆ m v2 hm fun h' m' _ hz=>OQ (hq h' hz))
 |error x =>
  have hq:∃m,WN.heap.Ns ce.locals m/\∀h',Heap.SameBut ce.locals WN.heap h'->∀c':Env,c'.locals=ce.locals->wpAny M A (passOn "comprehension.variables-let-go" x c':Sem Value) (fun _ _=>False) E {WN with heap:=h'}:=by cases use<;>exact hr
  obtain⟨m,hm,hq⟩:=hq;exact LL.of (L3 (S8 (wpAny_comp_letGo (cenv:={ce with scope:=relabel scope env}) hk _ WN m v1 hm fun h' m' _ hz=>O3 (hq h' hz _ rfl) (fun _ _ z=>z.elim) fun _ _ z=>z)))
end
end PD
set_option linter.all false
set_option maxRecDepth 100000
namespace PD
open PySem PySem.Spec PyProof.Rows L2 PX WC TX
section
variable{X:Cx}{pos:Pos}{o e:Expr}{to:DE}{t:DA}
theorem pw{K:yac}{P:yak}{H:Hp}:∀l:yah,af K P H (l.map D.str) (l.map V.str)
 |[]=>af.nil
 |x::l=>af.cons (Den.str x) (pw l)
theorem tJ{K:yac}{P:yak}{H:Hp}:∀{l:yah} {vs:yar},af K P H (l.map D.str) vs->vs=l.map V.str
 |[],_,h=>by rw[Wk]at h;exact XX (by rw[h.len];rfl)
 |x::l,[],h=>by have:=h.len;simp at this
 |x::l,v::vs,h=>by
  have h':Den K P H (.str x) v/\af K P H (l.map D.str) vs:=by rw[Sv]at h;simp only[af]at h;obtain⟨a,b,e,h1,h2⟩:=h;cases e;exact⟨h1,h2⟩
  rw[Sv,tJ h'.2,h'.1.QM]
theorem wY:∀l:List (Str×Tok),Vals ((l.map (·.1)).map V.str) (strValues l)
 |[]=>.nil
 |p::l=>.cons ⟨p.2,rfl⟩ (wY l)
theorem tZ:∀{l:yah} {us:yad},Vals (l.map V.str) us->StrsAre us l
 |[],_,h=>by cases h;exact .nil
 |x::l,_,h=>by
  cases h with
  |cons r rs =>
   obtain⟨t,rfl⟩:=r;exact .cons _ _ (tZ rs)
theorem Cz:MtS X "str.split" (fun x ds Q=>∃y,ds=[.str y]/\(y.length==0)=false/\x.length<=sizeLine/\(Builtin.Str.partsBetween x (Builtin.Str.occurrences x y 0 x.length (x.length+1)) y.length).length<=sizeLine/\Q (.lst true ((Txt.split x y).map D.str))):=by
 intro pins s σ H W x t ds vs us Q I tr r hd ⟨y,e,hy,hz,hn,q⟩;subst e;obtain⟨v,rfl,h1⟩:=eW hd;cases r with
 |cons r1 r2 =>
  cases r2;obtain⟨t',rfl⟩:=ft h1 r1;have hf:H s.heap.objs.size=none:=I.Nw.fresh (O2 _);have fin:∀(l:List (Str×Tok)) (k:Nat),l.map (·.1)=Txt.split x y->l.length<=sizeLine->DP X pins σ W H Q (.ref s.heap.objs.size) {s with heap:=s.heap.push {cls:=.type "list", data:=.seq (strValues l).toArray},toks:=k}:=fun l k el hl=>by rw[<- el]at q;refine⟨.ref s.heap.objs.size,L2.upd H s.heap.objs.size (.lst ((l.map (·.1)).map V.str)),_,I.laid (t':=k) (fun b u e=>P7 _ e) (O2 _) ⟨by rw[Ph,Ph];exact hl,_,0,wY l,Rm _ rfl⟩,rfl,ai.upd hf,Den.lst (fun z=>?_) (.new ax (Inv.Pq I)) (pw _),q⟩;obtain⟨o,z⟩:=tr _ _ z;rw[hf]at z;cases z
  cases c1:(decide (x.length<y.length) || decide (Builtin.Str.strKind x<Builtin.Str.strKind y))
  ·cases c2:(Builtin.Str.occurrences x y 0 x.length (x.length+1)).isEmpty
   ·refine call_meets PySem.F.slot_str_split (Xl _ _ _) PySem.F.entry_str_split (PySem.F.args_str_split_2 _ _) (meets_str_split_sep x y t t' c1 hy c2 hz hn) ?_;show wants _ _ _ {s with toks:=_,heap:=s.heap.push {cls:=.type "list", data:=.seq (strsFrom s.toks (Builtin.Str.partsBetween x (Builtin.Str.occurrences x y 0 x.length (x.length+1)) y.length)).toArray} };rw[strsFrom_eq];have et:=numbered_texts s.toks (Builtin.Str.partsBetween x (Builtin.Str.occurrences x y 0 x.length (x.length+1)) y.length);refine fin _ _ (et.trans ?_) ?_
    ·unfold Txt.split;rw[c1,c2];rfl
    ·have:=congrArg List.length et;rw[Ph]at this;rw[this];exact hn
   ·refine call_meets PySem.F.slot_str_split (Xl _ _ _) PySem.F.entry_str_split (PySem.F.args_str_split_2 _ _) (meets_str_split_not_found x y t t' c1 hy c2) (fin [(x,t)] s.toks ?_ ?_)
    ·unfold Txt.split;rw[c1,c2];rfl
    ·show 1<=sizeLine;decide
  ·refine call_meets PySem.F.slot_str_split (Xl _ _ _) PySem.F.entry_str_split (PySem.F.args_str_split_2 _ _) (meets_str_split_cannot_occur x y t t' c1) (fin [(x,t)] s.toks ?_ ?_)
   ·unfold Txt.split;rw[c1];rfl
   ·show 1<=sizeLine;decide
theorem EX:MtS X "str.join" (fun x ds Q=>∃(b:Bool) (ys:yah),ds=[.lst b (ys.map D.str)]/\x.length<=16/\(ys.map (·.length)).sum+ys.length<=1048576/\Q (.str (Txt.join x ys))):=by
 intro pins s σ H W x t ds vs us Q I tr r hd ⟨b,ys,e,hx,hw,q⟩;subst e;obtain⟨v,rfl,h1⟩:=eW hd;obtain⟨a,ws,ev,_,hq,hs⟩:=h1.Rg;subst ev;cases r with
 |cons r1 r2 =>
  cases r2;cases r1;obtain⟨its,rv,pl,_⟩:=I.list hq;rw[tJ hs]at rv;exact join_listW pl.isList (by simpa using tZ rv) hx hw fun t' k=>⟨.str _,H,_,I.tok k,⟨_,rfl⟩,ai.refl H,Den.str _,q⟩
theorem Cy:MtS X "str.index" (fun x ds Q=>∃y,ds=[.str y]/\∃i r,Builtin.Str.occurrences x y 0 x.length 1=i::r/\Q (.int (i:Nat))):=by
 intro pins s σ H W x t ds vs us Q I tr r hd ⟨y,e,i,rs,ho,q⟩;subst e;obtain⟨v,rfl,h1⟩:=eW hd;cases r with
 |cons r1 r2 =>
  cases r2;obtain⟨t',rfl⟩:=ft h1 r1;exact call_gives PySem.F.slot_str_index (Xl _ _ _) PySem.F.entry_str_index (PySem.F.args_str_index_2 _ _) (gives_str_index x y t t' i rs ho) ⟨.int _,H,_,I.tok _,⟨_,rfl⟩,ai.refl H,Den.int _,q⟩
end
end PD
set_option linter.all false
set_option maxRecDepth 100000
namespace PD
open PySem PySem.Spec PyProof.Rows L2 PX WC TX
section
variable{M:Model}{A:Around}{E:yaa}{s:Shared}{env:Env}
theorem Ef{c a b:Expr}{pos:Pos}{Q:yaa}(h:LL M A (isTrue c env (eval c env)) (fun k z=>if k then LL M A (eval a env) Q E z else LL M A (eval b env) Q E z) E s):LL M A (eval (.IfExp c a b pos) env) Q E s:=by rw[arm_eval_IfExp];refine LL.bind (h.LS fun k z q=>?_);cases k<;>exact q
end
section
variable{X:Cx}{c a b o e:Expr}{es rest:yai}{pos apos M0:Pos}{tA:DT}{ta tb to:DE}{t:DA}
theorem BY(hc:WL X c tA)(ha:Vl X a ta)(hb:Vl X b tb):Vl X (.IfExp c a b pos) (dIf tA ta tb):=by
 intro pins s σ H W ρ Q I rr h;refine Ef ((hc pins s σ H W ρ _ I rr h).LS fun d s1 ⟨H1,I1,e1,q1⟩=>?_);cases d with
 |true=>exact(ha pins s1 σ H1 W ρ Q I1 (rr.same e1) q1).LS fun _ _ z=>z.up e1
 |false=>exact(hb pins s1 σ H1 W ρ Q I1 (rr.same e1) q1).LS fun _ _ z=>z.up e1
theorem Gs{x1}(h:Y6 X es t):Vl X (.Tuple es x1 pos) (B6 t):=by intro pins s σ H W ρ Q I rr hq;refine Eh ((h pos pins s σ H W ρ _ I rr hq).LS fun us s1 ⟨vs,H1,ds,I1,r,e1,hd,z,q⟩=>?_);rw[<- hd.len]at z;refine wpAny_newTuple ?_ (by rw[<- r.length];exact z);have hf:H1 s1.heap.objs.size=none:=I1.Nw.fresh (O2 _);exact⟨.ref s1.heap.objs.size,L2.upd H1 s1.heap.objs.size (.tup vs),_,I1.laid (t':=s1.toks) (fun b u e=>P7 _ e) (O2 _) ⟨z,us,r,⟨_,Rm _ rfl,rfl,_,rfl⟩⟩,rfl,e1.trans (ai.upd hf),Den.tup (OM.of ax) (hd.same (ai.upd hf)),q⟩
theorem ja {x:Str} {i:Str} (hm:∃t,X.mg x=some (.str i t)) (hg:Gl X x:=by rfl) (hd:(x==("__debug__" : Str))=false:=by decide):Mv X (.Name x pos) (dC (.str i)):=by obtain⟨t,hm⟩:=hm;exact Mv.of (cV (v:=.str i) hg hm ⟨t,rfl⟩ hd) fun _ H _ _ _ _ q=>⟨ai.refl H,_,Den.str i,q⟩
def A8(x:Str)(ds:yas)(Q:D->Prop):Prop:=∃y,ds=[.str y]/\(y.length==0)=false/\x.length<=sizeLine/\(Builtin.Str.partsBetween x (Builtin.Str.occurrences x y 0 x.length (x.length+1)) y.length).length<=sizeLine/\Q (.lst true ((Txt.split x y).map D.str))
def rJoin(x:Str)(ds:yas)(Q:D->Prop):Prop:=∃(b:Bool) (ys:yah),ds=[.lst b (ys.map D.str)]/\x.length<=16/\(ys.map (·.length)).sum+ys.length<=1048576/\Q (.str (Txt.join x ys))
def A7(x:Str)(ds:yas)(Q:D->Prop):Prop:=∃y,ds=[.str y]/\∃i r,Builtin.Str.occurrences x y 0 x.length 1=i::r/\Q (.int (i:Nat))
theorem vA (ho:Mv X o to) (ha:Qc X [e] t) (Po:attributeBase o "split" X.env (eval o X.env)=eval o X.env:=by rfl)
  (RZ:((backTo M0 (starEach [e] X.env)).all (fun x=>!x.1) && (backToKw M0 (keywordEach [] X.env)).all (fun x=>x.1.isSome) && decide ([e].length+([]:List Keyword).length+(if([]:List Keyword).isEmpty then 0 else 1)<30))=true:=by rfl)
  (PH:(apos.endLine==M0.line)=true:=by rfl) (hs:starEach [e] X.env=(false,eval e X.env)::starEach [] X.env:=by rfl):Mv X (.Call (.Attribute o "split" apos) [e] [] M0) (ZC A8 to t) :=
 uK PySem.F.plainAttrs_str PySem.F.slot_str_split PySem.F.type_str_split Cz ho ha Po RZ PH hs
theorem rK (ho:Mv X o to) (ha:Qc X [e] t) (Po:attributeBase o "join" X.env (eval o X.env)=eval o X.env:=by rfl)
  (RZ:((backTo M0 (starEach [e] X.env)).all (fun x=>!x.1) && (backToKw M0 (keywordEach [] X.env)).all (fun x=>x.1.isSome) && decide ([e].length+([]:List Keyword).length+(if([]:List Keyword).isEmpty then 0 else 1)<30))=true:=by rfl)
  (PH:(apos.endLine==M0.line)=true:=by rfl) (hs:starEach [e] X.env=(false,eval e X.env)::starEach [] X.env:=by rfl):Mv X (.Call (.Attribute o "join" apos) [e] [] M0) (ZC rJoin to t) :=
 uK PySem.F.plainAttrs_str PySem.F.slot_str_join PySem.F.type_str_join EX ho ha Po RZ PH hs
theorem vw (ho:Mv X o to) (ha:Qc X [e] t) (Po:attributeBase o "index" X.env (eval o X.env)=eval o X.env:=by rfl)
  (RZ:((backTo M0 (starEach [e] X.env)).all (fun x=>!x.1) && (backToKw M0 (keywordEach [] X.env)).all (fun x=>x.1.isSome) && decide ([e].length+([]:List Keyword).length+(if([]:List Keyword).isEmpty then 0 else 1)<30))=true:=by rfl)
  (PH:(apos.endLine==M0.line)=true:=by rfl) (hs:starEach [e] X.env=(false,eval e X.env)::starEach [] X.env:=by rfl):Mv X (.Call (.Attribute o "index" apos) [e] [] M0) (ZC A7 to t) :=
 uK PySem.F.plainAttrs_str PySem.F.slot_str_index PySem.F.type_str_index Cy ho ha Po RZ PH hs
end
end PD
set_option linter.all false
set_option maxRecDepth 100000
namespace PD
open PySem PySem.Spec PyProof.Rows L2 PX WC
section
variable{X:Cx}{sc:Scope}{ns:yah}{js:yag}{elt iter:Expr}{ifs:yai}{px pos:Pos}{te:DE}{tc:DT}{wi:DA}{x:Str}
def JF(i:Nat)(t:DE):DS:=fun E ρ=>t ρ fun d=>∃ds,d=.lst true ds/\E.nx (ρ.set i (some (.own ds)))
end
section
variable{X:Cx}{pos:Pos}
def JM(K:yac)(C:Addr)(i:Nat)(sp:DSp)(t:DA)(su:DS):DS:=fun E ρ=>t ρ fun ds=>sp (ay ds) (fun _=>E.nx ρ) (rM K C i su E ρ)
end
section
open PySem.W
end
end PD
set_option linter.all false
namespace PD
open PySem PySem.Spec PyProof.Rows L2 PX
abbrev Tb:=List (Str×Tok×Value)
def mR(P:Params)(es:Tb):Array DictEntry:=(es.map fun e=>(⟨PyData.keyHash P e.1,.str e.1 e.2.1,e.2.2⟩:DictEntry)).toArray
def TF(es:Tb)(x:Str):yan:=(es.find? fun e=>decide (x=e.1)).map (·.2.2)
structure cX(K:yac)(w:World)(a:Addr)(es:Tb):Prop where
 ns:(a==sysModules)=false
 at_:∃ep,K.lookup a=some ⟨.type "dict", none,.dict (mR w.params es) ep,#[]⟩
theorem rN(P:Params)(es:Tb)(x:Str):findBy lK (mR P es) (.inr x)=TF es x:=by
 unfold findBy mR TF;rw[List.find?_toArray,List.find?_map,Option.map_map];have e:((fun e:DictEntry=>lK (.inr x) e.key)∘fun e:Str×Tok×Value=>(⟨PyData.keyHash P e.1,.str e.1 e.2.1,e.2.2⟩:DictEntry))=fun e=>decide (x=e.1):=funext fun e=>by
  show Value.isStrOf x (.str e.1 e.2.1)=_;by_cases h:x=e.1
  ·rw[Tz h,h];exact gY e.1 e.2.1
  ·rw[TL h];cases q:Value.isStrOf x (.str e.1 e.2.1)with
   |false=>rfl
   |true =>
    obtain⟨t,z⟩:=Value.isStrOf_shape q;injection z with z1;exact absurd z1.symm h
 rw[e];rfl
section
variable{X:Cx}{pins:yab}{σ:St}{H:Hp}{s:Shared}{a:Addr}{es:Tb}
theorem cX.mapOf(d:cX X.K X.w a es)(I:Inv X pins σ H s):s.heap.MapOf (iT X.prog X.w) a (fun k=>findBy lK (mR X.w.params es) k):=by obtain⟨ep,e⟩:=d.at_;refine⟨_,_,ep,I.QI _ _ e,⟨rfl,rfl,rfl⟩,rfl,fun e he=>?_,fun k=>rfl⟩;unfold mR at he;rw[List.mem_toArray]at he;obtain⟨z,_,rfl⟩:=TB.mp he;exact⟨.inr z.1,gY z.1 z.2.1,rfl⟩
end
section
variable{X:Cx}{a:Addr}{es:Tb}{e:Expr}{te:DE}{g:Str}{p pos:Pos}
def j6(es:Tb)(te:DE):DT:=fun ρ Q=>te ρ fun d=>match d with
 |.str x=>Q (TF es x).isSome
 |_=>False
theorem vE (d:cX X.K X.w a es) (hm:X.mg g=some (.ref a)) (he:Mv X e te) (hg:Gl X g:=by rfl) (PC:(g==("__debug__" : Str))=false:=by decide) (hb:behindInMarks .In (.Name g p)=false:=by rfl):Tn X (.Compare e [.In] [.Name g p] pos) (j6 es te):=by
 intro pins s σ H W ρ Q I rr h;refine zBp (LS (he pins s σ H W ρ _ I rr h) fun vv s1 ⟨v,H1,x,I1,rv,e1,hx,q1⟩=>cx I1 hg hm ?_ PC) hb;cases x with
 |str y =>
  obtain⟨t,rfl⟩:=ft hx rv;refine wpAny_in_of (knd:=iT X.prog X.w) (k:=.inr y) (gY y t) d.ns (d.mapOf I1) ?_;rw[rN];exact Wj ⟨H1,I1.tok _,e1,q1⟩
 |_=>exact q1.elim
theorem tM (d:cX X.K X.w a es) (hm:X.mg g=some (.ref a)) (he:Mv X e te) (hg:Gl X g:=by rfl) (PC:(g==("__debug__" : Str))=false:=by decide) (hb:behindInMarks .NotIn (.Name g p)=false:=by rfl):Tn X (.Compare e [.NotIn] [.Name g p] pos) (fun ρ Q=>j6 es te ρ fun b=>Q (!b)):=by
 intro pins s σ H W ρ Q I rr h;refine zBp (LS (he pins s σ H W ρ _ I rr h) fun vv s1 ⟨v,H1,x,I1,rv,e1,hx,q1⟩=>cx I1 hg hm ?_ PC) hb;cases x with
 |str y =>
  obtain⟨t,rfl⟩:=ft hx rv;refine wpAny_notIn_of (knd:=iT X.prog X.w) (k:=.inr y) (gY y t) d.ns (d.mapOf I1) ?_;rw[rN];exact Wj ⟨H1,I1.tok _,e1,q1⟩
 |_=>exact q1.elim
end
end PD
set_option linter.all false
namespace PD
open PySem PySem.Spec PyProof.Rows L2 PX
def TH(H₀ H:Hp):Hp:=fun b=>if(H₀ b).isSome=true then H b else none
theorem dP{H₀ H:Hp}{b:Addr}(h:H₀ b=none):TH H₀ H b=none:=by unfold TH;rw[h];rfl
theorem jk{H₀ H:Hp}{b:Addr}{o:HO}(h:TH H₀ H b=some o):H b=some o:=by
 unfold TH at h;split at h
 ·exact h
 ·cases h
def Dom(H₀ H:Hp):Prop:=∀b o,H₀ b=some o->∃o',H b=some o'
theorem Dom.refl(H:Hp):Dom H H:=fun _ o h=>⟨o,h⟩
theorem Dom.same{H₀ H H':Hp}(d:Dom H₀ H)(e:ai H H'):Dom H₀ H':=fun b o h=>by obtain⟨o',q⟩:=d b o h;exact e.ex q
theorem sA{H₀ H:Hp}(d:Dom H₀ H){b:Addr}(h:TH H₀ H b=none):H₀ b=none:=by
 cases e:H₀ b with
 |none=>rfl
 |some o =>
  obtain⟨o',q⟩:=d b o e;unfold TH at h;rw[e,q]at h;cases h
abbrev Cx.re(X:Cx)(H:Hp):Cx:={X with H₀:=TH X.H₀ H}
theorem Inv.re{X:Cx}{pins:yab}{σ:St}{H:Hp}{s:Shared}(I:Inv X pins σ H s)(d:Dom X.H₀ H):Inv (Cx.re X H) pins σ H s where
 ok:={mod:=I.ok.mod,kind:=I.ok.kind,glob:=I.ok.glob,blt:=I.ok.blt,above:=I.ok.above,inj:=I.ok.inj,has:=I.ok.has,Vu:=I.ok.Vu,hd:=I.ok.hd,frames:=I.ok.frames,Yt:=I.ok.Yt,Z2:=I.ok.Z2,bs:=fun b o h=>⟨(I.ok.bs b o h).1,dP (I.ok.bs b o h).2⟩,V7:=I.ok.V7,TQ:=I.ok.TQ,U4:=I.ok.U4,Rf:=I.ok.Rf,Wl:=fun b h=>dP (I.ok.Wl b h)}
 os:=I.os
 bare:=I.bare
 base:={keep:=fun b o h n=>I.base.keep b o h (sA d n),slot:=fun b o h n=>I.base.slot b o h (sA d n),free:=fun b o h n=>I.base.free b o h (sA d n),there:=I.base.there,Qq:=fun b xs h=>jk h,Qk:=fun b o u h=>jk h,Ql:=fun b ps h=>⟨#[],by rw[jk h];simp⟩}
 loc:=I.loc
 cell:=I.cell
 free:=I.free
 OW:=I.OW
 pin:=I.pin
 Nw:=I.Nw
 len:=I.len
theorem Inv.Y9{X:Cx}{pins:yab}{σ:St}{H H1:Hp}{s s1:Shared}(I:Inv X pins σ H s)(d:Dom X.H₀ H)(J:Inv (Cx.re X H) pins σ H1 s1):Inv X pins σ H1 s1 where
 ok:=I.ok
 os:=J.os
 bare:=J.bare
 base:={keep:=fun b o h n=>J.base.keep b o h (dP n),slot:=fun b o h n=>J.base.slot b o h (dP n),free:=fun b o h n=>J.base.free b o h (dP n),there:=J.base.there,Qq:=fun b xs h=>J.base.Qq b xs (by have:=I.base.Qq b xs h;show TH X.H₀ H b=_;unfold TH;rw[h,this];rfl),Qk:=fun b o u h=>J.base.Qk b o u (by have:=I.base.Qk b o u h;show TH X.H₀ H b=_;unfold TH;rw[h,this];rfl),Ql:=fun b ps h=>by obtain⟨m,e⟩:=I.base.Ql b ps h;obtain⟨m2,e2⟩:=J.base.Ql b (ps++m) (by show TH X.H₀ H b=_;unfold TH;rw[h,e];rfl);exact⟨m++m2,by rw[e2,X1]⟩}
 loc:=J.loc
 cell:=J.cell
 free:=J.free
 OW:=J.OW
 pin:=J.pin
 Nw:=J.Nw
 len:=J.len
def aT(K:yac)(P:Addr->Prop)(H:Hp)(σ:St)(ρ:Ro):Prop:=∀(i:Nat) (x:Sl),ρ[i]?=some (some x)->∃d v,x=.val d/\σ[i]?=some (some v)/\Den K (fun t a=>P a∨(t=true/\∃o,H a=some o)) H d v
abbrev yz(K:yac)(P:Addr->Prop)(H H':Hp)(d:D)(v:V):Prop:=Den K (fun t a=>P a∨(t=true/\∃o,H a=some o)) H' d v
def se(P:Addr->Prop)(H:Hp):Own:=⟨P,fun _=>none,fun a=>∃o,H a=some o⟩
theorem pJ{P:Addr->Prop}{H:Hp}{t:Bool}{a:Addr}:(se P H).bad t a↔P a∨(t=true/\∃o,H a=some o):=by
 unfold Own.bad se;constructor
 ·rintro(h|⟨_,h⟩| h)
  ·exact .inl h
  ·cases h
  ·exact .inr h
 ·rintro(h|h)
  ·exact .inl h
  ·exact .inr (.inr h)
theorem aT.rel{X:Cx}{P:Addr->Prop}{H:Hp}{σ:St}{ρ:Ro}(h:aT X.K P H σ ρ)(hP:∀a,P a->∃o,H a=some o)(ent:ai X.H₀ H)(tab:cK X.K H):Rel X (se P H) H σ ρ where
 val:=fun i d q=>by obtain⟨d',v,e,h1,h2⟩:=h i _ q;cases e;exact⟨v,h1,h2.MG fun t a z=>pJ.mp z⟩
 own:=fun i x q=>by obtain⟨d',v,e,_⟩:=h i _ q;cases e
 inj:=fun i j a z=>by cases z
 kn:=fun i a z=>by cases z
 ke:=fun i a z=>by cases z
 bt:=hP
 st:=fun a z=>z
 ent:=ent
 tab:=tab
theorem nX{H₀ H:Hp}(tk:cN H):ai (TH H₀ H) H:=⟨fun b o h _=>jk h,fun b ps h=>⟨#[],by rw[jk h];simp⟩,fun _=>tk⟩
end PD
set_option linter.all false
namespace PD
open PySem PySem.Spec PyProof.Rows L2 PX PZ
section
variable{X:Cx}{a:Addr}{es:Tb}{e:Expr}{te:TE}{g:Str}{p sp pos:Pos}
def D4(es:Tb)(te:TE):TE:=fun σ H Q=>te σ H fun y H1=>∃x v u,y=.str x/\TF es x=some u/\RelV v u/\Q v H1
theorem sj (d:cX X.K X.w a es) (hm:X.mg g=some (.ref a)) (he:PE X e te) (hg:Gl X g:=by rfl) (PC:(g==("__debug__" : Str))=false:=by decide) (hs:oY e:=by intro _ _;rfl):PE X (.Subscript (.Name g p) e sp) (D4 es te):=by intro pins s σ H Q I h;refine FN PySem.F.slot_dict_getitem.lookup hs (cx I hg hm (LS (he pins s σ H _ I h) fun iv s2 ⟨y,H2,I2,ry,x,v,u,ey,l,rv,q⟩=>?_) PC);subst ey;obtain⟨t,rfl⟩:∃t,iv=Value.str x t:=ry;have M:=d.mapOf I2;refine⟨M.typeIs,wpAny_getItem_of (knd:=iT X.prog X.w) (k:=.inr x) (v:=u) (gY x t) M (by rw[rN];exact l) ⟨v,H2,I2.tok _,rv,q⟩⟩
end
def cY (K:yac) (b:Addr) (xs:yah):Prop:=∃(o:Obj) (its:yao) (n:Nat),K.lookup b=some o/\o.cls=.type "tuple" /\ o.data=.seq its n/\its.size<=sizeLine/\Vals (xs.map V.str) its.toList
theorem cY.sq{K:yac}{b:Addr}{xs:yah}(h:cY K b xs)(H:Hp):L2.OM K H b (xs.map V.str):=.inr h
def uG(K:yac)(es:Tb)(x:Str)(fs:yah):Prop:=∃b,TF es x=some (.ref b)/\cY K b fs
section
variable{X:Cx}{a:Addr}{es:Tb}{e:Expr}{te:DE}{g:Str}{p p2 sp pos:Pos}
def yQ(K:yac)(es:Tb)(te:DE):DE:=fun ρ Q=>te ρ fun d=>∃x fs,d=.str x/\uG K es x fs/\Q (.int fs.length)
theorem xT (d:cX X.K X.w a es) (hm:X.mg g=some (.ref a)) (he:Mv X e te) (hl:Gl X "len" := by rfl) (hml:X.mg "len" = none) (hg:Gl X g:=by rfl) (PC:(g==("__debug__" : Str))=false:=by decide) (hs:oY e:=by intro _ _;rfl)
  (Py:starEach [.Subscript (.Name g p) e sp] X.env=(false,eval (.Subscript (.Name g p) e sp) X.env)::starEach [] X.env:=by rfl) (Qj:(backTo pos (starEach [] X.env)).any (·.1)=false:=by rfl) :
  Mv X (.Call (.Name "len" p2) [.Subscript (.Name g p) e sp] [] pos) (yQ X.K es te) :=
 Mv.of (wa i5 hl hml Se (bI (sj d hm he.pe hg PC hs) cB Py)) fun σ H W ρ Q r h=>by refine⟨W,ρ,_,r,h,fun v H1 dd e1 hd q=>?_⟩;obtain⟨x,fs,rfl,⟨b,l,kt⟩,q⟩:=q;have z:=hd.QM;subst z;refine⟨x,.ref b,.ref b,rfl,l,rfl,b,_,rfl,.inr (kt.sq H1),e1,.int fs.length,?_,q⟩;rw[Ph];exact Den.int _
end
section
variable{X:Cx}{A0:Addr}{Vn:Tb}{e b:Expr}{te tb:DE}{g:Str}{p q sp pos:Pos}
def ql(K:yac)(Vn:Tb)(te tb:DE):DA:=fun ρ R=>te ρ fun d=>∃x fs,d=.str x/\uG K Vn x fs/\tb ρ fun d2=>∃k2 ys,cC d2=some (k2,ys)/\R (List.zipWith (fun x y=>D.tup [x,y]) (fs.map D.str) ys)
theorem rO {es:yai} {kt:Nat} {tp:Pos} (dd:cX X.K X.w A0 Vn) (VX:X.mg g=some (.ref A0)) (hm:X.mg "zip" = none) (he:Mv X e te) (hb:Mv X b tb) (hg:Gl X "zip" := by rfl) (Za:Gl X g:=by rfl) (PC:(g==("__debug__" : Str))=false:=by decide) (Xx:oY e:=by intro _ _;rfl)
  (hs:starEach [.Subscript (.Name g q) e sp,b] X.env=(false,eval (.Subscript (.Name g q) e sp) X.env)::starEach [b] X.env:=by rfl) (hs1:starEach [b] X.env=(false,eval b X.env)::starEach [] X.env:=by rfl) (X6:(backTo pos (starEach [b] X.env)).any (·.1)=false:=by rfl) :
  Uv X (.Tuple es kt tp) (.Call (.Name "zip" p) [.Subscript (.Name g q) e sp,b] [] pos) (ql X.K Vn te tb):=by
 intro pins s σ H W ρ R I r h;have hpa:PA X [.Subscript (.Name g q) e sp,b] (j2 (D4 Vn (qA X te)) (j2 (qA X tb) nB)):=bI (sj dd VX he.pe Za PC Xx) (bI hb.pe cB hs1) hs;refine Call_ (dI I hg hm boot_zip (PyProof.Rows.callWith_type1 (LS (hpa pos pins s σ H (fun vs H1=>∃l1 fs v2 d2 k2 ys,vs=[.ref l1,v2]/\ai H H1/\cY X.K l1 fs/\Den X.K W.bad H1 d2 v2/\cC d2=some (k2,ys)/\R (List.zipWith (fun x y=>D.tup [x,y]) (fs.map D.str) ys)) I
  ⟨W,ρ,_,r,h,fun v H1 d e1 hd ⟨x,fs,ed,⟨l1,lk,kt⟩,q1⟩=>?_⟩) fun us s1 ⟨vs,H1,I1,r1,l1,fs,v2,d2,k2,ys,ev,e1,kt,hd2,g2,q⟩=>?_) hs X6))
 ·subst ed;have z:=hd.QM;subst z;exact⟨x,.ref l1,.ref l1,rfl,lk,rfl,W,ρ,_,r.same e1,q1,fun v2 H2 d2 e2 hd2 ⟨k2,ys,g2,q2⟩=>⟨l1,fs,v2,d2,k2,ys,rfl,e1.trans e2,kt,hd2,g2,q2⟩⟩
 ·subst ev;obtain⟨l2,ws2,e3,sq2,dn2,up2⟩:=hd2.seq g2;subst e3;have sq1:Ub X.K false H1 l1 (fs.map V.str):=kt.sq H1;have dn1:af X.K W.bad H1 (fs.map D.str) (fs.map V.str):=pw fs;cases r1 with
  |cons ra rr =>
   cases rr with
   |cons rb rr =>
    cases rr;cases ra;cases rb;obtain⟨us1,_,p1⟩:=sq1.list I1;obtain⟨us2,_,p2⟩:=sq2.list I1;have nn:∀j:Nat,s1.heap.objs.size<=s1.heap.objs.size+j:=fun j=>Nat.le_add_right _ j
    refine KC p1 p2 fun h' Z kp=>?_
    refine wpAny_pyIter_zip Z.z ?_;have Dz:Ap (s1.heap.objs.size+4) (s1.heap.objs.size+2) (s1.heap.objs.size+3) s1.heap.objs.size (s1.heap.objs.size+1):=by constructor<;>simp
    refine⟨s1.heap.objs.size+4,[s1.heap.objs.size+4,s1.heap.objs.size+2,s1.heap.objs.size+3,s1.heap.objs.size,s1.heap.objs.size+1],_,_,H1,_,rfl,I1.kept (t':=s1.toks) kp,e1,Dd false k2 l1 l2 _ _ _ _ _ Dz,Z,fun c hc=>?_,?_,q⟩
    ·have Ti:s1.heap.objs.size<=c:=by
      simp only[Rb,VZ,or_false]at hc;rcases hc with q|q|q|q|q<;>subst q<;>first|exact nn _|exact O2 _
     exact I1.Wo Ti (I1.Nw.fresh Ti)
    ·intro P' H' hT hL hX i;have T9:Ub X.K false H' l1 (fs.map V.str):=kt.sq H';have k2':=up2 P' H' hT hL;have n1:=dn1.len;have n2:=dn2.len;have hlen:(List.zipWith (fun x y=>D.tup [x,y]) (fs.map D.str) ys).length=min (fs.map D.str).length ys.length:=List.length_zipWith;refine⟨fun hi=>?_,fun v H3 y hi=>?_,fun hi=>⟨_,ws2,T9,k2',?_⟩⟩
     ·obtain⟨x,hx,_⟩:=dn1.get (i:=i) (d:=(fs.map D.str)[i]'(by omega)) (by simp);obtain⟨y,hy,_⟩:=dn2.get (i:=i) (d:=ys[i]'(by omega)) (by simp);exact⟨_,ws2,x,y,T9,k2',hx,hy⟩
     ·obtain⟨T,x,y',e,nT,eH,hx,hy⟩:=y;subst e eH;obtain⟨dx,g1',hx'⟩:=dn1.aU (hx _ T9);obtain⟨dy,g2',Yx⟩:=dn2.aU (hy ws2 k2');have sm:ai H' (L2.upd H' T (.tup [x,y'])):=ai.upd nT;refine⟨sm,.tup [dx,dy],by simp only[List.getElem?_zipWith,g1',g2'],Den.tup (OM.of ax) (af.cons ((Den.map hT hL hX dx x hx').same sm) (af.one ((Den.map hT hL hX dy y' Yx).same sm)))⟩
     ·by_cases hz:(fs.map D.str).length<=i
      ·exact .inl (Zn (by omega))
      ·exact .inr (Zn (by omega))
end
end PD
set_option linter.all false
namespace PD
open PySem PySem.Spec PyProof.Rows L2 PX
section
variable{X:Cx}{A0:Addr}{Vn:Tb}{e e1:Expr}{es:yai}{te:DE}{t:DA}{g:Str}{q sp pos:Pos}
def eM(X:Cx)(Vn:Tb)(Ed:Value->Prop)(te:DE)(t:DA):DE:=fun ρ Q=>te ρ fun d=>∃(x h:Str) (k:Nat) (ps:yah) (sp:DSp),d=.str x/\TF Vn x=X.mg h/\Pj X.prog X.w X.K X.mg X.base h k ps sp/\aX k X.A/\t ρ fun ds=>sp (ay ds) Q Ed
theorem eN {Ed:Value->Prop} (px:bj X Ed) (dd:cX X.K X.w A0 Vn) (VX:X.mg g=some (.ref A0)) (he:Mv X e te) (ha:Qc X (e1::es) t) (Za:Gl X g:=by rfl) (PC:(g==("__debug__" : Str))=false:=by decide) (Xx:oY e:=by intro _ _;rfl)
  (Py:starEach (e1::es) X.env=(false,eval e1 X.env)::starEach es X.env:=by rfl) (Qj:(backTo pos (starEach es X.env)).any (·.1)=false:=by rfl)
  (hev:eval (.Call (.Subscript (.Name g q) e sp) (e1::es) [] pos) X.env=(do callWith pos (←eval (.Subscript (.Name g q) e sp) X.env) [] (backTo pos (starEach (e1::es) X.env)) (backToKw pos (keywordEach [] X.env))):=by rfl) :
  Mv X (.Call (.Subscript (.Name g q) e sp) (e1::es) [] pos) (eM X Vn Ed te t):=by
 intro pins s σ H W ρ Q I rr h;refine Call_ (LS (sj dd VX he.pe Za PC Xx pins s σ H (fun v H1=>ai H H1/\∃(h:Str) (k:Nat) (ps:yah) (sp:DSp) (f:Addr),v=.ref f/\X.mg h=some (.ref f)/\Pj X.prog X.w X.K X.mg X.base h k ps sp/\aX k X.A/\t ρ fun ds=>sp (ay ds) Q Ed) I
  ⟨W,ρ,_,rr,h,fun v H1 d e1 hd ⟨x,h',k,ps,VG,ed,l,hh,rm,q1⟩=>?_⟩) fun fv s1 ⟨v,H1,I1,rv,sm,h',k,ps,VG,f,ev,em,hh,rm,q1⟩=>?_) hev
 ·subst ed;have z:=hd.QM;subst z;obtain⟨f,fd,F,hm,hk,hb⟩:=id hh;exact⟨x,.ref f,.ref f,rfl,l.trans hm,rfl,e1,h',k,ps,VG,f,rfl,hm,hh,rm,q1⟩
 ·subst ev;obtain rfl:fv=Value.ref f:=rv;obtain⟨f',fd,F,hm,hk,hb⟩:=hh;rw[em]at hm;cases hm;refine PySem.W.callWith_K (h₀:=X.base) I.ok.mod.Uz hk (LS (ha pos pins s1 σ H1 W ρ _ I1 (rr.same sm) q1) fun us s2 ⟨vs,H2,ds,I2,r,e2,O6,q2⟩=>⟨I2.QI,?_⟩) Py Qj;exact LS (qN (dds:=[]) (dsv:=[]) F rm hb .nil (by simp) I2 ((rr.same sm).same e2) r O6 (by rw[V0];exact q2) fun er s' hx=>px pins σ H2 W ρ s2 er s' I2 ((rr.same sm).same e2) hx) fun _ _ z=>(z.up e2).up sm
end
section
variable{X:Cx}{e:Expr}{te:DE}{rp pos:Pos}
theorem Am{h₀:ExceptHandler}{hs:List ExceptHandler}(he:Mv X.Qp e te):Q9 X (.Try [.Return (some e) rp] (h₀::hs) [] [] pos) (yR te):=by intro pins s σ H W ρ E I r h;refine wpAny_Try_except (Ym (wpAny_Return_some (O3 (he pins s σ H W ρ _ (I.wish _) (r.wish _) h) (fun u s1 ⟨v,H1,d,I1,rv,e1,hd,q⟩=>?_) fun _ _ z=>False.elim z)));exact⟨W,σ,H1,I1.MZ,OB.same e1,v,d,rv,hd,q⟩
end
end PD
set_option linter.all false
namespace PD
open PySem PySem.Spec PyProof.Rows L2 PX
mutual
def fu:D->Prop
 |.Nx=>True|.bl _=>True|.int _=>True|.str _=>True
 |.tup ds=>iK ds
 |.lst _ ds=>iK ds
 |_=>False
def iK:yas->Prop
 |[]=>True
 |d::ds=>fu d/\iK ds
end
section
variable{K:yac}{P P':yak}{H H':Hp}
mutual
theorem Den.TN(hT:∀a vs,OM K H a vs->OM K H' a vs)(hL:∀t a vs,¬P t a->QK K H t a vs->¬P' t a/\QK K H' t a vs):∀(d:D) (v:V),fu d->Den K P H d v->Den K P' H' d v
 |.Nx,_,_,h=>by simpa only[Den]using h
 |.bl _,_,_,h=>by simpa only[Den]using h
 |.int _,_,_,h=>by simpa only[Den]using h
 |.str _,_,_,h=>by simpa only[Den]using h
 |.tup ds,_,p,h=>by simp only[Den]at h ⊢;obtain⟨a,vs,e,q,r⟩:=h;exact⟨a,vs,e,hT a vs q,af.TN hT hL ds vs (by simpa only[fu]using p) r⟩
 |.lst t ds,_,p',h=>by simp only[Den]at h ⊢;obtain⟨a,vs,e,p,q,r⟩:=h;exact⟨a,vs,e,(hL t a vs p q).1,(hL t a vs p q).2,af.TN hT hL ds vs (by simpa only[fu]using p') r⟩
 |.exc _,_,p,_=>by simp only[fu]at p
 |.obj _ _ _,_,p,_=>by simp only[fu]at p
 |.Sy,_,p,_=>by simp only[fu]at p
 |.Si _ _,_,p,_=>by simp only[fu]at p
theorem af.TN(hT:∀a vs,OM K H a vs->OM K H' a vs)(hL:∀t a vs,¬P t a->QK K H t a vs->¬P' t a/\QK K H' t a vs):∀(ds:yas) (vs:yar),iK ds->af K P H ds vs->af K P' H' ds vs
 |[],_,_,h=>by simpa only[af]using h
 |d::ds,_,p,h=>by simp only[af]at h ⊢;simp only[iK]at p;obtain⟨v,r,e,h1,h2⟩:=h;exact⟨v,r,e,Den.TN hT hL d v p.1 h1,af.TN hT hL ds r p.2 h2⟩
end
end
structure bf(M:Addr->Prop)(H H':Hp):Prop where
 kp:∀b o,H b=some o->NT o->¬M b->H' b=some o
 ex:∀b o,H b=some o->∃o',H' b=some o'
 tb:∀b ps,H b=some (.So ps)->∃more,H' b=some (.So (ps++more))
 ok:cN H->cN H'
theorem bf.of{M:Addr->Prop}{H H':Hp}(e:ai H H'):bf M H H':=⟨fun b o h n _=>e.kp b o h n,fun _ _ h=>e.ex h,e.tb,e.ok⟩
theorem bf.trans{M:Addr->Prop}{H H1 H2:Hp}(a:bf M H H1)(b:bf M H1 H2):bf M H H2:=⟨fun c o h n m=>b.kp c o (a.kp c o h n m) n m,fun c o h=>by
 obtain⟨o',q⟩:=a.ex c o h;exact b.ex c o' q,fun c ps h=>by
 obtain⟨m1,e1⟩:=a.tb c ps h;obtain⟨m2,e2⟩:=b.tb c _ e1;exact⟨m1++m2,by rw[e2,X1]⟩,fun h=>b.ok (a.ok h)⟩
theorem bf.mono{M M':Addr->Prop}{H H':Hp}(h:∀a,M a->M' a)(e:bf M H H'):bf M' H H':=⟨fun b o q n m=>e.kp b o q n fun z=>m (h b z),e.ex,e.tb,e.ok⟩
theorem bf.upd{M:Addr->Prop}{H:Hp}{a:Addr}{u o:HO}(hm:M a)(ha:H a=some u)(hu:∀φ,u ≠ .ext φ)(nu:NT u)(no:NT o):bf M H (L2.upd H a o) :=
 ⟨fun b v h _ m=>by rw[aq (fun e=>m (by rw[e];exact hm))];exact h,fun b v h=>by
  by_cases e:b=a
  ·exact⟨o,by rw[e,ax]⟩
  ·exact⟨v,by rw[aq e];exact h⟩,fun b ps h=>⟨#[],by rw[aq (fun e=>by subst e;rw[ha]at h;cases h;exact nu),h];simp⟩,cN.upd no (.inr ⟨u,ha,hu,nu⟩)⟩
theorem bf.tab{K:yac}{M:Addr->Prop}{H H':Hp}(e:bf M H H')(h:cK K H):cK K H':=⟨e.ok h.ok,fun P q=>by obtain⟨ps,z⟩:=h.at' P q;obtain⟨m,z⟩:=e.tb P ps z;exact⟨_,z⟩⟩
theorem Dom.QL{M:Addr->Prop}{H₀ H H':Hp}(d:Dom H₀ H)(e:bf M H H'):Dom H₀ H':=fun b o h=>by obtain⟨o',q⟩:=d b o h;exact e.ex b o' q
end PD
set_option linter.all false
namespace PD
open PySem PySem.Spec PyProof.Rows L2 PX
section
variable{X:Cx}{pos:Pos}
def Er(i k:Nat)(te:DE):DS:=fun E ρ=>∃ds,ρ[i]?=some (some (Sl.own ds))/\te ρ fun d=>∃t es,d=.lst t es/\k<=ds.length/\ds.length+es.length<=sizeLine/\E.nx (ρ.set i (some (.own (es++ds.drop k))))
end
def Jf(X:Cx)(t:DT):TT:=fun σ H Q=>Dom X.H₀ H/\cK X.K H/\∃(P:Addr->Prop) (ρ:Ro) (Qd:Bool->Prop),(∀a,P a->∃o,H a=some o)/\aT X.K P H σ ρ/\t ρ Qd/\∀b H',ai H H'->Qd b->Q b H'
theorem DY{X:Cx}{e:Expr}{t:DT}(hp:∀H,Tn (Cx.re X H).Qp e t):PT X e (Jf X t):=by intro pins s σ H Q I ⟨dm,tk,P,ρ,Qd,hP,vr,ht,k⟩;have J:=Inv.re I dm;have r:=aT.rel (X:=Cx.re X H) vr hP (nX tk.ok) tk;refine O3 (hp H pins s σ H (se P H) ρ Qd (Inv.wish J _) (Rel.wish r _) ht) (fun b s1 ⟨H1,I1,e1,q⟩=>⟨H1,Inv.Y9 I dm (Inv.MZ I1),k b H1 e1 q⟩) fun _ _ z=>False.elim z
end PD
set_option linter.all false
namespace PD
open PySem PySem.Spec PyProof.Rows L2 PX
section
variable{K:yac}{P:Addr->Prop}{H:Hp}
theorem aT.nil{σ:St}:aT K P H σ []:=fun i x h=>by simp at h
theorem aT.skip{σ:St}{ρ:Ro}{s:Option V}(r:aT K P H σ ρ):aT K P H (s::σ) (none::ρ):=fun i x h=>match i,h with
 |0,h=>by cases h
 |i+1,h=>r i x h
theorem aT.cons{σ:St}{ρ:Ro}{v:V}{d:D}(hd:Den K (fun t a=>P a∨(t=true/\∃o,H a=some o)) H d v)(r:aT K P H σ ρ):aT K P H (some v::σ) (some (.val d)::ρ):=fun i x h=>match i,h with
 |0,h=>by cases h;exact⟨d,v,rfl,rfl,hd⟩
 |i+1,h=>r i x h
end
theorem Inv.unreS{X:Cx}{pins:yab}{σ σ':St}{H H1:Hp}{s s1:Shared}(I:Inv X pins σ H s)(d:Dom X.H₀ H)(J:Inv (Cx.re X H) pins σ' H1 s1):Inv X pins σ' H1 s1 where
 ok:=I.ok
 os:=J.os
 bare:=J.bare
 base:={keep:=fun b o h n=>J.base.keep b o h (dP n),slot:=fun b o h n=>J.base.slot b o h (dP n),free:=fun b o h n=>J.base.free b o h (dP n),there:=J.base.there,Qq:=fun b xs h=>J.base.Qq b xs (by have:=I.base.Qq b xs h;show TH X.H₀ H b=_;unfold TH;rw[h,this];rfl),Qk:=fun b o u h=>J.base.Qk b o u (by have:=I.base.Qk b o u h;show TH X.H₀ H b=_;unfold TH;rw[h,this];rfl),Ql:=fun b ps h=>by obtain⟨m,e⟩:=I.base.Ql b ps h;obtain⟨m2,e2⟩:=J.base.Ql b (ps++m) (by show TH X.H₀ H b=_;unfold TH;rw[h,e];rfl);exact⟨m++m2,by rw[e2,X1]⟩}
 loc:=J.loc
 cell:=J.cell
 free:=J.free
 OW:=J.OW
 pin:=J.pin
 Nw:=J.Nw
 len:=J.len
def Dk(K:yac)(H:Hp):Prop:=∀a o,H a=some o->K.lookup a=none
def Je(X:Cx)(t:DE):TE:=fun σ H Q=>Dom X.H₀ H/\cK X.K H/\∃(P:Addr->Prop) (ρ:Ro) (Qd:D->Prop),(∀a,P a->∃o,H a=some o)/\aT X.K P H σ ρ/\t ρ Qd ∧
 ∀ v H' d,ai H H'->Dk X.K H'->yz X.K P H H' d v->Qd d->Q v H'
theorem cj{X:Cx}{e:Expr}{t:DE}(hp:∀H,Mv (Cx.re X H).Qp e t):PE X e (Je X t):=by
 intro pins s σ H Q I ⟨dm,tk,P,ρ,Qd,hP,vr,ht,k⟩;have J:=Inv.re I dm;refine LS ((hp H).Qp pins s σ H (se P H) ρ Qd J (aT.rel (X:=Cx.re X H) vr hP (nX tk.ok) tk) ht) fun u s1 ⟨v,H1,d,I1,rv,e1,hd,q⟩=>?_
 have I2:=Inv.Y9 I dm I1;exact⟨v,H1,I2,rv,k v H1 d e1 (fun a o h=>Inv.kno I2 h) (hd.MG fun t a z=>pJ.mpr z) q⟩
section
variable{X:Cx}{sc:Scope}{ns xs:yah}{js:yag}{elt iter:Expr}{ifs es:yai}{kt:Nat}{tp pos:Pos}{te:DE}{tc:DT}{wi:DA}
theorem C2{y:Str}{py RT:Pos}(i:Nat)(hN:X.N.Nodup)(hc:X.calm=true)(S:Va X.env.scope sc xs ns)(hj:bC X.N ns js)(hn:UJ es xs)(hi:Uv X (.Tuple es kt tp) iter wi)(ht:∀(C:Addr) (LN:Shared) (LV:Hp) (fp:yae) (XE:yaa),Vc (aH X sc ns xs C LN LV fp XE) ifs tc)
  (he:∀(C:Addr) (LN:Shared) (LV:Hp) (fp:yae) (XE:yaa),Mv (aH X sc ns xs C LN LV fp XE) elt te) (hy:X.N[i]?=some y) (VQ:X.env.scope.names.lookup y=some .local) (PL:closureFor sc X.env=pure (cf X.env ns)) (hs:∀x,foldedSetIterable iter X.env x=pure x)
  (VS:swapsWith (.ListComp elt [⟨.Tuple es kt tp,iter,ifs,0⟩] sc pos) (some (.Name y py)) RT.line X.env=pure true)
  {pins:yab} {s:Shared} {σ:St} {H:Hp} {W:Own} {ρ:Ro} {Q:D->Prop} (I:Inv X pins σ H s) (r:Rel X W H σ ρ) (h:i8 xs.length wi js tc te ρ Q) :
  wpAny (model X.prog X.w) X.A (exec (.Assign [.Name y py] (.ListComp elt [⟨.Tuple es kt tp,iter,ifs,0⟩] sc pos) RT) X.env) (fun fl s'=>fl=.next/\∃v H' d,Inv X pins (σ.set i (some v)) H' s'/\ai H H'/\Den X.K W.bad H' d v/\Q d) X.xe s:=by
 rw[zBo _ _ _ _ VS];refine L3 (V5 (L3 ?_));show wpAny _ X.A (do let _←comprehension (.ListComp elt [⟨.Tuple es kt tp,iter,ifs,0⟩] sc pos) sc X.env _ (newList []) false (eval iter X.env) (some (assign (.Name y py) X.env))) _ _ s;refine L3 (O3 (ZN (use:=some (assign (.Name y py) X.env)) (Q:=fun _ s'=>∃v H' d,Inv X pins (σ.set i (some v)) H' s'/\ai H H'/\Den X.K W.bad H' d v/\Q d) rfl hs PL S.kind S.names
  (LS (hi pins s σ H W ρ _ I r h) fun v s1 h1=>LS h1 fun Vw s2 h2=>?_)) (fun _ s' hq=>OQ (OQ ⟨rfl,hq⟩)) fun _ _ e=>e)
 obtain⟨it,fp,tn,J,H2,ds,e,I2,e2,T,TV,f2,yd,hz,Pv,p0,step,fin⟩:=h2;subst e;refine fH (RR:=fun acc C=>compPost (model X.prog X.w) X.A X.xe (some (assign (.Name y py) X.env)) (fun _ s'=>∃v H' d,Inv X pins (σ.set i (some v)) H' s'/\ai H H'/\Den X.K W.bad H' d v/\Q d) acc C) hc S hj (Ed:=fun _=>False) (fun C LN LV fp XE _=>he C LN LV fp XE) (fun C LN LV fp XE _=>ht C LN LV fp XE) (fun _ _=>bj.no) I2 (r.same e2) (fun C LN LV fp XE=>vF (X:=aH X sc ns xs C LN LV fp XE) hc (iH S 0 hn fun k y q=>by simpa using q) (UJ.len hn).1 (UJ.len hn).2) T TV f2 yd hz Pv p0 (stepT step) ?_;intro D C s' H' m' out I' sm UZ VM Vh WG Vi U0 ⟨hn,hk,vs,hD,O6⟩ pv;have QP:Den X.K W.bad H' (.lst true out) (.ref D):=Den.lst ((r.same e2).fresh hn) (.new hD hk) (O6.MG fun _ _ z=>.inl z);show wpAny _ X.A (assign (.Name y py) X.env (.ref D)) _ _ _;refine Zq (hJ (v:=.ref D) I' hN hy (.inl VQ) rfl (fun s3 I3 ⟨a,VA,ha⟩=>?_) (.inr VQ));have RP:C≠a:=by
  rcases ha with z|z
  ·rw[z];exact Vh
  ·exact fun q=>Vi y a z q.symm
 refine⟨m',UZ.sameBut VA RP,fun h' Vj=>?_⟩;exact⟨.ref D,H',_,I3.turned (t':=s3.toks) (fun b o hb e=>(Vj.2 b hb).trans e) VM Vh (.inr WG) Vi U0,e2.trans sm,QP,fin out pv⟩
def Lx(X:Cx)(i:Nat)(t:DE):TS:=fun En σ H=>Dom X.H₀ H/\cK X.K H/\∃(P:Addr->Prop) (ρ:Ro) (Qd:D->Prop),(∀a,P a->∃o,H a=some o)/\aT X.K P H σ ρ/\t ρ Qd ∧
 ∀ v H' d,ai H H'->yz X.K P H H' d v->Qd d->En.nx (σ.set i (some v)) H'
theorem zg{y:Str}{py RT:Pos}(i:Nat)(hN:X.N.Nodup)(hc:X.calm=true)(S:Va X.env.scope sc xs ns)(hj:bC X.N ns js)(hn:UJ es xs)(hi:∀H,Uv (Cx.re X H).Qp (.Tuple es kt tp) iter wi)(ht:∀(H:Hp) (C:Addr) (LN:Shared) (LV:Hp) (fp:yae) (XE:yaa),Vc (aH (Cx.re X H).Qp sc ns xs C LN LV fp XE) ifs tc)
  (he:∀(H:Hp) (C:Addr) (LN:Shared) (LV:Hp) (fp:yae) (XE:yaa),Mv (aH (Cx.re X H).Qp sc ns xs C LN LV fp XE) elt te) (hy:X.N[i]?=some y:=by rfl) (VQ:X.env.scope.names.lookup y=some .local:=by rfl) (PL:closureFor sc X.env=pure (cf X.env ns):=by rfl) (hs:∀x,foldedSetIterable iter X.env x=pure x:=by intro _;rfl)
  (VS:swapsWith (.ListComp elt [⟨.Tuple es kt tp,iter,ifs,0⟩] sc pos) (some (.Name y py)) RT.line X.env=pure true:=by rfl) :
  PS X (.Assign [.Name y py] (.ListComp elt [⟨.Tuple es kt tp,iter,ifs,0⟩] sc pos) RT) (Lx X i (i8 xs.length wi js tc te)):=by
 intro pins s σ H En I ⟨dm,tk,P,ρ,Qd,hP,vr,hd,k⟩;have J:=Inv.re I dm;have r:=aT.rel (X:=Cx.re X H) vr hP (nX tk.ok) tk;refine O3 (C2 (X:=(Cx.re X H).Qp) i hN hc S hj hn (hi H) (ht H) (he H) hy VQ PL hs VS (Inv.wish J _) (Rel.wish r _) hd) (fun fl s1 ⟨e,v,H1,d,I1,e1,hd,q⟩=>?_) fun _ _ z=>False.elim z
 subst e;exact⟨σ.set i (some v),H1,Inv.unreS I dm (Inv.MZ I1),k v H1 d e1 (hd.MG fun t a z=>pJ.mpr z) q⟩
end
section
variable{P:Program}{w:World}{K:yac}{mg:yam}{base:Heap}{CX:CXT}{k:Nat}{f:Addr}{fd:FuncData}{ps:yah}{sp VG:Sp}
def j4(P:Program)(w:World)(K:yac)(mg:yam)(base:Heap)(C:Addr)(m:Str)(k:Nat)(ps:yah)(sp:Sp):Prop :=
 ∃ f fd,aE P w K mg base (CX1 P w) k f fd ps sp/\Meth K C m f/\Binds K fd ps []
def BJ(P:Program)(w:World)(K:yac)(mg:yam)(base:Heap)(x:Str)(k:Nat)(ps:yah)(sp:Sp):Prop :=
 ∃ f fd,aE P w K mg base (CX1 P w) k f fd ps sp/\mg x=some (.ref f)/\PySem.W.keepIn K (.ref f)=true/\Binds K fd ps []
theorem j4.imp{C:Addr}{m:Str}(h:j4 P w K mg base C m k ps sp)(i:∀vs H Q E,VG vs H Q E->sp vs H Q E):j4 P w K mg base C m k ps VG:=by obtain⟨f,fd,F,a,b⟩:=h;exact⟨f,fd,F.imp i,a,b⟩
end
section
variable{X:Cx}{k:Nat}{ps:yah}{sp:Sp}{x m:Str}{p pos apos:Pos}{e o:Expr}{es:yai}{ta:TE}{t:TA}{C:Addr}
theorem CI (h:BJ X.prog X.w X.K X.mg X.base x k ps sp) (hr:aX k X.A) (ha:PA X (e::es) t) (hg:Gl X x:=by rfl) (PC:(x==("__debug__" : Str))=false:=by decide) (he:starEach (e::es) X.env=(false,eval e X.env)::starEach es X.env:=by rfl) (Qj:(backTo pos (starEach es X.env)).any (·.1)=false:=by rfl) :
  PE X (.Call (.Name x p) (e::es) [] pos) (D3 sp [] E0 t):=by
 obtain⟨f,fd,F,hm,hk,hb⟩:=h;exact Fg F hr hg hm hk hb .nil lM ha PC he Qj
theorem pK{pl:Sem Bool}(h:j4 X.prog X.w X.K X.mg X.base C m k ps sp)(hr:aX k X.A)(c:Cls X.K C)(he:PE X o ta)(ha:PA X (e::es) t)
  (Py:starEach (e::es) X.env=(false,eval e X.env)::starEach es X.env:=by rfl) (Qj:(backTo pos (starEach es X.env)).any (·.1)=false:=by rfl)
  (ht:eval (.Call (.Attribute o m apos) (e::es) [] pos) X.env=(do
   let ov←eval o X.env
   standAt apos.atName
   let (f,first)←holding [ov] (getMethod ov m pl)
   callWith pos f first (backTo pos (starEach (e::es) X.env)) (backToKw pos (keywordEach [] X.env))):=by rfl) :
  PE X (.Call (.Attribute o m apos) (e::es) [] pos) (rq C m sp [] E0 ta t):=by
 obtain⟨f,fd,F,hm,hb⟩:=h;exact Fh he c hm F hr hb .nil lM ha Py Qj ht
theorem A1{pl:Sem Bool}(h:j4 X.prog X.w X.K X.mg X.base C m k ps sp)(hr:aX k X.A)(c:Cls X.K C)(he:PE X o ta)
  (ht:eval (.Call (.Attribute o m apos) [] [] pos) X.env=(do
   let ov←eval o X.env
   standAt apos.atName
   let (f,first)←holding [ov] (getMethod ov m pl)
   callWith pos f first (backTo pos (starEach [] X.env)) (backToKw pos (keywordEach [] X.env))):=by rfl) :
  PE X (.Call (.Attribute o m apos) [] [] pos) (rq C m sp [] E0 ta nB):=by
 obtain⟨f,fd,F,hm,hb⟩:=h;exact CK he c hm F hr hb .nil lM ht
end
section
variable{X:Cx}{k:Nat}{ps:yah}{sp:DSp}{x m f:Str}{p pos apos:Pos}{e o:Expr}{es:yai}{te to:DE}{t:DA}{C:Addr}
def zY(C:Addr)(m:Str)(sp:DSp)(Ed:Value->Prop)(to:DE)(t:DA):DE:=fun ρ Q=>to ρ fun d=>∃ns ds,d=.obj C ns ds/\m∉ns/\t ρ fun as=>sp (av d::ay as) Q Ed
theorem tG{Ed:Value->Prop}{pl:Sem Bool}(px:bj X Ed)(c:Cls X.K C)(hM:hV X.prog X.w X.K X.mg X.base C m k ps sp)(hr:aX k X.A)(he:Mv X o to)
  (ht:eval (.Call (.Attribute o m apos) [] [] pos) X.env=(do
   let ov←eval o X.env
   standAt apos.atName
   let (f,first)←holding [ov] (getMethod ov m pl)
   callWith pos f first (backTo pos (starEach [] X.env)) (backToKw pos (keywordEach [] X.env))):=by rfl) :
  Mv X (.Call (.Attribute o m apos) [] [] pos) (zY C m sp Ed to mH):=by
 obtain⟨f,fd,F,hm,hb⟩:=hM;intro pins s σ H W ρ Q I r h;refine PySem.W.methodCall_KW (pl:=pl) (LS (he pins s σ H W ρ _ I r h) fun u s1 ⟨v,H1,d,I1,ru,sm,hd,ns,ds,e1,nm,q⟩=>?_) ht;subst e1;have WI:=hd;obtain⟨a,dx,vs,e2,Wr,_,_,O6⟩:=hd.UD;subst e2;cases ru;refine dY I1 Wr c hm (jd nm) ?_;refine PySem.W.callWith_K0 (first:=[.ref a]) I1.QI hm.kp ?_;refine LS (qN (dds:=[]) (dsv:=[]) (us:=[.ref a]) (vs:=[.ref a]) (ds:=[.obj C ns ds]) F hr hb .nil (by simp) I1 (r.same sm) (.cons rfl .nil) (af.one WI) (by rw[V0,ay];exact q) fun er s' hx=>px pins σ H1 W ρ s1 er s' I1 (r.same sm) hx) fun _ _ z=>z.up sm
end
section
variable{K:yac}{M:Addr->Prop}{P P':yak}{H H':Hp}
theorem bf.seq{a:Addr}{vs:yar}(e:bf M H H')(m:¬M a)(h:SqL K H a vs):SqL K H' a vs:=by
 rcases h with(h|⟨o,h⟩)|h
 ·exact .inl (.inl (e.kp _ _ h True.intro m))
 ·exact .inl (.inr ⟨o,e.kp _ _ h True.intro m⟩)
 ·exact .inr h
theorem Ja{a:Addr}{vs:yar}(n:H a=none)(k:K.lookup a=none)(h:SqL K H a vs):False:=by
 rcases h with(h|⟨o,h⟩)|⟨u,_,_,h,_⟩
 ·rw[n]at h;cases h
 ·rw[n]at h;cases h
 ·rw[k]at h;cases h
theorem af.QL(e:bf M H H')(ht:∀a,M a->∀vs,H a≠some (.tup vs))(hM:∀a,M a->∀t,P t a)(hP:∀t a,P' t a->P t a∨(H a=none/\K.lookup a=none)){ds:yas}{vs:yar}(p:iK ds)(h:af K P H ds vs):af K P' H' ds vs:=by
 refine af.TN (fun a ws q=>?_) (fun t a ws n q=>?_) ds vs p h
 ·exact e.kp a _ q True.intro fun m=>ht a m ws q
 ·have nm:¬M a:=fun m=>n (hM a m t)
  refine⟨fun z=>?_,e.seq nm q.1,fun z=>⟨e.kp a _ (q.2 z).1 True.intro nm,(q.2 z).2⟩⟩;rcases hP t a z with z|⟨z1,z2⟩
  ·exact n z
  ·exact Ja z1 z2 q.1
theorem Den.QL(e:bf M H H')(ht:∀a,M a->∀vs,H a≠some (.tup vs))(hM:∀a,M a->∀t,P t a)(hP:∀t a,P' t a->P t a∨(H a=none/\K.lookup a=none)){d:D}{v:V}(p:fu d)(h:Den K P H d v):Den K P' H' d v:=by have:=af.QL e ht hM hP (ds:=[d]) (vs:=[v]) ⟨p,True.intro⟩ (af.one h);simp only[af]at this;obtain⟨v',r,e1,h1,_⟩:=this;cases e1;exact h1
end
abbrev Av(M:Addr->Prop):yak:=fun t a=>t=true∨M a
end PD
set_option linter.all false
namespace PD
open PySem PySem.Spec PyProof.Rows L2 PX
section
variable{X:Cx}{H:Hp}{A0:Addr}{Vn:Tb}{e e1:Expr}{es:yai}{te:DE}{t:DA}{g:Str}{q sp pos:Pos}
theorem vt (dd:cX X.K X.w A0 Vn) (VX:X.mg g=some (.ref A0)) (he:Mv (Cx.re X H).Qp e te) (ha:Qc (Cx.re X H).Qp (e1::es) t) (Za:Gl X g:=by rfl) (PC:(g==("__debug__" : Str))=false:=by decide) (Xx:oY e:=by intro _ _;rfl)
  (Py:starEach (e1::es) X.env=(false,eval e1 X.env)::starEach es X.env:=by rfl) (Qj:(backTo pos (starEach es X.env)).any (·.1)=false:=by rfl)
  (hev:eval (.Call (.Subscript (.Name g q) e sp) (e1::es) [] pos) X.env=(do callWith pos (←eval (.Subscript (.Name g q) e sp) X.env) [] (backTo pos (starEach (e1::es) X.env)) (backToKw pos (keywordEach [] X.env))):=by rfl) :
  Mv (Cx.re X H).Qp (.Call (.Subscript (.Name g q) e sp) (e1::es) [] pos) (eM X Vn (fun _=>False) te t) :=
 eN (X:=(Cx.re X H).Qp) DX dd VX he ha Za PC Xx Py Qj hev
theorem Co {b:Expr} {tb:DE} {es:yai} {kt:Nat} {tp p:Pos} (dd:cX X.K X.w A0 Vn) (VX:X.mg g=some (.ref A0)) (hm:X.mg "zip" = none) (he:Mv (Cx.re X H).Qp e te) (hb:Mv (Cx.re X H).Qp b tb) (hg:Gl X "zip" := by rfl) (Za:Gl X g:=by rfl) (PC:(g==("__debug__" : Str))=false:=by decide) (Xx:oY e:=by intro _ _;rfl)
  (hs:starEach [.Subscript (.Name g q) e sp,b] X.env=(false,eval (.Subscript (.Name g q) e sp) X.env)::starEach [b] X.env:=by rfl) (hs1:starEach [b] X.env=(false,eval b X.env)::starEach [] X.env:=by rfl) (X6:(backTo pos (starEach [b] X.env)).any (·.1)=false:=by rfl) :
  Uv (Cx.re X H).Qp (.Tuple es kt tp) (.Call (.Name "zip" p) [.Subscript (.Name g q) e sp,b] [] pos) (ql X.K Vn te tb) :=
 rO (X:=(Cx.re X H).Qp) dd VX hm he hb hg Za PC Xx hs hs1 X6
end
section
variable{K:yac}{P:Addr->Prop}{M:Addr->Prop}{H H':Hp}{d:D}{v:V}
theorem kY(h:yz K P H H' d v):Den K (Av P) H' (av d) v:=Den.av (P':=P) (fun _ _ z=>.inl z) d v h
theorem da(h:Den K (Av M) H d v)(e:∀a,P a->M a):Den K (fun t a=>P a∨(t=true/\∃o,H a=some o)) H d v:=h.MG fun _ a z=>z.elim (fun z=>.inr (e a z)) fun z=>.inl z.1
theorem Ca{ds:yas}(n:eX ds=true)(h:yz K P H H' (.lst true ds) v):∃a ws,v=.ref a/\H a=none/\H' a=some (.lst ws)/\K.lookup a=none/\∀P',af K P' H' ds ws:=by
 obtain⟨a,ws,rfl,np,sq,hw⟩:=h.UC;refine⟨a,ws,rfl,?_,(sq.2 rfl).1,(sq.2 rfl).2,fun P'=>af.Ye ds ws n hw⟩;cases e:H a with
 |none=>rfl
 |some o=>exact absurd (.inr ⟨rfl,o,e⟩) np
end
end PD
set_option linter.all false
namespace PD
open PySem PySem.Spec PyProof.Rows L2 PX
theorem PS.Qp{X:Cx}{st:Stmt}{t:TS}(h:PS X.Qp st t):PS X st t:=fun pins s σ H D I hw =>
 O3 (h pins s σ H D (I.wish _) hw) (fun f s' q=>by
  cases f with
  |next=>obtain⟨σ',H',I',q⟩:=q;exact⟨σ',H',I'.MZ,q⟩
  |brk=>obtain⟨σ',H',I',q⟩:=q;exact⟨σ',H',I'.MZ,q⟩
  |cont=>obtain⟨σ',H',I',q⟩:=q;exact⟨σ',H',I'.MZ,q⟩
  |ret u=>obtain⟨v,σ',H',I',r,q⟩:=q;exact⟨v,σ',H',I'.MZ,r,q⟩) fun _ _ z=>False.elim z
theorem bf.new{M:Addr->Prop}{H H':Hp}(e:bf M H H')(n:∀a,M a->H a=none):ai H H':=⟨fun b o h t=>e.kp b o h t fun m=>(by rw[n b m]at h;cases h),e.tb,e.ok⟩
theorem FL.hasF{K:yac}{x:Str}{st:Stmt}{h:Heap}{mg:yam}{k:Nat}{ps:yah}{sp:Sp}(e:FL K x st)(P:Program)(w:World)(base:Heap)(X:K.In h)(G:h.Ns mainGlobals mg)
  (ok:∀{f:Addr} {fd:FuncData},ar K x x st f fd->aE P w K mg base (CX1 P w) k f fd ps sp)
  (hb:∀(kV dc pm:Value) (an:Option Addr) (cd ct:Value),pb ps.length fun us=>bindArgs (PySem.W.fnOf x x (bG st) (bp st) (ah st) .none kV dc pm an cd ct) ⟨us,[]⟩=pure (ps.zip us):=by
   repeat intro _
   rfl):BJ P w K mg base x k ps sp:=by
 obtain⟨f,oc,od,kV,dc,pm,an,cd,ct,sl,a,b,c,d⟩:=e;exact⟨f,_,ok (fF b c d),PySem.W.mg_of X G a,d,.all fun us hl=>kT us hl (hb kV dc pm an cd ct)⟩
theorem Vk.Zb{K:yac}{C:Addr}{m qual:Str}{st:Stmt}{mg:yam}{k:Nat}{ps:yah}{sp:Sp}(e:Vk K C m qual st)(P:Program)(w:World)(base:Heap)
  (ok:∀{f:Addr} {fd:FuncData},ar K m qual st f fd->aE P w K mg base (CX1 P w) k f fd ps sp)
  (hb:∀(kV dc pm:Value) (an:Option Addr) (cd ct:Value),pb ps.length fun us=>bindArgs (PySem.W.fnOf m qual (bG st) (bp st) (ah st) .none kV dc pm an cd ct) ⟨us,[]⟩=pure (ps.zip us):=by
   repeat intro _
   rfl):j4 P w K mg base C m k ps sp:=by
 obtain⟨f,oc,od,kV,dc,pm,an,cd,ct,sl,a,i,b,c,d⟩:=e;exact⟨f,_,ok (fF b c d),⟨a,i,d⟩,.all fun us hl=>kT us hl (hb kV dc pm an cd ct)⟩
theorem yf{α:Type}(p:α->Bool):∀(l:List α) (i:Nat),l.findIdx? p=some i->l.find? p=l[i]?
 |[],_,h=>by simp at h
 |a::r,i,h=>by
  rw[List.findIdx?_cons]at h;rw[List.find?_cons];cases e:p a with
  |true =>
   rw[e]at h;simp at h;subst h;rfl
  |false =>
   rw[e]at h;simp at h;obtain⟨j,hj,rfl⟩:=h;simpa using yf p r j hj
theorem bA{es:Tb}{ks:yah}(hk:es.map (·.1)=ks){x:Str}(i:Nat)(h:ks.findIdx? (fun y=>decide (x=y))=some i){v:Value}(hv:(es[i]?).map (·.2.2)=some v):TF es x=some v:=by
 have e:es.findIdx? (fun e=>decide (x=e.1))=some i:=by rw[<- h,<- hk,List.findIdx?_map];rfl
 unfold TF;rw[yf _ _ _ e];exact hv
theorem k8{es:Tb}{ks:yah}(hk:es.map (·.1)=ks){x:Str}(h:ks.any (fun y=>decide (x=y))=false):TF es x=none:=by unfold TF;rw[<- hk,List.any_map]at h;rw[List.find?_eq_none.mpr fun e he z=>by have:=List.any_eq_false.mp h e he;exact this z];rfl
end PD
set_option linter.all false
set_option maxRecDepth 100000
namespace PD
open PySem PySem.Spec PyProof.Rows L2 PX WC
section
variable{X:Cx}{pins:yab}{σ:St}{H:Hp}{s:Shared}{sc:Scope}{ns xs:yah}{js:yag}{elt iter:Expr}{ifs es:yai}{kt:Nat}{tp pos:Pos}{te:DE}{tc:DT}{wi:DA}
theorem xj{Ed:Value->Prop}{y:Str}{py RT:Pos}(i:Nat)(hN:X.N.Nodup)(hX:jP X Ed)(hc:X.calm=true)(S:Va X.env.scope sc xs ns)(hj:bC X.N ns js)(hn:UJ es xs)(hi:Uv X (.Tuple es kt tp) iter wi)(ht:∀(C:Addr) (LN:Shared) (LV:Hp) (fp:yae) (XE:yaa),bj (aH X sc ns xs C LN LV fp XE) Ed->Vc (aH X sc ns xs C LN LV fp XE) ifs tc)
  (he:∀(C:Addr) (LN:Shared) (LV:Hp) (fp:yae) (XE:yaa),bj (aH X sc ns xs C LN LV fp XE) Ed->Vl (aH X sc ns xs C LN LV fp XE) elt te) (Py:X.stack=X.env::X.outer:=by rfl) (VB:X.env.frame=some X.env.locals:=by rfl) (hy:X.N[i]?=some y:=by rfl) (VQ:X.env.scope.names.lookup y=some .local:=by rfl) (PL:closureFor sc X.env=pure (cf X.env ns):=by rfl) (hs:∀x,foldedSetIterable iter X.env x=pure x:=by intro _;rfl)
  (VS:swapsWith (.ListComp elt [⟨.Tuple es kt tp,iter,ifs,0⟩] sc pos) (some (.Name y py)) RT.line X.env=pure true:=by rfl) :
  XD X (.Assign [.Name y py] (.ListComp elt [⟨.Tuple es kt tp,iter,ifs,0⟩] sc pos) RT) (rH i (i8 xs.length wi js tc te)):=by
 intro pins s σ H W ρ E I r h;rw[zBo _ _ _ _ VS];refine LL.OX (LL.bind ?_);show LL _ X.A (do let _←comprehension (.ListComp elt [⟨.Tuple es kt tp,iter,ifs,0⟩] sc pos) sc X.env _ (newList []) false (eval iter X.env) (some (assign (.Name y py) X.env))) _ _ s;refine LL.bind ((Gg (use:=some (assign (.Name y py) X.env)) (Q:=fun _ s'=>UE X pins W H E .next s') rfl hs PL S.kind S.names
  (LS (hi pins s σ H W ρ _ I r h) fun v s1 h1=>LS h1 fun Vw s2 h2=>?_)).LS fun _ s' hq=>LL.pure (LL.pure hq))
 obtain⟨it,fp,tn,J,H2,ds,e,I2,e2,T,TV,f2,yd,hz,Pv,p0,step,fin⟩:=h2;subst e;refine xh (RR:=fun acc C=>compPost (model X.prog X.w) X.A X.xe (some (assign (.Name y py) X.env)) (fun _ s'=>UE X pins W H E .next s') acc C) hc S hj he ht (tE hX Py VB I2 (r.same e2) f2) I2 (r.same e2) (fun C LN LV fp XE=>vF (X:=aH X sc ns xs C LN LV fp XE) hc (iH S 0 hn fun k y q=>by simpa using q) (UJ.len hn).1 (UJ.len hn).2) T TV f2 yd hz Pv p0 (stepT step) ?_;intro D C s' H' m' out I' sm UZ VM Vh WG Vi U0 ⟨hn,hk,vs,hD,O6⟩ pv;have QP:Den X.K W.bad H' (.lst true out) (.ref D):=Den.lst ((r.same e2).fresh hn) (.new hD hk) (O6.MG fun _ _ z=>.inl z);have rr:=(r.same e2).same sm;show wpAny _ X.A (assign (.Name y py) X.env (.ref D)) _ _ _;refine Zq (hJ (v:=.ref D) I' hN hy (.inl VQ) rfl (fun s3 I3 ⟨a,VA,ha⟩=>?_) (.inr VQ));have RP:C≠a:=by
  rcases ha with z|z
  ·rw[z];exact Vh
  ·exact fun q=>Vi y a z q.symm
 refine⟨m',UZ.sameBut VA RP,fun h' Vj=>?_⟩;refine⟨W.drop i,_,H',I3.turned (t':=s3.toks) (fun b o hb e=>(Vj.2 b hb).trans e) VM Vh (.inr WG) Vi U0,(OB.same (e2.trans sm)).trans (OB.drop W H' i),_,rr.put (Inv.V9 I' hy) QP,fin out pv⟩
end
theorem BV{M:Model}{A:Around}{E:yaa}{s:Shared}{env:Env}{o:Expr}{m:Str}{apos pos:Pos}{args:yai}{pl:Sem Bool}{Q:yaa}
  (h:wpAny M A (eval o env) (fun ov LP=>wpAny M A (getMethod ov m pl) (fun fx LN=>LL M A (callWith pos fx.1 fx.2 (backTo pos (starEach args env)) (backToKw pos (keywordEach [] env))) Q E LN) E LP) E s)
  (he:eval (.Call (.Attribute o m apos) args [] pos) env=(do
   let ov←eval o env
   standAt apos.atName
   let (f,first)←holding [ov] (getMethod ov m pl)
   callWith pos f first (backTo pos (starEach args env)) (backToKw pos (keywordEach [] env)))) :
  LL M A (eval (.Call (.Attribute o m apos) args [] pos) env) Q E s:=by
 rw[he];exact LL.NS (O3 h (fun ov LP OI=>LL.OX (LL.NS (S8 OI))) fun _ _ x=>x)
def yI(P:Program)(w:World)(K:yac)(mg:yam)(base:Heap)(C:Addr)(m:Str)(k:Nat)(ps:yah)(sp:DSp):Prop :=
 ∃ f fd,FnC P w K mg base k f fd ps sp/\Meth K C m f/\Binds K fd ps []
section
variable{X:Cx}{k:Nat}{ps:yah}{sp:DSp}{x m:Str}{p pos apos:Pos}{e o:Expr}{es:yai}{te to:DE}{t:DA}
def qk(K:yac)(Cm:Addr)(m:Str)(C:Addr)(i:Nat)(sp:DSp)(to:DE)(t:DA)(su:DS):DS:=fun E ρ=>to ρ fun d=>∃ns ds,d=.obj Cm ns ds/\m∉ns/\t ρ fun as=>sp (av d::ay as) (fun _=>E.nx ρ) (rM K C i su E ρ)
theorem BZ{pl:Sem Bool}{Cm C:Addr}{x n:Str}{cp ep np hp:Pos}{UM:Stmt}{Sk:yal}{su:DS}(i:Nat)(c:Cls X.K Cm)(hM:yI X.prog X.w X.K X.mg X.base Cm m k ps sp)(hr:aX k X.A)
  (hN:X.N.Nodup) (hmx:X.mg x=some (.ref C)) (he:Mv X.Qp o to) (ha:Qc X.Qp (e::es) t) (hsu:∀v,bq (Cx.markX X v) (UM::Sk) su) (hgx:Gl X x:=by rfl) (hi:X.N[i]?=some n:=by rfl) (Y7:X.env.scope.names.lookup n=some .local:=by rfl)
  (hex:X.ex=[]:=by rfl) (Py:X.stack=X.env::X.outer:=by rfl) (VB:X.env.frame=some X.env.locals:=by rfl) (hdx:(x==("__debug__" : Str))=false:=by decide) (hs0:starEach (e::es) X.env=(false,eval e X.env)::starEach es X.env:=by rfl) (Qj:(backTo cp (starEach es X.env)).any (·.1)=false:=by rfl)
  (ht:eval (.Call (.Attribute o m apos) (e::es) [] cp) X.env=(do
   let ov←eval o X.env
   standAt apos.atName
   let (f,first)←holding [ov] (getMethod ov m pl)
   callWith cp f first (backTo cp (starEach (e::es) X.env)) (backToKw cp (keywordEach [] X.env))):=by rfl)
  (hia:interactive X.env=false:=by rfl) (VS:swapsWith (.Call (.Attribute o m apos) (e::es) [] cp) none ep.line X.env=pure false:=by rfl) :
  XD X (.Try [.Expr (.Call (.Attribute o m apos) (e::es) [] cp) ep] [.ExceptHandler (some (.Name x np)) (some n) (UM::Sk) hp] [] [] pos) (qk X.K Cm m C i sp to t su):=by
 obtain⟨f,fd,F,hm,hb⟩:=hM;intro pins s σ H W ρ E I rr h;refine Dt (nK (Gh (BV (pl:=pl) (O3 (he pins s σ H W ρ _ (I.wish _) (rr.wish _) h) (fun u s1 ⟨v,H1,d,I1,ru,sm,hd,ns,ds,e1,nm,q⟩=>?_) fun _ _ z=>False.elim z) ht) hia VS));subst e1;have I1:=I1.MZ;have WI:=hd;obtain⟨a,dx,vs,e2,Wr,_,_,O6⟩:=hd.UD;subst e2;cases ru;have Y8:=rr.same sm;refine dY I1 Wr c hm (jd nm) ?_;refine xP (first:=[.ref a]) (h₀:=X.base) I.ok.mod.Uz hm.kp (LL.of (O3 (ha cp pins s1 σ H1 W ρ _ (I1.wish _) (Y8.wish _) q) (fun us s2 ⟨vs2,H2,ds2,I2,rv,VT,hd2,q2⟩=>⟨I2.MZ.QI,?_⟩) fun _ _ z=>False.elim z)) hs0 Qj;have I2:=I2.MZ;have Zc:=Y8.same VT;refine(Be (Q:=fun _=>E.nx ρ) (Ed:=rM X.K C i su E ρ) (us:=.ref a::us) (vs:=.ref a::vs2) (ds:=.obj Cm ns ds::ds2) F hr hb I2 Zc (.cons rfl rv) (af.cons (WI.same VT) hd2) (by rw[ay];exact q2) fun er s' hx=>zN i hN hmx hsu hgx hi Y7 hex Py VB hdx I2 Zc (sm.trans VT) hx).LS fun u s3 ⟨v,H3,d,I3,r3,e3,XF,q3⟩=>?_
 exact LL.of (V1 (V1 ⟨W,_,H3,I3,OB.same ((sm.trans VT).trans e3),_,Zc.same e3,q3⟩))
end
end PD
set_option linter.all false
set_option maxRecDepth 100000
namespace PD
open PySem PySem.Spec PyProof.Rows L2 PX WC
def PQ(X:Cx)(st:Stmt)(t:TS):Prop :=
 ∀ (pins:yab) (s:Shared) (σ:St) (H:Hp) (En:Ends),Inv X pins σ H s->t En σ H->LL (model X.prog X.w) X.A (exec st X.env) (SP X pins En) X.xe s
def Zd(X:Cx)(st:yal)(t:TS):Prop :=
 ∀ (pins:yab) (s:Shared) (σ:St) (H:Hp) (En:Ends),Inv X pins σ H s->t En σ H->LL (model X.prog X.w) X.A (execs st X.env) (SP X pins En) X.xe s
def PQT(X:Cx)(e:Expr)(t:TT):Prop :=
 ∀ (pins:yab) (s:Shared) (σ:St) (H:Hp) (Q:Bool->Hp->Prop),Inv X pins σ H s->t σ H Q->LL (model X.prog X.w) X.A (isTrue e X.env (eval e X.env)) (TP X pins σ Q) X.xe s
section
variable{X:Cx}{st:Stmt}{rest:yal}{t u:TS}{pos:Pos}
theorem PS.q(h:PS X st t):PQ X st t:=fun pins s σ H En I q=>LL.of (h pins s σ H En I q)
theorem UT.q(h:UT X rest t):Zd X rest t:=fun pins s σ H En I q=>LL.of (h pins s σ H En I q)
theorem dO(h1:PQ X st t)(h2:Zd X rest u):Zd X (st::rest) (C9 t u):=by
 intro pins s σ H En I h;refine nK ((h1 pins s σ H _ I h).LS fun f s1 q=>?_);cases f with
 |next=>obtain⟨VE,H1,I1,q⟩:=q;exact h2 pins s1 VE H1 _ I1 q
 |brk=>obtain⟨VE,H1,I1,q⟩:=q;exact⟨VE,H1,I1,q⟩
 |cont=>obtain⟨VE,H1,I1,q⟩:=q;exact⟨VE,H1,I1,q⟩
 |ret v=>exact q
theorem Kq{c:Expr}{a b:yal}{tc:TT}(hc:PQT X c tc)(ha:Zd X a t)(hb:Zd X b u):PQ X (.If c a b pos) (zz tc t u):=by
 intro pins s σ H En I h;refine Gi ((hc pins s σ H _ I h).LS fun k s1 ⟨H1,I1,q⟩=>?_);cases k with
 |true=>exact ha pins s1 σ H1 _ I1 q
 |false=>exact hb pins s1 σ H1 _ I1 q
theorem IM{e:Expr}{td:DT}(hp:∀H,WL (Cx.re X H).Qp e td):PQT X e (Jf X td):=by intro pins s σ H Q I ⟨dm,tk,P,ρ,Qd,hP,vr,ht,k⟩;have J:=Inv.re I dm;have r:=aT.rel (X:=Cx.re X H) vr hP (nX tk.ok) tk;exact(hp H pins s σ H (se P H) ρ Qd (Inv.wish J _) (Rel.wish r _) ht).mono (fun b s1 ⟨H1,I1,e1,q⟩=>⟨H1,Inv.Y9 I dm (Inv.MZ I1),k b H1 e1 q⟩) fun _ _ z=>False.elim z
theorem PQ.Qp (h : PQ X.Qp st t) : PQ X st t := fun pins s σ H En I hw =>
 (h pins s σ H En (I.wish _) hw).mono (fun f s' q => by
  cases f with
  | next => obtain ⟨σ', H', I', q⟩ := q; exact ⟨σ', H', I'.MZ, q⟩
  | brk => obtain ⟨σ', H', I', q⟩ := q; exact ⟨σ', H', I'.MZ, q⟩
  | cont => obtain ⟨σ', H', I', q⟩ := q; exact ⟨σ', H', I'.MZ, q⟩
  | ret u => obtain ⟨v, σ', H', I', r, q⟩ := q; exact ⟨v, σ', H', I'.MZ, r, q⟩) fun _ _ z => False.elim z
theorem IL{tg iter:Expr}{body:yal}{wi:TI}{g:TG}{tb:TS}(hp:PassesOwn (model X.prog X.w) X.A X.env X.xe)(hc:X.calm=true)(hi:PI X tg iter wi)(hg:PG X tg g)(hb:Zd X body tb)
  (hs:∀x,foldedSetIterable iter X.env x=pure x:=by intro _;rfl):PQ X (.For tg iter body [] pos) (Jc wi g tb):=by
 intro pins s σ H En I h;refine Jw (LS (hi pins s σ H _ I h) fun v s1 h1=>LS h1 fun Vw s2 h2=>?_) hs;obtain⟨it,fp,tn,J,H2,e,I2,T,TV,f2,W,⟨m0,w0⟩,turn⟩:=h2;subst e;have SE:∀{H':Hp},(∀b∈fp,H' b=none)->∀b∈fp,cy X pins H' b:=fun hn b hb=>⟨hn b hb,(f2 b hb).2⟩
 refine Ei (fun n s'=>∃i σ' H',Inv X pins σ' H' s'/\tn i s'.heap/\(∀b∈fp,H' b=none)/\W i n σ' H') ?_ m0 ⟨0,σ,H2,I2,TV,fun b hb=>(f2 b hb).1,w0⟩;rintro n s3 ⟨i,RY,H3,I3,Vx,Vy,w3⟩;rcases turn i n RY H3 w3 with⟨stop,qn⟩| ⟨go,N,hN,step⟩
 ·refine UR hp (LS (T.done X rfl rfl rfl hc i pins s3 RY H3 X.xe I3 (SE Vy) Vx stop) fun r s4 ⟨hr,I4⟩=>?_);subst hr;exact LL.of (V1 ⟨RY,H3,I4,qn⟩)
 ·refine UR hp (LS (T.item X rfl rfl rfl hc i pins s3 RY H3 X.xe I3 (SE Vy) Vx go) fun r s4 ⟨u,hr,h4⟩=>?_);subst hr;refine UR hp (LS h4 fun _ s5 ⟨x,H5,I5,r5,y5,TY,Xo⟩=>?_);have Xp:=I5.pinned (SE Xo) (T.obj _ _ TY);refine UR hp (LS (hg _ s5 RY H5 x u _ Xp r5 (step x H5 y5)) fun _ s6 ⟨VF,H6,I6,q6⟩=>?_);refine(hb _ s6 VF H6 _ I6 q6).mono (fun f s7 q7=>?_) hp;have again:∀{Q8:St} {H7:Hp},Inv X (pins++ji fp s5.heap) Q8 H7 s7->N Q8 H7->∃m,m<n/\∃i σ' H',Inv X pins σ' H' s7/\tn i s7.heap/\(∀b∈fp,H' b=none)/\W i m σ' H':=fun {Q8 H7} I7 n7=>by
   obtain⟨m',hm,w7⟩:=hN Q8 H7 n7;refine⟨m',hm,i+1,Q8,H7,I7.Ox,T.keep _ _ _ TY fun b hb o e=>(I7.pin (b,o) (Ss _ (Ss _ (bW hb e)))).1,fun b hb=>?_,w7⟩;obtain⟨o,e,d⟩:=T.obj _ _ TY b hb;exact(I7.pin (b,o) (Ss _ (Ss _ (bW hb e)))).2.1
  cases f with
  |next=>obtain⟨Q8,H7,I7,n7⟩:=q7;exact again I7 n7
  |cont=>obtain⟨Q8,H7,I7,n7⟩:=q7;exact again I7 n7
  |brk=>obtain⟨Q8,H7,I7,q7⟩:=q7;exact⟨Q8,H7,I7.Ox,q7⟩
  |ret v=>obtain⟨x7,Q8,H7,I7,r7,q7⟩:=q7;exact⟨x7,Q8,H7,I7.Ox,r7,q7⟩
end
theorem Hs{P:Program}{w:World}{K:yac}{mg:yam}{base:Heap}{k:Nat}{f:Addr}{name qual:Str}{params:Arguments}{body:yal}{scope:Scope}{dV kV doc pm cdv ct oc:Value}{an od:Option Addr}
  {Us:Array (yan)} {N ps:yah} {sp:DSp} (lk:K.lookup f=some ⟨oc,od,.func (PySem.W.fnOf name qual params body scope dV kV doc pm an cdv ct),Us⟩) (RN:PySem.W.codeIn K cdv qual=true) (S:aw N ps scope)
  (len:∀vs H Q E,aJ K sp vs H Q E->vs.length=ps.length)
  (PF:∀(A:Around) (outer:List Env) (s:Shared) (H:Hp) (vs:yar) (Q:VK) (E:XK),aX k (A.deeper (envOfC qual scope s.heap.objs.size f cdv))->aJ K sp vs H Q E →
   ∃ t,Zd (bM (CX1 P w) P w K mg base N qual scope f cdv A outer s H E) body t/\t {nx:=fun _ H'=>Q .Nx H',rt:=Q} (start N vs) H) :
  FnC P w K mg base (k+1) f (PySem.W.fnOf name qual params body scope dV kV doc pm an cdv ct) ps sp:=by
 refine⟨len,fun A outer s H args us vs Q E hr e0 hb r Ut=>?_⟩;have hl:=len _ _ _ _ Ut;have KX:K.In s.heap:=e0.mod.Uz.keeps fun b o e=>(e0.bs b o e).1
 have lim:s.heap.NoLimit:=e0.mod.nolimit.keeps fun b o e=>(e0.bs b o e).1
 have UB:∀y∈ps.zip us,scope.names.lookup y.1=some .local∨(scope.names.lookup y.1=some .cell/\((cellsFrom (s.heap.objs.size+1) scope.names []).lookup y.1).isSome=true):=fun⟨n,v⟩ hy=>by
  rcases S.par n (Zs hy).1 with q|q
  ·exact .inl q
  ·exact .inr ⟨q,PySem.W.cellsFrom_some _ _ _ (.inl q)⟩
 refine zH hr.depth (KX _ _ lk) rfl S.co S.gen rfl (PySem.W.codeRec_of KX RN) (hb _ _ _ _ ?_);refine wpAny_newFunctionEnv_cells S.kind UB fun env he s1 x=>?_
 subst he;refine⟨lim.keeps x.toInCall.keep,zI ?_⟩;obtain⟨t,ht,hq⟩:=PF A outer s H vs Q E (hr.deeper _) Ut;have I:Inv (bM (CX1 P w) P w K mg base N qual scope f cdv A outer s H E) [] (start N vs) H s1:=mP S hr.hd e0 hl r x;refine(ht [] s1 (start N vs) H _ I hq).mono (fun fl s' hs=>?_) fun e s' hs=>hs
 have fin:∀{σ':St} {H':Hp} {v:V} {u:Value},Inv (bM (CX1 P w) P w K mg base N qual scope f cdv A outer s H E) [] σ' H' s'->RelV v u->Q v H'->CE outer P w H s Q u s' :=
  fun {σ' H' v u} J rv q=>⟨v,H',J.os,J.bare,J.base,J.Nw,rv,q⟩
 cases fl with
 |ret u =>
  obtain⟨v,σ',H',J,rv,q⟩:=hs;exact fin J rv q
 |next =>
  obtain⟨σ',H',J,q⟩:=hs;exact fin (v:=V.Nx) (u:=Value.none) J rfl q
 |brk =>
  obtain⟨_,_,_,q⟩:=hs;exact False.elim q
 |cont =>
  obtain⟨_,_,_,q⟩:=hs;exact False.elim q
end PD
set_option linter.all false
set_option maxRecDepth 100000
namespace PD
open PySem PySem.Spec PyProof.Rows L2 PX WC
section
variable{X:Cx}{k:Nat}{ps:yah}{sp:DSp}{x m:Str}{p pos apos:Pos}{e o:Expr}{es:yai}{te to:DE}{t:DA}
theorem Cb{pl:Sem Bool}{Cm C:Addr}{x n:Str}{cp ep np hp:Pos}{UM:Stmt}{Sk:yal}{su:DS}(i:Nat)(c:Cls X.K Cm)(hM:hV X.prog X.w X.K X.mg X.base Cm m k ps sp)(hr:aX k X.A)
  (hN:X.N.Nodup) (hmx:X.mg x=some (.ref C)) (he:Mv X.Qp o to) (ha:Qc X.Qp (e::es) t) (hsu:∀v,bq (Cx.markX X v) (UM::Sk) su) (hgx:Gl X x:=by rfl) (hi:X.N[i]?=some n:=by rfl) (Y7:X.env.scope.names.lookup n=some .local:=by rfl)
  (hex:X.ex=[]:=by rfl) (Py:X.stack=X.env::X.outer:=by rfl) (VB:X.env.frame=some X.env.locals:=by rfl) (hdx:(x==("__debug__" : Str))=false:=by decide) (hs0:starEach (e::es) X.env=(false,eval e X.env)::starEach es X.env:=by rfl) (Qj:(backTo cp (starEach es X.env)).any (·.1)=false:=by rfl)
  (ht:eval (.Call (.Attribute o m apos) (e::es) [] cp) X.env=(do
   let ov←eval o X.env
   standAt apos.atName
   let (f,first)←holding [ov] (getMethod ov m pl)
   callWith cp f first (backTo cp (starEach (e::es) X.env)) (backToKw cp (keywordEach [] X.env))):=by rfl)
  (hia:interactive X.env=false:=by rfl) (VS:swapsWith (.Call (.Attribute o m apos) (e::es) [] cp) none ep.line X.env=pure false:=by rfl) :
  Q9 X (.Try [.Expr (.Call (.Attribute o m apos) (e::es) [] cp) ep] [.ExceptHandler (some (.Name x np)) (some n) (UM::Sk) hp] [] [] pos) (qk X.K Cm m C i sp to t su):=by
 obtain⟨f,fd,F,hm,hb⟩:=hM;intro pins s σ H W ρ E I rr h;refine wpAny_Try_except (Ym (wpAny_Expr_any (PySem.W.methodCall_KW (pl:=pl) (O3 (he pins s σ H W ρ _ (I.wish _) (rr.wish _) h) (fun u s1 ⟨v,H1,d,I1,ru,sm,hd,ns,ds,e1,nm,q⟩=>?_) fun _ _ z=>False.elim z) ht) hia VS));subst e1;have I1:=I1.MZ;have WI:=hd;obtain⟨a,dx,vs,e2,Wr,_,_,O6⟩:=hd.UD;subst e2;cases ru;have Y8:=rr.same sm;refine dY I1 Wr c hm (jd nm) ?_;refine PySem.W.callWith_K (first:=[.ref a]) (h₀:=X.base) I.ok.mod.Uz hm.kp (O3 (ha cp pins s1 σ H1 W ρ _ (I1.wish _) (Y8.wish _) q) (fun us s2 ⟨vs2,H2,ds2,I2,rv,VT,hd2,q2⟩=>⟨I2.MZ.QI,?_⟩) fun _ _ z=>False.elim z) hs0 Qj;have I2:=I2.MZ;have Zc:=Y8.same VT;refine O3 (qN (Q:=fun _=>E.nx ρ) (Ed:=rM X.K C i su E ρ) (dds:=[]) (dsv:=[]) (us:=.ref a::us) (vs:=.ref a::vs2) (ds:=.obj Cm ns ds::ds2) F hr hb .nil (by simp) I2 Zc (.cons rfl rv) (af.cons (WI.same VT) hd2) (by rw[V0,ay];exact q2) fun er s' hx=>zN i hN hmx hsu hgx hi Y7 hex Py VB hdx I2 Zc (sm.trans VT) hx) (fun u s3 ⟨v,H3,d,I3,r3,e3,XF,q3⟩=>?_) fun _ _ z=>z
 exact V1 (V1 ⟨W,_,H3,I3,OB.same ((sm.trans VT).trans e3),_,Zc.same e3,q3⟩)
end
end PD
set_option linter.all false
set_option maxRecDepth 100000
namespace PD
open PySem PySem.Spec PyProof.Rows L2 PX WC
theorem yZ{P:Program}{w:World}{K:yac}{mg mb:yam}{k:Nat}{fa a c0 T:Addr}{fd:FuncData}{x:Str}{sp:DSp}{LP:Shared}{vs:yad}{ns:yaf}
  (hT:LP.heap.get? T=some (PySem.W.tabObj #[])) (hTK:K.lookup T=none) (hC:PySem.W.codeHdIn K c0 T=true) (Ze:tabOf K=some T) (hBM:BMain mg LP.heap)
  (KX:K.In LP.heap) (UZ:LP.heap.Ns mainGlobals mg) (hb:LP.heap.Ns builtinsNs mb) (hbb:∀x:Str,x ≠ "__name__" -> mb x=bootBuiltins x) (hlim:LP.heap.NoLimit) (hg:LP.gens=#[])
  (ha:LP.heap.get? a=some {cls:=.type "list", data:=.seq vs.toArray}) (hi:IntsAre vs ns) (hl:ns.length<=sizeLine) (hr:aX k callerA)
  (F:∀base:Heap,K.In base->base.Ns mainGlobals mg->BMain mg base->FnC P w K mg base k fa fd [x] sp) (hbind:∀(s:Shared) (u:Value),BindsTo s fd ⟨[u],[]⟩ [(x,u)])
  (Ut:∀H:Hp,cK K H->SqL K H a (ns.map V.int)->aJ K sp [.ref a] H (fun v _=>v=.bl true) fun _ _ _=>False) :
  aN (model P w) callerA (.call (.ref fa) ⟨[.ref a],[]⟩) (fun r s'=>r=.ok (.ret (.bool true))/\OldK LP.heap s'.heap/\s'.os=LP.os/\AllBare s'.gens) LP:=by
 have rv:=j3 hi;have lenV:=hi.length;have haT:a≠T:=fun e=>by rw[e,hT]at ha;cases ha
 have tabAt:LP.heap.TableAt c0 T #[]:=(PySem.W.codeHd_of_K KX hC).tab hT;have core:∀H:Hp,(∀b,H b=none∨(b=a/\∃o xs,H b=some (.frz o (.lst xs)))∨(b=T/\H b=some (.So #[])))->H T=some (.So #[])->SqL K H a (ns.map V.int)->Rc P w H LP.heap->(H a≠none->K.lookup a=none) →
   aN (model P w) callerA (.call (.ref fa) ⟨[.ref a],[]⟩) (fun r s'=>r=.ok (.ret (.bool true))/\OldK LP.heap s'.heap/\s'.os=LP.os/\AllBare s'.gens) LP:=by
  intro H hO hHT hS Nw hK;have Uc:∀{b:Addr} {o:Obj},LP.heap.get? b=some o->H b=none->(j9 LP.heap H).get? b=some o:=fun e n=>Cn e n
  have free:∀{b:Addr} {o:Obj},LP.heap.get? b=some o->(o.data ≠ .seq vs.toArray 0)->o.cls ≠ .none->H b=none:=fun {b o} e d c=>by
   rcases hO b with z|⟨z,_⟩| ⟨z,_⟩
   ·exact z
   ·subst z;rw[ha]at e;cases e;exact absurd rfl d
   ·subst z;rw[hT]at e;cases e;exact absurd rfl c
  have nsK:∀{b:Addr} {m:yam},LP.heap.Ns b m->(j9 LP.heap H).Ns b m:=fun {b m} ⟨o,es,ep,e,d,r⟩=>⟨o,es,ep,Uc e (by
   rcases hO b with z|⟨z,_⟩| ⟨z,_⟩
   ·exact z
   ·subst z;rw[ha]at e;cases e;cases d
   ·subst z;rw[hT]at e;cases e;cases d),d,r⟩
  have hKb:K.In (j9 LP.heap H):=fun b o e=>Uc (KX b o e) (by
   rcases hO b with z|⟨z,q⟩| ⟨z,_⟩
   ·exact z
   ·subst z;obtain⟨_,_,q⟩:=q;rw[hK (by rw[q];simp)]at e;cases e
   ·subst z;rw[hTK]at e;cases e)
  have hM:Mod K mg (j9 LP.heap H):=⟨hKb,nsK UZ,⟨mb,nsK hb,hbb⟩,let ⟨mc,h1,h2⟩:=hlim;⟨mc,nsK h1,h2⟩⟩;have hB:BMain mg (j9 LP.heap H):=by obtain⟨bm,ob,b1,b2,b3,b4,b5,b6⟩:=hBM;exact⟨bm,ob,b1,b2,Uc b3 (free b3 (by rw[b6];intro z;cases z) (by rw[b4];intro z;cases z)),b4,b5,b6⟩
  have tk:cK K H:=by
   refine⟨fun Q ps e=>?_,fun Q e=>?_⟩
   ·rcases hO Q with z|⟨_,o,xs,z⟩| ⟨_,z⟩
    ·rw[z]at e;cases e
    ·rw[z]at e;cases e
    ·rw[z]at e;cases e;exact⟨True.intro,fun pos cv q=>by cases q⟩
   ·rw[Ze]at e;cases e;exact⟨#[],hHT⟩
  have e0:mz P w K mg (j9 LP.heap H) callerA [] LP H:=⟨rfl,hM,fun b o e=>E4 e,Nat.le_of_eq (Ax _ _),trivial,fun b hb=>absurd (show b∈([]:yae)from hb) (by simp),Nw,.of_eq hg⟩;refine((F _ hKb (nsK UZ) hB).run callerA [] LP H ⟨[.ref a],[]⟩ [.ref a] [.ref a] _ _ hr e0 (hbind LP (.ref a)) (.cons rfl .nil) (Ut H tk hS)).mono fun r s' h=>?_
  cases r with
  |error e=>obtain⟨_,_,_,_,_,_,_,_,_,_,_,_,_,z⟩:=h;exact z.elim
  |ok fl =>
   cases fl with
   |next=>exact False.elim h
   |brk=>exact False.elim h
   |cont=>exact False.elim h
   |ret u =>
    obtain⟨v,H',os,bare,un,hok',r',q⟩:=h;have q':v=.bl true:=q;subst q';obtain rfl:u=Value.bool true:=r';have old:∀b o,LP.heap.get? b=some o->b≠T->s'.heap.get? b=some o:=fun b o e nT=>by
     rcases hO b with z|⟨_,ob,xs,z⟩| ⟨z,_⟩
     ·exact un.keep b o e z (by intro z;exact absurd (show b∈([]:yae)from z) (by simp)) (by simp)
     ·have z2:=un.Qk b ob _ z;obtain⟨e1,_⟩:=Nw b _ z;obtain⟨e2,_⟩:=hok' b _ z2;rw[e]at e1;cases e1;exact e2
     ·exact absurd z nT
    obtain⟨more,hm⟩:=un.Ql T #[] hHT;have hT':s'.heap.get? T=some (PySem.W.tabObj (#[]++more)):=hok' T _ hm;refine⟨rfl,⟨fun b o e=>?_,fun b o e=>?_⟩,os,bare⟩
    ·by_cases z:b=T
     ·subst z;rw[hT]at e;cases e;exact .inr (.inl ⟨tabAt.isCodeTable,rfl,#[],more,rfl,hT'⟩)
     ·exact .inl (old b o e z)
    ·by_cases z:b=T
     ·subst z;exact⟨_,hT'⟩
     ·exact⟨o,old b o e z⟩
 have okT:∀H:Hp,H T=some (.So #[])->bQ P w H LP.heap T (.So #[]):=fun H _=>hT
 cases hk:K.lookup a with
 |some o =>
  have e:=KX a o hk;rw[ha]at e;cases e;refine core (fun b=>if b=T then some (.So #[])else none) (fun b=>?_) (LX rfl) (.inr ⟨_,vs.toArray,_,hk,rfl,rfl,rfl,by rw[Uo,lenV];exact hl,by simpa using rv⟩) (fun b u z=>?_) fun z=>absurd (LO haT) z
  ·by_cases hb:b=T
   ·exact .inr (.inr ⟨hb,LX hb⟩)
   ·exact .inl (LO hb)
  ·by_cases hb:b=T
   ·have z':=(LX hb).symm.trans z;cases z';subst hb;exact hT
   ·have z':=(LO hb).symm.trans z;cases z'
 |none =>
  refine core (fun b=>if b=T then some (.So #[])else if b=a then some (.frz {cls:=.type "list", data:=.seq vs.toArray} (.lst (ns.map V.int)))else none) (fun b=>?_) (LX rfl) (.inl (.inr ⟨{cls:=.type "list", data:=.seq vs.toArray},(LO haT).trans (LX rfl)⟩)) (fun b u z=>?_) fun _=>hk
  ·by_cases hb:b=T
   ·exact .inr (.inr ⟨hb,LX hb⟩)
   ·by_cases UY:b=a
    ·exact .inr (.inl ⟨UY,_,_,(LO hb).trans (LX UY)⟩)
    ·exact .inl ((LO hb).trans (LO UY))
  ·by_cases hb:b=T
   ·have z':=(LX hb).symm.trans z;cases z';subst hb;exact hT
   ·by_cases UY:b=a
    ·have z':=((LO hb).trans (LX UY)).symm.trans z;cases z';subst UY;exact⟨ha,by rw[Ph];exact hl,vs,_,rv,ha⟩
    ·have z':=((LO hb).trans (LO UY)).symm.trans z;cases z'
theorem BG{l:PySem.W.OpenLaw}{q:Program}{loose:yah}{XP:(yam)->Heap->Prop}{YP:World->Heap->Prop}{d:DefRec}{K:Params->yac}{k:Nat}{x:Str}{c0 T:Addr}(hn:l.most=some 63)(hdf:d.params.defaults=[])(hr:aX k callerA)
  (hY:∀(w:World) (h:Heap),YP w h->(K w.params).In h/\h.get? T=some (PySem.W.tabObj #[])) (hTK:∀w:World,(K w.params).lookup T=none) (hC:∀w:World,PySem.W.codeHdIn (K w.params) c0 T=true) (Ze:∀w:World,tabOf (K w.params)=some T)
  (F:∀(w:World) (mg:yam) (fa:Addr) (h:Heap),(K w.params).In h->h.Ns mainGlobals mg->mg d.name=some (.ref fa) →
   ∃ fd:FuncData,(∀(s:Shared) (u:Value),BindsTo s fd ⟨[u],[]⟩ [(x,u)])/\∀base:Heap,(K w.params).In base->base.Ns mainGlobals mg->BMain mg base->FnC l.prog w (K w.params) mg base k fa fd [x] uR) :
  WC.Dq q loose XP YP l.row.toRowW d []:=by
 intro w MY LP mg mb G Y fa o pm cd doc dV kV ho hd RN hD VX hg args vals as U6 Y4 hrd hwl hlo;obtain⟨a,vs,ns,rfl,rfl,hobj,hints,hlen⟩:=Att.Bj hn U6 hwl;obtain⟨KX,hT⟩:=hY w _ Y;obtain⟨fd,hb,hF⟩:=F w mg fa _ KX G.T.g VX;refine(yZ hT (hTK w) (hC w) (Ze w) G.T.bmain KX G.T.g G.T.b G.T.builtins G.T.nolimit hg hobj hints (Sw hlen (by decide)) hr hF hb fun H hO hS=>HU hlen hS hO).mono fun r s' hq=>?_
 obtain⟨rfl,h2,h3,h4⟩:=hq;exact⟨.inl ⟨.bool true,.bool true,[],rfl,fun _=>rfl,.bool true,Att.A3 l _,fun _=>⟨List.Pairwise.nil,fun _ hm=>(nomatch hm)⟩⟩,h2,h3,h4⟩
end PD
namespace LW
open PySem PySem.Spec PyProof.Rows L2 PD
seal PD.bq PD.Q9 PD.Mv PD.Tn PD.VI PD.Qc PD.Uv PD.Wa PD.rD PD.Vc PD.U1 PD.PKD PD.PPD PD.Xf PD.PFL PD.PPK PD.PEK PD.iZ PD.XD PD.Vl PD.WL PD.Y5 PD.Y6 PD.PJD
local macro_rules | `(tactic| walk_at "sc") => `(tactic| exact ⟨rfl, rfl, rfl, by decide +kernel, rfl, by decide +kernel, by decide +kernel⟩)
def top(i:Nat):Stmt:=PySem.Challenge.pw_halvecut_k85_what_a_sheet_refuses.main.body.getD i (.Pass ⟨0,0,0,0⟩)
def mth(i j:Nat):Stmt:=(PD.KP (top i)).getD j (.Pass ⟨0,0,0,0⟩)
abbrev lQ:Stmt:=top 12
abbrev fB:Stmt:=top 14
abbrev lS:Stmt:=top 15
abbrev lT:Stmt:=top 28
abbrev Bf:Stmt:=top 33
abbrev kj:Stmt:=top 38
abbrev gb:Stmt:=top 39
abbrev nc:Stmt:=top 40
abbrev iP:Stmt:=top 41
abbrev lP:Stmt:=top 45
abbrev ki:Stmt:=top 46
abbrev sC:Stmt:=top 47
abbrev lV:Stmt:=top 48
abbrev qQ:Stmt:=top 49
abbrev jx:Stmt:=top 106
abbrev gw:Stmt:=top 107
abbrev m5:Stmt:=top 120
abbrev jo:Stmt:=top 126
abbrev lY:Stmt:=top 127
abbrev jt:Stmt:=top 128
abbrev ip:Stmt:=top 129
abbrev gf:Stmt:=top 130
abbrev lU:Stmt:=top 131
abbrev kx:Stmt:=top 132
abbrev lW:Stmt:=top 133
abbrev gP:Stmt:=top 134
abbrev wx:Stmt:=top 135
abbrev ju:Stmt:=top 136
abbrev zp:Stmt:=top 140
abbrev zo:Stmt:=top 141
abbrev pM:Stmt:=top 142
abbrev mZ:Stmt:=top 143
abbrev kz:Stmt:=top 145
abbrev gv:Stmt:=top 151
abbrev lX:Stmt:=top 153
abbrev jv:Stmt:=top 154
abbrev ku:Stmt:=top 158
abbrev ky:Stmt:=top 159
abbrev ij:Stmt:=top 162
abbrev jq:Stmt:=top 163
abbrev iO:Stmt:=top 164
abbrev lR:Stmt:=top 165
abbrev ik:Stmt:=top 166
abbrev gu:Stmt:=top 167
abbrev km:Stmt:=top 168
abbrev kr:Stmt:=top 169
abbrev cG:Stmt:=top 170
abbrev gc:Stmt:=top 171
abbrev fj:Stmt:=top 172
abbrev ig:Stmt:=mth 160 0
abbrev bN:Stmt:=mth 160 1
abbrev fZ:Stmt:=mth 160 2
abbrev c9:Stmt:=mth 160 3
abbrev oO:Stmt:=top 127
abbrev ml:Stmt:=top 128
abbrev lx:Stmt:=top 129
abbrev jr:Stmt:=top 130
abbrev oN:Stmt:=top 131
abbrev mj:Stmt:=top 135
abbrev m6:Stmt:=top 158
abbrev m7:Stmt:=top 159
theorem xD:aw ["thing"] ["thing"] (ah lQ):=by walk_at "sc"
theorem cR:aw ["one", "other", "rest"] ["one", "other"] (ah fB):=by walk_at "sc"
theorem jY:aw ["numbers", "divisor", "number"] ["numbers"] (ah lS):=by walk_at "sc"
theorem xE:aw ["spot"] ["spot"] (ah lT):=by walk_at "sc"
theorem wz:aw ["thing", "least", "most"] ["thing", "least", "most"] (ah kj):=by walk_at "sc"
theorem pO:aw ["thing"] ["thing"] (ah gb):=by walk_at "sc"
theorem zt:aw ["dot"] ["dot"] (ah nc):=by walk_at "sc"
theorem xF:aw ["dots"] ["dots"] (ah iP):=by walk_at "sc"
theorem Bh:aw ["thing"] ["thing"] (ah lP):=by walk_at "sc"
theorem wy:aw ["by_map"] ["by_map"] (ah ki):=by walk_at "sc"
theorem pP:aw ["place", "by_map", "x", "y"] ["place", "by_map"] (ah sC):=by walk_at "sc"
theorem oS:aw ["dot", "by_map", "spot"] ["dot", "by_map"] (ah lV):=by walk_at "sc"
theorem FC:aw ["dots", "by_map"] ["dots", "by_map"] (ah qQ):=by walk_at "sc"
theorem uD:aw ["spots"] ["spots"] (ah jx):=by walk_at "sc"
theorem qS:aw ["spots"] ["spots"] (ah gw):=by walk_at "sc"
theorem zr:aw ["dots", "planes", "found"] ["dots"] (ah m5):=by walk_at "sc"
theorem uA:aw ["thing"] ["thing"] (ah jo):=by walk_at "sc"
theorem xH:aw ["word"] ["word"] (ah lY):=by walk_at "sc"
theorem mn:aw ["word", "digits", "number"] ["word", "digits"] (ah jt):=by walk_at "sc"
theorem sF:aw ["word"] ["word"] (ah ip):=by walk_at "sc"
theorem jB:aw ["word", "digits", "number"] ["word", "digits"] (ah gf):=by walk_at "sc"
theorem kA:aw ["word", "across", "upward"] ["word"] (ah lU):=by walk_at "sc"
theorem wC:aw ["x", "y"] ["x", "y"] (ah kx):=by walk_at "sc"
theorem kB:aw ["dot", "text", "weight"] ["dot"] (ah lW):=by walk_at "sc"
theorem wB:aw ["dots"] ["dots"] (ah gP):=by walk_at "sc"
theorem iq:aw ["place", "by", "spot"] ["place"] (ah ju):=by walk_at "sc"
theorem I0:aw ["dots", "given"] ["dots", "given"] (ah zp):=by walk_at "sc"
theorem Bg:aw ["dots", "given", "number"] ["dots", "given"] (ah zo):=by walk_at "sc"
theorem Bi:aw ["dots", "given"] ["dots", "given"] (ah pM):=by walk_at "sc"
theorem zq:aw ["dots", "given"] ["dots", "given"] (ah mZ):=by walk_at "sc"
theorem wD:aw ["dots", "given"] ["dots", "given"] (ah kz):=by walk_at "sc"
theorem jZ:aw ["dots", "given", "found"] ["dots", "given"] (ah gv):=by walk_at "sc"
theorem xG:aw ["dots", "given"] ["dots", "given"] (ah lX):=by walk_at "sc"
theorem uC:aw ["dots", "given"] ["dots", "given"] (ah jv):=by walk_at "sc"
theorem wA:aw ["form", "word"] ["form", "word"] (ah ku):=by walk_at "sc"
theorem ng:aw ["row", "words"] ["row"] (ah ky):=by walk_at "sc"
theorem sE:aw ["_law_script", "_law_k"] ["_law_script", "_law_k"] (ah ij):=by walk_at "sc"
theorem de:aw ["_law_cell", "_law_many", "_law_found", "_law_number", "_law_k"] ["_law_cell", "_law_many"] (ah jq):=by walk_at "sc"
theorem gR:aw ["_law_cell", "_law_xs", "_law_many", "_law_found"] ["_law_cell"] (ah iO):=by walk_at "sc"
theorem oR:aw ["_law_dot", "_law_word_here"] ["_law_dot"] (ah lR):=by walk_at "sc"
theorem gx:aw ["_law_some"] [] (ah ik):=by walk_at "sc"
theorem dw:aw ["_law_some"] [] (ah gu):=by walk_at "sc"
theorem jy:aw ["_law_many", "_law_found"] ["_law_many"] (ah km):=by walk_at "sc"
theorem jz:aw ["_law_caught", "_law_some"] ["_law_caught"] (ah kr):=by walk_at "sc"
theorem bJ:aw ["_law_sheet", "_law_row", "_law_way", "_law_caught", "error"] ["_law_sheet", "_law_row", "_law_way"] (ah cG):=by walk_at "sc"
theorem mm:aw ["_law_sheet", "_law_dots_here", "_law_k"] ["_law_sheet", "_law_dots_here"] (ah gc):=by walk_at "sc"
theorem gg:aw ["_law_script", "_law_dots_here", "_law_text", "_law_some", "_law_sheet", "_law_k", "_law_cell", "_law_row", "_law_way"] ["_law_script"] (ah fj):=by walk_at "sc"
theorem sD:aw ["self"] ["self"] (ah ig):=by walk_at "sc"
theorem bo:aw ["self", "row", "words", "first", "given"] ["self", "row"] (ah bN):=by walk_at "sc"
theorem pN:aw ["self", "dots"] ["self", "dots"] (ah fZ):=by walk_at "sc"
theorem iD:aw ["self"] ["self"] (ah c9):=by walk_at "sc"
theorem wF:aw ["word"] ["word"] (ah oO):=by walk_at "sc"
theorem lz:aw ["word", "digits", "number"] ["word", "digits"] (ah ml):=by walk_at "sc"
theorem qR:aw ["word"] ["word"] (ah lx):=by walk_at "sc"
theorem iE:aw ["word", "digits", "number"] ["word", "digits"] (ah jr):=by walk_at "sc"
theorem jA:aw ["word", "across", "upward"] ["word"] (ah oN):=by walk_at "sc"
theorem bK:aw ["text", "by", "spot", "across", "triple", "parts"] ["text"] (ah mj):=by walk_at "sc"
theorem uB:aw ["form", "word"] ["form", "word"] (ah m6):=by walk_at "sc"
theorem mq:aw ["row", "words"] ["row"] (ah m7):=by walk_at "sc"
structure Cls where
 PlaneError:Addr
 NoPlace:Addr
 NoLine:Addr
 NoDots:Addr
 NoMap:Addr
 TooFew:Addr
 TooMany:Addr
 NoSuch:Addr
 NoText:Addr
 NoAsk:Addr
 Sheet:Addr
structure ON(K:yac)(mg:yam)(κ:Cls):Prop where
 N9:mg "PlaneError" = some (.ref κ.PlaneError)
 OR:mg "NoPlace" = some (.ref κ.NoPlace)
 Pz:mg "NoLine" = some (.ref κ.NoLine)
 OK:mg "NoDots" = some (.ref κ.NoDots)
 Pp:mg "NoMap" = some (.ref κ.NoMap)
 Oy:mg "TooFew" = some (.ref κ.TooFew)
 OE:mg "TooMany" = some (.ref κ.TooMany)
 OY:mg "NoSuch" = some (.ref κ.NoSuch)
 MA:mg "NoText" = some (.ref κ.NoText)
 Oz:mg "NoAsk" = some (.ref κ.NoAsk)
 PN:mg "Sheet" = some (.ref κ.Sheet)
 OC:∃t,mg "MOST_DOTS" = some (.int 30 t)
 Mn:∃t,mg "MOST_COORDINATE" = some (.int 999999999999 t)
 Mx:∃t,mg "MOST_FOR_DEEPEST" = some (.int 12 t)
 LM:∃t,mg "DIGITS_OF_COORDINATE" = some (.int 12 t)
 Me:∃t,mg "DIGITS_OF_WEIGHT" = some (.int 9 t)
 L9:∃t,mg "DIGITS_IN_PLACE" = some (.int 40 t)
 Mf:∃t,mg "DIGITS_OF_NUMBER" = some (.int 2 t)
 MH:∃t,mg "MOST_REMEMBERED" = some (.int 20 t)
 Oh:∃t,mg "LETTERS" = some (.str "abc" t)
 Mo:PySem.W.excIn K κ.NoText cJ "ValueError.__new__" = true
 O9:PX.bP K κ.NoText
 MC:PySem.W.kitOne K (.ref κ.NoText) (.ref κ.PlaneError)=some true
 MJ:PySem.W.kitOne K (.ref κ.NoText) (.ref κ.NoPlace)=some false
 NU:PySem.W.kitOne K (.ref κ.NoText) (.ref κ.NoLine)=some false
 M3:PySem.W.kitOne K (.ref κ.NoText) (.ref κ.NoDots)=some false
 Ny:PySem.W.kitOne K (.ref κ.NoText) (.ref κ.NoMap)=some false
 M4:PySem.W.kitOne K (.ref κ.NoText) (.ref κ.TooFew)=some false
 MK:PySem.W.kitOne K (.ref κ.NoText) (.ref κ.TooMany)=some false
 M5:PySem.W.kitOne K (.ref κ.NoText) (.ref κ.NoSuch)=some false
 M7:PySem.W.kitOne K (.ref κ.NoText) (.ref κ.NoText)=some true
 Nz:PySem.W.kitOne K (.ref κ.NoText) (.ref κ.NoAsk)=some false
 Oa:PySem.W.kitOne K (.ref κ.NoText) (.ref κ.Sheet)=some false
 Mg:PySem.W.kitOne K (.ref κ.NoText) (.type "ValueError")=some true
 Mh:PySem.W.exmOne K (.ref κ.NoText) (.ref κ.PlaneError)=some true
 NV:PySem.W.exmOne K (.ref κ.NoText) (.ref κ.NoText)=some true
 OF:PySem.W.excIn K κ.NoDots cJ "ValueError.__new__" = true
 Pa:PX.bP K κ.NoDots
 MD:PySem.W.kitOne K (.ref κ.NoDots) (.ref κ.PlaneError)=some true
 ML:PySem.W.kitOne K (.ref κ.NoDots) (.ref κ.NoPlace)=some false
 NW:PySem.W.kitOne K (.ref κ.NoDots) (.ref κ.NoLine)=some false
 M9:PySem.W.kitOne K (.ref κ.NoDots) (.ref κ.NoDots)=some true
 NA:PySem.W.kitOne K (.ref κ.NoDots) (.ref κ.NoMap)=some false
 Na:PySem.W.kitOne K (.ref κ.NoDots) (.ref κ.TooFew)=some false
 MM:PySem.W.kitOne K (.ref κ.NoDots) (.ref κ.TooMany)=some false
 Nb:PySem.W.kitOne K (.ref κ.NoDots) (.ref κ.NoSuch)=some false
 Nc:PySem.W.kitOne K (.ref κ.NoDots) (.ref κ.NoText)=some false
 NB:PySem.W.kitOne K (.ref κ.NoDots) (.ref κ.NoAsk)=some false
 Ob:PySem.W.kitOne K (.ref κ.NoDots) (.ref κ.Sheet)=some false
 Mi:PySem.W.kitOne K (.ref κ.NoDots) (.type "ValueError")=some true
 Mj:PySem.W.exmOne K (.ref κ.NoDots) (.ref κ.PlaneError)=some true
 NX:PySem.W.exmOne K (.ref κ.NoDots) (.ref κ.NoDots)=some true
 OT:PySem.W.excIn K κ.NoSuch cJ "ValueError.__new__" = true
 Pc:PX.bP K κ.NoSuch
 ME:PySem.W.kitOne K (.ref κ.NoSuch) (.ref κ.PlaneError)=some true
 MN:PySem.W.kitOne K (.ref κ.NoSuch) (.ref κ.NoPlace)=some false
 NY:PySem.W.kitOne K (.ref κ.NoSuch) (.ref κ.NoLine)=some false
 Nd:PySem.W.kitOne K (.ref κ.NoSuch) (.ref κ.NoDots)=some false
 NC:PySem.W.kitOne K (.ref κ.NoSuch) (.ref κ.NoMap)=some false
 Nf:PySem.W.kitOne K (.ref κ.NoSuch) (.ref κ.TooFew)=some false
 MO:PySem.W.kitOne K (.ref κ.NoSuch) (.ref κ.TooMany)=some false
 Ng:PySem.W.kitOne K (.ref κ.NoSuch) (.ref κ.NoSuch)=some true
 Nh:PySem.W.kitOne K (.ref κ.NoSuch) (.ref κ.NoText)=some false
 ND:PySem.W.kitOne K (.ref κ.NoSuch) (.ref κ.NoAsk)=some false
 Oc:PySem.W.kitOne K (.ref κ.NoSuch) (.ref κ.Sheet)=some false
 Ml:PySem.W.kitOne K (.ref κ.NoSuch) (.type "ValueError")=some true
 Mm:PySem.W.exmOne K (.ref κ.NoSuch) (.ref κ.PlaneError)=some true
 NZ:PySem.W.exmOne K (.ref κ.NoSuch) (.ref κ.NoSuch)=some true
 Pd:PySem.W.excIn K κ.NoMap cJ "ValueError.__new__" = true
 PR:PX.bP K κ.NoMap
 MV:PySem.W.kitOne K (.ref κ.NoMap) (.ref κ.PlaneError)=some true
 Ni:PySem.W.kitOne K (.ref κ.NoMap) (.ref κ.NoPlace)=some false
 Od:PySem.W.kitOne K (.ref κ.NoMap) (.ref κ.NoLine)=some false
 NF:PySem.W.kitOne K (.ref κ.NoMap) (.ref κ.NoDots)=some false
 N3:PySem.W.kitOne K (.ref κ.NoMap) (.ref κ.NoMap)=some true
 NG:PySem.W.kitOne K (.ref κ.NoMap) (.ref κ.TooFew)=some false
 Nj:PySem.W.kitOne K (.ref κ.NoMap) (.ref κ.TooMany)=some false
 NH:PySem.W.kitOne K (.ref κ.NoMap) (.ref κ.NoSuch)=some false
 NI:PySem.W.kitOne K (.ref κ.NoMap) (.ref κ.NoText)=some false
 N4:PySem.W.kitOne K (.ref κ.NoMap) (.ref κ.NoAsk)=some false
 Oj:PySem.W.kitOne K (.ref κ.NoMap) (.ref κ.Sheet)=some false
 Mp:PySem.W.kitOne K (.ref κ.NoMap) (.type "ValueError")=some true
 Mq:PySem.W.exmOne K (.ref κ.NoMap) (.ref κ.PlaneError)=some true
 Ol:PySem.W.exmOne K (.ref κ.NoMap) (.ref κ.NoMap)=some true
 Ov:PySem.W.excIn K κ.TooFew cJ "ValueError.__new__" = true
 OZ:PX.bP K κ.TooFew
 MF:PySem.W.kitOne K (.ref κ.TooFew) (.ref κ.PlaneError)=some true
 MP:PySem.W.kitOne K (.ref κ.TooFew) (.ref κ.NoPlace)=some false
 N0:PySem.W.kitOne K (.ref κ.TooFew) (.ref κ.NoLine)=some false
 Nk:PySem.W.kitOne K (.ref κ.TooFew) (.ref κ.NoDots)=some false
 NJ:PySem.W.kitOne K (.ref κ.TooFew) (.ref κ.NoMap)=some false
 Nl:PySem.W.kitOne K (.ref κ.TooFew) (.ref κ.TooFew)=some true
 MQ:PySem.W.kitOne K (.ref κ.TooFew) (.ref κ.TooMany)=some false
 Nm:PySem.W.kitOne K (.ref κ.TooFew) (.ref κ.NoSuch)=some false
 Nn:PySem.W.kitOne K (.ref κ.TooFew) (.ref κ.NoText)=some false
 NK:PySem.W.kitOne K (.ref κ.TooFew) (.ref κ.NoAsk)=some false
 Oe:PySem.W.kitOne K (.ref κ.TooFew) (.ref κ.Sheet)=some false
 LY:PySem.W.kitOne K (.ref κ.TooFew) (.type "ValueError")=some true
 LZ:PySem.W.exmOne K (.ref κ.TooFew) (.ref κ.PlaneError)=some true
 N1:PySem.W.exmOne K (.ref κ.TooFew) (.ref κ.TooFew)=some true
 Om:PySem.W.excIn K κ.NoAsk cJ "ValueError.__new__" = true
 PU:PX.bP K κ.NoAsk
 MW:PySem.W.kitOne K (.ref κ.NoAsk) (.ref κ.PlaneError)=some true
 Np:PySem.W.kitOne K (.ref κ.NoAsk) (.ref κ.NoPlace)=some false
 Of:PySem.W.kitOne K (.ref κ.NoAsk) (.ref κ.NoLine)=some false
 NL:PySem.W.kitOne K (.ref κ.NoAsk) (.ref κ.NoDots)=some false
 N5:PySem.W.kitOne K (.ref κ.NoAsk) (.ref κ.NoMap)=some false
 NM:PySem.W.kitOne K (.ref κ.NoAsk) (.ref κ.TooFew)=some false
 Nq:PySem.W.kitOne K (.ref κ.NoAsk) (.ref κ.TooMany)=some false
 NN:PySem.W.kitOne K (.ref κ.NoAsk) (.ref κ.NoSuch)=some false
 NO:PySem.W.kitOne K (.ref κ.NoAsk) (.ref κ.NoText)=some false
 N6:PySem.W.kitOne K (.ref κ.NoAsk) (.ref κ.NoAsk)=some true
 Oo:PySem.W.kitOne K (.ref κ.NoAsk) (.ref κ.Sheet)=some false
 Mr:PySem.W.kitOne K (.ref κ.NoAsk) (.type "ValueError")=some true
 Ms:PySem.W.exmOne K (.ref κ.NoAsk) (.ref κ.PlaneError)=some true
 Oq:PySem.W.exmOne K (.ref κ.NoAsk) (.ref κ.NoAsk)=some true
 OG:PySem.W.excIn K κ.TooMany cJ "ValueError.__new__" = true
 OU:PX.bP K κ.TooMany
 Mw:PySem.W.kitOne K (.ref κ.TooMany) (.ref κ.PlaneError)=some true
 My:PySem.W.kitOne K (.ref κ.TooMany) (.ref κ.NoPlace)=some false
 NP:PySem.W.kitOne K (.ref κ.TooMany) (.ref κ.NoLine)=some false
 MR:PySem.W.kitOne K (.ref κ.TooMany) (.ref κ.NoDots)=some false
 Nt:PySem.W.kitOne K (.ref κ.TooMany) (.ref κ.NoMap)=some false
 MS:PySem.W.kitOne K (.ref κ.TooMany) (.ref κ.TooFew)=some false
 Mz:PySem.W.kitOne K (.ref κ.TooMany) (.ref κ.TooMany)=some true
 MT:PySem.W.kitOne K (.ref κ.TooMany) (.ref κ.NoSuch)=some false
 MU:PySem.W.kitOne K (.ref κ.TooMany) (.ref κ.NoText)=some false
 Nu:PySem.W.kitOne K (.ref κ.TooMany) (.ref κ.NoAsk)=some false
 N2:PySem.W.kitOne K (.ref κ.TooMany) (.ref κ.Sheet)=some false
 Ma:PySem.W.kitOne K (.ref κ.TooMany) (.type "ValueError")=some true
 Mb:PySem.W.exmOne K (.ref κ.TooMany) (.ref κ.PlaneError)=some true
 Nv:PySem.W.exmOne K (.ref κ.TooMany) (.ref κ.TooMany)=some true
 LR:L2.Cls K κ.Sheet
 Oi:PX.hW K κ.Sheet
 LU:L2.fG K κ.Sheet "dots"
 Mu:L2.fG K κ.Sheet "past"
theorem str_inj{x y:Str}(h:D.str x=D.str y):x=y:=by injection h
abbrev sgn(x:Str):yag:=x.cps.toList
def OH(l:yag):Str:=⟨l.toArray⟩
theorem aP(l:yag):sgn (OH l)=l:=by simp[sgn,OH]
theorem fK(x:Str):OH (sgn x)=x:=by simp[sgn,OH]
theorem bO{x y:Str}(h:sgn x=sgn y):x=y:=by rw[<- fK x,h,fK]
theorem br(x y:Str):sgn (x++y)=sgn x++sgn y:=by show(x.cps++y.cps).toList=_;simp
theorem bL(x:Str):(sgn x).length=x.length:=Array.length_toList
theorem eS(l:yag):(OH l).length=l.length:=by rw[<- bL,aP]
def bg(c:Nat):yag->Option (yag×yag)
 |[]=>none
 |x::xs=>if x=c then some ([],xs)else match bg c xs with
  |none=>none
  |some p=>some (x::p.1,p.2)
theorem pj{c:Nat}(b:yag):∀{a:yag},c∉a->bg c (a++b)=match bg c b with
  |none=>none
  |some p=>some (a++p.1,p.2)
 |[],_=>by show bg c b=_;cases bg c b<;>rfl
 |x::a,h=>by
  have h1:¬x=c:=fun e=>h (by rw[e];exact Su)
  show(if x=c then _ else match bg c (a++b)with|none=>none|some p=>some (x::p.1,p.2))=_;rw[LO h1,pj b fun z=>h (SD _ z)];cases bg c b<;>rfl
theorem i7{c:Nat}{a b:yag}(h:c∉a):bg c (a++c::b)=some (a,b):=by
 rw[pj _ h];show(match(if c=c then some ([],b)else _:Option (yag×yag))with|none=>none|some p=>some (a++p.1,p.2))=_;rw[LX rfl];simp
theorem rG{c:Nat}{l:yag}(h:c∉l):bg c l=none:=by have:=pj [] h;rw[V0]at this;rw[this];rfl
theorem pq{c:Nat}:∀{l a b:yag},bg c l=some (a,b)->l=a++c::b/\c∉a
 |[],_,_,h=>by cases h
 |x::l,a,b,h=>by
  unfold bg at h;split at h
  ·rename_i e;cases h;rw[e];exact⟨rfl,fun z=>by cases z⟩
  ·rename_i e;cases q:bg c l with
   |none=>rw[q]at h;cases h
   |some p =>
    rw[q]at h;cases h;obtain⟨h1,h2⟩:=pq (a:=p.1) (b:=p.2) q;refine⟨by rw[h1];rfl,fun z=>?_⟩;rcases Rb.mp z with z|z
    ·exact e z.symm
    ·exact h2 z
theorem GB{c:Nat}{l:yag}(h:bg c l=none):c∉l:=fun z=>by
 obtain⟨a,b,e,h1⟩:=List.append_of_mem z |>.elim fun a ⟨b,e⟩=>(⟨a,b,e,trivial⟩:∃a b,l=a++c::b/\True)
 clear h1 z;subst e
 induction a with
 |nil =>
  unfold bg at h;simp at h
 |cons x a ih =>
  rw[Xk]at h;unfold bg at h;split at h
  ·cases h
  ·split at h
   ·rename_i q;exact ih q
   ·cases h
theorem BQ(x:Str)(c i:Nat):StrLaws.At x ⟨#[c]⟩ x.length i↔(sgn x)[i]?=some c:=by
 have e:(sgn x).length=x.length:=bL x;unfold StrLaws.At;rw[StrLaws.subAt_eq];show i+1<=x.length/\(((sgn x).drop i).take 1==[c])=true↔_;rw[beq_iff_eq];constructor
 ·intro ⟨h1,h2⟩;rw[zBU (by omega)]at h2;rw[Yj (by omega)];simpa using h2
 ·intro h;obtain⟨h1,h2⟩:=U3.mp h;refine⟨by omega,?_⟩;rw[zBU h1,h2];simp
theorem uN(x:Str)(c:Nat):(bg c (sgn x)=none/\Builtin.Str.occurrences x ⟨#[c]⟩ 0 x.length 1=[])∨∃ a b r,bg c (sgn x)=some (a,b)/\Builtin.Str.occurrences x ⟨#[c]⟩ 0 x.length 1=a.length::r:=by
 rcases StrLaws.occ_head x ⟨#[c]⟩ 1 (O2 1)with⟨h0,hn⟩| ⟨i,r,h0,hi,hn⟩
 ·refine .inl ⟨rG fun z=>?_,h0⟩;obtain⟨i,hi⟩:=List.mem_iff_getElem?.mp z;exact hn i ((BQ x c i).mpr hi)
 ·rw[BQ]at hi;obtain⟨h1,h2⟩:=U3.mp hi;have e:sgn x=(sgn x).take i++c::(sgn x).drop (i+1):=by
   rw[<- h2,<- zBU h1,zBn]
  have h3:c∉(sgn x).take i:=fun z=>by
   obtain⟨k,hk⟩:=List.mem_iff_getElem?.mp z;have hk1:k<i:=by have:=(U3.mp hk).1;rw[Uq]at this;omega
   rw[List.getElem?_take_of_lt hk1]at hk;exact hn k hk1 ((BQ x c k).mpr hk)
  refine .inr ⟨(sgn x).take i,(sgn x).drop (i+1),r,?_,?_⟩
  ·have:=i7 (b:=(sgn x).drop (i+1)) h3
   rwa [<- e]at this
  ·rw[h0,Uq,ZX (by omega)]
theorem Cp(x:Str)(c:Nat):PD.inT x ⟨#[c]⟩=(bg c (sgn x)).isSome:=by
 unfold PD.inT;rcases uN x c with⟨h,e⟩| ⟨a,b,r,h,e⟩<;>rw[h,e]<;>rfl
theorem C8(x:Str)(i:Nat):Builtin.Str.strSub x 0 i=OH ((sgn x).take i):=bO (by rw[aP];show(Builtin.Str.strSub x 0 i).cps.toList=_;rw[StrLaws.strSub_toList];simp)
theorem C7(x:Str)(i:Nat):Builtin.Str.strSub x i x.length=OH ((sgn x).drop i):=bO (by rw[aP];show(Builtin.Str.strSub x i x.length).cps.toList=_;rw[StrLaws.strSub_toList,Xi];rw[WZ,<- bL];exact O2 _)
theorem AY(x:Str)(c:Nat):Txt.partition x ⟨#[c]⟩=match bg c (sgn x)with
  |some p=>(OH p.1,⟨#[c]⟩,OH p.2)
  |none=>(x,Str.empty,Str.empty):=by
 unfold Txt.partition;rcases uN x c with⟨h,e⟩| ⟨a,b,r,h,e⟩<;>rw[h,e];have q:=(pq h).1;show(Builtin.Str.strSub x 0 a.length,(⟨#[c]⟩:Str),Builtin.Str.strSub x (a.length+1) x.length)=(OH a,⟨#[c]⟩,OH b);rw[C8,C7,q];simp
def isD(c:Nat):Bool:=decide (48<=c) && decide (c<=57)
def Wc(l:yag):yag:=if l.head?=some 45 then l.tail else l
def XG(k:Nat)(l:yag):Bool:=(Wc l).all isD && (l==[48] || (decide (0<(Wc l).length) && decide ((Wc l).length<=k) && !((Wc l).head?==some 48)))
def dg(m:Nat):yag:=(Nat.toDigits 10 m).map Char.toNat
def tx(n:Int):yag:=sgn (Str.ofString (toString n))
theorem gn(m:Nat):tx (m:Int)=dg m:=PySem.W.KIN.signs_num m
theorem lB(m:Nat):tx (-((m+1:Nat):Int))=45::dg (m+1):=by
 unfold tx sgn dg;rw[Str.ofString_eq_toList];show((toString (Int.negSucc m)).toList.map Char.toNat).toArray.toList=_;rw[List.toList_toArray];show((String.append "-" (Nat.repr (m+1))).toList.map Char.toNat)=_;have:(String.append "-" (Nat.repr (m+1))).toList='-'::(Nat.repr (m+1)).toList:=by show("-" ++ Nat.repr (m+1)).toList=_;rw[String.toList_append];rfl
 rw[this,Nat.toList_repr];rfl
theorem kZ(m:Nat):PySem.NumText.AllDigits (dg m):=by intro c hc;obtain⟨ch,TU,e⟩:=TB.mp hc;have r:=digit_range (Nat.isDigit_of_mem_toDigits (by decide) (by decide) TU);rw[<- e];exact r
theorem xX(m:Nat)(h:0<m):∃c r,dg m=c::r/\49<=c:=by
 induction m using Nat.strongRecOn with
 |_ m ih =>
  unfold dg;by_cases q:m<10
  ·rw[Nat.toDigits_of_lt_base q];have:∀d:Nat,d<10->0<d->49<=(Nat.digitChar d).toNat:=by decide
   exact⟨_,[],rfl,this m q h⟩
  ·have hm:m % 10<10:=Nat.mod_lt m (by decide);have t:Nat.toDigits 10 (m / 10)++Nat.toDigits 10 (m % 10)=Nat.toDigits 10 (10*(m / 10)+m % 10):=Nat.toDigits_append_toDigits (by decide) (by omega) hm;rw[Nat.div_add_mod]at t;obtain⟨c,r,e,hc⟩:=ih (m / 10) (by omega) (by omega);unfold dg at e;rw[<- t,VC,e];exact⟨c,_,rfl,hc⟩
theorem xY:dg 0=[48]:=by decide
theorem JS(m:Nat):dg m ≠ []:=by
 rcases Nat.eq_zero_or_pos m with e|e
 ·rw[e,xY];simp
 ·obtain⟨c,r,q,_⟩:=xX m e;rw[q];simp
theorem vC(m:Nat):(dg m).length=(Nat.toDigits 10 m).length:=Ph ..
theorem qq{k m:Nat}(hk:1<=k):(dg m).length<=k↔m<10 ^ k:=by
 rw[vC];constructor
 ·intro h;apply Nat.lt_of_not_le;intro z;have:=digits10_ge z;omega
 ·intro h;exact digits10_le hk h
theorem yk{l:yag}:l.all isD=true↔PySem.NumText.AllDigits l:=by unfold PySem.NumText.AllDigits isD;simp
theorem gW(n:Int):(∃m:Nat,n=m/\n.natAbs=m)∨∃ m:Nat,n=-((m+1:Nat):Int)/\n.natAbs=m+1:=by
 cases n with
 |ofNat m=>exact .inl ⟨m,rfl,rfl⟩
 |negSucc m=>exact .inr ⟨m,rfl,rfl⟩
theorem qr(n:Int):Wc (tx n)=dg n.natAbs:=by
 rcases gW n with⟨m,e,h⟩| ⟨m,e,h⟩<;>rw[h,e]
 ·rw[gn];unfold Wc;rw[LO];intro z;cases q:dg m with
  |nil=>exact JS m q
  |cons c r =>
   rw[q]at z;have:=(q ▸ kZ m:PySem.NumText.AllDigits (c::r)).head;simp at z;omega
 ·rw[lB];rfl
theorem Ly:tx 0=[48]:=by rw[show(0:Int)=((0:Nat):Int)from rfl,gn,xY]
theorem qx{k:Nat}(hk:1<=k){n:Int}:XG k (tx n)=decide (n.natAbs<10 ^ k):=by
 unfold XG;rw[qr,yk.mpr (kZ _),Zt];rcases Nat.eq_zero_or_pos n.natAbs with e|e
 ·have:n=0:=Int.natAbs_eq_zero.mp e;subst this;rw[Ly,Tz (show(0:Int).natAbs<10 ^ k from Nat.pow_pos (by decide))];rfl
 ·obtain⟨c,r,q,hc⟩:=xX _ e;have h1:(tx n==[48])=false:=by
   rw[Yk];intro z;have h2:=qr n;rw[z,q]at h2;have h3:([48]:yag)=c::r:=h2;simp at h3;omega
  rw[h1,Bool.false_or];have h2:decide (0<(dg n.natAbs).length)=true:=by rw[q];rfl
  have h3:((dg n.natAbs).head?==some 48)=false:=by rw[q];simp;omega
  rw[h2,h3,Zt,Bool.not_false,Bool.and_true];exact decide_eq_decide.mpr (qq hk)
theorem zO{c:Nat}(h:c<128):(Char.ofNat c).toNat=c:=by
 have:∀c:Nat,c<128->(Char.ofNat c).toNat=c:=by decide
 exact this c h
theorem Ag{c:Nat}{r:yag}(h:PySem.NumText.AllDigits (c::r))(h1:r=[]∨49<=c):dg (PySem.NumText.digitsVal (c::r))=c::r:=by
 unfold dg;rw[PySem.NumText.toDigits_digitsVal r.length (c::r) rfl h (h1.elim (fun e=>.inl (by rw[e];rfl)) fun e=>.inr ⟨c,r,rfl,e⟩),Yr]
 conv=>rhs;rw[<- List.map_id (c::r)]
 apply List.map_congr_left;intro d hd;have:=h d hd;exact zO (by omega)
theorem yl{k:Nat}(hk:1<=k)(h9:k<=1000){l:yag}(h:XG k l=true):∃n,PySem.intText? (OH l)=some n/\tx n=l/\n.natAbs<10 ^ k:=by
 have fin:∀n:Int,tx n=l->n.natAbs<10 ^ k:=fun n e=>by rw[<- e,qx hk]at h;exact Wi h
 have hl:l.length<=k+1:=by
  unfold XG Wc at h;simp only[S7,Yn,beq_iff_eq,decide_eq_true_eq]at h;rcases h.2 with e|e
  ·rw[e];show 1<=k+1;omega
  ·have:=e.1.2;split at this
   ·rw[List.length_tail]at this;omega
   ·omega
 have hm:(OH l).length<=4300:=by rw[eS];omega
 unfold XG at h;rw[S7,yk]at h;obtain⟨h1,h2⟩:=h;have h3:∃c r,Wc l=c::r/\(r=[]∨49<=c):=by
  rw[Yn]at h2;rcases h2 with e|e
  ·rw[eq_of_beq e];exact⟨48,[],rfl,.inl rfl⟩
  ·cases q:Wc l with
   |nil=>rw[q]at e;simp at e
   |cons c r =>
    rw[q]at e h1;have:=h1.head;refine⟨c,r,rfl,.inr ?_⟩;simp at e;omega
 obtain⟨c,r,q,hc⟩:=h3;rw[q]at h1;unfold Wc at q;split at q
 ·cases l with
  |nil=>cases q
  |cons d l =>
   rename_i e;have e:d=45:=by simpa using e
   have q:l=c::r:=q;subst e q;have hv:0<PySem.NumText.digitsVal (c::r)∨(c=48/\r=[]):=by
    have:=h1.head;rcases hc with e|e
    ·by_cases z:c=48
     ·exact .inr ⟨z,e⟩
     ·exact .inl (PySem.NumText.digitsVal_pos (by omega))
    ·exact .inl (PySem.NumText.digitsVal_pos e)
   rcases hv with hv|⟨z,e⟩
   ·have e1:=PySem.intText_neg (x:=OH (45::c::r)) (cs:=c::r) (aP _) h1 (by simp) hm;obtain⟨m,hm⟩:=Nat.exists_eq_add_of_lt hv;rw[Nat.zero_add]at hm;have e2:tx (-((PySem.NumText.digitsVal (c::r):Nat):Int))=45::c::r:=by
     rw[hm,lB,<- hm,Ag h1 hc]
    exact⟨_,e1,e2,fin _ e2⟩
   ·rw[z,e]at h2;exact absurd h2 (by simp[Wc])
 ·subst q;have e1:=PySem.intText_digits (x:=OH (c::r)) (by rw[show(OH (c::r)).cps.toList=c::r from aP _];exact h1) (by rw[show(OH (c::r)).cps.toList=c::r from aP _];simp) hm;rw[show(OH (c::r)).cps.toList=c::r from aP _]at e1;have e2:tx ((PySem.NumText.digitsVal (c::r):Nat):Int)=c::r:=by rw[gn,Ag h1 hc]
  exact⟨_,e1,e2,fin _ e2⟩
def wN(k:Nat)(l:yag):yaq:=if XG k l=true then PySem.intText? (OH l)else none
theorem mf{k:Nat}(hk:1<=k)(h9:k<=1000){n:Int}(h:n.natAbs<10 ^ k):wN k (tx n)=some n:=by
 have hi:XG k (tx n)=true:=by rw[qx hk];exact Tz h
 unfold wN;rw[LX hi];obtain⟨m,e,t,_⟩:=yl hk h9 hi;rw[e];have hd:=congrArg Wc t;rw[qr,qr]at hd;have ha:m.natAbs=n.natAbs:=by rw[<- PySem.W.KIN.val_back m.natAbs,<- PySem.W.KIN.val_back n.natAbs];exact congrArg PySem.NumText.digitsVal hd
 rcases gW m with⟨a,q,h1⟩| ⟨a,q,h1⟩<;>rcases gW n with⟨b,z,h2⟩| ⟨b,z,h2⟩
 ·rw[q,z];exact congrArg some (by omega)
 ·rw[q,z,gn,lB]at t;have:=kZ a;rw[t]at this;exact absurd this.head (by decide)
 ·rw[q,z,gn,lB]at t;have:=kZ b;rw[<- t]at this;exact absurd this.head (by decide)
 ·rw[q,z];exact congrArg some (by omega)
theorem sX{k:Nat}(hk:1<=k)(h9:k<=1000){l:yag}{n:Int}(h:wN k l=some n):XG k l=true/\tx n=l/\n.natAbs<10 ^ k:=by
 unfold wN at h;split at h
 ·rename_i q;obtain⟨m,e,t,b⟩:=yl hk h9 q;rw[e]at h;cases h;exact⟨q,t,b⟩
 ·cases h
theorem BF{k:Nat}{l:yag}(h:XG k l=false):wN k l=none:=by unfold wN;rw[h];rfl
theorem C5(x:Str)(u:yaq):Txt.slice x none u=Txt.slice x (some 0) u:=by unfold Txt.slice;rw[StrLaws.sliceIdx_none_lo]
theorem wI(x:Str)(l:yaq):Txt.slice x l none=Txt.slice x l (some (x.length:Int)):=by unfold Txt.slice;rw[StrLaws.sliceIdx_none_hi]
theorem wG(x:Str){a b:Nat}(hab:a<=b)(hb:b<=x.length):Txt.slice x (some (a:Int)) (some (b:Int))=OH (((sgn x).drop a).take (b - a)):=StrLaws.sliceText_nat x hab hb
theorem C4(x:Str){a b:Nat}(h:b<=a):Txt.slice x (some (a:Int)) (some (b:Int))=OH []:=by
 have e:Builtin.Str.strSliceIndices (some (a:Int)) (some (b:Int)) 1 x.length=[]:=by
  have h1:¬((a:Int)<0):=by omega
  have h2:¬((b:Int)<0):=by omega
  simp only[Builtin.Str.strSliceIndices,sliceRange,h1,h2,if_false,show((1:Int) > 0)=True from by simp,if_true];have h3:¬(max (0:Int) (min (a:Int) (x.length:Int))<max (0:Int) (min (b:Int) (x.length:Int))):=by omega
  simp[h3]
 unfold Txt.slice;rw[e];split
 ·rename_i z;have z:x.length=0:=by
   simp at z;exact z.symm
  apply bO;rw[aP];exact XX (by rw[bL];exact z)
 ·rfl
theorem FH{x:Str}{a r:yag}(h:sgn x=a++r):Txt.slice x none (some (a.length:Int))=OH a:=by have l:=congrArg List.length h;rw[bL,Q7]at l;rw[C5];refine(wG x (a:=0) (S9 _) (by omega)).trans ?_;rw[h];simp
theorem FI{x:Str}{a b:yag}{c:Nat}(h:sgn x=a++c::b):Txt.slice x (some ((a.length:Int)+1)) none=OH b:=by
 have l:=congrArg List.length h;rw[bL,Q7,Sd]at l;rw[wI];refine(wG x (a:=a.length+1) (by omega) (O2 _)).trans ?_;rw[h,Xi]
 ·simp
 ·simp;omega
structure TX(x:Str):Prop where
 l:x.length<=300
 a:∀c∈sgn x,c<128
theorem TX.sub{x:Str}{l:yag}(h:TX x)(h1:∀c∈l,c∈sgn x)(h2:l.length<=(sgn x).length):TX (OH l) :=
 ⟨by rw[eS];rw[bL]at h2;exact Sw h2 h.l,by rw[aP];exact fun c z=>h.a c (h1 c z)⟩
theorem jM{n:Int}{c:Nat}(h:c∈tx n):c=45∨(48<=c/\c<=57):=by
 rcases gW n with⟨m,e,_⟩| ⟨m,e,_⟩<;>rw[e]at h
 ·rw[gn]at h;exact .inr (kZ m c h)
 ·rw[lB]at h;rcases Rb.mp h with z|z
  ·exact .inl z
  ·exact .inr (kZ _ c z)
theorem D7(n:Int):58∉tx n:=fun h=>by have:=jM h;omega
theorem dW{n:Int}{k:Nat}(hk:1<=k)(h:n.natAbs<10 ^ k):(tx n).length<=k+1:=by
 rcases gW n with⟨m,e,q⟩| ⟨m,e,q⟩
 ·rw[e,gn,vC];rw[q]at h;exact Nat.le_succ_of_le (digits10_le hk h)
 ·rw[e,lB,Sd,vC];rw[q]at h;exact Nat.succ_le_succ (digits10_le hk h)
theorem Bu(n:Int):119∉tx n:=fun h=>by have:=jM h;omega
def Ri(c:Nat)(l:yag):yag×yag:=match bg c l with
 |none=>(l,[])
 |some p=>p
def col(l:yag):yaq:=match l.head? with
 |some 97=>some 0
 |some 98=>some 1
 |some 99=>some 2
 |_=>none
def w2(k:Nat)(l:yag):yaq:=match wN k l with
 |none=>none
 |some n=>if n<2 then none else some n
def We(q:yag):yag×Option (yag):=match bg 119 q with
 |none=>(q,none)
 |some p=>(p.1,some p.2)
def wtL:Option (yag)->yaq
 |none=>some 1
 |some v=>w2 9 v
abbrev Md:=Int×Int×Int×Int
def Wf(l:yag):Option Md:=match wN 12 (Ri 58 l.tail).1 with
 |none=>none
 |some x=>match wN 12 (We (Ri 58 l.tail).2).1 with
  |none=>none
  |some y=>match col l with
   |none=>none
   |some c=>match wtL (We (Ri 58 l.tail).2).2 with
    |none=>none
    |some w=>some (x,y,c,w)
theorem Ln{l p q:yag}{x c:Int}(h:bg 58 l.tail=some (p,q))(hx:wN 12 p=some x)(hc:col l=some c)(hw:bg 119 q=none):Wf l=match wN 12 q with
  |none=>none
  |some y=>some (x,y,c,1):=by
 unfold Wf Ri;rw[h,hc];show(match wN 12 p with|none=>none|some x=>match wN 12 (We q).1 with|none=>none|some y=>match wtL (We q).2 with|none=>none|some w=>some (x,y,c,w))=_;rw[hx];unfold We;rw[hw];rfl
theorem Lo{l p q u v:yag}{x c:Int}(h:bg 58 l.tail=some (p,q))(hx:wN 12 p=some x)(hc:col l=some c)(hw:bg 119 q=some (u,v)):Wf l=match wN 12 u with
  |none=>none
  |some y=>match w2 9 v with
   |none=>none
   |some w=>some (x,y,c,w):=by
 unfold Wf Ri;rw[h,hc];show(match wN 12 p with|none=>none|some x=>match wN 12 (We q).1 with|none=>none|some y=>match wtL (We q).2 with|none=>none|some w=>some (x,y,c,w))=_;rw[hx];unfold We;rw[hw];rfl
theorem HM(s a b:Str)(r:yah):Str.join s (a::b::r)=a++s++Str.join s (b::r):=rfl
theorem cH(c:Nat)(a b:Str)(r:yah):sgn (Str.join ⟨#[c]⟩ (a::b::r))=sgn a++c::sgn (Str.join ⟨#[c]⟩ (b::r)):=by rw[HM,br,br,List.append_assoc];rfl
theorem tT{c:Nat}:∀{A B:yah},A ≠ []->B ≠ []->(∀p∈A,c∉sgn p)->(∀p∈B,c∉sgn p)->Str.join ⟨#[c]⟩ A=Str.join ⟨#[c]⟩ B->A=B
 |[],_,h,_,_,_,_=>absurd rfl h
 |_,[],_,h,_,_,_=>absurd rfl h
 |[a],[b],_,_,_,_,e=>by rw[show a=b from e]
 |[a],b::b'::r,_,_,ha,_,e=>by have h1:=congrArg sgn e;rw[cH]at h1;have h2:=ha a Su;rw[show sgn (Str.join ⟨#[c]⟩ [a])=sgn a from rfl]at h1;rw[h1]at h2;exact absurd (by simp) h2
 |a::a'::r,[b],_,_,_,hb,e=>by have h1:=congrArg sgn e;rw[cH]at h1;have h2:=hb b Su;rw[show sgn (Str.join ⟨#[c]⟩ [b])=sgn b from rfl]at h1;rw[<- h1]at h2;exact absurd (by simp) h2
 |a::a'::r,b::b'::q,_,_,ha,hb,e=>by have h1:=congrArg sgn e;rw[cH,cH]at h1;have k1:=i7 (b:=sgn (Str.join ⟨#[c]⟩ (a'::r))) (ha a Su);rw[h1,i7 (hb b Su)]at k1;injection k1 with k1;injection k1 with k1 k2;have ih:=tT (A:=a'::r) (B:=b'::q) (by simp) (by simp) (fun p hp=>ha p (SD _ hp)) (fun p hp=>hb p (SD _ hp)) (bO k2.symm);rw[ih,bO k1]
theorem pZ(x y:Str):Txt.split x y ≠ []:=by
 unfold Txt.split;split
 ·simp
 ·split
  ·simp
  ·rw[StrLaws.partsBetween_eq];obtain⟨p,r,e⟩:=StrLaws.partsFrom_ne x y.length 0 (Builtin.Str.occurrences x y 0 x.length (x.length+1));rw[e];simp
theorem C6{c:Nat}{ws:yah}(h:ws ≠ [])(hf:∀p∈ws,c∉sgn p):Txt.split (Str.join ⟨#[c]⟩ ws) ⟨#[c]⟩=ws :=
 tT (pZ _ _) h (StrLaws.split_free _ c) hf (StrLaws.join_split _ _)
theorem vJ{c d:Nat}{p:Str}:∀{ws:yah},p∈ws->d∈sgn p->d∈sgn (Str.join ⟨#[c]⟩ ws)
 |[a],hp,hd=>by
  have:p=a:=by simpa using hp
  rw[<- this];exact hd
 |a::b::r,hp,hd=>by
  rw[cH];rcases Rb.mp hp with z|z
  ·rw[<- z];exact ZO _ hd
  ·exact Ss _ (SD _ (vJ z hd))
theorem yn{c d:Nat}:∀{ws:yah},d∈sgn (Str.join ⟨#[c]⟩ ws)->d=c∨∃ p∈ws,d∈sgn p
 |[],h=>by cases h
 |[a],h=>.inr ⟨a,Su,h⟩
 |a::b::r,h=>by
  rw[cH]at h;rcases Tf.mp h with z|z
  ·exact .inr ⟨a,Su,z⟩
  ·rcases Rb.mp z with z|z
   ·exact .inl z
   ·rcases yn (ws:=b::r) z with q|⟨p,hp,q⟩
    ·exact .inl q
    ·exact .inr ⟨p,SD _ hp,q⟩
theorem tS{c:Nat}{p:Str}:∀{ws:yah},p∈ws->(sgn p).length<=(sgn (Str.join ⟨#[c]⟩ ws)).length
 |[a],hp=>by
  have:p=a:=by simpa using hp
  rw[<- this];exact O2 _
 |a::b::r,hp=>by
  rw[cH,Q7,Sd];rcases Rb.mp hp with z|z
  ·rw[<- z];omega
  ·have:=tS (c:=c) (ws:=b::r) z;omega
theorem TX.word{x p:Str}{c:Nat}(T:TX x)(h:p∈Txt.split x ⟨#[c]⟩):TX p:=by
 have e:=StrLaws.join_split x ⟨#[c]⟩;have:=T.sub (l:=sgn p) (fun d hd=>by rw[<- e];exact vJ h hd) (by have:=tS (c:=c) h;rwa [e]at this)
 rwa [fK]at this
theorem tW(x:Str)(c:Nat):(Builtin.Str.partsBetween x (Builtin.Str.occurrences x ⟨#[c]⟩ 0 x.length (x.length+1)) (⟨#[c]⟩:Str).length).length<=x.length+2:=by
 have pf:∀(w:Nat) (XH:yag) (a:Nat),(StrLaws.partsFrom x w a XH).length=XH.length+1:=fun w XH=>by
  induction XH with
  |nil=>intro a;rfl
  |cons d r ih=>intro a;show(StrLaws.partsFrom x w (d+w) r).length+1=_;rw[ih];rfl
 rw[StrLaws.partsBetween_eq,pf];have:=StrLaws.occ_length_le x ⟨#[c]⟩ 0 x.length (x.length+1);omega
theorem SA(a:D):([a]:yas).length<=sizeLine:=by rw[TM];show 1<=16777216;decide
def vl(ds:yap):Nat:=ds.foldl (fun acc d=>acc*10+d) 0
theorem FK{p q:yap×Bool}{c:Nat}(h:PySem.NumText.step 10 p c=some q):vl q.1+1<=(vl p.1+1)*10:=by
 unfold PySem.NumText.step at h;split at h
 ·split at h
  ·cases h;show vl p.1+1<=_;omega
  ·cases h
 ·split at h
  ·rename_i d _;split at h
   ·rename_i hd;cases h;show vl (p.1.push d)+1<=_;have:vl (p.1.push d)=vl p.1*10+d:=by unfold vl;rw[Array.foldl_push]
    omega
   ·cases h
  ·cases h
theorem yi:∀(cs:yag) {p q:yap×Bool},cs.foldlM (PySem.NumText.step 10) p=some q->vl q.1+1<=(vl p.1+1)*10 ^ cs.length
 |[],p,q,h=>by have e:p=q:=UQ h;subst e;simp
 |c::cs,p,q,h=>by
  rw[List.foldlM_cons]at h;cases hs:PySem.NumText.step 10 p c with
  |none=>rw[hs]at h;exact absurd h (by simp)
  |some p' =>
   rw[hs]at h;have ih:=yi cs (p:=p') h;have:=Nat.mul_le_mul_right (10 ^ cs.length) (FK hs);rw[Sd,W4,Nat.mul_comm (10 ^ cs.length) 10,<- Nat.mul_assoc];exact Sw ih this
theorem HF{x:Str}{n:Int}(h:PySem.intText? x=some n):n.natAbs<10 ^ x.length:=by
 unfold PySem.intText? at h;split at h
 ·cases hd:PySem.NumText.digits? 10 (PySem.NumText.core (numSeenOf x))with
  |none=>rw[hd]at h;cases h
  |some ds =>
   rw[hd]at h;simp only at h;split at h
   ·have hv:vl ds+1<=10 ^ (PySem.NumText.core (numSeenOf x)).length:=by
     unfold PySem.NumText.digits? at hd;cases hf:(PySem.NumText.core (numSeenOf x)).foldlM (PySem.NumText.step 10) ((#[]:yap),false)with
     |none=>rw[hf]at hd;exact absurd hd (by simp)
     |some q =>
      rw[hf]at hd;have h2:(if q.2=true then some q.1 else none)=some ds:=hd;have:=yi _ hf;rw[show vl ((#[]:yap),false).1=0 from rfl,Nat.zero_add,Nat.one_mul]at this;split at h2
      ·cases h2;exact this
      ·cases h2
    have hl:10 ^ (PySem.NumText.core (numSeenOf x)).length<=10 ^ x.length:=ZP (by decide) (Sw (PySem.NumText.core_length _) (PySem.seen_length x));have hn:n.natAbs=vl ds:=by
     injection h with h;rw[<- h];unfold PySem.NumText.worth;split
     ·rw[Int.natAbs_neg];rfl
     ·rfl
    omega
   ·cases h
 ·cases h
theorem lg{n:Int}(h:Bd 1000 n):n.natAbs.log2<1920:=by
 unfold Bd at h;rcases Nat.eq_zero_or_pos n.natAbs with e|e
 ·rw[e];decide
 ·rw[Nat.log2_lt (by omega)];exact RX h (ZP (by decide) (by decide))
theorem Dr{t:Str}{n:Int}(h:TX t)(e:PySem.intText? t=some n):Bd 1000 n:=by
 have h1:=HF e;have h2:10 ^ t.length<=10 ^ 300:=ZP (by decide) h.l;have h3:10 ^ 300<=2 ^ 1000:=by decide
 unfold Bd;omega
theorem gZ(n:Int):(Str.ofString (toString n)).length=(tx n).length:=(bL _).symm
theorem qz{n:Int}(h:Bd 1000 n):(tx n).length<=303:=by
 refine dW (k:=302) (by decide) ?_;have h3:2 ^ 1000<=10 ^ 302:=by decide
 unfold Bd at h;omega
theorem bX{x:Str}(h:∀c∈sgn x,c<128):okD (.str x):=⟨by rw[Uu]<;>(intros;contradiction),by
 rw[Qm,SeqAt.shaped,PyData.canLay0,PyData.depth];rw[show PyData.strOk x=true from by unfold PyData.strOk;rw[Array.all_eq_true'];intro c hc;have:=h c (Array.mem_toList_iff.mpr hc);exact Tz (by omega)]
 rfl⟩
theorem wW(n:Int):∀c∈tx n,c<128:=fun c h=>by have:=jM h;omega
theorem J9 (x:Str):Ta "str" (.str x)=true:=rfl
theorem K2(t:Str)(P:Str->Prop):(∃x,D.str t=D.str x/\P x)=P t:=propext ⟨fun⟨x,e,h⟩=>by injection e with e;rw[e];exact h,fun h=>⟨t,rfl,h⟩⟩
theorem JW(t:Str)(P:Str->Prop):(∃x,[D.str t]=[D.str x]/\P x)=P t:=propext ⟨fun⟨x,e,h⟩=>by injection e with e;injection e with e;rw[e];exact h,fun h=>⟨t,rfl,h⟩⟩
theorem FT(x:Str):av (.str x)=.str x:=by rw[av]<;>(intros;contradiction)
theorem BE{k:Nat}{l:yag}{n:Int}(h:wN k l=some n):PySem.intText? (OH l)=some n:=by
 unfold wN at h;split at h
 ·exact h
 ·cases h
theorem KO:(Str.ofString "@")=⟨#[64]⟩:=by decide +kernel
theorem kU:(Str.ofString ":")=⟨#[58]⟩:=by decide +kernel
theorem au{n:Nat}(h:n<=16777216):n<=sizeLine:=by rw[TM];exact h
theorem bD(x y:Str):(x++y).length=x.length+y.length:=by rw[<- bL,br,Q7,bL,bL]
theorem rT(x:Str):Str.empty++x=x:=bO (by rw[br];rfl)
theorem bH(c:Nat):(⟨#[c]⟩:Str).length=1:=rfl
theorem HH (d:D):Ta "str" (av d)=Ta "str" d:=by
 cases d<;>first|rfl|(rw[av]<;>first|rfl|(intros;contradiction))
theorem TX.cut{s:Str}{c:Nat}{p:yag×yag}(T:TX s)(h:bg c (sgn s)=some p):TX (OH p.1)/\TX (OH p.2):=by
 have e:=(pq (a:=p.1) (b:=p.2) h).1;constructor
 ·exact T.sub (fun d hd=>by rw[e];exact ZO _ hd) (by rw[e,Q7];omega)
 ·exact T.sub (fun d hd=>by rw[e];exact Ss _ (SD _ hd)) (by rw[e,Q7,Sd];omega)
theorem TX.nil:TX (OH []):=⟨by rw[eS];decide,by rw[aP];simp⟩
theorem dU(a b c:D):([a,b,c]:yas).length<=sizeLine:=by rw[TM];show 3<=16777216;decide
theorem nJ{c:Nat}(h:c<128):∀d∈sgn (⟨#[c]⟩:Str),d<128:=fun d hd=>by
 have:d=c:=by simpa [sgn]using hd
 omega
theorem ma(a b:D):([a,b]:yas).length<=sizeLine:=by rw[TM];show 2<=16777216;decide
theorem c_w:(Str.ofString "w")=⟨#[119]⟩:=by decide +kernel
theorem ia:(Str.ofString " ")=⟨#[32]⟩:=by decide +kernel
theorem wV(t:Str):Txt.slice t (some 1) none=OH (sgn t).tail:=by
 cases q:sgn t with
 |nil =>
  have e:t.length=0:=by rw[<- bL,q];rfl
  rw[wI,e];exact C4 t (a:=1) (b:=0) (by decide)
 |cons c r =>
  have e:(some 1:yaq)=some ((([]:yag).length:Int)+1):=rfl;rw[e,FI (b:=r) (c:=c) (by rw[q];rfl)];rfl
theorem pB(t:Str):Txt.slice t none (some 1)=OH ((sgn t).take 1):=by
 cases q:sgn t with
 |nil =>
  have e:t.length=0:=by rw[<- bL,q];rfl
  have h1:Txt.slice t none (some 1)=t:=by unfold Txt.slice;rw[LX];rw[e];decide
  rw[h1];exact bO (by rw[q,aP];rfl)
 |cons c r =>
  rw[show(some 1:yaq)=some (([c]:yag).length:Int)from rfl,FH (r:=r) (by rw[q];rfl)];rfl
theorem zP(t:Str):(if(Txt.slice t none (some 1)).length=1 then col (sgn (Txt.slice t none (some 1)))else none)=col (sgn t):=by
 rw[pB,eS,aP];cases sgn t with
 |nil=>rfl
 |cons c r=>rfl
theorem lh(c:Nat)(s:Str):PD.iJ s ⟨#[c]⟩=.tup [.str (OH (Ri c (sgn s)).1),.str (if(bg c (sgn s)).isSome=true then⟨#[c]⟩else Str.empty),.str (OH (Ri c (sgn s)).2)]:=by
 unfold PD.iJ Ri;rw[AY];cases bg c (sgn s)with
 |none=>show D.tup [.str s,.str Str.empty,.str Str.empty]=_;rw[fK];rfl
 |some p=>rfl
theorem TX.sp{s:Str}(c:Nat)(T:TX s):TX (OH (Ri c (sgn s)).1)/\TX (OH (Ri c (sgn s)).2):=by
 unfold Ri;cases q:bg c (sgn s)with
 |none=>exact⟨by show TX (OH (sgn s));rw[fK];exact T,TX.nil⟩
 |some p=>exact T.cut q
theorem TX.tail{t:Str}(T:TX t):TX (OH (sgn t).tail):=T.sub (fun c hc=>List.mem_of_mem_tail hc) (by rw[List.length_tail];omega)
theorem TX.head{t:Str}(T:TX t):TX (OH ((sgn t).take 1)):=T.sub (fun c hc=>List.mem_of_mem_take hc) (by rw[Uq];omega)
theorem sW(a b c d:D):([a,b,c,d]:yas).length<=sizeLine:=by rw[TM];show 4<=16777216;decide
theorem Ji(q:yag):(We q).1=(Ri 119 q).1:=by unfold We Ri;cases bg 119 q<;>rfl
theorem x9:((Str.empty:Str)==(⟨#[119]⟩:Str))=false:=by decide
theorem qP:sgn (Str.ofString "abc")=[97,98,99]:=by decide +kernel
theorem xQ{c:Nat}{a b:yag}(h:bg c [97,98,99]=some (a,b)):col [c]=some (a.length:Int):=by
 by_cases e1:c=97
 ·subst e1;rw[show bg 97 [97,98,99]=some ([],[98,99])from by decide]at h;cases h;rfl
 ·by_cases e2:c=98
  ·subst e2;rw[show bg 98 [97,98,99]=some ([97],[99])from by decide]at h;cases h;rfl
  ·by_cases e3:c=99
   ·subst e3;rw[show bg 99 [97,98,99]=some ([97,98],[])from by decide]at h;cases h;rfl
   ·rw[rG (by simp;omega)]at h;cases h
theorem zQ{c:Nat}(h:bg c [97,98,99]=none):col [c]=none:=by
 have:=GB h;simp at this;unfold col;split
 ·rename_i z;simp at z;omega
 ·rename_i z;simp at z;omega
 ·rename_i z;simp at z;omega
 ·rfl
theorem AX{t:Str}(h:t.length=1):∃c,t=⟨#[c]⟩:=by
 have h1:(sgn t).length=1:=by rw[bL];exact h
 cases q:sgn t with
 |nil=>rw[q]at h1;cases h1
 |cons c r =>
  cases r with
  |nil=>exact⟨c,bO q⟩
  |cons d r=>rw[q]at h1;simp at h1
def ws(t:Str):yah:=Txt.split t ⟨#[32]⟩
structure TZ(t:Str):Prop where
 l:t.length<=5000
 a:∀c∈sgn t,c<128
 w:∀x∈ws t,TX x
theorem tk{α:Type}{xs:List α}{j:Nat}{x:α}(h:xs[j]?=some x):xs.take (j+1)=xs.take j++[x]:=by rw[Yp,h];rfl
theorem at0{α:Type}(a:α)(r:List α):Rp (a::r) 0=some a:=by unfold Rp ixN;rw[LX (by decide),LX (by rw[Sd];omega)];rfl
structure TJ(d:Md):Prop where
 x:d.1.natAbs<1000000000000
 y:d.2.1.natAbs<1000000000000
 c0:0<=d.2.2.1
 c3:d.2.2.1<3
 w1:1<=d.2.2.2
 w9:d.2.2.2<1000000000
def lt(c:Int):Nat:=97+c.toNat
def QN(d:Md):yag:=lt d.2.2.1::(tx d.1++58::(tx d.2.1++if d.2.2.2=1 then[]else 119::tx d.2.2.2))
theorem ZD:((10:Int) ^ (12:Int).toNat)=1000000000000:=by decide
theorem WQ:(10:Nat) ^ 12=1000000000000:=by decide
theorem n9:(10:Nat) ^ 9=1000000000:=by decide
theorem iG{n:Int}(h:n.natAbs<1000000000000):Bd 1000 n:=by
 have e:(1000000000000:Nat)<=2 ^ 60:=by decide
 exact Bd.mono (m:=60) (RX h e) (by decide)
theorem Gv{c:Int}(h0:0<=c)(h3:c<3)(r:yag):col (lt c::r)=some c:=by
 rcases(show c=0∨c=1∨c=2 by omega)with rfl|rfl|rfl<;>rfl
theorem Kr{d:Md}(h:TJ d):Wf (QN d)=some d:=by
 obtain⟨x,y,c,w⟩:=d;obtain⟨hx,hy,h0,h3,h1,h9⟩:=h;dsimp only at hx hy h0 h3 h1 h9;have hc:col (QN (x,y,c,w))=some c:=Gv h0 h3 _;have w1:wN 12 (tx x)=some x:=mf (by decide) (by decide) (by rw[WQ];exact hx);have w2:wN 12 (tx y)=some y:=mf (by decide) (by decide) (by rw[WQ];exact hy);by_cases e:w=1
 ·subst e;have h8:bg 58 (QN (x,y,c,1)).tail=some (tx x,tx y):=by
   show bg 58 (tx x++58::(tx y++[]))=_;rw[V0];exact i7 (D7 x)
  rw[Ln h8 w1 hc (rG (Bu y)),w2]
 ·have h8:bg 58 (QN (x,y,c,w)).tail=some (tx x,tx y++119::tx w):=by
   show bg 58 (tx x++58::(tx y++if w=1 then[]else 119::tx w))=_;rw[LO e];exact i7 (D7 x)
  have w3:LW.w2 9 (tx w)=some w:=by unfold LW.w2;rw[mf (by decide) (by decide) (by rw[n9];omega)];dsimp only;rw[LO (by omega)]
  rw[Lo h8 w1 hc (i7 (Bu y)),w2,w3]
theorem nY{d:Md}(h:TJ d):(QN d).length<=40:=by
 obtain⟨hx,hy,h0,h3,h1,h9⟩:=h;have a:=dW (n:=d.1) (k:=12) (by decide) (by rw[WQ];exact hx);have b:=dW (n:=d.2.1) (k:=12) (by decide) (by rw[WQ];exact hy);have c:=dW (n:=d.2.2.2) (k:=9) (by decide) (by rw[n9];omega);unfold QN;rw[Sd,Q7,Sd,Q7];split
 ·rw[List.length_nil];omega
 ·rw[Sd];omega
theorem yx{d:Md}{c:Nat}(h0:0<=d.2.2.1)(h3:d.2.2.1<3)(h:c∈QN d):32<c/\c<128:=by
 unfold QN lt at h;rcases Rb.mp h with z|z
 ·omega
 rcases Tf.mp z with z|z
 ·have:=jM z;omega
 rcases Rb.mp z with z|z
 ·omega
 rcases Tf.mp z with z|z
 ·have:=jM z;omega
 split at z
 ·cases z
 ·rcases Rb.mp z with z|z
  ·omega
  ·have:=jM z;omega
theorem Jk(d:Md)(h:d.2.2.2=1):(⟨#[lt d.2.2.1]⟩:Str)++Str.ofString (toString d.1)++⟨#[58]⟩++Str.ofString (toString d.2.1)=OH (QN d):=bO (by rw[br,br,br,aP];unfold QN tx;rw[LX h];simp[sgn])
theorem Jl(d:Md)(h:¬d.2.2.2=1):(⟨#[lt d.2.2.1]⟩:Str)++Str.ofString (toString d.1)++⟨#[58]⟩++Str.ofString (toString d.2.1)++⟨#[119]⟩++Str.ofString (toString d.2.2.2)=OH (QN d):=bO (by rw[br,br,br,br,br,aP];unfold QN tx;rw[LO h];simp[sgn])
theorem zF {c:Int} (h0:0<=c) (h3:c<3):Rp (Str.ofString "abc").cps.toList c=some (lt c):=by
 show Rp (sgn (Str.ofString "abc")) c=some (lt c);rw[qP];rcases(show c=0∨c=1∨c=2 by omega)with rfl|rfl|rfl<;>decide
def jn(ds:List Md):Str:=Str.join ⟨#[32]⟩ (ds.map fun d=>OH (QN d))
theorem Ki{d:Md}(h:TJ d):32∉sgn (OH (QN d)):=fun z=>by rw[aP]at z;have:=yx h.c0 h.c3 z;omega
theorem yL{d:Md}(h:TJ d):TX (OH (QN d)):=⟨by rw[eS];have:=nY h;omega,fun c hc=>by rw[aP]at hc;exact(yx h.c0 h.c3 hc).2⟩
theorem AH{ds:List Md}(h:∀d∈ds,TJ d):∀c∈sgn (jn ds),c<128:=fun c hc=>by
 rcases yn hc with z|⟨p,hp,z⟩
 ·omega
 ·obtain⟨d,hd,rfl⟩:=TB.mp hp;exact(yL (h d hd)).a c z
theorem vK(x:Str)(ys:yah):Txt.join x ys=Str.join x ys:=StrLaws.glued_eq_join x ys
theorem fm{a b:Int}(hb:0<b):0<=a.fmod b/\a.fmod b<b:=⟨Int.fmod_nonneg_of_pos a hb,Int.fmod_lt_of_pos a hb⟩
def N8(d:Md):D:=.tup [.int d.1,.int d.2.1,.int d.2.2.1,.int d.2.2.2]
theorem ua:∀ds:List Md,ay (ds.map N8)=ds.map N8
 |[]=>by rw[Wk,ay]
 |d::r=>by rw[Sv,ay,ua r];rfl
theorem xZ{a b:Md}(h:N8 a=N8 b):a=b:=by unfold N8 at h;simp only[D.tup.injEq,zBs,D.int.injEq,and_true]at h;exact Prod.ext h.1 (Prod.ext h.2.1 (Prod.ext h.2.2.1 h.2.2.2))
structure WO(w:Str):Prop where
 l:w.length<=40
 n:32∉sgn w
 a:∀c∈sgn w,c<128
def jw(W:yah):Str:=Str.join ⟨#[32]⟩ W
theorem AI:∀{W:yah},(∀w∈W,WO w)->(jw W).length<=41*W.length
 |[],_=>by decide
 |[d],h=>by have:=(h d Su).l;show d.length<=41*1;omega
 |d::e::r,h=>by
  have:=(h d Su).l;have ih:=AI (W:=e::r) fun x hx=>h x (SD _ hx)
  have q:=congrArg List.length (cH 32 d e r);rw[bL,Q7,Sd,bL,bL]at q;unfold jw at ih ⊢;rw[q];simp only[Sd]at ih ⊢;omega
theorem Dp{d:Md}(h:TJ d):WO (OH (QN d)):=⟨by rw[eS];exact nY h,Ki h,(yL h).a⟩
theorem GA{α:Type}(f:α->D)(xs:List α)(k:Nat):PD.cutD (xs.map f) none (some (k:Int))=(xs.take k).map f:=by
 unfold PD.cutD;rw[HT.yw,HT.pL,List.drop_zero,Nat.sub_zero,<- List.map_take,Ph];congr 1;rcases Nat.le_total k xs.length with z|z
 ·rw[ZX z]
 ·rw[Nat.min_eq_right z,Xi z,Zr]
theorem C3(c:Nat):sgn (⟨#[c]⟩:Str)=[c]:=rfl
theorem wd1(d:Md)(h:d.2.2.2=1):(⟨#[lt d.2.2.1]⟩:Str)++OH (tx d.1++58::tx d.2.1)=OH (QN d):=bO (by rw[br,aP,aP,C3];unfold QN;rw[LX h];simp)
theorem wd2(d:Md)(h:¬d.2.2.2=1):Str.empty++((⟨#[lt d.2.2.1]⟩:Str)++OH (tx d.1++58::tx d.2.1))++⟨#[119]⟩++Str.ofString (toString d.2.2.2)=OH (QN d):=bO (by rw[br,br,br,br,aP,aP,C3,C3];unfold QN;rw[LO h];show[]++_++_++tx d.2.2.2=_;simp)
theorem AJ:∀{W:yah},(∀w∈W,WO w)->(W.map (·.length)).sum<=40*W.length
 |[],_=>S9 _
 |w::r,h=>by
  have a:=(h w Su).l;have b:=AJ (W:=r) fun x hx=>h x (SD _ hx)
  rw[Sv,List.sum_cons,Sd];omega
theorem vI{ds:List Md}(h:∀d∈ds,TJ d):((ds.map fun d=>OH (QN d)).map (·.length)).sum<=40*(ds.map fun d=>OH (QN d)).length:=AJ fun w hw=>by obtain⟨d,hd,rfl⟩:=TB.mp hw;exact Dp (h d hd)
theorem vO:∀ds:List Md,eX (ds.map N8)=true
 |[]=>by rw[Wk,eX]
 |d::r=>by rw[Sv,eX,vO r];rfl
theorem FJ(x y:Int):Str.ofString (toString x)++(⟨#[58]⟩:Str)++Str.ofString (toString y)=OH (tx x++58::tx y):=bO (by rw[br,br,aP];show tx x++[58]++tx y=_;simp)
theorem Du{α:Type}(f:α->D)(ds:List α){n:Int}(h:0<=n):PD.cutD (ds.map f) none (some n)=(ds.take n.toNat).map f:=by
 have:=GA f ds n.toNat
 rwa [Int.toNat_of_nonneg h]at this
theorem yO{α:Type}(f:α->D)(ds:List α){n:Int}(h:0<=n):PD.cutD (ds.map f) (some (n+1)) none=(ds.drop (n.toNat+1)).map f:=by
 obtain⟨k,rfl⟩:=Int.eq_ofNat_of_zero_le h;unfold PD.cutD;rw[show((k:Int)+1)=((k+1:Nat):Int)from rfl,HT.yw,HT.pL,Ph,<- List.map_drop,<- List.map_take];congr 1;rw[Xi (by rw[WZ];omega)];show _=ds.drop (k+1);rcases Nat.le_total (k+1) ds.length with z|z
 ·rw[ZX z]
 ·rw[Nat.min_eq_right z,List.drop_of_length_le z,List.drop_of_length_le (O2 _)]
inductive aA where
 |put (g:Md)|cut (n:Int)|map (m:yaf)|clear|back
def tI(n:Int):Str:=Str.ofString (toString n)
def aA.words:aA->yah
 |.put g=>["put", OH (QN g)]
 |.cut n=>["cut", tI n]
 |.map m => "map" :: m.map tI
 |.clear=>["clear"]
 |.back=>["back"]
def aA.given:aA->yas
 |.put g=>[N8 g]
 |.cut n=>[.int n]
 |.map m=>m.map D.int
 |_=>[]
def aA.ok:aA->Prop
 |.put g=>TJ g
 |.cut n=>n.natAbs<100
 |.map m=>m.length=6/\∀x∈m,x.natAbs<10 ^ 12
 |_=>True
def aA.row(δ:aA):Str:=Str.join ⟨#[32]⟩ δ.words
def Ts(m:yaf)(d:Md):Md:=(m.getD 0 0*d.1+m.getD 1 0*d.2.1+m.getD 4 0,m.getD 2 0*d.1+m.getD 3 0*d.2.1+m.getD 5 0,d.2.2.1,d.2.2.2)
def cL(d:Md):Bool:=decide (10 ^ 12<=d.1.natAbs) || decide (10 ^ 12<=d.2.1.natAbs)
def aA.code(ds:List Md)(ps:List (List Md)):aA->Int
 |.put _=>if 30<=ds.length then 1 else 0
 |.cut n=>if n<0∨(ds.length:Int)<=n then 2 else 0
 |.map m=>if m.getD 0 0*m.getD 3 0=m.getD 1 0*m.getD 2 0 then 3 else if(ds.map (Ts m)).any cL=true then 1 else 0
 |.clear=>0
 |.back=>if ps=[]then 4 else -1
def aA.res(ds:List Md)(ps:List (List Md)):aA->List Md
 |.put g=>if 30<=ds.length then ds else ds++[g]
 |.cut n=>if n<0∨(ds.length:Int)<=n then ds else ds.take n.toNat++ds.drop (n.toNat+1)
 |.map m=>if m.getD 0 0*m.getD 3 0=m.getD 1 0*m.getD 2 0 then ds else if(ds.map (Ts m)).any cL=true then ds else ds.map (Ts m)
 |.clear=>[]
 |.back=>ps.getLastD ds
structure fq(ds:List Md)(ps:List (List Md)):Prop where
 l:ds.length<=30
 d:∀d∈ds,TJ d
 n:ps.length<=20
 p:∀q∈ps,q.length<=30/\∀d∈q,TJ d
theorem Jt{xs:yaf}(k:Nat)(h:k<xs.length):Rp (xs.map D.int) (k:Int)=some (.int (xs.getD k 0)):=cT (by rw[Td,Yj h,zBr,Yj h];rfl)
theorem J0{xs:yaf}(h:∀x∈xs,0<=x/\x<2147483647)(k:Nat):0<=xs.getD k 0/\xs.getD k 0<2147483647:=by
 rw[zBr];cases e:xs[k]? with
 |none=>exact⟨by decide,by decide⟩
 |some x=>exact h x (Xj e)
theorem Br{n:Int}{k:Nat}(h1:1<=k)(h:n.natAbs<10 ^ k):(tI n).length<=k+1:=by have:=dW (n:=n) (k:=k) h1 h;rw[<- gZ]at this;exact this
theorem join_1(s a:Str):Str.join s [a]=a:=rfl
theorem yv{a a' w:Str}{r:yah}(h:sgn a'=sgn a++[32]):a'++Str.join ⟨#[32]⟩ (w::r)=Str.join ⟨#[32]⟩ (a::w::r):=bO (by rw[br,cH,h,List.append_assoc];rfl)
theorem Fz (g:Md):Str.ofString "put " ++ OH (QN g)=(aA.put g).row:=by
 have:=yv (a := "put") (a':=Str.ofString "put ") (w:=OH (QN g)) (r:=[]) (by decide +kernel)
 rwa [join_1]at this
theorem Fy (n:Int):Str.ofString "cut " ++ Str.ofString (toString n)=(aA.cut n).row:=by
 have:=yv (a := "cut") (a':=Str.ofString "cut ") (w:=tI n) (r:=[]) (by decide +kernel)
 rwa [join_1]at this
abbrev mY(ps:List (List Md)):yas:=ps.map fun q=>D.lst false (q.map N8)
theorem oV:∀ps:List (List Md),ay (ps.map fun q=>D.lst false (q.map N8))=ps.map fun q=>D.lst false (q.map N8)
 |[]=>by rw[Wk,ay]
 |q::r=>by rw[Sv,ay,oV r,av,ua]
theorem Dm{z:Int}(h:z.natAbs<10 ^ 12):WO (tI z):=⟨Sw (Br (k:=12) (by decide) h) (by decide),fun m=>by have:=jM (n:=z) m;omega,wW z⟩
theorem Js{m:yaf}(h:∀x∈m,x.natAbs<10 ^ 12):∀w∈m.map tI,WO w:=fun w hw=>by obtain⟨z,hz,rfl⟩:=TB.mp hw;exact Dm (h z hz)
theorem AS(z:Bool):Wb 1 (.bl z):=⟨by rw[Uu]<;>(intros;contradiction),by rw[Qm];rfl,by rw[Qm,PyData.depth];decide⟩
theorem map_inj{α:Type}{f:α->D}(hf:∀{p q},f p=f q->p=q):∀{ps qs:List α},ps.map f=qs.map f->ps=qs
 |[],[],_=>rfl
 |[],_::_,h=>by simp at h
 |_::_,[],h=>by simp at h
 |p::ps,q::qs,h=>by simp only[Sv,zBs]at h;rw[hf h.1,map_inj hf h.2]
theorem Ex{ps qs:List Md}(h:ps.map N8=qs.map N8):ps=qs:=map_inj xZ h
theorem nE(p:Md):av (N8 p)=N8 p:=rfl
theorem bY(ps:List Md):ay (ps.map N8)=ps.map N8:=cI N8 nE ps
abbrev M6:=Int×Int×Int×Int×Int×Int
def VY(m:M6):D:=.tup [.int m.1,.int m.2.1,.int m.2.2.1,.int m.2.2.2.1,.int m.2.2.2.2.1,.int m.2.2.2.2.2]
theorem Ig{p q:M6}(h:VY p=VY q):p=q:=by unfold VY at h;simp only[D.tup.injEq,zBs,D.int.injEq,and_true]at h;obtain⟨h1,h2,h3,h4,h5,h6⟩:=h;exact Prod.ext h1 (Prod.ext h2 (Prod.ext h3 (Prod.ext h4 (Prod.ext h5 h6))))
theorem Df(m:M6):av (VY m)=VY m:=rfl
def Zf:D->Bool
 |.int _=>true
 |_=>false
def isB:D->Bool
 |.bl _=>true
 |_=>false
theorem J6 (d:D):Ta "int" d=(Zf d || isB d):=by unfold Ta;cases d<;>simp only[U7,Zf,isB]<;>decide
theorem J5 (d:D):Ta "bool" d=isB d:=by unfold Ta;cases d<;>simp only[U7,Zf,isB]<;>decide
def within(d:D)(l m:Int):Bool:=match d with
 |.int i=>decide (l<=i) && decide (i<=m)
 |_=>false
abbrev Vo(d:D):Bool:=within d (-999999999999) 999999999999
theorem nM{d:D}(h:Vo d=true):∃i:Int,d=.int i/\Bd 41 i:=by
 unfold Vo within at h;split at h
 ·rename_i i;simp only[S7,decide_eq_true_eq]at h;exact⟨i,rfl,by unfold Bd;omega⟩
 ·cases h
def nI(ys:yas)(k:Nat):Int:=match ys[k]? with
 |some (.int i)=>i
 |_=>0
def eI(d:D):Bool:=match d with
 |.tup ys=>decide (ys.length=6) && (ys.all Vo && decide (nI ys 0*nI ys 3≠nI ys 1*nI ys 2))
 |_=>false
theorem ub:∀ds:yas,ay ds=ds.map av
 |[]=>by rw[ay];rfl
 |d::r=>by rw[ay,ub r];rfl
theorem EK(d:D):Zf (av d)=Zf d:=by cases d<;>(rw[av]<;>rfl)
theorem mh(d:D)(l m:Int):within (av d) l m=within d l m:=by cases d<;>(rw[av]<;>rfl)
theorem Ij(ys:yas)(k:Nat):nI (ys.map av) k=nI ys k:=by
 unfold nI;rw[Td];cases ys[k]? with
 |none=>rfl
 |some d=>cases d<;>(simp only[Option.map_some];rw[av]<;>rfl)
theorem vL(d:D):eI (av d)=eI d:=by
 cases d with
 |tup ys =>
  rw[av,ub];unfold eI;simp only[Ph,List.all_map,Ij,Function.comp_def,Vo,mh]
 |_=>rw[av]<;>rfl
theorem six{ys:yas}(h:ys.length=6):∃a b c d e f:D,ys=[a,b,c,d,e,f]:=by
 match ys,h with
 |[a,b,c,d,e,f],_=>exact⟨a,b,c,d,e,f,rfl⟩
structure MB(m:M6):Prop where
 a:Bd 41 m.1
 b:Bd 41 m.2.1
 c:Bd 41 m.2.2.1
 d:Bd 41 m.2.2.2.1
 e:Bd 41 m.2.2.2.2.1
 f:Bd 41 m.2.2.2.2.2
 n:m.1*m.2.2.2.1≠m.2.1*m.2.2.1
def inR(i:Int):Bool:=decide (-999999999999<=i) && decide (i<=999999999999)
theorem Jz(i:Int):Vo (.int i)=inR i:=rfl
theorem ix6{a b c d e f:D}{k:Int}{i:Nat}(h:ixN 6 k=some i)(R:Nat->Prop):(∃j,ixN ([a,b,c,d,e,f]:yas).length k=some j/\R j)=R i:=by
 apply propext;constructor
 ·rintro⟨j,e,q⟩;have e':ixN 6 k=some j:=e;rw[h]at e';cases e';exact q
 ·intro q;exact⟨i,h,q⟩
theorem Ka(a b c d e f:D)(R:Nat->Prop):(∃j,ixN ([a,b,c,d,e,f]:yas).length 0=some j/\R j)=R 0:=ix6 rfl R
theorem Kb(a b c d e f:D)(R:Nat->Prop):(∃j,ixN ([a,b,c,d,e,f]:yas).length 1=some j/\R j)=R 1:=ix6 rfl R
theorem Kc(a b c d e f:D)(R:Nat->Prop):(∃j,ixN ([a,b,c,d,e,f]:yas).length 2=some j/\R j)=R 2:=ix6 rfl R
theorem Kd(a b c d e f:D)(R:Nat->Prop):(∃j,ixN ([a,b,c,d,e,f]:yas).length 3=some j/\R j)=R 3:=ix6 rfl R
theorem EC(t:Bool)(ys:yas)(R:yas->Prop):(∃d k xs,[D.lst t ys]=[d]/\cC d=some (k,xs)/\R xs)=R ys:=by
 apply propext;constructor
 ·rintro⟨d,k,xs,e,h,q⟩;cases e;cases h;exact q
 ·intro q;exact⟨_,_,_,rfl,rfl,q⟩
def sx(m:M6)(x y:Int):Int:=m.1*x+m.2.1*y+m.2.2.2.2.1
def sy(m:M6)(x y:Int):Int:=m.2.2.1*x+m.2.2.2.1*y+m.2.2.2.2.2
def zu(m:M6)(p:Md):Md:=(sx m p.1 p.2.1,sy m p.1 p.2.1,p.2.2.1,p.2.2.2)
def iI(m:M6)(p:Md):Bool:=inR (sx m p.1 p.2.1) && inR (sy m p.1 p.2.1)
def Tc (u t:Str):Option D:=if u = "dot" then(Wf (sgn t)).map N8 else if u = "number" then(wN 2 (sgn t)).map D.int else if u = "entry" then(wN 12 (sgn t)).map D.int else none
theorem yj(i:Int):inR i=!decide (10 ^ 12<=i.natAbs):=by
 unfold inR;by_cases h:10 ^ 12<=i.natAbs
 ·rw[Tz h];by_cases h2:-999999999999<=i
  ·rw[Tz h2,TL (by omega)];rfl
  ·rw[TL h2];rfl
 ·rw[TL h,Tz (by omega),Tz (by omega)];rfl
theorem CA(a b c d e f:Int)(p:Md):iI (a,b,c,d,e,f) p=!cL (Ts [a,b,c,d,e,f] p):=by unfold iI cL;rw[yj,yj,Bool.not_or];rfl
theorem BO(a b c d e f:Int)(ds:List Md):ds.all (iI (a,b,c,d,e,f))=!(ds.map (Ts [a,b,c,d,e,f])).any cL:=by rw[List.any_map,List.not_any_eq_all_not];congr 1;exact funext fun p=>CA a b c d e f p
theorem Cw{a b c d e f:Int}(h:∀z ∈ [a,b,c,d,e,f],z.natAbs<10 ^ 12):eI (.tup [.int a,.int b,.int c,.int d,.int e,.int f])=!decide (a*d=b*c):=by
 have ca:∀z ∈ [a,b,c,d,e,f],Vo (.int z)=true:=fun z hz=>by have:=h z hz;show(decide (-999999999999<=z) && decide (z<=999999999999))=true;rw[Tz (by omega),Tz (by omega)];rfl
 unfold eI;dsimp only;rw[show([D.int a,.int b,.int c,.int d,.int e,.int f]:yas).all Vo=true from by rw[Up];intro x hx;obtain⟨z,hz,rfl⟩:=TB.mp (show x ∈ [a,b,c,d,e,f].map D.int from hx);exact ca z hz]
 simp[nI]
def eR:List (Str×yah):=[("put", ["dot"]),("cut", ["number"]),("map", ["entry", "entry", "entry", "entry", "entry", "entry"]),("clear", []),("back", []),("dots", [])]
def nG (K:yac) (w:World) (mg:yam):Prop:=∃a es,mg "FORMS" = some (.ref a)/\PD.cX K w a es/\∀f fs,(f,fs)∈eR->PD.uG K es f fs
structure uH(ws:yah):Prop where
 ne:ws ≠ []
 l:ws.length<=7
 w:∀x∈ws,WO x
def aA.nm:aA->Str
 |.put _ => "put" | .cut _ => "cut" | .map _ => "map" | .clear => "clear" | .back => "back"
def aA.ws:aA->yah
 |.put g=>[OH (QN g)]|.cut n=>[tI n]|.map m=>m.map tI|.clear=>[]|.back=>[]
def aA.fs:aA->yah
 |.put _=>["dot"]|.cut _=>["number"]|.map _=>["entry", "entry", "entry", "entry", "entry", "entry"]|_=>[]
theorem aA.WR(δ:aA):δ.words=δ.nm::δ.ws:=by cases δ<;>rfl
def aA.Ud(ds:List Md)(ps:List (List Md))(δ:aA):List (List Md) :=
 if δ.code ds ps=0 then(ps++[ds]).drop ((ps.length+1) - 20)else if δ.code ds ps<0 then ps.dropLast else ps
structure va(f:Str)(fs vs:yah)(gs:yas):Prop where
 i:(f,fs)∈eR
 l:vs.length=fs.length
 r:uH (f::vs)
 t:∀z∈fs.zip vs,TX z.2/\∃d,Tc z.1 z.2=some d
 g:(fs.zip vs).map (fun z=>(Tc z.1 z.2).getD .Nx)=gs
theorem WO.tx{w:Str}(h:WO w):TX w:=⟨by have:=h.l;omega,h.a⟩
theorem zE{w:Str}(h:(decide (w.length<=40) && !(sgn w).contains 32 && (sgn w).all (·<128))=true):WO w:=by simp only[S7,decide_eq_true_eq,Bool.not_eq_true',Up]at h;exact⟨h.1.1,fun m=>(by have:=h.1.2;rw[List.contains_eq_mem,Tz m]at this;cases this),h.2⟩
theorem IY {g:Md} (h:TJ g):Tc "dot" (OH (QN g))=some (N8 g):=by unfold Tc;rw[LX rfl,aP,Kr h];rfl
theorem IZ {n:Int} (h:n.natAbs<100):Tc "number" (tI n)=some (.int n):=by unfold Tc;rw[LO (by decide +kernel),LX rfl,show sgn (tI n)=tx n from rfl,mf (by decide) (by decide) h];rfl
theorem jm {n:Int} (h:n.natAbs<10 ^ 12):Tc "entry" (tI n)=some (.int n):=by unfold Tc;rw[LO (by decide +kernel),LO (by decide +kernel),LX rfl,show sgn (tI n)=tx n from rfl,mf (by decide) (by decide) h];rfl
theorem aA.WS{δ:aA}(h:δ.ok):va δ.nm δ.fs δ.ws δ.given:=by
 have z:∀{f:Str},f∈(["put", "cut", "map", "clear", "back"]:yah)->WO f:=fun {f} m=>by
  simp only[Rb,VZ,or_false]at m;rcases m with rfl|rfl|rfl|rfl|rfl<;>exact zE (by decide +kernel)
 have one:∀{f w:Str},f∈(["put", "cut", "map", "clear", "back"]:yah)->WO w->uH [f,w]:=fun {f w} m hw=>⟨by simp,by show 2<=7;decide,fun x hx=>by
  simp only[Rb,VZ,or_false]at hx;rcases hx with rfl|rfl
  ·exact z m
  ·exact hw⟩
 have nul:∀{f:Str},f∈(["put", "cut", "map", "clear", "back"]:yah)->uH [f]:=fun {f} m=>⟨by simp,by show 1<=7;decide,fun x hx=>by rw[Wg]at hx;rw[hx];exact z m⟩
 match δ,h with
 |.put g,h =>
  have e:=IY h;exact⟨by unfold eR;exact .head _,rfl,one (.head _) (Dp h),fun z hz=>by have XC:z ∈ [(("dot" : Str),OH (QN g))]:=hz;rw[Wg]at XC;subst XC;exact⟨yL h,_,e⟩,by show[(Tc "dot" (OH (QN g))).getD .Nx]=_;rw[e];rfl⟩
 |.cut n,h =>
  have e:=IZ h;have hw:WO (tI n):=Dm (Nat.lt_trans h (by decide));exact⟨by unfold eR;exact .tail _ (.head _),rfl,one (.tail _ (.head _)) hw,fun z hz=>by have XC:z ∈ [(("number" : Str),tI n)]:=hz;rw[Wg]at XC;subst XC;exact⟨hw.tx,_,e⟩,by show[(Tc "number" (tI n)).getD .Nx]=_;rw[e];rfl⟩
 |.map [a,b,c,d,e,f],h =>
  have W:=Js h.2;refine⟨by unfold eR;exact .tail _ (.tail _ (.head _)),rfl,⟨by simp,by show 7<=7;decide,fun x hx=>?_⟩,fun y hy=>?_,?_⟩
  ·rcases Rb.mp hx with q|q
   ·rw[q];exact z (.tail _ (.tail _ (.head _)))
   ·exact W x q
  ·have Yx:y∈([a,b,c,d,e,f].map fun n=>(("entry" : Str),tI n)):=hy;obtain⟨n,hn,rfl⟩:=TB.mp Yx;exact⟨(W _ (TB.mpr ⟨n,hn,rfl⟩)).tx,_,jm (h.2 n hn)⟩
  ·show[(Tc "entry" (tI a)).getD .Nx,(Tc "entry" (tI b)).getD .Nx,(Tc "entry" (tI c)).getD .Nx,(Tc "entry" (tI d)).getD .Nx,(Tc "entry" (tI e)).getD .Nx,(Tc "entry" (tI f)).getD .Nx]=_;rw[jm (h.2 a (by simp)),jm (h.2 b (by simp)),jm (h.2 c (by simp)),jm (h.2 d (by simp)),jm (h.2 e (by simp)),jm (h.2 f (by simp))];rfl
 |.clear,_=>exact⟨by unfold eR;exact .tail _ (.tail _ (.tail _ (.head _))),rfl,nul (.tail _ (.tail _ (.tail _ (.head _)))),(fun z hz=>(by cases hz)),rfl⟩
 |.back,_=>exact⟨by unfold eR;exact .tail _ (.tail _ (.tail _ (.tail _ (.head _)))),rfl,nul (.tail _ (.tail _ (.tail _ (.tail _ (.head _))))),(fun z hz=>(by cases hz)),rfl⟩
theorem Aj:va "dots" [] [] []:=⟨by unfold eR;exact .tail _ (.tail _ (.tail _ (.tail _ (.tail _ (.head _))))),rfl,⟨by simp,by show 1<=7;decide,fun x hx=>by rw[Wg]at hx;rw[hx];exact zE (by decide +kernel)⟩,(fun z hz=>(by cases hz)),rfl⟩
theorem aA.WT(δ:aA):δ.row=Str.join ⟨#[32]⟩ (δ.nm::δ.ws):=by unfold aA.row;rw[δ.WR]
theorem tQ{fs vs:yah}{gs:yas}{te:DE}{zi:DA}{ρ:Ro}{Q:D->Prop}(ht:∀z∈fs.zip vs,TX z.2/\∃d,Tc z.1 z.2=some d)(hg:(fs.zip vs).map (fun z=>(Tc z.1 z.2).getD .Nx)=gs)(hl:fs.length<=7)
  (hz:∀R:yas->Prop,R (List.zipWith (fun x y=>D.tup [x,y]) (fs.map D.str) (vs.map D.str))->zi ρ R) (he:∀z∈fs.zip vs,∀R:D->Prop,R ((Tc z.1 z.2).getD .Nx)->te (gS [.str z.1,.str z.2]++[].map (aU ρ)) R) (q:Q (.lst true gs)) :
  i8 2 zi [] mG te ρ Q:=by
 refine PD.zT (fs.zip vs) (fun z=>[.str z.1,.str z.2]) (fun _=>true) (fun z=>(Tc z.1 z.2).getD .Nx) (fun R r=>hz R ?_) (au ?_) (fun _=>rfl) (fun z _ R r=>r) (fun z XC _ R r=>he z XC R r) ?_
 ·have e:List.zipWith (fun x y=>D.tup [x,y]) (fs.map D.str) (vs.map D.str)=(fs.zip vs).map fun z=>D.tup [.str z.1,.str z.2]:=by
   rw[List.zip,List.map_zipWith,List.zipWith_map]
  rw[e];exact r
 ·rw[List.length_zip];omega
 ·rw[Zo.mpr fun _ _=>rfl,hg];exact q
def j8:Int->yaf->Int
 |d,[]=>d
 |d,x::xs=>j8 ((Int.gcd d x:Nat):Int) xs
def y0(xs:yaf):yaf:=xs.map fun x=>x.fdiv (j8 0 xs)
theorem tP(x:Int):∀(d:Int) (xs:yaf),j8 d (xs++[x])=((Int.gcd (j8 d xs) x:Nat):Int)
 |d,[]=>rfl
 |d,y::ys=>tP x _ ys
def byL(l:yag):Option (Int×yag):=match bg 64 l with
 |none=>some (1,l)
 |some p=>match wN 40 p.1 with
  |none=>none
  |some b=>if b<2 then none else some (b,p.2)
def xyL(b:Int)(q:yag×yag):Option (Int×Int×Int):=match wN 40 q.1 with
 |none=>none
 |some x=>match wN 40 q.2 with
  |none=>none
  |some y=>if PM.g3 b x y=1 then some (b,x,y)else none
def rpL(l:yag):Option (Int×Int×Int):=match byL l with
 |none=>none
 |some q=>xyL q.1 (Ri 58 q.2)
theorem Fd{s:Str}{p:yag×yag}(h:bg 64 (sgn s)=some p):∃m,PD.iJ s ⟨#[64]⟩=.tup [.str (OH p.1),.str m,.str (OH p.2)]:=by unfold PD.iJ;rw[AY,h];exact⟨_,rfl⟩
theorem gl3(b x y:Int):j8 0 [b,x,y]=((PM.g3 b x y:Nat):Int):=by
 show(((Int.gcd (((Int.gcd (((Int.gcd 0 b:Nat):Int)) x:Nat):Int)) y:Nat):Int))=_;unfold PM.g3;rw[Int.gcd_comm 0 b,Int.gcd_zero_right];have:Int.gcd ((b.natAbs:Nat):Int) x=Int.gcd b x:=by unfold Int.gcd;rw[Int.natAbs_natCast]
 rw[this]
theorem As{b x y:Int}(h:0<b):0<PM.g3 b x y:=by
 unfold PM.g3;refine Nat.pos_of_ne_zero fun z=>?_
 have h1:=(Int.gcd_eq_zero_iff.mp z).1;have h2:Int.gcd b x=0:=by omega
 have h3:=(Int.gcd_eq_zero_iff.mp h2).1;omega
theorem JY{b x y:Int}(h:0<b):PM.g3 b x y<=b.natAbs:=by
 unfold PM.g3;have h1:Int.gcd ((Int.gcd b x:Nat):Int) y∣Int.gcd b x:=by
  have:=Int.gcd_dvd_natAbs_left ((Int.gcd b x:Nat):Int) y
  rwa [Int.natAbs_natCast]at this
 exact Nat.le_of_dvd (by omega) (Nat.dvd_trans h1 (Int.gcd_dvd_natAbs_left b x))
theorem Ic{b x y:Int}(hb:0<b):eqD (.lst true ((y0 [b,x,y]).map D.int)) (.lst true [D.int b,D.int x,D.int y])=decide (PM.g3 b x y=1):=by
 unfold y0;rw[gl3];by_cases e:PM.g3 b x y=1
 ·rw[e,Tz rfl];show eqD (.lst true [D.int (b.fdiv 1),D.int (x.fdiv 1),D.int (y.fdiv 1)]) _=true;rw[Int.fdiv_one,Int.fdiv_one,Int.fdiv_one];exact cz _
 ·rw[TL e];show eqD (.lst true [D.int (b.fdiv _),D.int (x.fdiv _),D.int (y.fdiv _)]) _=false;rw[ya,tN,rL];have g1:=As (x:=x) (y:=y) hb;have:¬b.fdiv ((PM.g3 b x y:Nat):Int)=b:=fun z=>by
   have h2:(2:Int)<=((PM.g3 b x y:Nat):Int):=by omega
   rw[Int.fdiv_eq_ediv_of_nonneg b (by omega)]at z;have h3:b / ((PM.g3 b x y:Nat):Int)<b:=Int.ediv_lt_self_of_pos_of_ne_one hb (by omega);omega
  rw[TL this,Yo]
theorem DV(t:Bool)(b x y:Int):okD (.lst t [D.int b,D.int x,D.int y]):=(Wb.lst (.cons (.int 0 _) (.cons (.int 0 _) (.cons (.int 0 _) (.nil 0))))).ok
theorem Ju{n:Int}(h:n.natAbs<10 ^ 40):Bd 200 n:=by
 have h3:10 ^ 40<=2 ^ 200:=by decide
 unfold Bd;omega
def DN:yah:=["", " ", "dots ", " dots", "dots 1", "put", "put a0:0 b1:1", "put  a0:0", "cut", "cut 0 1", "map 1 0 0 1 0", "map 1 0 0 1 0 0 0", "Clear", "clear 1", "back back", "lines a", "fair a", "fair a b c", "quarter 1", "depth", "depth 0:0 1:1", "in", "show", "deep", "undo"]
def iU:yas:=DN.map D.str++[.Nx,.int 3,.lst true [.str "dots"],.bl true]
def AO:yah:=["put ", "put a0", "put d0:0", "put a0:0w1", "put a00:0", "cut ", "cut 00", "cut +1", "cut 100", "cut x", "map 1 0 0 1 0 x", "map 1 0 0 1 0 -0", "map 0 0 0 0 0 1000000000000", "fair a d", "fair  b", "fair A b", "fair ab c", "fair c bc", "depth 0", "depth 2@2:4", "depth 1@0:0", "in 0,0", "in ", "in 0@1:1", "map 0 0 0 0 0 "]
def je:yas:=AO.map D.str
def qp (n:Nat):List (Str×Int):=[((Str.ofString "cut -1", (3:Int)):Str×Int),(Str.append (Str.ofString "cut ") (tI n),3),("cut 99", 3),("map 1 2 2 4 0 0", 2),("map 0 0 0 0 9 9", 2),("map 999999999999 0 0 999999999999 0 0", 4)] ++
 ((if n=30 then[((Str.ofString "put a0:0", 4):Str×Int)]else[])++((if 12<n then[((Str.ofString "deepest", 5):Str×Int)]else[])++((if n<7 then[((Str.ofString "three", 6):Str×Int)]else[])++(if n<4 then[((Str.ofString "two", 6):Str×Int)]else[]))))
def eO(n:Nat):yas:=(qp n).map fun p=>D.tup [.str p.1,.int p.2]
def k7:List (Str×yah):=[("put", ["dot"]),("cut", ["number"]),("map", ["entry", "entry", "entry", "entry", "entry", "entry"]),("clear", []),("back", []),("dots", []),("lines", []),("fair", ["letter", "letter"]),("quarter", []),("depth", ["place"]),("middle", []),("deepest", []),("in", ["place"]),("two", []),("three", [])]
def formOf(f:Str):Option (yah):=(k7.find? fun e=>decide (f=e.1)).map (·.2)
def oW (K:yac) (w:World) (mg:yam):Prop:=∃a es,mg "FORMS" = some (.ref a)/\PD.cX K w a es/\∀f,match formOf f with
 |some fs=>PD.uG K es f fs
 |none=>PD.TF es f=none
def ie(r:Str):Option (yah×Str×yah):=match Txt.split r ⟨#[32]⟩with
 |[]=>none
 |f::vs=>match formOf f with
  |none=>none
  |some fs=>if vs.length=fs.length then some (fs,f,vs)else none
def iC(κ:Cls)(k:Int)(c:Addr):Prop:=(k=0/\c=κ.NoAsk)∨(k=1/\c=κ.NoText)∨(k=2/\c=κ.NoMap)∨(k=3/\c=κ.NoSuch)∨(k=4/\c=κ.NoDots)∨(k=5/\c=κ.TooMany)∨(k=6/\c=κ.TooFew)
def kdL(k:Int):yas:=[.bl (decide (0=k)),.bl (decide (1=k)),.bl (decide (2=k)),.bl (decide (3=k)),.bl (decide (4=k)),.bl (decide (5=k)),.bl (decide (6=k)),.bl (decide (7=k))]
theorem Ks(m:Nat):fL 0 (m:Int) 1=m:=by
 unfold fL Builtin.Range.rangeSize;rw[LX (show(1:Int) > 0 by decide)];by_cases h:(0:Int)<m
 ·rw[LX h];omega
 ·rw[LO h];omega
def Cq (u:Str):Prop:=u = "dot" ∨ u = "place" ∨ u = "letter" ∨ u = "number" ∨ u = "entry"
def Zg (u t:Str):Option D:=if u = "dot" then(Wf (sgn t)).map N8 else if u = "place" then(rpL (sgn t)).map (fun p=>T3 p.1 p.2.1 p.2.2)else if u = "letter" then(if t.length=1 then col (sgn t)else none).map D.int else if u = "number" then(wN 2 (sgn t)).map D.int else if u = "entry" then(wN 12 (sgn t)).map D.int else none
theorem An{a b:List Md}:a.map N8=b.map N8↔a=b:=⟨Ex,fun e=>by rw[e]⟩
theorem Ai{a b:Md}:N8 a=N8 b↔a=b:=⟨xZ,fun e=>by rw[e]⟩
theorem Cu{a b:M6}:VY a=VY b↔a=b:=⟨Ig,fun e=>by rw[e]⟩
theorem Bq{a b:Str}:D.str a=D.str b↔a=b:=⟨str_inj,fun e=>by rw[e]⟩
theorem AL{a b:yaf}:a.map D.int=b.map D.int↔a=b:=⟨xq,fun e=>by rw[e]⟩
local macro_rules | `(tactic| walk_at "p") => `(tactic| (apply propext; constructor; (intro h; repeat (first | (obtain ⟨e, h⟩ := h; revert e; simp only [T3, List.cons.injEq, D.int.injEq, D.tup.injEq, D.lst.injEq, and_true, true_and, and_imp, AL, An, Ai, Cu, Bq]; intros; subst_vars; assumption) | obtain ⟨_, h⟩ := h)); (intro q; repeat (first | exact ⟨rfl, q⟩ | apply Exists.intro))))
section
variable(κ:Cls)(Q:D->Prop)(Ed:Value->Prop)
abbrev gE(d:D):Prop:=Q (.bl (Zf d))
def kE(κ:Cls):DSp:=fun ds Q Ed=>∃(d:D),ds=[d]/\gE Q d
theorem sJ (d:D):kE κ [d] Q Ed=gE Q d:=by walk_at "p"
abbrev cP(a:Int)(b:Int):Prop:=Q (.int (Int.gcd a b:Int))
def eK(κ:Cls):DSp:=fun ds Q Ed=>∃(a:Int) (b:Int),ds=[.int a,.int b]/\cP Q a b
theorem l5 (a:Int) (b:Int):eK κ [.int a,.int b] Q Ed=cP Q a b:=by walk_at "p"
abbrev jW(ns:yaf):Prop:=ns.length<100/\j8 0 ns≠0/\Bd 1000 (j8 0 ns)/\Q (.lst true ((y0 ns).map D.int))
def j0(κ:Cls):DSp:=fun ds Q Ed=>∃(ns:yaf),ds=[.lst false (ns.map D.int)]/\jW Q ns
theorem nj (ns:yaf):j0 κ [.lst false (ns.map D.int)] Q Ed=jW Q ns:=by walk_at "p"
abbrev gI(a b:Int):Prop:=Q (T3 1 a b)
def kI(κ:Cls):DSp:=fun ds Q Ed=>∃(a b:Int),ds=[.tup [.int a,.int b]]/\gI Q a b
theorem sN (a b:Int):kI κ [.tup [.int a,.int b]] Q Ed=gI Q a b:=by walk_at "p"
abbrev fO(d:D)(l:Int)(m:Int):Prop:=Q (.bl (within d l m))
def jD(κ:Cls):DSp:=fun ds Q Ed=>∃(d:D) (l:Int) (m:Int),ds=[d,.int l,.int m]/\fO Q d l m
theorem qW (d:D) (l:Int) (m:Int):jD κ [d,.int l,.int m] Q Ed=fO Q d l m:=by walk_at "p"
abbrev c7(d:D):Prop:=Q (.bl (Vo d))
def fC(κ:Cls):DSp:=fun ds Q Ed=>∃(d:D),ds=[d]/\c7 Q d
theorem mw (d:D):fC κ [d] Q Ed=c7 Q d:=by walk_at "p"
abbrev iN(p:Md):Prop:=Q (.tup [.int p.1,.int p.2.1])
def l9(κ:Cls):DSp:=fun ds Q Ed=>∃(p:Md),ds=[N8 p]/\iN Q p
theorem mv (p:Md):l9 κ [N8 p] Q Ed=iN Q p:=by walk_at "p"
abbrev gM(d:D):Prop:=∃ds:List Md,d=.lst false (ds.map N8)/\ds.length<=100/\Q (.lst true (ds.map fun x=>.tup [.int x.1,.int x.2.1]))
def kN(κ:Cls):DSp:=fun ds Q Ed=>∃(d:D),ds=[d]/\gM Q d
theorem sT (d:D):kN κ [d] Q Ed=gM Q d:=by walk_at "p"
abbrev jV(d:D):Prop:=Q (.bl (eI d))
def nh(κ:Cls):DSp:=fun ds Q Ed=>∃(d:D),ds=[d]/\jV Q d
theorem wQ (d:D):nh κ [d] Q Ed=jV Q d:=by walk_at "p"
abbrev fN(d:D):Prop:=(eI d=true/\Q .Nx)∨(eI d=false/\Ed (.ref κ.NoMap))
def jC(κ:Cls):DSp:=fun ds Q Ed=>∃(d:D),ds=[d]/\fN κ Q Ed d
theorem qV (d:D):jC κ [d] Q Ed=fN κ Q Ed d:=by walk_at "p"
abbrev lO(p0 p1 p2:Int)(m:M6):Prop:=Bd 300 p0/\Bd 300 p1/\Bd 300 p2/\MB m/\Q (T3 p0 (m.1*p1+m.2.1*p2+m.2.2.2.2.1*p0) (m.2.2.1*p1+m.2.2.2.1*p2+m.2.2.2.2.2*p0))
def pS(κ:Cls):DSp:=fun ds Q Ed=>∃(p0 p1 p2:Int) (m:M6),ds=[T3 p0 p1 p2,VY m]/\lO Q p0 p1 p2 m
theorem xI (p0 p1 p2:Int) (m:M6):pS κ [T3 p0 p1 p2,VY m] Q Ed=lO Q p0 p1 p2 m:=by walk_at "p"
abbrev gK(p:Md)(m:M6):Prop:=Bd 60 p.1/\Bd 60 p.2.1/\MB m/\((iI m p=true/\Q (N8 (zu m p)))∨(iI m p=false/\Ed (.ref κ.NoDots)))
def kK(κ:Cls):DSp:=fun ds Q Ed=>∃(p:Md) (m:M6),ds=[N8 p,VY m]/\gK κ Q Ed p m
theorem sR (p:Md) (m:M6):kK κ [N8 p,VY m] Q Ed=gK κ Q Ed p m:=by walk_at "p"
abbrev nW(ps:List Md)(d:D):Prop:=(eI d=false/\Ed (.ref κ.NoMap))∨∃ m:M6,d=VY m/\MB m/\eI d=true/\ps.length<=60/\(∀p∈ps,Bd 60 p.1/\Bd 60 p.2.1)/\((ps.all (iI m)=true/\Q (.lst true ((ps.map (zu m)).map N8)))∨(ps.all (iI m)=false/\Ed (.ref κ.NoDots)))
def sP(κ:Cls):DSp:=fun ds Q Ed=>∃(ps:List Md) (d:D),ds=[.lst false (ps.map N8),d]/\nW κ Q Ed ps d
theorem zx (ps:List Md) (d:D):sP κ [.lst false (ps.map N8),d] Q Ed=nW κ Q Ed ps d:=by walk_at "p"
abbrev fi(d:D):Prop:=∃xs:yas,d=.lst false xs/\xs.length<4/\Ed (.ref κ.TooFew)
def iB(κ:Cls):DSp:=fun ds Q Ed=>∃(d:D),ds=[d]/\fi κ Ed d
theorem pY (d:D):iB κ [d] Q Ed=fi κ Ed d:=by walk_at "p"
abbrev dq(d:D):Prop:=∃xs:yas,d=.lst false xs/\xs.length<7/\Ed (.ref κ.TooFew)
def gm(κ:Cls):DSp:=fun ds Q Ed=>∃(d:D),ds=[d]/\dq κ Ed d
theorem nA (d:D):gm κ [d] Q Ed=dq κ Ed d:=by walk_at "p"
abbrev iM(d:D):Prop:=∃xs:yas,d=.lst false xs/\12<xs.length/\Ed (.ref κ.TooMany)
def l6(κ:Cls):DSp:=fun ds Q Ed=>∃(d:D),ds=[d]/\iM κ Ed d
theorem uF (d:D):l6 κ [d] Q Ed=iM κ Ed d:=by walk_at "p"
abbrev eY (d:D):Prop:=(Ta "str" d=true/\Q .Nx)∨(Ta "str" d=false/\Ed (.ref κ.NoText))
def ir(κ:Cls):DSp:=fun ds Q Ed=>∃(d:D),ds=[d]/\eY κ Q Ed d
theorem pQ (d:D):ir κ [d] Q Ed=eY κ Q Ed d:=by walk_at "p"
abbrev gO(t:Str):Prop:=TX t/\∃n,PySem.intText? t=some n/\Q (.int n)
def kP(κ:Cls):DSp:=fun ds Q Ed=>∃(t:Str),ds=[D.str t]/\gO Q t
theorem sV (t:Str):kP κ [D.str t] Q Ed=gO Q t:=by walk_at "p"
abbrev fY(t:Str):Prop:=t.length<=640/\(∀c∈t.cps.toList,c<256)/\match PySem.intText? t with|some n=>Q (.int n)|none=>Ed (.ref κ.NoText)
def jL(κ:Cls):DSp:=fun ds Q Ed=>∃(t:Str),ds=[D.str t]/\fY κ Q Ed t
theorem ro (t:Str):jL κ [D.str t] Q Ed=fY κ Q Ed t:=by walk_at "p"
abbrev fb(t:Str)(k:Int):Prop:=TX t/\∃m:Nat,k=m/\1<=m/\m<=1000/\match wN m (sgn t)with|some n=>Q (.int n)|none=>False
def ix(κ:Cls):DSp:=fun ds Q Ed=>∃(t:Str) (k:Int),ds=[D.str t,.int k]/\fb Q t k
theorem pT (t:Str) (k:Int):ix κ [D.str t,.int k] Q Ed=fb Q t k:=by walk_at "p"
abbrev eF(t:Str)(k:Int):Prop:=TX t/\∃m:Nat,k=m/\1<=m/\m<=1000/\match wN m (sgn t)with|some n=>Q (.int n)|none=>Ed (.ref κ.NoText)
def cW(κ:Cls):DSp:=fun ds Q Ed=>∃(t:Str) (k:Int),ds=[D.str t,.int k]/\eF κ Q Ed t k
theorem oz (t:Str) (k:Int):cW κ [D.str t,.int k] Q Ed=eF κ Q Ed t k:=by walk_at "p"
abbrev eB(t:Str):Prop:=TX t/\match(if t.length=1 then col (sgn t)else none)with|some c=>Q (.int c)|none=>False
def gA(κ:Cls):DSp:=fun ds Q Ed=>∃(t:Str),ds=[D.str t]/\eB Q t
theorem ox (t:Str):gA κ [D.str t] Q Ed=eB Q t:=by walk_at "p"
abbrev di(t:Str):Prop:=TX t/\match(if t.length=1 then col (sgn t)else none)with|some c=>Q (.int c)|none=>Ed (.ref κ.NoText)
def gi(κ:Cls):DSp:=fun ds Q Ed=>∃(t:Str),ds=[D.str t]/\di κ Q Ed t
theorem nr (t:Str):gi κ [D.str t] Q Ed=di κ Q Ed t:=by walk_at "p"
abbrev c8(t:Str)(k:Int):Prop:=TX t/\∃m:Nat,k=m/\1<=m/\m<=1000/\match w2 m (sgn t)with|some n=>Q (.int n)|none=>False
def fD(κ:Cls):DSp:=fun ds Q Ed=>∃(t:Str) (k:Int),ds=[D.str t,.int k]/\c8 Q t k
theorem my (t:Str) (k:Int):fD κ [D.str t,.int k] Q Ed=c8 Q t k:=by walk_at "p"
abbrev cQ(t:Str)(k:Int):Prop:=TX t/\∃m:Nat,k=m/\1<=m/\m<=1000/\match w2 m (sgn t)with|some n=>Q (.int n)|none=>Ed (.ref κ.NoText)
def eL(κ:Cls):DSp:=fun ds Q Ed=>∃(t:Str) (k:Int),ds=[D.str t,.int k]/\cQ κ Q Ed t k
theorem l8 (t:Str) (k:Int):eL κ [D.str t,.int k] Q Ed=cQ κ Q Ed t k:=by walk_at "p"
abbrev gJ(t:Str):Prop:=TX t/\match Wf (sgn t)with|some d=>Q (N8 d)|none=>False
def kJ(κ:Cls):DSp:=fun ds Q Ed=>∃(t:Str),ds=[D.str t]/\gJ Q t
theorem sO (t:Str):kJ κ [D.str t] Q Ed=gJ Q t:=by walk_at "p"
abbrev fR(t:Str):Prop:=TX t/\match Wf (sgn t)with|some d=>Q (N8 d)|none=>Ed (.ref κ.NoText)
def jG(κ:Cls):DSp:=fun ds Q Ed=>∃(t:Str),ds=[D.str t]/\fR κ Q Ed t
theorem qZ (t:Str):jG κ [D.str t] Q Ed=fR κ Q Ed t:=by walk_at "p"
abbrev fV(x:Int)(y:Int):Prop:=Bd 1000 x/\Bd 1000 y/\Q (.str (OH (tx x++58::tx y)))
def jI(κ:Cls):DSp:=fun ds Q Ed=>∃(x:Int) (y:Int),ds=[.int x,.int y]/\fV Q x y
theorem rh (x:Int) (y:Int):jI κ [.int x,.int y] Q Ed=fV Q x y:=by walk_at "p"
abbrev gL(d:Md):Prop:=TJ d/\Q (.str (OH (QN d)))
def kL(κ:Cls):DSp:=fun ds Q Ed=>∃(d:Md),ds=[N8 d]/\gL Q d
theorem sS (d:Md):kL κ [N8 d] Q Ed=gL Q d:=by walk_at "p"
abbrev fU(d:D):Prop:=∃ds:List Md,d=.lst false (ds.map N8)/\(∀x∈ds,TJ x)/\ds.length<=100/\Q (.str (jn ds))
def jH(κ:Cls):DSp:=fun ds Q Ed=>∃(d:D),ds=[d]/\fU Q d
theorem rg (d:D):jH κ [d] Q Ed=fU Q d:=by walk_at "p"
abbrev eE(t:Str):Prop:=TX t/\match rpL (sgn t)with|some p=>Q (T3 p.1 p.2.1 p.2.2)|none=>Ed (.ref κ.NoText)
def gB(κ:Cls):DSp:=fun ds Q Ed=>∃(t:Str),ds=[D.str t]/\eE κ Q Ed t
theorem oy (t:Str):gB κ [D.str t] Q Ed=eE κ Q Ed t:=by walk_at "p"
abbrev fe(d:D):Prop:=False
def iy(κ:Cls):DSp:=fun ds Q Ed=>∃(d:D),ds=[d]/\fe d
theorem pV (d:D):iy κ [d] Q Ed=fe d:=by walk_at "p"
abbrev qM(d:D)(e:D):Prop:=∃(ds:List Md) (g:Md),d=.lst false (ds.map N8)/\e=.lst false [N8 g]/\ds.length<=100/\if 30<=ds.length then Ed (.ref κ.NoDots)else Q (.lst true ((ds++[g]).map N8))
def wU(κ:Cls):DSp:=fun ds Q Ed=>∃(d:D) (e:D),ds=[d,e]/\qM κ Q Ed d e
theorem Bp (d:D) (e:D):wU κ [d,e] Q Ed=qM κ Q Ed d e:=by walk_at "p"
abbrev qL(d:D)(e:D):Prop:=∃(ds:List Md) (n:Int),d=.lst false (ds.map N8)/\e=.lst false [.int n]/\ds.length<=100/\if n<0∨(ds.length:Int)<=n then Ed (.ref κ.NoSuch)else Q (.lst true ((ds.take n.toNat++ds.drop (n.toNat+1)).map N8))
def wO(κ:Cls):DSp:=fun ds Q Ed=>∃(d:D) (e:D),ds=[d,e]/\qL κ Q Ed d e
theorem Bo (d:D) (e:D):wO κ [d,e] Q Ed=qL κ Q Ed d e:=by walk_at "p"
abbrev jX(d:D)(e:D):Prop:=∃(ds:List Md) (m:yaf),d=.lst false (ds.map N8)/\e=.lst false (m.map D.int)/\(∀x∈ds,TJ x)/\ds.length<=30/\m.length=6/\(∀x∈m,x.natAbs<10 ^ 12)/\if m.getD 0 0*m.getD 3 0=m.getD 1 0*m.getD 2 0 then Ed (.ref κ.NoMap)else if(ds.map (Ts m)).any cL=true then Ed (.ref κ.NoDots)else Q (.lst true ((ds.map (Ts m)).map N8))
def nk(κ:Cls):DSp:=fun ds Q Ed=>∃(d:D) (e:D),ds=[d,e]/\jX κ Q Ed d e
theorem wR (d:D) (e:D):nk κ [d,e] Q Ed=jX κ Q Ed d e:=by walk_at "p"
abbrev iL(d:D)(e:D):Prop:=Q (.lst true [])
def lZ(κ:Cls):DSp:=fun ds Q Ed=>∃(d:D) (e:D),ds=[d,e]/\iL Q d e
theorem uE (d:D) (e:D):lZ κ [d,e] Q Ed=iL Q d e:=by walk_at "p"
abbrev fX(d:D)(e:D):Prop:=∃ds:List Md,d=.lst false (ds.map N8)/\(∀x∈ds,TJ x)/\ds.length<=100/\Q (.str (jn ds))
def jK(κ:Cls):DSp:=fun ds Q Ed=>∃(d:D) (e:D),ds=[d,e]/\fX Q d e
theorem rj (d:D) (e:D):jK κ [d,e] Q Ed=fX Q d e:=by walk_at "p"
abbrev dj(d:D)(e:D):Prop:=∃ds:List Md,d=.lst false (ds.map N8)/\12<ds.length/\Ed (.ref κ.TooMany)
def gk(κ:Cls):DSp:=fun ds Q Ed=>∃(d:D) (e:D),ds=[d,e]/\dj κ Ed d e
theorem ny (d:D) (e:D):gk κ [d,e] Q Ed=dj κ Ed d e:=by walk_at "p"
abbrev gN(d:D)(e:D):Prop:=∃ds:List Md,d=.lst false (ds.map N8)/\ds.length<4/\Ed (.ref κ.TooFew)
def kO(κ:Cls):DSp:=fun ds Q Ed=>∃(d:D) (e:D),ds=[d,e]/\gN κ Ed d e
theorem sU (d:D) (e:D):kO κ [d,e] Q Ed=gN κ Ed d e:=by walk_at "p"
abbrev fh(d:D)(e:D):Prop:=∃ds:List Md,d=.lst false (ds.map N8)/\ds.length<7/\Ed (.ref κ.TooFew)
def iA(κ:Cls):DSp:=fun ds Q Ed=>∃(d:D) (e:D),ds=[d,e]/\fh κ Ed d e
theorem pX (d:D) (e:D):iA κ [d,e] Q Ed=fh κ Ed d e:=by walk_at "p"
abbrev fT(u:Str)(t:Str):Prop:=TX t/\∃d,Tc u t=some d/\Q d
def dR(κ:Cls):DSp:=fun ds Q Ed=>∃(u:Str) (t:Str),ds=[D.str u,D.str t]/\fT Q u t
theorem gj (u:Str) (t:Str):dR κ [D.str u,D.str t] Q Ed=fT Q u t:=by walk_at "p"
abbrev fc(u:Str)(t:Str):Prop:=TX t/\Cq u/\match Zg u t with|some d=>Q d|none=>Ed (.ref κ.NoText)
def fk(κ:Cls):DSp:=fun ds Q Ed=>∃(u:Str) (t:Str),ds=[D.str u,D.str t]/\fc κ Q Ed u t
theorem pU (u:Str) (t:Str):fk κ [D.str u,D.str t] Q Ed=fc κ Q Ed u t:=by walk_at "p"
abbrev fW(d:D):Prop:=∃(f:Str) (vs fs:yah),d=.str (Str.join ⟨#[32]⟩ (f::vs))/\(f,fs)∈eR/\vs.length=fs.length/\uH (f::vs)/\Q (.lst true ((f::vs).map D.str))
def jJ(κ:Cls):DSp:=fun ds Q Ed=>∃(d:D),ds=[d]/\fW Q d
theorem ri (d:D):jJ κ [d] Q Ed=fW Q d:=by walk_at "p"
abbrev fg (d:D):Prop:=(Ta "str" d=false/\Ed (.ref κ.NoAsk))∨∃ r,d=.str r/\TX r/\match ie r with|some (_,f,vs)=>Q (.lst true ((f::vs).map D.str))|none=>Ed (.ref κ.NoAsk)
def iz(κ:Cls):DSp:=fun ds Q Ed=>∃(d:D),ds=[d]/\fg κ Q Ed d
theorem pW (d:D):iz κ [d] Q Ed=fg κ Q Ed d:=by walk_at "p"
abbrev d9(ns:yaf)(k:Int):Prop:=0<=k/\ns.length<=63/\∀v:Int,Q (.int v)
def gy(κ:Cls):DSp:=fun ds Q Ed=>∃(ns:yaf) (k:Int),ds=[.lst false (ns.map D.int),.int k]/\d9 Q ns k
theorem ot (ns:yaf) (k:Int):gy κ [.lst false (ns.map D.int),.int k] Q Ed=d9 Q ns k:=by walk_at "p"
abbrev eZ(c:Int)(m:Int):Prop:=0<=m/\m<1000/\∀xs:yaf,xs.length=m.toNat->(∀x∈xs,0<=x/\x<2147483647)->Q (.lst true (xs.map D.int))
def iu(κ:Cls):DSp:=fun ds Q Ed=>∃(c:Int) (m:Int),ds=[.int c,.int m]/\eZ Q c m
theorem pR (c:Int) (m:Int):iu κ [.int c,.int m] Q Ed=eZ Q c m:=by walk_at "p"
abbrev gG(c:Int):Prop:=∀ds:List Md,3<=ds.length->ds.length<=30->(∀d∈ds,TJ d)->(∃d r,ds=d::r/\d.1=4)->Q (.lst true (ds.map N8))
def kG(κ:Cls):DSp:=fun ds Q Ed=>∃(c:Int),ds=[.int c]/\gG Q c
theorem sL (c:Int):kG κ [.int c] Q Ed=gG Q c:=by walk_at "p"
abbrev gH(d:Md):Prop:=TJ d/\Q (.str (OH (QN d)))
def kH(κ:Cls):DSp:=fun ds Q Ed=>∃(d:Md),ds=[N8 d]/\gH Q d
theorem sM (d:Md):kH κ [N8 d] Q Ed=gH Q d:=by walk_at "p"
abbrev eA  : Prop:=Q (.lst true iU)
def gz(κ:Cls):DSp:=fun ds Q Ed=>ds=[]/\eA Q
theorem ow  : gz κ [] Q Ed=eA Q:=by walk_at "p"
abbrev dh  : Prop:=Q (.lst true je)
def gh(κ:Cls):DSp:=fun ds Q Ed=>ds=[]/\dh Q
theorem ni  : gh κ [] Q Ed=dh Q:=by walk_at "p"
abbrev fP(c:Int):Prop:=∃n:Nat,c=(n:Int)/\3<=n/\n<=30/\Q (.lst true (eO n))
def jE(κ:Cls):DSp:=fun ds Q Ed=>∃(c:Int),ds=[.int c]/\fP Q c
theorem qX (c:Int):jE κ [.int c] Q Ed=fP Q c:=by walk_at "p"
abbrev fQ(e:D):Prop:=∃(k:Int) (c:Addr),e=.exc c/\iC κ k c/\Q (.lst true (kdL k))
def jF(κ:Cls):DSp:=fun ds Q Ed=>∃(e:D),ds=[e]/\fQ κ Q e
theorem qY (e:D):jF κ [e] Q Ed=fQ κ Q e:=by walk_at "p"
end
section
variable(P:Program)(w:World)(K:yac)(mg:yam)(base:Heap)(κ:Cls)
abbrev yA:Prop:=Pj P w K mg base "is_whole" 1 ["thing"] (kE κ)
abbrev oX:Prop:=Pj P w K mg base "common_divisor" 1 ["one", "other"] (eK κ)
abbrev BI:Prop:=Pj P w K mg base "lowest" 2 ["numbers"] (j0 κ)
abbrev yC:Prop:=Pj P w K mg base "place_of" 1 ["spot"] (kI κ)
abbrev w5:Prop:=Pj P w K mg base "is_within" 2 ["thing", "least", "most"] (jD κ)
abbrev jO:Prop:=Pj P w K mg base "is_coordinate" 3 ["thing"] (fC κ)
abbrev sY:Prop:=Pj P w K mg base "spot_of" 1 ["dot"] (l9 κ)
abbrev qe:Prop:=Pj P w K mg base "spots_of" 2 ["dots"] (kN κ)
abbrev BH:Prop:=Pj P w K mg base "is_map" 4 ["thing"] (nh κ)
abbrev wZ:Prop:=Pj P w K mg base "check_map" 5 ["by_map"] (jC κ)
abbrev D8:Prop:=Pj P w K mg base "moved" 1 ["place", "by_map"] (pS κ)
abbrev yE:Prop:=Pj P w K mg base "sent_dot" 4 ["dot", "by_map"] (kK κ)
abbrev F8:Prop:=Pj P w K mg base "sent" 6 ["dots", "by_map"] (sP κ)
abbrev uZ:Prop:=Pj P w K mg base "two_groups" 1 ["spots"] (iB κ)
abbrev rC:Prop:=Pj P w K mg base "three_groups" 1 ["spots"] (gm κ)
abbrev zD:Prop:=Pj P w K mg base "deepest" 1 ["dots"] (l6 κ)
abbrev uT:Prop:=Pj P w K mg base "check_text" 1 ["thing"] (ir κ)
abbrev yH:Prop:=Pj P w K mg base "whole_of" 1 ["word"] (kP κ)
abbrev xf:Prop:=lC P w K mg base "whole_of" 1 ["word"] (jL κ)
abbrev iW:Prop:=Pj P w K mg base "read_whole" 2 ["word", "digits"] (ix κ)
abbrev eV:Prop:=lC P w K mg base "read_whole" 2 ["word", "digits"] (cW κ)
abbrev uf:Prop:=Pj P w K mg base "read_colour" 1 ["word"] (gA κ)
abbrev kS:Prop:=Pj P w K mg base "read_colour" 1 ["word"] (gi κ)
abbrev qc:Prop:=Pj P w K mg base "read_from_two" 3 ["word", "digits"] (fD κ)
abbrev iV:Prop:=lC P w K mg base "read_from_two" 3 ["word", "digits"] (eL κ)
abbrev yD:Prop:=Pj P w K mg base "read_dot" 4 ["word"] (kJ κ)
abbrev xa:Prop:=lC P w K mg base "read_dot" 4 ["word"] (jG κ)
abbrev oG:Prop:=Pj P w K mg base "show_spot" 1 ["x", "y"] (jI κ)
abbrev yF:Prop:=Pj P w K mg base "show_dot" 2 ["dot"] (kL κ)
abbrev xb:Prop:=Pj P w K mg base "show_dots" 3 ["dots"] (jH κ)
abbrev ug:Prop:=lC P w K mg base "read_place" 4 ["text"] (gB κ)
abbrev mB:Prop:=Pj P w K mg base "show_place" 2 ["place"] (iy κ)
abbrev Di:Prop:=Pj P w K mg base "put" 1 ["dots", "given"] (wU κ)
abbrev Dh:Prop:=Pj P w K mg base "cut" 1 ["dots", "given"] (wO κ)
abbrev uV:Prop:=Pj P w K mg base "mapped" 7 ["dots", "given"] (nk κ)
abbrev zC:Prop:=Pj P w K mg base "cleared" 1 ["dots", "given"] (lZ κ)
abbrev xc:Prop:=Pj P w K mg base "tell_dots" 4 ["dots", "given"] (jK κ)
abbrev rB:Prop:=Pj P w K mg base "tell_deepest" 2 ["dots", "given"] (gk κ)
abbrev yG:Prop:=Pj P w K mg base "tell_two" 3 ["dots", "given"] (kO κ)
abbrev uY:Prop:=Pj P w K mg base "tell_three" 3 ["dots", "given"] (iA κ)
abbrev oB:Prop:=Pj P w K mg base "read_word" 5 ["form", "word"] (dR κ)
abbrev uW:Prop:=lC P w K mg base "read_word" 5 ["form", "word"] (fk κ)
abbrev oH:Prop:=Pj P w K mg base "split_row" 1 ["row"] (jJ κ)
abbrev uX:Prop:=Pj P w K mg base "split_row" 1 ["row"] (iz κ)
abbrev uc:Prop:=Pj P w K mg base "_law_cell_at" 1 ["_law_script", "_law_k"] (gy κ)
abbrev uU:Prop:=Pj P w K mg base "_law_stream" 1 ["_law_cell", "_law_many"] (iu κ)
abbrev yB:Prop:=Pj P w K mg base "_law_dots" 2 ["_law_cell"] (kG κ)
abbrev qb:Prop:=Pj P w K mg base "_law_word" 1 ["_law_dot"] (kH κ)
abbrev ue:Prop:=Pj P w K mg base "_law_no_asks" 1 [] (gz κ)
abbrev rA:Prop:=Pj P w K mg base "_law_no_texts" 1 [] (gh κ)
abbrev w6:Prop:=Pj P w K mg base "_law_deeds" 1 ["_law_many"] (jE κ)
abbrev oA:Prop:=Pj P w K mg base "_law_kinds" 1 ["_law_caught"] (jF κ)
end
local macro_rules | `(tactic| walk_at "l") => `(tactic| (intro ds Q E h; repeat (first | (cases h.1; rfl) | refine Exists.elim h fun _ h => ?_)))
section
variable{P:Program}{w:World}{K:yac}{mg:yam}{base:Heap}{κ:Cls}{f:Addr}{fd:FuncData}
theorem Lq(x:Str)(N:yah)(d:D)(ds:yas):cb (x::N) (d::ds)=some (.val d)::cb N ds:=rfl
theorem Ls(x:Str)(N:yah):cb (x::N) []=none::cb N []:=rfl
theorem Lr:cb [] []=[]:=rfl
local macro_rules | `(tactic| walk_at "s") => `(tactic| simp only [Lq, Ls, Lr])
local macro_rules | `(tactic| walk_at "x") => `(tactic| try simp only [B5, DB, rH, yR, Dw, B2, X7, dB, KQ, dOr, B4, Dv, KU, DC, dIf, GN, dC, lD, mH, B6, B3, qi, dCB, dIs, G6, G7, Kt, Ku, Fs, CP, IU, IX, HG, CC, E5, CF, E6, rL, Ao, Hh, HI, Dy, GQ, xR, xS, EE, EF, mG, Hw, Hy, Hx, List.map_cons, List.map_nil, gd3, K5, K6, t6, De, Bz, t8, Bx, BA, By, bZ, aR, oU, rx0, rx1, rx2, rx3, lx0, lx1, lx2, lx3, Jv, Ie, Ia, Ib, IE, IF, JV, Hi, ED, at0, at1, at2, at3, List.cons_append, List.nil_append, ES, ET, IG, ym, AG, EM, AF, EL, yY, AD, AE, AB, AA, true_and, GK, K0, qj, GD, FR, Az, false_and, and_false, false_or, or_false, exists_false, JJ, JI, uJ, Fw, Fv, Fu, mO, KR, KW, gd2, Bool.false_eq_true, Bool.true_eq_false, if_false, if_true, decide_eq_true_eq, Bool.not_eq_eq_eq_not, Bool.not_true, Bool.not_false, decide_eq_false_iff_not, ite_not, Gd, Gf, Ge, HD, HE, E7, E8, GG, Hj, KS, JC, GR, Hf, JU, JL, G5, zZ, GO, GY, KY, JK, DF, iQ, GF, DD, JG, GW, Hq, Hr, FD, FE, Jo, Jq, Jp, Jr, Ea, BM, BN, K1, zW, zX, HJ, KZ, GU, Hb, JR, G4, Es, GX, Eo, Hn, Ho, Hz, HA, zw, Ke, Kf, Ld, Le, List.set_cons_zero, List.set_cons_succ, El, GS, JH, JE, Hl, Hm, JX, JD, GI, JO, Ep, He, JT, JP, Em, sJ, l5, nj, sN, qW, mw, mv, sT, wQ, qV, xI, sR, zx, pY, nA, uF, pQ, sV, ro, pT, oz, ox, nr, my, l8, sO, qZ, rh, sS, rg, oy, pV, Bp, Bo, wR, uE, rj, ny, sU, pX, gj, pU, ri, pW, ot, pR, sL, sM, ow, ni, qX, qY, gE, cP, jW, gI, fO, c7, iN, gM, jV, fN, lO, gK, nW, fi, dq, iM, eY, gO, fY, fb, eF, eB, di, c8, cQ, gJ, fR, fV, gL, fU, eE, fe, qM, qL, jX, iL, fX, dj, gN, fh, fT, fc, fW, fg, d9, eZ, gG, gH, eA, dh, fP, fQ, GZ, ZC, GJ, DI, Ah, ZA, zj, GL, Dx, JN, yb, J9, K2, JW, FT, A8, rJoin, A7, JM, JF, bY, nE, Df, Ka, Kb, Kc, Kd, EC, oV, Er]; try simp only [CS, CQ])
theorem xr (F:ar K "is_whole" "is_whole" lQ f fd) (C:ON K mg κ)   (Qt:mg "bool" = none) (PV:mg "int" = none) (LK:mg "isinstance" = none):aE P w K mg base (CX1 P w) 1 f fd ["thing"] (aJ K (kE κ)):=by
 refine ar.okN F xD (by walk_at "l") fun _ _ _ _ _ _ hr=>⟨_,(aj (aC (z0 (fE (by rfl) LK (by rfl) PV boot_int (.inl rfl) (dv 0)) (Ab (Ha (fE (by rfl) LK (by rfl) Qt boot_bool (.inr (.inl rfl)) (dv 0))))))),?_⟩
 rintro ds Q Ed ⟨d,rfl,h⟩;walk_at "s";unfold gE at h;walk_at "x";rw[J6,J5];cases d<;>exact h
theorem om (F:ar K "common_divisor" "common_divisor" fB f fd) (C:ON K mg κ)   (PW:mg "abs" = none):aE P w K mg base (CX1 P w) 1 f fd ["one", "other"] (aJ K (eK κ)):=by
 refine ar.okN F cR (by walk_at "l") fun _ _ _ _ _ _ hr=>⟨_,(ao (Cc PassesOwn.never (aK jg (dv 1) ag) (ao (aL 2 cR.nd (aG eT (dv 0) (dv 1))) (ao (aL 0 cR.nd (dv 1)) (aj (aL 1 cR.nd (dv 2)))))) (aj (aC (aO vj (by rfl) PW boot_abs (aa (dv 0) ae))))),?_⟩
 rintro ds Q Ed ⟨a,b,rfl,h⟩;walk_at "s";unfold cP at h;refine⟨fun m ρ=>∃(x y:Int) (r:Option Sl),ρ=[some (.val (.int x)),some (.val (.int y)),r]/\Int.gcd x y=Int.gcd a b/\m=y.natAbs,⟨_,a,b,none,rfl,rfl,rfl⟩,?_⟩;rintro m ρ ⟨x,y,r,rfl,hg,rfl⟩;walk_at "x";by_cases hy:y=0
 ·subst hy;rw[PM.Au]at hg;rw[LX rfl,hg];exact h
 ·rw[LO hy];exact⟨hy,_,PM.Aq x hy,y,x.fmod y,_,rfl,(PM.Cg x y).trans hg,rfl⟩
theorem AV (F:ar K "lowest" "lowest" lS f fd) (C:ON K mg κ)  (Pe:oX P w K mg base κ)  : aE P w K mg base (CX1 P w) 2 f fd ["numbers"] (aJ K (j0 κ)):=by
 refine ar.okN F jY (by walk_at "l") fun _ _ _ _ _ _ hr=>⟨_,(ao (aL 1 jY.nd ag) (ao (Ak PassesOwn.never rfl (dZ (dv 0)) (nS 2 jY.nd) (aj (aL 1 jY.nd (aM Pe hr (aa (dv 1) (aa (dv 2) ae)))))) (aj (aC (df (by rfl) (by exact bS (osc:=ah lS) (xs:=["number"]) (ns:=["divisor"]) (by decide +kernel)) (bC.cons 1 bC.nil) (dZ (dv 0)) (fun _ _ _ _ _=>cD) (fun _ _ _ _ _=>(aG la (dv 0) (dv 1)))))))),?_⟩
 rintro ds Q Ed ⟨ns,rfl,h⟩;walk_at "s";unfold jW at h;obtain⟨hl,hz,hb,h⟩:=h;walk_at "x";refine PD.Cf ns D.int (fun j ρ=>∃v2:Option Sl,ρ=[some (.val (.lst false (ns.map D.int))),some (.val (.int (j8 0 (ns.take j)))),v2]) (fun R q=>?_) ⟨none,rfl⟩ ?_ ?_
 ·walk_at "x";exact q
 ·rintro j x NQ hx ⟨v2,rfl⟩;walk_at "x";refine⟨some (.val (.int x)),?_⟩;rw[Yp,hx];show _=[_,some (Sl.val (D.int (j8 0 (ns.take j++[x])))),_];rw[tP]
 ·rintro NQ ⟨v2,rfl⟩;rw[Zr];walk_at "x";refine PD.comp_map ns D.int (fun _=>true) (fun x=>.int (x.fdiv (j8 0 ns))) (fun R q=>?_) (by rw[TM];omega) (fun x hx K hK=>?_) (fun x hx _ K hK=>?_) ?_
  ·walk_at "x";exact q
  ·walk_at "x";exact hK
  ·walk_at "x";exact⟨⟨hz,hb.mono (by decide)⟩,hK⟩
  ·rw[Zo.mpr (fun _ _=>rfl)];unfold y0 at h;rw[Yr]at h;exact h
theorem xv (F:ar K "place_of" "place_of" lT f fd) (C:ON K mg κ)    : aE P w K mg base (CX1 P w) 1 f fd ["spot"] (aJ K (kI κ)):=by
 refine ar.okN F xE (by walk_at "l") fun _ _ _ _ _ _ hr=>⟨_,(aj (aC (bF (aa ag (aa (az (dv 0) ag) (aa (az (dv 0) ag) ae)))))),?_⟩
 rintro ds Q Ed ⟨a,b,rfl,h⟩;walk_at "s";unfold gI at h;walk_at "x";exact⟨sz3 _ _ _,h⟩
theorem vQ (F:ar K "is_within" "is_within" kj f fd) (C:ON K mg κ)  (Rr:yA P w K mg base κ)  : aE P w K mg base (CX1 P w) 2 f fd ["thing", "least", "most"] (aJ K (jD κ)):=by
 refine ar.okN F wz (by walk_at "l") fun _ _ _ _ _ _ hr=>⟨_,(aj (aC (z0 (aM Rr hr (aa (dv 0) ae)) (Ab (B8 DU DU (dv 1) (dv 0) (dv 2)))))),?_⟩
 rintro ds Q Ed ⟨d,l,m,rfl,h⟩;walk_at "s";unfold fO at h;walk_at "x";rw[EK];cases d with
 |int i =>
  walk_at "x";have e:within (.int i) l m=(decide (l<=i) && decide (i<=m)):=rfl;rw[e]at h;rw[LX (show Zf (.int i)=true from rfl)];by_cases z:l<=i
  ·rw[LX z];rw[Tz z,Zt]at h;exact h
  ·rw[LO z];rw[TL z,Yo]at h;exact h
 |Nx=>exact h
 |bl b=>exact h
 |str x=>exact h
 |tup ds=>exact h
 |lst t ds=>exact h
 |exc c=>exact h
 |obj _ _ _=>exact h
 |Sy=>exact h
 |Si _ _=>exact h
theorem pG (F:ar K "is_coordinate" "is_coordinate" gb f fd) (C:ON K mg κ)  (QQ:w5 P w K mg base κ)  : aE P w K mg base (CX1 P w) 3 f fd ["thing"] (aJ K (fC κ)):=by
 refine ar.okN F pO (by walk_at "l") fun _ _ _ _ _ _ hr=>⟨_,(aj (aC (aM QQ hr (aa (dv 0) (aa (G9 (bz C.Mn)) (aa (bz C.Mn) ae)))))),?_⟩
 rintro ds Q Ed ⟨d,rfl,h⟩;walk_at "s";unfold c7 at h;walk_at "x";rw[mh];exact h
theorem zb (F:ar K "spot_of" "spot_of" nc f fd) (C:ON K mg κ)    : aE P w K mg base (CX1 P w) 1 f fd ["dot"] (aJ K (l9 κ)):=by
 refine ar.okN F zt (by walk_at "l") fun _ _ _ _ _ _ hr=>⟨_,(aj (aC (bF (aa (az (dv 0) ag) (aa (az (dv 0) ag) ae))))),?_⟩
 rintro ds Q Ed ⟨p,rfl,h⟩;walk_at "s";unfold iN at h;unfold N8;walk_at "x";exact⟨sz2 _ _,h⟩
theorem xA (F:ar K "spots_of" "spots_of" iP f fd) (C:ON K mg κ)  (PB:sY P w K mg base κ)  : aE P w K mg base (CX1 P w) 2 f fd ["dots"] (aJ K (kN κ)):=by
 refine ar.okN F xF (by walk_at "l") fun _ _ _ _ _ _ hr=>⟨_,(aj (aC (df (by rfl) (by exact bS (osc:=ah iP) (xs:=["dot"]) (ns:=[]) (by decide +kernel)) bC.nil (dZ (dv 0)) (fun _ _ _ _ _=>cD) (fun _ _ _ _ _=>(aM PB hr (aa (dv 0) ae)))))),?_⟩
 rintro ds Q Ed ⟨d,rfl,h⟩;walk_at "s";unfold gM at h;obtain⟨ds,rfl,hl,h⟩:=h;walk_at "x";refine PD.comp_map ds N8 (fun _=>true) (fun x=>.tup [.int x.1,.int x.2.1]) (fun R q=>?_) (au (by omega)) (fun x _ K hK=>?_) (fun x _ _ K hK=>?_) ?_
 ·walk_at "x";exact q
 ·walk_at "x";exact hK
 ·exact Eq.mpr (mv κ _ (fun _=>False) x) hK
 ·rw[Zo.mpr fun _ _=>rfl];exact h
theorem AU (F:ar K "is_map" "is_map" lP f fd) (C:ON K mg κ)  (N7:jO P w K mg base κ) (RU:mg "all" = none) (LK:mg "isinstance" = none) (LQ:mg "len" = none) (OO:mg "tuple" = none):aE P w K mg base (CX1 P w) 4 f fd ["thing"] (aJ K (nh κ)):=by
 refine ar.okN F Bh (by walk_at "l") fun _ _ _ _ _ _ hr=>⟨_,(ao (aS (VI.pt (lF (eP (eQ (fE (by rfl) LK (by rfl) OO boot_tuple (.inr (.inr (.inl rfl))) (dv 0)))) (jc (aK jg (aO bE (by rfl) LQ Se (aa (dv 0) ae)) ag)))) (aj (aC qm)) aB) (ao (aS (eP (eQ (aO (Gn rfl) (by rfl) RU boot_all (aa (df (by rfl) (by exact bS (osc:=ah lP) (xs:=["number"]) (ns:=[]) (by decide +kernel)) bC.nil (HB (dv 0)) (fun _ _ _ _ _=>cD) (fun _ _ _ _ _=>(aM N7 hr (aa (dv 0) ae)))) ae)))) (aj (aC qm)) aB) (aj (aC (kW jg (aG dJ (az (dv 0) ag) (az (dv 0) ag)) (aG dJ (az (dv 0) ag) (az (dv 0) ag))))))),?_⟩
 rintro ds Q Ed ⟨d,rfl,h⟩;walk_at "s";unfold jV at h;walk_at "x";cases d with
 |tup ys =>
  rw[LO (by rw[ym];simp)];walk_at "x";by_cases h6:ys.length=6
  ·rw[LX (by rw[h6];rfl)];refine PD.comp_map ys id (fun _=>true) (fun y=>.bl (Vo y)) (fun R q=>?_) (by rw[TM];omega) (fun y hy K hk=>?_) (fun y hy _ K hk=>?_) ?_
   ·walk_at "x";rw[List.map_id]at q;exact q
   ·walk_at "x";exact hk
   ·walk_at "x";have e:Vo (av (id y))=Vo y:=mh y _ _;rw[e];exact hk
   ·refine⟨true,ys.map Vo,by rw[Zo.mpr (fun _ _=>rfl),Yr];rfl,?_⟩;have ea:(ys.map Vo).all id=ys.all Vo:=by rw[List.all_map];rfl
    rw[ea];by_cases SG:ys.all Vo=true
    ·rw[LO (by rw[SG];simp)];have hb:=Up.mp SG;obtain⟨a,b,c,d,e,f,rfl⟩:=six h6;obtain⟨a,rfl,ba⟩:=nM (hb a (by simp));obtain⟨b,rfl,bb⟩:=nM (hb b (by simp));obtain⟨c,rfl,bc⟩:=nM (hb c (by simp));obtain⟨d,rfl,bd⟩:=nM (hb d (by simp));walk_at "x";refine⟨.inl (ba.mono (by decide)),.inl (bb.mono (by decide)),?_⟩;have em:eI (.tup [.int a,.int b,.int c,.int d,e,f])=!decide (a*d=b*c):=by
      unfold eI;simp only[SG,Zt];simp[nI]
     rw[em]at h;exact h
    ·rw[LX (by simpa using SG)];have em:eI (.tup ys)=false:=by
      unfold eI;simp only[Bool.eq_false_iff.mpr SG,Yo,Bool.and_false]
     rw[em]at h;exact h
  ·rw[LO (by omega)];have em:eI (.tup ys)=false:=by
    unfold eI;simp only[TL h6,Yo]
   rw[em]at h;exact h
 |Nx=>exact h
 |bl b=>exact h
 |str x=>exact h
 |int i=>exact h
 |lst t ds=>exact h
 |exc c=>exact h
 |obj _ _ _=>exact h
 |Sy=>exact h
 |Si _ _=>exact h
theorem vP (F:ar K "check_map" "check_map" ki f fd) (C:ON K mg κ)  (SO:BH P w K mg base κ)  : aE P w K mg base (CX1 P w) 5 f fd ["by_map"] (aJ K (jC κ)):=by
 refine ar.Sz F wy (by walk_at "l") fun _ _ _ _ _ _ Ed hr pm px hx=>⟨_,(aj (aS (eP (eQ (aM SO hr (aa (dv 0) ae)))) (aj (aW pm (by rfl) C.Pp C.Pd rfl (aa ak ae))) aB)),?_⟩
 rintro ds Q ⟨d,rfl,h⟩;walk_at "s";unfold fN at h;walk_at "x";rw[vL];rcases h with⟨e,h⟩| ⟨e,h⟩
 ·rw[LO (by rw[e];simp)];exact h
 ·rw[LX e];exact⟨SA _,h⟩
theorem CG (F:ar K "moved" "moved" sC f fd) (C:ON K mg κ)    : aE P w K mg base (CX1 P w) 1 f fd ["place", "by_map"] (aJ K (pS κ)):=by
 refine ar.okN F pP (by walk_at "l") fun _ _ _ _ _ _ hr=>⟨_,(ao (aL 2 pP.nd (aG bh (aG bh (aG dJ (az (dv 1) ag) (az (dv 0) ag)) (aG dJ (az (dv 1) ag) (az (dv 0) ag))) (aG dJ (az (dv 1) ag) (az (dv 0) ag)))) (ao (aL 3 pP.nd (aG bh (aG bh (aG dJ (az (dv 1) ag) (az (dv 0) ag)) (aG dJ (az (dv 1) ag) (az (dv 0) ag))) (aG dJ (az (dv 1) ag) (az (dv 0) ag)))) (aj (aC (bF (aa (az (dv 0) ag) (aa (dv 2) (aa (dv 3) ae)))))))),?_⟩
 rintro ds Q Ed ⟨p0,p1,p2,m,rfl,h⟩;walk_at "s";unfold lO at h;obtain⟨h0,h1,h2,M,h⟩:=h;unfold VY;walk_at "x";have cm:∀{x y:Int},Bd 41 x->CM x y:=fun hx=>.inl (hx.mono (by decide))
 refine⟨cm M.a,cm M.b,_,cT (j:=4) rfl,?_⟩;walk_at "x";refine⟨cm M.e,cm M.c,cm M.d,_,cT (j:=5) rfl,?_⟩;walk_at "x";exact⟨cm M.f,sz3 _ _ _,h⟩
theorem xx (F:ar K "sent_dot" "sent_dot" lV f fd) (C:ON K mg κ)  (N7:jO P w K mg base κ) (Ue:D8 P w K mg base κ) (Rt:yC P w K mg base κ) (PB:sY P w K mg base κ)  : aE P w K mg base (CX1 P w) 4 f fd ["dot", "by_map"] (aJ K (kK κ)):=by
 refine ar.Sz F oS (by walk_at "l") fun _ _ _ _ _ _ Ed hr pm px hx=>⟨_,(ao (aL 2 oS.nd (aM Ue hr (aa (aM Rt hr (aa (aM PB hr (aa (dv 0) ae)) ae)) (aa (dv 1) ae)))) (ao (aS (VI.pt (lF (eP (eQ (aM N7 hr (aa (az (dv 2) ag) ae)))) (jc (eP (eQ (aM N7 hr (aa (az (dv 2) ag) ae))))))) (aj (aW pm (by rfl) C.OK C.OF rfl (aa ak ae))) aB) (aj (aC (bF (aa (az (dv 2) ag) (aa (az (dv 2) ag) (aa (az (dv 0) ag) (aa (az (dv 0) ag) ae))))))))),?_⟩
 rintro ds Q ⟨p,m,rfl,h⟩;walk_at "s";unfold gK at h;obtain⟨hx,hy,M,h⟩:=h;walk_at "x";have e1:m.1*p.1+m.2.1*p.2.1+m.2.2.2.2.1*1=sx m p.1 p.2.1:=by unfold sx;omega
 have e2:m.2.2.1*p.1+m.2.2.2.1*p.2.1+m.2.2.2.2.2*1=sy m p.1 p.2.1:=by unfold sy;omega
 refine⟨Bd.mono (m:=2) (by unfold Bd;decide) (by decide),hx.mono (by decide),hy.mono (by decide),M,?_⟩;simp only[e1,e2,Jz];unfold iI at h;rcases h with⟨hn,h⟩| ⟨hn,h⟩
 ·rw[S7]at hn;rw[LO (by rw[hn.1];simp),LO (by rw[hn.2];simp)];unfold N8;walk_at "x";exact⟨sz4 _ _ _ _,h⟩
 ·by_cases z:inR (sx m p.1 p.2.1)=false
  ·rw[LX z];exact⟨SA _,h⟩
  ·rw[LO z,LX (by
    have z':inR (sx m p.1 p.2.1)=true:=by simpa using z
    rw[z',Zt]at hn;exact hn)]
   exact⟨SA _,h⟩
theorem E9 (F:ar K "sent" "sent" qQ f fd) (C:ON K mg κ)  (QR:wZ P w K mg base κ) (Ru:yE P w K mg base κ)  : aE P w K mg base (CX1 P w) 6 f fd ["dots", "by_map"] (aJ K (sP κ)):=by
 refine ar.Sz F FC (by walk_at "l") fun _ _ _ _ _ _ Ed hr pm px hx=>⟨_,(ao (iS (bw px QR (hr.mono (by decide)) (aa (dv 1) ae))) (aj (aC (B9 hx (by rfl) (by exact bS (osc:=ah qQ) (xs:=["dot"]) (ns:=["by_map"]) (by decide +kernel)) (bC.cons 1 bC.nil) (dZ (dv 0)) (fun _ _ _ _ _ px=>cD) (fun _ _ _ _ _ px=>(bw px Ru (hr.mono (by decide)) (aa (dv 0) (aa (dv 1) ae)))))))),?_⟩
 rintro ds Q ⟨ps,d,rfl,h⟩;walk_at "s";unfold nW at h;walk_at "x";rw[vL];rcases h with⟨e,h⟩| ⟨m,rfl,M,e,hl,hb,h⟩
 ·exact .inr ⟨e,h⟩
 ·refine .inl ⟨e,?_⟩;refine PD.jQ ps N8 (iI m) (fun p=>N8 (zu m p)) (fun R q=>?_) (by rw[TM];omega) (fun p hp hn K hk=>?_) (fun p hp hn K=>?_) (fun SG=>?_)
  ·walk_at "x";exact q
  ·walk_at "x";exact⟨(hb p hp).1,(hb p hp).2,M,.inl ⟨hn,hk⟩⟩
  ·walk_at "x";refine⟨(hb p hp).1,(hb p hp).2,M,.inr ⟨hn,?_⟩⟩;rcases h with⟨ha,_⟩| ⟨_,h⟩
   ·rw[Up]at ha;rw[ha p hp]at hn;cases hn
   ·exact h
  ·rcases h with⟨_,h⟩| ⟨ha,_⟩
   ·rw[Yr]at h;exact h
   ·rw[SG]at ha;cases ha
theorem uz (F:ar K "two_groups" "two_groups" jx f fd) (C:ON K mg κ)   (LQ:mg "len" = none):aE P w K mg base (CX1 P w) 1 f fd ["spots"] (aJ K (iB κ)):=by
 refine ar.Sz F uD (by walk_at "l") fun _ _ _ _ _ _ Ed hr pm px hx=>⟨_,(ao (aS (aK jU (aO bE (by rfl) LQ Se (aa (dv 0) ae)) ag) (aj (aW pm (by rfl) C.Oy C.Ov rfl (aa ak ae))) aB) (aj cZ)),?_⟩
 rintro ds Q ⟨d,rfl,h⟩;walk_at "s";unfold fi at h;obtain⟨xs,rfl,hl,h⟩:=h;walk_at "x";rw[LX (by omega)];exact⟨SA _,h⟩
theorem qI (F:ar K "three_groups" "three_groups" gw f fd) (C:ON K mg κ)   (LQ:mg "len" = none):aE P w K mg base (CX1 P w) 1 f fd ["spots"] (aJ K (gm κ)):=by
 refine ar.Sz F qS (by walk_at "l") fun _ _ _ _ _ _ Ed hr pm px hx=>⟨_,(ao (aS (aK jU (aO bE (by rfl) LQ Se (aa (dv 0) ae)) ag) (aj (aW pm (by rfl) C.Oy C.Ov rfl (aa ak ae))) aB) (aj cZ)),?_⟩
 rintro ds Q ⟨d,rfl,h⟩;walk_at "s";unfold dq at h;obtain⟨xs,rfl,hl,h⟩:=h;walk_at "x";rw[LX (by omega)];exact⟨SA _,h⟩
theorem za (F:ar K "deepest" "deepest" m5 f fd) (C:ON K mg κ)   (LQ:mg "len" = none):aE P w K mg base (CX1 P w) 1 f fd ["dots"] (aJ K (l6 κ)):=by
 refine ar.Sz F zr (by walk_at "l") fun _ _ _ _ _ _ Ed hr pm px hx=>⟨_,(ao (aS (aK hG (aO bE (by rfl) LQ Se (aa (dv 0) ae)) ag) (aj (aW pm (by rfl) C.Oy C.Ov rfl (aa ak ae))) aB) (ao (aS (aK uO (aO bE (by rfl) LQ Se (aa (dv 0) ae)) (bz C.Mx)) (aj (aW pm (by rfl) C.OE C.OG rfl (aa ak ae))) aB) (ao cZ (ao cZ (aj cZ))))),?_⟩
 rintro ds Q ⟨d,rfl,h⟩;walk_at "s";unfold iM at h;obtain⟨xs,rfl,hl,h⟩:=h;walk_at "x";rw[LO (by omega),LX (by omega)];exact⟨SA _,h⟩
theorem uj (F:ar K "check_text" "check_text" jo f fd) (C:ON K mg κ)   (LK:mg "isinstance" = none) (Mt:mg "str" = none):aE P w K mg base (CX1 P w) 1 f fd ["thing"] (aJ K (ir κ)):=by
 refine ar.Sz F uA (by walk_at "l") fun _ _ _ _ _ _ Ed hr pm px hx=>⟨_,(aj (aS (eP (eQ (fE (by rfl) LK (by rfl) Mt US (.inr (.inr (.inr (.inr rfl)))) (dv 0)))) (aj (aW pm (by rfl) C.MA C.Mo rfl (aa ak ae))) aB)),?_⟩
 rintro ds Q ⟨d,rfl,h⟩;walk_at "s";unfold eY at h;walk_at "x";rcases h with⟨e,h⟩| ⟨e,h⟩<;>rw[e]
 ·exact h
 ·exact⟨SA _,h⟩
theorem xC (F:ar K "whole_of" "whole_of" lY f fd) (C:ON K mg κ)   (PV:mg "int" = none):aE P w K mg base (CX1 P w) 1 f fd ["word"] (aJ K (kP κ)):=by
 refine ar.okN F xH (by walk_at "l") fun _ _ _ _ _ _ hr=>⟨_,(aj (Am (bu Ek (by rfl) PV boot_int (aa (dv 0) ae)))),?_⟩
 rintro ds Q Ed ⟨t,rfl,h⟩;walk_at "s";unfold gO at h;obtain⟨T,n,e,h⟩:=h;walk_at "x";exact⟨t,n,rfl,e,by have:=T.l;omega,h⟩
theorem vZ (F:ar K "whole_of" "whole_of" oO f fd) (C:ON K mg κ)   (Mc:mg "ValueError" = none) (PV:mg "int" = none):FnC P w K mg base 1 f fd ["word"] (jL κ):=by
 refine ar.Yg F wF (by walk_at "l") fun _ _ _ _ _ _ Ed hr pm px hx=>⟨_,(aV (Gw hx rfl C.MA C.Mo PV Mc (dv 0)) (bq.c aB)),?_⟩
 rintro ds Q ⟨t,rfl,h⟩;walk_at "s";unfold fY at h;walk_at "x";exact h
theorem uq (F:ar K "read_whole" "read_whole" jt f fd) (C:ON K mg κ)  (Rv:yH P w K mg base κ) (PW:mg "abs" = none) (LQ:mg "len" = none) (Mt:mg "str" = none):aE P w K mg base (CX1 P w) 2 f fd ["word", "digits"] (aJ K (ix κ)):=by
 refine ar.Sz F mn (by walk_at "l") fun _ _ _ _ _ _ Ed hr pm px hx=>⟨_,(ao (aL 2 mn.nd (aM Rv hr (aa (dv 0) ae))) (ao (aS (aK (uP (by exact hr.units)) (bu cU (by rfl) Mt US (aa (dv 2) ae)) (dv 0)) (aj (aW pm (by rfl) C.MA C.Mo rfl (aa ak ae))) aB) (ao (aS (aK uO (aO nL (by rfl) LQ Se (aa (bu cU (by rfl) Mt US (aa (aO vj (by rfl) PW boot_abs (aa (dv 2) ae)) ae)) ae)) (dv 1)) (aj (aW pm (by rfl) C.MA C.Mo rfl (aa ak ae))) aB) (aj (aC (dv 2)))))),?_⟩
 rintro ds Q ⟨t,k,rfl,h⟩;walk_at "s";unfold fb at h;obtain⟨T,m,rfl,m1,m9,h⟩:=h;walk_at "x";refine⟨T,?_⟩;cases q:PySem.intText? t with
 |none =>
  have e:wN m (sgn t)=none:=by
   unfold wN;split
   ·rw[fK];exact q
   ·rfl
  rw[e]at h;exact h.elim
 |some n =>
  refine⟨n,rfl,?_⟩;have bn:=Dr T q;have hb:Bd 1000 ((n.natAbs:Nat):Int):=bn;refine⟨lg bn,bX (wW n),bX T.a,?_⟩;by_cases e:Str.ofString (toString n)=t
  ·rw[LO (by rw[e];simp)];have e1:tx n=sgn t:=by unfold tx;rw[e]
   refine⟨lg hb,au (by rw[gZ];have:=qz hb;omega),?_⟩;rw[gZ,gn];by_cases z:n.natAbs<10 ^ m
   ·rw[LO (by have:=(qq m1).mpr z;omega)];rw[<- e1,mf m1 m9 z]at h;exact h
   ·rw[LX (by have:=mt (qq m1).mp z;omega)];rw[<- e1,BF (by rw[qx m1];exact TL z)]at h;exact h.elim
  ·rw[LX (by simpa using e)];have e2:wN m (sgn t)=none:=by
    cases w:wN m (sgn t)with
    |none=>rfl
    |some m' =>
     have i1:=BE w;rw[fK,q]at i1;injection i1 with i1;subst i1;exact absurd (bO (sX m1 m9 w).2.1) e
   rw[e2]at h;exact h.elim
theorem sd (F:ar K "read_whole" "read_whole" ml f fd) (C:ON K mg κ)  (QS:xf P w K mg base κ) (PW:mg "abs" = none) (LQ:mg "len" = none) (Mt:mg "str" = none):FnC P w K mg base 2 f fd ["word", "digits"] (cW κ):=by
 refine ar.Yg F lz (by walk_at "l") fun _ _ _ _ _ _ Ed hr pm px hx=>⟨_,(aV (qh 2 lz.nd (bR px QS (hr.mono (by decide)) (Qc.c (aa (dv 0) ae)))) (bq.c (ao (aS (aK (uP (by exact hr.units)) (bu cU (by rfl) Mt US (aa (dv 2) ae)) (dv 0)) (aj (aW pm (by rfl) C.MA C.Mo rfl (aa ak ae))) aB) (ao (aS (aK uO (aO nL (by rfl) LQ Se (aa (bu cU (by rfl) Mt US (aa (aO vj (by rfl) PW boot_abs (aa (dv 2) ae)) ae)) ae)) (dv 1)) (aj (aW pm (by rfl) C.MA C.Mo rfl (aa ak ae))) aB) (aj (aC (dv 2))))))),?_⟩
 rintro ds Q ⟨t,k,rfl,h⟩;walk_at "s";unfold eF at h;obtain⟨T,m,rfl,m1,m9,h⟩:=h;walk_at "x";refine⟨by have:=T.l;omega,fun c hc=>by have:=T.a c hc;omega,?_⟩;cases q:PySem.intText? t with
 |none =>
  have e:wN m (sgn t)=none:=by
   unfold wN;split
   ·rw[fK];exact q
   ·rfl
  rw[e]at h;exact h
 |some n =>
  have bn:=Dr T q;have hb:Bd 1000 ((n.natAbs:Nat):Int):=bn;refine⟨lg bn,bX (wW n),bX T.a,?_⟩;by_cases e:Str.ofString (toString n)=t
  ·rw[LO (by rw[e];simp)];have e1:tx n=sgn t:=by unfold tx;rw[e]
   refine⟨lg hb,au (by rw[gZ];have:=qz hb;omega),?_⟩;rw[gZ,gn];by_cases z:n.natAbs<10 ^ m
   ·rw[LO (by have:=(qq m1).mpr z;omega)];rw[<- e1,mf m1 m9 z]at h;exact h
   ·rw[LX (by have:=mt (qq m1).mp z;omega)];rw[<- e1,BF (by rw[qx m1];exact TL z)]at h;exact⟨SA _,h⟩
  ·rw[LX (by simpa using e)];have e2:wN m (sgn t)=none:=by
    cases w:wN m (sgn t)with
    |none=>rfl
    |some m' =>
     have i1:=BE w;rw[fK,q]at i1;injection i1 with i1;subst i1;exact absurd (bO (sX m1 m9 w).2.1) e
   rw[e2]at h;exact⟨SA _,h⟩
theorem rZ (F:ar K "read_colour" "read_colour" ip f fd) (C:ON K mg κ)   (LQ:mg "len" = none):aE P w K mg base (CX1 P w) 1 f fd ["word"] (aJ K (gA κ)):=by
 refine ar.Sz F sF (by walk_at "l") fun _ _ _ _ _ _ Ed hr pm px hx=>⟨_,(ao (aS (VI.pt (lF (aK jg (aO nL (by rfl) LQ Se (aa (dv 0) ae)) ag) (jc (aK tU (dv 0) (ja C.Oh))))) (aj (aW pm (by rfl) C.MA C.Mo rfl (aa ak ae))) aB) (aj (aC (vw (ja C.Oh) (aa (dv 0) ae))))),?_⟩
 rintro ds Q ⟨t,rfl,h⟩;walk_at "s";unfold eB at h;obtain⟨T,h⟩:=h;walk_at "x";refine⟨au (by have:=T.l;omega),?_⟩;by_cases l:t.length=1
 ·rw[LX (by omega)];rw[LX l]at h;obtain⟨c,rfl⟩:=AX l;rw[Cp];rcases uN (Str.ofString "abc") c with⟨h1,h2⟩| ⟨a,b,r,h1,h2⟩
  ·rw[h1];show if(false=false)then _ else _
   rw[LX rfl];rw[qP]at h1;rw[show col (sgn ⟨#[c]⟩)=none from zQ h1]at h;exact h.elim
  ·rw[h1,LO (by simp)];rw[qP]at h1;rw[show col (sgn ⟨#[c]⟩)=some (a.length:Int)from xQ h1]at h;exact⟨_,r,h2,h⟩
 ·rw[LO (by omega)];rw[LO l]at h;exact h.elim
theorem qG (F:ar K "read_colour" "read_colour" lx f fd) (C:ON K mg κ)   (LQ:mg "len" = none):aE P w K mg base (CX1 P w) 1 f fd ["word"] (aJ K (gi κ)):=by
 refine ar.Sz F qR (by walk_at "l") fun _ _ _ _ _ _ Ed hr pm px hx=>⟨_,(ao (aS (VI.pt (lF (aK jg (aO nL (by rfl) LQ Se (aa (dv 0) ae)) ag) (jc (aK tU (dv 0) (ja C.Oh))))) (aj (aW pm (by rfl) C.MA C.Mo rfl (aa ak ae))) aB) (aj (aC (vw (ja C.Oh) (aa (dv 0) ae))))),?_⟩
 rintro ds Q ⟨t,rfl,h⟩;walk_at "s";unfold di at h;obtain⟨T,h⟩:=h;walk_at "x";refine⟨au (by have:=T.l;omega),?_⟩;by_cases l:t.length=1
 ·rw[LX (by omega)];rw[LX l]at h;obtain⟨c,rfl⟩:=AX l;rw[Cp];rcases uN (Str.ofString "abc") c with⟨h1,h2⟩| ⟨a,b,r,h1,h2⟩
  ·rw[h1];show if(false=false)then _ else _
   rw[LX rfl];rw[qP]at h1;rw[show col (sgn ⟨#[c]⟩)=none from zQ h1]at h;exact⟨SA _,h⟩
  ·rw[h1,LO (by simp)];rw[qP]at h1;rw[show col (sgn ⟨#[c]⟩)=some (a.length:Int)from xQ h1]at h;exact⟨_,r,h2,h⟩
 ·rw[LO (by omega)];rw[LO l]at h;exact⟨SA _,h⟩
theorem pH (F:ar K "read_from_two" "read_from_two" gf f fd) (C:ON K mg κ)  (NR:iW P w K mg base κ)  : aE P w K mg base (CX1 P w) 3 f fd ["word", "digits"] (aJ K (fD κ)):=by
 refine ar.Sz F jB (by walk_at "l") fun _ _ _ _ _ _ Ed hr pm px hx=>⟨_,(ao (aL 2 jB.nd (bw px NR (hr.mono (by decide)) (aa (dv 0) (aa (dv 1) ae)))) (ao (aS (aK jU (dv 2) ag) (aj (aW pm (by rfl) C.MA C.Mo rfl (aa ak ae))) aB) (aj (aC (dv 2))))),?_⟩
 rintro ds Q ⟨t,k,rfl,h⟩;walk_at "s";unfold c8 at h;obtain⟨T,m,rfl,m1,m9,h⟩:=h;walk_at "x";refine⟨T,m,rfl,m1,m9,?_⟩;unfold w2 at h;cases q:wN m (sgn t)with
 |none=>rw[q]at h;exact h
 |some n =>
  rw[q]at h;dsimp only at h ⊢;by_cases z:n<2
  ·rw[LX z]at h ⊢;exact h.elim
  ·rw[LO z]at h ⊢;exact h
theorem oo (F:ar K "read_from_two" "read_from_two" jr f fd) (C:ON K mg κ)  (L4:eV P w K mg base κ)  : FnC P w K mg base 3 f fd ["word", "digits"] (eL κ):=by
 refine ar.Yg F iE (by walk_at "l") fun _ _ _ _ _ _ Ed hr pm px hx=>⟨_,(aV (qh 2 iE.nd (bR px L4 (hr.mono (by decide)) (Qc.c (aa (dv 0) (aa (dv 1) ae))))) (bq.c (ao (aS (aK jU (dv 2) ag) (aj (aW pm (by rfl) C.MA C.Mo rfl (aa ak ae))) aB) (aj (aC (dv 2)))))),?_⟩
 rintro ds Q ⟨t,k,rfl,h⟩;walk_at "s";unfold cQ at h;obtain⟨T,m,rfl,m1,m9,h⟩:=h;walk_at "x";refine⟨T,m,rfl,m1,m9,?_⟩;unfold w2 at h;cases q:wN m (sgn t)with
 |none=>rw[q]at h;exact h
 |some n =>
  rw[q]at h;dsimp only at h ⊢;by_cases z:n<2
  ·rw[LX z]at h ⊢;exact⟨SA _,h⟩
  ·rw[LO z]at h ⊢;exact h
theorem xw (F:ar K "read_dot" "read_dot" lU f fd) (C:ON K mg κ)  (Qe:uf P w K mg base κ) (Pr:qc P w K mg base κ) (NR:iW P w K mg base κ)  : aE P w K mg base (CX1 P w) 4 f fd ["word"] (aJ K (kJ κ)):=by
 refine ar.Sz F kA (by walk_at "l") fun _ _ _ _ _ _ Ed hr pm px hx=>⟨_,(ao (aL 1 kA.nd (iR (qo (dv 0) (cu ag) cq) (aa ak ae))) (ao (aL 2 kA.nd (iR (az (dv 1) ag) (aa ak ae))) (aj (aC (bF (aa (bw px NR (hr.mono (by decide)) (aa (az (dv 1) ag) (aa (bz C.LM) ae))) (aa (bw px NR (hr.mono (by decide)) (aa (az (dv 2) ag) (aa (bz C.LM) ae))) (aa (bw px Qe (hr.mono (by decide)) (aa (qo (dv 0) cq (cu ag)) ae)) (aa (jb (aK (cO (by exact hr.units)) (az (dv 2) ag) ak) (bw px Pr (hr.mono (by decide)) (aa (az (dv 2) ag) (aa (bz C.Me) ae))) ag) ae))))))))),?_⟩
 rintro ds Q ⟨t,rfl,h⟩;walk_at "s";unfold gJ at h;obtain⟨T,h⟩:=h;walk_at "x";have Tt:=T.tail;rw[zP,wV,kU,c_w,lh,aP];obtain⟨t1,t2⟩:=Tt.sp 58;rw[aP]at t1 t2;walk_at "x";refine⟨au (by have:=T.l;omega),rfl,au (by have:=Tt.l;omega),rfl,au (by have:=t2.l;omega),t1,12,rfl,by decide,by decide,?_⟩;unfold Wf at h;rw[aP];cases w1:wN 12 (Ri 58 (sgn t).tail).1 with
 |none=>rw[w1]at h;exact h
 |some x =>
  rw[w1]at h;dsimp only at h ⊢;rw[lh,aP];obtain⟨u1,u2⟩:=t2.sp 119;rw[aP]at u1 u2;walk_at "x";refine⟨u1,12,rfl,by decide,by decide,?_⟩;rw[aP];rw[Ji]at h;cases w2':wN 12 (Ri 119 (Ri 58 (sgn t).tail).2).1 with
  |none=>rw[w2']at h;exact h
  |some y =>
   rw[w2']at h;dsimp only at h ⊢;refine⟨au (by have:=T.l;omega),by rw[pB];exact T.head,?_⟩;cases cc:col (sgn t)with
   |none=>rw[cc]at h;exact h
   |some c =>
    rw[cc]at h;dsimp only at h ⊢;unfold We at h;cases q:bg 119 (Ri 58 (sgn t).tail).2 with
    |none =>
     rw[q]at h;walk_at "x";refine⟨bX (x:=Str.empty) (fun c hc=>by cases hc),bX (nJ (by decide)),?_⟩;show if((Str.empty:Str)==(⟨#[119]⟩:Str))=true then _ else _
     rw[x9,LO (by simp)];exact⟨sW _ _ _ _,h⟩
    |some p =>
     rw[q]at h;walk_at "x";refine⟨bX (nJ (by decide)),bX (nJ (by decide)),?_⟩;show if((⟨#[119]⟩:Str)==(⟨#[119]⟩:Str))=true then _ else _
     rw[LX (by simp)];refine⟨u2,9,rfl,by decide,by decide,?_⟩;have e2:(Ri 119 (Ri 58 (sgn t).tail).2).2=p.2:=by
      show(match bg 119 (Ri 58 (sgn t).tail).2 with|none=>((Ri 58 (sgn t).tail).2,[])|some p=>p:yag×yag).2=p.2;rw[q]
     rw[aP,e2];dsimp only[wtL]at h;cases w9:w2 9 p.2 with
     |none=>rw[w9]at h;exact h
     |some n=>rw[w9]at h;exact⟨sW _ _ _ _,h⟩
theorem vT (F:ar K "read_dot" "read_dot" oN f fd) (C:ON K mg κ)  (OA:kS P w K mg base κ) (Og:iV P w K mg base κ) (L4:eV P w K mg base κ)  : FnC P w K mg base 4 f fd ["word"] (jG κ):=by
 refine ar.Yg F jA (by walk_at "l") fun _ _ _ _ _ _ Ed hr pm px hx=>⟨_,(aV (Q9.c (aL 1 jA.nd (iR (qo (dv 0) (cu ag) cq) (aa ak ae)))) (aV (Q9.c (aL 2 jA.nd (iR (az (dv 1) ag) (aa ak ae)))) (aV (qg (Gs (gq (bR px L4 (hr.mono (by decide)) (Qc.c (aa (az (dv 1) ag) (aa (bz C.LM) ae)))) (gq (bR px L4 (hr.mono (by decide)) (Qc.c (aa (az (dv 2) ag) (aa (bz C.LM) ae)))) (gq (Mv.c (bw px OA (hr.mono (by decide)) (aa (qo (dv 0) cq (cu ag)) ae))) (gq (BY (Tn.c (aK (cO (by exact hr.units)) (az (dv 2) ag) ak)) (bR px Og (hr.mono (by decide)) (Qc.c (aa (az (dv 2) ag) (aa (bz C.Me) ae)))) (Mv.c ag)) (Qc.c ae))))))) (bq.c aB)))),?_⟩
 rintro ds Q ⟨t,rfl,h⟩;walk_at "s";unfold fR at h;obtain⟨T,h⟩:=h;walk_at "x";have Tt:=T.tail;rw[zP,wV,kU,c_w,lh,aP];obtain⟨t1,t2⟩:=Tt.sp 58;rw[aP]at t1 t2;walk_at "x";refine⟨au (by have:=T.l;omega),rfl,au (by have:=Tt.l;omega),rfl,au (by have:=t2.l;omega),t1,12,rfl,by decide,by decide,?_⟩;unfold Wf at h;rw[aP];cases w1:wN 12 (Ri 58 (sgn t).tail).1 with
 |none=>rw[w1]at h;exact h
 |some x =>
  rw[w1]at h;dsimp only at h ⊢;rw[lh,aP];obtain⟨u1,u2⟩:=t2.sp 119;rw[aP]at u1 u2;walk_at "x";refine⟨u1,12,rfl,by decide,by decide,?_⟩;rw[aP];rw[Ji]at h;cases w2':wN 12 (Ri 119 (Ri 58 (sgn t).tail).2).1 with
  |none=>rw[w2']at h;exact h
  |some y =>
   rw[w2']at h;dsimp only at h ⊢;refine⟨au (by have:=T.l;omega),by rw[pB];exact T.head,?_⟩;cases cc:col (sgn t)with
   |none=>rw[cc]at h;exact h
   |some c =>
    rw[cc]at h;dsimp only at h ⊢;unfold We at h;cases q:bg 119 (Ri 58 (sgn t).tail).2 with
    |none =>
     rw[q]at h;walk_at "x";refine⟨bX (x:=Str.empty) (fun c hc=>by cases hc),bX (nJ (by decide)),?_⟩;show if((Str.empty:Str)==(⟨#[119]⟩:Str))=true then _ else _
     rw[x9,LO (by simp)];exact⟨sW _ _ _ _,h⟩
    |some p =>
     rw[q]at h;walk_at "x";refine⟨bX (nJ (by decide)),bX (nJ (by decide)),?_⟩;show if((⟨#[119]⟩:Str)==(⟨#[119]⟩:Str))=true then _ else _
     rw[LX (by simp)];refine⟨u2,9,rfl,by decide,by decide,?_⟩;have e2:(Ri 119 (Ri 58 (sgn t).tail).2).2=p.2:=by
      show(match bg 119 (Ri 58 (sgn t).tail).2 with|none=>((Ri 58 (sgn t).tail).2,[])|some p=>p:yag×yag).2=p.2;rw[q]
     rw[aP,e2];dsimp only[wtL]at h;cases w9:w2 9 p.2 with
     |none=>rw[w9]at h;exact h
     |some n=>rw[w9]at h;exact⟨sW _ _ _ _,h⟩
theorem vW (F:ar K "show_spot" "show_spot" kx f fd) (C:ON K mg κ)    : aE P w K mg base (CX1 P w) 1 f fd ["x", "y"] (aJ K (jI κ)):=by
 refine ar.okN F wC (by walk_at "l") fun _ _ _ _ _ _ hr=>⟨_,(aj (aC (mI (dX (kX (dv 0)) (dX ak (dX (kX (dv 1)) vD)))))),?_⟩
 rintro ds Q Ed ⟨x,y,rfl,h⟩;walk_at "s";unfold fV at h;obtain⟨bx,b2,h⟩:=h;walk_at "x";have l1:=qz bx;have l2:=qz b2;rw[<- gZ]at l1 l2;rw[kU];refine⟨lg bx,au ?_,au ?_,lg b2,au ?_,au ?_,?_⟩
 all_goals rw[rT]
 ·omega
 ·rw[bD,bH];omega
 ·rw[bD,bD,bH];omega
 ·rw[bD,bD,bH];omega
 ·rw[FJ];exact h
theorem xy (F:ar K "show_dot" "show_dot" lW f fd) (C:ON K mg κ)  (O0:oG P w K mg base κ)  : aE P w K mg base (CX1 P w) 2 f fd ["dot"] (aJ K (kL κ)):=by
 refine ar.okN F kB (by walk_at "l") fun _ _ _ _ _ _ hr=>⟨_,(ao (aL 1 kB.nd (aG dM (Aa (ja C.Oh) (az (dv 0) ag)) (aM O0 hr (aa (az (dv 0) ag) (aa (az (dv 0) ag) ae))))) (ao (aL 2 kB.nd (az (dv 0) ag)) (aj (aC (jb (aK hG (dv 2) ag) (dv 1) (mI (dX (kX (dv 1)) (dX ak (dX (kX (dv 2)) vD))))))))),?_⟩
 rintro ds Q Ed ⟨d,rfl,h⟩;walk_at "s";unfold gL at h;obtain⟨o,h⟩:=h;have l1:=dW (n:=d.1) (k:=12) (by decide) (by rw[WQ];exact o.x);have l2:=dW (n:=d.2.1) (k:=12) (by decide) (by rw[WQ];exact o.y);have l3:=dW (n:=d.2.2.2) (k:=9) (by decide) (by rw[n9];have:=o.w1;have:=o.w9;omega);rw[<- gZ]at l3;have l4:(OH (tx d.1++58::tx d.2.1)).length<=27:=by rw[eS,Q7,Sd];omega
 unfold N8;walk_at "x";refine⟨au (by decide +kernel),lt d.2.2.1,zF o.c0 o.c3,iG o.x,iG o.y,au (by rw[bH];omega),?_⟩;by_cases e:d.2.2.2=1
 ·rw[LX e,wd1 d e];exact h
 ·rw[LO e,c_w,wd2 d e];have q:((⟨#[lt d.2.2.1]⟩:Str)++OH (tx d.1++58::tx d.2.1)).length<=28:=by rw[bD,bH];omega
  have:=nY o;refine⟨au (by omega),au ?_,au ?_,lg (iG (by have:=o.w1;have:=o.w9;omega)),au (by rw[eS];omega),au (by rw[eS];omega),h⟩
  ·rw[rT];omega
  ·rw[rT,bD,bH];omega
theorem vV (F:ar K "show_dots" "show_dots" gP f fd) (C:ON K mg κ)  (Rw:yF P w K mg base κ)  : aE P w K mg base (CX1 P w) 3 f fd ["dots"] (aJ K (jH κ)):=by
 refine ar.okN F wB (by walk_at "l") fun _ _ _ _ _ _ hr=>⟨_,(aj (aC (rK ak (aa (df (by rfl) (by exact bS (osc:=ah gP) (xs:=["dot"]) (ns:=[]) (by decide +kernel)) bC.nil (dZ (dv 0)) (fun _ _ _ _ _=>cD) (fun _ _ _ _ _=>(aM Rw hr (aa (dv 0) ae)))) ae)))),?_⟩
 rintro ds Q Ed ⟨d,rfl,h⟩;walk_at "s";unfold fU at h;obtain⟨ds,rfl,ho,hl,h⟩:=h;walk_at "x";refine PD.jQ ds N8 (fun _=>true) (fun d=>D.str (OH (QN d))) (fun R q=>?_) (au (by omega)) (fun x hx _ K hK=>?_) (fun x hx z=>by cases z) fun _=>?_
 ·walk_at "x";exact q
 ·walk_at "x";exact⟨ho x hx,hK⟩
 ·refine⟨_,ds.map fun d=>OH (QN d),by rw[Yr];rfl,by rw[ia];decide,?_,?_⟩
  ·have:=vI ho;rw[Ph]at this ⊢;omega
  ·rw[ia,vK];exact h
theorem r9 (F:ar K "read_place" "read_place" mj f fd) (C:ON K mg κ)  (Qu:uT P w K mg base κ) (SQ:BI P w K mg base κ) (Og:iV P w K mg base κ) (L4:eV P w K mg base κ)  : FnC P w K mg base 4 f fd ["text"] (gB κ):=by
 refine ar.Yg F bK (by walk_at "l") fun _ _ _ _ _ _ Ed hr pm px hx=>⟨_,(aV (Q9.c (iS (bw px Qu (hr.mono (by decide)) (aa (dv 0) ae)))) (aV (Q9.c (aL 1 bK.nd ag)) (aV (Q9.c (aL 2 bK.nd (dv 0))) (aV (yN (Tn.c (aK Iq ak (dv 0))) (aV (Q9.c (aL 5 bK.nd (iR (dv 0) (aa ak ae)))) (aV (qh 1 bK.nd (bR px Og (hr.mono (by decide)) (Qc.c (aa (az (dv 5) ag) (aa (bz C.L9) ae))))) (bq.c (aj (aL 2 bK.nd (az (dv 5) ag)))))) (bq.c aB)) (aV (Q9.c (aL 3 bK.nd (iR (dv 2) (aa ak ae)))) (aV (qh 4 bK.nd (Gr (gq (Mv.c (dv 1)) (gq (bR px L4 (hr.mono (by decide)) (Qc.c (aa (az (dv 3) ag) (aa (bz C.L9) ae)))) (gq (bR px L4 (hr.mono (by decide)) (Qc.c (aa (az (dv 3) ag) (aa (bz C.L9) ae)))) (Qc.c ae)))))) (bq.c (ao (aS (aK (uP (by exact hr.units)) (aM SQ hr (aa (dv 4) ae)) (dv 4)) (aj (aW pm (by rfl) C.MA C.Mo rfl (aa ak ae))) aB) (aj (aC (bF (aa (az (dv 4) ag) (aa (az (dv 4) ag) (aa (az (dv 4) ag) ae)))))))))))))),?_⟩
 rintro ds Q ⟨t,rfl,h⟩;walk_at "s";unfold eE at h;have key:∀(b:Int) (s:Str),0<b->Bd 200 b->TX s->(match xyL b (Ri 58 (sgn s))with|some p=>Q (T3 p.1 p.2.1 p.2.2)|none=>Ed (.ref κ.NoText))->(fz (iJ s ⟨#[58]⟩) (D.int 0) fun x_1=>cW κ [av x_1,D.int 40] (fun ZE=>fz (iJ s ⟨#[58]⟩) (D.int 2) fun x=>cW κ [av x,D.int 40] (fun x=>[D.int b,ZE,x].length<=sizeLine/\j0 κ [D.lst false [D.int b,av ZE,av x]] (fun x_3=>okD x_3/\okD (D.lst true [D.int b,ZE,x])/\if eqD x_3 (D.lst true [D.int b,ZE,x])=false then[D.str (Str.ofString "a place is written in lowest terms")].length<=sizeLine/\Ed (Value.ref κ.NoText)else[D.int b,ZE,x].length<=sizeLine/\Q (D.tup [D.int b,ZE,x])) fun x=>False) Ed) Ed):=by
  intro b s hb bb T h;have e:=lh 58 s;rw[e];obtain⟨t1,t2⟩:=T.sp 58;walk_at "x";refine⟨t1,40,rfl,by decide,by decide,?_⟩;unfold xyL at h;rw[aP];cases w1:wN 40 (Ri 58 (sgn s)).1 with
  |none=>rw[w1]at h;exact h
  |some x =>
   rw[w1]at h;dsimp only at h ⊢;walk_at "x";refine⟨t2,40,rfl,by decide,by decide,?_⟩;rw[aP];cases w2:wN 40 (Ri 58 (sgn s)).2 with
   |none=>rw[w2]at h;exact h
   |some y =>
    rw[w2]at h;dsimp only at h ⊢;walk_at "x";refine⟨dU _ _ _,Eq.mpr (nj κ _ _ [b,x,y]) ?_⟩;have gp:=As (x:=x) (y:=y) hb;have gl:=JY (x:=x) (y:=y) hb;refine⟨by show 3<100;decide,by rw[gl3];omega,(by rw[gl3];unfold Bd at bb ⊢;have:2 ^ 200<=2 ^ 1000:=(by decide);omega),DV _ _ _ _,DV _ _ _ _,?_⟩;rw[Ic hb];by_cases g:PM.g3 b x y=1
    ·rw[Tz g,LO (by simp)];rw[LX g]at h;exact⟨dU _ _ _,h⟩
    ·rw[TL g,LX rfl];rw[LO g]at h;exact⟨SA _,h⟩
 obtain⟨T,h⟩:=h;walk_at "x";rw[KO,kU,Cp];unfold rpL byL at h;cases q:bg 64 (sgn t)with
 |none =>
  rw[q]at h;exact⟨rfl,au (by have:=T.l;omega),key 1 t (by decide) (by unfold Bd;decide) T h⟩
 |some p =>
  rw[q]at h;obtain⟨m,e⟩:=Fd q;obtain⟨t1,t2⟩:=T.cut q;dsimp only[Option.isSome]at h ⊢;rw[LX rfl,e];walk_at "x";refine⟨rfl,au (by have:=T.l;omega),t1,40,rfl,by decide,by decide,?_⟩;rw[aP];unfold w2;cases w:wN 40 p.1 with
  |none=>rw[w]at h;exact h
  |some n =>
   rw[w]at h;dsimp only at h ⊢;by_cases z:n<2
   ·rw[LX z]at h ⊢;exact h
   ·rw[LO z]at h ⊢;walk_at "x";exact⟨rfl,au (by have:=t2.l;omega),key n (OH p.2) (by omega) (Ju (sX (by decide) (by decide) w).2.2) t2 (by rw[aP];exact h)⟩
theorem uw (F:ar K "show_place" "show_place" ju f fd) (C:ON K mg κ)  (O0:oG P w K mg base κ)  : aE P w K mg base (CX1 P w) 2 f fd ["place"] (aJ K (iy κ)):=by
 refine ar.okN F iq (by walk_at "l") fun _ _ _ _ _ _ hr=>⟨_,(ao (aL 1 iq.nd (az (dv 0) ag)) (ao (aL 2 iq.nd (aM O0 hr (aa (az (dv 0) ag) (aa (az (dv 0) ag) ae)))) (aj (aC (jb (aK hG (dv 1) ag) (dv 2) (mI (dX (kX (dv 1)) (dX ak (dX (kX (dv 2)) vD))))))))),?_⟩
 rintro ds Q Ed ⟨d,rfl,h⟩;walk_at "s";unfold fe at h;exact h.elim
theorem Iy (F:ar K "put" "put" zp f fd) (C:ON K mg κ)   (LQ:mg "len" = none):aE P w K mg base (CX1 P w) 1 f fd ["dots", "given"] (aJ K (wU κ)):=by
 refine ar.Sz F I0 (by walk_at "l") fun _ _ _ _ _ _ Ed hr pm px hx=>⟨_,(ao (aS (aK DR (aO bE (by rfl) LQ Se (aa (dv 0) ae)) (bz C.OC)) (aj (aW pm (by rfl) C.OK C.OF rfl (aa ak ae))) aB) (aj (aC (aG bh (dv 0) (b9 (aa (az (dv 1) ag) ae)))))),?_⟩
 rintro ds Q ⟨d,e,rfl,h⟩;walk_at "s";unfold qM at h;obtain⟨ds,g,rfl,rfl,hl,h⟩:=h;walk_at "x";rw[Ph];by_cases c:30<=ds.length
 ·rw[LX c]at h;rw[LX (by omega)];exact⟨SA _,h⟩
 ·rw[LO c]at h;rw[LO (by omega)];rw[VC]at h;exact⟨SA _,au (by show _+1<=_;omega),h⟩
theorem Iv (F:ar K "cut" "cut" zo f fd) (C:ON K mg κ)   (LQ:mg "len" = none):aE P w K mg base (CX1 P w) 1 f fd ["dots", "given"] (aJ K (wO κ)):=by
 refine ar.Sz F Bg (by walk_at "l") fun _ _ _ _ _ _ Ed hr pm px hx=>⟨_,(ao (aL 2 Bg.nd (az (dv 1) ag)) (ao (aS (VI.pt (lF (aK jU (dv 2) ag) (jc (aK DR (dv 2) (aO bE (by rfl) LQ Se (aa (dv 0) ae)))))) (aj (aW pm (by rfl) C.OY C.OT rfl (aa ak ae))) aB) (aj (aC (aG bh (U1.Yd (dG (dv 0) cq (cu (dv 2)))) (U1.Yd (dG (dv 0) (cu (aG bh (dv 2) ag)) cq))))))),?_⟩
 rintro ds Q ⟨d,e,rfl,h⟩;walk_at "s";unfold qL at h;obtain⟨ds,n,rfl,rfl,hl,h⟩:=h;walk_at "x";rw[Ph];by_cases c:n<0
 ·rw[LX (.inl c)]at h;rw[LX c];exact⟨SA _,h⟩
 rw[LO c];by_cases c2:(ds.length:Int)<=n
 ·rw[LX (.inr c2)]at h;rw[LX c2];exact⟨SA _,h⟩
 rw[LO (fun z=>z.elim c c2)]at h;rw[LO c2,Du N8 ds (by omega),yO N8 ds (by omega)];rw[VC]at h;refine⟨au ?_,h⟩;rw[Ph,Ph,Uq,WZ];omega
theorem AW (F:ar K "mapped" "mapped" pM f fd) (C:ON K mg κ)  (Vp:F8 P w K mg base κ) (OO:mg "tuple" = none):aE P w K mg base (CX1 P w) 7 f fd ["dots", "given"] (aJ K (nk κ)):=by
 refine ar.Sz F Bi (by walk_at "l") fun _ _ _ _ _ _ Ed hr pm px hx=>⟨_,(aj (aC (bw px Vp (hr.mono (by decide)) (aa (dv 0) (aa (bu BX (by rfl) OO boot_tuple (aa (dv 1) ae)) ae))))),?_⟩
 rintro ds Q ⟨d,e,rfl,h⟩;walk_at "s";unfold jX at h;obtain⟨ds,m,rfl,rfl,ho,hl,hm,hb,h⟩:=h
 match m,hm with
 |[a,b,c,d,e,f'],_ =>
  have b60:∀{z:Int},z.natAbs<1000000000000->Bd 60 z:=fun hz=>Nat.lt_trans hz (by decide)
  have ZF:∀z ∈ [a,b,c,d,e,f'],Bd 41 z:=fun z hz=>RX (hb z hz) (by decide)
  have em:=Cw hb;walk_at "x";rw[em]
  replace h:if a*d=b*c then Ed (.ref κ.NoMap)else if(ds.map (Ts [a,b,c,d,e,f'])).any cL=true then Ed (.ref κ.NoDots)else Q (.lst true ((ds.map (Ts [a,b,c,d,e,f'])).map N8)):=h
  by_cases fl:a*d=b*c
  ·rw[LX fl]at h;exact .inl ⟨by rw[Tz fl];rfl,h⟩
  ·rw[LO fl]at h;refine .inr ⟨(a,b,c,d,e,f'),rfl,⟨ZF a (by simp),ZF b (by simp),ZF c (by simp),ZF d (by simp),ZF e (by simp),ZF f' (by simp),fl⟩,by rw[TL fl];rfl,by omega,fun p hp=>⟨b60 (ho p hp).x,b60 (ho p hp).y⟩,?_⟩;rw[BO];cases fr:(ds.map (Ts [a,b,c,d,e,f'])).any cL with
   |true=>rw[LX fr]at h;exact .inr ⟨rfl,h⟩
   |false=>rw[LO (by rw[fr];simp)]at h;exact .inl ⟨rfl,h⟩
theorem y9 (F:ar K "cleared" "cleared" mZ f fd) (C:ON K mg κ)    : aE P w K mg base (CX1 P w) 1 f fd ["dots", "given"] (aJ K (lZ κ)):=by
 refine ar.okN F zq (by walk_at "l") fun _ _ _ _ _ _ hr=>⟨_,(aj (aC (b9 ae))),?_⟩
 rintro ds Q Ed ⟨d,e,rfl,h⟩;walk_at "s";unfold iL at h;walk_at "x";exact⟨au (S9 _),h⟩
theorem vY (F:ar K "tell_dots" "tell_dots" kz f fd) (C:ON K mg κ)  (QT:xb P w K mg base κ)  : aE P w K mg base (CX1 P w) 4 f fd ["dots", "given"] (aJ K (jK κ)):=by
 refine ar.okN F wD (by walk_at "l") fun _ _ _ _ _ _ hr=>⟨_,(aj (aC (aM QT hr (aa (dv 0) ae)))),?_⟩
 rintro ds Q Ed ⟨d,e,rfl,h⟩;walk_at "s";unfold fX at h;obtain⟨ds,rfl,h⟩:=h;walk_at "x";exact⟨ds,rfl,h⟩
theorem qH (F:ar K "tell_deepest" "tell_deepest" gv f fd) (C:ON K mg κ)  (Qn:zD P w K mg base κ)  : aE P w K mg base (CX1 P w) 2 f fd ["dots", "given"] (aJ K (gk κ)):=by
 refine ar.Sz F jZ (by walk_at "l") fun _ _ _ _ _ _ Ed hr pm px hx=>⟨_,(ao (aL 2 jZ.nd (bw px Qn (hr.mono (by decide)) (aa (dv 0) ae))) (aj cZ)),?_⟩
 rintro ds Q ⟨d,e,rfl,h⟩;walk_at "s";unfold dj at h;obtain⟨ds,rfl,hl,h⟩:=h;walk_at "x";exact⟨_,rfl,by rw[Ph];exact hl,h⟩
theorem xB (F:ar K "tell_two" "tell_two" lX f fd) (C:ON K mg κ)  (OL:mB P w K mg base κ) (Pf:qe P w K mg base κ) (Qv:uZ P w K mg base κ)  : aE P w K mg base (CX1 P w) 3 f fd ["dots", "given"] (aJ K (kO κ)):=by
 refine ar.Sz F xG (by walk_at "l") fun _ _ _ _ _ _ Ed hr pm px hx=>⟨_,(aj (aC (aM OL hr (aa (az (bw px Qv (hr.mono (by decide)) (aa (aM Pf hr (aa (dv 0) ae)) ae)) ag) ae)))),?_⟩
 rintro ds Q ⟨d,e,rfl,h⟩;walk_at "s";unfold gN at h;obtain⟨ds,rfl,hl,h⟩:=h;walk_at "x";exact⟨ds,rfl,by omega,_,rfl,by rw[cI _ (fun x=>rfl),Ph];exact hl,h⟩
theorem uy (F:ar K "tell_three" "tell_three" jv f fd) (C:ON K mg κ)  (OL:mB P w K mg base κ) (Pf:qe P w K mg base κ) (PY:rC P w K mg base κ)  : aE P w K mg base (CX1 P w) 3 f fd ["dots", "given"] (aJ K (iA κ)):=by
 refine ar.Sz F uC (by walk_at "l") fun _ _ _ _ _ _ Ed hr pm px hx=>⟨_,(aj (aC (aM OL hr (aa (az (bw px PY (hr.mono (by decide)) (aa (aM Pf hr (aa (dv 0) ae)) ae)) ag) ae)))),?_⟩
 rintro ds Q ⟨d,e,rfl,h⟩;walk_at "s";unfold fh at h;obtain⟨ds,rfl,hl,h⟩:=h;walk_at "x";exact⟨ds,rfl,by omega,_,rfl,by rw[cI _ (fun x=>rfl),Ph];exact hl,h⟩
theorem vU (F:ar K "read_word" "read_word" ku f fd) (C:ON K mg κ)  (Rx:yD P w K mg base κ) (NR:iW P w K mg base κ)  : aE P w K mg base (CX1 P w) 5 f fd ["form", "word"] (aJ K (dR κ)):=by
 refine ar.Sz F wA (by walk_at "l") fun _ _ _ _ _ _ Ed hr pm px hx=>⟨_,(ao (aS (aK (cO (by exact hr.units)) (dv 0) ak) (aj (aC (bw px Rx (hr.mono (by decide)) (aa (dv 1) ae)))) aB) (ao (aS (aK (cO (by exact hr.units)) (dv 0) ak) (aj cZ) aB) (ao (aS (aK (cO (by exact hr.units)) (dv 0) ak) (aj cZ) aB) (aj (aC (bw px NR (hr.mono (by decide)) (aa (dv 1) (aa (jb (aK (cO (by exact hr.units)) (dv 0) ak) (bz C.Mf) (bz C.LM)) ae)))))))),?_⟩
 rintro ds Q ⟨u,t,rfl,h⟩;walk_at "s";unfold fT at h;obtain⟨T,d,e,h⟩:=h;have ok:∀{x:Str},TX x->okD (.str x):=fun T=>bX T.a
 have ol:∀{x:Str},(sgn x).all (·<128)=true->okD (.str x):=fun h=>bX fun c hc=>by simpa using Up.mp h c hc
 walk_at "x";unfold Tc at e;have ou:okD (D.str u):=by
  by_cases c1:u = "dot"
  ·rw[c1];exact ol (by decide +kernel)
  rw[LO c1]at e;by_cases c2:u = "number"
  ·rw[c2];exact ol (by decide +kernel)
  rw[LO c2]at e;by_cases c3:u = "entry"
  ·rw[c3];exact ol (by decide +kernel)
  rw[LO c3]at e;cases e
 refine⟨ou,ol (by decide +kernel),?_⟩;by_cases c1:u = "dot"
 ·rw[LX c1]at e;rw[LX (by rw[c1];decide +kernel)];refine⟨T,?_⟩;obtain⟨x,ex,rfl⟩:=Zm.mp e;rw[ex];exact h
 rw[LO c1]at e;rw[LO (by simpa using c1)];refine⟨ou,ol (by decide +kernel),?_⟩;have key:∀k:Nat,(wN k (sgn t)).map D.int=some d->1<=k->k<=1000->TX t/\∃m:Nat,(k:Int)=m/\1<=m/\m<=1000/\match wN m (sgn t)with|some n=>Q (D.int n)|none=>False:=fun k ek k1 k9=>by obtain⟨x,ex,rfl⟩:=Zm.mp ek;refine⟨T,k,rfl,k1,k9,?_⟩;rw[ex];exact h
 by_cases c2:u = "number"
 ·rw[LX c2]at e;rw[LO (by rw[c2];decide +kernel)];refine⟨ou,ol (by decide +kernel),?_⟩;rw[LO (by rw[c2];decide +kernel)];refine⟨ou,ol (by decide +kernel),?_⟩;rw[LX (by rw[c2];decide +kernel)];exact key 2 e (by decide) (by decide)
 rw[LO c2]at e;by_cases c3:u = "entry"
 ·rw[LX c3]at e;rw[LO (by rw[c3];decide +kernel)];refine⟨ou,ol (by decide +kernel),?_⟩;rw[LO (by rw[c3];decide +kernel)];refine⟨ou,ol (by decide +kernel),?_⟩;rw[LO (by rw[c3];decide +kernel)];exact key 12 e (by decide) (by decide)
 rw[LO c3]at e;cases e
theorem uv (F:ar K "read_word" "read_word" m6 f fd) (C:ON K mg κ)  (OA:kS P w K mg base κ) (QU:xa P w K mg base κ) (Qf:ug P w K mg base κ) (L4:eV P w K mg base κ)  : FnC P w K mg base 5 f fd ["form", "word"] (fk κ):=by
 refine ar.Yg F uB (by walk_at "l") fun _ _ _ _ _ _ Ed hr pm px hx=>⟨_,(aV (yN (Tn.c (aK (cO (by exact hr.units)) (dv 0) ak)) (aV (qg (bR px QU (hr.mono (by decide)) (Qc.c (aa (dv 1) ae)))) (bq.c aB)) (bq.c aB)) (aV (yN (Tn.c (aK (cO (by exact hr.units)) (dv 0) ak)) (aV (qg (bR px Qf (hr.mono (by decide)) (Qc.c (aa (dv 1) ae)))) (bq.c aB)) (bq.c aB)) (aV (Q9.c (aS (aK (cO (by exact hr.units)) (dv 0) ak) (aj (aC (bw px OA (hr.mono (by decide)) (aa (dv 1) ae)))) aB)) (aV (qg (bR px L4 (hr.mono (by decide)) (Qc.c (aa (dv 1) (aa (jb (aK (cO (by exact hr.units)) (dv 0) ak) (bz C.Mf) (bz C.LM)) ae))))) (bq.c aB))))),?_⟩
 rintro ds Q ⟨u,t,rfl,h⟩;walk_at "s";unfold fc at h;obtain⟨T,hu,h⟩:=h;have ol:∀{x:Str},(sgn x).all (·<128)=true->okD (.str x):=fun h=>bX fun c hc=>by simpa using Up.mp h c hc
 walk_at "x";unfold Zg at h;have o1:okD (D.str (Str.ofString "dot")):=ol (by decide +kernel);have o2:okD (D.str (Str.ofString "place")):=ol (by decide +kernel);have o3:okD (D.str (Str.ofString "letter")):=ol (by decide +kernel);have o4:okD (D.str (Str.ofString "number")):=ol (by decide +kernel);rcases hu with rfl|rfl|rfl|rfl|rfl
 ·rw[LX rfl]at h;refine⟨o1,o1,?_⟩;rw[LX (by decide +kernel)];refine⟨T,?_⟩;cases e:Wf (sgn t)with
  |none=>rw[e]at h;exact h
  |some x=>rw[e]at h;exact h
 ·rw[LO (by decide +kernel),LX rfl]at h;refine⟨o2,o1,?_⟩;rw[LO (by decide +kernel)];refine⟨o2,o2,?_⟩;rw[LX (by decide +kernel)];refine⟨T,?_⟩;cases e:rpL (sgn t)with
  |none=>rw[e]at h;exact h
  |some x=>rw[e]at h;exact h
 ·rw[LO (by decide +kernel),LO (by decide +kernel),LX rfl]at h;refine⟨o3,o1,?_⟩;rw[LO (by decide +kernel)];refine⟨o3,o2,?_⟩;rw[LO (by decide +kernel)];refine⟨o3,o3,?_⟩;rw[LX (by decide +kernel)];refine⟨T,?_⟩;cases e:(if t.length=1 then col (sgn t)else none)with
  |none=>rw[e]at h;exact h
  |some x=>rw[e]at h;exact h
 ·rw[LO (by decide +kernel),LO (by decide +kernel),LO (by decide +kernel),LX rfl]at h;refine⟨o4,o1,?_⟩;rw[LO (by decide +kernel)];refine⟨o4,o2,?_⟩;rw[LO (by decide +kernel)];refine⟨o4,o3,?_⟩;rw[LO (by decide +kernel)];refine⟨o4,o4,?_⟩;rw[LX (by decide +kernel)];refine⟨T,2,rfl,by decide,by decide,?_⟩;cases e:wN 2 (sgn t)with
  |none=>rw[e]at h;exact h
  |some x=>rw[e]at h;exact h
 ·rw[LO (by decide +kernel),LO (by decide +kernel),LO (by decide +kernel),LO (by decide +kernel),LX rfl]at h;have o5:okD (D.str (Str.ofString "entry")):=ol (by decide +kernel);refine⟨o5,o1,?_⟩;rw[LO (by decide +kernel)];refine⟨o5,o2,?_⟩;rw[LO (by decide +kernel)];refine⟨o5,o3,?_⟩;rw[LO (by decide +kernel)];refine⟨o5,o4,?_⟩;rw[LO (by decide +kernel)];refine⟨T,12,rfl,by decide,by decide,?_⟩;cases e:wN 12 (sgn t)with
  |none=>rw[e]at h;exact h
  |some x=>rw[e]at h;exact h
theorem vX (F:ar K "split_row" "split_row" ky f fd) (FO:nG K w mg) (C:ON K mg κ)   (LK:mg "isinstance" = none) (LQ:mg "len" = none) (Mt:mg "str" = none):aE P w K mg base (CX1 P w) 1 f fd ["row"] (aJ K (jJ κ)):=by
 obtain⟨aF,esF,mF,kF,oF⟩:=FO;refine ar.Sz F ng (by walk_at "l") fun _ _ _ _ _ _ Ed hr pm px hx=>⟨_,(ao (aS (eP (eQ (fE (by rfl) LK (by rfl) Mt US (.inr (.inr (.inr (.inr rfl)))) (dv 0)))) (aj (aW pm (by rfl) C.Oz C.Om rfl (aa ak ae))) aB) (ao (aL 1 ng.nd (vA (dv 0) (aa ak ae))) (ao (aS (tM kF mF (az (dv 1) ag)) (aj (aW pm (by rfl) C.Oz C.Om rfl (aa ak ae))) aB) (ao (aS (aK jg (aO bE (by rfl) LQ Se (aa (dv 1) ae)) (aG bh ag (xT (hml:=LQ) kF mF (az (dv 1) ag)))) (aj (aW pm (by rfl) C.Oz C.Om rfl (aa ak ae))) aB) (aj (aC (dv 1))))))),?_⟩
 rintro ds Q ⟨d,rfl,h⟩;walk_at "s";unfold fW at h;obtain⟨f0,vs,fs,rfl,hf,hl,R,h⟩:=h;have sp:Txt.split (Str.join ⟨#[32]⟩ (f0::vs)) ⟨#[32]⟩=f0::vs:=C6 (by simp) fun p hp=>(R.w p hp).n
 have ln:(Str.join ⟨#[32]⟩ (f0::vs)).length<=41*(f0::vs).length:=AI R.w;have l7:=R.l;have pl:=tW (Str.join ⟨#[32]⟩ (f0::vs)) 32;have F:=oF f0 fs hf;obtain⟨b,eb,kt⟩:=id F;walk_at "x";refine⟨by rw[ia];rfl,au (by omega),by rw[ia];exact au (by omega),?_⟩;rw[ia,sp];unfold j6 yQ;walk_at "x";rw[eb];refine⟨f0,fs,rfl,F,?_⟩;walk_at "x";rw[LX (by rw[Sd,Ph,hl];omega)];exact h
theorem ux (F:ar K "split_row" "split_row" m7 f fd) (FO:oW K w mg) (C:ON K mg κ)   (LK:mg "isinstance" = none) (LQ:mg "len" = none) (Mt:mg "str" = none):aE P w K mg base (CX1 P w) 1 f fd ["row"] (aJ K (iz κ)):=by
 obtain⟨aF,esF,mF,kF,oF⟩:=FO;refine ar.Sz F mq (by walk_at "l") fun _ _ _ _ _ _ Ed hr pm px hx=>⟨_,(ao (aS (eP (eQ (fE (by rfl) LK (by rfl) Mt US (.inr (.inr (.inr (.inr rfl)))) (dv 0)))) (aj (aW pm (by rfl) C.Oz C.Om rfl (aa ak ae))) aB) (ao (aL 1 mq.nd (vA (dv 0) (aa ak ae))) (ao (aS (tM kF mF (az (dv 1) ag)) (aj (aW pm (by rfl) C.Oz C.Om rfl (aa ak ae))) aB) (ao (aS (aK jg (aO bE (by rfl) LQ Se (aa (dv 1) ae)) (aG bh ag (xT (hml:=LQ) kF mF (az (dv 1) ag)))) (aj (aW pm (by rfl) C.Oz C.Om rfl (aa ak ae))) aB) (aj (aC (dv 1))))))),?_⟩
 rintro ds Q ⟨d,rfl,h⟩;walk_at "s";unfold fg at h;walk_at "x";rcases h with⟨e,h⟩| ⟨r,rfl,T,h⟩
 ·rw[LX e];exact⟨SA _,h⟩
 rw[LO (show¬Ta "str" (D.str r)=false from fun z=>by cases z)];have pl:=tW r 32;have tl:=T.l;refine⟨r,rfl,by rw[ia];rfl,au (by omega),by rw[ia];exact au (by omega),?_⟩;rw[ia];unfold ie at h;cases ew:Txt.split r ⟨#[32]⟩with
 |nil=>exact absurd ew (pZ _ _)
 |cons f0 vs =>
  rw[ew]at h;dsimp only at h;have F:=oF f0;unfold j6 yQ;walk_at "x";cases eo:formOf f0 with
  |none =>
   rw[eo]at h F;dsimp only at h F;rw[F];exact⟨SA _,h⟩
  |some fs =>
   rw[eo]at h F;dsimp only at h F;obtain⟨b,eb,kt⟩:=id F;rw[eb];refine⟨f0,fs,rfl,F,?_⟩;walk_at "x";rw[Sd,Ph];by_cases c:vs.length=fs.length
   ·rw[LX c]at h;rw[LX (by omega)];exact h
   ·rw[LO c]at h;rw[LO (by omega)];exact⟨SA _,h⟩
theorem rX (F:ar K "_law_cell_at" "_law_cell_at" ij f fd) (C:ON K mg κ)   (LQ:mg "len" = none):aE P w K mg base (CX1 P w) 1 f fd ["_law_script", "_law_k"] (aJ K (gy κ)):=by
 refine ar.okN F sE (by walk_at "l") fun _ _ _ _ _ _ hr=>⟨_,(ao (aS (aK jU (dv 1) (aO bE (by rfl) LQ Se (aa (dv 0) ae))) (aj (aC (az (dv 0) (dv 1)))) aB) (aj (aC ag))),?_⟩
 rintro ds Q Ed ⟨ns,k,rfl,h⟩;walk_at "s";unfold d9 at h;obtain⟨hk,hn,h⟩:=h;walk_at "x";by_cases hl:k<((ns.map D.int).length:Int)
 ·rw[LX (by simpa using hl)];rw[Ph]at hl;exact⟨_,BP hk hl,h _⟩
 ·rw[LO (by simpa using hl)];exact h 0
theorem um (F:ar K "_law_stream" "_law_stream" jq f fd) (C:ON K mg κ)   (MX:mg "range" = none):aE P w K mg base (CX1 P w) 1 f fd ["_law_cell", "_law_many"] (aJ K (iu κ)):=by
 refine ar.okN F de (by walk_at "l") fun _ _ _ _ _ _ hr=>⟨_,(ao (Al 2 de.nd ae) (ao (aL 3 de.nd (aG bh (aG eT (dv 0) ag) ag)) (ao (Ak PassesOwn.never rfl (jT (by rfl) MX (aa (dv 1) ae)) (nS 4 de.nd) (ao (aL 3 de.nd (aG eT (aG bh (aG bh (aG dJ (dv 3) ag) (aG dJ (dv 4) (dv 4))) ag) ag)) (aj (gU 2 (aG la (dv 3) ag))))) (qt 2 (aj (aC (dv 2))))))),?_⟩
 rintro ds Q Ed ⟨c,m,rfl,h⟩;walk_at "s";unfold eZ at h;obtain⟨h0,h1,h⟩:=h;walk_at "x";refine⟨S9 _,by decide,?_⟩;unfold B0;walk_at "x";refine⟨⟨by omega,by omega⟩,fun j ρ=>∃(xs:yaf) (n:Int) (v:Option Sl),ρ=[some (.val (.int c)),some (.val (.int m)),some (.own (xs.map D.int)),some (.val (.int n)),v]/\xs.length=j/\(∀x∈xs,0<=x/\x<2147483647)/\0<=n/\n<2147531918,⟨[],_,none,rfl,rfl,by simp,?_,?_⟩,?_,?_⟩
 ·have:=fm (a:=c) (b:=2147483647) (by decide);omega
 ·have:=fm (a:=c) (b:=2147483647) (by decide);omega
 ·rintro j x NQ hx ⟨xs,n,v,rfl,hlen,hb,n0,n1⟩;obtain⟨hj,rfl⟩:=tY hx;have hm:j<1000:=by
   have:=Fx (by decide) hj;omega
  walk_at "x";refine⟨.inr (.inl (by unfold Bd;decide)),.inl (by unfold Bd;omega),by decide,CD.lit,by rw[Ph,TM];omega,?_⟩;have hf:=fm (a:=n*48271+(0+(j:Int)*1)*(0+(j:Int)*1)+11) (b:=2147483647) (by decide);generalize (n*48271+(0+(j:Int)*1)*(0+(j:Int)*1)+11).fmod 2147483647=y at hf ⊢;refine⟨xs++[y.fdiv 7],y,some (.val (.int (0+(j:Int)*1))),by simp,by simp[hlen],?_,by omega,by omega⟩;intro z hz;rcases Tf.mp hz with q|q
  ·exact hb z q
  ·simp at q;subst q;have e:=Int.fdiv_eq_ediv_of_nonneg y (show(0:Int)<=7 by decide);rw[e];omega
 ·rintro NQ ⟨xs,n,v,rfl,hlen,hb,n0,n1⟩;walk_at "x";refine h xs ?_ hb;rw[hlen,jl];unfold fL Builtin.Range.rangeSize;rw[LX (by decide)];split<;>omega
theorem xt (F:ar K "_law_dots" "_law_dots" iO f fd) (C:ON K mg κ)  (Qw:uU P w K mg base κ) (MX:mg "range" = none):aE P w K mg base (CX1 P w) 2 f fd ["_law_cell"] (aJ K (kG κ)):=by
 refine ar.okN F gR (by walk_at "l") fun _ _ _ _ _ _ hr=>⟨_,(ao (aL 1 gR.nd (aM Qw hr (aa (dv 0) (aa ag ae)))) (ao (aL 2 gR.nd (az (b9 (aa ag (aa ag (aa ag (aa ag (aa ag (aa ag (aa ag (aa ag ae))))))))) (aG eT (az (dv 1) ag) ag))) (ao (yS 3 gR.nd (by rfl) (by exact bS (osc:=ah iO) (xs:=["_law_k"]) (ns:=["_law_xs"]) (by decide +kernel)) (bC.cons 1 bC.nil) (jT (by rfl) MX (aa (dv 2) ae)) (fun _ _ _ _ _=>cD) (fun _ _ _ _ _=>(bF (aa (aG mU (aG eT (az (dv 1) (dv 0)) ag) ag) (aa (aG mU (aG eT (aG la (az (dv 1) (dv 0)) ag) ag) ag) (aa (aG eT (aG la (az (dv 1) (dv 0)) ag) ag) (aa (aG bh ag (aG eT (aG la (az (dv 1) (dv 0)) ag) ag)) ae))))))) (aj (aC (aG bh (b9 (aa (bF (aa ag (aa (az (az (dv 3) ag) ag) (aa (az (az (dv 3) ag) ag) (aa (az (az (dv 3) ag) ag) ae))))) ae)) (U1.Yd (dG (dv 3) (cu ag) cq)))))))),?_⟩
 rintro ds Q Ed ⟨c,rfl,h⟩;walk_at "s";unfold gG at h;walk_at "x";refine⟨by decide,by decide,fun xs hl hb=>?_⟩
 replace hl:xs.length=31:=hl
 have A:=fun k (hk:k<31)=>Jt (xs:=xs) k (by omega)
 refine⟨au (by show 8<=_;decide),_,A 30 (by decide),?_⟩;walk_at "x";have g8:=fm (a:=xs.getD 30 0) (b:=8) (by decide);obtain⟨m,em,h3,h30⟩:∃m:Nat,Rp [D.int 3,D.int 4,D.int 6,D.int 12,D.int 13,D.int 29,D.int 30,D.int 30] ((xs.getD 30 0).fmod 8)=some (.int (m:Int))/\3<=m/\m<=30:=by
  generalize (xs.getD 30 0).fmod 8=i at g8;have:i=0∨i=1∨i=2∨i=3∨i=4∨i=5∨i=6∨i=7:=by omega
  rcases this with rfl|rfl|rfl|rfl|rfl|rfl|rfl|rfl
  ·exact⟨3,rfl,by decide,by decide⟩
  ·exact⟨4,rfl,by decide,by decide⟩
  ·exact⟨6,rfl,by decide,by decide⟩
  ·exact⟨12,rfl,by decide,by decide⟩
  ·exact⟨13,rfl,by decide,by decide⟩
  ·exact⟨29,rfl,by decide,by decide⟩
  ·exact⟨30,rfl,by decide,by decide⟩
  ·exact⟨30,rfl,by decide,by decide⟩
 refine⟨by decide,_,em,?_⟩;unfold jR;walk_at "x";have rn:fL 0 (m:Int) 1=m:=Ks m;rw[rn];refine⟨⟨by omega,by omega⟩,au (by rw[jl];omega),fun j out=>∃ds:List Md,ds.length=j/\(∀d∈ds,TJ d)/\out=ds.map N8,⟨[],rfl,by simp,rfl⟩,?_,?_⟩
 ·rintro j d out hd ⟨ds,rfl,ho,rfl⟩;obtain⟨hj,rfl⟩:=tY hd;have ej:(0:Int)+(ds.length:Int)*1=(ds.length:Int):=by omega
  rw[ej];have G:=J0 hb ds.length;have h1:=fm (a:=xs.getD ds.length 0) (b:=9) (by decide);have h2:=fm (a:=(xs.getD ds.length 0).fdiv 9) (b:=9) (by decide);have h3:=fm (a:=(xs.getD ds.length 0).fdiv 81) (b:=3) (by decide);have h4:=fm (a:=(xs.getD ds.length 0).fdiv 243) (b:=3) (by decide);have cd:∀n:Int,(n=9∨n=81∨n=243)->CD (xs.getD ds.length 0) n:=fun n hn=>⟨by omega,by unfold Bd;rcases hn with rfl|rfl|rfl<;>decide⟩
  walk_at "x";refine⟨_,A ds.length (by omega),?_⟩;walk_at "x";refine⟨by decide,_,A ds.length (by omega),?_⟩;walk_at "x";refine⟨cd 9 (.inl rfl),by decide,_,A ds.length (by omega),?_⟩;walk_at "x";refine⟨cd 81 (.inr (.inl rfl)),by decide,_,A ds.length (by omega),?_⟩;walk_at "x";refine⟨cd 243 (.inr (.inr rfl)),by decide,sW _ _ _ _,ds++[((xs.getD ds.length 0).fmod 9 - 4,((xs.getD ds.length 0).fdiv 9).fmod 9 - 4,((xs.getD ds.length 0).fdiv 81).fmod 3,1+((xs.getD ds.length 0).fdiv 243).fmod 3)],by simp,fun e he=>?_,by rw[VC];rfl⟩;rcases Tf.mp he with z|z
  ·exact ho e z
  ·rw[Wg]at z;rw[z];exact⟨by show Int.natAbs ((xs.getD ds.length 0).fmod 9 - 4)<1000000000000;omega,by show Int.natAbs (((xs.getD ds.length 0).fdiv 9).fmod 9 - 4)<1000000000000;omega,h3.1,h3.2,by show 1<=1+((xs.getD ds.length 0).fdiv 243).fmod 3;omega,by show 1+((xs.getD ds.length 0).fdiv 243).fmod 3<1000000000;omega⟩
 ·rintro out ⟨ds,hn,ho,rfl⟩;rw[jl]at hn
  match ds,hn with
  |[],hn=>exact absurd hn (by show¬0=m;omega)
  |d::r,hn =>
   have od:=ho d Su;rw[Sv];unfold N8;walk_at "x";have lr:r.length+1=m:=hn;have ec:PD.cutD (D.tup [D.int d.1,D.int d.2.1,D.int d.2.2.1,D.int d.2.2.2]::r.map fun d=>D.tup [D.int d.1,D.int d.2.1,D.int d.2.2.1,D.int d.2.2.2]) (some 1) none=r.map N8:=yO N8 (d::r) (n:=0) (by decide);rw[ec];refine⟨sW _ _ _ _,SA _,au (by rw[Ph];show 1+_<=_;omega),?_⟩;exact h ((4,d.2.1,d.2.2.1,d.2.2.2)::r) (by show 3<=r.length+1;omega) (by show r.length+1<=30;omega) (fun x hx=>by
    rcases Rb.mp hx with z|z
    ·rw[z];exact⟨by show(4:Int).natAbs<_;decide,od.y,od.c0,od.c3,od.w1,od.w9⟩
    ·exact ho x (SD _ z)) ⟨_,r,rfl,rfl⟩
theorem xu (F:ar K "_law_word" "_law_word" lR f fd) (C:ON K mg κ)   (Mt:mg "str" = none):aE P w K mg base (CX1 P w) 1 f fd ["_law_dot"] (aJ K (kH κ)):=by
 refine ar.okN F oR (by walk_at "l") fun _ _ _ _ _ _ hr=>⟨_,(ao (aL 1 oR.nd (aG dM (aG dM (aG dM (Aa ak (az (dv 0) ag)) (bu cU (by rfl) Mt US (aa (az (dv 0) ag) ae))) ak) (bu cU (by rfl) Mt US (aa (az (dv 0) ag) ae)))) (ao (aS (aK hG (az (dv 0) ag) ag) (aj (aC (dv 1))) aB) (aj (aC (aG dM (aG dM (dv 1) ak) (bu cU (by rfl) Mt US (aa (az (dv 0) ag) ae))))))),?_⟩
 rintro ds Q Ed ⟨d,rfl,h⟩;walk_at "s";unfold gH at h;obtain⟨o,h⟩:=h;have l1:=dW (n:=d.1) (k:=12) (by decide) (by rw[WQ];exact o.x);have l2:=dW (n:=d.2.1) (k:=12) (by decide) (by rw[WQ];exact o.y);have l3:=dW (n:=d.2.2.2) (k:=9) (by decide) (by rw[n9];have:=o.w1;have:=o.w9;omega);rw[<- gZ]at l1 l2 l3;unfold N8;walk_at "x";rw[kU,c_w];refine⟨au (by decide +kernel),lt d.2.2.1,zF o.c0 o.c3,lg (iG o.x),au ?_,au ?_,lg (iG o.y),au ?_,?_⟩
 ·rw[bH];omega
 ·rw[bD,bH,bH];omega
 ·rw[bD,bD,bH,bH];omega
 by_cases e:d.2.2.2=1
 ·rw[LX e,Jk d e];exact h
 ·rw[LO e];refine⟨au ?_,lg (iG (by have:=o.w1;have:=o.w9;omega)),au ?_,?_⟩
  ·rw[bD,bD,bD,bH,bH,bH];omega
  ·rw[bD,bD,bD,bD,bH,bH,bH];omega
  ·rw[Jl d e];exact h
theorem rY (F:ar K "_law_no_asks" "_law_no_asks" ik f fd) (C:ON K mg κ)    : aE P w K mg base (CX1 P w) 1 f fd [] (aJ K (gz κ)):=by
 refine ar.okN F gx (by walk_at "l") fun _ _ _ _ _ _ hr=>⟨_,(ao (aL 0 gx.nd (b9 (aa ak (aa ak (aa ak (aa ak (aa ak (aa ak (aa ak (aa ak (aa ak (aa ak (aa ak ae))))))))))))) (ao (aL 0 gx.nd (aG bh (dv 0) (b9 (aa ak (aa ak (aa ak (aa ak (aa ak (aa ak (aa ak (aa ak ae))))))))))) (aj (aC (aG bh (dv 0) (b9 (aa ak (aa ak (aa ak (aa ak (aa ak (aa ak (aa mJ (aa ag (aa (b9 (aa ak ae)) (aa qm ae)))))))))))))))),?_⟩
 rintro ds Q Ed ⟨rfl,h⟩;walk_at "s";unfold eA at h;walk_at "x"
 repeat refine And.intro (au (UP rfl)) ?_
 exact h
theorem qD (F:ar K "_law_no_texts" "_law_no_texts" gu f fd) (C:ON K mg κ)    : aE P w K mg base (CX1 P w) 1 f fd [] (aJ K (gh κ)):=by
 refine ar.okN F dw (by walk_at "l") fun _ _ _ _ _ _ hr=>⟨_,(ao (aL 0 dw.nd (b9 (aa ak (aa ak (aa ak (aa ak (aa ak (aa ak (aa ak (aa ak (aa ak (aa ak ae)))))))))))) (ao (aL 0 dw.nd (aG bh (dv 0) (b9 (aa ak (aa ak (aa ak (aa ak (aa ak ae)))))))) (ao (aL 0 dw.nd (aG bh (dv 0) (b9 (aa ak (aa ak (aa ak (aa ak (aa ak (aa ak (aa ak (aa ak ae))))))))))) (aj (aC (aG bh (dv 0) (b9 (aa ak (aa ak ae))))))))),?_⟩
 rintro ds Q Ed ⟨rfl,h⟩;walk_at "s";unfold dh at h;walk_at "x"
 repeat refine And.intro (au (UP rfl)) ?_
 exact h
theorem vR (F:ar K "_law_deeds" "_law_deeds" km f fd) (C:ON K mg κ)   (Mt:mg "str" = none):aE P w K mg base (CX1 P w) 1 f fd ["_law_many"] (aJ K (jE κ)):=by
 refine ar.okN F jy (by walk_at "l") fun _ _ _ _ _ _ hr=>⟨_,(ao (Al 1 jy.nd (aa (bF (aa ak (aa ag ae))) (aa (bF (aa (aG dM ak (bu cU (by rfl) Mt US (aa (dv 0) ae))) (aa ag ae))) (aa (bF (aa ak (aa ag ae))) (aa (bF (aa ak (aa ag ae))) (aa (bF (aa ak (aa ag ae))) ae)))))) (ao (Ew 1 jy.nd (Eu 1 (Hd (dv 1) (b9 (aa (bF (aa ak (aa ag ae))) ae))))) (ao (aS (aK hG (dv 0) ag) (aj (gU 1 (bF (aa ak (aa ag ae))))) aB) (ao (aS (aK uO (dv 0) ag) (aj (gU 1 (bF (aa ak (aa ag ae))))) aB) (ao (aS (aK jU (dv 0) ag) (aj (gU 1 (bF (aa ak (aa ag ae))))) aB) (ao (aS (aK jU (dv 0) ag) (aj (gU 1 (bF (aa ak (aa ag ae))))) aB) (qt 1 (aj (aC (dv 1)))))))))),?_⟩
 rintro ds Q Ed ⟨c,rfl,h⟩;walk_at "s";unfold fP at h;obtain⟨n,rfl,hn,hm,h⟩:=h;have L:=Br (n:=(n:Int)) (k:=2) (by decide) (by omega);walk_at "x"
 repeat refine And.intro (au (UP rfl)) ?_
 refine⟨Nat.lt_of_le_of_lt (Nat.log2_le_self _) (by omega),au (by show 4+(tI n).length<=_;omega),?_⟩
 repeat refine And.intro (au (UP rfl)) ?_
 try unfold GH
 walk_at "x"
 repeat refine And.intro (au (UP rfl)) ?_
 refine⟨_,_,_,_,rfl,rfl,au (UP rfl),by simp[iF,hZ],?_⟩;unfold eO qp at h;rcases(by omega:n=30∨(12<n/\n<30)∨(7<=n/\n<=12)∨(4<=n/\n<7)∨n=3)with g|g|g|g|g
 ·rw[LX (by omega),LX (by omega),LO (by omega),LO (by omega)];rw[LX (by omega),LX (by omega),LO (by omega),LO (by omega)]at h
  repeat first|refine And.intro (au (UP rfl)) ?_|refine And.intro (ZV (au (UP rfl))) ?_
  exact h
 ·rw[LO (by omega),LX (by omega),LO (by omega),LO (by omega)];rw[LO (by omega),LX (by omega),LO (by omega),LO (by omega)]at h
  repeat first|refine And.intro (au (UP rfl)) ?_|refine And.intro (ZV (au (UP rfl))) ?_
  exact h
 ·rw[LO (by omega),LO (by omega),LO (by omega),LO (by omega)];rw[LO (by omega),LO (by omega),LO (by omega),LO (by omega)]at h
  repeat first|refine And.intro (au (UP rfl)) ?_|refine And.intro (ZV (au (UP rfl))) ?_
  exact h
 ·rw[LO (by omega),LO (by omega),LX (by omega),LO (by omega)];rw[LO (by omega),LO (by omega),LX (by omega),LO (by omega)]at h
  repeat first|refine And.intro (au (UP rfl)) ?_|refine And.intro (ZV (au (UP rfl))) ?_
  exact h
 ·rw[LO (by omega),LO (by omega),LX (by omega),LX (by omega)];rw[LO (by omega),LO (by omega),LX (by omega),LX (by omega)]at h
  repeat first|refine And.intro (au (UP rfl)) ?_|refine And.intro (ZV (au (UP rfl))) ?_
  exact h
theorem vS (F:ar K "_law_kinds" "_law_kinds" kr f fd) (C:ON K mg κ)   (LK:mg "isinstance" = none):aE P w K mg base (CX1 P w) 1 f fd ["_law_caught"] (aJ K (jF κ)):=by
 refine ar.okN F jz (by walk_at "l") fun _ _ _ _ _ _ hr=>⟨_,(ao (aL 1 jz.nd (b9 (aa (bU (by rfl) LK (cV (v:=.ref κ.NoAsk) (by rfl) C.Oz rfl) (fun u h=>h) (dv 0)) (aa (bU (by rfl) LK (cV (v:=.ref κ.NoText) (by rfl) C.MA rfl) (fun u h=>h) (dv 0)) (aa (bU (by rfl) LK (cV (v:=.ref κ.NoMap) (by rfl) C.Pp rfl) (fun u h=>h) (dv 0)) ae))))) (ao (aL 1 jz.nd (aG bh (dv 1) (b9 (aa (bU (by rfl) LK (cV (v:=.ref κ.NoSuch) (by rfl) C.OY rfl) (fun u h=>h) (dv 0)) (aa (bU (by rfl) LK (cV (v:=.ref κ.NoDots) (by rfl) C.OK rfl) (fun u h=>h) (dv 0)) (aa (bU (by rfl) LK (cV (v:=.ref κ.TooMany) (by rfl) C.OE rfl) (fun u h=>h) (dv 0)) ae)))))) (aj (aC (aG bh (dv 1) (b9 (aa (bU (by rfl) LK (cV (v:=.ref κ.TooFew) (by rfl) C.Oy rfl) (fun u h=>h) (dv 0)) (aa (bU (by rfl) LK (cV (v:=.ref κ.NoPlace) (by rfl) C.OR rfl) (fun u h=>h) (dv 0)) ae)))))))),?_⟩
 rintro ds Q Ed ⟨e,rfl,h⟩;walk_at "s";unfold fQ at h;obtain⟨k,c,rfl,hk,h⟩:=h;walk_at "x";have z3:∀a b c:D,[a,b,c].length<=sizeLine:=fun _ _ _=>dU _ _ _
 rcases hk with⟨rfl,rfl⟩| ⟨rfl,rfl⟩| ⟨rfl,rfl⟩| ⟨rfl,rfl⟩| ⟨rfl,rfl⟩| ⟨rfl,rfl⟩| ⟨rfl,rfl⟩
 ·exact⟨_,C.N6,_,C.NO,_,C.N5,dU _ _ _,_,C.NN,_,C.NL,_,C.Nq,dU _ _ _,au (by show 6<=_;decide),_,C.NM,_,C.Np,ma _ _,au (by show 8<=_;decide),h⟩
 ·exact⟨_,C.Nz,_,C.M7,_,C.Ny,dU _ _ _,_,C.M5,_,C.M3,_,C.MK,dU _ _ _,au (by show 6<=_;decide),_,C.M4,_,C.MJ,ma _ _,au (by show 8<=_;decide),h⟩
 ·exact⟨_,C.N4,_,C.NI,_,C.N3,dU _ _ _,_,C.NH,_,C.NF,_,C.Nj,dU _ _ _,au (by show 6<=_;decide),_,C.NG,_,C.Ni,ma _ _,au (by show 8<=_;decide),h⟩
 ·exact⟨_,C.ND,_,C.Nh,_,C.NC,dU _ _ _,_,C.Ng,_,C.Nd,_,C.MO,dU _ _ _,au (by show 6<=_;decide),_,C.Nf,_,C.MN,ma _ _,au (by show 8<=_;decide),h⟩
 ·exact⟨_,C.NB,_,C.Nc,_,C.NA,dU _ _ _,_,C.Nb,_,C.M9,_,C.MM,dU _ _ _,au (by show 6<=_;decide),_,C.Na,_,C.ML,ma _ _,au (by show 8<=_;decide),h⟩
 ·exact⟨_,C.Nu,_,C.MU,_,C.Nt,dU _ _ _,_,C.MT,_,C.MR,_,C.Mz,dU _ _ _,au (by show 6<=_;decide),_,C.MS,_,C.My,ma _ _,au (by show 8<=_;decide),h⟩
 ·exact⟨_,C.NK,_,C.Nn,_,C.NJ,dU _ _ _,_,C.Nm,_,C.Nk,_,C.MQ,dU _ _ _,au (by show 6<=_;decide),_,C.Nl,_,C.MP,ma _ _,au (by show 8<=_;decide),h⟩
def DZ (C:Addr):Sp:=fun vs H Q _=>∃x dx,vs=[.ref x]/\H x=some (.ins C dx [])/\∀l1 l2,H l1=none->H l2=none->l1≠l2->Q .Nx (L2.upd (L2.upd (L2.upd H l1 (.lst [])) l2 (.lst [])) x (.ins C dx [("dots", .ref l1),("past", .ref l2)]))
theorem rW {f:Addr} {fd:FuncData} (F:ar K "__init__" "Sheet.__init__" ig f fd) (C:ON K mg κ):aE P w K mg base (CX1 P w) 1 f fd ["self"] (DZ κ.Sheet):=by
 obtain⟨oc,od,dV,kV,doc,pm,an,cdv,ct,Us,rfl,lk,RN⟩:=F.ex;refine nR lk RN sD (fun vs H Q E h=>?_) fun A outer s H vs Q E hr h=>?_
 ·obtain⟨x,dx,rfl,_⟩:=h;rfl
 ·obtain⟨x,dx,rfl,hx,q⟩:=h;refine⟨_,cM (mX (pv 0) (wb cB) rfl) (bT (mX (pv 0) (wb cB) rfl)),?_⟩;refine⟨S9 _,fun l1 h1=>?_⟩;have n1:x≠l1:=fun z=>by rw[<- z,hx]at h1;cases h1
  refine⟨_,rfl,x,_,dx,_,rfl,by rw[aq n1];exact hx,C.LR,C.LU,by show 0<1000;decide,S9 _,fun l2 h2=>?_⟩;have n2:l2≠x:=fun z=>by rw[z,ax]at h2;cases h2
  rw[aq n2]at h2;have n3:l2≠l1:=fun z=>by rw[z,ax]at h2;cases h2
  rw[aq n3]at h2;refine⟨_,rfl,x,_,dx,_,rfl,by rw[aq (Ne.symm n2)];exact ax,C.LR,C.Mu,by show 1<1000;decide,?_⟩;have e:∀i0 i1,L2.upd (L2.upd (L2.upd (L2.upd H l1 (.lst [])) x i0) l2 (.lst [])) x i1=L2.upd (L2.upd (L2.upd H l1 (.lst [])) l2 (.lst [])) x i1:=fun i0 i1=>funext fun b=>by
   by_cases c:b=x
   ·rw[c,ax,ax]
   ·rw[aq c,aq c];by_cases c2:b=l2
    ·rw[c2,ax,ax]
    ·rw[aq c2,aq c2,aq c]
  rw[e];exact q l1 l2 h1 h2 (Ne.symm n3)
theorem cF (a b:D):(([("dots" : Str),("past" : Str)]).zip [a,b]).lookup ("dots" : Str)=some a:=by rw[ZS,Te,show(("dots" : Str) == "dots")=true by decide +kernel]
theorem EU (a b:D):(([("dots" : Str),("past" : Str)]).zip [a,b]).lookup ("past" : Str)=some b:=by rw[ZS,Te,show(("past" : Str) == "dots")=false by decide +kernel,ZS,Te,show(("past" : Str) == "past")=true by decide +kernel]
theorem EW (a b:V):([(("dots" : Str),a),(("past" : Str),b)]).lookup ("dots" : Str)=some a:=by rw[Te,show(("dots" : Str) == "dots")=true by decide +kernel]
theorem rR (a b:V):([(("dots" : Str),a),(("past" : Str),b)]).lookup ("past" : Str)=some b:=by rw[Te,show(("past" : Str) == "dots")=false by decide +kernel,Te,show(("past" : Str) == "past")=true by decide +kernel]
def wL (C:Addr):Sp:=fun vs H Q _=>∃x dx v p us y,vs=[.ref x,y]/\H x=some (.ins C dx [("dots", v),("past", .ref p)])/\H p=some (.lst us)/\us.length<=20/\∀l H',PD.ai H H'->H l=none->H' l=some (.lst (L2.ib (us++[v]) (some (-20)) none)) →
 Q .Nx (L2.upd H' x (.ins C dx [("dots", y),("past", .ref l)]))
theorem pF {f:Addr} {fd:FuncData} (F:ar K "change" "Sheet.change" fZ f fd) (C:ON K mg κ):aE P w K mg base (CX1 P w) 1 f fd ["self", "dots"] (wL κ.Sheet):=by
 obtain⟨oc,od,dV,kV,doc,pm,an,cdv,ct,Us,rfl,lk,RN⟩:=F.ex;obtain⟨tm,em⟩:=C.MH;refine nR lk RN pN (fun vs H Q E h=>?_) fun A outer s H vs Q E hr h=>?_
 ·obtain⟨x,dx,v,p,us,y,rfl,_⟩:=h;rfl
 ·obtain⟨x,dx,v,p,us,y,rfl,hx,hp,hl,q⟩:=h;refine⟨_,cM (mX (pv 0) (CL FG (Ko IB (qK (pv 0) rfl) (wb (bI (qK (pv 0) rfl) cB))) (Fm (Kp Bw (cV (v:=.int 20) (by rfl) em ⟨tm,rfl⟩))) Fj) rfl) (bT (mX (pv 0) (pv 1) rfl)),?_⟩;refine⟨_,rfl,x,_,dx,_,.ref p,rfl,hx,C.LR,C.Mu,rR _ _,?_⟩;refine⟨_,rfl,x,_,dx,_,v,rfl,hx,C.LR,C.LU,EW _ _,au (by show 1<=_;decide),fun l1 h1=>?_⟩;have p1:p≠l1:=fun z=>by rw[<- z,hp]at h1;cases h1
  have x1:x≠l1:=fun z=>by rw[<- z,hx]at h1;cases h1
  refine⟨p,l1,us,[v],rfl,rfl,by rw[aq p1];exact hp,ax,au (by show _+1<=_;omega),fun l2 h2=>?_⟩;have x2:x≠l2:=fun z=>by rw[<- z,aq x1,hx]at h2;cases h2
  refine⟨20,rfl,-20,rfl,l2,us++[v],rfl,SqL.of ax,fun l3 h3=>?_⟩;have x3:x≠l3:=fun z=>by rw[<- z,aq x2,aq x1,hx]at h3;cases h3
  have sm:PD.ai H (L2.upd (L2.upd (L2.upd H l1 (.lst [v])) l2 (.lst (us++[v]))) l3 (.lst (L2.ib (us++[v]) (some (-20)) none))):=((PD.ai.upd h1).trans (PD.ai.upd h2)).trans (PD.ai.upd h3);refine⟨_,rfl,x,_,dx,_,rfl,sm _ _ hx,C.LR,C.Mu,by show 2<1000;decide,?_⟩;refine⟨_,rfl,_,rfl,x,_,dx,_,rfl,ax,C.LR,C.LU,by show 2<1000;decide,?_⟩;rw[FU];exact q l3 _ sm (((PD.ai.upd h1).trans (PD.ai.upd h2)).free h3) ax
def Bm (C:Addr):Sp:=fun vs H Q _=>∃x dx v p us y,vs=[.ref x]/\H x=some (.ins C dx [("dots", v),("past", .ref p)])/\H p=some (.lst (us++[y]))/\Q .Nx (L2.upd (L2.upd H p (.lst us)) x (.ins C dx [("dots", y),("past", .ref p)]))
theorem oi {f:Addr} {fd:FuncData} (F:ar K "go_back" "Sheet.go_back" c9 f fd) (C:ON K mg κ) (LQ:mg "len" = none):aE P w K mg base (CX1 P w) 1 f fd ["self"] (Bm κ.Sheet):=by
 obtain⟨oc,od,dV,kV,doc,pm,an,cdv,ct,Us,rfl,lk,RN⟩:=F.ex;refine nR lk RN iD (fun vs H Q E h=>?_) fun A outer s H vs Q E hr h=>?_
 ·obtain⟨x,dx,v,p,us,y,rfl,_⟩:=h;rfl
 ·obtain⟨x,dx,v,p,us,y,rfl,hx,hp,q⟩:=h;have px:x≠p:=fun z=>by rw[z,hp]at hx;cases hx
  refine⟨_,cM (nU (sr DW (wa i5 (by rfl) LQ Se (bI (qK (pv 0) rfl) cB)) AZ (Il _)) (bT CN) gr) (bT (mX (pv 0) (IH PySem.F.plainAttrs_list PySem.F.slot_list_pop PySem.F.type_list_pop Ii (qK (pv 0) rfl)) rfl)),?_⟩;refine⟨_,rfl,x,_,dx,_,.ref p,rfl,hx,C.LR,C.Mu,rR _ _,p,us++[y],rfl,.inl (SqL.of hp),rfl,_,rfl,?_⟩;have ne:¬decide (V.int ((us++[y]).length:Int)=V.int 0)=true:=fun z=>by have:=Wi z;injection this with this;rw[Q7]at this;have e1:([y]:yar).length=1:=rfl;omega
  dsimp only;rw[LO ne];refine⟨_,rfl,x,_,dx,_,.ref p,rfl,hx,C.LR,C.Mu,rR _ _,.inl ⟨rfl,_,SqL.of hp⟩,p,us++[y],y,rfl,rfl,hp,by simp,?_⟩;refine⟨_,rfl,x,_,dx,_,rfl,by rw[aq px];exact hx,C.LR,C.LU,by show 2<1000;decide,?_⟩;rw[List.dropLast_concat];exact q
def aA.Tu(κ:Cls)(ds:List Md)(ps:List (List Md))(δ:aA)(Ed:Value->Prop):Prop :=
 (δ.code ds ps=1/\Ed (.ref κ.NoDots))∨(δ.code ds ps=2/\Ed (.ref κ.NoSuch))∨(δ.code ds ps=3/\Ed (.ref κ.NoMap))∨(δ.code ds ps=4/\Ed (.ref κ.TooFew))
def rE (K:yac) (w:World) (mg:yam):Prop:=∃a es,mg "QUESTIONS" = some (.ref a)/\PD.cX K w a es/\PD.TF es "dots" = mg "tell_dots" /\ (mg "tell_dots").isSome=true/\∀δ:aA,PD.TF es δ.nm=none
def nF (K:yac) (w:World) (mg:yam):Prop:=∃a es,mg "DEEDS" = some (.ref a)/\PD.cX K w a es/\PD.TF es "put" = mg "put" /\ PD.TF es "cut" = mg "cut" /\ PD.TF es "map" = mg "mapped" /\ PD.TF es "clear" = mg "cleared"
abbrev Tv (κ:Cls) (ds:List Md) (ps:List (List Md)):D:=.obj κ.Sheet ["dots", "past"] [.lst false (ds.map N8),.lst false (ps.map fun q=>D.lst false (q.map N8))]
def sI(κ:Cls):DSp:=fun as _ Ed=>∃ds:List Md,as=[Tv κ ds []]/\Ed (.ref κ.TooFew)
theorem mV (F:ar K "go_back" "Sheet.go_back" c9 f fd) (C:ON K mg κ) (LQ:mg "len" = none):aE P w K mg base (CX1 P w) 1 f fd ["self"] (aJ K (sI κ)):=by
 refine ar.Sz F iD (by walk_at "l") fun cdv A outer s H E Ed hr pm px hx=>⟨_,(ao (aS (aK hG (aO bE (by rfl) LQ Se (aa (fJ C.LR C.Mu (dv 0)) ae)) ag) (aj (aW pm (by rfl) C.Oy C.Ov rfl (aa ak ae))) aB) (aj cZ)),?_⟩
 rintro as Q ⟨ds,rfl,h⟩;walk_at "s";unfold ic;walk_at "x";refine⟨_,_,_,rfl,EU _ _,?_⟩;walk_at "x";exact⟨SA _,h⟩
def lA(κ:Cls):DSp:=fun as Q Ed=>∃(ds:List Md) (ps:List (List Md)) (f:Str) (fs vs:yah) (gs:yas),as=[Tv κ ds ps,.str (Str.join ⟨#[32]⟩ (f::vs))]/\va f fs vs gs/\fq ds ps ∧
 ((f = "dots" /\ Q (.str (jn ds)))∨∃ δ:aA,f=δ.nm/\gs=δ.given/\δ.ok/\δ.Tu κ ds ps Ed)
theorem aA.OD{κ:Cls}{ds:List Md}{ps:List (List Md)}{δ:aA}{Ed:Value->Prop}{c:Int}(h:δ.Tu κ ds ps Ed)(hc:δ.code ds ps=c):(c=1/\Ed (.ref κ.NoDots))∨(c=2/\Ed (.ref κ.NoSuch))∨(c=3/\Ed (.ref κ.NoMap))∨(c=4/\Ed (.ref κ.TooFew)):=by
 unfold aA.Tu at h
 rwa [hc]at h
theorem cE(δ:aA):ay δ.given=δ.given:=by
 cases δ with
 |put g=>show ay [N8 g]=_;rw[aR,nE,bZ];rfl
 |cut n=>rfl
 |map m=>exact oU m
 |clear=>rfl
 |back=>rfl
theorem yP(f:Str)(vs:yah):PD.cutD (D.str f::vs.map D.str) (some 1) none=vs.map D.str:=yO D.str (f::vs) (n:=0) (by decide)
theorem lb (F:ar K "ask" "Sheet.ask" bN f fd) (C:ON K mg κ) (FO:nG K w mg) (QO:rE K w mg) (DO:nF K w mg) (Ot:oH P w K mg base κ) (Ou:oB P w K mg base κ) (P9:xc P w K mg base κ) (SR:Di P w K mg base κ) (SU:Dh P w K mg base κ) (P1:uV P w K mg base κ)
  (Qx:hV P w K mg base κ.Sheet "go_back" 1 ["self"] (sI κ)) (O7:hV P w K mg base κ.Sheet "change" 1 ["self", "dots"] fun _ _ _=>False) (LQ:mg "len" = none) (Mt:mg "str" = none) (Pw:mg "zip" = none):aE P w K mg base (CX1 P w) 9 f fd ["self", "row"] (aJ K (lA κ)):=by
 obtain⟨aF,esF,mF,kF,oF⟩:=FO;obtain⟨aQ,esQ,mQ,kQ,oQ,sQ,nQ⟩:=QO;obtain⟨aD,esD,mD,kD,oP,oC,oM,oE⟩:=DO;refine ar.Sz F bo (by walk_at "l") fun cdv A outer s H E Ed hr pm px hx=>⟨_,(ao (aL 2 bo.nd (aM Ot hr (aa (dv 1) ae)))
  (ao (aL 3 bo.nd (az (dv 2) ag))
  (ao (xm 4 bo.nd (by rfl) (by exact bS (osc:=ah bN) (xs:=["form", "word"]) (ns:=[]) (by decide +kernel)) bC.nil (.cons (.cons .nil)) (rO kF mF Pw (dv 3) (U1.Yd (dG (dv 2) (cu ag) cq))) (fun _ _ _ _ _=>cD) (fun _ _ _ _ _=>(aM Ou hr (aa (dv 0) (aa (dv 1) ae)))))
  (ao (aS (vE kQ mQ (dv 3)) (aj (aC (eN px kQ mQ (dv 3) (aa (fJ C.LR C.LU (dv 0)) (aa (dv 4) ae))))) aB)
  (ao (aS (aK (cO (by exact hr.units)) (dv 3) ak) (aj (iS (tG px C.LR Qx (hr.mono (by decide)) (dv 0)))) (aj (iS (nO C.LR O7 (hr.mono (by decide)) (dv 0) (aa (eN px kD mD (dv 3) (aa (fJ C.LR C.LU (dv 0)) (aa (dv 4) ae))) ae)))))
  (aj (aC (bu cU (by rfl) Mt US (aa (aO bE (by rfl) LQ Se (aa (fJ C.LR C.LU (dv 0)) ae)) ae))))))))),?_⟩
 rintro as Q ⟨ds,ps,f0,fs,vs,gs,rfl,R,st,h⟩;walk_at "s";walk_at "x";refine⟨f0,vs,fs,rfl,R.i,R.l,R.r,?_⟩;walk_at "x";refine tQ (gs:=gs) R.t R.g (by have:=R.r.l;have:=R.l;rw[Sd]at *;omega) (fun S s=>?_) (fun z hz S s=>?_) ?_
 ·unfold ql;walk_at "x";rw[yP];exact⟨f0,fs,rfl,oF _ _ R.i,s⟩
 ·obtain⟨T,d,e⟩:=R.t z hz;rw[e]at s;show dR κ [.str z.1,.str z.2] S fun _=>False
  rw[gj];exact⟨T,d,e,s⟩
 have ok0:∀{x:Str},WO x->okD (.str x):=fun W=>bX W.a
 have of0:=ok0 (R.r.w f0 Su);have ob:okD (.str (Str.ofString "back")):=bX fun c hc=>by simpa using Up.mp (show(sgn (Str.ofString "back")).all (·<128)=true by decide +kernel) c hc
 rcases h with⟨rfl,h⟩| ⟨δ,rfl,rfl,ho,h⟩
 ·unfold j6 eM ic;walk_at "x";rw[oQ,LX sQ];refine⟨_,"tell_dots", _,_,_,rfl,oQ,P9,hr.mono (by decide),?_⟩;walk_at "x";exact⟨_,_,_,rfl,cF _ _,ds,by rw[av,bY],st.d,by have:=st.l;omega,h⟩
 have l30:=st.l;unfold j6;walk_at "x";rw[nQ δ];refine(LO (by decide)).mpr ⟨of0,ob,?_⟩;cases δ with
 |back =>
  refine(LX (by decide +kernel)).mpr ?_;have c:ps=[]:=by
   by_cases c:ps=[]
   ·exact c
   ·rcases aA.OD h (LO c)with⟨z,_⟩| ⟨z,_⟩| ⟨z,_⟩| ⟨z,_⟩<;>cases z
  subst c;unfold zY;walk_at "x";refine⟨_,_,rfl,by decide +kernel,ds,?_,?_⟩
  ·rw[av,aR,aR,av,av,bY];rfl
  ·rcases aA.OD (c:=4) h rfl with⟨z,_⟩| ⟨z,_⟩| ⟨z,_⟩| ⟨_,z⟩
   ·cases z
   ·cases z
   ·cases z
   ·exact z
 |put g =>
  refine(LO (show¬(("put" : Str)==Str.ofString "back")=true by decide +kernel)).mpr ?_;unfold nN eM ic;walk_at "x";refine⟨_,_,rfl,by decide +kernel,_,_,_,_,_,rfl,oP,SR,hr.mono (by decide),_,_,_,rfl,cF _ _,?_⟩;walk_at "x";refine⟨ds,g,rfl,by rw[cE];rfl,by omega,?_⟩;by_cases c:30<=ds.length
  ·rw[LX c];rcases aA.OD h (LX c)with⟨_,z⟩| ⟨z,_⟩| ⟨z,_⟩| ⟨z,_⟩
   ·exact z
   ·cases z
   ·cases z
   ·cases z
  ·rcases aA.OD h (LO c)with⟨z,_⟩| ⟨z,_⟩| ⟨z,_⟩| ⟨z,_⟩<;>cases z
 |cut n =>
  refine(LO (show¬(("cut" : Str)==Str.ofString "back")=true by decide +kernel)).mpr ?_;unfold nN eM ic;walk_at "x";refine⟨_,_,rfl,by decide +kernel,_,_,_,_,_,rfl,oC,SU,hr.mono (by decide),_,_,_,rfl,cF _ _,?_⟩;walk_at "x";refine⟨ds,n,rfl,by rw[cE];rfl,by omega,?_⟩;by_cases c:n<0∨(ds.length:Int)<=n
  ·rw[LX c];rcases aA.OD h (LX c)with⟨z,_⟩| ⟨_,z⟩| ⟨z,_⟩| ⟨z,_⟩
   ·cases z
   ·exact z
   ·cases z
   ·cases z
  ·rcases aA.OD h (LO c)with⟨z,_⟩| ⟨z,_⟩| ⟨z,_⟩| ⟨z,_⟩<;>cases z
 |map m =>
  refine(LO (show¬(("map" : Str)==Str.ofString "back")=true by decide +kernel)).mpr ?_;unfold nN eM ic;walk_at "x";refine⟨_,_,rfl,by decide +kernel,_,_,_,_,_,rfl,oM,P1,hr.mono (by decide),_,_,_,rfl,cF _ _,?_⟩;walk_at "x";refine⟨ds,m,rfl,by rw[cE];rfl,st.d,st.l,ho.1,ho.2,?_⟩;by_cases c:m.getD 0 0*m.getD 3 0=m.getD 1 0*m.getD 2 0
  ·rw[LX c];rcases aA.OD h (LX c)with⟨z,_⟩| ⟨z,_⟩| ⟨_,z⟩| ⟨z,_⟩
   ·cases z
   ·cases z
   ·exact z
   ·cases z
  ·rw[LO c];by_cases c2:(ds.map (Ts m)).any cL=true
   ·rw[LX c2];rcases aA.OD h ((LO c).trans (LX c2))with⟨_,z⟩| ⟨z,_⟩| ⟨z,_⟩| ⟨z,_⟩
    ·exact z
    ·cases z
    ·cases z
    ·cases z
   ·rcases aA.OD h ((LO c).trans (LO c2))with⟨z,_⟩| ⟨z,_⟩| ⟨z,_⟩| ⟨z,_⟩<;>cases z
 |clear=>rcases aA.OD h rfl with⟨z,_⟩| ⟨z,_⟩| ⟨z,_⟩| ⟨z,_⟩<;>cases z
theorem dN:∀ds:List Md,iK (ds.map N8)
 |[]=>True.intro
 |_::r=>⟨⟨True.intro,True.intro,True.intro,True.intro,True.intro⟩,dN r⟩
theorem mW:∀ps:List (List Md),iK (mY ps)
 |[]=>True.intro
 |q::r=>⟨dN q,mW r⟩
structure Sh(K:yac)(M:Addr->Prop)(H:Hp)(C x p:Addr)(ds:List Md)(ps:List (List Md)):Prop where
 ex:∃dx v us,H x=some (.ins C dx [("dots", v),("past", .ref p)])/\H p=some (.lst us)/\Den K (Av M) H (.lst false (ds.map N8)) v/\af K (Av M) H (mY ps) us
structure Stt(K:yac)(M:Addr->Prop)(H:Hp)(st:Addr)(ds:List Md)(ps:List (List Md)):Prop where
 ex:∃a b us,H st=some (.lst [a,.ref b])/\¬M b/\H b=some (.lst us)/\Den K (Av M) H (.lst false (ds.map N8)) a/\af K (Av M) H (mY ps) us
section
variable{M M' N:Addr->Prop}{H H':Hp}{C x p st:Addr}{ds:List Md}{ps:List (List Md)}
theorem Sh.mono(S:Sh K M H C x p ds ps)(hM:∀a,M' a->M a):Sh K M' H C x p ds ps:=by
 obtain⟨dx,v,us,h1,h2,h3,h4⟩:=S.ex;have k:∀t a,Av M' t a->Av M t a:=fun t a z=>z.elim .inl fun z=>.inr (hM a z)
 exact⟨dx,v,us,h1,h2,h3.MG k,h4.MG k⟩
theorem Sh.same(S:Sh K M H C x p ds ps)(e:PD.ai H H'):Sh K M H' C x p ds ps:=by obtain⟨dx,v,us,h1,h2,h3,h4⟩:=S.ex;exact⟨dx,v,us,e _ _ h1,e _ _ h2,h3.same e,h4.same e⟩
theorem Sh.obj{P:Addr->Prop}(S:Sh K M H κ.Sheet x p ds ps)(k:PX.hW K κ.Sheet)(hP:∀a,P a->M a)(np:¬P p):Den K (fun t a=>P a∨(t=true/\∃o,H a=some o)) H (Tv κ ds ps) (.ref x):=by
 obtain⟨dx,v,us,h1,h2,h3,h4⟩:=S.ex;have e:∀t a,(P a∨(t=true/\∃o,H a=some o))->Av M t a:=fun t a z=>z.elim (fun z=>.inr (hP a z)) fun z=>.inl z.1
 exact Den.obj (vs:=[v,.ref p]) h1 rfl k (.cons (h3.MG e) (.cons (Den.lst (fun z=>z.elim np fun z=>by cases z.1) (.any (SqL.of h2)) (h4.MG e)) .nil))
end
theorem JA(L:yar):L2.ib L (some (-20)) none=L.drop (L.length - 20):=by
 unfold L2.ib;rw[HT.pL,show HT.Sg L.length 0 (some (-20))=L.length - 20 from by show(if(-20:Int)<0 then((-20:Int)+(L.length:Int)).toNat else min (-20:Int).toNat L.length)=_;rw[LX (by decide)];omega]
 refine Xi ?_;rw[WZ];exact O2 _
theorem tL{P:yak}{H:Hp}:∀(n:Nat) {ds:yas} {vs:yar},af K P H ds vs->af K P H (ds.drop n) (vs.drop n)
 |0,_,_,h=>h
 |n+1,[],vs,h=>by simp only[af]at h;subst h;rw[List.drop_nil,List.drop_nil];exact .nil
 |n+1,d::ds,vs,h=>by simp only[af]at h;obtain⟨v,r,rfl,_,h2⟩:=h;exact tL n h2
theorem mi{P:yak}{H:Hp}:∀{ds:yas} {d:D} {vs:yar},af K P H (ds++[d]) vs->∃us y,vs=us++[y]/\af K P H ds us/\Den K P H d y
 |[],d,vs,h=>by simp only[List.nil_append,af]at h;obtain⟨v,r,rfl,h1,rfl⟩:=h;exact⟨[],v,rfl,.nil,h1⟩
 |e::ds,d,vs,h=>by simp only[Xk,af]at h;obtain⟨v,r,rfl,h1,h2⟩:=h;obtain⟨us,y,rfl,h3,h4⟩:=mi h2;exact⟨v::us,y,rfl,.cons h1 h3,h4⟩
theorem xK(vs:yah):ay (vs.map D.str)=vs.map D.str:=cI _ t8 vs
theorem aA.XI {ds : List Md} {ps : List (List Md)} (st : fq ds ps) (δ : aA) : (δ.res ds ps).length <= 31 := by
  have l := st.l;cases δ with
  | put g => unfold aA.res; dsimp only; split
             · omega
             · rw [Q7]; show _ + 1 <= _; omega
  | cut n => unfold aA.res; dsimp only; split
             · omega
             · rw [Q7, Uq, WZ]; omega
  | map m => unfold aA.res; dsimp only; split
             · omega
             · split
               · omega
               · rw [Ph]; omega
  | clear => exact S9 _
  | back =>
    show (ps.getLastD ds).length <= 31;rcases List.eq_nil_or_concat ps with e | ⟨r, q, e⟩
    · rw [e]; show ds.length <= 31; omega
    · rw [List.concat_eq_append] at e;rw [e, show (r ++ [q]).getLastD ds = q by simp];have := (st.p q (by rw [e]; simp)).1;omega
theorem y3 (a b:V) {m:Str} (h1:(m==("dots" : Str))=false) (h2:(m==("past" : Str))=false):([(("dots" : Str),a),(("past" : Str),b)]).lookup m=none:=by rw[Te,h1,Te,h2,List.lookup_nil]
theorem aA.Yh{ds:List Md}{ps:List (List Md)}(δ:aA)(hb:δ ≠ .back)(hc:δ.code ds ps<=0):δ.code ds ps=0:=by
 cases δ with
 |back=>exact absurd rfl hb
 |clear=>rfl
 |put g =>
  have Ti:(if 30<=ds.length then(1:Int)else 0)<=0:=hc;show(if 30<=ds.length then(1:Int)else 0)=0;split at Ti<;>rename_i c
  ·omega
  ·rw[LO c]
 |cut n =>
  have Ti:(if n<0∨(ds.length:Int)<=n then(2:Int)else 0)<=0:=hc;show(if n<0∨(ds.length:Int)<=n then(2:Int)else 0)=0;split at Ti<;>rename_i c
  ·omega
  ·rw[LO c]
 |map m =>
  have Ti:(if m.getD 0 0*m.getD 3 0=m.getD 1 0*m.getD 2 0 then(3:Int)else if(ds.map (Ts m)).any cL=true then 1 else 0)<=0:=hc;show(if m.getD 0 0*m.getD 3 0=m.getD 1 0*m.getD 2 0 then(3:Int)else if(ds.map (Ts m)).any cL=true then 1 else 0)=0;split at Ti<;>rename_i c
  ·omega
  ·rw[LO c];split at Ti<;>rename_i c2
   ·omega
   ·rw[LO c2]
def qU(K:yac)(C:Addr):Sp:=fun vs H Q _=>∃(M:Addr->Prop) (x p:Addr) (ds:List Md) (ps:List (List Md)) (δ:aA),vs=[.ref x,.str δ.row]/\cK K H/\(∀a,M a->∃o,H a=some o)/\M x/\M p/\Sh K M H C x p ds ps/\fq ds ps/\δ.ok/\δ.code ds ps<=0 ∧
 ∀ H' p',bf (fun a=>a=x∨a=p) H H'->(p'=p∨(H p'=none/\K.lookup p'=none))->Sh K (fun a=>M a∨a=p') H' C x p' (δ.res ds ps) (δ.Ud ds ps)->Dk K H'->Q (.str (tI (δ.res ds ps).length)) H'
theorem Ey (F:ar K "ask" "Sheet.ask" bN f fd) (C:ON K mg κ) (FO:nG K w mg) (QO:rE K w mg) (DO:nF K w mg) (Ot:oH P w K mg base κ) (Ou:oB P w K mg base κ) (SR:Di P w K mg base κ) (SU:Dh P w K mg base κ) (P1:uV P w K mg base κ) (R6:zC P w K mg base κ)
  (Qx:j4 P w K mg base κ.Sheet "go_back" 1 ["self"] (Bm κ.Sheet)) (O7:j4 P w K mg base κ.Sheet "change" 1 ["self", "dots"] (wL κ.Sheet)) (LQ:mg "len" = none) (Mt:mg "str" = none) (Pw:mg "zip" = none):aE P w K mg base (CX1 P w) 9 f fd ["self", "row"] (qU K κ.Sheet):=by
 obtain⟨oc,od,dV,kV,doc,pm,an,cdv,ct,Us,rfl,lk,RN⟩:=F.ex;obtain⟨aF,esF,mF,kF,oF⟩:=FO;obtain⟨aQ,esQ,mQ,kQ,oQ,sQ,nQ⟩:=QO;obtain⟨aD,esD,mD,kD,oP,oC,oM,oE⟩:=DO;refine nR lk RN bo (fun vs H Q E h=>?_) fun A outer s H vs Q E hr h=>?_
 ·obtain⟨M,x,p,ds,ps,δ,rfl,_⟩:=h;rfl
 ·obtain⟨M,x,p,ds,ps,δ,rfl,tk,mt,mx,mp,S,st,ho,hc,q⟩:=h;have R:=aA.WS ho;refine⟨_,cM (lp (i:=2) bo.nd (by rfl) (.inl rfl) (cj fun H=>rJ Ot (hr.mono (by decide)) (aa (dv 1) ae)))
   (cM (lp (i:=3) bo.nd (by rfl) (.inl rfl) (cj fun H=>az (dv 2) ag))
   (cM (zg 4 bo.nd (by rfl) (by exact bS (osc:=ah bN) (xs:=["form", "word"]) (ns:=[]) (by decide +kernel)) bC.nil (.cons (.cons .nil)) (fun H=>Co kF mF Pw (dv 3) (U1.Yd (dG (dv 2) (cu ag) cq))) (fun _ _ _ _ _ _=>cD) (fun H _ _ _ _ _=>(aM Ou hr (aa (dv 0) (aa (dv 1) ae)))))
   (cM (nU (DY fun H=>vE kQ mQ (dv 3)) A5 gr)
   (cM (nU (DY fun H=>aK (cO (by exact hr.units)) (dv 3) ak) (bT (sk (A1 Qx (hr.mono (by decide)) C.LR (pv 0)))) (bT (sk (pK O7 (hr.mono (by decide)) C.LR (pv 0) (bI (cj fun H=>vt kD mD (dv 3) (aa (fJ C.LR C.LU (dv 0)) (aa (dv 4) ae))) cB)))))
   (bT (jj (cj fun H=>bu cU (by rfl) Mt US (aa (aO bE (by rfl) LQ Se (aa (fJ C.LR C.LU (dv 0)) ae)) ae)))))))),?_⟩
  have ok0:∀{x:Str},WO x->okD (.str x):=fun W=>bX W.a
  have of0:=ok0 (R.r.w δ.nm Su);have ob:okD (.str (Str.ofString "back")):=bX fun c hc=>by simpa using Up.mp (show(sgn (Str.ofString "back")).all (·<128)=true by decide +kernel) c hc
  have l30:=st.l;have r30:(δ.res ds ps).length<=31:=δ.XI st;have ht:∀a,(a=x∨a=p)->∀vs,H a≠some (.tup vs):=fun a z ws e=>by
   obtain⟨dx,v,us,h1,h2,_,_⟩:=S.ex;rcases z with rfl|rfl
   ·rw[h1]at e;cases e
   ·rw[h2]at e;cases e
  have hN:∀a,(a=x∨a=p)->M a:=fun a z=>z.elim (fun z=>z ▸ mx) fun z=>z ▸ mp
  have xp:x≠p:=fun z=>by obtain⟨dx,v,us,h1,h2,_,_⟩:=S.ex;rw[z,h2]at h1;cases h1
  have fin:∀(a1 a2 a3 a4:Option V) (Hk:Hp) (p':Addr),bf (fun a=>a=x∨a=p) H Hk->(p'=p∨H p'=none)->Sh K (fun _=>False) Hk κ.Sheet x p' (δ.res ds ps) (δ.Ud ds ps)->(K.lookup p'=none->Sh K (fun a=>M a∨a=p') Hk κ.Sheet x p' (δ.res ds ps) (δ.Ud ds ps)) →
    Jg (Je (bM (CX1 P w) P w K mg base ["self", "row", "words", "first", "given"] "Sheet.ask" (ah bN) f cdv A outer s H E) (dCB (fun ds Q=>∃i:Int,ds=[.int i]/\i.natAbs.log2<1920/\Q (.str (toString i))) (lD (dCB rQ (lD (ic κ.Sheet (i9 0) "dots") mH)) mH))) {nx:=fun _ H=>Q .Nx H,rt:=Q} [some (.ref x),a1,a2,a3,a4] Hk:=by
   intro a1 a2 a3 a4 Hk p' sx hp' S0 S1;refine⟨(Dom.refl H).QL sx,sx.tab tk,fun _=>False,[some (.val (Tv κ (δ.res ds ps) (δ.Ud ds ps)))],fun d=>d=.str (tI (δ.res ds ps).length),fun _ z=>z.elim,aT.cons (S0.obj C.Oi (fun _ z=>z) id) .nil,?_,fun v H5 d e5 kf5 hd q5=>?_⟩
   ·unfold ic;walk_at "x";refine⟨_,_,_,rfl,cF _ _,?_⟩;walk_at "x";rw[Ph];exact⟨lg (iG (by omega)),rfl⟩
   ·subst q5;have z:=hd.QM;subst z;have kl:K.lookup p'=none:=by
     obtain⟨dx,v,us,h1,h2,_,_⟩:=S0.ex;exact kf5 _ _ (e5 _ _ h2)
    exact q H5 p' (sx.trans (.of e5)) (hp'.imp id fun n=>⟨n,kl⟩) ((S1 kl).same e5) kf5
  refine⟨Dom.refl H,tk,fun _=>False,_,fun d=>d=.lst true ((δ.nm::δ.ws).map D.str),fun _ z=>z.elim,aT.cons (S.obj C.Oi (fun _ z=>z.elim) id) (aT.cons (Den.str _) .nil),?_,fun v1 H1 d1 e1 kf1 UX q1=>?_⟩
  ·walk_at "x";exact⟨δ.nm,δ.ws,δ.fs,by rw[δ.WT],R.i,R.l,R.r,rfl⟩
  subst q1;have w1:=kY UX;rw[av,xK]at w1;refine⟨Dom.same (Dom.refl H) e1,tk.same e1,fun _=>False,_,fun d=>d=.str δ.nm,fun _ z=>z.elim,aT.cons ((S.same e1).obj C.Oi (fun _ z=>z.elim) id) (aT.cons (Den.str _) (aT.cons (da w1 fun _ z=>z) .nil)),?_,fun v2 H2 d2 e2 kf2 hd2 q2=>?_⟩
  ·rw[Sv];walk_at "x"
  subst q2;have z2:=hd2.QM;subst z2;have e12:=e1.trans e2;refine⟨Dom.same (Dom.refl H) e12,tk.same e12,fun _=>False,_,fun d=>d=.lst true δ.given,fun _ z=>z.elim,aT.cons ((S.same e12).obj C.Oi (fun _ z=>z.elim) id) (aT.cons (Den.str _) (aT.cons (da (w1.same e2) fun _ z=>z) (aT.cons (Den.str _) .nil))),?_,fun v3 H3 d3 e3 XF q3=>?_⟩
  ·refine tQ (gs:=δ.given) R.t R.g (by have:=R.r.l;have:=R.l;rw[Sd]at *;omega) (fun S s=>?_) (fun z hz S s=>?_) rfl
   ·rw[Sv];unfold ql;walk_at "x";rw[yP];exact⟨_,_,rfl,oF _ _ R.i,s⟩
   ·obtain⟨T,d,e⟩:=R.t z hz;rw[e]at s;show dR κ [.str z.1,.str z.2] S fun _=>False
    rw[gj];exact⟨T,d,e,s⟩
  subst q3;have w3:=kY XF;rw[av,cE]at w3;have e13:=e12.trans e3;refine⟨Dom.same (Dom.refl H) e13,tk.same e13,fun _=>False,[none,none,none,some (.val (.str δ.nm))],fun b=>b=false,fun _ z=>z.elim,.skip (.skip (.skip (aT.cons (Den.str _) .nil))),?_,fun b H4 e4 q4=>?_⟩
  ·unfold j6;walk_at "x";rw[nQ δ];rfl
  subst q4;rw[LO (by decide)];have ZG:=e13.trans e4;by_cases hb:δ=.back
  ·subst hb;refine⟨Dom.same (Dom.refl H) ZG,tk.same ZG,fun _=>False,[none,none,none,some (.val (.str aA.back.nm))],fun b=>b=true,fun _ z=>z.elim,.skip (.skip (.skip (aT.cons (Den.str _) .nil))),?_,fun b H5 e5 q5=>?_⟩
   ·walk_at "x";exact⟨of0,ob,by decide +kernel⟩
   subst q5;rw[LX rfl];have Xg:=ZG.trans e5;have pn:ps ≠ []:=fun z=>by have Ti:(if ps=[]then(4:Int)else -1)<=0:=hc;rw[LX z]at Ti;exact absurd Ti (by decide)
   obtain⟨r,q0,rfl⟩:∃r q0,ps=r++[q0]:=by
    rcases List.eq_nil_or_concat ps with e|⟨r,q0,e⟩
    ·exact absurd e pn
    ·exact⟨r,q0,by rw[e,List.concat_eq_append]⟩
   obtain⟨dx,v,us,h1,h2,h3,h4⟩:=S.ex;rw[show mY (r++[q0])=mY r++[D.lst false (q0.map N8)]from VC]at h4;obtain⟨ZH,y,rfl,h5,h6⟩:=mi h4;have x5:=Xg _ _ h1;have p5:=Xg _ _ h2;refine⟨_,rfl,x,dx,_,rfl,x5,y3 _ _ (by decide +kernel) (by decide +kernel),x,dx,v,p,ZH,y,rfl,x5,p5,?_⟩;have sx:bf (fun a=>a=x∨a=p) H (L2.upd (L2.upd H5 p (.lst ZH)) x (.ins κ.Sheet dx [("dots", y),("past", .ref p)])) :=
    (bf.of Xg).trans ((bf.upd (o:=.lst ZH) (.inr rfl) p5 (fun _ e=>by cases e) True.intro (by exact True.intro)).trans (bf.upd (u:=.ins κ.Sheet dx [("dots", v),("past", .ref p)]) (o:=.ins κ.Sheet dx [("dots", y),("past", .ref p)]) (.inl rfl) (show L2.upd H5 p (.lst ZH) x=_ from by rw[aq xp];exact x5) (fun _ e=>by cases e) True.intro (by exact True.intro)))
   have er:aA.res ds (r++[q0]) .back=q0:=by show(r++[q0]).getLastD ds=q0;simp
   have ec:aA.code ds (r++[q0]) .back=-1:=LO pn;have ep:aA.Ud ds (r++[q0]) .back=r:=by unfold aA.Ud;rw[ec];simp
   have S1:Sh K (fun a=>M a∨a=p) (L2.upd (L2.upd H5 p (.lst ZH)) x (.ins κ.Sheet dx [("dots", y),("past", .ref p)])) κ.Sheet x p (aA.res ds (r++[q0]) .back) (aA.Ud ds (r++[q0]) .back):=by
    rw[er,ep];have k:∀t a,Av (fun a=>M a∨a=p) t a->Av M t a∨(H a=none/\K.lookup a=none):=fun t a z=>.inl (z.imp id fun z=>z.elim id fun z=>z ▸ mp)
    exact⟨dx,y,ZH,ax,by rw[aq (Ne.symm xp)];exact ax,Den.QL sx ht (fun a z _=>.inr (hN a z)) k (dN q0) h6,af.QL sx ht (fun a z _=>.inr (hN a z)) k (mW r) h5⟩
   exact fin _ _ _ _ _ p sx (.inl rfl) (S1.mono fun _ z=>z.elim) fun _=>S1
  ·have nb:(δ.nm==Str.ofString "back")=false:=by
    cases δ with
    |back=>exact absurd rfl hb
    |put g=>show(("put" : Str)==Str.ofString "back")=false;decide +kernel
    |cut n=>show(("cut" : Str)==Str.ofString "back")=false;decide +kernel
    |map m=>show(("map" : Str)==Str.ofString "back")=false;decide +kernel
    |clear=>show(("clear" : Str)==Str.ofString "back")=false;decide +kernel
   have c0:δ.code ds ps=0:=δ.Yh hb hc;refine⟨Dom.same (Dom.refl H) ZG,tk.same ZG,fun _=>False,[none,none,none,some (.val (.str δ.nm))],fun b=>b=false,fun _ z=>z.elim,.skip (.skip (.skip (aT.cons (Den.str _) .nil))),?_,fun b H5 e5 q5=>?_⟩
   ·walk_at "x";exact⟨of0,ob,nb⟩
   subst q5;rw[LO (by decide)];have Xg:=ZG.trans e5;obtain⟨dx,v,us,h1,h2,h3,h4⟩:=S.ex;have x5:=Xg _ _ h1;refine⟨_,rfl,x,dx,_,rfl,x5,y3 _ _ (by decide +kernel) (by decide +kernel),?_⟩;refine⟨Dom.same (Dom.refl H) Xg,tk.same Xg,fun _=>False,[some (.val (Tv κ ds ps)),none,none,some (.val (.str δ.nm)),some (.val (.lst false δ.given))],fun d=>d=.lst true ((δ.res ds ps).map N8),fun _ z=>z.elim,aT.cons ((S.same Xg).obj C.Oi (fun _ z=>z.elim) id) (.skip (.skip (aT.cons (Den.str _) (aT.cons (da ((w3.same e4).same e5) fun _ z=>z) .nil)))),?_,fun y H6 d6 e6 kf6 hd6 q6=>?_⟩
   ·unfold eM ic;walk_at "x";cases δ with
    |back=>exact absurd rfl hb
    |put g =>
     have c:¬30<=ds.length:=fun c=>by have:(if 30<=ds.length then(1:Int)else 0)=0:=c0;rw[LX c]at this;cases this
     refine⟨_,_,_,_,_,rfl,oP,SR,hr.mono (by decide),_,_,_,rfl,cF _ _,?_⟩;walk_at "x";refine⟨ds,g,rfl,by rw[cE];rfl,by omega,?_⟩;rw[LO c,show aA.res ds ps (.put g)=ds++[g]from LO c]
    |cut n =>
     have c:¬(n<0∨(ds.length:Int)<=n):=fun c=>by have:(if n<0∨(ds.length:Int)<=n then(2:Int)else 0)=0:=c0;rw[LX c]at this;cases this
     refine⟨_,_,_,_,_,rfl,oC,SU,hr.mono (by decide),_,_,_,rfl,cF _ _,?_⟩;walk_at "x";refine⟨ds,n,rfl,by rw[cE];rfl,by omega,?_⟩;rw[LO c,show aA.res ds ps (.cut n)=ds.take n.toNat++ds.drop (n.toNat+1)from LO c]
    |map m =>
     have cc:(if m.getD 0 0*m.getD 3 0=m.getD 1 0*m.getD 2 0 then(3:Int)else if(ds.map (Ts m)).any cL=true then 1 else 0)=0:=c0;have c:¬m.getD 0 0*m.getD 3 0=m.getD 1 0*m.getD 2 0:=fun c=>by rw[LX c]at cc;cases cc
     rw[LO c]at cc;have c2:¬(ds.map (Ts m)).any cL=true:=fun c=>by rw[LX c]at cc;cases cc
     refine⟨_,_,_,_,_,rfl,oM,P1,hr.mono (by decide),_,_,_,rfl,cF _ _,?_⟩;walk_at "x";refine⟨ds,m,rfl,by rw[cE];rfl,st.d,st.l,ho.1,ho.2,?_⟩;rw[LO c,LO c2,show aA.res ds ps (.map m)=ds.map (Ts m)from(LO c).trans (LO c2)]
    |clear =>
     refine⟨_,_,_,_,_,rfl,oE,R6,hr.mono (by decide),_,_,_,rfl,cF _ _,?_⟩;walk_at "x";rfl
   subst q6;obtain⟨b,ws,rfl,nb5,b6,kb,hw⟩:=Ca (vO _) hd6;have e16:=Xg.trans e6;have x6:=e16 _ _ h1;have p6:=e16 _ _ h2;have ul:us.length<=20:=by have:=h4.len;have:=st.n;rw[Ph]at *;omega
   refine⟨x,dx,v,p,us,.ref b,rfl,x6,p6,ul,fun l H7 e7 n7 l7=>?_⟩;have e17:=e16.trans e7;have x7:=e17 _ _ h1;have b7:=e7 _ _ b6;have xl:x≠l:=fun z=>by rw[z,l7]at x7;cases x7
   have bl:b≠l:=fun z=>by rw[z,n7]at b6;cases b6
   have bx:b≠x:=fun z=>by rw[z,x6]at b6;cases b6
   have sx:bf (fun a=>a=x∨a=p) H (L2.upd H7 x (.ins κ.Sheet dx [("dots", .ref b),("past", .ref l)])) :=
    (bf.of e17).trans (bf.upd (o:=.ins κ.Sheet dx [("dots", .ref b),("past", .ref l)]) (.inl rfl) x7 (fun _ e=>by cases e) True.intro True.intro)
   have ep:δ.Ud ds ps=(ps++[ds]).drop ((ps.length+1) - 20):=LX c0;have lk0:L2.upd H7 x (.ins κ.Sheet dx [("dots", .ref b),("past", .ref l)]) l=some (.lst ((us++[v]).drop ((us++[v]).length - 20))):=by rw[aq (Ne.symm xl),l7,JA]
   have Sm:∀M':Addr->Prop,(∀a,M' a->(M a∨(H a=none/\K.lookup a=none))/\a≠b)->Sh K M' (L2.upd H7 x (.ins κ.Sheet dx [("dots", .ref b),("past", .ref l)])) κ.Sheet x l (δ.res ds ps) (δ.Ud ds ps):=fun M' hM'=>by
    have k:∀t a,Av M' t a->Av M t a∨(H a=none/\K.lookup a=none):=fun t a z=>z.elim (fun z=>.inl (.inl z)) fun z=>(hM' a z).1.elim (fun z=>.inl (.inr z)) .inr
    have eu:us.length=ps.length:=by rw[h4.len,Ph]
    refine⟨dx,.ref b,_,ax,lk0,Den.lst (fun z=>z.elim (fun z=>by cases z) fun z=>(hM' b z).2 rfl) (.any (SqL.of (by rw[aq bx];exact b7))) ?_,?_⟩
    ·exact af.Ye _ _ (vO _) (af.QL (M:=fun a=>a=x) (P:=fun _ a=>a=x) (P':=fun _ a=>a=x) (bf.upd rfl x7 (fun _ e=>by cases e) True.intro (by exact True.intro)) (fun a z ws e=>by rw[z,x7]at e;cases e) (fun a z _=>z) (fun _ _ z=>.inl z) (dN _) ((hw _).same e7))
    ·rw[ep,show mY ((ps++[ds]).drop ((ps.length+1) - 20))=(mY ps++[D.lst false (ds.map N8)]).drop ((us++[v]).length - 20)from by
      unfold mY;rw[List.map_drop,VC,Q7,eu];rfl]
     exact tL _ (af.append (af.QL sx ht (fun a z _=>.inr (hN a z)) k (mW ps) h4) (af.one (Den.QL sx ht (fun a z _=>.inr (hN a z)) k (dN ds) h3)))
   refine fin _ _ _ _ _ l sx (.inr (e16.free n7)) (Sm _ fun a z=>z.elim) fun kl=>Sm _ fun a z=>?_
   rcases z with z|z
   ·exact⟨.inl z,fun e=>by obtain⟨o,h⟩:=mt a z;rw[e,Xg.free nb5]at h;cases h⟩
   ·exact⟨.inr ⟨by rw[z];exact e16.free n7,by rw[z];exact kl⟩,fun e=>bl (e.symm.trans z)⟩
theorem aA.XJ{ds:List Md}{ps:List (List Md)}{δ:aA}(st:fq ds ps)(ho:δ.ok)(hc:δ.code ds ps<=0):fq (δ.res ds ps) (δ.Ud ds ps):=by
 have key:∀rs:List Md,rs.length<=30->(∀d∈rs,TJ d)->δ.code ds ps=0->fq rs (δ.Ud ds ps):=fun rs l d c=>by
  have ep:δ.Ud ds ps=(ps++[ds]).drop ((ps.length+1) - 20):=LX c;rw[ep];refine⟨l,d,by rw[WZ,Q7];show _+1 - _<=20;omega,fun q hq=>?_⟩;rcases Tf.mp (List.mem_of_mem_drop hq)with z|z
  ·exact st.p q z
  ·rw[Wg]at z;rw[z];exact⟨st.l,st.d⟩
 by_cases hb:δ=.back
 ·subst hb;have pn:ps ≠ []:=fun z=>by
   have Ti:(if ps=[]then(4:Int)else -1)<=0:=hc;rw[LX z]at Ti;exact absurd Ti (by decide)
  have ec:aA.code ds ps .back=-1:=LO pn;rcases List.eq_nil_or_concat ps with e|⟨r,q0,e⟩
  ·exact absurd e pn
  ·rw[List.concat_eq_append]at e;subst e;have er:aA.res ds (r++[q0]) .back=q0:=by show(r++[q0]).getLastD ds=q0;simp
   have ep:aA.Ud ds (r++[q0]) .back=r:=by unfold aA.Ud;rw[ec];simp
   rw[er,ep];have z:=st.p q0 (by simp);exact⟨z.1,z.2,by have:=st.n;rw[Q7]at this;omega,fun q hq=>st.p q (ZO _ hq)⟩
 have c0:=δ.Yh hb hc;cases δ with
 |back=>exact absurd rfl hb
 |clear=>exact key [] (S9 _) (fun _ z=>by cases z) c0
 |put g =>
  have c:¬30<=ds.length:=fun c=>by have:(if 30<=ds.length then(1:Int)else 0)=0:=c0;rw[LX c]at this;cases this
  rw[show aA.res ds ps (.put g)=ds++[g]from LO c];refine key _ (by rw[Q7];show _+1<=30;omega) (fun d hd=>?_) c0;rcases Tf.mp hd with z|z
  ·exact st.d d z
  ·rw[Wg]at z;rw[z];exact ho
 |cut n =>
  have c:¬(n<0∨(ds.length:Int)<=n):=fun c=>by have:(if n<0∨(ds.length:Int)<=n then(2:Int)else 0)=0:=c0;rw[LX c]at this;cases this
  rw[show aA.res ds ps (.cut n)=ds.take n.toNat++ds.drop (n.toNat+1)from LO c];have l30:=st.l;refine key _ (by rw[Q7,Uq,WZ];omega) (fun d hd=>?_) c0;rcases Tf.mp hd with z|z
  ·exact st.d d (List.mem_of_mem_take z)
  ·exact st.d d (List.mem_of_mem_drop z)
 |map m =>
  have cc:(if m.getD 0 0*m.getD 3 0=m.getD 1 0*m.getD 2 0 then(3:Int)else if(ds.map (Ts m)).any cL=true then 1 else 0)=0:=c0;have c:¬m.getD 0 0*m.getD 3 0=m.getD 1 0*m.getD 2 0:=fun c=>by rw[LX c]at cc;cases cc
  rw[LO c]at cc;have c2:¬(ds.map (Ts m)).any cL=true:=fun c=>by rw[LX c]at cc;cases cc
  rw[show aA.res ds ps (.map m)=ds.map (Ts m)from(LO c).trans (LO c2)];refine key _ (by rw[Ph];exact st.l) (fun d hd=>?_) c0;have nf:cL d=false:=by
   cases e:cL d with
   |false=>rfl
   |true=>exact absurd (List.any_eq_true.mpr ⟨d,hd,e⟩) c2
  obtain⟨d0,WI,rfl⟩:=TB.mp hd;have o:=st.d d0 WI;unfold cL at nf;rw[Bool.or_eq_false_iff,decide_eq_false_iff_not,decide_eq_false_iff_not]at nf;exact⟨by omega,by omega,o.c0,o.c3,o.w1,o.w9⟩
def cg{α:Type}(g:α->Option D):List α->Option (yas)
 |[]=>some []
 |z::r=>match g z with
  |none=>none
  |some d=>(cg g r).map (d::·)
theorem tV{α:Type}(g:α->Option D)(z:α)(r:List α):cg g (z::r)=match g z with
  |none=>none
  |some d=>(cg g r).map (d::·):=rfl
theorem pI{α:Type}(g:α->Option D):∀a b:List α,cg g (a++b)=match cg g a with
  |none=>none
  |some x=>(cg g b).map (x++·)
 |[],b=>by show cg g b=(cg g b).map (fun y=>[]++y);cases cg g b<;>rfl
 |z::r,b=>by
  rw[Xk,tV,tV];cases g z with
  |none=>rfl
  |some d =>
   show(cg g (r++b)).map _=_;rw[pI g r b];cases cg g r with
   |none=>rfl
   |some x=>cases cg g b<;>rfl
theorem zU{α:Type}{n:Nat}{wi:DA}{js:yag}{te:DE}{ρ:Ro}{Q:D->Prop}{E:Prop}(zs:List α)(f:α->yas)(g:α->Option D)(hw:∀R:yas->Prop,R (zs.map fun z=>.tup (f z))->wi ρ R)(hz:zs.length<=sizeLine)(hn:∀z,(f z).length=n)
  (he:∀z∈zs,∀K:D->Prop,(match g z with|some d=>K d|none=>E)->te (gS (f z)++js.map (aU ρ)) K) (q:match cg g zs with|some gs=>Q (.lst true gs)|none=>E):i8 n wi js mG te ρ Q:=by
 refine hw _ ⟨by rw[Ph];exact hz,fun j out=>cg g (zs.take j)=some out,rfl,fun j d out hd ho=>?_,fun out ho=>?_⟩
 ·rw[Td]at hd;obtain⟨x,ex,rfl⟩:=Zm.mp hd;have hm:x∈zs:=Xj ex;have ht:zs.take (j+1)=zs.take j++[x]:=by rw[Yp,ex];rfl
  refine⟨f x,.inl rfl,hn x,?_⟩;unfold mG;dsimp only;rw[LX rfl];refine he x hm _ ?_;have hj:cg g (zs.take (j+1))=(cg g [x]).map (out++·):=by rw[ht,pI,ho]
  cases eg:g x with
  |some d =>
   show cg g (zs.take (j+1))=some (out++[d]);rw[hj];unfold cg;rw[eg];rfl
  |none =>
   have hN:cg g zs=none:=by
    have e:zs=zs.take (j+1)++zs.drop (j+1):=(zBn _ _).symm;have hk:cg g (zs.take (j+1))=none:=by rw[hj];unfold cg;rw[eg];rfl
    rw[e,pI,hk]
   rw[hN]at q;exact q
 ·rw[Ph,Zr]at ho;rw[ho]at q;exact q
def uS (κ : Cls) (ds : List Md) (d : D) (Ed : Value -> Prop) : Prop :=
 (Ta "str" d = false /\ Ed (.ref κ.NoAsk)) ∨ ∃ r, d = .str r /\ TX r /\ match ie r with
  | none => Ed (.ref κ.NoAsk)
  | some (fs, f, vs) => match cg (fun z : Str × Str => Zg z.1 z.2) (fs.zip vs) with
   | none => Ed (.ref κ.NoText)
   | some _ => (f = "deepest" /\ 12 < ds.length /\ Ed (.ref κ.TooMany)) ∨ (f = "two" /\ ds.length < 4 /\ Ed (.ref κ.TooFew)) ∨ (f = "three" /\ ds.length < 7 /\ Ed (.ref κ.TooFew))
def u0 (K:yac) (w:World) (mg:yam):Prop:=∃a es,mg "QUESTIONS" = some (.ref a)/\PD.cX K w a es/\((PD.TF es "deepest" = mg "tell_deepest" /\ (mg "tell_deepest").isSome=true)/\(PD.TF es "two" = mg "tell_two" /\ (mg "tell_two").isSome=true)/\(PD.TF es "three" = mg "tell_three" /\ (mg "tell_three").isSome=true))
def Bl(κ:Cls):DSp:=fun as _ Ed=>∃(ds:List Md) (ps:List (List Md)) (d:D),as=[Tv κ ds ps,d]/\fq ds ps/\uS κ ds d Ed
theorem Ar{f:Str}{fs:yah}(h:formOf f=some fs):fs.length<=6/\(∀u∈fs,Cq u)/\(sgn f).all (·<128)=true:=by
 unfold formOf at h;obtain⟨p,hp,rfl⟩:=Zm.mp h;have m:=List.mem_of_find?_eq_some hp;have e:f=p.1:=Wi (by simpa using List.find?_some hp);subst e
 revert m
 generalize p=p;intro m;have key:(k7.all fun p=>decide (p.2.length<=6) && p.2.all (fun u=>decide (u = "dot") || decide (u = "place") || decide (u = "letter") || decide (u = "number") || decide (u = "entry")) && (sgn p.1).all (·<128))=true:=by decide +kernel
 have k:=Up.mp key p m;simp only[S7,decide_eq_true_eq]at k;refine⟨k.1.1,fun u hu=>?_,k.2⟩;have:=Up.mp k.1.2 u hu;simp only[Yn,decide_eq_true_eq]at this;unfold Cq;rcases this with(((z|z)|z)|z)|z
 ·exact .inl z
 ·exact .inr (.inl z)
 ·exact .inr (.inr (.inl z))
 ·exact .inr (.inr (.inr (.inl z)))
 ·exact .inr (.inr (.inr (.inr z)))
theorem Bc{r f:Str}{fs vs:yah}(T:TX r)(h:ie r=some (fs,f,vs)):formOf f=some fs/\vs.length=fs.length/\∀v∈vs,TX v:=by
 unfold ie at h;cases ew:Txt.split r ⟨#[32]⟩with
 |nil=>exact absurd ew (pZ _ _)
 |cons f0 v0 =>
  rw[ew]at h;dsimp only at h;cases eo:formOf f0 with
  |none=>rw[eo]at h;cases h
  |some fs0 =>
   rw[eo]at h;dsimp only at h;by_cases c:v0.length=fs0.length
   ·rw[LX c]at h;cases h;exact⟨eo,c,fun v hv=>T.word (c:=32) (by rw[ew];exact SD _ hv)⟩
   ·rw[LO c]at h;cases h
theorem rV (F:ar K "ask" "Sheet.ask" bN f fd) (C:ON K mg κ) (FA:oW K w mg) (QO:u0 K w mg) (DO:nF K w mg) (Ot:uX P w K mg base κ) (Ou:uW P w K mg base κ) (Qn:rB P w K mg base κ) (h_two:yG P w K mg base κ) (XM:uY P w K mg base κ)
  (Qx:hV P w K mg base κ.Sheet "go_back" 1 ["self"] (sI κ)) (O7:hV P w K mg base κ.Sheet "change" 1 ["self", "dots"] fun _ _ _=>False) (LQ:mg "len" = none) (Mt:mg "str" = none) (Pw:mg "zip" = none):FnC P w K mg base 9 f fd ["self", "row"] (Bl κ):=by
 obtain⟨aF,esF,mF,kF,oF⟩:=FA;obtain⟨aQ,esQ,mQ,kQ,⟨oQ1,sQ1⟩,⟨oQ2,sQ2⟩,⟨oQ3,sQ3⟩⟩:=QO;obtain⟨aD,esD,mD,kD,oP,oC,oM,oE⟩:=DO;refine ar.Yg F bo (by walk_at "l") fun cdv A outer s H E Ed hr pm px hx=>⟨_,(aV (Q9.c (aL 2 bo.nd (bw px Ot (hr.mono (by decide)) (aa (dv 1) ae))))
  (aV (Q9.c (aL 3 bo.nd (az (dv 2) ag)))
  (aV (xj 4 bo.nd hx (by rfl) (by exact bS (osc:=ah bN) (xs:=["form", "word"]) (ns:=[]) (by decide +kernel)) bC.nil (.cons (.cons .nil)) (rO kF mF Pw (dv 3) (U1.Yd (dG (dv 2) (cu ag) cq))) (fun _ _ _ _ _ _=>cD) (fun _ _ _ _ _ px'=>bR px' Ou (hr.mono (by decide)) (Qc.c (aa (dv 0) (aa (dv 1) ae)))))
  (bq.c (ao (aS (vE kQ mQ (dv 3)) (aj (aC (eN px kQ mQ (dv 3) (aa (fJ C.LR C.LU (dv 0)) (aa (dv 4) ae))))) aB)
  (ao (aS (aK (cO (by exact hr.units)) (dv 3) ak) (aj (iS (tG px C.LR Qx (hr.mono (by decide)) (dv 0)))) (aj (iS (nO C.LR O7 (hr.mono (by decide)) (dv 0) (aa (eN px kD mD (dv 3) (aa (fJ C.LR C.LU (dv 0)) (aa (dv 4) ae))) ae)))))
  (aj (aC (bu cU (by rfl) Mt US (aa (aO bE (by rfl) LQ Se (aa (fJ C.LR C.LU (dv 0)) ae)) ae)))))))))),?_⟩
 rintro as Q ⟨ds,ps,d,rfl,st,h⟩;walk_at "s";walk_at "x";rcases h with⟨e,h⟩| ⟨r,rfl,T,h⟩
 ·exact .inl ⟨by rw[HH];exact e,h⟩
 refine .inr ⟨r,rfl,T,?_⟩;cases er:ie r with
 |none=>rw[er]at h;exact h
 |some q =>
  obtain⟨fs,f0,vs⟩:=q;rw[er]at h;dsimp only at h;obtain⟨ef,el,et⟩:=Bc T er;obtain⟨f6,fm,fa⟩:=Ar ef;have o:=oF f0;rw[ef]at o;refine zU (fs.zip vs) (fun z=>[.str z.1,.str z.2]) (fun z=>Zg z.1 z.2) (E:=Ed (.ref κ.NoText)) (fun R q=>?_) (au (by rw[List.length_zip];omega)) (fun _=>rfl) (fun z hz S s=>?_) ?_
  ·unfold ql;walk_at "x";rw[yP];have e:List.zipWith (fun x y=>D.tup [x,y]) (fs.map D.str) (vs.map D.str)=(fs.zip vs).map fun z=>D.tup [.str z.1,.str z.2]:=by
    rw[List.zip,List.map_zipWith,List.zipWith_map]
   refine⟨f0,fs,rfl,o,?_⟩;rw[e];exact q
  ·have hm:=Zs hz;show fk κ [.str z.1,.str z.2] S Ed;exact⟨z.1,z.2,rfl,et _ hm.2,fm _ hm.1,s⟩
  cases eg:cg (fun z:Str×Str=>Zg z.1 z.2) (fs.zip vs)with
  |none=>rw[eg]at h;exact h
  |some gs =>
   rw[eg]at h;dsimp only at h ⊢;rcases h with⟨rfl,hl,h⟩| ⟨rfl,hl,h⟩| ⟨rfl,hl,h⟩
   ·unfold j6 eM ic;walk_at "x";rw[oQ1,LX sQ1];refine⟨_,"tell_deepest", _,_,_,rfl,oQ1,Qn,hr.mono (by decide),?_⟩;walk_at "x";exact⟨_,_,_,rfl,cF _ _,ds,by rw[av,bY],hl,h⟩
   ·unfold j6 eM ic;walk_at "x";rw[oQ2,LX sQ2];refine⟨_,"tell_two", _,_,_,rfl,oQ2,h_two,hr.mono (by decide),?_⟩;walk_at "x";exact⟨_,_,_,rfl,cF _ _,ds,by rw[av,bY],hl,h⟩
   ·unfold j6 eM ic;walk_at "x";rw[oQ3,LX sQ3];refine⟨_,"tell_three", _,_,_,rfl,oQ3,XM,hr.mono (by decide),?_⟩;walk_at "x";exact⟨_,_,_,rfl,cF _ _,ds,by rw[av,bY],hl,h⟩
theorem FnC.or{sp VG:DSp}{k:Nat}{ps:yah}(F:FnC P w K mg base k f fd ps sp)(G:FnC P w K mg base k f fd ps VG):FnC P w K mg base k f fd ps fun as Q Ed=>sp as Q Ed∨VG as Q Ed:=by
 have cut:∀vs H Q E,aJ K (fun as Q Ed=>sp as Q Ed∨VG as Q Ed) vs H Q E->aJ K sp vs H Q E∨aJ K VG vs H Q E:=fun vs H Q E h=>by
  obtain⟨a1,ds,a2,a3,a4,a5,hd,hs,a6⟩:=h;rcases hs with hs|hs
  ·exact .inl ⟨a1,ds,a2,a3,a4,a5,hd,hs,a6⟩
  ·exact .inr ⟨a1,ds,a2,a3,a4,a5,hd,hs,a6⟩
 exact⟨fun vs H Q E h=>(cut _ _ _ _ h).elim (F.len vs H Q E) (G.len vs H Q E),fun A outer s H args us vs Q E a b c d e=>(cut _ _ _ _ e).elim (F.run A outer s H args us vs Q E a b c d) (G.run A outer s H args us vs Q E a b c d)⟩
theorem aE.toC{sp:DSp}{k:Nat}{ps:yah}(F:aE P w K mg base (CX1 P w) k f fd ps (aJ K sp)):FnC P w K mg base k f fd ps sp :=
 ⟨F.len,fun A outer s H args us vs Q E a b c d e=>WC.aN.of (F.run A outer s H args us vs Q E a b c d e)⟩
theorem Ck{c:Addr}{m qual:Str}{st:Stmt}{k:Nat}{ps:yah}{sp:DSp}(e:PD.Vk K c m qual st)(P:Program)(w:World)(base:Heap)(ok:∀{f:Addr} {fd:FuncData},ar K m qual st f fd->FnC P w K mg base k f fd ps sp)
  (hb:∀(kV dc pm:Value) (an:Option Addr) (cd ct:Value),pb ps.length fun us=>bindArgs (PySem.W.fnOf m qual (bG st) (bp st) (ah st) .none kV dc pm an cd ct) ⟨us,[]⟩=pure (ps.zip us):=by
   repeat intro _
   rfl):yI P w K mg base c m k ps sp:=by
 obtain⟨f,oc,od,kV,dc,pm,an,cd,ct,sl,a,i,b,c',d⟩:=e;exact⟨f,_,ok (fF b c' d),⟨a,i,d⟩,.all fun us hl=>kT us hl (hb kV dc pm an cd ct)⟩
def wK(κ:Cls):DSp:=fun as Q Ed=>Bl κ as Q Ed∨lA κ as Q Ed
theorem uS.mono{ds:List Md}{d:D}{Ed Ed':Value->Prop}(h:uS κ ds d Ed)(i:∀v,Ed v->Ed' v):uS κ ds d Ed':=by
 rcases h with⟨e,h⟩| ⟨r,e,T,h⟩
 ·exact .inl ⟨e,i _ h⟩
 ·refine .inr ⟨r,e,T,?_⟩;cases er:ie r with
  |none=>rw[er]at h;exact i _ h
  |some q =>
   obtain⟨fs,f0,vs⟩:=q;rw[er]at h;dsimp only at h ⊢;cases eg:cg (fun z:Str×Str=>Zg z.1 z.2) (fs.zip vs)with
   |none=>rw[eg]at h;exact i _ h
   |some gs =>
    rw[eg]at h;exact h.imp (fun⟨a,b,c⟩=>⟨a,b,i _ c⟩) (Or.imp (fun⟨a,b,c⟩=>⟨a,b,i _ c⟩) fun⟨a,b,c⟩=>⟨a,b,i _ c⟩)
theorem aA.Tu.mono{ds:List Md}{ps:List (List Md)}{δ:aA}{Ed Ed':Value->Prop}(h:δ.Tu κ ds ps Ed)(i:∀v,Ed v->Ed' v):δ.Tu κ ds ps Ed':=by unfold aA.Tu at h ⊢;exact h.imp (fun⟨a,b⟩=>⟨a,i _ b⟩) (Or.imp (fun⟨a,b⟩=>⟨a,i _ b⟩) (Or.imp (fun⟨a,b⟩=>⟨a,i _ b⟩) fun⟨a,b⟩=>⟨a,i _ b⟩))
def oZ(κ:Cls)(ds:List Md)(ps:List (List Md))(d:D)(Ed:Value->Prop):Prop :=
 uS κ ds d Ed∨∃ (f:Str) (fs vs:yah) (δ:aA),d=.str (Str.join ⟨#[32]⟩ (f::vs))/\va f fs vs δ.given/\f=δ.nm/\δ.ok/\δ.Tu κ ds ps Ed
theorem oZ.ask{ds:List Md}{ps:List (List Md)}{d:D}{c:Addr}{Q:D->Prop}{Ed:Value->Prop}(h:oZ κ ds ps d (·=.ref c))(st:fq ds ps)(i:Ed (.ref c)):wK κ [Tv κ ds ps,d] Q Ed:=by
 rcases h with h|⟨f,fs,vs,δ,rfl,R,e,ho,h⟩
 ·exact .inl ⟨ds,ps,d,rfl,st,h.mono fun v e=>by rw[e];exact i⟩
 ·exact .inr ⟨ds,ps,f,fs,vs,δ.given,rfl,R,st,.inr ⟨δ,e,rfl,ho,h.mono fun v e=>by rw[e];exact i⟩⟩
def Bn(κ:Cls):DSp:=fun as Q _=>∃(ds:List Md) (ps:List (List Md)) (d:D) (k:Int) (c:Addr),as=[Tv κ ds ps,d,.int k]/\fq ds ps/\av d=d/\iC κ k c/\oZ κ ds ps d (·=.ref c)/\Q (.bl true)
theorem hU(ds:List Md)(ps:List (List Md)):av (Tv κ ds ps)=Tv κ ds ps:=by unfold Tv;rw[av,aR,aR,bZ,av,av,bY,cI _ (fun q=>by rw[av,bY])]
theorem qE (F:ar K "_law_refused" "_law_refused" cG f fd) (C:ON K mg κ) (QV:yI P w K mg base κ.Sheet "ask" 9 ["self", "row"] (wK κ)) (O1:oA P w K mg base κ) (Mc:mg "ValueError" = none) (LK:mg "isinstance" = none) (MX:mg "range" = none):FnC P w K mg base 10 f fd ["_law_sheet", "_law_row", "_law_way"] (Bn κ):=by
 refine ar.okKN F bJ (by walk_at "l") fun _ _ _ _ _ _ hr=>⟨_,(aV (Q9.c (aL 3 bJ.nd mJ)) (aV (BZ 4 C.LR QV (hr.mono (by decide)) bJ.nd C.N9 (dv 0) (aa (dv 1) ae) (fun _=>(aj (aL 3 bJ.nd (dv 4)))))
  (bq.c (ao (aS (VI.pt (lF (aK AQ (dv 3) mJ) (jc (eP (eQ (bU (by rfl) LK (si (v:=.ty "ValueError") (by rfl) Mc (by rfl) rfl) (fun u h=>h) (dv 3))))))) (aj (aC qm)) aB)
  (aj (aC (kW (cO (by exact hr.units)) (aM O1 hr (aa (dv 3) ae)) (df (by rfl) (by exact bS (osc:=ah cG) (xs:=["_law_k"]) (ns:=["_law_way"]) (by decide +kernel)) (bC.cons 2 bC.nil) (jT (by rfl) MX (aa ag ae)) (fun _ _ _ _ _=>cD) (fun _ _ _ _ _=>(kW hG (dv 0) (dv 1))))))))))),?_⟩
 rintro as Q Ed ⟨ds,ps,d,k,c,rfl,st,ud,hk,h,q⟩;walk_at "s";walk_at "x";unfold qk;walk_at "x";refine⟨_,_,rfl,by decide +kernel,?_⟩;show wK κ (av (Tv κ ds ps)::ay [d]) _ _;rw[hU,aR,ud,bZ];refine h.ask st ?_;have key:∀(k:Int) (v:Sl) (R:D->Prop),R (.lst true (kdL k))->jR (uJ (lD (dC (D.int 8)) mH)) [2] mG (X7 (fy fun i j=>D.bl (decide (i=j))) (i9 0) (i9 1)) [some (Sl.val (Tv κ ds ps)),some (Sl.val d),some (Sl.val (D.int k)),some v,none] R:=fun k v R r=>by
  refine PD.comp_map [0,1,2,3,4,5,6,7] D.int (fun _=>true) (fun z=>D.bl (decide (z=k))) (fun R q=>?_) (au (by decide)) (fun x _ K hK=>?_) (fun x hx _ K hK=>?_) ?_
  ·walk_at "x";exact⟨⟨by decide,by decide⟩,q⟩
  ·exact hK
  ·walk_at "x";exact hK
  ·exact r
 have okb:∀(x:Bool) (L:List Bool),okD (D.lst x (L.map D.bl)):=fun x L=>(Wb.lst (n:=1) (iY.of fun d hd=>by obtain⟨z,_,rfl⟩:=TB.mp hd;exact AS z)).ok
 have Tr:∀k,okD (D.lst true (kdL k)):=fun k=>okb true [_,_,_,_,_,_,_,_]
 rcases hk with⟨rfl,rfl⟩| ⟨rfl,rfl⟩| ⟨rfl,rfl⟩| ⟨rfl,rfl⟩| ⟨rfl,rfl⟩| ⟨rfl,rfl⟩| ⟨rfl,rfl⟩
 ·refine⟨_,rfl,C.PU,C.Ms,?_⟩;walk_at "x";refine⟨_,C.Mr,(LO (by decide)).mpr ⟨0,_,rfl,by unfold iC;simp,key 0 _ _ ⟨Tr _,Tr _,?_⟩⟩⟩;rw[cz];exact q
 ·refine⟨_,rfl,C.O9,C.Mh,?_⟩;walk_at "x";refine⟨_,C.Mg,(LO (by decide)).mpr ⟨1,_,rfl,by unfold iC;simp,key 1 _ _ ⟨Tr _,Tr _,?_⟩⟩⟩;rw[cz];exact q
 ·refine⟨_,rfl,C.PR,C.Mq,?_⟩;walk_at "x";refine⟨_,C.Mp,(LO (by decide)).mpr ⟨2,_,rfl,by unfold iC;simp,key 2 _ _ ⟨Tr _,Tr _,?_⟩⟩⟩;rw[cz];exact q
 ·refine⟨_,rfl,C.Pc,C.Mm,?_⟩;walk_at "x";refine⟨_,C.Ml,(LO (by decide)).mpr ⟨3,_,rfl,by unfold iC;simp,key 3 _ _ ⟨Tr _,Tr _,?_⟩⟩⟩;rw[cz];exact q
 ·refine⟨_,rfl,C.Pa,C.Mj,?_⟩;walk_at "x";refine⟨_,C.Mi,(LO (by decide)).mpr ⟨4,_,rfl,by unfold iC;simp,key 4 _ _ ⟨Tr _,Tr _,?_⟩⟩⟩;rw[cz];exact q
 ·refine⟨_,rfl,C.OU,C.Mb,?_⟩;walk_at "x";refine⟨_,C.Ma,(LO (by decide)).mpr ⟨5,_,rfl,by unfold iC;simp,key 5 _ _ ⟨Tr _,Tr _,?_⟩⟩⟩;rw[cz];exact q
 ·refine⟨_,rfl,C.OZ,C.LZ,?_⟩;walk_at "x";refine⟨_,C.LY,(LO (by decide)).mpr ⟨6,_,rfl,by unfold iC;simp,key 6 _ _ ⟨Tr _,Tr _,?_⟩⟩⟩;rw[cz];exact q
def wM (κ:Cls):DSp:=fun as Q _=>∃(ds:List Md),as=[Tv κ ds [],.str "back", .int 6]/\fq ds []/\Q (.bl true)
theorem BU:Str.join ⟨#[32]⟩ (aA.back.nm::aA.back.ws) = "back" := by decide +kernel
theorem qF (F:ar K "_law_refused" "_law_refused" cG f fd) (C:ON K mg κ) (QV:hV P w K mg base κ.Sheet "ask" 9 ["self", "row"] (lA κ)) (O1:oA P w K mg base κ) (Mc:mg "ValueError" = none) (LK:mg "isinstance" = none) (MX:mg "range" = none):aE P w K mg base (CX1 P w) 10 f fd ["_law_sheet", "_law_row", "_law_way"] (aJ K (wM κ)):=by
 refine ar.okN F bJ (by walk_at "l") fun _ _ _ _ _ _ hr=>⟨_,(ao (aL 3 bJ.nd mJ) (ao (Cb 4 C.LR QV (hr.mono (by decide)) bJ.nd C.N9 (dv 0) (aa (dv 1) ae) (fun _=>(aj (aL 3 bJ.nd (dv 4)))))
  (ao (aS (VI.pt (lF (aK AQ (dv 3) mJ) (jc (eP (eQ (bU (by rfl) LK (si (v:=.ty "ValueError") (by rfl) Mc (by rfl) rfl) (fun u h=>h) (dv 3))))))) (aj (aC qm)) aB)
  (aj (aC (kW (cO (by exact hr.units)) (aM O1 hr (aa (dv 3) ae)) (df (by rfl) (by exact bS (osc:=ah cG) (xs:=["_law_k"]) (ns:=["_law_way"]) (by decide +kernel)) (bC.cons 2 bC.nil) (jT (by rfl) MX (aa ag ae)) (fun _ _ _ _ _=>cD) (fun _ _ _ _ _=>(kW hG (dv 0) (dv 1)))))))))),?_⟩
 rintro as Q Ed ⟨ds,rfl,st,q⟩;walk_at "s";walk_at "x";unfold qk;walk_at "x";refine⟨_,_,rfl,by decide +kernel,?_⟩;show lA κ (av (Tv κ ds [])::ay [.str "back"]) _ _;rw[hU,aR,bZ];have R:va aA.back.nm aA.back.fs aA.back.ws aA.back.given:=aA.WS (δ:=.back) trivial;refine⟨ds,[],_,_,_,_,?_,R,st,.inr ⟨.back,rfl,rfl,trivial,?_⟩⟩
 ·rw[BU];rfl
 refine .inr (.inr (.inr ⟨rfl,?_⟩));have key:∀(k:Int) (v:Sl) (R:D->Prop),R (.lst true (kdL k))->jR (uJ (lD (dC (D.int 8)) mH)) [2] mG (X7 (fy fun i j=>D.bl (decide (i=j))) (i9 0) (i9 1)) [some (Sl.val (Tv κ ds [])),some (Sl.val (.str "back")),some (Sl.val (D.int k)),some v,none] R:=fun k v R r=>by
  refine PD.comp_map [0,1,2,3,4,5,6,7] D.int (fun _=>true) (fun z=>D.bl (decide (z=k))) (fun R q=>?_) (au (by decide)) (fun x _ K hK=>?_) (fun x hx _ K hK=>?_) ?_
  ·walk_at "x";exact⟨⟨by decide,by decide⟩,q⟩
  ·exact hK
  ·walk_at "x";exact hK
  ·exact r
 have okb:∀(x:Bool) (L:List Bool),okD (D.lst x (L.map D.bl)):=fun x L=>(Wb.lst (n:=1) (iY.of fun d hd=>by obtain⟨z,_,rfl⟩:=TB.mp hd;exact AS z)).ok
 have Tr:∀k,okD (D.lst true (kdL k)):=fun k=>okb true [_,_,_,_,_,_,_,_]
 refine⟨_,rfl,C.OZ,C.LZ,?_⟩;walk_at "x";refine⟨_,C.LY,(LO (by decide)).mpr ⟨6,_,rfl,by unfold iC;simp,key 6 _ _ ⟨Tr _,Tr _,?_⟩⟩⟩;rw[cz];exact q
theorem lH{i:Nat}{v:V}{σ:L2.St}{H:Hp}{Q:L2.St->Hp->Prop}(h:Q (σ.set i (some v)) H):yW i v σ H Q:=h
theorem tR{P:yak}{H:Hp}:∀{cs:yaf} {ws:yar},af K P H (cs.map D.int) ws->ws=cs.map V.int
 |[],_,h=>by simpa only[Wk,af]using h
 |c::r,_,h=>by rw[Sv]at h;simp only[af]at h;obtain⟨v,u,rfl,h1,h2⟩:=h;rw[h1.O4,tR h2];rfl
theorem made {H:Hp} {C x dx l1 l2:Addr} (nx:H x=none) (nd:H dx=none) (ne:dx≠x) (h1:L2.upd (L2.upd H dx (.own x)) x (.ins C dx []) l1=none) (h2:L2.upd (L2.upd H dx (.own x)) x (.ins C dx []) l2=none) (Yz:l1≠l2) {H2:Hp} (e:H2=L2.upd (L2.upd (L2.upd (L2.upd (L2.upd H dx (.own x)) x (.ins C dx [])) l1 (.lst [])) l2 (.lst [])) x (.ins C dx [("dots", .ref l1),("past", .ref l2)])) :
  PD.ai H H2/\H2 x=some (.ins C dx [("dots", .ref l1),("past", .ref l2)])/\H2 l1=some (.lst [])/\H2 l2=some (.lst [])/\H l1=none/\H l2=none/\x≠l1/\x≠l2:=by
 have x1:x≠l1:=fun z=>by rw[z,ax]at h1;cases h1
 have x2:x≠l2:=fun z=>by rw[z,ax]at h2;cases h2
 have d1:dx≠l1:=fun z=>by rw[<- z,aq ne,ax]at h1;cases h1
 have d2:dx≠l2:=fun z=>by rw[<- z,aq ne,ax]at h2;cases h2
 have g1:H l1=none:=by rwa [aq (Ne.symm x1),aq (Ne.symm d1)]at h1
 have g2:H l2=none:=by rwa [aq (Ne.symm x2),aq (Ne.symm d2)]at h2
 have sa:PD.ai H (L2.upd (L2.upd (L2.upd (L2.upd H dx (.own x)) x (.ins C dx [])) l1 (.lst [])) l2 (.lst [])):=(((PD.ai.upd nd).trans (PD.ai.upd (by rw[aq (Ne.symm ne)];exact nx))).trans (PD.ai.upd h1)).trans (PD.ai.upd (by rw[aq (Ne.symm Yz)];exact h2));have sx:L2.upd (L2.upd (L2.upd (L2.upd H dx (.own x)) x (.ins C dx [])) l1 (.lst [])) l2 (.lst []) x=some (.ins C dx []):=by rw[aq x2,aq x1];exact ax
 subst e;exact⟨((bf.of sa).trans (bf.upd (M:=fun a=>a=x) rfl sx (fun _ e=>by cases e) True.intro (by exact True.intro))).new fun a z=>z ▸ nx,ax,by rw[aq (Ne.symm x1),aq Yz];exact ax,by rw[aq (Ne.symm x2)];exact ax,g1,g2,x1,x2⟩
structure LJ(K:yac)(C:Addr)(H0 H:Hp)(M:Addr->Prop)(x p:Addr)(ds:List Md)(ps:List (List Md)):Prop where
 tk:cK K H
 mt:∀a,M a->∃o,H a=some o
 sx:bf M H0 H
 S:Sh K M H C x p ds ps
 o:fq ds ps
 mx:M x
 mp:M p
section
variable{C:Addr}{H0 H H':Hp}{M:Addr->Prop}{x p:Addr}{ds:List Md}{ps:List (List Md)}
theorem LJ.same(L:LJ K C H0 H M x p ds ps)(e:PD.ai H H'):LJ K C H0 H' M x p ds ps :=
 ⟨L.tk.same e,fun a m=>let ⟨_,h⟩:=L.mt a m;e.ex h,L.sx.trans (.of e),L.S.same e,L.o,L.mx,L.mp⟩
theorem LJ.XN(L:LJ K C H0 H M x p ds ps):Dom H0 H:=(Dom.refl H0).QL L.sx
theorem Sh.at1 (S:Sh K M H C x p ds ps):(∃dx v,H x=some (.ins C dx [("dots", v),("past", .ref p)]))/\∃us,H p=some (.lst us):=by obtain⟨dx,v,us,h1,h2,_⟩:=S.ex;exact⟨⟨dx,v,h1⟩,us,h2⟩
theorem LJ.tup(L:LJ K C H0 H M x p ds ps):∀a,(a=x∨a=p)->∀vs,H a≠some (.tup vs):=fun a z ws e=>by
 obtain⟨⟨dx,v,h1⟩,us,h2⟩:=L.S.at1;rcases z with z|z
 ·rw[z,h1]at e;cases e
 ·rw[z,h2]at e;cases e
theorem LJ.in_(L:LJ K C H0 H M x p ds ps):∀a,(a=x∨a=p)->M a:=fun _ z=>z.elim (fun z=>z ▸ L.mx) fun z=>z ▸ L.mp
theorem LJ.step(L:LJ K C H0 H M x p ds ps){p':Addr}{T8:List Md}{ps':List (List Md)}(sx:bf (fun a=>a=x∨a=p) H H')(hp:p'=p∨(H p'=none/\K.lookup p'=none))(S:Sh K (fun a=>M a∨a=p') H' C x p' T8 ps')(o:fq T8 ps') :
  LJ K C H0 H' (fun a=>M a∨a=p') x p' T8 ps'/\(∀d v,fu d->Den K (Av M) H d v->Den K (Av fun a=>M a∨a=p') H' d v)/\(∀G:Addr->Prop,(∀a,H0 a=none->G a)->(∀a,M a->G a)->∀a,(M a∨a=p')->G a):=by
 have hM:∀a,(M a∨a=p')->M a∨(H a=none/\K.lookup a=none):=fun a z=>z.elim .inl fun z=>hp.elim (fun e=>.inl (z ▸ e ▸ L.mp)) fun e=>.inr (z ▸ e)
 have hMt:∀t a,Av (fun a=>M a∨a=p') t a->Av M t a∨(H a=none/\K.lookup a=none):=fun t a z=>z.elim (fun z=>.inl (.inl z)) fun z=>(hM a z).elim (fun z=>.inl (.inr z)) .inr
 refine⟨⟨sx.tab L.tk,fun a m=>?_,(L.sx.mono fun a z=>.inl z).trans (sx.mono fun a z=>.inl (L.in_ a z)),S,o,.inl L.mx,.inr rfl⟩,fun d v pl hd=>Den.QL sx L.tup (fun a z _=>.inr (L.in_ a z)) hMt pl hd,fun G g h a m=>?_⟩
 ·rcases m with m|m
  ·obtain⟨o,h⟩:=L.mt a m;exact sx.ex a o h
  ·obtain⟨_,us,h⟩:=S.at1;exact⟨_,m ▸ h⟩
 ·rcases hM a m with m|m
  ·exact h a m
  ·refine g a ?_;cases e:H0 a with
   |none=>rfl
   |some u =>
    obtain⟨u',h⟩:=L.sx.ex a u e;rw[m.1]at h;cases h
end
section
variable{H0 H:Hp}{M:Addr->Prop}{x p:Addr}{ds:List Md}{ps:List (List Md)}
theorem ve(L:LJ K κ.Sheet H0 H M x p ds ps){σ:L2.St}{i:Nat}{te:TE}{δ:aA}{Q:VK}(hi:σ[i]?=some (some (.ref x)))(ho:δ.ok)(hc:δ.code ds ps<=0)
  (ht:∀R:V->Hp->Prop,(∀H1,PD.ai H H1->R (.str δ.row) H1)->te σ H R)
  (hQ:∀H' p',LJ K κ.Sheet H0 H' (fun a=>M a∨a=p') x p' (δ.res ds ps) (δ.Ud ds ps)->(∀d v,fu d->Den K (Av M) H d v->Den K (Av fun a=>M a∨a=p') H' d v)->(∀G:Addr->Prop,(∀a,H0 a=none->G a)->(∀a,M a->G a)->∀a,(M a∨a=p')->G a)->Q (.str (tI (δ.res ds ps).length)) H') :
  rq κ.Sheet "ask" (qU K κ.Sheet) [] E0 (Dc i) (j2 te nB) σ H Q:=by
 obtain⟨⟨dx,v,h1⟩,_⟩:=L.S.at1;refine⟨_,hi,x,dx,_,rfl,h1,y3 _ _ (by decide +kernel) (by decide +kernel),ht _ fun H1 e1=>?_⟩;have L1:=L.same e1;refine⟨M,x,p,ds,ps,δ,rfl,L1.tk,L1.mt,L1.mx,L1.mp,L1.S,L1.o,ho,hc,fun H' p' sx hp' S kf=>?_⟩;obtain⟨L2',k2,k3⟩:=L1.step sx hp' S (aA.XJ L1.o ho hc);exact hQ H' p' L2' (fun d v pl h=>k2 d v pl (h.same e1)) k3
theorem LJ.obj(ck:PX.hW K κ.Sheet)(L:LJ K κ.Sheet H0 H M x p ds ps):Den K (fun t a=>False∨(t=true/\∃o,H a=some o)) H (Tv κ ds ps) (.ref x):=L.S.obj ck (P:=fun _=>False) (fun _ z=>z.elim) id
end
def pz(ds:List Md)(m k:Nat):List (List Md):=(List.range' m k).map fun i=>ds.take i
theorem A6(ds:List Md)(m k:Nat):(pz ds m k).length=k:=by unfold pz;rw[Ph,List.length_range']
theorem sv(ds:List Md)(m k:Nat):pz ds m (k+1)=pz ds m k++[ds.take (m+k)]:=by unfold pz;rw[List.range'_1_concat,VC];rfl
theorem Fp(ds:List Md)(m k n:Nat):(pz ds m k).drop n=pz ds (m+n) (k - n):=by unfold pz;rw[<- List.map_drop,List.drop_range'];simp
theorem IT(ds:List Md)(i:Nat):(pz ds (i - 20) (min i 20)++[ds.take i]).drop ((pz ds (i - 20) (min i 20)).length+1 - 20)=pz ds (i+1 - 20) (min (i+1) 20):=by
 have e:pz ds (i - 20) (min i 20)++[ds.take i]=pz ds (i - 20) (min i 20+1):=by rw[sv,show i - 20+min i 20=i by omega]
 rw[e,Fp,A6,show i - 20+(min i 20+1 - 20)=i+1 - 20 by omega,show min i 20+1 - (min i 20+1 - 20)=min (i+1) 20 by omega]
theorem Fo{ds:List Md}{g:Md}{i:Nat}{ps:List (List Md)}(h:i<30)(e:ds[i]?=some g):(aA.put g).res (ds.take i) ps=ds.take (i+1):=by
 have l:¬30<=(ds.take i).length:=by rw[Uq];omega
 show(if 30<=(ds.take i).length then ds.take i else ds.take i++[g])=_;rw[LO l,Yp,e];rfl
theorem wo{ds:List Md}{g:Md}{i:Nat}{ps:List (List Md)}(h:i<30):(aA.put g).code (ds.take i) ps=0:=by
 have l:¬30<=(ds.take i).length:=by rw[Uq];omega
 exact LO l
theorem Fn{ds:List Md}{g:Md}{i:Nat}(h:i<30):(aA.put g).Ud (ds.take i) (pz ds (i - 20) (min i 20))=pz ds (i+1 - 20) (min (i+1) 20):=by unfold aA.Ud;rw[LX (wo h),IT]
theorem sZ{ds c:List Md}{m k:Nat}:aA.back.code c (pz ds m (k+1))=-1:=by
 show(if pz ds m (k+1)=[]then(4:Int)else -1)=-1;rw[LO fun z=>by have:=congrArg List.length z;rw[A6]at this;cases this]
theorem BS{ds c:List Md}{m k:Nat}:aA.back.res c (pz ds m (k+1))=ds.take (m+k):=by show(pz ds m (k+1)).getLastD c=_;rw[sv];simp
theorem BR{ds c:List Md}{m k:Nat}:aA.back.Ud c (pz ds m (k+1))=pz ds m k:=by unfold aA.Ud;rw[sZ,sv];simp
theorem Ay{ta tb:TE}{a b:TS}{En:Ends}{σ:L2.St}{H:Hp}(h:ta σ H fun x H1=>tb σ H1 fun y H2=>rNe x y H2 fun z H3=>∃k,z=V.bl k/\if k=true then a En σ H3 else b En σ H3):zz (D5 (tOp rNe ta tb)) a b En σ H:=h
theorem C1{t:TE}{a b u:TS}{En:Ends}{σ:L2.St}{H:Hp}(h:t σ H fun x H1=>∃c,x=V.bl c/\if(!c)=true then a {En with nx:=u En} σ H1 else b {En with nx:=u En} σ H1):C9 (zz (Jd (tB t)) a b) u En σ H:=h
def D0(K:yac)(C:Addr):Sp:=fun vs H Q _=>∃(M:Addr->Prop) (x p:Addr) (ds:List Md) (v:V),vs=[.ref x,v]/\cK K H/\(∀a,M a->∃o,H a=some o)/\M x/\M p/\Sh K M H C x p ds (pz ds (ds.length - 20) (min ds.length 20))/\fq ds (pz ds (ds.length - 20) (min ds.length 20))/\Den K (Av M) H (.lst false (ds.map N8)) v ∧
 ∀ H' M',bf M' H H'->(∀a,M' a->M a∨H a=none)->Q (.bl true) H'
theorem CZ:Str.ofString "back" = aA.back.row:=by decide +kernel
theorem uo (F:ar K "_law_undone" "_law_undone" gc f fd) (C:ON K mg κ) (QV:j4 P w K mg base κ.Sheet "ask" 9 ["self", "row"] (qU K κ.Sheet)) (Vq:hV P w K mg base κ.Sheet "ask" 9 ["self", "row"] (lA κ)) (Tw:Pj P w K mg base "_law_refused" 10 ["_law_sheet", "_law_row", "_law_way"] (wM κ)) (OV:qb P w K mg base κ) (MX:mg "range" = none) (RV:mg "min" = none) (RW:mg "max" = none) (LQ:mg "len" = none) (Mt:mg "str" = none):aE P w K mg base (CX1 P w) 11 f fd ["_law_sheet", "_law_dots_here"] (D0 K κ.Sheet):=by
 obtain⟨oc,od,dV,kV,doc,pm,an,cdv,ct,Us,rfl,lk,RN⟩:=F.ex;refine nR lk RN mm (fun vs H Q E h=>?_) fun A outer s H vs Q E hr h=>?_
 ·obtain⟨M,x,p,ds,v,rfl,_⟩:=h;rfl
 obtain⟨M,x,p,ds,v,rfl,tk,mt,mx,mp,S,st,hv,hQ⟩:=h;refine⟨_,cM (PS.Qp (A4 PassesOwn.never rfl (tX (by rfl) MX (bI (cj fun H=>(aO (Gq rfl) (by rfl) RV boot_min (aa ag (aa (aO bE (by rfl) LQ Se (aa (dv 1) ae)) ae)))) cB)) (lj (i:=2) mm.nd (by rfl) (.inl rfl))
   (bT (nU (sr zf (pK QV (hr.mono (by decide)) C.LR (pv 0) (bI A2 cB)) (cj fun H=>(bu cU (by rfl) Mt US (aa (aG mU (aG mU (aO bE (by rfl) LQ Se (aa (dv 1) ae)) ag) (dv 2)) ae))) (by rfl)) (bT (jj qJ)) gr))))
  (cM (nU (IQ (IS (cj fun H=>(aM Tw hr (aa (dv 0) (aa ak (aa ag ae))))))) (bT (jj qJ)) gr)
  (bT (jj (cj fun H=>(kW (cO (by exact hr.units)) (nO C.LR Vq (hr.mono (by decide)) (dv 0) (aa ak ae)) (rK ak (aa (df (by rfl) (by exact bS (osc:=ah gc) (xs:=["_law_dot"]) (ns:=[]) (by decide +kernel)) bC.nil (dZ (U1.Yd (dG (dv 1) cq (cu (aO (Gp rfl) (by rfl) RW boot_max (aa ag (aa (aG mU (aO bE (by rfl) LQ Se (aa (dv 1) ae)) ag) ae))))))) (fun _ _ _ _ _=>cD) (fun _ _ _ _ _=>(aM OV hr (aa (dv 0) ae)))) ae))))))),?_⟩
 have L0:LJ K κ.Sheet H H M x p (ds.take (ds.length - 0)) (pz ds (ds.length - 20) (min ds.length 20 - 0)):=⟨tk,mt,.of (PD.ai.refl H),by rw[Nat.sub_zero,Nat.sub_zero,Zr];exact S,by rw[Nat.sub_zero,Nat.sub_zero,Zr];exact st,mx,mp⟩;have l30:=st.l;refine⟨L0.XN,tk,fun _=>False,[none,some (.val (.lst false (ds.map N8)))],fun d=>d=.int ((min ds.length 20:Nat):Int),fun _ z=>z.elim,.skip (aT.cons (da hv fun _ z=>z.elim) .nil),?_,fun v1 H1 d1 e1 kf1 UX q1=>?_⟩
 ·walk_at "x";rw[Ph];congr 1;omega
 subst q1;have z:=UX.O4;subst z;refine⟨_,rfl,by omega,by omega,tO (fun i σ Hc=>∃M' p' o2,σ=[some (.ref x),some v,o2]/\LJ K κ.Sheet H Hc M' x p' (ds.take (ds.length - i)) (pz ds (ds.length - 20) (min ds.length 20 - i))/\Den K (Av M') Hc (.lst false (ds.map N8)) v/\∀a,M' a->M a∨H a=none) ⟨M,p,none,rfl,L0.same e1,hv.same e1,fun a z=>.inl z⟩ ?_ ?_⟩
 ·rintro i σ Hc hi ⟨M',p',o2,rfl,L,dv1,g⟩;refine lH ?_;dsimp only;obtain⟨k,hk⟩:∃k,min ds.length 20 - i=k+1:=⟨_,(Nat.sub_add_cancel (by omega)).symm⟩;rw[hk]at L;refine Ay (ve (δ:=.back) L rfl True.intro ?_ ?_ fun H2 p2 L2 k2 k3=>?_)
  ·rw[sZ];decide
  ·intro R r;have:=r _ (PD.ai.refl _);rw[<- CZ]at this;exact this
  rw[BS]at L2 ⊢;rw[BR,show ds.length - 20+k=ds.length - (i+1)by omega,show k=min ds.length 20 - (i+1)by omega]at L2;have dv2:=k2 (.lst false (ds.map N8)) v (dN ds) dv1;refine⟨L2.XN,L2.tk,fun _=>False,[none,some (.val (.lst false (ds.map N8))),some (.val (.int (i:Int)))],fun d=>d=.str (tI (ds.take (ds.length - 20+k)).length),fun _ z=>z.elim,.skip (aT.cons (da dv2 fun _ z=>z.elim) (aT.cons (by rw[Int.zero_add];exact Den.int _) .nil)),?_,fun v3 H3 d3 e3 kf3 XF q3=>?_⟩
  ·walk_at "x";have e:((ds.map N8).length:Int) - 1 - i=((ds.take (ds.length - 20+k)).length:Int):=by rw[Ph,Uq];omega
   rw[e];exact⟨lg (iG (by rw[Uq];omega)),rfl⟩
  subst q3;have z:=XF.QM;subst z;refine⟨rfl,false,by rw[Tz rfl];rfl,Eq.mpr (LO (by decide)) ⟨_,p2,_,rfl,L2.same e3,dv2.same e3,k3 _ (fun a z=>.inr z) g⟩⟩
 ·rintro σ Hc ⟨M',p',o2,rfl,L,dv1,g⟩;rw[ZU,Nat.sub_self,show pz ds (ds.length - 20) 0=[]from rfl,show ds.length - min ds.length 20=ds.length - 20 by omega]at L;dsimp only;refine C1 ?_;refine⟨L.XN,L.tk,fun _=>False,[some (.val (Tv κ (ds.take (ds.length - 20)) []))],fun d=>d=.bl true,fun _ z=>z.elim,aT.cons (L.obj C.Oi) .nil,?_,fun v2 H2 d2 e2 kf2 hd2 q2=>?_⟩
  ·show wM κ (ay [Tv κ (ds.take (ds.length - 20)) [],.str "back", .int 6]++[]) _ fun _=>False
   rw[V0,aR,aR,aR,bZ,hU,av,av];exact⟨_,rfl,L.o,rfl⟩
  subst q2;have z:=hd2.VH;subst z;refine⟨true,rfl,Eq.mpr (LO (by decide)) ?_⟩;have L2:=L.same e2;have dv2:=dv1.same e2;refine⟨L2.XN,L2.tk,fun _=>False,[some (.val (Tv κ (ds.take (ds.length - 20)) [])),some (.val (.lst false (ds.map N8)))],fun d=>d=.bl true,fun _ z=>z.elim,aT.cons (L2.obj C.Oi) (aT.cons (da dv2 fun _ z=>z.elim) .nil),?_,fun v3 H3 d3 e3 kf3 XF q3=>?_⟩
  ·unfold nN;walk_at "x";have l20:(ds.take (ds.length - 20)).length<=30:=by rw[Uq];omega
   refine⟨_,_,rfl,by decide +kernel,ds.take (ds.length - 20),[],"dots", [],[],[],?_,Aj,L2.o,.inl ⟨rfl,?_⟩⟩
   ·rw[hU];rfl
   walk_at "x";have ec:PD.cutD (ds.map N8) none (some (max 0 (((ds.map N8).length:Int) - 20)))=(ds.take (ds.length - 20)).map N8:=by rw[Du N8 ds (by omega),Ph,show(max 0 ((ds.length:Int) - 20)).toNat=ds.length - 20 by omega]
   have oj:=bX (AH L2.o.d);refine PD.jQ (ds.take (ds.length - 20)) N8 (fun _=>true) (fun d=>D.str (OH (QN d))) (fun R q=>?_) (au (by omega)) (fun x hx _ K hK=>?_) (fun x hx z=>by cases z) fun _=>?_
   ·walk_at "x";rw[ec];exact q
   ·walk_at "x";exact⟨L2.o.d x hx,hK⟩
   ·refine⟨_,(ds.take (ds.length - 20)).map fun d=>OH (QN d),by rw[Yr];rfl,by rw[ia];decide,?_,?_⟩
    ·have:=vI L2.o.d;rw[Ph]at this ⊢;omega
    ·rw[ia,vK];exact⟨oj,oj,congrArg D.bl (beq_self_eq_true (jn (ds.take (ds.length - 20))))⟩
  subst q3;have z:=XF.VH;subst z;exact hQ H3 M' (L2.same e3).sx g
def dz(n:Nat):yas:=(iU.map fun r=>D.tup [r,.int 0])++(je.map fun r=>D.tup [r,.int 1])++eO n
def u9(κ:Cls)(ds:List Md)(ps:List (List Md))(q:D):Prop:=∃r k c,q=.tup [r,.int k]/\av r=r/\iC κ k c/\oZ κ ds ps r (·=.ref c)
theorem wX{r:Str}(h:(decide (r.length<300) && (sgn r).all (·<128))=true):TX r:=by simp only[S7,decide_eq_true_eq,Up]at h;exact⟨by have:=h.1;omega,h.2⟩
theorem AN:(DN.all fun r=>(decide (r.length<300) && (sgn r).all (·<128)) && (ie r).isNone)=true:=by decide +kernel
theorem y8:(AO.all fun r=>(decide (r.length<300) && (sgn r).all (·<128)) && match ie r with|none=>false|some q=>(cg (fun z:Str×Str=>Zg z.1 z.2) (q.1.zip q.2.2)).isNone)=true:=by decide +kernel
theorem CU{κ:Cls}{ds:List Md}{ps:List (List Md)}{q:D}(h:q∈iU.map fun r=>D.tup [av r,.int 0]):u9 κ ds ps q:=by
 obtain⟨r,hr,rfl⟩:=TB.mp h;rcases Tf.mp hr with m|m
 ·obtain⟨t,ht,rfl⟩:=TB.mp m;have k:=Up.mp AN t ht;rw[S7]at k;refine⟨_,0,κ.NoAsk,rfl,by rw[av,av],.inl ⟨rfl,rfl⟩,.inl (.inr ⟨t,by rw[av],wX k.1,?_⟩)⟩;rw[Option.isNone_iff_eq_none.mp k.2]
 ·simp only[Rb,VZ,or_false]at m;rcases m with rfl|rfl|rfl|rfl
  ·exact⟨_,0,κ.NoAsk,rfl,rfl,.inl ⟨rfl,rfl⟩,.inl (.inl ⟨rfl,rfl⟩)⟩
  ·exact⟨_,0,κ.NoAsk,rfl,rfl,.inl ⟨rfl,rfl⟩,.inl (.inl ⟨rfl,rfl⟩)⟩
  ·exact⟨_,0,κ.NoAsk,rfl,rfl,.inl ⟨rfl,rfl⟩,.inl (.inl ⟨rfl,rfl⟩)⟩
  ·exact⟨_,0,κ.NoAsk,rfl,rfl,.inl ⟨rfl,rfl⟩,.inl (.inl ⟨rfl,rfl⟩)⟩
theorem Bb{κ:Cls}{ds:List Md}{ps:List (List Md)}{q:D}(h:q∈je.map fun r=>D.tup [av r,.int 1]):u9 κ ds ps q:=by
 obtain⟨r,hr,rfl⟩:=TB.mp h;obtain⟨t,ht,rfl⟩:=TB.mp hr;have k:=Up.mp y8 t ht;rw[S7]at k;refine⟨_,1,κ.NoText,rfl,by rw[av,av],.inr (.inl ⟨rfl,rfl⟩),.inl (.inr ⟨t,by rw[av],wX k.1,?_⟩)⟩;have k2:=k.2;cases er:ie t with
 |none=>rw[er]at k2;cases k2
 |some q =>
  rw[er]at k2;obtain⟨fs,f,vs⟩:=q;dsimp only at k2 ⊢;rw[Option.isNone_iff_eq_none.mp k2]
theorem fA{κ:Cls}{ds:List Md}{ps:List (List Md)}{t:Str}{c:Addr}(δ:aA)(e:t=δ.row)(ho:δ.ok)(h:δ.Tu κ ds ps (·=.ref c)):oZ κ ds ps (.str t) (·=.ref c) :=
 .inr ⟨δ.nm,δ.fs,δ.ws,δ,by rw[e,δ.WT],aA.WS ho,rfl,ho,h⟩
theorem zk{κ:Cls}{ds:List Md}{ps:List (List Md)}{t:Str}{c:Addr}(f:Str)(e:(ie t).map (fun q=>(q.1.length,q.2.1))=some (0,f))(T:(decide (t.length<300) && (sgn t).all (·<128))=true)
  (h:(f = "deepest" /\ 12<ds.length/\Value.ref κ.TooMany=.ref c)∨(f = "two" /\ ds.length<4/\Value.ref κ.TooFew=.ref c)∨(f = "three" /\ ds.length<7/\Value.ref κ.TooFew=.ref c)):oZ κ ds ps (.str t) (·=.ref c):=by
 refine .inl (.inr ⟨t,rfl,wX T,?_⟩);cases er:ie t with
 |none=>rw[er]at e;cases e
 |some q =>
  obtain⟨fs,f',vs⟩:=q;rw[er]at e;have e2:(fs.length,f')=(0,f):=UQ e;have e3:fs=[]:=List.length_eq_zero_iff.mp (congrArg Prod.fst e2);have e4:f'=f:=congrArg Prod.snd e2;subst e3 e4;exact h
theorem Ba{κ:Cls}{ds:List Md}{ps:List (List Md)}(st:fq ds ps)(h4:∃d r,ds=d::r/\d.1=4){q:D}(h:q∈eO ds.length):u9 κ ds ps q:=by
 obtain⟨p,hp,rfl⟩:=TB.mp h;have key:∀c,iC κ p.2 c->oZ κ ds ps (.str p.1) (·=.ref c)->u9 κ ds ps (.tup [.str p.1,.int p.2]):=fun c w r=>⟨_,_,c,rfl,by rw[av],w,r⟩
 have l30:=st.l;have Zh:∀n:Int,n<0∨(ds.length:Int)<=n->(aA.cut n).Tu κ ds ps (·=.ref κ.NoSuch):=fun n hn=>.inr (.inl ⟨LX hn,rfl⟩)
 unfold qp at hp;rcases Tf.mp hp with m|m
 ·simp only[Rb,VZ,or_false]at m;rcases m with rfl|rfl|rfl|rfl|rfl|rfl
  ·exact key κ.NoSuch (.inr (.inr (.inr (.inl ⟨rfl,rfl⟩)))) (fA (.cut (-1)) (by decide +kernel) (by show(-1:Int).natAbs<100;decide) (Zh _ (.inl (by decide))))
  ·exact key κ.NoSuch (.inr (.inr (.inr (.inl ⟨rfl,rfl⟩)))) (fA (.cut ds.length) (Fy _) (by show((ds.length:Nat):Int).natAbs<100;omega) (Zh _ (.inr (Int.le_refl _))))
  ·exact key κ.NoSuch (.inr (.inr (.inr (.inl ⟨rfl,rfl⟩)))) (fA (.cut 99) (by decide +kernel) (by show(99:Int).natAbs<100;decide) (Zh _ (.inr (by omega))))
  ·exact key κ.NoMap (.inr (.inr (.inl ⟨rfl,rfl⟩))) (fA (.map [1,2,2,4,0,0]) (by decide +kernel) (by show _/\_;decide) (.inr (.inr (.inl ⟨rfl,rfl⟩))))
  ·exact key κ.NoMap (.inr (.inr (.inl ⟨rfl,rfl⟩))) (fA (.map [0,0,0,0,9,9]) (by decide +kernel) (by show _/\_;decide) (.inr (.inr (.inl ⟨rfl,rfl⟩))))
  ·refine key κ.NoDots (.inr (.inr (.inr (.inr (.inl ⟨rfl,rfl⟩))))) (fA (.map [999999999999,0,0,999999999999,0,0]) (by decide +kernel) (by show _/\_;decide) (.inl ⟨?_,rfl⟩));obtain⟨d,r,rfl,hd⟩:=h4;have ec:aA.code (d::r) ps (.map [999999999999,0,0,999999999999,0,0])=if(999999999999:Int)*999999999999=0*0 then(3:Int)else if(List.map (Ts [999999999999,0,0,999999999999,0,0]) (d::r)).any cL=true then 1 else 0:=rfl
   rw[ec,LO (by decide)];refine LX ?_;rw[Sv,List.any_cons,Yn];refine .inl ?_;unfold cL Ts;rw[Yn];refine .inl (Tz ?_);show 10 ^ 12<=((999999999999:Int)*d.1+0*d.2.1+0).natAbs;omega
 rcases Tf.mp m with m|m
 ·split at m
  ·rename_i e;rw[Wg]at m;subst m;exact key κ.NoDots (.inr (.inr (.inr (.inr (.inl ⟨rfl,rfl⟩))))) (fA (.put (0,0,0,1)) (by decide +kernel) ⟨by decide,by decide,by decide,by decide,by decide,by decide⟩ (.inl ⟨LX (by omega),rfl⟩))
  ·cases m
 rcases Tf.mp m with m|m
 ·split at m
  ·rename_i e;rw[Wg]at m;subst m;exact key κ.TooMany (.inr (.inr (.inr (.inr (.inr (.inl ⟨rfl,rfl⟩)))))) (zk "deepest" (by decide +kernel) (by decide +kernel) (.inl ⟨rfl,e,rfl⟩))
  ·cases m
 rcases Tf.mp m with m|m
 ·split at m
  ·rename_i e;rw[Wg]at m;subst m;exact key κ.TooFew (.inr (.inr (.inr (.inr (.inr (.inr ⟨rfl,rfl⟩)))))) (zk "three" (by decide +kernel) (by decide +kernel) (.inr (.inr ⟨rfl,e,rfl⟩)))
  ·cases m
 ·split at m
  ·rename_i e;rw[Wg]at m;subst m;exact key κ.TooFew (.inr (.inr (.inr (.inr (.inr (.inr ⟨rfl,rfl⟩)))))) (zk "two" (by decide +kernel) (by decide +kernel) (.inr (.inl ⟨rfl,e,rfl⟩)))
  ·cases m
theorem md:∀a b:yas,ay (a++b)=ay a++ay b
 |[],b=>by rw[bZ];rfl
 |x::r,b=>by rw[Xk,aR,aR,md r b];rfl
theorem kR(k:Int):∀L:yas,ay (L.map fun r=>D.tup [r,.int k])=L.map fun r=>D.tup [av r,.int k]
 |[]=>rfl
 |x::r=>by rw[Sv,aR,kR k r,av,aR,aR,bZ,av];rfl
theorem sH(n:Nat):ay (dz n)=(iU.map fun r=>D.tup [av r,.int 0])++(je.map fun r=>D.tup [av r,.int 1])++eO n:=by unfold dz;rw[md,md,kR,kR];congr 1;unfold eO;exact cI (fun p:Str×Int=>D.tup [.str p.1,.int p.2]) (fun p=>by rw[av,aR,aR,bZ,av,av]) _
theorem CT{κ:Cls}{ds:List Md}{ps:List (List Md)}(st:fq ds ps)(h4:∃d r,ds=d::r/\d.1=4){q:D}(h:q∈ay (dz ds.length)):u9 κ ds ps q:=by
 rw[sH]at h;rcases Tf.mp h with h|h
 ·rcases Tf.mp h with h|h
  ·exact CU h
  ·exact Bb h
 ·exact Ba st h4 h
theorem wj:∀{L:yas},(∀d∈L,fu d)->iK L
 |[],_=>True.intro
 |d::r,h=>⟨h d Su,wj fun x hx=>h x (SD _ hx)⟩
theorem wm(n:Nat):fu (.lst false (ay (dz n))):=by
 rw[sH];refine wj fun q h=>?_
 have st:∀(L:yah) (k:Int),q∈(L.map D.str).map (fun r=>D.tup [av r,.int k])->fu q:=fun L k h=>by obtain⟨r,hr,rfl⟩:=TB.mp h;obtain⟨t,ht,rfl⟩:=TB.mp hr;rw[av];exact⟨True.intro,True.intro,True.intro⟩
 rcases Tf.mp h with h|h
 ·rcases Tf.mp h with h|h
  ·unfold iU at h;rw[VC]at h;rcases Tf.mp h with h|h
   ·exact st _ _ h
   ·simp only[Sv,Wk,Rb,VZ,or_false]at h;rcases h with rfl|rfl|rfl|rfl
    ·exact⟨True.intro,True.intro,True.intro⟩
    ·exact⟨True.intro,True.intro,True.intro⟩
    ·exact⟨⟨True.intro,True.intro⟩,True.intro,True.intro⟩
    ·exact⟨True.intro,True.intro,True.intro⟩
  ·exact st _ _ h
 ·unfold eO at h;obtain⟨p,_,rfl⟩:=TB.mp h;exact⟨True.intro,True.intro,True.intro⟩
theorem xW{M:Addr->Prop}{H H':Hp}{d:D}{v:V}(e:PD.ai H H')(n:∀a,M a->H a=none/\K.lookup a=none)(pl:fu d)(h:Den K (Av fun _=>False) H d v):Den K (Av M) H' d v :=
 Den.QL (M:=fun _=>False) (.of e) (fun _ z=>z.elim) (fun _ z=>z.elim) (fun t a z=>z.elim (fun z=>.inl (.inl z)) fun z=>.inr (n a z)) pl h
theorem Ae(n:Nat):(eO n).length<=10:=by
 unfold eO qp;rw[Ph,Q7,Q7,Q7,Q7];have l1:∀(c:Prop) [Decidable c] (a:Str×Int),(if c then[a]else[]).length<=1:=fun c _ a=>by
  split
  ·exact O2 _
  ·exact S9 _
 have a:=l1 (n=30) (Str.ofString "put a0:0", 4);have b:=l1 (12<n) (Str.ofString "deepest", 5);have c:=l1 (n<7) (Str.ofString "three", 6);have d:=l1 (n<4) (Str.ofString "two", 6);show 6+_<=10;omega
theorem yU{f:Str}(h:formOf f=none):((k7.map (·.1)).any fun y=>decide (f=y))=false:=by unfold formOf at h;rw[Option.map_eq_none_iff,List.find?_eq_none]at h;rw[List.any_eq_false];intro y hy;obtain⟨p,hp,rfl⟩:=TB.mp hy;exact h p hp
theorem yV{f:Str}{fs:yah}(h:formOf f=some fs):(f,fs)∈k7:=by unfold formOf at h;obtain⟨p,hp,rfl⟩:=Zm.mp h;have m:=List.mem_of_find?_eq_some hp;have e:f=p.1:=Wi (by simpa using List.find?_some hp);rw[e];exact m
theorem Iw (F : ar K "law" "law" fj f fd) (C : ON K mg κ) (Zi : F9 P w K mg base "Sheet" κ.Sheet 1 (DZ κ.Sheet)) (QV : j4 P w K mg base κ.Sheet "ask" 9 ["self", "row"] (qU K κ.Sheet)) (Vq : hV P w K mg base κ.Sheet "ask" 9 ["self", "row"] (lA κ)) (SV : lC P w K mg base "_law_refused" 10 ["_law_sheet", "_law_row", "_law_way"] (Bn κ)) (Ug : BJ P w K mg base "_law_undone" 11 ["_law_sheet", "_law_dots_here"] (D0 K κ.Sheet))
  (Ry : yB P w K mg base κ) (OV : qb P w K mg base κ) (Qg : ue P w K mg base κ) (P2 : rA P w K mg base κ) (QW : w6 P w K mg base κ) (Pk : uc P w K mg base κ) (LQ : mg "len" = none) (MX : mg "range" = none) (Mt : mg "str" = none) :
  FnC P w K mg base 12 f fd ["_law_script"] uR := by
 obtain ⟨oc, od, dV, kV, doc, pm, an, cdv, ct, Us, rfl, lk, RN⟩ := F.ex;obtain ⟨fM, fdM, psM, hF, hM, hm, hO, hB⟩ := Zi;refine Hs lk RN gg (fun vs H Q E h => ?_) fun A outer s H vs Q E hr h => ?_
 ·obtain ⟨_, ds, _, _, _, _, hd, ⟨ns, rfl, _⟩, _⟩ := h;rw [hd.len]; rfl
 obtain ⟨P0, as, Qd, Ed, tk, hP, hd, ⟨ns, rfl, hl, hq⟩, hQ, hE⟩ := h;obtain ⟨v0, rfl, WI⟩ : ∃ v0, vs = [v0] /\ Den K (fun t a => t = true ∨ P0 a) H (.lst false (ns.map D.int)) v0 := by simp only [af] at hd;obtain ⟨v, r, e, h1, e2⟩ := hd;exact ⟨v, by rw [e, e2], h1⟩
 refine ⟨_, (dO (PS.q (lp (i := 1) gg.nd (by rfl) (.inl rfl) (cj fun H => rJ Ry (hr.mono (by decide)) (aa (aM Pk hr (aa (dv 0) (aa ag ae))) ae))))
   (dO (PS.q (lp (i := 2) gg.nd (by rfl) (.inl rfl) (cj fun H => rK ak (aa (df (by rfl) (by exact bS (osc := ah fj) (xs := ["_law_dot"]) (ns := []) (by decide +kernel)) bC.nil (dZ (dv 1)) (fun _ _ _ _ _ => cD) (fun _ _ _ _ _ => (aM OV hr (aa (dv 0) ae)))) ae))))
   (dO (PS.q (lp (i := 3) gg.nd (by rfl) (.inl rfl) (cj fun H => aG bh (aG bh (df (by rfl) (by exact bS (osc := ah fj) (xs := ["_law_row"]) (ns := []) (by decide +kernel)) bC.nil (dZ (tF Qg hr)) (fun _ _ _ _ _ => cD) (fun _ _ _ _ _ => (bF (aa (dv 0) (aa ag ae))))) (df (by rfl) (by exact bS (osc := ah fj) (xs := ["_law_row"]) (ns := []) (by decide +kernel)) bC.nil (dZ (tF P2 hr)) (fun _ _ _ _ _ => cD) (fun _ _ _ _ _ => (bF (aa (dv 0) (aa ag ae)))))) (aM QW hr (aa (aO bE (by rfl) LQ Se (aa (dv 1) ae)) ae)))))
   (dO (PS.q (lp (i := 4) gg.nd (by rfl) (.inl rfl) (CJ hM hF (hr.mono (by decide)) (by rfl) hm hB .nil lM)))
   (dO (PS.q (PS.Qp (A4 PassesOwn.never rfl (tX (by rfl) MX (bI (cj fun H => (aO bE (by rfl) LQ Se (aa (dv 1) ae))) cB)) (lj (i := 5) gg.nd (by rfl) (.inl rfl))
    (bT (nU (sr zf (pK QV (hr.mono (by decide)) C.LR (pv 4) (bI (cj fun H => aG dM ak (aM OV hr (aa (az (dv 1) (dv 5)) ae))) cB)) (cj fun H => bu cU (by rfl) Mt US (aa (aG bh (dv 5) ag) ae)) (by rfl)) (bT (jj qJ)) gr)))))
   (dO (PQ.Qp (IL PassesOwn.never rfl (yu (cj fun H => aG bh (b9 (aa (aM Pk hr (aa (dv 0) (aa ag ae))) ae)) (U1.Yd (dG (dv 0) (cu ag) (cu ag))))) (lj (i := 6) gg.nd (by rfl) (.inl rfl))
    (dO (PS.q (IP (cj fun H => az (dv 3) (aG eT (aG eT (aG dJ (dv 6) ag) ag) (aO bE (by rfl) LQ Se (aa (dv 3) ae)))) (IJ rfl (wg (lj (i := 7) gg.nd (by rfl) (.inl rfl)) (wg (lj (i := 8) gg.nd (by rfl) (.inl rfl)) Fi)))))
    (dO (Kq (IM fun H => Y5.pt (JB (Gy (Gz (bR DX SV (hr.mono (by decide)) (Qc.c (aa (dv 4) (aa (dv 7) (aa (dv 8) ae))))))) (GC (Tn.c (aK (uP (by exact hr.units)) (nO C.LR Vq (hr.mono (by decide)) (dv 4) (aa ak ae)) (dv 2)))))) (UT.q (bT (jj qJ))) (UT.q gr)) (UT.q gr)))))
   (UT.q (bT (jj (CI Ug (hr.mono (by decide)) (bI (pv 4) (bI (pv 1) cB)))))))))))), ?_⟩
 have v0F : ∀ {H' : Hp}, PD.ai H H' -> Den K (fun t a => False ∨ (t = true /\ ∃ o, H' a = some o)) H' (.lst false (ns.map D.int)) v0 := fun e => (WI.same e).MG fun _ _ z => z.elim False.elim fun z => .inl z.1
 refine ⟨Dom.refl H, tk, fun _ => False, [some (.val (.lst false (ns.map D.int)))], fun d => ∃ ds : List Md, d = .lst true (ds.map N8) /\ 3 <= ds.length /\ ds.length <= 30 /\ (∀ d ∈ ds, TJ d) /\ ∃ d r, ds = d :: r /\ d.1 = 4, fun _ z => z.elim, aT.cons (v0F (PD.ai.refl H)) .nil, ?_, fun v1 H1 d1 e1 kf1 UX q1 => ?_⟩
 ·walk_at "x";exact ⟨by decide, hl, fun _ ds a b c d => ⟨ds, rfl, a, b, c, d⟩⟩
 obtain ⟨ds, rfl, h3, h30, Nw, h4⟩ := q1;have w1 := kY UX;rw [av, bY] at w1;refine lH ?_;dsimp only;refine ⟨(Dom.refl H).same e1, tk.same e1, fun _ => False, [none, some (.val (.lst false (ds.map N8)))], fun d => d = .str (jn ds), fun _ z => z.elim, .skip (aT.cons (da w1 fun _ z => z.elim) .nil), ?_, fun v2 H2 d2 e2 kf2 hd2 q2 => ?_⟩
 ·walk_at "x";refine PD.jQ ds N8 (fun _ => true) (fun d => D.str (OH (QN d))) (fun R q => ?_) (au (by omega)) (fun x hx _ K hK => ?_) (fun x hx z => by cases z) fun _ => ?_
  ·walk_at "x";exact q
  ·walk_at "x";exact ⟨Nw x hx, hK⟩
  ·refine ⟨_, ds.map fun d => OH (QN d), by rw [Yr]; rfl, by rw [ia]; decide, ?_, ?_⟩
   ·have := vI Nw;rw [Ph] at this ⊢;omega
   ·rw [ia, vK];rfl
 subst q2;have z := hd2.QM;subst z;have w1 := w1.same e2;have e02 := e1.trans e2;refine lH ?_;dsimp only;refine ⟨(Dom.refl H).same e02, tk.same e02, fun _ => False, [none, some (.val (.lst false (ds.map N8)))], fun d => d = .lst true (dz ds.length), fun _ z => z.elim, .skip (aT.cons (da w1 fun _ z => z.elim) .nil), ?_, fun v3 H3 d3 e3 kf3 XF q3 => ?_⟩
 ·walk_at "x";refine PD.comp_map iU (fun d => d) (fun _ => true) (fun r => D.tup [r, .int 0]) (fun R q => ?_) (au (by decide)) (fun x _ K hK => ?_) (fun x _ _ K hK => ?_) ?_
  ·rw [List.map_id'] at q;walk_at "x";exact q
  ·exact hK
  ·walk_at "x";exact ⟨ma _ _, hK⟩
  rw [Zo.mpr fun _ _ => rfl];refine PD.comp_map je (fun d => d) (fun _ => true) (fun r => D.tup [r, .int 1]) (fun R q => ?_) (au (by decide)) (fun x _ K hK => ?_) (fun x _ _ K hK => ?_) ?_
  ·rw [List.map_id'] at q;walk_at "x";exact q
  ·exact hK
  ·walk_at "x";exact ⟨ma _ _, hK⟩
  rw [Zo.mpr fun _ _ => rfl];refine ⟨au (by decide), ds.length, by rw [Ph], h3, h30, au ?_, rfl⟩;have := Ae ds.length;rw [Q7, Ph, Ph];show 29 + 25 + _ <= _;omega
 subst q3;have w3 := kY XF;rw [av] at w3;have w1 := w1.same e3;have e03 := e02.trans e3;refine lH ?_;dsimp only;intro x dx nx nd ne;refine ⟨x, dx, rfl, ax, fun l1 p h1 h2 Yz => ⟨rfl, lH ?_⟩⟩;generalize e4' : L2.upd (L2.upd (L2.upd (L2.upd (L2.upd H3 dx (.own x)) x (.ins κ.Sheet dx [])) l1 (.lst [])) p (.lst [])) x (.ins κ.Sheet dx [("dots", .ref l1), ("past", .ref p)]) = H4;obtain ⟨e4, x4, l14, p4, n3l, n3p, xl, xp⟩ := made nx nd ne h1 h2 Yz e4'.symm;clear h1 h2 e4';dsimp only
 let M : Addr -> Prop := fun a => a = x ∨ a = p
 have Ml1 : ¬ M l1 := fun z => z.elim (fun z => xl z.symm) Yz
 have n3M : ∀ a, M a -> H3 a = none := fun a z => z.elim (fun z => z ▸ nx) fun z => z ▸ n3p
 have e04 := e03.trans e4;have w14 := w1.same e4;refine ⟨(Dom.refl H).same e04, tk.same e04, fun _ => False, [none, some (.val (.lst false (ds.map N8)))], fun d => d = .int ((ds.length : Nat) : Int), fun _ z => z.elim, .skip (aT.cons (da w14 fun _ z => z.elim) .nil), ?_, fun v5 H5 d5 e5 kf5 hd5 q5 => ?_⟩
 ·walk_at "x";rw [Ph]
 subst q5;have z := hd5.O4;subst z;have x5 := e5 _ _ x4;have p5 := e5 _ _ p4;have l15 := e5 _ _ l14;have kM : ∀ a, M a -> H3 a = none /\ K.lookup a = none := fun a z => ⟨n3M a z, z.elim (fun z => by rw [z]; exact kf5 _ _ x5) fun z => by rw [z]; exact kf5 _ _ p5⟩
 have e05 := e04.trans e5;have e35 := e4.trans e5;have L5 : LJ K κ.Sheet H H5 M x p (ds.take 0) (pz ds (0 - 20) (min 0 20)) := ⟨tk.same e05, fun a m => m.elim (fun z => ⟨_, z ▸ x5⟩) fun z => ⟨_, z ▸ p5⟩, .of e05, ⟨dx, .ref l1, [], x5, p5, Den.lst (fun z => z.elim (fun z => by cases z) Ml1) (.any (SqL.of l15)) .nil, .nil⟩, ⟨S9 _, fun _ z => (by cases z), S9 _, fun _ z => (by cases z)⟩, .inl rfl, .inr rfl⟩;have k15 : Den K (Av M) H5 (.lst false (ds.map N8)) v1 := xW e35 kM (dN ds) w1;have k35 : Den K (Av M) H5 (.lst false (ay (dz ds.length))) v3 := xW e35 kM (wm _) w3;have g5 : ∀ a, M a -> H a = none := fun a m => e03.free (n3M a m)
 clear_value M
 refine ⟨_, rfl, by omega, by omega, tO (fun i σ Hc => ∃ M p o5, σ = [some v0, some v1, some (.str (jn ds)), some v3, some (.ref x), o5, none, none, none] /\ LJ K κ.Sheet H Hc M x p (ds.take i) (pz ds (i - 20) (min i 20)) /\ Den K (Av M) Hc (.lst false (ds.map N8)) v1 /\ Den K (Av M) Hc (.lst false (ay (dz ds.length))) v3 /\ ∀ a, M a -> H a = none) ⟨M, p, none, rfl, L5, k15, k35, g5⟩ ?_ ?_⟩
 ·rintro i σ Hc hi ⟨M', p', o5, rfl, L, k1, k3, g⟩;refine lH ?_;dsimp only;have hi' : i < ds.length := by omega
  obtain ⟨gd, eg⟩ : ∃ gd, ds[i]? = some gd := ⟨_, Yj hi'⟩;have og := Nw gd (Xj eg);refine Ay (ve (δ := .put gd) L rfl og ?_ ?_ fun H6 p6 L6 kk g6 => ?_)
  ·rw [wo (by omega)]; exact Int.le_refl _
  ·intro R r;refine ⟨L.XN, L.tk, fun _ => False, [none, some (.val (.lst false (ds.map N8))), none, none, none, some (.val (.int (i : Int)))], fun d => d = .str (aA.put gd).row, fun _ z => z.elim, .skip (aT.cons (da k1 fun _ z => z.elim) (.skip (.skip (.skip (aT.cons (by rw [Int.zero_add]; exact Den.int _) .nil))))), ?_, fun v7 H7 d7 e7 kf7 hd7 q7 => ?_⟩
   ·walk_at "x";refine ⟨N8 gd, cT (by rw [Td, eg]; rfl), ?_⟩;rw [show av (N8 gd) = N8 gd from rfl];walk_at "x";refine ⟨og, au ?_, by rw [Fz]⟩;have wl := nY og;have f4 : (Str.ofString "put ").length = 4 := by decide +kernel
    rw [eS];omega
   ·subst q7;have z := hd7.QM;subst z;exact r H7 e7
  rw [Fo (by omega) eg] at L6 ⊢;rw [Fn (by omega)] at L6;refine ⟨L6.XN, L6.tk, fun _ => False, [none, none, none, none, none, some (.val (.int (i : Int)))], fun d => d = .str (tI (ds.take (i + 1)).length), fun _ z => z.elim, .skip (.skip (.skip (.skip (.skip (aT.cons (by rw [Int.zero_add]; exact Den.int _) .nil))))), ?_, fun v8 H8 d8 e8 kf8 Xz q8 => ?_⟩
  ·walk_at "x";rw [show (i : Int) + 1 = ((ds.take (i + 1)).length : Int) by rw [Uq]; omega];exact ⟨lg (iG (by rw [Uq]; omega)), rfl⟩
  subst q8;have z := Xz.QM;subst z;exact ⟨rfl, false, by rw [Tz rfl]; rfl, Eq.mpr (LO (by decide)) ⟨_, p6, _, rfl, L6.same e8, (kk (.lst false (ds.map N8)) v1 (dN ds) k1).same e8, (kk (.lst false (ay (dz ds.length))) v3 (wm _) k3).same e8, g6 _ (fun _ z => z) g⟩⟩
 rintro σ Hc ⟨M', p', o5, rfl, L, k1, k3, g⟩;rw [ZU, Zr] at L;clear L5 k15 k35 g5 kM;dsimp only;have v0C : Den K (fun t a => False ∨ (t = true /\ ∃ o, Hc a = some o)) Hc (.lst false (ns.map D.int)) v0 := v0F (L.sx.new g);obtain ⟨ys, ec⟩ : ∃ ys : yaf, PD.cutD (ns.map D.int) (some 1) (some 41) = ys.map D.int := by unfold PD.cutD;exact ⟨_, by rw [<- List.map_drop, <- List.map_take]⟩
 have ly : ys.length <= 63 := by have := congrArg List.length ec;unfold PD.cutD at this;simp only [Uq, WZ, Ph] at this;omega
 refine ⟨L.XN, L.tk, fun _ => False, [some (.val (.lst false (ns.map D.int)))], fun d => ∃ cs : yaf, d = .lst true (cs.map D.int), fun _ z => z.elim, aT.cons v0C .nil, ?_, fun vc H6 d6 e6 kf6 hd6 q6 => ?_⟩
 ·walk_at "x";rw [ec];exact ⟨by decide, hl, fun v => ⟨SA _, au (by rw [Ph]; show 1 + _ <= _; omega), v :: ys, rfl⟩⟩
 obtain ⟨cs, rfl⟩ := q6;obtain ⟨ca, cw, rfl, nca, sqc, hcw⟩ := hd6.UC;have zc := tR hcw;subst zc;have nc5 : Hc ca = none := by
  cases e : Hc ca with
  | none => rfl
  | some o => exact absurd (.inr ⟨rfl, o, e⟩) nca
 have nMc : ¬ M' ca := fun m => by obtain ⟨o, e⟩ := L.mt ca m; rw [nc5] at e; cases e
 have l63 := L.o.l;refine ⟨ca, rfl, ⟨_, sqc.1⟩, Ce (xs := cs.map V.int) (fun i σ H7 => ∃ o6 o7 o8, σ = [some v0, some v1, some (.str (jn ds)), some v3, some (.ref x), o5, o6, o7, o8] /\ PD.ai H6 H7) ⟨none, none, none, rfl, PD.ai.refl _⟩ ?_ ?_ ?_⟩
 ·rintro i σ H7 _ ⟨o6, o7, o8, rfl, e7⟩;exact (bf.of (M := fun _ => False) e7).seq (fun z => z) sqc.1
 ·rintro i cv σ H7 hcv ⟨o6, o7, o8, rfl, e7⟩;obtain ⟨c, _, rfl⟩ : ∃ c, cs[i]? = some c /\ cv = .int c := by
   rw [Td] at hcv;obtain ⟨c, h, e⟩ := Zm.mp hcv;exact ⟨c, h, e.symm⟩
  refine lH ?_;dsimp only;have L7 := (L.same e6).same e7;have k37 := (k3.same e6).same e7;refine ⟨L7.XN, L7.tk, fun _ => False, [none, none, none, some (.val (.lst false (ay (dz ds.length)))), none, none, some (.val (.int c))], fun d => d ∈ ay (dz ds.length), fun _ z => z.elim, .skip (.skip (.skip (aT.cons (da k37 fun _ z => z.elim) (.skip (.skip (aT.cons (Den.int _) .nil)))))), ?_, fun v8 H8 d8 e8 kf8 Xz q8 => ?_⟩
  ·walk_at "x";have n0 : (ay (dz ds.length)).length ≠ 0 := fun z => by
    rw [sH, Q7, Q7, Ph, Ph] at z;exact absurd (show 29 + 25 + (eO ds.length).length = 0 from z) (by omega)
   refine ⟨.inr (.inl (by unfold Bd; decide)), by decide, by omega, ?_⟩;have f := fm (a := (c * 48271).fmod 2147483647) (b := ((ay (dz ds.length)).length : Int)) (by omega);generalize ((c * 48271).fmod 2147483647).fmod ((ay (dz ds.length)).length : Int) = j at f;obtain ⟨m, rfl⟩ : ∃ m : Nat, j = (m : Int) := ⟨j.toNat, by omega⟩;have hm : m < (ay (dz ds.length)).length := by omega
   exact ⟨_, cT (Yj hm), List.getElem_mem hm⟩
  obtain ⟨r, k, cc, rfl, ur, wc, rf⟩ := CT (κ := κ) L7.o h4 q8;have w8 := kY Xz;rw [av, aR, aR, bZ, ur, av] at w8;obtain ⟨a8, vs8, rfl, sq8, dn8⟩ := w8.Sq;have L8 := L7.same e8;obtain ⟨r8, rfl, wr⟩ : ∃ r8, vs8 = [r8, .int k] /\ Den K (Av fun _ => False) H8 r r8 := by simp only [af] at dn8;obtain ⟨x1, _, rfl, y1, x2, _, rfl, y2, rfl⟩ := dn8;exact ⟨x1, by rw [y2.O4], y1⟩
  refine ⟨a8, _, rfl, PD.OM.w sq8, rfl, _, _, rfl, lH ⟨_, _, rfl, lH ⟨rfl, ?_⟩⟩⟩;dsimp only;refine ⟨L8.XN, L8.tk, fun _ => False, [none, none, some (.val (.str (jn ds))), none, some (.val (Tv κ ds (pz ds (ds.length - 20) (min ds.length 20)))), none, none, some (.val r), some (.val (.int k))], fun b => b = false, fun _ z => z.elim, .skip (.skip (aT.cons (Den.str _) (.skip (aT.cons (L8.obj C.Oi) (.skip (.skip (aT.cons (da wr fun _ z => z) (aT.cons (Den.int _) .nil)))))))), ?_, fun b H9 e9 q9 => ?_⟩
  ·unfold nN;walk_at "x";rw [hU, ur];refine ⟨ds, _, r, k, cc, rfl, L8.o, ur, wc, rf, ?_⟩;show if (true : Bool) = false then False else _
   rw [LO (by decide)];have oj := bX (AH Nw);exact ⟨_, _, rfl, by decide +kernel, ds, _, "dots", [], [], [], rfl, Aj, L8.o, .inl ⟨rfl, oj, oj, cz _⟩⟩
  subst q9;exact Eq.mpr (LO (by decide)) ⟨_, _, _, rfl, (e7.trans e8).trans e9⟩
 ·rintro σ H7 ⟨o6, o7, o8, rfl, e7⟩;have L7 := (L.same e6).same e7;have k17 := (k1.same e6).same e7;dsimp only;refine ⟨_, rfl, _, rfl, M', x, p', ds, v1, rfl, L7.tk, L7.mt, L7.mx, L7.mp, L7.S, L7.o, k17, fun H8 M8 s8 m8 => ?_⟩;have g8 : ∀ a, M8 a -> H a = none := fun a m => (m8 a m).elim (g a) fun z => by
   cases e : H a with
   | none => rfl
   | some u =>
    obtain ⟨u', h⟩ := L7.sx.ex a u e;rw [z] at h; cases h
  have s9 : bf (fun a => M' a ∨ M8 a) H H8 := (L7.sx.mono fun _ z => .inl z).trans (s8.mono fun _ z => .inr z);exact hQ (.bl true) (.bl true) H8 (s9.new fun a z => z.elim (g a) (g8 a)) (Den.bl _) hq
end
theorem all_mk {l:PySem.W.OpenLaw} {w:World} {K:yac} {h:Heap} {mg:yam} {fa f0 c_PlaneError c_NoPlace c_NoLine c_NoDots c_NoMap c_TooFew c_TooMany c_NoSuch c_NoText c_NoAsk c_Sheet:Addr} (X:K.In h) (G:h.Ns mainGlobals mg) (hfa:mg "law" = some (.ref fa))
  {Uh Rz Rj Qo Rk RA Rl RB Vr:Tok}
  {od0 an0:Option Addr} {sl0:Array (yan)} {oc0 kV0 dc0 pm0 cd0 ct0:Value}
  {aF aQ aD bF0 bF1 bF2 bF3 bF4 bF5 bF6 bF7 bF8 bF9 XO XQ XR XS XT bQ0 bQ1 bQ2 bQ3 bQ4 bQ5 bQ6 bQ7 bQ8 bQ9 bD0 bD1 bD2 bD3:Addr} {epF epQ epD:Nat} {tF0 tF1 tF2 tF3 tF4 tF5 tF6 tF7 tF8 tF9 tF10 tF11 tF12 tF13 tF14 tQ0 tQ1 tQ2 tQ3 tQ4 tQ5 tQ6 tQ7 tQ8 tQ9 tD0 tD1 tD2 tD3:Tok}
  {u0_0 u1_0 u2_0 u2_1 u2_2 u2_3 u2_4 u2_5 u7_0 u7_1 u9_0 u12_0:Tok} {n0 n1 n2 n3 n4 n5 n6 n7 n8 n9 n10 n11 WQ n13 n14:Nat} {o0 o1 o2 o3 o4 o5 o6 o7 o8 o9 o10 o11 o12 o13 o14:Option Addr} {s0 s1 s2 s3 s4 s5 s6 s7 s8 s9 s10 s11 s12 s13 s14:Array (yan)}
  (a0:PySem.W.nsIn K mainGlobals "law" = some (some (.ref f0))) (l0:K.lookup f0=some ⟨oc0,od0,.func (PySem.W.fnOf "law" "law" (bG fj) (bp fj) (ah fj) .none kV0 dc0 pm0 an0 cd0 ct0),sl0⟩) (c0:PySem.W.codeIn K cd0 "law" = true) (k0:PySem.W.keepIn K (.ref f0)=true)
  (RC:PD.FL K "is_whole" lQ)
  (Pg:PD.FL K "common_divisor" fB)
  (SX:PD.FL K "lowest" lS)
  (RD:PD.FL K "place_of" lT)
  (QX:PD.FL K "is_within" kj)
  (Pt:PD.FL K "is_coordinate" gb)
  (R9:PD.FL K "spot_of" nc)
  (RE:PD.FL K "spots_of" iP)
  (SY:PD.FL K "is_map" lP)
  (QY:PD.FL K "check_map" ki)
  (Ui:PD.FL K "moved" sC)
  (RG:PD.FL K "sent_dot" lV)
  (Vs:PD.FL K "sent" qQ)
  (Qy:PD.FL K "two_groups" jx)
  (P4:PD.FL K "three_groups" gw)
  (Sa:PD.FL K "deepest" m5)
  (Qz:PD.FL K "check_text" jo)
  (QB:PD.FL K "whole_of" lY)
  (Px:PD.FL K "read_whole" jt)
  (Pm:PD.FL K "read_colour" ip)
  (OP:PD.FL K "read_from_two" gf)
  (QC:PD.FL K "read_dot" lU)
  (QZ:PD.FL K "show_spot" kx)
  (RH:PD.FL K "show_dot" lW)
  (Q0:PD.FL K "show_dots" gP)
  (QD:PD.FL K "read_place" wx)
  (QE:PD.FL K "show_place" ju)
  (WU:PD.FL K "put" zp)
  (WV:PD.FL K "cut" zo)
  (S3:PD.FL K "mapped" pM)
  (Sb:PD.FL K "cleared" mZ)
  (Q2:PD.FL K "tell_dots" kz)
  (P5:PD.FL K "tell_deepest" gv)
  (RJ:PD.FL K "tell_two" lX)
  (QF:PD.FL K "tell_three" jv)
  (Qa:PD.FL K "read_word" ku)
  (Qb:PD.FL K "split_row" ky)
  (Qh:PD.FL K "_law_cell_at" ij)
  (QG:PD.FL K "_law_stream" jq)
  (RK:PD.FL K "_law_dots" iO)
  (RL:PD.FL K "_law_word" lR)
  (Qi:PD.FL K "_law_no_asks" ik)
  (P6:PD.FL K "_law_no_texts" gu)
  (Q3:PD.FL K "_law_deeds" km)
  (Q4:PD.FL K "_law_kinds" kr)
  (Pn:PD.FL K "_law_refused" cG)
  (QH:PD.FL K "_law_undone" gc)
  (Uj:PD.Vk K c_Sheet "__init__" "Sheet.__init__" ig) (Q5:PySem.W.makesIn K c_Sheet=true) (Q6:PySem.W.keepIn K (.ref c_Sheet)=true)
  (UN:PD.Vk K c_Sheet "ask" "Sheet.ask" bN)
  (S4:PD.Vk K c_Sheet "change" "Sheet.change" fZ)
  (Ra:PD.Vk K c_Sheet "go_back" "Sheet.go_back" c9)
  (N9:PySem.W.nsIn K mainGlobals "PlaneError" = some (some (.ref c_PlaneError)))
  (OR:PySem.W.nsIn K mainGlobals "NoPlace" = some (some (.ref c_NoPlace)))
  (Pz:PySem.W.nsIn K mainGlobals "NoLine" = some (some (.ref c_NoLine)))
  (OK:PySem.W.nsIn K mainGlobals "NoDots" = some (some (.ref c_NoDots)))
  (Pp:PySem.W.nsIn K mainGlobals "NoMap" = some (some (.ref c_NoMap)))
  (Oy:PySem.W.nsIn K mainGlobals "TooFew" = some (some (.ref c_TooFew)))
  (OE:PySem.W.nsIn K mainGlobals "TooMany" = some (some (.ref c_TooMany)))
  (OY:PySem.W.nsIn K mainGlobals "NoSuch" = some (some (.ref c_NoSuch)))
  (MA:PySem.W.nsIn K mainGlobals "NoText" = some (some (.ref c_NoText)))
  (Oz:PySem.W.nsIn K mainGlobals "NoAsk" = some (some (.ref c_NoAsk)))
  (PN:PySem.W.nsIn K mainGlobals "Sheet" = some (some (.ref c_Sheet)))
  (OC:PySem.W.nsIn K mainGlobals "MOST_DOTS" = some (some (.int (30) Uh)))
  (Mn:PySem.W.nsIn K mainGlobals "MOST_COORDINATE" = some (some (.int (999999999999) Rz)))
  (Mx:PySem.W.nsIn K mainGlobals "MOST_FOR_DEEPEST" = some (some (.int (12) Rj)))
  (LM:PySem.W.nsIn K mainGlobals "DIGITS_OF_COORDINATE" = some (some (.int (12) Qo)))
  (Me:PySem.W.nsIn K mainGlobals "DIGITS_OF_WEIGHT" = some (some (.int (9) Rk)))
  (L9:PySem.W.nsIn K mainGlobals "DIGITS_IN_PLACE" = some (some (.int (40) RA)))
  (Mf:PySem.W.nsIn K mainGlobals "DIGITS_OF_NUMBER" = some (some (.int (2) Rl)))
  (MH:PySem.W.nsIn K mainGlobals "MOST_REMEMBERED" = some (some (.int (20) RB)))
  (Oh:PySem.W.nsIn K mainGlobals "LETTERS" = some (some (.str "abc" Vr)))
  (Mo:PySem.W.excIn K c_NoText cJ "ValueError.__new__" = true)
  (O9:PX.lG K c_NoText=true)
  (MC:PySem.W.kitOne K (.ref c_NoText) (.ref c_PlaneError)=some true)
  (MJ:PySem.W.kitOne K (.ref c_NoText) (.ref c_NoPlace)=some false)
  (NU:PySem.W.kitOne K (.ref c_NoText) (.ref c_NoLine)=some false)
  (M3:PySem.W.kitOne K (.ref c_NoText) (.ref c_NoDots)=some false)
  (Ny:PySem.W.kitOne K (.ref c_NoText) (.ref c_NoMap)=some false)
  (M4:PySem.W.kitOne K (.ref c_NoText) (.ref c_TooFew)=some false)
  (MK:PySem.W.kitOne K (.ref c_NoText) (.ref c_TooMany)=some false)
  (M5:PySem.W.kitOne K (.ref c_NoText) (.ref c_NoSuch)=some false)
  (M7:PySem.W.kitOne K (.ref c_NoText) (.ref c_NoText)=some true)
  (Nz:PySem.W.kitOne K (.ref c_NoText) (.ref c_NoAsk)=some false)
  (Oa:PySem.W.kitOne K (.ref c_NoText) (.ref c_Sheet)=some false)
  (Mg:PySem.W.kitOne K (.ref c_NoText) (.type "ValueError")=some true)
  (Mh:PySem.W.exmOne K (.ref c_NoText) (.ref c_PlaneError)=some true)
  (NV:PySem.W.exmOne K (.ref c_NoText) (.ref c_NoText)=some true)
  (OF:PySem.W.excIn K c_NoDots cJ "ValueError.__new__" = true)
  (Pa:PX.lG K c_NoDots=true)
  (MD:PySem.W.kitOne K (.ref c_NoDots) (.ref c_PlaneError)=some true)
  (ML:PySem.W.kitOne K (.ref c_NoDots) (.ref c_NoPlace)=some false)
  (NW:PySem.W.kitOne K (.ref c_NoDots) (.ref c_NoLine)=some false)
  (M9:PySem.W.kitOne K (.ref c_NoDots) (.ref c_NoDots)=some true)
  (NA:PySem.W.kitOne K (.ref c_NoDots) (.ref c_NoMap)=some false)
  (Na:PySem.W.kitOne K (.ref c_NoDots) (.ref c_TooFew)=some false)
  (MM:PySem.W.kitOne K (.ref c_NoDots) (.ref c_TooMany)=some false)
  (Nb:PySem.W.kitOne K (.ref c_NoDots) (.ref c_NoSuch)=some false)
  (Nc:PySem.W.kitOne K (.ref c_NoDots) (.ref c_NoText)=some false)
  (NB:PySem.W.kitOne K (.ref c_NoDots) (.ref c_NoAsk)=some false)
  (Ob:PySem.W.kitOne K (.ref c_NoDots) (.ref c_Sheet)=some false)
  (Mi:PySem.W.kitOne K (.ref c_NoDots) (.type "ValueError")=some true)
  (Mj:PySem.W.exmOne K (.ref c_NoDots) (.ref c_PlaneError)=some true)
  (NX:PySem.W.exmOne K (.ref c_NoDots) (.ref c_NoDots)=some true)
  (OT:PySem.W.excIn K c_NoSuch cJ "ValueError.__new__" = true)
  (Pc:PX.lG K c_NoSuch=true)
  (ME:PySem.W.kitOne K (.ref c_NoSuch) (.ref c_PlaneError)=some true)
  (MN:PySem.W.kitOne K (.ref c_NoSuch) (.ref c_NoPlace)=some false)
  (NY:PySem.W.kitOne K (.ref c_NoSuch) (.ref c_NoLine)=some false)
  (Nd:PySem.W.kitOne K (.ref c_NoSuch) (.ref c_NoDots)=some false)
  (NC:PySem.W.kitOne K (.ref c_NoSuch) (.ref c_NoMap)=some false)
  (Nf:PySem.W.kitOne K (.ref c_NoSuch) (.ref c_TooFew)=some false)
  (MO:PySem.W.kitOne K (.ref c_NoSuch) (.ref c_TooMany)=some false)
  (Ng:PySem.W.kitOne K (.ref c_NoSuch) (.ref c_NoSuch)=some true)
  (Nh:PySem.W.kitOne K (.ref c_NoSuch) (.ref c_NoText)=some false)
  (ND:PySem.W.kitOne K (.ref c_NoSuch) (.ref c_NoAsk)=some false)
  (Oc:PySem.W.kitOne K (.ref c_NoSuch) (.ref c_Sheet)=some false)
  (Ml:PySem.W.kitOne K (.ref c_NoSuch) (.type "ValueError")=some true)
  (Mm:PySem.W.exmOne K (.ref c_NoSuch) (.ref c_PlaneError)=some true)
  (NZ:PySem.W.exmOne K (.ref c_NoSuch) (.ref c_NoSuch)=some true)
  (Pd:PySem.W.excIn K c_NoMap cJ "ValueError.__new__" = true)
  (PR:PX.lG K c_NoMap=true)
  (MV:PySem.W.kitOne K (.ref c_NoMap) (.ref c_PlaneError)=some true)
  (Ni:PySem.W.kitOne K (.ref c_NoMap) (.ref c_NoPlace)=some false)
  (Od:PySem.W.kitOne K (.ref c_NoMap) (.ref c_NoLine)=some false)
  (NF:PySem.W.kitOne K (.ref c_NoMap) (.ref c_NoDots)=some false)
  (N3:PySem.W.kitOne K (.ref c_NoMap) (.ref c_NoMap)=some true)
  (NG:PySem.W.kitOne K (.ref c_NoMap) (.ref c_TooFew)=some false)
  (Nj:PySem.W.kitOne K (.ref c_NoMap) (.ref c_TooMany)=some false)
  (NH:PySem.W.kitOne K (.ref c_NoMap) (.ref c_NoSuch)=some false)
  (NI:PySem.W.kitOne K (.ref c_NoMap) (.ref c_NoText)=some false)
  (N4:PySem.W.kitOne K (.ref c_NoMap) (.ref c_NoAsk)=some false)
  (Oj:PySem.W.kitOne K (.ref c_NoMap) (.ref c_Sheet)=some false)
  (Mp:PySem.W.kitOne K (.ref c_NoMap) (.type "ValueError")=some true)
  (Mq:PySem.W.exmOne K (.ref c_NoMap) (.ref c_PlaneError)=some true)
  (Ol:PySem.W.exmOne K (.ref c_NoMap) (.ref c_NoMap)=some true)
  (Ov:PySem.W.excIn K c_TooFew cJ "ValueError.__new__" = true)
  (OZ:PX.lG K c_TooFew=true)
  (MF:PySem.W.kitOne K (.ref c_TooFew) (.ref c_PlaneError)=some true)
  (MP:PySem.W.kitOne K (.ref c_TooFew) (.ref c_NoPlace)=some false)
  (N0:PySem.W.kitOne K (.ref c_TooFew) (.ref c_NoLine)=some false)
  (Nk:PySem.W.kitOne K (.ref c_TooFew) (.ref c_NoDots)=some false)
  (NJ:PySem.W.kitOne K (.ref c_TooFew) (.ref c_NoMap)=some false)
  (Nl:PySem.W.kitOne K (.ref c_TooFew) (.ref c_TooFew)=some true)
  (MQ:PySem.W.kitOne K (.ref c_TooFew) (.ref c_TooMany)=some false)
  (Nm:PySem.W.kitOne K (.ref c_TooFew) (.ref c_NoSuch)=some false)
  (Nn:PySem.W.kitOne K (.ref c_TooFew) (.ref c_NoText)=some false)
  (NK:PySem.W.kitOne K (.ref c_TooFew) (.ref c_NoAsk)=some false)
  (Oe:PySem.W.kitOne K (.ref c_TooFew) (.ref c_Sheet)=some false)
  (LY:PySem.W.kitOne K (.ref c_TooFew) (.type "ValueError")=some true)
  (LZ:PySem.W.exmOne K (.ref c_TooFew) (.ref c_PlaneError)=some true)
  (N1:PySem.W.exmOne K (.ref c_TooFew) (.ref c_TooFew)=some true)
  (Om:PySem.W.excIn K c_NoAsk cJ "ValueError.__new__" = true)
  (PU:PX.lG K c_NoAsk=true)
  (MW:PySem.W.kitOne K (.ref c_NoAsk) (.ref c_PlaneError)=some true)
  (Np:PySem.W.kitOne K (.ref c_NoAsk) (.ref c_NoPlace)=some false)
  (Of:PySem.W.kitOne K (.ref c_NoAsk) (.ref c_NoLine)=some false)
  (NL:PySem.W.kitOne K (.ref c_NoAsk) (.ref c_NoDots)=some false)
  (N5:PySem.W.kitOne K (.ref c_NoAsk) (.ref c_NoMap)=some false)
  (NM:PySem.W.kitOne K (.ref c_NoAsk) (.ref c_TooFew)=some false)
  (Nq:PySem.W.kitOne K (.ref c_NoAsk) (.ref c_TooMany)=some false)
  (NN:PySem.W.kitOne K (.ref c_NoAsk) (.ref c_NoSuch)=some false)
  (NO:PySem.W.kitOne K (.ref c_NoAsk) (.ref c_NoText)=some false)
  (N6:PySem.W.kitOne K (.ref c_NoAsk) (.ref c_NoAsk)=some true)
  (Oo:PySem.W.kitOne K (.ref c_NoAsk) (.ref c_Sheet)=some false)
  (Mr:PySem.W.kitOne K (.ref c_NoAsk) (.type "ValueError")=some true)
  (Ms:PySem.W.exmOne K (.ref c_NoAsk) (.ref c_PlaneError)=some true)
  (Oq:PySem.W.exmOne K (.ref c_NoAsk) (.ref c_NoAsk)=some true)
  (OG:PySem.W.excIn K c_TooMany cJ "ValueError.__new__" = true)
  (OU:PX.lG K c_TooMany=true)
  (Mw:PySem.W.kitOne K (.ref c_TooMany) (.ref c_PlaneError)=some true)
  (My:PySem.W.kitOne K (.ref c_TooMany) (.ref c_NoPlace)=some false)
  (NP:PySem.W.kitOne K (.ref c_TooMany) (.ref c_NoLine)=some false)
  (MR:PySem.W.kitOne K (.ref c_TooMany) (.ref c_NoDots)=some false)
  (Nt:PySem.W.kitOne K (.ref c_TooMany) (.ref c_NoMap)=some false)
  (MS:PySem.W.kitOne K (.ref c_TooMany) (.ref c_TooFew)=some false)
  (Mz:PySem.W.kitOne K (.ref c_TooMany) (.ref c_TooMany)=some true)
  (MT:PySem.W.kitOne K (.ref c_TooMany) (.ref c_NoSuch)=some false)
  (MU:PySem.W.kitOne K (.ref c_TooMany) (.ref c_NoText)=some false)
  (Nu:PySem.W.kitOne K (.ref c_TooMany) (.ref c_NoAsk)=some false)
  (N2:PySem.W.kitOne K (.ref c_TooMany) (.ref c_Sheet)=some false)
  (Ma:PySem.W.kitOne K (.ref c_TooMany) (.type "ValueError")=some true)
  (Mb:PySem.W.exmOne K (.ref c_TooMany) (.ref c_PlaneError)=some true)
  (Nv:PySem.W.exmOne K (.ref c_TooMany) (.ref c_TooMany)=some true)
  (LR:PD.vo K c_Sheet=true)
  (Oi:PX.CB K c_Sheet=true)
  (LU:PySem.W.findIn K (.ref c_Sheet) "dots" = some none)
  (Mu:PySem.W.findIn K (.ref c_Sheet) "past" = some none)
  (gF:PySem.W.nsIn K mainGlobals "FORMS" = some (some (.ref aF))) (dF:K.lookup aF=some ⟨.type "dict", none,.dict (PD.mR w.params [("put", tF0,.ref bF0),("cut", tF1,.ref bF1),("map", tF2,.ref bF2),("clear", tF3,.ref bF3),("back", tF4,.ref bF4),("dots", tF5,.ref bF5),("lines", tF6,.ref bF6),("fair", tF7,.ref bF7),("quarter", tF8,.ref bF8),("depth", tF9,.ref bF9),("middle", tF10,.ref XO),("deepest", tF11,.ref XQ),("in", tF12,.ref XR),("two", tF13,.ref XS),("three", tF14,.ref XT)]) epF,#[]⟩) (mF:(aF==sysModules)=false)
  (gQ:PySem.W.nsIn K mainGlobals "QUESTIONS" = some (some (.ref aQ))) (dQ:K.lookup aQ=some ⟨.type "dict", none,.dict (PD.mR w.params [("dots", tQ0,.ref bQ0),("lines", tQ1,.ref bQ1),("fair", tQ2,.ref bQ2),("quarter", tQ3,.ref bQ3),("depth", tQ4,.ref bQ4),("middle", tQ5,.ref bQ5),("deepest", tQ6,.ref bQ6),("in", tQ7,.ref bQ7),("two", tQ8,.ref bQ8),("three", tQ9,.ref bQ9)]) epQ,#[]⟩) (mQ:(aQ==sysModules)=false)
  (gD:PySem.W.nsIn K mainGlobals "DEEDS" = some (some (.ref aD))) (dD:K.lookup aD=some ⟨.type "dict", none,.dict (PD.mR w.params [("put", tD0,.ref bD0),("cut", tD1,.ref bD1),("map", tD2,.ref bD2),("clear", tD3,.ref bD3)]) epD,#[]⟩) (mD:(aD==sysModules)=false)
  (p0:K.lookup bF0=some ⟨.type "tuple", o0,.seq #[.str "dot" u0_0] n0,s0⟩)
  (p1:K.lookup bF1=some ⟨.type "tuple", o1,.seq #[.str "number" u1_0] n1,s1⟩)
  (p2:K.lookup bF2=some ⟨.type "tuple", o2,.seq #[.str "entry" u2_0,.str "entry" u2_1,.str "entry" u2_2,.str "entry" u2_3,.str "entry" u2_4,.str "entry" u2_5] n2,s2⟩)
  (p3:K.lookup bF3=some ⟨.type "tuple", o3,.seq #[] n3,s3⟩)
  (p4:K.lookup bF4=some ⟨.type "tuple", o4,.seq #[] n4,s4⟩)
  (p5:K.lookup bF5=some ⟨.type "tuple", o5,.seq #[] n5,s5⟩)
  (p6:K.lookup bF6=some ⟨.type "tuple", o6,.seq #[] n6,s6⟩)
  (p7:K.lookup bF7=some ⟨.type "tuple", o7,.seq #[.str "letter" u7_0,.str "letter" u7_1] n7,s7⟩)
  (p8:K.lookup bF8=some ⟨.type "tuple", o8,.seq #[] n8,s8⟩)
  (p9:K.lookup bF9=some ⟨.type "tuple", o9,.seq #[.str "place" u9_0] n9,s9⟩)
  (p10:K.lookup XO=some ⟨.type "tuple", o10,.seq #[] n10,s10⟩)
  (p11:K.lookup XQ=some ⟨.type "tuple", o11,.seq #[] n11,s11⟩)
  (ZD:K.lookup XR=some ⟨.type "tuple", o12,.seq #[.str "place" u12_0] WQ,s12⟩)
  (p13:K.lookup XS=some ⟨.type "tuple", o13,.seq #[] n13,s13⟩)
  (p14:K.lookup XT=some ⟨.type "tuple", o14,.seq #[] n14,s14⟩)
  (ZI:PySem.W.nsIn K mainGlobals "tell_dots" = some (some (.ref bQ0)))
  (ZJ:PySem.W.nsIn K mainGlobals "tell_deepest" = some (some (.ref bQ6)))
  (ZK:PySem.W.nsIn K mainGlobals "tell_two" = some (some (.ref bQ8)))
  (ZL:PySem.W.nsIn K mainGlobals "tell_three" = some (some (.ref bQ9)))
  (vD0:PySem.W.nsIn K mainGlobals "put" = some (some (.ref bD0)))
  (vD1:PySem.W.nsIn K mainGlobals "cut" = some (some (.ref bD1)))
  (vD2:PySem.W.nsIn K mainGlobals "mapped" = some (some (.ref bD2)))
  (vD3:PySem.W.nsIn K mainGlobals "cleared" = some (some (.ref bD3)))
  (Mc:PySem.W.nsIn K mainGlobals "ValueError" = some none) (PW:PySem.W.nsIn K mainGlobals "abs" = some none) (RU:PySem.W.nsIn K mainGlobals "all" = some none) (Qt:PySem.W.nsIn K mainGlobals "bool" = some none) (PV:PySem.W.nsIn K mainGlobals "int" = some none) (LK:PySem.W.nsIn K mainGlobals "isinstance" = some none) (LQ:PySem.W.nsIn K mainGlobals "len" = some none) (RW:PySem.W.nsIn K mainGlobals "max" = some none) (RV:PySem.W.nsIn K mainGlobals "min" = some none) (MX:PySem.W.nsIn K mainGlobals "range" = some none) (Mt:PySem.W.nsIn K mainGlobals "str" = some none) (OO:PySem.W.nsIn K mainGlobals "tuple" = some none) (Pw:PySem.W.nsIn K mainGlobals "zip" = some none) :
  ∃ fd:FuncData,(∀(s:Shared) (v:Value),BindsTo s fd ⟨[v],[]⟩ [("_law_script", v)])/\∀base:Heap,K.In base->base.Ns mainGlobals mg->PD.BMain mg base->FnC l.prog w K mg base 12 fa fd ["_law_script"] uR:=by
 have e:=hfa.symm.trans (PySem.W.mg_of X G a0);cases e;have Mc:=PySem.W.mg_none_of X G Mc;have PW:=PySem.W.mg_none_of X G PW;have RU:=PySem.W.mg_none_of X G RU;have Qt:=PySem.W.mg_none_of X G Qt;have PV:=PySem.W.mg_none_of X G PV;have LK:=PySem.W.mg_none_of X G LK;have LQ:=PySem.W.mg_none_of X G LQ;have RW:=PySem.W.mg_none_of X G RW;have RV:=PySem.W.mg_none_of X G RV;have MX:=PySem.W.mg_none_of X G MX;have Mt:=PySem.W.mg_none_of X G Mt;have OO:=PySem.W.mg_none_of X G OO;have Pw:=PySem.W.mg_none_of X G Pw;have C:ON K mg ⟨c_PlaneError,c_NoPlace,c_NoLine,c_NoDots,c_NoMap,c_TooFew,c_TooMany,c_NoSuch,c_NoText,c_NoAsk,c_Sheet⟩:=⟨PySem.W.mg_of X G N9,PySem.W.mg_of X G OR,PySem.W.mg_of X G Pz,PySem.W.mg_of X G OK,PySem.W.mg_of X G Pp,PySem.W.mg_of X G Oy,PySem.W.mg_of X G OE,PySem.W.mg_of X G OY,PySem.W.mg_of X G MA,PySem.W.mg_of X G Oz,PySem.W.mg_of X G PN,⟨_,PySem.W.mg_of X G OC⟩,⟨_,PySem.W.mg_of X G Mn⟩,⟨_,PySem.W.mg_of X G Mx⟩,⟨_,PySem.W.mg_of X G LM⟩,⟨_,PySem.W.mg_of X G Me⟩,⟨_,PySem.W.mg_of X G L9⟩,⟨_,PySem.W.mg_of X G Mf⟩,⟨_,PySem.W.mg_of X G MH⟩,⟨_,PySem.W.mg_of X G Oh⟩,Mo,PX.bP.of O9,MC,MJ,NU,M3,Ny,M4,MK,M5,M7,Nz,Oa,Mg,Mh,NV,OF,PX.bP.of Pa,MD,ML,NW,M9,NA,Na,MM,Nb,Nc,NB,Ob,Mi,Mj,NX,OT,PX.bP.of Pc,ME,MN,NY,Nd,NC,Nf,MO,Ng,Nh,ND,Oc,Ml,Mm,NZ,Pd,PX.bP.of PR,MV,Ni,Od,NF,N3,NG,Nj,NH,NI,N4,Oj,Mp,Mq,Ol,Ov,PX.bP.of OZ,MF,MP,N0,Nk,NJ,Nl,MQ,Nm,Nn,NK,Oe,LY,LZ,N1,Om,PX.bP.of PU,MW,Np,Of,NL,N5,NM,Nq,NN,NO,N6,Oo,Mr,Ms,Oq,OG,PX.bP.of OU,Mw,My,NP,MR,Nt,MS,Mz,MT,MU,Nu,N2,Ma,Mb,Nv,PD.vo.of LR,PX.hW.of Oi,LU,Mu⟩;have q0:PD.cY K bF0 ["dot"]:=⟨_,_,n0,p0,rfl,rfl,au (by show 1<=_;decide),(.cons ⟨_,rfl⟩ .nil)⟩;have q1:PD.cY K bF1 ["number"]:=⟨_,_,n1,p1,rfl,rfl,au (by show 1<=_;decide),(.cons ⟨_,rfl⟩ .nil)⟩;have q2:PD.cY K bF2 ["entry", "entry", "entry", "entry", "entry", "entry"]:=⟨_,_,n2,p2,rfl,rfl,au (by show 6<=_;decide),(.cons ⟨_,rfl⟩ (.cons ⟨_,rfl⟩ (.cons ⟨_,rfl⟩ (.cons ⟨_,rfl⟩ (.cons ⟨_,rfl⟩ (.cons ⟨_,rfl⟩ .nil))))))⟩;have q3:PD.cY K bF3 []:=⟨_,_,n3,p3,rfl,rfl,au (by show 0<=_;decide),.nil⟩;have q4:PD.cY K bF4 []:=⟨_,_,n4,p4,rfl,rfl,au (by show 0<=_;decide),.nil⟩;have q5:PD.cY K bF5 []:=⟨_,_,n5,p5,rfl,rfl,au (by show 0<=_;decide),.nil⟩;have q6:PD.cY K bF6 []:=⟨_,_,n6,p6,rfl,rfl,au (by show 0<=_;decide),.nil⟩;have q7:PD.cY K bF7 ["letter", "letter"]:=⟨_,_,n7,p7,rfl,rfl,au (by show 2<=_;decide),(.cons ⟨_,rfl⟩ (.cons ⟨_,rfl⟩ .nil))⟩;have q8:PD.cY K bF8 []:=⟨_,_,n8,p8,rfl,rfl,au (by show 0<=_;decide),.nil⟩;have q9:PD.cY K bF9 ["place"]:=⟨_,_,n9,p9,rfl,rfl,au (by show 1<=_;decide),(.cons ⟨_,rfl⟩ .nil)⟩;have q10:PD.cY K XO []:=⟨_,_,n10,p10,rfl,rfl,au (by show 0<=_;decide),.nil⟩;have q11:PD.cY K XQ []:=⟨_,_,n11,p11,rfl,rfl,au (by show 0<=_;decide),.nil⟩;have q12:PD.cY K XR ["place"]:=⟨_,_,WQ,ZD,rfl,rfl,au (by show 1<=_;decide),(.cons ⟨_,rfl⟩ .nil)⟩;have q13:PD.cY K XS []:=⟨_,_,n13,p13,rfl,rfl,au (by show 0<=_;decide),.nil⟩;have q14:PD.cY K XT []:=⟨_,_,n14,p14,rfl,rfl,au (by show 0<=_;decide),.nil⟩;have U2:([("put", tF0,Value.ref bF0),("cut", tF1,Value.ref bF1),("map", tF2,Value.ref bF2),("clear", tF3,Value.ref bF3),("back", tF4,Value.ref bF4),("dots", tF5,Value.ref bF5),("lines", tF6,Value.ref bF6),("fair", tF7,Value.ref bF7),("quarter", tF8,Value.ref bF8),("depth", tF9,Value.ref bF9),("middle", tF10,Value.ref XO),("deepest", tF11,Value.ref XQ),("in", tF12,Value.ref XR),("two", tF13,Value.ref XS),("three", tF14,Value.ref XT)]:PD.Tb).map (·.1)=(["put", "cut", "map", "clear", "back", "dots", "lines", "fair", "quarter", "depth", "middle", "deepest", "in", "two", "three"]:yah):=rfl;have FA:oW K w mg:=by
  refine⟨aF,_,PySem.W.mg_of X G gF,⟨mF,epF,dF⟩,fun f=>?_⟩;cases ef:formOf f with
  |none =>
   refine PD.k8 U2 ?_;have n:=yU ef;simp only[k7,Sv,Wk]at n;exact n
  |some fs =>
   have m:=yV ef;unfold k7 at m;simp only[Rb,VZ,or_false,Prod.mk.injEq]at m;rcases m with⟨rfl,rfl⟩| ⟨rfl,rfl⟩| ⟨rfl,rfl⟩| ⟨rfl,rfl⟩| ⟨rfl,rfl⟩| ⟨rfl,rfl⟩| ⟨rfl,rfl⟩| ⟨rfl,rfl⟩| ⟨rfl,rfl⟩| ⟨rfl,rfl⟩| ⟨rfl,rfl⟩| ⟨rfl,rfl⟩| ⟨rfl,rfl⟩| ⟨rfl,rfl⟩| ⟨rfl,rfl⟩
   ·exact⟨_,PD.bA U2 0 (by decide +kernel) rfl,q0⟩
   ·exact⟨_,PD.bA U2 1 (by decide +kernel) rfl,q1⟩
   ·exact⟨_,PD.bA U2 2 (by decide +kernel) rfl,q2⟩
   ·exact⟨_,PD.bA U2 3 (by decide +kernel) rfl,q3⟩
   ·exact⟨_,PD.bA U2 4 (by decide +kernel) rfl,q4⟩
   ·exact⟨_,PD.bA U2 5 (by decide +kernel) rfl,q5⟩
   ·exact⟨_,PD.bA U2 6 (by decide +kernel) rfl,q6⟩
   ·exact⟨_,PD.bA U2 7 (by decide +kernel) rfl,q7⟩
   ·exact⟨_,PD.bA U2 8 (by decide +kernel) rfl,q8⟩
   ·exact⟨_,PD.bA U2 9 (by decide +kernel) rfl,q9⟩
   ·exact⟨_,PD.bA U2 10 (by decide +kernel) rfl,q10⟩
   ·exact⟨_,PD.bA U2 11 (by decide +kernel) rfl,q11⟩
   ·exact⟨_,PD.bA U2 12 (by decide +kernel) rfl,q12⟩
   ·exact⟨_,PD.bA U2 13 (by decide +kernel) rfl,q13⟩
   ·exact⟨_,PD.bA U2 14 (by decide +kernel) rfl,q14⟩
 have FO:nG K w mg:=by
  obtain⟨a,es,h1,h2,h3⟩:=FA;refine⟨a,es,h1,h2,fun f fs m=>?_⟩;unfold eR at m;simp only[Rb,VZ,or_false,Prod.mk.injEq]at m;rcases m with⟨rfl,rfl⟩| ⟨rfl,rfl⟩| ⟨rfl,rfl⟩| ⟨rfl,rfl⟩| ⟨rfl,rfl⟩| ⟨rfl,rfl⟩
  ·have:=h3 "put"; rw[show formOf "put" = some (["dot"]:yah)by decide +kernel]at this;exact this
  ·have:=h3 "cut"; rw[show formOf "cut" = some (["number"]:yah)by decide +kernel]at this;exact this
  ·have:=h3 "map"; rw[show formOf "map" = some (["entry", "entry", "entry", "entry", "entry", "entry"]:yah)by decide +kernel]at this;exact this
  ·have:=h3 "clear"; rw[show formOf "clear" = some ([]:yah)by decide +kernel]at this;exact this
  ·have:=h3 "back"; rw[show formOf "back" = some ([]:yah)by decide +kernel]at this;exact this
  ·have:=h3 "dots"; rw[show formOf "dots" = some ([]:yah)by decide +kernel]at this;exact this
 have XU:([("dots", tQ0,Value.ref bQ0),("lines", tQ1,Value.ref bQ1),("fair", tQ2,Value.ref bQ2),("quarter", tQ3,Value.ref bQ3),("depth", tQ4,Value.ref bQ4),("middle", tQ5,Value.ref bQ5),("deepest", tQ6,Value.ref bQ6),("in", tQ7,Value.ref bQ7),("two", tQ8,Value.ref bQ8),("three", tQ9,Value.ref bQ9)]:PD.Tb).map (·.1)=(["dots", "lines", "fair", "quarter", "depth", "middle", "deepest", "in", "two", "three"]:yah):=rfl;have QO:rE K w mg:=by
  refine⟨aQ,_,PySem.W.mg_of X G gQ,⟨mQ,epQ,dQ⟩,(PD.bA XU 0 (by decide +kernel) rfl).trans (PySem.W.mg_of X G ZI).symm,by rw[PySem.W.mg_of X G ZI];rfl,fun δ=>?_⟩;cases δ
  ·exact PD.k8 (x := "put") XU (by decide +kernel)
  ·exact PD.k8 (x := "cut") XU (by decide +kernel)
  ·exact PD.k8 (x := "map") XU (by decide +kernel)
  ·exact PD.k8 (x := "clear") XU (by decide +kernel)
  ·exact PD.k8 (x := "back") XU (by decide +kernel)
 have QA:u0 K w mg:=⟨aQ,_,PySem.W.mg_of X G gQ,⟨mQ,epQ,dQ⟩,⟨(PD.bA XU 6 (by decide +kernel) rfl).trans (PySem.W.mg_of X G ZJ).symm,by rw[PySem.W.mg_of X G ZJ];rfl⟩,⟨(PD.bA XU 8 (by decide +kernel) rfl).trans (PySem.W.mg_of X G ZK).symm,by rw[PySem.W.mg_of X G ZK];rfl⟩,⟨(PD.bA XU 9 (by decide +kernel) rfl).trans (PySem.W.mg_of X G ZL).symm,by rw[PySem.W.mg_of X G ZL];rfl⟩⟩;have DO:nF K w mg:=by have hk:([("put", tD0,Value.ref bD0),("cut", tD1,Value.ref bD1),("map", tD2,Value.ref bD2),("clear", tD3,Value.ref bD3)]:PD.Tb).map (·.1)=(["put", "cut", "map", "clear"]:yah):=rfl;exact⟨aD,_,PySem.W.mg_of X G gD,⟨mD,epD,dD⟩,(PD.bA hk 0 (by decide +kernel) rfl).trans (PySem.W.mg_of X G vD0).symm,(PD.bA hk 1 (by decide +kernel) rfl).trans (PySem.W.mg_of X G vD1).symm,(PD.bA hk 2 (by decide +kernel) rfl).trans (PySem.W.mg_of X G vD2).symm,(PD.bA hk 3 (by decide +kernel) rfl).trans (PySem.W.mg_of X G vD3).symm⟩
 refine⟨PySem.W.fnOf "law" "law" (bG fj) (bp fj) (ah fj) .none kV0 dc0 pm0 an0 cd0 ct0,fun s v=>.of_eq rfl,fun base _ _ _=>?_⟩;have Rr:=RC.has l.prog w base X G fun F=>xr F C Qt PV LK
 have Pe:=Pg.has l.prog w base X G fun F=>om F C PW
 have SQ:=SX.has l.prog w base X G fun F=>AV F C Pe
 have Rt:=RD.has l.prog w base X G fun F=>xv F C
 have QQ:=QX.has l.prog w base X G fun F=>vQ F C Rr
 have N7:=Pt.has l.prog w base X G fun F=>pG F C QQ
 have PB:=R9.has l.prog w base X G fun F=>zb F C
 have Pf:=RE.has l.prog w base X G fun F=>xA F C PB
 have SO:=SY.has l.prog w base X G fun F=>AU F C N7 RU LK LQ OO
 have QR:=QY.has l.prog w base X G fun F=>vP F C SO
 have Ue:=Ui.has l.prog w base X G fun F=>CG F C
 have Ru:=RG.has l.prog w base X G fun F=>xx F C N7 Ue Rt PB
 have Vp:=Vs.has l.prog w base X G fun F=>E9 F C QR Ru
 have Qv:=Qy.has l.prog w base X G fun F=>uz F C LQ
 have PY:=P4.has l.prog w base X G fun F=>qI F C LQ
 have Qn:=Sa.has l.prog w base X G fun F=>za F C LQ
 have Qu:=Qz.has l.prog w base X G fun F=>uj F C LK Mt
 have Rv:=QB.has l.prog w base X G fun F=>xC F C PV
 have QS:=QB.Vm l.prog w base X G fun F=>vZ F C Mc PV
 have NR:=Px.has l.prog w base X G fun F=>uq F C Rv PW LQ Mt
 have L4:=Px.Vm l.prog w base X G fun F=>sd F C QS PW LQ Mt
 have Qe:=Pm.has l.prog w base X G fun F=>rZ F C LQ
 have OA:=Pm.has l.prog w base X G fun F=>qG F C LQ
 have Pr:=OP.has l.prog w base X G fun F=>pH F C NR
 have Og:=OP.Vm l.prog w base X G fun F=>oo F C L4
 have Rx:=QC.has l.prog w base X G fun F=>xw F C Qe Pr NR
 have QU:=QC.Vm l.prog w base X G fun F=>vT F C OA Og L4
 have O0:=QZ.has l.prog w base X G fun F=>vW F C
 have Rw:=RH.has l.prog w base X G fun F=>xy F C O0
 have QT:=Q0.has l.prog w base X G fun F=>vV F C Rw
 have Qf:=QD.Vm l.prog w base X G fun F=>r9 F C Qu SQ Og L4
 have OL:=QE.has l.prog w base X G fun F=>uw F C O0
 have SR:=WU.has l.prog w base X G fun F=>Iy F C LQ
 have SU:=WV.has l.prog w base X G fun F=>Iv F C LQ
 have P1:=S3.has l.prog w base X G fun F=>AW F C Vp OO
 have R6:=Sb.has l.prog w base X G fun F=>y9 F C
 have P9:=Q2.has l.prog w base X G fun F=>vY F C QT
 have S5:=P5.has l.prog w base X G fun F=>qH F C Qn
 have Vt:=RJ.has l.prog w base X G fun F=>xB F C OL Pf Qv
 have Uk:=QF.has l.prog w base X G fun F=>uy F C OL Pf PY
 have Ou:=Qa.has l.prog w base X G fun F=>vU F C Rx NR
 have Ul:=Qa.Vm l.prog w base X G fun F=>uv F C OA QU Qf L4
 have Ot:=Qb.has l.prog w base X G fun F=>vX F FO C LK LQ Mt
 have Um:=Qb.has l.prog w base X G fun F=>ux F FA C LK LQ Mt
 have Pk:=Qh.has l.prog w base X G fun F=>rX F C LQ
 have Qw:=QG.has l.prog w base X G fun F=>um F C MX
 have Ry:=RK.has l.prog w base X G fun F=>xt F C Qw MX
 have OV:=RL.has l.prog w base X G fun F=>xu F C Mt
 have Qg:=Qi.has l.prog w base X G fun F=>rY F C
 have P2:=P6.has l.prog w base X G fun F=>qD F C
 have QW:=Q3.has l.prog w base X G fun F=>vR F C Mt
 have O1:=Q4.has l.prog w base X G fun F=>vS F C LK
 have XW:=Uj.made Q5 Q6 (PySem.W.mg_of X G PN) C.Oi l.prog w base fun F=>rW F C
 have UO:=S4.Zb (mg:=mg) l.prog w base fun F=>pF F C
 have Bf:=Ra.Zb (mg:=mg) l.prog w base fun F=>oi F C LQ
 have Qx:=Ra.has (mg:=mg) l.prog w base fun F=>mV F C LQ
 have O7:hV l.prog w K mg base c_Sheet "change" 1 ["self", "dots"] fun _ _ _=>False:=UO.imp fun vs H Q E h=>by obtain⟨_,_,_,_,_,_,_,h,_⟩:=h;exact h.elim
 have Yi:=UN.Zb (mg:=mg) l.prog w base fun F=>Ey F C FO QO DO Ot Ou SR SU P1 R6 Bf UO LQ Mt Pw
 have QV:=UN.has (mg:=mg) l.prog w base fun F=>lb F C FO QO DO Ot Ou P9 SR SU P1 Qx O7 LQ Mt Pw
 have k_ask:=Ck (mg:=mg) UN l.prog w base fun F=>FnC.or (rV F C FA QA DO Um Ul S5 Vt Uk Qx O7 LQ Mt Pw) (aE.toC (lb F C FO QO DO Ot Ou P9 SR SU P1 Qx O7 LQ Mt Pw))
 have Zj:=Pn.Vm l.prog w base X G fun F=>qE F C k_ask O1 Mc LK MX
 have Zk:=Pn.has l.prog w base X G fun F=>qF F C QV O1 Mc LK MX
 have WW:=QH.hasF l.prog w base X G fun F=>uo F C Yi QV Zk OV MX RV RW LQ Mt
 exact Iw (fF (st:=fj) l0 c0 k0) C XW Yi QV Zj WW Ry OV Qg P2 QW Pk LQ MX Mt
end LW
open PySem PySem.W PyProof.Rows
set_option maxHeartbeats 0 in
theorem PySem.Challenge.cw_halvecut_k85_what_a_sheet_refuses_holds : PySem.Challenge.rw_halvecut_k85_what_a_sheet_refuses.Holds := by
 refine WC.hd0 ?_
 k_fill
 refine PD.BG (l := PySem.Challenge.rw_halvecut_k85_what_a_sheet_refuses) (k := 12) (x := "_law_script") (c0 := 470) (T := 468) rfl rfl ⟨rfl, by decide, by decide⟩ (fun w h Y => ⟨PySem.W.km_in_of Y, PySem.W.km_tabs_of Y _ (.head _)⟩) ?wk ?wc ?wt ?F
 (case wk => intro w; kernel_rfl)
 (case wc => intro w; kernel_rfl)
 (case wt => intro w; kernel_rfl)
 case F =>
  intro w mg fa h KX G VX
  refine' LW.all_mk KX G VX ?a0 ?l0 ?c0 ?k0 ?RC ?Pg ?SX ?RD ?QX ?Pt ?R9 ?RE ?SY ?QY ?Ui ?RG ?Vs ?Qy ?P4 ?Sa ?Qz ?QB ?Px ?Pm ?OP ?QC ?QZ ?RH ?Q0 ?QD ?QE ?WU ?WV ?S3 ?Sb ?Q2 ?P5 ?RJ ?QF ?Qa ?Qb ?Qh ?QG ?RK ?RL ?Qi ?P6 ?Q3 ?Q4 ?Pn ?QH ?Uj ?Q5 ?Q6 ?UN ?S4 ?Ra ?N9 ?OR ?Pz ?OK ?Pp ?Oy ?OE ?OY ?MA ?Oz ?PN ?OC ?Mn ?Mx ?LM ?Me ?L9 ?Mf ?MH ?Oh ?Mo ?O9 ?MC ?MJ ?NU ?M3 ?Ny ?M4 ?MK ?M5 ?M7 ?Nz ?Oa ?Mg ?Mh ?NV ?OF ?Pa ?MD ?ML ?NW ?M9 ?NA ?Na ?MM ?Nb ?Nc ?NB ?Ob ?Mi ?Mj ?NX ?OT ?Pc ?ME ?MN ?NY ?Nd ?NC ?Nf ?MO ?Ng ?Nh ?ND ?Oc ?Ml ?Mm ?NZ ?Pd ?PR ?MV ?Ni ?Od ?NF ?N3 ?NG ?Nj ?NH ?NI ?N4 ?Oj ?Mp ?Mq ?Ol ?Ov ?OZ ?MF ?MP ?N0 ?Nk ?NJ ?Nl ?MQ ?Nm ?Nn ?NK ?Oe ?LY ?LZ ?N1 ?Om ?PU ?MW ?Np ?Of ?NL ?N5 ?NM ?Nq ?NN ?NO ?N6 ?Oo ?Mr ?Ms ?Oq ?OG ?OU ?Mw ?My ?NP ?MR ?Nt ?MS ?Mz ?MT ?MU ?Nu ?N2 ?Ma ?Mb ?Nv ?LR ?Oi ?LU ?Mu ?gF ?dF ?mF ?gQ ?dQ ?mQ ?gD ?dD ?mD ?p0 ?p1 ?p2 ?p3 ?p4 ?p5 ?p6 ?p7 ?p8 ?p9 ?p10 ?p11 ?ZD ?p13 ?p14 ?ZI ?ZJ ?ZK ?ZL ?vD0 ?vD1 ?vD2 ?vD3 ?Mc ?PW ?RU ?Qt ?PV ?LK ?LQ ?RW ?RV ?MX ?Mt ?OO ?Pw
  all_goals try (refine' PD.FL.mk ?a ?l ?c ?k; (case a => k_is); (case l => k_is); (case c => k_is); (case k => k_is))
  (case N9 => k_is)
  (case OR => k_is)
  (case Pz => k_is)
  (case OK => k_is)
  (case Pp => k_is)
  (case Oy => k_is)
  (case OE => k_is)
  (case OY => k_is)
  (case MA => k_is)
  (case Oz => k_is)
  (case PN => k_is)
  all_goals try (refine' PD.Vk.mk ?a ?i ?l ?c ?k; (case a => k_is); (case i => k_is); (case l => k_is); (case c => k_is); (case k => k_is))
  (case a0 => k_is)
  (case l0 => k_is)
  (case c0 => k_is)
  (case k0 => k_is)
  (case Q5 => k_is)
  (case Q6 => k_is)
  (case OC => k_is)
  (case Mn => k_is)
  (case Mx => k_is)
  (case LM => k_is)
  (case Me => k_is)
  (case L9 => k_is)
  (case Mf => k_is)
  (case MH => k_is)
  (case Oh => k_is)
  (case Mo => kernel_rfl)
  (case O9 => kernel_rfl)
  (case MC => kernel_rfl)
  (case MJ => kernel_rfl)
  (case NU => kernel_rfl)
  (case M3 => kernel_rfl)
  (case Ny => kernel_rfl)
  (case M4 => kernel_rfl)
  (case MK => kernel_rfl)
  (case M5 => kernel_rfl)
  (case M7 => kernel_rfl)
  (case Nz => kernel_rfl)
  (case Oa => kernel_rfl)
  (case Mg => kernel_rfl)
  (case Mh => kernel_rfl)
  (case NV => kernel_rfl)
  (case OF => kernel_rfl)
  (case Pa => kernel_rfl)
  (case MD => kernel_rfl)
  (case ML => kernel_rfl)
  (case NW => kernel_rfl)
  (case M9 => kernel_rfl)
  (case NA => kernel_rfl)
  (case Na => kernel_rfl)
  (case MM => kernel_rfl)
  (case Nb => kernel_rfl)
  (case Nc => kernel_rfl)
  (case NB => kernel_rfl)
  (case Ob => kernel_rfl)
  (case Mi => kernel_rfl)
  (case Mj => kernel_rfl)
  (case NX => kernel_rfl)
  (case OT => kernel_rfl)
  (case Pc => kernel_rfl)
  (case ME => kernel_rfl)
  (case MN => kernel_rfl)
  (case NY => kernel_rfl)
  (case Nd => kernel_rfl)
  (case NC => kernel_rfl)
  (case Nf => kernel_rfl)
  (case MO => kernel_rfl)
  (case Ng => kernel_rfl)
  (case Nh => kernel_rfl)
  (case ND => kernel_rfl)
  (case Oc => kernel_rfl)
  (case Ml => kernel_rfl)
  (case Mm => kernel_rfl)
  (case NZ => kernel_rfl)
  (case Pd => kernel_rfl)
  (case PR => kernel_rfl)
  (case MV => kernel_rfl)
  (case Ni => kernel_rfl)
  (case Od => kernel_rfl)
  (case NF => kernel_rfl)
  (case N3 => kernel_rfl)
  (case NG => kernel_rfl)
  (case Nj => kernel_rfl)
  (case NH => kernel_rfl)
  (case NI => kernel_rfl)
  (case N4 => kernel_rfl)
  (case Oj => kernel_rfl)
  (case Mp => kernel_rfl)
  (case Mq => kernel_rfl)
  (case Ol => kernel_rfl)
  (case Ov => kernel_rfl)
  (case OZ => kernel_rfl)
  (case MF => kernel_rfl)
  (case MP => kernel_rfl)
  (case N0 => kernel_rfl)
  (case Nk => kernel_rfl)
  (case NJ => kernel_rfl)
  (case Nl => kernel_rfl)
  (case MQ => kernel_rfl)
  (case Nm => kernel_rfl)
  (case Nn => kernel_rfl)
  (case NK => kernel_rfl)
  (case Oe => kernel_rfl)
  (case LY => kernel_rfl)
  (case LZ => kernel_rfl)
  (case N1 => kernel_rfl)
  (case Om => kernel_rfl)
  (case PU => kernel_rfl)
  (case MW => kernel_rfl)
  (case Np => kernel_rfl)
  (case Of => kernel_rfl)
  (case NL => kernel_rfl)
  (case N5 => kernel_rfl)
  (case NM => kernel_rfl)
  (case Nq => kernel_rfl)
  (case NN => kernel_rfl)
  (case NO => kernel_rfl)
  (case N6 => kernel_rfl)
  (case Oo => kernel_rfl)
  (case Mr => kernel_rfl)
  (case Ms => kernel_rfl)
  (case Oq => kernel_rfl)
  (case OG => kernel_rfl)
  (case OU => kernel_rfl)
  (case Mw => kernel_rfl)
  (case My => kernel_rfl)
  (case NP => kernel_rfl)
  (case MR => kernel_rfl)
  (case Nt => kernel_rfl)
  (case MS => kernel_rfl)
  (case Mz => kernel_rfl)
  (case MT => kernel_rfl)
  (case MU => kernel_rfl)
  (case Nu => kernel_rfl)
  (case N2 => kernel_rfl)
  (case Ma => kernel_rfl)
  (case Mb => kernel_rfl)
  (case Nv => kernel_rfl)
  (case LR => kernel_rfl)
  (case Oi => kernel_rfl)
  (case LU => kernel_rfl)
  (case Mu => kernel_rfl)
  (case gF => k_is)
  (case dF => k_is)
  (case mF => kernel_rfl)
  (case gQ => k_is)
  (case dQ => k_is)
  (case mQ => kernel_rfl)
  (case gD => k_is)
  (case dD => k_is)
  (case mD => kernel_rfl)
  (case p0 => k_is)
  (case p1 => k_is)
  (case p2 => k_is)
  (case p3 => k_is)
  (case p4 => k_is)
  (case p5 => k_is)
  (case p6 => k_is)
  (case p7 => k_is)
  (case p8 => k_is)
  (case p9 => k_is)
  (case p10 => k_is)
  (case p11 => k_is)
  (case ZD => k_is)
  (case p13 => k_is)
  (case p14 => k_is)
  (case ZI => k_is)
  (case ZJ => k_is)
  (case ZK => k_is)
  (case ZL => k_is)
  (case vD0 => k_is)
  (case vD1 => k_is)
  (case vD2 => k_is)
  (case vD3 => k_is)
  (case Mc => k_is)
  (case PW => k_is)
  (case RU => k_is)
  (case Qt => k_is)
  (case PV => k_is)
  (case LK => k_is)
  (case LQ => k_is)
  (case RW => k_is)
  (case RV => k_is)
  (case MX => k_is)
  (case Mt => k_is)
  (case OO => k_is)
  (case Pw => k_is)
