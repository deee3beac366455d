import PyProof.Rows.All
import KE.KNestM
import KE.KLam
import KE.KSortTup
import KE.LcSums
import KE.KIntText
import KE.KMinKey
import KE.KTryMore
import KE.KItemsList
import KE.KRevSl
import KE.KDictOf
import KE.KEqSeq
import KE.KFromBytes
import Lean
import PyProof.EqAt
import PyProof.EqKinds
import PyProof.TupleCall
import PySem.Challenge.RW_halvecut_k84_a_sheet_of_deeds
set_option compiler.extract_closed false
set_option Elab.async false
set_option linter.all false
set_option maxRecDepth 100000
namespace PySem.W.Fast
def tw6137059796027949246:=()
def tw2943846649842212467:=()
def tw4034697954270091334:=()
def tw5259088788460404723:=()
def tw378903195198413729:=()
def tw14309481025065129651:=()
def tw17949651396096171619:=()
def tw9632768900659266674:=()
def tw14025781203193657105:=()
def tw4286904033440243506:=()
def tw501032342188504665:=()
def tw14900366907257198311:=()
def tw11720747197232559031:=()
def tw1838554164537151758:=()
def tw4461382685189991744:=()
def tw5134618054738893381:=()
def tw12345267467767687971:=()
def tw10685961352158442000:=()
def tw4483367738186614494:=()
def tw8320167929858848160:=()
def tw17061274591673928652:=()
def tw14156519413552771971:=()
def tw5953178822469011819:=()
def tw15474705517306154867:=()
def tw18341004164740765743:=()
def tw5976050885306176724:=()
def tw9463562133230145625:=()
def tw18047528565089203365:=()
def tw2891312509529100649:=()
def tw5133576813135689381:=()
def tw6614832796568917702:=()
def tw2357412894492479544:=()
def tw11594570558899561770:=()
def tw16764067825977429704:=()
def tw12293747376271748235:=()
def tw9643810782545213997:=()
def tw3619331353280565477:=()
def tw14212693418636517560:=()
def tw10412174223161470012:=()
def tw470293456634864756:=()
def tw11741807097939665548:=()
def tw279916192125667038:=()
def tw18165642044922956790:=()
def tw11502729321313337934:=()
def tw6302735209176338204:=()
def tw1331133593199594265:=()
def tw7874539079485282994:=()
def tw10210874224430011787:=()
def tw8450380575087806379:=()
def tw13029664434471757494:=()
def tw13319722465711899034:=()
def tw16708995810013681503:=()
def tw5092849674616109244:=()
def tw7391388064154205793:=()
def tw5090906845307090850:=()
def tw2120940846759571136:=()
def tw18175558045720714769:=()
def tw7343389075965700010:=()
def tw4160957199739030807:=()
def tw16569481276329842283:=()
def tw12591021082099014875:=()
def tw1086886108063668748:=()
def tw17359420414787606510:=()
def tw7547736787627833259:=()
def tw1390700315315525666:=()
def tw10065633888325628455:=()
def tw7600527194474975296:=()
def tw529416409370851517:=()
def tw7370664843067868313:=()
def tw15859842965220729274:=()
def tw2682693071807040856:=()
def tw3465555146899110470:=()
def tw11731195854967986932:=()
def tw7781349839443521385:=()
def tw2240168833689170455:=()
def tw8890824421625207450:=()
def tw8269677506359389440:=()
def tw2143194145236326384:=()
def tw8043961906670939067:=()
def tw9878188910617140785:=()
def tw6328168262091396593:=()
def tw15682508066019177742:=()
def tw810122332825446900:=()
def tw7424294030540662172:=()
def tw2634627082183379980:=()
def tw5657486827043705604:=()
def tw10943175620116466587:=()
def tw146938441832963220:=()
def tw12607521007319781811:=()
def tw10195038033901912012:=()
def tw1266495954447298505:=()
def tw2943612378254228485:=()
def tw2323043399175784243:=()
def tw3659202726145647038:=()
def tw16484855943846165014:=()
def tw6480917408609482976:=()
def tw12954027266922453088:=()
def tw1078264062753220898:=()
def tw10571235019072029084:=()
def tw5131125459333042010:=()
def tw6431185272534327168:=()
def tw9475557757745339569:=()
def tw355636719722348121:=()
def tw18082659822167176520:=()
def tw13403211837064563550:=()
def tw4337484924856078697:=()
def tw1759240881999828800:=()
def tw8824343456703725745:=()
def tw4565245147385949819:=()
def tw2424858280840162571:=()
def tw529145347129780841:=()
def tw6290287242237099129:=()
def tw11979894598924081327:=()
def tw16672519148670177033:=()
def tw3431317181167031760:=()
def tw13691530770003910545:=()
def tw922356606382211884:=()
def tw310537423534317999:=()
def tw2083468408830213697:=()
def tw8605328584393751606:=()
def tw14440634473794107928:=()
def tw13434413479288391654:=()
def tw8672914048668115108:=()
def tw8478814920381664153:=()
def tw7698822971059132128:=()
def tw1021774980023125637:=()
def tw9737469604959866642:=()
def tw4240786097456493432:=()
def tw6181584663134031489:=()
def tw7838683064270601777:=()
def tw17717006166036202146:=()
def tw688006588494323361:=()
def tw7647078180800471815:=()
def tw3490602607312504530:=()
def tw10517134187622051611:=()
def tw7509320478077954657:=()
def tw18179952851230996271:=()
def tw2484148307588563183:=()
def tw13315402402708665707:=()
def tw6898044006686895152:=()
def tw6570793027052268767:=()
def tw1036224115224625863:=()
def tw3284595000386565538:=()
def tw11226026698739647200:=()
def tw11010167039940524457:=()
def tw7259778875397295425:=()
def tw3834141355999890754:=()
def tw13768504887227277791:=()
def tw14174737360723864765:=()
def tw10242824634418234180:=()
def tw6427373628081528702:=()
def tw5957558708406316473:=()
def tw2772816236992877233:=()
def tw7263904810936765311:=()
def tw17637438379036732865:=()
def tw15000134607066247702:=()
def tw13402863407280171304:=()
def tw10302621666302175134:=()
def tw7870824316480473440:=()
def tw9167745050999211384:=()
def tw13124027753460358642:=()
def tw5076759728297424370:=()
def tw1538319653517162821:=()
def tw489605043462559807:=()
def tw2289381408116437216:=()
def tw16736198716411492630:=()
def tw9229678691749621688:=()
def tw11961697604036885944:=()
def tw5068977863074694977:=()
def tw15696251725726037720:=()
def tw13184951536047286468:=()
def tw17151037125806839856:=()
def tw13802927461978186866:=()
def tw3845833369043993213:=()
def tw3426999359924844251:=()
def tw11492188256362873283:=()
def tw10316976218296715033:=()
def tw18234123129598666342:=()
def tw6834679879285644253:=()
def tw2445603020374813375:=()
def tw5260384126333234435:=()
def tw4617278261934968330:=()
def tw6661505059133371089:=()
def tw1125140694956492694:=()
def tw5654949408616933509:=()
def tw9299788381185204813:=()
def tw14819124143049702828:=()
def tw11126779080387354726:=()
def tw8935631555078081181:=()
def tw1566846036064835940:=()
def tw12679538771515352550:=()
def tw15847825366509396647:=()
def tw12485393357395886658:=()
def tw7554451084093343856:=()
def tw9737202657212022431:=()
def tw12536934595922781087:=()
def tw16306081051261464731:=()
def tw2098224128134627977:=()
def tw15898594493588245987:=()
def tw15061627169465771340:=()
def tw14590464450496979763:=()
def tw2897644525003887005:=()
def tw1049677702092224135:=()
def tw1270697476918485138:=()
def tw16672609633500047632:=()
def tw3823336700741641083:=()
def tw5660700524569972974:=()
def tw9170075628871775799:=()
def tw9486606862069079150:=()
def tw7124507291106526476:=()
def tw12890102417665695874:=()
def tw17219697560104491081:=()
def tw12537989451670833535:=()
def tw15790893318960960158:=()
def tw17732718995274198556:=()
def tw18434323867194247958:=()
def tw16876388244291471449:=()
def tw11278540809887641054:=()
def tw4726680027851486731:=()
def tw17487739768683733821:=()
def tw17332715489118503753:=()
def tw14572343899785966759:=()
def tw59770029465277872:=()
def tw13770222995053912140:=()
def tw6082469714712868401:=()
def tw3218745138439235923:=()
def tw5029722553217335535:=()
def tw2431308672514927049:=()
def tw9330486683603615940:=()
def tw10442384354588392477:=()
def tw11735015768416154256:=()
def tw6444296416987773283:=()
def tw4861294229128701773:=()
def tw17393261779222510131:=()
def tw6512787577383174679:=()
def tw17381933329994774943:=()
def tw16472995892076702979:=()
def tw3655227174005183648:=()
def tw25714182332935597:=()
def tw12290626519824884336:=()
def tw786981063576094907:=()
def tw9404292081097708020:=()
def tw13810911097772949308:=()
def tw10720159000381404871:=()
def tw13706504629273073746:=()
def tw16286800957036807893:=()
def tw9117977305443424030:=()
def tw7729739692920381179:=()
def tw4973020855301957280:=()
def tw11558001335942434555:=()
def tw17610196256415385561:=()
def tw18332675414166678029:=()
def tw4553848547887523515:=()
def tw13575778362772579548:=()
def tw3825706028813817301:=()
def tw13356742157548325885:=()
def tw4996001843071013594:=()
def tw2378045464174701961:=()
def tw10946563236898305687:=()
def tw4862448420623102676:=()
def tw14360038955052803350:=()
def tw17087085759439457178:=()
def tw4647623404472975188:=()
def tw5737496762297978276:=()
def tw1724524117966350222:=()
def tw10051896014248397715:=()
def tw13546378439934567682:=()
def tw15532658552914475334:=()
def tw3178436352653242033:=()
def tw7911913255053483845:=()
def tw3683819778173411957:=()
def tw11714466601099926836:=()
def tw6778423287299897521:=()
def tw5807075291139566660:=()
def tw10422659497721706812:=()
def tw5557774036968139327:=()
def tw4690756155597323005:=()
def tw2780322153101406660:=()
def tw15364807989981055286:=()
def tw2125648151409725831:=()
def tw988702336348141836:=()
def tw16614756755523654614:=()
def tw7579822474644047792:=()
def tw18385186599348096528:=()
def tw13762491604058318343:=()
def tw9040399994472044160:=()
def tw732079959950495448:=()
def tw9980111433871042710:=()
def tw9608428384918708412:=()
def tw15941785227920563837:=()
def tw6329480474673424882:=()
def tw16220481991712530127:=()
def tw450411518577382025:=()
def tw13838021860174326260:=()
def tw2633848926037211608:=()
def tw18329761922947201854:=()
def tw7929504168282619556:=()
def tw3820725870930663851:=()
def tw11985451820329726133:=()
def tw14855529815057715031:=()
def tw11897046944678048202:=()
def tw5369895161378780946:=()
def tw7425666227468902087:=()
def tw14943419613164906470:=()
def tw3244987480310888464:=()
def tw12611135040708952054:=()
def tw16899937220534331871:=()
def tw6400635766763508442:=()
def tw17285113369216405426:=()
def tw5620920712397249883:=()
def tw1060201128779138730:=()
def tw2908690865751000504:=()
def tw10061331994585783745:=()
def tw17583567635852867532:=()
def tw13361535436033630846:=()
def tw7372418160837969028:=()
def tw2380204722700424274:=()
def tw5430995245213183660:=()
def tw9809629764694669526:=()
def tw6613896506016427950:=()
def tw10421081027980098981:=()
def tw1132601980585884168:=()
def tw13245369254734713471:=()
def tw8281025707836109601:=()
def tw9601638326077403063:=()
def tw6932161569418973543:=()
def tw5373727898828075943:=()
def tw2594476988185034897:=()
def tw1882587148114910379:=()
def tw1667552625164415298:=()
def tw15871068845449825399:=()
def tw15114018677019012404:=()
def tw11052904637730323422:=()
def tw9569864462518296998:=()
def tw6254166863204599963:=()
def tw12989312514794467947:=()
def tw243725093345728272:=()
def tw13029152242137601216:=()
def tw10793150741768434782:=()
def tw14713083839286143728:=()
def tw1451614263686850137:=()
def tw5749822713490787765:=()
def tw3936653492282507167:=()
def tw9748697105472873334:=()
def tw8279586576335615114:=()
def tw6319598949848492239:=()
def tw6166844145989113893:=()
def tw5286722679903434001:=()
def tw3637240009561124700:=()
def tw16017999662897063149:=()
def tw13261466790766043780:=()
def tw11702429247099084130:=()
def tw4500104203083522813:=()
def tw13587065947579789271:=()
def tw7363069124075325471:=()
def tw3348758455366040646:=()
def tw3020956616354173313:=()
def tw6430922681618987972:=()
def tw9102054269561714417:=()
def tw7902447315231182204:=()
def tw7125021623089763848:=()
def tw4359108427019273005:=()
def tw4256623550532429169:=()
def tw3920013325286055475:=()
def tw3296349348523097025:=()
def tw2255070818350208855:=()
def tw18150438009273792433:=()
def tw16205532305656561679:=()
def tw14542963984834834755:=()
def tw4879609028805397505:=()
def tw4136698391372918818:=()
def tw16680480526136574221:=()
def tw15552827759987178151:=()
def tw15542368947824259742:=()
def tw14797202455680732432:=()
def tw12647919235322722497:=()
def tw12508822423380257272:=()
def tw11153163099397063134:=()
def tw9033900352828952267:=()
def tw4687583228250210581:=()
def tw3198719808093615129:=()
def tw15701222018098312495:=()
def tw13555874853995494419:=()
def tw11782776748754089095:=()
def tw13479318323542214109:=()
def tw634912128085473984:=()
def tw10675876447389035698:=()
def tw2263549272935274371:=()
def tw16544182419410430238:=()
def tw2828895907490755277:=()
def tw2893322494920206072:=()
def tw3928013674194937137:=()
def tw11021169983654749051:=()
def tw6676983193498425015:=()
def tw3795368378456084732:=()
def tw1865451321647257855:=()
def tw17596958003453811474:=()
def tw1709280952523348831:=()
def tw14361703286746045598:=()
def tw13833252730031642003:=()
def tw11858054187465886397:=()
def tw14113566410556130919:=()
def tw7014984099407345754:=()
def tw4886576765086093616:=()
def tw14658151344857724409:=()
def tw13328178036897016530:=()
def tw11479927843402486598:=()
def tw17629577066193410757:=()
def tw13882687575447164251:=()
def tw8288713501649452219:=()
def tw13518298591079819605:=()
def tw9783016055049476396:=()
def tw3283741011153838079:=()
def tw12490965877515391478:=()
def tw1124226932607626085:=()
def tw9660773252997461402:=()
def tw9406635394391927232:=()
def tw8965119239995778102:=()
def tw8307916423425211047:=()
def tw8250333282473667029:=()
def tw8164379311992995302:=()
def tw6937166414653151144:=()
def tw6381541318834389934:=()
def tw583632240858115628:=()
def tw5699883198740505066:=()
def tw561267612266519472:=()
def tw5608019933885829422:=()
def tw5255449623325802444:=()
def tw4197724086315991227:=()
def tw4148497192846383733:=()
def tw4068335703659632365:=()
def tw3956187588502706885:=()
def tw3412651987242692391:=()
def tw17546830930350631198:=()
def tw1674310055394273711:=()
def tw16735207192385351986:=()
def tw16614619942109298148:=()
def tw15992652921006257436:=()
def tw14922581355946131026:=()
def tw13178087679007473773:=()
def tw12679748447028472108:=()
def tw12539950750798083837:=()
def tw12314993180385819963:=()
def tw11596049847656910668:=()
def tw11439460388350579562:=()
def tw10549742295207223959:=()
def tw10113625958434769776:=()
def tw10074173887524908756:=()
def tw11199935107062856965:=()
def tw9976696007453682198:=()
def tw9894871355127767000:=()
def tw9798050290976068673:=()
def tw9772219290305663221:=()
def tw9747343706804450814:=()
def tw9627704582884565749:=()
def tw9610201010827043206:=()
def tw932982029901103720:=()
def tw9313595285701053689:=()
def tw9306714859596072833:=()
def tw9198302849802859919:=()
end PySem.W.Fast
open PySem PySem.W PyProof.Rows in
set_option maxHeartbeats 0 in
open_top hd0 for PySem.Challenge.rw_halvecut_k84_a_sheet_of_deeds
abbrev yaa:=PySem.Value->PySem.Shared->Prop
abbrev yab:=List (PySem.Addr×PySem.Obj)
abbrev yac:=PySem.W.Frag
abbrev yad:=List PySem.Value
abbrev yae:=List PySem.Addr
abbrev yaf:=List Int
abbrev yag:=List Nat
abbrev yah:=List PySem.Str
abbrev yai:=List PySem.Expr
abbrev yaj:=Nat->Option PySem.Addr
abbrev yak:=Bool->PySem.Addr->Prop
abbrev yal:=List PySem.Stmt
abbrev yam:=PySem.Str->Option PySem.Value
abbrev yan:=Option PySem.Value
abbrev yao:=Array PySem.Value
abbrev yap:=Array Nat
abbrev yaq:=Option Int
def G0:=@PySem.wpAny_bind
def GS:=@if_neg
def G4:=@if_pos
def KU:=@PySem.Heap.get?_push_of_some
def Kj:=@List.length_map
def J9:=@PySem.Heap.lt_size
def JR:=@PySem.wpAny_pure
def Ka:=@Nat.le_refl
def LZ:=@Nat.lt_of_lt_of_le
def Mv:=@PySem.Heap.get?_push_size
def Mw:=@List.length_append
def MG:=@List.size_toArray
def M4:=@List.mem_cons_self
def Nu:=@List.mem_cons_of_mem
def L0:=@List.mem_cons
def MM:=@List.length_cons
def NP:=@List.getElem?_set_ne
def M8:=@List.lookup_cons
def OX:=@List.getElem?_eq_some_iff
def NQ:=@Bool.false_ne_true
def Oe:=@List.mem_append_right
def L3:=@PySem.wpAny_mono
def MH:=@Nat.le_trans
def Ni:=@decide_eq_true
def Nj:=@List.map_cons
def Qu:=@List.eq_nil_of_length_eq_zero
def N6:=@Bool.and_eq_true
def Of:=@List.getElem?_map
def NV:=@decide_eq_false
def Og:=@List.length_drop
def Nk:=@Nat.ne_of_lt
def NR:=@PySem.wpAny_holding
def M9:=@Nat.zero_le
def Oh:=@Option.some.inj
def P9:=@List.take_of_length_le
def OK:=@List.map_append
def Nv:=@PySem.wpAny_field
def O4:=@PySem.wpAny_truthy_bool
def O5:=@List.all_eq_true
def O6:=@List.length_take
def O7:=@List.not_mem_nil
def Rn:=@List.getElem?_append_right
def Q3:=@List.getElem?_set_self
def N7:=@PySem.sizeLine_eq
def Rp:=@List.getElem?_append_left
def Qv:=@PySem.wpAny_Call_Name_kw
def O8:=@Nat.lt_irrefl
def Qw:=@of_decide_eq_true
def Qa:=@List.append_nil
def Qb:=@PySem.wpAny_execs_nil
def Qc:=@PySem.wpAny_passesOwn
def Sq:=@List.getElem?_eq_getElem
def Rq:=@List.mem_of_getElem?
def Qe:=@PySem.wpAny_seqItems
def NW:=@PySem.boot_len
def Qx:=@List.mem_append
def Rr:=@beq_eq_false_iff_ne
def Qf:=@List.map_nil
def Pn:=@List.mem_map
def Rt:=@List.cons_append
def Ru:=@Array.append_assoc
def Sr:=@List.getElem?_eq_none
def Qg:=@Nat.pow_succ
def SO:=@List.getElem?_replicate
def SQ:=@PySem.wpAny_callSpecial?_slot
def Rv:=@Nat.mod_eq_of_lt
def OL:=@PyProof.Rows.boot_str
def Rw:=@PySem.wpAny_execs_cons
def Po:=@Nat.not_lt
def Ss:=@List.mem_singleton
def Su:=@PySem.wpAny_setField_rec
def SR:=@List.concat_eq_append
def SU:=@List.eq_nil_or_concat
def SV:=@PySem.wpAny_isTrue_Compare1
def UU:=@List.drop_eq_getElem_cons
def SY:=@Nat.pow_le_pow_right
def Rx:=@PySem.Heap.size_push
def UW:=@PySem.wpAny_comprehension_free
def S3:=@List.filterMap_cons
def UX:=@PySem.Heap.IsTupleIter.typeIs
def Ry:=@PySem.wpAny_standAt
def UY:=@Bool.false_eq_true
def S4:=@List.zip_cons_cons
def Sv:=@Nat.min_eq_left
def Qy:=@PySem.typeIs_str
def UZ:=@PySem.Heap.get?_update_other
def S5:=@PySem.wpAny_Assign_Name
def Rz:=@List.map_map
def U0:=@List.mem_append_left
def U1:=@List.mem_of_mem_drop
def S6:=@PySem.wpAny_call_entry
def VN:=@Array.getElem?_eq_some_iff
def Sw:=@Bool.true_and
def VO:=@List.getD_eq_getElem?_getD
def U2:=@List.filter_eq_self
def U3:=@List.cons.injEq
def S7:=@List.length_set
def U4:=@List.filter_append
def U5:=@List.mem_filterMap
def S8:=@Bool.false_and
namespace L2
open PySem PySem.Spec PyProof.Rows
abbrev Key:=Sum Int Str
def jD:Key->Value->Bool
 |.inl k,v=>Value.isInt k v
 |.inr x,v=>Value.isStrOf x v
def Ga(w:World):Key->Int
 |.inl k=>hashInt k
 |.inr x=>hashStr w x
theorem bL:∀{k:Key} {v:Value},jD k v=true->(∃i t,k=Sum.inl i/\v=Value.int i t)∨(∃x t,k=Sum.inr x/\v=Value.str x t)
 |.inl i,v,h=>by obtain⟨t,e⟩:=Value.isInt_shape (k:=i) (v:=v) h;exact .inl ⟨i,t,rfl,e⟩
 |.inr x,v,h=>by obtain⟨t,e⟩:=Value.isStrOf_shape (x:=x) (v:=v) h;exact .inr ⟨x,t,rfl,e⟩
theorem fY(x:Str)(t:Tok):jD (.inr x) (.str x t)=true:=by simp[jD,Value.isStrOf]
theorem C5(a b:Int):decide ((Sum.inl a:Key)=Sum.inl b)=(a==b):=by
 by_cases e:a=b
 ·subst e;simp
 ·have h:¬(Sum.inl a:Key)=Sum.inl b:=fun q=>e (Sum.inl.inj q)
  rw[NV h];exact(Rr.mpr e).symm
theorem C8(a b:Str):decide ((Sum.inr a:Key)=Sum.inr b)=decide (a=b):=by
 by_cases e:a=b
 ·subst e;simp
 ·have h:¬(Sum.inr a:Key)=Sum.inr b:=fun q=>e (Sum.inr.inj q)
  rw[NV h,NV e]
theorem C6(a:Int)(b:Str):decide ((Sum.inl a:Key)=Sum.inr b)=false:=NV (fun q=>nomatch q)
theorem C7(a:Str)(b:Int):decide ((Sum.inr a:Key)=Sum.inl b)=false:=NV (fun q=>nomatch q)
def gO(prog:Program)(w:World):PySem.KeyKind prog w Key where
 is:=jD
 hash:=Ga w
 inj:=fun v a b ha hb=>by
  rcases bL ha with⟨i,t,rfl,rfl⟩| ⟨x,t,rfl,rfl⟩
  ·rcases bL hb with⟨j,u,rfl,e⟩| ⟨y,u,rfl,e⟩
   ·injection e with e1 _;rw[e1]
   ·exact nomatch e
  ·rcases bL hb with⟨j,u,rfl,e⟩| ⟨y,u,rfl,e⟩
   ·exact nomatch e
   ·injection e with e1 _;rw[e1]
 byValue:=fun k v h=>by
  rcases bL h with⟨i,t,rfl,rfl⟩| ⟨x,t,rfl,rfl⟩<;>rfl
 pyHash:=fun hv h=>by
  rcases bL hv with⟨i,t,rfl,rfl⟩| ⟨x,t,rfl,rfl⟩
  ·exact wpAny_pyHash_int h
  ·exact wpAny_pyHash_str h
 eqBool:=fun hu hv h=>by
  rcases bL hu with⟨i,t,rfl,rfl⟩| ⟨x,t,rfl,rfl⟩
  ·rcases bL hv with⟨j,u,rfl,rfl⟩| ⟨y,u,rfl,rfl⟩
   ·rw[C5]at h;exact wpAny_eqBool_int h
   ·rw[C6]at h;exact SeqAt.EqAt.int_str i t y u _ _ _ _ h
  ·rcases bL hv with⟨j,u,rfl,rfl⟩| ⟨y,u,rfl,rfl⟩
   ·rw[C7]at h;exact SeqAt.EqAt.str_int x t j u _ _ _ _ h
   ·rw[C8]at h;exact wpAny_eqBool_str h
 «strs»:=fun k x t v h=>by
  rcases bL h with⟨i,u,rfl,e⟩| ⟨y,u,rfl,e⟩
  ·exact nomatch e
  ·injection e with e1 _;subst e1;cases v<;>rfl
inductive V where
 |HZ|bl (b:Bool)|int (i:Int)|str (x:Str)|O9 (b:Array UInt8)|Sx (b:UInt64)|ref (a:Addr)|ty (n:String)
 deriving DecidableEq
abbrev yar:=List V
def RelV:V->Value->Prop
 |.HZ,u=>u=Value.none
 |.bl b,u=>u=Value.bool b
 |.int i,u=>∃t,u=Value.int i t
 |.str x,u=>∃t,u=Value.str x t
 |.O9 b,u=>∃t,u=Value.bytes b t
 |.Sx b,u=>∃t,u=Value.float b t
 |.ref a,u=>u=Value.ref a
 |.ty n,u=>u=Value.type n
abbrev Vals:yar->yad->Prop:=Paired RelV
theorem Vals.length{xs:yar}{us:yad}(r:Vals xs us):xs.length=us.length:=Paired.length r
theorem Vals.get:∀{xs:yar} {us:yad} {i:Nat} {x:V},Vals xs us->xs[i]?=some x->∃u,us[i]?=some u/\RelV x u
 |_,_,_,_,.nil,e=>by simp at e
 |_,_,0,_,.cons r _,e=>by simp at e;subst e;exact⟨_,rfl,r⟩
 |_,_,i+1,x,.cons _ t,e=>by obtain⟨u,h1,h2⟩:=Vals.get (i:=i) (x:=x) t (by simpa using e);exact⟨u,by simpa using h1,h2⟩
theorem Vals.set{x:V}{u:Value}(r:RelV x u):∀{xs:yar} {us:yad} (i:Nat),Vals xs us->Vals (xs.set i x) (us.set i u)
 |_,_,_,.nil=>.nil
 |_,_,0,.cons _ t=>.cons r t
 |_,_,i+1,.cons q t=>.cons q (Vals.set r i t)
theorem Vals.append:∀{xs ys:yar} {us ws:yad},Vals xs us->Vals ys ws->Vals (xs++ys) (us++ws)
 |_,_,_,_,.nil,s=>s
 |_,_,_,_,.cons r t,s=>.cons r (Vals.append t s)
theorem Vals.take:∀{xs:yar} {us:yad} (n:Nat),Vals xs us->Vals (xs.take n) (us.take n)
 |_,_,0,_=>.nil
 |_,_,_+1,.nil=>.nil
 |_,_,n+1,.cons r t=>.cons r (Vals.take n t)
theorem Vals.drop:∀{xs:yar} {us:yad} (n:Nat),Vals xs us->Vals (xs.drop n) (us.drop n)
 |_,_,0,r=>r
 |_,_,_+1,.nil=>.nil
 |_,_,n+1,.cons _ t=>Vals.drop n t
theorem Vals.none_of:∀{xs:yar} {us:yad} {i:Nat},Vals xs us->xs[i]?=none->us[i]?=none:=fun {xs us i} r e=>by have h1:=r.length;have h2:xs.length<=i:=List.getElem?_eq_none_iff.mp e;exact List.getElem?_eq_none_iff.mpr (by omega)
def iK:Option V->yan->Prop
 |some v,some u=>RelV v u
 |none,none=>True
 |_,_=>False
def KV{κ:Type}:List (κ×V)->List (κ×Value)->Prop:=Paired fun(p:κ×V) (q:κ×Value)=>p.1=q.1/\RelV p.2 q.2
def kV:Key->V
 |.inl i=>.int i
 |.inr x=>.str x
inductive HO where
 |lst (xs:yar)
 |tup (xs:yar)
 |dK (kvs:List (Key×V))|dT (kvs:List (List Key×V))
 |set (S:Int->Bool) (n:Nat)
 |ins (C dx:Addr) (fs:List (Str×V))
 |own (x:Addr)
 |xd (fs:List (Str×V))
 |met (f x:Addr)
 |U6 (lo hi:Int)
 |frz (o:Obj) (u:HO)
 |Mz (ps:yao)
 |ext (φ:Heap->Prop)
abbrev Hp:=Addr->Option HO
def upd(H:Hp)(a:Addr)(o:HO):Hp:=fun b=>if b=a then some o else H b
theorem au{H:Hp}{a:Addr}{o:HO}:upd H a o a=some o:=by unfold upd;rw[G4 rfl]
theorem aj{H:Hp}{a b:Addr}{o:HO}(h:b≠a):upd H a o b=H b:=by unfold upd;rw[GS h]
theorem pC{H:Hp}{a:Addr}{o u:HO}:upd (upd H a o) a u=upd H a u:=by funext b;unfold upd;split<;>rfl
theorem qw{H:Hp}{a b:Addr}{o u:HO}(h:H a=some o)(h':H b=some u)(d:o≠u):a≠b:=by intro e;subst e;rw[h]at h';exact d (Oh h')
theorem aP{H:Hp}{a b:Addr}{o:HO}(h:H a=some o)(h':H b=none):a≠b:=by intro e;subst e;rw[h]at h';cases h'
section
variable(P:Program)(w:World)
def bK(H:Hp)(h:Heap)(a:Addr):HO->Prop
 |.lst xs=>xs.length<=sizeLine/\∃(its:yad) (n:Nat),Vals xs its/\h.get? a=some {cls:=.type "list", data:=.seq its.toArray n}
 |.tup xs=>xs.length<=sizeLine/\∃its:yad,Vals xs its/\IsTup h a its.toArray
 |.dK kvs=>kvs.length<=sizeLine/\(a==sysModules)=false/\∃vs,KV kvs vs/\h.DictOf (gO P w) a vs
 |.dT kvs=>kvs.length<=sizeLine/\(a==sysModules)=false/\∃xs:List (List Key×Addr×Value),
   Paired (fun(p:List Key×V) (q:List Key×Addr×Value)=>p.1=q.1/\H q.2.1=some (.tup (p.1.map kV))/\RelV p.2 q.2.2) kvs xs ∧
   ∃ o es ep,h.get? a=some o/\o.ExactDict/\o.data=.dict es ep/\es.toList=xs.map (entryOfKey (tupleKind (gO P w)))/\(xs.map (·.1)).Nodup
 |.set S n=>h.SetOf (intKind P w) a S n
 |.ins C dx fs=>H dx=some (.own a)/\fs.length<=1000/\dx≠a/\h.get? a=some (PySem.W.instObj C dx) ∧
   ∃ mA,h.Ns1 dx mA/\(∀f,iK (fs.lookup f) (mA f))/\PySem.Within mA (fs.map (·.1))
 |.own _=>∃o,h.get? a=some o
 |.xd fs=>∃mA,h.Ns1 a mA/\∀f,iK (fs.lookup f) (mA f)
 |.U6 lo hi=>∃t u v,h.get? a=some {cls:=.type "range", data:=.fields #[.int lo t,.int hi u,.int 1 v]}
 |.frz o u=>h.get? a=some o/\bK H h a u
 |.Mz ps=>h.get? a=some {cls:=.none,data:=.fields ps}
 |.met f x=>h.get? a=some (PySem.W.methodObj (.ref f) (.ref x))
 |.ext φ=>φ h/\(∃o,h.get? a=some o)/\∀h1 h2:Heap,φ h1->(∀o,h1.get? a=some o->h2.get? a=some o)->φ h2
def Lv(H:Hp)(h:Heap):Prop:=∀a o,H a=some o->bK P w H h a o
end
section
variable{P:Program}{w:World}{H H':Hp}{h h':Heap}{a:Addr}{o:HO}
theorem bK.lt(x:bK P w H h a o):a<h.objs.size:=by
 cases o with
 |lst xs=>obtain⟨_,_,_,_,e⟩:=x;exact J9 e
 |tup xs=>obtain⟨_,_,_,p⟩:=x;exact p.lt
 |dK kvs=>obtain⟨_,_,_,_,o,_,_,e,_⟩:=x;exact J9 e
 |dT kvs=>obtain⟨_,_,_,_,o,_,_,e,_⟩:=x;exact J9 e
 |set S n=>obtain⟨o,_,_,_,e,_⟩:=x;exact J9 e
 |ins C dx fs=>obtain⟨_,_,_,e,_⟩:=x;exact J9 e
 |own y=>obtain⟨_,e⟩:=x;exact J9 e
 |xd fs=>obtain⟨_,⟨_,_,_,e,_⟩,_⟩:=x;exact J9 e
 |U6 lo hi=>obtain⟨_,_,_,e⟩:=x;exact J9 e
 |frz ob u=>obtain⟨e,_⟩:=x;exact J9 e
 |Mz ps=>exact J9 (show h.get? a=some _ from x)
 |met f y=>exact J9 (show h.get? a=some _ from x)
 |ext φ=>obtain⟨_,⟨_,e⟩,_⟩:=x;exact J9 e
theorem Paired.Nw{α β:Type}{F G:α->β->Prop}:∀{S9:List α} {Ta:List β},Paired F S9 Ta->(∀a b,F a b->G a b)->Paired G S9 Ta
 |_,_,.nil,_=>.nil
 |_,_,.cons r t,f=>.cons (f _ _ r) (Paired.Nw t f)
theorem bK.Na(x:bK P w H h a o)(k:∀b u,(b=a∨H b=some (.own a))->h.get? b=some u->h'.get? b=some u)
  (ho:∀b,H b=some (.own a)->H' b=some (.own a)) (ht:∀b xs,H b=some (.tup xs)->H' b=some (.tup xs)):bK P w H' h' a o:=by
 induction o with
 |lst xs=>obtain⟨z,its,n,r,e⟩:=x;exact⟨z,its,n,r,k _ _ (.inl rfl) e⟩
 |tup xs=>obtain⟨z,its,r,ob,e,c⟩:=x;exact⟨z,its,r,ob,k _ _ (.inl rfl) e,c⟩
 |dK kvs=>obtain⟨z,y,vs,r,ob,es,ep,e,c⟩:=x;exact⟨z,y,vs,r,ob,es,ep,k _ _ (.inl rfl) e,c⟩
 |dT kvs =>
  obtain⟨z,y,xs,r,ob,es,ep,e,c⟩:=x;exact⟨z,y,xs,Paired.Nw r fun p q z=>⟨z.1,ht _ _ z.2.1,z.2.2⟩,ob,es,ep,k _ _ (.inl rfl) e,c⟩
 |set S n=>obtain⟨ob,es,ep,t,e,c⟩:=x;exact⟨ob,es,ep,t,k _ _ (.inl rfl) e,c⟩
 |ins C dx fs =>
  obtain⟨d,z,ne,e,mA,⟨od,es,ep,e2,c⟩,r⟩:=x;exact⟨ho _ d,z,ne,k _ _ (.inl rfl) e,mA,⟨od,es,ep,k _ _ (.inr d) e2,c⟩,r⟩
 |own y=>obtain⟨ob,e⟩:=x;exact⟨ob,k _ _ (.inl rfl) e⟩
 |xd fs=>obtain⟨mA,⟨od,es,ep,e,c⟩,r⟩:=x;exact⟨mA,⟨od,es,ep,k _ _ (.inl rfl) e,c⟩,r⟩
 |U6 lo hi=>obtain⟨t,u,v,e⟩:=x;exact⟨t,u,v,k _ _ (.inl rfl) e⟩
 |frz ob u ih=>obtain⟨e,q⟩:=x;exact⟨k _ _ (.inl rfl) e,ih q⟩
 |Mz ps =>
  have e:h.get? a=some {cls:=.none,data:=.fields ps}:=x;show h'.get? a=some {cls:=.none,data:=.fields ps};exact k a _ (.inl rfl) e
 |met f y =>
  have e:h.get? a=some (PySem.W.methodObj (.ref f) (.ref y)):=x;show h'.get? a=some (PySem.W.methodObj (.ref f) (.ref y));exact k a _ (.inl rfl) e
 |ext φ=>obtain⟨p,⟨o,e⟩,st⟩:=x;exact⟨st _ _ p fun o q=>k _ _ (.inl rfl) q,⟨o,k _ _ (.inl rfl) e⟩,st⟩
theorem Lv.lt(x:Lv P w H h)(e:H a=some o):a<h.objs.size:=(x a o e).lt
theorem Lv.fresh(x:Lv P w H h)(e:h.objs.size<=a):H a=none:=by
 cases q:H a with
 |none=>rfl
 |some u=>exact absurd (LZ (x.lt q) e) (O8 _)
theorem Lv.kept(x:Lv P w H h)(k:∀b u,h.get? b=some u->h'.get? b=some u):Lv P w H h':=fun a o e =>
 (x a o e).Na (fun b u _ q=>k b u q) (fun _ q=>q) fun _ _ q=>q
theorem Lv.laid(x:Lv P w H h)(k:∀b u,h.get? b=some u->h'.get? b=some u)(hp:h.objs.size<=a)(new:bK P w (upd H a o) h' a o):Lv P w (upd H a o) h':=fun b u e=>by
 have hn:=x.fresh hp;by_cases hb:b=a
 ·subst hb;rw[au]at e;cases e;exact new
 ·rw[aj hb]at e;exact(x b u e).Na (fun c v _ q=>k c v q) (fun c q=>by rw[aj (aP q hn)];exact q) fun c xs q=>by rw[aj (aP q hn)];exact q
end
def Rd(H:Hp)(a:Addr)(u:HO):Prop:=H a=some u∨∃ o,H a=some (.frz o u)
theorem Rd.ok{P:Program}{w:World}{H:Hp}{h:Heap}{a:Addr}{u:HO}(r:Rd H a u)(x:Lv P w H h):bK P w H h a u:=by
 rcases r with r|⟨o,r⟩
 ·exact x a u r
 ·obtain⟨_,q⟩:=x a _ r;exact q
def U7:Option HO->Prop
 |some (.lst _)=>True
 |some (.dK _)=>True
 |some (.dT _)=>True
 |some (.set _ _)=>True
 |some (.ins _ _ _)=>True
 |some (.ext _)=>True
 |_=>False
section
variable{P:Program}{w:World}{H:Hp}{h h':Heap}{x e:Addr}{o':HO}
theorem Lv.write(ok:Lv P w H h)(mu:U7 (H x))(he:e=x∨H e=some (.own x))(k:∀b u,b≠e->h.get? b=some u->h'.get? b=some u)(Sy:∃u,h'.get? e=some u)
  (new:bK P w (upd H x o') h' x o'):Lv P w (upd H x o') h':=fun b u q=>by
 have Tb:∀c y,H c=some (.own y)->c≠x:=fun c y r z=>by subst z;rw[r]at mu;exact mu
 have VP:∀c xs,H c=some (.tup xs)->c≠x:=fun c xs r z=>by subst z;rw[r]at mu;exact mu
 by_cases hb:b=x
 ·subst hb;rw[au]at q;cases q;exact new
 ·rw[aj hb]at q;by_cases RA:b=e
  ·have q':H b=some (.own x):=by
    rcases he with z|z
    ·exact absurd (RA.trans z) hb
    ·rw[RA];exact z
   rw[q]at q';cases q';obtain⟨v,hv⟩:=Sy;exact⟨v,by rw[RA];exact hv⟩
  ·refine(ok b u q).Na (fun c v hc r=>k c v ?_ r) (fun c r=>by rw[aj (Tb c b r)];exact r) fun c xs r=>by rw[aj (VP c xs r)];exact r
   rcases hc with rfl|hc
   ·exact RA
   ·rintro rfl;rcases he with z|z
    ·exact Tb c b hc z
    ·rw[hc]at z;cases z;exact hb rfl
end
structure Un(fs ex:yae)(H H':Hp)(h h':Heap):Prop where
 keep:∀b o,h.get? b=some o->H b=none->b∉fs->b∉ex->h'.get? b=some o
 slot:∀b o,h.get? b=some o->H b=none->b∈fs->b∉ex->∃sl,h'.get? b=some {o with slots:=sl}
 free:∀b o,h.get? b=some o->H b=none->b∉ex->H' b=none
 there:∀b o,h.get? b=some o->b∉ex->∃o',h'.get? b=some o'
 KC:∀b xs,H b=some (.tup xs)->H' b=some (.tup xs)
 Kv:∀b o u,H b=some (.frz o u)->H' b=some (.frz o u)
 Kw:∀b ps,H b=some (.Mz ps)->∃more,H' b=some (.Mz (ps++more))
section
variable{fs fs' ex ex':yae}{H H1 H2:Hp}{h h1 h2 h':Heap}{a x e:Addr}{o:HO}
theorem Un.any(u:Un fs ex H H1 h h1){b:Addr}{ob:Obj}(q:h.get? b=some ob)(n:H b=none)(hx:b∉ex):∃sl,h1.get? b=some {ob with slots:=sl}:=by
 by_cases hb:b∈fs
 ·exact u.slot b ob q n hb hx
 ·exact⟨ob.slots,u.keep b ob q n hb hx⟩
theorem Un.kept(k:∀b u,h.get? b=some u->h'.get? b=some u):Un fs ex H H h h' :=
 ⟨fun b ob q _ _ _=>k b ob q,fun b ob q _ _ _=>⟨ob.slots,k b ob q⟩,fun _ _ _ n _=>n,fun b ob q _=>⟨ob,k b ob q⟩,fun _ _ q=>q,fun _ _ _ q=>q,fun _ ps q=>⟨#[],by rw[q];simp⟩⟩
theorem Un.refl:Un fs ex H H h h:=Un.kept fun _ _ q=>q
theorem Un.laid(k:∀b u,h.get? b=some u->h'.get? b=some u)(hp:h.objs.size<=a)(hn:H a=none):Un fs ex H (upd H a o) h h' where
 keep:=fun b u q _ _ _=>k b u q
 slot:=fun b u q _ _ _=>⟨u.slots,k b u q⟩
 free:=fun b u q n _=>by rw[aj (Nk (LZ (J9 q) hp))];exact n
 there:=fun b u q _=>⟨u,k b u q⟩
 KC:=fun b xs q=>by rw[aj (aP q hn)];exact q
 Kv:=fun b u xs q=>by rw[aj (aP q hn)];exact q
 Kw:=fun b ps q=>⟨#[],by rw[aj (aP q hn),q];simp⟩
theorem Un.write(mu:U7 (H x))(he:e=x∨H e=some (.own x))(k:∀b u,b≠e->h.get? b=some u->h'.get? b=some u)(Sy:∃u,h'.get? e=some u):Un fs ex H (upd H x o) h h':=by
 have hx:∀b,H b=none->b≠x:=fun b n z=>by subst z;rw[n]at mu;exact mu
 have hb:∀b,H b=none->b≠e:=fun b n z=>by
  subst z;rcases he with r|r
  ·exact hx b n r
  ·rw[n]at r;cases r
 have hm:∀b u,H b=some u->¬U7 (some u)->b≠x:=fun b u q nm z=>by subst z;rw[q]at mu;exact nm mu
 refine⟨fun b u q n _ _=>k b u (hb b n) q,fun b u q n _ _=>⟨u.slots,k b u (hb b n) q⟩,fun b u q n _=>by rw[aj (hx b n)];exact n,fun b u q _=>?_,
  fun b xs q=>by rw[aj (hm b _ q fun z=>z)];exact q,fun b u xs q=>by rw[aj (hm b _ q fun z=>z)];exact q,fun b ps q=>⟨#[],by rw[aj (hm b _ q fun z=>z),q];simp⟩⟩
 by_cases RA:b=e
 ·subst RA;exact Sy
 ·exact⟨u,k b u RA q⟩
end
def trk(h:Heap)(H:Hp):yae:=(List.range h.objs.size).filter fun a=>(H a).isSome
def iN(h:Heap)(H:Hp):Heap:=PySem.W.hideAll h (trk h H)
theorem wK(h:Heap)(H:Hp):(iN h H).objs.size=h.objs.size:=PySem.W.hideAll_size _ _
theorem yB{h:Heap}{H:Hp}{b:Addr}{o:Obj}(e:h.get? b=some o)(n:H b=none):(iN h H).get? b=some o :=
 PySem.W.hideAll_get _ e fun hm=>by have q:(H b).isSome=true:=(List.mem_filter.mp hm).2;rw[n]at q;simp at q
theorem AO{h:Heap}{H:Hp}{b:Addr}{o:Obj}(e:(iN h H).get? b=some o):h.get? b=some o/\H b=none:=by
 have e':h.get? b=some o:=PySem.W.of_hideAll (trk h H) e;refine⟨e',?_⟩;cases q:H b with
 |none=>rfl
 |some x =>
  have hm:b∈trk h H:=List.mem_filter.mpr ⟨List.mem_range.mpr (J9 e'),by simp[q]⟩;have z:(iN h H).get? b=none:=PySem.W.hideAll_none (trk h H) hm;rw[z]at e;cases e
def zX(g h:Heap)(L:Addr):yab:=(List.range h.objs.size).filterMap fun a=>if a=L∨(g.get? a).isSome=true then none else(h.get? a).map fun o=>(a,o)
def rest(g h:Heap)(L d:Addr):yab:=(zX g h L).filter fun p=>decide (p.1≠d)
structure Mod(K:yac)(mg:yam)(base:Heap):Prop where
 Pa:K.In base
 glob:base.Ns mainGlobals mg
 blt:∃mb,base.Ns builtinsNs mb/\∀x:Str,x ≠ "__name__" -> mb x=bootBuiltins x
 nolimit:base.NoLimit
structure Cx where
 prog:Program
 w:World
 K:yac
 mg:yam
 base:Heap
 A:Around
 N:yah
 IA:Shared
 H₀:Hp
 env:Env
 outer:List Env
 stack:List Env
 ex:yae
 fn:Str->Bool
 calm:Bool
 pn:yab
 xe:yaa
def MJ(l:List Env):yae:=l.filterMap (·.frame)
abbrev Cx.fs(X:Cx):yae:=MJ X.outer
def RB(sc:Scope)(x:Str):Prop:=sc.names.lookup x=some .local∨sc.names.lookup x=some .cell∨sc.names.lookup x=some .free
def Loc(sc:Scope)(x:Str):Prop:=sc.names.lookup x=some .local∨sc.names.lookup x=some .cell
def Look(env:Env)(h:Heap)(m:yam)(x:Str)(u:Value):Prop :=
 (env.kindOf x=some .local/\m x=some u)∨((env.kindOf x=some .cell∨env.kindOf x=some .free)/\∃c,env.cells.lookup x=some c/\h.IsCell c (some u))
structure Cx.Ok(X:Cx):Prop where
 mod:Mod X.K X.mg X.base
 kind:X.env.scope.kind=.function
 glob:X.env.globals=mainGlobals
 blt:X.env.builtins=builtinsNs
 above:X.IA.heap.objs.size<=X.env.locals
 inj:∀x y c,X.env.cells.lookup x=some c->X.env.cells.lookup y=some c->x=y
 has:∀x,(X.env.kindOf x=some .cell∨X.env.kindOf x=some .free)->∃c,X.env.cells.lookup x=some c
 OM:∀x c,X.fn x=true->X.env.cells.lookup x=some c->X.IA.heap.objs.size<=c
 hd:X.calm=true->X.A.handled=none
 frames:X.A.frames=some X.stack
 RC:X.stack=X.outer∨(X.stack=X.env::X.outer/\X.env.frame=some X.env.locals)
 Tc:∀b∈X.ex,b≠X.env.locals/\∀x c,X.env.cells.lookup x=some c->c≠b
 bs:∀b o,X.base.get? b=some o->X.IA.heap.get? b=some o/\X.H₀ b=none
 Pc:X.base.objs.size<=X.IA.heap.objs.size
 Nx:∀b o,X.base.get? b=some o->b∉X.ex
 Oi:∀b∈X.ex,b∉X.fs
 Lo:X.IA.heap.FunFrames X.base X.outer
 Pp:∀b∈X.fs,X.H₀ b=none
structure Inv(X:Cx)(pins:yab)(σ:List (Option V))(H:Hp)(s:Shared):Prop where
 ok:X.Ok
 os:s.os=X.IA.os
 bare:AllBare s.gens
 base:Un X.fs X.ex X.H₀ H X.IA.heap s.heap
 loc:∃m,s.heap.Ns X.env.locals m/\∀(i:Nat) (x:Str) (v:V),X.N[i]?=some x->σ[i]?=some (some v)->RB X.env.scope x->∃u,RelV v u/\Look X.env s.heap m x u
 cell:∀x c,X.env.cells.lookup x=some c->∃v,s.heap.IsCell c v
 free:H X.env.locals=none
 JK:∀x c,X.env.cells.lookup x=some c->H c=none
 pin:∀p∈X.pn++pins,s.heap.get? p.1=some p.2/\H p.1=none/\p.1≠X.env.locals/\p.1∉X.fs/\∀v,p.2.data ≠ .cell v
 IZ:Lv X.prog X.w H s.heap
 len:σ.length=X.N.length
section
variable{X:Cx}{pins:yab}{σ:List (Option V)}{H H':Hp}{s:Shared}{h':Heap}
theorem Cx.Ok.VQ(ok:X.Ok){b:Addr}{o:Obj}(e:X.base.get? b=some o):b∉X.fs:=fun hb=>by have:=(ok.Lo.mem hb).1;rw[e]at this;cases this
theorem Inv.bs(I:Inv X pins σ H s):∀b o,X.base.get? b=some o->s.heap.get? b=some o/\H b=none:=fun b o e =>
 ⟨I.base.keep b o (I.ok.bs b o e).1 (I.ok.bs b o e).2 (I.ok.VQ e) (I.ok.Nx b o e),I.base.free b o (I.ok.bs b o e).1 (I.ok.bs b o e).2 (I.ok.Nx b o e)⟩
theorem Inv.bk(I:Inv X pins σ H s):∀b o,X.base.get? b=some o->s.heap.get? b=some o:=fun b o e=>(I.bs b o e).1
theorem Inv.mod(I:Inv X pins σ H s):Mod X.K X.mg X.base:=I.ok.mod
theorem Inv.Ll(I:Inv X pins σ H s):X.K.In s.heap:=I.ok.mod.Pa.keeps I.bk
theorem Inv.fr(I:Inv X pins σ H s):∃m,Fr X.base X.env.locals s.heap m :=
 let ⟨m,hn,_⟩:=I.loc
 ⟨m,hn,I.bk,MH I.ok.Pc I.ok.above⟩
theorem Inv.lt(I:Inv X pins σ H s):X.env.locals<s.heap.objs.size:=let ⟨_,hn,_⟩:=I.loc;hn.lt
theorem Inv.sz(I:Inv X pins σ H s):X.IA.heap.objs.size<=s.heap.objs.size:=MH I.ok.above (Nat.le_of_lt I.lt)
theorem Inv.Td(I:Inv X pins σ H s){a:Addr}(h:s.heap.objs.size<=a):a∉X.fs:=fun hb=>by obtain⟨_,o,ho,_⟩:=I.ok.Lo.mem hb;exact absurd (LZ (J9 ho) (MH I.sz h)) (O8 _)
theorem Inv.Qz(I:Inv X pins σ H s):∀x c,X.env.cells.lookup x=some c->c≠X.env.locals:=fun x c e z=>by obtain⟨v,o,ho,hd⟩:=I.cell x c e;obtain⟨m,⟨o',es,ep,QA,OY,_⟩,_⟩:=I.loc;rw[z,QA]at ho;cases ho;rw[OY]at hd;cases hd
theorem Inv.Lo(I:Inv X pins σ H s):s.heap.FunFrames X.base X.outer:=by
 have all:∀(l:List Env),(∀b∈MJ l,b∈X.fs)->X.IA.heap.FunFrames X.base l->s.heap.FunFrames X.base l:=by
  intro l
  induction l with
  |nil=>intro _ _;trivial
  |cons env r ih =>
   intro hs hl;obtain⟨hk,⟨L,o,hf,hn,ho,hd⟩,hr⟩:=hl;have hL:L∈X.fs:=hs L (by unfold MJ;rw[S3,hf];exact M4);obtain⟨sl,e⟩:=I.base.slot L o ho (I.ok.Pp L hL) hL fun z=>I.ok.Oi L z hL
   exact⟨hk,⟨L,_,hf,hn,e,hd⟩,ih (fun b hb=>hs b (by unfold MJ;rw[S3,hf];exact Nu _ hb)) hr⟩
 exact all X.outer (fun _ hb=>hb) I.ok.Lo
theorem Inv.stack(I:Inv X pins σ H s):s.heap.FunFrames X.base X.stack:=by
 rcases I.ok.RC with e|⟨e,hf⟩
 ·rw[e];exact I.Lo
 ·rw[e];obtain⟨m,hn,_⟩:=I.loc;refine .cons (by rw[I.ok.kind];decide) hf hn ?_ I.Lo;exact Heap.get?_none_of_le (MH I.ok.Pc I.ok.above)
theorem Inv.Mc(I:Inv X pins σ H s):∀b∈MJ X.stack,b∈X.env.locals::X.fs:=fun b hb=>by
 rcases I.ok.RC with e|⟨e,hf⟩
 ·rw[e]at hb;exact Nu _ hb
 ·rw[e]at hb;unfold MJ at hb;rw[S3,hf]at hb;exact hb
theorem Inv.Ny(I:Inv X pins σ H s):∀b∈MJ X.stack,H b=none:=fun b hb=>by
 rcases L0.mp (I.Mc b hb)with e|hb
 ·rw[e];exact I.free
 ·obtain⟨_,o,ho,_⟩:=I.ok.Lo.mem hb;exact I.base.free b o ho (I.ok.Pp b hb) fun z=>I.ok.Oi b z hb
theorem Inv.step{g':Array GenState}{t':Nat}{d':Drawn}{ch:yae}(I:Inv X pins σ H s)
  (ON:∀b∈ch,(b∈X.ex∨X.IA.heap.objs.size<=b)/\b≠X.env.locals/\(∀x c,X.env.cells.lookup x=some c->c≠b)/\∀p∈X.pn++pins,p.1≠b)
  (keep:∀b o,b≠X.env.locals->b∉X.fs->b∉ch->s.heap.get? b=some o->H b=none->h'.get? b=some o)
  (slot:∀b o,b≠X.env.locals->b∈X.fs->b∉ch->s.heap.get? b=some o->H b=none->∃sl,h'.get? b=some {o with slots:=sl}) (free:∀b o,b∉ch->s.heap.get? b=some o->H b=none->H' b=none)
  (there:∀b o,b∉ch->s.heap.get? b=some o->∃o',h'.get? b=some o')
  (KC:∀b xs,H b=some (.tup xs)->H' b=some (.tup xs)) (Kv:∀b o u,H b=some (.frz o u)->H' b=some (.frz o u)) (Kw:∀b ps,H b=some (.Mz ps)->∃more,H' b=some (.Mz (ps++more)))
  (ns:∀m,s.heap.Ns X.env.locals m->h'.Ns X.env.locals m) (IZ:Lv X.prog X.w H' h') (hg:AllBare g') :
  Inv X pins σ H' {s with heap:=h',gens:=g',drawn:=d',toks:=t'}:=by
 have Sz:∀b o,X.IA.heap.get? b=some o->b≠X.env.locals:=fun b o e=>Nk (LZ (J9 e) I.ok.above)
 have U8:∀b o,X.IA.heap.get? b=some o->b∉X.ex->b∉ch:=fun b o e hx hb=>by
  rcases(ON b hb).1 with z|z
  ·exact hx z
  ·exact absurd (LZ (J9 e) z) (O8 _)
 have cellK:∀x c,X.env.cells.lookup x=some c->∀v,s.heap.IsCell c v->h'.IsCell c v:=fun x c e v ⟨o,ho,hd⟩=>by
  have Pq:c∉ch:=fun z=>(ON c z).2.2.1 x c e rfl
  by_cases hc:c∈X.fs
  ·obtain⟨sl,q⟩:=slot c o (I.Qz x c e) hc Pq ho (I.JK x c e);exact⟨_,q,hd⟩
  ·exact⟨o,keep c o (I.Qz x c e) hc Pq ho (I.JK x c e),hd⟩
 refine⟨I.ok,I.os,hg,⟨fun b o e n hb hx=>?_,fun b o e n hb hx=>?_,fun b o e n hx=>?_,fun b o e hx=>?_,fun b xs e=>KC b xs (I.base.KC b xs e),fun b o xs e=>Kv b o xs (I.base.Kv b o xs e),fun b ps e=>?_⟩,?_,fun x c e=>?_,?_,fun x c e=>?_,fun p hp=>?_,IZ,I.len⟩
 ·exact keep b o (Sz b o e) hb (U8 b o e hx) (I.base.keep b o e n hb hx) (I.base.free b o e n hx)
 ·obtain⟨sl,e1⟩:=I.base.slot b o e n hb hx;obtain⟨VS,e2⟩:=slot b _ (Sz b o e) hb (U8 b o e hx) e1 (I.base.free b o e n hx);exact⟨VS,e2⟩
 ·obtain⟨o',e1⟩:=I.base.there b o e hx;exact free b o' (U8 b o e hx) e1 (I.base.free b o e n hx)
 ·obtain⟨o',e1⟩:=I.base.there b o e hx;exact there b o' (U8 b o e hx) e1
 ·obtain⟨m1,e1⟩:=I.base.Kw b ps e;obtain⟨m2,e2⟩:=Kw b _ e1;exact⟨m1++m2,by rw[e2,Ru]⟩
 ·obtain⟨m,hn,hl⟩:=I.loc;refine⟨m,ns m hn,fun i x v e1 e2 e3=>?_⟩;obtain⟨u,r,l⟩:=hl i x v e1 e2 e3;refine⟨u,r,?_⟩;rcases l with l|⟨k,c,e,z⟩
  ·exact .inl l
  ·exact .inr ⟨k,c,e,cellK x c e _ z⟩
 ·obtain⟨v,z⟩:=I.cell x c e;exact⟨v,cellK x c e v z⟩
 ·obtain⟨m,⟨o,_,_,ho,_⟩,_⟩:=I.loc;exact free _ o (fun z=>(ON _ z).2.1 rfl) ho I.free
 ·obtain⟨v,o,ho,hd⟩:=I.cell x c e;exact free c o (fun z=>(ON c z).2.2.1 x c e rfl) ho (I.JK x c e)
 ·obtain⟨e,n,ne,nf,d⟩:=I.pin p hp;have Pq:p.1∉ch:=fun z=>(ON p.1 z).2.2.2 p hp rfl
  exact⟨keep p.1 p.2 ne nf Pq e n,free p.1 p.2 Pq e n,ne,nf,d⟩
theorem Inv.un{t':Nat}(I:Inv X pins σ H s)(u:Un X.fs [] H H' s.heap h')(IZ:Lv X.prog X.w H' h'):Inv X pins σ H' {s with heap:=h',toks:=t'}:=by
 obtain⟨m,⟨o,es,ep,ho,r⟩,_⟩:=id I.loc;obtain⟨sl,hL⟩:=u.any ho I.free (by simp);exact I.step (g':=s.gens) (d':=s.drawn) (ch:=[]) (fun _ z=>nomatch z) (fun b o _ hb _ e n=>u.keep b o e n hb (by simp)) (fun b o _ hb _ e n=>u.slot b o e n hb (by simp)) (fun b o _ e n=>u.free b o e n (by simp)) (fun b o _ e=>u.there b o e (by simp)) u.KC u.Kv u.Kw (fun m' hm=>by obtain⟨o',QB,VT,QA,r'⟩:=hm;rw[ho]at QA;cases QA;exact⟨_,QB,VT,hL,r'⟩) IZ I.bare
theorem Inv.call{g':Array GenState}{t':Nat}{d':Drawn}{ch:yae}(I:Inv X pins σ H s)(u:Un (MJ X.stack) ch H H' s.heap h')(IZ:Lv X.prog X.w H' h')(hg:AllBare g')
  (ON:∀b∈ch,(b∈X.ex∨X.IA.heap.objs.size<=b)/\b≠X.env.locals/\(∀x c,X.env.cells.lookup x=some c->c≠b)/\∀p∈X.pn++pins,p.1≠b) :
  Inv X pins σ H' {s with heap:=h',gens:=g',drawn:=d',toks:=t'}:=by
 obtain⟨m,⟨o,es,ep,ho,r⟩,_⟩:=id I.loc;obtain⟨sl,hL⟩:=u.any ho I.free fun z=>(ON _ z).2.1 rfl
 exact I.step (ch:=ch) ON (fun b o hL hb hc e n=>u.keep b o e n (fun z=>(L0.mp (I.Mc b z)).elim hL hb) hc) (fun b o _ _ hc e n=>u.any e n hc) (fun b o hc e n=>u.free b o e n hc) (fun b o hc e=>u.there b o e hc) u.KC u.Kv u.Kw (fun m' hm=>by obtain⟨o',QB,VT,QA,r'⟩:=hm;rw[ho]at QA;cases QA;exact⟨_,QB,VT,hL,r'⟩) IZ hg
theorem Inv.turned{t':Nat}{it:Addr}(I:Inv X pins σ H s)(k:∀b o,b≠it->s.heap.get? b=some o->h'.get? b=some o)(hn:H it=none)(hL:it≠X.env.locals)
  (h1:it∈X.ex∨X.IA.heap.objs.size<=it) (h2:∀x c,X.env.cells.lookup x=some c->c≠it) (h3:∀p∈X.pn++pins,p.1≠it):Inv X pins σ H {s with heap:=h',toks:=t'}:=by
 have nit:∀b u,H b=some u->b≠it:=fun b u e z=>by rw[z,hn]at e;cases e
 refine I.step (g':=s.gens) (d':=s.drawn) (ch:=[it]) (fun b hb=>?_) (fun b o _ _ hc e _=>k b o (fun z=>hc (by simp[z])) e) (fun b o _ _ hc e _=>⟨o.slots,k b o (fun z=>hc (by simp[z])) e⟩) (fun _ _ _ _ n=>n)
  (fun b o hc e=>⟨o,k b o (fun z=>hc (by simp[z])) e⟩) (fun _ _ e=>e) (fun _ _ _ e=>e) (fun b ps e=>⟨#[],by rw[e];simp⟩) (fun m hm=>?_) (fun b u e=>?_) I.bare
 ·have e:b=it:=by simpa using hb
  subst e;exact⟨h1,hL,h2,h3⟩
 ·obtain⟨o,es,ep,ho,r⟩:=hm;exact⟨o,es,ep,k _ o (Ne.symm hL) ho,r⟩
 ·refine(I.IZ b u e).Na (fun c v hc q=>k c v ?_ q) (fun _ q=>q) fun _ _ q=>q
  rcases hc with z|z
  ·rw[z];exact nit b u e
  ·exact nit c _ z
theorem Inv.tok(I:Inv X pins σ H s)(t:Nat):Inv X pins σ H {s with toks:=t}:=I.un (h':=s.heap) (t':=t) Un.refl I.IZ
theorem Inv.kept{t':Nat}(I:Inv X pins σ H s)(k:∀b u,s.heap.get? b=some u->h'.get? b=some u):Inv X pins σ H {s with heap:=h',toks:=t'}:=I.un (Un.kept k) (I.IZ.kept k)
theorem Inv.laid{a:Addr}{o:HO}{t':Nat}(I:Inv X pins σ H s)(k:∀b u,s.heap.get? b=some u->h'.get? b=some u)(hp:s.heap.objs.size<=a)(new:bK X.prog X.w (upd H a o) h' a o) :
  Inv X pins σ (upd H a o) {s with heap:=h',toks:=t'}:=I.un (Un.laid k hp (I.IZ.fresh hp)) (I.IZ.laid k hp new)
theorem Inv.write{x e:Addr}{o:HO}{t':Nat}(I:Inv X pins σ H s)(mu:U7 (H x))(he:e=x∨H e=some (.own x))(k:∀b u,b≠e->s.heap.get? b=some u->h'.get? b=some u)(Sy:∃u,h'.get? e=some u)
  (new:bK X.prog X.w (upd H x o) h' x o):Inv X pins σ (upd H x o) {s with heap:=h',toks:=t'}:=I.un (Un.write mu he k Sy) (I.IZ.write mu he k Sy new)
theorem Inv.OO{Pr:yab}(I:Inv X pins σ H s)(h:∀p∈Pr,s.heap.get? p.1=some p.2/\H p.1=none/\p.1≠X.env.locals/\p.1∉X.fs/\∀v,p.2.data ≠ .cell v):Inv X Pr σ H s :=
 ⟨I.ok,I.os,I.bare,I.base,I.loc,I.cell,I.free,I.JK,fun p hp=>(Qx.mp hp).elim (fun z=>I.pin p (U0 _ z)) (h p),I.IZ,I.len⟩
theorem l5{N:yah}(hN:N.Nodup){i j:Nat}{x:Str}(a:N[i]?=some x)(b:N[j]?=some x):i=j:=by obtain⟨h1,e1⟩:=OX.mp a;obtain⟨h2,e2⟩:=OX.mp b;exact(List.getElem_inj hN).mp (e1.trans e2.symm)
theorem kX{M:Model}{A:Around}{E:yaa}{i:Nat}{x:Str}{v:V}{u:Value}{Q:Unit->Shared->Prop}(I:Inv X pins σ H s)(hN:X.N.Nodup)(hi:X.N[i]?=some x)(hx:Loc X.env.scope x)(r:RelV v u)
  (h:∀s',Inv X pins (σ.set i (some v)) H s'->(∃a,Heap.SameBut a s.heap s'.heap/\(a=X.env.locals∨X.env.cells.lookup x=some a))->Q () s') (hf:X.fn x=true∨X.env.scope.names.lookup x=some .local:=by first|exact .inl rfl|exact .inr rfl|assumption):wpAny M A (storeName X.env x u) Q E s:=by
 obtain⟨m,hn,hl⟩:=id I.loc;have VU:(X.env.scope.kind==.class || (X.env.scope.kind==.module && X.env.locals != X.env.globals))=false:=by rw[I.ok.kind];rfl
 have Te:i<σ.length:=by rw[I.len];exact(OX.mp hi).1
 have Qz:=I.Qz;have tracked:∀{a:Addr} {h':Heap},(∃o,s.heap.get? a=some o/\H a=none)->Heap.SameBut a s.heap h'->Lv X.prog X.w H h':=fun {a h'} ha hs b ob e=>by
  obtain⟨_,_,Q4⟩:=ha;refine(I.IZ b ob e).Na (fun c w' hc q=>(hs.2 c ?_).trans q) (fun _ q=>q) fun _ _ q=>q
  rintro rfl;rcases hc with rfl|hc
  ·rw[Q4]at e;cases e
  ·rw[Q4]at hc;cases hc
 rcases hx with hk|hk
 ·refine wpAny_storeName_local hk hn (fun h' VX hs=>?_) VU;obtain⟨oL,_,_,hoL,_⟩:=id hn;refine h _ ⟨I.ok,I.os,I.bare,⟨fun b o e n hb hx=>?_,fun b o e n hb hx=>?_,I.base.free,fun b o e hx=>?_,I.base.KC,I.base.Kv,I.base.Kw⟩,⟨_,VX,fun j y v' e1 e2 e3=>?_⟩,fun y c e=>?_,I.free,I.JK,fun p hp=>?_,tracked ⟨oL,hoL,I.free⟩ hs,by simpa using I.len⟩ ⟨_,hs,.inl rfl⟩
  ·exact(hs.2 b (Nk (LZ (J9 e) I.ok.above))).trans (I.base.keep b o e n hb hx)
  ·obtain⟨sl,e1⟩:=I.base.slot b o e n hb hx;exact⟨sl,(hs.2 b (Nk (LZ (J9 e) I.ok.above))).trans e1⟩
  ·obtain⟨o',e1⟩:=I.base.there b o e hx;exact⟨o',(hs.2 b (Nk (LZ (J9 e) I.ok.above))).trans e1⟩
  ·by_cases hj:j=i
   ·subst hj;rw[hi]at e1;cases e1;rw[Q3 Te]at e2;cases e2;exact⟨u,r,.inl ⟨hk,by simp⟩⟩
   ·rw[NP (Ne.symm hj)]at e2;obtain⟨u',r',q⟩:=hl j y v' e1 e2 e3;refine⟨u',r',?_⟩;rcases q with⟨k,e⟩| ⟨k,c,e,z⟩
    ·refine .inl ⟨k,?_⟩;have:y≠x:=fun e=>hj (l5 hN e1 (e ▸ hi))
     simp[this,e]
    ·exact .inr ⟨k,c,e,z.sameBut hs (Qz y c e)⟩
  ·obtain⟨w',z⟩:=I.cell y c e;exact⟨w',z.sameBut hs (Qz y c e)⟩
  ·obtain⟨e,n,ne,nf,d⟩:=I.pin p hp;exact⟨(hs.2 p.1 ne).trans e,n,ne,nf,d⟩
 ·have VY:X.fn x=true:=by
   rcases hf with z|z
   ·exact z
   ·rw[z]at hk;cases hk
  obtain⟨c,hc⟩:=I.ok.has x (.inl hk);obtain⟨w',z⟩:=I.cell x c hc;refine wpAny_storeName_cell I.ok.kind hk hc z (fun h' Nb hs=>?_);obtain⟨oc,hoc,VZ⟩:=id z;refine h {s with heap:=h'} ⟨I.ok,I.os,I.bare,⟨fun b o e n hb hx=>?_,fun b o e n hb hx=>?_,I.base.free,fun b o e hx=>?_,I.base.KC,I.base.Kv,I.base.Kw⟩,⟨m,hn.sameBut hs (Ne.symm (Qz x c hc)),fun j y v' e1 e2 e3=>?_⟩,fun y c' e=>?_,I.free,I.JK,fun p hp=>?_,tracked ⟨oc,hoc,I.JK x c hc⟩ hs,by simpa using I.len⟩ ⟨c,hs,.inr hc⟩
  ·exact(hs.2 b (Nk (LZ (J9 e) (I.ok.OM x c VY hc)))).trans (I.base.keep b o e n hb hx)
  ·obtain⟨sl,e1⟩:=I.base.slot b o e n hb hx;exact⟨sl,(hs.2 b (Nk (LZ (J9 e) (I.ok.OM x c VY hc)))).trans e1⟩
  ·obtain⟨o',e1⟩:=I.base.there b o e hx;exact⟨o',(hs.2 b (Nk (LZ (J9 e) (I.ok.OM x c VY hc)))).trans e1⟩
  ·by_cases hj:j=i
   ·subst hj;rw[hi]at e1;cases e1;rw[Q3 Te]at e2;cases e2;exact⟨u,r,.inr ⟨.inl hk,c,hc,Nb⟩⟩
   ·rw[NP (Ne.symm hj)]at e2;obtain⟨u',r',q⟩:=hl j y v' e1 e2 e3;refine⟨u',r',?_⟩;rcases q with q|⟨k,c',e,z'⟩
    ·exact .inl q
    ·refine .inr ⟨k,c',e,z'.sameBut hs ?_⟩;rintro rfl;exact hj (l5 hN e1 (I.ok.inj _ _ _ e hc ▸ hi))
  ·by_cases Pd:c'=c
   ·subst Pd;exact⟨_,Nb⟩
   ·obtain⟨w2,z2⟩:=I.cell y c' e;exact⟨w2,z2.sameBut hs Pd⟩
  ·obtain⟨e,n,ne,nf,d⟩:=I.pin p hp;refine⟨(hs.2 p.1 ?_).trans e,n,ne,nf,d⟩;intro q;rw[q,hoc]at e;have q':oc=p.2:=Oh e;exact d w' (by rw[<- q'];exact VZ)
theorem c7{M:Model}{A:Around}{E:yaa}{i:Nat}{x:Str}{v:V}{u:Value}{Q:Unit->Shared->Prop}(I:Inv X pins σ H s)(hN:X.N.Nodup)(hi:X.N[i]?=some x)(hx:Loc X.env.scope x)(r:RelV v u)
  (h:∀s',Inv X pins (σ.set i (some v)) H s'->Q () s') (hf:X.fn x=true∨X.env.scope.names.lookup x=some .local:=by first|exact .inl rfl|exact .inr rfl|assumption):wpAny M A (storeName X.env x u) Q E s :=
 kX I hN hi hx r (fun s' I' _=>h s' I') hf
theorem Inv.Nl{s':Shared}{ch:yae}(I:Inv X pins σ H s)(ho:s'.os=s.os)(u:Un (MJ X.stack) ch H H' s.heap s'.heap)(IZ:Lv X.prog X.w H' s'.heap)(hg:AllBare s'.gens)
  (ON:∀b∈ch,(b∈X.ex∨X.IA.heap.objs.size<=b)/\b≠X.env.locals/\(∀x c,X.env.cells.lookup x=some c->c≠b)/\∀p∈X.pn++pins,p.1≠b):Inv X pins σ H' s':=by
 obtain⟨h',g',d',t',o'⟩:=s';have e:o'=s.os:=ho;subst e;exact I.call (g':=g') (t':=t') (d':=d') u IZ hg ON
end
abbrev XK:=Value->Option Addr->Hp->Prop
abbrev St:=List (Option V)
abbrev VK:=V->Hp->Prop
abbrev TE:=St->Hp->VK->Prop
abbrev TT:=St->Hp->(Bool->Hp->Prop)->Prop
abbrev TA:=St->Hp->(yar->Hp->Prop)->Prop
structure Ends where
 nx:St->Hp->Prop
 rt:VK
 bk:St->Hp->Prop:=fun _ _=>False
 ct:St->Hp->Prop:=fun _ _=>False
abbrev TS:=Ends->St->Hp->Prop
def EP(X:Cx)(pins:yab)(σ:St)(Q:VK)(u:Value)(s':Shared):Prop:=∃v H',Inv X pins σ H' s'/\RelV v u/\Q v H'
def TP(X:Cx)(pins:yab)(σ:St)(Q:Bool->Hp->Prop)(b:Bool)(s':Shared):Prop:=∃H',Inv X pins σ H' s'/\Q b H'
def AP(X:Cx)(pins:yab)(σ:St)(Q:yar->Hp->Prop)(us:yad)(s':Shared):Prop:=∃vs H',Inv X pins σ H' s'/\Vals vs us/\Q vs H'
def SP(X:Cx)(pins:yab)(D:Ends)(f:Flow)(s':Shared):Prop :=
 match f with
 |.next=>∃σ' H',Inv X pins σ' H' s'/\D.nx σ' H'
 |.brk=>∃σ' H',Inv X pins σ' H' s'/\D.bk σ' H'
 |.cont=>∃σ' H',Inv X pins σ' H' s'/\D.ct σ' H'
 |.ret u=>∃v σ' H',Inv X pins σ' H' s'/\RelV v u/\D.rt v H'
def PE(X:Cx)(e:Expr)(t:TE):Prop :=
 ∀ (pins:yab) (s:Shared) (σ:St) (H:Hp) (Q:VK),Inv X pins σ H s->t σ H Q->wpAny (model X.prog X.w) X.A (eval e X.env) (EP X pins σ Q) X.xe s
def PT(X:Cx)(e:Expr)(t:TT):Prop :=
 ∀ (pins:yab) (s:Shared) (σ:St) (H:Hp) (Q:Bool->Hp->Prop),Inv X pins σ H s->t σ H Q->wpAny (model X.prog X.w) X.A (isTrue e X.env (eval e X.env)) (TP X pins σ Q) X.xe s
def PW(X:Cx)(e:Expr)(t:TT):Prop :=
 ∀ (whole:Sem Value) (pins:yab) (s:Shared) (σ:St) (H:Hp) (Q:Bool->Hp->Prop),Inv X pins σ H s->t σ H Q->wpAny (model X.prog X.w) X.A (isTrue e X.env whole) (TP X pins σ Q) X.xe s
theorem PW.pt{X:Cx}{e:Expr}{t:TT}(h:PW X e t):PT X e t:=h _
def PA(X:Cx)(es:yai)(t:TA):Prop :=
 ∀ (pos:Pos) (pins:yab) (s:Shared) (σ:St) (H:Hp) (Q:yar->Hp->Prop),Inv X pins σ H s->t σ H Q->wpAny (model X.prog X.w) X.A (spliced (backTo pos (starEach es X.env))) (AP X pins σ Q) X.xe s
def PS(X:Cx)(st:Stmt)(t:TS):Prop :=
 ∀ (pins:yab) (s:Shared) (σ:St) (H:Hp) (D:Ends),Inv X pins σ H s->t D σ H->wpAny (model X.prog X.w) X.A (exec st X.env) (SP X pins D) X.xe s
def Qh(X:Cx)(st:yal)(t:TS):Prop :=
 ∀ (pins:yab) (s:Shared) (σ:St) (H:Hp) (D:Ends),Inv X pins σ H s->t D σ H->wpAny (model X.prog X.w) X.A (execs st X.env) (SP X pins D) X.xe s
theorem GU{α:Type}{t:Sem α}{Q Q':α->Shared->Prop}{M:Model}{A:Around}{E:yaa}{s:Shared}(h:wpAny M A t Q E s)(hQ:∀a s,Q a s->Q' a s):wpAny M A t Q' E s:=L3 h hQ fun _ _ x=>x
section
variable{X:Cx}
theorem bin{a b:Expr}{ta tb:TE}(ha:PE X a ta)(hb:PE X b tb){pins:yab}{s:Shared}{σ:St}{H:Hp}{R:V->V->Hp->Prop}(I:Inv X pins σ H s)(h:ta σ H fun x H1=>tb σ H1 fun y H2=>R x y H2)
  {α:Type} {Q:α->Shared->Prop} {f:Value->Value->Sem α}
  (hf:∀v u s2 x y H2,Inv X pins σ H2 s2->RelV x v->RelV y u->R x y H2->wpAny (model X.prog X.w) X.A (f v u) Q X.xe s2) :
  wpAny (model X.prog X.w) X.A (eval a X.env) (fun v Hm=>wpAny (model X.prog X.w) X.A (eval b X.env) (fun u GY=>wpAny (model X.prog X.w) X.A (f v u) Q X.xe GY) X.xe Hm) X.xe s:=by
 refine GU (ha pins s σ H _ I h) fun v s1 ⟨x,H1,I1,r1,q1⟩=>?_
 refine GU (hb pins s1 σ H1 _ I1 q1) fun u s2 ⟨y,H2,I2,r2,q2⟩=>?_
 exact hf v u s2 x y H2 I2 r1 r2 q2
def vJ(i:Nat):TE:=fun σ H Q=>∃v,σ[i]?=some (some v)/\Q v H
def tC(v:V):TE:=fun _ H Q=>Q v H
theorem kG {i:Nat} {x:Str} {pos:Pos} (hN:X.N[i]?=some x) (hv:RB X.env.scope x) (hd:(x==("__debug__" : Str))=false:=by decide) (LX:(x==("__classdict__" : Str))=false:=by decide):PE X (.Name x pos) (vJ i):=by
 intro pins s σ H Q I h;obtain⟨v,e,h⟩:=h;obtain⟨m,hn,hl⟩:=I.loc;obtain⟨u,r,l⟩:=hl i x v hN e hv;have fin:EP X pins σ Q u s:=⟨v,H,I,r,h⟩;rcases l with⟨hk,hm⟩| ⟨hk,c,hc,Q5⟩
 ·exact wpAny_Name (wpAny_loadName_local I.ok.kind hk hn hm fin) hd
 ·rcases hk with hk|hk
  ·exact wpAny_Name (wpAny_loadName_cell I.ok.kind hk hc Q5 fin) hd
  ·exact wpAny_Name (wpAny_loadName_free I.ok.kind hk hc Q5 fin LX) hd
theorem bR{i j pos}:PE X (.Constant (.int i) j pos) (tC (.int i)):=fun _ _ _ H _ I h=>wpAny_Constant_int ⟨.int i,H,I.tok _,⟨_,rfl⟩,h⟩
theorem mX{b j pos}:PE X (.Constant (.bool b) j pos) (tC (.bl b)):=fun _ _ _ H _ I h=>Constant_bool ⟨.bl b,H,I,rfl,h⟩
theorem xn{j pos}:PE X (.Constant .none j pos) (tC .HZ):=fun _ _ _ H _ I h=>Constant_none ⟨.HZ,H,I,rfl,h⟩
theorem xo{x j pos}:PE X (.Constant (.str x) j pos) (tC (.str x)):=fun _ _ _ H _ I h=>Calls.Constant_str ⟨.str x,H,I.tok _,⟨_,rfl⟩,h⟩
def Gl(X:Cx)(x:Str):Prop:=X.env.kindOf x=some .globalImplicit
theorem cN{E:yaa}{pins:yab}{s:Shared}{σ:St}{H:Hp}{x:Str}{u:Value}{pos:Pos}{Q:yaa}(I:Inv X pins σ H s)(hg:Gl X x)(hm:X.mg x=some u)(h:Q u s)
  (hd:(x==("__debug__" : Str))=false:=by decide):wpAny (model X.prog X.w) X.A (eval (.Name x pos) X.env) Q E s :=
 Calls.Name_function_global I.ok.kind hg (Calls.loadGlobal_global (by rw[I.ok.glob];exact I.mod.glob.keeps I.bk) hm h) hd
theorem fZ{E:yaa}{pins:yab}{s:Shared}{σ:St}{H:Hp}{x:Str}{u:Value}{pos:Pos}{Q:yaa}(I:Inv X pins σ H s)(hg:Gl X x)(hm:X.mg x=none)(hv:bootBuiltins x=some u)(h:Q u s)
  (hn:x ≠ "__name__" := by decide) (hd:(x==("__debug__" : Str))=false:=by decide):wpAny (model X.prog X.w) X.A (eval (.Name x pos) X.env) Q E s:=by
 obtain⟨mb,h1,h2⟩:=I.mod.blt;exact Calls.Name_function_global I.ok.kind hg (Calls.loadGlobal_builtin (by rw[I.ok.glob];exact I.mod.glob.keeps I.bk) hm (by rw[I.ok.blt];exact h1.keeps I.bk) ((h2 x hn).trans hv) h) hd
theorem dw {x:Str} {v:V} {u:Value} {pos:Pos} (hg:Gl X x) (hm:X.mg x=some u) (r:RelV v u) (hd:(x==("__debug__" : Str))=false:=by decide):PE X (.Name x pos) (tC v) :=
 fun _ _ _ H _ I h=>cN I hg hm ⟨v,H,I,r,h⟩ hd
theorem uq {x:Str} {v:V} {u:Value} {pos:Pos} (hg:Gl X x) (hm:X.mg x=none) (hv:bootBuiltins x=some u) (r:RelV v u) (hn:x ≠ "__name__" := by decide) (hd:(x==("__debug__" : Str))=false:=by decide):PE X (.Name x pos) (tC v) :=
 fun _ _ _ H _ I h=>fZ I hg hm hv ⟨v,H,I,r,h⟩ hn hd
def t2I(ta tb:TE)(k:Int->Int->Hp->Prop):St->Hp->Prop:=fun σ H=>ta σ H fun x H1=>tb σ H1 fun y H2=>∃i j,x=.int i/\y=.int j/\k i j H2
variable{a b:Expr}{ta tb:TE}{pos:Pos}
def PC(X:Cx)(op:CmpOp)(a b:Expr)(t:TE):Prop :=
 ∀ (pins:yab) (s:Shared) (σ:St) (H:Hp) (Q:VK),Inv X pins σ H s->t σ H Q →
  wpAny (model X.prog X.w) X.A (eval a X.env) (fun v Hm=>wpAny (model X.prog X.w) X.A (eval b X.env) (fun u GY=>wpAny (model X.prog X.w) X.A (compareOp op v u) (EP X pins σ Q) X.xe GY) X.xe Hm) X.xe s
theorem lZ(b:Expr){op:CmpOp}(h:op ≠ .In)(h2:op ≠ .NotIn):behindInMarks op b=false:=by
 have e1:(op==CmpOp.In)=false:=by cases op<;>first|rfl|exact absurd rfl h
 have e2:(op==CmpOp.NotIn)=false:=by cases op<;>first|rfl|exact absurd rfl h2
 cases b<;>simp[behindInMarks,e1,e2]
def Eb(p:Int->Int->Bool)(ta tb:TE):TE:=fun σ H Q=>t2I ta tb (fun i j H2=>Q (.bl (p i j)) H2) σ H
abbrev Gx:TE->TE->TE:=Eb fun i j=>decide (i=j)
theorem DN{op:CmpOp}{p:Int->Int->Bool}(ha:PE X a ta)(hb:PE X b tb)
  (rule:∀(i j:Int) (t u:Tok) (Q:yaa) (s:Shared),Q (.bool (p i j)) s->wpAny (model X.prog X.w) X.A (compareOp op (.int i t) (.int j u)) Q X.xe s):PC X op a b (Eb p ta tb):=by
 intro pins s σ H Q I h;refine bin ha hb I h fun v u s2 x y H2 I2 rx ry q=>?_
 obtain⟨i,j,rfl,rfl,q⟩:=q;obtain⟨t,rfl⟩:=rx;obtain⟨t',rfl⟩:=ry;exact rule i j t t' _ s2 ⟨.bl _,H2,I2,rfl,q⟩
theorem DL(ha:PE X a ta)(hb:PE X b tb):PC X .Eq a b (Gx ta tb):=DN ha hb fun _ _ _ _ _ _ h=>eq_int (by rw[Bool.beq_eq_decide_eq];exact h)
def tB(t:TE):TT:=fun σ H Q=>t σ H fun x H1=>∃c,x=.bl c/\Q c H1
theorem DX{op:CmpOp}{t:TE}(h:PC X op a b t)(h1:behindInMarks op b=false:=by first|exact lZ _ (by decide) (by decide)|rfl):PT X (.Compare a [op] [b] pos) (tB t):=by intro pins s σ H Q I hw;refine SV (GU (h pins s σ H _ I hw) fun v s1 h1=>GU h1 fun u s2 h2=>GU h2 fun c s3 ⟨x,H1,I1,r1,q1⟩=>?_) h1;obtain⟨d,rfl,q⟩:=q1;cases r1;exact O4 ⟨H1,I1,q⟩
theorem kK{e:Expr}{t:TE}(h:PE X e t)(he:∀whole,isTrue e X.env whole=(do let v←whole;standAt e.pos;holding [v] (truthy v)):=by intro _;rfl):PT X e (tB t):=by intro pins s σ H Q I hw;refine isTrue_plain (GU (h pins s σ H _ I hw) fun v s1 ⟨x,H1,I1,r1,q1⟩=>?_) (he _);obtain⟨d,rfl,q⟩:=q1;cases r1;exact O4 ⟨H1,I1,q⟩
variable{tA QC:TT}{rest:yai}
def Ea(t u:TT):TT:=fun σ H Q=>t σ H fun c H1=>if c=true then u σ H1 Q else Q false H1
def tOr(t u:TT):TT:=fun σ H Q=>t σ H fun c H1=>if c=true then Q true H1 else u σ H1 Q
def zf(t:TT):TT:=fun σ H Q=>t σ H fun c H1=>Q (!c) H1
theorem oK(ha:PT X a tA):PW X (.BoolOp .And [a] pos) tA:=by
 intro wh pins s σ H Q I h;refine isTrue_and (GU (ha pins s σ H Q I h) fun c s1 e=>?_);cases c with
 |true=>exact isTrue_and_nil e
 |false=>exact e
theorem DY(ha:PT X a tA):PW X (.BoolOp .Or [a] pos) tA:=by
 intro wh pins s σ H Q I h;refine isTrue_or (GU (ha pins s σ H Q I h) fun c s1 e=>?_);cases c with
 |false=>exact isTrue_or_nil e
 |true=>exact e
theorem rP(ha:PT X a tA)(hb:PW X (.BoolOp .And (b::rest) pos) QC):PW X (.BoolOp .And (a::b::rest) pos) (Ea tA QC):=by
 intro wh pins s σ H Q I h;refine isTrue_and (GU (ha pins s σ H _ I h) fun c s1 ⟨H1,I1,q1⟩=>?_);cases c with
 |true=>exact hb wh pins s1 σ H1 Q I1 q1
 |false=>exact⟨H1,I1,q1⟩
theorem Fo(ha:PT X a tA)(hb:PW X (.BoolOp .Or (b::rest) pos) QC):PW X (.BoolOp .Or (a::b::rest) pos) (tOr tA QC):=by
 intro wh pins s σ H Q I h;refine isTrue_or (GU (ha pins s σ H _ I h) fun c s1 ⟨H1,I1,q1⟩=>?_);cases c with
 |true=>exact⟨H1,I1,q1⟩
 |false=>exact hb wh pins s1 σ H1 Q I1 q1
theorem kJ(ha:PT X a tA):PT X (.UnaryOp .Not a pos) (zf tA):=by intro pins s σ H Q I h;exact isTrue_not (ha pins s σ H (fun c H1=>Q (!c) H1) I h)
def Fu(ta tb:TE):TE:=fun σ H Q=>ta σ H fun x H1=>∃c,x=.bl c/\if c=true then tb σ H1 Q else Q (.bl false) H1
theorem DU{op}{t:TE}(h:PE X a t):PE X (.BoolOp op [a] pos) t:=fun pins s σ H Q I hw=>BoolOp_one (h pins s σ H Q I hw)
theorem DQ(ha:PE X a ta)(hb:PE X (.BoolOp .And (b::rest) pos) tb):PE X (.BoolOp .And (a::b::rest) pos) (Fu ta tb):=by
 intro pins s σ H Q I h;refine BoolOp_and (GU (ha pins s σ H _ I h) fun v s1 ⟨x,H1,I1,r1,q1⟩=>?_);obtain⟨c,rfl,q1⟩:=q1;cases r1;refine O4 ?_;cases c with
 |true=>exact hb pins s1 σ H1 Q I1 q1
 |false=>exact⟨.bl false,H1,I1,rfl,q1⟩
end
def SqL(K:yac)(H:Hp)(a:Addr)(xs:yar):Prop :=
 Rd H a (.lst xs) ∨
  ∃ (o:Obj) (its:yao) (n:Nat),K.lookup a=some o/\o.cls=.type "list" /\ o.dict=none/\o.data=.seq its n/\its.size<=sizeLine/\Vals xs its.toList
def JP(K:yac)(H:Hp)(a:Addr)(xs:yar):Prop :=
 Rd H a (.tup xs) ∨
  ∃ (o:Obj) (its:yao) (n:Nat),K.lookup a=some o/\o.cls=.type "tuple" /\ o.data=.seq its n/\its.size<=sizeLine/\Vals xs its.toList
def FH:Value->Option V
 |.none=>some .HZ
 |.bool b=>some (.bl b)
 |.int i _=>some (.int i)
 |.str x _=>some (.str x)
 |.bytes b _=>some (.O9 b)
 |.float b _=>some (.Sx b)
 |.ref a=>some (.ref a)
 |.type n=>some (.ty n)
 |_=>none
theorem RelV.abs{x:V}{u:Value}(r:RelV x u):FH u=some x:=by
 cases x with
 |HZ=>cases r;rfl
 |bl _=>cases r;rfl
 |int _=>obtain⟨t,rfl⟩:=r;rfl
 |str _=>obtain⟨t,rfl⟩:=r;rfl
 |O9 _=>obtain⟨t,rfl⟩:=r;rfl
 |Sx _=>obtain⟨t,rfl⟩:=r;rfl
 |ref _=>cases r;rfl
 |ty _=>cases r;rfl
theorem RelV.inj{x y:V}{u:Value}(r:RelV x u)(q:RelV y u):x=y:=Oh (r.abs.symm.trans q.abs)
theorem Vals.inj:∀{xs ys:yar} {us:yad},Vals xs us->Vals ys us->xs=ys
 |_,_,_,.nil,.nil=>rfl
 |_,_,_,.cons r t,.cons r' t'=>by rw[r.inj r',Vals.inj t t']
section
variable{X:Cx}{pins:yab}{σ:St}{H:Hp}{s:Shared}{a:Addr}{xs ys:yar}
theorem SqL.of{K:yac}(h:H a=some (.lst xs)):SqL K H a xs:=.inl (.inl h)
theorem JP.of{K:yac}(h:H a=some (.tup xs)):JP K H a xs:=.inl (.inl h)
theorem Inv.list(I:Inv X pins σ H s)(h:SqL X.K H a xs):∃its:yad,Vals xs its/\PlainL s.heap a its.toArray/\xs.length<=sizeLine:=by
 rcases h with h|⟨o,its,n,hk,hc,hd,hs,hz,r⟩
 ·obtain⟨z,its,n,r,e⟩:=h.ok I.IZ;exact⟨its,r,⟨_,n,e,rfl,rfl,rfl⟩,z⟩
 ·refine⟨its.toList,r,⟨o,n,I.Ll a o hk,hc,hd,by simpa using hs⟩,?_⟩;have e:=r.length;simp only[Array.length_toList]at e;omega
theorem Inv.tuple(I:Inv X pins σ H s)(h:JP X.K H a xs):∃its:yad,Vals xs its/\IsTup s.heap a its.toArray/\xs.length<=sizeLine:=by
 rcases h with h|⟨o,its,n,hk,hc,hs,hz,r⟩
 ·obtain⟨z,its,r,p⟩:=h.ok I.IZ;exact⟨its,r,p,z⟩
 ·refine⟨its.toList,r,⟨o,I.Ll a o hk,hc,n,by simpa using hs⟩,?_⟩;have e:=r.length;simp only[Array.length_toList]at e;omega
theorem Inv.NX(I:Inv X pins σ H s)(h:SqL X.K H a xs)(h':SqL X.K H a ys):xs=ys:=by
 obtain⟨its,r,⟨o,n,e,_,_,d⟩,_⟩:=I.list h;obtain⟨its',r',⟨o',n',e',_,_,d'⟩,_⟩:=I.list h';rw[e]at e';cases e';rw[d]at d';injection d' with d1 _;have:its=its':=by simpa using congrArg Array.toList d1
 subst this;exact r.inj r'
theorem Inv.Nm(I:Inv X pins σ H s)(h:JP X.K H a xs)(h':JP X.K H a ys):xs=ys:=by
 obtain⟨its,r,⟨o,e,_,n,d⟩,_⟩:=I.tuple h;obtain⟨its',r',⟨o',e',_,n',d'⟩,_⟩:=I.tuple h';rw[e]at e';cases e';rw[d]at d';injection d' with d1 _;have:its=its':=by simpa using congrArg Array.toList d1
 subst this;exact r.inj r'
end
abbrev Cx.wish(X:Cx)(E:yaa):Cx:={X with xe:=E}
abbrev Cx.L4(X:Cx):Cx:=X.wish fun _ _=>False
theorem Cx.Ok.wish{X:Cx}(ok:X.Ok)(E:yaa):(X.wish E).Ok :=
 ⟨ok.mod,ok.kind,ok.glob,ok.blt,ok.above,ok.inj,ok.has,ok.OM,ok.hd,ok.frames,ok.RC,ok.Tc,ok.bs,ok.Pc,ok.Nx,ok.Oi,ok.Lo,ok.Pp⟩
theorem Cx.Ok.Jr{X:Cx}{E:yaa}(ok:(X.wish E).Ok):X.Ok :=
 ⟨ok.mod,ok.kind,ok.glob,ok.blt,ok.above,ok.inj,ok.has,ok.OM,ok.hd,ok.frames,ok.RC,ok.Tc,ok.bs,ok.Pc,ok.Nx,ok.Oi,ok.Lo,ok.Pp⟩
section
variable{X:Cx}{pins:yab}{σ:St}{H:Hp}{s:Shared}{E:yaa}
theorem Inv.wish(I:Inv X pins σ H s)(E:yaa):Inv (X.wish E) pins σ H s:=⟨I.ok.wish E,I.os,I.bare,I.base,I.loc,I.cell,I.free,I.JK,I.pin,I.IZ,I.len⟩
theorem Inv.Jr(I:Inv (X.wish E) pins σ H s):Inv X pins σ H s:=⟨I.ok.Jr,I.os,I.bare,I.base,I.loc,I.cell,I.free,I.JK,I.pin,I.IZ,I.len⟩
end
section
variable{X:Cx}{st:Stmt}{rest:yal}{t u:TS}{e:Expr}{te:TE}{pos:Pos}
def Fx:TS:=fun D σ H=>D.nx σ H
def Ec(t u:TS):TS:=fun D σ H=>t {D with nx:=u D} σ H
theorem fy:Qh X [] Fx:=fun _ _ σ H _ I h=>Qb ⟨σ,H,I,h⟩
theorem aR(h1:PS X st t)(h2:Qh X rest u):Qh X (st::rest) (Ec t u):=by
 intro pins s σ H D I h;refine Rw (GU (h1 pins s σ H {D with nx:=u D} I h) fun f s1 q=>?_);cases f with
 |next =>
  obtain⟨σ',H',I',q⟩:=q;exact h2 pins s1 σ' H' D I' q
 |ret v=>exact q
 |brk=>exact q
 |cont=>exact q
theorem bC(h1:PS X st t):Qh X [st] t:=by
 intro pins s σ H D I h;refine Rw (GU (h1 pins s σ H D I h) fun f s1 q=>?_);cases f with
 |next=>exact Qb q
 |ret v=>exact q
 |brk=>exact q
 |cont=>exact q
theorem Inv.quiet{pins:yab}{σ:St}{H:Hp}{s:Shared}(I:Inv X pins σ H s):interactive X.env=false:=by simp[interactive,I.ok.kind]
def Fv(te:TE):TS:=fun D σ H=>te σ H fun _ H1=>D.nx σ H1
theorem oJ(he:PE X e te)(hs:swapsWith e none pos.line X.env=pure false:=by rfl):PS X (.Expr e pos) (Fv te):=by intro pins s σ H D I h;exact wpAny_Expr_any (GU (he pins s σ H _ I h) fun v s1 ⟨x,H1,I1,r1,q1⟩=>⟨σ,H1,I1,q1⟩) I.quiet hs
def zg(te:TE):TS:=fun D σ H=>te σ H D.rt
theorem ia(he:PE X e te):PS X (.Return (some e) pos) (zg te):=by intro pins s σ H D I h;exact wpAny_Return_some (GU (he pins s σ H _ I h) fun v s1 ⟨x,H1,I1,r1,q1⟩=>⟨x,σ,H1,I1,r1,q1⟩)
def ze(c:TT)(t u:TS):TS:=fun D σ H=>c σ H fun b H1=>if b=true then t D σ H1 else u D σ H1
theorem gu{c:Expr}{a b:yal}{tc:TT}(hc:PT X c tc)(ha:Qh X a t)(hb:Qh X b u):PS X (.If c a b pos) (ze tc t u):=by
 intro pins s σ H D I h;refine wpAny_If (GU (hc pins s σ H _ I h) fun d s1 ⟨H1,I1,q1⟩=>?_);cases d with
 |true=>exact ha pins s1 σ H1 D I1 q1
 |false=>exact hb pins s1 σ H1 D I1 q1
def xN:TS:=fun _ _ _=>False
theorem yT:PS X st xN:=fun _ _ _ _ _ _ h=>h.elim
theorem pQ{U9:yal}:Qh X U9 xN:=fun _ _ _ _ _ _ h=>h.elim
end
abbrev TG:=V->St->Hp->(St->Hp->Prop)->Prop
def PG(X:Cx)(target:Expr)(t:TG):Prop :=
 ∀ (pins:yab) (s:Shared) (σ:St) (H:Hp) (v:V) (u:Value) (Q:St->Hp->Prop),Inv X pins σ H s->RelV v u->t v σ H Q →
  wpAny (model X.prog X.w) X.A (assign target X.env u) (fun _ s'=>∃σ' H',Inv X pins σ' H' s'/\Q σ' H') X.xe s
abbrev ya:=V->V->V->Hp->(Hp->Prop)->Prop
def Bz(X:Cx)(t:ya):Prop :=
 ∀ (pins:yab) (s:Shared) (σ:St) (H:Hp) (o i v:V) (ov iv u:Value) (Q:Hp->Prop),Inv X pins σ H s->RelV o ov->RelV i iv->RelV v u->t o i v H Q →
  wpAny (model X.prog X.w) X.A (setItem ov iv u) (fun _ s'=>∃H',Inv X pins σ H' s'/\Q H') X.xe s
section
variable{X:Cx}{pos:Pos}
def qv(i:Nat):TG:=fun v σ H Q=>Q (σ.set i (some v)) H
theorem A4{i:Nat}{x:Str}(hN:X.N.Nodup)(hi:X.N[i]?=some x)(hx:Loc X.env.scope x)(hf:X.fn x=true∨X.env.scope.names.lookup x=some .local:=by first|exact .inl rfl|exact .inr rfl|assumption):PG X (.Name x pos) (qv i):=by intro pins s σ H v u Q I r h;exact wpAny_assign_Name (c7 I hN hi hx r (fun s' I'=>⟨_,H,I',h⟩) hf)
def FY(to ti:TE)(t:ya):TG:=fun v σ H Q=>to σ H fun o H1=>ti σ H1 fun i H2=>t o i v H2 fun H3=>Q σ H3
theorem rN{o i:Expr}{to ti:TE}{t:ya}(ho:PE X o to)(hi:PE X i ti)(hs:Bz X t)
  (ha:∀v,assign (.Subscript o i pos) X.env v=(do
   let ov←holding [v] (eval o X.env)
   let iv←holding [v,ov] (eval i X.env)
   standAt pos
   holding [v,ov,iv] (setItem ov iv v)
   release [v,ov,iv] []):=by intro _;rfl):PG X (.Subscript o i pos) (FY to ti t):=by
 intro pins s σ H v u Q I r h;rw[ha];refine G0 (NR (GU (ho pins s σ H _ I h) fun ov s1 ⟨x,H1,I1,r1,q1⟩=>?_));refine G0 (NR (GU (hi pins s1 σ H1 _ I1 q1) fun iv s2 ⟨y,H2,I2,r2,q2⟩=>?_));refine G0 (Ry (G0 (NR (GU (hs pins s2 σ H2 x y v ov iv u _ I2 r1 r2 r q2) fun _ s3 ⟨H3,I3,q3⟩=>?_))));exact wpAny_release ⟨σ,H3,I3,q3⟩
def zd(te:TE)(g:TG):TS:=fun D σ H=>te σ H fun x H1=>g x σ H1 D.nx
theorem rO{tg e:Expr}{te:TE}{g:TG}(he:PE X e te)(hg:PG X tg g)(hs:swapsWithSole [tg] e pos.line X.env=pure false:=by rfl)(hw:swappedStores [tg] e X.env=pure none:=by rfl)
  (h1:(assignEach [tg] X.env).map (·.2)=[assign tg X.env]:=by rfl):PS X (.Assign [tg] e pos) (zd te g):=by
 intro pins s σ H D I h;refine wpAny_Assign_stores (GU (he pins s σ H _ I h) fun v s1 ⟨x,H1,I1,r1,q1⟩=>?_) hs hw;rw[h1];exact GU (hg pins s1 σ H1 x v _ I1 r1 q1) fun _ s2 q=>q
theorem dW{i:Nat}{x:Str}{e:Expr}{te:TE}{pos':Pos}(hN:X.N.Nodup)(hi:X.N[i]?=some x)(hx:Loc X.env.scope x)(he:PE X e te)(hs:swapsWith e (some (.Name x pos')) pos.line X.env=pure false:=by rfl)(hf:X.fn x=true∨X.env.scope.names.lookup x=some .local:=by first|exact .inl rfl|exact .inr rfl|assumption) :
  PS X (.Assign [.Name x pos'] e pos) (zd te (qv i)):=by
 intro pins s σ H D I h;refine S5 (GU (he pins s σ H _ I h) fun v s1 ⟨y,H1,I1,r1,q1⟩=>?_) hs;exact c7 I1 hN hi hx r1 (fun s2 I2=>⟨_,H1,I2,q1⟩) hf
end
structure It where
 go:Nat->Hp->Prop
 Va:Nat->Hp->V->Hp->Prop
 stop:Nat->Hp->Prop
def cP(X:Cx)(pins:yab)(H:Hp)(b:Addr):Prop :=
 H b=none/\b≠X.env.locals/\b∉X.fs/\(b∈X.ex∨X.IA.heap.objs.size<=b)/\(∀x c,X.env.cells.lookup x=some c->c≠b)/\∀p∈X.pn++pins,p.1≠b
theorem Inv.QD{X:Cx}{pins:yab}{σ:St}{H H':Hp}{s:Shared}{b:Addr}(I:Inv X pins σ H s)(hb:s.heap.objs.size<=b)(hn:H' b=none):cP X pins H' b:=by
 refine⟨hn,Nat.ne_of_gt (LZ I.lt hb),I.Td hb,.inr (MH I.sz hb),fun x c e z=>?_,fun p hp z=>?_⟩
 ·obtain⟨v,q⟩:=I.cell x c e;exact absurd (LZ q.lt (by rw[z];exact hb)) (O8 _)
 ·exact absurd (LZ (J9 (I.pin p hp).1) (by rw[z];exact hb)) (O8 _)
structure Turn(P:Program)(w:World)(K:yac)(tg:Expr)(J:It)(fp:yae)(it:Addr)(tn:Nat->Heap->Prop):Prop where
 mem:it∈fp
 obj:∀i h,tn i h->∀b∈fp,∃o,h.get? b=some o/\∀v,o.data ≠ .cell v
 keep:∀i h h',tn i h->(∀b∈fp,∀o,h.get? b=some o->h'.get? b=some o)->tn i h'
 item:∀(X:Cx),X.prog=P->X.w=w->X.K=K->X.calm=true->∀(i:Nat) (pins:yab) (s:Shared) (σ:St) (H:Hp) (E:yaa),Inv X pins σ H s->(∀b∈fp,cP X pins H b)->tn i s.heap->J.go i H →
  wpAny (model P w) X.A (pyNext (.ref it)) (fun r s1=>∃u,r=some u ∧
   wpAny (model P w) X.A (letOwnedTupleGo tg (.ref it) u) (fun _ s2=>∃x H',Inv X pins σ H' s2/\RelV x u/\J.Va i H x H'/\tn (i+1) s2.heap/\∀b∈fp,H' b=none) E s1) E s
 done:∀(X:Cx),X.prog=P->X.w=w->X.K=K->X.calm=true->∀(i:Nat) (pins:yab) (s:Shared) (σ:St) (H:Hp) (E:yaa),Inv X pins σ H s->(∀b∈fp,cP X pins H b)->tn i s.heap->J.stop i H →
  wpAny (model P w) X.A (pyNext (.ref it)) (fun r s1=>r=none/\Inv X pins σ H s1) E s
 self:∀(A:Around) (i:Nat) (s:Shared) (Q:yaa) (E:yaa),tn i s.heap->Q (.ref it) s->wpAny (model P w) A (pyIter (.ref it)) Q E s
abbrev TI:=St->Hp->(It->Hp->Prop)->Prop
def PIE(X:Cx)(pins:yab)(σ:St)(tg:Expr)(R:It->Hp->Prop)(Pt:Value)(s2:Shared):Prop :=
 ∃ (it:Addr) (fp:yae) (tn:Nat->Heap->Prop) (J:It) (H':Hp),Pt=.ref it/\Inv X pins σ H' s2/\Turn X.prog X.w X.K tg J fp it tn/\tn 0 s2.heap/\(∀b∈fp,cP X pins H' b)/\R J H'
def PI(X:Cx)(tg iter:Expr)(wi:TI):Prop :=
 ∀ (pins:yab) (s:Shared) (σ:St) (H:Hp) (R:It->Hp->Prop),Inv X pins σ H s->wi σ H R →
  wpAny (model X.prog X.w) X.A (eval iter X.env) (fun v s1=>wpAny (model X.prog X.w) X.A (pyIter v) (PIE X pins σ tg R) X.xe s1) X.xe s
theorem uW {M : Model} {A : Around} {E : yaa} {s : Shared} {tg : Expr} {it : Addr} {u : Value} {o : Obj} {n : String} {vs : yao} {Q : Unit -> Shared -> Prop} (ho : s.heap.get? it = some o) (hc : o.cls = .type n) (hd : o.data = .fields vs)
    (hn : ["enumerate", "zip", "dict_itemiterator", "dict_reverseitemiterator", "odict_iterator", "itertools.zip_longest", "itertools.pairwise"].contains n = false) (hQ : Q () s) : wpAny M A (letOwnedTupleGo tg (.ref it) u) Q E s := by
  unfold letOwnedTupleGo;cases tg <;> first
    | exact JR hQ
    | (cases u <;> first
        | exact JR hQ
        | (refine G0 (wpAny_load ho ?_)
           rw [hc, hd];show wpAny M A (if (["enumerate", "zip", "dict_itemiterator", "dict_reverseitemiterator", "odict_iterator", "itertools.zip_longest", "itertools.pairwise"].contains n && vs[0]? == some (rawInt _)) = true then _ else _) Q E s;rw [GS (by intro h; rw [hn, S8] at h; cases h)];exact JR hQ))
def Tg(K:yac)(a:Addr):It :=
 ⟨fun i H=>∃xs x,SqL K H a xs/\xs[i]?=some x,fun i H x H'=>H'=H/\∀xs,SqL K H a xs->xs[i]?=some x,fun i H=>∃xs,SqL K H a xs/\xs.length<=i⟩
def Itt(K:yac)(a:Addr):It :=
 ⟨fun i H=>∃xs x,JP K H a xs/\xs[i]?=some x,fun i H x H'=>H'=H/\∀xs,JP K H a xs->xs[i]?=some x,fun i H=>∃xs,JP K H a xs/\xs.length<=i⟩
theorem xO{P:Program}{w:World}{K:yac}{tg:Expr}(a it:Addr):Turn P w K tg (Tg K a) [it] it (fun i h=>h.IsListIter it a i) where
 mem:=by simp
 obj:=fun i h st b hb=>by
  have e:b=it:=by simpa using hb
  subst e;obtain⟨o,e,c,d⟩:=st;exact⟨o,e,fun v z=>by rw[d]at z;cases z⟩
 keep:=fun i h h' st k=>st.at fun o e=>k it (by simp) o e
 item:=by
  intro X hP hw hK hc i pins s σ H E I hf st hg;subst hP hw hK;obtain⟨xs,x,hq,hx⟩:=hg;obtain⟨its,rv,p,hz⟩:=I.list hq;obtain⟨u,hu,ru⟩:=rv.get hx;obtain⟨f0,f1,f2,f3,f4,f5⟩:=hf it (by simp);refine wpAny_pyNext_list_item st p.isList (x:=u) (by simpa using hu) fun h' st' sb=>?_
  have I1:Inv X pins σ H {s with heap:=h'}:=I.turned (t':=s.toks) (fun b o hb e=>(sb.2 b hb).trans e) f0 f1 f3 f4 f5;obtain⟨o,e,c,d⟩:=id st';exact⟨u,rfl,uW (s:={s with heap:=h'}) e c d (by decide) ⟨x,H,I1,ru,⟨rfl,fun ys hy=>by rw[I.NX hy hq];exact hx⟩,st',fun b hb=>(hf b hb).1⟩⟩
 done:=by intro X hP hw hK hc i pins s σ H E I hf st hg;subst hP hw hK;obtain⟨xs,hq,hx⟩:=hg;obtain⟨its,rv,p,hz⟩:=I.list hq;obtain⟨f0,f1,f2,f3,f4,f5⟩:=hf it (by simp);have hl:=rv.length;exact wpAny_pyNext_list_end (I.ok.hd hc) st p.isList (by simp;omega) fun h' eb=>⟨rfl,I.turned (t':=s.toks) (fun b o hb e=>eb b o hb e) f0 f1 f3 f4 f5⟩
 self:=fun _ _ _ _ _ st h=>wpAny_pyIter_listiter st h
theorem vK{P:Program}{w:World}{K:yac}{tg:Expr}(a it:Addr):Turn P w K tg (Itt K a) [it] it (fun i h=>h.IsTupleIter it a i) where
 mem:=by simp
 obj:=fun i h st b hb=>by
  have e:b=it:=by simpa using hb
  subst e;obtain⟨o,e,c,d⟩:=st;exact⟨o,e,fun v z=>by rw[d]at z;cases z⟩
 keep:=fun i h h' st k=>st.at fun o e=>k it (by simp) o e
 item:=by
  intro X hP hw hK hc i pins s σ H E I hf st hg;subst hP hw hK;obtain⟨xs,x,hq,hx⟩:=hg;obtain⟨its,rv,p,hz⟩:=I.tuple hq;obtain⟨u,hu,ru⟩:=rv.get hx;obtain⟨f0,f1,f2,f3,f4,f5⟩:=hf it (by simp);refine wpAny_pyNext_tuple_item st (show s.heap.IsTuple a its.toArray from p) (x:=u) (by simpa using hu) fun h' st' sb=>?_
  have I1:Inv X pins σ H {s with heap:=h'}:=I.turned (t':=s.toks) (fun b o hb e=>(sb.2 b hb).trans e) f0 f1 f3 f4 f5;obtain⟨o,e,c,d⟩:=id st';exact⟨u,rfl,uW (s:={s with heap:=h'}) e c d (by decide) ⟨x,H,I1,ru,⟨rfl,fun ys hy=>by rw[I.Nm hy hq];exact hx⟩,st',fun b hb=>(hf b hb).1⟩⟩
 done:=by intro X hP hw hK hc i pins s σ H E I hf st hg;subst hP hw hK;obtain⟨xs,hq,hx⟩:=hg;obtain⟨its,rv,p,hz⟩:=I.tuple hq;obtain⟨f0,f1,f2,f3,f4,f5⟩:=hf it (by simp);have hl:=rv.length;exact wpAny_pyNext_tuple_end (I.ok.hd hc) st (show s.heap.IsTuple a its.toArray from p) (by simp;omega) fun h' eb=>⟨rfl,I.turned (t':=s.toks) (fun b o hb e=>eb b o hb e) f0 f1 f3 f4 f5⟩
 self:=fun _ _ _ _ _ st h=>wpAny_pyIter_tupleiter st h
section
variable{X:Cx}{tg:Expr}
def EX(K:yac)(tl:TE):TI:=fun σ H R=>tl σ H fun x H1=>∃a,x=.ref a/\(∃xs,SqL K H1 a xs)/\R (Tg K a) H1
def F8(K:yac)(tl:TE):TI:=fun σ H R=>tl σ H fun x H1=>∃a,x=.ref a/\(∃xs,JP K H1 a xs)/\R (Itt K a) H1
theorem ur{l:Expr}{tl:TE}(hl:PE X l tl):PI X tg l (EX X.K tl):=by
 intro pins s σ H R I h;refine GU (hl pins s σ H _ I h) fun v s1 ⟨x,H1,I1,r1,q1⟩=>?_
 obtain⟨a,e,⟨xs,hq⟩,q⟩:=q1;subst e;cases r1;obtain⟨its,rv,p,hz⟩:=I1.list hq;refine wpAny_pyIter_list p.isList ?_;refine⟨s1.heap.objs.size,[s1.heap.objs.size],_,_,H1,rfl,I1.kept (t':=s1.toks) fun b o e=>KU _ e,xO a _,⟨_,Mv _ rfl,rfl,rfl⟩,fun b hb=>?_,q⟩;have e:b=s1.heap.objs.size:=by simpa using hb
 subst e;exact I1.QD (Ka _) (I1.IZ.fresh (Ka _))
theorem DV{l:Expr}{tl:TE}(hl:PE X l tl):PI X tg l (F8 X.K tl):=by
 intro pins s σ H R I h;refine GU (hl pins s σ H _ I h) fun v s1 ⟨x,H1,I1,r1,q1⟩=>?_
 obtain⟨a,e,⟨xs,hq⟩,q⟩:=q1;subst e;cases r1;obtain⟨its,rv,p,hz⟩:=I1.tuple hq;refine wpAny_pyIter_tuple (show s1.heap.IsTuple a its.toArray from p) ?_;refine⟨s1.heap.objs.size,[s1.heap.objs.size],_,_,H1,rfl,I1.kept (t':=s1.toks) fun b o e=>KU _ e,vK a _,⟨_,Mv _ rfl,rfl,rfl⟩,fun b hb=>?_,q⟩;have e:b=s1.heap.objs.size:=by simpa using hb
 subst e;exact I1.QD (Ka _) (I1.IZ.fresh (Ka _))
def Gz(wi:TI)(g:TG)(tb:TS):TS:=fun D σ H=>wi σ H fun J H1=>∃W:Nat->Nat->St->Hp->Prop,(∃m,W 0 m σ H1)/\∀i m σ H,W i m σ H →
 (J.stop i H/\D.nx σ H)∨(J.go i H/\∃N:St->Hp->Prop,(∀σ' H',N σ' H'->∃m',m'<m/\W (i+1) m' σ' H')/\∀x H',J.Va i H x H'->g x σ H' fun OP H2=>tb {D with nx:=N,ct:=N,bk:=D.nx} OP H2)
def kH(fp:yae)(h:Heap):yab:=fp.filterMap fun b=>(h.get? b).map fun o=>(b,o)
theorem di{fp:yae}{h:Heap}{b:Addr}{o:Obj}(hb:b∈fp)(e:h.get? b=some o):(b,o)∈kH fp h:=U5.mpr ⟨b,hb,by rw[e];rfl⟩
theorem xc{fp:yae}{h:Heap}{p:Addr×Obj}(hp:p∈kH fp h):p.1∈fp/\h.get? p.1=some p.2:=by
 obtain⟨b,hb,e⟩:=U5.mp hp;cases q:h.get? b with
 |none=>rw[q]at e;cases e
 |some o =>
  rw[q]at e;have e':(b,o)=p:=Oh e;subst e';exact⟨hb,q⟩
theorem Inv.pinned{pins:yab}{σ:St}{H:Hp}{s:Shared}{fp:yae}(I:Inv X pins σ H s)(hf:∀b∈fp,cP X pins H b)(ho:∀b∈fp,∃o,s.heap.get? b=some o/\∀v,o.data ≠ .cell v):Inv X (pins++kH fp s.heap) σ H s :=
 I.OO fun p hp=>(Qx.mp hp).elim (fun z=>I.pin p (Oe _ z)) fun z=>by obtain⟨hb,e⟩:=xc z;obtain⟨f0,f1,f2,_⟩:=hf p.1 hb;obtain⟨o,e',d⟩:=ho p.1 hb;rw[e]at e';cases e';exact⟨e,f0,f1,f2,d⟩
theorem Inv.J0{pins pl:yab}{σ:St}{H:Hp}{s:Shared}(I:Inv X (pins++pl) σ H s):Inv X pins σ H s:=I.OO fun p hp=>I.pin p (Oe _ (U0 _ hp))
theorem DW{iter:Expr}{body:yal}{wi:TI}{g:TG}{tb:TS}{pos:Pos}(hp:PassesOwn (model X.prog X.w) X.A X.env X.xe)(hc:X.calm=true)(hi:PI X tg iter wi)(hg:PG X tg g)(hb:Qh X body tb)
  (hs:∀x,foldedSetIterable iter X.env x=pure x:=by intro _;rfl):PS X (.For tg iter body [] pos) (Gz wi g tb):=by
 intro pins s σ H D I h;refine wpAny_For (GU (hi pins s σ H _ I h) fun v s1 h1=>GU h1 fun Pt s2 h2=>?_) hs;obtain⟨it,fp,tn,J,H2,e,I2,T,OZ,f2,W,⟨m0,w0⟩,turn⟩:=h2;subst e;have Oj:∀{H':Hp},(∀b∈fp,H' b=none)->∀b∈fp,cP X pins H' b:=fun hn b hb=>⟨hn b hb,(f2 b hb).2⟩
 refine codeAny_forLoop_any (fun n s'=>∃i σ' H',Inv X pins σ' H' s'/\tn i s'.heap/\(∀b∈fp,H' b=none)/\W i n σ' H') ?_ m0 ⟨0,σ,H2,I2,OZ,fun b hb=>(f2 b hb).1,w0⟩;rintro n s3 ⟨i,O0,H3,I3,Pe,Q6,w3⟩;rcases turn i n O0 H3 w3 with⟨stop,qn⟩| ⟨go,N,hN,step⟩
 ·refine Qc hp (GU (T.done X rfl rfl rfl hc i pins s3 O0 H3 X.xe I3 (Oj Q6) Pe stop) fun r s4 ⟨hr,I4⟩=>?_);subst hr;exact Qb ⟨O0,H3,I4,qn⟩
 ·refine Qc hp (GU (T.item X rfl rfl rfl hc i pins s3 O0 H3 X.xe I3 (Oj Q6) Pe go) fun r s4 ⟨u,hr,h4⟩=>?_);subst hr;refine Qc hp (GU h4 fun _ s5 ⟨x,H5,I5,r5,y5,Ol,Th⟩=>?_);have Ti:=I5.pinned (Oj Th) (T.obj _ _ Ol);refine Qc hp (GU (hg _ s5 O0 H5 x u _ Ti r5 (step x H5 y5)) fun _ s6 ⟨RD,H6,I6,q6⟩=>?_);refine Qc hp (GU (hb _ s6 RD H6 _ I6 q6) fun f s7 q7=>?_);have again:∀{Nz:St} {H7:Hp},Inv X (pins++kH fp s5.heap) Nz H7 s7->N Nz H7->∃m,m<n/\∃i σ' H',Inv X pins σ' H' s7/\tn i s7.heap/\(∀b∈fp,H' b=none)/\W i m σ' H':=fun {Nz H7} I7 n7=>by
   obtain⟨m',hm,w7⟩:=hN Nz H7 n7;refine⟨m',hm,i+1,Nz,H7,I7.J0,T.keep _ _ _ Ol fun b hb o e=>(I7.pin (b,o) (Oe _ (Oe _ (di hb e)))).1,fun b hb=>?_,w7⟩;obtain⟨o,e,d⟩:=T.obj _ _ Ol b hb;exact(I7.pin (b,o) (Oe _ (Oe _ (di hb e)))).2.1
  cases f with
  |next=>obtain⟨Nz,H7,I7,n7⟩:=q7;exact again I7 n7
  |cont=>obtain⟨Nz,H7,I7,n7⟩:=q7;exact again I7 n7
  |brk=>obtain⟨Nz,H7,I7,q7⟩:=q7;exact⟨Nz,H7,I7.J0,q7⟩
  |ret v=>obtain⟨x7,Nz,H7,I7,r7,q7⟩:=q7;exact⟨x7,Nz,H7,I7.J0,r7,q7⟩
end
theorem yz{K:yac}{a:Addr}{xs:yar}{g:TG}{tb:TS}{D:Ends}{σ:St}{H:Hp}(Pv:Nat->St->Hp->Prop)(h0:Pv 0 σ H)(hl:∀i σ H,i<=xs.length->Pv i σ H->SqL K H a xs)
  (hs:∀i x σ H,xs[i]?=some x->Pv i σ H->g x σ H fun OP H2=>tb {D with nx:=Pv (i+1),ct:=Pv (i+1),bk:=D.nx} OP H2) (hd:∀σ H,Pv xs.length σ H->D.nx σ H) :
  ∃ W:Nat->Nat->St->Hp->Prop,(∃m,W 0 m σ H)/\∀i m σ H,W i m σ H →
   ((Tg K a).stop i H/\D.nx σ H)∨((Tg K a).go i H/\∃N:St->Hp->Prop,(∀σ' H',N σ' H'->∃m',m'<m/\W (i+1) m' σ' H')/\∀x H',(Tg K a).Va i H x H'->g x σ H' fun OP H2=>tb {D with nx:=N,ct:=N,bk:=D.nx} OP H2):=by
 refine⟨fun i m σ H=>m=xs.length - i/\i<=xs.length/\Pv i σ H,⟨xs.length,by simp,M9 _,h0⟩,?_⟩;rintro i m σ H ⟨rfl,hi,p⟩;have q:=hl i σ H hi p;by_cases Mx:i<xs.length
 ·refine .inr ⟨⟨xs,xs[i],q,by simp[Mx]⟩,Pv (i+1),fun σ' H' p'=>⟨xs.length - (i+1),by omega,rfl,Mx,p'⟩,fun x H' y=>?_⟩;obtain⟨e,y⟩:=y;subst e;exact hs i x σ _ (y xs q) p
 ·have e:i=xs.length:=by omega
  subst e;exact .inl ⟨⟨xs,q,Ka _⟩,hd σ H p⟩
abbrev R2:=V->V->Hp->VK->Prop
def MA(X:Cx)(f:Value->Value->Sem Value)(r:R2):Prop :=
 ∀ (pins:yab) (s:Shared) (σ:St) (H:Hp) (x y:V) (v u:Value) (Q:VK),Inv X pins σ H s->RelV x v->RelV y u->r x y H Q →
  wpAny (model X.prog X.w) X.A (f v u) (EP X pins σ Q) X.xe s
def Vb(X:Cx)(f:Value->Sem Value)(r:V->Hp->VK->Prop):Prop :=
 ∀ (pins:yab) (s:Shared) (σ:St) (H:Hp) (x:V) (v:Value) (Q:VK),Inv X pins σ H s->RelV x v->r x H Q →
  wpAny (model X.prog X.w) X.A (f v) (EP X pins σ Q) X.xe s
def k6(X:Cx)(f:Value)(r:yar->Hp->VK->Prop):Prop :=
 ∀ (pins:yab) (s:Shared) (σ:St) (H:Hp) (xs:yar) (us:yad) (Q:VK),Inv X pins σ H s->Vals xs us->r xs H Q →
  wpAny (model X.prog X.w) X.A (call f us) (EP X pins σ Q) X.xe s
def V0(r:R2)(ta tb:TE):TE:=fun σ H Q=>ta σ H fun x H1=>tb σ H1 fun y H2=>r x y H2 Q
def tUn(r:V->Hp->VK->Prop)(ta:TE):TE:=fun σ H Q=>ta σ H fun x H1=>r x H1 Q
def rI(C:Int->Int->Prop)(g:Int->Int->V):R2:=fun x y H Q=>∃i j,x=.int i/\y=.int j/\C i j/\Q (g i j) H
def Qi(g:Int->Int->V):R2:=fun x y H Q=>∃i j,x=.int i/\y=.int j/\Q (g i j) H
def rU(g:Int->V):V->Hp->VK->Prop:=fun x H Q=>∃i,x=.int i/\Q (g i) H
section
variable{X:Cx}{a b c:Expr}{ta tb tc:TE}{pos:Pos}
theorem BG(ha:PE X a ta)(hb:PE X b tb){pins:yab}{s:Shared}{σ:St}{H:Hp}{R:V->V->Hp->Prop}(I:Inv X pins σ H s)
  (h:ta σ H fun x H1=>tb σ H1 fun y H2=>R x y H2) {Q:yaa} {f:Value->Value->Sem Value}
  (hf:∀v u s2 x y H2,Inv X pins σ H2 s2->RelV x v->RelV y u->R x y H2->wpAny (model X.prog X.w) X.A (f v u) Q X.xe s2) :
  wpAny (model X.prog X.w) X.A (eval a X.env) (fun v Hm=>wpAny (model X.prog X.w) X.A (eval b X.env) (fun u GY=>wpAny (model X.prog X.w) X.A (f v u) Q X.xe GY) X.xe Hm) X.xe s:=by
 refine GU (ha pins s σ H _ I h) fun v s1 ⟨x,H1,I1,r1,q1⟩=>?_
 refine GU (hb pins s1 σ H1 _ I1 q1) fun u s2 ⟨y,H2,I2,r2,q2⟩=>?_
 exact hf v u s2 x y H2 I2 r1 r2 q2
theorem zP{op:Operator}{r:R2}(ho:MA X (binaryOp op) r)(ha:PE X a ta)(hb:PE X b tb):PE X (.BinOp a op b pos) (V0 r ta tb):=by intro pins s σ H Q I h;exact wpAny_BinOp (BG ha hb I h fun v u s2 x y H2 I2 rx ry q=>ho pins s2 σ H2 x y v u Q I2 rx ry q)
theorem vn{op:UnaryOp}{r:V->Hp->VK->Prop}(ho:Vb X (unaryOp op) r)(ha:PE X a ta):PE X (.UnaryOp op a pos) (tUn r ta):=by intro pins s σ H Q I h;exact UnaryOp_ (GU (ha pins s σ H _ I h) fun v s1 ⟨x,H1,I1,r1,q1⟩=>ho pins s1 σ H1 x v Q I1 r1 q1)
theorem Vc{f:Value->Value->Sem Value}{C:Int->Int->Prop}{g:Int->Int->Int}
  (rule:∀(i j:Int) (t u:Tok) (s:Shared) (Q:yaa) (E:yaa),C i j->Q (.int (g i j) s.toks) {s with toks:=s.toks+1}->wpAny (model X.prog X.w) X.A (f (.int i t) (.int j u)) Q E s) :
  MA X f (rI C fun i j=>.int (g i j)):=by
 intro pins s σ H x y v u Q I rx ry h;obtain⟨i,j,rfl,rfl,hc,q⟩:=h;obtain⟨t,rfl⟩:=rx;obtain⟨t',rfl⟩:=ry;exact rule i j t t' s _ _ hc ⟨.int (g i j),H,I.tok _,⟨_,rfl⟩,q⟩
theorem Dy{f:Value->Value->Sem Value}{g:Int->Int->Int}
  (rule:∀(i j:Int) (t u:Tok) (s:Shared) (Q:yaa) (E:yaa),Q (.int (g i j) s.toks) {s with toks:=s.toks+1}->wpAny (model X.prog X.w) X.A (f (.int i t) (.int j u)) Q E s) :
  MA X f (Qi fun i j=>.int (g i j)):=by
 intro pins s σ H x y v u Q I rx ry h;obtain⟨i,j,rfl,rfl,q⟩:=h;obtain⟨t,rfl⟩:=rx;obtain⟨t',rfl⟩:=ry;exact rule i j t t' s _ _ ⟨.int (g i j),H,I.tok _,⟨_,rfl⟩,q⟩
theorem vj{f:Value->Value->Sem Value}{g:Int->Int->Bool}
  (rule:∀(i j:Int) (t u:Tok) (s:Shared) (Q:yaa) (E:yaa),Q (.bool (g i j)) s->wpAny (model X.prog X.w) X.A (f (.int i t) (.int j u)) Q E s) :
  MA X f (Qi fun i j=>.bl (g i j)):=by
 intro pins s σ H x y v u Q I rx ry h;obtain⟨i,j,rfl,rfl,q⟩:=h;obtain⟨t,rfl⟩:=rx;obtain⟨t',rfl⟩:=ry;exact rule i j t t' s _ _ ⟨.bl (g i j),H,I,rfl,q⟩
def xW(i j:Int):Prop:=0<=j/\j<=1000000/\i.natAbs<2 ^ 64
theorem DB:MA X (binaryOp .Add) (Qi fun i j=>.int (i+j)):=Dy fun _ _ _ _ _ _ _ q=>add_int q
theorem DF:MA X (binaryOp .Sub) (Qi fun i j=>.int (i - j)):=Dy fun _ _ _ _ _ _ _ q=>sub_int q
theorem AW:MA X (binaryOp .Mod) (rI (fun _ j=>j≠0) fun i j=>.int (i.fmod j)):=Vc fun _ _ _ _ _ _ _ hc q=>mod_int' hc q
theorem DD:MA X (binaryOp .Pow) (rI xW fun i j=>.int (i ^ j.toNat)):=Vc fun _ _ _ _ _ _ _ hc q=>pow_int_small hc.1 hc.2.1 hc.2.2 q
theorem unI{f:Value->Sem Value}{g:Int->Int}
  (rule:∀(i:Int) (t:Tok) (s:Shared) (Q:yaa) (E:yaa),Q (.int (g i) s.toks) {s with toks:=s.toks+1}->wpAny (model X.prog X.w) X.A (f (.int i t)) Q E s) :
  Vb X f (rU fun i=>.int (g i)):=by
 intro pins s σ H x v Q I rx h;obtain⟨i,rfl,q⟩:=h;obtain⟨t,rfl⟩:=rx;exact rule i t s _ _ ⟨.int (g i),H,I.tok _,⟨_,rfl⟩,q⟩
theorem nG:Vb X (unaryOp .USub) (rU fun i=>.int (-i)):=unI fun _ _ _ _ _ q=>neg_int q
end
def oY:V->V->Bool
 |.HZ,.HZ=>true|.HZ,.int _=>true|.int _,.HZ=>true|.HZ,.bl _=>true|.bl _,.HZ=>true|.HZ,.str _=>true|.str _,.HZ=>true
 |.int _,.int _=>true|.bl _,.bl _=>true|.str _,.str _=>true|.O9 _,.O9 _=>true
 |.int _,.str _=>true|.str _,.int _=>true|.bl _,.str _=>true|.str _,.bl _=>true
 |_,_=>false
def rEq:R2:=fun x y H Q=>oY x y=true/\Q (.bl (decide (x=y))) H
def rNe:R2:=fun x y H Q=>oY x y=true/\Q (.bl (!decide (x=y))) H
theorem lh{i j:Int}:decide (V.int i=V.int j)=(i==j):=by rw[Bool.eq_iff_iff];simp
theorem wo{i j:Bool}:decide (V.bl i=V.bl j)=(i==j):=by rw[Bool.eq_iff_iff];simp
theorem tP{i j:Str}:decide (V.str i=V.str j)=(i==j):=by rw[Bool.eq_iff_iff];simp
theorem tO{i j:Array UInt8}:decide (V.O9 i=V.O9 j)=(i.toList==j.toList):=by rw[Bool.eq_iff_iff];cases i;cases j;simp
section
variable{X:Cx}{a b c:Expr}{ta tb tc:TE}{pos:Pos}
theorem aS{pins:yab}{σ:St}{H:Hp}{s:Shared}{Q:VK}{k k':Bool}(I:Inv X pins σ H s)(q:Q (.bl k) H)(e:k=k'):EP X pins σ Q (.bool k') s:=by subst e;exact⟨.bl k,H,I,rfl,q⟩
theorem zN:MA X (compareOp .Eq) rEq:=by
 intro pins s σ H x y v u Q I rx ry h;obtain⟨hs,q⟩:=h;cases x with
 |HZ =>
  cases rx;cases y with
  |HZ=>cases ry;exact PySem.EqNone.eq_none_none (aS I q (by simp))
  |bl j=>cases ry;exact PySem.EqNone.eq_none_bool (aS I q (by simp))
  |int j=>obtain⟨t',rfl⟩:=ry;exact PySem.EqNone.eq_none_int (aS I q (by simp))
  |str j=>obtain⟨t',rfl⟩:=ry;exact PySem.EqNone.eq_none_str (aS I q (by simp))
  |_=>exact absurd (show false=true from hs) NQ
 |bl i =>
  cases rx;cases y with
  |HZ=>cases ry;exact PySem.EqNone.eq_bool_none (aS I q (by simp))
  |bl j=>cases ry;exact eq_bool (aS I q wo)
  |str j=>obtain⟨t',rfl⟩:=ry;exact PySem.EqMixed.eq_bool_str (aS I q (by simp))
  |_=>exact absurd (show false=true from hs) NQ
 |int i =>
  obtain⟨t,rfl⟩:=rx;cases y with
  |HZ=>cases ry;exact PySem.EqNone.eq_int_none (aS I q (by simp))
  |int j=>obtain⟨t',rfl⟩:=ry;exact eq_int (aS I q lh)
  |str j=>obtain⟨t',rfl⟩:=ry;exact PySem.EqMixed.eq_int_str (aS I q (by simp))
  |_=>exact absurd (show false=true from hs) NQ
 |str i =>
  obtain⟨t,rfl⟩:=rx;cases y with
  |HZ=>cases ry;exact PySem.EqNone.eq_str_none (aS I q (by simp))
  |bl j=>cases ry;exact PySem.EqMixed.eq_str_bool (aS I q (by simp))
  |int j=>obtain⟨t',rfl⟩:=ry;exact PySem.EqMixed.eq_str_int (aS I q (by simp))
  |str j=>obtain⟨t',rfl⟩:=ry;exact eq_str (aS I q tP)
  |_=>exact absurd (show false=true from hs) NQ
 |O9 i =>
  obtain⟨t,rfl⟩:=rx;cases y with
  |O9 j=>obtain⟨t',rfl⟩:=ry;exact PySem.W.eq_bytes (aS I q tO)
  |_=>exact absurd (show false=true from hs) NQ
 |_=>cases y<;>exact absurd (show false=true from hs) NQ
theorem Fj:MA X (compareOp .NotEq) rNe:=by
 intro pins s σ H x y v u Q I rx ry h;obtain⟨hs,q⟩:=h;cases x with
 |HZ =>
  cases rx;cases y with
  |HZ=>cases ry;exact PySem.EqNone.ne_none_none (aS I q (by simp))
  |bl j=>cases ry;exact PySem.EqNone.ne_none_bool (aS I q (by simp))
  |int j=>obtain⟨t',rfl⟩:=ry;exact PySem.EqNone.ne_none_int (aS I q (by simp))
  |str j=>obtain⟨t',rfl⟩:=ry;exact PySem.EqNone.ne_none_str (aS I q (by simp))
  |_=>exact absurd (show false=true from hs) NQ
 |bl i =>
  cases rx;cases y with
  |HZ=>cases ry;exact PySem.EqNone.ne_bool_none (aS I q (by simp))
  |bl j=>cases ry;exact ne_bool (aS I q (congrArg not wo))
  |str j=>obtain⟨t',rfl⟩:=ry;exact PySem.EqMixed.ne_bool_str (aS I q (by simp))
  |_=>exact absurd (show false=true from hs) NQ
 |int i =>
  obtain⟨t,rfl⟩:=rx;cases y with
  |HZ=>cases ry;exact PySem.EqNone.ne_int_none (aS I q (by simp))
  |int j=>obtain⟨t',rfl⟩:=ry;exact ne_int (aS I q (congrArg not lh))
  |str j=>obtain⟨t',rfl⟩:=ry;exact PySem.EqMixed.ne_int_str (aS I q (by simp))
  |_=>exact absurd (show false=true from hs) NQ
 |str i =>
  obtain⟨t,rfl⟩:=rx;cases y with
  |HZ=>cases ry;exact PySem.EqNone.ne_str_none (aS I q (by simp))
  |bl j=>cases ry;exact PySem.EqMixed.ne_str_bool (aS I q (by simp))
  |int j=>obtain⟨t',rfl⟩:=ry;exact PySem.EqMixed.ne_str_int (aS I q (by simp))
  |str j=>obtain⟨t',rfl⟩:=ry;exact ne_str (aS I q (congrArg not tP))
  |_=>exact absurd (show false=true from hs) NQ
 |O9 i =>
  obtain⟨t,rfl⟩:=rx;cases y with
  |O9 j=>obtain⟨t',rfl⟩:=ry;exact PySem.W.ne_bytes (aS I q (congrArg not tO))
  |_=>exact absurd (show false=true from hs) NQ
 |_=>cases y<;>exact absurd (show false=true from hs) NQ
theorem Fi:MA X (compareOp .Lt) (Qi fun i j=>.bl (decide (i<j))):=vj fun _ _ _ _ _ _ _ q=>lt_int q
theorem Fh:MA X (compareOp .LtE) (Qi fun i j=>.bl (decide (i<=j))):=vj fun _ _ _ _ _ _ _ q=>le_int q
theorem zO:MA X (compareOp .Gt) (Qi fun i j=>.bl (decide (j<i))):=vj fun _ _ _ _ _ _ _ q=>gt_int q
theorem Fg:MA X (compareOp .GtE) (Qi fun i j=>.bl (decide (j<=i))):=vj fun _ _ _ _ _ _ _ q=>ge_int q
theorem DC:MA X (compareOp .Is) (fun x y H Q=>y=.HZ/\Q (.bl (decide (x=.HZ))) H):=by
 intro pins s σ H x y v u Q I rx ry h;obtain⟨rfl,q⟩:=h;cases ry;refine is_none_gen (aS I q ?_);cases x<;>first
  |(cases rx;rfl)
  |(obtain⟨t,rfl⟩:=rx;rfl)
theorem AY:MA X (compareOp .IsNot) (fun x y H Q=>y=.HZ/\Q (.bl (!decide (x=.HZ))) H):=by
 intro pins s σ H x y v u Q I rx ry h;obtain⟨rfl,q⟩:=h;cases ry;refine isnot_none_gen (aS I q ?_);cases x<;>first
  |(cases rx;rfl)
  |(obtain⟨t,rfl⟩:=rx;rfl)
theorem xa(b:Expr){op:CmpOp}(h:op ≠ .In:=by decide)(h2:op ≠ .NotIn:=by decide):behindInMarks op b=false:=by
 have e1:(op==CmpOp.In)=false:=by cases op<;>first|rfl|exact absurd rfl h
 have e2:(op==CmpOp.NotIn)=false:=by cases op<;>first|rfl|exact absurd rfl h2
 cases b<;>simp[behindInMarks,e1,e2]
def Fz(t:TE):TT:=fun σ H Q=>t σ H fun x H'=>∃k,x=.bl k/\Q k H'
theorem uv{op:CmpOp}{r:R2}(ho:MA X (compareOp op) r)(ha:PE X a ta)(hb:PE X b tb)(hm:behindInMarks op b=false):PT X (.Compare a [op] [b] pos) (Fz (V0 r ta tb)):=by
 intro pins s σ H Q I h;refine SV (GU (ha pins s σ H _ I h) fun v s1 ⟨x,H1,I1,r1,q1⟩=>GU (hb pins s1 σ H1 _ I1 q1) fun u s2 ⟨y,H2,I2,r2,q2⟩=>
  GU (ho pins s2 σ H2 x y v u _ I2 r1 r2 q2) fun c s3 ⟨z,H3,I3,r3,k,e,q3⟩=>?_) hm
 subst e;cases r3;exact O4 ⟨H3,I3,q3⟩
theorem kz:(sizeLine:Nat)<2 ^ 63:=by rw[N7];decide
theorem vm:MA X (binaryOp .Add) (fun x y H Q=>∃i j,x=.str i/\y=.str j/\i.length+j.length<=sizeLine/\Q (.str (i++j)) H):=by intro pins s σ H x y v u Q I rx ry h;obtain⟨i,j,rfl,rfl,hz,q⟩:=h;obtain⟨t,rfl⟩:=rx;obtain⟨t',rfl⟩:=ry;exact add_str (fun t' tk=>⟨.str (i++j),H,I.tok _,⟨_,rfl⟩,q⟩) hz
theorem vals1{x:V}{us:yad}(r:Vals [x] us):∃u,us=[u]/\RelV x u:=by
 cases r with
 |cons r1 r2=>cases r2;exact⟨_,rfl,r1⟩
theorem yj:k6 X (.builtin "abs") (fun xs H Q=>∃i,xs=[.int i]/\Q (.int (if i<0 then -i else i)) H):=by intro pins s σ H xs us Q I r h;obtain⟨i,rfl,q⟩:=h;obtain⟨u,rfl,t,rfl⟩:=vals1 r;exact call_abs_int fun u tk=>⟨.int (if i<0 then -i else i),H,I.tok _,⟨_,rfl⟩,q⟩
theorem qI:k6 X (.type "str") (fun xs H Q=>∃i,xs=[.int i]/\i.natAbs.log2<1920/\Q (.str (toString i)) H):=by intro pins s σ H xs us Q I r h;obtain⟨i,rfl,hz,q⟩:=h;obtain⟨u,rfl,t,rfl⟩:=vals1 r;exact PySem.P.str_of_int hz ⟨.str _,H,I.tok _,⟨_,rfl⟩,q⟩
end
structure j6(h:Heap)(x dx C:Addr)(mA:yam):Prop where
 obj:h.get? x=some (PySem.W.instObj C dx)
 ns:h.Ns1 dx mA
 ne:dx≠x
theorem w4{h:Heap}{dx:Addr}{mA:yam}(n:h.Ns1 dx mA):∃od,h.get? dx=some od/\∀name,PySem.W.lookIn name od=some (mA name):=by
 obtain⟨o,es,ep,ho,hd,hk,_,hm⟩:=n;refine⟨o,ho,fun name=>?_⟩;have e:=hm name;unfold nsFind findBy at e;rw[<- Array.find?_toList]at e;unfold PySem.W.lookIn;rw[hd];dsimp only;split
 ·rename_i y q;rw[q]at e;exact congrArg some e
 ·rename_i q;rw[q]at e;have a:es.toList.any (·.refKey)=false:=by
   rw[List.any_eq_false];intro y hy;obtain⟨z,t,V1⟩:=hk y (Array.mem_toList_iff.mp hy);simp[DictEntry.refKey,V1]
  have a':¬es.toList.any (·.refKey)=true:=by rw[a];exact NQ
  rw[GS a'];exact congrArg some e
theorem j6.look{h:Heap}{x dx C:Addr}{mA:yam}(I:j6 h x dx C mA):∃od,PySem.W.InstAt h x (PySem.W.instObj C dx) C (some od)/\∀name,PySem.W.lookIn name od=some (mA name) :=
 let ⟨od,ho,hl⟩:=w4 I.ns
 ⟨od,⟨I.obj,rfl,rfl,ho⟩,hl⟩
section
variable{prog:Program}{w:World}{A:Around}{E:yaa}{s:Shared}{K:yac}{x dx C f:Addr}{mA:yam}{name:Str}{v:Value}
theorem get_map{expr:Bool}{Q:yaa}(X:K.In s.heap)(I:j6 s.heap x dx C mA)(hg:PySem.W.plainGet K C name=true)(hh:PySem.W.hasDictIn K C=true)
  (ha:PySem.W.findIn K (.ref C) name=some none) (hv:mA name=some v) (hv':PySem.W.handedIn v=true) (h:Q v {s with toks:=s.toks+1}) :
  wpAny (model prog w) A (getAttr (.ref x) name expr) Q E s:=by
 obtain⟨od,J,hl⟩:=I.look;exact PySem.W.get_value X J (PySem.W.plainGet_of hg).1 (PySem.W.findObj_own hh ha rfl (by rw[hl,hv])) hv' h
theorem yA{pl:Sem Bool}{Q:Value×yad->Shared->Prop}(X:K.In s.heap)(I:j6 s.heap x dx C mA)(hg:PySem.W.plainGet K C name=true)
  (hf:PySem.W.findIn K (.ref C) name=some (some (.ref f))) (ht:PySem.W.isFn K (.ref f)=true) (hv:mA name=none) (h:Q (.ref f,[.ref x]) s) :
  wpAny (model prog w) A (getMethod (.ref x) name pl) Q E s:=by
 obtain⟨od,J,hl⟩:=I.look;exact PySem.W.method_fn X J (PySem.W.plainGet_of hg).1 (PySem.W.plainGet_of hg).2 hf (beq_iff_eq.mp ht) (by show(PySem.W.lookIn name od).map (·.isSome)=some false;rw[hl,hv];rfl) h
theorem Bj{ns:yah}{Q:Unit->Shared->Prop}(X:K.In s.heap)(I:j6 s.heap x dx C mA)
  (hs:PySem.W.findIn K (.ref C) "__setattr__" = some (some (.builtin "object.__setattr__"))) (hp:PySem.W.plainOver K C=true) (ht:PySem.W.takerIn K C name=some none) (hh:PySem.W.hasDictIn K C=true)
  (hw:PySem.Within mA ns) (hsz:ns.length<=sizeLine)
  (h:∀h',j6 h' x dx C (fun y=>if y=name then some v else mA y)->Heap.SameBut dx s.heap h'->Q () {s with heap:=h',toks:=s.toks+2}) :
  wpAny (model prog w) A (setAttr (.ref x) name v) Q E s:=by
 obtain⟨od,J,hl⟩:=I.look;refine PySem.W.set_plain X J hs (PySem.W.osa_open (s:={s with toks:=s.toks+1}) (r:=none) X J hp ht fun b=>?_);obtain⟨cd,hc,OY⟩:=PySem.W.any_some hh;have hx:s.heap.get? x=some ⟨.ref C,some dx,.plain,#[]⟩:=I.obj;refine G0 (JR (G0 (G0 (wpAny_loadPart hx (G0 (PySem.W.Looks.here (s:={s with toks:=s.toks+1}) (PySem.W.looks_clsIn X hc) ?_))))));rw[OY];refine JR (a:=some dx) (G0 (JR (G0 ?_)));refine wpAny_nsSet1 (s:={s with toks:=s.toks+1}) I.ns fun h' hn2 Q7=>?_
 obtain⟨oD,esD,V2,hoD,hdD,hcD⟩:=hn2.count (PySem.Within.cons name v hw);refine G0 (wpAny_lookBehind hoD (by rw[hdD];exact pastItsLine_dict (MH hcD (by rw[MM];omega))) ?_);exact JR (h _ ⟨(Q7.2 _ (Ne.symm I.ne)).trans I.obj,hn2,I.ne⟩ Q7)
theorem yH{R:Result->Shared->Prop}{vs:yad}{kw:List (Str×Value)}(X:K.In s.heap)(hm:PySem.W.makesIn K C=true)
  (hi:PySem.W.findIn K (.ref C) "__init__" = some (some (.ref f))) (hf:PySem.W.typeIn K (.ref f)=some (.type "function"))
  (h:codeAny (model prog w) (A.under (.builtin "type.__call__" ⟨.ref C::vs,kw⟩)) (.call (.ref f) ⟨.ref (s.heap.objs.size+1)::vs,kw⟩) (PySem.W.InitBack (s.heap.objs.size+1) R)
   {s with heap:=(s.heap.push PySem.W.emptyDict).push (PySem.W.instObj C s.heap.objs.size)}) :
  codeAny (model prog w) A (.call (.ref C) ⟨vs,kw⟩) R s:=by
 obtain⟨hh,g,d,t,os⟩:=s;exact PySem.W.make_core (PySem.W.makes_of X hm) (PySem.W.looks_findIn X hi) (fun self=>PySem.W.bind_fn X self hf) (.inl rfl) h
end
def dN(f:Str)(v:V):List (Str×V)->List (Str×V)
 |[]=>[(f,v)]
 |(g,x)::r=>if g=f then(g,v)::r else(g,x)::dN f v r
theorem lN(f g:Str)(v:V):∀fs:List (Str×V),(dN f v fs).lookup g=if g=f then some v else fs.lookup g
 |[]=>by
  show List.lookup g [(f,v)]=_;by_cases h:g=f
  ·have hb:(g==f)=true:=beq_iff_eq.mpr h;simp only[List.lookup,hb,G4 h]
  ·have hb:(g==f)=false:=Rr.mpr h;simp only[List.lookup,hb,GS h]
 |(k,x)::r=>by
  have ih:=lN f g v r;rw[show dN f v ((k,x)::r)=(if k=f then(k,v)::r else(k,x)::dN f v r)from rfl];by_cases hk:k=f
  ·rw[G4 hk];by_cases h:g=k
   ·have hb:(g==k)=true:=beq_iff_eq.mpr h;simp only[List.lookup,hb,G4 (h.trans hk)]
   ·have hb:(g==k)=false:=Rr.mpr h;simp only[List.lookup,hb,GS (fun e:g=f=>h (e.trans hk.symm))]
  ·rw[GS hk];by_cases h:g=k
   ·have hb:(g==k)=true:=beq_iff_eq.mpr h;simp only[List.lookup,hb,GS (fun e:g=f=>hk (h.symm.trans e))]
   ·have hb:(g==k)=false:=Rr.mpr h;simp only[List.lookup,hb];exact ih
theorem ky(f:Str)(v:V):∀fs:List (Str×V),f∈(dN f v fs).map (·.1)/\∀g,g∈fs.map (·.1)->g∈(dN f v fs).map (·.1)
 |[]=>⟨by simp[dN],fun g h=>by simp at h⟩
 |(k,x)::r=>by
  obtain⟨i1,i2⟩:=ky f v r;rw[show dN f v ((k,x)::r)=(if k=f then(k,v)::r else(k,x)::dN f v r)from rfl];by_cases hk:k=f
  ·rw[G4 hk];subst hk;exact⟨by simp,fun g h=>by simpa using h⟩
  ·rw[GS hk];refine⟨?_,fun g h=>?_⟩
   ·rw[Nj];exact Nu _ i1
   ·rw[Nj]at h ⊢;rcases L0.mp h with e|e
    ·exact L0.mpr (.inl e)
    ·exact Nu _ (i2 g e)
theorem lM(f:Str)(v:V):∀fs:List (Str×V),(dN f v fs).length<=fs.length+1
 |[]=>by simp[dN]
 |(k,x)::r=>by
  have ih:=lM f v r;rw[show dN f v ((k,x)::r)=(if k=f then(k,v)::r else(k,x)::dN f v r)from rfl];by_cases hk:k=f
  ·rw[G4 hk,MM,MM];omega
  ·rw[GS hk,MM,MM];omega
theorem iK.some_of{v:V}{o:yan}(r:iK (some v) o):∃u,o=some u/\RelV v u:=by
 cases o with
 |none=>exact(show False from r).elim
 |some u=>exact⟨u,rfl,r⟩
theorem iK.none_of{o:yan}(r:iK none o):o=none:=by
 cases o with
 |none=>rfl
 |some u=>exact(show False from r).elim
theorem wJ{v:V}{u:Value}(r:RelV v u):PySem.W.handedIn u=true:=by
 cases v with
 |HZ=>cases(show u=Value.none from r);rfl
 |bl b=>cases(show u=Value.bool b from r);rfl
 |int i=>obtain⟨t,e⟩:=(show∃t,u=Value.int i t from r);cases e;rfl
 |str x=>obtain⟨t,e⟩:=(show∃t,u=Value.str x t from r);cases e;rfl
 |O9 b=>obtain⟨t,e⟩:=(show∃t,u=Value.bytes b t from r);cases e;rfl
 |Sx b=>obtain⟨t,e⟩:=(show∃t,u=Value.float b t from r);cases e;rfl
 |ref a=>cases(show u=Value.ref a from r);rfl
 |ty n=>cases(show u=Value.type n from r);rfl
section
variable{P:Program}{w:World}{H H':Hp}{h h':Heap}{a C dx:Addr}{fs fs':List (Str×V)}
theorem om(IZ:Lv P w H h)(e:H a=some (.ins C dx fs)):∃mA,j6 h a dx C mA/\(∀f,iK (fs.lookup f) (mA f))/\PySem.Within mA (fs.map (·.1))/\fs.length<=1000/\H dx=some (.own a):=by obtain⟨d,z,ne,ob,mA,n,r,q⟩:=(show bK P w H h a (.ins C dx fs)from IZ a _ e);exact⟨mA,⟨ob,n,ne⟩,r,q,z,d⟩
end
structure Cls(K:yac)(C:Addr):Prop where
 pg:PySem.W.plainGet K C Str.empty=true
 hd:PySem.W.hasDictIn K C=true
 po:PySem.W.plainOver K C=true
 sa:PySem.W.findIn K (.ref C) "__setattr__" = some (some (.builtin "object.__setattr__"))
theorem Cls.get{K:yac}{C:Addr}(c:Cls K C)(f:Str):PySem.W.plainGet K C f=true:=c.pg
def eJ(K:yac)(C:Addr)(f:Str):Prop:=PySem.W.findIn K (.ref C) f=some none
theorem eJ.Tj{K:yac}{C:Addr}{f:Str}(n:eJ K C f):PySem.W.takerIn K C f=some none:=by unfold PySem.W.takerIn;rw[show PySem.W.findIn K (.ref C) f=some none from n];rfl
structure Con(K:yac)(C:Addr)(f:Str)(v:V)(u:Value):Prop where
 at_:PySem.W.findIn K (.ref C) f=some (some u)
 rel:RelV v u
 get:PySem.W.specialIn K u "__get__" = some none
 cp:PySem.W.copiedNames.contains f=false
structure Meth(K:yac)(C:Addr)(m:Str)(f:Addr):Prop where
 at_:PySem.W.findIn K (.ref C) m=some (some (.ref f))
 fn:PySem.W.isFn K (.ref f)=true
 kp:PySem.W.keepIn K (.ref f)=true
section
variable{X:Cx}{pins:yab}{σ:St}{H:Hp}{s:Shared}{a C dx:Addr}{fs:List (Str×V)}{f:Str}{v:V}{A:Around}{E:yaa}
theorem mM{b:Bool}{Q:yaa}(I:Inv X pins σ H s)(e:H a=some (.ins C dx fs))(c:Cls X.K C)(n:eJ X.K C f)(l:fs.lookup f=some v)
  (h:∀u s',Inv X pins σ H s'->RelV v u->Q u s'):wpAny (model X.prog X.w) A (getAttr (.ref a) f b) Q E s:=by
 obtain⟨mA,O,r,_,_,_⟩:=om I.IZ e;obtain⟨u,hu,ru⟩:=iK.some_of (v:=v) (o:=mA f) (by rw[<- l];exact r f);exact get_map I.Ll O (c.get f) c.hd n hu (wJ ru) (h u _ (I.tok _) ru)
theorem eO{m:Str}{g:Addr}{pl:Sem Bool}{Q:Value×yad->Shared->Prop}(I:Inv X pins σ H s)(e:H a=some (.ins C dx fs))(c:Cls X.K C)(k:Meth X.K C m g)(l:fs.lookup m=none)
  (h:Q (.ref g,[.ref a]) s):wpAny (model X.prog X.w) A (getMethod (.ref a) m pl) Q E s:=by
 obtain⟨mA,O,r,_,_,_⟩:=om I.IZ e;have hn:mA m=none:=iK.none_of (by rw[<- l];exact r m);exact yA I.Ll O (c.get m) k.at_ k.fn hn h
theorem vE{y:V}{u:Value}{Q:Unit->Shared->Prop}(I:Inv X pins σ H s)(e:H a=some (.ins C dx fs))(c:Cls X.K C)(n:eJ X.K C f)(hl:fs.length<1000)(ry:RelV y u)
  (h:∀s',Inv X pins σ (upd H a (.ins C dx (dN f y fs))) s'->Q () s'):wpAny (model X.prog X.w) A (setAttr (.ref a) f u) Q E s:=by
 obtain⟨mA,O,r,wi,_,ho⟩:=om I.IZ e;have hz:(fs.map (·.1)).length<=sizeLine:=by rw[Kj,N7];omega
 refine Bj I.Ll O c.sa c.po n.Tj c.hd wi hz fun h' O' sb=>h _ ?_
 have hd:∃o,h'.get? dx=some o:=let ⟨o,_,_,e',_⟩:=O'.ns;⟨o,e'⟩;refine I.write (x:=a) (e:=dx) (by rw[e];exact True.intro) (.inr ho) (fun b q hb z=>(sb.2 b hb).trans z) hd ?_;refine⟨by rw[aj O.ne];exact ho,?_,O.ne,O'.obj,_,O'.ns,fun g=>?_,fun g hg=>?_⟩
 ·have:=lM f y fs;omega
 ·show iK ((dN f y fs).lookup g) (if g=f then some u else mA g);rw[lN];by_cases q:g=f
  ·rw[G4 q,G4 q];exact ry
  ·rw[GS q,GS q];exact r g
 ·by_cases q:g=f
  ·rw[q];exact(ky f y fs).1
  ·refine(ky f y fs).2 g (wi g fun z=>hg ?_);show(if g=f then some u else mA g)=none;rw[GS q];exact z
theorem Inv.made(I:Inv X pins σ H s):Inv X pins σ (upd (upd H s.heap.objs.size (.own (s.heap.objs.size+1))) (s.heap.objs.size+1) (.ins C s.heap.objs.size []))
  {s with heap:=(s.heap.push PySem.W.emptyDict).push (PySem.W.instObj C s.heap.objs.size)}:=by
 have e1:(s.heap.push PySem.W.emptyDict).get? s.heap.objs.size=some PySem.W.emptyDict:=Mv s.heap rfl;have e2:((s.heap.push PySem.W.emptyDict).push (PySem.W.instObj C s.heap.objs.size)).get? (s.heap.objs.size+1)=some (PySem.W.instObj C s.heap.objs.size):=by
  have:=Mv (s.heap.push PySem.W.emptyDict) (o:=PySem.W.instObj C s.heap.objs.size) rfl
  rwa [Rx]at this
 have e3:(s.heap.push PySem.W.emptyDict).Ns s.heap.objs.size (fun _=>none):=⟨PySem.W.emptyDict,#[],_,e1,rfl,(fun e he=>absurd he (by simp)),fun _=>rfl⟩;have I1:=I.laid (a:=s.heap.objs.size) (o:=.own (s.heap.objs.size+1)) (h':=s.heap.push PySem.W.emptyDict) (t':=s.toks) (fun b u q=>KU _ q) (Ka _) ⟨_,e1⟩;refine I1.laid (a:=s.heap.objs.size+1) (o:=.ins C s.heap.objs.size []) (t':=s.toks) (fun b u q=>KU _ q) (Nat.le_of_eq (Rx _ _)) ?_;have ne:s.heap.objs.size≠s.heap.objs.size+1:=Nk (Nat.lt_succ_self _);refine⟨by rw[aj ne,au],M9 _,ne,e2,fun _=>none,(Heap.Ns1.of_empty e3).at fun o q=>KU _ q,fun _=>True.intro,fun y hy=>absurd rfl hy⟩
theorem tG{prog:Program}{w:World}{env:Env}{e:Expr}{f:Str}{pos:Pos}{s:Shared}{Q:yaa}(hb:attributeBase e f env (eval e env)=eval e env)
  (h:wpAny (model prog w) A (eval e env) (fun o Hm=>wpAny (model prog w) A (getAttr o f true) Q E Hm) E s):wpAny (model prog w) A (eval (.Attribute e f pos) env) Q E s :=
 Attribute_any_ h (by rw[arm_eval_Attribute,hb])
end
def Gy(K:yac)(ta:TE)(f:Str):TE:=fun σ H Q=>ta σ H fun x H1=>∃a C dx fs v,x=.ref a/\H1 a=some (.ins C dx fs)/\Cls K C/\eJ K C f/\fs.lookup f=some v/\Q v H1
def Gq(K:yac)(ta tv:TE)(f:Str):TS:=fun D σ H=>tv σ H fun y H1=>ta σ H1 fun x H2=>∃a C dx fs,x=.ref a/\H2 a=some (.ins C dx fs)/\Cls K C/\eJ K C f/\fs.length<1000 ∧
 D.nx σ (upd H2 a (.ins C dx (dN f y fs)))
section
variable{X:Cx}{o e value:Expr}{f:Str}{pos pos' tpos:Pos}{ta tv:TE}
theorem mY(he:PE X e ta)(hb:attributeBase e f X.env (eval e X.env)=eval e X.env):PE X (.Attribute e f pos) (Gy X.K ta f):=by intro pins s σ H Q I h;refine tG hb (GU (he pins s σ H _ I h) fun u s1 ⟨x,H1,I1,rx,a,C,dx,fs,v,ex,ea,c,n,l,q⟩=>?_);subst ex;obtain rfl:u=Value.ref a:=rx;exact mM I1 ea c n l fun u' s2 I2 ru=>⟨v,H1,I2,ru,q⟩
theorem kI(ha:PE X o ta)(hv:PE X value tv)(hs:swapsWith value (some (.Attribute o f pos')) pos.line X.env=pure false):PS X (.Assign [.Attribute o f pos'] value pos) (Gq X.K ta tv f):=by intro pins s σ H D I h;refine plainObj_wpAny_Assign_Attribute (GU (hv pins s σ H _ I h) fun u s1 ⟨y,H1,I1,ry,q⟩=>GU (ha pins s1 σ H1 _ I1 q) fun ov s2 ⟨x,H2,I2,rx,a,C,dx,fs,ex,ea,c,n,l,q2⟩=>?_) hs;subst ex;obtain rfl:ov=Value.ref a:=rx;exact vE I2 ea c n l ry fun s3 I3=>⟨σ,_,I3,q2⟩
end
section
variable{X:Cx}{pins:yab}{σ:St}{H:Hp}{s:Shared}{A:Around}{E:yaa}{Q:yaa}{c:Value}{b:Bool}
inductive gT (K:yac) (H:Hp):V->Value->Prop where
 |HZ:gT K H .HZ (.type "NoneType")
 |bl (x:Bool):gT K H (.bl x) (.type "bool")
 |int (i:Int):gT K H (.int i) (.type "int")
 |str (x:Str):gT K H (.str x) (.type "str")
 |Sx (x:UInt64):gT K H (.Sx x) (.type "float")
 |lst {a:Addr} {xs:yar} (e:H a=some (.lst xs)):gT K H (.ref a) (.type "list")
 |frz {a:Addr} {o:Obj} {xs:yar} (e:H a=some (.frz o (.lst xs))):gT K H (.ref a) (.type "list")
 |tup {a:Addr} {xs:yar} (e:H a=some (.tup xs)):gT K H (.ref a) (.type "tuple")
 |dK {a:Addr} {kvs:List (Key×V)} (e:H a=some (.dK kvs)):gT K H (.ref a) (.type "dict")
 |dT {a:Addr} {kvs:List (List Key×V)} (e:H a=some (.dT kvs)):gT K H (.ref a) (.type "dict")
 |ins {a C dx:Addr} {fs:List (Str×V)} (e:H a=some (.ins C dx fs)) (cl:Cls K C) (ha:PySem.W.findIn K (.ref C) "__class__" = some (some (.builtin "object.__class__")))
   (hn:PySem.W.specialIn K (.builtin "object.__class__") "__get__" = some (some (.builtin "getset_descriptor.__get__"))) (htk:PySem.W.takesIn K (.builtin "object.__class__")=some true)
   (hm:PySem.W.mroIn K C (.type "object")=some true):gT K H (.ref a) (.ref C)
end
structure aX(k:Nat)(A:Around):Prop where
 hd:A.handled=none
 dp:A.depth+3*k+5<recursionLimit
 un:A.units+16*k+200<cLine
theorem aX.mono{j k:Nat}{A:Around}(r:aX k A)(h:j<=k):aX j A:=⟨r.hd,by have:=r.dp;omega,by have:=r.un;omega⟩
theorem aX.deeper{k:Nat}{A:Around}(r:aX (k+1) A)(env:Env):aX k (A.deeper env) :=
 ⟨r.hd,by have:=r.dp;show A.depth+1+3*k+5<_;omega,by have:=r.un;show A.units+3+16*k+200<_;omega⟩
theorem uZ {A:Around} {C:Addr} {us:yad} {kw:List (Str×Value)}:(A.under (.builtin "type.__call__" ⟨.ref C::us,kw⟩)).depth=A.depth+1:=by
 first|rfl|simp[Around.under,Code.weight,Code.isCreation,Code.isGuard,Code.isCaller,Code.frames,Code.isFrame,guardIds]
theorem u0 {A:Around} {C:Addr} {us:yad} {kw:List (Str×Value)}:(A.under (.builtin "type.__call__" ⟨.ref C::us,kw⟩)).units=A.units+1:=by
 first|rfl|simp[Around.under,Code.cUnits,Code.frames,Code.isFrame]
theorem aX.make {k:Nat} {A:Around} (r:aX (k+1) A) (C:Addr) (us:yad) (kw:List (Str×Value)):aX k (A.under (.builtin "type.__call__" ⟨.ref C::us,kw⟩)) :=
 ⟨r.hd,by have:=r.dp;rw[uZ];omega,by have:=r.un;rw[u0];omega⟩
theorem aX.depth{k:Nat}{A:Around}(r:aX k A):A.depth<recursionLimit:=by have:=r.dp;omega
theorem aX.units{k:Nat}{A:Around}(r:aX k A):A.units+64<cLine:=by have:=r.un;omega
def kY:TA:=fun _ H Q=>Q [] H
def fT(ta:TE)(tr:TA):TA:=fun σ H Q=>ta σ H fun x H1=>tr σ H1 fun xs H2=>Q (x::xs) H2
section
variable{X:Cx}{e:Expr}{es:yai}{te:TE}{t:TA}{pos:Pos}
theorem bA:PA X [] kY:=fun _ _ _ _ H Q I h=>Calls.spliced_nil ⟨[],H,I,.nil,h⟩
theorem aZ(ha:PE X e te)(hr:PA X es t)(hs:starEach (e::es) X.env=(false,eval e X.env)::starEach es X.env:=by rfl):PA X (e::es) (fT te t):=by intro pos pins s σ H Q I h;rw[hs];show wpAny _ _ (spliced ((false,eval e X.env)::backTo pos (starEach es X.env))) _ _ s;refine Calls.spliced_cons (GU (ha pins s σ H _ I h) fun u s1 ⟨x,H1,I1,r1,q1⟩=>?_);exact GU (hr pos pins s1 σ H1 _ I1 q1) fun us s2 ⟨xs,H2,I2,r2,q2⟩=>⟨x::xs,H2,I2,.cons r1 r2,q2⟩
def GA(t:TA):TE:=fun σ H Q=>t σ H fun xs H1=>xs.length<=sizeLine/\∀p,H1 p=none->Q (.ref p) (upd H1 p (.lst xs))
theorem dU(h:PA X es t):PE X (.List es pos) (GA t):=by intro pins s σ H Q I hq;refine wpAny_List_spliced (GU (h pos pins s σ H _ I hq) fun us s1 ⟨xs,H1,I1,r,z,q⟩=>⟨by rw[<- r.length];exact z,?_⟩);have hf:H1 s1.heap.objs.size=none:=I1.IZ.fresh (Ka _);refine⟨.ref s1.heap.objs.size,upd H1 s1.heap.objs.size (.lst xs),I1.laid (t':=s1.toks) (fun b u e=>KU _ e) (Ka _) ?_,rfl,q _ hf⟩;exact⟨z,us,0,r,Mv _ rfl⟩
end
abbrev Sp:=yar->Hp->VK->XK->Prop
abbrev CXT:=List Env->Hp->Shared->XK->yaa
structure j5(P:Program)(w:World)(K:yac)(mg:yam)(base:Heap)(A:Around)(outer:List Env)(s:Shared)(H:Hp):Prop where
 frames:A.frames=some outer
 mod:Mod K mg base
 bs:∀b o,base.get? b=some o->s.heap.get? b=some o/\H b=none
 Pc:base.objs.size<=s.heap.objs.size
 Lo:s.heap.FunFrames base outer
 Pp:∀b∈MJ outer,H b=none
 IZ:Lv P w H s.heap
 bare:AllBare s.gens
def CE(outer:List Env)(P:Program)(w:World)(H:Hp)(s:Shared)(Q:VK)(u:Value)(s':Shared):Prop :=
 ∃ v H',s'.os=s.os/\AllBare s'.gens/\Un (MJ outer) [] H H' s.heap s'.heap/\Lv P w H' s'.heap/\RelV v u/\Q v H'
def CR(CX:CXT)(outer:List Env)(P:Program)(w:World)(H:Hp)(s:Shared)(Q:VK)(E:XK)(r:Result)(s':Shared):Prop :=
 match r with
 |.ok (.ret u)=>CE outer P w H s Q u s'
 |.ok _=>False
 |.error e=>CX outer H s E e s'
structure az(P:Program)(w:World)(K:yac)(mg:yam)(base:Heap)(CX:CXT)(k:Nat)(f:Addr)(fd:FuncData)(ps:yah)(sp:Sp):Prop where
 len:∀vs H Q E,sp vs H Q E->vs.length=ps.length
 run:∀(A:Around) (outer:List Env) (s:Shared) (H:Hp) (args:Args) (us:yad) (vs:yar) (Q:VK) (E:XK),aX k A->j5 P w K mg base A outer s H->BindsTo s fd args (ps.zip us)->Vals vs us->sp vs H Q E →
  codeAny (model P w) A (.call (.ref f) args) (CR CX outer P w H s Q E) s
theorem az.imp{P:Program}{w:World}{K:yac}{mg:yam}{base:Heap}{CX:CXT}{k:Nat}{f:Addr}{fd:FuncData}{ps:yah}{sp Qj:Sp}(F:az P w K mg base CX k f fd ps sp)
  (h:∀vs H Q E,Qj vs H Q E->sp vs H Q E):az P w K mg base CX k f fd ps Qj :=
 ⟨fun vs H Q E q=>F.len vs H Q E (h _ _ _ _ q),fun A outer s H args us vs Q E hr he hb hv hs=>F.run A outer s H args us vs Q E hr he hb hv (h _ _ _ _ hs)⟩
theorem j5.make{P:Program}{w:World}{K:yac}{mg:yam}{base:Heap}{A:Around}{outer:List Env}{s:Shared}{H:Hp}(e:j5 P w K mg base A outer s H)(C:Addr)(us:yad)(kw:List (Str×Value)) :
  j5 P w K mg base (A.under (.builtin "type.__call__" ⟨.ref C::us,kw⟩)) outer s H:=⟨by first|exact e.frames|(simpa [Around.under,Code.envs,Code.isFrame,pushEnvs]using e.frames),e.mod,e.bs,e.Pc,e.Lo,e.Pp,e.IZ,e.bare⟩
section
variable{X:Cx}{pins:yab}{σ:St}{H:Hp}{s s':Shared}
theorem Inv.RE(I:Inv X pins σ H s):j5 X.prog X.w X.K X.mg X.base X.A X.stack s H :=
 ⟨I.ok.frames,I.ok.mod,I.bs,MH I.ok.Pc I.sz,I.stack,I.Ny,I.IZ,I.bare⟩
theorem Inv.after{Q:VK}{u:Value}(I:Inv X pins σ H s)(h:CE X.stack X.prog X.w H s Q u s'):EP X pins σ Q u s':=by obtain⟨v,H',os,bare,un,IZ,r,q⟩:=h;obtain⟨hh,g,d,t,os'⟩:=s';obtain rfl:os'=s.os:=os;exact⟨v,H',I.call (h':=hh) (g':=g) (d':=d) (t':=t) (ch:=[]) un IZ bare (fun b z=>absurd z (by simp)),r,q⟩
end
def vI(sp:Sp)(Nc:yar)(E:XK)(t:TA):TE:=fun σ H Q=>t σ H fun vs H1=>sp (vs++Nc) H1 Q E
def qB(C:Addr)(m:Str)(sp:Sp)(Nc:yar)(E:XK)(ta:TE)(t:TA):TE:=fun σ H Q=>ta σ H fun x H1=>∃a dx fs,x=.ref a/\H1 a=some (.ins C dx fs)/\fs.lookup m=none ∧
 t σ H1 fun vs H2=>sp (x::(vs++Nc)) H2 Q E
def Fw(C:Addr)(sp:Sp)(Nc:yar)(E:XK)(t:TA):TE:=fun σ H Q=>t σ H fun vs H1=>∀x dx,H1 x=none->H1 dx=none->dx≠x →
 sp (.ref x::(vs++Nc)) (upd (upd H1 dx (.own x)) x (.ins C dx [])) (fun v H2=>v=.HZ/\Q (.ref x) H2) E
def Binds(K:yac)(fd:FuncData)(ps:yah)(ds:yad):Prop :=
 ∀ (s:Shared) (us:yad),K.In s.heap->(us++ds).length=ps.length->BindsTo s fd ⟨us,[]⟩ (ps.zip (us++ds))
theorem Binds.all{K:yac}{fd:FuncData}{ps:yah}(h:∀us:yad,us.length=ps.length->bindArgs fd ⟨us,[]⟩=pure (ps.zip us)):Binds K fd ps []:=fun s us _ hl=>by rw[Qa]at hl ⊢;exact .of_eq (h us hl)
def Passes(CX:CXT)(X:Cx)(E:XK):Prop:=∀(pins:yab) (σ:St) (H:Hp) (s:Shared) (e:Value) (s':Shared),Inv X pins σ H s->CX X.stack H s E e s'->X.xe e s'
section
variable{X:Cx}{CX:CXT}{k:Nat}{f C:Addr}{fd:FuncData}{ps:yah}{sp:Sp}{Nc:yar}{ds:yad}{E:XK}{x m:Str}{p pos apos:Pos}{e o:Expr}{es:yai}{ta:TE}{t:TA}
theorem nc{pins:yab}{σ:St}{H:Hp}{s:Shared}{Q:VK}{us:yad}{vs:yar}(F:az X.prog X.w X.K X.mg X.base CX k f fd ps sp)(hr:aX k X.A)(hb:Binds X.K fd ps ds)(hd:Vals Nc ds)(hx:Passes CX X E)
  (I:Inv X pins σ H s) (r:Vals vs us) (h:sp (vs++Nc) H Q E):wpAny (model X.prog X.w) X.A (call (.ref f) us) (EP X pins σ Q) X.xe s:=by
 have r2:Vals (vs++Nc) (us++ds):=r.append hd;have hl:(us++ds).length=ps.length:=by rw[<- r2.length];exact F.len _ _ _ _ h
 refine wpAny_call (codeAny_mono (F.run X.A X.stack s H ⟨us,[]⟩ (us++ds) (vs++Nc) Q E hr I.RE (hb s us I.Ll hl) r2 h) fun r s' hq=>?_);cases r with
 |error e=>exact hx pins σ H s e s' I hq
 |ok fl =>
  cases fl with
  |ret u=>exact I.after hq
  |next=>exact False.elim hq
  |brk=>exact False.elim hq
  |cont=>exact False.elim hq
theorem A2(F:az X.prog X.w X.K X.mg X.base CX k f fd ps sp)(hr:aX k X.A)(hg:Gl X x)(hm:X.mg x=some (.ref f))(hk:PySem.W.keepIn X.K (.ref f)=true)(hb:Binds X.K fd ps ds)(hd:Vals Nc ds)(hx:Passes CX X E)
  (ha:PA X (e::es) t) (Kl:(x==("__debug__" : Str))=false:=by decide) (he:starEach (e::es) X.env=(false,eval e X.env)::starEach es X.env:=by rfl) (KW:(backTo pos (starEach es X.env)).any (·.1)=false:=by rfl) :
  PE X (.Call (.Name x p) (e::es) [] pos) (vI sp Nc E t):=by
 intro pins s σ H Q I h;refine Qv (cN I hg hm ?_ Kl);refine PySem.W.callWith_K (h₀:=X.base) I.ok.mod.Pa hk (GU (ha pos pins s σ H _ I h) fun us s1 ⟨vs,H1,I1,r,q⟩=>⟨I1.Ll,?_⟩) he KW;exact nc F hr hb hd hx I1 r q
theorem A3{pl:Sem Bool}(he:PE X o ta)(c:Cls X.K C)(hm:Meth X.K C m f)(F:az X.prog X.w X.K X.mg X.base CX k f fd ps sp)(hr:aX k X.A)(hb:Binds X.K fd ps ds)(hd:Vals Nc ds)(hx:Passes CX X E)(ha:PA X (e::es) t)
  (KN:starEach (e::es) X.env=(false,eval e X.env)::starEach es X.env:=by rfl) (KW:(backTo pos (starEach es X.env)).any (·.1)=false:=by rfl)
  (ht:eval (.Call (.Attribute o m apos) (e::es) [] pos) X.env=(do
   let ov←eval o X.env
   standAt apos.atName
   let (f,first)←holding [ov] (getMethod ov m pl)
   callWith pos f first (backTo pos (starEach (e::es) X.env)) (backToKw pos (keywordEach [] X.env))):=by rfl) :
  PE X (.Call (.Attribute o m apos) (e::es) [] pos) (qB C m sp Nc E ta t):=by
 intro pins s σ H Q I h;refine PySem.W.methodCall_KW (pl:=pl) (GU (he pins s σ H _ I h) fun u s1 ⟨x,H1,I1,rx,a,dx,fs,ex,ea,l,q⟩=>?_) ht;subst ex;obtain rfl:u=Value.ref a:=rx;refine eO I1 ea c hm l ?_;refine PySem.W.callWith_K (first:=[.ref a]) (h₀:=X.base) I.ok.mod.Pa hm.kp (GU (ha pos pins s1 σ H1 _ I1 q) fun us s2 ⟨vs,H2,I2,r,q2⟩=>⟨I2.Ll,?_⟩) KN KW;exact nc (us:=.ref a::us) (vs:=.ref a::vs) F hr hb hd hx I2 (.cons rfl r) q2
theorem yS{pl:Sem Bool}(he:PE X o ta)(c:Cls X.K C)(hm:Meth X.K C m f)(F:az X.prog X.w X.K X.mg X.base CX k f fd ps sp)(hr:aX k X.A)(hb:Binds X.K fd ps ds)(hd:Vals Nc ds)(hx:Passes CX X E)
  (ht:eval (.Call (.Attribute o m apos) [] [] pos) X.env=(do
   let ov←eval o X.env
   standAt apos.atName
   let (f,first)←holding [ov] (getMethod ov m pl)
   callWith pos f first (backTo pos (starEach [] X.env)) (backToKw pos (keywordEach [] X.env))):=by rfl) :
  PE X (.Call (.Attribute o m apos) [] [] pos) (qB C m sp Nc E ta kY):=by
 intro pins s σ H Q I h;refine PySem.W.methodCall_KW (pl:=pl) (GU (he pins s σ H _ I h) fun u s1 ⟨x,H1,I1,rx,a,dx,fs,ex,ea,l,q⟩=>?_) ht;subst ex;obtain rfl:u=Value.ref a:=rx;refine eO I1 ea c hm l ?_;exact PySem.W.callWith_K0 (first:=[.ref a]) I1.Ll hm.kp (nc (us:=[.ref a]) (vs:=[.ref a]) F hr hb hd hx I1 (.cons rfl .nil) q)
structure Mk(K:yac)(C f:Addr):Prop where
 makes:PySem.W.makesIn K C=true
 init:PySem.W.findIn K (.ref C) "__init__" = some (some (.ref f))
 fn:PySem.W.isFn K (.ref f)=true
 kp:PySem.W.keepIn K (.ref C)=true
theorem yY{pins:yab}{σ:St}{H:Hp}{s:Shared}{Q:VK}{us:yad}{vs:yar}(M:Mk X.K C f)(F:az X.prog X.w X.K X.mg X.base CX k f fd ps sp)(hr:aX (k+1) X.A)(hb:Binds X.K fd ps ds)(hd:Vals Nc ds)
  (hx:Passes CX X E) (I:Inv X pins σ H s) (r:Vals vs us)
  (h:∀x dx,H x=none->H dx=none->dx≠x->sp (.ref x::(vs++Nc)) (upd (upd H dx (.own x)) x (.ins C dx [])) (fun v H2=>v=.HZ/\Q (.ref x) H2) E) :
  wpAny (model X.prog X.w) X.A (call (.ref C) us) (EP X pins σ Q) X.xe s:=by
 have hq:=h (s.heap.objs.size+1) s.heap.objs.size (I.IZ.fresh (Nat.le_succ _)) (I.IZ.fresh (Ka _)) (Nk (Nat.lt_succ_self _));have I2:=Inv.made (C:=C) I;have r2:Vals (V.ref (s.heap.objs.size+1)::(vs++Nc)) (Value.ref (s.heap.objs.size+1)::(us++ds)):=.cons rfl (r.append hd);have hl:(Value.ref (s.heap.objs.size+1)::us++ds).length=ps.length:=by have e:=r2.length;rw[F.len _ _ _ _ hq]at e;exact e.symm
 refine wpAny_call (yH (f:=f) I.Ll M.makes M.init (beq_iff_eq.mp M.fn) (codeAny_mono (F.run _ X.stack _ _ ⟨Value.ref (s.heap.objs.size+1)::us,[]⟩ (Value.ref (s.heap.objs.size+1)::(us++ds)) _ _ E (hr.make C us [])
  (I2.RE.make C us []) (hb _ (Value.ref (s.heap.objs.size+1)::us) I2.Ll hl) r2 hq) fun r s' Om=>?_))
 cases r with
 |error e=>exact hx pins σ _ _ e s' I2 Om
 |ok fl =>
  cases fl with
  |ret u =>
   obtain⟨v,H',I3,rv,ev,q3⟩:=I2.after Om;subst ev;exact⟨rv,⟨V.ref (s.heap.objs.size+1),H',I3,rfl,q3⟩⟩
  |next=>exact False.elim Om
  |brk=>exact False.elim Om
  |cont=>exact False.elim Om
theorem rL(M:Mk X.K C f)(F:az X.prog X.w X.K X.mg X.base CX k f fd ps sp)(hr:aX (k+1) X.A)(hg:Gl X x)(hm:X.mg x=some (.ref C))(hb:Binds X.K fd ps ds)(hd:Vals Nc ds)(hx:Passes CX X E)
  (Kl:(x==("__debug__" : Str))=false:=by decide):PE X (.Call (.Name x p) [] [] pos) (Fw C sp Nc E kY):=by
 intro pins s σ H Q I h;refine Qv (cN I hg hm ?_ Kl);exact PySem.W.callWith_K0 I.Ll M.kp (yY (us:=[]) M F hr hb hd hx I .nil h)
end
section
variable{X:Cx}{CX:CXT}{k:Nat}{f C:Addr}{fd:FuncData}{ps ks:yah}{sp:Sp}{E:XK}{x m:Str}{p pos apos kpos:Pos}{e o:Expr}{es:yai}{MK:List Keyword}{te ta:TE}{t tk:TA}{nm:Option Str}
structure GH(K:yac)(fd:FuncData)(ps ks:yah)(g:yad->yad->yad)(gV:yar->yar->yar):Prop where
 to:∀(s:Shared) (us ws:yad),K.In s.heap->(g us ws).length=ps.length->BindsTo s fd ⟨us,ks.zip ws⟩ (ps.zip (g us ws))
 rel:∀{vs:yar} {us:yad} {zs:yar} {ws:yad},Vals vs us->Vals zs ws->Vals (gV vs zs) (g us ws)
variable{g:yad->yad->yad}{gV:yar->yar->yar}
end
structure ay(N P:yah)(sc:Scope):Prop where
 kind:sc.kind=.function
 co:sc.isCoroutine=false
 gen:sc.isGenerator=false
 nd:N.Nodup
 pre:N.take P.length=P
 par:∀x∈P,sc.names.lookup x=some .local∨sc.names.lookup x=some .cell
 RF:∀y∈sc.names,y.2 ≠ .free
theorem pG{kindOf:Str->Option NameKind}{x:Str}:∀{binds:List (Str×Value)} {m:yam},(∀v,(x,v)∉binds)->bindL kindOf binds m x=m x
 |[],_,_=>rfl
 |(n,v)::r,m,h=>by
  unfold bindL;rw[pG fun w hw=>h w (Nu _ hw)];split
  ·have:x≠n:=by rintro rfl;exact h v M4
   simp[this]
  ·rfl
theorem pE{kindOf:Str->Option NameKind}{x:Str}:∀{binds:List (Str×Value)} {m:yam},(∀v,(x,v)∉binds)->bindC kindOf binds m x=m x
 |[],_,_=>rfl
 |(n,v)::r,m,h=>by
  unfold bindC;rw[pE fun w hw=>h w (Nu _ hw)];split
  ·rfl
  ·have:x≠n:=by rintro rfl;exact h v M4
   simp[this]
theorem pF{kindOf:Str->Option NameKind}{x:Str}{v:Value}:∀{P:yah} {vs:yad} {i:Nat} {m:yam},P.Nodup->P[i]?=some x->vs[i]?=some v->kindOf x=some .local →
  bindL kindOf (P.zip vs) m x=some v
 |[],_,_,_,_,h,_,_=>by simp at h
 |_::_,[],_,_,_,_,h,_=>by simp at h
 |p::P,w::vs,0,m,nd,h1,h2,hk=>by simp at h1 h2;subst h1;subst h2;show bindL kindOf ((p,w)::P.zip vs) m p=_;unfold bindL;rw[pG fun v hv=>(List.nodup_cons.mp nd).1 (List.of_mem_zip hv).1,G4 hk];simp
 |p::P,w::vs,i+1,m,nd,h1,h2,hk=>by show bindL kindOf ((p,w)::P.zip vs) m x=_;unfold bindL;exact pF (i:=i) (List.nodup_cons.mp nd).2 (by simpa using h1) (by simpa using h2) hk
theorem pD{kindOf:Str->Option NameKind}{x:Str}{v:Value}:∀{P:yah} {vs:yad} {i:Nat} {m:yam},P.Nodup->P[i]?=some x->vs[i]?=some v->kindOf x≠some .local →
  bindC kindOf (P.zip vs) m x=some v
 |[],_,_,_,_,h,_,_=>by simp at h
 |_::_,[],_,_,_,_,h,_=>by simp at h
 |p::P,w::vs,0,m,nd,h1,h2,hk=>by simp at h1 h2;subst h1;subst h2;show bindC kindOf ((p,w)::P.zip vs) m p=_;unfold bindC;rw[pE fun v hv=>(List.nodup_cons.mp nd).1 (List.of_mem_zip hv).1,GS hk];simp
 |p::P,w::vs,i+1,m,nd,h1,h2,hk=>by show bindC kindOf ((p,w)::P.zip vs) m x=_;unfold bindC;exact pD (i:=i) (List.nodup_cons.mp nd).2 (by simpa using h1) (by simpa using h2) hk
def start(N:yah)(vs:yar):St:=vs.map some++List.replicate (N.length - vs.length) none
def cf(CX:CXT)(P:Program)(w:World)(K:yac)(mg:yam)(base:Heap)(N:yah)(qual:Str)(scope:Scope)(f:Addr)(cd:Value)(A:Around)(outer:List Env)(s:Shared)(H:Hp)(E:XK):Cx where
 prog:=P
 w:=w
 K:=K
 mg:=mg
 base:=base
 A:=A.deeper (envOfC qual scope s.heap.objs.size f cd)
 N:=N
 IA:=s
 H₀:=H
 env:=envOfC qual scope s.heap.objs.size f cd
 outer:=outer
 stack:=envOfC qual scope s.heap.objs.size f cd::outer
 ex:=[]
 calm:=true
 fn:=fun _=>true
 pn:=[]
 xe:=fun e s'=>wpAny (model P w) (A.deeper (envOfC qual scope s.heap.objs.size f cd)) (leaving (envOfC qual scope s.heap.objs.size f cd) e) (fun _ RG=>CX outer H s E e RG) (fun e' RG=>CX outer H s E e' RG) s'
theorem qK{sc:Scope}{n:Nat}{x:Str}(h:sc.names.lookup x=some .cell):∃c,(cellsFrom n sc.names []).lookup x=some c:=by have q:=PySem.W.cellsFrom_some sc.names n [] (.inl h);exact Option.isSome_iff_exists.mp q
theorem wL{CX:CXT}{P:Program}{w:World}{K:yac}{mg:yam}{base:Heap}{N ps:yah}{qual:Str}{scope:Scope}{f:Addr}{cd:Value}{A:Around}{outer:List Env}{s s1:Shared}{H:Hp}{E:XK}{us:yad}{vs:yar}
  (S:ay N ps scope) (hd:A.handled=none) (e0:j5 P w K mg base A outer s H) (hl:vs.length=ps.length) (r:Vals vs us)
  (x:InCallC s s.heap.objs.size (bindL (envOfC qual scope s.heap.objs.size f cd).kindOf (ps.zip us) fun _=>none) (cellsFrom (s.heap.objs.size+1) scope.names []) (bindC (envOfC qual scope s.heap.objs.size f cd).kindOf (ps.zip us) fun _=>none) s1) :
  Inv (cf CX P w K mg base N qual scope f cd A outer s H E) [] (start N vs) H s1:=by
 have KW:ps.length<=N.length:=by have:=congrArg List.length S.pre;rw[O6]at this;omega
 obtain⟨h1,tk,rfl,hk⟩:=x.done;have V3:∀b:Addr,b∉(cf CX P w K mg base N qual scope f cd A outer s H E).ex:=fun b z=>absurd (show b∈([]:yae)from z) (by simp)
 refine⟨⟨e0.mod,S.kind,rfl,rfl,Ka _,fun y z c h1 h2=>?_,fun y hy=>?_,fun y c _ h=>?_,fun _=>hd,Around.frames_deeper e0.frames,.inr ⟨rfl,rfl⟩,fun b z=>absurd z (V3 b),e0.bs,e0.Pc,fun b _ _=>V3 b,fun b z=>absurd z (V3 b),e0.Lo,e0.Pp⟩,
  rfl,e0.bare,Un.kept hk,⟨_,x.toInCall.ns,fun i y v h1 h2 h3=>?_⟩,fun y c h=>⟨_,x.cell y c h⟩,e0.IZ.fresh (Ka _),fun y c h=>?_,fun p hp=>absurd (show p∈([]:yab)from hp) (by simp),e0.IZ.kept hk,?_⟩
 ·exact name_of_addr x.apart (PySem.mem_of_lookup h1) (PySem.mem_of_lookup h2)
 ·have hy:scope.names.lookup y=some .cell∨scope.names.lookup y=some .free:=hy;rcases hy with hy|hy
  ·exact qK hy
  ·exact absurd rfl (S.RF _ (PySem.mem_of_lookup hy))
 ·exact Nat.le_of_lt (x.above y c (PySem.mem_of_lookup h))
 ·have hi:i<vs.length:=by
   unfold start at h2;by_cases hi:i<vs.length
   ·exact hi
   ·rw[Rn (by simpa using hi)]at h2;rw[SO]at h2;split at h2<;>cases h2
  have ha:vs[i]?=some v:=by
   unfold start at h2;rw[Rp (by simpa using hi),Of]at h2;cases e:vs[i]? with
   |none=>rw[e]at h2;cases h2
   |some a=>rw[e]at h2;cases h2;rfl
  obtain⟨u,hu,rv⟩:=r.get ha;have hp:ps[i]?=some y:=by rw[<- S.pre,List.getElem?_take_of_lt (by omega)];exact h1
  have ndP:ps.Nodup:=by rw[<- S.pre];exact S.nd.sublist (List.take_sublist _ _)
  refine⟨u,rv,?_⟩;rcases S.par y (Rq hp)with k|k
  ·exact .inl ⟨k,pF ndP hp hu k⟩
  ·obtain⟨c,e⟩:=qK (n:=s.heap.objs.size+1) k;refine .inr ⟨.inl k,c,e,?_⟩;have q:=x.cell y c e;rw[pD ndP hp hu (by show scope.names.lookup y≠_;rw[k];decide)]at q;exact q
 ·exact e0.IZ.fresh (Nat.le_of_lt (x.above y c (PySem.mem_of_lookup h)))
 ·unfold start;show _=N.length;rw[Mw,Kj,List.length_replicate];omega
theorem jB{CX:CXT}{P:Program}{w:World}{K:yac}{mg:yam}{base:Heap}{k:Nat}{f:Addr}{name qual:Str}{params:Arguments}{body:yal}{scope:Scope}{dV kV doc pm J2 ct oc:Value}{an od:Option Addr}
  {Oo:Array (yan)} {N ps:yah} {sp:Sp} (lk:K.lookup f=some ⟨oc,od,.func (PySem.W.fnOf name qual params body scope dV kV doc pm an J2 ct),Oo⟩) (LX:PySem.W.codeIn K J2 qual=true) (S:ay N ps scope)
  (len:∀vs H Q E,sp vs H Q E->vs.length=ps.length)
  (MN:∀(A:Around) (outer:List Env) (s:Shared) (H:Hp) (vs:yar) (Q:VK) (E:XK),aX k (A.deeper (envOfC qual scope s.heap.objs.size f J2))->sp vs H Q E →
   ∃ t,Qh (cf CX P w K mg base N qual scope f J2 A outer s H E) body t/\t {nx:=fun _ H'=>Q .HZ H',rt:=Q} (start N vs) H) :
  az P w K mg base CX (k+1) f (PySem.W.fnOf name qual params body scope dV kV doc pm an J2 ct) ps sp:=by
 refine⟨len,fun A outer s H args us vs Q E hr e0 hb r QE=>?_⟩;have hl:=len _ _ _ _ QE;have KX:K.In s.heap:=e0.mod.Pa.keeps fun b o e=>(e0.bs b o e).1
 have lim:s.heap.NoLimit:=e0.mod.nolimit.keeps fun b o e=>(e0.bs b o e).1
 have Tn:∀y∈ps.zip us,scope.names.lookup y.1=some .local∨(scope.names.lookup y.1=some .cell/\((cellsFrom (s.heap.objs.size+1) scope.names []).lookup y.1).isSome=true):=fun⟨n,v⟩ hy=>by
  rcases S.par n (List.of_mem_zip hy).1 with q|q
  ·exact .inl q
  ·exact .inr ⟨q,PySem.W.cellsFrom_some _ _ _ (.inl q)⟩
 refine codeAny_call_function hr.depth (KX _ _ lk) rfl S.co S.gen rfl (PySem.W.codeRec_of KX LX) (hb _ _ _ _ ?_);refine wpAny_newFunctionEnv_cells S.kind Tn fun env he s1 x=>?_
 subst he;refine⟨lim.keeps x.toInCall.keep,codeAny_func ?_⟩;obtain⟨t,ht,hq⟩:=MN A outer s H vs Q E (hr.deeper _) QE;have I:Inv (cf CX P w K mg base N qual scope f J2 A outer s H E) [] (start N vs) H s1:=wL S hr.hd e0 hl r x;refine L3 (ht [] s1 (start N vs) H _ I hq) (fun fl s' hs=>?_) fun e s' hs=>hs
 have fin:∀{σ':St} {H':Hp} {v:V} {u:Value},Inv (cf CX P w K mg base N qual scope f J2 A outer s H E) [] σ' H' s'->RelV v u->Q v H'->CE outer P w H s Q u s' :=
  fun {σ' H' v u} J rv q=>⟨v,H',J.os,J.bare,J.base,J.IZ,rv,q⟩
 cases fl with
 |ret u =>
  obtain⟨v,σ',H',J,rv,q⟩:=hs;exact fin J rv q
 |next =>
  obtain⟨σ',H',J,q⟩:=hs;exact fin (v:=V.HZ) (u:=Value.none) J rfl q
 |brk =>
  obtain⟨_,_,_,q⟩:=hs;exact False.elim q
 |cont =>
  obtain⟨_,_,_,q⟩:=hs;exact False.elim q
section
variable{X:Cx}{x:Str}{p pos:Pos}{e:Expr}{es:yai}{t:TA}{id T:String}{r:yar->Hp->VK->Prop}
def tCB(r:yar->Hp->VK->Prop)(t:TA):TE:=fun σ H Q=>t σ H fun vs H1=>r vs H1 Q
theorem rJ (hc:k6 X (.builtin id) r) (hg:Gl X x) (hm:X.mg x=none) (hv:bootBuiltins x=some (.builtin id)) (ha:PA X (e::es) t) (hn:x ≠ "__name__" := by decide) (Kl:(x==("__debug__" : Str))=false:=by decide)
  (he:starEach (e::es) X.env=(false,eval e X.env)::starEach es X.env:=by rfl) (KW:(backTo pos (starEach es X.env)).any (·.1)=false:=by rfl):PE X (.Call (.Name x p) (e::es) [] pos) (tCB r t):=by
 intro pins s σ H Q I h;refine Qv (fZ I hg hm hv ?_ hn Kl);exact PyProof.Rows.callWith_builtin1 (GU (ha pos pins s σ H _ I h) fun us s1 ⟨vs,H1,I1,r1,q1⟩=>hc pins s1 σ H1 vs us Q I1 r1 q1) he KW
end
end L2
namespace HT
open PySem PyProof.Rows
section
open PySem.SeqAt
open PySem.AutoSeq1 (wpAny_loadPart')
open PySem.MeetsSeq PySem.MeetsSeq2 PySem.MeetsSeq3
end
section
variable{prog:Program}{w:World}{A:Around}{E:yaa}{s:Shared}
def Md(n d:Nat):yaq->Nat
 |none=>d
 |some v=>if v<0 then(v+(n:Int)).toNat else min v.toNat n
theorem ig(n d:Nat):Md n d none=d:=rfl
theorem oR(n d k:Nat):Md n d (some (k:Int))=min k n:=by show(if(k:Int)<0 then((k:Int)+(n:Int)).toNat else min (k:Int).toNat n)=min k n;rw[GS (by omega),Int.toNat_natCast]
end
end HT
namespace L2
open PySem PySem.Spec PyProof.Rows
abbrev TO:=St->Hp->(yaq->Hp->Prop)->Prop
def PO(X:Cx)(e:Option Expr)(t:TO):Prop :=
 ∀ (pins:yab) (s:Shared) (σ:St) (H:Hp) (Q:yaq->Hp->Prop),Inv X pins σ H s->t σ H Q →
  wpAny (model X.prog X.w) X.A (evalPart e X.env) (fun u s'=>∃o H',Inv X pins σ H' s'/\IsPart u o/\Q o H') X.xe s
def Bp:TO:=fun _ H Q=>Q none H
def Fy(t:TE):TO:=fun σ H Q=>t σ H fun x H1=>∃i,x=.int i/\Q (some i) H1
section
variable{X:Cx}{e:Expr}{te:TE}{lo hi:Option Expr}{tl th:TO}{pos p2:Pos}
theorem oH:PO X none Bp:=by intro pins s σ H Q I h;rw[evalPart_none];exact JR ⟨none,H,I,.none,h⟩
theorem oI(h:PE X e te):PO X (some e) (Fy te):=by
 intro pins s σ H Q I hw;rw[evalPart_some];refine GU (h pins s σ H _ I hw) fun u s1 ⟨x,H1,I1,r1,q1⟩=>?_
 obtain⟨i,rfl,q⟩:=q1;obtain⟨t,rfl⟩:=r1;exact⟨some i,H1,I1,.int i t,q⟩
def SlR(X:Cx)(r:V->yaq->yaq->Hp->VK->Prop):Prop :=
 ∀ (pins:yab) (s:Shared) (σ:St) (H:Hp) (x:V) (v vl vu:Value) (lo hi:yaq) (sl:Addr) (Q:VK),Inv X pins σ H s->RelV x v->s.heap.IsSliceOf sl vl vu .none->IsPart vl lo->IsPart vu hi->r x lo hi H Q →
  ∃ T id,typeLookup (.type T) "__getitem__" = pure (some (.builtin id))/\s.TypeIs v T/\wpAny (model X.prog X.w) X.A (getItem v (.ref sl)) (EP X pins σ Q) X.xe s
def tSl(r:V->yaq->yaq->Hp->VK->Prop)(te:TE)(tl th:TO):TE:=fun σ H Q=>te σ H fun x H1=>tl σ H1 fun l H2=>th σ H2 fun u H3=>r x l u H3 Q
theorem me{r:V->yaq->yaq->Hp->VK->Prop}(hr:SlR X r)(he:PE X e te)(hl:PO X lo tl)(hu:PO X hi th):PE X (.Subscript e (.Slice lo hi none p2) pos) (tSl r te tl th):=by
 intro pins s σ H Q I h;refine Subscript_ (GU (he pins s σ H _ I h) fun v s1 ⟨x,H1,I1,r1,q1⟩=>?_);refine wpAny_Slice (GU (hl pins s1 σ H1 _ I1 q1) fun vl s2 ⟨l,H2,I2,pl,q2⟩=>GU (hu pins s2 σ H2 _ I2 q2) fun vu s3 ⟨u,H3,I3,pu,q3⟩=>?_);rw[evalPart_none];refine JR ?_;have I4:Inv X pins σ H3 {s3 with heap:=s3.heap.push {cls:=.type "slice", data:=.fields #[vl,vu,.none]} }:=I3.kept (t':=s3.toks) fun b ob q=>KU _ q
 obtain⟨T,id,hT,ht,hg⟩:=hr pins {s3 with heap:=s3.heap.push {cls:=.type "slice", data:=.fields #[vl,vu,.none]} } σ H3 x v vl vu l u s3.heap.objs.size Q I4 r1 (Heap.IsSliceOf.new ..) pl pu q3;show wpAny (model X.prog X.w) X.A (subscriptTail e (.Slice lo hi none p2) v (.ref s3.heap.objs.size)) (EP X pins σ Q) X.xe {s3 with heap:=s3.heap.push {cls:=.type "slice", data:=.fields #[vl,vu,.none]} };exact tail_any (ops:=[.ref s3.heap.objs.size,v]) ht hT hg (by with_unfolding_all rfl)
def cC(xs:yar)(lo hi:yaq):yar:=(xs.drop (HT.Md xs.length 0 lo)).take (HT.Md xs.length xs.length hi - HT.Md xs.length 0 lo)
theorem lL(xs:yar)(lo hi:yaq):(cC xs lo hi).length<=xs.length:=by unfold cC;rw[O6,Og];omega
end
def ixN(n:Nat)(i:Int):Option Nat:=if 0<=i then(if i<n then some i.toNat else none)else if -(n:Int)<=i then some (i+n).toNat else none
def KQ{α:Type}(xs:List α)(i:Int):Option α:=(ixN xs.length i).bind fun j=>xs[j]?
theorem ud{n:Nat}{i:Int}{j:Nat}(h:ixN n i=some j):seqIndex? i n=some j/\j<n/\-(n:Int)<=i/\i<n:=by
 unfold ixN at h;by_cases h0:0<=i
 ·rw[G4 h0]at h;by_cases h1:i<n
  ·rw[G4 h1]at h;have e:i.toNat=j:=Oh h;exact⟨by rw[seqIndex_of h0 h1,e],by omega,by omega,h1⟩
  ·rw[GS h1]at h;cases h
 ·rw[GS h0]at h;by_cases h1:-(n:Int)<=i
  ·rw[G4 h1]at h;have e:(i+n).toNat=j:=Oh h;exact⟨by rw[seqIndex_neg (by omega) h1,e],by omega,h1,by omega⟩
  ·rw[GS h1]at h;cases h
theorem nR{α:Type}{xs:List α}{i:Int}{v:α}(h:KQ xs i=some v):∃j,seqIndex? i xs.length=some j/\xs[j]?=some v/\j<xs.length/\-(xs.length:Int)<=i/\i<xs.length:=by
 unfold KQ at h;cases e:ixN xs.length i with
 |none=>rw[e]at h;cases h
 |some j =>
  rw[e]at h;obtain⟨h1,h2,h3,h4⟩:=ud e;exact⟨j,h1,h,h2,h3,h4⟩
theorem de{α:Type}{xs:List α}{j:Nat}{v:α}(h:xs[j]?=some v):KQ xs (j:Int)=some v:=by
 have hj:j<xs.length:=(OX.mp h).1;have e:ixN xs.length (j:Int)=some j:=by unfold ixN;rw[G4 (by omega),G4 (by omega)];simp
 unfold KQ;rw[e];exact h
theorem yh{α:Type}(xs:List α)(v:α):KQ (xs++[v]) (-1)=some v:=by
 have hl:(xs++[v]).length=xs.length+1:=by simp
 have e:ixN (xs++[v]).length (-1)=some xs.length:=by unfold ixN;rw[hl,GS (by decide),G4 (by omega)];congr 1;omega
 unfold KQ;rw[e];show(xs++[v])[xs.length]?=some v;simp
def nL(b:Expr):Prop:=∀o i,subscripted b false o i=operate [o,i] (getItem o i)
def Vd(X:Cx)(r:R2):Prop :=
 ∀ (value slice:Expr) (pins:yab) (s:Shared) (σ:St) (H:Hp) (x y:V) (v u:Value) (Q:VK),Inv X pins σ H s->RelV x v->RelV y u->r x y H Q →
  subscripted slice false v u=operate [v,u] (getItem v u)->wpAny (model X.prog X.w) X.A (subscriptTail value slice v u) (EP X pins σ Q) X.xe s
def MtR(X:Cx)(id:String)(r:V->yar->Hp->VK->Prop):Prop :=
 ∀ (pins:yab) (s:Shared) (σ:St) (H:Hp) (x:V) (xs:yar) (v:Value) (us:yad) (Q:VK),Inv X pins σ H s->RelV x v->Vals xs us->r x xs H Q →
  wpAny (model X.prog X.w) X.A (call (.builtin id) (v::us)) (EP X pins σ Q) X.xe s
section
variable{X:Cx}{a b:Expr}{ta tb:TE}{pos:Pos}
theorem jG{r:R2}(hr:Vd X r)(ha:PE X a ta)(hb:PE X b tb)(hs:nL b):PE X (.Subscript a b pos) (V0 r ta tb):=by intro pins s σ H Q I h;exact Subscript_ (BG ha hb I h fun v u s2 x y H2 I2 rx ry q=>hr a b pins s2 σ H2 x y v u Q I2 rx ry q (hs _ _))
def Gh(K:yac):R2:=fun x y H Q=>∃p xs i v,x=.ref p/\y=.int i/\SqL K H p xs/\KQ xs i=some v/\Q v H
def Gj(K:yac):R2:=fun x y H Q=>∃p xs i v,x=.ref p/\y=.int i/\JP K H p xs/\KQ xs i=some v/\Q v H
def Gi:R2:=fun x y H Q=>∃z i c,x=.str z/\y=.int i/\z.length<=sizeLine/\KQ z.cps.toList i=some c/\Q (.str ⟨#[c]⟩) H
theorem eG:Vd X (Gh X.K):=by
 intro value slice pins s σ H x y v u Q I rx ry h hs;obtain⟨p,xs,i,z,rfl,rfl,hq,he,q⟩:=h;cases rx;obtain⟨t,rfl⟩:=ry;obtain⟨its,r,pl,hz⟩:=I.list hq;obtain⟨j,h1,h2,h3,h4,h5⟩:=nR he;obtain⟨w,ew,V4⟩:=r.get h2;have hl:=r.length;have hn:=kz;have fin:EP X pins σ Q w s:=⟨z,H,I,V4,q⟩;by_cases h0:0<=i
 ·have hj:i.toNat=j:=by
   rw[seqIndex_of h0 h5]at h1;exact Oh h1
  exact item_listR pl.isList h0 (by omega) (by rw[hj];simpa using ew) fin hs
 ·have hj:(i+(its.toArray.size:Int)).toNat=j:=by
   rw[seqIndex_neg (by omega) h4]at h1;rw[MG,<- hl];exact Oh h1
  exact subscriptTail_builtinR (x:=w) pl.isList.typeIs slot_list_getitem.lookup
   (wpAny_getItem_list_neg (Q:=fun r s'=>r=w/\EP X pins σ Q r s') pl.isList (by omega) (by rw[MG]<;>omega) (by omega) (by rw[hj];simpa using ew) ⟨rfl,fin⟩) hs
theorem C2:Vd X (Gj X.K):=by
 intro value slice pins s σ H x y v u Q I rx ry h hs;obtain⟨p,xs,i,z,rfl,rfl,hq,he,q⟩:=h;cases rx;obtain⟨t,rfl⟩:=ry;obtain⟨its,r,pl,hz⟩:=I.tuple hq;obtain⟨j,h1,h2,h3,h4,h5⟩:=nR he;obtain⟨w,ew,V4⟩:=r.get h2;have hl:=r.length;have hn:=kz;have fin:EP X pins σ Q w s:=⟨z,H,I,V4,q⟩;exact subscriptTail_builtinR (x:=w) pl.typeIs slot_tuple_getitem.lookup
  (getItem_tuple (j:=j) (Q:=fun r s'=>r=w/\EP X pins σ Q r s') pl (by omega) (by omega) (by rw[MG,<- hl];exact h1) (by simpa using ew) ⟨rfl,fin⟩) hs
theorem C1:Vd X Gi:=by
 intro value slice pins s σ H x y v u Q I rx ry h hs;obtain⟨z,i,c,rfl,rfl,hz,he,q⟩:=h;obtain⟨t,rfl⟩:=rx;obtain⟨t',rfl⟩:=ry;obtain⟨j,h1,h2,h3,h4,h5⟩:=nR he;have hl:z.cps.toList.length=z.length:=by simp[Str.length]
 rw[hl]at h1 h4 h5;have hn:=kz;exact tail_any (Qy s z t) slot_str_getitem.lookup (getItem_str (c:=c) (by have e1:decide (i < -(2 ^ 63:Int))=false:=NV (by omega);have e2:decide (i≥2 ^ 63)=false:=NV (by omega);rw[e1,e2,Bool.or_false]) (by rw[h1];simpa using h2) ⟨.str ⟨#[c]⟩,H,I.tok _,⟨_,rfl⟩,q⟩) hs
theorem u3 (its:yad) (n j:Nat) (u:Value):Obj.mapSeq (·.setIfInBounds j u) {cls:=.type "list", data:=.seq its.toArray n}={cls:=.type "list", data:=.seq (its.set j u).toArray n}:=by simp[Obj.mapSeq]
theorem Inv.lst{pins:yab}{σ:St}{H:Hp}{s:Shared}{p:Addr}{xs:yar}(I:Inv X pins σ H s)(h:H p=some (.lst xs)) :
  ∃ (its:yad) (n:Nat),Vals xs its/\s.heap.get? p=some {cls:=.type "list", data:=.seq its.toArray n}/\xs.length<=sizeLine:=by
 obtain⟨z,its,n,r,e⟩:=I.IZ p _ h;exact⟨its,n,r,e,z⟩
theorem Inv.Pu{pins:yab}{σ:St}{H:Hp}{s:Shared}{p:Addr}{xs ys:yar}{its its':yad}{n n':Nat}{f:Obj->Obj}(I:Inv X pins σ H s)(h:H p=some (.lst xs))
  (ho:s.heap.get? p=some {cls:=.type "list", data:=.seq its.toArray n}) (hf:f {cls:=.type "list", data:=.seq its.toArray n}={cls:=.type "list", data:=.seq its'.toArray n'}) (r:Vals ys its') (hz:ys.length<=sizeLine) (t:Nat) :
  Inv X pins σ (upd H p (.lst ys)) {s with heap:=s.heap.update p f,toks:=t}:=by
 have e:(s.heap.update p f).get? p=some {cls:=.type "list", data:=.seq its'.toArray n'}:=by rw[Heap.get?_update_self f ho (by rw[hf]<;>rfl),hf]
 refine I.write (x:=p) (e:=p) (by rw[h];trivial) (.inl rfl) (fun b u hb q=>(UZ _ _ (Ne.symm hb)).trans q) ⟨_,e⟩ ?_;exact⟨hz,its',n',r,e⟩
def Fp:V->V->V->Hp->(Hp->Prop)->Prop:=fun o i v H Q=>∃p xs k j,o=.ref p/\i=.int k/\H p=some (.lst xs)/\ixN xs.length k=some j/\Q (upd H p (.lst (xs.set j v)))
theorem set_list:Bz X Fp:=by
 intro pins s σ H o i v ov iv u Q I ro ri rv h;obtain⟨p,xs,k,j,rfl,rfl,hp,hj,q⟩:=h;cases ro;obtain⟨t,rfl⟩:=ri;obtain⟨its,n,r,ho,hz⟩:=I.lst hp;obtain⟨h1,h2,h3,h4⟩:=ud hj;have hl:=r.length;have hn:=kz;have I':Inv X pins σ (upd H p (.lst (xs.set j v))) {s with heap:=s.heap.update p (Obj.mapSeq (·.setIfInBounds j u))} :=
  I.Pu hp ho (u3 its n j u) (r.set rv j) (by rw[S7];exact hz) s.toks
 by_cases h0:0<=k
 ·have hk:k.toNat=j:=by
   rw[seqIndex_of h0 h4]at h1;exact Oh h1
  exact PySem.W.ki_setAt ho h0 (by omega) (by rw[MG,<- hl];exact h4) (by rw[hk];exact⟨_,I',q⟩)
 ·have hk:(k+(its.toArray.size:Int)).toNat=j:=by
   rw[seqIndex_neg (by omega) h3]at h1;rw[MG,<- hl];exact Oh h1
  exact PySem.W.ki_setBack ho (by omega) (by rw[MG,<- hl];exact h3) (by omega) (by rw[hk];exact⟨_,I',q⟩)
theorem kT(lo hi:yaq)(n:Nat):(sliceBounds lo hi none n).1=((HT.Md n 0 lo:Nat):Int)/\(sliceBounds lo hi none n).2.1=((HT.Md n n hi:Nat):Int)/\(sliceBounds lo hi none n).2.2=1:=by
 refine⟨?_,?_,rfl⟩
 ·cases lo with
  |none=>simp[sliceBounds,HT.Md]
  |some i =>
   simp only[sliceBounds,HT.Md,Option.getD_none,show(1:Int) > 0 by decide,if_true];by_cases h:i<0
   ·simp only[h,if_true]<;>omega
   ·simp only[h,if_false]<;>omega
 ·cases hi with
  |none=>simp[sliceBounds,HT.Md]
  |some i =>
   simp only[sliceBounds,HT.Md,Option.getD_none,show(1:Int) > 0 by decide,if_true];by_cases h:i<0
   ·simp only[h,if_true]<;>omega
   ·simp only[h,if_false]<;>omega
theorem j2(its:yad)(lo hi:yaq):slicePick its.toArray lo hi none=((its.drop (HT.Md its.length 0 lo)).take (HT.Md its.length its.length hi - HT.Md its.length 0 lo)).toArray:=by obtain⟨h1,h2,h3⟩:=kT lo hi its.toArray.size;unfold slicePick;rw[h1,h2,h3];simp only[sliceRange_one,pick_run,MG]<;>rfl
def Gm(K:yac):V->yaq->yaq->Hp->VK->Prop:=fun x lo hi H Q=>∃a xs,x=.ref a/\SqL K H a xs/\∀p,H p=none->Q (.ref p) (upd H p (.lst (cC xs lo hi)))
theorem oZ:SlR X (Gm X.K):=by intro pins s σ H x v vl vu lo hi sl Q I rx hs pl pu h;obtain⟨a,xs,rfl,hx,q⟩:=h;cases rx;obtain⟨its,r,ht,hz⟩:=I.list hx;have hlen:=r.length;refine⟨"list", _,slot_list_getitem.lookup,ht.isList.typeIs,?_⟩;refine wpAny_getItem_list_slice ht.isList hs pl pu .none (by simp) ?_ (by rw[MG]<;>omega);rw[j2,<- hlen];refine⟨.ref s.heap.objs.size,_,I.laid (t':=s.toks) (o:=.lst (cC xs lo hi)) (fun b ob q=>KU _ q) (Ka _) ?_,rfl,q _ (I.IZ.fresh (Ka _))⟩;exact⟨MH (lL xs lo hi) hz,_,0,(r.drop (HT.Md xs.length 0 lo)).take (HT.Md xs.length xs.length hi - HT.Md xs.length 0 lo),Mv _ rfl⟩
theorem gU:k6 X (.builtin "len") (fun xs H Q=>∃p ys,xs=[.ref p]/\(SqL X.K H p ys∨JP X.K H p ys)/\Q (.int ys.length) H):=by
 intro pins s σ H xs us Q I r h;obtain⟨p,ys,rfl,hq,q⟩:=h;obtain⟨u,rfl,rx⟩:=vals1 r;cases rx;have hn:=kz;rcases hq with hq|hq
 ·obtain⟨its,r',pl,hz⟩:=I.list hq;have hlen:=r'.length;exact Calls.call_len_list pl.isList (by simp only[MG]<;>omega) ⟨.int ys.length,H,I.tok _,⟨s.toks+1,by rw[MG,hlen]⟩,q⟩
 ·obtain⟨its,r',pl,hz⟩:=I.tuple hq;have hlen:=r'.length;exact len_tuple pl (by simp only[MG]<;>omega) ⟨.int ys.length,H,I.tok _,⟨s.toks+1,by rw[MG,hlen]⟩,q⟩
theorem p9:k6 X (.type "tuple") (fun xs H Q=>∃p ys,xs=[.ref p]/\((SqL X.K H p ys/\∀l,H l=none->Q (.ref l) (upd H l (.tup ys)))∨(JP X.K H p ys/\Q (.ref p) H))):=by
 intro pins s σ H xs us Q I r h;obtain⟨p,ys,rfl,h⟩:=h;obtain⟨u,rfl,rx⟩:=vals1 r;cases rx;rcases h with⟨hq,q⟩| ⟨hq,q⟩
 ·obtain⟨its,r',pl,hz⟩:=I.list hq;have hlen:=r'.length;refine call_tuple_list pl.isList (fun h' kp=>?_) (by simp only[MG]<;>omega);have I1:Inv X pins σ H {s with heap:=h'}:=I.kept (t':=s.toks) kp;have I2:Inv X pins σ (upd H h'.objs.size (.tup ys)) {s with heap:=h'.push {cls:=.type "tuple", data:=.seq its.toArray} } :=
   I1.laid (t':=s.toks) (fun b o e=>KU _ e) (Ka _) (show bK X.prog X.w _ _ _ (.tup ys)from⟨hz,its,r',IsTup.new _ _⟩)
  exact⟨.ref h'.objs.size,_,I2,rfl,q _ (I1.IZ.fresh (Ka _))⟩
 ·obtain⟨its,r',pl,hz⟩:=I.tuple hq;exact call_tuple_same pl ⟨.ref p,H,I,rfl,q⟩
def Qk(K:yac)(T:String)(x:V)(H:Hp):Prop:=match x with
 |.str _=>T = "str"
 |.int _=>T = "int"
 |.ref p=>(T = "list" /\∃xs,SqL K H p xs)∨(T = "tuple" /\∃o,K.lookup p=some o/\o.cls=.type "tuple" /\ o.dict=none) ∨
   (T = "dict" /\ ((∃kvs,H p=some (.dK kvs))∨∃ kvs,H p=some (.dT kvs)))∨(T = "set" /\∃S n,H p=some (.set S n))
 |_=>False
theorem xQ{pins:yab}{σ:St}{H:Hp}{s:Shared}{T:String}{x:V}{v:Value}(I:Inv X pins σ H s)(r:RelV x v)(ty:Qk X.K T x H) :
  s.TypeIs v T/\∀a,v=.ref a->∃ob,s.heap.get? a=some ob/\ob.dict=none:=by
 cases x with
 |str z =>
  obtain⟨t,rfl⟩:=r;cases(show T = "str" from ty);exact⟨Qy s z t,fun _ e=>nomatch e⟩
 |int i =>
  obtain⟨t,rfl⟩:=r;cases(show T = "int" from ty);exact⟨typeIs_int s i t,fun _ e=>nomatch e⟩
 |ref p =>
  cases r;rcases ty with⟨rfl,xs,hq⟩| ⟨rfl,o,hk,hc,hd⟩| ⟨rfl,hk⟩| ⟨rfl,S,n,hk⟩
  ·obtain⟨its,_,pl,_⟩:=I.list hq;refine⟨pl.isList.typeIs,fun a e=>?_⟩;cases e;obtain⟨o,n,e,c,hd,_⟩:=pl;exact⟨o,e,hd⟩
  ·refine⟨⟨o,I.Ll p o hk,hc⟩,fun a e=>?_⟩;cases e;exact⟨o,I.Ll _ o hk,hd⟩
  ·have z:∃o,s.heap.get? p=some o/\o.ExactDict:=by
    rcases hk with⟨kvs,hk⟩| ⟨kvs,hk⟩
    ·obtain⟨_,_,_,_,o,_,_,e,ex,_⟩:=I.IZ p _ hk;exact⟨o,e,ex⟩
    ·obtain⟨_,_,_,_,o,_,_,e,ex,_⟩:=I.IZ p _ hk;exact⟨o,e,ex⟩
   obtain⟨o,e,ex⟩:=z;refine⟨⟨o,e,ex.1⟩,fun a e2=>?_⟩;cases e2;exact⟨o,e,ex.2.1⟩
  ·obtain⟨o,_,_,_,e,ex,_⟩:=I.IZ p _ hk;refine⟨⟨o,e,ex.1⟩,fun a e2=>?_⟩;cases e2;exact⟨o,e,ex.2.1⟩
 |_=>exact False.elim ty
def Gw(K:yac)(T:String)(r:V->yar->Hp->VK->Prop)(to:TE):TE:=fun σ H Q=>to σ H fun x H1=>Qk K T x H1/\r x [] H1 Q
def tBM(K:yac)(T:String)(r:V->yar->Hp->VK->Prop)(to:TE)(t:TA):TE:=fun σ H Q=>to σ H fun x H1=>Qk K T x H1/\t σ H1 fun xs H2=>r x xs H2 Q
variable{o e:Expr}{es:yai}{to:TE}{t:TA}{name:Str}{apos cpos:Pos}{T id:String}{r:V->yar->Hp->VK->Prop}
theorem DR (pa:PlainAttrs T) (slot:Slot T name id) (To:typeOf (.builtin id)=pure (.type "method_descriptor")) (hm:MtR X id r) (ho:PE X o to)
  (Kf:attributeBase o name X.env (eval o X.env)=eval o X.env:=by rfl) (Kg:(apos.endLine==cpos.line)=true:=by rfl):PE X (.Call (.Attribute o name apos) [] [] cpos) (Gw X.K T r to):=by
 intro pins s σ H Q I h;refine wpAny_Call_method0_late Kf Kg (GU (ho pins s σ H _ I h) fun v s1 ⟨x,H1,I1,r1,ty,q1⟩=>?_);obtain⟨h1,h2⟩:=xQ I1 r1 ty;exact⟨T,id,pa,slot,To,h1,h2,Calls.callWith_builtin rfl (PySem.evalArgs_none (hm pins s1 σ H1 x [] v [] Q I1 r1 .nil q1))⟩
theorem Fn (pa:PlainAttrs T) (slot:Slot T name id) (To:typeOf (.builtin id)=pure (.type "method_descriptor")) (hm:MtR X id r) (ho:PE X o to) (ha:PA X (e::es) t)
  (Kf:attributeBase o name X.env (eval o X.env)=eval o X.env:=by rfl)
  (Me:((backTo cpos (starEach (e::es) X.env)).all (fun x=>!x.1) && (backToKw cpos (keywordEach [] X.env)).all (fun x=>x.1.isSome)
   && decide ((e::es).length+([]:List Keyword).length+(if([]:List Keyword).isEmpty then 0 else 1)<30))=true:=by rfl)
  (Kg:(apos.endLine==cpos.line)=true:=by rfl) (hs:starEach (e::es) X.env=(false,eval e X.env)::starEach es X.env:=by rfl) (MO:(backTo cpos (starEach es X.env)).any (·.1)=false:=by rfl) :
  PE X (.Call (.Attribute o name apos) (e::es) [] cpos) (tBM X.K T r to t):=by
 intro pins s σ H Q I h;refine wpAny_Call_method_late Kf Me Kg rfl (GU (ho pins s σ H _ I h) fun v s1 ⟨x,H1,I1,r1,ty,q1⟩=>?_);obtain⟨h1,h2⟩:=xQ I1 r1 ty;refine⟨T,id,pa,slot,To,h1,h2,?_⟩;have hA:=ha cpos pins s1 σ H1 _ I1 q1;rw[hs]at hA ⊢;refine Calls.callWith_builtin (by show(false || (backTo cpos (starEach es X.env)).any (·.1))=false;rw[MO]<;>rfl) (Calls.evalArgs_plain ?_);exact GU hA fun us s2 ⟨vs,H2,I2,r2,q2⟩=>hm pins s2 σ H2 x vs v us Q I2 r1 r2 q2
end
def MtM(X:Cx)(id:String)(r:V->yar->Hp->VK->Prop):Prop :=
 ∀ (pins:yab) (s:Shared) (σ:St) (H:Hp) (x:V) (xs:yar) (v:Value) (us:yad) (Q:VK),Inv X pins σ H s->RelV x v->Vals xs us->r x xs H Q →
  wpAny (model X.prog X.w) X.A (call (.builtin id) (v::us)) (EP X pins σ Q) X.xe s
theorem Vals.one:∀{x:V} {us:yad},Vals [x] us->∃u,us=[u]/\RelV x u
 |_,_,.cons r .nil=>⟨_,rfl,r⟩
theorem Vals.zero:∀{us:yad},Vals [] us->us=[]
 |_,.nil=>rfl
theorem Vals.dropLast{xs:yar}{us:yad}(h:Vals xs us):Vals xs.dropLast us.dropLast:=by
 induction h with
 |nil=>exact .nil
 |cons r t ih =>
  cases t with
  |nil=>exact .nil
  |cons q t'=>exact .cons r ih
theorem uU{α:Type}(l:List α):l.eraseIdx (l.length - 1)=l.dropLast:=by
 induction l with
 |nil=>rfl
 |cons a r ih =>
  cases r with
  |nil=>rfl
  |cons b r =>
   have e:(a::b::r).length - 1=((b::r).length - 1)+1:=by have h1:(a::b::r).length=r.length+2:=rfl;have h2:(b::r).length=r.length+1:=rfl;omega
   rw[e,List.eraseIdx_cons_succ,ih]
   all_goals rfl
section
variable{X:Cx}{pins:yab}{σ:St}{H:Hp}{s:Shared}{l b:Addr}{xs ys zs:yar}
theorem Inv.Tp{its its':yad}{n:Nat}{f:yao->yao}{t':Nat}(I:Inv X pins σ H s)(hH:H l=some (.lst xs))
  (e:s.heap.get? l=some {cls:=.type "list", data:=.seq its.toArray n}) (hf:f its.toArray=its'.toArray) (hv:Vals ys its') (hz:ys.length<=sizeLine) :
  Inv X pins σ (upd H l (.lst ys)) {s with heap:=s.heap.update l (Obj.mapSeq f),toks:=t'}:=by
 have q:=PySem.IsL.update e f;rw[hf]at q;refine I.write (x:=l) (e:=l) (by rw[hH];exact trivial) (.inl rfl) (fun b' u hb hu=>(UZ s.heap (Obj.mapSeq f) (Ne.symm hb)).trans hu) ⟨_,q⟩ ?_;exact⟨hz,its',_,hv,q⟩
theorem Inv.V5{its:yad}{t':Nat}(I:Inv X pins σ H s)(hv:Vals ys its)(hz:ys.length<=sizeLine) :
  Inv X pins σ (upd H s.heap.objs.size (.lst ys)) {s with heap:=s.heap.push {cls:=.type "list", data:=.seq its.toArray},toks:=t'} :=
 I.laid (fun _ _ q=>KU _ q) (Ka _) ⟨hz,its,0,hv,Mv _ rfl⟩
theorem Inv.fresh(I:Inv X pins σ H s):H s.heap.objs.size=none:=I.IZ.fresh (Ka _)
theorem Inv.QF (I:Inv X pins σ H s) (hH:H l=some (.lst xs)):xs.length<=sizeLine/\∃(its:yad) (n:Nat),Vals xs its/\xs.length=its.length/\s.heap.get? l=some {cls:=.type "list", data:=.seq its.toArray n}:=by obtain⟨z,its,n,r,e⟩:=I.IZ l _ hH;exact⟨z,its,n,r,r.length,e⟩
end
section
variable{X:Cx}
def A5:V->yar->Hp->VK->Prop:=fun x vs H Q=>∃l xs y,x=.ref l/\vs=[y]/\H l=some (.lst xs)/\xs.length<sizeLine/\Q .HZ (upd H l (.lst (xs++[y])))
theorem pP:MtM X "list.append" A5:=by intro pins s σ H x vs v us Q I rx rv h;obtain⟨l,xs,y,rfl,rfl,hH,hz,q⟩:=h;cases rx;obtain⟨u,rfl,ru⟩:=rv.one;obtain⟨z,its,n,r,hl,e⟩:=I.QF hH;refine call_meets F.slot_list_append ⟨_,e,rfl⟩ F.entry_list_append (F.args_list_append_2 _ _) (PySem.list_append l its.toArray n u (by rw[MG];omega)) ⟨e,?_⟩;refine⟨.HZ,_,I.Tp (its':=its++[u]) hH e (by simp) (r.append (.cons ru .nil)) ?_,rfl,q⟩;rw[Mw,List.length_singleton];omega
def Gk:V->yar->Hp->VK->Prop:=fun x vs H Q=>∃l xs y,x=.ref l/\vs=[]/\H l=some (.lst xs)/\xs[xs.length - 1]?=some y/\Q y (upd H l (.lst xs.dropLast))
theorem Dl:MtM X "list.pop" Gk:=by
 intro pins s σ H x vs v us Q I rx rv h;obtain⟨l,xs,y,rfl,rfl,hH,hy,q⟩:=h;cases rx;have hus:=rv.zero;subst hus;obtain⟨z,its,n,r,hl,e⟩:=I.QF hH;obtain⟨u,hu,ru⟩:=r.get hy;have RH:its.toArray[its.toArray.size - 1]?=some u:=by show its.toArray[its.length - 1]?=some u;rw[<- Array.getElem?_toList,<- hl];exact hu
 refine call_meets F.slot_list_pop ⟨_,e,rfl⟩ F.entry_list_pop (F.args_list_pop_1 _) (MeetsSeq.list_pop_last l its.toArray n u RH (by rw[MG];omega)) ⟨e,?_⟩;refine⟨y,_,I.Tp (its':=its.dropLast) hH e ?_ r.dropLast ?_,ru,q⟩
 ·show its.toArray.eraseIdxIfInBounds (its.toArray.size - 1)=its.dropLast.toArray;rw[MG,List.eraseIdxIfInBounds_toArray,uU]
 ·rw[List.length_dropLast];omega
def Gg:R2:=fun x y H Q=>∃l b xs zs,x=.ref l/\y=.ref b/\H l=some (.lst xs)/\H b=some (.lst zs)/\xs.length+zs.length<=sizeLine/\∀p,H p=none->Q (.ref p) (upd H p (.lst (xs++zs)))
theorem xh:MA X (binaryOp .Add) Gg:=by
 intro pins s σ H x y v u Q I rx ry h;obtain⟨l,b,xs,zs,rfl,rfl,hH,hB,hz,q⟩:=h;cases rx;cases ry;obtain⟨z,its,n,r,hl,e⟩:=I.QF hH;obtain⟨z2,NA,n2,r2,hl2,e2⟩:=I.QF hB;refine PySem.P.add_list e e2 ?_ (by rw[MG,MG];omega);have ea:its.toArray++NA.toArray=(its++NA).toArray:=by simp
 rw[ea];exact⟨.ref _,_,I.V5 (t':=s.toks) (r.append r2) (by rw[Mw];omega),rfl,q _ I.fresh⟩
end
section
variable{prog:Program}{w:World}{A:Around}{E:yaa}{s:Shared}
set_option maxRecDepth 100000 in
end
end L2
namespace Att
open PySem PySem.W PySem.Calls PyProof.Rows
theorem mO{P:Params}{h:Heap}:∀(ns:yaf) (vs:yad),WellAll P h vs (ns.map WData.int)->IntsAre vs ns:=by
 intro ns
 induction ns with
 |nil =>
  intro vs w;rw[Qf]at w;cases w;exact .nil
 |cons n ns ih =>
  intro vs w;rw[Nj]at w;cases w with
  |cons a b =>
   cases a;exact .cons _ _ (ih _ b)
theorem xE{l:OpenLaw}{n:Nat}(hn:l.most=some n){P:Params}{h:Heap}{args:List WData}{vals:yad}
  (QG:l.row.toRowW.claim.pre args=true) (V6:WellAll P h vals args) :
  ∃ a vs ns,vals=[Value.ref a]/\args=[WData.list (ns.map WData.int)]/\h.get? a=some {cls:=.type "list", data:=.seq vs.toArray}/\IntsAre vs ns/\ns.length<=n:=by
 have hsh:WShape.hasAll [] args [.list .int]=true:=(pre_splitW QG).1;have hc:l.pre.holds [] {args:=args}=true:=(pre_splitW QG).2;obtain⟨d,r,rfl,h1,h2⟩:=hasAllW_cons hsh;obtain rfl:=hasAllW_nil h2;obtain⟨xs,rfl,h3⟩:=hasW_list h1;obtain⟨ns,rfl⟩:=items_int h3;have hlen:ns.length<=n:=by
  unfold OpenLaw.pre at hc;have h4:(WTm.not (.lt (.lit (.int (n:Int))) (.len (.arg 0)))).holds [] {args:=[.list (ns.map .int)]}=true:=by have h4:=(holds_andW hc).1;rw[hn]at h4;exact h4
  have h5:=condW_of h4 (w_not (w_lt w_lit (w_len_list (w_arg rfl))));rw[Kj]at h5;refine Nat.le_of_not_lt fun q=>?_
  have q':(n:Int)<((ns.length:Nat):Int):=by omega
  first
   |(rw[Ni q']at h5;exact absurd h5 (by decide))
   |(simp at h5;omega)
 cases V6 with
 |cons w1 w2 =>
  cases w2;cases w1 with
  |list ho MP=>exact⟨_,_,ns,rfl,rfl,ho,mO ns _ MP,hlen⟩
theorem xq(l:OpenLaw)(args:List WData):l.row.toRowW.claim.post args (.bool true) args=true :=
 postW_of (r:=l.row.toRowW) (X:=(true==true))
  (show WShape.has [] (.bool true) .bool=true by first|rfl|decide|simp[WShape.has,WShape.arms,WShape.armsAll])
  (show(WTm.eq .res (.lit (.bool true))).value [] {args:=args,res:=some (.bool true),after:=args}=some (.bool (true==true))from w_eq_bool (w_res rfl) w_lit) rfl
theorem sL{l:OpenLaw}{n:Nat}{q:Program}{loose:yah}{XP:(yam)->Heap->Prop}{YP:World->Heap->Prop}{d:DefRec}
  (hn:l.most=some n) (V7:d.params.defaults=[])
  (call:∀(w:World) (IA Hm:Shared) (mg mb:yam) (fa:Addr) (o:Obj) (pm cd doc:Value) (a:Addr) (vs:yad) (ns:yaf),
   Ground q loose [] XP w IA mg mb Hm.heap->YP w Hm.heap →
   Hm.heap.get? fa=some o->o.data=.func (docDef d.name d.params d.body d.scope pm cd doc)->Hm.heap.CodeRec cd d.name->mg d.name=some (.ref fa) →
   Hm.heap.get? a=some {cls:=.type "list", data:=.seq vs.toArray}->IntsAre vs ns->ns.length<=n->Hm.gens=#[] →
   codeAny (model l.prog w) callerA (.call (.ref fa) ⟨[.ref a],[]⟩) (fun r s'=>r=.ok (.ret (.bool true))/\OldK Hm.heap s'.heap/\s'.os=Hm.os/\AllBare s'.gens) Hm) :
  WalkO q loose XP YP l.row.toRowW d [] (fun f vs=>PySem.call f vs):=by
 intro w IA Hm mg mb G Y fa o pm cd doc dV kV ho hd LX hD Oq hg args vals as QG hlay hrd V6 hlo;obtain rfl:dV=.none:=Dflts.none hD V7;obtain rfl:kV=.none:=Dflts.noKw hD;obtain⟨a,vs,ns,rfl,rfl,RJ,hints,hlen⟩:=xE hn QG V6;refine enter_call (codeAny_mono (call w IA Hm mg mb fa o pm cd doc a vs ns G Y ho (fd_plain hd) LX Oq RJ hints hlen hg) fun r s' hq=>?_);obtain⟨rfl,h2,h3,h4⟩:=hq;exact⟨.inl ⟨.bool true,.bool true,[],rfl,fun _=>rfl,.bool true,xq l _,fun _=>⟨List.Pairwise.nil,fun _ hm=>(nomatch hm)⟩⟩,h2,h3,h4⟩
section
variable{prog:Program}{w:World}{A:Around}{E:yaa}{s:Shared}{K:Frag}
def ledger(h:Heap)(L d:Addr):yab:=(List.range h.objs.size).filterMap fun a=>if a=L∨a=d then none else(h.get? a).map fun o=>(a,o)
end
end Att
namespace L2
open PySem PySem.Spec PyProof.Rows
theorem iI:∀{vs:yad} {ns:yaf},IntsAre vs ns->Vals (ns.map V.int) vs
 |_,_,.nil=>.nil
 |_,_,.cons n t h=>.cons ⟨t,rfl⟩ (iI h)
def bH(s:Stmt):Arguments:=match s with
 |.FunctionDef _ a _ _ _ _ _ _ _ _=>a
 |_=>{posonlyargs:=[],args:=[],vararg:=none,kwonlyargs:=[],kw_defaults:=[],kwarg:=none,defaults:=[]}
def bo(s:Stmt):yal:=match s with
 |.FunctionDef _ _ b _ _ _ _ _ _ _=>b
 |_=>[]
def ai(s:Stmt):Scope:=match s with
 |.FunctionDef _ _ _ _ _ _ sc _ _ _=>sc
 |_=>{kind:=.function,names:=[],isGenerator:=false,isCoroutine:=false}
abbrev E0:XK:=fun _ _ _=>False
structure Fun(K:yac)(x qual:Str)(st:Stmt)(f:Addr)(fd:FuncData):Prop where
 ex:∃(oc:Value) (od:Option Addr) (kV doc pm:Value) (an:Option Addr) (J2 ct:Value) (Oo:Array (yan)),
  fd=PySem.W.fnOf x qual (bH st) (bo st) (ai st) .none kV doc pm an J2 ct/\K.lookup f=some ⟨oc,od,.func fd,Oo⟩/\PySem.W.codeIn K J2 qual=true
 kp:PySem.W.keepIn K (.ref f)=true
section
variable{X:Cx}
theorem pv (i:Nat) {x:Str} {pos:Pos} (hN:X.N[i]?=some x:=by rfl) (hv:RB X.env.scope x:=by first|exact Or.inl rfl|exact Or.inr (Or.inl rfl)|exact Or.inr (Or.inr rfl)) (hd:(x==("__debug__" : Str))=false:=by decide)
  (LX:(x==("__classdict__" : Str))=false:=by decide):PE X (.Name x pos) (vJ i):=kG hN hv hd LX
end
def ag(H H':Hp):Prop:=∀b o,H b=some o->H' b=some o
theorem ag.refl(H:Hp):ag H H:=fun _ _ h=>h
theorem ag.trans{H H1 H2:Hp}(a:ag H H1)(b:ag H1 H2):ag H H2:=fun c o h=>b c o (a c o h)
theorem ag.free{H H':Hp}(e:ag H H'){l:Addr}(h:H' l=Option.none):H l=Option.none:=by
 cases q:H l with
 |none=>rfl
 |some o =>
  rw[e l o q]at h;cases h
theorem ag.seq{K:yac}{H H':Hp}{a:Addr}{xs:yar}(e:ag H H')(h:SqL K H a xs):SqL K H' a xs:=by
 rcases h with(h|⟨o,h⟩)|h
 ·exact .inl (.inl (e _ _ h))
 ·exact .inl (.inr ⟨o,e _ _ h⟩)
 ·exact .inr h
end L2
set_option maxHeartbeats 4000000
namespace L2
open PySem PySem.Spec PyProof.Rows
def lQ(i:Expr):Prop:=∀ov iv,subscripted i false ov iv=operate [ov,iv] (getItem ov iv)
theorem Bo{prog:Program}{w:World}{A:Around}{E:yaa}{s:Shared}{env:Env}{value slice:Expr}{pos:Pos}{T id:String}{Q:yaa}
  (hl:typeLookup (.type T) "__getitem__" = pure (some (.builtin id))) (hs:lQ slice)
  (h:wpAny (model prog w) A (eval value env) (fun o Hm=>wpAny (model prog w) A (eval slice env) (fun i GY=>GY.TypeIs o T/\wpAny (model prog w) A (getItem o i) Q E GY) E Hm) E s) :
  wpAny (model prog w) A (eval (.Subscript value slice pos) env) Q E s:=by
 refine Subscript_ (L3 h (fun o Hm Lp=>L3 Lp (fun i GY Ot=>?_) fun _ _ x=>x) fun _ _ x=>x);obtain⟨hT,Ot⟩:=Ot;unfold subscriptTail;refine G0 ?_;rw[getitemInPython_of_ne hT.not_modules];refine G0 (wpAny_specialOf hT hl ?_);have fin:wpAny (model prog w) A (subscripted slice false o i) (fun r Lw=>wpAny (model prog w) A (letTemporaryGo value o r >>= fun _=>pure r) Q E Lw) E GY:=by rw[hs o i];exact wpAny_operating (L3 Ot (fun r Lw V8=>G0 (wpAny_letTemporaryGo (JR V8))) fun _ _ x=>x)
 first
  |exact JR (G0 fin)
  |exact G0 (JR (G0 fin))
  |exact G0 fin
abbrev VV:List (V×V)->List (Value×Value)->Prop:=Paired fun p q=>RelV p.1 q.1/\RelV p.2 q.2
structure M1(X:Cx)(o:Expr)(m:Str)(apos:Pos)(e:Expr)(cpos:Pos):Prop where
 base:attributeBase o m X.env (eval o X.env)=eval o X.env
 few:((backTo cpos (starEach [e] X.env)).all (fun x=>!x.1) && (backToKw cpos (keywordEach [] X.env)).all (fun x=>x.1.isSome)
  && decide (([e]:yai).length+([]:List Keyword).length+(if([]:List Keyword).isEmpty then 0 else 1)<30))=true
 line:(apos.endLine==cpos.line)=true
 trees:backTo cpos (starEach [e] X.env)=[(false,eval e X.env)]
structure M2(X:Cx)(o:Expr)(m:Str)(apos:Pos)(e f:Expr)(cpos:Pos):Prop where
 base:attributeBase o m X.env (eval o X.env)=eval o X.env
 few:((backTo cpos (starEach [e,f] X.env)).all (fun x=>!x.1) && (backToKw cpos (keywordEach [] X.env)).all (fun x=>x.1.isSome)
  && decide (([e,f]:yai).length+([]:List Keyword).length+(if([]:List Keyword).isEmpty then 0 else 1)<30))=true
 line:(apos.endLine==cpos.line)=true
 trees:backTo cpos (starEach [e,f] X.env)=[(false,eval e X.env),(false,eval f X.env)]
end L2
namespace PM
def g3(x y z:Int):Nat:=Int.gcd (Int.gcd x y:Int) z
end PM
namespace PX
open PySem PySem.W PySem.Spec PySem.Calls PyProof.Rows PySem.Builtin.ObjectAttr PySem.Builtin.Getset_descriptor
def ExcAt(e c:Addr)(h:Heap):Prop:=∃o vs,h.get? e=some o/\o.cls=.ref c/\o.data=.fields vs
theorem ExcAt.ty{M:Model}{e c:Addr}{h:Heap}(p:ExcAt e c h):Looks M h (typeOf (.ref e)) (.ref c):=by obtain⟨o,vs,h1,h2,_⟩:=p;exact h2 ▸ (Looks.ld h1).andThen .now
def kj(K:Frag)(c:Addr):Bool :=
 (clsIn K c).isSome && findIn K (.ref c) "__getattribute__" == some (some (.builtin "BaseException.__getattribute__"))
 && findIn K (.ref c) "__getattr__" == some none && findIn K (.ref c) "__class__" == some (some (.builtin "object.__class__"))
 && specialIn K (.builtin "object.__class__") "__get__" == some (some (.builtin "getset_descriptor.__get__"))
 && takesIn K (.builtin "object.__class__")==some true
 && mroIn K c (.type "object")==some true && mroIn K c (.type "BaseException")==some true
 && kitOne K (.ref c) (.type "int")==some false && kitOne K (.ref c) (.type "bool")==some false && kitOne K (.ref c) (.type "tuple")==some false
 && kitOne K (.ref c) (.type "list")==some false && kitOne K (.ref c) (.type "str")==some false
def yM(K:Frag)(c:Addr):Bool :=
 plainGet K c "__class__" && hasDictIn K c && findIn K (.ref c) "__class__" == some (some (.builtin "object.__class__"))
 && specialIn K (.builtin "object.__class__") "__get__" == some (some (.builtin "getset_descriptor.__get__"))
 && takesIn K (.builtin "object.__class__")==some true && mroIn K c (.type "object")==some true
 && kitOne K (.ref c) (.type "int")==some false && kitOne K (.ref c) (.type "bool")==some false && kitOne K (.ref c) (.type "tuple")==some false
 && kitOne K (.ref c) (.type "list")==some false && kitOne K (.ref c) (.type "str")==some false
structure eK(K:Frag)(c:Addr):Prop where
 pg:plainGet K c "__class__" = true
 hd:hasDictIn K c=true
 at_:findIn K (.ref c) "__class__" = some (some (.builtin "object.__class__"))
 get:specialIn K (.builtin "object.__class__") "__get__" = some (some (.builtin "getset_descriptor.__get__"))
 takes:takesIn K (.builtin "object.__class__")=some true
 obj:mroIn K c (.type "object")=some true
 not:∀T,(T = "int" ∨ T = "bool" ∨ T = "tuple" ∨ T = "list" ∨ T = "str")->kitOne K (.ref c) (.type T)=some false
theorem eK.of{K:Frag}{c:Addr}(h:yM K c=true):eK K c:=by
 unfold yM at h;simp only[N6,beq_iff_eq]at h;obtain⟨⟨⟨⟨⟨⟨⟨⟨⟨⟨h1,h2⟩,h3⟩,h4⟩,h5⟩,h6⟩,h9⟩,h10⟩,h11⟩,RK⟩,h13⟩:=h;exact⟨h1,h2,h3,h4,h5,h6,fun T hT=>by rcases hT with e|e|e|e|e<;>subst e<;>assumption⟩
structure bG(K:Frag)(c:Addr):Prop where
 cls:(clsIn K c).isSome=true
 ga:findIn K (.ref c) "__getattribute__" = some (some (.builtin "BaseException.__getattribute__"))
 hook:findIn K (.ref c) "__getattr__" = some none
 at_:findIn K (.ref c) "__class__" = some (some (.builtin "object.__class__"))
 get:specialIn K (.builtin "object.__class__") "__get__" = some (some (.builtin "getset_descriptor.__get__"))
 takes:takesIn K (.builtin "object.__class__")=some true
 obj:mroIn K c (.type "object")=some true
 exc:mroIn K c (.type "BaseException")=some true
 not:∀T,(T = "int" ∨ T = "bool" ∨ T = "tuple" ∨ T = "list" ∨ T = "str")->kitOne K (.ref c) (.type T)=some false
theorem bG.of{K:Frag}{c:Addr}(h:kj K c=true):bG K c:=by
 unfold kj at h;simp only[N6,beq_iff_eq]at h;obtain⟨⟨⟨⟨⟨⟨⟨⟨⟨⟨⟨⟨h1,h2⟩,h3⟩,h4⟩,h5⟩,h6⟩,h7⟩,h8⟩,h9⟩,h10⟩,h11⟩,RK⟩,h13⟩:=h;exact⟨h1,h2,h3,h4,h5,h6,h7,h8,fun T hT=>by rcases hT with e|e|e|e|e<;>subst e<;>assumption⟩
section
variable{prog:Program}{w:World}{A:Around}{E:yaa}{s:Shared}{K:Frag}{e c:Addr}
theorem FA {R:Result->Shared->Prop} {tp:Value} (X:K.In s.heap) (p:ExcAt e c s.heap) (hm:mroIn K c (.type "object")=some true) (hq:R (.ok (.ret (.ref c))) s) :
  codeAny (model prog w) A (.call (.builtin "getset_descriptor.__get__") ⟨[.builtin "object.__class__", .ref e,tp],[]⟩) R s:=by
 obtain⟨h,g,dr,t,os⟩:=s;have La:=p.ty (M:=model prog w);have Lb:=looks_mroIn (M:=model prog w) X hm;refine codeAny_call_builtin (KF.slot_gs.plain) KF.entry_gs (KF.slot_gs.check _ _ _ _ _ _ _ _ KF.type_class (KF.args_gs _ _ _) ?_);unfold Builtin.«getset_descriptor.__get__» descrGet;rw[dga_obj];refine G0 (JR ?_);unfold descrGetter descrCheckInstance descrNameAndClass isInstance;simp only[KF.owner_class]
 repeat lk
 refine⟨Code.quiet_builtin _ (by decide +kernel),codeAny_builtin KF.entry_class ?_⟩;unfold Builtin.«object.__class__» shownTypeOf
 repeat lk
 exact hq
theorem Ek {M:Model} {h:Heap} (k:bG K c) (X:K.In h):Looks M h (find (.ref e) (.ref c) "__class__") (.bind (.builtin "getset_descriptor.__get__") (.builtin "object.__class__")):=by have La:=looks_findIn (M:=M) X k.at_;have Lb:Looks M h (getOf (some (.builtin "object.__class__"))) (some (.builtin "getset_descriptor.__get__")):=looks_specialIn X k.get;have Lc:=looks_takesIn (M:=M) X k.takes;refine La.andThen (Lb.andThen ?_);exact(show Looks M h (dataDescriptor? (some (.builtin "object.__class__")) (some (.builtin "getset_descriptor.__get__"))) (some (.builtin "getset_descriptor.__get__", .builtin "object.__class__"))from Lc.andThen .now).andThen (Looks.tag .now)
theorem Bu{tk:Tok}{Q:Fin->Shared->Prop}(k:bG K c)(X:K.In s.heap)(p:ExcAt e c s.heap)(hq:Q (.done (.ret (.ref c))) s) :
  wpAny (model prog w) A (Builtin.«object.__getattribute__» ⟨[.ref e,.str "__class__" tk],[]⟩) Q E s:=by
 obtain⟨h,g,dr,t,os⟩:=s;have La:=p.ty (M:=model prog w);have Lb:=Ek (M:=model prog w) (e:=e) k X;refine G0 (JR ?_);refine G0 (JR ?_);refine G0 (La.at (G0 (Lb.at ?_)));show wpAny _ _ (bindTo _ _ _ _) _ _ _;unfold bindTo
 repeat (first|with_reducible refine G0 ?_|with_reducible refine NR ?_)
 refine wpAny_call (FA X p k.obj ?_);exact JR hq
theorem Bt{M:Model}{nv:Value}{Q:Unit->Shared->Prop}(k:bG K c)(X:K.In s.heap)(p:ExcAt e c s.heap)(hq:Q () s) :
  wpAny M A (checkBuiltinCall "BaseException.__getattribute__" ⟨[.ref e,nv],[]⟩) Q E s:=by
 obtain⟨h,g,dr,t,os⟩:=s;have hk:builtinKind "BaseException.__getattribute__" = some .slot:=by decide +kernel
 have QE:splitId "BaseException.__getattribute__" = some ("BaseException", "__getattribute__"):=by decide +kernel
 have ha:=F.args_bexc_ga (.ref e) nv;have La:=p.ty (M:=M);have Lb:=looks_mroIn (M:=M) X k.exc;have Li:Looks M h (isInstance (.ref e) (.type "BaseException")) true:=La.andThen Lb;simp only[checkBuiltinCall,hk,QE];refine G0 (Li.at ?_)
 repeat (first|wp_step)
 exact hq
theorem x_call{tk:Tok}{R:Result->Shared->Prop}(k:bG K c)(X:K.In s.heap)(p:ExcAt e c s.heap)(hq:R (.ok (.ret (.ref c))) s) :
  codeAny (model prog w) A (.call (.builtin "BaseException.__getattribute__") ⟨[.ref e,.str "__class__" tk],[]⟩) R s :=
 codeAny_call_builtin F.excAttr_ValueError.ga.plain F.entry_bexc_ga (Bt k X p (Bu k X p hq))
theorem Ej{Q:yan->Shared->Prop}(k:bG K c)(X:K.In s.heap)(p:ExcAt e c s.heap)(hq:Q (some (.ref c)) {s with toks:=s.toks+1}) :
  wpAny (model prog w) A (getAttr? (.ref e) "__class__") Q E s:=by
 obtain⟨h,g,dr,t,os⟩:=s;have La:=p.ty (M:=model prog w);have Lb:=looks_findIn (M:=model prog w) X k.ga;have Lc:=looks_findIn (M:=model prog w) X k.hook;have f3:=F.excAttr_ValueError.ga.bind (.ref e);unfold getAttr? getAttrBy? getAttrBy;refine G0 (wpAny_mkText (G0 (wpAny_attempt (NR (G0 (La.at (G0 (Lb.at ?_))))))));have MC:(Value.builtin "BaseException.__getattribute__" == Value.builtin "object.__getattribute__")=false:=by decide +kernel
 simp only[onTheHeap,Sw,MC,UY,if_false];unfold getAttrByItsOwn hookBefore;simp only[onTheHeap,if_true];refine G0 (Lc.at ?_);refine G0 (wpAny_attempt (NR ?_));unfold callGetattribute boundAndCalled;simp only[S8,UY,if_false];refine G0 (wpAny_of_eq f3 ?_);refine wpAny_call (x_call k X p ?_);refine JR (a:=Value.ref c) ?_;exact JR hq
theorem yD(k:bG K c):KitX K (.ref e) (.ref c) (ExcAt e c) where
 ty:=fun _ _ _ p=>p.ty
 it:=fun _ _ X _=>by
  have h:=k.cls;unfold clsIn at h;split at h
  ·rename_i c' d' cd' VS ho;intro A' Q' E' s' kk q;unfold isType loadHead;exact G0 (wpAny_loadPart (kk _ _ (X _ _ ho)) (JR q))
  ·cases h
 ne:=fun h tp dd its n sl X htp=>by
  have h:=k.cls;refine Bool.eq_false_iff.mpr fun q=>?_
  have z:c=tp:=Value.ref.inj (beq_iff_eq.mp q);subst z;unfold clsIn at h;split at h
  ·rename_i c' d' cd' VS ho;cases(X _ _ ho).symm.trans htp
  ·cases h
 ca:=fun X p kk=>Ej k X p kk
end
end PX
namespace PD
open PySem PySem.Spec PyProof.Rows L2 PX
abbrev St:=L2.St
def NT:HO->Prop
 |.Mz _=>False
 |_=>True
def Gb:Str := "lightest.<locals>.<lambda>"
def Bv(c:Addr):Heap->Prop:=fun h=>h.CodeRec (.ref c) Gb
def cx(H:Hp):Prop:=∀P ps,H P=some (.Mz ps)->TriplesOk ps.toList/\∀pos cv,codeAmong pos ps.toList=some cv->∃c,cv=.ref c/\H c=some (.ext (Bv c))
def tabOf(K:yac):Option Addr :=
 match PySem.W.nsIn K mainGlobals "lightest" with
 |some (some (.ref f))=>(match K.lookup f with
  |some ⟨_,_,.func fd,_⟩=>(match fd.code with
   |.ref c=>(match K.lookup c with
    |some ⟨_,_,.fields vs,_⟩=>(match(vs[11]?:yan)with
     |some (.ref P)=>if(K.lookup P).isNone=true then some P else none
     |_=>none)
    |_=>none)
   |_=>none)
  |_=>none)
 |_=>none
structure ag(H H':Hp):Prop where
 kp:∀b o,H b=some o->NT o->H' b=some o
 tb:∀b ps,H b=some (.Mz ps)->∃more,H' b=some (.Mz (ps++more))
 ok:cx H->cx H'
theorem ag.app{H H':Hp}(e:ag H H')(b:Addr)(o:HO)(h:H b=some o)(nt:NT o:=by first|exact True.intro|assumption):H' b=some o:=e.kp b o h nt
instance {H H':Hp}:CoeFun (ag H H') (fun _=>∀(b:Addr) (o:HO),H b=some o->(nt:NT o:=by first|exact True.intro|assumption)->H' b=some o):=⟨@ag.app H H'⟩
theorem ag.refl(H:Hp):ag H H:=⟨fun _ _ h _=>h,fun _ ps h=>⟨#[],by rw[h];simp⟩,id⟩
theorem ag.trans{H H1 H2:Hp}(a:ag H H1)(b:ag H1 H2):ag H H2:=⟨fun c o h n=>b.kp c o (a.kp c o h n) n,fun c ps h=>by obtain⟨m1,e1⟩:=a.tb c ps h;obtain⟨m2,e2⟩:=b.tb c _ e1;exact⟨m1++m2,by rw[e2,Ru]⟩,fun h=>b.ok (a.ok h)⟩
theorem ag.ex{H H':Hp}(e:ag H H'){b:Addr}{o:HO}(h:H b=some o):∃o',H' b=some o':=by
 by_cases n:NT o
 ·exact⟨o,e.kp b o h n⟩
 ·cases o with
  |Mz ps =>
   obtain⟨m,q⟩:=e.tb b ps h;exact⟨_,q⟩
  |_=>exact absurd True.intro n
theorem ag.free{H H':Hp}(e:ag H H'){l:Addr}(h:H' l=Option.none):H l=Option.none:=by
 cases q:H l with
 |none=>rfl
 |some o =>
  obtain⟨o',z⟩:=e.ex q;rw[h]at z;cases z
theorem ag.seq{K:yac}{H H':Hp}{a:Addr}{xs:yar}(e:ag H H')(h:SqL K H a xs):SqL K H' a xs:=by
 rcases h with(h|⟨o,h⟩)|h
 ·exact .inl (.inl (e _ _ h))
 ·exact .inl (.inr ⟨o,e _ _ h⟩)
 ·exact .inr h
theorem cx.upd{H:Hp}{p:Addr}{o:HO}(n:NT o)(hp:H p=none∨∃ u,H p=some u/\(∀φ,u ≠ .ext φ)/\NT u)(h:cx H):cx (upd H p o):=by
 intro P ps e;have MC:P≠p:=fun z=>by subst z;rw[au]at e;cases e;exact n
 rw[aj MC]at e;obtain⟨h1,h2⟩:=h P ps e;refine⟨h1,fun pos cv q=>?_⟩;obtain⟨c,e1,e2⟩:=h2 pos cv q;refine⟨c,e1,?_⟩;rw[aj fun z=>?_]
 ·exact e2
 ·subst z;rcases hp with hp|⟨u,hp,hu,_⟩
  ·rw[hp]at e2;cases e2
  ·rw[hp]at e2;cases e2;exact hu _ rfl
structure cb(K:yac)(H:Hp):Prop where
 ok:cx H
 at':∀P,tabOf K=some P->∃ps,H P=some (.Mz ps)
theorem cb.same{K:yac}{H H':Hp}(h:cb K H)(e:ag H H'):cb K H':=⟨e.ok h.ok,fun P q=>by obtain⟨ps,z⟩:=h.at' P q;obtain⟨m,z⟩:=e.tb P ps z;exact⟨_,z⟩⟩
theorem cb.upd{K:yac}{H:Hp}{p:Addr}{o:HO}(h:cb K H)(n:NT o)(hp:H p=none∨∃ u,H p=some u/\(∀φ,u ≠ .ext φ)/\NT u):cb K (upd H p o):=⟨cx.upd n hp h.ok,fun P q=>by
 obtain⟨ps,z⟩:=h.at' P q;refine⟨ps,?_⟩;rw[aj fun e=>?_]
 ·exact z
 ·subst e;rcases hp with hp|⟨u,hp,_,hu⟩
  ·rw[hp]at z;cases z
  ·rw[hp]at z;cases z;exact hu⟩
inductive D where
 |HZ|bl (b:Bool)|int (i:Int)|str (x:Str)|tup (ds:List D)|lst (t:Bool) (ds:List D)|exc (c:Addr)|obj (C:Addr) (ns:yah) (ds:List D)|MQ|MD (ks:yaf) (ds:List D)
abbrev yas:=List D
def QH:HO->Prop
 |.ext _=>True|.ins _ _ _=>True|.frz _ (.dK _)=>True|_=>False
theorem QH.nt{o:HO}(h:QH o):NT o:=by cases o<;>first|exact True.intro|exact h.elim
def Lm(K:yac)(H:Hp)(t:Bool)(a:Addr)(vs:yar):Prop:=SqL K H a vs/\(t=true->H a=some (.lst vs)/\K.lookup a=none)
theorem Lm.same{K:yac}{H H':Hp}{t:Bool}{a:Addr}{vs:yar}(e:ag H H')(q:Lm K H t a vs):Lm K H' t a vs:=⟨e.seq q.1,fun z=>⟨e _ _ (q.2 z).1,(q.2 z).2⟩⟩
theorem Lm.any{K:yac}{H:Hp}{a:Addr}{vs:yar}(q:SqL K H a vs):Lm K H false a vs:=⟨q,fun z=>by cases z⟩
theorem Lm.new{K:yac}{H:Hp}{t:Bool}{a:Addr}{vs:yar}(q:H a=some (.lst vs))(k:K.lookup a=none):Lm K H t a vs:=⟨SqL.of q,fun _=>⟨q,k⟩⟩
def JP(_:yac)(H:Hp)(a:Addr)(xs:yar):Prop:=H a=some (.tup xs)
theorem JP.w{K:yac}{H:Hp}{a:Addr}{xs:yar}(h:JP K H a xs):L2.JP K H a xs:=.inl (.inl h)
theorem JP.of{K:yac}{H:Hp}{a:Addr}{xs:yar}(h:H a=some (.tup xs)):JP K H a xs:=h
mutual
def Den(K:yac)(P:yak)(H:Hp):D->V->Prop
 |.HZ,v=>v=.HZ
 |.bl b,v=>v=.bl b
 |.int i,v=>v=.int i
 |.str x,v=>v=.str x
 |.tup ds,v=>∃a vs,v=.ref a/\JP K H a vs/\af K P H ds vs
 |.lst t ds,v=>∃a vs,v=.ref a/\¬P t a/\Lm K H t a vs/\af K P H ds vs
 |.exc c,v=>∃e,v=.ref e/\H e=some (.ext (ExcAt e c))/\bG K c
 |.MQ,v=>∃a,v=.ref a/\H a=some (.ext (PySem.W.KitAt a "dict"))
 |.obj C ns ds,v=>∃a dx vs,v=.ref a/\H a=some (.ins C dx (ns.zip vs))/\vs.length=ns.length/\eK K C/\af K P H ds vs
 |.MD ks ds,v=>∃a o MK vs,v=.ref a/\H a=some (.frz o (.dK MK))/\MK=(ks.map Sum.inl).zip vs/\vs.length=ks.length/\af K P H ds vs
def af(K:yac)(P:yak)(H:Hp):yas->yar->Prop
 |[],vs=>vs=[]
 |d::ds,vs=>∃v r,vs=v::r/\Den K P H d v/\af K P H ds r
end
section
variable{K:yac}{P P':yak}{H H':Hp}
mutual
theorem Den.map(hT:∀a vs,JP K H a vs->JP K H' a vs)(hL:∀t a vs,¬P t a->Lm K H t a vs->¬P' t a/\Lm K H' t a vs)(hX:∀a o,QH o->H a=some o->H' a=some o):∀(d:D) (v:V),Den K P H d v->Den K P' H' d v
 |.HZ,_,h=>by simpa only[Den]using h
 |.bl _,_,h=>by simpa only[Den]using h
 |.int _,_,h=>by simpa only[Den]using h
 |.str _,_,h=>by simpa only[Den]using h
 |.tup ds,_,h=>by simp only[Den]at h ⊢;obtain⟨a,vs,e,q,r⟩:=h;exact⟨a,vs,e,hT a vs q,af.map hT hL hX ds vs r⟩
 |.lst t ds,_,h=>by simp only[Den]at h ⊢;obtain⟨a,vs,e,p,q,r⟩:=h;exact⟨a,vs,e,(hL t a vs p q).1,(hL t a vs p q).2,af.map hT hL hX ds vs r⟩
 |.exc c,_,h=>by simp only[Den]at h ⊢;obtain⟨a,e,q,k⟩:=h;exact⟨a,e,hX a _ True.intro q,k⟩
 |.obj C ns ds,_,h=>by simp only[Den]at h ⊢;obtain⟨a,dx,vs,e,q,l,k,r⟩:=h;exact⟨a,dx,vs,e,hX a _ True.intro q,l,k,af.map hT hL hX ds vs r⟩
 |.MQ,_,h=>by simp only[Den]at h ⊢;obtain⟨a,e,q⟩:=h;exact⟨a,e,hX a _ True.intro q⟩
 |.MD ks ds,_,h=>by simp only[Den]at h ⊢;obtain⟨a,o,MK,vs,e,q,l,k,r⟩:=h;exact⟨a,o,MK,vs,e,hX a _ True.intro q,l,k,af.map hT hL hX ds vs r⟩
theorem af.map(hT:∀a vs,JP K H a vs->JP K H' a vs)(hL:∀t a vs,¬P t a->Lm K H t a vs->¬P' t a/\Lm K H' t a vs)(hX:∀a o,QH o->H a=some o->H' a=some o):∀(ds:yas) (vs:yar),af K P H ds vs->af K P' H' ds vs
 |[],_,h=>by simpa only[af]using h
 |d::ds,_,h=>by simp only[af]at h ⊢;obtain⟨v,r,e,h1,h2⟩:=h;exact⟨v,r,e,Den.map hT hL hX d v h1,af.map hT hL hX ds r h2⟩
end
end
theorem JP.same{K:yac}{H H':Hp}{a:Addr}{xs:yar}(e:ag H H')(h:JP K H a xs):JP K H' a xs:=e _ _ h
section
variable{K:yac}{P:yak}{H H':Hp}
theorem Den.same{d:D}{v:V}(e:ag H H')(h:Den K P H d v):Den K P H' d v:=Den.map (fun _ _ q=>JP.same e q) (fun _ _ _ p q=>⟨p,q.same e⟩) (fun a _ n q=>e.kp a _ q n.nt) d v h
theorem af.same{ds:yas}{vs:yar}(e:ag H H')(h:af K P H ds vs):af K P H' ds vs:=af.map (fun _ _ q=>JP.same e q) (fun _ _ _ p q=>⟨p,q.same e⟩) (fun a _ n q=>e.kp a _ q n.nt) ds vs h
theorem Den.HF{P':yak}{d:D}{v:V}(e:∀t a,P' t a->P t a)(h:Den K P H d v):Den K P' H d v:=Den.map (fun _ _ q=>q) (fun _ _ _ p q=>⟨fun z=>p (e _ _ z),q⟩) (fun _ _ _ q=>q) d v h
theorem af.HF{P':yak}{ds:yas}{vs:yar}(e:∀t a,P' t a->P t a)(h:af K P H ds vs):af K P' H ds vs:=af.map (fun _ _ q=>q) (fun _ _ _ p q=>⟨fun z=>p (e _ _ z),q⟩) (fun _ _ _ q=>q) ds vs h
theorem af.len:∀{ds:yas} {vs:yar},af K P H ds vs->vs.length=ds.length
 |[],_,h=>by simp only[af]at h;subst h;rfl
 |d::ds,_,h=>by simp only[af]at h;obtain⟨v,r,rfl,_,h2⟩:=h;simp[af.len h2]
theorem af.get:∀{ds:yas} {vs:yar} {i:Nat} {d:D},af K P H ds vs->ds[i]?=some d->∃v,vs[i]?=some v/\Den K P H d v
 |[],_,_,_,_,e=>by simp at e
 |d::ds,_,0,_,h,e=>by simp only[af]at h;obtain⟨v,r,rfl,h1,_⟩:=h;simp at e;subst e;exact⟨v,rfl,h1⟩
 |d::ds,_,i+1,x,h,e=>by simp only[af]at h;obtain⟨v,r,rfl,_,h2⟩:=h;obtain⟨u,e1,e2⟩:=af.get (i:=i) (d:=x) h2 (by simpa using e);exact⟨u,by simpa using e1,e2⟩
theorem af.bh:∀{ds:yas} {vs:yar} {i:Nat} {v:V},af K P H ds vs->vs[i]?=some v->∃d,ds[i]?=some d/\Den K P H d v
 |[],_,_,_,h,e=>by simp only[af]at h;subst h;simp at e
 |d::ds,_,0,_,h,e=>by simp only[af]at h;obtain⟨v,r,rfl,h1,_⟩:=h;simp at e;subst e;exact⟨d,rfl,h1⟩
 |d::ds,_,i+1,x,h,e=>by simp only[af]at h;obtain⟨v,r,rfl,_,h2⟩:=h;obtain⟨u,e1,e2⟩:=af.bh (i:=i) (v:=x) h2 (by simpa using e);exact⟨u,by simpa using e1,e2⟩
theorem af.append:∀{ds es:yas} {vs us:yar},af K P H ds vs->af K P H es us->af K P H (ds++es) (vs++us)
 |[],_,_,_,h,h'=>by simp only[af]at h;subst h;exact h'
 |d::ds,_,_,_,h,h'=>by simp only[af]at h;obtain⟨v,r,rfl,h1,h2⟩:=h;simp only[Rt,af];exact⟨v,_,rfl,h1,af.append h2 h'⟩
theorem af.one{d:D}{v:V}(h:Den K P H d v):af K P H [d] [v]:=by simp only[af];exact⟨v,[],rfl,h,rfl⟩
theorem af.nil:af K P H [] []:=by simp only[af]
theorem af.cons{d:D}{v:V}{ds:yas}{vs:yar}(h:Den K P H d v)(h':af K P H ds vs):af K P H (d::ds) (v::vs):=by simp only[af];exact⟨v,vs,rfl,h,h'⟩
theorem Den.Kb{i:Int}{v:V}(h:Den K P H (.int i) v):v=.int i:=by simpa only[Den]using h
theorem Den.OQ{b:Bool}{v:V}(h:Den K P H (.bl b) v):v=.bl b:=by simpa only[Den]using h
theorem Den.Pw{v:V}(h:Den K P H .HZ v):v=.HZ:=by simpa only[Den]using h
theorem Den.L6{x:Str}{v:V}(h:Den K P H (.str x) v):v=.str x:=by simpa only[Den]using h
theorem Den.int(i:Int):Den K P H (.int i) (.int i):=by simp only[Den]
theorem Den.bl(b:Bool):Den K P H (.bl b) (.bl b):=by simp only[Den]
theorem Den.HZ:Den K P H .HZ .HZ:=by simp only[Den]
theorem Den.str(x:Str):Den K P H (.str x) (.str x):=by simp only[Den]
theorem Den.ME{ds:yas}{v:V}(h:Den K P H (.tup ds) v):∃a vs,v=.ref a/\JP K H a vs/\af K P H ds vs:=by simpa only[Den]using h
theorem Den.MR{t:Bool}{ds:yas}{v:V}(h:Den K P H (.lst t ds) v):∃a vs,v=.ref a/\¬P t a/\Lm K H t a vs/\af K P H ds vs:=by simpa only[Den]using h
theorem Den.KY{t:Bool}{ds:yas}{v:V}(h:Den K P H (.lst t ds) v):∃a vs,v=.ref a/\¬P t a/\SqL K H a vs/\af K P H ds vs:=by obtain⟨a,vs,h1,h2,h3,h4⟩:=h.MR;exact⟨a,vs,h1,h2,h3.1,h4⟩
theorem Den.Tq {v:V} (h:Den K P H .MQ v):∃a,v=.ref a/\H a=some (.ext (PySem.W.KitAt a "dict")):=by simpa only[Den]using h
theorem Den.MQ {a:Addr} (h:H a=some (.ext (PySem.W.KitAt a "dict"))):Den K P H .MQ (.ref a):=by simp only[Den];exact⟨a,rfl,h⟩
theorem Den.Ou{C:Addr}{ns:yah}{ds:yas}{v:V}(h:Den K P H (.obj C ns ds) v):∃a dx vs,v=.ref a/\H a=some (.ins C dx (ns.zip vs))/\vs.length=ns.length/\eK K C/\af K P H ds vs:=by simpa only[Den]using h
theorem Den.obj{C a dx:Addr}{ns:yah}{ds:yas}{vs:yar}(h:H a=some (.ins C dx (ns.zip vs)))(l:vs.length=ns.length)(k:eK K C)(d:af K P H ds vs):Den K P H (.obj C ns ds) (.ref a):=by simp only[Den];exact⟨a,dx,vs,rfl,h,l,k,d⟩
theorem Den.Tr{ks:yaf}{ds:yas}{v:V}(h:Den K P H (.MD ks ds) v):∃a o MK vs,v=.ref a/\H a=some (.frz o (.dK MK))/\MK=(ks.map Sum.inl).zip vs/\vs.length=ks.length/\af K P H ds vs:=by simpa only[Den]using h
theorem Den.MD{a:Addr}{o:Obj}{ks:yaf}{ds:yas}{vs:yar}(h:H a=some (.frz o (.dK ((ks.map Sum.inl).zip vs))))(l:vs.length=ks.length)(d:af K P H ds vs):Den K P H (.MD ks ds) (.ref a):=by simp only[Den];exact⟨a,o,_,vs,rfl,h,rfl,l,d⟩
theorem Den.RL{c:Addr}{v:V}(h:Den K P H (.exc c) v):∃e,v=.ref e/\H e=some (.ext (ExcAt e c))/\bG K c:=by simpa only[Den]using h
theorem Den.exc{c e:Addr}(h:H e=some (.ext (ExcAt e c)))(k:bG K c):Den K P H (.exc c) (.ref e):=by simp only[Den];exact⟨e,rfl,h,k⟩
theorem Den.tup{ds:yas}{a:Addr}{vs:yar}(h:JP K H a vs)(h':af K P H ds vs):Den K P H (.tup ds) (.ref a):=by simp only[Den];exact⟨a,vs,rfl,h,h'⟩
theorem Den.lst{t:Bool}{ds:yas}{a:Addr}{vs:yar}(p:¬P t a)(h:Lm K H t a vs)(h':af K P H ds vs):Den K P H (.lst t ds) (.ref a):=by simp only[Den];exact⟨a,vs,rfl,p,h,h'⟩
end
inductive LI where
 |own (ds:yas)|val (d:D)
inductive OS where
 |lst (ds:yas)|dk (kvs:List (Key×D))|dt (kvs:List (List Key×D))|ll (xs:List LI)
inductive Sl where
 |val (d:D)
 |ob (x:OS)
abbrev Sl.own(ds:yas):Sl:=.ob (.lst ds)
def aE(K:yac)(P:yak)(H:Hp)(B:yaj):Nat->List LI->yar->Prop
 |_,[],vs=>vs=[]
 |k,.own ds::r,vs=>∃b us u,vs=.ref b::u/\B k=some b/\H b=some (.lst us)/\af K P H ds us/\aE K P H B (k+1) r u
 |k,.val d::r,vs=>∃v u,vs=v::u/\Den K P H d v/\aE K P H B (k+1) r u
theorem aE.map{K:yac}{P P':yak}{H H':Hp}{B B':yaj}(hd:∀ds vs,af K P H ds vs->af K P' H' ds vs)(hB:∀k b,B k=some b->B' k=some b/\∀us,H b=some (.lst us)->H' b=some (.lst us)):∀{k:Nat} {xs:List LI} {vs:yar},aE K P H B k xs vs->aE K P' H' B' k xs vs
 |_,[],_,h=>by simpa only[aE]using h
 |k,.own ds::r,_,h=>by simp only[aE]at h ⊢;obtain⟨b,us,u,e,h1,h2,h3,h4⟩:=h;exact⟨b,us,u,e,(hB k b h1).1,(hB k b h1).2 us h2,hd ds us h3,aE.map hd hB h4⟩
 |k,.val d::r,_,h=>by simp only[aE]at h ⊢;obtain⟨v,u,e,h1,h2⟩:=h;have h3:=hd [d] [v] (af.one h1);simp only[af]at h3;obtain⟨v',r',e',h4,_⟩:=h3;cases e';exact⟨v,u,e,h4,aE.map hd hB h2⟩
theorem aE.len{K:yac}{P:yak}{H:Hp}{B:yaj}:∀{k:Nat} {xs:List LI} {vs:yar},aE K P H B k xs vs->vs.length=xs.length
 |_,[],_,h=>by simp only[aE]at h;subst h;rfl
 |k,.own ds::r,_,h=>by simp only[aE]at h;obtain⟨b,us,u,rfl,_,_,_,h4⟩:=h;simp[aE.len h4]
 |k,.val d::r,_,h=>by simp only[aE]at h;obtain⟨v,u,rfl,_,h2⟩:=h;simp[aE.len h2]
inductive cy (K:yac) (P:yak) (H:Hp) (B:yaj):OS->HO->Prop where
 |lst {ds:yas} {vs:yar} (h:af K P H ds vs):cy K P H B (.lst ds) (.lst vs)
 |ll {xs:List LI} {vs:yar} (h:aE K P H B 0 xs vs):cy K P H B (.ll xs) (.lst vs)
 |dk {kvs:List (Key×D)} {MK:List (Key×V)} (e:MK.map (·.1)=kvs.map (·.1)) (h:af K P H (kvs.map (·.2)) (MK.map (·.2))):cy K P H B (.dk kvs) (.dK MK)
 |dt {kvs:List (List Key×D)} {MK:List (List Key×V)} (e:MK.map (·.1)=kvs.map (·.1)) (h:af K P H (kvs.map (·.2)) (MK.map (·.2))):cy K P H B (.dt kvs) (.dT MK)
def gS:HO->Prop
 |.lst _=>True|.dK _=>True|.dT _=>True|_=>False
theorem gS.nt{o:HO}(h:gS o):NT o:=by cases o<;>first|exact True.intro|exact h.elim
theorem gS.sol{o:HO}(h:gS o):¬QH o:=by cases o<;>first|exact h.elim|exact fun z=>z
theorem gS.ne{o:HO}(h:gS o):∀φ,o ≠ .ext φ:=fun _ e=>by subst e;exact h
section
variable{K:yac}{P P':yak}{H H':Hp}{B B':yaj}{x:OS}{o:HO}
theorem cy.map(k:∀ds vs,af K P H ds vs->af K P' H' ds vs)(hB:∀k b,B k=some b->B' k=some b/\∀us,H b=some (.lst us)->H' b=some (.lst us))(h:cy K P H B x o):cy K P' H' B' x o:=by
 cases h with
 |lst h=>exact .lst (k _ _ h)
 |ll h=>exact .ll (h.map k hB)
 |dk e h=>exact .dk e (k _ _ h)
 |dt e h=>exact .dt e (k _ _ h)
theorem cy.same(e:ag H H')(h:cy K P H B x o):cy K P H' B x o:=h.map (fun _ _ z=>z.same e) fun _ _ q=>⟨q,fun _ z=>e _ _ z⟩
theorem cy.HF(e:∀t a,P' t a->P t a)(hB:∀k b,B k=some b->B' k=some b)(h:cy K P H B x o):cy K P' H B' x o:=h.map (fun _ _ z=>z.HF e) fun k b q=>⟨hB k b q,fun _ z=>z⟩
theorem cy.Pf(h:cy K P H B x o):gS o:=by cases h<;>exact True.intro
theorem cy.KY{ds:yas}(h:cy K P H B (.lst ds) o):∃vs,o=.lst vs/\af K P H ds vs:=by
 cases h with
 |lst h=>exact⟨_,rfl,h⟩
end
abbrev Ro:=List (Option Sl)
structure Own where
 B:Addr->Prop
 O:yaj
 S:Addr->Prop
def Own.bad(W:Own)(t:Bool)(a:Addr):Prop:=W.B a∨(∃i,W.O i=some a)∨(t=true/\W.S a)
def Own.drop(W:Own)(i:Nat):Own:=⟨W.B,fun j=>if j=i then none else W.O j,W.S⟩
def Own.put(W:Own)(i:Nat)(a:Addr):Own:=⟨W.B,fun j=>if j=i then some a else W.O j,W.S⟩
theorem Own.JQ{W:Own}{i:Nat}{t:Bool}{a:Addr}(h:(W.drop i).bad t a):W.bad t a:=by
 rcases h with h|⟨j,h⟩| h
 ·exact .inl h
 ·have h':(if j=i then none else W.O j)=some a:=h;by_cases e:j=i
  ·rw[G4 e]at h';cases h'
  ·rw[GS e]at h';exact .inr (.inl ⟨j,h'⟩)
 ·exact .inr (.inr h)
theorem Own.Ov{W:Own}{t:Bool}{a:Addr}(h:W.bad false a):W.bad t a:=by
 rcases h with h|h|⟨h,_⟩
 ·exact .inl h
 ·exact .inr (.inl h)
 ·cases h
def Ts(n i k:Nat):Nat:=n*(k+1)+i
theorem sE{n i j k:Nat}(h:j<n):Ts n i k≠j:=fun e=>by unfold Ts at e;rw[Nat.mul_add]at e;omega
abbrev Own.sub(W:Own)(n i:Nat)(k:Nat):Option Addr:=W.O (Ts n i k)
theorem Own.MS{W:Own}{n i j:Nat}(h:i<n)(k:Nat)(b:Addr)(e:W.sub n j k=some b):(W.drop i).sub n j k=some b:=by show(if Ts n j k=i then none else W.O (Ts n j k))=_;rw[GS (sE h)];exact e
structure Rel(X:Cx)(W:Own)(H:Hp)(σ:St)(ρ:Ro):Prop where
 val:∀(i:Nat) (d:D),ρ[i]?=some (some (Sl.val d))->∃v,σ[i]?=some (some v)/\Den X.K W.bad H d v
 own:∀(i:Nat) (x:OS),ρ[i]?=some (some (Sl.ob x))->∃a o,W.O i=some a/\σ[i]?=some (some (.ref a))/\H a=some o/\cy X.K W.bad H (W.sub σ.length i) x o
 inj:∀i j a,W.O i=some a->W.O j=some a->i=j
 kn:∀i a,W.O i=some a->X.K.lookup a=none/\(¬W.B a/\¬W.S a)/\∃o,H a=some o/\gS o
 ke:∀i a,W.O i=some a->X.H₀ a=none
 bt:∀a,W.B a->∃o,H a=some o
 st:∀a,W.S a->∃o,H a=some o
 ent:ag X.H₀ H
 tab:cb X.K H
theorem Rel.same{X:Cx}{W:Own}{H H':Hp}{σ:St}{ρ:Ro}(r:Rel X W H σ ρ)(e:ag H H'):Rel X W H' σ ρ where
 val:=fun i d h=>let ⟨v,h1,h2⟩:=r.val i d h;⟨v,h1,h2.same e⟩
 own:=fun i ds h=>let ⟨a,vs,h1,h2,h3,h4⟩:=r.own i ds h;⟨a,vs,h1,h2,e.kp _ _ h3 h4.Pf.nt,h4.same e⟩
 inj:=r.inj
 kn:=fun i a h=>let ⟨h1,h2,o,h3,h4⟩:=r.kn i a h;⟨h1,h2,o,e.kp _ _ h3 h4.nt,h4⟩
 ke:=r.ke
 bt:=fun a h=>let ⟨_,q⟩:=r.bt a h;e.ex q
 st:=fun a h=>let ⟨_,q⟩:=r.st a h;e.ex q
 ent:=r.ent.trans e
 tab:=r.tab.same e
theorem Rel.Px{X:Cx}{W:Own}{H:Hp}{σ:St}{ρ:Ro}(r:Rel X W H σ ρ)(i:Nat)(ds:yas)(h:ρ[i]?=some (some (Sl.own ds))):∃a vs,W.O i=some a/\σ[i]?=some (some (.ref a))/\H a=some (.lst vs)/\af X.K W.bad H ds vs:=by obtain⟨a,o,h1,h2,h3,h4⟩:=r.own i _ h;obtain⟨vs,e,h5⟩:=h4.KY;subst e;exact⟨a,vs,h1,h2,h3,h5⟩
theorem Rel.tracked{X:Cx}{W:Own}{H:Hp}{σ:St}{ρ:Ro}(r:Rel X W H σ ρ)(t:Bool)(a:Addr)(h:W.bad t a):∃o,H a=some o:=by
 rcases h with h|⟨i,h⟩| ⟨_,h⟩
 ·exact r.bt a h
 ·obtain⟨_,_,o,q,_⟩:=r.kn i a h;exact⟨_,q⟩
 ·exact r.st a h
theorem Rel.fresh{X:Cx}{W:Own}{H:Hp}{σ:St}{ρ:Ro}(r:Rel X W H σ ρ){t:Bool}{p:Addr}(h:H p=none):¬W.bad t p:=fun z=>by obtain⟨o,q⟩:=r.tracked t p z;rw[h]at q;cases q
structure JA(W:Own)(H:Hp)(W':Own)(H':Hp):Prop where
 B:W'.B=W.B
 S:W'.S=W.S
 kp:∀b o,(∀i,W.O i≠some b)->H b=some o->NT o->H' b=some o
 new:∀i a,W'.O i=some a->(∃j,W.O j=some a)∨H a=none
 tb:∀b ps,H b=some (.Mz ps)->∃more,H' b=some (.Mz (ps++more))
 ok:cx H->cx H'
theorem JA.keep{W W':Own}{H H':Hp}(f:JA W H W' H')(b:Addr)(o:HO)(h:∀i,W.O i≠some b)(q:H b=some o)(nt:NT o:=by first|exact True.intro|assumption):H' b=some o:=f.kp b o h q nt
theorem JA.ex{W W':Own}{H H':Hp}(f:JA W H W' H'){b:Addr}{o:HO}(h:∀i,W.O i≠some b)(q:H b=some o):∃o',H' b=some o':=by
 by_cases n:NT o
 ·exact⟨o,f.kp b o h q n⟩
 ·cases o with
  |Mz ps =>
   obtain⟨m,e⟩:=f.tb b ps q;exact⟨_,e⟩
  |_=>exact absurd True.intro n
theorem JA.refl(W:Own)(H:Hp):JA W H W H:=⟨rfl,rfl,fun _ _ _ h _=>h,fun i _ h=>.inl ⟨i,h⟩,fun _ ps h=>⟨#[],by rw[h];simp⟩,id⟩
theorem JA.trans{W W1 W2:Own}{H H1 H2:Hp}(a:JA W H W1 H1)(b:JA W1 H1 W2 H2):JA W H W2 H2:=by
 refine⟨b.B.trans a.B,b.S.trans a.S,fun x o n h t=>b.kp x o (fun i z=>?_) (a.kp x o n h t) t,fun i x h=>?_,fun c ps h=>?_,fun h=>b.ok (a.ok h)⟩
 ·rcases a.new i x z with⟨j,q⟩| q
  ·exact n j q
  ·rw[h]at q;cases q
 ·rcases b.new i x h with⟨j,q⟩| q
  ·exact a.new j x q
  ·by_cases z:∃j,W.O j=some x
   ·exact .inl z
   ·refine .inr ?_;cases e:H x with
    |none=>rfl
    |some o =>
     obtain⟨o',this⟩:=a.ex (fun i w=>z ⟨i,w⟩) e;rw[this]at q;cases q
 ·obtain⟨m1,e1⟩:=a.tb c ps h;obtain⟨m2,e2⟩:=b.tb c _ e1;exact⟨m1++m2,by rw[e2,Ru]⟩
theorem JA.same{W:Own}{H H':Hp}(e:ag H H'):JA W H W H':=⟨rfl,rfl,fun _ _ _ h n=>e.kp _ _ h n,fun i _ h=>.inl ⟨i,h⟩,e.tb,e.ok⟩
theorem ag.ins{H₀ H:Hp}(e:ag H₀ H){a:Addr}{o o':HO}(h0:H₀ a=none)(ha:H a=some o)(hm:gS o)(hn:NT o'):ag H₀ (upd H a o') :=
 ⟨fun b u h n=>by rw[aj (aP h h0)];exact e.kp b u h n,fun b ps h=>by rw[aj (aP h h0)];exact e.tb b ps h,fun h=>cx.upd hn (.inr ⟨o,ha,hm.ne,hm.nt⟩) (e.ok h)⟩
theorem JA.upd{W:Own}{H:Hp}{i:Nat}{a:Addr}{o o':HO}(oa:W.O i=some a)(ha:H a=some o)(hm:gS o)(hn:NT o'):JA W H W (upd H a o') :=
 ⟨rfl,rfl,fun b u n h _=>by rw[aj fun e=>n i (by rw[e];exact oa)];exact h,fun j _ h=>.inl ⟨j,h⟩,fun b ps h=>⟨#[],by rw[aj (fun e=>by subst e;rw[ha]at h;cases h;exact hm),h];simp⟩,cx.upd hn (.inr ⟨o,ha,hm.ne,hm.nt⟩)⟩
structure c9 where
 nx:Ro->Prop
 rt:D->Prop
 bk:Ro->Prop:=fun _=>False
 ct:Ro->Prop:=fun _=>False
abbrev DE:=Ro->(D->Prop)->Prop
abbrev DT:=Ro->(Bool->Prop)->Prop
abbrev DA:=Ro->(yas->Prop)->Prop
abbrev DS:=c9->Ro->Prop
inductive DP (X:Cx) (pins:yab) (σ:St) (W:Own) (H:Hp) (Q:D->Prop) (u:Value) (s':Shared):Prop
 |mk (v:V) (H':Hp) (d:D) (_:Inv X pins σ H' s') (_:RelV v u) (_:ag H H') (_:Den X.K W.bad H' d v) (_:Q d)
inductive V9 (X:Cx) (pins:yab) (σ:St) (H:Hp) (Q:Bool->Prop) (b:Bool) (s':Shared):Prop
 |mk (H':Hp) (_:Inv X pins σ H' s') (_:ag H H') (_:Q b)
inductive DAP (X:Cx) (pins:yab) (σ:St) (W:Own) (H:Hp) (Q:yas->Prop) (us:yad) (s':Shared):Prop
 |mk (vs:yar) (H':Hp) (ds:yas) (_:Inv X pins σ H' s') (_:Vals vs us) (_:ag H H') (_:af X.K W.bad H' ds vs) (_:Q ds)
def SPf(X:Cx)(E:c9)(W':Own)(σ':St)(H':Hp)(f:Flow):Prop :=
 match f with
 |.next=>∃HG,Rel X W' H' σ' HG/\E.nx HG
 |.brk=>∃HG,Rel X W' H' σ' HG/\E.bk HG
 |.cont=>∃HG,Rel X W' H' σ' HG/\E.ct HG
 |.ret u=>∃v d,RelV v u/\Den X.K W'.bad H' d v/\E.rt d
inductive Py (X:Cx) (pins:yab) (W:Own) (H:Hp) (E:c9) (f:Flow) (s':Shared):Prop
 |mk (W':Own) (σ':St) (H':Hp) (_:Inv X pins σ' H' s') (_:JA W H W' H') (_:SPf X E W' σ' H' f)
def Hs(X:Cx)(e:Expr)(t:DE):Prop :=
 ∀ (pins:yab) (s:Shared) (σ:St) (H:Hp) (W:Own) (ρ:Ro) (Q:D->Prop),Inv X pins σ H s->Rel X W H σ ρ->t ρ Q →
  wpAny (model X.prog X.w) X.A (eval e X.env) (DP X pins σ W H Q) X.xe s
def N8(X:Cx)(e:Expr)(t:DT):Prop :=
 ∀ (pins:yab) (s:Shared) (σ:St) (H:Hp) (W:Own) (ρ:Ro) (Q:Bool->Prop),Inv X pins σ H s->Rel X W H σ ρ->t ρ Q →
  wpAny (model X.prog X.w) X.A (isTrue e X.env (eval e X.env)) (V9 X pins σ H Q) X.xe s
def NB(X:Cx)(e:Expr)(t:DT):Prop :=
 ∀ (whole:Sem Value) (pins:yab) (s:Shared) (σ:St) (H:Hp) (W:Own) (ρ:Ro) (Q:Bool->Prop),Inv X pins σ H s->Rel X W H σ ρ->t ρ Q →
  wpAny (model X.prog X.w) X.A (isTrue e X.env whole) (V9 X pins σ H Q) X.xe s
theorem NB.pt{X:Cx}{e:Expr}{t:DT}(h:NB X e t):N8 X e t:=h _
def MF(X:Cx)(es:yai)(t:DA):Prop :=
 ∀ (pos:Pos) (pins:yab) (s:Shared) (σ:St) (H:Hp) (W:Own) (ρ:Ro) (Q:yas->Prop),Inv X pins σ H s->Rel X W H σ ρ->t ρ Q →
  wpAny (model X.prog X.w) X.A (spliced (backTo pos (starEach es X.env))) (DAP X pins σ W H Q) X.xe s
def Nd(X:Cx)(st:Stmt)(t:DS):Prop :=
 ∀ (pins:yab) (s:Shared) (σ:St) (H:Hp) (W:Own) (ρ:Ro) (E:c9),Inv X pins σ H s->Rel X W H σ ρ->t E ρ →
  wpAny (model X.prog X.w) X.A (exec st X.env) (Py X pins W H E) X.xe s
def cz(X:Cx)(st:yal)(t:DS):Prop :=
 ∀ (pins:yab) (s:Shared) (σ:St) (H:Hp) (W:Own) (ρ:Ro) (E:c9),Inv X pins σ H s->Rel X W H σ ρ->t E ρ →
  wpAny (model X.prog X.w) X.A (execs st X.env) (Py X pins W H E) X.xe s
def mS(X:Cx)(t:DE):TE:=fun σ H Q=>∃W ρ Qd,Rel X W H σ ρ/\t ρ Qd/\∀v H' d,ag H H'->Den X.K W.bad H' d v->Qd d->Q v H'
def Fb(X:Cx)(t:DS):TS:=fun D σ H=>∃W ρ Ed,Rel X W H σ ρ/\t Ed ρ ∧
 (∀W' σ' H' HG,JA W H W' H'->Rel X W' H' σ' HG->Ed.nx HG->D.nx σ' H') ∧
 (∀W' H' v d,JA W H W' H'->Den X.K W'.bad H' d v->Ed.rt d->D.rt v H') ∧
 (∀W' σ' H' HG,JA W H W' H'->Rel X W' H' σ' HG->Ed.bk HG->D.bk σ' H') ∧
 (∀W' σ' H' HG,JA W H W' H'->Rel X W' H' σ' HG->Ed.ct HG->D.ct σ' H')
section
variable{X:Cx}
theorem Hs.pe{e:Expr}{t:DE}(h:Hs X e t):PE X e (mS X t):=by intro pins s σ H Q I q;obtain⟨W,ρ,Qd,r,ht,k⟩:=q;exact GU (h pins s σ H W ρ Qd I r ht) fun u s1 ⟨v,H',d,I1,rv,e1,hd,qd⟩=>⟨v,H',I1,rv,k v H' d e1 hd qd⟩
theorem cz.ps{st:yal}{t:DS}(h:cz X st t):Qh X st (Fb X t):=by
 intro pins s σ H D I q;obtain⟨W,ρ,Ed,r,ht,k1,k2,k3,k4⟩:=q;refine GU (h pins s σ H W ρ Ed I r ht) fun f s1 ⟨W',σ',H',I1,fw,q⟩=>?_
 cases f with
 |next=>obtain⟨HG,r',q'⟩:=q;exact⟨σ',H',I1,k1 W' σ' H' HG fw r' q'⟩
 |brk=>obtain⟨HG,r',q'⟩:=q;exact⟨σ',H',I1,k3 W' σ' H' HG fw r' q'⟩
 |cont=>obtain⟨HG,r',q'⟩:=q;exact⟨σ',H',I1,k4 W' σ' H' HG fw r' q'⟩
 |ret u=>obtain⟨v,d,rv,hd,q'⟩:=q;exact⟨v,σ',H',I1,rv,k2 W' H' v d fw hd q'⟩
theorem Hs.of{e:Expr}{te:TE}{t:DE}(h:PE X e te)(k:∀σ H W ρ Q,Rel X W H σ ρ->t ρ Q->te σ H fun v H'=>ag H H'/\∃d,Den X.K W.bad H' d v/\Q d):Hs X e t:=by intro pins s σ H W ρ Q I r ht;exact GU (h pins s σ H _ I (k σ H W ρ Q r ht)) fun u s1 ⟨v,H',I1,rv,e1,d,hd,q⟩=>⟨v,H',d,I1,rv,e1,hd,q⟩
end
section
variable{X:Cx}{a b c:Expr}{ta tb:DE}{pos:Pos}
def bN(i:Nat):DE:=fun ρ Q=>match ρ[i]? with
 |some (some (.val d))=>Q d
 |_=>False
theorem Ah{i:Nat}{ρ:Ro}{Q:D->Prop}(h:bN i ρ Q):∃d,ρ[i]?=some (some (.val d))/\Q d:=by
 unfold bN at h;split at h
 ·rename_i d e;exact⟨d,e,h⟩
 ·exact h.elim
def dC(d:D):DE:=fun _ Q=>Q d
theorem dv (i:Nat) {x:Str} {pos:Pos} (hN:X.N[i]?=some x:=by rfl) (hv:RB X.env.scope x:=by first|exact Or.inl rfl|exact Or.inr (Or.inl rfl)|exact Or.inr (Or.inr rfl)) (hd:(x==("__debug__" : Str))=false:=by decide)
  (LX:(x==("__classdict__" : Str))=false:=by decide):Hs X (.Name x pos) (bN i) :=
 Hs.of (kG hN hv hd LX) fun σ H W ρ Q r ht=>by obtain⟨d,e,q⟩:=Ah ht;obtain⟨v,e1,e2⟩:=r.val i d e;exact⟨v,e1,ag.refl H,d,e2,q⟩
theorem ae{i j pos}:Hs X (.Constant (.int i) j pos) (dC (.int i)):=Hs.of bR fun _ H _ _ _ _ q=>⟨ag.refl H,_,Den.int i,q⟩
theorem zG{i j pos}:Hs X (.Constant (.bool i) j pos) (dC (.bl i)):=Hs.of mX fun _ H _ _ _ _ q=>⟨ag.refl H,_,Den.bl i,q⟩
theorem qR{j pos}:Hs X (.Constant .none j pos) (dC .HZ):=Hs.of xn fun _ H _ _ _ _ q=>⟨ag.refl H,_,Den.HZ,q⟩
theorem aK{x j pos}:Hs X (.Constant (.str x) j pos) (dC (.str x)):=Hs.of xo fun _ H _ _ _ _ q=>⟨ag.refl H,_,Den.str x,q⟩
abbrev RD2:=D->D->(D->Prop)->Prop
def J6(X:Cx)(f:Value->Value->Sem Value)(r:RD2):Prop :=
 ∀ (pins:yab) (s:Shared) (σ:St) (H:Hp) (W:Own) (x y:D) (v u:V) (vv uu:Value) (Q:D->Prop),Inv X pins σ H s->(∀t a,W.bad t a->∃o,H a=some o)->RelV v vv->RelV u uu->Den X.K W.bad H x v->Den X.K W.bad H y u->r x y Q →
  wpAny (model X.prog X.w) X.A (f vv uu) (DP X pins σ W H Q) X.xe s
def Ox(r:RD2)(ta tb:DE):DE:=fun ρ Q=>ta ρ fun x=>tb ρ fun y=>r x y Q
theorem qo(ha:Hs X a ta)(hb:Hs X b tb){pins:yab}{s:Shared}{σ:St}{H:Hp}{W:Own}{ρ:Ro}{R:D->D->Prop}(I:Inv X pins σ H s)(r:Rel X W H σ ρ)(h:ta ρ fun x=>tb ρ fun y=>R x y)
  {α:Type} {Q:α->Shared->Prop} {f:Value->Value->Sem α}
  (hf:∀vv uu s2 v u x y H2,Inv X pins σ H2 s2->ag H H2->RelV v vv->RelV u uu->Den X.K W.bad H2 x v->Den X.K W.bad H2 y u->R x y->wpAny (model X.prog X.w) X.A (f vv uu) Q X.xe s2) :
  wpAny (model X.prog X.w) X.A (eval a X.env) (fun v Hm=>wpAny (model X.prog X.w) X.A (eval b X.env) (fun u GY=>wpAny (model X.prog X.w) X.A (f v u) Q X.xe GY) X.xe Hm) X.xe s:=by
 refine GU (ha pins s σ H W ρ _ I r h) fun vv s1 ⟨v,H1,x,I1,rv,e1,hx,q1⟩=>?_
 refine GU (hb pins s1 σ H1 W ρ _ I1 (r.same e1) q1) fun uu s2 ⟨u,H2,y,I2,ru,e2,hy,q2⟩=>?_
 exact hf vv uu s2 v u x y H2 I2 (e1.trans e2) rv ru (hx.same e2) hy q2
theorem DP.up{pins:yab}{σ:St}{W:Own}{H H1:Hp}{Q:D->Prop}{u:Value}{s':Shared}(e:ag H H1)(h:DP X pins σ W H1 Q u s'):DP X pins σ W H Q u s':=by obtain⟨v,H',d,I,r,e1,hd,q⟩:=h;exact⟨v,H',d,I,r,e.trans e1,hd,q⟩
theorem ar{op:Operator}{r:RD2}(ho:J6 X (binaryOp op) r)(ha:Hs X a ta)(hb:Hs X b tb):Hs X (.BinOp a op b pos) (Ox r ta tb):=by intro pins s σ H W ρ Q I rr h;refine wpAny_BinOp (qo ha hb I rr h fun vv uu s2 v u x y H2 I2 e rv ru hx hy q=>?_);exact GU (ho pins s2 σ H2 W x y v u vv uu Q I2 (rr.same e).tracked rv ru hx hy q) fun _ _ z=>z.up e
theorem EM{op:UnaryOp}{r:V->Hp->VK->Prop}{rd:D->(D->Prop)->Prop}(ho:Vb X (unaryOp op) r)(ha:Hs X a ta)
  (k:∀P H d v Q,Den X.K P H d v->rd d Q->r v H fun v' H'=>ag H H'/\∃d',Den X.K P H' d' v'/\Q d'):Hs X (.UnaryOp op a pos) (fun ρ Q=>ta ρ fun x=>rd x Q):=by
 intro pins s σ H W ρ Q I rr h;refine UnaryOp_ (GU (ha pins s σ H W ρ _ I rr h) fun vv s1 ⟨v,H1,x,I1,rv,e1,hx,q1⟩=>?_);exact GU (ho pins s1 σ H1 v vv _ I1 rv (k _ H1 x v Q hx q1)) fun u s2 ⟨w',H2,I2,r2,e2,d,hd,q2⟩=>⟨w',H2,d,I2,r2,e1.trans e2,hd,q2⟩
def hZ:Option (Option Sl)->(yas->Prop)->Prop
 |some (some (.ob (.lst ds))),R=>R ds
 |_,_=>False
theorem um{x:Option (Option Sl)}{R:yas->Prop}(h:hZ x R):∃ds,x=some (some (.own ds))/\R ds:=by
 unfold hZ at h;split at h
 ·exact⟨_,rfl,h⟩
 ·exact h.elim
theorem DH(ds:yas)(r:Ro)(R:yas->Prop):hZ (some (Sl.own ds)::r)[0]? R=R ds:=rfl
theorem DI(n:Nat)(x:Option Sl)(r:Ro)(R:yas->Prop):hZ (x::r)[n+1]? R=hZ r[n]? R:=rfl
def SA:D->(Bool->Prop)->Prop
 |.bl k,Q=>Q k
 |_,_=>False
theorem mB{x:D}{Q:Bool->Prop}(h:SA x Q):∃k,x=.bl k/\Q k:=by
 cases x<;>first|exact False.elim h|exact⟨_,rfl,h⟩
theorem Es(k:Bool)(Q:Bool->Prop):SA (.bl k) Q=Q k:=rfl
def B2(ta:DE):DE:=fun ρ Q=>ta ρ fun x=>∃i,x=.int i/\Q (.int (-i))
theorem qQ(ha:Hs X a ta):Hs X (.UnaryOp .USub a pos) (B2 ta) :=
 EM (rd:=fun x Q=>∃i,x=.int i/\Q (.int (-i))) nG ha fun P H d v Q hd ⟨i,e,q⟩=>by subst e;exact⟨i,hd.Kb,ag.refl H,_,Den.int _,q⟩
theorem J6.of{f:Value->Value->Sem Value}{r:R2}{rd:RD2}(h:MA X f r)(k:∀P H x y v u Q,Den X.K P H x v->Den X.K P H y u->rd x y Q->r v u H fun v' H'=>ag H H'/\∃d',Den X.K P H' d' v'/\Q d'):J6 X f rd:=by intro pins s σ H W x y v u vv uu Q I _ rv ru hx hy q;exact GU (h pins s σ H v u vv uu _ I rv ru (k _ H x y v u Q hx hy q)) fun _ s2 ⟨w',H2,I2,r2,e2,d,hd,q2⟩=>⟨w',H2,d,I2,r2,e2,hd,q2⟩
def Q8(C:Int->Int->Prop)(g:Int->Int->D):RD2:=fun x y Q=>match x,y with
 |.int i,.int j=>C i j/\Q (g i j)
 |_,_=>False
def eA(g:Int->Int->D):RD2:=fun x y Q=>match x,y with
 |.int i,.int j=>Q (g i j)
 |_,_=>False
theorem DZ{C:Int->Int->Prop}{g:Int->Int->D}{x y:D}{Q:D->Prop}(h:Q8 C g x y Q):∃i j,x=.int i/\y=.int j/\C i j/\Q (g i j):=by
 unfold Q8 at h;split at h
 ·exact⟨_,_,rfl,rfl,h⟩
 ·exact h.elim
theorem lr{g:Int->Int->D}{x y:D}{Q:D->Prop}(h:eA g x y Q):∃i j,x=.int i/\y=.int j/\Q (g i j):=by
 unfold eA at h;split at h
 ·exact⟨_,_,rfl,rfl,h⟩
 ·exact h.elim
theorem J6.Ve{f:Value->Value->Sem Value}{C:Int->Int->Prop}{g:Int->Int->Int}(h:MA X f (rI C fun i j=>.int (g i j))):J6 X f (Q8 C fun i j=>.int (g i j)) :=
 J6.of h fun P H x y v u Q hx hy z=>by obtain⟨i,j,e1,e2,hc,q⟩:=DZ z;subst e1 e2;exact⟨i,j,hx.Kb,hy.Kb,hc,ag.refl H,_,Den.int _,q⟩
theorem J6.Tu{f:Value->Value->Sem Value}{g:Int->Int->Int}(h:MA X f (Qi fun i j=>.int (g i j))):J6 X f (eA fun i j=>.int (g i j)) :=
 J6.of h fun P H x y v u Q hx hy z=>by obtain⟨i,j,e1,e2,q⟩:=lr z;subst e1 e2;exact⟨i,j,hx.Kb,hy.Kb,ag.refl H,_,Den.int _,q⟩
theorem J6.QI{f:Value->Value->Sem Value}{g:Int->Int->Bool}(h:MA X f (Qi fun i j=>.bl (g i j))):J6 X f (eA fun i j=>.bl (g i j)) :=
 J6.of h fun P H x y v u Q hx hy z=>by obtain⟨i,j,e1,e2,q⟩:=lr z;subst e1 e2;exact⟨i,j,hx.Kb,hy.Kb,ag.refl H,_,Den.bl _,q⟩
theorem Dp:J6 X (binaryOp .Add) (eA fun i j=>.int (i+j)):=J6.Tu DB
theorem cD:J6 X (binaryOp .Sub) (eA fun i j=>.int (i - j)):=J6.Tu DF
theorem jE:J6 X (compareOp .Lt) (eA fun i j=>.bl (decide (i<j))):=J6.QI Fi
theorem zM:J6 X (compareOp .LtE) (eA fun i j=>.bl (decide (i<=j))):=J6.QI Fh
theorem qz:J6 X (compareOp .Gt) (eA fun i j=>.bl (decide (j<i))):=J6.QI zO
theorem mV:J6 X (compareOp .GtE) (eA fun i j=>.bl (decide (j<=i))):=J6.QI Fg
def Bd(n:Nat)(x:Int):Prop:=x.natAbs<2 ^ n
theorem Bd.mono{m n:Nat}{x:Int}(h:Bd m x)(l:m<=n):Bd n x:=LZ h (SY (by decide) l)
theorem Bd.bits{n:Nat}{x:Int}(h:Bd n x):Builtin.Int.intBits x<=n:=by
 unfold Bd at h;unfold Builtin.Int.intBits;split
 ·exact M9 _
 ·rename_i hz;have hp:x.natAbs≠0:=by
   intro e;apply hz;have:x=0:=Int.natAbs_eq_zero.mp e;simp[this]
  have:=(Nat.log2_lt hp).mpr h;omega
def CM(i j:Int):Prop:=Bd 64 i∨Bd 64 j∨(Bd 100000 i/\Bd 100000 j)
theorem CM.ok{i j:Int}(h:CM i j):IntMulOk i j:=by
 rcases h with h|h|⟨h,h'⟩
 ·exact .of_left h.bits
 ·exact .of_right h.bits
 ·exact .of_bits (MH h.bits (by decide)) (MH h'.bits (by decide))
theorem AX:MA X (binaryOp .Mult) (rI CM fun i j=>.int (i*j)):=Vc fun _ _ _ _ _ _ _ hc q=>mul_int q hc.ok
theorem bq:J6 X (binaryOp .Mult) (Q8 CM fun i j=>.int (i*j)):=J6.Ve AX
def CD(_:Int)(j:Int):Prop:=j≠0/\Bd 8000 j
theorem CD.Wa{i j:Int}(h:CD i j):Builtin.divisionGoesByPylong i j=false:=by
 refine PyProof.noPylong_of_log2 ?_;have hz:j.natAbs≠0:=fun e=>h.1 (Int.natAbs_eq_zero.mp e)
 have:=(Nat.log2_lt hz).mpr h.2;omega
theorem yR:MA X (binaryOp .FloorDiv) (rI CD fun i j=>.int (i.fdiv j)):=Vc fun _ _ _ _ _ _ _ hc q=>floordiv_int hc.1 q (.inl hc.Wa)
theorem lq:J6 X (binaryOp .FloorDiv) (Q8 CD fun i j=>.int (i.fdiv j)):=J6.Ve yR
theorem bf:J6 X (binaryOp .Mod) (Q8 (fun _ j=>j≠0) fun i j=>.int (i.fmod j)):=J6.Ve AW
theorem jk:J6 X (binaryOp .Pow) (Q8 xW fun i j=>.int (i ^ j.toNat)):=J6.Ve DD
def dB(t:DE):DT:=fun ρ Q=>t ρ fun x=>SA x Q
theorem eM{op:CmpOp}{r:RD2}(ho:J6 X (compareOp op) r)(ha:Hs X a ta)(hb:Hs X b tb)(hm:behindInMarks op b=false:=by first|exact lZ _ (by decide) (by decide)|rfl):Hs X (.Compare a [op] [b] pos) (Ox r ta tb):=by intro pins s σ H W ρ Q I rr h;refine wpAny_Compare1 (qo ha hb I rr h fun vv uu s2 v u x y H2 I2 e rv ru hx hy q=>?_) hm;exact GU (ho pins s2 σ H2 W x y v u vv uu Q I2 (rr.same e).tracked rv ru hx hy q) fun _ _ z=>z.up e
theorem aH{op:CmpOp}{r:RD2}(ho:J6 X (compareOp op) r)(ha:Hs X a ta)(hb:Hs X b tb)(hm:behindInMarks op b=false:=by first|exact lZ _ (by decide) (by decide)|rfl):N8 X (.Compare a [op] [b] pos) (dB (Ox r ta tb)):=by
 intro pins s σ H W ρ Q I rr h;refine SV (GU (ha pins s σ H W ρ _ I rr h) fun vv s1 ⟨v,H1,x,I1,rv,e1,hx,q1⟩=>GU (hb pins s1 σ H1 W ρ _ I1 (rr.same e1) q1) fun uu s2 ⟨u,H2,y,I2,ru,e2,hy,q2⟩=>
  GU (ho pins s2 σ H2 W x y v u vv uu _ I2 ((rr.same e1).same e2).tracked rv ru (hx.same e2) hy q2) fun c s3 ⟨z,H3,d,I3,r3,e3,hd,q3⟩=>?_) hm
 obtain⟨k,ek,q3⟩:=mB q3;subst ek;have hz:=hd.OQ;subst hz;cases r3;exact O4 ⟨H3,I3,e1.trans (e2.trans e3),q3⟩
theorem dP{e:Expr}{t:DE}(h:Hs X e t)(he:∀whole,isTrue e X.env whole=(do let v←whole;standAt e.pos;holding [v] (truthy v)):=by intro _;rfl):N8 X e (dB t):=by intro pins s σ H W ρ Q I rr hw;refine isTrue_plain (GU (h pins s σ H W ρ _ I rr hw) fun vv s1 ⟨v,H1,x,I1,rv,e1,hx,q⟩=>?_) (he _);obtain⟨k,ek,q⟩:=mB q;subst ek;have hz:=hx.OQ;subst hz;cases rv;exact O4 ⟨H1,I1,e1,q⟩
variable{tA QC:DT}{rest:yai}
def BQ(t u:DT):DT:=fun ρ Q=>t ρ fun c=>if c=true then u ρ Q else Q false
def dOr(t u:DT):DT:=fun ρ Q=>t ρ fun c=>if c=true then Q true else u ρ Q
def B4(t:DT):DT:=fun ρ Q=>t ρ fun c=>Q (!c)
theorem lj(ha:N8 X a tA):NB X (.BoolOp .And [a] pos) tA:=by
 intro wh pins s σ H W ρ Q I rr h;refine isTrue_and (GU (ha pins s σ H W ρ Q I rr h) fun c s1 e=>?_);cases c with
 |true=>exact isTrue_and_nil e
 |false=>exact e
theorem jh(ha:N8 X a tA):NB X (.BoolOp .Or [a] pos) tA:=by
 intro wh pins s σ H W ρ Q I rr h;refine isTrue_or (GU (ha pins s σ H W ρ Q I rr h) fun c s1 e=>?_);cases c with
 |false=>exact isTrue_or_nil e
 |true=>exact e
theorem ki(ha:N8 X a tA)(hb:NB X (.BoolOp .And (b::rest) pos) QC):NB X (.BoolOp .And (a::b::rest) pos) (BQ tA QC):=by
 intro wh pins s σ H W ρ Q I rr h;refine isTrue_and (GU (ha pins s σ H W ρ _ I rr h) fun c s1 ⟨H1,I1,e1,q1⟩=>?_);cases c with
 |true=>exact GU (hb wh pins s1 σ H1 W ρ Q I1 (rr.same e1) q1) fun _ _ ⟨H2,I2,e2,q2⟩=>⟨H2,I2,e1.trans e2,q2⟩
 |false=>exact⟨H1,I1,e1,q1⟩
theorem lp(ha:N8 X a tA)(hb:NB X (.BoolOp .Or (b::rest) pos) QC):NB X (.BoolOp .Or (a::b::rest) pos) (dOr tA QC):=by
 intro wh pins s σ H W ρ Q I rr h;refine isTrue_or (GU (ha pins s σ H W ρ _ I rr h) fun c s1 ⟨H1,I1,e1,q1⟩=>?_);cases c with
 |true=>exact⟨H1,I1,e1,q1⟩
 |false=>exact GU (hb wh pins s1 σ H1 W ρ Q I1 (rr.same e1) q1) fun _ _ ⟨H2,I2,e2,q2⟩=>⟨H2,I2,e1.trans e2,q2⟩
theorem fV(ha:N8 X a tA):N8 X (.UnaryOp .Not a pos) (B4 tA):=by intro pins s σ H W ρ Q I rr h;exact isTrue_not (GU (ha pins s σ H W ρ (fun c=>Q (!c)) I rr h) fun _ _ ⟨a,b,c,d⟩=>⟨a,b,c,d⟩)
def mC(ta tb:DE):DE:=fun ρ Q=>ta ρ fun x=>SA x fun c=>if c=true then tb ρ Q else Q (.bl false)
def FQ(ta tb:DE):DE:=fun ρ Q=>ta ρ fun x=>SA x fun c=>if c=true then Q (.bl true)else tb ρ Q
def zD(ta:DE):DE:=fun ρ Q=>ta ρ fun x=>SA x fun c=>Q (.bl (!c))
theorem je{op}{t:DE}(h:Hs X a t):Hs X (.BoolOp op [a] pos) t:=fun pins s σ H W ρ Q I rr hw=>BoolOp_one (h pins s σ H W ρ Q I rr hw)
theorem gZ(ha:Hs X a ta)(hb:Hs X (.BoolOp .And (b::rest) pos) tb):Hs X (.BoolOp .And (a::b::rest) pos) (mC ta tb):=by
 intro pins s σ H W ρ Q I rr h;refine BoolOp_and (GU (ha pins s σ H W ρ _ I rr h) fun vv s1 ⟨v,H1,x,I1,rv,e1,hx,q1⟩=>?_);obtain⟨c,ec,q1⟩:=mB q1;subst ec;have hz:=hx.OQ;subst hz;cases rv;refine O4 ?_;cases c with
 |true=>exact GU (hb pins s1 σ H1 W ρ Q I1 (rr.same e1) q1) fun _ _ z=>z.up e1
 |false=>exact⟨.bl false,H1,_,I1,rfl,e1,Den.bl _,q1⟩
theorem Cj(ha:Hs X a ta):Hs X (.UnaryOp .Not a pos) (zD ta):=by intro pins s σ H W ρ Q I rr h;refine UnaryOp_ (GU (ha pins s σ H W ρ _ I rr h) fun vv s1 ⟨v,H1,x,I1,rv,e1,hx,q1⟩=>?_);obtain⟨c,ec,q1⟩:=mB q1;subst ec;have hz:=hx.OQ;subst hz;cases rv;exact not_of (O4 ⟨.bl (!c),H1,_,I1,rfl,e1,Den.bl _,q1⟩)
def dIf(t:DT)(ta tb:DE):DE:=fun ρ Q=>t ρ fun c=>if c=true then ta ρ Q else tb ρ Q
theorem lV(hc:N8 X c tA)(ha:Hs X a ta)(hb:Hs X b tb):Hs X (.IfExp c a b pos) (dIf tA ta tb):=by
 intro pins s σ H W ρ Q I rr h;refine wpAny_IfExp (GU (hc pins s σ H W ρ _ I rr h) fun d s1 ⟨H1,I1,e1,q1⟩=>?_);cases d with
 |true=>exact GU (ha pins s1 σ H1 W ρ Q I1 (rr.same e1) q1) fun _ _ z=>z.up e1
 |false=>exact GU (hb pins s1 σ H1 W ρ Q I1 (rr.same e1) q1) fun _ _ z=>z.up e1
def Wb(ds:yas):Int->(D->Prop)->Prop
 |.ofNat n,Q=>match ds[n]? with
  |some d=>Q d
  |none=>False
 |i,Q=>∃d,KQ ds i=some d/\Q d
theorem mP(ds:yas)(i:Int)(Q:D->Prop):Wb ds i Q=∃d,KQ ds i=some d/\Q d:=by
 cases i with
 |ofNat n =>
  show(match ds[n]? with
   |some d=>Q d
   |none=>False)=_
  by_cases h:n<ds.length
  ·have e:KQ ds (Int.ofNat n)=some ds[n]:=de (by simp[h]);rw[e,Sq h];exact propext ⟨fun q=>⟨_,rfl,q⟩,fun⟨_,q,z⟩=>by cases q;exact z⟩
  ·rw[Sr (Po.mp h)];refine propext ⟨False.elim,fun⟨d,q,z⟩=>?_⟩
   replace q:KQ ds (n:Int)=some d:=q
   unfold KQ ixN at q;rw[G4 (Int.natCast_nonneg n),GS (by omega)]at q;cases q
 |negSucc n=>rfl
def dO:RD2:=fun x y Q=>match x,y with
 |.tup ds,.int i=>Wb ds i Q
 |.lst _ ds,.int i=>Wb ds i Q
 |_,_=>False
theorem A7{x y:D}{Q:D->Prop}(h:dO x y Q):∃ds i d,(x=.tup ds∨∃ t,x=.lst t ds)/\y=.int i/\KQ ds i=some d/\Q d:=by
 unfold dO at h;split at h
 ·rw[mP]at h;obtain⟨d,h⟩:=h;exact⟨_,_,d,.inl rfl,rfl,h⟩
 ·rw[mP]at h;obtain⟨d,h⟩:=h;exact⟨_,_,d,.inr ⟨_,rfl⟩,rfl,h⟩
 ·exact h.elim
theorem qG{K:yac}{P:yak}{H:Hp}{ds:yas}{vs:yar}{i:Int}{d:D}(h:af K P H ds vs)(e:KQ ds i=some d):∃v,KQ vs i=some v/\Den K P H d v:=by
 unfold KQ at e ⊢;rw[h.len];cases q:ixN ds.length i with
 |none=>rw[q]at e;cases e
 |some j =>
  rw[q]at e;exact h.get e
theorem aq(ha:Hs X a ta)(hb:Hs X b tb)(hs:nL b:=by intro _ _;rfl):Hs X (.Subscript a b pos) (Ox dO ta tb):=by
 intro pins s σ H W ρ Q I rr h;refine Subscript_ (qo ha hb I rr h fun vv uu s2 v u x y H2 I2 e rv ru hx hy q=>?_)
 replace q:=A7 q
 obtain⟨ds,i,d,ex,ey,ei,q⟩:=q;subst ey;have hu:=hy.Kb;subst hu;have fin:∀(v':V),Den X.K W.bad H2 d v'->ag H2 H2/\∃d',Den X.K W.bad H2 d' v'/\Q d':=fun v' hd=>⟨ag.refl _,d,hd,q⟩
 rcases ex with ex|⟨tg,ex⟩
 ·subst ex;obtain⟨p,vs,ev,hq,hd⟩:=hx.ME;subst ev;obtain⟨v',e1,e2⟩:=qG hd ei;exact GU (C2 a b pins s2 σ H2 _ _ vv uu (fun v' H'=>ag H2 H'/\∃d',Den X.K W.bad H' d' v'/\Q d') I2 rv ru ⟨p,vs,i,v',rfl,rfl,hq.w,e1,fin v' e2⟩ (hs _ _))
   fun _ s3 ⟨w',H3,I3,r3,e3,d',OY,q'⟩=>⟨w',H3,d',I3,r3,e.trans e3,OY,q'⟩
 ·subst ex;obtain⟨p,vs,ev,_,hq,hd⟩:=hx.KY;subst ev;obtain⟨v',e1,e2⟩:=qG hd ei;exact GU (eG a b pins s2 σ H2 _ _ vv uu (fun v' H'=>ag H2 H'/\∃d',Den X.K W.bad H' d' v'/\Q d') I2 rv ru ⟨p,vs,i,v',rfl,rfl,hq,e1,fin v' e2⟩ (hs _ _))
   fun _ s3 ⟨w',H3,I3,r3,e3,d',OY,q'⟩=>⟨w',H3,d',I3,r3,e.trans e3,OY,q'⟩
end
section
variable{X:Cx}{e:Expr}{es:yai}{te:DE}{t:DA}{pos:Pos}
def gY:DA:=fun _ Q=>Q []
def cQ(ta:DE)(tr:DA):DA:=fun ρ Q=>ta ρ fun x=>tr ρ fun xs=>Q (x::xs)
theorem ah:MF X [] gY:=fun _ _ _ _ H W ρ Q I _ h=>Calls.spliced_nil ⟨[],H,[],I,.nil,ag.refl H,af.nil,h⟩
theorem aa(ha:Hs X e te)(hr:MF X es t)(hs:starEach (e::es) X.env=(false,eval e X.env)::starEach es X.env:=by rfl):MF X (e::es) (cQ te t):=by intro pos pins s σ H W ρ Q I rr h;rw[hs];show wpAny _ _ (spliced ((false,eval e X.env)::backTo pos (starEach es X.env))) _ _ s;refine Calls.spliced_cons (GU (ha pins s σ H W ρ _ I rr h) fun u s1 ⟨v,H1,x,I1,r1,e1,hx,q1⟩=>?_);exact GU (hr pos pins s1 σ H1 W ρ _ I1 (rr.same e1) q1) fun us s2 ⟨vs,H2,xs,I2,r2,e2,hxs,q2⟩=>⟨v::vs,H2,x::xs,I2,.cons r1 r2,e1.trans e2,af.cons (hx.same e2) hxs,q2⟩
theorem ag.upd{H:Hp}{p:Addr}{o:HO}(h:H p=none)(n:NT o:=by exact True.intro):ag H (upd H p o):=⟨fun b u e _=>by rw[aj (aP e h)];exact e,fun b ps e=>⟨#[],by rw[aj (aP e h),e];simp⟩,cx.upd n (.inl h)⟩
def Cf(t:DA):DE:=fun ρ Q=>t ρ fun ds=>ds.length<=sizeLine/\Q (.tup ds)
def B0(t:DA):DE:=fun ρ Q=>t ρ fun ds=>ds.length<=sizeLine/\Q (.lst true ds)
theorem hG{x1}(h:MF X es t):Hs X (.Tuple es x1 pos) (Cf t):=by intro pins s σ H W ρ Q I rr hq;refine wpAny_Tuple_spliced (GU (h pos pins s σ H W ρ _ I rr hq) fun us s1 ⟨vs,H1,ds,I1,r,e1,hd,z,q⟩=>?_);rw[<- hd.len]at z;refine⟨by rw[<- r.length];exact z,?_⟩;have hf:H1 s1.heap.objs.size=none:=I1.IZ.fresh (Ka _);refine⟨.ref s1.heap.objs.size,L2.upd H1 s1.heap.objs.size (.tup vs),_,I1.laid (t':=s1.toks) (fun b u e=>KU _ e) (Ka _) ⟨z,us,r,⟨_,Mv _ rfl,rfl,_,rfl⟩⟩,rfl,e1.trans (ag.upd hf),Den.tup (JP.of au) (hd.same (ag.upd hf)),q⟩
theorem Inv.KZ{pins:yab}{σ:St}{H:Hp}{s:Shared}(I:Inv X pins σ H s):X.K.lookup s.heap.objs.size=none:=by
 cases e:X.K.lookup s.heap.objs.size with
 |none=>rfl
 |some o=>exact absurd (J9 (I.Ll _ _ e)) (O8 _)
theorem bw(h:MF X es t):Hs X (.List es pos) (B0 t):=by
 intro pins s σ H W ρ Q I rr hq;refine wpAny_List_spliced (GU (h pos pins s σ H W ρ _ I rr hq) fun us s1 ⟨vs,H1,ds,I1,r,e1,hd,z,q⟩=>?_);rw[<- hd.len]at z;refine⟨by rw[<- r.length];exact z,?_⟩;have hf:H1 s1.heap.objs.size=none:=I1.IZ.fresh (Ka _);exact⟨.ref s1.heap.objs.size,L2.upd H1 s1.heap.objs.size (.lst vs),_,I1.laid (t':=s1.toks) (fun b u e=>KU _ e) (Ka _) ⟨z,us,0,r,Mv _ rfl⟩,rfl,e1.trans (ag.upd hf),
  Den.lst ((rr.same e1).fresh hf) (.new au (Inv.KZ I1)) (hd.same (ag.upd hf)),q⟩
end
abbrev DSp:=yas->(D->Prop)->(Value->Prop)->Prop
def aJ(K:yac)(sp:DSp):Sp:=fun vs H Q E=>∃(P:Addr->Prop) (ds:yas) (Qd:D->Prop) (Ed:Value->Prop),cb K H/\(∀a,P a->∃o,H a=some o)/\af K (fun t a=>t=true∨P a) H ds vs/\sp ds Qd Ed ∧
 (∀d v H',ag H H'->Den K (fun t a=>P a∨(t=true/\∃o,H a=some o)) H' d v->Qd d->Q v H')/\∀c a H',ag H H'->Ed c->E c a H'
mutual
def ax:D->D
 |.tup ds=>.tup (aC ds)
 |.lst _ ds=>.lst false (aC ds)
 |.obj C ns ds=>.obj C ns (aC ds)
 |.MQ=>.MQ
 |.MD ks ds=>.MD ks (aC ds)
 |.HZ=>.HZ|.bl b=>.bl b|.int i=>.int i|.str x=>.str x|.exc c=>.exc c
def aC:yas->yas
 |[]=>[]
 |d::ds=>ax d::aC ds
end
section
variable{K:yac}{P:yak}{P':Addr->Prop}{H:Hp}
mutual
theorem Den.ax(h:∀t a,P' a->P t a):∀(d:D) (v:V),Den K P H d v->Den K (fun t a=>t=true∨P' a) H (PD.ax d) v
 |.HZ,_,q=>by simpa only[Den,PD.ax]using q
 |.bl _,_,q=>by simpa only[Den,PD.ax]using q
 |.int _,_,q=>by simpa only[Den,PD.ax]using q
 |.str _,_,q=>by simpa only[Den,PD.ax]using q
 |.exc _,_,q=>by simpa only[Den,PD.ax]using q
 |.tup ds,_,q=>by simp only[Den,PD.ax]at q ⊢;obtain⟨a,vs,e,q1,q2⟩:=q;exact⟨a,vs,e,q1,af.ax h ds vs q2⟩
 |.obj C ns ds,_,q=>by simp only[Den,PD.ax]at q ⊢;obtain⟨a,dx,vs,e,q1,l,k,q2⟩:=q;exact⟨a,dx,vs,e,q1,l,k,af.ax h ds vs q2⟩
 |.MQ,_,q=>by simpa only[Den,PD.ax]using q
 |.MD ks ds,_,q=>by simp only[Den,PD.ax]at q ⊢;obtain⟨a,o,MK,vs,e,q1,l,k,q2⟩:=q;exact⟨a,o,MK,vs,e,q1,l,k,af.ax h ds vs q2⟩
 |.lst t ds,_,q=>by simp only[Den,PD.ax]at q ⊢;obtain⟨a,vs,e,p,q1,q2⟩:=q;exact⟨a,vs,e,fun z=>z.elim (fun z=>by cases z) fun z=>p (h t a z),.any q1.1,af.ax h ds vs q2⟩
theorem af.ax(h:∀t a,P' a->P t a):∀(ds:yas) (vs:yar),af K P H ds vs->af K (fun t a=>t=true∨P' a) H (PD.aC ds) vs
 |[],_,q=>by simpa only[af,PD.aC]using q
 |d::ds,_,q=>by simp only[af,PD.aC]at q ⊢;obtain⟨v,r,e,h1,h2⟩:=q;exact⟨v,r,e,Den.ax h d v h1,af.ax h ds r h2⟩
end
end
theorem Den.back{K:yac}{W:Own}{H H':Hp}{d:D}{v:V}(tr:∀t a,W.bad t a->∃o,H a=some o)(h:Den K (fun t a=>W.bad false a∨(t=true/\∃o,H a=some o)) H' d v):Den K W.bad H' d v :=
 h.HF fun t a z=>by
  cases t with
  |false=>exact .inl z
  |true=>exact .inr ⟨rfl,tr true a z⟩
section
variable{X:Cx}{CX:CXT}{k:Nat}{f:Addr}{fd:FuncData}{ps:yah}{sp:DSp}{x:Str}{p pos:Pos}{e:Expr}{es:yai}{t:DA}
def jx(sp:DSp)(dds:yas)(t:DA):DE:=fun ρ Q=>t ρ fun ds=>sp (aC ds++dds) Q fun _=>False
def kh:D->V
 |.HZ=>.HZ|.bl b=>.bl b|.int i=>.int i|.str x=>.str x|_=>.HZ
def nj:D->Prop
 |.tup _=>False|.lst _ _=>False|.exc _=>False|.obj _ _ _=>False|.MQ=>False|.MD _ _=>False|_=>True
theorem af.oY{K:yac}{P:yak}{H:Hp}:∀{dds:yas},(∀d∈dds,nj d)->af K P H dds (dds.map kh)
 |[],_=>af.nil
 |d::r,h=>by
  refine af.cons ?_ (af.oY fun x hx=>h x (Nu _ hx));have:=h d M4;cases d with
  |HZ=>exact Den.HZ
  |bl b=>exact Den.bl b
  |int i=>exact Den.int i
  |str x=>exact Den.str x
  |tup _=>exact this.elim
  |lst _ _=>exact this.elim
  |exc _=>exact this.elim
  |obj _ _ _=>exact this.elim
  |MQ=>exact this.elim
  |MD _ _=>exact this.elim
theorem zQ{dds:yas}{dsv:yad}(F:az X.prog X.w X.K X.mg X.base CX k f fd ps (aJ X.K sp))(hr:aX k X.A)(hb:Binds X.K fd ps dsv)(hd:Vals (dds.map kh) dsv)(hs:∀d∈dds,nj d)(hx:Passes CX X E0)
  {pins:yab} {σ:St} {H:Hp} {s:Shared} {W:Own} {ρ:Ro} {us:yad} {vs:yar} {ds:yas} {Q:D->Prop} (I:Inv X pins σ H s) (rr:Rel X W H σ ρ) (r:Vals vs us) (JS:af X.K W.bad H ds vs)
  (q:sp (aC ds++dds) Q fun _=>False):wpAny (model X.prog X.w) X.A (call (.ref f) us) (DP X pins σ W H Q) X.xe s:=by
 refine GU (nc (Q:=fun v H'=>ag H H'/\∃d,Den X.K W.bad H' d v/\Q d) F hr hb hd hx I r ⟨W.bad false,aC ds++dds,Q,fun _=>False,rr.tab,rr.tracked false,(af.ax (fun _ _=>Own.Ov) ds vs JS).append (af.oY hs),q,fun d v H' e h1 h2=>⟨e,d,Den.back rr.tracked h1,h2⟩,fun _ _ _ _ z=>z.elim⟩)
  fun u s2 ⟨v,H2,I2,r2,e2,d,h1,h2⟩=>⟨v,H2,d,I2,r2,e2,h1,h2⟩
theorem ym{dds:yas}{dsv:yad}(F:az X.prog X.w X.K X.mg X.base CX k f fd ps (aJ X.K sp))(hr:aX k X.A)(hg:Gl X x)(hm:X.mg x=some (.ref f))(hk:PySem.W.keepIn X.K (.ref f)=true)(hb:Binds X.K fd ps dsv)(hd:Vals (dds.map kh) dsv)(hs:∀d∈dds,nj d)(hx:Passes CX X E0)
  (ha:MF X (e::es) t) (Kl:(x==("__debug__" : Str))=false:=by decide) (he:starEach (e::es) X.env=(false,eval e X.env)::starEach es X.env:=by rfl) (KW:(backTo pos (starEach es X.env)).any (·.1)=false:=by rfl) :
  Hs X (.Call (.Name x p) (e::es) [] pos) (jx sp dds t):=by
 intro pins s σ H W ρ Q I rr h;refine Qv (cN I hg hm ?_ Kl);refine PySem.W.callWith_K (h₀:=X.base) I.ok.mod.Pa hk (GU (ha pos pins s σ H W ρ _ I rr h) fun us s1 ⟨vs,H1,ds,I1,r,e1,JS,q⟩=>⟨I1.Ll,?_⟩) he KW;exact GU (zQ F hr hb hd hs hx I1 (rr.same e1) r JS q) fun _ _ z=>z.up e1
def RM(r:yas->(D->Prop)->Prop)(t:DA):DE:=fun ρ Q=>t ρ fun ds=>r ds Q
def cF(X:Cx)(f:Value)(r:yas->(D->Prop)->Prop):Prop :=
 ∀ (pins:yab) (s:Shared) (σ:St) (H:Hp) (W:Own) (ds:yas) (vs:yar) (us:yad) (Q:D->Prop),Inv X pins σ H s->(∀t a,W.bad t a->∃o,H a=some o)->Vals vs us->af X.K W.bad H ds vs->r ds Q →
  wpAny (model X.prog X.w) X.A (call f us) (DP X pins σ W H Q) X.xe s
theorem cF.of{f:Value}{r:yar->Hp->VK->Prop}{rd:yas->(D->Prop)->Prop}(h:k6 X f r)(k:∀P H ds vs Q,(∀t a,P t a->∃o,H a=some o)->af X.K P H ds vs->rd ds Q->r vs H fun v' H'=>ag H H'/\∃d',Den X.K P H' d' v'/\Q d'):cF X f rd:=by intro pins s σ H W ds vs us Q I tr r hd q;exact GU (h pins s σ H vs us _ I r (k _ H ds vs Q tr hd q)) fun _ s2 ⟨w',H2,I2,r2,e2,d,hd,q2⟩=>⟨w',H2,d,I2,r2,e2,hd,q2⟩
variable{id T:String}{r:yas->(D->Prop)->Prop}
theorem bg (hc:cF X (.builtin id) r) (hg:Gl X x) (hm:X.mg x=none) (hv:bootBuiltins x=some (.builtin id)) (ha:MF X (e::es) t) (hn:x ≠ "__name__" := by decide) (Kl:(x==("__debug__" : Str))=false:=by decide)
  (KN:starEach (e::es) X.env=(false,eval e X.env)::starEach es X.env:=by rfl) (KW:(backTo pos (starEach es X.env)).any (·.1)=false:=by rfl) :
  Hs X (.Call (.Name x p) (e::es) [] pos) (RM r t):=by
 intro pins s σ H W ρ Q I rr h;refine Qv (fZ I hg hm hv ?_ hn Kl);exact PyProof.Rows.callWith_builtin1 (GU (ha pos pins s σ H W ρ _ I rr h) fun us s1 ⟨vs,H1,ds,I1,rv,e1,hd,q⟩=>GU (hc pins s1 σ H1 W ds vs us Q I1 (rr.same e1).tracked rv hd q) fun _ _ z=>z.up e1) KN KW
theorem bu (hc:cF X (.type T) r) (hg:Gl X x) (hm:X.mg x=none) (hv:bootBuiltins x=some (.type T)) (ha:MF X (e::es) t) (hn:x ≠ "__name__" := by decide) (Kl:(x==("__debug__" : Str))=false:=by decide)
  (KN:starEach (e::es) X.env=(false,eval e X.env)::starEach es X.env:=by rfl) (KW:(backTo pos (starEach es X.env)).any (·.1)=false:=by rfl) :
  Hs X (.Call (.Name x p) (e::es) [] pos) (RM r t):=by
 intro pins s σ H W ρ Q I rr h;refine Qv (fZ I hg hm hv ?_ hn Kl);exact PyProof.Rows.callWith_type1 (GU (ha pos pins s σ H W ρ _ I rr h) fun us s1 ⟨vs,H1,ds,I1,rv,e1,hd,q⟩=>GU (hc pins s1 σ H1 W ds vs us Q I1 (rr.same e1).tracked rv hd q) fun _ _ z=>z.up e1) KN KW
end
mutual
def Km:D->PyData
 |.HZ=>.none
 |.bl b=>.bool b
 |.int i=>.int i
 |.str x=>.str x
 |.tup ds=>.tuple (cj ds)
 |.lst _ ds=>.list (cj ds)
 |.exc _=>.none
 |.obj _ _ _=>.none
 |.MD _ _=>.none
 |.MQ=>.none
def cj:yas->List PyData
 |[]=>[]
 |d::ds=>Km d::cj ds
end
mutual
def NC:D->Bool
 |.tup ds=>jH ds
 |.lst _ ds=>jH ds
 |.exc _=>false
 |.obj _ _ _=>false
 |.MD _ _=>false
 |.MQ=>false
 |_=>true
def jH:yas->Bool
 |[]=>true
 |d::ds=>NC d && jH ds
end
def eqD(x y:D):Bool:=PyData.eqv (Km x) (Km y)
def okD(x:D):Prop:=NC x=true/\SeqAt.shaped (Km x)=true
section
variable{X:Cx}{pins:yab}{σ:St}{H:Hp}{s:Shared}{P:yak}
mutual
theorem fU(I:Inv X pins σ H s):∀(d:D) (v:V) (u:Value),Den X.K P H d v->RelV v u->NC d=true->∃as,Reads s.heap u (Km d) as
 |.HZ,_,_,h,r,_=>by have e:=h.Pw;subst e;cases r;rw[Km];exact⟨_,.none⟩
 |.bl b,_,_,h,r,_=>by have e:=h.OQ;subst e;cases r;rw[Km];exact⟨_,.bool b⟩
 |.int i,_,_,h,r,_=>by have e:=h.Kb;subst e;obtain⟨t,rfl⟩:=r;rw[Km];exact⟨_,.int i t⟩
 |.str x,_,_,h,r,_=>by have e:=h.L6;subst e;obtain⟨t,rfl⟩:=r;rw[Km];exact⟨_,.str x t⟩
 |.tup ds,_,_,h,r,pl=>by rw[NC]at pl;obtain⟨a,vs,e,hq,hd⟩:=h.ME;subst e;cases r;obtain⟨its,rv,⟨o,h1,h2,n,h3⟩,_⟩:=I.tuple hq.w;obtain⟨as,q⟩:=jz I ds vs its hd rv pl;rw[Km];exact⟨as,reads_tuple_at h1 h2 h3 (by simpa using q)⟩
 |.lst _ ds,_,_,h,r,pl=>by rw[NC]at pl;obtain⟨a,vs,e,_,hq,hd⟩:=h.KY;subst e;cases r;obtain⟨its,rv,⟨o,n,h1,h2,_,h3⟩,_⟩:=I.list hq;obtain⟨as,q⟩:=jz I ds vs its hd rv pl;rw[Km];exact⟨_,reads_list_at h1 h2 h3 (by simpa using q)⟩
 |.exc _,_,_,_,_,pl=>by rw[NC]at pl;cases pl
 |.obj _ _ _,_,_,_,_,pl=>by rw[NC]at pl;cases pl
 |.MD _ _,_,_,_,_,pl=>by rw[NC]at pl;cases pl
 |.MQ,_,_,_,_,pl=>by rw[NC]at pl;cases pl
theorem jz(I:Inv X pins σ H s):∀(ds:yas) (vs:yar) (us:yad),af X.K P H ds vs->Vals vs us->jH ds=true->∃as,ReadsAll s.heap us (cj ds) as
 |[],_,_,h,r,_=>by simp only[af]at h;subst h;cases r;rw[cj];exact⟨_,.nil⟩
 |d::ds,_,_,h,r,pl=>by
  rw[jH,N6]at pl;simp only[af]at h;obtain⟨v,r',rfl,h1,h2⟩:=h;cases r with
  |cons ra rb =>
   obtain⟨as,q⟩:=fU I d v _ h1 ra pl.1;obtain⟨bs,q'⟩:=jz I ds _ _ h2 rb pl.2;rw[cj];exact⟨_,.cons q q'⟩
end
def yU:RD2:=fun x y Q=>okD x/\okD y/\Q (.bl (eqD x y))
def D3:RD2:=fun x y Q=>okD x/\okD y/\Q (.bl (!eqD x y))
theorem eP(hu:X.A.units+64<cLine):J6 X (compareOp .Eq) yU:=by intro pins s σ H W x y v u vv uu Q I _ rv ru hx hy q;obtain⟨h1,h2,q⟩:=q;obtain⟨as,ra⟩:=fU I x v vv hx rv h1.1;obtain⟨bs,rb⟩:=fU I y u uu hy ru h2.1;exact eq_dataH ra rb h1.2 h2.2 hu ⟨.bl _,H,_,I,rfl,ag.refl H,Den.bl _,q⟩
theorem Fe(hu:X.A.units+64<cLine):J6 X (compareOp .NotEq) D3:=by intro pins s σ H W x y v u vv uu Q I _ rv ru hx hy q;obtain⟨h1,h2,q⟩:=q;obtain⟨as,ra⟩:=fU I x v vv hx rv h1.1;obtain⟨bs,rb⟩:=fU I y u uu hy ru h2.1;exact ne_dataH ra rb h1.2 h2.2 hu ⟨.bl _,H,_,I,rfl,ag.refl H,Den.bl _,q⟩
theorem bT:J6 X (compareOp .Eq) (eA fun i j=>.bl (decide (i=j))):=J6.of zN fun P H x y v u Q hx hy z=>by obtain⟨i,j,e1,e2,q⟩:=lr z;subst e1 e2;have a:=hx.Kb;have b:=hy.Kb;subst a b;refine⟨rfl,ag.refl H,_,Den.bl _,?_⟩;rw[show decide (V.int i=V.int j)=decide (i=j)from by rw[lh];rfl];exact q
theorem kB:J6 X (compareOp .NotEq) (eA fun i j=>.bl (!decide (i=j))):=J6.of Fj fun P H x y v u Q hx hy z=>by obtain⟨i,j,e1,e2,q⟩:=lr z;subst e1 e2;have a:=hx.Kb;have b:=hy.Kb;subst a b;refine⟨rfl,ag.refl H,_,Den.bl _,?_⟩;rw[show decide (V.int i=V.int j)=decide (i=j)from by rw[lh];rfl];exact q
def fE:D->Bool
 |.HZ=>true
 |_=>false
theorem pI{K:yac}{d:D}{v:V}(h:Den K P H d v):decide (v=.HZ)=fE d:=by
 cases d with
 |HZ=>have:=h.Pw;subst this;rfl
 |bl b=>have:=h.OQ;subst this;rfl
 |int b=>have:=h.Kb;subst this;rfl
 |str b=>have:=h.L6;subst this;rfl
 |tup ds=>obtain⟨a,vs,e,_⟩:=h.ME;subst e;rfl
 |lst _ ds=>obtain⟨a,vs,e,_⟩:=h.KY;subst e;rfl
 |exc c=>obtain⟨a,e,_⟩:=h.RL;subst e;rfl
 |obj C ns ds=>obtain⟨a,dx,vs,e,_⟩:=h.Ou;subst e;rfl
 |MQ=>obtain⟨a,e,_⟩:=h.Tq;subst e;rfl
 |MD ks ds=>obtain⟨a,_,_,vs,e,_⟩:=h.Tr;subst e;rfl
theorem Dq:J6 X (compareOp .Is) (fun x y Q=>y=.HZ/\Q (.bl (fE x))):=J6.of DC fun P H x y v u Q hx hy ⟨e,q⟩=>by subst e;refine⟨hy.Pw,ag.refl H,_,Den.bl _,?_⟩;rw[pI hx];exact q
theorem AN:J6 X (compareOp .IsNot) (fun x y Q=>y=.HZ/\Q (.bl (!fE x))):=J6.of AY fun P H x y v u Q hx hy ⟨e,q⟩=>by subst e;refine⟨hy.Pw,ag.refl H,_,Den.bl _,?_⟩;rw[pI hx];exact q
end
section
variable{X:Cx}
theorem qJ:cF X (.builtin "abs") (fun ds Q=>∃i:Int,ds=[.int i]/\Q (.int (i.natAbs:Int))):=cF.of yj fun P H ds vs Q _ hd ⟨i,e,q⟩=>by
 subst e;obtain⟨v,r,rfl,h1,h2⟩:∃v r,vs=v::r/\Den X.K P H (.int i) v/\af X.K P H [] r:=by simpa only[af]using hd
 have e1:=h1.Kb;have e2:r=[]:=by simpa only[af]using h2
 subst e1 e2;refine⟨i,rfl,ag.refl H,_,Den.int _,?_⟩;have:(if i<0 then -i else i)=(i.natAbs:Int):=by split<;>omega
 rw[this];exact q
theorem dY{K:yac}{P:yak}{H:Hp}{x:D}{vs:yar}(h:af K P H [x] vs):∃v,vs=[v]/\Den K P H x v:=by simp only[af]at h;obtain⟨v,r,e,h1,e'⟩:=h;subst e' e;exact⟨v,rfl,h1⟩
def lY(ds:yas)(Q:D->Prop):Prop:=match ds with
 |[.lst _ xs]=>Q (.int (xs.length:Int))
 |[.tup xs]=>Q (.int (xs.length:Int))
 |_=>False
theorem Dh(t:Bool)(xs:yas)(Q:D->Prop):lY [.lst t xs] Q=Q (.int (xs.length:Int)):=rfl
theorem Di(xs:yas)(Q:D->Prop):lY [.tup xs] Q=Q (.int (xs.length:Int)):=rfl
theorem AE{ds:yas}{Q:D->Prop}(h:lY ds Q):∃xs,((∃t,ds=[.lst t xs])∨ds=[.tup xs])/\Q (.int (xs.length:Int)):=by
 unfold lY at h;split at h
 ·exact⟨_,.inl ⟨_,rfl⟩,h⟩
 ·exact⟨_,.inr rfl,h⟩
 ·exact h.elim
theorem cA:cF X (.builtin "len") lY:=cF.of gU fun P H ds vs Q _ hd h=>by
 obtain⟨xs,e,q⟩:=AE h;rcases e with⟨tg,e⟩| e
 ·subst e;obtain⟨v,rfl,h1⟩:=dY hd;obtain⟨a,ws,e,_,hq,hw⟩:=h1.KY;subst e;refine⟨a,ws,rfl,.inl hq,ag.refl H,_,Den.int _,?_⟩;rw[hw.len];exact q
 ·subst e;obtain⟨v,rfl,h1⟩:=dY hd;obtain⟨a,ws,e,hq,hw⟩:=h1.ME;subst e;refine⟨a,ws,rfl,.inr hq.w,ag.refl H,_,Den.int _,?_⟩;rw[hw.len];exact q
def Oy:D->String
 |.HZ => "NoneType" | .bl _ => "bool" | .int _ => "int" | .str _ => "str" | .tup _ => "tuple" | .lst _ _ => "list" | .exc _ => "object" | .obj _ _ _ => "object" | .MQ => "dict" | .MD _ _ => "dict"
def Qk:D->Value
 |.exc c=>.ref c
 |.obj C _ _=>.ref C
 |d=>.type (Oy d)
variable{e:Expr}{te:DE}{p p' pos:Pos}{T:String}{x:Str}
theorem Az{P:Program}{w:World}{H:Hp}{h:Heap}{a C dx:Addr}{fs:List (Str×V)}(x:bK P w H h a (.ins C dx fs)):∃od,PySem.W.InstAt h a (PySem.W.instObj C dx) C (some od):=by obtain⟨d,z,ne,ob,mA,n,r,q⟩:=x;obtain⟨od,hI,_⟩:=j6.look ⟨ob,n,ne⟩;exact⟨od,hI⟩
theorem q9{pins:yab}{σ:St}{H:Hp}{s:Shared}{P:yak}{A:Around}{E:yaa}{Q:yaa}{c:Value}{b:Bool}{d:D}{v:V}{u:Value}(I:Inv X pins σ H s)(h:Den X.K P H d v)(r:RelV v u)
  (e:PySem.W.kitOne X.K (Qk d) c=some b) (q:∀tk,Q (.bool b) {s with toks:=tk}):wpAny (model X.prog X.w) A (call (.builtin "isinstance") [u,c]) Q E s:=by
 cases d with
 |HZ=>have z:=h.Pw;subst z;cases r;exact PySem.W.kia_one PySem.W.kitx_none I.Ll True.intro e (fun z=>nomatch z) q
 |bl y=>have z:=h.OQ;subst z;cases r;exact PySem.W.kia_one PySem.W.kitx_bool I.Ll True.intro e (fun z=>nomatch z) q
 |int i=>have z:=h.Kb;subst z;obtain⟨t,rfl⟩:=r;exact PySem.W.kia_one PySem.W.kitx_int I.Ll True.intro e (fun z=>nomatch z) q
 |str y=>have z:=h.L6;subst z;obtain⟨t,rfl⟩:=r;exact PySem.W.kia_one PySem.W.kitx_str I.Ll True.intro e (fun z=>nomatch z) q
 |tup ds =>
  obtain⟨a,vs,z,hq,_⟩:=h.ME;subst z;cases r;obtain⟨its,rv,⟨o,h1,h2,n,h3⟩,_⟩:=I.tuple hq.w;exact PySem.W.kia_one PySem.W.kitx_tuple I.Ll ⟨o,h1,h2⟩ e (fun z=>nomatch z) q
 |lst _ ds =>
  obtain⟨a,vs,z,_,hq,_⟩:=h.KY;subst z;cases r;obtain⟨its,rv,⟨o,n,h1,h2,_,h3⟩,_⟩:=I.list hq;exact PySem.W.kia_one PySem.W.kitx_list I.Ll ⟨o,h1,h2⟩ e (fun z=>nomatch z) q
 |exc c' =>
  obtain⟨a,z,hq,k⟩:=h.RL;subst z;cases r;exact PySem.W.kia_one (yD k) I.Ll (I.IZ a _ hq).1 e (fun z=>nomatch z) q
 |obj C ns ds =>
  obtain⟨a,dx,vs,z,hq,_,k,_⟩:=h.Ou;subst z;cases r;obtain⟨od,hI⟩:=Az (I.IZ a _ hq);exact PySem.W.kia_one (PySem.W.kitx_own k.pg k.hd k.at_ k.get k.takes k.obj) I.Ll hI e (fun z=>nomatch z) q
 |MQ =>
  obtain⟨a,z,hq⟩:=h.Tq;subst z;cases r;exact PySem.W.kia_one PySem.W.kitx_dict I.Ll (I.IZ a _ hq).1 e (fun z=>nomatch z) q
 |MD ks ds =>
  obtain⟨a,o,MK,vs,z,hq,_⟩:=h.Tr;subst z;cases r;obtain⟨_,_,_,_,_,q',_,_,Om,hx,_⟩:=I.IZ a _ hq;exact PySem.W.kia_one PySem.W.kitx_dict I.Ll ⟨q',Om,hx.1⟩ e (fun z=>nomatch z) q
theorem sO(K:yac)(S T:String):PySem.W.kitOne K (.type S) (.type T)=if S=T then some true else if PySem.W.kitMeta T=true then(fastBuiltinMro S).map (·.contains (.type T))else none:=by
 unfold PySem.W.kitOne PySem.W.kitCls PySem.W.subIn;by_cases h:S=T
 ·subst h;simp
 ·have:(Value.type S==Value.type T)=false:=by
   rw[Rr];intro e;injection e with e;exact h e
  rw[this,GS NQ,GS h]
def Oz (T:String) (d:D):Bool:=Oy d==T || (Oy d == "bool" && T == "int")
theorem kit_ans (K:yac) (d:D) (hk:∀c,d=.exc c->bG K c) (ho:∀C ns ds,d=.obj C ns ds->eK K C) (hT:T = "int" ∨ T = "bool" ∨ T = "tuple" ∨ T = "list" ∨ T = "str"):PySem.W.kitOne K (Qk d) (.type T)=some (Oz T d):=by
 by_cases hx:∃c,d=.exc c
 ·obtain⟨c,rfl⟩:=hx;show PySem.W.kitOne K (.ref c) (.type T)=_;rw[(hk c rfl).not T hT];show _=some ("object" == T || ("object" == "bool" && T == "int"));rcases hT with e|e|e|e|e<;>subst e<;>decide +kernel
 by_cases hy:∃C ns ds,d=.obj C ns ds
 ·obtain⟨C,ns,ds,rfl⟩:=hy;show PySem.W.kitOne K (.ref C) (.type T)=_;rw[(ho C ns ds rfl).not T hT];show _=some ("object" == T || ("object" == "bool" && T == "int"));rcases hT with e|e|e|e|e<;>subst e<;>decide +kernel
 have hv:Qk d=.type (Oy d):=by cases d<;>first|rfl|exact absurd ⟨_,rfl⟩ hx|exact absurd ⟨_,_,_,rfl⟩ hy
 rw[hv,sO];unfold Oz;have hS:Oy d = "NoneType" ∨ Oy d = "bool" ∨ Oy d = "int" ∨ Oy d = "str" ∨ Oy d = "tuple" ∨ Oy d = "list" ∨ Oy d = "dict" := by cases d<;>first|exact absurd ⟨_,rfl⟩ hx|exact absurd ⟨_,_,_,rfl⟩ hy|simp[Oy]
 generalize Oy d=S at hS ⊢;rcases hT with e|e|e|e|e<;>subst e<;>rcases hS with e|e|e|e|e|e|e<;>subst e<;>decide +kernel
def Wc(T:String)(te:DE):DE:=fun ρ Q=>te ρ fun d=>Q (.bl (Oz T d))
theorem eF (hg:Gl X "isinstance") (hm:X.mg "isinstance" = none) (hgT:Gl X x) (hmT:X.mg x=none) (hv:bootBuiltins x=some (.type T)) (hT:T = "int" ∨ T = "bool" ∨ T = "tuple" ∨ T = "list" ∨ T = "str") (he:Hs X e te)
  (hn:x ≠ "__name__" := by decide) (Kl:(x==("__debug__" : Str))=false:=by decide)
  (KN:starEach [e,.Name x p'] X.env=(false,eval e X.env)::starEach [.Name x p'] X.env:=by rfl) (RN:starEach [.Name x p'] X.env=(false,eval (.Name x p') X.env)::starEach [] X.env:=by rfl) (RO:(backTo pos (starEach [.Name x p'] X.env)).any (·.1)=false:=by rfl) :
  Hs X (.Call (.Name "isinstance" p) [e,.Name x p'] [] pos) (Wc T te):=by
 intro pins s σ H W ρ Q I rr h;have Tv:PA X [e,.Name x p'] (fT (mS X te) (fT (tC (.ty T)) kY)):=aZ he.pe (aZ (uq hgT hmT hv rfl hn Kl) bA RN) KN;refine Qv (fZ I hg hm boot_isinstance ?_ (by decide) (by decide));refine PyProof.Rows.callWith_builtin1 (GU (Tv pos pins s σ H (fun vs H1=>∃v d,vs=[v,.ty T]/\ag H H1/\Den X.K W.bad H1 d v/\Q (.bl (Oz T d))) I ⟨W,ρ,_,rr,h,fun v H1 d e1 hd q1=>⟨v,d,rfl,e1,hd,q1⟩⟩) fun us s1 ⟨vs,H1,I1,rv,v,d,ev,e1,hd,q1⟩=>?_) KN RO;subst ev;cases rv with
 |cons r1 rr =>
  cases rr with
  |cons r2 rr =>
   cases rr;cases(show _=Value.type T from r2);exact q9 I1 hd r1 (kit_ans X.K d (fun c z=>by subst z;exact hd.RL.choose_spec.2.2) (fun C ns ds z=>by subst z;obtain⟨_,_,_,_,_,_,k,_⟩:=hd.Ou;exact k) hT) fun tk=>⟨.bl _,H1,_,I1.tok tk,rfl,e1,Den.bl _,q1⟩
end
section
variable{X:Cx}{pos:Pos}
theorem Py.up{pins:yab}{W0 W:Own}{H0 H:Hp}{E:c9}{f:Flow}{s':Shared}(g:JA W0 H0 W H)(h:Py X pins W H E f s'):Py X pins W0 H0 E f s':=by obtain⟨W',σ',H',I,fw,q⟩:=h;exact⟨W',σ',H',I,g.trans fw,q⟩
variable{st:Stmt}{rest:yal}{t u:DS}{e:Expr}{te:DE}
def qr:DS:=fun E ρ=>E.nx ρ
def eg(t u:DS):DS:=fun E ρ=>t {E with nx:=u E} ρ
theorem aL:cz X [] qr:=fun _ _ σ H W ρ E I r h=>Qb ⟨W,σ,H,I,JA.refl W H,ρ,r,h⟩
theorem ak(h1:Nd X st t)(h2:cz X rest u):cz X (st::rest) (eg t u):=by
 intro pins s σ H W ρ E I r h;refine Rw (GU (h1 pins s σ H W ρ {E with nx:=u E} I r h) fun f s1 ⟨W',σ',H',I',fw,q⟩=>?_);cases f with
 |next =>
  obtain⟨HG,r',q⟩:=q;exact GU (h2 pins s1 σ' H' W' HG E I' r' q) fun _ _ z=>z.up fw
 |ret v=>exact⟨W',σ',H',I',fw,q⟩
 |brk=>exact⟨W',σ',H',I',fw,q⟩
 |cont=>exact⟨W',σ',H',I',fw,q⟩
theorem ao(h1:Nd X st t):cz X [st] t:=by
 intro pins s σ H W ρ E I r h;refine Rw (GU (h1 pins s σ H W ρ E I r h) fun f s1 q=>?_);cases f with
 |next=>exact Qb q
 |ret v=>exact q
 |brk=>exact q
 |cont=>exact q
def uQ(te:DE):DS:=fun E ρ=>te ρ E.rt
theorem aA(he:Hs X e te):Nd X (.Return (some e) pos) (uQ te):=by intro pins s σ H W ρ E I r h;exact wpAny_Return_some (GU (he pins s σ H W ρ _ I r h) fun u s1 ⟨v,H1,d,I1,r1,e1,hd,q1⟩=>⟨W,σ,H1,I1,JA.same e1,v,d,r1,hd,q1⟩)
def zA(te:DE):DS:=fun E ρ=>te ρ fun _=>E.nx ρ
theorem nZ(he:Hs X e te)(hs:swapsWith e none pos.line X.env=pure false:=by rfl):Nd X (.Expr e pos) (zA te):=by intro pins s σ H W ρ E I r h;exact wpAny_Expr_any (GU (he pins s σ H W ρ _ I r h) fun u s1 ⟨v,H1,d,I1,r1,e1,hd,q1⟩=>⟨W,σ,H1,I1,JA.same e1,ρ,r.same e1,q1⟩) I.quiet hs
def uP(c:DT)(t u:DS):DS:=fun E ρ=>c ρ fun b=>if b=true then t E ρ else u E ρ
theorem aV{c:Expr}{a b:yal}{tc:DT}(hc:N8 X c tc)(ha:cz X a t)(hb:cz X b u):Nd X (.If c a b pos) (uP tc t u):=by
 intro pins s σ H W ρ E I r h;refine wpAny_If (GU (hc pins s σ H W ρ _ I r h) fun d s1 ⟨H1,I1,e1,q1⟩=>?_);cases d with
 |true=>exact GU (ha pins s1 σ H1 W ρ E I1 (r.same e1) q1) fun _ _ z=>z.up (JA.same e1)
 |false=>exact GU (hb pins s1 σ H1 W ρ E I1 (r.same e1) q1) fun _ _ z=>z.up (JA.same e1)
theorem Rel.put{X:Cx}{W:Own}{H:Hp}{σ:St}{ρ:Ro}{i:Nat}{d:D}{v:V}(r:Rel X W H σ ρ)(hi:i<σ.length)(hd:Den X.K W.bad H d v):Rel X (W.drop i) H (σ.set i (some v)) (ρ.set i (some (.val d))) where
 val:=fun j x h=>by
  by_cases hj:j=i
  ·subst hj;refine⟨v,by simp[hi],?_⟩;by_cases hl:j<ρ.length
   ·rw[Q3 hl]at h;cases h;exact hd.HF fun _ _=>Own.JQ
   ·rw[Sr (by simpa using hl)]at h;cases h
  ·rw[NP (Ne.symm hj)]at h;obtain⟨w,h1,h2⟩:=r.val j x h;exact⟨w,by rw[NP (Ne.symm hj)];exact h1,h2.HF fun _ _=>Own.JQ⟩
 own:=fun j x h=>by
  by_cases hj:j=i
  ·subst hj;by_cases hl:j<ρ.length
   ·rw[Q3 hl]at h;cases h
   ·rw[Sr (by simpa using hl)]at h;cases h
  ·rw[NP (Ne.symm hj)]at h;obtain⟨a,vs,h1,h2,h3,h4⟩:=r.own j x h;exact⟨a,vs,by show(if j=i then none else W.O j)=_;rw[GS hj];exact h1,by rw[NP (Ne.symm hj)];exact h2,h3,by rw[S7];exact h4.HF (fun _ _=>Own.JQ) (Own.MS hi)⟩
 inj:=fun j k a h1 h2=>by
  have Lq:(if j=i then none else W.O j)=some a:=h1;have N9:(if k=i then none else W.O k)=some a:=h2;by_cases e1:j=i
  ·rw[G4 e1]at Lq;cases Lq
  ·by_cases e2:k=i
   ·rw[G4 e2]at N9;cases N9
   ·rw[GS e1]at Lq;rw[GS e2]at N9;exact r.inj j k a Lq N9
 kn:=fun j a h1=>by
  have Lq:(if j=i then none else W.O j)=some a:=h1;by_cases e1:j=i
  ·rw[G4 e1]at Lq;cases Lq
  ·rw[GS e1]at Lq;exact r.kn j a Lq
 ke:=fun j a h1=>by
  have Lq:(if j=i then none else W.O j)=some a:=h1;by_cases e1:j=i
  ·rw[G4 e1]at Lq;cases Lq
  ·rw[GS e1]at Lq;exact r.ke j a Lq
 bt:=r.bt
 st:=r.st
 ent:=r.ent
 tab:=r.tab
theorem JA.drop(W:Own)(H:Hp)(i:Nat):JA W H (W.drop i) H:=⟨rfl,rfl,fun _ _ _ h _=>h,fun j a h=>by
 have h':(if j=i then none else W.O j)=some a:=h;by_cases e1:j=i
 ·rw[G4 e1]at h';cases h'
 ·rw[GS e1]at h';exact .inl ⟨j,h'⟩,fun _ ps h=>⟨#[],by rw[h];simp⟩,id⟩
theorem Inv.QJ{pins:yab}{σ:St}{H:Hp}{s:Shared}{i:Nat}{x:Str}(I:Inv X pins σ H s)(hi:X.N[i]?=some x):i<σ.length:=by rw[I.len];exact(OX.mp hi).1
def uS(i:Nat)(te:DE):DS:=fun E ρ=>te ρ fun d=>E.nx (ρ.set i (some (.val d)))
theorem aO{x:Str}{pos':Pos}(i:Nat)(hN:X.N.Nodup)(he:Hs X e te)(hi:X.N[i]?=some x:=by rfl)(hx:Loc X.env.scope x:=by first|exact Or.inl rfl|exact Or.inr rfl)(hs:swapsWith e (some (.Name x pos')) pos.line X.env=pure false:=by rfl)
  (hf:X.fn x=true∨X.env.scope.names.lookup x=some .local:=by first|exact .inl rfl|exact .inr rfl|assumption):Nd X (.Assign [.Name x pos'] e pos) (uS i te):=by
 intro pins s σ H W ρ E I r h;refine S5 (GU (he pins s σ H W ρ _ I r h) fun u s1 ⟨v,H1,d,I1,r1,e1,hd,q1⟩=>?_) hs;exact c7 I1 hN hi hx r1 (fun s2 I2=>⟨W.drop i,_,H1,I2,(JA.same e1).trans (JA.drop W H1 i),_,(r.same e1).put (Inv.QJ I1 hi) hd,q1⟩) hf
theorem Nd.of{ts:TS}{t:DS}(h:PS X st ts)(k:∀σ H W ρ E,Rel X W H σ ρ->σ.length=X.N.length->t E ρ->ts ⟨(fun σ' H'=>∃W' HG,JA W H W' H'/\Rel X W' H' σ' HG/\E.nx HG),(fun v H'=>∃W' d,JA W H W' H'/\Den X.K W'.bad H' d v/\E.rt d),
   (fun σ' H'=>∃W' HG,JA W H W' H'/\Rel X W' H' σ' HG/\E.bk HG),(fun σ' H'=>∃W' HG,JA W H W' H'/\Rel X W' H' σ' HG/\E.ct HG)⟩ σ H):Nd X st t:=by
 intro pins s σ H W ρ E I r ht;refine GU (h pins s σ H _ I (k σ H W ρ E r I.len ht)) fun f s1 q=>?_
 cases f with
 |next=>obtain⟨σ',H',I',W',HG,fw,r',q⟩:=q;exact⟨W',σ',H',I',fw,HG,r',q⟩
 |brk=>obtain⟨σ',H',I',W',HG,fw,r',q⟩:=q;exact⟨W',σ',H',I',fw,HG,r',q⟩
 |cont=>obtain⟨σ',H',I',W',HG,fw,r',q⟩:=q;exact⟨W',σ',H',I',fw,HG,r',q⟩
 |ret u=>obtain⟨v,σ',H',I',rv,W',d,fw,hd,q⟩:=q;exact⟨W',σ',H',I',fw,v,d,rv,hd,q⟩
theorem CI{X:Cx}{W W':Own}{H H':Hp}{σ:St}{ρ:Ro}(r:Rel X W H σ ρ)(f:JA W H W' H')(a:Addr)(o:HO)(n:QH o)(q:H a=some o):H' a=some o :=
 f.kp a _ (fun i z=>by obtain⟨_,_,o',q',m⟩:=r.kn i a z;rw[q]at q';cases q';exact m.sol n) q n.nt
theorem CH{X:Cx}{W W':Own}{H H':Hp}{σ:St}{ρ:Ro}(r:Rel X W H σ ρ)(f:JA W H W' H')(a:Addr)(vs:yar)(q:JP X.K H a vs):JP X.K H' a vs:=by
 exact f.keep a _ (fun i e=>by obtain⟨_,_,o',q',m⟩:=r.kn i a e;have q2:H a=some (.tup vs):=q;rw[q']at q2;cases q2;exact m) q
theorem CG{X:Cx}{W W':Own}{H H':Hp}{σ':St}{HG:Ro}(r':Rel X W' H' σ' HG)(f:JA W H W' H')(t:Bool)(a:Addr)(vs:yar)(p:¬W.bad t a)(q:Lm X.K H t a vs):¬W'.bad t a/\Lm X.K H' t a vs:=by
 have no:∀i,W.O i≠some a:=fun i e=>p (.inr (.inl ⟨i,e⟩))
 refine⟨fun b=>?_,?_,fun z=>⟨f.keep a _ no (q.2 z).1,(q.2 z).2⟩⟩
 ·rcases b with b|⟨i,b⟩| ⟨e,b⟩
  ·rw[f.B]at b;exact p (.inl b)
  ·rcases f.new i a b with⟨j,z⟩| z
   ·exact no j z
   ·rcases q.1 with(q|⟨o,q⟩)|⟨o,its,n,q,_⟩
    ·rw[z]at q;cases q
    ·rw[z]at q;cases q
    ·rw[(r'.kn i a b).1]at q;cases q
  ·rw[f.S]at b;exact p (.inr (.inr ⟨e,b⟩))
 ·rcases q.1 with(q|⟨o,q⟩)|q
  ·exact .inl (.inl (f.keep a _ no q))
  ·exact .inl (.inr ⟨o,f.keep a _ no q⟩)
  ·exact .inr q
theorem Den.fwd{X:Cx}{W W':Own}{H H':Hp}{σ σ':St}{ρ HG:Ro}{d:D}{v:V}(r:Rel X W H σ ρ)(r':Rel X W' H' σ' HG)(f:JA W H W' H')(h:Den X.K W.bad H d v):Den X.K W'.bad H' d v :=
 Den.map (CH r f) (CG r' f) (CI r f) d v h
abbrev DG:=D->Ro->(Ro->Prop)->Prop
inductive GP (X:Cx) (pins:yab) (W:Own) (H:Hp) (Q:Ro->Prop) (s':Shared):Prop
 |mk (W':Own) (σ':St) (H':Hp) (HG:Ro) (_:Inv X pins σ' H' s') (_:JA W H W' H') (_:Rel X W' H' σ' HG) (_:Q HG)
abbrev GDP{α:Type}(X:Cx)(pins:yab)(W:Own)(H:Hp)(Q:Ro->Prop)(_:α)(s':Shared):Prop:=GP X pins W H Q s'
def Ql(X:Cx)(target:Expr)(g:DG):Prop :=
 ∀ (pins:yab) (s:Shared) (σ:St) (H:Hp) (W:Own) (ρ:Ro) (d:D) (v:V) (u:Value) (Q:Ro->Prop),Inv X pins σ H s->Rel X W H σ ρ->RelV v u->Den X.K W.bad H d v->g d ρ Q →
  wpAny (model X.prog X.w) X.A (assign target X.env u) (GDP X pins W H Q) X.xe s
abbrev Pz:=yas->Ro->(Ro->Prop)->Prop
def nK(X:Cx)(ts:yai)(t:Pz):Prop :=
 ∀ (pins:yab) (s:Shared) (σ:St) (H:Hp) (W:Own) (ρ:Ro) (ds:yas) (vs:yar) (us:yad) (Q:Ro->Prop),Inv X pins σ H s->Rel X W H σ ρ->Vals vs us->af X.K W.bad H ds vs->t ds ρ Q →
  wpAny (model X.prog X.w) X.A (assignInOrder ((assignEach ts X.env).map (·.2)) us) (GDP X pins W H Q) X.xe s
theorem af.fwd{X:Cx}{W W':Own}{H H':Hp}{σ σ':St}{ρ HG:Ro}(r:Rel X W H σ ρ)(r':Rel X W' H' σ' HG)(f:JA W H W' H'):∀{ds:yas} {vs:yar},af X.K W.bad H ds vs->af X.K W'.bad H' ds vs
 |[],_,h=>by simpa only[af]using h
 |d::ds,_,h=>by simp only[af]at h ⊢;obtain⟨v,q,e,h1,h2⟩:=h;exact⟨v,q,e,Den.fwd r r' f h1,af.fwd r r' f h2⟩
def kr(i:Nat):DG:=fun d ρ Q=>Q (ρ.set i (some (.val d)))
theorem df{x:Str}(i:Nat)(hN:X.N.Nodup)(hi:X.N[i]?=some x:=by rfl)(hx:Loc X.env.scope x:=by first|exact Or.inl rfl|exact Or.inr rfl)
  (hf:X.fn x=true∨X.env.scope.names.lookup x=some .local:=by first|exact .inl rfl|exact .inr rfl|assumption):Ql X (.Name x pos) (kr i):=by
 intro pins s σ H W ρ d v u Q I r rv hd h;exact wpAny_assign_Name (c7 I hN hi hx rv (fun s' I'=>⟨W.drop i,_,H,_,I',JA.drop W H i,r.put (Inv.QJ I hi) hd,h⟩) hf)
def gp:Pz:=fun ds ρ Q=>ds=[]/\Q ρ
def bp(g:DG)(u:Pz):Pz:=fun ds ρ Q=>∃d r,ds=d::r/\g d ρ fun HG=>u r HG Q
theorem tZ:nK X [] gp:=by intro pins s σ H W ρ ds vs us Q I r rv hd h;obtain⟨e,h⟩:=h;subst e;simp only[af]at hd;subst hd;cases rv;exact assignInOrder_nil ⟨W,σ,H,ρ,I,JA.refl W H,r,h⟩
theorem eh{e:Expr}{es:yai}{g:DG}{u:Pz}(h1:Ql X e g)(h2:nK X es u)(hs:(assignEach (e::es) X.env).map (·.2)=assign e X.env::(assignEach es X.env).map (·.2):=by rfl):nK X (e::es) (bp g u):=by
 intro pins s σ H W ρ ds vs us Q I r rv hd h;obtain⟨d,dr,e1,h⟩:=h;subst e1;simp only[af]at hd;obtain⟨v,vr,e2,ND,hd2⟩:=hd;subst e2;cases rv with
 |cons ra rb =>
  rw[hs];refine assignInOrder_cons (GU (h1 pins s σ H W ρ d v _ _ I r ra ND h) fun _ s1 ⟨W1,σ1,H1,LY,I1,f1,r1,q1⟩=>?_);exact GU (h2 pins s1 σ1 H1 W1 LY dr vr _ Q I1 r1 rb (af.fwd r r1 f1 hd2) q1) fun _ s2 ⟨W2,OP,H2,KR,I2,f2,r2,q2⟩=>⟨W2,OP,H2,KR,I2,f1.trans f2,r2,q2⟩
theorem qZ{h h':Heap}{it l:Addr}{items:yao}(hl:h.IsList l items)(hs:Heap.SameBut it h h')(MC:l≠it):h'.IsList l items:=by obtain⟨o,ho,r⟩:=hl;exact⟨o,(hs.2 l MC).trans ho,r⟩
theorem pL{prog:Program}{w:World}{A:Around}{E:yaa}{it l:Addr}{items:yao}(MC:l≠it):∀(n i:Nat) (s:Shared) (Q:yad->Shared->Prop),s.heap.IsListIter it l i->s.heap.IsList l items->i+n<=items.size →
  (∀h',h'.IsListIter it l (i+n)->Heap.SameBut it s.heap h'->Q ((items.toList.drop i).take n) {s with heap:=h'})->wpAny (model prog w) A (draw (.ref it) n) Q E s
 |0,i,s,Q,hit,_,_,hQ=>by show wpAny _ _ (pure []) Q E s;exact JR (by simpa using hQ s.heap hit (Heap.SameBut.refl ..))
 |n+1,i,s,Q,hit,hl,hle,hQ=>by
  have Mx:i<items.size:=by omega
  show wpAny _ _ (pyNext (.ref it) >>= _) Q E s;refine G0 (wpAny_pyNext_list_item hit hl (x:=items[i]) (by simp[Mx]) fun Lp OA NY=>?_);refine G0 (NR (pL MC n (i+1) _ _ OA (qZ hl NY MC) (by omega) fun Ot RP Tw=>JR ?_));have hd:items.toList.drop i=items[i]::items.toList.drop (i+1):=by simp[UU,Mx]
  have:=hQ Ot (by rw[show i+(n+1)=i+1+n by omega];exact RP) (NY.trans Tw);rw[hd,List.take_succ_cons]at this;exact this
theorem mv{prog:Program}{w:World}{A:Around}{E:yaa}{s:Shared}{l:Addr}{items:yao}{Q:yad->Shared->Prop}(hh:A.handled=none)(hl:s.heap.IsList l items)
  (hQ:∀h',Heap.ExtBut s.heap.objs.size s.heap h'->Q items.toList {s with heap:=h'}):wpAny (model prog w) A (unpackItems (.ref l) items.size none) Q E s:=by
 have Mx:l≠s.heap.objs.size:=by obtain⟨o,ho,_⟩:=hl;exact Nk (J9 ho)
 unfold unpackItems;refine G0 ?_
 ·unfold notIterableAtAll;refine G0 (wpAny_specialOf hl.typeIs F.slot_list_iter.lookup ?_);refine JR ?_;simp only[UY,if_false];refine G0 (NR (wpAny_pyIter_list hl ?_));have hl0:(s.heap.push {cls:=.type "list_iterator", data:=.fields #[.ref l,rawInt 0]}).IsList l items:=by
   obtain⟨o,ho,r⟩:=hl;exact⟨o,KU _ ho,r⟩
  refine G0 (NR (pL Mx items.size 0 _ _ ⟨_,Mv _ rfl,rfl,rfl⟩ hl0 (by omega) fun Lp OA NY=>?_));have MP:List.take items.size (List.drop 0 items.toList)=items.toList:=by rw[List.drop_zero];exact P9 (by simp)
  rw[MP];rw[GS (by simp)];have Tx:Lp.IsList l items:=qZ hl0 NY Mx;refine G0 (NR (wpAny_pyNext_list_end hh OA Tx (by simp) fun Ot Tz=>?_));simp only[Option.isSome_none,UY,if_false];refine JR (hQ Ot fun b o hb e=>Tz b o hb (NY.extBut b o hb (KU _ e)))
def eN(n:Nat)(t:Pz):DG:=fun d ρ Q=>∃ds,(d=.tup ds∨∃ t,d=.lst t ds)/\ds.length=n/\t ds ρ Q
theorem qW{es:yai}{k:Nat}{t:Pz}{n:Nat}(hc:X.calm=true)(h:nK X es t)(hn:(assignEach es X.env).length=n:=by rfl)(KN:(assignEach es X.env).findIdx? (·.1)=none:=by rfl):Ql X (.Tuple es k pos) (eN n t):=by
 intro pins s σ H W ρ d v u Q I r rv hd hw;obtain⟨ds,ed,hl,hw⟩:=hw;rcases ed with ed|⟨tg,ed⟩
 ·subst ed;obtain⟨a,vs,e1,hq,JS⟩:=hd.ME;subst e1;cases rv;obtain⟨its,TB,ht,hz⟩:=I.tuple hq.w;refine assign_Tuple_tuple (I.ok.hd hc) ht (by simp[hn,<- hl,<- TB.length,JS.len]) KN fun h' hx=>?_
  have I1:Inv X pins σ H {s with heap:=h'}:=I.kept (t':=s.toks) fun b o e=>hx b o (Nk (J9 e)) e
  exact h pins _ σ H W ρ ds vs _ Q I1 r (by simpa using TB) JS hw
 ·subst ed;obtain⟨a,vs,e1,_,hq,JS⟩:=hd.KY;subst e1;cases rv;obtain⟨its,TB,ht,hz⟩:=I.list hq;rw[assign_Tuple];refine G0 (Ry ?_);unfold unpack;rw[KN,show(assignEach es X.env).length=its.toArray.size by simp[hn,<- hl,<- TB.length,JS.len]];refine G0 (NR (mv (I.ok.hd hc) ht.isList fun h' hx=>?_));have I1:Inv X pins σ H {s with heap:=h'}:=I.kept (t':=s.toks) fun b o e=>hx b o (Nk (J9 e)) e
  exact h pins _ σ H W ρ ds vs _ Q I1 r (by simpa using TB) JS hw
def BR(te:DE)(g:DG):DS:=fun E ρ=>te ρ fun d=>g d ρ E.nx
theorem Cr{tg e:Expr}{te:DE}{g:DG}(he:Hs X e te)(hg:Ql X tg g)(hs:swapsWithSole [tg] e pos.line X.env=pure false:=by rfl)(hw:swappedStores [tg] e X.env=pure none:=by rfl)
  (h1:(assignEach [tg] X.env).map (·.2)=[assign tg X.env]:=by rfl):Nd X (.Assign [tg] e pos) (BR te g):=by
 intro pins s σ H W ρ E I r h;refine wpAny_Assign_stores (GU (he pins s σ H W ρ _ I r h) fun u s1 ⟨v,H1,d,I1,r1,e1,hd,q1⟩=>?_) hs hw;rw[h1];exact GU (hg pins s1 σ H1 W ρ d v u _ I1 (r.same e1) r1 hd q1) fun _ s2 ⟨W2,OP,H2,KR,I2,f2,r2,q2⟩=>⟨W2,OP,H2,I2,(JA.same e1).trans f2,KR,r2,q2⟩
def YD(K:yac)(W:Own)(H:Hp)(J:It)(ds:yas):Prop:=∀(P':yak) (H':Hp),(∀a vs,JP K H a vs->JP K H' a vs)->(∀t a vs,¬W.bad t a->Lm K H t a vs->¬P' t a/\Lm K H' t a vs)->(∀a o,QH o->H a=some o->H' a=some o)->∀i,(i<ds.length->J.go i H')/\(∀x H3,J.Va i H' x H3->i<ds.length->ag H' H3/\∃d,ds[i]?=some d/\Den K P' H3 d x)/\(ds.length<=i->J.stop i H')
inductive IDP (X:Cx) (pins:yab) (σ:St) (W:Own) (H:Hp) (tg:Expr) (R:yas->Prop) (Pt:Value) (s2:Shared):Prop
 |mk (it:Addr) (fp:yae) (tn:Nat->Heap->Prop) (J:It) (H':Hp) (ds:yas) (_:Pt=.ref it) (_:Inv X pins σ H' s2) (_:ag H H') (_:Turn X.prog X.w X.K tg J fp it tn) (_:tn 0 s2.heap) (_:∀b∈fp,cP X pins H' b) (_:YD X.K W H' J ds) (_:R ds)
def Oa(X:Cx)(tg iter:Expr)(wi:DA):Prop :=
 ∀ (pins:yab) (s:Shared) (σ:St) (H:Hp) (W:Own) (ρ:Ro) (R:yas->Prop),Inv X pins σ H s->Rel X W H σ ρ->wi ρ R →
  wpAny (model X.prog X.w) X.A (eval iter X.env) (fun v s1=>wpAny (model X.prog X.w) X.A (pyIter v) (IDP X pins σ W H tg R) X.xe s1) X.xe s
theorem Oa.of{tg iter:Expr}{wi:TI}{wd:DA}(h:PI X tg iter wi)(k:∀σ H W ρ R,Rel X W H σ ρ->wd ρ R->wi σ H fun J H'=>ag H H'/\∃ds,YD X.K W H' J ds/\R ds):Oa X tg iter wd:=by
 intro pins s σ H W ρ R I r hw;refine GU (h pins s σ H _ I (k σ H W ρ R r hw)) fun v s1 h1=>GU h1 fun Pt s2 h2=>?_
 obtain⟨it,fp,tn,J,H',e,I2,T,st,f2,e2,ds,y,q⟩:=h2;exact⟨it,fp,tn,J,H',ds,e,I2,e2,T,st,f2,y,q⟩
def yF:D->(yas->Prop)->Prop
 |.lst _ ds,R=>R ds
 |_,_=>False
theorem AI{x:D}{R:yas->Prop}(h:yF x R):∃t ds,x=.lst t ds/\R ds:=by
 cases x<;>first|exact False.elim h|exact⟨_,_,rfl,h⟩
theorem Dj(t:Bool)(ds:yas)(R:yas->Prop):yF (.lst t ds) R=R ds:=rfl
def zB(ti:DE):DA:=fun ρ R=>ti ρ fun d=>yF d R
theorem gN{tg iter:Expr}{ti:DE}(h:Hs X iter ti):Oa X tg iter (zB ti):=by
 refine Oa.of (ur h.pe) fun σ H W ρ R r hw=>⟨W,ρ,_,r,hw,fun v H1 d e1 hd q=>?_⟩
 obtain⟨tg',ds,rfl,q⟩:=AI q;obtain⟨a,vs,rfl,na,hq,JS⟩:=hd.MR;refine⟨a,rfl,⟨vs,hq.1⟩,e1,ds,?_,q⟩;intro P' H' hT hL hX i;have Om:SqL X.K H' a vs:=(hL _ a vs na hq).2.1;have hl:=JS.len;refine⟨fun hi=>?_,fun x H3 y hi=>?_,fun hi=>⟨vs,Om,by omega⟩⟩
 ·obtain⟨v,hv,_⟩:=JS.get (i:=i) (d:=ds[i]) (by simp[hi]);exact⟨vs,v,Om,hv⟩
 ·obtain⟨e3,y⟩:=y;subst e3;obtain⟨d,h1,h2⟩:=JS.bh (y vs Om);exact⟨ag.refl _,d,h1,Den.map hT hL hX d _ h2⟩
def iP(lo step:Int)(n:Nat):yas:=(List.range n).map fun(i:Nat)=>D.int (lo+i*step)
theorem mf(lo step:Int)(n:Nat):(iP lo step n).length=n:=by simp[iP]
theorem rQ{lo step:Int}{n i:Nat}(h:i<n):(iP lo step n)[i]?=some (D.int (lo+i*step)):=by simp[iP,h]
def By(lo c:Int)(n:Nat):It:=⟨fun i _=>i<n,fun i H x H'=>H'=H/\x=.int (lo+i*c),fun i _=>n<=i⟩
theorem zo(K:yac)(W:Own)(H:Hp)(lo c:Int)(n:Nat):YD K W H (By lo c n) (iP lo c n):=fun P' H' _ _ _ i=>by rw[mf];refine⟨fun h=>h,fun x H3 y hi=>?_,fun h=>h⟩;obtain⟨e,ex⟩:=y;subst e ex;exact⟨ag.refl _,_,rQ hi,Den.int _⟩
theorem tE{P:Program}{w:World}{K:yac}{tg:Expr}(it:Addr)(lo c:Int)(n:Nat):Turn P w K tg (By lo c n) [it] it (fun i h=>IsRangeIter h it (lo+(i:Nat)*c) ((n:Int) - (i:Nat)) c) where
 mem:=by simp
 obj:=fun i h st b hb=>by
  have e:b=it:=by simpa using hb
  subst e;exact⟨_,st,fun v z=>by have z':Data.fields _=Data.cell v:=z;cases z'⟩
 keep:=fun i h h' st k=>k it (by simp) _ st
 item:=by
  intro X hP hw hK hc i pins s σ H E I hf st hg;subst hP hw hK;obtain⟨f0,f1,f2,f3,f4,f5⟩:=hf it (by simp);have W:=Walks.range (prog:=X.prog) (w:=X.w) (I.ok.hd hc) it lo c n;refine W.item i s _ _ hg st fun v h' tk hv st' kk=>?_
  obtain⟨t,rfl⟩:=hv;have I1:Inv X pins σ H {s with heap:=h',toks:=tk}:=I.turned (fun b o hb e=>kk b o (by simpa using hb) e) f0 f1 f3 f4 f5;exact⟨_,rfl,uW (s:={s with heap:=h',toks:=tk}) (n := "range_iterator") st' rfl rfl (by decide) ⟨.int (lo+i*c),H,I1,⟨t,rfl⟩,⟨rfl,rfl⟩,st',fun b hb=>(hf b hb).1⟩⟩
 done:=by intro X hP hw hK hc i pins s σ H E I hf st hg;subst hP hw hK;obtain⟨f0,f1,f2,f3,f4,f5⟩:=hf it (by simp);exact wpAny_pyNext_range_end (I.ok.hd hc) st (by have:n<=i:=hg;omega) fun h' eb=>⟨rfl,I.turned (t':=s.toks) (fun b o hb e=>eb b o hb e) f0 f1 f3 f4 f5⟩
 self:=fun _ _ _ _ _ st h=>wpAny_pyIter_rangeiter st h
def ic(lo hi c:Int):Nat:=(Builtin.Range.rangeSize lo hi c).toNat
theorem xF{a b c:Int}(ha:-(2 ^ 40)<=a)(Pg:a<2 ^ 40)(hb:-(2 ^ 40)<=b)(hb':b<2 ^ 40)(hc:0<c)(Nb:c<2 ^ 20):Builtin.Range.small a b c=true/\0<=Builtin.Range.rangeSize a b c:=by
 have hd:a<b->0<=(b - a - 1) / c/\(b - a - 1) / c<=b - a - 1:=fun h=>⟨Int.ediv_nonneg (by omega) (by omega),Int.ediv_le_self _ (by omega)⟩
 have hm:a<b->(b - a - 1) / c*c<=b - a - 1:=fun h=>Int.ediv_mul_le _ (by omega)
 unfold Builtin.Range.small Builtin.Range.rangeSize;rw[G4 (show c > 0 from hc)];by_cases h:a<b
 ·obtain⟨h1,h2⟩:=hd h;have h3:=hm h;rw[G4 h];generalize (b - a - 1) / c=q at h1 h2 h3 ⊢;have h4:0<=q*c:=Int.mul_nonneg h1 (by omega);simp only[Builtin.Range.rangeFitsLong,N6,Bool.or_eq_true,decide_eq_true_eq,beq_iff_eq];have e:(q+1 - 1)*c=q*c:=by rw[Int.add_sub_cancel]
  have e':(q+1)*c=q*c+c:=by rw[Int.add_mul,Int.one_mul]
  constructor
  ·rw[G4 (show c > 0 from hc)];simp only[N6,decide_eq_true_eq];omega
  ·omega
 ·rw[GS h];simp only[Builtin.Range.rangeFitsLong,N6,Bool.or_eq_true,decide_eq_true_eq,beq_iff_eq];constructor
  ·simp;omega
  ·exact Int.le_refl _
theorem xw{pins:yab}{σ:St}{H:Hp}{s:Shared}{W:Own}{R:yas->Prop}{E:yaa}{tg:Expr}{lo hi c:Int}{t u v:Tok}{tk:Nat}(I:Inv X pins σ H s)(h1:-(2 ^ 40)<=lo)(h2:lo<2 ^ 40)(h3:-(2 ^ 40)<=hi)(h4:hi<2 ^ 40)(h5:0<c)(h6:c<2 ^ 20)
  (q:R (iP lo c (ic lo hi c))):wpAny (model X.prog X.w) X.A (pyIter (.ref s.heap.objs.size)) (IDP X pins σ W H tg R) E {s with heap:=s.heap.push {cls:=.type "range", data:=.fields #[.int lo t,.int hi u,.int c v]},toks:=tk}:=by
 obtain⟨sm,nn⟩:=xF h1 h2 h3 h4 h5 h6;refine wpAny_pyIter_range (IsRange.new ..) sm ?_;have I1:Inv X pins σ H {s with heap:=s.heap.push {cls:=.type "range", data:=.fields #[.int lo t,.int hi u,.int c v]},toks:=tk}:=I.kept fun b o e=>KU _ e
 refine⟨(s.heap.push {cls:=.type "range", data:=.fields #[.int lo t,.int hi u,.int c v]}).objs.size,[(s.heap.push {cls:=.type "range", data:=.fields #[.int lo t,.int hi u,.int c v]}).objs.size],_,_,H,_,rfl,
  I1.kept (t':=tk) fun b o e=>KU _ e,ag.refl H,tE _ lo c (ic lo hi c),?_,fun b hb=>?_,zo _ _ _ _ _ _,q⟩
 ·have e1:lo+((0:Nat):Int)*c=lo:=by simp
  have e2:((ic lo hi c:Nat):Int) - ((0:Nat):Int)=Builtin.Range.rangeSize lo hi c:=by unfold ic;omega
  show IsRangeIter _ _ (lo+((0:Nat):Int)*c) (((ic lo hi c:Nat):Int) - ((0:Nat):Int)) c;rw[e1,e2];exact Mv _ rfl
 ·have e:b=(s.heap.push {cls:=.type "range", data:=.fields #[.int lo t,.int hi u,.int c v]}).objs.size:=by simpa using hb
  subst e;exact I1.QD (Ka _) (I1.IZ.fresh (Ka _))
def TC(i:Int):Prop:=-(2 ^ 40)<=i/\i<2 ^ 40
def EF(ta:DA):DA:=fun ρ R=>ta ρ fun ds=>∃i j c:Int,ds=[.int i,.int j,.int c]/\TC i/\TC j/\0<c/\c<2 ^ 20/\R (iP i c (ic i j c))
def EE(ta:DA):DA:=fun ρ R=>ta ρ fun ds=>∃i j:Int,ds=[.int i,.int j]/\TC i/\TC j/\R (iP i 1 (ic i j 1))
def uR(ta:DA):DA:=fun ρ R=>ta ρ fun ds=>∃j:Int,ds=[.int j]/\TC j/\R (iP 0 1 (ic 0 j 1))
theorem pN {tg a:Expr} {ta:DA} {p pos:Pos} (hg:Gl X "range") (hm:X.mg "range" = none) (ha:MF X [a] ta) (hs:starEach [a] X.env=(false,eval a X.env)::starEach [] X.env:=by rfl) (Q7:(backTo pos (starEach [] X.env)).any (·.1)=false:=by rfl) :
  Oa X tg (.Call (.Name "range" p) [a] [] pos) (uR ta):=by
 intro pins s σ H W ρ R I r h;refine Call_ (fZ I hg hm boot_range (PyProof.Rows.callWith_type1 (GU (ha pos pins s σ H W ρ _ I r h) fun us s1 ⟨vs,H1,ds,I1,r1,e1,hd,q1⟩=>?_) hs Q7));obtain⟨j,e,⟨b1,b2⟩,q⟩:=q1;subst e;obtain⟨v1,rfl,d1⟩:=dY hd;have z1:=d1.Kb;subst z1;cases r1 with
 |cons ra rr =>
  cases rr;obtain⟨t,rfl⟩:=ra;refine call_range_1 ?_;exact GU (xw (W:=W) (R:=R) I1 (by decide) (by decide) b1 b2 (by decide) (by decide) q) fun Pt s2 ⟨it,fp,tn,J,H',ds,x1,x2,x3,x4,x5,x6,x7,x8⟩=>⟨it,fp,tn,J,H',ds,x1,x2,e1.trans x3,x4,x5,x6,x7,x8⟩
def BX(wi:DA)(g:DG)(tb:DS):DS:=fun E ρ=>wi ρ fun ds=>∃Pv:Nat->Ro->Prop,Pv 0 ρ ∧
 (∀j x HG,ds[j]?=some x->Pv j HG->g x HG fun KR=>tb {E with nx:=Pv (j+1),ct:=Pv (j+1),bk:=E.nx} KR)/\∀HG,Pv ds.length HG->E.nx HG
theorem Cs{tg iter:Expr}{body:yal}{wi:DA}{g:DG}{tb:DS}(hp:PassesOwn (model X.prog X.w) X.A X.env X.xe)(hc:X.calm=true)(hi:Oa X tg iter wi)(hg:Ql X tg g)(hb:cz X body tb)
  (hs:∀x,foldedSetIterable iter X.env x=pure x:=by intro _;rfl):Nd X (.For tg iter body [] pos) (BX wi g tb):=by
 intro pins s σ H W ρ E I r h;refine wpAny_For (GU (hi pins s σ H W ρ _ I r h) fun v s1 h1=>GU h1 fun Pt s2 h2=>?_) hs;obtain⟨it,fp,tn,J,H2,ds,e,I2,e2,T,OZ,f2,yd,Pv,p0,turn,pd⟩:=h2;subst e;have r2:=r.same e2;have Oj:∀{H':Hp},(∀b∈fp,H' b=none)->∀b∈fp,cP X pins H' b:=fun hn b hb=>⟨hn b hb,(f2 b hb).2⟩
 refine codeAny_forLoop_any (fun n s'=>∃i W' σ' H' HG,n=ds.length - i/\i<=ds.length/\Inv X pins σ' H' s'/\tn i s'.heap/\(∀b∈fp,H' b=none)/\JA W H2 W' H'/\Rel X W' H' σ' HG/\Pv i HG) ?_ ds.length ⟨0,W,σ,H2,ρ,by simp,M9 _,I2,OZ,fun b hb=>(f2 b hb).1,JA.refl W H2,r2,p0⟩;rintro n s3 ⟨i,W3,O0,H3,PB,en,hle,I3,Pe,Q6,TF,r3,p3⟩;obtain⟨yg,yy,ys⟩:=yd W3.bad H3 (CH r2 TF) (CG r3 TF) (CI r2 TF) i;by_cases Mx:i<ds.length
 ·refine Qc hp (GU (T.item X rfl rfl rfl hc i pins s3 O0 H3 X.xe I3 (Oj Q6) Pe (yg Mx)) fun rr s4 ⟨u,hr,h4⟩=>?_);subst hr;refine Qc hp (GU h4 fun _ s5 ⟨x,H5,I5,r5,y5,Ol,Th⟩=>?_);obtain⟨e5,d,hd,MT⟩:=yy x H5 y5 Mx;have Ti:=I5.pinned (Oj Th) (T.obj _ _ Ol);have Q9:=r3.same e5;refine Qc hp (GU (hg _ s5 O0 H5 W3 PB d x u _ Ti Q9 r5 MT (turn i d PB hd p3)) fun _ s6 ⟨W6,RD,H6,TH,I6,f6,r6,q6⟩=>?_);refine Qc hp (GU (hb _ s6 RD H6 W6 TH _ I6 r6 q6) fun f s7 q7=>?_);obtain⟨W7,Nz,H7,I7,f7,q7⟩:=q7;have fw7:JA W H2 W7 H7:=TF.trans ((JA.same e5).trans (f6.trans f7));have TJ:JA W H W7 H7:=(JA.same e2).trans fw7;have again:∀{Ra:Ro},Rel X W7 H7 Nz Ra->Pv (i+1) Ra->∃m,m<n/\∃i W' σ' H' HG,m=ds.length - i/\i<=ds.length/\Inv X pins σ' H' s7/\tn i s7.heap/\(∀b∈fp,H' b=none)/\JA W H2 W' H'/\Rel X W' H' σ' HG/\Pv i HG:=fun {Ra} r7 p7=>by
   refine⟨ds.length - (i+1),by omega,i+1,W7,Nz,H7,Ra,rfl,Mx,I7.J0,T.keep _ _ _ Ol fun b hb o e=>(I7.pin (b,o) (Oe _ (Oe _ (di hb e)))).1,fun b hb=>?_,fw7,r7,p7⟩;obtain⟨o,e,d⟩:=T.obj _ _ Ol b hb;exact(I7.pin (b,o) (Oe _ (Oe _ (di hb e)))).2.1
  cases f with
  |next=>obtain⟨Ra,r7,n7⟩:=q7;exact again r7 n7
  |cont=>obtain⟨Ra,r7,n7⟩:=q7;exact again r7 n7
  |brk=>obtain⟨Ra,r7,q7⟩:=q7;exact⟨W7,Nz,H7,I7.J0,TJ,Ra,r7,q7⟩
  |ret v=>obtain⟨x7,d7,r7,h7,q7⟩:=q7;exact⟨W7,Nz,H7,I7.J0,TJ,x7,d7,r7,h7,q7⟩
 ·have e:i=ds.length:=by omega
  refine Qc hp (GU (T.done X rfl rfl rfl hc i pins s3 O0 H3 X.xe I3 (Oj Q6) Pe (ys (by omega))) fun rr s4 ⟨hr,I4⟩=>?_);subst hr;subst e;exact Qb ⟨W3,O0,H3,I4,(JA.same e2).trans TF,PB,r3,pd PB p3⟩
def FR(i j:Nat)(ta:DA):DS:=fun E ρ=>ta ρ fun ds=>∃d e,ds=[d,e]/\E.nx ((ρ.set i (some (.val d))).set j (some (.val e)))
end
def bY:yah->yas->Ro
 |_::N,d::ds=>some (.val d)::bY N ds
 |_::N,[]=>none::bY N []
 |[],ds=>ds.map fun d=>some (.val d)
theorem iH:∀(N:yah) (ds:yas),bY N ds=ds.map (fun d=>some (.val d))++List.replicate (N.length - ds.length) none
 |_::N,d::ds=>by rw[bY,iH N ds,Nj,MM,MM,Nat.add_sub_add_right];rfl
 |_::N,[]=>by rw[bY,iH N []];rfl
 |[],ds=>by rw[bY,List.length_nil,Nat.zero_sub];simp
theorem Rel.start{X:Cx}{P:Addr->Prop}{H:Hp}{N:yah}{ds:yas}{vs:yar}(hP:∀a,P a->∃o,H a=some o)(h:af X.K (fun t a=>t=true∨P a) H ds vs)(hH:X.H₀=H)(hT:cb X.K H):Rel X ⟨P,fun _=>none,fun a=>∃o,H a=some o⟩ H (start N vs) (bY N ds) where
 val:=fun i d e=>by
  rw[iH]at e;have hl:=h.len;by_cases hi:i<ds.length
  ·rw[Rp (by simpa using hi),Of]at e;cases q:ds[i]? with
   |none=>rw[q]at e;cases e
   |some d' =>
    rw[q]at e;have e':d'=d:=by simpa using e
    subst e';obtain⟨v,h1,h2⟩:=h.get q;refine⟨v,?_,h2.HF fun tg a z=>?_⟩
    ·unfold L2.start;rw[Rp (by simpa [hl]using hi),Of,h1];rfl
    ·rcases z with z|⟨j,z⟩| ⟨z,_⟩
     ·exact .inr z
     ·cases z
     ·exact .inl z
  ·rw[Rn (by simpa using hi),SO]at e;split at e<;>cases e
 own:=fun i d e=>by
  rw[iH]at e;by_cases hi:i<ds.length
  ·rw[Rp (by simpa using hi),Of]at e;cases q:ds[i]? with
   |none=>rw[q]at e;cases e
   |some d'=>rw[q]at e;cases e
  ·rw[Rn (by simpa using hi),SO]at e;split at e<;>cases e
 inj:=fun i j a h _=>by cases h
 kn:=fun i a h=>by cases h
 ke:=fun i a h=>by cases h
 bt:=hP
 st:=fun _ z=>z
 ent:=by rw[hH];exact ag.refl H
 tab:=hT
theorem bK.there{P:Program}{w:World}{H:Hp}{h:Heap}{a:Addr}{o:HO}(x:bK P w H h a o):∃u,h.get? a=some u:=by
 cases o with
 |lst xs=>obtain⟨_,_,_,_,e⟩:=x;exact⟨_,e⟩
 |tup xs=>obtain⟨_,_,_,ob,e,_⟩:=x;exact⟨ob,e⟩
 |dK kvs=>obtain⟨_,_,_,_,ob,_,_,e,_⟩:=x;exact⟨ob,e⟩
 |dT kvs=>obtain⟨_,_,_,_,ob,_,_,e,_⟩:=x;exact⟨ob,e⟩
 |set S n=>obtain⟨ob,_,_,_,e,_⟩:=x;exact⟨ob,e⟩
 |ins C dx fs=>obtain⟨_,_,_,e,_⟩:=x;exact⟨_,e⟩
 |own y=>exact x
 |xd fs=>obtain⟨_,⟨ob,_,_,e,_⟩,_⟩:=x;exact⟨ob,e⟩
 |U6 lo hi=>obtain⟨_,_,_,e⟩:=x;exact⟨_,e⟩
 |frz ob u=>obtain⟨e,_⟩:=x;exact⟨ob,e⟩
 |Mz ps=>exact⟨_,x⟩
 |met f y=>exact⟨_,x⟩
 |ext φ=>obtain⟨_,e,_⟩:=x;exact e
theorem Lv.Rb {P : Program} {w : World} {H : Hp} {h h' : Heap} (x : Lv P w H h) (k : ∀ b u, (∃ o, H b = some o) -> h.get? b = some u -> h'.get? b = some u) : Lv P w H h' := fun a o e =>
 (x a o e).Na (fun b u hb q => k b u (by
  rcases hb with z | z
  ·subst z; exact ⟨o, e⟩
  ·exact ⟨_, z⟩) q) (fun _ q => q) fun _ _ q => q
structure Fl(P:Program)(w:World)(l:List Env)(h₀:Heap)(H₀ H:Hp)(B h:Heap):Prop where
 un:Un (MJ l) [] H₀ H h₀ h
 IZ:Lv P w H h
 fr:∀b∈MJ l,H₀ b=none/\∃o,h₀.get? b=some o/\∀vs,o.data ≠ .fields vs
 Rc:∀b o,h.get? b=some o->((∃u,H b=some u)∨∃ o',h₀.get? b=some o')->b∉MJ l->B.get? b=some o
section
variable{P:Program}{w:World}{l:List Env}{h₀:Heap}{H₀ H:Hp}{B h h':Heap}
theorem Fl.free(F:Fl P w l h₀ H₀ H B h){b:Addr}(hb:b∈MJ l):H b=none:=by obtain⟨n,o,e,_⟩:=F.fr b hb;exact F.un.free b o e n (by simp)
theorem Fl.step(F:Fl P w l h₀ H₀ H B h)(st:B.StaysIn h')(sl:h.UpToSlots h'):Fl P w l h₀ H₀ H B h':=by
 have fr1:∀b o,b∈MJ l->h₀.get? b=some o->∃s',h'.get? b=some {o with slots:=s'}:=fun b o hb e=>by obtain⟨n,o',e',hd⟩:=F.fr b hb;rw[e]at e';cases e';obtain⟨s1,e1⟩:=F.un.slot b o e n hb (by simp);obtain⟨s2,e2⟩:=sl b _ e1 hd;exact⟨s2,e2⟩
 have kp:∀b o,h.get? b=some o->((∃u,H b=some u)∨∃ o',h₀.get? b=some o')->b∉MJ l->h'.get? b=some o:=fun b o e c n=>st b o (F.Rc b o e c n)
 refine⟨⟨fun b o e n hb hx=>kp b o (F.un.keep b o e n hb hx) (.inr ⟨o,e⟩) hb,fun b o e n hb hx=>fr1 b o hb e,F.un.free,fun b o e hx=>?_,F.un.KC,F.un.Kv,F.un.Kw⟩,PD.Lv.Rb F.IZ (fun b u hu e=>kp b u e (.inl hu) fun z=>?_),F.fr,fun b o e c n=>?_⟩
 ·by_cases hb:b∈MJ l
  ·obtain⟨s2,e2⟩:=fr1 b o hb e;exact⟨_,e2⟩
  ·obtain⟨o',e1⟩:=F.un.there b o e hx;exact⟨o',kp b o' e1 (.inr ⟨o,e⟩) hb⟩
 ·obtain⟨o,q⟩:=hu;rw[F.free z]at q;cases q
 ·have:∃o1,h.get? b=some o1:=by
   rcases c with⟨u,c⟩| ⟨o',c⟩
   ·exact PD.bK.there (F.IZ b u c)
   ·exact F.un.there b o' c (by simp)
  obtain⟨o1,e1⟩:=this;have q:=kp b o1 e1 c n;rw[e]at q;cases q;exact F.Rc b o e1 c n
end
def CX1(P:Program)(w:World):CXT:=fun outer H s E e s'=>∃(ea c:Addr) (H':Hp) (B:Heap) (a0:Value),e=.ref ea/\s'.os=s.os/\AllBare s'.gens/\Fl P w outer s.heap H H' B s'.heap/\ag H H'/\H' ea=none/\s.heap.get? ea=none ∧
 Heap.FlyingW B outer ea (.ref c) a0 s'.heap/\E (.ref c) none H'
theorem jF{P:Program}{w:World}{X:Cx}:Passes (CX1 P w) X E0:=fun _ _ _ _ _ _ _ h=>by obtain⟨_,_,_,_,_,_,_,_,_,_,_,_,_,z⟩:=h;exact z.elim
def MadeX(X:Cx)(Ed:Value->Prop):Prop:=∀(pins:yab) (σ:St) (H:Hp) (W:Own) (ρ:Ro) (s:Shared) (e c:Addr) (vs:yad) (h':Heap),Inv X pins σ H s->Rel X W H σ ρ->Heap.MadeExcOf s.heap h' e (.ref c) vs->Ed (.ref c)->X.xe (.ref e) {s with heap:=h'}
def bF(X:Cx)(Ed:Value->Prop):Prop:=∀(pins:yab) (σ:St) (H:Hp) (W:Own) (ρ:Ro) (s:Shared) (e:Value) (s':Shared),Inv X pins σ H s->Rel X W H σ ρ->CX1 X.prog X.w X.stack H s (fun c _ _=>Ed c) e s'->X.xe e s'
section
variable{P:Program}{w:World}{K:yac}{mg:yam}{base:Heap}{N:yah}{qual:Str}{sc:Scope}{f:Addr}{cd:Value}{A:Around}{outer:List Env}{IA:Shared}{H₀:Hp}{E:XK}
theorem qL{pins:yab}{σ:St}{H:Hp}{s:Shared}{B h':Heap}{e c:Addr}{a0:Value}(I:Inv (cf (CX1 P w) P w K mg base N qual sc f cd A outer IA H₀ E) pins σ H s)(hS:ag H₀ H)(hn:H e=none)(OB:IA.heap.get? e=none)
  (Rc:∀b o,s.heap.get? b=some o->((∃u,H b=some u)∨∃ o',IA.heap.get? b=some o')->b∉MJ (envOfC qual sc IA.heap.objs.size f cd::outer)->B.get? b=some o)
  (fl:Heap.FlyingW B outer e (.ref c) a0 h') (sl:s.heap.UpToSlots h') (hE:E (.ref c) none H):CX1 P w outer H₀ IA E (.ref e) {s with heap:=h'}:=by
 have nf:∀b,((∃u,H b=some u)∨∃ o',IA.heap.get? b=some o')->b∉MJ outer->b∉MJ (envOfC qual sc IA.heap.objs.size f cd::outer):=fun b c n z=>by
  rcases c with⟨u,c⟩| ⟨o',c⟩
  ·have:=I.Ny b z;rw[c]at this;cases this
  ·rcases L0.mp (I.Mc b z)with q|q
   ·have h1:=J9 c;have h2:IA.heap.objs.size<=b:=by rw[q];exact I.ok.above
    exact absurd (LZ h1 h2) (O8 _)
   ·exact n q
 have F:Fl P w outer IA.heap H₀ H B s.heap:=⟨I.base,I.IZ,fun b hb=>⟨I.ok.Pp b hb,by obtain⟨_,o,e,d⟩:=I.ok.Lo.mem hb;exact⟨o,e,d⟩⟩,fun b o e c n=>Rc b o e c (nf b c n)⟩
 exact⟨e,c,H,B,a0,rfl,I.os,I.bare,F.step fl.1 sl,hS,hn,OB,fl,hE⟩
theorem Fc{Ed:Value->Prop}(hE:∀c a H',ag H₀ H'->Ed c->E c a H'):MadeX (cf (CX1 P w) P w K mg base N qual sc f cd A outer IA H₀ E) Ed:=by
 intro pins σ H W ρ s e c vs h' I r hx hd;show wpAny (model P w) (A.deeper (envOfC qual sc IA.heap.objs.size f cd)) (leaving (envOfC qual sc IA.heap.objs.size f cd) (.ref e)) _ _ _;refine wpAny_leaves_madeW (base:=PySem.W.hideAll s.heap (MJ (envOfC qual sc IA.heap.objs.size f cd::outer))) (h:=s.heap) (outer:=outer) I.ok.frames rfl (fun b o q=>PySem.W.of_hideAll _ q)
  (PySem.W.funFrames_hide I.stack fun env he b hb=>U5.mpr ⟨env,he,hb⟩) hx fun Qm t x1 _ _ x4=>?_
 have ne:∀{h1:Heap},(∀b o,h1.get? b=some o->∃o',s.heap.get? b=some o')->h1.get? e=none:=fun {h1} k=>by
  cases q:h1.get? e with
  |none=>rfl
  |some o =>
   obtain⟨o',q'⟩:=k e o q;rw[hx.new]at q';cases q'
 refine qL (s:=s) (h':=Qm) I r.ent ?_ (ne fun b o q=>I.base.there b o q (by intro z;cases z)) (fun b o q _ n=>PySem.W.hideAll_get _ q n) x1 (fun b o q d=>?_) (hE _ _ _ r.ent hd)
 ·cases q:H e with
  |none=>rfl
  |some u =>
   obtain⟨o,z⟩:=PD.bK.there (I.IZ e u q);rw[hx.new]at z;cases z
 ·exact x4 b o (hx.keeps b o q) d
theorem A1{Ed:Value->Prop}(hE:∀c a H',ag H₀ H'->Ed c->E c a H'):bF (cf (CX1 P w) P w K mg base N qual sc f cd A outer IA H₀ E) Ed:=by
 intro pins σ H W ρ s e s' I r hx;obtain⟨ea,c,H',B,a0,rfl,os,bare,F,sm,hn,OB,fl,hd⟩:=hx;show wpAny (model P w) (A.deeper (envOfC qual sc IA.heap.objs.size f cd)) (leaving (envOfC qual sc IA.heap.objs.size f cd) (.ref ea)) _ _ _;refine wpAny_leaves_onW (outer:=outer) I.ok.frames rfl fl fun Qm x1 x2=>?_
 have I':=I.Nl os F.un F.IZ bare (by intro b z;cases z);refine qL (s:=s') (h':=Qm) I' (r.ent.trans sm) hn ?_ (fun b o q z n=>F.Rc b o q (z.elim .inl fun⟨o',z⟩=>.inr (I.base.there b o' z (by intro q;cases q))) n) x1 x2 (hE _ _ _ (r.ent.trans sm) hd);cases q:IA.heap.get? ea with
 |none=>rfl
 |some o =>
  obtain⟨o',q'⟩:=I.base.there ea o q (by intro z;cases z);rw[OB]at q';cases q'
end
section
variable{X:Cx}{k:Nat}{f:Addr}{fd:FuncData}{ps:yah}{sp:DSp}{x:Str}{p pos:Pos}{e:Expr}{es:yai}{t:DA}
theorem m8{dds:yas}{dsv:yad}{Ed:Value->Prop}{XE:yaa}(F:az X.prog X.w X.K X.mg X.base (CX1 X.prog X.w) k f fd ps (aJ X.K sp))(hr:aX k X.A)(hb:Binds X.K fd ps dsv)(hd:Vals (dds.map kh) dsv)(hs:∀d∈dds,nj d)
  {pins:yab} {σ:St} {H:Hp} {s:Shared} {W:Own} {ρ:Ro} {us:yad} {vs:yar} {ds:yas} {Q:D->Prop} (I:Inv X pins σ H s) (rr:Rel X W H σ ρ) (r:Vals vs us) (JS:af X.K W.bad H ds vs)
  (q:sp (aC ds++dds) Q Ed) (hx:∀e s',CX1 X.prog X.w X.stack H s (fun c _ _=>Ed c) e s'->XE e s'):wpAny (model X.prog X.w) X.A (call (.ref f) us) (DP X pins σ W H Q) XE s:=by
 have r2:Vals (vs++dds.map kh) (us++dsv):=r.append hd;have QE:aJ X.K sp (vs++dds.map kh) H (fun v H'=>ag H H'/\∃d,Den X.K W.bad H' d v/\Q d) (fun c _ _=>Ed c) :=
  ⟨W.bad false,aC ds++dds,Q,Ed,rr.tab,rr.tracked false,(af.ax (fun _ _=>Own.Ov) ds vs JS).append (af.oY hs),q,fun d v H' e h1 h2=>⟨e,d,Den.back rr.tracked h1,h2⟩,fun _ _ _ _ z=>z⟩
 have hl:(us++dsv).length=ps.length:=by rw[<- r2.length];exact F.len _ _ _ _ QE
 refine wpAny_call (codeAny_mono (F.run X.A X.stack s H ⟨us,[]⟩ (us++dsv) (vs++dds.map kh) _ _ hr I.RE (hb s us I.Ll hl) r2 QE) fun res s' hq=>?_);cases res with
 |error er=>exact hx er s' hq
 |ok fl =>
  cases fl with
  |ret u =>
   obtain⟨v,H2,I2,r2,e2,d,h1,h2⟩:=I.after hq;exact⟨v,H2,d,I2,r2,e2,h1,h2⟩
  |next=>exact False.elim hq
  |brk=>exact False.elim hq
  |cont=>exact False.elim hq
def qO(sp:DSp)(Ed:Value->Prop)(dds:yas)(t:DA):DE:=fun ρ Q=>t ρ fun ds=>sp (aC ds++dds) Q Ed
theorem we{dds:yas}{dsv:yad}{Ed:Value->Prop}(px:bF X Ed)(F:az X.prog X.w X.K X.mg X.base (CX1 X.prog X.w) k f fd ps (aJ X.K sp))(hr:aX k X.A)(hg:Gl X x)(hm:X.mg x=some (.ref f))(hk:PySem.W.keepIn X.K (.ref f)=true)(hb:Binds X.K fd ps dsv)(hd:Vals (dds.map kh) dsv)(hs:∀d∈dds,nj d)
  (ha:MF X (e::es) t) (Kl:(x==("__debug__" : Str))=false:=by decide) (he:starEach (e::es) X.env=(false,eval e X.env)::starEach es X.env:=by rfl) (KW:(backTo pos (starEach es X.env)).any (·.1)=false:=by rfl) :
  Hs X (.Call (.Name x p) (e::es) [] pos) (qO sp Ed dds t):=by
 intro pins s σ H W ρ Q I rr h;refine Qv (cN I hg hm ?_ Kl);refine PySem.W.callWith_K (h₀:=X.base) I.ok.mod.Pa hk (GU (ha pos pins s σ H W ρ _ I rr h) fun us s1 ⟨vs,H1,ds,I1,r,e1,JS,q⟩=>⟨I1.Ll,?_⟩) he KW;exact GU (m8 F hr hb hd hs I1 (rr.same e1) r JS q fun er s' hx=>px pins σ H1 W ρ s1 er s' I1 (rr.same e1) hx) fun _ _ z=>z.up e1
end
theorem Au{K:yac}{h:Heap}{C:Addr}{bmB:yad}{newId:String}(X:K.In h)(q:PySem.W.excIn K C bmB newId=true):∃tl N nm qn bs hd sn sub ab col dd k0 k1 k2 k3 k5 mN,
  h.get? C=some (excClassObj nm qn C N bs tl hd sn sub ab col dd k0 k1 k2 k3 k5 newId)/\h.Ns N mN/\mN "__init__" = none/\OwnTail h bmB tl:=by
 unfold PySem.W.excIn at q;split at q
 next dd cd sl ho =>
  split at q
  next C' tl k0 k1 k2 k3 n k5 hm hs =>
   simp only[N6,beq_iff_eq,Bool.not_eq_true']at q;obtain⟨⟨⟨⟨⟨e1,e2⟩,TL⟩,ht⟩,IZ⟩,Vf⟩:=q;subst e1 e2;cases cd with
   |mk nm bs mro ns qn hd sn sub ab col del =>
    simp only at hm TL IZ Vf;subst hm TL;have QK:sl=#[k0,k1,k2,k3,some (.builtin n),k5]:=by apply Array.ext';rw[hs]
    subst QK;exact⟨tl,ns,nm,qn,bs,hd,sn,sub,ab,col,dd,k0,k1,k2,k3,k5,_,X _ _ ho,.of_isNs (PySem.W.isNs_of_in X IZ),PySem.W.nsMap_none_of_in X IZ Vf,PySem.W.tail_of_in X ht⟩
  next=>cases q
 next=>cases q
abbrev dI:yad:=[.type "ValueError", .type "Exception", .type "BaseException", .type "object"]
section
variable{X:Cx}{pos:Pos}
theorem bQ {x:Str} {C:Addr} {e:Expr} {es:yai} {t:DA} {np cpos:Pos} {Ed:Value->Prop} (pm:MadeX X Ed) (hg:Gl X x) (hm:X.mg x=some (.ref C)) (q:PySem.W.excIn X.K C dI "ValueError.__new__" = true) (hc:X.calm=true) (ha:MF X (e::es) t)
  (he:starEach (e::es) X.env=(false,eval e X.env)::starEach es X.env:=by rfl) (KW:(backTo cpos (starEach es X.env)).any (·.1)=false:=by rfl) (Kl:(x==("__debug__" : Str))=false:=by decide) :
  Nd X (.Raise (some (.Call (.Name x np) (e::es) [] cpos)) none pos) (fun _ ρ=>t ρ fun ds=>ds.length<=sizeLine/\Ed (.ref C)):=by
 intro pins s σ H W ρ E I r h;obtain⟨tl,N,nm,qn,bs,hd,sn,sub,ab,col,dd,k0,k1,k2,k3,k5,mN,hC,hN,Vf,T⟩:=Au I.ok.mod.Pa q;have FB:=PySem.F.excBase_ValueError;refine wpAny_Raise_call_subT (C:=C) (nm:=nm) (q:=qn) (N:=N) (bs:=bs) (bm:=tl) (hdct:=hd) (sn:=sn) (sub:=sub) (ab:=ab) (col:=col) (dd:=dd) (k0:=k0) (k1:=k1) (k2:=k2) (k3:=k3) (k5:=k5) FB (mN:=mN) (T.hasType FB.hasBase) (I.ok.hd hc)
  (by rw[he];show(false || (backTo cpos (starEach es X.env)).any (·.1))=false;rw[KW];rfl) Vf (cN I hg hm ⟨rfl,?_⟩ Kl)
 have hz:=ha cpos pins s σ H W ρ _ I r h;rw[he]at hz ⊢;refine Calls.evalArgs_plain (GU hz fun us s1 ⟨vs,H1,ds,I1,rv,e1,JS,z,hE⟩=>?_);exact⟨rfl,by rw[<- JS.len,rv.length]at z;exact z,I1.bk _ _ hC,hN.keeps I1.bk,T.keeps I1.bk,fun h' ea hm=>pm pins σ H1 W ρ s1 ea C us h' I1 (r.same e1) hm hE⟩
theorem ft{st:Stmt}:Nd X st (fun _ _=>False):=fun _ _ _ _ _ _ _ _ _ h=>h.elim
theorem Rel.wish{W:Own}{H:Hp}{σ:St}{ρ:Ro}(r:Rel X W H σ ρ)(E:yaa):Rel (X.wish E) W H σ ρ:=⟨r.val,r.own,r.inj,r.kn,r.ke,r.bt,r.st,r.ent,r.tab⟩
theorem Rel.Jr{W:Own}{H:Hp}{σ:St}{ρ:Ro}{E:yaa}(r:Rel (X.wish E) W H σ ρ):Rel X W H σ ρ:=⟨r.val,r.own,r.inj,r.kn,r.ke,r.bt,r.st,r.ent,r.tab⟩
theorem Py.Jr{pins:yab}{W:Own}{H:Hp}{E:c9}{f:Flow}{s':Shared}{XE:yaa}(h:Py (X.wish XE) pins W H E f s'):Py X pins W H E f s':=by
 obtain⟨W',σ',H',I,fw,q⟩:=h;refine⟨W',σ',H',I.Jr,fw,?_⟩;cases f with
 |next=>obtain⟨HG,r,q⟩:=q;exact⟨HG,r.Jr,q⟩
 |brk=>obtain⟨HG,r,q⟩:=q;exact⟨HG,r.Jr,q⟩
 |cont=>obtain⟨HG,r,q⟩:=q;exact⟨HG,r.Jr,q⟩
 |ret u=>exact q
theorem cz.L4{st:yal}{t:DS}(h:cz X.L4 st t):cz X st t:=fun pins s σ H W ρ E I r hw =>
 L3 (h pins s σ H W ρ E (I.wish _) (r.wish _) hw) (fun _ _ q=>q.Jr) fun _ _ z=>False.elim z
theorem Hs.L4{e:Expr}{t:DE}(h:Hs X.L4 e t):Hs X e t:=fun pins s σ H W ρ Q I r hw =>
 L3 (h pins s σ H W ρ Q (I.wish _) (r.wish _) hw) (fun _ _ ⟨v,H',d,I',a,b,c,q⟩=>⟨v,H',d,I'.Jr,a,b,c,q⟩) fun _ _ z=>False.elim z
abbrev Cx.markX(X:Cx)(e:Value):Cx:={X with A:=X.A.mark (some e),calm:=false,xe:=fun _ _=>False}
theorem Inv.marked{pins:yab}{σ:St}{H:Hp}{s:Shared}(I:Inv X pins σ H s)(e:Value):Inv (Cx.markX X e) pins σ H s :=
 have ok:=I.ok
 ⟨⟨ok.mod,ok.kind,ok.glob,ok.blt,ok.above,ok.inj,ok.has,ok.OM,(fun z=>by cases z),ok.frames,ok.RC,ok.Tc,ok.bs,ok.Pc,ok.Nx,ok.Oi,ok.Lo,ok.Pp⟩,I.os,I.bare,I.base,I.loc,I.cell,I.free,I.JK,I.pin,I.IZ,I.len⟩
theorem Inv.unmark{pins:yab}{σ:St}{H:Hp}{s:Shared}{e:Value}(J:Inv (Cx.markX X e) pins σ H s)(ok:X.Ok):Inv X pins σ H s :=
 ⟨ok,J.os,J.bare,J.base,J.loc,J.cell,J.free,J.JK,J.pin,J.IZ,J.len⟩
theorem Rel.marked{W:Own}{H:Hp}{σ:St}{ρ:Ro}(r:Rel X W H σ ρ)(e:Value):Rel (Cx.markX X e) W H σ ρ:=⟨r.val,r.own,r.inj,r.kn,r.ke,r.bt,r.st,r.ent,r.tab⟩
theorem Rel.unmark{W:Own}{H:Hp}{σ:St}{ρ:Ro}{e:Value}(r:Rel (Cx.markX X e) W H σ ρ):Rel X W H σ ρ:=⟨r.val,r.own,r.inj,r.kn,r.ke,r.bt,r.st,r.ent,r.tab⟩
theorem Inv.TM{pins:yab}{σ:St}{H:Hp}{s:Shared}{e:Addr}{o:HO}(I:Inv X pins σ H s)(hn:H e=none)(h0:X.IA.heap.get? e=none)(hL:e≠X.env.locals)(hc:∀x c,X.env.cells.lookup x=some c->c≠e)(hp:∀p∈X.pn++pins,p.1≠e)
  (new:bK X.prog X.w (L2.upd H e o) s.heap e o):Inv X pins σ (L2.upd H e o) s:=by
 refine⟨I.ok,I.os,I.bare,⟨I.base.keep,I.base.slot,fun b u q n x=>?_,I.base.there,fun b xs q=>?_,fun b u xs q=>?_,fun b ps q=>?_⟩,I.loc,I.cell,by rw[aj (Ne.symm hL)];exact I.free,fun x c q=>by rw[aj (hc x c q)];exact I.JK x c q,fun p q=>?_,fun b u q=>?_,I.len⟩
 ·rw[aj (fun z=>by rw[z,h0]at q;cases q)];exact I.base.free b u q n x
 ·have:=I.base.KC b xs q;rw[aj (aP this hn)];exact this
 ·have:=I.base.Kv b u xs q;rw[aj (aP this hn)];exact this
 ·obtain⟨more,this⟩:=I.base.Kw b ps q;exact⟨more,by rw[aj (aP this hn)];exact this⟩
 ·obtain⟨p1,p2,p3⟩:=I.pin p q;exact⟨p1,by rw[aj (hp p q)];exact p2,p3⟩
 ·by_cases hb:b=e
  ·subst hb;rw[au]at q;cases q;exact new
  ·rw[aj hb]at q;exact(I.IZ b u q).Na (fun c v _ z=>z) (fun c z=>by rw[aj (aP z hn)];exact z) fun c xs z=>by rw[aj (aP z hn)];exact z
theorem w6{M:Model}{A:Around}{E:yaa}{pins:yab}{σ:St}{H:Hp}{s:Shared}{i:Nat}{n:Str}{Q:Unit->Shared->Prop}(I:Inv X pins σ H s)(hN:X.N.Nodup)(hi:X.N[i]?=some n)(hk:X.env.scope.names.lookup n=some .local)
  (h:∀s',Inv X pins (σ.set i none) H s'->Q () s'):wpAny M A (do bindName X.env n .none;unbindBehindTheSuite X.env n pos) Q E s:=by
 obtain⟨m,hn,hl⟩:=id I.loc;refine wpAny_nameGoes_keeps hk hn (by rw[I.ok.kind];rfl) fun h' v VX hs=>h _ ?_
 have Sz:∀b o,X.IA.heap.get? b=some o->b≠X.env.locals:=fun b o e=>Nk (LZ (J9 e) I.ok.above)
 refine⟨I.ok,I.os,I.bare,⟨fun b o e z hb hx=>(hs.2 b (Sz b o e)).trans (I.base.keep b o e z hb hx),fun b o e z hb hx=>?_,I.base.free,fun b o e hx=>?_,I.base.KC,I.base.Kv,I.base.Kw⟩,⟨_,VX,fun j y v' e1 e2 e3=>?_⟩,fun y c e=>?_,I.free,I.JK,fun p hp=>?_,fun b ob e=>?_,by simpa using I.len⟩
 ·obtain⟨sl,e1⟩:=I.base.slot b o e z hb hx;exact⟨sl,(hs.2 b (Sz b o e)).trans e1⟩
 ·obtain⟨o',e1⟩:=I.base.there b o e hx;exact⟨o',(hs.2 b (Sz b o e)).trans e1⟩
 ·by_cases hj:j=i
  ·subst hj;rw[List.getElem?_set]at e2;simp at e2
  ·rw[NP (Ne.symm hj)]at e2;obtain⟨u',r',q⟩:=hl j y v' e1 e2 e3;refine⟨u',r',?_⟩;rcases q with⟨k,e⟩| ⟨k,c,e,z⟩
   ·refine .inl ⟨k,?_⟩;have:y≠n:=fun e=>hj (l5 hN e1 (e ▸ hi))
    simp[this,e]
   ·exact .inr ⟨k,c,e,z.sameBut hs (I.Qz y c e)⟩
 ·obtain⟨w',z⟩:=I.cell y c e;exact⟨w',z.sameBut hs (I.Qz y c e)⟩
 ·obtain⟨e,z,ne,nf,d⟩:=I.pin p hp;exact⟨(hs.2 p.1 ne).trans e,z,ne,nf,d⟩
 ·refine(I.IZ b ob e).Na (fun c w' hc q=>(hs.2 c ?_).trans q) (fun _ q=>q) fun _ _ q=>q
  intro z;rcases hc with hc|hc
  ·rw[<- hc,z,I.free]at e;cases e
  ·rw[z,I.free]at hc;cases hc
theorem Rel.unset{W:Own}{H:Hp}{σ:St}{ρ:Ro}{i:Nat}(r:Rel X W H σ ρ)(hi:i<σ.length):Rel X (W.drop i) H (σ.set i none) (ρ.set i none):=by
 have at_:∀{j:Nat} {x:Sl},(ρ.set i none)[j]?=some (some x)->j≠i/\ρ[j]?=some (some x):=fun {j x} h=>by
  by_cases hj:j=i
  ·subst hj;rw[List.getElem?_set]at h;simp at h
  ·rw[NP (Ne.symm hj)]at h;exact⟨hj,h⟩
 have dr:∀{j:Nat} {a:Addr},(W.drop i).O j=some a->j≠i/\W.O j=some a:=fun {j a} h=>by
  have h':(if j=i then none else W.O j)=some a:=h;by_cases e1:j=i
  ·rw[G4 e1]at h';cases h'
  ·rw[GS e1]at h';exact⟨e1,h'⟩
 refine⟨fun j d h=>?_,fun j ds h=>?_,fun j k a h1 h2=>r.inj j k a (dr h1).2 (dr h2).2,fun j a h=>r.kn j a (dr h).2,fun j a h=>r.ke j a (dr h).2,r.bt,r.st,r.ent,r.tab⟩
 ·obtain⟨hj,h⟩:=at_ h;obtain⟨v,h1,h2⟩:=r.val j d h;exact⟨v,by rw[NP (Ne.symm hj)];exact h1,h2.HF fun _ _=>Own.JQ⟩
 ·obtain⟨hj,h⟩:=at_ h;obtain⟨a,vs,h1,h2,h3,h4⟩:=r.own j ds h;exact⟨a,vs,by show(if j=i then none else W.O j)=_;rw[GS hj];exact h1,by rw[NP (Ne.symm hj)];exact h2,h3,by rw[S7];exact h4.HF (fun _ _=>Own.JQ) (Own.MS hi)⟩
def FV(K:yac)(C:Addr)(i:Nat)(sp:DSp)(t:DA)(su:DS):DS:=fun E ρ=>t ρ fun ds=>sp (aC ds) (fun _=>E.nx ρ) fun cv=>∃c,cv=.ref c/\bG K c/\PySem.W.exmOne K (.ref c) (.ref C)=some true ∧
 su ⟨fun HG=>E.nx (HG.set i none),E.rt,fun HG=>E.bk (HG.set i none),fun HG=>E.ct (HG.set i none)⟩ (ρ.set i (some (.val (.exc c))))
def BY(K:yac)(c:Value)(te:DE):DE:=fun ρ Q=>te ρ fun d=>∃b,PySem.W.kitOne K (Qk d) c=some b/\Q (.bl b)
theorem cG {e:Expr} {te:DE} {p p':Pos} {x:Str} {cv:V} {c:Value} (hg:Gl X "isinstance") (hm:X.mg "isinstance" = none) (hx:PE X (.Name x p') (tC cv)) (rc:∀u,RelV cv u->u=c) (he:Hs X e te)
  (KN:starEach [e,.Name x p'] X.env=(false,eval e X.env)::starEach [.Name x p'] X.env:=by rfl) (RN:starEach [.Name x p'] X.env=(false,eval (.Name x p') X.env)::starEach [] X.env:=by rfl) (RO:(backTo pos (starEach [.Name x p'] X.env)).any (·.1)=false:=by rfl) :
  Hs X (.Call (.Name "isinstance" p) [e,.Name x p'] [] pos) (BY X.K c te):=by
 intro pins s σ H W ρ Q I rr h;have Tv:PA X [e,.Name x p'] (fT (mS X te) (fT (tC cv) kY)):=aZ he.pe (aZ hx bA RN) KN;refine Qv (fZ I hg hm boot_isinstance ?_ (by decide) (by decide));refine PyProof.Rows.callWith_builtin1 (GU (Tv pos pins s σ H (fun vs H1=>∃v d,vs=[v,cv]/\ag H H1/\Den X.K W.bad H1 d v/\∃b,PySem.W.kitOne X.K (Qk d) c=some b/\Q (.bl b)) I ⟨W,ρ,_,rr,h,fun v H1 d e1 hd q1=>⟨v,d,rfl,e1,hd,q1⟩⟩) fun us s1 ⟨vs,H1,I1,rv,v,d,ev,e1,hd,b,kb,q1⟩=>?_) KN RO;subst ev;cases rv with
 |cons r1 rr =>
  cases rr with
  |cons r2 rr =>
   cases rr;have:=rc _ r2;subst this;exact q9 I1 hd r1 kb fun tk=>⟨.bl _,H1,_,I1.tok tk,rfl,e1,Den.bl _,q1⟩
end
def fj(base:Heap)(l:List Env)(e:Addr)(cls a0:Value)(h:Heap):Prop:=base.StaysIn h/\base.get? e=none/\h.FunFrames base l/\∃fl,h.TracedAtW base e cls a0 fl
section
variable{M:Model}{A:Around}{E:yaa}{s:Shared}{base:Heap}{l outer:List Env}{env:Env}{e L:Addr}{cls a0:Value}
theorem uf{fr:Option Addr}{Q:Unit->Shared->Prop}(R:fj base l e cls a0 s.heap)(h:∀h',fj base l e cls a0 h'->s.heap.UpToSlots h'->Q () {s with heap:=h'}):wpAny M A (setFlight (.ref e) fr) Q E s:=by
 obtain⟨k1,k2,k3,fl,oe,vs,T,oT,ts,g1,g2,g3,g4,g5,g6,g7,g8,g9⟩:=R;have z3:3<ts.size:=(VN.mp g9).1;have QL:∀b,b≠T->(s.heap.update T (Obj.mapFields (·.setIfInBounds 3 (fr.elim Value.none fun f=>rawInt f)))).get? b=s.heap.get? b:=fun b hb=>UZ _ _ (Ne.symm hb)
 have PF:∀b o,s.heap.get? b=some o->(∀vs,o.data ≠ .fields vs)->b≠T:=fun b o hb hn q=>by rw[q,g7]at hb;cases hb;exact hn ts g8
 unfold setFlight;refine G0 (Nv g1 g3 g4 ?_);rw[G4 (by simp)];refine wpAny_setField g7 g8 z3 (h _ ⟨fun b o hb=>(QL b fun q=>by rw[q,g5]at hb;cases hb).trans (k1 b o hb),k2,k3.of_keeps fun b o hb hn=>⟨o,(QL b (PF b o hb hn)).trans hb,rfl⟩,?_⟩ fun b o hb hn=>⟨o.slots,(QL b (PF b o hb hn)).trans hb⟩);exact⟨_,oe,vs,T,_,_,(QL e (Ne.symm g6)).trans g1,g2,g3,g4,g5,g6,Heap.get?_update_self _ g7 (Obj.isFreed_of_fields (Obj.data_mapFields g8 _)),Obj.data_mapFields g8 _,by simp[z3];rfl⟩
theorem AZ{Wd:String}{NZ:Env}(R:fj base l e cls a0 s.heap)(h:∀h',fj base l e cls a0 h'->s.heap.UpToSlots h'->E (.ref e) {s with heap:=h'}):wpAny M A (PySem.passOn Wd (.ref e) NZ:Sem Value) (fun _ _=>False) E s:=by
 obtain⟨_,_,_,fl,oe,vs,T,oT,ts,g1,g2,g3,g4,_⟩:=id R;unfold PySem.passOn;refine G0 (Nv g1 g3 g4 ?_);rw[GS (by simp)]
 first
  |exact G0 (JR (G0 (uf R fun h' R' sl=>wpAny_throw (h h' R' sl))))
  |exact G0 (uf R fun h' R' sl=>wpAny_throw (h h' R' sl))
theorem ug{Q:Unit->Shared->Prop}(TN:A.frames=some (env::outer))(hf:env.frame=some L)(R:fj base (env::outer) e cls a0 s.heap)
  (h:∀h',fj base (env::outer) e cls a0 h'->s.heap.UpToSlots h'->Q () {s with heap:=h'}):wpAny M A (noteFrame (.ref e) env) Q E s:=by
 obtain⟨k1,k2,k3,fl,oe,vs,T,oT,ts,g1,g2,g3,g4,g5,g6,g7,g8,g9⟩:=id R;by_cases hfl:(fl==rawInt L)=true
 ·have efl:fl=rawInt L:=by simpa using hfl
  subst efl;exact wpAny_noteFrame_againW (base:=base) (cls:=cls) (a0:=a0) hf ⟨oe,vs,T,oT,ts,g1,g2,g3,g4,g5,g6,g7,g8,g9⟩ (h _ R (Heap.UpToSlots.refl _))
 ·obtain⟨ec,g0⟩:=g2;subst ec;unfold noteFrame;simp only[hf];refine G0 (Nv g1 g3 g4 ?_);rw[G4 (by simp)];refine G0 (Nv g7 g8 g9 ?_);rw[GS hfl];refine G0 (wpAny_setField g7 g8 (VN.mp g9).1 ?_);have QL:∀b,b≠T->(s.heap.update T (Obj.mapFields (·.setIfInBounds 3 Value.none))).get? b=s.heap.get? b:=fun b hb=>UZ _ _ (Ne.symm hb)
  have PF:∀b o,s.heap.get? b=some o->(∀vs,o.data ≠ .fields vs)->b≠T:=fun b o hb hn q=>by rw[q,g7]at hb;cases hb;exact hn ts g8
  refine wpAny_entryW (base:=base) TN (k3.of_keeps fun b o hb hn=>⟨o,(QL b (PF b o hb hn)).trans hb,rfl⟩) hf ((QL e (Ne.symm g6)).trans g1) (fun b o hb=>(QL b fun q=>by rw[q,g5]at hb;cases hb).trans (k1 b o hb)) k2 g3 (VN.mp g4).1 g0 fun h' hN=>?_
  obtain⟨n1,n2,n3,n4⟩:=hN;exact h h' ⟨n1,k2,n2,_,n3⟩ fun b o hb hn=>n4 b o ((QL b (PF b o hb hn)).trans hb) hn
theorem yE{Q:Unit->Shared->Prop}(TN:A.frames=some (env::outer))(hf:env.frame=some L)(R:fj base (env::outer) e cls a0 s.heap)
  (h:∀h',Heap.FlyingW base outer e cls a0 h'->s.heap.UpToSlots h'->Q () {s with heap:=h'}):wpAny M A (leaving env (.ref e)) Q E s:=by
 unfold leaving;refine G0 (ug TN hf R fun h1 R1 s1=>?_);obtain⟨k1,k2,k3,fl,k4⟩:=R1;refine wpAny_setFlight_noneW (base:=base) k1 k3 k4 fun h2 m1 m2 m3 m4=>?_
 obtain⟨_,_,m2⟩:=m2;exact h h2 ⟨m1,k2,m2,m3⟩ (s1.trans fun b o hb hn=>⟨o.slots,m4 b o hb hn⟩)
end
def mz(X:Cx)(Ed:Value->Prop):Prop:=∀(pins:yab) (σ:St) (H:Hp) (W:Own) (ρ:Ro) (s s':Shared) (ea c:Addr) (H':Hp) (B:Heap) (a0:Value),Inv X pins σ H s->Rel X W H σ ρ->s'.os=s.os->AllBare s'.gens->Fl X.prog X.w X.stack s.heap H H' B s'.heap->ag H H'->H' ea=none->s.heap.get? ea=none →
 fj B X.stack ea (.ref c) a0 s'.heap->Ed (.ref c)->X.xe (.ref ea) s'
section
variable{P:Program}{w:World}{K:yac}{mg:yam}{base:Heap}{N:yah}{qual:Str}{sc:Scope}{f:Addr}{cd:Value}{A:Around}{outer:List Env}{IA:Shared}{H₀:Hp}{E:XK}
theorem EW{Ed:Value->Prop}(hE:∀c a H',ag H₀ H'->Ed c->E c a H'):mz (cf (CX1 P w) P w K mg base N qual sc f cd A outer IA H₀ E) Ed:=by
 intro pins σ H W ρ s s' ea c H' B a0 I r os bare F sm hn OB R hd;show wpAny (model P w) (A.deeper (envOfC qual sc IA.heap.objs.size f cd)) (leaving (envOfC qual sc IA.heap.objs.size f cd) (.ref ea)) _ _ _;refine yE (outer:=outer) I.ok.frames rfl R fun Qm x1 x2=>?_
 have I':=I.Nl os F.un F.IZ bare (by intro b z;cases z);refine qL (s:=s') (h':=Qm) I' (r.ent.trans sm) hn ?_ (fun b o q z n=>F.Rc b o q (z.elim .inl fun⟨o',z⟩=>.inr (I.base.there b o' z (by intro q;cases q))) n) x1 x2 (hE _ _ _ (r.ent.trans sm) hd);cases q:IA.heap.get? ea with
 |none=>rfl
 |some o =>
  obtain⟨o',q'⟩:=I.base.there ea o q (by intro z;cases z);rw[OB]at q';cases q'
end
section
variable{P:Program}{w:World}{K:yac}{mg:yam}{base:Heap}
structure aw(K:yac)(x qual:Str)(st:Stmt)(f:Addr)(fd:FuncData):Prop where
 ex:∃(oc:Value) (od:Option Addr) (dV kV doc pm:Value) (an:Option Addr) (J2 ct:Value) (Oo:Array (yan)),
  fd=PySem.W.fnOf x qual (bH st) (bo st) (ai st) dV kV doc pm an J2 ct/\K.lookup f=some ⟨oc,od,.func fd,Oo⟩/\PySem.W.codeIn K J2 qual=true
 kp:PySem.W.keepIn K (.ref f)=true
theorem aw.okC{x qual:Str}{st:Stmt}{f:Addr}{fd:FuncData}{N ps:yah}{k:Nat}{sp:DSp}(F:aw K x qual st f fd)(S:ay N ps (ai st))(len:∀ds Q E,sp ds Q E->ds.length=ps.length)
  (MN:∀(J2:Value),fd.code=J2->∀(A:Around) (outer:List Env) (s:Shared) (H:Hp) (E:XK) (Ed:Value->Prop),aX k (A.deeper (envOfC qual (ai st) s.heap.objs.size f J2))->MadeX (cf (CX1 P w) P w K mg base N qual (ai st) f J2 A outer s H E) Ed->bF (cf (CX1 P w) P w K mg base N qual (ai st) f J2 A outer s H E) Ed->mz (cf (CX1 P w) P w K mg base N qual (ai st) f J2 A outer s H E) Ed →
   ∃ t,cz (cf (CX1 P w) P w K mg base N qual (ai st) f J2 A outer s H E) (bo st) t/\∀ds Q,sp ds Q Ed->t {nx:=fun _=>Q .HZ,rt:=Q} (bY N ds)):az P w K mg base (CX1 P w) (k+1) f fd ps (aJ K sp):=by
 obtain⟨oc,od,dV,kV,doc,pm,an,J2,ct,Oo,rfl,lk,LX⟩:=F.ex;refine jB lk LX S (fun vs H Q E h=>?_) fun A outer s H vs Q E hr h=>?_
 ·obtain⟨_,ds,_,_,_,_,hd,hs,_⟩:=h;rw[hd.len];exact len ds _ _ hs
 ·obtain⟨Pb,ds,Qd,Ed,hT,hP,hd,hs,kq,ke⟩:=h;obtain⟨t,ht,k⟩:=MN J2 rfl A outer s H E Ed hr (Fc ke) (A1 ke) (EW ke);refine⟨_,ht.ps,⟨Pb,fun _=>none,fun a=>∃o,H a=some o⟩,_,_,Rel.start hP hd rfl hT,k ds Qd hs,fun W' σ' H' HG f r q=>?_,fun W' H' v d f OY q=>?_,fun _ _ _ _ _ _ q=>q,fun _ _ _ _ _ _ q=>q⟩
  ·exact kq .HZ .HZ H' ⟨fun b o e n=>f.kp b o (fun i z=>by cases z) e n,f.tb,f.ok⟩ Den.HZ q
  ·refine kq d v H' ⟨fun b o e n=>f.kp b o (fun i z=>by cases z) e n,f.tb,f.ok⟩ (OY.HF fun t a z=>?_) q;rcases z with z|z
   ·exact .inl (by rw[f.B];exact z)
   ·exact .inr (.inr ⟨z.1,by rw[f.S];exact z.2⟩)
theorem aw.OC{x qual:Str}{st:Stmt}{f:Addr}{fd:FuncData}{N ps:yah}{k:Nat}{sp:DSp}(F:aw K x qual st f fd)(S:ay N ps (ai st))(len:∀ds Q E,sp ds Q E->ds.length=ps.length)
  (MN:∀(J2:Value) (A:Around) (outer:List Env) (s:Shared) (H:Hp) (E:XK) (Ed:Value->Prop),aX k (A.deeper (envOfC qual (ai st) s.heap.objs.size f J2))->MadeX (cf (CX1 P w) P w K mg base N qual (ai st) f J2 A outer s H E) Ed->bF (cf (CX1 P w) P w K mg base N qual (ai st) f J2 A outer s H E) Ed->mz (cf (CX1 P w) P w K mg base N qual (ai st) f J2 A outer s H E) Ed →
   ∃ t,cz (cf (CX1 P w) P w K mg base N qual (ai st) f J2 A outer s H E) (bo st) t/\∀ds Q,sp ds Q Ed->t {nx:=fun _=>Q .HZ,rt:=Q} (bY N ds)):az P w K mg base (CX1 P w) (k+1) f fd ps (aJ K sp):=aw.okC F S len fun J2 _=>MN J2
theorem aw.okN{x qual:Str}{st:Stmt}{f:Addr}{fd:FuncData}{N ps:yah}{k:Nat}{sp:DSp}(F:aw K x qual st f fd)(S:ay N ps (ai st))(len:∀ds Q E,sp ds Q E->ds.length=ps.length)
  (MN:∀(J2:Value) (A:Around) (outer:List Env) (s:Shared) (H:Hp) (E:XK),aX k (A.deeper (envOfC qual (ai st) s.heap.objs.size f J2)) →
   ∃ t,cz (cf (CX1 P w) P w K mg base N qual (ai st) f J2 A outer s H E).L4 (bo st) t/\∀ds Q Ed,sp ds Q Ed->t {nx:=fun _=>Q .HZ,rt:=Q} (bY N ds)):az P w K mg base (CX1 P w) (k+1) f fd ps (aJ K sp) :=
 aw.OC F S len fun J2 A outer s H E Ed hr _ _ _=>by obtain⟨t,ht,k⟩:=MN J2 A outer s H E hr;exact⟨t,ht.L4,fun ds Q h=>k ds Q Ed h⟩
theorem gM{x qual:Str}{st:Stmt}{f:Addr}{oc:Value}{od an:Option Addr}{Oo:Array (yan)}{dV kV doc pm J2 ct:Value}(l:K.lookup f=some ⟨oc,od,.func (PySem.W.fnOf x qual (bH st) (bo st) (ai st) dV kV doc pm an J2 ct),Oo⟩)
  (c:PySem.W.codeIn K J2 qual=true) (k:PySem.W.keepIn K (.ref f)=true):aw K x qual st f (PySem.W.fnOf x qual (bH st) (bo st) (ai st) dV kV doc pm an J2 ct):=⟨⟨oc,od,dV,kV,doc,pm,an,J2,ct,Oo,rfl,l,c⟩,k⟩
end
open PySem PySem.Spec PyProof.Rows L2
def Kk(P:Program)(w:World)(K:yac)(mg:yam)(base:Heap)(x:Str)(k:Nat)(ps:yah)(sp:DSp):Prop :=
 ∃ f fd,az P w K mg base (CX1 P w) k f fd ps (aJ K sp)/\mg x=some (.ref f)/\PySem.W.keepIn K (.ref f)=true/\Binds K fd ps []
section
variable{X:Cx}{k:Nat}{ps:yah}{sp:DSp}{x:Str}{p pos:Pos}{e:Expr}{es:yai}{t:DA}
theorem cM (h:Kk X.prog X.w X.K X.mg X.base x k ps sp) (hr:aX k X.A) (ha:MF X (e::es) t) (hg:Gl X x:=by rfl) (Kl:(x==("__debug__" : Str))=false:=by decide)
  (he:starEach (e::es) X.env=(false,eval e X.env)::starEach es X.env:=by rfl) (KW:(backTo pos (starEach es X.env)).any (·.1)=false:=by rfl):Hs X (.Call (.Name x p) (e::es) [] pos) (jx sp [] t):=by
 obtain⟨f,fd,F,hm,hk,hb⟩:=h;exact ym (dds:=[]) (dsv:=[]) F hr hg hm hk hb .nil (by simp) jF ha Kl he KW
theorem aI {n:Nat} (h:Kk X.prog X.w X.K X.mg X.base x k ps sp) (hr:aX n X.A) (ha:MF X (e::es) t) (hk:k<=n:=by decide) (hg:Gl X x:=by rfl) (Kl:(x==("__debug__" : Str))=false:=by decide)
  (he:starEach (e::es) X.env=(false,eval e X.env)::starEach es X.env:=by rfl) (KW:(backTo pos (starEach es X.env)).any (·.1)=false:=by rfl):Hs X (.Call (.Name x p) (e::es) [] pos) (jx sp [] t):=cM h (hr.mono hk) ha hg Kl he KW
theorem cg {Ed:Value->Prop} (px:bF X Ed) (h:Kk X.prog X.w X.K X.mg X.base x k ps sp) (hr:aX k X.A) (ha:MF X (e::es) t) (hg:Gl X x:=by rfl) (Kl:(x==("__debug__" : Str))=false:=by decide)
  (he:starEach (e::es) X.env=(false,eval e X.env)::starEach es X.env:=by rfl) (KW:(backTo pos (starEach es X.env)).any (·.1)=false:=by rfl):Hs X (.Call (.Name x p) (e::es) [] pos) (qO sp Ed [] t):=by
 obtain⟨f,fd,F,hm,hk,hb⟩:=h;exact we (dds:=[]) (dsv:=[]) px F hr hg hm hk hb .nil (by simp) ha Kl he KW
end
theorem BP{CX:CXT}{P:Program}{w:World}{K:yac}{mg:yam}{base:Heap}{N:yah}{qual:Str}{sc:Scope}{f:Addr}{cd:Value}{A:Around}{outer:List Env}{s:Shared}{H:Hp}{E:XK}:(cf CX P w K mg base N qual sc f cd A outer s H E).K=K:=rfl
theorem Bq(c:Addr):Qk (.exc c)=.ref c:=rfl
theorem wM(c:Addr):fE (.exc c)=false:=rfl
def qA:DSp:=fun ds Q _=>∃ns:yaf,ds=[.lst false (ns.map .int)]/\ns.length<=63/\Q (.bl true)
theorem j9{K:yac}{P:yak}{H:Hp}:∀ns:yaf,af K P H (ns.map D.int) (ns.map V.int)
 |[]=>af.nil
 |n::r=>af.cons (Den.int n) (j9 r)
theorem C9{K:yac}{H:Hp}{a:Addr}{ns:yaf}(hl:ns.length<=63)(hS:SqL K H a (ns.map V.int))(hT:cb K H):aJ K qA [.ref a] H (fun v _=>v=.bl true) fun _ _ _=>False :=
 ⟨fun _=>False,[.lst false (ns.map D.int)],fun d=>d=.bl true,fun _=>False,hT,fun _ z=>z.elim,af.one (Den.lst (fun z=>z.elim (fun z=>by cases z) id) (.any hS) (j9 ns)),⟨ns,rfl,hl,rfl⟩,fun d v H' _ hd e=>by subst e;exact hd.OQ,fun _ _ _ _ z=>z.elim⟩
theorem Vg{α:Type}(a:α)(r:List α):KQ (a::r) 0=some a:=de (j:=0) rfl
theorem TQ{α:Type}(a b:α)(r:List α):KQ (a::b::r) 1=some b:=de (j:=1) rfl
theorem at2{α:Type}(a b c:α)(r:List α):KQ (a::b::c::r) 2=some c:=de (j:=2) rfl
theorem at3{α:Type}(a b c d:α)(r:List α):KQ (a::b::c::d::r) 3=some d:=de (j:=3) rfl
theorem yX(ds:yas)(i:Int)(Q:D->Prop):dO (.tup ds) (.int i) Q=∃d,KQ ds i=some d/\Q d:=mP ds i Q
theorem yW(t:Bool)(ds:yas)(i:Int)(Q:D->Prop):dO (.lst t ds) (.int i) Q=∃d,KQ ds i=some d/\Q d:=mP ds i Q
section
variable{a b c d:D}{r:yas}{t:Bool}{Q:D->Prop}
theorem rx0:dO (.tup (a::r)) (.int 0) Q=Q a:=rfl
theorem rx1:dO (.tup (a::b::r)) (.int 1) Q=Q b:=rfl
theorem rx2:dO (.tup (a::b::c::r)) (.int 2) Q=Q c:=rfl
theorem rx3:dO (.tup (a::b::c::d::r)) (.int 3) Q=Q d:=rfl
theorem lx0:dO (.lst t (a::r)) (.int 0) Q=Q a:=rfl
theorem lx1:dO (.lst t (a::b::r)) (.int 1) Q=Q b:=rfl
theorem lx2:dO (.lst t (a::b::c::r)) (.int 2) Q=Q c:=rfl
theorem lx3:dO (.lst t (a::b::c::d::r)) (.int 3) Q=Q d:=rfl
end
theorem pS(i:Int):ax (.int i)=.int i:=rfl
theorem zk(b:Bool):ax (.bl b)=.bl b:=rfl
theorem xT:ax .HZ=.HZ:=rfl
theorem pT(x:Str):ax (.str x)=.str x:=rfl
theorem xR(c:Addr):ax (.exc c)=.exc c:=rfl
theorem xU(ds:yas):ax (.tup ds)=.tup (aC ds):=rfl
theorem xS(t:Bool)(ds:yas):ax (.lst t ds)=.lst false (aC ds):=rfl
theorem b9:aC []=[]:=rfl
theorem aT(d:D)(ds:yas):aC (d::ds)=ax d::aC ds:=rfl
theorem gI{α:Type}(f:α->D)(h:∀x,ax (f x)=f x):∀xs:List α,aC (xs.map f)=xs.map f
 |[]=>by rw[Qf,aC]
 |x::r=>by rw[Nj,aC,h,gI f h r]
theorem cu(ns:yaf):aC (ns.map D.int)=ns.map D.int:=gI _ pS ns
theorem A6(C:Int->Int->Prop)(g:Int->Int->D)(i j:Int)(Q:D->Prop):Q8 C g (.int i) (.int j) Q=(C i j/\Q (g i j)):=rfl
theorem yV(g:Int->Int->D)(i j:Int)(Q:D->Prop):eA g (.int i) (.int j) Q=Q (g i j):=rfl
theorem Cg(d:D)(r:Ro)(Q:D->Prop):bN 0 (some (.val d)::r) Q=Q d:=rfl
theorem Ci(n:Nat)(x:Option Sl)(r:Ro)(Q:D->Prop):bN (n+1) (x::r) Q=bN n r Q:=rfl
theorem Fs(x y:Option Sl)(r:Ro):List.set (x::r) 0 y=y::r:=rfl
theorem Ft(n:Nat)(x y:Option Sl)(r:Ro):List.set (x::r) (n+1) y=x::List.set r n y:=rfl
theorem ET(k:Bool)(R:Bool->Prop):(∃c,(D.bl k)=.bl c/\R c)=R k:=by
 apply propext;constructor
 ·rintro⟨c,e,q⟩;cases e;exact q
 ·intro q;exact⟨k,rfl,q⟩
theorem Cv(k:Int)(R:Int->Prop):(∃c,(D.int k)=.int c/\R c)=R k:=by
 apply propext;constructor
 ·rintro⟨c,e,q⟩;cases e;exact q
 ·intro q;exact⟨k,rfl,q⟩
theorem As{α:Type}(k:α)(R:α->Prop):(∃c,some k=some c/\R c)=R k:=by
 apply propext;constructor
 ·rintro⟨c,e,q⟩;cases e;exact q
 ·intro q;exact⟨k,rfl,q⟩
theorem sz3(a b c:D):([a,b,c]:yas).length<=sizeLine:=by rw[N7];show 3<=16777216;decide
theorem sz2(a b:D):([a,b]:yas).length<=sizeLine:=by rw[N7];show 2<=16777216;decide
theorem PH(a:D):([a]:yas).length<=sizeLine:=by rw[N7];show 1<=16777216;decide
theorem sz4(a b c d:D):([a,b,c,d]:yas).length<=sizeLine:=by rw[N7];show 4<=16777216;decide
theorem AF(t:Bool)(xs:yas)(R:yas->Prop):(∃ys,((∃t',[D.lst t xs]=[.lst t' ys]) ∨ [D.lst t xs]=[.tup ys])/\R ys)=R xs:=by
 apply propext;constructor
 ·rintro⟨c,e,q⟩;rcases e with⟨_,e⟩| e
  ·cases e;exact q
  ·cases e
 ·intro q;exact⟨xs,.inl ⟨t,rfl⟩,q⟩
theorem AG(xs:yas)(R:yas->Prop):(∃ys,((∃t',[D.tup xs]=[.lst t' ys]) ∨ [D.tup xs]=[.tup ys])/\R ys)=R xs:=by
 apply propext;constructor
 ·rintro⟨c,e,q⟩;rcases e with⟨_,e⟩| e
  ·cases e
  ·cases e;exact q
 ·intro q;exact⟨xs,.inr rfl,q⟩
theorem DJ(a b:D)(R:D->D->Prop):(∃d e,[a,b]=[d,e]/\R d e)=R a b:=by
 apply propext;constructor
 ·rintro⟨_,_,e,q⟩;cases e;exact q
 ·intro q;exact⟨a,b,rfl,q⟩
theorem uc (ds:yas):Oz "tuple" (.tup ds)=true:=rfl
theorem wW (t:Bool) (ds:yas):Oz "tuple" (.lst t ds)=false:=rfl
theorem AD (t:Bool) (ds:yas):Oz "list" (.lst t ds)=true:=rfl
theorem wV (ds:yas):Oz "list" (.tup ds)=false:=rfl
theorem AB (i:Int):Oz "int" (.int i)=true:=rfl
theorem uX (i:Int):Oz "bool" (.int i)=false:=rfl
theorem wR:fE .HZ=true:=rfl
theorem wU(ds:yas):fE (.tup ds)=false:=rfl
theorem wQ(t:Bool)(ds:yas):fE (.lst t ds)=false:=rfl
theorem wO(i:Int):fE (.int i)=false:=rfl
theorem uh(i:Int):okD (.int i):=by unfold okD;rw[Km,NC]<;>first|exact⟨rfl,rfl⟩| (intros;contradiction)
theorem ui:okD .HZ:=by unfold okD;rw[Km,NC]<;>first|exact⟨rfl,rfl⟩| (intros;contradiction)
theorem Ds(a b c:Int):okD (.tup [.int a,.int b,.int c]):=by unfold okD;simp only[Km,cj,NC,jH];exact⟨rfl,rfl⟩
theorem Cu(a b c x y z:Int):eqD (.tup [.int a,.int b,.int c]) (.tup [.int x,.int y,.int z])=(decide (a=x) && (decide (b=y) && decide (c=z))):=by unfold eqD;simp only[Km,cj,PyData.eqv,PyData.eqvAll,Bool.and_true];rfl
abbrev T3(a b c:Int):D:=.tup [.int a,.int b,.int c]
theorem CD.lit{i n:Int}(h:n≠0/\n.natAbs<2 ^ 64:=by decide):CD i n:=⟨h.1,LZ h.2 (SY (by decide) (by decide))⟩
theorem Ba(a b d:Int)(R:Int->Int->Int->Prop):(∃i j c:Int,[D.int a,D.int b,D.int d]=[.int i,.int j,.int c]/\R i j c)=R a b d:=by
 apply propext;constructor
 ·rintro⟨_,_,_,e,q⟩;cases e;exact q
 ·intro q;exact⟨a,b,d,rfl,q⟩
theorem A9(a b:Int)(R:Int->Int->Prop):(∃i j:Int,[D.int a,D.int b]=[.int i,.int j]/\R i j)=R a b:=by
 apply propext;constructor
 ·rintro⟨_,_,e,q⟩;cases e;exact q
 ·intro q;exact⟨a,b,rfl,q⟩
theorem A8(a:Int)(R:Int->Prop):(∃i:Int,[D.int a]=[.int i]/\R i)=R a:=by
 apply propext;constructor
 ·rintro⟨_,e,q⟩;cases e;exact q
 ·intro q;exact⟨a,rfl,q⟩
theorem xy{lo c:Int}{n j:Nat}{x:D}(h:(iP lo c n)[j]?=some x):j<n/\x=.int (lo+j*c):=by
 by_cases hj:j<n
 ·rw[rQ hj]at h;exact⟨hj,(Oh h).symm⟩
 ·rw[Sr (by rw[mf];omega)]at h;cases h
theorem Bb{lo hi c:Int}{j:Nat}(hc:0<c)(h:j<ic lo hi c):lo+j*c<hi:=by
 unfold ic Builtin.Range.rangeSize at h;rw[G4 (show c > 0 from hc)]at h;by_cases hl:lo<hi
 ·rw[G4 hl]at h;have h1:(j:Int)<=(hi - lo - 1) / c:=by omega
  have h2:=(Int.le_ediv_iff_mul_le hc).mp h1;omega
 ·rw[GS hl]at h;simp at h
theorem yf{ns:yaf}{k:Int}(h0:0<=k)(h1:k<ns.length):KQ (ns.map D.int) k=some (.int (ns.getD k.toNat 0)):=by
 have e:k=((k.toNat:Nat):Int):=by omega
 have hl:k.toNat<ns.length:=by omega
 have q:KQ (ns.map D.int) ((k.toNat:Nat):Int)=some (.int (ns.getD k.toNat 0)):=de (by simp[Of,Sq hl,VO]);rw[<- e]at q;exact q
theorem sR{xs ys:yaf}(h:xs.map D.int=ys.map D.int):xs=ys:=by
 induction xs generalizing ys with
 |nil=>cases ys with
  |nil=>rfl
  |cons y r=>simp at h
 |cons x r ih=>cases ys with
  |nil=>simp at h
  |cons y q =>
   simp only[Nj,U3,D.int.injEq]at h;rw[h.1,ih h.2]
theorem Vh(n:Nat)(t:Pz)(tg:Bool)(ds:yas)(h:ds.length=n)(ρ:Ro)(Q:Ro->Prop):eN n t (.lst tg ds) ρ Q=t ds ρ Q:=by
 apply propext;unfold eN;constructor
 ·rintro⟨Mf,e,_,h⟩;rcases e with e|⟨_,e⟩
  ·cases e
  ·cases e;exact h
 ·intro q;exact⟨ds,.inr ⟨tg,rfl⟩,h,q⟩
theorem uV(n:Nat)(t:Pz)(ds:yas)(h:ds.length=n)(ρ:Ro)(Q:Ro->Prop):eN n t (.tup ds) ρ Q=t ds ρ Q:=by
 apply propext;unfold eN;constructor
 ·rintro⟨Mf,e,_,h⟩;rcases e with e|⟨_,e⟩
  ·cases e;exact h
  ·cases e
 ·intro q;exact⟨ds,.inl rfl,h,q⟩
theorem TR(g:DG)(u:Pz)(x:D)(r:yas)(ρ:Ro)(Q:Ro->Prop):bp g u (x::r) ρ Q=g x ρ fun HG=>u r HG Q:=by
 apply propext;unfold bp;constructor
 ·rintro⟨d,r',e,h⟩;cases e;exact h
 ·intro h;exact⟨x,r,rfl,h⟩
theorem TU(ρ:Ro)(Q:Ro->Prop):gp [] ρ Q=Q ρ:=by apply propext;unfold gp;simp
theorem gd2(g1 g2:DG)(tg:Bool)(a b:D)(ρ:Ro)(Q:Ro->Prop):eN 2 (bp g1 (bp g2 gp)) (.lst tg [a,b]) ρ Q=g1 a ρ fun LY=>g2 b LY Q:=by
 (first|rw[Vh 2 _ _ _ rfl]|rw[Vh 3 _ _ _ rfl]);simp only[TR,TU]
theorem FZ(g1 g2:DG)(a b:D)(ρ:Ro)(Q:Ro->Prop):eN 2 (bp g1 (bp g2 gp)) (.tup [a,b]) ρ Q=g1 a ρ fun LY=>g2 b LY Q:=by
 (first|rw[uV 2 _ _ rfl]|rw[uV 4 _ _ rfl]);simp only[TR,TU]
theorem gd3(g1 g2 g3:DG)(tg:Bool)(a b c:D)(ρ:Ro)(Q:Ro->Prop):eN 3 (bp g1 (bp g2 (bp g3 gp))) (.lst tg [a,b,c]) ρ Q=g1 a ρ fun LY=>g2 b LY fun KR=>g3 c KR Q:=by
 (first|rw[Vh 2 _ _ _ rfl]|rw[Vh 3 _ _ _ rfl]);simp only[TR,TU]
theorem F0(g1 g2 g3 g4:DG)(a b c d:D)(ρ:Ro)(Q:Ro->Prop):eN 4 (bp g1 (bp g2 (bp g3 (bp g4 gp)))) (.tup [a,b,c,d]) ρ Q=g1 a ρ fun LY=>g2 b LY fun KR=>g3 c KR fun PB=>g4 d PB Q:=by
 (first|rw[uV 2 _ _ rfl]|rw[uV 4 _ _ rfl]);simp only[TR,TU]
section
variable{X:Cx}{pos:Pos}
theorem Rel.We{W:Own}{H H':Hp}{σ:St}{ρ:Ro}{i:Nat}{p:Addr}{x:OS}{o:HO}(r:Rel X W H σ ρ)(hi:i<σ.length)(sm:ag H H')(hp:H p=none)(hk:X.K.lookup p=none)(h':H' p=some o)(hd:cy X.K (fun t b=>W.bad t b∨b=p) H' (W.sub σ.length i) x o) :
  Rel X ((W.drop i).put i p) H' (σ.set i (some (.ref p))) (ρ.set i (some (.ob x)))/\JA W H ((W.drop i).put i p) H':=by
 have hO:∀j a,((W.drop i).put i p).O j=some a->(j=i/\a=p)∨(j≠i/\W.O j=some a):=fun j a h=>by
  have h1:(if j=i then some p else(if j=i then none else W.O j))=some a:=h;by_cases e:j=i
  ·rw[G4 e]at h1;cases h1;exact .inl ⟨e,rfl⟩
  ·rw[GS e,GS e]at h1;exact .inr ⟨e,h1⟩
 have hOi:((W.drop i).put i p).O i=some p:=by show(if i=i then some p else _)=_;rw[G4 rfl]
 have hOj:∀j,j≠i->((W.drop i).put i p).O j=W.O j:=fun j n=>by show(if j=i then some p else(if j=i then none else W.O j))=_;rw[GS n,GS n]
 have hS:∀j k b,W.sub σ.length j k=some b->((W.drop i).put i p).sub σ.length j k=some b:=fun j k b e=>(hOj _ (sE hi)).trans e
 have NF:∀t a,((W.drop i).put i p).bad t a->W.bad t a∨a=p:=fun t a z=>by
  rcases z with z|⟨j,z⟩| z
  ·exact .inl (.inl z)
  ·rcases hO j a z with⟨_,q⟩| ⟨_,q⟩
   ·exact .inr q
   ·exact .inl (.inr (.inl ⟨j,q⟩))
  ·exact .inl (.inr (.inr z))
 have nb:∀{t:Bool} {a:Addr} {ws:yar},Lm X.K H t a ws->a≠p:=fun {t a ws} q z=>by
  subst z;rcases q.1 with(q|⟨o,q⟩)|⟨o,its,n,q,_⟩
  ·rw[hp]at q;cases q
  ·rw[hp]at q;cases q
  ·rw[hk]at q;cases q
 have up:∀(d:D) (v:V),Den X.K W.bad H d v->Den X.K ((W.drop i).put i p).bad H' d v:=Den.map (fun _ _ q=>JP.same sm q) (fun t a ws n q=>⟨fun z=>(NF t a z).elim n (nb q),q.same sm⟩) (fun a _ n q=>sm.kp a _ q n.nt);have ups:∀(ds:yas) (vs':yar),af X.K W.bad H ds vs'->af X.K ((W.drop i).put i p).bad H' ds vs':=af.map (fun _ _ q=>JP.same sm q) (fun t a ws n q=>⟨fun z=>(NF t a z).elim n (nb q),q.same sm⟩) (fun a _ n q=>sm.kp a _ q n.nt);refine⟨⟨fun j d h=>?_,fun j x h=>?_,fun j k a h1 h2=>?_,fun j a h1=>?_,fun j a h1=>?_,fun a h=>let ⟨_,q⟩:=r.bt a h;sm.ex q,fun a h=>let ⟨_,q⟩:=r.st a h;sm.ex q,r.ent.trans sm,r.tab.same sm⟩,rfl,rfl,fun b o _ q n=>sm.kp b o q n,fun j a h=>?_,sm.tb,sm.ok⟩
 ·by_cases hj:j=i
  ·subst hj;rw[List.getElem?_set]at h;split at h
   ·split at h<;>cases h
   ·omega
  ·rw[NP (Ne.symm hj)]at h;obtain⟨w,h1,h2⟩:=r.val j d h;exact⟨w,by rw[NP (Ne.symm hj)];exact h1,up d w h2⟩
 ·by_cases hj:j=i
  ·subst hj;rw[List.getElem?_set]at h;split at h
   ·split at h
    ·cases h;exact⟨p,_,hOi,by simp[hi],h',by rw[S7];exact hd.HF (fun t a z=>NF t a z) (hS _)⟩
    ·cases h
   ·omega
  ·rw[NP (Ne.symm hj)]at h;obtain⟨a,ws,h1,h2,h3,h4⟩:=r.own j x h;exact⟨a,ws,(hOj j hj).trans h1,by rw[NP (Ne.symm hj)];exact h2,sm.kp _ _ h3 h4.Pf.nt,by rw[S7];exact h4.map ups fun k b q=>⟨hS j k b q,fun _ z=>sm _ _ z⟩⟩
 ·rcases hO j a h1 with⟨e1,q1⟩| ⟨e1,q1⟩<;>rcases hO k a h2 with⟨e2,q2⟩| ⟨e2,q2⟩
  ·rw[e1,e2]
  ·subst q1;obtain⟨_,_,ws,q,_⟩:=r.kn k _ q2;rw[hp]at q;cases q
  ·subst q2;obtain⟨_,_,ws,q,_⟩:=r.kn j _ q1;rw[hp]at q;cases q
  ·exact r.inj j k a q1 q2
 ·rcases hO j a h1 with⟨e1,q1⟩| ⟨e1,q1⟩
  ·subst q1;exact⟨hk,⟨fun z=>(by obtain⟨o,q⟩:=r.bt _ z;rw[hp]at q;cases q),fun z=>(by obtain⟨o,q⟩:=r.st _ z;rw[hp]at q;cases q)⟩,_,h',hd.Pf⟩
  ·obtain⟨a1,a2,ws,a3,a4⟩:=r.kn j a q1;exact⟨a1,a2,ws,sm.kp _ _ a3 a4.nt,a4⟩
 ·rcases hO j a h1 with⟨e1,q1⟩| ⟨e1,q1⟩
  ·subst q1;exact r.ent.free hp
  ·exact r.ke j a q1
 ·rcases hO j a h with⟨e1,q1⟩| ⟨e1,q1⟩
  ·subst q1;exact .inr hp
  ·exact .inl ⟨j,q1⟩
theorem Rel.QM{W:Own}{H H':Hp}{σ:St}{ρ:Ro}{i:Nat}{p:Addr}{ds:yas}{vs:yar}(r:Rel X W H σ ρ)(hi:i<σ.length)(sm:ag H H')(hp:H p=none)(hk:X.K.lookup p=none)(h':H' p=some (.lst vs))(hd:af X.K (fun t b=>W.bad t b∨b=p) H' ds vs) :
  Rel X ((W.drop i).put i p) H' (σ.set i (some (.ref p))) (ρ.set i (some (.own ds)))/\JA W H ((W.drop i).put i p) H':=r.We hi sm hp hk h' (.lst hd)
theorem af.apart{K:yac}{P:yak}{H:Hp}{a:Addr}{o:HO}{ds:yas}{us:yar}(n:H a=none)(k:K.lookup a=none)(h:af K P H ds us)(nt:NT o:=by exact True.intro):af K (fun t b=>P t b∨b=a) (L2.upd H a o) ds us :=
 af.map (fun _ _ q=>JP.same (ag.upd n nt) q) (fun t b ws p q=>⟨(fun z=>z.elim p fun z=>by
  subst z;rcases q.1 with(q|⟨o,q⟩)|⟨o,its,m,q,_⟩
  ·rw[n]at q;cases q
  ·rw[n]at q;cases q
  ·rw[k]at q;cases q),q.same (ag.upd n nt)⟩) (fun b _ m q=>(ag.upd n nt).kp b _ q m.nt) ds us h
theorem Rel.Wf{W:Own}{H:Hp}{σ:St}{ρ:Ro}{i:Nat}{a:Addr}{x x':OS}{o o':HO}(r:Rel X W H σ ρ)(eo:ρ[i]?=some (some (.ob x)))(oa:W.O i=some a)(sa:σ[i]?=some (some (.ref a)))(ha:H a=some o)(hm:gS o)(hd:cy X.K W.bad H (W.sub σ.length i) x' o') :
  Rel X W (L2.upd H a o') σ (ρ.set i (some (.ob x')))/\JA W H W (L2.upd H a o'):=by
 have Wg:∀t,W.bad t a:=fun _=>.inr (.inl ⟨i,oa⟩)
 have RQ:∀b ws,JP X.K H b ws->JP X.K (L2.upd H a o') b ws:=fun b ws q=>by show L2.upd _ _ _ _=_;rw[aj (qw q ha (by intro z;subst z;exact hm))];exact q
 have RS:∀t b ws,¬W.bad t b->Lm X.K H t b ws->¬W.bad t b/\Lm X.K (L2.upd H a o') t b ws:=fun t b ws n q=>by
  have MC:b≠a:=fun e=>n (e ▸ Wg t)
  refine⟨n,?_,fun z=>⟨by rw[aj MC];exact(q.2 z).1,(q.2 z).2⟩⟩;rcases q.1 with(q|⟨u,q⟩)|q
  ·exact .inl (.inl (by rw[aj MC];exact q))
  ·exact .inl (.inr ⟨u,by rw[aj MC];exact q⟩)
  ·exact .inr q
 have RT:∀b u,QH u->H b=some u->L2.upd H a o' b=some u:=fun b u n q=>by rw[aj (qw q ha (by intro z;subst z;exact hm.sol n))];exact q
 have RU:i<ρ.length:=(OX.mp eo).1;have il:i<σ.length:=(OX.mp sa).1;have hSb:∀j k b,W.sub σ.length j k=some b->W.sub σ.length j k=some b/\∀us,H b=some (.lst us)->L2.upd H a o' b=some (.lst us):=fun j k b q=>⟨q,fun us z=>by rw[aj (fun e=>sE il (r.inj _ _ a (by rw[<- e];exact q) oa))];exact z⟩
 have tr:∀b u,H b=some u->∃u',L2.upd H a o' b=some u':=fun b u q=>by
  by_cases Ob:b=a
  ·subst Ob;exact⟨_,au⟩
  ·exact⟨u,by rw[aj Ob];exact q⟩
 refine⟨⟨fun j d h=>?_,fun j y h=>?_,r.inj,fun j b hb=>?_,r.ke,fun b hb=>let ⟨u,q⟩:=r.bt b hb;tr b u q,fun b hb=>let ⟨u,q⟩:=r.st b hb;tr b u q,r.ent.ins (r.ke i a oa) ha hm hd.Pf.nt,r.tab.upd hd.Pf.nt (.inr ⟨o,ha,hm.ne,hm.nt⟩)⟩,JA.upd oa ha hm hd.Pf.nt⟩
 ·by_cases hj:j=i
  ·subst hj;rw[Q3 RU]at h;cases h
  ·rw[NP (Ne.symm hj)]at h;obtain⟨w,h1,h2⟩:=r.val j d h;exact⟨w,h1,Den.map RQ RS RT d w h2⟩
 ·by_cases hj:j=i
  ·subst hj;rw[Q3 RU]at h;cases h;exact⟨a,o',oa,sa,au,hd.map (af.map RQ RS RT) (hSb _)⟩
  ·rw[NP (Ne.symm hj)]at h;obtain⟨b,ws,h1,h2,h3,h4⟩:=r.own j y h;have MC:b≠a:=fun e=>hj (r.inj j i a (by rw[<- e];exact h1) oa)
   exact⟨b,ws,h1,h2,by rw[aj MC];exact h3,h4.map (af.map RQ RS RT) (hSb _)⟩
 ·obtain⟨k1,k2,ws,k3,k4⟩:=r.kn j b hb;refine⟨k1,k2,?_⟩;by_cases Ob:b=a
  ·subst Ob;exact⟨_,au,hd.Pf⟩
  ·exact⟨ws,by rw[aj Ob];exact k3,k4⟩
theorem Rel.Pf{W:Own}{H:Hp}{σ:St}{ρ:Ro}{i:Nat}{a:Addr}{ds Mf:yas}{vs vs':yar}(r:Rel X W H σ ρ)(eo:ρ[i]?=some (some (.own ds)))(oa:W.O i=some a)(sa:σ[i]?=some (some (.ref a)))(ha:H a=some (.lst vs))(hd:af X.K W.bad H Mf vs') :
  Rel X W (L2.upd H a (.lst vs')) σ (ρ.set i (some (.own Mf)))/\JA W H W (L2.upd H a (.lst vs')):=r.Wf eo oa sa ha True.intro (.lst hd)
variable{es:yai}{t:DA}
def B5(i:Nat)(t:DA):DS:=fun E ρ=>t ρ fun ds=>ds.length<=sizeLine/\E.nx (ρ.set i (some (.own ds)))
theorem wA{x:Str}{pos' RV:Pos}(i:Nat)(hN:X.N.Nodup)(h:MF X es t)(hi:X.N[i]?=some x:=by rfl)(hx:Loc X.env.scope x:=by first|exact Or.inl rfl|exact Or.inr rfl)
  (hs:swapsWith (.List es RV) (some (.Name x pos')) pos.line X.env=pure false:=by rfl) (hf:X.fn x=true∨X.env.scope.names.lookup x=some .local:=by first|exact .inl rfl|exact .inr rfl|assumption) :
  Nd X (.Assign [.Name x pos'] (.List es RV) pos) (B5 i t):=by
 intro pins s σ H W ρ E I r hq;refine S5 (wpAny_List_spliced (GU (h RV pins s σ H W ρ _ I r hq) fun us s1 ⟨vs,H1,ds,I1,rv,e1,hd,z,q⟩=>?_)) hs;rw[<- hd.len]at z;refine⟨by rw[<- rv.length];exact z,?_⟩;have Wh:H1 s1.heap.objs.size=none:=I1.IZ.fresh (Ka _);have I2:=I1.laid (o:=.lst vs) (t':=s1.toks) (fun b u e=>KU _ e) (Ka _) ⟨z,us,0,rv,Mv _ rfl⟩;have rp:=(r.same e1).QM (Inv.QJ I1 hi) (ag.upd (o:=.lst vs) Wh) Wh (Inv.KZ I1) au (af.apart Wh (Inv.KZ I1) hd);exact c7 (v:=.ref s1.heap.objs.size) I2 hN hi hx rfl (fun s2 I3=>⟨_,_,_,I3,(JA.same e1).trans rp.2,_,rp.1,q⟩) hf
def tJ(i:Nat)(te:DE):DS:=fun E ρ=>hZ ρ[i]? fun ds=>te ρ fun d=>ds.length<sizeLine/\E.nx (ρ.set i (some (.own (ds++[d]))))
theorem wz{x:Str}{e:Expr}{te:DE}{px apos cpos:Pos}(i:Nat)(he:Hs X e te)(hi:X.N[i]?=some x:=by rfl)(hv:RB X.env.scope x:=by first|exact Or.inl rfl|exact Or.inr (Or.inl rfl)|exact Or.inr (Or.inr rfl))
  (hd:(x==("__debug__" : Str))=false:=by decide) (LX:(x==("__classdict__" : Str))=false:=by decide)
  (Kf:attributeBase (.Name x px) "append" X.env (eval (.Name x px) X.env)=eval (.Name x px) X.env:=by rfl)
  (Me:((backTo cpos (starEach [e] X.env)).all (fun x=>!x.1) && (backToKw cpos (keywordEach [] X.env)).all (fun x=>x.1.isSome) && decide ([e].length+([]:List Keyword).length+(if([]:List Keyword).isEmpty then 0 else 1)<30))=true:=by rfl)
  (Kg:(apos.endLine==cpos.line)=true:=by rfl) (KN:starEach [e] X.env=(false,eval e X.env)::starEach [] X.env:=by rfl) (MO:(backTo cpos (starEach [] X.env)).any (·.1)=false:=by rfl)
  (hs:swapsWith (.Call (.Attribute (.Name x px) "append" apos) [e] [] cpos) none pos.line X.env=pure false:=by rfl) :
  Nd X (.Expr (.Call (.Attribute (.Name x px) "append" apos) [e] [] cpos) pos) (tJ i te):=by
 have P0:=oJ (pos:=pos) (Fn PySem.F.plainAttrs_list PySem.F.slot_list_append PySem.F.type_list_append pP (kG hi hv hd LX) (aZ he.pe bA KN) Kf Me Kg KN MO) hs;refine Nd.of P0 fun σ H W ρ E r hl h=>?_
 obtain⟨ds,eo,h⟩:=um h;obtain⟨a,vs,oa,sa,ha,JS⟩:=r.Px i ds eo;refine⟨.ref a,sa,.inl ⟨rfl,_,SqL.of ha⟩,W,ρ,_,r,h,fun v H' d e1 OY q=>?_⟩;obtain⟨z,q⟩:=q;have Pg:=e1 _ _ ha;have r':=r.same e1;have QN:=JS.same e1;refine⟨a,vs,v,rfl,rfl,Pg,by rw[QN.len];exact z,?_⟩;obtain⟨r2,f2⟩:=r'.Pf (vs':=vs++[v]) eo oa sa Pg (QN.append (af.one OY));exact⟨W,_,(JA.same e1).trans f2,r2,q⟩
theorem Rel.freeze{X:Cx}{W:Own}{H:Hp}{σ:St}{ρ:Ro}{i:Nat}{ds:yas}(r:Rel X W H σ ρ)(e:ρ[i]?=some (some (.own ds))):Rel X (W.drop i) H σ (ρ.set i (some (.val (.lst true ds)))):=by
 obtain⟨a,vs,oa,sa,ha,JS⟩:=r.Px i ds e;have il:i<σ.length:=(OX.mp sa).1;have RU:i<ρ.length:=(OX.mp e).1;have nb:¬(W.drop i).bad true a:=fun z=>by
  rcases z with z|⟨j,z⟩| ⟨_,z⟩
  rotate_right
  ·exact(r.kn i a oa).2.1.2 z
  ·exact(r.kn i a oa).2.1.1 z
  ·have z':(if j=i then none else W.O j)=some a:=z;by_cases ej:j=i
   ·rw[G4 ej]at z';cases z'
   ·rw[GS ej]at z';exact ej (r.inj j i a z' oa)
 have hd:Den X.K (W.drop i).bad H (.lst true ds) (.ref a):=Den.lst nb (.new ha (r.kn i a oa).1) (JS.HF fun _ _=>Own.JQ);refine⟨fun j x h=>?_,fun j x h=>?_,fun j k b h1 h2=>?_,fun j b h1=>?_,fun j b h1=>?_,r.bt,r.st,r.ent,r.tab⟩
 ·by_cases hj:j=i
  ·subst hj;rw[Q3 RU]at h;cases h;exact⟨.ref a,sa,hd⟩
  ·rw[NP (Ne.symm hj)]at h;obtain⟨w,h1,h2⟩:=r.val j x h;exact⟨w,h1,h2.HF fun _ _=>Own.JQ⟩
 ·by_cases hj:j=i
  ·subst hj;rw[Q3 RU]at h;cases h
  ·rw[NP (Ne.symm hj)]at h;obtain⟨b,ws,h1,h2,h3,h4⟩:=r.own j x h;exact⟨b,ws,by show(if j=i then none else W.O j)=_;rw[GS hj];exact h1,h2,h3,h4.HF (fun _ _=>Own.JQ) (Own.MS il)⟩
 ·have Lq:(if j=i then none else W.O j)=some b:=h1;have N9:(if k=i then none else W.O k)=some b:=h2;by_cases e1:j=i
  ·rw[G4 e1]at Lq;cases Lq
  ·by_cases e2:k=i
   ·rw[G4 e2]at N9;cases N9
   ·rw[GS e1]at Lq;rw[GS e2]at N9;exact r.inj j k b Lq N9
 ·have Lq:(if j=i then none else W.O j)=some b:=h1;by_cases e1:j=i
  ·rw[G4 e1]at Lq;cases Lq
  ·rw[GS e1]at Lq;exact r.kn j b Lq
 ·have Lq:(if j=i then none else W.O j)=some b:=h1;by_cases e1:j=i
  ·rw[G4 e1]at Lq;cases Lq
  ·rw[GS e1]at Lq;exact r.ke j b Lq
def tK(i:Nat)(t:DS):DS:=fun E ρ=>hZ ρ[i]? fun ds=>t E (ρ.set i (some (.val (.lst true ds))))
theorem mK{U9:yal}{t:DS}(i:Nat)(h:cz X U9 t):cz X U9 (tK i t):=by intro pins s σ H W ρ E I r hq;obtain⟨ds,e,hq⟩:=um hq;exact GU (h pins s σ H (W.drop i) _ E I (r.freeze e) hq) fun _ _ z=>z.up (JA.drop W H i)
end
def cB(env:Env)(ns:yah):List (Str×Addr):=ns.filterMap fun n=>(env.cells.lookup n).map fun c=>(n,c)
theorem jv{env:Env}:∀{ns:yah} {x:Str} {c:Addr},(cB env ns).lookup x=some c->env.cells.lookup x=some c
 |[],_,_,h=>by cases h
 |n::r,x,c,h=>by
  unfold cB at h;rw[S3]at h;cases e:env.cells.lookup n with
  |none =>
   rw[e]at h;exact jv (ns:=r) h
  |some c' =>
   rw[e]at h;have h':List.lookup x ((n,c')::cB env r)=some c:=h;rw[M8]at h';cases q:x==n with
   |true =>
    rw[q]at h';have ex:x=n:=by simpa using q
    subst ex;rw[e];exact h'
   |false =>
    rw[q]at h';exact jv (ns:=r) h'
theorem lR{env:Env}:∀{ns:yah} {x:Str} {c:Addr},x∈ns->env.cells.lookup x=some c->(cB env ns).lookup x=some c
 |[],_,_,h,_=>by cases h
 |n::r,x,c,h,e=>by
  unfold cB;rw[S3];by_cases ex:x=n
  ·subst ex;rw[e];show List.lookup x ((x,c)::_)=some c;simp[M8]
  ·have h':x∈r:=by
    rcases L0.mp h with z|z
    ·exact absurd z ex
    ·exact z
   have ih:=lR (ns:=r) h' e;cases q:env.cells.lookup n with
   |none=>exact ih
   |some c' =>
    show List.lookup x ((n,c')::cB env r)=some c;rw[M8];have:(x==n)=false:=by simpa using ex
    rw[this];exact ih
structure PJ(osc sc:Scope)(xs ns:yah):Prop where
 kind:sc.kind=.function
 PK:∀y∈sc.names,y.2 ≠ .cell
 names:∀y∈sc.names,y.2=.local->sc.names.lookup y.1=some .local
 Wi:∀x∈xs,sc.names.lookup x=some .local
 free:∀y∈sc.names,y.2=.free->y.1∈ns/\osc.names.lookup y.1=some .cell
 cells:∀n∈ns,sc.names.lookup n=some .free/\osc.names.lookup n=some .cell
 nd:(xs++ns).Nodup
def aN(X:Cx)(sc:Scope)(ns xs:yah)(C:Addr)(GY:Shared)(Hn:Hp)(fp:yae)(XE:yaa):Cx :=
 {X with N:=xs++ns,IA:=GY,H₀:=Hn,env:=compEnvC sc (cB X.env ns) C X.env,outer:=X.stack,stack:=X.stack,ex:=fp,fn:=fun _=>false,pn:=[],xe:=XE}
theorem jl{env:Env}(hk:env.scope.kind=.function):∀{names:List (Str×NameKind)} {n:Str},names.lookup n=some .free->env.kindOf n=some .cell →
  (names.map fun(n,k)=>if(k==NameKind.free && env.scope.kind==.function && env.kindOf n==some .cell)then(n,NameKind.cell)else(n,k)).lookup n=some .cell
 |[],_,h,_=>by simp at h
 |(m,k)::r,n,h,hc=>by
  have ih:=@jl env hk r n;show List.lookup n ((if(k==NameKind.free && env.scope.kind==.function && env.kindOf m==some .cell)=true then(m,NameKind.cell)else(m,k))::_)=_;cases hx:n==m with
  |true =>
   simp only[M8,hx]at h;cases h;have e:n=m:=by simpa using hx
   subst e;rw[hk,hc];simp[M8]
  |false =>
   simp only[M8,hx]at h;by_cases Pd:(k==NameKind.free && env.scope.kind==.function && env.kindOf m==some .cell)=true
   ·rw[G4 Pd];simp only[M8,hx];exact ih h hc
   ·rw[GS Pd];simp only[M8,hx];exact ih h hc
theorem iO{env:Env}:∀{names:List (Str×NameKind)} {n:Str} {k:NameKind},
  (names.map fun(n,k)=>if(k==NameKind.free && env.scope.kind==.function && env.kindOf n==some .cell)then(n,NameKind.cell)else(n,k)).lookup n=some k->(k=.cell∨k=.free) →
  (∃y∈names,y.1=n/\y.2=.free)∨∃ y∈names,y.1=n/\y.2=.cell
 |[],_,_,h,_=>by simp at h
 |(m,j)::r,n,k,h,hk=>by
  have h':List.lookup n ((if(j==NameKind.free && env.scope.kind==.function && env.kindOf m==some .cell)=true then(m,NameKind.cell)else(m,j))::(r.map fun(n,k)=>if(k==NameKind.free && env.scope.kind==.function && env.kindOf n==some .cell)then(n,NameKind.cell)else(n,k)))=some k:=h;have up:((∃y∈r,y.1=n/\y.2=.free)∨∃ y∈r,y.1=n/\y.2=.cell)->((∃y∈(m,j)::r,y.1=n/\y.2=.free)∨∃ y∈(m,j)::r,y.1=n/\y.2=.cell):=fun z=>by
   rcases z with⟨y,hy,q⟩| ⟨y,hy,q⟩
   ·exact .inl ⟨y,Nu _ hy,q⟩
   ·exact .inr ⟨y,Nu _ hy,q⟩
  cases hx:n==m with
  |true =>
   have e:n=m:=by simpa using hx
   subst e;by_cases Pd:(j==NameKind.free && env.scope.kind==.function && env.kindOf n==some .cell)=true
   ·have:j=.free:=by
     simp only[N6]at Pd;exact beq_iff_eq.mp Pd.1.1
    exact .inl ⟨(n,j),M4,rfl,this⟩
   ·rw[GS Pd]at h';simp only[M8,hx]at h';cases h';rcases hk with hk|hk
    ·exact .inr ⟨(n,j),M4,rfl,hk⟩
    ·exact .inl ⟨(n,j),M4,rfl,hk⟩
  |false =>
   by_cases Pd:(j==NameKind.free && env.scope.kind==.function && env.kindOf m==some .cell)=true
   ·rw[G4 Pd]at h';simp only[M8,hx]at h';exact up (iO h' hk)
   ·rw[GS Pd]at h';simp only[M8,hx]at h';exact up (iO h' hk)
def bh(ρ:Ro)(j:Nat):Option Sl:=match ρ[j]? with
 |some (some (.val d))=>some (.val d)
 |_=>none
def hW(σ:St)(j:Nat):Option V:=match σ[j]? with
 |some (some v)=>some v
 |_=>none
section
variable{X:Cx}{pins:yab}{σ:St}{H:Hp}{s:Shared}{sc:Scope}{ns:yah}{js:yag}{xs:yah}{fp:yae}
theorem Inv.comp{XE:yaa}{Hm:Shared}{PL:Hp}{C:Addr}(I:Inv X pins σ H s)(S:PJ X.env.scope sc xs ns)(hj:js.length=ns.length/\∀(i:Nat) (j:Nat) (n:Str),js[i]?=some j->ns[i]?=some n->X.N[j]?=some n)(OR:∀b∈fp,cP X pins H b)(SD:∀b∈fp,∃o,s.heap.get? b=some o)(hC:s.heap.objs.size<=C)
  (SE:Hm.os=s.os) (hg:AllBare Hm.gens) (hk:∀b o,s.heap.get? b=some o->Hm.heap.get? b=some o) (Ph:Hm.heap.Ns C fun _=>none) (QP:PL C=none) (hs:ag H PL) (TV:∀b o,s.heap.get? b=some o->H b=none->PL b=none) (IZ:Lv X.prog X.w PL Hm.heap) :
  Inv (aN X sc ns xs C s H fp XE) [] (List.replicate xs.length none++js.map (hW σ)) PL Hm:=by
 have kd:X.env.scope.kind=.function:=I.ok.kind;have OM:∀y c,(cB X.env ns).lookup y=some c->X.env.cells.lookup y=some c:=fun y c e=>jv e
 have TY:∀y c,(cB X.env ns).lookup y=some c->∃v,s.heap.IsCell c v:=fun y c e=>I.cell y c (OM y c e)
 refine⟨⟨I.ok.mod,S.kind,I.ok.glob,I.ok.blt,hC,fun y z c h1 h2=>I.ok.inj y z c (OM y c h1) (OM z c h2),fun y hy=>?_,fun y c h _=>(by cases h),I.ok.hd,I.ok.frames,.inl rfl,fun b hb=>?_,I.bs,MH I.ok.Pc I.sz,fun b o e hb=>?_,fun b hb z=>?_,I.stack,I.Ny⟩,
  SE,hg,⟨fun b o e n _ _=>hk b o e,fun b o e n _ _=>⟨o.slots,hk b o e⟩,fun b o e n _=>TV b o e n,fun b o e _=>⟨o,hk b o e⟩,fun b xs e=>hs b _ e,fun b o u e=>hs b _ e,fun b ps e=>hs.tb b ps e⟩,⟨_,Ph,fun i y v h1 h2 h3=>?_⟩,fun y c e=>?_,QP,fun y c e=>?_,fun p hp=>absurd (show p∈([]:yab)from hp) (by simp),IZ,?_⟩
 ·-- every cell of the block is one of the Wj
  have RH:∃k,((relabel sc X.env).names.lookup y=some k)/\(k=.cell∨k=.free):=by
   rcases hy with hy|hy
   ·exact⟨_,hy,.inl rfl⟩
   ·exact⟨_,hy,.inr rfl⟩
  obtain⟨k,h1,h2⟩:=RH;rcases iO (env:=X.env) h1 h2 with⟨z,hz,e1,e2⟩| ⟨z,hz,e1,e2⟩
  ·obtain⟨m1,m2⟩:=S.free z hz e2;subst e1;obtain⟨c,hc⟩:=I.ok.has z.1 (.inl m2);exact⟨c,lR m1 hc⟩
  ·exact absurd e2 (S.PK z hz)
 ·refine⟨fun z=>?_,fun y c e z=>?_⟩
  ·have z':b=C:=z;obtain⟨o,ho⟩:=SD b hb;have Mx:=J9 ho;rw[z']at Mx;exact absurd (LZ Mx hC) (O8 _)
  ·exact(OR b hb).2.2.2.2.1 y c (OM y c e) z
 ·obtain⟨f0,f1,f2,f3,f4,f5⟩:=OR b hb;rcases f3 with f3|f3
  ·exact I.ok.Nx b o e f3
  ·exact absurd (LZ (J9 (I.ok.bs b o e).1) f3) (O8 _)
 ·obtain⟨f0,f1,f2,f3,f4,f5⟩:=OR b hb;rcases L0.mp (I.Mc b z)with e|e
  ·exact f1 e
  ·exact f2 e
 ·by_cases hi:i<xs.length
  ·rw[Rp (by simpa using hi),SO,G4 hi]at h2;cases h2
  ·have Lq:ns[i - xs.length]?=some y:=by
    have h1:(xs++ns)[i]?=some y:=h1;rw[Rn (by omega)]at h1;exact h1
   have N9:(js.map (hW σ))[i - xs.length]?=some (some v):=by rw[Rn (by simpa using hi)]at h2;simpa using h2
   generalize i - xs.length=i at Lq N9;rw[Of]at N9;cases e:js[i]? with
   |none=>rw[e]at N9;cases N9
   |some j =>
    rw[e]at N9;have h4:hW σ j=some v:=Oh N9;have h5:σ[j]?=some (some v):=by
     unfold hW at h4;split at h4
     ·rename_i u q;cases h4;exact q
     ·cases h4
    have hN:=hj.2 i j y e Lq;have mem:y∈ns:=Rq Lq;obtain⟨c1,c2⟩:=S.cells y mem;obtain⟨m,hm,hl⟩:=I.loc;obtain⟨u,ru,lk⟩:=hl j y v hN h5 (.inr (.inl c2));refine⟨u,ru,?_⟩;rcases lk with⟨k1,_⟩| ⟨_,c,e1,o,ho,hd⟩
    ·have NG:X.env.scope.names.lookup y=some .local:=k1;rw[c2]at NG;cases NG
    ·exact .inr ⟨.inl (jl kd c1 c2),c,lR mem e1,o,hk c o ho,hd⟩
 ·obtain⟨v,z⟩:=TY y c e;obtain⟨o,ho,hd⟩:=z;exact⟨v,o,hk c o ho,hd⟩
 ·obtain⟨v,o,ho,hd⟩:=TY y c e;exact TV c o ho (I.JK y c (OM y c e))
 ·show(List.replicate xs.length none++js.map (hW σ)).length=(xs++ns).length;simp[hj.1]
def PN(X:Cx)(ifs:yai)(t:DT):Prop :=
 ∀ (pins:yab) (s:Shared) (σ:St) (H:Hp) (W:Own) (ρ:Ro) (Q:Bool->Prop),Inv X pins σ H s->Rel X W H σ ρ->t ρ Q →
  wpAny (model X.prog X.w) X.A (forIn ifs true fun c r=>if r=true then do let ok←isTrue c X.env (eval c X.env);pure (ForInStep.yield ok)else pure (ForInStep.yield r)) (V9 X pins σ H Q) X.xe s
def qN:DT:=fun _ Q=>Q true
theorem fi{X:Cx}:PN X [] qN:=fun _ s σ H W ρ Q I r h=>wpAny_tests_nil ⟨H,I,ag.refl H,h⟩
theorem Ee{X:Cx}{c:Expr}{t:DT}(h:N8 X c t):PN X [c] t:=fun pins s σ H W ρ Q I r q=>wpAny_tests_one (h pins s σ H W ρ Q I r q)
def gP(n:Nat)(Nf ρ:Ro):Prop:=∃r0:Ro,r0.length=n/\ρ=r0++Nf
theorem vV{prog:Program}{w:World}{A:Around}{s:Shared}{R:Result->Shared->Prop}{elt target iter:Expr}{ifs:yai}{scope:Scope}{pos:Pos}{it acc:Value}{env:Env}(I:Nat->Shared->Prop)
  (turn:∀n s,I n s->wpAny (model prog w) A (pyNext it) (fun r Hm=>match r with
   |none=>R (.ok .next) Hm
   |some v=>wpAny (model prog w) A (letOwnedTupleGo target it v) (fun _ Wk=>wpAny (model prog w) A (assign target env v) (fun _ GY =>
     wpAny (model prog w) A (forIn ifs true fun c r=>if r=true then do let ok←isTrue c env (eval c env);pure (ForInStep.yield ok)else pure (ForInStep.yield r)) (fun ok Lw=>if ok=true then wpAny (model prog w) A (eval elt env) (fun x PQ =>
       wpAny (model prog w) A (call (.builtin "list.append") [acc,x]) (fun _ Wl=>∃m,m<n/\I m Wl) (notedBy (model prog w) A env fun e z=>R (.error e) z) PQ) (notedBy (model prog w) A env fun e z=>R (.error e) z) Lw
      else∃m,m<n/\I m Lw) (notedBy (model prog w) A env fun e z=>R (.error e) z) GY) (notedBy (model prog w) A env fun e z=>R (.error e) z) Wk) (notedBy (model prog w) A env fun e z=>R (.error e) z) Hm) (notedBy (model prog w) A env fun e z=>R (.error e) z) s)
  (n:Nat) (h:I n s):codeAny (model prog w) A (.compLoop (.ListComp elt [⟨target,iter,ifs,0⟩] scope pos) 0 it acc env) R s:=by
 refine codeAny_loop rfl I (fun m z hI=>?_) n h;show wpAny _ A ((compTurn (.ListComp elt [⟨target,iter,ifs,0⟩] scope pos) 0 it acc env).onRaise (fun e=>do noteFrame e env;theTreesLotGoes e)) _ _ z;refine wpAny_noted ?_;rw[compTurn_list];refine G0 (Ry (G0 (L3 (turn m z hI) (fun r z1 g1=>?_) fun _ _ q=>q)));cases r with
 |none=>exact JR g1
 |some v =>
  refine G0 (L3 g1 (fun _ z2 g2=>?_) fun _ _ q=>q);refine G0 (L3 g2 (fun _ z3 g3=>G0 (L3 g3 (fun ok z4 g4=>?_) fun _ _ q=>q)) fun _ _ q=>q);cases ok with
  |false=>exact JR ⟨rfl,g4⟩
  |true=>exact G0 (G0 (L3 g4 (fun y z5 g5=>G0 (L3 g5 (fun _ z6 g6=>JR (JR ⟨rfl,g6⟩)) fun _ _ q=>q)) fun _ _ q=>q))
theorem Rel.Wm{X:Cx}{W:Own}{H:Hp}{σ:St}{ρ:Ro}{a:Addr}{vs vs':yar}(r:Rel X W H σ ρ)(hB:W.B a)(ha:H a=some (.lst vs))(h0:X.H₀ a=none) :
  Rel X W (L2.upd H a (.lst vs')) σ ρ/\∀ds us,af X.K W.bad H ds us->af X.K W.bad (L2.upd H a (.lst vs')) ds us:=by
 have RQ:∀b ws,JP X.K H b ws->JP X.K (L2.upd H a (.lst vs')) b ws:=fun b ws q=>by show L2.upd _ _ _ _=_;rw[aj (qw q ha (by intro z;cases z))];exact q
 have RS:∀t b ws,¬W.bad t b->Lm X.K H t b ws->¬W.bad t b/\Lm X.K (L2.upd H a (.lst vs')) t b ws:=fun t b ws n q=>by
  have MC:b≠a:=fun e=>n (.inl (e ▸ hB))
  refine⟨n,?_,fun z=>⟨by rw[aj MC];exact(q.2 z).1,(q.2 z).2⟩⟩;rcases q.1 with(q|⟨o,q⟩)|q
  ·exact .inl (.inl (by rw[aj MC];exact q))
  ·exact .inl (.inr ⟨o,by rw[aj MC];exact q⟩)
  ·exact .inr q
 have RT:∀b u,QH u->H b=some u->L2.upd H a (.lst vs') b=some u:=fun b u n q=>by rw[aj (qw q ha (by intro z;subst z;exact n))];exact q
 have tr:∀b o,H b=some o->∃o',L2.upd H a (.lst vs') b=some o':=fun b o q=>by
  by_cases Ob:b=a
  ·subst Ob;exact⟨_,au⟩
  ·exact⟨o,by rw[aj Ob];exact q⟩
 refine⟨⟨fun j d h=>?_,fun j y h=>?_,r.inj,fun j b hb=>?_,r.ke,fun b hb=>let ⟨o,q⟩:=r.bt b hb;tr b o q,fun b hb=>let ⟨o,q⟩:=r.st b hb;tr b o q,r.ent.ins h0 ha True.intro True.intro,r.tab.upd True.intro (.inr ⟨_,ha,(fun _ z=>by cases z),True.intro⟩)⟩,af.map RQ RS RT⟩
 ·obtain⟨v,h1,h2⟩:=r.val j d h;exact⟨v,h1,Den.map RQ RS RT d v h2⟩
 ·obtain⟨b,o,h1,h2,h3,h4⟩:=r.own j y h;exact⟨b,o,h1,h2,by rw[aj (fun e=>(r.kn j b h1).2.1.1 (by rw[e];exact hB))];exact h3,h4.map (af.map RQ RS RT) fun k c q=>⟨q,fun us z=>by rw[aj (fun e=>(r.kn _ c q).2.1.1 (by rw[e];exact hB))];exact z⟩⟩
 ·obtain⟨k1,k2,o,k3,k4⟩:=r.kn j b hb;exact⟨k1,k2,o,by rw[aj (fun e=>k2.1 (by rw[e];exact hB))];exact k3,k4⟩
def qy(X:Cx)(sc:Scope)(ns:yah)(RR:Value->Addr->Result->Shared->Prop)(D C:Addr):yaa:=notedBy (model X.prog X.w) X.A (compEnvC sc (cB X.env ns) C X.env) fun e RG=>RR (.ref D) C (.error e) RG
theorem bF.no{X:Cx}:bF X fun _=>False:=fun _ _ _ _ _ _ _ _ _ _ h=>by obtain⟨_,_,_,_,_,_,_,_,_,_,_,_,_,z⟩:=h;exact z.elim
end
abbrev DM:=Ro->(LI->Prop)->Prop
def FF(K:yac)(P:yak)(H H':Hp):LI->V->Prop
 |.own ds,v=>∃a vs,v=.ref a/\H a=none/\K.lookup a=none/\H' a=some (.lst vs)/\af K (fun t b=>P t b∨b=a) H' ds vs
 |.val d,v=>Den K P H' d v
inductive MDP (X:Cx) (pins:yab) (σ:St) (W:Own) (H:Hp) (Q:LI->Prop) (u:Value) (s':Shared):Prop
 |mk (v:V) (H':Hp) (li:LI) (_:Inv X pins σ H' s') (_:RelV v u) (_:ag H H') (_:FF X.K W.bad H H' li v) (_:Q li)
def Wn(X:Cx)(e:Expr)(t:DM):Prop :=
 ∀ (pins:yab) (s:Shared) (σ:St) (H:Hp) (W:Own) (ρ:Ro) (Q:LI->Prop),Inv X pins σ H s->Rel X W H σ ρ->t ρ Q →
  wpAny (model X.prog X.w) X.A (eval e X.env) (MDP X pins σ W H Q) X.xe s
structure fk(K:yac)(H:Hp)(D:Addr)(n:Nat)(bs:yaj):Prop where
 ok:∀k b,bs k=some b->k<n/\H b=none/\K.lookup b=none/\b≠D
 inj:∀k l b,bs k=some b->bs l=some b->k=l
theorem fk.nil{K:yac}{H:Hp}{D:Addr}{n:Nat}:fk K H D n fun _=>none:=⟨fun _ _ h=>(by cases h),fun _ _ _ h=>(by cases h)⟩
theorem fk.up{K:yac}{H:Hp}{D:Addr}{n m:Nat}{bs:yaj}(h:fk K H D n bs)(l:n<=m):fk K H D m bs:=⟨fun k b q=>let ⟨a,r⟩:=h.ok k b q;⟨LZ a l,r⟩,h.inj⟩
theorem fk.put{K:yac}{H:Hp}{D a:Addr}{out:List LI}{x:LI}{bs:yaj}(h:fk K H D out.length bs)(n:H a=none)(k:K.lookup a=none)(nd:a≠D)(new:∀k,bs k=some a->False) :
  fk K H D (out++[x]).length fun k=>if k=out.length then some a else bs k:=⟨fun l b q=>by
  rw[Mw,List.length_singleton];by_cases e:l=out.length
  ·rw[G4 e]at q;cases q;exact⟨by omega,n,k,nd⟩
  ·rw[GS e]at q;obtain⟨a1,a2⟩:=h.ok l b q;exact⟨by omega,a2⟩,fun l m b q1 q2=>by
  by_cases e1:l=out.length
  ·by_cases e2:m=out.length
   ·rw[e1,e2]
   ·rw[G4 e1]at q1;rw[GS e2]at q2;cases q1;exact(new m q2).elim
  ·by_cases e2:m=out.length
   ·rw[GS e1]at q1;rw[G4 e2]at q2;cases q2;exact(new l q1).elim
   ·rw[GS e1]at q1;rw[GS e2]at q2;exact h.inj l m b q1 q2⟩
section
variable{K:yac}{P:yak}{H:Hp}{B:yaj}
theorem aE.MU{d:D}{v:V}(h1:Den K P H d v):∀{k:Nat} {xs:List LI} {vs:yar},aE K P H B k xs vs->aE K P H B k (xs++[.val d]) (vs++[v])
 |k,[],_,h=>by simp only[aE]at h;subst h;simp only[List.nil_append,aE];exact⟨v,[],rfl,h1,rfl⟩
 |k,.own ds::r,_,h=>by simp only[aE]at h;obtain⟨b,us,u,rfl,q1,q2,q3,q4⟩:=h;simp only[Rt,aE];exact⟨b,us,_,rfl,q1,q2,q3,aE.MU h1 q4⟩
 |k,.val e::r,_,h=>by simp only[aE]at h;obtain⟨w,u,rfl,q1,q2⟩:=h;simp only[Rt,aE];exact⟨w,_,rfl,q1,aE.MU h1 q2⟩
theorem aE.MV{ds:yas}{a:Addr}{ws:yar}:∀{k:Nat} {xs:List LI} {vs:yar},aE K P H B k xs vs->B (k+xs.length)=some a->H a=some (.lst ws)->af K P H ds ws->aE K P H B k (xs++[.own ds]) (vs++[.ref a])
 |k,[],_,h,hb,ha,hd=>by simp only[aE]at h;subst h;simp only[List.nil_append,aE];exact⟨a,ws,[],rfl,by simpa using hb,ha,hd,rfl⟩
 |k,.own es::r,_,h,hb,ha,hd=>by simp only[aE]at h;obtain⟨b,us,u,rfl,q1,q2,q3,q4⟩:=h;simp only[Rt,aE];exact⟨b,us,_,rfl,q1,q2,q3,aE.MV q4 (by rw[<- hb];congr 1;simp;omega) ha hd⟩
 |k,.val e::r,_,h,hb,ha,hd=>by simp only[aE]at h;obtain⟨w,u,rfl,q1,q2⟩:=h;simp only[Rt,aE];exact⟨w,_,rfl,q1,aE.MV q2 (by rw[<- hb];congr 1;simp;omega) ha hd⟩
end
section
variable{X:Cx}
theorem Rel.ban{W:Own}{H H':Hp}{σ:St}{ρ:Ro}{p:Addr}{o:HO}(r:Rel X W H σ ρ)(sm:ag H H')(hp:H p=none)(hk:X.K.lookup p=none)(h':H' p=some o) :
  Rel X ⟨fun b=>W.B b∨b=p,W.O,W.S⟩ H' σ ρ/\∀ds vs,af X.K W.bad H ds vs->af X.K (Own.bad ⟨fun b=>W.B b∨b=p,W.O,W.S⟩) H' ds vs:=by
 have NF:∀t a,Own.bad ⟨fun b=>W.B b∨b=p,W.O,W.S⟩ t a->W.bad t a∨a=p:=fun t a z=>by
  rcases z with(z|z)|z|z
  ·exact .inl (.inl z)
  ·exact .inr z
  ·exact .inl (.inr (.inl z))
  ·exact .inl (.inr (.inr z))
 have nb:∀{t:Bool} {a:Addr} {ws:yar},Lm X.K H t a ws->a≠p:=fun {t a ws} q z=>by
  subst z;rcases q.1 with(q|⟨o,q⟩)|⟨o,its,n,q,_⟩
  ·rw[hp]at q;cases q
  ·rw[hp]at q;cases q
  ·rw[hk]at q;cases q
 have up:∀(d:D) (v:V),Den X.K W.bad H d v->Den X.K (Own.bad ⟨fun b=>W.B b∨b=p,W.O,W.S⟩) H' d v:=Den.map (fun _ _ q=>JP.same sm q) (fun t a ws n q=>⟨fun z=>(NF t a z).elim n (nb q),q.same sm⟩) (fun a _ n q=>sm.kp a _ q n.nt);have ups:∀(ds:yas) (vs':yar),af X.K W.bad H ds vs'->af X.K (Own.bad ⟨fun b=>W.B b∨b=p,W.O,W.S⟩) H' ds vs':=af.map (fun _ _ q=>JP.same sm q) (fun t a ws n q=>⟨fun z=>(NF t a z).elim n (nb q),q.same sm⟩) (fun a _ n q=>sm.kp a _ q n.nt);refine⟨⟨fun j d h=>?_,fun j x h=>?_,r.inj,fun j a h1=>?_,r.ke,fun a h=>?_,fun a h=>let ⟨_,q⟩:=r.st a h;sm.ex q,r.ent.trans sm,r.tab.same sm⟩,ups⟩
 ·obtain⟨w,h1,h2⟩:=r.val j d h;exact⟨w,h1,up d w h2⟩
 ·obtain⟨a,ws,h1,h2,h3,h4⟩:=r.own j x h;exact⟨a,ws,h1,h2,sm.kp _ _ h3 h4.Pf.nt,h4.map ups fun l b q=>⟨q,fun _ z=>sm _ _ z⟩⟩
 ·obtain⟨a1,⟨n1,n2⟩,ws,a3,a4⟩:=r.kn j a h1;exact⟨a1,⟨fun z=>z.elim n1 fun e=>(by subst e;rw[hp]at a3;cases a3),n2⟩,ws,sm.kp _ _ a3 a4.nt,a4⟩
 ·rcases h with h|h
  ·obtain⟨_,q⟩:=r.bt a h;exact sm.ex q
  ·exact⟨o,h ▸ h'⟩
end
section
variable{X:Cx}{pins:yab}{σ:St}{H:Hp}{s:Shared}{sc:Scope}{ns:yah}{js:yag}{xs:yah}{fp:yae}
def O1(X:Cx)(sc:Scope)(ns xs:yah)(cl:List (Str×Addr))(fn:Str->Bool)(C:Addr)(GY:Shared)(Hn:Hp)(fp:yae)(XE:yaa):Cx :=
 {X with N:=xs++ns,IA:=GY,H₀:=Hn,env:=compEnvC sc cl C X.env,outer:=X.stack,stack:=X.stack,ex:=fp,fn:=fn,pn:=[],xe:=XE}
def dq(X:Cx)(sc:Scope)(cl:List (Str×Addr))(RR:Value->Addr->Result->Shared->Prop)(D C:Addr):yaa:=notedBy (model X.prog X.w) X.A (compEnvC sc cl C X.env) fun e RG=>RR (.ref D) C (.error e) RG
inductive CLI (K:yac) (Y:Cx) (H:Hp) (fp:yae) (Ad:Addr) (ds:yas) (W':Own) (tn:Nat->Heap->Prop) (m:Nat) (cp:Ro) (Pv:Nat->List LI->Prop) (n:Nat) (s':Shared):Prop
 |mk (i:Nat) (W2:Own) (OP:St) (KR:Ro) (H':Hp) (out:List LI) (vs:yar) (bs:yaj) (_:n=ds.length - i) (_:i<=ds.length) (_:Inv Y [] OP H' s') (_:tn i s'.heap) (_:∀b∈fp,H' b=none) (_:H' Ad=some (.lst vs)) (_:W2.B=(fun a=>W'.B a∨∃ k,bs k=some a)/\W2.S=W'.S) (_:fk K H Ad out.length bs) (_:∀k b,bs k=some b->∃us,H' b=some (.lst us)) (_:aE K W2.bad H' bs 0 out vs) (_:ag H H') (_:Rel Y W2 H' OP KR) (_:gP m cp KR) (_:Pv i out) (_:out.length<=i)
theorem vX{elt iter tg:Expr}{ifs:yai}{pos:Pos}{g:DG}{te:DM}{tc:DT}{W:Own}{ρ:Ro}{J:It}{it:Addr}{tn:Nat->Heap->Prop}{ds:yas}{RR:Value->Addr->Result->Shared->Prop}{cl:List (Str×Addr)}{fn:Str->Bool}{Ad C:Addr}{Lp:Heap}(hc:X.calm=true)
  (he:Wn (O1 X sc ns xs cl fn C s H fp (dq X sc cl RR Ad C)) elt te) (ht:PN (O1 X sc ns xs cl fn C s H fp (dq X sc cl RR Ad C)) ifs tc) (hg:Ql (O1 X sc ns xs cl fn C s H fp (dq X sc cl RR Ad C)) tg g) (I:Inv X pins σ H s) (r:Rel X W H σ ρ) (T:Turn X.prog X.w X.K tg J fp it tn) (st:tn 0 s.heap) (OR:∀b∈fp,cP X pins H b) (yd:YD X.K W H J ds) (hz:ds.length<=sizeLine)
  (Pv:Nat->List LI->Prop) (p0:Pv 0 []) (step:∀j d out LY,ds[j]?=some d->Pv j out->gP xs.length (js.map (bh ρ)) LY->g d LY fun KR=>gP xs.length (js.map (bh ρ)) KR/\tc KR fun b=>if b=true then te KR (fun e=>Pv (j+1) (out++[e]))else Pv (j+1) out)
  (T4:∀(s':Shared) (H':Hp) (m':yam) (out:List LI) (bs:yaj),Inv X pins σ H' s'->ag H H'->s'.heap.Ns C m'->H' C=none->C≠X.env.locals->X.IA.heap.objs.size<=C->(∀y c,X.env.cells.lookup y=some c->c≠C)->(∀p∈X.pn++pins,p.1≠C) →
   (H Ad=none/\X.K.lookup Ad=none/\∃vs,H' Ad=some (.lst vs)/\fk X.K H Ad out.length bs/\(∀k b,bs k=some b->∃us,H' b=some (.lst us))/\aE X.K (fun t b=>W.bad t b∨b=Ad∨∃ k,bs k=some b) H' bs 0 out vs)->Pv ds.length out->RR (.ref Ad) C (.ok .next) s')
  (Qn:H Ad=none) (Vi:X.K.lookup Ad=none) (T5:s.heap.objs.size<=Ad) (NH:s.heap.objs.size<=C) (old:∀b o,s.heap.get? b=some o->Lp.get? b=some o) (hcl:∀y c,cl.lookup y=some c->X.env.cells.lookup y=some c∨s.heap.objs.size<=c)
  (I1:Inv (O1 X sc ns xs cl fn C s H fp (dq X sc cl RR Ad C)) [] (List.replicate xs.length none++js.map (hW σ)) (L2.upd H Ad (.lst [])) {s with heap:=Lp,toks:=s.toks+([]:List (Str×Value)).length}) :
  codeAny (model X.prog X.w) X.A (.compStart (.ListComp elt [⟨tg,iter,ifs,0⟩] sc pos) 0 (.ref it) (.ref Ad) (compEnvC sc cl C X.env)) (RR (.ref Ad) C) {s with heap:=Lp,toks:=s.toks+([]:List (Str×Value)).length}:=by
 have SD:∀b∈fp,∃o,s.heap.get? b=some o:=fun b hb=>let ⟨o,e,_⟩:=T.obj 0 s.heap st b hb;⟨o,e⟩
 have nl:∀{a:Addr} {ws:yar},SqL X.K H a ws->a≠Ad:=fun {a ws} q z=>by
  subst z;rcases q with(q|⟨o,q⟩)|⟨o,its,n,q,_⟩
  ·rw[Qn]at q;cases q
  ·rw[Qn]at q;cases q
  ·rw[Vi]at q;cases q
 let W':Own:=⟨fun a=>W.bad false a∨a=Ad,fun _=>none,W.S⟩
 have NF:∀t a,W'.bad t a↔(W.bad t a∨a=Ad):=fun t a=>⟨fun z=>by
  rcases z with(z|z)|⟨_,q⟩| ⟨z1,z2⟩
  ·exact .inl (Own.Ov z)
  ·exact .inr z
  ·cases q
  ·exact .inl (.inr (.inr ⟨z1,z2⟩)),fun z=>by
  rcases z with z|z
  ·rcases z with z|z|z
   ·exact .inl (.inl (.inl z))
   ·exact .inl (.inl (.inr (.inl z)))
   ·exact .inr (.inr z)
  ·exact .inl (.inr z)⟩
 have hT:∀{H':Hp},ag H H'->∀a vs,JP X.K H a vs->JP X.K H' a vs:=fun sm a vs q=>JP.same sm q
 have hL:∀{H':Hp},ag H H'->∀t a vs,¬W.bad t a->Lm X.K H t a vs->¬W'.bad t a/\Lm X.K H' t a vs:=fun sm t a vs n q=>⟨fun z=>((NF t a).mp z).elim n (nl q.1),q.same sm⟩
 have Wo:Rel (O1 X sc ns xs cl fn C s H fp (dq X sc cl RR Ad C)) W' (L2.upd H Ad (.lst [])) (List.replicate xs.length none++js.map (hW σ)) (List.replicate xs.length none++js.map (bh ρ)):=by
  have sm:ag H (L2.upd H Ad (.lst [])):=ag.upd Qn;have at_:∀{i:Nat} {z:Sl},(List.replicate xs.length none++js.map (bh ρ))[i]?=some (some z)->¬i<xs.length/\(js.map (bh ρ))[i - xs.length]?=some (some z):=fun {i z} h=>by
   by_cases hi:i<xs.length
   ·rw[Rp (by simpa using hi),SO,G4 hi]at h;cases h
   ·rw[Rn (by simpa using hi)]at h;exact⟨hi,by simpa using h⟩
  refine⟨fun i d h=>?_,fun i x h=>?_,fun i j a h _=>(by cases h),fun i a h=>(by cases h),fun i a h=>(by cases h),fun a h=>?_,fun a h=>?_,sm,r.tab.same sm⟩
  ·obtain⟨hi,h'⟩:=at_ h;rw[Of]at h';cases e:js[i - xs.length]? with
   |none=>rw[e]at h';cases h'
   |some j =>
    rw[e]at h';have h4:bh ρ j=some (.val d):=Oh h';have h5:ρ[j]?=some (some (.val d)):=by
     unfold bh at h4;split at h4
     ·rename_i u q;cases h4;exact q
     ·cases h4
    obtain⟨v,e1,e2⟩:=r.val j d h5;refine⟨v,?_,Den.map (hT sm) (hL sm) (fun a _ n q=>sm.kp a _ q n.nt) d v e2⟩;rw[Rn (by simpa using hi)];show(js.map (hW σ))[i - (List.replicate xs.length (none:Option V)).length]?=some (some v);rw[List.length_replicate,Of,e];show some (hW σ j)=some (some v);unfold hW;rw[e1]
  ·obtain⟨hi,h'⟩:=at_ h;rw[Of]at h';cases e:js[i - xs.length]? with
   |none=>rw[e]at h';cases h'
   |some j =>
    rw[e]at h';have h4:bh ρ j=some (.ob x):=Oh h';unfold bh at h4;split at h4<;>cases h4
  ·rcases h with h|h
   ·obtain⟨o,q⟩:=r.tracked false a h;exact sm.ex q
   ·rw[h];exact⟨_,au⟩
  ·obtain⟨o,q⟩:=r.st a h;exact sm.ex q
 have PR:∀{H':Hp},(∀b∈fp,H' b=none)->∀b∈fp,cP (O1 X sc ns xs cl fn C s H fp (dq X sc cl RR Ad C)) [] H' b:=fun hn b hb=>by
  obtain⟨f0,f1,f2,f3,f4,f5⟩:=OR b hb;obtain⟨o,ho⟩:=SD b hb;refine⟨hn b hb,fun z=>?_,fun z=>?_,.inl hb,fun y c e z=>(hcl y c e).elim (fun e=>f4 y c e z) fun q=>absurd (J9 ho) (by rw[<- z];exact Po.mpr q),fun p hp=>absurd (show p∈([]:yab)from hp) (by simp)⟩
  ·have z':b=C:=z;have Mx:=J9 ho;rw[z']at Mx;exact absurd (LZ Mx NH) (O8 _)
  ·rcases L0.mp (I.Mc b z)with e|e
   ·exact f1 e
   ·exact f2 e
 have ON:∀b∈fp,(b∈X.ex∨X.IA.heap.objs.size<=b)/\b≠X.env.locals/\(∀x c,X.env.cells.lookup x=some c->c≠b)/\∀p∈X.pn++pins,p.1≠b:=fun b hb=>by obtain⟨f0,f1,f2,f3,f4,f5⟩:=OR b hb;exact⟨f3,f1,f4,f5⟩
 have BD0:W'.B Ad:=.inr rfl;have loop:∀Lw:Shared,Lw={s with heap:=Lp,toks:=s.toks+([]:List (Str×Value)).length} →
   codeAny (model X.prog X.w) X.A (.compLoop (.ListComp elt [⟨tg,iter,ifs,0⟩] sc pos) 0 (.ref it) (.ref Ad) (compEnvC sc cl C X.env)) (RR (.ref Ad) C) Lw:=by
  rintro Lw rfl;refine vV (CLI X.K (O1 X sc ns xs cl fn C s H fp (dq X sc cl RR Ad C)) H fp Ad ds W' tn xs.length (js.map (bh ρ)) Pv) ?_ ds.length
   ⟨0,W',_,_,_,[],[],fun _=>none,by simp,M9 _,I1,T.keep 0 s.heap Lp st (fun b hb o e=>old b o e),fun b hb=>?_,au,⟨by funext a;simp,rfl⟩,fk.nil,(fun _ _ h=>by cases h),by simp only[aE],ag.upd Qn,Wo,⟨_,by simp,rfl⟩,p0,Ka _⟩
  rotate_left
  ·obtain⟨o,ho⟩:=SD b hb;rw[aj (fun z=>absurd (J9 ho) (by rw[z];exact Po.mpr T5))];exact(OR b hb).1
  rintro n s3 ⟨i,W2,OP,KR,H3,out,vs,bs,en,hle,I3,Pe,Q6,hD3,Qo,RW,hls,T6,T7,rl3,Wq,p3,ol⟩;have nb2:∀{W3:Own} {H':Hp} {O0:St} {PB:Ro},(W3.B=(fun a=>W'.B a∨∃ k,bs k=some a)/\W3.S=W'.S)->Rel (O1 X sc ns xs cl fn C s H fp (dq X sc cl RR Ad C)) W3 H' O0 PB->ag H H'->∀t a vs,¬W.bad t a->Lm X.K H t a vs->¬W3.bad t a/\Lm X.K H' t a vs:=fun {W3 H' O0 PB} hw rl sm t a vs n q=>by
   refine⟨fun z=>?_,q.same sm⟩;rcases z with z|⟨k,z⟩| ⟨z1,z2⟩
   ·rw[hw.1]at z;rcases z with z|⟨k,z⟩
    ·exact(hL sm t a vs n q).1 (.inl z)
    ·obtain⟨_,h0,kk,_⟩:=RW.ok k a z;rcases q.1 with(q1|⟨o,q1⟩)|⟨o,its,m,q1,_⟩
     ·rw[h0]at q1;cases q1
     ·rw[h0]at q1;cases q1
     ·rw[kk]at q1;cases q1
   ·have h0:H a=none:=rl.ke k a z;rcases q.1 with(q1|⟨o,q1⟩)|⟨o,its,m,q1,_⟩
    ·rw[h0]at q1;cases q1
    ·rw[h0]at q1;cases q1
    ·have kk:X.K.lookup a=none:=(rl.kn k a z).1;rw[kk]at q1;cases q1
   ·rw[hw.2]at z2;exact(hL sm t a vs n q).1 (.inr (.inr ⟨z1,z2⟩))
  obtain⟨yg,yy,ys⟩:=yd W2.bad H3 (hT T7) (nb2 Qo rl3 T7) (fun a _ n q=>T7.kp a _ q n.nt) i;by_cases Mx:i<ds.length
  ·refine GU (T.item (O1 X sc ns xs cl fn C s H fp (dq X sc cl RR Ad C)) rfl rfl rfl hc i [] s3 _ H3 _ I3 (PR Q6) Pe (yg Mx)) fun rr s4 ⟨u,hr,h4⟩=>?_
   subst hr;refine GU h4 fun _ s5 ⟨x5,H5,I5,r5,y5,Ol,Th⟩=>?_
   obtain⟨e5,d,hd,MT⟩:=yy x5 H5 y5 Mx;have Ti:=I5.pinned (PR Th) (T.obj _ _ Ol);have Q9:=rl3.same e5;have Wr:ag H H5:=T7.trans e5;refine L3 (hg _ s5 OP H5 W2 KR d x5 u _ Ti Q9 r5 MT (step i d out KR hd p3 Wq)) (fun _ s6 ⟨W6,RD,H6,TH,I6,f6,T8,T9,q6⟩=>?_) (fun _ _ z=>z);have Ua:W6.B=(fun a=>W'.B a∨∃ k,bs k=some a)/\W6.S=W'.S:=⟨f6.B.trans Qo.1,f6.S.trans Qo.2⟩;have Ws:ag H H6:=⟨fun b o e n=>f6.kp b o (fun k z=>by have h0:H b=none:=Q9.ke k b z;rw[e]at h0;cases h0) (Wr.kp b o e n) n,(fun b ps e=>by obtain⟨m1,e1⟩:=Wr.tb b ps e;obtain⟨m2,e2⟩:=f6.tb b _ e1;exact⟨m1++m2,by rw[e2,Ru]⟩),fun h=>f6.ok (Wr.ok h)⟩;have BD:W'.B Ad:=.inr rfl;have Wt:H6 Ad=some (.lst vs):=f6.keep Ad _ (fun k z=>(Q9.kn k Ad z).2.1.1 (by rw[Qo.1];exact .inl BD)) (e5 _ _ hD3);have Wu:aE X.K W2.bad H5 bs 0 out vs:=T6.map (fun _ _ z=>z.same e5) fun _ _ q=>⟨q,fun _ z=>e5 _ _ z⟩
   have RX:∀k b,bs k=some b->∃us,H6 b=some (.lst us):=fun k b q=>let ⟨us,z⟩:=hls k b q;⟨us,f6.keep b _ (fun l y=>(Q9.kn l b y).2.1.1 (by rw[Qo.1];exact .inr ⟨k,q⟩)) (e5 _ _ z)⟩
   have Ub:aE X.K W6.bad H6 bs 0 out vs:=Wu.map (fun _ _ z=>af.fwd Q9 T8 f6 z) fun k b q=>⟨q,fun us z=>f6.keep b _ (fun l y=>(Q9.kn l b y).2.1.1 (by rw[Qo.1];exact .inr ⟨k,q⟩)) z⟩
   have Rf:∀{Nz:St} {H7:Hp} {s7:Shared},Inv (O1 X sc ns xs cl fn C s H fp (dq X sc cl RR Ad C)) ([]++kH fp s5.heap) Nz H7 s7->tn (i+1) s7.heap/\∀b∈fp,H7 b=none:=fun {Nz H7 s7} I7=>by refine⟨T.keep _ _ _ Ol fun b hb o e=>(I7.pin (b,o) (Oe _ (Oe _ (di hb e)))).1,fun b hb=>?_⟩;obtain⟨o,e,_⟩:=T.obj _ _ Ol b hb;exact(I7.pin (b,o) (Oe _ (Oe _ (di hb e)))).2.1
   refine L3 (ht _ s6 _ H6 W6 _ _ I6 T8 q6) (fun b s7 ⟨H7,I7,e7,q7⟩=>?_) (fun _ _ z=>z);cases b with
   |false =>
    rw[GS NQ]at q7;rw[GS NQ];obtain⟨t7,f7⟩:=Rf I7;exact⟨ds.length - (i+1),by omega,i+1,W6,RD,TH,H7,out,vs,bs,rfl,Mx,I7.J0,t7,f7,e7 _ _ Wt,Ua,RW,(fun k b q=>let ⟨us,z⟩:=RX k b q;⟨us,e7 _ _ z⟩),Ub.map (fun _ _ z=>z.same e7) (fun _ _ q=>⟨q,fun _ z=>e7 _ _ z⟩),Ws.trans e7,T8.same e7,T9,q7,by omega⟩
   |true =>
    rw[G4 rfl]at q7;rw[G4 rfl];refine L3 (he _ s7 _ H7 W6 _ _ I7 (T8.same e7) q7) (fun u8 s8 ⟨v8,H8,e8,I8,r8,SF,hd8,q8⟩=>?_) (fun _ _ z=>z);have QQ:=e7.trans SF;have Wv:=QQ _ _ Wt;have Uc:=T8.same e7;have RY:aE X.K W6.bad H7 bs 0 out vs:=Ub.map (fun _ _ z=>z.same e7) fun _ _ q=>⟨q,fun _ z=>e7 _ _ z⟩
    have smH:ag H H8:=Ws.trans QQ;obtain⟨W8,SG,hW8,RZ,Ww,rl8,Wx,Ud⟩:∃(W8:Own) (SG:yaj),(W8.B=(fun a=>W'.B a∨∃ k,SG k=some a)/\W8.S=W'.S)/\fk X.K H Ad (out++[e8]).length SG/\(∀k b,SG k=some b->∃us,H8 b=some (.lst us))/\Rel (O1 X sc ns xs cl fn C s H fp (dq X sc cl RR Ad C)) W8 H8 RD TH/\aE X.K W8.bad H8 SG 0 (out++[e8]) (vs++[v8])/\vs.length=out.length:=by
     have ln:=RY.len;cases e8 with
     |val d =>
      refine⟨W6,bs,Ua,RW.up (by simp),(fun k b q=>let ⟨us,z⟩:=RX k b q;⟨us,QQ _ _ z⟩),Uc.same SF,?_,ln⟩;exact(RY.map (fun _ _ z=>z.same SF) fun _ _ q=>⟨q,fun _ z=>SF _ _ z⟩).MU hd8
     |own Mf =>
      obtain⟨a,ws,rfl,na,ka,ha,QN⟩:=hd8;obtain⟨rb,db⟩:=Uc.ban SF na ka ha;have nH:H a=none:=(Ws.trans e7).free na;have nD:a≠Ad:=fun z=>by rw[z,e7 _ _ Wt]at na;cases na
      refine⟨⟨fun b=>W6.B b∨b=a,W6.O,W6.S⟩,fun k=>if k=out.length then some a else bs k,⟨?_,Ua.2⟩,RW.put nH ka nD (fun k z=>?_),(fun k b q=>?_),rb,?_,ln⟩
      ·funext b
       show(W6.B b∨b=a)=_;rw[Ua.1];refine propext ⟨fun z=>?_,fun z=>?_⟩
       ·rcases z with(z|⟨k,z⟩)|z
        ·exact .inl z
        ·exact .inr ⟨k,by show(if k=out.length then some a else bs k)=some b;rw[GS (Nk (RW.ok k b z).1)];exact z⟩
        ·exact .inr ⟨out.length,by show(if out.length=out.length then some a else bs out.length)=some b;rw[G4 rfl,z]⟩
       ·rcases z with z|⟨k,z⟩
        ·exact .inl (.inl z)
        ·have z:(if k=out.length then some a else bs k)=some b:=z;by_cases ek:k=out.length
         ·rw[G4 ek]at z;cases z;exact .inr rfl
         ·rw[GS ek]at z;exact .inl (.inr ⟨k,z⟩)
      ·obtain⟨o,hu⟩:=Uc.bt a (by rw[Ua.1];exact .inr ⟨k,z⟩);rw[hu]at na;cases na
      ·have q:(if k=out.length then some a else bs k)=some b:=q;by_cases ek:k=out.length
       ·rw[G4 ek]at q;cases q;exact⟨_,ha⟩
       ·rw[GS ek]at q;obtain⟨us,z⟩:=RX k b q;exact⟨us,QQ _ _ z⟩
      ·refine aE.MV (RY.map (B':=fun k=>if k=out.length then some a else bs k) (fun ds vs z=>db ds vs z) fun k b q=>⟨by show(if k=out.length then some a else bs k)=some b;rw[GS (Nk (RW.ok k b q).1)];exact q,fun _ z=>SF _ _ z⟩) (by simp) ha (QN.HF fun t b z=>?_);rcases z with(z|z)|z|z
       ·exact .inl (.inl z)
       ·exact .inr z
       ·exact .inl (.inr (.inl z))
       ·exact .inl (.inr (.inr z))
    have BD8:W8.B Ad:=by rw[hW8.1];exact .inl BD
    refine L3 (pP (X:=O1 X sc ns xs cl fn C s H fp (dq X sc cl RR Ad C)) _ s8 _ H8 (.ref Ad) [v8] (.ref Ad) [u8] (fun _ H'=>H'=L2.upd H8 Ad (.lst (vs++[v8]))) I8 rfl (.cons r8 .nil) ⟨Ad,vs,v8,rfl,rfl,Wv,by rw[Ud];omega,rfl⟩) (fun _ s9 ⟨v9,H9,I9,_,eH⟩=>?_) (fun _ _ z=>z);subst eH;obtain⟨t9,f9⟩:=Rf I9;obtain⟨rl9,dn9⟩:=rl8.Wm (vs':=vs++[v8]) BD8 Wv Qn;exact⟨ds.length - (i+1),by omega,i+1,W8,RD,TH,_,out++[e8],vs++[v8],SG,rfl,Mx,I9.J0,t9,f9,au,hW8,RZ,(fun k b q=>let ⟨us,z⟩:=Ww k b q;⟨us,by rw[aj (RZ.ok k b q).2.2.2];exact z⟩),Wx.map dn9 (fun k b q=>⟨q,fun us z=>by rw[aj (RZ.ok k b q).2.2.2];exact z⟩),smH.ins Qn Wv True.intro True.intro,rl9,T9,q8,by rw[Mw,List.length_singleton];omega⟩
  ·have e:i=ds.length:=by omega
   refine GU (T.done (O1 X sc ns xs cl fn C s H fp (dq X sc cl RR Ad C)) rfl rfl rfl hc i [] s3 _ H3 _ I3 (PR Q6) Pe (ys (by omega))) fun rr s4 ⟨hr,I4⟩=>?_
   subst hr;subst e;have Io:Inv X pins σ H3 s4:=I.Nl I4.os I4.base I4.IZ I4.bare ON;obtain⟨m,hm,_⟩:=I4.loc;exact T4 s4 H3 m out bs Io T7 hm I4.free (fun z=>absurd I.lt (by rw[<- z];exact Po.mpr NH)) (MH I.sz NH) (fun y c e z=>by
    obtain⟨v,q⟩:=I.cell y c e;exact absurd q.lt (by rw[z];exact Po.mpr NH)) (fun p hp z=>absurd (J9 (I.pin p hp).1) (by rw[z];exact Po.mpr NH))
    ⟨Qn,Vi,_,hD3,RW,hls,T6.map (fun _ _ z=>z.HF fun t a z=>(by
     rcases z with z|z
     ·rcases(NF t a).mpr (.inl z)with q|⟨k,q⟩| q
      ·exact .inl (by rw[Qo.1];exact .inl q)
      ·cases q
      ·exact .inr (.inr ⟨q.1,by rw[Qo.2];exact q.2⟩)
     ·rcases z with z|z
      ·exact .inl (by rw[Qo.1];exact .inl (z ▸ BD0))
      ·exact .inl (by rw[Qo.1];exact .inr z))) fun _ _ q=>⟨q,fun _ z=>z⟩⟩ p3
 exact codeAny_compStart_list (loop _ rfl) (T.self _ 0 _ _ _ (T.keep 0 s.heap Lp st (fun b hb o e=>old b o e)) (loop _ rfl))
theorem sM{elt iter tg:Expr}{ifs:yai}{pos:Pos}{g:DG}{te:DM}{tc:DT}{W:Own}{ρ:Ro}{J:It}{it:Addr}{tn:Nat->Heap->Prop}{ds:yas}{E:yaa}{RR:Value->Addr->Result->Shared->Prop}(hc:X.calm=true)(S:PJ X.env.scope sc xs ns)
  (hj:js.length=ns.length/\∀(i:Nat) (j:Nat) (n:Str),js[i]?=some j->ns[i]?=some n->X.N[j]?=some n)
  {Ed:Value->Prop} (he:∀(C:Addr) (GY:Shared) (Hn:Hp) (fp:yae) (XE:yaa),bF (aN X sc ns xs C GY Hn fp XE) Ed->Wn (aN X sc ns xs C GY Hn fp XE) elt te) (ht:∀(C:Addr) (GY:Shared) (Hn:Hp) (fp:yae) (XE:yaa),bF (aN X sc ns xs C GY Hn fp XE) Ed->PN (aN X sc ns xs C GY Hn fp XE) ifs tc)
  (hx:∀D C:Addr,bF (aN X sc ns xs C s H fp (qy X sc ns RR D C)) Ed) (I:Inv X pins σ H s) (r:Rel X W H σ ρ) (hg:∀(C:Addr) (GY:Shared) (Hn:Hp) (fp:yae) (XE:yaa),Ql (aN X sc ns xs C GY Hn fp XE) tg g) (T:Turn X.prog X.w X.K tg J fp it tn) (st:tn 0 s.heap) (OR:∀b∈fp,cP X pins H b) (yd:YD X.K W H J ds) (hz:ds.length<=sizeLine)
  (Pv:Nat->List LI->Prop) (p0:Pv 0 []) (step:∀j d out LY,ds[j]?=some d->Pv j out->gP xs.length (js.map (bh ρ)) LY->g d LY fun KR=>gP xs.length (js.map (bh ρ)) KR/\tc KR fun b=>if b=true then te KR (fun e=>Pv (j+1) (out++[e]))else Pv (j+1) out)
  (T4:∀(D C:Addr) (s':Shared) (H':Hp) (m':yam) (out:List LI) (bs:yaj),Inv X pins σ H' s'->ag H H'->s'.heap.Ns C m'->H' C=none->C≠X.env.locals->X.IA.heap.objs.size<=C->(∀y c,X.env.cells.lookup y=some c->c≠C)->(∀p∈X.pn++pins,p.1≠C) →
   (H D=none/\X.K.lookup D=none/\∃vs,H' D=some (.lst vs)/\fk X.K H D out.length bs/\(∀k b,bs k=some b->∃us,H' b=some (.lst us))/\aE X.K (fun t b=>W.bad t b∨b=D∨∃ k,bs k=some b) H' bs 0 out vs)->Pv ds.length out->RR (.ref D) C (.ok .next) s') :
  wpAny (model X.prog X.w) X.A (newList []) (fun acc Lw=>wpAny (model X.prog X.w) X.A (newFunctionEnv sc X.env.globals (cB X.env ns) [] X.env.qual none .none (some X.env)) (fun NZ PQ =>
   codeAny (model X.prog X.w) X.A (.compStart (.ListComp elt [⟨tg,iter,ifs,0⟩] sc pos) 0 (.ref it) acc {NZ with scope:=relabel sc X.env}) (RR acc NZ.locals) PQ) E Lw) E s:=by
 refine wpAny_newObj_type (wpAny_newFunctionEnv S.PK (by intro y hy;simp at hy) (fun Lp OD NI=>?_) S.kind);dsimp only at OD NI ⊢;generalize Wy:s.heap.push {cls:=.type "list", dict:=none,data:=.seq ([]:yad).toArray}=HP at OD NI ⊢;have hC:HP.objs.size=s.heap.objs.size+1:=by rw[<- Wy,Rx]
 have Wz:s.heap.objs.size≠HP.objs.size:=by rw[hC];exact Nk (Nat.lt_succ_self _)
 have NH:s.heap.objs.size<=HP.objs.size:=by rw[hC];exact Nat.le_succ _
 have below:∀b,b<s.heap.objs.size->b≠HP.objs.size:=fun b hb=>by rw[hC];exact Nk (Nat.lt_succ_of_lt hb)
 have old:∀b o,s.heap.get? b=some o->Lp.get? b=some o:=fun b o e=>NI.extBut b o (below b (J9 e)) (KU _ (Wy ▸ KU _ e))
 have Ue:Lp.get? s.heap.objs.size=some {cls:=.type "list", data:=.seq ([]:yad).toArray}:=NI.extBut _ _ Wz (KU _ (Wy ▸ Mv _ rfl));generalize eD:s.heap.objs.size=D at Wz Ue;generalize eC:HP.objs.size=C at *;have Qn:H D=none:=by rw[<- eD];exact I.IZ.fresh (Ka _)
 have Vi:X.K.lookup D=none:=by rw[<- eD];exact Inv.KZ I
 have SH:H C=none:=I.IZ.fresh NH;have SD:∀b∈fp,∃o,s.heap.get? b=some o:=fun b hb=>let ⟨o,e,_⟩:=T.obj 0 s.heap st b hb;⟨o,e⟩
 have T5:s.heap.objs.size<=D:=Nat.le_of_eq eD;have okk:Lv X.prog X.w (L2.upd H D (.lst [])) Lp:=I.IZ.laid old T5 ⟨M9 _,[],0,.nil,Ue⟩;have WA:∀o,L2.upd H D o C=none:=fun o=>by rw[aj (Ne.symm Wz)];exact SH
 have I1:Inv (aN X sc ns xs C s H fp (qy X sc ns RR D C)) [] (List.replicate xs.length none++js.map (hW σ)) (L2.upd H D (.lst [])) {s with heap:=Lp,toks:=s.toks+([]:List (Str×Value)).length} :=
  Inv.comp I S hj OR SD NH rfl I.bare old OD (WA _) (ag.upd Qn) (fun b o e n=>by rw[aj (fun z=>absurd (J9 e) (by rw[z];exact Po.mpr T5))];exact n) okk
 exact vX (cl:=cB X.env ns) (fn:=fun _=>false) hc (he C s H fp _ (hx D C)) (ht C s H fp _ (hx D C)) (hg C s H fp _) I r T st OR yd hz Pv p0 step (T4 D C) Qn Vi T5 NH old (fun y c e=>.inl (jv e)) I1
end
theorem aE.vals{K:yac}{P:yak}{H:Hp}{B:yaj}:∀{ds:yas} {k:Nat} {vs:yar},aE K P H B k (ds.map .val) vs->af K P H ds vs
 |[],_,_,h=>by simp only[Qf,aE]at h;subst h;exact af.nil
 |d::r,_,_,h=>by simp only[Nj,aE]at h;obtain⟨v,u,rfl,h1,h2⟩:=h;exact af.cons h1 h2.vals
theorem Ct{X:Cx}{e:Expr}{te:DE}(h:Hs X e te):Wn X e fun ρ Q=>te ρ fun d=>Q (.val d):=fun pins s σ H W ρ Q I r t=>L3 (h pins s σ H W ρ _ I r t) (fun _ _ ⟨v,H',d,a,b,c,q,z⟩=>⟨v,H',.val d,a,b,c,q,z⟩) fun _ _ z=>z
section
variable{X:Cx}{pins:yab}{σ:St}{H:Hp}{s:Shared}{sc:Scope}{ns:yah}{js:yag}{xs:yah}{fp:yae}
theorem gn{elt iter tg:Expr}{ifs:yai}{pos:Pos}{g:DG}{te:DE}{tc:DT}{W:Own}{ρ:Ro}{J:It}{it:Addr}{tn:Nat->Heap->Prop}{ds:yas}{E:yaa}{RR:Value->Addr->Result->Shared->Prop}(hc:X.calm=true)(S:PJ X.env.scope sc xs ns)
  (hj:js.length=ns.length/\∀(i:Nat) (j:Nat) (n:Str),js[i]?=some j->ns[i]?=some n->X.N[j]?=some n)
  {Ed:Value->Prop} (he:∀(C:Addr) (GY:Shared) (Hn:Hp) (fp:yae) (XE:yaa),bF (aN X sc ns xs C GY Hn fp XE) Ed->Hs (aN X sc ns xs C GY Hn fp XE) elt te) (ht:∀(C:Addr) (GY:Shared) (Hn:Hp) (fp:yae) (XE:yaa),bF (aN X sc ns xs C GY Hn fp XE) Ed->PN (aN X sc ns xs C GY Hn fp XE) ifs tc)
  (hx:∀D C:Addr,bF (aN X sc ns xs C s H fp (qy X sc ns RR D C)) Ed) (I:Inv X pins σ H s) (r:Rel X W H σ ρ) (hg:∀(C:Addr) (GY:Shared) (Hn:Hp) (fp:yae) (XE:yaa),Ql (aN X sc ns xs C GY Hn fp XE) tg g) (T:Turn X.prog X.w X.K tg J fp it tn) (st:tn 0 s.heap) (OR:∀b∈fp,cP X pins H b) (yd:YD X.K W H J ds) (hz:ds.length<=sizeLine)
  (Pv:Nat->yas->Prop) (p0:Pv 0 []) (step:∀j d out LY,ds[j]?=some d->Pv j out->gP xs.length (js.map (bh ρ)) LY->g d LY fun KR=>gP xs.length (js.map (bh ρ)) KR/\tc KR fun b=>if b=true then te KR (fun e=>Pv (j+1) (out++[e]))else Pv (j+1) out)
  (T4:∀(D C:Addr) (s':Shared) (H':Hp) (m':yam) (out:List PD.D),Inv X pins σ H' s'->ag H H'->s'.heap.Ns C m'->H' C=none->C≠X.env.locals->X.IA.heap.objs.size<=C->(∀y c,X.env.cells.lookup y=some c->c≠C)->(∀p∈X.pn++pins,p.1≠C) →
   (H D=none/\X.K.lookup D=none/\∃vs,H' D=some (.lst vs)/\af X.K (fun t b=>W.bad t b∨b=D) H' out vs)->Pv ds.length out->RR (.ref D) C (.ok .next) s') :
  wpAny (model X.prog X.w) X.A (newList []) (fun acc Lw=>wpAny (model X.prog X.w) X.A (newFunctionEnv sc X.env.globals (cB X.env ns) [] X.env.qual none .none (some X.env)) (fun NZ PQ =>
   codeAny (model X.prog X.w) X.A (.compStart (.ListComp elt [⟨tg,iter,ifs,0⟩] sc pos) 0 (.ref it) acc {NZ with scope:=relabel sc X.env}) (RR acc NZ.locals) PQ) E Lw) E s:=by
 have e:∀k l,(∃q,l.map LI.val=q.map LI.val/\Pv k q)=Pv k l:=fun k l=>propext ⟨fun⟨q,a,b⟩=>(List.map_inj_right (fun _ _=>LI.val.inj)).mp a ▸ b,fun b=>⟨l,rfl,b⟩⟩
 refine sM (te:=fun ρ Q=>te ρ fun d=>Q (.val d)) hc S hj (fun C GY Hn fp XE p=>Ct (he C GY Hn fp XE p)) ht hx I r hg T st OR yd hz (fun k o=>∃q,o=q.map LI.val/\Pv k q) ⟨[],rfl,p0⟩ ?_ ?_
 ·rintro j d _ LY hd ⟨q,rfl,hp⟩ cr;have e2:∀x,q.map LI.val++[LI.val x]=(q++[x]).map LI.val:=fun x=>by rw[OK];rfl
  simp only[e2,e];exact step j d q LY hd hp cr
 ·rintro D C s' H' m' _ bs I' sm a1 a2 a3 a4 a5 a6 ⟨h1,h2,vs,h3,_,_,h4⟩ ⟨q,rfl,hp⟩;exact T4 D C s' H' m' q I' sm a1 a2 a3 a4 a5 a6 ⟨h1,h2,vs,h3,h4.vals.HF fun t b z=>z.elim .inl fun z=>.inr (.inl z)⟩ hp
theorem qV{X:Cx}{sc:Scope}{ns:yah}{x:Str}{px:Pos}{C:Addr}{GY:Shared}{Hn:Hp}{fp:yae}{XE:yaa}(S:PJ X.env.scope sc [x] ns):Ql (aN X sc ns [x] C GY Hn fp XE) (.Name x px) (kr 0) :=
 have tl:(compEnvC sc (cB X.env ns) C X.env).scope.names.lookup x=some .local:=lookup_relabel_local (S.Wi x (by simp))
 df (X:=aN X sc ns [x] C GY Hn fp XE) 0 S.nd rfl (.inl tl) (.inr tl)
theorem zS{ds:yas}{Pv:Nat->yas->Prop}{tc:DT}{te:DE}{Nf:Ro}(step:∀j d out,ds[j]?=some d->Pv j out->tc (some (.val d)::Nf) fun b=>if b=true then te (some (.val d)::Nf) (fun e=>Pv (j+1) (out++[e]))else Pv (j+1) out) :
  ∀ j d out LY,ds[j]?=some d->Pv j out->gP 1 Nf LY->kr 0 d LY fun KR=>gP 1 Nf KR/\tc KR fun b=>if b=true then te KR (fun e=>Pv (j+1) (out++[e]))else Pv (j+1) out:=by
 rintro j d out LY hd hp ⟨r0,hl,rfl⟩
 match r0,hl with
 |[a],_=>exact⟨⟨[some (.val d)],rfl,rfl⟩,step j d out hd hp⟩
def mE(wi:DA)(js:yag)(tc:DT)(te:DE):DE:=fun ρ Q=>wi ρ fun ds=>ds.length<=sizeLine/\∃Pv:Nat->yas->Prop,Pv 0 [] ∧
 (∀j d out,ds[j]?=some d->Pv j out->tc (some (.val d)::js.map (bh ρ)) fun b=>if b=true then te (some (.val d)::js.map (bh ρ)) (fun e=>Pv (j+1) (out++[e]))else Pv (j+1) out)/\∀out,Pv ds.length out->Q (.lst true out)
def bE(N:yah)(ns:yah)(js:yag):Prop:=js.length=ns.length/\∀(i:Nat) (j:Nat) (n:Str),js[i]?=some j->ns[i]?=some n->N[j]?=some n
theorem bE.nil{N:yah}:bE N [] []:=⟨rfl,fun i j n h=>by simp at h⟩
theorem bE.cons{N ns:yah}{js:yag}{n:Str}(j:Nat)(h:bE N ns js)(e:N[j]?=some n:=by rfl):bE N (n::ns) (j::js):=⟨by simp[h.1],fun i j' m h1 h2=>by
 cases i with
 |zero=>simp at h1 h2;subst h1 h2;exact e
 |succ i=>exact h.2 i j' m (by simpa using h1) (by simpa using h2)⟩
variable{elt iter:Expr}{ifs:yai}{px pos:Pos}{te:DE}{tc:DT}{wi:DA}{x:Str}
theorem fq(hc:X.calm=true)(S:PJ X.env.scope sc [x] ns)(hj:bE X.N ns js)(hi:Oa X (.Name x px) iter wi)(ht:∀(C:Addr) (GY:Shared) (Hn:Hp) (fp:yae) (XE:yaa),PN (aN X sc ns [x] C GY Hn fp XE) ifs tc)
  (he:∀(C:Addr) (GY:Shared) (Hn:Hp) (fp:yae) (XE:yaa),Hs (aN X sc ns [x] C GY Hn fp XE) elt te) (Ma:closureFor sc X.env=pure (cB X.env ns):=by rfl) (hs:∀x,foldedSetIterable iter X.env x=pure x:=by intro _;rfl) :
  Hs X (.ListComp elt [⟨.Name x px,iter,ifs,0⟩] sc pos) (mE wi js tc te):=by
 intro pins s σ H W ρ Q I r h;rw[eval_ListComp];refine UW (use:=none) rfl hs Ma S.kind S.names (GU (hi pins s σ H W ρ _ I r h) fun v s1 h1=>GU h1 fun Pt s2 h2=>?_);obtain⟨it,fp,tn,J,H2,ds,e,I2,e2,T,OZ,f2,yd,hz,Pv,p0,step,fin⟩:=h2;subst e;refine gn (RR:=fun acc C=>compPost (model X.prog X.w) X.A X.xe none (DP X pins σ W H Q) acc C) hc S hj (Ed:=fun _=>False) (fun C GY Hn fp XE _=>he C GY Hn fp XE) (fun C GY Hn fp XE _=>ht C GY Hn fp XE) (fun _ _=>bF.no) I2 (r.same e2) (fun C GY Hn fp XE=>qV S) T OZ f2 yd hz Pv p0 (zS step) ?_;intro D C s' H' m' out I' sm Ph QP QR R4 QS R5 ⟨hn,hk,vs,hD,JS⟩ pv;have MT:Den X.K W.bad H' (.lst true out) (.ref D):=Den.lst ((r.same e2).fresh hn) (.new hD hk) (JS.HF fun _ _ z=>.inl z);refine⟨m',Ph,fun h' Qp=>?_⟩;exact⟨.ref D,H',_,I'.turned (t':=s'.toks) (fun b o hb e=>(Qp.2 b hb).trans e) QP QR (.inr R4) QS R5,rfl,e2.trans sm,MT,fin out pv⟩
end
section
theorem rn{g:Heap}{C b:Addr}{o:Obj}(e:(PySem.W.hideAll g [C]).get? b=some o):b≠C:=fun z=>by rw[PySem.W.hideAll_none [C] (by simp[z])]at e;cases e
theorem Fl.hide{P:Program}{w:World}{l:List Env}{h₀:Heap}{H₀ H:Hp}{B h h':Heap}{C:Addr}(F:Fl P w l h₀ H₀ H B h)(hC:C∉MJ l)(n1:H C=none)(hs:Heap.SameBut C h h'):Fl P w l (PySem.W.hideAll h₀ [C]) H₀ H (PySem.W.hideAll B [C]) h':=by
 have un:=F.un;refine⟨⟨fun b o e n hb hx=>(hs.2 b (rn e)).trans (un.keep b o (PySem.W.of_hideAll [C] e) n hb hx),fun b o e n hb hx=>?_,fun b o e n hx=>un.free b o (PySem.W.of_hideAll [C] e) n hx,fun b o e hx=>?_,un.KC,un.Kv,un.Kw⟩,PD.Lv.Rb F.IZ (fun b u hu e=>?_),fun b hb=>?_,fun b o e z n=>?_⟩
 ·obtain⟨sl,q⟩:=un.slot b o (PySem.W.of_hideAll [C] e) n hb hx;exact⟨sl,(hs.2 b (rn e)).trans q⟩
 ·obtain⟨o',q⟩:=un.there b o (PySem.W.of_hideAll [C] e) hx;exact⟨o',(hs.2 b (rn e)).trans q⟩
 ·refine(hs.2 b fun z=>?_).trans e;obtain⟨o,q⟩:=hu;rw[z,n1]at q;cases q
 ·obtain⟨n,o,e,d⟩:=F.fr b hb;exact⟨n,o,PySem.W.hideAll_get [C] e (fun z=>hC (by simp at z;rw[<- z];exact hb)),d⟩
 ·have MC:b≠C:=by
   rcases z with⟨u,z⟩| ⟨o',z⟩
   ·intro q;rw[q,n1]at z;cases z
   ·exact rn z
  refine PySem.W.hideAll_get [C] (F.Rc b o ((hs.2 b MC).symm.trans e) ?_ n) (by simpa using MC);rcases z with z|⟨o',z⟩
  ·exact .inl z
  ·exact .inr ⟨o',PySem.W.of_hideAll [C] z⟩
theorem tV{B h h':Heap}{C:Addr}(hs:Heap.SameBut C h h'):∀{l:List Env},(∀env∈l,env.frame≠some C)->h.FunFrames B l->h'.FunFrames (PySem.W.hideAll B [C]) l
 |[],_,_=>trivial
 |env::r,hn,⟨hk,⟨L,o,hf,hb,ho,hd⟩,hr⟩=>⟨hk,⟨L,o,hf,(by
   cases q:(PySem.W.hideAll B [C]).get? L with
   |none=>rfl
   |some o' =>
    have:=PySem.W.of_hideAll [C] q;rw[hb]at this;cases this),(hs.2 L fun z=>hn env M4 (by rw[hf,z])).trans ho,hd⟩,tV hs (fun e he=>hn e (Nu _ he)) hr⟩
theorem fj.hide{B h h':Heap}{l:List Env}{e C:Addr}{cls a0:Value}{oC:Obj}(R:fj B l e cls a0 h)(hn:∀env∈l,env.frame≠some C)(he:e≠C)(hB:B.get? C=some oC)(hs:Heap.SameBut C h h'):fj (PySem.W.hideAll B [C]) l e cls a0 h':=by
 have no:∀b,B.get? b=none->(PySem.W.hideAll B [C]).get? b=none:=fun b q=>by
  cases z:(PySem.W.hideAll B [C]).get? b with
  |none=>rfl
  |some o' =>
   have:=PySem.W.of_hideAll [C] z;rw[q]at this;cases this
 obtain⟨k1,k2,k3,fl,oe,vs,T,oT,ts,g1,g2,g3,g4,g5,g6,g7,g8,g9⟩:=R;have hT:T≠C:=fun z=>by rw[z,hB]at g5;cases g5
 exact⟨fun b o q=>(hs.2 b (rn q)).trans (k1 b o (PySem.W.of_hideAll [C] q)),no e k2,tV hs hn k3,fl,oe,vs,T,oT,ts,(hs.2 e he).trans g1,g2,g3,g4,no T g5,g6,(hs.2 T hT).trans g7,g8,g9⟩
variable{X:Cx}{pins:yab}{σ:St}{H:Hp}{s:Shared}{sc:Scope}{ns:yah}{js:yag}{xs:yah}{fp:yae}
theorem vY{W:Own}{ρ:Ro}{Ed:Value->Prop}{use:Option (Value->Sem Unit)}{Q:yaa}(hX:mz X Ed)(KN:X.stack=X.env::X.outer)(R6:X.env.frame=some X.env.locals)(I:Inv X pins σ H s)(r:Rel X W H σ ρ)(OR:∀b∈fp,cP X pins H b)(D C:Addr) :
  bF (aN X sc ns xs C s H fp (qy X sc ns (fun acc C=>compPost (model X.prog X.w) X.A X.xe use Q acc C) D C)) Ed:=by
 intro Pr σ' H' W' HG s1 e s' I' r' hcx;obtain⟨ea,c,H2,B,a0,rfl,os,bare,F,sm,hn,OB,fl,hd⟩:=hcx;have le:s.heap.objs.size<=C:=I'.ok.above;have SH:C∉MJ X.stack:=fun z=>by
  rcases L0.mp (I.Mc C z)with q|q
  ·exact absurd I.lt (by rw[<- q];exact Po.mpr le)
  ·exact I.Td le q
 have hCl:C≠X.env.locals:=fun q=>absurd I.lt (by rw[<- q];exact Po.mpr le)
 have Io:Inv X pins σ H' s1:=I.Nl I'.os I'.base I'.IZ I'.bare fun b hb=>by obtain⟨f0,f1,f2,f3,f4,f5⟩:=OR b hb;exact⟨f3,f1,f4,f5⟩
 have nC:H' C=none:=I'.free;obtain⟨m,hm,_⟩:=I'.loc;obtain⟨oC,es,ep,ho,Ug⟩:=hm;have kC:s'.heap.get? C=some oC:=F.un.keep C oC ho nC SH (by intro z;cases z);have BC:B.get? C=some oC:=F.Rc C oC kC (.inr ⟨oC,ho⟩) SH;have n2:H2 C=none:=F.un.free C oC ho nC (by intro z;cases z);have hea:ea≠C:=fun z=>by rw[z]at OB;rw[show s1.heap.get? C=some oC from ho]at OB;cases OB
 have TN:∀env∈X.stack,env.frame≠some C:=fun env he q=>SH (U5.mpr ⟨env,he,q⟩)
 have R0:fj B (X.env::X.outer) ea (.ref c) a0 s'.heap:=by have Uh:Heap.FlyingW B X.stack ea (.ref c) a0 s'.heap:=fl;rw[KN]at Uh;exact⟨Uh.1,Uh.2.1,Uh.2.2.1,.none,Uh.2.2.2⟩
 show wpAny (model X.prog X.w) X.A (noteFrame (.ref ea) X.env) _ _ s';refine ug (outer:=X.outer) (by rw[I.ok.frames,KN]) R6 R0 fun h1 R1 sl1=>?_
 have R1':fj B X.stack ea (.ref c) a0 h1:=by rw[KN];exact R1
 have F1:=Fl.step F R1.1 sl1;refine⟨m,sl1.ns ⟨oC,es,ep,kC,Ug⟩,fun h' Qp NZ _=>?_⟩;have F2:=Fl.hide F1 SH n2 Qp;refine AZ (R1'.hide TN hea BC Qp) fun h3 R3 sl3=>?_
 have F3:=Fl.step F2 R3.1 sl3;refine hX pins σ H' W ρ {s1 with heap:=PySem.W.hideAll s1.heap [C]} _ ea c H2 (PySem.W.hideAll B [C]) a0 (Io.turned (t':=s1.toks) (it:=C) (fun b o hb q=>PySem.W.hideAll_get [C] q (by simpa using hb)) nC hCl (.inr (MH I.sz le)) (fun y c e z=>?_) (fun p hp z=>?_)) (r.same r'.ent) os bare F3 sm hn ?_ R3 hd
 ·obtain⟨v,q⟩:=I.cell y c e;exact absurd q.lt (by rw[z];exact Po.mpr le)
 ·exact absurd (J9 (I.pin p hp).1) (by rw[z];exact Po.mpr le)
 ·cases q:(PySem.W.hideAll s1.heap [C]).get? ea with
  |none=>rfl
  |some o =>
   have:=PySem.W.of_hideAll [C] q;rw[OB]at this;cases this
variable{elt iter:Expr}{ifs:yai}{px pos:Pos}{te:DE}{tc:DT}{wi:DA}{x:Str}
theorem yo{Ed:Value->Prop}(hX:mz X Ed)(hc:X.calm=true)(S:PJ X.env.scope sc [x] ns)(hj:bE X.N ns js)(hi:Oa X (.Name x px) iter wi)(ht:∀(C:Addr) (GY:Shared) (Hn:Hp) (fp:yae) (XE:yaa),bF (aN X sc ns [x] C GY Hn fp XE) Ed->PN (aN X sc ns [x] C GY Hn fp XE) ifs tc)
  (he:∀(C:Addr) (GY:Shared) (Hn:Hp) (fp:yae) (XE:yaa),bF (aN X sc ns [x] C GY Hn fp XE) Ed->Hs (aN X sc ns [x] C GY Hn fp XE) elt te) (KN:X.stack=X.env::X.outer:=by rfl) (R6:X.env.frame=some X.env.locals:=by rfl) (Ma:closureFor sc X.env=pure (cB X.env ns):=by rfl) (hs:∀x,foldedSetIterable iter X.env x=pure x:=by intro _;rfl) :
  Hs X (.ListComp elt [⟨.Name x px,iter,ifs,0⟩] sc pos) (mE wi js tc te):=by
 intro pins s σ H W ρ Q I r h;rw[eval_ListComp];refine UW (use:=none) rfl hs Ma S.kind S.names (GU (hi pins s σ H W ρ _ I r h) fun v s1 h1=>GU h1 fun Pt s2 h2=>?_);obtain⟨it,fp,tn,J,H2,ds,e,I2,e2,T,OZ,f2,yd,hz,Pv,p0,step,fin⟩:=h2;subst e;refine gn (RR:=fun acc C=>compPost (model X.prog X.w) X.A X.xe none (DP X pins σ W H Q) acc C) hc S hj he ht (vY hX KN R6 I2 (r.same e2) f2) I2 (r.same e2) (fun C GY Hn fp XE=>qV S) T OZ f2 yd hz Pv p0 (zS step) ?_;intro D C s' H' m' out I' sm Ph QP QR R4 QS R5 ⟨hn,hk,vs,hD,JS⟩ pv;have MT:Den X.K W.bad H' (.lst true out) (.ref D):=Den.lst ((r.same e2).fresh hn) (.new hD hk) (JS.HF fun _ _ z=>.inl z);refine⟨m',Ph,fun h' Qp=>?_⟩;exact⟨.ref D,H',_,I'.turned (t':=s'.toks) (fun b o hb e=>(Qp.2 b hb).trans e) QP QR (.inr R4) QS R5,rfl,e2.trans sm,MT,fin out pv⟩
end
def BM(osc sc:Scope)(xs ns:yah):Bool :=
 decide (sc.kind=.function) && (sc.names.all fun y=>decide (y.2 ≠ .cell)) && (sc.names.all fun y=>decide (y.2=.local->sc.names.lookup y.1=some .local)) && (xs.all fun x=>decide (sc.names.lookup x=some .local)) &&
 (sc.names.all fun y=>decide (y.2=.free->y.1∈ns/\osc.names.lookup y.1=some .cell)) && (ns.all fun n=>decide (sc.names.lookup n=some .free/\osc.names.lookup n=some .cell)) && decide (xs++ns).Nodup
theorem cL{osc sc:Scope}{xs ns:yah}(h:BM osc sc xs ns=true):PJ osc sc xs ns:=by unfold BM at h;simp only[N6]at h;obtain⟨⟨⟨⟨⟨⟨h1,h2⟩,h3⟩,h4⟩,h5⟩,h6⟩,h7⟩:=h;exact⟨Qw h1,fun y hy=>Qw (O5.mp h2 y hy),fun y hy=>Qw (O5.mp h3 y hy),fun x hx=>Qw (O5.mp h4 x hx),fun y hy=>Qw (O5.mp h5 y hy),fun n hn=>Qw (O5.mp h6 n hn),Qw h7⟩
inductive OT:yai->yah->Prop where
 |nil:OT [] []
 |cons {x:Str} {p:Pos} {es:yai} {xs:yah} (h:OT es xs):OT (.Name x p::es) (x::xs)
def km:Nat->Nat->Pz
 |_,0=>gp
 |i,n+1=>bp (kr i) (km (i+1) n)
theorem mL:∀(ys:yas) (pre r0 Nf:Ro) (Q:Ro->Prop),r0.length=ys.length->Q (pre++ys.map (fun d=>some (Sl.val d))++Nf)->km pre.length ys.length ys (pre++r0++Nf) Q
 |[],pre,r0,Nf,Q,hl,h=>by have:r0=[]:=Qu hl;subst this;exact⟨rfl,h⟩
 |d::r,pre,r0,Nf,Q,hl,h=>by
  match r0,hl with
  |a::q,hl =>
   refine⟨d,r,rfl,?_⟩;show km (pre.length+1) r.length r ((pre++a::q++Nf).set pre.length (some (.val d))) Q;have e:(pre++a::q++Nf).set pre.length (some (Sl.val d))=(pre++[some (Sl.val d)])++q++Nf:=by rw[List.append_assoc,List.set_append_right _ _ (Ka _),Nat.sub_self];simp
   have e2:pre.length+1=(pre++[some (Sl.val d)]).length:=by simp
   rw[e,e2];refine mL r _ q Nf Q (by simpa using hl) ?_;simpa using h
section
variable{X:Cx}{sc:Scope}{ns xs:yah}{js:yag}
theorem OT.len{env:Env}:∀{es:yai} {ys:yah},OT es ys->(assignEach es env).length=ys.length/\(assignEach es env).findIdx? (·.1)=none
 |_,_,.nil=>⟨rfl,rfl⟩
 |_,_,.cons (x:=x) (p:=p) (es:=es) h=>by obtain⟨h1,h2⟩:=OT.len (env:=env) h;have e:assignEach (.Name x p::es) env=(false,assign (.Name x p) env)::assignEach es env:=rfl;rw[e];refine⟨by rw[MM,h1];rfl,?_⟩;rw[List.findIdx?_cons,h2];rfl
theorem jC{C:Addr}{GY:Shared}{Hn:Hp}{fp:yae}{XE:yaa}(S:PJ X.env.scope sc xs ns):∀{es:yai} {ys:yah} (i:Nat),OT es ys->(∀k y,ys[k]?=some y->xs[i+k]?=some y)->nK (aN X sc ns xs C GY Hn fp XE) es (km i ys.length)
 |_,_,_,.nil,_=>tZ
 |_,_,i,.cons (x:=x) (xs:=ys) h,hk=>by
  have hx:xs[i]?=some x:=hk 0 x rfl;have tl:(compEnvC sc (cB X.env ns) C X.env).scope.names.lookup x=some .local:=lookup_relabel_local (S.Wi x (Rq hx));have hN:(xs++ns)[i]?=some x:=by rw[Rp (OX.mp hx).1];exact hx
  exact eh (df (X:=aN X sc ns xs C GY Hn fp XE) i S.nd hN (.inl tl) (.inr tl)) (jC S (i+1) h fun k y e=>by have:=hk (k+1) y e;rw[show i+(k+1)=i+1+k by omega]at this;exact this)
variable{elt iter:Expr}{ifs es:yai}{kt:Nat}{tp pos:Pos}{te:DE}{tc:DT}{wi:DA}
def gJ(ys:yas):Ro:=ys.map fun d=>some (Sl.val d)
def j8(n:Nat)(wi:DA)(js:yag)(tc:DT)(te:DE):DE:=fun ρ Q=>wi ρ fun ds=>ds.length<=sizeLine/\∃Pv:Nat->yas->Prop,Pv 0 [] ∧
 (∀j d out,ds[j]?=some d->Pv j out->∃ys,(d=.tup ys∨∃ t,d=.lst t ys)/\ys.length=n/\tc (gJ ys++js.map (bh ρ)) fun b=>if b=true then te (gJ ys++js.map (bh ρ)) (fun e=>Pv (j+1) (out++[e]))else Pv (j+1) out)/\∀out,Pv ds.length out->Q (.lst true out)
theorem stepT{n:Nat}{ds:yas}{Pv:Nat->yas->Prop}{Nf:Ro}(step:∀j d out,ds[j]?=some d->Pv j out->∃ys,(d=.tup ys∨∃ t,d=.lst t ys)/\ys.length=n/\tc (gJ ys++Nf) fun b=>if b=true then te (gJ ys++Nf) (fun e=>Pv (j+1) (out++[e]))else Pv (j+1) out) :
  ∀ j d out LY,ds[j]?=some d->Pv j out->gP n Nf LY->eN n (km 0 n) d LY fun KR=>gP n Nf KR/\tc KR fun b=>if b=true then te KR (fun e=>Pv (j+1) (out++[e]))else Pv (j+1) out:=by
 rintro j d out LY hd hp ⟨r0,hl,rfl⟩;obtain⟨ys,e,hn,h⟩:=step j d out hd hp;refine⟨ys,e,hn,?_⟩;subst hn;exact mL ys [] r0 Nf _ hl ⟨⟨gJ ys,by simp[gJ],rfl⟩,h⟩
theorem sN{y:Str}{py N0:Pos}(i:Nat)(hN:X.N.Nodup)(hc:X.calm=true)(S:PJ X.env.scope sc xs ns)(hj:bE X.N ns js)(hn:OT es xs)(hi:Oa X (.Tuple es kt tp) iter wi)(ht:∀(C:Addr) (GY:Shared) (Hn:Hp) (fp:yae) (XE:yaa),PN (aN X sc ns xs C GY Hn fp XE) ifs tc)
  (he:∀(C:Addr) (GY:Shared) (Hn:Hp) (fp:yae) (XE:yaa),Hs (aN X sc ns xs C GY Hn fp XE) elt te) (hy:X.N[i]?=some y:=by rfl) (R7:X.env.scope.names.lookup y=some .local:=by rfl) (Ma:closureFor sc X.env=pure (cB X.env ns):=by rfl) (hs:∀x,foldedSetIterable iter X.env x=pure x:=by intro _;rfl)
  (R8:swapsWith (.ListComp elt [⟨.Tuple es kt tp,iter,ifs,0⟩] sc pos) (some (.Name y py)) N0.line X.env=pure true:=by rfl) :
  Nd X (.Assign [.Name y py] (.ListComp elt [⟨.Tuple es kt tp,iter,ifs,0⟩] sc pos) N0) (uS i (j8 xs.length wi js tc te)):=by
 intro pins s σ H W ρ E I r h;rw[exec_Assign_Name_used _ _ _ _ R8];refine G0 (Ry (G0 ?_));show wpAny _ X.A (do let _←comprehension (.ListComp elt [⟨.Tuple es kt tp,iter,ifs,0⟩] sc pos) sc X.env _ (newList []) false (eval iter X.env) (some (assign (.Name y py) X.env))) _ _ s;refine G0 (L3 (UW (use:=some (assign (.Name y py) X.env)) (Q:=fun _ s'=>Py X pins W H E .next s') rfl hs Ma S.kind S.names
  (GU (hi pins s σ H W ρ _ I r h) fun v s1 h1=>GU h1 fun Pt s2 h2=>?_)) (fun _ s' hq=>JR (JR hq)) fun _ _ e=>e)
 obtain⟨it,fp,tn,J,H2,ds,e,I2,e2,T,OZ,f2,yd,hz,Pv,p0,step,fin⟩:=h2;subst e;refine gn (RR:=fun acc C=>compPost (model X.prog X.w) X.A X.xe (some (assign (.Name y py) X.env)) (fun _ s'=>Py X pins W H E .next s') acc C) hc S hj (Ed:=fun _=>False) (fun C GY Hn fp XE _=>he C GY Hn fp XE) (fun C GY Hn fp XE _=>ht C GY Hn fp XE) (fun _ _=>bF.no) I2 (r.same e2) (fun C GY Hn fp XE=>qW (X:=aN X sc ns xs C GY Hn fp XE) hc (jC S 0 hn fun k y q=>by simpa using q) (OT.len hn).1 (OT.len hn).2) T OZ f2 yd hz Pv p0 (stepT step) ?_;intro D C s' H' m' out I' sm Ph QP QR R4 QS R5 ⟨hn,hk,vs,hD,JS⟩ pv;have MT:Den X.K W.bad H' (.lst true out) (.ref D):=Den.lst ((r.same e2).fresh hn) (.new hD hk) (JS.HF fun _ _ z=>.inl z);have rr:=(r.same e2).same sm;show wpAny _ X.A (assign (.Name y py) X.env (.ref D)) _ _ _;refine wpAny_assign_Name (kX (v:=.ref D) I' hN hy (.inl R7) rfl (fun s3 I3 ⟨a,Qp,ha⟩=>?_) (.inr R7));have MC:C≠a:=by
  rcases ha with z|z
  ·rw[z];exact QR
  ·exact fun q=>QS y a z q.symm
 refine⟨m',Ph.sameBut Qp MC,fun h' R9=>?_⟩;refine⟨W.drop i,_,H',I3.turned (t':=s3.toks) (fun b o hb e=>(R9.2 b hb).trans e) QP QR (.inr R4) QS R5,(JA.same (e2.trans sm)).trans (JA.drop W H' i),_,rr.put (Inv.QJ I' hy) MT,fin out pv⟩
end
theorem vW{α:Type}{n:Nat}{wi:DA}{js:yag}{tc:DT}{te:DE}{ρ:Ro}{Q:D->Prop}(zs:List α)(f:α->yas)(c:α->Bool)(g:α->D)(hw:∀R:yas->Prop,R (zs.map fun z=>.tup (f z))->wi ρ R)(hz:zs.length<=sizeLine)(hn:∀z,(f z).length=n)
  (hc:∀z∈zs,∀K:Bool->Prop,K (c z)->tc (gJ (f z)++js.map (bh ρ)) K) (he:∀z∈zs,c z=true->∀K:D->Prop,K (g z)->te (gJ (f z)++js.map (bh ρ)) K) (q:Q (.lst true ((zs.filter c).map g))):j8 n wi js tc te ρ Q:=by
 refine hw _ ⟨by rw[Kj];exact hz,fun j out=>out=((zs.take j).filter c).map g,by simp,fun j d out hd ho=>?_,fun out ho=>?_⟩
 ·rw[Of]at hd;cases ex:zs[j]? with
  |none=>rw[ex]at hd;cases hd
  |some x =>
   rw[ex]at hd;cases hd;have hm:x∈zs:=Rq ex;have ht:zs.take (j+1)=zs.take j++[x]:=by rw[List.take_succ,ex];rfl
   refine⟨f x,.inl rfl,hn x,hc x hm _ ?_⟩;by_cases z:c x=true
   ·rw[G4 z];refine he x hm z _ ?_;show _=List.map g (List.filter c (List.take (j+1) zs));rw[ht,ho,U4,OK];simp[z]
   ·rw[GS z];show _=List.map g (List.filter c (List.take (j+1) zs));rw[ht,ho,U4];simp[z]
 ·rw[Kj,P9 (Ka _)]at ho;rw[ho];exact q
theorem CY(k:Bool)(R:Int->Prop)(S:Bool->Prop):((∃i:Int,[D.bl k]=[.int i]/\R i)∨∃ j:Bool,[D.bl k]=[.bl j]/\S j)=S k:=by
 apply propext;constructor
 ·rintro(⟨_,e,_⟩| ⟨_,e,q⟩)
  ·cases e
  ·cases e;exact q
 ·intro q;exact .inr ⟨k,rfl,q⟩
theorem Dr(b:Bool):okD (.bl b):=by unfold okD;rw[Km,NC]<;>first|exact⟨rfl,rfl⟩| (intros;contradiction)
theorem yN(i:Int):okD (.int i)=True:=eq_true (uh i)
theorem AQ(b:Bool):okD (.bl b)=True:=eq_true (Dr b)
theorem yO:okD .HZ=True:=eq_true ui
theorem AR(a b c:Int):okD (.tup [.int a,.int b,.int c])=True:=eq_true (Ds a b c)
theorem tT(i j:Int):eqD (.int i) (.int j)=decide (i=j):=rfl
theorem wH(i j:Bool):eqD (.bl i) (.bl j)=decide (i=j):=by unfold eqD;rw[Km,Km];cases i<;>cases j<;>rfl
theorem CZ(t:Bool)(xs:yas)(R:yas->Prop):(∃t' ds,D.lst t xs=.lst t' ds/\R ds)=R xs:=by
 apply propext;constructor
 ·rintro⟨_,_,e,q⟩;cases e;exact q
 ·intro q;exact⟨t,xs,rfl,q⟩
theorem Aw(ds:yas)(r:Ro)(R:yas->Prop):(∃Mf,(some (Sl.own ds)::r)[0]?=some (some (Sl.own Mf))/\R Mf)=R ds:=by
 apply propext;constructor
 ·rintro⟨_,e,q⟩;have e':some (some (Sl.own ds))=some (some (Sl.own _)):=e;cases e';exact q
 ·intro q;exact⟨ds,rfl,q⟩
theorem Ax(n:Nat)(x:Option Sl)(r:Ro)(R:yas->Prop):(∃Mf,(x::r)[n+1]?=some (some (Sl.own Mf))/\R Mf)=(∃Mf,r[n]?=some (some (Sl.own Mf))/\R Mf):=rfl
theorem CJ(d:D)(r:Ro):bh (some (.val d)::r) 0=some (.val d):=rfl
theorem CL(r:Ro):bh (none::r) 0=none:=rfl
theorem CK(n:Nat)(x:Option Sl)(r:Ro):bh (x::r) (n+1)=bh r n:=rfl
def sg(n:Int):Int:=if 0<n then 1 else if n<0 then -1 else 0
def rk(a0 a1 a2 b0 b1 b2:Int):Int:=if sg (a1*b0 - b1*a0)=0 then sg (a2*b0 - b2*a0)else sg (a1*b0 - b1*a0)
structure Pl(n:Nat)(a b c:Int):Prop where
 pos:0<a
 low:PM.g3 a b c=1
 b0:Bd n a
 b1:Bd n b
 b2:Bd n c
structure GI(d:D)(b x y:Int):Prop where
 ex:∃p q r,d=T3 p q r/\Bd 4000 p/\Bd 4000 q/\Bd 4000 r/\0<p/\p*x=b*q/\p*y=b*r/\PM.g3 p q r=1
end PD
namespace PZ
open PySem PySem.Spec PyProof.Rows
def NS:Bool->Heap->Addr->Addr->Nat->Prop
 |true,h,it,a,i=>h.IsListIter it a i
 |false,h,it,a,i=>h.IsTupleIter it a i
def N1:Bool->Heap->Addr->yao->Prop
 |true,h,a,xs=>h.IsList a xs
 |false,h,a,xs=>h.IsTuple a xs
def fX:Bool->String
 |true => "list_iterator"
 |false => "tuple_iterator"
section
variable{k:Bool}{h h':Heap}{it a b:Addr}{i:Nat}{xs:yao}
theorem NS.of(x:NS k h it a i)(e:∀o,h.get? it=some o->h'.get? it=some o):NS k h' it a i:=by
 cases k with
 |true=>obtain⟨o,ho,r⟩:=x;exact⟨o,e o ho,r⟩
 |false=>obtain⟨o,ho,r⟩:=x;exact⟨o,e o ho,r⟩
theorem N1.of(x:N1 k h a xs)(e:∀o,h.get? a=some o->h'.get? a=some o):N1 k h' a xs:=by
 cases k with
 |true=>obtain⟨o,ho,r⟩:=x;exact⟨o,e o ho,r⟩
 |false=>obtain⟨o,ho,r⟩:=x;exact⟨o,e o ho,r⟩
theorem NS.obj(x:NS k h it a i):∃o,h.get? it=some o/\o.cls=.type (fX k)/\o.data=.fields #[.ref a,.int i 0]:=by
 cases k with
 |true=>exact x
 |false=>exact x
end
section
variable{prog:Program}{w:World}{A:Around}{E:yaa}{s:Shared}{k:Bool}{it a:Addr}{i:Nat}{xs:yao}
theorem u7{x:Value}{Q:yaa}(hi:NS k s.heap it a i)(hs:N1 k s.heap a xs)(hx:xs[i]?=some x)(hQ:∀h',NS k h' it a (i+1)->Heap.SameBut it s.heap h'->Q x {s with heap:=h'}) :
  wpAny (model prog w) A (Builtin.SmallTypes.nextOf (.ref it)) Q E s:=by
 cases k with
 |true=>exact wpAny_nextOf_list_item hi hs hx hQ
 |false =>
  obtain⟨o,ho,hc,hd⟩:=id hi;obtain⟨oq,hq,_,nq,WB⟩:=hs;unfold Builtin.SmallTypes.nextOf;refine G0 (SQ (name:=Str.ofString "__next__") (UX hi) F.slot_tuple_iterator_next (S6 F.slot_tuple_iterator_next (UX hi) F.entry_tuple_iterator_next ?_ (F.args_tuple_iterator_next_1 _)));show wpAny _ _ (field (.ref it) 0 >>= _) _ _ s;refine G0 (Nv ho hd (x:=.ref a) rfl ?_);show wpAny _ _ (if(Value.ref a==Value.none)=true then _ else _) _ _ s;rw[GS (show¬((Value.ref a==Value.none)=true)from NQ)];show wpAny _ _ (field (.ref it) 1 >>= _) _ _ s;refine G0 (Nv ho hd (x:=.int i 0) rfl ?_);show wpAny _ _ (seqItems? (.ref a) >>= _) _ _ s;refine G0 (Qe hq WB ?_);simp only[Int.toNat_natCast,hx];refine G0 (wpAny_setField ho hd (by simp) (JR ⟨x,rfl,JR (hQ _ ⟨_,Heap.get?_update_self _ ho (Obj.isFreed_of_fields (Obj.data_mapFields hd _)),(Obj.cls_mapFields ..).trans hc,by rw[Obj.data_mapFields hd];simp[rawInt]⟩ (Heap.SameBut.update ..))⟩))
theorem zL{Q:yaa}(hh:A.handled=none)(hi:NS k s.heap it a i)(hs:N1 k s.heap a xs)(hx:xs[i]?=none)
  (hE:∀h' e,Heap.ExtBut it s.heap h'->(∃o,h'.get? e=some o/\o.cls=.type "StopIteration")->E (.ref e) {s with heap:=h'}):wpAny (model prog w) A (Builtin.SmallTypes.nextOf (.ref it)) Q E s:=by
 cases k with
 |true=>exact wpAny_nextOf_list_end hh hi hs hx hE
 |false =>
  obtain⟨o,ho,hc,hd⟩:=id hi;obtain⟨oq,hq,_,nq,WB⟩:=hs;unfold Builtin.SmallTypes.nextOf;refine G0 (SQ (name:=Str.ofString "__next__") (UX hi) F.slot_tuple_iterator_next (S6 F.slot_tuple_iterator_next (UX hi) F.entry_tuple_iterator_next ?_ (F.args_tuple_iterator_next_1 _)));show wpAny _ _ (field (.ref it) 0 >>= _) _ _ s;refine G0 (Nv ho hd (x:=.ref a) rfl ?_);show wpAny _ _ (if(Value.ref a==Value.none)=true then _ else _) _ _ s;rw[GS (show¬((Value.ref a==Value.none)=true)from NQ)];show wpAny _ _ (field (.ref it) 1 >>= _) _ _ s;refine G0 (Nv ho hd (x:=.int i 0) rfl ?_);show wpAny _ _ (seqItems? (.ref a) >>= _) _ _ s;refine G0 (Qe hq WB ?_);simp only[Int.toNat_natCast,hx];refine G0 (wpAny_rule (G0 (wpAny_setField ho hd (by simp) ?_)));show wpAny _ _ (newExc (.type "StopIteration") [] >>= _) _ _ _;refine G0 ?_;simp only[newExc,newTuple];refine G0 (wpAny_newObj_type ?_ (by size_fits));refine G0 (m:=firstArgMember _ _) (wpAny_of_eq (a:=Value.none) (by simp only[firstArgMember];rfl) ?_);refine wpAny_newObj_type ?_ (by size_fits);simp only[raiseNew];refine G0 (wpAny_handled ?_);first|rw[show A.in1.handled=none from hh]|rw[hh]
  exact G0 (JR (wpAny_throw (hE _ _ (((Heap.SameBut.update ..).extBut.push _).push _) ⟨_,Mv _ rfl,rfl⟩)))
end
structure Ap(z TI TO i1 i2:Addr):Prop where
 a1:TI≠z
 a2:TO≠z
 a3:i1≠z
 a4:i2≠z
 a5:TI≠TO
 a6:TI≠i1
 a7:TI≠i2
 a8:TO≠i1
 a9:TO≠i2
 b1:i1≠i2
structure Out(z TO i1 i2 l:Addr):Prop where
 c1:l≠z
 c2:l≠TO
 c3:l≠i1
 c4:l≠i2
structure Ui(k1 k2:Bool)(z TI TO i1 i2 l1 l2:Addr)(i:Nat)(h:Heap):Prop where
 z:IsZip h z TI TO .none
 ti:IsPair h TI (.ref i1) (.ref i2)
 to:∃a b,IsPair h TO a b
 s1:NS k1 h i1 l1 i
 s2:NS k2 h i2 l2 i
section
variable{prog:Program}{w:World}{A:Around}{E:yaa}{s:Shared}{k1 k2:Bool}{z TI TO i1 i2 l1 l2:Addr}{i:Nat}{xs ys:yao}
theorem FD{x y:Value}{Q:yan->Shared->Prop}(D:Ap z TI TO i1 i2)(D1:Out z TO i1 i2 l1)(D2:Out z TO i1 i2 l2)(Z:Ui k1 k2 z TI TO i1 i2 l1 l2 i s.heap)(q1:N1 k1 s.heap l1 xs)(q2:N1 k2 s.heap l2 ys)(hx:xs[i]?=some x)(hy:ys[i]?=some y)
  (hQ:∀h',IsZip h' z TI TO (rawInt s.heap.objs.size)->IsPair h' TI (.ref i1) (.ref i2)->IsPair h' TO x y->NS k1 h' i1 l1 (i+1)->NS k2 h' i2 l2 (i+1)->IsPair h' s.heap.objs.size x y →
   (∀c o,c≠z->c≠TO->c≠i1->c≠i2->s.heap.get? c=some o->h'.get? c=some o)->Q (some (.ref s.heap.objs.size)) {s with heap:=h'}):wpAny (model prog w) A (pyNext (.ref z)) Q E s:=by
 obtain⟨hz,Qq,⟨a,b,QT⟩,h1,h2⟩:=Z;have hT:s.TypeIs (.ref z) "zip" := ⟨_,hz,rfl⟩;unfold pyNext;refine G0 (wpAny_attempt (SQ (name:=Str.ofString "__next__") hT F.slot_zip_next (S6 F.slot_zip_next hT F.entry_zip_next ?_ (F.args_zip_next_1 _))));show wpAny _ _ (field (.ref z) 2 >>= _) _ _ _;refine G0 (Nv hz rfl (x:=.bool false) rfl ?_);show wpAny _ _ (field (.ref z) 3 >>= _) _ _ _;refine G0 (Nv hz rfl (x:=.ref TI) rfl (G0 (Qe Qq rfl ?_)));show wpAny _ _ (Builtin.SmallTypes.ownedTupleIsFree (.ref z) >>= _) _ _ _;refine G0 ?_;unfold Builtin.SmallTypes.ownedTupleIsFree;refine G0 (Nv hz rfl (x:=.none) rfl (JR ?_));simp only[if_true];refine G0 (wpAny_rule (G0 (Nv hz rfl (x:=.ref TO) rfl ?_)));refine G0 (Su hz (by simp) fun g1 (z1:IsZip g1 z TI TO .ellipsis) b1=>G0 ?_);simp only[List.zipIdx_cons,List.zipIdx_nil,List.forIn_cons,List.forIn_nil];have NG:∀c o,c≠z->s.heap.get? c=some o->g1.get? c=some o:=fun c o n e=>b1.extBut c o n e
 refine G0 (G0 (wpAny_onRaise ?_));show wpAny _ _ (Builtin.SmallTypes.nextOf (.ref i1) >>= _) _ _ _;refine G0 (u7 (s:={s with heap:=g1}) (h1.of fun o e=>NG _ o D.a3 e) (q1.of fun o e=>NG _ o D1.c1 e) hx fun g2 n2 b2=>JR ?_);have t2:IsPair g2 TO a b:=b2.extBut _ _ D.a8 (NG _ _ D.a2 QT);refine G0 (Qe t2 rfl (G0 (wpAny_updateSeq_pair t2 fun g3 (t3:IsPair g3 TO x b) b3=>G0 (wpAny_letGo (JR ?_)))));have k3:∀c o,c≠z->c≠TO->c≠i1->s.heap.get? c=some o->g3.get? c=some o:=fun c o n1 n2 n3 e=>b3.extBut c o n2 (b2.extBut c o n3 (NG c o n1 e))
 refine G0 (G0 (wpAny_onRaise ?_));show wpAny _ _ (Builtin.SmallTypes.nextOf (.ref i2) >>= _) _ _ _;refine G0 (u7 (s:={s with heap:=g3}) (h2.of fun o e=>k3 _ o D.a4 (Ne.symm D.a9) (Ne.symm D.b1) e) (q2.of fun o e=>k3 _ o D2.c1 D2.c2 D2.c3 e) hy fun g4 n4 b4=>JR ?_);have t4:IsPair g4 TO x b:=b4.extBut _ _ D.a9 t3;refine G0 (Qe t4 rfl (G0 (wpAny_updateSeq_pair t4 fun g5 (t5:IsPair g5 TO x y) b5=>G0 (wpAny_letGo (JR (JR ?_))))));refine G0 (Qe t5 rfl (G0 (wpAny_newTuple ?_)));have sz:g5.objs.size=s.heap.objs.size:=by rw[b5.1,b4.1,b3.1,b2.1,b1.1]
 have k5:∀c o,c≠z->c≠TO->c≠i1->c≠i2->s.heap.get? c=some o->g5.get? c=some o:=fun c o n1 n2 n3 n4 e=>b5.extBut c o n2 (b4.extBut c o n4 (k3 c o n1 n2 n3 e))
 have z5:IsZip g5 z TI TO .ellipsis:=b5.extBut _ _ (Ne.symm D.a2) (b4.extBut _ _ (Ne.symm D.a4) (b3.extBut _ _ (Ne.symm D.a2) (b2.extBut _ _ (Ne.symm D.a3) z1)));have s15:NS k1 g5 i1 l1 (i+1):=n2.of fun o e=>b5.extBut _ o (Ne.symm D.a8) (b4.extBut _ o D.b1 (b3.extBut _ o (Ne.symm D.a8) e))
 have Vj:NS k2 g5 i2 l2 (i+1):=n4.of fun o e=>b5.extBut _ o (Ne.symm D.a9) e
 have zl:z<g5.objs.size:=J9 z5;show wpAny _ _ (Builtin.SmallTypes.ownedTupleHandOut (.ref z) (.ref g5.objs.size) >>= _) _ _ _;refine G0 ?_;unfold Builtin.SmallTypes.ownedTupleHandOut;have z6:IsZip (g5.push {cls:=.type "tuple", data:=.seq #[x,y]}) z TI TO .ellipsis:=KU _ z5;refine G0 (Su z6 (by simp) fun g7 (z7:IsZip g7 z TI TO (rawInt g5.objs.size)) b7=>Su z7 (by simp) fun g8 (z8:IsZip g8 z TI TO (rawInt g5.objs.size)) b8=>JR ?_);have up:∀c o,c≠z->g5.get? c=some o->g8.get? c=some o:=fun c o n e=>b8.extBut c o n (b7.extBut c o n (KU _ e))
 have p8:IsPair g8 g5.objs.size x y:=b8.extBut _ _ (Nat.ne_of_gt zl) (b7.extBut _ _ (Nat.ne_of_gt zl) (Mv _ rfl));refine⟨_,rfl,?_⟩;rw[sz]at z8 p8;refine JR ?_;show Q (some (.ref g5.objs.size)) _;rw[sz];exact hQ g8 z8 (up _ _ D.a1 (k5 _ _ D.a1 D.a5 D.a6 D.a7 Qq)) (up _ _ D.a2 t5) (s15.of fun o e=>up _ o D.a3 e) (Vj.of fun o e=>up _ o D.a4 e) p8 fun c o n1 n2 n3 n4 e=>up c o n1 (k5 c o n1 n2 n3 n4 e)
theorem FE{Q:yan->Shared->Prop}(hh:A.handled=none)(D:Ap z TI TO i1 i2)(D1:Out z TO i1 i2 l1)(D2:Out z TO i1 i2 l2)(Z:Ui k1 k2 z TI TO i1 i2 l1 l2 i s.heap)(q1:N1 k1 s.heap l1 xs)(q2:N1 k2 s.heap l2 ys)(Sa:xs[i]?=none∨ys[i]?=none)
  (hQ:∀h',(∀c o,c≠z->c≠TO->c≠i1->c≠i2->s.heap.get? c=some o->h'.get? c=some o)->Q none {s with heap:=h'}):wpAny (model prog w) A (pyNext (.ref z)) Q E s:=by
 obtain⟨hz,Qq,⟨a,b,QT⟩,h1,h2⟩:=Z;have hT:s.TypeIs (.ref z) "zip" := ⟨_,hz,rfl⟩;unfold pyNext;refine G0 (wpAny_attempt (SQ (name:=Str.ofString "__next__") hT F.slot_zip_next (S6 F.slot_zip_next hT F.entry_zip_next ?_ (F.args_zip_next_1 _))));show wpAny _ _ (field (.ref z) 2 >>= _) _ _ _;refine G0 (Nv hz rfl (x:=.bool false) rfl ?_);show wpAny _ _ (field (.ref z) 3 >>= _) _ _ _;refine G0 (Nv hz rfl (x:=.ref TI) rfl (G0 (Qe Qq rfl ?_)));show wpAny _ _ (Builtin.SmallTypes.ownedTupleIsFree (.ref z) >>= _) _ _ _;refine G0 ?_;unfold Builtin.SmallTypes.ownedTupleIsFree;refine G0 (Nv hz rfl (x:=.none) rfl (JR ?_));simp only[if_true];refine G0 (wpAny_rule (G0 (Nv hz rfl (x:=.ref TO) rfl ?_)));refine G0 (Su hz (by simp) fun g1 (z1:IsZip g1 z TI TO .ellipsis) b1=>G0 ?_);simp only[List.zipIdx_cons,List.zipIdx_nil,List.forIn_cons,List.forIn_nil];have NG:∀c o,c≠z->s.heap.get? c=some o->g1.get? c=some o:=fun c o n e=>b1.extBut c o n e
 refine G0 (G0 (wpAny_onRaise ?_));show wpAny _ _ (Builtin.SmallTypes.nextOf (.ref i1) >>= _) _ _ _;cases hx:xs[i]? with
 |none =>
  refine G0 (zL (s:={s with heap:=g1}) hh (h1.of fun o e=>NG _ o D.a3 e) (q1.of fun o e=>NG _ o D1.c1 e) hx fun g2 e b2 he=>?_);obtain⟨oe,ho,hc⟩:=he;have z2:IsZip g2 z TI TO .ellipsis:=b2 _ _ (Ne.symm D.a3) z1;have nz:e≠z:=fun q=>by subst q;rw[z2]at ho;cases ho;simp at hc
  refine Su z2 (by simp) fun g3 _ b3=>G0 (wpAny_isInstance (T := "StopIteration") (b:=true) ⟨oe,b3.extBut _ _ nz ho,hc⟩ isSubtype_stop ?_)
  exact JR (hQ g3 fun c o n1 _ n3 _ q=>b3.extBut c o n1 (b2 c o n3 (NG c o n1 q)))
 |some x =>
  have hy:ys[i]?=none:=by
   rcases Sa with q|q
   ·rw[hx]at q;cases q
   ·exact q
  refine G0 (u7 (s:={s with heap:=g1}) (h1.of fun o e=>NG _ o D.a3 e) (q1.of fun o e=>NG _ o D1.c1 e) hx fun g2 n2 b2=>JR ?_);have t2:IsPair g2 TO a b:=b2.extBut _ _ D.a8 (NG _ _ D.a2 QT);refine G0 (Qe t2 rfl (G0 (wpAny_updateSeq_pair t2 fun g3 t3 b3=>G0 (wpAny_letGo (JR ?_)))));have k3:∀c o,c≠z->c≠TO->c≠i1->s.heap.get? c=some o->g3.get? c=some o:=fun c o n1 n2 n3 e=>b3.extBut c o n2 (b2.extBut c o n3 (NG c o n1 e))
  refine G0 (G0 (wpAny_onRaise ?_));show wpAny _ _ (Builtin.SmallTypes.nextOf (.ref i2) >>= _) _ _ _;refine G0 (zL (s:={s with heap:=g3}) hh (h2.of fun o e=>k3 _ o D.a4 (Ne.symm D.a9) (Ne.symm D.b1) e) (q2.of fun o e=>k3 _ o D2.c1 D2.c2 D2.c3 e) hy fun g4 e b4 he=>?_);obtain⟨oe,ho,hc⟩:=he;have z4:IsZip g4 z TI TO .ellipsis:=b4 _ _ (Ne.symm D.a4) (b3.extBut _ _ (Ne.symm D.a2) (b2.extBut _ _ (Ne.symm D.a3) z1));have nz:e≠z:=fun q=>by subst q;rw[z4]at ho;cases ho;simp at hc
  refine Su z4 (by simp) fun g5 _ b5=>G0 (wpAny_isInstance (T := "StopIteration") (b:=true) ⟨oe,b5.extBut _ _ nz ho,hc⟩ isSubtype_stop ?_)
  exact JR (hQ g5 fun c o n1 n2 n3 n4 q=>b5.extBut c o n1 (b4 c o n4 (k3 c o n1 n2 n3 q)))
theorem zJ{k:Bool}{a:Addr}{Q:yaa}(q:N1 k s.heap a xs)(hQ:Q (.ref s.heap.objs.size) {s with heap:=s.heap.push {cls:=.type (fX k),data:=.fields #[.ref a,.int 0 0]} }):wpAny (model prog w) A (pyIter (.ref a)) Q E s:=by
 cases k with
 |true=>exact wpAny_pyIter_list q hQ
 |false=>exact wpAny_pyIter_tuple q hQ
end
abbrev zp1(k1:Bool)(h:Heap)(l1:Addr):Heap:=h.push {cls:=.type (fX k1),data:=.fields #[.ref l1,.int 0 0]}
abbrev Uj(k1 k2:Bool)(h:Heap)(l1 l2:Addr):Heap:=(zp1 k1 h l1).push {cls:=.type (fX k2),data:=.fields #[.ref l2,.int 0 0]}
abbrev Uk (k1 k2:Bool) (h:Heap) (l1 l2:Addr):Heap:=(Uj k1 k2 h l1 l2).push {cls:=.type "tuple", data:=.seq #[.ref h.objs.size,.ref (zp1 k1 h l1).objs.size]}
abbrev Ul (k1 k2:Bool) (h:Heap) (l1 l2:Addr):Heap:=(Uk k1 k2 h l1 l2).push {cls:=.type "tuple", data:=.seq #[.none,.none]}
abbrev Sb (k1 k2:Bool) (h:Heap) (l1 l2:Addr):Heap:=(Ul k1 k2 h l1 l2).push {cls:=.type "zip", data:=.fields #[.none,.bool false,.bool false,.ref (Uj k1 k2 h l1 l2).objs.size,.ref (Uk k1 k2 h l1 l2).objs.size]}
theorem GG (k1 k2:Bool) (l1 l2:Addr) (xs ys:yao):Meets (Builtin.«zip.__new__» ⟨[.type "zip", .ref l1,.ref l2],[]⟩) (fun _ R s=>N1 k1 s.heap l1 xs/\N1 k2 s.heap l2 ys/\R (.ok (.ret (.ref (Ul k1 k2 s.heap l1 l2).objs.size))) {s with heap:=Sb k1 k2 s.heap l1 l2}) :=
 .of_wp fun prog w A R s h=>by
  obtain⟨hp,g,d,tk,os⟩:=s;obtain⟨q1,q2,h⟩:=h;have hsub:=sub_zip;have p1:N1 k1 (Shared.heap ⟨hp,g,d,tk,os⟩) l1 xs:=q1;have p2:N1 k2 (Shared.heap ⟨hp.push {cls:=.type (fX k1),data:=.fields #[.ref l1,.int 0 0]},g,d,tk,os⟩) l2 ys:=q2.of fun o e=>KU _ e
  wp_walk using zJ p1,zJ p2
  exact⟨_,rfl,h⟩
section
variable{prog:Program}{w:World}{A:Around}{E:yaa}{s:Shared}{k1 k2:Bool}{l1 l2:Addr}{xs ys:yao}
theorem FC{Q:yaa}(q1:N1 k1 s.heap l1 xs)(q2:N1 k2 s.heap l2 ys)
  (hQ:∀h',Ui k1 k2 (s.heap.objs.size+4) (s.heap.objs.size+2) (s.heap.objs.size+3) s.heap.objs.size (s.heap.objs.size+1) l1 l2 0 h'->(∀c o,s.heap.get? c=some o->h'.get? c=some o)->Q (.ref (s.heap.objs.size+4)) {s with heap:=h'}) :
  wpAny (model prog w) A (call (.type "zip") [.ref l1,.ref l2]) Q E s:=by
 refine callType_new F.called_zip (by decide) (F.typeCall_zip_2 _ _) (F.newCall_zip_2 _ _) (fun obj=>F.args_object_init_3 obj _ _) F.entry_zip_new (GG k1 k2 l1 l2 xs ys) ⟨q1,q2,?_⟩;have n1:(zp1 k1 s.heap l1).objs.size=s.heap.objs.size+1:=Rx ..;have n2:(Uj k1 k2 s.heap l1 l2).objs.size=s.heap.objs.size+2:=by rw[Rx,n1]
 have n3:(Uk k1 k2 s.heap l1 l2).objs.size=s.heap.objs.size+3:=by rw[Rx,n2]
 have n4:(Ul k1 k2 s.heap l1 l2).objs.size=s.heap.objs.size+4:=by rw[Rx,n3]
 have up5:∀c o,(Ul k1 k2 s.heap l1 l2).get? c=some o->(Sb k1 k2 s.heap l1 l2).get? c=some o:=fun c o e=>KU _ e
 have up4:∀c o,(Uk k1 k2 s.heap l1 l2).get? c=some o->(Sb k1 k2 s.heap l1 l2).get? c=some o:=fun c o e=>up5 c o (KU _ e)
 have up3:∀c o,(Uj k1 k2 s.heap l1 l2).get? c=some o->(Sb k1 k2 s.heap l1 l2).get? c=some o:=fun c o e=>up4 c o (KU _ e)
 have Vk:∀c o,(zp1 k1 s.heap l1).get? c=some o->(Sb k1 k2 s.heap l1 l2).get? c=some o:=fun c o e=>up3 c o (KU _ e)
 have g5:(Sb k1 k2 s.heap l1 l2).get? (Ul k1 k2 s.heap l1 l2).objs.size=some _:=Mv _ rfl;have g4:=up5 _ _ (Mv (Uk k1 k2 s.heap l1 l2) (o:={cls:=.type "tuple", data:=.seq #[.none,.none]}) rfl);have g3:=up4 _ _ (Mv (Uj k1 k2 s.heap l1 l2) (o:={cls:=.type "tuple", data:=.seq #[.ref s.heap.objs.size,.ref (zp1 k1 s.heap l1).objs.size]}) rfl);have g2:=up3 _ _ (Mv (zp1 k1 s.heap l1) (o:={cls:=.type (fX k2),data:=.fields #[.ref l2,.int 0 0]}) rfl);have g1:=Vk _ _ (Mv s.heap (o:={cls:=.type (fX k1),data:=.fields #[.ref l1,.int 0 0]}) rfl);have hQ':=hQ (Sb k1 k2 s.heap l1 l2);rw[n2,n3,n4]at g5;rw[n3]at g4;rw[n1,n2]at g3;rw[n1]at g2;have sit:∀{k:Bool} {h:Heap} {it a:Addr},h.get? it=some {cls:=.type (fX k),data:=.fields #[.ref a,.int 0 0]}->NS k h it a 0:=fun {k h it a} e=>by
  cases k with
  |true=>exact⟨_,e,rfl,rfl⟩
  |false=>exact⟨_,e,rfl,rfl⟩
 show _/\_;rw[n4];exact⟨⟨_,g5,rfl⟩,hQ' ⟨g5,g3,⟨_,_,g4⟩,sit g1,sit g2⟩ fun c o e=>Vk c o (KU _ e)⟩
end
end PZ
namespace PD
open PySem PySem.Spec PyProof.Rows L2 PZ
def NJ(K:yac):Bool->Hp->Addr->yar->Prop
 |true=>SqL K
 |false=>L2.JP K
section
variable{X:Cx}{pins:yab}{σ:St}{H:Hp}{s:Shared}{k:Bool}{a:Addr}{xs:yar}
theorem NJ.list(I:Inv X pins σ H s)(h:NJ X.K k H a xs):∃its:yad,Vals xs its/\N1 k s.heap a its.toArray:=by
 cases k with
 |true =>
  obtain⟨its,r,p,_⟩:=I.list h;exact⟨its,r,p.isList⟩
 |false =>
  obtain⟨its,r,p,_⟩:=I.tuple h;exact⟨its,r,p⟩
theorem NJ.inj(I:Inv X pins σ H s){ys:yar}(h:NJ X.K k H a xs)(h':NJ X.K k H a ys):xs=ys:=by
 cases k with
 |true=>exact I.NX h h'
 |false=>exact I.Nm h h'
theorem NJ.ne(I:Inv X pins σ H s){b:Addr}(f:cP X pins H b)(h:NJ X.K k H a xs):a≠b:=fun e=>by
 subst e;obtain⟨f0,f1,f2,f3,f4,f5⟩:=f;have kn:∀o,X.K.lookup a=some o->False:=fun o q=>by
  have hb:=I.ok.mod.Pa a o q;rcases f3 with z|z
  ·exact I.ok.Nx a o hb z
  ·exact absurd (LZ (J9 (I.ok.bs a o hb).1) z) (O8 _)
 cases k with
 |true =>
  rcases h with(h|⟨o,h⟩)|⟨o,its,n,h,_⟩
  ·rw[f0]at h;cases h
  ·rw[f0]at h;cases h
  ·exact kn o h
 |false =>
  rcases h with(h|⟨o,h⟩)|⟨o,its,n,h,_⟩
  ·rw[f0]at h;cases h
  ·rw[f0]at h;cases h
  ·exact kn o h
end
def Itz(K:yac)(k1 k2:Bool)(a b:Addr):It :=
 ⟨fun i H=>∃xs ys x y,NJ K k1 H a xs/\NJ K k2 H b ys/\xs[i]?=some x/\ys[i]?=some y,
  fun i H v H'=>∃T x y,v=.ref T/\H T=none/\H'=L2.upd H T (.tup [x,y])/\(∀xs,NJ K k1 H a xs->xs[i]?=some x)/\∀ys,NJ K k2 H b ys->ys[i]?=some y,
  fun i H=>∃xs ys,NJ K k1 H a xs/\NJ K k2 H b ys/\(xs[i]?=none∨ys[i]?=none)⟩
theorem zj{P:Program}{w:World}{K:yac}{es:yai}{kt:Nat}{tp:Pos}(k1 k2:Bool)(a b z TI TO i1 i2:Addr)(D:Ap z TI TO i1 i2) :
  Turn P w K (.Tuple es kt tp) (Itz K k1 k2 a b) [z,TI,TO,i1,i2] z (fun i h=>Ui k1 k2 z TI TO i1 i2 a b i h) where
 mem:=by simp
 obj:=fun i h st c hc=>by
  obtain⟨hz,Qq,⟨x,y,QT⟩,s1,s2⟩:=st;simp only[L0,O7,or_false]at hc;rcases hc with e|e|e|e|e<;>subst e
  ·exact⟨_,hz,fun v q=>by cases q⟩
  ·exact⟨_,Qq,fun v q=>by cases q⟩
  ·exact⟨_,QT,fun v q=>by cases q⟩
  ·obtain⟨o,q1,_,q2⟩:=s1.obj;exact⟨o,q1,fun v q=>by rw[q2]at q;cases q⟩
  ·obtain⟨o,q1,_,q2⟩:=s2.obj;exact⟨o,q1,fun v q=>by rw[q2]at q;cases q⟩
 keep:=fun i h h' st kp=>by obtain⟨hz,Qq,⟨x,y,QT⟩,s1,s2⟩:=st;exact⟨kp z (by simp) _ hz,kp TI (by simp) _ Qq,⟨x,y,kp TO (by simp) _ QT⟩,s1.of fun o e=>kp i1 (by simp) o e,s2.of fun o e=>kp i2 (by simp) o e⟩
 item:=by
  intro X hP hw hK hc i pins s σ H E I hf st hg;subst hP hw hK;obtain⟨xs,ys,x,y,q1,q2,hx,hy⟩:=hg;obtain⟨us,r1,p1⟩:=q1.list I;obtain⟨ws,r2,p2⟩:=q2.list I;obtain⟨u,hu,ru⟩:=r1.get hx;obtain⟨v,hv,rv⟩:=r2.get hy;have out:∀{k:Bool} {l:Addr} {zs:yar},NJ X.K k H l zs->Out z TO i1 i2 l:=fun q=>⟨q.ne I (hf z (by simp)),q.ne I (hf TO (by simp)),q.ne I (hf i1 (by simp)),q.ne I (hf i2 (by simp))⟩
  refine FD D (out q1) (out q2) st p1 p2 (x:=u) (y:=v) (by simpa using hu) (by simpa using hv) fun h' z1 ti to s1 s2 pr kp=>⟨_,rfl,wpAny_letOwnedTupleGo_zip z1 fun Qm z2 sb=>?_⟩
  have sz:s.heap.objs.size<=s.heap.objs.size:=Ka _;have nz:s.heap.objs.size≠z:=Nat.ne_of_gt (J9 st.z);have nT:H s.heap.objs.size=none:=I.IZ.fresh sz;have PU:∀c o,c ∉ [z,TI,TO,i1,i2]->s.heap.get? c=some o->Qm.get? c=some o:=fun c o n e=>by simp only[L0,O7,or_false,not_or]at n;exact sb.extBut c o n.1 (kp c o n.1 n.2.2.1 n.2.2.2.1 n.2.2.2.2 e)
  have OZ:Ui k1 k2 z TI TO i1 i2 a b (i+1) Qm:=⟨z2,sb.extBut _ _ D.a1 ti,⟨_,_,sb.extBut _ _ D.a2 to⟩,s1.of fun o e=>sb.extBut _ o D.a3 e,s2.of fun o e=>sb.extBut _ o D.a4 e⟩;have pr2:IsPair Qm s.heap.objs.size u v:=sb.extBut _ _ nz pr;have lo:∀c ∈ [z,TI,TO,i1,i2],c≠s.heap.objs.size:=fun c hc e=>by
   have Mx:c<s.heap.objs.size:=by
    obtain⟨hz,Qq,⟨x',y',QT⟩,t1,t2⟩:=st;simp only[L0,O7,or_false]at hc;rcases hc with q|q|q|q|q<;>subst q
    ·exact J9 hz
    ·exact J9 Qq
    ·exact J9 QT
    ·obtain⟨o,q1,_⟩:=t1.obj;exact J9 q1
    ·obtain⟨o,q1,_⟩:=t2.obj;exact J9 q1
   rw[e]at Mx;exact O8 _ Mx
  refine⟨.ref s.heap.objs.size,L2.upd H s.heap.objs.size (.tup [x,y]),?_,rfl,⟨_,x,y,rfl,nT,rfl,fun xs' q=>by rw[q.inj I q1];exact hx,fun ys' q=>by rw[q.inj I q2];exact hy⟩,OZ,fun c hc=>by rw[aj (lo c hc)];exact(hf c hc).1⟩;have Pq:∀c o,H c=some o->c ∉ [z,TI,TO,i1,i2]:=fun c o e hc=>by have:=(hf c hc).1;rw[e]at this;cases this
  refine L2.Inv.step (s:=s) (h':=Qm) (g':=s.gens) (d':=s.drawn) (t':=s.toks) (ch:=[z,TI,TO,i1,i2]) I (fun c hc=>?_) (fun c o _ _ n e _=>PU c o n e) (fun c o _ _ n e _=>⟨o.slots,PU c o n e⟩) (fun c o _ e n=>by rw[aj (Nk (J9 e))];exact n) (fun c o n e=>⟨o,PU c o n e⟩)
   (fun c ls e=>by rw[aj (aP e nT)];exact e) (fun c o ls e=>by rw[aj (aP e nT)];exact e) (fun c ps e=>⟨#[],by rw[aj (aP e nT),e];simp⟩) (fun m hm=>?_) (fun c o e=>?_) I.bare
  ·obtain⟨f0,f1,f2,f3,f4,f5⟩:=hf c hc;exact⟨f3,f1,f4,f5⟩
  ·obtain⟨o,QB,ep,ho,r⟩:=hm;exact⟨o,QB,ep,PU _ o (fun q=>(hf _ q).2.1 rfl) ho,r⟩
  ·by_cases hcT:c=s.heap.objs.size
   ·subst hcT;rw[au]at e;cases e;exact⟨by rw[N7];show 2<=16777216;decide,[u,v],.cons ru (.cons rv .nil),⟨_,pr2,rfl,_,rfl⟩⟩
   ·rw[aj hcT]at e;refine(I.IZ c o e).Na (fun d' o' hd q=>PU d' o' ?_ q) (fun d' q=>by rw[aj (aP q nT)];exact q) fun d' ls q=>by rw[aj (aP q nT)];exact q
    rcases hd with q'|q'
    ·rw[q'];exact Pq c o e
    ·exact Pq d' _ q'
 done:=by
  intro X hP hw hK hc i pins s σ H E I hf st hg;subst hP hw hK;obtain⟨xs,ys,q1,q2,Sa⟩:=hg;obtain⟨us,r1,p1⟩:=q1.list I;obtain⟨ws,r2,p2⟩:=q2.list I;have out:∀{k:Bool} {l:Addr} {zs:yar},NJ X.K k H l zs->Out z TO i1 i2 l:=fun q=>⟨q.ne I (hf z (by simp)),q.ne I (hf TO (by simp)),q.ne I (hf i1 (by simp)),q.ne I (hf i2 (by simp))⟩
  refine FE (I.ok.hd hc) D (out q1) (out q2) st p1 p2 (Sa.imp (fun q=>by simpa using r1.none_of q) fun q=>by simpa using r2.none_of q) fun h' kp=>⟨rfl,?_⟩
  have PU:∀c o,c ∉ [z,TI,TO,i1,i2]->s.heap.get? c=some o->h'.get? c=some o:=fun c o n e=>by simp only[L0,O7,or_false,not_or]at n;exact kp c o n.1 n.2.2.1 n.2.2.2.1 n.2.2.2.2 e
  have Pq:∀c o,H c=some o->c ∉ [z,TI,TO,i1,i2]:=fun c o e hc=>by have:=(hf c hc).1;rw[e]at this;cases this
  refine L2.Inv.step (s:=s) (h':=h') (g':=s.gens) (d':=s.drawn) (t':=s.toks) (ch:=[z,TI,TO,i1,i2]) I (fun c hc=>?_) (fun c o _ _ n e _=>PU c o n e) (fun c o _ _ n e _=>⟨o.slots,PU c o n e⟩) (fun _ _ _ _ n=>n) (fun c o n e=>⟨o,PU c o n e⟩) (fun _ _ e=>e) (fun _ _ _ e=>e) (fun c ps e=>⟨#[],by rw[e];simp⟩) (fun m hm=>?_) (fun c o e=>?_) I.bare
  ·obtain⟨f0,f1,f2,f3,f4,f5⟩:=hf c hc;exact⟨f3,f1,f4,f5⟩
  ·obtain⟨o,QB,ep,ho,r⟩:=hm;exact⟨o,QB,ep,PU _ o (fun q=>(hf _ q).2.1 rfl) ho,r⟩
  ·refine(I.IZ c o e).Na (fun d' o' hd q=>PU d' o' ?_ q) (fun _ q=>q) fun _ _ q=>q
   rcases hd with q'|q'
   ·rw[q'];exact Pq c o e
   ·exact Pq d' _ q'
 self:=fun _ _ _ _ _ st h=>wpAny_pyIter_zip st.z h
def bX:D->Option (Bool×yas)
 |.lst _ ds=>some (true,ds)
 |.tup ds=>some (false,ds)
 |_=>none
section
variable{X:Cx}
theorem Den.seq{P:yak}{H:Hp}{d:D}{v:V}{k:Bool}{ds:yas}(h:Den X.K P H d v)(e:bX d=some (k,ds)):∃a vs,v=.ref a/\NJ X.K k H a vs/\af X.K P H ds vs ∧
  ∀ (P':yak) (H':Hp),(∀a vs,JP X.K H a vs->JP X.K H' a vs)->(∀t a vs,¬P t a->Lm X.K H t a vs->¬P' t a/\Lm X.K H' t a vs)->NJ X.K k H' a vs:=by
 cases d with
 |lst t es =>
  cases e;obtain⟨a,vs,e1,p,q,hd⟩:=h.MR;exact⟨a,vs,e1,q.1,hd,fun P' H' _ hL=>(hL t a vs p q).2.1⟩
 |tup es =>
  cases e;obtain⟨a,vs,e1,q,hd⟩:=h.ME;exact⟨a,vs,e1,q.w,hd,fun P' H' hT _=>(hT a vs q).w⟩
 |HZ=>cases e
 |bl _=>cases e
 |int _=>cases e
 |str _=>cases e
 |exc _=>cases e
 |obj _ _ _=>cases e
 |MQ=>cases e
 |MD _ _=>cases e
def FW(ta:DA):DA:=fun ρ R=>ta ρ fun ds=>∃d1 d2 k1 k2 xs ys,ds=[d1,d2]/\bX d1=some (k1,xs)/\bX d2=some (k2,ys)/\R (List.zipWith (fun x y=>D.tup [x,y]) xs ys)
end
open PySem PySem.Spec PyProof.Rows L2
inductive FDP (X:Cx) (pins:yab) (σ:St) (W:Own) (H:Hp) (Q:yas->Prop) (u:Value) (s':Shared):Prop
 |mk (a:Addr) (vs:yar) (H':Hp) (ds:yas) (_:u=.ref a) (_:Inv X pins σ H' s') (_:ag H H') (_:H a=none) (_:X.K.lookup a=none) (_:H' a=some (.lst vs)) (_:af X.K (fun t b=>W.bad t b∨b=a) H' ds vs) (_:Q ds)
def OE(X:Cx)(e:Expr)(t:DA):Prop :=
 ∀ (pins:yab) (s:Shared) (σ:St) (H:Hp) (W:Own) (ρ:Ro) (Q:yas->Prop),Inv X pins σ H s->Rel X W H σ ρ->t ρ Q →
  wpAny (model X.prog X.w) X.A (eval e X.env) (FDP X pins σ W H Q) X.xe s
def B3(t:DA):DE:=fun ρ Q=>t ρ fun ds=>Q (.lst true ds)
section
variable{X:Cx}{e:Expr}{t:DA}{pos:Pos}
theorem OE.PV(h:OE X e t):Hs X e (B3 t):=by
 intro pins s σ H W ρ Q I r hw;refine GU (h pins s σ H W ρ _ I r hw) fun u s1 ⟨a,vs,H',ds,e,I1,sm,n,k,ha,hd,q⟩=>?_
 subst e;exact⟨.ref a,H',_,I1,rfl,sm,Den.lst (r.fresh n) (.new ha k) (hd.HF fun _ _ z=>.inl z),q⟩
theorem Inv.kno{pins:yab}{σ:St}{H:Hp}{s:Shared}{a:Addr}{o:HO}(I:Inv X pins σ H s)(h:H a=some o):X.K.lookup a=none:=by
 cases e:X.K.lookup a with
 |none=>rfl
 |some ob =>
  have:=(I.bs a ob (I.ok.mod.Pa a ob e)).2;rw[h]at this;cases this
def EB(i:Nat)(t:DA):DS:=fun E ρ=>t ρ fun ds=>E.nx (ρ.set i (some (.own ds)))
end
mutual
def l6:D->Bool
 |.tup ds=>dZ ds
 |.obj _ _ ds=>dZ ds
 |.MD _ ds=>dZ ds
 |.lst _ _=>false
 |_=>true
def dZ:yas->Bool
 |[]=>true
 |d::ds=>l6 d && dZ ds
end
mutual
def nP:D->Bool
 |.tup ds=>la ds
 |.obj _ _ ds=>la ds
 |.MD _ ds=>la ds
 |.lst t ds=>t && la ds
 |_=>true
def la:yas->Bool
 |[]=>true
 |d::ds=>nP d && la ds
end
section
variable{K:yac}{P P':yak}{H:Hp}
mutual
theorem Den.QU:∀(d:D) (v:V),l6 d=true->Den K P H d v->Den K P' H d v
 |.HZ,_,_,h=>by simpa only[Den]using h
 |.bl _,_,_,h=>by simpa only[Den]using h
 |.int _,_,_,h=>by simpa only[Den]using h
 |.str _,_,_,h=>by simpa only[Den]using h
 |.exc _,_,_,h=>by simpa only[Den]using h
 |.obj C ns ds,_,n,h=>by rw[l6]at n;simp only[Den]at h ⊢;obtain⟨a,dx,vs,e,q,l,k,r⟩:=h;exact⟨a,dx,vs,e,q,l,k,af.QU ds vs n r⟩
 |.MQ,_,_,h=>by simpa only[Den]using h
 |.MD ks ds,_,n,h=>by rw[l6]at n;simp only[Den]at h ⊢;obtain⟨a,o,MK,vs,e,q,l,k,r⟩:=h;exact⟨a,o,MK,vs,e,q,l,k,af.QU ds vs n r⟩
 |.lst _ _,_,n,_=>by rw[l6]at n;cases n
 |.tup ds,_,n,h=>by rw[l6]at n;simp only[Den]at h ⊢;obtain⟨a,vs,e,q,r⟩:=h;exact⟨a,vs,e,q,af.QU ds vs n r⟩
theorem af.QU:∀(ds:yas) (vs:yar),dZ ds=true->af K P H ds vs->af K P' H ds vs
 |[],_,_,h=>by simpa only[af]using h
 |d::ds,_,n,h=>by rw[dZ,N6]at n;simp only[af]at h ⊢;obtain⟨v,r,e,h1,h2⟩:=h;exact⟨v,r,e,Den.QU d v n.1 h1,af.QU ds r n.2 h2⟩
end
end
section
variable{X:Cx}
variable{e:Expr}{te:DE}{tt:DT}{ta:DA}
def EH(i:Nat)(t:DE):DE:=fun ρ Q=>hZ ρ[i]? fun ds=>t (ρ.set i (some (.val (.lst false ds)))) fun d=>nP d=true/\Q d
def Ce(i:Nat)(t:DT):DT:=fun ρ Q=>hZ ρ[i]? fun ds=>t (ρ.set i (some (.val (.lst false ds)))) Q
def Cc(i:Nat)(t:DA):DA:=fun ρ Q=>hZ ρ[i]? fun ds=>t (ρ.set i (some (.val (.lst false ds)))) fun ys=>la ys=true/\Q ys
end
section
variable{X:Cx}{pos:Pos}
theorem af.set{K:yac}{P:yak}{H:Hp}{d:D}{v:V}(hd:Den K P H d v):∀{ds:yas} {vs:yar} (j:Nat),af K P H ds vs->af K P H (ds.set j d) (vs.set j v)
 |[],_,_,h=>by simp only[af]at h;subst h;exact af.nil
 |x::r,_,0,h=>by simp only[af]at h;obtain⟨u,w,rfl,h1,h2⟩:=h;exact af.cons hd h2
 |x::r,_,j+1,h=>by simp only[af]at h;obtain⟨u,w,rfl,h1,h2⟩:=h;exact af.cons h1 (af.set hd j h2)
theorem af.take{K:yac}{P:yak}{H:Hp}:∀{ds:yas} {vs:yar} (n:Nat),af K P H ds vs->af K P H (ds.take n) (vs.take n)
 |_,_,0,_=>by simp only[List.take_zero];exact af.nil
 |[],_,_+1,h=>by simp only[af]at h;subst h;exact af.nil
 |x::r,_,n+1,h=>by simp only[af]at h;obtain⟨u,w,rfl,h1,h2⟩:=h;exact af.cons h1 (af.take n h2)
theorem af.drop{K:yac}{P:yak}{H:Hp}:∀{ds:yas} {vs:yar} (n:Nat),af K P H ds vs->af K P H (ds.drop n) (vs.drop n)
 |_,_,0,h=>by simpa only[List.drop_zero]using h
 |[],_,_+1,h=>by simp only[af]at h;subst h;exact af.nil
 |x::r,_,n+1,h=>by simp only[af]at h;obtain⟨u,w,rfl,h1,h2⟩:=h;exact af.drop n h2
def wb(i:Nat)(tk te:DE):DS:=fun E ρ=>∃ds,ρ[i]?=some (some (.own ds))/\te ρ fun d=>tk ρ fun k=>∃n j,k=.int n/\ixN ds.length n=some j/\E.nx (ρ.set i (some (.own (ds.set j d))))
theorem yv{x:Str}{k e:Expr}{tk te:DE}{px tp:Pos}(i:Nat)(hk:Hs X k tk)(he:Hs X e te)(hi:X.N[i]?=some x:=by rfl)(hv:RB X.env.scope x:=by first|exact Or.inl rfl|exact Or.inr (Or.inl rfl)|exact Or.inr (Or.inr rfl))
  (hd:(x==("__debug__" : Str))=false:=by decide) (LX:(x==("__classdict__" : Str))=false:=by decide)
  (ha:∀v,assign (.Subscript (.Name x px) k tp) X.env v=(do
   let ov←holding [v] (eval (.Name x px) X.env)
   let iv←holding [v,ov] (eval k X.env)
   standAt tp
   holding [v,ov,iv] (setItem ov iv v)
   release [v,ov,iv] []):=by intro _;rfl)
  (hs:swapsWithSole [.Subscript (.Name x px) k tp] e pos.line X.env=pure false:=by rfl) (hw:swappedStores [.Subscript (.Name x px) k tp] e X.env=pure none:=by rfl)
  (h1:(assignEach [.Subscript (.Name x px) k tp] X.env).map (·.2)=[assign (.Subscript (.Name x px) k tp) X.env]:=by rfl):Nd X (.Assign [.Subscript (.Name x px) k tp] e pos) (wb i tk te):=by
 intro pins s σ H W ρ E I r h;obtain⟨ds,eo,h⟩:=h;refine wpAny_Assign_stores (GU (he pins s σ H W ρ _ I r h) fun u s1 ⟨v,H1,d,I1,r1,e1,ND,q1⟩=>?_) hs hw;rw[h1];show wpAny _ _ (assign (.Subscript (.Name x px) k tp) X.env u) _ _ _;rw[ha];have rr:=r.same e1;obtain⟨a,_,oa,sa,_,_⟩:=rr.Px i ds eo;refine G0 (NR (GU (kG hi hv hd LX pins s1 σ H1 (fun o H'=>H'=H1/\o=.ref a) I1 ⟨.ref a,sa,rfl,rfl⟩) fun ov s2 ⟨o,H2,I2,ro,eH,so⟩=>?_));subst eH so;refine G0 (NR (GU (hk pins s2 σ H2 W ρ _ I2 rr q1) fun iv s3 ⟨kv,H3,kd,I3,r3,e3,Um,q3⟩=>?_));obtain⟨n,j,ek,hj,q⟩:=q3;subst ek;have hz:=Um.Kb;subst hz;have r4:=rr.same e3;obtain⟨a',vs,oa',sa',Pg,JS⟩:=r4.Px i ds eo;rw[oa]at oa';cases oa';refine G0 (Ry (G0 (NR (GU (set_list pins s3 σ H3 (.ref a) (.int n) v ov iv u (fun H'=>H'=L2.upd H3 a (.lst (vs.set j v))) I3 ro r3 r1 ⟨a,vs,n,j,rfl,rfl,Pg,by rw[JS.len];exact hj,rfl⟩) fun _ s4 ⟨H4,I4,e4⟩=>?_))));subst e4;obtain⟨r5,f5⟩:=r4.Pf eo oa sa Pg (af.set (ND.same e3) j JS);exact wpAny_release ⟨W,σ,_,I4,(JA.same (e1.trans e3)).trans f5,_,r5,q⟩
def EC(i:Nat)(C:yas->Prop)(f:yas->yas):DS:=fun E ρ=>hZ ρ[i]? fun ds=>C ds/\E.nx (ρ.set i (some (.own (f ds))))
variable{e:Expr}{te:DE}{p:Pos}
def EG(te:DE):DA:=fun ρ Q=>te ρ fun d=>∃k ds,bX d=some (k,ds)/\Q ds
theorem qS{K:yac}{P:yak}{H:Hp}{d:D}{v:V}{k:Bool}{ds:yas}(h:Den K P H d v)(e:bX d=some (k,ds)):∃a vs,v=.ref a/\(SqL K H a vs∨JP K H a vs)/\af K P H ds vs:=by
 cases d with
 |lst t es =>
  cases e;obtain⟨a,vs,e1,p,q,hd⟩:=h.KY;exact⟨a,vs,e1,.inl q,hd⟩
 |tup es =>
  cases e;obtain⟨a,vs,e1,q,hd⟩:=h.ME;exact⟨a,vs,e1,.inr q,hd⟩
 |HZ=>cases e
 |bl _=>cases e
 |int _=>cases e
 |str _=>cases e
 |exc _=>cases e
 |obj _ _ _=>cases e
 |MQ=>cases e
 |MD _ _=>cases e
theorem yk:cF X (.type "tuple") (fun ds Q=>∃d k xs,ds=[d]/\bX d=some (k,xs)/\Q (.tup xs)):=cF.of p9 fun P H ds vs Q tr hd ⟨d,k,xs,e,es,q⟩=>by
 subst e;obtain⟨v,rfl,h1⟩:=dY hd;obtain⟨a,ws,ev,hq,hw⟩:=qS h1 es;subst ev;refine⟨a,ws,rfl,?_⟩;rcases hq with hq|hq
 ·exact .inl ⟨hq,fun l hl=>⟨ag.upd hl,_,Den.tup (JP.of au) (hw.same (ag.upd hl)),q⟩⟩
 ·exact .inr ⟨hq.w,ag.refl H,_,Den.tup hq hw,q⟩
def cutD(xs:yas)(lo hi:yaq):yas:=(xs.drop (HT.Md xs.length 0 lo)).take (HT.Md xs.length xs.length hi - HT.Md xs.length 0 lo)
theorem af.cut{K:yac}{P:yak}{H:Hp}{ds:yas}{vs:yar}(lo hi:yaq)(h:af K P H ds vs):af K P H (cutD ds lo hi) (cC vs lo hi):=by unfold cutD cC;rw[h.len];exact(h.drop _).take _
abbrev DO:=Ro->(yaq->Prop)->Prop
def Qr(X:Cx)(e:Option Expr)(t:DO):Prop :=
 ∀ (pins:yab) (s:Shared) (σ:St) (H:Hp) (W:Own) (ρ:Ro) (Q:yaq->Prop),Inv X pins σ H s->Rel X W H σ ρ->t ρ Q →
  wpAny (model X.prog X.w) X.A (evalPart e X.env) (fun u s'=>∃o H',Inv X pins σ H' s'/\IsPart u o/\ag H H'/\Q o) X.xe s
def gK:DO:=fun _ Q=>Q none
def zE(te:DE):DO:=fun ρ Q=>te ρ fun d=>∃i,d=.int i/\Q (some i)
theorem bP:Qr X none gK:=by intro pins s σ H W ρ Q I r h;rw[evalPart_none];exact JR ⟨none,H,I,.none,ag.refl H,h⟩
theorem bI(he:Hs X e te):Qr X (some e) (zE te):=by
 intro pins s σ H W ρ Q I r h;rw[evalPart_some];refine GU (he pins s σ H W ρ _ I r h) fun u s1 ⟨v,H1,d,I1,rv,e1,hd,i,ed,q⟩=>?_
 subst ed;have z:=hd.Kb;subst z;obtain⟨t,rfl⟩:=rv;exact⟨some i,H1,I1,.int i t,e1,q⟩
variable{lo hi st:Option Expr}{tl th ts:DO}{p2:Pos}
theorem se{Q:yaa}{pins:yab}{s:Shared}{σ:St}{H:Hp}{W:Own}{ρ:Ro}{R:D->yaq->yaq->yaq->Prop}(he:Hs X e te)(hl:Qr X lo tl)(hh:Qr X hi th)(ht:Qr X st ts)(I:Inv X pins σ H s)(r:Rel X W H σ ρ)
  (h:te ρ fun d=>tl ρ fun l=>th ρ fun u=>ts ρ fun k=>R d l u k)
  (hk:∀(v:V) (vv vl vu vk:Value) (l u k:yaq) (d:D) (sl:Addr) (H':Hp) (s':Shared),Inv X pins σ H' s'->ag H H'->RelV v vv->Den X.K W.bad H' d v->s'.heap.IsSliceOf sl vl vu vk->IsPart vl l->IsPart vu u->IsPart vk k->R d l u k →
   ∃ T id,typeLookup (.type T) "__getitem__" = pure (some (.builtin id))/\s'.TypeIs vv T/\wpAny (model X.prog X.w) X.A (getItem vv (.ref sl)) Q X.xe s')
  (Uo:∀vv sl,∃ops,subscripted (.Slice lo hi st p2) false vv sl=operate ops (getItem vv sl)):wpAny (model X.prog X.w) X.A (eval (.Subscript e (.Slice lo hi st p2) pos) X.env) Q X.xe s:=by
 refine Subscript_ (GU (he pins s σ H W ρ _ I r h) fun vv s1 ⟨v,H1,d,I1,rv,e1,hd,q1⟩=>?_);have r1:=r.same e1;refine wpAny_Slice (GU (hl pins s1 σ H1 W ρ _ I1 r1 q1) fun vl s2 ⟨l,H2,I2,pl,e2,q2⟩=>GU (hh pins s2 σ H2 W ρ _ I2 (r1.same e2) q2) fun vu s3 ⟨u,H3,I3,pu,e3,q3⟩=>GU (ht pins s3 σ H3 W ρ _ I3 ((r1.same e2).same e3) q3) fun vk s4 ⟨k,H4,I4,pk,e4,q4⟩=>?_);have I5:Inv X pins σ H4 {s4 with heap:=s4.heap.push {cls:=.type "slice", data:=.fields #[vl,vu,vk]} }:=I4.kept (t':=s4.toks) fun b ob q=>KU _ q
 obtain⟨T,id,hT,ht',hg⟩:=hk v vv vl vu vk l u k d s4.heap.objs.size H4 _ I5 (e1.trans (e2.trans (e3.trans e4))) rv (hd.same (e2.trans (e3.trans e4))) (Heap.IsSliceOf.new ..) pl pu pk q4;show wpAny (model X.prog X.w) X.A (subscriptTail e (.Slice lo hi st p2) vv (.ref s4.heap.objs.size)) Q X.xe _;obtain⟨ops,ho⟩:=Uo vv (.ref s4.heap.objs.size);exact tail_any (ops:=ops) ht' hT hg ho
def Ca(te:DE)(tl th:DO):DA:=fun ρ Q=>te ρ fun d=>tl ρ fun l=>th ρ fun u=>∃t ds,d=.lst t ds/\Q (cutD ds l u)
def FU(te:DE)(tl th:DO):DE:=fun ρ Q=>te ρ fun d=>tl ρ fun l=>th ρ fun u=>∃ds,d=.tup ds/\¬(HT.Md ds.length 0 l=0/\HT.Md ds.length ds.length u=ds.length)/\Q (.tup (cutD ds l u))
theorem sP{pins:yab}{s:Shared}{σ:St}{H H':Hp}{W:Own}{v:V}{vv vl vu vk:Value}{l u k:yaq}{tg:Bool}{ds:yas}{sl:Addr}(f:yar->yar)(g:yas->yas)(I:Inv X pins σ H' s)(r:Rel X W H' σ ρ)(sm:ag H H')(rv:RelV v vv)(hd:Den X.K W.bad H' (.lst tg ds) v)(hs:s.heap.IsSliceOf sl vl vu vk)(pl:IsPart vl l)(pu:IsPart vu u)(pk:IsPart vk k)(k0:k≠some 0)
  (hp:∀its:yad,∃g':yad->yad,slicePick its.toArray l u k=(g' its).toArray/\∀vs,Vals vs its->Vals (f vs) (g' its)/\(f vs).length<=vs.length) (hg:∀vs,af X.K W.bad H' ds vs->af X.K W.bad H' (g ds) (f vs)) {Q:yas->Prop} (q:Q (g ds)) :
  ∃ T id,typeLookup (.type T) "__getitem__" = pure (some (.builtin id))/\s.TypeIs vv T/\wpAny (model X.prog X.w) X.A (getItem vv (.ref sl)) (FDP X pins σ W H Q) X.xe s:=by
 obtain⟨a,vs,ev,_,hq,JS⟩:=hd.KY;subst ev;cases rv;obtain⟨its,rr,ht,hz⟩:=I.list hq;have hlen:=rr.length;refine⟨"list", _,slot_list_getitem.lookup,ht.isList.typeIs,?_⟩;refine wpAny_getItem_list_slice ht.isList hs pl pu pk k0 ?_ (by rw[MG]<;>omega);obtain⟨g',e,hv⟩:=hp its;rw[e];obtain⟨rv',RU⟩:=hv vs rr;have hf:H' s.heap.objs.size=none:=I.IZ.fresh (Ka _);refine⟨s.heap.objs.size,f vs,_,g ds,rfl,I.laid (t':=s.toks) (o:=.lst (f vs)) (fun b ob q=>KU _ q) (Ka _) ⟨MH RU hz,_,0,rv',Mv _ rfl⟩,sm.trans (ag.upd hf),sm.free hf,Inv.KZ I,au,af.apart hf (Inv.KZ I) (hg vs JS),q⟩
theorem bS(he:Hs X e te)(hl:Qr X lo tl)(hh:Qr X hi th):OE X (.Subscript e (.Slice lo hi none p2) pos) (Ca te tl th):=by
 intro pins s σ H W ρ Q I r h;refine se (st:=none) (ts:=gK) (R:=fun d l u k=>k=none/\∃t ds,d=.lst t ds/\Q (cutD ds l u)) he hl hh bP I r ?_ ?_ (fun _ _=>⟨_,rfl⟩)
 ·have e1:(fun d=>tl ρ fun l=>th ρ fun u=>gK ρ fun k=>k=none/\∃t ds,d=D.lst t ds/\Q (cutD ds l u))=fun d=>tl ρ fun l=>th ρ fun u=>∃t ds,d=D.lst t ds/\Q (cutD ds l u):=by
   funext d
   congr 1
   funext l
   congr 1
   funext u
   exact propext ⟨fun z=>z.2,fun z=>⟨rfl,z⟩⟩
  rw[e1];exact h
 ·intro v vv vl vu vk l u k d sl H' s' I' sm rv hd hs pl pu pk hR;obtain⟨ek,t,ds,ed,q⟩:=hR;subst ek ed;exact sP (fun vs=>cC vs l u) (fun ds=>cutD ds l u) I' (r.same sm) sm rv hd hs pl pu pk (by simp) (fun its=>⟨fun its=>(its.drop (HT.Md its.length 0 l)).take (HT.Md its.length its.length u - HT.Md its.length 0 l),j2 its l u,fun vs rr=>⟨by unfold cC;rw[rr.length];exact(rr.drop _).take _,lL vs l u⟩⟩) (fun vs JS=>JS.cut l u) q
def FT(te:DE):DA:=fun ρ Q=>te ρ fun d=>∃t ds,d=.lst t ds/\Q ds.reverse
end
section
variable{prog:Program}{w:World}{A:Around}{E:yaa}{s:Shared}{p q:Addr}{us ws:yad}{Q:yaa}
theorem FI(hp:s.heap.IsList p us.toArray)(hq:s.heap.IsList q ws.toArray)(hz:us.length+ws.length<=sizeLine)
  (h:Q (.ref s.heap.objs.size) {s with heap:=s.heap.push {cls:=.type "list", data:=.seq (us++ws).toArray} }):wpAny (model prog w) A (binaryOp .Add (.ref p) (.ref q)) Q E s:=by
 obtain⟨⟨c1,k1,x1,y1⟩,g1,g2,n1,g3⟩:=id hp;obtain⟨⟨c2,k2,x2,y2⟩,f1,f2,n2,f3⟩:=id hq;simp only at g2 g3 f2 f3;subst g2 g3 f2 f3;refine concat_meets ⟨_,g1,rfl⟩ ⟨_,f1,rfl⟩ noFill_list_add seq_list_add PySem.F.slot_list_add PySem.F.entry_list_add (PySem.F.args_list_add_2 _ _) (list_addW p q us.toArray ws.toArray n1 n2 k1 k2 y1 y2 (by simpa using hz)) ⟨g1,f1,?_⟩;rw[show us.toArray++ws.toArray=(us++ws).toArray by simp];exact h
theorem FJ(hp:IsTup s.heap p us.toArray)(hq:IsTup s.heap q ws.toArray)(hz:us.length+ws.length<=sizeLine)(h0:us=[]->Q (.ref q) s)(h1:ws=[]->Q (.ref p) s)
  (h:Q (.ref s.heap.objs.size) {s with heap:=s.heap.push {cls:=.type "tuple", data:=.seq (us++ws).toArray} }):wpAny (model prog w) A (binaryOp .Add (.ref p) (.ref q)) Q E s:=by
 obtain⟨⟨c1,k1,x1,y1⟩,g1,g2,n1,g3⟩:=id hp;obtain⟨⟨c2,k2,x2,y2⟩,f1,f2,n2,f3⟩:=id hq;simp only at g2 g3 f2 f3;subst g2 g3 f2 f3;by_cases hv:us=[]
 ·exact concat_meets ⟨_,g1,rfl⟩ ⟨_,f1,rfl⟩ noFill_tuple_add seq_tuple_add PySem.F.slot_tuple_add PySem.F.entry_tuple_add (PySem.F.args_tuple_add_2 _ _) (tuple_addW0 p q us.toArray ws.toArray n1 n2 k1 k2 y1 y2 (by simp[hv])) ⟨g1,f1,h0 hv⟩
 ·by_cases hw:ws=[]
  ·exact concat_meets ⟨_,g1,rfl⟩ ⟨_,f1,rfl⟩ noFill_tuple_add seq_tuple_add PySem.F.slot_tuple_add PySem.F.entry_tuple_add (PySem.F.args_tuple_add_2 _ _) (tuple_addW1 p q us.toArray ws.toArray n1 n2 k1 k2 y1 y2 (by simpa using hv) (by simp[hw])) ⟨g1,f1,h1 hw⟩
  ·refine concat_meets ⟨_,g1,rfl⟩ ⟨_,f1,rfl⟩ noFill_tuple_add seq_tuple_add PySem.F.slot_tuple_add PySem.F.entry_tuple_add (PySem.F.args_tuple_add_2 _ _) (tuple_addW2 p q us.toArray ws.toArray n1 n2 k1 k2 y1 y2 (by simpa using hv) (by simpa using hw) (by simpa using hz)) ⟨g1,f1,?_⟩;rw[show us.toArray++ws.toArray=(us++ws).toArray by simp];exact h
end
section
variable{X:Cx}{pos:Pos}
def m5:RD2:=fun x y Q=>match x,y with
 |.int i,.int j=>Q (.int (i+j))
 |.tup xs,.tup ys=>xs.length+ys.length<=sizeLine/\Q (.tup (xs++ys))
 |.lst _ xs,.lst _ ys=>xs.length+ys.length<=sizeLine/\Q (.lst true (xs++ys))
 |_,_=>False
theorem BA(i j:Int)(Q:D->Prop):m5 (.int i) (.int j) Q=Q (.int (i+j)):=rfl
theorem BE(xs ys:yas)(Q:D->Prop):m5 (.tup xs) (.tup ys) Q=(xs.length+ys.length<=sizeLine/\Q (.tup (xs++ys))):=rfl
theorem BB(t u:Bool)(xs ys:yas)(Q:D->Prop):m5 (.lst t xs) (.lst u ys) Q=(xs.length+ys.length<=sizeLine/\Q (.lst true (xs++ys))):=rfl
theorem AM{W:Own}{H:Hp}{t:Bool}{a:Addr}(tr:∀t a,W.bad t a->∃o,H a=some o)(h:H a=none):¬W.bad t a:=fun z=>by obtain⟨o,q⟩:=tr _ _ z;rw[h]at q;cases q
theorem aU:J6 X (binaryOp .Add) m5:=by
 intro pins s σ H W x y v u vv uu Q I tr rv ru hx hy q;cases x<;>cases y<;>first|exact q.elim|skip
 ·exact Dp pins s σ H W _ _ v u vv uu Q I tr rv ru hx hy q
 ·rename_i xs ys;obtain⟨p,vs,e1,WD,ND⟩:=hx.ME;obtain⟨p',vs',e2,WE,hd2⟩:=hy.ME;subst e1 e2;cases rv;cases ru;obtain⟨its,r1,t1,_⟩:=I.tuple WD.w;obtain⟨its',r2,t2,_⟩:=I.tuple WE.w;obtain⟨hz,q⟩:=q;have l1:=ND.len;have l2:=hd2.len;have m1:=r1.length;have m2:=r2.length;have QV:its.length+its'.length<=sizeLine:=by omega
  have hf:H s.heap.objs.size=none:=I.IZ.fresh (Ka _);refine FJ t1 t2 QV (fun e=>?_) (fun e=>?_) ?_
  ·subst e;have:vs=[]:=Qu (by simpa using m1);subst this;have:xs=[]:=Qu (by simpa using l1.symm);subst this;exact⟨.ref p',H,_,I,rfl,ag.refl H,hy,q⟩
  ·subst e;have:vs'=[]:=Qu (by simpa using m2);subst this;have:ys=[]:=Qu (by simpa using l2.symm);subst this;rw[Qa]at q;exact⟨.ref p,H,_,I,rfl,ag.refl H,hx,q⟩
  ·exact⟨.ref s.heap.objs.size,L2.upd H s.heap.objs.size (.tup (vs++vs')),_,I.laid (t':=s.toks) (fun b u e=>KU _ e) (Ka _) ⟨by rw[Mw];omega,its++its',r1.append r2,⟨_,Mv _ rfl,rfl,_,rfl⟩⟩,rfl,ag.upd hf,Den.tup (JP.of au) ((ND.append hd2).same (ag.upd hf)),q⟩
 ·obtain⟨p,vs,e1,_,WD,ND⟩:=hx.KY;obtain⟨p',vs',e2,_,WE,hd2⟩:=hy.KY;subst e1 e2;cases rv;cases ru;obtain⟨its,r1,t1,_⟩:=I.list WD;obtain⟨its',r2,t2,_⟩:=I.list WE;obtain⟨hz,q⟩:=q;have l1:=ND.len;have l2:=hd2.len;have m1:=r1.length;have m2:=r2.length;have hf:H s.heap.objs.size=none:=I.IZ.fresh (Ka _);refine FI t1.isList t2.isList (by omega) ?_;exact⟨.ref s.heap.objs.size,L2.upd H s.heap.objs.size (.lst (vs++vs')),_,I.laid (t':=s.toks) (fun b u e=>KU _ e) (Ka _) ⟨by rw[Mw];omega,its++its',0,r1.append r2,Mv _ rfl⟩,rfl,ag.upd hf,Den.lst (AM tr hf) (.new au (Inv.KZ I)) ((ND.append hd2).same (ag.upd hf)),q⟩
def Up(x:D):Prop:=okD x/\(Km x).depth<64
def D0:RD2:=fun x y Q=>Up x/\okD y/\∃ys,(y=.tup ys∨∃ t,y=.lst t ys)/\Q (.bl (ys.any fun z=>eqD z x))
theorem CS(x:D)(t:Bool)(ys:yas)(Q:D->Prop):D0 x (.lst t ys) Q=(Up x/\okD (.lst t ys)/\Q (.bl (ys.any fun z=>eqD z x))):=by
 apply propext;constructor
 ·rintro⟨h1,h2,zs,e,q⟩;rcases e with e|⟨_,e⟩
  ·cases e
  ·cases e;exact⟨h1,h2,q⟩
 ·rintro⟨h1,h2,q⟩;exact⟨h1,h2,ys,.inr ⟨t,rfl⟩,q⟩
theorem CT(x:D)(ys:yas)(Q:D->Prop):D0 x (.tup ys) Q=(Up x/\okD (.tup ys)/\Q (.bl (ys.any fun z=>eqD z x))):=by
 apply propext;constructor
 ·rintro⟨h1,h2,zs,e,q⟩;rcases e with e|⟨_,e⟩
  ·cases e;exact⟨h1,h2,q⟩
  ·cases e
 ·rintro⟨h1,h2,q⟩;exact⟨h1,h2,ys,.inl rfl,q⟩
theorem AS(i:Int):Up (.int i)=True:=eq_true ⟨uh i,by rw[Km,PyData.depth];decide⟩
theorem AU:Up .HZ=True:=eq_true ⟨ui,by rw[Km,PyData.depth];decide⟩
end
def PKD(X:Cx)(MK:List Keyword)(t:DA):Prop :=
 ∀ (pos:Pos) (pins:yab) (s:Shared) (σ:St) (H:Hp) (W:Own) (ρ:Ro) (Q:yas->Prop),Inv X pins σ H s->Rel X W H σ ρ->t ρ Q →
  wpAny (model X.prog X.w) X.A (evalAll ((backToKw pos (keywordEach MK X.env)).map (·.2))) (DAP X pins σ W H Q) X.xe s
section
variable{X:Cx}{k:Nat}{ps:yah}{kn:Str}{sp:DSp}{x:Str}{p pos kpos:Pos}{e:Expr}{es:yai}{t tk:DA}{te:DE}{nm:Option Str}{MK:List Keyword}
def BU(sp:DSp)(t tk:DA):DE:=fun ρ Q=>t ρ fun ds=>tk ρ fun es=>∃d,es=[d]/\sp (aC (ds++[d])) Q fun _=>False
theorem Cw(a:D)(R:D->Prop):(∃d,[a]=[d]/\R d)=R a:=by
 apply propext;constructor
 ·rintro⟨_,e,q⟩;cases e;exact q
 ·intro q;exact⟨a,rfl,q⟩
def BS(sp:DSp)(t:DA):DA:=fun ρ Q=>t ρ fun ds=>sp (aC ds) (fun d=>∃ys,d=.lst true ys/\dZ ys=true/\Q ys) fun _=>False
end
def lX:Key->D
 |.inl i=>.int i
 |.inr x=>.str x
section
variable{κ:Type} [DecidableEq κ] {K:yac}{P:yak}{H:Hp}
def mT(kvs:List (κ×D))(k:κ):Option D:=(kvs.find? fun kv=>decide (kv.1=k)).map (·.2)
def putD(kvs:List (κ×D))(k:κ)(d:D):List (κ×D):=if(mT kvs k).isSome=true then kvs.map (fun kv=>if kv.1=k then(kv.1,d)else kv)else kvs++[(k,d)]
end
def PPD(X:Cx)(pos:Pos)(keys:List (Option Expr))(values:yai)(t:Ro->(List (D×D)->Prop)->Prop):Prop :=
 ∀ (pins:yab) (s:Shared) (σ:St) (H:Hp) (W:Own) (ρ:Ro) (Q:List (D×D)->Prop),Inv X pins σ H s->Rel X W H σ ρ->t ρ Q →
  wpAny (model X.prog X.w) X.A (evalPairs (pairTrees keys values X.env pos)) (fun vs s'=>∃ps H' ds,Inv X pins σ H' s'/\VV ps vs/\ag H H'/\af X.K W.bad H' (ds.map (·.1)) (ps.map (·.1))/\af X.K W.bad H' (ds.map (·.2)) (ps.map (·.2))/\Q ds) X.xe s
section
variable{X:Cx}{pos:Pos}
def ES:Ro->(List (D×D)->Prop)->Prop:=fun _ Q=>Q []
def Cq(tk tv:DE)(t:Ro->(List (D×D)->Prop)->Prop):Ro->(List (D×D)->Prop)->Prop:=fun ρ Q=>tk ρ fun k=>tv ρ fun v=>t ρ fun r=>Q ((k,v)::r)
def B6(i:Nat)(t:Ro->(List (D×D)->Prop)->Prop):DS:=fun E ρ=>t ρ fun ps=>∃kvs:List (Key×D),ps=kvs.map (fun kv=>(lX kv.1,kv.2))/\kvs.length<=15/\(kvs.map (·.1)).Nodup/\E.nx (ρ.set i (some (.ob (.dk kvs))))
def FP(i:Nat)(tb:DE):DE:=fun ρ Q=>∃kvs,ρ[i]?=some (some (.ob (.dk kvs)))/\tb ρ fun k=>∃key d,k=lX key/\mT kvs key=some d/\Q d
def Ew(i:Nat)(tk te:DE):DS:=fun E ρ=>∃kvs,ρ[i]?=some (some (.ob (.dk kvs)))/\tk ρ fun k=>∃key n,k=lX key/\mT kvs key=some (.int n)/\te ρ fun d=>∃m,d=.int m/\kvs.length<sizeLine/\E.nx (ρ.set i (some (.ob (.dk (putD kvs key (.int (n+m)))))))
end
theorem CC(kvs:List (Key×D))(r:Ro)(R:List (Key×D)->Prop):(∃ys,(some (Sl.ob (.dk kvs))::r)[0]?=some (some (Sl.ob (.dk ys)))/\R ys)=R kvs:=by
 apply propext;constructor
 ·rintro⟨_,e,q⟩;have e':some (some (Sl.ob (.dk kvs)))=some (some (Sl.ob (.dk _))):=e;cases e';exact q
 ·intro q;exact⟨kvs,rfl,q⟩
theorem CF(n:Nat)(x:Option Sl)(r:Ro)(R:List (Key×D)->Prop):(∃ys,(x::r)[n+1]?=some (some (Sl.ob (.dk ys)))/\R ys)=(∃ys,r[n]?=some (some (Sl.ob (.dk ys)))/\R ys):=rfl
theorem Bg(t:Bool)(xs:yas)(R:yas->Prop):(∃k ds,bX (.lst t xs)=some (k,ds)/\R ds)=R xs:=by
 apply propext;constructor
 ·rintro⟨_,_,e,q⟩;cases e;exact q
 ·intro q;exact⟨_,_,rfl,q⟩
theorem Bh(xs:yas)(R:yas->Prop):(∃k ds,bX (.tup xs)=some (k,ds)/\R ds)=R xs:=by
 apply propext;constructor
 ·rintro⟨_,_,e,q⟩;cases e;exact q
 ·intro q;exact⟨_,_,rfl,q⟩
theorem lC{a b:D}{k1 k2:Bool}{xs ys:yas}(h1:bX a=some (k1,xs))(h2:bX b=some (k2,ys))(R:yas->Prop):(∃d1 d2 k1 k2 us vs,[a,b]=[d1,d2]/\bX d1=some (k1,us)/\bX d2=some (k2,vs)/\R (List.zipWith (fun x y=>D.tup [x,y]) us vs))=R (List.zipWith (fun x y=>D.tup [x,y]) xs ys):=by
 apply propext;constructor
 ·rintro⟨_,_,_,_,_,_,e,e1,e2,q⟩;cases e;rw[h1]at e1;rw[h2]at e2;cases e1;cases e2;exact q
 ·intro q;exact⟨_,_,_,_,_,_,rfl,h1,h2,q⟩
theorem El(t u:Bool)(xs ys:yas)(R:yas->Prop):(∃d1 d2 k1 k2 us vs,[D.lst t xs,D.lst u ys]=[d1,d2]/\bX d1=some (k1,us)/\bX d2=some (k2,vs)/\R (List.zipWith (fun x y=>D.tup [x,y]) us vs))=R (List.zipWith (fun x y=>D.tup [x,y]) xs ys):=lC rfl rfl R
theorem Eo(u:Bool)(xs ys:yas)(R:yas->Prop):(∃d1 d2 k1 k2 us vs,[D.tup xs,D.lst u ys]=[d1,d2]/\bX d1=some (k1,us)/\bX d2=some (k2,vs)/\R (List.zipWith (fun x y=>D.tup [x,y]) us vs))=R (List.zipWith (fun x y=>D.tup [x,y]) xs ys):=lC rfl rfl R
theorem Em(u:Bool)(xs ys:yas)(R:yas->Prop):(∃d1 d2 k1 k2 us vs,[D.lst u xs,D.tup ys]=[d1,d2]/\bX d1=some (k1,us)/\bX d2=some (k2,vs)/\R (List.zipWith (fun x y=>D.tup [x,y]) us vs))=R (List.zipWith (fun x y=>D.tup [x,y]) xs ys):=lC rfl rfl R
theorem Ep(xs ys:yas)(R:yas->Prop):(∃d1 d2 k1 k2 us vs,[D.tup xs,D.tup ys]=[d1,d2]/\bX d1=some (k1,us)/\bX d2=some (k2,vs)/\R (List.zipWith (fun x y=>D.tup [x,y]) us vs))=R (List.zipWith (fun x y=>D.tup [x,y]) xs ys):=lC rfl rfl R
theorem zY(b:Bool):nP (.bl b)=true:=rfl
theorem yb(b:Int):nP (.int b)=true:=rfl
theorem yc:nP .HZ=true:=rfl
theorem comp_map{α:Type}{wi:DA}{js:yag}{tc:DT}{te:DE}{ρ:Ro}{Q:D->Prop}(xs:List α)(f:α->D)(c:α->Bool)(g:α->D)(hw:∀R:yas->Prop,R (xs.map f)->wi ρ R)(hz:xs.length<=sizeLine)
  (hc:∀x∈xs,∀K:Bool->Prop,K (c x)->tc (some (.val (f x))::js.map (bh ρ)) K) (he:∀x∈xs,c x=true->∀K:D->Prop,K (g x)->te (some (.val (f x))::js.map (bh ρ)) K) (q:Q (.lst true ((xs.filter c).map g))):mE wi js tc te ρ Q:=by
 refine hw _ ⟨by rw[Kj];exact hz,fun j out=>out=((xs.take j).filter c).map g,by simp,fun j d out hd ho=>?_,fun out ho=>?_⟩
 ·rw[Of]at hd;cases ex:xs[j]? with
  |none=>rw[ex]at hd;cases hd
  |some x =>
   rw[ex]at hd;cases hd;have hm:x∈xs:=Rq ex;have ht:xs.take (j+1)=xs.take j++[x]:=by rw[List.take_succ,ex];rfl
   refine hc x hm _ ?_;by_cases z:c x=true
   ·rw[G4 z];refine he x hm z _ ?_;show _=List.map g (List.filter c (List.take (j+1) xs));rw[ht,ho,U4,OK];simp[z]
   ·rw[GS z];show _=List.map g (List.filter c (List.take (j+1) xs));rw[ht,ho,U4];simp[z]
 ·rw[Kj,P9 (Ka _)]at ho;rw[ho];exact q
structure Oc(n:Nat)(d:D):Prop where
 pl:NC d=true
 lay:(Km d).canLay0=true
 dp:(Km d).depth<=n
structure eL(n:Nat)(ds:yas):Prop where
 pl:jH ds=true
 lay:PyData.canLayAll0 (cj ds)=true
 dp:PyData.depthAll (cj ds)<=n
theorem Oc.ok{n:Nat}{d:D}(h:Oc n d)(hn:n<=64:=by decide):okD d:=⟨h.pl,by unfold SeqAt.shaped;rw[h.lay,Ni (MH h.dp hn)];rfl⟩
theorem Oc.int(n:Nat)(i:Int):Oc n (.int i):=⟨by rw[NC]<;>(intros;contradiction),by rw[Km,PyData.canLay0],by rw[Km,PyData.depth];exact M9 _⟩
theorem eL.nil(n:Nat):eL n []:=⟨by rw[jH],by rw[cj,PyData.canLayAll0],by rw[cj,PyData.depthAll];exact M9 _⟩
theorem eL.cons{n:Nat}{d:D}{ds:yas}(h:Oc n d)(h':eL n ds):eL n (d::ds):=⟨by rw[jH,h.pl,h'.pl];rfl,by rw[cj,PyData.canLayAll0,h.lay,h'.lay];rfl,by rw[cj,PyData.depthAll];exact Nat.max_le.mpr ⟨h.dp,h'.dp⟩⟩
theorem eL.of{n:Nat}:∀{ds:yas},(∀d∈ds,Oc n d)->eL n ds
 |[],_=>.nil n
 |d::r,h=>.cons (h d M4) (eL.of fun x hx=>h x (Nu _ hx))
theorem Oc.tup{n:Nat}{ds:yas}(h:eL n ds):Oc (n+1) (.tup ds):=⟨by rw[NC];exact h.pl,by rw[Km,PyData.canLay0];exact h.lay,by rw[Km,PyData.depth];exact Nat.succ_le_succ h.dp⟩
theorem Oc.lst{n:Nat}{t:Bool}{ds:yas}(h:eL n ds):Oc (n+1) (.lst t ds):=⟨by rw[NC];exact h.pl,by rw[Km,PyData.canLay0];exact h.lay,by rw[Km,PyData.depth];exact Nat.succ_le_succ h.dp⟩
def hU(xs ys:yas):Bool:=PyData.eqvAll (cj xs) (cj ys)
theorem n6(t u:Bool)(xs ys:yas):eqD (.lst t xs) (.lst u ys)=hU xs ys:=by unfold eqD hU;rw[Km,Km,PyData.eqv]
theorem Ao(xs ys:yas):eqD (.tup xs) (.tup ys)=hU xs ys:=by unfold eqD hU;rw[Km,Km,PyData.eqv]
theorem yx:hU [] []=true:=by unfold hU;rw[cj,PyData.eqvAll]
theorem wI(x y:D)(xs ys:yas):hU (x::xs) (y::ys)=(eqD x y && hU xs ys):=by unfold hU eqD;rw[cj,cj,PyData.eqvAll]
theorem tU(x y:Str):eqD (.str x) (.str y)=(x==y):=by unfold eqD;rw[Km,Km,PyData.eqv]
theorem An:eqD .HZ .HZ=true:=by unfold eqD;rw[Km,PyData.eqv]
mutual
theorem hJ:∀d:D,eqD d d=true
 |.HZ=>An
 |.bl b=>by rw[wH];simp
 |.int i=>by rw[tT];simp
 |.str x=>by rw[tU];simp
 |.exc _=>by unfold eqD;rw[Km,PyData.eqv]
 |.obj _ _ _=>by unfold eqD;rw[Km,PyData.eqv]
 |.MQ=>by unfold eqD;rw[Km,PyData.eqv]
 |.MD _ _=>by unfold eqD;rw[Km,PyData.eqv]
 |.tup ds=>by rw[Ao];exact iC ds
 |.lst t ds=>by rw[n6];exact iC ds
theorem iC:∀ds:yas,hU ds ds=true
 |[]=>yx
 |d::r=>by rw[wI,hJ d,iC r];rfl
end
theorem qU(t u:Bool)(xs:yas):eqD (.lst t xs) (.lst u xs)=true:=by rw[n6];exact iC xs
section
variable{X:Cx}{a b c:Expr}{ta tb tc:DE}{pos:Pos}
def vZ(r r':RD2)(ta tb tc:DE):DE:=fun ρ Q=>ta ρ fun x=>tb ρ fun y=>r x y fun z=>∃k,z=.bl k/\if k=true then tc ρ fun u=>r' y u Q else Q (.bl false)
theorem yn{op WG:CmpOp}{r r':RD2}(ho:J6 X (compareOp op) r)(QA:J6 X (compareOp WG) r')(ha:Hs X a ta)(hb:Hs X b tb)(hc:Hs X c tc)(hm:lastMarks [op,WG] [b,c]=false:=by with_unfolding_all rfl):Hs X (.Compare a [op,WG] [b,c] pos) (vZ r r' ta tb tc):=by
 intro pins s σ H W ρ Q I rr h;refine Compare_chain (GU (ha pins s σ H W ρ _ I rr h) fun v s1 ⟨vx,H1,x,I1,r1,e1,hx,q1⟩=>chain_link (GU (hb pins s1 σ H1 W ρ _ I1 (rr.same e1) q1) fun u s2 ⟨vy,H2,y,I2,r2,e2,hy,q2⟩=>
  GU (ho pins s2 σ H2 W x y vx vy v u _ I2 ((rr.same e1).same e2).tracked r1 r2 (hx.same e2) hy q2) fun d s3 ⟨vz,H3,z,I3,r3,e3,hz,k,ek,q3⟩=>?_)) hm
 subst ek;have ez:=hz.OQ;subst ez;cases r3;refine O4 ?_;have rr3:=((rr.same e1).same e2).same e3;cases k with
 |false=>exact ite_ff ⟨.bl false,H3,_,I3,rfl,e1.trans (e2.trans e3),Den.bl _,q3⟩
 |true=>exact ite_tt (chain_last (GU (hc pins s3 σ H3 W ρ _ I3 rr3 q3) fun w' s4 ⟨vu,H4,du,I4,r4,e4,hu,q4⟩=>GU (QA pins s4 σ H4 W y du vy vu u w' Q I4 (rr3.same e4).tracked r2 r4 (hy.same (e3.trans e4)) hu q4) fun _ _ z=>z.up (e1.trans (e2.trans (e3.trans e4)))))
theorem cU {x:Str} {i:Int} (hm:∃t,X.mg x=some (.int i t)) (hg:Gl X x:=by rfl) (hd:(x==("__debug__" : Str))=false:=by decide):Hs X (.Name x pos) (dC (.int i)):=by obtain⟨t,hm⟩:=hm;exact Hs.of (dw (v:=.int i) hg hm ⟨t,rfl⟩ hd) fun _ H _ _ _ _ q=>⟨ag.refl H,_,Den.int i,q⟩
theorem allB{prog:Program}{w:World}{A:Around}{E:yaa}{s:Shared}{l:Addr}{vs:yad}{bs:List Bool}{Q:yaa}(hh:A.handled=none)(hl:s.heap.IsList l vs.toArray)(hb:LSm.BoolsAre vs bs)
  (h:∀h' tk,(∀b o,s.heap.get? b=some o->h'.get? b=some o)->Q (.bool (bs.all id)) {s with heap:=h',toks:=tk}):wpAny (model prog w) A (call (.builtin "all") [.ref l]) Q E s:=by
 have lt:l<s.heap.objs.size:=by obtain⟨_,e,_⟩:=hl;exact J9 e
 refine call_all_walk (wpAny_pyIter_list hl ?_);refine⟨s.heap.objs.size,[s.heap.objs.size,l],[s.heap.objs.size],vs.toArray.size,_,_,fun i=>(bs[i]?).getD true,rfl,Walks.list (A:=A.in1) hh _ l (Nk lt) vs.toArray,⟨⟨_,Mv _ rfl,rfl,rfl⟩,hl.push _⟩,(fun i v s1 Q1 E1 hP hQ=>?_),(fun h1 tk hk=>?_)⟩
 ·obtain⟨k,e,ek⟩:=hb.get i v (by simpa using hP);subst ek;simp only[e,Option.getD_some]at hQ;exact O4 hQ
 ·have e:((List.range vs.toArray.size).all fun i=>(bs[i]?).getD true)=bs.all id:=by
   rw[MG,hb.length];exact LSm.range_all bs
  rw[e];exact h h1 tk (LSm.kept_iter hk)
theorem qH{K:yac}{P:yak}{H:Hp}:∀{bs:List Bool} {vs:yar} {us:yad},af K P H (bs.map D.bl) vs->Vals vs us->LSm.BoolsAre us bs
 |[],_,_,h,r=>by simp only[Qf,af]at h;subst h;cases r;exact .nil
 |b::q,_,_,h,r=>by
  simp only[Nj,af]at h;obtain⟨v,w,e,h1,h2⟩:=h;subst e;have:=h1.OQ;subst this;cases r with
  |cons ra rb =>
   cases ra;exact .cons b (qH h2 rb)
theorem BI (hc:X.calm=true):cF X (.builtin "all") (fun ds Q=>∃(t:Bool) (bs:List Bool),ds=[.lst t (bs.map D.bl)]/\Q (.bl (bs.all id))):=by
 intro pins s σ H W ds vs us Q I tr r hd q;obtain⟨t,bs,e,q⟩:=q;subst e;obtain⟨v,rfl,h1⟩:=dY hd;obtain⟨p,ws,ev,_,hq,hw⟩:=h1.KY;subst ev;cases r with
 |cons r1 rr =>
  cases rr;cases r1;obtain⟨its,rv,pl,_⟩:=I.list hq;exact allB (I.ok.hd hc) pl.isList (qH hw rv) fun h' tk kp=>⟨.bl _,H,_,I.kept kp,rfl,ag.refl H,Den.bl _,q⟩
def v5(ti:DE):DA:=fun ρ R=>ti ρ fun d=>∃ds,d=.tup ds/\R ds
theorem CP{tg iter:Expr}{ti:DE}(h:Hs X iter ti):Oa X tg iter (v5 ti):=by
 refine Oa.of (DV h.pe) fun σ H W ρ R r hw=>⟨W,ρ,_,r,hw,fun v H1 d e1 hd q=>?_⟩
 obtain⟨ds,rfl,q⟩:=q;obtain⟨p,vs,rfl,hq,JS⟩:=hd.ME;refine⟨p,rfl,⟨vs,hq.w⟩,e1,ds,?_,q⟩;intro P' H' hT hL hX i;have Om:=(hT p vs hq).w;have hl:=JS.len;refine⟨fun hi=>?_,fun x H3 y hi=>?_,fun hi=>⟨vs,Om,by omega⟩⟩
 ·obtain⟨v,hv,_⟩:=JS.get (i:=i) (d:=ds[i]) (by simp[hi]);exact⟨vs,v,Om,hv⟩
 ·obtain⟨e3,y⟩:=y;subst e3;obtain⟨d,h1,h2⟩:=JS.bh (y vs Om);exact⟨ag.refl _,d,h1,Den.map hT hL hX d _ h2⟩
theorem C0(xs:yas)(R:yas->Prop):(∃ds,D.tup xs=.tup ds/\R ds)=R xs:=by
 apply propext;constructor
 ·rintro⟨_,e,q⟩;cases e;exact q
 ·intro q;exact⟨xs,rfl,q⟩
variable{e:Expr}{te:DE}{lo hi:Option Expr}{tl th:DO}{p2:Pos}
def qF{α:Type}:Nat->(List α->Prop)->Prop
 |0,P=>P []
 |n+1,P=>∀a,qF n fun l=>P (a::l)
theorem nO{α:Type}{n:Nat}:∀{P:List α->Prop} (us:List α),us.length=n->qF n P->P us:=by
 induction n with
 |zero=>intro P us e h;cases Qu e;exact h
 |succ n ih =>
  intro P us e h;cases us with
  |nil=>cases e
  |cons a l=>exact ih (P:=fun l=>P (a::l)) l (Nat.succ.inj e) (h a)
end
theorem j7{α:Type}{wi:DA}{js:yag}{te:DE}{ρ:Ro}{Q:D->Prop}(xs:List α)(f:α->D)(ok:α->Bool)(g:α->D)(hw:∀R:yas->Prop,R (xs.map f)->wi ρ R)(hz:xs.length<=sizeLine)
  (he:∀x∈xs,ok x=true->∀K:D->Prop,K (g x)->te (some (.val (f x))::js.map (bh ρ)) K) (hx:∀x∈xs,ok x=false->∀K:D->Prop,te (some (.val (f x))::js.map (bh ρ)) K) (q:xs.all ok=true->Q (.lst true (xs.map g))):mE wi js qN te ρ Q:=by
 refine hw _ ⟨by rw[Kj];exact hz,fun j out=>out=(xs.take j).map g/\(xs.take j).all ok=true,by simp,fun j d out hd ho=>?_,fun out ho=>?_⟩
 ·rw[Of]at hd;cases ex:xs[j]? with
  |none=>rw[ex]at hd;cases hd
  |some x =>
   rw[ex]at hd;cases hd;have hm:x∈xs:=Rq ex;have ht:xs.take (j+1)=xs.take j++[x]:=by rw[List.take_succ,ex];rfl
   show(if(true:Bool)=true then te (some (Sl.val (f x))::List.map (bh ρ) js) (fun e=>out++[e]=List.map g (List.take (j+1) xs)/\(List.take (j+1) xs).all ok=true)else out=List.map g (List.take (j+1) xs)/\(List.take (j+1) xs).all ok=true);rw[G4 rfl];cases z:ok x with
   |true =>
    refine he x hm z _ ?_;show _=List.map g (List.take (j+1) xs)/\(List.take (j+1) xs).all ok=true;rw[ht,ho.1,OK,List.all_append,ho.2];exact⟨rfl,by simp[z]⟩
   |false=>exact hx x hm z _
 ·rw[Kj,P9 (Ka _)]at ho;rw[ho.1];exact q ho.2
section
variable{X:Cx}{pos:Pos}
def PFL(X:Cx)(i:Nat)(es:yai)(t:Ro->(List (yas)->Prop)->Prop):Prop :=
 ∀ (pos:Pos) (pins:yab) (s:Shared) (σ:St) (H:Hp) (W:Own) (ρ:Ro) (k:Nat) (Q:List (yas)->Prop),Inv X pins σ H s->Rel X W H σ ρ->i<σ.length->ρ[i]?=some none->t ρ Q →
  wpAny (model X.prog X.w) X.A (spliced (backTo pos (starEach es X.env))) (fun us s'=>∃vs H' W' Uq,Inv X pins σ H' s'/\Vals vs us/\ag H H'/\Rel X W' H' σ ρ/\JA W H W' H'/\aE X.K W'.bad H' (W'.sub σ.length i) k (Uq.map LI.own) vs/\(∀l,l<k->W'.sub σ.length i l=W.sub σ.length i l)/\Q Uq) X.xe s
def EN:Ro->(List (yas)->Prop)->Prop:=fun _ Q=>Q []
def Cn(ta:DA)(t:Ro->(List (yas)->Prop)->Prop):Ro->(List (yas)->Prop)->Prop:=fun ρ Q=>ta ρ fun x=>t ρ fun xs=>Q (x::xs)
def B8(i:Nat)(t:Ro->(List (yas)->Prop)->Prop):DS:=fun E ρ=>ρ[i]?=some none/\t ρ fun Uq=>Uq.length<=sizeLine/\E.nx (ρ.set i (some (.ob (.ll (Uq.map LI.own)))))
def vF:LI->D
 |.own ds=>.lst false ds
 |.val d=>d
variable{e:Expr}{te:DE}{tt:DT}{ta:DA}
def Cd(i:Nat)(t:DE):DE:=fun ρ Q=>∃xs,ρ[i]?=some (some (.ob (.ll xs)))/\t (ρ.set i (some (.val (.lst false (xs.map vF))))) fun d=>nP d=true/\Q d
def Ag(i:Nat)(t:DT):DT:=fun ρ Q=>∃xs,ρ[i]?=some (some (.ob (.ll xs)))/\t (ρ.set i (some (.val (.lst false (xs.map vF))))) Q
def B9(i:Nat)(tc tk te:DE):DS:=fun E ρ=>∃xs,ρ[i]?=some (some (.ob (.ll xs)))/\te ρ fun d=>tc ρ fun c=>∃n m ds,c=.int n/\ixN xs.length n=some m/\xs[m]?=some (.own ds)/\tk ρ fun k=>∃l j,k=.int l/\ixN ds.length l=some j/\E.nx (ρ.set i (some (.ob (.ll (xs.set m (.own (ds.set j d)))))))
end
theorem CA(xs:List LI)(r:Ro)(R:List LI->Prop):(∃ys,(some (Sl.ob (.ll xs))::r)[0]?=some (some (Sl.ob (.ll ys)))/\R ys)=R xs:=by
 apply propext;constructor
 ·rintro⟨_,e,q⟩;have e':some (some (Sl.ob (.ll xs)))=some (some (Sl.ob (.ll _))):=e;cases e';exact q
 ·intro q;exact⟨xs,rfl,q⟩
theorem CB(n:Nat)(x:Option Sl)(r:Ro)(R:List LI->Prop):(∃ys,(x::r)[n+1]?=some (some (Sl.ob (.ll ys)))/\R ys)=(∃ys,r[n]?=some (some (Sl.ob (.ll ys)))/\R ys):=rfl
theorem CN(r:Ro):((none::r)[0]?=some (none:Option Sl))=True:=eq_true rfl
theorem CO(n:Nat)(x:Option Sl)(r:Ro):((x::r)[n+1]?=some (none:Option Sl))=(r[n]?=some none):=rfl
theorem E7{α:Type}(x:α)(xs:List α)(R:Nat->Prop):(∃m,ixN (x::xs).length 0=some m/\R m)=R 0:=by
 have e:ixN (x::xs).length 0=some 0:=by unfold ixN;simp
 apply propext;constructor
 ·rintro⟨_,h,q⟩;rw[e]at h;cases h;exact q
 ·intro q;exact⟨0,e,q⟩
theorem E8{α:Type}(x y:α)(xs:List α)(R:Nat->Prop):(∃m,ixN (x::y::xs).length 1=some m/\R m)=R 1:=by
 have e:ixN (x::y::xs).length 1=some 1:=by unfold ixN;simp;omega
 apply propext;constructor
 ·rintro⟨_,h,q⟩;rw[e]at h;cases h;exact q
 ·intro q;exact⟨1,e,q⟩
theorem Gd(ds:yas)(r:List LI)(R:yas->Prop):(∃es,(LI.own ds::r)[0]?=some (LI.own es)/\R es)=R ds:=by
 apply propext;constructor
 ·rintro⟨_,e,q⟩;have e':some (LI.own ds)=some (LI.own _):=e;cases e';exact q
 ·intro q;exact⟨ds,rfl,q⟩
theorem Ge(n:Nat)(x:LI)(r:List LI)(R:yas->Prop):(∃es,(x::r)[n+1]?=some (LI.own es)/\R es)=(∃es,r[n]?=some (LI.own es)/\R es):=rfl
section
variable{X:Cx}{pins:yab}{σ:St}{H:Hp}{s:Shared}{sc:Scope}{ns:yah}{js:yag}{x:Str}
def BMain (mg:yam) (base:Heap):Prop:=∃bm ob,mg "__builtins__" = some (.ref bm)/\bm≠builtinsNs/\base.get? bm=some ob/\ob.cls=.type "module" /\ ob.dict=some builtinsNs/\ob.data=.plain
end
section
variable{X:Cx}{pins:yab}{σ:St}{H:Hp}
structure GJ(X:Cx)(pins:yab)(H:Hp)(s:Shared)(l f S I:Addr)(fo:Obj)(j:Nat)(vb:Value)(k:Int):Prop where
 fo:s.heap.get? f=some fo
 ff:cP X pins H f
 so:∃tb n,s.heap.get? S=some (seqObj "list" #[vb,.int k tb] n)
 sf:cP X pins H S
 io:s.heap.IsListIter I l j
 jf:cP X pins H I
 fS:f≠S
 fI:f≠I
 SI:S≠I
 lI:l≠I
end
section
variable{X:Cx}{sc:Scope}{ns:yah}{js:yag}{x:Str}{pos:Pos}
def Ae(te:DE)(js:yag)(tb:DE):DE:=fun ρ Q=>te ρ fun d=>∃(t:Bool) (ds:yas) (kf:Nat->Int),d=.lst t ds/\0<ds.length/\(∀i x,ds[i]?=some x->tb (some (.val x)::js.map (bh ρ)) fun r=>r=.int (kf i))/\∀i x,ds[i]?=some x->(∀j,j<ds.length->kf i<=kf j/\(j<i->kf i<kf j))->Q x
end
theorem wZ{P:Program}{w:World}{K:yac}{mg mb:yam}{CX:CXT}{k:Nat}{fa a c0 T:Addr}{fd:FuncData}{x:Str}{sp:Sp}{Hm:Shared}{vs:yad}{ns:yaf}
  (hT:Hm.heap.get? T=some (PySem.W.tabObj #[])) (WH:K.lookup T=none) (hC:PySem.W.codeHdIn K c0 T=true) (Sd:tabOf K=some T) (hBM:BMain mg Hm.heap)
  (KX:K.In Hm.heap) (Ph:Hm.heap.Ns mainGlobals mg) (hb:Hm.heap.Ns builtinsNs mb) (Vl:∀x:Str,x ≠ "__name__" -> mb x=bootBuiltins x) (WI:Hm.heap.NoLimit) (hg:Hm.gens=#[])
  (ha:Hm.heap.get? a=some {cls:=.type "list", data:=.seq vs.toArray}) (hi:IntsAre vs ns) (hl:ns.length<=sizeLine) (hr:aX k callerA)
  (F:∀base:Heap,K.In base->base.Ns mainGlobals mg->BMain mg base->az P w K mg base CX k fa fd [x] sp) (Ur:∀(s:Shared) (u:Value),BindsTo s fd ⟨[u],[]⟩ [(x,u)])
  (QE:∀H:Hp,cb K H->SqL K H a (ns.map V.int)->sp [.ref a] H (fun v _=>v=.bl true) fun _ _ _=>False)
  (hCX:∀H e s',CX [] H Hm (fun _ _ _=>False) e s'->False) :
  codeAny (model P w) callerA (.call (.ref fa) ⟨[.ref a],[]⟩) (fun r s'=>r=.ok (.ret (.bool true))/\OldK Hm.heap s'.heap/\s'.os=Hm.os/\AllBare s'.gens) Hm:=by
 have rv:=iI hi;have WJ:=hi.length;have haT:a≠T:=fun e=>by rw[e,hT]at ha;cases ha
 have tabAt:Hm.heap.TableAt c0 T #[]:=(PySem.W.codeHd_of_K KX hC).tab hT;have core:∀H:Hp,(∀b,H b=none∨(b=a/\∃o xs,H b=some (.frz o (.lst xs)))∨(b=T/\H b=some (.Mz #[])))->H T=some (.Mz #[])->SqL K H a (ns.map V.int)->Lv P w H Hm.heap->(H a≠none->K.lookup a=none) →
   codeAny (model P w) callerA (.call (.ref fa) ⟨[.ref a],[]⟩) (fun r s'=>r=.ok (.ret (.bool true))/\OldK Hm.heap s'.heap/\s'.os=Hm.os/\AllBare s'.gens) Hm:=by
  intro H hO hHT hS IZ hK;have NK:∀{b:Addr} {o:Obj},Hm.heap.get? b=some o->H b=none->(iN Hm.heap H).get? b=some o:=fun e n=>yB e n
  have free:∀{b:Addr} {o:Obj},Hm.heap.get? b=some o->(o.data ≠ .seq vs.toArray 0)->o.cls ≠ .none->H b=none:=fun {b o} e d c=>by
   rcases hO b with z|⟨z,_⟩| ⟨z,_⟩
   ·exact z
   ·subst z;rw[ha]at e;cases e;exact absurd rfl d
   ·subst z;rw[hT]at e;cases e;exact absurd rfl c
  have Vm:∀{b:Addr} {m:yam},Hm.heap.Ns b m->(iN Hm.heap H).Ns b m:=fun {b m} ⟨o,es,ep,e,d,r⟩=>⟨o,es,ep,NK e (by
   rcases hO b with z|⟨z,_⟩| ⟨z,_⟩
   ·exact z
   ·subst z;rw[ha]at e;cases e;cases d
   ·subst z;rw[hT]at e;cases e;cases d),d,r⟩
  have hKb:K.In (iN Hm.heap H):=fun b o e=>NK (KX b o e) (by
   rcases hO b with z|⟨z,q⟩| ⟨z,_⟩
   ·exact z
   ·subst z;obtain⟨_,_,q⟩:=q;rw[hK (by rw[q];simp)]at e;cases e
   ·subst z;rw[WH]at e;cases e)
  have hM:Mod K mg (iN Hm.heap H):=⟨hKb,Vm Ph,⟨mb,Vm hb,Vl⟩,let ⟨mc,h1,h2⟩:=WI;⟨mc,Vm h1,h2⟩⟩;have hB:BMain mg (iN Hm.heap H):=by obtain⟨bm,ob,b1,b2,b3,b4,b5,b6⟩:=hBM;exact⟨bm,ob,b1,b2,NK b3 (free b3 (by rw[b6];intro z;cases z) (by rw[b4];intro z;cases z)),b4,b5,b6⟩
  have tk:cb K H:=by
   refine⟨fun Q ps e=>?_,fun Q e=>?_⟩
   ·rcases hO Q with z|⟨_,o,xs,z⟩| ⟨_,z⟩
    ·rw[z]at e;cases e
    ·rw[z]at e;cases e
    ·rw[z]at e;cases e;exact⟨True.intro,fun pos cv q=>by cases q⟩
   ·rw[Sd]at e;cases e;exact⟨#[],hHT⟩
  have e0:j5 P w K mg (iN Hm.heap H) callerA [] Hm H:=⟨rfl,hM,fun b o e=>AO e,Nat.le_of_eq (wK _ _),trivial,fun b hb=>absurd (show b∈([]:yae)from hb) (by simp),IZ,.of_eq hg⟩;refine codeAny_mono ((F _ hKb (Vm Ph) hB).run callerA [] Hm H ⟨[.ref a],[]⟩ [.ref a] [.ref a] _ _ hr e0 (Ur Hm (.ref a)) (.cons rfl .nil) (QE H tk hS)) fun r s' h=>?_
  cases r with
  |error e=>exact(hCX H e s' h).elim
  |ok fl =>
   cases fl with
   |next=>exact False.elim h
   |brk=>exact False.elim h
   |cont=>exact False.elim h
   |ret u =>
    obtain⟨v,H',os,bare,un,Us,r',q⟩:=h;have q':v=.bl true:=q;subst q';obtain rfl:u=Value.bool true:=r';have old:∀b o,Hm.heap.get? b=some o->b≠T->s'.heap.get? b=some o:=fun b o e nT=>by
     rcases hO b with z|⟨_,ob,xs,z⟩| ⟨z,_⟩
     ·exact un.keep b o e z (by intro z;exact absurd (show b∈([]:yae)from z) (by simp)) (by simp)
     ·have z2:=un.Kv b ob _ z;obtain⟨e1,_⟩:=IZ b _ z;obtain⟨e2,_⟩:=Us b _ z2;rw[e]at e1;cases e1;exact e2
     ·exact absurd z nT
    obtain⟨more,hm⟩:=un.Kw T #[] hHT;have hT':s'.heap.get? T=some (PySem.W.tabObj (#[]++more)):=Us T _ hm;refine⟨rfl,⟨fun b o e=>?_,fun b o e=>?_⟩,os,bare⟩
    ·by_cases z:b=T
     ·subst z;rw[hT]at e;cases e;exact .inr (.inl ⟨tabAt.isCodeTable,rfl,#[],more,rfl,hT'⟩)
     ·exact .inl (old b o e z)
    ·by_cases z:b=T
     ·subst z;exact⟨_,hT'⟩
     ·exact⟨o,old b o e z⟩
 have okT:∀H:Hp,H T=some (.Mz #[])->bK P w H Hm.heap T (.Mz #[]):=fun H _=>hT
 cases hk:K.lookup a with
 |some o =>
  have e:=KX a o hk;rw[ha]at e;cases e;refine core (fun b=>if b=T then some (.Mz #[])else none) (fun b=>?_) (G4 rfl) (.inr ⟨_,vs.toArray,_,hk,rfl,rfl,rfl,by rw[MG,WJ];exact hl,by simpa using rv⟩) (fun b u z=>?_) fun z=>absurd (GS haT) z
  ·by_cases hb:b=T
   ·exact .inr (.inr ⟨hb,G4 hb⟩)
   ·exact .inl (GS hb)
  ·by_cases hb:b=T
   ·have z':=(G4 hb).symm.trans z;cases z';subst hb;exact hT
   ·have z':=(GS hb).symm.trans z;cases z'
 |none =>
  refine core (fun b=>if b=T then some (.Mz #[])else if b=a then some (.frz {cls:=.type "list", data:=.seq vs.toArray} (.lst (ns.map V.int)))else none) (fun b=>?_) (G4 rfl) (.inl (.inr ⟨{cls:=.type "list", data:=.seq vs.toArray},(GS haT).trans (G4 rfl)⟩)) (fun b u z=>?_) fun _=>hk
  ·by_cases hb:b=T
   ·exact .inr (.inr ⟨hb,G4 hb⟩)
   ·by_cases Ob:b=a
    ·exact .inr (.inl ⟨Ob,_,_,(GS hb).trans (G4 Ob)⟩)
    ·exact .inl ((GS hb).trans (GS Ob))
  ·by_cases hb:b=T
   ·have z':=(G4 hb).symm.trans z;cases z';subst hb;exact hT
   ·by_cases Ob:b=a
    ·have z':=((GS hb).trans (G4 Ob)).symm.trans z;cases z';subst Ob;exact⟨ha,by rw[Kj];exact hl,vs,_,rv,ha⟩
    ·have z':=((GS hb).trans (GS Ob)).symm.trans z;cases z'
theorem zV{l:PySem.W.OpenLaw}{q:Program}{loose:yah}{XP:(yam)->Heap->Prop}{YP:World->Heap->Prop}{d:DefRec}{K:Params->yac}{k:Nat}{x:Str}{c0 T:Addr}(hn:l.most=some 63)(V7:d.params.defaults=[])(hr:aX k callerA)
  (hY:∀(w:World) (h:Heap),YP w h->(K w.params).In h/\h.get? T=some (PySem.W.tabObj #[])) (WH:∀w:World,(K w.params).lookup T=none) (hC:∀w:World,PySem.W.codeHdIn (K w.params) c0 T=true) (Sd:∀w:World,tabOf (K w.params)=some T)
  (F:∀(w:World) (mg:yam) (fa:Addr) (h:Heap),(K w.params).In h->h.Ns mainGlobals mg->mg d.name=some (.ref fa) →
   ∃ fd:FuncData,(∀(s:Shared) (u:Value),BindsTo s fd ⟨[u],[]⟩ [(x,u)])/\∀base:Heap,(K w.params).In base->base.Ns mainGlobals mg->BMain mg base->az l.prog w (K w.params) mg base (CX1 l.prog w) k fa fd [x] (aJ (K w.params) qA)) :
  PySem.W.WalkO q loose XP YP l.row.toRowW d [] (fun f vs=>PySem.call f vs):=by
 refine Att.sL hn V7 fun w IA Hm mg mb fa o pm cd doc a vs ns G Y ho hd LX Oq RJ hints hlen hg=>?_
 obtain⟨KX,hT⟩:=hY w _ Y;obtain⟨fd,hb,hF⟩:=F w mg fa _ KX G.T.g Oq;exact wZ hT (WH w) (hC w) (Sd w) G.T.bmain KX G.T.g G.T.b G.T.builtins G.T.nolimit hg RJ hints (MH hlen (by decide)) hr hF hb (fun H hO hS=>C9 hlen hS hO) fun H e s' z=>by obtain⟨_,_,_,_,_,_,_,_,_,_,_,_,_,q⟩:=z;exact q.elim
section
variable{X:Cx}{pos:Pos}
def Ab(i:Nat)(te:DE):DS:=fun E ρ=>∃ds,ρ[i]?=some (some (.own ds))/\te ρ fun d=>∃xs,d=.lst true xs/\ds.length+xs.length<=sizeLine/\E.nx (ρ.set i (some (.own (ds++xs))))
def B7(i:Nat):DS:=fun E ρ=>E.nx (ρ.set i (some (.ob (.dt []))))
inductive KDP (X:Cx) (pins:yab) (σ:St) (W:Own) (H:Hp) (Q:D->Prop) (u:Value) (s':Shared):Prop
 |mk (b:Addr) (vs:yar) (H':Hp) (ds:yas) (_:u=.ref b) (_:Inv X pins σ H' s') (_:ag H H') (_:H' b=some (.tup vs)) (_:af X.K W.bad H' ds vs) (_:Q (.tup ds))
def PEK(X:Cx)(e:Expr)(t:DE):Prop :=
 ∀ (pins:yab) (s:Shared) (σ:St) (H:Hp) (W:Own) (ρ:Ro) (Q:D->Prop),Inv X pins σ H s->Rel X W H σ ρ->t ρ Q →
  wpAny (model X.prog X.w) X.A (eval e X.env) (KDP X pins σ W H Q) X.xe s
def ED(i:Nat)(tk te:DE):DS:=fun E ρ=>∃kvs,ρ[i]?=some (some (.ob (.dt kvs)))/\te ρ fun d=>tk ρ fun k=>∃ks:List Key,k=.tup (ks.map lX)/\kvs.length<sizeLine/\E.nx (ρ.set i (some (.ob (.dt (putD kvs ks d)))))
def Ez(i:Nat):DE:=fun ρ Q=>∃kvs,ρ[i]?=some (some (.ob (.dt kvs)))/\Q (.int (kvs.length:Int))
end
theorem Cy(kvs:List (List Key×D))(r:Ro)(R:List (List Key×D)->Prop):(∃ys,(some (Sl.ob (.dt kvs))::r)[0]?=some (some (Sl.ob (.dt ys)))/\R ys)=R kvs:=by
 apply propext;constructor
 ·rintro⟨ys,e,q⟩;simp only[List.getElem?_cons_zero,Option.some.injEq,Sl.ob.injEq,OS.dt.injEq]at e;subst e;exact q
 ·intro q;exact⟨kvs,rfl,q⟩
theorem Cz(n:Nat)(x:Option Sl)(r:Ro)(R:List (List Key×D)->Prop):(∃ys,(x::r)[n+1]?=some (some (Sl.ob (.dt ys)))/\R ys)=(∃ys,r[n]?=some (some (Sl.ob (.dt ys)))/\R ys):=rfl
theorem EV(ys:yas)(R:yas->Prop):(∃xs,D.lst true ys=.lst true xs/\R xs)=R ys:=by
 apply propext;constructor
 ·rintro⟨xs,e,q⟩;cases e;exact q
 ·intro q;exact⟨ys,rfl,q⟩
section
variable{X:Cx}{pos:Pos}
def EK(i:Nat):DA:=fun ρ Q=>∃kvs,ρ[i]?=some (some (.ob (.dt kvs)))/\Q (kvs.map (·.2))
def Ex(i:Nat)(ta:DE):DE:=fun ρ Q=>∃kvs,ρ[i]?=some (some (.ob (.dt kvs)))/\ta ρ fun k=>∃ks:List Key,k=.tup (ks.map lX)/\Q (.bl (mT kvs ks).isSome)
def BV(i:Nat)(tk te:DE):DS:=fun E ρ=>∃kvs,ρ[i]?=some (some (.ob (.dt kvs)))/\tk ρ fun k=>∃(ks:List Key) (n:Int),k=.tup (ks.map lX)/\mT kvs ks=some (.int n)/\te ρ fun d=>∃m,d=.int m/\E.nx (ρ.set i (some (.ob (.dt (putD kvs ks (.int (n+m)))))))
end
inductive KPs (K:yac) (P:yak) (H:Hp):List (yas×D)->List (Value×Value)->Prop
 |nil:KPs K P H [] []
 |cons {b:Addr} {vs:yar} {ks:yas} {d:D} {x:V} {u:Value} {ds:List (yas×D)} {ws:List (Value×Value)} (hb:H b=some (.tup vs)) (hk:af K P H ks vs) (hd:Den K P H d x) (r:RelV x u) (t:KPs K P H ds ws):KPs K P H ((ks,d)::ds) ((.ref b,u)::ws)
def PPK(X:Cx)(pos:Pos)(keys:List (Option Expr))(values:yai)(t:Ro->(List (yas×D)->Prop)->Prop):Prop :=
 ∀ (pins:yab) (s:Shared) (σ:St) (H:Hp) (W:Own) (ρ:Ro) (Q:List (yas×D)->Prop),Inv X pins σ H s->Rel X W H σ ρ->t ρ Q →
  wpAny (model X.prog X.w) X.A (evalPairs (pairTrees keys values X.env pos)) (fun ws s'=>∃H' ds,Inv X pins σ H' s'/\ag H H'/\KPs X.K W.bad H' ds ws/\Q ds) X.xe s
section
variable{X:Cx}{pos:Pos}
def ER:Ro->(List (yas×D)->Prop)->Prop:=fun _ Q=>Q []
def Co(tk tv:DE)(t:Ro->(List (yas×D)->Prop)->Prop):Ro->(List (yas×D)->Prop)->Prop:=fun ρ Q=>tk ρ fun k=>∃ks,k=.tup ks/\tv ρ fun v=>t ρ fun r=>Q ((ks,v)::r)
inductive WK (H:Hp):List (List Key×Int)->List (Value×Value)->Prop
 |nil:WK H [] []
 |cons {b:Addr} {k:List Key} {n:Int} {u:Value} {ds:List (List Key×Int)} {ws:List (Value×Value)} (hb:H b=some (.tup (k.map kV))) (r:RelV (.int n) u) (t:WK H ds ws):WK H ((k,n)::ds) ((.ref b,u)::ws)
def Af(i:Nat)(t:Ro->(List (yas×D)->Prop)->Prop):DS:=fun E ρ=>t ρ fun ps=>∃Vn:List (List Key×Int),ps=Vn.map (fun kn=>(kn.1.map lX,D.int kn.2))/\Vn.length<=15/\(Vn.map (·.1)).Nodup/\E.nx (ρ.set i (some (.ob (.dt (Vn.map fun kn=>(kn.1,D.int kn.2))))))
end
end PD
namespace PZ
open PySem PySem.Spec PyProof.Rows
abbrev zr (h:Heap) (T:Addr) (a b c:Value):Prop:=h.get? T=some {cls:=.type "tuple", data:=.seq #[a,b,c]}
structure Ap3(z TI TO i1 i2 i3:Addr):Prop where
 a1:TI≠z
 a2:TO≠z
 a3:i1≠z
 a4:i2≠z
 a5:i3≠z
 b1:TI≠TO
 b2:TI≠i1
 b3:TI≠i2
 b4:TI≠i3
 c1:TO≠i1
 c2:TO≠i2
 c3:TO≠i3
 d1:i1≠i2
 d2:i1≠i3
 d3:i2≠i3
structure GK(z TO i1 i2 i3 l:Addr):Prop where
 c1:l≠z
 c2:l≠TO
 c3:l≠i1
 c4:l≠i2
 c5:l≠i3
structure GO(z TI TO i1 i2 i3 l1 l2 l3:Addr)(i:Nat)(h:Heap):Prop where
 z:IsZip h z TI TO .none
 ti:zr h TI (.ref i1) (.ref i2) (.ref i3)
 to:∃a b c,zr h TO a b c
 s1:NS true h i1 l1 i
 s2:NS true h i2 l2 i
 s3:NS true h i3 l3 i
end PZ
namespace PD
open PySem PySem.Spec PyProof.Rows L2 PZ
section
variable{X:Cx}
def tri(xs ys zs:yas):yas:=List.zipWith (fun f z=>f z) (List.zipWith (fun x y z=>D.tup [x,y,z]) xs ys) zs
def EL(ta:DA):DA:=fun ρ R=>ta ρ fun ds=>∃t1 t2 t3 xs ys zs,ds=[.lst t1 xs,.lst t2 ys,.lst t3 zs]/\ys.length=xs.length/\zs.length=xs.length/\R (tri xs ys zs)
end
open PySem PySem.Spec PyProof.Rows L2
section
variable{X:Cx}{pos:Pos}
def Ac(i iw:Nat)(tt:DT):DS:=fun E ρ=>∃ds,ρ[i]?=some (some (.own ds))/\ds ≠ []/\(∀d∈ds,tt (ρ.set iw (some (.val d))) fun k=>k=false)/\∀d∈ds,E.nx (ρ.set iw (some (.val d)))
end
end PD
namespace ST
open PySem PySem.SetTable
def S:Nat->Nat
 |0=>0
 |n+1=>5*S n+1
theorem qm:∀n,5 ^ n=4*S n+1
 |0=>rfl
 |n+1=>by rw[Qg,qm n];show _=4*(5*S n+1)+1;omega
theorem uM(m:Nat):∀n,S (n+m)=5 ^ m*S n+S m
 |0=>by simp[S]
 |n+1=>by rw[show n+1+m=(n+m)+1 by omega];show 5*S (n+m)+1=5 ^ m*(5*S n+1)+S m;rw[uM m n,qm m];grind
theorem zt:∀k,∃o,S (2 ^ k)=2 ^ k*(2*o+1)
 |0=>⟨0,rfl⟩
 |k+1=>by obtain⟨o,e⟩:=zt k;refine⟨o+(2*o+1)*(2 ^ k*(2*o+1)),?_⟩;rw[show 2 ^ (k+1)=2 ^ k+2 ^ k by rw[Qg];omega,uM,qm,e];grind
theorem round:∀(k x e:Nat),e<2 ^ k->∃n,n<2 ^ k/\(5 ^ n*x+S n) % 2 ^ k=e
 |0,x,e,h=>⟨0,by decide,by omega⟩
 |k+1,x,e,h=>by
  obtain⟨n,hn,q⟩:=round k x (e % 2 ^ k) (Nat.mod_lt _ (Nat.two_pow_pos k));obtain⟨o,eo⟩:=zt k;have hp:=Nat.two_pow_pos k;have h2:2 ^ (k+1)=2*2 ^ k:=by rw[Qg];omega
  generalize hv:5 ^ n*x+S n=v at q;have nxt:5 ^ (n+2 ^ k)*x+S (n+2 ^ k)=v+2 ^ k+2 ^ (k+1)*(o+2*(2*o+1)*v):=by rw[uM,Nat.pow_add,qm (2 ^ k),eo,h2,<- hv];grind
  generalize 2 ^ k=p at *;rw[h2]at h ⊢;by_cases z:v % (2*p)=e
  ·exact⟨n,by omega,by rw[hv];exact z⟩
  ·refine⟨n+p,by omega,?_⟩;rw[nxt,h2,Nat.add_mul_mod_self_left];have a1:v % (2*p) % p=v % p:=Nat.mod_mul_left_mod v 2 p;have l1:v % (2*p)<2*p:=Nat.mod_lt _ (by omega);rw[Nat.add_mod,Rv (show p<2*p by omega)];generalize v % (2*p)=u at *;have eu:u=u % p∨u=u % p+p:=by
    by_cases c:u<p
    ·left;rw[Rv c]
    ·right
     have:u % p=u - p:=by rw[Nat.mod_eq_sub_mod (by omega),Rv (by omega)]
     omega
   have ee:e=e % p∨e=e % p+p:=by
    by_cases c:e<p
    ·left;rw[Rv c]
    ·right
     have:e % p=e - p:=by rw[Nat.mod_eq_sub_mod (by omega),Rv (by omega)]
     omega
   have lt:e % p<p:=Nat.mod_lt _ hp;rcases eu with eu|eu<;>rcases ee with ee|ee
   ·omega
   ·rw[Rv (by omega)];omega
   ·rw[Nat.mod_eq_sub_mod (by omega),Rv (by omega)];omega
   ·omega
def runs(mask:Nat):Nat->Nat->Nat->yag
 |0,_,_=>[]
 |c+1,i,pt=>List.range' i (runEnd mask i+1 - i)++runs mask c (leap mask i pt).1 (leap mask i pt).2
def xV(mask:Nat)(h:Int):yag:=runs mask (turns mask) (bits h % (mask+1)) (bits h)
def E9(mask:Nat):Nat->Nat×Nat->Nat×Nat
 |0,p=>p
 |n+1,p=>E9 mask n (leap mask p.1 p.2)
def FG(xs:yap):Prop:=∀a b:Nat,a<b->b<xs.size->xs.getD a 0<xs.getD b 0
def ahead(mask:Nat)(c:Nat)(p:Probe):yag:=List.range' p.j (p.more+1)++runs mask c (leap mask p.i p.perturb).1 (leap mask p.i p.perturb).2
structure Tab(t:SetTable)(hs:yaf):Prop where
 k:∃k,t.mask+1=2 ^ (k+1)
 rise:FG t.place
 le:∀x∈t.place.toList,x<=t.mask
 dum:t.dummies=#[]
 len:t.place.size=hs.length
 room:t.place.size<=t.mask
 reach:∀(a x:Nat) (h:Int),t.place[a]?=some x->hs[a]?=some h->∃pre post,xV t.mask h=pre++x::post/\∀y∈pre,y∈t.place.toList
structure Ow(mask:Nat)(hs:yaf)(owner:Array (Option Nat)):Prop where
 size:owner.size=mask+1
 cnt:(owner.toList.filter Option.isSome).length=hs.length
 at_:∀(i:Nat) (h:Int),hs[i]?=some h->∃j:Nat,owner[j]?=some (some i)/\∃pre post,xV mask h=pre++j::post/\∀y∈pre,∃q,owner[y]?=some (some q)
 lt:∀j i:Nat,owner[j]?=some (some i)->i<hs.length
 inj:∀j j' i:Nat,owner[j]?=some (some i)->owner[j']?=some (some i)->j=j'
theorem qE:∀(fuel size n:Nat),n<size*2 ^ fuel->∃m,sizeAbove.go n fuel size=size*2 ^ m/\n<size*2 ^ m
 |0,size,n,h=>⟨0,by simp[sizeAbove.go],h⟩
 |fuel+1,size,n,h=>by
  unfold sizeAbove.go;by_cases c:size<=n
  ·rw[G4 c];obtain⟨m,e1,e2⟩:=qE fuel (size*2) n (by rw[Qg]at h;rw[Nat.mul_assoc,Nat.mul_comm 2];exact h);refine⟨m+1,?_,?_⟩
   ·rw[e1,Qg,Nat.mul_assoc,Nat.mul_comm 2]
   ·rw[Qg,Nat.mul_comm (2 ^ m),<- Nat.mul_assoc];exact e2
  ·rw[GS c];exact⟨0,by simp,by simp;omega⟩
theorem above{n:Nat}(h:n<2 ^ 60):∃k,sizeAbove n - 1+1=2 ^ (k+1)/\n<=sizeAbove n - 1:=by obtain⟨m,e1,e2⟩:=qE 64 8 n (LZ h (by decide));have e:sizeAbove n=8*2 ^ m:=e1;have hp:=Nat.two_pow_pos m;refine⟨m+2,?_,by omega⟩;rw[e,show 2 ^ (m+2+1)=8*2 ^ m by rw[Qg,Qg,Qg];omega];omega
end ST
namespace SW
open PySem PySem.SetTable ST
section
variable{prog:Program}{w:World}{A:Around}{E:yaa}{s:Shared}
abbrev TK(prog:Program)(w:World):HeapKind prog w (yaf):=tupleKind (intKind prog w)
theorem items_int:∀{ks:yaf} {vs:yad},ItemsAre (intKind prog w) ks vs->∀v∈vs,∃n t,v=Value.int n t
 |_,_,.nil,v,h=>by cases h
 |_,_,.cons h t,v,hv=>by
  rcases L0.mp hv with z|z
  ·subst z;obtain⟨t,e⟩:=Value.isInt_shape h;exact⟨_,t,e⟩
  ·exact items_int t v z
structure GN(prog:Program)(w:World)(h:Heap)(a:Addr)(xs:List (yaf×Addr)):Prop where
 ex:∃o es ep t,h.get? a=some o/\o.ExactSet/\o.data=.set es ep t/\es.toList=xs.map (fun x=>((TK prog w).hash x.1,Value.ref x.2))/\Tab t (xs.map fun x=>(TK prog w).hash x.1)/\(t.plain=true/\t.led=!w.params.followText "set-order")/\t.place.size*5<t.mask*3/\t.mask<=8191
 is_:∀x∈xs,(TK prog w).is h x.1 x.2
 nd:(xs.map (·.1)).Nodup
set_option maxHeartbeats 1000000 in
end
end SW
namespace SS
open PySem PySem.W PyProof.Rows
def good{α:Type}(r:Nat->Nat)(n:Nat)(G:α->Prop):KasT α->Prop
 |.ret a=>G a
 |.ask i j k=>i<n/\j<n/\good r n G (k (decide (r i<r j)))
section
variable{r:Nat->Nat}{n:Nat}
def v(r:Nat->Nat)(p:yap)(k:Nat):Nat:=r (p.getD k 0)
def S(r:Nat->Nat)(p:yap)(k:Nat):Prop:=∀i j,i<=j->j<k->v r p i<=v r p j
def D(r:Nat->Nat)(p:yap)(k:Nat):Prop:=∀i j,i<=j->j<k->v r p j<=v r p i
structure Ok(n:Nat)(p:yap):Prop where
 perm:p.Perm (List.toArray (List.range n))
end
end SS
namespace TS
open PySem PyProof.Rows
structure Cmp(M:Model)(A:Around)(E:yaa)(s:Shared)(r:Keyed->Nat)(Mem:Keyed->Prop)(k0:SortKind):Prop where
 lt:∀(x y:Keyed) (st:SortSt) (Q:Option Bool->SortSt->Prop),Mem x->Mem y->kindOf st=k0->Q (some (decide (r x<r y))) st->wpS M A E s (lt' x y) Q st
structure Cut(B:Nat->Bool)(n k:Nat):Prop where
 le:k<=n
 lo:∀i,i<k->B i=true
 hi:∀i,k<=i->i<n->B i=false
inductive GV (st:SortSt) (P:Nat->Nat->Prop):Option (Option Nat)×Nat×Nat->SortSt->Prop
 |mk {l u:Nat} (p:P l u):GV st P (none,l,u) st
structure G1(B:Nat->Bool)(n hint:Nat)(D:Nat->Prop)(l u:Nat):Prop where
 a1:hint+l<n
 a2:B (hint+l)=true
 a3:l<u
 a4:D u
structure G2(B:Nat->Bool)(hint:Nat)(D:Nat->Prop)(l u:Nat):Prop where
 a1:l<=hint
 a2:B (hint - l)=false
 a3:l<u
 a4:D u
structure G3(B:Nat->Bool)(n x l u:Nat):Prop where
 a1:u<=n
 a2:∀i,i<l->i<n->B i=true
 a3:∀i,u<=i->i<n->B i=false
 a4:l<=u
 a5:u+x<=n+l
structure MI(R:Keyed->Keyed->Prop)(T o a b:List Keyed):Prop where
 p:(o++(a++b)).Perm T
 so:o.Pairwise R
 sa:a.Pairwise R
 sb:b.Pairwise R
 oa:∀x∈o,∀y∈a,R x y
 ob:∀x∈o,∀y∈b,R x y
structure xZ(st st':SortSt):Prop where
 k:kindOf st'=kindOf st
 a:arrOf st'=arrOf st
 p:pendingOf st'=pendingOf st
 f:failedOf st'=failedOf st
section
variable{M:Model}{A:Around}{E:yaa}{s:Shared}{r:Keyed->Nat}{Mem:Keyed->Prop}{k0:SortKind}
inductive DG (l:List Keyed) (i:Nat) (t:Keyed->Prop):Prop
 |mk (x:Keyed) (h:l[i]?=some x) (e:t x) (m:x∈l)
structure Vo(r:Keyed->Nat)(a b:Array Keyed)(o:Array Keyed)(i j:Nat):Prop where
 m:MI (fun x y=>r x<=r y) (a.toList++b.toList) o.toList (a.toList.drop i) (b.toList.drop j)
 hi:i+1<a.size
 hj:j<b.size
inductive VL {γ:Type} (st:SortSt) (M:Array Keyed->Nat->Nat->Prop) (P:Nat->Nat->Prop):Option (Array Keyed)×Array Keyed×Nat×Nat×γ->SortSt->Prop
 |mk {o:Array Keyed} {i j:Nat} {g:γ} {st':SortSt} (L:xZ st st') (m:M o i j) (p:P i j):VL st M P (none,o,i,j,g) st'
inductive VW {β:Type} (st:SortSt) (R:Array Keyed->Prop):Option (Array Keyed)×β->SortSt->Prop
 |mk {w:Array Keyed} {q:β} {st':SortSt} (L:xZ st st') (h:R w):VW st R (some w,q) st'
structure Mir(r:Keyed->Nat)(a b:Array Keyed)(o:Array Keyed)(i j:Nat):Prop where
 m:MI (fun x y=>r y<=r x) (a.toList++b.toList) o.toList (a.toList.take i).reverse (b.toList.take j).reverse
 h0:0<i
 hi:i<=a.size
 h1:1<j
 hj:j<=b.size
inductive VR {γ:Type} (st:SortSt) (M:Array Keyed->Nat->Nat->Prop) (P:Nat->Nat->Prop):Option (Array Keyed)×Nat×Nat×Array Keyed×γ->SortSt->Prop
 |mk {o:Array Keyed} {i j:Nat} {g:γ} {st':SortSt} (L:xZ st st') (m:M o i j) (p:P i j):VR st M P (none,i,j,o,g) st'
end
def rk(r:Keyed->Nat)(xs:Array Keyed)(i:Nat):Nat:=match xs[i]? with
 |some p=>r p
 |none=>0
def Seg(r:Keyed->Nat)(xs:Array Keyed)(lo hi:Nat):Prop:=∀i j,lo<=i->i<=j->j<hi->rk r xs i<=rk r xs j
section
variable{r:Keyed->Nat}{xs:Array Keyed}{P W S:List Keyed}
theorem gW(xs:Array Keyed){lo n:Nat}(h:lo+n<=xs.size):∃P W S,xs.toList=P++(W++S)/\P.length=lo/\W.length=n:=by
 refine⟨xs.toList.take lo,(xs.toList.drop lo).take n,(xs.toList.drop lo).drop n,by rw[List.take_append_drop,List.take_append_drop],?_,?_⟩
 ·rw[O6];exact Sv (MH (Nat.le_add_right _ _) h)
 ·rw[O6,Og];exact Sv (Nat.le_sub_of_add_le' h)
end
section
variable{r:Keyed->Nat}
def Dn(r:Keyed->Nat)(xs:Array Keyed)(lo hi:Nat):Prop:=∀i j,lo<=i->i<=j->j<hi->rk r xs j<=rk r xs i
end
structure Nr(lo:Nat)(st st':SortSt):Prop where
 k:kindOf st'=kindOf st
 f:failedOf st'=failedOf st
 p:pendingOf st'=pendingOf st
 a:(arrOf st').Perm (arrOf st)
 fr:∀i,i<lo->(arrOf st')[i]?=(arrOf st)[i]?
section
variable{M:Model}{A:Around}{E:yaa}{s:Shared}{r:Keyed->Nat}{Mem:Keyed->Prop}{k0:SortKind}
inductive CW {ρ γ:Type} (y:γ) (P:SortSt->Prop):Option ρ×γ->SortSt->Prop
 |mk {st:SortSt} (p:P st):CW y P (none,y) st
inductive CV {ρ γ:Type} (P:γ->SortSt->Prop):Option ρ×γ->SortSt->Prop
 |mk {y:γ} {st:SortSt} (p:P y st):CV P (none,y) st
structure S1(r:Keyed->Nat)(lo:Nat)(st:SortSt)(x:Nat)(st':SortSt):Prop where
 n:Nr lo st st'
 x1:1<=x
 sg:Seg r (arrOf st') lo (lo+x)
structure S2(r:Keyed->Nat)(lo:Nat)(st:SortSt)(x q:Nat)(st':SortSt):Prop where
 n:Nr lo st st'
 q1:q+1<=x
 dn:Dn r (arrOf st') lo (lo+x)
 eq:∀i,lo+x - (q+1)<=i->i<lo+x->rk r (arrOf st') i=rk r (arrOf st') (lo+x - 1)
structure B1(f:Nat->Nat)(lo k x l u:Nat):Prop where
 lu:l<=u
 uk:u<=k
 m:u+x<=k+l
 dn:∀i,lo<=i->i<lo+l->f i<=f (lo+k)
 up:∀i,lo+u<=i->i<lo+k->f (lo+k)<f i
end
def Chain:List (Nat×Nat×Nat)->Nat->Nat->Prop
 |[],s,e=>s=e
 |q::ps,s,e=>q.1=s/\0<q.2.1/\Chain ps (s+q.2.1) e
section
variable{M:Model}{A:Around}{E:yaa}{s:Shared}{r:Keyed->Nat}{Mem:Keyed->Prop}{k0:SortKind}
structure PI(r:Keyed->Nat)(st st':SortSt)(lo:Nat):Prop where
 k:kindOf st'=kindOf st
 f:failedOf st'=failedOf st
 a:(arrOf st').Perm (arrOf st)
 ch:Chain (pendingOf st').toList 0 lo
 sg:∀q∈(pendingOf st').toList,Seg r (arrOf st') q.1 (q.1+q.2.1)
structure RI(r:Keyed->Nat)(st:SortSt)(x lo:Nat)(st':SortSt):Prop where
 le:lo<=(arrOf st).size
 x:x<=lo∨(arrOf st).size<=lo
 i:PI r st st' lo
end
end TS
namespace HT
open PySem PyProof.Rows
section
open PySem.SeqAt
open PySem.AutoSeq1 (wpAny_loadPart')
open PySem.MeetsSeq PySem.MeetsSeq2 PySem.MeetsSeq3
end
end HT
namespace SW
open PySem PySem.SetTable ST PySem.W PyProof.Rows
section
variable{prog:Program}{w:World}{A:Around}{E:yaa}{s:Shared}
structure GL(prog:Program)(w:World)(h:Heap)(a:Addr)(xs:List (Int×Tok)):Prop where
 ex:∃o es ep t,h.get? a=some o/\o.ExactSet/\o.data=.set es ep t/\es.toList=xs.map (fun x=>((intKind prog w).hash x.1,Value.int x.1 x.2))/\Tab t (xs.map fun x=>(intKind prog w).hash x.1)/\(t.plain=true/\t.led=!w.params.followText "set-order")/\7<=t.mask
 nd:(xs.map (·.1)).Nodup
end
end SW
namespace PD
open PySem PySem.Spec PyProof.Rows L2
section
variable{X:Cx}{pos:Pos}
theorem iI:∀{out:yad} {ms:yaf},IntsAre out ms->Vals (ms.map V.int) out
 |_,_,.nil=>.nil
 |_,_,.cons n t r=>.cons ⟨t,rfl⟩ (iI r)
end
section
variable{X:Cx}
inductive BDQ (X:Cx) (pins:yab) (P:yak) (Q:D->Prop) (f:Flow) (s1:Shared):Prop
 |mk (u:Value) (v:V) (d:D) (σ':St) (H':Hp) (_:f=.ret u) (_:Inv X pins σ' H' s1) (_:RelV v u) (_:ag X.H₀ H') (_:Den X.K P H' d v) (_:Q d)
def bO(d:D):Prop:=l6 d=true∨∃ t x zs,d=.lst t (.tup x::zs)/\dZ (.tup x::zs)=true
end
def FL(K:yac)(x:Str)(st:Stmt):Prop:=∃(f:Addr) (oc:Value) (od:Option Addr) (kV dc pm:Value) (an:Option Addr) (cd ct:Value) (sl:Array (yan)),
 PySem.W.nsIn K mainGlobals x=some (some (.ref f))/\K.lookup f=some ⟨oc,od,.func (PySem.W.fnOf x x (bH st) (bo st) (ai st) .none kV dc pm an cd ct),sl⟩/\PySem.W.codeIn K cd x=true/\PySem.W.keepIn K (.ref f)=true
theorem FL.mk{K:yac}{x:Str}{st:Stmt}{f:Addr}{oc:Value}{od:Option Addr}{kV dc pm:Value}{an:Option Addr}{cd ct:Value}{sl:Array (yan)}(a:PySem.W.nsIn K mainGlobals x=some (some (.ref f)))
  (b:K.lookup f=some ⟨oc,od,.func (PySem.W.fnOf x x (bH st) (bo st) (ai st) .none kV dc pm an cd ct),sl⟩) (c:PySem.W.codeIn K cd x=true) (d:PySem.W.keepIn K (.ref f)=true):FL K x st:=⟨f,oc,od,kV,dc,pm,an,cd,ct,sl,a,b,c,d⟩
theorem Dc{α:Type}:∀{us:List α},us.length=1->∃a,us=[a]
 |[a],_=>⟨a,rfl⟩
theorem Dd{α:Type}:∀{us:List α},us.length=2->∃a b,us=[a,b]
 |[a,b],_=>⟨a,b,rfl⟩
theorem De{α:Type}:∀{us:List α},us.length=3->∃a b c,us=[a,b,c]
 |[a,b,c],_=>⟨a,b,c,rfl⟩
theorem Df{α:Type}:∀{us:List α},us.length=4->∃a b c d,us=[a,b,c,d]
 |[a,b,c,d],_=>⟨a,b,c,d,rfl⟩
theorem Dg{α:Type}:∀{us:List α},us.length=5->∃a b c d e,us=[a,b,c,d,e]
 |[a,b,c,d,e],_=>⟨a,b,c,d,e,rfl⟩
theorem FL.has{K:yac}{x:Str}{st:Stmt}{h:Heap}{mg:yam}{k:Nat}{ps:yah}{sp:DSp}(e:FL K x st)(P:Program)(w:World)(base:Heap)(X:K.In h)(G:h.Ns mainGlobals mg)
  (ok:∀{f:Addr} {fd:FuncData},aw K x x st f fd->az P w K mg base (CX1 P w) k f fd ps (aJ K sp))
  (hb:∀(kV dc pm:Value) (an:Option Addr) (cd ct:Value),qF ps.length fun us=>bindArgs (PySem.W.fnOf x x (bH st) (bo st) (ai st) .none kV dc pm an cd ct) ⟨us,[]⟩=pure (ps.zip us):=by
   repeat intro _
   rfl):Kk P w K mg base x k ps sp:=by
 obtain⟨f,oc,od,kV,dc,pm,an,cd,ct,sl,a,b,c,d⟩:=e;exact⟨f,_,ok (gM b c d),PySem.W.mg_of X G a,d,.all fun us hl=>nO us hl (hb kV dc pm an cd ct)⟩
end PD
namespace HT
open PySem PyProof.Rows
section
open PySem.SeqAt
open PySem.AutoSeq1 (wpAny_loadPart')
open PySem.MeetsSeq PySem.MeetsSeq2 PySem.MeetsSeq3
end
end HT
namespace PD
open PySem PySem.Spec PyProof.Rows L2
def jr(P:Program)(w:World)(K:yac)(mg:yam)(base:Heap)(C:Addr)(m:Str)(k:Nat)(ps:yah)(sp:DSp):Prop :=
 ∃ f fd,az P w K mg base (CX1 P w) k f fd ps (aJ K sp)/\Meth K C m f/\Binds K fd ps []
section
variable{K:yac}{P:yak}{H:Hp}
theorem tX{f:Str}{x:D}:∀{ns:yah} {ds:yas} {vs:yar},af K P H ds vs->(ns.zip ds).lookup f=some x->∃v,(ns.zip vs).lookup f=some v/\Den K P H x v
 |[],_,_,_,l=>by simp at l
 |_::_,[],_,_,l=>by simp at l
 |n::ns,d::ds,_,h,l=>by
  simp only[af]at h;obtain⟨v,r,rfl,h1,h2⟩:=h;rw[S4,M8]at l ⊢;cases e:f==n with
  |true =>
   rw[e]at l;cases l;exact⟨v,rfl,h1⟩
  |false =>
   rw[e]at l;exact tX h2 l
theorem jA{m:Str}:∀{ns:yah} {vs:yar},m∉ns->(ns.zip vs).lookup m=none
 |[],_,_=>by simp
 |_::_,[],_=>by simp
 |n::ns,v::vs,h=>by
  rw[S4,M8];have e:(m==n)=false:=Rr.mpr fun z=>h (by rw[z];exact M4)
  rw[e];exact jA fun z=>h (Nu _ z)
end
section
variable{X:Cx}{k:Nat}{ps:yah}{sp:DSp}{x m f:Str}{p pos apos:Pos}{e o:Expr}{es:yai}{te to:DE}{t:DA}{C:Addr}
def jy(C:Addr)(te:DE)(f:Str):DE:=fun ρ Q=>te ρ fun d=>∃ns ds x,d=.obj C ns ds/\(ns.zip ds).lookup f=some x/\Q x
theorem jd(c:Cls X.K C)(n:eJ X.K C f)(he:Hs X e te)(hb:attributeBase e f X.env (eval e X.env)=eval e X.env:=by rfl):Hs X (.Attribute e f pos) (jy C te f):=by intro pins s σ H W ρ Q I r h;refine tG hb (GU (he pins s σ H W ρ _ I r h) fun u s1 ⟨v,H1,d,I1,ru,sm,hd,ns,ds,y,e1,l,q⟩=>?_);subst e1;obtain⟨a,dx,vs,e2,ha,_,_,JS⟩:=hd.Ou;subst e2;cases ru;obtain⟨v2,l2,hy⟩:=tX JS l;exact mM I1 ha c n l2 fun u' s2 I2 ru'=>⟨v2,H1,y,I2,ru',sm,hy,q⟩
def mG(C:Addr)(m:Str)(sp:DSp)(to:DE)(t:DA):DE:=fun ρ Q=>to ρ fun d=>∃ns ds,d=.obj C ns ds/\m∉ns/\t ρ fun as=>sp (ax d::aC as) Q fun _=>False
theorem tM{pl:Sem Bool}(c:Cls X.K C)(hM:jr X.prog X.w X.K X.mg X.base C m k ps sp)(hr:aX k X.A)(he:Hs X o to)(ha:MF X (e::es) t)
  (KN:starEach (e::es) X.env=(false,eval e X.env)::starEach es X.env:=by rfl) (KW:(backTo pos (starEach es X.env)).any (·.1)=false:=by rfl)
  (ht:eval (.Call (.Attribute o m apos) (e::es) [] pos) X.env=(do
   let ov←eval o X.env
   standAt apos.atName
   let (f,first)←holding [ov] (getMethod ov m pl)
   callWith pos f first (backTo pos (starEach (e::es) X.env)) (backToKw pos (keywordEach [] X.env))):=by rfl) :
  Hs X (.Call (.Attribute o m apos) (e::es) [] pos) (mG C m sp to t):=by
 obtain⟨f,fd,F,hm,hb⟩:=hM;intro pins s σ H W ρ Q I r h;refine PySem.W.methodCall_KW (pl:=pl) (GU (he pins s σ H W ρ _ I r h) fun u s1 ⟨v,H1,d,I1,ru,sm,hd,ns,ds,e1,nm,q⟩=>?_) ht;subst e1;have QW:=hd;obtain⟨a,dx,vs,e2,Pg,_,_,JS⟩:=hd.Ou;subst e2;cases ru;refine eO I1 Pg c hm (jA nm) ?_;refine PySem.W.callWith_K (first:=[.ref a]) (h₀:=X.base) I.ok.mod.Pa hm.kp (GU (ha pos pins s1 σ H1 W ρ _ I1 (r.same sm) q) fun us s2 ⟨WL,H2,WM,I2,rv,Rg,hd2,q2⟩=>⟨I2.Ll,?_⟩) KN KW;refine GU (zQ (dds:=[]) (dsv:=[]) (us:=.ref a::us) (vs:=.ref a::WL) (ds:=.obj C ns ds::WM) F hr hb .nil (by simp) jF I2 ((r.same sm).same Rg) (.cons rfl rv) (af.cons (QW.same Rg) hd2) ?_) fun _ _ z=>(z.up Rg).up sm
 rw[Qa,aC];exact q2
def Bx(P:Program)(w:World)(K:yac)(mg:yam)(base:Heap)(x:Str)(C:Addr)(k:Nat)(sp:Sp):Prop :=
 ∃ f fd ps,az P w K mg base (CX1 P w) k f fd ps sp/\Mk K C f/\mg x=some (.ref C)/\PX.eK K C/\Binds K fd ps []
end
def FK(s:Stmt):yal:=match s with
 |.ClassDef _ _ _ b _ _ _ _ _ _ _=>b
 |_=>[]
def qM (K:yac) (C:Addr):Bool:=PySem.W.plainGet K C Str.empty && PySem.W.hasDictIn K C && PySem.W.plainOver K C && PySem.W.findIn K (.ref C) "__setattr__" == some (some (.builtin "object.__setattr__"))
theorem qM.of{K:yac}{C:Addr}(h:qM K C=true):Cls K C:=by unfold qM at h;simp only[N6,beq_iff_eq]at h;exact⟨h.1.1.1,h.1.1.2,h.1.2,h.2⟩
def OU(K:yac)(C:Addr)(m qual:Str)(st:Stmt):Prop:=∃(f:Addr) (oc:Value) (od:Option Addr) (kV dc pm:Value) (an:Option Addr) (cd ct:Value) (sl:Array (yan)),
 PySem.W.findIn K (.ref C) m=some (some (.ref f))/\PySem.W.isFn K (.ref f)=true/\K.lookup f=some ⟨oc,od,.func (PySem.W.fnOf m qual (bH st) (bo st) (ai st) .none kV dc pm an cd ct),sl⟩/\PySem.W.codeIn K cd qual=true/\PySem.W.keepIn K (.ref f)=true
theorem OU.mk{K:yac}{C:Addr}{m qual:Str}{st:Stmt}{f:Addr}{oc:Value}{od:Option Addr}{kV dc pm:Value}{an:Option Addr}{cd ct:Value}{sl:Array (yan)}(a:PySem.W.findIn K (.ref C) m=some (some (.ref f)))(i:PySem.W.isFn K (.ref f)=true)
  (b:K.lookup f=some ⟨oc,od,.func (PySem.W.fnOf m qual (bH st) (bo st) (ai st) .none kV dc pm an cd ct),sl⟩) (c:PySem.W.codeIn K cd qual=true) (d:PySem.W.keepIn K (.ref f)=true):OU K C m qual st:=⟨f,oc,od,kV,dc,pm,an,cd,ct,sl,a,i,b,c,d⟩
section
variable{K:yac}{C:Addr}{m qual:Str}{st:Stmt}{mg:yam}{k:Nat}{ps:yah}{sp:DSp}
theorem OU.has(e:OU K C m qual st)(P:Program)(w:World)(base:Heap)
  (ok:∀{f:Addr} {fd:FuncData},aw K m qual st f fd->az P w K mg base (CX1 P w) k f fd ps (aJ K sp))
  (hb:∀(kV dc pm:Value) (an:Option Addr) (cd ct:Value) (us:yad),us.length=ps.length->bindArgs (PySem.W.fnOf m qual (bH st) (bo st) (ai st) .none kV dc pm an cd ct) ⟨us,[]⟩=pure (ps.zip us):=by
   intro _ _ _ _ _ _ us hl
   first
    |(obtain⟨a,e⟩:=Dc hl;subst e;rfl)
    |(obtain⟨a,b,e⟩:=Dd hl;subst e;rfl)
    |(obtain⟨a,b,c,e⟩:=De hl;subst e;rfl)
    |(obtain⟨a,b,c,d,e⟩:=Df hl;subst e;rfl)
    |(obtain⟨a,b,c,d,e',e⟩:=Dg hl;subst e;rfl)):jr P w K mg base C m k ps sp:=by
 obtain⟨f,oc,od,kV,dc,pm,an,cd,ct,sl,a,i,b,c,d⟩:=e;exact⟨f,_,ok (gM b c d),⟨a,i,d⟩,.all fun us hl=>hb kV dc pm an cd ct us hl⟩
theorem OU.made {x:Str} {sp:Sp} (e:OU K C "__init__" qual st) (hm:PySem.W.makesIn K C=true) (hk:PySem.W.keepIn K (.ref C)=true) (hx:mg x=some (.ref C)) (ko:PX.eK K C) (P:Program) (w:World) (base:Heap)
  (ok:∀{f:Addr} {fd:FuncData},aw K "__init__" qual st f fd->az P w K mg base (CX1 P w) k f fd ps sp)
  (hb:∀(kV dc pm:Value) (an:Option Addr) (cd ct:Value) (us:yad),us.length=ps.length->bindArgs (PySem.W.fnOf "__init__" qual (bH st) (bo st) (ai st) .none kV dc pm an cd ct) ⟨us,[]⟩=pure (ps.zip us):=by
   intro _ _ _ _ _ _ us hl
   first
    |(obtain⟨a,e⟩:=Dc hl;subst e;rfl)
    |(obtain⟨a,b,e⟩:=Dd hl;subst e;rfl)
    |(obtain⟨a,b,c,e⟩:=De hl;subst e;rfl)
    |(obtain⟨a,b,c,d,e⟩:=Df hl;subst e;rfl)
    |(obtain⟨a,b,c,d,e',e⟩:=Dg hl;subst e;rfl)):Bx P w K mg base x C k sp:=by
 obtain⟨f,oc,od,kV,dc,pm,an,cd,ct,sl,a,i,b,c,d⟩:=e;exact⟨f,_,ps,ok (gM b c d),⟨hm,a,i,hk⟩,hx,ko,.all fun us hl=>hb kV dc pm an cd ct us hl⟩
end
section
variable{X:Cx}
structure Told(K:yac)(H:Hp)(b c t0:Addr)(k0:Int)(us ws qs:yar):Prop where
 hb:H b=some (.lst (.int k0::us))
 hc:H c=some (.lst (.ref t0::ws))
 ht:H t0=some (.tup (.ref b::qs))
 kb:K.lookup b=none
 kc:K.lookup c=none
 kt:K.lookup t0=none
end
end PD
namespace PZ
open PySem PySem.Spec PyProof.Rows
structure ZT(h:Heap)(xs ys:yao)(B:Addr)(as:yae):Prop where
 nd:as.Nodup
 ab:∀a∈as,B<=a
 pr:∀(j:Nat) (a:Addr),as[j]?=some a->∃x y,xs[j]?=some x/\ys[j]?=some y/\IsPair h a x y
end PZ
namespace PD
open PySem PySem.Spec PyProof.Rows L2
def Gf(xs:yah)(cc:Addr)(cl:List (Str×Addr)):List (Str×Addr):=match xs with
 |[]=>cl
 |x::_=>(x,cc)::cl
structure CSC(osc sc:Scope)(xs ns:yah):Prop where
 kind:sc.kind=.function
 one:∃x,xs=[x]
 Vp:∀y∈sc.names,y.2=.cell->y.1∈xs
 names:∀y∈sc.names,y.2=.local->sc.names.lookup y.1=some .local
 Wi:∀x∈xs,sc.names.lookup x=some .cell
 free:∀y∈sc.names,y.2=.free->y.1∈ns/\osc.names.lookup y.1=some .cell
 cells:∀n∈ns,sc.names.lookup n=some .free/\osc.names.lookup n=some .cell
 nd:(xs++ns).Nodup
 lay:∀n acc,cellsFrom n sc.names acc=Gf xs n acc
 psh:∀h:Heap,pushCells h sc.names=h.push {cls:=.type "cell", data:=.cell none}
end PD
set_option linter.all false
namespace WC
open PySem PySem.Spec PySem.W PyProof.Rows L2 PD
def HC(Γ:PySem.Ctx):Prop:=(Γ.below.any fun x=>x.1.isCaller)=true
def Et(M:Model)(A:Around)(c:Code)(R:Result->Shared->Prop)(s:Shared):Prop :=
 ∀ Γ p,PySem.Ctx.code Γ=c->Γ.Below A->HC Γ->wpCode M Γ R p s
end WC
set_option linter.all false
namespace PD
open PySem PySem.Spec PyProof.Rows L2 PX WC
structure FnC(P:Program)(w:World)(K:yac)(mg:yam)(base:Heap)(k:Nat)(f:Addr)(fd:FuncData)(ps:yah)(sp:DSp):Prop where
 len:∀vs H Q E,aJ K sp vs H Q E->vs.length=ps.length
 run:∀(A:Around) (outer:List Env) (s:Shared) (H:Hp) (args:Args) (us:yad) (vs:yar) (Q:VK) (E:XK),aX k A->j5 P w K mg base A outer s H->BindsTo s fd args (ps.zip us)->Vals vs us->aJ K sp vs H Q E →
  Et (model P w) A (.call (.ref f) args) (CR (CX1 P w) outer P w H s Q E) s
section
variable{X:Cx}{k:Nat}{f:Addr}{fd:FuncData}{ps:yah}{sp:DSp}{x:Str}{p pos:Pos}{e:Expr}{es:yai}{t:DA}
theorem Fm:bF X.L4 fun _=>False:=fun _ _ _ _ _ _ _ _ _ _ h=>by obtain⟨_,_,_,_,_,_,_,_,_,_,_,_,_,z⟩:=h;exact z.elim
end
end PD
set_option linter.all false
namespace PD
open PySem PySem.Spec PyProof.Rows L2 PX WC
section
variable{X:Cx}{pos:Pos}
def og(K:yac)(C:Addr)(i:Nat)(su:DS)(E:c9)(ρ:Ro)(cv:Value):Prop:=∃c,cv=.ref c/\bG K c/\PySem.W.exmOne K (.ref c) (.ref C)=some true ∧
 su ⟨fun HG=>E.nx (HG.set i none),E.rt,fun HG=>E.bk (HG.set i none),fun HG=>E.ct (HG.set i none)⟩ (ρ.set i (some (.val (.exc c))))
theorem BH{C:Addr}{x n:Str}{np hp:Pos}{PY:Stmt}{N2:yal}{su:DS}(i:Nat)(hN:X.N.Nodup)(WN:X.mg x=some (.ref C))(WQ:∀v,cz (Cx.markX X v) (PY::N2) su)(WR:Gl X x)(hi:X.N[i]?=some n)(Ut:X.env.scope.names.lookup n=some .local)
  (hex:X.ex=[]) (KN:X.stack=X.env::X.outer) (R6:X.env.frame=some X.env.locals) (WS:(x==("__debug__" : Str))=false) {pins:yab} {s1 s':Shared} {σ:St} {H H1:Hp} {W:Own} {ρ:Ro} {E:c9} {er:Value}
  (I1:Inv X pins σ H1 s1) (Vq:Rel X W H1 σ ρ) (e1:ag H H1) (hx:CX1 X.prog X.w X.stack H1 s1 (fun c _ _=>og X.K C i su E ρ c) er s') :
  wpAny (model X.prog X.w) X.A (noteFrame er X.env) (fun _ GY=>wpAny (model X.prog X.w) X.A (setFlight er none) (fun _ Lw=>wpAny (model X.prog X.w) X.A (handleBy er X.env [.ExceptHandler (some (.Name x np)) (some n) (PY::N2) hp]) (Py X pins W H E) X.xe Lw) X.xe GY) X.xe s':=by
 have ist:i<σ.length:=Inv.QJ I1 hi;obtain⟨ea,c,H',B,a0,rfl,os,bare,Ff,sm,hn,OB,fl,c',Nb,xk,exm,WT⟩:=hx;cases Nb;have fr':X.A.frames=some (X.env::X.outer):=by rw[<- KN];exact I1.ok.frames
 rw[KN]at fl;refine wpAny_looks_onW fr' R6 fl fun h4 x4 u4=>wpAny_landsW x4 fun h5 x5 u5=>?_
 have F5:=(Ff.step x4.1 u4).step x5.1 u5;have I5:Inv X pins σ H' {s' with heap:=h5}:=I1.Nl os F5.un F5.IZ bare (by intro b z;cases z);have WU:∀{h':Heap},Heap.FlyingW B (X.env::X.outer) ea (.ref c) a0 h'->ExcAt ea c h':=fun {h'} x=>by obtain⟨oe,ws,q1,q2,q3,_⟩:=x.first;exact⟨oe,ws,q1,q2,q3⟩
 refine wpAny_handleBy_cons (codeAny_handlers_test (cN (Inv.marked I5 (.ref ea)) WR WN ?_ WS)) (by intro q;cases q);refine(PySem.W.exm_one I5.Ll (ExcAt.ty (WU x5)) exm).here ?_;refine codeAny_handlers_suite_as (lands_againW x5 fun h6 x6 u6=>?_);have F6:=F5.step x6.1 u6;have I6:Inv X pins σ H' {s' with heap:=h6}:=I1.Nl os F6.un F6.IZ bare (by intro b z;cases z);have I7:Inv X pins σ (L2.upd H' ea (.ext (ExcAt ea c))) {s' with heap:=h6}:=by
  refine Inv.TM I6 hn ?_ ?_ (fun y c' q z=>?_) (fun p hp z=>?_) ⟨WU x6,?_,fun h1 h2 q z=>?_⟩
  ·cases q:X.IA.heap.get? ea with
   |none=>rfl
   |some o =>
    by_cases hx:ea∈X.ex
    ·rw[hex]at hx;cases hx
    ·obtain⟨o',q'⟩:=I1.base.there ea o q hx;rw[OB]at q';cases q'
  ·intro z;obtain⟨m,⟨o,_,_,q,_⟩,_⟩:=I1.loc;rw[<- z,OB]at q;cases q
  ·obtain⟨w',o,z',_⟩:=I1.cell y c' q;rw[z,OB]at z';cases z'
  ·have:=(I1.pin p hp).1;rw[z,OB]at this;cases this
  ·obtain⟨oe,ws,q1,_⟩:=WU x6;exact⟨oe,q1⟩
  ·obtain⟨oe,ws,q1,q2,q3⟩:=q;exact⟨oe,ws,z _ q1,q2,q3⟩
 have smu:ag H' (L2.upd H' ea (.ext (ExcAt ea c))):=ag.upd hn;refine c7 (X:=Cx.markX X (.ref ea)) (v:=.ref ea) (Inv.marked I7 (.ref ea)) hN hi (.inl Ut) rfl (fun s7 J7=>?_) (.inr Ut);have Uc:Rel X (W.drop i) (L2.upd H' ea (.ext (ExcAt ea c))) (σ.set i (some (.ref ea))) (ρ.set i (some (.val (.exc c)))):=((Vq.same sm).same smu).put ist (Den.exc au xk);refine L3 (WQ (.ref ea) pins s7 _ _ _ _ _ J7 (Rel.marked Uc _) WT) (fun fw s8 q8=>?_) fun _ _ z=>False.elim z
 obtain⟨W8,σ8,H8,J8,f8,q8⟩:=q8;have ff:JA W H (W8.drop i) H8:=(JA.same ((e1.trans sm).trans smu)).trans ((JA.drop W _ i).trans (f8.trans (JA.drop W8 H8 i)));refine w6 (Inv.unmark J8 I1.ok) hN hi Ut fun s9 I9=>⟨W8.drop i,_,H8,I9,ff,?_⟩
 cases fw with
 |next=>obtain⟨ρ8,r8,n8⟩:=q8;exact⟨_,(Rel.unmark r8).unset (Inv.QJ (Inv.unmark J8 I1.ok) hi),n8⟩
 |brk=>obtain⟨ρ8,r8,n8⟩:=q8;exact⟨_,(Rel.unmark r8).unset (Inv.QJ (Inv.unmark J8 I1.ok) hi),n8⟩
 |cont=>obtain⟨ρ8,r8,n8⟩:=q8;exact⟨_,(Rel.unmark r8).unset (Inv.QJ (Inv.unmark J8 I1.ok) hi),n8⟩
 |ret v=>obtain⟨x8,d8,r8,h8,n8⟩:=q8;exact⟨x8,d8,r8,h8.HF fun _ _=>Own.JQ,n8⟩
def EJ(K:yac)(C:Addr)(i j:Nat)(sp:DSp)(t:DA)(su:DS):DS:=fun E ρ=>t ρ fun ds=>sp (aC ds) (fun d=>E.nx (ρ.set j (some (.val d)))) (og K C i su E ρ)
end
end PD
set_option linter.all false
set_option linter.all false
set_option maxRecDepth 100000
set_option linter.all false
set_option maxRecDepth 100000
set_option linter.all false
set_option maxRecDepth 100000
namespace PD
open PySem PySem.Spec PyProof.Rows L2 PX WC
def Ey(Ed:Value->Prop)(C:Addr)(te:DE):DS:=fun E ρ=>te ρ fun d=>∃x,d=.str x/\x.length<=640/\(∀c∈x.cps.toList,c<256)/\match PySem.intText? x with
 |some n=>E.rt (.int n)
 |none=>Ed (.ref C)
section
variable{X:Cx}{pos:Pos}
set_option maxHeartbeats 1000000 in
end
end PD
set_option linter.all false
set_option maxRecDepth 100000
namespace PD
open PySem PySem.Spec PyProof.Rows L2 PX WC
section
variable{X:Cx}{pos:Pos}
theorem fu{K:yac}{P:yak}{H:Hp}{x:Str}{v:V}{u:Value}(h:Den K P H (.str x) v)(r:RelV v u):∃t,u=Value.str x t:=by have:=h.L6;subst this;exact r
def Uu(g:Str->Str->D)(C:Str->Str->Prop):RD2:=fun x y Q=>match x,y with
 |.str i,.str j=>C i j/\Q (g i j)
 |_,_=>False
theorem xx{g:Str->Str->D}{C:Str->Str->Prop}{x y:D}{Q:D->Prop}(h:Uu g C x y Q):∃i j,x=.str i/\y=.str j/\C i j/\Q (g i j):=by
 unfold Uu at h;split at h
 ·exact⟨_,_,rfl,rfl,h⟩
 ·exact h.elim
theorem bU:J6 X (binaryOp .Add) (Uu (fun i j=>.str (i++j)) fun i j=>i.length+j.length<=sizeLine):=J6.of vm fun P H x y v u Q hx hy z=>by obtain⟨i,j,e1,e2,hc,q⟩:=xx z;subst e1 e2;exact⟨i,j,hx.L6,hy.L6,hc,ag.refl H,_,Den.str _,q⟩
theorem cT:cF X (.type "str") (fun ds Q=>∃i:Int,ds=[.int i]/\i.natAbs.log2<1920/\Q (.str (toString i))):=cF.of qI fun P H ds vs Q _ hd ⟨i,e,l,q⟩=>by subst e;obtain⟨v,rfl,h1⟩:=dY hd;have e1:=h1.Kb;subst e1;exact⟨i,rfl,l,ag.refl H,_,Den.str _,q⟩
theorem tH:cF X (.builtin "len") (fun ds Q=>∃x:Str,ds=[.str x]/\x.length<=sizeLine/\Q (.int x.length)):=by
 intro pins s σ H W ds vs us Q I tr r hd ⟨x,e,l,q⟩;subst e;obtain⟨v,rfl,h1⟩:=dY hd;cases r with
 |cons r1 r2 =>
  cases r2;obtain⟨t,rfl⟩:=fu h1 r1;refine P.len_str (by rw[N7]at l;omega) ⟨.int _,H,_,I.tok _,⟨_,rfl⟩,ag.refl H,Den.int _,q⟩
theorem zZ:cF X (.type "int") (fun ds Q=>∃(x:Str) (n:Int),ds=[.str x]/\PySem.intText? x=some n/\x.length<=640/\Q (.int n)):=by
 intro pins s σ H W ds vs us Q I tr r hd ⟨x,n,e,hn,l,q⟩;subst e;obtain⟨v,rfl,h1⟩:=dY hd;cases r with
 |cons r1 r2 =>
  cases r2;obtain⟨t,rfl⟩:=fu h1 r1;exact PySem.W.KIN.call_text hn l ⟨.int _,H,_,I.tok _,⟨_,rfl⟩,ag.refl H,Den.int _,q⟩
def WV(x y:Str):Bool:=!(Builtin.Str.occurrences x y 0 x.length 1).isEmpty
theorem xb:J6 X (compareOp .NotIn) (Uu (fun i j=>.bl (!WV j i)) fun _ _=>True):=by intro pins s σ H W x y v u vv uu Q I _ rv ru hx hy z;obtain⟨i,j,e1,e2,_,q⟩:=xx z;subst e1 e2;obtain⟨t,rfl⟩:=fu hx rv;obtain⟨t',rfl⟩:=fu hy ru;exact P.notIn_str ⟨.bl _,H,_,I,rfl,ag.refl H,Den.bl _,q⟩
variable{a b o e:Expr}{ta tb to te:DE}{es:yai}{t:DA}
def vp:RD2:=fun x y Q=>match x,y with
 |.str z,.int i=>z.length<=sizeLine/\∃c,KQ z.cps.toList i=some c/\Q (.str ⟨#[c]⟩)
 |_,_=>False
theorem wg(ha:Hs X a ta)(hb:Hs X b tb)(hs:nL b:=by intro _ _;rfl):Hs X (.Subscript a b pos) (Ox vp ta tb):=by
 intro pins s σ H W ρ Q I rr h;refine Subscript_ (qo ha hb I rr h fun vv uu s2 v u x y H2 I2 e rv ru hx hy q=>?_);unfold vp at q;split at q
 ·rename_i z i;obtain⟨l,c,ei,q⟩:=q;have e1:=hx.L6;have e2:=hy.Kb;subst e1 e2;exact GU (C1 a b pins s2 σ H2 _ _ vv uu (fun v' H'=>ag H2 H'/\∃d',Den X.K W.bad H' d' v'/\Q d') I2 rv ru ⟨z,i,c,rfl,rfl,l,ei,ag.refl _,_,Den.str _,q⟩ (hs _ _))
   fun _ s3 ⟨w',H3,I3,r3,e3,d',OY,q'⟩=>⟨w',H3,d',I3,r3,e.trans e3,OY,q'⟩
 ·exact q.elim
def Cb(te:DE)(tl th:DO):DE:=fun ρ Q=>te ρ fun d=>tl ρ fun l=>th ρ fun u=>∃z,d=.str z/\z.length<=sizeLine/\Q (.str (Txt.slice z l u))
theorem wm{lo hi:Option Expr}{tl th:DO}{p2:Pos}(he:Hs X e te)(hl:Qr X lo tl)(hh:Qr X hi th):Hs X (.Subscript e (.Slice lo hi none p2) pos) (Cb te tl th):=by
 intro pins s σ H W ρ Q I r h;refine se (st:=none) (ts:=gK) (R:=fun d l u k=>k=none/\∃z,d=.str z/\z.length<=sizeLine/\Q (.str (Txt.slice z l u))) he hl hh bP I r ?_ ?_ (fun _ _=>⟨_,rfl⟩)
 ·have e1:(fun d=>tl ρ fun l=>th ρ fun u=>gK ρ fun k=>k=none/\∃z,d=D.str z/\z.length<=sizeLine/\Q (.str (Txt.slice z l u)))=fun d=>tl ρ fun l=>th ρ fun u=>∃z,d=D.str z/\z.length<=sizeLine/\Q (.str (Txt.slice z l u)):=by
   funext d
   congr 1
   funext l
   congr 1
   funext u
   exact propext ⟨fun z=>z.2,fun z=>⟨rfl,z⟩⟩
  rw[e1];exact h
 ·intro v vv vl vu vk l u k d sl H' s' I' sm rv hd hs pl pu pk hR;obtain⟨ek,z,ed,hw,q⟩:=hR;subst ek ed;obtain⟨t,rfl⟩:=fu hd rv;refine⟨"str", _,PySem.F.slot_str_getitem.lookup,Qy _ _ _,?_⟩;have fin:∀t' k,DP X pins σ W H Q (.str (Txt.slice z l u) t') {s' with toks:=k}:=fun t' k=>⟨.str _,H',_,I'.tok k,⟨_,rfl⟩,sm,Den.str _,q⟩
  have pv:∀{v:Value} {o:yaq},IsPart v o->∃p:Option (Int×Tok),v=partValue p/\p.map (·.1)=o:=fun {v o} q=>by
   cases q
   ·exact⟨none,rfl,rfl⟩
   ·exact⟨some (_,_),rfl,rfl⟩
  obtain⟨pl',rfl,rfl⟩:=pv pl;obtain⟨pu',rfl,rfl⟩:=pv pu;obtain⟨pk',rfl,e3⟩:=pv pk;have:pk'=none:=by cases pk'<;>first|rfl|cases e3
  subst this;exact wpAny_getItem_str_slice (l:=pl') (u:=pu') (st:=none) hs rfl (post_val_or_str ⟨MH (Txt.slice_le z _ _) hw,fin⟩)
def Uv(X:Cx)(id:String)(r:Str->yas->(D->Prop)->Prop):Prop :=
 ∀ (pins:yab) (s:Shared) (σ:St) (H:Hp) (W:Own) (x:Str) (t:Tok) (ds:yas) (vs:yar) (us:yad) (Q:D->Prop),Inv X pins σ H s->(∀t a,W.bad t a->∃o,H a=some o)->Vals vs us->af X.K W.bad H ds vs->r x ds Q →
  wpAny (model X.prog X.w) X.A (call (.builtin id) (.str x t::us)) (DP X pins σ W H Q) X.xe s
def SJ(r:Str->yas->(D->Prop)->Prop)(to:DE)(t:DA):DE:=fun ρ Q=>to ρ fun d=>∃x,d=.str x/\t ρ fun ds=>r x ds Q
theorem qu {name:Str} {apos cpos:Pos} {id:String} {r:Str->yas->(D->Prop)->Prop} (pa:PlainAttrs "str") (slot:Slot "str" name id) (To:typeOf (.builtin id)=pure (.type "method_descriptor")) (hm:Uv X id r) (ho:Hs X o to) (ha:MF X (e::es) t)
  (Kf:attributeBase o name X.env (eval o X.env)=eval o X.env:=by rfl)
  (Me:((backTo cpos (starEach (e::es) X.env)).all (fun x=>!x.1) && (backToKw cpos (keywordEach [] X.env)).all (fun x=>x.1.isSome)
   && decide ((e::es).length+([]:List Keyword).length+(if([]:List Keyword).isEmpty then 0 else 1)<30))=true:=by rfl)
  (Kg:(apos.endLine==cpos.line)=true:=by rfl) (hs:starEach (e::es) X.env=(false,eval e X.env)::starEach es X.env:=by rfl) (MO:(backTo cpos (starEach es X.env)).any (·.1)=false:=by rfl) :
  Hs X (.Call (.Attribute o name apos) (e::es) [] cpos) (SJ r to t):=by
 intro pins s σ H W ρ Q I rr h;refine wpAny_Call_method_late Kf Me Kg rfl (GU (ho pins s σ H W ρ _ I rr h) fun v s1 ⟨x,H1,d,I1,r1,e1,hd,z,ed,q1⟩=>?_);subst ed;obtain⟨tk,rfl⟩:=fu hd r1;refine⟨"str", id,pa,slot,To,Qy _ _ _,fun a q=>(by cases q),?_⟩;have hA:=ha cpos pins s1 σ H1 W ρ _ I1 (rr.same e1) q1;rw[hs]at hA ⊢;refine Calls.callWith_builtin (by show(false || (backTo cpos (starEach es X.env)).any (·.1))=false;rw[MO]<;>rfl) (Calls.evalArgs_plain ?_);exact GU hA fun us s2 ⟨vs,H2,ds,I2,r2,e2,JS,q2⟩=>GU (hm pins s2 σ H2 W z tk ds vs us Q I2 ((rr.same e1).same e2).tracked r2 JS q2) fun _ _ y=>y.up (e1.trans e2)
def mW(x y:Str):D:=.tup [.str (Txt.partition x y).1,.str (Txt.partition x y).2.1,.str (Txt.partition x y).2.2]
theorem AL:Uv X "str.partition" (fun x ds Q=>∃y,ds=[.str y]/\(y.length==0)=false/\x.length<=sizeLine/\Q (mW x y)):=by
 intro pins s σ H W x t ds vs us Q I tr r hd ⟨y,e,hy,hz,q⟩;subst e;obtain⟨v,rfl,h1⟩:=dY hd;cases r with
 |cons r1 r2 =>
  cases r2;obtain⟨t',rfl⟩:=fu h1 r1;refine call_meets PySem.F.slot_str_partition (Qy _ _ _) PySem.F.entry_str_partition (PySem.F.args_str_partition_2 _ _) (meets_str_partition x y t t' hy hz) ?_;have hf:H s.heap.objs.size=none:=I.IZ.fresh (Ka _);have fin:∀(a b c:Str) (ta tb tc:Tok) (k:Nat),Txt.partition x y=(a,b,c)->DP X pins σ W H Q (.ref s.heap.objs.size) {s with heap:=s.heap.push {cls:=.type "tuple", data:=.seq [Value.str a ta,.str b tb,.str c tc].toArray},toks:=k}:=fun a b c ta tb tc k e=>by unfold mW at q;rw[e]at q;refine⟨.ref s.heap.objs.size,L2.upd H s.heap.objs.size (.tup [.str a,.str b,.str c]),_,I.laid (t':=k) (fun b u e=>KU _ e) (Ka _) ⟨by show 3<=sizeLine;decide,_,.cons ⟨_,rfl⟩ (.cons ⟨_,rfl⟩ (.cons ⟨_,rfl⟩ .nil)),⟨_,Mv _ rfl,rfl,_,rfl⟩⟩,rfl,ag.upd hf,Den.tup (JP.of au) ?_,q⟩;exact af.cons (Den.str _) (af.cons (Den.str _) (af.cons (Den.str _) af.nil))
  unfold Txt.partition at fin
  revert fin
  cases Builtin.Str.occurrences x y 0 x.length 1 with
  |nil=>intro fin;exact fin _ _ _ _ _ _ _ rfl
  |cons i r=>intro fin;exact fin _ _ _ _ _ _ _ rfl
theorem tN {apos cpos:Pos} (ho:Hs X o to) (ha:MF X [e] t) (Kf:attributeBase o "partition" X.env (eval o X.env)=eval o X.env:=by rfl)
  (Me:((backTo cpos (starEach [e] X.env)).all (fun x=>!x.1) && (backToKw cpos (keywordEach [] X.env)).all (fun x=>x.1.isSome) && decide ([e].length+([]:List Keyword).length+(if([]:List Keyword).isEmpty then 0 else 1)<30))=true:=by rfl)
  (Kg:(apos.endLine==cpos.line)=true:=by rfl) (hs:starEach [e] X.env=(false,eval e X.env)::starEach [] X.env:=by rfl):Hs X (.Call (.Attribute o "partition" apos) [e] [] cpos) (SJ (fun x ds Q=>∃y,ds=[.str y]/\(y.length==0)=false/\x.length<=sizeLine/\Q (mW x y)) to t) :=
 qu PySem.F.plainAttrs_str PySem.F.slot_str_partition PySem.F.type_str_partition AL ho ha Kf Me Kg hs
end
end PD
set_option linter.all false
set_option maxRecDepth 100000
namespace PD
open PySem PySem.Spec PyProof.Rows L2 PX WC
def chD(x:Str):yas:=x.cps.toList.map fun c=>D.str ⟨#[c]⟩
def BZ(ti:DE):DA:=fun ρ R=>ti ρ fun d=>∃x,d=.str x/\x.cps.all (·<128)=true/\R (chD x)
section
variable{X:Cx}{e e':Expr}{es:yai}{te:DE}{pos:Pos}
def Vr(X:Cx)(es:yai)(t:Str->Ro->(D->Prop)->Prop):Prop:=∀(out:Str) (pins:yab) (s:Shared) (σ:St) (H:Hp) (W:Own) (ρ:Ro) (Q:D->Prop),Inv X pins σ H s->Rel X W H σ ρ->t out ρ Q →
 wpAny (model X.prog X.w) X.A (joinParts out (evalEach es X.env)) (DP X pins σ W H Q) X.xe s
def zH(out:Str)(_:Ro)(Q:D->Prop):Prop:=out.length<=sizeLine/\Q (.str out)
def wu(te:DE)(t:Str->Ro->(D->Prop)->Prop)(out:Str)(ρ:Ro)(Q:D->Prop):Prop:=te ρ fun d=>∃y,d=.str y/\(out++y).length<=sizeLine/\t (out++y) ρ Q
theorem wx:Vr X [] zH:=fun out pins s σ H W ρ Q I r ⟨l,q⟩=>joinParts_nil ⟨.str out,H,_,I.tok _,⟨_,rfl⟩,ag.refl H,Den.str _,q⟩ l
theorem gL{t:Str->Ro->(D->Prop)->Prop}(he:Hs X e te)(hr:Vr X es t)(hs:evalEach (e::es) X.env=eval e X.env::evalEach es X.env:=by rfl):Vr X (e::es) (wu te t):=by intro out pins s σ H W ρ Q I r h;rw[hs];refine joinParts_cons (GU (he pins s σ H W ρ _ I r h) fun v s1 ⟨vv,H1,d,I1,rv,e1,hd,y,ed,l,q⟩=>?_);subst ed;obtain⟨t',rfl⟩:=fu hd rv;exact⟨l,GU (hr _ pins s1 σ H1 W ρ Q I1 (r.same e1) q) fun _ _ z=>z.up e1⟩
theorem pH{t:Str->Ro->(D->Prop)->Prop}(h:Vr X (e::e'::es) t)(hs:evalEach (e::e'::es) X.env=eval e X.env::eval e' X.env::evalEach es X.env:=by rfl):Hs X (.JoinedStr (e::e'::es) pos) (fun ρ Q=>t Str.empty ρ Q):=by intro pins s σ H W ρ Q I r hq;have:=h Str.empty pins s σ H W ρ Q I r hq;rw[hs]at this;exact JoinedStr_many this
def BW(te:DE):DE:=fun ρ Q=>te ρ fun d=>match d with
 |.int i=>i.natAbs.log2<1920/\Q (.str (toString i))
 |.str x=>x.length<=sizeLine/\Q (.str x)
 |_=>False
theorem mH(he:Hs X e te):Hs X (.FormattedValue e (-1) none pos) (BW te):=by
 intro pins s σ H W ρ Q I r h;refine FormattedValue_plain (GU (he pins s σ H W ρ _ I r h) fun v s1 ⟨vv,H1,d,I1,rv,e1,hd,q⟩=>?_);cases d with
 |int i =>
  have:=hd.Kb;subst this;obtain⟨t,rfl⟩:=rv;exact wpAny_formatField_int q.1 ⟨.str _,H1,_,I1.tok _,⟨_,rfl⟩,e1,Den.str _,q.2⟩
 |str x =>
  obtain⟨t',rfl⟩:=fu hd rv;exact formatField_str (fun t' k=>⟨.str x,H1,_,I1.tok k,⟨_,rfl⟩,e1,Den.str _,q.2⟩) q.1
 |_=>exact False.elim q
end
end PD
set_option linter.all false
set_option maxRecDepth 100000
set_option linter.all false
set_option maxRecDepth 100000
set_option linter.all false
set_option maxRecDepth 100000
namespace PD
open PySem PySem.Spec PyProof.Rows L2 PX WC
section
variable{X:Cx}{pos:Pos}{o e:Expr}{to:DE}{t:DA}
theorem lW{K:yac}{P:yak}{H:Hp}:∀l:yah,af K P H (l.map D.str) (l.map V.str)
 |[]=>af.nil
 |x::l=>af.cons (Den.str x) (lW l)
theorem pJ{K:yac}{P:yak}{H:Hp}:∀{l:yah} {vs:yar},af K P H (l.map D.str) vs->vs=l.map V.str
 |[],_,h=>by rw[Qf]at h;exact Qu (by rw[h.len];rfl)
 |x::l,[],h=>by have:=h.len;simp at this
 |x::l,v::vs,h=>by
  have h':Den K P H (.str x) v/\af K P H (l.map D.str) vs:=by rw[Nj]at h;simp only[af]at h;obtain⟨a,b,e,h1,h2⟩:=h;cases e;exact⟨h1,h2⟩
  rw[Nj,pJ h'.2,h'.1.L6]
theorem sD:∀l:List (Str×Tok),Vals ((l.map (·.1)).map V.str) (strValues l)
 |[]=>.nil
 |p::l=>.cons ⟨p.2,rfl⟩ (sD l)
theorem pR:∀{l:yah} {us:yad},Vals (l.map V.str) us->StrsAre us l
 |[],_,h=>by cases h;exact .nil
 |x::l,_,h=>by
  cases h with
  |cons r rs =>
   obtain⟨t,rfl⟩:=r;exact .cons _ _ (pR rs)
theorem yK:Uv X "str.split" (fun x ds Q=>∃y,ds=[.str y]/\(y.length==0)=false/\x.length<=sizeLine/\(Builtin.Str.partsBetween x (Builtin.Str.occurrences x y 0 x.length (x.length+1)) y.length).length<=sizeLine/\Q (.lst true ((Txt.split x y).map D.str))):=by
 intro pins s σ H W x t ds vs us Q I tr r hd ⟨y,e,hy,hz,hn,q⟩;subst e;obtain⟨v,rfl,h1⟩:=dY hd;cases r with
 |cons r1 r2 =>
  cases r2;obtain⟨t',rfl⟩:=fu h1 r1;have hf:H s.heap.objs.size=none:=I.IZ.fresh (Ka _);have fin:∀(l:List (Str×Tok)) (k:Nat),l.map (·.1)=Txt.split x y->l.length<=sizeLine->DP X pins σ W H Q (.ref s.heap.objs.size) {s with heap:=s.heap.push {cls:=.type "list", data:=.seq (strValues l).toArray},toks:=k}:=fun l k el hl=>by rw[<- el]at q;refine⟨.ref s.heap.objs.size,L2.upd H s.heap.objs.size (.lst ((l.map (·.1)).map V.str)),_,I.laid (t':=k) (fun b u e=>KU _ e) (Ka _) ⟨by rw[Kj,Kj];exact hl,_,0,sD l,Mv _ rfl⟩,rfl,ag.upd hf,Den.lst (fun z=>?_) (.new au (Inv.KZ I)) (lW _),q⟩;obtain⟨o,z⟩:=tr _ _ z;rw[hf]at z;cases z
  cases c1:(decide (x.length<y.length) || decide (Builtin.Str.strKind x<Builtin.Str.strKind y))
  ·cases c2:(Builtin.Str.occurrences x y 0 x.length (x.length+1)).isEmpty
   ·refine call_meets PySem.F.slot_str_split (Qy _ _ _) PySem.F.entry_str_split (PySem.F.args_str_split_2 _ _) (meets_str_split_sep x y t t' c1 hy c2 hz hn) ?_;show wants _ _ _ {s with toks:=_,heap:=s.heap.push {cls:=.type "list", data:=.seq (strsFrom s.toks (Builtin.Str.partsBetween x (Builtin.Str.occurrences x y 0 x.length (x.length+1)) y.length)).toArray} };rw[strsFrom_eq];have et:=numbered_texts s.toks (Builtin.Str.partsBetween x (Builtin.Str.occurrences x y 0 x.length (x.length+1)) y.length);refine fin _ _ (et.trans ?_) ?_
    ·unfold Txt.split;rw[c1,c2];rfl
    ·have:=congrArg List.length et;rw[Kj]at this;rw[this];exact hn
   ·refine call_meets PySem.F.slot_str_split (Qy _ _ _) PySem.F.entry_str_split (PySem.F.args_str_split_2 _ _) (meets_str_split_not_found x y t t' c1 hy c2) (fin [(x,t)] s.toks ?_ ?_)
    ·unfold Txt.split;rw[c1,c2];rfl
    ·show 1<=sizeLine;decide
  ·refine call_meets PySem.F.slot_str_split (Qy _ _ _) PySem.F.entry_str_split (PySem.F.args_str_split_2 _ _) (meets_str_split_cannot_occur x y t t' c1) (fin [(x,t)] s.toks ?_ ?_)
   ·unfold Txt.split;rw[c1];rfl
   ·show 1<=sizeLine;decide
theorem AK:Uv X "str.join" (fun x ds Q=>∃(b:Bool) (ys:yah),ds=[.lst b (ys.map D.str)]/\x.length<=16/\(ys.map (·.length)).sum+ys.length<=1048576/\Q (.str (Txt.join x ys))):=by
 intro pins s σ H W x t ds vs us Q I tr r hd ⟨b,ys,e,hx,hw,q⟩;subst e;obtain⟨v,rfl,h1⟩:=dY hd;obtain⟨a,ws,ev,_,hq,hs⟩:=h1.KY;subst ev;cases r with
 |cons r1 r2 =>
  cases r2;cases r1;obtain⟨its,rv,pl,_⟩:=I.list hq;rw[pJ hs]at rv;exact join_listW pl.isList (by simpa using pR rv) hx hw fun t' k=>⟨.str _,H,_,I.tok k,⟨_,rfl⟩,ag.refl H,Den.str _,q⟩
theorem yJ:Uv X "str.index" (fun x ds Q=>∃y,ds=[.str y]/\∃i r,Builtin.Str.occurrences x y 0 x.length 1=i::r/\Q (.int (i:Nat))):=by
 intro pins s σ H W x t ds vs us Q I tr r hd ⟨y,e,i,rs,ho,q⟩;subst e;obtain⟨v,rfl,h1⟩:=dY hd;cases r with
 |cons r1 r2 =>
  cases r2;obtain⟨t',rfl⟩:=fu h1 r1;exact call_gives PySem.F.slot_str_index (Qy _ _ _) PySem.F.entry_str_index (PySem.F.args_str_index_2 _ _) (gives_str_index x y t t' i rs ho) ⟨.int _,H,_,I.tok _,⟨_,rfl⟩,ag.refl H,Den.int _,q⟩
end
end PD
set_option linter.all false
set_option maxRecDepth 100000
namespace PD
open PySem PySem.Spec PyProof.Rows L2 PX WC
section
variable{X:Cx}{c a b o e:Expr}{es rest:yai}{pos apos cpos:Pos}{tA:DT}{ta tb to:DE}{t:DA}
theorem lU {x:Str} {i:Str} (hm:∃t,X.mg x=some (.str i t)) (hg:Gl X x:=by rfl) (hd:(x==("__debug__" : Str))=false:=by decide):Hs X (.Name x pos) (dC (.str i)):=by obtain⟨t,hm⟩:=hm;exact Hs.of (dw (v:=.str i) hg hm ⟨t,rfl⟩ hd) fun _ H _ _ _ _ q=>⟨ag.refl H,_,Den.str i,q⟩
def xu(x:Str)(ds:yas)(Q:D->Prop):Prop:=∃y,ds=[.str y]/\(y.length==0)=false/\x.length<=sizeLine/\(Builtin.Str.partsBetween x (Builtin.Str.occurrences x y 0 x.length (x.length+1)) y.length).length<=sizeLine/\Q (.lst true ((Txt.split x y).map D.str))
def rJoin(x:Str)(ds:yas)(Q:D->Prop):Prop:=∃(b:Bool) (ys:yah),ds=[.lst b (ys.map D.str)]/\x.length<=16/\(ys.map (·.length)).sum+ys.length<=1048576/\Q (.str (Txt.join x ys))
def xt(x:Str)(ds:yas)(Q:D->Prop):Prop:=∃y,ds=[.str y]/\∃i r,Builtin.Str.occurrences x y 0 x.length 1=i::r/\Q (.int (i:Nat))
theorem yt (ho:Hs X o to) (ha:MF X [e] t) (Kf:attributeBase o "split" X.env (eval o X.env)=eval o X.env:=by rfl)
  (Me:((backTo cpos (starEach [e] X.env)).all (fun x=>!x.1) && (backToKw cpos (keywordEach [] X.env)).all (fun x=>x.1.isSome) && decide ([e].length+([]:List Keyword).length+(if([]:List Keyword).isEmpty then 0 else 1)<30))=true:=by rfl)
  (Kg:(apos.endLine==cpos.line)=true:=by rfl) (hs:starEach [e] X.env=(false,eval e X.env)::starEach [] X.env:=by rfl):Hs X (.Call (.Attribute o "split" apos) [e] [] cpos) (SJ xu to t) :=
 qu PySem.F.plainAttrs_str PySem.F.slot_str_split PySem.F.type_str_split yK ho ha Kf Me Kg hs
theorem nX (ho:Hs X o to) (ha:MF X [e] t) (Kf:attributeBase o "join" X.env (eval o X.env)=eval o X.env:=by rfl)
  (Me:((backTo cpos (starEach [e] X.env)).all (fun x=>!x.1) && (backToKw cpos (keywordEach [] X.env)).all (fun x=>x.1.isSome) && decide ([e].length+([]:List Keyword).length+(if([]:List Keyword).isEmpty then 0 else 1)<30))=true:=by rfl)
  (Kg:(apos.endLine==cpos.line)=true:=by rfl) (hs:starEach [e] X.env=(false,eval e X.env)::starEach [] X.env:=by rfl):Hs X (.Call (.Attribute o "join" apos) [e] [] cpos) (SJ rJoin to t) :=
 qu PySem.F.plainAttrs_str PySem.F.slot_str_join PySem.F.type_str_join AK ho ha Kf Me Kg hs
theorem yr (ho:Hs X o to) (ha:MF X [e] t) (Kf:attributeBase o "index" X.env (eval o X.env)=eval o X.env:=by rfl)
  (Me:((backTo cpos (starEach [e] X.env)).all (fun x=>!x.1) && (backToKw cpos (keywordEach [] X.env)).all (fun x=>x.1.isSome) && decide ([e].length+([]:List Keyword).length+(if([]:List Keyword).isEmpty then 0 else 1)<30))=true:=by rfl)
  (Kg:(apos.endLine==cpos.line)=true:=by rfl) (hs:starEach [e] X.env=(false,eval e X.env)::starEach [] X.env:=by rfl):Hs X (.Call (.Attribute o "index" apos) [e] [] cpos) (SJ xt to t) :=
 qu PySem.F.plainAttrs_str PySem.F.slot_str_index PySem.F.type_str_index yJ ho ha Kf Me Kg hs
end
end PD
set_option linter.all false
set_option maxRecDepth 100000
namespace PD
open PySem PySem.Spec PyProof.Rows L2 PX WC
section
variable{X:Cx}{sc:Scope}{ns:yah}{js:yag}{elt iter:Expr}{ifs:yai}{px pos:Pos}{te:DE}{tc:DT}{wi:DA}{x:Str}
def EA(i:Nat)(t:DE):DS:=fun E ρ=>t ρ fun d=>∃ds,d=.lst true ds/\E.nx (ρ.set i (some (.own ds)))
end
section
variable{X:Cx}{pos:Pos}
def EI(K:yac)(C:Addr)(i:Nat)(sp:DSp)(t:DA)(su:DS):DS:=fun E ρ=>t ρ fun ds=>sp (aC ds) (fun _=>E.nx ρ) (og K C i su E ρ)
end
section
open PySem.W
end
end PD
set_option linter.all false
namespace PD
open PySem PySem.Spec PyProof.Rows L2 PX
abbrev M5:=List (Str×Tok×Value)
def kx(P:Params)(es:M5):Array DictEntry:=(es.map fun e=>(⟨PyData.keyHash P e.1,.str e.1 e.2.1,e.2.2⟩:DictEntry)).toArray
def Od(es:M5)(x:Str):yan:=(es.find? fun e=>decide (x=e.1)).map (·.2.2)
structure da(K:yac)(w:World)(a:Addr)(es:M5):Prop where
 ns:(a==sysModules)=false
 at_:∃ep,K.lookup a=some ⟨.type "dict", none,.dict (kx w.params es) ep,#[]⟩
theorem oh(P:Params)(es:M5)(x:Str):findBy jD (kx P es) (.inr x)=Od es x:=by
 unfold findBy kx Od;rw[List.find?_toArray,List.find?_map,Option.map_map];have e:((fun e:DictEntry=>jD (.inr x) e.key)∘fun e:Str×Tok×Value=>(⟨PyData.keyHash P e.1,.str e.1 e.2.1,e.2.2⟩:DictEntry))=fun e=>decide (x=e.1):=funext fun e=>by
  show Value.isStrOf x (.str e.1 e.2.1)=_;by_cases h:x=e.1
  ·rw[Ni h,h];exact fY e.1 e.2.1
  ·rw[NV h];cases q:Value.isStrOf x (.str e.1 e.2.1)with
   |false=>rfl
   |true =>
    obtain⟨t,z⟩:=Value.isStrOf_shape q;injection z with z1;exact absurd z1.symm h
 rw[e];rfl
section
variable{X:Cx}{pins:yab}{σ:St}{H:Hp}{s:Shared}{a:Addr}{es:M5}
theorem da.mapOf(d:da X.K X.w a es)(I:Inv X pins σ H s):s.heap.MapOf (gO X.prog X.w) a (fun k=>findBy jD (kx X.w.params es) k):=by obtain⟨ep,e⟩:=d.at_;refine⟨_,_,ep,I.Ll _ _ e,⟨rfl,rfl,rfl⟩,rfl,fun e he=>?_,fun k=>rfl⟩;unfold kx at he;rw[List.mem_toArray]at he;obtain⟨z,_,rfl⟩:=Pn.mp he;exact⟨.inr z.1,fY z.1 z.2.1,rfl⟩
end
section
variable{X:Cx}{a:Addr}{es:M5}{e:Expr}{te:DE}{g:Str}{p pos:Pos}
def nW(es:M5)(te:DE):DT:=fun ρ Q=>te ρ fun d=>match d with
 |.str x=>Q (Od es x).isSome
 |_=>False
theorem wD (d:da X.K X.w a es) (hm:X.mg g=some (.ref a)) (he:Hs X e te) (hg:Gl X g:=by rfl) (Kl:(g==("__debug__" : Str))=false:=by decide) (hb:behindInMarks .In (.Name g p)=false:=by rfl):N8 X (.Compare e [.In] [.Name g p] pos) (nW es te):=by
 intro pins s σ H W ρ Q I rr h;refine SV (GU (he pins s σ H W ρ _ I rr h) fun vv s1 ⟨v,H1,x,I1,rv,e1,hx,q1⟩=>cN I1 hg hm ?_ Kl) hb;cases x with
 |str y =>
  obtain⟨t,rfl⟩:=fu hx rv;refine wpAny_in_of (knd:=gO X.prog X.w) (k:=.inr y) (fY y t) d.ns (d.mapOf I1) ?_;rw[oh];exact O4 ⟨H1,I1.tok _,e1,q1⟩
 |_=>exact q1.elim
theorem wF (d:da X.K X.w a es) (hm:X.mg g=some (.ref a)) (he:Hs X e te) (hg:Gl X g:=by rfl) (Kl:(g==("__debug__" : Str))=false:=by decide) (hb:behindInMarks .NotIn (.Name g p)=false:=by rfl):N8 X (.Compare e [.NotIn] [.Name g p] pos) (fun ρ Q=>nW es te ρ fun b=>Q (!b)):=by
 intro pins s σ H W ρ Q I rr h;refine SV (GU (he pins s σ H W ρ _ I rr h) fun vv s1 ⟨v,H1,x,I1,rv,e1,hx,q1⟩=>cN I1 hg hm ?_ Kl) hb;cases x with
 |str y =>
  obtain⟨t,rfl⟩:=fu hx rv;refine wpAny_notIn_of (knd:=gO X.prog X.w) (k:=.inr y) (fY y t) d.ns (d.mapOf I1) ?_;rw[oh];exact O4 ⟨H1,I1.tok _,e1,q1⟩
 |_=>exact q1.elim
end
end PD
set_option linter.all false
namespace PD
open PySem PySem.Spec PyProof.Rows L2 PX
def Nn(H₀ H:Hp):Hp:=fun b=>if(H₀ b).isSome=true then H b else none
theorem cX{H₀ H:Hp}{b:Addr}(h:H₀ b=none):Nn H₀ H b=none:=by unfold Nn;rw[h];rfl
theorem ib{H₀ H:Hp}{b:Addr}{o:HO}(h:Nn H₀ H b=some o):H b=some o:=by
 unfold Nn at h;split at h
 ·exact h
 ·cases h
def Dom(H₀ H:Hp):Prop:=∀b o,H₀ b=some o->∃o',H b=some o'
theorem Dom.refl(H:Hp):Dom H H:=fun _ o h=>⟨o,h⟩
theorem Dom.same{H₀ H H':Hp}(d:Dom H₀ H)(e:ag H H'):Dom H₀ H':=fun b o h=>by obtain⟨o',q⟩:=d b o h;exact e.ex q
theorem oN{H₀ H:Hp}(d:Dom H₀ H){b:Addr}(h:Nn H₀ H b=none):H₀ b=none:=by
 cases e:H₀ b with
 |none=>rfl
 |some o =>
  obtain⟨o',q⟩:=d b o e;unfold Nn at h;rw[e,q]at h;cases h
abbrev Cx.re(X:Cx)(H:Hp):Cx:={X with H₀:=Nn X.H₀ H}
theorem Inv.re{X:Cx}{pins:yab}{σ:St}{H:Hp}{s:Shared}(I:Inv X pins σ H s)(d:Dom X.H₀ H):Inv (Cx.re X H) pins σ H s where
 ok:={mod:=I.ok.mod,kind:=I.ok.kind,glob:=I.ok.glob,blt:=I.ok.blt,above:=I.ok.above,inj:=I.ok.inj,has:=I.ok.has,OM:=I.ok.OM,hd:=I.ok.hd,frames:=I.ok.frames,RC:=I.ok.RC,Tc:=I.ok.Tc,bs:=fun b o h=>⟨(I.ok.bs b o h).1,cX (I.ok.bs b o h).2⟩,Pc:=I.ok.Pc,Nx:=I.ok.Nx,Oi:=I.ok.Oi,Lo:=I.ok.Lo,Pp:=fun b h=>cX (I.ok.Pp b h)}
 os:=I.os
 bare:=I.bare
 base:={keep:=fun b o h n=>I.base.keep b o h (oN d n),slot:=fun b o h n=>I.base.slot b o h (oN d n),free:=fun b o h n=>I.base.free b o h (oN d n),there:=I.base.there,KC:=fun b xs h=>ib h,Kv:=fun b o u h=>ib h,Kw:=fun b ps h=>⟨#[],by rw[ib h];simp⟩}
 loc:=I.loc
 cell:=I.cell
 free:=I.free
 JK:=I.JK
 pin:=I.pin
 IZ:=I.IZ
 len:=I.len
theorem Inv.Uw{X:Cx}{pins:yab}{σ:St}{H H1:Hp}{s s1:Shared}(I:Inv X pins σ H s)(d:Dom X.H₀ H)(J:Inv (Cx.re X H) pins σ H1 s1):Inv X pins σ H1 s1 where
 ok:=I.ok
 os:=J.os
 bare:=J.bare
 base:={keep:=fun b o h n=>J.base.keep b o h (cX n),slot:=fun b o h n=>J.base.slot b o h (cX n),free:=fun b o h n=>J.base.free b o h (cX n),there:=J.base.there,KC:=fun b xs h=>J.base.KC b xs (by have:=I.base.KC b xs h;show Nn X.H₀ H b=_;unfold Nn;rw[h,this];rfl),Kv:=fun b o u h=>J.base.Kv b o u (by have:=I.base.Kv b o u h;show Nn X.H₀ H b=_;unfold Nn;rw[h,this];rfl),Kw:=fun b ps h=>by obtain⟨m,e⟩:=I.base.Kw b ps h;obtain⟨m2,e2⟩:=J.base.Kw b (ps++m) (by show Nn X.H₀ H b=_;unfold Nn;rw[h,e];rfl);exact⟨m++m2,by rw[e2,Ru]⟩}
 loc:=J.loc
 cell:=J.cell
 free:=J.free
 JK:=J.JK
 pin:=J.pin
 IZ:=J.IZ
 len:=J.len
def aM(K:yac)(P:Addr->Prop)(H:Hp)(σ:St)(ρ:Ro):Prop:=∀(i:Nat) (x:Sl),ρ[i]?=some (some x)->∃d v,x=.val d/\σ[i]?=some (some v)/\Den K (fun t a=>P a∨(t=true/\∃o,H a=some o)) H d v
abbrev uB(K:yac)(P:Addr->Prop)(H H':Hp)(d:D)(v:V):Prop:=Den K (fun t a=>P a∨(t=true/\∃o,H a=some o)) H' d v
def rH(P:Addr->Prop)(H:Hp):Own:=⟨P,fun _=>none,fun a=>∃o,H a=some o⟩
theorem md{P:Addr->Prop}{H:Hp}{t:Bool}{a:Addr}:(rH P H).bad t a↔P a∨(t=true/\∃o,H a=some o):=by
 unfold Own.bad rH;constructor
 ·rintro(h|⟨_,h⟩| h)
  ·exact .inl h
  ·cases h
  ·exact .inr h
 ·rintro(h|h)
  ·exact .inl h
  ·exact .inr (.inr h)
theorem aM.rel{X:Cx}{P:Addr->Prop}{H:Hp}{σ:St}{ρ:Ro}(h:aM X.K P H σ ρ)(hP:∀a,P a->∃o,H a=some o)(ent:ag X.H₀ H)(tab:cb X.K H):Rel X (rH P H) H σ ρ where
 val:=fun i d q=>by obtain⟨d',v,e,h1,h2⟩:=h i _ q;cases e;exact⟨v,h1,h2.HF fun t a z=>md.mp z⟩
 own:=fun i x q=>by obtain⟨d',v,e,_⟩:=h i _ q;cases e
 inj:=fun i j a z=>by cases z
 kn:=fun i a z=>by cases z
 ke:=fun i a z=>by cases z
 bt:=hP
 st:=fun a z=>z
 ent:=ent
 tab:=tab
theorem oU{H₀ H:Hp}(tk:cx H):ag (Nn H₀ H) H:=⟨fun b o h _=>ib h,fun b ps h=>⟨#[],by rw[ib h];simp⟩,fun _=>tk⟩
end PD
set_option linter.all false
namespace PD
open PySem PySem.Spec PyProof.Rows L2 PX PZ
section
variable{X:Cx}{a:Addr}{es:M5}{e:Expr}{te:TE}{g:Str}{p sp pos:Pos}
def zT(es:M5)(te:TE):TE:=fun σ H Q=>te σ H fun y H1=>∃x v u,y=.str x/\Od es x=some u/\RelV v u/\Q v H1
theorem oG (d:da X.K X.w a es) (hm:X.mg g=some (.ref a)) (he:PE X e te) (hg:Gl X g:=by rfl) (Kl:(g==("__debug__" : Str))=false:=by decide) (hs:lQ e:=by intro _ _;rfl):PE X (.Subscript (.Name g p) e sp) (zT es te):=by intro pins s σ H Q I h;refine Bo PySem.F.slot_dict_getitem.lookup hs (cN I hg hm (GU (he pins s σ H _ I h) fun iv s2 ⟨y,H2,I2,ry,x,v,u,ey,l,rv,q⟩=>?_) Kl);subst ey;obtain⟨t,rfl⟩:∃t,iv=Value.str x t:=ry;have M:=d.mapOf I2;refine⟨M.typeIs,wpAny_getItem_of (knd:=gO X.prog X.w) (k:=.inr x) (v:=u) (fY x t) M (by rw[oh];exact l) ⟨v,H2,I2.tok _,rv,q⟩⟩
end
def iJ (K:yac) (b:Addr) (xs:yah):Prop:=∃(o:Obj) (its:yao) (n:Nat),K.lookup b=some o/\o.cls=.type "tuple" /\ o.data=.seq its n/\its.size<=sizeLine/\Vals (xs.map V.str) its.toList
theorem iJ.sq{K:yac}{b:Addr}{xs:yah}(h:iJ K b xs)(H:Hp):L2.JP K H b (xs.map V.str):=.inr h
def uL(K:yac)(es:M5)(x:Str)(fs:yah):Prop:=∃b,Od es x=some (.ref b)/\iJ K b fs
section
variable{X:Cx}{a:Addr}{es:M5}{e:Expr}{te:DE}{g:Str}{p p2 sp pos:Pos}
def zC(K:yac)(es:M5)(te:DE):DE:=fun ρ Q=>te ρ fun d=>∃x fs,d=.str x/\uL K es x fs/\Q (.int fs.length)
theorem Ai (d:da X.K X.w a es) (hm:X.mg g=some (.ref a)) (he:Hs X e te) (hl:Gl X "len" := by rfl) (hml:X.mg "len" = none) (hg:Gl X g:=by rfl) (Kl:(g==("__debug__" : Str))=false:=by decide) (hs:lQ e:=by intro _ _;rfl)
  (KN:starEach [.Subscript (.Name g p) e sp] X.env=(false,eval (.Subscript (.Name g p) e sp) X.env)::starEach [] X.env:=by rfl) (KW:(backTo pos (starEach [] X.env)).any (·.1)=false:=by rfl) :
  Hs X (.Call (.Name "len" p2) [.Subscript (.Name g p) e sp] [] pos) (zC X.K es te) :=
 Hs.of (rJ gU hl hml NW (aZ (oG d hm he.pe hg Kl hs) bA KN)) fun σ H W ρ Q r h=>by refine⟨W,ρ,_,r,h,fun v H1 dd e1 hd q=>?_⟩;obtain⟨x,fs,rfl,⟨b,l,kt⟩,q⟩:=q;have z:=hd.L6;subst z;refine⟨x,.ref b,.ref b,rfl,l,rfl,b,_,rfl,.inr (kt.sq H1),e1,.int fs.length,?_,q⟩;rw[Kj];exact Den.int _
end
section
variable{X:Cx}{A0:Addr}{OF:M5}{e b:Expr}{te tb:DE}{g:Str}{p q sp pos:Pos}
def qt(K:yac)(OF:M5)(te tb:DE):DA:=fun ρ R=>te ρ fun d=>∃x fs,d=.str x/\uL K OF x fs/\tb ρ fun d2=>∃k2 ys,bX d2=some (k2,ys)/\R (List.zipWith (fun x y=>D.tup [x,y]) (fs.map D.str) ys)
theorem t6 {es:yai} {kt:Nat} {tp:Pos} (dd:da X.K X.w A0 OF) (Oq:X.mg g=some (.ref A0)) (hm:X.mg "zip" = none) (he:Hs X e te) (hb:Hs X b tb) (hg:Gl X "zip" := by rfl) (Se:Gl X g:=by rfl) (Kl:(g==("__debug__" : Str))=false:=by decide) (QK:lQ e:=by intro _ _;rfl)
  (hs:starEach [.Subscript (.Name g q) e sp,b] X.env=(false,eval (.Subscript (.Name g q) e sp) X.env)::starEach [b] X.env:=by rfl) (WW:starEach [b] X.env=(false,eval b X.env)::starEach [] X.env:=by rfl) (Q7:(backTo pos (starEach [b] X.env)).any (·.1)=false:=by rfl) :
  Oa X (.Tuple es kt tp) (.Call (.Name "zip" p) [.Subscript (.Name g q) e sp,b] [] pos) (qt X.K OF te tb):=by
 intro pins s σ H W ρ R I r h;have Tv:PA X [.Subscript (.Name g q) e sp,b] (fT (zT OF (mS X te)) (fT (mS X tb) kY)):=aZ (oG dd Oq he.pe Se Kl QK) (aZ hb.pe bA WW) hs;refine Call_ (fZ I hg hm boot_zip (PyProof.Rows.callWith_type1 (GU (Tv pos pins s σ H (fun vs H1=>∃l1 fs v2 d2 k2 ys,vs=[.ref l1,v2]/\ag H H1/\iJ X.K l1 fs/\Den X.K W.bad H1 d2 v2/\bX d2=some (k2,ys)/\R (List.zipWith (fun x y=>D.tup [x,y]) (fs.map D.str) ys)) I
  ⟨W,ρ,_,r,h,fun v H1 d e1 hd ⟨x,fs,ed,⟨l1,lk,kt⟩,q1⟩=>?_⟩) fun us s1 ⟨vs,H1,I1,r1,l1,fs,v2,d2,k2,ys,ev,e1,kt,hd2,g2,q⟩=>?_) hs Q7))
 ·subst ed;have z:=hd.L6;subst z;exact⟨x,.ref l1,.ref l1,rfl,lk,rfl,W,ρ,_,r.same e1,q1,fun v2 H2 d2 e2 hd2 ⟨k2,ys,g2,q2⟩=>⟨l1,fs,v2,d2,k2,ys,rfl,e1.trans e2,kt,hd2,g2,q2⟩⟩
 ·subst ev;obtain⟨l2,WX,e3,sq2,WY,Vk⟩:=hd2.seq g2;subst e3;have sq1:NJ X.K false H1 l1 (fs.map V.str):=kt.sq H1;have WZ:af X.K W.bad H1 (fs.map D.str) (fs.map V.str):=lW fs;cases r1 with
  |cons ra rr =>
   cases rr with
   |cons rb rr =>
    cases rr;cases ra;cases rb;obtain⟨us1,_,p1⟩:=sq1.list I1;obtain⟨us2,_,p2⟩:=sq2.list I1;have nn:∀j:Nat,s1.heap.objs.size<=s1.heap.objs.size+j:=fun j=>Nat.le_add_right _ j
    refine FC p1 p2 fun h' Z kp=>?_
    refine wpAny_pyIter_zip Z.z ?_;have Dz:Ap (s1.heap.objs.size+4) (s1.heap.objs.size+2) (s1.heap.objs.size+3) s1.heap.objs.size (s1.heap.objs.size+1):=by constructor<;>simp
    refine⟨s1.heap.objs.size+4,[s1.heap.objs.size+4,s1.heap.objs.size+2,s1.heap.objs.size+3,s1.heap.objs.size,s1.heap.objs.size+1],_,_,H1,_,rfl,I1.kept (t':=s1.toks) kp,e1,zj false k2 l1 l2 _ _ _ _ _ Dz,Z,fun c hc=>?_,?_,q⟩
    ·have Nb:s1.heap.objs.size<=c:=by
      simp only[L0,O7,or_false]at hc;rcases hc with q|q|q|q|q<;>subst q<;>first|exact nn _|exact Ka _
     exact I1.QD Nb (I1.IZ.fresh Nb)
    ·intro P' H' hT hL hX i;have NG:NJ X.K false H' l1 (fs.map V.str):=kt.sq H';have W4:=Vk P' H' hT hL;have n1:=WZ.len;have n2:=WY.len;have hlen:(List.zipWith (fun x y=>D.tup [x,y]) (fs.map D.str) ys).length=min (fs.map D.str).length ys.length:=List.length_zipWith;refine⟨fun hi=>?_,fun v H3 y hi=>?_,fun hi=>⟨_,WX,NG,W4,?_⟩⟩
     ·obtain⟨x,hx,_⟩:=WZ.get (i:=i) (d:=(fs.map D.str)[i]'(by omega)) (by simp);obtain⟨y,hy,_⟩:=WY.get (i:=i) (d:=ys[i]'(by omega)) (by simp);exact⟨_,WX,x,y,NG,W4,hx,hy⟩
     ·obtain⟨T,x,y',e,nT,eH,hx,hy⟩:=y;subst e eH;obtain⟨dx,g1',hx'⟩:=WZ.bh (hx _ NG);obtain⟨dy,g2',RH⟩:=WY.bh (hy WX W4);have sm:ag H' (L2.upd H' T (.tup [x,y'])):=ag.upd nT;refine⟨sm,.tup [dx,dy],by simp only[List.getElem?_zipWith,g1',g2'],Den.tup (JP.of au) (af.cons ((Den.map hT hL hX dx x hx').same sm) (af.one ((Den.map hT hL hX dy y' RH).same sm)))⟩
     ·by_cases hz:(fs.map D.str).length<=i
      ·exact .inl (Sr (by omega))
      ·exact .inr (Sr (by omega))
end
end PD
set_option linter.all false
namespace PD
open PySem PySem.Spec PyProof.Rows L2 PX
section
variable{X:Cx}{A0:Addr}{OF:M5}{e e1:Expr}{es:yai}{te:DE}{t:DA}{g:Str}{q sp pos:Pos}
def gX(X:Cx)(OF:M5)(Ed:Value->Prop)(te:DE)(t:DA):DE:=fun ρ Q=>te ρ fun d=>∃(x h:Str) (k:Nat) (ps:yah) (sp:DSp),d=.str x/\Od OF x=X.mg h/\Kk X.prog X.w X.K X.mg X.base h k ps sp/\aX k X.A/\t ρ fun ds=>sp (aC ds) Q Ed
theorem iM {Ed:Value->Prop} (px:bF X Ed) (dd:da X.K X.w A0 OF) (Oq:X.mg g=some (.ref A0)) (he:Hs X e te) (ha:MF X (e1::es) t) (Se:Gl X g:=by rfl) (Kl:(g==("__debug__" : Str))=false:=by decide) (QK:lQ e:=by intro _ _;rfl)
  (KN:starEach (e1::es) X.env=(false,eval e1 X.env)::starEach es X.env:=by rfl) (KW:(backTo pos (starEach es X.env)).any (·.1)=false:=by rfl)
  (W5:eval (.Call (.Subscript (.Name g q) e sp) (e1::es) [] pos) X.env=(do callWith pos (←eval (.Subscript (.Name g q) e sp) X.env) [] (backTo pos (starEach (e1::es) X.env)) (backToKw pos (keywordEach [] X.env))):=by rfl) :
  Hs X (.Call (.Subscript (.Name g q) e sp) (e1::es) [] pos) (gX X OF Ed te t):=by
 intro pins s σ H W ρ Q I rr h;refine Call_ (GU (oG dd Oq he.pe Se Kl QK pins s σ H (fun v H1=>ag H H1/\∃(h:Str) (k:Nat) (ps:yah) (sp:DSp) (f:Addr),v=.ref f/\X.mg h=some (.ref f)/\Kk X.prog X.w X.K X.mg X.base h k ps sp/\aX k X.A/\t ρ fun ds=>sp (aC ds) Q Ed) I
  ⟨W,ρ,_,rr,h,fun v H1 d e1 hd ⟨x,h',k,ps,Qj,ed,l,hh,rm,q1⟩=>?_⟩) fun fv s1 ⟨v,H1,I1,rv,sm,h',k,ps,Qj,f,ev,em,hh,rm,q1⟩=>?_) W5
 ·subst ed;have z:=hd.L6;subst z;obtain⟨f,fd,F,hm,hk,hb⟩:=id hh;exact⟨x,.ref f,.ref f,rfl,l.trans hm,rfl,e1,h',k,ps,Qj,f,rfl,hm,hh,rm,q1⟩
 ·subst ev;obtain rfl:fv=Value.ref f:=rv;obtain⟨f',fd,F,hm,hk,hb⟩:=hh;rw[em]at hm;cases hm;refine PySem.W.callWith_K (h₀:=X.base) I.ok.mod.Pa hk (GU (ha pos pins s1 σ H1 W ρ _ I1 (rr.same sm) q1) fun us s2 ⟨vs,H2,ds,I2,r,e2,JS,q2⟩=>⟨I2.Ll,?_⟩) KN KW;exact GU (m8 (dds:=[]) (dsv:=[]) F rm hb .nil (by simp) I2 ((rr.same sm).same e2) r JS (by rw[Qa];exact q2) fun er s' hx=>px pins σ H2 W ρ s2 er s' I2 ((rr.same sm).same e2) hx) fun _ _ z=>(z.up e2).up sm
end
section
variable{X:Cx}{e:Expr}{te:DE}{rp pos:Pos}
theorem wC{h₀:ExceptHandler}{hs:List ExceptHandler}(he:Hs X.L4 e te):Nd X (.Try [.Return (some e) rp] (h₀::hs) [] [] pos) (uQ te):=by intro pins s σ H W ρ E I r h;refine wpAny_Try_except (Rw (wpAny_Return_some (L3 (he pins s σ H W ρ _ (I.wish _) (r.wish _) h) (fun u s1 ⟨v,H1,d,I1,rv,e1,hd,q⟩=>?_) fun _ _ z=>False.elim z)));exact⟨W,σ,H1,I1.Jr,JA.same e1,v,d,rv,hd,q⟩
end
end PD
set_option linter.all false
namespace PD
open PySem PySem.Spec PyProof.Rows L2 PX
mutual
def fx:D->Prop
 |.HZ=>True|.bl _=>True|.int _=>True|.str _=>True
 |.tup ds=>gr ds
 |.lst _ ds=>gr ds
 |_=>False
def gr:yas->Prop
 |[]=>True
 |d::ds=>fx d/\gr ds
end
section
variable{K:yac}{P P':yak}{H H':Hp}
mutual
theorem Den.Nw(hT:∀a vs,JP K H a vs->JP K H' a vs)(hL:∀t a vs,¬P t a->Lm K H t a vs->¬P' t a/\Lm K H' t a vs):∀(d:D) (v:V),fx d->Den K P H d v->Den K P' H' d v
 |.HZ,_,_,h=>by simpa only[Den]using h
 |.bl _,_,_,h=>by simpa only[Den]using h
 |.int _,_,_,h=>by simpa only[Den]using h
 |.str _,_,_,h=>by simpa only[Den]using h
 |.tup ds,_,p,h=>by simp only[Den]at h ⊢;obtain⟨a,vs,e,q,r⟩:=h;exact⟨a,vs,e,hT a vs q,af.Nw hT hL ds vs (by simpa only[fx]using p) r⟩
 |.lst t ds,_,p',h=>by simp only[Den]at h ⊢;obtain⟨a,vs,e,p,q,r⟩:=h;exact⟨a,vs,e,(hL t a vs p q).1,(hL t a vs p q).2,af.Nw hT hL ds vs (by simpa only[fx]using p') r⟩
 |.exc _,_,p,_=>by simp only[fx]at p
 |.obj _ _ _,_,p,_=>by simp only[fx]at p
 |.MQ,_,p,_=>by simp only[fx]at p
 |.MD _ _,_,p,_=>by simp only[fx]at p
theorem af.Nw(hT:∀a vs,JP K H a vs->JP K H' a vs)(hL:∀t a vs,¬P t a->Lm K H t a vs->¬P' t a/\Lm K H' t a vs):∀(ds:yas) (vs:yar),gr ds->af K P H ds vs->af K P' H' ds vs
 |[],_,_,h=>by simpa only[af]using h
 |d::ds,_,p,h=>by simp only[af]at h ⊢;simp only[gr]at p;obtain⟨v,r,e,h1,h2⟩:=h;exact⟨v,r,e,Den.Nw hT hL d v p.1 h1,af.Nw hT hL ds r p.2 h2⟩
end
end
structure aG(M:Addr->Prop)(H H':Hp):Prop where
 kp:∀b o,H b=some o->NT o->¬M b->H' b=some o
 ex:∀b o,H b=some o->∃o',H' b=some o'
 tb:∀b ps,H b=some (.Mz ps)->∃more,H' b=some (.Mz (ps++more))
 ok:cx H->cx H'
theorem aG.of{M:Addr->Prop}{H H':Hp}(e:ag H H'):aG M H H':=⟨fun b o h n _=>e.kp b o h n,fun _ _ h=>e.ex h,e.tb,e.ok⟩
theorem aG.trans{M:Addr->Prop}{H H1 H2:Hp}(a:aG M H H1)(b:aG M H1 H2):aG M H H2:=⟨fun c o h n m=>b.kp c o (a.kp c o h n m) n m,fun c o h=>by
 obtain⟨o',q⟩:=a.ex c o h;exact b.ex c o' q,fun c ps h=>by
 obtain⟨m1,e1⟩:=a.tb c ps h;obtain⟨m2,e2⟩:=b.tb c _ e1;exact⟨m1++m2,by rw[e2,Ru]⟩,fun h=>b.ok (a.ok h)⟩
theorem aG.mono{M M':Addr->Prop}{H H':Hp}(h:∀a,M a->M' a)(e:aG M H H'):aG M' H H':=⟨fun b o q n m=>e.kp b o q n fun z=>m (h b z),e.ex,e.tb,e.ok⟩
theorem aG.upd{M:Addr->Prop}{H:Hp}{a:Addr}{u o:HO}(hm:M a)(ha:H a=some u)(hu:∀φ,u ≠ .ext φ)(nu:NT u)(no:NT o):aG M H (L2.upd H a o) :=
 ⟨fun b v h _ m=>by rw[aj (fun e=>m (by rw[e];exact hm))];exact h,fun b v h=>by
  by_cases e:b=a
  ·exact⟨o,by rw[e,au]⟩
  ·exact⟨v,by rw[aj e];exact h⟩,fun b ps h=>⟨#[],by rw[aj (fun e=>by subst e;rw[ha]at h;cases h;exact nu),h];simp⟩,cx.upd no (.inr ⟨u,ha,hu,nu⟩)⟩
theorem aG.tab{K:yac}{M:Addr->Prop}{H H':Hp}(e:aG M H H')(h:cb K H):cb K H':=⟨e.ok h.ok,fun P q=>by obtain⟨ps,z⟩:=h.at' P q;obtain⟨m,z⟩:=e.tb P ps z;exact⟨_,z⟩⟩
theorem Dom.Jy{M:Addr->Prop}{H₀ H H':Hp}(d:Dom H₀ H)(e:aG M H H'):Dom H₀ H':=fun b o h=>by obtain⟨o',q⟩:=d b o h;exact e.ex b o' q
end PD
set_option linter.all false
namespace PD
open PySem PySem.Spec PyProof.Rows L2 PX
section
variable{prog:Program}{w:World}{A:Around}{E:yaa}{s:Shared}
theorem Bi {l sl b:Addr} {items new:yao} {n:Nat} {vu:Value} {k:Nat} {Q:Unit->Shared->Prop} (ho:s.heap.get? l=some {cls:=.type "list", data:=.seq items n}) (hs:s.heap.IsSliceOf sl .none vu .none) (pu:IsPart vu (some (k:Int))) (hb:s.heap.IsList b new) (ne:l≠b) (hk:k<=items.size)
  (hz:items.size+new.size<=sizeLine) (h:Q () {s with heap:=s.heap.update l (Obj.mapSeq fun xs=>xs.extract 0 0++new++xs.extract k xs.size)}):wpAny (model prog w) A (setItem (.ref l) (.ref sl) (.ref b)) Q E s:=by
 have hl:s.heap.IsList l items:=PySem.IsL.isList (n:=n) ho;obtain⟨os,SE,hcs,JS⟩:=id hs;obtain⟨ob,hob,hcb,_,Kl⟩:=id hb;have hTs:s.TypeIs (.ref sl) "slice" := ⟨os,SE,hcs⟩;unfold setItem
 try with_reducible refine NR ?_
 first|refine G0 (JR ?_)|skip
 refine G0 (wpAny_sequenceKey hl.typeIs (by decide) ?_);refine G0 (SQ (name:=Str.ofString "__setitem__") hl.typeIs slot_list_setitem
  (S6 slot_list_setitem hl.typeIs entry_list_setitem ?_ (args_list_setitem _ _ _)))
 show wpAny _ _ (Builtin.List.listSubscript? (.ref sl) >>= _) _ _ s;refine G0 ?_;unfold Builtin.List.listSubscript?;refine G0 (wpAny_specialOf hTs slice_no_index ?_);simp only[Option.isNone_none,if_true];refine JR ?_;show wpAny _ _ (typeOf (.ref sl) >>= _) _ _ s;refine G0 (wpAny_typeOf hTs ?_);rw[GS (by decide)];rw[listSliceParts_eq];refine G0 (G0 (Nv SE JS (x:=.none) rfl (G0 (wpAny_listPart .none ?_))));rw[GS (by decide)];refine G0 (Nv SE JS (x:=.none) rfl (G0 (wpAny_listPart .none ?_)));refine G0 (Nv SE JS (x:=vu) rfl (G0 (wpAny_listPart pu (JR ?_))));rw[GS (by show¬((l==b)=true);simp[ne])];refine G0 (m:=Builtin.List.listAllItems (.ref b) _) ?_;unfold Builtin.List.listAllItems;refine G0 (wpAny_typeOf hb.typeIs ?_);rw[G4 (by decide)];unfold Builtin.List.listItems;refine G0 (Qe hob Kl (JR ?_));refine G0 (G0 (Qe ho rfl (JR ?_)));refine G0 (wpAny_of_eq (sliceIndices_raw none (some (k:Int)) none items.size (by simp)) ?_);obtain⟨e1,e2,e3⟩:=kT none (some (k:Int)) items.size;rw[e1,e2,e3,HT.ig,HT.oR,Sv hk];rw[G4 (by decide)];refine G0 (wpAny_rule ?_);rw[GS (by unfold Builtin.List.listTooLong;simp;omega)];have ef:(fun xs:yao=>xs.extract 0 ((0:Nat):Int).toNat++new++xs.extract (max ((0:Nat):Int) (k:Int)).toNat)=fun xs=>xs.extract 0 0++new++xs.extract k xs.size:=by
  funext xs
  rw[show(max ((0:Nat):Int) (k:Int)).toNat=k by omega];rfl
 rw[ef];show wpAny _ _ (updateSeq l _ >>= _) _ _ _;refine G0 (wpAny_updateSeq ho rfl ?_ (by omega) (by simp;omega));exact G0 (wpAny_letGo (JR ⟨.none,rfl,JR h⟩))
end
section
variable{X:Cx}{pos:Pos}
def tL(i k:Nat)(te:DE):DS:=fun E ρ=>∃ds,ρ[i]?=some (some (Sl.own ds))/\te ρ fun d=>∃t es,d=.lst t es/\k<=ds.length/\ds.length+es.length<=sizeLine/\E.nx (ρ.set i (some (.own (es++ds.drop k))))
theorem wB{x:Str}{e:Expr}{te:DE}{px tp kp sp:Pos}{k j:Nat}(i:Nat)(he:Hs X e te)(hi:X.N[i]?=some x:=by rfl)(hv:RB X.env.scope x:=by first|exact Or.inl rfl|exact Or.inr (Or.inl rfl)|exact Or.inr (Or.inr rfl))
  (hd:(x==("__debug__" : Str))=false:=by decide) (LX:(x==("__classdict__" : Str))=false:=by decide)
  (ha:∀v,assign (.Subscript (.Name x px) (.Slice none (some (.Constant (.int (k:Int)) j kp)) none sp) tp) X.env v=(do
   let ov←holding [v] (eval (.Name x px) X.env)
   let iv←holding [v,ov] (eval (.Slice none (some (.Constant (.int (k:Int)) j kp)) none sp) X.env)
   standAt tp
   holding [v,ov,iv] (setItem ov iv v)
   release [iv,v,ov] []):=by intro _;rfl)
  (hs:swapsWithSole [.Subscript (.Name x px) (.Slice none (some (.Constant (.int (k:Int)) j kp)) none sp) tp] e pos.line X.env=pure false:=by rfl) (hw:swappedStores [.Subscript (.Name x px) (.Slice none (some (.Constant (.int (k:Int)) j kp)) none sp) tp] e X.env=pure none:=by rfl)
  (h1:(assignEach [.Subscript (.Name x px) (.Slice none (some (.Constant (.int (k:Int)) j kp)) none sp) tp] X.env).map (·.2)=[assign (.Subscript (.Name x px) (.Slice none (some (.Constant (.int (k:Int)) j kp)) none sp) tp) X.env]:=by rfl) :
  Nd X (.Assign [.Subscript (.Name x px) (.Slice none (some (.Constant (.int (k:Int)) j kp)) none sp) tp] e pos) (tL i k te):=by
 intro pins s σ H W ρ E I r h;obtain⟨ds,eo,h⟩:=h;refine wpAny_Assign_stores (GU (he pins s σ H W ρ _ I r h) fun u s1 ⟨v,H1,d,I1,r1,e1,ND,q1⟩=>?_) hs hw;rw[h1];show wpAny _ _ (assign (.Subscript (.Name x px) _ tp) X.env u) _ _ _;rw[ha];have rr:=r.same e1;obtain⟨t,es,ed,hk,hz,q⟩:=q1;subst ed;obtain⟨b,us,ev,nb,hq,hes⟩:=ND.KY;subst ev;cases r1;obtain⟨a,vs,oa,sa,hA,JS⟩:=rr.Px i ds eo;have ab:a≠b:=fun z=>nb (by rw[<- z];exact .inr (.inl ⟨i,oa⟩))
 refine G0 (NR (GU (kG hi hv hd LX pins s1 σ H1 (fun o H'=>H'=H1/\o=.ref a) I1 ⟨.ref a,sa,rfl,rfl⟩) fun ov s2 ⟨o,H2,I2,ro,eH,so⟩=>?_));subst eH so;cases ro;refine G0 (NR (wpAny_Slice ?_));rw[evalPart_none];refine JR ?_;refine GU (bI (ae (X:=X)) pins s2 σ H2 W ρ (fun l=>l=some (k:Int)) I2 rr ⟨(k:Int),rfl,rfl⟩) fun vu s3 ⟨l,H3,I3,pu,e3,q3⟩=>?_
 subst q3;refine JR ?_;have W9:H3 a=some (.lst vs):=e3 _ _ hA;have hq3:=e3.seq hq;have I5:Inv X pins σ H3 {s3 with heap:=s3.heap.push {cls:=.type "slice", data:=.fields #[.none,vu,.none]} }:=I3.kept (t':=s3.toks) fun b ob q=>KU _ q
 obtain⟨its,n,rv,ho,hz1⟩:=I5.lst W9;obtain⟨NA,rv2,hl2,hz2⟩:=I5.list hq3;have ll:=rv.length;have ll2:=rv2.length;have dl:=JS.len;have el:=hes.len;refine G0 (Ry (G0 (NR (Bi ho (Heap.IsSliceOf.new ..) pu hl2.isList ab (by rw[MG];omega) (by rw[MG,MG];omega) ?_))));obtain⟨n',hn⟩:∃n',Obj.mapSeq (fun xs=>xs.extract 0 0++NA.toArray++xs.extract k xs.size) {cls:=.type "list", data:=.seq its.toArray n}={cls:=.type "list", data:=.seq (NA++its.drop k).toArray n'}:=by
  have ex:its.toArray.extract 0 0++NA.toArray++its.toArray.extract k its.toArray.size=(NA++its.drop k).toArray:=by simp;exact P9 (by rw[Og];exact Ka _)
  unfold Obj.mapSeq;dsimp only;rw[ex];exact⟨_,rfl⟩
 have I6:=I5.Pu (ys:=us++vs.drop k) (its':=NA++its.drop k) (n':=n') (f:=Obj.mapSeq fun xs=>xs.extract 0 0++NA.toArray++xs.extract k xs.size) W9 ho hn (rv2.append (rv.drop k)) (by rw[Mw,Og];omega) s3.toks;obtain⟨r5,f5⟩:=(rr.same e3).Pf eo oa sa W9 ((hes.same e3).append ((JS.same e3).drop k));exact wpAny_release ⟨W,σ,_,I6,(JA.same (e1.trans e3)).trans f5,_,r5,q⟩
end
def GC(X:Cx)(t:DT):TT:=fun σ H Q=>Dom X.H₀ H/\cb X.K H/\∃(P:Addr->Prop) (ρ:Ro) (Qd:Bool->Prop),(∀a,P a->∃o,H a=some o)/\aM X.K P H σ ρ/\t ρ Qd/\∀b H',ag H H'->Qd b->Q b H'
theorem mZ{X:Cx}{e:Expr}{t:DT}(hp:∀H,N8 (Cx.re X H).L4 e t):PT X e (GC X t):=by intro pins s σ H Q I ⟨dm,tk,P,ρ,Qd,hP,vr,ht,k⟩;have J:=Inv.re I dm;have r:=aM.rel (X:=Cx.re X H) vr hP (oU tk.ok) tk;refine L3 (hp H pins s σ H (rH P H) ρ Qd (Inv.wish J _) (Rel.wish r _) ht) (fun b s1 ⟨H1,I1,e1,q⟩=>⟨H1,Inv.Uw I dm (Inv.Jr I1),k b H1 e1 q⟩) fun _ _ z=>False.elim z
end PD
set_option linter.all false
namespace PD
open PySem PySem.Spec PyProof.Rows L2 PX
section
variable{K:yac}{P:Addr->Prop}{H:Hp}
theorem aM.nil{σ:St}:aM K P H σ []:=fun i x h=>by simp at h
theorem aM.skip{σ:St}{ρ:Ro}{s:Option V}(r:aM K P H σ ρ):aM K P H (s::σ) (none::ρ):=fun i x h=>match i,h with
 |0,h=>by cases h
 |i+1,h=>r i x h
theorem aM.cons{σ:St}{ρ:Ro}{v:V}{d:D}(hd:Den K (fun t a=>P a∨(t=true/\∃o,H a=some o)) H d v)(r:aM K P H σ ρ):aM K P H (some v::σ) (some (.val d)::ρ):=fun i x h=>match i,h with
 |0,h=>by cases h;exact⟨d,v,rfl,rfl,hd⟩
 |i+1,h=>r i x h
end
theorem Inv.unreS{X:Cx}{pins:yab}{σ σ':St}{H H1:Hp}{s s1:Shared}(I:Inv X pins σ H s)(d:Dom X.H₀ H)(J:Inv (Cx.re X H) pins σ' H1 s1):Inv X pins σ' H1 s1 where
 ok:=I.ok
 os:=J.os
 bare:=J.bare
 base:={keep:=fun b o h n=>J.base.keep b o h (cX n),slot:=fun b o h n=>J.base.slot b o h (cX n),free:=fun b o h n=>J.base.free b o h (cX n),there:=J.base.there,KC:=fun b xs h=>J.base.KC b xs (by have:=I.base.KC b xs h;show Nn X.H₀ H b=_;unfold Nn;rw[h,this];rfl),Kv:=fun b o u h=>J.base.Kv b o u (by have:=I.base.Kv b o u h;show Nn X.H₀ H b=_;unfold Nn;rw[h,this];rfl),Kw:=fun b ps h=>by obtain⟨m,e⟩:=I.base.Kw b ps h;obtain⟨m2,e2⟩:=J.base.Kw b (ps++m) (by show Nn X.H₀ H b=_;unfold Nn;rw[h,e];rfl);exact⟨m++m2,by rw[e2,Ru]⟩}
 loc:=J.loc
 cell:=J.cell
 free:=J.free
 JK:=J.JK
 pin:=J.pin
 IZ:=J.IZ
 len:=J.len
def qk(K:yac)(H:Hp):Prop:=∀a o,H a=some o->K.lookup a=none
def sA(X:Cx)(t:DE):TE:=fun σ H Q=>Dom X.H₀ H/\cb X.K H/\∃(P:Addr->Prop) (ρ:Ro) (Qd:D->Prop),(∀a,P a->∃o,H a=some o)/\aM X.K P H σ ρ/\t ρ Qd ∧
 ∀ v H' d,ag H H'->qk X.K H'->uB X.K P H H' d v->Qd d->Q v H'
theorem bV{X:Cx}{e:Expr}{t:DE}(hp:∀H,Hs (Cx.re X H).L4 e t):PE X e (sA X t):=by
 intro pins s σ H Q I ⟨dm,tk,P,ρ,Qd,hP,vr,ht,k⟩;have J:=Inv.re I dm;refine GU ((hp H).L4 pins s σ H (rH P H) ρ Qd J (aM.rel (X:=Cx.re X H) vr hP (oU tk.ok) tk) ht) fun u s1 ⟨v,H1,d,I1,rv,e1,hd,q⟩=>?_
 have I2:=Inv.Uw I dm I1;exact⟨v,H1,I2,rv,k v H1 d e1 (fun a o h=>Inv.kno I2 h) (hd.HF fun t a z=>md.mpr z) q⟩
section
variable{X:Cx}{sc:Scope}{ns xs:yah}{js:yag}{elt iter:Expr}{ifs es:yai}{kt:Nat}{tp pos:Pos}{te:DE}{tc:DT}{wi:DA}
theorem yZ{y:Str}{py N0:Pos}(i:Nat)(hN:X.N.Nodup)(hc:X.calm=true)(S:PJ X.env.scope sc xs ns)(hj:bE X.N ns js)(hn:OT es xs)(hi:Oa X (.Tuple es kt tp) iter wi)(ht:∀(C:Addr) (GY:Shared) (Hn:Hp) (fp:yae) (XE:yaa),PN (aN X sc ns xs C GY Hn fp XE) ifs tc)
  (he:∀(C:Addr) (GY:Shared) (Hn:Hp) (fp:yae) (XE:yaa),Hs (aN X sc ns xs C GY Hn fp XE) elt te) (hy:X.N[i]?=some y) (R7:X.env.scope.names.lookup y=some .local) (Ma:closureFor sc X.env=pure (cB X.env ns)) (hs:∀x,foldedSetIterable iter X.env x=pure x)
  (R8:swapsWith (.ListComp elt [⟨.Tuple es kt tp,iter,ifs,0⟩] sc pos) (some (.Name y py)) N0.line X.env=pure true)
  {pins:yab} {s:Shared} {σ:St} {H:Hp} {W:Own} {ρ:Ro} {Q:D->Prop} (I:Inv X pins σ H s) (r:Rel X W H σ ρ) (h:j8 xs.length wi js tc te ρ Q) :
  wpAny (model X.prog X.w) X.A (exec (.Assign [.Name y py] (.ListComp elt [⟨.Tuple es kt tp,iter,ifs,0⟩] sc pos) N0) X.env) (fun fl s'=>fl=.next/\∃v H' d,Inv X pins (σ.set i (some v)) H' s'/\ag H H'/\Den X.K W.bad H' d v/\Q d) X.xe s:=by
 rw[exec_Assign_Name_used _ _ _ _ R8];refine G0 (Ry (G0 ?_));show wpAny _ X.A (do let _←comprehension (.ListComp elt [⟨.Tuple es kt tp,iter,ifs,0⟩] sc pos) sc X.env _ (newList []) false (eval iter X.env) (some (assign (.Name y py) X.env))) _ _ s;refine G0 (L3 (UW (use:=some (assign (.Name y py) X.env)) (Q:=fun _ s'=>∃v H' d,Inv X pins (σ.set i (some v)) H' s'/\ag H H'/\Den X.K W.bad H' d v/\Q d) rfl hs Ma S.kind S.names
  (GU (hi pins s σ H W ρ _ I r h) fun v s1 h1=>GU h1 fun Pt s2 h2=>?_)) (fun _ s' hq=>JR (JR ⟨rfl,hq⟩)) fun _ _ e=>e)
 obtain⟨it,fp,tn,J,H2,ds,e,I2,e2,T,OZ,f2,yd,hz,Pv,p0,step,fin⟩:=h2;subst e;refine gn (RR:=fun acc C=>compPost (model X.prog X.w) X.A X.xe (some (assign (.Name y py) X.env)) (fun _ s'=>∃v H' d,Inv X pins (σ.set i (some v)) H' s'/\ag H H'/\Den X.K W.bad H' d v/\Q d) acc C) hc S hj (Ed:=fun _=>False) (fun C GY Hn fp XE _=>he C GY Hn fp XE) (fun C GY Hn fp XE _=>ht C GY Hn fp XE) (fun _ _=>bF.no) I2 (r.same e2) (fun C GY Hn fp XE=>qW (X:=aN X sc ns xs C GY Hn fp XE) hc (jC S 0 hn fun k y q=>by simpa using q) (OT.len hn).1 (OT.len hn).2) T OZ f2 yd hz Pv p0 (stepT step) ?_;intro D C s' H' m' out I' sm Ph QP QR R4 QS R5 ⟨hn,hk,vs,hD,JS⟩ pv;have MT:Den X.K W.bad H' (.lst true out) (.ref D):=Den.lst ((r.same e2).fresh hn) (.new hD hk) (JS.HF fun _ _ z=>.inl z);show wpAny _ X.A (assign (.Name y py) X.env (.ref D)) _ _ _;refine wpAny_assign_Name (kX (v:=.ref D) I' hN hy (.inl R7) rfl (fun s3 I3 ⟨a,Qp,ha⟩=>?_) (.inr R7));have MC:C≠a:=by
  rcases ha with z|z
  ·rw[z];exact QR
  ·exact fun q=>QS y a z q.symm
 refine⟨m',Ph.sameBut Qp MC,fun h' R9=>?_⟩;exact⟨.ref D,H',_,I3.turned (t':=s3.toks) (fun b o hb e=>(R9.2 b hb).trans e) QP QR (.inr R4) QS R5,e2.trans sm,MT,fin out pv⟩
def GB(X:Cx)(i:Nat)(t:DE):TS:=fun En σ H=>Dom X.H₀ H/\cb X.K H/\∃(P:Addr->Prop) (ρ:Ro) (Qd:D->Prop),(∀a,P a->∃o,H a=some o)/\aM X.K P H σ ρ/\t ρ Qd ∧
 ∀ v H' d,ag H H'->uB X.K P H H' d v->Qd d->En.nx (σ.set i (some v)) H'
theorem vo{y:Str}{py N0:Pos}(i:Nat)(hN:X.N.Nodup)(hc:X.calm=true)(S:PJ X.env.scope sc xs ns)(hj:bE X.N ns js)(hn:OT es xs)(hi:∀H,Oa (Cx.re X H).L4 (.Tuple es kt tp) iter wi)(ht:∀(H:Hp) (C:Addr) (GY:Shared) (Hn:Hp) (fp:yae) (XE:yaa),PN (aN (Cx.re X H).L4 sc ns xs C GY Hn fp XE) ifs tc)
  (he:∀(H:Hp) (C:Addr) (GY:Shared) (Hn:Hp) (fp:yae) (XE:yaa),Hs (aN (Cx.re X H).L4 sc ns xs C GY Hn fp XE) elt te) (hy:X.N[i]?=some y:=by rfl) (R7:X.env.scope.names.lookup y=some .local:=by rfl) (Ma:closureFor sc X.env=pure (cB X.env ns):=by rfl) (hs:∀x,foldedSetIterable iter X.env x=pure x:=by intro _;rfl)
  (R8:swapsWith (.ListComp elt [⟨.Tuple es kt tp,iter,ifs,0⟩] sc pos) (some (.Name y py)) N0.line X.env=pure true:=by rfl) :
  PS X (.Assign [.Name y py] (.ListComp elt [⟨.Tuple es kt tp,iter,ifs,0⟩] sc pos) N0) (GB X i (j8 xs.length wi js tc te)):=by
 intro pins s σ H En I ⟨dm,tk,P,ρ,Qd,hP,vr,hd,k⟩;have J:=Inv.re I dm;have r:=aM.rel (X:=Cx.re X H) vr hP (oU tk.ok) tk;refine L3 (yZ (X:=(Cx.re X H).L4) i hN hc S hj hn (hi H) (ht H) (he H) hy R7 Ma hs R8 (Inv.wish J _) (Rel.wish r _) hd) (fun fl s1 ⟨e,v,H1,d,I1,e1,hd,q⟩=>?_) fun _ _ z=>False.elim z
 subst e;exact⟨σ.set i (some v),H1,Inv.unreS I dm (Inv.Jr I1),k v H1 d e1 (hd.HF fun t a z=>md.mpr z) q⟩
end
section
variable{X:Cx}{pos:Pos}
theorem xr{i:Nat}{x:Str}{e:Expr}{te:TE}{pos' ep:Pos}{h₀:ExceptHandler}{hs:List ExceptHandler}(hN:X.N.Nodup)(hi:X.N[i]?=some x)(hx:Loc X.env.scope x)(he:PE X.L4 e te)(R8:swapsWith e (some (.Name x pos')) ep.line X.env=pure false:=by rfl)(hf:X.fn x=true∨X.env.scope.names.lookup x=some .local:=by first|exact .inl rfl|exact .inr rfl|assumption) :
  PS X (.Try [.Assign [.Name x pos'] e ep] (h₀::hs) [] [] pos) (zd te (qv i)):=by
 intro pins s σ H En I h;refine wpAny_Try_except (Rw (S5 (L3 (he pins s σ H _ (I.wish _) h) (fun v s1 ⟨y,H1,I1,r1,q1⟩=>?_) fun _ _ z=>False.elim z) R8));exact c7 I1.Jr hN hi hx r1 (fun s2 I2=>Qb (Qb ⟨_,H1,I2,q1⟩)) hf
end
section
variable{P:Program}{w:World}{K:yac}{mg:yam}{base:Heap}{CX:CXT}{k:Nat}{f:Addr}{fd:FuncData}{ps:yah}{sp Qj:Sp}
theorem az.or(F:az P w K mg base CX k f fd ps sp)(G:az P w K mg base CX k f fd ps Qj):az P w K mg base CX k f fd ps fun vs H Q E=>sp vs H Q E∨Qj vs H Q E :=
 ⟨fun vs H Q E h=>h.elim (F.len vs H Q E) (G.len vs H Q E),fun A outer s H args us vs Q E hr he hb hv h=>h.elim (F.run A outer s H args us vs Q E hr he hb hv) (G.run A outer s H args us vs Q E hr he hb hv)⟩
def jt(P:Program)(w:World)(K:yac)(mg:yam)(base:Heap)(C:Addr)(m:Str)(k:Nat)(ps:yah)(sp:Sp):Prop :=
 ∃ f fd,az P w K mg base (CX1 P w) k f fd ps sp/\Meth K C m f/\Binds K fd ps []
def xY(P:Program)(w:World)(K:yac)(mg:yam)(base:Heap)(x:Str)(k:Nat)(ps:yah)(sp:Sp):Prop :=
 ∃ f fd,az P w K mg base (CX1 P w) k f fd ps sp/\mg x=some (.ref f)/\PySem.W.keepIn K (.ref f)=true/\Binds K fd ps []
theorem jt.imp{C:Addr}{m:Str}(h:jt P w K mg base C m k ps sp)(i:∀vs H Q E,Qj vs H Q E->sp vs H Q E):jt P w K mg base C m k ps Qj:=by obtain⟨f,fd,F,a,b⟩:=h;exact⟨f,fd,F.imp i,a,b⟩
end
section
variable{X:Cx}{k:Nat}{ps:yah}{sp:Sp}{x m:Str}{p pos apos:Pos}{e o:Expr}{es:yai}{ta:TE}{t:TA}{C:Addr}
theorem rK (h:xY X.prog X.w X.K X.mg X.base x k ps sp) (hr:aX k X.A) (ha:PA X (e::es) t) (hg:Gl X x:=by rfl) (Kl:(x==("__debug__" : Str))=false:=by decide) (he:starEach (e::es) X.env=(false,eval e X.env)::starEach es X.env:=by rfl) (KW:(backTo pos (starEach es X.env)).any (·.1)=false:=by rfl) :
  PE X (.Call (.Name x p) (e::es) [] pos) (vI sp [] E0 t):=by
 obtain⟨f,fd,F,hm,hk,hb⟩:=h;exact A2 F hr hg hm hk hb .nil jF ha Kl he KW
theorem rM{pl:Sem Bool}(h:jt X.prog X.w X.K X.mg X.base C m k ps sp)(hr:aX k X.A)(c:Cls X.K C)(he:PE X o ta)(ha:PA X (e::es) t)
  (KN:starEach (e::es) X.env=(false,eval e X.env)::starEach es X.env:=by rfl) (KW:(backTo pos (starEach es X.env)).any (·.1)=false:=by rfl)
  (ht:eval (.Call (.Attribute o m apos) (e::es) [] pos) X.env=(do
   let ov←eval o X.env
   standAt apos.atName
   let (f,first)←holding [ov] (getMethod ov m pl)
   callWith pos f first (backTo pos (starEach (e::es) X.env)) (backToKw pos (keywordEach [] X.env))):=by rfl) :
  PE X (.Call (.Attribute o m apos) (e::es) [] pos) (qB C m sp [] E0 ta t):=by
 obtain⟨f,fd,F,hm,hb⟩:=h;exact A3 he c hm F hr hb .nil jF ha KN KW ht
theorem xj{pl:Sem Bool}(h:jt X.prog X.w X.K X.mg X.base C m k ps sp)(hr:aX k X.A)(c:Cls X.K C)(he:PE X o ta)
  (ht:eval (.Call (.Attribute o m apos) [] [] pos) X.env=(do
   let ov←eval o X.env
   standAt apos.atName
   let (f,first)←holding [ov] (getMethod ov m pl)
   callWith pos f first (backTo pos (starEach [] X.env)) (backToKw pos (keywordEach [] X.env))):=by rfl) :
  PE X (.Call (.Attribute o m apos) [] [] pos) (qB C m sp [] E0 ta kY):=by
 obtain⟨f,fd,F,hm,hb⟩:=h;exact yS he c hm F hr hb .nil jF ht
end
section
variable{X:Cx}{k:Nat}{ps:yah}{sp:DSp}{x m f:Str}{p pos apos:Pos}{e o:Expr}{es:yai}{te to:DE}{t:DA}{C:Addr}
def wa(C:Addr)(m:Str)(sp:DSp)(Ed:Value->Prop)(to:DE)(t:DA):DE:=fun ρ Q=>to ρ fun d=>∃ns ds,d=.obj C ns ds/\m∉ns/\t ρ fun as=>sp (ax d::aC as) Q Ed
theorem wj{Ed:Value->Prop}{pl:Sem Bool}(px:bF X Ed)(c:Cls X.K C)(hM:jr X.prog X.w X.K X.mg X.base C m k ps sp)(hr:aX k X.A)(he:Hs X o to)
  (ht:eval (.Call (.Attribute o m apos) [] [] pos) X.env=(do
   let ov←eval o X.env
   standAt apos.atName
   let (f,first)←holding [ov] (getMethod ov m pl)
   callWith pos f first (backTo pos (starEach [] X.env)) (backToKw pos (keywordEach [] X.env))):=by rfl) :
  Hs X (.Call (.Attribute o m apos) [] [] pos) (wa C m sp Ed to gY):=by
 obtain⟨f,fd,F,hm,hb⟩:=hM;intro pins s σ H W ρ Q I r h;refine PySem.W.methodCall_KW (pl:=pl) (GU (he pins s σ H W ρ _ I r h) fun u s1 ⟨v,H1,d,I1,ru,sm,hd,ns,ds,e1,nm,q⟩=>?_) ht;subst e1;have QW:=hd;obtain⟨a,dx,vs,e2,Pg,_,_,JS⟩:=hd.Ou;subst e2;cases ru;refine eO I1 Pg c hm (jA nm) ?_;refine PySem.W.callWith_K0 (first:=[.ref a]) I1.Ll hm.kp ?_;refine GU (m8 (dds:=[]) (dsv:=[]) (us:=[.ref a]) (vs:=[.ref a]) (ds:=[.obj C ns ds]) F hr hb .nil (by simp) I1 (r.same sm) (.cons rfl .nil) (af.one QW) (by rw[Qa,aC];exact q) fun er s' hx=>px pins σ H1 W ρ s1 er s' I1 (r.same sm) hx) fun _ _ z=>z.up sm
def zF(K:yac)(Cm:Addr)(m:Str)(C:Addr)(i j:Nat)(sp:DSp)(to:DE)(t:DA)(su:DS):DS:=fun E ρ=>to ρ fun d=>∃ns ds,d=.obj Cm ns ds/\m∉ns/\t ρ fun as=>sp (ax d::aC as) (fun d=>E.nx (ρ.set j (some (.val d)))) (og K C i su E ρ)
theorem Aj{pl:Sem Bool}{Cm C:Addr}{x n y:Str}{cp ep np hp yp:Pos}{PY:Stmt}{N2:yal}{su:DS}(i j:Nat)(c:Cls X.K Cm)(hM:jr X.prog X.w X.K X.mg X.base Cm m k ps sp)(hr:aX k X.A)
  (hN:X.N.Nodup) (WN:X.mg x=some (.ref C)) (he:Hs X.L4 o to) (ha:MF X.L4 (e::es) t) (WQ:∀v,cz (Cx.markX X v) (PY::N2) su) (WR:Gl X x:=by rfl) (hi:X.N[i]?=some n:=by rfl) (Ut:X.env.scope.names.lookup n=some .local:=by rfl)
  (hj:X.N[j]?=some y:=by rfl) (hyn:X.env.scope.names.lookup y=some .local:=by rfl)
  (hex:X.ex=[]:=by rfl) (KN:X.stack=X.env::X.outer:=by rfl) (R6:X.env.frame=some X.env.locals:=by rfl) (WS:(x==("__debug__" : Str))=false:=by decide) (hs0:starEach (e::es) X.env=(false,eval e X.env)::starEach es X.env:=by rfl) (KW:(backTo cp (starEach es X.env)).any (·.1)=false:=by rfl)
  (ht:eval (.Call (.Attribute o m apos) (e::es) [] cp) X.env=(do
   let ov←eval o X.env
   standAt apos.atName
   let (f,first)←holding [ov] (getMethod ov m pl)
   callWith cp f first (backTo cp (starEach (e::es) X.env)) (backToKw cp (keywordEach [] X.env))):=by rfl)
  (hs:swapsWith (.Call (.Attribute o m apos) (e::es) [] cp) (some (.Name y yp)) ep.line X.env=pure false:=by rfl) :
  Nd X (.Try [.Assign [.Name y yp] (.Call (.Attribute o m apos) (e::es) [] cp) ep] [.ExceptHandler (some (.Name x np)) (some n) (PY::N2) hp] [] [] pos) (zF X.K Cm m C i j sp to t su):=by
 obtain⟨f,fd,F,hm,hb⟩:=hM;intro pins s σ H W ρ E I rr h;refine wpAny_Try_except (Rw (S5 (PySem.W.methodCall_KW (pl:=pl) (L3 (he pins s σ H W ρ _ (I.wish _) (rr.wish _) h) (fun u s1 ⟨v,H1,d,I1,ru,sm,hd,ns,ds,e1,nm,q⟩=>?_) fun _ _ z=>False.elim z) ht) hs));subst e1;have I1:=I1.Jr;have QW:=hd;obtain⟨a,dx,vs,e2,Pg,_,_,JS⟩:=hd.Ou;subst e2;cases ru;have Vq:=rr.same sm;refine eO I1 Pg c hm (jA nm) ?_;refine PySem.W.callWith_K (first:=[.ref a]) (h₀:=X.base) I.ok.mod.Pa hm.kp (L3 (ha cp pins s1 σ H1 W ρ _ (I1.wish _) (Vq.wish _) q) (fun us s2 ⟨WL,H2,WM,I2,rv,Rg,hd2,q2⟩=>⟨I2.Jr.Ll,?_⟩) fun _ _ z=>False.elim z) hs0 KW;have I2:=I2.Jr;have Xa:=Vq.same Rg;refine L3 (m8 (Q:=fun d=>E.nx (ρ.set j (some (.val d)))) (Ed:=og X.K C i su E ρ) (dds:=[]) (dsv:=[]) (us:=.ref a::us) (vs:=.ref a::WL) (ds:=.obj Cm ns ds::WM) F hr hb .nil (by simp) I2 Xa (.cons rfl rv) (af.cons (QW.same Rg) hd2) (by rw[Qa,aC];exact q2) fun er s' hx=>BH i hN WN WQ WR hi Ut hex KN R6 WS I2 Xa (sm.trans Rg) hx) (fun u s3 ⟨v,H3,d,I3,r3,e3,Um,q3⟩=>?_) fun _ _ z=>z
 exact c7 I3 hN hj (.inl hyn) r3 (fun s4 I4=>Qb (Qb ⟨W.drop j,_,H3,I4,(JA.same ((sm.trans Rg).trans e3)).trans (JA.drop W H3 j),_,(Xa.same e3).put (Inv.QJ I3 hj) Um,q3⟩)) (.inr hyn)
end
section
variable{K:yac}{M:Addr->Prop}{P P':yak}{H H':Hp}
theorem aG.seq{a:Addr}{vs:yar}(e:aG M H H')(m:¬M a)(h:SqL K H a vs):SqL K H' a vs:=by
 rcases h with(h|⟨o,h⟩)|h
 ·exact .inl (.inl (e.kp _ _ h True.intro m))
 ·exact .inl (.inr ⟨o,e.kp _ _ h True.intro m⟩)
 ·exact .inr h
theorem D9{a:Addr}{vs:yar}(n:H a=none)(k:K.lookup a=none)(h:SqL K H a vs):False:=by
 rcases h with(h|⟨o,h⟩)|⟨u,_,_,h,_⟩
 ·rw[n]at h;cases h
 ·rw[n]at h;cases h
 ·rw[k]at h;cases h
theorem af.Jy(e:aG M H H')(ht:∀a,M a->∀vs,H a≠some (.tup vs))(hM:∀a,M a->∀t,P t a)(hP:∀t a,P' t a->P t a∨(H a=none/\K.lookup a=none)){ds:yas}{vs:yar}(p:gr ds)(h:af K P H ds vs):af K P' H' ds vs:=by
 refine af.Nw (fun a ws q=>?_) (fun t a ws n q=>?_) ds vs p h
 ·exact e.kp a _ q True.intro fun m=>ht a m ws q
 ·have nm:¬M a:=fun m=>n (hM a m t)
  refine⟨fun z=>?_,e.seq nm q.1,fun z=>⟨e.kp a _ (q.2 z).1 True.intro nm,(q.2 z).2⟩⟩;rcases hP t a z with z|⟨z1,z2⟩
  ·exact n z
  ·exact D9 z1 z2 q.1
theorem Den.Jy(e:aG M H H')(ht:∀a,M a->∀vs,H a≠some (.tup vs))(hM:∀a,M a->∀t,P t a)(hP:∀t a,P' t a->P t a∨(H a=none/\K.lookup a=none)){d:D}{v:V}(p:fx d)(h:Den K P H d v):Den K P' H' d v:=by have:=af.Jy e ht hM hP (ds:=[d]) (vs:=[v]) ⟨p,True.intro⟩ (af.one h);simp only[af]at this;obtain⟨v',r,e1,h1,_⟩:=this;cases e1;exact h1
end
abbrev Av(M:Addr->Prop):yak:=fun t a=>t=true∨M a
end PD
set_option linter.all false
namespace PD
open PySem PySem.Spec PyProof.Rows L2 PX
section
variable{X:Cx}{H:Hp}{A0:Addr}{OF:M5}{e e1:Expr}{es:yai}{te:DE}{t:DA}{g:Str}{q sp pos:Pos}
theorem qP (dd:da X.K X.w A0 OF) (Oq:X.mg g=some (.ref A0)) (he:Hs (Cx.re X H).L4 e te) (ha:MF (Cx.re X H).L4 (e1::es) t) (Se:Gl X g:=by rfl) (Kl:(g==("__debug__" : Str))=false:=by decide) (QK:lQ e:=by intro _ _;rfl)
  (KN:starEach (e1::es) X.env=(false,eval e1 X.env)::starEach es X.env:=by rfl) (KW:(backTo pos (starEach es X.env)).any (·.1)=false:=by rfl)
  (W5:eval (.Call (.Subscript (.Name g q) e sp) (e1::es) [] pos) X.env=(do callWith pos (←eval (.Subscript (.Name g q) e sp) X.env) [] (backTo pos (starEach (e1::es) X.env)) (backToKw pos (keywordEach [] X.env))):=by rfl) :
  Hs (Cx.re X H).L4 (.Call (.Subscript (.Name g q) e sp) (e1::es) [] pos) (gX X OF (fun _=>False) te t) :=
 iM (X:=(Cx.re X H).L4) Fm dd Oq he ha Se Kl QK KN KW W5
theorem yC {b:Expr} {tb:DE} {es:yai} {kt:Nat} {tp p:Pos} (dd:da X.K X.w A0 OF) (Oq:X.mg g=some (.ref A0)) (hm:X.mg "zip" = none) (he:Hs (Cx.re X H).L4 e te) (hb:Hs (Cx.re X H).L4 b tb) (hg:Gl X "zip" := by rfl) (Se:Gl X g:=by rfl) (Kl:(g==("__debug__" : Str))=false:=by decide) (QK:lQ e:=by intro _ _;rfl)
  (hs:starEach [.Subscript (.Name g q) e sp,b] X.env=(false,eval (.Subscript (.Name g q) e sp) X.env)::starEach [b] X.env:=by rfl) (WW:starEach [b] X.env=(false,eval b X.env)::starEach [] X.env:=by rfl) (Q7:(backTo pos (starEach [b] X.env)).any (·.1)=false:=by rfl) :
  Oa (Cx.re X H).L4 (.Tuple es kt tp) (.Call (.Name "zip" p) [.Subscript (.Name g q) e sp,b] [] pos) (qt X.K OF te tb) :=
 t6 (X:=(Cx.re X H).L4) dd Oq hm he hb hg Se Kl QK hs WW Q7
end
section
variable{K:yac}{P:Addr->Prop}{M:Addr->Prop}{H H':Hp}{d:D}{v:V}
theorem nY(h:uB K P H H' d v):Den K (Av P) H' (ax d) v:=Den.ax (P':=P) (fun _ _ z=>.inl z) d v h
theorem mI(h:Den K (Av M) H d v)(e:∀a,P a->M a):Den K (fun t a=>P a∨(t=true/\∃o,H a=some o)) H d v:=h.HF fun _ a z=>z.elim (fun z=>.inr (e a z)) fun z=>.inl z.1
theorem yu{ds:yas}(n:dZ ds=true)(h:uB K P H H' (.lst true ds) v):∃a ws,v=.ref a/\H a=none/\H' a=some (.lst ws)/\K.lookup a=none/\∀P',af K P' H' ds ws:=by
 obtain⟨a,ws,rfl,np,sq,hw⟩:=h.MR;refine⟨a,ws,rfl,?_,(sq.2 rfl).1,(sq.2 rfl).2,fun P'=>af.QU ds ws n hw⟩;cases e:H a with
 |none=>rfl
 |some o=>exact absurd (.inr ⟨rfl,o,e⟩) np
end
end PD
set_option linter.all false
namespace PD
open PySem PySem.Spec PyProof.Rows L2 PX
theorem PS.L4{X:Cx}{st:Stmt}{t:TS}(h:PS X.L4 st t):PS X st t:=fun pins s σ H D I hw =>
 L3 (h pins s σ H D (I.wish _) hw) (fun f s' q=>by
  cases f with
  |next=>obtain⟨σ',H',I',q⟩:=q;exact⟨σ',H',I'.Jr,q⟩
  |brk=>obtain⟨σ',H',I',q⟩:=q;exact⟨σ',H',I'.Jr,q⟩
  |cont=>obtain⟨σ',H',I',q⟩:=q;exact⟨σ',H',I'.Jr,q⟩
  |ret u=>obtain⟨v,σ',H',I',r,q⟩:=q;exact⟨v,σ',H',I'.Jr,r,q⟩) fun _ _ z=>False.elim z
theorem aG.new{M:Addr->Prop}{H H':Hp}(e:aG M H H')(n:∀a,M a->H a=none):ag H H':=⟨fun b o h t=>e.kp b o h t fun m=>(by rw[n b m]at h;cases h),e.tb,e.ok⟩
theorem FL.Xb{K:yac}{x:Str}{st:Stmt}{h:Heap}{mg:yam}{k:Nat}{ps:yah}{sp:Sp}(e:FL K x st)(P:Program)(w:World)(base:Heap)(X:K.In h)(G:h.Ns mainGlobals mg)
  (ok:∀{f:Addr} {fd:FuncData},aw K x x st f fd->az P w K mg base (CX1 P w) k f fd ps sp)
  (hb:∀(kV dc pm:Value) (an:Option Addr) (cd ct:Value),qF ps.length fun us=>bindArgs (PySem.W.fnOf x x (bH st) (bo st) (ai st) .none kV dc pm an cd ct) ⟨us,[]⟩=pure (ps.zip us):=by
   repeat intro _
   rfl):xY P w K mg base x k ps sp:=by
 obtain⟨f,oc,od,kV,dc,pm,an,cd,ct,sl,a,b,c,d⟩:=e;exact⟨f,_,ok (gM b c d),PySem.W.mg_of X G a,d,.all fun us hl=>nO us hl (hb kV dc pm an cd ct)⟩
theorem OU.Sg{K:yac}{C:Addr}{m qual:Str}{st:Stmt}{mg:yam}{k:Nat}{ps:yah}{sp:Sp}(e:OU K C m qual st)(P:Program)(w:World)(base:Heap)
  (ok:∀{f:Addr} {fd:FuncData},aw K m qual st f fd->az P w K mg base (CX1 P w) k f fd ps sp)
  (hb:∀(kV dc pm:Value) (an:Option Addr) (cd ct:Value),qF ps.length fun us=>bindArgs (PySem.W.fnOf m qual (bH st) (bo st) (ai st) .none kV dc pm an cd ct) ⟨us,[]⟩=pure (ps.zip us):=by
   repeat intro _
   rfl):jt P w K mg base C m k ps sp:=by
 obtain⟨f,oc,od,kV,dc,pm,an,cd,ct,sl,a,i,b,c,d⟩:=e;exact⟨f,_,ok (gM b c d),⟨a,i,d⟩,.all fun us hl=>nO us hl (hb kV dc pm an cd ct)⟩
theorem tW{α:Type}(p:α->Bool):∀(l:List α) (i:Nat),l.findIdx? p=some i->l.find? p=l[i]?
 |[],_,h=>by simp at h
 |a::r,i,h=>by
  rw[List.findIdx?_cons]at h;rw[List.find?_cons];cases e:p a with
  |true =>
   rw[e]at h;simp at h;subst h;rfl
  |false =>
   rw[e]at h;simp at h;obtain⟨j,hj,rfl⟩:=h;simpa using tW p r j hj
theorem cV{es:M5}{ks:yah}(hk:es.map (·.1)=ks){x:Str}(i:Nat)(h:ks.findIdx? (fun y=>decide (x=y))=some i){v:Value}(hv:(es[i]?).map (·.2.2)=some v):Od es x=some v:=by
 have e:es.findIdx? (fun e=>decide (x=e.1))=some i:=by rw[<- h,<- hk,List.findIdx?_map];rfl
 unfold Od;rw[tW _ _ _ e];exact hv
theorem kA{es:M5}{ks:yah}(hk:es.map (·.1)=ks){x:Str}(h:ks.any (fun y=>decide (x=y))=false):Od es x=none:=by unfold Od;rw[<- hk,List.any_map]at h;rw[List.find?_eq_none.mpr fun e he z=>by have:=List.any_eq_false.mp h e he;exact this z];rfl
end PD
namespace LW
open PySem PySem.Spec PyProof.Rows L2 PD
seal PD.cz PD.Nd PD.Hs PD.N8 PD.NB PD.MF PD.Oa PD.Ql PD.nK PD.PN PD.OE PD.PKD PD.PPD PD.Qr PD.PFL PD.PPK PD.PEK
local macro_rules | `(tactic| walk_at "sc") => `(tactic| exact ⟨rfl, rfl, rfl, by decide +kernel, rfl, by decide +kernel, by decide +kernel⟩)
def top(i:Nat):Stmt:=PySem.Challenge.pw_halvecut_k84_a_sheet_of_deeds.main.body.getD i (.Pass ⟨0,0,0,0⟩)
def Vs(i j:Nat):Stmt:=(PD.FK (top i)).getD j (.Pass ⟨0,0,0,0⟩)
abbrev jL:Stmt:=top 12
abbrev jO:Stmt:=top 28
abbrev xA:Stmt:=top 33
abbrev iR:Stmt:=top 38
abbrev eZ:Stmt:=top 39
abbrev kP:Stmt:=top 40
abbrev jK:Stmt:=top 45
abbrev iQ:Stmt:=top 46
abbrev oS:Stmt:=top 47
abbrev jQ:Stmt:=top 48
abbrev ng:Stmt:=top 49
abbrev jS:Stmt:=top 127
abbrev ik:Stmt:=top 128
abbrev gi:Stmt:=top 129
abbrev fc:Stmt:=top 130
abbrev jP:Stmt:=top 131
abbrev iU:Stmt:=top 132
abbrev jR:Stmt:=top 133
abbrev fR:Stmt:=top 134
abbrev vw:Stmt:=top 140
abbrev vt:Stmt:=top 141
abbrev mh:Stmt:=top 142
abbrev kL:Stmt:=top 143
abbrev iW:Stmt:=top 145
abbrev iT:Stmt:=top 158
abbrev iV:Stmt:=top 159
abbrev gg:Stmt:=top 162
abbrev ij:Stmt:=top 163
abbrev kN:Stmt:=top 164
abbrev jN:Stmt:=top 165
abbrev gG:Stmt:=top 166
abbrev gh:Stmt:=top 167
abbrev gE:Stmt:=top 168
abbrev iF:Stmt:=top 169
abbrev kO:Stmt:=top 170
abbrev kM:Stmt:=top 171
abbrev iG:Stmt:=top 172
abbrev jM:Stmt:=top 173
abbrev d9:Stmt:=top 174
abbrev fb:Stmt:=top 175
abbrev iS:Stmt:=top 176
abbrev gC:Stmt:=top 177
abbrev gf:Stmt:=Vs 160 0
abbrev bW:Stmt:=Vs 160 1
abbrev eY:Stmt:=Vs 160 2
abbrev cJ:Stmt:=Vs 160 3
theorem tj:ay ["thing"] ["thing"] (ai jL):=by walk_at "sc"
theorem tu:ay ["spot"] ["spot"] (ai jO):=by walk_at "sc"
theorem rS:ay ["thing", "least", "most"] ["thing", "least", "most"] (ai iR):=by walk_at "sc"
theorem mj:ay ["thing"] ["thing"] (ai eZ):=by walk_at "sc"
theorem vC:ay ["dot"] ["dot"] (ai kP):=by walk_at "sc"
theorem xC:ay ["thing"] ["thing"] (ai jK):=by walk_at "sc"
theorem rR:ay ["by_map"] ["by_map"] (ai iQ):=by walk_at "sc"
theorem ml:ay ["place", "by_map", "x", "y"] ["place", "by_map"] (ai oS):=by walk_at "sc"
theorem lP:ay ["dot", "by_map", "spot"] ["dot", "by_map"] (ai jQ):=by walk_at "sc"
theorem Bf:ay ["dots", "by_map"] ["dots", "by_map"] (ai ng):=by walk_at "sc"
theorem tw:ay ["word"] ["word"] (ai jS):=by walk_at "sc"
theorem j1:ay ["word", "digits", "number"] ["word", "digits"] (ai ik):=by walk_at "sc"
theorem oX:ay ["word"] ["word"] (ai gi):=by walk_at "sc"
theorem ip:ay ["word", "digits", "number"] ["word", "digits"] (ai fc):=by walk_at "sc"
theorem iY:ay ["word", "across", "upward"] ["word"] (ai jP):=by walk_at "sc"
theorem rW:ay ["x", "y"] ["x", "y"] (ai iU):=by walk_at "sc"
theorem iZ:ay ["dot", "text", "weight"] ["dot"] (ai jR):=by walk_at "sc"
theorem rV:ay ["dots"] ["dots"] (ai fR):=by walk_at "sc"
theorem D6:ay ["dots", "given"] ["dots", "given"] (ai vw):=by walk_at "sc"
theorem xB:ay ["dots", "given", "number"] ["dots", "given"] (ai vt):=by walk_at "sc"
theorem xD:ay ["dots", "given"] ["dots", "given"] (ai mh):=by walk_at "sc"
theorem vA:ay ["dots", "given"] ["dots", "given"] (ai kL):=by walk_at "sc"
theorem rX:ay ["dots", "given"] ["dots", "given"] (ai iW):=by walk_at "sc"
theorem rT:ay ["form", "word"] ["form", "word"] (ai iT):=by walk_at "sc"
theorem kS:ay ["row", "words"] ["row"] (ai iV):=by walk_at "sc"
theorem oW:ay ["_law_script", "_law_k"] ["_law_script", "_law_k"] (ai gg):=by walk_at "sc"
theorem cK:ay ["_law_cell", "_law_many", "_law_found", "_law_number", "_law_k"] ["_law_cell", "_law_many"] (ai ij):=by walk_at "sc"
theorem fe:ay ["_law_near", "_law_xs", "_law_x", "_law_y", "_law_weight"] ["_law_near", "_law_xs"] (ai kN):=by walk_at "sc"
theorem lO:ay ["_law_dot_here", "_law_word_here"] ["_law_dot_here"] (ai jN):=by walk_at "sc"
theorem tq:ay ["_law_dots"] ["_law_dots"] (ai gG):=by walk_at "sc"
theorem jm:ay ["_law_near", "_law_xs", "_law_found"] ["_law_near", "_law_xs"] (ai gh):=by walk_at "sc"
theorem cn:ay ["_law_dots", "_law_row", "_law_a", "_law_b", "_law_c", "_law_d", "_law_e", "_law_f"] ["_law_dots", "_law_row"] (ai gE):=by walk_at "sc"
theorem vB:ay ["_law_dots"] ["_law_dots"] (ai iF):=by walk_at "sc"
theorem ni:ay ["_law_state", "_law_near", "_law_xs", "_law_dot_here"] ["_law_state", "_law_near", "_law_xs"] (ai kO):=by walk_at "sc"
theorem nh:ay ["_law_state", "_law_xs", "_law_at"] ["_law_state", "_law_xs"] (ai kM):=by walk_at "sc"
theorem gH:ay ["_law_state", "_law_near", "_law_xs", "_law_row", "_law_text_here", "_law_dots"] ["_law_state", "_law_near", "_law_xs"] (ai iG):=by walk_at "sc"
theorem iX:ay ["_law_state", "_law_near", "_law_xs", "_law_way"] ["_law_state", "_law_near", "_law_xs"] (ai jM):=by walk_at "sc"
theorem fz:ay ["_law_caught", "_law_way", "_law_kinds"] ["_law_caught", "_law_way"] (ai d9):=by walk_at "sc"
theorem bM:ay ["_law_sheet", "_law_state", "_law_deed_here", "_law_caught", "_law_found", "error"] ["_law_sheet", "_law_state", "_law_deed_here"] (ai fb):=by walk_at "sc"
theorem kR:ay ["_law_sheet", "_law_state", "_law_found"] ["_law_sheet", "_law_state"] (ai iS):=by walk_at "sc"
theorem gb:ay ["_law_script", "_law_near", "_law_sheet", "_law_other", "_law_state", "_law_second", "_law_cell", "_law_xs"] ["_law_script"] (ai gC):=by walk_at "sc"
theorem oV:ay ["self"] ["self"] (ai gf):=by walk_at "sc"
theorem bD:ay ["self", "row", "words", "first", "given"] ["self", "row"] (ai bW):=by walk_at "sc"
theorem mi:ay ["self", "dots"] ["self", "dots"] (ai eY):=by walk_at "sc"
theorem gm:ay ["self"] ["self"] (ai cJ):=by walk_at "sc"
structure Cls where
 PlaneError:Addr
 NoPlace:Addr
 NoLine:Addr
 NoDots:Addr
 NoMap:Addr
 TooFew:Addr
 TooMany:Addr
 NoSuch:Addr
 NoText:Addr
 NoAsk:Addr
 Sheet:Addr
structure Kc(K:yac)(mg:yam)(κ:Cls):Prop where
 Js:mg "PlaneError" = some (.ref κ.PlaneError)
 JT:mg "NoPlace" = some (.ref κ.NoPlace)
 Kd:mg "NoLine" = some (.ref κ.NoLine)
 JB:mg "NoDots" = some (.ref κ.NoDots)
 J1:mg "NoMap" = some (.ref κ.NoMap)
 JL:mg "TooFew" = some (.ref κ.TooFew)
 JU:mg "TooMany" = some (.ref κ.TooMany)
 JM:mg "NoSuch" = some (.ref κ.NoSuch)
 Ju:mg "NoText" = some (.ref κ.NoText)
 JE:mg "NoAsk" = some (.ref κ.NoAsk)
 Kh:mg "Sheet" = some (.ref κ.Sheet)
 Jv:∃t,mg "MOST_DOTS" = some (.int 30 t)
 Hh:∃t,mg "MOST_COORDINATE" = some (.int 999999999999 t)
 HW:∃t,mg "MOST_FOR_DEEPEST" = some (.int 12 t)
 GR:∃t,mg "DIGITS_OF_COORDINATE" = some (.int 12 t)
 Ho:∃t,mg "DIGITS_OF_WEIGHT" = some (.int 9 t)
 Ia:∃t,mg "DIGITS_IN_PLACE" = some (.int 40 t)
 Hq:∃t,mg "DIGITS_OF_NUMBER" = some (.int 2 t)
 Hz:∃t,mg "MOST_REMEMBERED" = some (.int 20 t)
 Jw:∃t,mg "LETTERS" = some (.str "abc" t)
 Jt:PySem.W.excIn K κ.NoText dI "ValueError.__new__" = true
 Ke:PX.bG K κ.NoText
 Ht:PySem.W.kitOne K (.ref κ.NoText) (.ref κ.PlaneError)=some true
 Ib:PySem.W.kitOne K (.ref κ.NoText) (.ref κ.NoPlace)=some false
 IC:PySem.W.kitOne K (.ref κ.NoText) (.ref κ.NoLine)=some false
 ID:PySem.W.kitOne K (.ref κ.NoText) (.ref κ.NoDots)=some false
 I0:PySem.W.kitOne K (.ref κ.NoText) (.ref κ.NoMap)=some false
 IE:PySem.W.kitOne K (.ref κ.NoText) (.ref κ.TooFew)=some false
 Ic:PySem.W.kitOne K (.ref κ.NoText) (.ref κ.TooMany)=some false
 IF:PySem.W.kitOne K (.ref κ.NoText) (.ref κ.NoSuch)=some false
 IG:PySem.W.kitOne K (.ref κ.NoText) (.ref κ.NoText)=some true
 Ja:PySem.W.kitOne K (.ref κ.NoText) (.ref κ.NoAsk)=some false
 Jb:PySem.W.kitOne K (.ref κ.NoText) (.ref κ.Sheet)=some false
 Hu:PySem.W.kitOne K (.ref κ.NoText) (.type "ValueError")=some true
 Hv:PySem.W.exmOne K (.ref κ.NoText) (.ref κ.PlaneError)=some true
 IH:PySem.W.exmOne K (.ref κ.NoText) (.ref κ.NoText)=some true
 Jz:PySem.W.excIn K κ.NoDots dI "ValueError.__new__" = true
 JV:PX.bG K κ.NoDots
 Hw:PySem.W.kitOne K (.ref κ.NoDots) (.ref κ.PlaneError)=some true
 Ie:PySem.W.kitOne K (.ref κ.NoDots) (.ref κ.NoPlace)=some false
 II:PySem.W.kitOne K (.ref κ.NoDots) (.ref κ.NoLine)=some false
 HH:PySem.W.kitOne K (.ref κ.NoDots) (.ref κ.NoDots)=some true
 Ig:PySem.W.kitOne K (.ref κ.NoDots) (.ref κ.NoMap)=some false
 HI:PySem.W.kitOne K (.ref κ.NoDots) (.ref κ.TooFew)=some false
 Ih:PySem.W.kitOne K (.ref κ.NoDots) (.ref κ.TooMany)=some false
 HJ:PySem.W.kitOne K (.ref κ.NoDots) (.ref κ.NoSuch)=some false
 HK:PySem.W.kitOne K (.ref κ.NoDots) (.ref κ.NoText)=some false
 Ii:PySem.W.kitOne K (.ref κ.NoDots) (.ref κ.NoAsk)=some false
 Jc:PySem.W.kitOne K (.ref κ.NoDots) (.ref κ.Sheet)=some false
 G5:PySem.W.kitOne K (.ref κ.NoDots) (.type "ValueError")=some true
 G6:PySem.W.exmOne K (.ref κ.NoDots) (.ref κ.PlaneError)=some true
 IJ:PySem.W.exmOne K (.ref κ.NoDots) (.ref κ.NoDots)=some true
 JH:PySem.W.excIn K κ.NoSuch dI "ValueError.__new__" = true
 JW:PX.bG K κ.NoSuch
 Hx:PySem.W.kitOne K (.ref κ.NoSuch) (.ref κ.PlaneError)=some true
 Ij:PySem.W.kitOne K (.ref κ.NoSuch) (.ref κ.NoPlace)=some false
 IK:PySem.W.kitOne K (.ref κ.NoSuch) (.ref κ.NoLine)=some false
 HL:PySem.W.kitOne K (.ref κ.NoSuch) (.ref κ.NoDots)=some false
 Ik:PySem.W.kitOne K (.ref κ.NoSuch) (.ref κ.NoMap)=some false
 HM:PySem.W.kitOne K (.ref κ.NoSuch) (.ref κ.TooFew)=some false
 Il:PySem.W.kitOne K (.ref κ.NoSuch) (.ref κ.TooMany)=some false
 HN:PySem.W.kitOne K (.ref κ.NoSuch) (.ref κ.NoSuch)=some true
 HQ:PySem.W.kitOne K (.ref κ.NoSuch) (.ref κ.NoText)=some false
 Im:PySem.W.kitOne K (.ref κ.NoSuch) (.ref κ.NoAsk)=some false
 Jd:PySem.W.kitOne K (.ref κ.NoSuch) (.ref κ.Sheet)=some false
 G7:PySem.W.kitOne K (.ref κ.NoSuch) (.type "ValueError")=some true
 G8:PySem.W.exmOne K (.ref κ.NoSuch) (.ref κ.PlaneError)=some true
 IL:PySem.W.exmOne K (.ref κ.NoSuch) (.ref κ.NoSuch)=some true
 JX:PySem.W.excIn K κ.NoMap dI "ValueError.__new__" = true
 Ki:PX.bG K κ.NoMap
 HA:PySem.W.kitOne K (.ref κ.NoMap) (.ref κ.PlaneError)=some true
 IM:PySem.W.kitOne K (.ref κ.NoMap) (.ref κ.NoPlace)=some false
 Je:PySem.W.kitOne K (.ref κ.NoMap) (.ref κ.NoLine)=some false
 Ip:PySem.W.kitOne K (.ref κ.NoMap) (.ref κ.NoDots)=some false
 IV:PySem.W.kitOne K (.ref κ.NoMap) (.ref κ.NoMap)=some true
 Iq:PySem.W.kitOne K (.ref κ.NoMap) (.ref κ.TooFew)=some false
 IP:PySem.W.kitOne K (.ref κ.NoMap) (.ref κ.TooMany)=some false
 Ir:PySem.W.kitOne K (.ref κ.NoMap) (.ref κ.NoSuch)=some false
 Iu:PySem.W.kitOne K (.ref κ.NoMap) (.ref κ.NoText)=some false
 IW:PySem.W.kitOne K (.ref κ.NoMap) (.ref κ.NoAsk)=some false
 Jl:PySem.W.kitOne K (.ref κ.NoMap) (.ref κ.Sheet)=some false
 Hi:PySem.W.kitOne K (.ref κ.NoMap) (.type "ValueError")=some true
 Hj:PySem.W.exmOne K (.ref κ.NoMap) (.ref κ.PlaneError)=some true
 Jm:PySem.W.exmOne K (.ref κ.NoMap) (.ref κ.NoMap)=some true
 JI:PySem.W.excIn K κ.TooFew dI "ValueError.__new__" = true
 JY:PX.bG K κ.TooFew
 Hy:PySem.W.kitOne K (.ref κ.TooFew) (.ref κ.PlaneError)=some true
 Iv:PySem.W.kitOne K (.ref κ.TooFew) (.ref κ.NoPlace)=some false
 IQ:PySem.W.kitOne K (.ref κ.TooFew) (.ref κ.NoLine)=some false
 HR:PySem.W.kitOne K (.ref κ.TooFew) (.ref κ.NoDots)=some false
 Iw:PySem.W.kitOne K (.ref κ.TooFew) (.ref κ.NoMap)=some false
 HS:PySem.W.kitOne K (.ref κ.TooFew) (.ref κ.TooFew)=some true
 Iy:PySem.W.kitOne K (.ref κ.TooFew) (.ref κ.TooMany)=some false
 HU:PySem.W.kitOne K (.ref κ.TooFew) (.ref κ.NoSuch)=some false
 HV:PySem.W.kitOne K (.ref κ.TooFew) (.ref κ.NoText)=some false
 Iz:PySem.W.kitOne K (.ref κ.TooFew) (.ref κ.NoAsk)=some false
 Jf:PySem.W.kitOne K (.ref κ.TooFew) (.ref κ.Sheet)=some false
 G9:PySem.W.kitOne K (.ref κ.TooFew) (.type "ValueError")=some true
 Ha:PySem.W.exmOne K (.ref κ.TooFew) (.ref κ.PlaneError)=some true
 IS:PySem.W.exmOne K (.ref κ.TooFew) (.ref κ.TooFew)=some true
 JC:PySem.W.excIn K κ.NoAsk dI "ValueError.__new__" = true
 Kx:PX.bG K κ.NoAsk
 HB:PySem.W.kitOne K (.ref κ.NoAsk) (.ref κ.PlaneError)=some true
 IT:PySem.W.kitOne K (.ref κ.NoAsk) (.ref κ.NoPlace)=some false
 Jg:PySem.W.kitOne K (.ref κ.NoAsk) (.ref κ.NoLine)=some false
 Jh:PySem.W.kitOne K (.ref κ.NoAsk) (.ref κ.NoDots)=some false
 Jn:PySem.W.kitOne K (.ref κ.NoAsk) (.ref κ.NoMap)=some false
 Ji:PySem.W.kitOne K (.ref κ.NoAsk) (.ref κ.TooFew)=some false
 IU:PySem.W.kitOne K (.ref κ.NoAsk) (.ref κ.TooMany)=some false
 Jj:PySem.W.kitOne K (.ref κ.NoAsk) (.ref κ.NoSuch)=some false
 Jk:PySem.W.kitOne K (.ref κ.NoAsk) (.ref κ.NoText)=some false
 Jo:PySem.W.kitOne K (.ref κ.NoAsk) (.ref κ.NoAsk)=some true
 Jp:PySem.W.kitOne K (.ref κ.NoAsk) (.ref κ.Sheet)=some false
 HD:PySem.W.kitOne K (.ref κ.NoAsk) (.type "ValueError")=some true
 HE:PySem.W.exmOne K (.ref κ.NoAsk) (.ref κ.PlaneError)=some true
 Jq:PySem.W.exmOne K (.ref κ.NoAsk) (.ref κ.NoAsk)=some true
 GX:L2.Cls K κ.Sheet
 Hb:PX.eK K κ.Sheet
 GW:L2.eJ K κ.Sheet "dots"
 Hl:L2.eJ K κ.Sheet "past"
theorem str_inj{x y:Str}(h:D.str x=D.str y):x=y:=by injection h
abbrev sgn(x:Str):yag:=x.cps.toList
def JD(l:yag):Str:=⟨l.toArray⟩
theorem aW(l:yag):sgn (JD l)=l:=by simp[sgn,JD]
theorem jj(x:Str):JD (sgn x)=x:=by simp[sgn,JD]
theorem bJ{x y:Str}(h:sgn x=sgn y):x=y:=by rw[<- jj x,h,jj]
theorem bj(x y:Str):sgn (x++y)=sgn x++sgn y:=by show(x.cps++y.cps).toList=_;simp
theorem bB(x:Str):(sgn x).length=x.length:=Array.length_toList
theorem dS(l:yag):(JD l).length=l.length:=by rw[<- bB,aW]
def aY(c:Nat):yag->Option (yag×yag)
 |[]=>none
 |x::xs=>if x=c then some ([],xs)else match aY c xs with
  |none=>none
  |some p=>some (x::p.1,p.2)
theorem lS{c:Nat}(b:yag):∀{a:yag},c∉a->aY c (a++b)=match aY c b with
  |none=>none
  |some p=>some (a++p.1,p.2)
 |[],_=>by show aY c b=_;cases aY c b<;>rfl
 |x::a,h=>by
  have h1:¬x=c:=fun e=>h (by rw[e];exact M4)
  show(if x=c then _ else match aY c (a++b)with|none=>none|some p=>some (x::p.1,p.2))=_;rw[GS h1,lS b fun z=>h (Nu _ z)];cases aY c b<;>rfl
theorem gW{c:Nat}{a b:yag}(h:c∉a):aY c (a++c::b)=some (a,b):=by
 rw[lS _ h];show(match(if c=c then some ([],b)else _:Option (yag×yag))with|none=>none|some p=>some (a++p.1,p.2))=_;rw[G4 rfl];simp
theorem nV{c:Nat}{l:yag}(h:c∉l):aY c l=none:=by have:=lS [] h;rw[Qa]at this;rw[this];rfl
theorem lT{c:Nat}:∀{l a b:yag},aY c l=some (a,b)->l=a++c::b/\c∉a
 |[],_,_,h=>by cases h
 |x::l,a,b,h=>by
  unfold aY at h;split at h
  ·rename_i e;cases h;rw[e];exact⟨rfl,fun z=>by cases z⟩
  ·rename_i e;cases q:aY c l with
   |none=>rw[q]at h;cases h
   |some p =>
    rw[q]at h;cases h;obtain⟨h1,h2⟩:=lT (a:=p.1) (b:=p.2) q;refine⟨by rw[h1];rfl,fun z=>?_⟩;rcases L0.mp z with z|z
    ·exact e z.symm
    ·exact h2 z
theorem BO{c:Nat}{l:yag}(h:aY c l=none):c∉l:=fun z=>by
 obtain⟨a,b,e,h1⟩:=List.append_of_mem z |>.elim fun a ⟨b,e⟩=>(⟨a,b,e,trivial⟩:∃a b,l=a++c::b/\True)
 clear h1 z;subst e
 induction a with
 |nil =>
  unfold aY at h;simp at h
 |cons x a ih =>
  rw[Rt]at h;unfold aY at h;split at h
  ·cases h
  ·split at h
   ·rename_i q;exact ih q
   ·cases h
theorem yi(x:Str)(c i:Nat):StrLaws.At x ⟨#[c]⟩ x.length i↔(sgn x)[i]?=some c:=by
 have e:(sgn x).length=x.length:=bB x;unfold StrLaws.At;rw[StrLaws.subAt_eq];show i+1<=x.length/\(((sgn x).drop i).take 1==[c])=true↔_;rw[beq_iff_eq];constructor
 ·intro ⟨h1,h2⟩;rw[UU (by omega)]at h2;rw[Sq (by omega)];simpa using h2
 ·intro h;obtain⟨h1,h2⟩:=OX.mp h;refine⟨by omega,?_⟩;rw[UU h1,h2];simp
theorem u9(x:Str)(c:Nat):(aY c (sgn x)=none/\Builtin.Str.occurrences x ⟨#[c]⟩ 0 x.length 1=[])∨∃ a b r,aY c (sgn x)=some (a,b)/\Builtin.Str.occurrences x ⟨#[c]⟩ 0 x.length 1=a.length::r:=by
 rcases StrLaws.occ_head x ⟨#[c]⟩ 1 (Ka 1)with⟨h0,hn⟩| ⟨i,r,h0,hi,hn⟩
 ·refine .inl ⟨nV fun z=>?_,h0⟩;obtain⟨i,hi⟩:=List.mem_iff_getElem?.mp z;exact hn i ((yi x c i).mpr hi)
 ·rw[yi]at hi;obtain⟨h1,h2⟩:=OX.mp hi;have e:sgn x=(sgn x).take i++c::(sgn x).drop (i+1):=by
   rw[<- h2,<- UU h1,List.take_append_drop]
  have h3:c∉(sgn x).take i:=fun z=>by
   obtain⟨k,hk⟩:=List.mem_iff_getElem?.mp z;have hk1:k<i:=by have:=(OX.mp hk).1;rw[O6]at this;omega
   rw[List.getElem?_take_of_lt hk1]at hk;exact hn k hk1 ((yi x c k).mpr hk)
  refine .inr ⟨(sgn x).take i,(sgn x).drop (i+1),r,?_,?_⟩
  ·have:=gW (b:=(sgn x).drop (i+1)) h3
   rwa [<- e]at this
  ·rw[h0,O6,Sv (by omega)]
theorem F9(x:Str)(c:Nat):PD.WV x ⟨#[c]⟩=(aY c (sgn x)).isSome:=by
 unfold PD.WV;rcases u9 x c with⟨h,e⟩| ⟨a,b,r,h,e⟩<;>rw[h,e]<;>rfl
theorem za(x:Str)(i:Nat):Builtin.Str.strSub x 0 i=JD ((sgn x).take i):=bJ (by rw[aW];show(Builtin.Str.strSub x 0 i).cps.toList=_;rw[StrLaws.strSub_toList];simp)
theorem y9(x:Str)(i:Nat):Builtin.Str.strSub x i x.length=JD ((sgn x).drop i):=bJ (by rw[aW];show(Builtin.Str.strSub x i x.length).cps.toList=_;rw[StrLaws.strSub_toList,P9];rw[Og,<- bB];exact Ka _)
theorem DK(x:Str)(c:Nat):Txt.partition x ⟨#[c]⟩=match aY c (sgn x)with
  |some p=>(JD p.1,⟨#[c]⟩,JD p.2)
  |none=>(x,Str.empty,Str.empty):=by
 unfold Txt.partition;rcases u9 x c with⟨h,e⟩| ⟨a,b,r,h,e⟩<;>rw[h,e];have q:=(lT h).1;show(Builtin.Str.strSub x 0 a.length,(⟨#[c]⟩:Str),Builtin.Str.strSub x (a.length+1) x.length)=(JD a,⟨#[c]⟩,JD b);rw[za,y9,q];simp
def Xc(c:Nat):Bool:=decide (48<=c) && decide (c<=57)
def Pj(l:yag):yag:=if l.head?=some 45 then l.tail else l
def QX(k:Nat)(l:yag):Bool:=(Pj l).all Xc && (l==[48] || (decide (0<(Pj l).length) && decide ((Pj l).length<=k) && !((Pj l).head?==some 48)))
def dg(m:Nat):yag:=(Nat.toDigits 10 m).map Char.toNat
def tx(n:Int):yag:=sgn (Str.ofString (toString n))
theorem gc(m:Nat):tx (m:Int)=dg m:=PySem.W.KIN.signs_num m
theorem jq(m:Nat):tx (-((m+1:Nat):Int))=45::dg (m+1):=by
 unfold tx sgn dg;rw[Str.ofString_eq_toList];show((toString (Int.negSucc m)).toList.map Char.toNat).toArray.toList=_;rw[List.toList_toArray];show((String.append "-" (Nat.repr (m+1))).toList.map Char.toNat)=_;have:(String.append "-" (Nat.repr (m+1))).toList='-'::(Nat.repr (m+1)).toList:=by show("-" ++ Nat.repr (m+1)).toList=_;rw[String.toList_append];rfl
 rw[this,Nat.toList_repr];rfl
theorem jg(m:Nat):PySem.NumText.AllDigits (dg m):=by intro c hc;obtain⟨ch,ON,e⟩:=Pn.mp hc;have r:=digit_range (Nat.isDigit_of_mem_toDigits (by decide) (by decide) ON);rw[<- e];exact r
theorem tQ(m:Nat)(h:0<m):∃c r,dg m=c::r/\49<=c:=by
 induction m using Nat.strongRecOn with
 |_ m ih =>
  unfold dg;by_cases q:m<10
  ·rw[Nat.toDigits_of_lt_base q];have:∀d:Nat,d<10->0<d->49<=(Nat.digitChar d).toNat:=by decide
   exact⟨_,[],rfl,this m q h⟩
  ·have hm:m % 10<10:=Nat.mod_lt m (by decide);have t:Nat.toDigits 10 (m / 10)++Nat.toDigits 10 (m % 10)=Nat.toDigits 10 (10*(m / 10)+m % 10):=Nat.toDigits_append_toDigits (by decide) (by omega) hm;rw[Nat.div_add_mod]at t;obtain⟨c,r,e,hc⟩:=ih (m / 10) (by omega) (by omega);unfold dg at e;rw[<- t,OK,e];exact⟨c,_,rfl,hc⟩
theorem tR:dg 0=[48]:=by decide
theorem EO(m:Nat):dg m ≠ []:=by
 rcases Nat.eq_zero_or_pos m with e|e
 ·rw[e,tR];simp
 ·obtain⟨c,r,q,_⟩:=tQ m e;rw[q];simp
theorem qT(m:Nat):(dg m).length=(Nat.toDigits 10 m).length:=Kj ..
theorem uT{k m:Nat}(hk:1<=k):(dg m).length<=k↔m<10 ^ k:=by
 rw[qT];constructor
 ·intro h;apply Nat.lt_of_not_le;intro z;have:=digits10_ge z;omega
 ·intro h;exact digits10_le hk h
theorem ua{l:yag}:l.all Xc=true↔PySem.NumText.AllDigits l:=by unfold PySem.NumText.AllDigits Xc;simp
theorem fW(n:Int):(∃m:Nat,n=m/\n.natAbs=m)∨∃ m:Nat,n=-((m+1:Nat):Int)/\n.natAbs=m+1:=by
 cases n with
 |ofNat m=>exact .inl ⟨m,rfl,rfl⟩
 |negSucc m=>exact .inr ⟨m,rfl,rfl⟩
theorem mJ(n:Int):Pj (tx n)=dg n.natAbs:=by
 rcases fW n with⟨m,e,h⟩| ⟨m,e,h⟩<;>rw[h,e]
 ·rw[gc];unfold Pj;rw[GS];intro z;cases q:dg m with
  |nil=>exact EO m q
  |cons c r =>
   rw[q]at z;have:=(q ▸ jg m:PySem.NumText.AllDigits (c::r)).head;simp at z;omega
 ·rw[jq];rfl
theorem GD:tx 0=[48]:=by rw[show(0:Int)=((0:Nat):Int)from rfl,gc,tR]
theorem qY{k:Nat}(hk:1<=k){n:Int}:QX k (tx n)=decide (n.natAbs<10 ^ k):=by
 unfold QX;rw[mJ,ua.mpr (jg _),Sw];rcases Nat.eq_zero_or_pos n.natAbs with e|e
 ·have:n=0:=Int.natAbs_eq_zero.mp e;subst this;rw[GD,Ni (show(0:Int).natAbs<10 ^ k from Nat.pow_pos (by decide))];rfl
 ·obtain⟨c,r,q,hc⟩:=tQ _ e;have h1:(tx n==[48])=false:=by
   rw[Rr];intro z;have h2:=mJ n;rw[z,q]at h2;have h3:([48]:yag)=c::r:=h2;simp at h3;omega
  rw[h1,Bool.false_or];have h2:decide (0<(dg n.natAbs).length)=true:=by rw[q];rfl
  have h3:((dg n.natAbs).head?==some 48)=false:=by rw[q];simp;omega
  rw[h2,h3,Sw,Bool.not_false,Bool.and_true];exact decide_eq_decide.mpr (uT hk)
theorem vU{c:Nat}(h:c<128):(Char.ofNat c).toNat=c:=by
 have:∀c:Nat,c<128->(Char.ofNat c).toNat=c:=by decide
 exact this c h
theorem wq{c:Nat}{r:yag}(h:PySem.NumText.AllDigits (c::r))(h1:r=[]∨49<=c):dg (PySem.NumText.digitsVal (c::r))=c::r:=by
 unfold dg;rw[PySem.NumText.toDigits_digitsVal r.length (c::r) rfl h (h1.elim (fun e=>.inl (by rw[e];rfl)) fun e=>.inr ⟨c,r,rfl,e⟩),Rz]
 conv=>rhs;rw[<- List.map_id (c::r)]
 apply List.map_congr_left;intro d hd;have:=h d hd;exact vU (by omega)
theorem ub{k:Nat}(hk:1<=k)(h9:k<=1000){l:yag}(h:QX k l=true):∃n,PySem.intText? (JD l)=some n/\tx n=l/\n.natAbs<10 ^ k:=by
 have fin:∀n:Int,tx n=l->n.natAbs<10 ^ k:=fun n e=>by rw[<- e,qY hk]at h;exact Qw h
 have hl:l.length<=k+1:=by
  unfold QX Pj at h;simp only[N6,Bool.or_eq_true,beq_iff_eq,decide_eq_true_eq]at h;rcases h.2 with e|e
  ·rw[e];show 1<=k+1;omega
  ·have:=e.1.2;split at this
   ·rw[List.length_tail]at this;omega
   ·omega
 have hm:(JD l).length<=4300:=by rw[dS];omega
 unfold QX at h;rw[N6,ua]at h;obtain⟨h1,h2⟩:=h;have h3:∃c r,Pj l=c::r/\(r=[]∨49<=c):=by
  rw[Bool.or_eq_true]at h2;rcases h2 with e|e
  ·rw[eq_of_beq e];exact⟨48,[],rfl,.inl rfl⟩
  ·cases q:Pj l with
   |nil=>rw[q]at e;simp at e
   |cons c r =>
    rw[q]at e h1;have:=h1.head;refine⟨c,r,rfl,.inr ?_⟩;simp at e;omega
 obtain⟨c,r,q,hc⟩:=h3;rw[q]at h1;unfold Pj at q;split at q
 ·cases l with
  |nil=>cases q
  |cons d l =>
   rename_i e;have e:d=45:=by simpa using e
   have q:l=c::r:=q;subst e q;have hv:0<PySem.NumText.digitsVal (c::r)∨(c=48/\r=[]):=by
    have:=h1.head;rcases hc with e|e
    ·by_cases z:c=48
     ·exact .inr ⟨z,e⟩
     ·exact .inl (PySem.NumText.digitsVal_pos (by omega))
    ·exact .inl (PySem.NumText.digitsVal_pos e)
   rcases hv with hv|⟨z,e⟩
   ·have e1:=PySem.intText_neg (x:=JD (45::c::r)) (cs:=c::r) (aW _) h1 (by simp) hm;obtain⟨m,hm⟩:=Nat.exists_eq_add_of_lt hv;rw[Nat.zero_add]at hm;have e2:tx (-((PySem.NumText.digitsVal (c::r):Nat):Int))=45::c::r:=by
     rw[hm,jq,<- hm,wq h1 hc]
    exact⟨_,e1,e2,fin _ e2⟩
   ·rw[z,e]at h2;exact absurd h2 (by simp[Pj])
 ·subst q;have e1:=PySem.intText_digits (x:=JD (c::r)) (by rw[show(JD (c::r)).cps.toList=c::r from aW _];exact h1) (by rw[show(JD (c::r)).cps.toList=c::r from aW _];simp) hm;rw[show(JD (c::r)).cps.toList=c::r from aW _]at e1;have e2:tx ((PySem.NumText.digitsVal (c::r):Nat):Int)=c::r:=by rw[gc,wq h1 hc]
  exact⟨_,e1,e2,fin _ e2⟩
def wN(k:Nat)(l:yag):yaq:=if QX k l=true then PySem.intText? (JD l)else none
theorem lB{k:Nat}(hk:1<=k)(h9:k<=1000){n:Int}(h:n.natAbs<10 ^ k):wN k (tx n)=some n:=by
 have hi:QX k (tx n)=true:=by rw[qY hk];exact Ni h
 unfold wN;rw[G4 hi];obtain⟨m,e,t,_⟩:=ub hk h9 hi;rw[e];have hd:=congrArg Pj t;rw[mJ,mJ]at hd;have ha:m.natAbs=n.natAbs:=by rw[<- PySem.W.KIN.val_back m.natAbs,<- PySem.W.KIN.val_back n.natAbs];exact congrArg PySem.NumText.digitsVal hd
 rcases fW m with⟨a,q,h1⟩| ⟨a,q,h1⟩<;>rcases fW n with⟨b,z,h2⟩| ⟨b,z,h2⟩
 ·rw[q,z];exact congrArg some (by omega)
 ·rw[q,z,gc,jq]at t;have:=jg a;rw[t]at this;exact absurd this.head (by decide)
 ·rw[q,z,gc,jq]at t;have:=jg b;rw[<- t]at this;exact absurd this.head (by decide)
 ·rw[q,z];exact congrArg some (by omega)
theorem Bs{k:Nat}(hk:1<=k)(h9:k<=1000){l:yag}{n:Int}(h:wN k l=some n):QX k l=true/\tx n=l/\n.natAbs<10 ^ k:=by
 unfold wN at h;split at h
 ·rename_i q;obtain⟨m,e,t,b⟩:=ub hk h9 q;rw[e]at h;cases h;exact⟨q,t,b⟩
 ·cases h
theorem Eg{k:Nat}{l:yag}(h:QX k l=false):wN k l=none:=by unfold wN;rw[h];rfl
theorem y6(x:Str)(u:yaq):Txt.slice x none u=Txt.slice x (some 0) u:=by unfold Txt.slice;rw[StrLaws.sliceIdx_none_lo]
theorem sd(x:Str)(l:yaq):Txt.slice x l none=Txt.slice x l (some (x.length:Int)):=by unfold Txt.slice;rw[StrLaws.sliceIdx_none_hi]
theorem r9(x:Str){a b:Nat}(hab:a<=b)(hb:b<=x.length):Txt.slice x (some (a:Int)) (some (b:Int))=JD (((sgn x).drop a).take (b - a)):=StrLaws.sliceText_nat x hab hb
theorem y4(x:Str){a b:Nat}(h:b<=a):Txt.slice x (some (a:Int)) (some (b:Int))=JD []:=by
 have e:Builtin.Str.strSliceIndices (some (a:Int)) (some (b:Int)) 1 x.length=[]:=by
  have h1:¬((a:Int)<0):=by omega
  have h2:¬((b:Int)<0):=by omega
  simp only[Builtin.Str.strSliceIndices,sliceRange,h1,h2,if_false,show((1:Int) > 0)=True from by simp,if_true];have h3:¬(max (0:Int) (min (a:Int) (x.length:Int))<max (0:Int) (min (b:Int) (x.length:Int))):=by omega
  simp[h3]
 unfold Txt.slice;rw[e];split
 ·rename_i z;have z:x.length=0:=by
   simp at z;exact z.symm
  apply bJ;rw[aW];exact Qu (by rw[bB];exact z)
 ·rfl
theorem Bk{x:Str}{a r:yag}(h:sgn x=a++r):Txt.slice x none (some (a.length:Int))=JD a:=by have l:=congrArg List.length h;rw[bB,Mw]at l;rw[y6];refine(r9 x (a:=0) (M9 _) (by omega)).trans ?_;rw[h];simp
theorem Bl{x:Str}{a b:yag}{c:Nat}(h:sgn x=a++c::b):Txt.slice x (some ((a.length:Int)+1)) none=JD b:=by
 have l:=congrArg List.length h;rw[bB,Mw,MM]at l;rw[sd];refine(r9 x (a:=a.length+1) (by omega) (Ka _)).trans ?_;rw[h,P9]
 ·simp
 ·simp;omega
structure TX(x:Str):Prop where
 l:x.length<=300
 a:∀c∈sgn x,c<128
theorem TX.sub{x:Str}{l:yag}(h:TX x)(h1:∀c∈l,c∈sgn x)(h2:l.length<=(sgn x).length):TX (JD l) :=
 ⟨by rw[dS];rw[bB]at h2;exact MH h2 h.l,by rw[aW];exact fun c z=>h.a c (h1 c z)⟩
theorem iA{n:Int}{c:Nat}(h:c∈tx n):c=45∨(48<=c/\c<=57):=by
 rcases fW n with⟨m,e,_⟩| ⟨m,e,_⟩<;>rw[e]at h
 ·rw[gc]at h;exact .inr (jg m c h)
 ·rw[jq]at h;rcases L0.mp h with z|z
  ·exact .inl z
  ·exact .inr (jg _ c z)
theorem zU(n:Int):58∉tx n:=fun h=>by have:=iA h;omega
theorem c8{n:Int}{k:Nat}(hk:1<=k)(h:n.natAbs<10 ^ k):(tx n).length<=k+1:=by
 rcases fW n with⟨m,e,q⟩| ⟨m,e,q⟩
 ·rw[e,gc,qT];rw[q]at h;exact Nat.le_succ_of_le (digits10_le hk h)
 ·rw[e,jq,MM,qT];rw[q]at h;exact Nat.succ_le_succ (digits10_le hk h)
theorem xP(n:Int):119∉tx n:=fun h=>by have:=iA h;omega
def Ng(c:Nat)(l:yag):yag×yag:=match aY c l with
 |none=>(l,[])
 |some p=>p
def col(l:yag):yaq:=match l.head? with
 |some 97=>some 0
 |some 98=>some 1
 |some 99=>some 2
 |_=>none
def w2(k:Nat)(l:yag):yaq:=match wN k l with
 |none=>none
 |some n=>if n<2 then none else some n
def P1(q:yag):yag×Option (yag):=match aY 119 q with
 |none=>(q,none)
 |some p=>(p.1,some p.2)
def Vt:Option (yag)->yaq
 |none=>some 1
 |some v=>w2 9 v
abbrev Hr:=Int×Int×Int×Int
def Rh(l:yag):Option Hr:=match wN 12 (Ng 58 l.tail).1 with
 |none=>none
 |some x=>match wN 12 (P1 (Ng 58 l.tail).2).1 with
  |none=>none
  |some y=>match col l with
   |none=>none
   |some c=>match Vt (P1 (Ng 58 l.tail).2).2 with
    |none=>none
    |some w=>some (x,y,c,w)
theorem Gn{l p q:yag}{x c:Int}(h:aY 58 l.tail=some (p,q))(hx:wN 12 p=some x)(hc:col l=some c)(hw:aY 119 q=none):Rh l=match wN 12 q with
  |none=>none
  |some y=>some (x,y,c,1):=by
 unfold Rh Ng;rw[h,hc];show(match wN 12 p with|none=>none|some x=>match wN 12 (P1 q).1 with|none=>none|some y=>match Vt (P1 q).2 with|none=>none|some w=>some (x,y,c,w))=_;rw[hx];unfold P1;rw[hw];rfl
theorem Gp{l p q u v:yag}{x c:Int}(h:aY 58 l.tail=some (p,q))(hx:wN 12 p=some x)(hc:col l=some c)(hw:aY 119 q=some (u,v)):Rh l=match wN 12 u with
  |none=>none
  |some y=>match w2 9 v with
   |none=>none
   |some w=>some (x,y,c,w):=by
 unfold Rh Ng;rw[h,hc];show(match wN 12 p with|none=>none|some x=>match wN 12 (P1 q).1 with|none=>none|some y=>match Vt (P1 q).2 with|none=>none|some w=>some (x,y,c,w))=_;rw[hx];unfold P1;rw[hw];rfl
theorem C4(s a b:Str)(r:yah):Str.join s (a::b::r)=a++s++Str.join s (b::r):=rfl
theorem cY(c:Nat)(a b:Str)(r:yah):sgn (Str.join ⟨#[c]⟩ (a::b::r))=sgn a++c::sgn (Str.join ⟨#[c]⟩ (b::r)):=by rw[C4,bj,bj,List.append_assoc];rfl
theorem pO{c:Nat}:∀{A B:yah},A ≠ []->B ≠ []->(∀p∈A,c∉sgn p)->(∀p∈B,c∉sgn p)->Str.join ⟨#[c]⟩ A=Str.join ⟨#[c]⟩ B->A=B
 |[],_,h,_,_,_,_=>absurd rfl h
 |_,[],_,h,_,_,_=>absurd rfl h
 |[a],[b],_,_,_,_,e=>by rw[show a=b from e]
 |[a],b::b'::r,_,_,ha,_,e=>by have h1:=congrArg sgn e;rw[cY]at h1;have h2:=ha a M4;rw[show sgn (Str.join ⟨#[c]⟩ [a])=sgn a from rfl]at h1;rw[h1]at h2;exact absurd (by simp) h2
 |a::a'::r,[b],_,_,_,hb,e=>by have h1:=congrArg sgn e;rw[cY]at h1;have h2:=hb b M4;rw[show sgn (Str.join ⟨#[c]⟩ [b])=sgn b from rfl]at h1;rw[<- h1]at h2;exact absurd (by simp) h2
 |a::a'::r,b::b'::q,_,_,ha,hb,e=>by have h1:=congrArg sgn e;rw[cY,cY]at h1;have k1:=gW (b:=sgn (Str.join ⟨#[c]⟩ (a'::r))) (ha a M4);rw[h1,gW (hb b M4)]at k1;injection k1 with k1;injection k1 with k1 k2;have ih:=pO (A:=a'::r) (B:=b'::q) (by simp) (by simp) (fun p hp=>ha p (Nu _ hp)) (fun p hp=>hb p (Nu _ hp)) (bJ k2.symm);rw[ih,bJ k1]
theorem y7(x y:Str):Txt.split x y ≠ []:=by
 unfold Txt.split;split
 ·simp
 ·split
  ·simp
  ·rw[StrLaws.partsBetween_eq];obtain⟨p,r,e⟩:=StrLaws.partsFrom_ne x y.length 0 (Builtin.Str.occurrences x y 0 x.length (x.length+1));rw[e];simp
theorem y8{c:Nat}{ws:yah}(h:ws ≠ [])(hf:∀p∈ws,c∉sgn p):Txt.split (Str.join ⟨#[c]⟩ ws) ⟨#[c]⟩=ws :=
 pO (y7 _ _) h (StrLaws.split_free _ c) hf (StrLaws.join_split _ _)
theorem ue{c d:Nat}:∀{ws:yah},d∈sgn (Str.join ⟨#[c]⟩ ws)->d=c∨∃ p∈ws,d∈sgn p
 |[],h=>by cases h
 |[a],h=>.inr ⟨a,M4,h⟩
 |a::b::r,h=>by
  rw[cY]at h;rcases Qx.mp h with z|z
  ·exact .inr ⟨a,M4,z⟩
  ·rcases L0.mp z with z|z
   ·exact .inl z
   ·rcases ue (ws:=b::r) z with q|⟨p,hp,q⟩
    ·exact .inl q
    ·exact .inr ⟨p,Nu _ hp,q⟩
theorem xi(x:Str)(c:Nat):(Builtin.Str.partsBetween x (Builtin.Str.occurrences x ⟨#[c]⟩ 0 x.length (x.length+1)) (⟨#[c]⟩:Str).length).length<=x.length+2:=by
 have pf:∀(w:Nat) (QY:yag) (a:Nat),(StrLaws.partsFrom x w a QY).length=QY.length+1:=fun w QY=>by
  induction QY with
  |nil=>intro a;rfl
  |cons d r ih=>intro a;show(StrLaws.partsFrom x w (d+w) r).length+1=_;rw[ih];rfl
 rw[StrLaws.partsBetween_eq,pf];have:=StrLaws.occ_length_le x ⟨#[c]⟩ 0 x.length (x.length+1);omega
theorem PH(a:D):([a]:yas).length<=sizeLine:=by rw[N7];show 1<=16777216;decide
def vl(ds:yap):Nat:=ds.foldl (fun acc d=>acc*10+d) 0
theorem Bn{p q:yap×Bool}{c:Nat}(h:PySem.NumText.step 10 p c=some q):vl q.1+1<=(vl p.1+1)*10:=by
 unfold PySem.NumText.step at h;split at h
 ·split at h
  ·cases h;show vl p.1+1<=_;omega
  ·cases h
 ·split at h
  ·rename_i d _;split at h
   ·rename_i hd;cases h;show vl (p.1.push d)+1<=_;have:vl (p.1.push d)=vl p.1*10+d:=by unfold vl;rw[Array.foldl_push]
    omega
   ·cases h
  ·cases h
theorem tY:∀(cs:yag) {p q:yap×Bool},cs.foldlM (PySem.NumText.step 10) p=some q->vl q.1+1<=(vl p.1+1)*10 ^ cs.length
 |[],p,q,h=>by have e:p=q:=Oh h;subst e;simp
 |c::cs,p,q,h=>by
  rw[List.foldlM_cons]at h;cases hs:PySem.NumText.step 10 p c with
  |none=>rw[hs]at h;exact absurd h (by simp)
  |some p' =>
   rw[hs]at h;have ih:=tY cs (p:=p') h;have:=Nat.mul_le_mul_right (10 ^ cs.length) (Bn hs);rw[MM,Qg,Nat.mul_comm (10 ^ cs.length) 10,<- Nat.mul_assoc];exact MH ih this
theorem CU{x:Str}{n:Int}(h:PySem.intText? x=some n):n.natAbs<10 ^ x.length:=by
 unfold PySem.intText? at h;split at h
 ·cases hd:PySem.NumText.digits? 10 (PySem.NumText.core (numSeenOf x))with
  |none=>rw[hd]at h;cases h
  |some ds =>
   rw[hd]at h;simp only at h;split at h
   ·have hv:vl ds+1<=10 ^ (PySem.NumText.core (numSeenOf x)).length:=by
     unfold PySem.NumText.digits? at hd;cases hf:(PySem.NumText.core (numSeenOf x)).foldlM (PySem.NumText.step 10) ((#[]:yap),false)with
     |none=>rw[hf]at hd;exact absurd hd (by simp)
     |some q =>
      rw[hf]at hd;have h2:(if q.2=true then some q.1 else none)=some ds:=hd;have:=tY _ hf;rw[show vl ((#[]:yap),false).1=0 from rfl,Nat.zero_add,Nat.one_mul]at this;split at h2
      ·cases h2;exact this
      ·cases h2
    have hl:10 ^ (PySem.NumText.core (numSeenOf x)).length<=10 ^ x.length:=SY (by decide) (MH (PySem.NumText.core_length _) (PySem.seen_length x));have hn:n.natAbs=vl ds:=by
     injection h with h;rw[<- h];unfold PySem.NumText.worth;split
     ·rw[Int.natAbs_neg];rfl
     ·rfl
    omega
   ·cases h
 ·cases h
theorem lg{n:Int}(h:Bd 1000 n):n.natAbs.log2<1920:=by
 unfold Bd at h;rcases Nat.eq_zero_or_pos n.natAbs with e|e
 ·rw[e];decide
 ·rw[Nat.log2_lt (by omega)];exact LZ h (SY (by decide) (by decide))
theorem Er{t:Str}{n:Int}(h:TX t)(e:PySem.intText? t=some n):Bd 1000 n:=by
 have h1:=CU e;have h2:10 ^ t.length<=10 ^ 300:=SY (by decide) h.l;have h3:10 ^ 300<=2 ^ 1000:=by decide
 unfold Bd;omega
theorem ji(n:Int):(Str.ofString (toString n)).length=(tx n).length:=(bB _).symm
theorem rh{n:Int}(h:Bd 1000 n):(tx n).length<=303:=by
 refine c8 (k:=302) (by decide) ?_;have h3:2 ^ 1000<=10 ^ 302:=by decide
 unfold Bd at h;omega
theorem cR{x:Str}(h:∀c∈sgn x,c<128):okD (.str x):=⟨by rw[NC]<;>(intros;contradiction),by
 rw[Km,SeqAt.shaped,PyData.canLay0,PyData.depth];rw[show PyData.strOk x=true from by unfold PyData.strOk;rw[Array.all_eq_true'];intro c hc;have:=h c (Array.mem_toList_iff.mpr hc);exact Ni (by omega)]
 rfl⟩
theorem sC(n:Int):∀c∈tx n,c<128:=fun c h=>by have:=iA h;omega
theorem E2 (x:Str):Oz "str" (.str x)=true:=rfl
theorem FX(t:Str)(P:Str->Prop):(∃x,D.str t=D.str x/\P x)=P t:=propext ⟨fun⟨x,e,h⟩=>by injection e with e;rw[e];exact h,fun h=>⟨t,rfl,h⟩⟩
theorem EU(t:Str)(P:Str->Prop):(∃x,[D.str t]=[D.str x]/\P x)=P t:=propext ⟨fun⟨x,e,h⟩=>by injection e with e;injection e with e;rw[e];exact h,fun h=>⟨t,rfl,h⟩⟩
theorem Br(x:Str):ax (.str x)=.str x:=by rw[ax]<;>(intros;contradiction)
theorem Ef{k:Nat}{l:yag}{n:Int}(h:wN k l=some n):PySem.intText? (JD l)=some n:=by
 unfold wN at h;split at h
 ·exact h
 ·cases h
theorem nS:(Str.ofString ":")=⟨#[58]⟩:=by decide +kernel
theorem aB{n:Nat}(h:n<=16777216):n<=sizeLine:=by rw[N7];exact h
theorem br(x y:Str):(x++y).length=x.length+y.length:=by rw[<- bB,bj,Mw,bB,bB]
theorem ot(x:Str):Str.empty++x=x:=bJ (by rw[bj];rfl)
theorem bz(c:Nat):(⟨#[c]⟩:Str).length=1:=rfl
theorem TX.cut{s:Str}{c:Nat}{p:yag×yag}(T:TX s)(h:aY c (sgn s)=some p):TX (JD p.1)/\TX (JD p.2):=by
 have e:=(lT (a:=p.1) (b:=p.2) h).1;constructor
 ·exact T.sub (fun d hd=>by rw[e];exact U0 _ hd) (by rw[e,Mw];omega)
 ·exact T.sub (fun d hd=>by rw[e];exact Oe _ (Nu _ hd)) (by rw[e,Mw,MM];omega)
theorem TX.nil:TX (JD []):=⟨by rw[dS];decide,by rw[aW];simp⟩
theorem cE(a b c:D):([a,b,c]:yas).length<=sizeLine:=by rw[N7];show 3<=16777216;decide
theorem uO{c:Nat}(h:c<128):∀d∈sgn (⟨#[c]⟩:Str),d<128:=fun d hd=>by
 have:d=c:=by simpa [sgn]using hd
 omega
theorem Gv(a b:D):([a,b]:yas).length<=sizeLine:=by rw[N7];show 2<=16777216;decide
theorem BF{α:Type}{xs:List α}{i:Int}(h0:0<=i)(h1:i<xs.length):∃d,KQ xs i=some d/\d∈xs:=by
 have hl:i.toNat<xs.length:=by omega
 refine⟨xs[i.toNat],?_,List.getElem_mem hl⟩;unfold KQ ixN;rw[G4 (by omega),G4 h1];show xs[i.toNat]?=_;rw[Sq hl]
theorem Xd:(Str.ofString "w")=⟨#[119]⟩:=by decide +kernel
theorem iL:(Str.ofString " ")=⟨#[32]⟩:=by decide +kernel
theorem zh(t:Str):Txt.slice t (some 1) none=JD (sgn t).tail:=by
 cases q:sgn t with
 |nil =>
  have e:t.length=0:=by rw[<- bB,q];rfl
  rw[sd,e];exact y4 t (a:=1) (b:=0) (by decide)
 |cons c r =>
  have e:(some 1:yaq)=some ((([]:yag).length:Int)+1):=rfl;rw[e,Bl (b:=r) (c:=c) (by rw[q];rfl)];rfl
theorem qX(t:Str):Txt.slice t none (some 1)=JD ((sgn t).take 1):=by
 cases q:sgn t with
 |nil =>
  have e:t.length=0:=by rw[<- bB,q];rfl
  have h1:Txt.slice t none (some 1)=t:=by unfold Txt.slice;rw[G4];rw[e];decide
  rw[h1];exact bJ (by rw[q,aW];rfl)
 |cons c r =>
  rw[show(some 1:yaq)=some (([c]:yag).length:Int)from rfl,Bk (r:=r) (by rw[q];rfl)];rfl
theorem BJ(t:Str):(if(Txt.slice t none (some 1)).length=1 then col (sgn (Txt.slice t none (some 1)))else none)=col (sgn t):=by
 rw[qX,dS,aW];cases sgn t with
 |nil=>rfl
 |cons c r=>rfl
theorem uo(c:Nat)(s:Str):PD.mW s ⟨#[c]⟩=.tup [.str (JD (Ng c (sgn s)).1),.str (if(aY c (sgn s)).isSome=true then⟨#[c]⟩else Str.empty),.str (JD (Ng c (sgn s)).2)]:=by
 unfold PD.mW Ng;rw[DK];cases aY c (sgn s)with
 |none=>show D.tup [.str s,.str Str.empty,.str Str.empty]=_;rw[jj];rfl
 |some p=>rfl
theorem TX.sp{s:Str}(c:Nat)(T:TX s):TX (JD (Ng c (sgn s)).1)/\TX (JD (Ng c (sgn s)).2):=by
 unfold Ng;cases q:aY c (sgn s)with
 |none=>exact⟨by show TX (JD (sgn s));rw[jj];exact T,TX.nil⟩
 |some p=>exact T.cut q
theorem TX.tail{t:Str}(T:TX t):TX (JD (sgn t).tail):=T.sub (fun c hc=>List.mem_of_mem_tail hc) (by rw[List.length_tail];omega)
theorem TX.head{t:Str}(T:TX t):TX (JD ((sgn t).take 1)):=T.sub (fun c hc=>List.mem_of_mem_take hc) (by rw[O6];omega)
theorem vH(a b c d:D):([a,b,c,d]:yas).length<=sizeLine:=by rw[N7];show 4<=16777216;decide
theorem GF(q:yag):(P1 q).1=(Ng 119 q).1:=by unfold P1 Ng;cases aY 119 q<;>rfl
theorem Am:((Str.empty:Str)==(⟨#[119]⟩:Str))=false:=by decide
theorem vq:sgn (Str.ofString "abc")=[97,98,99]:=by decide +kernel
theorem Aa{c:Nat}{a b:yag}(h:aY c [97,98,99]=some (a,b)):col [c]=some (a.length:Int):=by
 by_cases e1:c=97
 ·subst e1;rw[show aY 97 [97,98,99]=some ([],[98,99])from by decide]at h;cases h;rfl
 ·by_cases e2:c=98
  ·subst e2;rw[show aY 98 [97,98,99]=some ([97],[99])from by decide]at h;cases h;rfl
  ·by_cases e3:c=99
   ·subst e3;rw[show aY 99 [97,98,99]=some ([97,98],[])from by decide]at h;cases h;rfl
   ·rw[nV (by simp;omega)]at h;cases h
theorem BL{c:Nat}(h:aY c [97,98,99]=none):col [c]=none:=by
 have:=BO h;simp at this;unfold col;split
 ·rename_i z;simp at z;omega
 ·rename_i z;simp at z;omega
 ·rename_i z;simp at z;omega
 ·rfl
theorem Dx{t:Str}(h:t.length=1):∃c,t=⟨#[c]⟩:=by
 have h1:(sgn t).length=1:=by rw[bB];exact h
 cases q:sgn t with
 |nil=>rw[q]at h1;cases h1
 |cons c r =>
  cases r with
  |nil=>exact⟨c,bJ q⟩
  |cons d r=>rw[q]at h1;simp at h1
def ws(t:Str):yah:=Txt.split t ⟨#[32]⟩
structure TZ(t:Str):Prop where
 l:t.length<=5000
 a:∀c∈sgn t,c<128
 w:∀x∈ws t,TX x
theorem tk{α:Type}{xs:List α}{j:Nat}{x:α}(h:xs[j]?=some x):xs.take (j+1)=xs.take j++[x]:=by rw[List.take_succ,h];rfl
theorem Vg{α:Type}(a:α)(r:List α):KQ (a::r) 0=some a:=by unfold KQ ixN;rw[G4 (by decide),G4 (by rw[MM];omega)];rfl
structure Np(d:Hr):Prop where
 x:d.1.natAbs<1000000000000
 y:d.2.1.natAbs<1000000000000
 c0:0<=d.2.2.1
 c3:d.2.2.1<3
 w1:1<=d.2.2.2
 w9:d.2.2.2<1000000000
def lt(c:Int):Nat:=97+c.toNat
def KS(d:Hr):yag:=lt d.2.2.1::(tx d.1++58::(tx d.2.1++if d.2.2.2=1 then[]else 119::tx d.2.2.2))
theorem Xe:((10:Int) ^ (12:Int).toNat)=1000000000000:=by decide
theorem nU:xW 10 12:=⟨by decide,by decide,by decide⟩
theorem Ri:(10:Nat) ^ 12=1000000000000:=by decide
theorem n9:(10:Nat) ^ 9=1000000000:=by decide
theorem fD{n:Int}(h:n.natAbs<1000000000000):Bd 1000 n:=by
 have e:(1000000000000:Nat)<=2 ^ 60:=by decide
 exact Bd.mono (m:=60) (LZ h e) (by decide)
theorem BK{c:Int}(h0:0<=c)(h3:c<3)(r:yag):col (lt c::r)=some c:=by
 rcases(show c=0∨c=1∨c=2 by omega)with rfl|rfl|rfl<;>rfl
theorem Fq{d:Hr}(h:Np d):Rh (KS d)=some d:=by
 obtain⟨x,y,c,w⟩:=d;obtain⟨hx,hy,h0,h3,h1,h9⟩:=h;dsimp only at hx hy h0 h3 h1 h9;have hc:col (KS (x,y,c,w))=some c:=BK h0 h3 _;have w1:wN 12 (tx x)=some x:=lB (by decide) (by decide) (by rw[Ri];exact hx);have w2:wN 12 (tx y)=some y:=lB (by decide) (by decide) (by rw[Ri];exact hy);by_cases e:w=1
 ·subst e;have h8:aY 58 (KS (x,y,c,1)).tail=some (tx x,tx y):=by
   show aY 58 (tx x++58::(tx y++[]))=_;rw[Qa];exact gW (zU x)
  rw[Gn h8 w1 hc (nV (xP y)),w2]
 ·have h8:aY 58 (KS (x,y,c,w)).tail=some (tx x,tx y++119::tx w):=by
   show aY 58 (tx x++58::(tx y++if w=1 then[]else 119::tx w))=_;rw[GS e];exact gW (zU x)
  have w3:LW.w2 9 (tx w)=some w:=by unfold LW.w2;rw[lB (by decide) (by decide) (by rw[n9];omega)];dsimp only;rw[GS (by omega)]
  rw[Gp h8 w1 hc (gW (xP y)),w2,w3]
theorem lA{d:Hr}(h:Np d):(KS d).length<=40:=by
 obtain⟨hx,hy,h0,h3,h1,h9⟩:=h;have a:=c8 (n:=d.1) (k:=12) (by decide) (by rw[Ri];exact hx);have b:=c8 (n:=d.2.1) (k:=12) (by decide) (by rw[Ri];exact hy);have c:=c8 (n:=d.2.2.2) (k:=9) (by decide) (by rw[n9];omega);unfold KS;rw[MM,Mw,MM,Mw];split
 ·rw[List.length_nil];omega
 ·rw[MM];omega
theorem uA{d:Hr}{c:Nat}(h0:0<=d.2.2.1)(h3:d.2.2.1<3)(h:c∈KS d):32<c/\c<128:=by
 unfold KS lt at h;rcases L0.mp h with z|z
 ·omega
 rcases Qx.mp z with z|z
 ·have:=iA z;omega
 rcases L0.mp z with z|z
 ·omega
 rcases Qx.mp z with z|z
 ·have:=iA z;omega
 split at z
 ·cases z
 ·rcases L0.mp z with z|z
  ·omega
  ·have:=iA z;omega
theorem Eh(d:Hr)(h:d.2.2.2=1):(⟨#[lt d.2.2.1]⟩:Str)++Str.ofString (toString d.1)++⟨#[58]⟩++Str.ofString (toString d.2.1)=JD (KS d):=bJ (by rw[bj,bj,bj,aW];unfold KS tx;rw[G4 h];simp[sgn])
theorem Ei(d:Hr)(h:¬d.2.2.2=1):(⟨#[lt d.2.2.1]⟩:Str)++Str.ofString (toString d.1)++⟨#[58]⟩++Str.ofString (toString d.2.1)++⟨#[119]⟩++Str.ofString (toString d.2.2.2)=JD (KS d):=bJ (by rw[bj,bj,bj,bj,bj,aW];unfold KS tx;rw[GS h];simp[sgn])
theorem vT {c:Int} (h0:0<=c) (h3:c<3):KQ (Str.ofString "abc").cps.toList c=some (lt c):=by
 show KQ (sgn (Str.ofString "abc")) c=some (lt c);rw[vq];rcases(show c=0∨c=1∨c=2 by omega)with rfl|rfl|rfl<;>decide
def jn(ds:List Hr):Str:=Str.join ⟨#[32]⟩ (ds.map fun d=>JD (KS d))
theorem Fd{d:Hr}(h:Np d):32∉sgn (JD (KS d)):=fun z=>by rw[aW]at z;have:=uA h.c0 h.c3 z;omega
theorem uN{d:Hr}(h:Np d):TX (JD (KS d)):=⟨by rw[dS];have:=lA h;omega,fun c hc=>by rw[aW]at hc;exact(uA h.c0 h.c3 hc).2⟩
theorem C3{ds:List Hr}(h:∀d∈ds,Np d):∀c∈sgn (jn ds),c<128:=fun c hc=>by
 rcases ue hc with z|⟨p,hp,z⟩
 ·omega
 ·obtain⟨d,hd,rfl⟩:=Pn.mp hp;exact(uN (h d hd)).a c z
theorem pk3(a b c:Int){i:Int}(h0:0<=i)(h1:i<3):∃z:Int,KQ [D.int a,D.int b,D.int c] i=some (.int z)/\(z=a∨z=b∨z=c):=by
 obtain⟨d,e,h⟩:=BF (xs:=[D.int a,D.int b,D.int c]) h0 h1;simp only[L0,O7,or_false]at h;rcases h with z|z|z<;>subst z
 ·exact⟨a,e,.inl rfl⟩
 ·exact⟨b,e,.inr (.inl rfl)⟩
 ·exact⟨c,e,.inr (.inr rfl)⟩
theorem mR(x:Str)(ys:yah):Txt.join x ys=Str.join x ys:=StrLaws.glued_eq_join x ys
theorem fm{a b:Int}(hb:0<b):0<=a.fmod b/\a.fmod b<b:=⟨Int.fmod_nonneg_of_pos a hb,Int.fmod_lt_of_pos a hb⟩
def HX(d:Hr):D:=.tup [.int d.1,.int d.2.1,.int d.2.2.1,.int d.2.2.2]
theorem pU:∀ds:List Hr,aC (ds.map HX)=ds.map HX
 |[]=>by rw[Qf,aC]
 |d::r=>by rw[Nj,aC,pU r];rfl
theorem tS{a b:Hr}(h:HX a=HX b):a=b:=by unfold HX at h;simp only[D.tup.injEq,U3,D.int.injEq,and_true]at h;exact Prod.ext h.1 (Prod.ext h.2.1 (Prod.ext h.2.2.1 h.2.2.2))
structure WO(w:Str):Prop where
 l:w.length<=40
 n:32∉sgn w
 a:∀c∈sgn w,c<128
def jw(W:yah):Str:=Str.join ⟨#[32]⟩ W
theorem rf:∀{W:yah},(∀w∈W,WO w)->(jw W).length<=41*W.length
 |[],_=>by decide
 |[d],h=>by have:=(h d M4).l;show d.length<=41*1;omega
 |d::e::r,h=>by
  have:=(h d M4).l;have ih:=rf (W:=e::r) fun x hx=>h x (Nu _ hx)
  have q:=congrArg List.length (cY 32 d e r);rw[bB,Mw,MM,bB,bB]at q;unfold jw at ih ⊢;rw[q];simp only[MM]at ih ⊢;omega
theorem zw{d:Hr}(h:Np d):WO (JD (KS d)):=⟨by rw[dS];exact lA h,Fd h,(uN h).a⟩
theorem BN{α:Type}(f:α->D)(xs:List α)(k:Nat):PD.cutD (xs.map f) none (some (k:Int))=(xs.take k).map f:=by
 unfold PD.cutD;rw[HT.oR,HT.ig,List.drop_zero,Nat.sub_zero,<- List.map_take,Kj];congr 1;rcases Nat.le_total k xs.length with z|z
 ·rw[Sv z]
 ·rw[Nat.min_eq_right z,P9 z,List.take_length]
theorem y0(c:Nat):sgn (⟨#[c]⟩:Str)=[c]:=rfl
theorem wd1(d:Hr)(h:d.2.2.2=1):(⟨#[lt d.2.2.1]⟩:Str)++JD (tx d.1++58::tx d.2.1)=JD (KS d):=bJ (by rw[bj,aW,aW,y0];unfold KS;rw[G4 h];simp)
theorem wd2(d:Hr)(h:¬d.2.2.2=1):Str.empty++((⟨#[lt d.2.2.1]⟩:Str)++JD (tx d.1++58::tx d.2.1))++⟨#[119]⟩++Str.ofString (toString d.2.2.2)=JD (KS d):=bJ (by rw[bj,bj,bj,bj,aW,aW,y0,y0];unfold KS;rw[GS h];show[]++_++_++tx d.2.2.2=_;simp)
theorem rg:∀{W:yah},(∀w∈W,WO w)->(W.map (·.length)).sum<=40*W.length
 |[],_=>M9 _
 |w::r,h=>by
  have a:=(h w M4).l;have b:=rg (W:=r) fun x hx=>h x (Nu _ hx)
  rw[Nj,List.sum_cons,MM];omega
theorem wX{ds:List Hr}(h:∀d∈ds,Np d):((ds.map fun d=>JD (KS d)).map (·.length)).sum<=40*(ds.map fun d=>JD (KS d)).length:=rg fun w hw=>by obtain⟨d,hd,rfl⟩:=Pn.mp hw;exact zw (h d hd)
theorem mU:∀ds:List Hr,dZ (ds.map HX)=true
 |[]=>by rw[Qf,dZ]
 |d::r=>by rw[Nj,dZ,mU r];rfl
theorem uj:∀ds:List Hr,eL 1 (ds.map HX)
 |[]=>.nil 1
 |d::r=>.cons (Oc.tup (.cons (.int 0 _) (.cons (.int 0 _) (.cons (.int 0 _) (.cons (.int 0 _) (.nil 0)))))) (uj r)
theorem Bm(x y:Int):Str.ofString (toString x)++(⟨#[58]⟩:Str)++Str.ofString (toString y)=JD (tx x++58::tx y):=bJ (by rw[bj,bj,aW];show tx x++[58]++tx y=_;simp)
theorem zy{α:Type}(f:α->D)(ds:List α){n:Int}(h:0<=n):PD.cutD (ds.map f) none (some n)=(ds.take n.toNat).map f:=by
 have:=BN f ds n.toNat
 rwa [Int.toNat_of_nonneg h]at this
theorem qq{α:Type}(f:α->D)(ds:List α){n:Int}(h:0<=n):PD.cutD (ds.map f) (some (n+1)) none=(ds.drop (n.toNat+1)).map f:=by
 obtain⟨k,rfl⟩:=Int.eq_ofNat_of_zero_le h;unfold PD.cutD;rw[show((k:Int)+1)=((k+1:Nat):Int)from rfl,HT.oR,HT.ig,Kj,<- List.map_drop,<- List.map_take];congr 1;rw[P9 (by rw[Og];omega)];show _=ds.drop (k+1);rcases Nat.le_total (k+1) ds.length with z|z
 ·rw[Sv z]
 ·rw[Nat.min_eq_right z,List.drop_of_length_le z,List.drop_of_length_le (Ka _)]
inductive av where
 |put (g:Hr)|cut (n:Int)|map (m:yaf)|clear|back
def tI(n:Int):Str:=Str.ofString (toString n)
def av.words:av->yah
 |.put g=>["put", JD (KS g)]
 |.cut n=>["cut", tI n]
 |.map m => "map" :: m.map tI
 |.clear=>["clear"]
 |.back=>["back"]
def av.given:av->yas
 |.put g=>[HX g]
 |.cut n=>[.int n]
 |.map m=>m.map D.int
 |_=>[]
def av.ok:av->Prop
 |.put g=>Np g
 |.cut n=>n.natAbs<100
 |.map m=>m.length=6/\∀x∈m,x.natAbs<10 ^ 12
 |_=>True
def av.row(δ:av):Str:=Str.join ⟨#[32]⟩ δ.words
def MW(m:yaf)(d:Hr):Hr:=(m.getD 0 0*d.1+m.getD 1 0*d.2.1+m.getD 4 0,m.getD 2 0*d.1+m.getD 3 0*d.2.1+m.getD 5 0,d.2.2.1,d.2.2.2)
def bO(d:Hr):Bool:=decide (10 ^ 12<=d.1.natAbs) || decide (10 ^ 12<=d.2.1.natAbs)
def av.code(ds:List Hr)(ps:List (List Hr)):av->Int
 |.put _=>if 30<=ds.length then 1 else 0
 |.cut n=>if n<0∨(ds.length:Int)<=n then 2 else 0
 |.map m=>if m.getD 0 0*m.getD 3 0=m.getD 1 0*m.getD 2 0 then 3 else if(ds.map (MW m)).any bO=true then 1 else 0
 |.clear=>0
 |.back=>if ps=[]then 4 else -1
def av.res(ds:List Hr)(ps:List (List Hr)):av->List Hr
 |.put g=>if 30<=ds.length then ds else ds++[g]
 |.cut n=>if n<0∨(ds.length:Int)<=n then ds else ds.take n.toNat++ds.drop (n.toNat+1)
 |.map m=>if m.getD 0 0*m.getD 3 0=m.getD 1 0*m.getD 2 0 then ds else if(ds.map (MW m)).any bO=true then ds else ds.map (MW m)
 |.clear=>[]
 |.back=>ps.getLastD ds
structure cS(ds:List Hr)(ps:List (List Hr)):Prop where
 l:ds.length<=30
 d:∀d∈ds,Np d
 n:ps.length<=20
 p:∀q∈ps,q.length<=30/\∀d∈q,Np d
theorem D8{s1 s2 s3 s4:DS}{E:c9}{ρ:Ro}(P:Ro->Prop)(h2:∀HG,P HG->s4 E HG)(h1:∀K:Ro->Prop,(∀HG,P HG->K HG)->eg s1 (eg s2 s3) {E with nx:=K} ρ):eg s1 (eg s2 (eg s3 s4)) E ρ:=h1 _ h2
theorem D7{s1 s2 s3:DS}{E:c9}{ρ:Ro}(P:Ro->Prop)(h2:∀HG,P HG->s3 E HG)(h1:∀K:Ro->Prop,(∀HG,P HG->K HG)->eg s1 s2 {E with nx:=K} ρ):eg s1 (eg s2 s3) E ρ:=h1 _ h2
theorem rZ{s1 s2:DS}{E:c9}{ρ:Ro}(P:Ro->Prop)(h2:∀HG,P HG->s2 E HG)(h1:∀K:Ro->Prop,(∀HG,P HG->K HG)->s1 {E with nx:=K} ρ):eg s1 s2 E ρ:=h1 _ h2
theorem ju{xs:yaf}(k:Nat)(h:k<xs.length):KQ (xs.map D.int) (k:Int)=some (.int (xs.getD k 0)):=de (by rw[Of,Sq h,VO,Sq h];rfl)
theorem zI{xs:yaf}(h:∀x∈xs,0<=x/\x<2147483647)(k:Nat):0<=xs.getD k 0/\xs.getD k 0<2147483647:=by
 rw[VO];cases e:xs[k]? with
 |none=>exact⟨by decide,by decide⟩
 |some x=>exact h x (Rq e)
theorem Xf{z:Int}(h:0<=z/\z<2147483647):Bd 64 z:=by
 have e:(2147483647:Nat)<=2 ^ 64:=by decide
 unfold Bd;omega
theorem Ay(ds:List Hr):decide ((0:Int)<((List.map HX (ds.filter bO)).length:Int))=ds.any bO:=by
 rw[Kj];cases e:ds.any bO with
 |true =>
  obtain⟨x,hx,q⟩:=List.any_eq_true.mp e;exact Ni (by have:=List.length_pos_of_mem (List.mem_filter.mpr ⟨hx,q⟩);omega)
 |false =>
  rw[List.filter_eq_nil_iff.mpr fun a ha z=>by have:=List.any_eq_false.mp e a ha;exact this z];rfl
theorem xM{n:Int}{k:Nat}(h1:1<=k)(h:n.natAbs<10 ^ k):(tI n).length<=k+1:=by have:=c8 (n:=n) (k:=k) h1 h;rw[<- ji]at this;exact this
theorem join_1(s a:Str):Str.join s [a]=a:=rfl
theorem oO{a a' w:Str}{r:yah}(h:sgn a'=sgn a++[32]):a'++Str.join ⟨#[32]⟩ (w::r)=Str.join ⟨#[32]⟩ (a::w::r):=bJ (by rw[bj,cY,h,List.append_assoc];rfl)
theorem uw (g:Hr):Str.ofString "put " ++ JD (KS g)=(av.put g).row:=by
 have:=oO (a := "put") (a':=Str.ofString "put ") (w:=JD (KS g)) (r:=[]) (by decide +kernel)
 rwa [join_1]at this
theorem Bc (n:Int):Str.ofString "cut " ++ Str.ofString (toString n)=(av.cut n).row:=by
 have:=oO (a := "cut") (a':=Str.ofString "cut ") (w:=tI n) (r:=[]) (by decide +kernel)
 rwa [join_1]at this
theorem Be {m:yaf} (h:m ≠ []):Str.ofString "map " ++ Str.join ⟨#[32]⟩ (m.map tI)=(av.map m).row:=by
 cases m with
 |nil=>exact absurd rfl h
 |cons a r=>exact oO (by decide +kernel)
theorem F4(g1 g2 g3 g4 g5 g6:DG)(t:Bool)(a b c d e f:D)(ρ:Ro)(Q:Ro->Prop)(h:g1 a ρ fun LY=>g2 b LY fun KR=>g3 c KR fun PB=>g4 d PB fun ρ4=>g5 e ρ4 fun ρ5=>g6 f ρ5 Q):eN 6 (bp g1 (bp g2 (bp g3 (bp g4 (bp g5 (bp g6 gp)))))) (.lst t [a,b,c,d,e,f]) ρ Q:=by refine⟨_,.inr ⟨_,rfl⟩,rfl,?_⟩;simp only[TR,TU];exact h
theorem rY{c:DT}{a s2:DS}{E:c9}{ρ:Ro}(b:Bool)(hc:∀R:Bool->Prop,R b->c ρ R)(h1:b=true->a {E with nx:=s2 E} ρ)(h2:b=false->s2 E ρ):eg (uP c a qr) s2 E ρ:=hc _ (by
 cases b
 ·exact h2 rfl
 ·exact h1 rfl)
theorem qp(xs:yaf):PD.cutD (xs.map D.int) (some 1) none=(xs.drop 1).map D.int:=qq D.int xs (n:=0) (by decide)
abbrev dM(ps:List (List Hr)):yas:=ps.map fun q=>D.lst false (q.map HX)
theorem cO:∀ps:List (List Hr),aC (ps.map fun q=>D.lst false (q.map HX))=ps.map fun q=>D.lst false (q.map HX)
 |[]=>by rw[Qf,aC]
 |q::r=>by rw[Nj,aC,cO r,ax,pU]
theorem wY{ps:List (List Hr)}(h:ps ≠ [])(ds:List Hr):KQ (ps.map fun q=>D.lst false (q.map HX)) (-1)=some (.lst false ((ps.getLastD ds).map HX)):=by
 rcases SU ps with e|⟨r,q,e⟩
 ·exact absurd e h
 ·rw[SR]at e;subst e;rw[OK];have:=yh (r.map fun q=>D.lst false (q.map HX)) (D.lst false (q.map HX));rw[show(r++[q]).getLastD ds=q by simp];exact this
theorem yP(ps:List (List Hr)):okD (.lst false (ps.map fun q=>D.lst false (q.map HX))):=(Oc.lst (n:=2) (eL.of fun d hd=>by obtain⟨q,_,rfl⟩:=Pn.mp hd;exact Oc.lst (uj q))).ok
theorem Aq(ps:List (List Hr)):eqD (.lst false (ps.map fun q=>D.lst false (q.map HX))) (.lst true [])=decide (ps=[]):=by
 cases ps with
 |nil=>rw[Ni rfl,Qf];exact qU _ _ _
 |cons q r =>
  rw[NV (by simp),n6];unfold hU;rw[Nj,cj,cj];rfl
theorem zv{z:Int}(h:z.natAbs<10 ^ 12):WO (tI z):=⟨MH (xM (k:=12) (by decide) h) (by decide),fun m=>by have:=iA (n:=z) m;omega,sC z⟩
theorem zu{m:yaf}(h:∀x∈m,x.natAbs<10 ^ 12):∀w∈m.map tI,WO w:=fun w hw=>by obtain⟨z,hz,rfl⟩:=Pn.mp hw;exact zv (h z hz)
theorem Dt(z:Bool):Oc 1 (.bl z):=⟨by rw[NC]<;>(intros;contradiction),by rw[Km];rfl,by rw[Km,PyData.depth];decide⟩
theorem map_inj{α:Type}{f:α->D}(hf:∀{p q},f p=f q->p=q):∀{ps qs:List α},ps.map f=qs.map f->ps=qs
 |[],[],_=>rfl
 |[],_::_,h=>by simp at h
 |_::_,[],h=>by simp at h
 |p::ps,q::qs,h=>by simp only[Nj,U3]at h;rw[hf h.1,map_inj hf h.2]
theorem Ak{ps qs:List Hr}(h:ps.map HX=qs.map HX):ps=qs:=map_inj tS h
theorem kZ(p:Hr):ax (HX p)=HX p:=rfl
theorem cq(ps:List Hr):aC (ps.map HX)=ps.map HX:=gI HX kZ ps
abbrev M6:=Int×Int×Int×Int×Int×Int
def O2(m:M6):D:=.tup [.int m.1,.int m.2.1,.int m.2.2.1,.int m.2.2.2.1,.int m.2.2.2.2.1,.int m.2.2.2.2.2]
theorem Dk{p q:M6}(h:O2 p=O2 q):p=q:=by unfold O2 at h;simp only[D.tup.injEq,U3,D.int.injEq,and_true]at h;obtain⟨h1,h2,h3,h4,h5,h6⟩:=h;exact Prod.ext h1 (Prod.ext h2 (Prod.ext h3 (Prod.ext h4 (Prod.ext h5 h6))))
theorem zm(m:M6):ax (O2 m)=O2 m:=rfl
def Si:D->Bool
 |.int _=>true
 |_=>false
def Vu:D->Bool
 |.bl _=>true
 |_=>false
theorem EZ (d:D):Oz "int" d=(Si d || Vu d):=by unfold Oz;cases d<;>simp only[Oy,Si,Vu]<;>decide
theorem EY (d:D):Oz "bool" d=Vu d:=by unfold Oz;cases d<;>simp only[Oy,Si,Vu]<;>decide
def within(d:D)(l m:Int):Bool:=match d with
 |.int i=>decide (l<=i) && decide (i<=m)
 |_=>false
abbrev OG(d:D):Bool:=within d (-999999999999) 999999999999
theorem lb{d:D}(h:OG d=true):∃i:Int,d=.int i/\Bd 41 i:=by
 unfold OG within at h;split at h
 ·rename_i i;simp only[N6,decide_eq_true_eq]at h;exact⟨i,rfl,by unfold Bd;omega⟩
 ·cases h
def nI(ys:yas)(k:Nat):Int:=match ys[k]? with
 |some (.int i)=>i
 |_=>0
def dJ(d:D):Bool:=match d with
 |.tup ys=>decide (ys.length=6) && (ys.all OG && decide (nI ys 0*nI ys 3≠nI ys 1*nI ys 2))
 |_=>false
theorem pV:∀ds:yas,aC ds=ds.map ax
 |[]=>by rw[aC];rfl
 |d::r=>by rw[aC,pV r];rfl
theorem AA(d:D):Si (ax d)=Si d:=by cases d<;>(rw[ax]<;>rfl)
theorem j0(d:D)(l m:Int):within (ax d) l m=within d l m:=by cases d<;>(rw[ax]<;>rfl)
theorem Dm(ys:yas)(k:Nat):nI (ys.map ax) k=nI ys k:=by
 unfold nI;rw[Of];cases ys[k]? with
 |none=>rfl
 |some d=>cases d<;>(simp only[Option.map_some];rw[ax]<;>rfl)
theorem rj(d:D):dJ (ax d)=dJ d:=by
 cases d with
 |tup ys =>
  rw[ax,pV];unfold dJ;simp only[Kj,List.all_map,Dm,Function.comp_def,OG,j0]
 |_=>rw[ax]<;>rfl
theorem six{ys:yas}(h:ys.length=6):∃a b c d e f:D,ys=[a,b,c,d,e,f]:=by
 match ys,h with
 |[a,b,c,d,e,f],_=>exact⟨a,b,c,d,e,f,rfl⟩
structure MB(m:M6):Prop where
 a:Bd 41 m.1
 b:Bd 41 m.2.1
 c:Bd 41 m.2.2.1
 d:Bd 41 m.2.2.2.1
 e:Bd 41 m.2.2.2.2.1
 f:Bd 41 m.2.2.2.2.2
 n:m.1*m.2.2.2.1≠m.2.1*m.2.2.1
def inR(i:Int):Bool:=decide (-999999999999<=i) && decide (i<=999999999999)
theorem Eu(i:Int):OG (.int i)=inR i:=rfl
theorem Vv{a b c d e f:D}{k:Int}{i:Nat}(h:ixN 6 k=some i)(R:Nat->Prop):(∃j,ixN ([a,b,c,d,e,f]:yas).length k=some j/\R j)=R i:=by
 apply propext;constructor
 ·rintro⟨j,e,q⟩;have e':ixN 6 k=some j:=e;rw[h]at e';cases e';exact q
 ·intro q;exact⟨i,h,q⟩
theorem E3(a b c d e f:D)(R:Nat->Prop):(∃j,ixN ([a,b,c,d,e,f]:yas).length 0=some j/\R j)=R 0:=Vv rfl R
theorem E4(a b c d e f:D)(R:Nat->Prop):(∃j,ixN ([a,b,c,d,e,f]:yas).length 1=some j/\R j)=R 1:=Vv rfl R
theorem E5(a b c d e f:D)(R:Nat->Prop):(∃j,ixN ([a,b,c,d,e,f]:yas).length 2=some j/\R j)=R 2:=Vv rfl R
theorem E6(a b c d e f:D)(R:Nat->Prop):(∃j,ixN ([a,b,c,d,e,f]:yas).length 3=some j/\R j)=R 3:=Vv rfl R
theorem Ar(t:Bool)(ys:yas)(R:yas->Prop):(∃d k xs,[D.lst t ys]=[d]/\bX d=some (k,xs)/\R xs)=R ys:=by
 apply propext;constructor
 ·rintro⟨d,k,xs,e,h,q⟩;cases e;cases h;exact q
 ·intro q;exact⟨_,_,_,rfl,rfl,q⟩
def sx(m:M6)(x y:Int):Int:=m.1*x+m.2.1*y+m.2.2.2.2.1
def sy(m:M6)(x y:Int):Int:=m.2.2.1*x+m.2.2.2.1*y+m.2.2.2.2.2
def vD(m:M6)(p:Hr):Hr:=(sx m p.1 p.2.1,sy m p.1 p.2.1,p.2.2.1,p.2.2.2)
def gq(m:M6)(p:Hr):Bool:=inR (sx m p.1 p.2.1) && inR (sy m p.1 p.2.1)
def M7 (u t:Str):Option D:=if u = "dot" then(Rh (sgn t)).map HX else if u = "number" then(wN 2 (sgn t)).map D.int else if u = "entry" then(wN 12 (sgn t)).map D.int else none
theorem t8(i:Int):inR i=!decide (10 ^ 12<=i.natAbs):=by
 unfold inR;by_cases h:10 ^ 12<=i.natAbs
 ·rw[Ni h];by_cases h2:-999999999999<=i
  ·rw[Ni h2,NV (by omega)];rfl
  ·rw[NV h2];rfl
 ·rw[NV h,Ni (by omega),Ni (by omega)];rfl
theorem yL(a b c d e f:Int)(p:Hr):gq (a,b,c,d,e,f) p=!bO (MW [a,b,c,d,e,f] p):=by unfold gq bO;rw[t8,t8,Bool.not_or];rfl
theorem ye(a b c d e f:Int)(ds:List Hr):ds.all (gq (a,b,c,d,e,f))=!(ds.map (MW [a,b,c,d,e,f])).any bO:=by rw[List.any_map,List.not_any_eq_all_not];congr 1;exact funext fun p=>yL a b c d e f p
theorem yI{a b c d e f:Int}(h:∀z ∈ [a,b,c,d,e,f],z.natAbs<10 ^ 12):dJ (.tup [.int a,.int b,.int c,.int d,.int e,.int f])=!decide (a*d=b*c):=by
 have ca:∀z ∈ [a,b,c,d,e,f],OG (.int z)=true:=fun z hz=>by have:=h z hz;show(decide (-999999999999<=z) && decide (z<=999999999999))=true;rw[Ni (by omega),Ni (by omega)];rfl
 unfold dJ;dsimp only;rw[show([D.int a,.int b,.int c,.int d,.int e,.int f]:yas).all OG=true from by rw[O5];intro x hx;obtain⟨z,hz,rfl⟩:=Pn.mp (show x ∈ [a,b,c,d,e,f].map D.int from hx);exact ca z hz]
 simp[nI]
def dR:List (Str×yah):=[("put", ["dot"]),("cut", ["number"]),("map", ["entry", "entry", "entry", "entry", "entry", "entry"]),("clear", []),("back", []),("dots", [])]
def k7 (K:yac) (w:World) (mg:yam):Prop:=∃a es,mg "FORMS" = some (.ref a)/\PD.da K w a es/\∀f fs,(f,fs)∈dR->PD.uL K es f fs
structure ql(ws:yah):Prop where
 ne:ws ≠ []
 l:ws.length<=7
 w:∀x∈ws,WO x
def av.nm:av->Str
 |.put _ => "put" | .cut _ => "cut" | .map _ => "map" | .clear => "clear" | .back => "back"
def av.ws:av->yah
 |.put g=>[JD (KS g)]|.cut n=>[tI n]|.map m=>m.map tI|.clear=>[]|.back=>[]
def av.fs:av->yah
 |.put _=>["dot"]|.cut _=>["number"]|.map _=>["entry", "entry", "entry", "entry", "entry", "entry"]|_=>[]
theorem av.P2(δ:av):δ.words=δ.nm::δ.ws:=by cases δ<;>rfl
def av.ML(ds:List Hr)(ps:List (List Hr))(δ:av):List (List Hr) :=
 if δ.code ds ps=0 then(ps++[ds]).drop ((ps.length+1) - 20)else if δ.code ds ps<0 then ps.dropLast else ps
structure x9(f:Str)(fs vs:yah)(gs:yas):Prop where
 i:(f,fs)∈dR
 l:vs.length=fs.length
 r:ql (f::vs)
 t:∀z∈fs.zip vs,TX z.2/\∃d,M7 z.1 z.2=some d
 g:(fs.zip vs).map (fun z=>(M7 z.1 z.2).getD .HZ)=gs
theorem WO.tx{w:Str}(h:WO w):TX w:=⟨by have:=h.l;omega,h.a⟩
theorem vS{w:Str}(h:(decide (w.length<=40) && !(sgn w).contains 32 && (sgn w).all (·<128))=true):WO w:=by simp only[N6,decide_eq_true_eq,Bool.not_eq_true',O5]at h;exact⟨h.1.1,fun m=>(by have:=h.1.2;rw[List.contains_eq_mem,Ni m]at this;cases this),h.2⟩
theorem D4 {g:Hr} (h:Np g):M7 "dot" (JD (KS g))=some (HX g):=by unfold M7;rw[G4 rfl,aW,Fq h];rfl
theorem D5 {n:Int} (h:n.natAbs<100):M7 "number" (tI n)=some (.int n):=by unfold M7;rw[GS (by decide +kernel),G4 rfl,show sgn (tI n)=tx n from rfl,lB (by decide) (by decide) h];rfl
theorem ie {n:Int} (h:n.natAbs<10 ^ 12):M7 "entry" (tI n)=some (.int n):=by unfold M7;rw[GS (by decide +kernel),GS (by decide +kernel),G4 rfl,show sgn (tI n)=tx n from rfl,lB (by decide) (by decide) h];rfl
theorem av.Rj{δ:av}(h:δ.ok):x9 δ.nm δ.fs δ.ws δ.given:=by
 have z:∀{f:Str},f∈(["put", "cut", "map", "clear", "back"]:yah)->WO f:=fun {f} m=>by
  simp only[L0,O7,or_false]at m;rcases m with rfl|rfl|rfl|rfl|rfl<;>exact vS (by decide +kernel)
 have one:∀{f w:Str},f∈(["put", "cut", "map", "clear", "back"]:yah)->WO w->ql [f,w]:=fun {f w} m hw=>⟨by simp,by show 2<=7;decide,fun x hx=>by
  simp only[L0,O7,or_false]at hx;rcases hx with rfl|rfl
  ·exact z m
  ·exact hw⟩
 have nul:∀{f:Str},f∈(["put", "cut", "map", "clear", "back"]:yah)->ql [f]:=fun {f} m=>⟨by simp,by show 1<=7;decide,fun x hx=>by rw[Ss]at hx;rw[hx];exact z m⟩
 match δ,h with
 |.put g,h =>
  have e:=D4 h;exact⟨by unfold dR;exact .head _,rfl,one (.head _) (zw h),fun z hz=>by have QV:z ∈ [(("dot" : Str),JD (KS g))]:=hz;rw[Ss]at QV;subst QV;exact⟨uN h,_,e⟩,by show[(M7 "dot" (JD (KS g))).getD .HZ]=_;rw[e];rfl⟩
 |.cut n,h =>
  have e:=D5 h;have hw:WO (tI n):=zv (Nat.lt_trans h (by decide));exact⟨by unfold dR;exact .tail _ (.head _),rfl,one (.tail _ (.head _)) hw,fun z hz=>by have QV:z ∈ [(("number" : Str),tI n)]:=hz;rw[Ss]at QV;subst QV;exact⟨hw.tx,_,e⟩,by show[(M7 "number" (tI n)).getD .HZ]=_;rw[e];rfl⟩
 |.map [a,b,c,d,e,f],h =>
  have W:=zu h.2;refine⟨by unfold dR;exact .tail _ (.tail _ (.head _)),rfl,⟨by simp,by show 7<=7;decide,fun x hx=>?_⟩,fun y hy=>?_,?_⟩
  ·rcases L0.mp hx with q|q
   ·rw[q];exact z (.tail _ (.tail _ (.head _)))
   ·exact W x q
  ·have RH:y∈([a,b,c,d,e,f].map fun n=>(("entry" : Str),tI n)):=hy;obtain⟨n,hn,rfl⟩:=Pn.mp RH;exact⟨(W _ (Pn.mpr ⟨n,hn,rfl⟩)).tx,_,ie (h.2 n hn)⟩
  ·show[(M7 "entry" (tI a)).getD .HZ,(M7 "entry" (tI b)).getD .HZ,(M7 "entry" (tI c)).getD .HZ,(M7 "entry" (tI d)).getD .HZ,(M7 "entry" (tI e)).getD .HZ,(M7 "entry" (tI f)).getD .HZ]=_;rw[ie (h.2 a (by simp)),ie (h.2 b (by simp)),ie (h.2 c (by simp)),ie (h.2 d (by simp)),ie (h.2 e (by simp)),ie (h.2 f (by simp))];rfl
 |.clear,_=>exact⟨by unfold dR;exact .tail _ (.tail _ (.tail _ (.head _))),rfl,nul (.tail _ (.tail _ (.tail _ (.head _)))),(fun z hz=>(by cases hz)),rfl⟩
 |.back,_=>exact⟨by unfold dR;exact .tail _ (.tail _ (.tail _ (.tail _ (.head _)))),rfl,nul (.tail _ (.tail _ (.tail _ (.tail _ (.head _))))),(fun z hz=>(by cases hz)),rfl⟩
theorem Cp:x9 "dots" [] [] []:=⟨by unfold dR;exact .tail _ (.tail _ (.tail _ (.tail _ (.tail _ (.head _))))),rfl,⟨by simp,by show 1<=7;decide,fun x hx=>by rw[Ss]at hx;rw[hx];exact vS (by decide +kernel)⟩,(fun z hz=>(by cases hz)),rfl⟩
theorem av.P4(δ:av):δ.row=Str.join ⟨#[32]⟩ (δ.nm::δ.ws):=by unfold av.row;rw[δ.P2]
theorem pM{fs vs:yah}{gs:yas}{te:DE}{zi:DA}{ρ:Ro}{Q:D->Prop}(ht:∀z∈fs.zip vs,TX z.2/\∃d,M7 z.1 z.2=some d)(hg:(fs.zip vs).map (fun z=>(M7 z.1 z.2).getD .HZ)=gs)(hl:fs.length<=7)
  (hz:∀R:yas->Prop,R (List.zipWith (fun x y=>D.tup [x,y]) (fs.map D.str) (vs.map D.str))->zi ρ R) (he:∀z∈fs.zip vs,∀R:D->Prop,R ((M7 z.1 z.2).getD .HZ)->te (gJ [.str z.1,.str z.2]++[].map (bh ρ)) R) (q:Q (.lst true gs)) :
  j8 2 zi [] qN te ρ Q:=by
 refine PD.vW (fs.zip vs) (fun z=>[.str z.1,.str z.2]) (fun _=>true) (fun z=>(M7 z.1 z.2).getD .HZ) (fun R r=>hz R ?_) (aB ?_) (fun _=>rfl) (fun z _ R r=>r) (fun z QV _ R r=>he z QV R r) ?_
 ·have e:List.zipWith (fun x y=>D.tup [x,y]) (fs.map D.str) (vs.map D.str)=(fs.zip vs).map fun z=>D.tup [.str z.1,.str z.2]:=by
   rw[List.zip,List.map_zipWith,List.zipWith_map]
  rw[e];exact r
 ·rw[List.length_zip];omega
 ·rw[U2.mpr fun _ _=>rfl,hg];exact q
theorem wG{a b:List Hr}:a.map HX=b.map HX↔a=b:=⟨Ak,fun e=>by rw[e]⟩
theorem wy{a b:Hr}:HX a=HX b↔a=b:=⟨tS,fun e=>by rw[e]⟩
theorem yG{a b:M6}:O2 a=O2 b↔a=b:=⟨Dk,fun e=>by rw[e]⟩
theorem xK{a b:Str}:D.str a=D.str b↔a=b:=⟨str_inj,fun e=>by rw[e]⟩
theorem w5{a b:yaf}:a.map D.int=b.map D.int↔a=b:=⟨sR,fun e=>by rw[e]⟩
local macro_rules | `(tactic| walk_at "p") => `(tactic| (apply propext; constructor; (intro h; repeat (first | (obtain ⟨e, h⟩ := h; revert e; simp only [T3, List.cons.injEq, D.int.injEq, D.tup.injEq, D.lst.injEq, and_true, true_and, and_imp, w5, wG, wy, yG, xK]; intros; subst_vars; assumption) | obtain ⟨_, h⟩ := h)); (intro q; repeat (first | exact ⟨rfl, q⟩ | apply Exists.intro))))
section
variable(κ:Cls)(Q:D->Prop)(Ed:Value->Prop)
abbrev fF(d:D):Prop:=Q (.bl (Si d))
def i4(κ:Cls):DSp:=fun ds Q Ed=>∃(d:D),ds=[d]/\fF Q d
theorem o8 (d:D):i4 κ [d] Q Ed=fF Q d:=by walk_at "p"
abbrev fL(a b:Int):Prop:=Q (T3 1 a b)
def i8(κ:Cls):DSp:=fun ds Q Ed=>∃(a b:Int),ds=[.tup [.int a,.int b]]/\fL Q a b
theorem pj (a b:Int):i8 κ [.tup [.int a,.int b]] Q Ed=fL Q a b:=by walk_at "p"
abbrev eR(d:D)(l:Int)(m:Int):Prop:=Q (.bl (within d l m))
def ir(κ:Cls):DSp:=fun ds Q Ed=>∃(d:D) (l:Int) (m:Int),ds=[d,.int l,.int m]/\eR Q d l m
theorem nr (d:D) (l:Int) (m:Int):ir κ [d,.int l,.int m] Q Ed=eR Q d l m:=by walk_at "p"
abbrev cH(d:D):Prop:=Q (.bl (OG d))
def eB(κ:Cls):DSp:=fun ds Q Ed=>∃(d:D),ds=[d]/\cH Q d
theorem j3 (d:D):eB κ [d] Q Ed=cH Q d:=by walk_at "p"
abbrev gB(p:Hr):Prop:=Q (.tup [.int p.1,.int p.2.1])
def jZ(κ:Cls):DSp:=fun ds Q Ed=>∃(p:Hr),ds=[HX p]/\gB Q p
theorem qj (p:Hr):jZ κ [HX p] Q Ed=gB Q p:=by walk_at "p"
abbrev iD(d:D):Prop:=Q (.bl (dJ d))
def kU(κ:Cls):DSp:=fun ds Q Ed=>∃(d:D),ds=[d]/\iD Q d
theorem sk (d:D):kU κ [d] Q Ed=iD Q d:=by walk_at "p"
abbrev eQ(d:D):Prop:=(dJ d=true/\Q .HZ)∨(dJ d=false/\Ed (.ref κ.NoMap))
def iq(κ:Cls):DSp:=fun ds Q Ed=>∃(d:D),ds=[d]/\eQ κ Q Ed d
theorem nk (d:D):iq κ [d] Q Ed=eQ κ Q Ed d:=by walk_at "p"
abbrev jJ(p0 p1 p2:Int)(m:M6):Prop:=Bd 300 p0/\Bd 300 p1/\Bd 300 p2/\MB m/\Q (T3 p0 (m.1*p1+m.2.1*p2+m.2.2.2.2.1*p0) (m.2.2.1*p1+m.2.2.2.1*p2+m.2.2.2.2.2*p0))
def mn(κ:Cls):DSp:=fun ds Q Ed=>∃(p0 p1 p2:Int) (m:M6),ds=[T3 p0 p1 p2,O2 m]/\jJ Q p0 p1 p2 m
theorem tD (p0 p1 p2:Int) (m:M6):mn κ [T3 p0 p1 p2,O2 m] Q Ed=jJ Q p0 p1 p2 m:=by walk_at "p"
abbrev fO(p:Hr)(m:M6):Prop:=Bd 60 p.1/\Bd 60 p.2.1/\MB m/\((gq m p=true/\Q (HX (vD m p)))∨(gq m p=false/\Ed (.ref κ.NoDots)))
def ja(κ:Cls):DSp:=fun ds Q Ed=>∃(p:Hr) (m:M6),ds=[HX p,O2 m]/\fO κ Q Ed p m
theorem pz (p:Hr) (m:M6):ja κ [HX p,O2 m] Q Ed=fO κ Q Ed p m:=by walk_at "p"
abbrev lx(ps:List Hr)(d:D):Prop:=(dJ d=false/\Ed (.ref κ.NoMap))∨∃ m:M6,d=O2 m/\MB m/\dJ d=true/\ps.length<=60/\(∀p∈ps,Bd 60 p.1/\Bd 60 p.2.1)/\((ps.all (gq m)=true/\Q (.lst true ((ps.map (vD m)).map HX)))∨(ps.all (gq m)=false/\Ed (.ref κ.NoDots)))
def pw(κ:Cls):DSp:=fun ds Q Ed=>∃(ps:List Hr) (d:D),ds=[.lst false (ps.map HX),d]/\lx κ Q Ed ps d
theorem vG (ps:List Hr) (d:D):pw κ [.lst false (ps.map HX),d] Q Ed=lx κ Q Ed ps d:=by walk_at "p"
abbrev fQ(t:Str):Prop:=TX t/\∃n,PySem.intText? t=some n/\Q (.int n)
def jc(κ:Cls):DSp:=fun ds Q Ed=>∃(t:Str),ds=[D.str t]/\fQ Q t
theorem pB (t:Str):jc κ [D.str t] Q Ed=fQ Q t:=by walk_at "p"
abbrev d5(t:Str)(k:Int):Prop:=TX t/\∃m:Nat,k=m/\1<=m/\m<=1000/\match wN m (sgn t)with|some n=>Q (.int n)|none=>False
def gk(κ:Cls):DSp:=fun ds Q Ed=>∃(t:Str) (k:Int),ds=[D.str t,.int k]/\d5 Q t k
theorem mq (t:Str) (k:Int):gk κ [D.str t,.int k] Q Ed=d5 Q t k:=by walk_at "p"
abbrev dG(t:Str):Prop:=TX t/\match(if t.length=1 then col (sgn t)else none)with|some c=>Q (.int c)|none=>False
def fC(κ:Cls):DSp:=fun ds Q Ed=>∃(t:Str),ds=[D.str t]/\dG Q t
theorem lH (t:Str):fC κ [D.str t] Q Ed=dG Q t:=by walk_at "p"
abbrev cI(t:Str)(k:Int):Prop:=TX t/\∃m:Nat,k=m/\1<=m/\m<=1000/\match w2 m (sgn t)with|some n=>Q (.int n)|none=>False
def eE(κ:Cls):DSp:=fun ds Q Ed=>∃(t:Str) (k:Int),ds=[D.str t,.int k]/\cI Q t k
theorem j4 (t:Str) (k:Int):eE κ [D.str t,.int k] Q Ed=cI Q t k:=by walk_at "p"
abbrev fN(t:Str):Prop:=TX t/\match Rh (sgn t)with|some d=>Q (HX d)|none=>False
def i9(κ:Cls):DSp:=fun ds Q Ed=>∃(t:Str),ds=[D.str t]/\fN Q t
theorem pq (t:Str):i9 κ [D.str t] Q Ed=fN Q t:=by walk_at "p"
abbrev eU(x:Int)(y:Int):Prop:=Bd 1000 x/\Bd 1000 y/\Q (.str (JD (tx x++58::tx y)))
def ix(κ:Cls):DSp:=fun ds Q Ed=>∃(x:Int) (y:Int),ds=[.int x,.int y]/\eU Q x y
theorem nB (x:Int) (y:Int):ix κ [.int x,.int y] Q Ed=eU Q x y:=by walk_at "p"
abbrev fP(d:Hr):Prop:=Np d/\Q (.str (JD (KS d)))
def jb(κ:Cls):DSp:=fun ds Q Ed=>∃(d:Hr),ds=[HX d]/\fP Q d
theorem pA (d:Hr):jb κ [HX d] Q Ed=fP Q d:=by walk_at "p"
abbrev eT(d:D):Prop:=∃ds:List Hr,d=.lst false (ds.map HX)/\(∀x∈ds,Np x)/\ds.length<=100/\Q (.str (jn ds))
def iu(κ:Cls):DSp:=fun ds Q Ed=>∃(d:D),ds=[d]/\eT Q d
theorem nA (d:D):iu κ [d] Q Ed=eT Q d:=by walk_at "p"
abbrev m7(d:D)(e:D):Prop:=∃(ds:List Hr) (g:Hr),d=.lst false (ds.map HX)/\e=.lst false [HX g]/\ds.length<=100/\if 30<=ds.length then Ed (.ref κ.NoDots)else Q (.lst true ((ds++[g]).map HX))
def sv(κ:Cls):DSp:=fun ds Q Ed=>∃(d:D) (e:D),ds=[d,e]/\m7 κ Q Ed d e
theorem xJ (d:D) (e:D):sv κ [d,e] Q Ed=m7 κ Q Ed d e:=by walk_at "p"
abbrev m6(d:D)(e:D):Prop:=∃(ds:List Hr) (n:Int),d=.lst false (ds.map HX)/\e=.lst false [.int n]/\ds.length<=100/\if n<0∨(ds.length:Int)<=n then Ed (.ref κ.NoSuch)else Q (.lst true ((ds.take n.toNat++ds.drop (n.toNat+1)).map HX))
def sj(κ:Cls):DSp:=fun ds Q Ed=>∃(d:D) (e:D),ds=[d,e]/\m6 κ Q Ed d e
theorem xI (d:D) (e:D):sj κ [d,e] Q Ed=m6 κ Q Ed d e:=by walk_at "p"
abbrev iE(d:D)(e:D):Prop:=∃(ds:List Hr) (m:yaf),d=.lst false (ds.map HX)/\e=.lst false (m.map D.int)/\(∀x∈ds,Np x)/\ds.length<=30/\m.length=6/\(∀x∈m,x.natAbs<10 ^ 12)/\if m.getD 0 0*m.getD 3 0=m.getD 1 0*m.getD 2 0 then Ed (.ref κ.NoMap)else if(ds.map (MW m)).any bO=true then Ed (.ref κ.NoDots)else Q (.lst true ((ds.map (MW m)).map HX))
def kW(κ:Cls):DSp:=fun ds Q Ed=>∃(d:D) (e:D),ds=[d,e]/\iE κ Q Ed d e
theorem sr (d:D) (e:D):kW κ [d,e] Q Ed=iE κ Q Ed d e:=by walk_at "p"
abbrev gv(d:D)(e:D):Prop:=Q (.lst true [])
def jT(κ:Cls):DSp:=fun ds Q Ed=>∃(d:D) (e:D),ds=[d,e]/\gv Q d e
theorem qc (d:D) (e:D):jT κ [d,e] Q Ed=gv Q d e:=by walk_at "p"
abbrev eX(d:D)(e:D):Prop:=∃ds:List Hr,d=.lst false (ds.map HX)/\(∀x∈ds,Np x)/\ds.length<=100/\Q (.str (jn ds))
def iz(κ:Cls):DSp:=fun ds Q Ed=>∃(d:D) (e:D),ds=[d,e]/\eX Q d e
theorem nF (d:D) (e:D):iz κ [d,e] Q Ed=eX Q d e:=by walk_at "p"
abbrev eS(u:Str)(t:Str):Prop:=TX t/\∃d,M7 u t=some d/\Q d
def cZ(κ:Cls):DSp:=fun ds Q Ed=>∃(u:Str) (t:Str),ds=[D.str u,D.str t]/\eS Q u t
theorem fh (u:Str) (t:Str):cZ κ [D.str u,D.str t] Q Ed=eS Q u t:=by walk_at "p"
abbrev eW(d:D):Prop:=∃(f:Str) (vs fs:yah),d=.str (Str.join ⟨#[32]⟩ (f::vs))/\(f,fs)∈dR/\vs.length=fs.length/\ql (f::vs)/\Q (.lst true ((f::vs).map D.str))
def iy(κ:Cls):DSp:=fun ds Q Ed=>∃(d:D),ds=[d]/\eW Q d
theorem nE (d:D):iy κ [d] Q Ed=eW Q d:=by walk_at "p"
abbrev dz(ns:yaf)(k:Int):Prop:=0<=k/\ns.length<=63/\∀v:Int,Q (.int v)
def fA(κ:Cls):DSp:=fun ds Q Ed=>∃(ns:yaf) (k:Int),ds=[.lst false (ns.map D.int),.int k]/\dz Q ns k
theorem lE (ns:yaf) (k:Int):fA κ [.lst false (ns.map D.int),.int k] Q Ed=dz Q ns k:=by walk_at "p"
abbrev d4(c:Int)(m:Int):Prop:=0<=m/\m<1000/\∀xs:yaf,xs.length=m.toNat->(∀x∈xs,0<=x/\x<2147483647)->Q (.lst true (xs.map D.int))
def gj(κ:Cls):DSp:=fun ds Q Ed=>∃(c:Int) (m:Int),ds=[.int c,.int m]/\d4 Q c m
theorem mm (c:Int) (m:Int):gj κ [.int c,.int m] Q Ed=d4 Q c m:=by walk_at "p"
abbrev gx(d:D)(xs:yaf):Prop:=∃b,d=.bl b/\5<=xs.length/\(∀x∈xs,0<=x/\x<2147483647)/\∀g,Np g->Q (HX g)
def jV(κ:Cls):DSp:=fun ds Q Ed=>∃(d:D) (xs:yaf),ds=[d,.lst false (xs.map D.int)]/\gx Q d xs
theorem qf (d:D) (xs:yaf):jV κ [d,.lst false (xs.map D.int)] Q Ed=gx Q d xs:=by walk_at "p"
abbrev fK(d:Hr):Prop:=Np d/\Q (.str (JD (KS d)))
def i7(κ:Cls):DSp:=fun ds Q Ed=>∃(d:Hr),ds=[HX d]/\fK Q d
theorem ph (d:Hr):i7 κ [HX d] Q Ed=fK Q d:=by walk_at "p"
abbrev fJ(d:D):Prop:=∃ds:List Hr,d=.lst false (ds.map HX)/\(∀x∈ds,Np x)/\ds.length<=100/\Q (.str (jn ds))
def i6(κ:Cls):DSp:=fun ds Q Ed=>∃(d:D),ds=[d]/\fJ Q d
theorem pb (d:D):i6 κ [d] Q Ed=fJ Q d:=by walk_at "p"
abbrev dA(d:D)(xs:yaf):Prop:=∃b:Bool,d=.bl b/\6<=xs.length/\(∀x∈xs,0<=x/\x<2147483647)/\∀m:yaf,m.length=6->(∀x∈m,x.natAbs<10 ^ 12)->Q (.lst true (m.map D.int))
def fB(κ:Cls):DSp:=fun ds Q Ed=>∃(d:D) (xs:yaf),ds=[d,.lst false (xs.map D.int)]/\dA Q d xs
theorem lF (d:D) (xs:yaf):fB κ [d,.lst false (xs.map D.int)] Q Ed=dA Q d xs:=by walk_at "p"
abbrev fH(d:D)(m:yaf):Prop:=∃ds:List Hr,d=.lst false (ds.map HX)/\(∀x∈ds,Np x)/\ds.length<=30/\m.length=6/\(∀x∈m,x.natAbs<10 ^ 12)/\Q (.lst true ((ds.map (MW m)).map HX))
def i5(κ:Cls):DSp:=fun ds Q Ed=>∃(d:D) (m:yaf),ds=[d,.lst false (m.map D.int)]/\fH Q d m
theorem o9 (d:D) (m:yaf):i5 κ [d,.lst false (m.map D.int)] Q Ed=fH Q d m:=by walk_at "p"
abbrev gy(d:D):Prop:=∃ds:List Hr,d=.lst false (ds.map HX)/\ds.length<=30/\Q (.bl (ds.any bO))
def jW(κ:Cls):DSp:=fun ds Q Ed=>∃(d:D),ds=[d]/\gy Q d
theorem qg (d:D):jW κ [d] Q Ed=gy Q d:=by walk_at "p"
abbrev gA(d:D)(e:D)(xs:yaf):Prop:=∃(ds:List Hr) (ps:List (List Hr)) (b:Bool),d=.lst false [.lst false (ds.map HX),.lst false (ps.map fun q=>D.lst false (q.map HX))]/\e=.bl b/\cS ds ps/\5<=xs.length/\(∀x∈xs,0<=x/\x<2147483647)/\∀(δ:av) (c:Bool),δ.ok->Q (.lst true [.str δ.row,.int (δ.code ds ps),.lst c ((δ.res ds ps).map HX)])
def jY(κ:Cls):DSp:=fun ds Q Ed=>∃(d:D) (e:D) (xs:yaf),ds=[d,e,.lst false (xs.map D.int)]/\gA Q d e xs
theorem qi (d:D) (e:D) (xs:yaf):jY κ [d,e,.lst false (xs.map D.int)] Q Ed=gA Q d e xs:=by walk_at "p"
abbrev gw(d:D)(xs:yaf):Prop:=∃(ds:List Hr) (ps:List (List Hr)),d=.lst false [.lst false (ds.map HX),.lst false (ps.map fun q=>D.lst false (q.map HX))]/\cS ds ps/\1<=xs.length/\(∀x∈xs,0<=x/\x<2147483647)/\∀(δ:av) (c:Bool),δ.ok->Q (.lst true [.str δ.row,.int (δ.code ds ps),.lst c ((δ.res ds ps).map HX)])
def jU(κ:Cls):DSp:=fun ds Q Ed=>∃(d:D) (xs:yaf),ds=[d,.lst false (xs.map D.int)]/\gw Q d xs
theorem qe (d:D) (xs:yaf):jU κ [d,.lst false (xs.map D.int)] Q Ed=gw Q d xs:=by walk_at "p"
abbrev gz(d:D)(e:D)(xs:yaf):Prop:=∃(ds:List Hr) (ps:List (List Hr)) (b:Bool),d=.lst false [.lst false (ds.map HX),.lst false (ps.map fun q=>D.lst false (q.map HX))]/\e=.bl b/\cS ds ps/\6<=xs.length/\(∀x∈xs,0<=x/\x<2147483647)/\∀(δ:av) (c:Bool),δ.ok->Q (.lst true [.str δ.row,.int (δ.code ds ps),.lst c ((δ.res ds ps).map HX)])
def jX(κ:Cls):DSp:=fun ds Q Ed=>∃(d:D) (e:D) (xs:yaf),ds=[d,e,.lst false (xs.map D.int)]/\gz Q d e xs
theorem qh (d:D) (e:D) (xs:yaf):jX κ [d,e,.lst false (xs.map D.int)] Q Ed=gz Q d e xs:=by walk_at "p"
abbrev fG(d:D)(e:D)(xs:yaf):Prop:=∃(ds:List Hr) (ps:List (List Hr)) (b:Bool),d=.lst false [.lst false (ds.map HX),.lst false (ps.map fun q=>D.lst false (q.map HX))]/\e=.bl b/\cS ds ps/\7<=xs.length/\(∀x∈xs,0<=x/\x<2147483647)/\∀(δ:av) (c:Bool),δ.ok->Q (.lst true [.str δ.row,.int (δ.code ds ps),.lst c ((δ.res ds ps).map HX)])
def dX(κ:Cls):DSp:=fun ds Q Ed=>∃(d:D) (e:D) (xs:yaf),ds=[d,e,.lst false (xs.map D.int)]/\fG Q d e xs
theorem jo (d:D) (e:D) (xs:yaf):dX κ [d,e,.lst false (xs.map D.int)] Q Ed=fG Q d e xs:=by walk_at "p"
abbrev dE(e:D)(k:Int):Prop:=∃c,e=.exc c/\((c=κ.NoDots/\k=1)∨(c=κ.NoSuch/\k=2)∨(c=κ.NoMap/\k=3)∨(c=κ.TooFew/\k=4))/\Q (.bl true)
def dH(κ:Cls):DSp:=fun ds Q Ed=>∃(e:D) (k:Int),ds=[e,.int k]/\dE κ Q e k
theorem lG (e:D) (k:Int):dH κ [e,.int k] Q Ed=dE κ Q e k:=by walk_at "p"
end
section
variable(P:Program)(w:World)(K:yac)(mg:yam)(base:Heap)(κ:Cls)
abbrev uC:Prop:=Kk P w K mg base "is_whole" 1 ["thing"] (i4 κ)
abbrev uG:Prop:=Kk P w K mg base "place_of" 1 ["spot"] (i8 κ)
abbrev sG:Prop:=Kk P w K mg base "is_within" 2 ["thing", "least", "most"] (ir κ)
abbrev iB:Prop:=Kk P w K mg base "is_coordinate" 3 ["thing"] (eB κ)
abbrev vR:Prop:=Kk P w K mg base "spot_of" 1 ["dot"] (jZ κ)
abbrev xX:Prop:=Kk P w K mg base "is_map" 4 ["thing"] (kU κ)
abbrev sF:Prop:=Kk P w K mg base "check_map" 5 ["by_map"] (iq κ)
abbrev zW:Prop:=Kk P w K mg base "moved" 1 ["place", "by_map"] (mn κ)
abbrev uI:Prop:=Kk P w K mg base "sent_dot" 4 ["dot", "by_map"] (ja κ)
abbrev Bw:Prop:=Kk P w K mg base "sent" 6 ["dots", "by_map"] (pw κ)
abbrev uK:Prop:=Kk P w K mg base "whole_of" 1 ["word"] (jc κ)
abbrev gR:Prop:=Kk P w K mg base "read_whole" 2 ["word", "digits"] (gk κ)
abbrev pZ:Prop:=Kk P w K mg base "read_colour" 1 ["word"] (fC κ)
abbrev my:Prop:=Kk P w K mg base "read_from_two" 3 ["word", "digits"] (eE κ)
abbrev uH:Prop:=Kk P w K mg base "read_dot" 4 ["word"] (i9 κ)
abbrev sI:Prop:=Kk P w K mg base "show_spot" 1 ["x", "y"] (ix κ)
abbrev uJ:Prop:=Kk P w K mg base "show_dot" 2 ["dot"] (jb κ)
abbrev sH:Prop:=Kk P w K mg base "show_dots" 3 ["dots"] (iu κ)
abbrev zq:Prop:=Kk P w K mg base "put" 1 ["dots", "given"] (sv κ)
abbrev zp:Prop:=Kk P w K mg base "cut" 1 ["dots", "given"] (sj κ)
abbrev qD:Prop:=Kk P w K mg base "mapped" 7 ["dots", "given"] (kW κ)
abbrev vL:Prop:=Kk P w K mg base "cleared" 1 ["dots", "given"] (jT κ)
abbrev sJ:Prop:=Kk P w K mg base "tell_dots" 4 ["dots", "given"] (iz κ)
abbrev lJ:Prop:=Kk P w K mg base "read_word" 5 ["form", "word"] (cZ κ)
abbrev lK:Prop:=Kk P w K mg base "split_row" 1 ["row"] (iy κ)
abbrev pW:Prop:=Kk P w K mg base "_law_cell_at" 1 ["_law_script", "_law_k"] (fA κ)
abbrev qC:Prop:=Kk P w K mg base "_law_stream" 1 ["_law_cell", "_law_many"] (gj κ)
abbrev vN:Prop:=Kk P w K mg base "_law_dot" 1 ["_law_near", "_law_xs"] (jV κ)
abbrev mw:Prop:=Kk P w K mg base "_law_word" 1 ["_law_dot_here"] (i7 κ)
abbrev uF:Prop:=Kk P w K mg base "_law_text" 2 ["_law_dots"] (i6 κ)
abbrev pX:Prop:=Kk P w K mg base "_law_entries" 1 ["_law_near", "_law_xs"] (fB κ)
abbrev uE:Prop:=Kk P w K mg base "_law_sent" 1 ["_law_dots", "_law_row"] (i5 κ)
abbrev vO:Prop:=Kk P w K mg base "_law_far" 1 ["_law_dots"] (jW κ)
abbrev vQ:Prop:=Kk P w K mg base "_law_put" 2 ["_law_state", "_law_near", "_law_xs"] (jY κ)
abbrev vM:Prop:=Kk P w K mg base "_law_cut" 1 ["_law_state", "_law_xs"] (jU κ)
abbrev vP:Prop:=Kk P w K mg base "_law_map" 2 ["_law_state", "_law_near", "_law_xs"] (jX κ)
abbrev uD:Prop:=Kk P w K mg base "_law_deed" 3 ["_law_state", "_law_near", "_law_xs"] (dX κ)
abbrev pY:Prop:=Kk P w K mg base "_law_refused" 1 ["_law_caught", "_law_way"] (dH κ)
end
local macro_rules | `(tactic| walk_at "l") => `(tactic| (intro ds Q E h; repeat (first | (cases h.1; rfl) | refine Exists.elim h fun _ h => ?_)))
section
variable{P:Program}{w:World}{K:yac}{mg:yam}{base:Heap}{κ:Cls}{f:Addr}{fd:FuncData}
theorem Gr(x:Str)(N:yah)(d:D)(ds:yas):bY (x::N) (d::ds)=some (.val d)::bY N ds:=rfl
theorem Gu(x:Str)(N:yah):bY (x::N) []=none::bY N []:=rfl
theorem Gs:bY [] []=[]:=rfl
local macro_rules | `(tactic| walk_at "s") => `(tactic| simp only [Gr, Gu, Gs])
local macro_rules | `(tactic| walk_at "x") => `(tactic| try simp only [eg, qr, uS, uQ, zA, uP, Ox, dB, BQ, dOr, B4, mC, FQ, zD, dIf, B2, dC, cQ, gY, Cf, B0, jx, RM, Wc, Cg, Ci, Fs, Ft, A6, yV, yU, D3, CY, yN, AQ, yO, AR, tT, wH, Cu, CZ, zB, B5, tJ, tK, Aw, Ax, qN, CJ, CL, CK, List.map_cons, List.map_nil, gd3, FZ, F0, pS, zk, xT, pT, xR, xU, xS, b9, aT, cu, rx0, rx1, rx2, rx3, lx0, lx1, lx2, lx3, Es, Dj, Dh, Di, DH, DI, ET, Cv, As, Vg, TQ, at2, at3, List.cons_append, List.nil_append, AF, AG, DJ, uc, wW, AD, wV, AB, uX, wR, wU, wQ, wO, true_and, BY, FV, qO, BP, Bq, wM, false_and, and_false, false_or, or_false, exists_false, EF, EE, uR, Ba, A9, A8, kr, BR, FR, gd2, Bool.false_eq_true, Bool.true_eq_false, if_false, if_true, decide_eq_true_eq, Bool.not_eq_eq_eq_not, Bool.not_true, Bool.not_false, decide_eq_false_iff_not, ite_not, BA, BE, BB, CS, CT, AS, AU, BU, Cw, FP, Ew, B6, Cq, ES, EH, Ce, Cc, B3, Ca, FT, EG, zE, gK, BS, EB, EC, wb, CC, CF, Bg, Bh, El, Eo, Em, Ep, zY, yb, yc, FW, vZ, v5, C0, FU, B8, Cn, EN, Cd, Ag, B9, Ae, CA, CB, CN, CO, vF, E7, E8, Gd, Ge, List.set_cons_zero, List.set_cons_succ, Ab, B7, ED, Ez, Cy, Cz, EV, Ex, BV, EK, Af, Co, ER, EL, Ac, o8, pj, nr, j3, qj, sk, nk, tD, pz, vG, pB, mq, lH, j4, pq, nB, pA, nA, xJ, xI, sr, qc, nF, fh, nE, lE, mm, qf, ph, pb, lF, o9, qg, qi, qe, qh, jo, lG, fF, fL, eR, cH, gB, iD, eQ, jJ, fO, lx, fQ, d5, dG, cI, fN, eU, fP, eT, m7, m6, iE, gv, eX, eS, eW, dz, d4, gx, fK, fJ, dA, fH, gy, gA, gw, gz, fG, dE, Cb, SJ, BW, zH, wu, Uu, vp, BZ, Ey, EJ, tU, E2, FX, EU, Br, xu, rJoin, xt, EI, EA, cq, kZ, zm, E3, E4, E5, E6, Ar, cO, tL]; try simp only [yX, yW])
theorem sS (F:aw K "is_whole" "is_whole" jL f fd) (C:Kc K mg κ)   (KD:mg "bool" = none) (KO:mg "int" = none) (GQ:mg "isinstance" = none):az P w K mg base (CX1 P w) 1 f fd ["thing"] (aJ K (i4 κ)):=by
 refine aw.okN F tj (by walk_at "l") fun _ _ _ _ _ _ hr=>⟨_,(ao (aA (gZ (eF (by rfl) GQ (by rfl) KO boot_int (.inl rfl) (dv 0)) (je (Cj (eF (by rfl) GQ (by rfl) KD boot_bool (.inr (.inl rfl)) (dv 0))))))),?_⟩
 rintro ds Q Ed ⟨d,rfl,h⟩;walk_at "s";unfold fF at h;walk_at "x";rw[EZ,EY];cases d<;>exact h
theorem sX (F:aw K "place_of" "place_of" jO f fd) (C:Kc K mg κ)    : az P w K mg base (CX1 P w) 1 f fd ["spot"] (aJ K (i8 κ)):=by
 refine aw.okN F tu (by walk_at "l") fun _ _ _ _ _ _ hr=>⟨_,(ao (aA (hG (aa ae (aa (aq (dv 0) ae) (aa (aq (dv 0) ae) ah)))))),?_⟩
 rintro ds Q Ed ⟨a,b,rfl,h⟩;walk_at "s";unfold fL at h;walk_at "x";exact⟨sz3 _ _ _,h⟩
theorem rz (F:aw K "is_within" "is_within" iR f fd) (C:Kc K mg κ)  (Lx:uC P w K mg base κ)  : az P w K mg base (CX1 P w) 2 f fd ["thing", "least", "most"] (aJ K (ir κ)):=by
 refine aw.okN F rS (by walk_at "l") fun _ _ _ _ _ _ hr=>⟨_,(ao (aA (gZ (aI Lx hr (aa (dv 0) ah)) (je (yn zM zM (dv 1) (dv 0) (dv 2)))))),?_⟩
 rintro ds Q Ed ⟨d,l,m,rfl,h⟩;walk_at "s";unfold eR at h;walk_at "x";rw[AA];cases d with
 |int i =>
  walk_at "x";have e:within (.int i) l m=(decide (l<=i) && decide (i<=m)):=rfl;rw[e]at h;rw[G4 (show Si (.int i)=true from rfl)];by_cases z:l<=i
  ·rw[G4 z];rw[Ni z,Sw]at h;exact h
  ·rw[GS z];rw[NV z,S8]at h;exact h
 |HZ=>exact h
 |bl b=>exact h
 |str x=>exact h
 |tup ds=>exact h
 |lst t ds=>exact h
 |exc c=>exact h
 |obj _ _ _=>exact h
 |MQ=>exact h
 |MD _ _=>exact h
theorem l9 (F:aw K "is_coordinate" "is_coordinate" eZ f fd) (C:Kc K mg κ)  (K0:sG P w K mg base κ)  : az P w K mg base (CX1 P w) 3 f fd ["thing"] (aJ K (eB κ)):=by
 refine aw.okN F mj (by walk_at "l") fun _ _ _ _ _ _ hr=>⟨_,(ao (aA (aI K0 hr (aa (dv 0) (aa (qQ (cU C.Hh)) (aa (cU C.Hh) ah)))))),?_⟩
 rintro ds Q Ed ⟨d,rfl,h⟩;walk_at "s";unfold cH at h;walk_at "x";rw[j0];exact h
theorem vi (F:aw K "spot_of" "spot_of" kP f fd) (C:Kc K mg κ)    : az P w K mg base (CX1 P w) 1 f fd ["dot"] (aJ K (jZ κ)):=by
 refine aw.okN F vC (by walk_at "l") fun _ _ _ _ _ _ hr=>⟨_,(ao (aA (hG (aa (aq (dv 0) ae) (aa (aq (dv 0) ae) ah))))),?_⟩
 rintro ds Q Ed ⟨p,rfl,h⟩;walk_at "s";unfold gB at h;unfold HX;walk_at "x";exact⟨sz2 _ _,h⟩
theorem xf (F:aw K "is_map" "is_map" jK f fd) (C:Kc K mg κ)  (IX:iB P w K mg base κ) (Mb:mg "all" = none) (GQ:mg "isinstance" = none) (GZ:mg "len" = none) (JF:mg "tuple" = none):az P w K mg base (CX1 P w) 4 f fd ["thing"] (aJ K (kU κ)):=by
 refine aw.okN F xC (by walk_at "l") fun _ _ _ _ _ _ hr=>⟨_,(ak (aV (NB.pt (lp (fV (dP (eF (by rfl) GQ (by rfl) JF boot_tuple (.inr (.inr (.inl rfl))) (dv 0)))) (jh (aH kB (bg cA (by rfl) GZ NW (aa (dv 0) ah)) ae)))) (ao (aA zG)) aL) (ak (aV (fV (dP (bg (BI rfl) (by rfl) Mb boot_all (aa (fq (by rfl) (by exact cL (osc:=ai jK) (xs:=["number"]) (ns:=[]) (by decide +kernel)) bE.nil (CP (dv 0)) (fun _ _ _ _ _=>fi) (fun _ _ _ _ _=>(aI IX hr (aa (dv 0) ah)))) ah)))) (ao (aA zG)) aL) (ao (aA (eM kB (ar bq (aq (dv 0) ae) (aq (dv 0) ae)) (ar bq (aq (dv 0) ae) (aq (dv 0) ae))))))),?_⟩
 rintro ds Q Ed ⟨d,rfl,h⟩;walk_at "s";unfold iD at h;walk_at "x";cases d with
 |tup ys =>
  rw[GS (by rw[uc];simp)];walk_at "x";by_cases h6:ys.length=6
  ·rw[G4 (by rw[h6];rfl)];refine PD.comp_map ys id (fun _=>true) (fun y=>.bl (OG y)) (fun R q=>?_) (by rw[N7];omega) (fun y hy K hk=>?_) (fun y hy _ K hk=>?_) ?_
   ·walk_at "x";rw[List.map_id]at q;exact q
   ·walk_at "x";exact hk
   ·walk_at "x";have e:OG (ax (id y))=OG y:=j0 y _ _;rw[e];exact hk
   ·refine⟨true,ys.map OG,by rw[U2.mpr (fun _ _=>rfl),Rz];rfl,?_⟩;have ea:(ys.map OG).all id=ys.all OG:=by rw[List.all_map];rfl
    rw[ea];by_cases MP:ys.all OG=true
    ·rw[GS (by rw[MP];simp)];have hb:=O5.mp MP;obtain⟨a,b,c,d,e,f,rfl⟩:=six h6;obtain⟨a,rfl,ba⟩:=lb (hb a (by simp));obtain⟨b,rfl,bb⟩:=lb (hb b (by simp));obtain⟨c,rfl,bc⟩:=lb (hb c (by simp));obtain⟨d,rfl,bd⟩:=lb (hb d (by simp));walk_at "x";refine⟨.inl (ba.mono (by decide)),.inl (bb.mono (by decide)),?_⟩;have em:dJ (.tup [.int a,.int b,.int c,.int d,e,f])=!decide (a*d=b*c):=by
      unfold dJ;simp only[MP,Sw];simp[nI]
     rw[em]at h;exact h
    ·rw[G4 (by simpa using MP)];have em:dJ (.tup ys)=false:=by
      unfold dJ;simp only[Bool.eq_false_iff.mpr MP,S8,Bool.and_false]
     rw[em]at h;exact h
  ·rw[GS (by omega)];have em:dJ (.tup ys)=false:=by
    unfold dJ;simp only[NV h6,S8]
   rw[em]at h;exact h
 |HZ=>exact h
 |bl b=>exact h
 |str x=>exact h
 |int i=>exact h
 |lst t ds=>exact h
 |exc c=>exact h
 |obj _ _ _=>exact h
 |MQ=>exact h
 |MD _ _=>exact h
theorem rq (F:aw K "check_map" "check_map" iQ f fd) (C:Kc K mg κ)  (MX:xX P w K mg base κ)  : az P w K mg base (CX1 P w) 5 f fd ["by_map"] (aJ K (iq κ)):=by
 refine aw.OC F rR (by walk_at "l") fun _ _ _ _ _ _ Ed hr pm px hx=>⟨_,(ao (aV (fV (dP (aI MX hr (aa (dv 0) ah)))) (ao (bQ pm (by rfl) C.J1 C.JX rfl (aa aK ah))) aL)),?_⟩
 rintro ds Q ⟨d,rfl,h⟩;walk_at "s";unfold eQ at h;walk_at "x";rw[rj];rcases h with⟨e,h⟩| ⟨e,h⟩
 ·rw[GS (by rw[e];simp)];exact h
 ·rw[G4 e];exact⟨PH _,h⟩
theorem yQ (F:aw K "moved" "moved" oS f fd) (C:Kc K mg κ)    : az P w K mg base (CX1 P w) 1 f fd ["place", "by_map"] (aJ K (mn κ)):=by
 refine aw.okN F ml (by walk_at "l") fun _ _ _ _ _ _ hr=>⟨_,(ak (aO 2 ml.nd (ar aU (ar aU (ar bq (aq (dv 1) ae) (aq (dv 0) ae)) (ar bq (aq (dv 1) ae) (aq (dv 0) ae))) (ar bq (aq (dv 1) ae) (aq (dv 0) ae)))) (ak (aO 3 ml.nd (ar aU (ar aU (ar bq (aq (dv 1) ae) (aq (dv 0) ae)) (ar bq (aq (dv 1) ae) (aq (dv 0) ae))) (ar bq (aq (dv 1) ae) (aq (dv 0) ae)))) (ao (aA (hG (aa (aq (dv 0) ae) (aa (dv 2) (aa (dv 3) ah)))))))),?_⟩
 rintro ds Q Ed ⟨p0,p1,p2,m,rfl,h⟩;walk_at "s";unfold jJ at h;obtain⟨h0,h1,h2,M,h⟩:=h;unfold O2;walk_at "x";have cm:∀{x y:Int},Bd 41 x->CM x y:=fun hx=>.inl (hx.mono (by decide))
 refine⟨cm M.a,cm M.b,_,de (j:=4) rfl,?_⟩;walk_at "x";refine⟨cm M.e,cm M.c,cm M.d,_,de (j:=5) rfl,?_⟩;walk_at "x";exact⟨cm M.f,sz3 _ _ _,h⟩
theorem sZ (F:aw K "sent_dot" "sent_dot" jQ f fd) (C:Kc K mg κ)  (IX:iB P w K mg base κ) (NL:zW P w K mg base κ) (Ly:uG P w K mg base κ) (Mg:vR P w K mg base κ)  : az P w K mg base (CX1 P w) 4 f fd ["dot", "by_map"] (aJ K (ja κ)):=by
 refine aw.OC F lP (by walk_at "l") fun _ _ _ _ _ _ Ed hr pm px hx=>⟨_,(ak (aO 2 lP.nd (aI NL hr (aa (aI Ly hr (aa (aI Mg hr (aa (dv 0) ah)) ah)) (aa (dv 1) ah)))) (ak (aV (NB.pt (lp (fV (dP (aI IX hr (aa (aq (dv 2) ae) ah)))) (jh (fV (dP (aI IX hr (aa (aq (dv 2) ae) ah))))))) (ao (bQ pm (by rfl) C.JB C.Jz rfl (aa aK ah))) aL) (ao (aA (hG (aa (aq (dv 2) ae) (aa (aq (dv 2) ae) (aa (aq (dv 0) ae) (aa (aq (dv 0) ae) ah))))))))),?_⟩
 rintro ds Q ⟨p,m,rfl,h⟩;walk_at "s";unfold fO at h;obtain⟨hx,hy,M,h⟩:=h;walk_at "x";have e1:m.1*p.1+m.2.1*p.2.1+m.2.2.2.2.1*1=sx m p.1 p.2.1:=by unfold sx;omega
 have e2:m.2.2.1*p.1+m.2.2.2.1*p.2.1+m.2.2.2.2.2*1=sy m p.1 p.2.1:=by unfold sy;omega
 refine⟨Bd.mono (m:=2) (by unfold Bd;decide) (by decide),hx.mono (by decide),hy.mono (by decide),M,?_⟩;simp only[e1,e2,Eu];unfold gq at h;rcases h with⟨hn,h⟩| ⟨hn,h⟩
 ·rw[N6]at hn;rw[GS (by rw[hn.1];simp),GS (by rw[hn.2];simp)];unfold HX;walk_at "x";exact⟨sz4 _ _ _ _,h⟩
 ·by_cases z:inR (sx m p.1 p.2.1)=false
  ·rw[G4 z];exact⟨PH _,h⟩
  ·rw[GS z,G4 (by
    have z':inR (sx m p.1 p.2.1)=true:=by simpa using z
    rw[z',Sw]at hn;exact hn)]
   exact⟨PH _,h⟩
theorem AV (F:aw K "sent" "sent" ng f fd) (C:Kc K mg κ)  (K1:sF P w K mg base κ) (Lz:uI P w K mg base κ)  : az P w K mg base (CX1 P w) 6 f fd ["dots", "by_map"] (aJ K (pw κ)):=by
 refine aw.OC F Bf (by walk_at "l") fun _ _ _ _ _ _ Ed hr pm px hx=>⟨_,(ak (nZ (cg px K1 (hr.mono (by decide)) (aa (dv 1) ah))) (ao (aA (yo hx (by rfl) (by exact cL (osc:=ai ng) (xs:=["dot"]) (ns:=["by_map"]) (by decide +kernel)) (bE.cons 1 bE.nil) (gN (dv 0)) (fun _ _ _ _ _ px=>fi) (fun _ _ _ _ _ px=>(cg px Lz (hr.mono (by decide)) (aa (dv 0) (aa (dv 1) ah)))))))),?_⟩
 rintro ds Q ⟨ps,d,rfl,h⟩;walk_at "s";unfold lx at h;walk_at "x";rw[rj];rcases h with⟨e,h⟩| ⟨m,rfl,M,e,hl,hb,h⟩
 ·exact .inr ⟨e,h⟩
 ·refine .inl ⟨e,?_⟩;refine PD.j7 ps HX (gq m) (fun p=>HX (vD m p)) (fun R q=>?_) (by rw[N7];omega) (fun p hp hn K hk=>?_) (fun p hp hn K=>?_) (fun MP=>?_)
  ·walk_at "x";exact q
  ·walk_at "x";exact⟨(hb p hp).1,(hb p hp).2,M,.inl ⟨hn,hk⟩⟩
  ·walk_at "x";refine⟨(hb p hp).1,(hb p hp).2,M,.inr ⟨hn,?_⟩⟩;rcases h with⟨ha,_⟩| ⟨_,h⟩
   ·rw[O5]at ha;rw[ha p hp]at hn;cases hn
   ·exact h
  ·rcases h with⟨_,h⟩| ⟨ha,_⟩
   ·rw[Rz]at h;exact h
   ·rw[MP]at ha;cases ha
theorem tf (F:aw K "whole_of" "whole_of" jS f fd) (C:Kc K mg κ)   (KO:mg "int" = none):az P w K mg base (CX1 P w) 1 f fd ["word"] (aJ K (jc κ)):=by
 refine aw.okN F tw (by walk_at "l") fun _ _ _ _ _ _ hr=>⟨_,(ao (wC (bu zZ (by rfl) KO boot_int (aa (dv 0) ah)))),?_⟩
 rintro ds Q Ed ⟨t,rfl,h⟩;walk_at "s";unfold fQ at h;obtain⟨T,n,e,h⟩:=h;walk_at "x";exact⟨t,n,rfl,e,by have:=T.l;omega,h⟩
theorem qb (F:aw K "read_whole" "read_whole" ik f fd) (C:Kc K mg κ)  (LA:uK P w K mg base κ) (Ky:mg "abs" = none) (GZ:mg "len" = none) (HY:mg "str" = none):az P w K mg base (CX1 P w) 2 f fd ["word", "digits"] (aJ K (gk κ)):=by
 refine aw.OC F j1 (by walk_at "l") fun _ _ _ _ _ _ Ed hr pm px hx=>⟨_,(ak (aO 2 j1.nd (aI LA hr (aa (dv 0) ah))) (ak (aV (aH (Fe (by exact hr.units)) (bu cT (by rfl) HY OL (aa (dv 2) ah)) (dv 0)) (ao (bQ pm (by rfl) C.Ju C.Jt rfl (aa aK ah))) aL) (ak (aV (aH qz (bg tH (by rfl) GZ NW (aa (bu cT (by rfl) HY OL (aa (bg qJ (by rfl) Ky boot_abs (aa (dv 2) ah)) ah)) ah)) (dv 1)) (ao (bQ pm (by rfl) C.Ju C.Jt rfl (aa aK ah))) aL) (ao (aA (dv 2)))))),?_⟩
 rintro ds Q ⟨t,k,rfl,h⟩;walk_at "s";unfold d5 at h;obtain⟨T,m,rfl,m1,m9,h⟩:=h;walk_at "x";refine⟨T,?_⟩;cases q:PySem.intText? t with
 |none =>
  have e:wN m (sgn t)=none:=by
   unfold wN;split
   ·rw[jj];exact q
   ·rfl
  rw[e]at h;exact h.elim
 |some n =>
  refine⟨n,rfl,?_⟩;have bn:=Er T q;have hb:Bd 1000 ((n.natAbs:Nat):Int):=bn;refine⟨lg bn,cR (sC n),cR T.a,?_⟩;by_cases e:Str.ofString (toString n)=t
  ·rw[GS (by rw[e];simp)];have e1:tx n=sgn t:=by unfold tx;rw[e]
   refine⟨lg hb,aB (by rw[ji];have:=rh hb;omega),?_⟩;rw[ji,gc];by_cases z:n.natAbs<10 ^ m
   ·rw[GS (by have:=(uT m1).mpr z;omega)];rw[<- e1,lB m1 m9 z]at h;exact h
   ·rw[G4 (by have:=mt (uT m1).mp z;omega)];rw[<- e1,Eg (by rw[qY m1];exact NV z)]at h;exact h.elim
  ·rw[G4 (by simpa using e)];have e2:wN m (sgn t)=none:=by
    cases w:wN m (sgn t)with
    |none=>rfl
    |some m' =>
     have i1:=Ef w;rw[jj,q]at i1;injection i1 with i1;subst i1;exact absurd (bJ (Bs m1 m9 w).2.1) e
   rw[e2]at h;exact h.elim
theorem oB (F:aw K "read_colour" "read_colour" gi f fd) (C:Kc K mg κ)   (GZ:mg "len" = none):az P w K mg base (CX1 P w) 1 f fd ["word"] (aJ K (fC κ)):=by
 refine aw.OC F oX (by walk_at "l") fun _ _ _ _ _ _ Ed hr pm px hx=>⟨_,(ak (aV (NB.pt (lp (aH kB (bg tH (by rfl) GZ NW (aa (dv 0) ah)) ae) (jh (aH xb (dv 0) (lU C.Jw))))) (ao (bQ pm (by rfl) C.Ju C.Jt rfl (aa aK ah))) aL) (ao (aA (yr (lU C.Jw) (aa (dv 0) ah))))),?_⟩
 rintro ds Q ⟨t,rfl,h⟩;walk_at "s";unfold dG at h;obtain⟨T,h⟩:=h;walk_at "x";refine⟨aB (by have:=T.l;omega),?_⟩;by_cases l:t.length=1
 ·rw[G4 (by omega)];rw[G4 l]at h;obtain⟨c,rfl⟩:=Dx l;rw[F9];rcases u9 (Str.ofString "abc") c with⟨h1,h2⟩| ⟨a,b,r,h1,h2⟩
  ·rw[h1];show if(false=false)then _ else _
   rw[G4 rfl];rw[vq]at h1;rw[show col (sgn ⟨#[c]⟩)=none from BL h1]at h;exact h.elim
  ·rw[h1,GS (by simp)];rw[vq]at h1;rw[show col (sgn ⟨#[c]⟩)=some (a.length:Int)from Aa h1]at h;exact⟨_,r,h2,h⟩
 ·rw[GS (by omega)];rw[GS l]at h;exact h.elim
theorem ma (F:aw K "read_from_two" "read_from_two" fc f fd) (C:Kc K mg κ)  (IB:gR P w K mg base κ)  : az P w K mg base (CX1 P w) 3 f fd ["word", "digits"] (aJ K (eE κ)):=by
 refine aw.OC F ip (by walk_at "l") fun _ _ _ _ _ _ Ed hr pm px hx=>⟨_,(ak (aO 2 ip.nd (cg px IB (hr.mono (by decide)) (aa (dv 0) (aa (dv 1) ah)))) (ak (aV (aH jE (dv 2) ae) (ao (bQ pm (by rfl) C.Ju C.Jt rfl (aa aK ah))) aL) (ao (aA (dv 2))))),?_⟩
 rintro ds Q ⟨t,k,rfl,h⟩;walk_at "s";unfold cI at h;obtain⟨T,m,rfl,m1,m9,h⟩:=h;walk_at "x";refine⟨T,m,rfl,m1,m9,?_⟩;unfold w2 at h;cases q:wN m (sgn t)with
 |none=>rw[q]at h;exact h
 |some n =>
  rw[q]at h;dsimp only at h ⊢;by_cases z:n<2
  ·rw[G4 z]at h ⊢;exact h.elim
  ·rw[GS z]at h ⊢;exact h
theorem sY (F:aw K "read_dot" "read_dot" jP f fd) (C:Kc K mg κ)  (Ko:pZ P w K mg base κ) (J3:my P w K mg base κ) (IB:gR P w K mg base κ)  : az P w K mg base (CX1 P w) 4 f fd ["word"] (aJ K (i9 κ)):=by
 refine aw.OC F iY (by walk_at "l") fun _ _ _ _ _ _ Ed hr pm px hx=>⟨_,(ak (aO 1 iY.nd (tN (wm (dv 0) (bI ae) bP) (aa aK ah))) (ak (aO 2 iY.nd (tN (aq (dv 1) ae) (aa aK ah))) (ao (aA (hG (aa (cg px IB (hr.mono (by decide)) (aa (aq (dv 1) ae) (aa (cU C.GR) ah))) (aa (cg px IB (hr.mono (by decide)) (aa (aq (dv 2) ae) (aa (cU C.GR) ah))) (aa (cg px Ko (hr.mono (by decide)) (aa (wm (dv 0) bP (bI ae)) ah)) (aa (lV (aH (eP (by exact hr.units)) (aq (dv 2) ae) aK) (cg px J3 (hr.mono (by decide)) (aa (aq (dv 2) ae) (aa (cU C.Ho) ah))) ae) ah))))))))),?_⟩
 rintro ds Q ⟨t,rfl,h⟩;walk_at "s";unfold fN at h;obtain⟨T,h⟩:=h;walk_at "x";have Tt:=T.tail;rw[BJ,zh,nS,Xd,uo,aW];obtain⟨t1,t2⟩:=Tt.sp 58;rw[aW]at t1 t2;walk_at "x";refine⟨aB (by have:=T.l;omega),rfl,aB (by have:=Tt.l;omega),rfl,aB (by have:=t2.l;omega),t1,12,rfl,by decide,by decide,?_⟩;unfold Rh at h;rw[aW];cases w1:wN 12 (Ng 58 (sgn t).tail).1 with
 |none=>rw[w1]at h;exact h
 |some x =>
  rw[w1]at h;dsimp only at h ⊢;rw[uo,aW];obtain⟨u1,u2⟩:=t2.sp 119;rw[aW]at u1 u2;walk_at "x";refine⟨u1,12,rfl,by decide,by decide,?_⟩;rw[aW];rw[GF]at h;cases w2':wN 12 (Ng 119 (Ng 58 (sgn t).tail).2).1 with
  |none=>rw[w2']at h;exact h
  |some y =>
   rw[w2']at h;dsimp only at h ⊢;refine⟨aB (by have:=T.l;omega),by rw[qX];exact T.head,?_⟩;cases cc:col (sgn t)with
   |none=>rw[cc]at h;exact h
   |some c =>
    rw[cc]at h;dsimp only at h ⊢;unfold P1 at h;cases q:aY 119 (Ng 58 (sgn t).tail).2 with
    |none =>
     rw[q]at h;walk_at "x";refine⟨cR (x:=Str.empty) (fun c hc=>by cases hc),cR (uO (by decide)),?_⟩;show if((Str.empty:Str)==(⟨#[119]⟩:Str))=true then _ else _
     rw[Am,GS (by simp)];exact⟨vH _ _ _ _,h⟩
    |some p =>
     rw[q]at h;walk_at "x";refine⟨cR (uO (by decide)),cR (uO (by decide)),?_⟩;show if((⟨#[119]⟩:Str)==(⟨#[119]⟩:Str))=true then _ else _
     rw[G4 (by simp)];refine⟨u2,9,rfl,by decide,by decide,?_⟩;have e2:(Ng 119 (Ng 58 (sgn t).tail).2).2=p.2:=by
      show(match aY 119 (Ng 58 (sgn t).tail).2 with|none=>((Ng 58 (sgn t).tail).2,[])|some p=>p:yag×yag).2=p.2;rw[q]
     rw[aW,e2];dsimp only[Vt]at h;cases w9:w2 9 p.2 with
     |none=>rw[w9]at h;exact h
     |some n=>rw[w9]at h;exact⟨vH _ _ _ _,h⟩
theorem rE (F:aw K "show_spot" "show_spot" iU f fd) (C:Kc K mg κ)    : az P w K mg base (CX1 P w) 1 f fd ["x", "y"] (aJ K (ix κ)):=by
 refine aw.okN F rW (by walk_at "l") fun _ _ _ _ _ _ hr=>⟨_,(ao (aA (pH (gL (mH (dv 0)) (gL aK (gL (mH (dv 1)) wx)))))),?_⟩
 rintro ds Q Ed ⟨x,y,rfl,h⟩;walk_at "s";unfold eU at h;obtain⟨bx,b2,h⟩:=h;walk_at "x";have l1:=rh bx;have l2:=rh b2;rw[<- ji]at l1 l2;rw[nS];refine⟨lg bx,aB ?_,aB ?_,lg b2,aB ?_,aB ?_,?_⟩
 all_goals rw[ot]
 ·omega
 ·rw[br,bz];omega
 ·rw[br,br,bz];omega
 ·rw[br,br,bz];omega
 ·rw[Bm];exact h
theorem td (F:aw K "show_dot" "show_dot" jR f fd) (C:Kc K mg κ)  (K2:sI P w K mg base κ)  : az P w K mg base (CX1 P w) 2 f fd ["dot"] (aJ K (jb κ)):=by
 refine aw.okN F iZ (by walk_at "l") fun _ _ _ _ _ _ hr=>⟨_,(ak (aO 1 iZ.nd (ar bU (wg (lU C.Jw) (aq (dv 0) ae)) (aI K2 hr (aa (aq (dv 0) ae) (aa (aq (dv 0) ae) ah))))) (ak (aO 2 iZ.nd (aq (dv 0) ae)) (ao (aA (lV (aH bT (dv 2) ae) (dv 1) (pH (gL (mH (dv 1)) (gL aK (gL (mH (dv 2)) wx))))))))),?_⟩
 rintro ds Q Ed ⟨d,rfl,h⟩;walk_at "s";unfold fP at h;obtain⟨o,h⟩:=h;have l1:=c8 (n:=d.1) (k:=12) (by decide) (by rw[Ri];exact o.x);have l2:=c8 (n:=d.2.1) (k:=12) (by decide) (by rw[Ri];exact o.y);have l3:=c8 (n:=d.2.2.2) (k:=9) (by decide) (by rw[n9];have:=o.w1;have:=o.w9;omega);rw[<- ji]at l3;have l4:(JD (tx d.1++58::tx d.2.1)).length<=27:=by rw[dS,Mw,MM];omega
 unfold HX;walk_at "x";refine⟨aB (by decide +kernel),lt d.2.2.1,vT o.c0 o.c3,fD o.x,fD o.y,aB (by rw[bz];omega),?_⟩;by_cases e:d.2.2.2=1
 ·rw[G4 e,wd1 d e];exact h
 ·rw[GS e,Xd,wd2 d e];have q:((⟨#[lt d.2.2.1]⟩:Str)++JD (tx d.1++58::tx d.2.1)).length<=28:=by rw[br,bz];omega
  have:=lA o;refine⟨aB (by omega),aB ?_,aB ?_,lg (fD (by have:=o.w1;have:=o.w9;omega)),aB (by rw[dS];omega),aB (by rw[dS];omega),h⟩
  ·rw[ot];omega
  ·rw[ot,br,bz];omega
theorem rD (F:aw K "show_dots" "show_dots" fR f fd) (C:Kc K mg κ)  (LB:uJ P w K mg base κ)  : az P w K mg base (CX1 P w) 3 f fd ["dots"] (aJ K (iu κ)):=by
 refine aw.okN F rV (by walk_at "l") fun _ _ _ _ _ _ hr=>⟨_,(ao (aA (nX aK (aa (fq (by rfl) (by exact cL (osc:=ai fR) (xs:=["dot"]) (ns:=[]) (by decide +kernel)) bE.nil (gN (dv 0)) (fun _ _ _ _ _=>fi) (fun _ _ _ _ _=>(aI LB hr (aa (dv 0) ah)))) ah)))),?_⟩
 rintro ds Q Ed ⟨d,rfl,h⟩;walk_at "s";unfold eT at h;obtain⟨ds,rfl,ho,hl,h⟩:=h;walk_at "x";refine PD.j7 ds HX (fun _=>true) (fun d=>D.str (JD (KS d))) (fun R q=>?_) (aB (by omega)) (fun x hx _ K hK=>?_) (fun x hx z=>by cases z) fun _=>?_
 ·walk_at "x";exact q
 ·walk_at "x";exact⟨ho x hx,hK⟩
 ·refine⟨_,ds.map fun d=>JD (KS d),by rw[Rz];rfl,by rw[iL];decide,?_,?_⟩
  ·have:=wX ho;rw[Kj]at this ⊢;omega
  ·rw[iL,mR];exact h
theorem Dw (F:aw K "put" "put" vw f fd) (C:Kc K mg κ)   (GZ:mg "len" = none):az P w K mg base (CX1 P w) 1 f fd ["dots", "given"] (aJ K (sv κ)):=by
 refine aw.OC F D6 (by walk_at "l") fun _ _ _ _ _ _ Ed hr pm px hx=>⟨_,(ak (aV (aH mV (bg cA (by rfl) GZ NW (aa (dv 0) ah)) (cU C.Jv)) (ao (bQ pm (by rfl) C.JB C.Jz rfl (aa aK ah))) aL) (ao (aA (ar aU (dv 0) (bw (aa (aq (dv 1) ae) ah)))))),?_⟩
 rintro ds Q ⟨d,e,rfl,h⟩;walk_at "s";unfold m7 at h;obtain⟨ds,g,rfl,rfl,hl,h⟩:=h;walk_at "x";rw[Kj];by_cases c:30<=ds.length
 ·rw[G4 c]at h;rw[G4 (by omega)];exact⟨PH _,h⟩
 ·rw[GS c]at h;rw[GS (by omega)];rw[OK]at h;exact⟨PH _,aB (by show _+1<=_;omega),h⟩
theorem Du (F:aw K "cut" "cut" vt f fd) (C:Kc K mg κ)   (GZ:mg "len" = none):az P w K mg base (CX1 P w) 1 f fd ["dots", "given"] (aJ K (sj κ)):=by
 refine aw.OC F xB (by walk_at "l") fun _ _ _ _ _ _ Ed hr pm px hx=>⟨_,(ak (aO 2 xB.nd (aq (dv 1) ae)) (ak (aV (NB.pt (lp (aH jE (dv 2) ae) (jh (aH mV (dv 2) (bg cA (by rfl) GZ NW (aa (dv 0) ah)))))) (ao (bQ pm (by rfl) C.JM C.JH rfl (aa aK ah))) aL) (ao (aA (ar aU (OE.PV (bS (dv 0) bP (bI (dv 2)))) (OE.PV (bS (dv 0) (bI (ar aU (dv 2) ae)) bP))))))),?_⟩
 rintro ds Q ⟨d,e,rfl,h⟩;walk_at "s";unfold m6 at h;obtain⟨ds,n,rfl,rfl,hl,h⟩:=h;walk_at "x";rw[Kj];by_cases c:n<0
 ·rw[G4 (.inl c)]at h;rw[G4 c];exact⟨PH _,h⟩
 rw[GS c];by_cases c2:(ds.length:Int)<=n
 ·rw[G4 (.inr c2)]at h;rw[G4 c2];exact⟨PH _,h⟩
 rw[GS (fun z=>z.elim c c2)]at h;rw[GS c2,zy HX ds (by omega),qq HX ds (by omega)];rw[OK]at h;refine⟨aB ?_,h⟩;rw[Kj,Kj,O6,Og];omega
theorem xg (F:aw K "mapped" "mapped" mh f fd) (C:Kc K mg κ)  (OH:Bw P w K mg base κ) (JF:mg "tuple" = none):az P w K mg base (CX1 P w) 7 f fd ["dots", "given"] (aJ K (kW κ)):=by
 refine aw.OC F xD (by walk_at "l") fun _ _ _ _ _ _ Ed hr pm px hx=>⟨_,(ao (aA (cg px OH (hr.mono (by decide)) (aa (dv 0) (aa (bu yk (by rfl) JF boot_tuple (aa (dv 1) ah)) ah))))),?_⟩
 rintro ds Q ⟨d,e,rfl,h⟩;walk_at "s";unfold iE at h;obtain⟨ds,m,rfl,rfl,ho,hl,hm,hb,h⟩:=h
 match m,hm with
 |[a,b,c,d,e,f'],_ =>
  have b60:∀{z:Int},z.natAbs<1000000000000->Bd 60 z:=fun hz=>Nat.lt_trans hz (by decide)
  have SK:∀z ∈ [a,b,c,d,e,f'],Bd 41 z:=fun z hz=>LZ (hb z hz) (by decide)
  have em:=yI hb;walk_at "x";rw[em]
  replace h:if a*d=b*c then Ed (.ref κ.NoMap)else if(ds.map (MW [a,b,c,d,e,f'])).any bO=true then Ed (.ref κ.NoDots)else Q (.lst true ((ds.map (MW [a,b,c,d,e,f'])).map HX)):=h
  by_cases fl:a*d=b*c
  ·rw[G4 fl]at h;exact .inl ⟨by rw[Ni fl];rfl,h⟩
  ·rw[GS fl]at h;refine .inr ⟨(a,b,c,d,e,f'),rfl,⟨SK a (by simp),SK b (by simp),SK c (by simp),SK d (by simp),SK e (by simp),SK f' (by simp),fl⟩,by rw[NV fl];rfl,by omega,fun p hp=>⟨b60 (ho p hp).x,b60 (ho p hp).y⟩,?_⟩;rw[ye];cases fr:(ds.map (MW [a,b,c,d,e,f'])).any bO with
   |true=>rw[G4 fr]at h;exact .inr ⟨rfl,h⟩
   |false=>rw[GS (by rw[fr];simp)]at h;exact .inl ⟨rfl,h⟩
theorem va (F:aw K "cleared" "cleared" kL f fd) (C:Kc K mg κ)    : az P w K mg base (CX1 P w) 1 f fd ["dots", "given"] (aJ K (jT κ)):=by
 refine aw.okN F vA (by walk_at "l") fun _ _ _ _ _ _ hr=>⟨_,(ao (aA (bw ah))),?_⟩
 rintro ds Q Ed ⟨d,e,rfl,h⟩;walk_at "s";unfold gv at h;walk_at "x";exact⟨aB (M9 _),h⟩
theorem rG (F:aw K "tell_dots" "tell_dots" iW f fd) (C:Kc K mg κ)  (K3:sH P w K mg base κ)  : az P w K mg base (CX1 P w) 4 f fd ["dots", "given"] (aJ K (iz κ)):=by
 refine aw.okN F rX (by walk_at "l") fun _ _ _ _ _ _ hr=>⟨_,(ao (aA (aI K3 hr (aa (dv 0) ah)))),?_⟩
 rintro ds Q Ed ⟨d,e,rfl,h⟩;walk_at "s";unfold eX at h;obtain⟨ds,rfl,h⟩:=h;walk_at "x";exact⟨ds,rfl,h⟩
theorem rC (F:aw K "read_word" "read_word" iT f fd) (C:Kc K mg κ)  (LC:uH P w K mg base κ) (IB:gR P w K mg base κ)  : az P w K mg base (CX1 P w) 5 f fd ["form", "word"] (aJ K (cZ κ)):=by
 refine aw.OC F rT (by walk_at "l") fun _ _ _ _ _ _ Ed hr pm px hx=>⟨_,(ak (aV (aH (eP (by exact hr.units)) (dv 0) aK) (ao (aA (cg px LC (hr.mono (by decide)) (aa (dv 1) ah)))) aL) (ak (aV (aH (eP (by exact hr.units)) (dv 0) aK) (ao ft) aL) (ak (aV (aH (eP (by exact hr.units)) (dv 0) aK) (ao ft) aL) (ao (aA (cg px IB (hr.mono (by decide)) (aa (dv 1) (aa (lV (aH (eP (by exact hr.units)) (dv 0) aK) (cU C.Hq) (cU C.GR)) ah)))))))),?_⟩
 rintro ds Q ⟨u,t,rfl,h⟩;walk_at "s";unfold eS at h;obtain⟨T,d,e,h⟩:=h;have ok:∀{x:Str},TX x->okD (.str x):=fun T=>cR T.a
 have ol:∀{x:Str},(sgn x).all (·<128)=true->okD (.str x):=fun h=>cR fun c hc=>by simpa using O5.mp h c hc
 walk_at "x";unfold M7 at e;have ou:okD (D.str u):=by
  by_cases c1:u = "dot"
  ·rw[c1];exact ol (by decide +kernel)
  rw[GS c1]at e;by_cases c2:u = "number"
  ·rw[c2];exact ol (by decide +kernel)
  rw[GS c2]at e;by_cases c3:u = "entry"
  ·rw[c3];exact ol (by decide +kernel)
  rw[GS c3]at e;cases e
 refine⟨ou,ol (by decide +kernel),?_⟩;by_cases c1:u = "dot"
 ·rw[G4 c1]at e;rw[G4 (by rw[c1];decide +kernel)];refine⟨T,?_⟩;obtain⟨x,ex,rfl⟩:=Option.map_eq_some_iff.mp e;rw[ex];exact h
 rw[GS c1]at e;rw[GS (by simpa using c1)];refine⟨ou,ol (by decide +kernel),?_⟩;have key:∀k:Nat,(wN k (sgn t)).map D.int=some d->1<=k->k<=1000->TX t/\∃m:Nat,(k:Int)=m/\1<=m/\m<=1000/\match wN m (sgn t)with|some n=>Q (D.int n)|none=>False:=fun k ek k1 k9=>by obtain⟨x,ex,rfl⟩:=Option.map_eq_some_iff.mp ek;refine⟨T,k,rfl,k1,k9,?_⟩;rw[ex];exact h
 by_cases c2:u = "number"
 ·rw[G4 c2]at e;rw[GS (by rw[c2];decide +kernel)];refine⟨ou,ol (by decide +kernel),?_⟩;rw[GS (by rw[c2];decide +kernel)];refine⟨ou,ol (by decide +kernel),?_⟩;rw[G4 (by rw[c2];decide +kernel)];exact key 2 e (by decide) (by decide)
 rw[GS c2]at e;by_cases c3:u = "entry"
 ·rw[G4 c3]at e;rw[GS (by rw[c3];decide +kernel)];refine⟨ou,ol (by decide +kernel),?_⟩;rw[GS (by rw[c3];decide +kernel)];refine⟨ou,ol (by decide +kernel),?_⟩;rw[GS (by rw[c3];decide +kernel)];exact key 12 e (by decide) (by decide)
 rw[GS c3]at e;cases e
theorem rF (F:aw K "split_row" "split_row" iV f fd) (FO:k7 K w mg) (C:Kc K mg κ)   (GQ:mg "isinstance" = none) (GZ:mg "len" = none) (HY:mg "str" = none):az P w K mg base (CX1 P w) 1 f fd ["row"] (aJ K (iy κ)):=by
 obtain⟨aF,esF,mF,kF,oF⟩:=FO;refine aw.OC F kS (by walk_at "l") fun _ _ _ _ _ _ Ed hr pm px hx=>⟨_,(ak (aV (fV (dP (eF (by rfl) GQ (by rfl) HY OL (.inr (.inr (.inr (.inr rfl)))) (dv 0)))) (ao (bQ pm (by rfl) C.JE C.JC rfl (aa aK ah))) aL) (ak (aO 1 kS.nd (yt (dv 0) (aa aK ah))) (ak (aV (wF kF mF (aq (dv 1) ae)) (ao (bQ pm (by rfl) C.JE C.JC rfl (aa aK ah))) aL) (ak (aV (aH kB (bg cA (by rfl) GZ NW (aa (dv 1) ah)) (ar aU ae (Ai (hml:=GZ) kF mF (aq (dv 1) ae)))) (ao (bQ pm (by rfl) C.JE C.JC rfl (aa aK ah))) aL) (ao (aA (dv 1))))))),?_⟩
 rintro ds Q ⟨d,rfl,h⟩;walk_at "s";unfold eW at h;obtain⟨f0,vs,fs,rfl,hf,hl,R,h⟩:=h;have sp:Txt.split (Str.join ⟨#[32]⟩ (f0::vs)) ⟨#[32]⟩=f0::vs:=y8 (by simp) fun p hp=>(R.w p hp).n
 have ln:(Str.join ⟨#[32]⟩ (f0::vs)).length<=41*(f0::vs).length:=rf R.w;have l7:=R.l;have pl:=xi (Str.join ⟨#[32]⟩ (f0::vs)) 32;have F:=oF f0 fs hf;obtain⟨b,eb,kt⟩:=id F;walk_at "x";refine⟨by rw[iL];rfl,aB (by omega),by rw[iL];exact aB (by omega),?_⟩;rw[iL,sp];unfold nW zC;walk_at "x";rw[eb];refine⟨f0,fs,rfl,F,?_⟩;walk_at "x";rw[G4 (by rw[MM,Kj,hl];omega)];exact h
theorem oy (F:aw K "_law_cell_at" "_law_cell_at" gg f fd) (C:Kc K mg κ)   (GZ:mg "len" = none):az P w K mg base (CX1 P w) 1 f fd ["_law_script", "_law_k"] (aJ K (fA κ)):=by
 refine aw.okN F oW (by walk_at "l") fun _ _ _ _ _ _ hr=>⟨_,(ak (aV (aH jE (dv 1) (bg cA (by rfl) GZ NW (aa (dv 0) ah))) (ao (aA (aq (dv 0) (dv 1)))) aL) (ao (aA ae))),?_⟩
 rintro ds Q Ed ⟨ns,k,rfl,h⟩;walk_at "s";unfold dz at h;obtain⟨hk,hn,h⟩:=h;walk_at "x";by_cases hl:k<((ns.map D.int).length:Int)
 ·rw[G4 (by simpa using hl)];rw[Kj]at hl;exact⟨_,yf hk hl,h _⟩
 ·rw[GS (by simpa using hl)];exact h 0
theorem qa (F:aw K "_law_stream" "_law_stream" ij f fd) (C:Kc K mg κ)   (JG:mg "range" = none):az P w K mg base (CX1 P w) 1 f fd ["_law_cell", "_law_many"] (aJ K (gj κ)):=by
 refine aw.okN F cK (by walk_at "l") fun _ _ _ _ _ _ hr=>⟨_,(ak (wA 2 cK.nd ah) (ak (aO 3 cK.nd (ar aU (ar bf (dv 0) ae) ae)) (ak (Cs PassesOwn.never rfl (pN (by rfl) JG (aa (dv 1) ah)) (df 4 cK.nd) (ak (aO 3 cK.nd (ar bf (ar aU (ar aU (ar bq (dv 3) ae) (ar bq (dv 4) (dv 4))) ae) ae)) (ao (wz 2 (ar lq (dv 3) ae))))) (mK 2 (ao (aA (dv 2))))))),?_⟩
 rintro ds Q Ed ⟨c,m,rfl,h⟩;walk_at "s";unfold d4 at h;obtain⟨h0,h1,h⟩:=h;walk_at "x";refine⟨M9 _,by decide,?_⟩;unfold BX;walk_at "x";refine⟨⟨by omega,by omega⟩,fun j ρ=>∃(xs:yaf) (n:Int) (v:Option Sl),ρ=[some (.val (.int c)),some (.val (.int m)),some (.own (xs.map D.int)),some (.val (.int n)),v]/\xs.length=j/\(∀x∈xs,0<=x/\x<2147483647)/\0<=n/\n<2147531918,⟨[],_,none,rfl,rfl,by simp,?_,?_⟩,?_,?_⟩
 ·have:=fm (a:=c) (b:=2147483647) (by decide);omega
 ·have:=fm (a:=c) (b:=2147483647) (by decide);omega
 ·rintro j x HG hx ⟨xs,n,v,rfl,hlen,hb,n0,n1⟩;obtain⟨hj,rfl⟩:=xy hx;have hm:j<1000:=by
   have:=Bb (by decide) hj;omega
  walk_at "x";refine⟨.inr (.inl (by unfold Bd;decide)),.inl (by unfold Bd;omega),by decide,CD.lit,by rw[Kj,N7];omega,?_⟩;have hf:=fm (a:=n*48271+(0+(j:Int)*1)*(0+(j:Int)*1)+11) (b:=2147483647) (by decide);generalize (n*48271+(0+(j:Int)*1)*(0+(j:Int)*1)+11).fmod 2147483647=y at hf ⊢;refine⟨xs++[y.fdiv 7],y,some (.val (.int (0+(j:Int)*1))),by simp,by simp[hlen],?_,by omega,by omega⟩;intro z hz;rcases Qx.mp hz with q|q
  ·exact hb z q
  ·simp at q;subst q;have e:=Int.fdiv_eq_ediv_of_nonneg y (show(0:Int)<=7 by decide);rw[e];omega
 ·rintro HG ⟨xs,n,v,rfl,hlen,hb,n0,n1⟩;walk_at "x";refine h xs ?_ hb;rw[hlen,mf];unfold ic Builtin.Range.rangeSize;rw[G4 (by decide)];split<;>omega
theorem ve (F:aw K "_law_dot" "_law_dot" kN f fd) (C:Kc K mg κ)    : az P w K mg base (CX1 P w) 1 f fd ["_law_near", "_law_xs"] (aJ K (jV κ)):=by
 refine aw.okN F fe (by walk_at "l") fun _ _ _ _ _ _ hr=>⟨_,(ak (aO 2 fe.nd (ar cD (ar bf (aq (dv 1) ae) ae) ae)) (ak (aO 3 fe.nd (ar cD (ar bf (aq (dv 1) ae) ae) ae)) (ak (aV (NB.pt (ki (fV (dP (dv 0))) (lj (aH bT (ar bf (aq (dv 1) ae) ae) ae)))) (ao (aO 2 fe.nd (ar aU (ar cD (ar bf (ar bq (aq (dv 1) ae) (aq (dv 1) ae)) (ar cD (ar bq ae (ar jk ae ae)) ae)) (ar jk ae ae)) ae))) aL) (ak (aO 4 fe.nd (aq (bw (aa ae (aa (ar aU ae (ar bf (aq (dv 1) ae) ae)) (aa (ar aU ae (ar bf (ar bq (aq (dv 1) ae) (aq (dv 1) ae)) ae)) ah)))) (ar bf (ar lq (aq (dv 1) ae) ae) ae))) (ao (aA (hG (aa (dv 2) (aa (dv 3) (aa (ar bf (aq (dv 1) ae) ae) (aa (dv 4) ah))))))))))),?_⟩
 rintro ds Q Ed ⟨d,xs,rfl,h⟩;walk_at "s";unfold gx at h;obtain⟨b,rfl,hl,hb,h⟩:=h;have A:=fun k (hk:k<5)=>ju (xs:=xs) k (by omega)
 have G:=zI hb;refine D8 (fun HG=>∃X Y:Int,X.natAbs<1000000000000/\Y.natAbs<1000000000000/\HG=[some (.val (.bl b)),some (.val (.lst false (xs.map D.int))),some (.val (.int X)),some (.val (.int Y)),none]) (fun HG e=>?_) fun K hK=>?_
 ·obtain⟨X,Y,hX,hY,rfl⟩:=e;have g0:=fm (a:=xs.getD 3 0) (b:=9) (by decide);have g1:=fm (a:=xs.getD 3 0*xs.getD 1 0) (b:=999999999) (by decide);have g2:=fm (a:=(xs.getD 2 0).fdiv 3) (b:=3) (by decide);have g3:=fm (a:=xs.getD 4 0) (b:=3) (by decide);obtain⟨V,eV,hV⟩:=pk3 1 (2+(xs.getD 3 0).fmod 9) (1+(xs.getD 3 0*xs.getD 1 0).fmod 999999999) g2.1 g2.2;walk_at "x";refine⟨_,A 3 (by decide),?_⟩;walk_at "x";refine⟨by decide,_,A 3 (by decide),_,A 1 (by decide),?_⟩;walk_at "x";refine⟨.inl (Xf (G 3)),by decide,cE _ _ _,_,A 2 (by decide),?_⟩;walk_at "x";refine⟨⟨by decide,by unfold Bd;decide⟩,by decide,_,eV,_,A 4 (by decide),?_⟩;walk_at "x";refine⟨by decide,vH _ _ _ _,h (X,Y,(xs.getD 4 0).fmod 3,V) ⟨hX,hY,g3.1,g3.2,?_,?_⟩⟩
  ·show 1<=V;rcases hV with z|z|z<;>subst z<;>omega
  ·show V<_;rcases hV with z|z|z<;>subst z<;>omega
 ·have g0:=fm (a:=xs.getD 0 0) (b:=7) (by decide);have g1:=fm (a:=xs.getD 1 0) (b:=7) (by decide);have g2:=fm (a:=xs.getD 0 0*xs.getD 1 0) (b:=1999999999999) (by decide);have key:∀X:Int,X.natAbs<1000000000000->K [some (.val (.bl b)),some (.val (.lst false (xs.map D.int))),some (.val (.int X)),some (.val (.int ((xs.getD 1 0).fmod 7 - 3))),none]:=fun X hX=>hK _ ⟨X,_,hX,by omega,rfl⟩
  walk_at "x";refine⟨_,A 0 (by decide),?_⟩;walk_at "x";refine⟨by decide,_,A 1 (by decide),?_⟩;walk_at "x";refine⟨by decide,?_⟩;split
  ·refine⟨_,A 2 (by decide),?_⟩;walk_at "x";refine⟨by decide,?_⟩;split
   ·refine⟨_,A 0 (by decide),_,A 1 (by decide),?_⟩;walk_at "x";rw[Xe];refine⟨.inl (Xf (G 0)),nU,.inl (by unfold Bd;decide),by decide,nU,key _ ?_⟩;rw[show(2*1000000000000 - 1:Int)=1999999999999 by decide];omega
   ·exact key _ (by omega)
  ·exact key _ (by omega)
theorem sW (F:aw K "_law_word" "_law_word" jN f fd) (C:Kc K mg κ)   (HY:mg "str" = none):az P w K mg base (CX1 P w) 1 f fd ["_law_dot_here"] (aJ K (i7 κ)):=by
 refine aw.okN F lO (by walk_at "l") fun _ _ _ _ _ _ hr=>⟨_,(ak (aO 1 lO.nd (ar bU (ar bU (ar bU (wg aK (aq (dv 0) ae)) (bu cT (by rfl) HY OL (aa (aq (dv 0) ae) ah))) aK) (bu cT (by rfl) HY OL (aa (aq (dv 0) ae) ah)))) (ak (aV (aH bT (aq (dv 0) ae) ae) (ao (aA (dv 1))) aL) (ao (aA (ar bU (ar bU (dv 1) aK) (bu cT (by rfl) HY OL (aa (aq (dv 0) ae) ah))))))),?_⟩
 rintro ds Q Ed ⟨d,rfl,h⟩;walk_at "s";unfold fK at h;obtain⟨o,h⟩:=h;have l1:=c8 (n:=d.1) (k:=12) (by decide) (by rw[Ri];exact o.x);have l2:=c8 (n:=d.2.1) (k:=12) (by decide) (by rw[Ri];exact o.y);have l3:=c8 (n:=d.2.2.2) (k:=9) (by decide) (by rw[n9];have:=o.w1;have:=o.w9;omega);rw[<- ji]at l1 l2 l3;unfold HX;walk_at "x";rw[nS,Xd];refine⟨aB (by decide +kernel),lt d.2.2.1,vT o.c0 o.c3,lg (fD o.x),aB ?_,aB ?_,lg (fD o.y),aB ?_,?_⟩
 ·rw[bz];omega
 ·rw[br,bz,bz];omega
 ·rw[br,br,bz,bz];omega
 by_cases e:d.2.2.2=1
 ·rw[G4 e,Eh d e];exact h
 ·rw[GS e];refine⟨aB ?_,lg (fD (by have:=o.w1;have:=o.w9;omega)),aB ?_,?_⟩
  ·rw[br,br,br,bz,bz,bz];omega
  ·rw[br,br,br,br,bz,bz,bz];omega
  ·rw[Ei d e];exact h
theorem sV (F:aw K "_law_text" "_law_text" gG f fd) (C:Kc K mg κ)  (JJ:mw P w K mg base κ)  : az P w K mg base (CX1 P w) 2 f fd ["_law_dots"] (aJ K (i6 κ)):=by
 refine aw.okN F tq (by walk_at "l") fun _ _ _ _ _ _ hr=>⟨_,(ao (aA (nX aK (aa (fq (by rfl) (by exact cL (osc:=ai gG) (xs:=["_law_dot_here"]) (ns:=[]) (by decide +kernel)) bE.nil (gN (dv 0)) (fun _ _ _ _ _=>fi) (fun _ _ _ _ _=>(aI JJ hr (aa (dv 0) ah)))) ah)))),?_⟩
 rintro ds Q Ed ⟨d,rfl,h⟩;walk_at "s";unfold fJ at h;obtain⟨ds,rfl,ho,hl,h⟩:=h;walk_at "x";refine PD.j7 ds HX (fun _=>true) (fun d=>D.str (JD (KS d))) (fun R q=>?_) (aB (by omega)) (fun x hx _ K hK=>?_) (fun x hx z=>by cases z) fun _=>?_
 ·walk_at "x";exact q
 ·walk_at "x";exact⟨ho x hx,hK⟩
 ·refine⟨_,ds.map fun d=>JD (KS d),by rw[Rz];rfl,by rw[iL];decide,?_,?_⟩
  ·have:=wX ho;rw[Kj]at this ⊢;omega
  ·rw[iL,mR];exact h
theorem oz (F:aw K "_law_entries" "_law_entries" gh f fd) (C:Kc K mg κ)    : az P w K mg base (CX1 P w) 1 f fd ["_law_near", "_law_xs"] (aJ K (fB κ)):=by
 refine aw.okN F jm (by walk_at "l") fun _ _ _ _ _ _ hr=>⟨_,(ak (wA 2 jm.nd (aa (ar cD (ar bf (aq (dv 1) ae) ae) ae) (aa (ar cD (ar bf (aq (dv 1) ae) ae) ae) (aa (ar cD (ar bf (aq (dv 1) ae) ae) ae) (aa (ar cD (ar bf (aq (dv 1) ae) ae) ae) (aa (ar cD (ar bf (aq (dv 1) ae) ae) ae) (aa (ar cD (ar bf (aq (dv 1) ae) ae) ae) ah))))))) (ak (aV (aH bT (ar bf (ar lq (aq (dv 1) ae) ae) ae) ae) (ao (wB (k:=2) 2 (bw (aa ae (aa ae ah))))) aL) (ak (aV (NB.pt (ki (aH bT (ar bf (ar lq (aq (dv 1) ae) ae) ae) ae) (lj (fV (dP (dv 0)))))) (ao (yv 2 ae (ar aU (ar cD (ar bf (ar bq (aq (dv 1) ae) (aq (dv 1) ae)) (ar cD (ar bq ae (ar jk ae ae)) ae)) (ar jk ae ae)) ae))) aL) (mK 2 (ao (aA (dv 2))))))),?_⟩
 rintro ds Q Ed ⟨d,xs,rfl,h⟩;walk_at "s";unfold dA at h;obtain⟨b,rfl,hl,hb,h⟩:=h;have A:=fun k (hk:k<6)=>ju (xs:=xs) k (by omega)
 have G:=zI hb;refine rZ (fun HG=>∃m:yaf,m.length=6/\(∀x∈m,x.natAbs<10 ^ 12)/\HG=[some (.val (.bl b)),some (.val (.lst false (xs.map D.int))),some (.own (m.map D.int))]) (fun HG e=>?_) fun K hK=>?_
 ·obtain⟨m,lm,bm,rfl⟩:=e;refine rZ (fun HG=>∃m:yaf,m.length=6/\(∀x∈m,x.natAbs<10 ^ 12)/\HG=[some (.val (.bl b)),some (.val (.lst false (xs.map D.int))),some (.own (m.map D.int))]) (fun HG e=>?_) fun K hK=>?_
  ·obtain⟨m,lm,bm,rfl⟩:=e;refine rZ (fun HG=>∃m:yaf,m.length=6/\(∀x∈m,x.natAbs<10 ^ 12)/\HG=[some (.val (.bl b)),some (.val (.lst false (xs.map D.int))),some (.own (m.map D.int))]) (fun HG e=>?_) fun K hK=>?_
   ·obtain⟨m,lm,bm,rfl⟩:=e;walk_at "x";exact h m lm bm
   ·have g2:=fm (a:=xs.getD 4 0*xs.getD 5 0) (b:=1999999999999) (by decide)
    match m,lm with
    |[a,b',c,d,e,f'],_ =>
     have k0:=hK _ ⟨[a,b',c,d,e,f'],rfl,bm,rfl⟩;walk_at "x";refine⟨_,A 0 (by decide),?_⟩;walk_at "x";refine⟨⟨by decide,by unfold Bd;decide⟩,by decide,?_⟩;split
     ·split
      ·refine⟨_,A 4 (by decide),_,A 5 (by decide),?_⟩;walk_at "x";rw[Xe];refine⟨.inl (Xf (G 4)),nU,.inl (by unfold Bd;decide),by decide,nU,4,4,rfl,rfl,?_⟩;rw[show(2*1000000000000 - 1:Int)=1999999999999 by decide];refine hK _ ⟨[a,b',c,d,(xs.getD 4 0*xs.getD 5 0).fmod 1999999999999 - 1000000000000+1,f'],rfl,fun x hx=>?_,rfl⟩;simp only[L0,O7,or_false]at hx;rcases hx with rfl|rfl|rfl|rfl|rfl|rfl
       ·exact bm _ (by simp)
       ·exact bm _ (by simp)
       ·exact bm _ (by simp)
       ·exact bm _ (by simp)
       ·omega
       ·exact bm _ (by simp)
      ·exact k0
     ·exact k0
  ·match m,lm with
   |[a,b',c,d,e,f'],_ =>
    have k0:=hK _ ⟨[a,b',c,d,e,f'],rfl,bm,rfl⟩;walk_at "x";refine⟨_,A 0 (by decide),?_⟩;walk_at "x";refine⟨⟨by decide,by unfold Bd;decide⟩,by decide,?_⟩;split
    ·refine⟨Gv _ _,by show 2<=6;decide,aB (by show 8<=_;decide),hK _ ⟨[0,1,c,d,e,f'],rfl,fun x hx=>?_,rfl⟩⟩;simp only[L0,O7,or_false]at hx;rcases hx with rfl|rfl|rfl|rfl|rfl|rfl
     ·decide
     ·decide
     ·exact bm _ (by simp)
     ·exact bm _ (by simp)
     ·exact bm _ (by simp)
     ·exact bm _ (by simp)
    ·exact k0
 ·have g0:=fm (a:=xs.getD 0 0) (b:=7) (by decide);have g1:=fm (a:=xs.getD 1 0) (b:=7) (by decide);have g2:=fm (a:=xs.getD 2 0) (b:=7) (by decide);have g3:=fm (a:=xs.getD 3 0) (b:=7) (by decide);have g4:=fm (a:=xs.getD 4 0) (b:=9) (by decide);have g5:=fm (a:=xs.getD 5 0) (b:=9) (by decide);walk_at "x";refine⟨_,A 0 (by decide),?_⟩;walk_at "x";refine⟨by decide,_,A 1 (by decide),?_⟩;walk_at "x";refine⟨by decide,_,A 2 (by decide),?_⟩;walk_at "x";refine⟨by decide,_,A 3 (by decide),?_⟩;walk_at "x";refine⟨by decide,_,A 4 (by decide),?_⟩;walk_at "x";refine⟨by decide,_,A 5 (by decide),?_⟩;walk_at "x";refine⟨by decide,aB (by show 6<=_;decide),hK _ ⟨[(xs.getD 0 0).fmod 7 - 3,(xs.getD 1 0).fmod 7 - 3,(xs.getD 2 0).fmod 7 - 3,(xs.getD 3 0).fmod 7 - 3,(xs.getD 4 0).fmod 9 - 4,(xs.getD 5 0).fmod 9 - 4],rfl,fun x hx=>?_,rfl⟩⟩;simp only[L0,O7,or_false]at hx;rcases hx with rfl|rfl|rfl|rfl|rfl|rfl<;>omega
theorem sU (F:aw K "_law_sent" "_law_sent" gE f fd) (C:Kc K mg κ)    : az P w K mg base (CX1 P w) 1 f fd ["_law_dots", "_law_row"] (aJ K (i5 κ)):=by
 refine aw.okN F cn (by walk_at "l") fun _ _ _ _ _ _ hr=>⟨_,(ak (Cr (dv 1) (qW (n:=6) rfl (eh (df 2 cn.nd) (eh (df 3 cn.nd) (eh (df 4 cn.nd) (eh (df 5 cn.nd) (eh (df 6 cn.nd) (eh (df 7 cn.nd) tZ)))))))) (ao (aA (fq (by rfl) (by exact cL (osc:=ai gE) (xs:=["_law_dot_here"]) (ns:=["_law_f", "_law_e", "_law_d", "_law_c", "_law_b", "_law_a"]) (by decide +kernel)) (bE.cons 7 (bE.cons 6 (bE.cons 5 (bE.cons 4 (bE.cons 3 (bE.cons 2 bE.nil)))))) (gN (dv 0)) (fun _ _ _ _ _=>fi) (fun _ _ _ _ _=>(hG (aa (ar aU (ar aU (ar bq (dv 6) (aq (dv 0) ae)) (ar bq (dv 5) (aq (dv 0) ae))) (dv 2)) (aa (ar aU (ar aU (ar bq (dv 4) (aq (dv 0) ae)) (ar bq (dv 3) (aq (dv 0) ae))) (dv 1)) (aa (aq (dv 0) ae) (aa (aq (dv 0) ae) ah)))))))))),?_⟩
 rintro ds Q Ed ⟨d,m,rfl,h⟩;walk_at "s";unfold fH at h;obtain⟨ds,rfl,ho,hl,hm,hb,h⟩:=h
 match m,hm with
 |[a,b,c,d,e,f'],_ =>
  have B:∀{z y:Int},z.natAbs<10 ^ 12->CM z y:=fun {z y} hz=>.inl (LZ hz (by decide))
  walk_at "x";refine F4 _ _ _ _ _ _ _ _ _ _ _ _ _ _ _ ?_;walk_at "x";refine PD.comp_map ds HX (fun _=>true) (fun x=>HX (MW [a,b,c,d,e,f'] x)) (fun R q=>?_) (aB (by omega)) (fun x _ K hK=>?_) (fun x hx _ K hK=>?_) ?_
  ·walk_at "x";exact q
  ·walk_at "x";exact hK
  ·unfold HX;walk_at "x";exact⟨B (hb a (by simp)),B (hb b (by simp)),B (hb c (by simp)),B (hb d (by simp)),vH _ _ _ _,hK⟩
  ·walk_at "x";rw[U2.mpr fun _ _=>rfl];rw[Rz]at h;exact h
theorem vf (F:aw K "_law_far" "_law_far" iF f fd) (C:Kc K mg κ)   (Ky:mg "abs" = none) (GZ:mg "len" = none):az P w K mg base (CX1 P w) 1 f fd ["_law_dots"] (aJ K (jW κ)):=by
 refine aw.okN F vB (by walk_at "l") fun _ _ _ _ _ _ hr=>⟨_,(ao (aA (eM qz (bg cA (by rfl) GZ NW (aa (fq (by rfl) (by exact cL (osc:=ai iF) (xs:=["_law_dot_here"]) (ns:=[]) (by decide +kernel)) bE.nil (gN (dv 0)) (fun _ _ _ _ _=>(Ee (NB.pt (lp (aH mV (bg qJ (by rfl) Ky boot_abs (aa (aq (dv 0) ae) ah)) (ar jk ae ae)) (jh (aH mV (bg qJ (by rfl) Ky boot_abs (aa (aq (dv 0) ae) ah)) (ar jk ae ae))))))) (fun _ _ _ _ _=>(dv 0))) ah)) ae))),?_⟩
 rintro ds Q Ed ⟨d,rfl,h⟩;walk_at "s";unfold gy at h;obtain⟨ds,rfl,hl,h⟩:=h;walk_at "x";refine PD.comp_map ds HX bO HX (fun R q=>?_) (aB (by omega)) (fun x _ K hK=>?_) (fun x _ _ K hK=>?_) ?_
 ·walk_at "x";exact q
 ·unfold HX bO at *;walk_at "x";rw[Xe];refine⟨nU,?_⟩;split
  ·next c=>rwa [Ni (show 10 ^ 12<=x.1.natAbs by omega),Bool.true_or]at hK
  ·next c =>
   rw[NV (show¬10 ^ 12<=x.1.natAbs by omega),Bool.false_or]at hK;refine⟨nU,?_⟩;have e:decide ((1000000000000:Int)<=(x.2.1.natAbs:Int))=decide (10 ^ 12<=x.2.1.natAbs):=decide_eq_decide.mpr ⟨fun z=>by omega,fun z=>by omega⟩;rw[e];exact hK
 ·walk_at "x";exact hK
 ·walk_at "x";rw[Ay];exact h
theorem vh (F:aw K "_law_put" "_law_put" kO f fd) (C:Kc K mg κ)  (Mh:vN P w K mg base κ) (JJ:mw P w K mg base κ) (GZ:mg "len" = none):az P w K mg base (CX1 P w) 2 f fd ["_law_state", "_law_near", "_law_xs"] (aJ K (jY κ)):=by
 refine aw.okN F ni (by walk_at "l") fun _ _ _ _ _ _ hr=>⟨_,(ak (aO 3 ni.nd (aI Mh hr (aa (dv 1) (aa (dv 2) ah)))) (ak (aV (aH bT (bg cA (by rfl) GZ NW (aa (aq (dv 0) ae) ah)) ae) (ao (aA (bw (aa (ar bU aK (aI JJ hr (aa (dv 3) ah))) (aa ae (aa (aq (dv 0) ae) ah)))))) aL) (ao (aA (bw (aa (ar bU aK (aI JJ hr (aa (dv 3) ah))) (aa ae (aa (ar aU (aq (dv 0) ae) (bw (aa (dv 3) ah))) ah)))))))),?_⟩
 rintro ds Q Ed ⟨d,e,xs,rfl,h⟩;walk_at "s";unfold gA at h;obtain⟨ds,ps,b,rfl,rfl,st,hl,hb,h⟩:=h;have Ux:=st.l;walk_at "x";refine⟨hl,hb,fun g hg=>?_⟩;have wl:(JD (KS g)).length<=40:=by rw[dS];exact lA hg
 have f4:(Str.ofString "put ").length=4:=by decide +kernel
 have q:=h (.put g);walk_at "x";rw[Kj];split
 ·next c =>
  have c':30<=ds.length:=by omega
  simp only[av.code,av.res,G4 c']at q;refine⟨hg,aB (by omega),cE _ _ _,?_⟩;rw[uw];exact q false hg
 ·next c =>
  have c':¬30<=ds.length:=by omega
  simp only[av.code,av.res,GS c',OK]at q;refine⟨hg,aB (by omega),PH _,aB (by show _+1<=_;omega),cE _ _ _,?_⟩;rw[uw];exact q true hg
theorem vd (F:aw K "_law_cut" "_law_cut" kM f fd) (C:Kc K mg κ)   (GZ:mg "len" = none) (HY:mg "str" = none):az P w K mg base (CX1 P w) 1 f fd ["_law_state", "_law_xs"] (aJ K (jU κ)):=by
 refine aw.okN F nh (by walk_at "l") fun _ _ _ _ _ _ hr=>⟨_,(ak (aO 2 nh.nd (ar cD (ar bf (aq (dv 1) ae) (ar aU (bg cA (by rfl) GZ NW (aa (aq (dv 0) ae) ah)) ae)) ae)) (ak (aV (NB.pt (lp (aH jE (dv 2) ae) (jh (aH mV (dv 2) (bg cA (by rfl) GZ NW (aa (aq (dv 0) ae) ah)))))) (ao (aA (bw (aa (ar bU aK (bu cT (by rfl) HY OL (aa (dv 2) ah))) (aa ae (aa (aq (dv 0) ae) ah)))))) aL) (ao (aA (bw (aa (ar bU aK (bu cT (by rfl) HY OL (aa (dv 2) ah))) (aa ae (aa (ar aU (OE.PV (bS (aq (dv 0) ae) bP (bI (dv 2)))) (OE.PV (bS (aq (dv 0) ae) (bI (ar aU (dv 2) ae)) bP))) ah)))))))),?_⟩
 rintro ds Q Ed ⟨d,xs,rfl,h⟩;walk_at "s";unfold gw at h;obtain⟨ds,ps,rfl,st,hl,hb,h⟩:=h;have Ux:=st.l;walk_at "x";refine⟨_,ju 0 (by omega),?_⟩;walk_at "x";rw[Kj];have g0:=fm (a:=xs.getD 0 0) (b:=(ds.length:Int)+2) (by omega);refine⟨by omega,?_⟩;generalize hn:(xs.getD 0 0).fmod ((ds.length:Int)+2) - 1=n at *;have nb:n.natAbs<100:=by omega
 have wl:(Str.ofString (toString n)).length<=3:=xM (k:=2) (by decide) nb;have f4:(Str.ofString "cut ").length=4:=by decide +kernel
 have lo:n.natAbs.log2<1920:=lg (fD (by omega));have q:=h (.cut n);rw[Bc];split
 ·next c =>
  simp only[av.code,av.res,G4 (show n<0∨(ds.length:Int)<=n from .inl c)]at q;exact⟨lo,aB (by omega),cE _ _ _,q false nb⟩
 ·next c =>
  split
  ·next c2 =>
   simp only[av.code,av.res,G4 (show n<0∨(ds.length:Int)<=n from .inr c2)]at q;exact⟨lo,aB (by omega),cE _ _ _,q false nb⟩
  ·next c2 =>
   simp only[av.code,av.res,GS (show¬(n<0∨(ds.length:Int)<=n)from fun z=>z.elim c c2),OK]at q;rw[zy HX ds (by omega),qq HX ds (by omega)];refine⟨lo,aB (by omega),aB ?_,cE _ _ _,q true nb⟩;rw[Kj,Kj,O6,Og];omega
theorem vg (F:aw K "_law_map" "_law_map" iG f fd) (C:Kc K mg κ)  (Kp:pX P w K mg base κ) (Mi:vO P w K mg base κ) (LD:uE P w K mg base κ) (HY:mg "str" = none):az P w K mg base (CX1 P w) 2 f fd ["_law_state", "_law_near", "_law_xs"] (aJ K (jX κ)):=by
 refine aw.okN F gH (by walk_at "l") fun _ _ _ _ _ _ hr=>⟨_,(ak (aO 3 gH.nd (aI Kp hr (aa (dv 1) (aa (dv 2) ah)))) (ak (aO 4 gH.nd (ar bU aK (nX aK (aa (fq (by rfl) (by exact cL (osc:=ai iG) (xs:=["_law_entry"]) (ns:=[]) (by decide +kernel)) bE.nil (gN (dv 3)) (fun _ _ _ _ _=>fi) (fun _ _ _ _ _=>(bu cT (by rfl) HY OL (aa (dv 0) ah)))) ah)))) (ak (aV (aH bT (ar bq (aq (dv 3) ae) (aq (dv 3) ae)) (ar bq (aq (dv 3) ae) (aq (dv 3) ae))) (ao (aA (bw (aa (dv 4) (aa ae (aa (aq (dv 0) ae) ah)))))) aL) (ak (aO 5 gH.nd (aI LD hr (aa (aq (dv 0) ae) (aa (dv 3) ah)))) (ak (aV (dP (aI Mi hr (aa (dv 5) ah))) (ao (aA (bw (aa (dv 4) (aa ae (aa (aq (dv 0) ae) ah)))))) aL) (ao (aA (bw (aa (dv 4) (aa ae (aa (dv 5) ah))))))))))),?_⟩
 rintro ds Q Ed ⟨d,e,xs,rfl,h⟩;walk_at "s";unfold gz at h;obtain⟨ds,ps,b,rfl,rfl,st,hl,hb,h⟩:=h;walk_at "x";refine⟨hl,hb,fun m hm bm=>?_⟩
 match m,hm with
 |[a,b',c,d,e,f'],hm =>
  have q:=h (.map [a,b',c,d,e,f']);refine PD.comp_map [a,b',c,d,e,f'] D.int (fun _=>true) (fun z=>D.str (tI z)) (fun R q=>?_) (aB (by show 6<=_;decide)) (fun x _ K hK=>?_) (fun x hx _ K hK=>?_) ?_
  ·walk_at "x";exact q
  ·walk_at "x";exact hK
  ·walk_at "x";exact⟨lg (fD (bm x hx)),hK⟩
  ·walk_at "x";have B:∀{z y:Int},z.natAbs<10 ^ 12->CM z y:=fun {z y} hz=>.inl (LZ hz (by decide))
   have W:=zu bm;have s1:=rg W;have s2:=rf W;rw[Kj]at s1 s2;refine⟨true,[a,b',c,d,e,f'].map tI,by rw[U2.mpr fun _ _=>rfl,Rz];rfl,by rw[iL];decide,?_,?_,B (bm a (by simp)),B (bm b' (by simp)),?_⟩
   ·rw[Kj];show _+6<=_;exact MH (Nat.add_le_add_right s1 6) (by show 40*6+6<=_;decide)
   ·rw[iL,mR,show(Str.ofString "map ").length=4 by decide +kernel];exact aB (MH (Nat.add_le_add_left s2 4) (by show 4+41*6<=_;decide))
   rw[iL,mR,Be (by simp)];by_cases fl:a*d=b'*c
   ·rw[G4 fl];have e1:(av.map [a,b',c,d,e,f']).code ds ps=3:=G4 fl;have e2:(av.map [a,b',c,d,e,f']).res ds ps=ds:=G4 fl;rw[e1,e2]at q;exact⟨cE _ _ _,q false ⟨rfl,bm⟩⟩
   ·rw[GS fl];refine⟨ds,rfl,st.d,st.l,rfl,bm,_,rfl,by rw[Kj];exact st.l,?_⟩;by_cases fr:(ds.map (MW [a,b',c,d,e,f'])).any bO=true
    ·rw[G4 fr];have e1:(av.map [a,b',c,d,e,f']).code ds ps=1:=(GS fl).trans (G4 fr);have e2:(av.map [a,b',c,d,e,f']).res ds ps=ds:=(GS fl).trans (G4 fr);rw[e1,e2]at q;exact⟨cE _ _ _,q false ⟨rfl,bm⟩⟩
    ·rw[GS fr];have e1:(av.map [a,b',c,d,e,f']).code ds ps=0:=(GS fl).trans (GS fr);have e2:(av.map [a,b',c,d,e,f']).res ds ps=ds.map (MW [a,b',c,d,e,f']):=(GS fl).trans (GS fr);rw[e1,e2]at q;exact⟨cE _ _ _,q true ⟨rfl,bm⟩⟩
theorem sT (F:aw K "_law_deed" "_law_deed" jM f fd) (C:Kc K mg κ)  (Mj:vM P w K mg base κ) (Ml:vP P w K mg base κ) (Mm:vQ P w K mg base κ)  : az P w K mg base (CX1 P w) 3 f fd ["_law_state", "_law_near", "_law_xs"] (aJ K (dX κ)):=by
 refine aw.okN F iX (by walk_at "l") fun _ _ _ _ _ _ hr=>⟨_,(ak (aO 3 iX.nd (ar bf (aq (dv 2) ae) ae)) (ak (aV (NB.pt (ki (dP (dv 1)) (ki (aH qz (dv 3) ae) (lj (aH kB (dv 3) ae))))) (ao (aO 3 iX.nd ae)) aL) (ak (aV (aH jE (dv 3) ae) (ao (aA (aI Mm hr (aa (dv 0) (aa (dv 1) (aa (OE.PV (bS (dv 2) (bI ae) bP)) ah)))))) aL) (ak (aV (aH jE (dv 3) ae) (ao (aA (aI Mj hr (aa (dv 0) (aa (OE.PV (bS (dv 2) (bI ae) bP)) ah))))) aL) (ak (aV (aH jE (dv 3) ae) (ao (aA (aI Ml hr (aa (dv 0) (aa (dv 1) (aa (OE.PV (bS (dv 2) (bI ae) bP)) ah)))))) aL) (ak (aV (NB.pt (ki (aH bT (dv 3) ae) (lj (aH bT (ar bf (aq (dv 2) ae) ae) ae)))) (ao (aA (bw (aa aK (aa ae (aa (bw ah) ah)))))) aL) (ak (aV (aH (eP (by exact hr.units)) (aq (dv 0) ae) (bw ah)) (ao (aA (bw (aa aK (aa ae (aa (aq (dv 0) ae) ah)))))) aL) (ao (aA (bw (aa aK (aa (qQ ae) (aa (aq (aq (dv 0) ae) (qQ ae)) ah))))))))))))),?_⟩
 rintro ds Q Ed ⟨d,e,xs,rfl,h⟩;walk_at "s";unfold fG at h;obtain⟨ds,ps,b,rfl,rfl,st,hl,hb,h⟩:=h;have A:=fun k (hk:k<7)=>ju (xs:=xs) k (by omega)
 have Xg:∀x∈xs.drop 1,0<=x/\x<2147483647:=fun x hx=>hb x (U1 hx)
 have l1:(xs.drop 1).length=xs.length - 1:=Og;refine D7 (fun HG=>∃w:Int,HG=[some (.val (.lst false [.lst false (ds.map HX),.lst false (ps.map fun q=>D.lst false (q.map HX))])),some (.val (.bl b)),some (.val (.lst false (xs.map D.int))),some (.val (.int w))]) (fun HG e=>?_) fun K hK=>?_
 rotate_left
 ·walk_at "x";refine⟨_,A 0 (by decide),?_⟩;walk_at "x";refine⟨by decide,?_⟩;split
  ·split
   ·split<;>exact hK _ ⟨_,rfl⟩
   ·exact hK _ ⟨_,rfl⟩
  ·exact hK _ ⟨_,rfl⟩
 obtain⟨w,rfl⟩:=e;refine rY (decide (w<7)) (fun R r=>by walk_at "x"; exact r) (fun _=>?_) fun _=>?_
 ·walk_at "x";rw[qp,cu];walk_at "x";exact⟨ds,ps,b,rfl,rfl,st,by omega,Xg,h⟩
 refine rY (decide (w<9)) (fun R r=>by walk_at "x"; exact r) (fun _=>?_) fun _=>?_
 ·walk_at "x";rw[qp,cu];walk_at "x";exact⟨ds,ps,rfl,st,by omega,Xg,h⟩
 refine rY (decide (w<12)) (fun R r=>by walk_at "x"; exact r) (fun _=>?_) fun _=>?_
 ·walk_at "x";rw[qp,cu];walk_at "x";exact⟨ds,ps,b,rfl,rfl,st,by omega,Xg,h⟩
 have fin:([]:yas).length<=sizeLine/\okD (D.lst false (ps.map fun q=>D.lst false (q.map HX)))/\okD (D.lst true [])/\if eqD (D.lst false (ps.map fun q=>D.lst false (q.map HX))) (D.lst true [])=true then[D.str (Str.ofString "back"),D.int 4,D.lst false (ds.map HX)].length<=sizeLine/\Q (D.lst true [D.str (Str.ofString "back"),D.int 4,D.lst false (ds.map HX)])else∃d,KQ (ps.map fun q=>D.lst false (q.map HX)) (-1)=some d/\[D.str (Str.ofString "back"),D.int (-1),d].length<=sizeLine/\Q (D.lst true [D.str (Str.ofString "back"),D.int (-1),d]):=by
  refine⟨aB (M9 _),yP ps,(Oc.lst (eL.nil 1)).ok,?_⟩;rw[Aq];have q:=h .back false True.intro;by_cases c:ps=[]
  ·rw[G4 (Ni c)];subst c;exact⟨cE _ _ _,q⟩
  ·rw[GS (by simp[c])];simp only[av.code,av.res,GS c]at q;exact⟨_,wY c ds,cE _ _ _,q⟩
 walk_at "x";split
 ·refine⟨_,A 1 (by decide),?_⟩;walk_at "x";refine⟨by decide,?_⟩;split
  ·exact⟨aB (M9 _),cE _ _ _,h .clear true True.intro⟩
  ·exact fin
 ·exact fin
theorem oA (F:aw K "_law_refused" "_law_refused" d9 f fd) (C:Kc K mg κ)   (IY:mg "ValueError" = none) (GQ:mg "isinstance" = none) (JG:mg "range" = none):az P w K mg base (CX1 P w) 1 f fd ["_law_caught", "_law_way"] (aJ K (dH κ)):=by
 refine aw.okN F fz (by walk_at "l") fun _ _ _ _ _ _ hr=>⟨_,(ak (aO 2 fz.nd (bw (aa (cG (by rfl) GQ (dw (v:=.ref κ.NoDots) (by rfl) C.JB rfl) (fun u h=>h) (dv 0)) (aa (cG (by rfl) GQ (dw (v:=.ref κ.NoSuch) (by rfl) C.JM rfl) (fun u h=>h) (dv 0)) (aa (cG (by rfl) GQ (dw (v:=.ref κ.NoMap) (by rfl) C.J1 rfl) (fun u h=>h) (dv 0)) ah))))) (ak (aO 2 fz.nd (ar aU (dv 2) (bw (aa (cG (by rfl) GQ (dw (v:=.ref κ.TooFew) (by rfl) C.JL rfl) (fun u h=>h) (dv 0)) (aa (cG (by rfl) GQ (dw (v:=.ref κ.NoAsk) (by rfl) C.JE rfl) (fun u h=>h) (dv 0)) (aa (cG (by rfl) GQ (dw (v:=.ref κ.NoText) (by rfl) C.Ju rfl) (fun u h=>h) (dv 0)) ah)))))) (ao (aA (gZ (eM (eP (by exact hr.units)) (dv 2) (fq (by rfl) (by exact cL (osc:=ai d9) (xs:=["_law_k"]) (ns:=["_law_way"]) (by decide +kernel)) (bE.cons 1 bE.nil) (pN (by rfl) JG (aa ae ah)) (fun _ _ _ _ _=>fi) (fun _ _ _ _ _=>(eM bT (ar aU (dv 0) ae) (dv 1))))) (je (cG (by rfl) GQ (uq (v:=.ty "ValueError") (by rfl) IY (by rfl) rfl) (fun u h=>h) (dv 0)))))))),?_⟩
 rintro ds Q Ed ⟨e,k,rfl,h⟩;walk_at "s";unfold dE at h;obtain⟨c,rfl,hc,h⟩:=h;have key:∀(k:Int) (L:yas) (R:D->Prop),R (.lst true [.bl (decide (1=k)),.bl (decide (2=k)),.bl (decide (3=k)),.bl (decide (4=k)),.bl (decide (5=k)),.bl (decide (6=k))])->mE (uR (cQ (dC (D.int 6)) gY)) [1] qN (Ox (eA fun i j=>D.bl (decide (i=j))) (Ox m5 (bN 0) (dC (D.int 1))) (bN 1)) [some (.val (.exc c)),some (.val (.int k)),some (.val (.lst true L))] R:=fun k L R r=>by
  refine PD.comp_map [0,1,2,3,4,5] D.int (fun _=>true) (fun z=>D.bl (decide (z+1=k))) (fun R q=>?_) (aB (by decide)) (fun x _ K hK=>?_) (fun x hx _ K hK=>?_) ?_
  ·walk_at "x";exact⟨⟨by decide,by decide⟩,q⟩
  ·walk_at "x";exact hK
  ·walk_at "x";exact hK
  ·exact r
 have Rk:∀(x:Bool) (L:List Bool),okD (D.lst x (L.map D.bl)):=fun x L=>(Oc.lst (n:=1) (eL.of fun d hd=>by obtain⟨z,_,rfl⟩:=Pn.mp hd;exact Dt z)).ok
 walk_at "x";rcases hc with⟨rfl,rfl⟩| ⟨rfl,rfl⟩| ⟨rfl,rfl⟩| ⟨rfl,rfl⟩
 ·refine⟨_,C.HH,_,C.HJ,_,C.Ig,cE _ _ _,_,C.HI,_,C.Ii,_,C.HK,cE _ _ _,aB (by show 6<=_;decide),key 1 _ _ ⟨Rk true [_,_,_,_,_,_],Rk true [_,_,_,_,_,_],?_⟩⟩;rw[G4 (by exact hJ _)];exact⟨_,C.G5,h⟩
 ·refine⟨_,C.HL,_,C.HN,_,C.Ik,cE _ _ _,_,C.HM,_,C.Im,_,C.HQ,cE _ _ _,aB (by show 6<=_;decide),key 2 _ _ ⟨Rk true [_,_,_,_,_,_],Rk true [_,_,_,_,_,_],?_⟩⟩;rw[G4 (by exact hJ _)];exact⟨_,C.G7,h⟩
 ·refine⟨_,C.Ip,_,C.Ir,_,C.IV,cE _ _ _,_,C.Iq,_,C.IW,_,C.Iu,cE _ _ _,aB (by show 6<=_;decide),key 3 _ _ ⟨Rk true [_,_,_,_,_,_],Rk true [_,_,_,_,_,_],?_⟩⟩;rw[G4 (by exact hJ _)];exact⟨_,C.Hi,h⟩
 ·refine⟨_,C.HR,_,C.HU,_,C.Iw,cE _ _ _,_,C.HS,_,C.Iz,_,C.HV,cE _ _ _,aB (by show 6<=_;decide),key 4 _ _ ⟨Rk true [_,_,_,_,_,_],Rk true [_,_,_,_,_,_],?_⟩⟩;rw[G4 (by exact hJ _)];exact⟨_,C.G9,h⟩
def zR (C:Addr):Sp:=fun vs H Q _=>∃x dx,vs=[.ref x]/\H x=some (.ins C dx [])/\∀l1 l2,H l1=none->H l2=none->l1≠l2->Q .HZ (L2.upd (L2.upd (L2.upd H l1 (.lst [])) l2 (.lst [])) x (.ins C dx [("dots", .ref l1),("past", .ref l2)]))
theorem ox {f:Addr} {fd:FuncData} (F:aw K "__init__" "Sheet.__init__" gf f fd) (C:Kc K mg κ):az P w K mg base (CX1 P w) 1 f fd ["self"] (zR κ.Sheet):=by
 obtain⟨oc,od,dV,kV,doc,pm,an,J2,ct,Oo,rfl,lk,LX⟩:=F.ex;refine jB lk LX oV (fun vs H Q E h=>?_) fun A outer s H vs Q E hr h=>?_
 ·obtain⟨x,dx,rfl,_⟩:=h;rfl
 ·obtain⟨x,dx,rfl,hx,q⟩:=h;refine⟨_,aR (kI (pv 0) (dU bA) rfl) (bC (kI (pv 0) (dU bA) rfl)),?_⟩;refine⟨M9 _,fun l1 h1=>?_⟩;have n1:x≠l1:=fun z=>by rw[<- z,hx]at h1;cases h1
  refine⟨_,rfl,x,_,dx,_,rfl,by rw[aj n1];exact hx,C.GX,C.GW,by show 0<1000;decide,M9 _,fun l2 h2=>?_⟩;have n2:l2≠x:=fun z=>by rw[z,au]at h2;cases h2
  rw[aj n2]at h2;have n3:l2≠l1:=fun z=>by rw[z,au]at h2;cases h2
  rw[aj n3]at h2;refine⟨_,rfl,x,_,dx,_,rfl,by rw[aj (Ne.symm n2)];exact au,C.GX,C.Hl,by show 1<1000;decide,?_⟩;have e:∀i0 i1,L2.upd (L2.upd (L2.upd (L2.upd H l1 (.lst [])) x i0) l2 (.lst [])) x i1=L2.upd (L2.upd (L2.upd H l1 (.lst [])) l2 (.lst [])) x i1:=fun i0 i1=>funext fun b=>by
   by_cases c:b=x
   ·rw[c,au,au]
   ·rw[aj c,aj c];by_cases c2:b=l2
    ·rw[c2,au,au]
    ·rw[aj c2,aj c2,aj c]
  rw[e];exact q l1 l2 h1 h2 (Ne.symm n3)
theorem dh (a b:D):(([("dots" : Str),("past" : Str)]).zip [a,b]).lookup ("dots" : Str)=some a:=by rw[S4,M8,show(("dots" : Str) == "dots")=true by decide +kernel]
theorem AH (a b:D):(([("dots" : Str),("past" : Str)]).zip [a,b]).lookup ("past" : Str)=some b:=by rw[S4,M8,show(("past" : Str) == "dots")=false by decide +kernel,S4,M8,show(("past" : Str) == "past")=true by decide +kernel]
theorem AJ (a b:V):([(("dots" : Str),a),(("past" : Str),b)]).lookup ("dots" : Str)=some a:=by rw[M8,show(("dots" : Str) == "dots")=true by decide +kernel]
theorem oo (a b:V):([(("dots" : Str),a),(("past" : Str),b)]).lookup ("past" : Str)=some b:=by rw[M8,show(("past" : Str) == "dots")=false by decide +kernel,M8,show(("past" : Str) == "past")=true by decide +kernel]
def si (C:Addr):Sp:=fun vs H Q _=>∃x dx v p us y,vs=[.ref x,y]/\H x=some (.ins C dx [("dots", v),("past", .ref p)])/\H p=some (.lst us)/\us.length<=20/\∀l H',PD.ag H H'->H l=none->H' l=some (.lst (L2.cC (us++[v]) (some (-20)) none)) →
 Q .HZ (L2.upd H' x (.ins C dx [("dots", y),("past", .ref l)]))
theorem l8 {f:Addr} {fd:FuncData} (F:aw K "change" "Sheet.change" eY f fd) (C:Kc K mg κ):az P w K mg base (CX1 P w) 1 f fd ["self", "dots"] (si κ.Sheet):=by
 obtain⟨oc,od,dV,kV,doc,pm,an,J2,ct,Oo,rfl,lk,LX⟩:=F.ex;obtain⟨tm,em⟩:=C.Hz;refine jB lk LX mi (fun vs H Q E h=>?_) fun A outer s H vs Q E hr h=>?_
 ·obtain⟨x,dx,v,p,us,y,rfl,_⟩:=h;rfl
 ·obtain⟨x,dx,v,p,us,y,rfl,hx,hp,hl,q⟩:=h;refine⟨_,aR (kI (pv 0) (me oZ (zP xh (mY (pv 0) rfl) (dU (aZ (mY (pv 0) rfl) bA))) (oI (vn nG (dw (v:=.int 20) (by rfl) em ⟨tm,rfl⟩))) oH) rfl) (bC (kI (pv 0) (pv 1) rfl)),?_⟩;refine⟨_,rfl,x,_,dx,_,.ref p,rfl,hx,C.GX,C.Hl,oo _ _,?_⟩;refine⟨_,rfl,x,_,dx,_,v,rfl,hx,C.GX,C.GW,AJ _ _,aB (by show 1<=_;decide),fun l1 h1=>?_⟩;have p1:p≠l1:=fun z=>by rw[<- z,hp]at h1;cases h1
  have x1:x≠l1:=fun z=>by rw[<- z,hx]at h1;cases h1
  refine⟨p,l1,us,[v],rfl,rfl,by rw[aj p1];exact hp,au,aB (by show _+1<=_;omega),fun l2 h2=>?_⟩;have x2:x≠l2:=fun z=>by rw[<- z,aj x1,hx]at h2;cases h2
  refine⟨20,rfl,-20,rfl,l2,us++[v],rfl,SqL.of au,fun l3 h3=>?_⟩;have x3:x≠l3:=fun z=>by rw[<- z,aj x2,aj x1,hx]at h3;cases h3
  have sm:PD.ag H (L2.upd (L2.upd (L2.upd H l1 (.lst [v])) l2 (.lst (us++[v]))) l3 (.lst (L2.cC (us++[v]) (some (-20)) none))):=((PD.ag.upd h1).trans (PD.ag.upd h2)).trans (PD.ag.upd h3);refine⟨_,rfl,x,_,dx,_,rfl,sm _ _ hx,C.GX,C.Hl,by show 2<1000;decide,?_⟩;refine⟨_,rfl,_,rfl,x,_,dx,_,rfl,au,C.GX,C.GW,by show 2<1000;decide,?_⟩;rw[pC];exact q l3 _ sm (((PD.ag.upd h1).trans (PD.ag.upd h2)).free h3) au
def xH (C:Addr):Sp:=fun vs H Q _=>∃x dx v p us y,vs=[.ref x]/\H x=some (.ins C dx [("dots", v),("past", .ref p)])/\H p=some (.lst (us++[y]))/\Q .HZ (L2.upd (L2.upd H p (.lst us)) x (.ins C dx [("dots", y),("past", .ref p)]))
theorem lD {f:Addr} {fd:FuncData} (F:aw K "go_back" "Sheet.go_back" cJ f fd) (C:Kc K mg κ) (GZ:mg "len" = none):az P w K mg base (CX1 P w) 1 f fd ["self"] (xH κ.Sheet):=by
 obtain⟨oc,od,dV,kV,doc,pm,an,J2,ct,Oo,rfl,lk,LX⟩:=F.ex;refine jB lk LX gm (fun vs H Q E h=>?_) fun A outer s H vs Q E hr h=>?_
 ·obtain⟨x,dx,v,p,us,y,rfl,_⟩:=h;rfl
 ·obtain⟨x,dx,v,p,us,y,rfl,hx,hp,q⟩:=h;have px:x≠p:=fun z=>by rw[z,hp]at hx;cases hx
  refine⟨_,aR (gu (uv zN (rJ gU (by rfl) GZ NW (aZ (mY (pv 0) rfl) bA)) bR (xa _)) (bC yT) fy) (bC (kI (pv 0) (DR PySem.F.plainAttrs_list PySem.F.slot_list_pop PySem.F.type_list_pop Dl (mY (pv 0) rfl)) rfl)),?_⟩;refine⟨_,rfl,x,_,dx,_,.ref p,rfl,hx,C.GX,C.Hl,oo _ _,p,us++[y],rfl,.inl (SqL.of hp),rfl,_,rfl,?_⟩;have ne:¬decide (V.int ((us++[y]).length:Int)=V.int 0)=true:=fun z=>by have:=Qw z;injection this with this;rw[Mw]at this;have e1:([y]:yar).length=1:=rfl;omega
  dsimp only;rw[GS ne];refine⟨_,rfl,x,_,dx,_,.ref p,rfl,hx,C.GX,C.Hl,oo _ _,.inl ⟨rfl,_,SqL.of hp⟩,p,us++[y],y,rfl,rfl,hp,by simp,?_⟩;refine⟨_,rfl,x,_,dx,_,rfl,by rw[aj px];exact hx,C.GX,C.GW,by show 2<1000;decide,?_⟩;rw[List.dropLast_concat];exact q
def av.QZ(κ:Cls)(ds:List Hr)(ps:List (List Hr))(δ:av)(Ed:Value->Prop):Prop :=
 (δ.code ds ps=1/\Ed (.ref κ.NoDots))∨(δ.code ds ps=2/\Ed (.ref κ.NoSuch))∨(δ.code ds ps=3/\Ed (.ref κ.NoMap))∨(δ.code ds ps=4/\Ed (.ref κ.TooFew))
def nN (K:yac) (w:World) (mg:yam):Prop:=∃a es,mg "QUESTIONS" = some (.ref a)/\PD.da K w a es/\PD.Od es "dots" = mg "tell_dots" /\ (mg "tell_dots").isSome=true/\∀δ:av,PD.Od es δ.nm=none
def nJ (K:yac) (w:World) (mg:yam):Prop:=∃a es,mg "DEEDS" = some (.ref a)/\PD.da K w a es/\PD.Od es "put" = mg "put" /\ PD.Od es "cut" = mg "cut" /\ PD.Od es "map" = mg "mapped" /\ PD.Od es "clear" = mg "cleared"
abbrev N3 (κ:Cls) (ds:List Hr) (ps:List (List Hr)):D:=.obj κ.Sheet ["dots", "past"] [.lst false (ds.map HX),.lst false (ps.map fun q=>D.lst false (q.map HX))]
def ux(κ:Cls):DSp:=fun as _ Ed=>∃ds:List Hr,as=[N3 κ ds []]/\Ed (.ref κ.TooFew)
theorem kE (F:aw K "go_back" "Sheet.go_back" cJ f fd) (C:Kc K mg κ) (GZ:mg "len" = none):az P w K mg base (CX1 P w) 1 f fd ["self"] (aJ K (ux κ)):=by
 refine aw.OC F gm (by walk_at "l") fun J2 A outer s H E Ed hr pm px hx=>⟨_,(ak (aV (aH bT (bg cA (by rfl) GZ NW (aa (jd C.GX C.Hl (dv 0)) ah)) ae) (ao (bQ pm (by rfl) C.JL C.JI rfl (aa aK ah))) aL) (ao ft)),?_⟩
 rintro as Q ⟨ds,rfl,h⟩;walk_at "s";unfold jy;walk_at "x";refine⟨_,_,_,rfl,AH _ _,?_⟩;walk_at "x";exact⟨PH _,h⟩
def sh(κ:Cls):DSp:=fun as Q Ed=>∃(ds:List Hr) (ps:List (List Hr)) (f:Str) (fs vs:yah) (gs:yas),as=[N3 κ ds ps,.str (Str.join ⟨#[32]⟩ (f::vs))]/\x9 f fs vs gs/\cS ds ps ∧
 ((f = "dots" /\ Q (.str (jn ds)))∨∃ δ:av,f=δ.nm/\gs=δ.given/\δ.ok/\δ.QZ κ ds ps Ed)
theorem av.Jx{κ:Cls}{ds:List Hr}{ps:List (List Hr)}{δ:av}{Ed:Value->Prop}{c:Int}(h:δ.QZ κ ds ps Ed)(hc:δ.code ds ps=c):(c=1/\Ed (.ref κ.NoDots))∨(c=2/\Ed (.ref κ.NoSuch))∨(c=3/\Ed (.ref κ.NoMap))∨(c=4/\Ed (.ref κ.TooFew)):=by
 unfold av.QZ at h
 rwa [hc]at h
theorem bZ(δ:av):aC δ.given=δ.given:=by
 cases δ with
 |put g=>show aC [HX g]=_;rw[aT,kZ,b9];rfl
 |cut n=>rfl
 |map m=>exact cu m
 |clear=>rfl
 |back=>rfl
theorem zz(f:Str)(vs:yah):PD.cutD (D.str f::vs.map D.str) (some 1) none=vs.map D.str:=qq D.str (f::vs) (n:=0) (by decide)
theorem ow (F:aw K "ask" "Sheet.ask" bW f fd) (C:Kc K mg κ) (FO:k7 K w mg) (QO:nN K w mg) (DO:nJ K w mg) (JN:lK P w K mg base κ) (JO:lJ P w K mg base κ) (K4:sJ P w K mg base κ) (Nq:zq P w K mg base κ) (Nt:zp P w K mg base κ) (Kz:qD P w K mg base κ)
  (MY:jr P w K mg base κ.Sheet "go_back" 1 ["self"] (ux κ)) (K5:jr P w K mg base κ.Sheet "change" 1 ["self", "dots"] fun _ _ _=>False) (GZ:mg "len" = none) (HY:mg "str" = none) (KP:mg "zip" = none):az P w K mg base (CX1 P w) 9 f fd ["self", "row"] (aJ K (sh κ)):=by
 obtain⟨aF,esF,mF,kF,oF⟩:=FO;obtain⟨aQ,esQ,mQ,kQ,oQ,sQ,nQ⟩:=QO;obtain⟨aD,esD,mD,kD,oP,oC,oM,oE⟩:=DO;refine aw.OC F bD (by walk_at "l") fun J2 A outer s H E Ed hr pm px hx=>⟨_,(ak (aO 2 bD.nd (aI JN hr (aa (dv 1) ah)))
  (ak (aO 3 bD.nd (aq (dv 2) ae))
  (ak (sN 4 bD.nd (by rfl) (by exact cL (osc:=ai bW) (xs:=["form", "word"]) (ns:=[]) (by decide +kernel)) bE.nil (.cons (.cons .nil)) (t6 kF mF KP (dv 3) (OE.PV (bS (dv 2) (bI ae) bP))) (fun _ _ _ _ _=>fi) (fun _ _ _ _ _=>(aI JO hr (aa (dv 0) (aa (dv 1) ah)))))
  (ak (aV (wD kQ mQ (dv 3)) (ao (aA (iM px kQ mQ (dv 3) (aa (jd C.GX C.GW (dv 0)) (aa (dv 4) ah))))) aL)
  (ak (aV (aH (eP (by exact hr.units)) (dv 3) aK) (ao (nZ (wj px C.GX MY (hr.mono (by decide)) (dv 0)))) (ao (nZ (tM C.GX K5 (hr.mono (by decide)) (dv 0) (aa (iM px kD mD (dv 3) (aa (jd C.GX C.GW (dv 0)) (aa (dv 4) ah))) ah)))))
  (ao (aA (bu cT (by rfl) HY OL (aa (bg cA (by rfl) GZ NW (aa (jd C.GX C.GW (dv 0)) ah)) ah))))))))),?_⟩
 rintro as Q ⟨ds,ps,f0,fs,vs,gs,rfl,R,st,h⟩;walk_at "s";walk_at "x";refine⟨f0,vs,fs,rfl,R.i,R.l,R.r,?_⟩;walk_at "x";refine pM (gs:=gs) R.t R.g (by have:=R.r.l;have:=R.l;rw[MM]at *;omega) (fun S s=>?_) (fun z hz S s=>?_) ?_
 ·unfold qt;walk_at "x";rw[zz];exact⟨f0,fs,rfl,oF _ _ R.i,s⟩
 ·obtain⟨T,d,e⟩:=R.t z hz;rw[e]at s;show cZ κ [.str z.1,.str z.2] S fun _=>False
  rw[fh];exact⟨T,d,e,s⟩
 have Xh:∀{x:Str},WO x->okD (.str x):=fun W=>cR W.a
 have of0:=Xh (R.r.w f0 M4);have ob:okD (.str (Str.ofString "back")):=cR fun c hc=>by simpa using O5.mp (show(sgn (Str.ofString "back")).all (·<128)=true by decide +kernel) c hc
 rcases h with⟨rfl,h⟩| ⟨δ,rfl,rfl,ho,h⟩
 ·unfold nW gX jy;walk_at "x";rw[oQ,G4 sQ];refine⟨_,"tell_dots", _,_,_,rfl,oQ,K4,hr.mono (by decide),?_⟩;walk_at "x";exact⟨_,_,_,rfl,dh _ _,ds,by rw[ax,cq],st.d,by have:=st.l;omega,h⟩
 have Ux:=st.l;unfold nW;walk_at "x";rw[nQ δ];refine(GS (by decide)).mpr ⟨of0,ob,?_⟩;cases δ with
 |back =>
  refine(G4 (by decide +kernel)).mpr ?_;have c:ps=[]:=by
   by_cases c:ps=[]
   ·exact c
   ·rcases av.Jx h (GS c)with⟨z,_⟩| ⟨z,_⟩| ⟨z,_⟩| ⟨z,_⟩<;>cases z
  subst c;unfold wa;walk_at "x";refine⟨_,_,rfl,by decide +kernel,ds,?_,?_⟩
  ·rw[ax,aT,aT,ax,ax,cq];rfl
  ·rcases av.Jx (c:=4) h rfl with⟨z,_⟩| ⟨z,_⟩| ⟨z,_⟩| ⟨_,z⟩
   ·cases z
   ·cases z
   ·cases z
   ·exact z
 |put g =>
  refine(GS (show¬(("put" : Str)==Str.ofString "back")=true by decide +kernel)).mpr ?_;unfold mG gX jy;walk_at "x";refine⟨_,_,rfl,by decide +kernel,_,_,_,_,_,rfl,oP,Nq,hr.mono (by decide),_,_,_,rfl,dh _ _,?_⟩;walk_at "x";refine⟨ds,g,rfl,by rw[bZ];rfl,by omega,?_⟩;by_cases c:30<=ds.length
  ·rw[G4 c];rcases av.Jx h (G4 c)with⟨_,z⟩| ⟨z,_⟩| ⟨z,_⟩| ⟨z,_⟩
   ·exact z
   ·cases z
   ·cases z
   ·cases z
  ·rcases av.Jx h (GS c)with⟨z,_⟩| ⟨z,_⟩| ⟨z,_⟩| ⟨z,_⟩<;>cases z
 |cut n =>
  refine(GS (show¬(("cut" : Str)==Str.ofString "back")=true by decide +kernel)).mpr ?_;unfold mG gX jy;walk_at "x";refine⟨_,_,rfl,by decide +kernel,_,_,_,_,_,rfl,oC,Nt,hr.mono (by decide),_,_,_,rfl,dh _ _,?_⟩;walk_at "x";refine⟨ds,n,rfl,by rw[bZ];rfl,by omega,?_⟩;by_cases c:n<0∨(ds.length:Int)<=n
  ·rw[G4 c];rcases av.Jx h (G4 c)with⟨z,_⟩| ⟨_,z⟩| ⟨z,_⟩| ⟨z,_⟩
   ·cases z
   ·exact z
   ·cases z
   ·cases z
  ·rcases av.Jx h (GS c)with⟨z,_⟩| ⟨z,_⟩| ⟨z,_⟩| ⟨z,_⟩<;>cases z
 |map m =>
  refine(GS (show¬(("map" : Str)==Str.ofString "back")=true by decide +kernel)).mpr ?_;unfold mG gX jy;walk_at "x";refine⟨_,_,rfl,by decide +kernel,_,_,_,_,_,rfl,oM,Kz,hr.mono (by decide),_,_,_,rfl,dh _ _,?_⟩;walk_at "x";refine⟨ds,m,rfl,by rw[bZ];rfl,st.d,st.l,ho.1,ho.2,?_⟩;by_cases c:m.getD 0 0*m.getD 3 0=m.getD 1 0*m.getD 2 0
  ·rw[G4 c];rcases av.Jx h (G4 c)with⟨z,_⟩| ⟨z,_⟩| ⟨_,z⟩| ⟨z,_⟩
   ·cases z
   ·cases z
   ·exact z
   ·cases z
  ·rw[GS c];by_cases c2:(ds.map (MW m)).any bO=true
   ·rw[G4 c2];rcases av.Jx h ((GS c).trans (G4 c2))with⟨_,z⟩| ⟨z,_⟩| ⟨z,_⟩| ⟨z,_⟩
    ·exact z
    ·cases z
    ·cases z
    ·cases z
   ·rcases av.Jx h ((GS c).trans (GS c2))with⟨z,_⟩| ⟨z,_⟩| ⟨z,_⟩| ⟨z,_⟩<;>cases z
 |clear=>rcases av.Jx h rfl with⟨z,_⟩| ⟨z,_⟩| ⟨z,_⟩| ⟨z,_⟩<;>cases z
theorem cW:∀ds:List Hr,gr (ds.map HX)
 |[]=>True.intro
 |_::r=>⟨⟨True.intro,True.intro,True.intro,True.intro,True.intro⟩,cW r⟩
theorem eI:∀ps:List (List Hr),gr (dM ps)
 |[]=>True.intro
 |q::r=>⟨cW q,eI r⟩
structure Sh(K:yac)(M:Addr->Prop)(H:Hp)(C x p:Addr)(ds:List Hr)(ps:List (List Hr)):Prop where
 ex:∃dx v us,H x=some (.ins C dx [("dots", v),("past", .ref p)])/\H p=some (.lst us)/\Den K (Av M) H (.lst false (ds.map HX)) v/\af K (Av M) H (dM ps) us
structure Nh(K:yac)(M:Addr->Prop)(H:Hp)(st:Addr)(ds:List Hr)(ps:List (List Hr)):Prop where
 ex:∃a b us,H st=some (.lst [a,.ref b])/\¬M b/\H b=some (.lst us)/\Den K (Av M) H (.lst false (ds.map HX)) a/\af K (Av M) H (dM ps) us
section
variable{M M' N:Addr->Prop}{H H':Hp}{C x p st:Addr}{ds:List Hr}{ps:List (List Hr)}
theorem Sh.Jy(S:Sh K M H C x p ds ps)(e:aG N H H')(nx:¬N x)(np:¬N p)(hN:∀a,N a->M a)(ht:∀a,N a->∀vs,H a≠some (.tup vs))(hM:∀a,M' a->M a∨(H a=none/\K.lookup a=none)):Sh K M' H' C x p ds ps:=by
 obtain⟨dx,v,us,h1,h2,h3,h4⟩:=S.ex;have k:∀t a,Av M' t a->Av M t a∨(H a=none/\K.lookup a=none):=fun t a z=>z.elim (fun z=>.inl (.inl z)) fun z=>(hM a z).elim (fun z=>.inl (.inr z)) .inr
 exact⟨dx,v,us,e.kp _ _ h1 True.intro nx,e.kp _ _ h2 True.intro np,Den.Jy e ht (fun a z _=>.inr (hN a z)) k (cW ds) h3,af.Jy e ht (fun a z _=>.inr (hN a z)) k (eI ps) h4⟩
theorem Nh.Jy(S:Nh K M H st ds ps)(e:aG N H H')(nx:¬N st)(hN:∀a,N a->M a)(ht:∀a,N a->∀vs,H a≠some (.tup vs))(hM:∀a,M' a->M a∨(H a=none/\K.lookup a=none)):Nh K M' H' st ds ps:=by
 obtain⟨a,b,us,h1,nb,hb,h2,h3⟩:=S.ex;have k:∀t a,Av M' t a->Av M t a∨(H a=none/\K.lookup a=none):=fun t a z=>z.elim (fun z=>.inl (.inl z)) fun z=>(hM a z).elim (fun z=>.inl (.inr z)) .inr
 exact⟨a,b,us,e.kp _ _ h1 True.intro nx,fun z=>(hM b z).elim nb fun z=>(by rw[hb]at z;cases z.1),e.kp _ _ hb True.intro fun z=>nb (hN b z),Den.Jy e ht (fun a z _=>.inr (hN a z)) k (cW ds) h2,af.Jy e ht (fun a z _=>.inr (hN a z)) k (eI ps) h3⟩
theorem Sh.mono(S:Sh K M H C x p ds ps)(hM:∀a,M' a->M a):Sh K M' H C x p ds ps:=by
 obtain⟨dx,v,us,h1,h2,h3,h4⟩:=S.ex;have k:∀t a,Av M' t a->Av M t a:=fun t a z=>z.elim .inl fun z=>.inr (hM a z)
 exact⟨dx,v,us,h1,h2,h3.HF k,h4.HF k⟩
theorem Sh.same(S:Sh K M H C x p ds ps)(e:PD.ag H H'):Sh K M H' C x p ds ps:=by obtain⟨dx,v,us,h1,h2,h3,h4⟩:=S.ex;exact⟨dx,v,us,e _ _ h1,e _ _ h2,h3.same e,h4.same e⟩
theorem Nh.same(S:Nh K M H st ds ps)(e:PD.ag H H'):Nh K M H' st ds ps:=by obtain⟨a,b,us,h1,nb,hb,h2,h3⟩:=S.ex;exact⟨a,b,us,e _ _ h1,nb,e _ _ hb,h2.same e,h3.same e⟩
theorem Sh.obj{P:Addr->Prop}(S:Sh K M H κ.Sheet x p ds ps)(k:PX.eK K κ.Sheet)(hP:∀a,P a->M a)(np:¬P p):Den K (fun t a=>P a∨(t=true/\∃o,H a=some o)) H (N3 κ ds ps) (.ref x):=by
 obtain⟨dx,v,us,h1,h2,h3,h4⟩:=S.ex;have e:∀t a,(P a∨(t=true/\∃o,H a=some o))->Av M t a:=fun t a z=>z.elim (fun z=>.inr (hP a z)) fun z=>.inl z.1
 exact Den.obj (vs:=[v,.ref p]) h1 rfl k (.cons (h3.HF e) (.cons (Den.lst (fun z=>z.elim np fun z=>by cases z.1) (.any (SqL.of h2)) (h4.HF e)) .nil))
theorem Nh.lst{P:Addr->Prop}(S:Nh K M H st ds ps)(hP:∀a,P a->M a)(np:¬P st):Den K (fun t a=>P a∨(t=true/\∃o,H a=some o)) H (.lst false [.lst false (ds.map HX),.lst false (dM ps)]) (.ref st):=by
 obtain⟨a,b,us,h1,nb,hb,h2,h3⟩:=S.ex;have e:∀t a,(P a∨(t=true/\∃o,H a=some o))->Av M t a:=fun t a z=>z.elim (fun z=>.inr (hP a z)) fun z=>.inl z.1
 exact Den.lst (fun z=>z.elim np fun z=>by cases z.1) (.any (SqL.of h1)) (.cons (h2.HF e) (.cons (Den.lst (fun z=>z.elim (fun z=>nb (hP b z)) fun z=>by cases z.1) (.any (SqL.of hb)) (h3.HF e)) .nil))
end
theorem zx(L:yar):L2.cC L (some (-20)) none=L.drop (L.length - 20):=by
 unfold L2.cC;rw[HT.ig,show HT.Md L.length 0 (some (-20))=L.length - 20 from by show(if(-20:Int)<0 then((-20:Int)+(L.length:Int)).toNat else min (-20:Int).toNat L.length)=_;rw[G4 (by decide)];omega]
 refine P9 ?_;rw[Og];exact Ka _
theorem kg{P:yak}{H:Hp}:∀(n:Nat) {ds:yas} {vs:yar},af K P H ds vs->af K P H (ds.drop n) (vs.drop n)
 |0,_,_,h=>h
 |n+1,[],vs,h=>by simp only[af]at h;subst h;rw[List.drop_nil,List.drop_nil];exact .nil
 |n+1,d::ds,vs,h=>by simp only[af]at h;obtain⟨v,r,rfl,_,h2⟩:=h;exact kg n h2
theorem gd{P:yak}{H:Hp}:∀{ds:yas} {d:D} {vs:yar},af K P H (ds++[d]) vs->∃us y,vs=us++[y]/\af K P H ds us/\Den K P H d y
 |[],d,vs,h=>by simp only[List.nil_append,af]at h;obtain⟨v,r,rfl,h1,rfl⟩:=h;exact⟨[],v,rfl,.nil,h1⟩
 |e::ds,d,vs,h=>by simp only[Rt,af]at h;obtain⟨v,r,rfl,h1,h2⟩:=h;obtain⟨us,y,rfl,h3,h4⟩:=gd h2;exact⟨v::us,y,rfl,.cons h1 h3,h4⟩
theorem tF(vs:yah):aC (vs.map D.str)=vs.map D.str:=gI _ pT vs
theorem av.OV {ds : List Hr} {ps : List (List Hr)} (st : cS ds ps) (δ : av) : (δ.res ds ps).length <= 31 := by
  have l := st.l;cases δ with
  | put g => unfold av.res; dsimp only; split
             · omega
             · rw [Mw]; show _ + 1 <= _; omega
  | cut n => unfold av.res; dsimp only; split
             · omega
             · rw [Mw, O6, Og]; omega
  | map m => unfold av.res; dsimp only; split
             · omega
             · split
               · omega
               · rw [Kj]; omega
  | clear => exact M9 _
  | back =>
    show (ps.getLastD ds).length <= 31;rcases SU ps with e | ⟨r, q, e⟩
    · rw [e]; show ds.length <= 31; omega
    · rw [SR] at e;rw [e, show (r ++ [q]).getLastD ds = q by simp];have := (st.p q (by rw [e]; simp)).1;omega
theorem uY (a b:V) {m:Str} (h1:(m==("dots" : Str))=false) (h2:(m==("past" : Str))=false):([(("dots" : Str),a),(("past" : Str),b)]).lookup m=none:=by rw[M8,h1,M8,h2,List.lookup_nil]
theorem av.Rl{ds:List Hr}{ps:List (List Hr)}(δ:av)(hb:δ ≠ .back)(hc:δ.code ds ps<=0):δ.code ds ps=0:=by
 cases δ with
 |back=>exact absurd rfl hb
 |clear=>rfl
 |put g =>
  have Nb:(if 30<=ds.length then(1:Int)else 0)<=0:=hc;show(if 30<=ds.length then(1:Int)else 0)=0;split at Nb<;>rename_i c
  ·omega
  ·rw[GS c]
 |cut n =>
  have Nb:(if n<0∨(ds.length:Int)<=n then(2:Int)else 0)<=0:=hc;show(if n<0∨(ds.length:Int)<=n then(2:Int)else 0)=0;split at Nb<;>rename_i c
  ·omega
  ·rw[GS c]
 |map m =>
  have Nb:(if m.getD 0 0*m.getD 3 0=m.getD 1 0*m.getD 2 0 then(3:Int)else if(ds.map (MW m)).any bO=true then 1 else 0)<=0:=hc;show(if m.getD 0 0*m.getD 3 0=m.getD 1 0*m.getD 2 0 then(3:Int)else if(ds.map (MW m)).any bO=true then 1 else 0)=0;split at Nb<;>rename_i c
  ·omega
  ·rw[GS c];split at Nb<;>rename_i c2
   ·omega
   ·rw[GS c2]
def xG(K:yac)(C:Addr):Sp:=fun vs H Q _=>∃(M:Addr->Prop) (x p:Addr) (ds:List Hr) (ps:List (List Hr)) (δ:av),vs=[.ref x,.str δ.row]/\cb K H/\(∀a,M a->∃o,H a=some o)/\M x/\M p/\Sh K M H C x p ds ps/\cS ds ps/\δ.ok/\δ.code ds ps<=0 ∧
 ∀ H' p',aG (fun a=>a=x∨a=p) H H'->(p'=p∨(H p'=none/\K.lookup p'=none))->Sh K (fun a=>M a∨a=p') H' C x p' (δ.res ds ps) (δ.ML ds ps)->qk K H'->Q (.str (tI (δ.res ds ps).length)) H'
theorem Al (F:aw K "ask" "Sheet.ask" bW f fd) (C:Kc K mg κ) (FO:k7 K w mg) (QO:nN K w mg) (DO:nJ K w mg) (JN:lK P w K mg base κ) (JO:lJ P w K mg base κ) (Nq:zq P w K mg base κ) (Nt:zp P w K mg base κ) (Kz:qD P w K mg base κ) (Mn:vL P w K mg base κ)
  (MY:jt P w K mg base κ.Sheet "go_back" 1 ["self"] (xH κ.Sheet)) (K5:jt P w K mg base κ.Sheet "change" 1 ["self", "dots"] (si κ.Sheet)) (GZ:mg "len" = none) (HY:mg "str" = none) (KP:mg "zip" = none):az P w K mg base (CX1 P w) 9 f fd ["self", "row"] (xG K κ.Sheet):=by
 obtain⟨oc,od,dV,kV,doc,pm,an,J2,ct,Oo,rfl,lk,LX⟩:=F.ex;obtain⟨aF,esF,mF,kF,oF⟩:=FO;obtain⟨aQ,esQ,mQ,kQ,oQ,sQ,nQ⟩:=QO;obtain⟨aD,esD,mD,kD,oP,oC,oM,oE⟩:=DO;refine jB lk LX bD (fun vs H Q E h=>?_) fun A outer s H vs Q E hr h=>?_
 ·obtain⟨M,x,p,ds,ps,δ,rfl,_⟩:=h;rfl
 ·obtain⟨M,x,p,ds,ps,δ,rfl,tk,mt,mx,mp,S,st,ho,hc,q⟩:=h;have R:=av.Rj ho;refine⟨_,aR (dW (i:=2) bD.nd (by rfl) (.inl rfl) (bV fun H=>cM JN (hr.mono (by decide)) (aa (dv 1) ah)))
   (aR (dW (i:=3) bD.nd (by rfl) (.inl rfl) (bV fun H=>aq (dv 2) ae))
   (aR (vo 4 bD.nd (by rfl) (by exact cL (osc:=ai bW) (xs:=["form", "word"]) (ns:=[]) (by decide +kernel)) bE.nil (.cons (.cons .nil)) (fun H=>yC kF mF KP (dv 3) (OE.PV (bS (dv 2) (bI ae) bP))) (fun _ _ _ _ _ _=>fi) (fun H _ _ _ _ _=>(aI JO hr (aa (dv 0) (aa (dv 1) ah)))))
   (aR (gu (mZ fun H=>wD kQ mQ (dv 3)) pQ fy)
   (aR (gu (mZ fun H=>aH (eP (by exact hr.units)) (dv 3) aK) (bC (oJ (xj MY (hr.mono (by decide)) C.GX (pv 0)))) (bC (oJ (rM K5 (hr.mono (by decide)) C.GX (pv 0) (aZ (bV fun H=>qP kD mD (dv 3) (aa (jd C.GX C.GW (dv 0)) (aa (dv 4) ah))) bA)))))
   (bC (ia (bV fun H=>bu cT (by rfl) HY OL (aa (bg cA (by rfl) GZ NW (aa (jd C.GX C.GW (dv 0)) ah)) ah)))))))),?_⟩
  have Xh:∀{x:Str},WO x->okD (.str x):=fun W=>cR W.a
  have of0:=Xh (R.r.w δ.nm M4);have ob:okD (.str (Str.ofString "back")):=cR fun c hc=>by simpa using O5.mp (show(sgn (Str.ofString "back")).all (·<128)=true by decide +kernel) c hc
  have Ux:=st.l;have r30:(δ.res ds ps).length<=31:=δ.OV st;have ht:∀a,(a=x∨a=p)->∀vs,H a≠some (.tup vs):=fun a z ws e=>by
   obtain⟨dx,v,us,h1,h2,_,_⟩:=S.ex;rcases z with rfl|rfl
   ·rw[h1]at e;cases e
   ·rw[h2]at e;cases e
  have hN:∀a,(a=x∨a=p)->M a:=fun a z=>z.elim (fun z=>z ▸ mx) fun z=>z ▸ mp
  have xp:x≠p:=fun z=>by obtain⟨dx,v,us,h1,h2,_,_⟩:=S.ex;rw[z,h2]at h1;cases h1
  have fin:∀(a1 a2 a3 a4:Option V) (Hk:Hp) (p':Addr),aG (fun a=>a=x∨a=p) H Hk->(p'=p∨H p'=none)->Sh K (fun _=>False) Hk κ.Sheet x p' (δ.res ds ps) (δ.ML ds ps)->(K.lookup p'=none->Sh K (fun a=>M a∨a=p') Hk κ.Sheet x p' (δ.res ds ps) (δ.ML ds ps)) →
    zg (sA (cf (CX1 P w) P w K mg base ["self", "row", "words", "first", "given"] "Sheet.ask" (ai bW) f J2 A outer s H E) (RM (fun ds Q=>∃i:Int,ds=[.int i]/\i.natAbs.log2<1920/\Q (.str (toString i))) (cQ (RM lY (cQ (jy κ.Sheet (bN 0) "dots") gY)) gY))) {nx:=fun _ H=>Q .HZ H,rt:=Q} [some (.ref x),a1,a2,a3,a4] Hk:=by
   intro a1 a2 a3 a4 Hk p' sx Sj S0 S1;refine⟨(Dom.refl H).Jy sx,sx.tab tk,fun _=>False,[some (.val (N3 κ (δ.res ds ps) (δ.ML ds ps)))],fun d=>d=.str (tI (δ.res ds ps).length),fun _ z=>z.elim,aM.cons (S0.obj C.Hb (fun _ z=>z) id) .nil,?_,fun v H5 d e5 Vw hd q5=>?_⟩
   ·unfold jy;walk_at "x";refine⟨_,_,_,rfl,dh _ _,?_⟩;walk_at "x";rw[Kj];exact⟨lg (fD (by omega)),rfl⟩
   ·subst q5;have z:=hd.L6;subst z;have kl:K.lookup p'=none:=by
     obtain⟨dx,v,us,h1,h2,_,_⟩:=S0.ex;exact Vw _ _ (e5 _ _ h2)
    exact q H5 p' (sx.trans (.of e5)) (Sj.imp id fun n=>⟨n,kl⟩) ((S1 kl).same e5) Vw
  refine⟨Dom.refl H,tk,fun _=>False,_,fun d=>d=.lst true ((δ.nm::δ.ws).map D.str),fun _ z=>z.elim,aM.cons (S.obj C.Hb (fun _ z=>z.elim) id) (aM.cons (Den.str _) .nil),?_,fun v1 H1 d1 e1 Uy ND q1=>?_⟩
  ·walk_at "x";exact⟨δ.nm,δ.ws,δ.fs,by rw[δ.P4],R.i,R.l,R.r,rfl⟩
  subst q1;have w1:=nY ND;rw[ax,tF]at w1;refine⟨Dom.same (Dom.refl H) e1,tk.same e1,fun _=>False,_,fun d=>d=.str δ.nm,fun _ z=>z.elim,aM.cons ((S.same e1).obj C.Hb (fun _ z=>z.elim) id) (aM.cons (Den.str _) (aM.cons (mI w1 fun _ z=>z) .nil)),?_,fun v2 H2 d2 e2 kf2 hd2 q2=>?_⟩
  ·rw[Nj];walk_at "x"
  subst q2;have z2:=hd2.L6;subst z2;have Vx:=e1.trans e2;refine⟨Dom.same (Dom.refl H) Vx,tk.same Vx,fun _=>False,_,fun d=>d=.lst true δ.given,fun _ z=>z.elim,aM.cons ((S.same Vx).obj C.Hb (fun _ z=>z.elim) id) (aM.cons (Den.str _) (aM.cons (mI (w1.same e2) fun _ z=>z) (aM.cons (Den.str _) .nil))),?_,fun v3 H3 d3 e3 Um q3=>?_⟩
  ·refine pM (gs:=δ.given) R.t R.g (by have:=R.r.l;have:=R.l;rw[MM]at *;omega) (fun S s=>?_) (fun z hz S s=>?_) rfl
   ·rw[Nj];unfold qt;walk_at "x";rw[zz];exact⟨_,_,rfl,oF _ _ R.i,s⟩
   ·obtain⟨T,d,e⟩:=R.t z hz;rw[e]at s;show cZ κ [.str z.1,.str z.2] S fun _=>False
    rw[fh];exact⟨T,d,e,s⟩
  subst q3;have w3:=nY Um;rw[ax,bZ]at w3;have Xi:=Vx.trans e3;refine⟨Dom.same (Dom.refl H) Xi,tk.same Xi,fun _=>False,[none,none,none,some (.val (.str δ.nm))],fun b=>b=false,fun _ z=>z.elim,.skip (.skip (.skip (aM.cons (Den.str _) .nil))),?_,fun b H4 e4 q4=>?_⟩
  ·unfold nW;walk_at "x";rw[nQ δ];rfl
  subst q4;rw[GS (by decide)];have SM:=Xi.trans e4;by_cases hb:δ=.back
  ·subst hb;refine⟨Dom.same (Dom.refl H) SM,tk.same SM,fun _=>False,[none,none,none,some (.val (.str av.back.nm))],fun b=>b=true,fun _ z=>z.elim,.skip (.skip (.skip (aM.cons (Den.str _) .nil))),?_,fun b H5 e5 q5=>?_⟩
   ·walk_at "x";exact⟨of0,ob,by decide +kernel⟩
   subst q5;rw[G4 rfl];have Qs:=SM.trans e5;have pn:ps ≠ []:=fun z=>by have Nb:(if ps=[]then(4:Int)else -1)<=0:=hc;rw[G4 z]at Nb;exact absurd Nb (by decide)
   obtain⟨r,q0,rfl⟩:∃r q0,ps=r++[q0]:=by
    rcases SU ps with e|⟨r,q0,e⟩
    ·exact absurd e pn
    ·exact⟨r,q0,by rw[e,SR]⟩
   obtain⟨dx,v,us,h1,h2,h3,h4⟩:=S.ex;rw[show dM (r++[q0])=dM r++[D.lst false (q0.map HX)]from OK]at h4;obtain⟨O3,y,rfl,h5,h6⟩:=gd h4;have x5:=Qs _ _ h1;have p5:=Qs _ _ h2;refine⟨_,rfl,x,dx,_,rfl,x5,uY _ _ (by decide +kernel) (by decide +kernel),x,dx,v,p,O3,y,rfl,x5,p5,?_⟩;have sx:aG (fun a=>a=x∨a=p) H (L2.upd (L2.upd H5 p (.lst O3)) x (.ins κ.Sheet dx [("dots", y),("past", .ref p)])) :=
    (aG.of Qs).trans ((aG.upd (o:=.lst O3) (.inr rfl) p5 (fun _ e=>by cases e) True.intro (by exact True.intro)).trans (aG.upd (u:=.ins κ.Sheet dx [("dots", v),("past", .ref p)]) (o:=.ins κ.Sheet dx [("dots", y),("past", .ref p)]) (.inl rfl) (show L2.upd H5 p (.lst O3) x=_ from by rw[aj xp];exact x5) (fun _ e=>by cases e) True.intro (by exact True.intro)))
   have er:av.res ds (r++[q0]) .back=q0:=by show(r++[q0]).getLastD ds=q0;simp
   have ec:av.code ds (r++[q0]) .back=-1:=GS pn;have ep:av.ML ds (r++[q0]) .back=r:=by unfold av.ML;rw[ec];simp
   have S1:Sh K (fun a=>M a∨a=p) (L2.upd (L2.upd H5 p (.lst O3)) x (.ins κ.Sheet dx [("dots", y),("past", .ref p)])) κ.Sheet x p (av.res ds (r++[q0]) .back) (av.ML ds (r++[q0]) .back):=by
    rw[er,ep];have k:∀t a,Av (fun a=>M a∨a=p) t a->Av M t a∨(H a=none/\K.lookup a=none):=fun t a z=>.inl (z.imp id fun z=>z.elim id fun z=>z ▸ mp)
    exact⟨dx,y,O3,au,by rw[aj (Ne.symm xp)];exact au,Den.Jy sx ht (fun a z _=>.inr (hN a z)) k (cW q0) h6,af.Jy sx ht (fun a z _=>.inr (hN a z)) k (eI r) h5⟩
   exact fin _ _ _ _ _ p sx (.inl rfl) (S1.mono fun _ z=>z.elim) fun _=>S1
  ·have nb:(δ.nm==Str.ofString "back")=false:=by
    cases δ with
    |back=>exact absurd rfl hb
    |put g=>show(("put" : Str)==Str.ofString "back")=false;decide +kernel
    |cut n=>show(("cut" : Str)==Str.ofString "back")=false;decide +kernel
    |map m=>show(("map" : Str)==Str.ofString "back")=false;decide +kernel
    |clear=>show(("clear" : Str)==Str.ofString "back")=false;decide +kernel
   have c0:δ.code ds ps=0:=δ.Rl hb hc;refine⟨Dom.same (Dom.refl H) SM,tk.same SM,fun _=>False,[none,none,none,some (.val (.str δ.nm))],fun b=>b=false,fun _ z=>z.elim,.skip (.skip (.skip (aM.cons (Den.str _) .nil))),?_,fun b H5 e5 q5=>?_⟩
   ·walk_at "x";exact⟨of0,ob,nb⟩
   subst q5;rw[GS (by decide)];have Qs:=SM.trans e5;obtain⟨dx,v,us,h1,h2,h3,h4⟩:=S.ex;have x5:=Qs _ _ h1;refine⟨_,rfl,x,dx,_,rfl,x5,uY _ _ (by decide +kernel) (by decide +kernel),?_⟩;refine⟨Dom.same (Dom.refl H) Qs,tk.same Qs,fun _=>False,[some (.val (N3 κ ds ps)),none,none,some (.val (.str δ.nm)),some (.val (.lst false δ.given))],fun d=>d=.lst true ((δ.res ds ps).map HX),fun _ z=>z.elim,aM.cons ((S.same Qs).obj C.Hb (fun _ z=>z.elim) id) (.skip (.skip (aM.cons (Den.str _) (aM.cons (mI ((w3.same e4).same e5) fun _ z=>z) .nil)))),?_,fun y H6 d6 e6 kf6 Xj q6=>?_⟩
   ·unfold gX jy;walk_at "x";cases δ with
    |back=>exact absurd rfl hb
    |put g =>
     have c:¬30<=ds.length:=fun c=>by have:(if 30<=ds.length then(1:Int)else 0)=0:=c0;rw[G4 c]at this;cases this
     refine⟨_,_,_,_,_,rfl,oP,Nq,hr.mono (by decide),_,_,_,rfl,dh _ _,?_⟩;walk_at "x";refine⟨ds,g,rfl,by rw[bZ];rfl,by omega,?_⟩;rw[GS c,show av.res ds ps (.put g)=ds++[g]from GS c]
    |cut n =>
     have c:¬(n<0∨(ds.length:Int)<=n):=fun c=>by have:(if n<0∨(ds.length:Int)<=n then(2:Int)else 0)=0:=c0;rw[G4 c]at this;cases this
     refine⟨_,_,_,_,_,rfl,oC,Nt,hr.mono (by decide),_,_,_,rfl,dh _ _,?_⟩;walk_at "x";refine⟨ds,n,rfl,by rw[bZ];rfl,by omega,?_⟩;rw[GS c,show av.res ds ps (.cut n)=ds.take n.toNat++ds.drop (n.toNat+1)from GS c]
    |map m =>
     have cc:(if m.getD 0 0*m.getD 3 0=m.getD 1 0*m.getD 2 0 then(3:Int)else if(ds.map (MW m)).any bO=true then 1 else 0)=0:=c0;have c:¬m.getD 0 0*m.getD 3 0=m.getD 1 0*m.getD 2 0:=fun c=>by rw[G4 c]at cc;cases cc
     rw[GS c]at cc;have c2:¬(ds.map (MW m)).any bO=true:=fun c=>by rw[G4 c]at cc;cases cc
     refine⟨_,_,_,_,_,rfl,oM,Kz,hr.mono (by decide),_,_,_,rfl,dh _ _,?_⟩;walk_at "x";refine⟨ds,m,rfl,by rw[bZ];rfl,st.d,st.l,ho.1,ho.2,?_⟩;rw[GS c,GS c2,show av.res ds ps (.map m)=ds.map (MW m)from(GS c).trans (GS c2)]
    |clear =>
     refine⟨_,_,_,_,_,rfl,oE,Mn,hr.mono (by decide),_,_,_,rfl,dh _ _,?_⟩;walk_at "x";rfl
   subst q6;obtain⟨b,ws,rfl,nb5,b6,kb,hw⟩:=yu (mU _) Xj;have Uz:=Qs.trans e6;have x6:=Uz _ _ h1;have p6:=Uz _ _ h2;have ul:us.length<=20:=by have:=h4.len;have:=st.n;rw[Kj]at *;omega
   refine⟨x,dx,v,p,us,.ref b,rfl,x6,p6,ul,fun l H7 e7 n7 l7=>?_⟩;have e17:=Uz.trans e7;have x7:=e17 _ _ h1;have b7:=e7 _ _ b6;have xl:x≠l:=fun z=>by rw[z,l7]at x7;cases x7
   have bl:b≠l:=fun z=>by rw[z,n7]at b6;cases b6
   have bx:b≠x:=fun z=>by rw[z,x6]at b6;cases b6
   have sx:aG (fun a=>a=x∨a=p) H (L2.upd H7 x (.ins κ.Sheet dx [("dots", .ref b),("past", .ref l)])) :=
    (aG.of e17).trans (aG.upd (o:=.ins κ.Sheet dx [("dots", .ref b),("past", .ref l)]) (.inl rfl) x7 (fun _ e=>by cases e) True.intro True.intro)
   have ep:δ.ML ds ps=(ps++[ds]).drop ((ps.length+1) - 20):=G4 c0;have lk0:L2.upd H7 x (.ins κ.Sheet dx [("dots", .ref b),("past", .ref l)]) l=some (.lst ((us++[v]).drop ((us++[v]).length - 20))):=by rw[aj (Ne.symm xl),l7,zx]
   have Sm:∀M':Addr->Prop,(∀a,M' a->(M a∨(H a=none/\K.lookup a=none))/\a≠b)->Sh K M' (L2.upd H7 x (.ins κ.Sheet dx [("dots", .ref b),("past", .ref l)])) κ.Sheet x l (δ.res ds ps) (δ.ML ds ps):=fun M' hM'=>by
    have k:∀t a,Av M' t a->Av M t a∨(H a=none/\K.lookup a=none):=fun t a z=>z.elim (fun z=>.inl (.inl z)) fun z=>(hM' a z).1.elim (fun z=>.inl (.inr z)) .inr
    have eu:us.length=ps.length:=by rw[h4.len,Kj]
    refine⟨dx,.ref b,_,au,lk0,Den.lst (fun z=>z.elim (fun z=>by cases z) fun z=>(hM' b z).2 rfl) (.any (SqL.of (by rw[aj bx];exact b7))) ?_,?_⟩
    ·exact af.QU _ _ (mU _) (af.Jy (M:=fun a=>a=x) (P:=fun _ a=>a=x) (P':=fun _ a=>a=x) (aG.upd rfl x7 (fun _ e=>by cases e) True.intro (by exact True.intro)) (fun a z ws e=>by rw[z,x7]at e;cases e) (fun a z _=>z) (fun _ _ z=>.inl z) (cW _) ((hw _).same e7))
    ·rw[ep,show dM ((ps++[ds]).drop ((ps.length+1) - 20))=(dM ps++[D.lst false (ds.map HX)]).drop ((us++[v]).length - 20)from by
      unfold dM;rw[List.map_drop,OK,Mw,eu];rfl]
     exact kg _ (af.append (af.Jy sx ht (fun a z _=>.inr (hN a z)) k (eI ps) h4) (af.one (Den.Jy sx ht (fun a z _=>.inr (hN a z)) k (cW ds) h3)))
   refine fin _ _ _ _ _ l sx (.inr (Uz.free n7)) (Sm _ fun a z=>z.elim) fun kl=>Sm _ fun a z=>?_
   rcases z with z|z
   ·exact⟨.inl z,fun e=>by obtain⟨o,h⟩:=mt a z;rw[e,Qs.free nb5]at h;cases h⟩
   ·exact⟨.inr ⟨by rw[z];exact Uz.free n7,by rw[z];exact kl⟩,fun e=>bl (e.symm.trans z)⟩
abbrev N4(ds:List Hr)(ps:List (List Hr)):D:=.lst false [.lst false (ds.map HX),.lst false (ps.map fun q=>D.lst false (q.map HX))]
def lz(κ:Cls):DSp:=fun as Q _=>∃(ds:List Hr) (ps:List (List Hr)),as=[N3 κ ds ps,N4 ds ps]/\cS ds ps/\Q (.bl true)
theorem rB (F:aw K "_law_shown" "_law_shown" iS f fd) (C:Kc K mg κ) (My:jr P w K mg base κ.Sheet "ask" 9 ["self", "row"] (sh κ)) (LF:uF P w K mg base κ) (GQ:mg "isinstance" = none) (HY:mg "str" = none):az P w K mg base (CX1 P w) 10 f fd ["_law_sheet", "_law_state"] (aJ K (lz κ)):=by
 refine aw.okN F kR (by walk_at "l") fun J2 A outer s H E hr=>⟨_,(ak (aO 2 kR.nd (tM C.GX My (hr.mono (by decide)) (dv 0) (aa aK ah))) (ao (aA (gZ (eF (by rfl) GQ (by rfl) HY OL (.inr (.inr (.inr (.inr rfl)))) (dv 2)) (je (eM (eP (by exact hr.units)) (dv 2) (aI LF hr (aa (aq (dv 1) ae) ah)))))))),?_⟩
 rintro as Q Ed ⟨ds,ps,rfl,st,h⟩;walk_at "s";unfold mG;walk_at "x";have Ux:=st.l;refine⟨_,_,rfl,by decide +kernel,ds,ps,"dots", [],[],[],?_,Cp,st,.inl ⟨rfl,?_⟩⟩
 ·rw[ax,aT,aT,b9,ax,ax,cq,cO];rfl
 walk_at "x";have oj:=cR (C3 st.d);exact⟨ds,rfl,st.d,by omega,oj,oj,by rw[beq_self_eq_true];exact h⟩
theorem av.P5{ds:List Hr}{ps:List (List Hr)}(δ:av)(h:0<δ.code ds ps):δ.code ds ps=1∨δ.code ds ps=2∨δ.code ds ps=3∨δ.code ds ps=4:=by unfold av.code at h ⊢;cases δ<;>dsimp only at h ⊢<;>(repeat' split at h)<;>simp_all
def uz(κ:Cls):DSp:=fun as Q _=>∃(ds:List Hr) (ps:List (List Hr)) (δ:av) (d:D),as=[N3 κ ds ps,N4 ds ps,.lst false [.str δ.row,.int (δ.code ds ps),d]]/\cS ds ps/\δ.ok/\0<δ.code ds ps/\Q (.bl true)
theorem rA (F:aw K "_law_done" "_law_done" fb f fd) (C:Kc K mg κ) (My:jr P w K mg base κ.Sheet "ask" 9 ["self", "row"] (sh κ)) (Kq:pY P w K mg base κ):az P w K mg base (CX1 P w) 10 f fd ["_law_sheet", "_law_state", "_law_deed_here"] (aJ K (uz κ)):=by
 refine aw.okN F bM (by walk_at "l") fun J2 A outer s H E hr=>⟨_,(ak (aO 3 bM.nd qR) (ak (aO 4 bM.nd aK) (ak (Aj 5 4 C.GX My (hr.mono (by decide)) bM.nd C.Js (dv 0) (aa (aq (dv 2) ae) ah) (fun _=>(ao (aO 3 bM.nd (dv 5)))))
  (ak (aV (aH qz (aq (dv 2) ae) ae) (ao (aA (gZ (eM AN (dv 3) qR) (je (aI Kq hr (aa (dv 3) (aa (aq (dv 2) ae) ah))))))) aL) (ak ft (ak ft (ao ft))))))),?_⟩
 rintro as Q Ed ⟨ds,ps,δ,d,rfl,st,ho,hc,h⟩;walk_at "s";unfold zF;walk_at "x";have R:=av.Rj ho;refine⟨_,_,rfl,by decide +kernel,ds,ps,δ.nm,δ.fs,δ.ws,δ.given,?_,R,st,.inr ⟨δ,rfl,rfl,ho,?_⟩⟩
 ·rw[ax,aT,aT,b9,ax,ax,cq,cO,δ.P4]
 have key:∀c:Addr,((c=κ.NoDots/\δ.code ds ps=1)∨(c=κ.NoSuch/\δ.code ds ps=2)∨(c=κ.NoMap/\δ.code ds ps=3)∨(c=κ.TooFew/\δ.code ds ps=4))->PX.bG K c->PySem.W.exmOne K (.ref c) (.ref κ.PlaneError)=some true->og K κ.PlaneError 5 (uS 3 (bN 5))
   {nx:=eg (uP (dB (Ox (eA fun i j=>D.bl (decide (j<i))) (Ox dO (bN 2) (dC (D.int 1))) (dC (D.int 0)))) (uQ (mC (Ox (fun x y Q=>y=D.HZ/\Q (D.bl !fE x)) (bN 3) (dC D.HZ)) (jx (dH κ) [] (cQ (bN 3) (cQ (Ox dO (bN 2) (dC (D.int 1))) gY))))) qr) (eg (fun x x_1=>False) (eg (fun x x_1=>False) fun x x_1=>False)) {nx:=fun x=>Q D.HZ,rt:=Q},rt:=Q}
   [some (Sl.val (N3 κ ds ps)),some (Sl.val (N4 ds ps)),some (Sl.val (D.lst false [D.str δ.row,D.int (av.code ds ps δ),d])),some (Sl.val D.HZ),some (Sl.val (D.str (Str.ofString ""))),none] (.ref c):=fun c hk xk xm=>by
  refine⟨c,rfl,xk,xm,?_⟩;walk_at "x";rw[G4 hc];walk_at "x";refine⟨c,rfl,hk,h⟩
 have cs:δ.code ds ps=1∨δ.code ds ps=2∨δ.code ds ps=3∨δ.code ds ps=4:=δ.P5 hc;unfold av.QZ;rcases cs with z|z|z|z
 ·exact .inl ⟨z,key _ (.inl ⟨rfl,z⟩) C.JV C.G6⟩
 ·exact .inr (.inl ⟨z,key _ (.inr (.inl ⟨rfl,z⟩)) C.JW C.G8⟩)
 ·exact .inr (.inr (.inl ⟨z,key _ (.inr (.inr (.inl ⟨rfl,z⟩))) C.Ki C.Hj⟩))
 ·exact .inr (.inr (.inr ⟨z,key _ (.inr (.inr (.inr ⟨rfl,z⟩))) C.JY C.Ha⟩))
abbrev W3(x p st:Addr):Addr->Prop:=fun a=>a=x∨a=p∨a=st
theorem FN(L:yar):L2.cC L none (some (-1))=L.dropLast:=by
 unfold L2.cC;rw[HT.ig,show HT.Md L.length L.length (some (-1))=L.length - 1 from by show(if(-1:Int)<0 then((-1:Int)+(L.length:Int)).toNat else min (-1:Int).toNat L.length)=_;rw[G4 (by decide)];omega]
 rw[List.drop_zero,Nat.sub_zero,List.dropLast_eq_take]
def uy(K:yac)(C:Addr):Sp:=fun vs H Q _=>∃(M:Addr->Prop) (x p st dd:Addr) (ds:List Hr) (ps:List (List Hr)) (δ:av) (b:V),vs=[.ref x,.ref st,.ref dd]/\cb K H/\(∀a,M a->∃o,H a=some o)/\M x/\M p/\M st/\st≠p ∧
 Sh K M H C x p ds ps/\Nh K M H st ds ps/\cS ds ps/\δ.ok/\δ.code ds ps<=0/\SqL K H dd [.str δ.row,.int (δ.code ds ps),b]/\¬M dd/\Den K (Av M) H (.lst false ((δ.res ds ps).map HX)) b ∧
 ∀ H' p',aG (W3 x p st) H H'->(p'=p∨(H p'=none/\K.lookup p'=none))->Sh K (fun a=>M a∨a=p') H' C x p' (δ.res ds ps) (δ.ML ds ps)->Nh K (fun a=>M a∨a=p') H' st (δ.res ds ps) (δ.ML ds ps)->qk K H'->Q (.bl true) H'
theorem yw (F:aw K "_law_done" "_law_done" fb f fd) (C:Kc K mg κ) (My:jt P w K mg base κ.Sheet "ask" 9 ["self", "row"] (xG K κ.Sheet)) (GQ:mg "isinstance" = none) (HY:mg "str" = none) (GZ:mg "len" = none):az P w K mg base (CX1 P w) 10 f fd ["_law_sheet", "_law_state", "_law_deed_here"] (uy K κ.Sheet):=by
 obtain⟨oc,od,dV,kV,doc,pm,an,J2,ct,Oo,rfl,lk,LX⟩:=F.ex;refine jB lk LX bM (fun vs H Q E h=>?_) fun A outer s H vs Q E hr h=>?_
 ·obtain⟨M,x,p,st,dd,ds,ps,δ,b,rfl,_⟩:=h;rfl
 ·obtain⟨M,x,p,st,dd,ds,ps,δ,b,rfl,tk,mt,mx,mp,ms,sp,S,T,so,ho,hc,hd,nd,hb,q⟩:=h;refine⟨_,(aR (dW (i:=3) bM.nd (by rfl) (.inl rfl) xn)
   (aR (dW (i:=4) bM.nd (by rfl) (.inl rfl) xo)
   (aR (xr (i:=4) bM.nd (by rfl) (.inl rfl) (rM My (hr.mono (by decide)) C.GX (pv 0) (aZ (jG eG (pv 2) bR (by intro _ _;rfl)) bA)))
   (aR (gu (uv zO (jG eG (pv 2) bR (by intro _ _;rfl)) bR (xa _)) pQ fy)
   (aR (gu (DX (DL (jG eG (pv 2) bR (by intro _ _;rfl)) bR)) (bC (rO (me oZ (zP xh (jG eG (pv 1) bR (by intro _ _;rfl)) (dU (aZ (jG eG (pv 1) bR (by intro _ _;rfl)) bA))) (oI (vn nG bR)) oH) (rN (pv 1) bR set_list))) (bC (rO (me oZ (jG eG (pv 1) bR (by intro _ _;rfl)) oH (oI (vn nG bR))) (rN (pv 1) bR set_list))))
   (aR (rO (jG eG (pv 2) bR (by intro _ _;rfl)) (rN (pv 1) bR set_list))
   (bC (ia (bV fun H=>(gZ (eM Dq (dv 3) qR) (gZ (eF (by rfl) GQ (by rfl) HY OL (.inr (.inr (.inr (.inr rfl)))) (dv 4)) (je (eM (eP (by exact hr.units)) (dv 4) (bu cT (by rfl) HY OL (aa (bg cA (by rfl) GZ NW (aa (aq (dv 1) ae) ah)) ah))))))))))))))),?_⟩
  obtain⟨dx,v,us,h1,h2,h3,h4⟩:=id S.ex;obtain⟨ta,tb,NU,t1,tn,t2,t3,t4⟩:=id T.ex;have xs:x≠st:=fun z=>by rw[z,t1]at h1;cases h1
  have dx':¬(dd=x∨dd=p):=fun z=>nd (z.elim (fun z=>z ▸ mx) fun z=>z ▸ mp)
  have Mf:dd≠st:=fun z=>nd (z ▸ ms)
  have hN:∀a,(a=x∨a=p)->M a:=fun a z=>z.elim (fun z=>z ▸ mx) fun z=>z ▸ mp
  have ht:∀a,(a=x∨a=p)->∀vs,H a≠some (.tup vs):=fun a z ws e=>by
   rcases z with rfl|rfl
   ·rw[h1]at e;cases e
   ·rw[h2]at e;cases e
  have r30:(δ.res ds ps).length<=31:=δ.OV so;refine⟨_,rfl,x,dx,_,rfl,h1,uY _ _ (by decide +kernel) (by decide +kernel),_,rfl,dd,_,0,_,rfl,rfl,hd,Vg _ _,M,x,p,ds,ps,δ,rfl,tk,mt,mx,mp,S,so,ho,hc,fun H1 p' sx Sj S1 Uy=>?_⟩;have ND:=sx.seq dx' hd;refine⟨_,rfl,dd,_,1,_,rfl,rfl,ND,TQ _ _ _,_,_,rfl,rfl,_,rfl,?_⟩;refine Eq.mpr (GS (show¬decide ((0:Int)<δ.code ds ps)=true by rw[decide_eq_true_eq];omega)) ?_;have M1:∀a,(M a∨a=p')->M a∨(H a=none/\K.lookup a=none):=fun a z=>z.elim .inl fun z=>Sj.elim (fun e=>.inl (z ▸ e ▸ mp)) fun e=>.inr (z ▸ e)
  have T1:Nh K (fun a=>M a∨a=p') H1 st ds ps:=T.Jy sx (fun z=>z.elim (fun z=>xs z.symm) sp) hN ht M1;have p1:∃o,H1 p'=some o:=by obtain⟨_,_,_,_,z,_⟩:=S1.ex;exact⟨_,z⟩
  have Pk:p'≠st:=fun z=>Sj.elim (fun e=>sp (z ▸ e)) fun e=>by rw[z,t1]at e;cases e.1
  have fin:∀(a0 a2 a5:Option V) (Hf:Hp) (l:Addr) (O3:yar),aG (fun a=>a=st) H1 Hf->Hf st=some (.lst [b,.ref l])->H1 l=none->Hf l=some (.lst O3)->af K (Av fun a=>M a∨a=p') H1 (dM (δ.ML ds ps)) O3 →
    zg (sA (cf (CX1 P w) P w K mg base ["_law_sheet", "_law_state", "_law_deed_here", "_law_caught", "_law_found", "error"] "_law_done" (ai fb) f J2 A outer s H E) (mC (Ox (fun x y Q=>y=D.HZ/\Q (.bl (fE x))) (bN 3) (dC .HZ)) (mC (Wc "str" (bN 4)) (Ox yU (bN 4) (RM (fun ds Q=>∃i:Int,ds=[.int i]/\i.natAbs.log2<1920/\Q (.str (toString i))) (cQ (RM lY (cQ (Ox dO (bN 1) (dC (.int 0))) gY)) gY))))))
     {nx:=fun _ H=>Q .HZ H,rt:=Q} [a0,some (.ref st),a2,some .HZ,some (.str (tI (δ.res ds ps).length)),a5] Hf:=by
   intro a0 a2 a5 Hf l O3 ex sf ln lf hu;obtain⟨a,sb,NU,t1,tn,t2,t3,t4⟩:=T1.ex;have htS:∀c,c=st->∀vs,H1 c≠some (.tup vs):=fun c z ws e=>by rw[z,t1]at e;cases e
   have SX:aG (W3 x p st) H Hf:=(sx.mono fun c z=>z.elim .inl fun z=>.inr (.inl z)).trans (ex.mono fun c z=>.inr (.inr z));have htW:∀c,W3 x p st c->∀vs,H c≠some (.tup vs):=fun c z ws e=>by
    rcases z with z|z|z
    ·rw[z,h1]at e;cases e
    ·rw[z,h2]at e;cases e
    ·obtain⟨_,_,_,t1,_⟩:=T.ex;rw[z,t1]at e;cases e
   have hNW:∀c,W3 x p st c->M c:=fun c z=>by
    rcases z with z|z|z
    ·exact z ▸ mx
    ·exact z ▸ mp
    ·exact z ▸ ms
   have M1':∀t a,Av (fun a=>M a∨a=p') t a->Av M t a∨(H a=none/\K.lookup a=none):=fun t a z=>z.elim (fun z=>.inl (.inl z)) fun z=>(M1 a z).elim (fun z=>.inl (.inr z)) .inr
   have db:Den K (Av fun a=>M a∨a=p') Hf (.lst false ((δ.res ds ps).map HX)) b:=Den.Jy SX htW (fun c z _=>.inr (hNW c z)) M1' (cW _) hb;have du:af K (Av fun a=>M a∨a=p') Hf (dM (δ.ML ds ps)) O3:=af.Jy ex htS (fun c z _=>.inr (.inl (z ▸ ms))) (fun _ _ z=>.inl z) (eI _) hu;have nl:¬(M l∨l=p'):=fun z=>by
    rcases z with z|z
    ·obtain⟨o,e⟩:=mt l z;obtain⟨o',e'⟩:=sx.ex l o e;rw[ln]at e';cases e'
    ·obtain⟨o,e⟩:=p1;rw[<- z,ln]at e;cases e
   have Tf:Nh K (fun a=>M a∨a=p') Hf st (δ.res ds ps) (δ.ML ds ps):=⟨b,l,O3,sf,nl,lf,db,du⟩;refine⟨(Dom.refl H).Jy SX,SX.tab tk,fun _=>False,[none,some (.val (N4 (δ.res ds ps) (δ.ML ds ps))),none,some (.val .HZ),some (.val (.str (tI (δ.res ds ps).length)))],fun d=>d=.bl true,fun _ z=>z.elim,.skip (aM.cons (Tf.lst (fun _ z=>z.elim) id) (.skip (aM.cons Den.HZ (aM.cons (Den.str _) .nil)))),?_,fun v H5 d e5 Vw hd q5=>?_⟩
   ·walk_at "x";rw[Kj];have oj:okD (.str (tI (δ.res ds ps).length)):=cR (sC _);exact⟨lg (fD (by omega)),oj,oj,congrArg D.bl (beq_self_eq_true (tI (δ.res ds ps).length))⟩
   ·subst q5;have z:=hd.OQ;subst z;have Sf:Sh K (fun a=>M a∨a=p') Hf κ.Sheet x p' (δ.res ds ps) (δ.ML ds ps):=S1.Jy ex (fun z=>xs z) Pk (fun c z=>.inl (z ▸ ms)) htS fun _ z=>.inl z
    exact q H5 p' (SX.trans (.of e5)) Sj (Sf.same e5) (Tf.same e5) Vw
  refine⟨_,rfl,dd,_,1,_,rfl,rfl,ND,TQ _ _ _,_,_,rfl,rfl,_,rfl,?_⟩;obtain⟨a,sb,NU,t1,tn,t2,t3,t4⟩:=id T1.ex;have tl:NU.length<=20:=by have:=t4.len;have:=so.n;rw[Kj]at *;omega
  have dl:∀{Hg:Hp},aG (fun a=>a=st) H1 Hg->SqL K Hg dd [.str δ.row,.int (δ.code ds ps),b]:=fun e=>e.seq Mf ND
  by_cases c0:δ.code ds ps=0
  ·refine Eq.mpr (G4 (show decide (δ.code ds ps=0)=true from Ni c0)) ?_;have ep:δ.ML ds ps=(ps++[ds]).drop ((ps.length+1) - 20):=G4 c0;refine⟨_,rfl,st,_,1,_,rfl,rfl,SqL.of t1,TQ _ _ _,_,rfl,st,_,0,_,rfl,rfl,SqL.of t1,Vg _ _,aB (by show 1<=_;decide),fun l1 n1=>?_⟩;have st1:st≠l1:=fun z=>by rw[<- z,t1]at n1;cases n1
   have sb1:sb≠l1:=fun z=>by rw[<- z,t2]at n1;cases n1
   refine⟨sb,l1,NU,[a],rfl,rfl,by rw[aj sb1];exact t2,au,aB (by show _+1<=_;omega),fun l2 n2=>⟨20,rfl,-20,rfl,l2,NU++[a],rfl,SqL.of au,fun l3 n3=>?_⟩⟩;have e3:PD.ag H1 (L2.upd (L2.upd (L2.upd H1 l1 (.lst [a])) l2 (.lst (NU++[a]))) l3 (.lst (L2.cC (NU++[a]) (some (-20)) none))):=((PD.ag.upd n1).trans (PD.ag.upd n2)).trans (PD.ag.upd n3);have n3':=((PD.ag.upd n1).trans (PD.ag.upd n2)).free n3;have s3:=e3 _ _ t1;have Pe:st≠l3:=fun z=>by rw[z,n3']at t1;cases t1
   refine⟨_,rfl,st,_,1,1,rfl,rfl,s3,rfl,?_⟩;have x3:aG (fun a=>a=st) H1 (L2.upd (L2.upd (L2.upd (L2.upd H1 l1 (.lst [a])) l2 (.lst (NU++[a]))) l3 (.lst (L2.cC (NU++[a]) (some (-20)) none))) st (.lst [a,.ref l3])):=(aG.of e3).trans (aG.upd (o:=.lst [a,.ref l3]) rfl s3 (fun _ e=>by cases e) True.intro True.intro);refine⟨_,rfl,dd,_,2,_,rfl,rfl,dl x3,at2 _ _ _ _,_,rfl,st,_,0,0,rfl,rfl,au,rfl,?_⟩;rw[pC];have x4:aG (fun a=>a=st) H1 (L2.upd (L2.upd (L2.upd (L2.upd H1 l1 (.lst [a])) l2 (.lst (NU++[a]))) l3 (.lst (L2.cC (NU++[a]) (some (-20)) none))) st (.lst [b,.ref l3])):=(aG.of e3).trans (aG.upd (o:=.lst [b,.ref l3]) rfl s3 (fun _ e=>by cases e) True.intro True.intro);refine fin _ _ _ _ l3 _ x4 au n3' (by rw[aj (Ne.symm Pe)];exact au) ?_;have eu:NU.length=ps.length:=by rw[t4.len,Kj]
   rw[zx,ep,show dM ((ps++[ds]).drop ((ps.length+1) - 20))=(dM ps++[D.lst false (ds.map HX)]).drop ((NU++[a]).length - 20)from by unfold dM;rw[List.map_drop,OK,Mw,eu];rfl]
   exact kg _ (af.append t4 (af.one t3))
  ·refine Eq.mpr (GS (show¬decide (δ.code ds ps=0)=true from by rw[decide_eq_true_eq];exact c0)) ?_;have ep:δ.ML ds ps=ps.dropLast:=by unfold av.ML;rw[GS c0,G4 (by omega)]
   refine⟨_,rfl,st,_,1,_,rfl,rfl,SqL.of t1,TQ _ _ _,1,rfl,-1,rfl,sb,NU,rfl,SqL.of t2,fun l3 n3=>?_⟩;have e3:PD.ag H1 (L2.upd H1 l3 (.lst (L2.cC NU none (some (-1))))):=PD.ag.upd n3;have s3:=e3 _ _ t1;have Pe:st≠l3:=fun z=>by rw[z,n3]at t1;cases t1
   refine⟨_,rfl,st,_,1,1,rfl,rfl,s3,rfl,?_⟩;have x3:aG (fun a=>a=st) H1 (L2.upd (L2.upd H1 l3 (.lst (L2.cC NU none (some (-1))))) st (.lst [a,.ref l3])):=(aG.of e3).trans (aG.upd (o:=.lst [a,.ref l3]) rfl s3 (fun _ e=>by cases e) True.intro True.intro);refine⟨_,rfl,dd,_,2,_,rfl,rfl,dl x3,at2 _ _ _ _,_,rfl,st,_,0,0,rfl,rfl,au,rfl,?_⟩;rw[pC];have x4:aG (fun a=>a=st) H1 (L2.upd (L2.upd H1 l3 (.lst (L2.cC NU none (some (-1))))) st (.lst [b,.ref l3])):=(aG.of e3).trans (aG.upd (o:=.lst [b,.ref l3]) rfl s3 (fun _ e=>by cases e) True.intro True.intro);refine fin _ _ _ _ l3 _ x4 au n3 (by rw[aj (Ne.symm Pe)];exact au) ?_;rw[ep,FN];rcases SU ps with e|⟨r,q0,e⟩
   ·subst e;have:=t4.len;have z:NU=[]:=Qu this;subst z;exact .nil
   ·rw[SR]at e;subst e;rw[show dM (r++[q0])=dM r++[D.lst false (q0.map HX)]from OK]at t4;obtain⟨O3,y,rfl,h5,h6⟩:=gd t4;rw[List.dropLast_concat,List.dropLast_concat];exact h5
theorem av.Q0{ds:List Hr}{ps:List (List Hr)}{δ:av}(st:cS ds ps)(ho:δ.ok)(hc:δ.code ds ps<=0):cS (δ.res ds ps) (δ.ML ds ps):=by
 have key:∀rs:List Hr,rs.length<=30->(∀d∈rs,Np d)->δ.code ds ps=0->cS rs (δ.ML ds ps):=fun rs l d c=>by
  have ep:δ.ML ds ps=(ps++[ds]).drop ((ps.length+1) - 20):=G4 c;rw[ep];refine⟨l,d,by rw[Og,Mw];show _+1 - _<=20;omega,fun q hq=>?_⟩;rcases Qx.mp (U1 hq)with z|z
  ·exact st.p q z
  ·rw[Ss]at z;rw[z];exact⟨st.l,st.d⟩
 by_cases hb:δ=.back
 ·subst hb;have pn:ps ≠ []:=fun z=>by
   have Nb:(if ps=[]then(4:Int)else -1)<=0:=hc;rw[G4 z]at Nb;exact absurd Nb (by decide)
  have ec:av.code ds ps .back=-1:=GS pn;rcases SU ps with e|⟨r,q0,e⟩
  ·exact absurd e pn
  ·rw[SR]at e;subst e;have er:av.res ds (r++[q0]) .back=q0:=by show(r++[q0]).getLastD ds=q0;simp
   have ep:av.ML ds (r++[q0]) .back=r:=by unfold av.ML;rw[ec];simp
   rw[er,ep];have z:=st.p q0 (by simp);exact⟨z.1,z.2,by have:=st.n;rw[Mw]at this;omega,fun q hq=>st.p q (U0 _ hq)⟩
 have c0:=δ.Rl hb hc;cases δ with
 |back=>exact absurd rfl hb
 |clear=>exact key [] (M9 _) (fun _ z=>by cases z) c0
 |put g =>
  have c:¬30<=ds.length:=fun c=>by have:(if 30<=ds.length then(1:Int)else 0)=0:=c0;rw[G4 c]at this;cases this
  rw[show av.res ds ps (.put g)=ds++[g]from GS c];refine key _ (by rw[Mw];show _+1<=30;omega) (fun d hd=>?_) c0;rcases Qx.mp hd with z|z
  ·exact st.d d z
  ·rw[Ss]at z;rw[z];exact ho
 |cut n =>
  have c:¬(n<0∨(ds.length:Int)<=n):=fun c=>by have:(if n<0∨(ds.length:Int)<=n then(2:Int)else 0)=0:=c0;rw[G4 c]at this;cases this
  rw[show av.res ds ps (.cut n)=ds.take n.toNat++ds.drop (n.toNat+1)from GS c];have Ux:=st.l;refine key _ (by rw[Mw,O6,Og];omega) (fun d hd=>?_) c0;rcases Qx.mp hd with z|z
  ·exact st.d d (List.mem_of_mem_take z)
  ·exact st.d d (U1 z)
 |map m =>
  have cc:(if m.getD 0 0*m.getD 3 0=m.getD 1 0*m.getD 2 0 then(3:Int)else if(ds.map (MW m)).any bO=true then 1 else 0)=0:=c0;have c:¬m.getD 0 0*m.getD 3 0=m.getD 1 0*m.getD 2 0:=fun c=>by rw[G4 c]at cc;cases cc
  rw[GS c]at cc;have c2:¬(ds.map (MW m)).any bO=true:=fun c=>by rw[G4 c]at cc;cases cc
  rw[show av.res ds ps (.map m)=ds.map (MW m)from(GS c).trans (GS c2)];refine key _ (by rw[Kj];exact st.l) (fun d hd=>?_) c0;have nf:bO d=false:=by
   cases e:bO d with
   |false=>rfl
   |true=>exact absurd (List.any_eq_true.mpr ⟨d,hd,e⟩) c2
  obtain⟨d0,QW,rfl⟩:=Pn.mp hd;have o:=st.d d0 QW;unfold bO at nf;rw[Bool.or_eq_false_iff,decide_eq_false_iff_not,decide_eq_false_iff_not]at nf;exact⟨by omega,by omega,o.c0,o.c3,o.w1,o.w9⟩
structure LI(K:yac)(C:Addr)(H0 H:Hp)(M:Addr->Prop)(x p st y q s2:Addr)(ds:List Hr)(ps:List (List Hr))(es:List Hr)(qs:List (List Hr)):Prop where
 tk:cb K H
 mt:∀a,M a->∃o,H a=some o
 m0:∀a,M a->H0 a=none
 sx:aG M H0 H
 S1:Sh K M H C x p ds ps
 T1:Nh K M H st ds ps
 o1:cS ds ps
 S2:Sh K M H C y q es qs
 T2:Nh K M H s2 es qs
 o2:cS es qs
 w1:∀a,W3 x p st a->M a
 w2:∀a,W3 y q s2 a->M a
 dj:∀a,W3 x p st a->¬W3 y q s2 a
 n1:st≠p
 n2:s2≠q
section
variable{C:Addr}{H0 H H':Hp}{M:Addr->Prop}{x p st y q s2:Addr}{ds es:List Hr}{ps qs:List (List Hr)}
theorem LI.swap(L:LI K C H0 H M x p st y q s2 ds ps es qs):LI K C H0 H M y q s2 x p st es qs ds ps:=⟨L.tk,L.mt,L.m0,L.sx,L.S2,L.T2,L.o2,L.S1,L.T1,L.o1,L.w2,L.w1,fun a h h'=>L.dj a h' h,L.n2,L.n1⟩
theorem LI.same(L:LI K C H0 H M x p st y q s2 ds ps es qs)(e:PD.ag H H'):LI K C H0 H' M x p st y q s2 ds ps es qs :=
 ⟨L.tk.same e,fun a m=>let ⟨_,h⟩:=L.mt a m;e.ex h,L.m0,L.sx.trans (.of e),L.S1.same e,L.T1.same e,L.o1,L.S2.same e,L.T2.same e,L.o2,L.w1,L.w2,L.dj,L.n1,L.n2⟩
theorem Sh.at_(S:Sh K M H C x p ds ps):(∃dx fs,H x=some (.ins C dx fs))/\∃us,H p=some (.lst us):=by obtain⟨dx,v,us,h1,h2,_⟩:=S.ex;exact⟨⟨dx,_,h1⟩,us,h2⟩
theorem Nh.at_(S:Nh K M H st ds ps):∃us,H st=some (.lst us):=by obtain⟨a,b,us,h1,_⟩:=S.ex;exact⟨_,h1⟩
theorem LI.tup(L:LI K C H0 H M x p st y q s2 ds ps es qs):∀a,W3 x p st a->∀vs,H a≠some (.tup vs):=fun a z ws e=>by
 obtain⟨⟨dx,fs,h1⟩,us,h2⟩:=L.S1.at_;obtain⟨ts,h3⟩:=L.T1.at_;rcases z with z|z|z
 ·rw[z,h1]at e;cases e
 ·rw[z,h2]at e;cases e
 ·rw[z,h3]at e;cases e
theorem LI.step(L:LI K C H0 H M x p st y q s2 ds ps es qs){p':Addr}{Mf:List Hr}{Pk:List (List Hr)}(sx:aG (W3 x p st) H H')(hp:p'=p∨(H p'=none/\K.lookup p'=none))(S:Sh K (fun a=>M a∨a=p') H' C x p' Mf Pk)(T:Nh K (fun a=>M a∨a=p') H' st Mf Pk)(o:cS Mf Pk) :
  LI K C H0 H' (fun a=>M a∨a=p') x p' st y q s2 Mf Pk es qs/\∀d v,fx d->Den K (Av M) H d v->Den K (Av fun a=>M a∨a=p') H' d v:=by
 have hM:∀a,(M a∨a=p')->M a∨(H a=none/\K.lookup a=none):=fun a z=>z.elim .inl fun z=>hp.elim (fun e=>.inl (L.w1 a (.inr (.inl (z.trans e))))) fun e=>.inr (z ▸ e)
 have hMt:∀t a,Av (fun a=>M a∨a=p') t a->Av M t a∨(H a=none/\K.lookup a=none):=fun t a z=>z.elim (fun z=>.inl (.inl z)) fun z=>(hM a z).elim (fun z=>.inl (.inr z)) .inr
 obtain⟨⟨_,_,y1⟩,_,y2⟩:=L.S2.at_;obtain⟨_,y3⟩:=L.T2.at_;obtain⟨_,t3⟩:=L.T1.at_;have ny:¬W3 x p st y:=fun z=>L.dj y z (.inl rfl)
 have nq:¬W3 x p st q:=fun z=>L.dj q z (.inr (.inl rfl))
 have ns:¬W3 x p st s2:=fun z=>L.dj s2 z (.inr (.inr rfl))
 refine⟨⟨sx.tab L.tk,fun a m=>?_,fun a m=>?_,(L.sx.mono fun a z=>.inl z).trans (sx.mono fun a z=>.inl (L.w1 a z)),S,T,o,L.S2.Jy sx ny nq L.w1 L.tup hM,L.T2.Jy sx ns L.w1 L.tup hM,L.o2,fun a z=>?_,fun a z=>.inl (L.w2 a z),fun a z z'=>?_,fun z=>?_,L.n2⟩,fun d v pl hd=>Den.Jy sx L.tup (fun a z _=>.inr (L.w1 a z)) hMt pl hd⟩
 ·rcases m with m|m
  ·obtain⟨o,h⟩:=L.mt a m;exact sx.ex a o h
  ·obtain⟨_,us,h⟩:=S.at_;exact⟨_,m ▸ h⟩
 ·rcases hM a m with m|m
  ·exact L.m0 a m
  ·cases e:H0 a with
   |none=>rfl
   |some u =>
    obtain⟨u',h⟩:=L.sx.ex a u e;rw[m.1]at h;cases h
 ·rcases z with z|z|z
  ·exact .inl (L.w1 a (.inl z))
  ·exact .inr z
  ·exact .inl (L.w1 a (.inr (.inr z)))
 ·rcases z with z|z|z
  ·exact L.dj a (.inl z) z'
  ·rcases hp with e|e
   ·exact L.dj a (.inr (.inl (z.trans e))) z'
   ·rcases z' with z'|z'|z'
    ·rw[<- z',z,e.1]at y1;cases y1
    ·rw[<- z',z,e.1]at y2;cases y2
    ·rw[<- z',z,e.1]at y3;cases y3
  ·exact L.dj a (.inr (.inr z)) z'
 ·rcases hp with e|e
  ·exact L.n1 (z.trans e)
  ·rw[z,e.1]at t3;cases t3
theorem LI.Sk(L:LI K C H0 H M x p st y q s2 ds ps es qs):Dom H0 H:=(Dom.refl H0).Jy L.sx
theorem LI.old(L:LI K C H0 H M x p st y q s2 ds ps es qs):PD.ag H0 H:=L.sx.new L.m0
theorem Sh.Xk{P:yak}(S:Sh K M H κ.Sheet x p ds ps)(k:PX.eK K κ.Sheet)(hP:∀t a,P t a->t=true∨M a)(np:¬P false p):Den K P H (N3 κ ds ps) (.ref x):=by obtain⟨dx,v,us,h1,h2,h3,h4⟩:=S.ex;exact Den.obj (vs:=[v,.ref p]) h1 rfl k (.cons (h3.HF hP) (.cons (Den.lst np (.any (SqL.of h2)) (h4.HF hP)) .nil))
theorem Nh.Xl{P:yak}(S:Nh K M H st ds ps)(hP:∀t a,P t a->t=true∨M a)(np:¬P false st):Den K P H (N4 ds ps) (.ref st):=by obtain⟨a,b,us,h1,nb,hb,h2,h3⟩:=S.ex;exact Den.lst np (.any (SqL.of h1)) (.cons (h2.HF hP) (.cons (Den.lst (fun z=>(hP _ _ z).elim (fun z=>by cases z) nb) (.any (SqL.of hb)) (h3.HF hP)) .nil))
theorem Nh.shape(S:Nh K M H st ds ps)(kf:qk K H){us:yar}(h:SqL K H st us){P:yak}{rs:List Hr}(hd:af K P H (rs.map HX) us):False:=by
 obtain⟨a,b,ts,h1,nb,hb,h2,h3⟩:=S.ex;have e:us=[a,.ref b]:=by
  rcases h with(h|⟨o,h⟩)|⟨o,_,_,h,_⟩
  ·rw[h1]at h;cases h;rfl
  ·rw[h1]at h;cases h
  ·rw[kf _ _ h1]at h;cases h
 subst e;cases rs with
 |nil=>have:=hd.len;cases this
 |cons g r =>
  rw[Nj]at hd;simp only[af]at hd;obtain⟨v,r',e,h4,_⟩:=hd;cases e;obtain⟨c,vs,e,h5,_⟩:=h4.ME;subst e;obtain⟨c',ws,e,_,h6,_⟩:=h2.KY;cases e;have Xm:H c=some (.tup vs):=h5;rcases h6 with(h|⟨o,h⟩)|⟨o,_,_,h,_⟩
  ·rw[Xm]at h;cases h
  ·rw[Xm]at h;cases h
  ·rw[kf _ _ Xm]at h;cases h
theorem Ck{P:yak}{d1 d2 d3:D}{vs:yar}(h:af K P H [d1,d2,d3] vs):∃v1 v2 v3,vs=[v1,v2,v3]/\Den K P H d1 v1/\Den K P H d2 v2/\Den K P H d3 v3:=by simp only[af]at h;obtain⟨v1,_,rfl,h1,v2,_,rfl,h2,v3,_,rfl,h3,rfl⟩:=h;exact⟨v1,v2,v3,rfl,h1,h2,h3⟩
end
def spD(κ:Cls)(K:yac):Sp:=fun vs H Q E=>aJ K (uz κ) vs H Q E∨uy K κ.Sheet vs H Q E
section
variable{X:L2.Cx}{H:Hp}{M:Addr->Prop}{x p st y q s2:Addr}{ds es:List Hr}{ps qs:List (List Hr)}
theorem pK(ck:PX.eK X.K κ.Sheet)(L:LI X.K κ.Sheet X.H₀ H M x p st y q s2 ds ps es qs){σ:L2.St}{i j:Nat}{tx:DE}{ρ:Ro}{b tt:Bool}{zs:yaf}{Q:VK}(hi:σ[i]?=some (some (.ref x)))(hj:σ[j]?=some (some (.ref st)))
  (hv:∀P:Addr->Prop,(∀a,P a->M a)->¬P st->aM X.K P H σ ρ) (hs:∀R:D->Prop,R (N4 ds ps)->bN j ρ R) (hb:∀R:D->Prop,R (.bl b)->bN 1 ρ R) (hx:∀R:D->Prop,R (.lst tt (zs.map D.int))->tx ρ R)
  (hz:7<=zs.length) (hg:∀x∈zs,0<=x/\x<2147483647)
  (hQ:∀H' M' p' Mf Pk,LI X.K κ.Sheet X.H₀ H' M' x p' st y q s2 Mf Pk es qs->(∀d v,fx d->Den X.K (Av M) H d v->Den X.K (Av M') H' d v)->Q (.bl true) H') :
  vI (spD κ X.K) [] E0 (fT (vJ i) (fT (vJ j) (fT (sA X (jx (dX κ) [] (cQ (bN j) (cQ (bN 1) (cQ tx gY))))) kY))) σ H Q:=by
 refine⟨_,hi,_,hj,L.Sk,L.tk,fun a=>M a/\a≠st,ρ,fun d=>∃(δ:av) (c:Bool),δ.ok/\d=.lst true [.str δ.row,.int (δ.code ds ps),.lst c ((δ.res ds ps).map HX)],fun a z=>L.mt a z.1,hv _ (fun a z=>z.1) (fun z=>z.2 rfl),?_,fun v H1 d e1 Uy hd q1=>?_⟩
 ·refine hs _ (hb _ (hx _ ?_));show dX κ (aC [N4 ds ps,.bl b,.lst tt (zs.map D.int)]++[]) _ fun _=>False
  rw[Qa,aT,aT,aT,b9,ax,ax,ax,aT,aT,b9,ax,ax,cq,cO,cu,jo];exact⟨ds,ps,b,rfl,rfl,L.o1,hz,hg,fun δ c ho=>⟨δ,c,ho,rfl⟩⟩
 ·obtain⟨δ,c,ho,rfl⟩:=q1;have L1:=L.same e1;obtain⟨dd,ws,rfl,np,sq,hw⟩:=hd.MR;obtain⟨v1,v2,bb,rfl,w1,w2,w3⟩:=Ck hw;have z1:=w1.L6;subst z1;have z2:=w2.Kb;subst z2;have nd:H dd=none:=by
   cases e:H dd with
   |none=>rfl
   |some o=>exact absurd (.inr ⟨rfl,o,e⟩) np
  have nM:¬M dd:=fun m=>by obtain⟨o,e⟩:=L.mt dd m;rw[nd]at e;cases e
  have Vl:Den X.K (Av M) H1 (.lst false ((δ.res ds ps).map HX)) bb:=by
   obtain⟨b',us,rfl,nb,sb,hu⟩:=w3.MR;refine Den.lst (fun z=>?_) (.any sb.1) (af.QU _ _ (mU _) hu);rcases z with z|z
   ·cases z
   ·by_cases e:b'=st
    ·subst e;exact L1.T1.shape Uy sb.1 hu
    ·exact nb (.inl ⟨z,e⟩)
  by_cases hc:δ.code ds ps<=0
  ·refine .inr ⟨M,x,p,st,dd,ds,ps,δ,bb,rfl,L1.tk,L1.mt,L1.w1 _ (.inl rfl),L1.w1 _ (.inr (.inl rfl)),L1.w1 _ (.inr (.inr rfl)),L1.n1,L1.S1,L1.T1,L1.o1,ho,hc,sq.1,nM,Vl,fun H' p' sx Sj S T kf=>?_⟩;obtain⟨L2',k2⟩:=L1.step sx Sj S T (av.Q0 L1.o1 ho hc);exact hQ H' _ p' _ _ L2' fun d v pl h=>k2 d v pl (h.same e1)
  ·refine .inl ⟨fun _=>False,[N3 κ ds ps,N4 ds ps,.lst false [.str δ.row,.int (δ.code ds ps),.lst false ((δ.res ds ps).map HX)]],fun d=>d=.bl true,fun _=>False,L1.tk,fun _ z=>z.elim,?_,⟨ds,ps,δ,_,rfl,L1.o1,ho,by omega,rfl⟩,fun d v H' e h z=>?_,fun _ _ _ _ z=>z.elim⟩
   ·have nf:¬(false=true∨False):=fun z=>z.elim (fun z=>by cases z) id
    exact .cons (L1.S1.Xk ck (fun t a z=>z.elim .inl False.elim) nf) (.cons (L1.T1.Xl (fun t a z=>z.elim .inl False.elim) nf) (.cons (Den.lst nf (.any sq.1) (.cons (Den.str _) (.cons (Den.int _) (.cons (Vl.HF fun t a z=>z.elim .inl False.elim) .nil)))) .nil))
   ·subst z;have z:=h.OQ;subst z;exact hQ H' M p ds ps (L1.same e) fun d v pl h=>(h.same e1).same e
theorem fg(ck:PX.eK X.K κ.Sheet)(L:LI X.K κ.Sheet X.H₀ H M x p st y q s2 ds ps es qs){σ:L2.St}{i j:Nat}{ρ:Ro}{Q:VK}
  (hv:aM X.K (fun _=>False) H σ ρ) (hi:∀R:D->Prop,R (N3 κ ds ps)->bN i ρ R) (hs:∀R:D->Prop,R (N4 ds ps)->bN j ρ R)
  (hQ:∀H',PD.ag H H'->Q (.bl true) H'):sA X (jx (lz κ) [] (cQ (bN i) (cQ (bN j) gY))) σ H Q:=by
 refine⟨L.Sk,L.tk,fun _=>False,ρ,fun d=>d=.bl true,fun _ z=>z.elim,hv,?_,fun v H1 d e1 Uy hd q1=>?_⟩
 ·refine hi _ (hs _ ?_);show lz κ (aC [N3 κ ds ps,N4 ds ps]++[]) _ fun _=>False
  rw[Qa,aT,aT,b9,ax,ax,aT,aT,b9,ax,ax,cq,cO];exact⟨ds,ps,rfl,L.o1,rfl⟩
 ·subst q1;have z:=hd.OQ;subst z;exact hQ H1 e1
end
theorem mr{s1 s2:TS}{En:Ends}{σ:L2.St}{H:Hp}(Pm:Hp->Prop)(h2:∀H',Pm H'->s2 En σ H')(h1:∀K:L2.St->Hp->Prop,(∀H',Pm H'->K σ H')->s1 {En with nx:=K} σ H):Ec s1 s2 En σ H:=h1 _ h2
theorem CQ{t:TE}{u:TT}{a b:TS}{En:Ends}{σ:L2.St}{H:Hp}(h:t σ H fun x H1=>∃c,x=V.bl c/\if(!c)=true then(if true=true then a En σ H1 else b En σ H1)else u σ H1 fun b' H2=>if b'=true then a En σ H2 else b En σ H2):ze (tOr (zf (tB t)) u) a b En σ H:=h
theorem oi{c u:TT}{a b:TS}{En:Ends}{σ:L2.St}{H:Hp}(h:c σ H fun b' H1=>if b'=true then u σ H1 (fun b' H2=>if b'=true then a En σ H2 else b En σ H2)else(if false=true then a En σ H1 else b En σ H1)):ze (Ea c u) a b En σ H:=h
theorem qx{t:TE}{σ:L2.St}{H:Hp}{Q:Bool->Hp->Prop}(h:t σ H fun x H1=>∃c,x=V.bl c/\Q (!c) H1):zf (tB t) σ H Q:=h
theorem F7{i:Nat}{v:V}{σ:L2.St}{H:Hp}{Q:L2.St->Hp->Prop}(h:Q (σ.set i (some v)) H):qv i v σ H Q:=h
theorem ku{P:yak}{H:Hp}:∀{cs:yaf} {ws:yar},af K P H (cs.map D.int) ws->ws=cs.map V.int
 |[],_,h=>by simpa only[Qf,af]using h
 |c::r,_,h=>by rw[Nj]at h;simp only[af]at h;obtain⟨v,u,rfl,h1,h2⟩:=h;rw[h1.Kb,ku h2];rfl
theorem jI:∀ns:yaf,gr (ns.map D.int)
 |[]=>True.intro
 |_::r=>⟨True.intro,jI r⟩
theorem made {H:Hp} {C x dx l1 l2:Addr} (nx:H x=none) (nd:H dx=none) (ne:dx≠x) (h1:L2.upd (L2.upd H dx (.own x)) x (.ins C dx []) l1=none) (h2:L2.upd (L2.upd H dx (.own x)) x (.ins C dx []) l2=none) (RK:l1≠l2) {H2:Hp} (e:H2=L2.upd (L2.upd (L2.upd (L2.upd (L2.upd H dx (.own x)) x (.ins C dx [])) l1 (.lst [])) l2 (.lst [])) x (.ins C dx [("dots", .ref l1),("past", .ref l2)])) :
  PD.ag H H2/\H2 x=some (.ins C dx [("dots", .ref l1),("past", .ref l2)])/\H2 l1=some (.lst [])/\H2 l2=some (.lst [])/\H l1=none/\H l2=none/\x≠l1/\x≠l2:=by
 have x1:x≠l1:=fun z=>by rw[z,au]at h1;cases h1
 have x2:x≠l2:=fun z=>by rw[z,au]at h2;cases h2
 have d1:dx≠l1:=fun z=>by rw[<- z,aj ne,au]at h1;cases h1
 have d2:dx≠l2:=fun z=>by rw[<- z,aj ne,au]at h2;cases h2
 have g1:H l1=none:=by rwa [aj (Ne.symm x1),aj (Ne.symm d1)]at h1
 have g2:H l2=none:=by rwa [aj (Ne.symm x2),aj (Ne.symm d2)]at h2
 have sa:PD.ag H (L2.upd (L2.upd (L2.upd (L2.upd H dx (.own x)) x (.ins C dx [])) l1 (.lst [])) l2 (.lst [])):=(((PD.ag.upd nd).trans (PD.ag.upd (by rw[aj (Ne.symm ne)];exact nx))).trans (PD.ag.upd h1)).trans (PD.ag.upd (by rw[aj (Ne.symm RK)];exact h2));have sx:L2.upd (L2.upd (L2.upd (L2.upd H dx (.own x)) x (.ins C dx [])) l1 (.lst [])) l2 (.lst []) x=some (.ins C dx []):=by rw[aj x2,aj x1];exact au
 subst e;exact⟨((aG.of sa).trans (aG.upd (M:=fun a=>a=x) rfl sx (fun _ e=>by cases e) True.intro (by exact True.intro))).new fun a z=>z ▸ nx,au,by rw[aj (Ne.symm x1),aj RK];exact au,by rw[aj (Ne.symm x2)];exact au,g1,g2,x1,x2⟩
theorem zK{H:Hp}{a b c:Addr}(n1:H a=none)(n2:L2.upd H a (.lst []) b=none)(n3:L2.upd (L2.upd H a (.lst [])) b (.lst []) c=none){H2:Hp}(e:H2=L2.upd (L2.upd (L2.upd H a (.lst [])) b (.lst [])) c (.lst [.ref a,.ref b])) :
  PD.ag H H2/\H2 a=some (.lst [])/\H2 b=some (.lst [])/\H2 c=some (.lst [.ref a,.ref b])/\H b=none/\H c=none/\a≠b/\a≠c/\b≠c:=by
 have ab:a≠b:=fun z=>by rw[<- z,au]at n2;cases n2
 have bc:b≠c:=fun z=>by rw[<- z,au]at n3;cases n3
 have ac:a≠c:=fun z=>by rw[<- z,aj ab,au]at n3;cases n3
 subst e;exact⟨((PD.ag.upd n1).trans (PD.ag.upd n2)).trans (PD.ag.upd n3),by rw[aj ac,aj ab];exact au,by rw[aj bc];exact au,au,by rwa [aj (Ne.symm ab)]at n2,by rwa [aj (Ne.symm bc),aj (Ne.symm ac)]at n3,ab,ac,bc⟩
theorem Dv (F : aw K "law" "law" gC f fd) (C : Kc K mg κ) (Sn : Bx P w K mg base "Sheet" κ.Sheet 1 (zR κ.Sheet)) (P6 : xY P w K mg base "_law_done" 10 ["_law_sheet", "_law_state", "_law_deed_here"] (spD κ K)) (KG : Kk P w K mg base "_law_shown" 10 ["_law_sheet", "_law_state"] (lz κ)) (KH : uD P w K mg base κ) (KI : qC P w K mg base κ) (JZ : pW P w K mg base κ) :
  az P w K mg base (CX1 P w) 11 f fd ["_law_script"] (aJ K qA) := by
 obtain ⟨oc, od, dV, kV, doc, pm, an, J2, ct, Oo, rfl, lk, LX⟩ := F.ex;obtain ⟨fM, fdM, psM, hF, hM, hm, hO, hB⟩ := Sn;refine jB lk LX gb (fun vs H Q E h => ?_) fun A outer s H vs Q E hr h => ?_
 ·obtain ⟨_, ds, _, _, _, _, hd, ⟨ns, rfl, _⟩, _⟩ := h;rw [hd.len]; rfl
 obtain ⟨P0, as, Qd, Ed, tk, hP, hd, ⟨ns, rfl, hl, hq⟩, hQ, hE⟩ := h;obtain ⟨v0, rfl, QW⟩ : ∃ v0, vs = [v0] /\ Den K (fun t a => t = true ∨ P0 a) H (.lst false (ns.map D.int)) v0 := by simp only [af] at hd;obtain ⟨v, r, e, h1, e2⟩ := hd;exact ⟨v, by rw [e, e2], h1⟩
 refine ⟨_, (aR (dW (i := 1) gb.nd (by rfl) (.inl rfl) (bV fun H => eM bT (ar bf (aI JZ hr (aa (dv 0) (aa ae ah))) ae) ae))
   (aR (dW (i := 2) gb.nd (by rfl) (.inl rfl) (rL hM hF (hr.mono (by decide)) (by rfl) hm hB .nil jF))
   (aR (dW (i := 3) gb.nd (by rfl) (.inl rfl) (rL hM hF (hr.mono (by decide)) (by rfl) hm hB .nil jF))
   (aR (dW (i := 4) gb.nd (by rfl) (.inl rfl) (dU (aZ (dU bA) (aZ (dU bA) bA))))
   (aR (dW (i := 5) gb.nd (by rfl) (.inl rfl) (dU (aZ (dU bA) (aZ (dU bA) bA))))
   (aR (PS.L4 (DW PassesOwn.never rfl (ur (bV fun H => ar aU (bw (aa (aI JZ hr (aa (dv 0) (aa ae ah))) ah)) (OE.PV (bS (dv 0) (bI ae) (bI ae))))) (A4 (i := 6) gb.nd (by rfl) (.inl rfl)) (aR (dW (i := 7) gb.nd (by rfl) (.inl rfl) (bV fun H => cM KI (hr.mono (by decide)) (aa (dv 6) (aa ae ah))))
    (aR (gu (PW.pt (Fo (kJ (kK (rK P6 (hr.mono (by decide)) (aZ (pv 2) (aZ (pv 4) (aZ (bV fun H => cM KH (hr.mono (by decide)) (aa (dv 4) (aa (dv 1) (aa (dv 7) ah)))) bA)))))) (DY (kJ (kK (bV fun H => cM KG (hr.mono (by decide)) (aa (dv 2) (aa (dv 4) ah)))))))) (bC (ia mX)) fy)
    (aR (gu (PW.pt (rP (mZ fun H => aH bT (ar bf (aq (dv 7) ae) ae) ae) (oK (kJ (kK (rK P6 (hr.mono (by decide)) (aZ (pv 3) (aZ (pv 5) (aZ (bV fun H => cM KH (hr.mono (by decide)) (aa (dv 5) (aa (dv 1) (aa (OE.PV (bS (dv 7) (bI ae) bP)) ah)))) bA))))))))) (bC (ia mX)) fy)
    (aR (gu (PW.pt (rP (mZ fun H => aH bT (ar bf (aq (dv 7) ae) ae) ae) (oK (kJ (kK (bV fun H => cM KG (hr.mono (by decide)) (aa (dv 3) (aa (dv 5) ah)))))))) (bC (ia mX)) fy)
    (bC (gu (PW.pt (rP (mZ fun H => aH bT (ar bf (aq (dv 7) ae) ae) ae) (oK (kJ (kK (bV fun H => cM KG (hr.mono (by decide)) (aa (dv 2) (aa (dv 4) ah)))))))) (bC (ia mX)) fy))))))))
   (bC (ia (DQ (bV fun H => cM KG (hr.mono (by decide)) (aa (dv 3) (aa (dv 5) ah))) (DU (bV fun H => cM KG (hr.mono (by decide)) (aa (dv 2) (aa (dv 4) ah))))))))))))), ?_⟩
 have v0F : ∀ {H' : Hp}, PD.ag H H' -> Den K (fun t a => False ∨ (t = true /\ ∃ o, H' a = some o)) H' (.lst false (ns.map D.int)) v0 := fun e => (QW.same e).HF fun _ _ z => z.elim False.elim fun z => .inl z.1
 refine ⟨Dom.refl H, tk, fun _ => False, [some (.val (.lst false (ns.map D.int)))], fun d => ∃ b, d = .bl b, fun _ z => z.elim, aM.cons (v0F (PD.ag.refl H)) .nil, ?_, fun v1 H1 d1 e1 Uy ND q1 => ?_⟩
 ·walk_at "x";exact ⟨by decide, hl, fun v => ⟨by decide, _, rfl⟩⟩
 obtain ⟨b, rfl⟩ := q1;have z := ND.OQ;subst z;intro x dx nx nd ne;refine ⟨x, dx, rfl, au, fun l1 p h1 h2 RK => ⟨rfl, ?_⟩⟩;generalize e2' : L2.upd (L2.upd (L2.upd (L2.upd (L2.upd H1 dx (.own x)) x (.ins κ.Sheet dx [])) l1 (.lst [])) p (.lst [])) x (.ins κ.Sheet dx [("dots", .ref l1), ("past", .ref p)]) = H2;obtain ⟨e2, x2, UA, p2, n1l, n1p, xl, xp⟩ := made nx nd ne h1 h2 RK e2'.symm;clear h1 h2 e2';intro y dy ny nd2 ne2;refine ⟨y, dy, rfl, au, fun m1 q h1 h2 m12 => ⟨rfl, ?_⟩⟩;generalize e3' : L2.upd (L2.upd (L2.upd (L2.upd (L2.upd H2 dy (.own y)) y (.ins κ.Sheet dy [])) m1 (.lst [])) q (.lst [])) y (.ins κ.Sheet dy [("dots", .ref m1), ("past", .ref q)]) = H3;obtain ⟨e3, y3, Xn, q3, n2m, Vy, yl, yq⟩ := made ny nd2 ne2 h1 h2 m12 e3'.symm;clear h1 h2 e3';have z0 : ([] : yar).length <= sizeLine := aB (M9 _);have z2 : ∀ a b : V, ([a, b] : yar).length <= sizeLine := fun a b => aB (by show 2 <= _; decide)
 refine ⟨z0, fun a1 g1 => ⟨z0, fun a2 g2 => ⟨z2 _ _, fun st g3 => ?_⟩⟩⟩;generalize e4' : L2.upd (L2.upd (L2.upd H3 a1 (.lst [])) a2 (.lst [])) st (.lst [.ref a1, .ref a2]) = H4;obtain ⟨e4, a14, a24, Vz, VA, VB, a12, a1s, a2s⟩ := zK g1 g2 g3 e4'.symm;clear g2 g3 e4';refine ⟨z0, fun b1 f1 => ⟨z0, fun b2 f2 => ⟨z2 _ _, fun s2 f3 => ?_⟩⟩⟩;generalize e5' : L2.upd (L2.upd (L2.upd H4 b1 (.lst [])) b2 (.lst [])) s2 (.lst [.ref b1, .ref b2]) = H5;obtain ⟨e5, b15, b25, Vj, UB, UC, b12, b1s, b2s⟩ := zK f1 f2 f3 e5'.symm;clear f2 f3 e5';have UD : PD.ag H H2 := e1.trans e2;have VC : PD.ag H2 H5 := (e3.trans e4).trans e5;have Xo : PD.ag H3 H5 := e4.trans e5;have Xp : PD.ag H H5 := UD.trans VC;have nn : ∀ {Hc : Hp} {a b : Addr} {o : HO}, Hc a = some o -> Hc b = none -> a ≠ b := fun h h' e => by rw [e, h'] at h; cases h
 have x5 := VC _ _ x2;have l15 := VC _ _ UA;have p5 := VC _ _ p2;have y5 := Xo _ _ y3;have m15 := Xo _ _ Xn;have q5 := Xo _ _ q3;have Ol := e5 _ _ Vz;have a15 := e5 _ _ a14;have a25 := e5 _ _ a24;have VD : H2 st = none := e3.free VB;have VE : H2 s2 = none := e3.free (e4.free UC);have Xq : H3 s2 = none := e4.free UC;have dxy : x ≠ y := nn x2 ny;have dxq : x ≠ q := nn x2 Vy;have dxs : x ≠ st := nn x2 VD;have dxt : x ≠ s2 := nn x2 VE;have dpy : p ≠ y := nn p2 ny;have dpq : p ≠ q := nn p2 Vy;have dps : p ≠ st := nn p2 VD;have dpt : p ≠ s2 := nn p2 VE;have dys : y ≠ st := nn y3 VB;have dyt : y ≠ s2 := nn y3 Xq;have dqs : q ≠ st := nn q3 VB;have dqt : q ≠ s2 := nn q3 Xq;have dst : st ≠ s2 := nn Vz UC
 let M : Addr -> Prop := fun a => W3 x p st a ∨ W3 y q s2 a
 have nM : ∀ a, a ≠ x -> a ≠ p -> a ≠ st -> a ≠ y -> a ≠ q -> a ≠ s2 -> ¬ M a := fun a c1 c2 c3 c4 c5 c6 z => z.elim (fun z => z.elim c1 fun z => z.elim c2 c3) fun z => z.elim c4 fun z => z.elim c5 c6
 have Ml1 : ¬ M l1 := nM l1 (Ne.symm xl) RK (nn UA VD) (nn UA ny) (nn UA Vy) (nn UA VE);have Mm1 : ¬ M m1 := nM m1 (Ne.symm (nn x2 n2m)) (Ne.symm (nn p2 n2m)) (nn Xn VB) (Ne.symm yl) m12 (nn Xn Xq);have Ma1 : ¬ M a1 := nM a1 (Ne.symm (nn (e3 _ _ x2) g1)) (Ne.symm (nn (e3 _ _ p2) g1)) a1s (Ne.symm (nn y3 g1)) (Ne.symm (nn q3 g1)) (nn a14 UC);have Ma2 : ¬ M a2 := nM a2 (Ne.symm (nn (e3 _ _ x2) VA)) (Ne.symm (nn (e3 _ _ p2) VA)) a2s (Ne.symm (nn y3 VA)) (Ne.symm (nn q3 VA)) (nn a24 UC);have Mb1 : ¬ M b1 := nM b1 (Ne.symm (nn (e4 _ _ (e3 _ _ x2)) f1)) (Ne.symm (nn (e4 _ _ (e3 _ _ p2)) f1)) (Ne.symm (nn Vz f1)) (Ne.symm (nn (e4 _ _ y3) f1)) (Ne.symm (nn (e4 _ _ q3) f1)) b1s;have Mb2 : ¬ M b2 := nM b2 (Ne.symm (nn (e4 _ _ (e3 _ _ x2)) UB)) (Ne.symm (nn (e4 _ _ (e3 _ _ p2)) UB)) (Ne.symm (nn Vz UB)) (Ne.symm (nn (e4 _ _ y3) UB)) (Ne.symm (nn (e4 _ _ q3) UB)) b2s;have em : ∀ a, ¬ M a -> H5 a = some (.lst []) -> Den K (Av M) H5 (.lst false (([] : List Hr).map HX)) (.ref a) := fun a na h => Den.lst (fun z => z.elim (fun z => by cases z) na) (.any (SqL.of h)) .nil
 have so : cS [] [] := ⟨M9 _, fun _ z => (by cases z), M9 _, fun _ z => (by cases z)⟩;have L5 : LI K κ.Sheet H H5 M x p st y q s2 [] [] [] [] := by
  refine ⟨tk.same Xp, fun a m => ?_, fun a m => ?_, .of Xp, ⟨dx, .ref l1, [], x5, p5, em l1 Ml1 l15, .nil⟩, ⟨.ref a1, a2, [], Ol, Ma2, a25, em a1 Ma1 a15, .nil⟩, so, ⟨dy, .ref m1, [], y5, q5, em m1 Mm1 m15, .nil⟩, ⟨.ref b1, b2, [], Vj, Mb2, b25, em b1 Mb1 b15, .nil⟩, so, fun a z => .inl z, fun a z => .inr z, fun a z z' => ?_, Ne.symm dps, Ne.symm dqt⟩
  ·rcases m with (z | z | z) | (z | z | z)
   ·exact ⟨_, z ▸ x5⟩
   ·exact ⟨_, z ▸ p5⟩
   ·exact ⟨_, z ▸ Ol⟩
   ·exact ⟨_, z ▸ y5⟩
   ·exact ⟨_, z ▸ q5⟩
   ·exact ⟨_, z ▸ Vj⟩
  ·rcases m with (z | z | z) | (z | z | z)
   ·exact z ▸ e1.free nx
   ·exact z ▸ e1.free n1p
   ·exact z ▸ UD.free VD
   ·exact z ▸ UD.free ny
   ·exact z ▸ UD.free Vy
   ·exact z ▸ UD.free VE
  ·rcases z with z | z | z <;> subst z <;> rcases z' with z' | z' | z'
   ·exact dxy z'
   ·exact dxq z'
   ·exact dxt z'
   ·exact dpy z'
   ·exact dpq z'
   ·exact dpt z'
   ·exact dys z'.symm
   ·exact dqs z'.symm
   ·exact dst z'
 clear_value M
 clear nM Ml1 Mm1 Ma1 Ma2 Mb1 Mb2 em a15 a25 b15 b25 l15 m15 x5 p5 y5 q5 Ol;obtain ⟨ys, ec⟩ : ∃ ys : yaf, PD.cutD (ns.map D.int) (some 2) (some 62) = ys.map D.int := by unfold PD.cutD;exact ⟨_, by rw [<- List.map_drop, <- List.map_take]⟩
 have ly : ys.length <= 63 := by have := congrArg List.length ec;unfold PD.cutD at this;simp only [O6, Og, Kj] at this;omega
 refine ⟨L5.Sk, L5.tk, fun _ => False, [some (.val (.lst false (ns.map D.int)))], fun d => ∃ cs : yaf, d = .lst true (cs.map D.int), fun _ z => z.elim, aM.cons (v0F Xp) .nil, ?_, fun vc H6 d6 e6 kf6 Xj q6 => ?_⟩
 ·walk_at "x";rw [ec];exact ⟨by decide, hl, fun v => ⟨PH _, aB (by rw [Kj]; show 1 + _ <= _; omega), v :: ys, rfl⟩⟩
 obtain ⟨cs, rfl⟩ := q6;obtain ⟨ca, cw, rfl, nca, sqc, hcw⟩ := Xj.MR;have zc := ku hcw;subst zc;have nc5 : H5 ca = none := by
  cases e : H5 ca with
  | none => rfl
  | some o => exact absurd (.inr ⟨rfl, o, e⟩) nca
 have nMc : ¬ M ca := fun m => by obtain ⟨o, e⟩ := L5.mt ca m; rw [nc5] at e; cases e
 refine ⟨ca, rfl, ⟨_, sqc.1⟩, yz (xs := cs.map V.int) (fun i σ Hc => ∃ M p q ds ps es qs o6 o7, σ = [some v0, some (.bl b), some (.ref x), some (.ref y), some (.ref st), some (.ref s2), o6, o7] /\ LI K κ.Sheet H Hc M x p st y q s2 ds ps es qs /\ Den K (Av M) Hc (.lst false (cs.map D.int)) (.ref ca)) ⟨M, p, q, [], [], [], [], none, none, rfl, L5.same e6, Den.lst (fun z => z.elim (fun z => by cases z) nMc) (.any sqc.1) (j9 cs)⟩ ?_ ?_ ?_⟩
 ·rintro i σ Hc _ ⟨M, p, q, ds, ps, es, qs, o6, o7, rfl, L, dc⟩;obtain ⟨a, us, e, _, sq, hu⟩ := dc.KY;cases e
  rwa [ku hu] at sq
 ·rintro i xv σ Hc hi ⟨M, p, q, ds, ps, es, qs, o6, o7, rfl, L, dc⟩;rw [Of] at hi;obtain ⟨c, _, rfl⟩ := Option.map_eq_some_iff.mp hi;refine ⟨L.Sk, L.tk, M, [none, none, none, none, none, none, some (.val (.int c))], fun d => ∃ zs : yaf, d = .lst true (zs.map D.int) /\ zs.length = 9 /\ ∀ x ∈ zs, 0 <= x /\ x < 2147483647, L.mt, .skip (.skip (.skip (.skip (.skip (.skip (aM.cons (Den.int _) .nil)))))), ?_, fun v7 H7 d7 e7 kf7 hd7 q7 => ?_⟩
  ·walk_at "x";exact ⟨by decide, by decide, fun zs hz hb => ⟨zs, rfl, hz, hb⟩⟩
  obtain ⟨zs, rfl, z9, zb⟩ := q7;have w7 := nY hd7;rw [ax, cu] at w7;have L7 := L.same e7;have Qt := dc.same e7;clear L dc hd7;have plc : fx (.lst false (cs.map D.int)) := jI cs;have plz : fx (.lst false (zs.map D.int)) := jI zs;have zb1 : ∀ x ∈ zs.drop 1, 0 <= x /\ x < 2147483647 := fun x hx => zb x (U1 hx)
  have zl1 : 7 <= (zs.drop 1).length := by rw [Og]; omega
  let Vo : Hp -> Prop := fun Hc => ∃ M p q ds ps es qs, LI K κ.Sheet H Hc M x p st y q s2 ds ps es qs /\ Den K (Av M) Hc (.lst false (cs.map D.int)) (.ref ca) /\ Den K (Av M) Hc (.lst false (zs.map D.int)) v7
  have rx : ∀ {M : Addr -> Prop} {P : Addr -> Prop} {Hc : Hp}, Den K (Av M) Hc (.lst false (zs.map D.int)) v7 -> (∀ a, P a -> M a) -> Den K (fun t a => P a ∨ (t = true /\ ∃ o, Hc a = some o)) Hc (.lst false (zs.map D.int)) v7 := fun h hP => mI h hP
  refine F7 ?_;dsimp only;refine mr Vo (fun Hc mid => ?_) fun Kn hK => ?_
  rotate_left
  ·refine CQ (pK C.Hb L7 (i := 2) (j := 4) (b := b) (tt := false) (zs := zs) (ρ := [none, some (.val (.bl b)), none, none, some (.val (N4 ds ps)), none, none, some (.val (.lst false (zs.map D.int)))]) rfl rfl (fun P hP np => .skip (aM.cons (Den.bl _) (.skip (.skip (aM.cons (L7.T1.lst hP np) (.skip (.skip (aM.cons (rx w7 hP) .nil)))))))) (fun R r => r) (fun R r => r) (fun R r => r) (by omega) zb fun H8 M' p' Mf Pk L8 k8 => ⟨true, rfl, ?_⟩);refine Eq.mpr (GS (by decide)) (qx ?_);refine fg C.Hb L8 (i := 2) (j := 4) (ρ := [none, none, some (.val (N3 κ Mf Pk)), none, some (.val (N4 Mf Pk))]) (.skip (.skip (aM.cons (L8.S1.obj C.Hb (fun _ z => z.elim) id) (.skip (aM.cons (L8.T1.lst (fun _ z => z.elim) id) .nil))))) (fun R r => r) (fun R r => r) fun H9 e9 => ⟨true, rfl, ?_⟩
   refine Eq.mpr (GS (by decide)) ?_;exact hK H9 ⟨M', p', q, Mf, Pk, es, qs, L8.same e9, (k8 _ _ plc Qt).same e9, (k8 _ _ plz w7).same e9⟩
  clear L7 Qt w7;obtain ⟨M, p, q, ds, ps, es, qs, L7, Qt, w7⟩ := mid;refine mr Vo (fun Hc mid => ?_) fun Kn hK => ?_
  rotate_left
  ·refine oi ?_;refine ⟨L7.Sk, L7.tk, fun _ => False, [none, none, none, none, none, none, none, some (.val (.lst false (zs.map D.int)))], fun _ => True, fun _ z => z.elim, .skip (.skip (.skip (.skip (.skip (.skip (.skip (aM.cons (rx w7 fun _ z => z.elim) .nil))))))), ?_, fun t3 H8 e8 _ => ?_⟩
   ·walk_at "x";refine ⟨_, ju 8 (by omega), ?_⟩;walk_at "x";decide
   have L8 := L7.same e8;have w8 := w7.same e8;have Rm := Qt.same e8;cases t3 with
   | false => exact Eq.mpr (GS (by decide)) (Eq.mpr (GS (by decide)) (hK H8 ⟨M, p, q, ds, ps, es, qs, L8, Rm, w8⟩))
   | true =>
    refine Eq.mpr (G4 rfl) (qx ?_);refine pK C.Hb L8.swap (i := 3) (j := 5) (b := b) (tt := true) (zs := zs.drop 1) (ρ := [none, some (.val (.bl b)), none, none, none, some (.val (N4 es qs)), none, some (.val (.lst false (zs.map D.int)))]) rfl rfl (fun P hP np => .skip (aM.cons (Den.bl _) (.skip (.skip (.skip (aM.cons (L8.T2.lst hP np) (.skip (aM.cons (rx w8 hP) .nil)))))))) (fun R r => r) (fun R r => r) (fun R r => by walk_at "x"; rw [qp]; exact r) zl1 zb1 fun H9 M' q' QB qs' L9 k9 => ⟨true, rfl, ?_⟩
    refine Eq.mpr (GS (by decide)) ?_;exact hK H9 ⟨M', p, q', ds, ps, QB, qs', L9.swap, k9 _ _ plc Rm, k9 _ _ plz w8⟩
  clear L7 Qt w7;obtain ⟨M, p, q, ds, ps, es, qs, L7, Qt, w7⟩ := mid;refine mr Vo (fun Hc mid => ?_) fun Kn hK => ?_
  rotate_left
  ·refine oi ?_;refine ⟨L7.Sk, L7.tk, fun _ => False, [none, none, none, none, none, none, none, some (.val (.lst false (zs.map D.int)))], fun _ => True, fun _ z => z.elim, .skip (.skip (.skip (.skip (.skip (.skip (.skip (aM.cons (rx w7 fun _ z => z.elim) .nil))))))), ?_, fun t3 H8 e8 _ => ?_⟩
   ·walk_at "x";refine ⟨_, ju 8 (by omega), ?_⟩;walk_at "x";decide
   have L8 := L7.same e8;have w8 := w7.same e8;have Rm := Qt.same e8;cases t3 with
   | false =>
    refine Eq.mpr (GS (by decide)) (Eq.mpr (GS (by decide)) ?_);exact hK H8 ⟨M, p, q, ds, ps, es, qs, L8, Rm, w8⟩
   | true =>
    refine Eq.mpr (G4 rfl) (qx ?_);refine fg C.Hb L8.swap (i := 3) (j := 5) (ρ := [none, none, none, some (.val (N3 κ es qs)), none, some (.val (N4 es qs))]) (.skip (.skip (.skip (aM.cons (L8.S2.obj C.Hb (fun _ z => z.elim) id) (.skip (aM.cons (L8.T2.lst (fun _ z => z.elim) id) .nil)))))) (fun R r => r) (fun R r => r) fun H9 e9 => ⟨true, rfl, ?_⟩
    refine Eq.mpr (GS (by decide)) ?_;exact hK H9 ⟨M, p, q, ds, ps, es, qs, L8.same e9, Rm.same e9, w8.same e9⟩
  clear L7 Qt w7;obtain ⟨M, p, q, ds, ps, es, qs, L7, Qt, w7⟩ := mid;refine oi ?_;refine ⟨L7.Sk, L7.tk, fun _ => False, [none, none, none, none, none, none, none, some (.val (.lst false (zs.map D.int)))], fun _ => True, fun _ z => z.elim, .skip (.skip (.skip (.skip (.skip (.skip (.skip (aM.cons (rx w7 fun _ z => z.elim) .nil))))))), ?_, fun t3 H8 e8 _ => ?_⟩
  ·walk_at "x";refine ⟨_, ju 8 (by omega), ?_⟩;walk_at "x";decide
  have L8 := L7.same e8;have w8 := w7.same e8;have Rm := Qt.same e8;cases t3 with
  | false =>
   refine Eq.mpr (GS (by decide)) (Eq.mpr (GS (by decide)) ?_);exact ⟨M, p, q, ds, ps, es, qs, some (.int c), some v7, rfl, L8, Rm⟩
  | true =>
   refine Eq.mpr (G4 rfl) (qx ?_);refine fg C.Hb L8 (i := 2) (j := 4) (ρ := [none, none, some (.val (N3 κ ds ps)), none, some (.val (N4 ds ps))]) (.skip (.skip (aM.cons (L8.S1.obj C.Hb (fun _ z => z.elim) id) (.skip (aM.cons (L8.T1.lst (fun _ z => z.elim) id) .nil))))) (fun R r => r) (fun R r => r) fun H9 e9 => ⟨true, rfl, ?_⟩
   refine Eq.mpr (GS (by decide)) ?_;exact ⟨M, p, q, ds, ps, es, qs, some (.int c), some v7, rfl, L8.same e9, Rm.same e9⟩
 ·rintro σ Hc ⟨M, p, q, ds, ps, es, qs, o6, o7, rfl, L, dc⟩;refine fg C.Hb L.swap (i := 3) (j := 5) (ρ := [none, none, none, some (.val (N3 κ es qs)), none, some (.val (N4 es qs))]) (.skip (.skip (.skip (aM.cons (L.S2.obj C.Hb (fun _ z => z.elim) id) (.skip (aM.cons (L.T2.lst (fun _ z => z.elim) id) .nil)))))) (fun R r => r) (fun R r => r) fun Hd ed => ⟨true, rfl, ?_⟩
  have Ld := L.same ed;refine Eq.mpr (G4 rfl) ?_;refine fg C.Hb Ld (i := 2) (j := 4) (ρ := [none, none, some (.val (N3 κ ds ps)), none, some (.val (N4 ds ps))]) (.skip (.skip (aM.cons (Ld.S1.obj C.Hb (fun _ z => z.elim) id) (.skip (aM.cons (Ld.T1.lst (fun _ z => z.elim) id) .nil))))) (fun R r => r) (fun R r => r) fun He ee => ?_
  exact hQ (.bl true) (.bl true) He (Ld.old.trans ee) (Den.bl _) hq
end
theorem all_mk {l:PySem.W.OpenLaw} {w:World} {K:yac} {h:Heap} {mg:yam} {fa f0 c_PlaneError c_NoPlace c_NoLine c_NoDots c_NoMap c_TooFew c_TooMany c_NoSuch c_NoText c_NoAsk c_Sheet:Addr} (X:K.In h) (G:h.Ns mainGlobals mg) (hfa:mg "law" = some (.ref fa))
  {NM LG Lr KA Ls LH Lu LJ OI:Tok}
  {od0 an0:Option Addr} {sl0:Array (yan)} {oc0 kV0 dc0 pm0 Xr ct0:Value}
  {aF aQ aD VF VG VH VI VJ VM bF6 bF7 bF8 bF9 UE UG UH UI UJ Xs bQ1 bQ2 bQ3 bQ4 bQ5 bQ6 bQ7 bQ8 bQ9 Xt Xu Xv Xw:Addr} {epF epQ V2:Nat} {tF0 tF1 tF2 tF3 tF4 tF5 tF6 tF7 tF8 tF9 UK UL UM UN UO tQ0 tQ1 tQ2 tQ3 tQ4 tQ5 tQ6 tQ7 tQ8 tQ9 tD0 tD1 tD2 tD3:Tok}
  {Xx Xy Xz XA XB XC XD XF:Tok} {n0 n1 n2 n3 n4 n5:Nat} {o0 o1 o2 o3 o4 o5:Option Addr} {s0 s1 s2 s3 s4 s5:Array (yan)}
  (a0:PySem.W.nsIn K mainGlobals "law" = some (some (.ref f0))) (l0:K.lookup f0=some ⟨oc0,od0,.func (PySem.W.fnOf "law" "law" (bH gC) (bo gC) (ai gC) .none kV0 dc0 pm0 an0 Xr ct0),sl0⟩) (c0:PySem.W.codeIn K Xr "law" = true) (k0:PySem.W.keepIn K (.ref f0)=true)
  (LK:PD.FL K "is_whole" jL)
  (LL:PD.FL K "place_of" jO)
  (K6:PD.FL K "is_within" iR)
  (J4:PD.FL K "is_coordinate" eZ)
  (Mo:PD.FL K "spot_of" kP)
  (MZ:PD.FL K "is_map" jK)
  (K7:PD.FL K "check_map" iQ)
  (NN:PD.FL K "moved" oS)
  (LM:PD.FL K "sent_dot" jQ)
  (OJ:PD.FL K "sent" ng)
  (LN:PD.FL K "whole_of" jS)
  (KJ:PD.FL K "read_whole" ik)
  (Kr:PD.FL K "read_colour" gi)
  (J5:PD.FL K "read_from_two" fc)
  (LO:PD.FL K "read_dot" jP)
  (K8:PD.FL K "show_spot" iU)
  (LP:PD.FL K "show_dot" jR)
  (K9:PD.FL K "show_dots" fR)
  (P7:PD.FL K "put" vw)
  (P8:PD.FL K "cut" vt)
  (M0:PD.FL K "mapped" mh)
  (Mp:PD.FL K "cleared" kL)
  (Le:PD.FL K "tell_dots" iW)
  (Lf:PD.FL K "read_word" iT)
  (Lg:PD.FL K "split_row" iV)
  (Ks:PD.FL K "_law_cell_at" gg)
  (KL:PD.FL K "_law_stream" ij)
  (Mq:PD.FL K "_law_dot" kN)
  (LQ:PD.FL K "_law_word" jN)
  (LR:PD.FL K "_law_text" gG)
  (Kt:PD.FL K "_law_entries" gh)
  (LS:PD.FL K "_law_sent" gE)
  (Mr:PD.FL K "_law_far" iF)
  (Ms:PD.FL K "_law_put" kO)
  (Mt:PD.FL K "_law_cut" kM)
  (Mu:PD.FL K "_law_map" iG)
  (LU:PD.FL K "_law_deed" jM)
  (Ku:PD.FL K "_law_refused" d9)
  (Lh:PD.FL K "_law_shown" iS)
  (LV:PD.FL K "_law_done" fb)
  (NO:PD.OU K c_Sheet "__init__" "Sheet.__init__" gf) (Lj:PySem.W.makesIn K c_Sheet=true) (Lk:PySem.W.keepIn K (.ref c_Sheet)=true)
  (OW:PD.OU K c_Sheet "ask" "Sheet.ask" bW)
  (M3:PD.OU K c_Sheet "change" "Sheet.change" eY)
  (Ln:PD.OU K c_Sheet "go_back" "Sheet.go_back" cJ)
  (Js:PySem.W.nsIn K mainGlobals "PlaneError" = some (some (.ref c_PlaneError)))
  (JT:PySem.W.nsIn K mainGlobals "NoPlace" = some (some (.ref c_NoPlace)))
  (Kd:PySem.W.nsIn K mainGlobals "NoLine" = some (some (.ref c_NoLine)))
  (JB:PySem.W.nsIn K mainGlobals "NoDots" = some (some (.ref c_NoDots)))
  (J1:PySem.W.nsIn K mainGlobals "NoMap" = some (some (.ref c_NoMap)))
  (JL:PySem.W.nsIn K mainGlobals "TooFew" = some (some (.ref c_TooFew)))
  (JU:PySem.W.nsIn K mainGlobals "TooMany" = some (some (.ref c_TooMany)))
  (JM:PySem.W.nsIn K mainGlobals "NoSuch" = some (some (.ref c_NoSuch)))
  (Ju:PySem.W.nsIn K mainGlobals "NoText" = some (some (.ref c_NoText)))
  (JE:PySem.W.nsIn K mainGlobals "NoAsk" = some (some (.ref c_NoAsk)))
  (Kh:PySem.W.nsIn K mainGlobals "Sheet" = some (some (.ref c_Sheet)))
  (Jv:PySem.W.nsIn K mainGlobals "MOST_DOTS" = some (some (.int (30) NM)))
  (Hh:PySem.W.nsIn K mainGlobals "MOST_COORDINATE" = some (some (.int (999999999999) LG)))
  (HW:PySem.W.nsIn K mainGlobals "MOST_FOR_DEEPEST" = some (some (.int (12) Lr)))
  (GR:PySem.W.nsIn K mainGlobals "DIGITS_OF_COORDINATE" = some (some (.int (12) KA)))
  (Ho:PySem.W.nsIn K mainGlobals "DIGITS_OF_WEIGHT" = some (some (.int (9) Ls)))
  (Ia:PySem.W.nsIn K mainGlobals "DIGITS_IN_PLACE" = some (some (.int (40) LH)))
  (Hq:PySem.W.nsIn K mainGlobals "DIGITS_OF_NUMBER" = some (some (.int (2) Lu)))
  (Hz:PySem.W.nsIn K mainGlobals "MOST_REMEMBERED" = some (some (.int (20) LJ)))
  (Jw:PySem.W.nsIn K mainGlobals "LETTERS" = some (some (.str "abc" OI)))
  (Jt:PySem.W.excIn K c_NoText dI "ValueError.__new__" = true)
  (Ke:PX.kj K c_NoText=true)
  (Ht:PySem.W.kitOne K (.ref c_NoText) (.ref c_PlaneError)=some true)
  (Ib:PySem.W.kitOne K (.ref c_NoText) (.ref c_NoPlace)=some false)
  (IC:PySem.W.kitOne K (.ref c_NoText) (.ref c_NoLine)=some false)
  (ID:PySem.W.kitOne K (.ref c_NoText) (.ref c_NoDots)=some false)
  (I0:PySem.W.kitOne K (.ref c_NoText) (.ref c_NoMap)=some false)
  (IE:PySem.W.kitOne K (.ref c_NoText) (.ref c_TooFew)=some false)
  (Ic:PySem.W.kitOne K (.ref c_NoText) (.ref c_TooMany)=some false)
  (IF:PySem.W.kitOne K (.ref c_NoText) (.ref c_NoSuch)=some false)
  (IG:PySem.W.kitOne K (.ref c_NoText) (.ref c_NoText)=some true)
  (Ja:PySem.W.kitOne K (.ref c_NoText) (.ref c_NoAsk)=some false)
  (Jb:PySem.W.kitOne K (.ref c_NoText) (.ref c_Sheet)=some false)
  (Hu:PySem.W.kitOne K (.ref c_NoText) (.type "ValueError")=some true)
  (Hv:PySem.W.exmOne K (.ref c_NoText) (.ref c_PlaneError)=some true)
  (IH:PySem.W.exmOne K (.ref c_NoText) (.ref c_NoText)=some true)
  (Jz:PySem.W.excIn K c_NoDots dI "ValueError.__new__" = true)
  (JV:PX.kj K c_NoDots=true)
  (Hw:PySem.W.kitOne K (.ref c_NoDots) (.ref c_PlaneError)=some true)
  (Ie:PySem.W.kitOne K (.ref c_NoDots) (.ref c_NoPlace)=some false)
  (II:PySem.W.kitOne K (.ref c_NoDots) (.ref c_NoLine)=some false)
  (HH:PySem.W.kitOne K (.ref c_NoDots) (.ref c_NoDots)=some true)
  (Ig:PySem.W.kitOne K (.ref c_NoDots) (.ref c_NoMap)=some false)
  (HI:PySem.W.kitOne K (.ref c_NoDots) (.ref c_TooFew)=some false)
  (Ih:PySem.W.kitOne K (.ref c_NoDots) (.ref c_TooMany)=some false)
  (HJ:PySem.W.kitOne K (.ref c_NoDots) (.ref c_NoSuch)=some false)
  (HK:PySem.W.kitOne K (.ref c_NoDots) (.ref c_NoText)=some false)
  (Ii:PySem.W.kitOne K (.ref c_NoDots) (.ref c_NoAsk)=some false)
  (Jc:PySem.W.kitOne K (.ref c_NoDots) (.ref c_Sheet)=some false)
  (G5:PySem.W.kitOne K (.ref c_NoDots) (.type "ValueError")=some true)
  (G6:PySem.W.exmOne K (.ref c_NoDots) (.ref c_PlaneError)=some true)
  (IJ:PySem.W.exmOne K (.ref c_NoDots) (.ref c_NoDots)=some true)
  (JH:PySem.W.excIn K c_NoSuch dI "ValueError.__new__" = true)
  (JW:PX.kj K c_NoSuch=true)
  (Hx:PySem.W.kitOne K (.ref c_NoSuch) (.ref c_PlaneError)=some true)
  (Ij:PySem.W.kitOne K (.ref c_NoSuch) (.ref c_NoPlace)=some false)
  (IK:PySem.W.kitOne K (.ref c_NoSuch) (.ref c_NoLine)=some false)
  (HL:PySem.W.kitOne K (.ref c_NoSuch) (.ref c_NoDots)=some false)
  (Ik:PySem.W.kitOne K (.ref c_NoSuch) (.ref c_NoMap)=some false)
  (HM:PySem.W.kitOne K (.ref c_NoSuch) (.ref c_TooFew)=some false)
  (Il:PySem.W.kitOne K (.ref c_NoSuch) (.ref c_TooMany)=some false)
  (HN:PySem.W.kitOne K (.ref c_NoSuch) (.ref c_NoSuch)=some true)
  (HQ:PySem.W.kitOne K (.ref c_NoSuch) (.ref c_NoText)=some false)
  (Im:PySem.W.kitOne K (.ref c_NoSuch) (.ref c_NoAsk)=some false)
  (Jd:PySem.W.kitOne K (.ref c_NoSuch) (.ref c_Sheet)=some false)
  (G7:PySem.W.kitOne K (.ref c_NoSuch) (.type "ValueError")=some true)
  (G8:PySem.W.exmOne K (.ref c_NoSuch) (.ref c_PlaneError)=some true)
  (IL:PySem.W.exmOne K (.ref c_NoSuch) (.ref c_NoSuch)=some true)
  (JX:PySem.W.excIn K c_NoMap dI "ValueError.__new__" = true)
  (Ki:PX.kj K c_NoMap=true)
  (HA:PySem.W.kitOne K (.ref c_NoMap) (.ref c_PlaneError)=some true)
  (IM:PySem.W.kitOne K (.ref c_NoMap) (.ref c_NoPlace)=some false)
  (Je:PySem.W.kitOne K (.ref c_NoMap) (.ref c_NoLine)=some false)
  (Ip:PySem.W.kitOne K (.ref c_NoMap) (.ref c_NoDots)=some false)
  (IV:PySem.W.kitOne K (.ref c_NoMap) (.ref c_NoMap)=some true)
  (Iq:PySem.W.kitOne K (.ref c_NoMap) (.ref c_TooFew)=some false)
  (IP:PySem.W.kitOne K (.ref c_NoMap) (.ref c_TooMany)=some false)
  (Ir:PySem.W.kitOne K (.ref c_NoMap) (.ref c_NoSuch)=some false)
  (Iu:PySem.W.kitOne K (.ref c_NoMap) (.ref c_NoText)=some false)
  (IW:PySem.W.kitOne K (.ref c_NoMap) (.ref c_NoAsk)=some false)
  (Jl:PySem.W.kitOne K (.ref c_NoMap) (.ref c_Sheet)=some false)
  (Hi:PySem.W.kitOne K (.ref c_NoMap) (.type "ValueError")=some true)
  (Hj:PySem.W.exmOne K (.ref c_NoMap) (.ref c_PlaneError)=some true)
  (Jm:PySem.W.exmOne K (.ref c_NoMap) (.ref c_NoMap)=some true)
  (JI:PySem.W.excIn K c_TooFew dI "ValueError.__new__" = true)
  (JY:PX.kj K c_TooFew=true)
  (Hy:PySem.W.kitOne K (.ref c_TooFew) (.ref c_PlaneError)=some true)
  (Iv:PySem.W.kitOne K (.ref c_TooFew) (.ref c_NoPlace)=some false)
  (IQ:PySem.W.kitOne K (.ref c_TooFew) (.ref c_NoLine)=some false)
  (HR:PySem.W.kitOne K (.ref c_TooFew) (.ref c_NoDots)=some false)
  (Iw:PySem.W.kitOne K (.ref c_TooFew) (.ref c_NoMap)=some false)
  (HS:PySem.W.kitOne K (.ref c_TooFew) (.ref c_TooFew)=some true)
  (Iy:PySem.W.kitOne K (.ref c_TooFew) (.ref c_TooMany)=some false)
  (HU:PySem.W.kitOne K (.ref c_TooFew) (.ref c_NoSuch)=some false)
  (HV:PySem.W.kitOne K (.ref c_TooFew) (.ref c_NoText)=some false)
  (Iz:PySem.W.kitOne K (.ref c_TooFew) (.ref c_NoAsk)=some false)
  (Jf:PySem.W.kitOne K (.ref c_TooFew) (.ref c_Sheet)=some false)
  (G9:PySem.W.kitOne K (.ref c_TooFew) (.type "ValueError")=some true)
  (Ha:PySem.W.exmOne K (.ref c_TooFew) (.ref c_PlaneError)=some true)
  (IS:PySem.W.exmOne K (.ref c_TooFew) (.ref c_TooFew)=some true)
  (JC:PySem.W.excIn K c_NoAsk dI "ValueError.__new__" = true)
  (Kx:PX.kj K c_NoAsk=true)
  (HB:PySem.W.kitOne K (.ref c_NoAsk) (.ref c_PlaneError)=some true)
  (IT:PySem.W.kitOne K (.ref c_NoAsk) (.ref c_NoPlace)=some false)
  (Jg:PySem.W.kitOne K (.ref c_NoAsk) (.ref c_NoLine)=some false)
  (Jh:PySem.W.kitOne K (.ref c_NoAsk) (.ref c_NoDots)=some false)
  (Jn:PySem.W.kitOne K (.ref c_NoAsk) (.ref c_NoMap)=some false)
  (Ji:PySem.W.kitOne K (.ref c_NoAsk) (.ref c_TooFew)=some false)
  (IU:PySem.W.kitOne K (.ref c_NoAsk) (.ref c_TooMany)=some false)
  (Jj:PySem.W.kitOne K (.ref c_NoAsk) (.ref c_NoSuch)=some false)
  (Jk:PySem.W.kitOne K (.ref c_NoAsk) (.ref c_NoText)=some false)
  (Jo:PySem.W.kitOne K (.ref c_NoAsk) (.ref c_NoAsk)=some true)
  (Jp:PySem.W.kitOne K (.ref c_NoAsk) (.ref c_Sheet)=some false)
  (HD:PySem.W.kitOne K (.ref c_NoAsk) (.type "ValueError")=some true)
  (HE:PySem.W.exmOne K (.ref c_NoAsk) (.ref c_PlaneError)=some true)
  (Jq:PySem.W.exmOne K (.ref c_NoAsk) (.ref c_NoAsk)=some true)
  (GX:PD.qM K c_Sheet=true)
  (Hb:PX.yM K c_Sheet=true)
  (GW:PySem.W.findIn K (.ref c_Sheet) "dots" = some none)
  (Hl:PySem.W.findIn K (.ref c_Sheet) "past" = some none)
  (gF:PySem.W.nsIn K mainGlobals "FORMS" = some (some (.ref aF))) (dF:K.lookup aF=some ⟨.type "dict", none,.dict (PD.kx w.params [("put", tF0,.ref VF),("cut", tF1,.ref VG),("map", tF2,.ref VH),("clear", tF3,.ref VI),("back", tF4,.ref VJ),("dots", tF5,.ref VM),("lines", tF6,.ref bF6),("fair", tF7,.ref bF7),("quarter", tF8,.ref bF8),("depth", tF9,.ref bF9),("middle", UK,.ref UE),("deepest", UL,.ref UG),("in", UM,.ref UH),("two", UN,.ref UI),("three", UO,.ref UJ)]) epF,#[]⟩) (mF:(aF==sysModules)=false)
  (gQ:PySem.W.nsIn K mainGlobals "QUESTIONS" = some (some (.ref aQ))) (dQ:K.lookup aQ=some ⟨.type "dict", none,.dict (PD.kx w.params [("dots", tQ0,.ref Xs),("lines", tQ1,.ref bQ1),("fair", tQ2,.ref bQ2),("quarter", tQ3,.ref bQ3),("depth", tQ4,.ref bQ4),("middle", tQ5,.ref bQ5),("deepest", tQ6,.ref bQ6),("in", tQ7,.ref bQ7),("two", tQ8,.ref bQ8),("three", tQ9,.ref bQ9)]) epQ,#[]⟩) (mQ:(aQ==sysModules)=false)
  (gD:PySem.W.nsIn K mainGlobals "DEEDS" = some (some (.ref aD))) (dD:K.lookup aD=some ⟨.type "dict", none,.dict (PD.kx w.params [("put", tD0,.ref Xt),("cut", tD1,.ref Xu),("map", tD2,.ref Xv),("clear", tD3,.ref Xw)]) V2,#[]⟩) (mD:(aD==sysModules)=false)
  (p0:K.lookup VF=some ⟨.type "tuple", o0,.seq #[.str "dot" Xx] n0,s0⟩)
  (p1:K.lookup VG=some ⟨.type "tuple", o1,.seq #[.str "number" Xy] n1,s1⟩)
  (p2:K.lookup VH=some ⟨.type "tuple", o2,.seq #[.str "entry" Xz,.str "entry" XA,.str "entry" XB,.str "entry" XC,.str "entry" XD,.str "entry" XF] n2,s2⟩)
  (p3:K.lookup VI=some ⟨.type "tuple", o3,.seq #[] n3,s3⟩)
  (p4:K.lookup VJ=some ⟨.type "tuple", o4,.seq #[] n4,s4⟩)
  (p5:K.lookup VM=some ⟨.type "tuple", o5,.seq #[] n5,s5⟩)
  (SN:PySem.W.nsIn K mainGlobals "tell_dots" = some (some (.ref Xs)))
  (UP:PySem.W.nsIn K mainGlobals "put" = some (some (.ref Xt)))
  (UQ:PySem.W.nsIn K mainGlobals "cut" = some (some (.ref Xu)))
  (UR:PySem.W.nsIn K mainGlobals "mapped" = some (some (.ref Xv)))
  (US:PySem.W.nsIn K mainGlobals "cleared" = some (some (.ref Xw)))
  (IY:PySem.W.nsIn K mainGlobals "ValueError" = some none) (Ky:PySem.W.nsIn K mainGlobals "abs" = some none) (Mb:PySem.W.nsIn K mainGlobals "all" = some none) (KD:PySem.W.nsIn K mainGlobals "bool" = some none) (KO:PySem.W.nsIn K mainGlobals "int" = some none) (GQ:PySem.W.nsIn K mainGlobals "isinstance" = some none) (GZ:PySem.W.nsIn K mainGlobals "len" = some none) (JG:PySem.W.nsIn K mainGlobals "range" = some none) (HY:PySem.W.nsIn K mainGlobals "str" = some none) (JF:PySem.W.nsIn K mainGlobals "tuple" = some none) (KP:PySem.W.nsIn K mainGlobals "zip" = some none) :
  ∃ fd:FuncData,(∀(s:Shared) (v:Value),BindsTo s fd ⟨[v],[]⟩ [("_law_script", v)])/\∀base:Heap,K.In base->base.Ns mainGlobals mg->PD.BMain mg base->az l.prog w K mg base (CX1 l.prog w) 11 fa fd ["_law_script"] (aJ K qA):=by
 have e:=hfa.symm.trans (PySem.W.mg_of X G a0);cases e;have IY:=PySem.W.mg_none_of X G IY;have Ky:=PySem.W.mg_none_of X G Ky;have Mb:=PySem.W.mg_none_of X G Mb;have KD:=PySem.W.mg_none_of X G KD;have KO:=PySem.W.mg_none_of X G KO;have GQ:=PySem.W.mg_none_of X G GQ;have GZ:=PySem.W.mg_none_of X G GZ;have JG:=PySem.W.mg_none_of X G JG;have HY:=PySem.W.mg_none_of X G HY;have JF:=PySem.W.mg_none_of X G JF;have KP:=PySem.W.mg_none_of X G KP;have C:Kc K mg ⟨c_PlaneError,c_NoPlace,c_NoLine,c_NoDots,c_NoMap,c_TooFew,c_TooMany,c_NoSuch,c_NoText,c_NoAsk,c_Sheet⟩:=⟨PySem.W.mg_of X G Js,PySem.W.mg_of X G JT,PySem.W.mg_of X G Kd,PySem.W.mg_of X G JB,PySem.W.mg_of X G J1,PySem.W.mg_of X G JL,PySem.W.mg_of X G JU,PySem.W.mg_of X G JM,PySem.W.mg_of X G Ju,PySem.W.mg_of X G JE,PySem.W.mg_of X G Kh,⟨_,PySem.W.mg_of X G Jv⟩,⟨_,PySem.W.mg_of X G Hh⟩,⟨_,PySem.W.mg_of X G HW⟩,⟨_,PySem.W.mg_of X G GR⟩,⟨_,PySem.W.mg_of X G Ho⟩,⟨_,PySem.W.mg_of X G Ia⟩,⟨_,PySem.W.mg_of X G Hq⟩,⟨_,PySem.W.mg_of X G Hz⟩,⟨_,PySem.W.mg_of X G Jw⟩,Jt,PX.bG.of Ke,Ht,Ib,IC,ID,I0,IE,Ic,IF,IG,Ja,Jb,Hu,Hv,IH,Jz,PX.bG.of JV,Hw,Ie,II,HH,Ig,HI,Ih,HJ,HK,Ii,Jc,G5,G6,IJ,JH,PX.bG.of JW,Hx,Ij,IK,HL,Ik,HM,Il,HN,HQ,Im,Jd,G7,G8,IL,JX,PX.bG.of Ki,HA,IM,Je,Ip,IV,Iq,IP,Ir,Iu,IW,Jl,Hi,Hj,Jm,JI,PX.bG.of JY,Hy,Iv,IQ,HR,Iw,HS,Iy,HU,HV,Iz,Jf,G9,Ha,IS,JC,PX.bG.of Kx,HB,IT,Jg,Jh,Jn,Ji,IU,Jj,Jk,Jo,Jp,HD,HE,Jq,PD.qM.of GX,PX.eK.of Hb,GW,Hl⟩;have q0:PD.iJ K VF ["dot"]:=⟨_,_,n0,p0,rfl,rfl,aB (by show 1<=_;decide),(.cons ⟨_,rfl⟩ .nil)⟩;have q1:PD.iJ K VG ["number"]:=⟨_,_,n1,p1,rfl,rfl,aB (by show 1<=_;decide),(.cons ⟨_,rfl⟩ .nil)⟩;have q2:PD.iJ K VH ["entry", "entry", "entry", "entry", "entry", "entry"]:=⟨_,_,n2,p2,rfl,rfl,aB (by show 6<=_;decide),(.cons ⟨_,rfl⟩ (.cons ⟨_,rfl⟩ (.cons ⟨_,rfl⟩ (.cons ⟨_,rfl⟩ (.cons ⟨_,rfl⟩ (.cons ⟨_,rfl⟩ .nil))))))⟩;have q3:PD.iJ K VI []:=⟨_,_,n3,p3,rfl,rfl,aB (by show 0<=_;decide),.nil⟩;have q4:PD.iJ K VJ []:=⟨_,_,n4,p4,rfl,rfl,aB (by show 0<=_;decide),.nil⟩;have q5:PD.iJ K VM []:=⟨_,_,n5,p5,rfl,rfl,aB (by show 0<=_;decide),.nil⟩;have FO:k7 K w mg:=by
  refine⟨aF,_,PySem.W.mg_of X G gF,⟨mF,epF,dF⟩,fun f fs m=>?_⟩;have hk:([("put", tF0,Value.ref VF),("cut", tF1,Value.ref VG),("map", tF2,Value.ref VH),("clear", tF3,Value.ref VI),("back", tF4,Value.ref VJ),("dots", tF5,Value.ref VM),("lines", tF6,Value.ref bF6),("fair", tF7,Value.ref bF7),("quarter", tF8,Value.ref bF8),("depth", tF9,Value.ref bF9),("middle", UK,Value.ref UE),("deepest", UL,Value.ref UG),("in", UM,Value.ref UH),("two", UN,Value.ref UI),("three", UO,Value.ref UJ)]:PD.M5).map (·.1)=(["put", "cut", "map", "clear", "back", "dots", "lines", "fair", "quarter", "depth", "middle", "deepest", "in", "two", "three"]:yah):=rfl;unfold dR at m;simp only[L0,O7,or_false,Prod.mk.injEq]at m;rcases m with⟨rfl,rfl⟩| ⟨rfl,rfl⟩| ⟨rfl,rfl⟩| ⟨rfl,rfl⟩| ⟨rfl,rfl⟩| ⟨rfl,rfl⟩
  ·exact⟨_,PD.cV hk 0 (by decide +kernel) rfl,q0⟩
  ·exact⟨_,PD.cV hk 1 (by decide +kernel) rfl,q1⟩
  ·exact⟨_,PD.cV hk 2 (by decide +kernel) rfl,q2⟩
  ·exact⟨_,PD.cV hk 3 (by decide +kernel) rfl,q3⟩
  ·exact⟨_,PD.cV hk 4 (by decide +kernel) rfl,q4⟩
  ·exact⟨_,PD.cV hk 5 (by decide +kernel) rfl,q5⟩
 have QO:nN K w mg:=by
  have hk:([("dots", tQ0,Value.ref Xs),("lines", tQ1,Value.ref bQ1),("fair", tQ2,Value.ref bQ2),("quarter", tQ3,Value.ref bQ3),("depth", tQ4,Value.ref bQ4),("middle", tQ5,Value.ref bQ5),("deepest", tQ6,Value.ref bQ6),("in", tQ7,Value.ref bQ7),("two", tQ8,Value.ref bQ8),("three", tQ9,Value.ref bQ9)]:PD.M5).map (·.1)=(["dots", "lines", "fair", "quarter", "depth", "middle", "deepest", "in", "two", "three"]:yah):=rfl;refine⟨aQ,_,PySem.W.mg_of X G gQ,⟨mQ,epQ,dQ⟩,(PD.cV hk 0 (by decide +kernel) rfl).trans (PySem.W.mg_of X G SN).symm,by rw[PySem.W.mg_of X G SN];rfl,fun δ=>?_⟩;cases δ
  ·exact PD.kA (x := "put") hk (by decide +kernel)
  ·exact PD.kA (x := "cut") hk (by decide +kernel)
  ·exact PD.kA (x := "map") hk (by decide +kernel)
  ·exact PD.kA (x := "clear") hk (by decide +kernel)
  ·exact PD.kA (x := "back") hk (by decide +kernel)
 have DO:nJ K w mg:=by have hk:([("put", tD0,Value.ref Xt),("cut", tD1,Value.ref Xu),("map", tD2,Value.ref Xv),("clear", tD3,Value.ref Xw)]:PD.M5).map (·.1)=(["put", "cut", "map", "clear"]:yah):=rfl;exact⟨aD,_,PySem.W.mg_of X G gD,⟨mD,V2,dD⟩,(PD.cV hk 0 (by decide +kernel) rfl).trans (PySem.W.mg_of X G UP).symm,(PD.cV hk 1 (by decide +kernel) rfl).trans (PySem.W.mg_of X G UQ).symm,(PD.cV hk 2 (by decide +kernel) rfl).trans (PySem.W.mg_of X G UR).symm,(PD.cV hk 3 (by decide +kernel) rfl).trans (PySem.W.mg_of X G US).symm⟩
 refine⟨PySem.W.fnOf "law" "law" (bH gC) (bo gC) (ai gC) .none kV0 dc0 pm0 an0 Xr ct0,fun s v=>.of_eq rfl,fun base _ _ _=>?_⟩;have Lx:=LK.has l.prog w base X G fun F=>sS F C KD KO GQ
 have Ly:=LL.has l.prog w base X G fun F=>sX F C
 have K0:=K6.has l.prog w base X G fun F=>rz F C Lx
 have IX:=J4.has l.prog w base X G fun F=>l9 F C K0
 have Mg:=Mo.has l.prog w base X G fun F=>vi F C
 have MX:=MZ.has l.prog w base X G fun F=>xf F C IX Mb GQ GZ JF
 have K1:=K7.has l.prog w base X G fun F=>rq F C MX
 have NL:=NN.has l.prog w base X G fun F=>yQ F C
 have Lz:=LM.has l.prog w base X G fun F=>sZ F C IX NL Ly Mg
 have OH:=OJ.has l.prog w base X G fun F=>AV F C K1 Lz
 have LA:=LN.has l.prog w base X G fun F=>tf F C KO
 have IB:=KJ.has l.prog w base X G fun F=>qb F C LA Ky GZ HY
 have Ko:=Kr.has l.prog w base X G fun F=>oB F C GZ
 have J3:=J5.has l.prog w base X G fun F=>ma F C IB
 have LC:=LO.has l.prog w base X G fun F=>sY F C Ko J3 IB
 have K2:=K8.has l.prog w base X G fun F=>rE F C
 have LB:=LP.has l.prog w base X G fun F=>td F C K2
 have K3:=K9.has l.prog w base X G fun F=>rD F C LB
 have Nq:=P7.has l.prog w base X G fun F=>Dw F C GZ
 have Nt:=P8.has l.prog w base X G fun F=>Du F C GZ
 have Kz:=M0.has l.prog w base X G fun F=>xg F C OH JF
 have Mn:=Mp.has l.prog w base X G fun F=>va F C
 have K4:=Le.has l.prog w base X G fun F=>rG F C K3
 have JO:=Lf.has l.prog w base X G fun F=>rC F C LC IB
 have JN:=Lg.has l.prog w base X G fun F=>rF F FO C GQ GZ HY
 have JZ:=Ks.has l.prog w base X G fun F=>oy F C GZ
 have KI:=KL.has l.prog w base X G fun F=>qa F C JG
 have Mh:=Mq.has l.prog w base X G fun F=>ve F C
 have JJ:=LQ.has l.prog w base X G fun F=>sW F C HY
 have LF:=LR.has l.prog w base X G fun F=>sV F C JJ
 have Kp:=Kt.has l.prog w base X G fun F=>oz F C
 have LD:=LS.has l.prog w base X G fun F=>sU F C
 have Mi:=Mr.has l.prog w base X G fun F=>vf F C Ky GZ
 have Mm:=Ms.has l.prog w base X G fun F=>vh F C Mh JJ GZ
 have Mj:=Mt.has l.prog w base X G fun F=>vd F C GZ HY
 have Ml:=Mu.has l.prog w base X G fun F=>vg F C Kp Mi LD HY
 have KH:=LU.has l.prog w base X G fun F=>sT F C Mj Ml Mm
 have Kq:=Ku.has l.prog w base X G fun F=>oA F C IY GQ JG
 have Q2:=NO.made Lj Lk (PySem.W.mg_of X G Kh) C.Hb l.prog w base fun F=>ox F C
 have N5:=M3.Sg (mg:=mg) l.prog w base fun F=>l8 F C
 have xA:=Ln.Sg (mg:=mg) l.prog w base fun F=>lD F C GZ
 have MY:=Ln.has (mg:=mg) l.prog w base fun F=>kE F C GZ
 have K5:jr l.prog w K mg base c_Sheet "change" 1 ["self", "dots"] fun _ _ _=>False:=N5.imp fun vs H Q E h=>by obtain⟨_,_,_,_,_,_,_,h,_⟩:=h;exact h.elim
 have UT:=OW.Sg (mg:=mg) l.prog w base fun F=>Al F C FO QO DO JN JO Nq Nt Kz Mn xA N5 GZ HY KP
 have My:=OW.has (mg:=mg) l.prog w base fun F=>ow F C FO QO DO JN JO K4 Nq Nt Kz MY K5 GZ HY KP
 have So:=LV.Xb l.prog w base X G fun F=>az.or (rA F C My Kq) (yw F C UT GQ HY GZ)
 have KG:=Lh.has l.prog w base X G fun F=>rB F C My LF GQ HY
 exact Dv (gM (st:=gC) l0 c0 k0) C Q2 So KG KH KI JZ
end LW
open PySem PySem.W PyProof.Rows
set_option maxHeartbeats 0 in
theorem PySem.Challenge.cw_halvecut_k84_a_sheet_of_deeds_holds : PySem.Challenge.rw_halvecut_k84_a_sheet_of_deeds.Holds := by
 refine hd0 ?_
 k_fill
 refine PD.zV (l := PySem.Challenge.rw_halvecut_k84_a_sheet_of_deeds) (k := 11) (x := "_law_script") (c0 := 470) (T := 468) rfl rfl ⟨rfl, by decide, by decide⟩ (fun w h Y => ⟨PySem.W.km_in_of Y, PySem.W.km_tabs_of Y _ (.head _)⟩) ?wk ?wc ?wt ?F
 (case wk => intro w; kernel_rfl)
 (case wc => intro w; kernel_rfl)
 (case wt => intro w; kernel_rfl)
 case F =>
  intro w mg fa h KX G Oq
  refine' LW.all_mk KX G Oq ?a0 ?l0 ?c0 ?k0 ?LK ?LL ?K6 ?J4 ?Mo ?MZ ?K7 ?NN ?LM ?OJ ?LN ?KJ ?Kr ?J5 ?LO ?K8 ?LP ?K9 ?P7 ?P8 ?M0 ?Mp ?Le ?Lf ?Lg ?Ks ?KL ?Mq ?LQ ?LR ?Kt ?LS ?Mr ?Ms ?Mt ?Mu ?LU ?Ku ?Lh ?LV ?NO ?Lj ?Lk ?OW ?M3 ?Ln ?Js ?JT ?Kd ?JB ?J1 ?JL ?JU ?JM ?Ju ?JE ?Kh ?Jv ?Hh ?HW ?GR ?Ho ?Ia ?Hq ?Hz ?Jw ?Jt ?Ke ?Ht ?Ib ?IC ?ID ?I0 ?IE ?Ic ?IF ?IG ?Ja ?Jb ?Hu ?Hv ?IH ?Jz ?JV ?Hw ?Ie ?II ?HH ?Ig ?HI ?Ih ?HJ ?HK ?Ii ?Jc ?G5 ?G6 ?IJ ?JH ?JW ?Hx ?Ij ?IK ?HL ?Ik ?HM ?Il ?HN ?HQ ?Im ?Jd ?G7 ?G8 ?IL ?JX ?Ki ?HA ?IM ?Je ?Ip ?IV ?Iq ?IP ?Ir ?Iu ?IW ?Jl ?Hi ?Hj ?Jm ?JI ?JY ?Hy ?Iv ?IQ ?HR ?Iw ?HS ?Iy ?HU ?HV ?Iz ?Jf ?G9 ?Ha ?IS ?JC ?Kx ?HB ?IT ?Jg ?Jh ?Jn ?Ji ?IU ?Jj ?Jk ?Jo ?Jp ?HD ?HE ?Jq ?GX ?Hb ?GW ?Hl ?gF ?dF ?mF ?gQ ?dQ ?mQ ?gD ?dD ?mD ?p0 ?p1 ?p2 ?p3 ?p4 ?p5 ?SN ?UP ?UQ ?UR ?US ?IY ?Ky ?Mb ?KD ?KO ?GQ ?GZ ?JG ?HY ?JF ?KP
  all_goals try (refine' PD.FL.mk ?a ?l ?c ?k; (case a => k_is); (case l => k_is); (case c => k_is); (case k => k_is))
  (case Js => k_is)
  (case JT => k_is)
  (case Kd => k_is)
  (case JB => k_is)
  (case J1 => k_is)
  (case JL => k_is)
  (case JU => k_is)
  (case JM => k_is)
  (case Ju => k_is)
  (case JE => k_is)
  (case Kh => k_is)
  all_goals try (refine' PD.OU.mk ?a ?i ?l ?c ?k; (case a => k_is); (case i => k_is); (case l => k_is); (case c => k_is); (case k => k_is))
  (case a0 => k_is)
  (case l0 => k_is)
  (case c0 => k_is)
  (case k0 => k_is)
  (case Lj => k_is)
  (case Lk => k_is)
  (case Jv => k_is)
  (case Hh => k_is)
  (case HW => k_is)
  (case GR => k_is)
  (case Ho => k_is)
  (case Ia => k_is)
  (case Hq => k_is)
  (case Hz => k_is)
  (case Jw => k_is)
  (case Jt => kernel_rfl)
  (case Ke => kernel_rfl)
  (case Ht => kernel_rfl)
  (case Ib => kernel_rfl)
  (case IC => kernel_rfl)
  (case ID => kernel_rfl)
  (case I0 => kernel_rfl)
  (case IE => kernel_rfl)
  (case Ic => kernel_rfl)
  (case IF => kernel_rfl)
  (case IG => kernel_rfl)
  (case Ja => kernel_rfl)
  (case Jb => kernel_rfl)
  (case Hu => kernel_rfl)
  (case Hv => kernel_rfl)
  (case IH => kernel_rfl)
  (case Jz => kernel_rfl)
  (case JV => kernel_rfl)
  (case Hw => kernel_rfl)
  (case Ie => kernel_rfl)
  (case II => kernel_rfl)
  (case HH => kernel_rfl)
  (case Ig => kernel_rfl)
  (case HI => kernel_rfl)
  (case Ih => kernel_rfl)
  (case HJ => kernel_rfl)
  (case HK => kernel_rfl)
  (case Ii => kernel_rfl)
  (case Jc => kernel_rfl)
  (case G5 => kernel_rfl)
  (case G6 => kernel_rfl)
  (case IJ => kernel_rfl)
  (case JH => kernel_rfl)
  (case JW => kernel_rfl)
  (case Hx => kernel_rfl)
  (case Ij => kernel_rfl)
  (case IK => kernel_rfl)
  (case HL => kernel_rfl)
  (case Ik => kernel_rfl)
  (case HM => kernel_rfl)
  (case Il => kernel_rfl)
  (case HN => kernel_rfl)
  (case HQ => kernel_rfl)
  (case Im => kernel_rfl)
  (case Jd => kernel_rfl)
  (case G7 => kernel_rfl)
  (case G8 => kernel_rfl)
  (case IL => kernel_rfl)
  (case JX => kernel_rfl)
  (case Ki => kernel_rfl)
  (case HA => kernel_rfl)
  (case IM => kernel_rfl)
  (case Je => kernel_rfl)
  (case Ip => kernel_rfl)
  (case IV => kernel_rfl)
  (case Iq => kernel_rfl)
  (case IP => kernel_rfl)
  (case Ir => kernel_rfl)
  (case Iu => kernel_rfl)
  (case IW => kernel_rfl)
  (case Jl => kernel_rfl)
  (case Hi => kernel_rfl)
  (case Hj => kernel_rfl)
  (case Jm => kernel_rfl)
  (case JI => kernel_rfl)
  (case JY => kernel_rfl)
  (case Hy => kernel_rfl)
  (case Iv => kernel_rfl)
  (case IQ => kernel_rfl)
  (case HR => kernel_rfl)
  (case Iw => kernel_rfl)
  (case HS => kernel_rfl)
  (case Iy => kernel_rfl)
  (case HU => kernel_rfl)
  (case HV => kernel_rfl)
  (case Iz => kernel_rfl)
  (case Jf => kernel_rfl)
  (case G9 => kernel_rfl)
  (case Ha => kernel_rfl)
  (case IS => kernel_rfl)
  (case JC => kernel_rfl)
  (case Kx => kernel_rfl)
  (case HB => kernel_rfl)
  (case IT => kernel_rfl)
  (case Jg => kernel_rfl)
  (case Jh => kernel_rfl)
  (case Jn => kernel_rfl)
  (case Ji => kernel_rfl)
  (case IU => kernel_rfl)
  (case Jj => kernel_rfl)
  (case Jk => kernel_rfl)
  (case Jo => kernel_rfl)
  (case Jp => kernel_rfl)
  (case HD => kernel_rfl)
  (case HE => kernel_rfl)
  (case Jq => kernel_rfl)
  (case GX => kernel_rfl)
  (case Hb => kernel_rfl)
  (case GW => kernel_rfl)
  (case Hl => kernel_rfl)
  (case gF => k_is)
  (case dF => k_is)
  (case mF => kernel_rfl)
  (case gQ => k_is)
  (case dQ => k_is)
  (case mQ => kernel_rfl)
  (case gD => k_is)
  (case dD => k_is)
  (case mD => kernel_rfl)
  (case p0 => k_is)
  (case p1 => k_is)
  (case p2 => k_is)
  (case p3 => k_is)
  (case p4 => k_is)
  (case p5 => k_is)
  (case SN => k_is)
  (case UP => k_is)
  (case UQ => k_is)
  (case UR => k_is)
  (case US => k_is)
  (case IY => k_is)
  (case Ky => k_is)
  (case Mb => k_is)
  (case KD => k_is)
  (case KO => k_is)
  (case GQ => k_is)
  (case GZ => k_is)
  (case JG => k_is)
  (case HY => k_is)
  (case JF => k_is)
  (case KP => k_is)
