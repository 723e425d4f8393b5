import PyProof.Rows.All
import Wide.All
import OpenK.AllK
import Wide.FinOn
import Lean
import PyProof.EqAt
import PyProof.EqKinds
import PyProof.TupleCall
import PyProof.NeKinds
import PyProof.NeData
import PySem.Challenge.RW_touchall_k93_whole_fixed_in_every_set
import PyProof.StationsW
import PyProof.ExcInit
import PyProof.InstStoreFacts
import PyProof.NsDelKeeps
import PyProof.RulesAs
import PyProof.ExcAttrAll.ValueError
import KE.KIsAll
import PyProof.AutoSeq1
import PyProof.Rows.SetFrom
import PyProof.SetRoads
import PyProof.Rows.SortRuns
import PyProof.Rows.SortShell
import KE.KSortTup
import PyProof.Rows.SumAny
import PyProof.DictWalks
import PyProof.DictUpdate
import KE.KDictList
section
open PySem PySem.W PyProof.Rows
set_option Elab.async false
set_option maxRecDepth 100000
set_option maxHeartbeats 0
set_option linter.defProp false
namespace PySem.W.Fast
theorem tw9713411584729754176:True:=⟨⟩
theorem tw15175985003622655297:True:=⟨⟩
theorem tw14808120042076376297:True:=⟨⟩
theorem tw1355814167630478347:True:=⟨⟩
theorem tw14781562103584300300:True:=⟨⟩
theorem tw18004234820734870348:True:=⟨⟩
theorem tw5593774006236773294:True:=⟨⟩
theorem tw16599119404929089777:True:=⟨⟩
theorem tw9523907401933072244:True:=⟨⟩
theorem tw280475905095942100:True:=⟨⟩
theorem tw17883986908372840214:True:=⟨⟩
theorem tw3532348617687762170:True:=⟨⟩
theorem tw2394965854965877950:True:=⟨⟩
theorem tw2093151318232780348:True:=⟨⟩
theorem tw17937840454232152400:True:=⟨⟩
theorem tw749475842917359531:True:=⟨⟩
theorem tw13210472384168294381:True:=⟨⟩
theorem tw11752198495680197036:True:=⟨⟩
theorem tw17481501184410151347:True:=⟨⟩
theorem tw17164885772072472456:True:=⟨⟩
theorem tw2220164997069877358:True:=⟨⟩
theorem tw9211910785286423148:True:=⟨⟩
theorem tw12002962974376129766:True:=⟨⟩
theorem tw16539750171811967457:True:=⟨⟩
theorem tw2299995472670780312:True:=⟨⟩
theorem tw4871235832867041519:True:=⟨⟩
theorem tw12427681057240079959:True:=⟨⟩
theorem tw15037228842536186244:True:=⟨⟩
theorem tw1103776672011430090:True:=⟨⟩
theorem tw9762787882097571856:True:=⟨⟩
theorem tw12485154272163604117:True:=⟨⟩
theorem tw8513872578731894556:True:=⟨⟩
theorem tw11033941645859556090:True:=⟨⟩
theorem tw17617909281238425753:True:=⟨⟩
theorem tw5860442181038395455:True:=⟨⟩
theorem tw14819694531884392017:True:=⟨⟩
theorem tw15188817593048362529:True:=⟨⟩
theorem tw218366189445680744:True:=⟨⟩
theorem tw17784476363750532300:True:=⟨⟩
theorem tw11024633210396038669:True:=⟨⟩
theorem tw10792147902805684486:True:=⟨⟩
theorem tw2965769552864237175:True:=⟨⟩
theorem tw12653114381597422123:True:=⟨⟩
theorem tw12343798008286848705:True:=⟨⟩
theorem tw1412105097100734851:True:=⟨⟩
theorem tw1104488647094209902:True:=⟨⟩
theorem tw10913997214970868764:True:=⟨⟩
theorem tw14435066647053243028:True:=⟨⟩
theorem tw2232508010609702249:True:=⟨⟩
theorem tw11936626435949851141:True:=⟨⟩
theorem tw1162147626044643054:True:=⟨⟩
theorem tw5954876327221452193:True:=⟨⟩
theorem tw12855419698269193786:True:=⟨⟩
theorem tw640502985788566469:True:=⟨⟩
theorem tw10700271039751537509:True:=⟨⟩
theorem tw5786271111882089314:True:=⟨⟩
theorem tw4263479457205056145:True:=⟨⟩
theorem tw1446046372975601066:True:=⟨⟩
theorem tw17998473541372339751:True:=⟨⟩
theorem tw17225890555602619104:True:=⟨⟩
theorem tw9580164878673987830:True:=⟨⟩
theorem tw8871029021759738552:True:=⟨⟩
theorem tw15968437053978078190:True:=⟨⟩
theorem tw5796348470820914510:True:=⟨⟩
theorem tw1204304298147611602:True:=⟨⟩
theorem tw2363903611795592705:True:=⟨⟩
theorem tw6584695149455985699:True:=⟨⟩
theorem tw10073281139201949855:True:=⟨⟩
theorem tw6145129637773361727:True:=⟨⟩
theorem tw1726813977947389158:True:=⟨⟩
theorem tw9619610745294895768:True:=⟨⟩
theorem tw16770910964881924072:True:=⟨⟩
theorem tw8079341929624369548:True:=⟨⟩
theorem tw8153494736163193282:True:=⟨⟩
theorem tw9857830821546525648:True:=⟨⟩
theorem tw15335128613735910151:True:=⟨⟩
theorem tw13058793742947418118:True:=⟨⟩
theorem tw15361482211156371885:True:=⟨⟩
theorem tw13557064101490781197:True:=⟨⟩
theorem tw15514634696500728796:True:=⟨⟩
theorem tw429126050991680652:True:=⟨⟩
theorem tw13481182421452709113:True:=⟨⟩
theorem tw12306747795182409104:True:=⟨⟩
theorem tw4279476487421269338:True:=⟨⟩
theorem tw7492884703717757881:True:=⟨⟩
theorem tw2962389570615649833:True:=⟨⟩
theorem tw17382730591349914884:True:=⟨⟩
theorem tw1718328181716237790:True:=⟨⟩
theorem tw9000492280638625789:True:=⟨⟩
theorem tw1349069014647357223:True:=⟨⟩
theorem tw15240104693518809320:True:=⟨⟩
theorem tw14982153563136074336:True:=⟨⟩
theorem tw17790621613727568432:True:=⟨⟩
theorem tw13651674943635200488:True:=⟨⟩
theorem tw3768600909522892029:True:=⟨⟩
theorem tw7182748549700119884:True:=⟨⟩
theorem tw9202793077811905852:True:=⟨⟩
theorem tw9482120283554068594:True:=⟨⟩
theorem tw18435423981051818222:True:=⟨⟩
theorem tw13277132962383359998:True:=⟨⟩
theorem tw15227233571305852144:True:=⟨⟩
theorem tw18111414595329612538:True:=⟨⟩
theorem tw2198618278216875009:True:=⟨⟩
theorem tw17457086080872000736:True:=⟨⟩
theorem tw14046072485561619853:True:=⟨⟩
theorem tw12541494921488360586:True:=⟨⟩
theorem tw17670709185726934248:True:=⟨⟩
theorem tw11669262180485523366:True:=⟨⟩
theorem tw6730875953044847916:True:=⟨⟩
theorem tw2269460933442521542:True:=⟨⟩
theorem tw6521518918535766600:True:=⟨⟩
theorem tw17948796234568494333:True:=⟨⟩
theorem tw14248016213943530440:True:=⟨⟩
theorem tw5774174942400694725:True:=⟨⟩
theorem tw15583159890976612112:True:=⟨⟩
theorem tw420471366415179010:True:=⟨⟩
theorem tw16134669214637943945:True:=⟨⟩
theorem tw4419083898468804903:True:=⟨⟩
theorem tw760989484626043395:True:=⟨⟩
theorem tw4463166748007049108:True:=⟨⟩
theorem tw13422686555198387815:True:=⟨⟩
theorem tw12981107023279619863:True:=⟨⟩
theorem tw11647574858823915943:True:=⟨⟩
theorem tw17341298701788093120:True:=⟨⟩
theorem tw4766716671846750097:True:=⟨⟩
theorem tw1292984125890801270:True:=⟨⟩
theorem tw7552589387619456655:True:=⟨⟩
theorem tw1623218935358935076:True:=⟨⟩
theorem tw1118109838406661019:True:=⟨⟩
theorem tw3386007157573418628:True:=⟨⟩
theorem tw7761872477267044100:True:=⟨⟩
theorem tw12010976375034376571:True:=⟨⟩
theorem tw3251091792226649815:True:=⟨⟩
theorem tw1946033789281374818:True:=⟨⟩
theorem tw5061831166103267206:True:=⟨⟩
theorem tw10661231254371446707:True:=⟨⟩
theorem tw15693294657385995021:True:=⟨⟩
theorem tw15118457964073289629:True:=⟨⟩
theorem tw5729796969671028974:True:=⟨⟩
theorem tw17699127499869388257:True:=⟨⟩
theorem tw12838189731587688999:True:=⟨⟩
theorem tw4943674162513202160:True:=⟨⟩
theorem tw8212859607379937844:True:=⟨⟩
theorem tw18053077524576164845:True:=⟨⟩
theorem tw6590878139351659348:True:=⟨⟩
theorem tw12299380988638202590:True:=⟨⟩
theorem tw11906391868283360964:True:=⟨⟩
theorem tw18438347639502009901:True:=⟨⟩
theorem tw1459643596898847606:True:=⟨⟩
theorem tw5101450760185418553:True:=⟨⟩
theorem tw5099301408519554050:True:=⟨⟩
theorem tw14100869705339816407:True:=⟨⟩
theorem tw12021910400016799448:True:=⟨⟩
theorem tw13569509383360899128:True:=⟨⟩
theorem tw5140643216894729713:True:=⟨⟩
theorem tw1254726082602250670:True:=⟨⟩
theorem tw9562907100761335393:True:=⟨⟩
theorem tw12832714438019067581:True:=⟨⟩
theorem tw850951039455432525:True:=⟨⟩
theorem tw16409236330492884371:True:=⟨⟩
theorem tw4014273260406839204:True:=⟨⟩
theorem tw13777678184960627923:True:=⟨⟩
theorem tw16690788079638538773:True:=⟨⟩
theorem tw11930511757121121756:True:=⟨⟩
theorem tw4755141612544394983:True:=⟨⟩
theorem tw577511202878901248:True:=⟨⟩
theorem tw17899455434026235383:True:=⟨⟩
theorem tw9307431955463701274:True:=⟨⟩
theorem tw7596331427218883981:True:=⟨⟩
theorem tw16621345285488354935:True:=⟨⟩
theorem tw1104458783644820503:True:=⟨⟩
theorem tw13918767385064653732:True:=⟨⟩
theorem tw18415491594491465074:True:=⟨⟩
theorem tw18366049866466480393:True:=⟨⟩
theorem tw16435145116260540403:True:=⟨⟩
theorem tw17426358754788277328:True:=⟨⟩
theorem tw4128578146920847476:True:=⟨⟩
theorem tw17748890715401807743:True:=⟨⟩
theorem tw17507916543043632276:True:=⟨⟩
theorem tw600212407440205806:True:=⟨⟩
theorem tw3333966505458403725:True:=⟨⟩
theorem tw14756317111538670632:True:=⟨⟩
theorem tw11867328985658093342:True:=⟨⟩
theorem tw6822298609184292527:True:=⟨⟩
theorem tw8802154206927592950:True:=⟨⟩
theorem tw18412816545115006207:True:=⟨⟩
theorem tw17040265546129833713:True:=⟨⟩
theorem tw3316017791842677514:True:=⟨⟩
theorem tw17746213073180106855:True:=⟨⟩
theorem tw12992367483169920845:True:=⟨⟩
theorem tw11136914164223361463:True:=⟨⟩
theorem tw2807939160141173056:True:=⟨⟩
theorem tw18051402899012708777:True:=⟨⟩
theorem tw9578137325174995177:True:=⟨⟩
theorem tw9197129900319299892:True:=⟨⟩
theorem tw7853399458379906777:True:=⟨⟩
theorem tw3421753523302657214:True:=⟨⟩
theorem tw14079483211463739728:True:=⟨⟩
theorem tw15377678365041130219:True:=⟨⟩
theorem tw12176799902621761173:True:=⟨⟩
theorem tw17953295521274581375:True:=⟨⟩
theorem tw16567477134032842647:True:=⟨⟩
theorem tw12743296696899658274:True:=⟨⟩
theorem tw18368650237389215793:True:=⟨⟩
theorem tw10606784113705308633:True:=⟨⟩
theorem tw9016929935483840578:True:=⟨⟩
theorem tw5160066459553266816:True:=⟨⟩
theorem tw10485983645851997345:True:=⟨⟩
theorem tw7049479801314898729:True:=⟨⟩
theorem tw6834151149484527781:True:=⟨⟩
theorem tw6670132038723899214:True:=⟨⟩
theorem tw5576238831551449830:True:=⟨⟩
theorem tw5103485604028916769:True:=⟨⟩
theorem tw380670818271529038:True:=⟨⟩
theorem tw2766017732037652418:True:=⟨⟩
theorem tw14640572693217546273:True:=⟨⟩
theorem tw13808704403035830490:True:=⟨⟩
theorem tw12161247644915218626:True:=⟨⟩
theorem tw11959568091775926953:True:=⟨⟩
theorem tw10581164851701950017:True:=⟨⟩
theorem tw14162606385346639759:True:=⟨⟩
theorem tw7851787535860571123:True:=⟨⟩
theorem tw7202096296974048930:True:=⟨⟩
theorem tw6494762443452080514:True:=⟨⟩
theorem tw4762995603375477503:True:=⟨⟩
theorem tw3804045619721632138:True:=⟨⟩
theorem tw18320896753210491444:True:=⟨⟩
theorem tw17386353614433715009:True:=⟨⟩
theorem tw17216570649916412029:True:=⟨⟩
theorem tw14527855219218812963:True:=⟨⟩
theorem tw13527872405176336012:True:=⟨⟩
theorem tw17001195906241442773:True:=⟨⟩
theorem tw2374692894874826008:True:=⟨⟩
theorem tw7007092725283629287:True:=⟨⟩
theorem tw4040663737483218468:True:=⟨⟩
theorem tw15546968404707699468:True:=⟨⟩
theorem tw563053371679183329:True:=⟨⟩
theorem tw16686946778696207671:True:=⟨⟩
theorem tw15857502192387367969:True:=⟨⟩
theorem tw10768096261527618843:True:=⟨⟩
theorem tw6049868058112198784:True:=⟨⟩
theorem tw12308534206943208666:True:=⟨⟩
theorem tw10340114976711878602:True:=⟨⟩
theorem tw8515696569937148607:True:=⟨⟩
theorem tw17748391171391791682:True:=⟨⟩
theorem tw7232841066116858783:True:=⟨⟩
theorem tw360715681367275602:True:=⟨⟩
theorem tw162473700425539603:True:=⟨⟩
theorem tw14508702681240927338:True:=⟨⟩
theorem tw16731634629222179199:True:=⟨⟩
theorem tw11845121057717500690:True:=⟨⟩
theorem tw7038596651363693363:True:=⟨⟩
theorem tw15980514055555444097:True:=⟨⟩
theorem tw4395593587568455176:True:=⟨⟩
theorem tw14376798394326754113:True:=⟨⟩
theorem tw6425884994113631308:True:=⟨⟩
theorem tw8297966634746096414:True:=⟨⟩
theorem tw6245827768647603512:True:=⟨⟩
theorem tw6014219777646665041:True:=⟨⟩
theorem tw8556881319794653275:True:=⟨⟩
theorem tw5875658566950336651:True:=⟨⟩
theorem tw17594760211624526283:True:=⟨⟩
theorem tw12274256780947587003:True:=⟨⟩
theorem tw3436040953348231904:True:=⟨⟩
theorem tw18034349319857144288:True:=⟨⟩
theorem tw14003406518076274850:True:=⟨⟩
theorem tw4069687752174603861:True:=⟨⟩
theorem tw14295450787131531452:True:=⟨⟩
theorem tw18259904567720872237:True:=⟨⟩
theorem tw9297663727785247985:True:=⟨⟩
theorem tw3778727204222080899:True:=⟨⟩
theorem tw7202037326456345769:True:=⟨⟩
theorem tw13586414748893568851:True:=⟨⟩
theorem tw9360046480592557864:True:=⟨⟩
theorem tw13957831022968771053:True:=⟨⟩
theorem tw15690650966298527693:True:=⟨⟩
theorem tw11207535551202950041:True:=⟨⟩
theorem tw17478704713776998801:True:=⟨⟩
theorem tw9990162211652564711:True:=⟨⟩
theorem tw994784650385719441:True:=⟨⟩
theorem tw9947724475003619674:True:=⟨⟩
theorem tw9863237375522220903:True:=⟨⟩
theorem tw9748736633980905991:True:=⟨⟩
theorem tw9643090989392201812:True:=⟨⟩
theorem tw9622471659420483719:True:=⟨⟩
theorem tw895549414950198869:True:=⟨⟩
theorem tw8950122196792752529:True:=⟨⟩
theorem tw8885987717333115810:True:=⟨⟩
theorem tw885371844316833120:True:=⟨⟩
theorem tw8795544817985420263:True:=⟨⟩
theorem tw8706593751649875096:True:=⟨⟩
theorem tw839797487601484142:True:=⟨⟩
theorem tw8112447074107057508:True:=⟨⟩
theorem tw787864133665795934:True:=⟨⟩
theorem tw7835064511630915075:True:=⟨⟩
theorem tw7830369994248853982:True:=⟨⟩
theorem tw7776265952824830946:True:=⟨⟩
theorem tw7514863291714595196:True:=⟨⟩
theorem tw741491041883484307:True:=⟨⟩
theorem tw7129484964119345133:True:=⟨⟩
theorem tw6866683891151582221:True:=⟨⟩
end PySem.W.Fast
open_top MyHead for PySem.Challenge.rw_touchall_k93_whole_fixed_in_every_set
end
-- CHANGE: your row's module here, as the last of these rows
noncomputable section
abbrev LX:=List (Int×Int×Int)
abbrev LY:=List (Int×Int)
abbrev LZ:=PySem.Value->PySem.Shared->Prop
abbrev L1:=List (PySem.Addr×PySem.Obj)
abbrev L3:=PySem.W.Frag
abbrev L4:=PySem.Str->Option PySem.Value
abbrev L5:=List (PySem.Str×PySem.Value)
abbrev L6:=List (Option Nat)
abbrev L7:=Array (Nat×Nat×Nat)
def aa:=@List.length_map
def ae:=@PySem.wpAny_bind
def af:=@List.map_append
def ag:=@PySem.Heap.get?_push_of_some
def ai:=@List.map_cons
def ao:=@decide_eq_true
def aq:=@PySem.Paired.length
def au:=@List.mem_cons_of_mem
def av:=@List.mem_map
def ax:=@List.getElem?_eq_some_iff
def ay:=@Nat.le_refl
def aA:=@decide_eq_false
def aC:=@List.mem_of_getElem?
def aD:=@List.take_length
def aE:=@List.mem_cons_self
def aF:=@List.size_toArray
def aG:=@if_neg
def aH:=@List.length_append
def aI:=@if_pos
def aJ:=@Option.some.inj
def aK:=@List.mem_singleton
def aL:=@Bool.false_eq_true
def aM:=@PySem.wpAny_pure
def aO:=@of_decide_eq_true
def aP:=@List.length_take
def aQ:=@Bool.and_eq_true
def aR:=@PySem.Heap.lt_size
def aS:=@List.append_nil
def aU:=@List.getElem?_map
def aV:=@List.mem_cons
def aW:=@PySem.Heap.get?_push_size
def aX:=@PySem.F.type_list_append
def aY:=@PySem.F.slot_list_append
def aZ:=@Nat.lt_of_succ_lt
def ba:=@PySem.F.plainAttrs_list
def bf:=@List.getD_eq_getElem?_getD
def bg:=@PySem.PassesOwn.never
def bj:=@List.mem_filter
def bo:=@Bool.false_ne_true
def bp:=@List.append_assoc
def bq:=@List.length_filter_le
def br:=@List.mem_append
def bu:=@Nat.ne_of_lt
def bw:=@Nat.le_trans
def bx:=@List.mem_iff_getElem
def bC:=@List.getElem?_append_left
def bD:=@PySem.W.mg_none_of
def bG:=@Nat.lt_of_lt_of_le
def bH:=@List.mem_append_right
def bI:=@List.filter_append
def bJ:=@PySem.Heap.get?_update_other
def bK:=@Bool.not_true
def bL:=@List.mem_range
def bM:=@decide_eq_true_eq
def bN:=@PyProof.Rows.boot_isinstance
def bO:=@List.map_nil
def bP:=@List.map_map
def bQ:=@PySem.wpAny_holding
def bR:=@Sum.inl.inj
def bS:=@Nat.zero_le
def bU:=@List.filter_cons
def bV:=@List.nodup_cons
def bX:=@List.range_succ
def bY:=@PySem.wpAny_seqItems
def bZ:=@List.pairwise_append
def cf:=@List.getElem?_eq_none
def cg:=@Int.le_refl
def cj:=@PySem.wpAny_truthy_bool
def ck:=@decide_true
def cn:=@PySem.Around.under_plainId
def cu:=@List.take_of_length_le
def cx:=@Int.mul_comm
def cz:=@Bool.true_and
def cA:=@congrArg
def cB:=@List.length_range
def cC:=@List.mem_append_left
def cD:=@PyProof.Rows.boot_dict
def cE:=@beq_eq_false_iff_ne
def cF:=@PySem.mem_of_lookup
def cG:=@List.mem_map_of_mem
def cH:=@Option.some.injEq
def cI:=@Bool.not_false
def cJ:=@PySem.W.kia_one
def cK:=@List.sum_append
def cL:=@List.length_set
def cM:=@PySem.wpAny_field
def cN:=@List.getElem_mem
def cO:=@PySem.plainId_quiet
def cP:=@Nat.lt_irrefl
def cQ:=@PySem.wpAny_tryCatch
def cR:=@PySem.wpAny_newObj_type
def cS:=@decide_false
def cT:=@PySem.F.plain_min_loop
def cU:=@PySem.F.plain_max_loop
def cV:=@List.getElem?_append_right
def cW:=@PySem.codeAny_builtin
def cX:=@Int.mul_add
def cY:=@PySem.Heap.get?_update_self
def cZ:=@List.all_eq_true
def c6:=@PySem.W.mg_of
def c7:=@Ne.symm
def de:=@Bool.false_and
def df:=@Bool.eq_iff_iff
def dg:=@PyProof.Rows.callWith_type1
def dh:=@Int.zero_add
def dj:=@PySem.F.slot_dict_get
def dk:=@PySem.wpAny_pyIter_list
def dq:=@PySem.wpAny_letGo
def du:=@Nat.ne_of_gt
def dw:=@List.pairwise_map
def dy:=@PySem.wpAny_callSpecial?_slot
def dA:=@List.mem_flatMap
def dC:=@PySem.wpAny_setField_rec
def dD:=@PySem.wpAny_mono
def dE:=@PySem.tupleKind_room_in1
def dF:=@PyProof.Rows.boot_list
def dG:=@Option.map_eq_some_iff
def dH:=@List.drop_eq_nil_of_le
def dJ:=@PySem.wpAny_passesOwn
def dM:=@PyProof.Rows.boot_sum
def dO:=@Nat.le_of_ble_eq_true
def dP:=@Option.isSome_map
def dQ:=@Nat.lt_succ_of_lt
def dR:=@PySem.Heap.size_push
def dU:=@PySem.F.slot_tuple_iterator_next
def dW:=@PySem.wpAny_call_entry
def dX:=@List.drop_eq_getElem_cons
def dY:=@Option.isSome_iff_exists
def dZ:=@Nat.lt_succ_iff_lt_or_eq
def eG:=@PySem.F.slot_list_getattribute
def eI:=@PySem.wpAny_updateSeq
def eJ:=@Int.emod_nonneg
def eK:=@PySem.wpAny_Call_Name_kw
def eM:=@List.map_inj_right
def eN:=@Int.emod_lt_of_pos
def eO:=@Int.add_mul
def eP:=@PySem.wpAny_typeOf
def eQ:=@PySem.wpAny_pyNext_list_item
def eS:=@PySem.F.entry_dict_get
def eT:=@List.nodup_append
def eU:=@List.flatMap_cons
def eV:=@Int.mul_zero
def eX:=@Bool.eq_false_iff
def fb:=@Bool.and_false
def fc:=@PyProof.Rows.slot_tuple_getitem
def fe:=@PySem.wpAny_pyNext_list_end
def ff:=@PyProof.Rows.boot_max
def fg:=@PyProof.Rows.boot_all
def fh:=@List.perm_append_comm
def fj:=@PySem.wpAny_rule
def fk:=@List.not_mem_nil
def fm:=@List.length_drop
def fo:=@List.any_eq_true
def fq:=@List.flatMap_append
def fu:=@Nat.lt_of_le_of_lt
def fw:=@List.pairwise_cons
def fA:=@List.nodup_nil
def fD:=@List.drop_zero
def fE:=@PySem.Calls.spliced_cons
def fF:=@List.pairwise_iff_getElem
def fG:=@Classical.byContradiction
def fH:=@PySem.wpAny_of_eq
def fJ:=@PySem.wpAny_standAt
def fK:=@PyProof.Rows.boot_sorted
def fL:=@Int.mul_assoc
def fM:=@decide_eq_false_iff_not
def fN:=@PyProof.Rows.boot_tuple
def fO:=@Nat.lt_succ_self
def fP:=@Nat.le_add_right
def fQ:=@List.getElem_inj
def fS:=@PySem.F.entry_min_loop
def fT:=@PySem.F.entry_max_loop
def fU:=@List.all_map
def fV:=@Int.add_zero
def fW:=@PySem.Calls.callWith_builtin
def fX:=@PySem.wpAny_loadPart'
def fY:=@PySem.wpAny_execs_nil
def fZ:=@beq_false_of_ne
def gb:=@PySem.F.slot_zip_next
def gf:=@PySem.wpAny_isTrue_Compare1
def gg:=@PyProof.Rows.boot_min
def gh:=@List.mem_iff_getElem?
def gm:=@List.Perm.append_left
def gp:=@PySem.wpAny_updateSeq_pair
def gq:=@Int.mul_nonneg
def gu:=@PySem.Calls.evalArgs_plain
def gv:=@PySem.W.plainGet_of
def gw:=@List.map_congr_left
def gz:=@List.getElem?_range
def gA:=@PySem.wpAny_onRaise
def gB:=@Bool.and_true
def gC:=@PySem.wpAny_pyIter_tuple
def gD:=@beq_iff_eq
def gF:=@PySem.SeqAt.EqAt.int_int
def gG:=@PySem.W.callWith_K
def gH:=@Int.natCast_nonneg
def gI:=@PySem.slot_list_getitem
def gJ:=@eq_false
def gL:=@PySem.codeAny_mono
def gM:=@PySem.call_meetsIn
def gN:=@Nat.le_of_lt
def gO:=@List.getElem?_set
def gP:=@List.find?_isSome
def gQ:=@List.filter_congr
def gR:=@List.ext_getElem?
def gS:=@PySem.Calls.spliced_nil
def gT:=@PySem.wpAny_isInstance
def gU:=@Nat.succ_ne_self
def gW:=@Nat.min_le_right
def gX:=@List.flatMap_nil
def gY:=@PySem.F.slot_list_iadd
def gZ:=@PySem.sizeLine_eq
def g6:=@PySem.seqIndex_of
def g9:=@Int.mul_sub
def hG:=@Int.mul_le_mul_of_nonneg_left
def hJ:=@PySem.SeqAt.EqAt.same
def hU:=@Nat.min_le_left
def hV:=@List.of_mem_zip
def hX:=@List.forIn_cons
def h8:=@PySem.F.args_tuple_iterator_next_1
def ic:=@PySem.F.entry_tuple_iterator_next
def ie:=@or_false
def ig:=@PyProof.Rows.Subscript_
def ij:=@PySem.boot_len
def ip:=@Int.fdiv_eq_ediv_of_nonneg
def iq:=@PySem.Calls.Name_function_global
set_option Elab.async false
set_option linter.all false
set_option maxRecDepth 100000
theorem gE{α:Type}{l:List α}{i:Nat}(h:i<l.length):l[i]? =some l[i]:=List.getElem?_eq_getElem h
namespace L2
open PySem PySem.Spec PyProof.Rows
section
variable{H:Hp}{us:List Value}
abbrev iw:=Sum Int Str
noncomputable def pD:iw->Value->Bool
 | .inl k,v=>Value.isInt k v
 | .inr x,v=>Value.isStrOf x v
noncomputable def FS(w:World):iw->Int
 | .inl k=>hashInt k
 | .inr x=>hashStr w x
theorem nE:∀{k:iw} {v:Value},pD k v=true->(∃i t,k=Sum.inl i/\v=Value.int i t)\/(∃x t,k=Sum.inr x/\v=Value.str x t)
 | .inl i,v,h=>by
  obtain⟨t,e⟩:=Value.isInt_shape (k:=i) (v:=v) h;exact .inl ⟨i,t,rfl,e⟩
 | .inr x,v,h=>by
  obtain⟨t,e⟩:=Value.isStrOf_shape (x:=x) (v:=v) h;exact .inr ⟨x,t,rfl,e⟩
theorem ID(i:Int)(t:Tok):pD (.inl i) (.int i t)=true:=by simp[pD,Value.isInt]
theorem IE(x:Str)(t:Tok):pD (.inr x) (.str x t)=true:=by simp[pD,Value.isStrOf]
theorem FR(a b:Int):decide ((Sum.inl a:iw)=Sum.inl b)=(a==b):=by
 by_cases e:a=b
 ·subst e;simp
 ·have h:¬(Sum.inl a:iw)=Sum.inl b:=fun q=>e (bR q);rw[aA h];exact(cE.mpr e).symm
theorem FO(a b:Str):decide ((Sum.inr a:iw)=Sum.inr b)=decide (a=b):=by
 by_cases e:a=b
 ·subst e;simp
 ·have h:¬(Sum.inr a:iw)=Sum.inr b:=fun q=>e (Sum.inr.inj q);rw[aA h,aA e]
theorem FQ(a:Int)(b:Str):decide ((Sum.inl a:iw)=Sum.inr b)=false:=aA (fun q=>nomatch q)
theorem FP(a:Str)(b:Int):decide ((Sum.inr a:iw)=Sum.inl b)=false:=aA (fun q=>nomatch q)
noncomputable def kg(prog:Program)(w:World):PySem.KeyKind prog w iw where
 is:=pD
 hash:=FS w
 inj:=fun v a b J U=>by
  rcases nE J with⟨i,t,rfl,rfl⟩|⟨x,t,rfl,rfl⟩
  ·rcases nE U with⟨j,u,rfl,e⟩|⟨y,u,rfl,e⟩
   ·injection e with e1 _;rw[e1]
   ·exact nomatch e
  ·rcases nE U with⟨j,u,rfl,e⟩|⟨y,u,rfl,e⟩
   ·exact nomatch e
   ·injection e with e1 _;rw[e1]
 byValue:=fun k v h=>by
  rcases nE h with⟨i,t,rfl,rfl⟩|⟨x,t,rfl,rfl⟩<;>rfl
 pyHash:=fun Y h=>by
  rcases nE Y with⟨i,t,rfl,rfl⟩|⟨x,t,rfl,rfl⟩
  ·exact wpAny_pyHash_int h
  ·exact wpAny_pyHash_str h
 eqBool:=fun F Y h=>by
  rcases nE F with⟨i,t,rfl,rfl⟩|⟨x,t,rfl,rfl⟩
  ·rcases nE Y with⟨j,u,rfl,rfl⟩|⟨y,u,rfl,rfl⟩
   ·rw[FR]at h;exact wpAny_eqBool_int h
   ·rw[FQ]at h;exact SeqAt.EqAt.int_str i t y u _ _ _ _ h
  ·rcases nE Y with⟨j,u,rfl,rfl⟩|⟨y,u,rfl,rfl⟩
   ·rw[FP]at h;exact SeqAt.EqAt.str_int x t j u _ _ _ _ h
   ·rw[FO]at h;exact wpAny_eqBool_str h
 «strs»:=fun k x t v h=>by
  rcases nE h with⟨i,u,rfl,e⟩|⟨y,u,rfl,e⟩
  ·exact nomatch e
  ·injection e with e1 _;subst e1;cases v<;>rfl
theorem J1(prog:Program)(w:World)(i:Int)(t:Tok):(kg prog w).is (.inl i) (.int i t)=true:=ID i t
theorem J2(prog:Program)(w:World)(x:Str)(t:Tok):(kg prog w).is (.inr x) (.str x t)=true:=IE x t
inductive V where
 |non|bl (b:Bool)|int (i:Int)|str (x:Str)|byt (b:Array UInt8)|flt (b:UInt64)|ref (a:Addr)|ty (n:String)
 deriving DecidableEq
noncomputable def RelV:V->Value->Prop
 | .non,u=>u=Value.none
 | .bl b,u=>u=Value.bool b
 | .int i,u=>∃t,u=Value.int i t
 | .str x,u=>∃t,u=Value.str x t
 | .byt b,u=>∃t,u=Value.bytes b t
 | .flt b,u=>∃t,u=Value.float b t
 | .ref a,u=>u=Value.ref a
 | .ty n,u=>u=Value.type n
abbrev Vals:List V->List Value->Prop:=Paired RelV
theorem Vals.length{xs:List V}(r:Vals xs us):xs.length=us.length:=aq r
theorem Vals.get:∀{xs:List V} {us:List Value} {i:Nat} {x:V},Vals xs us->xs[i]? =some x->∃u,us[i]? =some u/\RelV x u
 |_,_,_,_,.nil,e=>by simp at e
 |_,_,0,_,.cons r _,e=>by simp at e;subst e;exact⟨_,rfl,r⟩
 |_,_,i+1,x,.cons _ t,e=>by
  obtain⟨u,h1,h2⟩:=Vals.get (i:=i) (x:=x) t (by simpa using e);exact⟨u,by simpa using h1,h2⟩
theorem Vals.set{x:V}{u:Value}(r:RelV x u):∀{xs:List V} {us:List Value} (i:Nat),Vals xs us->Vals (xs.set i x) (us.set i u)
 |_,_,_,.nil=>.nil
 |_,_,0,.cons _ t=>.cons r t
 |_,_,i+1,.cons q t=>.cons q (Vals.set r i t)
theorem Vals.append{xs ys:List V}{p:List Value}(C:Vals xs us):Vals ys p->Vals (xs++ys) (us++p):=by
 induction C with
 |nil=>exact fun s=>s
 |cons r t E=>
  exact fun s=>.cons r (E s)
theorem Vals.take:∀{xs:List V} {us:List Value} (n:Nat),Vals xs us->Vals (xs.take n) (us.take n)
 |_,_,0,_=>.nil
 |_,_,_+1,.nil=>.nil
 |_,_,n+1,.cons r t=>.cons r (Vals.take n t)
theorem Vals.drop:∀{xs:List V} {us:List Value} (n:Nat),Vals xs us->Vals (xs.drop n) (us.drop n)
 |_,_,0,r=>r
 |_,_,_+1,.nil=>.nil
 |_,_,n+1,.cons _ t=>Vals.drop n t
noncomputable def RelO:Option V->Option Value->Prop
 |some v,some u=>RelV v u
 |none,none=>True
 |_,_=>False
noncomputable def KV{κ:Type}:List (κ×V)->List (κ×Value)->Prop:=Paired fun(p:κ×V) (q:κ×Value)=>p.1=q.1/\RelV p.2 q.2
noncomputable def kV:iw->V
 | .inl i=>.int i
 | .inr x=>.str x
inductive HO where
 |lst (xs:List V)
 |tup (xs:List V)
 |dK (kvs:List (iw×V))|dT (kvs:List (List iw×V))
 |set (S:Int->Bool) (n:Nat)
 |ins (C dx:Addr) (fs:List (Str×V))
 |own (x:Addr)
 |xd (fs:List (Str×V))
 |met (f x:Addr)
 |rng (lo hi:Int)
 |frz (o:Obj) (u:HO)
 |tbl (ps:Array Value)
 |ext (φ:Heap->Prop)
abbrev Hp:=Addr->Option HO
noncomputable def upd(H:Hp)(a:Addr)(o:HO):Hp:=fun b=>if b=a then some o else H b
theorem ir{a:Addr}{o:HO}:upd H a o a=some o:=by unfold upd;rw[aI rfl]
theorem iC{a b:Addr}{o:HO}(h:b≠a):upd H a o b=H b:=by unfold upd;rw[aG h]
theorem pU{a:Addr}{o u:HO}:upd (upd H a o) a u=upd H a u:=by
 funext b;unfold upd;split<;>rfl
theorem pG{a b:Addr}{o u:HO}(h:H a=some o)(h':H b=some u)(d:o≠u):a≠b:=by
 intro e;subst e;rw[h]at h';exact d (aJ h')
theorem iO{a b:Addr}{o:HO}(h:H a=some o)(h':H b=none):a≠b:=by
 intro e;subst e;rw[h]at h';cases h'
end
section
variable(P:Program)(w:World)
noncomputable def jc2(H:Hp)(h:Heap)(a:Addr):HO->Prop
 | .lst xs=>xs.length<=sizeLine/\∃(its:List Value) (n:Nat),Vals xs its/\h.get? a=some {cls:=.type "list",data:=.seq its.toArray n}
 | .tup xs=>xs.length<=sizeLine/\∃its:List Value,Vals xs its/\IsTup h a its.toArray
 | .dK kvs=>kvs.length<=sizeLine/\(a==sysModules)=false/\∃vs,KV kvs vs/\h.DictOf (kg P w) a vs
 | .dT kvs=>kvs.length<=sizeLine/\(a==sysModules)=false/\∃xs:List (List iw×Addr×Value),
   Paired (fun(p:List iw×V) (q:List iw×Addr×Value)=>p.1=q.1/\H q.2.1=some (.tup (p.1.map kV))/\RelV p.2 q.2.2) kvs xs/\
   ∃o es Y,h.get? a=some o/\o.ExactDict/\o.data= .dict es Y/\es.toList=xs.map (entryOfKey (tupleKind (kg P w)))/\(xs.map (·.1)).Nodup
 | .set S n=>h.SetOf (intKind P w) a S n
 | .ins C dx fs=>H dx=some (.own a)/\fs.length<=1000/\dx≠a/\h.get? a=some (PySem.W.instObj C dx)/\
   ∃mA,h.Ns1 dx mA/\(∀f,RelO (fs.lookup f) (mA f))/\PySem.Within mA (fs.map (·.1))
 | .own _=>∃o,h.get? a=some o
 | .xd fs=>∃mA,h.Ns1 a mA/\∀f,RelO (fs.lookup f) (mA f)
 | .rng lo hi=>∃t u v,h.get? a=some {cls:=.type "range",data:=.fields #[.int lo t,.int hi u,.int 1 v]}
 | .frz o u=>h.get? a=some o/\jc2 H h a u
 | .tbl ps=>h.get? a=some {cls:=.none,data:=.fields ps}
 | .met f x=>h.get? a=some (PySem.W.methodObj (.ref f) (.ref x))
 | .ext φ=>φ h/\(∃o,h.get? a=some o)/\∀h1 h2:Heap,φ h1->(∀o,h1.get? a=some o->h2.get? a=some o)->φ h2
noncomputable def HOk(H:Hp)(h:Heap):Prop:=∀a o,H a=some o->jc2 P w H h a o
end
section
variable{P:Program}{w:World}{H H':Hp}{h h':Heap}{a x e:Addr}{o o' u:HO}
theorem jc2.lt(x:jc2 P w H h a o):a<h.objs.size:=by
 cases o with
 |lst xs=>obtain⟨_,_,_,_,e⟩:=x;exact aR e
 |tup xs=>obtain⟨_,_,_,p⟩:=x;exact p.lt
 |dK kvs=>obtain⟨_,_,_,_,o,_,_,e,_⟩:=x;exact aR e
 |dT kvs=>obtain⟨_,_,_,_,o,_,_,e,_⟩:=x;exact aR e
 |set S n=>obtain⟨o,_,_,_,e,_⟩:=x;exact aR e
 |ins C dx fs=>obtain⟨_,_,_,e,_⟩:=x;exact aR e
 |own y=>obtain⟨_,e⟩:=x;exact aR e
 |xd fs=>obtain⟨_,⟨_,_,_,e,_⟩,_⟩:=x;exact aR e
 |rng lo hi=>obtain⟨_,_,_,e⟩:=x;exact aR e
 |frz l u=>obtain⟨e,_⟩:=x;exact aR e
 |tbl ps=>exact aR (show h.get? a=some _ from x)
 |met f y=>exact aR (show h.get? a=some _ from x)
 |ext φ=>obtain⟨_,⟨_,e⟩,_⟩:=x;exact aR e
theorem Paired.mapP{α g:Type}{F G:α->g->Prop}{c:List α}{l:List g}(C:Paired F c l):(∀a b,F a b->G a b)->Paired G c l:=by
 induction C with
 |nil=>exact fun _=>.nil
 |cons r t E=>
  exact fun f=>.cons (f _ _ r) (E f)
theorem Paired.imp'{α g:Type}{F G:α->g->Prop}(f:∀a b,F a b->G a b){c:List α}{l:List g}(r:Paired F c l):Paired G c l:=Paired.mapP r f
theorem jc2.stay(x:jc2 P w H h a o)(k:∀b u,(b=a\/H b=some (.own a))->h.get? b=some u->h'.get? b=some u)
  (M:∀b,H b=some (.own a)->H' b=some (.own a)) (B:∀b xs,H b=some (.tup xs)->H' b=some (.tup xs)):jc2 P w H' h' a o:=by
 induction o with
 |lst xs=>obtain⟨z,its,n,r,e⟩:=x;exact⟨z,its,n,r,k _ _ (.inl rfl) e⟩
 |tup xs=>obtain⟨z,its,r,l,e,c⟩:=x;exact⟨z,its,r,l,k _ _ (.inl rfl) e,c⟩
 |dK kvs=>obtain⟨z,y,vs,r,l,es,Y,e,c⟩:=x;exact⟨z,y,vs,r,l,es,Y,k _ _ (.inl rfl) e,c⟩
 |dT kvs=>
  obtain⟨z,y,xs,r,l,es,Y,e,c⟩:=x;exact⟨z,y,xs,Paired.mapP r fun p q z=>⟨z.1,B _ _ z.2.1,z.2.2⟩,l,es,Y,k _ _ (.inl rfl) e,c⟩
 |set S n=>obtain⟨l,es,Y,t,e,c⟩:=x;exact⟨l,es,Y,t,k _ _ (.inl rfl) e,c⟩
 |ins C dx fs=>
  obtain⟨d,z,D,e,mA,⟨od,es,Y,e2,c⟩,r⟩:=x;exact⟨M _ d,z,D,k _ _ (.inl rfl) e,mA,⟨od,es,Y,k _ _ (.inr d) e2,c⟩,r⟩
 |own y=>obtain⟨l,e⟩:=x;exact⟨l,k _ _ (.inl rfl) e⟩
 |xd fs=>obtain⟨mA,⟨od,es,Y,e,c⟩,r⟩:=x;exact⟨mA,⟨od,es,Y,k _ _ (.inl rfl) e,c⟩,r⟩
 |rng lo hi=>obtain⟨t,u,v,e⟩:=x;exact⟨t,u,v,k _ _ (.inl rfl) e⟩
 |frz l u E=>obtain⟨e,q⟩:=x;exact⟨k _ _ (.inl rfl) e,E q⟩
 |tbl ps=>
  have e:h.get? a=some {cls:=.none,data:=.fields ps}:=x;show h'.get? a=some {cls:=.none,data:=.fields ps};exact k a _ (.inl rfl) e
 |met f y=>
  have e:h.get? a=some (PySem.W.methodObj (.ref f) (.ref y)):=x;show h'.get? a=some (PySem.W.methodObj (.ref f) (.ref y));exact k a _ (.inl rfl) e
 |ext φ=>obtain⟨p,⟨o,e⟩,st⟩:=x;exact⟨st _ _ p fun o q=>k _ _ (.inl rfl) q,⟨o,k _ _ (.inl rfl) e⟩,st⟩
theorem HOk.lt(x:HOk P w H h)(e:H a=some o):a<h.objs.size:=(x a o e).lt
theorem HOk.fresh(x:HOk P w H h)(e:h.objs.size<=a):H a=none:=by
 cases q:H a with
 |none=>rfl
 |some u=>exact absurd (bG (x.lt q) e) (cP _)
theorem HOk.kept(x:HOk P w H h)(k:∀b u,h.get? b=some u->h'.get? b=some u):HOk P w H h':=fun a o e=>
 (x a o e).stay (fun b u _ q=>k b u q) (fun _ q=>q) fun _ _ q=>q
theorem HOk.laid(x:HOk P w H h)(k:∀b u,h.get? b=some u->h'.get? b=some u)(O:h.objs.size<=a)(f:jc2 P w (upd H a o) h' a o):HOk P w (upd H a o) h':=fun b u e=>by
 have S:=x.fresh O;by_cases U:b=a
 ·subst U;rw[ir]at e;cases e;exact f
 ·rw[iC U]at e;exact(x b u e).stay (fun c v _ q=>k c v q) (fun c q=>by rw[iC (iO q S)];exact q) fun c xs q=>by rw[iC (iO q S)];exact q
noncomputable def Rd(H:Hp)(a:Addr)(u:HO):Prop:=H a=some u\/∃o,H a=some (.frz o u)
theorem Rd.of(h:H a=some u):Rd H a u:=.inl h
theorem Rd.ok(r:Rd H a u)(x:HOk P w H h):jc2 P w H h a u:=by
 rcases r with r|⟨o,r⟩
 ·exact x a u r
 ·obtain⟨_,q⟩:=x a _ r;exact q
noncomputable def sX:Option HO->Prop
 |some (.lst _)=>True
 |some (.dK _)=>True
 |some (.dT _)=>True
 |some (.set _ _)=>True
 |some (.ins _ _ _)=>True
 |some (.ext _)=>True
 |_=>False
theorem HOk.write(o:HOk P w H h)(m:sX (H x))(R:e=x\/H e=some (.own x))(k:∀b u,b≠e->h.get? b=some u->h'.get? b=some u)(d:∃u,h'.get? e=some u)
  (f:jc2 P w (upd H x o') h' x o'):HOk P w (upd H x o') h':=fun b u q=>by
 have n:∀c y,H c=some (.own y)->c≠x:=fun c y r z=>by subst z;rw[r]at m;exact m
 have p:∀c xs,H c=some (.tup xs)->c≠x:=fun c xs r z=>by subst z;rw[r]at m;exact m
 by_cases U:b=x
 ·subst U;rw[ir]at q;cases q;exact f
 ·rw[iC U]at q;by_cases a:b=e
  ·have L:H b=some (.own x):=by
    rcases R with z|z
    ·exact absurd (a.trans z) U
    ·rw[a];exact z
   rw[q]at L;cases L;obtain⟨v,j⟩:=d;exact⟨v,by rw[a];exact j⟩
  ·refine(o b u q).stay (fun c v Y r=>k c v ?_ r) (fun c r=>by rw[iC (n c b r)];exact r) fun c xs r=>by rw[iC (p c xs r)];exact r
   rcases Y with rfl|Y
   ·exact a
   ·rintro rfl;rcases R with z|z
    ·exact n c b Y z
    ·rw[Y]at z;cases z;exact U rfl
end
structure Un(fs ex:List Addr)(H H':Hp)(h h':Heap):Prop where
 keep:∀b o,h.get? b=some o->H b=none->b∉fs->b∉ex->h'.get? b=some o
 slot:∀b o,h.get? b=some o->H b=none->b∈fs->b∉ex->∃sl,h'.get? b=some {o with slots:=sl}
 free:∀b o,h.get? b=some o->H b=none->b∉ex->H' b=none
 there:∀b o,h.get? b=some o->b∉ex->∃o',h'.get? b=some o'
 tups:∀b xs,H b=some (.tup xs)->H' b=some (.tup xs)
 frzs:∀b o u,H b=some (.frz o u)->H' b=some (.frz o u)
 tbls:∀b ps,H b=some (.tbl ps)->∃more,H' b=some (.tbl (ps++more))
section
variable{fs fs' ex ex':List Addr}{H H1 H2:Hp}{h h1 h2 h':Heap}{a x e b:Addr}{o:HO}
theorem Un.any(u:Un fs ex H H1 h h1){l:Obj}(q:h.get? b=some l)(n:H b=none)(G:b∉ex):∃sl,h1.get? b=some {l with slots:=sl}:=by
 by_cases U:b∈fs
 ·exact u.slot b l q n U G
 ·exact⟨l.slots,u.keep b l q n U G⟩
theorem Un.trans(a:Un fs ex H H1 h h1)(b:Un fs ex H1 H2 h1 h2):Un fs ex H H2 h h2 where
 keep:=fun c l q n Y G=>b.keep c l (a.keep c l q n Y G) (a.free c l q n G) Y G
 slot:=fun c l q n Y G=>by
  obtain⟨sl,e1⟩:=a.slot c l q n Y G;obtain⟨w,e2⟩:=b.slot c _ e1 (a.free c l q n G) Y G;exact⟨w,e2⟩
 free:=fun c l q n G=>by
  obtain⟨o',e1⟩:=a.there c l q G;exact b.free c o' e1 (a.free c l q n G) G
 there:=fun c l q G=>by
  obtain⟨o',e1⟩:=a.there c l q G;exact b.there c o' e1 G
 tups:=fun c xs q=>b.tups c xs (a.tups c xs q)
 frzs:=fun c l xs q=>b.frzs c l xs (a.frzs c l xs q)
 tbls:=fun c ps q=>by
  obtain⟨I,e1⟩:=a.tbls c ps q;obtain⟨J,e2⟩:=b.tbls c _ e1;exact⟨I++J,by rw[e2,Array.append_assoc]⟩
theorem Un.kept(k:∀b u,h.get? b=some u->h'.get? b=some u):Un fs ex H H h h':=
 ⟨fun b l q _ _ _=>k b l q,fun b l q _ _ _=>⟨l.slots,k b l q⟩,fun _ _ _ n _=>n,fun b l q _=>⟨l,k b l q⟩,fun _ _ q=>q,fun _ _ _ q=>q,fun _ ps q=>⟨#[],by rw[q];simp⟩⟩
theorem Un.refl:Un fs ex H H h h:=Un.kept fun _ _ q=>q
theorem Un.laid(k:∀b u,h.get? b=some u->h'.get? b=some u)(O:h.objs.size<=a)(S:H a=none):Un fs ex H (upd H a o) h h' where
 keep:=fun b u q _ _ _=>k b u q
 slot:=fun b u q _ _ _=>⟨u.slots,k b u q⟩
 free:=fun b u q n _=>by rw[iC (bu (bG (aR q) O))];exact n
 there:=fun b u q _=>⟨u,k b u q⟩
 tups:=fun b xs q=>by rw[iC (iO q S)];exact q
 frzs:=fun b u xs q=>by rw[iC (iO q S)];exact q
 tbls:=fun b ps q=>⟨#[],by rw[iC (iO q S),q];simp⟩
theorem Un.write(m:sX (H x))(R:e=x\/H e=some (.own x))(k:∀b u,b≠e->h.get? b=some u->h'.get? b=some u)(d:∃u,h'.get? e=some u):Un fs ex H (upd H x o) h h':=by
 have G:∀b,H b=none->b≠x:=fun b n z=>by subst z;rw[n]at m;exact m
 have U:∀b,H b=none->b≠e:=fun b n z=>by
  subst z;rcases R with r|r
  ·exact G b n r
  ·rw[n]at r;cases r
 have K:∀b u,H b=some u->¬sX (some u)->b≠x:=fun b u q nm z=>by subst z;rw[q]at m;exact nm m
 refine⟨fun b u q n _ _=>k b u (U b n) q,fun b u q n _ _=>⟨u.slots,k b u (U b n) q⟩,fun b u q n _=>by rw[iC (G b n)];exact n,fun b u q _=>?_,
  fun b xs q=>by rw[iC (K b _ q fun z=>z)];exact q,fun b u xs q=>by rw[iC (K b _ q fun z=>z)];exact q,fun b ps q=>⟨#[],by rw[iC (K b _ q fun z=>z),q];simp⟩⟩
 by_cases a:b=e
 ·subst a;exact d
 ·exact⟨u,k b u a q⟩
theorem Un.mono(u:Un fs ex H H1 h h1)(hs:∀b∈fs,b∈fs')(G:∀b∈ex,b∈ex'):Un fs' ex' H H1 h h1:=
 ⟨fun b l q n U R=>u.keep b l q n (fun z=>U (hs b z)) fun z=>R (G b z),fun _ _ q n _ R=>u.any q n fun z=>R (G _ z),fun b l q n R=>u.free b l q n fun z=>R (G b z),fun b l q R=>u.there b l q fun z=>R (G b z),u.tups,u.frzs,u.tbls⟩
noncomputable def tu(h:Heap)(H:Hp):List Addr:=(List.range h.objs.size).filter fun a=>(H a).isSome
noncomputable def oh(h:Heap)(H:Hp):Heap:=PySem.W.hideAll h (tu h H)
theorem Iw(h:Heap)(H:Hp):(oh h H).objs.size=h.objs.size:=PySem.W.hideAll_size _ _
theorem Ha{o:Obj}(e:h.get? b=some o)(n:H b=none):(oh h H).get? b=some o:=
 PySem.W.hideAll_get _ e fun K=>by
  have q:(H b).isSome=true:=(bj.mp K).2;rw[n]at q;simp at q
theorem Gj{o:Obj}(e:(oh h H).get? b=some o):h.get? b=some o/\H b=none:=by
 have T:h.get? b=some o:=PySem.W.of_hideAll (tu h H) e;refine⟨T,?_⟩;cases q:H b with
 |none=>rfl
 |some x=>
  have K:b∈tu h H:=bj.mpr ⟨bL.mpr (aR T),by simp[q]⟩;have z:(oh h H).get? b=none:=PySem.W.hideAll_none (tu h H) K;rw[z]at e;cases e
end
structure Mod(K:L3)(mg:L4)(base:Heap):Prop where
 kin:K.In base
 glob:base.Ns mainGlobals mg
 blt:∃mb,base.Ns builtinsNs mb/\∀x:Str,x≠"__name__"->mb x=bootBuiltins x
 nolimit:base.NoLimit
structure Cx where
 prog:Program
 w:World
 K:L3
 mg:L4
 base:Heap
 A:Around
 N:List Str
 s₀:Shared
 H₀:Hp
 env:Env
 outer:List Env
 stack:List Env
 ex:List Addr
 fn:Str->Bool
 calm:Bool
 pn:L1
 xe:LZ
noncomputable def lP(l:List Env):List Addr:=l.filterMap (·.frame)
abbrev Cx.fs(X:Cx):List Addr:=lP X.outer
noncomputable def vn(X:Scope)(x:Str):Prop:=X.names.lookup x=some .local\/X.names.lookup x=some .cell\/X.names.lookup x=some .free
noncomputable def Loc(X:Scope)(x:Str):Prop:=X.names.lookup x=some .local\/X.names.lookup x=some .cell
noncomputable def Look(env:Env)(h:Heap)(m:L4)(x:Str)(u:Value):Prop:=
 (env.kindOf x=some .local/\m x=some u)\/((env.kindOf x=some .cell\/env.kindOf x=some .free)/\∃c,env.cells.lookup x=some c/\h.IsCell c (some u))
structure Cx.Ok(X:Cx):Prop where
 mod:Mod X.K X.mg X.base
 kind:X.env.scope.kind= .function
 glob:X.env.globals=mainGlobals
 blt:X.env.builtins=builtinsNs
 above:X.s₀.heap.objs.size<=X.env.locals
 inj:∀x y c,X.env.cells.lookup x=some c->X.env.cells.lookup y=some c->x=y
 has:∀x,(X.env.kindOf x=some .cell\/X.env.kindOf x=some .free)->∃c,X.env.cells.lookup x=some c
 cab:∀x c,X.fn x=true->X.env.cells.lookup x=some c->X.s₀.heap.objs.size<=c
 hd:X.calm=true->X.A.handled=none
 frames:X.A.frames=some X.stack
 stk:X.stack=X.outer\/(X.stack=X.env::X.outer/\X.env.frame=some X.env.locals)
 exf:∀b∈X.ex,b≠X.env.locals/\∀x c,X.env.cells.lookup x=some c->c≠b
 bs:∀b o,X.base.get? b=some o->X.s₀.heap.get? b=some o/\X.H₀ b=none
 bsz:X.base.objs.size<=X.s₀.heap.objs.size
 noex:∀b o,X.base.get? b=some o->b∉X.ex
 exfs:∀b∈X.ex,b∉X.fs
 funs:X.s₀.heap.FunFrames X.base X.outer
 frf:∀b∈X.fs,X.H₀ b=none
structure Inv(X:Cx)(pins:L1)(σ:List (Option V))(H:Hp)(s:Shared):Prop where
 ok:X.Ok
 os:s.os=X.s₀.os
 bare:AllBare s.gens
 base:Un X.fs X.ex X.H₀ H X.s₀.heap s.heap
 loc:∃m,s.heap.Ns X.env.locals m/\∀(i:Nat) (x:Str) (v:V),X.N[i]? =some x->σ[i]? =some (some v)->vn X.env.scope x->∃u,RelV v u/\Look X.env s.heap m x u
 cell:∀x c,X.env.cells.lookup x=some c->∃v,s.heap.IsCell c v
 free:H X.env.locals=none
 freeC:∀x c,X.env.cells.lookup x=some c->H c=none
 pin:∀p∈X.pn++pins,s.heap.get? p.1=some p.2/\H p.1=none/\p.1≠X.env.locals/\p.1∉X.fs/\∀v,p.2.data≠ .cell v
 hok:HOk X.prog X.w H s.heap
 len:σ.length=X.N.length
section
variable{X:Cx}{pins pins':L1}{σ:List (Option V)}{H H':Hp}{s s':Shared}{h':Heap}{E:LZ}{Q:Unit->Shared->Prop}{ch:List Addr}{g':Array GenState}{t' i:Nat}{A:Around}{M:Model}{x:Str}{d':Drawn}{u:Value}{v:V}
theorem Cx.Ok.nofr(k:X.Ok){b:Addr}{o:Obj}(e:X.base.get? b=some o):b∉X.fs:=fun U=>by
 have:=(k.funs.mem U).1;rw[e]at this;cases this
theorem Inv.bs(I:Inv X pins σ H s):∀b o,X.base.get? b=some o->s.heap.get? b=some o/\H b=none:=fun b o e=>
 ⟨I.base.keep b o (I.ok.bs b o e).1 (I.ok.bs b o e).2 (I.ok.nofr e) (I.ok.noex b o e),I.base.free b o (I.ok.bs b o e).1 (I.ok.bs b o e).2 (I.ok.noex b o e)⟩
theorem Inv.bk(I:Inv X pins σ H s):∀b o,X.base.get? b=some o->s.heap.get? b=some o:=fun b o e=>(I.bs b o e).1
theorem Inv.mod(I:Inv X pins σ H s):Mod X.K X.mg X.base:=I.ok.mod
theorem Inv.kIn(I:Inv X pins σ H s):X.K.In s.heap:=I.ok.mod.kin.keeps I.bk
theorem Inv.fr(I:Inv X pins σ H s):∃m,Fr X.base X.env.locals s.heap m:=
 let⟨m,S,_⟩:=I.loc
 ⟨m,S,I.bk,bw I.ok.bsz I.ok.above⟩
theorem Inv.lt(I:Inv X pins σ H s):X.env.locals<s.heap.objs.size:=let⟨_,S,_⟩:=I.loc;S.lt
theorem Inv.sz(I:Inv X pins σ H s):X.s₀.heap.objs.size<=s.heap.objs.size:=bw I.ok.above (gN I.lt)
theorem Inv.nofs(I:Inv X pins σ H s){a:Addr}(h:s.heap.objs.size<=a):a∉X.fs:=fun U=>by
 obtain⟨_,o,M,_⟩:=I.ok.funs.mem U;exact absurd (bG (aR M) (bw I.sz h)) (cP _)
theorem Inv.cne(I:Inv X pins σ H s):∀x c,X.env.cells.lookup x=some c->c≠X.env.locals:=fun x c e z=>by
 obtain⟨v,o,M,J⟩:=I.cell x c e;obtain⟨m,⟨o',es,Y,w,S,_⟩,_⟩:=I.loc;rw[z,w]at M;cases M;rw[S]at J;cases J
theorem Inv.funs(I:Inv X pins σ H s):s.heap.FunFrames X.base X.outer:=by
 have all:∀(l:List Env),(∀b∈lP l,b∈X.fs)->X.s₀.heap.FunFrames X.base l->s.heap.FunFrames X.base l:=by
  intro l
  induction l with
  |nil=>intro _ _;trivial
  |cons env r E=>
   intro hs Z;obtain⟨F,⟨L,o,B,S,j,J⟩,M⟩:=Z;have R:L∈X.fs:=hs L (by unfold lP;rw[List.filterMap_cons,B];exact aE);obtain⟨sl,e⟩:=I.base.slot L o j (I.ok.frf L R) R fun z=>I.ok.exfs L z R;exact⟨F,⟨L,_,B,S,e,J⟩,E (fun b U=>hs b (by unfold lP;rw[List.filterMap_cons,B];exact au _ U)) M⟩
 exact all X.outer (fun _ U=>U) I.ok.funs
theorem Inv.stack(I:Inv X pins σ H s):s.heap.FunFrames X.base X.stack:=by
 rcases I.ok.stk with e|⟨e,B⟩
 ·rw[e];exact I.funs
 ·rw[e];obtain⟨m,S,_⟩:=I.loc;refine .cons (by rw[I.ok.kind];decide) B S ?_ I.funs;exact Heap.get?_none_of_le (bw I.ok.bsz I.ok.above)
theorem Inv.stkSub(I:Inv X pins σ H s):∀b∈lP X.stack,b∈X.env.locals::X.fs:=fun b U=>by
 rcases I.ok.stk with e|⟨e,B⟩
 ·rw[e]at U;exact au _ U
 ·rw[e]at U;unfold lP at U;rw[List.filterMap_cons,B]at U;exact U
theorem Inv.stkFree(I:Inv X pins σ H s):∀b∈lP X.stack,H b=none:=fun b U=>by
 rcases aV.mp (I.stkSub b U)with e|U
 ·rw[e];exact I.free
 ·obtain⟨_,o,M,_⟩:=I.ok.funs.mem U;exact I.base.free b o M (I.ok.frf b U) fun z=>I.ok.exfs b z U
theorem Inv.step(I:Inv X pins σ H s)
  (L:∀b∈ch,(b∈X.ex\/X.s₀.heap.objs.size<=b)/\b≠X.env.locals/\(∀x c,X.env.cells.lookup x=some c->c≠b)/\∀p∈X.pn++pins,p.1≠b)
  (g:∀b o,b≠X.env.locals->b∉X.fs->b∉ch->s.heap.get? b=some o->H b=none->h'.get? b=some o)
  (j:∀b o,b≠X.env.locals->b∈X.fs->b∉ch->s.heap.get? b=some o->H b=none->∃sl,h'.get? b=some {o with slots:=sl}) (f:∀b o,b∉ch->s.heap.get? b=some o->H b=none->H' b=none)
  (B:∀b o,b∉ch->s.heap.get? b=some o->∃o',h'.get? b=some o')
  (F:∀b xs,H b=some (.tup xs)->H' b=some (.tup xs)) (P:∀b o u,H b=some (.frz o u)->H' b=some (.frz o u)) (Q:∀b ps,H b=some (.tbl ps)->∃more,H' b=some (.tbl (ps++more)))
  (ns:∀m,s.heap.Ns X.env.locals m->h'.Ns X.env.locals m) (A:HOk X.prog X.w H' h') (y:AllBare g'):
  Inv X pins σ H' {s with heap:=h',gens:=g',drawn:=d',toks:=t'}:=by
 have N:∀b o,X.s₀.heap.get? b=some o->b≠X.env.locals:=fun b o e=>bu (bG (aR e) I.ok.above);have C:∀b o,X.s₀.heap.get? b=some o->b∉X.ex->b∉ch:=fun b o e G U=>by
  rcases(L b U).1 with z|z
  ·exact G z
  ·exact absurd (bG (aR e) z) (cP _)
 have K:∀x c,X.env.cells.lookup x=some c->∀v,s.heap.IsCell c v->h'.IsCell c v:=fun x c e v ⟨o,M,J⟩=>by
  have t:c∉ch:=fun z=>(L c z).2.2.1 x c e rfl;by_cases Y:c∈X.fs
  ·obtain⟨sl,q⟩:=j c o (I.cne x c e) Y t M (I.freeC x c e);exact⟨_,q,J⟩
  ·exact⟨o,g c o (I.cne x c e) Y t M (I.freeC x c e),J⟩
 refine⟨I.ok,I.os,y,⟨fun b o e n U G=>?_,fun b o e n U G=>?_,fun b o e n G=>?_,fun b o e G=>?_,fun b xs e=>F b xs (I.base.tups b xs e),fun b o xs e=>P b o xs (I.base.frzs b o xs e),fun b ps e=>?_⟩,?_,fun x c e=>?_,?_,fun x c e=>?_,fun p O=>?_,A,I.len⟩
 ·exact g b o (N b o e) U (C b o e G) (I.base.keep b o e n U G) (I.base.free b o e n G)
 ·obtain⟨sl,e1⟩:=I.base.slot b o e n U G;obtain⟨w,e2⟩:=j b _ (N b o e) U (C b o e G) e1 (I.base.free b o e n G);exact⟨w,e2⟩
 ·obtain⟨o',e1⟩:=I.base.there b o e G;exact f b o' (C b o e G) e1 (I.base.free b o e n G)
 ·obtain⟨o',e1⟩:=I.base.there b o e G;exact B b o' (C b o e G) e1
 ·obtain⟨a,e1⟩:=I.base.tbls b ps e;obtain⟨h,e2⟩:=Q b _ e1;exact⟨a++h,by rw[e2,Array.append_assoc]⟩
 ·obtain⟨m,S,Z⟩:=I.loc;refine⟨m,ns m S,fun i x v e1 e2 e3=>?_⟩;obtain⟨u,r,l⟩:=Z i x v e1 e2 e3;refine⟨u,r,?_⟩;rcases l with l|⟨k,c,e,z⟩
  ·exact .inl l
  ·exact .inr ⟨k,c,e,K x c e _ z⟩
 ·obtain⟨v,z⟩:=I.cell x c e;exact⟨v,K x c e v z⟩
 ·obtain⟨m,⟨o,_,_,M,_⟩,_⟩:=I.loc;exact f _ o (fun z=>(L _ z).2.1 rfl) M I.free
 ·obtain⟨v,o,M,J⟩:=I.cell x c e;exact f c o (fun z=>(L c z).2.2.1 x c e rfl) M (I.freeC x c e)
 ·obtain⟨e,n,D,E,d⟩:=I.pin p O;have t:p.1∉ch:=fun z=>(L p.1 z).2.2.2 p O rfl;exact⟨g p.1 p.2 D E t e n,f p.1 p.2 t e n,D,E,d⟩
theorem Inv.un(I:Inv X pins σ H s)(u:Un X.fs [] H H' s.heap h')(A:HOk X.prog X.w H' h'):Inv X pins σ H' {s with heap:=h',toks:=t'}:=by
 obtain⟨m,⟨o,es,Y,M,r⟩,_⟩:=id I.loc;obtain⟨sl,R⟩:=u.any M I.free (by simp);exact I.step (g':=s.gens) (d':=s.drawn) (ch:=[]) (fun _ z=>nomatch z) (fun b o _ U _ e n=>u.keep b o e n U (by simp)) (fun b o _ U _ e n=>u.slot b o e n U (by simp)) (fun b o _ e n=>u.free b o e n (by simp)) (fun b o _ e=>u.there b o e (by simp)) u.tups u.frzs u.tbls (fun T K=>by
  obtain⟨o',d,f,w,r'⟩:=K;rw[M]at w;cases w;exact⟨_,d,f,R,r'⟩) A I.bare
theorem Inv.call(I:Inv X pins σ H s)(u:Un (lP X.stack) ch H H' s.heap h')(A:HOk X.prog X.w H' h')(y:AllBare g')
  (L:∀b∈ch,(b∈X.ex\/X.s₀.heap.objs.size<=b)/\b≠X.env.locals/\(∀x c,X.env.cells.lookup x=some c->c≠b)/\∀p∈X.pn++pins,p.1≠b):
  Inv X pins σ H' {s with heap:=h',gens:=g',drawn:=d',toks:=t'}:=by
 obtain⟨m,⟨o,es,a,M,r⟩,_⟩:=id I.loc;obtain⟨sl,R⟩:=u.any M I.free fun z=>(L _ z).2.1 rfl;exact I.step (ch:=ch) L (fun b o R U Y e n=>u.keep b o e n (fun z=>(aV.mp (I.stkSub b z)).elim R U) Y) (fun b o _ _ Y e n=>u.any e n Y) (fun b o Y e n=>u.free b o e n Y) (fun b o Y e=>u.there b o e Y) u.tups u.frzs u.tbls (fun T K=>by
  obtain⟨o',d,f,w,r'⟩:=K;rw[M]at w;cases w;exact⟨_,d,f,R,r'⟩) A y
theorem Inv.turned{N:Addr}(I:Inv X pins σ H s)(k:∀b o,b≠N->s.heap.get? b=some o->h'.get? b=some o)(S:H N=none)(R:N≠X.env.locals)
  (h1:N∈X.ex\/X.s₀.heap.objs.size<=N) (h2:∀x c,X.env.cells.lookup x=some c->c≠N) (D:∀p∈X.pn++pins,p.1≠N):Inv X pins σ H {s with heap:=h',toks:=t'}:=by
 have t:∀b u,H b=some u->b≠N:=fun b u e z=>by rw[z,S]at e;cases e
 refine I.step (g':=s.gens) (d':=s.drawn) (ch:=[N]) (fun b U=>?_) (fun b o _ _ Y e _=>k b o (fun z=>Y (by simp[z])) e) (fun b o _ _ Y e _=>⟨o.slots,k b o (fun z=>Y (by simp[z])) e⟩) (fun _ _ _ _ n=>n)
  (fun b o Y e=>⟨o,k b o (fun z=>Y (by simp[z])) e⟩) (fun _ _ e=>e) (fun _ _ _ e=>e) (fun b ps e=>⟨#[],by rw[e];simp⟩) (fun m K=>?_) (fun b u e=>?_) I.bare
 ·have e:b=N:=by simpa using U
  subst e;exact⟨h1,R,h2,D⟩
 ·obtain⟨o,es,a,M,r⟩:=K;exact⟨o,es,a,k _ o (c7 R) M,r⟩
 ·refine(I.hok b u e).stay (fun c v Y q=>k c v ?_ q) (fun _ q=>q) fun _ _ q=>q;rcases Y with z|z
  ·rw[z];exact t b u e
  ·exact t c _ z
theorem Inv.tok(I:Inv X pins σ H s)(t:Nat):Inv X pins σ H {s with toks:=t}:=I.un (h':=s.heap) (t':=t) Un.refl I.hok
theorem Inv.kept{t':Nat}(I:Inv X pins σ H s)(k:∀b u,s.heap.get? b=some u->h'.get? b=some u):Inv X pins σ H {s with heap:=h',toks:=t'}:=I.un (Un.kept k) (I.hok.kept k)
theorem Inv.laid{a:Addr}{o:HO}{t':Nat}(I:Inv X pins σ H s)(k:∀b u,s.heap.get? b=some u->h'.get? b=some u)(O:s.heap.objs.size<=a)(f:jc2 X.prog X.w (upd H a o) h' a o):
  Inv X pins σ (upd H a o) {s with heap:=h',toks:=t'}:=I.un (Un.laid k O (I.hok.fresh O)) (I.hok.laid k O f)
theorem Inv.write{x e:Addr}{o:HO}{t':Nat}(I:Inv X pins σ H s)(m:sX (H x))(R:e=x\/H e=some (.own x))(k:∀b u,b≠e->s.heap.get? b=some u->h'.get? b=some u)(d:∃u,h'.get? e=some u)
  (f:jc2 X.prog X.w (upd H x o) h' x o):Inv X pins σ (upd H x o) {s with heap:=h',toks:=t'}:=I.un (Un.write m R k d) (I.hok.write m R k d f)
theorem Inv.pins_of(I:Inv X pins σ H s)(h:∀p∈pins',s.heap.get? p.1=some p.2/\H p.1=none/\p.1≠X.env.locals/\p.1∉X.fs/\∀v,p.2.data≠ .cell v):Inv X pins' σ H s:=
 ⟨I.ok,I.os,I.bare,I.base,I.loc,I.cell,I.free,I.freeC,fun p O=>(br.mp O).elim (fun z=>I.pin p (cC _ z)) (h p),I.hok,I.len⟩
theorem BM{N:List Str}(V:N.Nodup){j:Nat}(a:N[i]? =some x)(b:N[j]? =some x):i=j:=by
 obtain⟨h1,e1⟩:=ax.mp a;obtain⟨h2,e2⟩:=ax.mp b;exact(fQ V).mp (e1.trans e2.symm)
theorem CI(I:Inv X pins σ H s)(V:X.N.Nodup)(hi:X.N[i]? =some x)(G:Loc X.env.scope x)(r:RelV v u)
  (h:∀s',Inv X pins (σ.set i (some v)) H s'->(∃a,Heap.SameBut a s.heap s'.heap/\(a=X.env.locals\/X.env.cells.lookup x=some a))->Q () s') (B:X.fn x=true\/X.env.scope.names.lookup x=some .local:=by first|exact .inl rfl|exact .inr rfl|assumption):wpAny M A (storeName X.env x u) Q E s:=by
 obtain⟨m,S,Z⟩:=id I.loc;have G':(X.env.scope.kind== .class||(X.env.scope.kind== .module&&X.env.locals !=X.env.globals))=false:=by rw[I.ok.kind];rfl
 have F':i<σ.length:=by rw[I.len];exact(ax.mp hi).1
 have sq:=I.cne;have K:∀{a:Addr} {h':Heap},(∃o,s.heap.get? a=some o/\H a=none)->Heap.SameBut a s.heap h'->HOk X.prog X.w H h':=fun{a h'} J hs b l e=>by
  obtain⟨_,_,sz⟩:=J;refine(I.hok b l e).stay (fun c t Y q=>(hs.2 c ?_).trans q) (fun _ q=>q) fun _ _ q=>q;rintro rfl;rcases Y with rfl|Y
  ·rw[sz]at e;cases e
  ·rw[sz]at Y;cases Y
 rcases G with F|F
 ·refine wpAny_storeName_local F S (fun h' w hs=>?_) G';obtain⟨oL,_,_,T,_⟩:=id S;refine h _ ⟨I.ok,I.os,I.bare,⟨fun b o e n U G=>?_,fun b o e n U G=>?_,I.base.free,fun b o e G=>?_,I.base.tups,I.base.frzs,I.base.tbls⟩,⟨_,w,fun j y v' e1 e2 e3=>?_⟩,fun y c e=>?_,I.free,I.freeC,fun p O=>?_,K ⟨oL,T,I.free⟩ hs,by simpa using I.len⟩ ⟨_,hs,.inl rfl⟩
  ·exact(hs.2 b (bu (bG (aR e) I.ok.above))).trans (I.base.keep b o e n U G)
  ·obtain⟨sl,e1⟩:=I.base.slot b o e n U G;exact⟨sl,(hs.2 b (bu (bG (aR e) I.ok.above))).trans e1⟩
  ·obtain⟨o',e1⟩:=I.base.there b o e G;exact⟨o',(hs.2 b (bu (bG (aR e) I.ok.above))).trans e1⟩
  ·by_cases W:j=i
   ·subst W;rw[hi]at e1;cases e1;rw[List.getElem?_set_self F']at e2;cases e2;exact⟨u,r,.inl ⟨F,by simp⟩⟩
   ·rw[List.getElem?_set_ne (c7 W)]at e2;obtain⟨P,r',q⟩:=Z j y v' e1 e2 e3;refine⟨P,r',?_⟩;rcases q with⟨k,e⟩|⟨k,c,e,z⟩
    ·refine .inl ⟨k,?_⟩;have:y≠x:=fun e=>W (BM V e1 (e▸hi));simp[this,e]
    ·exact .inr ⟨k,c,e,z.sameBut hs (sq y c e)⟩
  ·obtain⟨t,z⟩:=I.cell y c e;exact⟨t,z.sameBut hs (sq y c e)⟩
  ·obtain⟨e,n,D,nf,d⟩:=I.pin p O;exact⟨(hs.2 p.1 D).trans e,n,D,nf,d⟩
 ·have i':X.fn x=true:=by
   rcases B with z|z
   ·exact z
   ·rw[z]at F;cases F
  obtain⟨c,Y⟩:=I.ok.has x (.inl F);obtain⟨t,z⟩:=I.cell x c Y;refine wpAny_storeName_cell I.ok.kind F Y z (fun h' g hs=>?_);obtain⟨oc,B',J'⟩:=id z;refine h {s with heap:=h'} ⟨I.ok,I.os,I.bare,⟨fun b o e n U G=>?_,fun b o e n U G=>?_,I.base.free,fun b o e G=>?_,I.base.tups,I.base.frzs,I.base.tbls⟩,⟨m,S.sameBut hs (c7 (sq x c Y)),fun j y v' e1 e2 e3=>?_⟩,fun y R e=>?_,I.free,I.freeC,fun p O=>?_,K ⟨oc,B',I.freeC x c Y⟩ hs,by simpa using I.len⟩ ⟨c,hs,.inr Y⟩
  ·exact(hs.2 b (bu (bG (aR e) (I.ok.cab x c i' Y)))).trans (I.base.keep b o e n U G)
  ·obtain⟨sl,e1⟩:=I.base.slot b o e n U G;exact⟨sl,(hs.2 b (bu (bG (aR e) (I.ok.cab x c i' Y)))).trans e1⟩
  ·obtain⟨o',e1⟩:=I.base.there b o e G;exact⟨o',(hs.2 b (bu (bG (aR e) (I.ok.cab x c i' Y)))).trans e1⟩
  ·by_cases W:j=i
   ·subst W;rw[hi]at e1;cases e1;rw[List.getElem?_set_self F']at e2;cases e2;exact⟨u,r,.inr ⟨.inl F,c,Y,g⟩⟩
   ·rw[List.getElem?_set_ne (c7 W)]at e2;obtain⟨P,r',q⟩:=Z j y v' e1 e2 e3;refine⟨P,r',?_⟩;rcases q with q|⟨k,R,e,C⟩
    ·exact .inl q
    ·refine .inr ⟨k,R,e,C.sameBut hs ?_⟩;rintro rfl;exact W (BM V e1 (I.ok.inj _ _ _ e Y▸hi))
  ·by_cases A':R=c
   ·subst A';exact⟨_,g⟩
   ·obtain⟨N,f⟩:=I.cell y R e;exact⟨N,f.sameBut hs A'⟩
  ·obtain⟨e,n,D,nf,d⟩:=I.pin p O;refine⟨(hs.2 p.1 ?_).trans e,n,D,nf,d⟩;intro q;rw[q,B']at e;have L:oc=p.2:=aJ e;exact d t (by rw [<- L]; exact J')
theorem xO(I:Inv X pins σ H s)(V:X.N.Nodup)(hi:X.N[i]? =some x)(G:Loc X.env.scope x)(r:RelV v u)
  (h:∀s',Inv X pins (σ.set i (some v)) H s'->Q () s') (B:X.fn x=true\/X.env.scope.names.lookup x=some .local:=by first|exact .inl rfl|exact .inr rfl|assumption):wpAny M A (storeName X.env x u) Q E s:=
 CI I V hi G r (fun s' a _=>h s' a) B
theorem Inv.call'(I:Inv X pins σ H s)(M:s'.os=s.os)(u:Un (lP X.stack) ch H H' s.heap s'.heap)(A:HOk X.prog X.w H' s'.heap)(y:AllBare s'.gens)
  (L:∀b∈ch,(b∈X.ex\/X.s₀.heap.objs.size<=b)/\b≠X.env.locals/\(∀x c,X.env.cells.lookup x=some c->c≠b)/\∀p∈X.pn++pins,p.1≠b):Inv X pins σ H' s':=by
 obtain⟨h',g',d',t',o'⟩:=s';have e:o'=s.os:=M;subst e;exact I.call (g':=g') (t':=t') (d':=d') u A y L
abbrev XK:=Value->Option Addr->Hp->Prop
abbrev St:=List (Option V)
abbrev VK:=V->Hp->Prop
abbrev TE:=St->Hp->VK->Prop
abbrev TT:=St->Hp->(Bool->Hp->Prop)->Prop
abbrev TA:=St->Hp->(List V->Hp->Prop)->Prop
structure Ends where
 nx:St->Hp->Prop
 rt:VK
 bk:St->Hp->Prop:=fun _ _=>False
 ct:St->Hp->Prop:=fun _ _=>False
abbrev TS:=Ends->St->Hp->Prop
noncomputable def EP(X:Cx)(pins:L1)(σ:St)(Q:VK)(u:Value)(s':Shared):Prop:=∃v H',Inv X pins σ H' s'/\RelV v u/\Q v H'
noncomputable def TP(X:Cx)(pins:L1)(σ:St)(Q:Bool->Hp->Prop)(b:Bool)(s':Shared):Prop:=∃H',Inv X pins σ H' s'/\Q b H'
noncomputable def AP(X:Cx)(pins:L1)(σ:St)(Q:List V->Hp->Prop)(us:List Value)(s':Shared):Prop:=∃vs H',Inv X pins σ H' s'/\Vals vs us/\Q vs H'
noncomputable def SP(X:Cx)(pins:L1)(D:Ends)(f:Flow)(s':Shared):Prop:=
 match f with
 | .next=>∃L H',Inv X pins L H' s'/\D.nx L H'
 | .brk=>∃L H',Inv X pins L H' s'/\D.bk L H'
 | .cont=>∃L H',Inv X pins L H' s'/\D.ct L H'
 | .ret u=>∃v L H',Inv X pins L H' s'/\RelV v u/\D.rt v H'
noncomputable def PE(X:Cx)(e:Expr)(t:TE):Prop:=
 ∀(pins:L1) (s:Shared) (σ:St) (H:Hp) (Q:VK),Inv X pins σ H s->t σ H Q->wpAny (model X.prog X.w) X.A (eval e X.env) (EP X pins σ Q) X.xe s
noncomputable def PT(X:Cx)(e:Expr)(t:TT):Prop:=
 ∀(pins:L1) (s:Shared) (σ:St) (H:Hp) (Q:Bool->Hp->Prop),Inv X pins σ H s->t σ H Q->wpAny (model X.prog X.w) X.A (isTrue e X.env (eval e X.env)) (TP X pins σ Q) X.xe s
noncomputable def PW(X:Cx)(e:Expr)(t:TT):Prop:=
 ∀(w:Sem Value) (pins:L1) (s:Shared) (σ:St) (H:Hp) (Q:Bool->Hp->Prop),Inv X pins σ H s->t σ H Q->wpAny (model X.prog X.w) X.A (isTrue e X.env w) (TP X pins σ Q) X.xe s
theorem PW.pt{e:Expr}{t:TT}(h:PW X e t):PT X e t:=h _
noncomputable def PA(X:Cx)(es:List Expr)(t:TA):Prop:=
 ∀(pos:Pos) (pins:L1) (s:Shared) (σ:St) (H:Hp) (Q:List V->Hp->Prop),Inv X pins σ H s->t σ H Q->wpAny (model X.prog X.w) X.A (spliced (backTo pos (starEach es X.env))) (AP X pins σ Q) X.xe s
noncomputable def PS(X:Cx)(st:Stmt)(t:TS):Prop:=
 ∀(pins:L1) (s:Shared) (σ:St) (H:Hp) (D:Ends),Inv X pins σ H s->t D σ H->wpAny (model X.prog X.w) X.A (exec st X.env) (SP X pins D) X.xe s
noncomputable def PSs(X:Cx)(st:List Stmt)(t:TS):Prop:=
 ∀(pins:L1) (s:Shared) (σ:St) (H:Hp) (D:Ends),Inv X pins σ H s->t D σ H->wpAny (model X.prog X.w) X.A (execs st X.env) (SP X pins D) X.xe s
theorem iI{α:Type}{t:Sem α}{Q f:α->Shared->Prop}(h:wpAny M A t Q E s)(p:∀a s,Q a s->f a s):wpAny M A t f E s:=dD h p fun _ _ x=>x
end
section
variable{X:Cx}
section
variable{E Q:LZ}{pins:L1}{u:Value}{s:Shared}{H:Hp}{v:V}
noncomputable def Ec(i:Nat):TE:=fun σ H Q=>∃v,σ[i]? =some (some v)/\Q v H
noncomputable def tC(v:V):TE:=fun _ H Q=>Q v H
theorem Fc{i:Nat}{x:Str}{pos:Pos}(V:X.N[i]? =some x)(j:vn X.env.scope x)(J:(x==("__debug__":Str))=false:=by decide)(z:(x==("__classdict__":Str))=false:=by decide):PE X (.Name x pos) (Ec i):=by
 intro pins s σ H Q I h;obtain⟨v,e,h⟩:=h;obtain⟨m,S,Z⟩:=I.loc;obtain⟨u,r,l⟩:=Z i x v V e j;have C:EP X pins σ Q u s:=⟨v,H,I,r,h⟩;rcases l with⟨F,K⟩|⟨F,c,Y,a⟩
 ·exact wpAny_Name (wpAny_loadName_local I.ok.kind F S K C) J
 ·rcases F with F|F
  ·exact wpAny_Name (wpAny_loadName_cell I.ok.kind F Y a C) J
  ·exact wpAny_Name (wpAny_loadName_free I.ok.kind F Y a C z) J
theorem iu{i j pos}:PE X (.Constant (.int i) j pos) (tC (.int i)):=fun _ _ _ H _ I h=>wpAny_Constant_int ⟨.int i,H,I.tok _,⟨_,rfl⟩,h⟩
theorem jT{b j pos}:PE X (.Constant (.bool b) j pos) (tC (.bl b)):=fun _ _ _ H _ I h=>Constant_bool ⟨.bl b,H,I,rfl,h⟩
theorem z7{j pos}:PE X (.Constant .none j pos) (tC .non):=fun _ _ _ H _ I h=>Constant_none ⟨.non,H,I,rfl,h⟩
theorem lB{x j pos}:PE X (.Constant (.str x) j pos) (tC (.str x)):=fun _ _ _ H _ I h=>Calls.Constant_str ⟨.str x,H,I.tok _,⟨_,rfl⟩,h⟩
noncomputable def Gl(X:Cx)(x:Str):Prop:=X.env.kindOf x=some .globalImplicit
theorem wZ{σ:St}{x:Str}{pos:Pos}(I:Inv X pins σ H s)(y:Gl X x)(K:X.mg x=some u)(h:Q u s)
  (J:(x==("__debug__":Str))=false:=by decide):wpAny (model X.prog X.w) X.A (eval (.Name x pos) X.env) Q E s:=
 iq I.ok.kind y (Calls.loadGlobal_global (by rw[I.ok.glob];exact I.mod.glob.keeps I.bk) K h) J
theorem oK{σ:St}{x:Str}{pos:Pos}(I:Inv X pins σ H s)(y:Gl X x)(K:X.mg x=none)(Y:bootBuiltins x=some u)(h:Q u s)
  (S:x≠"__name__":=by decide) (J:(x==("__debug__":Str))=false:=by decide):wpAny (model X.prog X.w) X.A (eval (.Name x pos) X.env) Q E s:=by
 obtain⟨N,h1,h2⟩:=I.mod.blt;exact iq I.ok.kind y (Calls.loadGlobal_builtin (by rw[I.ok.glob];exact I.mod.glob.keeps I.bk) K (by rw[I.ok.blt];exact h1.keeps I.bk) ((h2 x S).trans Y) h) J
theorem mi{x:Str}{pos:Pos}(y:Gl X x)(K:X.mg x=some u)(r:RelV v u)(J:(x==("__debug__":Str))=false:=by decide):PE X (.Name x pos) (tC v):=
 fun _ _ _ H _ I h=>wZ I y K ⟨v,H,I,r,h⟩ J
theorem n5{x:Str}{pos:Pos}(y:Gl X x)(K:X.mg x=none)(Y:bootBuiltins x=some u)(r:RelV v u)(S:x≠"__name__":=by decide)(J:(x==("__debug__":Str))=false:=by decide):PE X (.Name x pos) (tC v):=
 fun _ _ _ H _ I h=>oK I y K Y ⟨v,H,I,r,h⟩ S J
end
variable{a b:Expr}{ta tb:TE}{pos:Pos}
section
variable{op:CmpOp}{t:TE}
noncomputable def PC(X:Cx)(op:CmpOp)(a b:Expr)(t:TE):Prop:=
 ∀(pins:L1) (s:Shared) (σ:St) (H:Hp) (Q:VK),Inv X pins σ H s->t σ H Q->
  wpAny (model X.prog X.w) X.A (eval a X.env) (fun v B=>wpAny (model X.prog X.w) X.A (eval b X.env) (fun u g=>wpAny (model X.prog X.w) X.A (compareOp op v u) (EP X pins σ Q) X.xe g) X.xe B) X.xe s
theorem xG(b:Expr)(h:op≠ .In)(h2:op≠ .NotIn):behindInMarks op b=false:=by
 have e1:(op==CmpOp.In)=false:=by cases op<;>first|rfl|exact absurd rfl h
 have e2:(op==CmpOp.NotIn)=false:=by cases op<;>first|rfl|exact absurd rfl h2
 cases b<;>simp[behindInMarks,e1,e2]
noncomputable def tB(t:TE):TT:=fun σ H Q=>t σ H fun x H1=>∃c,x= .bl c/\Q c H1
theorem wD(h:PC X op a b t)(h1:behindInMarks op b=false:=by first|exact xG _ (by decide) (by decide)|rfl):PE X (.Compare a [op] [b] pos) t:=fun pins s σ H Q I V=>wpAny_Compare1 (h pins s σ H Q I V) h1
theorem wF(h:PC X op a b t)(h1:behindInMarks op b=false:=by first|exact xG _ (by decide) (by decide)|rfl):PT X (.Compare a [op] [b] pos) (tB t):=by
 intro pins s σ H Q I V;refine gf (iI (h pins s σ H _ I V) fun v s1 h1=>iI h1 fun u s2 h2=>iI h2 fun c W C=>?_) h1;obtain⟨x,H1,A,r1,N⟩:=C;obtain⟨d,rfl,q⟩:=N;cases r1;exact cj ⟨H1,A,q⟩
end
variable{tA tB':TT}{rest:List Expr}
noncomputable def zf(t u:TT):TT:=fun σ H Q=>t σ H fun c H1=>if c=true then u σ H1 Q else Q false H1
noncomputable def y3(t u:TT):TT:=fun σ H Q=>t σ H fun c H1=>if c=true then Q true H1 else u σ H1 Q
noncomputable def y4(t:TT):TT:=fun σ H Q=>t σ H fun c H1=>Q (!c) H1
theorem n6(J:PT X a tA):PW X (.BoolOp .And [a] pos) tA:=by
 intro w pins s σ H Q I h;refine isTrue_and (iI (J pins s σ H Q I h) fun c s1 e=>?_);cases c with
 |true=>exact isTrue_and_nil e
 |false=>exact e
theorem oM(J:PT X a tA):PW X (.BoolOp .Or [a] pos) tA:=by
 intro w pins s σ H Q I h;refine isTrue_or (iI (J pins s σ H Q I h) fun c s1 e=>?_);cases c with
 |false=>exact isTrue_or_nil e
 |true=>exact e
theorem nX(J:PT X a tA)(U:PW X (.BoolOp .And (b::rest) pos) tB'):PW X (.BoolOp .And (a::b::rest) pos) (zf tA tB'):=by
 intro w pins s σ H Q I h;refine isTrue_and (iI (J pins s σ H _ I h) fun c s1 C=>?_);obtain⟨H1,A,N⟩:=C;cases c with
 |true=>exact U w pins s1 σ H1 Q A N
 |false=>exact⟨H1,A,N⟩
theorem mL(J:PT X a tA)(U:PW X (.BoolOp .Or (b::rest) pos) tB'):PW X (.BoolOp .Or (a::b::rest) pos) (y3 tA tB'):=by
 intro w pins s σ H Q I h;refine isTrue_or (iI (J pins s σ H _ I h) fun c s1 C=>?_);obtain⟨H1,A,N⟩:=C;cases c with
 |true=>exact⟨H1,A,N⟩
 |false=>exact U w pins s1 σ H1 Q A N
theorem kf(J:PT X a tA):PT X (.UnaryOp .Not a pos) (y4 tA):=by
 intro pins s σ H Q I h;exact isTrue_not (J pins s σ H (fun c H1=>Q (!c) H1) I h)
theorem mS{op}{t:TE}(h:PE X a t):PE X (.BoolOp op [a] pos) t:=fun pins s σ H Q I V=>BoolOp_one (h pins s σ H Q I V)
noncomputable def y8(t:TT)(ta tb:TE):TE:=fun σ H Q=>t σ H fun c H1=>if c=true then ta σ H1 Q else tb σ H1 Q
theorem xH{c:Expr}(Y:PT X c tA)(J:PE X a ta)(U:PE X b tb):PE X (.IfExp c a b pos) (y8 tA ta tb):=by
 intro pins s σ H Q I h;refine wpAny_IfExp (iI (Y pins s σ H _ I h) fun d s1 C=>?_);obtain⟨H1,A,N⟩:=C;cases d with
 |true=>exact J pins s1 σ H1 Q A N
 |false=>exact U pins s1 σ H1 Q A N
end
noncomputable def SqL(K:L3)(H:Hp)(a:Addr)(xs:List V):Prop:=
 Rd H a (.lst xs)\/
  ∃(o:Obj) (its:Array Value) (n:Nat),K.lookup a=some o/\o.cls= .type "list"/\o.dict=none/\o.data= .seq its n/\its.size<=sizeLine/\Vals xs its.toList
noncomputable def SqT(K:L3)(H:Hp)(a:Addr)(xs:List V):Prop:=
 Rd H a (.tup xs)\/
  ∃(o:Obj) (its:Array Value) (n:Nat),K.lookup a=some o/\o.cls= .type "tuple"/\o.data= .seq its n/\its.size<=sizeLine/\Vals xs its.toList
noncomputable def LQ:Value->Option V
 | .none=>some .non
 | .bool b=>some (.bl b)
 | .int i _=>some (.int i)
 | .str x _=>some (.str x)
 | .bytes b _=>some (.byt b)
 | .float b _=>some (.flt b)
 | .ref a=>some (.ref a)
 | .type n=>some (.ty n)
 |_=>none
theorem RelV.abs{x:V}{u:Value}(r:RelV x u):LQ u=some x:=by
 cases x with
 |non=>cases r;rfl
 |bl _=>cases r;rfl
 |int _=>obtain⟨t,rfl⟩:=r;rfl
 |str _=>obtain⟨t,rfl⟩:=r;rfl
 |byt _=>obtain⟨t,rfl⟩:=r;rfl
 |flt _=>obtain⟨t,rfl⟩:=r;rfl
 |ref _=>cases r;rfl
 |ty _=>cases r;rfl
theorem RelV.inj{x y:V}{u:Value}(r:RelV x u)(q:RelV y u):x=y:=aJ (r.abs.symm.trans q.abs)
theorem Vals.inj{xs ys:List V}{us:List Value}(h:Vals xs us)(g:Vals ys us):xs=ys:=by
 induction h generalizing ys with
 |nil=>cases g;rfl
 |cons r t E=>
  cases g with
  |cons r' t'=>rw[r.inj r',E t']
section
variable{X:Cx}{pins:L1}{σ:St}{H:Hp}{s:Shared}{a b:Addr}{xs ys:List V}{E:LZ}{st:Stmt}{rest body:List Stmt}{t u tb:TS}{e c:Expr}{te to ti:TE}{pos pos' tpos:Pos}{K:L3}{es:List Expr}{op:Operator}{i k n:Nat}{x:Str}{tc:TT}
theorem SqL.of(h:H a=some (.lst xs)):SqL K H a xs:=.inl (.inl h)
theorem SqT.of(h:H a=some (.tup xs)):SqT K H a xs:=.inl (.inl h)
theorem Inv.list(I:Inv X pins σ H s)(h:SqL X.K H a xs):∃its:List Value,Vals xs its/\PlainL s.heap a its.toArray/\xs.length<=sizeLine:=by
 rcases h with h|⟨o,its,n,F,Y,J,hs,L,r⟩
 ·obtain⟨z,its,n,r,e⟩:=h.ok I.hok;exact⟨its,r,⟨_,n,e,rfl,rfl,rfl⟩,z⟩
 ·refine⟨its.toList,r,⟨o,n,I.kIn a o F,Y,J,by simpa using hs⟩,?_⟩;have e:=r.length;simp only[Array.length_toList]at e;lia
theorem Inv.tuple(I:Inv X pins σ H s)(h:SqT X.K H a xs):∃its:List Value,Vals xs its/\IsTup s.heap a its.toArray/\xs.length<=sizeLine:=by
 rcases h with h|⟨o,its,n,F,Y,hs,L,r⟩
 ·obtain⟨z,its,r,p⟩:=h.ok I.hok;exact⟨its,r,p,z⟩
 ·refine⟨its.toList,r,⟨o,I.kIn a o F,Y,n,by simpa using hs⟩,?_⟩;have e:=r.length;simp only[Array.length_toList]at e;lia
theorem Inv.list_inj(I:Inv X pins σ H s)(h:SqL X.K H a xs)(h':SqL X.K H a ys):xs=ys:=by
 obtain⟨its,r,⟨o,n,e,_,_,d⟩,_⟩:=I.list h;obtain⟨i,r',⟨o',c,T,_,_,d'⟩,_⟩:=I.list h';rw[e]at T;cases T;rw[d]at d';injection d' with d1 _;have:its=i:=by simpa using cA Array.toList d1
 subst this;exact r.inj r'
theorem Inv.tuple_inj(I:Inv X pins σ H s)(h:SqT X.K H a xs)(h':SqT X.K H a ys):xs=ys:=by
 obtain⟨its,r,⟨o,e,_,n,d⟩,_⟩:=I.tuple h;obtain⟨i,r',⟨o',T,_,c,d'⟩,_⟩:=I.tuple h';rw[e]at T;cases T;rw[d]at d';injection d' with d1 _;have:its=i:=by simpa using cA Array.toList d1
 subst this;exact r.inj r'
abbrev Cx.wish(X:Cx)(E:LZ):Cx:={X with xe:=E}
abbrev Cx.nox(X:Cx):Cx:=X.wish fun _ _=>False
theorem Cx.Ok.wish(k:X.Ok)(E:LZ):(X.wish E).Ok:=
 ⟨k.mod,k.kind,k.glob,k.blt,k.above,k.inj,k.has,k.cab,k.hd,k.frames,k.stk,k.exf,k.bs,k.bsz,k.noex,k.exfs,k.funs,k.frf⟩
theorem Cx.Ok.unwish(k:(X.wish E).Ok):X.Ok:=
 ⟨k.mod,k.kind,k.glob,k.blt,k.above,k.inj,k.has,k.cab,k.hd,k.frames,k.stk,k.exf,k.bs,k.bsz,k.noex,k.exfs,k.funs,k.frf⟩
theorem Inv.wish(I:Inv X pins σ H s)(E:LZ):Inv (X.wish E) pins σ H s:=⟨I.ok.wish E,I.os,I.bare,I.base,I.loc,I.cell,I.free,I.freeC,I.pin,I.hok,I.len⟩
theorem Inv.unwish(I:Inv (X.wish E) pins σ H s):Inv X pins σ H s:=⟨I.ok.unwish,I.os,I.bare,I.base,I.loc,I.cell,I.free,I.freeC,I.pin,I.hok,I.len⟩
theorem SP.unwish{D:Ends}{f:Flow}{s':Shared}(h:SP (X.wish E) pins D f s'):SP X pins D f s':=by
 cases f with
 |next=>obtain⟨L,H',I,q⟩:=h;exact⟨L,H',I.unwish,q⟩
 |brk=>obtain⟨L,H',I,q⟩:=h;exact⟨L,H',I.unwish,q⟩
 |cont=>obtain⟨L,H',I,q⟩:=h;exact⟨L,H',I.unwish,q⟩
 |ret u=>obtain⟨v,L,H',I,r,q⟩:=h;exact⟨v,L,H',I.unwish,r,q⟩
theorem PSs.nox{st:List Stmt}(h:PSs X.nox st t):PSs X st t:=fun pins s σ H D I V=>
 dD (h pins s σ H D (I.wish _) V) (fun _ _ q=>q.unwish) fun _ _ z=>False.elim z
noncomputable def we:TS:=fun D σ H=>D.nx σ H
noncomputable def oY(t u:TS):TS:=fun D σ H=>t {D with nx:=u D} σ H
theorem jv:PSs X [] we:=fun _ _ σ H _ I h=>fY ⟨σ,H,I,h⟩
theorem iy(h1:PS X st t)(h2:PSs X rest u):PSs X (st::rest) (oY t u):=by
 intro pins s σ H D I h;refine wpAny_execs_cons (iI (h1 pins s σ H {D with nx:=u D} I h) fun f s1 q=>?_);cases f with
 |next=>
  obtain⟨L,H',a,q⟩:=q;exact h2 pins s1 L H' D a q
 |ret v=>exact q
 |brk=>exact q
 |cont=>exact q
theorem iF(h1:PS X st t):PSs X [st] t:=by
 intro pins s σ H D I h;refine wpAny_execs_cons (iI (h1 pins s σ H D I h) fun f s1 q=>?_);cases f with
 |next=>exact fY q
 |ret v=>exact q
 |brk=>exact q
 |cont=>exact q
theorem Inv.quiet{σ:St}(I:Inv X pins σ H s):interactive X.env=false:=by simp[interactive,I.ok.kind]
noncomputable def rN(te:TE):TS:=fun D σ H=>te σ H fun _ H1=>D.nx σ H1
theorem j6(R:PE X e te)(hs:swapsWith e none pos.line X.env=pure false:=by rfl):PS X (.Expr e pos) (rN te):=by
 intro pins s σ H D I h;exact wpAny_Expr_any (iI (R pins s σ H _ I h) fun v s1 ⟨x,H1,A,r1,N⟩=>⟨σ,H1,A,N⟩) I.quiet hs
noncomputable def yZ(te:TE):TS:=fun D σ H=>te σ H D.rt
theorem iS(R:PE X e te):PS X (.Return (some e) pos) (yZ te):=by
 intro pins s σ H D I h;exact wpAny_Return_some (iI (R pins s σ H _ I h) fun v s1 ⟨x,H1,A,r1,N⟩=>⟨x,σ,H1,A,r1,N⟩)
noncomputable def Ed:TS:=fun D _ H=>D.rt .non H
noncomputable def vA(c:TT)(t u:TS):TS:=fun D σ H=>c σ H fun b H1=>if b=true then t D σ H1 else u D σ H1
theorem jt{a b:List Stmt}(Y:PT X c tc)(J:PSs X a t)(U:PSs X b u):PS X (.If c a b pos) (vA tc t u):=by
 intro pins s σ H D I h;refine wpAny_If (iI (Y pins s σ H _ I h) fun d s1 C=>?_);obtain⟨H1,A,N⟩:=C;cases d with
 |true=>exact J pins s1 σ H1 D A N
 |false=>exact U pins s1 σ H1 D A N
noncomputable def Ee:TS:=fun _ _ _=>False
theorem sf:PS X st Ee:=fun _ _ _ _ _ _ h=>h.elim
abbrev TG:=V->St->Hp->(St->Hp->Prop)->Prop
abbrev lS:=List V->St->Hp->(St->Hp->Prop)->Prop
noncomputable def PG(X:Cx)(a:Expr)(t:TG):Prop:=
 ∀(pins:L1) (s:Shared) (σ:St) (H:Hp) (v:V) (u:Value) (Q:St->Hp->Prop),Inv X pins σ H s->RelV v u->t v σ H Q->
  wpAny (model X.prog X.w) X.A (assign a X.env u) (fun _ s'=>∃L H',Inv X pins L H' s'/\Q L H') X.xe s
noncomputable def PGs(X:Cx)(ts:List Expr)(t:lS):Prop:=
 ∀(pins:L1) (s:Shared) (σ:St) (H:Hp) (vs:List V) (us:List Value) (Q:St->Hp->Prop),Inv X pins σ H s->Vals vs us->t vs σ H Q->
  wpAny (model X.prog X.w) X.A (assignInOrder ((assignEach ts X.env).map (·.2)) us) (fun _ s'=>∃L H',Inv X pins L H' s'/\Q L H') X.xe s
abbrev qg:=V->V->V->Hp->(Hp->Prop)->Prop
noncomputable def PSet(X:Cx)(t:qg):Prop:=
 ∀(pins:L1) (s:Shared) (σ:St) (H:Hp) (o i v:V) (z b u:Value) (Q:Hp->Prop),Inv X pins σ H s->RelV o z->RelV i b->RelV v u->t o i v H Q->
  wpAny (model X.prog X.w) X.A (setItem z b u) (fun _ s'=>∃H',Inv X pins σ H' s'/\Q H') X.xe s
abbrev nG:=V->V->Hp->VK->Prop
noncomputable def qh(X:Cx)(op:Operator)(t:nG):Prop:=
 ∀(pins:L1) (s:Shared) (σ:St) (H:Hp) (x y:V) (v u:Value) (Q:VK),Inv X pins σ H s->RelV x v->RelV y u->t x y H Q->
  wpAny (model X.prog X.w) X.A (inplaceOp op v u) (EP X pins σ Q) X.xe s
noncomputable def mw(i:Nat):TG:=fun v σ H Q=>Q (σ.set i (some v)) H
theorem AV(V:X.N.Nodup)(hi:X.N[i]? =some x)(G:Loc X.env.scope x)(B:X.fn x=true\/X.env.scope.names.lookup x=some .local:=by first|exact .inl rfl|exact .inr rfl|assumption):PG X (.Name x pos) (mw i):=by
 intro pins s σ H v u Q I r h;exact wpAny_assign_Name (xO I V hi G r (fun s' a=>⟨_,H,a,h⟩) B)
noncomputable def Lo:lS:=fun vs σ H Q=>vs=[]/\Q σ H
noncomputable def Lp(t:TG)(u:lS):lS:=fun vs σ H Q=>∃v r,vs=v::r/\t v σ H fun L H'=>u r L H' Q
theorem Gz:PGs X [] Lo:=by
 intro pins s σ H vs us Q I r h;obtain⟨e,h⟩:=h;subst e;cases r;exact assignInOrder_nil ⟨σ,H,I,h⟩
theorem HJ{t:TG}{u:lS}(h1:PG X e t)(h2:PGs X es u)
  (hs:(assignEach (e::es) X.env).map (·.2)=assign e X.env::(assignEach es X.env).map (·.2):=by rfl):PGs X (e::es) (Lp t u):=by
 intro pins s σ H vs us Q I r h;obtain⟨v,a,e1,h⟩:=h;subst e1;cases r with
 |cons r d=>
  rw[hs];refine assignInOrder_cons (iI (h1 pins s σ H _ _ _ I r h) fun _ s1 C=>?_);obtain⟨g,H1,A,N⟩:=C;exact h2 pins s1 g H1 _ _ Q A d N
noncomputable def Ln(K:L3)(n:Nat)(t:lS):TG:=fun v σ H Q=>∃a xs,v= .ref a/\SqT K H a xs/\xs.length=n/\t xs σ H Q
theorem Fb{t:lS}(Y:X.calm=true)(h:PGs X es t)
  (S:(assignEach es X.env).length=n:=by rfl) (J:(assignEach es X.env).findIdx? (·.1)=none:=by rfl):PG X (.Tuple es k pos) (Ln X.K n t):=by
 intro pins s σ H v u Q I r V;obtain⟨a,xs,e1,W,Z,V⟩:=V;subst e1;cases r;obtain⟨its,m,B,L⟩:=I.tuple W;refine assign_Tuple_tuple (I.ok.hd Y) B (by simp [S,<- Z,m.length]) J fun h' G=>?_;have A:Inv X pins σ H {s with heap:=h'}:=I.kept (t':=s.toks) fun b o e=>G b o (bu (aR e)) e;exact h pins _ σ H xs _ Q A (by simpa using m) V
noncomputable def DG(to ti:TE)(t:qg):TG:=fun v σ H Q=>to σ H fun o H1=>ti σ H1 fun i H2=>t o i v H2 fun H3=>Q σ H3
theorem qI{o i:Expr}{t:qg}(M:PE X o to)(hi:PE X i ti)(hs:PSet X t)
  (J:∀ v,assign (.Subscript o i pos) X.env v = (do
   let z <- holding [v] (eval o X.env)
   let b <- holding [v,z] (eval i X.env)
   standAt pos
   holding [v,z,b] (setItem z b v)
   release [v,z,b] []):=by intro _;rfl):PG X (.Subscript o i pos) (DG to ti t):=by
 intro pins s σ H v u Q I r h;rw[J];refine ae (bQ (iI (M pins s σ H _ I h) fun z s1 C=>?_));obtain⟨x,H1,A,r1,N⟩:=C;refine ae (bQ (iI (hi pins s1 σ H1 _ A N) fun b s2 C=>?_));obtain⟨y,H2,E,P,G⟩:=C;refine ae (fJ (ae (bQ (iI (hs pins s2 σ H2 x y v z b u _ E r1 P r G) fun _ W C=>?_))));obtain⟨H3,Z,j⟩:=C;exact wpAny_release ⟨σ,H3,Z,j⟩
noncomputable def qt(te:TE)(g:TG):TS:=fun D σ H=>te σ H fun x H1=>g x σ H1 D.nx
theorem pM{tg:Expr}{g:TG}(R:PE X e te)(y:PG X tg g)(hs:swapsWithSole [tg] e pos.line X.env=pure false:=by rfl)(V:swappedStores [tg] e X.env=pure none:=by rfl)
  (h1:(assignEach [tg] X.env).map (·.2)=[assign tg X.env]:=by rfl):PS X (.Assign [tg] e pos) (qt te g):=by
 intro pins s σ H D I h;refine wpAny_Assign_stores (iI (R pins s σ H _ I h) fun v s1 C=>?_) hs V;obtain⟨x,H1,A,r1,N⟩:=C;rw[h1];exact iI (y pins s1 σ H1 x v _ A r1 N) fun _ s2 q=>q
theorem E6(V:X.N.Nodup)(hi:X.N[i]? =some x)(G:Loc X.env.scope x)(R:PE X e te)(hs:swapsWith e (some (.Name x pos')) pos.line X.env=pure false:=by rfl)(B:X.fn x=true\/X.env.scope.names.lookup x=some .local:=by first|exact .inl rfl|exact .inr rfl|assumption):
  PS X (.Assign [.Name x pos'] e pos) (qt te (mw i)):=by
 intro pins s σ H D I h;refine wpAny_Assign_Name (iI (R pins s σ H _ I h) fun v s1 C=>?_) hs;obtain⟨y,H1,A,r1,N⟩:=C;exact xO A V hi G r1 (fun s2 E=>⟨_,H1,E,N⟩) B
noncomputable def Eh(i:Nat)(te:TE)(ti:nG):TS:=fun D σ H=>∃x,σ[i]? =some (some x)/\te σ H fun y H1=>ti x y H1 fun z H2=>D.nx (σ.set i (some z)) H2
theorem E7{ti:nG}(V:X.N.Nodup)(hi:X.N[i]? =some x)(G:Loc X.env.scope x)(R:PE X e te)(M:qh X op ti)(B:X.fn x=true\/X.env.scope.names.lookup x=some .local:=by first|exact .inl rfl|exact .inr rfl|assumption):
  PS X (.AugAssign (.Name x pos') op e pos) (Eh i te ti):=by
 intro pins s σ H D I h;obtain⟨v,e1,h⟩:=h;obtain⟨m,S,Z⟩:=I.loc;have f:vn X.env.scope x:=by rcases G with k|k;exact .inl k;exact .inr (.inl k)
 obtain⟨u,r,l⟩:=Z i x v hi e1 f;refine wpAny_AugAssign_Name ?_;have o:wpAny (model X.prog X.w) X.A (eval e X.env) (fun w g=>wpAny (model X.prog X.w) X.A (inplaceOp op u w) (fun r b=>wpAny (model X.prog X.w) X.A (storeName X.env x r) (fun _=>SP X pins D .next) X.xe b) X.xe g) X.xe s:=by
  refine iI (R pins s σ H _ I h) fun w s1 C=>?_;obtain⟨y,H1,A,r1,N⟩:=C;refine iI (M pins s1 σ H1 v y u w _ A r r1 N) fun z s2 C=>?_;obtain⟨j,H2,E,P,L⟩:=C;exact xO E V hi G P (fun W d=>⟨_,H2,d,L⟩) B
 rcases l with⟨F,K⟩|⟨F,c,Y,a⟩
 ·exact wpAny_loadName_local I.ok.kind F S K o
 ·rcases F with F|F
  ·exact wpAny_loadName_cell I.ok.kind F Y a o
  ·rcases G with k|k
   ·have:X.env.scope.names.lookup x=some .free:=F;rw[k]at this;cases this
   ·have:X.env.scope.names.lookup x=some .free:=F;rw[k]at this;cases this
noncomputable def ze(to ti te:TE)(l:V->V->Hp->VK->Prop)(q:nG)(m:qg):TS:=fun D σ H=>to σ H fun o H1=>ti σ H1 fun i H2=>l o i H2 fun x H3=>te σ H3 fun y F=>q x y F fun z T=>m o i z T fun k=>D.nx σ k
noncomputable def DU(X:Cx)(t:V->V->Hp->VK->Prop):Prop:=
 ∀(pins:L1) (s:Shared) (σ:St) (H:Hp) (o i:V) (z b:Value) (Q:VK),Inv X pins σ H s->RelV o z->RelV i b->t o i H Q->
  wpAny (model X.prog X.w) X.A (getItem z b) (EP X pins σ Q) X.xe s
theorem AY{o i:Expr}{l:V->V->Hp->VK->Prop}{q:nG}{m:qg}(M:PE X o to)(hi:PE X i ti)(y:DU X l)(R:PE X e te)(O:qh X op q)(hs:PSet X m)
  (J:∀ z b f,augStore i z b f = (do holding [f,z,b] (setItem z b f); release [f,z,b] []; pure .next):=by intros; rfl):PS X (.AugAssign (.Subscript o i tpos) op e pos) (ze to ti te l q m):=by
 intro pins s σ H D I h;refine wpAny_AugAssign_SubscriptAny (iI (M pins s σ H _ I h) fun z s1 C=>?_) J;obtain⟨x1,H1,A,r1,N⟩:=C;refine iI (hi pins s1 σ H1 _ A N) fun b s2 C=>?_;obtain⟨g,H2,E,P,G⟩:=C;refine iI (y pins s2 σ H2 x1 g z b _ E r1 P G) fun Q W C=>?_;obtain⟨L,H3,Z,r,j⟩:=C;refine iI (R pins W σ H3 _ Z j) fun v d C=>?_;obtain⟨U,F,B,w,S⟩:=C;refine iI (O pins d σ F L U Q v _ B r w S) fun f n C=>?_;obtain⟨K,T,u,x,c⟩:=C;exact iI (hs pins n σ T x1 g K z b f _ u r1 P x c) fun _ a ⟨k,p,t⟩=>⟨σ,k,p,t⟩
noncomputable def Aw(c:TT)(tb:TS):TS:=fun D σ H=>∃W:Nat->St->Hp->Prop,(∃m,W m σ H)/\∀m σ H,W m σ H->
 c σ H fun b H1=>if b=true then ∃N:St->Hp->Prop,(∀L H',N L H'->∃T,T<m/\W T L H')/\tb {D with nx:=N,ct:=N,bk:=D.nx} σ H1 else D.nx σ H1
theorem uN(O:PassesOwn (model X.prog X.w) X.A X.env X.xe)(Y:PT X c tc)(U:PSs X body tb):PS X (.While c body [] pos) (Aw tc tb):=by
 intro pins s σ H D I h;obtain⟨W,⟨e,R⟩,a⟩:=h;refine wpAny_While (codeAny_whileLoop (fun n s'=>∃L H',Inv X pins L H' s'/\W n L H') ?_ e ⟨σ,H,I,R⟩);rintro n s1 ⟨g,H1,A,m⟩;refine dJ O (iI (Y pins s1 g H1 _ A (a n g H1 m)) fun b s2 C=>?_);obtain⟨H2,E,G⟩:=C;cases b with
 | true=>
  obtain⟨N,V,G⟩:=G;rw[aI rfl];refine dJ O (iI (U pins s2 g H2 _ E G) fun f t j=>?_);cases f with
  |next=>
   obtain⟨d,H3,Z,k⟩:=j;obtain⟨T,K,z⟩:=V d H3 k;exact⟨T,K,d,H3,Z,z⟩
  |cont=>
   obtain⟨d,H3,Z,k⟩:=j;obtain⟨T,K,z⟩:=V d H3 k;exact⟨T,K,d,H3,Z,z⟩
  |brk=>exact j
  |ret v=>exact j
 |false=>
  rw[aG bo];exact fY ⟨g,H2,E,G⟩
structure It where
 go:Nat->Hp->Prop
 yld:Nat->Hp->V->Hp->Prop
 stop:Nat->Hp->Prop
noncomputable def mj(X:Cx)(pins:L1)(H:Hp)(b:Addr):Prop:=
 H b=none/\b≠X.env.locals/\b∉X.fs/\(b∈X.ex\/X.s₀.heap.objs.size<=b)/\(∀x c,X.env.cells.lookup x=some c->c≠b)/\∀p∈X.pn++pins,p.1≠b
theorem Inv.fpOk{σ:St}{H':Hp}(I:Inv X pins σ H s)(U:s.heap.objs.size<=b)(S:H' b=none):mj X pins H' b:=by
 refine⟨S,du (bG I.lt U),I.nofs U,.inr (bw I.sz U),fun x c e z=>?_,fun p O z=>?_⟩
 ·obtain⟨v,q⟩:=I.cell x c e;exact absurd (bG q.lt (by rw[z];exact U)) (cP _)
 ·exact absurd (bG (aR (I.pin p O).1) (by rw[z];exact U)) (cP _)
end
structure Turn(P:Program)(w:World)(K:L3)(tg:Expr)(J:It)(fp:List Addr)(it:Addr)(tn:Nat->Heap->Prop):Prop where
 mem:it∈fp
 obj:∀i h,tn i h->∀b∈fp,∃o,h.get? b=some o/\∀v,o.data≠ .cell v
 keep:∀i h h',tn i h->(∀b∈fp,∀o,h.get? b=some o->h'.get? b=some o)->tn i h'
 item:∀(X:Cx),X.prog=P->X.w=w->X.K=K->X.calm=true->∀(i:Nat) (pins:L1) (s:Shared) (σ:St) (H:Hp) (E:LZ),Inv X pins σ H s->(∀b∈fp,mj X pins H b)->tn i s.heap->J.go i H->
  wpAny (model P w) X.A (pyNext (.ref it)) (fun r s1=>∃u,r=some u/\
   wpAny (model P w) X.A (letOwnedTupleGo tg (.ref it) u) (fun _ s2=>∃x H',Inv X pins σ H' s2/\RelV x u/\J.yld i H x H'/\tn (i+1) s2.heap/\∀b∈fp,H' b=none) E s1) E s
 done:∀(X:Cx),X.prog=P->X.w=w->X.K=K->X.calm=true->∀(i:Nat) (pins:L1) (s:Shared) (σ:St) (H:Hp) (E:LZ),Inv X pins σ H s->(∀b∈fp,mj X pins H b)->tn i s.heap->J.stop i H->
  wpAny (model P w) X.A (pyNext (.ref it)) (fun r s1=>r=none/\Inv X pins σ H s1) E s
 self:∀(A:Around) (i:Nat) (s:Shared) (Q:LZ) (E:LZ),tn i s.heap->Q (.ref it) s->wpAny (model P w) A (pyIter (.ref it)) Q E s
abbrev TI:=St->Hp->(It->Hp->Prop)->Prop
noncomputable def yU(X:Cx)(pins:L1)(σ:St)(tg:Expr)(R:It->Hp->Prop)(i:Value)(s2:Shared):Prop:=
 ∃(N:Addr) (fp:List Addr) (L:Nat->Heap->Prop) (J:It) (H':Hp),i= .ref N/\Inv X pins σ H' s2/\Turn X.prog X.w X.K tg J fp N L/\L 0 s2.heap/\(∀b∈fp,mj X pins H' b)/\R J H'
noncomputable def PI(X:Cx)(tg iter:Expr)(F:TI):Prop:=
 ∀(pins:L1) (s:Shared) (σ:St) (H:Hp) (R:It->Hp->Prop),Inv X pins σ H s->F σ H R->
  wpAny (model X.prog X.w) X.A (eval iter X.env) (fun v s1=>wpAny (model X.prog X.w) X.A (pyIter v) (yU X pins σ tg R) X.xe s1) X.xe s
theorem vR {M:Model}{A:Around}{E:LZ}{s:Shared}{tg:Expr}{N:Addr}{u:Value}{o:Obj}{n:String}{vs:Array Value}{Q:Unit->Shared->Prop}(j:s.heap.get? N=some o)(Y:o.cls= .type n)(J:o.data= .fields vs)
    (S:["enumerate","zip","dict_itemiterator","dict_reverseitemiterator","odict_iterator","itertools.zip_longest","itertools.pairwise"].contains n=false) (p:Q () s):wpAny M A (letOwnedTupleGo tg (.ref N) u) Q E s:=by
  unfold letOwnedTupleGo;cases tg <;>first
    |exact aM p
    | (cases u<;>first
        |exact aM p
        | (refine ae (wpAny_load j ?_)
           rw[Y,J];show wpAny M A (if(["enumerate","zip","dict_itemiterator","dict_reverseitemiterator","odict_iterator","itertools.zip_longest","itertools.pairwise"].contains n&&vs[0]? ==some (rawInt _))=true then _ else _) Q E s;rw[aG (by intro h;rw[S,de]at h;cases h)];exact aM p))
noncomputable def i5(K:L3)(a:Addr):It:=
 ⟨fun i H=>∃xs x,SqL K H a xs/\xs[i]? =some x,fun i H x H'=>H'=H/\∀xs,SqL K H a xs->xs[i]? =some x,fun i H=>∃xs,SqL K H a xs/\xs.length<=i⟩
noncomputable def vv(K:L3)(a:Addr):It:=
 ⟨fun i H=>∃xs x,SqT K H a xs/\xs[i]? =some x,fun i H x H'=>H'=H/\∀xs,SqT K H a xs->xs[i]? =some x,fun i H=>∃xs,SqT K H a xs/\xs.length<=i⟩
noncomputable def lE(lo:Int)(n:Nat):It:=⟨fun i _=>i<n,fun i H x H'=>H'=H/\x= .int (lo+i),fun i _=>n<=i⟩
theorem Jj{P:Program}{w:World}{K:L3}{tg:Expr}(a N:Addr):Turn P w K tg (i5 K a) [N] N (fun i h=>h.IsListIter N a i)where
 mem:=by simp
 obj:=fun i h st b U=>by
  have e:b=N:=by simpa using U
  subst e;obtain⟨o,e,c,d⟩:=st;exact⟨o,e,fun v z=>by rw[d]at z;cases z⟩
 keep:=fun i h h' st k=>st.at fun o e=>k N (by simp) o e
 item:=by
  intro X J V S Y i pins s σ H E I B st y;subst J V S;obtain⟨xs,x,W,G⟩:=y;obtain⟨its,m,p,L⟩:=I.list W;obtain⟨u,F,D⟩:=m.get G;obtain⟨R,M,Q,r,q,l⟩:=B N (by simp);refine eQ st p.isList (x:=u) (by simpa using F) fun h' g j=>?_;have A:Inv X pins σ H {s with heap:=h'}:=I.turned (t':=s.toks) (fun b o U e=>(j.2 b U).trans e) R M r q l;obtain⟨o,e,c,d⟩:=id g;exact⟨u,rfl,vR (s:={s with heap:=h'}) e c d (by decide) ⟨x,H,A,D,⟨rfl,fun ys O=>by rw[I.list_inj O W];exact G⟩,g,fun b U=>(B b U).1⟩⟩
 done:=by
  intro X J V S Y i pins s σ H E I B st y;subst J V S;obtain⟨xs,W,G⟩:=y;obtain⟨its,m,p,L⟩:=I.list W;obtain⟨R,M,Q,r,q,l⟩:=B N (by simp);have Z:=m.length;exact fe (I.ok.hd Y) st p.isList (by simp;lia) fun h' f=>⟨rfl,I.turned (t':=s.toks) (fun b o U e=>f b o U e) R M r q l⟩
 self:=fun _ _ _ _ _ st h=>wpAny_pyIter_listiter st h
theorem JW{P:Program}{w:World}{K:L3}{tg:Expr}(a N:Addr):Turn P w K tg (vv K a) [N] N (fun i h=>h.IsTupleIter N a i)where
 mem:=by simp
 obj:=fun i h st b U=>by
  have e:b=N:=by simpa using U
  subst e;obtain⟨o,e,c,d⟩:=st;exact⟨o,e,fun v z=>by rw[d]at z;cases z⟩
 keep:=fun i h h' st k=>st.at fun o e=>k N (by simp) o e
 item:=by
  intro X J V S Y i pins s σ H E I B st y;subst J V S;obtain⟨xs,x,W,G⟩:=y;obtain⟨its,m,p,L⟩:=I.tuple W;obtain⟨u,F,D⟩:=m.get G;obtain⟨R,M,Q,r,q,l⟩:=B N (by simp);refine wpAny_pyNext_tuple_item st (show s.heap.IsTuple a its.toArray from p) (x:=u) (by simpa using F) fun h' g j=>?_;have A:Inv X pins σ H {s with heap:=h'}:=I.turned (t':=s.toks) (fun b o U e=>(j.2 b U).trans e) R M r q l;obtain⟨o,e,c,d⟩:=id g;exact⟨u,rfl,vR (s:={s with heap:=h'}) e c d (by decide) ⟨x,H,A,D,⟨rfl,fun ys O=>by rw[I.tuple_inj O W];exact G⟩,g,fun b U=>(B b U).1⟩⟩
 done:=by
  intro X J V S Y i pins s σ H E I B st y;subst J V S;obtain⟨xs,W,G⟩:=y;obtain⟨its,m,p,L⟩:=I.tuple W;obtain⟨R,M,Q,r,q,l⟩:=B N (by simp);have Z:=m.length;exact wpAny_pyNext_tuple_end (I.ok.hd Y) st (show s.heap.IsTuple a its.toArray from p) (by simp;lia) fun h' f=>⟨rfl,I.turned (t':=s.toks) (fun b o U e=>f b o U e) R M r q l⟩
 self:=fun _ _ _ _ _ st h=>wpAny_pyIter_tupleiter st h
theorem JV{P:Program}{w:World}{K:L3}{tg:Expr}(N:Addr)(lo:Int)(n:Nat):Turn P w K tg (lE lo n) [N] N (fun i h=>IsRangeIter h N (lo+(i:Nat)*1) ((n:Int)-(i:Nat)) 1)where
 mem:=by simp
 obj:=fun i h st b U=>by
  have e:b=N:=by simpa using U
  subst e;exact⟨_,st,fun v z=>by
   have C:Data.fields _=Data.cell v:=z;cases C⟩
 keep:=fun i h h' st k=>k N (by simp) _ st
 item:=by
  intro X J V S Y i pins s σ H E I B st y;subst J V S;obtain⟨R,M,Q,r,q,l⟩:=B N (by simp);have W:=Walks.range (prog:=X.prog) (w:=X.w) (I.ok.hd Y) N lo 1 n;refine W.item i s _ _ y st fun v h' tk j g kk=>?_;obtain⟨t,rfl⟩:=j;have A:Inv X pins σ H {s with heap:=h',toks:=tk}:=I.turned (fun b o U e=>kk b o (by simpa using U) e) R M r q l;refine⟨_,rfl,vR (s:={s with heap:=h',toks:=tk}) (n:="range_iterator") g rfl rfl (by decide) ⟨.int (lo+i),H,A,⟨t,?_⟩,⟨rfl,rfl⟩,g,fun b U=>(B b U).1⟩⟩;rw[Int.mul_one]
 done:=by
  intro X J V S Y i pins s σ H E I B st y;subst J V S;obtain⟨R,M,Q,r,q,l⟩:=B N (by simp);exact wpAny_pyNext_range_end (I.ok.hd Y) st (by have:n<=i:=y;lia) fun h' G=>⟨rfl,I.turned (t':=s.toks) (fun b o U e=>G b o U e) R M r q l⟩
 self:=fun _ _ _ _ _ st h=>wpAny_pyIter_rangeiter st h
section
variable{X:Cx}{tg a b c l iter:Expr}{ta tb tc tl:TE}{pos:Pos}{f:Value->Value->Sem Value}{pins:L1}{s:Shared}{H:Hp}{fp:List Addr}{g:Int->Int->Int}{us its:List Value}{D:Ends}{xs:List V}{op:CmpOp}{r:R2}{lo:Int}
noncomputable def i8(K:L3)(tl:TE):TI:=fun σ H R=>tl σ H fun x H1=>∃a,x= .ref a/\(∃xs,SqL K H1 a xs)/\R (i5 K a) H1
noncomputable def yA(K:L3)(tl:TE):TI:=fun σ H R=>tl σ H fun x H1=>∃a,x= .ref a/\(∃xs,SqT K H1 a xs)/\R (vv K a) H1
theorem jb(Z:PE X l tl):PI X tg l (i8 X.K tl):=by
 intro pins s σ H R I h;refine iI (Z pins s σ H _ I h) fun v s1 C=>?_;obtain⟨x,H1,A,r1,N⟩:=C;obtain⟨a,e,⟨xs,W⟩,q⟩:=N;subst e;cases r1;obtain⟨its,m,p,L⟩:=A.list W;refine dk p.isList ?_;refine⟨s1.heap.objs.size,[s1.heap.objs.size],_,_,H1,rfl,A.kept (t':=s1.toks) fun b o e=>ag _ e,Jj a _,⟨_,aW _ rfl,rfl,rfl⟩,fun b U=>?_,q⟩;have e:b=s1.heap.objs.size:=by simpa using U
 subst e;exact A.fpOk (ay _) (A.hok.fresh (ay _))
theorem z8(Z:PE X l tl):PI X tg l (yA X.K tl):=by
 intro pins s σ H R I h;refine iI (Z pins s σ H _ I h) fun v s1 C=>?_;obtain⟨x,H1,A,r1,N⟩:=C;obtain⟨a,e,⟨xs,W⟩,q⟩:=N;subst e;cases r1;obtain⟨its,m,p,L⟩:=A.tuple W;refine gC (show s1.heap.IsTuple a its.toArray from p) ?_;refine⟨s1.heap.objs.size,[s1.heap.objs.size],_,_,H1,rfl,A.kept (t':=s1.toks) fun b o e=>ag _ e,JW a _,⟨_,aW _ rfl,rfl,rfl⟩,fun b U=>?_,q⟩;have e:b=s1.heap.objs.size:=by simpa using U
 subst e;exact A.fpOk (ay _) (A.hok.fresh (ay _))
theorem BW{σ:St}{R:It->Hp->Prop}{E:LZ}{hi:Int}{t u v:Tok}{tk:Nat}(I:Inv X pins σ H s)(h1:-(2^62)<=lo)(h2:lo<2^62)(D:-(2^62)<=hi)(T:hi<2^62)
  (q:R (lE lo (hi-lo).toNat) H):wpAny (model X.prog X.w) X.A (pyIter (.ref s.heap.objs.size)) (yU X pins σ tg R) E {s with heap:=s.heap.push {cls:=.type "range",data:=.fields #[.int lo t,.int hi u,.int 1 v]},toks:=tk}:=by
 refine wpAny_pyIter_range (IsRange.new ..) (small_one h1 h2 D T) ?_;have A:Inv X pins σ H {s with heap:=s.heap.push {cls:=.type "range",data:=.fields #[.int lo t,.int hi u,.int 1 v]},toks:=tk}:=I.kept fun b o e=>ag _ e;refine⟨(s.heap.push {cls:=.type "range",data:=.fields #[.int lo t,.int hi u,.int 1 v]}).objs.size,[(s.heap.push {cls:=.type "range",data:=.fields #[.int lo t,.int hi u,.int 1 v]}).objs.size],_,_,H,rfl,
  A.kept (t':=tk) fun b o e=>ag _ e,JV _ lo (hi-lo).toNat,?_,fun b U=>?_,q⟩
 ·have e1:lo+((0:Nat):Int)*1=lo:=by simp
  have e2:(((hi-lo).toNat:Nat):Int)-((0:Nat):Int)=Builtin.Range.rangeSize lo hi 1:=by rw[rangeSize_one];split<;>lia
  show IsRangeIter _ _ (lo+((0:Nat):Int)*1) ((((hi-lo).toNat:Nat):Int)-((0:Nat):Int)) 1;rw[e1,e2];exact aW _ rfl
 ·have e:b=(s.heap.push {cls:=.type "range",data:=.fields #[.int lo t,.int hi u,.int 1 v]}).objs.size:=by simpa using U
  subst e;exact A.fpOk (ay _) (A.hok.fresh (ay _))
noncomputable def ni(ta:TA):TI:=fun σ H R=>ta σ H fun vs H1=>∃j:Int,vs=[.int j]/\-(2^62)<=j/\j<2^62/\R (lE 0 j.toNat) H1
noncomputable def vT(ta:TA):TI:=fun σ H R=>ta σ H fun vs H1=>∃i j:Int,vs=[.int i,.int j]/\(-(2^62)<=i/\i<2^62/\-(2^62)<=j/\j<2^62)/\R (lE i (j-i).toNat) H1
theorem nD{ta:TA}{p:Pos}(y:Gl X "range")(K:X.mg "range"=none)(J:PA X [a] ta)(hs:starEach [a] X.env=[(false,eval a X.env)]:=by rfl):PI X tg (.Call (.Name "range" p) [a] [] pos) (ni ta):=by
 intro pins s σ H R I h;refine Call_ (oK I y K boot_range (dg (iI (J pos pins s σ H _ I h) fun us s1 C=>?_) hs rfl));obtain⟨vs,H1,A,r1,N⟩:=C;obtain⟨j,e,N,G,q⟩:=N;subst e;cases r1 with
 |cons r d=>
  cases d;obtain⟨t,rfl⟩:=r;exact call_range_1 (BW A (by lia) (by lia) N G (by simpa using q))
theorem CD{ta:TA}{p:Pos}(y:Gl X "range")(K:X.mg "range"=none)(J:PA X [a,b] ta)(hs:starEach [a,b] X.env=[(false,eval a X.env),(false,eval b X.env)]:=by rfl)(T:starEach [b] X.env=[(false,eval b X.env)]:=by rfl):
  PI X tg (.Call (.Name "range" p) [a,b] [] pos) (vT ta):=by
 intro pins s σ H R I h;refine Call_ (oK I y K boot_range (dg (iI (J pos pins s σ H _ I h) fun us s1 C=>?_) (by rw[hs,T]) (by rw[T];rfl)));obtain⟨vs,H1,A,r1,N⟩:=C;obtain⟨i,j,e,⟨N,G,L,S⟩,q⟩:=N;subst e;cases r1 with
 | cons r d=>
  cases d with
  |cons r' d=>
   cases d;obtain⟨t,rfl⟩:=r;obtain⟨t',rfl⟩:=r';exact call_range_2 (BW A N G L S q)
noncomputable def vB(F:TI)(g:TG)(tb:TS):TS:=fun D σ H=>F σ H fun J H1=>∃W:Nat->Nat->St->Hp->Prop,(∃m,W 0 m σ H1)/\∀i m σ H,W i m σ H->
 (J.stop i H/\D.nx σ H)\/(J.go i H/\∃N:St->Hp->Prop,(∀L H',N L H'->∃T,T<m/\W (i+1) T L H')/\∀x H',J.yld i H x H'->g x σ H' fun d H2=>tb {D with nx:=N,ct:=N,bk:=D.nx} d H2)
noncomputable def rS(fp:List Addr)(h:Heap):L1:=fp.filterMap fun b=>(h.get? b).map fun o=>(b,o)
theorem va{h:Heap}{b:Addr}{o:Obj}(U:b∈fp)(e:h.get? b=some o):(b,o)∈rS fp h:=List.mem_filterMap.mpr ⟨b,U,by rw[e];rfl⟩
theorem IM{h:Heap}{p:Addr×Obj}(O:p∈rS fp h):p.1∈fp/\h.get? p.1=some p.2:=by
 obtain⟨b,U,e⟩:=List.mem_filterMap.mp O;cases q:h.get? b with
 |none=>rw[q]at e;cases e
 |some o=>
  rw[q]at e;have T:(b,o)=p:=aJ e;subst T;exact⟨U,q⟩
theorem Inv.pinned{σ:St}(I:Inv X pins σ H s)(B:∀b∈fp,mj X pins H b)(M:∀b∈fp,∃o,s.heap.get? b=some o/\∀v,o.data≠ .cell v):Inv X (pins++rS fp s.heap) σ H s:=
 I.pins_of fun p O=>(br.mp O).elim (fun z=>I.pin p (bH _ z)) fun z=>by
  obtain⟨U,e⟩:=IM z;obtain⟨R,y,Q,_⟩:=B p.1 U;obtain⟨o,T,d⟩:=M p.1 U;rw[e]at T;cases T;exact⟨e,R,y,Q,d⟩
theorem Inv.unpinned{pl:L1}{σ:St}(I:Inv X (pins++pl) σ H s):Inv X pins σ H s:=I.pins_of fun p O=>I.pin p (bH _ (cC _ O))
theorem jY{body:List Stmt}{F:TI}{g:TG}{tb:TS}(O:PassesOwn (model X.prog X.w) X.A X.env X.xe)(Y:X.calm=true)(hi:PI X tg iter F)(y:PG X tg g)(U:PSs X body tb)
  (hs:∀x,foldedSetIterable iter X.env x=pure x:=by intro _;rfl):PS X (.For tg iter body [] pos) (vB F g tb):=by
 intro pins s σ H D I h;refine wpAny_For (iI (hi pins s σ H _ I h) fun v s1 h1=>iI h1 fun J' s2 h2=>?_) hs;obtain⟨A,fp,tn,J,H2,e,E,T,sq,Q,W,⟨m0,R⟩,A'⟩:=h2;subst e
  -- what stays true of the iterator's objects through the loop
 have B':∀{H':Hp},(∀b∈fp,H' b=none)->∀b∈fp,mj X pins H' b:=fun S b U=>⟨S b U,(Q b U).2⟩;refine codeAny_forLoop_any (fun n s'=>∃i L H',Inv X pins L H' s'/\tn i s'.heap/\(∀b∈fp,H' b=none)/\W i n L H') ?_ m0 ⟨0,σ,H2,E,sq,fun b U=>(Q b U).1,R⟩;rintro n c ⟨i,σ3,H3,Z,G',F',z⟩;rcases A' i n σ3 H3 z with⟨stop,qn⟩|⟨go,N,V,step⟩
 ·refine dJ O (iI (T.done X rfl rfl rfl Y i pins c σ3 H3 X.xe Z (B' F') G' stop) fun r p C=>?_);obtain⟨M,B⟩:=C;subst M;exact fY ⟨σ3,H3,B,qn⟩
 ·refine dJ O (iI (T.item X rfl rfl rfl Y i pins c σ3 H3 X.xe Z (B' F') G' go) fun r p C=>?_);obtain⟨u,M,j⟩:=C;subst M;refine dJ O (iI j fun _ P C=>?_);obtain⟨x,w,I5,r5,y5,i',sz⟩:=C;have K':=I5.pinned (B' sz) (T.obj _ _ i');refine dJ O (iI (y _ P σ3 w x u _ K' r5 (step x w y5)) fun _ a C=>?_);obtain⟨σ6,k,I6,t⟩:=C;refine dJ O (iI (U _ a σ6 k _ I6 t) fun f q q7=>?_);have again:∀{σ7:St} {G:Hp},Inv X (pins++rS fp P.heap) σ7 G q->N σ7 G->∃m,m<n/\∃i L H',Inv X pins L H' q/\tn i q.heap/\(∀b∈fp,H' b=none)/\W i m L H':=fun{σ7 G} I7 n7=>by
   obtain⟨l,K,w7⟩:=V σ7 G n7;refine⟨l,K,i+1,σ7,G,I7.unpinned,T.keep _ _ _ i' fun b U o e=>(I7.pin (b,o) (bH _ (bH _ (va U e)))).1,fun b U=>?_,w7⟩;obtain⟨o,e,d⟩:=T.obj _ _ i' b U;exact(I7.pin (b,o) (bH _ (bH _ (va U e)))).2.1
  cases f with
  |next=>obtain⟨σ7,G,I7,n7⟩:=q7;exact again I7 n7
  |cont=>obtain⟨σ7,G,I7,n7⟩:=q7;exact again I7 n7
  |brk=>obtain⟨σ7,G,I7,q7⟩:=q7;exact⟨σ7,G,I7.unpinned,q7⟩
  |ret v=>obtain⟨x7,σ7,G,I7,r7,q7⟩:=q7;exact⟨x7,σ7,G,I7.unpinned,r7,q7⟩
theorem lG{K:L3}{a:Addr}{g:TG}{tb:TS}{σ:St}(P:Nat->St->Hp->Prop)(A:P 0 σ H)(Z:∀i σ H,i<=xs.length->P i σ H->SqL K H a xs)
  (hs:∀i x σ H,xs[i]? =some x->P i σ H->g x σ H fun d H2=>tb {D with nx:=P (i+1),ct:=P (i+1),bk:=D.nx} d H2) (J:∀σ H,P xs.length σ H->D.nx σ H):
  ∃W:Nat->Nat->St->Hp->Prop,(∃m,W 0 m σ H)/\∀i m σ H,W i m σ H->
   ((i5 K a).stop i H/\D.nx σ H)\/((i5 K a).go i H/\∃N:St->Hp->Prop,(∀L H',N L H'->∃T,T<m/\W (i+1) T L H')/\∀x H',(i5 K a).yld i H x H'->g x σ H' fun d H2=>tb {D with nx:=N,ct:=N,bk:=D.nx} d H2):=by
 refine⟨fun i m σ H=>m=xs.length-i/\i<=xs.length/\P i σ H,⟨xs.length,by simp,bS _,A⟩,?_⟩;rintro i m σ H ⟨rfl,hi,p⟩;have q:=Z i σ H hi p;by_cases B:i<xs.length
 ·refine .inr ⟨⟨xs,xs[i],q,by simp[B]⟩,P (i+1),fun L H' k=>⟨xs.length-(i+1),by lia,rfl,B,k⟩,fun x H' y=>?_⟩;obtain⟨e,y⟩:=y;subst e;exact hs i x σ _ (y xs q) p
 ·have e:i=xs.length:=by lia
  subst e;exact .inl ⟨⟨xs,q,ay _⟩,J σ H p⟩
theorem oa{n:Nat}{g:TG}{tb:TS}{σ:St}(P:Nat->St->Hp->Prop)(A:P 0 σ H)
  (hs:∀i σ H,i<n->P i σ H->g (.int (lo+i)) σ H fun d H2=>tb {D with nx:=P (i+1),ct:=P (i+1),bk:=D.nx} d H2) (J:∀σ H,P n σ H->D.nx σ H):
  ∃W:Nat->Nat->St->Hp->Prop,(∃m,W 0 m σ H)/\∀i m σ H,W i m σ H->
   ((lE lo n).stop i H/\D.nx σ H)\/((lE lo n).go i H/\∃N:St->Hp->Prop,(∀L H',N L H'->∃T,T<m/\W (i+1) T L H')/\∀x H',(lE lo n).yld i H x H'->g x σ H' fun d H2=>tb {D with nx:=N,ct:=N,bk:=D.nx} d H2):=by
 refine⟨fun i m σ H=>m=n-i/\i<=n/\P i σ H,⟨n,by simp,bS _,A⟩,?_⟩;rintro i m σ H ⟨rfl,hi,p⟩;by_cases B:i<n
 ·refine .inr ⟨B,P (i+1),fun L H' k=>⟨n-(i+1),by lia,rfl,B,k⟩,fun x H' y=>?_⟩;obtain⟨e,y⟩:=y;subst e y;exact hs i σ _ B p
 ·have e:i=n:=by lia
  subst e;exact .inl ⟨ay _,J σ H p⟩
theorem uT{c:TT}{tb:TS}{σ:St}(P:St->Hp->Prop)(a:St->Hp->Nat)(A:P σ H)
  (hs:∀σ H,P σ H->c σ H fun b H1=>if b=true then tb {D with nx:=fun L H'=>P L H'/\a L H'<a σ H,ct:=fun L H'=>P L H'/\a L H'<a σ H,bk:=D.nx} σ H1 else D.nx σ H1)
  (o:∀σ H Q f,(∀b H1,Q b H1->f b H1)->c σ H Q->c σ H f):Aw c tb D σ H:=by
 refine⟨fun m σ H=>m=a σ H/\P σ H,⟨_,rfl,A⟩,?_⟩;rintro m σ H ⟨rfl,p⟩;refine o σ H _ _ (fun b H1 q=>?_) (hs σ H p);cases b with
 |true=>exact⟨_,fun L H' ⟨k,l⟩=>⟨_,l,rfl,k⟩,q⟩
 |false=>exact q
abbrev R2:=V->V->Hp->VK->Prop
noncomputable def OpR(X:Cx)(f:Value->Value->Sem Value)(r:R2):Prop:=
 ∀(pins:L1) (s:Shared) (σ:St) (H:Hp) (x y:V) (v u:Value) (Q:VK),Inv X pins σ H s->RelV x v->RelV y u->r x y H Q->
  wpAny (model X.prog X.w) X.A (f v u) (EP X pins σ Q) X.xe s
noncomputable def vo(X:Cx)(f:Value->Sem Value)(r:V->Hp->VK->Prop):Prop:=
 ∀(pins:L1) (s:Shared) (σ:St) (H:Hp) (x:V) (v:Value) (Q:VK),Inv X pins σ H s->RelV x v->r x H Q->
  wpAny (model X.prog X.w) X.A (f v) (EP X pins σ Q) X.xe s
noncomputable def jcq(X:Cx)(f:Value)(r:List V->Hp->VK->Prop):Prop:=
 ∀(pins:L1) (s:Shared) (σ:St) (H:Hp) (xs:List V) (us:List Value) (Q:VK),Inv X pins σ H s->Vals xs us->r xs H Q->
  wpAny (model X.prog X.w) X.A (call f us) (EP X pins σ Q) X.xe s
noncomputable def LR(X:Cx)(r:V->Hp->(Bool->Hp->Prop)->Prop):Prop:=
 ∀(pins:L1) (s:Shared) (σ:St) (H:Hp) (x:V) (v:Value) (Q:Bool->Hp->Prop),Inv X pins σ H s->RelV x v->r x H Q->
  wpAny (model X.prog X.w) X.A (truthy v) (TP X pins σ Q) X.xe s
noncomputable def mQ(r:R2)(ta tb:TE):TE:=fun σ H Q=>ta σ H fun x H1=>tb σ H1 fun y H2=>r x y H2 Q
noncomputable def yX(r:V->Hp->VK->Prop)(ta:TE):TE:=fun σ H Q=>ta σ H fun x H1=>r x H1 Q
noncomputable def rI(C:Int->Int->Prop)(g:Int->Int->V):R2:=fun x y H Q=>∃i j,x= .int i/\y= .int j/\C i j/\Q (g i j) H
noncomputable def m9(g:Int->Int->V):R2:=fun x y H Q=>∃i j,x= .int i/\y= .int j/\Q (g i j) H
noncomputable def rU(g:Int->V):V->Hp->VK->Prop:=fun x H Q=>∃i,x= .int i/\Q (g i) H
theorem yQ(J:PE X a ta)(U:PE X b tb){σ:St}{R:V->V->Hp->Prop}(I:Inv X pins σ H s)
  (h:ta σ H fun x H1=>tb σ H1 fun y H2=>R x y H2) {Q:LZ} 
  (B:∀v u s2 x y H2,Inv X pins σ H2 s2->RelV x v->RelV y u->R x y H2->wpAny (model X.prog X.w) X.A (f v u) Q X.xe s2):
  wpAny (model X.prog X.w) X.A (eval a X.env) (fun v c=>wpAny (model X.prog X.w) X.A (eval b X.env) (fun u g=>wpAny (model X.prog X.w) X.A (f v u) Q X.xe g) X.xe c) X.xe s:=by
 refine iI (J pins s σ H _ I h) fun v s1 C=>?_;obtain⟨x,H1,A,r1,N⟩:=C;refine iI (U pins s1 σ H1 _ A N) fun u s2 C=>?_;obtain⟨y,H2,E,P,G⟩:=C;exact B v u s2 x y H2 E r1 P G
theorem iQ{op:Operator}(M:OpR X (binaryOp op) r)(J:PE X a ta)(U:PE X b tb):PE X (.BinOp a op b pos) (mQ r ta tb):=by
 intro pins s σ H Q I h;exact wpAny_BinOp (yQ J U I h fun v u s2 x y H2 E rx B q=>M pins s2 σ H2 x y v u Q E rx B q)
theorem lV{op:UnaryOp}{r:V->Hp->VK->Prop}(M:vo X (unaryOp op) r)(J:PE X a ta):PE X (.UnaryOp op a pos) (yX r ta):=by
 intro pins s σ H Q I h;exact UnaryOp_ (iI (J pins s σ H _ I h) fun v s1 ⟨x,H1,A,r1,N⟩=>M pins s1 σ H1 x v Q A r1 N)
theorem tJ{C:Int->Int->Prop}
  (rule:∀(i j:Int) (t u:Tok) (s:Shared) (Q:LZ) (E:LZ),C i j->Q (.int (g i j) s.toks) {s with toks:=s.toks+1}->wpAny (model X.prog X.w) X.A (f (.int i t) (.int j u)) Q E s):
  OpR X f (rI C fun i j=>.int (g i j)):=by
 intro pins s σ H x y v u Q I rx B h;obtain⟨i,j,rfl,rfl,Y,q⟩:=h;obtain⟨t,rfl⟩:=rx;obtain⟨t',rfl⟩:=B;exact rule i j t t' s _ _ Y ⟨.int (g i j),H,I.tok _,⟨_,rfl⟩,q⟩
theorem vF
  (rule:∀(i j:Int) (t u:Tok) (s:Shared) (Q:LZ) (E:LZ),Q (.int (g i j) s.toks) {s with toks:=s.toks+1}->wpAny (model X.prog X.w) X.A (f (.int i t) (.int j u)) Q E s):
  OpR X f (m9 fun i j=>.int (g i j)):=by
 intro pins s σ H x y v u Q I rx B h;obtain⟨i,j,rfl,rfl,q⟩:=h;obtain⟨t,rfl⟩:=rx;obtain⟨t',rfl⟩:=B;exact rule i j t t' s _ _ ⟨.int (g i j),H,I.tok _,⟨_,rfl⟩,q⟩
theorem tK{g:Int->Int->Bool}
  (rule:∀(i j:Int) (t u:Tok) (s:Shared) (Q:LZ) (E:LZ),Q (.bool (g i j)) s->wpAny (model X.prog X.w) X.A (f (.int i t) (.int j u)) Q E s):
  OpR X f (m9 fun i j=>.bl (g i j)):=by
 intro pins s σ H x y v u Q I rx B h;obtain⟨i,j,rfl,rfl,q⟩:=h;obtain⟨t,rfl⟩:=rx;obtain⟨t',rfl⟩:=B;exact rule i j t t' s _ _ ⟨.bl (g i j),H,I,rfl,q⟩
noncomputable def vx(i j:Int):Prop:=0<j/\j<1073741824
noncomputable def vw(i j:Int):Prop:=0<=j/\j<=1000000/\i.natAbs<2^64
noncomputable def CMul(i j:Int):Prop:=(-(2^64)<i/\i<2^64)\/(-(2^64)<j/\j<2^64)
theorem CMul.ok{i j:Int}(h:CMul i j):IntMulOk i j:=by
 rcases h with⟨h1,h2⟩|⟨h1,h2⟩
 ·exact .of_left (intBits_le_64 h1 h2)
 ·exact .of_right (intBits_le_64 h1 h2)
theorem Fw:OpR X (binaryOp .Add) (m9 fun i j=>.int (i+j)):=vF fun _ _ _ _ _ _ _ q=>add_int q
theorem Fg:OpR X (binaryOp .Sub) (m9 fun i j=>.int (i-j)):=vF fun _ _ _ _ _ _ _ q=>sub_int q
theorem Fk:OpR X (binaryOp .Mult) (rI CMul fun i j=>.int (i*j)):=tJ fun _ _ _ _ _ _ _ Y q=>mul_int q Y.ok
theorem Gp:OpR X (binaryOp .FloorDiv) (rI vx fun i j=>.int (i/j)):=tJ fun i j _ _ _ _ _ Y q=>by
 have h1:(0:Int)<j:=Y.1;have h2:j<1073741824:=Y.2;exact floordiv_int (by lia) (by rw[ip i (by lia)];exact q) (.inl (PyProof.noPylong_small (by lia)))
theorem Fm:OpR X (binaryOp .Mod) (rI (fun _ j=>0<j) fun i j=>.int (i%j)):=tJ fun i j _ _ _ _ _ Y q=>by
 have h1:(0:Int)<j:=Y;exact mod_int' (by lia) (by rw[Int.fmod_eq_emod_of_nonneg i (by lia)];exact q)
theorem Fh:OpR X (binaryOp .Pow) (rI vw fun i j=>.int (i^j.toNat)):=tJ fun _ _ _ _ _ _ _ Y q=>pow_int_small Y.1 Y.2.1 Y.2.2 q
theorem F9:OpR X (inplaceOp .Add) (m9 fun i j=>.int (i+j)):=vF fun _ _ _ _ _ _ _ q=>iadd_int q
theorem unI{f:Value->Sem Value}{g:Int->Int}
  (rule:∀(i:Int) (t:Tok) (s:Shared) (Q:LZ) (E:LZ),Q (.int (g i) s.toks) {s with toks:=s.toks+1}->wpAny (model X.prog X.w) X.A (f (.int i t)) Q E s):
  vo X f (rU fun i=>.int (g i)):=by
 intro pins s σ H x v Q I rx h;obtain⟨i,rfl,q⟩:=h;obtain⟨t,rfl⟩:=rx;exact rule i t s _ _ ⟨.int (g i),H,I.tok _,⟨_,rfl⟩,q⟩
theorem D4:vo X (unaryOp .USub) (rU fun i=>.int (-i)):=unI fun _ _ _ _ _ q=>neg_int q
noncomputable def zj:V->V->Bool
 | .non,.non=>true| .non,.int _=>true| .int _,.non=>true| .non,.bl _=>true| .bl _,.non=>true| .non,.str _=>true| .str _,.non=>true
 | .int _,.int _=>true| .bl _,.bl _=>true| .str _,.str _=>true| .byt _,.byt _=>true
 | .int _,.str _=>true| .str _,.int _=>true| .bl _,.str _=>true| .str _,.bl _=>true
 |_,_=>false
noncomputable def EL:R2:=fun x y H Q=>zj x y=true/\Q (.bl (decide (x=y))) H
noncomputable def EE:R2:=fun x y H Q=>zj x y=true/\Q (.bl (!decide (x=y))) H
theorem AE{i j:Int}:decide (V.int i=V.int j)=(i==j):=by
 rw[df];simp
theorem zF{i j:Bool}:decide (V.bl i=V.bl j)=(i==j):=by
 rw[df];simp
theorem AF{i j:Str}:decide (V.str i=V.str j)=(i==j):=by
 rw[df];simp
theorem AD{i j:Array UInt8}:decide (V.byt i=V.byt j)=(i.toList==j.toList):=by
 rw[df];cases i;cases j;simp
theorem jU{σ:St}{Q:VK}{k d:Bool}(I:Inv X pins σ H s)(q:Q (.bl k) H)(e:k=d):EP X pins σ Q (.bool d) s:=by
 subst e;exact⟨.bl k,H,I,rfl,q⟩
theorem Fu:OpR X (compareOp .Eq) EL:=by
 intro pins s σ H x y v u Q I rx B h;obtain⟨hs,q⟩:=h;cases x with
 |non=>
  cases rx;cases y with
  |non=>cases B;exact PySem.EqNone.eq_none_none (jU I q (by simp))
  |bl j=>cases B;exact PySem.EqNone.eq_none_bool (jU I q (by simp))
  |int j=>obtain⟨t',rfl⟩:=B;exact PySem.EqNone.eq_none_int (jU I q (by simp))
  |str j=>obtain⟨t',rfl⟩:=B;exact PySem.EqNone.eq_none_str (jU I q (by simp))
  |_=>exact absurd (show false=true from hs) bo
 |bl i=>
  cases rx;cases y with
  |non=>cases B;exact PySem.EqNone.eq_bool_none (jU I q (by simp))
  |bl j=>cases B;exact eq_bool (jU I q zF)
  |str j=>obtain⟨t',rfl⟩:=B;exact PySem.EqMixed.eq_bool_str (jU I q (by simp))
  |_=>exact absurd (show false=true from hs) bo
 |int i=>
  obtain⟨t,rfl⟩:=rx;cases y with
  |non=>cases B;exact PySem.EqNone.eq_int_none (jU I q (by simp))
  |int j=>obtain⟨t',rfl⟩:=B;exact eq_int (jU I q AE)
  |str j=>obtain⟨t',rfl⟩:=B;exact PySem.EqMixed.eq_int_str (jU I q (by simp))
  |_=>exact absurd (show false=true from hs) bo
 |str i=>
  obtain⟨t,rfl⟩:=rx;cases y with
  |non=>cases B;exact PySem.EqNone.eq_str_none (jU I q (by simp))
  |bl j=>cases B;exact PySem.EqMixed.eq_str_bool (jU I q (by simp))
  |int j=>obtain⟨t',rfl⟩:=B;exact PySem.EqMixed.eq_str_int (jU I q (by simp))
  |str j=>obtain⟨t',rfl⟩:=B;exact eq_str (jU I q AF)
  |_=>exact absurd (show false=true from hs) bo
 |byt i=>
  obtain⟨t,rfl⟩:=rx;cases y with
  |byt j=>obtain⟨t',rfl⟩:=B;exact PySem.W.eq_bytes (jU I q AD)
  |_=>exact absurd (show false=true from hs) bo
 |_=>cases y<;>exact absurd (show false=true from hs) bo
theorem Fj:OpR X (compareOp .NotEq) EE:=by
 intro pins s σ H x y v u Q I rx B h;obtain⟨hs,q⟩:=h;cases x with
 |non=>
  cases rx;cases y with
  |non=>cases B;exact PySem.EqNone.ne_none_none (jU I q (by simp))
  |bl j=>cases B;exact PySem.EqNone.ne_none_bool (jU I q (by simp))
  |int j=>obtain⟨t',rfl⟩:=B;exact PySem.EqNone.ne_none_int (jU I q (by simp))
  |str j=>obtain⟨t',rfl⟩:=B;exact PySem.EqNone.ne_none_str (jU I q (by simp))
  |_=>exact absurd (show false=true from hs) bo
 |bl i=>
  cases rx;cases y with
  |non=>cases B;exact PySem.EqNone.ne_bool_none (jU I q (by simp))
  |bl j=>cases B;exact ne_bool (jU I q (cA not zF))
  |str j=>obtain⟨t',rfl⟩:=B;exact PySem.EqMixed.ne_bool_str (jU I q (by simp))
  |_=>exact absurd (show false=true from hs) bo
 |int i=>
  obtain⟨t,rfl⟩:=rx;cases y with
  |non=>cases B;exact PySem.EqNone.ne_int_none (jU I q (by simp))
  |int j=>obtain⟨t',rfl⟩:=B;exact ne_int (jU I q (cA not AE))
  |str j=>obtain⟨t',rfl⟩:=B;exact PySem.EqMixed.ne_int_str (jU I q (by simp))
  |_=>exact absurd (show false=true from hs) bo
 |str i=>
  obtain⟨t,rfl⟩:=rx;cases y with
  |non=>cases B;exact PySem.EqNone.ne_str_none (jU I q (by simp))
  |bl j=>cases B;exact PySem.EqMixed.ne_str_bool (jU I q (by simp))
  |int j=>obtain⟨t',rfl⟩:=B;exact PySem.EqMixed.ne_str_int (jU I q (by simp))
  |str j=>obtain⟨t',rfl⟩:=B;exact ne_str (jU I q (cA not AF))
  |_=>exact absurd (show false=true from hs) bo
 |byt i=>
  obtain⟨t,rfl⟩:=rx;cases y with
  |byt j=>obtain⟨t',rfl⟩:=B;exact PySem.W.ne_bytes (jU I q (cA not AD))
  |_=>exact absurd (show false=true from hs) bo
 |_=>cases y<;>exact absurd (show false=true from hs) bo
theorem Fo:OpR X (compareOp .Lt) (m9 fun i j=>.bl (decide (i<j))):=tK fun _ _ _ _ _ _ _ q=>lt_int q
theorem Fp:OpR X (compareOp .LtE) (m9 fun i j=>.bl (decide (i<=j))):=tK fun _ _ _ _ _ _ _ q=>le_int q
theorem Fs:OpR X (compareOp .Gt) (m9 fun i j=>.bl (decide (j<i))):=tK fun _ _ _ _ _ _ _ q=>gt_int q
theorem Ft:OpR X (compareOp .GtE) (m9 fun i j=>.bl (decide (j<=i))):=tK fun _ _ _ _ _ _ _ q=>ge_int q
theorem Gq:OpR X (compareOp .IsNot) (fun x y H Q=>y= .non/\Q (.bl (!decide (x= .non))) H):=by
 intro pins s σ H x y v u Q I rx B h;obtain⟨rfl,q⟩:=h;cases B;refine isnot_none_gen (jU I q ?_);cases x<;>first
  |(cases rx;rfl)
  |(obtain⟨t,rfl⟩:=rx;rfl)
theorem ja(b:Expr)(h:op≠ .In:=by decide)(h2:op≠ .NotIn:=by decide):behindInMarks op b=false:=by
 have e1:(op==CmpOp.In)=false:=by cases op<;>first|rfl|exact absurd rfl h
 have e2:(op==CmpOp.NotIn)=false:=by cases op<;>first|rfl|exact absurd rfl h2
 cases b<;>simp[behindInMarks,e1,e2]
theorem mf(M:OpR X (compareOp op) r)(J:PE X a ta)(U:PE X b tb)(K:behindInMarks op b=false):PE X (.Compare a [op] [b] pos) (mQ r ta tb):=by
 intro pins s σ H Q I h;exact wpAny_Compare1 (yQ J U I h fun v u s2 x y H2 E rx B q=>M pins s2 σ H2 x y v u Q E rx B q) K
noncomputable def DT(K:L3)(x:V)(H:Hp)(k:Bool):Prop:=
 match x with
 | .non=>k=false
 | .bl b=>k=b
 | .int i=>k=(i !=0)
 | .str y=>y.length<=sizeLine/\k=((y.length:Int) !=0)
 | .byt y=>y.size<=sizeLine/\k=((y.size:Int) !=0)
 | .ref p=>(∃xs,SqL K H p xs/\k= !xs.isEmpty)\/(∃xs,SqT K H p xs/\k= !xs.isEmpty)\/∃kvs,H p=some (.dK kvs)/\k= !kvs.isEmpty
 |_=>False
theorem Jw{κ:Type}{kvs:List (κ×V)}{vs:List (κ×Value)}(r:KV kvs vs):(!vs.isEmpty)= !kvs.isEmpty:=by
 cases r<;>rfl
theorem CS(r:Vals xs its):(!its.toArray.isEmpty)= !xs.isEmpty:=by
 cases r<;>simp
theorem qH:(sizeLine:Nat)<2^63:=by rw[gZ];decide
theorem D7:LR X (fun x H Q=>∃k,DT X.K x H k/\Q k H):=by
 intro pins s σ H x v Q I rx h;obtain⟨k,e,q⟩:=h;have Z:=qH;have hs:sizeLine=16777216:=gZ;cases x with
 |non=>
  cases rx;have T:k=false:=e;subst T;exact truthy_none ⟨H,I,q⟩
 |bl b=>
  cases rx;have T:k=b:=e;subst T;exact cj ⟨H,I,q⟩
 |int i=>
  obtain⟨t,rfl⟩:=rx;have T:k=(i !=0):=e;subst T;exact PySem.P.truthy_int ⟨H,I,q⟩
 |str y=>
  obtain⟨t,rfl⟩:=rx;obtain⟨O,T⟩:y.length<=sizeLine/\k=((y.length:Int) !=0):=e;subst T;exact PySem.P.truthy_str (by lia) ⟨H,I.tok _,q⟩
 |byt y=>
  obtain⟨t,rfl⟩:=rx;obtain⟨O,T⟩:y.size<=sizeLine/\k=((y.size:Int) !=0):=e;subst T;exact PySem.W.truthy_bytes (by lia) ⟨H,I.tok _,q⟩
 | ref p=>
  cases rx;have T:(∃xs,SqL X.K H p xs/\k= !xs.isEmpty)\/(∃xs,SqT X.K H p xs/\k= !xs.isEmpty)\/∃kvs,H p=some (.dK kvs)/\k= !kvs.isEmpty:=e;rcases T with⟨xs,G,T⟩|⟨xs,G,T⟩|⟨kvs,G,T⟩
  ·subst T;obtain⟨its,r,pl,L⟩:=I.list G;have g:=r.length;exact wpAny_truthy_list pl.isList (by simp only[aF];lia) ⟨H,I.tok _,by rw[CS r];exact q⟩
  ·subst T;obtain⟨its,r,pl,L⟩:=I.tuple G;have g:=r.length;exact truthy_tuple pl (by simp only[aF];lia) ⟨H,I.tok _,by rw[CS r];exact q⟩
  ·subst T;obtain⟨L,K,vs,r,m⟩:kvs.length<=sizeLine/\(p==sysModules)=false/\∃vs,KV kvs vs/\s.heap.DictOf (kg X.prog X.w) p vs:=I.hok p _ G;have g:kvs.length=vs.length:=aq r;exact wpAny_truthy_dict K m (by lia) ⟨H,I.tok _,by rw[Jw r];exact q⟩
 |_=>exact(show False from e).elim
theorem HN (J:PE X a ta) (R:∀ w,isTrue a X.env w = (do let v <- w; standAt a.pos; holding [v] (truthy v))) :
  PT X a (fun σ H Q=>ta σ H fun x H'=>∃k,DT X.K x H' k/\Q k H'):=by
 intro pins s σ H Q I h;exact isTrue_plain (iI (J pins s σ H _ I h) fun v s1 ⟨x,H1,A,r1,N⟩=>D7 pins s1 σ H1 x v Q A r1 N) (R _)
theorem pJ{x:V}(r:Vals [x] us):∃u,us=[u]/\RelV x u:=by
 cases r with
 |cons r1 P=>cases P;exact⟨_,rfl,r1⟩
theorem vals2{x y:V}(r:Vals [x,y] us):∃u t,us=[u,t]/\RelV x u/\RelV y t:=by
 cases r with
 |cons r1 P=>
  cases P with
  |cons B D=>cases D;exact⟨_,_,rfl,r1,B⟩
theorem Ig(Y:X.calm=true):jcq X (.builtin "max") (fun xs H Q=>∃i j,xs=[.int i,.int j]/\Q (.int (if j>i then j else i)) H):=by
 intro pins s σ H xs us Q I r h;obtain⟨i,j,rfl,q⟩:=h;obtain⟨u,w,rfl,⟨t,rfl⟩,⟨t',rfl⟩⟩:=vals2 r;refine max_two_ints (I.ok.hd Y) fun h' tk k=>⟨_,H,I.kept k,?_,q⟩;by_cases W:j>i
 ·rw[aI W,aI W];exact⟨_,rfl⟩
 ·rw[aG W,aG W];exact⟨_,rfl⟩
theorem Ii(Y:X.calm=true):jcq X (.builtin "min") (fun xs H Q=>∃i j,xs=[.int i,.int j]/\Q (.int (if j<i then j else i)) H):=by
 intro pins s σ H xs us Q I r h;obtain⟨i,j,rfl,q⟩:=h;obtain⟨u,w,rfl,⟨t,rfl⟩,⟨t',rfl⟩⟩:=vals2 r;refine min_two_ints (I.ok.hd Y) fun h' tk k=>⟨_,H,I.kept k,?_,q⟩;by_cases W:j<i
 ·rw[aI W,aI W];exact⟨_,rfl⟩
 ·rw[aG W,aG W];exact⟨_,rfl⟩
structure ObjM(h:Heap)(x dx C:Addr)(mA:L4):Prop where
 obj:h.get? x=some (PySem.W.instObj C dx)
 ns:h.Ns1 dx mA
 ne:dx≠x
theorem IF{h:Heap}{dx:Addr}{mA:L4}(n:h.Ns1 dx mA):∃od,h.get? dx=some od/\∀name,PySem.W.lookIn name od=some (mA name):=by
 obtain⟨o,es,Y,M,J,F,_,K⟩:=n;refine⟨o,M,fun name=>?_⟩;have e:=K name;unfold nsFind findBy at e;rw [<- Array.find?_toList] at e;unfold PySem.W.lookIn;rw[J];dsimp only;split
 ·rename_i y q;rw[q]at e;exact cA some e
 ·rename_i q;rw[q]at e;have a:es.toList.any (·.refKey)=false:=by
   rw[List.any_eq_false];intro y O;obtain⟨z,t,Q⟩:=F y (Array.mem_toList_iff.mp O);simp[DictEntry.refKey,Q]
  have C:¬es.toList.any (·.refKey)=true:=by rw[a];exact bo
  rw[aG C];exact cA some e
theorem ObjM.look{h:Heap}{x dx C:Addr}{mA:L4}(I:ObjM h x dx C mA):∃od,PySem.W.InstAt h x (PySem.W.instObj C dx) C (some od)/\∀name,PySem.W.lookIn name od=some (mA name):=
 let⟨od,M,Z⟩:=IF I.ns
 ⟨od,⟨I.obj,rfl,rfl,M⟩,Z⟩
end
section
variable{prog P:Program}{w:World}{A:Around}{E Q:LZ}{s:Shared}{K:L3}{x dx C f a:Addr}{mA:L4}{name:Str}{v u:Value}{H H':Hp}{h h':Heap}{fs fs':List (Str×V)}{o:Option Value}
theorem F6{e:Bool}(X:K.In s.heap)(I:ObjM s.heap x dx C mA)(y:PySem.W.plainGet K C name=true)(j:PySem.W.hasDictIn K C=true)
  (g:PySem.W.findIn K (.ref C) name=some none) (Y:mA name=some v) (B:PySem.W.handedIn v=true) (h:Q v {s with toks:=s.toks+1}):
  wpAny (model prog w) A (getAttr (.ref x) name e) Q E s:=by
 obtain⟨od,J,Z⟩:=I.look;exact PySem.W.get_value X J (gv y).1 (PySem.W.findObj_own j g rfl (by rw[Z,Y])) B h
theorem G8{pl:Sem Bool}{Q:Value×List Value->Shared->Prop}(X:K.In s.heap)(I:ObjM s.heap x dx C mA)(y:PySem.W.plainGet K C name=true)
  (B:PySem.W.findIn K (.ref C) name=some (some (.ref f))) (S:PySem.W.isFn K (.ref f)=true) (Y:mA name=none) (h:Q (.ref f,[.ref x]) s):
  wpAny (model prog w) A (getMethod (.ref x) name pl) Q E s:=by
 obtain⟨od,J,Z⟩:=I.look;exact PySem.W.method_fn X J (gv y).1 (gv y).2 B (gD.mp S) (by show(PySem.W.lookIn name od).map (·.isSome)=some false;rw[Z,Y];rfl) h
theorem GI{ns:List Str}{Q:Unit->Shared->Prop}(X:K.In s.heap)(I:ObjM s.heap x dx C mA)
  (hs:PySem.W.findIn K (.ref C) "__setattr__"=some (some (.builtin "object.__setattr__"))) (O:PySem.W.plainOver K C=true) (S:PySem.W.takerIn K C name=some none) (j:PySem.W.hasDictIn K C=true)
  (V:PySem.Within mA ns) (hsz:ns.length<=sizeLine)
  (h:∀h',ObjM h' x dx C (fun y=>if y=name then some v else mA y)->Heap.SameBut dx s.heap h'->Q () {s with heap:=h',toks:=s.toks+2}):
  wpAny (model prog w) A (setAttr (.ref x) name v) Q E s:=by
 obtain⟨od,J,Z⟩:=I.look;refine PySem.W.set_plain X J hs (PySem.W.osa_open (s:={s with toks:=s.toks+1}) (r:=none) X J O S fun b=>?_);obtain⟨cd,Y,n⟩:=PySem.W.any_some j;have G:s.heap.get? x=some ⟨.ref C,some dx,.plain,#[]⟩:=I.obj;refine ae (aM (ae (ae (wpAny_loadPart G (ae (PySem.W.Looks.here (s:={s with toks:=s.toks+1}) (PySem.W.looks_clsIn X Y) ?_))))));rw[n];refine aM (a:=some dx) (ae (aM (ae ?_)));refine wpAny_nsSet1 (s:={s with toks:=s.toks+1}) I.ns fun h' L T=>?_;obtain⟨o,f,e,d,c,D⟩:=L.count (PySem.Within.cons name v V);refine ae (wpAny_lookBehind d (by rw[c];exact pastItsLine_dict (bw D (by rw[List.length_cons];lia))) ?_);exact aM (h _ ⟨(T.2 _ (c7 I.ne)).trans I.obj,L,I.ne⟩ T)
theorem Hj{R:Result->Shared->Prop}{vs:List Value}{kw:L5}(X:K.In s.heap)(G:PySem.W.makesIn K C=true)
  (hi:PySem.W.findIn K (.ref C) "__init__"=some (some (.ref f))) (B:PySem.W.typeIn K (.ref f)=some (.type "function"))
  (h:codeAny (model prog w) (A.under (.builtin "type.__call__" ⟨.ref C::vs,kw⟩)) (.call (.ref f) ⟨.ref (s.heap.objs.size+1)::vs,kw⟩) (PySem.W.InitBack (s.heap.objs.size+1) R)
   {s with heap:=(s.heap.push PySem.W.emptyDict).push (PySem.W.instObj C s.heap.objs.size)}):
  codeAny (model prog w) A (.call (.ref C) ⟨vs,kw⟩) R s:=by
 obtain⟨j,g,d,t,os⟩:=s;exact PySem.W.make_core (PySem.W.makes_of X G) (PySem.W.looks_findIn X hi) (fun a=>PySem.W.bind_fn X a B) (.inl rfl) h
noncomputable def jw(f:Str)(v:V):List (Str×V)->List (Str×V)
 |[]=>[(f,v)]
 |(g,x)::r=>if g=f then(g,v)::r else(g,x)::jw f v r
theorem De(f g:Str)(v:V):∀fs:List (Str×V),(jw f v fs).lookup g=if g=f then some v else fs.lookup g
 | []=>by
  show List.lookup g [(f,v)]=_;by_cases h:g=f
  ·have U:(g==f)=true:=gD.mpr h;simp only[List.lookup,U,aI h]
  ·have U:(g==f)=false:=cE.mpr h;simp only[List.lookup,U,aG h]
 | (k,x)::r=>by
  have E:=De f g v r;rw[show jw f v ((k,x)::r)=(if k=f then(k,v)::r else(k,x)::jw f v r)from rfl];by_cases F:k=f
  ·rw[aI F];by_cases h:g=k
   ·have U:(g==k)=true:=gD.mpr h;simp only[List.lookup,U,aI (h.trans F)]
   ·have U:(g==k)=false:=cE.mpr h;simp only[List.lookup,U,aG (fun e:g=f=>h (e.trans F.symm))]
  ·rw[aG F];by_cases h:g=k
   ·have U:(g==k)=true:=gD.mpr h;simp only[List.lookup,U,aG (fun e:g=f=>F (h.symm.trans e))]
   ·have U:(g==k)=false:=cE.mpr h;simp only[List.lookup,U];exact E
theorem yb(f:Str)(v:V):∀fs:List (Str×V),f∈(jw f v fs).map (·.1)/\∀g,g∈fs.map (·.1)->g∈(jw f v fs).map (·.1)
 |[]=>⟨by simp[jw],fun g h=>by simp at h⟩
 | (k,x)::r=>by
  obtain⟨m,N⟩:=yb f v r;rw[show jw f v ((k,x)::r)=(if k=f then(k,v)::r else(k,x)::jw f v r)from rfl];by_cases F:k=f
  ·rw[aI F];subst F;exact⟨by simp,fun g h=>by simpa using h⟩
  ·rw[aG F];refine⟨?_,fun g h=>?_⟩
   ·rw[ai];exact au _ m
   ·rw[ai]at h ⊢;rcases aV.mp h with e|e
    ·exact aV.mpr (.inl e)
    ·exact au _ (N g e)
theorem Dd(f:Str)(v:V):∀fs:List (Str×V),(jw f v fs).length<=fs.length+1
 |[]=>by simp[jw]
 |(k,x)::r=>by
  have E:=Dd f v r;rw[show jw f v ((k,x)::r)=(if k=f then(k,v)::r else(k,x)::jw f v r)from rfl];by_cases F:k=f
  ·rw[aI F,List.length_cons,List.length_cons];lia
  ·rw[aG F,List.length_cons,List.length_cons];lia
theorem RelO.some_of{v:V}(r:RelO (some v) o):∃u,o=some u/\RelV v u:=by
 cases o with
 |none=>exact(show False from r).elim
 |some u=>exact⟨u,rfl,r⟩
theorem RelO.none_of(r:RelO none o):o=none:=by
 cases o with
 |none=>rfl
 |some u=>exact(show False from r).elim
theorem Ir{v:V}(r:RelV v u):PySem.W.handedIn u=true:=by
 cases v with
 |non=>cases(show u=Value.none from r);rfl
 |bl b=>cases(show u=Value.bool b from r);rfl
 |int i=>obtain⟨t,e⟩:=(show ∃t,u=Value.int i t from r);cases e;rfl
 |str x=>obtain⟨t,e⟩:=(show ∃t,u=Value.str x t from r);cases e;rfl
 |byt b=>obtain⟨t,e⟩:=(show ∃t,u=Value.bytes b t from r);cases e;rfl
 |flt b=>obtain⟨t,e⟩:=(show ∃t,u=Value.float b t from r);cases e;rfl
 |ref a=>cases(show u=Value.ref a from r);rfl
 |ty n=>cases(show u=Value.type n from r);rfl
theorem uq(A:HOk P w H h)(e:H a=some (.ins C dx fs)):∃mA,ObjM h a dx C mA/\(∀f,RelO (fs.lookup f) (mA f))/\PySem.Within mA (fs.map (·.1))/\fs.length<=1000/\H dx=some (.own a):=by
 obtain⟨d,z,D,l,mA,n,r,q⟩:=(show jc2 P w H h a (.ins C dx fs)from A a _ e);exact⟨mA,⟨l,n,D⟩,r,q,z,d⟩
end
structure Cls(K:L3)(C:Addr):Prop where
 pg:PySem.W.plainGet K C Str.empty=true
 hd:PySem.W.hasDictIn K C=true
 po:PySem.W.plainOver K C=true
 sa:PySem.W.findIn K (.ref C) "__setattr__"=some (some (.builtin "object.__setattr__"))
theorem Cls.get{K:L3}{C:Addr}(c:Cls K C)(f:Str):PySem.W.plainGet K C f=true:=c.pg
noncomputable def jfb(K:L3)(C:Addr)(f:Str):Prop:=PySem.W.findIn K (.ref C) f=some none
theorem jfb.taker{K:L3}{C:Addr}{f:Str}(n:jfb K C f):PySem.W.takerIn K C f=some none:=by
 unfold PySem.W.takerIn;rw[show PySem.W.findIn K (.ref C) f=some none from n];rfl
structure Meth(K:L3)(C:Addr)(m:Str)(f:Addr):Prop where
 at_:PySem.W.findIn K (.ref C) m=some (some (.ref f))
 fn:PySem.W.isFn K (.ref f)=true
 kp:PySem.W.keepIn K (.ref f)=true
section
variable{X:Cx}{pins:L1}{σ:St}{H:Hp}{s:Shared}{a C dx g:Addr}{fs:List (Str×V)}{f m:Str}{v y:V}{A:Around}{E Q:LZ}{o e value:Expr}{pos pos' tpos:Pos}{ta tv:TE}
theorem Ju{b:Bool}(I:Inv X pins σ H s)(e:H a=some (.ins C dx fs))(c:Cls X.K C)(n:jfb X.K C f)(l:fs.lookup f=some v)
  (h:∀u s',Inv X pins σ H s'->RelV v u->Q u s'):wpAny (model X.prog X.w) A (getAttr (.ref a) f b) Q E s:=by
 obtain⟨mA,O,r,_,_,_⟩:=uq I.hok e;obtain ⟨u,F,D⟩:=RelO.some_of (v:=v) (o:=mA f) (by rw [<- l]; exact r f);exact F6 I.kIn O (c.get f) c.hd n F (Ir D) (h u _ (I.tok _) D)
theorem CQ{pl:Sem Bool}{Q:Value×List Value->Shared->Prop}(I:Inv X pins σ H s)(e:H a=some (.ins C dx fs))(c:Cls X.K C)(k:Meth X.K C m g)(l:fs.lookup m=none)
  (h:Q (.ref g,[.ref a]) s):wpAny (model X.prog X.w) A (getMethod (.ref a) m pl) Q E s:=by
 obtain⟨mA,O,r,_,_,_⟩:=uq I.hok e;have S:mA m = none:=RelO.none_of (by rw [<- l]; exact r m);exact G8 I.kIn O (c.get m) k.at_ k.fn S h
theorem JP{u:Value}{Q:Unit->Shared->Prop}(I:Inv X pins σ H s)(e:H a=some (.ins C dx fs))(c:Cls X.K C)(n:jfb X.K C f)(Z:fs.length<1000)(B:RelV y u)
  (h:∀s',Inv X pins σ (upd H a (.ins C dx (jw f y fs))) s'->Q () s'):wpAny (model X.prog X.w) A (setAttr (.ref a) f u) Q E s:=by
 obtain⟨mA,O,r,F,_,M⟩:=uq I.hok e;have L:(fs.map (·.1)).length<=sizeLine:=by rw[aa,gZ];lia
 refine GI I.kIn O c.sa c.po n.taker c.hd F L fun h' d j=>h _ ?_;have J:∃o,h'.get? dx=some o:=let⟨o,_,_,T,_⟩:=d.ns;⟨o,T⟩
 refine I.write (x:=a) (e:=dx) (by rw[e];exact True.intro) (.inr M) (fun b q U z=>(j.2 b U).trans z) J ?_;refine⟨by rw[iC O.ne];exact M,?_,O.ne,d.obj,_,d.ns,fun g=>?_,fun g G=>?_⟩
 ·have:=Dd f y fs;lia
 ·show RelO ((jw f y fs).lookup g) (if g=f then some u else mA g);rw[De];by_cases q:g=f
  ·rw[aI q,aI q];exact B
  ·rw[aG q,aG q];exact r g
 ·by_cases q:g=f
  ·rw[q];exact(yb f y fs).1
  ·refine(yb f y fs).2 g (F g fun z=>G ?_);show(if g=f then some u else mA g)=none;rw[aG q];exact z
theorem Inv.made(I:Inv X pins σ H s):Inv X pins σ (upd (upd H s.heap.objs.size (.own (s.heap.objs.size+1))) (s.heap.objs.size+1) (.ins C s.heap.objs.size []))
  {s with heap:=(s.heap.push PySem.W.emptyDict).push (PySem.W.instObj C s.heap.objs.size)}:=by
 have e1:(s.heap.push PySem.W.emptyDict).get? s.heap.objs.size=some PySem.W.emptyDict:=aW s.heap rfl;have e2:((s.heap.push PySem.W.emptyDict).push (PySem.W.instObj C s.heap.objs.size)).get? (s.heap.objs.size+1)=some (PySem.W.instObj C s.heap.objs.size):=by
  have:=aW (s.heap.push PySem.W.emptyDict) (o:=PySem.W.instObj C s.heap.objs.size) rfl;rwa[dR]at this
 have e3:(s.heap.push PySem.W.emptyDict).Ns s.heap.objs.size (fun _=>none):=⟨PySem.W.emptyDict,#[],_,e1,rfl,(fun e R=>absurd R (by simp)),fun _=>rfl⟩;have A:=I.laid (a:=s.heap.objs.size) (o:=.own (s.heap.objs.size+1)) (h':=s.heap.push PySem.W.emptyDict) (t':=s.toks) (fun b u q=>ag _ q) (ay _) ⟨_,e1⟩;refine A.laid (a:=s.heap.objs.size+1) (o:=.ins C s.heap.objs.size []) (t':=s.toks) (fun b u q=>ag _ q) (Nat.le_of_eq (dR _ _)) ?_;have D:s.heap.objs.size≠s.heap.objs.size+1:=bu (fO _);refine⟨by rw[iC D,ir],bS _,D,e2,fun _=>none,(Heap.Ns1.of_empty e3).at fun o q=>ag _ q,fun _=>True.intro,fun y O=>absurd rfl O⟩
theorem FV{prog:Program}{w:World}{env:Env}(U:attributeBase e f env (eval e env)=eval e env)
  (h:wpAny (model prog w) A (eval e env) (fun o B=>wpAny (model prog w) A (getAttr o f true) Q E B) E s):wpAny (model prog w) A (eval (.Attribute e f pos) env) Q E s:=
 Attribute_any_ h (by rw[arm_eval_Attribute,U])
end
section
variable{X:Cx}{pins:L1}{σ:St}{H:Hp}{s:Shared}{A:Around}{E:LZ}{Q:LZ}{c:Value}{b:Bool}
inductive TyOf(K:L3)(H:Hp):V->Value->Prop where
 |non:TyOf K H .non (.type "NoneType")
 |bl (x:Bool):TyOf K H (.bl x) (.type "bool")
 |int (i:Int):TyOf K H (.int i) (.type "int")
 |str (x:Str):TyOf K H (.str x) (.type "str")
 |flt (x:UInt64):TyOf K H (.flt x) (.type "float")
 |lst {a:Addr} {xs:List V} (e:H a=some (.lst xs)):TyOf K H (.ref a) (.type "list")
 |frz {a:Addr} {o:Obj} {xs:List V} (e:H a=some (.frz o (.lst xs))):TyOf K H (.ref a) (.type "list")
 |tup {a:Addr} {xs:List V} (e:H a=some (.tup xs)):TyOf K H (.ref a) (.type "tuple")
 |dK {a:Addr} {kvs:List (iw×V)} (e:H a=some (.dK kvs)):TyOf K H (.ref a) (.type "dict")
 |dT {a:Addr} {kvs:List (List iw×V)} (e:H a=some (.dT kvs)):TyOf K H (.ref a) (.type "dict")
 | ins {a C dx:Addr} {fs:List (Str×V)} (e:H a=some (.ins C dx fs)) (cl:Cls K C) (ha:PySem.W.findIn K (.ref C) "__class__"=some (some (.builtin "object.__class__")))
   (hn:PySem.W.specialIn K (.builtin "object.__class__") "__get__"=some (some (.builtin "getset_descriptor.__get__"))) (htk:PySem.W.takesIn K (.builtin "object.__class__")=some true)
   (hm:PySem.W.mroIn K C (.type "object")=some true):TyOf K H (.ref a) (.ref C)
theorem IA{x:V}{u t:Value}(I:Inv X pins σ H s)(rx:RelV x u)(ty:TyOf X.K H x t)(e:PySem.W.kitOne X.K t c=some b)(h:∀tk,Q (.bool b) {s with toks:=tk}):
  wpAny (model X.prog X.w) A (call (.builtin "isinstance") [u,c]) Q E s:=by
 cases ty with
 |non=>cases(show u=Value.none from rx);exact cJ PySem.W.kitx_none I.kIn True.intro e (fun z=>nomatch z) h
 |bl y=>cases(show u=Value.bool y from rx);exact cJ PySem.W.kitx_bool I.kIn True.intro e (fun z=>nomatch z) h
 |int i=>obtain⟨t,q⟩:=(show ∃t,u=Value.int i t from rx);cases q;exact cJ PySem.W.kitx_int I.kIn True.intro e (fun z=>nomatch z) h
 |str y=>obtain⟨t,q⟩:=(show ∃t,u=Value.str y t from rx);cases q;exact cJ PySem.W.kitx_str I.kIn True.intro e (fun z=>nomatch z) h
 |flt y=>obtain⟨t,q⟩:=(show ∃t,u=Value.float y t from rx);cases q;exact cJ PySem.W.kitx_float I.kIn True.intro e (fun z=>nomatch z) h
 | @lst a xs T=>
  cases(show u=Value.ref a from rx);obtain⟨_,_,n,_,h1⟩:=(show jc2 X.prog X.w H s.heap a (.lst xs)from I.hok a _ T);exact cJ PySem.W.kitx_list I.kIn ⟨_,h1,rfl⟩ e (fun z=>nomatch z) h
 | @frz a l xs T=>
  cases(show u=Value.ref a from rx);obtain⟨_,_,_,n,_,h1⟩:=(show jc2 X.prog X.w H s.heap a (.frz l (.lst xs))from I.hok a _ T);exact cJ PySem.W.kitx_list I.kIn ⟨_,h1,rfl⟩ e (fun z=>nomatch z) h
 | @tup a xs T=>
  cases(show u=Value.ref a from rx);obtain⟨_,_,_,p⟩:=(show jc2 X.prog X.w H s.heap a (.tup xs)from I.hok a _ T);obtain⟨o,h1,h2,_⟩:=p;exact cJ PySem.W.kitx_tuple I.kIn ⟨o,h1,h2⟩ e (fun z=>nomatch z) h
 | @dK a kvs T=>
  cases(show u=Value.ref a from rx);obtain⟨_,_,vs,_,p⟩:=(show jc2 X.prog X.w H s.heap a (.dK kvs)from I.hok a _ T);obtain⟨o,es,Y,h1,h2,_⟩:=p;exact cJ PySem.W.kitx_dict I.kIn ⟨o,h1,h2.1⟩ e (fun z=>nomatch z) h
 | @dT a kvs T=>
  cases(show u=Value.ref a from rx);obtain⟨_,_,xs,_,o,es,Y,h1,h2,_⟩:=(show jc2 X.prog X.w H s.heap a (.dT kvs)from I.hok a _ T);exact cJ PySem.W.kitx_dict I.kIn ⟨o,h1,h2.1⟩ e (fun z=>nomatch z) h
 | @ins a C dx fs T cl g S k K=>
  cases(show u=Value.ref a from rx);obtain⟨mA,O,_⟩:=uq I.hok T;obtain⟨od,J,_⟩:=O.look;exact cJ (PySem.W.kitx_own (cl.get _) cl.hd g S k K) I.kIn J e (fun z=>nomatch z) h
end
section
variable{kw:L5}{us:List Value}{C:Addr}
structure Room(k:Nat)(A:Around):Prop where
 hd:A.handled=none
 dp:A.depth+3*k+5<recursionLimit
 un:A.units+16*k+200<cLine
 gd:A.guards=some []
theorem Room.mono{j k:Nat}{A:Around}(r:Room k A)(h:j<=k):Room j A:=⟨r.hd,by have:=r.dp;lia,by have:=r.un;lia,by first|exact r.gd|(simp only[Around.deeper,Around.in1,Around.under];exact r.gd)⟩
theorem Room.deeper{k:Nat}{A:Around}(r:Room (k+1) A)(env:Env):Room k (A.deeper env):=
 ⟨r.hd,by have:=r.dp;show A.depth+1+3*k+5<_;lia,by have:=r.un;show A.units+3+16*k+200<_;lia,by first|exact r.gd|(simp only[Around.deeper,Around.in1,Around.under];exact r.gd)⟩
theorem Jx{A:Around}:(A.under (.builtin "type.__call__" ⟨.ref C::us,kw⟩)).depth=A.depth+1:=by
 first|rfl|simp[Around.under,Code.weight,Code.isCreation,Code.isGuard,Code.isCaller,Code.frames,Code.isFrame,guardIds]
theorem Jy{A:Around}:(A.under (.builtin "type.__call__" ⟨.ref C::us,kw⟩)).units=A.units+1:=by
 first|rfl|simp[Around.under,Code.cUnits,Code.frames,Code.isFrame]
theorem Room.make{k:Nat}{A:Around}(r:Room (k+1) A)(C:Addr)(us:List Value)(kw:L5):Room k (A.under (.builtin "type.__call__" ⟨.ref C::us,kw⟩)):=
 ⟨r.hd,by have:=r.dp;rw[Jx];lia,by have:=r.un;rw[Jy];lia,by first|exact r.gd|(simp only[Around.deeper,Around.in1,Around.under];exact r.gd)⟩
theorem Room.depth{k:Nat}{A:Around}(r:Room k A):A.depth<recursionLimit:=by have:=r.dp;lia
theorem Room.units{k:Nat}{A:Around}(r:Room k A):A.units+64<cLine:=by have:=r.un;lia
noncomputable def lH:TA:=fun _ H Q=>Q [] H
noncomputable def k8(ta:TE)(tr:TA):TA:=fun σ H Q=>ta σ H fun x H1=>tr σ H1 fun xs H2=>Q (x::xs) H2
end
section
variable{X:Cx}{e:Expr}{es:List Expr}{te:TE}{t:TA}{pos:Pos}
theorem kF:PA X [] lH:=fun _ _ _ _ H Q I h=>gS ⟨[],H,I,.nil,h⟩
theorem jH(J:PE X e te)(M:PA X es t)(hs:starEach (e::es) X.env=(false,eval e X.env)::starEach es X.env:=by rfl):PA X (e::es) (k8 te t):=by
 intro pos pins s σ H Q I h;rw[hs];show wpAny _ _ (spliced ((false,eval e X.env)::backTo pos (starEach es X.env))) _ _ s;refine fE (iI (J pins s σ H _ I h) fun u s1 C=>?_);obtain⟨x,H1,A,r1,N⟩:=C;exact iI (M pos pins s1 σ H1 _ A N) fun us s2 ⟨xs,H2,E,P,G⟩=>⟨x::xs,H2,E,.cons r1 P,G⟩
noncomputable def tE(t:TA):TE:=fun σ H Q=>t σ H fun xs H1=>xs.length<=sizeLine/\∀p,H1 p=none->Q (.ref p) (upd H1 p (.tup xs))
noncomputable def vz(t:TA):TE:=fun σ H Q=>t σ H fun xs H1=>xs.length<=sizeLine/\∀p,H1 p=none->Q (.ref p) (upd H1 p (.lst xs))
theorem jx{x1}(h:PA X es t):PE X (.Tuple es x1 pos) (tE t):=by
 intro pins s σ H Q I W;refine wpAny_Tuple_spliced (iI (h pos pins s σ H _ I W) fun us s1 ⟨xs,H1,A,r,z,q⟩=>⟨by rw [<- r.length]; exact z,?_⟩);have B:H1 s1.heap.objs.size=none:=A.hok.fresh (ay _);refine⟨.ref s1.heap.objs.size,upd H1 s1.heap.objs.size (.tup xs),A.laid (t':=s1.toks) (fun b u e=>ag _ e) (ay _) ?_,rfl,q _ B⟩;exact⟨z,us,r,⟨_,aW _ rfl,rfl,_,rfl⟩⟩
theorem jW(h:PA X es t):PE X (.List es pos) (vz t):=by
 intro pins s σ H Q I W;refine wpAny_List_spliced (iI (h pos pins s σ H _ I W) fun us s1 ⟨xs,H1,A,r,z,q⟩=>⟨by rw [<- r.length]; exact z,?_⟩);have B:H1 s1.heap.objs.size=none:=A.hok.fresh (ay _);refine⟨.ref s1.heap.objs.size,upd H1 s1.heap.objs.size (.lst xs),A.laid (t':=s1.toks) (fun b u e=>ag _ e) (ay _) ?_,rfl,q _ B⟩;exact⟨z,us,0,r,aW _ rfl⟩
abbrev Sp:=List V->Hp->VK->XK->Prop
abbrev l6:=List Env->Hp->Shared->XK->LZ
structure Env0(P:Program)(w:World)(K:L3)(mg:L4)(base:Heap)(A:Around)(outer:List Env)(s:Shared)(H:Hp):Prop where
 frames:A.frames=some outer
 mod:Mod K mg base
 bs:∀b o,base.get? b=some o->s.heap.get? b=some o/\H b=none
 bsz:base.objs.size<=s.heap.objs.size
 funs:s.heap.FunFrames base outer
 frf:∀b∈lP outer,H b=none
 hok:HOk P w H s.heap
 bare:AllBare s.gens
noncomputable def CE(d:List Env)(P:Program)(w:World)(H:Hp)(s:Shared)(Q:VK)(u:Value)(s':Shared):Prop:=
 ∃v H',s'.os=s.os/\AllBare s'.gens/\Un (lP d) [] H H' s.heap s'.heap/\HOk P w H' s'.heap/\RelV v u/\Q v H'
noncomputable def CR(CX:l6)(d:List Env)(P:Program)(w:World)(H:Hp)(s:Shared)(Q:VK)(E:XK)(r:Result)(s':Shared):Prop:=
 match r with
 | .ok (.ret u)=>CE d P w H s Q u s'
 | .ok _=>False
 | .error e=>CX d H s E e s'
structure FnOk(P:Program)(w:World)(K:L3)(mg:L4)(base:Heap)(CX:l6)(k:Nat)(f:Addr)(fd:FuncData)(ps:List Str)(sp:Sp):Prop where
 len:∀vs H Q E,sp vs H Q E->vs.length=ps.length
 run:∀(A:Around) (outer:List Env) (s:Shared) (H:Hp) (args:Args) (us:List Value) (vs:List V) (Q:VK) (E:XK),Room k A->Env0 P w K mg base A outer s H->BindsTo s fd args (ps.zip us)->Vals vs us->sp vs H Q E->
  codeAny (model P w) A (.call (.ref f) args) (CR CX outer P w H s Q E) s
theorem FnOk.mono{P:Program}{w:World}{K:L3}{mg:L4}{base:Heap}{CX:l6}{j k:Nat}{f:Addr}{fd:FuncData}{ps:List Str}{sp:Sp}(F:FnOk P w K mg base CX j f fd ps sp)(h:j<=k):
  FnOk P w K mg base CX k f fd ps sp:=⟨F.len,fun A d s H l us vs Q E M=>F.run A d s H l us vs Q E (M.mono h)⟩
theorem Env0.make{P:Program}{w:World}{K:L3}{mg:L4}{base:Heap}{A:Around}{d:List Env}{s:Shared}{H:Hp}(e:Env0 P w K mg base A d s H)(C:Addr)(us:List Value)(kw:L5):
  Env0 P w K mg base (A.under (.builtin "type.__call__" ⟨.ref C::us,kw⟩)) d s H:=⟨by first|exact e.frames|(simpa[Around.under,Code.envs,Code.isFrame,pushEnvs]using e.frames),e.mod,e.bs,e.bsz,e.funs,e.frf,e.hok,e.bare⟩
end
section
variable{X:Cx}{pins:L1}{σ:St}{H:Hp}{s s':Shared}{CX:l6}{k:Nat}{f C:Addr}{fd:FuncData}{ps:List Str}{sp:Sp}{dvs vs:List V}{ds us:List Value}{E:XK}{x m:Str}{p pos apos:Pos}{e o:Expr}{es:List Expr}{ta:TE}{t:TA}{pl:Sem Bool}{Q:VK}
theorem Inv.env0(I:Inv X pins σ H s):Env0 X.prog X.w X.K X.mg X.base X.A X.stack s H:=
 ⟨I.ok.frames,I.ok.mod,I.bs,bw I.ok.bsz I.sz,I.stack,I.stkFree,I.hok,I.bare⟩
theorem Inv.after{u:Value}(I:Inv X pins σ H s)(h:CE X.stack X.prog X.w H s Q u s'):EP X pins σ Q u s':=by
 obtain⟨v,H',os,E,n,A,r,q⟩:=h;obtain⟨C,g,d,t,o⟩:=s';obtain rfl:o=s.os:=os;exact⟨v,H',I.call (h':=C) (g':=g) (d':=d) (t':=t) (ch:=[]) n A E (fun b z=>absurd z (by simp)),r,q⟩
noncomputable def tW(sp:Sp)(dvs:List V)(E:XK)(t:TA):TE:=fun σ H Q=>t σ H fun vs H1=>sp (vs++dvs) H1 Q E
noncomputable def wd(C:Addr)(m:Str)(sp:Sp)(dvs:List V)(E:XK)(ta:TE)(t:TA):TE:=fun σ H Q=>ta σ H fun x H1=>∃a dx fs,x= .ref a/\H1 a=some (.ins C dx fs)/\fs.lookup m=none/\
 t σ H1 fun vs H2=>sp (x::(vs++dvs)) H2 Q E
noncomputable def y6(C:Addr)(sp:Sp)(dvs:List V)(E:XK)(t:TA):TE:=fun σ H Q=>t σ H fun vs H1=>∀x dx,H1 x=none->H1 dx=none->dx≠x->
 sp (.ref x::(vs++dvs)) (upd (upd H1 dx (.own x)) x (.ins C dx [])) (fun v H2=>v= .non/\Q (.ref x) H2) E
noncomputable def jge(K:L3)(fd:FuncData)(ps:List Str)(ds:List Value):Prop:=
 ∀(s:Shared) (us:List Value),K.In s.heap->(us++ds).length=ps.length->BindsTo s fd ⟨us,[]⟩ (ps.zip (us++ds))
theorem jge.all{K:L3}(h:∀us:List Value,us.length=ps.length->bindArgs fd ⟨us,[]⟩=pure (ps.zip us)):jge K fd ps []:=fun s us _ Z=>by
 rw[aS]at Z ⊢;exact .of_eq (h us Z)
noncomputable def nW(CX:l6)(X:Cx)(E:XK):Prop:=∀(pins:L1) (σ:St) (H:Hp) (s:Shared) (e:Value) (s':Shared),Inv X pins σ H s->CX X.stack H s E e s'->X.xe e s'
theorem wH{σ:St}(F:FnOk X.prog X.w X.K X.mg X.base CX k f fd ps sp)(M:Room k X.A)(U:jge X.K fd ps ds)(J:Vals dvs ds)(G:nW CX X E)
  (I:Inv X pins σ H s) (r:Vals vs us) (h:sp (vs++dvs) H Q E):wpAny (model X.prog X.w) X.A (call (.ref f) us) (EP X pins σ Q) X.xe s:=by
 have P:Vals (vs++dvs) (us++ds):=r.append J;have Z:(us ++ ds).length = ps.length:=by rw [<- P.length]; exact F.len _ _ _ _ h
 refine wpAny_call (gL (F.run X.A X.stack s H ⟨us,[]⟩ (us++ds) (vs++dvs) Q E M I.env0 (U s us I.kIn Z) P h) fun r s' W=>?_);cases r with
 |error e=>exact G pins σ H s e s' I W
 |ok g=>
  cases g with
  |ret u=>exact I.after W
  |next=>exact False.elim W
  |brk=>exact False.elim W
  |cont=>exact False.elim W
theorem Gv(F:FnOk X.prog X.w X.K X.mg X.base CX k f fd ps sp)(M:Room k X.A)(y:Gl X x)(K:X.mg x=some (.ref f))(j:PySem.W.keepIn X.K (.ref f)=true)(U:jge X.K fd ps ds)(J:Vals dvs ds)(G:nW CX X E)
  (g:PA X (e::es) t) (b:(x==("__debug__":Str))=false:=by decide) (R:starEach (e::es) X.env=(false,eval e X.env)::starEach es X.env:=by rfl) (v:(backTo pos (starEach es X.env)).any (·.1)=false:=by rfl):
  PE X (.Call (.Name x p) (e::es) [] pos) (tW sp dvs E t):=by
 intro pins s σ H Q I h;refine eK (wZ I y K ?_ b);refine gG (h₀:=X.base) I.ok.mod.kin j (iI (g pos pins s σ H _ I h) fun us s1 ⟨vs,H1,A,r,q⟩=>⟨A.kIn,?_⟩) R v;exact wH F M U J G A r q
theorem Gy(R:PE X o ta)(c:Cls X.K C)(K:Meth X.K C m f)(F:FnOk X.prog X.w X.K X.mg X.base CX k f fd ps sp)(M:Room k X.A)(U:jge X.K fd ps ds)(J:Vals dvs ds)(G:nW CX X E)(g:PA X (e::es) t)
  (d:starEach (e::es) X.env=(false,eval e X.env)::starEach es X.env:=by rfl) (v:(backTo pos (starEach es X.env)).any (·.1)=false:=by rfl)
  (S:eval (.Call (.Attribute o m apos) (e :: es) [] pos) X.env = (do
   let z <- eval o X.env
   standAt apos.atName
   let (f,first) <- holding [z] (getMethod z m pl)
   callWith pos f first (backTo pos (starEach (e::es) X.env)) (backToKw pos (keywordEach [] X.env))):=by rfl):
  PE X (.Call (.Attribute o m apos) (e::es) [] pos) (wd C m sp dvs E ta t):=by
 intro pins s σ H Q I h;refine PySem.W.methodCall_KW (pl:=pl) (iI (R pins s σ H _ I h) fun u s1 j=>?_) S;obtain⟨x,H1,A,rx,a,dx,fs,ex,T,l,q⟩:=j;subst ex;obtain rfl:u=Value.ref a:=rx;refine CQ A T c K l ?_;refine gG (first:=[.ref a]) (h₀:=X.base) I.ok.mod.kin K.kp (iI (g pos pins s1 σ H1 _ A q) fun us s2 ⟨vs,H2,b,r,L⟩=>⟨b.kIn,?_⟩) d v;exact wH (us:=.ref a::us) (vs:=.ref a::vs) F M U J G b (.cons rfl r) L
theorem HH(R:PE X o ta)(c:Cls X.K C)(K:Meth X.K C m f)(F:FnOk X.prog X.w X.K X.mg X.base CX k f fd ps sp)(M:Room k X.A)(U:jge X.K fd ps ds)(J:Vals dvs ds)(G:nW CX X E)
  (S:eval (.Call (.Attribute o m apos) [] [] pos) X.env = (do
   let z <- eval o X.env
   standAt apos.atName
   let (f,first) <- holding [z] (getMethod z m pl)
   callWith pos f first (backTo pos (starEach [] X.env)) (backToKw pos (keywordEach [] X.env))):=by rfl):
  PE X (.Call (.Attribute o m apos) [] [] pos) (wd C m sp dvs E ta lH):=by
 intro pins s σ H Q I h;refine PySem.W.methodCall_KW (pl:=pl) (iI (R pins s σ H _ I h) fun u s1 j=>?_) S;obtain⟨x,H1,A,rx,a,dx,fs,ex,T,l,q⟩:=j;subst ex;obtain rfl:u=Value.ref a:=rx;refine CQ A T c K l ?_;exact PySem.W.callWith_K0 (first:=[.ref a]) A.kIn K.kp (wH (us:=[.ref a]) (vs:=[.ref a]) F M U J G A (.cons rfl .nil) q)
structure Mk(K:L3)(C f:Addr):Prop where
 makes:PySem.W.makesIn K C=true
 init:PySem.W.findIn K (.ref C) "__init__"=some (some (.ref f))
 fn:PySem.W.isFn K (.ref f)=true
 kp:PySem.W.keepIn K (.ref C)=true
theorem HS{σ:St}(M:Mk X.K C f)(F:FnOk X.prog X.w X.K X.mg X.base CX k f fd ps sp)(a:Room (k+1) X.A)(U:jge X.K fd ps ds)(J:Vals dvs ds)
  (G:nW CX X E) (I:Inv X pins σ H s) (r:Vals vs us)
  (h:∀x dx,H x=none->H dx=none->dx≠x->sp (.ref x::(vs++dvs)) (upd (upd H dx (.own x)) x (.ins C dx [])) (fun v H2=>v= .non/\Q (.ref x) H2) E):
  wpAny (model X.prog X.w) X.A (call (.ref C) us) (EP X pins σ Q) X.xe s:=by
 have W:=h (s.heap.objs.size+1) s.heap.objs.size (I.hok.fresh (Nat.le_succ _)) (I.hok.fresh (ay _)) (bu (fO _));have b:=Inv.made (C:=C) I;have P:Vals (V.ref (s.heap.objs.size+1)::(vs++dvs)) (Value.ref (s.heap.objs.size+1)::(us++ds)):=.cons rfl (r.append J);have Z:(Value.ref (s.heap.objs.size+1)::us++ds).length=ps.length:=by
  have e:=P.length;rw[F.len _ _ _ _ W]at e;exact e.symm
 refine wpAny_call (Hj (f:=f) I.kIn M.makes M.init (gD.mp M.fn) (gL (F.run _ X.stack _ _ ⟨Value.ref (s.heap.objs.size+1)::us,[]⟩ (Value.ref (s.heap.objs.size+1)::(us++ds)) _ _ E (a.make C us [])
  (b.env0.make C us []) (U _ (Value.ref (s.heap.objs.size+1)::us) b.kIn Z) P W) fun r s' c=>?_))
 cases r with
 |error e=>exact G pins σ _ _ e s' b c
 | ok g=>
  cases g with
  |ret u=>
   obtain⟨v,H',d,m,O,j⟩:=b.after c;subst O;exact⟨m,⟨V.ref (s.heap.objs.size+1),H',d,rfl,j⟩⟩
  |next=>exact False.elim c
  |brk=>exact False.elim c
  |cont=>exact False.elim c
theorem Gx(M:Mk X.K C f)(F:FnOk X.prog X.w X.K X.mg X.base CX k f fd ps sp)(a:Room (k+1) X.A)(y:Gl X x)(K:X.mg x=some (.ref C))(U:jge X.K fd ps ds)(J:Vals dvs ds)(G:nW CX X E)
  (g:PA X (e::es) t) (b:(x==("__debug__":Str))=false:=by decide) (R:starEach (e::es) X.env=(false,eval e X.env)::starEach es X.env:=by rfl) (v:(backTo pos (starEach es X.env)).any (·.1)=false:=by rfl):
  PE X (.Call (.Name x p) (e::es) [] pos) (y6 C sp dvs E t):=by
 intro pins s σ H Q I h;refine eK (wZ I y K ?_ b);refine gG (h₀:=X.base) I.ok.mod.kin M.kp (iI (g pos pins s σ H _ I h) fun us s1 ⟨vs,H1,A,r,q⟩=>⟨A.kIn,?_⟩) R v;exact HS M F a U J G A r q
noncomputable def PK(X:Cx)(kws:List Keyword)(t:TA):Prop:=
 ∀(pos:Pos) (pins:L1) (s:Shared) (σ:St) (H:Hp) (Q:List V->Hp->Prop),Inv X pins σ H s->t σ H Q->wpAny (model X.prog X.w) X.A (evalAll ((backToKw pos (keywordEach kws X.env)).map (·.2))) (AP X pins σ Q) X.xe s
end
section
variable{X:Cx}{CX:l6}{k:Nat}{f C:Addr}{fd:FuncData}{ps ks:List Str}{sp:Sp}{E:XK}{x m:Str}{p pos apos kpos:Pos}{e o:Expr}{es:List Expr}{kws:List Keyword}{te ta:TE}{t tk:TA}{nm:Option Str}
theorem E9:PK X [] lH:=fun _ _ _ _ H Q I h=>wpAny_evalAll_nil ⟨[],H,I,.nil,h⟩
theorem GA(J:PE X e te)(M:PK X kws t):PK X (⟨nm,e,kpos⟩::kws) (k8 te t):=by
 intro pos pins s σ H Q I h;show wpAny _ _ (evalAll ((do let v <- eval e X.env; standAt pos; pure v) :: (backToKw pos (keywordEach kws X.env)).map (·.2))) _ _ s;refine wpAny_evalAll_cons (ae (iI (J pins s σ H _ I h) fun u s1 ⟨x,H1,A,r1,N⟩=>ae (fJ (aM ?_))));exact iI (M pos pins s1 σ H1 _ A N) fun us s2 ⟨xs,H2,E,P,G⟩=>⟨x::xs,H2,E,.cons r1 P,G⟩
variable{g:List Value->List Value->List Value}{gV:List V->List V->List V}
end
section
variable{mg:L4}{K:L3}{scope:Scope}{base:Heap}{w:World}{f:Addr}{qual:Str}{CX:l6}
structure FnScope(N P:List Str)(sc:Scope):Prop where
 kind:sc.kind= .function
 co:sc.isCoroutine=false
 gen:sc.isGenerator=false
 nd:N.Nodup
 pre:N.take P.length=P
 par:∀x∈P,sc.names.lookup x=some .local\/sc.names.lookup x=some .cell
 nofree:∀y∈sc.names,y.2≠ .free
theorem Cj{kindOf:Str->Option NameKind}{x:Str}:∀{b:L5} {m:L4},(∀v,(x,v)∉b)->bindL kindOf b m x=m x
 |[],_,_=>rfl
 | (n,v)::r,m,h=>by
  unfold bindL;rw[Cj fun w V=>h w (au _ V)];split
  ·have:x≠n:=by rintro rfl;exact h v aE
   simp[this]
  ·rfl
theorem Cg{kindOf:Str->Option NameKind}{x:Str}:∀{b:L5} {m:L4},(∀v,(x,v)∉b)->bindC kindOf b m x=m x
 |[],_,_=>rfl
 | (n,v)::r,m,h=>by
  unfold bindC;rw[Cg fun w V=>h w (au _ V)];split
  ·rfl
  ·have:x≠n:=by rintro rfl;exact h v aE
   simp[this]
theorem Ci{kindOf:Str->Option NameKind}{x:Str}{v:Value}:∀{P:List Str} {vs:List Value} {i:Nat} {m:L4},P.Nodup->P[i]? =some x->vs[i]? =some v->kindOf x=some .local->
  bindL kindOf (P.zip vs) m x=some v
 |[],_,_,_,_,h,_,_=>by simp at h
 |_::_,[],_,_,_,_,h,_=>by simp at h
 |p::P,w::vs,0,m,T,h1,h2,F=>by
  simp at h1 h2;subst h1;subst h2;show bindL kindOf ((p,w)::P.zip vs) m p=_;unfold bindL;rw[Cj fun v Y=>(bV.mp T).1 (hV Y).1,aI F];simp
 |p::P,w::vs,i+1,m,T,h1,h2,F=>by
  show bindL kindOf ((p,w)::P.zip vs) m x=_;unfold bindL;exact Ci (i:=i) (bV.mp T).2 (by simpa using h1) (by simpa using h2) F
theorem Cf{kindOf:Str->Option NameKind}{x:Str}{v:Value}:∀{P:List Str} {vs:List Value} {i:Nat} {m:L4},P.Nodup->P[i]? =some x->vs[i]? =some v->kindOf x≠some .local->
  bindC kindOf (P.zip vs) m x=some v
 |[],_,_,_,_,h,_,_=>by simp at h
 |_::_,[],_,_,_,_,h,_=>by simp at h
 |p::P,w::vs,0,m,T,h1,h2,F=>by
  simp at h1 h2;subst h1;subst h2;show bindC kindOf ((p,w)::P.zip vs) m p=_;unfold bindC;rw[Cg fun v Y=>(bV.mp T).1 (hV Y).1,aG F];simp
 |p::P,w::vs,i+1,m,T,h1,h2,F=>by
  show bindC kindOf ((p,w)::P.zip vs) m x=_;unfold bindC;exact Cf (i:=i) (bV.mp T).2 (by simpa using h1) (by simpa using h2) F
noncomputable def start(N:List Str)(vs:List V):St:=vs.map some++List.replicate (N.length-vs.length) none
noncomputable def qe(CX:l6)(P:Program)(w:World)(K:L3)(mg:L4)(base:Heap)(N:List Str)(qual:Str)(scope:Scope)(f:Addr)(cd:Value)(A:Around)(outer:List Env)(s:Shared)(H:Hp)(E:XK):Cx where
 prog:=P
 w:=w
 K:=K
 mg:=mg
 base:=base
 A:=A.deeper (envOfC qual scope s.heap.objs.size f cd)
 N:=N
 s₀:=s
 H₀:=H
 env:=envOfC qual scope s.heap.objs.size f cd
 outer:=outer
 stack:=envOfC qual scope s.heap.objs.size f cd::outer
 ex:=[]
 calm:=true
 fn:=fun _=>true
 pn:=[]
 xe:=fun e s'=>wpAny (model P w) (A.deeper (envOfC qual scope s.heap.objs.size f cd)) (leaving (envOfC qual scope s.heap.objs.size f cd) e) (fun _ a=>CX outer H s E e a) (fun T a=>CX outer H s E T a) s'
theorem Bw{X:Scope}{n:Nat}{x:Str}(h:X.names.lookup x=some .cell):∃c,(cellsFrom n X.names []).lookup x=some c:=by
 have q:=PySem.W.cellsFrom_some X.names n [] (.inl h);exact dY.mp q
theorem Iz{P:Program}{N ps:List Str}{cd:Value}{A:Around}{d:List Env}{s s1:Shared}{H:Hp}{E:XK}{us:List Value}{vs:List V}
  (S:FnScope N ps scope) (J:A.handled=none) (X:Env0 P w K mg base A d s H) (Z:vs.length=ps.length) (r:Vals vs us)
  (x:InCallC s s.heap.objs.size (bindL (envOfC qual scope s.heap.objs.size f cd).kindOf (ps.zip us) fun _=>none) (cellsFrom (s.heap.objs.size+1) scope.names []) (bindC (envOfC qual scope s.heap.objs.size f cd).kindOf (ps.zip us) fun _=>none) s1):
  Inv (qe CX P w K mg base N qual scope f cd A d s H E) [] (start N vs) H s1:=by
 have Y:ps.length<=N.length:=by have:=cA List.length S.pre;rw[aP]at this;lia
 obtain⟨h1,tk,rfl,F⟩:=x.done;have t:∀b:Addr,b∉(qe CX P w K mg base N qual scope f cd A d s H E).ex:=fun b z=>absurd (show b∈([]:List Addr)from z) (by simp);refine⟨⟨X.mod,S.kind,rfl,rfl,ay _,fun y z c h1 h2=>?_,fun y j=>?_,fun y c _ h=>?_,fun _=>J,Around.frames_deeper X.frames,.inr ⟨rfl,rfl⟩,fun b z=>absurd z (t b),X.bs,X.bsz,fun b _ _=>t b,fun b z=>absurd z (t b),X.funs,X.frf⟩,
  rfl,X.bare,Un.kept F,⟨_,x.toInCall.ns,fun i y v h1 h2 D=>?_⟩,fun y c h=>⟨_,x.cell y c h⟩,X.hok.fresh (ay _),fun y c h=>?_,fun p O=>absurd (show p∈([]:L1)from O) (by simp),X.hok.kept F,?_⟩
 ·exact name_of_addr x.apart (cF h1) (cF h2)
 ·have j:scope.names.lookup y=some .cell\/scope.names.lookup y=some .free:=j;rcases j with j|j
  ·exact Bw j
  ·exact absurd rfl (S.nofree _ (cF j))
 ·exact gN (x.above y c (cF h))
 ·have hi:i<vs.length:=by
   unfold start at h2;by_cases hi:i<vs.length
   ·exact hi
   ·rw[cV (by simpa using hi)]at h2;rw[List.getElem?_replicate]at h2;split at h2<;>cases h2
  have g:vs[i]? =some v:=by
   unfold start at h2;rw[bC (by simpa using hi),aU]at h2;cases e:vs[i]? with
   |none=>rw[e]at h2;cases h2
   |some a=>rw[e]at h2;cases h2;rfl
  obtain⟨u,T,m⟩:=r.get g;have O:ps[i]? =some y:=by
   rw [<- S.pre,List.getElem?_take_of_lt (by lia)]; exact h1
  have l:ps.Nodup:=by rw [<- S.pre]; exact S.nd.sublist (List.take_sublist _ _)
  refine⟨u,m,?_⟩;rcases S.par y (aC O)with k|k
  ·exact .inl ⟨k,Ci l O T k⟩
  ·obtain⟨c,e⟩:=Bw (n:=s.heap.objs.size+1) k;refine .inr ⟨.inl k,c,e,?_⟩;have q:=x.cell y c e;rw[Cf l O T (by show scope.names.lookup y≠_;rw[k];decide)]at q;exact q
 ·exact X.hok.fresh (gN (x.above y c (cF h)))
 ·unfold start;show _=N.length;rw[aH,aa,List.length_replicate];lia
theorem Lr{P:Program}{k:Nat}{name:Str}{p:Arguments}{body:List Stmt}{G kV i pm a ct oc:Value}{an od:Option Addr}
  {j:Array (Option Value)} {N ps:List Str} {sp:Sp} (lk:K.lookup f=some ⟨oc,od,.func (PySem.W.fnOf name qual p body scope G kV i pm an a ct),j⟩) (z:PySem.W.codeIn K a qual=true) (S:FnScope N ps scope)
  (len:∀vs H Q E,sp vs H Q E->vs.length=ps.length)
  (c:∀(A:Around) (d:List Env) (s:Shared) (H:Hp) (vs:List V) (Q:VK) (E:XK),Room k (A.deeper (envOfC qual scope s.heap.objs.size f a))->sp vs H Q E->
   ∃t,PSs (qe CX P w K mg base N qual scope f a A d s H E) body t/\t {nx:=fun _ H'=>Q .non H',rt:=Q} (start N vs) H):
  FnOk P w K mg base CX (k+1) f (PySem.W.fnOf name qual p body scope G kV i pm an a ct) ps sp:=by
 refine⟨len,fun A d s H l us vs Q E M X U r D=>?_⟩;have Z:=len _ _ _ _ D;have h:K.In s.heap:=X.mod.kin.keeps fun b o e=>(X.bs b o e).1;have T:s.heap.NoLimit:=X.mod.nolimit.keeps fun b o e=>(X.bs b o e).1;have F:∀y∈ps.zip us,scope.names.lookup y.1=some .local\/(scope.names.lookup y.1=some .cell/\((cellsFrom (s.heap.objs.size+1) scope.names []).lookup y.1).isSome=true):=fun⟨n,v⟩ O=>by
  rcases S.par n (hV O).1 with q|q
  ·exact .inl q
  ·exact .inr ⟨q,PySem.W.cellsFrom_some _ _ _ (.inl q)⟩
 refine codeAny_call_function M.depth (h _ _ lk) rfl S.co S.gen rfl (PySem.W.codeRec_of h z) (U _ _ _ _ ?_);refine wpAny_newFunctionEnv_cells S.kind F fun env R s1 x=>?_;subst R;refine⟨T.keeps x.toInCall.keep,codeAny_func ?_⟩;obtain⟨t,B,W⟩:=c A d s H vs Q E (M.deeper _) D;have I:Inv (qe CX P w K mg base N qual scope f a A d s H E) [] (start N vs) H s1:=Iz S M.hd X Z r x;refine dD (B [] s1 (start N vs) H _ I W) (fun g s' hs=>?_) fun e s' hs=>hs;have C:∀{L:St} {H':Hp} {v:V} {u:Value},Inv (qe CX P w K mg base N qual scope f a A d s H E) [] L H' s'->RelV v u->Q v H'->CE d P w H s Q u s':=
  fun{L H' v u} J m q=>⟨v,H',J.os,J.bare,J.base,J.hok,m,q⟩
 cases g with
 |ret u=>
  obtain⟨v,L,H',J,m,q⟩:=hs;exact C J m q
 |next=>
  obtain⟨L,H',J,q⟩:=hs;exact C (v:=V.non) (u:=Value.none) J rfl q
 |brk=>
  obtain⟨_,_,_,q⟩:=hs;exact False.elim q
 |cont=>
  obtain⟨_,_,_,q⟩:=hs;exact False.elim q
end
section
variable{X:Cx}{x:Str}{p pos:Pos}{e:Expr}{es:List Expr}{t:TA}{id T:String}{r:List V->Hp->VK->Prop}
noncomputable def qm(r:List V->Hp->VK->Prop)(t:TA):TE:=fun σ H Q=>t σ H fun vs H1=>r vs H1 Q
theorem jZ(Y:jcq X (.builtin id) r)(y:Gl X x)(K:X.mg x=none)(j:bootBuiltins x=some (.builtin id))(J:PA X (e::es) t)(S:x≠"__name__":=by decide)(b:(x==("__debug__":Str))=false:=by decide)
  (R:starEach (e::es) X.env=(false,eval e X.env)::starEach es X.env:=by rfl) (v:(backTo pos (starEach es X.env)).any (·.1)=false:=by rfl):PE X (.Call (.Name x p) (e::es) [] pos) (qm r t):=by
 intro pins s σ H Q I h;refine eK (oK I y K j ?_ S b);exact PyProof.Rows.callWith_builtin1 (iI (J pos pins s σ H _ I h) fun us s1 ⟨vs,H1,A,r1,N⟩=>Y pins s1 σ H1 vs us Q A r1 N) R v
theorem nC(Y:jcq X (.type T) r)(y:Gl X x)(K:X.mg x=none)(j:bootBuiltins x=some (.type T))(J:PA X (e::es) t)(S:x≠"__name__":=by decide)(b:(x==("__debug__":Str))=false:=by decide)
  (R:starEach (e::es) X.env=(false,eval e X.env)::starEach es X.env:=by rfl) (v:(backTo pos (starEach es X.env)).any (·.1)=false:=by rfl):PE X (.Call (.Name x p) (e::es) [] pos) (qm r t):=by
 intro pins s σ H Q I h;refine eK (oK I y K j ?_ S b);exact dg (iI (J pos pins s σ H _ I h) fun us s1 ⟨vs,H1,A,r1,N⟩=>Y pins s1 σ H1 vs us Q A r1 N) R v
end
end L2
namespace HT
open PySem PyProof.Rows
noncomputable def lexLt:List Int->List Int->Bool
 |[],[]=>false
 |[],_::_=>true
 |_::_,[]=>false
 |x::xs,y::ys=>if x=y then lexLt xs ys else decide (x<y)
theorem qw(x y:Int)(xs ys:List Int):lexLt (x::xs) (y::ys)=if x=y then lexLt xs ys else decide (x<y):=rfl
theorem Kw:lexLt [] []=false:=rfl
theorem KL(y:Int)(ys:List Int):lexLt [] (y::ys)=true:=rfl
theorem KJ(x:Int)(xs:List Int):lexLt (x::xs) []=false:=rfl
theorem G3(A:Around)(s:Shared)(a:Int)(t:Tok)(c:Int)(u:Tok):∃e,SeqAt.EqAt A s (.int a t) (.int c u) e/\(e=true↔a=c):=
 ⟨(a==c),gF a t c u,by simp⟩
theorem HQ(A:Around)(s:Shared)(a:Int)(t:Tok)(c:Int)(u:Tok)(prog:Program)(w:World)(E:LZ)(Q:LZ)(h:Q (.bool (decide (a<c))) s):
  wpAny (model prog w) A (richCompare .Lt (.int a t) (.int c u)) Q E s:=
 (PyProof.Rows.lt_int h:wpAny (model prog w) A (compareOp .Lt (.int a t) (.int c u)) Q E s)
section
open PySem.SeqAt
open PySem.AutoSeq1 (wpAny_loadPart')
open PySem.MeetsSeq PySem.MeetsSeq2 PySem.MeetsSeq3
theorem KI(l b:Addr)(items k:Array Value)(n S:Nat)(dd r:Option Addr)(sl nI:Array (Option Value))(ns ms:List Int)(hi:IntsAre items.toList ns)(W:IntsAre k.toList ms):
  Meets (Builtin.«tuple.__lt__» ⟨[.ref l,.ref b],[]⟩)
   (fun _ R s=>s.heap.get? l=some {cls:=.type "tuple",dict:=dd,data:=.seq items n,slots:=sl}/\s.heap.get? b=some {cls:=.type "tuple",dict:=r,data:=.seq k S,slots:=nI}/\
    R (.ok (.ret (.bool (lexLt ns ms)))) s):=
 .of_wp fun prog w A R s h=>by
  obtain⟨O,g,d,tk,os⟩:=s;obtain⟨Z,U,h⟩:=h;have Q:=AutoSeq1.sub_tuple_tuple;have J:items.size = ns.length:=by rw [<- hi.length]; simp
  have i:k.size = ms.length:=by rw [<- W.length]; simp
  wp_walk using fX Z,fX U,wpAny_forIn_list _ (fun rest b s'=>b.1=none/\s'=⟨O,g,d,tk,os⟩/\∃(vs p:List Value) (o z:List Int),rest=vs.zip p/\
   IntsAre vs o/\IntsAre p z/\o.length+k.size=z.length+items.size/\R (.ok (.ret (.bool (lexLt o z)))) ⟨O,g,d,tk,os⟩) _
  case turn=>
   rintro⟨y,x⟩ rest b s' ⟨v,rfl,vs,p,o,z,L,C,m,f,Y⟩;cases C with
   |nil=>rw[List.zip_nil_left]at L;cases L
   | cons a t F=>
    cases m with
    |nil=>rw[List.zip_nil_right]at L;cases L
    | cons c u E=>
     rw[List.zip_cons_cons]at L;injection L with hyx hrest;injection hyx with hy hx;subst hy hx;rw[qw]at Y;simp only[List.length_cons]at f;obtain⟨e,T,B⟩:=G3 A.in1 ⟨O,g,d,tk,os⟩ a t c u;refine ae (T prog w _ _ ?_);cases e with
     |true=>
      rw[aI (B.mp rfl)]at Y
      wp_walk
      exact⟨rfl,rfl,_,_,_,_,hrest,F,E,by lia,Y⟩
     |false=>
      rw[aG (fun q=>absurd (B.mpr q) bo)]at Y;have D:=HQ A.in1 ⟨O,g,d,tk,os⟩ a t c u prog w
      wp_walk using D
      exact⟨_,rfl,by simpa using Y⟩
  case fin=>
   rintro⟨b1,b2⟩ s' ⟨v,rfl,vs,p,o,z,L,C,m,f,Y⟩;simp only at v;subst v;have j:lexLt o z=decide (items.size<k.size):=by
    cases C with
    | nil=>
     cases m with
     |nil=>
      simp only[List.length_nil]at f;rw[Kw];exact(aA (by lia)).symm
     |cons c u V=>
      simp only[List.length_nil,List.length_cons]at f;rw[KL];exact(ao (by lia)).symm
    | cons a t j=>
     cases m with
     |nil=>
      simp only[List.length_nil,List.length_cons]at f;rw[KJ];exact(aA (by lia)).symm
     |cons c u V=>
      rw[List.zip_cons_cons]at L;cases L
   rw[j]at Y
   wp_walk
   exact⟨_,rfl,by simpa[Builtin.Tuple.tupleCompareSizes]using Y⟩
  case h=>
   exact⟨rfl,rfl,items.toList,k.toList,ns,ms,rfl,hi,W,by lia,h⟩
end
section
variable{prog:Program}{w:World}{A:Around}{E Q:LZ}{s:Shared}{items:Array Value}{sl:Addr}
theorem FK{l b:Addr}{k:Array Value}{ns ms:List Int}(Z:IsTup s.heap l items)(U:IsTup s.heap b k)(hi:IntsAre items.toList ns)(W:IntsAre k.toList ms)
  (F:A.units<cLine) (h:Q (.bool (lexLt ns ms)) s):wpAny (model prog w) A (compareOp .Lt (.ref l) (.ref b)) Q E s:=by
 obtain⟨⟨g,dd,e,sl⟩,M,Y,n,J⟩:=id Z;obtain⟨⟨f,r,data2,nI⟩,d,c,V,p⟩:=id U;simp only at Y J c p;subst Y J c p;exact richCompare_meets_room (op:=.Lt) ⟨_,M,rfl⟩ ⟨_,d,rfl⟩ PySem.F.slot_tuple_lt PySem.F.entry_tuple_lt (PySem.F.args_tuple_lt_2 _ _) (KI l b items k n V dd r sl nI ns ms hi W)
  ⟨M,d,show Value.bool (lexLt ns ms)≠Value.notImplemented/\Q (.bool (lexLt ns ms)) s from⟨(fun x=>nomatch x),h⟩⟩ F
noncomputable def i7(n d:Nat):Option Int->Nat
 |none=>d
 |some v=>if v<0 then(v+(n:Int)).toNat else min v.toNat n
theorem Ep(n d:Nat)(J:d<=n)(o:Option Int):i7 n d o<=n:=by
 cases o with
 |none=>exact J
 |some v=>
  show(if v<0 then(v+(n:Int)).toNat else min v.toNat n)<=n;by_cases Y:v<0
  ·rw[aI Y];lia
  ·rw[aG Y];exact gW _ _
theorem AB(v:Int)(n d:Nat):(if v<0 then max (v+(n:Int)) 0 else min v (n:Int))=((i7 n d (some v):Nat):Int):=by
 show(if v<0 then max (v+(n:Int)) 0 else min v (n:Int))=(((if v<0 then(v+(n:Int)).toNat else min v.toNat n):Nat):Int);by_cases Y:v<0
 ·simp only[aI Y];lia
 ·simp only[aG Y];lia
theorem Jl(lo hi:Option Int)(n:Nat):Builtin.Slice.sliceAdjust lo hi 1 (n:Int)=(((i7 n 0 lo:Nat):Int),((i7 n n hi:Nat):Int)):=by
 have h1:¬((1:Int)<0):=by lia
 unfold Builtin.Slice.sliceAdjust;simp only[h1,if_false];refine Prod.ext ?_ ?_
 ·cases lo with
  |none=>rfl
  |some v=>exact AB v n 0
 ·cases hi with
  |none=>rfl
  |some v=>exact AB v n n
theorem JN(i j:Nat):Builtin.Slice.slicePlaces (i:Int) (j:Int) 1=j-i:=by
 unfold Builtin.Slice.slicePlaces;have h1:(1:Int)>0:=by lia
 simp only[h1,if_true,Int.ediv_one];split<;>lia
theorem C3{v:Value}{o:Option Int}{Q:Option Int->Shared->Prop}(p:IsPart v o)(h:Q o s):wpAny (model prog w) A (Builtin.Slice.slicePartIndex v) Q E s:=by
 cases p with
 |none=>exact slicePart_none h
 |int i t=>exact slicePart_int h
theorem K8{i c:Value}{lo hi:Option Int}{n:Nat}{Q:Int×Int×Nat->Shared->Prop}(hs:s.heap.IsSliceOf sl i c .none)(pl:IsPart i lo)(z:IsPart c hi)
  (h:Q (((i7 n 0 lo:Nat):Int),1,i7 n n hi-i7 n 0 lo) s):wpAny (model prog w) A (Builtin.Slice.sliceApplied (.ref sl) (pure (n:Int))) Q E s:=by
 obtain⟨os,L,a,b⟩:=id hs;unfold Builtin.Slice.sliceApplied Builtin.Slice.sliceFields;refine ae (ae (cM L b (x:=i) rfl (ae (cM L b (x:=c) rfl (ae (cM L b (x:=.none) rfl (aM ?_)))))));refine ae (slicePart_none ?_);show wpAny _ _ (if((1:Int)==0)=true then _ else _) _ _ s;rw[aG (by decide)];refine ae (C3 pl (ae (C3 z (ae (aM ?_)))));show wpAny _ _ (match Builtin.Slice.sliceAdjust lo hi 1 (n:Int)with |(lo,hi)=>pure (lo,(1:Int),Builtin.Slice.slicePlaces lo hi 1)) _ _ s;rw[Jl lo hi n];show wpAny _ _ (pure (((i7 n 0 lo:Nat):Int),(1:Int),Builtin.Slice.slicePlaces ((i7 n 0 lo:Nat):Int) ((i7 n n hi:Nat):Int) 1)) _ _ s;rw[JN];exact aM h
theorem HL(xs:Array Value)(i k:Nat):((List.range k).filterMap fun(m:Nat)=>xs[((i:Int)+(m:Int)*1).toNat]?).toArray=((xs.toList.drop i).take k).toArray:=by
 have e:(fun(m:Nat)=>xs[((i:Int)+(m:Int)*1).toNat]?)=fun m=>xs[i+m]?:=by
  funext m;have:((i:Int)+(m:Int)*1).toNat=i+m:=by lia
  rw[this]
 rw[e];have:=pick_run xs i k;rw[List.filterMap_map]at this;have e2:((fun x=>xs[x]?)∘fun x=>i+x)=fun m=>xs[i+m]?:=rfl;rw[e2]at this;rw[this]
theorem Lm{t:Addr}{i c:Value}{lo hi:Option Int}(S:IsTup s.heap t items)(hs:s.heap.IsSliceOf sl i c .none)(pl:IsPart i lo)(z:IsPart c hi)
  (V:¬(i7 items.size 0 lo=0/\i7 items.size items.size hi=items.size))
  (h:Q (.ref s.heap.objs.size) {s with heap:=s.heap.push {cls:=.type "tuple",data:=.seq ((items.toList.drop (i7 items.size 0 lo)).take (i7 items.size items.size hi-i7 items.size 0 lo)).toArray}})
  (hsz:items.size<=sizeLine):wpAny (model prog w) A (getItem (.ref t) (.ref sl)) Q E s:=by
 have e:sizeOk (.seq ((items.toList.drop (i7 items.size 0 lo)).take (i7 items.size items.size hi-i7 items.size 0 lo)).toArray):=by
  show((items.toList.drop (i7 items.size 0 lo)).take (i7 items.size items.size hi-i7 items.size 0 lo)).toArray.size<=sizeLine;rw[aF,aP,fm,Array.length_toList];lia
 have W:i7 items.size items.size hi<=items.size:=Ep _ _ (ay _) hi;obtain⟨os,L,a,b⟩:=id hs;have d:s.TypeIs (.ref sl) "slice":=⟨os,L,a⟩;unfold getItem
 try with_reducible refine bQ ?_
 first|refine ae (aM ?_)|skip
 refine ae (wpAny_sequenceKey S.typeIs (by decide) ?_);refine ae (dy (name:=Str.ofString "__getitem__") S.typeIs fc
  (dW fc S.typeIs entry_tuple_getitem ?_ (args_tuple_getitem _ _)))
 show wpAny _ _ (Builtin.Tuple.tupleItemsOf (.ref t)>>=_) _ _ s;refine ae (tupleItemsOf_ S ?_);refine ae (eP d ?_);rw[aI (by decide)];refine ae (K8 hs pl z ?_);have o:¬((((i7 items.size 0 lo:Nat):Int)==0&&(1:Int)==1&&(i7 items.size items.size hi-i7 items.size 0 lo)==items.size)=true):=by
  intro q;rw[aQ,aQ]at q;have N:((i7 items.size 0 lo:Nat):Int)=0:=eq_of_beq q.1.1;have G:i7 items.size items.size hi-i7 items.size 0 lo=items.size:=eq_of_beq q.2;exact V ⟨by lia,by lia⟩
 show wpAny _ _ (if(((i7 items.size 0 lo:Nat):Int)==0&&(1:Int)==1&&(i7 items.size items.size hi-i7 items.size 0 lo)==items.size)=true then _ else _) _ _ s;rw[aG o,HL]
 first
  |exact ae (m:=Builtin.Tuple.tupleExact _) (cR (aM ⟨_,rfl,aM h⟩) e)
  |exact ae (m:=Builtin.Tuple.tupleExact _) (cR (ae (aM (aM ⟨_,rfl,aM h⟩))) e)
  |exact ae (ae (m:=Builtin.Tuple.tupleExact _) (cR (aM (aM ⟨_,rfl,aM h⟩)) e))
  |exact ae (ae (m:=Builtin.Tuple.tupleExact _) (cR (aM ⟨_,rfl,aM h⟩) e))
end
end HT
namespace L2
open PySem PySem.Spec PyProof.Rows
abbrev TO:=St->Hp->(Option Int->Hp->Prop)->Prop
noncomputable def PO(X:Cx)(e:Option Expr)(t:TO):Prop:=
 ∀(pins:L1) (s:Shared) (σ:St) (H:Hp) (Q:Option Int->Hp->Prop),Inv X pins σ H s->t σ H Q->
  wpAny (model X.prog X.w) X.A (evalPart e X.env) (fun u s'=>∃o H',Inv X pins σ H' s'/\IsPart u o/\Q o H') X.xe s
noncomputable def Bn:TO:=fun _ H Q=>Q none H
theorem pY{ns:List Int}:∀{us:List Value},Vals (ns.map V.int) us->IntsAre us ns:=by
 induction ns with
 |nil=>intro us r;rw[bO]at r;cases r;exact .nil
 | cons n ns E=>
  intro us r;rw[ai]at r;cases r with
  |cons r1 P=>
   obtain⟨t,e⟩:=r1;subst e;exact .cons n t (E P)
section
variable{X:Cx}{e:Expr}{te:TE}{lo hi:Option Expr}{tl th:TO}{pos p2:Pos}{α:Type}{i:Int}{j n:Nat}
theorem nq:PO X none Bn:=by
 intro pins s σ H Q I h;rw[evalPart_none];exact aM ⟨none,H,I,.none,h⟩
noncomputable def SlR(X:Cx)(r:V->Option Int->Option Int->Hp->VK->Prop):Prop:=
 ∀(pins:L1) (s:Shared) (σ:St) (H:Hp) (x:V) (v i c:Value) (lo hi:Option Int) (sl:Addr) (Q:VK),Inv X pins σ H s->RelV x v->s.heap.IsSliceOf sl i c .none->IsPart i lo->IsPart c hi->r x lo hi H Q->
  ∃T id,typeLookup (.type T) "__getitem__"=pure (some (.builtin id))/\s.TypeIs v T/\wpAny (model X.prog X.w) X.A (getItem v (.ref sl)) (EP X pins σ Q) X.xe s
noncomputable def yY(r:V->Option Int->Option Int->Hp->VK->Prop)(te:TE)(tl th:TO):TE:=fun σ H Q=>te σ H fun x H1=>tl σ H1 fun l H2=>th σ H2 fun u H3=>r x l u H3 Q
theorem nB{r:V->Option Int->Option Int->Hp->VK->Prop}(M:SlR X r)(R:PE X e te)(Z:PO X lo tl)(F:PO X hi th):PE X (.Subscript e (.Slice lo hi none p2) pos) (yY r te tl th):=by
 intro pins s σ H Q I h;refine ig (iI (R pins s σ H _ I h) fun v s1 C=>?_);obtain⟨x,H1,A,r1,N⟩:=C;refine wpAny_Slice (iI (Z pins s1 σ H1 _ A N) fun i s2 ⟨l,H2,E,pl,G⟩=>iI (F pins s2 σ H2 _ E G) fun c W C=>?_);obtain⟨u,H3,d,z,j⟩:=C;rw[evalPart_none];refine aM ?_;have O:Inv X pins σ H3 {W with heap:=W.heap.push {cls:=.type "slice",data:=.fields #[i,c,.none]}}:=d.kept (t':=W.toks) fun b k q=>ag _ q;obtain⟨T,id,f,S,y⟩:=M pins {W with heap:=W.heap.push {cls:=.type "slice",data:=.fields #[i,c,.none]}} σ H3 x v i c l u W.heap.objs.size Q O r1 (Heap.IsSliceOf.new ..) pl z j;show wpAny (model X.prog X.w) X.A (subscriptTail e (.Slice lo hi none p2) v (.ref W.heap.objs.size)) (EP X pins σ Q) X.xe {W with heap:=W.heap.push {cls:=.type "slice",data:=.fields #[i,c,.none]}};exact tail_any (ops:=[.ref W.heap.objs.size,v]) S f y (by with_unfolding_all rfl)
noncomputable def lQ(xs:List V)(lo hi:Option Int):List V:=(xs.drop (HT.i7 xs.length 0 lo)).take (HT.i7 xs.length xs.length hi-HT.i7 xs.length 0 lo)
theorem Dc(xs:List V)(lo hi:Option Int):(lQ xs lo hi).length<=xs.length:=by
 unfold lQ;rw[aP,fm];lia
noncomputable def EB(K:L3):V->Option Int->Option Int->Hp->VK->Prop:=fun x lo hi H Q=>∃a xs,x= .ref a/\SqT K H a xs/\
 ¬(HT.i7 xs.length 0 lo=0/\HT.i7 xs.length xs.length hi=xs.length)/\∀p,H p=none->Q (.ref p) (upd H p (.tup (lQ xs lo hi)))
theorem Ej:SlR X (EB X.K):=by
 intro pins s σ H x v i c lo hi sl Q I rx hs pl z h;obtain⟨a,xs,rfl,G,V,q⟩:=h;cases rx;obtain⟨its,r,S,L⟩:=I.tuple G;have g:its.toArray.size=xs.length:=by rw[aF];exact r.length.symm
 refine⟨"tuple",_,fc.lookup,S.typeIs,?_⟩;refine HT.Lm S hs pl z (by rw[g];exact V) ?_ (by rw[g];exact L);rw[g];refine⟨.ref s.heap.objs.size,_,I.laid (t':=s.toks) (o:=.tup (lQ xs lo hi)) (fun b l q=>ag _ q) (ay _) ?_,rfl,q _ (I.hok.fresh (ay _))⟩;exact⟨bw (Dc xs lo hi) L,_,(r.drop (HT.i7 xs.length 0 lo)).take (HT.i7 xs.length xs.length hi-HT.i7 xs.length 0 lo),IsTup.new _ _⟩
noncomputable def EH(K:L3):R2:=fun x y H Q=>∃a b ns ms,x= .ref a/\y= .ref b/\SqT K H a (ns.map V.int)/\SqT K H b (ms.map V.int)/\Q (.bl (HT.lexLt ns ms)) H
theorem Fn(F:X.A.units<cLine):OpR X (compareOp .Lt) (EH X.K):=by
 intro pins s σ H x y v u Q I rx B h;obtain⟨a,b,ns,ms,rfl,rfl,J,U,q⟩:=h;cases rx;cases B;obtain⟨its,r1,p1,_⟩:=I.tuple J;obtain⟨C,P,p2,_⟩:=I.tuple U;have m:IntsAre its.toArray.toList ns:=pY r1;have N:IntsAre C.toArray.toList ms:=pY P;exact HT.FK p1 p2 m N F ⟨.bl (HT.lexLt ns ms),H,I,rfl,q⟩
noncomputable def lx(n:Nat)(i:Int):Option Nat:=if 0<=i then(if i<n then some i.toNat else none)else if -(n:Int)<=i then some (i+n).toNat else none
noncomputable def jh{α:Type}(xs:List α)(i:Int):Option α:=(lx xs.length i).bind fun j=>xs[j]?
theorem AJ(h:lx n i=some j):seqIndex? i n=some j/\j<n/\-(n:Int)<=i/\i<n:=by
 unfold lx at h;by_cases A:0<=i
 ·rw[aI A]at h;by_cases h1:i<n
  ·rw[aI h1]at h;have e:i.toNat=j:=aJ h;exact⟨by rw[g6 A h1,e],by lia,by lia,h1⟩
  ·rw[aG h1]at h;cases h
 ·rw[aG A]at h;by_cases h1:-(n:Int)<=i
  ·rw[aI h1]at h;have e:(i+n).toNat=j:=aJ h;exact⟨by rw[seqIndex_neg (by lia) h1,e],by lia,h1,by lia⟩
  ·rw[aG h1]at h;cases h
theorem wU{xs:List α}{v:α}(h:jh xs i=some v):∃j,seqIndex? i xs.length=some j/\xs[j]? =some v/\j<xs.length/\-(xs.length:Int)<=i/\i<xs.length:=by
 unfold jh at h;cases e:lx xs.length i with
 |none=>rw[e]at h;cases h
 |some j=>
  rw[e]at h;obtain⟨h1,h2,D,T⟩:=AJ e;exact⟨j,h1,h,h2,D,T⟩
theorem me{xs:List α}{v:α}(h:xs[j]? =some v):jh xs (j:Int)=some v:=by
 have W:j<xs.length:=(ax.mp h).1;have e:lx xs.length (j:Int)=some j:=by
  unfold lx;rw[aI (by lia),aI (by lia)];simp
 unfold jh;rw[e];exact h
theorem Bv(xs:List α)(v:α):jh (xs++[v]) (-1)=some v:=by
 have Z:(xs++[v]).length=xs.length+1:=by simp
 have e:lx (xs++[v]).length (-1)=some xs.length:=by
  unfold lx;rw[Z,aG (by decide),aI (by lia)]
  congr 1
  lia
 unfold jh;rw[e];show(xs++[v])[xs.length]? =some v;simp
noncomputable def Ay(b:Expr):Prop:=∀o i,subscripted b false o i=operate [o,i] (getItem o i)
noncomputable def IxR(X:Cx)(r:R2):Prop:=
 ∀(value e:Expr) (pins:L1) (s:Shared) (σ:St) (H:Hp) (x y:V) (v u:Value) (Q:VK),Inv X pins σ H s->RelV x v->RelV y u->r x y H Q->
  subscripted e false v u=operate [v,u] (getItem v u)->wpAny (model X.prog X.w) X.A (subscriptTail value e v u) (EP X pins σ Q) X.xe s
noncomputable def MtR(X:Cx)(id:String)(r:V->List V->Hp->VK->Prop):Prop:=
 ∀(pins:L1) (s:Shared) (σ:St) (H:Hp) (x:V) (xs:List V) (v:Value) (us:List Value) (Q:VK),Inv X pins σ H s->RelV x v->Vals xs us->r x xs H Q->
  wpAny (model X.prog X.w) X.A (call (.builtin id) (v::us)) (EP X pins σ Q) X.xe s
end
section
variable{X:Cx}{a b:Expr}{ta tb:TE}{pos:Pos}
section
variable{pins:L1}{s:Shared}{H:Hp}{x:V}
theorem IxR.or{r r':R2}(h:IxR X r)(h':IxR X r'):IxR X (fun x y H Q=>r x y H Q\/r' x y H Q):=by
 intro value e pins s σ H x y v u Q I rx B q hs;rcases q with q|q
 ·exact h value e pins s σ H x y v u Q I rx B q hs
 ·exact h' value e pins s σ H x y v u Q I rx B q hs
theorem zu{r:R2}(M:IxR X r)(J:PE X a ta)(U:PE X b tb)(hs:Ay b):PE X (.Subscript a b pos) (mQ r ta tb):=by
 intro pins s σ H Q I h;exact ig (yQ J U I h fun v u s2 x y H2 E rx B q=>M a b pins s2 σ H2 x y v u Q E rx B q (hs _ _))
noncomputable def zp(K:L3):R2:=fun x y H Q=>∃p xs i v,x= .ref p/\y= .int i/\SqL K H p xs/\jh xs i=some v/\Q v H
noncomputable def EI(K:L3):R2:=fun x y H Q=>∃p xs i v,x= .ref p/\y= .int i/\SqT K H p xs/\jh xs i=some v/\Q v H
theorem AK:IxR X (zp X.K):=by
 intro value e pins s σ H x y v u Q I rx B h hs;obtain⟨p,xs,i,z,rfl,rfl,W,R,q⟩:=h;cases rx;obtain⟨t,rfl⟩:=B;obtain⟨its,r,pl,L⟩:=I.list W;obtain⟨j,h1,h2,D,T,K⟩:=wU R;obtain⟨w,g,P⟩:=r.get h2;have Z:=r.length;have S:=qH;have C:EP X pins σ Q w s:=⟨z,H,I,P,q⟩;by_cases A:0<=i
 ·have d:i.toNat=j:=by
   rw[g6 A K]at h1;exact aJ h1
  exact item_listR pl.isList A (by lia) (by rw[d];simpa using g) C hs
 ·have d:(i+(its.toArray.size:Int)).toNat=j:=by
   rw[seqIndex_neg (by lia) T]at h1;rw [aF,<- Z];exact aJ h1
  exact subscriptTail_builtinR (x:=w) pl.isList.typeIs gI.lookup
   (wpAny_getItem_list_neg (Q:=fun r s'=>r=w/\EP X pins σ Q r s') pl.isList (by lia) (by rw[aF]<;>lia) (by lia) (by rw[d];simpa using g) ⟨rfl,C⟩) hs
theorem Lf:IxR X (EI X.K):=by
 intro value e pins s σ H x y v u Q I rx B h hs;obtain⟨p,xs,i,z,rfl,rfl,W,R,q⟩:=h;cases rx;obtain⟨t,rfl⟩:=B;obtain⟨its,r,pl,L⟩:=I.tuple W;obtain⟨j,h1,h2,D,T,K⟩:=wU R;obtain⟨w,g,P⟩:=r.get h2;have Z:=r.length;have S:=qH;have C:EP X pins σ Q w s:=⟨z,H,I,P,q⟩;exact subscriptTail_builtinR (x:=w) pl.typeIs slot_tuple_getitem.lookup
  (getItem_tuple (j:=j) (Q:=fun r s'=>r = w/\EP X pins σ Q r s') pl (by lia) (by lia) (by rw [aF,<- Z]; exact h1) (by simpa using g) ⟨rfl,C⟩) hs
theorem Jz(its:List Value)(n j:Nat)(u:Value):Obj.mapSeq (·.setIfInBounds j u) {cls:=.type "list",data:=.seq its.toArray n}={cls:=.type "list",data:=.seq (its.set j u).toArray n}:=by
 simp[Obj.mapSeq]
theorem Inv.lst{pins:L1}{σ:St}{H:Hp}{s:Shared}{p:Addr}{xs:List V}(I:Inv X pins σ H s)(h:H p=some (.lst xs)):
  ∃(its:List Value) (n:Nat),Vals xs its/\s.heap.get? p=some {cls:=.type "list",data:=.seq its.toArray n}/\xs.length<=sizeLine:=by
 obtain⟨z,its,n,r,e⟩:=I.hok p _ h;exact⟨its,n,r,e,z⟩
theorem Inv.lstUpd{σ:St}{p:Addr}{xs ys:List V}{its its':List Value}{n c:Nat}{f:Obj->Obj}(I:Inv X pins σ H s)(h:H p=some (.lst xs))
  (M:s.heap.get? p=some {cls:=.type "list",data:=.seq its.toArray n}) (B:f {cls:=.type "list",data:=.seq its.toArray n}={cls:=.type "list",data:=.seq its'.toArray c}) (r:Vals ys its') (L:ys.length<=sizeLine) (t:Nat):
  Inv X pins σ (upd H p (.lst ys)) {s with heap:=s.heap.update p f,toks:=t}:=by
 have e:(s.heap.update p f).get? p=some {cls:=.type "list",data:=.seq its'.toArray c}:=by
  rw[cY f M (by rw[B]<;>rfl),B]
 refine I.write (x:=p) (e:=p) (by rw[h];trivial) (.inl rfl) (fun b u U q=>(bJ _ _ (c7 U)).trans q) ⟨_,e⟩ ?_;exact⟨L,its',c,r,e⟩
noncomputable def ED:V->V->V->Hp->(Hp->Prop)->Prop:=fun o i v H Q=>∃p xs k j,o= .ref p/\i= .int k/\H p=some (.lst xs)/\lx xs.length k=some j/\Q (upd H p (.lst (xs.set j v)))
theorem HU:PSet X ED:=by
 intro pins s σ H o i v z b u Q I c d m h;obtain⟨p,xs,k,j,rfl,rfl,O,W,q⟩:=h;cases c;obtain⟨t,rfl⟩:=d;obtain⟨its,n,r,M,L⟩:=I.lst O;obtain⟨h1,h2,D,T⟩:=AJ W;have Z:=r.length;have S:=qH;have a:Inv X pins σ (upd H p (.lst (xs.set j v))) {s with heap:=s.heap.update p (Obj.mapSeq (·.setIfInBounds j u))}:=
  I.lstUpd O M (Jz its n j u) (r.set m j) (by rw[cL];exact L) s.toks
 by_cases A:0<=k
 ·have F:k.toNat=j:=by
   rw[g6 A T]at h1;exact aJ h1
  exact PySem.W.ki_setAt M A (by lia) (by rw [aF,<- Z]; exact T) (by rw [F]; exact ⟨_,a,q⟩)
 ·have F:(k+(its.toArray.size:Int)).toNat=j:=by
   rw[seqIndex_neg (by lia) D]at h1;rw [aF,<- Z];exact aJ h1
  exact PySem.W.ki_setBack M (by lia) (by rw [aF,<- Z]; exact D) (by lia) (by rw [F]; exact ⟨_,a,q⟩)
theorem Ku(lo hi:Option Int)(n:Nat):(sliceBounds lo hi none n).1=((HT.i7 n 0 lo:Nat):Int)/\(sliceBounds lo hi none n).2.1=((HT.i7 n n hi:Nat):Int)/\(sliceBounds lo hi none n).2.2=1:=by
 refine⟨?_,?_,rfl⟩
 ·cases lo with
  |none=>simp[sliceBounds,HT.i7]
  |some i=>
   simp only[sliceBounds,HT.i7,Option.getD_none,show(1:Int)>0 by decide,if_true];by_cases h:i<0
   ·simp only[h,if_true]<;>lia
   ·simp only[h,if_false]<;>lia
 ·cases hi with
  |none=>simp[sliceBounds,HT.i7]
  |some i=>
   simp only[sliceBounds,HT.i7,Option.getD_none,show(1:Int)>0 by decide,if_true];by_cases h:i<0
   ·simp only[h,if_true]<;>lia
   ·simp only[h,if_false]<;>lia
theorem KH(its:List Value)(lo hi:Option Int):slicePick its.toArray lo hi none=((its.drop (HT.i7 its.length 0 lo)).take (HT.i7 its.length its.length hi-HT.i7 its.length 0 lo)).toArray:=by
 obtain⟨h1,h2,D⟩:=Ku lo hi its.toArray.size;unfold slicePick;rw[h1,h2,D];simp only[sliceRange_one,pick_run,aF]<;>rfl
noncomputable def EC(K:L3):V->Option Int->Option Int->Hp->VK->Prop:=fun x lo hi H Q=>∃a xs,x= .ref a/\SqL K H a xs/\∀p,H p=none->Q (.ref p) (upd H p (.lst (lQ xs lo hi)))
theorem GJ:SlR X (EC X.K):=by
 intro pins s σ H x v i c lo hi sl Q I rx hs pl z h;obtain⟨a,xs,rfl,G,q⟩:=h;cases rx;obtain⟨its,r,S,L⟩:=I.list G;have g:=r.length;refine⟨"list",_,gI.lookup,S.isList.typeIs,?_⟩;refine wpAny_getItem_list_slice S.isList hs pl z .none (by simp) ?_ (by rw[aF]<;>lia);rw [KH,<- g];refine⟨.ref s.heap.objs.size,_,I.laid (t':=s.toks) (o:=.lst (lQ xs lo hi)) (fun b l q=>ag _ q) (ay _) ?_,rfl,q _ (I.hok.fresh (ay _))⟩;exact⟨bw (Dc xs lo hi) L,_,0,(r.drop (HT.i7 xs.length 0 lo)).take (HT.i7 xs.length xs.length hi-HT.i7 xs.length 0 lo),aW _ rfl⟩
noncomputable def kD:V->Bool
 | .non=>true
 | .bl _=>true
 | .int _=>true
 | .str _=>true
 |_=>false
noncomputable def mO:V->V->Bool
 | .non,.non=>true
 | .bl a,.bl b=>a==b
 | .bl a,.int b=>(if a then 1 else 0)==b
 | .int a,.bl b=>a==(if b then 1 else 0)
 | .int a,.int b=>a==b
 | .str a,.str b=>a==b
 |_,_=>false
theorem zH{A:Around}{y:V}{u v:Value}(B:RelV y u)(rx:RelV x v)(f:kD y=true)(i:kD x=true):SeqAt.EqAt A s u v (mO y x):=by
 cases y with
 |non=>
  cases B;cases x with
  |non=>cases rx;exact hJ _
  |bl b=>cases rx;exact SeqAt.EqAt.none_bool b
  |int b=>obtain⟨t,rfl⟩:=rx;exact SeqAt.EqAt.none_int b t
  |str b=>obtain⟨t,rfl⟩:=rx;exact SeqAt.EqAt.none_str b t
  |_=>exact absurd (show false=true from i) bo
 |bl a=>
  cases B;cases x with
  |non=>cases rx;exact SeqAt.EqAt.bool_none a
  |bl b=>cases rx;exact SeqAt.EqAt.bool_bool a b
  |int b=>obtain⟨t,rfl⟩:=rx;exact SeqAt.EqAt.bool_int a b t
  |str b=>obtain⟨t,rfl⟩:=rx;exact SeqAt.EqAt.bool_str a b t
  |_=>exact absurd (show false=true from i) bo
 |int a=>
  obtain⟨t',rfl⟩:=B;cases x with
  |non=>cases rx;exact SeqAt.EqAt.int_none a t'
  |bl b=>cases rx;exact SeqAt.EqAt.int_bool a t' b
  |int b=>obtain⟨t,rfl⟩:=rx;exact gF a t' b t
  |str b=>obtain⟨t,rfl⟩:=rx;exact SeqAt.EqAt.int_str a t' b t
  |_=>exact absurd (show false=true from i) bo
 |str a=>
  obtain⟨t',rfl⟩:=B;cases x with
  |non=>cases rx;exact SeqAt.EqAt.str_none a t'
  |bl b=>cases rx;exact SeqAt.EqAt.str_bool a t' b
  |int b=>obtain⟨t,rfl⟩:=rx;exact SeqAt.EqAt.str_int a t' b t
  |str b=>obtain⟨t,rfl⟩:=rx;exact SeqAt.EqAt.str_str a t' b t
  |_=>exact absurd (show false=true from i) bo
 |_=>exact absurd (show false=true from f) bo
noncomputable def lY(x:V)(u:Value):Bool:=match u with
 | .none=>mO .non x
 | .bool b=>mO (.bl b) x
 | .int i _=>mO (.int i) x
 | .str z _=>mO (.str z) x
 |_=>false
theorem zI{y:V}{u:Value}(r:RelV y u)(f:kD y=true):lY x u=mO y x:=by
 cases y with
 |non=>cases r;rfl
 |bl b=>cases r;rfl
 |int i=>obtain⟨t,rfl⟩:=r;rfl
 |str z=>obtain⟨t,rfl⟩:=r;rfl
 |_=>exact absurd (show false=true from f) bo
theorem rW{x:V}:∀{xs:List V} {us:List Value},Vals xs us->xs.all kD=true->us.any (lY x)=xs.any fun y=>mO y x
 |_,_,.nil,_=>rfl
 |y::xs,u::us,.cons r t,f=>by
  rw[List.all_cons,aQ]at f;rw[List.any_cons,List.any_cons,zI r f.1,rW t f.2]
theorem se{A:Around}{s:Shared}{x:V}{v:Value}(rx:RelV x v)(i:kD x=true):∀{xs:List V} {us:List Value},Vals xs us->xs.all kD=true->∀u∈us,SeqAt.EqAt A s u v (lY x u)
 |_,_,.nil,_=>fun u F=>by cases F
 |y::xs,u::us,.cons r t,f=>fun P F=>by
  rw[List.all_cons,aQ]at f;rcases aV.mp F with rfl|F
  ·rw[zI r f.1];exact zH r rx f.1 i
  ·exact se rx i t f.2 P F
noncomputable def oS(x:V)(xs:List V):Bool:=xs.any fun y=>mO y x
noncomputable def vD(K:L3)(n:Bool):R2:=fun x y H Q=>∃p xs,y= .ref p/\(SqL K H p xs\/SqT K H p xs)/\kD x=true/\xs.all kD=true/\Q (.bl (if n then !oS x xs else oS x xs)) H
theorem IT:OpR X (compareOp .In) (vD X.K false):=by
 intro pins s σ H x y v u Q I rx B h;obtain⟨p,xs,rfl,W,i,fs,q⟩:=h;cases B;rcases W with W|W
 ·obtain⟨its,r,pl,L⟩:=I.list W;refine SeqAt.in_listAt (lY x) pl.isList (fun w V=>se rx i r fs w (by simpa using V)) ⟨.bl _,H,I,rfl,?_⟩;rw[show its.toArray.any (lY x)=its.any (lY x) by simp,rW r fs];exact q
 ·obtain⟨its,r,pl,L⟩:=I.tuple W;refine SeqAt.in_tupleAt (lY x) pl (fun w V=>se rx i r fs w (by simpa using V)) ⟨.bl _,H,I,rfl,?_⟩;rw[show its.toArray.any (lY x)=its.any (lY x) by simp,rW r fs];exact q
theorem Kt:OpR X (compareOp .NotIn) (vD X.K true):=by
 intro pins s σ H x y v u Q I rx B h;obtain⟨p,xs,rfl,W,i,fs,q⟩:=h;cases B;rcases W with W|W
 ·obtain⟨its,r,pl,L⟩:=I.list W;refine SeqAt.notIn_listAt (lY x) pl.isList (fun w V=>se rx i r fs w (by simpa using V)) ⟨.bl _,H,I,rfl,?_⟩;rw[show its.toArray.any (lY x)=its.any (lY x) by simp,rW r fs];exact q
 ·obtain⟨its,r,pl,L⟩:=I.tuple W;refine SeqAt.notIn_tupleAt (lY x) pl (fun w V=>se rx i r fs w (by simpa using V)) ⟨.bl _,H,I,rfl,?_⟩;rw[show its.toArray.any (lY x)=its.any (lY x) by simp,rW r fs];exact q
theorem yu:jcq X (.builtin "len") (fun xs H Q=>∃p ys,xs=[.ref p]/\(SqL X.K H p ys\/SqT X.K H p ys)/\Q (.int ys.length) H):=by
 intro pins s σ H xs us Q I r h;obtain⟨p,ys,rfl,W,q⟩:=h;obtain⟨u,rfl,rx⟩:=pJ r;cases rx;have S:=qH;rcases W with W|W
 ·obtain⟨its,r',pl,L⟩:=I.list W;have g:=r'.length;exact Calls.call_len_list pl.isList (by simp only[aF]<;>lia) ⟨.int ys.length,H,I.tok _,⟨s.toks+1,by rw[aF,g]⟩,q⟩
 ·obtain⟨its,r',pl,L⟩:=I.tuple W;have g:=r'.length;exact len_tuple pl (by simp only[aF]<;>lia) ⟨.int ys.length,H,I.tok _,⟨s.toks+1,by rw[aF,g]⟩,q⟩
theorem Km:jcq X (.type "list") (fun xs H Q=>∃p ys,xs=[.ref p]/\(SqL X.K H p ys\/SqT X.K H p ys)/\∀l,H l=none->Q (.ref l) (upd H l (.lst ys))):=by
 intro pins s σ H xs us Q I r h;obtain⟨p,ys,rfl,W,q⟩:=h;obtain⟨u,rfl,rx⟩:=pJ r;cases rx;have C:∀(its:List Value),Vals ys its->ys.length<=sizeLine->∀(h':Heap) (R:Nat),(∀b o',s.heap.get? b=some o'->h'.get? b=some o')->
   h'.get? s.heap.objs.size=some {cls:=.type "list",dict:=none,data:=.seq its.toArray R,slots:=#[]}->EP X pins σ Q (.ref s.heap.objs.size) {s with heap:=h'}:=fun its r' L h' R O e=>
  ⟨.ref s.heap.objs.size,_,I.laid (t':=s.toks) O (ay _) (show jc2 X.prog X.w _ h' _ (.lst ys)from⟨L,its,R,r',e⟩),rfl,q _ (I.hok.fresh (ay _))⟩
 rcases W with W|W
 ·obtain⟨its,r',pl,L⟩:=I.list W;have g:=r'.length;obtain⟨o,M,Y,n,J⟩:=pl.isList;exact call_list_seq p (.inl rfl) M Y J (fun h' R O e=>C its r' L h' R O e) (by simp only[aF]<;>lia)
 ·obtain⟨its,r',pl,L⟩:=I.tuple W;have g:=r'.length;obtain⟨o,M,Y,n,J⟩:=pl;exact call_list_seq p (.inr rfl) M Y J (fun h' R O e=>C its r' L h' R O e) (by simp only[aF]<;>lia)
noncomputable def D6(K:L3)(T:String)(x:V)(H:Hp):Prop:=match x with
 | .str _=>T="str"
 | .int _=>T="int"
 | .ref p=>(T="list"/\∃xs,SqL K H p xs)\/(T="tuple"/\∃o,K.lookup p=some o/\o.cls= .type "tuple"/\o.dict=none)\/
   (T="dict"/\((∃kvs,H p=some (.dK kvs))\/∃kvs,H p=some (.dT kvs)))\/(T="set"/\∃S n,H p=some (.set S n))
 |_=>False
theorem D5{σ:St}{T:String}{v:Value}(I:Inv X pins σ H s)(r:RelV x v)(ty:D6 X.K T x H):
  s.TypeIs v T/\∀a,v= .ref a->∃l,s.heap.get? a=some l/\l.dict=none:=by
 cases x with
 |str z=>
  obtain⟨t,rfl⟩:=r;cases(show T="str" from ty);exact⟨typeIs_str s z t,fun _ e=>nomatch e⟩
 |int i=>
  obtain⟨t,rfl⟩:=r;cases(show T="int" from ty);exact⟨typeIs_int s i t,fun _ e=>nomatch e⟩
 | ref p=>
  cases r;rcases ty with⟨rfl,xs,W⟩|⟨rfl,o,F,Y,J⟩|⟨rfl,F⟩|⟨rfl,S,n,F⟩
  ·obtain⟨its,_,pl,_⟩:=I.list W;refine⟨pl.isList.typeIs,fun a e=>?_⟩;cases e;obtain⟨o,n,e,c,J,_⟩:=pl;exact⟨o,e,J⟩
  ·refine⟨⟨o,I.kIn p o F,Y⟩,fun a e=>?_⟩;cases e;exact⟨o,I.kIn _ o F,J⟩
  ·have z:∃o,s.heap.get? p=some o/\o.ExactDict:=by
    rcases F with⟨kvs,F⟩|⟨kvs,F⟩
    ·obtain⟨_,_,_,_,o,_,_,e,ex,_⟩:=I.hok p _ F;exact⟨o,e,ex⟩
    ·obtain⟨_,_,_,_,o,_,_,e,ex,_⟩:=I.hok p _ F;exact⟨o,e,ex⟩
   obtain⟨o,e,ex⟩:=z;refine⟨⟨o,e,ex.1⟩,fun a e2=>?_⟩;cases e2;exact⟨o,e,ex.2.1⟩
  ·obtain⟨o,_,_,_,e,ex,_⟩:=I.hok p _ F;refine⟨⟨o,e,ex.1⟩,fun a e2=>?_⟩;cases e2;exact⟨o,e,ex.2.1⟩
 |_=>exact False.elim ty
end
variable{o e:Expr}{es:List Expr}{to:TE}{t:TA}{name:Str}{apos cpos:Pos}{T id:String}{r:V->List V->Hp->VK->Prop}
/- xs.append(e),list.index on a module's tuple .. are MtR facts of 06m -/
end
noncomputable def LV(X:Cx)(id:String)(r:V->List V->Hp->VK->Prop):Prop:=
 ∀(pins:L1) (s:Shared) (σ:St) (H:Hp) (x:V) (xs:List V) (v:Value) (us:List Value) (Q:VK),Inv X pins σ H s->RelV x v->Vals xs us->r x xs H Q->
  wpAny (model X.prog X.w) X.A (call (.builtin id) (v::us)) (EP X pins σ Q) X.xe s
theorem Vals.one{x:V}{us:List Value}(h:Vals [x] us):∃u,us=[u]/\RelV x u:=by
 rcases h with _|⟨r,z⟩;cases z;exact⟨_,rfl,r⟩
theorem Vals.two{x y:V}{us:List Value}(h:Vals [x,y] us):∃u v,us=[u,v]/\RelV x u/\RelV y v:=by
 rcases h with _|⟨r,_|⟨q,z⟩⟩;cases z;exact⟨_,_,rfl,r,q⟩
theorem Vals.rep{xs:List V}{us:List Value}(h:Vals xs us):∀k:Nat,Vals (List.replicate k xs).flatten (List.replicate k us).flatten
 |0=>.nil
 |k+1=>by
  rw[List.replicate_succ,List.replicate_succ,List.flatten_cons,List.flatten_cons];exact Vals.append h (Vals.rep h k)
section
variable{X:Cx}{pins:L1}{σ:St}{H:Hp}{s:Shared}{l b:Addr}{xs ys zs:List V}{prog:Program}{w:World}{A:Around}{E:LZ}{its:List Value}{t' n:Nat}
theorem Inv.lset{its':List Value}{f:Array Value->Array Value}(I:Inv X pins σ H s)(c:H l=some (.lst xs))
  (e:s.heap.get? l=some {cls:=.type "list",data:=.seq its.toArray n}) (B:f its.toArray=its'.toArray) (Y:Vals ys its') (L:ys.length<=sizeLine):
  Inv X pins σ (upd H l (.lst ys)) {s with heap:=s.heap.update l (Obj.mapSeq f),toks:=t'}:=by
 have q:=PySem.IsL.update e f;rw[B]at q;refine I.write (x:=l) (e:=l) (by rw[c];exact trivial) (.inl rfl) (fun b' u U F=>(bJ s.heap (Obj.mapSeq f) (c7 U)).trans F) ⟨_,q⟩ ?_;exact⟨L,its',_,Y,q⟩
theorem Inv.lnew(I:Inv X pins σ H s)(Y:Vals ys its)(L:ys.length<=sizeLine):
  Inv X pins σ (upd H s.heap.objs.size (.lst ys)) {s with heap:=s.heap.push {cls:=.type "list",data:=.seq its.toArray},toks:=t'}:=
 I.laid (fun _ _ q=>ag _ q) (ay _) ⟨L,its,0,Y,aW _ rfl⟩
theorem Inv.fresh(I:Inv X pins σ H s):H s.heap.objs.size=none:=I.hok.fresh (ay _)
theorem Inv.lstM(I:Inv X pins σ H s)(c:H l=some (.lst xs)):xs.length<=sizeLine/\∃(its:List Value) (n:Nat),Vals xs its/\xs.length=its.length/\s.heap.get? l=some {cls:=.type "list",data:=.seq its.toArray n}:=by
 obtain⟨z,its,n,r,e⟩:=I.hok l _ c;exact⟨z,its,n,r,r.length,e⟩
theorem Hs(h:n<=sizeLine):Builtin.List.listTooLong n=false:=by
 unfold Builtin.List.listTooLong;exact aA (by lia)
noncomputable def A3:V->List V->Hp->VK->Prop:=fun x vs H Q=>∃l xs y,x= .ref l/\vs=[y]/\H l=some (.lst xs)/\xs.length<sizeLine/\Q .non (upd H l (.lst (xs++[y])))
theorem Cw:LV X "list.append" A3:=by
 intro pins s σ H x vs v us Q I rx m h;obtain⟨l,xs,y,rfl,rfl,c,L,q⟩:=h;cases rx;obtain⟨u,rfl,D⟩:=m.one;obtain⟨z,its,n,r,Z,e⟩:=I.lstM c;refine call_meets F.slot_list_append ⟨_,e,rfl⟩ F.entry_list_append (F.args_list_append_2 _ _) (PySem.list_append l its.toArray n u (by rw[aF];lia)) ⟨e,?_⟩;refine⟨.non,_,I.lset (its':=its++[u]) c e (by simp) (r.append (.cons D .nil)) ?_,rfl,q⟩;rw[aH,List.length_singleton];lia
noncomputable def ER:R2:=fun x y H Q=>∃l b xs zs,x= .ref l/\y= .ref b/\H l=some (.lst xs)/\H b=some (.lst zs)/\xs.length+zs.length<=sizeLine/\∀p,H p=none->Q (.ref p) (upd H p (.lst (xs++zs)))
theorem Fv:OpR X (binaryOp .Add) ER:=by
 intro pins s σ H x y v u Q I rx B h;obtain⟨l,b,xs,zs,rfl,rfl,c,D,L,q⟩:=h;cases rx;cases B;obtain⟨z,its,n,r,Z,e⟩:=I.lstM c;obtain⟨f,C,V,P,a,e2⟩:=I.lstM D;refine PySem.P.add_list e e2 ?_ (by rw[aF,aF];lia);have T:its.toArray++C.toArray=(its++C).toArray:=by simp
 rw[T];exact⟨.ref _,_,I.lnew (t':=s.toks) (r.append P) (by rw[aH];lia),rfl,q _ I.fresh⟩
end
end L2
namespace Att
open PySem PySem.W PySem.Calls PyProof.Rows
section
variable{l:OpenLaw}{P:Params}{h:Heap}{n:Nat}
theorem KR:∀(ns:List Int) (vs:List Value),WellAll P h vs (ns.map WData.int)->IntsAre vs ns:=by
 intro ns
 induction ns with
 |nil=>
  intro vs w;rw[bO]at w;cases w;exact .nil
 | cons n ns E=>
  intro vs w;rw[ai]at w;cases w with
  |cons a b=>
   cases a;exact .cons _ _ (E _ b)
theorem Jb(S:l.most=some n){args:List WData}{v:List Value}
  (e:l.row.toRowW.claim.pre args=true) (c:WellAll P h v args):
  ∃a vs ns,v=[Value.ref a]/\args=[WData.list (ns.map WData.int)]/\h.get? a=some {cls:=.type "list",data:=.seq vs.toArray}/\IntsAre vs ns/\ns.length<=n:=by
 have f:WShape.hasAll [] args [.list .int]=true:=(pre_splitW e).1;have Y:l.pre.holds [] {args:=args}=true:=(pre_splitW e).2;obtain⟨d,r,rfl,h1,h2⟩:=hasAllW_cons f;obtain rfl:=hasAllW_nil h2;obtain⟨xs,rfl,D⟩:=hasW_list h1;obtain⟨ns,rfl⟩:=items_int D;have g:ns.length<=n:=by
  unfold OpenLaw.pre at Y;have T:(WTm.not (.lt (.lit (.int (n:Int))) (.len (.arg 0)))).holds [] {args:=[.list (ns.map .int)]}=true:=by
   have T:=(holds_andW Y).1;rw[S]at T;exact T
  have K:=condW_of T (w_not (w_lt w_lit (w_len_list (w_arg rfl))));rw[aa]at K;refine Nat.le_of_not_lt fun q=>?_;have L:(n:Int)<((ns.length:Nat):Int):=by lia
  first
   |(rw[ao L]at K;exact absurd K (by decide))
   |(simp at K;lia)
 cases c with
 |cons m N=>
  cases N;cases m with
  |list M b=>exact⟨_,_,ns,rfl,rfl,M,KR ns _ b,g⟩
theorem IY(l:OpenLaw)(args:List WData):l.row.toRowW.claim.post args (.bool true) args=true:=
 postW_of (r:=l.row.toRowW) (X:=(true==true))
  (show WShape.has [] (.bool true) .bool=true by first|rfl|decide|simp[WShape.has,WShape.arms,WShape.armsAll])
  (show(WTm.eq .res (.lit (.bool true))).value [] {args:=args,res:=some (.bool true),after:=args}=some (.bool (true==true))from w_eq_bool (w_res rfl) w_lit) rfl
theorem LI{q:Program}{b:List Str}{E:(L4)->Heap->Prop}{P:World->Heap->Prop}{d:DefRec}
  (S:l.most=some n) (t:d.params.defaults=[])
  (call:∀(w:World) (p B:Shared) (mg N:L4) (fa:Addr) (o:Obj) (pm cd i:Value) (a:Addr) (vs:List Value) (ns:List Int),
   Ground q b [] E w p mg N B.heap->P w B.heap->
   B.heap.get? fa=some o->o.data= .func (docDef d.name d.params d.body d.scope pm cd i)->B.heap.CodeRec cd d.name->mg d.name=some (.ref fa)->
   B.heap.get? a=some {cls:=.type "list",data:=.seq vs.toArray}->IntsAre vs ns->ns.length<=n->B.gens= #[]->
   codeAny (model l.prog w) callerA (.call (.ref fa) ⟨[.ref a],[]⟩) (fun r s'=>r= .ok (.ret (.bool true))/\OldK B.heap s'.heap/\s'.os=B.os/\AllBare s'.gens) B):
  WalkO q b E P l.row.toRowW d [] (fun f vs=>PySem.call f vs):=by
 intro w p B mg N G Y fa o pm cd i V kV M J z j C y s v as e h u c k;obtain rfl:V= .none:=Dflts.none j t;obtain rfl:kV= .none:=Dflts.noKw j;obtain⟨a,vs,ns,rfl,rfl,A,m,g⟩:=Jb S e c;refine enter_call (gL (call w p B mg N fa o pm cd i a vs ns G Y M (fd_plain J) z C A m g y) fun r s' W=>?_);obtain⟨rfl,h2,D,T⟩:=W;exact⟨.inl ⟨.bool true,.bool true,[],rfl,fun _=>rfl,.bool true,IY l _,fun _=>⟨List.Pairwise.nil,fun _ K=>(nomatch K)⟩⟩,h2,D,T⟩
end
section
variable{prog:Program}{w:World}{A:Around}{E:LZ}{s:Shared}{K:Frag}
end
end Att
namespace L2
open PySem PySem.Spec PyProof.Rows
section
variable{vs:List Value}{ns:List Int}{x:Str}
theorem CN(C:IntsAre vs ns):Vals (ns.map V.int) vs:=by
 induction C with
 |nil=>exact .nil
 |cons n t h E=>exact .cons ⟨t,rfl⟩ E
noncomputable def vt(H:Hp):Prop:=∀b,H b=none\/∃o xs,H b=some (.frz o (.lst xs))
theorem Hi{P:Program}{w:World}{K:L3}{mg N:L4}{CX:l6}{k:Nat}{fa a:Addr}{fd:FuncData}{sp:Sp}{B:Shared}
  (O:K.In B.heap) (G:B.heap.Ns mainGlobals mg) (U:B.heap.Ns builtinsNs N) (F':∀x:Str,x≠"__name__"->N x=bootBuiltins x) (B':B.heap.NoLimit) (y:B.gens= #[])
  (J:B.heap.get? a=some {cls:=.type "list",data:=.seq vs.toArray}) (hi:IntsAre vs ns) (Z:ns.length<=sizeLine) (M:Room k callerA)
  (F:∀base:Heap,K.In base->base.Ns mainGlobals mg->FnOk P w K mg base CX k fa fd [x] sp) (W:∀(s:Shared) (u:Value),BindsTo s fd ⟨[u],[]⟩ [(x,u)])
  (D:∀H:Hp,vt H->SqL K H a (ns.map V.int)->sp [.ref a] H (fun v _=>v= .bl true) fun _ _ _=>False)
  (sq:∀H e s',CX [] H B (fun _ _ _=>False) e s'->False):
  codeAny (model P w) callerA (.call (.ref fa) ⟨[.ref a],[]⟩) (fun r s'=>r= .ok (.ret (.bool true))/\OldK B.heap s'.heap/\s'.os=B.os/\AllBare s'.gens) B:=by
 have p:=CN hi;have A':=hi.length
  -- from an abstract heap in which nothing but the script may be tracked
 have R:∀H:Hp,vt H->SqL K H a (ns.map V.int)->HOk P w H B.heap->(∀b,H b≠none->b=a)->(H a≠none->K.lookup a=none)->
   codeAny (model P w) callerA (.call (.ref fa) ⟨[.ref a],[]⟩) (fun r s'=>r= .ok (.ret (.bool true))/\OldK B.heap s'.heap/\s'.os=B.os/\AllBare s'.gens) B:=by
  intro H Q c A hA S;have i:∀{b:Addr} {o:Obj},B.heap.get? b=some o->H b=none->(oh B.heap H).get? b=some o:=fun e n=>Ha e n;have t:∀{b:Addr} {o:Obj} {es:Array DictEntry} {Y:Nat},B.heap.get? b=some o->o.data= .dict es Y->H b=none:=fun{b o es Y} e d=>by
   cases q:H b with
   |none=>rfl
   |some u=>
    have T:b=a:=hA b (by rw[q];simp);subst T;rw[J]at e;cases e;have d':Data.seq vs.toArray _=Data.dict es Y:=d;cases d'
  have I:∀{b:Addr} {m:L4},B.heap.Ns b m->(oh B.heap H).Ns b m:=fun{b m} ⟨o,es,Y,e,d,r⟩=>⟨o,es,Y,i e (t e d),d,r⟩;have i':K.In (oh B.heap H):=fun b o e=>i (O b o e) (by
   cases q:H b with
   |none=>rfl
   |some u=>
    have T:b=a:=hA b (by rw[q];simp);subst T;rw[S (by rw[q];simp)]at e;cases e)
  have hM:Mod K mg (oh B.heap H):=⟨i',I G,⟨N,I U,F'⟩,let⟨mc,h1,h2⟩:=B';⟨mc,I h1,h2⟩⟩;have X:Env0 P w K mg (oh B.heap H) callerA [] B H:=⟨rfl,hM,fun b o e=>Gj e,Nat.le_of_eq (Iw _ _),trivial,fun b U=>absurd (show b∈([]:List Addr)from U) (by simp),A,.of_eq y⟩;refine gL ((F _ i' (I G)).run callerA [] B H ⟨[.ref a],[]⟩ [.ref a] [.ref a] _ _ M X (W B (.ref a)) (.cons rfl .nil) (D H Q c)) fun r s' h=>?_;cases r with
  |error e=>exact(sq H e s' h).elim
  | ok g=>
   cases g with
   |next=>exact False.elim h
   |brk=>exact False.elim h
   |cont=>exact False.elim h
   | ret u=>
    obtain⟨v,H',os,E,un,sz,r',q⟩:=h;have L:v= .bl true:=q;subst L;obtain rfl:u=Value.bool true:=r';refine⟨rfl,OldK.of_keep fun b o e=>?_,os,E⟩;cases q:H b with
    |none=>exact un.keep b o e q (by intro z;exact absurd (show b∈([]:List Addr)from z) (by simp)) (by simp)
    | some u=>
     rcases Q b with z|⟨l,xs,z⟩
     ·rw[q]at z;cases z
     ·have f:=un.frzs b l _ z;obtain⟨e1,_⟩:=A b _ z;obtain⟨e2,_⟩:=sz b _ f;rw[e]at e1;cases e1;exact e2
 cases j:K.lookup a with
 | some o=>
    -- the script is one of the module's own objects
  have e:=O a o j;rw[J]at e;cases e;refine R (fun _=>none) (fun _=>.inl rfl) (.inr ⟨_,vs.toArray,_,j,rfl,rfl,rfl,by rw[aF,A'];exact Z,by simpa using p⟩) (fun b u z=>by have C:(none:Option HO)=some u:=z;cases C) (fun b z=>absurd rfl z) fun z=>absurd rfl z
 | none=>
  refine R (fun b=>if b=a then some (.frz {cls:=.type "list",data:=.seq vs.toArray} (.lst (ns.map V.int)))else none) (fun b=>?_) (.inl (.inr ⟨{cls:=.type "list",data:=.seq vs.toArray},aI rfl⟩)) (fun b u z=>?_) (fun b z=>?_) fun _=>j
  ·by_cases U:b=a
   ·exact .inr ⟨_,_,aI U⟩
   ·exact .inl (aG U)
  ·by_cases U:b=a
   ·have C:=(aI U).symm.trans z;cases C;subst U;exact⟨J,by rw[aa];exact Z,vs,_,p,J⟩
   ·have C:=(aG U).symm.trans z;cases C
  ·by_cases U:b=a
   ·exact U
   ·exact absurd (aG U) z
abbrev DX{K:L3}{h:Heap}(_:K.In h):L3:=K
theorem Bt{l:PySem.W.OpenLaw}{n k:Nat}{q:Program}{b:List Str}{E:(L4)->Heap->Prop}{P:World->Heap->Prop}{d:DefRec}{K:Params->L3}{CX:World->l6}{sp:World->Sp}
    (S:l.most=some n) (L:n<=sizeLine) (t:d.params.defaults=[]) (M:Room k callerA)
    (r:∀(w:World) (h:Heap),P w h->(K w.params).In h)
    (F:∀(w:World) (mg:L4) (fa:Addr) (h:Heap),(K w.params).In h->h.Ns mainGlobals mg->mg d.name=some (.ref fa)->
      ∃fd:FuncData,(∀(s:Shared) (u:Value),BindsTo s fd ⟨[u],[]⟩ [(x,u)])/\
        ∀base:Heap,(K w.params).In base->base.Ns mainGlobals mg->FnOk l.prog w (K w.params) mg base (CX w) k fa fd [x] (sp w))
    (D:∀(w:World) (H:Hp) (a:Addr) (ns:List Int),ns.length<=n->vt H->SqL (K w.params) H a (ns.map V.int)->sp w [.ref a] H (fun v _=>v= .bl true) fun _ _ _=>False)
    (X:∀(w:World) (H:Hp) (s:Shared) (e:Value) (s':Shared),CX w [] H s (fun _ _ _=>False) e s'->False):
    PySem.W.WalkO q b E P l.row.toRowW d [] (fun f vs=>PySem.call f vs):=by
  refine Att.LI S t fun w p B mg N fa o pm cd i a vs ns G Y j J z C A m g y=>?_;have O:=r w _ Y;obtain⟨fd,U,I⟩:=F w mg fa _ O G.T.g C;exact Hi O G.T.g G.T.b G.T.builtins G.T.nolimit y A m (bw g L) M I U (fun H Q c=>D w H a ns g Q c) fun H e s'=>X w H B e s'
end
end L2
/- THE LAST THEOREM (shape;LID,My.*are yours):
   My.Adr:a structure of the addresses that your layer names (classes,functions);My.Txt K t:a structure (Prop) of the equations over K;
   My.txt_mk:{K} {implicit addresses ..} (e1:nsIn K mainGlobals "law"=some (some (.ref f))) (e2:K.lookup f=some ⟨oc,od,.func (fnOf "law" "law" params body scope dV kV doc pm an cdv ct),sl⟩) (e3:codeIn K cdv "law"=true) ..:∃t,My.Txt K t
set_option maxRecDepth 100000 in
set_option maxHeartbeats 0 in
theorem PySem.Challenge.cw_LID_holds:PySem.Challenge.rw_LID.Holds:=by
 w_on;o_law;k_head;(case hw=>w_witness2)
 k_fill
 refine L2.Bt (l:=PySem.Challenge.rw_LID) (n:=63) (k:=40) (x:="script") (CX:=fun w=>..) (sp:=fun _=>My.sp_law) rfl (by decide) rfl ⟨rfl,by decide,by decide⟩ (fun w h Y=>PySem.W.kIn_of Y) ?F ?S ?C
 case F=>
  intro w mg fa h KX G hmg;have T:∃t,My.Txt (L2.DX KX) t:=by
   dsimp only[L2.DX]                          -- K must stand as «<heap const>w.params» for k_is
   refine' My.txt_mk ?e1 ?e2 ?e3 ..
   (case e1=>PySem.W.k_is)                    -- in the order:a name->its address->its object->its parts
   (case e2=>PySem.W.k_is)
   ..
  obtain⟨t,T⟩:=T;have e0:=hmg.symm.trans (c6 KX G T.law);cases e0                                       -- fa is the law's own address;exact⟨_,fun s u=>.of_eq rfl,fun base kb nb=>My.law_fn T kb nb⟩     -- if «.of_eq rfl» comes too early:refine' ⟨_,?b,fun base kb nb=>My.law_fn T kb nb⟩;exact fun s u=>.of_eq rfl
 case S=>exact fun w H a ns hl hO hS=>..
 case C=>exact ..
(the tactic k_is has no namespace:write k_is) -/
namespace L2
open PySem PySem.Spec PyProof.Rows
noncomputable def pQ(s:Stmt):Arguments:=match s with
 | .FunctionDef _ a _ _ _ _ _ _ _ _=>a
 |_=>{posonlyargs:=[],args:=[],vararg:=none,kwonlyargs:=[],kw_defaults:=[],kwarg:=none,defaults:=[]}
noncomputable def nZ(s:Stmt):List Stmt:=match s with
 | .FunctionDef _ _ b _ _ _ _ _ _ _=>b
 |_=>[]
noncomputable def lN(s:Stmt):Scope:=match s with
 | .FunctionDef _ _ _ _ _ _ X _ _ _=>X
 |_=>{kind:=.function,names:=[],isGenerator:=false,isCoroutine:=false}
abbrev iT:l6:=fun _ _ _ _ _ _=>False
abbrev E0:XK:=fun _ _ _=>False
theorem mK{X:Cx}:nW iT X E0:=fun _ _ _ _ _ _ _ h=>h.elim
structure Fun(K:L3)(x qual:Str)(st:Stmt)(f:Addr)(fd:FuncData):Prop where
 ex:∃(oc:Value) (od:Option Addr) (kV doc pm:Value) (an:Option Addr) (cdv ct:Value) (osl:Array (Option Value)),
  fd=PySem.W.fnOf x qual (pQ st) (nZ st) (lN st) .none kV doc pm an cdv ct/\K.lookup f=some ⟨oc,od,.func fd,osl⟩/\PySem.W.codeIn K cdv qual=true
 kp:PySem.W.keepIn K (.ref f)=true
section
variable{P:Program}{w:World}{K:L3}{mg:L4}{base:Heap}{X:Cx}{st:Stmt}{f l:Addr}{k:Nat}
theorem Fun.ok{x qual:Str}{fd:FuncData}{N ps:List Str}{sp:Sp}(F:Fun K x qual st f fd)(S:FnScope N ps (lN st))(len:∀vs H Q E,sp vs H Q E->vs.length=ps.length)
  (c:∀(a:Value) (A:Around) (d:List Env) (s:Shared) (H:Hp) (vs:List V) (Q:VK) (E:XK),Room k (A.deeper (envOfC qual (lN st) s.heap.objs.size f a))->sp vs H Q E->
   ∃t,PSs (qe iT P w K mg base N qual (lN st) f a A d s H E).nox (nZ st) t/\t {nx:=fun _ H'=>Q .non H',rt:=Q} (start N vs) H):FnOk P w K mg base iT (k+1) f fd ps sp:=by
 obtain⟨oc,od,kV,i,pm,an,a,ct,j,rfl,lk,z⟩:=F.ex;refine Lr lk z S len fun A d s H vs Q E M D=>?_;obtain⟨t,h,q⟩:=c a A d s H vs Q E M D;exact⟨t,h.nox,q⟩
theorem zN{x qual:Str}{oc:Value}{od an:Option Addr}{j:Array (Option Value)}{kV i pm a ct:Value}(l:K.lookup f=some ⟨oc,od,.func (PySem.W.fnOf x qual (pQ st) (nZ st) (lN st) .none kV i pm an a ct),j⟩)
  (c:PySem.W.codeIn K a qual=true) (k:PySem.W.keepIn K (.ref f)=true):Fun K x qual st f (PySem.W.fnOf x qual (pQ st) (nZ st) (lN st) .none kV i pm an a ct):=⟨⟨oc,od,kV,i,pm,an,a,ct,j,rfl,l,c⟩,k⟩
theorem jX{A:Around}(M:Room k A):A.units+1<cLine:=fu (Nat.add_le_add_left (by decide:1<=64) _) M.units
theorem kW{c A B:Prop}[Decidable c](h1:c->A)(h2:¬c->B):if c then A else B:=by
 by_cases h:c
 ·rw[aI h];exact h1 h
 ·rw[aG h];exact h2 h
noncomputable def Same(H H':Hp):Prop:=∀b o,H b=some o->H' b=some o
theorem Same.refl(H:Hp):Same H H:=fun _ _ h=>h
theorem Same.trans{H H1 H2:Hp}(a:Same H H1)(b:Same H1 H2):Same H H2:=fun c o h=>b c o (a c o h)
theorem Same.free{H H':Hp}(e:Same H H')(h:H' l=Option.none):H l=Option.none:=by
 cases q:H l with
 |none=>rfl
 |some o=>
  rw[e l o q]at h;cases h
end
end L2
set_option maxHeartbeats 8000000
namespace L2
open PySem PySem.Spec PyProof.Rows
section
variable{κ:Type}[DecidableEq κ]
noncomputable def iX(kvs:List (κ×V))(k:κ):Option V:=(kvs.find? fun L=>decide (L.1=k)).map (·.2)
noncomputable def jr(kvs:List (κ×V))(k:κ)(v:V):List (κ×V):=
 if(kvs.any fun L=>decide (L.1=k))=true then kvs.map (fun L=>if L.1=k then(L.1,v)else L)else kvs++[(k,v)]
theorem mW{p:κ×V}{r:List (κ×V)}{k:κ}(e:p.1=k):iX (p::r) k=some p.2:=by simp[iX,List.find?_cons,e]
theorem mV{p:κ×V}{r:List (κ×V)}{k:κ}(e:¬p.1=k):iX (p::r) k=iX r k:=by simp[iX,List.find?_cons,e]
theorem sh(k:κ):∀kvs:List (κ×V),(kvs.any fun L=>decide (L.1=k))=(iX kvs k).isSome
 |[]=>rfl
 |p::r=>by
  rw[List.any_cons];by_cases e:p.1=k
  ·simp only[mW e,ao e,Bool.true_or,Option.isSome_some]
  ·rw[mV e,aA e,Bool.false_or];exact sh k r
theorem Ca(k j:κ)(y:V):∀kvs:List (κ×V),iX (kvs.map fun L=>if L.1=k then(L.1,y)else L) j=(iX kvs j).map fun x=>if j=k then y else x
 |[]=>rfl
 | p::r=>by
  have E:=Ca k j y r;rw[ai];by_cases h:p.1=k
  ·rw[aI h];by_cases e:p.1=j
   ·rw[mW (p:=(p.1,y)) e,mW e,Option.map_some,aI (e.symm.trans h)]
   ·rw[mV (p:=(p.1,y)) e,mV e,E]
  ·rw[aG h];by_cases e:p.1=j
   ·rw[mW (p:=p) e,mW e,Option.map_some,aG (fun z=>h (e.trans z))]
   ·rw[mV (p:=p) e,mV e,E]
theorem CM(k j:κ)(y:V):∀kvs:List (κ×V),iX kvs k=none->iX (kvs++[(k,y)]) j=if j=k then some y else iX kvs j
 |[],_=>by
  by_cases e:k=j
  ·rw[aI e.symm];exact mW (p:=(k,y)) e
  ·rw[aG (fun z=>e z.symm)];exact mV (p:=(k,y)) e
 |p::r,S=>by
  rw[List.cons_append];have F:¬p.1=k:=fun z=>by rw[mW z]at S;cases S
  rw[mV F]at S;have E:=CM k j y r S;by_cases e:p.1=j
  ·rw[mW e,mW e,aG (fun z=>F (e.trans z))]
  ·rw[mV e,mV e,E]
theorem uS(kvs:List (κ×V))(k j:κ)(y:V):iX (jr kvs k y) j=if j=k then some y else iX kvs j:=by
 unfold jr;by_cases a:(kvs.any fun L=>decide (L.1=k))=true
 ·rw[aI a,Ca];rw[sh]at a;by_cases e:j=k
  ·obtain⟨x,G⟩:=dY.mp a;rw[aI e,e,G,Option.map_some,aI rfl]
  ·rw[aG e];cases iX kvs j with
   |none=>rfl
   |some x=>rw[Option.map_some,aG e]
 ·rw[aG a];refine CM k j y kvs ?_;rw[sh]at a;cases q:iX kvs k with
  |none=>rfl
  |some x=>rw[q]at a;exact(a rfl).elim
theorem ve(kvs:List (κ×V))(k:κ)(v:V):(jr kvs k v).length<=kvs.length+1:=by
 unfold jr;split
 ·rw[aa];lia
 ·rw[aH,List.length_cons,List.length_nil];lia
theorem BS{kvs:List (κ×V)}{k:κ}(v:V)(h:iX kvs k=none):jr kvs k v=kvs++[(k,v)]:=by
 unfold jr;rw[sh,h];exact aG (by decide)
theorem RelO.isSome_eq{o:Option V}{u:Option Value}(r:RelO o u):o.isSome=u.isSome:=by
 cases o with
 |none=>cases u with
  |none=>rfl
  |some _=>exact(show False from r).elim
 |some _=>cases u with
  |none=>exact(show False from r).elim
  |some _=>rfl
theorem RelO.getD{o:Option V}{u:Option Value}{d:V}{d':Value}(r:RelO o u)(f:RelV d d'):RelV (o.getD d) (u.getD d'):=by
 cases o with
 |none=>cases u with
  |none=>exact f
  |some _=>exact(show False from r).elim
 |some _=>cases u with
  |none=>exact(show False from r).elim
  |some _=>exact r
theorem KV.val{kvs:List (κ×V)}{vs:List (κ×Value)}(r:KV kvs vs)(k:κ):RelO (iX kvs k) (valueAt vs k):=by
 unfold KV at r
 induction r with
 |nil=>exact True.intro
 | @cons p q ps qs h t E=>
  obtain⟨h1,h2⟩:=h;by_cases e:p.1=k
  ·have T:q.1=k:=h1.symm.trans e;have b:valueAt (q::qs) k=some q.2:=by simp[valueAt,List.find?_cons,T]
   rw[mW e,b];exact h2
  ·have T:¬q.1=k:=fun z=>e (h1.trans z);have b:valueAt (q::qs) k=valueAt qs k:=by simp[valueAt,List.find?_cons,T]
   rw[mV e,b];exact E
theorem KV.any{kvs:List (κ×V)}{vs:List (κ×Value)}(r:KV kvs vs)(k:κ):(kvs.any fun L=>decide (L.1=k))=vs.any fun L=>decide (L.1=k):=by
 unfold KV at r
 induction r with
 |nil=>rfl
 |cons h t E=>rw[List.any_cons,List.any_cons,E,h.1]
theorem KV.repl{kvs:List (κ×V)}{vs:List (κ×Value)}(r:KV kvs vs)(k:κ){y:V}{u:Value}(B:RelV y u):
  KV (kvs.map fun L=>if L.1=k then(L.1,y)else L) (vs.map fun L=>if L.1=k then(L.1,u)else L):=by
 unfold KV at r ⊢
 induction r with
 |nil=>exact .nil
 | @cons p q ps qs h t E=>
  rw[ai,ai];refine .cons ?_ E;obtain⟨h1,h2⟩:=h;by_cases e:p.1=k
  ·rw[aI e,aI (h1.symm.trans e)];exact⟨h1,B⟩
  ·rw[aG e,aG (fun z=>e (h1.trans z))];exact⟨h1,h2⟩
theorem KV.put{kvs:List (κ×V)}{vs:List (κ×Value)}(r:KV kvs vs)(k:κ){y:V}{u:Value}(B:RelV y u):KV (jr kvs k y) (stored vs k u):=by
 unfold jr stored;rw[r.any k];by_cases e:(vs.any fun L=>decide (L.1=k))=true
 ·rw[aI e,aI e];exact r.repl k B
 ·rw[aG e,aG e];exact Paired.snoc r ⟨rfl,B⟩
theorem KV.keys{kvs:List (κ×V)}{vs:List (κ×Value)}(r:KV kvs vs):kvs.map (·.1)=vs.map (·.1):=by
 unfold KV at r
 induction r with
 |nil=>rfl
 |cons h t E=>rw[ai,ai,E,h.1]
theorem KV.length{kvs:List (κ×V)}{vs:List (κ×Value)}(r:KV kvs vs):kvs.length=vs.length:=aq r
end
section
variable{xs:List (List iw×Addr×Value)}{kvs:List (List iw×V)}{u:Value}{H:Hp}{y:V}
theorem nQ{P:Program}{w:World}{k:iw}(r:RelV (kV k) u):(kg P w).is k u=true:=by
 cases k with
 |inl i=>obtain⟨t,e⟩:=(show ∃t,u=Value.int i t from r);subst e;exact J1 P w i t
 |inr x=>obtain⟨t,e⟩:=(show ∃t,u=Value.str x t from r);subst e;exact J2 P w x t
theorem Ct{P:Program}{w:World}:∀{ks:List iw} {us:List Value},Vals (ks.map kV) us->ItemsAre (kg P w) ks us
 |[],_,r=>by rw[bO]at r;cases r;exact .nil
 |k::ks,_,r=>by
  rw[ai]at r;cases r with
  |cons h t=>exact .cons (nQ h) (Ct t)
abbrev KT(H:Hp):List (List iw×V)->List (List iw×Addr×Value)->Prop:=Paired fun p q=>p.1=q.1/\H q.2.1=some (.tup (p.1.map kV))/\RelV p.2 q.2.2
theorem KT.val(r:KT H kvs xs)(k:List iw):RelO (iX kvs k) ((atKey xs k).map (·.2)):=by
 induction r with
 |nil=>exact True.intro
 | @cons p q ps qs h t E=>
  obtain⟨h1,_,h2⟩:=h;by_cases e:p.1=k
  ·have T:q.1=k:=h1.symm.trans e;have b:atKey (q::qs) k=some q.2:=by simp[atKey,List.find?_cons,T]
   rw[mW e,b];exact h2
  ·have T:¬q.1=k:=fun z=>e (h1.trans z);have b:atKey (q::qs) k=atKey qs k:=by simp[atKey,List.find?_cons,T]
   rw[mV e,b];exact E
theorem KT.repl(r:KT H kvs xs)(k:List iw)(B:RelV y u):
  KT H (kvs.map fun L=>if L.1=k then(L.1,y)else L) (xs.map (putAt k u)):=by
 induction r with
 |nil=>exact .nil
 | @cons p q ps qs h t E=>
  rw[ai,ai];refine .cons ?_ E;obtain⟨h1,h2,D⟩:=h;unfold putAt;by_cases e:p.1=k
  ·rw[aI e,aI (h1.symm.trans e)];exact⟨h1,h2,B⟩
  ·rw[aG e,aG (fun z=>e (h1.trans z))];exact⟨h1,h2,D⟩
theorem KT.put(r:KT H kvs xs)(k:List iw){b:Addr}(U:H b=some (.tup (k.map kV)))(B:RelV y u):
  KT H (jr kvs k y) (storedH xs k b u):=by
 have e:(kvs.any fun L=>decide (L.1=k))=(atKey xs k).isSome:=by
  rw[sh,(r.val k).isSome_eq,dP]
 unfold jr storedH;rw[e];by_cases q:(atKey xs k).isSome=true
 ·rw[aI q,aI q];exact r.repl k B
 ·rw[aG q,aG q];exact Paired.snoc r ⟨rfl,U,B⟩
theorem KT.keeps{H':Hp}(r:KT H kvs xs)(S:∀b ys,H b=some (.tup ys)->H' b=some (.tup ys)):KT H' kvs xs:=
 Paired.mapP r fun _ _ z=>⟨z.1,S _ _ z.2.1,z.2.2⟩
end
section
variable{P:Program}{w:World}{H H':Hp}{h h':Heap}{a:Addr}{X:Cx}{pins:L1}{σ:St}{s:Shared}{y v:V}{u r:Value}{o:Option V}{A:Around}{E Q:LZ}{kvs:List (List iw×V)}
theorem zo{u:HO}(k:HOk P w H h)(e:Rd H a u):jc2 P w H h a u:=e.ok k
theorem oz{kvs:List (iw×V)}(k:HOk P w H h)(e:Rd H a (.dK kvs)):kvs.length<=sizeLine/\(a==sysModules)=false/\∃vs,KV kvs vs/\h.DictOf (kg P w) a vs:=
 show jc2 P w H h a (.dK kvs)from zo k e
theorem vL{kvs:List (iw×V)}(k:HOk P w H h)(e:H a=some (.dK kvs)):kvs.length<=sizeLine/\(a==sysModules)=false/\∃vs,KV kvs vs/\h.DictOf (kg P w) a vs:=oz k (.inl e)
theorem oJ{ks:List iw}(k:HOk P w H h)(e:H a=some (.tup (ks.map kV))):(tupleKind (kg P w)).is h ks a:=by
 obtain⟨_,its,r,o,h1,h2,n,D⟩:=(show jc2 P w H h a (.tup (ks.map kV))from k a _ e);exact⟨o,its.toArray,n,h1,h2,D,by simpa using Ct r⟩
theorem oC(k:HOk P w H h)(e:Rd H a (.dT kvs)):kvs.length<=sizeLine/\(a==sysModules)=false/\
  ∃xs,KT H kvs xs/\h.DictOfH (tupleKind (kg P w)) a xs:=by
 obtain⟨z,y,xs,r,o,es,Y,h1,h2,D,T,K⟩:=(show jc2 P w H h a (.dT kvs)from zo k e);refine⟨z,y,xs,r,o,es,Y,h1,h2,D,T,fun x G=>?_,K⟩;have all:∀{l:List (List iw×V)} {m:List (List iw×Addr×Value)},KT H l m->∀x∈m,(tupleKind (kg P w)).is h x.1 x.2.1:=by
  intro l m q
  induction q with
  |nil=>intro x G;exact nomatch G
  | @cons p q ps qs W t E=>
   intro x G;rcases aV.mp G with e|G
   ·subst e;exact oJ k (by rw [<- W.1]; exact W.2.1)
   ·exact E x G
 exact all r x G
theorem LG(k:HOk P w H h)(e:H a=some (.dT kvs)):kvs.length<=sizeLine/\(a==sysModules)=false/\
  ∃xs,KT H kvs xs/\h.DictOfH (tupleKind (kg P w)) a xs:=oC k (.inl e)
noncomputable def DGet(H:Hp)(a:Addr)(y:V)(r:Option V):Prop:=
 (∃kvs k,Rd H a (.dK kvs)/\y=kV k/\r=iX kvs k)\/∃kvs k b,Rd H a (.dT kvs)/\y= .ref b/\H b=some (.tup (k.map kV))/\r=iX kvs k
noncomputable def DPut(H:Hp)(a:Addr)(y v:V)(H':Hp):Prop:=
 (∃kvs k,H a=some (.dK kvs)/\y=kV k/\kvs.length<sizeLine/\H'=upd H a (.dK (jr kvs k v)))\/
 ∃kvs k b,H a=some (.dT kvs)/\y= .ref b/\H b=some (.tup (k.map kV))/\kvs.length<sizeLine/\H'=upd H a (.dT (jr kvs k v))
theorem DGet.k{H:Hp}{a:Addr}{kvs:List (iw×V)}{k:iw}(e:H a=some (.dK kvs)):DGet H a (kV k) (iX kvs k):=.inl ⟨kvs,k,.inl e,rfl,rfl⟩
theorem DGet.t{b:Addr}{k:List iw}(e:H a=some (.dT kvs))(G:H b=some (.tup (k.map kV))):DGet H a (.ref b) (iX kvs k):=.inr ⟨kvs,k,b,.inl e,rfl,G,rfl⟩
theorem DPut.k{H:Hp}{a:Addr}{kvs:List (iw×V)}{k:iw}{v:V}(e:H a=some (.dK kvs))(Z:kvs.length<sizeLine):DPut H a (kV k) v (upd H a (.dK (jr kvs k v))):=.inl ⟨kvs,k,e,rfl,Z,rfl⟩
theorem DPut.t{b:Addr}{k:List iw}(e:H a=some (.dT kvs))(G:H b=some (.tup (k.map kV)))(Z:kvs.length<sizeLine):
  DPut H a (.ref b) v (upd H a (.dT (jr kvs k v))):=.inr ⟨kvs,k,b,e,rfl,G,Z,rfl⟩
theorem Inv.big(I:Inv X pins σ H s):sysModules<s.heap.objs.size:=by
 have h:mainGlobals<s.heap.objs.size:=(I.mod.glob.keeps I.bk).lt;exact Nat.lt_trans (by decide) h
theorem Il(F:A.units+1<cLine)(I:Inv X pins σ H s)(g:DGet H a y (some v))(B:RelV y u)(h:∀t s',Inv X pins σ H s'->RelV v t->Q t s'):
  wpAny (model X.prog X.w) A (getItem (.ref a) u) Q E s:=by
 rcases g with⟨kvs,k,e,n,l⟩|⟨kvs,k,b,e,n,G,l⟩
 ·subst n;obtain⟨z,J,vs,i,dd⟩:=oz I.hok e;obtain⟨t,V,P⟩:=RelO.some_of (v:=v) (o:=valueAt vs k) (by rw[l];exact i.val k);exact wpAny_getItem_of (nQ B) dd.mapOf V (h t _ (I.tok _) P)
 ·subst n;cases(show u=Value.ref b from B);obtain⟨z,J,xs,i,dd⟩:=oC I.hok e;obtain⟨t,V,P⟩:=RelO.some_of (v:=v) (o:=(atKey xs k).map (·.2)) (by rw[l];exact i.val k);obtain⟨p,O,m⟩:=dG.mp V;refine wpAny_getItem_heap (dE F) (oJ I.hok G) dd O ?_;rw[m];exact h t _ (I.tok _) P
theorem DP(F:A.units+1<cLine)(I:Inv X pins σ H s)(g:DGet H a y o)(B:RelV y u)(h:∀s',Inv X pins σ H s'->Q (.bool o.isSome) s'):
  wpAny (model X.prog X.w) A (compareOp .In u (.ref a)) Q E s:=by
 rcases g with⟨kvs,k,e,n,l⟩|⟨kvs,k,b,e,n,G,l⟩
 ·subst n;obtain⟨z,J,vs,i,dd⟩:=oz I.hok e;refine wpAny_in_of (nQ B) J dd.mapOf ?_;rw [<- (i.val k).isSome_eq,<- l];exact h _ (I.tok _)
 ·subst n;cases(show u=Value.ref b from B);obtain⟨z,J,xs,i,dd⟩:=oC I.hok e;refine wpAny_in_heap (dE F) (oJ I.hok G) J dd ?_;have q:=(i.val k).isSome_eq;rw[dP]at q;rw [<- q,<- l];exact h _ (I.tok _)
theorem AC(F:A.units+1<cLine)(I:Inv X pins σ H s)(g:DGet H a y o)(B:RelV y u)(h:∀s',Inv X pins σ H s'->Q (.bool (!o.isSome)) s'):
  wpAny (model X.prog X.w) A (compareOp .NotIn u (.ref a)) Q E s:=by
 rcases g with⟨kvs,k,e,n,l⟩|⟨kvs,k,b,e,n,G,l⟩
 ·subst n;obtain⟨z,J,vs,i,dd⟩:=oz I.hok e;refine wpAny_notIn_of (nQ B) J dd.mapOf ?_;rw [<- (i.val k).isSome_eq,<- l];exact h _ (I.tok _)
 ·subst n;cases(show u=Value.ref b from B);obtain⟨z,J,xs,i,dd⟩:=oC I.hok e;refine wpAny_notIn_heap (dE F) (oJ I.hok G) J dd ?_;have q:=(i.val k).isSome_eq;rw[dP]at q;rw [<- q,<- l];exact h _ (I.tok _)
theorem wX{t':Nat}{l:HO}(I:Inv X pins σ H s)(m:sX (H a))(hs:Heap.SameBut a s.heap h')(R:∃q,h'.get? a=some q)(f:jc2 X.prog X.w (upd H a l) h' a l):
  Inv X pins σ (upd H a l) {s with heap:=h',toks:=t'}:=
 I.write (x:=a) (e:=a) m (.inl rfl) (fun b q U z=>(hs.2 b U).trans z) R f
theorem tZ{kvs:List (iw×V)}{vs:List (iw×Value)}(z:kvs.length<=sizeLine)(J:(a==sysModules)=false)(i:KV kvs vs)(dd:h'.DictOf (kg P w) a vs):
  jc2 P w H' h' a (.dK kvs):=⟨z,J,vs,i,dd⟩
theorem Cp{Q:Unit->Shared->Prop}(F:A.units+1<cLine)(I:Inv X pins σ H s)(g:DPut H a y v H')(B:RelV y u)(m:RelV v r)(h:∀s',Inv X pins σ H' s'->Q () s'):
  wpAny (model X.prog X.w) A (setItem (.ref a) u r) Q E s:=by
 rcases g with⟨kvs,k,e,n,l,f⟩|⟨kvs,k,b,e,n,G,l,f⟩
 ·subst n f;obtain⟨z,J,vs,i,dd⟩:=vL I.hok e;have L:vs.length <= sizeLine:=by rw [<- i.length]; exact z
  have Z:(jr kvs k v).length<=sizeLine:=by have:=ve kvs k v;lia
  refine wpAny_setItem_pairs (hsz:=L) (nQ B) dd fun h' d hs=>h _ ?_;have R:∃q,h'.get? a=some q:=let⟨q,_,_,W,_⟩:=d;⟨q,W⟩
  exact wX I (by rw[e];exact True.intro) hs R (tZ Z J (i.put k m) d)
 ·subst n f;cases(show u=Value.ref b from B);obtain⟨z,J,xs,i,dd⟩:=LG I.hok e;have L:xs.length <= sizeLine:=by rw [<- aq i]; exact z
  have Z:(jr kvs k v).length<=sizeLine:=by have:=ve kvs k v;lia
  refine wpAny_setItem_heap (hsz:=L) (dE F) (oJ I.hok G) dd fun h' d hs=>h _ ?_;obtain⟨q,es,Y,W,h2,D,T,_,K⟩:=d;refine wX I (by rw[e];exact True.intro) hs ⟨q,W⟩ ⟨Z,J,_,(i.put k G m).keeps fun c ys j=>?_,q,es,Y,W,h2,D,T,K⟩;rw[iC (pG j e (fun z=>nomatch z))];exact j
end
section
variable{X:Cx}{pins:L1}{σ:St}{H:Hp}{s:Shared}{a:Addr}{kvs:List (iw×V)}{k:iw}{u:Value}{A:Around}{E Q:LZ}{o i e value:Expr}{pos pos' tpos:Pos}{td ty tv:TE}{trs:List (TE×TE)}{w:World}{P prog:Program}
noncomputable def DW(i:Expr):Prop:=∀z b,subscripted i false z b=operate [z,b] (getItem z b)
theorem GK{env:Env}{e:Expr}{T id:String}
  (Z:typeLookup (.type T) "__getitem__"=pure (some (.builtin id))) (hs:DW e)
  (h:wpAny (model prog w) A (eval value env) (fun o B=>wpAny (model prog w) A (eval e env) (fun i g=>g.TypeIs o T/\wpAny (model prog w) A (getItem o i) Q E g) E B) E s):
  wpAny (model prog w) A (eval (.Subscript value e pos) env) Q E s:=by
 refine ig (dD h (fun o B a=>dD a (fun i g c=>?_) fun _ _ x=>x) fun _ _ x=>x);obtain⟨f,c⟩:=c;unfold subscriptTail;refine ae ?_;rw[getitemInPython_of_ne f.not_modules];refine ae (wpAny_specialOf f Z ?_);have C:wpAny (model prog w) A (subscripted e false o i) (fun r b=>wpAny (model prog w) A (letTemporaryGo value o r>>=fun _=>pure r) Q E b) E g:=by
  rw[hs o i];exact wpAny_operating (dD c (fun r b d=>ae (wpAny_letTemporaryGo (aM d))) fun _ _ x=>x)
 first
  |exact aM (ae C)
  |exact ae (aM (ae C))
  |exact ae C
theorem JY{σ:St}{y:V}{o:Option V}(I:Inv X pins σ H s)(g:DGet H a y o):s.TypeIs (.ref a) "dict":=by
 rcases g with⟨kvs,k,e,_,_⟩|⟨kvs,k,b,e,_,_,_⟩
 ·obtain⟨_,_,vs,_,dd⟩:=oz I.hok e;exact dd.typeIs
 ·obtain⟨_,_,xs,_,dd⟩:=oC I.hok e;exact dd.typeIs
noncomputable def y9(ty td:TE):TE:=fun σ H Q=>ty σ H fun y H1=>td σ H1 fun x H2=>∃a o,x= .ref a/\DGet H2 a y o/\Q (.bl o.isSome) H2
noncomputable def xp(ty td:TE):TE:=fun σ H Q=>ty σ H fun y H1=>td σ H1 fun x H2=>∃a o,x= .ref a/\DGet H2 a y o/\Q (.bl (!o.isSome)) H2
noncomputable def zl(td ty tv:TE):TS:=fun D σ H=>tv σ H fun v H1=>td σ H1 fun x H2=>ty σ H2 fun y H3=>∃a F,x= .ref a/\DPut H3 a y v F/\D.nx σ F
theorem Fd(F:X.A.units+1<cLine)(hi:PE X i ty)(M:PE X o td):PC X .In i o (y9 ty td):=by
 intro pins s σ H Q I h;refine iI (hi pins s σ H _ I h) fun b s1 ⟨y,H1,A,B,N⟩=>iI (M pins s1 σ H1 _ A N) fun u s2 C=>?_;obtain⟨x,H2,E,rx,a,z,ex,g,G⟩:=C;subst ex;obtain rfl:u=Value.ref a:=rx;exact DP F E g B fun W Z=>⟨.bl z.isSome,H2,Z,rfl,G⟩
theorem CC(F:X.A.units+1<cLine)(hi:PE X i ty)(M:PE X o td):PC X .NotIn i o (xp ty td):=by
 intro pins s σ H Q I h;refine iI (hi pins s σ H _ I h) fun b s1 ⟨y,H1,A,B,N⟩=>iI (M pins s1 σ H1 _ A N) fun u s2 C=>?_;obtain⟨x,H2,E,rx,a,z,ex,g,G⟩:=C;subst ex;obtain rfl:u=Value.ref a:=rx;exact AC F E g B fun W Z=>⟨.bl (!z.isSome),H2,Z,rfl,G⟩
theorem AZ(F:X.A.units+1<cLine)(M:PE X o td)(hi:PE X i ty)(Y:PE X value tv)(hs:swapsWith value (some (.Subscript o i pos')) pos.line X.env=pure false):
  PS X (.Assign [.Subscript o i pos'] value pos) (zl td ty tv):=by
 intro pins s σ H D I h;refine wpAny_Assign_Subscript (iI (Y pins s σ H _ I h) fun r s1 ⟨v,H1,A,m,N⟩=>iI (M pins s1 σ H1 _ A N) fun u s2 ⟨x,H2,E,rx,G⟩=>iI (hi pins s2 σ H2 _ E G) fun b W C=>?_) hs;obtain⟨y,H3,Z,B,a,q,ex,g,j⟩:=C;subst ex;obtain rfl:u=Value.ref a:=rx;exact Cp F Z g B m fun d O=>⟨σ,q,O,j⟩
theorem Bz(h:Heap)(U:sysModules<h.objs.size):jc2 P w H (h.push {cls:=.type "dict",data:=.dict #[]}) h.objs.size (.dK []):=
 ⟨bS _,cE.mpr (c7 (bu U)),[],.nil,Heap.DictOf.new h⟩
theorem GZ(h:Heap)(U:sysModules<h.objs.size):jc2 P w H (h.push {cls:=.type "dict",data:=.dict #[]}) h.objs.size (.dT []):=
 ⟨bS _,cE.mpr (c7 (bu U)),[],.nil,_,#[],0,aW _ rfl,⟨rfl,rfl,rfl⟩,rfl,rfl,fA⟩
noncomputable def Av:TE:=fun _ H Q=>∀p,H p=none->Q (.ref p) (upd H p (.dK []))
noncomputable def Eg:TE:=fun _ H Q=>∀p,H p=none->Q (.ref p) (upd H p (.dT []))
theorem uL:PE X (.Dict [] [] pos) Av:=fun pins s σ H Q I h=>
 wpAny_Dict_empty ⟨.ref s.heap.objs.size,_,I.laid (a:=s.heap.objs.size) (o:=.dK []) (t':=s.toks) (fun _ _ q=>ag _ q) (ay _) (Bz s.heap I.big),rfl,h _ (I.hok.fresh (ay _))⟩
theorem Hz:PE X (.Dict [] [] pos) Eg:=fun pins s σ H Q I h=>
 wpAny_Dict_empty ⟨.ref s.heap.objs.size,_,I.laid (a:=s.heap.objs.size) (o:=.dT []) (t':=s.toks) (fun _ _ q=>ag _ q) (ay _) (GZ s.heap I.big),rfl,h _ (I.hok.fresh (ay _))⟩
noncomputable def wO:List (TE×TE)->St->Hp->(List (V×V)->Hp->Prop)->Prop
 |[],_,H,Q=>Q [] H
 |(tk,tv)::r,σ,H,Q=>tk σ H fun x H1=>tv σ H1 fun y H2=>wO r σ H2 fun ps H3=>Q ((x,y)::ps) H3
abbrev VV:List (V×V)->List (Value×Value)->Prop:=Paired fun p q=>RelV p.1 q.1/\RelV p.2 q.2
noncomputable def vq(X:Cx)(pos:Pos)(k:List (Option Expr))(v:List Expr)(trs:List (TE×TE)):Prop:=
 ∀(pins:L1) (s:Shared) (σ:St) (H:Hp) (Q:List (V×V)->Hp->Prop),Inv X pins σ H s->wO trs σ H Q->
  wpAny (model X.prog X.w) X.A (evalPairs (pairTrees k v X.env pos)) (fun vs s'=>∃ps H',Inv X pins σ H' s'/\VV ps vs/\Q ps H') X.xe s
theorem GB:vq X pos [] [] []:=fun pins s σ H Q I h=>pairTrees_nil_walk ⟨[],H,I,.nil,h⟩
theorem HM{k v:Expr}{ks:List (Option Expr)}{vs:List Expr}{tk:TE}(F:PE X k tk)(Y:PE X v tv)(M:vq X pos ks vs trs):
  vq X pos (some k::ks) (v::vs) ((tk,tv)::trs):=fun pins s σ H Q I h=>
 pairTrees_cons_walk (iI (F pins s σ H _ I h) fun u s1 ⟨x,H1,A,rx,N⟩=>iI (Y pins s1 σ H1 _ A N) fun r s2 ⟨y,H2,E,B,G⟩=>
  iI (M pins s2 σ H2 _ E G) fun p W ⟨ps,H3,Z,i,j⟩=>⟨(x,y)::ps,H3,Z,.cons ⟨rx,B⟩ i,j⟩)
noncomputable def nj(kvs more:List (iw×V)):List (iw×V):=more.foldl (fun d L=>jr d L.1 L.2) kvs
theorem KV.merge:∀{more:List (iw×V)} {rs:List (iw×Value)} {kvs:List (iw×V)} {vs:List (iw×Value)},KV more rs->KV kvs vs->KV (nj kvs more) (merged vs rs):=by
 intro more rs kvs vs r;unfold KV at r
 induction r generalizing kvs vs with
 |nil=>intro q;exact q
 | @cons p q ps qs h t E=>
  intro g;have e:KV (jr kvs p.1 p.2) (stored vs q.1 q.2):=by
   have:=g.put p.1 h.2;rw [<- h.1]; exact this
  exact E e
theorem yv:∀(more kvs:List (iw×V)),(nj kvs more).length<=kvs.length+more.length
 |[],kvs=>by show kvs.length<=kvs.length+0;lia
 |p::r,kvs=>by
  have h1:=yv r (jr kvs p.1 p.2);have h2:=ve kvs p.1 p.2;show(nj (jr kvs p.1 p.2) r).length<=_;rw[List.length_cons];lia
theorem CP{P:Program}{w:World}:∀{kvs:List (iw×V)} {l:List (Value×Value)},VV (kvs.map fun L=>(kV L.1,L.2)) l->∃rs,Carries (kg P w) l rs/\KV kvs rs
 |[],_,r=>by rw[bO]at r;cases r;exact⟨[],True.intro,.nil⟩
 | p::kvs,_,r=>by
  rw[ai]at r;cases r with
  | @cons a b as bs h t=>
   obtain⟨rs,c,q⟩:=CP (P:=P) (w:=w) t;obtain⟨b1,b2⟩:=b;exact⟨(p.1,b2)::rs,⟨nQ h.1,rfl,c⟩,.cons ⟨rfl,h.2⟩ q⟩
noncomputable def Ef(trs:List (TE×TE)):TE:=fun σ H Q=>∀p,H p=none->wO trs σ (upd H p (.dK [])) fun ps H2=>H2 p=some (.dK [])/\∃kvs:List (iw×V),ps=kvs.map (fun L=>(kV L.1,L.2))/\kvs.length<=15/\Q (.ref p) (upd H2 p (.dK (nj [] kvs)))
theorem Gw{k:List (Option Expr)}{v:List Expr}(h:vq X pos k v trs)(b:k.all (·.isSome)=true)(Z:k.length=v.length)(f:k≠[])
  (j:k.length<=15):PE X (.Dict k v pos) (Ef trs):=by
 intro pins s σ H Q I q;have S:=I.hok.fresh (ay s.heap.objs.size);have A:=I.laid (a:=s.heap.objs.size) (o:=.dK []) (h':=s.heap.push {cls:=.type "dict",data:=.dict #[]}) (t':=s.toks) (fun _ _ q=>ag _ q) (ay _) (Bz s.heap I.big);refine wpAny_Dict_walk (knd:=kg X.prog X.w) b Z f j (iI (h pins _ σ _ _ A (q _ S)) fun p s2 C=>?_);obtain⟨ps,H2,E,i,e,kvs,Y,lk,G⟩:=C;subst Y;obtain⟨rs,c,r⟩:=CP (P:=X.prog) (w:=X.w) i;obtain⟨z,J,l,g,dd⟩:=vL E.hok e;cases g;refine⟨rs,c,dd,fun h' d hs=>⟨.ref s.heap.objs.size,_,?_,rfl,G⟩⟩;have L:(nj [] kvs).length<=sizeLine:=by
  have h1:=yv kvs [];rw[List.length_nil]at h1;rw[gZ];lia
 have R:∃q,h'.get? s.heap.objs.size=some q:=let⟨q,_,_,W,_⟩:=d;⟨q,W⟩
 exact wX E (by rw[e];exact True.intro) hs R (tZ L J (r.merge .nil) d)
end
structure M1(X:Cx)(o:Expr)(m:Str)(apos:Pos)(e:Expr)(cpos:Pos):Prop where
 base:attributeBase o m X.env (eval o X.env)=eval o X.env
 few:((backTo cpos (starEach [e] X.env)).all (fun x=>!x.1)&&(backToKw cpos (keywordEach [] X.env)).all (fun x=>x.1.isSome)
  &&decide (([e]:List Expr).length+([]:List Keyword).length+(if([]:List Keyword).isEmpty then 0 else 1)<30))=true
 line:(apos.endLine==cpos.line)=true
 trees:backTo cpos (starEach [e] X.env)=[(false,eval e X.env)]
structure M2(X:Cx)(o:Expr)(m:Str)(apos:Pos)(e f:Expr)(cpos:Pos):Prop where
 base:attributeBase o m X.env (eval o X.env)=eval o X.env
 few:((backTo cpos (starEach [e,f] X.env)).all (fun x=>!x.1)&&(backToKw cpos (keywordEach [] X.env)).all (fun x=>x.1.isSome)
  &&decide (([e,f]:List Expr).length+([]:List Keyword).length+(if([]:List Keyword).isEmpty then 0 else 1)<30))=true
 line:(apos.endLine==cpos.line)=true
 trees:backTo cpos (starEach [e,f] X.env)=[(false,eval e X.env),(false,eval f X.env)]
noncomputable def LW(H:Hp)(a:Addr):Prop:=(∃kvs,Rd H a (.dK kvs))\/∃kvs,Rd H a (.dT kvs)
theorem zP{X:Cx}{pins:L1}{σ:St}{H:Hp}{s:Shared}{a:Addr}(I:Inv X pins σ H s)(d:LW H a):
  s.TypeIs (.ref a) "dict"/\(∀b,Value.ref a= .ref b->∃l,s.heap.get? b=some l/\l.dict=none)/\(a==sysModules)=false:=by
 rcases d with⟨kvs,e⟩|⟨kvs,e⟩
 ·obtain⟨_,J,vs,_,dd⟩:=oz I.hok e;refine⟨dd.typeIs,fun b q=>?_,J⟩;cases q;obtain⟨l,_,_,h1,h2,_⟩:=dd;exact⟨l,h1,h2.2.1⟩
 ·obtain⟨_,J,xs,_,dd⟩:=oC I.hok e;refine⟨dd.typeIs,fun b q=>?_,J⟩;cases q;obtain⟨l,_,_,h1,h2,_⟩:=dd;exact⟨l,h1,h2.2.1⟩
section
variable{X:Cx}{pins:L1}{σ:St}{H:Hp}{s:Shared}{a:Addr}{y d:V}{u r:Value}{o:Option V}{A:Around}{E Q:LZ}
theorem LF(F:A.units+1<cLine)(I:Inv X pins σ H s)(g:DGet H a y o)(B:RelV y u)(h:∀t s',Inv X pins σ H s'->RelV (o.getD .non) t->Q t s'):
  wpAny (model X.prog X.w) A (call (.builtin "dict.get") [.ref a,u]) Q E s:=by
 rcases g with⟨kvs,k,e,n,l⟩|⟨kvs,k,b,e,n,G,l⟩
 ·subst n;obtain⟨z,J,vs,i,dd⟩:=oz I.hok e;refine gM dj dd.typeIs eS (PySem.F.args_dict_get_2 _ _) (meets_dict_get (kg X.prog X.w) a (nQ B) J) ⟨_,dd.mapOf,h _ _ (I.tok _) ?_⟩;rw[l];exact(i.val k).getD rfl
 ·subst n;cases(show u=Value.ref b from B);obtain⟨z,J,xs,i,dd⟩:=oC I.hok e;refine gM dj dd.typeIs eS (PySem.F.args_dict_get_2 _ _) (meetsH_dict_get (tupleKind (kg X.prog X.w)) a b J) ⟨dE F,k,xs,oJ I.hok G,dd,h _ _ (I.tok _) ?_⟩;rw[l];exact(i.val k).getD rfl
theorem LD(F:A.units+1<cLine)(I:Inv X pins σ H s)(g:DGet H a y o)(B:RelV y u)(f:RelV d r)(h:∀t s',Inv X pins σ H s'->RelV (o.getD d) t->Q t s'):
  wpAny (model X.prog X.w) A (call (.builtin "dict.get") [.ref a,u,r]) Q E s:=by
 rcases g with⟨kvs,k,e,n,l⟩|⟨kvs,k,b,e,n,G,l⟩
 ·subst n;obtain⟨z,J,vs,i,dd⟩:=oz I.hok e;refine gM dj dd.typeIs eS (PySem.F.args_dict_get_3 _ _ _) (meets_dict_get_default (kg X.prog X.w) a (nQ B) J r) ⟨_,dd.mapOf,h _ _ (I.tok _) ?_⟩;rw[l];exact(i.val k).getD f
 ·subst n;cases(show u=Value.ref b from B);obtain⟨z,J,xs,i,dd⟩:=oC I.hok e;refine gM dj dd.typeIs eS (PySem.F.args_dict_get_3 _ _ _) (meetsH_dict_get_default (tupleKind (kg X.prog X.w)) a b J r) ⟨dE F,k,xs,oJ I.hok G,dd,h _ _ (I.tok _) ?_⟩;rw[l];exact(i.val k).getD f
end
section
variable{X:Cx}{o e f:Expr}{apos cpos:Pos}{td ty tx:TE}{pins:L1}{σ:St}{H:Hp}{s:Shared}{a:Addr}{kvs:List (iw×V)}{A:Around}{E:LZ}{y:V}{u:Value}
end
section
variable{κ:Type}[DecidableEq κ]
end
section
variable{pins:L1}{ifs elts:List Expr}{pos tpos:Pos}{fp ch:List Addr}{tc t:TT}{te:TE}{H H2:Hp}{g:TG}{s s2:Shared}{h':Heap}{t' x1:Nat}{iter elt tg c a:Expr}{J:It}{Q:VK}
noncomputable def ll(env:Env):List (Str×NameKind)->List (Str×Addr)->List (Str×Addr)
 |[],d=>d
 |(n,k)::r,d=>ll env r (if k== .free then(n,(env.cells.lookup n).getD 0)::d else d)
theorem DD{scope:Scope}{env:Env}(h:∀y∈scope.names,y.2= .free->∃c,env.cells.lookup y.1=some c):
    closureFor scope env=pure (ll env scope.names []):=by
  have key:∀(l:List (Str×NameKind)) (d:List (Str×Addr)),(∀y∈l,y.2= .free->∃c,env.cells.lookup y.1=some c)->
      (forIn l d fun(x:Str×NameKind) (r:List (Str×Addr))=>
        (if x.2 == NameKind.free then do
          let c <- cellOf env x.1
          pure (ForInStep.yield ((x.1,c)::r))
        else pure (ForInStep.yield r):Sem (ForInStep (List (Str×Addr)))))=pure (ll env l d):=by
    intro l
    induction l with
    |nil=>intro d _;rfl
    | cons y r E=>
      intro d O;obtain⟨n,k⟩:=y;rw[hX];by_cases F:k= .free
      · subst F;obtain⟨c,Y⟩:=O (n,.free) aE rfl;have e1:cellOf env n=pure c:=by unfold cellOf;rw[Y]
        simp only[beq_self_eq_true,if_true];rw[e1];show(pure c>>=fun c=>pure (ForInStep.yield ((n,c)::d)))>>=_=_;have e2:ll env ((n,NameKind.free)::r) d=ll env r ((n,c)::d):=by
          have g:env.cells.lookup n=some c:=Y;show ll env r (if(NameKind.free==NameKind.free)=true then(n,(env.cells.lookup n).getD 0)::d else d)=_;rw[g];rfl
        rw[e2];exact E _ fun z L=>O z (au _ L)
      · have U:(k==NameKind.free)=false:=by simpa using F
        simp only[U,aL,if_false];have e2:ll env ((n,k)::r) d=ll env r d:=by
          show ll env r (if(k==NameKind.free)=true then _ else d)=_;rw[U];rfl
        rw[e2];exact E _ fun z L=>O z (au _ L)
  unfold closureFor;have e:=key scope.names [] h;have e3:∀ (f:Str × NameKind->List (Str × Addr)->Sem (ForInStep (List (Str × Addr)))),(f = fun x r=>(if x.2 == NameKind.free then do
          let c <- cellOf env x.1
          pure (ForInStep.yield ((x.1,c)::r))
        else pure (ForInStep.yield r)))->(forIn scope.names [] f>>=fun r=>pure r)=(pure (ll env scope.names []):Sem (List (Str×Addr))):=by
    intro f B;rw[B,e];rfl
  exact e3 _ rfl
theorem Dy{env:Env}{x:Str}:∀(l:List (Str×NameKind)) (acc:List (Str×Addr)) (c:Addr),(ll env l acc).lookup x=some c->
  ((∃y∈l,y.1=x/\y.2= .free)/\(env.cells.lookup x).getD 0=c)\/acc.lookup x=some c
 |[],acc,c,h=>.inr h
 | (n,k)::r,acc,c,h=>by
  rcases Dy r _ c h with⟨⟨y,O,e⟩,q⟩|q
  ·exact .inl ⟨⟨y,au _ O,e⟩,q⟩
  ·by_cases F:k= .free
   ·subst F;have L:List.lookup x ((n,(env.cells.lookup n).getD 0)::acc)=some c:=q;rw[List.lookup_cons]at L;cases G:x==n with
    |true=>
     rw[G]at L;have P:x=n:=by simpa using G
     subst P;exact .inl ⟨⟨_,aE,rfl,rfl⟩,aJ L⟩
    |false=>rw[G]at L;exact .inr L
   ·have U:(k==NameKind.free)=false:=by simpa using F
    rw[U]at q;exact .inr q
theorem yo{env:Env}{x:Str}:∀(l:List (Str×NameKind)) (acc:List (Str×Addr)),((∃y∈l,y.1=x/\y.2= .free)\/(acc.lookup x).isSome)->((ll env l acc).lookup x).isSome
 |[],acc,h=>by
  rcases h with⟨y,O,_⟩|h
  ·cases O
  ·exact h
 | (n,k)::r,acc,h=>by
  show((ll env r (if(k==NameKind.free)=true then _ else acc)).lookup x).isSome;refine yo r _ ?_;rcases h with⟨y,O,e1,e2⟩|h
  ·rcases aV.mp O with rfl|O
   ·have e:k= .free:=e2;have a:n=x:=e1;subst e a;refine .inr ?_;simp[List.lookup_cons]
   ·exact .inl ⟨y,O,e1,e2⟩
  ·refine .inr ?_;split
   ·rw[List.lookup_cons];split
    ·rfl
    ·exact h
   ·exact h
structure CpScope(X:Cx)(scope:Scope)(N:List Str)(src:L6):Prop where
 kind:scope.kind= .function
 nocell:∀y∈scope.names,y.2≠ .cell
 locs:∀y∈scope.names,y.2= .local->scope.names.lookup y.1=some .local
 frees:∀y∈scope.names,y.2= .free->scope.names.lookup y.1=some .free/\X.env.scope.names.lookup y.1=some .cell
 nd:N.Nodup
 len:src.length=N.length
 cap:∀(i j:Nat),src[i]? =some (some j)->X.N[j]? =N[i]?/\(N[i]?).elim False (fun x=>scope.names.lookup x=some .free)
noncomputable def vk(src:L6)(σ:St):St:=src.map fun o=>o.bind fun j=>(σ[j]?).join
theorem DE{env:Env}(F:env.scope.kind= .function):∀{names:List (Str×NameKind)} {x:Str},names.lookup x=some .free->env.kindOf x=some .cell->
  (names.map fun(n,k)=>if(k==NameKind.free&&env.scope.kind== .function&&env.kindOf n==some .cell)then(n,NameKind.cell)else(n,k)).lookup x=some .cell
 |[],_,h,_=>by simp at h
 | (n,k)::r,x,h,Y=>by
  have E:=@DE env F r x;show List.lookup x ((if(k==NameKind.free&&env.scope.kind== .function&&env.kindOf n==some .cell)=true then(n,NameKind.cell)else(n,k))::_)=_;cases G:x==n with
  |true=>
   simp only[List.lookup_cons,G]at h;cases h;have P:x=n:=by simpa using G
   subst P;rw[aI (by rw[F,Y];rfl)];simp[List.lookup_cons]
  |false=>
   simp only[List.lookup_cons,G]at h;by_cases W:(k==NameKind.free&&env.scope.kind== .function&&env.kindOf n==some .cell)=true
   ·rw[aI W];simp only[List.lookup_cons,G];exact E h Y
   ·rw[aG W];simp only[List.lookup_cons,G];exact E h Y
theorem yy{env:Env}:∀{names:List (Str×NameKind)} {x:Str} {d:NameKind},
  (names.map fun(n,k)=>if(k==NameKind.free&&env.scope.kind== .function&&env.kindOf n==some .cell)then(n,NameKind.cell)else(n,k)).lookup x=some d->
   names.lookup x=some d\/(names.lookup x=some .free/\d= .cell)
 |[],_,_,h=>by simp at h
 | (n,k)::r,x,d,h=>by
  have E:=@yy env r x d;have h:List.lookup x ((if(k==NameKind.free&&env.scope.kind== .function&&env.kindOf n==some .cell)=true then(n,NameKind.cell)else(n,k))::_)=_:=h;cases G:x==n with
  | true=>
   by_cases W:(k==NameKind.free&&env.scope.kind== .function&&env.kindOf n==some .cell)=true
   ·rw[aI W]at h;have h1:=h;simp only[List.lookup_cons,G];have:k= .free:=by
     have:=(aQ _ _▸(aQ _ _▸W).1).1;simpa using this
    subst this;refine .inr ⟨rfl,?_⟩;have h2:List.lookup x ((n,NameKind.cell)::(r.map fun(n,k)=>if(k==NameKind.free&&env.scope.kind== .function&&env.kindOf n==some .cell)then(n,NameKind.cell)else(n,k)))=some d:=h1;simp only[List.lookup_cons,G]at h2;exact(aJ h2).symm
   ·rw[aG W]at h;simp only[List.lookup_cons,G]at h ⊢;exact .inl h
  | false=>
   have h':List.lookup x (r.map fun(n,k)=>if(k==NameKind.free&&env.scope.kind== .function&&env.kindOf n==some .cell)then(n,NameKind.cell)else(n,k))=some d:=by
    by_cases W:(k==NameKind.free&&env.scope.kind== .function&&env.kindOf n==some .cell)=true
    ·rw[aI W]at h;simpa only[List.lookup_cons,G]using h
    ·rw[aG W]at h;simpa only[List.lookup_cons,G]using h
   simp only[List.lookup_cons,G];exact E h'
noncomputable def Cx.block(X:Cx)(scope:Scope)(N:List Str)(fp:List Addr)(s₀:Shared)(H₀:Hp)(C:Addr):Cx where
 prog:=X.prog
 w:=X.w
 K:=X.K
 mg:=X.mg
 base:=X.base
 A:=X.A
 N:=N
 s₀:=s₀
 H₀:=H₀
 env:=compEnvC scope (ll X.env scope.names []) C X.env
 outer:=X.stack
 stack:=X.stack
 ex:=fp
 calm:=X.calm
 fn:=fun _=>false
 pn:=[]
 xe:=fun _ _=>False
theorem IB{o:Option (Option V)}{v:V}(h:o.join=some v):o=some (some v):=by
 cases o with
 |none=>cases h
 |some z=>cases z with
  |none=>cases h
  |some z=>rw[show z=v from aJ h]
theorem Inv.enter{X:Cx}{scope:Scope}{N:List Str}{src:L6}{σ:St}{d:Shared}(S:CpScope X scope N src)(I:Inv X pins σ H s)
  (Q:∀b∈fp,mj X pins H b) (f:∀b∈fp,b<s.heap.objs.size) (Y:d.heap.Ns s.heap.objs.size fun _=>none) (F:∀b o,s.heap.get? b=some o->d.heap.get? b=some o) (L:d.os=s.os) (t:d.gens=s.gens):
  Inv (X.block scope N fp s H s.heap.objs.size) [] (vk src σ) H d:=by
 have w:∀x c,(ll X.env scope.names []).lookup x=some c->X.env.cells.lookup x=some c:=fun x c e=>by
  rcases Dy _ _ _ e with⟨⟨y,C,e1,e2⟩,q⟩|q
  ·obtain⟨R,g⟩:=I.ok.has y.1 (.inl (S.frees y C e2).2);rw[e1]at g;rw[g]at q ⊢;exact cA some q
  ·cases q
 refine⟨⟨I.mod,S.kind,I.ok.glob,I.ok.blt,ay _,fun x y c h1 h2=>I.ok.inj x y c (w x c h1) (w y c h2),fun x G=>?_,fun x c h=>absurd (show false=true from h) bo,I.ok.hd,I.ok.frames,.inl rfl,fun b U=>?_,I.bs,
   bw I.ok.bsz I.sz,fun b o e U=>?_,fun b U z=>?_,I.stack,I.stkFree⟩,L,?_,Un.kept F,⟨fun _=>none,Y,fun i x v h1 h2 D=>?_⟩,fun x c e=>?_,I.fresh,fun x c e=>I.freeC x c (w x c e),fun p O=>?_,I.hok.kept F,?_⟩
 ·have P:(scope.names.map fun(n,k)=>if(k==NameKind.free&&X.env.scope.kind== .function&&X.env.kindOf n==some .cell)then(n,NameKind.cell)else(n,k)).lookup x=some .cell\/(scope.names.map fun(n,k)=>if(k==NameKind.free&&X.env.scope.kind== .function&&X.env.kindOf n==some .cell)then(n,NameKind.cell)else(n,k)).lookup x=some .free:=G;have B:scope.names.lookup x=some .free:=by
   rcases P with h|h
   ·rcases yy h with h|h
    ·exact absurd rfl (S.nocell _ (cF h))
    ·exact h.1
   ·rcases yy h with h|h
    ·exact h
    ·cases h.2
  have sq:=yo (env:=X.env) (x:=x) scope.names [] (.inl ⟨_,cF B,rfl,rfl⟩);exact dY.mp sq
 ·exact⟨bu (f b U),fun x c e=>(Q b U).2.2.2.2.1 x c (w x c e)⟩
 ·have A:b∈fp:=U;rcases(Q b A).2.2.2.1 with z|z
  ·exact I.ok.noex b o e z
  ·exact absurd (bG (aR e) (bw I.ok.bsz z)) (cP _)
 ·have A:b∈fp:=U;have V:b∈lP X.stack:=z;rcases aV.mp (I.stkSub b V)with e|e
  ·exact(Q b A).2.1 e
  ·exact(Q b A).2.2.1 e
 ·rw[t];exact I.bare
 ·have E:(src.map fun o=>o.bind fun j=>(σ[j]?).join)[i]? =some (some v):=h2;rw[aU]at E;cases e:src[i]? with
  |none=>rw[e]at E;cases E
  | some o=>
   rw[e]at E;cases o with
   |none=>cases E
   | some j=>
    have T:(σ[j]?).join=some v:=aJ E;have K:=IB T;obtain⟨c1,c2⟩:=S.cap i j e;have sz:N[i]? =some x:=h1;rw[sz]at c1 c2;have i':scope.names.lookup x=some .free:=c2;have c3:=(S.frees _ (cF i') rfl).2;obtain⟨m,a,Z⟩:=I.loc;obtain⟨u,r,l⟩:=Z j x v c1 K (.inr (.inl c3));refine⟨u,r,?_⟩;have W:X.env.kindOf x=some .cell:=c3;rcases l with⟨k,_⟩|⟨_,c,e1,z⟩
    ·rw[W]at k;cases k
    ·refine .inr ⟨.inl (DE I.ok.kind i' W),c,?_,?_⟩
     ·have hs:=yo (env:=X.env) (x:=x) scope.names [] (.inl ⟨_,cF i',rfl,rfl⟩);obtain⟨R,g⟩:=dY.mp hs;have:=w x R g;rw[e1]at this;cases this;exact g
     ·obtain⟨o,M,J⟩:=z;exact⟨o,F c o M,J⟩
 ·obtain⟨v,o,M,J⟩:=I.cell x c (w x c e);exact⟨v,o,F c o M,J⟩
 ·exact absurd (show p∈([]:L1)from O) (by simp)
 ·show(src.map _).length=N.length;rw[aa];exact S.len
noncomputable def sW(X:Cx)(ifs:List Expr)(t:TT):Prop:=
 ∀(pins:L1) (s:Shared) (σ:St) (H:Hp) (Q:Bool->Hp->Prop),Inv X pins σ H s->t σ H Q->
  wpAny (model X.prog X.w) X.A (forIn ifs true fun c r=>if r = true then do let k <- isTrue c X.env (eval c X.env); pure (ForInStep.yield k) else pure (ForInStep.yield r)) (TP X pins σ Q) X.xe s
noncomputable def tX:TT:=fun _ H Q=>Q true H
theorem AW{X:Cx}:sW X [] tX:=fun pins s σ H Q I h=>wpAny_tests_nil ⟨H,I,h⟩
theorem kU{X:Cx}(h:PT X c t):sW X [c] t:=fun pins s σ H Q I W=>wpAny_tests_one (h pins s σ H Q I W)
noncomputable def rD(J:It)(src:L6)(g:TG)(tc:TT)(te:TE)(Q:VK)(σ:St)(H:Hp)(l:Addr):Prop:=
 ∃W:Nat->Nat->St->Hp->Prop,(∃m,W 0 m (vk src σ) (upd H l (.lst [])))/\∀i m L H,W i m L H->
  (J.stop i H/\Q (.ref l) H)\/(J.go i H/\∃N:St->Hp->Prop,(∀L H',N L H'->∃T,T<m/\W (i+1) T L H')/\∀x H',J.yld i H x H'->g x L H' fun d H2=>tc d H2 fun b H3=>
   if b=true then te d H3 fun v F=>∃xs,F l=some (.lst xs)/\xs.length<sizeLine/\N d (upd F l (.lst (xs++[v])))else N d H3)
theorem jn{src:L6}{σ:St}{l:Addr}(n:Nat)(a:Nat->St->Hp->Prop)(A:a 0 (vk src σ) (upd H l (.lst [])))
  (hs:∀i L I,i<n->a i L I->J.go i I/\∀x H',J.yld i I x H'->g x L H' fun d H2=>tc d H2 fun b H3=>
   if b=true then te d H3 fun v F=>∃xs,F l=some (.lst xs)/\xs.length<sizeLine/\a (i+1) d (upd F l (.lst (xs++[v])))else a (i+1) d H3)
  (h:∀L I,a n L I->J.stop n I/\Q (.ref l) I):rD J src g tc te Q σ H l:=by
 refine⟨fun i m L I=>m=n-i/\i<=n/\a i L I,⟨n,by simp,bS _,A⟩,?_⟩;rintro i m L I ⟨rfl,hi,p⟩;by_cases B:i<n
 ·obtain⟨o,step⟩:=hs i L I B p;exact .inr ⟨o,a (i+1),fun d H2 k=>⟨n-(i+1),by lia,rfl,B,k⟩,step⟩
 ·have e:i=n:=by lia
  subst e;exact .inl (h L I p)
theorem Co{X:Cx}{scope:Scope}{N:List Str}{src:L6}{σ:St}
   {A:Addr} {tn:Nat->Heap->Prop}   {E:LZ} {RR:Value->Addr->Result->Shared->Prop} (S:CpScope X scope N src) (Y:X.calm=true)
  (t:∀fp s₀ H₀ C,PG (X.block scope N fp s₀ H₀ C) tg g) (B:∀fp s₀ H₀ C,sW (X.block scope N fp s₀ H₀ C) ifs tc) (R:∀fp s₀ H₀ C,PE (X.block scope N fp s₀ H₀ C) elt te)
  (I:Inv X pins σ H2 s2) (T:Turn X.prog X.w X.K tg J fp A tn) (F':tn 0 s2.heap) (H:∀b∈fp,mj X pins H2 b) (V:∀l,H2 l=none->rD J src g tc te Q σ H2 l)
  (i':∀l C H' s',Inv X pins σ H' s'->(∃m,s'.heap.Ns C m)->mj X pins H' C->Q (.ref l) H'->RR (.ref l) C (.ok .next) s'):
  wpAny (model X.prog X.w) X.A (newList []) (fun acc s₃=>wpAny (model X.prog X.w) X.A (newFunctionEnv scope X.env.globals (ll X.env scope.names []) [] X.env.qual none .none (some X.env)) (fun Mb s₄=>
   codeAny (model X.prog X.w) X.A (.compStart (.ListComp elt [⟨tg,iter,ifs,0⟩] scope pos) 0 (.ref A) acc {Mb with scope:=relabel scope X.env}) (RR acc Mb.locals) s₄) E s₃) E s2:=by
 have sz:H2 s2.heap.objs.size=none:=I.fresh;have I3:Inv X pins σ (upd H2 s2.heap.objs.size (.lst [])) {s2 with heap:=s2.heap.push {cls:=.type "list",data:=.seq ([]:List Value).toArray}}:=I.lnew (ys:=[]) (its:=[]) (t':=s2.toks) .nil (bS _);have Mg:∀b∈fp,b<s2.heap.objs.size:=fun b U=>by
  obtain⟨o,e,_⟩:=T.obj _ _ F' b U;exact aR e
 have f3:∀b∈fp,mj X pins (upd H2 s2.heap.objs.size (.lst [])) b:=fun b U=>⟨by rw[iC (bu (Mg b U))];exact(H b U).1,(H b U).2⟩;obtain⟨W,⟨m0,w0⟩,J'⟩:=V _ sz;refine cR (wpAny_newFunctionEnv S.nocell (by intro y c;simp at c) (fun h₁ K' L8=>?_) S.kind);dsimp only at K' L8 ⊢;revert I3 f3;intro I3 f3;have Mc:tn 0 (s2.heap.push {cls:=.type "list",data:=.seq ([]:List Value).toArray}):=T.keep _ _ _ F' fun b U o e=>ag _ e;have Me:∀b∈fp,b<(s2.heap.push {cls:=.type "list",data:=.seq ([]:List Value).toArray}).objs.size:=fun b U=>by rw[dR];exact dQ (Mg b U)
 generalize hH:s2.heap.push {cls:=.type "list",data:=.seq ([]:List Value).toArray}=D at I3 Mc Me K' L8 ⊢;have F:∀b o,D.get? b=some o->h₁.get? b=some o:=fun b o e=>L8.extBut b o (bu (aR e)) (ag _ e);have Ib:Inv (X.block scope N fp {s2 with heap:=D} (upd H2 s2.heap.objs.size (.lst [])) D.objs.size) [] (vk src σ) (upd H2 s2.heap.objs.size (.lst [])) {s2 with heap:=h₁,toks:=s2.toks+([]:L5).length}:=
  Inv.enter (s:={s2 with heap:=D}) S I3 f3 Me K' F rfl rfl
 have L9:∀{H':Hp},(∀b∈fp,H' b=none)->∀b∈fp,mj (X.block scope N fp {s2 with heap:=D} (upd H2 s2.heap.objs.size (.lst [])) D.objs.size) [] H' b:=fun a b U=>
  ⟨a b U,(Ib.ok.exf b U).1,Ib.ok.exfs b U,.inl U,(Ib.ok.exf b U).2,fun p O=>absurd (show p∈([]:L1)from O) (by simp)⟩
 have Mh:tn 0 h₁:=T.keep _ _ _ Mc fun b _ o e=>F b o e;have Ma:∀s₃:Shared,s₃={s2 with heap:=h₁,toks:=s2.toks+([]:L5).length}->
   codeAny (model X.prog X.w) X.A (.compLoop (.ListComp elt [⟨tg,iter,ifs,0⟩] scope pos) 0 (.ref A) (.ref s2.heap.objs.size) (compEnvC scope (ll X.env scope.names []) D.objs.size X.env))
    (RR (.ref s2.heap.objs.size) D.objs.size) s₃:=by
  rintro s₃ rfl;refine codeAny_loop rfl (fun n s'=>∃i L H',Inv (X.block scope N fp {s2 with heap:=D} (upd H2 s2.heap.objs.size (.lst [])) D.objs.size) [] L H' s'/\tn i s'.heap/\(∀b∈fp,H' b=none)/\W i n L H') ?_ m0
   ⟨0,_,_,Ib,Mh,fun b U=>(f3 b U).1,w0⟩
  rintro n P ⟨i,σ5,w,I5,B',G',w5⟩;show wpAny _ X.A ((compTurn (.ListComp elt [⟨tg,iter,ifs,0⟩] scope pos) 0 (.ref A) (.ref s2.heap.objs.size) (compEnvC scope (ll X.env scope.names []) D.objs.size X.env)).onRaise (fun x=>do noteFrame x (compEnvC scope (ll X.env scope.names []) D.objs.size X.env); theTreesLotGoes x)) _ _ P;refine wpAny_noted ?_;rw[compTurn_list];refine ae (fJ (ae ?_));rcases J' i n σ5 w w5 with⟨stop,qn⟩|⟨go,N',Ms,step⟩
  ·refine iI (T.done (X.block scope N fp {s2 with heap:=D} (upd H2 s2.heap.objs.size (.lst [])) D.objs.size) rfl rfl rfl Y i [] P σ5 w _ I5 (L9 G') B' stop) fun r f j=>?_;obtain⟨M,I6⟩:=j;subst M;refine aM ?_;have u6:Un (lP X.stack) fp (upd H2 s2.heap.objs.size (.lst [])) w D f.heap:=I6.base;have Mn:w D.objs.size=none:=I6.free;have I7:Inv X pins σ w f:=I3.call' (ch:=fp) I6.os u6 I6.hok I6.bare fun b U=>⟨(f3 b U).2.2.2.1,(f3 b U).2.1,(f3 b U).2.2.2.2.1,(f3 b U).2.2.2.2.2⟩;obtain⟨m,K,_⟩:=I6.loc;exact i' _ _ w f I7 ⟨m,K⟩ (I3.fpOk (ay _) Mn) qn
  ·refine iI (T.item (X.block scope N fp {s2 with heap:=D} (upd H2 s2.heap.objs.size (.lst [])) D.objs.size) rfl rfl rfl Y i [] P σ5 w _ I5 (L9 G') B' go) fun r f j=>?_;obtain⟨u,M,h6⟩:=j;subst M;refine ae (iI h6 fun _ q j=>?_);obtain⟨x,H7,I7,r7,y7,L',Mr⟩:=j;have Mm:=I7.pinned (L9 Mr) (T.obj _ _ L');have A':∀{σ9:St} {H9:Hp} {s9:Shared},Inv (X.block scope N fp {s2 with heap:=D} (upd H2 s2.heap.objs.size (.lst [])) D.objs.size) ([]++rS fp q.heap) σ9 H9 s9->N' σ9 H9->
     ∃m,m<n/\∃i L H',Inv (X.block scope N fp {s2 with heap:=D} (upd H2 s2.heap.objs.size (.lst [])) D.objs.size) [] L H' s9/\tn i s9.heap/\(∀b∈fp,H' b=none)/\W i m L H':=fun{σ9 H9 s9} I9 n9=>by
    obtain⟨m',K,w9⟩:=Ms σ9 H9 n9;refine⟨m',K,i+1,σ9,H9,I9.unpinned,T.keep _ _ _ L' fun b U o e=>(I9.pin (b,o) (bH _ (bH _ (va U e)))).1,fun b U=>?_,w9⟩;obtain⟨o,e,d⟩:=T.obj _ _ L' b U;exact(I9.pin (b,o) (bH _ (bH _ (va U e)))).2.1
   refine ae (dD (t fp _ _ _ _ q σ5 H7 x u _ Mm r7 (step x H7 y7)) (fun _ Z j=>?_) fun _ _ z=>False.elim z);obtain⟨σ8,H8,I8,q8⟩:=j;refine ae (dD (B fp _ _ _ _ Z σ8 H8 _ I8 q8) (fun k s9 j=>?_) fun _ _ z=>False.elim z);obtain⟨H9,I9,q9⟩:=j;cases k with
   |false=>exact aM ⟨rfl,A' I9 q9⟩
   | true=>
    refine ae (ae (dD (R fp _ _ _ _ s9 σ8 H9 _ I9 q9) (fun v Mi j=>?_) fun _ _ z=>False.elim z));obtain⟨y,Ml,Mo,Mj,xs,G,h,sq⟩:=j;refine ae (dD (Cw (X:=X.block scope N fp {s2 with heap:=D} (upd H2 s2.heap.objs.size (.lst [])) D.objs.size) _ Mi σ8 Ml (.ref s2.heap.objs.size) [y] _ [v] (fun _ Mf=>N' σ8 Mf) Mo rfl (.cons Mj .nil) ⟨_,xs,y,rfl,rfl,G,h,sq⟩)
     (fun _ Mt ⟨_,Mf,Mq,_,Mp⟩=>aM (aM ⟨rfl,A' Mq Mp⟩)) fun _ _ z=>False.elim z)
 exact codeAny_compStart_list (Ma _ rfl) (T.self _ 0 _ _ _ Mh (Ma _ rfl))
noncomputable def qE(src:L6)(F:TI)(g:TG)(tc:TT)(te:TE):TE:=fun σ H Q=>F σ H fun J H1=>∀l,H1 l=none->rD J src g tc te Q σ H1 l
theorem mh{X:Cx}{scope:Scope}{N:List Str}{src:L6}{F:TI}(S:CpScope X scope N src)(Y:X.calm=true)
  (hi:PI X tg iter F) (G:∀fp p k C,PG (X.block scope N fp p k C) tg g) (B:∀fp p k C,sW (X.block scope N fp p k C) ifs tc) (R:∀fp p k C,PE (X.block scope N fp p k C) elt te)
  (hs:∀x,foldedSetIterable iter X.env x=pure x:=by intro _;rfl):PE X (.ListComp elt [⟨tg,iter,ifs,0⟩] scope pos) (qE src F g tc te):=by
 intro pins s σ H Q I h;rw[eval_ListComp];refine wpAny_comprehension_free (use:=none) rfl hs (DD fun y O e=>I.ok.has y.1 (.inl (S.frees y O e).2)) S.kind S.locs ?_;refine iI (hi pins s σ H _ I h) fun v s1 h1=>iI h1 fun i s2 h2=>?_;obtain⟨A,fp,L,J,H2,e,E,T,n,u,V⟩:=h2;subst e;refine Co (RR:=fun d C=>compPost (model X.prog X.w) X.A X.xe none (EP X pins σ Q) d C) S Y G B R E T n u V ?_;intro l C H' s' a K M q;obtain⟨m,K⟩:=K;refine⟨m,K,fun h' r=>?_⟩;exact⟨.ref l,H',a.turned (t':=s'.toks) (fun b o U e=>r.extBut b o U e) M.1 M.2.1 M.2.2.2.1 M.2.2.2.2.1 M.2.2.2.2.2,rfl,q⟩
theorem oP{X:Cx}{i:Nat}{x:Str}{pos' spos:Pos}{scope:Scope}{N:List Str}{src:L6}{F:TI}(f:X.N.Nodup)(P:X.N[i]? =some x)(G:Loc X.env.scope x)
  (S:CpScope X scope N src) (Y:X.calm=true)
  (hi:PI X tg iter F) (t:∀fp p k C,PG (X.block scope N fp p k C) tg g) (B:∀fp p k C,sW (X.block scope N fp p k C) ifs tc) (R:∀fp p k C,PE (X.block scope N fp p k C) elt te)
  (sz:swapsWith (.ListComp elt [⟨tg,iter,ifs,0⟩] scope pos) (some (.Name x pos')) spos.line X.env=pure true:=by rfl)
  (hs:∀x,foldedSetIterable iter X.env x=pure x:=by intro _;rfl) (w:X.fn x=true\/X.env.scope.names.lookup x=some .local:=by first|exact .inl rfl|exact .inr rfl|assumption):
  PS X (.Assign [.Name x pos'] (.ListComp elt [⟨tg,iter,ifs,0⟩] scope pos) spos) (qt (qE src F g tc te) (mw i)):=by
 intro pins s σ H D I h;rw[exec_Assign_Name_used _ _ _ _ sz];refine ae (fJ (ae ?_));show wpAny _ X.A (do let _ <- comprehension (.ListComp elt [⟨tg,iter,ifs,0⟩] scope pos) scope X.env _ (newList []) false (eval iter X.env) (some (assign (.Name x pos') X.env))) _ _ s;refine ae (dD (wpAny_comprehension_free (use:=some (assign (.Name x pos') X.env)) (Q:=fun _ s'=>SP X pins D .next s') rfl hs (DD fun y O e=>I.ok.has y.1 (.inl (S.frees y O e).2)) S.kind S.locs
  (iI (hi pins s σ H _ I h) fun v s1 h1=>iI h1 fun sq s2 h2=>?_)) (fun _ s' W=>aM (aM W)) fun _ _ e=>e)
 obtain⟨A,fp,L,J,H2,e,E,T,n,u,V⟩:=h2;subst e;refine Co (Q:=fun v H'=>D.nx (σ.set i (some v)) H') (RR:=fun d C=>compPost (model X.prog X.w) X.A X.xe (some (assign (.Name x pos') X.env)) (fun _ s'=>SP X pins D .next s') d C) S Y t B R E T n u V ?_;intro l C H' s' Z K M q;obtain⟨m,K⟩:=K;show wpAny _ X.A (assign (.Name x pos') X.env (.ref l)) _ _ _;refine wpAny_assign_Name (CI Z f P G (v:=.ref l) rfl (fun i' A' j=>?_) w);obtain⟨a,sb,c⟩:=j;have B':C≠a:=by
  rcases c with rfl|c
  ·exact M.2.1
  ·exact fun z=>M.2.2.2.2.1 x a c z.symm
 refine⟨m,K.sameBut sb B',fun h' r=>?_⟩;exact⟨_,H',A'.turned (t':=i'.toks) (fun b o U e=>r.extBut b o U e) M.1 M.2.1 M.2.2.2.1 M.2.2.2.2.1 M.2.2.2.2.2,q⟩
theorem Inv.turnedNew{X:Cx}{σ:St}{t:Addr}{o:HO}(I:Inv X pins σ H s)(hsz:s.heap.objs.size<=t)
  (k:∀b l,b∉ch->s.heap.get? b=some l->h'.get? b=some l) (L:∀b∈ch,mj X pins H b) (f:jc2 X.prog X.w (upd H t o) h' t o):
  Inv X pins σ (upd H t o) {s with heap:=h',toks:=t'}:=by
 have S:H t=none:=I.hok.fresh hsz;have i:∀{b l},s.heap.get? b=some l->b≠t:=fun q=>bu (bG (aR q) hsz);have u:Un (lP X.stack) ch H (upd H t o) s.heap h':=
  ⟨fun b l q _ _ G=>k b l G q,fun b l q _ _ G=>⟨l.slots,k b l G q⟩,fun b l q n _=>by rw[iC (i q)];exact n,fun b l q G=>⟨l,k b l G q⟩,
   fun b xs q=>by rw[iC (iO q S)];exact q,fun b l xs q=>by rw[iC (iO q S)];exact q,fun b ps q=>⟨#[],by rw[iC (iO q S),q];simp⟩⟩
 refine I.call (g':=s.gens) (t':=t') (d':=s.drawn) u (fun b l e=>?_) I.bare fun b U=>⟨(L b U).2.2.2.1,(L b U).2.1,(L b U).2.2.2.2.1,(L b U).2.2.2.2.2⟩;by_cases U:b=t
 ·subst U;rw[ir]at e;cases e;exact f
 ·rw[iC U]at e;have r:∀{c u},H c=some u->c∉ch:=fun q z=>by rw[(L _ z).1]at q;cases q
  refine(I.hok b l e).stay (fun c v Y q=>k c v ?_ q) (fun c q=>by rw[iC (iO q S)];exact q) fun c xs q=>by rw[iC (iO q S)];exact q
  rcases Y with z|z
  ·rw[z];exact r e
  ·exact r z
theorem Inv.turnedAll{X:Cx}{σ:St}(I:Inv X pins σ H s)
  (k:∀b l,b∉ch->s.heap.get? b=some l->h'.get? b=some l) (L:∀b∈ch,mj X pins H b):Inv X pins σ H {s with heap:=h',toks:=t'}:=by
 have u:Un (lP X.stack) ch H H s.heap h':=
  ⟨fun b l q _ _ G=>k b l G q,fun b l q _ _ G=>⟨l.slots,k b l G q⟩,fun b l q n _=>n,fun b l q G=>⟨l,k b l G q⟩,fun b xs q=>q,fun b l xs q=>q,fun b ps q=>⟨#[],by rw[q];simp⟩⟩
 refine I.call (g':=s.gens) (t':=t') (d':=s.drawn) u (fun b l e=>?_) I.bare fun b U=>⟨(L b U).2.2.2.1,(L b U).2.1,(L b U).2.2.2.2.1,(L b U).2.2.2.2.2⟩;have r:∀{c u},H c=some u->c∉ch:=fun q z=>by rw[(L _ z).1]at q;cases q
 refine(I.hok b l e).stay (fun c v Y q=>k c v ?_ q) (fun c q=>q) fun c xs q=>q;rcases Y with z|z
 ·rw[z];exact r e
 ·exact r z
noncomputable def qi(K:L3)(a:Addr):It:=
 ⟨fun i H=>∃xs x,SqL K H a xs/\xs[i]? =some x,fun i H x H'=>∃t y,H t=none/\x= .ref t/\H'=upd H t (.tup [.int i,y])/\∀xs,SqL K H a xs->xs[i]? =some y,fun i H=>∃xs,SqL K H a xs/\xs.length<=i⟩
theorem Ji{P:Program}{w:World}{K:L3}(a e N:Addr)(g:e≠N):
  Turn P w K (.Tuple elts x1 pos) (qi K a) [e,N] e (fun i h=>(∃Q,IsEnum h e N i Q)/\h.IsListIter N a i)where
 mem:=by simp
 obj:=fun i h st b U=>by
  obtain⟨⟨Q,R⟩,D⟩:=st;have q:b=e\/b=N:=by simpa using U
  rcases q with rfl|rfl
  ·exact⟨_,R,fun v z=>by
    have C:Data.fields _=Data.cell v:=z;cases C⟩
  ·obtain⟨o,e1,c,d⟩:=D;exact⟨o,e1,fun v z=>by rw[d]at z;cases z⟩
 keep:=fun i h h' st k=>by
  obtain⟨⟨Q,R⟩,D⟩:=st;exact⟨⟨Q,k e (by simp) _ R⟩,D.at fun o z=>k N (by simp) o z⟩
 item:=by
  intro X J V S Y i pins s σ H E I B st y;subst J V S;obtain⟨⟨Q,R⟩,D⟩:=st;obtain⟨xs,x,W,G⟩:=y;obtain⟨its,m,p,L⟩:=I.list W;obtain⟨u,F,r⟩:=m.get G;have elt:e<s.heap.objs.size:=aR R;have sz:N<s.heap.objs.size:=by obtain⟨_,z,_⟩:=D;exact aR z
  refine wpAny_pyNext_enum_item R D p.isList (x:=u) (by simpa using F) g fun h1 M j n A' i'=>?_;refine⟨_,rfl,wpAny_letOwnedTupleGo_enum M fun h2 sq T=>?_⟩;replace T:Heap.SameBut e h1 h2:=T;have kk:∀b l,b∉[e,N]->s.heap.get? b=some l->h2.get? b=some l:=fun b l U q=>by
   have A:b≠e/\b≠N:=by simpa using U
   exact T.extBut b l A.1 (i' b l A.1 A.2 q)
  have t:h2.get? s.heap.objs.size=some {cls:=.type "tuple",data:=.seq #[.int i s.toks,u]}:=(T.2 _ (du elt)).trans n;refine⟨.ref s.heap.objs.size,upd H s.heap.objs.size (.tup [.int i,x]),I.turnedNew (ch:=[e,N]) (ay _) kk B ?_,rfl,⟨_,x,I.fresh,rfl,rfl,fun ys O=>by rw[I.list_inj O W];exact G⟩,⟨⟨u,by simpa using sq⟩,j.at fun o z=>(T.2 N g.symm).trans z⟩,fun b U=>?_⟩
  ·exact⟨by show 2<=sizeLine;decide,[.int i s.toks,u],.cons ⟨_,rfl⟩ (.cons r .nil),⟨_,t,rfl,_,rfl⟩⟩
  ·have A:b=e\/b=N:=by simpa using U
   have:b≠s.heap.objs.size:=by
    rcases A with rfl|rfl
    ·exact bu elt
    ·exact bu sz
   rw[iC this];exact(B b U).1
 done:=by
  intro X J V S Y i pins s σ H E I B st y;subst J V S;obtain⟨⟨Q,R⟩,D⟩:=st;obtain⟨xs,W,G⟩:=y;obtain⟨its,m,p,L⟩:=I.list W;have Z:=m.length;refine wpAny_pyNext_enum_end (I.ok.hd Y) R D p.isList (by simp;lia) fun h' f=>⟨rfl,I.turnedAll (ch:=[e,N]) (t':=s.toks) (fun b o U q=>f b o (fun z=>U (by simp[z])) q) B⟩
 self:=fun _ _ _ _ _ st h=>by
  obtain⟨⟨Q,R⟩,_⟩:=st;exact wpAny_pyIter_enum R h
noncomputable def vS(K:L3)(ta:TA):TI:=fun σ H R=>ta σ H fun vs H1=>∃a,vs=[.ref a]/\(∃xs,SqL K H1 a xs)/\R (qi K a) H1
theorem uw{X:Cx}{ta:TA}{p:Pos}(y:Gl X "enumerate")(K:X.mg "enumerate"=none)(J:PA X [a] ta)(hs:starEach [a] X.env=[(false,eval a X.env)]:=by rfl):
  PI X (.Tuple elts x1 tpos) (.Call (.Name "enumerate" p) [a] [] pos) (vS X.K ta):=by
 intro pins s σ H R I h;refine Call_ (oK I y K boot_enumerate (dg (iI (J pos pins s σ H _ I h) fun us s1 C=>?_) hs rfl));obtain⟨vs,H1,A,r1,N⟩:=C;obtain⟨a,e,⟨xs,W⟩,q⟩:=N;subst e;cases r1 with
 |cons r d=>
  cases d;cases r;obtain⟨its,m,pl,L⟩:=A.list W;refine call_enumerate_list pl.isList fun h' T D M F=>?_;refine wpAny_pyIter_enum T ?_;have E:Inv X pins σ H1 {s1 with heap:=h'}:=A.kept (t':=s1.toks) fun b o q=>F b o q;refine⟨_,[s1.heap.objs.size+1,s1.heap.objs.size],_,_,H1,rfl,E,Ji a _ _ (gU _),⟨⟨_,T⟩,D⟩,fun b U=>?_,q⟩;have v:b=s1.heap.objs.size+1\/b=s1.heap.objs.size:=by simpa using U
  rcases v with rfl|rfl
  ·exact A.fpOk (Nat.le_succ _) (A.hok.fresh (Nat.le_succ _))
  ·exact A.fpOk (ay _) (A.hok.fresh (ay _))
end
section
variable{prog P:Program}{w:World}{A:Around}{E Q:LZ}{s s1:Shared}{h h':Heap}{g:Array GenState}{d:Drawn}{t k x1 n i k1 k2:Nat}{os:OsState}{a l j l1 l2:Addr}{o:Obj}{b:Bool}{pins:L1}{ar its ys:Array Value}{elts:List Expr}{X:Cx}{xs:List V}{x u v0 v1:Value}{tpos pos:Pos}{H H1:Hp}{tk:Tok}
theorem JB{t:Addr}(W:s.heap.IsTupleIter j t k)(S:s.heap.IsTuple t ar)(G:ar[k]? =some x)
  (p:∀h',h'.IsTupleIter j t (k+1)->Heap.SameBut j s.heap h'->Q x {s with heap:=h'}):wpAny (model prog w) A (Builtin.SmallTypes.nextOf (.ref j)) Q E s:=by
 obtain⟨l,X,c,b⟩:=id W;obtain⟨d,e1,_,i,I⟩:=S;unfold Builtin.SmallTypes.nextOf;refine ae (dy (name:=Str.ofString "__next__") W.typeIs dU (dW dU W.typeIs ic ?_ (h8 _)));show wpAny _ _ (field (.ref j) 0>>=_) _ _ s;refine ae (cM X b (x:=.ref t) rfl ?_);show wpAny _ _ (if(Value.ref t==Value.none)=true then _ else _) _ _ s;rw[aG (show ¬((Value.ref t==Value.none)=true)from bo)];show wpAny _ _ (field (.ref j) 1>>=_) _ _ s;refine ae (cM X b (x:=.int k 0) rfl ?_);show wpAny _ _ (seqItems? (.ref t)>>=_) _ _ s;refine ae (bY e1 I ?_);simp only[Int.toNat_natCast,G];refine ae (wpAny_setField X b (by simp) (aM ⟨x,rfl,aM (p _ ?_ (Heap.SameBut.update ..))⟩));exact⟨_,cY _ X (Obj.isFreed_of_fields (Obj.data_mapFields b _)),(Obj.cls_mapFields ..).trans c,by rw[Obj.data_mapFields b];simp[rawInt]⟩
theorem KM{t:Addr}(C:A.handled=none)(W:s.heap.IsTupleIter j t k)(S:s.heap.IsTuple t ar)(G:ar[k]? =none)
  (p:∀h' e,Heap.ExtBut j s.heap h'->(∃o,h'.get? e=some o/\o.cls= .type "StopIteration")->E (.ref e) {s with heap:=h'}):wpAny (model prog w) A (Builtin.SmallTypes.nextOf (.ref j)) Q E s:=by
 obtain⟨l,X,c,b⟩:=id W;obtain⟨d,e1,_,i,I⟩:=S;unfold Builtin.SmallTypes.nextOf;refine ae (dy (name:=Str.ofString "__next__") W.typeIs dU (dW dU W.typeIs ic ?_ (h8 _)));show wpAny _ _ (field (.ref j) 0>>=_) _ _ s;refine ae (cM X b (x:=.ref t) rfl ?_);show wpAny _ _ (if(Value.ref t==Value.none)=true then _ else _) _ _ s;rw[aG (show ¬((Value.ref t==Value.none)=true)from bo)];show wpAny _ _ (field (.ref j) 1>>=_) _ _ s;refine ae (cM X b (x:=.int k 0) rfl ?_);show wpAny _ _ (seqItems? (.ref t)>>=_) _ _ s;refine ae (bY e1 I ?_);simp only[Int.toNat_natCast,G];refine ae (fj (ae (wpAny_setField X b (by simp) ?_)));show wpAny _ _ (newExc (.type "StopIteration") []>>=_) _ _ _;refine ae ?_;simp only[newExc,newTuple];refine ae (cR ?_ (by size_fits));refine ae (m:=firstArgMember _ _) (fH (a:=Value.none) (by first|rfl|(simp only[firstArgMember];rfl)) ?_);refine cR ?_ (by size_fits);simp only[raiseNew];refine ae (wpAny_handled ?_)
 first|rw[show A.in1.handled=none from C]|rw[C]
 refine ae (aM (wpAny_throw ?_));exact p _ _ (((Heap.SameBut.update ..).extBut.push _).push _) ⟨_,aW _ rfl,rfl⟩
noncomputable def IsSq(b:Bool)(h:Heap)(l:Addr)(ar:Array Value):Prop:=if b=true then h.IsList l ar else h.IsTuple l ar
noncomputable def jc0(b:Bool)(h:Heap)(j l:Addr)(k:Nat):Prop:=if b=true then h.IsListIter j l k else h.IsTupleIter j l k
theorem IsSq.at'(x:IsSq b h l ar)(k:∀o,h.get? l=some o->h'.get? l=some o):IsSq b h' l ar:=by
 cases b with
 |true=>obtain⟨o,e,r⟩:=(show h.IsList l ar from x);exact(show h'.IsList l ar from⟨o,k o e,r⟩)
 |false=>obtain⟨o,e,r⟩:=(show h.IsTuple l ar from x);exact(show h'.IsTuple l ar from⟨o,k o e,r⟩)
theorem jc0.at'(x:jc0 b h j l i)(k:∀o,h.get? j=some o->h'.get? j=some o):jc0 b h' j l i:=by
 cases b with
 |true=>obtain⟨o,e,r⟩:=(show h.IsListIter j l i from x);exact(show h'.IsListIter j l i from⟨o,k o e,r⟩)
 |false=>obtain⟨o,e,r⟩:=(show h.IsTupleIter j l i from x);exact(show h'.IsTupleIter j l i from⟨o,k o e,r⟩)
theorem jc0.obj(x:jc0 b h j l i):∃o,h.get? j=some o/\∀v,o.data≠ .cell v:=by
 cases b with
 |true=>obtain⟨o,e,_,d⟩:=(show h.IsListIter j l i from x);exact⟨o,e,fun v z=>by rw[d]at z;cases z⟩
 |false=>obtain⟨o,e,_,d⟩:=(show h.IsTupleIter j l i from x);exact⟨o,e,fun v z=>by rw[d]at z;cases z⟩
theorem ye(W:jc0 b s.heap j l k)(Z:IsSq b s.heap l ar)(G:ar[k]? =some x)
  (p:∀h',jc0 b h' j l (k+1)->Heap.SameBut j s.heap h'->Q x {s with heap:=h'}):wpAny (model prog w) A (Builtin.SmallTypes.nextOf (.ref j)) Q E s:=by
 cases b with
 |true=>exact wpAny_nextOf_list_item (show s.heap.IsListIter j l k from W) (show s.heap.IsList l ar from Z) G fun h' a b=>p h' a b
 |false=>exact JB (show s.heap.IsTupleIter j l k from W) (show s.heap.IsTuple l ar from Z) G fun h' a b=>p h' a b
theorem Dz(C:A.handled=none)(W:jc0 b s.heap j l k)(Z:IsSq b s.heap l ar)(G:ar[k]? =none)
  (p:∀h' e,Heap.ExtBut j s.heap h'->(∃o,h'.get? e=some o/\o.cls= .type "StopIteration")->E (.ref e) {s with heap:=h'}):wpAny (model prog w) A (Builtin.SmallTypes.nextOf (.ref j)) Q E s:=by
 cases b with
 |true=>exact wpAny_nextOf_list_end C (show s.heap.IsListIter j l k from W) (show s.heap.IsList l ar from Z) G p
 |false=>exact KM C (show s.heap.IsTupleIter j l k from W) (show s.heap.IsTuple l ar from Z) G p
theorem Kv{z TI TO m N:Addr}{xs:Array Value}{y:Value}(D:ZipApart z TI TO m N l1 l2)
  (L:IsZip s.heap z TI TO .none) (f:IsPair s.heap TI (.ref m) (.ref N)) (g:IsPair s.heap TO v0 v1)
  (h1:jc0 b s.heap m l1 k1) (h2:jc0 b s.heap N l2 k2) (i:IsSq b s.heap l1 xs) (I:IsSq b s.heap l2 ys) (G:xs[k1]? =some x) (O:ys[k2]? =some y)
  (p:∀h',IsZip h' z TI TO (rawInt s.heap.objs.size)->IsPair h' TO x y->jc0 b h' m l1 (k1+1)->jc0 b h' N l2 (k2+1)->IsPair h' s.heap.objs.size x y->
   (∀c o,c≠z->c≠TO->c≠m->c≠N->s.heap.get? c=some o->h'.get? c=some o)->Q (.ref s.heap.objs.size) {s with heap:=h'}):
  wpAny (model prog w) A (Builtin.«zip.__next__» ⟨[.ref z],[]⟩) (fun C s'=>∃v,C= .done (.ret v)/\Q v s') E s:=by
 show wpAny _ _ (field (.ref z) 2>>=_) _ _ _;refine ae (cM L rfl (x:=.bool false) rfl ?_);show wpAny _ _ (field (.ref z) 3>>=_) _ _ _;refine ae (cM L rfl (x:=.ref TI) rfl ?_);refine ae (bY f rfl ?_);show wpAny _ _ (Builtin.SmallTypes.ownedTupleIsFree (.ref z)>>=_) _ _ _;refine ae ?_;unfold Builtin.SmallTypes.ownedTupleIsFree;refine ae (cM L rfl (x:=.none) rfl (aM ?_));simp only[if_true];refine ae (fj ?_);refine ae (cM L rfl (x:=.ref TO) rfl ?_);refine ae (dC L (by simp) fun P j a=>?_);replace j:IsZip P z TI TO .ellipsis:=j;refine ae ?_;simp only[List.zipIdx_cons,List.zipIdx_nil,hX,List.forIn_nil];refine ae (ae (gA ?_));show wpAny _ _ (Builtin.SmallTypes.nextOf (.ref m)>>=_) _ _ _;refine ae (ye (b:=b) (h1.at' fun o e=>a.extBut _ o D.i1z e) (i.at' fun o e=>a.extBut _ o D.l1z e) G fun K S B=>aM ?_);have r:IsPair K TO v0 v1:=B.extBut _ _ D.TOi1 (a.extBut _ _ D.TOz g);refine ae (bY r rfl ?_);refine ae (gp r fun H u d=>?_);replace u:IsPair H TO x v1:=u;refine ae (dq (aM ?_));refine ae (ae (gA ?_));show wpAny _ _ (Builtin.SmallTypes.nextOf (.ref N)>>=_) _ _ _;refine ae (ye (b:=b) (h2.at' fun o e=>d.extBut _ o D.TOi2.symm (B.extBut _ o D.i12.symm (a.extBut _ o D.i2z e))) (I.at' fun o e=>d.extBut _ o D.l2TO (B.extBut _ o D.l2i1 (a.extBut _ o D.l2z e))) O fun g4 sz k=>aM ?_);have R:IsPair g4 TO x v1:=k.extBut _ _ D.TOi2 u;refine ae (bY R rfl ?_);refine ae (gp R fun l h T=>?_);replace h:IsPair l TO x y:=h;refine ae (dq (aM (aM ?_)));refine ae (bY h rfl ?_);refine ae (wpAny_newTuple ?_);have M:l.objs.size=s.heap.objs.size:=by rw[T.1,k.1,d.1,B.1,a.1]
 have U:IsZip l z TI TO .ellipsis:=T.extBut _ _ D.TOz.symm (k.extBut _ _ D.i2z.symm (d.extBut _ _ D.TOz.symm (B.extBut _ _ D.i1z.symm j)));have Z:∀c o,c≠z->c≠TO->c≠m->c≠N->s.heap.get? c=some o->l.get? c=some o:=fun c o c1 c2 c3 c4 e=>T.extBut _ _ c2 (k.extBut _ _ c4 (d.extBut _ _ c2 (B.extBut _ _ c3 (a.extBut _ _ c1 e))));have A':jc0 b l m l1 (k1+1):=S.at' fun o e=>T.extBut _ o D.TOi1.symm (k.extBut _ o D.i12 (d.extBut _ o D.TOi1.symm e));have sq:jc0 b l N l2 (k2+1):=sz.at' fun o e=>T.extBut _ o D.TOi2.symm e;have t:z<l.objs.size:=aR U;show wpAny _ _ (Builtin.SmallTypes.ownedTupleHandOut (.ref z) (.ref l.objs.size)>>=_) _ _ _;refine ae ?_;unfold Builtin.SmallTypes.ownedTupleHandOut;have i':IsZip (l.push {cls:=.type "tuple",data:=.seq #[x,y]}) z TI TO .ellipsis:=ag _ U;refine ae (dC i' (by simp) fun q J V=>?_);replace J:IsZip q z TI TO (rawInt l.objs.size):=J;refine dC J (by simp) fun X n W=>?_;replace n:IsZip X z TI TO (rawInt l.objs.size):=n;have Y:∀c o,c≠z->l.get? c=some o->X.get? c=some o:=fun c o c1 e=>W.extBut _ _ c1 (V.extBut _ _ c1 (ag _ e));have F:IsPair X l.objs.size x y:=W.extBut _ _ (du t) (V.extBut _ _ (du t) (aW _ rfl));rw[M]at n F;refine aM ⟨_,rfl,?_⟩;show Q (.ref l.objs.size) _;rw[M];exact p X n (Y _ _ D.TOz h) (A'.at' fun o e=>Y _ o D.i1z e) (sq.at' fun o e=>Y _ o D.i2z e) F fun c o c1 c2 c3 c4 e=>Y c o c1 (Z c o c1 c2 c3 c4 e)
theorem Kk{z TI TO m N:Addr}{xs:Array Value}{Q:Fin->Shared->Prop}(C:A.handled=none)(D:ZipApart z TI TO m N l1 l2)
  (L:IsZip s.heap z TI TO .none) (f:IsPair s.heap TI (.ref m) (.ref N)) (g:IsPair s.heap TO v0 v1)
  (h1:jc0 b s.heap m l1 k1) (h2:jc0 b s.heap N l2 k2) (i:IsSq b s.heap l1 xs) (I:IsSq b s.heap l2 ys) (F:xs[k1]? =none\/ys[k2]? =none)
  (p:∀h' e,(∀c o,c≠z->c≠TO->c≠m->c≠N->s.heap.get? c=some o->h'.get? c=some o)->(∃o,h'.get? e=some o/\o.cls= .type "StopIteration")->E (.ref e) {s with heap:=h'}):
  wpAny (model prog w) A (Builtin.«zip.__next__» ⟨[.ref z],[]⟩) Q E s:=by
 show wpAny _ _ (field (.ref z) 2>>=_) _ _ _;refine ae (cM L rfl (x:=.bool false) rfl ?_);show wpAny _ _ (field (.ref z) 3>>=_) _ _ _;refine ae (cM L rfl (x:=.ref TI) rfl ?_);refine ae (bY f rfl ?_);show wpAny _ _ (Builtin.SmallTypes.ownedTupleIsFree (.ref z)>>=_) _ _ _;refine ae ?_;unfold Builtin.SmallTypes.ownedTupleIsFree;refine ae (cM L rfl (x:=.none) rfl (aM ?_));simp only[if_true];refine ae (fj ?_);refine ae (cM L rfl (x:=.ref TO) rfl ?_);refine ae (dC L (by simp) fun P j a=>?_);replace j:IsZip P z TI TO .ellipsis:=j;refine ae ?_;simp only[List.zipIdx_cons,List.zipIdx_nil,hX,List.forIn_nil];refine ae (ae (gA ?_));show wpAny _ _ (Builtin.SmallTypes.nextOf (.ref m)>>=_) _ _ _;cases G:xs[k1]? with
 |none=>
  refine ae (Dz (b:=b) C (h1.at' fun o e=>a.extBut _ o D.i1z e) (i.at' fun o e=>a.extBut _ o D.l1z e) G fun K ex B R=>?_);obtain⟨y,n,t⟩:=R;have J:IsZip K z TI TO .ellipsis:=B _ _ D.i1z.symm j;have v:ex≠z:=fun q=>by subst q;rw[J]at n;cases n;simp at t
  refine dC J (by simp) fun H _ d=>p H ex (fun c o c1 _ c3 _ q=>d.extBut _ _ c1 (B _ _ c3 (a.extBut _ _ c1 q))) ⟨y,d.extBut _ _ v n,t⟩
 |some x=>
  have O:ys[k2]? =none:=by rcases F with h|h;rw[G]at h;cases h;exact h
  refine ae (ye (b:=b) (h1.at' fun o e=>a.extBut _ o D.i1z e) (i.at' fun o e=>a.extBut _ o D.l1z e) G fun K S B=>aM ?_);have r:IsPair K TO v0 v1:=B.extBut _ _ D.TOi1 (a.extBut _ _ D.TOz g);refine ae (bY r rfl ?_);refine ae (gp r fun H u d=>?_);refine ae (dq (aM ?_));refine ae (ae (gA ?_));show wpAny _ _ (Builtin.SmallTypes.nextOf (.ref N)>>=_) _ _ _;refine ae (Dz (b:=b) C (h2.at' fun o e=>d.extBut _ o D.TOi2.symm (B.extBut _ o D.i12.symm (a.extBut _ o D.i2z e))) (I.at' fun o e=>d.extBut _ o D.l2TO (B.extBut _ o D.l2i1 (a.extBut _ o D.l2z e))) O fun U ex k R=>?_);obtain⟨y,n,t⟩:=R;have M:IsZip U z TI TO .ellipsis:=k _ _ D.i2z.symm (d.extBut _ _ D.TOz.symm (B.extBut _ _ D.i1z.symm j));have v:ex≠z:=fun q=>by subst q;rw[M]at n;cases n;simp at t
  refine dC M (by simp) fun l _ T=>p l ex (fun c o c1 c2 c3 c4 q=>T.extBut _ _ c1 (k _ _ c4 (d.extBut _ _ c2 (B.extBut _ _ c3 (a.extBut _ _ c1 q))))) ⟨y,T.extBut _ _ v n,t⟩
abbrev rp(b:Bool)(l:Addr):Obj:={cls:=.type (if b=true then "list_iterator" else "tuple_iterator"),data:=.fields #[.ref l,.int 0 0]}
abbrev tm(b:Bool)(h:Heap)(l1 l2:Addr):Heap:=(h.push (rp b l1)).push (rp b l2)
abbrev tf(b:Bool)(h:Heap)(l1 l2:Addr):Heap:=(tm b h l1 l2).push {cls:=.type "tuple",data:=.seq #[.ref h.objs.size,.ref (h.push (rp b l1)).objs.size]}
abbrev sY(b:Bool)(h:Heap)(l1 l2:Addr):Heap:=(tf b h l1 l2).push {cls:=.type "tuple",data:=.seq #[.none,.none]}
abbrev qk(b:Bool)(h:Heap)(l1 l2:Addr):Heap:=(sY b h l1 l2).push {cls:=.type "zip",data:=.fields #[.none,.bool false,.bool false,.ref (tm b h l1 l2).objs.size,.ref (tf b h l1 l2).objs.size]}
theorem Jk(l1 l2:Addr)(xs ys:Array Value):
  Meets (Builtin.«zip.__new__» ⟨[.type "zip",.ref l1,.ref l2],[]⟩) (fun _ R s=>s.heap.IsTuple l1 xs/\s.heap.IsTuple l2 ys/\R (.ok (.ret (.ref (sY false s.heap l1 l2).objs.size))) {s with heap:=qk false s.heap l1 l2}):=
 .of_wp fun prog w A R s h=>by
  obtain⟨O,g,d,tk,os⟩:=s;obtain⟨i,I,h⟩:=h;have c:=sub_zip;have a:Heap.IsTuple (Shared.heap ⟨O,g,d,tk,os⟩) l1 xs:=i;have b:Heap.IsTuple (Shared.heap ⟨O.push {cls:=.type "tuple_iterator",data:=.fields #[.ref l1,.int 0 0]},g,d,tk,os⟩) l2 ys:=Heap.IsTuple.push I _
  wp_walk using gC a,gC b
  exact⟨_,rfl,h⟩
theorem FW{xs:Array Value}(i:IsSq b s.heap l1 xs)(I:IsSq b s.heap l2 ys)
  (h:∀h',IsZip h' (s.heap.objs.size+4) (s.heap.objs.size+2) (s.heap.objs.size+3) .none->IsPair h' (s.heap.objs.size+2) (.ref s.heap.objs.size) (.ref (s.heap.objs.size+1))->
   IsPair h' (s.heap.objs.size+3) .none .none->jc0 b h' s.heap.objs.size l1 0->jc0 b h' (s.heap.objs.size+1) l2 0->(∀c o,s.heap.get? c=some o->h'.get? c=some o)->Q (.ref (s.heap.objs.size+4)) {s with heap:=h'}):
  wpAny (model prog w) A (call (.type "zip") [.ref l1,.ref l2]) Q E s:=by
 cases b with
 |true=>exact call_zip_2 (show s.heap.IsList l1 xs from i) (show s.heap.IsList l2 ys from I) fun h' u g y n t _ a=>h h' u g y n t a
 | false=>
  refine callType_new F.called_zip (by decide) (F.typeCall_zip_2 _ _) (F.newCall_zip_2 _ _) (fun k=>F.args_object_init_3 k _ _) F.entry_zip_new (Jk l1 l2 xs ys) ⟨i,I,?_⟩;have N:(s.heap.push (rp false l1)).objs.size=s.heap.objs.size+1:=dR ..;have G:(tm false s.heap l1 l2).objs.size=s.heap.objs.size+2:=by rw[dR,N]
  have j:(tf false s.heap l1 l2).objs.size=s.heap.objs.size+3:=by rw[dR,G]
  have S:(sY false s.heap l1 l2).objs.size=s.heap.objs.size+4:=by rw[dR,j]
  have p:(qk false s.heap l1 l2).get? (sY false s.heap l1 l2).objs.size=some _:=aW _ rfl;have d:(qk false s.heap l1 l2).get? (tf false s.heap l1 l2).objs.size=some _:=ag _ (aW _ rfl);have v:(qk false s.heap l1 l2).get? (tm false s.heap l1 l2).objs.size=some _:=ag _ (ag _ (aW _ rfl));have p2:(qk false s.heap l1 l2).get? (s.heap.push (rp false l1)).objs.size=some _:=ag _ (ag _ (ag _ (aW _ rfl)));have p1:(qk false s.heap l1 l2).get? s.heap.objs.size=some _:=ag _ (ag _ (ag _ (ag _ (aW _ rfl))));show _/\_;rw[G,j,S]at p;rw[N,G]at v;rw[j]at d;rw[N]at p2;rw[S];exact⟨⟨_,p,rfl⟩,h _ p v d (show Heap.IsTupleIter _ _ _ _ from⟨_,p1,rfl,rfl⟩) (show Heap.IsTupleIter _ _ _ _ from⟨_,p2,rfl,rfl⟩) fun c o x=>
   ag _ (ag _ (ag _ (ag _ (ag _ x))))⟩
noncomputable def kB(b:Bool)(K:L3)(H:Hp)(a:Addr)(xs:List V):Prop:=if b=true then SqL K H a xs else SqT K H a xs
theorem Inv.sqB{σ:St}(I:Inv X pins σ H s)(h:kB b X.K H a xs):∃its:List Value,Vals xs its/\IsSq b s.heap a its.toArray/\xs.length<=sizeLine:=by
 cases b with
 |true=>
  obtain⟨its,r,p,z⟩:=I.list (show SqL X.K H a xs from h);exact⟨its,r,p.isList,z⟩
 |false=>
  obtain⟨its,r,p,z⟩:=I.tuple (show SqT X.K H a xs from h);exact⟨its,r,(show s.heap.IsTuple a its.toArray from p),z⟩
theorem Inv.sqB_inj{σ:St}{ys:List V}(I:Inv X pins σ H s)(h:kB b X.K H a xs)(h':kB b X.K H a ys):xs=ys:=by
 cases b with
 |true=>exact I.list_inj (show SqL X.K H a xs from h) (show SqL X.K H a ys from h')
 |false=>exact I.tuple_inj (show SqT X.K H a xs from h) (show SqT X.K H a ys from h')
noncomputable def ou(b:Bool)(K:L3)(a c:Addr):It:=
  ⟨fun i H=>∃xs ys x y,kB b K H a xs/\kB b K H c ys/\xs[i]? =some x/\ys[i]? =some y,
   fun i H v H'=>∃t x y,H t=none/\v= .ref t/\H'=upd H t (.tup [x,y])/\(∀xs,kB b K H a xs->xs[i]? =some x)/\∀ys,kB b K H c ys->ys[i]? =some y,
   fun i H=>∃xs ys,kB b K H a xs/\kB b K H c ys/\(xs.length<=i\/ys.length<=i)⟩
theorem lI{σ:St}(I:Inv X pins σ H s)(h:kB b X.K H a xs)(f:mj X pins H j):a≠j:=by
 intro e;subst e;have key:∀{o},X.K.lookup a=some o->False:=fun{o} q=>by
  have N:=I.mod.kin a o q;rcases f.2.2.2.1 with z|z
  ·exact I.ok.noex a o N z
  ·exact absurd (bG (aR N) (bw I.ok.bsz z)) (cP _)
 cases b with
 |true=>
  rcases(show SqL X.K H a xs from h)with(h|⟨o,h⟩)|⟨o,its,n,F,_⟩
  ·rw[f.1]at h;cases h
  ·rw[f.1]at h;cases h
  ·exact key F
 |false=>
  rcases(show SqT X.K H a xs from h)with(h|⟨o,h⟩)|⟨o,its,n,F,_⟩
  ·rw[f.1]at h;cases h
  ·rw[f.1]at h;cases h
  ·exact key F
structure ZpA(z TI TO i1 i2:Addr):Prop where
 TIz:TI≠z
 TOz:TO≠z
 i1z:i1≠z
 i2z:i2≠z
 TITO:TI≠TO
 TIi1:TI≠i1
 TIi2:TI≠i2
 TOi1:TO≠i1
 TOi2:TO≠i2
 i12:i1≠i2
theorem HY{K:L3}(b:Bool)(a c z TI TO m N:Addr)(D0:ZpA z TI TO m N):
  Turn P w K (.Tuple elts x1 pos) (ou b K a c) [z,TI,TO,m,N] z (fun i h=>IsZip h z TI TO .none/\IsPair h TI (.ref m) (.ref N)/\(∃u v,IsPair h TO u v)/\jc0 b h m a i/\jc0 b h N c i)where
 mem:=by simp
 obj:=fun i h st d J=>by
  obtain⟨L,sq,⟨u,v,sz⟩,h1,h2⟩:=st;have q:d=z\/d=TI\/d=TO\/d=m\/d=N:=by simpa using J
  rcases q with rfl|rfl|rfl|rfl|rfl
  ·exact⟨_,L,fun v z=>by
    have z':Data.fields _=Data.cell v:=z;cases z'⟩
  ·exact⟨_,sq,fun v z=>by
    have z':Data.seq _ _=Data.cell v:=z;cases z'⟩
  ·exact⟨_,sz,fun v z=>by
    have z':Data.seq _ _=Data.cell v:=z;cases z'⟩
  ·exact h1.obj
  ·exact h2.obj
 keep:=fun i h h' st k=>by
  obtain⟨L,sq,⟨u,v,sz⟩,h1,h2⟩:=st;exact⟨k z (by simp) _ L,k TI (by simp) _ sq,⟨u,v,k TO (by simp) _ sz⟩,h1.at' fun o e=>k m (by simp) o e,h2.at' fun o e=>k N (by simp) o e⟩
 item:=by
  intro X hP V hK Y i pins s σ H E I B st t;subst hP V hK;obtain⟨L,sq,⟨u0,v0,sz⟩,h1,h2⟩:=st;obtain⟨xs,ys,x,y,i',Z,G,O⟩:=t;obtain⟨L',G',p1,B'⟩:=I.sqB i';obtain⟨C,F',p2,A'⟩:=I.sqB Z;obtain⟨u1,n,Mb⟩:=G'.get G;obtain⟨u2,L8,Ma⟩:=F'.get O;have D:ZipApart z TI TO m N a c:=⟨D0.TIz,D0.TOz,D0.i1z,D0.i2z,D0.TITO,D0.TIi1,D0.TIi2,D0.TOi1,D0.TOi2,D0.i12,
   lI I i' (B z (by simp)),lI I i' (B TO (by simp)),lI I i' (B m (by simp)),lI I i' (B N (by simp)),lI I Z (B z (by simp)),lI I Z (B TO (by simp)),lI I Z (B m (by simp)),lI I Z (B N (by simp))⟩
  have J':z<s.heap.objs.size:=aR L;have hT:s.TypeIs (.ref z) "zip":=⟨_,L,rfl⟩;unfold pyNext;refine ae (wpAny_attempt (dy (name:=Str.ofString "__next__") hT gb (dW gb hT F.entry_zip_next
   (Kv (b:=b) D L sq sz h1 h2 p1 p2 (x:=u1) (y:=u2) (by simpa using n) (by simpa using L8) fun h' U p Q a4 a5 a7=>aM ?_) (F.args_zip_next_1 _))))
  refine⟨_,rfl,wpAny_letOwnedTupleGo_zip U fun g Mc r=>?_⟩;replace r:Heap.SameBut z h' g:=r;have kk:∀d l,d∉[z,TI,TO,m,N]->s.heap.get? d=some l->g.get? d=some l:=fun d l J q=>by
   have S:d≠z/\d≠TI/\d≠TO/\d≠m/\d≠N:=by simpa using J
   exact r.extBut _ _ S.1 (a7 d l S.1 S.2.2.1 S.2.2.2.1 S.2.2.2.2 q)
  have L9:g.get? s.heap.objs.size=some {cls:=.type "tuple",data:=.seq #[u1,u2]}:=r.extBut _ _ (du J') a5;refine⟨.ref s.heap.objs.size,upd H s.heap.objs.size (.tup [x,y]),I.turnedNew (ch:=[z,TI,TO,m,N]) (t':=s.toks) (ay _) kk B ?_,rfl,
   ⟨_,x,y,I.fresh,rfl,rfl,fun zs W=>by rw[I.sqB_inj W i'];exact G,fun zs W=>by rw[I.sqB_inj W Z];exact O⟩,
   ⟨Mc,r.extBut _ _ D.TIz (a7 _ _ D.TIz D.TITO D.TIi1 D.TIi2 sq),⟨_,_,r.extBut _ _ D.TOz p⟩,Q.at' fun o e=>r.extBut _ _ D.i1z e,a4.at' fun o e=>r.extBut _ _ D.i2z e⟩,fun d J=>?_⟩
  ·exact⟨by show 2<=sizeLine;decide,[u1,u2],.cons Mb (.cons Ma .nil),⟨_,L9,rfl,_,rfl⟩⟩
  ·have K':d<s.heap.objs.size:=by
    have q:d=z\/d=TI\/d=TO\/d=m\/d=N:=by simpa using J
    rcases q with rfl|rfl|rfl|rfl|rfl
    ·exact J'
    ·exact aR sq
    ·exact aR sz
    ·obtain⟨o,e,_⟩:=h1.obj;exact aR e
    ·obtain⟨o,e,_⟩:=h2.obj;exact aR e
   rw[iC (bu K')];exact(B d J).1
 done:=by
  intro X hP V hK Y i pins s σ H E I B st t;subst hP V hK;obtain⟨L,sq,⟨u0,v0,sz⟩,h1,h2⟩:=st;obtain⟨xs,ys,i',Z,f⟩:=t;obtain⟨L',G',p1,B'⟩:=I.sqB i';obtain⟨C,F',p2,A'⟩:=I.sqB Z;have e1:=G'.length;have e2:=F'.length;have D:ZipApart z TI TO m N a c:=⟨D0.TIz,D0.TOz,D0.i1z,D0.i2z,D0.TITO,D0.TIi1,D0.TIi2,D0.TOi1,D0.TOi2,D0.i12,
   lI I i' (B z (by simp)),lI I i' (B TO (by simp)),lI I i' (B m (by simp)),lI I i' (B N (by simp)),lI I Z (B z (by simp)),lI I Z (B TO (by simp)),lI I Z (B m (by simp)),lI I Z (B N (by simp))⟩
  have hT:s.TypeIs (.ref z) "zip":=⟨_,L,rfl⟩;unfold pyNext;refine ae (wpAny_attempt (dy (name:=Str.ofString "__next__") hT gb (dW gb hT F.entry_zip_next
   (Kk (b:=b) (I.ok.hd Y) D L sq sz h1 h2 p1 p2 (by rcases f with h|h;exact .inl (by simp;lia);exact .inr (by simp;lia)) fun h' e j R=>?_) (F.args_zip_next_1 _))))
  obtain⟨o,M,A⟩:=R;refine ae (gT (T:="StopIteration") (b:=true) ⟨o,M,A⟩ isSubtype_stop ?_);exact aM ⟨rfl,I.turnedAll (ch:=[z,TI,TO,m,N]) (t':=s.toks) (fun d l J q=>by
   have S:d≠z/\d≠TI/\d≠TO/\d≠m/\d≠N:=by simpa using J
   exact j d l S.1 S.2.2.1 S.2.2.2.1 S.2.2.2.2 q) B⟩
 self:=fun _ _ _ _ _ st h=>wpAny_pyIter_zip st.1 h
theorem Kl{σ:St}{R:It->Hp->Prop}{c:Addr}{ys:List V}(A:Inv X pins σ H1 s1)(f:kB b X.K H1 a xs)(Z:kB b X.K H1 c ys)(q:R (ou b X.K a c) H1):
  wpAny (model X.prog X.w) X.A (call (.type "zip") [.ref a,.ref c]) (fun v s2=>wpAny (model X.prog X.w) X.A (pyIter v) (yU X pins σ (.Tuple elts x1 tpos) R) X.xe s2) X.xe s1:=by
 obtain⟨p,l,p1,k⟩:=A.sqB f;obtain⟨C,r,p2,g⟩:=A.sqB Z;refine FW p1 p2 fun h' u x y n t F=>?_;refine wpAny_pyIter_zip u ?_;have E:Inv X pins σ H1 {s1 with heap:=h'}:=A.kept (t':=s1.toks) fun b o q=>F b o q;have D:∀i j:Nat,i≠j->s1.heap.objs.size+i≠s1.heap.objs.size+j:=fun i j h e=>h (Nat.add_left_cancel e);refine⟨_,[s1.heap.objs.size+4,s1.heap.objs.size+2,s1.heap.objs.size+3,s1.heap.objs.size,s1.heap.objs.size+1],_,_,H1,rfl,E,HY b a c _ _ _ _ _ ⟨D 2 4 (by decide),D 3 4 (by decide),D 0 4 (by decide),D 1 4 (by decide),D 2 3 (by decide),D 2 0 (by decide),D 2 1 (by decide),D 3 0 (by decide),D 3 1 (by decide),D 0 1 (by decide)⟩,
  ⟨u,x,⟨_,_,y⟩,n,t⟩,fun d J=>?_,q⟩
 have S:d=s1.heap.objs.size+4\/d=s1.heap.objs.size+2\/d=s1.heap.objs.size+3\/d=s1.heap.objs.size\/d=s1.heap.objs.size+1:=by simpa using J
 have m:s1.heap.objs.size<=d:=by
  rcases S with e|e|e|e|e<;>rw[e]
  ·exact fP _ _
  ·exact fP _ _
  ·exact fP _ _
  ·exact ay _
  ·exact fP _ _
 exact A.fpOk m (A.hok.fresh m)
noncomputable def tS(K:L3)(ta:TA):TI:=fun σ H R=>ta σ H fun vs H1=>∃(b:Bool) (a c:Addr),vs=[.ref a,.ref c]/\(∃xs,kB b K H1 a xs)/\(∃ys,kB b K H1 c ys)/\R (ou b K a c) H1
theorem xf{a c:Expr}{ta:TA}{p:Pos}(y:Gl X "zip")(K:X.mg "zip"=none)(J:PA X [a,c] ta)(hs:starEach [a,c] X.env=[(false,eval a X.env),(false,eval c X.env)]:=by rfl)(T:starEach [c] X.env=[(false,eval c X.env)]:=by rfl):
  PI X (.Tuple elts x1 tpos) (.Call (.Name "zip" p) [a,c] [] pos) (tS X.K ta):=by
 intro pins s σ H R I h;refine Call_ (oK I y K boot_zip (dg (iI (J pos pins s σ H _ I h) fun us s1 C=>?_) (by rw[hs,T]) (by rw[T];rfl)));obtain⟨vs,H1,A,r1,N⟩:=C;obtain⟨b,a,c,e,⟨xs,f⟩,⟨ys,Z⟩,q⟩:=N;subst e;cases r1 with
 | cons r d=>
  cases d with
  |cons r' d=>
   cases d;cases r;cases r';exact Kl A f Z q
theorem Kn:typeLookup (.type "list") "keys"=pure none:=by rw[typeLookup_type,builtinLookup_eq_fast];kernel_rfl
theorem KS:typeLookup (.type "list") "__getattr__"=pure none:=by rw[typeLookup_type,builtinLookup_eq_fast];kernel_rfl
theorem xP:isSubtype (.type "AttributeError") (.type "AttributeError")=pure true:=by rw[isSubtype_type];kernel_rfl
theorem JO{α:Type}{Q:α->Shared->Prop}{x c:Str}(C:A.handled=none)(K:c.length<=sizeLine)
  (p:∀h' e tk,(∀b o,h.get? b=some o->h'.get? b=some o)->(∃o,h'.get? e=some o/\o.cls= .type "AttributeError")->E (.ref e) ⟨h',g,d,tk,os⟩):
  wpAny (model prog w) A (raiseAttrError u x c:Sem α) Q E ⟨h,g,d,t,os⟩:=by
 unfold raiseAttrError;refine ae (wpAny_mkStr ?_ K);simp only[newExc,newTuple];refine ae (ae (cR ?_ (by size_fits)));refine ae (m:=firstArgMember _ _) (fH (a:=Value.none) (by first|rfl|(simp only[firstArgMember];rfl)) ?_);refine cR ?_ (by size_fits);refine ae (wpAny_mkText ?_);dsimp only;refine ae ?_;unfold noteAttr;generalize i:h.push {cls:=.type "tuple",data:=.seq #[.str c t]}=h1;have k1:∀ b o,h.get? b = some o->h1.get? b = some o:=fun b o q=>by rw [<- i]; exact ag _ q
 have y:(h1.push {cls:=.type "AttributeError",data:=.fields #[.ref h.objs.size,.none,.none,.none,.bool false,.none,unsetMember,unsetMember]}).get? h1.objs.size=some _:=aW _ rfl;have k2:∀b o,h.get? b=some o->(h1.push {cls:=.type "AttributeError",data:=.fields #[.ref h.objs.size,.none,.none,.none,.bool false,.none,unsetMember,unsetMember]}).get? b=some o:=fun b o q=>ag _ (k1 b o q);have nb:∀b o,h.get? b=some o->b≠h1.objs.size:=fun b o q=>bu (aR (k1 b o q));show wpAny _ _ (lacksNameAndObj (.ref h1.objs.size)>>=_) _ _ ⟨h1.push {cls:=.type "AttributeError",data:=.fields #[.ref h.objs.size,.none,.none,.none,.bool false,.none,unsetMember,unsetMember]},g,d,t+1+1,os⟩;generalize j:h1.push {cls:=.type "AttributeError",data:=.fields #[.ref h.objs.size,.none,.none,.none,.bool false,.none,unsetMember,unsetMember]}=h2 at y k2;generalize h1.objs.size=e at y nb;clear j k1 i;have f:(⟨h2,g,d,t+1+1,os⟩:Shared).TypeIs (.ref e) "AttributeError":=⟨_,y,rfl⟩;refine ae ?_;unfold lacksNameAndObj;refine ae (gT f xP ?_);simp only[bK,aL,if_false];refine ae (wpAny_load y ?_);show wpAny _ _ (pure true) _ _ _;refine aM ?_;simp only[if_true];refine ae (fj (ae (eP f ?_)));show wpAny _ _ (layMembers e 6 #[_,u]) _ _ _;unfold layMembers;refine ae (wpAny_load y ?_);show wpAny _ _ (update e _) _ _ _;refine wpAny_update y ?_;refine wpAny_raiseNew_none C (p _ _ _ (fun b o q=>?_) ⟨_,cY _ y rfl,rfl⟩);exact(bJ _ _ (nb b o q).symm).trans (k2 b o q)
theorem Ko{Q:PySem.Fin->Shared->Prop}(G:h.get? a=some {cls:=.type "list",dict:=none,data:=.seq its n,slots:=#[]})(C:A.handled=none)
  (p:∀h' e tk,(∀b o,h.get? b=some o->h'.get? b=some o)->(∃o,h'.get? e=some o/\o.cls= .type "AttributeError")->E (.ref e) ⟨h',g,d,tk,os⟩):
  wpAny (model prog w) A (Builtin.«object.__getattribute__» ⟨[.ref a,.str "keys" tk],[]⟩) Q E ⟨h,g,d,t,os⟩:=by
 have f:(⟨h,g,d,t,os⟩:Shared).TypeIs (.ref a) "list":=⟨_,G,rfl⟩;have q:=Kn
 repeat(any_goals (first|assumption|wp_step))
 refine JO C (by decide+kernel) p
theorem IJ(G:h.get? a=some {cls:=.type "list",dict:=none,data:=.seq its n,slots:=#[]})(C:A.handled=none)
  (p:∀h' e tk,(∀b o,h.get? b=some o->h'.get? b=some o)->(∃o,h'.get? e=some o/\o.cls= .type "AttributeError")->E (.ref e) ⟨h',g,d,tk,os⟩):
  wpAny (model prog w) A (getAttrBy (.ref a) (.str "keys" tk) false) Q E ⟨h,g,d,t,os⟩:=by
 have f:(⟨h,g,d,t,os⟩:Shared).TypeIs (.ref a) "list":=⟨_,G,rfl⟩;have u:=eG.lookup;have r:=eG.bind (.ref a)
 repeat(any_goals (first|assumption|wp_step))
 refine codeAny_call_builtin eG.plain F.entry_list_ga (eG.check _ _ _ _ _ _ _ _ (show(⟨h,g,d,t,os⟩:Shared).TypeIs (.ref a) "list" from⟨_,G,rfl⟩) (F.args_list_getattribute_2 _ _) (Ko G ?_ ?_))
 ·exact C
 ·intro h' e tk k q;obtain⟨y,R,Y⟩:=q;have c:(⟨h',g,d,tk,os⟩:Shared).TypeIs (.ref e) "AttributeError":=⟨_,R,Y⟩;have l:=xP;have i:=KS;show wpAny _ A (getattributeRaised (Value.ref a) _ (Value.type "list") (.ref e) none false false) _ _ _;have done:=p h' e tk k ⟨y,R,Y⟩;unfold getattributeRaised
  repeat(any_goals (first|assumption|wp_step))
theorem zV{Q:Option Value->Shared->Prop}(G:h.get? a=some {cls:=.type "list",dict:=none,data:=.seq its n,slots:=#[]})(C:A.handled=none)
  (W:∀h' tk,(∀b o,h.get? b=some o->h'.get? b=some o)->Q none ⟨h',g,d,tk,os⟩):wpAny (model prog w) A (getAttr? (.ref a) "keys") Q E ⟨h,g,d,t,os⟩:=by
 unfold getAttr? getAttrBy?;refine ae (wpAny_mkText (ae (wpAny_attempt (IJ G C fun h' e tk k q=>?_))));obtain⟨y,R,Y⟩:=q;refine ae (gT (T:="AttributeError") (b:=true) ⟨_,R,Y⟩ xP ?_);exact aM (W h' tk k)
theorem vh:entryFor table "dict.update.loop"=some Builtin.«dict.update.loop»:=entryFor_of_fast (by kernel_rfl)
theorem oR:plainId "dict.update.loop"=true:=by decide+kernel
theorem JR{K:Type}[DecidableEq K](kvs:List (K×Value))(k:K)(v:Value):(stored kvs k v).length<=kvs.length+1:=by
 unfold stored;split
 ·rw[aa];lia
 ·rw[aH];exact ay _
end
section
variable{prog:Program}{w:World}{A:Around}{E:LZ}{K:Type}[DecidableEq K]{knd:KeyKind prog w K}{R:Result->Shared->Prop}
theorem Im{d N l:Addr}{its:Array Value}{more:List (K×Value)}(C:A.handled=none)(f:more.length=its.size)(hsz:its.size<=1000)(I:l≠d)(c:N≠d)(X:l≠N):
  ∀(k i:Nat) (i':Tok) (s:Shared) (kvs:List (K×Value)),its.size-i=k->i<=its.size->kvs.length<=i->s.heap.IsListIter N l i->s.heap.IsList l its->s.heap.DictOf knd d kvs->
   (∀(j:Nat) (q:K×Value),more[j]? =some q->∃t L,its[j]? =some (.ref t)/\s.heap.IsTuple t #[L,q.2]/\knd.is q.1 L=true)->
   (∀h' tk,h'.DictOf knd d (merged kvs (more.drop i))->(∀b o,b≠d->b≠N->s.heap.get? b=some o->h'.get? b=some o)->R (.ok (.ret .none)) {s with heap:=h',toks:=tk})->
   codeAny (model prog w) A (.builtin "dict.update.loop" ⟨[.ref d,.ref N,.int i i',.none],[]⟩) R s:=by
 intro k
 induction k with
 |zero=>
  intro i i' s kvs F hi H D Z J O Y;have e:i=its.size:=by lia
  subst e;refine cW vh ?_;rw[cn oR _];show wpAny _ A.in1 (pyNext (.ref N)>>=_) _ _ s;refine ae (fe C D Z (by simp) fun h' G=>?_);show wpAny _ A.in1 (Builtin.Dict.addKeywords d []>>=_) _ _ _;refine ae (aM (aM ?_));refine Y h' s.toks ?_ fun b o _ U q=>G b o U q;rw[dH (by lia)];exact J.extBut G c.symm
 | succ k E=>
  intro i i' s kvs F hi H D Z J O Y;have B:i<its.size:=by lia
  have sz:i<more.length:=by lia
  obtain⟨t,L,g,S,Q⟩:=O i more[i] (by simp[sz]);refine cW vh ?_;rw[cn oR _];show wpAny _ A.in1 (pyNext (.ref N)>>=_) _ _ s;refine ae (eQ D Z g fun h1 h M=>?_);have F':t≠N:=fun z=>by
   subst z;obtain⟨o,e1,c1,_⟩:=S;obtain⟨o',e2,c2,_⟩:=D;rw[e1]at e2;cases e2;rw[c1]at c2;exact absurd c2 (by decide)
  have G':t≠d:=fun z=>by
   subst z;obtain⟨o,e1,c1,_⟩:=S;obtain⟨o',_,_,e2,c2,_⟩:=J;rw[e1]at e2;cases e2;rw[c2.1]at c1;exact absurd c1 (by decide)
  have a:h1.IsTuple t #[L,more[i].2]:=S.extBut M.extBut F';have sq:h1.DictOf knd d kvs:=J.extBut M.extBut c.symm;show wpAny _ A.in1 (holding [.ref t] _>>=_) _ _ _;refine ae (bQ ?_);refine ae (m:=(Builtin.Dict.pairItems (.ref t)).tryCatch _) ?_;refine cQ ?_;unfold Builtin.Dict.pairItems;refine ae (eP a.typeIs ?_);obtain⟨ot,e1,c1,v,T⟩:=id a;rw[aI (by decide)];refine ae (bY e1 T ?_);refine aM ?_;show wpAny _ A.in1 (holding [L,more[i].2] (dictSet d L more[i].2)) _ _ _;refine bQ (wpAny_dictSet_pairs Q sq (fun h2 p r=>?_) (by have:=(by decide:1000<=sizeLine);lia));replace r:Heap.SameBut d h1 h2:=r;have kk:∀b o,b≠d->b≠N->s.heap.get? b=some o->h2.get? b=some o:=fun b o b1 b2 q=>r.extBut b o b1 (M.extBut b o b2 q);refine aM ⟨cO oR _,?_⟩;have A':((i:Int)+1)=((i+1:Nat):Int):=by lia
  show codeAny _ _ (.builtin "dict.update.loop" ⟨[.ref d,.ref N,rawInt ((i:Int)+1),.none],[]⟩) _ _;rw[A'];refine E (i+1) 0 _ (stored kvs more[i].1 more[i].2) (by lia) (by lia) ?_ (h.extBut r.extBut c) ((Z.extBut M.extBut X).extBut r.extBut I) p ?_ ?_
  ·have:=JR kvs more[i].1 more[i].2;lia
  ·intro j q W;obtain⟨t',B',u,x,y⟩:=O j q W;have v:t'≠N:=fun z=>by
    subst z;obtain⟨o,e1,c1,_⟩:=x;obtain⟨o',e2,c2,_⟩:=D;rw[e1]at e2;cases e2;rw[c1]at c2;exact absurd c2 (by decide)
   have V:t'≠d:=fun z=>by
    subst z;obtain⟨o,e1,c1,_⟩:=x;obtain⟨o',_,_,e2,c2,_⟩:=J;rw[e1]at e2;cases e2;rw[c2.1]at c1;exact absurd c1 (by decide)
   exact⟨t',B',u,(x.extBut M.extBut v).extBut r.extBut V,y⟩
  ·intro h' tk n P;refine Y h' tk ?_ fun b o b1 b2 q=>P b o b1 b2 (kk b o b1 b2 q);rw[dX sz];exact n
theorem DC{l:Addr}{its:Array Value}{c:Nat}{more:List (K×Value)}{s:Shared}{Q:LZ}(C:A.handled=none)(Z:s.heap.get? l=some {cls:=.type "list",dict:=none,data:=.seq its c,slots:=#[]})(g:more.length=its.size)(hsz:its.size<=1000)
  (O:∀(j:Nat) (q:K×Value),more[j]? =some q->∃t L,its[j]? =some (.ref t)/\s.heap.IsTuple t #[L,q.2]/\knd.is q.1 L=true)
  (h:∀h' tk,h'.DictOf knd s.heap.objs.size (merged [] more)->(∀b o,s.heap.get? b=some o->h'.get? b=some o)->Q (.ref s.heap.objs.size) {s with heap:=h',toks:=tk}):
  wpAny (model prog w) A (call (.type "dict") [.ref l]) Q E s:=by
 refine callType_codes (Q₁:=fun k B=>k= .ref s.heap.objs.size/\B={s with heap:=s.heap.push {cls:=.type "dict",data:=.dict #[]}}) F.kt_called_dict (F.kt_typeCall_dict_1 _) F.entry_dict_init (kt_code_dict_new _ ⟨rfl,rfl⟩) ?_;rintro k B ⟨rfl,rfl⟩;have a:(s.heap.push {cls:=.type "dict",data:=.dict #[]}).DictOf knd s.heap.objs.size []:=Heap.DictOf.new s.heap;have i:(s.heap.push {cls:=.type "dict",data:=.dict #[]}).get? l=some {cls:=.type "list",dict:=none,data:=.seq its c,slots:=#[]}:=ag _ Z;have k1:∀b o,s.heap.get? b=some o->(s.heap.push {cls:=.type "dict",data:=.dict #[]}).get? b=some o:=fun b o q=>ag _ q;have J:l<s.heap.objs.size:=aR Z;generalize s.heap.push {cls:=.type "dict",data:=.dict #[]}=h1 at a i k1;refine⟨a.typeIs,F.args_dict_init_2 _ _,?_⟩;unfold Builtin.«dict.__init__»;refine ae ?_;unfold Builtin.Dict.selfAndRest;refine ae (wpAny_notOrdered_dict a.typeIs ?_);show wpAny _ _ (pure (s.heap.objs.size,[Value.ref l])) _ _ _;refine aM ?_;show wpAny _ _ (Builtin.Dict.updateFrom "dict.__init__" s.heap.objs.size (.ref l) [] .none) _ _ _;unfold Builtin.Dict.updateFrom;refine ae (eP (T:="list") ⟨_,i,rfl⟩ ?_);rw[aI (by decide)];refine ae (zV i C fun h2 v k2=>?_);have I:=k2 _ _ i;have p:h2.DictOf knd s.heap.objs.size []:=let⟨o,es,Y,M,r⟩:=a;⟨o,es,Y,k2 _ _ M,r⟩
 have m:s.heap.objs.size<h2.objs.size:=by obtain⟨_,_,_,M,_⟩:=p;exact aR M
 simp only[Option.isNone_none,if_true];refine ae (fj ?_);have R:Heap.IsList h2 l its:=⟨_,I,rfl,_,rfl⟩;refine ae (dk (s:={s with heap:=h2,toks:=v}) R ?_);refine aM ⟨cO oR _,?_⟩;have D:(h2.push {cls:=.type "list_iterator",data:=.fields #[.ref l,.int 0 0]}).IsListIter h2.objs.size l 0:=⟨_,aW _ rfl,rfl,rfl⟩;refine Im (A:=A.in1) (knd:=knd) (more:=more) C g hsz (bu J) (du m) (bu (Nat.lt_trans J m)) its.size 0 0 {s with heap:=h2.push {cls:=.type "list_iterator",data:=.fields #[.ref l,.int 0 0]},toks:=v} [] rfl (bS _) (ay _) D (R.push _) (p.push _) ?_ ?_
 ·intro j q W;obtain⟨t,L,u,x,y⟩:=O j q W;obtain⟨o,e,r⟩:=x;exact⟨t,L,u,⟨o,ag _ (k2 _ _ (k1 _ _ e)),r⟩,y⟩
 ·intro h' tk S d;rw[fD]at S;refine⟨rfl,h h' tk S fun b o q=>d b o (bu (aR q)) (bu (aR (k2 _ _ (k1 _ _ q)))) (ag _ (k2 _ _ (k1 _ _ q)))⟩
end
section
variable{K:L3}{X:Cx}{n:String}{v:V}
noncomputable def PairAt(H:Hp)(v:V)(p:iw×V):Prop:=∃t,v= .ref t/\H t=some (.tup [kV p.1,p.2])
noncomputable def EO(K:L3):List V->Hp->VK->Prop:=fun vs H Q=>∃l xs kvs,vs=[.ref l]/\H l=some (.lst xs)/\Paired (PairAt H) xs kvs/\xs.length<=1000/\(kvs.map (·.1)).Nodup/\∀d,H d=none->Q (.ref d) (upd H d (.dK kvs))
theorem C1{pins:L1}{σ:St}{H:Hp}{s:Shared}(I:Inv X pins σ H s){xs:List V}{kvs:List (iw×V)}{its:List Value}(h1:Paired (PairAt H) xs kvs)(h2:Vals xs its):
  ∃more:List (iw×Value),KV kvs more/\∀(j:Nat) (q:iw×Value),more[j]? =some q->∃t L,its[j]? =some (.ref t)/\s.heap.IsTuple t #[L,q.2]/\(kg X.prog X.w).is q.1 L=true:=by
 induction h1 generalizing its with
 |nil=>
  cases h2;exact⟨[],.nil,fun j q h=>by simp at h⟩
 | cons O p E=>
  rcases h2 with _|⟨m,a⟩;obtain⟨more,F,K⟩:=E a;obtain⟨t,rfl,S⟩:=O;cases m;obtain⟨_,i,f,hi⟩:=I.hok t _ S;obtain⟨c,d,rfl,r1,P⟩:=f.two;refine⟨(_,d)::more,.cons ⟨rfl,P⟩ F,fun j q h=>?_⟩;cases j with
  |zero=>
   simp at h;subst h;exact⟨t,c,rfl,hi,nQ r1⟩
  |succ j=>
   obtain⟨t',L,u,x,y⟩:=K j q (by simpa using h);exact⟨t',L,by simpa using u,x,y⟩
theorem Jn(Y:X.calm=true):jcq X (.type "dict") (EO X.K):=by
 intro pins s σ H vs us Q I m h;obtain⟨l,xs,kvs,rfl,Z,O,L,S,q⟩:=h;obtain⟨u,rfl,D⟩:=m.one;cases D;obtain⟨z,its,n,r,g,e⟩:=I.lstM Z;obtain⟨more,c,K⟩:=C1 I O r;have i:kvs.length=more.length:=aq c;have b:xs.length=kvs.length:=aq O;refine DC (knd:=kg X.prog X.w) (more:=more) (I.ok.hd Y) e (by rw[aF];lia) (by rw[aF];lia) (fun j q W=>?_) fun h' tk dd k=>?_
 ·obtain⟨t,v,U,x,y⟩:=K j q W;exact⟨t,v,by simpa using U,x,y⟩
 ·refine⟨.ref s.heap.objs.size,upd H s.heap.objs.size (.dK kvs),I.laid k (ay _) ?_,rfl,q _ I.fresh⟩;rw [merged_nil_of_nodup more (by rw [<- c.keys]; exact S)] at dd;exact tZ (by have:=(by decide:1000<=sizeLine);lia) (by have:=I.big;exact fZ (du this)) c dd
noncomputable def EN:List V->Hp->VK->Prop:=fun vs H Q=>∃l xs kvs,vs=[.ref l]/\H l=some (.lst xs)/\Paired (PairAt H) xs kvs/\xs.length<=1000/\∀d,H d=none->Q (.ref d) (upd H d (.dK (nj [] kvs)))
theorem Jo(Y:X.calm=true):jcq X (.type "dict") EN:=by
 intro pins s σ H vs us Q I m h;obtain⟨l,xs,kvs,rfl,Z,O,L,q⟩:=h;obtain⟨u,rfl,D⟩:=m.one;cases D;obtain⟨z,its,n,r,g,e⟩:=I.lstM Z;obtain⟨more,c,K⟩:=C1 I O r;have i:kvs.length=more.length:=aq c;have b:xs.length=kvs.length:=aq O;refine DC (knd:=kg X.prog X.w) (more:=more) (I.ok.hd Y) e (by rw[aF];lia) (by rw[aF];lia) (fun j q W=>?_) fun h' tk dd k=>?_
 ·obtain⟨t,v,U,x,y⟩:=K j q W;exact⟨t,v,by simpa using U,x,y⟩
 ·refine⟨.ref s.heap.objs.size,upd H s.heap.objs.size (.dK (nj [] kvs)),I.laid k (ay _) ?_,rfl,q _ I.fresh⟩;have a:=yv kvs [];exact tZ (by have:=(by decide:1000<=sizeLine);rw[List.length_nil]at a;lia) (by have:=I.big;exact fZ (du this)) (c.merge .nil) dd
noncomputable def z9(f:List Bool->Bool):List V->Hp->VK->Prop:=fun vs H Q=>∃l bs,vs=[.ref l]/\H l=some (.lst (bs.map V.bl))/\Q (.bl (f bs)) H
theorem Ia{bs:List Bool}{tr:Nat->Bool}(h:∀i b,bs[i]? =some b->tr i=b):(List.range bs.length).all tr=bs.all id:=by
 rw[df,cZ,cZ];constructor
 ·intro q b U;obtain⟨i,hi,e⟩:=bx.mp U;have:=q i (bL.mpr hi);rw[h i b (by rw[gE hi,e])]at this;exact this
 ·intro q i hi;have a:=bL.mp hi;rw[h i bs[i] (gE a)];exact q _ (cN a)
theorem Br:∀{bs:List Bool} {us:List Value},Vals (bs.map V.bl) us->us=bs.map Value.bool
 |[],_,.nil=>rfl
 |b::r,_,.cons q t=>by
  cases(show _=Value.bool b from q);rw[Br t];rfl
theorem GW(Y:X.calm=true):jcq X (.builtin "all") (z9 fun bs=>bs.all id):=by
 intro pins s σ H vs us Q I m h;obtain⟨l,bs,rfl,Z,q⟩:=h;obtain⟨u,rfl,D⟩:=m.one;cases D;obtain⟨z,its,n,r,g,e⟩:=I.lstM Z;have e2:=Br r;subst e2;have J:l<s.heap.objs.size:=aR e;have R:s.heap.IsList l (bs.map Value.bool).toArray:=⟨_,e,rfl,_,rfl⟩;refine call_all_walk (dk R ⟨s.heap.objs.size,[s.heap.objs.size,l],[s.heap.objs.size],_,_,_,fun i=>bs[i]?.getD true,rfl,Walks.list (A:=X.A.in1) (show X.A.in1.handled=none from I.ok.hd Y) s.heap.objs.size l (bu J) (bs.map Value.bool).toArray,
  (show Heap.IsListIter _ _ _ _/\Heap.IsList _ _ _ from⟨⟨_,aW _ rfl,rfl,rfl⟩,R.push _⟩),fun i v s' f E j W=>?_,fun h' tk k=>?_⟩)
 ·have B:(bs.map Value.bool)[i]? =some v:=by simpa using j
  rw[aU]at B;cases G:bs[i]? with
  |none=>rw[G]at B;cases B
  |some b=>
   rw[G]at B;cases B;have c:f b s':=by dsimp only at W;rw[G]at W;exact W
   exact aM c
 ·have x:((bs.map Value.bool).toArray).size=bs.length:=by simp
  rw[x,Ia (bs:=bs) (tr:=fun i=>bs[i]?.getD true) (fun i b U=>by rw[U];rfl)];refine⟨.bl _,H,I.kept fun b o a=>k b o ?_ (ag _ a),rfl,q⟩;intro U;have:b=s.heap.objs.size:=by simpa using U
  subst this;exact absurd (aR a) (cP _)
inductive Knd(H:Hp):V->String->Prop where
 |non:Knd H .non "NoneType"
 |bl {x:Bool}:Knd H (.bl x) "bool"
 |int {i:Int}:Knd H (.int i) "int"
 |str {x:Str}:Knd H (.str x) "str"
 |lst {a:Addr} {xs:List V} (e:H a=some (.lst xs)):Knd H (.ref a) "list"
 |tup {a:Addr} {xs:List V} (e:H a=some (.tup xs)):Knd H (.ref a) "tuple"
 |dK {a:Addr} {kvs:List (iw×V)} (e:H a=some (.dK kvs)):Knd H (.ref a) "dict"
theorem Knd.ty{H:Hp}(h:Knd H v n):TyOf K H v (.type n):=by
 cases h with
 |non=>exact .non
 |bl=>exact .bl _
 |int=>exact .int _
 |str=>exact .str _
 |lst e=>exact .lst e
 |tup e=>exact .tup e
 |dK e=>exact .dK e
noncomputable def yz(a b:String):Bool:=a==b||(a=="bool"&&b=="int")
noncomputable def nR:List String:=["NoneType","bool","int","str","list","tuple","dict"]
theorem Ge:∀a∈nR,∀b∈nR,PySem.W.kitOne K (.type a) (.type b)=some (yz a b):=by
 intro a J b U;have h:a="NoneType"\/a="bool"\/a="int"\/a="str"\/a="list"\/a="tuple"\/a="dict":=by simpa[nR]using J
 have A:b="NoneType"\/b="bool"\/b="int"\/b="str"\/b="list"\/b="tuple"\/b="dict":=by simpa[nR]using U
 rcases h with rfl|rfl|rfl|rfl|rfl|rfl|rfl<;>rcases A with rfl|rfl|rfl|rfl|rfl|rfl|rfl<;>rfl
noncomputable def EJ:List V->Hp->VK->Prop:=fun vs H Q=>∃x n T,vs=[x,.ty T]/\Knd H x n/\T∈nR/\Q (.bl (yz n T)) H
theorem Knd.mem{H:Hp}(h:Knd H v n):n∈nR:=by cases h<;>simp[nR]
theorem GX:jcq X (.builtin "isinstance") EJ:=by
 intro pins s σ H vs us Q I m h;obtain⟨x,n,T,rfl,F,f,q⟩:=h;obtain⟨c,d,rfl,r1,P⟩:=m.two;cases(show d=Value.type T from P);exact IA I r1 F.ty (Ge n F.mem T f) fun tk=>⟨.bl _,H,I.tok tk,rfl,q⟩
end
section
variable{X:Cx}{e a b c o i:Expr}{es:List Expr}{t t' ta tb tc td te:TE}{pos p p2:Pos}
section
variable{g:Int->Int->V}{H:Hp}{Q:VK}
theorem PE.imp(h:PE X e t)(hi:∀σ H Q,t' σ H Q->t σ H Q):PE X e t':=fun pins s σ H Q I q=>h pins s σ H Q I (hi σ H Q q)
theorem PG.imp{t t':TG}(h:PG X e t)(hi:∀v σ H Q,t' v σ H Q->t v σ H Q):PG X e t':=fun pins s σ H v u Q I r q=>h pins s σ H v u Q I r (hi v σ H Q q)
theorem PGs.imp{t t':lS}(h:PGs X es t)(hi:∀v σ H Q,t' v σ H Q->t v σ H Q):PGs X es t':=fun pins s σ H v u Q I r q=>h pins s σ H v u Q I r (hi v σ H Q q)
theorem OpR.imp{f:Value->Value->Sem Value}{r r':R2}(h:OpR X f r)(hi:∀x y H Q,r' x y H Q->r x y H Q):OpR X f r':=fun pins s σ H x y v u Q I rx B q=>h pins s σ H x y v u Q I rx B (hi x y H Q q)
theorem jcq.imp{f:Value}{r r':List V->Hp->VK->Prop}(h:jcq X f r)(hi:∀vs H Q,r' vs H Q->r vs H Q):jcq X f r':=fun pins s σ H xs us Q I m q=>h pins s σ H xs us Q I m (hi xs H Q q)
theorem IxR.imp{r r':R2}(h:IxR X r)(hi:∀x y H Q,r' x y H Q->r x y H Q):IxR X r':=fun value e pins s σ H x y v u Q I rx B q hs=>h value e pins s σ H x y v u Q I rx B (hi x y H Q q) hs
theorem MtR.imp{id:String}{r r':V->List V->Hp->VK->Prop}(h:MtR X id r)(hi:∀x vs H Q,r' x vs H Q->r x vs H Q):MtR X id r':=fun pins s σ H x xs v us Q I rx m q=>h pins s σ H x xs v us Q I rx m (hi x xs H Q q)
theorem PSet.imp{t t':qg}(h:PSet X t)(hi:∀o i v H Q,t' o i v H Q->t o i v H Q):PSet X t':=fun pins s σ H o i v z b u Q I r1 P B q=>h pins s σ H o i v z b u Q I r1 P B (hi o i v H Q q)
theorem SlR.imp{r r':V->Option Int->Option Int->Hp->VK->Prop}(h:SlR X r)(hi:∀x l u H Q,r' x l u H Q->r x l u H Q):SlR X r':=fun pins s σ H x v i c lo a sl Q I rx hs pl z q=>h pins s σ H x v i c lo a sl Q I rx hs pl z (hi x lo a H Q q)
noncomputable def jK(i:Nat):TE:=fun σ H Q=>match σ[i]? with
 |some (some v)=>Q v H
 |_=>False
theorem qv(i:Nat){x:Str}{pos:Pos}(V:X.N[i]? =some x:=by rfl)(Y:vn X.env.scope x:=by first|exact Or.inl rfl|exact Or.inr (Or.inl rfl)|exact Or.inr (Or.inr rfl))(J:(x==("__debug__":Str))=false:=by decide)
  (z:(x==("__classdict__":Str))=false:=by decide):PE X (.Name x pos) (jK i):=(Fc V Y J z).imp fun σ H Q q=>by
 unfold jK at q;split at q
 ·rename_i v e;exact⟨v,e,q⟩
 ·exact q.elim
noncomputable def fI(g:Int->Int->V):R2:=fun x y H Q=>match x,y with
 | .int i,.int j=>Q (g i j) H
 |_,_=>False
noncomputable def fIC(C:Int->Int->Prop)(g:Int->Int->V):R2:=fun x y H Q=>match x,y with
 | .int i,.int j=>C i j/\Q (g i j) H
 |_,_=>False
theorem fI.r{x y:V}(h:fI g x y H Q):m9 g x y H Q:=by
 unfold fI at h;split at h
 ·exact⟨_,_,rfl,rfl,h⟩
 ·exact h.elim
theorem fIC.r{C:Int->Int->Prop}{x y:V}(h:fIC C g x y H Q):rI C g x y H Q:=by
 unfold fIC at h;split at h
 ·exact⟨_,_,rfl,rfl,h.1,h.2⟩
 ·exact h.elim
theorem ju:OpR X (binaryOp .Add) (fI fun i j=>.int (i+j)):=Fw.imp fun _ _ _ _=>fI.r
theorem zt:OpR X (binaryOp .Sub) (fI fun i j=>.int (i-j)):=Fg.imp fun _ _ _ _=>fI.r
theorem lW:OpR X (binaryOp .Mult) (fIC CMul fun i j=>.int (i*j)):=Fk.imp fun _ _ _ _=>fIC.r
theorem oI:OpR X (binaryOp .Mod) (fIC (fun _ j=>0<j) fun i j=>.int (i%j)):=Fm.imp fun _ _ _ _=>fIC.r
theorem ug:OpR X (binaryOp .FloorDiv) (fIC vx fun i j=>.int (i/j)):=Gp.imp fun _ _ _ _=>fIC.r
theorem tU:OpR X (binaryOp .Pow) (fIC vw fun i j=>.int (i^j.toNat)):=Fh.imp fun _ _ _ _=>fIC.r
theorem nJ:OpR X (compareOp .Lt) (fI fun i j=>.bl (decide (i<j))):=Fo.imp fun _ _ _ _=>fI.r
theorem nc:OpR X (compareOp .LtE) (fI fun i j=>.bl (decide (i<=j))):=Fp.imp fun _ _ _ _=>fI.r
theorem nK:OpR X (compareOp .Gt) (fI fun i j=>.bl (decide (i>j))):=Fs.imp fun _ _ _ _=>fI.r
theorem vE:OpR X (compareOp .GtE) (fI fun i j=>.bl (decide (i ≥ j))):=Ft.imp fun _ _ _ _=>fI.r
theorem uh:qh X .Add (fI fun i j=>.int (i+j)):=fun pins s σ H x y v u Q I rx B q=>F9 pins s σ H x y v u Q I rx B q.r
noncomputable def DK:V->Hp->VK->Prop:=fun x H Q=>match x with
 | .int i=>Q (.int (-i)) H
 |_=>False
theorem lX:vo X (unaryOp .USub) DK:=fun pins s σ H x v Q I rx q=>by
 cases x<;>first
  |exact False.elim q
  |exact D4 pins s σ H _ v Q I rx ⟨_,rfl,q⟩
noncomputable def yL:R2:=fun x y H Q=>match x,y with
 | .int i,.int j=>Q (.bl (decide (i=j))) H
 | .bl i,.bl j=>Q (.bl (decide (i=j))) H
 | .str i,.str j=>Q (.bl (decide (i=j))) H
 |_,_=>False
noncomputable def yF:R2:=fun x y H Q=>match x,y with
 | .int i,.int j=>Q (.bl (!decide (i=j))) H
 | .bl i,.bl j=>Q (.bl (!decide (i=j))) H
 | .str i,.str j=>Q (.bl (!decide (i=j))) H
 |_,_=>False
theorem dI(i j:Int):decide (V.int i=V.int j)=decide (i=j):=by simp
theorem dB(i j:Bool):decide (V.bl i=V.bl j)=decide (i=j):=by simp
theorem dS(i j:Str):decide (V.str i=V.str j)=decide (i=j):=by simp
theorem ly:OpR X (compareOp .Eq) yL:=Fu.imp fun x y H Q h=>by
 unfold yL at h;split at h
 ·exact⟨rfl,by rw[dI];exact h⟩
 ·exact⟨rfl,by rw[dB];exact h⟩
 ·exact⟨rfl,by rw[dS];exact h⟩
 ·exact h.elim
theorem tH:OpR X (compareOp .NotEq) yF:=Fj.imp fun x y H Q h=>by
 unfold yF at h;split at h
 ·exact⟨rfl,by rw[dI];exact h⟩
 ·exact⟨rfl,by rw[dB];exact h⟩
 ·exact⟨rfl,by rw[dS];exact h⟩
 ·exact h.elim
noncomputable def rG:V->Bool
 | .non=>true
 |_=>false
noncomputable def vj(f:Bool->Bool):R2:=fun x y H Q=>match y with
 | .non=>Q (.bl (f (rG x))) H
 |_=>False
theorem dN(x:V):decide (x=V.non)=rG x:=by cases x<;>simp[rG]
theorem ES:OpR X (compareOp .IsNot) (vj not):=Gq.imp fun x y H Q h=>by
 unfold vj at h;split at h
 ·exact⟨rfl,by rw[dN];exact h⟩
 ·exact h.elim
noncomputable def DN(ta tb:TE):TE:=fun σ H Q=>ta σ H fun x H1=>match x with
 | .bl c=>if c=true then tb σ H1 Q else Q (.bl false) H1
 |_=>False
noncomputable def Ls(ta tb:TE):TE:=fun σ H Q=>ta σ H fun x H1=>match x with
 | .bl c=>if c=true then Q (.bl true) H1 else tb σ H1 Q
 |_=>False
noncomputable def DJ(ta:TE):TE:=fun σ H Q=>ta σ H fun x H1=>match x with
 | .bl c=>Q (.bl (!c)) H1
 |_=>False
noncomputable def fB(t:TE):TT:=fun σ H Q=>t σ H fun x H1=>match x with
 | .bl c=>Q c H1
 |_=>False
end
variable{rest:List Expr}
theorem lL(J:PE X a ta)(U:PE X (.BoolOp .And (b::rest) pos) tb):PE X (.BoolOp .And (a::b::rest) pos) (DN ta tb):=by
  intro pins s σ H Q I h;refine BoolOp_and (iI (J pins s σ H _ I h) fun v s1 C=>?_);obtain⟨x,H1,A,r1,N⟩:=C;cases x<;>first
    |exact False.elim N
    | (rename_i c
       cases r1;refine cj ?_;cases c with
       |true=>exact U pins s1 σ H1 Q A N
       |false=>exact⟨.bl false,H1,A,rfl,N⟩)
theorem EU(J:PE X a ta):PE X (.UnaryOp .Not a pos) (DJ ta):=by
  intro pins s σ H Q I h;refine UnaryOp_ (iI (J pins s σ H _ I h) fun v s1 C=>?_);obtain⟨x,H1,A,r1,N⟩:=C;cases x<;>first
    |exact False.elim N
    | (rename_i c
       cases r1;exact not_of (cj ⟨.bl (!c),H1,A,rfl,N⟩))
theorem kq {t:TE} (h:PE X e t) (R:∀ w,isTrue e X.env w = (do let v <- w; standAt e.pos; holding [v] (truthy v)):=by intro _; rfl):PT X e (fB t):=by
  intro pins s σ H Q I V;refine isTrue_plain (iI (h pins s σ H _ I V) fun v s1 C=>?_) (R _);obtain⟨x,H1,A,r1,N⟩:=C;cases x<;>first
    |exact False.elim N
    | (cases r1
       exact cj ⟨H1,A,N⟩)
theorem jc{op:CmpOp}{r:R2}(M:OpR X (compareOp op) r)(J:PE X a ta)(U:PE X b tb)(K:behindInMarks op b=false):PT X (.Compare a [op] [b] pos) (fB (mQ r ta tb)):=by
  intro pins s σ H Q I h;refine gf (iI (J pins s σ H _ I h) fun v s1 ⟨x,H1,A,r1,N⟩=>iI (U pins s1 σ H1 _ A N) fun u s2 ⟨y,H2,E,P,G⟩=>
    iI (M pins s2 σ H2 x y v u _ E r1 P G) fun c W ⟨z,H3,Z,B,j⟩=>?_) K
  cases z<;>first
    |exact False.elim j
    | (cases B
       exact cj ⟨H3,Z,j⟩)
theorem pI{op:CmpOp}{t:TE}(h:PC X op a b t)(h1:behindInMarks op b=false:=by first|exact xG _ (by decide) (by decide)|rfl):PT X (.Compare a [op] [b] pos) (fB t):=by
  intro pins s σ H Q I V;refine gf (iI (h pins s σ H _ I V) fun v s1 h1=>iI h1 fun u s2 h2=>iI h2 fun c W C=>?_) h1;obtain⟨x,H1,A,r1,N⟩:=C;cases x<;>first
    |exact False.elim N
    | (cases r1
       exact cj ⟨H1,A,N⟩)
noncomputable def wm(r r':R2)(ta tb tc:TE):TE:=fun σ H Q=>ta σ H fun x H1=>tb σ H1 fun y H2=>r x y H2 fun z H3=>match z with
 | .bl k=>(if k=true then tc σ H3 fun t F=>r' y t F Q else Q (.bl false) H3)
 |_=>False
theorem A0{op m:CmpOp}{g:Int->Int->Bool}{r':R2}(M:OpR X (compareOp op) (fI fun i j=>.bl (g i j)))(w:OpR X (compareOp m) r')(J:PE X a ta)(U:PE X b tb)(Y:PE X c tc)
  (K:lastMarks [op,m] [b,c]=false:=by with_unfolding_all rfl):PE X (.Compare a [op,m] [b,c] pos) (wm (fI fun i j=>.bl (g i j)) r' ta tb tc):=by
 intro pins s σ H Q I h;refine Compare_chain (iI (J pins s σ H _ I h) fun v s1 ⟨x,H1,A,r1,N⟩=>chain_link (iI (U pins s1 σ H1 _ A N) fun u s2 ⟨y,H2,E,P,G⟩=>
  iI (M pins s2 σ H2 x y v u (fun z H3=>∃k,z= .bl k/\(if k=true then tc σ H3 fun t F=>r' y t F Q else Q (.bl false) H3)) E r1 P ?_) fun d W ⟨z,H3,Z,B,k,e,L⟩=>?_)) K
 ·dsimp only at G;unfold fI at G ⊢;cases x<;>cases y<;>first
   |exact G.elim
   |exact⟨_,rfl,G⟩
 ·subst e;cases B;refine cj ?_;cases k with
  |false=>exact ite_ff ⟨.bl false,H3,Z,rfl,L⟩
  |true=>exact ite_tt (chain_last (iI (Y pins W σ H3 _ Z L) fun t p ⟨C,F,O,D,S⟩=>w pins p σ F y C u t Q O P D S))
noncomputable def iH(H:Hp)(p:Addr):Option (List V):=match H p with
 |some (.lst xs)=>some xs
 |some (.tup xs)=>some xs
 |some (.frz _ (.lst xs))=>some xs
 |_=>none
theorem uP{K:L3}{H:Hp}{p:Addr}{xs:List V}(h:iH H p=some xs):SqL K H p xs\/SqT K H p xs:=by
 unfold iH at h;split at h
 ·rename_i ys e;cases h;exact .inl (.inl (.inl e))
 ·rename_i ys e;cases h;exact .inr (SqT.of e)
 ·rename_i o ys e;cases h;exact .inl (.inl (.inr ⟨_,e⟩))
 ·cases h
noncomputable def sM:R2:=fun x y H Q=>match x,y with
 | .ref p,.int i=>match iH H p with
  |some xs=>match jh xs i with
   |some v=>Q v H
   |none=>False
  |none=>False
 |_,_=>False
theorem E3:IxR X sM:=(AK.or Lf).imp fun x y H Q h=>by
 unfold sM at h;split at h
 ·split at h
  ·rename_i xs e;split at h
   ·rename_i v O;rcases uP (K:=X.K) e with z|z
    ·exact .inl ⟨_,_,_,_,rfl,rfl,z,O,h⟩
    ·exact .inr ⟨_,_,_,_,rfl,rfl,z,O,h⟩
   ·exact h.elim
  ·exact h.elim
 ·exact h.elim
noncomputable def rh:List V->Hp->VK->Prop:=fun vs H Q=>match vs with
 |[.ref p]=>match iH H p with
  |some xs=>Q (.int xs.length) H
  |none=>False
 |_=>False
theorem EY:jcq X (.builtin "len") rh:=yu.imp fun vs H Q h=>by
 unfold rh at h;split at h
 ·split at h
  ·rename_i xs e;exact⟨_,xs,rfl,uP e,h⟩
  ·exact h.elim
 ·exact h.elim
noncomputable def wY:List V->Hp->VK->Prop:=fun vs H Q=>match vs with
 |[.ref p]=>match iH H p with
  |some xs=>∀l,H l=none->Q (.ref l) (upd H l (.lst xs))
  |none=>False
 |_=>False
theorem BU:jcq X (.type "list") wY:=Km.imp fun vs H Q h=>by
 unfold wY at h;split at h
 ·split at h
  ·rename_i xs e;exact⟨_,xs,rfl,uP e,h⟩
  ·exact h.elim
 ·exact h.elim
noncomputable def yG:List V->Hp->VK->Prop:=fun vs H Q=>match vs with
 |[.int i,.int j]=>Q (.int (if j<i then j else i)) H
 |_=>False
theorem EV(Y:X.calm=true):jcq X (.builtin "min") yG:=(Ii Y).imp fun vs H Q h=>by
 unfold yG at h;split at h
 ·exact⟨_,_,rfl,h⟩
 ·exact h.elim
noncomputable def yE:V->Option Int->Option Int->Hp->VK->Prop:=fun x lo hi H Q=>match x with
 | .ref a=>match H a with
  |some (.lst xs)=>∀p,H p=none->Q (.ref p) (upd H p (.lst (lQ xs lo hi)))
  |_=>False
 |_=>False
theorem vZ:SlR X yE:=GJ.imp fun x l u H Q h=>by
 unfold yE at h;split at h
 ·split at h
  ·rename_i xs e;exact⟨_,xs,rfl,SqL.of e,h⟩
  ·exact h.elim
 ·exact h.elim
noncomputable def qL:V->List V->Hp->VK->Prop:=fun x vs H Q=>match x,vs with
 | .ref l,[y]=>match H l with
  |some (.lst xs)=>xs.length<sizeLine/\Q .non (upd H l (.lst (xs++[y])))
  |_=>False
 |_,_=>False
theorem kN:MtR X "list.append" qL:=MtR.imp (r:=A3) (fun pins s σ H x xs v us Q I rx m q=>Cw pins s σ H x xs v us Q I rx m q) fun x vs H Q h=>by
 unfold qL at h;split at h
 ·split at h
  ·rename_i xs e;exact⟨_,xs,_,rfl,rfl,e,h.1,h.2⟩
  ·exact h.elim
 ·exact h.elim
noncomputable def sP(r:V->List V->Hp->VK->Prop)(to:TE)(t:TA):TE:=fun σ H Q=>to σ H fun x H1=>(∃a xs,x= .ref a/\H1 a=some (.lst xs))/\t σ H1 fun xs H2=>r x xs H2 Q
noncomputable def vP:qg:=fun o i v H Q=>match o,i with
 | .ref p,.int k=>match H p with
  |some (.lst xs)=>match lx xs.length k with
   |some j=>Q (upd H p (.lst (xs.set j v)))
   |none=>False
  |_=>False
 |_,_=>False
theorem oN:PSet X vP:=HU.imp fun o i v H Q h=>by
 unfold vP at h;split at h
 ·split at h
  ·rename_i xs e;split at h
   ·rename_i j D;exact⟨_,xs,_,j,rfl,rfl,e,D,h⟩
   ·exact h.elim
  ·exact h.elim
 ·exact h.elim
noncomputable def tO:lS:=fun vs σ H Q=>match vs with
 |[]=>Q σ H
 |_=>False
noncomputable def ub(t:TG)(u:lS):lS:=fun vs σ H Q=>match vs with
 |v::r=>t v σ H fun L H'=>u r L H' Q
 |[]=>False
theorem jF:PGs X [] tO:=Gz.imp fun v σ H Q h=>by
 unfold tO at h;split at h
 ·exact⟨rfl,h⟩
 ·exact h.elim
theorem iR{t:TG}{u:lS}(h1:PG X e t)(h2:PGs X es u)(hs:(assignEach (e::es) X.env).map (·.2)=assign e X.env::(assignEach es X.env).map (·.2):=by rfl):PGs X (e::es) (ub t u):=(HJ h1 h2 hs).imp fun v σ H Q h=>by
 unfold ub at h;split at h
 ·exact⟨_,_,rfl,h⟩
 ·exact h.elim
noncomputable def tP(n:Nat)(t:lS):TG:=fun v σ H Q=>match v with
 | .ref a=>match H a with
  |some (.tup xs)=>xs.length=n/\t xs σ H Q
  |_=>False
 |_=>False
theorem jQ{k:Nat}{t:lS}{n:Nat}(Y:X.calm=true)(h:PGs X es t)(S:(assignEach es X.env).length=n:=by rfl)(J:(assignEach es X.env).findIdx? (·.1)=none:=by rfl):PG X (.Tuple es k pos) (tP n t):=
 (Fb Y h S J).imp fun v σ H Q q=>by
  unfold tP at q;split at q
  ·split at q
   ·rename_i xs e;exact⟨_,xs,rfl,SqT.of e,q.1,q.2⟩
   ·exact q.elim
  ·exact q.elim
noncomputable def yM(f:Bool->Bool)(ty td:TE):TE:=fun σ H Q=>ty σ H fun y H1=>td σ H1 fun x H2=>match y,x with
 | .int n,.ref a=>match H2 a with
  |some (.dK kvs)=>Q (.bl (f (iX kvs (Sum.inl n:iw)).isSome)) H2
  |_=>False
 |_,_=>False
noncomputable def DM(td ty:TE):TE:=fun σ H Q=>td σ H fun x H1=>ty σ H1 fun y H2=>match x,y with
 | .ref a,.int n=>match H2 a with
  |some (.dK kvs)=>match iX kvs (Sum.inl n:iw)with
   |some v=>Q v H2
   |none=>False
  |_=>False
 |_,_=>False
end
section
variable{X:Cx}{o i e:Expr}{td ty te to:TE}{pos pos':Pos}{H H' H2:Hp}{K:L3}{src:L6}{ns:List Int}{a l:Addr}{xs vs:List V}{p:Int×Int}{α:Type}{Q:VK}{g:TG}{D:Ends}{v:V}{tb:TS}
theorem zL{f:Bool->Bool}{y x:V}(h:(match y,x with
  | .int n,.ref a=>match H2 a with
    |some (.dK kvs)=>Q (.bl (f (iX kvs (Sum.inl n:iw)).isSome)) H2
    |_=>False
  |_,_=>False)):∃a z,x= .ref a/\DGet H2 a y z/\Q (.bl (f z.isSome)) H2:=by
  cases y<;>cases x<;>first
    |exact h.elim
    | (rename_i n a
       dsimp only at h;split at h
       · rename_i kvs e;exact⟨a,_,rfl,DGet.k (k:=Sum.inl n) e,h⟩
       · exact h.elim)
theorem rK(F:X.A.units+1<cLine)(hi:PE X i ty)(M:PE X o td):PC X .In i o (yM id ty td):=by
 intro pins s σ H Q I h;refine iI (hi pins s σ H _ I h) fun b s1 ⟨y,H1,A,B,N⟩=>iI (M pins s1 σ H1 _ A N) fun u s2 C=>?_;obtain⟨x,H2,E,rx,G⟩:=C;obtain⟨a,z,ex,g,j⟩:=zL G;subst ex;obtain rfl:u=Value.ref a:=rx;exact DP F E g B fun s' Z=>⟨.bl z.isSome,H2,Z,rfl,j⟩
theorem sg(F:X.A.units+1<cLine)(hi:PE X i ty)(M:PE X o td):PC X .NotIn i o (yM not ty td):=by
 intro pins s σ H Q I h;refine iI (hi pins s σ H _ I h) fun b s1 ⟨y,H1,A,B,N⟩=>iI (M pins s1 σ H1 _ A N) fun u s2 C=>?_;obtain⟨x,H2,E,rx,G⟩:=C;obtain⟨a,z,ex,g,j⟩:=zL G;subst ex;obtain rfl:u=Value.ref a:=rx;exact AC F E g B fun s' Z=>⟨.bl (!z.isSome),H2,Z,rfl,j⟩
theorem lM (F:X.A.units+1<cLine)(M:PE X o td)(hi:PE X i ty)(hs:DW i):PE X (.Subscript o i pos) (DM td ty):=by
  intro pins s σ H Q I h;refine GK PySem.F.slot_dict_getitem.lookup hs (iI (M pins s σ H _ I h) fun u s1 ⟨x,H1,A,rx,N⟩=>iI (hi pins s1 σ H1 _ A N) fun b s2 C=>?_);obtain⟨y,H2,E,B,G⟩:=C;cases x <;>cases y<;>first
    |exact False.elim G
    | (dsimp only at G
       split at G
       · rename_i kvs e;split at G
         · rename_i v O;cases rx;have g:∀{a:Addr} {n:Int},H2 a=some (.dK kvs)->iX kvs (Sum.inl n:iw)=some v->DGet H2 a (.int n) (some v):=fun e1 e2=>e2▸DGet.k (k:=Sum.inl _) e1;have g:=g e O;exact⟨JY E g,Il F E g B fun t W Z P=>⟨v,H2,Z,P,G⟩⟩
         · exact G.elim
       · exact G.elim)
theorem kI{es:List Expr}{t:TA}{name:Str}{apos cpos:Pos}{id:String}{r:V->List V->Hp->VK->Prop}(g:PlainAttrs "list")(j:Slot "list" name id)(y:typeOf (.builtin id)=pure (.type "method_descriptor"))(K:MtR X id r)(M:PE X o to)(J:PA X (e::es) t)
  (b:attributeBase o name X.env (eval o X.env)=eval o X.env:=by rfl)
  (w:((backTo cpos (starEach (e::es) X.env)).all (fun x=>!x.1)&&(backToKw cpos (keywordEach [] X.env)).all (fun x=>x.1.isSome)
   &&decide ((e::es).length+([]:List Keyword).length+(if([]:List Keyword).isEmpty then 0 else 1)<30))=true:=by rfl)
  (c:(apos.endLine==cpos.line)=true:=by rfl) (hs:starEach (e::es) X.env=(false,eval e X.env)::starEach es X.env:=by rfl) (n:(backTo cpos (starEach es X.env)).any (·.1)=false:=by rfl):
  PE X (.Call (.Attribute o name apos) (e::es) [] cpos) (sP r to t):=by
 intro pins s σ H Q I h;refine wpAny_Call_method_late b w c rfl (iI (M pins s σ H _ I h) fun v s1 ⟨x,H1,A,r1,⟨a,xs,ex,q⟩,N⟩=>?_);subst ex;obtain⟨h1,h2⟩:=D5 (T:="list") A r1 (.inl ⟨rfl,_,SqL.of q⟩);refine⟨"list",id,g,j,y,h1,h2,?_⟩;have d:=J cpos pins s1 σ H1 _ A N;rw[hs]at d ⊢;refine fW (by show(false||(backTo cpos (starEach es X.env)).any (·.1))=false;rw[n]<;>rfl) (gu ?_);exact iI d fun us s2 ⟨vs,H2,E,P,G⟩=>K pins s2 σ H2 _ vs v us Q E r1 P G
inductive Kd where
 |non|bl|int|str|lst|tup|dct
 deriving DecidableEq
noncomputable def Kd.nm:Kd->String
 | .non=>"NoneType"
 | .bl=>"bool"
 | .int=>"int"
 | .str=>"str"
 | .lst=>"list"
 | .tup=>"tuple"
 | .dct=>"dict"
noncomputable def kd(H:Hp)(v:V):Option Kd:=match v with
 | .non=>some .non
 | .bl _=>some .bl
 | .int _=>some .int
 | .str _=>some .str
 | .ref a=>match H a with
  |some (.lst _)=>some .lst
  |some (.tup _)=>some .tup
  |some (.dK _)=>some .dct
  |_=>none
 |_=>none
noncomputable def lO(a b:Kd):Bool:=match a,b with
 | .bl,.int=>true
 | .non,.non=>true
 | .bl,.bl=>true
 | .int,.int=>true
 | .str,.str=>true
 | .lst,.lst=>true
 | .tup,.tup=>true
 | .dct,.dct=>true
 |_,_=>false
theorem FT{k:Kd}(h:kd H v=some k):Knd H v k.nm:=by
 unfold kd at h;split at h
 ·cases h;exact .non
 ·cases h;exact .bl
 ·cases h;exact .int
 ·cases h;exact .str
 ·split at h
  ·rename_i e;cases h;exact .lst e
  ·rename_i e;cases h;exact .tup e
  ·rename_i e;cases h;exact .dK e
  ·cases h
 ·cases h
theorem Lj(a b:Kd):yz a.nm b.nm=lO a b:=by cases a<;>cases b<;>rfl
theorem Kd.mem(b:Kd):b.nm∈nR:=by cases b<;>simp[nR,Kd.nm]
noncomputable def yK(T:Kd):List V->Hp->VK->Prop:=fun vs H Q=>match vs with
 |[x,y]=>y= .ty T.nm/\match kd H x with
  |some k=>Q (.bl (lO k T)) H
  |none=>False
 |_=>False
theorem nU(T:Kd):jcq X (.builtin "isinstance") (yK T):=GX.imp fun vs H Q h=>by
 unfold yK at h;split at h
 ·obtain⟨rfl,h⟩:=h;split at h
  ·rename_i k e;exact⟨_,_,_,rfl,FT e,Kd.mem T,by rw[Lj];exact h⟩
  ·exact h.elim
 ·exact h.elim
noncomputable def yO(i:Nat)(te:TE)(ti:nG):TS:=fun D σ H=>match σ[i]? with
 |some (some x)=>te σ H fun y H1=>ti x y H1 fun z H2=>D.nx (σ.set i (some z)) H2
 |_=>False
theorem rT{i:Nat}{x:Str}{op:Operator}{ti:nG}(V:X.N.Nodup)(hi:X.N[i]? =some x)(G:Loc X.env.scope x)(R:PE X e te)(M:qh X op ti)(B:X.fn x=true\/X.env.scope.names.lookup x=some .local:=by first|exact .inl rfl|exact .inr rfl|assumption):
  PS X (.AugAssign (.Name x pos') op e pos) (yO i te ti):=fun pins s σ H D I h=>E7 V hi G R M B pins s σ H D I (by
 unfold yO at h;split at h
 ·rename_i x e;exact⟨x,e,h⟩
 ·exact h.elim)
noncomputable def DI(t:TE):TO:=fun σ H Q=>t σ H fun x H1=>match x with
 | .int i=>Q (some i) H1
 |_=>False
theorem nu(h:PE X e te):PO X (some e) (DI te):=by
  intro pins s σ H Q I V;rw[evalPart_some];refine iI (h pins s σ H _ I V) fun u s1 C=>?_;obtain⟨x,H1,A,r1,N⟩:=C;cases x<;>first
    |exact False.elim N
    | (obtain⟨t,rfl⟩:=r1
       exact⟨some _,H1,A,.int _ t,N⟩)
noncomputable def ua(f:List Bool->Bool):List V->Hp->VK->Prop:=fun vs H Q=>match vs with
 |[.ref l]=>match H l with
  |some (.lst xs)=>∃bs:List Bool,xs=bs.map V.bl/\Q (.bl (f bs)) H
  |_=>False
 |_=>False
theorem G5{f:List Bool->Bool}(h:ua f vs H Q):z9 f vs H Q:=by
 unfold ua at h;split at h
 ·split at h
  ·rename_i xs e;obtain⟨bs,rfl,h⟩:=h;exact⟨_,bs,rfl,e,h⟩
  ·exact h.elim
 ·exact h.elim
theorem tT(Y:X.calm=true):jcq X (.builtin "all") (ua fun bs=>bs.all id):=(GW Y).imp fun _ _ _=>G5
noncomputable def wq:List V->Hp->VK->Prop:=fun vs H Q=>match vs with
 |[.ref l]=>match H l with
  |some (.lst xs)=>∃kvs:List (iw×V),Paired (PairAt H) xs kvs/\xs.length<=1000/\(kvs.map (·.1)).Nodup/\∀d,H d=none->Q (.ref d) (upd H d (.dK kvs))
  |_=>False
 |_=>False
theorem qO(Y:X.calm=true):jcq X (.type "dict") wq:=(Jn Y).imp fun vs H Q h=>by
 unfold wq at h;split at h
 ·split at h
  ·rename_i xs e;obtain⟨kvs,h1,h2,D,T⟩:=h;exact⟨_,xs,kvs,rfl,e,h1,h2,D,T⟩
  ·exact h.elim
 ·exact h.elim
noncomputable def yI:R2:=fun x y H Q=>match x,y with
 | .ref a,.ref b=>match H a,H b with
  |some (.tup [.int i,.int j]),some (.tup [.int k,.int l])=>Q (.bl (HT.lexLt [i,j] [k,l])) H
  |_,_=>False
 |_,_=>False
theorem EW(F:X.A.units<cLine):OpR X (compareOp .Lt) yI:=(Fn F).imp fun x y H Q h=>by
 unfold yI at h;split at h
 ·split at h
  ·rename_i a b _ _ i j k l e1 e2;exact⟨a,b,[i,j],[k,l],rfl,rfl,SqT.of e1,SqT.of e2,h⟩
  ·exact h.elim
 ·exact h.elim
noncomputable def sT(X:List Str)(names:List (Str×NameKind)):List Str->L6->Bool
 |[],[]=>true
 |x::N,none::r=>sT X names N r
 |x::N,some j::r=>(X[j]? ==some x)&&(names.lookup x==some .free)&&sT X names N r
 |_,_=>false
theorem wW{X:List Str}{names:List (Str×NameKind)}:∀{N:List Str} {src:L6},sT X names N src=true->src.length=N.length/\∀(i j:Nat),src[i]? =some (some j)->X[j]? =N[i]?/\(N[i]?).elim False (fun x=>names.lookup x=some .free)
 |[],[],_=>⟨rfl,fun i j e=>by simp at e⟩
 |x::N,none::r,h=>by
  obtain⟨h1,h2⟩:=wW (N:=N) (src:=r) h;refine⟨by simp[h1],fun i j e=>?_⟩;cases i with
  |zero=>simp at e
  |succ i=>exact h2 i j (by simpa using e)
 | x::N,some k::r,h=>by
  have h':((X[k]? ==some x)&&(names.lookup x==some .free)&&sT X names N r)=true:=h;rw[aQ,aQ]at h';obtain⟨h1,h2⟩:=wW (N:=N) (src:=r) h'.2;refine⟨by simp[h1],fun i j e=>?_⟩;cases i with
  |zero=>
   have T:k=j:=by simpa using e
   subst T;exact⟨by simpa using h'.1.1,by simpa using h'.1.2⟩
  |succ i=>exact h2 i j (by simpa using e)
noncomputable def rQ:List Str->Bool
 |[]=>true
 |x::r=>!(r.contains x)&&rQ r
theorem yf:∀{l:List Str},rQ l=true->l.Nodup
 |[],_=>fA
 |x::r,h=>by
  have h':(!(r.contains x)&&rQ r)=true:=h;rw[aQ]at h';exact bV.mpr ⟨by simpa using h'.1,yf h'.2⟩
noncomputable def vm(X:List Str)(d:List (Str×NameKind))(scope:Scope)(N:List Str)(src:L6):Bool:=
 (scope.kind== .function)&&scope.names.all (fun y=>y.2 != .cell)&&scope.names.all (fun y=>y.2 != .local||scope.names.lookup y.1==some .local)&&
  scope.names.all (fun y=>y.2 != .free||(scope.names.lookup y.1==some .free&&d.lookup y.1==some .cell))&&rQ N&&sT X scope.names N src
theorem CpScope.of{scope:Scope}{N:List Str}(h:vm X.N X.env.scope.names scope N src=true):CpScope X scope N src:=by
 unfold vm at h;simp only[aQ]at h;obtain⟨⟨⟨⟨⟨h1,h2⟩,D⟩,T⟩,K⟩,q⟩:=h;rw[cZ]at h2 D T;obtain⟨l,c⟩:=wW q;refine⟨by simpa using h1,fun y O=>by simpa using h2 y O,fun y O e=>?_,fun y O e=>?_,yf K,l,c⟩
 ·have:=D y O;rw[e]at this;simpa using this
 ·have:=T y O;rw[e]at this;simpa using this
theorem xy{σ:St}(P:Nat->St->Hp->Prop)(A:P 0 σ H)(Z:∀i σ H,i<=xs.length->P i σ H->SqL K H a xs)
  (hs:∀i x σ H t,xs[i]? =some x->P i σ H->H t=none->g (.ref t) σ (upd H t (.tup [.int i,x])) fun d H2=>tb {D with nx:=P (i+1),ct:=P (i+1),bk:=D.nx} d H2) (J:∀σ H,P xs.length σ H->D.nx σ H):
  ∃W:Nat->Nat->St->Hp->Prop,(∃m,W 0 m σ H)/\∀i m σ H,W i m σ H->
   ((qi K a).stop i H/\D.nx σ H)\/((qi K a).go i H/\∃N:St->Hp->Prop,(∀L H',N L H'->∃T,T<m/\W (i+1) T L H')/\∀x H',(qi K a).yld i H x H'->g x σ H' fun d H2=>tb {D with nx:=N,ct:=N,bk:=D.nx} d H2):=by
 refine⟨fun i m σ H=>m=xs.length-i/\i<=xs.length/\P i σ H,⟨xs.length,by simp,bS _,A⟩,?_⟩;rintro i m σ H ⟨rfl,hi,p⟩;have q:=Z i σ H hi p;by_cases B:i<xs.length
 ·refine .inr ⟨⟨xs,xs[i],q,by simp[B]⟩,P (i+1),fun L H' k=>⟨xs.length-(i+1),by lia,rfl,B,k⟩,fun x H' y=>?_⟩;obtain⟨t,z,S,e1,e2,y⟩:=y;subst e1 e2;exact hs i z σ _ t (y xs q) p S
 ·have e:i=xs.length:=by lia
  subst e;exact .inl ⟨⟨xs,q,ay _⟩,J σ H p⟩
theorem kA{F:TI}{σ:St}(J:It)(H1:Hp)(h1:∀R:It->Hp->Prop,R J H1->F σ H R)
  (h2:∃W:Nat->Nat->St->Hp->Prop,(∃m,W 0 m σ H1)/\∀i m σ H,W i m σ H->(J.stop i H/\D.nx σ H)\/(J.go i H/\∃N:St->Hp->Prop,(∀L H',N L H'->∃T,T<m/\W (i+1) T L H')/\∀x H',J.yld i H x H'->g x σ H' fun d H2=>tb {D with nx:=N,ct:=N,bk:=D.nx} d H2)):
  vB F g tb D σ H:=h1 _ h2
theorem jA{F:TI}{tc:TT}{σ:St}(J:It)(H1:Hp)(h1:∀R:It->Hp->Prop,R J H1->F σ H R)(h2:∀l,H1 l=none->rD J src g tc te Q σ H1 l):qE src F g tc te σ H Q:=h1 _ h2
theorem iD{p:Addr}(h:H p=none)(o:HO):Same H (upd H p o):=fun b u q=>by rw[iC (iO q h)];exact q
theorem i4{p:Addr}{o:HO}(s:Same H H')(h:H p=none):Same H (upd H' p o):=fun b u q=>by rw[iC (iO q h)];exact s b u q
noncomputable def Pr(H:Hp)(v:V)(p:Int×Int):Prop:=∃t,v= .ref t/\H t=some (.tup [.int p.1,.int p.2])
theorem Pr.same(h:Pr H v p)(s:Same H H'):Pr H' v p:=let⟨t,e,q⟩:=h;⟨t,e,s _ _ q⟩
noncomputable def vU:HO->Bool
 | .tup _=>true
 | .frz _ _=>true
 |_=>false
noncomputable def TupS(H H':Hp):Prop:=∀b o,vU o=true->H b=some o->H' b=some o
theorem Same.tups(s:Same H H'):TupS H H':=fun b o _ q=>s b _ q
theorem TupS.trans{H1:Hp}(a:TupS H H1)(b:TupS H1 H2):TupS H H2:=fun c o i q=>b c o i (a c o i q)
theorem TupS.refl(H:Hp):TupS H H:=fun _ _ _ q=>q
theorem ka{ys:List V}(h:H l=some (.lst xs)):TupS H (upd H l (.lst ys)):=fun b o i q=>by
 have:b≠l:=fun z=>by rw[z,h]at q;cases q;cases i
 rw[iC this];exact q
theorem uR{o:HO}(h:H l=none):TupS H (upd H l o):=(iD h o).tups
theorem Pr.tups(h:Pr H v p)(s:TupS H H'):Pr H' v p:=let⟨t,e,q⟩:=h;⟨t,e,s _ _ rfl q⟩
noncomputable def Scr(K:L3)(H:Hp)(a:Addr)(ns:List Int):Prop:=
 (∃o,H a=some (.frz o (.lst (ns.map V.int))))\/∃(o:Obj) (its:Array Value) (n:Nat),K.lookup a=some o/\o.cls= .type "list"/\o.dict=none/\o.data= .seq its n/\its.size<=sizeLine/\Vals (ns.map V.int) its.toList
theorem Scr.sq(h:Scr K H a ns):SqL K H a (ns.map V.int):=h.elim (fun⟨o,q⟩=>.inl (.inr ⟨o,q⟩)) .inr
theorem Scr.of(h:SqL K H a (ns.map V.int))(o:vt H):Scr K H a ns:=by
 rcases h with(h|⟨l,h⟩)|h
 ·rcases o a with z|⟨l,xs,z⟩
  ·rw[h]at z;cases z
  ·rw[h]at z;cases z
 ·exact .inl ⟨l,h⟩
 ·exact .inr h
theorem Scr.tups(h:Scr K H a ns)(s:TupS H H'):Scr K H' a ns:=h.elim (fun⟨o,q⟩=>.inl ⟨o,s _ _ rfl q⟩) .inr
abbrev Prs(H:Hp):List V->LY->Prop:=Paired (Pr H)
theorem Prs.tups{H H':Hp}(s:TupS H H'){xs:List V}{ps:LY}(h:Prs H xs ps):Prs H' xs ps:=Paired.mapP h fun _ _ q=>q.tups s
theorem Prs.same(s:Same H H'){ps:LY}(h:Prs H xs ps):Prs H' xs ps:=Prs.tups s.tups h
theorem jm{α g:Type}{F:α->g->Prop}:∀{xs:List α} {ys:List g} {i:Nat} {x:α},Paired F xs ys->xs[i]? =some x->∃y,ys[i]? =some y/\F x y
 |_,_,_,_,.nil,e=>by simp at e
 |_,_,0,_,.cons r _,e=>by simp at e;subst e;exact⟨_,rfl,r⟩
 |_,_,i+1,y,.cons _ t,e=>by
  obtain⟨u,h1,h2⟩:=jm (i:=i) t (by simpa using e);exact⟨u,by simpa using h1,h2⟩
theorem oQ{α g:Type}{F:α->g->Prop}:∀{xs:List α} {ys:List g} {i:Nat} {y:g},Paired F xs ys->ys[i]? =some y->∃x,xs[i]? =some x/\F x y
 |_,_,_,_,.nil,e=>by simp at e
 |_,_,0,_,.cons r _,e=>by simp at e;subst e;exact⟨_,rfl,r⟩
 |_,_,i+1,y,.cons _ t,e=>by
  obtain⟨u,h1,h2⟩:=oQ (i:=i) t (by simpa using e);exact⟨u,by simpa using h1,h2⟩
theorem j3{g:Type}{F:α->g->Prop}{a:α}{b:g}{c:List α}{l:List g}(h:Paired F c l)(r:F a b):Paired F (c++[a]) (l++[b]):=Paired.snoc h r
theorem qR{l:List α}{i:Nat}{x:α}(h:l[i]? =some x):l.drop i=x::l.drop (i+1):=by
 obtain⟨h1,h2⟩:=ax.mp h;rw[dX h1,h2]
theorem ji{l:List α}{i:Nat}{x:α}(h:l[i]? =some x):l.take (i+1)=l.take i++[x]:=by
 obtain⟨h1,h2⟩:=ax.mp h;rw[List.take_succ,h];rfl
end
inductive Dt where
 |non
 |bl (b:Bool)
 |int (i:Int)
 |str (x:Str)
 |tup (ds:List Dt)
 |lst (ds:List Dt)
mutual
noncomputable def Rep(H:Hp):Dt->V->Prop
 | .non,v=>v= .non
 | .bl b,v=>v= .bl b
 | .int i,v=>v= .int i
 | .str x,v=>v= .str x
 | .tup ds,v=>∃a vs,v= .ref a/\H a=some (.tup vs)/\Reps H ds vs
 | .lst ds,v=>∃a vs,v= .ref a/\H a=some (.lst vs)/\Reps H ds vs
noncomputable def Reps(H:Hp):List Dt->List V->Prop
 |[],vs=>vs=[]
 |d::ds,vs=>∃v r,vs=v::r/\Rep H d v/\Reps H ds r
end
mutual
theorem Rep.same{H H':Hp}(s:Same H H'):∀(d:Dt) {v:V},Rep H d v->Rep H' d v
 | .non,_,h=>by rw[Rep]at*;exact h
 | .bl _,_,h=>by rw[Rep]at*;exact h
 | .int _,_,h=>by rw[Rep]at*;exact h
 | .str _,_,h=>by rw[Rep]at*;exact h
 | .tup ds,_,h=>by
  rw[Rep]at*;obtain⟨a,vs,e,q,r⟩:=h;exact⟨a,vs,e,s _ _ q,Reps.same s ds r⟩
 | .lst ds,_,h=>by
  rw[Rep]at*;obtain⟨a,vs,e,q,r⟩:=h;exact⟨a,vs,e,s _ _ q,Reps.same s ds r⟩
theorem Reps.same{H H':Hp}(s:Same H H'):∀(ds:List Dt) {vs:List V},Reps H ds vs->Reps H' ds vs
 |[],_,h=>by rw[Reps]at*;exact h
 |d::ds,_,h=>by
  rw[Reps]at*;obtain⟨v,r,e,h1,h2⟩:=h;exact⟨v,r,e,Rep.same s d h1,Reps.same s ds h2⟩
end
section
variable{X:Cx}{H:Hp}
theorem Reps.len{H:Hp}:∀{ds:List Dt} {vs:List V},Reps H ds vs->vs.length=ds.length
 |[],_,h=>by rw[Reps]at h;subst h;rfl
 |d::ds,_,h=>by
  rw[Reps]at h;obtain⟨v,r,e,h1,h2⟩:=h;rw[e,List.length_cons,List.length_cons,Reps.len h2]
theorem Reps.at{H:Hp}:∀{ds:List Dt} {vs:List V} {i:Nat} {v:V},Reps H ds vs->vs[i]? =some v->∃d,ds[i]? =some d/\Rep H d v
 |[],_,i,v,h,e=>by rw[Reps]at h;rw[h]at e;simp at e
 | d::ds,_,i,v,h,e=>by
  rw[Reps]at h;obtain⟨w,r,e1,h1,h2⟩:=h;subst e1;cases i with
  |zero=>simp at e;subst e;exact⟨d,rfl,h1⟩
  |succ i=>
   obtain⟨d',N,G⟩:=Reps.at h2 (i:=i) (by simpa using e);exact⟨d',by simpa using N,G⟩
noncomputable def jz(p:Int×Int):Dt:=.tup [.int p.1,.int p.2]
theorem Pr.rep{v:V}{p:Int×Int}(h:Pr H v p):Rep H (jz p) v:=by
 obtain⟨t,e,q⟩:=h;rw[jz,Rep];refine⟨t,_,e,q,?_⟩;rw[Reps];refine⟨_,_,rfl,(by rw[Rep]),?_⟩;rw[Reps];exact⟨_,_,rfl,(by rw[Rep]),(by rw[Reps])⟩
theorem Prs.reps{xs:List V}{ps:LY}(C:Prs H xs ps):Reps H (ps.map jz) xs:=by
 induction C with
 |nil=>rw[bO,Reps]
 |cons r t E=>
  rw[ai,Reps];exact⟨_,_,rfl,r.rep,E⟩
theorem uW{H:Hp}:∀(ns:List Int),Reps H (ns.map Dt.int) (ns.map V.int)
 |[]=>by rw[bO,Reps,bO]
 |n::r=>by rw[ai,Reps,ai];exact⟨_,_,rfl,(by rw[Rep]),uW r⟩
noncomputable def yH:List V->Hp->VK->Prop:=fun vs H Q=>match vs with
 |[.int i,.int j]=>Q (.int (if i<j then j else i)) H
 |_=>False
theorem vY(Y:X.calm=true):jcq X (.builtin "max") yH:=(Ig Y).imp fun vs H Q h=>by
 unfold yH at h;split at h
 ·refine⟨_,_,rfl,?_⟩
  first|exact h|(rename_i i j;by_cases c:i<j<;>simp_all)
 ·exact h.elim
noncomputable def sO(n:Bool):R2:=fun x y H Q=>match y with
 | .ref p=>match iH H p with
  |some xs=>kD x=true/\xs.all kD=true/\Q (.bl (if n=true then !oS x xs else oS x xs)) H
  |none=>False
 |_=>False
theorem zM{K:L3}{n:Bool}{x y:V}{Q:VK}(h:sO n x y H Q):vD K n x y H Q:=by
 unfold sO at h;split at h
 ·split at h
  ·rename_i xs e;obtain⟨h1,h2,D⟩:=h;exact⟨_,xs,rfl,uP e,h1,h2,D⟩
  ·exact h.elim
 ·exact h.elim
theorem nT:OpR X (compareOp .In) (sO false):=IT.imp fun _ _ _ _=>zM
theorem xI:OpR X (compareOp .NotIn) (sO true):=Kt.imp fun _ _ _ _=>zM
theorem flat_ints(ns:List Int):(ns.map V.int).all kD=true:=by
 rw[cZ];intro v Y;obtain⟨n,_,e⟩:=av.mp Y;rw [<- e];rfl
theorem nA(n:Int)(ns:List Int):oS (.int n) (ns.map V.int)=decide (n∈ns):=by
 rw[df,oS,fo,decide_eq_true_iff];constructor
 ·rintro⟨v,Y,e⟩;obtain⟨m,K,e2⟩:=av.mp Y;subst e2;have:m=n:=by simpa[mO]using e
  rw [<- this];exact K
 ·intro h;exact⟨.int n,cG h,by simp[mO]⟩
theorem Cu{P:Program}{w:World}:∀{kvs:List (iw×V)} {vs:List (iw×Value)} {ns:List Int},KV kvs vs->kvs.map (·.1)=ns.map Sum.inl->∀{us:List Value},us.length=vs.length->(∀(j:Nat) (v:Value),us[j]? =some v->∃k x,vs[j]? =some (k,x)/\(kg P w).is k v=true)->IntsAre us ns
 | [],_,ns,.nil,F,us,Z,_=>by
  cases ns with
  |nil=>cases us with
   |nil=>exact .nil
   |cons _ _=>simp at Z
  |cons _ _=>simp at F
 | L::kvs,_,ns,.cons (b:=b) r t,F,us,Z,Y=>by
  cases ns with
  |nil=>simp at F
  | cons n ns=>
   cases us with
   |nil=>simp at Z
   | cons u us=>
    rw[ai,ai]at F;injection F with hk1 hk2;obtain⟨k,x,e1,e2⟩:=Y 0 u rfl;simp only[List.getElem?_cons_zero,cH]at e1;have h:k = Sum.inl n:=by rw [<- hk1,r.1,e1]
    rw[h]at e2;rcases nE (show pD (Sum.inl n) u=true from e2)with⟨i,t',e,O⟩|⟨y,t',e,O⟩
    ·cases e;rw[O];refine .cons n t' (Cu (P:=P) (w:=w) t hk2 (by simpa using Z) fun j v W=>?_);obtain⟨d,a,J,f⟩:=Y (j+1) v (by simpa using W);exact⟨d,a,by simpa using J,f⟩
    ·cases e
noncomputable def EA:List V->Hp->VK->Prop:=fun vs H Q=>∃(p:Addr) (kvs:List (iw×V)) (ns:List Int),vs=[.ref p]/\H p=some (.dK kvs)/\kvs.map (·.1)=ns.map Sum.inl/\ns.length<64/\
 ∀(l:Addr) (ms:List Int),H l=none->ms.Perm ns->ms.Pairwise (·<=·)->Q (.ref l) (upd H l (.lst (ms.map V.int)))
theorem yn(Y:X.calm=true):jcq X (.builtin "sorted") EA:=by
 intro pins s σ H xs us Q I r h;obtain⟨p,kvs,ns,rfl,e,F,C,q⟩:=h;obtain⟨u,rfl,rx⟩:=pJ r;cases rx;obtain⟨z,lo,k,i,dd⟩:=vL I.hok e;obtain⟨ep,t⟩:=dd.dictAt;have T:=i.length;refine Calls.call_function_entry kind_sorted plain_sorted entry_sorted (args_sorted1 _) ?_;unfold Builtin.«sorted»;refine ae (m:=checkCount "sorted" 1 1 _) (aM ?_);refine ae (PySem.W.kdu_collect (PySem.W.kdl_dict (knd:=kg X.prog X.w) (kvs:=k) (ep:=ep) lo) (I.ok.hd Y) t (by lia) fun h' tk d w g=>?_);have Z:d.toList.length=k.length:=by rw[Array.length_toList];exact g.1
 have n:IntsAre d.toList ns:=Cu i F Z fun j v D=>g.2 j v (by rw [<- Array.getElem?_toList]; exact D);have l:ns.length=kvs.length:=by
  have:=cA List.length F;simpa using this.symm
 refine ae (wpAny_newList ?_ (by lia));have L:(h'.push (seqObj "list" d.toList.toArray 0)).get? h'.objs.size=some (seqObj "list" d.toList.toArray 0):=aW _ rfl;show wpAny _ _ _ _ _ {s with heap:=h'.push (seqObj "list" d.toList.toArray 0),toks:=tk};refine ae (bQ (dW slot_list_sort ⟨_,L,rfl⟩ entry_list_sort (list_sort_tree L n (by lia) fun out ms U x y=>⟨_,rfl,?_⟩) (args_list_sort _)));refine aM ⟨_,rfl,?_⟩;have B:∀b o,h'.get? b=some o->b<h'.objs.size:=fun b o G=>aR G;have O:∀b o,h'.get? b=some o->(sortedHeap (h'.push (seqObj "list" d.toList.toArray 0)) h'.objs.size d.toList out).get? b=some o:=fun b o G=>by
  rw[sortedHeap_old (bu (B b o G)) (by rw[size_push'];exact dQ (B b o G)),Heap.get?_push_ne _ _ _ (bu (B b o G))];exact G
 obtain⟨c,f⟩:=sortedHeap_at (out:=out) L;have a:=x.length_eq;have A:Inv X pins σ H {s with heap:=h',toks:=tk}:=I.kept w;refine⟨.ref h'.objs.size,_,A.laid (t':=tk) O (ay _) (show jc2 X.prog X.w _ _ _ (.lst (ms.map V.int))from⟨?_,out.toList,c,CN U,?_⟩),rfl,q _ ms (A.hok.fresh (ay _)) x y⟩
 ·rw[aa,a];exact bw (gN C) (by decide)
 ·rw[f]
end
mutual
noncomputable def jq:Dt->Dt->Bool
 | .non,.non=>true
 | .bl a,.bl b=>a==b
 | .bl a,.int b=>(if a then 1 else 0)==b
 | .int a,.bl b=>a==(if b then 1 else 0)
 | .int a,.int b=>a==b
 | .str a,.str b=>a==b
 | .tup a,.tup b=>lZ a b
 | .lst a,.lst b=>lZ a b
 |_,_=>false
noncomputable def lZ:List Dt->List Dt->Bool
 |[],[]=>true
 |a::r,b::t=>jq a b&&lZ r t
 |_,_=>false
end
mutual
noncomputable def kX:Dt->Nat
 | .tup a=>j5 a+1
 | .lst a=>j5 a+1
 |_=>0
noncomputable def j5:List Dt->Nat
 |[]=>0
 |a::r=>max (kX a) (j5 r)
end
noncomputable def mv(a b:List Dt)(j:Nat):Bool:=match a[j]?,b[j]? with
 |some x,some y=>jq x y
 |_,_=>false
theorem qS:∀{a b:List Dt},a.length≠b.length->lZ a b=false
 |[],[],h=>absurd rfl h
 |[],_::_,_=>by simp[lZ]
 |_::_,[],_=>by simp[lZ]
 |x::a,y::b,h=>by
  rw[lZ,qS (by simpa using h),fb]
theorem Ja:∀(n:Nat) (f:Nat->Bool),(List.range (n+1)).all f=(f 0&&(List.range n).all fun j=>f (j+1)):=fun n f=>by
 rw[List.range_succ_eq_map,List.all_cons,fU];rfl
theorem rb:∀{a b:List Dt},a.length=b.length->lZ a b=(List.range a.length).all (mv a b)
 |[],[],_=>by rw[lZ];rfl
 |[],_::_,h=>by simp at h
 |_::_,[],h=>by simp at h
 |x::a,y::b,h=>by
  rw[lZ,rb (a:=a) (b:=b) (by simpa using h),List.length_cons,Ja];rfl
theorem uE:∀{a:List Dt} {j:Nat} {d:Dt},a[j]? =some d->kX d<=j5 a
 |[],_,_,h=>by simp at h
 |x::a,0,d,h=>by
  simp at h;subst h;rw[j5];lia
 |x::a,j+1,d,h=>by
  have:=uE (a:=a) (j:=j) (by simpa using h);rw[j5];lia
noncomputable def kK:Dt->Option V
 | .non=>some .non
 | .bl b=>some (.bl b)
 | .int i=>some (.int i)
 | .str x=>some (.str x)
 |_=>none
theorem G4{d e:Dt}{x y:V}(J:kK d=some x)(R:kK e=some y):jq d e=mO x y:=by
 cases d<;>cases e<;>simp only[kK,cH,reduceCtorEq]at J R<;>subst J<;>subst R<;>simp[jq,mO]
theorem xJ{H:Hp}{d:Dt}{x v:V}(J:kK d=some x)(h:Rep H d v):v=x/\kD x=true:=by
 cases d<;>simp only[kK,cH,reduceCtorEq]at J<;>subst J<;>rw[Rep]at h<;>exact⟨h,rfl⟩
section
variable{X:Cx}{pins:L1}{σ:St}{H:Hp}{s:Shared}
theorem Inv.tupE(I:Inv X pins σ H s){a:Addr}{vs:List V}(e:H a=some (.tup vs)):∃its:List Value,Vals vs its/\s.heap.IsTuple a its.toArray:=by
 obtain⟨its,r,p,_⟩:=I.tuple (SqT.of e);exact⟨its,r,p⟩
theorem Inv.lstE(I:Inv X pins σ H s){a:Addr}{vs:List V}(e:H a=some (.lst vs)):∃its:List Value,Vals vs its/\s.heap.IsList a its.toArray:=by
 obtain⟨its,r,p,_⟩:=I.list (SqL.of e);exact⟨its,r,p.isList⟩
mutual
theorem uF:∀d:Dt,jq d d=true
 | .non=>by simp[jq]
 | .bl _=>by simp[jq]
 | .int _=>by simp[jq]
 | .str _=>by simp[jq]
 | .tup a=>by rw[jq];exact xY a
 | .lst a=>by rw[jq];exact xY a
theorem xY:∀a:List Dt,lZ a a=true
 |[]=>by rw[lZ]
 |d::r=>by rw[lZ,uF d,xY r];rfl
end
mutual
theorem Rep.inj{H:Hp}:∀{d e:Dt} {v:V},Rep H d v->Rep H e v->d=e
 | .non,e,v,h1,h2=>by rw[Rep]at h1;subst h1;cases e<;>simp[Rep]at h2 ⊢
 | .bl _,e,v,h1,h2=>by rw[Rep]at h1;subst h1;cases e<;>simp[Rep]at h2 ⊢;exact h2
 | .int _,e,v,h1,h2=>by rw[Rep]at h1;subst h1;cases e<;>simp[Rep]at h2 ⊢;exact h2
 | .str _,e,v,h1,h2=>by rw[Rep]at h1;subst h1;cases e<;>simp[Rep]at h2 ⊢;exact h2
 | .tup ds,e,v,h1,h2=>by
  rw[Rep]at h1;obtain⟨a,vs,rfl,q,r⟩:=h1;cases e with
  |tup es=>
   rw[Rep]at h2;obtain⟨a',vs',e',q',r'⟩:=h2;cases e';rw[q]at q';cases q';rw[Reps.inj r r']
  |lst es=>
   rw[Rep]at h2;obtain⟨a',vs',e',q',r'⟩:=h2;cases e';rw[q]at q';cases q'
  |non=>rw[Rep]at h2;cases h2
  |bl _=>rw[Rep]at h2;cases h2
  |int _=>rw[Rep]at h2;cases h2
  |str _=>rw[Rep]at h2;cases h2
 | .lst ds,e,v,h1,h2=>by
  rw[Rep]at h1;obtain⟨a,vs,rfl,q,r⟩:=h1;cases e with
  |lst es=>
   rw[Rep]at h2;obtain⟨a',vs',e',q',r'⟩:=h2;cases e';rw[q]at q';cases q';rw[Reps.inj r r']
  |tup es=>
   rw[Rep]at h2;obtain⟨a',vs',e',q',r'⟩:=h2;cases e';rw[q]at q';cases q'
  |non=>rw[Rep]at h2;cases h2
  |bl _=>rw[Rep]at h2;cases h2
  |int _=>rw[Rep]at h2;cases h2
  |str _=>rw[Rep]at h2;cases h2
theorem Reps.inj{H:Hp}:∀{ds es:List Dt} {vs:List V},Reps H ds vs->Reps H es vs->ds=es
 |[],es,vs,h1,h2=>by
  rw[Reps]at h1;subst h1;cases es with
  |nil=>rfl
  |cons e es=>rw[Reps]at h2;obtain⟨_,_,z,_⟩:=h2;cases z
 | d::ds,es,vs,h1,h2=>by
  rw[Reps]at h1;obtain⟨v,r,rfl,q1,q2⟩:=h1;cases es with
  |nil=>rw[Reps]at h2;cases h2
  |cons e es=>
   rw[Reps]at h2;obtain⟨v',r',z,p1,p2⟩:=h2;cases z;rw[Rep.inj q1 p1,Reps.inj q2 p2]
end
theorem Dp{d e:Dt}(J:kK d=none){y:V}(R:kK e=some y):jq d e=false/\jq e d=false:=by
 cases d<;>cases e<;>simp only[kK,cH,reduceCtorEq]at J R<;>simp[jq]
theorem zG:∀(n:Nat) {A:Around} (I:Inv X pins σ H s) {d e:Dt} {x y:V} {u v:Value},kX d<=n->A.units+n<cLine->Rep H d x->Rep H e y->RelV x u->RelV y v->SeqAt.EqAt A s u v (jq d e):=by
 intro n
 induction n with
 | zero=>
  intro A I d e x y u v S F f D rx B;have w:∃z,kK d=some z:=by
   cases d<;>simp only[kX,kK]at S ⊢ <;>first|exact⟨_,rfl⟩|lia
  obtain⟨z,L⟩:=w;obtain⟨rfl,fz⟩:=xJ L f;cases R:kK e with
  |some h=>
   obtain⟨rfl,fy⟩:=xJ R D;rw[G4 L R];exact zH rx B fz fy
  | none=>
   rw[(Dp R L).2];have o:A.units<cLine:=by lia
   cases e<;>simp only[kK,reduceCtorEq]at R
   ·rw[Rep]at D;obtain⟨a,vs,rfl,q,_⟩:=D;cases B;obtain⟨its,_,p⟩:=I.tupE q;cases d<;>simp only[kK,cH,reduceCtorEq]at L<;>subst L
    ·cases rx;exact SeqAt.EqAt.none_tuple p o
    ·cases rx;exact SeqAt.EqAt.bool_tuple _ p o
    ·obtain⟨t,rfl⟩:=rx;exact SeqAt.EqAt.int_tuple _ _ p o
    ·obtain⟨t,rfl⟩:=rx;exact SeqAt.EqAt.str_tuple _ _ p o
   ·rw[Rep]at D;obtain⟨a,vs,rfl,q,_⟩:=D;cases B;obtain⟨its,_,p⟩:=I.lstE q;cases d<;>simp only[kK,cH,reduceCtorEq]at L<;>subst L
    ·cases rx;exact SeqAt.EqAt.none_list p o
    ·cases rx;exact SeqAt.EqAt.bool_list _ p o
    ·obtain⟨t,rfl⟩:=rx;exact SeqAt.EqAt.int_list _ _ p o
    ·obtain⟨t,rfl⟩:=rx;exact SeqAt.EqAt.str_list _ _ p o
 | succ n E=>
  intro A I d e x y u v S F f D rx B;have o:A.units<cLine:=by lia
  have items:∀{ds es:List Dt} {vs l:List V} {its C:List Value},j5 ds<=n->Reps H ds vs->Reps H es l->Vals vs its->Vals l C->
    ∀j (h1:j<its.toArray.size) (h2:j<C.toArray.size),SeqAt.EqAt A.in1 s its.toArray[j] C.toArray[j] (mv ds es j):=by
   intro ds es vs l its C sz r1 P m r j h1 h2;rw[aF]at h1 h2;have l1:=m.length;have l2:=r.length;obtain⟨Y,e1,N⟩:=m.get (i:=j) (x:=vs[j]'(by lia)) (gE _);obtain⟨v',e2,G⟩:=r.get (i:=j) (x:=l[j]'(by lia)) (gE _);obtain⟨d',M,g⟩:=r1.at (i:=j) (gE (by lia));obtain⟨T,Q,K⟩:=P.at (i:=j) (gE (by lia));rw[gE h1]at e1;rw[gE h2]at e2;cases e1;cases e2;have W:mv ds es j=jq d' T:=by unfold mv;rw[M,Q]
   rw[W];have:=uE M;exact E (A:=A.in1) I (by lia) (by show A.units+1+n<cLine;lia) g K N G
  cases w:kK d with
  |some z=>
   refine E I ?_ (by lia) f D rx B;cases d<;>simp only[kK,reduceCtorEq]at w<;>simp[kX]
  | none =>
   cases R:kK e with
   | some h=>
    rw[(Dp w R).1];obtain⟨rfl,fy⟩:=xJ R D;cases d<;>simp only[kK,reduceCtorEq]at w
    ·rw[Rep]at f;obtain⟨a,vs,rfl,q,_⟩:=f;cases rx;obtain⟨its,_,p⟩:=I.tupE q;cases e<;>simp only[kK,cH,reduceCtorEq]at R<;>subst R
     ·cases B;exact SeqAt.EqAt.tuple_none p o
     ·cases B;exact SeqAt.EqAt.tuple_bool _ p o
     ·obtain⟨t,rfl⟩:=B;exact SeqAt.EqAt.tuple_int _ _ p o
     ·obtain⟨t,rfl⟩:=B;exact SeqAt.EqAt.tuple_str _ _ p o
    ·rw[Rep]at f;obtain⟨a,vs,rfl,q,_⟩:=f;cases rx;obtain⟨its,_,p⟩:=I.lstE q;cases e<;>simp only[kK,cH,reduceCtorEq]at R<;>subst R
     ·cases B;exact SeqAt.EqAt.list_none p o
     ·cases B;exact SeqAt.EqAt.list_bool _ p o
     ·obtain⟨t,rfl⟩:=B;exact SeqAt.EqAt.list_int _ _ p o
     ·obtain⟨t,rfl⟩:=B;exact SeqAt.EqAt.list_str _ _ p o
   | none=>
    cases d<;>simp only[kK,reduceCtorEq]at w<;>cases e<;>simp only[kK,reduceCtorEq]at R
    ·rename_i ds es;have O:j5 ds<=n:=by rw[kX]at S;lia
     have i':=f;have sq:=D;rw[Rep]at f;rw[Rep]at D;obtain⟨a,vs,rfl,q,r1⟩:=f;obtain⟨b,l,rfl,G,P⟩:=D;cases rx;cases B;by_cases J:a=b
     ·subst J;rw[Rep.inj i' sq,uF];exact hJ _
     ·obtain⟨its,m,p1⟩:=I.tupE q;obtain⟨C,r,p2⟩:=I.tupE G;have k:=SeqAt.RcAt.tuples p1 p2 o (items O r1 P m r);have c:((List.range (min its.toArray.size C.toArray.size)).all (mv ds es)&&its.toArray.size==C.toArray.size)=jq (.tup ds) (.tup es):=by
       have l1:=m.length;have l2:=r.length;have U:=r1.len;have l4:=P.len;rw[jq,aF,aF];by_cases Z:ds.length=es.length
       ·rw [rb Z,<- l1,<- l2,U,l4,Z,Nat.min_self];simp
       ·rw[qS Z];have:(its.length==C.length)=false:=by
         rw[cE];lia
        rw[this,fb]
      rw[c]at k;exact .of_refs J k
    ·rename_i ds es;rw[Rep]at f;rw[Rep]at D;obtain⟨a,vs,rfl,q,r1⟩:=f;obtain⟨b,l,rfl,G,P⟩:=D;cases rx;cases B;obtain⟨its,m,p1⟩:=I.tupE q;obtain⟨C,r,p2⟩:=I.lstE G;have:jq (.tup ds) (.lst es)=false:=by simp[jq]
     rw[this];exact SeqAt.EqAt.tuple_list p1 p2 o
    ·rename_i ds es;rw[Rep]at f;rw[Rep]at D;obtain⟨a,vs,rfl,q,r1⟩:=f;obtain⟨b,l,rfl,G,P⟩:=D;cases rx;cases B;obtain⟨its,m,p1⟩:=I.lstE q;obtain⟨C,r,p2⟩:=I.tupE G;have:jq (.lst ds) (.tup es)=false:=by simp[jq]
     rw[this];exact SeqAt.EqAt.list_tuple p1 p2 o
    ·rename_i ds es;have O:j5 ds<=n:=by rw[kX]at S;lia
     have i':=f;have sq:=D;rw[Rep]at f;rw[Rep]at D;obtain⟨a,vs,rfl,q,r1⟩:=f;obtain⟨b,l,rfl,G,P⟩:=D;cases rx;cases B;by_cases J:a=b
     ·subst J;rw[Rep.inj i' sq,uF];exact hJ _
     ·obtain⟨its,m,p1⟩:=I.lstE q;obtain⟨C,r,p2⟩:=I.lstE G;have l1:=m.length;have l2:=r.length;have U:=r1.len;have l4:=P.len;refine .of_refs J ?_;rw[jq];by_cases Z:ds.length=es.length
      ·rw[rb Z];have k:=SeqAt.RcAt.lists p1 p2 (by rw[aF,aF];lia) o (items O r1 P m r);rw [aF,<- l1,U] at k;exact k
      ·rw[qS Z];exact SeqAt.RcAt.lists_lengths p1 p2 (by rw[aF,aF];simp;lia) o
end
section
variable{prog:Program}{w:World}{A:Around}{R:Result->Shared->Prop}{I:Addr}{fp wr:List Addr}{n j:Nat}{P:Nat->Value->Prop}{St:Nat->Heap->Prop}{val:Nat->Int}{m:Int}
noncomputable def Best(val:Nat->Int)(n:Nat)(m:Int):Prop:=(∃i,i<n/\m=val i)/\∀i,i<n->val i<=m
theorem Best.up(h:Best val j m)(U:val j>m):Best val (j+1) (val j):=
 ⟨⟨j,fO _,rfl⟩,fun i hi=>by
  rcases dZ.mp hi with z|z
  ·have:=h.2 i z;lia
  ·rw[z];exact cg _⟩
theorem Best.keep(h:Best val j m)(U:¬val j>m):Best val (j+1) m:=
 ⟨let⟨i,hi,e⟩:=h.1;⟨i,dQ hi,e⟩,fun i hi=>by
  rcases dZ.mp hi with z|z
  ·exact h.2 i z
  ·rw[z];lia⟩
theorem uH:(toString "max"++toString ".loop":String)="max.loop":=by decide
theorem JZ(W:Walks prog w A.in1 I fp wr n P St)(val:Nat->Int)(a:∀i v,P i v->∃t:Tok,v=Value.int (val i) t)(kw:L5)(S:Addr)(N:S∉fp):
  ∀(k j:Nat) (s:Shared) (m:Int) (t:Tok) (c:Nat),n-j=k->j<=n->St j s.heap->Best val j m->
  s.heap.get? S=some {cls:=.type "list",dict:=none,data:=.seq #[.int m t,.int m t] c,slots:=#[]}->
  (∀T t' h' tk,Best val n T->(∀b o,b∉wr->b≠S->s.heap.get? b=some o->h'.get? b=some o)->R (.ok (.ret (.int T t'))) {s with heap:=h',toks:=tk})->
  codeAny (model prog w) A (.builtin "max.loop" ⟨[.ref I,.none,.ref S],kw⟩) R s:=by
 have r:S∉wr:=fun z=>N (W.sub _ z);intro k
 induction k with
 |zero=>
  intro j s m t c F d J U K l;have g:j=n:=by lia
  subst g;refine cW fT ?_;rw[cn cU _];show wpAny _ A.in1 (seqItems? (.ref S)>>=_) _ _ s;refine ae (bY K rfl ?_);show wpAny _ A.in1 (tryCatch (pyNext (.ref I)) _>>=_) _ _ s;refine ae (cQ (W.done s _ _ J fun h' tk O=>?_));have y:=O S _ r K;show wpAny _ A.in1 (updateSeq S (fun _=>#[])>>=_) _ _ _;refine ae ?_;refine eI y rfl (ae (dq (aM ?_)));exact l m t _ tk U fun b o h p e=>(bJ _ _ (c7 p)).trans (O b o h e)
 | succ k E=>
  intro j s m t c F d J U K l;have B:j<n:=by lia
  refine cW fT ?_;rw[cn cU _];show wpAny _ A.in1 (seqItems? (.ref S)>>=_) _ _ s;refine ae (bY K rfl ?_);show wpAny _ A.in1 (tryCatch (pyNext (.ref I)) _>>=_) _ _ s;refine ae (cQ (W.item j s _ _ B J fun v h' tk f L O=>?_));obtain⟨t',rfl⟩:=a j v f;have y:=O S _ r K;show wpAny _ A.in1 (tryCatch (holding [.int (val j) t',.int (val j) t'] (richCompare .Gt (.int (val j) t') (.int m t)>>=_)) _>>=_) _ _ _;refine ae (cQ (bQ (ae (gt_int ?_))));refine ae (bQ (cj ?_));refine ae (dq (aM ?_));by_cases Y:val j>m
  ·rw[ao (show m<val j from Y)];simp only[if_true];refine ae ?_;refine eI y rfl (ae (dq ?_));rw[uH];refine aM ⟨cO cU _,E (j+1) _ (val j) t' _ (by lia) B (W.frame _ _ _ L fun b q o e=>?_) (U.up Y) (cY _ y rfl) fun T u V C D Z=>?_⟩
   ·exact(bJ _ _ (fun z:S=b=>N (by rw[z];exact q))).trans e
   ·exact l T u V C D fun b o h p e=>Z b o h p ((bJ _ _ (c7 p)).trans (O b o h e))
  ·rw[aA (show ¬m<val j from Y)];simp only[aL,if_false];refine ae (dq ?_);rw[uH];refine aM ⟨cO cU _,E (j+1) _ m t c (by lia) B L (U.keep Y) y fun T u V C D Z=>?_⟩;exact l T u V C D fun b o h p e=>Z b o h p (O b o h e)
end
section
variable{X:Cx}
theorem K6(a d:Value):argsOk "max" ⟨[a],[(Str.ofString "default",d)]⟩:=by unfold argsOk;kernel_rfl
noncomputable def EG:List V->List V->Hp->VK->Prop:=fun vs zs H Q=>∃(p:Addr) (ns:List Int) (d:Int),vs=[.ref p]/\zs=[.int d]/\H p=some (.lst (ns.map V.int))/\
 ∀m,(ns=[]->m=d)->(ns≠[]->m∈ns)->(∀x∈ns,x<=m)->Q (.int m) H
theorem Ih(Y:X.calm=true):∀(pins:L1) (s:Shared) (σ:St) (H:Hp) (xs zs:List V) (us l:List Value) (Q:VK),Inv X pins σ H s->Vals xs us->Vals zs l->EG xs zs H Q->
  wpAny (model X.prog X.w) X.A (call (.builtin "max") us ([Str.ofString "default"].zip l)) (EP X pins σ Q) X.xe s:=by
 intro pins s σ H xs zs us l Q I r rz h;obtain⟨p,ns,d,rfl,rfl,e,q⟩:=h;obtain⟨u,rfl,rx⟩:=pJ r;cases rx;obtain⟨dv,rfl,td,rfl⟩:=pJ rz;obtain⟨z,its,c,r',g,T⟩:=I.lstM e;have hI:=pY r';have P:p<s.heap.objs.size:=aR T;have R:s.heap.IsList p its.toArray:=⟨_,T,rfl,_,rfl⟩;refine kmk_tree PySem.F.kind_max PySem.F.plain_max PySem.F.entry_max (K6 _ _) ?_;show wpAny _ X.A.in1 (Builtin.Builtins.bindParams "max" ["key","default"] 0 ⟨[],[(Str.ofString "default",.int d td)]⟩>>=_) _ _ s;refine ae (fH (show Builtin.Builtins.bindParams "max" ["key","default"] 0 ⟨[],[(Str.ofString "default",.int d td)]⟩=pure [none,some (.int d td)]from rfl) ?_);refine ae (aM ?_);refine ae (dk R ?_);refine ae (wpAny_newList ?_ (bS _));rw[uH];have K:(s.heap.push {cls:=.type "list_iterator",data:=.fields #[.ref p,.int 0 0]}).objs.size=s.heap.objs.size+1:=size_push' ..;have W:=Walks.list (prog:=X.prog) (w:=X.w) (A:=X.A.in1) (show X.A.in1.handled=none from I.ok.hd Y) s.heap.objs.size p (bu P) its.toArray;have M:its.toArray.size = ns.length:=by rw [aF,<- g,aa]
 have a:∀(i:Nat) (v:Value),its.toArray[i]? =some v->∃t:Tok,v=Value.int (ns[i]?.getD 0) t:=fun i v j=>by
  have B:its[i]? =some v:=by simpa using j
  have hi:i<ns.length:=by
   have:=(ax.mp B).1;rw[aa]at g;lia
  obtain⟨u,e1,t,e2⟩:=r'.get (i:=i) (x:=.int ns[i]) (by rw[aU,gE hi];rfl);rw[B]at e1;cases e1;exact⟨t,by rw[e2,gE hi];rfl⟩
 have i':∀(h':Heap) (tk:Nat),(∀b o,b∉[s.heap.objs.size]->b≠(s.heap.push {cls:=.type "list_iterator",data:=.fields #[.ref p,.int 0 0]}).objs.size->((s.heap.push {cls:=.type "list_iterator",data:=.fields #[.ref p,.int 0 0]}).push {cls:=.type "list",data:=.seq #[]}).get? b=some o->h'.get? b=some o)->
   Inv X pins σ H {s with heap:=h',toks:=tk}:=fun h' tk k=>I.kept fun b o qq=>k b o (by
    intro z;have:b=s.heap.objs.size:=by simpa using z
    exact absurd (aR qq) (by rw[this];exact cP _)) (by rw[K];exact bu (dQ (aR qq))) (ag _ (ag _ qq))
 have U:(fun i (h:Heap)=>h.IsListIter s.heap.objs.size p i/\h.IsList p its.toArray) 0 ((s.heap.push {cls:=.type "list_iterator",data:=.fields #[.ref p,.int 0 0]}).push {cls:=.type "list",data:=.seq #[]}):=
  ⟨⟨_,ag _ (aW _ rfl),rfl,rfl⟩,(R.push _).push _⟩
 have sq:((s.heap.push {cls:=.type "list_iterator",data:=.fields #[.ref p,.int 0 0]}).push {cls:=.type "list",data:=.seq #[]}).get? (s.heap.push {cls:=.type "list_iterator",data:=.fields #[.ref p,.int 0 0]}).objs.size=some {cls:=.type "list",dict:=none,data:=.seq #[] 0,slots:=#[]}:=aW _ rfl;have N:(s.heap.push {cls:=.type "list_iterator",data:=.fields #[.ref p,.int 0 0]}).objs.size∉[s.heap.objs.size,p]:=by
  rw[K];intro z;rcases aV.mp z with z|z
  ·exact absurd z (gU _)
  ·have z:=aK.mp z;rw [<- z] at P;exact cP _ (aZ P)
 refine aM ⟨cO cU _,?_⟩;refine cW fT ?_;rw[cn cU _];show wpAny _ X.A.in1 (seqItems? (.ref _)>>=_) _ _ _;refine ae (bY sq rfl ?_);show wpAny _ X.A.in1 (tryCatch (pyNext (.ref s.heap.objs.size)) _>>=_) _ _ _;cases S:ns with
 |nil=>
  have f:its.toArray.size=0:=by rw[M,S];rfl
  refine ae (cQ (W.done _ _ _ (by rw[f];exact U) fun h' tk O=>?_));refine ae (fj (aM ?_));exact⟨.int d,H,i' h' tk fun b o h1 _ D=>O b o h1 D,⟨td,rfl⟩,q d (fun _=>rfl) (fun z=>absurd S z) (by rw[S];intro x G;cases G)⟩
 | cons n0 rest=>
  have hpos:0<its.toArray.size:=by rw[M,S];simp
  refine ae (cQ (W.item 0 _ _ _ hpos U fun v h' tk J L O=>?_));obtain⟨t',rfl⟩:=a 0 v J;have y:=O _ _ (fun z=>N (aV.mpr (.inl (aK.mp z)))) sq;show wpAny _ X.A.in1 (updateSeq _ (fun _=>#[_,_])>>=_) _ _ _;refine ae ?_;refine eI y rfl ?_;rw[uH];refine aM ⟨cO cU _,JZ W (fun i=>ns[i]?.getD 0) a _ _ N _ 1 _ _ t' _ rfl hpos (W.frame _ _ _ L fun b F o e=>?_) ⟨⟨0,Nat.one_pos,rfl⟩,fun i hi=>by
   have:i=0:=by lia
   subst this;exact cg _⟩ (cY _ y rfl) fun m u n C E Z=>?_⟩
  ·exact(bJ _ _ (fun z=>N (by rw[z];exact F))).trans e
  ·refine⟨.int m,H,i' n C fun b o h1 h2 D=>Z b o h1 h2 ((bJ _ _ (c7 h2)).trans (O b o h1 D)),⟨u,rfl⟩,q m (fun z=>by rw[S]at z;cases z) (fun _=>?_) fun x G=>?_⟩
   ·obtain⟨i,hi,e1⟩:=E.1;rw[M]at hi;rw[e1];show ns[i]?.getD 0∈ns;rw[gE hi];exact cN hi
   ·obtain⟨i,hi,e1⟩:=bx.mp G;have:ns[i]?.getD 0<=m:=E.2 i (by rw[M];exact hi);rw[gE hi]at this;rw [<- e1];exact this
noncomputable def zd(r:List V->List V->Hp->VK->Prop)(t tk:TA):TE:=fun σ H Q=>t σ H fun vs H1=>tk σ H1 fun zs H2=>r vs zs H2 Q
theorem IW{x k:Str}{p O pos:Pos}{e g:Expr}{t tk:TA}{id:String}{r:List V->List V->Hp->VK->Prop}
  (a:∀(pins:L1) (s:Shared) (σ:St) (H:Hp) (xs zs:List V) (us l:List Value) (Q:VK),Inv X pins σ H s->Vals xs us->Vals zs l->r xs zs H Q->
   wpAny (model X.prog X.w) X.A (call (.builtin id) us ([k].zip l)) (EP X pins σ Q) X.xe s)
  (y:Gl X x) (K:X.mg x=none) (Y:bootBuiltins x=some (.builtin id)) (J:PA X [e] t) (F:PK X [⟨some k,g,O⟩] tk) (S:x≠"__name__":=by decide) (b:(x==("__debug__":Str))=false:=by decide)
  (R:backTo pos (starEach [e] X.env)=(false,eval e X.env)::backTo pos (starEach [] X.env):=by rfl) (v:(backTo pos (starEach [e] X.env)).any (·.1)=false:=by rfl):PE X (.Call (.Name x p) [e] [⟨some k,g,O⟩] pos) (zd r t tk):=by
 intro pins s σ H Q I h;refine eK (oK I y K Y ?_ S b);refine callWith_kw (iI (J pos pins s σ H _ I h) fun us s1 ⟨vs,H1,A,r1,N⟩=>iI (F pos pins s1 σ H1 _ A N) fun l s2 C=>?_) R v;obtain⟨zs,H2,E,P,G⟩:=C;exact a pins s2 σ H2 vs zs us l Q E r1 P G
end
section
variable{X:Cx}{pins:L1}{σ:St}{H:Hp}{s:Shared}
theorem uu(n:Nat){A:Around}(I:Inv X pins σ H s){ds es:List Dt}{vs p:List V}{its C:List Value}(h:j5 ds<=n)(F:A.units+n<cLine)(r1:Reps H ds vs)(P:Reps H es p)(m:Vals vs its)(r:Vals p C):
  ∀j (h1:j<its.toArray.size) (h2:j<C.toArray.size),SeqAt.EqAt A s its.toArray[j] C.toArray[j] (mv ds es j):=by
 intro j h1 h2;rw[aF]at h1 h2;have l1:=m.length;have l2:=r.length;obtain⟨Y,e1,N⟩:=m.get (i:=j) (x:=vs[j]'(by lia)) (gE _);obtain⟨a,e2,G⟩:=r.get (i:=j) (x:=p[j]'(by lia)) (gE _);obtain⟨d',M,g⟩:=r1.at (i:=j) (gE (by lia));obtain⟨T,Q,K⟩:=P.at (i:=j) (gE (by lia));rw[gE h1]at e1;rw[gE h2]at e2;cases e1;cases e2;have W:mv ds es j=jq d' T:=by unfold mv;rw[M,Q]
 rw[W];have:=uE M;exact zG n I (by lia) F g K N G
theorem Da{ds es:List Dt}{vs p:List V}{its C:List Value}(r1:Reps H ds vs)(P:Reps H es p)(m:Vals vs its)(r:Vals p C):
  ((List.range (min its.toArray.size C.toArray.size)).all (mv ds es)&&its.toArray.size==C.toArray.size)=lZ ds es:=by
 have l1:=m.length;have l2:=r.length;have U:=r1.len;have l:=P.len;rw[aF,aF];by_cases Z:ds.length=es.length
 ·rw [rb Z,<- l1,<- l2,U,l,Z,Nat.min_self];simp
 ·rw[qS Z];have:(its.length==C.length)=false:=by
   rw[cE];lia
  rw[this,fb]
noncomputable def zq(n:Bool):R2:=fun x y H Q=>∃d e,Rep H d x/\Rep H e y/\kX d<=20/\((∃ds es,d= .lst ds/\e= .lst es)\/∃ds es,d= .tup ds/\e= .tup es)/\Q (.bl (if n=true then !jq d e else jq d e)) H
theorem z6(g:X.A.units+64<cLine):OpR X (compareOp .Eq) (zq false):=by
 intro pins s σ H x y v u Q I rx B h;obtain⟨d,e,f,D,J,F,q⟩:=h;have o:X.A.units<cLine:=by lia
 rcases F with⟨ds,es,rfl,rfl⟩|⟨ds,es,rfl,rfl⟩
 ·have O:j5 ds<=20:=by rw[kX]at J;lia
  rw[Rep]at f D;obtain⟨a,vs,rfl,N,r1⟩:=f;obtain⟨b,p,rfl,G,P⟩:=D;cases rx;cases B;obtain⟨its,m,p1⟩:=I.lstE N;obtain⟨C,r,p2⟩:=I.lstE G;have l1:=m.length;have l2:=r.length;have U:=r1.len;have l:=P.len;by_cases Z:ds.length=es.length
  ·refine SeqAt.RcAt.lists (e:=mv ds es) p1 p2 (by rw[aF,aF];lia) o (uu 20 I O (by show X.A.units+1+20<cLine;lia) r1 P m r) _ _ _ _ ⟨.bl _,H,I,rfl,?_⟩;rw [aF,<- l1,U,<- rb Z];rw[jq]at q;exact q
  ·refine SeqAt.RcAt.lists_lengths p1 p2 (by rw[aF,aF];simp;lia) o _ _ _ _ ⟨.bl _,H,I,rfl,?_⟩;rw[jq,qS Z]at q;exact q
 ·have O:j5 ds<=20:=by rw[kX]at J;lia
  rw[Rep]at f D;obtain⟨a,vs,rfl,N,r1⟩:=f;obtain⟨b,p,rfl,G,P⟩:=D;cases rx;cases B;obtain⟨its,m,p1⟩:=I.tupE N;obtain⟨C,r,p2⟩:=I.tupE G;refine SeqAt.RcAt.tuples (e:=mv ds es) p1 p2 o (uu 20 I O (by show X.A.units+1+20<cLine;lia) r1 P m r) _ _ _ _ ⟨.bl _,H,I,rfl,?_⟩;rw[Da r1 P m r];rw[jq]at q;exact q
theorem wz(g:X.A.units+64<cLine):OpR X (compareOp .NotEq) (zq true):=by
 intro pins s σ H x y v u Q I rx B h;obtain⟨d,e,f,D,J,F,q⟩:=h;have o:X.A.units<cLine:=by lia
 rcases F with⟨ds,es,rfl,rfl⟩|⟨ds,es,rfl,rfl⟩
 ·have O:j5 ds<=20:=by rw[kX]at J;lia
  rw[Rep]at f D;obtain⟨a,vs,rfl,N,r1⟩:=f;obtain⟨b,p,rfl,G,P⟩:=D;cases rx;cases B;obtain⟨its,m,p1⟩:=I.lstE N;obtain⟨C,r,p2⟩:=I.lstE G;have l1:=m.length;have l2:=r.length;have U:=r1.len;have l:=P.len;by_cases Z:ds.length=es.length
  ·refine SeqAt.RcNeAt.lists (e:=mv ds es) p1 p2 (by rw[aF,aF];lia) o (uu 20 I O (by show X.A.units+1+20<cLine;lia) r1 P m r) _ _ _ _ ⟨.bl _,H,I,rfl,?_⟩;rw [aF,<- l1,U,<- rb Z];rw[jq]at q;exact q
  ·refine SeqAt.RcNeAt.lists_lengths p1 p2 (by rw[aF,aF];simp;lia) o _ _ _ _ ⟨.bl _,H,I,rfl,?_⟩;rw[jq,qS Z]at q;exact q
 ·have O:j5 ds<=20:=by rw[kX]at J;lia
  rw[Rep]at f D;obtain⟨a,vs,rfl,N,r1⟩:=f;obtain⟨b,p,rfl,G,P⟩:=D;cases rx;cases B;obtain⟨its,m,p1⟩:=I.tupE N;obtain⟨C,r,p2⟩:=I.tupE G;refine SeqAt.RcNeAt.tuples (e:=mv ds es) p1 p2 o (uu 20 I O (by show X.A.units+1+20<cLine;lia) r1 P m r) _ _ _ _ ⟨.bl _,H,I,rfl,?_⟩;rw[Da r1 P m r];rw[jq]at q;exact q
theorem RelV.inj'{x y:V}{u:Value}(h1:RelV x u)(h2:RelV y u):x=y:=aJ (h1.abs.symm.trans h2.abs)
open Classical in
noncomputable def qd(H:Hp)(d:Dt)(u:Value):Bool:=if h:∃c,∃x,RelV x u/\Rep H c x then jq h.choose d else false
theorem zJ{H:Hp}{d c:Dt}{x:V}{u:Value}(r:RelV x u)(p:Rep H c x):qd H d u=jq c d:=by
 unfold qd;have h:∃c,∃x,RelV x u/\Rep H c x:=⟨c,x,r,p⟩;rw[dif_pos h];obtain⟨y,P,p2⟩:=h.choose_spec;have:=RelV.inj' r P;subst this;rw[Rep.inj p2 p]
theorem AA{H:Hp}{d:Dt}:∀{cs:List Dt} {xs:List V} {us:List Value},Reps H cs xs->Vals xs us->us.any (qd H d)=cs.any fun c=>jq c d
 |[],_,_,h,r=>by
  rw[Reps]at h;subst h;cases r;rfl
 |c::cs,_,_,h,r=>by
  rw[Reps]at h;obtain⟨v,t,rfl,h1,h2⟩:=h;cases r with
  |cons r1 P=>rw[List.any_cons,List.any_cons,zJ r1 h1,AA h2 P]
noncomputable def EK(n:Bool):R2:=fun x y H Q=>∃(d:Dt) (p:Addr) (xs:List V) (cs:List Dt),Rep H d x/\y= .ref p/\H p=some (.lst xs)/\Reps H cs xs/\j5 cs<=20/\Q (.bl (if n=true then !cs.any (fun c=>jq c d)else cs.any fun c=>jq c d)) H
theorem Hb(F:X.A.units+64<cLine)(I:Inv X pins σ H s){d:Dt}{x:V}{v:Value}{cs:List Dt}{xs:List V}{its:List Value}(f:Rep H d x)(rx:RelV x v)(m:Reps H cs xs)(r:Vals xs its)(J:j5 cs<=20):
  ∀y,y∈its.toArray->SeqAt.EqAt X.A.in1 s y v (qd H d y):=by
 intro y O;have h:y∈its:=by simpa using O
 obtain⟨j,W,e⟩:=bx.mp h;have l1:=r.length;obtain⟨Y,e1,N⟩:=r.get (i:=j) (x:=xs[j]'(by lia)) (gE _);obtain⟨c,M,P⟩:=m.at (i:=j) (gE (by lia));rw[gE W]at e1;cases e1;rw [<- e,zJ N P];have:=uE M;exact zG 20 I (by lia) (by show X.A.units+1+20<cLine;lia) P f N rx
theorem Fq(F:X.A.units+64<cLine):OpR X (compareOp .In) (EK false):=by
 intro pins s σ H x y v u Q I rx B h;obtain⟨d,p,xs,cs,f,rfl,e,m,J,q⟩:=h;cases B;obtain⟨its,r,pl⟩:=I.lstE e;refine SeqAt.in_listAt (qd H d) pl (Hb F I f rx m r J) ⟨.bl _,H,I,rfl,?_⟩;rw[show its.toArray.any (qd H d)=its.any (qd H d) by simp,AA m r];exact q
end
section
variable{X:Cx}{o i e f value:Expr}{td ty tv tx:TE}{pos pos' apos cpos:Pos}{prog:Program}{w:World}{A:Around}{E:LZ}{es:List Expr}{H3:Hp}
noncomputable def Ac(td ty tv:TE):TS:=fun D σ H=>tv σ H fun v H1=>td σ H1 fun x H2=>ty σ H2 fun y H3=>match x,y with
 | .ref a,.int n=>match H3 a with
  |some (.dK kvs)=>kvs.length<sizeLine/\D.nx σ (upd H3 a (.dK (jr kvs (Sum.inl n:iw) v)))
  |_=>False
 |_,_=>False
theorem LH{x y:V}{R:List (iw×V)->Addr->Int->Prop}(h:match x,y with
 | .ref a,.int n=>match H3 a with
  |some (.dK kvs)=>R kvs a n
  |_=>False
 |_,_=>False):∃a n kvs,x= .ref a/\y= .int n/\H3 a=some (.dK kvs)/\R kvs a n:=by
 split at h
 ·split at h
  ·rename_i e;exact⟨_,_,_,rfl,rfl,e,h⟩
  ·exact h.elim
 ·exact h.elim
theorem F2{y:V}{a:Addr}{R:List (iw×V)->Int->Prop}(h:match y with
 | .int n=>match H3 a with
  |some (.dK kvs)=>R kvs n
  |_=>False
 |_=>False):∃n kvs,y= .int n/\H3 a=some (.dK kvs)/\R kvs n:=by
 split at h
 ·split at h
  ·rename_i e;exact⟨_,_,rfl,e,h⟩
  ·exact h.elim
 ·exact h.elim
theorem pN(F:X.A.units+1<cLine)(M:PE X o td)(hi:PE X i ty)(Y:PE X value tv)(hs:swapsWith value (some (.Subscript o i pos')) pos.line X.env=pure false:=by rfl):
  PS X (.Assign [.Subscript o i pos'] value pos) (Ac td ty tv):=by
 intro pins s σ H D I h;refine wpAny_Assign_Subscript (iI (Y pins s σ H _ I h) fun r s1 ⟨v,H1,A,m,N⟩=>iI (M pins s1 σ H1 _ A N) fun u s2 ⟨x,H2,E,rx,G⟩=>iI (hi pins s2 σ H2 _ E G) fun b W C=>?_) hs;obtain⟨y,H3,Z,B,j⟩:=C;obtain⟨a,n,kvs,rfl,rfl,T,S,c⟩:=LH (R:=fun kvs a n=>kvs.length<sizeLine/\D.nx σ (upd H3 a (.dK (jr kvs (Sum.inl n:iw) v)))) j;obtain rfl:u=Value.ref a:=rx;exact Cp F Z (DPut.k (k:=Sum.inl n) T S) B m fun d O=>⟨σ,_,O,c⟩
noncomputable def zK(td ty tx:TE):TE:=fun σ H Q=>td σ H fun x H1=>match x with
 | .ref a=>(∃kvs,H1 a=some (.dK kvs))/\ty σ H1 fun y H2=>tx σ H2 fun z H3=>match y with
  | .int n=>match H3 a with
   |some (.dK kvs)=>Q ((iX kvs (Sum.inl n:iw)).getD z) H3
   |_=>False
  |_=>False
 |_=>False
theorem pT(F:X.A.units+1<cLine)(M:PE X o td)(T:PE X e ty)(w:PE X f tx)(m:M2 X o "get" apos e f cpos:=by exact⟨rfl,rfl,rfl,rfl⟩):PE X (.Call (.Attribute o "get" apos) [e,f] [] cpos) (zK td ty tx):=by
  intro pins s σ H Q I h;refine wpAny_Call_method m.base m.few m.line PySem.F.plainAttrs_dict dj PySem.F.type_dict_get (iI (M pins s σ H _ I h) fun u s1 C=>?_);obtain⟨x,H1,A,rx,N⟩:=C;cases x<;>first
    |exact False.elim N
    | (rename_i a
       try dsimp only at N
       obtain⟨⟨g,c⟩,N⟩:=N;obtain rfl:u=Value.ref a:=rx;obtain⟨D,r,_⟩:=zP A (.inl ⟨g,.inl c⟩);refine⟨D,r,?_⟩;rw[m.trees];refine fW rfl (gu (fE (iI (T pins s1 σ H1 _ A N) fun b s2 ⟨y,H2,E,B,G⟩=>
         fE (iI (w pins s2 σ H2 _ E G) fun v W ⟨z,H3,Z,i,j⟩=>gS ?_))))
       obtain⟨n,kvs,rfl,q,S⟩:=F2 (R:=fun kvs n=>Q ((iX kvs (Sum.inl n:iw)).getD z) H3) j;exact LD F Z (DGet.k (k:=Sum.inl n) q) B i fun t d O P=>⟨_,H3,O,P,S⟩)
noncomputable def yN:R2:=fun x y H Q=>match x,y with
 | .ref l,.ref b=>match H l,H b with
  |some (.lst xs),some (.lst zs)=>xs.length+zs.length<=sizeLine/\∀p,H p=none->Q (.ref p) (upd H p (.lst (xs++zs)))
  |_,_=>False
 |_,_=>False
theorem rJ:OpR X (binaryOp .Add) yN:=Fv.imp fun x y H Q h=>by
 unfold yN at h;split at h
 ·split at h
  ·rename_i e1 e2;exact⟨_,_,_,_,rfl,rfl,e1,e2,h.1,h.2⟩
  ·exact h.elim
 ·exact h.elim
noncomputable def Lw:V->List V->Hp->VK->Prop:=fun x vs H Q=>match x,vs with
 | .ref l,[]=>match H l with
  |some (.lst _)=>Q .non (upd H l (.lst []))
  |_=>False
 |_,_=>False
noncomputable def Ly(r:V->List V->Hp->VK->Prop)(to:TE):TE:=fun σ H Q=>to σ H fun x H1=>(∃a xs,x= .ref a/\H1 a=some (.lst xs))/\r x [] H1 Q
noncomputable def yD:V->Option Int->Option Int->Hp->VK->Prop:=fun x lo hi H Q=>match x with
 | .ref a=>match H a with
  |some (.tup xs)=>¬(HT.i7 xs.length 0 lo=0/\HT.i7 xs.length xs.length hi=xs.length)/\∀p,H p=none->Q (.ref p) (upd H p (.tup (lQ xs lo hi)))
  |_=>False
 |_=>False
theorem pH:SlR X yD:=Ej.imp fun x l u H Q h=>by
 unfold yD at h;split at h
 ·split at h
  ·rename_i xs e;exact⟨_,xs,rfl,SqT.of e,h.1,h.2⟩
  ·exact h.elim
 ·exact h.elim
noncomputable def Lv:List V->Hp->VK->Prop:=fun vs H Q=>match vs with
 |[.bl k]=>Q (.int (if k=true then 1 else 0)) H
 |[.int i]=>Q (.int i) H
 |_=>False
theorem DQ{N l:Addr}{items:Array Value}(d:l≠N):∀(n i:Nat) (s:Shared) (Q:List Value->Shared->Prop),s.heap.IsListIter N l i->s.heap.IsList l items->i+n<=items.size->
  (∀h',h'.IsListIter N l (i+n)->Heap.SameBut N s.heap h'->Q ((items.toList.drop i).take n) {s with heap:=h'})->wpAny (model prog w) A (draw (.ref N) n) Q E s
 |0,i,s,Q,D,_,_,p=>aM (by simpa using p s.heap D (Heap.SameBut.refl ..))
 |n+1,i,s,Q,D,Z,m,p=>by
  have B:i<items.size:=by lia
  show wpAny _ _ (pyNext (.ref N)>>=_) Q E s;refine ae (eQ D Z (x:=items[i]) (by simp[B]) fun h1 h a=>?_);refine ae (bQ (DQ d n (i+1) _ _ h (Z.extBut a.extBut d) (by lia) fun h2 b T=>aM ?_));have z:=p h2 (by rw[show i+(n+1)=i+1+n by lia];exact b) (a.trans T);have J:items.toList.drop i=items[i]::items.toList.drop (i+1):=by simp[dX,B]
  rw[J,List.take_succ_cons]at z;exact z
theorem GN{s:Shared}{l:Addr}{items:Array Value}{Q:List Value->Shared->Prop}(C:A.handled=none)(Z:s.heap.IsList l items)
  (p:∀h',Heap.ExtBut s.heap.objs.size s.heap h'->Q items.toList {s with heap:=h'}):wpAny (model prog w) A (unpackItems (.ref l) items.size none) Q E s:=by
 have d:l≠s.heap.objs.size:=by obtain⟨o,M,_⟩:=Z;exact bu (aR M)
 unfold unpackItems;refine ae ?_;unfold notIterableAtAll;refine ae (wpAny_specialOf Z.typeIs slot_list_iter.lookup ?_);refine aM ?_;simp only[aL,if_false];refine ae (bQ (dk Z ?_));refine ae (bQ (DQ d items.size 0 _ _ ⟨_,aW _ rfl,rfl,rfl⟩ (Z.push _) (by lia) fun h1 h a=>?_));rw[show List.take items.size (List.drop 0 items.toList)=items.toList by rw[fD];exact cu (by simp)];rw[aG (by simp)];refine ae (bQ (fe C h ((Z.push _).extBut a.extBut d) (by simp) fun h2 c=>?_));simp only[Option.isSome_none,aL,if_false];exact aM (p h2 fun b o U e=>c b o U (a.extBut b o U (ag _ e)))
noncomputable def vM(n:Nat)(t:lS):TG:=fun v σ H Q=>match v with
 | .ref a=>match H a with
  |some (.lst xs)=>xs.length=n/\t xs σ H Q
  |_=>False
 |_=>False
theorem wG{k:Nat}{t:lS}{n:Nat}(Y:X.calm=true)(h:PGs X es t)(S:(assignEach es X.env).length=n:=by rfl)(J:(assignEach es X.env).findIdx? (·.1)=none:=by rfl):PG X (.Tuple es k pos) (vM n t):=by
 intro pins s σ H v u Q I r V;have c:∃a xs,v= .ref a/\H a=some (.lst xs)/\xs.length=n/\t xs σ H Q:=by
  unfold vM at V;split at V
  ·split at V
   ·rename_i e;exact⟨_,_,rfl,e,V.1,V.2⟩
   ·exact V.elim
  ·exact V.elim
 obtain⟨a,xs,rfl,e,Z,V⟩:=c;cases r;obtain⟨its,m,B⟩:=I.lstE e;rw[assign_Tuple];refine ae (fJ ?_);unfold unpack;have M:(assignEach es X.env).length = its.toArray.size:=by rw [S,<- Z,aF]; exact m.length
 rw[M,J];refine ae (bQ (GN (I.ok.hd Y) B fun h' G=>?_));have A:Inv X pins σ H {s with heap:=h'}:=I.kept (t':=s.toks) fun b o q=>G b o (bu (aR q)) q;exact h pins _ σ H xs _ Q A (by simpa using m) V
noncomputable def LS(h B:Heap)(x:Addr)(cl:Value)(dd:Option Addr)(g:Value):Prop:=
 ∃ox p T o ts,h.get? x=some ox/\ox.cls=cl/\ox.dict=dd/\ox.data= .fields p/\p[1]? =some (.ref T)/\B.get? T=none/\T≠x/\h.get? T=some o/\o.data= .fields ts/\ts[3]? =some g/\(dd≠none->p[2]? =some .none)
structure FlyD(B:Heap)(l:List Env)(x:Addr)(cl:Value)(dd:Option Addr)(fl:Value)(h:Heap):Prop where
 stays:B.StaysIn h
 new:B.get? x=none
 funs:h.FunFrames B l
 tr:LS h B x cl dd fl
theorem FlyD.there{B:Heap}{l:List Env}{x:Addr}{cl:Value}{dd:Option Addr}{g:Value}{h:Heap}(f:FlyD B l x cl dd g h):∃ox p,h.get? x=some ox/\ox.cls=cl/\ox.dict=dd/\ox.data= .fields p:=by
 obtain⟨ox,p,_,_,_,h1,h2,D,T,_⟩:=f.tr;exact⟨ox,p,h1,h2,D,T⟩
end
section
variable{M:Model}{A:Around}{E:LZ}{s:Shared}{B:Heap}{env:Env}{l:List Env}{L x:Addr}{cl:Value}{dd:Option Addr}{Q:Unit->Shared->Prop}
end
structure Df(X:Cx):Prop where
 stk:X.stack=X.env::X.outer
 fr:X.env.frame=some X.env.locals
 ex:X.ex=[]
 fn:∀x,X.fn x=true
structure Cov(X:Cx)(B:Heap)(H:Hp)(h:Heap):Prop where
 tr:∀b o,H b=some o->∃q,h.get? b=some q/\B.get? b=some q
 old:∀b o,X.s₀.heap.get? b=some o->b∉lP X.stack->∃q,h.get? b=some q/\B.get? b=some q
 pin:∀p∈X.pn,B.get? p.1=some p.2
 cel:∀x c,X.env.cells.lookup x=some c->∃q,h.get? c=some q/\B.get? c=some q
section
variable{X:Cx}{σ:St}{H:Hp}{s:Shared}{B h':Heap}
end
inductive Md(B:Heap)(l:List Env)(L x:Addr)(cl:Value)(dd:Option Addr)(h:Heap):Prop where
 |new {ox:Obj} {ws:Array Value}:h.get? x=some ox->ox.cls=cl->ox.dict=dd->ox.data= .fields ws->ws[1]? =some .none->(dd≠none->ws[2]? =some .none)->B.StaysIn h->B.get? x=none->h.FunFrames B l->Md B l L x cl dd h
 |fly:FlyD B l x cl dd .none h->Md B l L x cl dd h
 |held:FlyD B l x cl dd (rawInt L) h->Md B l L x cl dd h
theorem Md.stays{B:Heap}{l:List Env}{L x:Addr}{cl:Value}{dd:Option Addr}{h:Heap}(m:Md B l L x cl dd h):B.StaysIn h:=by
 cases m with
 |new _ _ _ _ _ _ s _ _=>exact s
 |fly f=>exact f.stays
 |held f=>exact f.stays
noncomputable def XT(X:Cx)(EX:St->XK):LZ:=fun e s'=>∃(x:Addr) (cl:Value) (dd:Option Addr) (σ:St) (H:Hp) (B:Heap),e= .ref x/\Inv X [] σ H s'/\H x=none/\X.s₀.heap.objs.size<=x/\Cov X B H s'.heap/\EX σ cl dd H/\Md B X.stack X.env.locals x cl dd s'.heap
noncomputable def Cx.tr(X:Cx)(pins:L1)(EX:St->XK):Cx:={X with pn:=X.pn++pins,xe:=XT {X with pn:=X.pn++pins} EX}
theorem Cx.Ok.pn{X:Cx}(k:X.Ok)(pn:L1)(E:LZ):({X with pn:=pn,xe:=E}:Cx).Ok:=
 ⟨k.mod,k.kind,k.glob,k.blt,k.above,k.inj,k.has,k.cab,k.hd,k.frames,k.stk,k.exf,k.bs,k.bsz,k.noex,k.exfs,k.funs,k.frf⟩
theorem Inv.tr{X:Cx}{pins:L1}{σ:St}{H:Hp}{s:Shared}(I:Inv X pins σ H s)(EX:St->XK):Inv (X.tr pins EX) [] σ H s:=
 ⟨I.ok.pn _ _,I.os,I.bare,I.base,I.loc,I.cell,I.free,I.freeC,fun p O=>I.pin p (by
  have:p∈(X.pn++pins)++[]:=O;simpa using this),I.hok,I.len⟩
theorem Df.tr{X:Cx}(d:Df X)(pins:L1)(EX:St->XK):Df (X.tr pins EX):=⟨d.stk,d.fr,d.ex,d.fn⟩
section
variable{X:Cx}{CX:l6}{k:Nat}{f:Addr}{fd:FuncData}{ps:List Str}{sp:Sp}{EX:St->XK}{x:Str}{p pos:Pos}{e:Expr}{es:List Expr}{t:TA}{ds:List Value}{dvs:List V}{P:Program}{w:World}{K:L3}{mg:L4}{base:Heap}
end
section
variable{prog:Program}{w:World}{A:Around}{E:LZ}{h:Heap}{g:Array GenState}{d:Drawn}{t:Nat}{os:OsState}
variable{nm q:Str}{C N:Addr}{bs bm bmB:List Value}{hdct:Bool}{sn:List Str}{sub:List Value}{ab:Bool}{col:Option Bool}{dd:Option Addr}{k0 k1 k2 k3 k5:Option Value}{B newId initId:String}
end
end L2
namespace L2
open PySem PySem.Spec PyProof.Rows Builtin Builtin.ObjectAttr
section
variable{prog P:Program}{w:World}{A:Around}{E:LZ}{h h':Heap}{g:Array GenState}{d:Drawn}{t t':Nat}{os:OsState}{C x t0 a dx:Addr}{bmB:List Value}{B newId initId:String}{s:Shared}{K:L3}{dz dd:Option Addr}{name:Str}{v:Value}{Q:Unit->Shared->Prop}{H:Hp}{fs:List (Str×V)}{X:Cx}{pins:L1}{σ:St}{φ:Heap->Prop}{o1 o2:HO}
noncomputable def jxh:Value->Bool
 | .ref _=>true
 |_=>false
theorem jxh.ex(h:jxh v=true):∃a,v= .ref a:=by
 cases v<;>first|exact⟨_,rfl⟩|cases h
end
section
variable{X:Cx}{o value e:Expr}{es:List Expr}{f x:Str}{p pos pos' apos cpos:Pos}{ta tv:TE}{t:TA}{C T fI:Addr}{bmB:List Value}{B newId initId:String}{EX:St->XK}{k:Nat}{fd:FuncData}{ps:List Str}{sp:Sp}
end
section
variable{X:Cx}{pins:L1}{σ:St}{H:Hp}{s:Shared}{x:Addr}{o:HO}
end
section
variable{X:Cx}{x n:Str}{np hpos pos:Pos}{body suite:List Stmt}{b0:Stmt}{C dx a:Addr}{mt:Value->Prop}{i:Nat}{tb:(St->XK)->TS}{th:TS}{fs:List (Str×V)}{H:Hp}{s:Shared}
end
end L2
namespace L2
open PySem PySem.Spec PyProof.Rows Builtin Builtin.ObjectAttr
structure XG(K:L3)(C:Addr):Prop where
 ga:PySem.W.findIn K (.ref C) "__getattribute__"=some (some (.builtin "BaseException.__getattribute__"))
 gt:PySem.W.findIn K (.ref C) "__getattr__"=some none
 sub:PySem.W.mroIn K C (.type "BaseException")=some true
section
variable{prog:Program}{w:World}{A:Around}{E:LZ}{s:Shared}{K:L3}{x C:Addr}{ox:Obj}{od:Option Obj}{name:Str}{v:Value}
end
structure XY(K:L3)(C:Addr):Prop where
 g:XG K C
 hd:PySem.W.hasDictIn K C=true
 ha:PySem.W.findIn K (.ref C) "__class__"=some (some (.builtin "object.__class__"))
 hn:PySem.W.specialIn K (.builtin "object.__class__") "__get__"=some (some (.builtin "getset_descriptor.__get__"))
 ht:PySem.W.takesIn K (.builtin "object.__class__")=some true
 hm:PySem.W.mroIn K C (.type "object")=some true
theorem XY.cls{K:L3}{C:Addr}(y:XY K C):∃c d cd sl,K.lookup C=some ⟨c,d,.cls cd,sl⟩:=by
 obtain⟨cd,Y,_⟩:=PySem.W.any_some y.hd;unfold PySem.W.clsIn at Y;split at Y
 ·rename_i M;exact⟨_,_,_,_,M⟩
 ·cases Y
section
variable{X:Cx}{C dx a:Addr}{fs:List (Str×V)}{H:Hp}{s:Shared}{P:Program}{w:World}{K:L3}{mg:L4}{base:Heap}
structure RoomH(k:Nat)(A:Around):Prop where
 dp:A.depth+3*k+5<recursionLimit
 un:A.units+16*k+200<cLine
theorem Room.h{j k:Nat}{A:Around}(r:Room k A)(h:j<=k):RoomH j A:=⟨(r.mono h).dp,(r.mono h).un⟩
theorem Room.hm{j k:Nat}{A:Around}{o:Option Value}(r:Room k A)(h:j<=k):RoomH j (A.mark o):=⟨(r.mono h).dp,(r.mono h).un⟩
theorem RoomH.mono{j k:Nat}{A:Around}(r:RoomH k A)(h:j<=k):RoomH j A:=⟨by have:=r.dp;lia,by have:=r.un;lia⟩
end
section
variable{X:Cx}{k:Nat}{f C a:Addr}{fd:FuncData}{ps:List Str}{sp:Sp}{x n:Str}{p pos np hpos:Pos}{e:Expr}{es:List Expr}{t:TA}{body suite:List Stmt}{b0:Stmt}{mt:Value->Prop}{tb:(St->XK)->TS}{th:TS}{prog:Program}{w:World}{A:Around}{E:LZ}{s:Shared}{bmB:List Value}{newId:String}
end
section
variable{prog:Program}{w:World}{A:Around}{E:LZ}{h:Heap}{g:Array GenState}{d:Drawn}{t:Nat}{os:OsState}
variable{C:Addr}{bmB:List Value}{B newId initId:String}
end
section
variable{X:Cx}{x y:Str}{np hpos pos p cpos rpos cp:Pos}{kk:Nat}{body:List Stmt}{C D':Addr}{mt:Value->Prop}{tb:(St->XK)->TS}{EX:St->XK}{e:Expr}{es:List Expr}{t:TA}{bmB:List Value}{B newId initId:String}
end
open PySem.Builtin.ObjectAttr
section
variable{X:Cx}{C a:Addr}{H:Hp}{s:Shared}{D:Ends}
noncomputable def DY(i j:Int):Prop:=0<j/\j<1000000000000000000
theorem GF:OpR X (binaryOp .FloorDiv) (fIC DY fun i j=>.int (i/j)):=by
 intro pins s σ H x y v u Q I rx B h;unfold fIC at h;split at h
 ·rename_i i j;obtain⟨⟨h1,h2⟩,q⟩:=h;obtain⟨t,rfl⟩:=rx;obtain⟨t',rfl⟩:=B;refine floordiv_int (by lia) ?_ (.inl (PyProof.noPylong_of_log2 ?_))
  ·rw[ip i (by lia)];exact⟨.int (i/j),H,I.tok _,⟨_,rfl⟩,q⟩
  ·by_cases A:j.natAbs=0
   ·rw[A];decide
   ·exact bG ((Nat.log2_lt A).mpr (show j.natAbs<2^60 by lia)) (by decide)
 ·exact h.elim
theorem iK{a b:TS}{σ:St}(h:∀R,R=b->oY a R D σ H):oY a b D σ H:=h b rfl
theorem yr{ι:Type}{F:TI}{g:TG}{tb:TS}{σ:St}(J:ι->It)(H1:ι->Hp)(k:ι->Prop)(h1:∀R:It->Hp->Prop,(∀i,k i->R (J i) (H1 i))->F σ H R)
  (h2:∀s,k s->∃W:Nat->Nat->St->Hp->Prop,(∃m,W 0 m σ (H1 s))/\∀i m σ H,W i m σ H->((J s).stop i H/\D.nx σ H)\/((J s).go i H/\∃N:St->Hp->Prop,(∀L H',N L H'->∃T,T<m/\W (i+1) T L H')/\∀x H',(J s).yld i H x H'->g x σ H' fun d H2=>tb {D with nx:=N,ct:=N,bk:=D.nx} d H2)):
  vB F g tb D σ H:=h1 _ h2
end
end L2
namespace So
open PySem PyProof.Rows
noncomputable def Fore(lo:Nat)(xs ys:Array Keyed):Prop:=∀i,i<lo->ys[i]? =xs[i]?
theorem Fore.tr{lo:Nat}{xs ys zs:Array Keyed}(a:Fore lo xs ys)(b:Fore lo ys zs):Fore lo xs zs:=fun i h=>(b i h).trans (a i h)
structure Bs(κ:SortKind)(a₀:Array Keyed)(pd:L7)(st:SortSt):Prop where
 perm:(arrOf st).Perm a₀
 kind:kindOf st=κ
 ok:failedOf st=none
 pend:pendingOf st=pd
section
variable{prog:Program}{w:World}{A:Around}{E:LZ}{s:Shared}{R:Keyed->Int}{κ:SortKind}{a₀:Array Keyed}{pd:L7}
theorem Bs.size{st:SortSt}(b:Bs κ a₀ pd st):(arrOf st).size=a₀.size:=b.perm.size_eq
end
end So
namespace So
open PySem PyProof.Rows
section
variable{prog:Program}{w:World}{A:Around}{E:LZ}{s:Shared}{R:Keyed->Int}{κ:SortKind}{a₀:Array Keyed}{pd:L7}
end
end So
namespace So
open PySem PyProof.Rows
noncomputable def Le(R:Keyed->Int):Keyed->Keyed->Prop:=fun x y=>R x<=R y
noncomputable def MS(R:Keyed->Int)(o la lb tot:List Keyed):Prop:=(o++la).Pairwise (Le R)/\(o++lb).Pairwise (Le R)/\(o++(la++lb)).Perm tot
noncomputable def Fi(R:Keyed->Int)(l tot:List Keyed):Prop:=l.Pairwise (Le R)/\l.Perm tot
section
variable{R:Keyed->Int}{o la lb tot xs:List Keyed}
theorem MS.a(h:MS R o (xs++la) lb tot)(G:∀x∈xs,∀y∈lb,R x<=R y):MS R (o++xs) la lb tot:=by
 obtain⟨h1,h2,D⟩:=h;refine ⟨by rw [bp]; exact h1,?_,by rw [bp,<- bp xs]; exact D⟩;rw[bp,bZ];rw[bZ]at h1 h2;obtain⟨o1,o2,j⟩:=h1;obtain⟨p1,p2,v⟩:=h2;rw[bZ]at o2;refine⟨o1,bZ.mpr ⟨o2.1,p2,G⟩,fun x m y n=>?_⟩;rcases br.mp n with n|n
 ·exact j x m y (cC _ n)
 ·exact v x m y n
theorem MS.b(h:MS R o la (xs++lb) tot)(G:∀x∈xs,∀y∈la,R x<=R y):MS R (o++xs) la lb tot:=by
 have z:MS R o (xs++lb) la tot:=⟨h.2.1,h.1,(gm _ fh).trans h.2.2⟩;have q:=z.a G;exact⟨q.2.1,q.1,(gm _ fh).trans q.2.2⟩
end
section
variable{a b out a₀:Array Keyed}{R:Keyed->Int}{i k ia ib:Nat}{M:Model}{A:Around}{E:LZ}{s:Shared}{σ α:Type}{tot:List Keyed}{prog:Program}{w:World}{κ:SortKind}{pd:L7}
structure Lk(st st':SortSt):Prop where
 kind:kindOf st'=kindOf st
 arr:arrOf st'=arrOf st
 pend:pendingOf st'=pendingOf st
 ok:failedOf st'=failedOf st
end
end So
namespace So
open PySem PyProof.Rows
noncomputable def MH(R:Keyed->Int)(la lb o tot:List Keyed):Prop:=(la++o).Pairwise (Le R)/\(lb++o).Pairwise (Le R)/\(la++(lb++o)).Perm tot
section
variable{R:Keyed->Int}{o la lb tot xs:List Keyed}
theorem MH.a(h:MH R (la++xs) lb o tot)(G:∀x∈xs,∀y∈lb,R y<=R x):MH R la lb (xs++o) tot:=by
 obtain⟨h1,h2,D⟩:=h;refine ⟨by rw [<- bp]; exact h1,?_,?_⟩
 ·rw[bp,bZ]at h1;rw[bZ]at h2 ⊢;refine⟨h2.1,h1.2.1,fun y O x a=>?_⟩;rcases br.mp a with n|n
  ·exact G x n y O
  ·exact h2.2.2 y O x n
 ·refine List.Perm.trans ?_ D;rw[bp];refine gm _ ?_;rw [<- bp,<- bp];exact List.Perm.append_right _ fh
theorem MH.swap(h:MH R la lb o tot):MH R lb la o tot:=by
 refine⟨h.2.1,h.1,List.Perm.trans ?_ h.2.2⟩;rw [<- bp,<- bp];exact List.Perm.append_right _ fh
theorem MH.b(h:MH R la (lb++xs) o tot)(G:∀x∈xs,∀y∈la,R y<=R x):MH R la lb (xs++o) tot:=(h.swap.a G).swap
theorem MH.first(h:MH R la lb o tot)(G:∀y∈lb,∀x∈la,R y<=R x):Fi R (lb++la++o) tot:=by
 obtain⟨h1,h2,D⟩:=h.swap;refine⟨?_,by rw[bp];exact D⟩;rw[bp];rw[bZ]at h1 h2 ⊢;refine⟨h1.1,bZ.mpr h2,fun y O x a=>?_⟩;rcases br.mp a with n|n
 ·exact G y O x n
 ·exact h1.2.2 y O x n
end
section
variable{a b out a₀:Array Keyed}{R:Keyed->Int}{i k n na nb:Nat}{tot:List Keyed}{prog:Program}{w:World}{A:Around}{E:LZ}{s:Shared}{κ:SortKind}{pd:L7}
end
end So
namespace So
open PySem PyProof.Rows
section
variable{prog:Program}{w:World}{A:Around}{E:LZ}{s:Shared}{R:Keyed->Int}{κ:SortKind}{a₀:Array Keyed}{pd:L7}
end
end So
namespace So
open PySem PyProof.Rows
noncomputable def two(pd:L7):List (Nat×Nat):=pd.toList.map fun t=>(t.1,t.2.1)
section
variable{R:Keyed->Int}{xs ys a₀:Array Keyed}{prog:Program}{w:World}{A:Around}{E:LZ}{s:Shared}{κ:SortKind}{pd:L7}
end
end So
namespace So
open PySem PyProof.Rows
section
variable{prog:Program}{w:World}{A:Around}{E:LZ}{s:Shared}
noncomputable def PairAt(h:Heap)(v:Value)(x y:Int):Prop:=∃a o t u n,v= .ref a/\h.get? a=some o/\o.cls= .type "tuple"/\o.data= .seq #[.int x t,.int y u] n
end
end So
namespace L2
open PySem PySem.Spec PyProof.Rows
noncomputable def Ez:List V->Hp->VK->Prop:=fun vs H Q=>∃(p:Addr) (ns:List Int),vs=[.ref p]/\H p=some (.lst (ns.map V.int))/\Q (.int ns.sum) H
theorem rL{X:Cx}(Y:X.calm=true):jcq X (.builtin "sum") Ez:=by
 intro pins s σ H xs us Q I r h;obtain⟨p,ns,rfl,e,q⟩:=h;obtain⟨u,rfl,rx⟩:=pJ r;cases rx;obtain⟨its,r',pl,_⟩:=I.list (SqL.of e);have n:=pY r';obtain⟨zs,L⟩:=n.allInts.items;have S:=n.numsOf;have Z:=pl.isList;rw[L]at Z;refine sum_intListG (I.ok.hd Y) Z fun h' tk t' F=>?_;have e2:preSum (numAt zs) zs.size=ns.sum:=by
  rw [preSum_eq,cu (by simp),<- S,<- nums_intItems,<- L]
 rw[e2];exact⟨.int ns.sum,H,I.kept F,⟨t',rfl⟩,q⟩
noncomputable def sN(f:Bool->Bool):R2:=fun x y H Q=>match x,y with
 | .bl a,.bl b=>Q (.bl (f (a==b))) H
 |_,_=>False
theorem Lu{f:Bool->Bool}{x y:V}{H:Hp}{Q:VK}(h:sN f x y H Q):∃a b,x= .bl a/\y= .bl b/\Q (.bl (f (a==b))) H:=by
 unfold sN at h;split at h
 ·exact⟨_,_,rfl,rfl,h⟩
 ·exact h.elim
theorem ET{X:Cx}:OpR X (compareOp .IsNot) (sN not):=by
 intro pins s σ H x y v u Q I rx B h;obtain⟨a,b,rfl,rfl,q⟩:=Lu h;cases rx;cases B;exact isnot_bool (jU I q rfl)
end L2
namespace So
open PySem PyProof.Rows
section
variable{prog:Program}{w:World}{A:Around}{E:LZ}{s:Shared}
section
variable{prog:Program}{w:World}{A:Around}{E:LZ}{s:Shared}{R:Keyed->Int}{κ:SortKind}{a₀:Array Keyed}{pd:L7}
end
end
end So
namespace L2
open PySem PySem.Spec PyProof.Rows
noncomputable def nP(C:Addr)(o:Option HO)(f:Str):Option V:=match o with
 |some (.ins b _ fs)=>if b=C then fs.lookup f else none
 |_=>none
noncomputable def mH(C:Addr)(o:Option HO)(m:Str):Bool:=match o with
 |some (.ins b _ fs)=>decide (b=C)&&(fs.lookup m).isNone
 |_=>false
noncomputable def DL(C:Addr)(f:Str)(ta:TE):TE:=fun σ H Q=>ta σ H fun x H1=>match x with
 | .ref a=>match nP C (H1 a) f with
  |some v=>Q v H1
  |none=>False
 |_=>False
noncomputable def zk(C:Addr)(f:Str)(ta tv:TE):TS:=fun D σ H=>tv σ H fun y H1=>ta σ H1 fun x H2=>match x with
 | .ref a=>match H2 a with
  |some (.ins b dx fs)=>b=C/\fs.length<1000/\D.nx σ (upd H2 a (.ins C dx (jw f y fs)))
  |_=>False
 |_=>False
noncomputable def tQ(C:Addr)(m:Str)(sp:Sp)(dvs:List V)(E:XK)(ta:TE)(t:TA):TE:=fun σ H Q=>ta σ H fun x H1=>match x with
 | .ref a=>mH C (H1 a) m=true/\t σ H1 fun vs H2=>sp (.ref a::(vs++dvs)) H2 Q E
 |_=>False
section
variable{X:Cx}{C p:Addr}{dvs:List V}{i k:Nat}{pos apos:Pos}{ds:List Value}{m f:Str}{o:Option HO}{fd:FuncData}{ps:List Str}{pl:Sem Bool}{sp:Sp}{e ex a:Expr}{E:XK}{ta te:TE}{CX:l6}{t:TA}
theorem G7{v:V}(h:nP C o f=some v):∃dx fs,o=some (.ins C dx fs)/\fs.lookup f=some v:=by
 unfold nP at h;split at h
 ·split at h
  ·rename_i c;subst c;exact⟨_,_,rfl,h⟩
  ·cases h
 ·cases h
theorem Hq(h:mH C o m=true):∃dx fs,o=some (.ins C dx fs)/\fs.lookup m=none:=by
 unfold mH at h;split at h
 ·rw[aQ]at h;have c:=aO h.1;subst c;exact⟨_,_,rfl,Option.isNone_iff_eq_none.mp h.2⟩
 ·cases h
theorem mM(c:Cls X.K C)(n:jfb X.K C f)(R:PE X e ta)(U:attributeBase e f X.env (eval e X.env)=eval e X.env):PE X (.Attribute e f pos) (DL C f ta):=by
 intro pins s σ H Q I h;refine FV U (iI (R pins s σ H _ I h) fun u s1 j=>?_);obtain⟨x,H1,A,rx,q⟩:=j
 try dsimp only at q
 split at q
 ·rename_i a;split at q
  ·rename_i v Y;obtain⟨dx,fs,T,l⟩:=G7 Y;obtain rfl:u=Value.ref a:=rx;exact Ju A T c n l fun P s2 E D=>⟨v,H1,E,D,q⟩
  ·exact q.elim
 ·exact q.elim
theorem xg{o value:Expr}{pos':Pos}{tv:TE}(c:Cls X.K C)(n:jfb X.K C f)(J:PE X o ta)(Y:PE X value tv)(hs:swapsWith value (some (.Attribute o f pos')) pos.line X.env=pure false):PS X (.Assign [.Attribute o f pos'] value pos) (zk C f ta tv):=by
 intro pins s σ H D I h;refine plainObj_wpAny_Assign_Attribute (iI (Y pins s σ H _ I h) fun u s1 ⟨y,H1,A,B,q⟩=>iI (J pins s1 σ H1 _ A q) fun z s2 j=>?_) hs;obtain⟨x,H2,E,rx,G⟩:=j
 try dsimp only at G
 split at G
 ·rename_i a;split at G
  ·rename_i b dx fs T;obtain⟨rfl,l,G⟩:=G;obtain rfl:z=Value.ref a:=rx;exact JP E T c n l B fun W Z=>⟨σ,_,Z,G⟩
  ·exact G.elim
 ·exact G.elim
theorem BI(h:PE X ex (wd C m sp dvs E ta t))(o:∀pins s σ H Q f,Inv X pins σ H s->(∀x H1,Q x H1->f x H1)->ta σ H Q->ta σ H f):PE X ex (tQ C m sp dvs E ta t):=by
 intro pins s σ H Q I q;refine h pins s σ H Q I (o pins s σ H _ _ I (fun x H1 q=>?_) q);split at q
 ·rename_i a;obtain⟨dx,fs,e,l⟩:=Hq q.1;exact⟨a,dx,fs,rfl,e,l,q.2⟩
 ·exact q.elim
theorem xD:∀(pins:L1) s σ H Q f,Inv X pins σ H s->(∀x H1,Q x H1->f x H1)->jK i σ H Q->jK i σ H f:=by
 intro pins s σ H Q f _ h q;unfold jK at q ⊢;split
 ·rename_i v e;rw[e]at q;exact h _ _ q
 ·rename_i d;split at q
  ·rename_i v e;exact absurd e (d v)
  ·exact q
theorem n8{f:Addr}{o:Expr}{es:List Expr}
  (R:PE X o (jK i)) (c:Cls X.K C) (K:Meth X.K C m f) (F:FnOk X.prog X.w X.K X.mg X.base CX k f fd ps sp) (M:Room k X.A) (U:jge X.K fd ps ds) (J:Vals dvs ds) (G:nW CX X E) (g:PA X (e::es) t)
  (d:starEach (e::es) X.env=(false,eval e X.env)::starEach es X.env:=by rfl) (v:(backTo pos (starEach es X.env)).any (·.1)=false:=by rfl)
  (S:eval (.Call (.Attribute o m apos) (e :: es) [] pos) X.env = (do
   let z <- eval o X.env
   standAt apos.atName
   let (f,first) <- holding [z] (getMethod z m pl)
   callWith pos f first (backTo pos (starEach (e::es) X.env)) (backToKw pos (keywordEach [] X.env))):=by rfl):
  PE X (.Call (.Attribute o m apos) (e::es) [] pos) (tQ C m sp dvs E (jK i) t):=
 BI (Gy (pl:=pl) R c K F M U J G g d v S) xD
theorem IX{f:Addr}{o:Expr}
  (R:PE X o (jK i)) (c:Cls X.K C) (K:Meth X.K C m f) (F:FnOk X.prog X.w X.K X.mg X.base CX k f fd ps sp) (M:Room k X.A) (U:jge X.K fd ps ds) (J:Vals dvs ds) (G:nW CX X E)
  (S:eval (.Call (.Attribute o m apos) [] [] pos) X.env = (do
   let z <- eval o X.env
   standAt apos.atName
   let (f,first) <- holding [z] (getMethod z m pl)
   callWith pos f first (backTo pos (starEach [] X.env)) (backToKw pos (keywordEach [] X.env))):=by rfl):
  PE X (.Call (.Attribute o m apos) [] [] pos) (tQ C m sp dvs E (jK i) lH):=
 BI (HH (pl:=pl) R c K F M U J G S) xD
noncomputable def wo(td ty:TE):TE:=fun σ H Q=>td σ H fun x H1=>match x with
 | .ref a=>(∃kvs,H1 a=some (.dK kvs))/\ty σ H1 fun y H2=>match y with
  | .int n=>match H2 a with
   |some (.dK kvs)=>Q ((iX kvs (Sum.inl n:iw)).getD .non) H2
   |_=>False
  |_=>False
 |_=>False
theorem GD{o:Expr}{cpos:Pos}{td ty:TE}(F:X.A.units+1<cLine)(M:PE X o td)(R:PE X e ty)(m:M1 X o "get" apos e cpos:=by exact⟨rfl,rfl,rfl,rfl⟩):PE X (.Call (.Attribute o "get" apos) [e] [] cpos) (wo td ty):=by
 intro pins s σ H Q I h;refine wpAny_Call_method m.base m.few m.line PySem.F.plainAttrs_dict dj PySem.F.type_dict_get (iI (M pins s σ H _ I h) fun u s1 C=>?_);obtain⟨x,H1,A,rx,N⟩:=C
 try dsimp only at N
 split at N
 ·rename_i a;obtain⟨⟨g,c⟩,N⟩:=N;obtain rfl:u=Value.ref a:=rx;obtain⟨D,r,_⟩:=zP A (.inl ⟨g,.inl c⟩);refine⟨D,r,?_⟩;rw[m.trees];refine fW rfl (gu (fE (iI (R pins s1 σ H1 _ A N) fun b s2 ⟨y,H2,E,B,G⟩=>gS ?_)));dsimp only at G;split at G
  ·rename_i n;split at G
   ·rename_i kvs T;exact LF F E (DGet.k (k:=Sum.inl n) T) B fun t W Z P=>⟨_,H2,Z,P,G⟩
   ·exact G.elim
  ·exact G.elim
 ·exact N.elim
noncomputable def wt(i:Nat):TE:=fun σ H Q=>match σ[i]? with
 |some (some (.int n))=>∀p,H p=none->Q (.ref p) (upd H p (.dK [(Sum.inl n,.non)]))
 |_=>False
theorem GO{H:Hp}{a b:HO}:upd (upd H p a) p b=upd H p b:=by
 funext x;by_cases c:x=p
 ·rw[c,ir,ir]
 ·rw[iC c,iC c,iC c]
theorem Hy{k v:Expr}(F:PE X k (jK i))(Y:PE X v (tC .non)):PE X (.Dict [some k] [v] pos) (wt i):=by
 intro pins s σ H Q I q;refine Gw (HM F Y GB) rfl rfl (fun z=>nomatch z) (dO rfl) pins s σ H Q I ?_;intro p O;unfold wt at q;split at q
 ·rename_i n e;show jK i σ (upd H p (.dK [])) _;unfold jK;rw[e];show tC V.non σ _ _;refine⟨ir,[(Sum.inl n,.non)],rfl,dO rfl,?_⟩;rw[GO];exact q p O
 ·exact q.elim
noncomputable def vQ:V->V->Hp->VK->Prop:=fun o i H Q=>match o,i with
 | .ref p,.int k=>match H p with
  |some (.lst xs)=>0<=k/\match jh xs k with
   |some v=>Q v H
   |none=>False
  |_=>False
 |_,_=>False
theorem Cr:DU X vQ:=by
 intro pins s σ H o i z b Q I c d h;unfold vQ at h;split at h
 ·rename_i p k;split at h
  ·rename_i xs O;obtain⟨k0,h⟩:=h;split at h
   ·rename_i v Y;cases c;obtain⟨t,rfl⟩:=d;obtain⟨its,r,pl,L⟩:=I.list (SqL.of O);obtain⟨j,h1,h2,D,T,K⟩:=wU Y;obtain⟨w,g,P⟩:=r.get h2;have S:=qH;have W:k.toNat=j:=by
     rw[g6 k0 K]at h1;exact aJ h1
    exact wpAny_getItem_list pl.isList k0 (by lia) (by rw[W];simpa using g) ⟨v,H,I,P,h⟩
   ·exact h.elim
  ·exact h.elim
 ·exact h.elim
noncomputable def vO:nG:=fun x y H Q=>match x,y with
 | .int i,.int j=>Q (.int (i-j)) H
 |_,_=>False
noncomputable def vN:nG:=fun x y H Q=>match x,y with
 | .int i,.int j=>Q (.int (i+j)) H
 |_,_=>False
theorem Gc:qh X .Sub vO:=by
 intro pins s σ H x y v u Q I r1 P h;unfold vO at h;split at h
 ·rename_i i j;obtain⟨t,rfl⟩:=(show ∃t,v=Value.int i t from r1);obtain⟨t',rfl⟩:=(show ∃t,u=Value.int j t from P);exact PyProof.Rows.isub_int ⟨.int (i-j),H,I.tok _,⟨_,rfl⟩,h⟩
 ·exact h.elim
theorem Ga:qh X .Add vN:=by
 intro pins s σ H x y v u Q I r1 P h;unfold vN at h;split at h
 ·rename_i i j;obtain⟨t,rfl⟩:=(show ∃t,v=Value.int i t from r1);obtain⟨t',rfl⟩:=(show ∃t,u=Value.int j t from P);exact PyProof.Rows.iadd_int ⟨.int (i+j),H,I.tok _,⟨_,rfl⟩,h⟩
 ·exact h.elim
noncomputable def yC:R2:=fun x y H Q=>match x,y with
 | .int i,.int j=>Q (.int (Builtin.bitXor i j)) H
 |_,_=>False
theorem zr:OpR X (binaryOp .BitXor) yC:=by
 intro pins s σ H x y v u Q I r1 P h;unfold yC at h;split at h
 ·rename_i i j;obtain⟨t,rfl⟩:=(show ∃t,v=Value.int i t from r1);obtain⟨t',rfl⟩:=(show ∃t,u=Value.int j t from P);exact PyProof.Rows.xor_int ⟨.int (Builtin.bitXor i j),H,I.tok _,⟨_,rfl⟩,h⟩
 ·exact h.elim
theorem GS(w:Nat):Builtin.bitXor (w:Int) 1=((if w%2=0 then w+1 else w-1:Nat):Int):=by
 have h1:(w|||1:Nat)=2*(w/2)+1:=by
  have a:=Nat.or_div_two (a:=w) (b:=1);have b:(w|||1)%2=1:=by rw[Nat.or_mod_two_eq_one];right;rfl
  rw[show 1/2=0 from rfl,Nat.or_zero]at a;lia
 have h2:(w&&& 1:Nat)=w%2:=Nat.and_one_is_mod w;have v:¬(0:Int)<= -(w:Int)-1:=by lia
 have e:Builtin.bitXor (w:Int) 1=((w|||1:Nat):Int)-((w&&& 1:Nat):Int):=by
  unfold Builtin.bitXor Builtin.bitOr Builtin.bitAnd Builtin.bitNot;simp only[aA v,show decide ((0:Int)<= -(1:Int)-1)=false from rfl,show decide ((0:Int)<=(w:Int))=true from ao (by lia),show decide ((0:Int)<=1)=true from rfl];simp only[show(-(-(w:Int)-1)-1).toNat=w by lia,show(-(-(1:Int)-1)-1).toNat=1 from rfl,show((w:Int)).toNat=w from rfl,show((1:Int)).toNat=1 from rfl];lia
 rw[e,h1,h2];split<;>lia
noncomputable def jy{α:Type}:Bool->List α->List α
 |_,[]=>[]
 |true,x::xs=>x::jy false xs
 |false,_::xs=>jy true xs
noncomputable def DO(b:Bool)(te:TE):TE:=fun σ H Q=>te σ H fun x H1=>match x with
 | .ref a=>match H1 a with
  |some (.lst xs)=>∀p,H1 p=none->Q (.ref p) (upd H1 p (.lst (jy b xs)))
  |_=>False
 |_=>False
theorem xU:∀(b:Bool) {vs:List V} {us:List Value},Vals vs us->Vals (jy b vs) (jy b us)
 |_,_,_,.nil=>by cases ‹Bool›<;>exact .nil
 |true,_,_,.cons r t=>.cons r (xU false t)
 |false,_,_,.cons _ t=>xU true t
theorem wR{α:Type}:∀(b:Bool) (xs:List α),(jy b xs).length<=xs.length
 |true,[]=>ay _
 |false,[]=>ay _
 |true,x::xs=>by have:=wR false xs;show(jy false xs).length+1<=xs.length+1;lia
 |false,x::xs=>by have:=wR true xs;show(jy true xs).length<=xs.length+1;lia
theorem pK{α:Type}:∀(b:Bool) (xs:List α) (i:Nat),(jy b xs)[i]? =xs[2*i+(if b then 0 else 1)]?
 |true,[],i=>by simp[jy]
 |false,[],i=>by simp[jy]
 |true,x::xs,0=>rfl
 |true,x::xs,i+1=>by
  show(jy false xs)[i]? =_;rw[pK false xs i,aI rfl,aG (by decide),show 2*(i+1)+0=(2*i+1)+1 by lia,List.getElem?_cons_succ]
 |false,x::xs,i=>by
  show(jy true xs)[i]? =_;rw[pK true xs i,aI rfl,aG (by decide),List.getElem?_cons_succ];rfl
theorem HK(its:List Value)(b:Bool)(U:b=false->0<its.length):slicePick its.toArray (some (if b then 0 else 1)) none (some 2)=(jy b its).toArray:=by
 unfold slicePick
 congr 1
 have h1:sliceBounds (some (if b then 0 else 1)) none (some 2) its.toArray.size=(((if b then 0 else 1:Nat):Int),(its.length:Int),2):=by
  cases b
  ·have:=U rfl;simp[sliceBounds];lia
  ·simp[sliceBounds];lia
 rw[h1];dsimp only;have h2:∀c:Nat,sliceRange ((c:Nat):Int) (its.length:Int) 2=(List.range ((its.length+1-c)/2)).map fun k=>c+2*k:=fun c=>by
  unfold sliceRange;dsimp only;rw[aI (by decide)];have e:(if(c:Int)<(its.length:Int)then((its.length:Int)-c+2-1)/2 else 0).toNat=(its.length+1-c)/2:=by
   split<;>lia
  rw[e];exact gw fun k _=>by lia
 rw[h2,List.filterMap_map];have D:∀(l:List Nat),(∀k∈l,(if b then 0 else 1)+2*k<its.length)->l.filterMap ((fun x=>its.toArray[x]?)∘fun k=>(if b then 0 else 1)+2*k)=l.map fun k=>its.getD ((if b then 0 else 1)+2*k) .none:=fun l=>by
  induction l with
  |nil=>intro _;rfl
  | cons k r E=>
   intro F;have h:=F k (.head _);rw[List.filterMap_cons];have e:((fun x=>its.toArray[x]?)∘fun k=>(if b then 0 else 1)+2*k) k=some (its.getD ((if b then 0 else 1)+2*k) .none):=by
    show its.toArray[(if b then 0 else 1)+2*k]? =_;rw[List.getElem?_toArray,bf,gE h];rfl
   rw[e];dsimp only;rw[ai,E fun j W=>F j (.tail _ W)]
 rw[D _ fun k F=>by have:=bL.mp F;cases b<;>simp only[if_true,if_false,aL]at this ⊢ <;>lia];apply gR;intro i;rw[pK,aU];by_cases c:2*i+(if b then 0 else 1)<its.length
 ·rw[gz (by cases b<;>simp only[if_true,if_false,aL]at c ⊢ <;>lia)];show some (its.getD _ .none)=_;rw[bf,Nat.add_comm,gE c];rfl
 ·rw[cf (by rw[cB];cases b<;>simp only[if_true,if_false,aL]at c ⊢ <;>lia),cf (by lia)];rfl
theorem wA{b:Bool}{c:Int}(Y:c=if b then 0 else 1){k2:Nat}{J f p2:Pos}(R:PE X e te):PE X (.Subscript e (.Slice (some (.Constant (.int c) k2 f)) none (some (.Constant (.int 2) k J)) p2) pos) (DO b te):=by
 intro pins s σ H Q I h;refine ig (iI (R pins s σ H _ I h) fun v s1 C=>?_);obtain⟨x,H1,A,r1,N⟩:=C;refine wpAny_Slice ?_;simp only[evalPart_none];rw[evalPart_some];refine iI ((iu (i:=c) (j:=k2) (pos:=f):PE X _ _) pins s1 σ H1 (fun y H2=>y= .int c/\H2=H1) A ⟨rfl,rfl⟩) fun st s2 C=>?_;obtain⟨y,H2,E,P,n,d⟩:=C;subst n d;obtain⟨D,rfl⟩:=P;refine aM ?_;rw[evalPart_some];refine iI ((iu (i:=2) (j:=k) (pos:=J):PE X _ _) pins s2 σ H2 (fun y H3=>y= .int 2/\H3=H2) E ⟨rfl,rfl⟩) fun st W C=>?_;obtain⟨y,H3,Z,B,n,d⟩:=C;subst n d;obtain⟨t,rfl⟩:=B;split at N
 ·rename_i a;split at N
  ·rename_i xs T;cases r1;have O:Inv X pins σ H3 {W with heap:=W.heap.push {cls:=.type "slice",data:=.fields #[.int c D,.none,.int 2 t]}}:=Z.kept (t':=W.toks) fun b l q=>ag _ q;obtain⟨its,r,S,L⟩:=O.list (SqL.of T);have g:=r.length;show wpAny (model X.prog X.w) X.A (subscriptTail e (.Slice (some (.Constant (.int c) k2 f)) none (some (.Constant (.int 2) k J)) p2) (.ref a) (.ref W.heap.objs.size)) (EP X pins σ Q) X.xe {W with heap:=W.heap.push {cls:=.type "slice",data:=.fields #[.int c D,.none,.int 2 t]}};refine tail_any (ops:=[.ref a,.ref W.heap.objs.size]) S.isList.typeIs gI.lookup ?_ (by with_unfolding_all rfl);refine wpAny_getItem_list_slice S.isList (Heap.IsSliceOf.new ..) (.int _ D) .none (.int 2 t) (by decide) ?_ (by rw[aF]<;>lia);by_cases U:b=false->0<its.length
   ·rw[show slicePick its.toArray (some c) none (some 2)=(jy b its).toArray from by rw[Y];exact HK _ _ U];refine⟨.ref _,_,O.laid (t':=W.toks) (o:=.lst (jy b xs)) (fun b l q=>ag _ q) (ay _) ?_,rfl,N _ (O.hok.fresh (ay _))⟩;exact⟨by have:=wR b xs;lia,_,0,xU b r,aW _ rfl⟩
   ·have hi:its=[]:=fG fun z=>U fun _=>List.length_pos_iff.mpr z;have G:xs=[]:=List.length_eq_zero_iff.mp (by rw[hi]at g;exact g);subst hi G;have e2:jy b ([]:List V)=[]:=by cases b<;>rfl
    rw[e2]at N;have e3:slicePick ([]:List Value).toArray (some c) none (some 2)=([]:List Value).toArray:=by rw[Y];cases b<;>rfl
    rw[e3];refine⟨.ref _,_,O.laid (t':=W.toks) (o:=.lst []) (fun b l q=>ag _ q) (ay _) ?_,rfl,N _ (O.hok.fresh (ay _))⟩;exact⟨bS _,_,0,.nil,aW _ rfl⟩
  ·exact N.elim
 ·exact N.elim
noncomputable def rF(ta:TE):TT:=fun σ H Q=>ta σ H fun x H1=>match x with
 | .ref a=>match H1 a with
  |some (.lst xs)=>Q (!xs.isEmpty) H1
  |_=>False
 |_=>False
theorem GC   (J:PE X a (jK i)) (R:∀ w,isTrue a X.env w = (do let v <- w; standAt a.pos; holding [v] (truthy v)):=by exact fun _=>rfl):PT X a (rF (jK i)):=by
 intro pins s σ H Q I h;refine HN J R pins s σ H Q I ?_;show jK i σ H _;have h:jK i σ H _:=h;refine xD pins s σ H _ _ I (fun x H1 q=>?_) h;split at q
 ·rename_i a;split at q
  ·rename_i xs e;exact⟨_,.inl ⟨xs,SqL.of e,rfl⟩,q⟩
  ·exact q.elim
 ·exact q.elim
end
end L2
namespace My
open PySem L2
theorem En:(0<=sizeLine)=True:=eq_true (by decide)
theorem Em:(1<=sizeLine)=True:=eq_true (by decide)
theorem nI:(2<=sizeLine)=True:=eq_true (by decide)
theorem El:(3<=sizeLine)=True:=eq_true (by decide)
theorem Ek:(4<=sizeLine)=True:=eq_true (by decide)
end My
local macro_rules | `(tactic| simp_arith [$args,*]) => do
 let l<-("L2.sN L2.oY L2.we L2.rN L2.yZ L2.Ed L2.vA L2.qt L2.mw L2.yO L2.mQ L2.yX L2.tC L2.jK L2.fI L2.fIC L2.DK L2.yL L2.yF L2.vj L2.rG L2.DN L2.Ls L2.DJ L2.fB L2.y4 L2.zf L2.y3 L2.wm L2.sM L2.rh L2.wY L2.yG L2.yH L2.sO L2.yE L2.yY L2.DI L2.Bn L2.qL L2.sP L2.vP L2.DG L2.tO L2.ub L2.tP L2.vM L2.zK L2.Ac L2.Av L2.yN L2.Lw L2.Ly L2.yD L2.Lv L2.zd L2.yM L2.DM L2.yK L2.ua L2.wq L2.yI L2.tW L2.qm L2.k8 L2.lH L2.tE L2.vz L2.y8 L2.tX L2.Kd.nm L2.start ai bO List.length_cons List.length_nil Nat.reduceAdd Nat.reduceSub List.replicate_succ List.replicate_zero List.getElem?_cons_zero List.getElem?_cons_succ List.set_cons_zero List.set_cons_succ aS List.nil_append List.cons_append eq_self true_and and_true if_true aL if_false bK cI id_eq My.En My.Em My.nI My.El My.Ek L2.wt L2.tQ L2.vQ L2.DL L2.zk L2.yC L2.vN L2.ze L2.vO L2.wo L2.DO L2.y6 L2.rF".splitOn " ").toArray.mapM fun s=>`(Lean.Parser.Tactic.simpLemma| $(Lean.mkIdent s.toName):ident)
 `(tactic| try simp only [$l,*,$args,*])
local macro_rules | `(tactic| walk_at "D") => `(tactic| simp_arith [L2.sN])
namespace My
open PySem L2
theorem qu{n:Nat}(h:n<=1000):n<=sizeLine:=bw h (by decide)
theorem iU{n:Nat}(h:n<=1000):n<sizeLine:=fu h (by decide)
noncomputable def top(i:Nat):Stmt:=PySem.Challenge.pw_touchall_k93_whole_fixed_in_every_set.main.body.getD i (.Pass ⟨0,0,0,0⟩)
structure DefAt(K:L3)(mg:L4)(x:Str)(st:Stmt)(ps:List Str)(f:Addr)(fd:FuncData):Prop where
 F:Fun K x x st f fd
 b:jge K fd ps []
 m:mg x=some (.ref f)
structure Blt(mg:L4):Prop where
 len:mg "len"=none
 isinstance:mg "isinstance"=none
 all:mg "all"=none
 min:mg "min"=none
 list:mg "list"=none
 dict:mg "dict"=none
 int:mg "int"=none
 bool:mg "bool"=none
 str:mg "str"=none
 tuple:mg "tuple"=none
 range:mg "range"=none
 enumerate:mg "enumerate"=none
 zip:mg "zip"=none
 max:mg "max"=none
 any:mg "any"=none
 sum:mg "sum"=none
 sorted:mg "sorted"=none
 set:mg "set"=none
section
open PySem.Spec PyProof.Rows
variable{X:Cx}{x:Str}{e:Expr}{es:List Expr}{te ta tb:TE}{t:TA}{pos pos' p spos:Pos}{j k:Nat}{N Q:List Str}{sco:Scope}
section
variable{ps:List Str}{mg:L4}{fd:FuncData}{st:Stmt}{K:L3}{sp:Sp}{scope:Scope}{f:Addr}{P:Program}{base:Heap}{w:World}{g:TG}
theorem Et(F:FnOk X.prog X.w X.K X.mg X.base iT k f fd ps sp)(D:DefAt X.K X.mg x st ps f fd)(M:Room j X.A)(J:PA X (e::es) t)(h:k<=j:=by decide)(y:Gl X x:=by exact rfl)(b:(x==("__debug__":Str))=false:=by decide)(R:starEach (e::es) X.env=(false,eval e X.env)::starEach es X.env:=by rfl)(v:(backTo pos (starEach es X.env)).any (·.1)=false:=by rfl):PE X (.Call (.Name x p) (e::es) [] pos) (tW sp [] E0 t):=
 Gv F (M.mono h) y D.m D.F.kp D.b .nil mK J b R v
noncomputable def Ok(P:Program)(w:World)(K:L3)(mg:L4)(base:Heap)(x:Str)(st:Stmt)(k:Nat)(ps:List Str)(sp:Sp):Prop:=∃f fd,DefAt K mg x st ps f fd/\FnOk P w K mg base iT k f fd ps sp
theorem i6{qual:Str}(F:Fun K x qual st f fd)(N:List Str)(len:∀vs H Q E,sp vs H Q E->vs.length=ps.length)
  (c:∀(a:Value) (A:Around) (d:List Env) (s:Shared) (H:Hp) (vs:List V) (Q:VK) (E:XK),N.Nodup->Room k (A.deeper (envOfC qual (lN st) s.heap.objs.size f a))->(A.deeper (envOfC qual (lN st) s.heap.objs.size f a)).units+1<cLine->(A.deeper (envOfC qual (lN st) s.heap.objs.size f a)).units<cLine->sp vs H Q E->
   ∃t,PSs (qe iT P w K mg base N qual (lN st) f a A d s H E).nox (nZ st) t/\t {nx:=fun _ H'=>Q .non H',rt:=Q} (start N vs) H)
  (S:FnScope N ps (lN st):=by exact⟨rfl,rfl,rfl,by decide+kernel,rfl,by decide+kernel,by decide+kernel⟩):FnOk P w K mg base iT (k+1) f fd ps sp:=
 F.ok S len fun a A d s H vs Q E M h=>c a A d s H vs Q E S.nd M (jX M) (aZ (jX M)) h
theorem kc{H H':Hp}{p:Addr}{o:HO}(O:H p=none)(g:upd H p o=H'):Same H H'/\H' p=some o:=by subst g;exact⟨iD O _,ir⟩
noncomputable def DZ(P:Program)(w:World)(b:Heap):Prop:=True
theorem jf(_:DZ P w base)(D:DefAt K mg x st ps f fd)(G:FnOk P w K mg base iT k f fd ps sp):Ok P w K mg base x st k ps sp:=⟨_,_,D,G⟩
theorem iN(F:Ok X.prog X.w X.K X.mg X.base x st k ps sp)(M:Room j X.A)(J:PA X (e::es) t)(h:k<=j:=by decide)(y:Gl X x:=by exact rfl)(b:(x==("__debug__":Str))=false:=by decide)(R:starEach (e::es) X.env=(false,eval e X.env)::starEach es X.env:=by rfl)(v:(backTo pos (starEach es X.env)).any (·.1)=false:=by rfl):PE X (.Call (.Name x p) (e::es) [] pos) (tW sp [] E0 t):=by
 obtain⟨f,fd,D,F⟩:=F;exact Et F D M J h y b R v
theorem kR(N:List Str)(src:L6){elt tg iter:Expr}{F:TI}(hi:PI X tg iter F)(y:∀{fp p k C},PG (X.block scope N fp p k C) tg g)(R:∀{fp p k C},PE (X.block scope N fp p k C) elt te)(Y:X.calm=true:=by exact rfl)(S:vm X.N X.env.scope.names scope N src=true:=by rfl)
  (hs:∀x,foldedSetIterable iter X.env x=pure x:=by intro _;rfl):PE X (.ListComp elt [⟨tg,iter,[],0⟩] scope pos) (qE src F g tX te):=
 mh (CpScope.of S) Y hi (fun _ _ _ _=>y) (fun _ _ _ _=>AW) (fun _ _ _ _=>R) hs
theorem rB(i:Nat)(S:X.N.Nodup)(N:List Str)(src:L6){elt tg iter:Expr}{F:TI}(n:PI X tg iter F)(y:∀{fp p k C},PG (X.block scope N fp p k C) tg g)(R:∀{fp p k C},PE (X.block scope N fp p k C) elt te)(hi:X.N[i]? =some x:=by exact rfl)(G:Loc X.env.scope x:=by first|exact .inl rfl|exact .inr rfl)(Y:X.calm=true:=by exact rfl)(C:vm X.N X.env.scope.names scope N src=true:=by rfl)
  (h:swapsWith (.ListComp elt [⟨tg,iter,[],0⟩] scope pos) (some (.Name x pos')) spos.line X.env=pure true:=by rfl) (hs:∀x,foldedSetIterable iter X.env x=pure x:=by intro _;rfl) (B:X.fn x=true\/X.env.scope.names.lookup x=some .local:=by first|exact .inl rfl|exact .inr rfl|assumption):
  PS X (.Assign [.Name x pos'] (.ListComp elt [⟨tg,iter,[],0⟩] scope pos) spos) (qt (qE src F g tX te) (mw i)):=
 oP S hi G (CpScope.of C) Y n (fun _ _ _ _=>y) (fun _ _ _ _=>AW) (fun _ _ _ _=>R) h hs B
theorem iM(i:Nat)(S:X.N.Nodup)(R:PE X e te)(hi:X.N[i]? =some x:=by exact rfl)(G:Loc X.env.scope x:=by first|exact .inl rfl|exact .inr rfl)(hs:swapsWith e (some (.Name x pos')) pos.line X.env=pure false:=by rfl)(B:X.fn x=true\/X.env.scope.names.lookup x=some .local:=by first|exact .inl rfl|exact .inr rfl|assumption):PS X (.Assign [.Name x pos'] e pos) (qt te (mw i)):=
 E6 S hi G R hs B
theorem jd(i:Nat)(S:X.N.Nodup)(hi:X.N[i]? =some x:=by exact rfl)(G:Loc X.env.scope x:=by first|exact .inl rfl|exact .inr rfl)(B:X.fn x=true\/X.env.scope.names.lookup x=some .local:=by first|exact .inl rfl|exact .inr rfl|assumption):PG X (.Name x pos) (mw i):=
 AV S hi G B
theorem iV(i:Nat)(hi:X.N[i]? =some x:=by exact rfl)(V:rQ X.N=true:=by exact rfl)(G:Loc X.env.scope x:=by first|exact .inl rfl|exact .inr rfl)(B:X.fn x=true\/X.env.scope.names.lookup x=some .local:=by first|exact .inl rfl|exact .inr rfl|assumption):PG X (.Name x pos) (mw i):=
 AV (yf V) hi G B
theorem iE{a b:Expr}(J:PE X a ta)(U:PE X b tb)(hs:Ay b:=by exact fun _ _=>rfl):PE X (.Subscript a b pos) (mQ sM ta tb):=zu E3 J U hs
theorem kZ(B:Blt X.mg)(J:PE X e te)(y:Gl X "len":=by exact rfl)(R:starEach [e] X.env=(false,eval e X.env)::starEach [] X.env:=by rfl)(W:starEach [e] X.env=(false,eval e X.env)::starEach [] X.env:=by rfl)(v:(backTo pos (starEach [] X.env)).any (·.1)=false:=by rfl):PE X (.Call (.Name "len" p) [e] [] pos) (qm rh (k8 te lH)):=
 jZ EY y B.len ij (jH J kF W) (by decide) (by decide) R v
theorem iJ(J:PE X e te)(hs:starEach [e] X.env=(false,eval e X.env)::starEach [] X.env:=by rfl):PA X [e] (k8 te lH):=jH J kF hs
theorem iG{T:Expr}(J:PE X e ta)(U:PE X T tb)(hs:starEach [e,T] X.env=(false,eval e X.env)::starEach [T] X.env:=by rfl)(W:starEach [T] X.env=(false,eval T X.env)::starEach [] X.env:=by rfl):PA X [e,T] (k8 ta (k8 tb lH)):=jH J (jH U kF W) hs
end
end
structure Cst(mg:L4)(t1 t2 t3 t4:Tok):Prop where
 MOST_PLACES:mg "MOST_PLACES"=some (.int 40 t1)
 MOST_TIES:mg "MOST_TIES"=some (.int 120 t2)
 LAST_PLACE:mg "LAST_PLACE"=some (.int 999 t3)
 MOST_PRICE:mg "MOST_PRICE"=some (.int 1000000000000 t4)
section
variable{P:Program}{w:World}{K:L3}{mg:L4}{base:Heap}{c1 c2 c3 c4:Tok}{α:Type}{o:HO}{s:Addr}{H:Hp}
theorem iW{x:α}{r:List α}:jh (x::r) 0=some x:=by
 have e:jh (x::r) ((0:Nat):Int)=some x:=me rfl;exact e
theorem jl{x y:α}{r:List α}:jh (x::y::r) 1=some y:=by
 have e:jh (x::y::r) ((1:Nat):Int)=some y:=me rfl;exact e
theorem oq{x y z:α}{r:List α}:jh (x::y::z::r) 2=some z:=by
 have e:jh (x::y::z::r) ((2:Nat):Int)=some z:=me rfl;exact e
noncomputable def nY:Kd->Bool
 | .int=>true
 |_=>false
noncomputable def r9:Sp:=fun vs H Q _=>∃x k,vs=[x]/\kd H x=some k/\Q (.bl (nY k)) H
noncomputable def u4:Sp:=fun vs H Q _=>∃a xs m,vs=[.ref a,.int m]/\H a=some (.tup xs)/\Q (.bl (decide ((xs.length:Int)=m))) H
noncomputable def vc:Sp:=fun vs H Q _=>∃a xs m,vs=[.ref a,.int m]/\H a=some (.lst xs)/\Q (.bl (decide ((xs.length:Int)<=m))) H
noncomputable def wM:Sp:=fun vs H Q _=>∃x p,vs=[x]/\Pr H x p/\Q (.bl true) H
noncomputable def DA:Sp:=fun vs H Q _=>∃x p l s,vs=[x,.int l,.int s]/\Pr H x p/\(l<p.1/\p.1<=999/\1<=p.2/\p.2<=1000000000000-s)/\Q (.bl true) H
noncomputable def je(kvs:List (iw×V))(n:Int):Bool:=(iX kvs (Sum.inl n:iw)).isSome
noncomputable def Dn:Sp:=fun vs H Q _=>∃x p y q d kvs,vs=[x,y,.ref d]/\Pr H x p/\Pr H y q/\H d=some (.dK kvs)/\(HT.lexLt [q.1,q.2] [p.1,p.2]=true/\p.1<p.2/\je kvs p.1=true/\je kvs p.2=true)/\Q (.bl true) H
theorem J7(B:Blt mg)(D:DefAt K mg "is_whole" (top 7) ["thing"] f fd):FnOk P w K mg base iT 1 f fd ["thing"] r9:=by
 refine i6 D.F ["thing"] (by rintro _ _ _ _ ⟨x,k,rfl,_⟩;rfl) ?_;rintro _ A _ s H vs Q E X M _ _ ⟨x,k,rfl,l,h⟩;refine⟨_,(iF (iS (lL (jZ (nU .int) rfl B.isinstance bN (iG (qv 0) (n5 (v:=.ty "int") rfl B.int PyProof.Rows.boot_int rfl))) (mS (EU (jZ (nU .bl) rfl B.isinstance bN (iG (qv 0) (n5 (v:=.ty "bool") rfl B.bool PyProof.Rows.boot_bool rfl)))))))),?_⟩;simp_arith[l];cases k<;>simpa only[lO,nY,if_true,if_false,aL,bK,cI]using h
theorem KO(B:Blt mg)(D:DefAt K mg "is_tuple_of" (top 8) ["thing","many"] f fd):FnOk P w K mg base iT 1 f fd ["thing","many"] u4:=by
 refine i6 D.F ["thing","many"] (by rintro _ _ _ _ ⟨a,xs,m,rfl,_⟩;rfl) ?_;rintro _ A _ s H vs Q E X M _ _ ⟨a,xs,m,rfl,T,h⟩;refine⟨_,(iF (iS (lL (jZ (nU .tup) rfl B.isinstance bN (iG (qv 0) (n5 (v:=.ty "tuple") rfl B.tuple fN rfl))) (mS (mf ly (kZ B (qv 0)) (qv 1) (ja _)))))),?_⟩;simp_arith[kd,T,iH,lO];exact h
theorem K7(B:Blt mg)(D:DefAt K mg "is_list_up_to" (top 10) ["thing","most"] f fd):FnOk P w K mg base iT 1 f fd ["thing","most"] vc:=by
 refine i6 D.F ["thing","most"] (by rintro _ _ _ _ ⟨a,xs,m,rfl,_⟩;rfl) ?_;rintro _ A _ s H vs Q E X M _ _ ⟨a,xs,m,rfl,T,h⟩;refine⟨_,(iF (iS (lL (jZ (nU .lst) rfl B.isinstance bN (iG (qv 0) (n5 (v:=.ty "list") rfl B.list dF rfl))) (mS (mf nc (kZ B (qv 0)) (qv 1) (ja _)))))),?_⟩;simp_arith[kd,T,iH,lO];exact h
theorem Lc(B:Blt mg)(D:DefAt K mg "is_pair_of_wholes" (top 9) ["thing"] f fd)(n:Ok P w K mg base "is_tuple_of" (top 8) 1 ["thing","many"] u4)(G:Ok P w K mg base "is_whole" (top 7) 1 ["thing"] r9):FnOk P w K mg base iT 2 f fd ["thing"] wM:=by
 refine i6 D.F ["thing"] (by rintro _ _ _ _ ⟨x,p,rfl,_⟩;rfl) ?_;rintro _ A _ s H vs Q E X M _ _ ⟨x,p,rfl,⟨a,rfl,T⟩,h⟩;refine⟨_,(iF (iS (lL (iN n M (iG (qv 0) iu)) (lL (iN G M (iJ (iE (qv 0) iu))) (mS (iN G M (iJ (iE (qv 0) iu)))))))),?_⟩;simp_arith[iH,T,iW,jl];refine⟨a,_,2,rfl,T,?_⟩;simp_arith[iH,T,iW,jl,Int.cast_ofNat_Int,ck];refine⟨_,.int,rfl,rfl,?_⟩;simp_arith[nY,iH,T,iW,jl];exact⟨_,.int,rfl,rfl,h⟩
theorem K3(B:Blt mg)(C:Cst mg c1 c2 c3 c4)(D:DefAt K mg "place_stands" (top 20) ["thing","last","spent"] f fd)(n:Ok P w K mg base "is_pair_of_wholes" (top 9) 2 ["thing"] wM):FnOk P w K mg base iT 3 f fd ["thing","last","spent"] DA:=by
 refine i6 D.F ["thing","last","spent"] (by rintro _ _ _ _ ⟨x,p,l,s,rfl,_⟩;rfl) ?_;rintro _ A _ s H vs Q E X M F o ⟨x,p,l,sp,rfl,O,⟨b1,b2,b3,b4⟩,h⟩;obtain⟨a,rfl,T⟩:=id O;have F:=jX M;have o:_<PySem.cLine:=aZ F;refine⟨_,(iy (jt (kf (kq (iN n M (iJ (qv 0))))) (iF (iS jT)) jv) (iF (iS (lL (A0 nJ nc (qv 1) (iE (qv 0) iu) (mi (v:=.int 999) rfl C.LAST_PLACE ⟨_,rfl⟩)) (mS (A0 nc nc iu (iE (qv 0) iu) (iQ zt (mi (v:=.int 1000000000000) rfl C.MOST_PRICE ⟨_,rfl⟩) (qv 2)))))))),?_⟩;walk_at "D";refine⟨_,p,rfl,O,?_⟩;simp_arith[iH,T,iW,jl,ao b1,ao b2,ao b3,ao b4];exact h
theorem KF(B:Blt mg)(D:DefAt K mg "tie_stands" (top 21) ["thing","last","prices"] f fd)(n:Ok P w K mg base "is_pair_of_wholes" (top 9) 2 ["thing"] wM):FnOk P w K mg base iT 3 f fd ["thing","last","prices"] Dn:=by
 refine i6 D.F ["thing","last","prices"] (by rintro _ _ _ _ ⟨x,p,y,q,d,kvs,rfl,_⟩;rfl) ?_;rintro _ A _ s H vs Q E X M F o ⟨x,p,y,q,d,kvs,rfl,O,W,J,⟨b1,b2,b3,b4⟩,h⟩;obtain⟨a,rfl,T⟩:=id O;obtain⟨b,rfl,G⟩:=id W;unfold je at b3 b4;have F:=jX M;have o:_<PySem.cLine:=aZ F;refine⟨_,(iy (jt (kf (kq (iN n M (iJ (qv 0))))) (iF (iS jT)) jv) (iF (iS (lL (mf (EW o) (qv 1) (qv 0) (ja _)) (lL (mf nJ (iE (qv 0) iu) (iE (qv 0) iu) (ja _)) (lL (wD (rK F (iE (qv 0) iu) (qv 2))) (mS (wD (rK F (iE (qv 0) iu) (qv 2)))))))))),?_⟩;walk_at "D";refine⟨_,p,rfl,O,?_⟩;simp_arith[iH,T,G,J,iW,jl,b1,ao b2,b3,b4];exact h
noncomputable def PlOk:Int->Int->LY->Prop
 |_,_,[]=>True
 |l,s,p::r=>(l<p.1/\p.1<=999/\1<=p.2/\p.2<=1000000000000-s)/\PlOk p.1 (s+p.2) r
noncomputable def jE(ps:LY):List (iw×V):=ps.map fun p=>(Sum.inl p.1,V.int p.2)
noncomputable def TiOk(kvs:List (iw×V)):Int×Int->LY->Prop
 |_,[]=>True
 |q,p::r=>(HT.lexLt [q.1,q.2] [p.1,p.2]=true/\p.1<p.2/\je kvs p.1=true/\je kvs p.2=true)/\TiOk kvs p r
structure WebOk(ps ts:LY):Prop where
 pl:ps.length<=40
 p:PlOk (-1) 0 ps
 tl:ts.length<=120
 t:TiOk (jE ps) (-1,-1) ts
noncomputable def jbl(H:Hp)(v:V)(ps ts:LY):Prop:=
 ∃u G ta xs ys,v= .ref u/\H u=some (.tup [.ref G,.ref ta])/\H G=some (.lst xs)/\H ta=some (.lst ys)/\Prs H xs ps/\Prs H ys ts
theorem jbl.same{H H':Hp}{v:V}{ps ts:LY}(h:jbl H v ps ts)(s:Same H H'):jbl H' v ps ts:=by
 obtain⟨u,G,ta,xs,ys,e,h1,h2,D,T,K⟩:=h;exact⟨u,G,ta,xs,ys,e,s _ _ h1,s _ _ h2,s _ _ D,Prs.same s T,Prs.same s K⟩
theorem PlOk.gt:∀{ps:LY} {l s:Int},PlOk l s ps->∀p∈ps,l<p.1
 |[],_,_,_,_,h=>by cases h
 | q::r,l,s,h,p,O=>by
  rcases aV.mp O with e|O
  ·rw[e];exact h.1.1
  ·have:=PlOk.gt h.2 p O;have:=h.1.1;lia
theorem PlOk.nodup:∀{ps:LY} {l s:Int},PlOk l s ps->(ps.map (·.1)).Nodup
 |[],_,_,_=>fA
 |q::r,l,s,h=>by
  rw[ai];refine bV.mpr ⟨fun K=>?_,PlOk.nodup h.2⟩;obtain⟨p,O,e⟩:=av.mp K;have:=PlOk.gt h.2 p O;lia
theorem u9{ps:LY}(h:(ps.map (·.1)).Nodup):((jE ps).map (·.1)).Nodup:=by
 unfold jE;rw[bP];have e:((fun(x:iw×V)=>x.1)∘fun(p:Int×Int)=>((Sum.inl p.1:iw),V.int p.2))=(fun(n:Int)=>(Sum.inl n:iw))∘fun(p:Int×Int)=>p.1:=rfl;rw [e,<- bP];unfold List.Nodup at h ⊢;rw[dw];exact h.imp fun q z=>q (bR z)
theorem uK{xs:List V}{ps:LY}(C:Prs H xs ps):Paired (PairAt H) xs (jE ps):=by
 induction C with
 |nil=>exact .nil
 |cons r t E=>
  obtain⟨a,e,q⟩:=r;exact .cons ⟨a,e,q⟩ E
theorem qQ:∀{ps:LY} {p:Int×Int},(ps.map (·.1)).Nodup->p∈ps->iX (jE ps) (Sum.inl p.1:iw)=some (.int p.2)
 |[],_,_,h=>by cases h
 | q::r,p,S,h=>by
  rw[ai]at S;unfold jE iX;rw[ai,List.find?_cons];rcases aV.mp h with e|h
  ·rw[e];simp
  ·have d:q.1≠p.1:=fun z=>(bV.mp S).1 (by rw[z];exact cG h);have J:decide ((Sum.inl q.1:iw)=Sum.inl p.1)=false:=aA fun z=>d (bR z);dsimp only;rw[J];exact qQ (bV.mp S).2 h
theorem uo{ps:LY}{p:Int×Int}(S:(ps.map (·.1)).Nodup)(h:p∈ps):je (jE ps) p.1=true:=by
 unfold je;rw[qQ S h];rfl
noncomputable def Dv:Sp:=fun vs H Q _=>∃a xs ps,vs=[.ref a]/\H a=some (.lst xs)/\Prs H xs ps/\ps.length<=40/\PlOk (-1) 0 ps/\∀H',Same H H'->Q .non H'
noncomputable def C4:Sp:=fun vs H Q _=>∃a d xs ts kvs,vs=[.ref a,.ref d]/\H a=some (.lst xs)/\H d=some (.dK kvs)/\Prs H xs ts/\ts.length<=120/\TiOk kvs (-1,-1) ts/\∀H',Same H H'->Q .non H'
noncomputable def yi:Sp:=fun vs H Q _=>∃v ps ts,vs=[v]/\jbl H v ps ts/\WebOk ps ts/\∀H',Same H H'->Q .non H'
theorem Lb(B:Blt mg)(C:Cst mg c1 c2 c3 c4)(D:DefAt K mg "look_at_places" (top 22) ["places"] f fd)(G:Ok P w K mg base "is_list_up_to" (top 10) 1 ["thing","most"] vc)(q:Ok P w K mg base "place_stands" (top 20) 3 ["thing","last","spent"] DA):FnOk P w K mg base iT 4 f fd ["places"] Dv:=by
 refine i6 D.F ["places","last","spent","number","thing"] (by rintro _ _ _ _ ⟨a,xs,ps,rfl,_⟩;rfl) ?_;rintro _ A _ s H vs Q E X M F o ⟨a,xs,ps,rfl,T,O,Z,k,h⟩;have b:xs.length=ps.length:=aq O;have F:=jX M;have o:_<PySem.cLine:=aZ F;refine⟨_,(iy (jt (kf (kq (iN G M (iG (qv 0) (mi (v:=.int 40) rfl C.MOST_PLACES ⟨_,rfl⟩))))) (iF sf) jv) (iy (iM 1 X (lV lX iu)) (iy (iM 2 X iu) (iF (jY bg rfl (uw rfl B.enumerate (iJ (qv 0))) (jQ (n:=2) rfl (iR (jd 3 X) (iR (jd 4 X) jF))) (iy (jt (kf (kq (iN q M (jH (qv 4) (iG (qv 1) (qv 2)))))) (iF sf) jv) (iy (iM 1 X (iE (qv 4) iu)) (iF (rT (i:=2) X rfl (Or.inl rfl) (iE (qv 4) iu) uh))))))))),?_⟩;walk_at "D";refine⟨a,xs,40,rfl,T,?_⟩;rw[ao (show(xs.length:Int)<=40 by lia)];walk_at "D";refine⟨a,rfl,⟨xs,SqL.of T⟩,xy (K:=K) (a:=a) (xs:=xs) (fun i σ H1=>∃l sp nb th,σ=[some (.ref a),some (.int l),some (.int sp),nb,th]/\Same H H1/\PlOk l sp (ps.drop i)) ⟨-1,0,none,none,rfl,Same.refl _,k⟩ (fun i σ H1 _ j=>by obtain⟨_,_,_,_,_,s1,_⟩:=j;exact SqL.of (s1 _ _ T)) ?_ ?_⟩
 ·rintro i x σ H1 t hi ⟨l,sp,nb,th,rfl,s1,m⟩ S;obtain⟨p,y,c⟩:=jm O hi;rw[qR y]at m;have s2:Same H (upd H1 t (.tup [.int i,x])):=s1.trans (iD S _);have r:=c.same s2;obtain⟨u,rfl,N⟩:=id r;simp_arith[ir];refine⟨_,p,l,sp,rfl,r,m.1,?_⟩;simp_arith[iH,N,iW,jl];exact⟨_,_,_,_,rfl,s2,m.2⟩
 ·rintro σ H1 ⟨l,sp,nb,th,rfl,s1,_⟩;exact h H1 s1
theorem K0(B:Blt mg)(C:Cst mg c1 c2 c3 c4)(D:DefAt K mg "look_at_ties" (top 23) ["ties","prices"] f fd)(G:Ok P w K mg base "is_list_up_to" (top 10) 1 ["thing","most"] vc)(z:Ok P w K mg base "tie_stands" (top 21) 3 ["thing","last","prices"] Dn):FnOk P w K mg base iT 4 f fd ["ties","prices"] C4:=by
 refine i6 D.F ["ties","prices","last","number","thing"] (by rintro _ _ _ _ ⟨a,d,xs,ts,kvs,rfl,_⟩;rfl) ?_;rintro _ A _ s H vs Q E X M F o ⟨a,d,xs,ts,kvs,rfl,T,e,O,Z,k,h⟩;have b:xs.length=ts.length:=aq O;have F:=jX M;have o:_<PySem.cLine:=aZ F;refine⟨_,(iy (jt (kf (kq (iN G M (iG (qv 0) (mi (v:=.int 120) rfl C.MOST_TIES ⟨_,rfl⟩))))) (iF sf) jv) (iy (iM 2 X (jx (iG (lV lX iu) (lV lX iu)))) (iF (jY bg rfl (uw rfl B.enumerate (iJ (qv 0))) (jQ (n:=2) rfl (iR (jd 3 X) (iR (jd 4 X) jF))) (iy (jt (kf (kq (iN z M (jH (qv 4) (iG (qv 2) (qv 1)))))) (iF sf) jv) (iF (iM 2 X (qv 4)))))))),?_⟩;walk_at "D";refine⟨a,xs,120,rfl,T,?_⟩;rw[ao (show(xs.length:Int)<=120 by lia)];walk_at "D";intro t0 l;refine⟨a,rfl,⟨xs,SqL.of (iD l _ _ _ T)⟩,xy (K:=K) (a:=a) (xs:=xs) (fun i σ H1=>∃u q nb th,σ=[some (.ref a),some (.ref d),some u,nb,th]/\Same H H1/\Pr H1 u q/\TiOk kvs q (ts.drop i)) ⟨_,(-1,-1),none,none,rfl,iD l _,⟨t0,rfl,ir⟩,k⟩ (fun i σ H1 _ j=>by obtain⟨_,_,_,_,_,s1,_⟩:=j;exact SqL.of (s1 _ _ T)) ?_ ?_⟩
 ·rintro i x σ H1 t hi ⟨u,q,nb,th,rfl,s1,g,m⟩ S;obtain⟨p,y,c⟩:=jm O hi;rw[qR y]at m;have s2:Same H (upd H1 t (.tup [.int i,x])):=s1.trans (iD S _);have r:=c.same s2;simp_arith[ir];refine⟨_,p,_,q,d,kvs,rfl,r,g.same (iD S _),s2 _ _ e,m.1,?_⟩;walk_at "D";exact⟨_,_,_,_,rfl,s2,r,m.2⟩
 ·rintro σ H1 ⟨u,q,nb,th,rfl,s1,_⟩;exact h H1 s1
theorem KP(B:Blt mg)(D:DefAt K mg "look_at_web" (top 24) ["thing"] f fd)(n:Ok P w K mg base "is_tuple_of" (top 8) 1 ["thing","many"] u4)(c:Ok P w K mg base "look_at_places" (top 22) 4 ["places"] Dv)(a:Ok P w K mg base "look_at_ties" (top 23) 4 ["ties","prices"] C4):FnOk P w K mg base iT 5 f fd ["thing"] yi:=by
 refine i6 D.F ["thing"] (by rintro _ _ _ _ ⟨v,ps,ts,rfl,_⟩;rfl) ?_;rintro _ A _ s H vs Q E X M F o ⟨v,ps,ts,rfl,V,k,h⟩;obtain⟨u,G,ta,xs,ys,rfl,N,Y,i,j,T⟩:=V;have b:xs.length=ps.length:=aq j;have l:=k.pl;have F:=jX M;have o:_<PySem.cLine:=aZ F;refine⟨_,(iy (jt (kf (kq (iN n M (iG (qv 0) iu)))) (iF sf) jv) (iy (j6 (iN c M (iJ (iE (qv 0) iu)))) (iF (j6 (iN a M (iG (iE (qv 0) iu) (nC (qO rfl) rfl B.dict cD (iJ (iE (qv 0) iu))))))))),?_⟩;walk_at "D";refine⟨u,_,2,rfl,N,?_⟩;simp_arith[iH,N,iW,jl,Int.cast_ofNat_Int,ck];refine⟨G,xs,ps,rfl,Y,j,k.pl,k.p,fun H1 s1=>?_⟩;simp_arith[iH,s1 _ _ N,s1 _ _ Y,iW,jl];refine⟨jE ps,uK (Prs.same s1 j),by lia,u9 k.p.nodup,fun d J=>?_⟩;have s2:Same H (upd H1 d (.dK (jE ps))):=s1.trans (iD J _);exact⟨ta,d,ys,ts,_,rfl,s2 _ _ i,ir,Prs.same s2 T,k.tl,k.t,fun H3 W=>h H3 (s2.trans W)⟩
theorem Li:lx 3 0=some 0:=rfl
theorem Lh:lx 3 1=some 1:=rfl
theorem Lg:lx 3 2=some 2:=rfl
noncomputable def StO(o:HO):Prop:=∃c st g,o= .lst [.int c,.int st,.bl g]/\0<=st/\st<4294967296
theorem StO.imm(h:StO o):vU o=false:=by obtain⟨_,_,_,rfl,_⟩:=h;rfl
noncomputable def A6(K:L3):Sp:=fun vs H Q _=>∃a k ns,vs=[.ref a,.int k]/\Scr K H a ns/\0<=k/\k<=1000/\∀s o,H s=none->StO o->Q (.ref s) (upd H s o)
noncomputable def pO:Sp:=fun vs H Q _=>∃s o m,vs=[.ref s,.int m]/\H s=some o/\StO o/\1<=m/\m<1000000000000000000/\∀d o,0<=d->d<m->StO o->Q (.int d) (upd H s o)
theorem qf{i j:Int}(h1:-(2^64)<j)(h2:j<2^64):CMul i j:=.inr ⟨h1,h2⟩
theorem nF{i j:Int}(h1:-(2^64)<i)(h2:i<2^64):CMul i j:=.inl ⟨h1,h2⟩
noncomputable def Dr:Int->LY->Prop
 |_,[]=>True
 |l,p::r=>(l<p.1/\p.1<=l+23/\1<=p.2/\p.2<=1000000000)/\Dr p.1 r
noncomputable def rH(l:Int):LY->Int
 |[]=>l
 |p::r=>rH p.1 r
theorem Dr.snoc:∀{ps:LY} {l:Int} {p:Int×Int},Dr l ps->(rH l ps<p.1/\p.1<=rH l ps+23/\1<=p.2/\p.2<=1000000000)->Dr l (ps++[p])
 |[],_,_,_,h=>⟨h,trivial⟩
 |q::r,_,_,h,h2=>⟨h.1,Dr.snoc h.2 h2⟩
theorem CV:∀{ps:LY} {l:Int} {p:Int×Int},rH l (ps++[p])=p.1
 |[],_,_=>rfl
 |q::r,_,_=>CV (ps:=r)
noncomputable def But(s:Addr)(H H':Hp):Prop:=∀b o,b≠s->H b=some o->H' b=some o
theorem But.refl(s:Addr)(H:Hp):But s H H:=fun _ _ _ q=>q
theorem But.trans{H1 H2:Hp}(a:But s H H1)(b:But s H1 H2):But s H H2:=fun c o n q=>b c o n (a c o n q)
theorem But.at (s:Addr)(H:Hp)(o:HO):But s H (upd H s o):=fun b u n q=>by rw[iC n];exact q
theorem But.new{t:Addr}(h:H t=none):But s H (upd H t o):=fun b u n q=>by rw[iC (iO q h)];exact q
theorem But.tups{H':Hp}(h:But s H H')(e:H s=some o)(i:vU o=false):TupS H H':=fun b u z q=>h b u (fun x=>by rw[x,e]at q;cases q;rw[i]at z;cases z) q
theorem LK{x y z u:α}{r:List α}:jh (x::y::z::u::r) 3=some u:=by
 have e:jh (x::y::z::u::r) ((3:Nat):Int)=some u:=me rfl;exact e
theorem zz{a b c e d:Int}(A:0<=d)(h1:d<4):∃v,jh [V.int a,.int b,.int c,.int e] d=some (.int v)/\(v=a\/v=b\/v=c\/v=e):=by
 have J:d=0\/d=1\/d=2\/d=3:=by lia
 rcases J with rfl|rfl|rfl|rfl
 ·exact⟨a,iW,.inl rfl⟩
 ·exact⟨b,jl,.inr (.inl rfl)⟩
 ·exact⟨c,oq,.inr (.inr (.inl rfl))⟩
 ·exact⟨e,LK,.inr (.inr (.inr rfl))⟩
theorem p9:(10:Int)^Int.toNat 9=1000000000:=by decide
noncomputable def B3:Sp:=fun vs H Q _=>∃s o n,vs=[.ref s,.int n]/\H s=some o/\StO o/\0<=n/\n<=100/\
 ∀r H' o' xs ps,H r=none->But s H H'->H' s=some o'->StO o'->H' r=some (.lst xs)->Prs H' xs ps->(ps.length:Int)=n->Dr (-1) ps->Q (.ref r) H'
noncomputable def zC(H H':Hp)(t:Addr)(ps ts:LY):Prop:=∃l1 l2 xs ys,H l1=none/\H l2=none/\l1≠l2/\H' t=some (.tup [.ref l1,.ref l2])/\H' l1=some (.lst xs)/\H' l2=some (.lst ys)/\Prs H' xs ps/\Prs H' ys ts
noncomputable def Af:Sp:=fun vs H Q _=>∃v ps ts,vs=[v]/\jbl H v ps ts/\∀t H',Same H H'->zC H H' t ps ts->Q (.ref t) H'
theorem Kc(B:Blt mg)(D:DefAt K mg "_law_take" (top 54) ["_law_state","_law_many"] f fd):FnOk P w K mg base iT 1 f fd ["_law_state","_law_many"] pO:=by
 refine i6 D.F ["_law_state","_law_many","_law_digit","_law_number"] (by rintro _ _ _ _ ⟨s,o,m,rfl,_⟩;rfl) ?_;rintro _ A _ s H vs Q E X M _ _ ⟨st,o,m,rfl,es,⟨c,x,g,rfl,i,x1⟩,e,I,h⟩;refine⟨_,(iy (jt (kq (iE (qv 0) iu)) (iy (iM 2 X (iQ oI (iE (qv 0) iu) (qv 1))) (iy (pM (iQ GF (iE (qv 0) iu) (qv 1)) (qI (qv 0) iu oN)) (iy (pM (mf nK (iE (qv 0) iu) iu (ja _)) (qI (qv 0) iu oN)) (iF (iS (qv 2)))))) jv) (iy (pM (iQ oI (iQ ju (iQ lW (iE (qv 0) iu) iu) iu) iu) (qI (qv 0) iu oN)) (iy (iM 3 X (iQ ug (iQ oI (iQ lW (iE (qv 0) iu) (iE (qv 0) iu)) iu) iu)) (iy (jt (jc nK (qv 1) (iQ tU iu iu) (ja _)) (iy (pM (iQ oI (iQ ju (iQ lW (iE (qv 0) iu) iu) iu) iu) (qI (qv 0) iu oN)) (iF (iM 3 X (iQ ju (iQ lW (qv 3) iu) (iE (qv 0) iu))))) jv) (iF (iS (iQ oI (qv 3) (qv 1)))))))),?_⟩;simp_arith[iH,es,iW,jl,oq,Li,Lh,Lg,ir,pU];have lo:∀n:Int,0<=n%m:=fun n=>eJ _ (by lia);have hi:∀n:Int,n%m<m:=fun n=>eN _ (by lia);have d:0<=(x*48271+39373)%2147483647:=eJ _ (by decide);have b:(x*48271+39373)%2147483647<2147483647:=eN _ (by decide);generalize (x*48271+39373)%2147483647=y at d b;have U:0<=(y*48271+39373)%2147483647:=eJ _ (by decide);have J:(y*48271+39373)%2147483647<2147483647:=eN _ (by decide);generalize (y*48271+39373)%2147483647=z at U J;have cd:DY c m:=⟨by lia,by lia⟩;have a:∀n:Int,vx n 16:=fun n=>⟨by decide,by decide⟩;have cp:vw 10 6:=⟨by decide,by decide,by decide⟩;refine kW (fun _=>⟨by lia,cd,h _ _ (lo _) (hi _) ⟨_,_,_,rfl,i,x1⟩⟩) (fun _=>⟨qf (by decide) (by decide),by decide,nF (by lia) (by lia),by decide,a _,cp,?_⟩);refine kW (fun _=>⟨qf (by decide) (by decide),by decide,qf (by decide) (by decide),by lia,h _ _ (lo _) (hi _) ⟨_,_,_,rfl,U,by lia⟩⟩) (fun _=>⟨by lia,h _ _ (lo _) (hi _) ⟨_,_,_,rfl,d,by lia⟩⟩)
theorem Kq(B:Blt mg)(D:DefAt K mg "_law_begun" (top 53) ["_law_script","_law_k"] f fd):FnOk P w K mg base iT 1 f fd ["_law_script","_law_k"] (A6 K):=by
 refine i6 D.F ["_law_script","_law_k","_law_cell","_law_mixed"] (by rintro _ _ _ _ ⟨a,k,ns,rfl,_⟩;rfl) ?_;rintro _ A _ s H vs Q E X M _ _ ⟨a,k,ns,rfl,hs,k0,k1,h⟩;refine⟨_,(iy (iM 2 X iu) (iy (jt (jc nJ (qv 1) (jZ yu rfl B.len ij (iJ (qv 0))) (ja _)) (iF (iM 2 X (zu AK (qv 0) (qv 1) (fun _ _=>rfl)))) jv) (iy (iM 3 X (iQ ju (iQ ju (iQ oI (qv 2) iu) (iQ lW iu (qv 1))) (iQ lW iu (iQ ug (qv 1) iu)))) (iF (iS (jW (jH (qv 2) (iG (iQ oI (qv 3) iu) (mf vE (qv 2) (iQ tU iu iu) (ja _)))))))))),?_⟩;walk_at "D";refine⟨a,_,rfl,.inl hs.sq,?_⟩;simp_arith[aa,zp];have q:∀n:Int,0<=n%2147483629:=fun n=>eJ _ (by decide);have N:∀n:Int,n%2147483629<2147483629:=fun n=>eN _ (by decide);have cp:vw 10 18:=⟨by decide,by decide,by decide⟩;have cd:vx k 7:=⟨by decide,by decide⟩;refine kW (fun c=>?_) (fun c=>?_)
 ·have R:k<(ns.length:Int):=aO c;have F:k.toNat<ns.length:=by lia
  have e1:jh (ns.map V.int) ((k.toNat:Nat):Int)=some (.int ns[k.toNat]):=me (by rw[aU,gE F];rfl);rw[show((k.toNat:Nat):Int)=k by lia]at e1;refine⟨a,_,k,_,rfl,rfl,hs.sq,e1,?_⟩;walk_at "D";exact⟨by decide,nF (by decide) (by decide),cd,nF (by decide) (by decide),by decide,cp,fun p O=>h p _ O ⟨_,_,_,rfl,q _,by have:=N (ns[k.toNat]%2147483629+104729*k+7919*(k/7));lia⟩⟩
 ·exact⟨by decide,nF (by decide) (by decide),cd,nF (by decide) (by decide),by decide,cp,fun p O=>h p _ O ⟨_,_,_,rfl,q _,by have:=N (0%2147483629+104729*k+7919*(k/7));lia⟩⟩
theorem Kz(B:Blt mg)(D:DefAt K mg "_law_places" (top 55) ["_law_state","_law_count"] f fd)(d:Ok P w K mg base "_law_take" (top 54) 1 ["_law_state","_law_many"] pO):FnOk P w K mg base iT 2 f fd ["_law_state","_law_count"] B3:=by
 refine i6 D.F ["_law_state","_law_count","_law_kind","_law_places_here","_law_number","_law_k"] (by rintro _ _ _ _ ⟨s,o,n,rfl,_⟩;rfl) ?_;rintro _ A _ s H vs Q E X M _ _ ⟨st,o,n,rfl,es,C,n0,x,h⟩;refine⟨_,(iy (iM 2 X (iN d M (iG (qv 0) iu))) (iy (iM 3 X (jW kF)) (iy (iM 4 X (lV lX iu)) (iy (jY bg rfl (nD rfl B.range (iJ (qv 1))) (jd 5 X) (iy (iM 4 X (iQ ju (iQ ju (qv 4) iu) (iN d M (iG (qv 0) (iE (jW (jH iu (jH iu (iG iu iu)))) (iN d M (iG (qv 0) iu))))))) (iF (j6 (kI ba aY aX kN (qv 3) (iJ (jx (iG (qv 4) (iQ ju iu (iN d M (iG (qv 0) (iE (jW (jH iu (jH iu (iG iu (iQ tU iu iu))))) (qv 2))))))))))))) (iF (iS (qv 3))))))),?_⟩;walk_at "D";refine⟨st,o,4,rfl,es,C,by decide,by decide,fun Mb o1 k0 k1 K'=>?_⟩;walk_at "D";intro r U;have nr:r≠st:=fun z=>by rw[z,ir]at U;cases U
 have sq:H r = none:=by rw [<- U,iC nr]
 refine⟨n,rfl,by lia,by lia,oa (n:=n.toNat) (fun i σ H1=>∃l kk ps xs o',σ=[some (.ref st),some (.int n),some (.int Mb),some (.ref r),some (.int l),kk]/\But st H H1/\H1 st=some o'/\StO o'/\H1 r=some (.lst xs)/\Prs H1 xs ps/\ps.length=i/\Dr (-1) ps/\l=rH (-1) ps) ?_ ?_ ?_⟩
 ·refine⟨-1,none,[],[],o1,rfl,fun b u nb q=>?_,by rw[iC nr.symm,ir],K',ir,.nil,rfl,trivial,rfl⟩;rw[iC (iO q sq),iC nb];exact q
 ·rintro i σ H1 hi ⟨l,kk,ps,xs,o',rfl,b1,e1,sz,G,pp,g,dr,W⟩;have p:xs.length=ps.length:=aq pp;walk_at "D";intro p1 I;have np:p1≠st:=(iO e1 I).symm;have J':r≠p1:=iO G I;refine⟨st,o',4,rfl,(by rw[iC np.symm];exact e1),sz,by decide,by decide,fun T o2 G' F' J=>?_⟩;obtain⟨v,O,v0,v1⟩:∃v,jh [V.int 1,.int 2,.int 6,.int 23] T=some (.int v)/\1<=v/\v<=23:=by
   obtain⟨v,O,Y⟩:=zz (a:=1) (b:=2) (c:=6) (e:=23) G' F';exact⟨v,O,by lia,by lia⟩
  simp_arith[iH,iC np,ir,O];refine⟨st,o2,v,rfl,ir,J,by lia,by lia,fun R j Ma L' y=>?_⟩;simp_arith[pU];have b3:But st H1 (upd (upd H1 p1 (.lst [.int 1,.int 2,.int 6,.int 23])) st j):=(But.new I).trans (But.at _ _ _);have e3:(upd (upd H1 p1 (.lst [.int 1,.int 2,.int 6,.int 23])) st j) st=some j:=ir;generalize upd (upd H1 p1 (.lst [.int 1,.int 2,.int 6,.int 23])) st j=H3 at b3 e3;have t3:TupS H1 H3:=b3.tups e1 sz.imm;have i':=b3 _ _ nr G;refine⟨⟨r,xs,rfl,i'⟩,⟨by decide,by decide,by decide⟩,?_⟩;intro p2 m;have Mf:p2≠st:=(iO e3 m).symm;have Mh:r≠p2:=iO i' m;obtain⟨k,Me,Mi,Mg⟩:∃v,jh [V.int 1,.int 3,.int 9,.int (10^Int.toNat 9)] Mb=some (.int v)/\1<=v/\v<=1000000000:=by
   obtain⟨v,O,Y⟩:=zz (a:=1) (b:=3) (c:=9) (e:=10^Int.toNat 9) k0 k1;rw[p9]at Y;exact⟨v,O,by lia,by lia⟩
  simp_arith[iH,ir,Me];refine⟨st,j,k,rfl,(by rw[iC Mf.symm];exact e3),y,by lia,by lia,fun d3 o4 L9 L8 B'=>?_⟩;walk_at "D";have b4:But st H3 (upd (upd H3 p2 (.lst [.int 1,.int 3,.int 9,.int (10^Int.toNat 9)])) st o4):=(But.new m).trans (But.at _ _ _);have L:(upd (upd H3 p2 (.lst [.int 1,.int 3,.int 9,.int (10^Int.toNat 9)])) st o4) st=some o4:=ir;generalize upd (upd H3 p2 (.lst [.int 1,.int 3,.int 9,.int (10^Int.toNat 9)])) st o4=F at b4 L;have t4:TupS H3 F:=b4.tups e3 y.imm;have Mc:=b4 _ _ nr i';intro t S;have nt:t≠st:=(iO L S).symm;have A':upd F t (.tup [.int (l+1+R),.int (1+d3)]) r=some (.lst xs):=by rw[iC (iO Mc S)];exact Mc
  simp_arith[A'];have t5:TupS F (upd F t (.tup [.int (l+1+R),.int (1+d3)])):=uR S;have Z:=ka (ys:=xs++[.ref t]) A';refine⟨iU (by lia),l+1+R,_,ps++[(l+1+R,1+d3)],_,o4,rfl,fun b u nb q=>?_,?_,B',(by first|rfl|exact ir),?_,?_,?_,?_⟩
  ·have N:=b4 _ _ nb (b3 _ _ nb (b1 _ _ nb q));rw[iC (iO q sq),iC (iO N S)];exact N
  ·rw[iC nr.symm,iC nt.symm];exact L
  ·exact j3 (Prs.tups (((t3.trans t4).trans t5).trans Z) pp) (Pr.tups ⟨t,rfl,ir⟩ Z)
  ·rw[aH,g];rfl
  ·exact dr.snoc ⟨by show _<l+1+R;lia,by show l+1+R<=_;lia,by show 1<=1+d3;lia,by show 1+d3<=_;lia⟩
  ·rw[CV]
 ·rintro σ H1 ⟨l,kk,ps,xs,o',rfl,b1,e1,sz,G,pp,g,dr,W⟩;walk_at "D";exact h r H1 o' xs ps sq b1 e1 sz G pp (by lia) dr
end
end My
namespace So
open PySem PySem.Spec PyProof.Rows
section
variable{prog:Program}{w:World}{s:Shared}
end
end So
namespace L2
open PySem PySem.Spec PyProof.Rows
noncomputable def Tp(H:Hp)(v:V)(p:Int×Int×Int):Prop:=∃a,v= .ref a/\H a=some (.tup [.int p.1,.int p.2.1,.int p.2.2])
abbrev j8(H:Hp)(xs:List V)(ps:LX):Prop:=Paired (Tp H) xs ps
section
variable{X:Cx}{prog:Program}{w:World}{A:Around}{E Q:LZ}{s:Shared}{R:Result->Shared->Prop}{more xs:List (List iw×Addr×Value)}{kvs:List (List iw×V)}{its:Array Value}{H:Hp}{K:Type}
theorem F5{K:L3}{a c:Addr}{xs ys:List V}{g:TG}{tb:TS}{D:Ends}{σ:St}(P:Nat->St->Hp->Prop)(l:xs.length=ys.length)(A:P 0 σ H)(Z:∀i σ H,i<=xs.length->P i σ H->SqL K H a xs/\SqL K H c ys)
  (hs:∀i x y σ H t,xs[i]? =some x->ys[i]? =some y->P i σ H->H t=none->g (.ref t) σ (upd H t (.tup [x,y])) fun d H2=>tb {D with nx:=P (i+1),ct:=P (i+1),bk:=D.nx} d H2) (J:∀σ H,P xs.length σ H->D.nx σ H):
  ∃W:Nat->Nat->St->Hp->Prop,(∃m,W 0 m σ H)/\∀i m σ H,W i m σ H->
   ((ou true K a c).stop i H/\D.nx σ H)\/((ou true K a c).go i H/\∃N:St->Hp->Prop,(∀L H',N L H'->∃T,T<m/\W (i+1) T L H')/\∀x H',(ou true K a c).yld i H x H'->g x σ H' fun d H2=>tb {D with nx:=N,ct:=N,bk:=D.nx} d H2):=by
 refine⟨fun i m σ H=>m=xs.length-i/\i<=xs.length/\P i σ H,⟨xs.length,by simp,bS _,A⟩,?_⟩;rintro i m σ H ⟨rfl,hi,p⟩;obtain⟨O,G⟩:=Z i σ H hi p;have h:kB true K H a xs:=by unfold kB;rw[aI rfl];exact O
 have q:kB true K H c ys:=by unfold kB;rw[aI rfl];exact G
 by_cases B:i<xs.length
 ·refine .inr ⟨⟨xs,ys,xs[i],ys[i]'(by lia),h,q,by simp[B],by simp[show i<ys.length by lia]⟩,P (i+1),fun L H' k=>⟨xs.length-(i+1),by lia,rfl,B,k⟩,fun x H' y=>?_⟩;obtain⟨t,C,f,S,e1,e2,b,j⟩:=y;subst e1 e2;exact hs i C f σ _ t (b xs h) (j ys q) p S
 ·have e:i=xs.length:=by lia
  subst e;exact .inl ⟨⟨xs,ys,h,q,.inl (ay _)⟩,J σ H p⟩
noncomputable def qN{K:Type}[DecidableEq K](xs:List (K×Addr×Value)):List (K×Addr×Value)->List (K×Addr×Value)
 |[]=>xs
 |q::r=>qN (storedH xs q.1 q.2.1 q.2.2) r
theorem Kj[DecidableEq K](xs:List (K×Addr×Value))(k:K)(a:Addr)(v:Value):(storedH xs k a v).length<=xs.length+1:=by
 unfold storedH;split
 ·rw[aa];lia
 ·rw[aH];exact ay _
abbrev TK(prog:Program)(w:World):HeapKind prog w (List iw):=tupleKind (kg prog w)
theorem u5{h h':Heap}{d:Addr}(J:h.DictOfH (TK prog w) d xs)(k0:∀o,h.get? d=some o->h'.get? d=some o)(k1:∀b o,o.cls= .type "tuple"->h.get? b=some o->h'.get? b=some o):h'.DictOfH (TK prog w) d xs:=by
 obtain⟨o,es,Y,e1,e2,e3,L,j,e⟩:=J;refine⟨o,es,Y,k0 _ e1,e2,e3,L,fun x G=>?_,e⟩;obtain⟨o2,its,n,M,Q,r⟩:=j x G;exact⟨o2,its,n,k1 _ _ Q M,Q,r⟩
theorem Jr{d N l:Addr}(C:A.handled=none)(g:A.in1.units<cLine)(f:more.length=its.size)(hsz:its.size<=1000)(I:l≠d)(i':N≠d)(G':l≠N):
  ∀(k i:Nat) (sq:Tok) (s:Shared) (kvs:List (List iw×Addr×Value)),its.size-i=k->i<=its.size->kvs.length<=i->s.heap.IsListIter N l i->s.heap.IsList l its->s.heap.DictOfH (TK prog w) d kvs->
   (∀(j:Nat) (q:List iw×Addr×Value),more[j]? =some q->∃t,its[j]? =some (.ref t)/\s.heap.IsTuple t #[.ref q.2.1,q.2.2]/\(TK prog w).is s.heap q.1 q.2.1)->
   (∀h' tk,h'.DictOfH (TK prog w) d (qN kvs (more.drop i))->(∀b o,b≠d->b≠N->s.heap.get? b=some o->h'.get? b=some o)->R (.ok (.ret .none)) {s with heap:=h',toks:=tk})->
   codeAny (model prog w) A (.builtin "dict.update.loop" ⟨[.ref d,.ref N,.int i sq,.none],[]⟩) R s:=by
 intro k
 induction k with
 |zero=>
  intro i sq s kvs F hi H D Z J O Y;have e:i=its.size:=by lia
  subst e;refine cW vh ?_;rw[cn oR _];show wpAny _ A.in1 (pyNext (.ref N)>>=_) _ _ s;refine ae (fe C D Z (by simp) fun h' G=>?_);show wpAny _ A.in1 (Builtin.Dict.addKeywords d []>>=_) _ _ _;refine ae (aM (aM ?_));refine Y h' s.toks ?_ fun b o _ U q=>G b o U q;rw[dH (by lia)];refine u5 J (fun o q=>G d o i'.symm q) fun b o c q=>G b o (fun z=>?_) q;subst z;obtain⟨o',e2,c2,_⟩:=D;rw[q]at e2;cases e2;rw[c]at c2;exact absurd c2 (by decide)
 | succ k E=>
  intro i sq s kvs F hi H D Z J O Y;have B:i<its.size:=by lia
  have F':i<more.length:=by lia
  obtain⟨t,Mb,S,L9⟩:=O i more[i] (by simp[F']);have J':∀{b:Addr} {o:Obj},o.cls= .type "tuple"->s.heap.get? b=some o->b≠N:=fun{b o} c q z=>by
   subst z;obtain⟨o',e2,c2,_⟩:=D;rw[q]at e2;cases e2;rw[c]at c2;exact absurd c2 (by decide)
  have T:∀{b:Addr} {o:Obj},o.cls= .type "tuple"->s.heap.get? b=some o->b≠d:=fun{b o} c q z=>by
   subst z;obtain⟨o',_,_,e2,c2,_⟩:=J;rw[q]at e2;cases e2;rw[c2.1]at c;exact absurd c (by decide)
  refine cW vh ?_;rw[cn oR _];show wpAny _ A.in1 (pyNext (.ref N)>>=_) _ _ s;refine ae (eQ D Z Mb fun h1 h B'=>?_);obtain⟨Mf,Mc,Me,_⟩:=id S;have X:h1.IsTuple t #[.ref more[i].2.1,more[i].2.2]:=S.extBut B'.extBut (J' Me Mc);have L8:∀b o,o.cls= .type "tuple"->s.heap.get? b=some o->h1.get? b=some o:=fun b o c q=>B'.extBut b o (J' c q) q;have sz:h1.DictOfH (TK prog w) d kvs:=u5 J (fun o q=>B'.extBut d o i'.symm q) L8;have Ma:(TK prog w).is h1 more[i].1 more[i].2.1:=by
   obtain⟨o2,a,V,M,Q,r⟩:=L9;exact⟨o2,a,V,L8 _ _ Q M,Q,r⟩
  show wpAny _ A.in1 (holding [.ref t] _>>=_) _ _ _;refine ae (bQ ?_);refine ae (m:=(Builtin.Dict.pairItems (.ref t)).tryCatch _) ?_;refine cQ ?_;unfold Builtin.Dict.pairItems;refine ae (eP X.typeIs ?_);obtain⟨ot,e1,c1,v,L⟩:=id X;rw[aI (by decide)];refine ae (bY e1 L ?_);refine aM ?_;show wpAny _ A.in1 (holding [.ref more[i].2.1,more[i].2.2] (dictSet d (.ref more[i].2.1) more[i].2.2)) _ _ _;refine bQ (wpAny_dictSet_heap (knd:=TK prog w) g Ma sz (fun h2 p A'=>?_) (by have:=(by decide:1000<=sizeLine);lia));replace A':Heap.SameBut d h1 h2:=A';have kk:∀b o,b≠d->b≠N->s.heap.get? b=some o->h2.get? b=some o:=fun b o b1 b2 q=>A'.extBut b o b1 (B'.extBut b o b2 q);refine aM ⟨cO oR _,?_⟩;have K':((i:Int)+1)=((i+1:Nat):Int):=by lia
  show codeAny _ _ (.builtin "dict.update.loop" ⟨[.ref d,.ref N,rawInt ((i:Int)+1),.none],[]⟩) _ _;rw[K'];refine E (i+1) 0 _ (storedH kvs more[i].1 more[i].2.1 more[i].2.2) (by lia) (by lia) ?_ (h.extBut A'.extBut i') ((Z.extBut B'.extBut G').extBut A'.extBut I) p ?_ ?_
  ·have:=Kj kvs more[i].1 more[i].2.1 more[i].2.2;lia
  ·intro j q W;obtain⟨t',u,x,y⟩:=O j q W;obtain⟨o3,M,Q,r⟩:=x;obtain⟨o4,L',n4,P,K,g3⟩:=y;exact⟨t',u,⟨o3,kk _ _ (T Q M) (J' Q M) M,Q,r⟩,⟨o4,L',n4,kk _ _ (T K P) (J' K P) P,K,g3⟩⟩
  ·intro h' tk n k';refine Y h' tk ?_ fun b o b1 b2 q=>k' b o b1 b2 (kk b o b1 b2 q);rw[dX F'];exact n
theorem KQ{l:Addr}{c:Nat}(C:A.handled=none)(g:A.in1.in1.units<cLine)(Z:s.heap.get? l=some {cls:=.type "list",dict:=none,data:=.seq its c,slots:=#[]})(f:more.length=its.size)(hsz:its.size<=1000)
  (O:∀(j:Nat) (q:List iw×Addr×Value),more[j]? =some q->∃t,its[j]? =some (.ref t)/\s.heap.IsTuple t #[.ref q.2.1,q.2.2]/\(TK prog w).is s.heap q.1 q.2.1)
  (h:∀h' tk,h'.DictOfH (TK prog w) s.heap.objs.size (qN [] more)->(∀b o,s.heap.get? b=some o->h'.get? b=some o)->Q (.ref s.heap.objs.size) {s with heap:=h',toks:=tk}):
  wpAny (model prog w) A (call (.type "dict") [.ref l]) Q E s:=by
 refine callType_codes (Q₁:=fun k B=>k= .ref s.heap.objs.size/\B={s with heap:=s.heap.push {cls:=.type "dict",data:=.dict #[]}}) F.kt_called_dict (F.kt_typeCall_dict_1 _) F.entry_dict_init (kt_code_dict_new _ ⟨rfl,rfl⟩) ?_;rintro k B ⟨rfl,rfl⟩;have a:(s.heap.push {cls:=.type "dict",data:=.dict #[]}).DictOfH (TK prog w) s.heap.objs.size []:=Heap.DictOfH.new s.heap;have i:(s.heap.push {cls:=.type "dict",data:=.dict #[]}).get? l=some {cls:=.type "list",dict:=none,data:=.seq its c,slots:=#[]}:=ag _ Z;have k1:∀b o,s.heap.get? b=some o->(s.heap.push {cls:=.type "dict",data:=.dict #[]}).get? b=some o:=fun b o q=>ag _ q;have J:l<s.heap.objs.size:=aR Z;generalize s.heap.push {cls:=.type "dict",data:=.dict #[]}=h1 at a i k1;refine⟨a.typeIs,F.args_dict_init_2 _ _,?_⟩;unfold Builtin.«dict.__init__»;refine ae ?_;unfold Builtin.Dict.selfAndRest;refine ae (wpAny_notOrdered_dict a.typeIs ?_);show wpAny _ _ (pure (s.heap.objs.size,[Value.ref l])) _ _ _;refine aM ?_;show wpAny _ _ (Builtin.Dict.updateFrom "dict.__init__" s.heap.objs.size (.ref l) [] .none) _ _ _;unfold Builtin.Dict.updateFrom;refine ae (eP (T:="list") ⟨_,i,rfl⟩ ?_);rw[aI (by decide)];refine ae (zV i C fun h2 v k2=>?_);have I:=k2 _ _ i;have p:h2.DictOfH (TK prog w) s.heap.objs.size []:=u5 a (fun o q=>k2 _ _ q) fun b o _ q=>k2 _ _ q;have m:s.heap.objs.size<h2.objs.size:=by obtain⟨_,_,_,M,_⟩:=p;exact aR M
 simp only[Option.isNone_none,if_true];refine ae (fj ?_);have R:Heap.IsList h2 l its:=⟨_,I,rfl,_,rfl⟩;refine ae (dk (s:={s with heap:=h2,toks:=v}) R ?_);refine aM ⟨cO oR _,?_⟩;have D:(h2.push {cls:=.type "list_iterator",data:=.fields #[.ref l,.int 0 0]}).IsListIter h2.objs.size l 0:=⟨_,aW _ rfl,rfl,rfl⟩;refine Jr (A:=A.in1) (more:=more) C g f hsz (bu J) (du m) (bu (Nat.lt_trans J m)) its.size 0 0 {s with heap:=h2.push {cls:=.type "list_iterator",data:=.fields #[.ref l,.int 0 0]},toks:=v} [] rfl (bS _) (ay _) D (R.push _) (u5 p (fun o q=>ag _ q) fun b o _ q=>ag _ q) ?_ ?_
 ·intro j q W;obtain⟨t,u,x,y⟩:=O j q W;obtain⟨o,e,r⟩:=x;obtain⟨n,z,G,P,K,H⟩:=y;exact⟨t,u,⟨o,ag _ (k2 _ _ (k1 _ _ e)),r⟩,⟨n,z,G,ag _ (k2 _ _ (k1 _ _ P)),K,H⟩⟩
 ·intro h' tk S d;rw[fD]at S;refine⟨rfl,h h' tk S fun b o q=>d b o (bu (aR q)) (bu (aR (k2 _ _ (k1 _ _ q)))) (ag _ (k2 _ _ (k1 _ _ q)))⟩
theorem Jm[DecidableEq K]{xs:List (K×Addr×Value)}{k:K}(h:k∉xs.map (·.1)):(atKey xs k).isSome=false:=by
 unfold atKey;rw[dP];refine eX.mpr fun z=>?_;rw[gP]at z;obtain⟨x,G,e⟩:=z;exact h (by rw [<- aO e]; exact cG G)
theorem Di{K:Type}[DecidableEq K]:∀(more xs:List (K×Addr×Value)),((xs++more).map (·.1)).Nodup->qN xs more=xs++more
 |[],xs,_=>by rw[qN,aS]
 | q::r,xs,h=>by
  have W:q.1∉xs.map (·.1):=by
   rw[af,eT]at h;intro z;exact h.2.2 _ z _ (cG (aE ..)) rfl
  rw[qN];have e:storedH xs q.1 q.2.1 q.2.2=xs++[q]:=by
   unfold storedH;rw[Jm W,aG bo]
  rw[e,Di r (xs++[q]) (by rw[bp];exact h),bp];rfl
noncomputable def jl3(H:Hp)(v:V)(p:List iw×V):Prop:=∃t b,v= .ref t/\H t=some (.tup [.ref b,p.2])/\H b=some (.tup (p.1.map kV))
noncomputable def EM:List V->Hp->VK->Prop:=fun vs H Q=>∃l xs kvs,vs=[.ref l]/\H l=some (.lst xs)/\Paired (jl3 H) xs kvs/\xs.length<=1000/\(kvs.map (·.1)).Nodup/\∀d,H d=none->Q (.ref d) (upd H d (.dT kvs))
theorem Ki{pins:L1}{σ:St}(I:Inv X pins σ H s){xs:List V}{its:List Value}(h1:Paired (jl3 H) xs kvs)(h2:Vals xs its):
  ∃more:List (List iw×Addr×Value),KT H kvs more/\∀(j:Nat) (q:List iw×Addr×Value),more[j]? =some q->∃t,its[j]? =some (.ref t)/\s.heap.IsTuple t #[.ref q.2.1,q.2.2]/\(TK X.prog X.w).is s.heap q.1 q.2.1:=by
 induction h1 generalizing its with
 |nil=>
  cases h2;exact⟨[],.nil,fun j q h=>by simp at h⟩
 | cons O p E=>
  rcases h2 with _|⟨m,a⟩;obtain⟨more,F,K⟩:=E a;obtain⟨t,b,rfl,S,U⟩:=O;cases m;obtain⟨_,i,f,hi⟩:=I.hok t _ S;obtain⟨c,d,rfl,r1,P⟩:=f.two;cases(show c=Value.ref b from r1);refine⟨(_,b,d)::more,.cons ⟨rfl,U,P⟩ F,fun j q h=>?_⟩;cases j with
  |zero=>
   have e:=(show some _=some q from h);cases e;exact⟨t,rfl,hi,oJ I.hok U⟩
  |succ j=>
   obtain⟨r,u,x,y⟩:=K j q (by simpa using h);exact⟨r,by simpa using u,x,y⟩
theorem FU(C:KT H kvs xs):kvs.map (·.1)=xs.map (·.1):=by
 induction C with
 |nil=>rfl
 |cons r t E=>
  rw[ai,ai,r.1,E]
theorem Jp(Y:X.calm=true)(F:X.A.units+64<cLine):jcq X (.type "dict") EM:=by
 intro pins s σ H vs us Q I m h;obtain⟨l,xs,kvs,rfl,Z,O,L,S,q⟩:=h;obtain⟨u,rfl,f⟩:=m.one;cases f;obtain⟨z,its,n,r,g,e⟩:=I.lstM Z;obtain⟨more,c,K⟩:=Ki I O r;have i:kvs.length=more.length:=aq c;have p:xs.length=kvs.length:=aq O;refine KQ (more:=more) (I.ok.hd Y) (show X.A.units+1+1<cLine by lia) e (by rw[aF];lia) (by rw[aF];lia) (fun j q W=>?_) fun h' tk dd k=>?_
 ·obtain⟨t,U,x,y⟩:=K j q W;exact⟨t,by simpa using U,x,y⟩
 ·rw [Di more [] (by rw [List.nil_append,<- FU c]; exact S),List.nil_append] at dd;obtain⟨o,es,a,h1,h2,D,T,_,d⟩:=dd;refine⟨.ref s.heap.objs.size,upd H s.heap.objs.size (.dT kvs),I.laid k (ay _) (show jc2 X.prog X.w _ _ _ (.dT kvs)from⟨by have:=(by decide:1000<=sizeLine);lia,by have:=I.big;exact fZ (du this),more,c.keeps fun b ys G=>?_,o,es,a,h1,h2,D,T,d⟩),rfl,q _ I.fresh⟩;rw[iC (iO G I.fresh)];exact G
noncomputable def mR:List Int->List Int->Bool
 |[],_=>true
 |_::_,[]=>false
 |x::xs,y::ys=>if x=y then mR xs ys else decide (x<=y)
theorem ue(x y:Int)(xs ys:List Int):mR (x::xs) (y::ys)=if x=y then mR xs ys else decide (x<=y):=rfl
theorem Ey(A:Around)(s:Shared)(a:Int)(t:Tok)(c:Int)(u:Tok)(prog:Program)(w:World)(E Q:LZ)(h:Q (.bool (decide (a<=c))) s):
  wpAny (model prog w) A (richCompare .LtE (.int a t) (.int c u)) Q E s:=
 (PyProof.Rows.le_int h:wpAny (model prog w) A (compareOp .LtE (.int a t) (.int c u)) Q E s)
end
section
open PySem.SeqAt
open PySem.AutoSeq1 (wpAny_loadPart')
open PySem.MeetsSeq PySem.MeetsSeq2 PySem.MeetsSeq3
theorem Hl(l b:Addr)(is i:Array Value)(n V:Nat)(dd r:Option Addr)(sl nI:Array (Option Value))(ns ms:List Int)(hi:IntsAre is.toList ns)(W:IntsAre i.toList ms):
  Meets (Builtin.«tuple.__le__» ⟨[.ref l,.ref b],[]⟩)
   (fun _ R s=>s.heap.get? l=some {cls:=.type "tuple",dict:=dd,data:=.seq is n,slots:=sl}/\s.heap.get? b=some {cls:=.type "tuple",dict:=r,data:=.seq i V,slots:=nI}/\R (.ok (.ret (.bool (mR ns ms)))) s):=
 .of_wp fun prog w A R s h=>by
  obtain⟨O,g,d,tk,os⟩:=s;obtain⟨Z,U,h⟩:=h;have Q:=AutoSeq1.sub_tuple_tuple;have J:is.size = ns.length:=by rw [<- hi.length]; simp
  have f:i.size = ms.length:=by rw [<- W.length]; simp
  wp_walk using fX Z,fX U,wpAny_forIn_list _ (fun rest b s'=>b.1=none/\s'=⟨O,g,d,tk,os⟩/\∃(vs p:List Value) (k m:List Int),rest=vs.zip p/\IntsAre vs k/\IntsAre p m/\k.length+i.size=m.length+is.size/\R (.ok (.ret (.bool (mR k m)))) ⟨O,g,d,tk,os⟩) _
  case turn=>
   rintro⟨y,x⟩ rest b s' ⟨q,rfl,vs,p,k,m,L,N,G,j,S⟩;cases N with
   |nil=>rw[List.zip_nil_left]at L;cases L
   | cons a t N=>
    cases G with
    |nil=>rw[List.zip_nil_right]at L;cases L
    | cons c u G=>
     rw[List.zip_cons_cons]at L;injection L with p1 p2;injection p1 with p3 p4;subst p3 p4;rw[ue]at S;simp only[List.length_cons]at j;refine ae (gF a t c u prog w _ _ ?_);by_cases e:a=c
     ·rw[aI e]at S;rw[show(a==c)=true by rw[e];exact beq_self_eq_true _]
      wp_walk
      exact⟨rfl,rfl,_,_,_,_,p2,N,G,by lia,S⟩
     ·rw[aG e]at S;rw[show(a==c)=false by rw[cE];exact e];have D:=Ey A.in1 ⟨O,g,d,tk,os⟩ a t c u prog w
      wp_walk using D
      exact⟨_,rfl,by simpa using S⟩
  case fin=>
   rintro⟨b1,b2⟩ s' ⟨q,rfl,vs,p,k,m,L,N,G,j,S⟩;simp only at q;subst q;have Y:mR k m=decide (is.size<=i.size):=by
    cases N with
    |nil=>
     simp only[List.length_nil]at j;rw[show mR [] m=true by cases m<;>rfl];exact(ao (by lia)).symm
    | cons a t N=>
     cases G with
     |nil=>
      simp only[List.length_nil,List.length_cons]at j;exact(aA (by lia)).symm
     |cons c u G=>
      rw[List.zip_cons_cons]at L;cases L
   rw[Y]at S
   wp_walk
   exact⟨_,rfl,by simpa[Builtin.Tuple.tupleCompareSizes]using S⟩
  case h=>
   exact⟨rfl,rfl,is.toList,i.toList,ns,ms,rfl,hi,W,by lia,h⟩
end
section
variable{X:Cx}{a b c:Expr}{ta tb tc:TE}{pos:Pos}
theorem BV {op m:CmpOp}{g:Int->Int->Bool}{r':R2}(M:OpR X (compareOp op) (fI fun i j=>.bl (g i j)))(w:OpR X (compareOp m) r')(J:PE X a ta)(U:PE X b tb)(Y:PE X c tc)
    (K:lastMarks [op,m] [b,c]=false:=by with_unfolding_all rfl):PT X (.Compare a [op,m] [b,c] pos) (fB (wm (fI fun i j=>.bl (g i j)) r' ta tb tc)):=by
  intro pins s σ H Q I h;refine isTrue_chain (iI (J pins s σ H _ I h) fun v s1 ⟨x,H1,A,r1,N⟩=>test_link (iI (U pins s1 σ H1 _ A N) fun u s2 ⟨y,H2,E,P,G⟩=>
    iI (M pins s2 σ H2 x y v u (fun z H3=>∃k,z= .bl k/\(if k=true then tc σ H3 fun t F=>r' y t F fun f T=>match f with | .bl q=>Q q T|_=>False else Q false H3)) E r1 P ?_) fun d W ⟨z,H3,Z,B,k,e,L⟩=>?_)) K
  · dsimp only at G;unfold fI at G ⊢;cases x<;>cases y<;>first
      |exact G.elim
      |exact⟨_,rfl,G⟩
  · subst e;cases B;refine cj ?_;cases k with
    |false=>exact ite_ff ⟨H3,Z,L⟩
    | true =>
      refine ite_tt (test_last (iI (Y pins W σ H3 _ Z L) fun t p ⟨V,F,O,D,S⟩=>iI (w pins p σ F y V u t _ O P D S) fun R o C=>?_));obtain⟨f,T,n,r,l⟩:=C;cases f<;>first
        |exact False.elim l
        | (cases r
           exact cj ⟨T,n,l⟩)
noncomputable def yJ:R2:=fun x y H Q=>match x,y with
 | .ref a,.ref b=>match H a,H b with
  |some (.tup [.int i,.int j]),some (.tup [.int k,.int l])=>Q (.bl (mR [i,j] [k,l])) H
  |_,_=>False
 |_,_=>False
theorem EZ(F:X.A.units<cLine):OpR X (compareOp .LtE) yJ:=by
 intro pins s σ H x y v u Q I rx B h;unfold yJ at h;split at h
 ·split at h
  ·rename_i a b _ _ i j k l e1 e2;cases rx;cases B;obtain⟨its,r1,p1,_⟩:=I.tuple (SqT.of e1);obtain⟨C,P,p2,_⟩:=I.tuple (SqT.of e2);have m:IntsAre its.toArray.toList [i,j]:=pY r1;have N:IntsAre C.toArray.toList [k,l]:=pY P;obtain⟨⟨g,dd,e,sl⟩,M,Y,n,J⟩:=id p1;obtain⟨⟨f,r,data2,nI⟩,d,c,V,p⟩:=id p2;simp only at Y J c p;subst Y J c p;exact richCompare_meets_room (op:=.LtE) ⟨_,M,rfl⟩ ⟨_,d,rfl⟩ PySem.F.slot_tuple_le PySem.F.entry_tuple_le (PySem.F.args_tuple_le_2 _ _) (Hl _ _ _ _ n V dd r sl nI _ _ m N)
    ⟨M,d,(fun z=>nomatch z),.bl _,H,I,rfl,h⟩ F
  ·exact h.elim
 ·exact h.elim
end
end L2
namespace My
open PySem L2
section
variable{P:Program}{w:World}{K:L3}{mg:L4}{base:Heap}{c1 c2 c3 c4:Tok}{C_NoWeb fqa:Addr}{dI:FuncData}{ds:List Dt}{p:Int×Int×Int}{hs ps ts:LY}{kvs:List (iw×V)}{H H':Hp}{d a b:Dt}{xs:List V}{x v:V}
noncomputable def nL:Dt->Option (Int×Int)
 | .tup [.int x,.int y]=>some (x,y)
 |_=>none
noncomputable def DV(H:Hp)(x:V)(o:Option (Int×Int)):Prop:=∃d,Rep H d x/\nL d=o
theorem BQ{p:Int×Int}(h:nL d=some p):d=jz p:=by
 unfold nL at h;split at h
 ·cases h;rfl
 ·cases h
theorem BN{p:Int×Int}(h:Rep H (jz p) x):Pr H x p:=by
 rw[jz,Rep]at h;obtain⟨a,vs,rfl,T,r⟩:=h;rw[Reps]at r;obtain⟨v,r1,rfl,e1,r⟩:=r;rw[Reps]at r;obtain⟨k,P,rfl,e2,r⟩:=r;rw[Reps]at r;subst r;rw[Rep]at e1 e2;subst e1 e2;exact⟨a,rfl,T⟩
theorem Pr.o{p:Int×Int}(h:Pr H x p):DV H x (some p):=⟨jz p,h.rep,rfl⟩
noncomputable def lA:Dt->Kd
 | .non=>.non
 | .bl _=>.bl
 | .int _=>.int
 | .str _=>.str
 | .tup _=>.tup
 | .lst _=>.lst
theorem qJ(h:Rep H d x):L2.kd H x=some (lA d):=by
 cases d with
 |non=>rw[Rep]at h;subst h;rfl
 |bl b=>rw[Rep]at h;subst h;rfl
 |int b=>rw[Rep]at h;subst h;rfl
 |str b=>rw[Rep]at h;subst h;rfl
 |tup ds=>rw[Rep]at h;obtain⟨a,vs,rfl,e,_⟩:=h;unfold L2.kd;dsimp only;rw[e];rfl
 |lst ds=>rw[Rep]at h;obtain⟨a,vs,rfl,e,_⟩:=h;unfold L2.kd;dsimp only;rw[e];rfl
noncomputable def mm(m:Int):Dt->Bool
 | .tup ds=>decide ((ds.length:Int)=m)
 |_=>false
noncomputable def ui:Sp:=fun vs H Q _=>∃x d m,vs=[x,.int m]/\Rep H d x/\Q (.bl (mm m d)) H
noncomputable def Bh:Sp:=fun vs H Q _=>∃x o,vs=[x]/\DV H x o/\Q (.bl o.isSome) H
noncomputable def rA:Dt->Option (Int×Int×Int)
 | .tup [.int x,.int y,.int z]=>some (x,y,z)
 |_=>none
noncomputable def jM(d:Int×Int×Int):Dt:=.tup [.int d.1,.int d.2.1,.int d.2.2]
theorem B9(h:rA d=some p):d=jM p:=by
 unfold rA at h;split at h
 ·cases h;rfl
 ·cases h
theorem xT(h:Rep H (jM p) x):Tp H x p:=by
 rw[jM,Rep]at h;obtain⟨a,vs,rfl,T,r⟩:=h;rw[Reps]at r;obtain⟨v,r1,rfl,e1,r⟩:=r;rw[Reps]at r;obtain⟨k,P,rfl,e2,r⟩:=r;rw[Reps]at r;obtain⟨q,B,rfl,e3,r⟩:=r;rw[Reps]at r;subst r;rw[Rep]at e1 e2 e3;subst e1 e2 e3;exact⟨a,rfl,T⟩
noncomputable def mZ(d:Dt):Option (Int×Int×Int):=match rA d with
 |some p=>if 1<=p.2.2 then some p else none
 |none=>none
noncomputable def Bc:Sp:=fun vs H Q _=>∃x d,vs=[x]/\Rep H d x/\∀H',Same H H'->Q (.bl (mZ d).isSome) H'
noncomputable def um(ds:List Dt):Bool:=ds.all fun d=>nY (lA d)
theorem Io(h:ds.length=3)(V:um ds=true):∃p:Int×Int×Int,ds=[.int p.1,.int p.2.1,.int p.2.2]:=by
 match ds,h with
 | [a,b,c],_=>
  unfold um at V;simp only[List.all_cons,List.all_nil,gB,aQ]at V;obtain⟨h1,h2,D⟩:=V;cases a with
  | int x=>cases b with
   |int y=>cases c with
    |int z=>exact⟨(x,y,z),rfl⟩
    |_=>cases D
   |_=>cases h2
  |_=>cases h1
theorem Ax(h:¬ds.length=3\/um ds=false):rA (.tup ds)=none:=by
 unfold rA;split
 ·rename_i e;cases e;rcases h with h|h
  ·exact absurd rfl h
  ·cases h
 ·rfl
noncomputable def iP(ds:LX)(n:Int):Int:=(ds.map fun d=>(if d.1=n then d.2.2 else 0)+(if d.2.1=n then d.2.2 else 0)).sum
noncomputable def jis(kvs:List (iw×V))(ds:LX):Prop:=∀n:Int,(iX kvs (Sum.inl n:iw)=none/\iP ds n=0)\/iX kvs (Sum.inl n:iw)=some (.int (iP ds n))
theorem jis.get{ds:LX}(h:jis kvs ds)(n:Int):(iX kvs (Sum.inl n:iw)).getD (.int 0)= .int (iP ds n):=by
 rcases h n with⟨e,f⟩|e
 ·rw[e,f];rfl
 ·rw[e];rfl
noncomputable def xi:Sp:=fun vs H Q _=>∃l zs ds,vs=[.ref l]/\H l=some (.lst zs)/\j8 H zs ds/\ds.length<=200/\∀d kvs H',Same H H'->H' d=some (.dK kvs)->jis kvs ds->Q (.ref d) H'
theorem Tp.tups(h:Tp H v p)(s:TupS H H'):Tp H' v p:=let⟨a,e,q⟩:=h;⟨a,e,s _ _ rfl q⟩
theorem j7(s:TupS H H'){ps:LX}(C:j8 H xs ps):j8 H' xs ps:=by
 induction C with
 |nil=>exact .nil
 |cons r t E=>
  exact .cons (Tp.tups r s) E
theorem uO(kvs:List (iw×V))(k:iw)(v:V):(jr kvs k v).length<=kvs.length+1:=ve kvs k v
theorem KU(B:Blt mg)(D:DefAt K mg "is_tuple_of" (top 8) ["thing","many"] f fd):FnOk P w K mg base iT 1 f fd ["thing","many"] ui:=by
 refine i6 D.F ["thing","many"] (by rintro _ _ _ _ ⟨x,d,m,rfl,_⟩;rfl) ?_;rintro _ A _ s H vs Q E X M g o ⟨x,d,m,rfl,J,h⟩;have F:=qJ J;have g:=jX M;have o:_<PySem.cLine:=aZ g;refine⟨_,(iF (iS (lL (jZ (nU .tup) rfl B.isinstance bN (iG (qv 0) (n5 (v:=.ty "tuple") rfl B.tuple fN rfl))) (mS (mf ly (kZ B (qv 0)) (qv 1) (ja _)))))),?_⟩;cases d with
 |tup ds=>
  rw[Rep]at J;obtain⟨a,vs,rfl,T,r⟩:=J;simp_arith[kd,T,iH,lO];rw[r.len];exact h
 |non=>simp_arith[F,lO,lA];exact h
 |bl b=>simp_arith[F,lO,lA];exact h
 |int b=>simp_arith[F,lO,lA];exact h
 |str b=>simp_arith[F,lO,lA];exact h
 |lst b=>simp_arith[F,lO,lA];exact h
theorem Ld(B:Blt mg)(D:DefAt K mg "is_pair_of_wholes" (top 9) ["thing"] f fd)(n:Ok P w K mg base "is_tuple_of" (top 8) 1 ["thing","many"] ui)(G:Ok P w K mg base "is_whole" (top 7) 1 ["thing"] r9):FnOk P w K mg base iT 2 f fd ["thing"] Bh:=by
 refine i6 D.F ["thing"] (by rintro _ _ _ _ ⟨x,o,rfl,_⟩;rfl) ?_;rintro _ A _ s H vs Q E X M F Z ⟨x,o,rfl,j,h⟩;obtain⟨d,J,rfl⟩:=j;have F:=jX M;have Z:_<PySem.cLine:=aZ F;refine⟨_,(iF (iS (lL (iN n M (iG (qv 0) iu)) (lL (iN G M (iJ (iE (qv 0) iu))) (mS (iN G M (iJ (iE (qv 0) iu)))))))),?_⟩;walk_at "D";refine⟨_,d,2,rfl,J,?_⟩;cases d with
 | tup ds=>
  rw[Rep]at J;obtain⟨a,vs,rfl,T,r⟩:=J
  match ds,r,h with
  |[],r,h=>
   rw[show mm 2 (.tup [])=false from rfl];walk_at "D";exact h
  |[L],r,h=>
   have e2:nL (.tup [L])=none:=by cases L<;>rfl
   rw[e2]at h;rw[show mm 2 (.tup [L])=false from rfl];walk_at "D";exact h
  | L::R::b::ds,r,h=>
   have e:mm 2 (.tup (L::R::b::ds))=false:=by
    unfold mm;refine aA ?_;rw[List.length_cons,List.length_cons,List.length_cons];lia
   have e2:nL (.tup (L::R::b::ds))=none:=by cases L<;>cases R<;>rfl
   rw[e2]at h;rw[e];walk_at "D";exact h
  | [L,R],r,h=>
   rw[Reps]at r;obtain⟨v1,r1,rfl,e1,r⟩:=r;rw[Reps]at r;obtain⟨k,l,rfl,e2,r⟩:=r;rw[Reps]at r;subst r;rw[show mm 2 (.tup [L,R])=true from rfl];simp_arith[iH,T,iW,jl];refine⟨_,lA L,rfl,qJ e1,?_⟩;cases L with
   |int i=>
    simp_arith[lA,nY,iH,T,iW,jl];refine⟨_,lA R,rfl,qJ e2,?_⟩;cases R<;>exact h
   |_=>simp_arith[lA,nY];exact h
 |_=>simp_arith[mm];exact h
theorem IQ(B:Blt mg)(D:DefAt K mg "is_due" (top 30) ["thing"] f fd)(n:Ok P w K mg base "is_tuple_of" (top 8) 1 ["thing","many"] ui)(G:Ok P w K mg base "is_whole" (top 7) 1 ["thing"] r9):FnOk P w K mg base iT 2 f fd ["thing"] Bc:=by
 refine i6 D.F ["thing"] (by rintro _ _ _ _ ⟨x,d,rfl,_⟩;rfl) ?_;rintro _ A _ s H vs Q E X M _ _ ⟨x,d,rfl,J,h⟩;refine⟨_,(iF (iS (lL (iN n M (iG (qv 0) iu)) (lL (jZ (tT rfl) rfl B.all fg (iJ (kR ["part"] [none] (z8 (qv 0)) (iV 0) (iN G M (iJ (qv 0)))))) (mS (mf vE (iE (qv 0) iu) iu (ja _))))))),?_⟩;walk_at "D";refine⟨_,d,3,rfl,J,?_⟩;cases d with
 | tup ds=>
  have l:=J;rw[Rep]at J;obtain⟨a,vs,rfl,T,r⟩:=J;have F:=r.len;by_cases c3:ds.length=3
  ·rw[show mm 3 (.tup ds)=true from ao (by lia)];walk_at "D";refine jA (vv K a) H (fun R U=>?_) (fun z t=>jn ds.length (fun i L I=>∃m,L=[m]/\Same H I/\I z=some (.lst (((ds.take i).map fun d=>nY (lA d)).map V.bl))) ⟨none,rfl,iD t _,ir⟩ ?_ ?_)
   ·unfold yA;walk_at "D";exact⟨a,rfl,⟨_,SqT.of T⟩,U⟩
   ·rintro i L I hi ⟨m,rfl,s2,k⟩;have x1:vs[i]? =some (vs[i]'(by lia)):=gE _;refine⟨⟨_,_,SqT.of (s2 _ _ T),x1⟩,?_⟩;rintro y H' ⟨rfl,j⟩;have o:=aJ (x1.symm.trans (j _ (SqT.of (s2 _ _ T))));subst o;obtain⟨u,b,q⟩:=r.at x1;walk_at "D";refine⟨_,lA u,rfl,qJ (Rep.same s2 _ q),?_⟩;refine⟨_,k,?_,_,rfl,i4 s2 t,?_⟩
    ·rw[aa,aa,aP];exact iU (by lia)
    ·rw[ir,ji b,af,af];rfl
   rintro L H1 ⟨m,rfl,s1,k⟩;refine⟨⟨_,SqT.of (s1 _ _ T),by lia⟩,?_⟩;rw[aD]at k;simp_arith[k];refine⟨_,rfl,?_⟩;have g:(ds.map fun d=>nY (lA d)).all id=um ds:=by rw[fU];rfl
   refine kW (fun c=>?_) (fun c=>?_)
   ·have c:=g.symm.trans c;obtain⟨p,O⟩:=Io c3 c;subst O;obtain⟨C,W,e3⟩:=xT (p:=p) l;cases W;simp_arith[iH,s1 _ _ e3,oq];have v:(mZ (jM p)).isSome=decide (p.2.2 ≥ 1):=by
     unfold mZ;show(match some (p.1,p.2.1,p.2.2)with |some p=>if 1<=p.2.2 then some p else none|none=>none).isSome=_;dsimp only;by_cases e:1<=p.2.2
     ·rw[aI e,ao e];rfl
     ·rw[aG e,aA e];rfl
    have:=h H1 s1;rw[show(Dt.tup [.int p.1,.int p.2.1,.int p.2.2])=jM p from rfl,v]at this;exact this
   ·have c:=g.symm.trans (eX.mpr c);have:=h H1 s1;unfold mZ at this;rw[Ax (.inr c)]at this;exact this
  ·rw[show mm 3 (.tup ds)=false from aA (by lia)];walk_at "D";have:=h H (Same.refl _);unfold mZ at this;rw[Ax (.inl c3)]at this;exact this
 |_=>simp_arith[mm];exact h H (Same.refl _)
noncomputable def mr(ts:LY):List (List iw×V):=ts.map fun t=>([Sum.inl t.1,Sum.inl t.2],V.bl true)
theorem AQ:∀(ts:LY) (t:Int×Int),(iX (mr ts) ([Sum.inl t.1,Sum.inl t.2]:List iw)).isSome=decide (t∈ts)
 |[],t=>by simp[mr,iX]
 | u::r,t=>by
  have E:=AQ r t;unfold mr iX at E ⊢;rw[ai,List.find?_cons];by_cases h:u=t
  ·subst h;simp
  ·have d:¬(([Sum.inl u.1,Sum.inl u.2]:List iw)=[Sum.inl t.1,Sum.inl t.2]):=fun z=>by
    injection z with z1 z2;injection z2 with z2 _;exact h (Prod.ext (bR z1) (bR z2))
   dsimp only;rw[aA d];dsimp only;rw[E];have S:¬t=u:=fun z=>h z.symm;simp[S]
noncomputable def Bg:Sp:=fun vs H Q _=>∃u zs ts,vs=[.ref u]/\H u=some (.lst zs)/\Prs H zs ts/\ts.Nodup/\ts.length<=120/\∀d H',H d=none->Same H H'->H' d=some (.dT (mr ts))->Q (.ref d) H'
theorem jl3.tups{p:List iw×V}(h:jl3 H v p)(s:TupS H H'):jl3 H' v p:=let⟨t,b,e,q,r⟩:=h;⟨t,b,e,s _ _ rfl q,s _ _ rfl r⟩
theorem Dl(s:TupS H H'){ps:List (List iw×V)}(C:Paired (jl3 H) xs ps):Paired (jl3 H') xs ps:=by
 induction C with
 |nil=>exact .nil
 |cons r t E=>
  exact .cons (jl3.tups r s) E
theorem CZ{ds:LX}{i:Nat}{d:Int×Int×Int}(h:ds[i]? =some d)(n:Int):iP (ds.take (i+1)) n=iP (ds.take i) n+((if d.1=n then d.2.2 else 0)+(if d.2.1=n then d.2.2 else 0)):=by
 unfold iP;rw[ji h,af,cK];simp
theorem jis.put{f:Int->Int}(h:∀n:Int,(iX kvs (Sum.inl n:iw)=none/\f n=0)\/iX kvs (Sum.inl n:iw)=some (.int (f n)))(m a:Int):∀n:Int,(iX (jr kvs (Sum.inl m:iw) (.int (f m+a))) (Sum.inl n:iw)=none/\f n+(if m=n then a else 0)=0)\/iX (jr kvs (Sum.inl m:iw) (.int (f m+a))) (Sum.inl n:iw)=some (.int (f n+(if m=n then a else 0))):=fun n=>by
 rw[uS];by_cases c:m=n
 ·subst c;rw[aI rfl,aI rfl];exact .inr rfl
 ·rw[aG (fun z=>c (bR z).symm),aG c,fV];exact h n
theorem IP(B:Blt mg)(D:DefAt K mg "due_at" (top 31) ["dues"] f fd):FnOk P w K mg base iT 1 f fd ["dues"] xi:=by
 refine i6 D.F ["dues","paid","one","other","amount"] (by rintro _ _ _ _ ⟨l,zs,ds,rfl,_⟩;rfl) ?_;rintro _ A _ s H vs Q E X M F o ⟨l,zs,ds,rfl,W,Y,Z,h⟩;have r:zs.length=ds.length:=aq Y;have F:=jX M;have o:_<PySem.cLine:=aZ F;refine⟨_,(iy (iM 1 X uL) (iy (jY bg rfl (jb (qv 0)) (jQ (n:=3) rfl (iR (jd 2 X) (iR (jd 3 X) (iR (jd 4 X) jF)))) (iy (pN F (qv 1) (qv 2) (iQ ju (pT F (qv 1) (qv 2) iu) (qv 4))) (iF (pN F (qv 1) (qv 3) (iQ ju (pT F (qv 1) (qv 3) iu) (qv 4)))))) (iF (iS (qv 1))))),?_⟩;refine iK fun R U=>?_;walk_at "D";intro d J;generalize y:upd H d _=H1;obtain⟨s1,m⟩:=kc J y;clear y;walk_at "D";subst U;refine iK fun R U=>?_;refine kA (i5 K l) H1 (fun b j=>?_) (lG (K:=K) (a:=l) (xs:=zs) (fun i σ H2=>∃v1 k q kvs,σ=[some (.ref l),some (.ref d),v1,k,q]/\Same H H2/\H2 d=some (.dK kvs)/\jis kvs (ds.take i)/\kvs.length<=2*i) ⟨none,none,none,[],rfl,s1,m,fun n=>.inl ⟨rfl,rfl⟩,bS _⟩ (fun i σ H2 _ C=>by obtain⟨_,_,_,_,_,s2,_⟩:=C;exact SqL.of (s2 _ _ W)) ?_ ?_)
 ·unfold i8;walk_at "D";exact⟨l,rfl,⟨_,SqL.of (s1 _ _ W)⟩,j⟩
 ·rintro i x σ H2 G ⟨v1,k,q,kvs,rfl,s2,u,pd,T⟩;obtain⟨p,O,c⟩:=jm Y G;obtain⟨t,rfl,S⟩:=Tp.tups c s2.tups;have v:=(ax.mp O).1;simp_arith[S,u,pd.get];have N:=jis.put (f:=iP (ds.take i)) pd p.1 p.2.2;have I:=uO kvs (Sum.inl p.1:iw) (.int (iP (ds.take i) p.1+p.2.2));refine⟨⟨_,rfl⟩,iU (by lia),⟨_,ir⟩,?_⟩;generalize jr kvs (Sum.inl p.1:iw) (.int (iP (ds.take i) p.1+p.2.2))=k1 at N I ⊢;have g:(iX k1 (Sum.inl p.2.1:iw)).getD (.int 0)= .int (iP (ds.take i) p.2.1+(if p.1=p.2.1 then p.2.2 else 0)):=by
   rcases N p.2.1 with⟨e,z⟩|e
   ·rw[e,z];rfl
   ·rw[e];rfl
  have L:=jis.put (f:=fun n=>iP (ds.take i) n+(if p.1=n then p.2.2 else 0)) N p.2.1 p.2.2;have V:=uO k1 (Sum.inl p.2.1:iw) (.int (iP (ds.take i) p.2.1+(if p.1=p.2.1 then p.2.2 else 0)+p.2.2));rw[ir];dsimp only;rw[g];dsimp only;refine⟨iU (by lia),_,_,_,_,rfl,?_,ir,?_,by lia⟩
  ·exact i4 (i4 s2 J) J
  ·intro n;rw [CZ O n,<- Int.add_assoc];exact L n
 ·rintro σ H2 ⟨v1,k,q,kvs,rfl,s2,u,pd,T⟩;rw[r,aD]at pd;subst U;walk_at "D";exact h d kvs H2 s2 u pd
theorem IR(B:Blt mg)(D:DefAt K mg "marked" (top 11) ["places"] f fd):FnOk P w K mg base iT 1 f fd ["places"] Bg:=by
 refine i6 D.F ["places"] (by rintro _ _ _ _ ⟨u,zs,ts,rfl,_⟩;rfl) ?_;rintro _ A _ s H vs Q E X M F o ⟨u,zs,ts,rfl,N,z,T,sz,h⟩;have c:zs.length=ts.length:=aq z;have F:=jX M;have o:_<PySem.cLine:=aZ F;refine⟨_,(iF (iS (nC (Jp rfl M.units) rfl B.dict cD (iJ (kR ["place"] [none] (jb (qv 0)) (iV 0) (jx (iG (qv 0) jT))))))),?_⟩;walk_at "D";refine jA (i5 K u) H (fun R Y=>?_) (fun l r=>jn ts.length (fun i L I=>∃m vs,L=[m]/\Same H I/\I l=some (.lst vs)/\Paired (jl3 I) vs (mr (ts.take i))) ⟨none,[],rfl,iD r _,ir,.nil⟩ ?_ ?_)
 ·unfold i8;walk_at "D";exact⟨u,rfl,⟨_,SqL.of N⟩,Y⟩
 ·rintro i L I hi ⟨m,vs,rfl,s2,v,G⟩;have C:SqL K I u zs:=SqL.of (s2 _ _ N);have x1:zs[i]? =some (zs[i]'(by lia)):=gE _;refine⟨⟨_,_,C,x1⟩,?_⟩;rintro y H' ⟨rfl,O⟩;obtain⟨q,W,p⟩:=jm z (O _ C);obtain⟨b,rfl,U⟩:=p.same s2;have sq:vs.length<=120:=by
   have:=aq G;unfold mr at this;rw[aa,aP]at this;lia
  walk_at "D";intro t S;have j:=iD S (.tup [.ref b,.bl true]);have i':upd H' t (.tup [.ref b,.bl true]) t=some (.tup [.ref b,.bl true]):=ir;have a:=j _ _ v;have k:=j _ _ U;generalize upd H' t (.tup [.ref b,.bl true])=H3 at j i' a k;have Z:=ka (ys:=vs++[.ref t]) a;refine⟨vs,a,iU (by lia),_,vs++[.ref t],rfl,i4 (s2.trans j) r,(by first|rfl|exact ir),?_⟩;have n:mr (ts.take (i+1))=mr (ts.take i)++[([Sum.inl q.1,Sum.inl q.2],V.bl true)]:=by
   unfold mr;rw[ji W,af];rfl
  rw[n];exact j3 (Dl Z (Dl j.tups G)) ⟨t,b,rfl,Z _ _ rfl i',Z _ _ rfl k⟩
 ·rintro L I ⟨m,vs,rfl,s2,v,G⟩;refine⟨⟨_,SqL.of (s2 _ _ N),by lia⟩,?_⟩;rw[aD]at G;have sq:vs.length<=120:=by
   have:=aq G;unfold mr at this;rw[aa]at this;lia
  refine⟨l,vs,mr ts,rfl,v,G,by lia,?_,fun d J=>h d _ (s2.free J) (s2.trans (iD J _)) ir⟩;unfold mr;rw[bP];unfold List.Nodup at T ⊢;rw[dw];refine T.imp fun{x y} g e=>g ?_;have e:([Sum.inl x.1,Sum.inl x.2]:List iw)=[Sum.inl y.1,Sum.inl y.2]:=e;injection e with e1 e2;injection e2 with e2 _;exact Prod.ext (bR e1) (bR e2)
noncomputable def ko(ts:LY):Int×Int->List Dt->Option (LX)
 |_,[]=>some []
 |q,d::r=>match mZ d with
  |some p=>if(p.1,p.2.1)∈ts/\mR [p.1,p.2.1] [q.1,q.2]=false then(ko ts (p.1,p.2.1) r).map (p::·)else none
  |none=>none
noncomputable def nS(ps:LY)(qs:LX):Bool:=ps.all fun p=>decide (iP qs p.1<=2*p.2)
noncomputable def qy(ps ts:LY):Dt->Bool
 | .lst ds=>match ko ts (-1,-1) ds with
  |some qs=>nS ps qs
  |none=>false
 |_=>false
noncomputable def Ad(d:Dt):Prop:=∀ds,d= .lst ds->ds.length<=200
noncomputable def Ah:Sp:=fun vs H Q _=>∃v ps ts y d,vs=[v,y]/\jbl H v ps ts/\WebOk ps ts/\Rep H d y/\Ad d/\∀H',Same H H'->Q (.bl (qy ps ts d)) H'
theorem uG{a b c d:Int}(h:HT.lexLt [a,b] [c,d]=true):a<c\/(a=c/\b<d):=by
 rw[HT.qw]at h;by_cases e:a=c
 ·rw[aI e,HT.qw]at h;by_cases e2:b=d
  ·rw[aI e2]at h;cases h
  ·rw[aG e2]at h;exact .inr ⟨e,aO h⟩
 ·rw[aG e]at h;exact .inl (aO h)
theorem qG{a b c d:Int}(h:a<c):HT.lexLt [a,b] [c,d]=true:=by
 rw[HT.qw,aG (by lia)];exact ao h
theorem uf{a b d:Int}(h:b<d):HT.lexLt [a,b] [a,d]=true:=by
 rw[HT.qw,aI rfl,HT.qw,aG (by lia)];exact ao h
theorem u7(h:ko ts (-1,-1) ds=none):qy ps ts (.lst ds)=false:=by
 show(match ko ts (-1,-1) ds with |some qs=>nS ps qs|none=>false)=false;rw[h]
theorem yp{qs:LX}(h:ko ts (-1,-1) ds=some qs):qy ps ts (.lst ds)=nS ps qs:=by
 show(match ko ts (-1,-1) ds with |some qs=>nS ps qs|none=>false)=_;rw[h]
theorem sS(a b c:V):lQ [a,b,c] none (some 2)=[a,b]:=rfl
theorem rE(a b c:V):¬(HT.i7 [a,b,c].length 0 none=0/\HT.i7 [a,b,c].length [a,b,c].length (some 2)=[a,b,c].length):=fun h=>by cases h.2
theorem IG{a b c d e f:Int}(h:HT.lexLt [a,b] [c,d]=true)(g:HT.lexLt [c,d] [e,f]=true):HT.lexLt [a,b] [e,f]=true:=by
 have h:=uG h;have g:=uG g;by_cases c:a<e
 ·exact qG c
 ·have:a=e:=by lia
  subst this;exact uf (by lia)
theorem TiOk.lt{kvs:List (iw×V)}:∀{ts:LY} {q:Int×Int},TiOk kvs q ts->∀p∈ts,HT.lexLt [q.1,q.2] [p.1,p.2]=true
 |[],_,_,_,h=>by cases h
 |u::r,q,h,p,O=>by
  rcases aV.mp O with e|O
  ·rw[e];exact h.1.1
  ·exact IG h.1.1 (TiOk.lt h.2 p O)
theorem TiOk.nodup{kvs:List (iw×V)}:∀{ts:LY} {q:Int×Int},TiOk kvs q ts->ts.Nodup
 |[],_,_=>fA
 |u::r,q,h=>by
  refine bV.mpr ⟨fun K=>?_,TiOk.nodup h.2⟩;have:=TiOk.lt h.2 u K;simp[HT.lexLt]at this
theorem Ky(B:Blt mg)(D:DefAt K mg "dues_stand" (top 32) ["web","thing"] f fd)(Mu:Ok P w K mg base "is_due" (top 30) 2 ["thing"] Bc)(Ma:Ok P w K mg base "marked" (top 11) 1 ["places"] Bg)(Mm:Ok P w K mg base "due_at" (top 31) 1 ["dues"] xi):FnOk P w K mg base iT 4 f fd ["web","thing"] Ah:=by
 refine i6 D.F ["web","thing","ties","last","due","paid"] (by rintro _ _ _ _ ⟨v,ps,ts,y,d,rfl,_⟩;rfl) ?_;rintro _ A _ s H vs Q E X M F g ⟨v,ps,ts,y,d,rfl,o,T,J,hs,h⟩;obtain⟨u,pa,ta,xs,ys,rfl,B',sq,F',i',sz⟩:=o;have F:=jX M;have g:_<PySem.cLine:=aZ F;refine⟨_,(iy (jt (kf (kq (jZ (nU .lst) rfl B.isinstance bN (iG (qv 1) (n5 (v:=.ty "list") rfl B.list dF rfl))))) (iF (iS jT)) jv) (iy (iM 2 X (iN Ma M (iJ (iE (qv 0) iu)))) (iy (iM 3 X (jx (iG (lV lX iu) (lV lX iu)))) (iy (jY bg rfl (jb (qv 1)) (jd 4 X) (iy (jt (PW.pt (mL (kf (kq (iN Mu M (iJ (qv 4))))) (mL (wF (CC F (nB pH (qv 4) nq (nu iu)) (qv 2))) (oM (jc (EZ g) (nB pH (qv 4) nq (nu iu)) (qv 3) (ja _)))))) (iF (iS jT)) jv) (iF (iM 3 X (nB pH (qv 4) nq (nu iu)))))) (iy (iM 5 X (iN Mm M (iJ (qv 1)))) (iF (iS (jZ (tT rfl) rfl B.all fg (iJ (kR ["place","price","paid"] [none,none,some 5] (jb (iE (qv 0) iu)) (jQ (n:=2) rfl (iR (iV 0) (iR (iV 1) jF))) (mf nc (pT F (qv 2) (qv 0) iu) (iQ lW iu (qv 1)) (ja _)))))))))))),?_⟩;have Mn:=qJ J;simp_arith[Mn];cases d with
 | lst ds=>
  rw[Rep]at J;obtain⟨l,zs,rfl,el,r⟩:=J;have Mo:=r.len;simp_arith[lA,lO,iH,B',jl];refine⟨ta,ys,ts,rfl,F',sz,T.t.nodup,T.tl,fun m H1 Mv s1 em p O=>?_⟩;have s2:=s1.trans (iD O (.tup [.int (-1),.int (-1)]));have Mr:=iD O (.tup [.int (-1),.int (-1)]) _ _ em;have ep:upd H1 p (.tup [.int (-1),.int (-1)]) p=some (.tup [.int (-1),.int (-1)]):=ir;generalize upd H1 p (.tup [.int (-1),.int (-1)])=H2 at s2 Mr ep;refine kA (i5 K l) H2 (fun R' A'=>?_) (lG (K:=K) (a:=l) (xs:=zs) (fun i σ I=>∃v4 pl q qs,σ=[some (.ref u),some (.ref l),some (.ref m),some (.ref pl),v4,none]/\Same H I/\I m=some (.dT (mr ts))/\I pl=some (.tup [.int q.1,.int q.2])/\ko ts (-1,-1) ds=(ko ts q (ds.drop i)).map (qs++·)/\j8 H (zs.take i) qs) ⟨none,p,(-1,-1),[],rfl,s2,Mr,ep,by simp,.nil⟩ (fun i σ I _ C=>by obtain⟨_,_,_,_,_,c,_⟩:=C;exact SqL.of (c _ _ el)) ?_ ?_)
  ·unfold i8;walk_at "D";exact⟨l,rfl,⟨_,SqL.of (s2 _ _ el)⟩,A'⟩
  ·rintro i x σ I G ⟨v4,pl,q,qs,rfl,c,Mq,Me,L',W⟩;obtain⟨dt,L8,Mb⟩:=r.at G;have Mc:ds.drop i=dt::ds.drop (i+1):=qR L8;walk_at "D";refine⟨_,dt,rfl,Rep.same c _ Mb,fun H4 s4=>?_⟩;have s5:=c.trans s4;have Mp:=s4 _ _ Mq;have Mf:=s4 _ _ Me;cases K':mZ dt with
   |none=>
    simp_arith[Option.isSome];have U:=h H4 s5;rw[u7 (by rw[L',Mc,ko,K'];rfl)]at U;exact U
   | some p=>
    simp_arith[Option.isSome];have Mt:dt=jM p:=by
     unfold mZ at K';split at K'
     ·rename_i p' e;split at K'
      ·cases K';exact B9 e
      ·cases K'
     ·cases K'
    subst Mt;obtain⟨t,rfl,S⟩:=xT Mb;have Mh:=s5 _ _ S;simp_arith[Mh,tB,xp];refine⟨rE (.int p.1) (.int p.2.1) (.int p.2.2),fun k1 Mi=>?_⟩;rw[sS];generalize j:upd H4 k1 _=H6;obtain⟨s6,e6⟩:=kc Mi j;clear j;refine⟨m,_,rfl,DGet.t (k:=[Sum.inl p.1,Sum.inl p.2.1]) (s6 _ _ Mp) e6,?_⟩;have Ms:=AQ ts (p.1,p.2.1);dsimp only at Ms;refine⟨_,rfl,?_⟩;rw[Ms];by_cases cm:(p.1,p.2.1)∈ts
    ·rw[ao cm,aG (by decide),s6 _ _ Mh];refine⟨rE (.int p.1) (.int p.2.1) (.int p.2.2),fun k2 Ml=>?_⟩;rw[sS];generalize j:upd H6 k2 _=H7;obtain⟨s7,e7⟩:=kc Ml j;clear j;have s8:=s6.trans s7;simp_arith[yJ,e7,s8 _ _ Mf];by_cases cl:mR [p.1,p.2.1] [q.1,q.2]=true
     ·rw[aI cl];have U:=h H7 (s5.trans s8);rw[u7 (by rw[L',Mc,ko,K'];dsimp only;rw[if_neg (fun z=>by rw[z.2]at cl;cases cl)];rfl)]at U;exact U
     ·rw[aG cl,s8 _ _ Mh];refine⟨rE (.int p.1) (.int p.2.1) (.int p.2.2),fun k3 Mj=>?_⟩;rw[sS];have s9:=s8.trans (iD Mj (.tup [.int p.1,.int p.2.1]));refine⟨_,k3,(p.1,p.2.1),qs++[p],rfl,s5.trans s9,s9 _ _ Mp,ir,?_,?_⟩
      ·rw[L',Mc,ko,K'];dsimp only;rw[aI ⟨cm,eX.mpr cl⟩,Option.map_map]
       congr 1
       funext w;show qs++p::w=(qs++[p])++w;rw[bp];rfl
      ·rw[ji G];exact j3 W ⟨t,rfl,S⟩
    ·rw[aA cm,aI (by decide)];have U:=h H6 (s5.trans s6);rw[u7 (by rw[L',Mc,ko,K'];dsimp only;rw[if_neg (fun z=>cm z.1)];rfl)]at U;exact U
  ·rintro σ I ⟨v4,pl,q,qs,rfl,c,Mq,Me,L',W⟩;rw[dH (by lia),ko,Option.map_some,aS]at L';rw[aD]at W;walk_at "D";refine⟨l,zs,qs,rfl,c _ _ el,j7 c.tups W,?_,fun d kvs H5 s5 Mg pd=>?_⟩
   ·rw [<- aq W,Mo]; exact hs _ rfl
   have s6:=c.trans s5;refine jA (i5 K pa) H5 (fun R Y=>?_) (fun z G'=>jn ps.length (fun i L I=>∃Z w2,L=[Z,w2,some (.ref d)]/\Same H5 I/\I z=some (.lst (((ps.take i).map fun p=>decide (iP qs p.1<=2*p.2)).map V.bl))) ⟨none,none,rfl,iD G' _,ir⟩ ?_ ?_)
   ·unfold i8;simp_arith[iH,s6 _ _ B',iW];exact⟨pa,rfl,⟨_,SqL.of (s6 _ _ sq)⟩,Y⟩
   ·rintro i L I hi ⟨Z,w2,rfl,s7,ez⟩;have L9:=aq i';have x1:xs[i]? =some (xs[i]'(by lia)):=gE _;have s8:=s6.trans s7;refine⟨⟨_,_,SqL.of (s8 _ _ sq),x1⟩,?_⟩;rintro y H' ⟨rfl,N⟩;have E1:=aJ (x1.symm.trans (N _ (SqL.of (s8 _ _ sq))));obtain⟨pr,J',px⟩:=jm i' x1;rw[E1]at px;obtain⟨b,rfl,U⟩:=px.same s8;simp_arith[U,s7 _ _ Mg,pd.get];refine⟨⟨_,rfl⟩,nF (by decide) (by decide),_,ez,?_,_,_,rfl,i4 s7 G',?_⟩
    ·rw[aa,aa,aP];have:=T.pl;exact iU (by lia)
    ·rw[ir,ji J',af,af];rfl
   ·rintro L I ⟨Z,w2,rfl,s7,ez⟩;have s8:=s6.trans s7;refine⟨⟨_,SqL.of (s8 _ _ sq),by have:=aq i';lia⟩,?_⟩;rw[aD]at ez;simp_arith[ez];refine⟨_,rfl,?_⟩;have U:=h I s8;rw[yp L']at U;have ew:(ps.map fun p=>decide (iP qs p.1<=2*p.2)).all id=nS ps qs:=by rw[fU];rfl
    rw[ew];exact U
 |_=>simp_arith[lA,lO];exact h H (Same.refl _)
noncomputable def ku:LY->List Dt->Option (LY)
 |[],[]=>some []
 |p::ps,d::ds=>match nL d with
  |some h=>if h.1=p.1/\0<=h.2/\h.2<=2 then(ku ps ds).map (h::·)else none
  |none=>none
 |_,_=>none
noncomputable def jJ(hs:LY)(n:Int):Int:=match iX (jE hs) (Sum.inl n:iw)with
 |some (.int i)=>i
 |_=>0
noncomputable def nV(ts hs:LY):Bool:=ts.all fun t=>decide (jJ hs t.1+jJ hs t.2 ≥ 2)
noncomputable def rg(ps ts:LY):Dt->Bool
 | .lst ds=>match ku ps ds with
  |some hs=>nV ts hs
  |none=>false
 |_=>false
theorem qY(h:ku ps ds=none):rg ps ts (.lst ds)=false:=by
 show(match ku ps ds with |some hs=>nV ts hs|none=>false)=false;rw[h]
theorem x6(h:ku ps ds=some hs):rg ps ts (.lst ds)=nV ts hs:=by
 show(match ku ps ds with |some hs=>nV ts hs|none=>false)=_;rw[h]
theorem BD:∀{ps:LY} {ds:List Dt},¬ds.length=ps.length->ku ps ds=none
 |[],[],h=>absurd rfl h
 |[],_::_,_=>rfl
 |_::_,[],_=>rfl
 |p::ps,d::ds,h=>by
  rw[ku,BD (ps:=ps) (ds:=ds) (fun z=>h (by rw[List.length_cons,List.length_cons,z]))];split
  ·split<;>rfl
  ·rfl
theorem rX{n:Int}(S:(hs.map (·.1)).Nodup)(h:n∈hs.map (·.1)):iX (jE hs) (Sum.inl n:iw)=some (.int (jJ hs n)):=by
 obtain⟨p,O,rfl⟩:=av.mp h;have e:=qQ S O;unfold jJ;rw[e]
theorem TiOk.in{kvs:List (iw×V)}:∀{ts:LY} {q:Int×Int},TiOk kvs q ts->∀p∈ts,p.1<p.2/\je kvs p.1=true/\je kvs p.2=true
 |[],_,_,_,h=>by cases h
 |u::r,q,h,p,O=>by
  rcases aV.mp O with e|O
  ·rw[e];exact h.1.2
  ·exact TiOk.in h.2 p O
theorem nk:∀{ps:LY} {n:Int},je (jE ps) n=true->n∈ps.map (·.1)
 |[],_,h=>by cases h
 | p::r,n,h=>by
  by_cases c:p.1=n
  ·rw [<- c]; exact aE
  ·refine au _ (nk ?_);unfold je jE iX at h;rw[ai,List.find?_cons]at h;dsimp only at h;rw[aA (fun z=>c (bR z))]at h;exact h
noncomputable def B1:Sp:=fun vs H Q _=>∃v ps ts y d,vs=[v,y]/\jbl H v ps ts/\WebOk ps ts/\Rep H d y/\∀H',Same H H'->Q (.bl (rg ps ts d)) H'
noncomputable def nO(ps hs:LY):Int:=(hs.map fun h=>jJ ps h.1*h.2).sum
noncomputable def A8:Sp:=fun vs H Q _=>∃v ps ts l zs hs,vs=[v,.ref l]/\jbl H v ps ts/\WebOk ps ts/\H l=some (.lst zs)/\Prs H zs hs/\hs.length<=200/\(∀h∈hs,h.1∈ps.map (·.1)/\0<=h.2/\h.2<=2)/\∀H',Same H H'->Q (.int (nO ps hs)) H'
theorem KZ(B:Blt mg)(D:DefAt K mg "halves_stand" (top 29) ["web","thing"] f fd)(Mo:Ok P w K mg base "is_pair_of_wholes" (top 9) 2 ["thing"] Bh):FnOk P w K mg base iT 3 f fd ["web","thing"] B1:=by
 refine i6 D.F ["web","thing","pair","known","halves"] (by rintro _ _ _ _ ⟨v,ps,ts,y,d,rfl,_⟩;rfl) ?_;rintro _ A _ s H vs Q E X M g o ⟨v,ps,ts,y,d,rfl,e,T,J,h⟩;obtain⟨u,pa,ta,xs,ys,rfl,B',sq,F',i',sz⟩:=e;have L9:=aq i';have g:=jX M;have o:_<PySem.cLine:=aZ g;refine⟨_,(iy (jt (PW.pt (mL (kf (kq (jZ (nU .lst) rfl B.isinstance bN (iG (qv 1) (n5 (v:=.ty "list") rfl B.list dF rfl))))) (oM (jc tH (kZ B (qv 1)) (kZ B (iE (qv 0) iu)) (ja _))))) (iF (iS jT)) jv) (iy (jY bg rfl (xf rfl B.zip (iG (qv 1) (iE (qv 0) iu))) (jQ (n:=2) rfl (iR (jd 2 X) (iR (jd 3 X) jF))) (iF (jt (PW.pt (mL (kf (kq (iN Mo M (iJ (qv 2))))) (mL (jc tH (iE (qv 2) iu) (iE (qv 3) iu) (ja _)) (oM (kf (BV nc nc iu (iE (qv 2) iu) iu)))))) (iF (iS jT)) jv))) (iy (iM 4 X (nC (qO rfl) rfl B.dict cD (iJ (qv 1)))) (iF (iS (jZ (tT rfl) rfl B.all fg (iJ (kR ["one","other","halves"] [none,none,some 4] (jb (iE (qv 0) iu)) (jQ (n:=2) rfl (iR (iV 0) (iR (iV 1) jF))) (mf vE (iQ ju (lM g (qv 2) (qv 0) (fun _ _=>rfl)) (lM g (qv 2) (qv 1) (fun _ _=>rfl))) iu (ja _)))))))))),?_⟩;have Mj:=qJ J;simp_arith[Mj];cases d with
 | lst ds =>
  rw[Rep]at J;obtain⟨l,zs,rfl,el,r⟩:=J;have Mm:=r.len;simp_arith[lA,lO,iH,B',iW,el,sq];by_cases cl:zs.length=xs.length
  ·rw [ao (show(zs.length:Int)=(xs.length:Int) by lia),aG (by decide)];refine kA (ou true K l pa) H (fun R' A'=>?_) (F5 (K:=K) (a:=l) (c:=pa) (xs:=zs) (ys:=xs) (fun i σ H1=>∃m N hs,σ=[some (.ref u),some (.ref l),m,N,none]/\Same H H1/\ku ps ds=(ku (ps.drop i) (ds.drop i)).map (hs++·)/\Prs H (zs.take i) hs/\hs.map (·.1)=(ps.take i).map (·.1)) cl ⟨none,none,[],rfl,Same.refl _,by simp,.nil,rfl⟩ (fun i σ H1 _ C=>by obtain⟨_,_,_,_,s1,_⟩:=C;exact⟨SqL.of (s1 _ _ el),SqL.of (s1 _ _ sq)⟩) ?_ ?_)
   ·unfold tS;simp_arith[iH,B',iW];exact⟨true,l,pa,rfl,⟨zs,by unfold kB;rw[aI rfl];exact SqL.of el⟩,⟨xs,by unfold kB;rw[aI rfl];exact SqL.of sq⟩,A'⟩
   ·rintro i x y σ H1 t G j ⟨m,N,hs,rfl,s1,L',W,F⟩ q;obtain⟨dt,L8,Me⟩:=r.at G;obtain⟨p,O,pq⟩:=jm i' j;rw[qR L8,qR O,ku]at L';have s2:Same H (upd H1 t (.tup [x,y])):=s1.trans (iD q _);have Mi:upd H1 t (.tup [x,y]) t=some (.tup [x,y]):=ir;generalize upd H1 t (.tup [x,y])=H2 at s2 Mi;obtain⟨b2,rfl,Ma⟩:=pq.same s2;simp_arith[Mi];refine⟨_,nL dt,rfl,⟨dt,Rep.same s2 _ Me,rfl⟩,?_⟩;cases Ml:nL dt with
    |none=>
     simp_arith[Option.isSome];have U:=h H2 s2;rw[qY (by rw[L',Ml];rfl)]at U;exact U
    | some k=>
     have Mn:=BQ Ml;rw[Mn]at Me;have pk:=BN Me;obtain⟨b1,rfl,Mf⟩:=pk.same s2;rw[Ml]at L';dsimp only at L';simp_arith[Option.isSome,iH,Mf,Ma,iW,jl];by_cases c1:k.1=p.1
     ·by_cases c2:0<=k.2
      ·by_cases c3:k.2<=2
       ·rw[aI ⟨c1,c2,c3⟩]at L';simp only[c1,ck,bK,aL,if_false,ao c2,ao c3];have S:∃m N Mh,[some (V.ref u),some (.ref l),some (.ref b1),some (.ref b2),none]=[some (V.ref u),some (.ref l),m,N,none]/\Same H H2/\ku ps ds=(ku (ps.drop (i+1)) (ds.drop (i+1))).map (Mh++·)/\Prs H (zs.take (i+1)) Mh/\Mh.map (·.1)=(ps.take (i+1)).map (·.1):=by
         refine⟨_,_,hs++[k],rfl,s2,?_,?_,?_⟩
         ·rw[L',Option.map_map]
          congr 1
          funext w;show hs++k::w=(hs++[k])++w;rw[bp];rfl
         ·rw[ji G];exact j3 W pk
         ·rw[ji O,af,af,F,List.map_singleton,List.map_singleton,c1]
        first|exact S|(walk_at "D";exact S)
       ·have U:=h H2 s2;rw[qY (by rw[L',aG (fun z=>c3 z.2.2)];rfl)]at U;simp only[c1,ck,bK,aL,if_false,ao c2,aA c3]
        first|exact U|(walk_at "D";exact U)
      ·have U:=h H2 s2;rw[qY (by rw[L',aG (fun z=>c2 z.2.1)];rfl)]at U;simp only[c1,ck,bK,aL,if_false,aA c2]
       first|exact U|(walk_at "D";exact U)
     ·have U:=h H2 s2;rw[qY (by rw[L',aG (fun z=>c1 z.1)];rfl)]at U;simp only[aA c1]
      first|exact U|(walk_at "D";exact U)
   ·rintro σ H1 ⟨m,N,hs,rfl,s1,L',W,F⟩;rw[dH (show ps.length<=zs.length by lia),dH (show ds.length<=zs.length by lia),ku,Option.map_some,aS]at L';rw[aD]at W;rw[cu (by lia)]at F;have nd:(hs.map (·.1)).Nodup:=by rw[F];exact T.p.nodup
    have K':=aq W;have Mb:=T.pl;simp_arith[s1 _ _ el];refine⟨jE hs,uK (Prs.same s1 W),by lia,u9 nd,fun d Mc=>?_⟩;have s2:Same H (upd H1 d (.dK (jE hs))):=s1.trans (iD Mc _);have ed:upd H1 d (.dK (jE hs)) d=some (.dK (jE hs)):=ir;generalize upd H1 d (.dK (jE hs))=H2 at s2 ed;refine jA (i5 K ta) H2 (fun R Y=>?_) (fun z G'=>jn ts.length (fun i L I=>∃m N,L=[m,N,some (.ref d)]/\Same H2 I/\I z=some (.lst (((ts.take i).map fun t=>decide (jJ hs t.1+jJ hs t.2 ≥ 2)).map V.bl))) ⟨none,none,rfl,iD G' _,ir⟩ ?_ ?_)
    ·unfold i8;simp_arith[iH,s2 _ _ B',jl];exact⟨ta,rfl,⟨_,SqL.of (s2 _ _ F')⟩,Y⟩
    ·rintro i L I hi ⟨m,N,rfl,s7,Z⟩;have Mg:=aq sz;have x1:ys[i]? =some (ys[i]'(by lia)):=gE _;have s8:=s2.trans s7;refine⟨⟨_,_,SqL.of (s8 _ _ F'),x1⟩,?_⟩;rintro y H' ⟨rfl,j⟩;have E1:=aJ (x1.symm.trans (j _ (SqL.of (s8 _ _ F'))));obtain⟨pr,J',px⟩:=jm sz x1;rw[E1]at px;obtain⟨b,rfl,U⟩:=px.same s8;obtain⟨_,k1,k2⟩:=T.t.in pr (aC J');have v1:=rX nd (by rw[F];exact nk k1);have v2:=rX nd (by rw[F];exact nk k2);simp_arith[U,s7 _ _ ed,v1,v2];refine⟨_,Z,?_,_,_,rfl,i4 s7 G',?_⟩
     ·rw[aa,aa,aP];have:=T.tl;exact iU (by lia)
     ·rw[ir,ji J',af,af];rfl
    ·rintro L I ⟨m,N,rfl,s7,Z⟩;have s8:=s2.trans s7;refine⟨⟨_,SqL.of (s8 _ _ F'),by have:=aq sz;lia⟩,?_⟩;rw[aD]at Z;simp_arith[Z];refine⟨_,rfl,?_⟩;have U:=h I s8;rw[x6 L']at U;have ew:(ts.map fun t=>decide (jJ hs t.1+jJ hs t.2 ≥ 2)).all id=nV ts hs:=by rw[fU];rfl
     rw[ew];exact U
  ·have U:=h H (Same.refl _);rw[qY (BD (by lia))]at U;rw[aA (show ¬(zs.length:Int)=(xs.length:Int) by lia),aI (by decide)];exact U
 |_=>simp_arith[lA,lO];exact h H (Same.refl _)
theorem K9(B:Blt mg)(D:DefAt K mg "cost_in_halves" (top 33) ["web","halves"] f fd):FnOk P w K mg base iT 1 f fd ["web","halves"] A8:=by
 refine i6 D.F ["web","halves","prices"] (by rintro _ _ _ _ ⟨v,ps,ts,l,zs,hs,rfl,_⟩;rfl) ?_;rintro _ A _ s H vs Q E X M F o ⟨v,ps,ts,l,zs,hs,rfl,e,T,W,C,Z,j,h⟩;obtain⟨u,g,ta,xs,ys,rfl,N,G,i',x,t⟩:=e;have A':=aq x;have F:=jX M;have o:_<PySem.cLine:=aZ F;refine⟨_,(iy (iM 2 X (nC (qO rfl) rfl B.dict cD (iJ (iE (qv 0) iu)))) (iF (iS (jZ (rL rfl) rfl B.sum dM (iJ (kR ["place","h","prices"] [none,none,some 2] (jb (qv 1)) (jQ (n:=2) rfl (iR (iV 0) (iR (iV 1) jF))) (iQ lW (lM F (qv 2) (qv 0) (fun _ _=>rfl)) (qv 1)))))))),?_⟩;simp_arith[iH,N,iW,G];have S:=T.pl;refine⟨jE ps,uK x,by lia,u9 T.p.nodup,fun d B'=>?_⟩;have s2:Same H (upd H d (.dK (jE ps))):=iD B' _;have J:upd H d (.dK (jE ps)) d=some (.dK (jE ps)):=ir;generalize upd H d (.dK (jE ps))=H2 at s2 J;have sz:=aq C;refine jA (i5 K l) H2 (fun R Y=>?_) (fun z a=>jn hs.length (fun i L I=>∃m r,L=[m,r,some (.ref d)]/\Same H2 I/\I z=some (.lst (((hs.take i).map fun h=>jJ ps h.1*h.2).map V.int))) ⟨none,none,rfl,iD a _,ir⟩ ?_ ?_)
 ·unfold i8;walk_at "D";exact⟨l,rfl,⟨_,SqL.of (s2 _ _ W)⟩,Y⟩
 ·rintro i L I hi ⟨m,r,rfl,q,k⟩;have x1:zs[i]? =some (zs[i]'(by lia)):=gE _;have p:=s2.trans q;refine⟨⟨_,_,SqL.of (p _ _ W),x1⟩,?_⟩;rintro y H' ⟨rfl,O⟩;have E1:=aJ (x1.symm.trans (O _ (SqL.of (p _ _ W))));obtain⟨pr,sq,c⟩:=jm C x1;rw[E1]at c;obtain⟨b,rfl,U⟩:=c.same p;obtain⟨k1,k2,k3⟩:=j pr (aC sq);have v1:=rX T.p.nodup k1;simp_arith[U,q _ _ J,v1];refine⟨qf (by lia) (by lia),_,k,?_,_,_,rfl,i4 q a,?_⟩
  ·rw[aa,aa,aP];exact iU (by lia)
  ·rw[ir,ji sq,af,af];rfl
 ·rintro L I ⟨m,r,rfl,q,k⟩;have p:=s2.trans q;refine⟨⟨_,SqL.of (p _ _ W),by lia⟩,?_⟩;rw[aD]at k;exact⟨z,_,rfl,k,h I p⟩
theorem pX:∀{ps:LY} {ds:List Dt} {hs:LY},ku ps ds=some hs->ds=hs.map jz/\hs.map (·.1)=ps.map (·.1)/\∀h∈hs,0<=h.2/\h.2<=2
 |[],[],hs,h=>by cases h;exact⟨rfl,rfl,fun _ z=>by cases z⟩
 |[],_::_,_,h=>by cases h
 |_::_,[],_,h=>by cases h
 | p ::ps,d::ds,hs,h=>by
  rw[ku]at h;split at h
  ·rename_i k F;split at h
   ·rename_i c;cases e:ku ps ds with
    |none=>rw[e]at h;cases h
    |some r=>
     rw[e]at h;cases h;obtain⟨m,N,i⟩:=pX e;refine ⟨by rw [ai,<- m,BQ F],by rw [ai,ai,N,c.1],fun z L=>?_⟩;rcases aV.mp L with e|L
     ·rw[e];exact c.2
     ·exact i z L
   ·cases h
  ·cases h
theorem Cq(h:mZ d=some p):d=jM p/\1<=p.2.2:=by
 unfold mZ at h;split at h
 ·rename_i k e;split at h
  ·rename_i c;cases h;exact⟨B9 e,c⟩
  ·cases h
 ·cases h
theorem su{ts:LY}:∀{ds:List Dt} {q:Int×Int} {qs:LX},ko ts q ds=some qs->ds=qs.map jM/\∀d∈qs,(d.1,d.2.1)∈ts/\1<=d.2.2
 |[],_,qs,h=>by cases h;exact⟨rfl,fun _ z=>by cases z⟩
 | d ::ds,q,qs,h=>by
  rw[ko]at h;split at h
  ·rename_i k F;split at h
   ·rename_i c;cases e:ko ts (k.1,k.2.1) ds with
    |none=>rw[e]at h;cases h
    |some r=>
     rw[e]at h;cases h;obtain⟨m,i⟩:=su e;refine ⟨by rw [ai,<- m,(Cq F).1],fun z L=>?_⟩;rcases aV.mp L with e|L
     ·rw[e];exact⟨c.1,(Cq F).2⟩
     ·exact i z L
   ·cases h
  ·cases h
theorem BX{H:Hp}:∀{hs:LY} {zs:List V},Reps H (hs.map jz) zs->Prs H zs hs
 |[],zs,h=>by rw[bO,Reps]at h;subst h;exact .nil
 |k::r,zs,h=>by
  rw[ai,Reps]at h;obtain⟨v,vs,rfl,h1,h2⟩:=h;exact .cons (BN h1) (BX h2)
theorem BY{H:Hp}:∀{hs:LX} {zs:List V},Reps H (hs.map jM) zs->j8 H zs hs
 |[],zs,h=>by rw[bO,Reps]at h;subst h;exact .nil
 |k::r,zs,h=>by
  rw[ai,Reps]at h;obtain⟨v,vs,rfl,h1,h2⟩:=h;exact .cons (xT h1) (BY h2)
noncomputable def mq(ps ts:LY)(a b:Dt):Bool:=match a,b with
 | .lst as,.lst bs=>match ku ps as,ko ts (-1,-1) bs with
  |some hs,some qs=>nV ts hs&&(nS ps qs&&decide ((qs.map (·.2.2)).sum=nO ps hs))
  |_,_=>false
 |_,_=>false
noncomputable def mD(ps ts:LY):Dt->Bool
 | .tup [a,b]=>mq ps ts a b
 |_=>false
theorem sv:mD ps ts (.tup [a,b])=mq ps ts a b:=rfl
theorem IV(h:¬ds.length=2):mD ps ts (.tup ds)=false:=by
 unfold mD;split
 ·rename_i e;cases e;exact absurd rfl h
 ·rfl
theorem Fe(h:rg ps ts a=false):mq ps ts a b=false:=by
 unfold mq;split
 ·rename_i as bs;split
  ·rename_i hs qs e1 e2;rw[x6 e1]at h;rw[h];rfl
  ·rfl
 ·rfl
theorem Ff(h:qy ps ts b=false):mq ps ts a b=false:=by
 unfold mq;split
 ·rename_i as bs;split
  ·rename_i hs qs e1 e2;rw[yp e2]at h;rw[h,de,fb]
  ·rfl
 ·rfl
theorem Iq(h:rg ps ts a=true):∃hs,a= .lst (hs.map jz)/\ku ps (hs.map jz)=some hs/\nV ts hs=true:=by
 cases a with
 | lst as=>
  cases e:ku ps as with
  |none=>rw[qY e]at h;cases h
  |some hs=>
   rw[x6 e]at h;have:=(pX e).1;subst this;exact⟨hs,rfl,e,h⟩
 |_=>cases h
theorem Js(h:qy ps ts a=true):∃qs,a= .lst (qs.map jM)/\ko ts (-1,-1) (qs.map jM)=some qs/\nS ps qs=true:=by
 cases a with
 | lst as=>
  cases e:ko ts (-1,-1) as with
  |none=>rw[u7 e]at h;cases h
  |some hs=>
   rw[yp e]at h;have:=(su e).1;subst this;exact⟨hs,rfl,e,h⟩
 |_=>cases h
noncomputable def Ae(d:Dt):Prop:=∀a b,d= .tup [a,b]->Ad b
noncomputable def Bi:Sp:=fun vs H Q _=>∃v ps ts y d,vs=[v,y]/\jbl H v ps ts/\WebOk ps ts/\Rep H d y/\Ae d/\∀H',Same H H'->Q (.bl (mD ps ts d)) H'
theorem K2(B:Blt mg)(D:DefAt K mg "paper_stands" (top 34) ["web","thing"] f fd)(G':Ok P w K mg base "is_tuple_of" (top 8) 1 ["thing","many"] ui)(J':Ok P w K mg base "halves_stand" (top 29) 3 ["web","thing"] B1)(L9:Ok P w K mg base "dues_stand" (top 32) 4 ["web","thing"] Ah)(L':Ok P w K mg base "cost_in_halves" (top 33) 1 ["web","halves"] A8):FnOk P w K mg base iT 5 f fd ["web","thing"] Bi:=by
 refine i6 D.F ["web","thing"] (by rintro _ _ _ _ ⟨v,ps,ts,y,d,rfl,_⟩;rfl) ?_;rintro _ A _ s H vs Q E X M _ _ ⟨v,ps,ts,y,d,rfl,e,T,J,hs,h⟩;refine⟨_,(iy (jt (PW.pt (mL (kf (kq (iN G' M (iG (qv 1) iu)))) (mL (kf (kq (iN J' M (iG (qv 0) (iE (qv 1) iu))))) (oM (kf (kq (iN L9 M (iG (qv 0) (iE (qv 1) iu))))))))) (iF (iS jT)) jv) (iF (iS (mf ly (jZ (rL rfl) rfl B.sum dM (iJ (kR ["one","other","amount"] [none,none,none] (jb (iE (qv 1) iu)) (jQ (n:=3) rfl (iR (iV 0) (iR (iV 1) (iR (iV 2) jF)))) (qv 2)))) (iN L' M (iG (qv 0) (iE (qv 1) iu))) (ja _))))),?_⟩;walk_at "D";refine⟨_,d,2,rfl,J,?_⟩;cases d with
 | tup ds=>
  by_cases c2:ds.length=2
  ·rw [show mm 2 (.tup ds)=true from ao (by lia)]
   match ds,c2 with
   |[a,b],_=>
   have F':=hs a b rfl;rw[Rep]at J;obtain⟨g,vs,rfl,q,r⟩:=J;rw[Reps]at r;obtain⟨v1,r1,rfl,e1,r⟩:=r;rw[Reps]at r;obtain⟨v2,l,rfl,e2,r⟩:=r;rw[Reps]at r;subst r;simp_arith[iH,q,iW,jl];refine⟨_,ps,ts,_,a,rfl,e,T,e1,fun H1 s1=>?_⟩;cases ch:rg ps ts a with
   |false=>
    walk_at "D";have U:=h H1 s1;rw[show mD ps ts (.tup [a,b])=mq ps ts a b from rfl,Fe ch]at U;exact U
   | true=>
    simp_arith[iH,s1 _ _ q,jl];refine⟨_,ps,ts,_,b,rfl,e.same s1,T,Rep.same s1 _ e2,F',fun H2 s2=>?_⟩;have W:=s1.trans s2;cases cd:qy ps ts b with
    |false=>
     walk_at "D";have U:=h H2 W;rw[show mD ps ts (.tup [a,b])=mq ps ts a b from rfl,Ff cd]at U;exact U
    | true=>
     obtain⟨c,rfl,j,K'⟩:=Iq ch;obtain⟨qs,rfl,qo,G⟩:=Js cd;rw[Rep]at e1 e2;obtain⟨l1,C,rfl,A',r1⟩:=e1;obtain⟨l2,Z,rfl,sz,l⟩:=e2;have p1:=BX r1;have p2:=BY l;obtain⟨_,F,L8⟩:=pX j;have sq:=aq p2;have Ma:qs.length<=200:=by have:=F' _ rfl;rw[aa]at this;exact this
     simp_arith[iH,W _ _ q,jl,iW];refine jA (i5 K l2) H2 (fun R Y=>?_) (fun z t=>jn qs.length (fun i L I=>∃m N w3,L=[m,N,w3]/\Same H2 I/\I z=some (.lst (((qs.take i).map (·.2.2)).map V.int))) ⟨none,none,none,rfl,iD t _,ir⟩ ?_ ?_)
     ·unfold i8;simp_arith[iH,W _ _ q,jl];exact⟨l2,rfl,⟨_,SqL.of (W _ _ sz)⟩,Y⟩
     ·rintro i L I hi ⟨m,N,w3,rfl,u,x⟩;have x1:Z[i]? =some (Z[i]'(by lia)):=gE _;have p:=W.trans u;refine⟨⟨_,_,SqL.of (p _ _ sz),x1⟩,?_⟩;rintro y H' ⟨rfl,O⟩;have E1:=aJ (x1.symm.trans (O _ (SqL.of (p _ _ sz))));obtain⟨pr,i',o⟩:=jm p2 x1;rw[E1]at o;obtain⟨b,rfl,U⟩:=Tp.tups o p.tups;simp_arith[U];refine⟨_,x,?_,_,_,_,rfl,i4 u t,?_⟩
      ·rw[aa,aa,aP];exact iU (by lia)
      ·rw[ir,ji i',af,af];rfl
     ·rintro L I ⟨m,N,w3,rfl,u,x⟩;have p:=W.trans u;refine⟨⟨_,SqL.of (p _ _ sz),by lia⟩,?_⟩;rw[aD]at x;refine⟨z,_,rfl,x,?_⟩;simp only[p _ _ q,iW];have S:c.length=ps.length:=by
       have:=cA List.length F;rw[aa,aa]at this;exact this
      have Mb:=T.pl;refine ⟨_,ps,ts,l1,C,c,rfl,e.same p,T,p _ _ A',Prs.same p p1,by lia,fun k B'=>⟨by rw [<- F]; exact cG B',L8 k B'⟩,fun H9 s9=>?_⟩;have U:=h H9 (p.trans s9);have e9:mD ps ts (.tup [.lst (c.map jz),.lst (qs.map jM)])=decide ((qs.map (·.2.2)).sum=nO ps c):=by
       rw[sv];unfold mq;dsimp only;rw[j,qo];dsimp only;rw[K',G,cz,cz]
      rw[e9]at U;exact U
  ·rw[show mm 2 (.tup ds)=false from aA (by lia)];walk_at "D";have U:=h H (Same.refl _);rw[IV c2]at U;exact U
 |_=>simp_arith[mm];exact h H (Same.refl _)
theorem xX:∀(ps:LY),j5 (ps.map jz)<=1
 |[]=>by rw[bO,j5];lia
 |p::r=>by
  rw[ai,j5];have:=xX r;have e:kX (jz p)=1:=rfl;lia
theorem JG(B:Blt mg)(D:DefAt K mg "_law_own" (top 52) ["_law_web_here"] f fd):FnOk P w K mg base iT 1 f fd ["_law_web_here"] Af:=by
 refine i6 D.F ["_law_web_here"] (by rintro _ _ _ _ ⟨v,ps,ts,rfl,_⟩;rfl) ?_;rintro _ A _ s H vs Q E X M F o ⟨v,ps,ts,rfl,V,h⟩;obtain⟨u,G,ta,xs,ys,rfl,N,Y,i,j,T⟩:=id V;have F:=jX M;have o:_<PySem.cLine:=aZ F;refine⟨_,(iF (iS (jx (iG (nC BU rfl B.list dF (iJ (iE (qv 0) iu))) (nC BU rfl B.list dF (iJ (iE (qv 0) iu))))))),?_⟩;simp_arith[iH,N,Y,iW,jl];intro l1 h1;have s1:Same H (upd H l1 (.lst xs)):=iD h1 _;simp_arith[iH,s1 _ _ N,s1 _ _ i,iW,jl];intro l2 h2;have s2:Same H (upd (upd H l1 (.lst xs)) l2 (.lst ys)):=s1.trans (iD h2 _);intro t b;have W:Same (upd (upd H l1 (.lst xs)) l2 (.lst ys)) (upd (upd (upd H l1 (.lst xs)) l2 (.lst ys)) t (.tup [.ref l1,.ref l2])):=iD b _;refine h _ _ (s2.trans W) ⟨l1,l2,xs,ys,h1,s1.free h2,iO ir h2,ir,W _ _ (iD h2 _ _ _ ir),W _ _ ir,Prs.same (s2.trans W) j,Prs.same (s2.trans W) T⟩
end
end My
namespace L2
open PySem PySem.Spec PyProof.Rows
section
variable{prog:Program}{w:World}{A:Around}{R:Result->Shared->Prop}{I:Addr}{fp wr:List Addr}{n j:Nat}{P:Nat->Value->Prop}{St:Nat->Heap->Prop}{X:Cx}{val:Nat->Int}{m:Int}
noncomputable def jmy(val:Nat->Int)(n:Nat)(m:Int):Prop:=(∃i,i<n/\m=val i)/\∀i,i<n->m<=val i
theorem jmy.up(h:jmy val j m)(U:val j<m):jmy val (j+1) (val j):=
 ⟨⟨j,fO _,rfl⟩,fun i hi=>by
  rcases dZ.mp hi with z|z
  ·have:=h.2 i z;lia
  ·rw[z];exact cg _⟩
theorem jmy.keep(h:jmy val j m)(U:¬val j<m):jmy val (j+1) m:=
 ⟨let⟨i,hi,e⟩:=h.1;⟨i,dQ hi,e⟩,fun i hi=>by
  rcases dZ.mp hi with z|z
  ·exact h.2 i z
  ·rw[z];lia⟩
theorem uI:(toString "min"++toString ".loop":String)="min.loop":=by decide
theorem J0(W:Walks prog w A.in1 I fp wr n P St)(val:Nat->Int)(a:∀i v,P i v->∃t:Tok,v=Value.int (val i) t)(kw:L5)(S:Addr)(N:S∉fp):
  ∀(k j:Nat) (s:Shared) (m:Int) (t:Tok) (c:Nat),n-j=k->j<=n->St j s.heap->jmy val j m->
  s.heap.get? S=some {cls:=.type "list",dict:=none,data:=.seq #[.int m t,.int m t] c,slots:=#[]}->
  (∀T t' h' tk,jmy val n T->(∀b o,b∉wr->b≠S->s.heap.get? b=some o->h'.get? b=some o)->R (.ok (.ret (.int T t'))) {s with heap:=h',toks:=tk})->
  codeAny (model prog w) A (.builtin "min.loop" ⟨[.ref I,.none,.ref S],kw⟩) R s:=by
 have r:S∉wr:=fun z=>N (W.sub _ z);intro k
 induction k with
 |zero=>
  intro j s m t c F d J U K l;have g:j=n:=by lia
  subst g;refine cW fS ?_;rw[cn cT _];show wpAny _ A.in1 (seqItems? (.ref S)>>=_) _ _ s;refine ae (bY K rfl ?_);show wpAny _ A.in1 (tryCatch (pyNext (.ref I)) _>>=_) _ _ s;refine ae (cQ (W.done s _ _ J fun h' tk O=>?_));have y:=O S _ r K;show wpAny _ A.in1 (updateSeq S (fun _=>#[])>>=_) _ _ _;refine ae ?_;refine eI y rfl (ae (dq (aM ?_)));exact l m t _ tk U fun b o h p e=>(bJ _ _ (c7 p)).trans (O b o h e)
 | succ k E=>
  intro j s m t c F d J U K l;have B:j<n:=by lia
  refine cW fS ?_;rw[cn cT _];show wpAny _ A.in1 (seqItems? (.ref S)>>=_) _ _ s;refine ae (bY K rfl ?_);show wpAny _ A.in1 (tryCatch (pyNext (.ref I)) _>>=_) _ _ s;refine ae (cQ (W.item j s _ _ B J fun v h' tk f L O=>?_));obtain⟨t',rfl⟩:=a j v f;have y:=O S _ r K;show wpAny _ A.in1 (tryCatch (holding [.int (val j) t',.int (val j) t'] (richCompare .Lt (.int (val j) t') (.int m t)>>=_)) _>>=_) _ _ _;refine ae (cQ (bQ (ae (lt_int ?_))));refine ae (bQ (cj ?_));refine ae (dq (aM ?_));by_cases Y:val j<m
  ·rw[ao (show val j<m from Y)];simp only[if_true];refine ae ?_;refine eI y rfl (ae (dq ?_));rw[uI];refine aM ⟨cO cT _,E (j+1) _ (val j) t' _ (by lia) B (W.frame _ _ _ L fun b q o e=>?_) (U.up Y) (cY _ y rfl) fun T u V C D Z=>?_⟩
   ·exact(bJ _ _ (fun z:S=b=>N (by rw[z];exact q))).trans e
   ·exact l T u V C D fun b o h p e=>Z b o h p ((bJ _ _ (c7 p)).trans (O b o h e))
  ·rw[aA (show ¬val j<m from Y)];simp only[aL,if_false];refine ae (dq ?_);rw[uI];refine aM ⟨cO cT _,E (j+1) _ m t c (by lia) B L (U.keep Y) y fun T u V C D Z=>?_⟩;exact l T u V C D fun b o h p e=>Z b o h p (O b o h e)
end
end L2
namespace My
open PySem L2
section
variable{P:Program}{w:World}{K:L3}{mg:L4}{base:Heap}{c1 c2 c3 c4:Tok}{C_NoWeb fqa:Addr}{dI:FuncData}
theorem LO(ts:LY)(q:Int×Int):((ts.map jz).any fun c=>jq c (jz q))=decide (q∈ts):=by
 induction ts with
 |nil=>simp
 | cons t r E=>
  rw[ai,List.any_cons,E];have:jq (jz t) (jz q)=decide (t=q):=by
   obtain⟨a,b⟩:=t;obtain⟨c,d⟩:=q;simp only[jz,jq,lZ,gB];by_cases h1:a=c<;>by_cases h2:b=d<;>simp[h1,h2]
  rw[this];by_cases c1:t=q
  ·subst c1;simp
  ·by_cases c2:q∈r
   ·simp[c2]
   ·simp[c1,c2,c7 c1]
theorem uc{ps:LY}{p:Int×Int}(T:(ps.map (·.1)).Nodup)(h:p∈ps):jJ ps p.1=p.2:=by
 unfold jJ;rw[qQ T h]
noncomputable def jD:List Int->List Int->LY
 |n::ns,c::cs=>if 0<c then(n,c)::jD ns cs else jD ns cs
 |_,_=>[]
noncomputable def jO:List Int->List Int->List Int->LY
 |n::ns,c::cs,h::hs=>if 0<c then(n,h)::jO ns cs hs else jO ns cs hs
 |_,_,_=>[]
theorem CU:∀{ns cs:List Int},ns.length=cs.length->∀(n c:Int),jD (ns++[n]) (cs++[c])=jD ns cs++(if 0<c then[(n,c)]else[])
 |[],[],_,n,c=>by
  show jD [n] [c]=_;rw[jD];split<;>rfl
 |a::ns,b::cs,h,n,c=>by
  have E:=CU (ns:=ns) (cs:=cs) (by simpa using h) n c;rw[List.cons_append,List.cons_append,jD,jD,E];split<;>rfl
theorem CT:∀{ns cs hs:List Int},ns.length=cs.length->ns.length=hs.length->∀(n c h:Int),jO (ns++[n]) (cs++[c]) (hs++[h])=jO ns cs hs++(if 0<c then[(n,h)]else[])
 |[],[],[],_,_,n,c,h=>by
  show jO [n] [c] [h]=_;rw[jO];split<;>rfl
 |a::ns,b::cs,e::hs,h1,h2,n,c,h=>by
  have E:=CT (ns:=ns) (cs:=cs) (hs:=hs) (by simpa using h1) (by simpa using h2) n c h;rw[List.cons_append,List.cons_append,List.cons_append,jO,jO,E];split<;>rfl
theorem uY:∀{ns cs hs:List Int},ns.length=cs.length->ns.length=hs.length->(∀h∈hs,0<=h/\h<=2)->ku (jD ns cs) ((jO ns cs hs).map jz)=some (jO ns cs hs)
 |[],[],[],_,_,_=>rfl
 | n::ns,c::cs,h::hs,h1,h2,U=>by
  have E:=uY (ns:=ns) (cs:=cs) (hs:=hs) (by simpa using h1) (by simpa using h2) (fun x G=>U x (au _ G));rw[jD,jO];split
  ·rw[ai,ku,show nL (jz (n,h))=some (n,h)from rfl];dsimp only;rw[aI ⟨rfl,U h (aE ..)⟩,E];rfl
  ·exact E
theorem uX:∀{ns cs:List Int},(jD ns cs).map (·.1) |>.Sublist ns
 |[],_=>by rw[jD];exact List.Sublist.slnil;all_goals(intros;simp_all)
 |n::ns,[]=>by rw[jD];exact List.nil_sublist _;all_goals(intros;simp_all)
 |n::ns,c::cs=>by
  rw[jD];split
  ·rw[ai];exact(uX (ns:=ns) (cs:=cs)).cons₂ _
  ·exact(uX (ns:=ns) (cs:=cs)).cons _
theorem x9{f:Int->Int}:∀{ns cs hs:List Int},ns.length=cs.length->ns.length=hs.length->(∀c∈cs,0<=c)->(∀p∈jD ns cs,f p.1=p.2)->((jO ns cs hs).map fun h=>f h.1*h.2).sum=((cs.zip hs).map fun q=>q.1*q.2).sum
 |[],[],[],_,_,_,_=>rfl
 | n::ns,c::cs,h::hs,h1,h2,Y,B=>by
  rw[jD]at B;rw[jO,List.zip_cons_cons,ai,List.sum_cons];by_cases b:0<c
  ·rw[aI b]at B ⊢;have E:=x9 (f:=f) (ns:=ns) (cs:=cs) (hs:=hs) (by simpa using h1) (by simpa using h2) (fun x G=>Y x (au _ G)) (fun p O=>B p (au _ O));have e1:f n=c:=B (n,c) (aE ..);rw[ai,List.sum_cons,E,e1]
  ·rw[aG b]at B ⊢;have E:=x9 (f:=f) (ns:=ns) (cs:=cs) (hs:=hs) (by simpa using h1) (by simpa using h2) (fun x G=>Y x (au _ G)) B;have:=Y c (aE ..);have:c=0:=by lia
   rw[E,this];simp
noncomputable def iz(xs:List Int)(k:Int):Int:=(xs[k.toNat]?).getD 0
theorem mB{xs:List Int}{k:Int}(A:0<=k)(h1:k<xs.length):jh (xs.map V.int) k=some (.int (iz xs k)):=by
 have F:k.toNat<xs.length:=by lia
 have e:jh (xs.map V.int) ((k.toNat:Nat):Int)=some (.int xs[k.toNat]):=me (by rw[aU,gE F];rfl);rw[show((k.toNat:Nat):Int)=k by lia]at e;rw[e];unfold iz;rw[gE F];rfl
theorem zQ{n:Nat}{k:Int}(A:0<=k)(h1:k<n):lx n k=some k.toNat:=by
 unfold lx;rw[aI A,aI h1]
theorem xb{xs:List Int}{k i v:Int}(A:0<=k)(h1:k<xs.length)(hi:0<=i):iz (xs.set k.toNat v) i=if k=i then v else iz xs i:=by
 unfold iz;rw[gO];by_cases c:k=i
 ·subst c;have:k.toNat<xs.length:=by lia
  simp[this]
 ·have:¬k.toNat=i.toNat:=by lia
  rw[aG this,aG c]
noncomputable def ky(n:Nat)(g:Int->Int):Int:=((List.range n).map fun(k:Nat)=>g (k:Int)).sum
theorem mX(n:Nat)(g:Int->Int):ky (n+1) g=ky n g+g (n:Int):=by
 unfold ky;rw[bX,af,cK];simp
theorem xQ(g h:Int->Int):∀n:Nat,ky n (fun k=>g k+h k)=ky n g+ky n h
 |0=>rfl
 |n+1=>by
  rw[mX,mX,mX,xQ g h n];lia
theorem uQ(g:Int->Int)(a:Int):∀n:Nat,ky n (fun k=>g k*a)=ky n g*a
 |0=>by simp[ky]
 |n+1=>by
  rw[mX,mX,uQ g a n,eO]
theorem sF{g h:Int->Int}:∀{n:Nat},(∀k:Int,0<=k->k<n->g k=h k)->ky n g=ky n h
 |0,_=>rfl
 |n+1,e=>by
  rw[mX,mX,sF (n:=n) (fun k k0 k1=>e k k0 (by lia)),e n (by lia) (by lia)]
theorem CJ{g:Int->Int}{i d:Int}:∀{n:Nat},¬(0<=i/\i<n)->ky n (fun k=>g k*(if i=k then d else 0))=0
 |0,_=>rfl
 |n+1,h=>by
  rw[mX,CJ (n:=n) (fun z=>h (by lia)),aG (fun z=>h (by lia))];simp
theorem xR{g:Int->Int}{i d:Int}:∀{n:Nat},0<=i->i<n->ky n (fun k=>g k*(if i=k then d else 0))=g i*d
 |0,A,h1=>by lia
 | n+1,A,h1=>by
  rw[mX];by_cases c:i=(n:Int)
  ·rw[aI c,CJ (by lia),c];simp
  ·rw[aG c,xR (n:=n) A (by lia)];simp
theorem B8{h:Int->Int}{n:Nat}:∀{raw:LX},(∀r∈raw,0<=r.1/\r.1<r.2.1/\r.2.1<n)->ky n (fun k=>h k*iP raw k)=(raw.map fun r=>(h r.1+h r.2.1)*r.2.2).sum
 |[],_=>by
  have:ky n (fun k=>h k*iP [] k)=ky n fun _=>0*0:=sF fun k _ _=>by simp[iP]
  rw[this,uQ];simp
 | r::raw,G=>by
  have M:=G r (aE ..);have E:=B8 (h:=h) (raw:=raw) (fun q W=>G q (au _ W));have e:ky n (fun k=>h k*iP (r::raw) k)=ky n fun k=>(h k*(if r.1=k then r.2.2 else 0)+h k*(if r.2.1=k then r.2.2 else 0))+h k*iP raw k:=sF fun k _ _=>by
   unfold iP;rw[ai,List.sum_cons,cX,cX]
  rw[e,xQ,xQ,xR M.1 (by lia),xR (by lia) M.2.2,E,ai,List.sum_cons,eO]
theorem C5(g:Int->Int):∀n:Nat,ky (n+1) g=g 0+ky n fun k=>g (k+1)
 |0=>by simp[ky]
 |n+1=>by
  rw[mX,C5 g n,mX];simp only[Int.natCast_add];rw[Int.add_assoc];rfl
theorem sk(c:Int)(cs:List Int):iz (c::cs) 0=c:=rfl
theorem mU(c:Int)(cs:List Int){k:Int}(h:0<=k):iz (c::cs) (k+1)=iz cs k:=by
 unfold iz;rw[show(k+1).toNat=k.toNat+1 by lia,List.getElem?_cons_succ]
theorem Bu:∀{cs hs:List Int},cs.length=hs.length->((cs.zip hs).map fun q=>q.1*q.2).sum=ky cs.length fun k=>iz cs k*iz hs k
 |[],[],_=>rfl
 |c::cs,h::hs,e=>by
  have E:=Bu (cs:=cs) (hs:=hs) (by simpa using e);rw[List.zip_cons_cons,ai,List.sum_cons,E,List.length_cons,C5,sk,sk];rw[sF (n:=cs.length) (g:=fun k=>iz (c::cs) (k+1)*iz (h::hs) (k+1)) (h:=fun k=>iz cs k*iz hs k) fun k k0 _=>by rw[mU _ _ k0,mU _ _ k0]]
theorem Ij{hs cs:List Int}{raw:LX}{tw:Int}(Z:cs.length=hs.length)(x:∀r∈raw,0<=r.1/\r.1<r.2.1/\r.2.1<hs.length)(d:∀r∈raw,r.2.2=0\/iz hs r.1+iz hs r.2.1=2)
  (pr:∀k:Int,0<=k->k<hs.length->iz hs k=0\/2*iz cs k=iP raw k*tw):((cs.zip hs).map fun q=>q.1*q.2).sum=(raw.map fun r=>r.2.2*tw).sum:=by
 rw[Bu Z,Z];have e1:ky hs.length (fun k=>iz cs k*iz hs k*2)=ky hs.length fun k=>iz hs k*iP raw k*tw:=sF fun k k0 k1=>by
  rcases pr k k0 k1 with z|z
  ·rw[z];simp
  ·rw [fL (iz hs k),<- z,cx (iz cs k),fL,cx (iz cs k) 2]
 rw[uQ,uQ,B8 x]at e1;have e2:∀{raw:LX},(∀r∈raw,r.2.2=0\/iz hs r.1+iz hs r.2.1=2)->(raw.map fun r=>(iz hs r.1+iz hs r.2.1)*r.2.2).sum*tw=(raw.map fun r=>r.2.2*tw).sum*2:=by
  intro raw
  induction raw with
  |nil=>intro _;simp
  | cons r raw E=>
   intro J;have i:=E fun q W=>J q (au _ W);rw[ai,List.sum_cons,ai,List.sum_cons];have e3:(iz hs r.1+iz hs r.2.1)*r.2.2*tw=r.2.2*tw*2:=by
    rcases J r (aE ..)with z|z
    ·rw[z];simp
    ·rw[z,fL,cx]
   rw [eO ((iz hs r.1 + iz hs r.2.1) * r.2.2),e3,i,<- eO]
 rw[e2 d]at e1;lia
theorem xa{ns:List Int}(O:ns.Pairwise (·<·)){k j:Int}(k0:0<=k)(k1:k<ns.length)(a:0<=j)(b:j<ns.length)(e:iz ns k=iz ns j):k=j:=by
 have u:k.toNat<ns.length:=by lia
 have x:j.toNat<ns.length:=by lia
 unfold iz at e;rw[gE u,gE x]at e;have T:ns[k.toNat]=ns[j.toNat]:=e;rcases Nat.lt_trichotomy k.toNat j.toNat with z|z|z
 ·have:=fF.mp O _ _ u x z;lia
 ·lia
 ·have:=fF.mp O _ _ x u z;lia
theorem rZ{hs:List Int}{k:Int}(A:0<=k)(h1:k<hs.length):iz hs k∈hs:=by
 have a:k.toNat<hs.length:=by lia
 unfold iz;rw[gE a];exact cN a
noncomputable def ke(ns:List Int)(tw:Int)(raw:LX):LX:=(raw.filter fun r=>decide (r.2.2>0)).map fun r=>(iz ns r.1,iz ns r.2.1,r.2.2*tw)
theorem CA{ns:List Int}(O:ns.Pairwise (·<·)){tw:Int}{i:Int}(s:0<=i)(m:i<ns.length):∀{raw:LX},(∀r∈raw,0<=r.1/\r.1<r.2.1/\r.2.1<ns.length)->(∀r∈raw,0<=r.2.2)->iP (ke ns tw raw) (iz ns i)=iP raw i*tw
 |[],_,_=>by simp[ke,iP,iP]
 | r::raw,G,L=>by
  have E:=CA O (tw:=tw) s m (raw:=raw) (fun q W=>G q (au _ W)) (fun q W=>L q (au _ W));have M:=G r (aE ..);have h:=L r (aE ..);have c1:(iz ns r.1=iz ns i)=(r.1=i):=propext ⟨fun e=>xa O M.1 (by lia) s m e,fun e=>by rw[e]⟩;have c2:(iz ns r.2.1=iz ns i)=(r.2.1=i):=propext ⟨fun e=>xa O (by lia) M.2.2 s m e,fun e=>by rw[e]⟩;have e1:iP (r::raw) i=(if r.1=i then r.2.2 else 0)+(if r.2.1=i then r.2.2 else 0)+iP raw i:=by
   unfold iP;rw[ai,List.sum_cons]
  by_cases c:r.2.2>0
  ·have e2:ke ns tw (r::raw)=(iz ns r.1,iz ns r.2.1,r.2.2*tw)::ke ns tw raw:=by
    unfold ke;rw[bU,aI (ao c),ai]
   rw[e2,e1];unfold iP at E ⊢;rw[ai,List.sum_cons,E];simp only[c1,c2];rw[eO,eO];split<;>split<;>simp
  ·have e2:ke ns tw (r::raw)=ke ns tw raw:=by
    unfold ke;rw[bU,aG (by simpa using c)]
   have g:r.2.2=0:=by lia
   rw[e2,E,e1,g];simp
theorem wy{ns:List Int}(O:ns.Pairwise (·<·)){k j:Int}(k0:0<=k)(a:k<j)(b:j<ns.length):iz ns k<iz ns j:=by
 have u:k.toNat<ns.length:=by lia
 have x:j.toNat<ns.length:=by lia
 unfold iz;rw[gE u,gE x];exact fF.mp O _ _ u x (by lia)
abbrev Lx(a b:Int×Int):Prop:=HT.lexLt [a.1,a.2] [b.1,b.2]=true
theorem zW{ns:List Int}(O:ns.Pairwise (·<·)){a b:Int×Int}(d:0<=a.1/\a.1<a.2/\a.2<ns.length)(b0:0<=b.1/\b.1<b.2/\b.2<ns.length)(h:Lx a b):Lx (iz ns a.1,iz ns a.2) (iz ns b.1,iz ns b.2):=by
 rcases uG h with z|⟨J,f⟩
 ·exact qG (wy O d.1 z (by lia))
 ·unfold Lx;dsimp only;rw[J];exact uf (wy O (by lia) f b0.2.2)
theorem FN{a b:Int×Int}(h:Lx a b):mR [b.1,b.2] [a.1,a.2]=false:=by
 rcases uG h with z|⟨J,f⟩
 ·rw[ue,aG (by lia)];exact aA (by lia)
 ·rw[ue,aI J.symm,ue,aG (by lia)];exact aA (by lia)
theorem Bp{kvs:List (iw×V)}:∀{ts:LY} {q:Int×Int},ts.Pairwise Lx->(∀t∈ts,Lx q t)->(∀t∈ts,t.1<t.2/\je kvs t.1=true/\je kvs t.2=true)->TiOk kvs q ts
 |[],_,_,_,_=>trivial
 |t::r,q,h1,h2,D=>by
  rw[fw]at h1;exact⟨⟨h2 t (aE ..),D t (aE ..)⟩,Bp h1.2 h1.1 fun x G=>D x (au _ G)⟩
theorem BA{ts:LY}:∀{ds:LX} {q:Int×Int},ds.Pairwise (fun a b=>Lx (a.1,a.2.1) (b.1,b.2.1))->(∀d∈ds,Lx q (d.1,d.2.1))->(∀d∈ds,(d.1,d.2.1)∈ts/\1<=d.2.2)->ko ts q (ds.map jM)=some ds
 |[],_,_,_,_=>rfl
 |d::r,q,h1,h2,D=>by
  rw[fw]at h1;have J:=D d (aE ..);rw[ai,ko,show mZ (jM d)=if 1<=d.2.2 then some d else none from rfl,aI J.2];dsimp only;rw[aI ⟨J.1,FN (a:=q) (b:=(d.1,d.2.1)) (h2 d (aE ..))⟩,BA h1.2 h1.1 fun x G=>D x (au _ G)];rfl
theorem B7{ns:List Int}{tw:Int}:∀{raw:LX},(∀r∈raw,0<=r.2.2)->((ke ns tw raw).map (·.2.2)).sum=(raw.map fun r=>r.2.2*tw).sum
 |[],_=>rfl
 | r::raw,h=>by
  have E:=B7 (ns:=ns) (tw:=tw) (raw:=raw) fun q W=>h q (au _ W);have A:=h r (aE ..);unfold ke at E ⊢;rw[bU,ai,List.sum_cons];by_cases c:r.2.2>0
  ·rw[aI (ao c),ai,ai,List.sum_cons,E]
  ·rw[aG (by simpa using c),E,show r.2.2=0 by lia];simp
theorem x8:∀{ns cs:List Int} {p:Int×Int},ns.length=cs.length->p∈jD ns cs->∃k:Int,0<=k/\k<cs.length/\p=(iz ns k,iz cs k)/\0<iz cs k
 |[],[],p,_,h=>by cases h
 | n::ns,c::cs,p,e,h=>by
  have sub:p∈jD ns cs->∃k:Int,0<=k/\k<(c::cs).length/\p=(iz (n::ns) k,iz (c::cs) k)/\0<iz (c::cs) k:=fun O=>by
   obtain⟨k,k0,k1,e1,e2⟩:=x8 (by simpa using e) O;exact⟨k+1,by lia,by rw[List.length_cons];lia,by rw[mU _ _ k0,mU _ _ k0];exact e1,by rw[mU _ _ k0];exact e2⟩
  rw[jD]at h;split at h
  ·rename_i b;rcases aV.mp h with z|z
   ·exact⟨0,by lia,by rw[List.length_cons];lia,by rw[sk,sk];exact z,by rw[sk];exact b⟩
   ·exact sub z
  ·exact sub h
theorem xB:∀{ns cs:List Int},ns.length=cs.length->∀{k:Nat},k<cs.length->0<iz cs k->(iz ns k,iz cs k)∈jD ns cs
 |[],[],_,k,h,_=>by cases h
 |n::ns,c::cs,e,0,_,h=>by
  have h:0<c:=h;rw[jD,aI h];exact aE ..
 |n::ns,c::cs,e,k+1,h1,h2=>by
  have k0:(0:Int)<=(k:Int):=by lia
  have e1:((k+1:Nat):Int)=(k:Int)+1:=by lia
  rw[e1,mU _ _ k0]at h2;rw[e1,mU _ _ k0,mU _ _ k0];have E:=xB (ns:=ns) (cs:=cs) (by simpa using e) (k:=k) (by simpa using h1) h2;rw[jD];split
  ·exact au _ E
  ·exact E
theorem BF:∀{ns cs hs:List Int},ns.length=cs.length->ns.length=hs.length->∀{k:Nat},k<cs.length->0<iz cs k->(iz ns k,iz hs k)∈jO ns cs hs
 |[],[],[],_,_,k,h,_=>by cases h
 |n::ns,c::cs,g::hs,e,_,0,_,h=>by
  have h:0<c:=h;rw[jO,aI h];exact aE ..
 |n::ns,c::cs,g::hs,e,f,k+1,h1,h2=>by
  have k0:(0:Int)<=(k:Int):=by lia
  have e1:((k+1:Nat):Int)=(k:Int)+1:=by lia
  rw[e1,mU _ _ k0]at h2;rw[e1,mU _ _ k0,mU _ _ k0];have E:=BF (ns:=ns) (cs:=cs) (hs:=hs) (by simpa using e) (by simpa using f) (k:=k) (by simpa using h1) h2;rw[jO];split
  ·exact au _ E
  ·exact E
theorem ya:∀{ns cs:List Int} {l s:Int},ns.length=cs.length->ns.Pairwise (·<·)->(∀n∈ns,l<n/\n<=999)->(∀c∈cs,0<=c)->s+cs.sum<=1000000000000->PlOk l s (jD ns cs)
 |[],[],_,_,_,_,_,_,_=>trivial
 | n::ns,c::cs,l,s,e,O,S,Y,hs=>by
  rw[fw]at O;have A:=S n (aE ..);have h1:=Y c (aE ..);have g:∀c∈cs,0<=c:=fun x G=>Y x (au _ G);rw[List.sum_cons]at hs;have pos:∀{xs:List Int},(∀c∈xs,0<=c)->0<=xs.sum:=by
   intro xs
   induction xs with
   |nil=>intro _;exact cg _
   |cons a r E=>
    intro h;have:=E fun x G=>h x (au _ G);have:=h a (aE ..);rw[List.sum_cons];lia
  have p0:=pos g;rw[jD];split
  ·rename_i b;exact⟨⟨A.1,A.2,by show 1<=c;lia,by show c<=1000000000000-s;lia⟩,ya (by simpa using e) O.2 (fun x G=>⟨O.1 x G,(S x (au _ G)).2⟩) g (by show s+c+_<=_;lia)⟩
  ·exact ya (by simpa using e) O.2 (fun x G=>S x (au _ G)) g (by lia)
noncomputable def lF(ns cs:List Int)(raw:LX):LY:=(raw.filter fun r=>decide (0<iz cs r.1)&&decide (0<iz cs r.2.1)).map fun r=>(iz ns r.1,iz ns r.2.1)
structure Laid(hs ns cs:List Int)(raw:LX)(tw:Int):Prop where
 nl:ns.length=hs.length
 cl:cs.length=hs.length
 hl:hs.length<=9
 hb:∀h∈hs,0<=h/\h<=2
 rise:ns.Pairwise (·<·)
 nb:∀n∈ns,-1<n/\n<=999
 ix:∀r∈raw,0<=r.1/\r.1<r.2.1/\r.2.1<hs.length
 len:raw.length<=81
 up:raw.Pairwise fun a b=>Lx (a.1,a.2.1) (b.1,b.2.1)
 pos:∀r∈raw,0<=r.2.2
 two:∀r∈raw,2<=iz hs r.1+iz hs r.2.1
 due:∀r∈raw,0<r.2.2->iz hs r.1+iz hs r.2.1=2
 tw1:1<=tw
 even:∀k:Int,0<=k->k<hs.length->0<iz hs k->(iP raw k*tw)%2=0
 some':∀k:Int,0<=k->k<hs.length->¬iz hs k=0->iz cs k=iP raw k*tw/2
 none':∀k:Int,0<=k->k<hs.length->iz hs k=0->1<=iz cs k/\iP raw k*tw<=2*iz cs k
 cpos:∀c∈cs,0<=c
 cap:cs.sum<=1000000000000
theorem AU{raw:LX}(h:∀r∈raw,0<=r.2.2)(k:Int):0<=iP raw k:=by
 induction raw with
 |nil=>exact cg _
 |cons a t E=>
  have i:=E fun x G=>h x (au _ G);have A:=h a (aE ..);unfold iP at i ⊢;rw[ai,List.sum_cons];split<;>split<;>lia
theorem Gr{raw:LX}(h:∀r∈raw,0<=r.2.2){r:Int×Int×Int}(M:r∈raw){k:Int}(F:r.1=k\/r.2.1=k):r.2.2<=iP raw k:=by
 induction raw with
 |nil=>cases M
 | cons a t E=>
  have A:=h a (aE ..);have S:∀r∈t,0<=r.2.2:=fun x G=>h x (au _ G);have o:=AU S k;have e:iP (a::t) k=(if a.1=k then a.2.2 else 0)+(if a.2.1=k then a.2.2 else 0)+iP t k:=by
   unfold iP;rw[ai,List.sum_cons]
  rw[e];rcases aV.mp M with z|z
  ·subst z;rcases F with q|q
   ·rw[aI q];split<;>lia
   ·rw[aI q];split<;>lia
  ·have i:=E S z;split<;>split<;>lia
section
variable{hs ns cs:List Int}{raw:LX}{tw k:Int}
theorem Laid.plok(L:Laid hs ns cs raw tw):PlOk (-1) 0 (jD ns cs):=ya (by rw[L.nl,L.cl]) L.rise L.nb L.cpos (by have:=L.cap;lia)
theorem Laid.kin(L:Laid hs ns cs raw tw)(k0:0<=k)(k1:k<hs.length)(Y:0<iz cs k):(iz ns k,iz cs k)∈jD ns cs:=by
 have e:((k.toNat:Nat):Int)=k:=by lia
 have:=xB (ns:=ns) (cs:=cs) (by rw[L.nl,L.cl]) (k:=k.toNat) (by rw[L.cl];lia) (by rw[e];exact Y);rw[e]at this;exact this
theorem Laid.web(L:Laid hs ns cs raw tw):WebOk (jD ns cs) (lF ns cs raw):=by
 have Z:=L.hl;have g:=L.nl;refine⟨?_,L.plok,?_,?_⟩
 ·have:=(uX (ns:=ns) (cs:=cs)).length_le;rw[aa]at this;lia
 ·unfold lF;rw[aa];have:=bq (fun r:Int×Int×Int=>decide (0<iz cs r.1)&&decide (0<iz cs r.2.1)) raw;have:=L.len;lia
 ·unfold lF;refine Bp ?_ ?_ ?_
  ·rw[dw];refine(L.up.filter _).imp_of_mem fun{a b} J U h=>?_;have m:=L.ix a (bj.mp J).1;have N:=L.ix b (bj.mp U).1;exact zW L.rise (a:=(a.1,a.2.1)) (b:=(b.1,b.2.1)) ⟨m.1,m.2.1,by show a.2.1<_;lia⟩ ⟨N.1,N.2.1,by show b.2.1<_;lia⟩ h
  ·intro t S;obtain⟨r,M,rfl⟩:=av.mp S;have m:=L.ix r (bj.mp M).1;exact qG (L.nb _ (rZ m.1 (by lia))).1
  ·intro t S;obtain⟨r,M,rfl⟩:=av.mp S;obtain⟨d,i⟩:=bj.mp M;have m:=L.ix r d;have c:=(aQ _ _).mp i;exact⟨wy L.rise m.1 m.2.1 (by lia),uo (p:=(iz ns r.1,iz cs r.1)) L.plok.nodup (L.kin m.1 (by lia) (aO c.1)),uo (p:=(iz ns r.2.1,iz cs r.2.1)) L.plok.nodup (L.kin (by lia) m.2.2 (aO c.2))⟩
theorem Laid.cpos'(L:Laid hs ns cs raw tw){r:Int×Int×Int}(M:r∈raw)(A:0<r.2.2)(F:r.1=k\/r.2.1=k):0<iz cs k:=by
 have m:=L.ix r M;have g:=Gr L.pos M F;have a:0<=k/\k<hs.length:=by rcases F with z|z<;>lia
 by_cases c:iz hs k=0
 ·have:=(L.none' k a.1 a.2 c).1;lia
 ·have U:=L.hb _ (rZ a.1 a.2);have e:=L.even k a.1 a.2 (by lia);rw[L.some' k a.1 a.2 c];have:0<iP raw k*tw:=Int.mul_pos (by lia) (by have:=L.tw1;lia);lia
theorem Laid.half(L:Laid hs ns cs raw tw)(k0:0<=k)(k1:k<hs.length)(Y:0<iz cs k):jJ (jO ns cs hs) (iz ns k)=iz hs k:=by
 have M:=uY (ns:=ns) (cs:=cs) (hs:=hs) (by rw[L.nl,L.cl]) L.nl L.hb;have T:((jO ns cs hs).map (·.1)).Nodup:=by rw[(pX M).2.1];exact L.plok.nodup
 have e:((k.toNat:Nat):Int)=k:=by lia
 have:=BF (ns:=ns) (cs:=cs) (hs:=hs) (by rw[L.nl,L.cl]) L.nl (k:=k.toNat) (by rw[L.cl];lia) (by rw[e];exact Y);rw[e]at this;exact uc T this
theorem Laid.stands(L:Laid hs ns cs raw tw):mD (jD ns cs) (lF ns cs raw) (.tup [.lst ((jO ns cs hs).map jz),.lst ((ke ns tw raw).map jM)])=true:=by
 have Z:=L.hl;have g:=L.nl;have j:=uY (ns:=ns) (cs:=cs) (hs:=hs) (by rw[L.nl,L.cl]) L.nl L.hb;have P:∀r∈raw,0<=r.1/\r.1<r.2.1/\r.2.1<ns.length:=fun r M=>by have:=L.ix r M;lia
 have q:ko (lF ns cs raw) (-1,-1) ((ke ns tw raw).map jM)=some (ke ns tw raw):=by
  unfold ke;refine BA ?_ ?_ ?_
  ·rw[dw];refine(L.up.filter _).imp_of_mem fun{a b} J U h=>?_;exact zW L.rise (a:=(a.1,a.2.1)) (b:=(b.1,b.2.1)) (P a (bj.mp J).1) (P b (bj.mp U).1) h
  ·intro t S;obtain⟨r,M,rfl⟩:=av.mp S;have m:=P r (bj.mp M).1;exact qG (L.nb _ (rZ m.1 (by lia))).1
  ·intro t S;obtain⟨r,M,rfl⟩:=av.mp S;obtain⟨d,i⟩:=bj.mp M;have A:0<r.2.2:=aO i;refine⟨?_,?_⟩
   ·unfold lF;refine av.mpr ⟨r,bj.mpr ⟨d,?_⟩,rfl⟩;rw[ao (L.cpos' d A (.inl rfl)),ao (L.cpos' d A (.inr rfl))];rfl
   ·have:0<r.2.2*tw:=Int.mul_pos A (by have:=L.tw1;lia);show 1<=r.2.2*tw;lia
 rw[sv];unfold mq;dsimp only;rw[j,q];dsimp only;have e1:nV (lF ns cs raw) (jO ns cs hs)=true:=by
  unfold nV lF;refine cZ.mpr fun t S=>ao ?_;obtain⟨r,M,rfl⟩:=av.mp S;obtain⟨d,i⟩:=bj.mp M;have m:=L.ix r d;have c:=(aQ _ _).mp i;dsimp only;rw[L.half m.1 (by lia) (aO c.1),L.half (by lia) m.2.2 (aO c.2)];exact L.two r d
 have e2:nS (jD ns cs) (ke ns tw raw)=true:=by
  unfold nS;refine cZ.mpr fun p O=>ao ?_;obtain⟨k,k0,k1,rfl,_⟩:=x8 (by rw[L.nl,L.cl]) O;have k2:k < hs.length:=by rw [<- L.cl]; exact k1
  dsimp only;rw[CA L.rise k0 (by lia) P L.pos];by_cases c:iz hs k=0
  ·exact(L.none' k k0 k2 c).2
  ·have U:=L.hb _ (rZ k0 k2);have e:=L.even k k0 k2 (by lia);rw[L.some' k k0 k2 c];lia
 have e3:((ke ns tw raw).map (·.2.2)).sum=nO (jD ns cs) (jO ns cs hs):=by
  unfold nO;rw[x9 (f:=jJ (jD ns cs)) (by rw[L.nl,L.cl]) L.nl L.cpos (fun p O=>uc L.plok.nodup O),B7 L.pos];refine(Ij L.cl L.ix (fun r M=>?_) fun k k0 k1=>?_).symm
  ·by_cases c:r.2.2=0
   ·exact .inl c
   ·exact .inr (L.due r M (by have:=L.pos r M;lia))
  ·by_cases c:iz hs k=0
   ·exact .inl c
   ·have U:=L.hb _ (rZ k0 k1);have e:=L.even k k0 k1 (by lia);refine .inr ?_;rw[L.some' k k0 k1 c];lia
 rw[e1,e2,ao e3];rfl
theorem JL(ds:LX)(d:Int×Int×Int)(p:Int):iP (ds++[d]) p=iP ds p+(if d.1=p then d.2.2 else 0)+(if d.2.1=p then d.2.2 else 0):=by
 unfold iP;rw[af,cK];simp;lia
end
section
variable{ps ts qs:LY}{H H':Hp}{ds rs:LX}{xs rx:List V}{n m b':Int}{o:HO}{d st s:Addr}
structure RawOk(hs:List Int)(raw:LX):Prop where
 ix:∀r∈raw,0<=r.1/\r.1<r.2.1/\r.2.1<hs.length
 pos:∀r∈raw,0<=r.2.2
 top:∀r∈raw,r.2.2<=1000000000
 two:∀r∈raw,2<=iz hs r.1+iz hs r.2.1
 due:∀r∈raw,0<r.2.2->iz hs r.1+iz hs r.2.1=2
 up:raw.Pairwise fun a b=>Lx (a.1,a.2.1) (b.1,b.2.1)
 len:raw.length<=81
 hl:hs.length<=9
 hb:∀h∈hs,0<=h/\h<=2
theorem Gs{raw:LX}(h:∀r∈raw,r.1<r.2.1/\0<=r.2.2/\r.2.2<=1000000000)(k:Int):iP raw k<=1000000000*raw.length:=by
 induction raw with
 |nil=>exact cg _
 |cons a t E=>
  have i:=E fun x G=>h x (au _ G);have A:=h a (aE ..);unfold iP at i ⊢;rw[ai,List.sum_cons,List.length_cons];split<;>split<;>lia
theorem RawOk.ple{hs:List Int}{raw:LX}(R:RawOk hs raw)(k:Int):0<=iP raw k/\iP raw k<=81000000000:=by
 have a:=Gs (raw:=raw) (fun r M=>⟨(R.ix r M).2.1,R.pos r M,R.top r M⟩) k;have b:=R.len;exact⟨AU R.pos k,by lia⟩
theorem BB(ns:List Int)(tw:Int)(raw:LX):(ke ns tw raw).length<=raw.length:=by
 unfold ke;rw[aa];exact bq _ _
theorem Ip{ns:List Int}{tw:Int}{raw:LX}{i:Nat}{r:Int×Int×Int}(h:raw[i]? =some r):ke ns tw (raw.take (i+1))=ke ns tw (raw.take i)++if decide (r.2.2>0)=true then[(iz ns r.1,iz ns r.2.1,r.2.2*tw)]else[]:=by
 unfold ke;rw[ji h,bI,af]
 congr 1
 rw[bU];split<;>simp
theorem Hu{xs:List Int}{k:Int}(A:0<=k)(h1:k<xs.length):iz (xs++[n]) k=iz xs k:=by
 unfold iz;rw[bC (by lia)]
theorem Ht{xs:List Int}:iz (xs++[n]) xs.length=n:=by
 unfold iz;simp
noncomputable def mC(hs:List Int)(raw:LX)(i:Nat):List Int:=((List.range i).filter fun(k:Nat)=>decide (iz hs (k:Int)>0)).map fun(k:Nat)=>iP raw (k:Int)%2
theorem IL(hs:List Int)(raw:LX)(i:Nat):mC hs raw (i+1)=mC hs raw i++if decide (iz hs i>0)=true then[iP raw i%2]else[]:=by
 unfold mC;rw[bX,bI,af]
 congr 1
 rw[bU];split<;>simp
theorem Hw(hs:List Int)(raw:LX)(i:Nat):(mC hs raw i).length<=i:=by
 unfold mC;rw[aa];exact bw (bq _ _) (by rw[cB];exact ay _)
theorem IK{hs:List Int}{raw:LX}(h1:mC hs raw hs.length=[]->m=0)(h2:mC hs raw hs.length≠[]->m∈mC hs raw hs.length)(D:∀x∈mC hs raw hs.length,x<=m):
  (0<=m/\m<=1)/\∀k:Int,0<=k->k<hs.length->0<iz hs k->(iP raw k*(1+m))%2=0:=by
 have U:0<=m/\m<=1:=by
  by_cases c:mC hs raw hs.length=[]
  ·have:=h1 c;lia
  ·obtain⟨k,_,e⟩:=av.mp (h2 c);have:=eJ (iP raw k) (show(2:Int)≠0 by decide);have:=eN (iP raw k) (show(0:Int)<2 by decide);lia
 refine⟨U,fun k k0 k1 F=>?_⟩;have K:iP raw k%2∈mC hs raw hs.length:=by
  refine av.mpr ⟨k.toNat,bj.mpr ⟨bL.mpr (by lia),?_⟩,?_⟩
  ·rw[show((k.toNat:Nat):Int)=k by lia];exact ao F
  ·rw[show((k.toNat:Nat):Int)=k by lia]
 have T:=D _ K;have:m=0\/m=1:=by lia
 rcases this with rfl|rfl
 ·rw[show(1:Int)+0=1 from rfl,Int.mul_one];have:=eJ (iP raw k) (show(2:Int)≠0 by decide);lia
 ·rw[show(1:Int)+1=2 from rfl];lia
noncomputable def Rw(H:Hp)(v:V)(r:Int×Int×Int):Prop:=∃a,v= .ref a/\H a=some (.lst [.int r.1,.int r.2.1,.int r.2.2])
abbrev Rws(H:Hp):List V->LX->Prop:=Paired (Rw H)
theorem Rws.same(s:Same H H')(h:Rws H xs rs):Rws H' xs rs:=Paired.mapP h fun _ _ ⟨a,e,q⟩=>⟨a,e,s _ _ q⟩
theorem zU{a:Addr}{ns:List Int}(e:H st=some o)(C:StO o)(T:H a=some (.lst (ns.map V.int))):a≠st:=fun z=>by
 rw[z,e]at T;obtain⟨c,x,g,rfl,_⟩:=C;have h:[V.int c,.int x,.bl g]=ns.map V.int:=by injection T with T;injection T
 have D:=cA (fun l=>l[2]?) h;simp at D;cases q:ns[2]? <;>rw[q]at D<;>cases D
theorem Rw.but(e:H st=some o)(C:StO o)(b:But st H H'){v:V}{r:Int×Int×Int}(h:Rw H v r):Rw H' v r:=by
 obtain⟨a,e1,q⟩:=h;have L:H a=some (.lst ([r.1,r.2.1,r.2.2].map V.int)):=q;exact⟨a,e1,b _ _ (zU e C L) q⟩
theorem Rws.but{H H':Hp}{st:Addr}{o:HO}(e:H st=some o)(C:StO o)(b:But st H H'){xs:List V}{rs:LX}(h:Rws H xs rs):Rws H' xs rs:=Paired.mapP h fun _ _ q=>q.but e C b
theorem BZ{ps:LX}(C:Rws H xs ps):∀v∈xs,∃t,v= .ref t:=by
 induction C with
 |nil=>exact fun v h=>by cases h
 |cons r t E=>
  intro v h;rcases aV.mp h with z|z
  ·obtain⟨b,e,_⟩:=r;rw[z];exact⟨b,e⟩
  ·exact E v z
theorem Hv{zs:List Int}(h:∀x∈zs,x=0)(k:Int):iz zs k=0:=by
 unfold iz;cases e:zs[k.toNat]? with
 |none=>rfl
 |some v=>exact h v (aC e)
theorem zA{a b c d:Int}(A:0<=d)(h1:d<3):∃v,jh [V.int a,.int b,.int c] d=some (.int v)/\(v=a\/v=b\/v=c):=by
 have J:d=0\/d=1\/d=2:=by lia
 rcases J with rfl|rfl|rfl
 ·exact⟨a,iW,.inl rfl⟩
 ·exact⟨b,jl,.inr (.inl rfl)⟩
 ·exact⟨c,oq,.inr (.inr rfl)⟩
noncomputable def yT(hs:List Int)(raw:LX)(tw:Int)(i:Int)(c:Int):Prop:=(¬iz hs i=0->c=iP raw i*tw/2)/\(iz hs i=0->1<=c/\iP raw i*tw<=2*c)/\0<=c/\c<=90000000000
structure PlC(hs:List Int)(raw:LX)(tw:Int)(i:Nat)(ns cs:List Int):Prop where
 len:ns.length=i
 cl:cs.length=i
 rise:ns.Pairwise (·<·)
 at':∀k:Int,0<=k->k<i->yT hs raw tw k (iz cs k)
noncomputable def PlW(hs:List Int)(raw:LX)(tw:Int)(i:Nat)(ns:List Int)(ps qs:LY):Prop:=∃cs,PlC hs raw tw i ns cs/\ps=jD ns cs/\qs=jO ns cs (hs.take i)
theorem IC(ns cs:List Int):(jD ns cs).length<=ns.length:=by
 have:=(uX (ns:=ns) (cs:=cs)).length_le;rw[aa]at this;exact this
theorem PlW.len{hs:List Int}{raw:LX}{tw:Int}{i:Nat}{ns:List Int}{ps qs:LY}(h:PlW hs raw tw i ns ps qs):ns.length=i:=let⟨_,c,_⟩:=h;c.len
theorem PlW.pl{hs:List Int}{raw:LX}{tw:Int}{i:Nat}{ns:List Int}(h:PlW hs raw tw i ns ps qs):ps.length<=i:=by
 obtain⟨cs,c,rfl,_⟩:=h;have:=IC ns cs;have:=c.len;lia
theorem PlW.step'{hs:List Int}{raw:LX}{tw:Int}{i:Nat}{ns:List Int}(h:PlW hs raw tw i ns ps qs)(hi:i<hs.length){pr:Int}(S:∀x∈ns,x<n)(O:yT hs raw tw i pr):PlW hs raw tw (i+1) (ns++[n]) (ps++if 0<pr then[(n,pr)]else[]) (qs++if 0<pr then[(n,iz hs i)]else[]):=by
 obtain⟨cs,c,rfl,rfl⟩:=h;have e1:=c.len;have e2:=c.cl;have e3:hs[i]? =some (iz hs i):=by
  unfold iz;rw[show((i:Int)).toNat=i by lia,gE hi];rfl
 refine⟨cs++[pr],⟨by rw[aH,List.length_singleton,e1],by rw[aH,List.length_singleton,e2],bZ.mpr ⟨c.rise,List.pairwise_singleton _ _,fun a J b U=>by rw[aK.mp U];exact S a J⟩,fun k k0 k1=>?_⟩,?_,?_⟩
 ·by_cases z:k=(i:Int)
  ·have L:iz (cs ++ [pr]) k = pr:=by rw [z,<- e2,Ht]
   rw[L,z];exact O
  ·rw[Hu k0 (by lia)];exact c.at' k k0 (by lia)
 ·rw[CU (by lia)]
 ·rw[ji e3,CT (by lia) (by rw[aP];lia)]
theorem zx{a:Addr}(e:H st=some o)(C:StO o)(T:H a=some (.lst xs))(G:∀v∈xs,∃t,v= .ref t):a≠st:=fun z=>by
 rw[z,e]at T;obtain⟨c,x,g,rfl,_⟩:=C;cases T;obtain⟨t,e⟩:=G (.int c) (aE ..);cases e
theorem qK{p:Addr}(b:But s H H')(h:H p=none):But s H (upd H' p o):=fun x u nx q=>by rw[iC (iO q h)];exact b x u nx q
theorem But.same(h:Same H H'):But s H H':=fun b o _ q=>h b o q
theorem RawOk.xle{hs:List Int}{raw:LX}{tw:Int}(R:RawOk hs raw)(h:1<=tw/\tw<=2)(k:Int):0<=iP raw k*tw/\iP raw k*tw<=162000000000:=by
 have p:=R.ple k;have t:tw=1\/tw=2:=by lia
 rcases t with rfl|rfl<;>lia
theorem PlC.mem{hs:List Int}{raw:LX}{tw:Int}{i:Nat}{ns cs:List Int}(C:PlC hs raw tw i ns cs):∀c∈cs,0<=c/\c<=90000000000:=fun c Y=>by
 obtain⟨j,W,rfl⟩:=bx.mp Y;have:=C.at' (j:Int) (by lia) (by have:=C.cl;lia);have e:iz cs (j:Int)=cs[j]:=by
  unfold iz;rw[show((j:Int)).toNat=j by lia,gE W];rfl
 rw[e]at this;exact this.2.2
theorem sum_le{b:Int}:∀{cs:List Int},(∀c∈cs,c<=b)->cs.sum<=b*cs.length
 |[],_=>by simp
 |c::cs,h=>by
  have i:=sum_le (cs:=cs) fun x G=>h x (au _ G);have:=h c (aE ..);rw[List.sum_cons,List.length_cons,Int.natCast_add,cX];lia
theorem Hh{hs ns cs:List Int}(g:ns.length=hs.length)(cl:cs.length=hs.length)(U:∀h∈hs,0<=h/\h<=2)(r:ns.Pairwise (·<·)){k:Int}(k0:0<=k)(k1:k<hs.length):iz ns k∈(jO ns cs hs).map (·.1)↔0<iz cs k:=by
 rw[(pX (uY (ns:=ns) (cs:=cs) (hs:=hs) (by lia) g U)).2.1];constructor
 ·intro h;obtain⟨p,O,e⟩:=av.mp h;obtain⟨j,a,b,rfl,c⟩:=x8 (by lia) O;have:=xa r k0 (by lia) a (by lia) e.symm;rw[this];exact c
 ·intro h;have e:((k.toNat:Nat):Int)=k:=by lia
  have:=xB (ns:=ns) (cs:=cs) (by lia) (k:=k.toNat) (by lia) (by rw[e];exact h);rw[e]at this;exact av.mpr ⟨_,this,rfl⟩
noncomputable def CH:Sp:=fun vs H Q _=>∃(st J r:Addr) (o:HO) (hs:List Int) (rx:List V) (raw:LX),vs=[.ref st,.ref J,.ref r]/\H st=some o/\StO o/\H J=some (.lst (hs.map V.int))/\H r=some (.lst rx)/\Rws H rx raw/\RawOk hs raw/\
 ∀(t:Addr) (w:V) (Z b:Addr) (G dx:List V) (ns cs:List Int) (tw:Int) (H':Hp) (o':HO),But st H H'->H' st=some o'->StO o'->H' t=some (.tup [w,.ref Z,.ref b])->jbl H' w (jD ns cs) (lF ns cs raw)->H' Z=some (.lst G)->Prs H' G (jO ns cs hs)->H' b=some (.lst dx)->j8 H' dx (ke ns tw raw)->Laid hs ns cs raw tw->Q (.ref t) H'
theorem KA(B:Blt mg)(D:DefAt K mg "_law_priced" (top 57) ["_law_state","_law_hs","_law_raw"] f fd)(A':Ok P w K mg base "_law_take" (top 54) 1 ["_law_state","_law_many"] pO):FnOk P w K mg base iT 2 f fd ["_law_state","_law_hs","_law_raw"] CH:=by
 refine i6 D.F ["_law_state","_law_hs","_law_raw","_law_paid","_law_k","_law_j","_law_due","_law_twice","_law_number","_law_names","_law_places_here","_law_halves","_law_price","_law_kept","_law_ties","_law_dues"] (by rintro _ _ _ _ ⟨st,J,ra,o,hs,rx,raw,rfl,_⟩;rfl) ?_;rintro _ A _ s H vs Q E d M T u ⟨st,J,ra,o,hs,rx,raw,rfl,es,so,eh,er,pr,R,h⟩;have Nd:rx.length=raw.length:=aq pr;have Nz:=zU es so eh;have Mj:=zx es so er (BZ pr);have Mo:=R.hl;have NG:=R.len;have T:=jX M;have u:_<PySem.cLine:=aZ T;refine⟨_,(iy (iM 3 d (kR ["_law_h"] [none] (jb (qv 1)) (iV 0) iu)) (iy (jY bg rfl (jb (qv 2)) (wG (n:=3) rfl (iR (jd 4 d) (iR (jd 5 d) (iR (jd 6 d) jF)))) (iy (pM (iQ ju (iE (qv 3) (qv 4)) (qv 6)) (qI (qv 3) (qv 4) oN)) (iF (pM (iQ ju (iE (qv 3) (qv 5)) (qv 6)) (qI (qv 3) (qv 5) oN))))) (iy (iM 7 d (iQ ju iu (IW (Ih rfl) rfl B.max ff (iJ (mh (CpScope.of (N:=["_law_k","_law_paid","_law_hs"]) (src:=[none,some 3,some 1]) (by rfl)) rfl (nD rfl B.range (iJ (kZ B (qv 1)))) (fun _ _ _ _=>(iV 0)) (fun _ _ _ _=>(kU (jc nK (iE (qv 2) (qv 0)) iu (ja _)))) (fun _ _ _ _=>(iQ oI (iE (qv 1) (qv 0)) iu)))) (GA iu E9)))) (iy (iM 8 d (lV lX iu)) (iy (iM 9 d (jW kF)) (iy (iM 10 d (jW kF)) (iy (iM 11 d (jW kF)) (iy (jY bg rfl (nD rfl B.range (iJ (kZ B (qv 1)))) (jd 4 d) (iy (iM 8 d (iQ ju (iQ ju (qv 8) iu) (iN A' M (iG (qv 0) (iE (jW (jH iu (iG iu iu))) (iN A' M (iG (qv 0) iu))))))) (iy (j6 (kI ba aY aX kN (qv 9) (iJ (qv 8)))) (iy (iM 12 d (iQ ug (iQ lW (iE (qv 3) (qv 4)) (qv 7)) iu)) (iy (jt (jc ly (iE (qv 1) (qv 4)) iu (ja _)) (iF (iM 12 d (jZ (vY rfl) rfl B.max ff (iG iu (iQ ju (iQ ug (iQ ju (iQ lW (iE (qv 3) (qv 4)) (qv 7)) iu) iu) (iN A' M (iG (qv 0) iu))))))) jv) (iF (jt (jc nK (qv 12) iu (ja _)) (iy (j6 (kI ba aY aX kN (qv 10) (iJ (jx (iG (qv 8) (qv 12)))))) (iF (j6 (kI ba aY aX kN (qv 11) (iJ (jx (iG (qv 8) (iE (qv 1) (qv 4))))))))) jv))))))) (iy (iM 13 d (kR ["_law_place","_law_h"] [none,none] (jb (qv 11)) (jQ (n:=2) rfl (iR (iV 0) (iR (iV 1) jF))) (qv 0))) (iy (oP (i:=14) d rfl (Or.inl rfl) (CpScope.of (N:=["_law_k","_law_j","_law_due","_law_names","_law_kept"]) (src:=[none,none,none,some 9,some 13]) (by rfl)) rfl (jb (qv 2)) (fun _ _ _ _=>(wG (n:=3) rfl (iR (iV 0) (iR (iV 1) (iR (iV 2) jF))))) (fun _ _ _ _=>(kU (PW.pt (nX (jc nT (iE (qv 3) (qv 0)) (qv 4) (by with_unfolding_all rfl)) (n6 (jc nT (iE (qv 3) (qv 1)) (qv 4) (by with_unfolding_all rfl))))))) (fun _ _ _ _=>(jx (iG (iE (qv 3) (qv 0)) (iE (qv 3) (qv 1)))))) (iy (oP (i:=15) d rfl (Or.inl rfl) (CpScope.of (N:=["_law_k","_law_j","_law_due","_law_names","_law_twice"]) (src:=[none,none,none,some 9,some 7]) (by rfl)) rfl (jb (qv 2)) (fun _ _ _ _=>(wG (n:=3) rfl (iR (iV 0) (iR (iV 1) (iR (iV 2) jF))))) (fun _ _ _ _=>(kU (jc nK (qv 2) iu (ja _)))) (fun _ _ _ _=>(jx (jH (iE (qv 3) (qv 0)) (iG (iE (qv 3) (qv 1)) (iQ lW (qv 2) (qv 4))))))) (iF (iS (jx (jH (jx (iG (qv 10) (qv 14))) (iG (qv 11) (qv 15))))))))))))))))),?_⟩;refine iK fun RR i'=>?_;walk_at "D";refine jA (i5 K J) H (fun R U=>?_) (fun pl Ml=>jn hs.length (fun i L I=>∃Z zs,L=[Z]/\Same H I/\I pl=some (.lst (zs.map V.int))/\zs.length=i/\∀x∈zs,x=(0:Int)) ⟨none,[],rfl,iD Ml _,ir,rfl,(fun x G=>by cases G)⟩ ?_ ?_)
 ·unfold i8;walk_at "D";exact⟨J,rfl,⟨_,SqL.of eh⟩,U⟩
 ·rintro k L I F ⟨Z,zs,rfl,s4,ez,lz,az⟩;have X1:(hs.map V.int)[k]? =some (.int hs[k]):=by rw[aU,gE F];rfl
  have z1:SqL K I J (hs.map V.int):=SqL.of (s4 _ _ eh);refine⟨⟨_,_,z1,X1⟩,?_⟩;rintro y H' ⟨rfl,hy⟩;walk_at "D";refine⟨_,ez,by rw[aa];exact iU (by lia),_,zs++[0],rfl,i4 s4 Ml,by rw[af];exact ir,by rw[aH,List.length_singleton,lz],fun x G=>?_⟩;rcases br.mp G with z|z
  ·exact az x z
  ·exact aK.mp z
 rintro L H1 ⟨Z,NP,rfl,s1,e1,NK,NS⟩;refine⟨⟨_,SqL.of (s1 _ _ eh),by rw[aa];exact ay _⟩,?_⟩;walk_at "D";subst i';refine iK fun RR i'=>?_;walk_at "D";refine kA (i5 K ra) H1 (fun R U=>?_) (lG (K:=K) (a:=ra) (xs:=rx) (fun j σ H2=>∃v1 v2 v3 zs,σ=[some (.ref st),some (.ref J),some (.ref ra),some (.ref pl),v1,v2,v3,none,none,none,none,none,none,none,none,none]/\Same H H2/\H2 pl=some (.lst (zs.map V.int))/\zs.length=hs.length/\∀i:Int,0<=i->i<hs.length->iz zs i=iP (raw.take j) i) ⟨none,none,none,NP,rfl,s1,e1,NK,fun i _ _=>by rw[Hv NS];rfl⟩ (fun j σ H2 _ g=>by obtain⟨_,_,_,_,_,s2,_⟩:=g;exact SqL.of (s2 _ _ er)) ?_ ?_)
 ·unfold i8;walk_at "D";exact⟨ra,rfl,⟨_,SqL.of (s1 _ _ er)⟩,U⟩
 ·rintro j y σ H2 hj ⟨v1,v2,v3,zs,rfl,s2,e2,lz,az⟩;obtain⟨r,M,px⟩:=jm pr hj;obtain⟨t,rfl,e3⟩:=px;have NO:=s2 _ _ e3;have NA:=R.ix r (aC M);have a1:=mB (xs:=zs) (k:=r.1) (by lia) (by lia);have i1:=zQ (n:=zs.length) (k:=r.1) (by lia) (by lia);have a2:=mB (xs:=zs.set r.1.toNat (iz zs r.1+r.2.2)) (k:=r.2.1) (by lia) (by rw[cL];lia);have i2:=zQ (n:=zs.length) (k:=r.2.1) (by lia) (by lia);have ms:∀(l:List Int) (k:Nat) (v:Int),(l.map V.int).set k (.int v)=(l.set k v).map V.int:=fun l k v=>(List.map_set ..).symm;simp_arith[NO,iH,e2,a1,aa,i1,ms,ir,a2,cL,i2,pU];refine⟨_,_,_,_,rfl,i4 s2 Ml,rfl,by rw[cL,cL];exact lz,fun i i0 NQ=>?_⟩;rw[xb (by lia) (by rw[cL];lia) i0,xb (by lia) (by lia) (by lia),xb (by lia) (by lia) i0,ji M,JL,az i i0 NQ,az r.1 (by lia) (by lia),az r.2.1 (by lia) (by lia)];by_cases c1:r.1=i
  ·by_cases c2:r.2.1=i
   ·lia
   ·rw[aG c2,aI c1,aG c2,aI c1,c1];lia
  ·by_cases c2:r.2.1=i
   ·rw[aI c2,aG (show ¬r.1=r.2.1 by lia),aI c2,aG c1,c2];lia
   ·rw[aG c2,aG c1,aG c2,aG c1];lia
 rintro σ H2 ⟨v1,v2,v3,zs,rfl,s2,e2,lz,az⟩;rw[Nd,aD]at az;have Nf:=s2 _ _ eh;have Mp:=s2 _ _ er;have NU:=Rws.same s2 pr;walk_at "D";subst i';refine iK fun RR i'=>?_;walk_at "D";refine jA (lE 0 hs.length) H2 (fun R U=>?_) (fun ol Ng=>jn hs.length (fun i L I=>∃Z,L=[Z,some (.ref pl),some (.ref J)]/\Same H2 I/\I ol=some (.lst ((mC hs raw i).map V.int))) ⟨none,rfl,iD Ng _,ir⟩ ?_ ?_)
 ·unfold ni;simp_arith[iH,Nf,aa];exact⟨_,rfl,by lia,by lia,U⟩
 ·rintro k L I F ⟨Z,rfl,s3,e3⟩;refine⟨F,?_⟩;rintro y H' ⟨rfl,rfl⟩;have a1:=mB (xs:=hs) (k:=0+(k:Int)) (by lia) (by lia);have a2:=mB (xs:=zs) (k:=0+(k:Int)) (by lia) (by lia);simp_arith[iH,s3 _ _ Nf,s3 _ _ e2,a1,a2];rw[IL];refine kW (fun c1=>?_) (fun c1=>?_)
  ·rw[aI (by rw[dh]at c1;exact c1)];refine⟨by decide,_,e3,by rw[aa];have:=Hw hs raw k;exact iU (by lia),_,rfl,i4 s3 Ng,?_⟩;rw[af,az _ (by lia) (by lia),dh];exact ir
  ·rw[aG (by rw[dh]at c1;exact c1),aS];exact⟨_,rfl,s3,e3⟩
 rintro L H3 ⟨Z,rfl,s3,e3⟩;refine⟨ay _,?_⟩;walk_at "D";refine⟨ol,mC hs raw hs.length,0,rfl,rfl,e3,fun m m1 m2 m3=>?_⟩;obtain⟨mb,ev⟩:=IK m1 m2 m3;clear m1 m2 m3 e3 Ng;have MN:=s3 _ _ Nf;have K':=s3 _ _ Mp;have NM:=Rws.same s3 NU;have MR:=s3 _ _ e2;have Nw:=s2.trans s3;have Mf:=Nw _ _ es;walk_at "D";subst i';refine iK fun RR i'=>?_;walk_at "D";subst i';refine iK fun RR i'=>?_;walk_at "D";intro nl Mn;subst i';refine iK fun RR i'=>?_;walk_at "D";intro pc MQ;subst i';refine iK fun RR i'=>?_;walk_at "D";intro Y Ms;subst i';refine iK fun RR i'=>?_;walk_at "D";have MU:1<=1+m/\1+m<=2:=by lia
 generalize 1+m=tw at ev MU ⊢;have n1:nl ≠ pc:=fun z=>by rw [<- z,ir] at MQ; cases MQ
 have n2:nl ≠ Y:=fun z=>by rw [<- z,iC n1,ir] at Ms; cases Ms
 have n3:pc ≠ Y:=fun z=>by rw [<- z,ir] at Ms; cases Ms
 have Nh:st≠pl:=iO es Ml;have NV:pl≠st:=Nh.symm;have Nk:=Mn;have Nm:H3 pc=none:=by rw[iC n1.symm]at MQ;exact MQ
 have Nl:H3 Y=none:=by rw[iC n3.symm,iC n2.symm]at Ms;exact Ms
 have Na:nl≠st:=(iO Mf Nk).symm;have Nc:pc≠st:=(iO Mf Nm).symm;have M3:Y≠st:=(iO Mf Nl).symm;have s4:=(iD Mn (.lst [])).trans ((iD MQ (.lst [])).trans (iD Ms (.lst [])));have start:upd (upd (upd H3 nl (.lst [])) pc (.lst [])) Y (.lst []) nl=some (.lst [])/\upd (upd (upd H3 nl (.lst [])) pc (.lst [])) Y (.lst []) pc=some (.lst [])/\upd (upd (upd H3 nl (.lst [])) pc (.lst [])) Y (.lst []) Y=some (.lst []):=⟨by rw[iC n2,iC n1,ir],by rw[iC n3,ir],ir⟩;generalize upd (upd (upd H3 nl (.lst [])) pc (.lst [])) Y (.lst [])=H4 at s4 start;refine kA (lE 0 hs.length) H4 (fun R U=>?_) (oa (lo:=0) (n:=hs.length) (fun i σ H5=>∃Z sz w2 ns ps qs px qx,σ=[some (.ref st),some (.ref J),some (.ref ra),some (.ref pl),Z,v2,v3,some (.int tw),some (.int sz),some (.ref nl),some (.ref pc),some (.ref Y),w2,none,none,none]/\But st H3 H5/\(∃o',H5 st=some o'/\StO o')/\H5 nl=some (.lst (ns.map V.int))/\H5 pc=some (.lst px)/\Prs H5 px ps/\H5 Y=some (.lst qx)/\Prs H5 qx qs/\qs.length<=i/\PlW hs raw tw i ns ps qs/\(∀x∈ns,-1<x/\x<=sz)/\-1<=sz/\sz<=20*(i:Int)-1) ⟨_,-1,_,[],[],[],[],[],rfl,But.same s4,⟨o,s4 _ _ Mf,so⟩,start.1,start.2.1,.nil,start.2.2,.nil,ay _,⟨[],⟨rfl,rfl,.nil,fun k k0 k1=>by lia⟩,rfl,by simp[jO]⟩,(fun x G=>by cases G),by lia,by lia⟩ ?_ ?_)
 ·unfold ni;simp_arith[iH,s4 _ _ MN,aa];exact⟨_,rfl,by lia,by lia,U⟩
 ·rintro i σ H5 hi ⟨Z,sz,w2,ns,ps,qs,px,qx,rfl,b5,⟨o5,e5,Ma⟩,Ni,Mt,MY,MB,Mu,lq,W,MT,NW,NN⟩;generalize hB:vA (fB (mQ (fI fun i j=>V.bl (decide (i>j))) (jK 12) (tC (V.int 0)))) (oY (rN (sP qL (jK 10) (k8 (tE (k8 (jK 8) (k8 (jK 12) lH))) lH))) (rN (sP qL (jK 11) (k8 (tE (k8 (jK 8) (k8 (mQ sM (jK 1) (jK 4)) lH))) lH)))) we=B2;have NY:px.length=ps.length:=aq MY;have Nj:qx.length=qs.length:=aq Mu;have Mh:=W.len;have N4:=W.pl;have key:∀(D':Ends) (H8:Hp) (B' pr:Int),(∀(H9:Hp) (ps qs:LY) (px qx:List V),But st H3 H9/\(∃o',H9 st=some o'/\StO o')/\H9 nl=some (.lst ((ns++[B']).map V.int))/\H9 pc=some (.lst px)/\Prs H9 px ps/\H9 Y=some (.lst qx)/\Prs H9 qx qs->qs.length<=i+1->PlW hs raw tw (i+1) (ns++[B']) ps qs->D'.nx [some (.ref st),some (.ref J),some (.ref ra),some (.ref pl),some (.int (0+(i:Int))),v2,v3,some (.int tw),some (.int B'),some (.ref nl),some (.ref pc),some (.ref Y),some (.int pr),none,none,none] H9)->(∀x∈ns,x<B')->yT hs raw tw i pr->But st H3 H8/\(∃o',H8 st=some o'/\StO o')/\H8 nl=some (.lst ((ns++[B']).map V.int))/\H8 pc=some (.lst px)/\Prs H8 px ps/\H8 Y=some (.lst qx)/\Prs H8 qx qs->B2 D' [some (.ref st),some (.ref J),some (.ref ra),some (.ref pl),some (.int (0+(i:Int))),v2,v3,some (.int tw),some (.int B'),some (.ref nl),some (.ref pc),some (.ref Y),some (.int pr),none,none,none] H8:=by
   rintro D' H8 B' pr hD S O ⟨b8,⟨o8,e8,Mi⟩,NB,MI,Nr,Nx,Np⟩;subst hB;walk_at "D";refine kW (fun c1=>?_) (fun c1=>hD H8 ps qs px qx ⟨b8,⟨o8,e8,Mi⟩,NB,MI,Nr,Nx,Np⟩ (by lia) (by have z:=W.step' hi S O;rw[aG (fun y=>c1 (ao y)),aG (fun y=>c1 (ao y)),aS,aS]at z;exact z));refine⟨⟨pc,_,rfl,MI⟩,fun t q=>?_⟩;have nt:pc≠t:=iO MI q;simp_arith[iC nt,MI];refine⟨iU (by lia),?_⟩;have sA:=iD q (.tup [.int B',.int pr]);have eA:=ir (H:=H8) (a:=t) (o:=.tup [.int B',.int pr]);have NF:=sA _ _ MI;generalize upd H8 t (.tup [.int B',.int pr])=HA at sA eA NF;have tB:TupS HA (upd HA pc (.lst (px++[.ref t]))):=ka NF;have ML:upd HA pc (.lst (px++[.ref t])) Y=some (.lst qx):=by rw[iC n3.symm];exact sA _ _ Nx
   have Nn:upd HA pc (.lst (px++[.ref t])) nl=some (.lst ((ns++[B']).map V.int)):=by rw[iC n1];exact sA _ _ NB
   have MJ:=ir (H:=HA) (a:=pc) (o:=.lst (px++[.ref t]));have Nv:upd HA pc (.lst (px++[.ref t])) st=some o8:=by rw[iC Nc.symm];exact sA _ _ e8
   have bB:But st H3 (upd HA pc (.lst (px++[.ref t]))):=qK (b8.trans (But.same sA)) Nm;have Nu:Prs (upd HA pc (.lst (px++[.ref t]))) (px++[.ref t]) (ps++[(B',pr)]):=j3 (Prs.tups (sA.tups.trans tB) Nr) ⟨t,rfl,tB _ _ rfl eA⟩;have Nq:Prs (upd HA pc (.lst (px++[.ref t]))) qx qs:=Prs.tups (sA.tups.trans tB) Np;generalize upd HA pc (.lst (px++[.ref t]))=HB at tB ML Nn MJ Nv bB Nu Nq;have a1:=mB (xs:=hs) (k:=0+(i:Int)) (by lia) (by lia);have NL:=bB _ _ Nz MN;refine⟨⟨Y,_,rfl,ML⟩,?_⟩;simp_arith[iH,NL,a1];intro t2 sq;have Ny:Y≠t2:=iO ML sq;simp_arith[iC Ny,ML];refine⟨iU (by lia),?_⟩;have sC:=iD sq (.tup [.int B',.int (iz hs (0+(i:Int)))]);have eC:=ir (H:=HB) (a:=t2) (o:=.tup [.int B',.int (iz hs (0+(i:Int)))]);have NH:=sC _ _ ML;generalize upd HB t2 (.tup [.int B',.int (iz hs (0+(i:Int)))])=HC at sC eC NH;have tD:TupS HC (upd HC Y (.lst (qx++[.ref t2]))):=ka NH;refine hD _ (ps++[(B',pr)]) (qs++[(B',iz hs (0+(i:Int)))]) _ _ ⟨qK (bB.trans (But.same sC)) Nl,⟨o8,by rw[iC M3.symm];exact sC _ _ Nv,Mi⟩,by rw[iC n2];exact sC _ _ Nn,by rw[iC n3];exact sC _ _ MJ,Prs.tups (sC.tups.trans tD) Nu,ir,j3 (Prs.tups (sC.tups.trans tD) Nq) ⟨t2,rfl,tD _ _ rfl eC⟩⟩ (by rw[aH,List.length_singleton];lia) (by have z:=W.step' hi S O;rw[aI (aO c1),aI (aO c1)]at z;rw[dh];exact z)
  simp only[mw,List.set_cons_zero,List.set_cons_succ];refine iK fun RR i'=>?_;walk_at "D";intro p1 L9;have M':p1≠st:=(iO e5 L9).symm;refine⟨st,o5,3,rfl,(iD L9 _) _ _ e5,Ma,by decide,by decide,fun d1 o6 Mx Mw L'=>?_⟩;obtain⟨v,NI,v0,N5⟩:∃v,jh [V.int 1,.int 2,.int 20] d1=some (.int v)/\1<=v/\v<=20:=by
   obtain⟨v,e,hv⟩:=zA (a:=1) (b:=2) (c:=20) Mx Mw;exact⟨v,e,by lia,by lia⟩
  simp_arith[iH,iC M',ir,NI];refine⟨st,o6,v,rfl,ir,L',by lia,by lia,fun d2 o7 M6 M5 Mr=>?_⟩;simp_arith[pU];subst i';refine iK fun RR i'=>?_;simp_arith[MD];have b7:But st H5 (upd (upd H5 p1 (.lst [.int 1,.int 2,.int 20])) st o7):=(But.new L9).trans (But.at _ _ _);have e7:upd (upd H5 p1 (.lst [.int 1,.int 2,.int 20])) st o7 st=some o7:=ir;generalize upd (upd H5 p1 (.lst [.int 1,.int 2,.int 20])) st o7=H7 at b7 e7;have t7:TupS H5 H7:=b7.tups e5 Ma.imm;have MD:=b7 _ _ Na Ni;refine⟨⟨nl,_,rfl,MD⟩,?_⟩;simp_arith[MD];refine⟨by rw[aa];exact iU (by lia),?_⟩;have M0:∀x∈ns,x<sz+1+d2:=fun x G=>by have:=MT x G;lia
  have L8:But st H3 (upd H7 nl (.lst (ns.map V.int++[.int (sz+1+d2)])))/\(∃o',(upd H7 nl (.lst (ns.map V.int++[.int (sz+1+d2)]))) st=some o'/\StO o')/\(upd H7 nl (.lst (ns.map V.int++[.int (sz+1+d2)]))) nl=some (.lst ((ns++[sz+1+d2]).map V.int))/\(upd H7 nl (.lst (ns.map V.int++[.int (sz+1+d2)]))) pc=some (.lst px)/\Prs (upd H7 nl (.lst (ns.map V.int++[.int (sz+1+d2)]))) px ps/\(upd H7 nl (.lst (ns.map V.int++[.int (sz+1+d2)]))) Y=some (.lst qx)/\Prs (upd H7 nl (.lst (ns.map V.int++[.int (sz+1+d2)]))) qx qs:=by
   have t8:TupS H7 (upd H7 nl (.lst (ns.map V.int++[.int (sz+1+d2)]))):=ka MD;refine⟨qK (b5.trans b7) Nk,⟨o7,by rw[iC Na.symm];exact e7,Mr⟩,by rw[ir,af];rfl,by rw[iC n1.symm];exact b7 _ _ Nc Mt,Prs.tups (t7.trans t8) MY,by rw[iC n2.symm];exact b7 _ _ M3 MB,Prs.tups (t7.trans t8) Mu⟩
  have Mz:=L8.1 _ _ NV MR;have M9:=L8.1 _ _ Nz MN;have e8:∃o',upd H7 nl (.lst (ns.map V.int++[.int (sz+1+d2)])) st=some o'/\StO o':=L8.2.1;generalize upd H7 nl (.lst (ns.map V.int++[.int (sz+1+d2)]))=H8 at L8 Mz M9 e8;obtain⟨o8,e8,Mi⟩:=e8;have a1:=mB (xs:=hs) (k:=0+(i:Int)) (by lia) (by lia);have a2:=mB (xs:=zs) (k:=0+(i:Int)) (by lia) (by lia);have ap:iz zs (0+(i:Int))=iP raw (0+(i:Int)):=az _ (by lia) (by lia);subst i';refine iK fun RR i'=>?_;simp_arith[iH,Mz,M9,a1,a2];refine⟨qf (by lia) (by lia),⟨by decide,by decide⟩,?_⟩;have MV:∀(H9:Hp) (ps qs:LY) (px qx:List V) (w2:Option V),But st H3 H9/\(∃o',H9 st=some o'/\StO o')/\H9 nl=some (.lst ((ns++[sz+1+d2]).map V.int))/\H9 pc=some (.lst px)/\Prs H9 px ps/\H9 Y=some (.lst qx)/\Prs H9 qx qs->qs.length<=i+1->PlW hs raw tw (i+1) (ns++[sz+1+d2]) ps qs->∃Z nn Mq ns ps qs px qx,[some (.ref st),some (.ref J),some (.ref ra),some (.ref pl),some (.int (0+(i:Int))),v2,v3,some (.int tw),some (.int (sz+1+d2)),some (.ref nl),some (.ref pc),some (.ref Y),w2,none,none,none]=[some (.ref st),some (.ref J),some (.ref ra),some (.ref pl),Z,v2,v3,some (.int tw),some (.int nn),some (.ref nl),some (.ref pc),some (.ref Y),Mq,none,none,none]/\But st H3 H9/\(∃o',H9 st=some o'/\StO o')/\H9 nl=some (.lst (ns.map V.int))/\H9 pc=some (.lst px)/\Prs H9 px ps/\H9 Y=some (.lst qx)/\Prs H9 qx qs/\qs.length<=i+1/\PlW hs raw tw (i+1) ns ps qs/\(∀x∈ns,-1<x/\x<=nn)/\-1<=nn/\nn<=20*((i+1:Nat):Int)-1:=fun H9 ps qs px qx w2 z1 z2 z3=>⟨_,sz+1+d2,_,ns++[sz+1+d2],ps,qs,px,qx,rfl,z1.1,z1.2.1,z1.2.2.1,z1.2.2.2.1,z1.2.2.2.2.1,z1.2.2.2.2.2.1,z1.2.2.2.2.2.2,z2,z3,(fun x G=>by
   rcases br.mp G with y|y
   ·have:=M0 x y;have:=MT x y;lia
   ·rw[aK.mp y];lia),by lia,by lia⟩
  subst i';simp_arith[iH,Mz,M9,a1,a2];refine kW (fun c1=>?_) (fun c1=>?_)
  ·refine⟨qf (by lia) (by lia),⟨by decide,by decide⟩,?_⟩;refine⟨st,o8,3,rfl,e8,Mi,by decide,by decide,fun d3 o9 MX MW Nb=>?_⟩;walk_at "D";have c2:iz hs (i:Int)=0:=by rw[dh]at c1;exact aO c1
   have t9:TupS H8 (upd H8 st o9):=(But.at st H8 o9).tups e8 Mi.imm;refine key _ _ _ _ (fun H9 ps qs px qx z1 z2 z3=>MV H9 ps qs px qx _ z1 z2 z3) M0 (by refine⟨fun z=>absurd c2 z,?_⟩;have X:=R.xle MU (i:Int);rw[ap,dh];generalize iP raw (i:Int)*tw=x at X ⊢;exact⟨fun _=>⟨by split<;>lia,by split<;>lia⟩,by split<;>lia,by split<;>lia⟩) ⟨L8.1.trans (But.at _ _ _),⟨o9,ir,Nb⟩,by rw[iC Na];exact L8.2.2.1,by rw[iC Nc];exact L8.2.2.2.1,Prs.tups t9 L8.2.2.2.2.1,by rw[iC M3];exact L8.2.2.2.2.2.1,Prs.tups t9 L8.2.2.2.2.2.2⟩
  ·refine key _ _ _ _ (fun H9 ps qs px qx z1 z2 z3=>MV H9 ps qs px qx _ z1 z2 z3) M0 (by have X:=R.xle MU (i:Int);rw[ap];refine⟨fun _=>by rw[dh],fun z=>absurd (ao (by rw[dh];exact z)) c1,?_⟩;rw[dh];lia) L8
 rintro σ H5 ⟨Z,sz,w2,ns,ps,qs,px,qx,rfl,b5,⟨o5,e5,Ma⟩,Ni,Mt,MY,MB,Mu,lq,W,MT,NW,NN⟩;have Mh:=W.len;obtain⟨cs,C,rfl,rfl⟩:=W;rw[aD]at Mu lq;have G':=C.cl;have Nj:qx.length=(jO ns cs hs).length:=aq Mu;have Me:=b5 _ _ Mj K';have Mc:=Rws.but Mf so b5 NM;walk_at "D";subst i';refine iK fun RR i'=>?_;walk_at "D";refine jA (i5 K Y) H5 (fun R U=>?_) (fun kl Mm=>jn (jO ns cs hs).length (fun i L I=>∃Z w2,L=[Z,w2]/\Same H5 I/\I kl=some (.lst ((((jO ns cs hs).take i).map (·.1)).map V.int))) ⟨none,none,rfl,iD Mm _,ir⟩ ?_ ?_)
 ·unfold i8;walk_at "D";exact⟨Y,rfl,⟨_,SqL.of MB⟩,U⟩
 ·rintro k L I F ⟨Z,w2,rfl,s6,e6⟩;have MP:k<qx.length:=by lia
  have x1:qx[k]? =some qx[k]:=gE MP;obtain⟨p,O,qp⟩:=jm Mu x1;have z1:SqL K I Y qx:=SqL.of (s6 _ _ MB);refine⟨⟨_,_,z1,x1⟩,?_⟩;rintro y H' ⟨rfl,hy⟩;have E1:qx[k]=y:=aJ (x1.symm.trans (hy _ z1));obtain⟨t,e1,MG⟩:=qp.same s6;rw[E1]at e1;subst e1;simp_arith[MG];refine⟨_,e6,by rw[aa,aa,aP];exact iU (by lia),_,_,rfl,i4 s6 Mm,?_⟩;rw[ji O,af,af];exact ir
 rintro L H6 ⟨N6,Mq,rfl,s6,e6⟩;refine⟨⟨_,SqL.of (s6 _ _ MB),by rw[Nj];exact ay _⟩,?_⟩;rw[aD]at e6;have Mg:=s6 _ _ Me;have MZ:=Rws.same s6 Mc;have NC:=s6 _ _ Ni;walk_at "D";subst i';refine iK fun RR i'=>?_;walk_at "D";refine jA (i5 K ra) H6 (fun R U=>?_) (fun tl J'=>jn raw.length (fun i L I=>∃Z w2 w3 ys ts,L=[Z,w2,w3,some (.ref nl),some (.ref kl)]/\Same H6 I/\I tl=some (.lst ys)/\Prs I ys ts/\ts=lF ns cs (raw.take i)/\ts.length<=i) ⟨none,none,none,[],[],rfl,iD J' _,ir,.nil,rfl,ay _⟩ ?_ ?_)
 ·unfold i8;walk_at "D";exact⟨ra,rfl,⟨_,SqL.of Mg⟩,U⟩
 ·rintro k L I F ⟨Z,w2,w3,ys,ts,rfl,s7,e7,p7,g7,l7⟩;have MP:k<rx.length:=by lia
  have x1:rx[k]? =some rx[k]:=gE MP;obtain⟨r,M,qr⟩:=jm MZ x1;have z1:SqL K I ra rx:=SqL.of (s7 _ _ Mg);refine⟨⟨_,_,z1,x1⟩,?_⟩;rintro y H' ⟨rfl,hy⟩;have E1:rx[k]=y:=aJ (x1.symm.trans (hy _ z1));obtain⟨t,e1,MG⟩:=qr;rw[E1]at e1;subst e1;have M4:=s7 _ _ MG;have NA:=R.ix r (aC M);have a1:=mB (xs:=ns) (k:=r.1) (by lia) (by lia);have a2:=mB (xs:=ns) (k:=r.2.1) (by lia) (by lia);have MA:ys.length=ts.length:=aq p7;have Mv:∀k:Int,0<=k->k<hs.length->(iz ns k∈(jO ns cs hs).map (·.1)↔0<iz cs k):=fun k k0 k1=>Hh Mh G' R.hb C.rise k0 k1;have M7:lF ns cs (raw.take (k+1))=lF ns cs (raw.take k)++if(decide (0<iz cs r.1)&&decide (0<iz cs r.2.1))=true then[(iz ns r.1,iz ns r.2.1)]else[]:=by
   unfold lF;rw[ji M,bI,af]
   congr 1
   rw[bU];split<;>simp
  have NR:¬iz ns r.1∈(jO ns cs hs).map (·.1)->ts=lF ns cs (raw.take (k+1)):=fun z=>by
   rw[M7,aA (fun y=>z ((Mv _ (by lia) (by lia)).mpr y)),de,aG (by decide),aS];exact g7
  have NJ:¬iz ns r.2.1∈(jO ns cs hs).map (·.1)->ts=lF ns cs (raw.take (k+1)):=fun z=>by
   rw[M7,aA (fun y=>z ((Mv _ (by lia) (by lia)).mpr y)),fb,aG (by decide),aS];exact g7
  simp_arith[M4,iH,s7 _ _ NC,s7 _ _ e6,a1,a2,kD,flat_ints,nA];refine kW (fun c1=>?_) (fun c1=>⟨_,_,_,ys,ts,rfl,s7,e7,p7,NR (by simpa using c1),by lia⟩);refine kW (fun c2=>?_) (fun c2=>⟨_,_,_,ys,ts,rfl,s7,e7,p7,NJ (by simpa using c2),by lia⟩);intro t2 sq;have sA:=iD sq (.tup [.int (iz ns r.1),.int (iz ns r.2.1)]);have tA:=sA.tups.trans (ka (ys:=ys++[.ref t2]) (sA _ _ e7));refine⟨_,sA _ _ e7,iU (by lia),_,_,_,_,ts++[(iz ns r.1,iz ns r.2.1)],rfl,i4 (s7.trans sA) J',ir,j3 (Prs.tups tA p7) ⟨t2,rfl,by rw[iC (iO e7 sq).symm,ir]⟩,?_,by rw[aH,List.length_singleton];lia⟩;rw[M7,ao ((Mv _ (by lia) (by lia)).mp (by simpa using c1)),ao ((Mv _ (by lia) (by lia)).mp (by simpa using c2)),cz,aI rfl,g7]
 rintro L H7 ⟨NZ,NX,N1,ys,ts,rfl,s7,e7,p7,g7,l7⟩;refine⟨⟨_,SqL.of (s7 _ _ Mg),by rw[Nd];exact ay _⟩,?_⟩;have M8:=s7 _ _ Mg;have NT:=Rws.same s7 MZ;have MD:=s7 _ _ NC;walk_at "D";subst i';refine iK fun RR i'=>?_;walk_at "D";refine jA (i5 K ra) H7 (fun R U=>?_) (fun dl ME=>jn raw.length (fun i L I=>∃Z w2 w3 zs,L=[Z,w2,w3,some (.ref nl),some (.int tw)]/\Same H7 I/\I dl=some (.lst zs)/\j8 I zs (ke ns tw (raw.take i))) ⟨none,none,none,[],rfl,iD ME _,ir,.nil⟩ ?_ ?_)
 ·unfold i8;walk_at "D";exact⟨ra,rfl,⟨_,SqL.of M8⟩,U⟩
 ·rintro k L I F ⟨Z,w2,w3,MM,rfl,s8,e8,p8⟩;have MP:k<rx.length:=by lia
  have x1:rx[k]? =some rx[k]:=gE MP;obtain⟨r,M,qr⟩:=jm NT x1;have z1:SqL K I ra rx:=SqL.of (s8 _ _ M8);refine⟨⟨_,_,z1,x1⟩,?_⟩;rintro y H' ⟨rfl,hy⟩;have E1:rx[k]=y:=aJ (x1.symm.trans (hy _ z1));obtain⟨t,e1,MG⟩:=qr;rw[E1]at e1;subst e1;have M4:=s8 _ _ MG;have NA:=R.ix r (aC M);have a1:=mB (xs:=ns) (k:=r.1) (by lia) (by lia);have a2:=mB (xs:=ns) (k:=r.2.1) (by lia) (by lia);have F':MM.length<=81:=by
   have z2:=aq p8;have z3:=BB ns tw (raw.take k);rw[aP]at z3;lia
  simp_arith[M4,iH,s8 _ _ MD,a1,a2];rw[Ip M];refine kW (fun c1=>?_) (fun c1=>?_)
  ·rw[aI c1];refine⟨qf (by lia) (by lia),fun t2 sq=>?_⟩;have sA:=iD sq (.tup [.int (iz ns r.1),.int (iz ns r.2.1),.int (r.2.2*tw)]);have tA:=sA.tups.trans (ka (ys:=MM++[.ref t2]) (sA _ _ e8));exact⟨_,sA _ _ e8,iU (by lia),_,_,_,_,rfl,i4 (s8.trans sA) ME,ir,j3 (j7 tA p8) ⟨t2,rfl,by rw[iC (iO e8 sq).symm,ir]⟩⟩
  ·rw[aG c1,aS];exact⟨_,_,_,_,rfl,s8,e8,p8⟩
 rintro L H8 ⟨wa,wb,wc,dx,rfl,s8,e8,p8⟩;refine⟨⟨_,SqL.of (s8 _ _ M8),by rw[Nd];exact ay _⟩,?_⟩;rw[aD]at p8;walk_at "D";subst i';walk_at "D";intro t1 MF t2 sq;have sA:=iD MF (.tup [.ref pc,.ref tl]);have sB:=iD sq (.tup [.ref t1,.ref Y,.ref dl]);have ND:t1 ≠ t2:=fun z=>by rw [<- z,ir] at sq; cases sq
 have Mb:=sA.trans sB;have MC:=s6.trans (s7.trans s8);rw[aD]at g7;subst g7;exact h t2 (.ref t1) Y dl qx dx ns cs tw _ o5 ((((But.same Nw).trans b5).trans (But.same MC)).trans (But.same Mb)) ((MC.trans Mb) _ _ e5) Ma ir ⟨t1,pc,tl,px,ys,rfl,sB _ _ ir,(MC.trans Mb) _ _ Mt,(s8.trans Mb) _ _ e7,Prs.same (MC.trans Mb) MY,Prs.same (s8.trans Mb) p7⟩ ((MC.trans Mb) _ _ MB) (Prs.same (MC.trans Mb) Mu) (Mb _ _ e8) (j7 Mb.tups p8) ⟨Mh,G',R.hl,R.hb,C.rise,(fun n S=>by have:=MT n S;lia),R.ix,R.len,R.up,R.pos,R.two,R.due,MU.1,(fun k k0 k1 kh=>ev k k0 k1 kh),(fun k k0 k1 F=>(C.at' k k0 k1).1 F),(fun k k0 k1 F=>(C.at' k k0 k1).2.1 F),(fun c Y=>(C.mem c Y).1),by have:=sum_le (b:=90000000000) (fun c Y=>(C.mem c Y).2);lia⟩
theorem vf{ι:Type}{src:L6}{F:TI}{g:TG}{tc:TT}{te:TE}{Q:VK}{σ:St}(J:ι->It)(H1:ι->Hp)(k:ι->Prop)(h1:∀R:It->Hp->Prop,(∀p,k p->R (J p) (H1 p))->F σ H R)
  (h2:∀p,k p->∀l,H1 p l=none->rD (J p) src g tc te Q σ (H1 p) l):qE src F g tc te σ H Q:=h1 _ h2
theorem Eb:(10:Int)^Int.toNat 9=1000000000:=by decide
noncomputable def GR(hs:List Int)(r:Int×Int×Int):Prop:=(0<=r.1/\r.1<r.2.1/\r.2.1<hs.length)/\(0<=r.2.2/\r.2.2<=1000000000)/\2<=iz hs r.1+iz hs r.2.1/\(0<r.2.2->iz hs r.1+iz hs r.2.1=2)
theorem Er{a b:Addr}{x y z:Int}(T:H a=some (.lst [.int x,.int y,.int z]))(G:H b=some (.lst rx))(h:∀v∈rx,∃t,v= .ref t):a≠b:=fun e=>by
 rw[e,G]at T;cases T;obtain⟨t,e⟩:=h (.int x) (aE ..);cases e
theorem Rws.upd{b:Addr}{ys:List V}{raw:LX}(h:Rws H rx raw)(G:H b=some (.lst rx)):Rws (upd H b (.lst ys)) rx raw:=by
 have M:=BZ h;exact Paired.mapP h fun _ _ ⟨a,e,q⟩=>⟨a,e,by rw[iC (Er q G M)];exact q⟩
noncomputable def Bd:Sp:=fun vs H Q _=>∃(st:Addr) (o:HO),vs=[.ref st,.int 8]/\H st=some o/\StO o/\
 ∀(t:Addr) (w:V) (Z b:Addr) (G dx:List V) (hs ns cs:List Int) (raw:LX) (tw:Int) (H':Hp) (o':HO),But st H H'->H' st=some o'->StO o'->H' t=some (.tup [w,.ref Z,.ref b])->jbl H' w (jD ns cs) (lF ns cs raw)->H' Z=some (.lst G)->Prs H' G (jO ns cs hs)->H' b=some (.lst dx)->j8 H' dx (ke ns tw raw)->Laid hs ns cs raw tw->Q (.ref t) H'
noncomputable def LB(raw:LX)(n:Nat)(a b:Int):Prop:=raw.length<=n/\(raw.Pairwise fun x y=>Lx (x.1,x.2.1) (y.1,y.2.1))/\∀r∈raw,r.1<a\/(r.1=a/\r.2.1<b)
theorem LB.mono{raw:LX}{n c:Nat}{a b C:Int}(h:LB raw n a b)(S:n<=c)(Z:a<C\/(a=C/\b<=b')):LB raw c C b':=⟨bw h.1 S,h.2.1,fun r M=>by have:=h.2.2 r M;lia⟩
theorem LB.snoc{raw:LX}{n c:Nat}{a b:Int}{r:Int×Int×Int}(h:LB raw n a b)(S:n+1<=c)(h1:r.1=a)(h2:r.2.1=b)(U:b<b'):LB (raw++[r]) c a b':=by
 refine⟨by rw[aH,List.length_singleton];have:=h.1;lia,bZ.mpr ⟨h.2.1,List.pairwise_singleton _ _,fun x G y O=>?_⟩,fun x G=>?_⟩
 ·rw[aK.mp O];rcases h.2.2 x G with z|⟨J,f⟩
  ·exact qG (by show x.1<r.1;lia)
  ·unfold Lx;dsimp only;rw[J,h1];exact uf (by lia)
 ·rcases br.mp G with z|z
  ·have:=h.2.2 x z;lia
  ·rw[aK.mp z];lia
theorem J9(B:Blt mg)(D:DefAt K mg "_law_laid" (top 58) ["_law_state","_law_most"] f fd)(i':Ok P w K mg base "_law_take" (top 54) 1 ["_law_state","_law_many"] pO)(ML:Ok P w K mg base "_law_priced" (top 57) 2 ["_law_state","_law_hs","_law_raw"] CH):FnOk P w K mg base iT 3 f fd ["_law_state","_law_most"] Bd:=by
 refine i6 D.F ["_law_state","_law_most","_law_great","_law_dense","_law_hs","_law_raw","_law_k","_law_j","_law_due"] (by rintro _ _ _ _ ⟨st,o,rfl,_⟩;rfl) ?_;rintro _ A _ s H vs Q E X M _ _ ⟨st,o,rfl,es,so,h⟩;refine⟨_,(iy (iM 2 X (iE (jW (jH iu (iG iu (iQ tU iu iu)))) (iN i' M (iG (qv 0) iu)))) (iy (iM 3 X (iQ ju iu (iN i' M (iG (qv 0) iu)))) (iy (rB 4 X ["_law_k","_law_state"] [none,some 0] (nD rfl B.range (iJ (iN i' M (iG (qv 0) (iQ ju (qv 1) iu))))) (iV 0) (iN i' M (iG (qv 1) iu))) (iy (iM 5 X (jW kF)) (iy (jY bg rfl (nD rfl B.range (iJ (kZ B (qv 4)))) (jd 6 X) (iF (jY bg rfl (CD rfl B.range (iG (iQ ju (qv 6) iu) (kZ B (qv 4)))) (jd 7 X) (iF (jt (PW.pt (nX (jc nK (iQ ju (iE (qv 4) (qv 6)) (iE (qv 4) (qv 7))) iu (ja _)) (n6 (jc nJ (iN i' M (iG (qv 0) iu)) (qv 3) (ja _))))) (iy (iM 8 X iu) (iy (jt (PW.pt (nX (jc ly (iQ ju (iE (qv 4) (qv 6)) (iE (qv 4) (qv 7))) iu (ja _)) (n6 (jc nK (iN i' M (iG (qv 0) iu)) iu (ja _))))) (iF (iM 8 X (iQ ju iu (iN i' M (iG (qv 0) (qv 2)))))) jv) (iF (j6 (kI ba aY aX kN (qv 5) (iJ (jW (jH (qv 6) (iG (qv 7) (qv 8)))))))))) jv))))) (iF (iS (iN ML M (jH (qv 0) (iG (qv 4) (qv 5))))))))))),?_⟩;walk_at "D";refine⟨⟨by decide,by decide,by decide⟩,?_⟩;intro p1 sz;have Mw:p1≠st:=(iO es sz).symm;refine⟨st,o,3,rfl,(iD sz _) _ _ es,so,by decide,by decide,fun d1 o1 Mj Mi Mm=>?_⟩;obtain⟨g,ev,g0,g1⟩:∃v,jh [V.int 2,.int 9,.int (10^Int.toNat 9)] d1=some (.int v)/\1<=v/\v<=1000000000:=by
  obtain⟨v,e,Y⟩:=zA (a:=2) (b:=9) (c:=10^Int.toNat 9) Mj Mi;rw[Eb]at Y;exact⟨v,e,by lia,by lia⟩
 simp_arith[iH,iC Mw,ir,ev];refine⟨st,o1,4,rfl,ir,Mm,by decide,by decide,fun d2 o2 Mv Mu A'=>?_⟩;simp_arith[pU];have b2:But st H (upd (upd H p1 (.lst [.int 2,.int 9,.int (10^Int.toNat 9)])) st o2):=(But.new sz).trans (But.at _ _ _);have e2:upd (upd H p1 (.lst [.int 2,.int 9,.int (10^Int.toNat 9)])) st o2 st=some o2:=ir;generalize upd (upd H p1 (.lst [.int 2,.int 9,.int (10^Int.toNat 9)])) st o2=H1 at b2 e2;generalize MX:1+d2=dn;refine vf (ι:=Int×HO) (fun i=>lE 0 i.1.toNat) (fun i=>upd H1 st i.2) (fun i=>0<=i.1/\i.1<=9/\StO i.2) (fun R U=>?_) (fun i0 MI Z Mf=>?_)
 ·unfold ni;walk_at "D";refine⟨st,o2,9,rfl,e2,A',by decide,by decide,fun d o3 d0 d1 sq=>?_⟩;exact⟨d,rfl,by lia,by lia,U (d,o3) ⟨d0,by show d<=9;lia,sq⟩⟩
 obtain⟨n,o3⟩:=i0;obtain⟨n0,n1,sq⟩:=MI;dsimp only at n0 n1 sq Mf ⊢;have Me:Z≠st:=fun z=>by rw[z,ir]at Mf;cases Mf
 have MD:H1 Z=none:=by rw[iC Me]at Mf;exact Mf
 refine jn n.toNat (fun i l I=>∃m o' hs,l=[m,some (.ref st)]/\But st H1 I/\I st=some o'/\StO o'/\I Z=some (.lst (hs.map V.int))/\hs.length=i/\∀h∈hs,0<=h/\h<=(2:Int)) ⟨none,o3,[],rfl,qK (But.at _ _ _) MD,by rw[iC Me.symm,ir],sq,ir,rfl,(fun h C=>by cases C)⟩ ?_ ?_
 ·rintro k l I F ⟨m,o',hs,rfl,b3,e3,B',eh,lh,ah⟩;refine⟨F,?_⟩;rintro y H' ⟨rfl,rfl⟩;walk_at "D";refine⟨st,o',3,rfl,e3,B',by decide,by decide,fun d o4 d0 d1 Ma=>?_⟩;refine⟨_,by rw[iC Me];exact eh,by rw[aa];exact iU (by lia),_,o4,hs++[d],rfl,qK (b3.trans (But.at _ _ _)) MD,by rw[iC Me.symm,ir],Ma,by rw[af];exact ir,by rw[aH,List.length_singleton,lh],fun x G=>?_⟩;rcases br.mp G with z|z
  ·exact ah x z
  ·rw[aK.mp z];lia
 rintro l H2 ⟨m,o4,hs,rfl,b3,e3,Ma,eh,lh,ah⟩;refine⟨ay _,?_⟩;have MN:hs.length<=9:=by lia
 walk_at "D";intro ra Ml;have Mc:ra≠st:=(iO e3 Ml).symm;have MT:Z≠ra:=iO eh Ml;refine kA (lE 0 hs.length) _ (fun R U=>?_) (oa (lo:=0) (n:=hs.length) (fun i σ H3=>∃m N w3 rx raw,σ=[some (.ref st),some (.int 8),some (.int g),some (.int dn),some (.ref Z),some (.ref ra),m,N,w3]/\But st H2 H3/\(∃o',H3 st=some o'/\StO o')/\H3 ra=some (.lst rx)/\Rws H3 rx raw/\(∀r∈raw,GR hs r)/\LB raw (9*i) (i:Int) 0) ⟨_,_,_,[],[],rfl,But.new Ml,⟨o4,(iD Ml _) _ _ e3,Ma⟩,ir,.nil,(fun r M=>by cases M),⟨ay _,.nil,fun r M=>by cases M⟩⟩ ?_ ?_)
 ·unfold ni;simp_arith[iH,(iD Ml (.lst [])) _ _ eh,aa];exact⟨_,rfl,by lia,by lia,U⟩
 ·rintro i σ H3 hi ⟨m,N,w3,rx,raw,rfl,b4,⟨o5,e4,G'⟩,er,pr,gr,lr⟩;have Mn:=b4 _ _ Me eh;walk_at "D";refine kA (lE (0+(i:Int)+1) ((hs.length:Int)-(0+(i:Int)+1)).toNat) H3 (fun R U=>?_) (oa (lo:=0+(i:Int)+1) (n:=((hs.length:Int)-(0+(i:Int)+1)).toNat) (fun j σ q=>∃N w3 rx raw,σ=[some (.ref st),some (.int 8),some (.int g),some (.int dn),some (.ref Z),some (.ref ra),some (.int (0+(i:Int))),N,w3]/\But st H2 q/\(∃o',q st=some o'/\StO o')/\q ra=some (.lst rx)/\Rws q rx raw/\(∀r∈raw,GR hs r)/\LB raw (9*i+j) (i:Int) ((i:Int)+1+j)) ⟨_,_,rx,raw,rfl,b4,⟨o5,e4,G'⟩,er,pr,gr,lr.mono (by lia) (.inr ⟨rfl,by lia⟩)⟩ ?_ ?_)
  ·unfold vT;simp_arith[iH,Mn,aa];exact⟨_,_,rfl,⟨by lia,by lia,by lia,by lia⟩,U⟩
  ·rintro j σ q W ⟨N,w3,rx,raw,rfl,b5,⟨o6,e5,F'⟩,K',J',Mt,Mp⟩;have Mo:=b5 _ _ Me eh;have MB:0+(i:Int)+1+j<hs.length:=by lia
   have u:=mB (xs:=hs) (k:=0+(i:Int)) (by lia) (by lia);have p:=mB (xs:=hs) (k:=0+(i:Int)+1+j) (by lia) (by lia);have ME:rx.length=raw.length:=aq J';have MR:=Mp.1;have skip:∀(T:Hp) (w3:Option V),But st q T->(∃o',T st=some o'/\StO o')->∃Mg MA rx raw,[some (.ref st),some (.int 8),some (.int g),some (.int dn),some (.ref Z),some (.ref ra),some (.int (0+(i:Int))),some (.int (0+(i:Int)+1+j)),w3]=[some (.ref st),some (.int 8),some (.int g),some (.int dn),some (.ref Z),some (.ref ra),some (.int (0+(i:Int))),Mg,MA]/\But st H2 T/\(∃o',T st=some o'/\StO o')/\T ra=some (.lst rx)/\Rws T rx raw/\(∀r∈raw,GR hs r)/\LB raw (9*i+(j+1)) (i:Int) ((i:Int)+1+((j+1:Nat):Int)):=fun T w3 b z=>⟨_,_,rx,raw,rfl,b5.trans b,z,b _ _ Mc K',Rws.but e5 F' b J',Mt,Mp.mono (by lia) (.inr ⟨rfl,by lia⟩)⟩;generalize hB:rN (sP qL (jK 5) (k8 (vz (k8 (jK 6) (k8 (jK 7) (k8 (jK 8) lH)))) lH))=B2;have key:∀(D':Ends) (T:Hp) (L':Int),(∀(H6:Hp) (rx:List V) (raw:LX),But st H2 H6/\(∃o',H6 st=some o'/\StO o')/\H6 ra=some (.lst rx)/\Rws H6 rx raw/\(∀r∈raw,GR hs r)->LB raw (9*i+(j+1)) (i:Int) ((i:Int)+1+((j+1:Nat):Int))->D'.nx [some (.ref st),some (.int 8),some (.int g),some (.int dn),some (.ref Z),some (.ref ra),some (.int (0+(i:Int))),some (.int (0+(i:Int)+1+j)),some (.int L')] H6)->But st q T->(∃o',T st=some o'/\StO o')->GR hs (0+(i:Int),0+(i:Int)+1+j,L')->B2 D' [some (.ref st),some (.int 8),some (.int g),some (.int dn),some (.ref Z),some (.ref ra),some (.int (0+(i:Int))),some (.int (0+(i:Int)+1+j)),some (.int L')] T:=by
    rintro D' T L' hD b6 ⟨o7,e6,Mh⟩ gd;have L8:=b6 _ _ Mc K';have Ms:=Rws.but e5 F' b6 J';subst hB;walk_at "D";refine⟨⟨ra,_,rfl,L8⟩,fun t S=>?_⟩;have nt:ra≠t:=iO L8 S;simp_arith[iC nt,L8];refine⟨iU (by lia),?_⟩;have O:=iD S (.lst [.int (0+(i:Int)),.int (0+(i:Int)+1+j),.int L']);have MF:=O _ _ L8;have eA:=ir (H:=T) (a:=t) (o:=.lst [.int (0+(i:Int)),.int (0+(i:Int)+1+j),.int L']);have MG:=Rws.same O Ms;generalize upd T t (.lst [.int (0+(i:Int)),.int (0+(i:Int)+1+j),.int L'])=HA at O MF eA MG;refine hD _ (rx++[.ref t]) (raw++[(0+(i:Int),0+(i:Int)+1+j,L')]) ⟨qK ((b5.trans b6).trans (But.same O)) Ml,⟨o7,by rw[iC Mc.symm];exact O _ _ e6,Mh⟩,ir,j3 (Rws.upd MG MF) ⟨t,rfl,by rw[iC nt.symm];exact eA⟩,fun r M=>?_⟩ (Mp.snoc (by lia) (by show 0+(i:Int)=_;lia) (by show 0+(i:Int)+1+j=_;lia) (by lia));rcases br.mp M with z|z
    ·exact Mt r z
    ·rw[aK.mp z];exact gd
   simp_arith[iH,Mo,u,p];refine kW (fun c1=>?_) (fun c1=>skip q _ (But.refl _ _) ⟨o6,e5,F'⟩);have MV:iz hs (0+(i:Int))+iz hs (0+(i:Int)+1+j)>1:=aO c1;refine⟨st,o6,5,rfl,e5,F',by decide,by decide,fun d3 o7 Mr Mq Mh=>?_⟩;walk_at "D";refine kW (fun c2=>?_) (fun c2=>skip _ _ (But.at _ _ _) ⟨o7,ir,Mh⟩);have Mz:upd q st o7 Z=some (.lst (hs.map V.int)):=by rw[iC Me];exact Mo
   simp_arith[iH,Mz,u,p];have L9:∀(H6:Hp) (rx:List V) (raw:LX) (w3:Option V),But st H2 H6/\(∃o',H6 st=some o'/\StO o')/\H6 ra=some (.lst rx)/\Rws H6 rx raw/\(∀r∈raw,GR hs r)->LB raw (9*i+(j+1)) (i:Int) ((i:Int)+1+((j+1:Nat):Int))->∃Mg MA rx raw,[some (.ref st),some (.int 8),some (.int g),some (.int dn),some (.ref Z),some (.ref ra),some (.int (0+(i:Int))),some (.int (0+(i:Int)+1+j)),w3]=[some (.ref st),some (.int 8),some (.int g),some (.int dn),some (.ref Z),some (.ref ra),some (.int (0+(i:Int))),Mg,MA]/\But st H2 H6/\(∃o',H6 st=some o'/\StO o')/\H6 ra=some (.lst rx)/\Rws H6 rx raw/\(∀r∈raw,GR hs r)/\LB raw (9*i+(j+1)) (i:Int) ((i:Int)+1+((j+1:Nat):Int)):=fun H6 rx raw w3 J z2=>⟨_,_,rx,raw,rfl,J.1,J.2.1,J.2.2.1,J.2.2.2.1,J.2.2.2.2,z2⟩;refine kW (fun c3=>?_) (fun c3=>?_)
   ·have MC:iz hs (0+(i:Int))+iz hs (0+(i:Int)+1+j)=2:=aO c3;refine⟨st,o7,4,rfl,ir,Mh,by decide,by decide,fun d4 o8 MP MQ Mb=>?_⟩;simp_arith[pU];refine kW (fun c4=>?_) (fun c4=>?_)
    ·refine⟨st,o8,g,rfl,ir,Mb,by lia,by lia,fun d5 o9 MW MU Mx=>?_⟩;simp_arith[pU];exact key _ _ _ (fun H6 rx raw J z2=>L9 H6 rx raw _ J z2) (But.at _ _ _) ⟨o9,ir,Mx⟩ ⟨⟨by show 0<=0+(i:Int);lia,by show 0+(i:Int)<0+(i:Int)+1+j;lia,MB⟩,by show 0<=1+d5/\1+d5<=1000000000;lia,by show 2<=iz hs (0+(i:Int))+iz hs (0+(i:Int)+1+j);lia,fun _=>MC⟩
    ·exact key _ _ _ (fun H6 rx raw J z2=>L9 H6 rx raw _ J z2) (But.at _ _ _) ⟨o8,ir,Mb⟩ ⟨⟨by show 0<=0+(i:Int);lia,by show 0+(i:Int)<0+(i:Int)+1+j;lia,MB⟩,by show(0:Int)<=0/\(0:Int)<=1000000000;lia,by show 2<=iz hs (0+(i:Int))+iz hs (0+(i:Int)+1+j);lia,fun _=>MC⟩
   ·exact key _ _ _ (fun H6 rx raw J z2=>L9 H6 rx raw _ J z2) (But.at _ _ _) ⟨o7,ir,Mh⟩ ⟨⟨by show 0<=0+(i:Int);lia,by show 0+(i:Int)<0+(i:Int)+1+j;lia,MB⟩,by show(0:Int)<=0/\(0:Int)<=1000000000;lia,by show 2<=iz hs (0+(i:Int))+iz hs (0+(i:Int)+1+j);lia,fun z=>absurd z (by show ¬(0:Int)<0;lia)⟩
  ·rintro σ q ⟨N,w3,rx,raw,rfl,b5,z5,K',J',Mt,Mp⟩;exact⟨_,_,_,rx,raw,rfl,b5,z5,K',J',Mt,Mp.mono (by lia) (.inl (by lia))⟩
 rintro σ H3 ⟨m,N,w3,rx,raw,rfl,b4,⟨o5,e4,G'⟩,er,pr,gr,lr⟩;walk_at "D";refine⟨st,Z,ra,o5,hs,rx,raw,rfl,e4,G',b4 _ _ Me eh,er,pr,⟨fun r M=>(gr r M).1,fun r M=>(gr r M).2.1.1,fun r M=>(gr r M).2.1.2,fun r M=>(gr r M).2.2.1,fun r M=>(gr r M).2.2.2,lr.2.1,by have:=lr.1;lia,MN,ah⟩,fun t wv MJ da G dx ns cs tw q o6 b5 e5 F' et w5 Mz MM ed pd L=>?_⟩;exact h t wv MJ da G dx hs ns cs raw tw q o6 (((b2.trans b3).trans b4).trans b5) e5 F' et w5 Mz MM ed pd L
noncomputable def nr(n:Int)(t:Int×Int):List Int:=if t.1=n then[t.2]else if t.2=n then[t.1]else[]
noncomputable def jC(ts:LY)(n:Int):List Int:=ts.flatMap (nr n)
theorem JA{j:Nat}{t:Int×Int}(h:ts[j]? =some t)(n:Int):jC (ts.take (j+1)) n=jC (ts.take j) n++nr n t:=by
 unfold jC;rw[ji h,fq];simp
theorem yd:∀(ts:LY) (n:Int),(jC ts n).length<=ts.length
 |[],n=>by simp[jC]
 | t::r,n=>by
  have E:=yd r n;have e:jC (t::r) n=nr n t++jC r n:=by simp[jC]
  have e2:(nr n t).length<=1:=by
   unfold nr;split
   ·simp
   ·split<;>simp
  rw[e,aH,List.length_cons];lia
noncomputable def kz:LY->List Addr->List (iw×V)
 |p::r,a::s=>(Sum.inl p.1,V.ref a)::kz r s
 |_,_=>[]
theorem AL:∀{ps:LY} {as:List Addr} {p:Int×Int} {a:Addr},ps.length=as.length->kz (ps++[p]) (as++[a])=kz ps as++[(Sum.inl p.1,V.ref a)]
 |[],[],_,_,_=>rfl
 |[],_::_,_,_,h=>by simp at h
 |_::_,[],_,_,h=>by simp at h
 |q::r,b::s,p,a,h=>by
  have E:=AL (ps:=r) (as:=s) (p:=p) (a:=a) (by simpa using h);show(Sum.inl q.1,V.ref b)::kz (r++[p]) (s++[a])=_;rw[E];rfl
theorem uv:∀{ps:LY} {as:List Addr},ps.length=as.length->(kz ps as).map (·.1)=ps.map fun p=>(Sum.inl p.1:iw)
 |[],[],_=>rfl
 |[],_::_,h=>by simp at h
 |_::_,[],h=>by simp at h
 |q::r,b::s,h=>by
  show(Sum.inl q.1:iw)::(kz r s).map (·.1)=_;rw[uv (by simpa using h)];rfl
theorem ud:∀{ps:LY} {as:List Addr} {i:Nat} {p:Int×Int} {a:Addr},(ps.map (·.1)).Nodup->ps[i]? =some p->as[i]? =some a->iX (kz ps as) (Sum.inl p.1:iw)=some (.ref a)
 |[],_,i,_,_,_,h,_=>by simp at h
 |_::_,[],i,_,_,_,_,h=>by simp at h
 | q::r,b::s,i,p,a,S,h1,h2=>by
  rw[ai]at S;unfold iX;show Option.map _ (List.find? _ ((Sum.inl q.1,V.ref b)::kz r s))=_;rw[List.find?_cons];cases i with
  |zero=>
   simp at h1 h2;subst h1 h2;simp
  |succ i=>
   have O:p∈r:=aC (by simpa using h1);have d:q.1≠p.1:=fun z=>(bV.mp S).1 (by rw[z];exact cG O);have J:decide ((Sum.inl q.1:iw)=Sum.inl p.1)=false:=aA fun z=>d (bR z);dsimp only;rw[J];exact ud (bV.mp S).2 (i:=i) (by simpa using h1) (by simpa using h2)
theorem BE(h:je (jE ps) n=true):∃(i:Nat) (p:Int×Int),ps[i]? =some p/\p.1=n:=by
 unfold je iX jE at h;rw[dP,gP]at h;obtain⟨L,K,R⟩:=h;obtain⟨p,O,e⟩:=av.mp K;subst e;obtain⟨i,hi,e2⟩:=bx.mp O;refine⟨i,p,by rw[gE hi,e2],?_⟩;exact bR (aO R)
theorem TiOk.ats{kvs:List (iw×V)}:∀{ts:LY} {q:Int×Int},TiOk kvs q ts->∀t∈ts,t.1<t.2/\je kvs t.1=true/\je kvs t.2=true
 |[],_,_,_,h=>by cases h
 |p::r,q,h,t,S=>by
  rcases aV.mp S with e|S
  ·rw[e];exact⟨h.1.2.1,h.1.2.2.1,h.1.2.2.2⟩
  ·exact TiOk.ats h.2 t S
noncomputable def vJ(H:Hp)(ps ts:LY)(as:List Addr):Prop:=∀(i:Nat) (p:Int×Int) (a:Addr),ps[i]? =some p->as[i]? =some a->H a=some (.lst ((jC ts p.1).map V.int))
noncomputable def yj:Sp:=fun vs H Q _=>∃v ps ts,vs=[v]/\jbl H v ps ts/\WebOk ps ts/\∀d as H',H d=none->Same H H'->H' d=some (.dK (kz ps as))->as.length=ps.length->vJ H' ps ts as->Q (.ref d) H'
theorem uJ{α:Type}{l:List α}(h:l.Nodup){i j:Nat}{a b:α}(h1:l[i]? =some a)(h2:l[j]? =some b)(c:i≠j):a≠b:=by
 intro e;subst e;obtain⟨p1,N⟩:=ax.mp h1;obtain⟨p2,G⟩:=ax.mp h2;exact c ((fQ h).mp (N.trans G.symm))
theorem Ke(B:Blt mg)(D:DefAt K mg "nears_in" (top 27) ["web"] f fd):FnOk P w K mg base iT 1 f fd ["web"] yj:=by
 refine i6 D.F ["web","nears","one","other"] (by rintro _ _ _ _ ⟨v,ps,ts,rfl,_⟩;rfl) ?_;rintro _ A _ s H vs Q E X M F Z ⟨v,ps,ts,rfl,V,sz,h⟩;obtain⟨x,pa,ta,xs,ys,rfl,ex,ep,et,pp,pt⟩:=id V;have L9:xs.length=ps.length:=aq pp;have Mg:ys.length=ts.length:=aq pt;have Mu:=sz.pl;have Mv:=sz.tl;have L8:=sz.p.nodup;have F:=jX M;have Z:_<PySem.cLine:=aZ F;refine⟨_,(iy (iM 1 X (nC (qO rfl) rfl B.dict cD (iJ (kR ["place","price"] [none,none] (jb (iE (qv 0) iu)) (jQ (n:=2) rfl (iR (iV 0) (iR (iV 1) jF))) (jx (iG (qv 0) (jW kF))))))) (iy (jY bg rfl (jb (iE (qv 0) iu)) (jQ (n:=2) rfl (iR (jd 2 X) (iR (jd 3 X) jF))) (iy (j6 (kI ba aY aX kN (lM F (qv 1) (qv 2) (fun _ _=>rfl)) (iJ (qv 3)))) (iF (j6 (kI ba aY aX kN (lM F (qv 1) (qv 3) (fun _ _=>rfl)) (iJ (qv 2))))))) (iF (iS (qv 1))))),?_⟩;walk_at "D";refine jA (i5 K pa) H (fun R Y=>?_) (fun l A'=>jn ps.length (fun i L I=>∃m w2 zs as,L=[m,w2]/\Same H I/\I l=some (.lst zs)/\as.length=i/\as.Nodup/\(∀a∈as,H a=none/\a≠l/\I a=some (.lst []))/\Paired (PairAt I) zs (kz (ps.take i) as)) ⟨none,none,[],[],rfl,iD A' _,ir,rfl,fA,(fun _ h=>by cases h),.nil⟩ ?_ ?_)
 ·unfold i8;simp_arith[iH,ex,iW];exact⟨pa,rfl,⟨_,SqL.of ep⟩,Y⟩
 ·rintro i L I hi ⟨m,w2,zs,as,rfl,s2,ez,F',Mc,g,pz⟩;have x1:xs[i]? =some (xs[i]'(by lia)):=gE _;have z1:SqL K I pa xs:=SqL.of (s2 _ _ ep);have Me:(ps.take i).length=as.length:=by rw[aP];lia
  have B':zs.length=(kz (ps.take i) as).length:=aq pz;have Mq:zs.length<=i:=by
   have e:=cA List.length (uv Me);rw[aa,aa]at e;lia
  refine⟨⟨_,_,z1,x1⟩,?_⟩;rintro y H' ⟨rfl,u⟩;obtain⟨q,W,pq⟩:=jm pp (u _ z1);obtain⟨t,rfl,S⟩:=pq.same s2;simp_arith[S];intro a1 Mb t2 i';have Ml:a1≠l:=fun z=>by rw[z,ez]at Mb;cases Mb
  have Mi:t2≠a1:=fun z=>by rw[z,ir]at i';cases i'
  have c:=iD Mb (.lst []);have s4:=iD i' (.tup [.int q.1,.ref a1]);have L':=s4 _ _ (c _ _ ez);have t6:=ka (ys:=zs++[.ref t2]) L';refine⟨zs,L',iU (by lia),_,_,zs++[.ref t2],as++[a1],rfl,i4 (s2.trans (c.trans s4)) A',(by first|rfl|exact ir),(by rw[aH,F'];rfl),?_,?_,?_⟩
  ·rw[eT];refine⟨Mc,(by simp),fun a G b U=>?_⟩;have Mp:b=a1:=by simpa using U
   intro z;rw[Mp]at z;have:=(g a G).2.2;rw[z,Mb]at this;cases this
  ·intro a G;rcases br.mp G with G|G
   ·obtain⟨N,q2,q3⟩:=g a G;refine⟨N,q2,?_⟩;rw[iC q2];exact s4 _ _ (c _ _ q3)
   ·have e:a=a1:=by simpa using G
    subst e;refine⟨s2.free Mb,Ml,?_⟩;rw[iC Ml];exact s4 _ _ ir
  ·rw[ji W,AL Me];refine j3 (Paired.mapP pz fun v p q=>?_) ⟨t2,rfl,t6 _ _ rfl ir⟩;obtain⟨b,e,q⟩:=q;exact⟨b,e,t6 _ _ rfl (s4 _ _ (c _ _ q))⟩
 rintro L I ⟨m,w2,zs,as,rfl,s2,ez,F',Mc,g,pz⟩;refine⟨⟨_,SqL.of (s2 _ _ ep),by lia⟩,?_⟩;rw[aD]at pz;have B':zs.length=(kz ps as).length:=aq pz;have Mn:=uv (ps:=ps) (as:=as) F'.symm;have Mq:zs.length=ps.length:=by
  have e:=cA List.length Mn;rw[aa,aa]at e;lia
 simp_arith[ez];refine⟨kz ps as,pz,by lia,?_,fun d J=>?_⟩
 ·rw[Mn];have Mh:=L8;unfold List.Nodup at Mh ⊢;rw[dw]at Mh ⊢;exact Mh.imp fun q z=>q (bR z)
 have c:=iD J (.dK (kz ps as));have ed:upd I d (.dK (kz ps as)) d=some (.dK (kz ps as)):=ir;have K':=s2.free J;have Ma:∀a∈as,H a=none/\a≠d/\upd I d (.dK (kz ps as)) a=some (.lst []):=fun a G=>by
  obtain⟨N,q2,q3⟩:=g a G;exact⟨N,iO q3 J,c _ _ q3⟩
 have G':=s2.trans c;generalize upd I d (.dK (kz ps as))=H2 at G' ed Ma;clear c s2 ez pz g B' J;refine kA (i5 K ta) H2 (fun R Y=>?_) (lG (K:=K) (a:=ta) (xs:=ys) (fun j σ H3=>∃v1 v2,σ=[some (.ref x),some (.ref d),v1,v2]/\Same H H3/\H3 d=some (.dK (kz ps as))/\vJ H3 ps (ts.take j) as) ⟨none,none,rfl,G',ed,fun i p a _ h2=>(Ma a (aC h2)).2.2⟩ (fun i σ H3 _ C=>by obtain⟨_,_,_,c,_⟩:=C;exact SqL.of (c _ _ et)) ?_ ?_)
 ·unfold i8;simp_arith[iH,G' _ _ ex,jl];exact⟨ta,rfl,⟨_,SqL.of (G' _ _ et)⟩,Y⟩
 ·rintro j y σ H3 hj ⟨v1,v2,rfl,c,sq,hN⟩;obtain⟨q,W,pq⟩:=jm pt hj;obtain⟨t,rfl,S⟩:=pq.same c;obtain⟨b1,b2,b3⟩:=sz.t.ats q (aC W);obtain⟨i1,p1,g1,e1⟩:=BE b2;obtain⟨i2,p2,g2,e2⟩:=BE b3;have Mt:i1<as.length:=by have:=(ax.mp g1).1;lia
  have Ms:i2<as.length:=by have:=(ax.mp g2).1;lia
  have A1:as[i1]? =some as[i1]:=gE Mt;have A2:as[i2]? =some as[i2]:=gE Ms;generalize as[i1]=a1 at A1;generalize as[i2]=a2 at A2;have V1:=ud L8 g1 A1;have V2:=ud L8 g2 A2;have Mj:i1≠i2:=fun z=>by rw[z,g2]at g1;cases g1;lia
  have na:a1≠a2:=uJ Mc A1 A2 Mj;rw[e1]at V1;rw[e2]at V2;have M1:=hN i1 p1 a1 g1 A1;have M2:=hN i2 p2 a2 g2 A2;have Mm:∀n,(jC (ts.take j) n).length<=120:=fun n=>bw (yd _ _) (by rw[aP];lia);have Mf:d≠a1:=((Ma a1 (aC A1)).2.1).symm;have Mr:d≠a2:=((Ma a2 (aC A2)).2.1).symm;simp_arith[S,sq,V1];refine⟨⟨a1,_,rfl,M1⟩,?_⟩;simp_arith[M1];refine⟨iU (by rw[aa];have:=Mm p1.1;lia),?_⟩;simp_arith[iC Mf,sq,V2];refine⟨⟨a2,_,rfl,(by rw[iC na.symm];exact M2)⟩,?_⟩;simp_arith[iC na.symm,M2];refine⟨iU (by rw[aa];have:=Mm p2.1;lia),_,_,rfl,?_,?_,?_⟩
  ·intro b o U;rw[iC (iO U (Ma a2 (aC A2)).1),iC (iO U (Ma a1 (aC A1)).1)];exact c b o U
  ·rw[iC Mr,iC Mf];exact sq
  ·intro i p a O J';rw[JA W,af];have Mo:∀{k:Nat} {r:Int×Int},ps[k]? =some r->r.1=p.1->k=i:=fun{k r} M T=>by
    have h1:(ps.map (·.1))[k]? =some r.1:=by rw[aU,M];rfl
    have h2:(ps.map (·.1))[i]? =some p.1:=by rw[aU,O];rfl
    by_cases z:k=i
    ·exact z
    ·exact absurd T (uJ L8 h1 h2 z)
   by_cases c2:i=i2
   ·subst c2;rw[g2]at O;cases O;rw[A2]at J';cases J';have e3:nr p2.1 q=[q.1]:=by
     unfold nr;rw[aG (by lia),aI e2.symm]
    rw[ir,e3];rfl
   by_cases c1:i=i1
   ·subst c1;rw[g1]at O;cases O;rw[A1]at J';cases J';have e3:nr p1.1 q=[q.2]:=by
     unfold nr;rw[aI e1.symm]
    rw[iC na,ir,e3];rfl
   have n1:a≠a1:=uJ Mc J' A1 c1;have n2:a≠a2:=uJ Mc J' A2 c2;have e3:nr p.1 q=[]:=by
    unfold nr;rw[aG (fun z=>c1 (Mo g1 (e1.trans z)).symm),aG (fun z=>c2 (Mo g2 (e2.trans z)).symm)]
   rw[iC n2,iC n1,e3,bO,aS];exact hN i p a O J'
 ·rintro σ H3 ⟨v1,v2,rfl,c,sq,hN⟩;rw[Mg,aD]at hN;walk_at "D";exact h d as H3 K' c sq F' hN
noncomputable def An:Sp:=fun vs H Q _=>∃d n kvs,vs=[.ref d,.int n]/\H d=some (.dK kvs)/\Q (.bl (je kvs n)) H
noncomputable def A5:Sp:=fun vs H Q _=>∃d kvs l,∃ns:List Int,vs=[.ref d,.ref l]/\H d=some (.dK kvs)/\H l=some (.tup (ns.map V.int))/\ns.length<=900/\∀H',Same H H'->Q (.bl (ns.all fun n=>je kvs n)) H'
theorem F8{ns:List Int}{i:Nat}{x:V}(h:(ns.map V.int)[i]? =some x):∃n,ns[i]? =some n/\x= .int n:=by
 rw[aU]at h;cases c:ns[i]? with
 |none=>rw[c]at h;cases h
 |some n=>rw[c]at h;exact⟨n,rfl,(aJ h).symm⟩
noncomputable def NrAt(H:Hp)(d:Addr)(ps ts:LY):Prop:=∃as,H d=some (.dK (kz ps as))/\as.length=ps.length/\vJ H ps ts as
theorem NrAt.same(h:NrAt H d ps ts)(s:Same H H'):NrAt H' d ps ts:=by
 obtain⟨as,e,l,n⟩:=h;exact⟨as,s _ _ e,l,fun i p a h1 h2=>s _ _ (n i p a h1 h2)⟩
theorem zS{as:List Addr}(Z:as.length=ps.length):je (kz ps as) n=decide (n∈ps.map (·.1)):=by
 have F:=uv (ps:=ps) (as:=as) Z.symm;unfold je iX;rw[dP,df,gP,bM];constructor
 ·rintro⟨L,K,R⟩;have h1:L.1∈(kz ps as).map (·.1):=cG K;rw[F]at h1;obtain⟨p,O,e⟩:=av.mp h1;have e2:L.1=Sum.inl n:=aO R;rw[e2]at e;exact av.mpr ⟨p,O,bR e⟩
 ·intro h;obtain⟨p,O,e⟩:=av.mp h;have h1:(Sum.inl n:iw)∈(kz ps as).map (·.1):=by rw[F];exact av.mpr ⟨p,O,by rw[e]⟩
  obtain⟨L,K,R⟩:=av.mp h1;exact⟨L,K,by rw[R];simp⟩
theorem NrAt.get(h:NrAt H d ps ts)(S:(ps.map (·.1)).Nodup)(m:n∈ps.map (·.1)):∃as a,H d=some (.dK (kz ps as))/\iX (kz ps as) (Sum.inl n:iw)=some (.ref a)/\H a=some (.lst ((jC ts n).map V.int)):=by
 obtain⟨as,e,l,nr⟩:=h;obtain⟨p,O,rfl⟩:=av.mp m;obtain⟨i,hi,e2⟩:=bx.mp O;have h1:ps[i]? =some p:=by rw[gE hi,e2]
 have h2:as[i]? =some (as[i]'(by lia)):=gE _;exact⟨as,_,e,ud S h1 h2,nr i p _ h1 h2⟩
theorem J6(B:Blt mg)(D:DefAt K mg "is_place" (top 25) ["prices","thing"] f fd)(G:Ok P w K mg base "is_whole" (top 7) 1 ["thing"] r9):FnOk P w K mg base iT 2 f fd ["prices","thing"] An:=by
 refine i6 D.F ["prices","thing"] (by rintro _ _ _ _ ⟨d,n,kvs,rfl,_⟩;rfl) ?_;rintro _ A _ s H vs Q E X M F o ⟨d,n,kvs,rfl,e,h⟩;unfold je at h;have F:=jX M;have o:_<PySem.cLine:=aZ F;refine⟨_,(iF (iS (lL (iN G M (iJ (qv 1))) (mS (wD (rK F (qv 1) (qv 0))))))),?_⟩;walk_at "D";refine⟨_,.int,rfl,rfl,?_⟩;simp_arith[nY,e];exact h
theorem Kx(B:Blt mg)(D:DefAt K mg "are_places" (top 26) ["prices","things"] f fd)(G:Ok P w K mg base "is_place" (top 25) 2 ["prices","thing"] An):FnOk P w K mg base iT 3 f fd ["prices","things"] A5:=by
 refine i6 D.F ["prices","things"] (by rintro _ _ _ _ ⟨d,kvs,l,ns,rfl,_⟩;rfl) ?_;rintro _ A _ s H vs Q E X M _ _ ⟨d,kvs,l,ns,rfl,e,W,b,h⟩;refine⟨_,(iF (iS (jZ (tT rfl) rfl B.all fg (iJ (kR ["thing","prices"] [none,some 0] (z8 (qv 1)) (iV 0) (iN G M (iG (qv 1) (qv 0)))))))),?_⟩;walk_at "D";refine jA (vv K l) H (fun R U=>?_) (fun z a=>jn ns.length (fun i L I=>∃m,L=[m,some (.ref d)]/\Same H I/\I z=some (.lst (((ns.take i).map fun n=>je kvs n).map V.bl))/\i<=900) ⟨none,rfl,iD a _,ir,by lia⟩ ?_ ?_)
 ·unfold yA;walk_at "D";exact⟨l,rfl,⟨_,SqT.of W⟩,U⟩
 ·rintro i L I hi ⟨m,rfl,s2,k,c⟩;have x1:(ns.map V.int)[i]? =some ((ns.map V.int)[i]'(by rw[aa];lia)):=gE _;refine⟨⟨_,_,SqT.of (s2 _ _ W),x1⟩,?_⟩;rintro y H' ⟨rfl,O⟩;obtain⟨n,S,rfl⟩:=F8 (O _ (SqT.of (s2 _ _ W)));walk_at "D";refine⟨d,n,kvs,rfl,s2 _ _ e,?_⟩;refine⟨_,k,?_,_,rfl,i4 s2 a,?_,by lia⟩
  ·rw[aa,aa,aP];exact iU (by lia)
  ·rw[ir,ji S,af,af];rfl
 ·rintro L I ⟨m,rfl,s2,k,_⟩;refine⟨⟨_,SqT.of (s2 _ _ W),by rw[aa];lia⟩,?_⟩;rw[aD]at k;simp_arith[k];refine⟨_,rfl,?_⟩;rw[fU];exact h I s2
noncomputable def jV(ps:LY)(ds:LX):List Int:=(ps.filter fun p=>decide (iP ds p.1<2*p.2)).map (·.1)
noncomputable def xm:Sp:=fun vs H Q _=>∃v ps ts l zs ds,vs=[v,.ref l]/\jbl H v ps ts/\WebOk ps ts/\H l=some (.lst zs)/\j8 H zs ds/\ds.length<=200/\∀r H',Same H H'->H' r=some (.lst ((jV ps ds).map V.int))->Q (.ref r) H'
theorem Dg{i:Nat}{q:Int×Int}(h:ps[i]? =some q):jV (ps.take (i+1)) ds=jV (ps.take i) ds++(if iP ds q.1<2*q.2 then[q.1]else[]):=by
 unfold jV;rw[ji h,bI,af]
 congr 1
 by_cases c:iP ds q.1<2*q.2
 ·simp[c]
 ·simp[c]
noncomputable def jg(ns:List Int):List (iw×V):=ns.map fun n=>(Sum.inl n,V.bl true)
theorem rY:∀(ns:List Int) (n:Int),je (jg ns) n=decide (n∈ns)
 |[],n=>rfl
 | m::r,n=>by
  have E:=rY r n;unfold je iX jg at E ⊢;rw[ai,List.find?_cons];by_cases c:m=n
  ·subst c;simp
  ·have J:decide ((Sum.inl m:iw)=Sum.inl n)=false:=aA fun z=>c (bR z);dsimp only;rw[J];rw[E,df,bM,bM,aV];exact⟨.inr,fun z=>z.resolve_left fun y=>c y.symm⟩
noncomputable def uA:Sp:=fun vs H Q _=>∃u,∃ns:List Int,vs=[.ref u]/\H u=some (.lst (ns.map V.int))/\ns.Nodup/\ns.length<=120/\∀d H',H d=none->Same H H'->H' d=some (.dK (jg ns))->Q (.ref d) H'
noncomputable def lj(ds:LX)(a b:Int):Bool:=ds.any fun d=>(d.1==a&&d.2.1==b)||(d.1==b&&d.2.1==a)
noncomputable def vK(kvs:List (List iw×V))(ds:LX):Prop:=∀a b:Int,(iX kvs ([Sum.inl a,Sum.inl b]:List iw)).isSome=lj ds a b
theorem JS{i:Nat}{q:Int×Int×Int}(h:ds[i]? =some q)(a b:Int):lj (ds.take (i+1)) a b=(lj (ds.take i) a b||((q.1==a&&q.2.1==b)||(q.1==b&&q.2.1==a))):=by
 unfold lj;rw[ji h,List.any_append];simp
theorem r6{κ:Type}[DecidableEq κ](kvs:List (κ×V))(k:κ)(v:V):(jr kvs k v).length<=kvs.length+1:=by
 unfold jr;split<;>simp
noncomputable def wN:Sp:=fun vs H Q _=>∃l zs ds,vs=[.ref l]/\H l=some (.lst zs)/\j8 H zs ds/\ds.length<=200/\∀d kvs H',Same H H'->H' d=some (.dT kvs)->vK kvs ds->Q (.ref d) H'
theorem K1(B:Blt mg)(D:DefAt K mg "loose_places" (top 41) ["web","dues"] f fd)(F':Ok P w K mg base "due_at" (top 31) 1 ["dues"] xi):FnOk P w K mg base iT 2 f fd ["web","dues"] xm:=by
 refine i6 D.F ["web","dues","paid"] (by rintro _ _ _ _ ⟨v,ps,ts,l,zs,ds,rfl,_⟩;rfl) ?_;rintro _ A _ s H vs Q E X M F o ⟨v,ps,ts,l,zs,ds,rfl,e,T,b,pd,Z,h⟩;obtain⟨u,G,ta,xs,ys,rfl,i',j,sq,x,C⟩:=e;have F:=jX M;have o:_<PySem.cLine:=aZ F;refine⟨_,(iy (iM 2 X (iN F' M (iJ (qv 1)))) (iF (iS (mh (CpScope.of (N:=["place","price","paid"]) (src:=[none,none,some 2]) (by rfl)) rfl (jb (iE (qv 0) iu)) (fun _ _ _ _=>(jQ (n:=2) rfl (iR (iV 0) (iR (iV 1) jF)))) (fun _ _ _ _=>(kU (jc nJ (pT F (qv 2) (qv 0) iu) (iQ lW iu (qv 1)) (ja _)))) (fun _ _ _ _=>(qv 0)))))),?_⟩;have B':xs.length=ps.length:=aq x;have Y:=T.pl;walk_at "D";refine⟨l,zs,ds,rfl,b,pd,Z,fun d kvs H1 s1 ed pk=>?_⟩;walk_at "D";refine jA (i5 K G) H1 (fun R U=>?_) (fun z a=>jn ps.length (fun i L I=>∃m r,L=[m,r,some (.ref d)]/\Same H1 I/\I z=some (.lst ((jV (ps.take i) ds).map V.int))) ⟨none,none,rfl,iD a _,ir⟩ ?_ ?_)
 ·unfold i8;simp_arith[iH,s1 _ _ i',iW];exact⟨G,rfl,⟨_,SqL.of (s1 _ _ j)⟩,U⟩
 ·rintro i L I hi ⟨m,r,rfl,s2,k⟩;have g:=s1.trans s2;have x1:xs[i]? =some (xs[i]'(by lia)):=gE _;have J:SqL K I G xs:=SqL.of (g _ _ j);refine⟨⟨_,_,J,x1⟩,?_⟩;rintro y H' ⟨rfl,O⟩;obtain⟨q,W,pq⟩:=jm x (O _ J);obtain⟨t,rfl,S⟩:=pq.same g;have sz:=s2 _ _ ed;have lt:=Dg (ds:=ds) W;have A':(jV (ps.take i) ds).length<=40:=by
   unfold jV;rw[aa];have:=bq (fun p:Int×Int=>decide (iP ds p.1<2*p.2)) (ps.take i);rw[aP]at this;lia
  simp_arith[S];refine⟨⟨kvs,sz⟩,?_⟩;simp only[sz,pk.get];refine⟨nF (by decide) (by decide),?_⟩;by_cases c:iP ds q.1<2*q.2
  ·rw[aI c]at lt;simp only[ao c,if_true];refine⟨_,k,by rw[aa];exact iU (by lia),_,_,rfl,i4 s2 a,?_⟩;rw[ir,lt,af];rfl
  ·rw[aG c,aS]at lt;simp only[aA c,aL,if_false];exact⟨_,_,rfl,s2,by rw[lt];exact k⟩
 ·rintro L I ⟨m,r,rfl,s2,k⟩;rw[aD]at k;refine⟨⟨_,SqL.of ((s1.trans s2) _ _ j),by lia⟩,?_⟩;exact h z I (s1.trans s2) k
theorem JC(B:Blt mg)(D:DefAt K mg "marked" (top 11) ["places"] f fd):FnOk P w K mg base iT 1 f fd ["places"] uA:=by
 refine i6 D.F ["places"] (by rintro _ _ _ _ ⟨u,ns,rfl,_⟩;rfl) ?_;rintro _ A _ s H vs Q E X M _ _ ⟨u,ns,rfl,N,T,Z,h⟩;refine⟨_,(iF (iS (nC (qO rfl) rfl B.dict cD (iJ (kR ["place"] [none] (jb (qv 0)) (iV 0) (jx (iG (qv 0) jT))))))),?_⟩;walk_at "D";refine jA (i5 K u) H (fun R U=>?_) (fun l r=>jn ns.length (fun i L I=>∃m zs,L=[m]/\Same H I/\I l=some (.lst zs)/\Paired (PairAt I) zs (jg (ns.take i))) ⟨none,[],rfl,iD r _,ir,.nil⟩ ?_ ?_)
 ·unfold i8;walk_at "D";exact⟨u,rfl,⟨_,SqL.of N⟩,U⟩
 ·rintro i L I hi ⟨m,zs,rfl,s2,k,Y⟩;have x1:ns[i]? =some ns[i]:=gE hi;have G:(ns.map V.int)[i]? =some (.int ns[i]):=by rw[aU,x1];rfl
  have c:zs.length=(jg (ns.take i)).length:=aq Y;have j:zs.length<=i:=by
   rw[c,jg,aa,aP];lia
  refine⟨⟨_,_,SqL.of (s2 _ _ N),G⟩,?_⟩;rintro y H' ⟨rfl,O⟩;have o:V.int ns[i]=y:=aJ (G.symm.trans (O _ (SqL.of (s2 _ _ N))));subst o;walk_at "D";intro t S;have g:=iD S (.tup [.int ns[i],.bl true]) _ _ k;have a:=ka (ys:=zs++[.ref t]) g;refine⟨zs,g,iU (by lia),_,zs++[.ref t],rfl,i4 (s2.trans (iD S _)) r,(by first|rfl|exact ir),?_⟩;rw[ji x1,jg,af];refine j3 (Paired.mapP Y fun v p q=>?_) ?_
  ·obtain⟨b,e,q⟩:=q;exact⟨b,e,a _ _ rfl (iD S _ _ _ q)⟩
  ·exact⟨t,rfl,a _ _ rfl ir⟩
 ·rintro L I ⟨m,zs,rfl,s2,k,Y⟩;refine⟨⟨_,SqL.of (s2 _ _ N),by rw[aa];exact ay _⟩,?_⟩;rw[aD]at Y;have c:zs.length=(jg ns).length:=aq Y;rw[jg,aa]at c;simp_arith[k];refine⟨jg ns,Y,by lia,?_,fun d J=>h d _ (s2.free J) (s2.trans (iD J _)) ir⟩;unfold jg;rw[bP];have e:((fun(x:iw×V)=>x.1)∘fun(n:Int)=>((Sum.inl n:iw),V.bl true))=fun(n:Int)=>(Sum.inl n:iw):=rfl;rw[e];unfold List.Nodup at T ⊢;rw[dw];exact T.imp fun q z=>q (bR z)
theorem K5(B:Blt mg)(D:DefAt K mg "tied_by_dues" (top 42) ["dues"] f fd):FnOk P w K mg base iT 1 f fd ["dues"] wN:=by
 refine i6 D.F ["dues","tied","one","other","amount"] (by rintro _ _ _ _ ⟨l,zs,ds,rfl,_⟩;rfl) ?_;rintro _ A _ s H vs Q E X M g _ ⟨l,zs,ds,rfl,k,pd,Z,h⟩;refine⟨_,(iy (iM 1 X Hz) (iy (jY bg rfl (jb (qv 0)) (jQ (n:=3) rfl (iR (jd 2 X) (iR (jd 3 X) (iR (jd 4 X) jF)))) (iy (AZ g (qv 1) (jx (iG (qv 2) (qv 3))) jT rfl) (iF (AZ g (qv 1) (jx (iG (qv 3) (qv 2))) jT rfl)))) (iF (iS (qv 1))))),?_⟩;refine iK fun R U=>?_;walk_at "D";intro d J;subst U;refine iK fun R U=>?_;refine kA (i5 K l) _ (fun O j=>?_) (lG (K:=K) (a:=l) (xs:=zs) (fun i σ I=>∃v1 Y v3 kvs,σ=[some (.ref l),some (.ref d),v1,Y,v3]/\Same H I/\I d=some (.dT kvs)/\vK kvs (ds.take i)/\kvs.length<=2*i) ⟨none,none,none,[],rfl,iD J _,ir,(fun a b=>rfl),ay _⟩ (fun i σ I _ C=>by obtain⟨_,_,_,_,_,c,_⟩:=C;exact SqL.of (c _ _ k)) ?_ ?_)
 ·unfold i8;walk_at "D";exact⟨l,rfl,⟨_,SqL.of (iD J _ _ _ k)⟩,j⟩
 ·rintro i x σ I G ⟨v1,Y,v3,kvs,rfl,c,m,td,F⟩;obtain⟨q,W,pq⟩:=jm pd G;obtain⟨t,rfl,S⟩:=Tp.tups pq c.tups;have hi:=(ax.mp W).1;simp_arith[S,zl];intro T F';have N:=iD F' (.tup [.int q.1,.int q.2.1]);have y:upd I T (.tup [.int q.1,.int q.2.1]) T=some (.tup (([Sum.inl q.1,Sum.inl q.2.1]:List iw).map kV)):=ir;have A':=N _ _ m;generalize upd I T (.tup [.int q.1,.int q.2.1])=H1 at N y A';refine⟨d,_,rfl,DPut.t A' y (iU (by lia)),?_⟩;have p:=i4 (c.trans N) J (o:=.dT (jr kvs [Sum.inl q.1,Sum.inl q.2.1] (.bl true)));have i':upd H1 d (.dT (jr kvs ([Sum.inl q.1,Sum.inl q.2.1]:List iw) (.bl true))) d=some (.dT (jr kvs [Sum.inl q.1,Sum.inl q.2.1] (.bl true))):=ir;generalize upd H1 d (.dT (jr kvs ([Sum.inl q.1,Sum.inl q.2.1]:List iw) (.bl true)))=H2 at p i';intro r e;have L:=iD e (.tup [.int q.2.1,.int q.1]);have u:upd H2 r (.tup [.int q.2.1,.int q.1]) r=some (.tup (([Sum.inl q.2.1,Sum.inl q.1]:List iw).map kV)):=ir;have sq:=L _ _ i';generalize upd H2 r (.tup [.int q.2.1,.int q.1])=H3 at L u sq;have sz:=r6 kvs ([Sum.inl q.1,Sum.inl q.2.1]:List iw) (.bl true);have G':=r6 (jr kvs ([Sum.inl q.1,Sum.inl q.2.1]:List iw) (.bl true)) ([Sum.inl q.2.1,Sum.inl q.1]:List iw) (.bl true);refine⟨d,_,rfl,DPut.t sq u (iU (by lia)),_,_,_,_,rfl,i4 (p.trans L) J,ir,?_,by lia⟩;intro a b;rw [uS,uS,JS W,<- td a b];by_cases c2:([Sum.inl a,Sum.inl b]:List iw)=[Sum.inl q.2.1,Sum.inl q.1]
  ·rw[aI c2];injection c2 with c3 c4;injection c4 with c4 _;have:=bR c3;have:=bR c4
   subst_vars
   simp
  ·rw[aG c2];by_cases c1:([Sum.inl a,Sum.inl b]:List iw)=[Sum.inl q.1,Sum.inl q.2.1]
   ·rw[aI c1];injection c1 with c3 c4;injection c4 with c4 _;have:=bR c3;have:=bR c4
    subst_vars
    simp
   ·rw[aG c1];have v:(q.1==a&&q.2.1==b)=false:=eX.mpr fun z=>c1 (by rw[aQ]at z;rw[eq_of_beq z.1,eq_of_beq z.2]);have V:(q.1==b&&q.2.1==a)=false:=eX.mpr fun z=>c2 (by rw[aQ]at z;rw[eq_of_beq z.1,eq_of_beq z.2]);rw[v,V];simp
 ·rintro σ I ⟨v1,Y,v3,kvs,rfl,c,m,td,F⟩;have B':zs.length=ds.length:=aq pd;rw[B',aD]at td;subst U;walk_at "D";exact h d kvs I c m td
end
end
end My
namespace HT
open PySem PyProof.Rows
open PySem.SeqAt
open PySem.AutoSeq1 (wpAny_loadPart')
open PySem.MeetsSeq PySem.MeetsSeq2 PySem.MeetsSeq3
section
variable{prog:Program}{w:World}{A:Around}{E:LZ}{s:Shared}
end
end HT
namespace L2
open PySem PySem.Spec PyProof.Rows
section
variable{X:Cx}
end
end L2
namespace My
open PySem L2
section
variable{P:Program}{w:World}{K:L3}{mg:L4}{base:Heap}{c1 c2 c3 c4:Tok}{C_NoWeb fqa:Addr}{dI:FuncData}
section
variable{x q:Lk}{ts ps:LY}{i:Nat}
abbrev Lk:=Option Str×List Int
noncomputable def k7(x:Lk):List V:=(match x.1 with |some w=>[V.str w]|none=>[])++x.2.map V.int
noncomputable def LkAt(H:Hp)(v:V)(x:Lk):Prop:=∃t,v= .ref t/\H t=some (.tup (k7 x))
theorem LkAt.tups{H H':Hp}{v:V}(h:LkAt H v x)(s:TupS H H'):LkAt H' v x:=let⟨t,e,q⟩:=h;⟨t,e,s _ _ rfl q⟩
abbrev wL:Str:=Str.ofString "loose"
abbrev wB:Str:=Str.ofString "beside"
abbrev wT:Str:=Str.ofString "tight"
noncomputable def lK(ps ts:LY):Lk->Bool
 |(some w,[p])=>decide (p∈ps.map (·.1))&&decide (w=wL)
 |(some w,[u,v])=>decide (u∈ps.map (·.1))&&decide (v∈ps.map (·.1))&&((decide (w=wB)||decide (w=wT))&&decide (v∈jC ts u))
 |_=>false
theorem AN(w:Str)(ns:List Int):(k7 (some w,ns)).length=ns.length+1:=by simp[k7]
theorem F7(w a b:Str):oS (V.str w) [V.str a,V.str b]=(decide (w=a)||decide (w=b)):=by
 have e:∀x:Str,(x==w)=decide (w=x):=fun x=>by
  by_cases c:w=x
  ·subst c;simp
  ·rw[aA c];exact fZ (c7 c)
 show((a==w)||((b==w)||false))=_;rw[e,e,Bool.or_false]
noncomputable def Ao:Sp:=fun vs H Q _=>∃d v ps ts x,vs=[.ref d,v]/\NrAt H d ps ts/\WebOk ps ts/\LkAt H v x/\x.2.length<=8/\∀H',Same H H'->Q (.bl (lK ps ts x)) H'
theorem xC(h:x.1=none\/x.2=[]\/3<=x.2.length):lK ps ts x=false:=by
 obtain⟨w,ns⟩:=x;rcases h with h|h|h
 ·cases h;rfl
 ·cases h;cases w<;>rfl
 ·match w,ns,h with
  |none,_,_=>rfl
  |some _,_::_::_::_,_=>rfl
theorem JF(B:Blt mg)(D:DefAt K mg "is_link" (top 43) ["nears","thing"] f fd)(l:Ok P w K mg base "are_places" (top 26) 3 ["prices","things"] A5):FnOk P w K mg base iT 4 f fd ["nears","thing"] Ao:=by
 refine i6 D.F ["nears","thing"] (by rintro _ _ _ _ ⟨d,v,ps,ts,x,rfl,_⟩;rfl) ?_;rintro _ A _ s H vs Q E X M g o ⟨d,v,ps,ts,x,rfl,S,T,G,Z,h⟩;obtain⟨t,rfl,i⟩:=G;obtain⟨w,ns⟩:=x;have g:=jX M;have o:_<PySem.cLine:=aZ g;refine⟨_,(iy (jt (PW.pt (mL (kf (kq (jZ (nU .tup) rfl B.isinstance bN (iG (qv 1) (n5 (v:=.ty "tuple") rfl B.tuple fN rfl))))) (mL (kf (BV nc nc iu (kZ B (qv 1)) iu)) (oM (kf (kq (jZ (nU .str) rfl B.isinstance bN (iG (iE (qv 1) iu) (n5 (v:=.ty "str") rfl B.str PyProof.Rows.boot_str rfl))))))))) (iF (iS jT)) jv) (iy (jt (kf (kq (iN l M (iG (qv 0) (nB pH (qv 1) (nu iu) nq))))) (iF (iS jT)) jv) (iy (jt (jc ly (kZ B (qv 1)) iu (ja _)) (iF (iS (mf ly (iE (qv 1) iu) lB (ja _)))) jv) (iF (iS (lL (mf nT (iE (qv 1) iu) (jx (iG lB lB)) (by with_unfolding_all rfl)) (mS (mf nT (iE (qv 1) iu) (lM g (qv 0) (iE (qv 1) iu) (fun _ _=>rfl)) (by with_unfolding_all rfl))))))))),?_⟩;have J:kd H (.ref t)=some .tup:=by unfold kd;dsimp only;rw[i]
 refine iK fun R Y=>?_;simp_arith[J,lO,iH,i];have U:=h H (Same.refl _);by_cases c1:(2:Int)<=((k7 (w,ns)).length:Int)
 ·simp only[ao c1,if_true];by_cases c2:((k7 (w,ns)).length:Int)<=3
  ·simp only[ao c2,bK,aL,if_false];cases w with
   | none=>
    rw[xC (.inl rfl)]at U;cases ns with
    |nil=>simp[k7]at c1
    |cons n r=>
     simp only[k7,List.nil_append,ai,iW,kd,cI,if_true];exact U
   | some w=>
    clear U
    match ns,c1,c2,Z,i,h with
    |[],c1,_,_,_,_=>simp[k7]at c1
    | [p],_,_,_,i,h=>
     simp only[k7,List.cons_append,List.nil_append,ai,bO]at i ⊢;simp only[iW,kd,bK,aL,if_false];subst Y;refine iK fun R Y=>?_;simp_arith[i];refine⟨(fun z=>by cases z.1),fun p1 I=>?_⟩;rw[show lQ [V.str w,V.int p] (some 1) none=[V.int p]from rfl];have N:=iD I (.tup ([V.int p]));have e1:upd H p1 (.tup ([V.int p])) p1=some (.tup ([p].map V.int)):=ir;generalize upd H p1 (.tup ([V.int p]))=H1 at N e1;obtain⟨as,e,la,nr⟩:=id (S.same N);refine⟨d,_,p1,[p],rfl,e,e1,by simp only[List.length_cons,List.length_nil];lia,fun H2 L=>?_⟩;have j:=N.trans L;have F:([p].all fun n=>je (kz ps as) n)=decide (p∈ps.map (·.1)):=by simp only[List.all_cons,List.all_nil,zS la,gB]
     rw[F];have U:=h H2 j;simp only[lK]at U;cases c3:decide (p∈ps.map (·.1))with
     |false=>
      simp only[c3,de]at U;walk_at "D";exact U
     |true=>
      simp only[c3,cz]at U;simp only[bK,aL,if_false];subst Y;simp_arith[iH,j _ _ i,iW];exact U
    | [u,v],_,_,_,i,h=>
     simp only[k7,List.cons_append,List.nil_append,ai,bO]at i ⊢;simp only[iW,kd,bK,aL,if_false];subst Y;refine iK fun R Y=>?_;simp_arith[i];refine⟨(fun z=>by cases z.1),fun p1 I=>?_⟩;rw[show lQ [V.str w,V.int u,V.int v] (some 1) none=[V.int u,V.int v]from rfl];have N:=iD I (.tup ([V.int u,V.int v]));have e1:upd H p1 (.tup ([V.int u,V.int v])) p1=some (.tup ([u,v].map V.int)):=ir;generalize upd H p1 (.tup ([V.int u,V.int v]))=H1 at N e1;obtain⟨as,e,la,nr⟩:=id (S.same N);refine⟨d,_,p1,[u,v],rfl,e,e1,by simp only[List.length_cons,List.length_nil];lia,fun H2 L=>?_⟩;have j:=N.trans L;have F:([u,v].all fun n=>je (kz ps as) n)=(decide (u∈ps.map (·.1))&&decide (v∈ps.map (·.1))):=by simp only[List.all_cons,List.all_nil,zS la,gB]
     rw[F];have U:=h H2 j;simp only[lK]at U;cases c3:(decide (u∈ps.map (·.1))&&decide (v∈ps.map (·.1)))with
     |false=>
      simp only[c3,de]at U;walk_at "D";exact U
     | true=>
      simp only[c3,cz]at U;simp only[bK,aL,if_false];have a:=aO ((aQ _ _).mp c3).1;subst Y;simp_arith[iH,j _ _ i,iW,jl,oq];rw[aG (by first|decide|simp)];intro p2 m;generalize y:upd H2 p2 _=H3;obtain⟨q,e2⟩:=kc m y;clear y;have c:=j.trans q;have U:=h H3 c;simp only[lK,c3,cz]at U;simp only[e2];refine⟨rfl,rfl,?_⟩;rw[show oS (V.str w) [V.str (Str.ofString "beside"),V.str (Str.ofString "tight")]=(decide (w=wB)||decide (w=wT))from F7 w _ _];cases c4:(decide (w=wB)||decide (w=wT))with
      |false=>
       simp only[c4,de]at U;simp only[aL,if_false];exact U
      |true=>
       simp only[c4,cz]at U;obtain⟨O,C,k,b,W⟩:=(S.same c).get T.p.nodup a;simp only[if_true,c _ _ i,oq,jl,k,b,W,flat_ints,kD,nA,true_and];exact U
    |_::_::_::_,_,c2,_,_,_=>simp[k7]at c2;lia
  ·simp only[aA c2,cI,if_true];rw[xC (by cases w with |none=>exact .inl rfl|some w=>have:=AN w ns;exact .inr (.inr (by show 3<=ns.length;lia)))]at U;exact U
 ·simp only[aA c1,aL,if_false];rw[xC (by cases w with |none=>exact .inl rfl|some w=>have:=AN w ns;exact .inr (.inl (List.length_eq_zero_iff.mp (show ns.length=0 by lia))))]at U;exact U
abbrev Lks(H:Hp)(xs:List V)(c:List Lk):Prop:=Paired (LkAt H) xs c
theorem Lks.tups{H H':Hp}{xs:List V}{c:List Lk}(h:Lks H xs c)(s:TupS H H'):Lks H' xs c:=Paired.mapP h fun _ _ q=>q.tups s
noncomputable def iL(x:Lk):Int:=x.2.getLastD 0
noncomputable def kJ(ps ts:LY)(ds:LX)(ins outs:List Int)(x:Lk):Bool:=lK ps ts x&&(match x with
 |(some w,[p])=>decide (p∈jV ps ds)
 |(some w,[u,v])=>if w=wB then decide (u∈outs)else decide (u∈ins)&&lj ds u v
 |_=>false)
noncomputable def kM(ps ts:LY)(ds:LX):List Int->List Int->List Lk->Bool
 |_,_,[]=>true
 |ins,outs,x::r=>kJ ps ts ds ins outs x&&(if x.1=some wB then kM ps ts ds (iL x::ins) outs r else kM ps ts ds ins (iL x::outs) r)
noncomputable def HasI(kvs:List (iw×V))(ns:List Int):Prop:=∀n:Int,je kvs n=decide (n∈ns)
theorem HasI.put{kvs:List (iw×V)}{ns:List Int}(h:HasI kvs ns)(m:Int):HasI (jr kvs (Sum.inl m) (.bl true)) (m::ns):=fun n=>by
 unfold je;rw[uS];by_cases c:n=m
 ·subst c;simp
 ·rw[aG fun z=>c (bR z)];have:=h n;unfold je at this;rw[this,df,bM,bM,aV];exact⟨.inr,fun z=>z.resolve_left c⟩
theorem sH(h:lK ps ts x=true):(∃p,x=(some wL,[p]))\/(∃u v,x=(some wB,[u,v]))\/∃u v,x=(some wT,[u,v]):=by
 unfold lK at h;split at h
 ·rw[aQ,bM,bM]at h;rename_i w p;exact .inl ⟨p,by rw[h.2]⟩
 ·rename_i w u v;simp only[aQ,Bool.or_eq_true,bM]at h;rcases h.2.1 with z|z
  ·exact .inr (.inl ⟨u,v,by rw[z]⟩)
  ·exact .inr (.inr ⟨u,v,by rw[z]⟩)
 ·cases h
theorem tL:(wL=wB)=False:=gJ (by decide+kernel)
theorem FG:(wL=wT)=False:=gJ (by decide+kernel)
theorem FI:(wB=wL)=False:=gJ (by decide+kernel)
theorem FH:(wB=wT)=False:=gJ (by decide+kernel)
theorem FF:(wT=wL)=False:=gJ (by decide+kernel)
theorem ow:(wT=wB)=False:=gJ (by decide+kernel)
theorem yS{x y:V}:jh [x,y] (-1)=some y:=Bv [x] y
theorem rj{x y z:V}:jh [x,y,z] (-1)=some z:=Bv [x,y] z
noncomputable def A7:Sp:=fun vs H Q _=>∃v ps ts l zs ds ch xs c,vs=[v,.ref l,.ref ch]/\jbl H v ps ts/\WebOk ps ts/\H l=some (.lst zs)/\j8 H zs ds/\ds.length<=200/\H ch=some (.lst xs)/\Lks H xs c/\c.length<=200/\(∀x∈c,x.2.length<=8)/\∀H',Same H H'->Q (.bl (kM ps ts ds [] [] c)) H'
theorem og(ps:LY)(ds:LX):(jV ps ds).Sublist (ps.map (·.1)):=List.Sublist.map _ List.filter_sublist
theorem KW(B:Blt mg)(D:DefAt K mg "chain_stands" (top 44) ["web","dues","chain"] f fd)(MN:Ok P w K mg base "is_list_up_to" (top 10) 1 ["thing","most"] vc)(MB:Ok P w K mg base "nears_in" (top 27) 1 ["web"] yj)(Mw:Ok P w K mg base "loose_places" (top 41) 2 ["web","dues"] xm)(K':Ok P w K mg base "marked" (top 11) 1 ["places"] uA)(MA:Ok P w K mg base "tied_by_dues" (top 42) 1 ["dues"] wN)(M0:Ok P w K mg base "is_link" (top 43) 4 ["nears","thing"] Ao){c5:Tok}(MW:mg "MOST_LINKS"=some (.int 200 c5)):FnOk P w K mg base iT 5 f fd ["web","dues","chain"] A7:=by
 refine i6 D.F ["web","dues","chain","nears","loose","paid_ties","ins","outs","link","named"] (by rintro _ _ _ _ ⟨v,ps,ts,l,zs,ds,ch,xs,c,rfl,_⟩;rfl) ?_;rintro _ A _ s H vs Q E X M g _ ⟨v,ps,ts,l,zs,ds,ch,xs,c,rfl,o,T,el,pd,Z,ec,pc,Y,MX,h⟩;refine⟨_,(iy (jt (kf (kq (iN MN M (iG (qv 2) (mi (v:=.int 200) rfl MW ⟨_,rfl⟩))))) (iF (iS jT)) jv) (iy (iM 3 X (iN MB M (iJ (qv 0)))) (iy (iM 4 X (iN K' M (iJ (iN Mw M (iG (qv 0) (qv 1)))))) (iy (iM 5 X (iN MA M (iJ (qv 1)))) (iy (iM 6 X uL) (iy (iM 7 X uL) (iy (jY bg rfl (jb (qv 2)) (jd 8 X) (iy (jt (kf (kq (iN M0 M (iG (qv 3) (qv 8))))) (iF (iS jT)) jv) (iy (jt (PW.pt (nX (jc ly (iE (qv 8) iu) lB (ja _)) (n6 (pI (sg g (iE (qv 8) iu) (qv 4)))))) (iF (iS jT)) jv) (iy (jt (PW.pt (nX (jc ly (iE (qv 8) iu) lB (ja _)) (n6 (pI (sg g (iE (qv 8) iu) (qv 7)))))) (iF (iS jT)) jv) (iy (jt (PW.pt (nX (jc ly (iE (qv 8) iu) lB (ja _)) (n6 (PW.pt (mL (pI (sg g (iE (qv 8) iu) (qv 6))) (oM (wF (CC g (nB pH (qv 8) (nu iu) nq) (qv 5))))))))) (iF (iS jT)) jv) (iy (iM 9 X (xH (jc ly (iE (qv 8) iu) lB (ja _)) (qv 6) (qv 7))) (iF (pN g (qv 9) (iE (qv 8) (lV lX iu)) jT)))))))) (iF (iS jT))))))))),?_⟩;have Mc:xs.length=c.length:=aq pc;refine iK fun R U=>?_;walk_at "D";refine⟨ch,xs,200,rfl,ec,?_⟩;rw[ao (show(xs.length:Int)<=200 by lia)];walk_at "D";subst U;refine iK fun R U=>?_;walk_at "D";refine⟨v,ps,ts,rfl,o,T,fun dn as H1 Me s1 L8 Mt Mf=>?_⟩;have Mn:NrAt H1 dn ps ts:=⟨as,L8,Mt,Mf⟩;subst U;refine iK fun R U=>?_;walk_at "D";refine⟨v,ps,ts,l,zs,ds,rfl,o.same s1,T,s1 _ _ el,j7 s1.tups pd,Z,fun r H2 s2 er=>?_⟩;refine⟨r,_,rfl,er,(og ps ds).nodup T.p.nodup,?_,fun dl H3 M3 W i'=>?_⟩
 ·have:=(og ps ds).length_le;rw[aa]at this;have:=T.pl;lia
 have Mx:=s1.trans (s2.trans W);have Mv:=Mn.same (s2.trans W);clear Mn er L8 Mf;subst U;refine iK fun R U=>?_;walk_at "D";refine⟨l,zs,ds,rfl,Mx _ _ el,j7 Mx.tups pd,Z,fun dt kt q d Ms Mz=>?_⟩;have A':=Mx.trans d;have MI:=Mv.same d;have MT:=d _ _ i';subst U;refine iK fun R U=>?_;walk_at "D";intro di L9;generalize j:upd q di _=m;obtain⟨q5,MF⟩:=kc L9 j;clear j;subst U;refine iK fun R U=>?_;walk_at "D";intro Mb G';have q6:=iD G' (.dK []);have MG:upd m Mb (.dK []) Mb = some (.dK []):=ir;have Mu:di ≠ Mb:=iO MF G';have ME:=q6 _ _ MF;have MP:=L9;have MD:q Mb = none:=q5.free G';have sz:=q5.trans q6;generalize upd m Mb (.dK []) = H6 at q6 MG ME sz;have Mj:=A'.trans sz;have Mq:di≠dn:=fun z=>by rw[z]at L9;obtain⟨_,e,_⟩:=MI;rw[e]at L9;cases L9
 have M5:=Ms;clear Mq;subst U;refine iK fun R U=>?_;refine kA (i5 K ch) _ (fun R' J=>?_) (lG (K:=K) (a:=ch) (xs:=xs) (fun i σ I=>∃ v8 v9 kin F' ins outs,σ = [some v,some (.ref l),some (.ref ch),some (.ref dn),some (.ref dl),some (.ref dt),some (.ref di),some (.ref Mb),v8,v9]/\Same q I/\I di = some (.dK kin)/\I Mb = some (.dK F')/\HasI kin ins/\HasI F' outs/\kin.length <= i/\F'.length <= i/\kM ps ts ds [] [] c = kM ps ts ds ins outs (c.drop i)) ⟨none,none,[],[],[],[],rfl,sz,ME,MG,(fun n=>rfl),(fun n=>rfl),ay _,ay _,by rw [fD]⟩ (fun i σ I _ C=>by obtain ⟨_,_,_,_,_,_,_,W,_⟩:=C; exact SqL.of ((A'.trans W) _ _ ec)) ?_ ?_)
 ·unfold i8;walk_at "D";exact⟨ch,rfl,⟨_,SqL.of (Mj _ _ ec)⟩,J⟩
 ·rintro i y σ I O ⟨v8,v9,kin,F',ins,outs,rfl,u,MJ,ML,Mm,Ml,M4,MV,L⟩;obtain⟨x,G,pq⟩:=jm pc O;obtain⟨t,rfl,S⟩:=pq.tups (A'.trans u).tups;have hi:=(ax.mp G).1;have Mg:c.drop i=x::c.drop (i+1):=qR G;rw[Mg,kM]at L;have MZ:=MI.same u;have MR:∀n:Int,(iX kin (Sum.inl n:iw)).isSome=decide (n∈ins):=Mm;have MQ:∀n:Int,(iX F' (Sum.inl n:iw)).isSome=decide (n∈outs):=Ml;refine iK fun R9 N=>?_;walk_at "D";refine⟨dn,.ref t,ps,ts,x,rfl,MZ,T,⟨t,rfl,S⟩,MX x (aC G),fun H8 k=>?_⟩;have Mh:=u.trans k;have F:kJ ps ts ds ins outs x=false->Q (.bl false) H8:=fun z=>by
   have:=h H8 (A'.trans Mh);rw[L,z,de]at this;exact this
  cases Mo:lK ps ts x with
  |false=>
   walk_at "D";exact F (by unfold kJ;rw[Mo,de])
  | true=>
   walk_at "D";have B':=k _ _ S;have Mr:=k _ _ MJ;have Mp:=k _ _ ML;have Ma:=Mh _ _ MT;have Mi:=Mh _ _ Ms;rcases sH Mo with⟨p,rfl⟩|⟨a,b,rfl⟩|⟨a,b,rfl⟩
   ·simp only[k7,List.cons_append,List.nil_append,ai,bO]at B';subst N;refine iK fun R9 N=>?_;simp_arith[iH,B',iW,jl,Ma,ck];have e9:(iX (jg (jV ps ds)) (Sum.inl p:iw)).isSome=decide (p∈jV ps ds):=rY _ p;rw[e9];have sq:kJ ps ts ds ins outs (some wL,[p])=decide (p∈jV ps ds):=by unfold kJ;rw[Mo,cz]
    by_cases c9:p∈jV ps ds
    case neg=>
     rw[aA c9]at sq ⊢;exact F sq
    rw[ao c9]at sq ⊢;have L':=sq;simp only[bK,aL,if_false];subst N;simp_arith[iH,B',iW,jl,tL,FG,cS,yS,Mp];refine⟨iU (by lia),_,_,kin,jr F' (Sum.inl p) (.bl true),ins,p::outs,rfl,i4 Mh MD,by rw[iC Mu];exact Mr,ir,Mm,Ml.put p,by lia,(by have:=r6 F' (Sum.inl p:iw) (.bl true);lia),?_⟩;rw[L,L'];simp only[cz,iL,cH,tL,if_false];rfl
   ·simp only[k7,List.cons_append,List.nil_append,ai,bO]at B';subst N;refine iK fun R9 N=>?_;simp_arith[iH,B',iW,jl,Ma,FI,cS];subst N;refine iK fun R9 N=>?_;simp_arith[iH,B',iW,jl,Mp,ck];rw[MQ a];have sq:kJ ps ts ds ins outs (some wB,[a,b])=decide (a∈outs):=by unfold kJ;rw[Mo,Bool.true_and];dsimp only;rw[if_pos rfl]
    by_cases c9:a∈outs
    case neg=>
     rw[aA c9]at sq ⊢;exact F sq
    rw[ao c9]at sq ⊢;have L':=sq;simp only[bK,aL,if_false];subst N;simp_arith[iH,B',iW,jl,FH,cS,ck,rj,Mr];refine⟨iU (by lia),_,_,jr kin (Sum.inl b) (.bl true),F',b::ins,outs,rfl,i4 Mh MP,ir,by rw[iC Mu.symm];exact Mp,Mm.put b,Ml,(by have:=r6 kin (Sum.inl b:iw) (.bl true);lia),by lia,?_⟩;rw[L,L'];simp only[cz,iL,if_true];rfl
   ·simp only[k7,List.cons_append,List.nil_append,ai,bO]at B';subst N;refine iK fun R9 N=>?_;simp_arith[iH,B',iW,jl,Ma,FF,cS];subst N;refine iK fun R9 N=>?_;simp_arith[iH,B',iW,jl,Mp,ow,cS];subst N;refine iK fun R9 N=>?_;simp_arith[iH,B',iW,jl,Mr,ck,tB,xp];rw[MR a];have sq:kJ ps ts ds ins outs (some wT,[a,b])=(decide (a∈ins)&&lj ds a b):=by unfold kJ;rw[Mo,Bool.true_and];dsimp only;rw[if_neg (by rw[ow];exact id)]
    by_cases c9:a∈ins
    case neg=>
     rw[aA c9]at sq ⊢;exact F sq
    rw[ao c9,cz]at sq;rw[ao c9];simp only[bK,aL,if_false];refine⟨(fun z=>by cases z.1),fun p1 J'=>?_⟩;rw[show lQ [V.str wT,V.int a,V.int b] (some 1) none=[V.int a,V.int b]from rfl];have q9:=iD J' (.tup [V.int a,V.int b]);have f9:upd H8 p1 (.tup [V.int a,V.int b]) p1=some (.tup (([Sum.inl a,Sum.inl b]:List iw).map kV)):=ir;generalize upd H8 p1 (.tup [V.int a,V.int b])=H9 at q9 f9;have MM:=Mh.trans q9;refine⟨dt,_,rfl,DGet.t (q9 _ _ Mi) f9,_,rfl,?_⟩;rw[Mz a b];cases c8:lj ds a b with
    |false=>
     rw[c8]at sq;simp only[cI,if_true];have:=h H9 (A'.trans MM);rw[L,sq,de]at this;exact this
    |true=>
     rw[c8]at sq;have L':=sq;simp only[bK,aL,if_false];have MU:=q9 _ _ Mp;have MY:=q9 _ _ Mr;have MC:=q9 _ _ B';subst N;simp_arith[iH,MC,iW,jl,ow,cS,rj,MU];refine⟨iU (by lia),_,_,kin,jr F' (Sum.inl b) (.bl true),ins,b::outs,rfl,i4 MM MD,by rw[iC Mu];exact MY,ir,Mm,Ml.put b,by lia,(by have:=r6 F' (Sum.inl b:iw) (.bl true);lia),?_⟩;rw[L,L'];simp only[cz,iL,cH,ow,if_false];rfl
 ·rintro σ I ⟨v8,v9,kin,F',ins,outs,rfl,u,MJ,ML,Mm,Ml,M4,MV,L⟩;rw[Mc,List.drop_length,kM]at L;subst U;walk_at "D";have:=h I (A'.trans u);rw[L]at this;exact this
noncomputable def pf(la lb:List Dt):Dt:=.tup [.lst la,.lst lb]
structure Fx(H:Hp)(t hl da ch:Addr)(qs:LY)(ds:LX)(c:List Lk):Prop where
 e:H t=some (.tup [.ref hl,.ref da,.ref ch])
 h:∃hx,H hl=some (.lst hx)/\Prs H hx qs
 d:∃dx,H da=some (.lst dx)/\j8 H dx ds
 c:∃xs,H ch=some (.lst xs)/\Lks H xs c
theorem Fx.same{H H':Hp}{t Z b ch:Addr}{qs:LY}{ds:LX}{c:List Lk}(h:Fx H t Z b ch qs ds c)(s:Same H H'):Fx H' t Z b ch qs ds c:=by
 obtain⟨e,⟨G,e1,p1⟩,⟨dx,e2,p2⟩,⟨xs,e3,v⟩⟩:=h;exact⟨s _ _ e,⟨G,s _ _ e1,Prs.same s p1⟩,⟨dx,s _ _ e2,j7 s.tups p2⟩,⟨xs,s _ _ e3,Lks.tups v s.tups⟩⟩
noncomputable def sL(ps ts qs:LY)(ds:LX)(c:List Lk):Bool:=mD ps ts (pf (qs.map jz) (ds.map jM))&&kM ps ts ds [] [] c
noncomputable def Ba:Sp:=fun vs H Q _=>∃v ps ts t Z b ch qs ds c,vs=[v,.ref t]/\jbl H v ps ts/\WebOk ps ts/\Fx H t Z b ch qs ds c/\ds.length<=200/\c.length<=200/\(∀x∈c,x.2.length<=8)/\∀H',Same H H'->Q (.bl (sL ps ts qs ds c)) H'
theorem HX{H:Hp}{xs:List V}{ds:LX}(C:j8 H xs ds):Reps H (ds.map jM) xs:=by
 induction C with
 |nil=>rw[bO,Reps]
 |cons r t E=>
  rw[ai,Reps];refine⟨_,_,rfl,?_,E⟩;obtain⟨u,e,q⟩:=r;rw[jM,Rep];exact⟨u,_,e,q,uW [_,_,_]⟩
theorem Gu{H:Hp}{t Z b:Addr}{qs:LY}{ds:LX}(e:H t=some (.tup [.ref Z,.ref b]))(h:∃G,H Z=some (.lst G)/\Prs H G qs)(d:∃dx,H b=some (.lst dx)/\j8 H dx ds):Rep H (pf (qs.map jz) (ds.map jM)) (.ref t):=by
 obtain⟨G,e1,p1⟩:=h;obtain⟨dx,e2,p2⟩:=d;unfold pf;rw[Rep];refine⟨t,_,rfl,e,?_⟩;rw[Reps];refine⟨_,_,rfl,by rw[Rep];exact⟨Z,G,rfl,e1,Prs.reps p1⟩,?_⟩;rw[Reps];exact⟨_,_,rfl,by rw[Rep];exact⟨b,dx,rfl,e2,HX p2⟩,by rw[Reps]⟩
theorem IU{qs:LY}{ds:LX}(h:ds.length<=200):Ae (pf (qs.map jz) (ds.map jM)):=fun a b e xs U=>by
 unfold pf at e;injection e with e;injection e with e1 e2;injection e2 with e2 _;rw [<- e2] at U;injection U with U;rw [<- U,aa];exact h
theorem KC(B:Blt mg)(D:DefAt K mg "lets_fixed" (top 45) ["web","thing"] f fd)(q:Ok P w K mg base "look_at_web" (top 24) 5 ["thing"] yi)(n:Ok P w K mg base "is_tuple_of" (top 8) 1 ["thing","many"] u4)(u:Ok P w K mg base "paper_stands" (top 34) 5 ["web","thing"] Bi)(x:Ok P w K mg base "chain_stands" (top 44) 5 ["web","dues","chain"] A7):FnOk P w K mg base iT 6 f fd ["web","thing"] Ba:=by
 refine i6 D.F ["web","thing"] (by rintro _ _ _ _ ⟨v,ps,ts,t,Z,b,ch,qs,ds,c,rfl,_⟩;rfl) ?_;rintro _ A _ s H vs Q E X M _ _ ⟨v,ps,ts,t,Z,b,ch,qs,ds,c,rfl,V,T,i,ld,r,z,h⟩;refine⟨_,(iy (j6 (iN q M (iJ (qv 0)))) (iy (jt (PW.pt (mL (kf (kq (iN n M (iG (qv 1) iu)))) (oM (kf (kq (iN u M (iG (qv 0) (nB pH (qv 1) nq (nu iu))))))))) (iF (iS jT)) jv) (iF (iS (iN x M (jH (qv 0) (iG (iE (qv 1) iu) (iE (qv 1) iu)))))))),?_⟩;walk_at "D";refine⟨_,ps,ts,rfl,V,T,fun H1 s1=>?_⟩;have l:=i.same s1;walk_at "D";refine⟨t,_,3,rfl,l.e,?_⟩;simp_arith[l.e];rw[aG (by first|decide|simp)];refine⟨rE (.ref Z) (.ref b) (.ref ch),fun p O=>?_⟩;rw[sS];generalize y:upd H1 p _=H2;obtain⟨G,Y⟩:=kc O y;clear y;have o:=l.same G;have s2:=s1.trans G;refine⟨_,ps,ts,_,_,rfl,V.same s2,T,Gu Y o.h o.d,IU ld,fun H3 W=>?_⟩;have k:=o.same W;have g:=s2.trans W;cases m:mD ps ts (pf (qs.map jz) (ds.map jM))with
 |false=>
  simp only[cI,if_true];have:=h H3 g;unfold sL at this;rw[m,de]at this;exact this
 |true=>
  simp only[bK,aL,if_false,iH,k.e,jl,oq];obtain⟨dx,e,pd⟩:=k.d;obtain⟨xs,j,a⟩:=k.c;refine⟨v,ps,ts,b,dx,ds,ch,xs,c,rfl,V.same g,T,e,pd,ld,j,a,r,z,fun F d=>?_⟩;have:=h F (g.trans d);unfold sL at this;rw[m,cz]at this;exact this
theorem Jd{a b:TS}{D:Ends}{σ:St}{H:Hp}(h:∀R E,R=b->E=D->oY a R E σ H):oY a b D σ H:=h b D rfl rfl
inductive GLk:Lk->Prop
 |l (p:Int):GLk (some wL,[p])
 |b (u v:Int):GLk (some wB,[u,v])
 |t (u v:Int):GLk (some wT,[u,v])
noncomputable def kL(c:List Lk):List Int:=(c.filter fun x=>decide (x.1=some wB)).map iL
noncomputable def kP(c:List Lk):List Int:=(c.filter fun x=>!decide (x.1=some wB)).map iL
theorem Jv{c:List Lk}(h:c[i]? =some q):kL (c.take (i+1))=kL (c.take i)++(if q.1=some wB then[iL q]else[]):=by
 unfold kL;rw[ji h,bI,af]
 congr 1
 by_cases e:q.1=some wB
 ·simp[e]
 ·simp[e]
theorem Kg{c:List Lk}(h:c[i]? =some q):kP (c.take (i+1))=kP (c.take i)++(if q.1=some wB then[]else[iL q]):=by
 unfold kP;rw[ji h,bI,af]
 congr 1
 by_cases e:q.1=some wB
 ·simp[e]
 ·simp[e]
theorem Cs(c:List Lk):(kL c).length<=c.length:=by
 unfold kL;rw[aa];exact bq _ _
theorem JK(c:List Lk):(kP c).length<=c.length:=by
 unfold kP;rw[aa];exact bq _ _
noncomputable def nM(ds:LX)(ins outs:List Int)(t:Int×Int)(u v:Int):List Lk:=(if u∈outs then[(some wB,[u,v])]else[])++(if u∈ins/\t∈ds.map (fun d=>(d.1,d.2.1))then[(some wT,[u,v])]else[])
noncomputable def nx(ds:LX)(ins outs:List Int)(t:Int×Int):List Lk:=nM ds ins outs t t.1 t.2++nM ds ins outs t t.2 t.1
noncomputable def mx(ps ts:LY)(ds:LX)(ins outs:List Int):List Lk:=(jV ps ds).map (fun p=>(some wL,[p]))++ts.flatMap (nx ds ins outs)
noncomputable def Ap:Sp:=fun vs H Q _=>∃v ps ts l zs ds ch xs c,vs=[v,.ref l,.ref ch]/\jbl H v ps ts/\WebOk ps ts/\H l=some (.lst zs)/\j8 H zs ds/\ds.length<=200/\H ch=some (.lst xs)/\Lks H xs c/\c.length<=200/\(∀x∈c,GLk x)/\∀r ys H',Same H H'->H r=none->H' r=some (.lst ys)->Lks H' ys (mx ps ts ds (kL c) (kP c))->Q (.ref r) H'
theorem GLk.at{H:Hp}{v:V}{x:Lk}(g:GLk x)(h:LkAt H v x):∃t w u r,v= .ref t/\x.1=some w/\H t=some (.tup (.str w:: .int u::r))/\jh (V.str w:: .int u::r) (-1)=some (.int (iL x))/\(w=wB->jh (V.str w:: .int u::r) 2=some (.int (iL x))):=by
 obtain⟨t,rfl,e⟩:=h;cases g with
 |l p=>exact⟨t,wL,p,[],rfl,rfl,e,yS,fun z=>by rw[tL]at z;exact z.elim⟩
 |b u v=>exact⟨t,wB,u,[.int v],rfl,rfl,e,rj,fun _=>oq⟩
 |t u v=>exact⟨t,wT,u,[.int v],rfl,rfl,e,rj,fun z=>by rw[ow]at z;exact z.elim⟩
theorem Ka(B:Blt mg)(D:DefAt K mg "_law_next" (top 59) ["_law_web_here","_law_dues","_law_chain_here"] f fd):FnOk P w K mg base iT 1 f fd ["_law_web_here","_law_dues","_law_chain_here"] Ap:=by
 refine i6 D.F ["_law_web_here","_law_dues","_law_chain_here","_law_ins","_law_outs","_law_paid","_law_one","_law_other","_law_amount","_law_found","_law_tied","_law_u","_law_v"] (by rintro _ _ _ _ ⟨v,ps,ts,l,zs,ds,ch,xs,c,rfl,_⟩;rfl) ?_;rintro _ A _ s H vs Q E X M hu _ ⟨v,ps,ts,l,zs,ds,ch,xs,c,rfl,hw,T,el,pd,g,ec,pc,Y,gc,h⟩;refine⟨_,(iy (oP (i:=3) X rfl (Or.inl rfl) (CpScope.of (N:=["_law_one"]) (src:=[none]) (by rfl)) rfl (jb (qv 2)) (fun _ _ _ _=>(iV 0)) (fun _ _ _ _=>(kU (jc ly (iE (qv 0) iu) lB (ja _)))) (fun _ _ _ _=>(iE (qv 0) iu))) (iy (oP (i:=4) X rfl (Or.inl rfl) (CpScope.of (N:=["_law_one"]) (src:=[none]) (by rfl)) rfl (jb (qv 2)) (fun _ _ _ _=>(iV 0)) (fun _ _ _ _=>(kU (jc tH (iE (qv 0) iu) lB (ja _)))) (fun _ _ _ _=>(iE (qv 0) (lV lX iu)))) (iy (iM 5 X uL) (iy (jY bg rfl (jb (qv 1)) (jQ (n:=3) rfl (iR (jd 6 X) (iR (jd 7 X) (iR (jd 8 X) jF)))) (iy (pN hu (qv 5) (qv 6) (iQ ju (pT hu (qv 5) (qv 6) iu) (qv 8))) (iF (pN hu (qv 5) (qv 7) (iQ ju (pT hu (qv 5) (qv 7) iu) (qv 8)))))) (iy (oP (i:=9) X rfl (Or.inl rfl) (CpScope.of (N:=["_law_place","_law_price","_law_paid"]) (src:=[none,none,some 5]) (by rfl)) rfl (jb (iE (qv 0) iu)) (fun _ _ _ _=>(jQ (n:=2) rfl (iR (iV 0) (iR (iV 1) jF)))) (fun _ _ _ _=>(kU (jc nJ (pT hu (qv 2) (qv 0) iu) (iQ lW iu (qv 1)) (ja _)))) (fun _ _ _ _=>(jx (iG lB (qv 0))))) (iy (rB 10 X ["_law_due"] [none] (jb (qv 1)) (iV 0) (nB pH (qv 0) nq (nu iu))) (iy (jY bg rfl (jb (iE (qv 0) iu)) (jQ (n:=2) rfl (iR (jd 6 X) (iR (jd 7 X) jF))) (iF (jY bg rfl (jb (jW (iG (jx (iG (qv 6) (qv 7))) (jx (iG (qv 7) (qv 6)))))) (jQ (n:=2) rfl (iR (jd 11 X) (iR (jd 12 X) jF))) (iy (jt (jc nT (qv 11) (qv 4) (by with_unfolding_all rfl)) (iF (j6 (kI ba aY aX kN (qv 9) (iJ (jx (jH lB (iG (qv 11) (qv 12)))))))) jv) (iF (jt (PW.pt (nX (jc nT (qv 11) (qv 3) (by with_unfolding_all rfl)) (n6 (jc (Fq M.units) (jx (iG (qv 6) (qv 7))) (qv 10) (by with_unfolding_all rfl))))) (iF (j6 (kI ba aY aX kN (qv 9) (iJ (jx (jH lB (iG (qv 11) (qv 12)))))))) jv)))))) (iF (iS (qv 9)))))))))),?_⟩;have Mf:xs.length=c.length:=aq pc;refine iK fun R U=>?_;walk_at "D";refine jA (i5 K ch) H (fun R' sz=>?_) (fun z1 Mp=>jn c.length (fun i L I=>∃k,L=[k]/\Same H I/\I z1=some (.lst ((kL (c.take i)).map V.int))) ⟨none,rfl,iD Mp _,ir⟩ ?_ ?_)
 ·unfold i8;walk_at "D";exact⟨ch,rfl,⟨_,SqL.of ((Same.refl H) _ _ ec)⟩,sz⟩
 ·rintro i L I hi ⟨k,rfl,s2,ez⟩;have sA:=Same.trans (Same.refl H) s2;have x1:xs[i]? =some (xs[i]'(by lia)):=gE _;have y1:SqL K I ch xs:=SqL.of (sA _ _ ec);refine⟨⟨_,_,y1,x1⟩,?_⟩;rintro y H' ⟨rfl,hy⟩;obtain⟨q,W,pq⟩:=jm pc (hy _ y1);obtain⟨t,w,u,r,rfl,ew,S,eL,e2⟩:=(gc q (aC W)).at (pq.tups sA.tups);have lt:=Jv W;rw[ew]at lt;have ln:=Cs (c.take i);rw[aP]at ln;simp_arith[iH,S,iW];by_cases cw:w=wB
  ·rw[aI (by rw[cw])]at lt;simp only[ao cw,if_true];simp only[e2 cw];refine⟨_,ez,by rw[aa];exact iU (by lia),_,rfl,i4 s2 Mp,?_⟩;rw[ir,lt,af];rfl
  ·rw[aG (fun z=>cw (aJ z))]at lt;simp only[aA cw,aL,if_false];rw[aS]at lt;exact⟨_,rfl,s2,by rw[lt];exact ez⟩
 rintro L H1 ⟨k,rfl,s1,MD⟩;refine⟨⟨_,SqL.of ((Same.trans (Same.refl H) s1) _ _ ec),by lia⟩,?_⟩;rw[aD]at MD;walk_at "D";subst U;refine iK fun R U=>?_;walk_at "D";refine jA (i5 K ch) H1 (fun R' sz=>?_) (fun z2 Ml=>jn c.length (fun i L I=>∃k,L=[k]/\Same H1 I/\I z2=some (.lst ((kP (c.take i)).map V.int))) ⟨none,rfl,iD Ml _,ir⟩ ?_ ?_)
 ·unfold i8;walk_at "D";exact⟨ch,rfl,⟨_,SqL.of (s1 _ _ ec)⟩,sz⟩
 ·rintro i L I hi ⟨k,rfl,s2,ez⟩;have sA:=Same.trans s1 s2;have x1:xs[i]? =some (xs[i]'(by lia)):=gE _;have y1:SqL K I ch xs:=SqL.of (sA _ _ ec);refine⟨⟨_,_,y1,x1⟩,?_⟩;rintro y H' ⟨rfl,hy⟩;obtain⟨q,W,pq⟩:=jm pc (hy _ y1);obtain⟨t,w,u,r,rfl,ew,S,eL,e2⟩:=(gc q (aC W)).at (pq.tups sA.tups);have lt:=Kg W;rw[ew]at lt;have ln:=JK (c.take i);rw[aP]at ln;simp_arith[iH,S,iW];by_cases cw:w=wB
  ·rw[aI (by rw[cw])]at lt;simp only[ao cw,bK,aL,if_false];rw[aS]at lt;exact⟨_,rfl,s2,by rw[lt];exact ez⟩
  ·rw[aG (fun z=>cw (aJ z))]at lt;simp only[aA cw,cI,if_true];simp only[eL];refine⟨_,ez,by rw[aa];exact iU (by lia),_,rfl,i4 s2 Ml,?_⟩;rw[ir,lt,af];rfl
 rintro L H2 ⟨k,rfl,s2,Mg⟩;refine⟨⟨_,SqL.of ((Same.trans s1 s2) _ _ ec),by lia⟩,?_⟩;rw[aD]at Mg;walk_at "D";have Mu:=s1.trans s2;have MG:=s2 _ _ MD;subst U;refine iK fun R U=>?_;walk_at "D";intro d J;generalize hg:upd H2 d _=H3;obtain⟨s3,ed⟩:=kc J hg;clear hg;subst U;refine iK fun R U=>?_;have L':zs.length=ds.length:=aq pd;refine kA (i5 K l) H3 (fun R' sz=>?_) (lG (K:=K) (a:=l) (xs:=zs) (fun i σ I=>∃v1 v2 v3 kvs,σ=[some v,some (.ref l),some (.ref ch),some (.ref z1),some (.ref z2),some (.ref d),v1,v2,v3,none,none,none,none]/\Same H2 I/\I d=some (.dK kvs)/\jis kvs (ds.take i)/\kvs.length<=2*i) ⟨none,none,none,[],rfl,s3,ed,fun n=>.inl ⟨rfl,rfl⟩,bS _⟩ (fun i σ I _ C=>by obtain⟨_,_,_,_,_,J',_⟩:=C;exact SqL.of ((Mu.trans J') _ _ el)) ?_ ?_)
 ·unfold i8;walk_at "D";exact⟨l,rfl,⟨_,SqL.of ((Mu.trans s3) _ _ el)⟩,sz⟩
 ·rintro i x σ H4 G ⟨v1,v2,v3,kvs,rfl,s4,L8,pk,Me⟩;obtain⟨p,O,px⟩:=jm pd G;obtain⟨t,rfl,S⟩:=Tp.tups px (Mu.trans s4).tups;have Mo:=(ax.mp O).1;simp_arith[S,L8,pk.get];have F:=jis.put (f:=iP (ds.take i)) pk p.1 p.2.2;have M0:=uO kvs (Sum.inl p.1:iw) (.int (iP (ds.take i) p.1+p.2.2));refine⟨⟨_,rfl⟩,iU (by lia),⟨_,ir⟩,?_⟩;generalize jr kvs (Sum.inl p.1:iw) (.int (iP (ds.take i) p.1+p.2.2))=k1 at F M0 ⊢;have g2:(iX k1 (Sum.inl p.2.1:iw)).getD (.int 0)= .int (iP (ds.take i) p.2.1+(if p.1=p.2.1 then p.2.2 else 0)):=by
   rcases F p.2.1 with⟨e,z⟩|e
   ·rw[e,z];rfl
   ·rw[e];rfl
  have q2:=jis.put (f:=fun n=>iP (ds.take i) n+(if p.1=n then p.2.2 else 0)) F p.2.1 p.2.2;have Nh:=uO k1 (Sum.inl p.2.1:iw) (.int (iP (ds.take i) p.2.1+(if p.1=p.2.1 then p.2.2 else 0)+p.2.2));rw[ir];dsimp only;rw[g2];dsimp only;refine⟨iU (by lia),_,_,_,_,rfl,?_,ir,?_,by lia⟩
  ·exact i4 (i4 s4 J) J
  ·intro n;rw [CZ O n,<- Int.add_assoc];exact q2 n
 rintro σ H4 ⟨v1,v2,v3,kvs,rfl,s4,F',pk,Me⟩;rw[L',aD]at pk;have K':=Mu.trans s4;have MI:=s4 _ _ MG;have MJ:=s4 _ _ Mg;clear MG Mg MD s3 ed;obtain⟨wu,pa,ta,ws,ys,rfl,A',i',G',MX,sq⟩:=hw;have Ni:ws.length=ps.length:=aq MX;have Mq:ys.length=ts.length:=aq sq;have Nb:=T.pl;have Na:=T.tl;dsimp only;subst U;refine iK fun R U=>?_;walk_at "D";refine jA (i5 K pa) H4 (fun R' sz=>?_) (fun z3 Mj=>jn ps.length (fun i L I=>∃k w2 gs,L=[k,w2,some (.ref d)]/\Same H4 I/\I z3=some (.lst gs)/\Lks I gs ((jV (ps.take i) ds).map fun p=>(some wL,[p]))) ⟨none,none,[],rfl,iD Mj _,ir,.nil⟩ ?_ ?_)
 ·unfold i8;simp_arith[iH,K' _ _ A',iW];exact⟨pa,rfl,⟨_,SqL.of (K' _ _ i')⟩,sz⟩
 ·rintro i L I hi ⟨k,w2,gs,rfl,J',ez,pg⟩;have sA:=K'.trans J';have x1:ws[i]? =some (ws[i]'(by lia)):=gE _;have y1:SqL K I pa ws:=SqL.of (sA _ _ i');refine⟨⟨_,_,y1,x1⟩,?_⟩;rintro y H' ⟨rfl,hy⟩;obtain⟨q,W,pq⟩:=jm MX (hy _ y1);obtain⟨t,rfl,S⟩:=pq.same sA;have Mh:=J' _ _ F';have lt:=Dg (ds:=ds) W;have lg:gs.length<=40:=by
   have e:=aq pg;rw[aa]at e;have:=(og (ps.take i) ds).length_le;rw[aa,aP]at this;lia
  simp_arith[S];refine⟨⟨kvs,Mh⟩,?_⟩;simp only[Mh,pk.get];refine⟨nF (by decide) (by decide),?_⟩;by_cases c9:iP ds q.1<2*q.2
  ·rw[aI c9]at lt;simp only[ao c9,if_true];intro t5 ME;have q5:=iD ME (.tup [.str wL,.int q.1]);have e5:upd H' t5 (.tup [.str wL,.int q.1]) t5=some (.tup (k7 (some wL,[q.1]))):=ir;have B':=q5 _ _ ez;generalize upd H' t5 (.tup [.str wL,.int q.1])=H5 at q5 e5 B';have t6:=ka (ys:=gs++[.ref t5]) B';refine⟨_,B',iU (by lia),_,_,gs++[.ref t5],rfl,i4 (J'.trans q5) Mj,ir,?_⟩;rw[lt,af];exact j3 (Lks.tups (Lks.tups pg q5.tups) t6) ⟨t5,rfl,t6 _ _ rfl e5⟩
  ·rw[aG c9,aS]at lt;simp only[aA c9,aL,if_false];exact⟨_,_,_,rfl,J',ez,by rw[lt];exact pg⟩
 rintro L H5 ⟨k,w2,gs,rfl,s5,MR,pg⟩;refine⟨⟨_,SqL.of ((K'.trans s5) _ _ i'),by lia⟩,?_⟩;rw[aD]at pg;have Ma:=K'.trans s5;have ML:H z3=none:=K'.free Mj;have M5:=s5 _ _ MI;have M4:=s5 _ _ MJ;walk_at "D";subst U;refine iK fun R U=>?_;walk_at "D";refine jA (i5 K l) H5 (fun R' sz=>?_) (fun z4 MC=>jn ds.length (fun i L I=>∃k us,L=[k]/\Same H5 I/\I z4=some (.lst us)/\Prs I us ((ds.take i).map fun d=>(d.1,d.2.1))) ⟨none,[],rfl,iD MC _,ir,.nil⟩ ?_ ?_)
 ·unfold i8;walk_at "D";exact⟨l,rfl,⟨_,SqL.of (Ma _ _ el)⟩,sz⟩
 ·rintro i L I hi ⟨k,us,rfl,J',ez,pu⟩;have sA:=Ma.trans J';have x1:zs[i]? =some (zs[i]'(by lia)):=gE _;have y1:SqL K I l zs:=SqL.of (sA _ _ el);refine⟨⟨_,_,y1,x1⟩,?_⟩;rintro y H' ⟨rfl,hy⟩;obtain⟨q,W,pq⟩:=jm pd (hy _ y1);obtain⟨t,rfl,S⟩:=Tp.tups pq sA.tups;have lu:us.length<=200:=by
   have e:=aq pu;rw[aa,aP]at e;lia
  simp_arith[S];refine⟨rE (.int q.1) (.int q.2.1) (.int q.2.2),fun t5 ME=>?_⟩;rw[sS];have q5:=iD ME (.tup [.int q.1,.int q.2.1]);have e5:upd H' t5 (.tup [.int q.1,.int q.2.1]) t5=some (.tup [.int q.1,.int q.2.1]):=ir;have B':=q5 _ _ ez;generalize upd H' t5 (.tup [.int q.1,.int q.2.1])=H6 at q5 e5 B';have t6:=ka (ys:=us++[.ref t5]) B';refine⟨_,B',iU (by lia),_,us++[.ref t5],rfl,i4 (J'.trans q5) MC,ir,?_⟩;rw[ji W,af];exact j3 (Prs.tups t6 (Prs.same q5 pu)) (Pr.tups (p:=(q.1,q.2.1)) ⟨t5,rfl,e5⟩ t6)
 rintro L H6 ⟨k,us,rfl,s6,Mr,pu⟩;refine⟨⟨_,SqL.of ((Ma.trans s6) _ _ el),by lia⟩,?_⟩;rw[aD]at pu;have Mi:=Ma.trans s6;have MN:=s6 _ _ M5;have MM:=s6 _ _ M4;have Mv:=s6 _ _ MR;have MY:=Lks.tups pg s6.tups;walk_at "D";have MF:z1≠z3:=iO MI Mj;have MV:z2≠z3:=iO MJ Mj;have MQ:z4≠z3:=(iO MR MC).symm;have M9:ta≠z3:=iO (K' _ _ G') Mj;have M7:=Mi _ _ A';have MP:=Mi _ _ G';have M':=Prs.same Mi sq;have Nf:Prs H6 us (ds.map fun d=>(d.1,d.2.1)):=pu;have Nj:gs.length<=40:=by
  have e:=aq pg;rw[aa]at e;have:=(og ps ds).length_le;rw[aa]at this;lia
 generalize Ng:(jV ps ds).map (fun p=>((some wL,[p]):Lk))=L0 at MY;have M3:(kL c).length<=200:=bw (Cs c) Y;generalize hI:kL c=ins at MN M3;generalize hO:kP c=outs at MM;subst U;refine iK fun R U=>?_;refine kA (i5 K ta) H6 (fun R' sz=>?_) (lG (K:=K) (a:=ta) (xs:=ys) (fun j σ I=>∃v1 v2 v3 v6 v7 Mc,σ=[some (.ref wu),some (.ref l),some (.ref ch),some (.ref z1),some (.ref z2),some (.ref d),v1,v2,v3,some (.ref z3),some (.ref z4),v6,v7]/\But z3 H6 I/\I z3=some (.lst Mc)/\Lks I Mc (L0++(ts.take j).flatMap (nx ds ins outs))/\Mc.length<=40+4*j) ⟨v1,v2,v3,none,none,gs,rfl,But.refl _ _,Mv,by simpa using MY,by lia⟩ (fun j σ I _ C=>by obtain⟨_,_,_,_,_,_,_,b,_⟩:=C;exact SqL.of (b _ _ M9 MP)) ?_ ?_)
 ·unfold i8;simp_arith[iH,M7,jl];exact⟨ta,rfl,⟨_,SqL.of MP⟩,sz⟩
 ·rintro j x σ I G ⟨v1,v2,v3,v6,v7,Mc,rfl,bc,eg,Ms,M8⟩;obtain⟨q,W,px⟩:=jm M' G;obtain⟨t,rfl,S⟩:=px.tups (bc.tups Mv rfl);have hj:=(ax.mp W).1;simp_arith[S];refine yr (ι:=Addr×Addr×Addr×Hp) (fun y=>i5 K y.2.2.1) (fun y=>y.2.2.2) (fun y=>Same I y.2.2.2/\y.2.2.2 y.1=some (.tup [.int q.1,.int q.2])/\y.2.2.2 y.2.1=some (.tup [.int q.2,.int q.1])/\y.2.2.2 y.2.2.1=some (.lst [.ref y.1,.ref y.2.1])/\I y.2.2.1=none) (fun R' sz=>?_) ?_
  ·unfold i8;walk_at "D";intro p5 h5 p6 h6 l7 h7;have qa:=iD h5 (.tup [.int q.1,.int q.2]);have qb:=iD h6 (.tup [.int q.2,.int q.1]);have qc:=iD h7 (.lst [.ref p5,.ref p6]);exact⟨l7,rfl,⟨_,SqL.of ir⟩,sz (p5,p6,l7,_) ⟨(qa.trans qb).trans qc,qc _ _ (qb _ _ ir),qc _ _ ir,ir,(qa.trans qb).free h7⟩⟩
  ·rintro⟨t5,t6,l7,H8⟩ ⟨s8,e5,e6,e7,h7⟩;dsimp only at s8 e5 e6 e7 h7;have n7:l7≠z3:=(iO eg h7).symm;have Mx:=s8 _ _ eg;have p8:Prs H8 [.ref t5,.ref t6] [(q.1,q.2),(q.2,q.1)]:=.cons ⟨t5,rfl,e5⟩ (.cons ⟨t6,rfl,e6⟩ .nil);have f1:=s8 _ _ (bc _ _ MF MN);have f2:=s8 _ _ (bc _ _ MV MM);have f4:=s8 _ _ (bc _ _ MQ Mr);have M6:=Prs.same s8 (Prs.tups (bc.tups Mv rfl) Nf);have Nd:H8 l7=some (.lst [.ref t5,.ref t6]):=e7;clear e5 e6 e7;refine lG (K:=K) (a:=l7) (xs:=[.ref t5,.ref t6]) (fun m σ Hd=>∃Mt Mz MA L9,σ=[some (.ref wu),some (.ref l),some (.ref ch),some (.ref z1),some (.ref z2),some (.ref d),some (.int q.1),some (.int q.2),Mt,some (.ref z3),some (.ref z4),Mz,MA]/\But z3 H8 Hd/\Hd z3=some (.lst L9)/\Lks Hd L9 ((L0++(ts.take j).flatMap (nx ds ins outs))++(([(q.1,q.2),(q.2,q.1)]:LY).take m).flatMap fun p=>nM ds ins outs q p.1 p.2)/\L9.length<=Mc.length+2*m) ⟨v3,v6,v7,Mc,rfl,But.refl _ _,Mx,by simpa using Lks.tups Ms s8.tups,by lia⟩ (fun m σ Hd _ C=>by obtain⟨_,_,_,_,_,b,_⟩:=C;exact SqL.of (b _ _ n7 Nd)) ?_ ?_
   ·rintro m x σ Hd G ⟨Mt,Mz,MA,L9,rfl,bd,Mm,Mn,MZ⟩;obtain⟨r,M,px⟩:=jm p8 G;obtain⟨tt,rfl,MB⟩:=px.tups (bd.tups Mx rfl);have hm:m<2:=(ax.mp M).1;have MW:=cA (fun l:LY=>l.flatMap fun p=>nM ds ins outs q p.1 p.2) (ji M);simp only[fq,eU,gX,aS]at MW;rw[MW];generalize ((([(q.1,q.2),(q.2,q.1)]:LY).take m).flatMap fun p=>nM ds ins outs q p.1 p.2)=LM at Mn;simp only[tP,ub,tO,mw,MB,List.length_cons,List.length_nil,Nat.reduceAdd,List.set_cons_zero,List.set_cons_succ,if_true,eq_self,true_and];have g1:=bd _ _ MF f1;have g2:=bd _ _ MV f2;refine Jd fun R8 E Mw hE=>?_;have MT:∀(He:Hp) (Mb:List V),But z3 H8 He->He z3=some (.lst Mb)->Lks He Mb (L0++(ts.take j).flatMap (nx ds ins outs)++(LM++(if r.1∈outs then[(some wB,[r.1,r.2])]else[])))->Mb.length<=L9.length+1->R8 E [some (.ref wu),some (.ref l),some (.ref ch),some (.ref z1),some (.ref z2),some (.ref d),some (.int q.1),some (.int q.2),Mt,some (.ref z3),some (.ref z4),some (.int r.1),some (.int r.2)] He:=by
     intro He Mb be ee pe le;subst Mw;subst hE;unfold nM;generalize (if r.1∈outs then([(some wB,[r.1,r.2])]:List Lk)else[])=Z at pe ⊢;have k1:=be _ _ MF f1;have k4:=be _ _ MQ f4;have Nc:=Prs.tups (be.tups Mx rfl) M6;simp_arith[iH,k1,flat_ints,kD,nA];by_cases ci:r.1∈ins
     ·simp only[ao ci,if_true];intro p5 h5;have q5:=iD h5 (.tup [.int q.1,.int q.2]);have f5:Pr (upd He p5 (.tup [.int q.1,.int q.2])) (.ref p5) q:=⟨p5,rfl,ir⟩;generalize upd He p5 (.tup [.int q.1,.int q.2])=Hf at q5 f5;have b5:But z3 H8 Hf:=be.trans (But.same q5);have e5:=q5 _ _ ee;have MU:=Lks.tups pe q5.tups;refine⟨jz q,z4,us,(ds.map fun d=>(d.1,d.2.1)).map jz,f5.rep,rfl,q5 _ _ k4,Prs.reps (Prs.same q5 Nc),bw (xX _) (by decide),?_⟩;simp only[aL,if_false,LO];by_cases ct:q∈ds.map fun d=>(d.1,d.2.1)
      ·simp only[ao ct,if_true];refine⟨⟨z3,_,rfl,e5⟩,fun p6 h6=>?_⟩;have q6:=iD h6 (.tup [.str wT,.int r.1,.int r.2]);have f6:upd Hf p6 (.tup [.str wT,.int r.1,.int r.2]) p6=some (.tup (k7 (some wT,[r.1,r.2]))):=ir;generalize upd Hf p6 (.tup [.str wT,.int r.1,.int r.2])=Hg at q6 f6;have e6:=q6 _ _ e5;simp only[e6];have t7:=ka (ys:=Mb++[.ref p6]) e6;refine⟨iU (by lia),_,_,_,Mb++[.ref p6],rfl,(b5.trans (But.same q6)).trans (But.at z3 Hg _),ir,?_,by rw[aH,List.length_singleton];lia⟩;have:=j3 (Lks.tups (Lks.tups MU q6.tups) t7) (b:=((some wT,[r.1,r.2]):Lk)) ⟨p6,rfl,t7 _ _ rfl f6⟩;rw[aI ⟨ci,ct⟩];simpa only[bp]using this
      ·simp only[aA ct,aL,if_false];refine⟨_,_,_,Mb,rfl,b5,e5,?_,by lia⟩;rw[aG (fun z=>ct z.2),aS];exact MU
     ·simp only[aA ci,aL,if_false];refine⟨_,_,_,Mb,rfl,be,ee,?_,by lia⟩;rw[aG (fun z=>ci z.1),aS];exact pe
    simp_arith[iH,g2,flat_ints,kD,nA];by_cases co:r.1∈outs
    ·simp only[ao co,if_true];refine⟨⟨z3,_,rfl,Mm⟩,fun p6 h6=>?_⟩;have q6:=iD h6 (.tup [.str wB,.int r.1,.int r.2]);have f6:upd Hd p6 (.tup [.str wB,.int r.1,.int r.2]) p6=some (.tup (k7 (some wB,[r.1,r.2]))):=ir;generalize upd Hd p6 (.tup [.str wB,.int r.1,.int r.2])=Hg at q6 f6;have e6:=q6 _ _ Mm;simp only[e6];have t7:=ka (ys:=L9++[.ref p6]) e6;refine⟨iU (by lia),MT _ (L9++[.ref p6]) ((bd.trans (But.same q6)).trans (But.at z3 Hg _)) ir ?_ (by rw[aH,List.length_singleton];lia)⟩;have:=j3 (Lks.tups (Lks.tups Mn q6.tups) t7) (b:=((some wB,[r.1,r.2]):Lk)) ⟨p6,rfl,t7 _ _ rfl f6⟩;rw[aI co];simpa only[bp]using this
    ·simp only[aA co,aL,if_false];exact MT Hd L9 bd Mm (by rw[aG co,aS];exact Mn) (by lia)
   ·rintro σ Hd ⟨Mt,Mz,MA,L9,rfl,bd,Mm,Mn,MZ⟩;refine⟨_,_,_,_,_,L9,rfl,?_,Mm,?_,?_⟩
    ·exact fun b o nb qb=>bd _ _ nb (s8 _ _ (bc _ _ nb qb))
    ·rw[ji W,fq];simp only[eU,gX,aS,nx];simpa using Mn
    ·simp only[List.length_cons,List.length_nil]at MZ;lia
 ·rintro σ I ⟨v1,v2,v3,v6,v7,Mc,rfl,bc,eg,Ms,M8⟩;rw[Mq,aD]at Ms;subst U;walk_at "D";refine h z3 Mc I (fun b o q=>?_) ML eg (by unfold mx;rw[Ng,hI,hO];exact Ms);exact bc _ _ (fun z=>by rw[z,ML]at q;cases q) (Mi _ _ q)
noncomputable def pA(x:Lk):Dt:=.tup ((match x.1 with |some w=>[Dt.str w]|none=>[])++x.2.map Dt.int)
theorem LkAt.rep{H:Hp}{v:V}(h:LkAt H v x):Rep H (pA x) v:=by
 obtain⟨t,rfl,e⟩:=h;obtain⟨w,ns⟩:=x;unfold pA;rw[Rep];refine⟨t,_,rfl,e,?_⟩;cases w with
 |none=>exact uW ns
 |some w=>
  show Reps H (Dt.str w::ns.map Dt.int) (V.str w::ns.map V.int);rw[Reps];exact⟨_,_,rfl,by rw[Rep],uW ns⟩
theorem Lks.reps{H:Hp}{xs:List V}{c:List Lk}(C:Lks H xs c):Reps H (c.map pA) xs:=by
 induction C with
 |nil=>rw[bO,Reps]
 |cons r t E=>
  rw[ai,Reps];exact⟨_,_,rfl,r.rep,E⟩
theorem FL(x:Lk):kX (pA x)<=1:=by
 have hi:∀ns:List Int,j5 (ns.map Dt.int)=0:=fun ns=>by
  induction ns with
  |nil=>rfl
  |cons n ns E=>rw[ai,j5,E];rfl
 obtain⟨w,ns⟩:=x;unfold pA;rw[kX];cases w with
 |none=>
  show j5 (ns.map Dt.int)+1<=1;rw[hi];exact ay _
 |some w=>
  show j5 (Dt.str w::ns.map Dt.int)+1<=1;rw[j5,hi];exact ay 1
theorem AO:∀(l:List Lk),j5 (l.map pA)<=1
 |[]=>by rw[bO,j5];lia
 |x::r=>by
  rw[ai,j5];have:=FL x;have:=AO r;lia
theorem xF(f:∀t∈ts,t.1<t.2)(u v:Int):v∈jC ts u↔(u,v)∈ts\/(v,u)∈ts:=by
 unfold jC;rw[dA];constructor
 ·rintro⟨t,S,Y⟩;unfold nr at Y;split at Y
  ·rename_i c;simp only[aK]at Y;left;rw [<- c,Y];exact S
  ·split at Y
   ·rename_i c;simp only[aK]at Y;right;rw [<- c,Y];exact S
   ·cases Y
 ·rintro(h|h)
  ·exact⟨_,h,by unfold nr;rw[aI rfl];exact aK.mpr rfl⟩
  ·have:=f _ h;exact⟨_,h,by unfold nr;rw[aG (show ¬v=u by lia),aI rfl];exact aK.mpr rfl⟩
theorem rR{ds:LX}{ins outs:List Int}{t:Int×Int}:x∈nx ds ins outs t↔∃u v,((u,v)=t\/(v,u)=t)/\((x=(some wB,[u,v])/\u∈outs)\/(x=(some wT,[u,v])/\u∈ins/\t∈ds.map (fun d=>(d.1,d.2.1)))):=by
 have h1:∀u v:Int,x∈nM ds ins outs t u v↔((x=(some wB,[u,v])/\u∈outs)\/(x=(some wT,[u,v])/\u∈ins/\t∈ds.map (fun d=>(d.1,d.2.1)))):=fun u v=>by
  unfold nM;rw[br];refine or_congr ?_ ?_
  ·by_cases c:u∈outs
   ·rw[aI c,aK];exact⟨fun z=>⟨z,c⟩,fun z=>z.1⟩
   ·rw[aG c];exact⟨fun z=>(by cases z),fun z=>absurd z.2 c⟩
  ·by_cases c:u∈ins/\t∈ds.map (fun d=>(d.1,d.2.1))
   ·rw[aI c,aK];exact⟨fun z=>⟨z,c⟩,fun z=>z.1⟩
   ·rw[aG c];exact⟨fun z=>(by cases z),fun z=>absurd z.2 c⟩
 unfold nx;rw[br,h1,h1];constructor
 ·rintro(h|h)
  ·exact⟨t.1,t.2,.inl rfl,h⟩
  ·exact⟨t.2,t.1,.inr rfl,h⟩
 ·rintro⟨u,v,e|e,h⟩
  ·subst e;exact .inl h
  ·subst e;exact .inr h
theorem yk(ds:LX)(a b:Int):lj ds a b=true↔(a,b)∈ds.map (fun d=>(d.1,d.2.1))\/(b,a)∈ds.map (fun d=>(d.1,d.2.1)):=by
 unfold lj;rw[fo];constructor
 ·rintro⟨d,J,h⟩;rw[Bool.or_eq_true,aQ,aQ]at h;rcases h with h|h
  ·exact .inl (av.mpr ⟨d,J,by rw[eq_of_beq h.1,eq_of_beq h.2]⟩)
  ·exact .inr (av.mpr ⟨d,J,by rw[eq_of_beq h.1,eq_of_beq h.2]⟩)
 ·rintro(h|h)
  ·obtain⟨d,J,e⟩:=av.mp h;injection e with e1 e2;exact⟨d,J,by rw[e1,e2];simp⟩
  ·obtain⟨d,J,e⟩:=av.mp h;injection e with e1 e2;exact⟨d,J,by rw[e1,e2];simp⟩
end
section
variable{ps ts:LY}{ds:LX}{ins outs:List Int}{x:Lk}{α:Type}{st:Addr}{o:HO}
theorem Gi(T:WebOk ps ts)(J:∀d∈ds,(d.1,d.2.1)∈ts):x∈mx ps ts ds ins outs↔kJ ps ts ds ins outs x=true:=by
 have f:∀t∈ts,t.1<t.2:=fun t B=>(T.t.ats t B).1;have i:∀{u v:Int},(u,v)∈ts\/(v,u)∈ts->u∈ps.map (·.1)/\v∈ps.map (·.1):=fun{u v} h=>by
  rcases h with h|h
  ·exact⟨nk (T.t.ats _ h).2.1,nk (T.t.ats _ h).2.2⟩
  ·exact⟨nk (T.t.ats _ h).2.2,nk (T.t.ats _ h).2.1⟩
 have m:∀t∈ds.map (fun d=>(d.1,d.2.1)),t∈ts:=fun t B=>by
  obtain⟨d,h,rfl⟩:=av.mp B;exact J d h
 unfold mx;rw[br,dA];constructor
 ·rintro(h|⟨t,B,h⟩)
  ·obtain⟨p,O,rfl⟩:=av.mp h;have S:=(og ps ds).subset O;unfold kJ lK;simp only[ao S,ao O,ck,Bool.and_self]
  ·obtain⟨u,v,e,h⟩:=rR.mp h;have a:(u,v)∈ts\/(v,u)∈ts:=by
    rcases e with e|e
    ·left;rw[e];exact B
    ·right;rw[e];exact B
   have S:=(xF f u v).mpr a;obtain⟨F,Y⟩:=i a;rcases h with⟨rfl,M⟩|⟨rfl,hi,K⟩
   ·unfold kJ lK;simp only[ao S,ao F,ao Y,ao M,ck,Bool.true_or,Bool.and_self,if_true]
   ·have b:lj ds u v=true:=(yk ds u v).mpr (by
     rcases e with e|e
     ·left;rw[e];exact K
     ·right;rw[e];exact K)
    unfold kJ lK;simp only[ao S,ao F,ao Y,ao hi,b,ow,ck,cS,Bool.or_true,Bool.and_self,if_false]
 ·intro h;unfold kJ at h;rw[aQ]at h;obtain⟨h1,h2⟩:=h;rcases sH h1 with⟨p,rfl⟩|⟨u,v,rfl⟩|⟨u,v,rfl⟩
  ·left;exact av.mpr ⟨p,aO h2,rfl⟩
  ·right;unfold lK at h1;simp only[aQ,bM]at h1;dsimp only at h2;rw[aI rfl]at h2;rcases(xF f u v).mp h1.2.2 with z|z
   ·exact⟨_,z,rR.mpr ⟨u,v,.inl rfl,.inl ⟨rfl,aO h2⟩⟩⟩
   ·exact⟨_,z,rR.mpr ⟨u,v,.inr rfl,.inl ⟨rfl,aO h2⟩⟩⟩
  ·right;unfold lK at h1;simp only[aQ,bM]at h1;dsimp only at h2;rw[aG (by rw[ow];exact id),aQ]at h2;have hi:=aO h2.1;rcases(xF f u v).mp h1.2.2 with z|z
   ·refine⟨_,z,rR.mpr ⟨u,v,.inl rfl,.inr ⟨rfl,hi,?_⟩⟩⟩;rcases(yk ds u v).mp h2.2 with y|y
    ·exact y
    ·have:=f _ z;have:=f _ (m _ y);lia
   ·refine⟨_,z,rR.mpr ⟨u,v,.inr rfl,.inr ⟨rfl,hi,?_⟩⟩⟩;rcases(yk ds u v).mp h2.2 with y|y
    ·have:=f _ z;have:=f _ (m _ y);lia
    ·exact y
theorem Fz(h:kJ ps ts ds ins outs x=true):GLk x:=by
 unfold kJ at h;rw[aQ]at h;rcases sH h.1 with⟨p,rfl⟩|⟨u,v,rfl⟩|⟨u,v,rfl⟩
 ·exact .l p
 ·exact .b u v
 ·exact .t u v
theorem zY{i o:List Int}(h1:∀n,n∈ins↔n∈i)(h2:∀n,n∈outs↔n∈o):kJ ps ts ds ins outs x=kJ ps ts ds i o x:=by
 unfold kJ;simp only[h1,h2]
theorem xV:∀{c:List Lk} {ins outs:List Int},kM ps ts ds ins outs (c++[x])=(kM ps ts ds ins outs c&&kJ ps ts ds (kL c++ins) (kP c++outs) x)
 |[],ins,outs=>by
  show kM ps ts ds ins outs [x]=_;rw[kM,kM];simp[kM,kL,kP]
 | y::c,ins,outs=>by
  rw[List.cons_append,kM,kM,Bool.and_assoc]
  congr 1
  have e1:kL (y::c)=(if y.1=some wB then[iL y]else[])++kL c:=by
   unfold kL;by_cases e:y.1=some wB<;>simp[e]
  have e2:kP (y::c)=(if y.1=some wB then[]else[iL y])++kP c:=by
   unfold kP;by_cases e:y.1=some wB<;>simp[e]
  by_cases e:y.1=some wB
  ·rw[aI e,aI e,xV,e1,e2,aI e,aI e]
   congr 1
   exact zY (fun n=>by simp only[br,aV,fk,ie,List.nil_append];exact⟨fun z=>by rcases z with z|z|z<;>simp[z],fun z=>by rcases z with(z|z)|z<;>simp[z]⟩) (fun n=>by simp)
  ·rw[aG e,aG e,xV,e1,e2,aG e,aG e]
   congr 1
   exact zY (fun n=>by simp) (fun n=>by simp only[br,aV,fk,ie,List.nil_append];exact⟨fun z=>by rcases z with z|z|z<;>simp[z],fun z=>by rcases z with(z|z)|z<;>simp[z]⟩)
theorem FD(f:α->Dt)(l:List α):jq (.lst (l.map f)) (.lst [])=l.isEmpty:=by cases l<;>rfl
theorem wx{F:V->α->Prop}{H:Hp}{a:Addr}{xs:List V}{ys:List α}(e:H st=some o)(C:StO o)(T:H a=some (.lst xs))(p:Paired F xs ys)(I:∀v y,F v y->∃t,v= .ref t):a≠st:=zx e C T fun v Y=>by
 obtain⟨i,hi,rfl⟩:=bx.mp Y;obtain⟨y,_,z⟩:=jm p (gE hi);exact I _ _ z
theorem GP{H H':Hp}{v:V}(h:jbl H v ps ts)(b:But st H H')(e:H st=some o)(C:StO o):jbl H' v ps ts:=by
 have t:=b.tups e C.imm;obtain⟨u,G,ta,xs,ys,O,h1,h2,D,T,K⟩:=h;exact⟨u,G,ta,xs,ys,O,t _ _ rfl h1,b _ _ (wx e C h2 T fun v y z=>let⟨a,q,_⟩:=z;⟨a,q⟩) h2,b _ _ (wx e C D K fun v y z=>let⟨a,q,_⟩:=z;⟨a,q⟩) D,Prs.tups t T,Prs.tups t K⟩
theorem Hr(ps ts:LY)(ds:LX)(ins outs:List Int):(mx ps ts ds ins outs).length<=ps.length+4*ts.length:=by
 unfold mx;rw[aH,aa];have h1:=(og ps ds).length_le;rw[aa]at h1;have h2:∀l:LY,(l.flatMap (nx ds ins outs)).length<=4*l.length:=fun l=>by
  induction l with
  |nil=>simp
  | cons t l E=>
   rw[eU,aH,List.length_cons];have:(nx ds ins outs t).length<=4:=by
    unfold nx nM;simp only[aH];split<;>split<;>split<;>split<;>simp
   lia
 have:=h2 ts;lia
noncomputable def CG:Sp:=fun vs H Q _=>∃st v ps ts l zs ds o,vs=[.ref st,v,.ref l,.int 20]/\H st=some o/\StO o/\jbl H v ps ts/\WebOk ps ts/\H l=some (.lst zs)/\j8 H zs ds/\ds.length<=200/\(∀d∈ds,(d.1,d.2.1)∈ts)/\∀r xs c H' o',But st H H'->H' st=some o'->StO o'->H r=none->H' r=some (.lst xs)->Lks H' xs c->c.length<=20->(∀x∈c,GLk x)->kM ps ts ds [] [] c=true->Q (.ref r) H'
theorem Kr(B:Blt mg)(D:DefAt K mg "_law_chain" (top 60) ["_law_state","_law_web_here","_law_dues","_law_most"] f fd)(i':Ok P w K mg base "_law_take" (top 54) 1 ["_law_state","_law_many"] pO)(Mz:Ok P w K mg base "_law_next" (top 59) 1 ["_law_web_here","_law_dues","_law_chain_here"] Ap):FnOk P w K mg base iT 2 f fd ["_law_state","_law_web_here","_law_dues","_law_most"] CG:=by
 refine i6 D.F ["_law_state","_law_web_here","_law_dues","_law_most","_law_chain_here","_law_k","_law_some"] (by rintro _ _ _ _ ⟨st,v,ps,ts,l,zs,ds,o,rfl,_⟩;rfl) ?_;rintro _ A _ s H vs Q E X M _ _ ⟨st,v,ps,ts,l,zs,ds,o,rfl,e,so,V,T,el,pd,Z,J,h⟩;refine⟨_,(iy (iM 4 X (jW kF)) (iy (jY bg rfl (nD rfl B.range (iJ (iN i' M (iG (qv 0) (iQ ju (qv 3) iu))))) (jd 5 X) (iy (iM 6 X (iN Mz M (jH (qv 1) (iG (qv 2) (qv 4))))) (iF (jt (jc (wz M.units) (qv 6) (jW kF) (ja _)) (iF (j6 (kI ba aY aX kN (qv 4) (iJ (iE (qv 6) (iN i' M (iG (qv 0) (kZ B (qv 6))))))))) jv)))) (iF (iS (qv 4))))),?_⟩;refine iK fun R U=>?_;walk_at "D";intro r M;generalize j:upd H r _=H1;obtain⟨O,er⟩:=kc M j;clear j;have e1:=O _ _ e;have Mf:r≠st:=(iO e M).symm;subst U;refine iK fun R U=>?_;refine yr (ι:=Nat×Hp×HO) (fun y=>lE 0 y.1) (fun y=>y.2.1) (fun y=>y.1<=20/\But st H1 y.2.1/\y.2.1 st=some y.2.2/\StO y.2.2) (fun R' C=>?_) ?_
 ·unfold ni;walk_at "D";refine⟨st,o,_,rfl,e1,so,by lia,by lia,fun d o2 d0 d1 sq=>?_⟩;refine⟨d,rfl,by lia,by lia,C (d.toNat,_,o2) ⟨by show d.toNat<=20;lia,But.at st H1 o2,ir,sq⟩⟩
 rintro⟨N,H2,o2⟩ ⟨hN,b2,e2,sq⟩;dsimp only at hN b2 e2 sq;have F':=b2 _ _ Mf er;refine oa (n:=N) (fun i σ I=>∃v5 v6 xs c o',σ=[some (.ref st),some v,some (.ref l),some (.int 20),some (.ref r),v5,v6]/\But st H I/\I st=some o'/\StO o'/\I r=some (.lst xs)/\Lks I xs c/\c.length<=i/\(∀x∈c,GLk x)/\kM ps ts ds [] [] c=true) ⟨none,none,[],[],o2,rfl,(fun b u nb q=>b2 _ _ nb (O _ _ q)),e2,sq,F',.nil,ay _,(fun x G=>by cases G),rfl⟩ ?_ ?_
 ·rintro i σ I hi ⟨v5,v6,xs,c,oc,rfl,bc,ec,J',L9,pc,lc,gl,m⟩;simp only[mw,List.set_cons_zero,List.set_cons_succ];have tc:=bc.tups e so.imm;have Mw:=bc _ _ (wx e so el pd fun v y z=>let⟨a,q,_⟩:=z;⟨a,q⟩) el;have G':xs.length=c.length:=aq pc;refine iK fun R8 Mc=>?_;walk_at "D";refine⟨v,ps,ts,l,zs,ds,r,xs,c,rfl,GP V bc e so,T,Mw,j7 tc pd,Z,L9,pc,by lia,gl,fun rn ys H3 g Mx Mt pr=>?_⟩;have Mp:=g _ _ L9;have e3:=g _ _ ec;have b3:=bc.trans (But.same g);have Ms:=Lks.tups pc g.tups;subst Mc;walk_at "D";intro e0 Mh;generalize j:upd H3 e0 _=F;obtain⟨q4,Mg⟩:=kc Mh j;clear j;have b4:=b3.trans (But.same q4);have e4:=q4 _ _ e3;have Ma:=q4 _ _ Mp;have Mm:=Lks.tups Ms q4.tups;have Mb:=q4 _ _ Mt;have Ml:=Lks.tups pr q4.tups;have L8:ys.length=(mx ps ts ds (kL c) (kP c)).length:=aq pr;have B':=Hr ps ts ds (kL c) (kP c);have Mr:=T.pl;have Mq:=T.tl;refine⟨.lst ((mx ps ts ds (kL c) (kP c)).map pA),.lst [],(by rw[Rep];exact⟨rn,ys,rfl,Mb,Lks.reps Ml⟩),(by rw[Rep];exact⟨e0,[],rfl,Mg,by rw[Reps]⟩),(by rw[kX];have:=AO (mx ps ts ds (kL c) (kP c));lia),.inl ⟨_,_,rfl,rfl⟩,?_⟩;simp only[if_true,FD];by_cases hE:mx ps ts ds (kL c) (kP c)=[]
  ·rw[hE];simp only[List.isEmpty_nil,bK,aL,if_false];exact⟨_,_,xs,c,oc,rfl,b4,e4,J',Ma,Mm,by lia,gl,m⟩
  ·have Mv:(mx ps ts ds (kL c) (kP c)).isEmpty=false:=by
    cases W:mx ps ts ds (kL c) (kP c)with
    |nil=>exact absurd W hE
    |cons _ _=>rfl
   have hpos:0<(mx ps ts ds (kL c) (kP c)).length:=List.length_pos_iff.mpr hE;rw[Mv];simp only[cI,if_true];simp_arith[iH,Mb];refine⟨⟨r,xs,rfl,Ma⟩,st,oc,_,rfl,e4,J',by lia,by lia,fun d o5 d0 d1 sz=>?_⟩;have b5:=b4.trans (But.at st F o5);have e5:upd F st o5 st=some o5:=ir;have t5:=(But.at st F o5).tups e4 J'.imm;have Mu:rn≠st:=(iO ec Mx).symm;have Mi:=But.at st F o5 _ _ Mu Mb;have L':=But.at st F o5 _ _ Mf Ma;have Mj:=Lks.tups Mm t5;have A':=Lks.tups Ml t5;generalize upd F st o5=Y at b5 e5 Mi L' Mj A';have Mn:d.toNat<ys.length:=by lia
   have Me:ys[d.toNat]? =some ys[d.toNat]:=gE Mn;generalize ys[d.toNat]=y at Me;obtain⟨x,G,p⟩:=jm A' Me;obtain⟨t,rfl,S⟩:=id p;have Mo:jh ys d=some (.ref t):=by
    have:((d.toNat:Nat):Int)=d:=by lia
    rw [<- this];exact me Me
   have K':=aC G;have k:=(Gi T J).mp K';simp only[iH,Mi,Mo,L'];have t6:=ka (ys:=xs++[.ref t]) L';refine⟨iU (by lia),_,_,xs++[.ref t],c++[x],o5,rfl,fun b u nb q=>?_,by rw[iC Mf.symm];exact e5,sz,ir,j3 (Lks.tups Mj t6) (p.tups t6),by rw[aH,List.length_singleton];lia,fun z L=>?_,?_⟩
   ·rw[iC (iO q M)];exact b5 _ _ nb q
   ·rcases br.mp L with L|L
    ·exact gl z L
    ·rw[aK.mp L];exact Fz k
   ·rw[xV,m,cz,aS,aS];exact k
 ·rintro σ I ⟨v5,v6,xs,c,oc,rfl,bc,ec,J',L9,pc,lc,gl,m⟩;subst U;walk_at "D";exact h r xs c I oc bc ec J' M L9 pc (by lia) gl m
end
end
end My
namespace Fl
structure Tw where
 a:Int
 b:Int
 x:Int
 y:Int
noncomputable def iZ(n m v:Int):Int:=if n=m then v else 0
theorem sr(n v:Int):iZ n n v=v:=by unfold iZ;rw[aI rfl]
theorem lp{n m:Int}(h:n≠m)(v:Int):iZ n m v=0:=by unfold iZ;rw[aG h]
theorem oZ(c:Int->Int)(a x:Int):∀{ns:List Int},ns.Nodup->a∈ns->(ns.map fun p=>c p*iZ a p x).sum=c a*x
 |[],_,h=>by cases h
 | n ::ns,T,h=>by
  rw[ai,List.sum_cons];have f:=bV.mp T;by_cases e:a=n
  ·subst e;have A:∀{l:List Int},a∉l->(l.map fun p=>c p*iZ a p x).sum=0:=by
    intro l
    induction l with
    |nil=>intro _;rfl
    |cons m l E=>
     intro K;rw[ai,List.sum_cons,lp (fun z:a=m=>K (by rw[z];exact aE ..)),eV,E fun z=>K (au _ z)];rfl
   rw[sr,A f.1,fV]
  ·have K:a∈ns:=(aV.mp h).resolve_left e;rw[lp e,eV,oZ c a x f.2 K,dh]
theorem kG{α:Type}(f g:α->Int):∀(l:List α),(l.map fun p=>f p+g p).sum=(l.map f).sum+(l.map g).sum
 |[]=>rfl
 |a::l=>by
  rw[ai,ai,ai,List.sum_cons,List.sum_cons,List.sum_cons,kG f g l];lia
theorem l9{α:Type}:∀(l:List α),(l.map fun _=>(0:Int)).sum=0
 |[]=>rfl
 |_::l=>by rw[ai,List.sum_cons,l9 l];rfl
theorem jN{α:Type}{f g:α->Int}:∀{l:List α},(∀p∈l,f p=g p)->(l.map f).sum=(l.map g).sum
 |[],_=>rfl
 |a::l,h=>by
  rw[ai,ai,List.sum_cons,List.sum_cons,h a (aE ..),jN fun p O=>h p (au _ O)]
noncomputable def k6(zs:List Tw)(p:Int):Int:=(zs.map fun z=>iZ z.a p z.x+iZ z.b p z.y).sum
noncomputable def inR(zs:List Tw)(p:Int):Int:=(zs.map fun z=>iZ z.b p z.x+iZ z.a p z.y).sum
theorem uC(c:Int->Int){ns:List Int}(T:ns.Nodup):∀{zs:List Tw},(∀z∈zs,z.a∈ns/\z.b∈ns)->(ns.map fun p=>c p*k6 zs p).sum=(zs.map fun z=>c z.a*z.x+c z.b*z.y).sum
 |[],_=>by
  show(ns.map fun p=>c p*0).sum=0;rw[jN (g:=fun _=>0) fun p _=>eV _,l9]
 | z::zs,h=>by
  have L:=h z (aE ..);have e:∀p∈ns,c p*k6 (z::zs) p=(c p*iZ z.a p z.x+c p*iZ z.b p z.y)+c p*k6 zs p:=fun p _=>by
   unfold k6;rw[ai,List.sum_cons,cX,cX]
  rw[jN e,kG,kG,oZ c _ _ T L.1,oZ c _ _ T L.2,uC c T fun z L=>h z (au _ L),ai,List.sum_cons]
theorem wQ(c:Int->Int){ns:List Int}(T:ns.Nodup):∀{zs:List Tw},(∀z∈zs,z.a∈ns/\z.b∈ns)->(ns.map fun p=>c p*inR zs p).sum=(zs.map fun z=>c z.b*z.x+c z.a*z.y).sum
 |[],_=>by
  show(ns.map fun p=>c p*0).sum=0;rw[jN (g:=fun _=>0) fun p _=>eV _,l9]
 | z::zs,h=>by
  have L:=h z (aE ..);have e:∀p∈ns,c p*inR (z::zs) p=(c p*iZ z.b p z.x+c p*iZ z.a p z.y)+c p*inR zs p:=fun p _=>by
   unfold inR;rw[ai,List.sum_cons,cX,cX]
  rw[jN e,kG,kG,oZ c _ _ T L.2,oZ c _ _ T L.1,wQ c T fun z L=>h z (au _ L),ai,List.sum_cons]
structure Full(ns:List Int)(pr:Int->Int)(zs:List Tw)(fs ft:Int->Int)(SL SR:Int->Bool):Prop where
 nd:ns.Nodup
 ends:∀z∈zs,z.a∈ns/\z.b∈ns
 pos:∀z∈zs,0<=z.x/\0<=z.y
 left:∀p∈ns,fs p=k6 zs p
 right:∀p∈ns,ft p=inR zs p
 capL:∀p∈ns,0<=fs p/\fs p<=pr p
 capR:∀p∈ns,0<=ft p/\ft p<=pr p
 satL:∀p∈ns,SL p=false->fs p=pr p
 satR:∀p∈ns,SR p=true->ft p=pr p
 go:∀z∈zs,(SL z.a=true->SR z.b=true)/\(SL z.b=true->SR z.a=true)
 zero:∀z∈zs,(SR z.b=true->SL z.a=false->z.x=0)/\(SR z.a=true->SL z.b=false->z.y=0)
noncomputable def one(b:Bool):Int:=if b=true then 1 else 0
noncomputable def lC(SL SR:Int->Bool)(p:Int):Int:=(1-one (SL p))+one (SR p)
theorem zZ(b:Bool):0<=one b/\one b<=1:=by cases b<;>decide
section
variable{ns:List Int}{pr:Int->Int}{zs:List Tw}{fs ft:Int->Int}{SL SR:Int->Bool}
theorem Ll(p:Int):0<=lC SL SR p/\lC SL SR p<=2:=by
 unfold lC;have:=zZ (SL p);have:=zZ (SR p);lia
theorem Full.two(F:Full ns pr zs fs ft SL SR):∀z∈zs,2<=lC SL SR z.a+lC SL SR z.b:=fun z L=>by
 obtain⟨P,K⟩:=F.go z L;unfold lC one;cases h1:SL z.a<;>cases h2:SL z.b<;>cases D:SR z.a<;>cases T:SR z.b<;>simp_all
theorem Full.paid(F:Full ns pr zs fs ft SL SR){p:Int}(O:p∈ns):(zs.map fun z=>iZ z.a p (z.x+z.y)+iZ z.b p (z.x+z.y)).sum<=2*pr p:=by
 have e:(zs.map fun z=>iZ z.a p (z.x+z.y)+iZ z.b p (z.x+z.y)).sum=k6 zs p+inR zs p:=by
  unfold k6 inR;rw [<- kG];refine jN fun z _=>?_;unfold iZ;split<;>split<;>lia
 rw [e,<- F.left p O,<- F.right p O];have:=F.capL p O;have:=F.capR p O;lia
theorem Full.worth(F:Full ns pr zs fs ft SL SR):(zs.map fun z=>z.x+z.y).sum=(ns.map fun p=>pr p*lC SL SR p).sum:=by
 have h1:(zs.map fun z=>z.x+z.y).sum=(ns.map fs).sum:=by
  have:=uC (fun _=>1) F.nd (zs:=zs) F.ends;rw[jN (g:=fs) (fun p O=>by rw[Int.one_mul,F.left p O])]at this;rw[this];exact jN fun z _=>by rw[Int.one_mul,Int.one_mul]
 have h2:(ns.map fs).sum=(ns.map fun p=>(1-one (SL p))*pr p).sum+(ns.map fun p=>one (SL p)*k6 zs p).sum:=by
  rw [<- kG];refine jN fun p O=>?_;cases e:SL p with
  | true=>rw [<- F.left p O]; show fs p = (1 - 1) * pr p + 1 * fs p; lia
  |false=>rw[F.satL p O e];show pr p=(1-0)*pr p+0*k6 zs p;lia
 have D:(ns.map fun p=>one (SL p)*k6 zs p).sum=(ns.map fun p=>one (SR p)*inR zs p).sum:=by
  rw[uC _ F.nd F.ends,wQ _ F.nd F.ends];refine jN fun z L=>?_;obtain⟨P,K⟩:=F.go z L;obtain⟨J,f⟩:=F.zero z L;have e1:one (SL z.a)*z.x=one (SR z.b)*z.x:=by
   cases h1:SL z.a with
   |true=>rw[P h1]
   |false=>
    cases h2:SR z.b with
    |false=>rfl
    |true=>rw[J h2 h1];rfl
  have e2:one (SL z.b)*z.y=one (SR z.a)*z.y:=by
   cases h1:SL z.b with
   |true=>rw[K h1]
   |false=>
    cases h2:SR z.a with
    |false=>rfl
    |true=>rw[f h2 h1];rfl
  rw[e1,e2]
 have T:(ns.map fun p=>one (SR p)*inR zs p).sum=(ns.map fun p=>one (SR p)*pr p).sum:=jN fun p O=>by
  cases e:SR p with
  | true=>rw [<- F.right p O,F.satR p O e]
  |false=>show 0*_=0*_;lia
 rw [h1,h2,D,T,<- kG];refine jN fun p _=>?_;unfold lC;rw[cX,cx (pr p),cx (pr p)]
end
end Fl
namespace Fl
noncomputable def iY(w:Nat):Nat:=if w%2=0 then w+1 else w-1
theorem Cv(w:Nat):iY (iY w)=w:=by unfold iY;split<;>split<;>lia
theorem vI(w:Nat):iY w≠w:=by unfold iY;split<;>lia
theorem tM{w m:Nat}(h:w<2*m):iY w<2*m:=by unfold iY;split<;>lia
noncomputable def at'(l:List Int)(i:Nat):Int:=l.getD i 0
theorem yR(l:List Int)(i j:Nat)(v:Int):at' (l.set i v) j=if i=j/\j<l.length then v else at' l j:=by
 unfold at';rw[bf,bf,gO];by_cases h:i=j
 ·by_cases h2:j<l.length
  ·rw[aI h,aI (by lia),aI ⟨h,h2⟩];rfl
  ·rw[aI h,aG (by lia),aG (fun z=>h2 z.2),cf (by lia)]
 ·rw[aG h,aG (fun z=>h z.1)]
noncomputable def bump(r:List Int)(w:Nat)(a:Int):List Int:=(r.set w (at' r w-a)).set (iY w) (at' r (iY w)+a)
theorem xr(r:List Int)(w:Nat)(a:Int):(bump r w a).length=r.length:=by unfold bump;rw[cL,cL]
theorem wV{r:List Int}{w m:Nat}{a:Int}(Z:r.length=2*m)(V:w<2*m)(j:Nat):at' (bump r w a) j=at' r j-(if j=w then a else 0)+(if j=iY w then a else 0):=by
 unfold bump;rw[yR,yR];have K:=tM V;have S:=vI w;rw[cL,Z];by_cases h1:j=iY w
 ·subst h1;rw[aI ⟨rfl,K⟩,aG S,aI rfl];lia
 ·rw[aG (fun z=>h1 z.1.symm),aG h1];by_cases h2:j=w
  ·subst h2;rw[aI ⟨rfl,V⟩,aI rfl];lia
  ·rw[aG (fun z=>h2 z.1.symm),aG h2];lia
theorem yx{g g':Nat->Int}:∀{m k0:Nat},k0<m->(∀k,k≠k0->g' k=g k)->((List.range m).map g').sum=((List.range m).map g).sum+(g' k0-g k0)
 |0,_,h,_=>by lia
 | m+1,k0,h,R=>by
  rw[bX,af,af,cK,cK];show _+(g' m+0)=_+(g m+0)+_;by_cases c:k0=m
  ·subst c;have e:((List.range k0).map g').sum=((List.range k0).map g).sum:=jN fun k F=>R k (by have:=bL.mp F;lia);rw[e];lia
  ·rw[yx (m:=m) (k0:=k0) (by lia) R,R m (fun z=>c z.symm)];lia
noncomputable def ex(hs:List Int)(m:Nat)(r:List Int)(v:Int):Int:=((List.range m).map fun k=>iZ (at' hs (2*k)) v (at' r (2*k+1))-iZ (at' hs (2*k+1)) v (at' r (2*k+1))).sum
theorem BO(n v a b:Int):iZ n v (a+b)=iZ n v a+iZ n v b:=by unfold iZ;split<;>lia
theorem BP(n v a b:Int):iZ n v (a-b)=iZ n v a-iZ n v b:=by unfold iZ;split<;>lia
theorem F4{hs r:List Int}{m w:Nat}{a:Int}(Z:r.length=2*m)(V:w<2*m)(v:Int):ex hs m (bump r w a) v=ex hs m r v+iZ (at' hs w) v a-iZ (at' hs (iY w)) v a:=by
 unfold ex;have F:w/2<m:=by lia
 rw[yx (g:=fun k=>iZ (at' hs (2*k)) v (at' r (2*k+1))-iZ (at' hs (2*k+1)) v (at' r (2*k+1))) F (fun k d=>?_)]
 ·rw[wV Z V];by_cases c:w%2=0
  ·have e1:iY w=w+1:=by unfold iY;rw[aI c]
   have e2:2*(w/2)=w:=by lia
   rw[e2,e1,aG (by lia),aI rfl,Int.sub_zero,BO,BO];lia
  ·have e1:iY w=w-1:=by unfold iY;rw[aG c]
   have e2:2*(w/2)+1=w:=by lia
   have e3:2*(w/2)=w-1:=by lia
   rw[e2,e3,e1,aI rfl,aG (by lia),fV,BP,BP];lia
 ·rw[wV Z V,aG (by lia),aG (by unfold iY;split<;>lia),Int.sub_zero,fV]
noncomputable def push(r:List Int)(tr:List Nat)(a:Int):List Int:=tr.foldl (fun r w=>bump r w a) r
theorem tI:∀(tr:List Nat) (r:List Int) (a:Int),(push r tr a).length=r.length
 |[],_,_=>rfl
 |w::tr,r,a=>by
  show(push (bump r w a) tr a).length=_;rw[tI tr,xr]
noncomputable def tN(hs:List Int):Int->List Nat->Int->Prop
 |t,[],s=>t=s
 |t,w::a,s=>at' hs w=t/\tN hs (at' hs (iY w)) a s
theorem AG{hs:List Int}{m:Nat}{a:Int}{s:Int}(v:Int):∀{tr:List Nat} {r:List Int} {t:Int},r.length=2*m->(∀w∈tr,w<2*m)->tN hs t tr s->ex hs m (push r tr a) v=ex hs m r v+iZ t v a-iZ s v a
 |[],r,t,_,_,h=>by
  have h:t=s:=h;subst h;show ex hs m r v=_;lia
 |w::tr,r,t,Z,V,h=>by
  show ex hs m (push (bump r w a) tr a) v=_;obtain⟨h1,h2⟩:=h;rw[AG v (by rw[xr];exact Z) (fun x G=>V x (au _ G)) h2,F4 Z (V w (aE ..)),h1];lia
theorem Cy(a:Int)(n:Nat):a*((n+1:Nat):Int)=a*(n:Int)+a:=by rw[Int.natCast_add,cX];show _+a*1=_;rw[Int.mul_one]
theorem uy{m:Nat}{a:Int}(j:Nat):∀{tr:List Nat} {r:List Int},r.length=2*m->(∀w∈tr,w<2*m)->at' (push r tr a) j=at' r j-a*(tr.count j:Int)+a*(tr.count (iY j):Int)
 |[],r,_,_=>by
  show at' r j=at' r j-a*0+a*0;lia
 | w::tr,r,Z,V=>by
  show at' (push (bump r w a) tr a) j=_;have K:(j=iY w)↔(w=iY j):=⟨fun z=>by rw[z,Cv],fun z=>by rw[z,Cv]⟩;rw[uy j (by rw[xr];exact Z) (fun x G=>V x (au _ G)),wV Z (V w (aE ..)),List.count_cons,List.count_cons];by_cases c1:j=w
  ·by_cases c2:j=iY w
   ·exact absurd (c2.symm.trans c1) (vI w)
   ·rw[aI c1,aG c2,aI (by simp[c1]),aG (by simp;exact fun z=>c2 (K.mpr z)),Cy];simp only[Nat.add_zero];lia
  ·by_cases c2:j=iY w
   ·rw[aG c1,aI c2,aG (by simp;exact fun z=>c1 z.symm),aI (by simp;exact K.mp c2),Cy];simp only[Nat.add_zero];lia
   ·rw[aG c1,aG c2,aG (by simp;exact fun z=>c1 z.symm),aG (by simp;exact fun z=>c2 (K.mpr z))];simp only[Nat.add_zero];lia
end Fl
namespace Fl
abbrev Cb:=List (Int×Option Nat)
noncomputable def seen(cb:Cb)(v:Int):Bool:=decide (v∈cb.map (·.1))
noncomputable def j9(hs r:List Int):Cb->List Nat->Cb
 |cb,[]=>cb
 |cb,w::p=>j9 hs r (if 0<at' r w/\seen cb (at' hs w)=false then cb++[(at' hs w,some w)]else cb) p
noncomputable def jo(wf:Int->List Nat)(hs r:List Int)(s:Int):Nat->Cb
 |0=>[(s,none)]
 |k+1=>match(jo wf hs r s k)[k]? with
  |some p=>j9 hs r (jo wf hs r s k) (wf p.1)
  |none=>jo wf hs r s k
structure Cam(hs r:List Int)(m:Nat)(s:Int)(cb:Cb):Prop where
 nd:(cb.map (·.1)).Nodup
 first:cb[0]? =some (s,none)
 came:∀i v o,cb[i]? =some (v,o)->0<i->∃w,o=some w/\w<2*m/\0<at' r w/\at' hs w=v/\∃j u,j<i/\(cb[j]?.map (·.1))=some u/\at' hs (iY w)=u
section
variable{hs r:List Int}{m w j:Nat}{s u:Int}{wf:Int->List Nat}
theorem Cam.put{cb:Cb}(h:Cam hs r m s cb)(V:w<2*m)(O:0<at' r w)(S:seen cb (at' hs w)=false)(W:(cb[j]?.map (·.1))=some u)(F:at' hs (iY w)=u):Cam hs r m s (cb++[(at' hs w,some w)]):=by
 have g:0<cb.length:=by
  have:=h.first;cases cb with
  |nil=>cases this
  |cons _ _=>simp
 have d:j<cb.length:=by
  cases e:cb[j]? with
  |none=>rw[e]at W;cases W
  |some p=>exact(ax.mp e).1
 refine⟨?_,?_,?_⟩
 ·rw[af,eT];refine⟨h.nd,by simp,fun a J b U=>?_⟩;simp at U;subst U;intro z;subst z;unfold seen at S;rw[fM]at S;exact S J
 ·rw[bC g];exact h.first
 ·intro i v o hi A;by_cases c:i<cb.length
  ·rw[bC c]at hi;obtain⟨t,h1,h2,D,T,f,P,K,q,y⟩:=h.came i v o hi A;exact⟨t,h1,h2,D,T,f,P,K,by rw[bC (by lia)];exact q,y⟩
  ·rw[cV (by lia)]at hi;have:i-cb.length=0:=by
    cases e:i-cb.length with
    |zero=>rfl
    |succ n=>rw[e]at hi;simp at hi
   rw[this]at hi;simp at hi;obtain⟨rfl,rfl⟩:=hi;exact⟨w,rfl,V,O,rfl,j,u,by lia,by rw[bC d];exact W,F⟩
theorem ym:∀{l:List Nat} {cb:Cb} {j:Nat} {u:Int},Cam hs r m s cb->(cb[j]?.map (·.1))=some u->(∀w∈l,w<2*m/\at' hs (iY w)=u)->Cam hs r m s (j9 hs r cb l)
 |[],_,_,_,h,_,_=>h
 | w::l,cb,j,u,h,W,V=>by
  unfold j9;have h1:=V w (aE ..);have d:j<cb.length:=by
   cases e:cb[j]? with
   |none=>rw[e]at W;cases W
   |some p=>exact(ax.mp e).1
  split
  ·rename_i c;exact ym (j:=j) (u:=u) (h.put h1.1 c.1 c.2 W h1.2) (by rw[bC d];exact W) fun x G=>V x (au _ G)
  ·exact ym h W fun x G=>V x (au _ G)
theorem ql:∀(p:List Nat) (cb:Cb),∃l,j9 hs r cb p=cb++l
 |[],cb=>⟨[],(aS _).symm⟩
 | w::p,cb=>by
  unfold j9;split
  ·obtain⟨l,e⟩:=ql p (cb++[(at' hs w,some w)]);exact⟨(at' hs w,some w)::l,by rw[e,bp];rfl⟩
  ·exact ql p cb
theorem CO:∀{p:List Nat} {cb:Cb} {w:Nat},w∈p->0<at' r w->at' hs w∈(j9 hs r cb p).map (·.1)
 | x::p,cb,w,h,O=>by
  unfold j9;rcases aV.mp h with rfl|h
  ·by_cases c:seen cb (at' hs w)=false
   ·rw[aI ⟨O,c⟩];obtain⟨l,e⟩:=ql (hs:=hs) (r:=r) p (cb++[(at' hs w,some w)]);rw[e];simp
   ·rw[aG (fun z=>c z.2)];obtain⟨l,e⟩:=ql (hs:=hs) (r:=r) p cb;rw[e,af,br];left;unfold seen at c;simpa using c
  ·exact CO h O
theorem nH(f:∀u,∀w∈wf u,w<2*m/\at' hs (iY w)=u):∀k,Cam hs r m s (jo wf hs r s k)
 | 0=>⟨by simp[jo],rfl,fun i v o h A=>by
   cases i with
   |zero=>lia
   |succ i=>simp[jo]at h⟩
 | k+1=>by
  unfold jo;have E:=nH f k;split
  ·rename_i p e;exact ym E (j:=k) (u:=p.1) (by rw[e];rfl) (f p.1)
  ·exact E
theorem zi(k:Nat):∃l,jo wf hs r s (k+1)=jo wf hs r s k++l:=by
 rw[jo];split
 ·exact ql _ _
 ·exact⟨[],(aS _).symm⟩
theorem vC{k:Nat}(h:(jo wf hs r s k).length<=k):∀j,jo wf hs r s (k+j)=jo wf hs r s k
 |0=>rfl
 |j+1=>by
  have E:=vC h j;show jo wf hs r s (k+j+1)=_;rw[jo,E,cf (by lia)]
theorem B6:∀{k:Nat} {i:Nat} {p:Int×Option Nat} {w:Nat},i<k->(jo wf hs r s k)[i]? =some p->w∈wf p.1->0<at' r w->at' hs w∈(jo wf hs r s k).map (·.1)
 | k+1,i,p,w,hi,O,V,A=>by
  obtain⟨l,e⟩:=zi (wf:=wf) (hs:=hs) (r:=r) (s:=s) k;by_cases c:i<(jo wf hs r s k).length
  ·rw[e,bC c]at O;by_cases c2:i=k
   ·subst c2;rw[jo,O];exact CO V A
   ·rw[e,af,br];left;exact B6 (by lia) O V A
  ·by_cases c3:(jo wf hs r s k).length<=k
   ·have:=vC c3 1;rw[this,cf (by lia)]at O;cases O
   ·lia
end
end Fl
namespace Fl
noncomputable def lk(cb:Cb)(v:Int):Option Nat:=(cb.find? fun p=>decide (p.1=v)).bind (·.2)
theorem vV{cb:Cb}(T:(cb.map (·.1)).Nodup){i:Nat}{v:Int}{o:Option Nat}(h:cb[i]? =some (v,o)):lk cb v=o:=by
 unfold lk
 induction cb generalizing i with
 |nil=>cases h
 | cons p cb E=>
  rw[ai]at T;have f:=bV.mp T;rw[List.find?_cons];cases i with
  |zero=>
   simp at h;subst h;simp
  |succ i=>
   simp at h;have K:v∈cb.map (·.1):=av.mpr ⟨(v,o),aC h,rfl⟩;have d:p.1≠v:=fun z=>f.1 (z▸K);rw[aA d];exact E f.2 h
theorem Gf{cb:Cb}{v:Int}(h:v∉cb.map (·.1)):lk cb v=none:=by
 unfold lk;rw[List.find?_eq_none.mpr fun p O=>by
  rw[bM];exact fun z=>h (av.mpr ⟨p,O,z⟩)]
 rfl
noncomputable def jS(hs:List Int)(cb:Cb):Nat->Int->List Nat
 |0,_=>[]
 |f+1,v=>match lk cb v with
  |some w=>w::jS hs cb f (at' hs (iY w))
  |none=>[]
noncomputable def key(cb:Cb)(i:Nat):Option Int:=cb[i]?.map (·.1)
theorem Gd{cb:Cb}(T:(cb.map (·.1)).Nodup){i j:Nat}{v:Int}(h1:key cb i=some v)(h2:key cb j=some v):i=j:=by
 unfold key at h1 h2;rw [<- aU] at h1 h2;obtain⟨a,b⟩:=ax.mp h1;obtain⟨c,d⟩:=ax.mp h2;exact(fQ T).mp (b.trans d.symm)
structure Good(hs r:List Int)(m:Nat)(cb:Cb)(i:Nat)(tr:List Nat):Prop where
 up:∀w∈tr,w<2*m/\0<at' r w/\∃k j,j<k/\k<=i/\key cb k=some (at' hs w)/\key cb j=some (at' hs (iY w))
 nd:tr.Nodup
section
variable{hs r:List Int}{m:Nat}{s a:Int}{cb:Cb}
theorem C8(C:Cam hs r m s cb):∀(i:Nat) (v:Int) (o:Option Nat),cb[i]? =some (v,o)->∀f,i<=f->tN hs v (jS hs cb f v) s/\Good hs r m cb i (jS hs cb f v)/\(0<i->jS hs cb f v≠[]):=by
 intro i
 induction i using Nat.strongRecOn with
 | ind i E=>
  intro v o h f B;by_cases A:i=0
  ·subst A;have e:=C.first;rw[h]at e;have M:o=none:=cA Prod.snd (aJ e);have Y:v=s:=cA Prod.fst (aJ e);have Z:=vV C.nd h;rw[M]at Z;have S:jS hs cb f v=[]:=by
    cases f with
    |zero=>rfl
    |succ f=>unfold jS;rw[Z]
   rw[S];exact⟨Y,⟨(fun w V=>by cases V),.nil⟩,fun z=>by lia⟩
  ·obtain⟨w,rfl,h2,D,T,j,u,d,q,y⟩:=C.came i v o h (by lia);have Z:=vV C.nd h;obtain⟨g,rfl⟩:∃g,f=g+1:=⟨f-1,by lia⟩;have S:jS hs cb (g+1) v=w::jS hs cb g u:=by
    rw[jS,Z];dsimp only;rw[y]
   obtain⟨p,O⟩:∃p,cb[j]? =some p:=by
    cases e:cb[j]? with
    |none=>rw[e]at q;cases q
    |some p=>exact⟨p,rfl⟩
   have F:p.1=u:=by rw[O]at q;exact aJ q
   obtain⟨p1,p2⟩:=p;dsimp only at F;subst F;obtain⟨c,t,_⟩:=E j d p1 p2 O g (by lia);rw[S];have L:key cb i=some v:=by unfold key;rw[h];rfl
   refine⟨⟨T,by rw[y];exact c⟩,⟨fun x G=>?_,?_⟩,fun _=>by simp⟩
   ·rcases aV.mp G with rfl|G
    ·exact⟨h2,D,i,j,d,ay _,by rw[T];exact L,by rw[y];exact q⟩
    ·obtain⟨a,b,k,l,c1,c2,c3,c4⟩:=t.up x G;exact⟨a,b,k,l,c1,by lia,c3,c4⟩
   ·refine bV.mpr ⟨fun K=>?_,t.nd⟩;obtain⟨a,b,k,l,c1,c2,c3,c4⟩:=t.up w K;rw[T]at c3;have:=Gd C.nd L c3;lia
structure Rooms(m:Nat)(cap:Nat->Int)(r:List Int):Prop where
 len:r.length=2*m
 pos:∀j,0<=at' r j
 two:∀k,k<m->at' r (2*k)+at' r (2*k+1)=cap k
theorem Ik{l:List Nat}(T:l.Nodup)(j:Nat):l.count j=if j∈l then 1 else 0:=by
 by_cases h:j∈l
 ·rw[aI h];have h1:=List.nodup_iff_count.mp T j;have h2:=List.count_pos_iff.mpr h;lia
 ·rw[aG h];exact List.count_eq_zero.mpr h
theorem Rooms.push{cap:Nat->Int}(R:Rooms m cap r){tr:List Nat}(T:tr.Nodup)(V:∀w∈tr,w<2*m)(J:0<=a)(K:∀w∈tr,a<=at' r w):Rooms m cap (push r tr a):=by
 refine⟨by rw[tI];exact R.len,fun j=>?_,fun k F=>?_⟩
 ·rw[uy j R.len V,Ik T j];have A:0<=a*(tr.count (iY j):Int):=gq J (gH _);by_cases h:j∈tr
  ·rw[aI h];have:=K j h;show 0<=at' r j-a*1+_;lia
  ·rw[aG h];have:=R.pos j;show 0<=at' r j-a*0+_;lia
 ·rw[uy _ R.len V,uy _ R.len V];have e1:iY (2*k)=2*k+1:=by unfold iY;rw[aI (by lia)]
  have e2:iY (2*k+1)=2*k:=by unfold iY;rw[aG (by lia)];lia
  rw[e1,e2];have:=R.two k F;lia
end
end Fl
namespace Fl
structure Net(wf:Int->List Nat)(hs:List Int)(m n:Nat):Prop where
 len:hs.length=2*m
 from':∀u,∀w∈wf u,w<2*m/\at' hs (iY w)=u
 knot:∀w,w<2*m->0<=at' hs w/\at' hs w<n
 all:∀w,w<2*m->w∈wf (at' hs (iY w))
noncomputable def lT(r:List Int):List Nat->Int
 |[]=>0
 |[w]=>at' r w
 |w::x::a=>if lT r (x::a)<at' r w then lT r (x::a)else at' r w
theorem vH(r:List Int):∀{tr:List Nat} {w:Nat},w∈tr->lT r tr<=at' r w
 |[],_,h=>by cases h
 |[x],w,h=>by rw[aK.mp h];exact cg _
 | y::x::tr,w,h=>by
  unfold lT;rcases aV.mp h with rfl|h
  ·split<;>lia
  ·have:=vH r h;split<;>lia
theorem BJ(r:List Int):∀{tr:List Nat},tr≠[]->(∀w∈tr,0<at' r w)->0<lT r tr
 |[],h,_=>absurd rfl h
 |[x],_,h=>h x (aK.mpr rfl)
 |y::x::tr,_,h=>by
  unfold lT;have h1:=h y (aE ..);have h2:=BJ r (tr:=x::tr) (by simp) fun w V=>h w (au _ V);split<;>lia
section
variable(wf:Int->List Nat)(hs:List Int)(n:Nat)(s t:Int)
noncomputable def jR(r:List Int):Cb:=jo wf hs r s n
noncomputable def kY(r:List Int):List Nat:=jS hs (jR wf hs n s r) n t
noncomputable def ma(r:List Int):Option (List Int):=if kY wf hs n s t r=[]then none else some (push r (kY wf hs n s t r) (lT r (kY wf hs n s t r)))
inductive Runs:List Int->List Int->Prop
 |done (r:List Int):Runs r r
 |step {r r1 r':List Int}:ma wf hs n s t r=some r1->Runs r1 r'->Runs r r'
end
section
variable{wf:Int->List Nat}{hs:List Int}{n:Nat}{s t:Int}
theorem Runs.snoc{r r' P:List Int}(h:Runs wf hs n s t r r')(e:ma wf hs n s t r'=some P):Runs wf hs n s t r P:=by
 induction h with
 |done r=>exact .step e (.done _)
 |step a _ E=>exact .step a (E e)
variable{m:Nat}{r:List Int}
theorem zB(N:Net wf hs m n)(l:0<=s/\s<n)(k:Nat):∀v:Int,v∈(jo wf hs r s k).map (·.1)->0<=v/\v<(n:Int):=fun v Y=>by
 obtain⟨p,O,rfl⟩:=av.mp Y;obtain⟨i,hi,e⟩:=bx.mp O;have C:=nH (r:=r) (s:=s) N.from' k;have R:(jo wf hs r s k)[i]? =some p:=by rw[gE hi,e]
 cases i with
 |zero=>
  have:=C.first;rw[R]at this;cases this;exact l
 |succ i=>
  obtain⟨w,_,h2,_,T,_⟩:=C.came (i+1) p.1 p.2 R (by lia);rw [<- T];exact N.knot w h2
theorem FM{l:List Int}(T:l.Nodup):∀{n:Nat},(∀v:Int,v∈l->0<=v/\v<(n:Int))->l.length<=n:=fun{n} h=>by
 have h1:(l.map Int.toNat).Nodup:=by
  unfold List.Nodup at T ⊢;rw[dw];exact T.imp_of_mem fun{a b} J U z e=>z (by have:=h a J;have:=h b U;lia)
 have h2:∀x∈l.map Int.toNat,x∈List.range n:=fun x G=>by
  obtain⟨v,Y,rfl⟩:=av.mp G;have:=h v Y;exact bL.mpr (by lia)
 have D:(l.map Int.toNat).length<=(List.range n).length:=by
  have key:∀(a b:List Nat),a.Nodup->(∀x∈a,x∈b)->a.length<=b.length:=by
   intro a
   induction a with
   |nil=>intro b _ _;exact bS _
   |cons x a E=>
    intro b T U;have f:=bV.mp T;have G:=U x (aE ..);have j:=E (b.erase x) f.2 fun y O=>(List.mem_erase_of_ne (fun z:y = x=>f.1 (by rw [<- z]; exact O))).mpr (U y (au _ O));rw[List.length_erase_of_mem G]at j;have:=List.length_pos_of_mem G;rw[List.length_cons];lia
  exact key _ _ h1 h2
 rw[aa,cB]at D;exact D
theorem oU(N:Net wf hs m n)(l:0<=s/\s<n)(k:Nat):(jo wf hs r s k).length<=n:=by
 have:=FM (nH (r:=r) (s:=s) N.from' k).nd (zB N l k);rw[aa]at this;exact this
theorem Cn(N:Net wf hs m n)(l:0<=s/\s<n){w:Nat}(V:w<2*m)(A:0<at' r w)(B:at' hs (iY w)∈(jR wf hs n s r).map (·.1)):at' hs w∈(jR wf hs n s r).map (·.1):=by
 obtain⟨p,O,e⟩:=av.mp B;obtain⟨i,hi,e2⟩:=bx.mp O;have:=oU (r:=r) N l n;unfold jR at hi;exact B6 (k:=n) (i:=i) (p:=p) (by lia) (by rw[gE hi];exact cA some e2) (by rw[e];exact N.all w V) A
theorem Eo(N:Net wf hs m n):s∈(jR wf hs n s r).map (·.1):=by
 have:=(nH (r:=r) (s:=s) N.from' n).first;exact av.mpr ⟨_,aC this,rfl⟩
theorem yW(N:Net wf hs m n)(J:s≠t)(l:0<=s/\s<n)(h:ma wf hs n s t r=none):t∉(jR wf hs n s r).map (·.1):=fun B=>by
 obtain⟨p,O,e⟩:=av.mp B;obtain⟨i,hi,e2⟩:=bx.mp O;have C:=nH (r:=r) (s:=s) N.from' n;have R:(jo wf hs r s n)[i]? =some (t,p.2):=by
  unfold jR at hi e2;rw [gE hi,e2,<- e]
 have S:kY wf hs n s t r=[]:=by
  unfold ma at h;split at h
  ·assumption
  ·cases h
 have Z:=oU (r:=r) N l n;unfold jR at hi;have G:=C8 C i t p.2 R n (by lia);by_cases A:i=0
 ·subst A;have:=C.first;rw[R]at this;have:=cA Prod.fst (aJ this);exact J this.symm
 ·exact G.2.2 (by lia) S
end
end Fl
namespace Fl
section
variable{wf:Int->List Nat}{hs r1 r':List Int}{m n k:Nat}{s t:Int}{r:List Int}{cap:Nat->Int}
theorem yV(N:Net wf hs m n)(J:s≠t)(l:0<=s/\s<(n:Int))(h:kY wf hs n s t r≠[]):tN hs t (kY wf hs n s t r) s/\∃i,Good hs r m (jR wf hs n s r) i (kY wf hs n s t r):=by
 have C:=nH (r:=r) (s:=s) N.from' n;by_cases S:t∈(jR wf hs n s r).map (·.1)
 ·obtain⟨p,O,e⟩:=av.mp S;obtain⟨i,hi,e2⟩:=bx.mp O;have R:(jo wf hs r s n)[i]? =some (t,p.2):=by
   unfold jR at hi e2;rw [gE hi,e2,<- e]
  have Z:=oU (r:=r) N l n;unfold jR at hi;have G:=C8 C i t p.2 R n (by lia);exact⟨G.1,i,G.2.1⟩
 ·refine absurd ?_ h;unfold kY;cases n with
  |zero=>rfl
  |succ k=>rw[jS,Gf S]
theorem zh(N:Net wf hs m n)(J:s≠t)(l:0<=s/\s<(n:Int))(R:Rooms m cap r)(h:ma wf hs n s t r=some r1):Rooms m cap r1/\(∀v,v≠s->v≠t->ex hs m r1 v=ex hs m r v)/\ex hs m r t+1<=ex hs m r1 t:=by
 unfold ma at h;split at h
 ·cases h
 ·rename_i d;cases h;obtain⟨T,i,G⟩:=yV N J l d;have V:∀w∈kY wf hs n s t r,w<2*m:=fun w V=>(G.up w V).1;have O:=BJ r d fun w V=>(G.up w V).2.1;have E:=fun v=>AG (a:=lT r (kY wf hs n s t r)) v R.len V T;refine⟨R.push G.nd V (by lia) fun w V=>vH r V,fun v h1 h2=>?_,?_⟩
  ·rw[E v,lp (fun z=>h2 z.symm),lp (fun z=>h1 z.symm)];lia
  ·rw[E t,sr,lp J];lia
noncomputable def yP(cap:Nat->Int)(m:Nat):Int:=((List.range m).map cap).sum
theorem sum_le{α:Type}{f g:α->Int}:∀{l:List α},(∀p∈l,f p<=g p)->(l.map f).sum<=(l.map g).sum
 |[],_=>cg _
 |a::l,h=>by
  rw[ai,ai,List.sum_cons,List.sum_cons];have:=h a (aE ..);have:=sum_le fun p O=>h p (au _ O);lia
theorem Lz(R:Rooms m cap r)(v:Int):ex hs m r v<=yP cap m:=by
 unfold ex yP;refine sum_le fun k F=>?_;have h1:=R.pos (2*k+1);have h2:=R.pos (2*k);have D:=R.two k (bL.mp F);unfold iZ;split<;>split<;>lia
theorem Es(N:Net wf hs m n)(J:s≠t)(l:0<=s/\s<(n:Int))(h:Runs wf hs n s t r r'):Rooms m cap r->Rooms m cap r'/\∀v,v≠s->v≠t->ex hs m r' v=ex hs m r v:=by
 induction h with
 |done r=>exact fun R=>⟨R,fun _ _ _=>rfl⟩
 |step e _ E=>
  intro R;obtain⟨b,o,_⟩:=zh N J l R e;obtain⟨R2,a⟩:=E b;exact⟨R2,fun v h1 h2=>(a v h1 h2).trans (o v h1 h2)⟩
theorem qX(N:Net wf hs m n)(l:0<=s/\s<(n:Int))(R:Rooms m cap r)(F:k<m):
  (at' hs (2*k+1)∈(jR wf hs n s r).map (·.1)->at' hs (2*k)∉(jR wf hs n s r).map (·.1)->at' r (2*k+1)=cap k)/\
  (at' hs (2*k)∈(jR wf hs n s r).map (·.1)->at' hs (2*k+1)∉(jR wf hs n s r).map (·.1)->at' r (2*k+1)=0):=by
 have e1:iY (2*k)=2*k+1:=by unfold iY;rw[aI (by lia)]
 have e2:iY (2*k+1)=2*k:=by unfold iY;rw[aG (by lia)];lia
 have h1:=R.pos (2*k+1);have h2:=R.pos (2*k);have D:=R.two k F;refine⟨fun a b=>?_,fun a b=>?_⟩
 ·have:¬0<at' r (2*k):=fun z=>b (Cn N l (by lia) z (by rw[e1];exact a));lia
 ·have:¬0<at' r (2*k+1):=fun z=>b (Cn N l (by lia) z (by rw[e2];exact a));lia
end
end Fl
namespace Fl
theorem sJ(g:Nat->Int)(a:Nat):∀b,((List.range (a+b)).map g).sum=((List.range a).map g).sum+((List.range b).map fun k=>g (a+k)).sum
 |0=>by show _=_+0;rw[fV];rfl
 |b+1=>by
  rw [<- Nat.add_assoc,bX,af,cK,sJ g a b,bX,af,cK];show _+(g (a+b)+0)=_+(_+(g (a+b)+0));lia
theorem yw(g:Nat->Int):∀b,((List.range (2*b)).map g).sum=((List.range b).map fun k=>g (2*k)+g (2*k+1)).sum
 |0=>rfl
 |b+1=>by
  rw[show 2*(b+1)=2*b+1+1 by lia,bX,af,cK,bX,af,cK,yw g b,bX,af,cK];show _+(g (2*b)+0)+(g (2*b+1)+0)=_+(g (2*b)+g (2*b+1)+0);lia
theorem DB(g:Nat->Int){n i:Nat}(hi:i<n)(h:∀k,k<n->k≠i->g k=0):((List.range n).map g).sum=g i:=by
 have h1:((List.range n).map g).sum=((List.range n).map fun k=>if k=i then g i else 0).sum:=jN fun k F=>by
  by_cases c:k=i
  ·rw[aI c,c]
  ·rw[aG c];exact h k (bL.mp F) c
 have h2:=yx (g:=fun _=>0) (g':=fun k=>if k=i then g i else 0) hi fun k F=>aG F;rw[h1,h2,l9,aI rfl];lia
structure Dbl(ns:List Int)(ts:LY)(sp:Int->Int)(hs:List Int):Prop where
 nd:ns.Nodup
 spot:∀(i:Nat) (p:Int),ns[i]? =some p->sp p=2+(i:Int)
 ends:∀t∈ts,t.1∈ns/\t.2∈ns
 src:∀i:Nat,i<ns.length->at' hs (2*i)=2+(i:Int)/\at' hs (2*i+1)=0
 snk:∀i:Nat,i<ns.length->at' hs (2*(ns.length+i))=1/\at' hs (2*(ns.length+i)+1)=2+(ns.length:Int)+i
 tie:∀(j:Nat) (t:Int×Int),ts[j]? =some t->(at' hs (2*(ns.length+ns.length+2*j))=sp t.2+ns.length/\at' hs (2*(ns.length+ns.length+2*j)+1)=sp t.1)/\(at' hs (2*(ns.length+ns.length+(2*j+1)))=sp t.1+ns.length/\at' hs (2*(ns.length+ns.length+(2*j+1))+1)=sp t.2)
section
variable{ns:List Int}{ts l:LY}{sp:Int->Int}{hs r:List Int}{i j:Nat}{p q:Int}
noncomputable def twAt(ns:List Int)(r:List Int)(ts:LY)(j:Nat):Tw:=⟨(ts.getD j (0,0)).1,(ts.getD j (0,0)).2,at' r (2*(ns.length+ns.length+2*j)+1),at' r (2*(ns.length+ns.length+(2*j+1))+1)⟩
noncomputable def twS(ns:List Int)(r:List Int)(ts:LY):List Tw:=(List.range ts.length).map (twAt ns r ts)
theorem getD_at(h:j<l.length):l[j]? =some (l.getD j (0,0)):=by
 rw[bf,gE h];rfl
theorem Dbl.spI(D:Dbl ns ts sp hs)(O:ns[i]? =some p)(W:q∈ns):sp q=2+(i:Int)↔q=p:=by
 obtain⟨k,F,e⟩:=bx.mp W;have a:ns[k]? =some q:=by rw[gE F,e]
 constructor
 ·intro h;rw[D.spot k q a]at h;have:k=i:=by lia
  subst this;rw[O]at a;exact(aJ a).symm
 ·rintro rfl;exact D.spot i q O
theorem Dbl.spB(D:Dbl ns ts sp hs)(W:q∈ns):2<=sp q/\sp q<2+(ns.length:Int):=by
 obtain⟨k,F,e⟩:=bx.mp W;rw[D.spot k q (by rw[gE F,e])];lia
theorem uM{a b c d v:Int}(h:a=b↔c=d):iZ a b v=iZ c d v:=by
 unfold iZ;by_cases x:a=b
 ·rw[aI x,aI (h.mp x)]
 ·rw[aG x,aG fun z=>x (h.mpr z)]
theorem Dbl.left(D:Dbl ns ts sp hs)(O:ns[i]? =some p):ex hs (ns.length+ns.length+2*ts.length) r (2+(i:Int))=at' r (2*i+1)-k6 (twS ns r ts) p:=by
 have hi:=(ax.mp O).1;unfold ex;rw[sJ,sJ,yw];have h1:((List.range ns.length).map fun k=>iZ (at' hs (2*k)) (2+(i:Int)) (at' r (2*k+1))-iZ (at' hs (2*k+1)) (2+(i:Int)) (at' r (2*k+1))).sum=at' r (2*i+1):=by
  rw[DB _ hi fun k F d=>?_]
  ·rw[(D.src i hi).1,(D.src i hi).2,sr,lp (by lia)];lia
  ·rw[(D.src k F).1,(D.src k F).2,lp (by lia),lp (by lia)];rfl
 have h2:((List.range ns.length).map fun k=>iZ (at' hs (2*(ns.length+k))) (2+(i:Int)) (at' r (2*(ns.length+k)+1))-iZ (at' hs (2*(ns.length+k)+1)) (2+(i:Int)) (at' r (2*(ns.length+k)+1))).sum=0:=by
  rw [<- l9 (List.range ns.length)];refine jN fun k F=>?_;have F:=bL.mp F;rw[(D.snk k F).1,(D.snk k F).2,lp (by lia),lp (by lia)];rfl
 rw[h1,h2];have b:k6 (twS ns r ts) p=((List.range ts.length).map fun j=>iZ (twAt ns r ts j).a p (twAt ns r ts j).x+iZ (twAt ns r ts j).b p (twAt ns r ts j).y).sum:=by
  unfold k6 twS;rw[bP];rfl
 have T:∀(l:List Nat) (f g:Nat->Int),(∀j∈l,f j= -g j)->(l.map f).sum= -(l.map g).sum:=fun l f g h=>by
  induction l with
  |nil=>rfl
  |cons a l E=>
   rw[ai,ai,List.sum_cons,List.sum_cons,h a (aE ..),E fun j W=>h j (au _ W)];lia
 rw[b,T _ _ (fun j=>iZ (twAt ns r ts j).a p (twAt ns r ts j).x+iZ (twAt ns r ts j).b p (twAt ns r ts j).y) fun j W=>?_]
 ·lia
 ·have W:=bL.mp W;have y:=getD_at W;have K:=aC y;have R:=D.ends _ K;obtain⟨⟨u,x⟩,b1,b2⟩:=D.tie j _ y;have l1:=D.spB R.1;have l2:=D.spB R.2;have v:sp (ts.getD j (0,0)).2+ns.length≠2+(i:Int):=by lia
  have V:sp (ts.getD j (0,0)).1+ns.length≠2+(i:Int):=by lia
  rw[u,x,b1,b2,lp v,lp V,uM (D.spI O R.1),uM (D.spI O R.2)];unfold twAt;dsimp only;lia
theorem Dbl.right(D:Dbl ns ts sp hs)(O:ns[i]? =some p):ex hs (ns.length+ns.length+2*ts.length) r (2+(ns.length:Int)+i)=inR (twS ns r ts) p-at' r (2*(ns.length+i)+1):=by
 have hi:=(ax.mp O).1;unfold ex;rw[sJ,sJ,yw];have h1:((List.range ns.length).map fun k=>iZ (at' hs (2*k)) (2+(ns.length:Int)+i) (at' r (2*k+1))-iZ (at' hs (2*k+1)) (2+(ns.length:Int)+i) (at' r (2*k+1))).sum=0:=by
  rw [<- l9 (List.range ns.length)];refine jN fun k F=>?_;have F:=bL.mp F;rw[(D.src k F).1,(D.src k F).2,lp (by lia),lp (by lia)];rfl
 have h2:((List.range ns.length).map fun k=>iZ (at' hs (2*(ns.length+k))) (2+(ns.length:Int)+i) (at' r (2*(ns.length+k)+1))-iZ (at' hs (2*(ns.length+k)+1)) (2+(ns.length:Int)+i) (at' r (2*(ns.length+k)+1))).sum= -at' r (2*(ns.length+i)+1):=by
  rw[DB _ hi fun k F d=>?_]
  ·rw[(D.snk i hi).1,(D.snk i hi).2,sr,lp (by lia)];lia
  ·rw[(D.snk k F).1,(D.snk k F).2,lp (by lia),lp (by lia)];rfl
 rw[h1,h2];have b:inR (twS ns r ts) p=((List.range ts.length).map fun j=>iZ (twAt ns r ts j).b p (twAt ns r ts j).x+iZ (twAt ns r ts j).a p (twAt ns r ts j).y).sum:=by
  unfold inR twS;rw[bP];rfl
 rw[b,jN (g:=fun j=>iZ (twAt ns r ts j).b p (twAt ns r ts j).x+iZ (twAt ns r ts j).a p (twAt ns r ts j).y) fun j W=>?_]
 ·lia
 ·have W:=bL.mp W;have y:=getD_at W;have K:=aC y;have R:=D.ends _ K;obtain⟨⟨u,x⟩,b1,b2⟩:=D.tie j _ y;have l1:=D.spB R.1;have l2:=D.spB R.2;have m:sp (ts.getD j (0,0)).1+ns.length=2+(ns.length:Int)+i↔(ts.getD j (0,0)).1=p:=⟨fun z=>(D.spI O R.1).mp (by lia),fun z=>by have:=(D.spI O R.1).mpr z;lia⟩;have N:sp (ts.getD j (0,0)).2+ns.length=2+(ns.length:Int)+i↔(ts.getD j (0,0)).2=p:=⟨fun z=>(D.spI O R.2).mp (by lia),fun z=>by have:=(D.spI O R.2).mpr z;lia⟩;have v:sp (ts.getD j (0,0)).1≠2+(ns.length:Int)+i:=by lia
  have V:sp (ts.getD j (0,0)).2≠2+(ns.length:Int)+i:=by lia
  rw[u,x,b1,b2,uM m,uM N,lp v,lp V];unfold twAt;dsimp only;lia
end
end Fl
namespace Fl
section
variable{ns:List Int}{ts:LY}{sp:Int->Int}{hs r:List Int}{wf:Int->List Nat}{pr:Int->Int}{cap:Nat->Int}
noncomputable def kO(ns:List Int):Nat:=2+(ns.length+ns.length)
noncomputable def arcs(ns:List Int)(ts:LY):Nat:=ns.length+ns.length+2*ts.length
noncomputable def mN(sp:Int->Int)(r:List Int)(p:Int):Int:=at' r (2*(sp p-2).toNat+1)
noncomputable def om(ns:List Int)(sp:Int->Int)(r:List Int)(p:Int):Int:=at' r (2*(ns.length+(sp p-2).toNat)+1)
noncomputable def mY(wf:Int->List Nat)(hs:List Int)(n:Nat)(r:List Int)(v:Int):Bool:=decide (v∈(jR wf hs n 0 r).map (·.1))
structure Caps(ns:List Int)(ts:LY)(pr:Int->Int)(cap:Nat->Int):Prop where
 src:∀(i:Nat) (p:Int),ns[i]? =some p->cap i=pr p
 snk:∀(i:Nat) (p:Int),ns[i]? =some p->cap (ns.length+i)=pr p
 tie:∀j,j<2*ts.length->∀p∈ns,pr p<cap (ns.length+ns.length+j)
theorem nN{α:Type}{f:α->Int}:∀{l:List α},(∀p∈l,0<=f p)->∀p∈l,f p<=(l.map f).sum
 |[],_,p,h=>by cases h
 | a::l,A,p,h=>by
  rw[ai,List.sum_cons];have J:=A a (aE ..);have Z:0<=(l.map f).sum:=by
   have:=sum_le (f:=fun _=>0) (g:=f) (l:=l) fun q W=>A q (au _ W);rw[l9]at this;exact this
  rcases aV.mp h with rfl|h
  ·lia
  ·have:=nN (fun q W=>A q (au _ W)) p h;lia
theorem ux{n m v:Int}(h:0<=v):0<=iZ n m v:=by unfold iZ;split<;>lia
theorem Lq(D:Dbl ns ts sp hs)(N:Net wf hs (arcs ns ts) (kO ns))(C:Caps ns ts pr cap)(R:Rooms (arcs ns ts) cap r)(B:∀v,v≠0->v≠1->ex hs (arcs ns ts) r v=0)(M:ma wf hs (kO ns) 0 1 r=none):
  Full ns pr (twS ns r ts) (mN sp r) (om ns sp r) (fun p=>mY wf hs (kO ns) r (sp p)) (fun p=>mY wf hs (kO ns) r (sp p+ns.length)):=by
 have l:(0:Int)<=0/\(0:Int)<(kO ns:Nat):=⟨cg _,by unfold kO;lia⟩;have A:(0:Int)∈(jR wf hs (kO ns) 0 r).map (·.1):=Eo N;have h1:(1:Int)∉(jR wf hs (kO ns) 0 r).map (·.1):=yW N (by decide) l M;have c:∀p∈ns,∃i:Nat,ns[i]? =some p/\i<ns.length/\(sp p-2).toNat=i/\sp p=2+(i:Int):=fun p O=>by
  obtain⟨k,F,e⟩:=bx.mp O;have a:ns[k]? =some p:=by rw[gE F,e]
  have:=D.spot k p a;exact⟨k,a,F,by lia,this⟩
 have tw:∀z∈twS ns r ts,∃j,j<ts.length/\z=twAt ns r ts j:=fun z L=>by
  unfold twS at L;obtain⟨j,W,e⟩:=av.mp L;exact⟨j,bL.mp W,e.symm⟩
 have s:∀z∈twS ns r ts,z.a∈ns/\z.b∈ns:=fun z L=>by
  obtain⟨j,W,rfl⟩:=tw z L;exact D.ends _ (aC (getD_at W))
 have pos:∀z∈twS ns r ts,0<=z.x/\0<=z.y:=fun z L=>by
  obtain⟨j,W,rfl⟩:=tw z L;exact⟨R.pos _,R.pos _⟩
 have left:∀p∈ns,mN sp r p=k6 (twS ns r ts) p:=fun p O=>by
  obtain⟨i,hi,Z,e,es⟩:=c p O;have:=D.left (r:=r) hi;have U:=B (2+(i:Int)) (by lia) (by lia);unfold arcs at U;rw[U]at this;unfold mN;rw[e];lia
 have right:∀p∈ns,om ns sp r p=inR (twS ns r ts) p:=fun p O=>by
  obtain⟨i,hi,Z,e,es⟩:=c p O;have:=D.right (r:=r) hi;have U:=B (2+(ns.length:Int)+i) (by lia) (by lia);unfold arcs at U;rw[U]at this;unfold om;rw[e];lia
 have d:∀p∈ns,0<=mN sp r p/\mN sp r p<=pr p:=fun p O=>by
  obtain⟨i,hi,Z,e,es⟩:=c p O;have h2:=R.two i (by unfold arcs;lia);rw[C.src i p hi]at h2;have b:=R.pos (2*i);have T:=R.pos (2*i+1);unfold mN;rw[e];lia
 have f:∀p∈ns,0<=om ns sp r p/\om ns sp r p<=pr p:=fun p O=>by
  obtain⟨i,hi,Z,e,es⟩:=c p O;have h2:=R.two (ns.length+i) (by unfold arcs;lia);rw[C.snk i p hi]at h2;have b:=R.pos (2*(ns.length+i));have T:=R.pos (2*(ns.length+i)+1);unfold om;rw[e];lia
 have q:∀z∈twS ns r ts,z.x<=pr z.a/\z.y<=pr z.b:=fun z L=>by
  obtain⟨e1,e2⟩:=s z L;have o:∀p,∀z∈twS ns r ts,0<=iZ z.a p z.x+iZ z.b p z.y:=fun p z L=>by
   have:=ux (n:=z.a) (m:=p) (pos z L).1;have:=ux (n:=z.b) (m:=p) (pos z L).2;lia
  have u:=nN (o z.a) z L;have x:=nN (o z.b) z L;have b1:k6 (twS ns r ts) z.a <= pr z.a:=by rw [<- left z.a e1]; exact (d z.a e1).2
  have b2:k6 (twS ns r ts) z.b <= pr z.b:=by rw [<- left z.b e2]; exact (d z.b e2).2
  unfold k6 at b1 b2;rw[sr]at u x;have:=ux (n:=z.b) (m:=z.a) (pos z L).2;have:=ux (n:=z.a) (m:=z.b) (pos z L).1;lia
 refine⟨D.nd,s,pos,left,right,d,f,fun p O K=>?_,fun p O K=>?_,fun z L=>?_,fun z L=>?_⟩
 ·obtain⟨i,hi,Z,e,es⟩:=c p O;have:=(qX N l R (k:=i) (by unfold arcs;lia)).1;rw[(D.src i Z).1,(D.src i Z).2,C.src i p hi]at this;unfold mY at K;rw[fM,es]at K;unfold mN;rw[e];exact this A K
 ·obtain⟨i,hi,Z,e,es⟩:=c p O;have:=(qX N l R (k:=ns.length+i) (by unfold arcs;lia)).1;rw[(D.snk i Z).1,(D.snk i Z).2,C.snk i p hi]at this;unfold mY at K;rw[bM,es]at K;unfold om;rw[e];exact this (by rw[show(2:Int)+ns.length+i=2+i+ns.length by lia];exact K) h1
 ·obtain⟨x1,g⟩:=q z L;obtain⟨e1,e2⟩:=s z L;obtain⟨j,W,rfl⟩:=tw z L;obtain⟨⟨u,x⟩,b1,b2⟩:=D.tie j _ (getD_at W);have r1:=(qX N l R (k:=ns.length+ns.length+2*j) (by unfold arcs;lia)).1;have P:=(qX N l R (k:=ns.length+ns.length+(2*j+1)) (by unfold arcs;lia)).1;rw[u,x]at r1;rw[b1,b2]at P;have c1:=C.tie (2*j) (by lia) _ e1;have c2:=C.tie (2*j+1) (by lia) _ e2;unfold mY;simp only[bM];unfold twAt at x1 g c1 c2 ⊢;dsimp only at x1 g c1 c2 ⊢;refine⟨fun h=>fG fun S=>?_,fun h=>fG fun S=>?_⟩
  ·have:=r1 h S;lia
  ·have:=P h S;lia
 ·obtain⟨j,W,rfl⟩:=tw z L;obtain⟨⟨u,x⟩,b1,b2⟩:=D.tie j _ (getD_at W);have r1:=(qX N l R (k:=ns.length+ns.length+2*j) (by unfold arcs;lia)).2;have P:=(qX N l R (k:=ns.length+ns.length+(2*j+1)) (by unfold arcs;lia)).2;rw[u,x]at r1;rw[b1,b2]at P;unfold mY;simp only[bM,fM];unfold twAt;exact⟨r1,P⟩
end
end Fl
namespace Fl
section
variable{as:List kx}{i n:Nat}{α:Type}
abbrev kx:=Int×Int×Int
noncomputable def jB:List kx->List Int
 |[]=>[]
 |a::r=>a.2.1::a.1::jB r
noncomputable def km:List kx->List Int
 |[]=>[]
 |a::r=>a.2.2::0::km r
noncomputable def mF(as:List kx)(k:Nat):Int:=(as.getD k (0,0,0)).2.2
theorem vi:∀as:List kx,(jB as).length=2*as.length
 |[]=>rfl
 |a::r=>by rw[jB,List.length_cons,List.length_cons,vi r,List.length_cons];lia
theorem tF:∀as:List kx,(km as).length=2*as.length
 |[]=>rfl
 |a::r=>by rw[km,List.length_cons,List.length_cons,tF r,List.length_cons];lia
theorem uD(x y:Int)(l:List Int)(i:Nat):at' (x::y::l) (i+2)=at' l i:=rfl
theorem pV:∀(as:List kx) (i:Nat),at' (jB as) (2*i)=(as.getD i (0,0,0)).2.1
 |[],i=>by simp[jB,at']
 |a::r,0=>rfl
 |a::r,i+1=>by rw[show 2*(i+1)=2*i+2 by lia,jB,uD,pV r i];rfl
theorem pS:∀(as:List kx) (i:Nat),at' (jB as) (2*i+1)=(as.getD i (0,0,0)).1
 |[],i=>by simp[jB,at']
 |a::r,0=>rfl
 |a::r,i+1=>by rw[show 2*(i+1)+1=(2*i+1)+2 by lia,jB,uD,pS r i];rfl
theorem xM:∀(as:List kx) (i:Nat),at' (km as) (2*i)=mF as i
 |[],i=>by simp[km,at',mF]
 |a::r,0=>rfl
 |a::r,i+1=>by rw[show 2*(i+1)=2*i+2 by lia,km,uD,xM r i];rfl
theorem uz:∀(as:List kx) (i:Nat),at' (km as) (2*i+1)=0
 |[],i=>by simp[km,at']
 |a::r,0=>rfl
 |a::r,i+1=>by rw[show 2*(i+1)+1=(2*i+1)+2 by lia,km,uD,uz r i]
noncomputable def ki(as:List kx)(u:Int):List Nat:=(List.range (2*as.length)).filter fun w=>decide (at' (jB as) (iY w)=u)
theorem Hk(k:Nat):iY (2*k)=2*k+1:=by unfold iY;rw[aI (by lia)]
theorem IH(k:Nat):iY (2*k+1)=2*k:=by unfold iY;rw[aG (by lia)];lia
theorem oO{l:List α}{a d:α}(h:l[i]? =some a):l.getD i d=a:=by
 rw[bf,h];rfl
theorem xA{l:List α}(d:α)(h:i<l.length):l.getD i d∈l:=by
 rw[bf,gE h];exact cN h
theorem zw(h:∀a∈as,(0<=a.1/\a.1<(n:Int))/\0<=a.2.1/\a.2.1<(n:Int)):Net (ki as) (jB as) as.length n:=by
 refine⟨vi as,fun u w V=>?_,fun w V=>?_,fun w V=>?_⟩
 ·have V:=bj.mp V;exact⟨bL.mp V.1,aO V.2⟩
 ·by_cases c:w%2=0
  ·have e:w=2*(w/2):=by lia
   have F:w/2<as.length:=by lia
   rw[e,pV];exact(h _ (xA _ F)).2
  ·have e:w=2*(w/2)+1:=by lia
   have F:w/2<as.length:=by lia
   rw[e,pS];exact(h _ (xA _ F)).1
 ·exact bj.mpr ⟨bL.mpr V,ao rfl⟩
theorem Eu(h:∀a∈as,0<=a.2.2):Rooms as.length (mF as) (km as):=by
 refine⟨tF as,fun j=>?_,fun k F=>?_⟩
 ·by_cases c:j%2=0
  ·rw[show j=2*(j/2) by lia,xM];unfold mF;by_cases F:j/2<as.length
   ·exact h _ (xA _ F)
   ·rw[bf,cf (by lia)];exact cg _
  ·rw[show j=2*(j/2)+1 by lia,uz];exact cg _
 ·rw[xM,uz];lia
theorem LC(as:List kx)(hs:List Int)(m:Nat)(v:Int):ex hs m (km as) v=0:=by
 unfold ex;rw [<- l9 (List.range m)];refine jN fun k _=>?_;rw[uz];unfold iZ;split<;>split<;>rfl
theorem yB:∀(as:List kx) (a:kx),jB (as++[a])=jB as++[a.2.1,a.1]
 |[],a=>rfl
 |b::r,a=>by rw[List.cons_append,jB,yB r a,jB];rfl
theorem zm:∀(as:List kx) (a:kx),km (as++[a])=km as++[a.2.2,0]
 |[],a=>rfl
 |b::r,a=>by rw[List.cons_append,km,zm r a,km];rfl
theorem LJ{l a:List Int}(h:i<l.length):at' (l++a) i=at' l i:=by
 unfold at';rw[bf,bf,bC h]
theorem D1(as:List kx)(a:kx)(u:Int):ki (as++[a]) u=(ki as u++(if a.1=u then[2*as.length]else[]))++(if a.2.1=u then[2*as.length+1]else[]):=by
 unfold ki;rw[aH,List.length_singleton,show 2*(as.length+1)=2*as.length+1+1 by lia,bX,bI,bX,bI];have e1:at' (jB (as++[a])) (iY (2*as.length))=a.1:=by
  rw[Hk,pS,bf,cV (ay _),Nat.sub_self];rfl
 have e2:at' (jB (as++[a])) (iY (2*as.length+1))=a.2.1:=by
  rw[IH,pV,bf,cV (ay _),Nat.sub_self];rfl
 congr 1
 ·congr 1
  ·refine gQ fun w V=>?_;rw[yB,LJ];rw[vi];exact tM (bL.mp V)
  ·rw[bU,e1];by_cases c:a.1=u
   ·rw[aI c,aI (ao c)];rfl
   ·rw[aG c,aG (by simp[c])];rfl
 ·rw[bU,e2];by_cases c:a.2.1=u
  ·rw[aI c,aI (ao c)];rfl
  ·rw[aG c,aG (by simp[c])];rfl
noncomputable def mn(sp:Int->Int)(n pl:Int):LY->List kx
 |[]=>[]
 |t::r=>(sp t.1,sp t.2+n,pl)::(sp t.2,sp t.1+n,pl)::mn sp n pl r
noncomputable def mG(sp:Int->Int)(pl:Int)(ps ts:LY):List kx:=((ps.map fun p=>((0:Int),sp p.1,p.2))++ps.map fun p=>(sp p.1+ps.length,(1:Int),p.2))++mn sp ps.length pl ts
theorem Do(sp:Int->Int)(n pl:Int):∀ts,(mn sp n pl ts).length=2*ts.length
 |[]=>rfl
 |t::r=>by rw[mn,List.length_cons,List.length_cons,Do sp n pl r,List.length_cons];lia
theorem yt(sp:Int->Int)(n pl:Int):∀(ts:LY) (j:Nat) (t:Int×Int),ts[j]? =some t->(mn sp n pl ts)[2*j]? =some (sp t.1,sp t.2+n,pl)/\(mn sp n pl ts)[2*j+1]? =some (sp t.2,sp t.1+n,pl)
 |[],j,t,h=>by simp at h
 |u::r,0,t,h=>by cases h;exact⟨rfl,rfl⟩
 |u::r,j+1,t,h=>by
  obtain⟨a,b⟩:=yt sp n pl r j t (by simpa using h);rw[mn,show 2*(j+1)=2*j+1+1 by lia,show 2*j+1+1+1=(2*j+1)+1+1 by lia];exact⟨by rw[List.getElem?_cons_succ,List.getElem?_cons_succ];exact a,by rw[List.getElem?_cons_succ,List.getElem?_cons_succ];exact b⟩
theorem LN(sp:Int->Int)(pl:Int)(ps ts:LY):(mG sp pl ps ts).length=ps.length+ps.length+2*ts.length:=by
 unfold mG;rw[aH,aH,aa,aa,Do]
end
section
variable{sp pr:Int->Int}{pl:Int}{ps ts:LY}{p:Int×Int}{i:Nat}
theorem Ce(h:ps[i]? =some p):(mG sp pl ps ts)[i]? =some (0,sp p.1,p.2):=by
 have hi:=(ax.mp h).1;unfold mG;rw[bC (by rw[aH,aa,aa];lia),bC (by rw[aa];exact hi),aU,h];rfl
theorem Cd(h:ps[i]? =some p):(mG sp pl ps ts)[ps.length+i]? =some (sp p.1+ps.length,1,p.2):=by
 have hi:=(ax.mp h).1;unfold mG;rw[bC (by rw[aH,aa,aa];lia),cV (by rw[aa];lia),aa,Nat.add_sub_cancel_left,aU,h];rfl
theorem uU{j:Nat}(k:Nat):(mG sp pl ps ts)[ps.length+ps.length+k]? =(mn sp ps.length pl ts)[k]?:=by
 unfold mG;rw[cV (by rw[aH,aa,aa];lia)]
 congr 1
 rw[aH,aa,aa];lia
theorem DR(T:(ps.map (·.1)).Nodup)(D:∀(i:Nat) (p:Int),(ps.map (·.1))[i]? =some p->sp p=2+(i:Int))(n:∀t∈ts,t.1∈ps.map (·.1)/\t.2∈ps.map (·.1)):Dbl (ps.map (·.1)) ts sp (jB (mG sp pl ps ts)):=by
 have g:∀i,i<ps.length->∃p,ps[i]? =some p/\sp p.1=2+(i:Int):=fun i hi=>by
  refine⟨ps[i],gE hi,D i _ ?_⟩;rw[aU,gE hi];rfl
 refine⟨T,D,n,fun i hi=>?_,fun i hi=>?_,fun j t W=>?_⟩
 ·rw[aa]at hi;obtain⟨p,O,e⟩:=g i hi;rw[pV,pS,oO (Ce O)];exact⟨e,rfl⟩
 ·rw[aa]at hi;obtain⟨p,O,e⟩:=g i hi;rw[aa,pV,pS,oO (Cd O)];exact⟨rfl,by dsimp only;rw[e];lia⟩
 ·obtain⟨a,b⟩:=yt sp ps.length pl ts j t W;rw[aa,pV,pS,pV,pS,oO ((uU (j:=0) (2*j)).trans a),oO ((uU (j:=0) (2*j+1)).trans b)];exact⟨⟨rfl,rfl⟩,rfl,rfl⟩
theorem DS(r:∀p∈ps,pr p.1=p.2)(v:∀p∈ps,p.2<pl):Caps (ps.map (·.1)) ts pr (mF (mG sp pl ps ts)):=by
 have g:∀(i:Nat) (p:Int),(ps.map (·.1))[i]? =some p->∃q,ps[i]? =some q/\q.1=p:=fun i p h=>by
  rw[aU]at h;cases e:ps[i]? with
  |none=>rw[e]at h;cases h
  |some q=>rw[e]at h;exact⟨q,rfl,aJ h⟩
 refine⟨fun i p h=>?_,fun i p h=>?_,fun j d p O=>?_⟩
 ·obtain⟨q,W,rfl⟩:=g i p h;unfold mF;rw[oO (Ce W),r q (aC W)]
 ·obtain⟨q,W,rfl⟩:=g i p h;unfold mF;rw[aa,oO (Cd W),r q (aC W)]
 ·obtain⟨q,W,rfl⟩:=av.mp O;have F:j/2<ts.length:=by lia
  have y:ts[j/2]? =some ts[j/2]:=gE F;obtain⟨a,b⟩:=yt sp ps.length pl ts (j/2) _ y;unfold mF;rw[aa,r q W];by_cases c:j%2=0
  ·rw[show j=2*(j/2) by lia,oO ((uU (j:=0) _).trans a)];exact v q W
  ·rw[show j=2*(j/2)+1 by lia,oO ((uU (j:=0) _).trans b)];exact v q W
theorem LL(D:∀p∈ps.map (·.1),2<=sp p/\sp p<2+(ps.length:Int))(n:∀t∈ts,t.1∈ps.map (·.1)/\t.2∈ps.map (·.1))(b:∀p∈ps,0<=p.2)(v:0<=pl):∀a∈mG sp pl ps ts,((0<=a.1/\a.1<((2+(ps.length+ps.length):Nat):Int))/\0<=a.2.1/\a.2.1<((2+(ps.length+ps.length):Nat):Int))/\0<=a.2.2:=fun a J=>by
 unfold mG at J;have e:∀{us:LY},(∀t∈us,t.1∈ps.map (·.1)/\t.2∈ps.map (·.1))->a∈mn sp ps.length pl us->((0<=a.1/\a.1<((2+(ps.length+ps.length):Nat):Int))/\0<=a.2.1/\a.2.1<((2+(ps.length+ps.length):Nat):Int))/\0<=a.2.2:=fun{us}=>by
  induction us with
  |nil=>intro _ h;cases h
  | cons u r E=>
   intro R h;have h1:=D _ (R u (.head _)).1;have h2:=D _ (R u (.head _)).2;rcases aV.mp h with rfl|h
   ·dsimp only;lia
   ·rcases aV.mp h with rfl|h
    ·dsimp only;lia
    ·exact E (fun t S=>R t (.tail _ S)) h
 rcases br.mp J with J|J
 ·rcases br.mp J with J|J
  ·obtain⟨p,O,rfl⟩:=av.mp J;have:=D p.1 (cG O);have:=b p O;dsimp only;lia
  ·obtain⟨p,O,rfl⟩:=av.mp J;have:=D p.1 (cG O);have:=b p O;dsimp only;lia
 ·exact e n J
end
end Fl
namespace L2
open PySem PySem.Spec PyProof.Rows
section
variable{X:Cx}
theorem JX(a:Value):argsOk "min" ⟨[a],[]⟩:=by unfold argsOk;kernel_rfl
noncomputable def EF:List V->Hp->VK->Prop:=fun vs H Q=>∃(p:Addr) (ns:List Int),vs=[.ref p]/\H p=some (.lst (ns.map V.int))/\ns≠[]/\
 ∀m,m∈ns->(∀x∈ns,m<=x)->Q (.int m) H
theorem Ck(Y:X.calm=true):jcq X (.builtin "min") EF:=by
 intro pins s σ H xs us Q I r h;obtain⟨p,ns,rfl,e,d,q⟩:=h;obtain⟨u,rfl,rx⟩:=pJ r;cases rx;obtain⟨z,its,c,r',g,T⟩:=I.lstM e;have n:=pY r';have P:p<s.heap.objs.size:=aR T;have R:s.heap.IsList p its.toArray:=⟨_,T,rfl,_,rfl⟩;refine call_function_tree PySem.F.kind_min PySem.F.plain_min PySem.F.entry_min (JX _) ?_;show wpAny _ X.A.in1 (Builtin.Builtins.bindParams "min" ["key","default"] 0 ⟨[],[]⟩>>=_) _ _ s;refine ae (fH (show Builtin.Builtins.bindParams "min" ["key","default"] 0 ⟨[],[]⟩=pure [none,none]from rfl) ?_);refine ae (aM ?_);refine ae (dk R ?_);refine ae (wpAny_newList ?_ (bS _));rw[uI];have K:(s.heap.push {cls:=.type "list_iterator",data:=.fields #[.ref p,.int 0 0]}).objs.size=s.heap.objs.size+1:=size_push' ..;have W:=Walks.list (prog:=X.prog) (w:=X.w) (A:=X.A.in1) (show X.A.in1.handled=none from I.ok.hd Y) s.heap.objs.size p (bu P) its.toArray;have M:its.toArray.size = ns.length:=by rw [aF,<- g,aa]
 have a:∀(i:Nat) (v:Value),its.toArray[i]? =some v->∃t:Tok,v=Value.int (ns[i]?.getD 0) t:=fun i v j=>by
  have B:its[i]? =some v:=by simpa using j
  have hi:i<ns.length:=by
   have:=(ax.mp B).1;rw[aa]at g;lia
  obtain⟨u,e1,t,e2⟩:=r'.get (i:=i) (x:=.int ns[i]) (by rw[aU,gE hi];rfl);rw[B]at e1;cases e1;exact⟨t,by rw[e2,gE hi];rfl⟩
 have i':∀(h':Heap) (tk:Nat),(∀b o,b∉[s.heap.objs.size]->b≠(s.heap.push {cls:=.type "list_iterator",data:=.fields #[.ref p,.int 0 0]}).objs.size->((s.heap.push {cls:=.type "list_iterator",data:=.fields #[.ref p,.int 0 0]}).push {cls:=.type "list",data:=.seq #[]}).get? b=some o->h'.get? b=some o)->
   Inv X pins σ H {s with heap:=h',toks:=tk}:=fun h' tk k=>I.kept fun b o l=>k b o (by
    intro z;have:b=s.heap.objs.size:=by simpa using z
    exact absurd (aR l) (by rw[this];exact cP _)) (by rw[K];exact bu (dQ (aR l))) (ag _ (ag _ l))
 have U:(fun i (h:Heap)=>h.IsListIter s.heap.objs.size p i/\h.IsList p its.toArray) 0 ((s.heap.push {cls:=.type "list_iterator",data:=.fields #[.ref p,.int 0 0]}).push {cls:=.type "list",data:=.seq #[]}):=
  ⟨⟨_,ag _ (aW _ rfl),rfl,rfl⟩,(R.push _).push _⟩
 have f:((s.heap.push {cls:=.type "list_iterator",data:=.fields #[.ref p,.int 0 0]}).push {cls:=.type "list",data:=.seq #[]}).get? (s.heap.push {cls:=.type "list_iterator",data:=.fields #[.ref p,.int 0 0]}).objs.size=some {cls:=.type "list",dict:=none,data:=.seq #[] 0,slots:=#[]}:=aW _ rfl;have N:(s.heap.push {cls:=.type "list_iterator",data:=.fields #[.ref p,.int 0 0]}).objs.size∉[s.heap.objs.size,p]:=by
  rw[K];intro z;rcases aV.mp z with z|z
  ·exact absurd z (gU _)
  ·have z:=aK.mp z;rw [<- z] at P;exact cP _ (aZ P)
 refine aM ⟨cO cT _,?_⟩;refine cW fS ?_;rw[cn cT _];show wpAny _ X.A.in1 (seqItems? (.ref _)>>=_) _ _ _;refine ae (bY f rfl ?_);show wpAny _ X.A.in1 (tryCatch (pyNext (.ref s.heap.objs.size)) _>>=_) _ _ _;cases S:ns with
 |nil=>exact absurd S d
 | cons n0 rest=>
  have hpos:0<its.toArray.size:=by rw[M,S];simp
  refine ae (cQ (W.item 0 _ _ _ hpos U fun v h' tk J L O=>?_));obtain⟨t',rfl⟩:=a 0 v J;have y:=O _ _ (fun z=>N (aV.mpr (.inl (aK.mp z)))) f;show wpAny _ X.A.in1 (updateSeq _ (fun _=>#[_,_])>>=_) _ _ _;refine ae ?_;refine eI y rfl ?_;rw[uI];refine aM ⟨cO cT _,J0 W (fun i=>ns[i]?.getD 0) a _ _ N _ 1 _ _ t' _ rfl hpos (W.frame _ _ _ L fun b F o e=>?_) ⟨⟨0,Nat.one_pos,rfl⟩,fun i hi=>by
   have:i=0:=by lia
   subst this;exact cg _⟩ (cY _ y rfl) fun m u V C E Z=>?_⟩
  ·exact(bJ _ _ (fun z=>N (by rw[z];exact F))).trans e
  ·refine⟨.int m,H,i' V C fun b o h1 h2 D=>Z b o h1 h2 ((bJ _ _ (c7 h2)).trans (O b o h1 D)),⟨u,rfl⟩,q m ?_ fun x G=>?_⟩
   ·obtain⟨i,hi,e1⟩:=E.1;rw[M]at hi;rw[e1];show ns[i]?.getD 0∈ns;rw[gE hi];exact cN hi
   ·obtain⟨i,hi,e1⟩:=bx.mp G;have:m<=ns[i]?.getD 0:=E.2 i (by rw[M];exact hi);rw[gE hi]at this;rw [<- e1];exact this
end
end L2
namespace My
open PySem L2
section
variable{P:Program}{w:World}{K:L3}{mg:L4}{base:Heap}{c1 c2 c3 c4:Tok}{C_Net C_NoWeb fqa:Addr}{dI:FuncData}
noncomputable def FZ:Stmt->List Stmt
 | .ClassDef _ _ _ b _ _ _ _ _ _ _=>b
 |_=>[]
noncomputable def kn(i j:Nat):Stmt:=(FZ (top i)).getD j (.Pass ⟨0,0,0,0⟩)
structure MthAt(K:L3)(C:Addr)(x qual:Str)(st:Stmt)(ps:List Str)(f:Addr)(fd:FuncData):Prop where
 F:Fun K x qual st f fd
 b:jge K fd ps []
 m:Meth K C x f
structure NetC(K:L3)(mg:L4)(C:Addr):Prop where
 cl:Cls K C
 n_ways_from:jfb K C "ways_from"
 n_heads:jfb K C "heads"
 n_rooms:jfb K C "rooms"
 m:mg "Net"=some (.ref C)
noncomputable def kC(C dx W Hd R:Addr):HO:=.ins C dx [("ways_from",.ref W),("heads",.ref Hd),("rooms",.ref R)]
section
variable{C dx W Hd R a:Addr}{wf:Int->List Nat}{hs l:List Int}{n w i:Nat}
theorem DH:nP C (some (kC C dx W Hd R)) "ways_from"=some (.ref W):=by unfold nP kC;dsimp only;rw[if_pos rfl];rfl
theorem tR:nP C (some (kC C dx W Hd R)) "heads"=some (.ref Hd):=by unfold nP kC;dsimp only;rw[if_pos rfl];rfl
theorem qz:nP C (some (kC C dx W Hd R)) "rooms"=some (.ref R):=by unfold nP kC;dsimp only;rw[if_pos rfl];rfl
theorem pF{m:Str}(h:(m==("ways_from":Str))=false)(h2:(m==("heads":Str))=false)(D:(m==("rooms":Str))=false):mH C (some (kC C dx W Hd R)) m=true:=by
 unfold mH kC;simp only[ck,cz,List.lookup_cons,h,h2,D,List.lookup_nil,Option.isNone_none]
theorem Dj:mH C (some (kC C dx W Hd R)) "put_way"=true:=pF rfl rfl rfl
theorem CY:mH C (some (kC C dx W Hd R)) "spread"=true:=pF rfl rfl rfl
theorem Dq:mH C (some (kC C dx W Hd R)) "shortest"=true:=pF rfl rfl rfl
theorem Ho:mH C (some (kC C dx W Hd R)) "push"=true:=pF rfl rfl rfl
theorem Hn:mH C (some (kC C dx W Hd R)) "fill"=true:=pF rfl rfl rfl
theorem II:mH C (some (kC C dx W Hd R)) "flows"=true:=pF rfl rfl rfl
theorem J3:mH C (some (kC C dx W Hd R)) "reached_from"=true:=pF rfl rfl rfl
noncomputable def nv(p:List Nat):List V:=p.map fun w:Nat=>V.int (w:Int)
noncomputable def NtS(C:Addr)(H:Hp)(p R:Addr)(wf:Int->List Nat)(hs:List Int)(n:Nat):Prop:=∃(dx W Hd:Addr) (l:List Addr),H p=some (kC C dx W Hd R)/\H W=some (.lst (l.map V.ref))/\l.length=n/\(∀(i:Nat) (a:Addr),l[i]? =some a->H a=some (.lst (nv (wf (i:Int))))/\a≠R)/\H Hd=some (.lst (hs.map V.int))/\W≠R/\Hd≠R/\p≠R
theorem NtS.but{H H':Hp}{p:Addr}(h:NtS C H p R wf hs n)(s:But R H H'):NtS C H' p R wf hs n:=by
 obtain⟨dx,W,Hd,l,e1,e2,e3,L,j,v,V,k⟩:=h;exact⟨dx,W,Hd,l,s _ _ k e1,s _ _ v e2,e3,fun i a J=>⟨s _ _ (L i a J).2 (L i a J).1,(L i a J).2⟩,s _ _ V j,v,V,k⟩
theorem NtS.same{H H':Hp}{p:Addr}(h:NtS C H p R wf hs n)(s:Same H H'):NtS C H' p R wf hs n:=h.but fun b o _ q=>s b o q
theorem qF(h:w<l.length):jh (l.map V.int) (w:Int)=some (.int (Fl.at' l w)):=by
 refine me ?_;rw[aU,gE h];unfold Fl.at';rw[bf,gE h];rfl
theorem zD{l:List Addr}(h:l[i]? =some a):jh (l.map V.ref) (i:Int)=some (.ref a):=by
 refine me ?_;rw[aU,h];rfl
noncomputable def oV:Option Nat->V
 |none=>.non
 |some w=>.int (w:Int)
noncomputable def lD(cb:Fl.Cb):List (iw×V):=cb.map fun p=>(Sum.inl p.1,oV p.2)
theorem xt:∀(cb:Fl.Cb) (v:Int),(iX (lD cb) (Sum.inl v:iw)).isSome=Fl.seen cb v
 |[],v=>rfl
 | p::r,v=>by
  have E:=xt r v;unfold lD iX Fl.seen at E ⊢;rw[ai,List.find?_cons];by_cases c:p.1=v
  ·dsimp only;rw[ao (show(Sum.inl p.1:iw)=Sum.inl v from cA Sum.inl c)];dsimp only;rw[ao (by rw[ai,c];exact aE)];rfl
  ·dsimp only;rw[aA (fun z:(Sum.inl p.1:iw)=Sum.inl v=>c (bR z))];dsimp only;rw[E,ai]
   congr 1
   simp only[aV,eq_iff_iff];exact⟨fun z=>.inr z,fun z=>z.resolve_left fun e=>c e.symm⟩
theorem wg:∀(cb:Fl.Cb) (v:Int),(iX (lD cb) (Sum.inl v:iw)).getD .non=oV (Fl.lk cb v)
 |[],v=>rfl
 | p::r,v=>by
  have E:=wg r v;unfold lD iX Fl.lk at E ⊢;rw[ai,List.find?_cons,List.find?_cons];by_cases c:p.1=v
  ·dsimp only;rw[ao (show(Sum.inl p.1:iw)=Sum.inl v from cA Sum.inl c),ao c];rfl
  ·dsimp only;rw[aA (fun z:(Sum.inl p.1:iw)=Sum.inl v=>c (bR z)),aA c];dsimp only;exact E
theorem FX{cb:Fl.Cb}{v:Int}(h:Fl.seen cb v=false):jr (lD cb) (Sum.inl v:iw) (.int (w:Int))=lD (cb++[(v,some w)]):=by
 rw[BS]
 ·unfold lD;rw[af];rfl
 ·rw [<- xt] at h;cases e:iX (lD cb) (Sum.inl v:iw)with
  |none=>rfl
  |some x=>rw[e]at h;cases h
theorem yl(hs r:List Int):∀(a b:List Nat) (cb:Fl.Cb),Fl.j9 hs r cb (a++b)=Fl.j9 hs r (Fl.j9 hs r cb a) b
 |[],b,cb=>rfl
 |w::a,b,cb=>by
  rw[List.cons_append,Fl.j9,Fl.j9];exact yl hs r a b _
theorem HZ(hs r:List Int)(p:List Nat)(i:Nat)(cb:Fl.Cb):(Fl.j9 hs r cb (p.take i)).length<=(Fl.j9 hs r cb p).length:=by
 have e:Fl.j9 hs r cb p = Fl.j9 hs r (Fl.j9 hs r cb (p.take i)) (p.drop i):=by rw [<- yl,List.take_append_drop]
 obtain⟨l,e2⟩:=Fl.ql (hs:=hs) (r:=r) (p.drop i) (Fl.j9 hs r cb (p.take i));rw[e,e2,aH];lia
end
structure Nt(C:Addr)(H:Hp)(p R:Addr)(wf:Int->List Nat)(hs:List Int)(m n:Nat)(r:List Int):Prop where
 st:NtS C H p R wf hs n
 eR:H R=some (.lst (r.map V.int))
 net:Fl.Net wf hs m n
 len:r.length=2*m
 big:2*m<=1000
 n200:n<=200
theorem Nt.same{C:Addr}{H H':Hp}{p R:Addr}{wf:Int->List Nat}{hs:List Int}{m n:Nat}{r:List Int}(h:Nt C H p R wf hs m n r)(s:Same H H'):Nt C H' p R wf hs m n r:=⟨h.st.same s,s _ _ h.eR,h.net,h.len,h.big,h.n200⟩
noncomputable def xN(C:Addr):Sp:=fun vs H Q _=>∃p s R wf hs m n r,vs=[.ref p,.int s]/\Nt C H p R wf hs m n r/\0<=s/\s<(n:Int)/\∀d H',H d=none->Same H H'->H' d=some (.dK (lD (Fl.jR wf hs n s r)))->Q (.ref d) H'
noncomputable def oG(cb:Fl.Cb):List V:=cb.map fun p=>V.int p.1
theorem IS(B:Blt mg)(D:MthAt K C_Net "spread" "Net.spread" (kn 5 4) ["self","source"] f fd)(T:NetC K mg C_Net):FnOk P w K mg base iT 1 f fd ["self","source"] (xN C_Net):=by
 refine i6 D.F ["self","source","came_by","line","done","knot","way","head"] (by rintro _ _ _ _ ⟨p,s,R,wf,hs,m,n,r,rfl,_⟩;rfl) ?_;rintro _ A _ s H vs Q E X M j _ ⟨p,s,R,wf,hs,m,n,r,rfl,N,s0,s1,h⟩;refine⟨_,(iy (iM 2 X (Hy (qv 1) z7)) (iy (iM 3 X (jW (iJ (qv 1)))) (iy (iM 4 X iu) (iy (uN bg (jc nJ (qv 4) (kZ B (qv 3)) (ja _)) (iy (iM 5 X (iE (qv 3) (qv 4))) (iy (jY bg rfl (jb (iE (mM T.cl T.n_ways_from (qv 0) rfl) (qv 5))) (jd 6 X) (iy (iM 7 X (iE (mM T.cl T.n_heads (qv 0) rfl) (qv 6))) (iF (jt (PW.pt (nX (jc nK (iE (mM T.cl T.n_rooms (qv 0) rfl) (qv 6)) iu (ja _)) (n6 (pI (sg j (qv 7) (qv 2)))))) (iy (pN j (qv 2) (qv 7) (qv 6)) (iF (j6 (kI ba aY aX kN (qv 3) (iJ (qv 7)))))) jv)))) (iF (rT (i:=4) X rfl (Or.inl rfl) iu uh))))) (iF (iS (qv 2))))))),?_⟩;have N0:=N;obtain⟨⟨dx,W,Hd,ls,e1,e2,e3,e4,e5,n1,n2,n3⟩,eR,K',q,Mo,S⟩:=N;refine iK fun R' U=>?_;walk_at "D";intro d J;generalize y:upd H d _=H1;obtain⟨O,ed⟩:=kc J y;clear y;subst U;refine iK fun R' U=>?_;walk_at "D";intro l Z;have v:=O.trans (iD Z (.lst [.int s]));have J':=iD Z (.lst [.int s]) _ _ ed;have el:upd H1 l (.lst [.int s]) l=some (.lst [.int s]):=ir;have ld:l≠d:=(iO ed Z).symm;have Mi:H l=none:=O.free Z;generalize upd H1 l (.lst [.int s])=H2 at v J' el;subst U;refine iK fun R' U=>?_;walk_at "D";subst U;refine iK fun R' U=>?_;refine uT (fun σ I=>∃(k:Nat) (v5 v6 v7:Option V),σ=[some (.ref p),some (.int s),some (.ref d),some (.ref l),some (.int (k:Int)),v5,v6,v7]/\Same H I/\I d=some (.dK (lD (Fl.jo wf hs r s k)))/\I l=some (.lst (oG (Fl.jo wf hs r s k)))/\k<=(Fl.jo wf hs r s k).length) (fun(σ:St) _=>match σ[4]? with |some (some (V.int k))=>n-k.toNat|_=>0) ⟨0,none,none,none,rfl,v,J',el,bS _⟩ ?_ ?_
 ·rintro σ I ⟨k,v5,v6,v7,rfl,t,i',A',F⟩;have Mb:=Fl.oU (r:=r) K' ⟨s0,s1⟩ k;have Ma:(oG (Fl.jo wf hs r s k)).length=(Fl.jo wf hs r s k).length:=aa _;by_cases c:k<(Fl.jo wf hs r s k).length
  ·have sz:decide ((k:Int)<((Fl.jo wf hs r s k).length:Int))=true:=ao (by lia);have y:(Fl.jo wf hs r s k)[k]? =some (Fl.jo wf hs r s k)[k]:=gE c;generalize Mq:(Fl.jo wf hs r s k)[k]=pk at y;have Mr:jh (oG (Fl.jo wf hs r s k)) (k:Int)=some (.int pk.1):=me (by unfold oG;rw[aU,y];rfl);simp_arith[iH,A',Ma,sz,Mr];have Mu:=Fl.zB (r:=r) K' ⟨s0,s1⟩ k pk.1 (av.mpr ⟨_,aC y,rfl⟩);have hi:pk.1.toNat<ls.length:=by lia
   have L':ls[pk.1.toNat]? =some ls[pk.1.toNat]:=gE hi;generalize ls[pk.1.toNat]=wa at L';have Mm:=(e4 _ _ L').1;rw[show((pk.1.toNat:Nat):Int)=pk.1 by lia]at Mm;have Mt:jh (ls.map V.ref) pk.1=some (.ref wa):=by have:=zD L';rw[show((pk.1.toNat:Nat):Int)=pk.1 by lia]at this;exact this
   have Mf:Fl.jo wf hs r s (k+1)=Fl.j9 hs r (Fl.jo wf hs r s k) (wf pk.1):=by rw[Fl.jo,y]
   have Ms:=Fl.oU (r:=r) K' ⟨s0,s1⟩ (k+1);rw[Mf]at Ms;generalize Ml:Fl.jo wf hs r s k=cb at*;refine kA (i5 K wa) I (fun R3 L9=>?_) (lG (K:=K) (a:=wa) (xs:=nv (wf pk.1)) (fun i σ H4=>∃v6 v7,σ=[some (.ref p),some (.int s),some (.ref d),some (.ref l),some (.int (k:Int)),some (.int pk.1),v6,v7]/\Same H H4/\H4 d=some (.dK (lD (Fl.j9 hs r cb ((wf pk.1).take i))))/\H4 l=some (.lst (oG (Fl.j9 hs r cb ((wf pk.1).take i))))) ⟨v6,v7,rfl,t,i',A'⟩ (fun i σ H4 _ C=>by obtain⟨_,_,_,s4,_⟩:=C;exact SqL.of (s4 _ _ Mm)) ?_ ?_)
   ·unfold i8;simp_arith[iH,t _ _ e1,DH,t _ _ e2,Mt];exact⟨wa,rfl,⟨_,SqL.of (t _ _ Mm)⟩,L9⟩
   ·rintro i x σ H4 G ⟨v6,v7,rfl,s4,sq,G'⟩;unfold nv at G;rw[aU]at G;obtain⟨w,o,rfl⟩:=dG.mp G;have Mj:=K'.from' pk.1 w (aC o);have C:jh (hs.map V.int) (w:Int)=some (.int (Fl.at' hs w)):=qF (by rw[K'.len];exact Mj.1);have Mn:jh (r.map V.int) (w:Int)=some (.int (Fl.at' r w)):=qF (by rw[q];exact Mj.1);have L8:Fl.j9 hs r cb ((wf pk.1).take (i+1))=if 0<Fl.at' r w/\Fl.seen (Fl.j9 hs r cb ((wf pk.1).take i)) (Fl.at' hs w)=false then Fl.j9 hs r cb ((wf pk.1).take i)++[(Fl.at' hs w,some w)]else Fl.j9 hs r cb ((wf pk.1).take i):=by
     rw[ji o,yl];rfl
    have Mp:=HZ hs r (wf pk.1) i cb;generalize Fl.j9 hs r cb ((wf pk.1).take i)=Mc at*;simp_arith[iH,s4 _ _ e1,tR,qz,s4 _ _ e5,C,s4 _ _ eR,Mn,sq,xt];by_cases c1:0<Fl.at' r w
    ·rw[ao c1,aI rfl];cases c2:Fl.seen Mc (Fl.at' hs w)with
     |true=>
      walk_at "D";rw[aG (fun z=>by rw[c2]at z;cases z.2)]at L8;rw[L8];exact⟨_,_,rfl,s4,(by first|rfl|exact sq),G'⟩
     | false=>
      rw[aI ⟨c1,c2⟩]at L8;simp_arith[FX c2];have B':(lD Mc).length=Mc.length:=aa _;refine⟨iU (by lia),?_⟩;have Me:upd H4 d (.dK (lD (Mc++[(Fl.at' hs w,some w)]))) l=some (.lst (oG Mc)):=by rw[iC ld];exact G'
      refine⟨⟨l,_,rfl,Me⟩,?_⟩;rw[Me];dsimp only;have Mv:(oG Mc).length=Mc.length:=aa _;refine⟨iU (by lia),_,_,rfl,i4 (i4 s4 J) Mi,?_,?_⟩
      ·rw[iC (c7 ld),ir,L8]
      ·rw[ir,L8];unfold oG;rw[af];rfl
    ·rw[aA c1,aG (by decide)];rw[aG (fun z=>c1 z.1)]at L8;rw[L8];exact⟨_,_,rfl,s4,(by first|rfl|exact sq),G'⟩
   ·rintro σ H4 ⟨v6,v7,rfl,s4,sq,G'⟩;have F':(wf pk.1).take (nv (wf pk.1)).length=wf pk.1:=by unfold nv;rw[aa,aD]
    rw [F',<- Mf] at sq G';walk_at "D";refine⟨⟨k+1,_,_,_,by rw[show((k+1:Nat):Int)=(k:Int)+1 by lia],s4,sq,G',?_⟩,?_⟩
    ·obtain⟨z,L⟩:=Fl.zi (wf:=wf) (hs:=hs) (r:=r) (s:=s) k;rw[L,Ml,aH];lia
    ·lia
  ·have sz:decide ((k:Int)<((Fl.jo wf hs r s k).length:Int))=false:=aA (by lia);simp_arith[iH,A',Ma,sz];subst U;walk_at "D";have Mh:Fl.jR wf hs n s r=Fl.jo wf hs r s k:=by
    unfold Fl.jR;rw[show n=k+(n-k) by lia];exact Fl.vC (by lia) _
   exact h d I J t (by rw[Mh];exact i')
 ·intro σ I Q1 Q2 g Y;unfold fB mQ qm k8 lH jK at Y ⊢;cases e:σ[4]? with
  |none=>rw[e]at Y;exact Y.elim
  | some ov=>
   rw[e]at Y;cases ov with
   |none=>exact Y.elim
   | some u=>
    dsimp only[rh,fI,tC]at Y ⊢;cases e3:σ[3]? with
    |none=>rw[e3]at Y;exact Y.elim
    | some Mg=>
     rw[e3]at Y;cases Mg with
     |none=>exact Y.elim
     | some u3=>
      dsimp only at Y ⊢;cases u3 with
      | ref b=>
       dsimp only at Y ⊢;cases e2:iH I b with
       |none=>rw[e2]at Y;exact Y.elim
       |some us=>
        rw[e2]at Y;dsimp only at Y ⊢;cases u with
        |int i=>exact g _ _ Y
        |_=>exact Y.elim
      |_=>exact Y.elim
end
end My
namespace Fl
section
variable{hs r:List Int}{m w n:Nat}{s v:Int}{cb:Cb}
theorem Gg(h:lk cb v=some w):∃i:Nat,cb[i]? =some (v,some w):=by
 unfold lk at h;cases e:cb.find? fun p=>decide (p.1=v)with
 |none=>rw[e]at h;cases h
 |some p=>
  rw[e]at h;have O:=List.mem_of_find?_eq_some e;have Y:p.1=v:=by have:=List.find?_some e;exact aO (p:=p.1=v) this
  obtain⟨i,hi,e2⟩:=bx.mp O;refine⟨i,?_⟩;rw[gE hi,e2];obtain⟨a,b⟩:=p;dsimp only at Y;have h:b=some w:=h;rw[Y,h]
theorem JU(C:Cam hs r m s cb):∀(i:Nat) (v:Int) (o:Option Nat),cb[i]? =some (v,o)->∀f,i<=f->jS hs cb (f+1) v=jS hs cb f v:=by
 intro i
 induction i using Nat.strongRecOn with
 | ind i E=>
  intro v o h f B;have Z:=vV C.nd h;by_cases A:i=0
  ·subst A;have e:=C.first;rw[h]at e;have M:o=none:=cA Prod.snd (aJ e);rw[M]at Z;rw[jS,Z];cases f with
   |zero=>rfl
   |succ f=>rw[jS,Z]
  ·obtain⟨w,rfl,h2,D,T,j,u,K,q,y⟩:=C.came i v o h (by lia);obtain⟨g,rfl⟩:∃g,f=g+1:=⟨f-1,by lia⟩;obtain⟨p,O⟩:∃p,cb[j]? =some p:=by
    cases e:cb[j]? with
    |none=>rw[e]at q;cases q
    |some p=>exact⟨p,rfl⟩
   have F:p.1=u:=by rw[O]at q;exact aJ q
   obtain⟨p1,p2⟩:=p;dsimp only at F;subst F;have e1:jS hs cb (g+1+1) v=w::jS hs cb (g+1) p1:=by
    rw[jS,Z];dsimp only;rw[y]
   have e2:jS hs cb (g+1) v=w::jS hs cb g p1:=by
    rw[jS,Z];dsimp only;rw[y]
   rw[e1,e2,E j K p1 p2 O g (by lia)]
theorem D9(C:Cam hs r m s cb)(S:cb.length<=n)(h:lk cb v=some w):jS hs cb n v=w::jS hs cb n (at' hs (iY w))/\w<2*m:=by
 obtain⟨i,hi⟩:=Gg h;have X:=(ax.mp hi).1;have A:0<i:=by
  by_cases z:i=0
  ·subst z;have e:=C.first;rw[hi]at e;have:=cA Prod.snd (aJ e);cases this
  ·lia
 obtain⟨t,c,h2,D,T,j,u,K,q,y⟩:=C.came i v _ hi A;cases c;obtain⟨p,O⟩:∃p,cb[j]? =some p:=by
  cases e:cb[j]? with
  |none=>rw[e]at q;cases q
  |some p=>exact⟨p,rfl⟩
 have F:p.1=u:=by rw[O]at q;exact aJ q
 obtain⟨g,rfl⟩:∃g,n=g+1:=⟨n-1,by lia⟩;refine⟨?_,h2⟩;rw[jS,h];dsimp only;rw [y,<- F,JU C j p.1 p.2 O g (by lia)]
theorem Ea(h:lk cb v=none):jS hs cb n v=[]:=by
 cases n with
 |zero=>rfl
 |succ n=>rw[jS,h]
theorem vy:∀(n:Nat) (v:Int),(jS hs cb n v).length<=n
 |0,_=>ay _
 | n+1,v=>by
  rw[jS];split
  ·have:=vy n (at' hs (iY ‹Nat›));rw[List.length_cons];lia
  ·exact bS _
theorem zy(r:List Int):∀{tr:List Nat},tr≠[]->lT r tr∈tr.map (at' r)
 |[],h=>absurd rfl h
 |[w],_=>aK.mpr rfl
 |w::x::tr,_=>by
  rw[lT];split
  ·exact au _ (zy r (tr:=x::tr) (by simp))
  ·exact aE
theorem E5(r:List Int)(tr:List Nat)(w:Nat)(a:Int):push r (tr++[w]) a=bump (push r tr a) w a:=by
 unfold push;rw[List.foldl_append];rfl
end
end Fl
namespace My
open PySem L2
section
variable{P:Program}{w:World}{K:L3}{mg:L4}{base:Heap}{c1 c2 c3 c4:Tok}{C_Net C_NoWeb fqa wa:Addr}{dI:FuncData}
noncomputable def Bk(C:Addr):Sp:=fun vs H Q _=>∃p s t R wf hs m n r,vs=[.ref p,.int s,.int t]/\Nt C H p R wf hs m n r/\0<=s/\s<(n:Int)/\∀l H',H l=none->Same H H'->H' l=some (.lst (nv (Fl.kY wf hs n s t r)))->Q (.ref l) H'
noncomputable def Aq(C:Addr):Sp:=fun vs H Q _=>∃p l R wf hs m n r a,vs=[.ref p,.ref l]/\Nt C H p R wf hs m n r/\H l=some (.lst (nv a))/\l≠R/\a≠[]/\a.length<=200/\(∀w∈a,w<2*m)/\∀H',But R H H'->H' R=some (.lst ((Fl.push r a (Fl.lT r a)).map V.int))->Q (.int (Fl.lT r a)) H'
noncomputable def Ai(C:Addr):Sp:=fun vs H Q _=>∃p s t R wf hs m n r cap,vs=[.ref p,.int s,.int t]/\Nt C H p R wf hs m n r/\s≠t/\0<=s/\s<(n:Int)/\Fl.Rooms m cap r/\∀x r' H',Fl.Runs wf hs n s t r r'->Fl.ma wf hs n s t r'=none->But R H H'->H' R=some (.lst (r'.map V.int))->Q (.int x) H'
theorem FA(o:Option Nat):rG (oV o)=o.isNone:=by cases o<;>rfl
theorem Cc(w:Nat):PySem.Builtin.bitXor (w:Int) 1=((Fl.iY w:Nat):Int):=GS w
noncomputable def unI(xs:List V):List Int:=xs.map fun x=>match x with
 | .int i=>i
 |_=>0
theorem Bq(r:List Int):unI (r.map V.int)=r:=by
 unfold unI;rw[bP];exact List.map_id _
theorem AI{n w:Nat}(h:w<n):lx n (w:Int)=some w:=by
 unfold lx;rw[aI (by lia),aI (by lia)];rfl
theorem Nt.but{C:Addr}{H H':Hp}{p R:Addr}{wf:Int->List Nat}{hs:List Int}{m n:Nat}{r r':List Int}(h:Nt C H p R wf hs m n r)(s:But R H H')(e:H' R=some (.lst (r'.map V.int)))(Z:r'.length=2*m):Nt C H' p R wf hs m n r':=⟨h.st.but s,e,h.net,Z,h.big,h.n200⟩
theorem FY{cb:Fl.Cb}{v:Int}{w:Nat}(h:Fl.lk cb v=some w):iX (lD cb) (Sum.inl v:iw)=some (.int (w:Int)):=by
 have:=wg cb v;rw[h]at this;cases e:iX (lD cb) (Sum.inl v:iw)with
 |none=>rw[e]at this;cases this
 |some x=>rw[e]at this;exact cA some this
theorem Kf(B:Blt mg)(D:MthAt K C_Net "shortest" "Net.shortest" (kn 5 3) ["self","source","sink"] f fd)(L9:MthAt K C_Net "spread" "Net.spread" (kn 5 4) ["self","source"] fqc dqc)(Ma:FnOk P w K mg base iT 1 fqc dqc ["self","source"] (xN C_Net))(T:NetC K mg C_Net):FnOk P w K mg base iT 2 f fd ["self","source","sink"] (Bk C_Net):=by
 refine i6 D.F ["self","source","sink","came_by","trail","knot"] (by rintro _ _ _ _ ⟨p,s,t,R,wf,hs,m,n,r,rfl,_⟩;rfl) ?_;rintro _ A _ s H vs Q E X M F _ ⟨p,s,t,R,wf,hs,m,n,r,rfl,N,s0,s1,h⟩;refine⟨_,(iy (iM 3 X (n8 (qv 0) T.cl L9.m Ma (M.mono (by decide)) L9.b .nil mK (iJ (qv 1)))) (iy (iM 4 X (jW kF)) (iy (iM 5 X (qv 2)) (iy (uN bg (jc ES (GD F (qv 3) (qv 5)) z7 (ja _)) (iy (j6 (kI ba aY aX kN (qv 4) (iJ (lM F (qv 3) (qv 5) (fun _ _=>rfl))))) (iF (iM 5 X (iE (mM T.cl T.n_heads (qv 0) rfl) (iQ zr (lM F (qv 3) (qv 5) (fun _ _=>rfl)) iu)))))) (iF (iS (qv 4))))))),?_⟩;have N0:=N;obtain⟨⟨dx,W,Hd,y,e1,e2,e3,e4,e5,n1,n2,n3⟩,eR,J',q,Mh,S⟩:=N;refine iK fun R' U=>?_;simp_arith[e1,CY];refine⟨p,s,R,wf,hs,m,n,r,rfl,N0,s0,s1,fun d H1 J O x=>?_⟩;subst U;refine iK fun R' U=>?_;walk_at "D";intro l Z;have L:=O.trans (iD Z (.lst []));have G':=iD Z (.lst []) _ _ x;have z:upd H1 l (.lst []) l=some (.lst []):=ir;have Mb:H l=none:=O.free Z;have ld:l≠d:=(iO x Z).symm;generalize upd H1 l (.lst [])=H2 at L G' z;subst U;refine iK fun R' U=>?_;walk_at "D";subst U;refine iK fun R' U=>?_;have Cm:=Fl.nH (r:=r) (s:=s) J'.from' n;have A':=Fl.oU (r:=r) J' ⟨s0,s1⟩ n;have B':=Fl.vy (hs:=hs) (cb:=Fl.jR wf hs n s r) n t;have Mf:Fl.kY wf hs n s t r=Fl.jS hs (Fl.jR wf hs n s r) n t:=rfl;rw[Mf]at h;generalize Mc:Fl.jR wf hs n s r=cb at*;unfold Fl.jR at Mc;rw[Mc]at Cm A';refine uT (fun σ I=>∃(v:Int) (tr:List Nat),σ=[some (.ref p),some (.int s),some (.int t),some (.ref d),some (.ref l),some (.int v)]/\Same H I/\I d=some (.dK (lD cb))/\I l=some (.lst (nv tr))/\Fl.jS hs cb n t=tr++Fl.jS hs cb n v) (fun(σ:St) _=>match σ[5]? with |some (some (V.int v))=>(Fl.jS hs cb n v).length|_=>0) ⟨t,[],rfl,L,G',z,rfl⟩ ?_ ?_
 ·rintro σ I ⟨v,tr,rfl,c,i',sz,Me⟩;simp_arith[i',wg,FA];refine⟨⟨_,rfl⟩,?_⟩;cases K':Fl.lk cb v with
  |none=>
   simp_arith[Option.isNone];subst U;walk_at "D";rw[Fl.Ea K',aS]at Me;exact h l I Mb c (by rw[Me];exact sz)
  | some w=>
   obtain⟨Mi,o⟩:=Fl.D9 Cm A' K';have G:=Fl.tM o;have C:jh (hs.map V.int) ((Fl.iY w:Nat):Int)=some (.int (Fl.at' hs (Fl.iY w))):=qF (by rw[J'.len];exact G);have Mg:=FY K';have Mj:tr.length<=n:=by
    have:=cA List.length Me;rw[aH]at this;lia
   simp_arith[Option.isNone,sz,i',Mg];refine⟨⟨l,_,rfl,sz⟩,?_⟩;have L8:(nv tr).length=tr.length:=aa _;refine⟨iU (by lia),?_⟩;have sq:upd I l (.lst (nv tr++[.int (w:Int)])) d=some (.dK (lD cb)):=by rw[iC (c7 ld)];exact i'
   have j:Same H (upd I l (.lst (nv tr++[.int (w:Int)]))):=i4 c Mb;have F':upd I l (.lst (nv tr++[.int (w:Int)])) l=some (.lst (nv (tr++[w]))):=by rw[ir];unfold nv;rw[af];rfl
   generalize upd I l (.lst (nv tr++[.int (w:Int)]))=b at sq j F';simp_arith[iH,j _ _ e1,tR,j _ _ e5,sq,Mg,Cc,C];refine⟨⟨_,_,rfl,j,F',?_⟩,?_⟩
   ·rw[Me,Mi,bp];rfl
   ·rw[Mi,List.length_cons];lia
 ·intro σ I Q1 Q2 g Y;unfold fB mQ wo jK at Y ⊢;cases e:σ[3]? with
  |none=>rw[e]at Y;exact Y.elim
  | some ov=>
   rw[e]at Y;cases ov with
   |none=>exact Y.elim
   | some u=>
    dsimp only at Y ⊢;cases u with
    | ref a=>
     dsimp only at Y ⊢;refine⟨Y.1,?_⟩;have Y:=Y.2;cases e3:σ[5]? with
     |none=>rw[e3]at Y;exact Y.elim
     | some L'=>
      rw[e3]at Y;cases L' with
      |none=>exact Y.elim
      | some u3=>
       dsimp only at Y ⊢;cases u3 with
       | int i=>
        dsimp only at Y ⊢;cases e4:I a with
        |none=>rw[e4]at Y;exact Y.elim
        |some k=>
         rw[e4]at Y;cases k with
         |dK kvs=>dsimp only[tC,vj]at Y ⊢;exact g _ _ Y
         |_=>exact Y.elim
       |_=>exact Y.elim
    |_=>exact Y.elim
theorem Dh(r:List Int)(w:Nat)(x:Int):(r.map V.int).set w (.int x)=(r.set w x).map V.int:=by rw[List.map_set]
theorem Hm{i:Nat}{σ:St}{H:Hp}{Q f:Bool->Hp->Prop}(W:∀b H1,Q b H1->f b H1)(Y:rF (jK i) σ H Q):rF (jK i) σ H f:=by
 unfold rF jK at Y ⊢;cases e:σ[i]? with
 |none=>rw[e]at Y;exact Y.elim
 | some z=>
  rw[e]at Y;cases z with
  |none=>exact Y.elim
  | some u=>
   dsimp only at Y ⊢;cases u with
   | ref a=>
    dsimp only at Y ⊢;cases L:H a with
    |none=>rw[L]at Y;exact Y.elim
    |some l=>
     rw[L]at Y;cases l with
     |lst xs=>exact W _ _ Y
     |_=>exact Y.elim
   |_=>exact Y.elim
theorem Gn(B:Blt mg)(D:MthAt K C_Net "push" "Net.push" (kn 5 5) ["self","trail"] f fd)(T:NetC K mg C_Net):FnOk P w K mg base iT 1 f fd ["self","trail"] (Aq C_Net):=by
 refine i6 D.F ["self","trail","amount","way"] (by rintro _ _ _ _ ⟨p,l,R,wf,hs,m,n,r,tr,rfl,_⟩;rfl) ?_;rintro _ A _ s H vs Q E X M _ _ ⟨p,l,R,wf,hs,m,n,r,tr,rfl,N,el,lR,Mc,i',e,h⟩;refine⟨_,(iy (iM 2 X (jZ (Ck rfl) rfl B.min gg (iJ (kR ["way","self"] [none,some 0] (jb (qv 1)) (iV 0) (iE (mM T.cl T.n_rooms (qv 1) rfl) (qv 0)))))) (iy (jY bg rfl (jb (qv 1)) (jd 3 X) (iy (AY (mM T.cl T.n_rooms (qv 0) rfl) (qv 3) Cr (qv 2) Gc oN) (iF (AY (mM T.cl T.n_rooms (qv 0) rfl) (iQ zr (qv 3) iu) Cr (qv 2) Ga oN)))) (iF (iS (qv 2))))),?_⟩;have N0:=N;obtain⟨⟨dx,W,Hd,c,e1,e2,e3,e4,e5,n1,n2,n3⟩,eR,sq,g,Mb,S⟩:=N;have B':(nv tr).length=tr.length:=aa _;refine iK fun R' U=>?_;walk_at "D";refine jA (i5 K l) H (fun R2 j=>?_) (fun z t=>jn tr.length (fun i L I=>∃Z,L=[Z,some (.ref p)]/\Same H I/\I z=some (.lst (((tr.take i).map (Fl.at' r)).map V.int))) ⟨none,rfl,iD t _,ir⟩ ?_ ?_)
 ·unfold i8;walk_at "D";exact⟨l,rfl,⟨_,SqL.of el⟩,j⟩
 ·rintro i L I hi ⟨Z,rfl,u,k⟩;have x1:(nv tr)[i]? =some (.int ((tr[i]:Nat):Int)):=by unfold nv;rw[aU,gE hi];rfl
  have x2:tr[i]? =some tr[i]:=gE hi;have Ma:=e _ (cN hi);generalize tr[i]=wi at x1 x2 Ma;refine⟨⟨_,_,SqL.of (u _ _ el),x1⟩,?_⟩;rintro y H' ⟨rfl,O⟩;have E1:=aJ (x1.symm.trans (O _ (SqL.of (u _ _ el))));subst E1;have L':jh (r.map V.int) (wi:Int)=some (.int (Fl.at' r wi)):=qF (by rw[g];exact Ma);simp_arith[iH,u _ _ e1,qz,u _ _ eR,L'];refine⟨_,k,?_,_,rfl,i4 u t,?_⟩
  ·rw[aa,aa,aP];exact iU (by lia)
  ·rw[ir,ji x2,af,af];rfl
 ·rintro L I ⟨Z,rfl,u,k⟩;refine⟨⟨_,SqL.of (u _ _ el),by lia⟩,?_⟩;rw[aD]at k;refine⟨z,_,rfl,k,by simpa using Mc,fun a J Mg=>?_⟩;have Mh:a=Fl.lT r tr:=by
   have h1:=Mg _ (Fl.zy r Mc);obtain⟨w,L9,rfl⟩:=av.mp J;have h2:=Fl.vH r L9;lia
  subst Mh;generalize Fl.lT r tr=a at*;walk_at "D";subst U;refine iK fun R' U=>?_;have zR:z≠R:=(iO eR t).symm;refine kA (i5 K l) I (fun R3 sz=>?_) (lG (K:=K) (a:=l) (xs:=nv tr) (fun i σ F=>∃v3,σ=[some (.ref p),some (.ref l),some (.int a),v3]/\But R H F/\F R=some (.lst ((Fl.push r (tr.take i) a).map V.int))) ⟨none,rfl,fun b o _ q=>u b o q,u _ _ eR⟩ (fun i σ F _ C=>by obtain⟨_,_,d,_⟩:=C;exact SqL.of (d _ _ lR el)) ?_ ?_)
  ·unfold i8;walk_at "D";exact⟨l,rfl,⟨_,SqL.of (u _ _ el)⟩,sz⟩
  ·rintro i x σ F G ⟨v3,rfl,d,K'⟩;unfold nv at G;rw[aU]at G;obtain⟨w,L9,rfl⟩:=dG.mp G;have J':=e w (aC L9);have Ml:=Fl.tM J';have v:(Fl.push r (tr.take i) a).length=2*m:=by rw[Fl.tI];exact g
   have Mj:Fl.push r (tr.take (i+1)) a=Fl.bump (Fl.push r (tr.take i) a) w a:=by rw[ji L9,Fl.E5]
   generalize Fl.push r (tr.take i) a=r1 at*;have Mi:=d _ _ n3 e1;have h1:jh (r1.map V.int) (w:Int)=some (.int (Fl.at' r1 w)):=qF (by lia);have L8:lx (r1.map V.int).length (w:Int)=some w:=AI (by rw[aa];lia);refine iK fun R5 F'=>?_;simp_arith[Mi,qz,K',h1,L8];refine⟨gH _,?_⟩;rw[Dh];have b5:But R H (upd F R (.lst ((r1.set w (Fl.at' r1 w-a)).map V.int))):=d.trans (But.at R F _);have Me:=b5 _ _ n3 e1;have A':upd F R (.lst ((r1.set w (Fl.at' r1 w-a)).map V.int)) R=some (.lst ((r1.set w (Fl.at' r1 w-a)).map V.int)):=ir;generalize upd F R (.lst ((r1.set w (Fl.at' r1 w-a)).map V.int))=Y at b5 Me A';have G':(r1.set w (Fl.at' r1 w-a)).length=2*m:=by rw[cL];exact v
   have h2:jh ((r1.set w (Fl.at' r1 w-a)).map V.int) ((Fl.iY w:Nat):Int)=some (.int (Fl.at' r1 (Fl.iY w))):=by
    rw[qF (by lia),Fl.yR,aG (fun z=>Fl.vI w z.1.symm)]
   have Mf:lx ((r1.set w (Fl.at' r1 w-a)).map V.int).length ((Fl.iY w:Nat):Int)=some (Fl.iY w):=AI (by rw[aa];lia);subst F';simp_arith[Me,qz,A',Cc,h2,Mf];refine⟨gH _,_,rfl,b5.trans (But.at R Y _),?_⟩;rw[ir,Mj,Dh];rfl
  ·rintro σ F ⟨v3,rfl,d,K'⟩;rw[B',aD]at K';subst U;walk_at "D";exact h F d K'
theorem Gk(B:Blt mg)(D:MthAt K C_Net "fill" "Net.fill" (kn 5 2) ["self","source","sink"] f fd)(sq:MthAt K C_Net "shortest" "Net.shortest" (kn 5 3) ["self","source","sink"] fqe dqe)(F':FnOk P w K mg base iT 2 fqe dqe ["self","source","sink"] (Bk C_Net))(A':MthAt K C_Net "push" "Net.push" (kn 5 5) ["self","trail"] fqk dqk)(J':FnOk P w K mg base iT 1 fqk dqk ["self","trail"] (Aq C_Net))(T:NetC K mg C_Net):FnOk P w K mg base iT 3 f fd ["self","source","sink"] (Ai C_Net):=by
 refine i6 D.F ["self","source","sink","flowing","trail"] (by rintro _ _ _ _ ⟨p,s,t,R,wf,hs,m,n,r,cap,rfl,_⟩;rfl) ?_;rintro _ A _ s H vs Q E X M _ _ ⟨p,s,t,R,wf,hs,m,n,r,cap,rfl,N,st,s0,s1,rm,h⟩;refine⟨_,(iy (iM 3 X iu) (iy (iM 4 X (n8 (qv 0) T.cl sq.m F' (M.mono (by decide)) sq.b .nil mK (iG (qv 1) (qv 2)))) (iy (uN bg (GC (qv 4)) (iy (rT (i:=3) X rfl (Or.inl rfl) (n8 (qv 0) T.cl A'.m J' (M.mono (by decide)) A'.b .nil mK (iJ (qv 4))) uh) (iF (iM 4 X (n8 (qv 0) T.cl sq.m F' (M.mono (by decide)) sq.b .nil mK (iG (qv 1) (qv 2))))))) (iF (iS (qv 3)))))),?_⟩;refine iK fun L U=>?_;walk_at "D";subst U;refine iK fun L U=>?_;obtain⟨dx,W,Hd,y,e1,e2,e3,C,j,v,S,n3⟩:=N.st;simp_arith[e1,Dq];refine⟨p,s,t,R,wf,hs,m,n,r,rfl,N,s0,s1,fun l H1 Z O z=>?_⟩;have lR:l≠R:=(iO N.eR Z).symm;subst U;refine iK fun L U=>?_;refine uT (fun σ I=>∃(x:Int) (l:Addr) (r1:List Int),σ=[some (.ref p),some (.int s),some (.int t),some (.int x),some (.ref l)]/\But R H I/\I R=some (.lst (r1.map V.int))/\Fl.Runs wf hs n s t r r1/\Fl.Rooms m cap r1/\I l=some (.lst (nv (Fl.kY wf hs n s t r1)))/\l≠R) (fun _ I=>match I R with |some (.lst xs)=>(Fl.yP cap m-Fl.ex hs m (unI xs) t).toNat|_=>0) ⟨0,l,r,rfl,fun b o _ q=>O b o q,O _ _ N.eR,.done r,rm,z,lR⟩ ?_ ?_
 ·rintro σ I ⟨x,l,r1,rfl,b2,B',run,K',u,lR⟩;have N2:=N.but b2 B' K'.len;have L9:=b2 _ _ n3 e1;by_cases ct:Fl.kY wf hs n s t r1=[]
  ·have J:Fl.ma wf hs n s t r1=none:=by unfold Fl.ma;rw[aI ct]
   have d:(nv (Fl.kY wf hs n s t r1)).isEmpty=true:=by rw[ct];rfl
   simp_arith[u,d];subst U;walk_at "D";exact h x r1 I run J b2 B'
  ·have J:Fl.ma wf hs n s t r1=some (Fl.push r1 (Fl.kY wf hs n s t r1) (Fl.lT r1 (Fl.kY wf hs n s t r1))):=by unfold Fl.ma;rw[aG ct]
   have d:(nv (Fl.kY wf hs n s t r1)).isEmpty=false:=by unfold nv;cases g:Fl.kY wf hs n s t r1 with |nil=>exact absurd g ct|cons _ _=>rfl
   obtain⟨_,gi,G⟩:=Fl.yV N.net st ⟨s0,s1⟩ ct;have F:=Fl.zh N.net st ⟨s0,s1⟩ K' J;have L8:=Fl.vy (hs:=hs) (cb:=Fl.jR wf hs n s r1) n t;simp_arith[u,d,L9,Ho];refine⟨p,l,R,wf,hs,m,n,r1,_,rfl,N2,u,lR,ct,bw L8 N.n200,fun w e=>(G.up w e).1,fun H3 b3 G'=>?_⟩;have b4:=b2.trans b3;have N3:=N2.but b3 G' (by rw[Fl.tI];exact K'.len);simp_arith[b4 _ _ n3 e1,Dq];refine⟨p,s,t,R,wf,hs,m,n,_,rfl,N3,s0,s1,fun l2 k a c sz=>?_⟩;have i':=c _ _ G';refine⟨⟨_,l2,_,rfl,b4.trans fun b o _ q=>c b o q,i',run.snoc J,F.1,sz,(iO G' a).symm⟩,?_⟩;rw[i',B'];dsimp only;rw[Bq,Bq];have:=F.2.2;have:=Fl.Lz (hs:=hs) F.1 t;lia
 ·intro σ I Q1 Q2 g Y;exact Hm g Y
structure NtG(C:Addr)(H:Hp)(p dx W Hd R:Addr)(ls:List Addr)(f:Nat->List V)(hv rv:List V):Prop where
 o:H p=some (kC C dx W Hd R)
 w:H W=some (.lst (ls.map V.ref))
 l:∀(i:Nat) (a:Addr),ls[i]? =some a->H a=some (.lst (f i))/\a≠R/\a≠Hd/\a≠W
 nd:ls.Nodup
 h:H Hd=some (.lst hv)
 r:H R=some (.lst rv)
 n1:W≠R
 n2:Hd≠R
 n3:W≠Hd
noncomputable def rC(H:Hp)(wa Hd R:Addr)(a b c:List V):Hp:=upd (upd (upd H wa (.lst a)) Hd (.lst b)) R (.lst c)
theorem NtG.put{C:Addr}{H:Hp}{p dx W Hd R:Addr}{l:List Addr}{f:Nat->List V}{Y m:List V}(G:NtG C H p dx W Hd R l f Y m){i:Nat}(hi:l[i]? =some wa)(x y z:V):
  NtG C (rC H wa Hd R (f i++[x]) (Y++[y]) (m++[z])) p dx W Hd R l (fun j=>if j=i then f i++[x]else f j) (Y++[y]) (m++[z]):=by
 obtain⟨u,g,Q,n⟩:=G.l i wa hi;have p1:p≠wa:=pG G.o u (by intro z;cases z);have p2:p≠Hd:=pG G.o G.h (by intro z;cases z);have v:p≠R:=pG G.o G.r (by intro z;cases z);unfold rC;refine⟨by rw[iC v,iC p2,iC p1];exact G.o,by rw[iC G.n1,iC G.n3,iC (c7 n)];exact G.w,fun j a J=>?_,G.nd,by rw[iC G.n2,ir],ir,G.n1,G.n2,G.n3⟩;obtain⟨b1,b2,b3,b4⟩:=G.l j a J;refine⟨?_,b2,b3,b4⟩;rw[iC b2,iC b3];by_cases c:j=i
 ·subst c;rw[hi]at J;cases J;rw[aI rfl,ir]
 ·rw[aG c,iC (fun e=>c ?_)]
  ·exact b1
  ·subst e;have h1:=(ax.mp J);have h2:=(ax.mp hi);exact(fQ G.nd).mp (h1.2.trans h2.2.symm)
noncomputable def B4(C:Addr):Sp:=fun vs H Q _=>∃p dx W Hd R l f Y m i wa J c,vs=[.ref p,.int ((i:Nat):Int),.int J,.int c]/\NtG C H p dx W Hd R l f Y m/\l[i]? =some wa/\(f i).length<=900/\Y.length<=900/\m.length<=900/\Q .non (rC H wa Hd R (f i++[.int (Y.length:Int)]) (Y++[.int J]) (m++[.int c]))
noncomputable def Am(C:Addr):Sp:=fun vs H Q _=>∃p dx n r zs as,vs=[.ref p,.int ((n:Nat):Int),.ref r]/\H p=some (.ins C dx [])/\H r=some (.lst zs)/\j8 H zs as/\n<=200/\as.length<=450/\(∀a∈as,(0<=a.1/\a.1<(n:Int))/\0<=a.2.1/\a.2.1<(n:Int))/\∀R H',H R=none->But p H H'->Nt C H' p R (Fl.ki as) (Fl.jB as) as.length n (Fl.km as)->Q .non H'
theorem D2(as:List Fl.kx)(u:Int):(Fl.ki as u).length<=2*as.length:=by
 unfold Fl.ki;have:=bq (fun w=>decide (Fl.at' (Fl.jB as) (Fl.iY w)=u)) (List.range (2*as.length));rw[cB]at this;exact this
theorem But.upd{p q:Addr}{H H':Hp}{o:HO}(b:But p H H')(h:H q=none):But p H (upd H' q o):=fun c u n e=>by rw[iC (iO e h)];exact b c u n e
theorem zX(a b:List Nat):nv (a++b)=nv a++nv b:=af
theorem JI(B:Blt mg)(D:MthAt K C_Net "put_way" "Net.put_way" (kn 5 1) ["self","tail","head","room"] f fd)(T:NetC K mg C_Net):FnOk P w K mg base iT 1 f fd ["self","tail","head","room"] (B4 C_Net):=by
 refine i6 D.F ["self","tail","head","room"] (by rintro _ _ _ _ ⟨p,dx,W,Hd,R,l,f,Y,m,i,wa,J,c,rfl,_⟩;rfl) ?_;rintro _ A _ s H vs Q E X M _ _ ⟨p,dx,W,Hd,R,l,f,Y,m,i,wa,J,c,rfl,G,hi,l1,l2,d,h⟩;refine⟨_,(iy (j6 (kI ba aY aX kN (iE (mM T.cl T.n_ways_from (qv 0) rfl) (qv 1)) (iJ (kZ B (mM T.cl T.n_heads (qv 0) rfl))))) (iy (j6 (kI ba aY aX kN (mM T.cl T.n_heads (qv 0) rfl) (iJ (qv 2)))) (iF (j6 (kI ba aY aX kN (mM T.cl T.n_rooms (qv 0) rfl) (iJ (qv 3))))))),?_⟩;have e1:=G.o;have e2:=G.w;have e3:=G.h;have t:=zD hi;obtain⟨u,x,y,n⟩:=G.l i wa hi;have p1:p≠wa:=pG G.o u (by intro z;cases z);have p2:p≠Hd:=pG G.o G.h (by intro z;cases z);refine iK fun L U=>?_;simp_arith[iH,e1,DH,tR,e2,t,u,e3];refine⟨⟨wa,_,rfl,u⟩,iU (by lia),?_⟩;have C:upd H wa (.lst (f i++[.int (Y.length:Int)])) p=some (kC C_Net dx W Hd R):=by rw[iC p1];exact e1
 have j:upd H wa (.lst (f i++[.int (Y.length:Int)])) Hd=some (.lst Y):=by rw[iC (c7 y)];exact e3
 have e:upd H wa (.lst (f i++[.int (Y.length:Int)])) R=some (.lst m):=by rw[iC (c7 x)];exact G.r
 subst U;refine iK fun L U=>?_;simp_arith[C,tR,j];refine⟨⟨Hd,_,rfl,j⟩,iU (by lia),?_⟩;have a:upd (upd H wa (.lst (f i++[.int (Y.length:Int)]))) Hd (.lst (Y++[.int J])) p=some (kC C_Net dx W Hd R):=by rw[iC p2];exact C
 have b:upd (upd H wa (.lst (f i++[.int (Y.length:Int)]))) Hd (.lst (Y++[.int J])) R=some (.lst m):=by rw[iC (c7 G.n2)];exact e
 subst U;simp_arith[a,qz,b];exact⟨⟨R,_,rfl,b⟩,iU (by lia),h⟩
theorem NtG.congr{C:Addr}{H:Hp}{p dx W Hd R:Addr}{l:List Addr}{f g:Nat->List V}{Y m B r:List V}(G:NtG C H p dx W Hd R l f Y m)(h:∀i,i<l.length->f i=g i)(e1:Y=B)(e2:m=r):NtG C H p dx W Hd R l g B r:=by
 subst e1 e2;exact ⟨G.o,G.w,fun i a J=>by rw [<- h i (ax.mp J).1]; exact G.l i a J,G.nd,G.h,G.r,G.n1,G.n2,G.n3⟩
theorem BR{p Hd R:Addr}{H H':Hp}{a b c:List V}(s:But p H H')(h1:H wa=none)(h2:H Hd=none)(D:H R=none):But p H (rC H' wa Hd R a b c):=((s.upd h1).upd h2).upd D
theorem GQ{as:List Fl.kx}{a:Fl.kx}{m N j:Nat}(h1:a.1=(m:Int))(h2:a.2.1=(N:Int)){x y:V}(G:x= .int ((2*as.length:Nat):Int))(O:y= .int ((2*as.length+1:Nat):Int)):
  (if j=N then(if N=m then nv (Fl.ki as (m:Int))++[x]else nv (Fl.ki as (N:Int)))++[y]else(if j=m then nv (Fl.ki as (m:Int))++[x]else nv (Fl.ki as (j:Int))))=nv (Fl.ki (as++[a]) (j:Int)):=by
 rw[Fl.D1,zX,zX,h1,h2,G,O];by_cases c1:j=m
 ·by_cases c2:j=N
  ·have:N=m:=by lia
   subst c2;subst this;rw[aI rfl,aI rfl,aI rfl,aI rfl];rfl
  ·subst c1;rw[aG c2,aI rfl,aI rfl,aG (by lia)];show _=_++[];rw[aS];rfl
 ·by_cases c2:j=N
  ·subst c2;rw[aI rfl,aG c1,aG (by lia),aI rfl];show _=(_++[])++_;rw[aS];rfl
  ·rw[aG c2,aG c1,aG (by lia),aG (by lia)];show _=(_++[])++[];rw[aS,aS]
theorem Gm(B:Blt mg)(D:MthAt K C_Net "__init__" "Net.__init__" (kn 5 0) ["self","many","arcs"] f fd)(Mc:MthAt K C_Net "put_way" "Net.put_way" (kn 5 1) ["self","tail","head","room"] fqd dqd)(Mp:FnOk P w K mg base iT 1 fqd dqd ["self","tail","head","room"] (B4 C_Net))(T:NetC K mg C_Net):FnOk P w K mg base iT 2 f fd ["self","many","arcs"] (Am C_Net):=by
 refine i6 D.F ["self","many","arcs","tail","head","room"] (by rintro _ _ _ _ ⟨p,dx,n,al,zs,as,rfl,_⟩;rfl) ?_;rintro _ A _ s H vs Q E X M _ _ ⟨p,dx,n,al,zs,as,rfl,ep,Mg,pz,S,J,L8,h⟩;refine⟨_,(iy (xg T.cl T.n_ways_from (qv 0) (kR ["knot"] [none] (nD rfl B.range (iJ (qv 1))) (iV 0) (jW kF)) rfl) (iy (xg T.cl T.n_heads (qv 0) (jW kF) rfl) (iy (xg T.cl T.n_rooms (qv 0) (jW kF) rfl) (iF (jY bg rfl (jb (qv 2)) (jQ (n:=3) rfl (iR (jd 3 X) (iR (jd 4 X) (iR (jd 5 X) jF)))) (iy (j6 (n8 (qv 0) T.cl Mc.m Mp (M.mono (by decide)) Mc.b .nil mK (jH (qv 3) (iG (qv 4) (qv 5))))) (iF (j6 (n8 (qv 0) T.cl Mc.m Mp (M.mono (by decide)) Mc.b .nil mK (jH (qv 4) (iG (qv 3) iu))))))))))),?_⟩;have sz:zs.length=as.length:=aq pz;have MB:al≠p:=pG Mg ep (by intro z;cases z);refine iK fun R' l=>?_;walk_at "D";refine jA (lE 0 n) H (fun R2 i'=>?_) (fun W hW=>jn n (fun i L I=>∃m ls,L=[m]/\Same H I/\I W=some (.lst (ls.map V.ref))/\ls.length=i/\ls.Nodup/\∀a∈ls,I a=some (.lst [])/\a≠W/\H a=none) ⟨none,[],rfl,iD hW _,ir,rfl,.nil,fun a z=>by cases z⟩ ?_ ?_)
 ·unfold ni;walk_at "D";exact⟨_,rfl,by lia,by lia,i'⟩
 ·rintro i L I hi ⟨m,ls,rfl,s1,eW,Z,nd,G'⟩;refine⟨hi,?_⟩;rintro y H' ⟨rfl,rfl⟩;walk_at "D";intro b U;have q:=iD U (.lst []);have eb:upd H' b (.lst []) b=some (.lst []):=ir;have Mb:=q _ _ eW;have bW:b≠W:=(iO eW U).symm;have s2:=s1.trans q;have sq:∀a∈ls,upd H' b (.lst []) a=some (.lst [])/\a≠b:=fun a J=>⟨q _ _ (G' a J).1,iO (G' a J).1 U⟩;generalize upd H' b (.lst [])=H3 at q eb Mb s2 sq;refine⟨_,Mb,by rw[aa];exact iU (by lia),_,ls++[b],rfl,i4 s2 hW,by rw[ir,af];rfl,by rw[aH,Z];rfl,?_,fun a J=>?_⟩
  ·rw[eT];refine⟨nd,by simp,fun a J c Y=>?_⟩;rw[aK.mp Y];exact(sq a J).2
  ·rcases br.mp J with J|J
   ·refine⟨by rw[iC (G' a J).2.1];exact(sq a J).1,(G' a J).2⟩
   ·rw[aK.mp J];exact⟨by rw[iC bW];exact eb,bW,s1.free U⟩
 rintro L H1 ⟨m,ls,rfl,s1,eW,Z,nd,G'⟩;refine⟨ay _,?_⟩;have MD:=s1 _ _ ep;simp_arith[MD];refine⟨dO rfl,?_⟩;have b2:But p H (upd H1 p (.ins C_Net dx (jw "ways_from" (.ref W) []))):=fun b o n q=>by rw[iC n];exact s1 b o q
 have Mt:upd H1 p (.ins C_Net dx (jw "ways_from" (.ref W) [])) p=some (.ins C_Net dx (jw "ways_from" (.ref W) [])):=ir;have Wp:W≠p:=(iO ep hW).symm;have Mb:upd H1 p (.ins C_Net dx (jw "ways_from" (.ref W) [])) W=some (.lst (ls.map V.ref)):=by rw[iC Wp];exact eW
 have sq:∀a∈ls,upd H1 p (.ins C_Net dx (jw "ways_from" (.ref W) [])) a=some (.lst [])/\a≠W/\H a=none:=fun a J=>⟨by rw[iC (iO ep (G' a J).2.2).symm];exact(G' a J).1,(G' a J).2⟩;generalize upd H1 p (.ins C_Net dx (jw "ways_from" (.ref W) []))=H2 at b2 Mt Mb sq;clear G' eW MD s1;have Mz:∀{H':Hp} {q:Addr},But p H H'->H' p≠none->H' q=none->H q=none:=fun{H' q} b O g=>by
  cases e:H q with
  |none=>rfl
  |some o=>
   have ME:q ≠ p:=fun z=>O (by rw [<- z]; exact g);rw[b _ _ ME e]at g;cases g
 subst l;refine iK fun R' l=>?_;walk_at "D";intro Hd Mf;have Mr:H Hd=none:=Mz b2 (by rw[Mt];simp) Mf;have Mh:upd H2 Hd (.lst []) p=some (.ins C_Net dx (jw "ways_from" (.ref W) [])):=iD Mf _ _ _ Mt;have Mx:upd H2 Hd (.lst []) Hd=some (.lst []):=ir;have MF:W≠Hd:=iO Mb Mf;have Mo:∀a∈ls,upd H2 Hd (.lst []) a=some (.lst [])/\a≠Hd:=fun a J=>⟨iD Mf _ _ _ (sq a J).1,iO (sq a J).1 Mf⟩;have Mv:=iD Mf (.lst []) _ _ Mb;have b3:But p H (upd H2 Hd (.lst [])):=b2.upd Mr;generalize upd H2 Hd (.lst [])=H3 at Mh Mx Mo Mv b3;simp_arith[Mh];refine⟨dO rfl,?_⟩;have MA:Hd≠p:=(iO ep Mr).symm;have Me:upd H3 p (.ins C_Net dx (jw "heads" (.ref Hd) (jw "ways_from" (.ref W) []))) p=some (.ins C_Net dx (jw "heads" (.ref Hd) (jw "ways_from" (.ref W) []))):=ir;have Ml:upd H3 p (.ins C_Net dx (jw "heads" (.ref Hd) (jw "ways_from" (.ref W) []))) Hd=some (.lst []):=by rw[iC MA];exact Mx
 have Ms:upd H3 p (.ins C_Net dx (jw "heads" (.ref Hd) (jw "ways_from" (.ref W) []))) W=some (.lst (ls.map V.ref)):=by rw[iC Wp];exact Mv
 have Mn:∀a∈ls,upd H3 p (.ins C_Net dx (jw "heads" (.ref Hd) (jw "ways_from" (.ref W) []))) a=some (.lst []):=fun a J=>by rw[iC (iO ep (sq a J).2.2).symm];exact(Mo a J).1
 have b4:But p H (upd H3 p (.ins C_Net dx (jw "heads" (.ref Hd) (jw "ways_from" (.ref W) [])))):=b3.trans (But.at p H3 _);generalize upd H3 p (.ins C_Net dx (jw "heads" (.ref Hd) (jw "ways_from" (.ref W) [])))=F at Me Ml Ms Mn b4;subst l;refine iK fun R' l=>?_;walk_at "D";intro R L9;have fR:H R=none:=Mz b4 (by rw[Me];simp) L9;have Ma:upd F R (.lst []) p=some (.ins C_Net dx (jw "heads" (.ref Hd) (jw "ways_from" (.ref W) []))):=iD L9 _ _ _ Me;have F':upd F R (.lst []) R=some (.lst []):=ir;have Mu:=iD L9 (.lst []) _ _ Ml;have Mw:=iD L9 (.lst []) _ _ Ms;have WR:W≠R:=iO Ms L9;have MG:Hd≠R:=iO Ml L9;have Mm:∀a∈ls,upd F R (.lst []) a=some (.lst [])/\a≠R:=fun a J=>⟨iD L9 _ _ _ (Mn a J),iO (Mn a J) L9⟩;have b5:But p H (upd F R (.lst [])):=b4.upd fR;generalize upd F R (.lst [])=H5 at Ma F' Mu Mw Mm b5;simp_arith[Ma];refine⟨dO rfl,?_⟩;have Rp:R≠p:=(iO ep fR).symm;have eo:(HO.ins C_Net dx (jw "rooms" (.ref R) (jw "heads" (.ref Hd) (jw "ways_from" (.ref W) []))))=kC C_Net dx W Hd R:=rfl;rw[eo];have b6:But p H (upd H5 p (kC C_Net dx W Hd R)):=b5.trans (But.at p H5 _);have G0:NtG C_Net (upd H5 p (kC C_Net dx W Hd R)) p dx W Hd R ls (fun i=>nv (Fl.ki (as.take 0) (i:Int))) ((Fl.jB (as.take 0)).map V.int) ((Fl.km (as.take 0)).map V.int):=by
  refine⟨ir,by rw[iC Wp];exact Mw,fun i a Mq=>?_,nd,by rw[iC MA];exact Mu,by rw[iC Rp];exact F',WR,MG,MF⟩;have J:=aC Mq;exact⟨by rw[iC (iO ep (sq a J).2.2).symm];exact(Mm a J).1,(Mm a J).2,(Mo a J).2,(sq a J).2.1⟩
 generalize upd H5 p (kC C_Net dx W Hd R)=H6 at b6 G0;have MC:∀a∈ls,H a=none:=fun a J=>(sq a J).2.2;clear sq Mo Mn Mm b2 b3 b4 b5 Mt Mh Me Ma Mb Mv Ms Mw Mx Ml Mu F';subst l;refine kA (i5 K al) H6 (fun R3 B'=>?_) (lG (K:=K) (a:=al) (xs:=zs) (fun k σ I=>∃v1 v2 v3,σ=[some (.ref p),some (.int (n:Int)),some (.ref al),v1,v2,v3]/\But p H I/\NtG C_Net I p dx W Hd R ls (fun i=>nv (Fl.ki (as.take k) (i:Int))) ((Fl.jB (as.take k)).map V.int) ((Fl.km (as.take k)).map V.int)) ⟨none,none,none,rfl,b6,G0⟩ (fun i σ I _ C=>by obtain⟨_,_,_,_,b,_⟩:=C;exact SqL.of (b _ _ MB Mg)) ?_ ?_)
 ·unfold i8;walk_at "D";exact⟨al,rfl,⟨_,SqL.of (b6 _ _ MB Mg)⟩,B'⟩
 ·rintro k x σ I d ⟨v1,v2,v3,rfl,b7,G⟩;obtain⟨a,Mi,pa⟩:=jm pz d;obtain⟨t,rfl,et⟩:=Tp.tups pa (b7.tups ep rfl);have L':=(ax.mp Mi).1;obtain⟨⟨h1,h2⟩,v,h4⟩:=L8 a (aC Mi);have i1:ls[a.1.toNat]? =some (ls[a.1.toNat]'(by lia)):=gE _;have i2:ls[a.2.1.toNat]? =some (ls[a.2.1.toNat]'(by lia)):=gE _;generalize ls[a.1.toNat]'(by lia)=m at i1;generalize ls[a.2.1.toNat]'(by lia)=N at i2;have c1:((a.1.toNat:Nat):Int)=a.1:=by lia
  have c2:((a.2.1.toNat:Nat):Int)=a.2.1:=by lia
  have A':(as.take k).length=k:=by rw[aP];lia
  have K':((Fl.jB (as.take k)).map V.int).length=2*k:=by rw[aa,Fl.vi,A']
  have Mj:((Fl.km (as.take k)).map V.int).length=2*k:=by rw[aa,Fl.tF,A']
  have J':∀u:Int,(nv (Fl.ki (as.take k) u)).length<=2*k:=fun u=>by
   have:=D2 (as.take k) u;rw[A']at this;unfold nv;rw[aa];exact this
  simp_arith[et,G.o,Dj];refine⟨p,dx,W,Hd,R,ls,_,_,_,a.1.toNat,m,a.2.1,a.2.2,by rw[c1],G,i1,by have:=J' ((a.1.toNat:Nat):Int);lia,by lia,by lia,?_⟩;have G1:=G.put i1 (.int (((Fl.jB (as.take k)).map V.int).length:Int)) (.int a.2.1) (.int a.2.2);have b8:=BR (wa:=m) (Hd:=Hd) (R:=R) (a:=nv (Fl.ki (as.take k) ((a.1.toNat:Nat):Int))++[.int (((Fl.jB (as.take k)).map V.int).length:Int)]) (b:=(Fl.jB (as.take k)).map V.int++[.int a.2.1]) (c:=(Fl.km (as.take k)).map V.int++[.int a.2.2]) b7 (MC _ (aC i1)) Mr fR;generalize rC I m Hd R (nv (Fl.ki (as.take k) ((a.1.toNat:Nat):Int))++[.int (((Fl.jB (as.take k)).map V.int).length:Int)]) ((Fl.jB (as.take k)).map V.int++[.int a.2.1]) ((Fl.km (as.take k)).map V.int++[.int a.2.2])=H8 at G1 b8;simp_arith[G1.o,Dj];refine⟨p,dx,W,Hd,R,ls,_,_,_,a.2.1.toNat,N,a.1,0,by rw[c2],G1,i2,?_,by rw[aH,K'];show _+1<=_;lia,by rw[aH,Mj];show _+1<=_;lia,?_⟩
  ·split
   ·rw[aH];have:=J' ((a.1.toNat:Nat):Int);show _+1<=_;lia
   ·have:=J' ((a.2.1.toNat:Nat):Int);lia
  have G2:=G1.put i2 (.int ((((Fl.jB (as.take k)).map V.int)++[V.int a.2.1]).length:Int)) (.int a.1) (.int 0);have b9:=BR (wa:=N) (Hd:=Hd) (R:=R) (a:=(if a.2.1.toNat=a.1.toNat then nv (Fl.ki (as.take k) ((a.1.toNat:Nat):Int))++[.int (((Fl.jB (as.take k)).map V.int).length:Int)]else nv (Fl.ki (as.take k) ((a.2.1.toNat:Nat):Int)))++[.int ((((Fl.jB (as.take k)).map V.int)++[V.int a.2.1]).length:Int)]) (b:=((Fl.jB (as.take k)).map V.int++[.int a.2.1])++[.int a.1]) (c:=((Fl.km (as.take k)).map V.int++[.int a.2.2])++[.int 0]) b8 (MC _ (aC i2)) Mr fR;refine⟨_,_,_,rfl,b9,G2.congr (fun j r=>?_) ?_ ?_⟩
  ·rw[ji Mi];exact GQ c1.symm c2.symm (by rw[K',A']) (by rw[aH,K',A'];rfl)
  ·rw[ji Mi,Fl.yB,af,bp];rfl
  ·rw[ji Mi,Fl.zm,af,bp];rfl
 ·rintro σ I ⟨v1,v2,v3,rfl,b7,G⟩;rw[sz,aD]at G;refine h R I fR b7 ⟨⟨dx,W,Hd,ls,G.o,G.w,Z,fun i a Mq=>⟨(G.l i a Mq).1,(G.l i a Mq).2.1⟩,G.h,G.n1,G.n2,Rp.symm⟩,G.r,Fl.zw L8,Fl.tF as,by lia,S⟩
end
end My
namespace My
open PySem L2
section
variable{P:Program}{w:World}{K:L3}{mg:L4}{base:Heap}{c1 c2 c3 c4 e1 e2 e3:Tok}{C_Net C_NoWeb fqa:Addr}{dI:FuncData}
structure Cst2(mg:L4)(t1 t2 t3:Tok):Prop where
 SOURCE:mg "SOURCE"=some (.int 0 t1)
 SINK:mg "SINK"=some (.int 1 t2)
 FIRST:mg "FIRST"=some (.int 2 t3)
theorem rV{α g:Type}(f:α->g):∀(b:Bool) (xs:List α),jy b (xs.map f)=(jy b xs).map f
 |true,[]=>rfl
 |false,[]=>rfl
 |true,x::xs=>by show f x::jy false (xs.map f)=f x::(jy false xs).map f;rw[rV f false xs]
 |false,x::xs=>rV f true xs
noncomputable def Bb(C:Addr):Sp:=fun vs H Q _=>∃p R wf hs m n r,vs=[.ref p]/\Nt C H p R wf hs m n r/\∀l H',H l=none->Same H H'->H' l=some (.lst ((jy false r).map V.int))->Q (.ref l) H'
noncomputable def Bj(C:Addr):Sp:=fun vs H Q _=>∃p s R wf hs m n r,vs=[.ref p,.int s]/\Nt C H p R wf hs m n r/\0<=s/\s<(n:Int)/\n<64/\∀(l:Addr) (ms:List Int) (H':Hp),H l=none->Same H H'->H' l=some (.lst (ms.map V.int))->ms.Perm ((Fl.jR wf hs n s r).map (·.1))->Q (.ref l) H'
noncomputable def oj(S:Int->Bool)(m:Int)(ps:LY)(k:Nat):LY:=(List.range k).map fun i=>((ps.getD i (0,0)).1,(if S (2+(i:Int))=true then 0 else 1)+(if S (2+m+(i:Int))=true then 1 else 0))
noncomputable def Al:Sp:=fun vs H Q _=>∃v ps ts d kvs,vs=[v,.ref d]/\jbl H v ps ts/\WebOk ps ts/\H d=some (.dK kvs)/\∀l zs H',H l=none->Same H H'->H' l=some (.lst zs)->Prs H' zs (oj (je kvs) ps.length ps ps.length)->Q (.ref l) H'
noncomputable def oo(fs:List Int)(n:Nat)(ts:LY)(k:Nat):LX:=((List.range k).map fun j=>((ts.getD j (0,0)).1,(ts.getD j (0,0)).2,Fl.at' fs (2*n+2*j)+Fl.at' fs (2*n+2*j+1))).filter fun d=>decide (d.2.2>0)
noncomputable def A9:Sp:=fun vs H Q _=>∃v ps ts g fs,vs=[v,.ref g]/\jbl H v ps ts/\WebOk ps ts/\H g=some (.lst (fs.map V.int))/\fs.length=2*ps.length+2*ts.length/\∀l zs H',H l=none->Same H H'->H' l=some (.lst zs)->j8 H' zs (oo fs ps.length ts ts.length)->Q (.ref l) H'
theorem qU{α:Type}{l:List α}{i:Nat}{a d:α}(h:l[i]? =some a):l.getD i d=a:=by rw[bf,h];rfl
theorem Bx{xs:List V}{k:Nat}(h1:k<=xs.length):lQ xs (some (k:Int)) none=xs.drop k:=by
 unfold lQ HT.i7;simp only[aG (show ¬(k:Int)<0 by lia)];rw[Nat.min_eq_left (by lia)];exact cu (by rw[fm];exact ay _)
theorem Hx(B:Blt mg)(D:MthAt K C_Net "flows" "Net.flows" (kn 5 6) ["self"] f fd)(T:NetC K mg C_Net):FnOk P w K mg base iT 1 f fd ["self"] (Bb C_Net):=by
 refine i6 D.F ["self"] (by rintro _ _ _ _ ⟨p,R,wf,hs,m,n,r,rfl,_⟩;rfl) ?_;rintro _ A _ s H vs Q E X M _ _ ⟨p,R,wf,hs,m,n,r,rfl,N,h⟩;refine⟨_,(iF (iS (wA (b:=false) rfl (mM T.cl T.n_rooms (qv 0) rfl)))),?_⟩;obtain⟨⟨dx,W,Hd,y,e1,e2,e3,L,j,v,V,k⟩,o,t,g,i,S⟩:=N;simp_arith[e1,qz,o];intro l Z;rw[rV];exact h l _ Z (iD Z _) ir
theorem K4(B:Blt mg)(D:MthAt K C_Net "reached_from" "Net.reached_from" (kn 5 7) ["self","source"] f fd)(a:MthAt K C_Net "spread" "Net.spread" (kn 5 4) ["self","source"] fqc dqc)(G:FnOk P w K mg base iT 1 fqc dqc ["self","source"] (xN C_Net))(T:NetC K mg C_Net):FnOk P w K mg base iT 2 f fd ["self","source"] (Bj C_Net):=by
 refine i6 D.F ["self","source"] (by rintro _ _ _ _ ⟨p,s,R,wf,hs,m,n,r,rfl,_⟩;rfl) ?_;rintro _ A _ s H vs Q E X M _ _ ⟨p,s,R,wf,hs,m,n,r,rfl,N,b,s1,C,h⟩;refine⟨_,(iF (iS (jZ (yn rfl) rfl B.sorted fK (iJ (n8 (qv 0) T.cl a.m G (M.mono (by decide)) a.b .nil mK (iJ (qv 1))))))),?_⟩;have q:=N;obtain⟨⟨dx,W,Hd,y,e1,e2,e3,L,j,v,V,k⟩,o,t,g,i,S⟩:=N;simp_arith[e1,CY];refine⟨p,s,R,wf,hs,m,n,r,rfl,q,b,s1,fun d H1 J O e=>?_⟩;have c:=Fl.oU (r:=r) t ⟨b,s1⟩ n;refine⟨d,_,(Fl.jR wf hs n s r).map (·.1),rfl,e,?_,by rw[aa];exact fu c C,fun l ms Z pm _=>?_⟩
 ·unfold lD;rw[bP,bP];rfl
 ·exact h l ms _ (O.free Z) (O.trans (iD Z _)) ir pm
theorem La(B:Blt mg)(D:DefAt K mg "halves_reached" (top 37) ["web","reached"] f fd)(C2:Cst2 mg e1 e2 e3):FnOk P w K mg base iT 1 f fd ["web","reached"] Al:=by
 refine i6 D.F ["web","reached","many","halves","at","pair","left","right"] (by rintro _ _ _ _ ⟨v,ps,ts,d,kvs,rfl,_⟩;rfl) ?_;rintro _ A _ s H vs Q E X M F g ⟨v,ps,ts,d,kvs,rfl,e,T,ed,h⟩;obtain⟨u,pa,ta,xs,ys,rfl,sq,j,A',m,i'⟩:=e;have F':=aq m;have F:=jX M;have g:_<PySem.cLine:=aZ F;refine⟨_,(iy (iM 2 X (kZ B (iE (qv 0) iu))) (iy (iM 3 X (jW kF)) (iy (jY bg rfl (uw rfl B.enumerate (iJ (iE (qv 0) iu))) (jQ (n:=2) rfl (iR (jd 4 X) (iR (jd 5 X) jF))) (iy (iM 6 X (xH (pI (rK F (iQ ju (mi (v:=.int 2) rfl C2.FIRST ⟨_,rfl⟩) (qv 4)) (qv 1))) iu iu)) (iy (iM 7 X (xH (pI (rK F (iQ ju (iQ ju (mi (v:=.int 2) rfl C2.FIRST ⟨_,rfl⟩) (qv 2)) (qv 4)) (qv 1))) iu iu)) (iF (j6 (kI ba aY aX kN (qv 3) (iJ (jx (iG (iE (qv 5) iu) (iQ ju (qv 6) (qv 7))))))))))) (iF (iS (qv 3)))))),?_⟩;have k:=T.pl;refine iK fun R' U=>?_;simp_arith[iH,sq,iW,j];subst U;refine iK fun R' U=>?_;walk_at "D";intro l Z;generalize y:upd H l _=H1;obtain⟨N,el⟩:=kc Z y;clear y;subst U;refine iK fun R' U=>?_;refine kA (qi K pa) H1 (fun R3 K'=>?_) (xy (K:=K) (a:=pa) (xs:=xs) (fun i σ I=>∃v4 v5 v6 v7 zs,σ=[some (.ref u),some (.ref d),some (.int (xs.length:Int)),some (.ref l),v4,v5,v6,v7]/\Same H I/\I l=some (.lst zs)/\Prs I zs (oj (je kvs) ps.length ps i)) ⟨none,none,none,none,[],rfl,N,el,.nil⟩ (fun i σ I _ C=>by obtain⟨_,_,_,_,_,_,s1,_⟩:=C;exact SqL.of (s1 _ _ j)) ?_ ?_)
 ·unfold vS;simp_arith[iH,N _ _ sq,iW];exact⟨pa,rfl,⟨_,SqL.of (N _ _ j)⟩,K'⟩
 ·rintro i x σ I t G ⟨v4,v5,v6,v7,zs,rfl,s2,J',z⟩ S;obtain⟨p,O,q⟩:=jm m G;have Ma:=(ax.mp O).1;have L:=iD S (.tup [.int i,x]);have W:=s2.trans L;have et:upd I t (.tup [.int i,x]) t=some (.tup [.int i,x]):=ir;have G':=L _ _ J';have Mb:=Prs.same L z;obtain⟨b,rfl,eb⟩:=q.same W;generalize upd I t (.tup [.int i,.ref b])=H3 at L W et G' Mb eb;have sz:=W _ _ ed;have B':=aq z;have L9:(oj (je kvs) ps.length ps i).length=i:=by unfold oj;rw[aa,cB]
  have key:∀n:Int,(iX kvs (Sum.inl n:iw)).isSome=je kvs n:=fun n=>rfl;have L8:∀(a c:Int),a=(if je kvs (2+(i:Int))=true then 0 else 1)->c=(if je kvs (2+(xs.length:Int)+(i:Int))=true then 1 else 0)->∀r,H3 r=none->∃v4 v5 v6 v7 L',[some (V.ref u),some (.ref d),some (.int (xs.length:Int)),some (.ref l),some (.int i),some (.ref b),some (.int a),some (.int c)]=[some (V.ref u),some (.ref d),some (.int (xs.length:Int)),some (.ref l),v4,v5,v6,v7]/\Same H (upd (upd H3 r (.tup [.int p.1,.int (a+c)])) l (.lst (zs++[.ref r])))/\upd (upd H3 r (.tup [.int p.1,.int (a+c)])) l (.lst (zs++[.ref r])) l=some (.lst L')/\Prs (upd (upd H3 r (.tup [.int p.1,.int (a+c)])) l (.lst (zs++[.ref r]))) L' (oj (je kvs) ps.length ps (i+1)):=fun a c J Y r R=>by
   have q4:=iD R (.tup [.int p.1,.int (a+c)]);have t6:=ka (ys:=zs++[.ref r]) (q4 _ _ G');refine⟨_,_,_,_,zs++[.ref r],rfl,i4 (W.trans q4) Z,ir,?_⟩;have eh:oj (je kvs) ps.length ps (i+1)=oj (je kvs) ps.length ps i++[(p.1,a+c)]:=by
    unfold oj;rw[bX,af,List.map_singleton,qU O,J,Y,F']
   rw[eh];exact j3 (Prs.tups t6 (Prs.same q4 Mb)) ⟨r,rfl,t6 _ _ rfl ir⟩
  simp_arith[et,sz,key];cases c1:je kvs (2+(i:Int))<;>cases c3:je kvs (2+(xs.length:Int)+(i:Int))
  all_goals
   simp_arith[iH,eb,iW,c3,sz,key];refine⟨⟨l,zs,rfl,G'⟩,fun r R=>?_⟩;have e9:=fun o=>iD R o _ _ G';simp only[e9];exact⟨iU (by lia),L8 _ _ (by rw[c1];rfl) (by rw[c3];rfl) r R⟩
 ·rintro σ I ⟨v4,v5,v6,v7,zs,rfl,s2,J',z⟩;subst U;walk_at "D";rw[F']at z;exact h l zs I Z s2 J' z
theorem KY(B:Blt mg)(D:DefAt K mg "dues_flowing" (top 36) ["web","flows"] f fd):FnOk P w K mg base iT 1 f fd ["web","flows"] A9:=by
 refine i6 D.F ["web","flows","across","amounts"] (by rintro _ _ _ _ ⟨v,ps,ts,fl,fs,rfl,_⟩;rfl) ?_;rintro _ A _ s H vs Q E X M F o ⟨v,ps,ts,fl,fs,rfl,e,T,ef,L',h⟩;obtain⟨u,pa,ta,xs,ys,rfl,A',C,B',i',sq⟩:=e;have J':=aq i';have Mc:=aq sq;have F:=jX M;have o:_<PySem.cLine:=aZ F;refine⟨_,(iy (iM 2 X (nB vZ (qv 1) (nu (iQ lW iu (kZ B (iE (qv 0) iu)))) nq)) (iy (rB 3 X ["there","back"] [none,none] (xf rfl B.zip (iG (wA (b:=true) rfl (qv 2)) (wA (b:=false) rfl (qv 2)))) (jQ (n:=2) rfl (iR (iV 0) (iR (iV 1) jF))) (iQ ju (qv 0) (qv 1))) (iF (iS (mh (CpScope.of (N:=["tie","amount"]) (src:=[none,none]) (by rfl)) rfl (xf rfl B.zip (iG (iE (qv 0) iu) (qv 3))) (fun _ _ _ _=>(jQ (n:=2) rfl (iR (iV 0) (iR (iV 1) jF)))) (fun _ _ _ _=>(kU (jc nK (qv 1) iu (ja _)))) (fun _ _ _ _=>(jx (jH (iE (qv 0) iu) (iG (iE (qv 0) iu) (qv 1)))))))))),?_⟩;have Y:=T.pl;have L8:=T.tl;refine iK fun R' U=>?_;simp_arith[iH,A',iW,C,ef];refine⟨nF (by decide) (by decide),?_⟩;intro ac Ms;rw [show (2:Int) * (xs.length:Int) = ((2 * ps.length:Nat):Int) by lia,Bx (by rw [aa]; lia),<- List.map_drop];generalize G:upd H ac _=H1;obtain⟨O,g⟩:=kc Ms G;clear G;have Mo:(fs.drop (2*ps.length)).length=2*ts.length:=by rw[fm];lia
 have Mm:∀k,Fl.at' (fs.drop (2*ps.length)) k=Fl.at' fs (2*ps.length+k):=fun k=>by unfold Fl.at';rw[bf,bf,List.getElem?_drop]
 generalize fs.drop (2*ps.length)=gs at*;have la:∀b,(jy b gs).length=ts.length:=fun b=>by
  have Mp:(if b=true then 0 else 1:Nat)<=1:=by split<;>decide
  have h1:=pK b gs;have Me:∀j,j<ts.length->j<(jy b gs).length:=fun j d=>by
   have:=h1 j;rw[gE (show 2*j+(if b=true then 0 else 1)<gs.length by lia)]at this;exact(ax.mp this).1
  have Mt:¬ts.length<(jy b gs).length:=fun z=>by
   have:=h1 ts.length;rw[gE z,cf (show gs.length<=2*ts.length+(if b=true then 0 else 1) by lia)]at this;cases this
  by_cases c:ts.length=0
  ·lia
  ·have:=Me (ts.length-1) (by lia);lia
 subst U;refine iK fun R' U=>?_;walk_at "D";refine vf (ι:=Addr×Addr×Hp) (fun y=>ou true K y.1 y.2.1) (fun y=>y.2.2) (fun y=>Same H1 y.2.2/\y.2.2 y.1=some (.lst ((jy true gs).map V.int))/\y.2.2 y.2.1=some (.lst ((jy false gs).map V.int))) (fun R2 R=>?_) ?_
 ·unfold tS;simp_arith[g];intro b1 Mp;rw[rV];generalize G:upd H1 b1 _=H2;obtain⟨s1,Mb⟩:=kc Mp G;clear G;simp_arith[s1 _ _ g];intro b2 Ml;rw[rV];have s2:=s1.trans (iD Ml (.lst ((jy false gs).map V.int)));have K':upd H2 b2 (.lst ((jy false gs).map V.int)) b2=some (.lst ((jy false gs).map V.int)):=ir;have Mg:=iD Ml (.lst ((jy false gs).map V.int)) _ _ Mb;generalize upd H2 b2 (.lst ((jy false gs).map V.int))=H3 at s2 K' Mg;exact⟨true,b1,b2,rfl,⟨_,SqL.of Mg⟩,⟨_,SqL.of K'⟩,R (b1,b2,H3) ⟨s2,Mg,K'⟩⟩
 rintro⟨b1,b2,H3⟩ ⟨W,Mb,K'⟩ am Mq;refine jn ts.length (fun i L I=>∃m r,L=[m,r]/\Same H3 I/\I am=some (.lst (((List.range i).map fun j=>Fl.at' gs (2*j)+Fl.at' gs (2*j+1)).map V.int))) ⟨none,none,rfl,iD Mq _,ir⟩ ?_ ?_
 ·rintro i L I hi ⟨m,r,rfl,p,em⟩;have J:kB true K I b1 ((jy true gs).map V.int):=SqL.of (p _ _ Mb);have z2:kB true K I b2 ((jy false gs).map V.int):=SqL.of (p _ _ K');have Mn:∀b,(jy b gs)[i]? =some (Fl.at' gs (2*i+(if b then 0 else 1))):=fun b=>by
   rw[pK,gE (by cases b<;>simp<;>lia)];unfold Fl.at';rw[bf,gE (by cases b<;>simp<;>lia)];rfl
  have x1:((jy true gs).map V.int)[i]? =some (.int (Fl.at' gs (2*i))):=by rw[aU,Mn true];rfl
  have x2:((jy false gs).map V.int)[i]? =some (.int (Fl.at' gs (2*i+1))):=by rw[aU,Mn false];rfl
  refine⟨⟨_,_,_,_,J,z2,x1,x2⟩,?_⟩;rintro x H' ⟨t,y1,y2,S,rfl,rfl,g1,g2⟩;have E1:=aJ (x1.symm.trans (g1 _ J));have E2:=aJ (x2.symm.trans (g2 _ z2));subst E1 E2;have q5:=iD S (.tup [.int (Fl.at' gs (2*i)),.int (Fl.at' gs (2*i+1))]);simp_arith[ir];refine⟨_,q5 _ _ em,?_,_,_,rfl,i4 (p.trans q5) Mq,?_⟩
  ·rw[aa,aa,cB];exact iU (by lia)
  ·try rw[ir]
   rw[bX,af,af];rfl
 rintro L a ⟨m,r,rfl,p,em⟩;refine⟨⟨_,_,SqL.of (p _ _ Mb),SqL.of (p _ _ K'),.inl (by rw[aa,la];exact ay _)⟩,?_⟩;have s5:=(O.trans W).trans p;walk_at "D";subst U;walk_at "D";refine jA (ou true K ta am) a (fun R2 R=>?_) (fun l L9=>jn ts.length (fun i L I=>∃m r zs,L=[m,r]/\Same a I/\I l=some (.lst zs)/\j8 I zs (oo fs ps.length ts i)) ⟨none,none,[],rfl,iD L9 _,ir,.nil⟩ ?_ ?_)
 ·unfold tS;simp_arith[iH,s5 _ _ A',jl];exact⟨true,ta,am,rfl,⟨_,SqL.of (s5 _ _ B')⟩,⟨_,SqL.of em⟩,R⟩
 ·rintro i L I hi ⟨m,r,zs,rfl,s6,el,pz⟩;have q:=s5.trans s6;have J:kB true K I ta ys:=SqL.of (q _ _ B');have z2:kB true K I am (((List.range ts.length).map fun j=>Fl.at' gs (2*j)+Fl.at' gs (2*j+1)).map V.int):=SqL.of (s6 _ _ em);have x1:ys[i]? =some (ys[i]'(by lia)):=gE _;have x2:(((List.range ts.length).map fun j=>Fl.at' gs (2*j)+Fl.at' gs (2*j+1)).map V.int)[i]? =some (.int (Fl.at' gs (2*i)+Fl.at' gs (2*i+1))):=by
   rw[aU,aU,gz hi];rfl
  refine⟨⟨_,_,_,_,J,z2,x1,x2⟩,?_⟩;rintro x H' ⟨t,y1,y2,S,rfl,rfl,g1,g2⟩;have E2:=aJ (x2.symm.trans (g2 _ z2));subst E2;obtain⟨tt,Mh,pt⟩:=jm sq (g1 _ J);have q8:=iD S (.tup [y1,.int (Fl.at' gs (2*i)+Fl.at' gs (2*i+1))]);have Z:=q.trans q8;obtain⟨tb,rfl,Mf⟩:=pt.same Z;have et:upd I t (.tup [.ref tb,.int (Fl.at' gs (2*i)+Fl.at' gs (2*i+1))]) t=some (.tup [.ref tb,.int (Fl.at' gs (2*i)+Fl.at' gs (2*i+1))]):=ir;have Ma:=q8 _ _ el;have Mi:=j7 q8.tups pz;have Mj:=s6.trans q8;generalize upd I t (.tup [.ref tb,.int (Fl.at' gs (2*i)+Fl.at' gs (2*i+1))])=H8 at q8 Z Mf et Ma Mi Mj;have F':oo fs ps.length ts (i+1)=oo fs ps.length ts i++(if Fl.at' gs (2*i)+Fl.at' gs (2*i+1)>0 then[(tt.1,tt.2,Fl.at' gs (2*i)+Fl.at' gs (2*i+1))]else[]):=by
   unfold oo;rw[bX,af,bI,List.map_singleton,qU Mh,Mm,Mm,Nat.add_assoc]
   congr 1
   rw[bU];by_cases c:Fl.at' fs (2*ps.length+2*i)+Fl.at' fs (2*ps.length+(2*i+1))>0
   ·rw[aI c,aI (ao c)];rfl
   ·rw[aG c,aG (by simpa using c)];rfl
  have G':=aq pz;have Mu:zs.length<=i:=by
   rw[G'];unfold oo;refine bw (bq _ _) ?_;rw[aa,cB];exact ay _
  simp_arith[et];refine kW (fun c=>?_) (fun c=>?_)
  ·rw[aI (aO c)]at F';simp_arith[iH,Mf,iW,jl];intro t2 sz;have q9:=iD sz (.tup [.int tt.1,.int tt.2,.int (Fl.at' gs (2*i)+Fl.at' gs (2*i+1))]);have Mr:=q9 _ _ Ma;have t9:=ka (ys:=zs++[.ref t2]) Mr;refine⟨zs,Mr,iU (by lia),_,_,zs++[.ref t2],rfl,i4 (Mj.trans q9) L9,(by first|rfl|exact ir),?_⟩;rw[F'];exact j3 (j7 t9 (j7 q9.tups Mi)) ⟨t2,rfl,t9 _ _ rfl ir⟩
  ·rw[aG (fun z=>c (ao z)),aS]at F';rw[F'];exact⟨_,_,zs,rfl,Mj,Ma,Mi⟩
 ·rintro L I ⟨m,r,zs,rfl,s6,el,pz⟩;refine⟨⟨_,_,SqL.of ((s5.trans s6) _ _ B'),SqL.of (s6 _ _ em),.inl (by lia)⟩,?_⟩;exact h l zs I (s5.free L9) (s5.trans s6) el pz
end
end My
namespace L2
open PySem PySem.Spec PyProof.Rows
section
variable{X:Cx}
theorem Jc:seqSlot? (.type "list") (dunderI "add")=pure (some (.builtin "list.__iadd__")):=PySem.seqSlot_of gY.lookup (by decide+kernel)
theorem Jt:fillsInplaceSlot (.type "list") "add" (Operator.Add== .Add)=pure false:=by
 unfold fillsInplaceSlot;show(typeLookup (.type "list") (dunderI "add")>>=fun f=>pure (f.isSome&& !isSeqSlot f))=pure false;rw[gY.lookup];have:isSeqSlot (some (Value.builtin "list.__iadd__"))=true:=by decide+kernel
 show(pure (true&& !isSeqSlot (some (Value.builtin "list.__iadd__"))):Sem Bool)=pure false;rw[this];rfl
noncomputable def kE:nG:=fun x y H Q=>match x,y with
 | .ref l,.ref b=>match H l,H b with
  |some (.lst xs),some (.lst zs)=>xs.length+zs.length<=sizeLine/\Q (.ref l) (upd H l (.lst (xs++zs)))
  |_,_=>False
 |_,_=>False
theorem Gb:qh X .Add kE:=by
 intro pins s σ H x y v u Q I rx B h;unfold kE at h;split at h
 ·rename_i l b;split at h
  ·rename_i xs zs c D;obtain⟨L,q⟩:=h;cases rx;cases B;obtain⟨z,its,n,r,Z,e⟩:=I.lstM c;obtain⟨f,C,V,P,a,e2⟩:=I.lstM D;have M:its.toArray.size+C.toArray.size<=sizeLine:=by rw[aF,aF];lia
   have g:¬(!its.toArray.isEmpty&&Builtin.List.listTooLong (its.toArray.size+C.toArray.size))=true:=by
    rw[Hs M,fb];exact bo
   have J:s.TypeIs (.ref l) "list":=⟨_,e,rfl⟩;have U:s.TypeIs (.ref b) "list":=⟨_,e2,rfl⟩;unfold inplaceOp;refine bQ ?_;refine ae (eP J (ae (fH Jt ?_)));show wpAny _ _ (if false=true then _ else _) _ _ s;rw[aG bo];refine ae (wpAny_binaryOp1_none (nm:="add") J U noFill_list_add ?_);refine ae (fH Jc ?_);refine ae (fj ?_);refine call_meets gY J F.entry_list_iadd (F.args_list_iadd_2 _ _)
    (AutoSeq1.list___iadd___list_list_0 l its.toArray n b C.toArray V g (by rw[aF];lia) (by lia)) ⟨e,e2,?_⟩
   refine⟨.ref l,_,I.lset (its':=its++C) c e (by simp) (r.append P) ?_,rfl,q⟩;rw[aH];lia
  ·exact h.elim
 ·exact h.elim
end
end L2
namespace My
open PySem L2
section
variable{P:Program}{w:World}{K:L3}{mg:L4}{base:Heap}{c1 c2 c3 c4 e1 e2 e3:Tok}{C_Net C_NoWeb fqa:Addr}{dI:FuncData}{p n:Int}{α:Type}
noncomputable def kH(ps:LY)(k:Nat):LY:=(List.range k).map fun i=>((ps.getD i (0,0)).1,2+(i:Int))
theorem xl(ps:LY):∀k,k<=ps.length->(kH ps k).map (·.1)=(ps.take k).map (·.1)
 |0,_=>by simp[kH]
 |k+1,h=>by
  have F:ps[k]? =some ps[k]:=gE (by lia);have E:=xl ps k (by lia);unfold kH at E ⊢;rw[bX,af,af,E,ji F,af,List.map_singleton,List.map_singleton,List.map_singleton,qU F]
noncomputable def jG(ps:LY)(n:Int):Int:=jJ (kH ps ps.length) n
noncomputable def md(ps:LY):Int:=1+(ps.map (·.2)).sum
noncomputable def jL(ps ts:LY):List Fl.kx:=Fl.mG (jG ps) (md ps) ps ts
theorem wK{ps ts:LY}(T:WebOk ps ts):((kH ps ps.length).map (·.1)).Nodup:=by
 rw[xl ps ps.length (ay _),aD];exact T.p.nodup
theorem r8{ps ts:LY}(T:WebOk ps ts)(h:n∈ps.map (·.1)):iX (jE (kH ps ps.length)) (Sum.inl n:iw)=some (.int (jG ps n)):=by
 refine rX (wK T) ?_;rw[xl ps ps.length (ay _),aD];exact h
theorem wI{ps ts:LY}(T:WebOk ps ts){i:Nat}(h:(ps.map (·.1))[i]? =some p):jG ps p=2+(i:Int):=by
 have hi:=(ax.mp h).1;rw[aa]at hi;have K:(p,2+(i:Int))∈kH ps ps.length:=by
  unfold kH;refine av.mpr ⟨i,bL.mpr hi,?_⟩;rw[aU,gE hi]at h;have h2:ps[i].1=p:=aJ h;rw[qU (gE hi),h2]
 have e:=qQ (wK T) K;rw[r8 T (aC h)]at e;exact V.int.inj (aJ e)
theorem Ei{ps ts:LY}(T:WebOk ps ts)(h:p∈ps.map (·.1)):2<=jG ps p/\jG ps p<2+(ps.length:Int):=by
 obtain⟨i,hi,e⟩:=bx.mp h;rw[wI T (i:=i) (by rw[gE hi,e])];rw[aa]at hi;lia
theorem mE{ps ts:LY}(T:WebOk ps ts):∀t∈ts,t.1∈ps.map (·.1)/\t.2∈ps.map (·.1):=fun t S=>by
 obtain⟨_,a,b⟩:=T.t.in t S;exact⟨nk a,nk b⟩
theorem PlOk.pos:∀{ps:LY} {l s:Int},PlOk l s ps->∀p∈ps,1<=p.2
 |[],_,_,_,p,h=>by cases h
 |q::r,l,s,h,p,O=>by
  rcases aV.mp O with e|O
  ·rw[e];exact h.1.2.2.1
  ·exact PlOk.pos h.2 p O
theorem xq{ps ts:LY}(T:WebOk ps ts):∀a∈jL ps ts,((0<=a.1/\a.1<((2+(ps.length+ps.length):Nat):Int))/\0<=a.2.1/\a.2.1<((2+(ps.length+ps.length):Nat):Int))/\0<=a.2.2:=
 Fl.LL (fun p O=>Ei T O) (mE T) (fun p O=>by have:=T.p.pos p O;lia) (by
  have h:0<=(ps.map (·.2)).sum:=by
   have:=Fl.sum_le (f:=fun _=>(0:Int)) (g:=fun p:Int×Int=>p.2) (l:=ps) fun p O=>by have:=T.p.pos p O;lia
   rw[Fl.l9]at this;exact this
  unfold md;lia)
theorem uV(ps ts:LY):(jL ps ts).length=ps.length+ps.length+2*ts.length:=Fl.LN _ _ _ _
noncomputable def CF(C:Addr):Sp:=fun vs H Q _=>∃v ps ts,vs=[v]/\jbl H v ps ts/\WebOk ps ts/\∀p R H',H R=none->Same H H'->Nt C H' p R (Fl.ki (jL ps ts)) (Fl.jB (jL ps ts)) (jL ps ts).length (2+(ps.length+ps.length)) (Fl.km (jL ps ts))->Q (.ref p) H'
theorem Dw(sp:Int->Int)(n pl:Int)(t:Int×Int):∀ts,Fl.mn sp n pl (ts++[t])=(Fl.mn sp n pl ts++[(sp t.1,sp t.2+n,pl)])++[(sp t.2,sp t.1+n,pl)]
 |[]=>rfl
 |u::r=>by rw[List.cons_append,Fl.mn,Dw sp n pl t r];rfl
theorem Kh{g:Type}{F:α->g->Prop}{a c:List α}{b d:List g}(C:Paired F a b):Paired F c d->Paired F (a++c) (b++d):=by
 induction C with
 |nil=>exact fun h=>h
 |cons r t E=>
  exact fun h=>.cons r (E h)
theorem JE(B:Blt mg)(D:DefAt K mg "doubled" (top 35) ["web"] f fd)(Mq:MthAt K C_Net "__init__" "Net.__init__" (kn 5 0) ["self","many","arcs"] fqf dqf)(MC:FnOk P w K mg base iT 2 fqf dqf ["self","many","arcs"] (Am C_Net))(T:NetC K mg C_Net)(C2:Cst2 mg e1 e2 e3)(MK:Mk K C_Net fqf):FnOk P w K mg base iT 5 f fd ["web"] (CF C_Net):=by
 refine i6 D.F ["web","many","plenty","spots","arcs","one","other"] (by rintro _ _ _ _ ⟨v,ps,ts,rfl,_⟩;rfl) ?_;rintro _ A _ s H vs Q E X M F Z ⟨v,ps,ts,rfl,r,c,h⟩;obtain⟨u,pa,ta,xs,ys,rfl,G',sq,L8,i',sz⟩:=r;have Mb:=aq i';have Mo:=aq sz;have F:=jX M;have Z:_<PySem.cLine:=aZ F;refine⟨_,(iy (iM 1 X (kZ B (iE (qv 0) iu))) (iy (iM 2 X (iQ ju iu (jZ (rL rfl) rfl B.sum dM (iJ (kR ["place","price"] [none,none] (jb (iE (qv 0) iu)) (jQ (n:=2) rfl (iR (iV 0) (iR (iV 1) jF))) (qv 1)))))) (iy (iM 3 X (nC (qO rfl) rfl B.dict cD (iJ (kR ["at","pair"] [none,none] (uw rfl B.enumerate (iJ (iE (qv 0) iu))) (jQ (n:=2) rfl (iR (iV 0) (iR (iV 1) jF))) (jx (iG (iE (qv 1) iu) (iQ ju (mi (v:=.int 2) rfl C2.FIRST ⟨_,rfl⟩) (qv 0)))))))) (iy (rB 4 X ["place","price","spots"] [none,none,some 3] (jb (iE (qv 0) iu)) (jQ (n:=2) rfl (iR (iV 0) (iR (iV 1) jF))) (jx (jH (mi (v:=.int 0) rfl C2.SOURCE ⟨_,rfl⟩) (iG (lM F (qv 2) (qv 0) (fun _ _=>rfl)) (qv 1))))) (iy (rT (i:=4) X rfl (Or.inl rfl) (kR ["place","price","many","spots"] [none,none,some 1,some 3] (jb (iE (qv 0) iu)) (jQ (n:=2) rfl (iR (iV 0) (iR (iV 1) jF))) (jx (jH (iQ ju (lM F (qv 3) (qv 0) (fun _ _=>rfl)) (qv 2)) (iG (mi (v:=.int 1) rfl C2.SINK ⟨_,rfl⟩) (qv 1))))) Gb) (iy (jY bg rfl (jb (iE (qv 0) iu)) (jQ (n:=2) rfl (iR (jd 5 X) (iR (jd 6 X) jF))) (iy (j6 (kI ba aY aX kN (qv 4) (iJ (jx (jH (lM F (qv 3) (qv 5) (fun _ _=>rfl)) (iG (iQ ju (lM F (qv 3) (qv 6) (fun _ _=>rfl)) (qv 1)) (qv 2))))))) (iF (j6 (kI ba aY aX kN (qv 4) (iJ (jx (jH (lM F (qv 3) (qv 6) (fun _ _=>rfl)) (iG (iQ ju (lM F (qv 3) (qv 5) (fun _ _=>rfl)) (qv 1)) (qv 2)))))))))) (iF (iS (Gx MK MC (M.mono (by decide)) rfl T.m Mq.b .nil mK (iG (iQ ju (mi (v:=.int 2) rfl C2.FIRST ⟨_,rfl⟩) (iQ lW iu (qv 1))) (qv 4))))))))))),?_⟩;have Mj:=c.pl;have Mc:=c.tl;refine iK fun R' Y=>?_;simp_arith[kE,iH,G',iW,sq];subst Y;refine iK fun R' Y=>?_;simp_arith[kE];refine jA (i5 K pa) H (fun R2 A'=>?_) (fun z L9=>jn ps.length (fun i L I=>∃m w2,L=[m,w2]/\Same H I/\I z=some (.lst (((ps.take i).map (·.2)).map V.int))) ⟨none,none,rfl,iD L9 _,ir⟩ ?_ ?_)
 ·unfold i8;simp_arith[kE,iH,G',iW];exact⟨pa,rfl,⟨_,SqL.of sq⟩,A'⟩
 ·rintro i L I hi ⟨m,w2,rfl,s7,ez⟩;have x1:xs[i]? =some (xs[i]'(by lia)):=gE _;refine⟨⟨_,_,SqL.of (s7 _ _ sq),x1⟩,?_⟩;rintro y H' ⟨rfl,j⟩;have E1:=aJ (x1.symm.trans (j _ (SqL.of (s7 _ _ sq))));obtain⟨pr,L',px⟩:=jm i' x1;rw[E1]at px;obtain⟨b,rfl,U⟩:=px.same s7;simp_arith[kE,U];refine⟨_,ez,?_,_,_,rfl,i4 s7 L9,?_⟩
  ·rw[aa,aa,aP];exact iU (by lia)
  ·rw[ir,ji L',af,af];rfl
 rintro L H1 ⟨m,w2,rfl,s1,ez⟩;refine⟨⟨_,SqL.of (s1 _ _ sq),by lia⟩,?_⟩;rw[aD]at ez;refine⟨z,_,rfl,ez,?_⟩;simp_arith[kE];rw[show(1:Int)+(ps.map (·.2)).sum=md ps from rfl];clear ez;subst Y;refine iK fun R' Y=>?_;simp_arith[kE];refine jA (qi K pa) H1 (fun R2 A'=>?_) (fun z L9=>jn ps.length (fun i L I=>∃m w2 zs,L=[m,w2]/\Same H1 I/\I z=some (.lst zs)/\Prs I zs (kH ps i)) ⟨none,none,[],rfl,iD L9 _,ir,.nil⟩ ?_ ?_)
 ·unfold vS;simp_arith[kE,iH,s1 _ _ G',iW];exact⟨pa,rfl,⟨_,SqL.of (s1 _ _ sq)⟩,A'⟩
 ·rintro i L I hi ⟨m,w2,zs,rfl,s2,ez,pz⟩;have W:=s1.trans s2;have x1:xs[i]? =some (xs[i]'(by lia)):=gE _;have z1:SqL K I pa xs:=SqL.of (W _ _ sq);refine⟨⟨_,_,z1,x1⟩,?_⟩;rintro x H' ⟨t,y,S,rfl,rfl,g⟩;obtain⟨p,O,px⟩:=jm i' (g _ z1);have q4:=iD S (.tup [.int i,y]);have s4:=W.trans q4;obtain⟨b,rfl,eb⟩:=px.same s4;have et:upd I t (.tup [.int i,.ref b]) t=some (.tup [.int i,.ref b]):=ir;have Ms:=q4 _ _ ez;have MI:=Prs.same q4 pz;have Mf:=s2.trans q4;generalize upd I t (.tup [.int i,.ref b])=H4 at q4 s4 eb et Ms MI Mf;have Ma:zs.length=i:=by rw[aq pz];unfold kH;rw[aa,cB]
  simp_arith[kE,et,iH,eb,iW];intro t2 F';have q5:=iD F' (.tup [.int p.1,.int (2+(i:Int))]);have J':=q5 _ _ Ms;have t6:=ka (ys:=zs++[.ref t2]) J';refine⟨zs,J',iU (by lia),_,_,zs++[.ref t2],rfl,i4 (Mf.trans q5) L9,(by first|rfl|exact ir),?_⟩;have e:kH ps (i+1)=kH ps i++[(p.1,2+(i:Int))]:=by
   unfold kH;rw[bX,af,List.map_singleton,qU O]
  rw[e];exact j3 (Prs.tups t6 (Prs.same q5 MI)) ⟨t2,rfl,t6 _ _ rfl ir⟩
 rintro L H2 ⟨m,w2,zs,rfl,s2,ez,pz⟩;have W:=s1.trans s2;refine⟨⟨_,SqL.of (W _ _ sq),by lia⟩,?_⟩;have Ma:zs.length=ps.length:=by rw[aq pz];unfold kH;rw[aa,cB]
 simp_arith[kE,ez];refine⟨jE (kH ps ps.length),uK pz,by lia,u9 (wK c),fun d Mm=>?_⟩;have s4:=W.trans (iD Mm (.dK (jE (kH ps ps.length))));have ed:upd H2 d (.dK (jE (kH ps ps.length))) d=some (.dK (jE (kH ps ps.length))):=ir;generalize upd H2 d (.dK (jE (kH ps ps.length)))=H3 at s4 ed;clear ez pz Ma;subst Y;refine iK fun R' Y=>?_;simp_arith[kE];refine jA (i5 K pa) H3 (fun R2 A'=>?_) (fun al Mu=>jn ps.length (fun i L I=>∃m w2 zs,L=[m,w2,some (.ref d)]/\Same H3 I/\I al=some (.lst zs)/\j8 I zs ((ps.take i).map fun p=>((0:Int),jG ps p.1,p.2))) ⟨none,none,[],rfl,iD Mu _,ir,.nil⟩ ?_ ?_)
 ·unfold i8;simp_arith[kE,iH,s4 _ _ G',iW];exact⟨pa,rfl,⟨_,SqL.of (s4 _ _ sq)⟩,A'⟩
 ·rintro i L I hi ⟨m,w2,zs,rfl,s7,ez,pz⟩;have s8:=s4.trans s7;have x1:xs[i]? =some (xs[i]'(by lia)):=gE _;refine⟨⟨_,_,SqL.of (s8 _ _ sq),x1⟩,?_⟩;rintro y H' ⟨rfl,j⟩;have E1:=aJ (x1.symm.trans (j _ (SqL.of (s8 _ _ sq))));obtain⟨pr,L',px⟩:=jm i' x1;rw[E1]at px;obtain⟨b,rfl,U⟩:=px.same s8;have hv:=r8 c (av.mpr ⟨pr,aC L',rfl⟩);have Ma:zs.length<=i:=by rw[aq pz,aa,aP];lia
  simp_arith[kE,U,s7 _ _ ed,hv];intro t2 F';have q5:=iD F' (.tup [.int 0,.int (jG ps pr.1),.int pr.2]);have J':=q5 _ _ ez;have t6:=ka (ys:=zs++[.ref t2]) J';refine⟨zs,J',iU (by lia),_,_,zs++[.ref t2],rfl,i4 (s7.trans q5) Mu,(by first|rfl|exact ir),?_⟩;rw[ji L',af];exact j3 (j7 t6 (j7 q5.tups pz)) ⟨t2,rfl,t6 _ _ rfl ir⟩
 rintro L H4 ⟨m,w2,zs,rfl,s5,Mp,pz⟩;have s6:=s4.trans s5;refine⟨⟨_,SqL.of (s6 _ _ sq),by lia⟩,?_⟩;rw[aD]at pz;have Mw:H al=none:=s4.free Mu;have Ma:zs.length=ps.length:=by rw[aq pz,aa]
 simp_arith[kE];subst Y;refine iK fun R' Y=>?_;have K':=s5 _ _ ed;simp_arith[kE];refine jA (i5 K pa) H4 (fun R2 A'=>?_) (fun bl MJ=>jn ps.length (fun i L I=>∃m w2 us,L=[m,w2,some (.int (xs.length:Int)),some (.ref d)]/\Same H4 I/\I bl=some (.lst us)/\j8 I us ((ps.take i).map fun p=>(jG ps p.1+(ps.length:Int),(1:Int),p.2))) ⟨none,none,[],rfl,iD MJ _,ir,.nil⟩ ?_ ?_)
 ·unfold i8;simp_arith[kE,iH,s6 _ _ G',iW];exact⟨pa,rfl,⟨_,SqL.of (s6 _ _ sq)⟩,A'⟩
 ·rintro i L I hi ⟨m,w2,us,rfl,s7,ez,pu⟩;have s8:=s6.trans s7;have x1:xs[i]? =some (xs[i]'(by lia)):=gE _;refine⟨⟨_,_,SqL.of (s8 _ _ sq),x1⟩,?_⟩;rintro y H' ⟨rfl,j⟩;have E1:=aJ (x1.symm.trans (j _ (SqL.of (s8 _ _ sq))));obtain⟨pr,L',px⟩:=jm i' x1;rw[E1]at px;obtain⟨b,rfl,U⟩:=px.same s8;have hv:=r8 c (av.mpr ⟨pr,aC L',rfl⟩);have MQ:us.length<=i:=by rw[aq pu,aa,aP];lia
  simp_arith[kE,U,s7 _ _ K',hv];intro t2 F';have q5:=iD F' (.tup [.int (jG ps pr.1+(xs.length:Int)),.int 1,.int pr.2]);have J':=q5 _ _ ez;have t6:=ka (ys:=us++[.ref t2]) J';refine⟨us,J',iU (by lia),_,_,us++[.ref t2],rfl,i4 (s7.trans q5) MJ,(by first|rfl|exact ir),?_⟩;rw[ji L',af];exact j3 (j7 t6 (j7 q5.tups pu)) ⟨t2,rfl,by rw [<- Mb]; exact t6 _ _ rfl ir⟩
 rintro L H5 ⟨m,w2,us,rfl,s7,MG,pu⟩;have s8:=s6.trans s7;refine⟨⟨_,SqL.of (s8 _ _ sq),by lia⟩,?_⟩;rw[aD]at pu;have MQ:us.length=ps.length:=by rw[aq pu,aa]
 have Mx:=s7 _ _ Mp;simp_arith[kE,Mx,MG];refine⟨qu (by lia),?_⟩;have s9:Same H (upd H5 al (.lst (zs++us))):=i4 s8 Mw;have t9:=ka (ys:=zs++us) Mx;have MP:=Kh (j7 t9 (j7 s7.tups pz)) (j7 t9 pu);have ME:upd H5 al (.lst (zs++us)) al=some (.lst (zs++us)):=ir;have MA:d≠al:=iO ed Mu;have MN:upd H5 al (.lst (zs++us)) d=some (.dK (jE (kH ps ps.length))):=by rw[iC MA];exact s7 _ _ K'
 generalize upd H5 al (.lst (zs++us))=H6 at s9 MP ME MN;clear Mx MG pu pz Mp t9;subst Y;refine iK fun R' Y=>?_;refine kA (i5 K ta) H6 (fun R3 Mh=>?_) (lG (K:=K) (a:=ta) (xs:=ys) (fun k σ I=>∃v5 v6 l,σ=[some (.ref u),some (.int (xs.length:Int)),some (.int (md ps)),some (.ref d),some (.ref al),v5,v6]/\Same H I/\I d=some (.dK (jE (kH ps ps.length)))/\I al=some (.lst l)/\l.length<=80+2*k/\j8 I l (((ps.map fun p=>((0:Int),jG ps p.1,p.2))++ps.map fun p=>(jG ps p.1+(ps.length:Int),(1:Int),p.2))++Fl.mn (jG ps) ps.length (md ps) (ts.take k))) ⟨none,none,zs++us,rfl,s9,MN,ME,by rw[aH];lia,by rw[List.take_zero];show j8 H6 _ (_++[]);rw[aS];exact MP⟩ (fun i σ I _ C=>by obtain⟨_,_,_,_,s,_⟩:=C;exact SqL.of (s _ _ L8)) ?_ ?_)
 ·unfold i8;simp_arith[kE,iH,s9 _ _ G',jl];exact⟨ta,rfl,⟨_,SqL.of (s9 _ _ L8)⟩,Mh⟩
 ·rintro k x σ I G ⟨v5,v6,l,rfl,sA,MB,Mn,Mi,pw⟩;obtain⟨t,Mg,pt⟩:=jm sz G;obtain⟨tb,rfl,Mt⟩:=pt.same sA;have Ml:=(ax.mp Mg).1;obtain⟨m1,m2⟩:=mE c t (aC Mg);have Me:=r8 c m1;have ML:=r8 c m2;simp_arith[kE,Mt,MB,Me,ML];refine⟨⟨al,l,rfl,Mn⟩,fun t1 Mr=>?_⟩;have qB:=iD Mr (.tup [.int (jG ps t.1),.int (jG ps t.2+(xs.length:Int)),.int (md ps)]);have MF:=qB _ _ Mn;have MR:=qB _ _ MB;simp only[MF];refine⟨iU (by lia),?_⟩;have tB:=ka (ys:=l++[.ref t1]) MF;have sC:Same H (upd (upd I t1 (.tup [.int (jG ps t.1),.int (jG ps t.2+(xs.length:Int)),.int (md ps)])) al (.lst (l++[.ref t1]))):=i4 (sA.trans qB) Mw;have Mv:upd (upd I t1 (.tup [.int (jG ps t.1),.int (jG ps t.2+(xs.length:Int)),.int (md ps)])) al (.lst (l++[.ref t1])) al=some (.lst (l++[.ref t1])):=ir;have Mz:upd (upd I t1 (.tup [.int (jG ps t.1),.int (jG ps t.2+(xs.length:Int)),.int (md ps)])) al (.lst (l++[.ref t1])) d=some (.dK (jE (kH ps ps.length))):=by rw[iC MA];exact MR
  have pC:=j3 (j7 tB (j7 qB.tups pw)) (show Tp _ (.ref t1) (jG ps t.1,jG ps t.2 + (ps.length:Int),md ps) from ⟨t1,rfl,by rw [<- Mb]; exact tB _ _ rfl ir⟩);generalize upd (upd I t1 (.tup [.int (jG ps t.1),.int (jG ps t.2+(xs.length:Int)),.int (md ps)])) al (.lst (l++[.ref t1]))=HC at sC Mv Mz pC;simp_arith[kE,Mz,Me,ML];refine⟨⟨al,_,rfl,Mv⟩,fun t2 F'=>?_⟩;have qD:=iD F' (.tup [.int (jG ps t.2),.int (jG ps t.1+(xs.length:Int)),.int (md ps)]);have MD:=qD _ _ Mv;have MT:=qD _ _ Mz;simp only[MD];have tD:=ka (ys:=(l++[.ref t1])++[.ref t2]) MD;refine⟨iU (by rw[aH];show _+1<=_;lia),_,_,(l++[.ref t1])++[.ref t2],rfl,i4 (sC.trans qD) Mw,by rw[iC MA];exact MT,ir,by rw[aH,aH];show _+1+1<=_;lia,?_⟩;rw [ji Mg,Dw,<- bp,<- bp];exact j3 (j7 tD (j7 qD.tups pC)) ⟨t2,rfl,by rw [<- Mb]; exact tD _ _ rfl ir⟩
 ·rintro σ I ⟨v5,v6,l,rfl,sA,MB,Mn,Mi,pw⟩;rw[Mo,aD]at pw;have pw:j8 I l (jL ps ts):=pw;subst Y;simp_arith[kE];refine⟨nF (by decide) (by decide),?_⟩;intro p dx O MM MU;have MW:al≠p:=iO Mn O;have MV:al≠dx:=iO Mn MM;have sB:Same I (upd (upd I dx (.own p)) p (.ins C_Net dx [])):=fun b o q=>by rw[iC (iO q O),iC (iO q MM)];exact q
  refine⟨p,dx,2+(ps.length+ps.length),al,l,jL ps ts,by rw[show((2+(ps.length+ps.length):Nat):Int)=2+2*(xs.length:Int) by lia],ir,sB _ _ Mn,j7 sB.tups pw,by lia,by rw[uV];lia,fun a J=>(xq c a J).1,fun R H' B' b N=>?_⟩;refine⟨rfl,h p R H' (sA.free (sB.free B')) (fun b' o q=>b b' o (iO (sA _ _ q) O) (sB _ _ (sA _ _ q))) N⟩
noncomputable def ng(ps:LY):Nat:=2+(ps.length+ps.length)
structure Rst(ps ts:LY)(r:List Int):Prop where
 run:Fl.Runs (Fl.ki (jL ps ts)) (Fl.jB (jL ps ts)) (ng ps) 0 1 (Fl.km (jL ps ts)) r
 end_:Fl.ma (Fl.ki (jL ps ts)) (Fl.jB (jL ps ts)) (ng ps) 0 1 r=none
noncomputable def pZ(ps ts:LY)(r:List Int)(v:Int):Bool:=Fl.mY (Fl.ki (jL ps ts)) (Fl.jB (jL ps ts)) (ng ps) r v
noncomputable def DF(ps ts:LY)(r:List Int):LY:=oj (pZ ps ts r) ps.length ps ps.length
noncomputable def kQ(ps ts:LY)(r:List Int):LX:=oo (jy false r) ps.length ts ts.length
noncomputable def As:Sp:=fun vs H Q _=>∃v ps ts,vs=[v]/\jbl H v ps ts/\WebOk ps ts/\ps.length<=30/\∀t l1 l2 zs us r H',Same H H'->H' t=some (.tup [.ref l1,.ref l2])->H' l1=some (.lst zs)->H' l2=some (.lst us)->H t=none->H l1=none->H l2=none->l1≠l2->Rst ps ts r->Prs H' zs (DF ps ts r)->j8 H' us (kQ ps ts r)->Q (.ref t) H'
theorem G9{ps ts:LY}{r:List Int}{ms:List Int}(h:ms.Perm ((Fl.jR (Fl.ki (jL ps ts)) (Fl.jB (jL ps ts)) (ng ps) 0 r).map (·.1))):je (jg ms)=pZ ps ts r:=by
 funext n;rw[rY];unfold pZ Fl.mY;exact decide_eq_decide.mpr h.mem_iff
theorem Aa{ps ts:LY}(T:WebOk ps ts):Fl.Rooms (jL ps ts).length (Fl.mF (jL ps ts)) (Fl.km (jL ps ts)):=Fl.Eu fun a J=>(xq T a J).2
theorem vG{ps ts:LY}(T:WebOk ps ts):Fl.Net (Fl.ki (jL ps ts)) (Fl.jB (jL ps ts)) (jL ps ts).length (ng ps):=Fl.zw fun a J=>(xq T a J).1
theorem Rst.rooms{ps ts:LY}{r:List Int}(T:WebOk ps ts)(h:Rst ps ts r):Fl.Rooms (jL ps ts).length (Fl.mF (jL ps ts)) r/\∀v,v≠0->v≠1->Fl.ex (Fl.jB (jL ps ts)) (jL ps ts).length r v=0:=by
 obtain⟨a,b⟩:=Fl.Es (vG T) (by decide) ⟨cg _,by unfold ng;lia⟩ h.run (Aa T);exact⟨a,fun v h1 h2=>(b v h1 h2).trans (Fl.LC _ _ _ _)⟩
theorem GU{xs:List α}{k:Nat}(h:xs.length=2*k):(jy false xs).length=k:=by
 have h1:=pK false xs;have e:¬k<(jy false xs).length:=fun z=>by
  have:=h1 k;rw[gE z,cf (show xs.length<=2*k+(if false=true then 0 else 1) by rw[aG (by decide)];lia)]at this;cases this
 by_cases c:k=0
 ·lia
 ·have:=h1 (k-1);rw[gE (show 2*(k-1)+(if false=true then 0 else 1)<xs.length by rw[aG (by decide)];lia)]at this;have:=(ax.mp this).1;lia
theorem KG(B:Blt mg)(D:DefAt K mg "told_paper" (top 38) ["web"] f fd)(Mg:Ok P w K mg base "doubled" (top 35) 5 ["web"] (CF C_Net))(Ma:MthAt K C_Net "fill" "Net.fill" (kn 5 2) ["self","source","sink"] fqi dqi)(Mc:FnOk P w K mg base iT 3 fqi dqi ["self","source","sink"] (Ai C_Net))(L':MthAt K C_Net "reached_from" "Net.reached_from" (kn 5 7) ["self","source"] fql dql)(Me:FnOk P w K mg base iT 2 fql dql ["self","source"] (Bj C_Net))(sz:Ok P w K mg base "marked" (top 11) 1 ["places"] uA)(Mh:Ok P w K mg base "halves_reached" (top 37) 1 ["web","reached"] Al)(L9:MthAt K C_Net "flows" "Net.flows" (kn 5 6) ["self"] fqj dqj)(Mb:FnOk P w K mg base iT 1 fqj dqj ["self"] (Bb C_Net))(Mi:Ok P w K mg base "dues_flowing" (top 36) 1 ["web","flows"] A9)(T:NetC K mg C_Net)(C2:Cst2 mg e1 e2 e3):FnOk P w K mg base iT 6 f fd ["web"] As:=by
 refine i6 D.F ["web","net","halves"] (by rintro _ _ _ _ ⟨v,ps,ts,rfl,_⟩;rfl) ?_;rintro _ A _ s H vs Q E X M _ _ ⟨v,ps,ts,rfl,V,c,Ml,h⟩;refine⟨_,(iy (iM 1 X (iN Mg M (iJ (qv 0)))) (iy (j6 (n8 (qv 1) T.cl Ma.m Mc (M.mono (by decide)) Ma.b .nil mK (iG (mi (v:=.int 0) rfl C2.SOURCE ⟨_,rfl⟩) (mi (v:=.int 1) rfl C2.SINK ⟨_,rfl⟩)))) (iy (iM 2 X (iN Mh M (iG (qv 0) (iN sz M (iJ (n8 (qv 1) T.cl L'.m Me (M.mono (by decide)) L'.b .nil mK (iJ (mi (v:=.int 0) rfl C2.SOURCE ⟨_,rfl⟩)))))))) (iF (iS (jx (iG (qv 2) (iN Mi M (iG (qv 0) (IX (qv 1) T.cl L9.m Mb (M.mono (by decide)) L9.b .nil mK)))))))))),?_⟩;refine iK fun L U=>?_;walk_at "D";refine⟨v,ps,ts,rfl,V,c,fun p R H1 fR s1 N=>?_⟩;subst U;refine iK fun L U=>?_;obtain⟨dx,W,Hd,y,o1,_,_,_,_,_,_,pR⟩:=N.st;simp_arith[o1,Hn];refine⟨p,0,1,R,_,_,_,_,_,Fl.mF (jL ps ts),rfl,N,by decide,cg _,by lia,Aa c,fun x r H2 run C b2 L8=>?_⟩;have G':Rst ps ts r:=⟨run,C⟩;have rm:=(G'.rooms c).1;have N2:=N.but b2 L8 rm.len;have s2:Same H H2:=fun b o q=>b2 b o (iO q fR) (s1 _ _ q);have o2:=b2 _ _ pR o1;subst U;refine iK fun L U=>?_;simp_arith[o2,J3];refine⟨p,0,R,_,_,_,_,r,rfl,N2,cg _,by lia,by lia,fun l ms H3 Z g z pm=>?_⟩;have Mj:ms.Nodup:=pm.nodup_iff.mpr (Fl.nH (r:=r) (s:=0) N.net.from' _).nd;have J':ms.length<=120:=by
  rw[pm.length_eq,aa];have:=Fl.oU (r:=r) N.net ⟨cg 0,by lia⟩ (2+(ps.length+ps.length));show(Fl.jo _ _ _ _ _).length<=120;lia
 refine⟨l,ms,rfl,z,Mj,J',fun d F J j e=>?_⟩;have B':=g.trans j;have O:=s2.trans B';refine⟨v,ps,ts,d,jg ms,rfl,V.same O,c,e,fun l1 zs k i n K' Y=>?_⟩;rw[G9 pm]at Y;have Mf:=B'.trans n;have F':=O.trans n;subst U;simp_arith[Mf _ _ o2,II];refine⟨p,R,_,_,_,_,r,rfl,N2.same Mf,fun fl m sq a ef=>?_⟩;refine⟨v,ps,ts,fl,jy false r,rfl,V.same (F'.trans a),c,ef,?_,fun l2 us G I u i' pu=>?_⟩
 ·rw[GU rm.len,uV];lia
 intro t S;have q8:=iD S (.tup [.ref l1,.ref l2]);have A':=a.trans u;refine h t l1 l2 zs us r _ ((F'.trans A').trans q8) ir (q8 _ _ (A' _ _ K')) (q8 _ _ i') ((F'.trans A').free S) (O.free i) ((F'.trans a).free I) (iO (a _ _ K') I) G' (Prs.same (A'.trans q8) Y) (j7 q8.tups pu)
end
end My
namespace My
open PySem L2
section
variable{P:Program}{w:World}{K:L3}{mg:L4}{base:Heap}{c1 c2 c3 c4:Tok}{C_NoWeb fqa:Addr}{dI:FuncData}
theorem Cz{n:Int}:∀{L:LX},(∀d∈L,0<=d.2.2)->iP (L.filter fun d=>decide (d.2.2>0)) n=iP L n
 |[],_=>rfl
 | d::r,h=>by
  have E:=Cz (n:=n) (L:=r) fun e R=>h e (.tail _ R);unfold iP at E ⊢;rw[bU];by_cases c:d.2.2>0
  ·rw[aI (ao c),ai,List.sum_cons,E,ai,List.sum_cons]
  ·have A:d.2.2=0:=by have:=h d (.head _);lia
   rw[aG (by simpa using c),E,ai,List.sum_cons,A];split<;>split<;>lia
theorem Az(r:List Int)(k:Nat):Fl.at' (jy false r) k=Fl.at' r (2*k+1):=by
 unfold Fl.at';rw[bf,bf,pK,aG (by decide)]
noncomputable def sV(ps ts:LY)(r:List Int)(p:Int):Bool:=pZ ps ts r (jG ps p)
noncomputable def sU(ps ts:LY)(r:List Int)(p:Int):Bool:=pZ ps ts r (jG ps p+ps.length)
noncomputable def oi(ps ts:LY)(r:List Int):Int->Int:=Fl.lC (sV ps ts r) (sU ps ts r)
theorem qW{ps ts:LY}(T:WebOk ps ts):∀p∈ps,jJ ps p.1=p.2:=fun p O=>by
 have a:=qQ T.p.nodup O;rw[rX T.p.nodup (av.mpr ⟨p,O,rfl⟩)]at a;exact V.int.inj (aJ a)
theorem qM{ps ts:LY}{r:List Int}(T:WebOk ps ts)(h:Rst ps ts r):Fl.Full (ps.map (·.1)) (jJ ps) (Fl.twS (ps.map (·.1)) r ts) (Fl.mN (jG ps) r) (Fl.om (ps.map (·.1)) (jG ps) r) (sV ps ts r) (sU ps ts r):=by
 have Z:(ps.map (·.1)).length=ps.length:=aa _;have e1:(jL ps ts).length=Fl.arcs (ps.map (·.1)) ts:=by rw[uV];unfold Fl.arcs;rw[Z]
 have e2:ng ps=Fl.kO (ps.map (·.1)):=by unfold ng Fl.kO;rw[Z]
 have D:Fl.Dbl (ps.map (·.1)) ts (jG ps) (Fl.jB (jL ps ts)):=Fl.DR T.p.nodup (fun i p O=>wI T O) (mE T);have C:Fl.Caps (ps.map (·.1)) ts (jJ ps) (Fl.mF (jL ps ts)):=Fl.DS (qW T) fun p O=>by
  have A:∀q∈ps,0<=q.2:=fun q W=>by have:=T.p.pos q W;lia
  have:=Fl.nN (f:=fun q:Int×Int=>q.2) A p O;unfold md;lia
 obtain⟨c,b⟩:=h.rooms T;have N:=vG T;have e:=h.end_;rw[e1]at c b N;rw[e2]at N e;have F:=Fl.Lq D N C c b e;rw[Z]at F;unfold sV sU pZ;rw[e2];exact F
noncomputable def oX(ps ts:LY)(r:List Int):LX:=(Fl.twS (ps.map (·.1)) r ts).map fun z=>(z.a,z.b,z.x+z.y)
theorem wj(ps ts:LY)(r:List Int):kQ ps ts r=(oX ps ts r).filter fun d=>decide (d.2.2>0):=by
 unfold kQ oo oX Fl.twS;rw[bP]
 congr 1
 refine gw fun j _=>?_;show _=((Fl.twAt _ _ _ j).a,(Fl.twAt _ _ _ j).b,_);unfold Fl.twAt;dsimp only;rw[Az,Az,aa,show 2*ps.length+2*j=ps.length+ps.length+2*j by lia,show ps.length+ps.length+2*j+1=ps.length+ps.length+(2*j+1) by lia]
theorem Jh(ps ts:LY)(r:List Int):(oX ps ts r).map (fun d=>(d.1,d.2.1))=ts:=by
 unfold oX Fl.twS;rw[bP,bP];apply gR;intro i;rw[aU];by_cases c:i<ts.length
 ·rw[gz c,gE c];show some ((ts.getD i (0,0)).1,(ts.getD i (0,0)).2)=_;rw[qU (gE c)]
 ·rw[cf (by rw[cB];lia),cf (by lia)];rfl
noncomputable def my(ts:LY)(ds:LX)(x:Lk):List Lk:=if x.1=some wB then((jC ts (iL x)).filter fun q=>lj ds (iL x) q).map fun q=>(some wT,[iL x,q])else(jC ts (iL x)).map fun q=>(some wB,[iL x,q])
noncomputable def jmz(x:Lk):Prop:=(∃p,x=(some wL,[p]))\/(∃u v,x=(some wB,[u,v]))\/∃u v,x=(some wT,[u,v])
noncomputable def LU(A B:Int->Prop)(x:Lk):Prop:=(x.1=some wB->B (iL x))/\(x.1≠some wB->A (iL x))
structure ChI(ps ts:LY)(ds:LX)(c:List Lk)(k:Nat):Prop where
 good:∀x∈c,jmz x
 nd:(c.map iL).Nodup
 place:∀x∈c,iL x∈ps.map (·.1)
 sound:∀A B:Int->Prop,(∀n∈jV ps ds,A n)->(∀n q,q∈jC ts n->A n->B q)->(∀n q,q∈jC ts n->lj ds n q=true->B n->A q)->∀x∈c,LU A B x
 start:∀n∈jV ps ds,n∈c.map iL
 done:∀(i:Nat) (x:Lk),i<k->c[i]? =some x->∀y∈my ts ds x,iL y∈c.map iL
theorem AS{ts:LY}{ds:LX}{x y:Lk}(h:y∈my ts ds x):jmz y/\iL y∈jC ts (iL x)/\((x.1=some wB/\y.1=some wT/\lj ds (iL x) (iL y)=true)\/(x.1≠some wB/\y.1=some wB)):=by
 unfold my at h;split at h
 ·rename_i c;obtain⟨q,W,rfl⟩:=av.mp h;have:=bj.mp W;exact⟨.inr (.inr ⟨_,_,rfl⟩),this.1,.inl ⟨c,rfl,this.2⟩⟩
 ·rename_i c;obtain⟨q,W,rfl⟩:=av.mp h;exact⟨.inr (.inl ⟨_,_,rfl⟩),W,.inr ⟨c,rfl⟩⟩
theorem sj{ts:LY}{n q:Int}:q∈jC ts n->(n,q)∈ts\/(q,n)∈ts:=fun h=>by
 obtain⟨t,S,W⟩:=dA.mp h;obtain⟨a,b⟩:=t;unfold nr at W;dsimp only at W;split at W
 ·rename_i c;subst c;rw[aK.mp W];exact .inl S
 ·split at W
  ·rename_i c;subst c;rw[aK.mp W];exact .inr S
  ·cases W
theorem BL{ts:LY}(B:∀t∈ts,t.1<t.2){a b:Int}(h:(a,b)∈ts):b∈jC ts a/\a∈jC ts b:=by
 have:=B _ h;dsimp only at this;refine⟨dA.mpr ⟨_,h,?_⟩,dA.mpr ⟨_,h,?_⟩⟩
 ·unfold nr;rw[aI rfl];exact aK.mpr rfl
 ·unfold nr;dsimp only;rw[aG (by lia),aI rfl];exact aK.mpr rfl
section
variable{ps ts:LY}{ds:LX}{c:List Lk}{k:Nat}
theorem Bm:∀{l m:List Int},l.Nodup->(∀x∈l,x∈m)->l.length<=m.length
 |[],_,_,_=>bS _
 |a::l,m,T,h=>by
  have f:=bV.mp T;have J:=h a (aE ..);have E:=Bm (l:=l) (m:=m.erase a) f.2 fun x G=>(List.mem_erase_of_ne fun e=>f.1 (by rw [<- e]; exact G)).mpr (h x (au _ G));rw[List.length_erase_of_mem J]at E;have:=List.length_pos_of_mem J;rw[List.length_cons];lia
theorem ChI.len(h:ChI ps ts ds c k):c.length<=ps.length:=by
 have:=Bm h.nd fun n S=>by
  obtain⟨x,G,rfl⟩:=av.mp S;exact h.place x G
 rw[aa,aa]at this;exact this
theorem ChI.put(h:ChI ps ts ds c k)(T:WebOk ps ts)(F:k<=c.length){x y:Lk}(G:x∈c)(O:y∈my ts ds x)(S:iL y∉c.map iL):ChI ps ts ds (c++[y]) k:=by
 obtain⟨f,d,j⟩:=AS O;have p:(c++[y]).map iL=c.map iL++[iL y]:=by rw[af];rfl
 refine⟨fun z L=>?_,?_,fun z L=>?_,fun A B u g Q z L=>?_,fun n S=>?_,fun i z hi L w V=>?_⟩
 ·rcases br.mp L with L|L
  ·exact h.good z L
  ·rw[aK.mp L];exact f
 ·rw[p];exact eT.mpr ⟨h.nd,by simp,fun a J b U e=>S (by rw [<- aK.mp U,<- e]; exact J)⟩
 ·rcases br.mp L with L|L
  ·exact h.place z L
  ·rw[aK.mp L];rcases sj d with t|t
   ·exact(mE T _ t).2
   ·exact(mE T _ t).1
 ·rcases br.mp L with L|L
  ·exact h.sound A B u g Q z L
  ·rw[aK.mp L];have s:=h.sound A B u g Q x G;rcases j with⟨e1,e2,e3⟩|⟨e1,e2⟩
   ·refine⟨fun z=>?_,fun _=>Q _ _ d e3 (s.1 e1)⟩;rw[e2]at z;exact absurd (aJ z) (by rw[ow];exact fun z=>z)
   ·exact⟨fun _=>g _ _ d (s.2 e1),fun z=>absurd e2 z⟩
 ·rw[p];exact cC _ (h.start n S)
 ·rw[p];rw[bC (by lia)]at L;exact cC _ (h.done i z hi L w V)
theorem ChI.next(h:ChI ps ts ds c k){x:Lk}(G:c[k]? =some x)(J:∀y∈my ts ds x,iL y∈c.map iL):ChI ps ts ds c (k+1):=
 ⟨h.good,h.nd,h.place,h.sound,h.start,fun i z hi L w V=>by
  by_cases e:i=k
  ·subst e;rw[G]at L;cases L;exact J w V
  ·exact h.done i z (by lia) L w V⟩
theorem ChI.zero(T:WebOk ps ts):ChI ps ts ds ((jV ps ds).map fun n=>((some wL,[n]):Lk)) 0:=by
 have K:((jV ps ds).map fun n=>((some wL,[n]):Lk)).map iL=jV ps ds:=by
  rw[bP];exact List.map_id _
 refine⟨fun x G=>?_,?_,fun x G=>?_,fun A B u g y x G=>?_,fun n S=>by rw[K];exact S,fun i _ hi=>absurd hi (Nat.not_lt_zero _)⟩
 ·obtain⟨n,_,rfl⟩:=av.mp G;exact .inl ⟨n,rfl⟩
 ·rw[K];exact(og ps ds).nodup T.p.nodup
 ·obtain⟨n,S,rfl⟩:=av.mp G;exact(og ps ds).subset S
 ·obtain⟨n,S,rfl⟩:=av.mp G;exact⟨fun z=>absurd (aJ z) (by rw[tL];exact fun z=>z),fun _=>u n S⟩
theorem GM{H:Hp}{l:Addr}{xs ys:List (iw×V)}(h:H l=some (.dK xs)):TupS H (upd H l (.dK ys)):=fun b o i q=>by
 have:b≠l:=fun z=>by rw[z,h]at q;cases q;cases i
 rw[iC this];exact q
noncomputable def Be:Sp:=fun vs H Q _=>∃v d td ps ts ds kvs x,vs=[v,.ref d,.ref td]/\LkAt H v x/\jmz x/\iL x∈ps.map (·.1)/\WebOk ps ts/\NrAt H d ps ts/\H td=some (.dT kvs)/\vK kvs ds/\∀r zs H',Same H H'->H r=none->H' r=some (.lst zs)->Lks H' zs (my ts ds x)->Q (.ref r) H'
theorem jmz.v{x:Lk}(g:jmz x):∃w:Str,x.1=some w/\jh (k7 x) 0=some (.str w)/\jh (k7 x) (-1)=some (.int (iL x)):=by
 rcases g with⟨p,rfl⟩|⟨u,v,rfl⟩|⟨u,v,rfl⟩
 ·exact⟨wL,rfl,iW,yS⟩
 ·exact⟨wB,rfl,iW,rj⟩
 ·exact⟨wT,rfl,iW,rj⟩
noncomputable def B0:Sp:=fun vs H Q _=>∃v ps ts l us ds,vs=[v,.ref l]/\jbl H v ps ts/\WebOk ps ts/\H l=some (.lst us)/\j8 H us ds/\ds.length<=200/\∀r zs c H',Same H H'->H r=none->H' r=some (.lst zs)->Lks H' zs c->ChI ps ts ds c c.length->Q (.ref r) H'
theorem Gh{ns:List Int}{n:Int}(h:n∉ns):jr (jg ns) (Sum.inl n:iw) (.bl true)=jg (ns++[n]):=by
 unfold jg;rw[af];exact L2.BS _ (by
  cases e:iX (ns.map fun n=>((Sum.inl n:iw),V.bl true)) (Sum.inl n:iw)with
  |none=>rfl
  |some x=>
   have:=rY ns n;unfold je jg at this;rw[e,aA h]at this;cases this)
theorem KD(B:Blt mg)(D:DefAt K mg "links_from" (top 47) ["link","nears","paid_ties"] f fd):FnOk P w K mg base iT 1 f fd ["link","nears","paid_ties"] Be:=by
 refine i6 D.F ["link","nears","paid_ties","last"] (by rintro _ _ _ _ ⟨v,d,td,ps,ts,ds,kvs,x,rfl,_⟩;rfl) ?_;rintro _ A _ s H vs Q E X M F o ⟨v,d,td,ps,ts,ds,kvs,x,rfl,G,gx,O,T,S,K',L8,h⟩;obtain⟨t,rfl,i⟩:=G;obtain⟨w0,ew,a0,r⟩:=gx.v;obtain⟨as,na,e,Y,G'⟩:=S.get T.p.nodup O;have F:=jX M;have o:_<PySem.cLine:=aZ F;refine⟨_,(iy (iM 3 X (iE (qv 0) (lV lX iu))) (iy (jt (jc ly (iE (qv 0) iu) lB (ja _)) (iF (iS (mh (CpScope.of (N:=["place","last","paid_ties"]) (src:=[none,some 3,some 2]) (by rfl)) rfl (jb (lM F (qv 1) (qv 3) (fun _ _=>rfl))) (fun _ _ _ _=>(iV 0)) (fun _ _ _ _=>(kU (wF (Fd F (jx (iG (qv 1) (qv 0))) (qv 2))))) (fun _ _ _ _=>(jx (jH lB (iG (qv 1) (qv 0)))))))) jv) (iF (iS (kR ["place","last"] [none,some 3] (jb (lM F (qv 1) (qv 3) (fun _ _=>rfl))) (iV 0) (jx (jH lB (iG (qv 1) (qv 0))))))))),?_⟩;refine iK fun R U=>?_;simp_arith[iH,i,r];subst U;refine iK fun R U=>?_;simp_arith[iH,i,a0];have A':=T.tl;have F':=yd ts (iL x);by_cases c:w0=wB
 ·have c1:x.1=some wB:=by rw[ew,c]
  rw[ao (show w0=Str.ofString "beside" from c)];walk_at "D";refine jA (i5 K na) H (fun R2 l=>?_) (fun z a=>jn (jC ts (iL x)).length (fun j L Hd=>∃m p,L=[m,some (.int (iL x)),some (.ref td)]/\Same H Hd/\Hd z=some (.lst p)/\Lks Hd p ((((jC ts (iL x)).take j).filter fun q=>lj ds (iL x) q).map fun q=>(some wT,[iL x,q]))) ⟨none,[],rfl,iD a _,ir,.nil⟩ ?_ ?_)
  ·unfold i8;simp_arith[e,Y];exact⟨na,rfl,⟨_,SqL.of G'⟩,l⟩
  ·rintro j L Hd W ⟨m,p,rfl,s1,k,n⟩;have sq:(jC ts (iL x))[j]? =some (jC ts (iL x))[j]:=gE W;generalize (jC ts (iL x))[j]=q at sq;have B':((jC ts (iL x)).map V.int)[j]? =some (.int q):=by rw[aU,sq];rfl
   have J:SqL K Hd na ((jC ts (iL x)).map V.int):=SqL.of (s1 _ _ G');refine⟨⟨_,_,J,B'⟩,?_⟩;rintro y H' ⟨rfl,C⟩;have:=C _ J;rw[B']at this;cases this;simp only[tB,y9];walk_at "D";intro p1 I;have q9:=iD I (.tup [V.int (iL x),V.int q]);have f9:upd H' p1 (.tup [V.int (iL x),V.int q]) p1=some (.tup (([Sum.inl (iL x),Sum.inl q]:List iw).map kV)):=ir;generalize upd H' p1 (.tup [V.int (iL x),V.int q])=b at q9 f9;have g:=s1.trans q9;walk_at "D";refine⟨td,_,rfl,DGet.t (g _ _ K') f9,_,rfl,?_⟩;rw[L8 (iL x) q,ji sq,bI,af,bU,List.filter_nil];have J':p.length<=j:=by
    rw[aq n,aa];refine bw (bq _ _) ?_;rw[aP];exact hU _ _
   cases c8:lj ds (iL x) q with
   |true=>
    walk_at "D";intro p2 u;have i':=iD u (.tup [.str (Str.ofString "tight"),V.int (iL x),V.int q]);have sz:=i' _ _ (q9 _ _ k);have Z:=ka (ys:=p++[.ref p2]) sz;refine⟨p,sz,iU (by lia),_,p++[.ref p2],rfl,i4 (g.trans i') a,ir,?_⟩;exact j3 (Lks.tups (Lks.tups n (q9.trans i').tups) Z) ⟨p2,rfl,Z _ _ rfl ir⟩
   |false=>
    walk_at "D";refine⟨_,p,rfl,g,q9 _ _ k,?_⟩;exact Lks.tups n q9.tups
  rintro L H1 ⟨m,p,rfl,s1,k,n⟩;refine⟨⟨_,SqL.of (s1 _ _ G'),by rw[aa];exact ay _⟩,?_⟩;rw[aD]at n;refine h z p H1 s1 a k ?_;unfold my;rw[aI c1];exact n
 ·rw[aA (show ¬w0=Str.ofString "beside" from c)];have c1:¬x.1=some wB:=fun z=>c (aJ (ew.symm.trans z));subst U;walk_at "D";refine jA (i5 K na) H (fun R2 l=>?_) (fun z a=>jn (jC ts (iL x)).length (fun j L Hd=>∃m p,L=[m,some (.int (iL x))]/\Same H Hd/\Hd z=some (.lst p)/\Lks Hd p (((jC ts (iL x)).take j).map fun q=>(some wB,[iL x,q]))) ⟨none,[],rfl,iD a _,ir,.nil⟩ ?_ ?_)
  ·unfold i8;simp_arith[e,Y];exact⟨na,rfl,⟨_,SqL.of G'⟩,l⟩
  ·rintro j L Hd W ⟨m,p,rfl,s1,k,n⟩;have sq:(jC ts (iL x))[j]? =some (jC ts (iL x))[j]:=gE W;generalize (jC ts (iL x))[j]=q at sq;have B':((jC ts (iL x)).map V.int)[j]? =some (.int q):=by rw[aU,sq];rfl
   have J:SqL K Hd na ((jC ts (iL x)).map V.int):=SqL.of (s1 _ _ G');refine⟨⟨_,_,J,B'⟩,?_⟩;rintro y H' ⟨rfl,C⟩;have:=C _ J;rw[B']at this;cases this;have J':p.length<=j:=by
    rw[aq n,aa,aP];exact hU _ _
   walk_at "D";intro p2 u;have i':=iD u (.tup [.str (Str.ofString "beside"),V.int (iL x),V.int q]);have sz:=i' _ _ k;have Z:=ka (ys:=p++[.ref p2]) sz;refine⟨p,sz,iU (by lia),_,p++[.ref p2],rfl,i4 (s1.trans i') a,ir,?_⟩;rw[ji sq,af];exact j3 (Lks.tups (Lks.tups n i'.tups) Z) ⟨p2,rfl,Z _ _ rfl ir⟩
  rintro L H1 ⟨m,p,rfl,s1,k,n⟩;refine⟨⟨_,SqL.of (s1 _ _ G'),by rw[aa];exact ay _⟩,?_⟩;rw[aD]at n;refine h z p H1 s1 a k ?_;unfold my;rw[aG c1];exact n
theorem Kp(B:Blt mg)(D:DefAt K mg "chain_for" (top 48) ["web","dues"] f fd)(MP:Ok P w K mg base "nears_in" (top 27) 1 ["web"] yj)(MN:Ok P w K mg base "tied_by_dues" (top 42) 1 ["dues"] wN)(ML:Ok P w K mg base "loose_places" (top 41) 2 ["web","dues"] xm)(L9:Ok P w K mg base "marked" (top 11) 1 ["places"] uA)(Nd:Ok P w K mg base "links_from" (top 47) 1 ["link","nears","paid_ties"] Be):FnOk P w K mg base iT 3 f fd ["web","dues"] B0:=by
 refine i6 D.F ["web","dues","nears","paid_ties","chain","named","done","here","link"] (by rintro _ _ _ _ ⟨v,ps,ts,l,us,ds,rfl,_⟩;rfl) ?_;rintro _ A _ s H vs Q E X M g J ⟨v,ps,ts,l,us,ds,rfl,o,T,el,pu,Z,h⟩;have Mh:=T.pl;have g:=jX M;have J:_<PySem.cLine:=aZ g;refine⟨_,(iy (iM 2 X (iN MP M (iJ (qv 0)))) (iy (iM 3 X (iN MN M (iJ (qv 1)))) (iy (rB 4 X ["place"] [none] (jb (iN ML M (iG (qv 0) (qv 1)))) (iV 0) (jx (iG lB (qv 0)))) (iy (iM 5 X (iN L9 M (iJ (kR ["link"] [none] (jb (qv 4)) (iV 0) (iE (qv 0) (lV lX iu)))))) (iy (iM 6 X iu) (iy (uN bg (jc nJ (qv 6) (kZ B (qv 4)) (ja _)) (iy (iM 7 X (iE (qv 4) (qv 6))) (iy (jY bg rfl (jb (iN Nd M (jH (qv 7) (iG (qv 2) (qv 3))))) (jd 8 X) (iF (jt (pI (sg g (iE (qv 8) (lV lX iu)) (qv 5))) (iy (pN g (qv 5) (iE (qv 8) (lV lX iu)) jT) (iF (j6 (kI ba aY aX kN (qv 4) (iJ (qv 8)))))) jv))) (iF (rT (i:=6) X rfl (Or.inl rfl) iu uh))))) (iF (iS (qv 4))))))))),?_⟩;refine iK fun R U=>?_;walk_at "D";refine⟨v,ps,ts,rfl,o,T,fun dn as H1 Mm s1 L' MC Mn=>?_⟩;have Mq:NrAt H1 dn ps ts:=⟨as,L',MC,Mn⟩;clear L' MC Mn;subst U;refine iK fun R U=>?_;walk_at "D";refine⟨l,us,ds,rfl,s1 _ _ el,j7 s1.tups pu,Z,fun dt kt H2 s2 MB MM=>?_⟩;have Mi:=s1.trans s2;have MJ:=Mq.same s2;clear Mq;have Na:=(og ps ds).length_le;rw[aa]at Na;subst U;refine iK fun R U=>?_;walk_at "D";refine vf (ι:=Addr×Hp) (fun y=>i5 K y.1) (fun y=>y.2) (fun y=>Same H2 y.2/\y.2 y.1=some (.lst ((jV ps ds).map V.int))) (fun R2 i'=>?_) ?_
 ·unfold i8;walk_at "D";refine⟨v,ps,ts,l,us,ds,rfl,o.same Mi,T,Mi _ _ el,j7 Mi.tups pu,Z,fun r H3 t er=>?_⟩;exact⟨r,rfl,⟨_,SqL.of er⟩,i' (r,H3) ⟨t,er⟩⟩
 rintro⟨r,H3⟩ ⟨t,er⟩ ch Mo;dsimp only at t er Mo ⊢;refine jn (jV ps ds).length (fun j L Hd=>∃m p,L=[m]/\Same H3 Hd/\Hd ch=some (.lst p)/\Lks Hd p (((jV ps ds).take j).map fun q=>(some wL,[q]))) ⟨none,[],rfl,iD Mo _,ir,.nil⟩ ?_ ?_
 ·rintro j L Hd d ⟨m,p,rfl,S,ez,pw⟩;have L8:(jV ps ds)[j]? =some (jV ps ds)[j]:=gE d;generalize (jV ps ds)[j]=q at L8;have Mg:((jV ps ds).map V.int)[j]? =some (.int q):=by rw[aU,L8];rfl
  have N:SqL K Hd r ((jV ps ds).map V.int):=SqL.of (S _ _ er);refine⟨⟨_,_,N,Mg⟩,?_⟩;rintro y H' ⟨rfl,O⟩;have:=O _ N;rw[Mg]at this;cases this;have MT:p.length<=j:=by
   rw[aq pw,aa,aP];exact hU _ _
  walk_at "D";intro p2 MR;have J':=iD MR (.tup [.str (Str.ofString "loose"),V.int q]);have Me:=J' _ _ ez;have t6:=ka (ys:=p++[.ref p2]) Me;refine⟨p,Me,iU (by lia),_,p++[.ref p2],rfl,i4 (S.trans J') Mo,ir,?_⟩;rw[ji L8,af];exact j3 (Lks.tups (Lks.tups pw J'.tups) t6) ⟨p2,rfl,t6 _ _ rfl ir⟩
 rintro L H4 ⟨m,p,rfl,S,ez,pw⟩;refine⟨⟨_,SqL.of (S _ _ er),by rw[aa];exact ay _⟩,?_⟩;rw[aD]at pw;have C0:=ChI.zero (ds:=ds) T;generalize MD:((jV ps ds).map fun n=>((some wL,[n]):Lk))=c0 at pw C0;have Nh:=C0.len;have Ni:=aq pw;have Mb:=t.trans S;have M0:H ch=none:=(Mi.trans t).free Mo;subst U;refine iK fun R U=>?_;walk_at "D";refine jA (i5 K ch) H4 (fun R2 i'=>?_) (fun z sz=>jn c0.length (fun j L Hd=>∃m,L=[m]/\Same H4 Hd/\Hd z=some (.lst (((c0.take j).map iL).map V.int))) ⟨none,rfl,iD sz _,ir⟩ ?_ ?_)
 ·unfold i8;walk_at "D";exact⟨ch,rfl,⟨_,SqL.of ez⟩,i'⟩
 ·rintro j L Hd d ⟨m,rfl,s5,sq⟩;have x1:c0[j]? =some c0[j]:=gE d;obtain⟨rv,Ma,Mj⟩:=oQ pw x1;obtain⟨ra,rfl,K'⟩:=Mj.tups s5.tups;have N:SqL K Hd ch p:=SqL.of (s5 _ _ ez);refine⟨⟨_,_,N,Ma⟩,?_⟩;rintro y H' ⟨rfl,O⟩;have:=O _ N;rw[Ma]at this;cases this;obtain⟨w0,ew,a0,al⟩:=(C0.good _ (cN d)).v;simp_arith[iH,K',al];refine⟨_,sq,?_,_,rfl,i4 s5 sz,?_⟩
  ·rw[aa,aa,aP];exact iU (by lia)
  ·rw[ir,ji x1,af,af];rfl
 rintro L H5 ⟨m,rfl,s5,sq⟩;refine⟨⟨_,SqL.of (s5 _ _ ez),by lia⟩,?_⟩;rw[aD]at sq;walk_at "D";refine⟨z,c0.map iL,rfl,sq,C0.nd,by rw[aa];lia,fun dm H6 MG s6 M7=>?_⟩;have A':=s5.trans s6;have MZ:=Mb.trans A';have Nk:=Mi.trans MZ;have MW:dm≠ch:=(iO (s5 _ _ ez) MG).symm;have Nf:H dm=none:=((Mi.trans Mb).trans s5).free MG;have M3:H2 dm=none:=(Mb.trans s5).free MG;have M4:H2 ch=none:=t.free Mo;have M5:=A' _ _ ez;have M6:=Lks.tups pw A'.tups;clear ez sq sz s5 A' pw;subst U;refine iK fun R U=>?_;walk_at "D";subst U;refine iK fun R U=>?_;refine uT (fun σ I=>∃(k:Nat) (v7 v8:Option V) (p:List V) (c:List Lk),σ=[some v,some (.ref l),some (.ref dn),some (.ref dt),some (.ref ch),some (.ref dm),some (.int (k:Int)),v7,v8]/\Same H2 I/\I ch=some (.lst p)/\Lks I p c/\I dm=some (.dK (jg (c.map iL)))/\ChI ps ts ds c k/\k<=c.length) (fun(σ:St) _=>match σ[6]? with |some (some (V.int k))=>ps.length-k.toNat|_=>0) ⟨0,none,none,p,c0,rfl,MZ,M5,M6,M7,C0,bS _⟩ ?_ ?_
 ·rintro σ I ⟨k,v7,v8,p,c,rfl,s7,Mc,pw,MU,C,F⟩;have Mf:=aq pw;have G':=C.len;by_cases c1:k<c.length
  ·have F':decide ((k:Int)<(p.length:Int))=true:=ao (by lia);have xk:c[k]? =some c[k]:=gE c1;have Mr:=cN c1;generalize c[k]=x at xk Mr;obtain⟨rv,Ma,Mj⟩:=oQ pw xk;have aw:jh p (k:Int)=some rv:=me Ma;simp_arith[iH,Mc,F',aw];refine yr (ι:=Addr×List V×Hp) (fun y=>i5 K y.1) (fun y=>y.2.2) (fun y=>Same I y.2.2/\I y.1=none/\y.2.2 y.1=some (.lst y.2.1)/\Lks y.2.2 y.2.1 (my ts ds x)) (fun R2 i'=>?_) ?_
   ·unfold i8;walk_at "D";refine⟨rv,dn,dt,ps,ts,ds,kt,x,rfl,Mj,C.good x Mr,C.place x Mr,T,MJ.same s7,s7 _ _ MB,MM,fun lr zs H8 s8 Mx Mt Mu=>?_⟩;exact⟨lr,rfl,⟨_,SqL.of Mt⟩,i' (lr,zs,H8) ⟨s8,Mx,Mt,Mu⟩⟩
   rintro⟨lr,zs,H8⟩ ⟨s8,Mx,Mt,Mu⟩;dsimp only at s8 Mx Mt Mu;have B':=aq Mu;have M8:lr≠ch:=(iO Mc Mx).symm;have Nc:lr≠dm:=(iO MU Mx).symm;refine lG (K:=K) (a:=lr) (xs:=zs) (fun i σ H9=>∃v8 p c,σ=[some v,some (.ref l),some (.ref dn),some (.ref dt),some (.ref ch),some (.ref dm),some (.int (k:Int)),some rv,v8]/\Same H2 H9/\TupS H8 H9/\H9 lr=some (.lst zs)/\H9 ch=some (.lst p)/\Lks H9 p c/\H9 dm=some (.dK (jg (c.map iL)))/\ChI ps ts ds c k/\k<c.length/\c[k]? =some x/\∀(j:Nat) (y:Lk),j<i->(my ts ds x)[j]? =some y->iL y∈c.map iL) ⟨v8,p,c,rfl,s7.trans s8,TupS.refl _,Mt,s8 _ _ Mc,Lks.tups pw s8.tups,s8 _ _ MU,C,c1,xk,fun j y d=>absurd d (Nat.not_lt_zero _)⟩ (fun i σ H9 _ ⟨v8,p,c,_,_,_,e9,_⟩=>SqL.of e9) ?_ ?_
   ·rintro i y σ H9 O ⟨v8,p,c,rfl,s9,t9,MI,MA,Mv,Mp,C9,Mw,Mz,ME⟩;obtain⟨q,W,pq⟩:=jm Mu O;obtain⟨tq,rfl,MY⟩:=pq.tups t9;have MV:=aC W;obtain⟨w0,ew,a0,al⟩:=(AS MV).1.v;have Nj:=C9.len;have Ng:=aq Mv;have G:(iX (jg (c.map iL)) (Sum.inl (iL q):iw)).isSome=decide (iL q∈c.map iL):=rY _ _;simp_arith[iH,MY,al,Mp,G];by_cases c2:iL q∈c.map iL
    ·rw[ao c2];walk_at "D";refine⟨_,p,c,rfl,s9,t9,MI,MA,Mv,(by first|exact Mp|rfl),C9,Mw,Mz,fun j y d Ml=>?_⟩;by_cases e:j=i
     ·subst e;rw[W]at Ml;cases Ml;exact c2
     ·exact ME j y (by lia) Ml
    ·rw[aA c2];have M':=C9.put T (by lia) (aC Mz) MV c2;simp_arith[Gh c2];have MX:(c++[q]).map iL=c.map iL++[iL q]:=by rw[af];rfl
     have MF:upd H9 dm (.dK (jg (c.map iL++[iL q]))) ch=some (.lst p):=by rw[iC MW.symm];exact MA
     have Nb:=GM (ys:=jg (c.map iL++[iL q])) Mp;have M9:=ka (ys:=p++[.ref tq]) MF;have MQ:=Nb.trans M9;refine⟨by unfold jg;rw[aa,aa];exact iU (by lia),⟨ch,p,rfl,MF⟩,?_⟩;rw[MF];dsimp only;refine⟨iU (by lia),_,p++[.ref tq],c++[q],rfl,i4 (i4 s9 M3) M4,t9.trans MQ,by rw[iC M8,iC Nc];exact MI,ir,j3 (Lks.tups Mv MQ) ⟨tq,rfl,MQ _ _ rfl MY⟩,by rw[iC MW,ir,MX],M',by rw[aH];lia,by rw[bC Mw];exact Mz,fun j y d Ml=>?_⟩;rw[MX];by_cases e:j=i
     ·subst e;rw[W]at Ml;cases Ml;exact bH _ (aK.mpr rfl)
     ·exact cC _ (ME j y (by lia) Ml)
   ·rintro σ H9 ⟨v8,p,c,rfl,s9,t9,MI,MA,Mv,Mp,C9,Mw,Mz,ME⟩;walk_at "D";refine⟨⟨k+1,_,_,p,c,by rw[show((k+1:Nat):Int)=(k:Int)+1 by lia],s9,MA,Mv,Mp,C9.next Mz fun y O=>?_,Mw⟩,?_⟩
    ·obtain⟨j,d⟩:=gh.mp O;exact ME j y (by rw[B'];exact(ax.mp d).1) d
    ·have:=C9.len;lia
  ·have F':decide ((k:Int)<(p.length:Int))=false:=aA (by lia);simp_arith[iH,Mc,F'];subst U;walk_at "D";have e:k=c.length:=by lia
   subst e;exact h ch p c I (Mi.trans s7) M0 Mc pw C
 ·intro σ I Q1 Q2 W Y;unfold fB mQ qm k8 lH jK at Y ⊢;cases e:σ[6]? with
  |none=>rw[e]at Y;exact Y.elim
  | some ov=>
   rw[e]at Y;cases ov with
   |none=>exact Y.elim
   | some u=>
    dsimp only[rh,fI,tC]at Y ⊢;cases e3:σ[4]? with
    |none=>rw[e3]at Y;exact Y.elim
    | some Ms=>
     rw[e3]at Y;cases Ms with
     |none=>exact Y.elim
     | some u3=>
      dsimp only at Y ⊢;cases u3 with
      | ref b=>
       dsimp only at Y ⊢;cases e2:iH I b with
       |none=>rw[e2]at Y;exact Y.elim
       |some us=>
        rw[e2]at Y;dsimp only at Y ⊢;cases u with
        |int i=>exact W _ _ Y
        |_=>exact Y.elim
      |_=>exact Y.elim
end
end
end My
namespace Fl
noncomputable def vp(ns:List Int)(pr:Int->Int)(zs:List Tw)(fs:Int->Int)(SL SR:Int->Bool):Prop:=
 ∀(A B:Int->Prop),(∀p∈ns,fs p<pr p->A p)->(∀z∈zs,(A z.a->B z.b)/\(A z.b->B z.a))->(∀z∈zs,(0<z.x->B z.b->A z.a)/\(0<z.y->B z.a->A z.b))->∀p∈ns,(SL p=true->A p)/\(SR p=true->B p)
section
variable{ns hs r:List Int}{ts:LY}{sp pr fs ft y:Int->Int}{wf:Int->List Nat}{cap:Nat->Int}{zs:List Tw}{SL SR:Int->Bool}
theorem Ew(D:Dbl ns ts sp hs)(N:Net wf hs (arcs ns ts) (kO ns))(C:Caps ns ts pr cap)(R:Rooms (arcs ns ts) cap r)(M:ma wf hs (kO ns) 0 1 r=none):
  vp ns pr (twS ns r ts) (mN sp r) (fun p=>mY wf hs (kO ns) r (sp p)) (fun p=>mY wf hs (kO ns) r (sp p+ns.length)):=fun A B U x y=>by
 have l:(0:Int)<=0/\(0:Int)<(kO ns:Nat):=⟨cg _,by unfold kO;lia⟩;have h1:(1:Int)∉(jR wf hs (kO ns) 0 r).map (·.1):=yW N (by decide) l M;have X:Cam hs r (arcs ns ts) 0 (jR wf hs (kO ns) 0 r):=nH N.from' _;unfold mY;generalize jR wf hs (kO ns) 0 r=cb at h1 X ⊢;have Q:∀p∈ns,∀q∈ns,sp p=sp q->p=q:=fun p O q W e=>by
  obtain⟨k,F,m⟩:=bx.mp W;have a:ns[k]? =some q:=by rw[gE F,m]
  exact(D.spI a O).mp (by rw[e];exact D.spot k q a)
 have key:∀(i:Nat) (v:Int) (o:Option Nat),cb[i]? =some (v,o)->(∀p∈ns,sp p=v->A p)/\(∀p∈ns,sp p+ns.length=v->B p):=by
  intro i
  induction i using Nat.strongRecOn with
  | ind i E=>
   intro v o hi;by_cases s:i=0
   ·subst s;rw[X.first]at hi;cases hi;exact⟨fun p O e=>by have:=D.spB O;lia,fun p O e=>by have:=D.spB O;lia⟩
   ·obtain⟨w,rfl,V,i',Y,j,u,d,g,K⟩:=X.came i v o hi (by lia);have b:v ≠ 1:=fun e=>h1 (by rw [<- e]; exact av.mpr ⟨_,aC hi,rfl⟩);obtain⟨⟨P,o'⟩,c,sq⟩:=dG.mp g;dsimp only at sq;subst sq;have n:P ≠ 1:=fun e=>h1 (by rw [<- e]; exact av.mpr ⟨_,aC c,rfl⟩);obtain⟨iA,iB⟩:=E j d P o' c;unfold arcs at V;by_cases c1:w<2*ns.length
    ·obtain⟨k,F⟩:∃k,w=2*k\/w=2*k+1:=⟨w/2,by lia⟩;have H:k<ns.length:=by lia
     obtain⟨s1,s2⟩:=D.src k H;rcases F with rfl|rfl
     ·rw[s1]at Y;refine⟨fun p O e=>?_,fun p O e=>by have:=D.spB O;lia⟩;have a:ns[k]? =some ns[k]:=gE H;have e2:=(D.spI a O).mp (by lia);have two:=R.two k (by unfold arcs;lia);rw[C.src k _ a]at two;refine U p O ?_;unfold mN;rw[e2,D.spot k _ a,show(2+(k:Int)-2).toNat=k by lia];lia
     ·rw[s2]at Y;exact⟨fun p O e=>by have:=D.spB O;lia,fun p O e=>by have:=D.spB O;lia⟩
    ·by_cases c2:w<2*(ns.length+ns.length)
     ·obtain⟨k,F⟩:∃k,w=2*(ns.length+k)\/w=2*(ns.length+k)+1:=⟨w/2-ns.length,by lia⟩;obtain⟨s1,s2⟩:=D.snk k (by lia);rcases F with rfl|rfl
      ·exact absurd (Y.symm.trans s1) b
      ·rw[show iY (2*(ns.length+k)+1)=2*(ns.length+k) by unfold iY;rw[aG (by lia)];lia]at K;exact absurd (K.symm.trans s1) n
     ·obtain⟨k,F⟩:∃k,w=2*(ns.length+ns.length+2*k)\/w=2*(ns.length+ns.length+2*k)+1\/w=2*(ns.length+ns.length+(2*k+1))\/w=2*(ns.length+ns.length+(2*k+1))+1:=⟨(w/2-(ns.length+ns.length))/2,by lia⟩;have H:k<ts.length:=by lia
      have S:=getD_at H;obtain⟨⟨T,t⟩,G,Z⟩:=D.tie k _ S;obtain⟨I,J⟩:=D.ends _ (aC S);have L:twAt ns r ts k∈twS ns r ts:=av.mpr ⟨k,bL.mpr H,rfl⟩;have f:=x _ L;have z:=y _ L;unfold twAt at f z;dsimp only at f z;have b1:=D.spB I;have b2:=D.spB J;rcases F with rfl|rfl|rfl|rfl
      ·rw[show iY (2*(ns.length+ns.length+2*k))=2*(ns.length+ns.length+2*k)+1 by unfold iY;rw[aI (by lia)]]at K;have q:=f.1 (iA _ I (t.symm.trans K));refine⟨fun p O e=>by have:=D.spB O;lia,fun p O e=>?_⟩;rw[Q p O _ J (by lia)];exact q
      ·rw[show iY (2*(ns.length+ns.length+2*k)+1)=2*(ns.length+ns.length+2*k) by unfold iY;rw[aG (by lia)];lia]at K;have q:=z.1 i' (iB _ J (T.symm.trans K));refine⟨fun p O e=>?_,fun p O e=>by have:=D.spB O;lia⟩;rw[Q p O _ I (by lia)];exact q
      ·rw[show iY (2*(ns.length+ns.length+(2*k+1)))=2*(ns.length+ns.length+(2*k+1))+1 by unfold iY;rw[aI (by lia)]]at K;have q:=f.2 (iA _ J (Z.symm.trans K));refine⟨fun p O e=>by have:=D.spB O;lia,fun p O e=>?_⟩;rw[Q p O _ I (by lia)];exact q
      ·rw[show iY (2*(ns.length+ns.length+(2*k+1))+1)=2*(ns.length+ns.length+(2*k+1)) by unfold iY;rw[aG (by lia)];lia]at K;have q:=z.2 i' (iB _ I (G.symm.trans K));refine⟨fun p O e=>?_,fun p O e=>by have:=D.spB O;lia⟩;rw[Q p O _ J (by lia)];exact q
 intro p O;simp only[bM];refine⟨fun h=>?_,fun h=>?_⟩
 all_goals
  obtain⟨⟨v,o⟩,K,e⟩:=av.mp h;obtain⟨i,hi⟩:=gh.mp K
 ·exact(key i v o hi).1 p O e.symm
 ·exact(key i v o hi).2 p O e.symm
theorem pP{α:Type}{f:α->Int}:∀{l:List α},(∀p∈l,0<=f p)->0<=(l.map f).sum
 |[],_=>cg _
 |a::l,h=>by
  rw[ai,List.sum_cons];have:=h a (aE ..);have:=pP (f:=f) (l:=l) fun p O=>h p (au _ O);lia
theorem Full.gap(F:Full ns pr zs fs ft SL SR)(y:Int->Int):(ns.map fun p=>y p*(2*pr p-(fs p+ft p))).sum+(zs.map fun z=>(z.x+z.y)*(y z.a+y z.b-2)).sum=2*(ns.map fun p=>pr p*y p).sum-2*(ns.map fun p=>pr p*lC SL SR p).sum:=by
 have e1:(ns.map fun p=>y p*(2*pr p-(fs p+ft p))).sum+((ns.map fun p=>y p*k6 zs p).sum+(ns.map fun p=>y p*inR zs p).sum)=(ns.map fun p=>pr p*y p).sum+(ns.map fun p=>pr p*y p).sum:=by
  rw [<- kG,<- kG,<- kG];refine jN fun p O=>?_;rw [<- F.left p O,<- F.right p O,g9,cX,cx (pr p),<- fL,cx (y p) 2,fL];lia
 have e2:(zs.map fun z=>(z.x+z.y)*(y z.a+y z.b-2)).sum+((zs.map fun z=>z.x+z.y).sum+(zs.map fun z=>z.x+z.y).sum)=(zs.map fun z=>y z.a*z.x+y z.b*z.y).sum+(zs.map fun z=>y z.b*z.x+y z.a*z.y).sum:=by
  rw [<- kG,<- kG,<- kG];refine jN fun z _=>?_;rw[g9,cX,eO,eO,cx z.x,cx z.y,cx z.x,cx z.y];lia
 rw[uC y F.nd F.ends,wQ y F.nd F.ends]at e1;rw[F.worth]at e2;lia
theorem Full.nnP(F:Full ns pr zs fs ft SL SR)(d:∀p∈ns,0<=y p):∀p∈ns,0<=y p*(2*pr p-(fs p+ft p)):=fun p O=>by
 have a:=F.capL p O;have b:=F.capR p O;exact gq (d p O) (by lia)
theorem Full.nnZ(F:Full ns pr zs fs ft SL SR)(j:∀z∈zs,2<=y z.a+y z.b):∀z∈zs,0<=(z.x+z.y)*(y z.a+y z.b-2):=fun z L=>by
 have a:=F.pos z L;have b:=j z L;exact gq (by lia) (by lia)
theorem Full.least(F:Full ns pr zs fs ft SL SR)(d:∀p∈ns,0<=y p)(j:∀z∈zs,2<=y z.a+y z.b):(ns.map fun p=>pr p*lC SL SR p).sum<=(ns.map fun p=>pr p*y p).sum:=by
 have g:=F.gap y;have a:=pP (F.nnP d);have b:=pP (F.nnZ j);lia
theorem uB{a b:Int}(h:a*b<=0)(J:0<=a)(U:0<b):a=0:=by
 by_cases c:a=0
 ·exact c
 ·have:=Int.mul_pos (show 0<a by lia) U;lia
theorem Full.agree(F:Full ns pr zs fs ft SL SR)(W:vp ns pr zs fs SL SR)(d:∀p∈ns,0<=y p/\y p<=2)(j:∀z∈zs,2<=y z.a+y z.b)(Y:(ns.map fun p=>pr p*y p).sum<=(ns.map fun p=>pr p*lC SL SR p).sum):∀p∈ns,(SL p=true->y p=0)/\(SR p=true->y p=2):=by
 have g:=F.gap y;have v:=F.nnP fun p O=>(d p O).1;have V:=F.nnZ j;have s1:=pP v;have s2:=pP V;have l1:=nN v;have l2:=nN V;refine W (fun p=>y p=0) (fun p=>y p=2) (fun p O h=>?_) (fun z L=>?_) (fun z L=>?_)
 ·have a:=F.capR p O;have:=l1 p O;exact uB (b:=2*pr p-(fs p+ft p)) (by lia) (d p O).1 (by lia)
 ·obtain⟨m,N⟩:=F.ends z L;have:=d _ m;have:=d _ N;have:=j z L;exact⟨fun h=>by lia,fun h=>by lia⟩
 ·have:=l2 z L;have O:=F.pos z L;have h2:=j z L;refine⟨fun h D=>?_,fun h D=>?_⟩
  all_goals
   have q:=uB (a:=y z.a+y z.b-2) (b:=z.x+z.y) (by rw[cx];lia) (by lia) (by lia);lia
theorem Full.fixed(F:Full ns pr zs fs ft SL SR)(W:vp ns pr zs fs SL SR)(d:∀p∈ns,0<=y p/\y p<=2)(j:∀z∈zs,2<=y z.a+y z.b)(Y:(ns.map fun p=>pr p*y p).sum<=(ns.map fun p=>pr p*lC SL SR p).sum):∀p∈ns,lC SL SR p≠1->y p=lC SL SR p:=fun p O h=>by
 obtain⟨a,b⟩:=F.agree W d j Y p O;unfold lC at h ⊢;cases e1:SL p<;>cases e2:SR p<;>rw[e1,e2]at h
 ·exact absurd rfl h
 ·rw[b e2];rfl
 ·rw[a e1];rfl
 ·exact absurd rfl h
end
end Fl
namespace Fl
section
variable{ns:List Int}{pr y:Int->Int}{zs:List Tw}{fs ft:Int->Int}{SL SR:Int->Bool}
theorem Full.paid_eq(F:Full ns pr zs fs ft SL SR){p:Int}(O:p∈ns):(zs.map fun z=>iZ z.a p (z.x+z.y)+iZ z.b p (z.x+z.y)).sum=fs p+ft p:=by
 rw[F.left p O,F.right p O];unfold k6 inR;rw [<- kG];refine jN fun z _=>?_;unfold iZ;split<;>split<;>lia
theorem Full.slack(F:Full ns pr zs fs ft SL SR)(d:∀p∈ns,0<=y p)(j:∀z∈zs,2<=y z.a+y z.b)(Y:(ns.map fun p=>pr p*y p).sum<=(ns.map fun p=>pr p*lC SL SR p).sum):(∀p∈ns,fs p+ft p<2*pr p->y p=0)/\∀z∈zs,0<z.x+z.y->y z.a+y z.b=2:=by
 have g:=F.gap y;have v:=F.nnP d;have V:=F.nnZ j;have s1:=pP v;have s2:=pP V;have l1:=nN v;have l2:=nN V;refine⟨fun p O h=>?_,fun z L h=>?_⟩
 ·have:=l1 p O;exact uB (b:=2*pr p-(fs p+ft p)) (by lia) (d p O) (by lia)
 ·have:=l2 z L;have h2:=j z L;have q:=uB (a:=y z.a+y z.b-2) (b:=z.x+z.y) (by rw[cx];lia) (by lia) h;lia
theorem Full.tight(F:Full ns pr zs fs ft SL SR)(h1:∀p∈ns,y p=0\/fs p+ft p=2*pr p)(h2:∀z∈zs,z.x+z.y=0\/y z.a+y z.b=2):(ns.map fun p=>pr p*y p).sum=(ns.map fun p=>pr p*lC SL SR p).sum:=by
 have g:=F.gap y;have a:(ns.map fun p=>y p*(2*pr p-(fs p+ft p))).sum=0:=by
  rw[jN (g:=fun _=>0) fun p O=>?_,l9];rcases h1 p O with h|h
  ·rw[h,Int.zero_mul]
  ·rw[h,Int.sub_self,eV]
 have b:(zs.map fun z=>(z.x+z.y)*(y z.a+y z.b-2)).sum=0:=by
  rw[jN (g:=fun _=>0) fun z L=>?_,l9];rcases h2 z L with h|h
  ·rw[h,Int.zero_mul]
  ·rw[h,Int.sub_self,eV]
 lia
end
end Fl
namespace My
open PySem L2
section
variable{P:Program}{w:World}{K:L3}{mg:L4}{base:Heap}{c1 c2 c3 c4:Tok}{C_NoWeb fqa:Addr}{dI:FuncData}
section
variable{r:List Int}
theorem Ex{ps ts:LY}(T:WebOk ps ts)(h:Rst ps ts r):Fl.vp (ps.map (·.1)) (jJ ps) (Fl.twS (ps.map (·.1)) r ts) (Fl.mN (jG ps) r) (sV ps ts r) (sU ps ts r):=by
 have Z:(ps.map (·.1)).length=ps.length:=aa _;have e1:(jL ps ts).length=Fl.arcs (ps.map (·.1)) ts:=by rw[uV];unfold Fl.arcs;rw[Z]
 have e2:ng ps=Fl.kO (ps.map (·.1)):=by unfold ng Fl.kO;rw[Z]
 have D:Fl.Dbl (ps.map (·.1)) ts (jG ps) (Fl.jB (jL ps ts)):=Fl.DR T.p.nodup (fun i p O=>wI T O) (mE T);have C:Fl.Caps (ps.map (·.1)) ts (jJ ps) (Fl.mF (jL ps ts)):=Fl.DS (qW T) fun p O=>by
  have A:∀q∈ps,0<=q.2:=fun q W=>by have:=T.p.pos q W;lia
  have:=Fl.nN (f:=fun q:Int×Int=>q.2) A p O;unfold md;lia
 obtain⟨c,b⟩:=h.rooms T;have N:=vG T;have e:=h.end_;rw[e1]at c b N;rw[e2]at N e;have F:=Fl.Ew D N C c e;rw[Z]at F;unfold sV sU pZ;rw[e2];exact F
theorem tY{ps ts:LY}:∀z∈Fl.twS (ps.map (·.1)) r ts,(z.a,z.b)∈ts:=fun z L=>by
 unfold Fl.twS at L;obtain⟨j,W,rfl⟩:=av.mp L;exact aC (Fl.getD_at (bL.mp W))
theorem nz{ps ts:LY}(T:WebOk ps ts)(y:Int->Int):((ps.map (·.1)).map fun n=>jJ ps n*y n).sum=(ps.map fun p=>p.2*y p.1).sum:=by
 rw[bP];exact Fl.jN fun p O=>by show jJ ps p.1*_=_;rw[qW T p O]
noncomputable def lJ(ps:LY)(y:Int->Int):Int:=(ps.map fun p=>p.2*y p.1).sum
structure Cov(ps ts:LY)(y:Int->Int):Prop where
 b:∀p∈ps,0<=y p.1/\y p.1<=2
 t:∀t∈ts,2<=y t.1+y t.2
theorem xw{ps ts:LY}(T:WebOk ps ts)(h:Rst ps ts r):Cov ps ts (oi ps ts r):=by
 refine⟨fun p _=>Fl.Ll p.1,fun t S=>?_⟩;have F:=qM T h;have L:t∈(oX ps ts r).map (fun d=>(d.1,d.2.1)):=by rw[Jh];exact S
 obtain⟨d,J,rfl⟩:=av.mp L;obtain⟨z,g,rfl⟩:=av.mp J;exact F.two z g
theorem C7{ps ts:LY}(T:WebOk ps ts)(h:Rst ps ts r){y:Int->Int}(c:Cov ps ts y):lJ ps (oi ps ts r)<=lJ ps y:=by
 have:=(qM T h).least (y:=y) (fun n S=>by obtain⟨p,O,rfl⟩:=av.mp S;exact(c.b p O).1) fun z L=>c.t _ (tY z L);rw[nz T,nz T]at this;exact this
theorem JT{ps ts:LY}(T:WebOk ps ts)(h:Rst ps ts r){y:Int->Int}(c:Cov ps ts y)(Y:lJ ps y<=lJ ps (oi ps ts r)):∀p∈ps,oi ps ts r p.1≠1->y p.1=oi ps ts r p.1:=fun p O=>by
 refine(qM T h).fixed (Ex T h) (fun n S=>by obtain⟨p,O,rfl⟩:=av.mp S;exact c.b p O) (fun z L=>c.t _ (tY z L)) ?_ p.1 (av.mpr ⟨p,O,rfl⟩);rw[nz T,nz T];exact Y
structure Best(ps ts:LY)(y:Int->Int):Prop where
 c:Cov ps ts y
 m:∀y',Cov ps ts y'->lJ ps y<=lJ ps y'
theorem si{ps ts:LY}(T:WebOk ps ts)(h:Rst ps ts r):Best ps ts (oi ps ts r):=⟨xw T h,fun _ c=>C7 T h c⟩
end
section
variable{ps ts:LY}{r:List Int}
section
variable{ds:LX}{c:List Lk}{n:Int}
theorem yg(T:WebOk ps ts)(h:Rst ps ts r){p:Int×Int}(O:p∈ps):iP (kQ ps ts r) p.1=Fl.mN (jG ps) r p.1+Fl.om (ps.map (·.1)) (jG ps) r p.1:=by
 have F:=qM T h;have o:∀d∈oX ps ts r,0<=d.2.2:=fun d J=>by
  obtain⟨z,L,rfl⟩:=av.mp J;have:=F.pos z L;dsimp only;lia
 rw[wj,Cz o];have:=F.paid_eq (av.mpr ⟨p,O,rfl⟩);unfold iP oX;rw[bP];exact this
theorem yq(T:WebOk ps ts)(h:Rst ps ts r){y:Int->Int}(b:Best ps ts y):(∀p∈ps,iP (kQ ps ts r) p.1<2*p.2->y p.1=0)/\∀d∈kQ ps ts r,y d.1+y d.2.1=2:=by
 have F:=qM T h;have Y:=b.m _ (xw T h);obtain⟨s1,s2⟩:=F.slack (y:=y) (fun n S=>by obtain⟨p,O,rfl⟩:=av.mp S;exact(b.c.b p O).1) (fun z L=>b.c.t _ (tY z L)) (by rw[nz T,nz T];exact Y);refine⟨fun p O Z=>?_,fun d J=>?_⟩
 ·rw[yg T h O]at Z;exact s1 p.1 (av.mpr ⟨p,O,rfl⟩) (by rw[qW T p O];exact Z)
 ·rw[wj]at J;obtain⟨h1,h2⟩:=bj.mp J;obtain⟨z,L,rfl⟩:=av.mp h1;exact s2 z L (aO h2)
theorem xS{a b:Int}(h:lj ds a b=true):∃d∈ds,(d.1=a/\d.2.1=b)\/(d.1=b/\d.2.1=a):=by
 obtain⟨d,J,e⟩:=fo.mp h;refine⟨d,J,?_⟩;simpa using e
theorem HW{d:Int×Int×Int}(h:d∈ds):lj ds d.1 d.2.1=true/\lj ds d.2.1 d.1=true:=⟨fo.mpr ⟨d,h,by simp⟩,fo.mpr ⟨d,h,by simp⟩⟩
noncomputable def jI(c:List Lk):List Int:=(c.filter fun x=>decide (x.1=some wB)).map iL
noncomputable def jP(c:List Lk):List Int:=(c.filter fun x=>!decide (x.1=some wB)).map iL
theorem qV:n∈jI c↔∃x∈c,x.1=some wB/\iL x=n:=by
 unfold jI;rw[av];constructor
 ·rintro⟨x,G,e⟩;have:=bj.mp G;exact⟨x,this.1,aO this.2,e⟩
 ·rintro⟨x,G,h1,e⟩;exact⟨x,bj.mpr ⟨G,ao h1⟩,e⟩
theorem qZ:n∈jP c↔∃x∈c,x.1≠some wB/\iL x=n:=by
 unfold jP;rw[av];constructor
 ·rintro⟨x,G,e⟩;have:=bj.mp G;exact⟨x,this.1,by simpa using this.2,e⟩
 ·rintro⟨x,G,h1,e⟩;exact⟨x,bj.mpr ⟨G,by simpa using h1⟩,e⟩
theorem xE(h:n∈c.map iL):n∈jI c\/n∈jP c:=by
 obtain⟨x,G,e⟩:=av.mp h;by_cases q:x.1=some wB
 ·exact .inl (qV.mpr ⟨x,G,q,e⟩)
 ·exact .inr (qZ.mpr ⟨x,G,q,e⟩)
theorem Bo(T:WebOk ps ts):∀t∈ts,t.1<t.2:=fun t S=>(TiOk.in T.t t S).1
theorem AR(T:WebOk ps ts){q:Int}(h:q∈jC ts n):n∈ps.map (·.1)/\q∈ps.map (·.1):=by
 rcases sj h with t|t
 ·exact mE T _ t
 ·exact(mE T _ t).symm
end
variable{c:List Lk}
theorem vd(T:WebOk ps ts)(h:Rst ps ts r)(C:ChI ps ts (kQ ps ts r) c c.length){y:Int->Int}(b:Best ps ts y):(∀n∈jI c,y n=2)/\∀n∈jP c,y n=0:=by
 obtain⟨s1,s2⟩:=yq T h b;have a:∀n∈ps.map (·.1),0<=y n/\y n<=2:=fun n S=>by obtain⟨p,O,rfl⟩:=av.mp S;exact b.c.b p O
 have s:=C.sound (fun n=>y n=0) (fun n=>y n=2) (fun n S=>?_) (fun n q W A=>?_) (fun n q W B h2=>?_)
 ·refine⟨fun n S=>?_,fun n S=>?_⟩
  ·obtain⟨x,G,e,rfl⟩:=qV.mp S;exact(s x G).1 e
  ·obtain⟨x,G,e,rfl⟩:=qZ.mp S;exact(s x G).2 e
 ·obtain⟨p,O,rfl⟩:=av.mp S;have:=bj.mp O;exact s1 p this.1 (aO this.2)
 ·have U:=a q (AR T W).2;rcases sj W with t|t
  ·have:=b.c.t _ t;dsimp only at this A ⊢;lia
  ·have:=b.c.t _ t;dsimp only at this A ⊢;lia
 ·obtain⟨d,J,e⟩:=xS B;have:=s2 d J;rcases e with⟨e1,e2⟩|⟨e1,e2⟩
  ·rw[e1,e2]at this;lia
  ·rw[e1,e2]at this;lia
noncomputable def hC(c:List Lk)(n:Int):Int:=if n∈jI c then 2 else if n∈jP c then 0 else 1
theorem Jq(T:WebOk ps ts)(h:Rst ps ts r)(C:ChI ps ts (kQ ps ts r) c c.length):Best ps ts (hC c):=by
 have F:=qM T h;obtain⟨N,w⟩:=vd T h C (si T h);have A:∀n,n∈jI c->n∉jP c:=fun n h1 h2=>by
  have:=N n h1;have:=w n h2;lia
 have s:∀x∈c,∀y∈my ts (kQ ps ts r) x,iL y∈c.map iL:=fun x G y j=>by
  obtain⟨i,hi⟩:=gh.mp G;exact C.done i x (ax.mp hi).1 hi y j
 have o:∀n q,q∈jC ts n->n∈jP c->q∈jI c:=fun n q W S=>by
  obtain⟨x,G,e,rfl⟩:=qZ.mp S;have:=s x G (some wB,[iL x,q]) (by unfold my;rw[aG e];exact av.mpr ⟨q,W,rfl⟩);rcases xE this with z|z
  ·exact z
  ·have u:=w _ S;have g:=w _ z;have ct:=(xw T h).t;change oi ps ts r q=0 at g;rcases sj W with t|t
   ·have:=ct _ t;dsimp only at this;lia
   ·have:=ct _ t;dsimp only at this;lia
 have l:∀n q,q∈jC ts n->lj (kQ ps ts r) n q=true->n∈jI c->q∈jP c:=fun n q W B S=>by
  obtain⟨x,G,e,rfl⟩:=qV.mp S;have:=s x G (some wT,[iL x,q]) (by unfold my;rw[aI e];exact av.mpr ⟨q,bj.mpr ⟨W,B⟩,rfl⟩);rcases xE this with z|z
  ·have u:=N _ S;have g:=N _ z;change oi ps ts r q=2 at g;obtain⟨d,J,e⟩:=xS B;have:=(yq T h (si T h)).2 d J;rcases e with⟨e1,e2⟩|⟨e1,e2⟩
   ·rw[e1,e2]at this;lia
   ·rw[e1,e2]at this;lia
  ·exact z
 have Y:∀n,(n∈jI c/\hC c n=2)\/(n∉jI c/\n∈jP c/\hC c n=0)\/(n∉jI c/\n∉jP c/\hC c n=1):=fun n=>by
  unfold hC;by_cases c1:n∈jI c
  ·exact .inl ⟨c1,aI c1⟩
  ·by_cases c2:n∈jP c
   ·exact .inr (.inl ⟨c1,c2,by rw[aG c1,aI c2]⟩)
   ·exact .inr (.inr ⟨c1,c2,by rw[aG c1,aG c2]⟩)
 have E:Cov ps ts (hC c):=by
  refine⟨fun p _=>?_,fun t B=>?_⟩
  ·rcases Y p.1 with⟨_,e⟩|⟨_,_,e⟩|⟨_,_,e⟩<;>lia
  ·obtain⟨v,V⟩:=BL (Bo T) (a:=t.1) (b:=t.2) B;rcases Y t.1 with⟨_,e⟩|⟨_,e1,e⟩|⟨_,_,e⟩<;>rcases Y t.2 with⟨M,f⟩|⟨M,Q,f⟩|⟨M,Q,f⟩
   all_goals first
    |lia
    |exact absurd (o _ _ v e1) M
    |(exfalso;rename_i P K;exact P (o _ _ V Q))
 refine⟨E,fun m R=>?_⟩;have e:=F.tight (y:=hC c) (fun n S=>?_) (fun z L=>?_)
 ·rw[nz T,nz T]at e;have:=C7 T h R;unfold lJ oi at this;unfold lJ;lia
 ·obtain⟨p,O,rfl⟩:=av.mp S;rw [<- yg T h O,qW T p O];by_cases q:iP (kQ ps ts r) p.1<2*p.2
  ·have Z:p.1∈jV ps (kQ ps ts r):=av.mpr ⟨p,bj.mpr ⟨O,ao q⟩,rfl⟩;have U:=(yq T h (si T h)).1 p O q;rcases Y p.1 with⟨e1,e⟩|⟨_,e1,e⟩|⟨e1,e2,e⟩
   ·have:=N _ e1;lia
   ·exact .inl e
   ·rcases xE (C.start _ Z)with z|z
    ·exact absurd z e1
    ·exact absurd z e2
  ·right;have:=F.paid (av.mpr ⟨p,O,rfl⟩);rw [F.paid_eq (av.mpr ⟨p,O,rfl⟩),<- yg T h O,qW T p O] at this;lia
 ·by_cases q:z.x+z.y=0
  ·exact .inl q
  ·right;have O:=F.pos z L;have J:(z.a,z.b,z.x+z.y)∈kQ ps ts r:=by
    rw[wj];exact bj.mpr ⟨av.mpr ⟨z,L,rfl⟩,ao (by show z.x+z.y>0;lia)⟩
   obtain⟨D,k⟩:=HW J;obtain⟨v,V⟩:=BL (Bo T) (tY z L);dsimp only at D k;rcases Y z.a with⟨e1,e⟩|⟨e1,e2,e⟩|⟨e1,e2,e⟩
   ·rcases Y z.b with⟨M,f⟩|⟨M,Q,f⟩|⟨M,Q,f⟩
    ·exact absurd (l _ _ v D e1) (A _ M)
    ·lia
    ·exact absurd (l _ _ v D e1) Q
   ·rcases Y z.b with⟨M,f⟩|⟨M,Q,f⟩|⟨M,Q,f⟩
    ·lia
    ·exact absurd (o _ _ v e2) M
    ·exact absurd (o _ _ v e2) M
   ·rcases Y z.b with⟨M,f⟩|⟨M,Q,f⟩|⟨M,Q,f⟩
    ·exact absurd (l _ _ V k M) e2
    ·exact absurd (o _ _ V Q) e1
    ·lia
theorem GY(T:WebOk ps ts)(h:Rst ps ts r)(C:ChI ps ts (kQ ps ts r) c c.length){D:Int->Int}(b:Best ps ts D)(u:∀y,Best ps ts y->∀p∈ps,D p.1≠1->y p.1=D p.1):∀p∈ps,(p.1∈jI c↔D p.1=2)/\(p.1∈jP c↔D p.1=0):=fun p O=>by
 obtain⟨N,w⟩:=vd T h C b;have cb:=Jq T h C;have key:=u _ cb p O;unfold hC at key;refine⟨⟨fun z=>N _ z,fun z=>?_⟩,⟨fun z=>w _ z,fun z=>?_⟩⟩
 ·have k:=key (by lia);by_cases c1:p.1∈jI c
  ·exact c1
  ·rw[aG c1]at k;split at k<;>lia
 ·have k:=key (by lia);by_cases c1:p.1∈jI c
  ·rw[aI c1]at k;lia
  ·rw[aG c1]at k;by_cases c2:p.1∈jP c
   ·exact c2
   ·rw[aG c2]at k;lia
end
end
end My
namespace My
open PySem L2
section
variable{P:Program}{w:World}{K:L3}{mg:L4}{base:Heap}{c1 c2 c3 c4 e1 e2 e3:Tok}{C_NoWeb fqa:Addr}{dI:FuncData}{c:List Lk}{i:Nat}{x:Lk}
noncomputable def dd(acc:List Int):List Int->List Int
 |[]=>acc
 |n::r=>dd (if n∈acc then acc else acc++[n]) r
theorem E4(as:List Int)(n:Int):jr (jg as) (Sum.inl n:iw) (V.bl true)=jg (if n∈as then as else as++[n]):=by
 have key:∀as:List Int,((jg as).any fun L=>decide (L.1=(Sum.inl n:iw)))=decide (n∈as):=by
  intro as
  induction as with
  |nil=>rfl
  | cons a r E=>
   show(decide ((Sum.inl a:iw)=Sum.inl n)||_)=_;have e:decide ((Sum.inl a:iw)=Sum.inl n)=decide (n=a):=by
    by_cases h:a=n
    ·subst h;simp
    ·rw[aA (fun z=>h (bR z)),aA (fun z=>h z.symm)]
   have i:((jg r).any fun L=>decide (L.1=(Sum.inl n:iw)))=decide (n∈r):=E;rw[e];show(decide (n=a)||(jg r).any _)=_;rw[i];simp
 have p:∀as:List Int,((jg as).map fun L=>if L.1=(Sum.inl n:iw)then(L.1,V.bl true)else L)=jg as:=by
  intro as;unfold jg;rw[bP];refine gw fun a _=>?_;show(if(Sum.inl a:iw)=Sum.inl n then((Sum.inl a:iw),V.bl true)else(Sum.inl a,V.bl true))=_;split<;>rfl
 unfold jr;rw[key];by_cases h:n∈as
 ·rw[ao h,aI h];simp only[if_true];exact p as
 ·rw[aA h,aG h];simp only[aL,if_false];unfold jg;rw[af];rfl
theorem BH:∀(ns acc:List Int),nj (jg acc) (jg ns)=jg (dd acc ns)
 |[],_=>rfl
 |n::r,acc=>by
  show nj (jr (jg acc) (Sum.inl n:iw) (V.bl true)) (jg r)=_;rw[E4,BH r];rfl
theorem zE:∀(ns:List Int) {acc:List Int} {x:Int},x∈dd acc ns↔x∈acc\/x∈ns
 |[],acc,x=>by rw[dd];simp
 | n ::r,acc,x=>by
  rw[dd,zE r];split
  ·rename_i c;constructor
   ·rintro(h|h)
    ·exact .inl h
    ·exact .inr (au _ h)
   ·rintro(h|h)
    ·exact .inl h
    ·rcases aV.mp h with h|h
     ·rw[h];exact .inl c
     ·exact .inr h
  ·constructor
   ·rintro(h|h)
    ·rcases br.mp h with h|h
     ·exact .inl h
     ·rw[aK.mp h];exact .inr (aE ..)
    ·exact .inr (au _ h)
   ·rintro(h|h)
    ·exact .inl (cC _ h)
    ·rcases aV.mp h with h|h
     ·rw[h];exact .inl (bH _ (aK.mpr rfl))
     ·exact .inr h
theorem rO:∀(ns:List Int) {acc:List Int},(dd acc ns).length<=acc.length+ns.length
 |[],acc=>by rw[dd];simp
 | n::r,acc=>by
  rw[dd];split
  ·have:=rO r (acc:=acc);simp;lia
  ·have:=rO r (acc:=acc++[n]);simp at this ⊢;lia
noncomputable def Bf:Sp:=fun vs H Q _=>∃u,∃ns:List Int,vs=[.ref u]/\H u=some (.lst (ns.map V.int))/\ns.length<=120/\∀d H',H d=none->Same H H'->H' d=some (.dK (jg (dd [] ns)))->Q (.ref d) H'
theorem Iy(h:c[i]? =some x):jI (c.take (i+1))=jI (c.take i)++(if decide (x.1=some wB)=true then[iL x]else[]):=by
 unfold jI;rw[ji h,bI,af]
 congr 1
 rw[bU];split<;>simp
theorem JJ(h:c[i]? =some x):jP (c.take (i+1))=jP (c.take i)++(if decide (x.1=some wB)=true then[]else[iL x]):=by
 unfold jP;rw[ji h,bI,af]
 congr 1
 rw[bU];by_cases q:x.1=some wB
 ·rw[ao q];rfl
 ·rw[aA q];rfl
theorem sd(c:List Lk)(i:Nat):(jI (c.take i)).length<=c.length:=by
 unfold jI;rw[aa];refine bw (bq _ _) ?_;rw[aP];exact gW _ _
theorem sm(c:List Lk)(i:Nat):(jP (c.take i)).length<=c.length:=by
 unfold jP;rw[aa];refine bw (bq _ _) ?_;rw[aP];exact gW _ _
theorem BK(ns:List Int):(jg ns).map (·.1)=ns.map Sum.inl:=by unfold jg;rw[bP];rfl
noncomputable def mP(ms ns:List Int):Prop:=(∀n,n∈ms↔n∈ns)/\ms.length<=ns.length
theorem Ab{ms ns:List Int}(p:ms.Perm (dd [] ns)):mP ms ns:=by
 have:=rO ns (acc:=[]);rw[List.length_nil,Nat.zero_add]at this;refine⟨fun n=>?_,by rw[p.length_eq];exact this⟩;rw[p.mem_iff,zE];simp
noncomputable def wJ:Sp:=fun vs H Q _=>∃c xs l,vs=[.ref c]/\H c=some (.lst xs)/\Lks H xs l/\(∀x∈l,jmz x)/\l.length<=40/\∀t a b ms ns H',Same H H'->H a=none->H b=none->a≠b->H' t=some (.tup [.ref a,.ref b])->H' a=some (.lst (ms.map V.int))->H' b=some (.lst (ns.map V.int))->mP ms (jI l)->mP ns (jP l)->Q (.ref t) H'
noncomputable def Ak:Sp:=fun vs H Q _=>∃v ps ts,vs=[v]/\jbl H v ps ts/\WebOk ps ts/\ps.length<=30/\∀t l1 l2 U zs us p r c H',Same H H'->H' t=some (.tup [.ref l1,.ref l2,.ref U])->H' l1=some (.lst zs)->H' l2=some (.lst us)->H' U=some (.lst p)->H l1=none->H l2=none->H U=none->l1≠l2->l1≠U->l2≠U->Rst ps ts r->Prs H' zs (DF ps ts r)->j8 H' us (kQ ps ts r)->Lks H' p c->ChI ps ts (kQ ps ts r) c c.length->Q (.ref t) H'
noncomputable def Aj:Sp:=fun vs H Q _=>∃v ps ts,vs=[v]/\jbl H v ps ts/\WebOk ps ts/\ps.length<=30/\∀t a b ms ns r c H',Same H H'->H a=none->H b=none->a≠b->H' t=some (.tup [.ref a,.ref b])->H' a=some (.lst (ms.map V.int))->H' b=some (.lst (ns.map V.int))->Rst ps ts r->ChI ps ts (kQ ps ts r) c c.length->mP ms (jI c)->mP ns (jP c)->Q (.ref t) H'
theorem F3(ps ts:LY)(r:List Int):(kQ ps ts r).length<=ts.length:=by
 unfold kQ oo;refine bw (bq _ _) ?_;rw[aa,cB];exact ay _
theorem JD(B:Blt mg)(D:DefAt K mg "marked" (top 11) ["places"] f fd):FnOk P w K mg base iT 1 f fd ["places"] Bf:=by
 refine i6 D.F ["places"] (by rintro _ _ _ _ ⟨u,ns,rfl,_⟩;rfl) ?_;rintro _ A _ s H vs Q E X M _ _ ⟨u,ns,rfl,N,Z,h⟩;refine⟨_,(iF (iS (nC (Jo rfl) rfl B.dict cD (iJ (kR ["place"] [none] (jb (qv 0)) (iV 0) (jx (iG (qv 0) jT))))))),?_⟩;walk_at "D";refine jA (i5 K u) H (fun R U=>?_) (fun l r=>jn ns.length (fun i L I=>∃m xs,L=[m]/\Same H I/\I l=some (.lst xs)/\Paired (PairAt I) xs (jg (ns.take i))) ⟨none,[],rfl,iD r _,ir,.nil⟩ ?_ ?_)
 ·unfold i8;walk_at "D";exact⟨u,rfl,⟨_,SqL.of N⟩,U⟩
 ·rintro k L I F ⟨m,xs,rfl,j,x,Y⟩;have x1:ns[k]? =some ns[k]:=gE F;generalize ns[k]=n at x1;have G:(ns.map V.int)[k]? =some (.int n):=by rw[aU,x1];rfl
  have C:SqL K I u (ns.map V.int):=SqL.of (j _ _ N);refine⟨⟨_,_,C,G⟩,?_⟩;rintro y H' ⟨rfl,O⟩;have o:V.int n=y:=aJ (G.symm.trans (O _ C));subst o;walk_at "D";intro t S;have a:xs.length=k:=by
   have:=aq Y;unfold jg at this;rw[aa,aP]at this;lia
  refine⟨_,iD S _ _ _ x,iU (by lia),_,_,rfl,i4 (j.trans (iD S _)) r,ir,?_⟩;have g:l≠t:=iO x S;have ks:∀v p,PairAt H' v p->PairAt (upd (upd H' t (.tup [.int n,.bl true])) l (.lst (xs++[.ref t]))) v p:=fun v p ⟨b,e1,e2⟩=>⟨b,e1,by
   rw[iC (fun z=>by rw[z,x]at e2;cases e2),iC (iO e2 S)];exact e2⟩
  rw[ji x1];unfold jg;rw[af];exact j3 (Paired.mapP Y ks) ⟨t,rfl,by rw[iC g.symm,ir];rfl⟩
 rintro L e ⟨m,xs,rfl,T,q,W⟩;refine⟨⟨_,SqL.of (T _ _ N),by rw[aa];exact ay _⟩,?_⟩;rw[aD]at W;have a:xs.length=ns.length:=by
  have:=aq W;unfold jg at this;rw[aa]at this;exact this
 walk_at "D";refine⟨l,xs,jg ns,rfl,q,W,by lia,fun d J=>?_⟩;have c:nj [] (jg ns)=jg (dd [] ns):=BH ns [];rw[c];exact h d _ (T.free J) (T.trans (iD J _)) ir
theorem J4(B:Blt mg)(D:DefAt K mg "fixed_by" (top 46) ["chain"] f fd)(sz:Ok P w K mg base "marked" (top 11) 1 ["places"] Bf):FnOk P w K mg base iT 2 f fd ["chain"] wJ:=by
 refine i6 D.F ["chain","ins","outs"] (by rintro _ _ _ _ ⟨c,xs,l,rfl,_⟩;rfl) ?_;rintro _ A _ s H vs Q E X M g o ⟨c,xs,l,rfl,ec,pl,gd,Z,h⟩;have K':=aq pl;have g:=jX M;have o:_<PySem.cLine:=aZ g;refine⟨_,(iy (iM 1 X (iN sz M (iJ (mh (CpScope.of (N:=["link"]) (src:=[none]) (by rfl)) rfl (jb (qv 0)) (fun _ _ _ _=>(iV 0)) (fun _ _ _ _=>(kU (jc ly (iE (qv 0) iu) lB (ja _)))) (fun _ _ _ _=>(iE (qv 0) (lV lX iu))))))) (iy (iM 2 X (iN sz M (iJ (mh (CpScope.of (N:=["link"]) (src:=[none]) (by rfl)) rfl (jb (qv 0)) (fun _ _ _ _=>(iV 0)) (fun _ _ _ _=>(kU (jc tH (iE (qv 0) iu) lB (ja _)))) (fun _ _ _ _=>(iE (qv 0) (lV lX iu))))))) (iF (iS (jx (iG (jZ (yn rfl) rfl B.sorted fK (iJ (qv 1))) (jZ (yn rfl) rfl B.sorted fK (iJ (qv 2))))))))),?_⟩;walk_at "D";refine jA (i5 K c) H (fun R Y=>?_) (fun l1 G'=>jn l.length (fun i L I=>∃m,L=[m]/\Same H I/\I l1=some (.lst ((jI (l.take i)).map V.int))) ⟨none,rfl,iD G' _,ir⟩ ?_ ?_)
 ·unfold i8;walk_at "D";exact⟨c,rfl,⟨_,SqL.of ec⟩,Y⟩
 ·rintro k L I F ⟨m,rfl,d,x⟩;have x1:l[k]? =some l[k]:=gE F;obtain⟨p,B',J'⟩:=oQ pl x1;obtain⟨ra,rfl,sq⟩:=J'.tups d.tups;have C:SqL K I c xs:=SqL.of (d _ _ ec);refine⟨⟨_,_,C,B'⟩,?_⟩;rintro y H' ⟨rfl,j⟩;have:=j _ C;rw[B']at this;cases this;obtain⟨w0,ew,a0,al⟩:=(gd _ (cN F)).v;have ed:decide (w0=Str.ofString "beside")=decide (l[k].1=some wB):=by
   rw[ew];by_cases q:w0=wB
   ·rw[ao (show w0=Str.ofString "beside" from q),ao (by rw[q])]
   ·rw[aA (show ¬w0=Str.ofString "beside" from q),aA (fun z=>q (aJ z))]
  simp_arith[iH,sq,a0,al];rw[ed,Iy x1];cases cq:decide (l[k].1=some wB)with
  | true=>
   walk_at "D";refine⟨_,x,?_,_,rfl,i4 d G',?_⟩
   ·rw[aa];have:=sd l k;exact iU (by lia)
   ·rw[ir,af];rfl
  |false=>
   walk_at "D";exact⟨_,rfl,d,x⟩
 rintro L H1 ⟨m,rfl,s1,e1⟩;refine⟨⟨_,SqL.of (s1 _ _ ec),by lia⟩,?_⟩;rw[aD]at e1;have n1:=sd l l.length;rw[aD]at n1;walk_at "D";refine⟨l1,jI l,rfl,e1,by lia,fun d1 H2 L8 s2 A'=>?_⟩;walk_at "D";have Ma:=(s1.trans s2) _ _ ec;have Mi:=Lks.tups pl (s1.trans s2).tups;refine jA (i5 K c) H2 (fun R Y=>?_) (fun l3 F'=>jn l.length (fun i L I=>∃m,L=[m]/\Same H2 I/\I l3=some (.lst ((jP (l.take i)).map V.int))) ⟨none,rfl,iD F' _,ir⟩ ?_ ?_)
 ·unfold i8;walk_at "D";exact⟨c,rfl,⟨_,SqL.of Ma⟩,Y⟩
 ·rintro k L I F ⟨m,rfl,d,x⟩;have x1:l[k]? =some l[k]:=gE F;obtain⟨p,B',J'⟩:=oQ Mi x1;obtain⟨ra,rfl,sq⟩:=J'.tups d.tups;have C:SqL K I c xs:=SqL.of (d _ _ Ma);refine⟨⟨_,_,C,B'⟩,?_⟩;rintro y H' ⟨rfl,j⟩;have:=j _ C;rw[B']at this;cases this;obtain⟨w0,ew,a0,al⟩:=(gd _ (cN F)).v;have ed:decide (w0=Str.ofString "beside")=decide (l[k].1=some wB):=by
   rw[ew];by_cases q:w0=wB
   ·rw[ao (show w0=Str.ofString "beside" from q),ao (by rw[q])]
   ·rw[aA (show ¬w0=Str.ofString "beside" from q),aA (fun z=>q (aJ z))]
  simp_arith[iH,sq,a0,al];rw[ed,JJ x1];cases cq:decide (l[k].1=some wB)with
  |true=>
   walk_at "D";exact⟨_,rfl,d,x⟩
  | false=>
   walk_at "D";refine⟨_,x,?_,_,rfl,i4 d F',?_⟩
   ·rw[aa];have:=sm l k;exact iU (by lia)
   ·rw[ir,af];rfl
 rintro L H3 ⟨m,rfl,W,e3⟩;refine⟨⟨_,SqL.of (W _ _ Ma),by lia⟩,?_⟩;rw[aD]at e3;have n3:=sm l l.length;rw[aD]at n3;walk_at "D";refine⟨l3,jP l,rfl,e3,by lia,fun d3 e Mg d i'=>?_⟩;have Mh:=rO (jI l) (acc:=[]);have Mf:=rO (jP l) (acc:=[]);rw[List.length_nil,Nat.zero_add]at Mh Mf;walk_at "D";refine⟨d1,jg (dd [] (jI l)),dd [] (jI l),rfl,(W.trans d) _ _ A',BK _,by lia,fun a ms J p1 O=>?_⟩;generalize G:upd e a _=T;obtain⟨n,Mb⟩:=kc J G;have L9:=n _ _ i';clear G;refine⟨d3,jg (dd [] (jP l)),dd [] (jP l),rfl,L9,BK _,by lia,fun b ns U p2 v=>?_⟩;have r:=iD U (.lst (ns.map V.int));have Mc:upd T b (.lst (ns.map V.int)) b=some (.lst (ns.map V.int)):=ir;have Me:a≠b:=iO Mb U;generalize upd T b (.lst (ns.map V.int))=H6 at r Mc;walk_at "D";intro t S;have u:=iD S (.tup [.ref a,.ref b]);have L':=(s1.trans s2).trans (W.trans d);exact h t a b ms ns _ (L'.trans (n.trans (r.trans u))) (L'.free J) ((L'.trans n).free U) Me ir (u _ _ (r _ _ Mb)) (u _ _ Mc) (Ab p1) (Ab p2)
theorem KN(B:Blt mg)(D:DefAt K mg "fixed_paper" (top 49) ["web"] f fd)(q:Ok P w K mg base "look_at_web" (top 24) 5 ["thing"] yi)(G:Ok P w K mg base "told_paper" (top 38) 6 ["web"] As)(y:Ok P w K mg base "chain_for" (top 48) 3 ["web","dues"] B0):FnOk P w K mg base iT 7 f fd ["web"] Ak:=by
 refine i6 D.F ["web","paper"] (by rintro _ _ _ _ ⟨v,ps,ts,rfl,_⟩;rfl) ?_;rintro _ A _ s H vs Q E X M _ _ ⟨v,ps,ts,rfl,V,T,k,h⟩;refine⟨_,(iy (j6 (iN q M (iJ (qv 0)))) (iy (iM 1 X (iN G M (iJ (qv 0)))) (iF (iS (jx (jH (iE (qv 1) iu) (iG (iE (qv 1) iu) (iN y M (iG (qv 0) (iE (qv 1) iu)))))))))),?_⟩;walk_at "D";refine⟨v,ps,ts,rfl,V,T,fun H1 s1=>?_⟩;walk_at "D";refine⟨v,ps,ts,rfl,V.same s1,T,k,fun t l1 l2 zs us r H2 s2 i e1 e2 n x S o e Y z=>?_⟩;simp_arith[iH,i,iW,jl];have I:=F3 ps ts r;have l:=T.tl;have b:=s1.trans s2;refine⟨v,ps,ts,l2,us,kQ ps ts r,rfl,V.same b,T,e2,z,by lia,fun m p c H3 W j F u C=>?_⟩;walk_at "D";intro Z g;have d:=iD g (.tup [.ref l1,.ref l2,.ref m]);have a:=W.trans d;exact h Z l1 l2 m zs us p r c _ (b.trans a) ir (a _ _ e1) (a _ _ e2) (d _ _ F) (s1.free x) (s1.free S) (b.free j) o (iO e1 j) (iO e2 j) e (Prs.same a Y) (j7 a.tups z) (Lks.tups u d.tups) C
theorem J5(B:Blt mg)(D:DefAt K mg "fixed_of" (top 50) ["web"] f fd)(n:Ok P w K mg base "fixed_paper" (top 49) 7 ["web"] Ak)(m:Ok P w K mg base "fixed_by" (top 46) 2 ["chain"] wJ):FnOk P w K mg base iT 8 f fd ["web"] Aj:=by
 refine i6 D.F ["web"] (by rintro _ _ _ _ ⟨v,ps,ts,rfl,_⟩;rfl) ?_;rintro _ A _ s H vs Q E X M _ _ ⟨v,ps,ts,rfl,V,T,k,h⟩;refine⟨_,(iF (iS (iN m M (iJ (iE (iN n M (iJ (qv 0))) iu))))),?_⟩;walk_at "D";refine⟨v,ps,ts,rfl,V,T,k,fun t l1 l2 d zs us p r c H1 s1 i e1 e2 e3 _ _ _ _ _ _ e Y z u C=>?_⟩;simp_arith[iH,i,oq];have:=C.len;have:=T.pl;exact⟨d,p,c,rfl,e3,u,C.good,by lia,fun t a b ms ns H2 s2 J U g j q G r1 l=>h t a b ms ns r c H2 (s1.trans s2) (s1.free J) (s1.free U) g j q G e C r1 l⟩
end
end My
namespace My
open PySem L2
section
variable{P:Program}{w:World}{K:L3}{mg:L4}{base:Heap}{c1 c2 c3 c4:Tok}{ps:LY}{st:Addr}{o:HO}
theorem Dr.pl:∀{ps:LY} {l s:Int},Dr l ps->l+23*ps.length<=999->s+1000000000*ps.length<=1000000000000->PlOk l s ps
 |[],_,_,_,_,_=>trivial
 |p::r,l,s,h,h1,h2=>by
  have e:((p::r).length:Int)=r.length+1:=by simp
  rw[e]at h1 h2;obtain⟨⟨u,x,y,n⟩,D⟩:=h;exact⟨⟨u,by lia,y,by lia⟩,Dr.pl D (by lia) (by lia)⟩
theorem Dr.gt:∀{ps:LY} {l:Int},Dr l ps->∀p∈ps,l<p.1
 |[],_,_,_,h=>by cases h
 | q::r,l,h,p,O=>by
  rcases aV.mp O with e|O
  ·rw[e];exact h.1.1
  ·have:=Dr.gt h.2 p O;have:=h.1.1;lia
theorem Dr.rise:∀{ps:LY} {l:Int},Dr l ps->∀(i j:Nat) (p q:Int×Int),i<j->ps[i]? =some p->ps[j]? =some q->p.1<q.1
 |[],_,_,i,j,p,q,_,h,_=>by simp at h
 | r::rs,l,h,i,j,p,q,c,hi,W=>by
  cases j with
  |zero=>lia
  | succ j=>
   have a:rs[j]? =some q:=by simpa using W
   cases i with
   |zero=>
    have e:r=p:=by simpa using hi
    subst e;exact Dr.gt h.2 q (aC a)
   |succ i=>exact Dr.rise h.2 i j p q (by lia) (by simpa using hi) a
noncomputable def oH(q:Int×Int):LY->Int×Int
 |[]=>q
 |p::r=>oH p r
theorem CW:∀{ts:LY} {q p:Int×Int},oH q (ts++[p])=p
 |[],_,_=>rfl
 |t::r,_,_=>CW (ts:=r)
theorem TiOk.snoc{kvs:List (iw×V)}:∀{ts:LY} {q p:Int×Int},TiOk kvs q ts->(HT.lexLt [(oH q ts).1,(oH q ts).2] [p.1,p.2]=true/\p.1<p.2/\je kvs p.1=true/\je kvs p.2=true)->TiOk kvs q (ts++[p])
 |[],_,_,_,h=>⟨h,trivial⟩
 |t::r,_,_,h,h2=>⟨h.1,TiOk.snoc h.2 h2⟩
theorem rP{H:Hp}{a:Addr}{xs:List V}(J:H a=some (.lst xs))(j:Prs H xs ps)(hs:H st=some o)(C:StO o):a≠st:=by
 intro z;obtain⟨c,s,f,e,_⟩:=C;rw[z,hs,e]at J;cases J;cases j with
 |cons r _=>obtain⟨t,e,_⟩:=r;cases e
theorem jbl.but{H H':Hp}{v:V}{ts:LY}(h:jbl H v ps ts)(hs:H st=some o)(C:StO o)(b:But st H H'):jbl H' v ps ts:=by
 obtain⟨u,G,ta,xs,ys,e,h1,h2,D,T,K⟩:=h;have t:=b.tups hs C.imm;exact⟨u,G,ta,xs,ys,e,t _ _ rfl h1,b _ _ (rP h2 T hs C) h2,b _ _ (rP D K hs C) D,Prs.tups t T,Prs.tups t K⟩
noncomputable def rq(n:Nat):Nat->Nat
 |0=>0
 |k+1=>rq n k+(n-(k+1))
theorem D8:∀n,n<=12->∀k,k<=12->rq n k<=66:=by decide
theorem GL:∀n,n<=10->rq n n<=45:=by decide
noncomputable def Au:Sp:=fun vs H Q _=>∃s o m,vs=[.ref s,.int m]/\H s=some o/\StO o/\0<=m/\m<=10/\
 ∀v H' o' ps ts,But s H H'->H' s=some o'->StO o'->jbl H' v ps ts->WebOk ps ts->Dr (-1) ps->(ps.length:Int)<=m->ts.length<=45->Q v H'
theorem zO(S:(ps.map (·.1)).Nodup){i:Nat}{p:Int×Int}(h:ps[i]? =some p):je (jE ps) p.1=true:=uo S (aC h)
theorem JH(B:Blt mg)(D:DefAt K mg "_law_web" (top 56) ["_law_state","_law_most"] f fd)(d:Ok P w K mg base "_law_take" (top 54) 1 ["_law_state","_law_many"] pO)(MD:Ok P w K mg base "_law_places" (top 55) 2 ["_law_state","_law_count"] B3):FnOk P w K mg base iT 3 f fd ["_law_state","_law_most"] Au:=by
 refine i6 D.F ["_law_state","_law_most","_law_count","_law_places_here","_law_dense","_law_ties","_law_k","_law_j"] (by rintro _ _ _ _ ⟨s,o,m,rfl,_⟩;rfl) ?_;rintro _ A _ s H vs Q E X M _ _ ⟨st,o,m,rfl,es,C,m0,m1,h⟩;refine⟨_,(iy (iM 2 X (iN d M (iG (qv 0) (iQ ju (qv 1) iu)))) (iy (iM 3 X (iN MD M (iG (qv 0) (qv 2)))) (iy (iM 4 X (iQ ju iu (iN d M (iG (qv 0) iu)))) (iy (iM 5 X (jW kF)) (iy (jY bg rfl (nD rfl B.range (iJ (qv 2))) (jd 6 X) (iF (jY bg rfl (CD rfl B.range (iG (iQ ju (qv 6) iu) (qv 2))) (jd 7 X) (iF (jt (jc nJ (iN d M (iG (qv 0) iu)) (qv 4) (ja _)) (iF (j6 (kI ba aY aX kN (qv 5) (iJ (jx (iG (iE (iE (qv 3) (qv 6)) iu) (iE (iE (qv 3) (qv 7)) iu))))))) jv))))) (iF (iS (jx (iG (qv 3) (qv 5)))))))))),?_⟩;walk_at "D";refine⟨st,o,m+1,rfl,es,C,by lia,by lia,fun n o1 n0 x L9=>?_⟩;walk_at "D";refine⟨st,o1,n,rfl,ir,L9,n0,by lia,fun r HA oA xs ps sq bA eA Mo er pp g dr=>?_⟩;walk_at "D";refine⟨st,oA,4,rfl,eA,Mo,by decide,by decide,fun dn oB d0 V MI=>?_⟩;have nr:r≠st:=fun z=>by rw[z,ir]at sq;cases sq
 have MM:H r = none:=by rw [<- sq,iC nr]
 have bB:But st H (upd HA st oB):=((But.at st H o1).trans bA).trans (But.at st HA oB);have tB:TupS HA (upd HA st oB):=(But.at st HA oB).tups eA Mo.imm;have Mp:upd HA st oB r=some (.lst xs):=by rw[iC nr];exact er
 have eB:upd HA st oB st=some oB:=ir;have pB:Prs (upd HA st oB) xs ps:=Prs.tups tB pp;generalize upd HA st oB=HB at bB Mp eB pB;clear tB pp er eA bA Mo;have v:ps.length<=12:=by lia
 have Mt:=dr.pl (s:=0) (by lia) (by lia);have F':=Mt.nodup;have T:xs.length=ps.length:=aq pB;have Mg:=dr.rise;walk_at "D";intro tl l;have Mf:tl≠st:=(iO eB l).symm;have Mx:r≠tl:=iO Mp l;have MA:H tl=none:=by
  cases q:H tl with
  |none=>rfl
  |some u=>rw[bB _ _ Mf q]at l;cases l
 refine kA (lE 0 ps.length) (upd HB tl (.lst [])) (fun R U=>?_) (oa (n:=ps.length) (fun k σ H1=>∃kk jj zs ts o',σ=[some (.ref st),some (.int m),some (.int n),some (.ref r),some (.int (1+dn)),some (.ref tl),kk,jj]/\But st H H1/\H1 st=some o'/\StO o'/\H1 r=some (.lst xs)/\Prs H1 xs ps/\H1 tl=some (.lst zs)/\Prs H1 zs ts/\TiOk (jE ps) (-1,-1) ts/\(∀(j:Nat) (p:Int×Int),k<=j->ps[j]? =some p->(oH (-1,-1) ts).1<p.1)/\ts.length<=rq ps.length k) ?_ ?_ ?_)
 ·unfold ni;walk_at "D";exact ⟨n,rfl,by lia,by lia,by rw [<- g]; exact U⟩
 ·refine⟨none,none,[],[],oB,rfl,bB.trans (But.new l),by rw[iC Mf.symm];exact eB,MI,by rw[iC Mx];exact Mp,Prs.tups (uR l) pB,ir,.nil,trivial,fun j p _ O=>?_,by simp⟩;have:=dr.gt p (aC O);exact this
 ·rintro k σ H1 F ⟨kk,jj,zs,ts,o',rfl,b1,e1,sz,J',Mq,Mn,Y,Mm,Ms,Mr⟩;obtain⟨MF,MB⟩:∃n:Nat,n=ts.length:=⟨_,rfl⟩;have Ml:=D8 ps.length (by lia) k (by lia);rw [<- MB] at Mr;have xk:ps[k]? =some ps[k]:=gE F;generalize ps[k]=a at xk;walk_at "D";refine kA (lE (0+(k:Int)+1) (ps.length-(k+1))) H1 (fun R U=>?_) (oa (n:=ps.length-(k+1)) (fun i σ H2=>∃jj zs ts o',σ=[some (.ref st),some (.int m),some (.int n),some (.ref r),some (.int (1+dn)),some (.ref tl),some (.int (0+(k:Int))),jj]/\But st H H2/\H2 st=some o'/\StO o'/\H2 r=some (.lst xs)/\Prs H2 xs ps/\H2 tl=some (.lst zs)/\Prs H2 zs ts/\TiOk (jE ps) (-1,-1) ts/\((oH (-1,-1) ts).1<a.1\/((oH (-1,-1) ts).1=a.1/\∀(j:Nat) (p:Int×Int),k+1+i<=j->ps[j]? =some p->(oH (-1,-1) ts).2<p.1))/\ts.length<=MF+i) ?_ ?_ ?_)
  ·unfold vT;walk_at "D";refine⟨_,_,rfl,⟨by lia,by lia,by lia,by lia⟩,?_⟩;have e:(n-(0+(k:Int)+1)).toNat=ps.length-(k+1):=by lia
   rw[e];exact U
  ·exact⟨jj,zs,ts,o',rfl,b1,e1,sz,J',Mq,Mn,Y,Mm,.inl (Ms k a (ay _) xk),by lia⟩
  ·rintro i σ H2 hi ⟨Mv,K',A',o2,rfl,b2,e2,J,B',G',Mh,L',Mb,I,Mz⟩;have W:k+1+i<ps.length:=by lia
   have xj:ps[k+1+i]? =some ps[k+1+i]:=gE W;generalize ps[k+1+i]=pj at xj;have MG:=Mg k (k+1+i) a pj (by lia) xk xj;walk_at "D";refine⟨st,o2,5,rfl,e2,J,by decide,by decide,fun d3 o3 Me Mc y=>?_⟩;have b3:But st H2 (upd H2 st o3):=But.at _ _ _;have t3:TupS H2 (upd H2 st o3):=b3.tups e2 J.imm;have i':=b3 _ _ nr B';have Ma:=b3 _ _ Mf Mh;have e3:upd H2 st o3 st=some o3:=ir;generalize upd H2 st o3=H3 at b3 t3 i' Ma e3;walk_at "D";refine kW (fun c=>?_) (fun c=>?_)
   ·obtain⟨uk,gk,MJ⟩:=oQ G' xk;obtain⟨uj,gj,ML⟩:=oQ G' xj;obtain⟨tk,ek,Mi⟩:=MJ.tups t3;obtain⟨tj,ej,ME⟩:=ML.tups t3;have ak:jh xs (0 + (k:Int)) = some (.ref tk):=by rw [dh,<- ek]; exact me gk
    have aj:jh xs (0+(k:Int)+1+(i:Int))=some (.ref tj):=by
     rw [show 0 + (k:Int) + 1 + (i:Int) = ((k + 1 + i:Nat):Int) by lia,<- ej];exact me gj
    refine⟨⟨tl,_,rfl,Ma⟩,?_⟩;simp_arith[iH,i',ak,aj,Mi,ME,iW];intro t S;have Mu:=iD S (.tup [.int a.1,.int pj.1]) _ _ Ma;simp_arith[Mu];have Z:=ka (ys:=K'++[.ref t]) Mu;have Mj:st≠tl:=Mf.symm;have L8:K'.length=A'.length:=aq L';refine⟨iU (by lia),_,K'++[.ref t],A'++[(a.1,pj.1)],o3,rfl,fun b u nb q=>?_,?_,y,?_,Prs.tups ((t3.trans (uR S)).trans Z) G',(by first|rfl|exact ir),j3 (Prs.tups ((t3.trans (uR S)).trans Z) L') (Pr.tups ⟨t,rfl,ir⟩ Z),?_,?_,?_⟩
    ·have L:=b3 _ _ nb (b2 _ _ nb q);rw[iC (iO q MA),iC (iO L S)];exact L
    ·rw[iC Mj,iC (iO e3 S)];exact e3
    ·rw[iC Mx,iC (iO i' S)];exact i'
    ·refine Mb.snoc ⟨?_,MG,(show je _ a.1=true from zO F' xk),(show je _ pj.1=true from zO F' xj)⟩;rcases I with q|⟨N,G⟩
     ·exact qG q
     ·rw[N];exact uf (G _ pj (ay _) xj)
    ·rw[CW];exact .inr ⟨rfl,fun j p MC O=>Mg _ _ pj p (by lia) xj O⟩
    ·rw[aH];show _+1<=_;lia
   ·refine⟨_,K',A',o3,rfl,b2.trans b3,e3,y,i',Prs.tups t3 G',Ma,Prs.tups t3 L',Mb,?_,by lia⟩;rcases I with q|⟨N,G⟩
    ·exact .inl q
    ·exact .inr ⟨N,fun j p MC O=>G j p (by lia) O⟩
  ·rintro σ H2 ⟨Mv,K',A',o2,rfl,b2,e2,J,B',G',Mh,L',Mb,I,Mz⟩;refine⟨_,Mv,K',A',o2,rfl,b2,e2,J,B',G',Mh,L',Mb,fun j p W O=>?_,by show _<=rq ps.length k+(ps.length-(k+1));lia⟩;have:=Mg k j a p (by lia) xk O;rcases I with q|⟨N,_⟩
   ·lia
   ·lia
 ·rintro σ H1 ⟨kk,jj,zs,ts,o',rfl,b1,e1,sz,J',Mq,Mn,Y,Mm,Ms,Mr⟩;have Ml:=GL ps.length (by lia);walk_at "D";intro wv Mw;have s1:=iD Mw (.tup [.ref r,.ref tl]);exact h _ _ o' ps ts (b1.trans (But.new Mw)) (s1 _ _ e1) sz ⟨wv,r,tl,xs,zs,rfl,ir,s1 _ _ J',s1 _ _ Mn,Prs.same s1 Mq,Prs.same s1 Y⟩ ⟨by lia,Mt,by lia,Mm⟩ dr (by lia) (by lia)
end
end My
namespace My
open PySem L2
section
variable{P:Program}{w:World}{K:L3}{mg:L4}{base:Heap}{c1 c2 c3 c4:Tok}{C_NoWeb fqa:Addr}{dI:FuncData}
theorem F1{xs:List V}{k:Int}(A:0<=k):lQ xs none (some k)=xs.take k.toNat:=by
 unfold lQ HT.i7;simp only[fD,aG (show ¬k<0 by lia),Nat.sub_zero];by_cases c:k.toNat<=xs.length
 ·rw[Nat.min_eq_left c]
 ·rw[Nat.min_eq_right (by lia),aD,cu (by lia)]
noncomputable def Bl:Sp:=fun vs H Q _=>∃s o v ps ts,vs=[.ref s,v]/\H s=some o/\StO o/\jbl H v ps ts/\WebOk ps ts/\Dr (-1) ps/\ps.length<=9/\∀a H' o' qs,But s H H'->H' s=some o'->StO o'->jbl H' a qs ts->WebOk qs ts->qs.length=ps.length->Q a H'
theorem AX:∀{ps qs:LY} {l s s':Int},PlOk l s' ps->qs.map (·.1)=ps.map (·.1)->(∀q∈qs,1<=q.2/\q.2<=10000000000)->s+10000000000*(qs.length:Int)<=1000000000000->PlOk l s qs
 |_,[],_,_,_,_,_,_,_=>trivial
 |[],q::qs,_,_,_,_,e,_,_=>by simp at e
 |p::ps,q::qs,l,s,s',h,e,U,Z=>by
  rw[ai,ai]at e;obtain⟨e1,e2⟩:=List.cons.inj e;have b:=U q (aE ..);have h1:=h.1;rw[List.length_cons]at Z;refine⟨⟨by lia,by lia,b.1,by lia⟩,?_⟩;rw[e1];exact AX h.2 e2 (fun x G=>U x (au _ G)) (by lia)
theorem CK{k1 k2:List (iw×V)}(h:∀n:Int,je k1 n=true->je k2 n=true):∀{ts:LY} {q:Int×Int},TiOk k1 q ts->TiOk k2 q ts
 |[],_,_=>trivial
 |t::r,_,a=>⟨⟨a.1.1,a.1.2.1,h _ a.1.2.2.1,h _ a.1.2.2.2⟩,CK h a.2⟩
theorem Iu{ps qs:LY}(T:(ps.map (·.1)).Nodup)(e:qs.map (·.1)=ps.map (·.1)){n:Int}(h:je (jE ps) n=true):je (jE qs) n=true:=by
 have K:=nk h;rw [<- e] at K T;obtain⟨p,O,rfl⟩:=av.mp K;exact uo T O
theorem Dr.price:∀{ps:LY} {l:Int},Dr l ps->∀p∈ps,1<=p.2/\p.2<=1000000000
 |[],_,_,p,h=>by cases h
 |q::r,l,d,p,h=>by
  rcases aV.mp h with e|h
  ·rw[e];exact⟨d.1.2.2.1,d.1.2.2.2⟩
  ·exact Dr.price d.2 p h
theorem GH{ps:LY}{k:Nat}{p:Int×Int}(h:ps[k]? =some p)(v:Int):(ps.set k (p.1,v)).map (·.1)=ps.map (·.1):=by
 rw[List.map_set];apply gR;intro i;rw[gO];split
 ·rename_i e;subst e;have F:=(ax.mp h).1;rw[aI (by rw[aa];exact F),aU,h];rfl
 ·rfl
theorem Du{α g:Type}{F:α->g->Prop}:∀{xs:List α} {ys:List g} (k:Nat),Paired F xs ys->Paired F (xs.take k) (ys.take k)
 |_,_,_,.nil=>by rw[List.take_nil,List.take_nil];exact .nil
 |_,_,0,.cons _ _=>.nil
 |_,_,k+1,.cons h t=>.cons h (Du k t)
theorem Ds{α g:Type}{F:α->g->Prop}:∀{xs:List α} {ys:List g} (k:Nat),Paired F xs ys->Paired F (xs.drop k) (ys.drop k)
 |_,_,_,.nil=>by rw[List.drop_nil,List.drop_nil];exact .nil
 |_,_,0,.cons h t=>.cons h t
 |_,_,k+1,.cons _ t=>Ds k t
theorem Dk{α g:Type}{F:α->g->Prop}{a c:List α}{b d:List g}(C:Paired F a b):Paired F c d->Paired F (a++c) (b++d):=by
 induction C with
 |nil=>exact fun h=>h
 |cons r t E=>
  exact fun h=>.cons r (E h)
theorem GG(ps:LY){n:Nat}(h:n<ps.length)(x:Int×Int):ps.take n++[x]++ps.drop (n+1)=ps.set n x:=by
 rw[List.set_eq_take_append_cons_drop,aI h,bp];rfl
theorem KB(B:Blt mg)(D:DefAt K mg "_law_turned" (top 64) ["_law_state","_law_web_here"] f fd)(B':Ok P w K mg base "_law_take" (top 54) 1 ["_law_state","_law_many"] pO):FnOk P w K mg base iT 2 f fd ["_law_state","_law_web_here"] Bl:=by
 refine i6 D.F ["_law_state","_law_web_here","_law_at","_law_place","_law_tied","_law_cost_here","_law_changed"] (by rintro _ _ _ _ ⟨s,o,v,ps,ts,rfl,_⟩;rfl) ?_;rintro _ A _ s H vs Q E X M F J ⟨st,o,v,ps,ts,rfl,es,so,e,T,dr,h6,h⟩;obtain⟨u,pa,ta,xs,ys,rfl,eu,J',F',i',sq⟩:=id e;have K':=aq i';have Ma:=T.tl;have F:=jX M;have J:_<PySem.cLine:=aZ F;refine⟨_,(iy (jt (PW.pt (mL (jc (z6 M.units) (iE (qv 1) iu) (jW kF) (ja _)) (oM (jc ly (iN B' M (iG (qv 0) iu)) iu (ja _))))) (iF (iS (qv 1))) jv) (iy (iM 2 X (iN B' M (iG (qv 0) (kZ B (iE (qv 1) iu))))) (iy (iM 3 X (iE (iE (iE (qv 1) iu) (qv 2)) iu)) (iy (iM 4 X (mh (CpScope.of (N:=["_law_one","_law_other","_law_place"]) (src:=[none,none,some 3]) (by rfl)) rfl (jb (iE (qv 1) iu)) (fun _ _ _ _=>(jQ (n:=2) rfl (iR (iV 0) (iR (iV 1) jF)))) (fun _ _ _ _=>(kU (jc ly (qv 1) (qv 2) (ja _)))) (fun _ _ _ _=>(qv 0)))) (iy (iM 4 X (iQ rJ (qv 4) (mh (CpScope.of (N:=["_law_one","_law_other","_law_place"]) (src:=[none,none,some 3]) (by rfl)) rfl (jb (iE (qv 1) iu)) (fun _ _ _ _=>(jQ (n:=2) rfl (iR (iV 0) (iR (iV 1) jF)))) (fun _ _ _ _=>(kU (jc ly (qv 0) (qv 2) (ja _)))) (fun _ _ _ _=>(qv 1))))) (iy (iM 5 X (jZ (rL rfl) rfl B.sum dM (iJ (mh (CpScope.of (N:=["_law_other","_law_price","_law_tied"]) (src:=[none,none,some 4]) (by rfl)) rfl (jb (iE (qv 1) iu)) (fun _ _ _ _=>(jQ (n:=2) rfl (iR (iV 0) (iR (iV 1) jF)))) (fun _ _ _ _=>(kU (jc nT (qv 0) (qv 2) (by with_unfolding_all rfl)))) (fun _ _ _ _=>(qv 1)))))) (iy (iM 6 X (jx (iG (qv 3) (jZ (vY rfl) rfl B.max ff (iG iu (iQ zt (iQ ju (qv 5) (iN B' M (iG (qv 0) iu))) iu)))))) (iF (iS (jx (iG (iQ rJ (iQ rJ (nB vZ (iE (qv 1) iu) nq (nu (qv 2))) (jW (iJ (qv 6)))) (nB vZ (iE (qv 1) iu) (nu (iQ ju (qv 2) iu)) nq)) (iE (qv 1) iu)))))))))))),?_⟩;refine iK fun R Y=>?_;simp_arith[iH,eu,iW];intro l0 Mc;have q0:=iD Mc (.lst []);refine⟨.lst (ps.map jz),.lst [],(by rw[Rep];exact⟨pa,xs,rfl,q0 _ _ J',Prs.reps (Prs.same q0 i')⟩),(by rw[Rep];exact⟨l0,[],rfl,ir,by rw[Reps]⟩),?_,.inl ⟨_,_,rfl,rfl⟩,?_⟩
 ·rw[kX];have:=xX ps;lia
 have Mz:=q0 _ _ es;have MY:=q0 _ _ eu;have MM:=q0 _ _ J';have MQ:=q0 _ _ F';have Mv:=Prs.same q0 i';have MX:=Prs.same q0 sq;have W1:=e.same q0;generalize upd H l0 (.lst [])=H1 at q0 Mz MY MM MQ Mv MX W1;have b1:But st H H1:=fun b o n q=>q0 b o q;by_cases c:ps=[]
 ·subst c;rw[show jq (.lst (([]:LY).map jz)) (.lst [])=true from uF _];walk_at "D";exact h _ _ o [] b1 Mz so W1 T rfl
 have ce:jq (.lst (ps.map jz)) (.lst [])=false:=by
  cases ps with
  |nil=>exact absurd rfl c
  |cons p r=>rfl
 rw[ce];walk_at "D";refine⟨st,o,2,rfl,Mz,so,by decide,by decide,fun d2 o2 _ _ Me=>?_⟩;have b2:But st H1 (upd H1 st o2):=But.at _ _ _;have MA:upd H1 st o2 st=some o2:=ir;have W2:=W1.but Mz so b2;generalize upd H1 st o2=H2 at b2 MA W2;walk_at "D";refine kW (fun c2=>?_) (fun c2=>?_)
 ·walk_at "D";exact h _ _ o2 ps (b1.trans b2) MA Me W2 T rfl
 subst Y;clear eu J' F' i' sq MY MM MQ Mv MX e W1;obtain⟨u',pa,ta,xs,ys,eq,eu,J',F',i',sq⟩:=id W2;cases eq;have K':=aq i';have Nl:0<ps.length:=by
  cases ps with
  |nil=>exact absurd rfl c
  |cons p r=>simp
 refine iK fun R Y=>?_;simp_arith[iH,eu,iW,J'];refine⟨st,o2,_,rfl,MA,Me,by lia,by lia,fun k o3 k0 k1 G'=>?_⟩;have b3:But st H2 (upd H2 st o3):=But.at _ _ _;have Mg:upd H2 st o3 st=some o3:=ir;have W3:=W2.but MA Me b3;generalize upd H2 st o3=H3 at b3 Mg W3;clear eu J' F' i' sq;obtain⟨u',pa,ta,xs,ys,eq,eu,J',F',i',sq⟩:=id W3;cases eq;have K':=aq i';obtain⟨n,rfl⟩:∃n:Nat,k=(n:Int):=⟨k.toNat,by lia⟩;have a:n<ps.length:=by lia
 have x1:ps[n]? =some ps[n]:=gE a;generalize ps[n]=pn at x1;have Mp:=aq sq;subst Y;refine iK fun R Y=>?_;obtain⟨xn,gn,M'⟩:=oQ i' x1;obtain⟨tn,rfl,M5⟩:=M';have an:jh xs (n:Int)=some (.ref tn):=me gn;simp_arith[iH,eu,iW,J',an,M5];have s0:Same H3 H3:=fun _ _ q=>q;subst Y;refine iK fun R Y=>?_;walk_at "D";refine jA (i5 K ta) H3 (fun R2 sz=>?_) (fun za MU=>jn ts.length (fun j L I=>∃Z w2 ms,L=[Z,w2,some (.int pn.1)]/\Same H3 I/\I za=some (.lst (ms.map V.int))/\ms.length<=j) ⟨none,none,[],rfl,iD MU _,ir,ay _⟩ ?_ ?_)
 ·unfold i8;simp_arith[iH,s0 _ _ eu,jl];exact⟨ta,rfl,⟨_,SqL.of (s0 _ _ F')⟩,sz⟩
 ·rintro j L I hj ⟨Z,w2,ms,rfl,sQ,ez,Mo⟩;have sR:=s0.trans sQ;have z1:SqL K I ta ys:=SqL.of (sR _ _ F');have x1:ys[j]? =some (ys[j]'(by lia)):=gE _;refine⟨⟨_,_,z1,x1⟩,?_⟩;rintro y H' ⟨rfl,C⟩;obtain⟨t,d,pt⟩:=jm sq (C _ z1);obtain⟨b,rfl,U⟩:=pt.same sR;simp_arith[U];refine kW (fun c=>?_) (fun c=>?_)
  ·refine⟨_,ez,by rw[aa];exact iU (by lia),_,_,ms++[t.1],rfl,i4 sQ MU,by rw[ir,af];rfl,by rw[aH];show ms.length+1<=_;lia⟩
  ·exact⟨_,_,ms,rfl,sQ,ez,by lia⟩
 rintro L H4 ⟨Z,w2,ms,rfl,s4,MW,M6⟩;refine⟨⟨_,SqL.of (s4 _ _ F'),by lia⟩,?_⟩;subst Y;refine iK fun R Y=>?_;walk_at "D";refine jA (i5 K ta) H4 (fun R2 sz=>?_) (fun zb MR=>jn ts.length (fun j L I=>∃Z w2 ms,L=[Z,w2,some (.int pn.1)]/\Same H4 I/\I zb=some (.lst (ms.map V.int))/\ms.length<=j) ⟨none,none,[],rfl,iD MR _,ir,ay _⟩ ?_ ?_)
 ·unfold i8;simp_arith[iH,s4 _ _ eu,jl];exact⟨ta,rfl,⟨_,SqL.of (s4 _ _ F')⟩,sz⟩
 ·rintro j L I hj ⟨Z,w2,ms,rfl,sQ,ez,Mo⟩;have sR:=s4.trans sQ;have z1:SqL K I ta ys:=SqL.of (sR _ _ F');have x1:ys[j]? =some (ys[j]'(by lia)):=gE _;refine⟨⟨_,_,z1,x1⟩,?_⟩;rintro y H' ⟨rfl,C⟩;obtain⟨t,d,pt⟩:=jm sq (C _ z1);obtain⟨b,rfl,U⟩:=pt.same sR;simp_arith[U];refine kW (fun c=>?_) (fun c=>?_)
  ·refine⟨_,ez,by rw[aa];exact iU (by lia),_,_,ms++[t.2],rfl,i4 sQ MR,by rw[ir,af];rfl,by rw[aH];show ms.length+1<=_;lia⟩
  ·exact⟨_,_,ms,rfl,sQ,ez,by lia⟩
 rintro L H5 ⟨Z,w2,Mt,rfl,s5,MV,Nk⟩;refine⟨⟨_,SqL.of ((s4.trans s5) _ _ F'),by lia⟩,?_⟩;simp_arith[s5 _ _ MW,MV];refine⟨qu (by rw[aa,aa];lia),fun zc Nb=>?_⟩;have q6:=iD Nb (.lst (ms.map V.int++Mt.map V.int));have Mx:upd H5 zc (.lst (ms.map V.int++Mt.map V.int)) zc=some (.lst ((ms++Mt).map V.int)):=by rw[ir,af]
 generalize upd H5 zc (.lst (ms.map V.int++Mt.map V.int))=H6 at q6 Mx;generalize ms++Mt=Nj at Mx;have s6:=(s4.trans s5).trans q6;clear MW MV s4 s5 q6;subst Y;refine iK fun R Y=>?_;walk_at "D";refine jA (i5 K pa) H6 (fun R2 sz=>?_) (fun z A'=>jn ps.length (fun i L I=>∃Z w2 cs,L=[Z,w2,some (.ref zc)]/\Same H6 I/\I z=some (.lst (cs.map V.int))/\cs.length<=i/\0<=cs.sum/\cs.sum<=1000000000*(i:Int)) ⟨none,none,[],rfl,iD A' _,ir,ay _,cg _,by simp⟩ ?_ ?_)
 ·unfold i8;simp_arith[iH,s6 _ _ eu,iW];exact⟨pa,rfl,⟨_,SqL.of (s6 _ _ J')⟩,sz⟩
 ·rintro i L I hi ⟨Z,w2,cs,rfl,s7,ez,L9,Mw,Ms⟩;have Mm:=s6.trans s7;have x1:xs[i]? =some (xs[i]'(by lia)):=gE _;have z1:SqL K I pa xs:=SqL.of (Mm _ _ J');refine⟨⟨_,_,z1,x1⟩,?_⟩;rintro y H' ⟨rfl,C⟩;obtain⟨p,O,px⟩:=jm i' (C _ z1);obtain⟨b,rfl,U⟩:=px.same Mm;have pb:=dr.price p (aC O);simp_arith[U,iH,s7 _ _ Mx,nA,flat_ints,kD];refine kW (fun c=>?_) (fun c=>?_)
  ·refine⟨_,ez,by rw[aa];exact iU (by lia),_,_,cs++[p.2],rfl,i4 s7 A',by rw[ir,af];rfl,by rw[aH];show cs.length+1<=_;lia,?_,?_⟩<;>rw[cK]<;>simp only[List.sum_cons,List.sum_nil]<;>lia
  ·exact⟨_,_,cs,rfl,s7,ez,by lia,Mw,by lia⟩
 rintro L H7 ⟨Z,w2,cs,rfl,s7,ez,L9,Mw,Ms⟩;refine⟨⟨_,SqL.of ((s6.trans s7) _ _ J'),by lia⟩,?_⟩;refine⟨z,_,rfl,ez,?_⟩;have Mj:=s6.trans s7;have MB:=Mj _ _ Mg;have Nf:=Mj _ _ eu;have MN:=Mj _ _ J';have ML:=Mj _ _ F';have MZ:=Prs.same Mj i';have MT:=Prs.same Mj sq;have b7:But st H H7:=fun b o nb q=>Mj _ _ (b3 _ _ nb (b2 _ _ nb (b1 _ _ nb q)));generalize cs.sum=S at Mw Ms;clear ez Mx s6 s7 Mj Mg eu J' F' i' sq b1 b2 b3 M5 W2 W3 L9;subst Y;refine iK fun R Y=>?_;walk_at "D";refine⟨st,o3,3,rfl,MB,G',by decide,by decide,fun d6 o6 Nn Nm Mf=>?_⟩;have b6:But st H7 (upd H7 st o6):=But.at _ _ _;have M3:upd H7 st o6 st=some o6:=ir;have t6:=b6.tups MB G'.imm;have MC:=t6 _ _ rfl Nf;have ME:upd H7 st o6 pa=some (.lst xs):=b6 _ _ (rP MN MZ MB G') MN;have MP:upd H7 st o6 ta=some (.lst ys):=b6 _ _ (rP ML MT MB G') ML;have MG:=Prs.tups t6 MZ;have M4:=Prs.tups t6 MT;have M0:=b7.trans b6;generalize upd H7 st o6=H8 at M0 M3 MC ME MP MG M4;walk_at "D";intro t7 Ng;have x:∃nv:Int,(if 1<S+d6-1 then S+d6-1 else 1)=nv/\1<=nv/\nv<=10000000000:=⟨_,rfl,by split<;>lia,by split<;>lia⟩;obtain⟨nv,ev,Nc,Na⟩:=x;rw[ev];generalize G:upd H8 t7 _=H9;obtain⟨q7,Nd⟩:=kc Ng G;clear G;subst Y;simp_arith[iH,q7 _ _ MC,iW,q7 _ _ ME];intro l1 Mi;rw[F1 (by lia),show((n:Int)).toNat=n by lia];generalize G:upd H9 l1 _=HA;obtain⟨q8,Mq⟩:=kc Mi G;clear G;intro l2 Mu;generalize G:upd HA l2 _=HB;obtain⟨q9,L'⟩:=kc Mu G;have M7:=q9 _ _ Mq;clear G;have Ml:=(q7.trans q8).trans q9;simp_arith[M7,L'];refine⟨qu (by rw[aP];show _+1<=_;lia),fun l3 Mh=>?_⟩;generalize G:upd HB l3 _=HC;obtain⟨qA,L8⟩:=kc Mh G;clear G;have MJ:=Ml.trans qA;simp_arith[iH,MJ _ _ MC,iW,MJ _ _ ME];intro l4 M9;rw[show((n:Int)+1)=((n+1:Nat):Int) by lia,Bx (by lia)];generalize G:upd HC l4 _=HD;obtain⟨qB,Mb⟩:=kc M9 G;have M8:=qB _ _ L8;clear G;simp_arith[M8,Mb];refine⟨qu (by rw[aH,aP,fm];show _+1+_<=_;lia),fun l5 Ni=>?_⟩;generalize G:upd HD l5 _=HE;obtain⟨qC,Mr⟩:=kc Ni G;clear G;have MD:=(MJ.trans qB).trans qC;have Nh:=(((q8.trans q9).trans qA).trans (qB.trans qC)) _ _ Nd;simp_arith[iH,MD _ _ MC,jl];intro t9 MF;have MI:=iD MF (.tup [.ref l5,.ref ta]);have sZ:=MD.trans MI;have hf:=GH x1 nv;have Mn:∀q∈ps.set n (pn.1,nv),1<=q.2/\q.2<=10000000000:=fun q W=>by
  rcases List.mem_or_eq_of_mem_set W with W|rfl
  ·have:=dr.price q W;lia
  ·exact⟨Nc,Na⟩
 have g:(ps.set n (pn.1,nv)).length=ps.length:=cL;have pz:Prs HE (xs.take n++[.ref t7]++xs.drop (n+1)) (ps.set n (pn.1,nv)):=by
  rw [<- GG ps a];exact Dk (Dk (Du n (Prs.same MD MG)) (.cons ⟨t7,rfl,Nh⟩ .nil)) (Ds (n+1) (Prs.same MD MG))
 refine h _ _ o6 (ps.set n (pn.1,nv)) (fun b o nb q=>sZ _ _ (M0 _ _ nb q)) (sZ _ _ M3) Mf ⟨t9,l5,ta,_,ys,rfl,ir,MI _ _ Mr,sZ _ _ MP,Prs.same MI pz,Prs.same sZ M4⟩ ⟨by rw[g];lia,AX T.p hf Mn (by rw[g];lia),T.tl,CK (fun m l=>Iu T.p.nodup hf l) T.t⟩ g
end
end My
namespace L2
open PySem PySem.Spec PyProof.Rows
section
variable{X:Cx}
end
end L2
namespace My
open PySem L2
section
variable{P:Program}{w:World}{K:L3}{mg:L4}{base:Heap}{c1 c2 c3 c4:Tok}{C_NoWeb fqa:Addr}{dI:FuncData}
noncomputable def m8(ts:LY)(C:Int->Bool):Prop:=∀t∈ts,C t.1=true\/C t.2=true
noncomputable def wC(ps:LY)(C:Int->Bool):Int:=(ps.map fun p=>if C p.1=true then p.2 else 0).sum
noncomputable def rM(ps:LY)(C:Int->Bool):List Int:=(ps.map (·.1)).filter C
section
variable{ps ts hs:LY}{y:Int->Int}{ds:LX}{rs:List (List Int)}{xs:List V}{C:Int->Bool}{l:List Addr}{s ns row ms r is:List Int}{H H':Hp}{α:Type}{a p t:Addr}{i n:Nat}{c:List Lk}{m:Int}{o:HO}{v:V}
noncomputable def push(y:Int->Int)(C:Int->Bool)(n:Int):Bool:=(C n&& !decide (y n=0))||decide (y n=2)
theorem I0(T:WebOk ps ts):∀t∈ts,∃p∈ps,∃q∈ps,p.1=t.1/\q.1=t.2:=fun t S=>by
 obtain⟨I,J⟩:=mE T t S;obtain⟨p,O,e1⟩:=av.mp I;obtain⟨q,W,e2⟩:=av.mp J;exact⟨p,O,q,W,e1,e2⟩
theorem Cov.ends(T:WebOk ps ts)(c:Cov ps ts y){t:Int×Int}(S:t∈ts):(0<=y t.1/\y t.1<=2)/\(0<=y t.2/\y t.2<=2)/\2<=y t.1+y t.2:=by
 obtain⟨p,O,q,W,e1,e2⟩:=I0 T t S;have a:=c.b p O;have b:=c.b q W;rw[e1]at a;rw[e2]at b;exact⟨a,b,c.t t S⟩
theorem HP(T:WebOk ps ts)(c:Cov ps ts y)(h:m8 ts C):m8 ts (push y C):=fun t S=>by
 obtain⟨a,b,s⟩:=c.ends T S;unfold push;by_cases d:y t.1=0
 ·right;have:y t.2=2:=by lia
  rw[this];simp
 ·by_cases b0:y t.2=0
  ·left;have:y t.1=2:=by lia
   rw[this];simp
  ·rcases h t S with e|e
   ·left;rw[e];simp[d]
   ·right;rw[e];simp[b0]
noncomputable def oW(y:Int->Int)(C:Int->Bool)(n:Int):Int:=if y n=2/\C n=false then 1 else if y n=0/\C n=true then 1 else y n
theorem GV(T:WebOk ps ts)(c:Cov ps ts y)(h:m8 ts C):Cov ps ts (oW y C):=by
 refine⟨fun p O=>?_,fun t S=>?_⟩
 ·have:=c.b p O;unfold oW;split
  ·lia
  ·split<;>lia
 ·obtain⟨a,b,s⟩:=c.ends T S;have Y:=h t S;unfold oW;by_cases x1:y t.1=2/\C t.1=false
  ·have c2:C t.2=true:=Y.resolve_left (by rw[x1.2];simp);rw[aI x1,aG (fun z=>by rw[c2]at z;exact absurd z.2 (by simp))];by_cases z:y t.2=0
   ·rw[aI ⟨z,c2⟩];decide
   ·rw[aG (fun w=>z w.1)];lia
  ·by_cases g:y t.2=2/\C t.2=false
   ·have c1:C t.1=true:=Y.resolve_right (by rw[g.2];simp);rw[aG x1,aI g];by_cases z:y t.1=0
    ·rw[aI ⟨z,c1⟩];decide
    ·rw[aG (fun w=>z w.1)];lia
   ·rw[aG x1,aG g];split<;>split<;>lia
theorem IZ(T:WebOk ps ts)(c:Cov ps ts y)(C:Int->Bool):wC ps (push y C)+lJ ps (oW y C)=wC ps C+lJ ps y:=by
 unfold wC lJ;rw [<- Fl.kG,<- Fl.kG];refine Fl.jN fun p O=>?_;have b:=c.b p O;unfold push oW;have a:y p.1=0\/y p.1=1\/y p.1=2:=by lia
 rcases a with e|e|e<;>rw[e]<;>cases C p.1<;>simp<;>lia
theorem C6(f:Int×Int->Int)(q:Int×Int->Bool):∀l:LY,((l.filter q).map f).sum=(l.map fun p=>if q p=true then f p else 0).sum
 |[]=>rfl
 |a::l=>by
  rw [bU,ai,List.sum_cons,<- C6 f q l];cases q a<;>simp
theorem xc{ns:List Int}(T:ns.Nodup)(y:Int->Int):∀{ds:LX},(∀d∈ds,d.1∈ns/\d.2.1∈ns)->(ns.map fun n=>y n*iP ds n).sum=(ds.map fun d=>d.2.2*(y d.1+y d.2.1)).sum
 |[],_=>by
  show(ns.map fun p=>y p*0).sum=0;rw[Fl.jN (g:=fun _=>0) fun p _=>eV _,Fl.l9]
 | d::ds,h=>by
  have J:=h d (aE ..);have e:∀n∈ns,y n*iP (d::ds) n=(y n*Fl.iZ d.1 n d.2.2+y n*Fl.iZ d.2.1 n d.2.2)+y n*iP ds n:=fun n _=>by
   unfold iP Fl.iZ;rw[ai,List.sum_cons,cX,cX]
  rw[Fl.jN e,Fl.kG,Fl.kG,Fl.oZ y _ _ T J.1,Fl.oZ y _ _ T J.2,xc T y fun z L=>h z (au _ L),ai,List.sum_cons,cX,cx (y d.1),cx (y d.2.1)]
theorem qP{α:Type}{f g:α->Int}:∀{l:List α},(∀p∈l,f p<=g p)->(l.map f).sum<=(l.map g).sum
 |[],_=>cg _
 |a::l,h=>by
  have:=qP (l:=l) fun p O=>h p (au _ O);have:=h a (aE ..);rw[ai,ai,List.sum_cons,List.sum_cons];lia
theorem xo(f:α->Int)(l:List α):(l.map fun p=>2*f p).sum=2*(l.map f).sum:=by
 have e:(l.map fun p=>2*f p).sum=(l.map fun p=>f p+f p).sum:=Fl.jN fun p _=>by lia
 rw[e,Fl.kG];lia
theorem Dx(T:WebOk ps ts)(h:mD ps ts (.tup [.lst (hs.map jz),.lst (ds.map jM)])=true):hs.map (·.1)=ps.map (·.1)/\Best ps ts (jJ hs):=by
 rw[sv]at h;unfold mq at h;dsimp only at h;cases e1:ku ps (hs.map jz)with
 |none=>rw[e1]at h;cases h
 | some r=>
  cases e2:ko ts (-1,-1) (ds.map jM)with
  |none=>rw[e1,e2]at h;cases h
  | some k=>
   rw[e1,e2]at h;dsimp only at h;obtain⟨M,Q,i⟩:=pX e1;obtain⟨P,K⟩:=su e2;have D:r=hs:=by
    have:=eM (f:=jz) (fun a b q=>by cases a;cases b;simp only[jz]at q;cases q;rfl) |>.mp M
    exact this.symm
   have l:k=ds:=by
    have:=eM (f:=jM) (fun a b q=>by obtain⟨u,x,y⟩:=a;obtain⟨b1,b2,b3⟩:=b;simp only[jM]at q;cases q;rfl) |>.mp P
    exact this.symm
   subst D;subst l;have h1:=(aQ _ _).mp h;have h2:=(aQ _ _).mp h1.2;have w:=aO h2.2;have g:(r.map (·.1)).Nodup:=by rw[Q];exact T.p.nodup
   have s:∀q∈r,jJ r q.1=q.2:=fun q W=>uc g W;have c:Cov ps ts (jJ r):=by
    refine⟨fun p O=>?_,fun t S=>?_⟩
    ·have:p.1∈r.map (·.1):=by rw[Q];exact av.mpr ⟨p,O,rfl⟩
     obtain⟨q,W,e⟩:=av.mp this;rw [<- e,s q W];exact i q W
    ·have:=aO (cZ.mp h1.1 t S);lia
   have A:nO ps r=lJ ps (jJ r):=by
    have e3:nO ps r=((r.map (·.1)).map fun n=>jJ ps n*jJ r n).sum:=by
     rw[bP];exact Fl.jN fun q W=>by show _=jJ ps q.1*jJ r q.1;rw[s q W]
    rw[e3,Q,nz T];rfl
   refine⟨Q,c,fun m R=>?_⟩;have o:∀d∈k,d.1∈ps.map (·.1)/\d.2.1∈ps.map (·.1):=fun d J=>mE T _ (K d J).1;have p1:=xc T.p.nodup m o;have p2:(k.map fun d=>2*d.2.2).sum<=(k.map fun d=>d.2.2*(m d.1+m d.2.1)).sum:=qP fun d J=>by
    have a:=(K d J).2;have b:=R.t _ (K d J).1;dsimp only at b;have:=hG b (show 0<=d.2.2 by lia);lia
   have v:((ps.map (·.1)).map fun n=>m n*iP k n).sum<=(ps.map fun p=>2*(p.2*m p.1)).sum:=by
    rw[bP];refine qP fun p O=>?_;have a:=(R.b p O).1;have b:=aO (cZ.mp h2.1 p O);have:=hG b a;show m p.1*iP k p.1<=2*(p.2*m p.1);have e:m p.1*(2*p.2)=2*(p.2*m p.1):=by rw[Int.mul_left_comm,cx (m p.1)]
    lia
   rw[xo]at p2 v;have j:(ps.map fun p=>p.2*m p.1).sum=lJ ps m:=rfl;rw[j]at v;lia
noncomputable def mJ(ts:LY)(n:Int):List Int:=(ts.filter fun t=>decide (t.2=n)).map (·.1)
noncomputable def j4(m s:List Int):List Int:=m.filter fun x=>!decide (x∈s)
noncomputable def pL(ts:LY)(n:Int)(s:List Int):List (List Int):=if j4 (mJ ts n) s=[]then[s++[n],s]else[s++[n]]
noncomputable def lU(ts:LY)(n:Int)(rs:List (List Int)):List (List Int):=rs.flatMap (pL ts n)
noncomputable def kS(ts:LY):List Int->List (List Int):=fun ns=>ns.foldl (fun rs n=>lU ts n rs) [[]]
theorem vb(ts:LY)(ns:List Int)(n:Int):kS ts (ns++[n])=lU ts n (kS ts ns):=by
 unfold kS;rw[List.foldl_append];rfl
theorem xZ(ts:LY)(n:Int):∀rs:List (List Int),(lU ts n rs).length<=2*rs.length/\rs.length<=(lU ts n rs).length
 |[]=>⟨ay _,ay _⟩
 |s::rs=>by
  have:=xZ ts n rs;unfold lU at this ⊢;rw[eU,aH,List.length_cons];unfold pL at this ⊢;split<;>simp only[List.length_cons,List.length_nil]<;>lia
theorem uZ(ts:LY)(ns:List Int):∀k,(kS ts (ns.take k)).length<=2^k/\1<=(kS ts (ns.take k)).length
 |0=>by rw[List.take_zero];exact⟨ay _,ay _⟩
 | k+1=>by
  have E:=uZ ts ns k;by_cases c:k<ns.length
  ·rw[List.take_succ_eq_append_getElem c,vb];have:=xZ ts ns[k] (kS ts (ns.take k));rw[Nat.pow_succ];lia
  ·rw[cu (by lia)];rw[cu (by lia)]at E;rw[Nat.pow_succ];lia
theorem pW{m:List Int}:j4 m s=[]↔∀x∈m,x∈s:=by
 unfold j4;rw[List.filter_eq_nil_iff];constructor
 ·intro h x G;have:=h x G;simpa using this
 ·intro h x G;simpa using h x G
theorem A4{P:List α->Prop}(A:P [])(h1:∀l a,P l->P (l++[a]))(l:List α):P l:=by
 have h:∀l:List α,P l.reverse:=fun l=>by
  induction l with
  |nil=>exact A
  |cons a l E=>rw[List.reverse_cons];exact h1 _ _ E
 have:=h l.reverse;rwa[List.reverse_reverse]at this
theorem Je:∀{ns:List Int},ns.Pairwise (·<·)->(∀t∈ts,t.2∈ns->t.1∈ns/\t.1<t.2)->∀s:List Int,s∈kS ts ns↔∃C:Int->Bool,s=ns.filter C/\∀t∈ts,t.2∈ns->C t.1=true\/C t.2=true:=by
 intro ns;refine A4 (P:=fun ns=>ns.Pairwise (·<·)->(∀t∈ts,t.2∈ns->t.1∈ns/\t.1<t.2)->∀s:List Int,s∈kS ts ns↔∃C:Int->Bool,s=ns.filter C/\∀t∈ts,t.2∈ns->C t.1=true\/C t.2=true) ?_ (fun ns n E=>?_) ns
 ·intro _ _ s;constructor
  ·intro h;exact⟨fun _=>true,by simpa[kS]using h,fun t _ z=>by cases z⟩
  ·rintro⟨C,rfl,_⟩;simp[kS]
 ·intro O S s;obtain⟨I,_,m⟩:=bZ.mp O;have f:∀x∈ns,x<n:=fun x G=>m x G n (aK.mpr rfl);have o:n∉ns:=fun z=>by have:=f n z;lia
  have a:∀t∈ts,t.2∈ns->t.1∈ns/\t.1<t.2:=fun t h z=>by
   have:=S t h (cC _ z);refine⟨?_,this.2⟩;rcases br.mp this.1 with q|q
   ·exact q
   ·have:=f _ z;have e:=aK.mp q;lia
  have d:∀t∈ts,t.2=n->t.1∈ns:=fun t h z=>by
   have:=S t h (bH _ (by rw[z];exact aK.mpr rfl));rcases br.mp this.1 with q|q
   ·exact q
   ·have e:=aK.mp q;lia
  have E:=E I a;rw[vb];unfold lU;rw[dA];constructor
  ·rintro⟨b,l,K⟩;obtain⟨C,rfl,hC⟩:=(E b).mp l;have key:s=ns.filter C++[n]\/(s=ns.filter C/\∀x∈mJ ts n,x∈ns.filter C):=by
    unfold pL at K;split at K
    ·rename_i Z;simp only[aV,fk,ie]at K;exact K.imp id fun q=>⟨q,pW.mp Z⟩
    ·simp only[aV,fk,ie]at K;exact .inl K
   rcases key with rfl|⟨rfl,G⟩
   ·refine⟨fun x=>decide (x=n)||C x,?_,fun t h z=>?_⟩
    ·rw[bI]
     congr 1
     ·refine gQ fun x G=>?_;have:=f x G;rw[aA (show ¬x=n by lia),Bool.false_or]
     ·simp
    ·rcases br.mp z with z|z
     ·rcases hC t h z with q|q
      ·left;simp[q]
      ·right;simp[q]
     ·right;simp[aK.mp z]
   ·refine⟨fun x=>!decide (x=n)&&C x,?_,fun t h z=>?_⟩
    ·rw[bI];have:[n].filter (fun x=>!decide (x=n)&&C x)=[]:=by simp
     rw[this,aS];refine gQ fun x G=>?_;have:=f x G;rw[aA (show ¬x=n by lia)];rfl
    ·rcases br.mp z with z|z
     ·have l2:=f _ z;have l1:=f _ (a t h z).1;rcases hC t h z with q|q
      ·left;simp[q];lia
      ·right;simp[q];lia
     ·have e:=aK.mp z;have l1:=f _ (d t h e);left;have:=G t.1 (av.mpr ⟨t,bj.mpr ⟨h,ao e⟩,rfl⟩);have:=(bj.mp this).2;simp[this];lia
  ·rintro⟨C,rfl,hC⟩;refine⟨ns.filter C,(E _).mpr ⟨C,rfl,fun t h z=>hC t h (cC _ z)⟩,?_⟩;rw[bI];unfold pL;by_cases c:C n=true
   ·have:[n].filter C=[n]:=by simp[c]
    rw[this];split<;>exact aE ..
   ·have X:[n].filter C=[]:=by simp[c]
    rw[X,aS,aI]
    ·exact au _ (aE ..)
    ·refine pW.mpr fun x G=>?_;obtain⟨t,R,rfl⟩:=av.mp G;obtain⟨h1,h2⟩:=bj.mp R;have e:=aO h2;have:=hC t h1 (bH _ (by rw[e];exact aK.mpr rfl));rw[e]at this;exact bj.mpr ⟨d t h1 e,this.resolve_right c⟩
noncomputable def nh(ps:LY)(Z:List Int):Int:=((ps.filter fun p=>decide (p.1∈Z)).map (·.2)).sum
theorem F0(ps:LY)(Z:List Int):nh ps Z=wC ps fun n=>decide (n∈Z):=by
 unfold nh wC;rw[C6]
theorem PlOk.pw:∀{ps:LY} {l s:Int},PlOk l s ps->(ps.map (·.1)).Pairwise (·<·)
 |[],_,_,_=>.nil
 |q::r,l,s,h=>by
  rw[ai,fw];refine⟨fun x G=>?_,PlOk.pw h.2⟩;obtain⟨p,O,rfl⟩:=av.mp G;exact PlOk.gt h.2 p O
noncomputable def mz(ps ts:LY):List (List Int):=kS ts (ps.map (·.1))
theorem yh(T:WebOk ps ts):s∈mz ps ts↔∃C,s=rM ps C/\m8 ts C:=by
 unfold mz rM m8;rw[Je T.p.pw fun t S _=>⟨(mE T t S).1,(TiOk.in T.t t S).1⟩];constructor
 ·rintro⟨C,e,h⟩;exact⟨C,e,fun t S=>h t S (mE T t S).2⟩
 ·rintro⟨C,e,h⟩;exact⟨C,e,fun t S _=>h t S⟩
theorem xv(C:Int->Bool):nh ps (rM ps C)=wC ps C:=by
 rw[F0];unfold wC rM;refine Fl.jN fun p O=>?_;have:(p.1∈(ps.map (·.1)).filter C)↔C p.1=true:=by
  rw[bj];exact⟨fun h=>h.2,fun h=>⟨av.mpr ⟨p,O,rfl⟩,h⟩⟩
 by_cases c:C p.1=true
 ·rw[aI (ao (this.mpr c)),aI c]
 ·rw[aG (fun z=>c (this.mp (aO z))),aG c]
noncomputable def vW(l:List Int)(m:Int):Prop:=m∈l/\∀x∈l,m<=x
theorem FJ(T:WebOk ps ts)(h:vW ((mz ps ts).map (nh ps)) m):(∃C,m8 ts C/\wC ps C=m)/\∀C,m8 ts C->m<=wC ps C:=by
 obtain⟨s,hs,e⟩:=av.mp h.1;obtain⟨C,rfl,t⟩:=(yh T).mp hs;rw[xv]at e;refine⟨⟨C,t,e⟩,fun D j=>?_⟩;have:=h.2 _ (av.mpr ⟨rM ps D,(yh T).mpr ⟨D,rfl,j⟩,rfl⟩);rw[xv]at this;exact this
noncomputable def kin(m s:List Int):List Int:=m.filter fun x=>decide (x∈s)
theorem Ic(T:WebOk ps ts)(b:Best ps ts y)(h:m8 ts C)(Y:∀D,m8 ts D->wC ps C<=wC ps D):Best ps ts (oW y C):=by
 have e:=IZ T b.c C;have l:=Y _ (HP T b.c h);have c:=GV T b.c h;exact⟨c,fun m R=>by have:=b.m m R;lia⟩
theorem Ie(T:WebOk ps ts)(b:Best ps ts y){ins outs:List Int}(g:∀z,Best ps ts z->∀n∈ins,z n=2)(t:∀z,Best ps ts z->∀n∈outs,z n=0)(h:m8 ts C)(Y:∀D,m8 ts D->wC ps C<=wC ps D):(∀n∈ins,C n=true)/\∀n∈outs,C n=false:=by
 have a:=Ic T b h Y;refine⟨fun n S=>?_,fun n S=>?_⟩
 ·have e1:=g y b n S;have e2:=g _ a n S;cases q:C n with
  |true=>rfl
  |false=>
   unfold oW at e2;rw[aI ⟨e1,q⟩]at e2;exact absurd e2 (by decide)
 ·have e1:=t y b n S;have e2:=t _ a n S;cases q:C n with
  |false=>rfl
  |true=>
   unfold oW at e2;rw[aG (fun z=>by rw[q]at z;exact absurd z.2 (by decide)),aI ⟨e1,q⟩]at e2;exact absurd e2 (by decide)
theorem sumZ{α:Type}{f:α->Int}:∀{l:List α},(∀p∈l,0<=f p)->(l.map f).sum<=0->∀p∈l,f p=0
 |[],_,_,_,h=>by cases h
 |a::l,S,h,p,O=>by
  rw[ai,List.sum_cons]at h;have h1:=S a (aE ..);have h2:=qP (f:=fun _=>(0:Int)) (g:=f) (l:=l) fun q W=>S q (au _ W);rw[Fl.l9]at h2;rcases aV.mp O with rfl|O
  ·lia
  ·exact sumZ (fun q W=>S q (au _ W)) (by lia) p O
theorem Dm(T:WebOk ps ts)(O:mD ps ts (.tup [.lst (hs.map jz),.lst (ds.map jM)])=true)(b:Best ps ts y):(∀p∈ps,iP ds p.1<2*p.2->y p.1=0)/\∀d∈ds,y d.1+y d.2.1=2:=by
 obtain⟨Q,e⟩:=Dx T O;rw[sv]at O;unfold mq at O;dsimp only at O;cases e1:ku ps (hs.map jz)with
 |none=>rw[e1]at O;cases O
 | some r=>
  cases e2:ko ts (-1,-1) (ds.map jM)with
  |none=>rw[e1,e2]at O;cases O
  | some k=>
   rw[e1,e2]at O;dsimp only at O;obtain⟨M,_,_⟩:=pX e1;obtain⟨P,K⟩:=su e2;have D:r=hs:=(eM (f:=jz) (fun a b q=>by cases a;cases b;simp only[jz]at q;cases q;rfl) |>.mp M).symm;have l:k=ds:=(eM (f:=jM) (fun a b q=>by obtain⟨u,x,c⟩:=a;obtain⟨b1,b2,b3⟩:=b;simp only[jM]at q;cases q;rfl) |>.mp P).symm;subst D;subst l;have h2:=(aQ _ _).mp ((aQ _ _).mp O).2;have w:=aO h2.2;have g:(r.map (·.1)).Nodup:=by rw[Q];exact T.p.nodup
   have A:nO ps r=lJ ps (jJ r):=by
    have e3:nO ps r=((r.map (·.1)).map fun n=>jJ ps n*jJ r n).sum:=by
     rw[bP];exact Fl.jN fun q W=>by show _=jJ ps q.1*jJ r q.1;rw[uc g W]
    rw[e3,Q,nz T];rfl
   have o:∀d∈k,d.1∈ps.map (·.1)/\d.2.1∈ps.map (·.1):=fun d J=>mE T _ (K d J).1;have p1:=xc T.p.nodup y o;rw[bP]at p1;have I:=b.m _ e.c;have h:=e.m _ b.c;have v:∀p∈ps,0<=y p.1*(2*p.2-iP k p.1):=fun p O=>gq (b.c.b p O).1 (by have:=aO (cZ.mp h2.1 p O);lia);have V:∀d∈k,0<=d.2.2*(y d.1+y d.2.1-2):=fun d J=>Int.mul_nonneg (by have:=(K d J).2;lia) (by have:=b.c.t _ (K d J).1;dsimp only at this;lia);have s1:(ps.map fun p=>y p.1*(2*p.2-iP k p.1)).sum+(ps.map fun p=>y p.1*iP k p.1).sum=2*lJ ps y:=by
    unfold lJ;rw [<- xo,<- Fl.kG];refine Fl.jN fun p _=>?_;rw[g9,Int.mul_left_comm,cx (y p.1) p.2];lia
   have s2:(k.map fun d=>d.2.2*(y d.1+y d.2.1-2)).sum+2*(k.map (·.2.2)).sum=(k.map fun d=>d.2.2*(y d.1+y d.2.1)).sum:=by
    rw [<- xo,<- Fl.kG];refine Fl.jN fun d _=>?_;rw[g9];lia
   have j:(ps.map fun p=>y p.1*iP k p.1).sum=(k.map fun d=>d.2.2*(y d.1+y d.2.1)).sum:=p1;have N:=qP (f:=fun _=>(0:Int)) v;have G:=qP (f:=fun _=>(0:Int)) V;rw[Fl.l9]at N G;have C:=sumZ v (by lia);have i:=sumZ V (by lia);refine⟨fun p O Z=>?_,fun d J=>?_⟩
   ·rcases Int.mul_eq_zero.mp (C p O)with z|z
    ·exact z
    ·lia
   ·have:=(K d J).2;rcases Int.mul_eq_zero.mp (i d J)with z|z<;>lia
theorem vg{ds:LX}(T:WebOk ps ts)(sl:(∀p∈ps,iP ds p.1<2*p.2->y p.1=0)/\∀d∈ds,y d.1+y d.2.1=2)(b:Best ps ts y):∀(c:List Lk) (ins outs:List Int),(∀n∈ins,y n=2)->(∀n∈outs,y n=0)->kM ps ts ds ins outs c=true->(∀n∈jI c,y n=2)/\∀n∈jP c,y n=0
 |[],_,_,_,_,_=>⟨fun n h=>(by cases h),fun n h=>(by cases h)⟩
 | x::c,ins,outs,hi,M,h=>by
  rw[kM,aQ]at h;obtain⟨h1,h2⟩:=h;have a:∀n∈ps.map (·.1),0<=y n/\y n<=2:=fun n S=>by obtain⟨p,O,rfl⟩:=av.mp S;exact b.c.b p O
  have f:∀n q,q∈jC ts n->2<=y n+y q:=fun n q W=>by
   rcases sj W with t|t
   ·exact b.c.t _ t
   ·have:=b.c.t _ t;dsimp only at this;lia
  have g:(some wL:Option Str)≠some wB:=by decide
  have i:(some wT:Option Str)≠some wB:=by decide
  have s:(x.1=some wB->y (iL x)=2)/\(x.1≠some wB->y (iL x)=0):=by
   unfold kJ at h1;rw[aQ]at h1;obtain⟨l1,l2⟩:=h1;rcases sH l1 with⟨p,rfl⟩|⟨u,v,rfl⟩|⟨u,v,rfl⟩
   ·refine⟨fun z=>absurd z g,fun _=>?_⟩;have:=aO l2;unfold jV at this;obtain⟨q,W,e⟩:=av.mp this;have Z:=bj.mp W;have:=sl.1 q Z.1 (aO Z.2);show y p=0;rw [<- e]; exact this
   ·refine⟨fun _=>?_,fun z=>absurd rfl z⟩;dsimp only at l2;rw[aI rfl]at l2;have F:=M u (aO l2);unfold lK at l1;have U:=(aQ _ _).mp l1;have l:=(aQ _ _).mp U.2;have Y:=aO l.2;have:=f u v Y;have:=a v (AR T Y).2;show y v=2;lia
   ·refine⟨fun z=>absurd z i,fun _=>?_⟩;dsimp only at l2;rw[aG (by decide),aQ]at l2;have F:=hi u (aO l2.1);obtain⟨d,J,e⟩:=xS l2.2;have:=sl.2 d J;show y v=0;rcases e with⟨e1,e2⟩|⟨e1,e2⟩
    ·rw[e1,e2]at this;lia
    ·rw[e1,e2]at this;lia
  have j:∀n,n∈jI (x::c)->(x.1=some wB/\n=iL x)\/n∈jI c:=fun n S=>by
   obtain⟨z,L,e,rfl⟩:=qV.mp S;rcases aV.mp L with rfl|L
   ·exact .inl ⟨e,rfl⟩
   ·exact .inr (qV.mpr ⟨z,L,e,rfl⟩)
  have k:∀n,n∈jP (x::c)->(x.1≠some wB/\n=iL x)\/n∈jP c:=fun n S=>by
   obtain⟨z,L,e,rfl⟩:=qZ.mp S;rcases aV.mp L with rfl|L
   ·exact .inl ⟨e,rfl⟩
   ·exact .inr (qZ.mpr ⟨z,L,e,rfl⟩)
  by_cases q:x.1=some wB
  ·rw[aI q]at h2;obtain⟨r1,P⟩:=vg T sl b c (iL x::ins) outs (fun n S=>by rcases aV.mp S with rfl|S;exact s.1 q;exact hi n S) M h2;refine⟨fun n S=>?_,fun n S=>?_⟩
   ·rcases j n S with⟨_,rfl⟩|z
    ·exact s.1 q
    ·exact r1 n z
   ·rcases k n S with⟨z,_⟩|z
    ·exact absurd q z
    ·exact P n z
  ·rw[aG q]at h2;obtain⟨r1,P⟩:=vg T sl b c ins (iL x::outs) hi (fun n S=>by rcases aV.mp S with rfl|S;exact s.2 q;exact M n S) h2;refine⟨fun n S=>?_,fun n S=>?_⟩
   ·rcases j n S with⟨z,_⟩|z
    ·exact absurd z q
    ·exact r1 n z
   ·rcases k n S with⟨_,rfl⟩|z
    ·exact s.2 q
    ·exact P n z
noncomputable def qj(ps ts:LY)(ms ns:List Int):Prop:=(∀z,Best ps ts z->∀n∈ms,z n=2)/\∀z,Best ps ts z->∀n∈ns,z n=0
theorem G6(T:WebOk ps ts)(b:Best ps ts y)(F:qj ps ts ms ns)(K:∀n∈ms,n∈ps.map (·.1))(h:vW ((mz ps ts).map (nh ps)) m)(hs:s∈mz ps ts)(Y:nh ps s<=m):j4 ms s=[]/\kin ns s=[]:=by
 obtain⟨_,l⟩:=FJ T h;obtain⟨C,rfl,hC⟩:=(yh T).mp hs;rw[xv]at Y;obtain⟨a,o⟩:=Ie T b F.1 F.2 hC fun D j=>by have:=l D j;lia
 refine⟨pW.mpr fun n S=>?_,?_⟩
 ·exact bj.mpr ⟨K n S,a n S⟩
 ·unfold kin;rw[List.filter_eq_nil_iff];intro n S z;have:=(bj.mp (aO z)).2;rw[o n S]at this;cases this
noncomputable def LsR(H:Hp)(v:V)(row:List Int):Prop:=∃a,v= .ref a/\H a=some (.lst (row.map V.int))
abbrev LsRs(H:Hp):List V->List (List Int)->Prop:=Paired (LsR H)
theorem LsR.same(s:Same H H')(h:LsR H v row):LsR H' v row:=by
 obtain⟨a,e,q⟩:=h;exact⟨a,e,s _ _ q⟩
theorem LsRs.same{H H':Hp}(s:Same H H'){xs:List V}{rs:List (List Int)}(h:LsRs H xs rs):LsRs H' xs rs:=Paired.imp' (fun _ _ q=>q.same s) h
noncomputable def LsN(l:List Addr)(H:Hp)(v:V)(row:List Int):Prop:=∃a,v= .ref a/\a∉l/\H a=some (.lst (row.map V.int))
theorem LsN.to(h:Paired (LsN l H) xs rs):LsRs H xs rs:=Paired.imp' (fun _ _ ⟨a,e,_,q⟩=>⟨a,e,q⟩) h
theorem LsN.of(O:p∈l)(h:Paired (LsN l H) xs rs):Paired (LsN l (upd H p o)) xs rs:=Paired.imp' (fun _ _ ⟨a,e,n,q⟩=>⟨a,e,n,by rw[iC (fun z:a=p=>n (by rw[z];exact O))];exact q⟩) h
theorem LsN.same(s:Same H H')(h:Paired (LsN l H) xs rs):Paired (LsN l H') xs rs:=Paired.imp' (fun _ _ ⟨a,e,n,q⟩=>⟨a,e,n,s _ _ q⟩) h
theorem flat_ints:∀(s:List Int),(s.map V.int).all kD=true
 |[]=>rfl
 |g::r=>by rw[ai,List.all_cons,flat_ints r];rfl
theorem xK(e:H a=some (.lst (ns.map V.int))):Rep H (.lst (ns.map Dt.int)) (.ref a):=by
 rw[Rep];refine⟨a,_,rfl,e,?_⟩;clear e
 induction ns with
 |nil=>rw[bO,Reps];rfl
 |cons n r E=>rw[ai,Reps];exact⟨_,_,rfl,by rw[Rep],E⟩
theorem xh(e:H a=some (.lst [])):Rep H (.lst []) (.ref a):=by
 rw[Rep];exact⟨a,[],rfl,e,by rw[Reps]⟩
theorem xx(ns:List Int):jq (.lst (ns.map Dt.int)) (.lst [])=decide (ns=[]):=by
 cases ns<;>rfl
theorem By:∀(ns:List Int),j5 (ns.map Dt.int)=0
 |[]=>rfl
 |n::r=>by simp[j5,kX,By r]
theorem xW(ns:List Int):kX (.lst (ns.map Dt.int))<=20:=by rw[kX,By];decide
theorem zg(h:n<=5000):n<sizeLine:=fu h (by decide)
theorem ur(h:(ns.map V.int)[i]? =some v):∃n,ns[i]? =some n/\v= .int n:=by
 rw[aU]at h;obtain⟨n,S,e⟩:=dG.mp h;exact⟨n,S,e.symm⟩
theorem rf{f:α->Bool}{l:List α}{x:α}(h:l[i]? =some x):(l.take (i+1)).filter f=(l.take i).filter f++(if f x=true then[x]else[]):=by
 rw[ji h,bI,bU,List.filter_nil]
noncomputable def Ag:Sp:=fun vs H Q _=>∃v s ps ts Z,vs=[v,.ref s]/\jbl H v ps ts/\ps.length<=900/\H s=some (.lst (Z.map V.int))/\∀H',Same H H'->Q (.int (nh ps Z)) H'
noncomputable def Ar:Sp:=fun vs H Q _=>∃v ps ts,vs=[v]/\jbl H v ps ts/\WebOk ps ts/\ps.length<=9/\∀l zs H',Same H H'->H' l=some (.lst zs)->LsRs H' zs (mz ps ts)->Q (.ref l) H'
theorem Jf(h:ps.length<=9):(mz ps ts).length<=512:=by
 have:=(uZ ts (ps.map (·.1)) ps.length).1;rw[cu (by rw[aa];lia)]at this;exact bw this (Nat.pow_le_pow_right (by decide) h:2^ps.length<=2^9)
theorem E8(hi:i<=9)(h:n<=2^i):n<=512:=bw h (Nat.pow_le_pow_right (by decide) hi:2^i<=2^9)
theorem Jg{n:Int}(h:rs[i]? =some s):lU ts n (rs.take (i+1))=lU ts n (rs.take i)++pL ts n s:=by
 unfold lU;rw[ji h,fq,eU,gX,aS]
theorem JQ:∀{ns:List Int} {s:List Int},s∈kS ts ns->s.length<=ns.length:=by
 intro ns;refine A4 (P:=fun ns=>∀{s:List Int},s∈kS ts ns->s.length<=ns.length) ?_ (fun ns n E=>?_) ns
 ·intro s h;rw[show kS ts []=[[]]from rfl,aK]at h;rw[h];exact ay _
 ·intro s h;rw[vb]at h;unfold lU at h;obtain⟨b,A,h1⟩:=dA.mp h;have:=E A;rw[aH];unfold pL at h1;have:s=b++[n]\/s=b:=by
   split at h1<;>simp only[aV,fk,ie]at h1
   ·exact h1
   ·exact .inl h1
  rcases this with rfl|rfl
  ·rw[aH];simp only[List.length_cons,List.length_nil];lia
  ·simp only[List.length_cons,List.length_nil];lia
theorem LsN.snoc(h:Paired (LsN l H) xs rs)(J:H a=some (.lst (s.map V.int)))(S:a∉l):Paired (LsN l H) (xs++[.ref a]) (rs++[s]):=j3 h ⟨a,rfl,S,J⟩
noncomputable def B5:Sp:=fun vs H Q _=>∃v t a b ms ns ps ts y,vs=[v,.ref t]/\jbl H v ps ts/\WebOk ps ts/\ps.length<=9/\H t=some (.tup [.ref a,.ref b])/\H a=some (.lst (ms.map V.int))/\H b=some (.lst (ns.map V.int))/\ms.length<=64/\ns.length<=64/\Best ps ts y/\qj ps ts ms ns/\(∀n∈ms,n∈ps.map (·.1))/\∀H',Same H H'->Q (.bl true) H'
theorem HV:mz ps ts≠[]:=fun z=>by
 have:=(uZ ts (ps.map (·.1)) (ps.map (·.1)).length).2;rw[aD]at this;unfold mz at z;rw[z]at this;exact absurd this (by decide)
theorem J8(B:Blt mg)(D:DefAt K mg "_law_cost" (top 62) ["_law_web_here","_law_some"] f fd):FnOk P w K mg base iT 1 f fd ["_law_web_here","_law_some"] Ag:=by
 refine i6 D.F ["_law_web_here","_law_some"] (by rintro _ _ _ _ ⟨v,u,ps,ts,Z,rfl,_⟩;rfl) ?_;rintro _ A _ s H vs Q E X M F o ⟨v,sa,ps,ts,Z,rfl,e,sq,es,h⟩;obtain⟨x,G,ta,xs,ys,rfl,ex,Y,a,j,T⟩:=id e;have b:xs.length=ps.length:=aq j;have F:=jX M;have o:_<PySem.cLine:=aZ F;refine⟨_,(iF (iS (jZ (rL rfl) rfl B.sum dM (iJ (mh (CpScope.of (N:=["_law_place","_law_price","_law_some"]) (src:=[none,none,some 1]) (by rfl)) rfl (jb (iE (qv 0) iu)) (fun _ _ _ _=>(jQ (n:=2) rfl (iR (iV 0) (iR (iV 1) jF)))) (fun _ _ _ _=>(kU (jc nT (qv 0) (qv 2) (by with_unfolding_all rfl)))) (fun _ _ _ _=>(qv 1))))))),?_⟩;walk_at "D";refine jA (i5 K G) H (fun R U=>?_) (fun z C=>jn ps.length (fun i L I=>∃m r,L=[m,r,some (.ref sa)]/\Same H I/\I z=some (.lst ((((ps.take i).filter fun p=>decide (p.1∈Z)).map (·.2)).map V.int))) ⟨none,none,rfl,iD C _,ir⟩ ?_ ?_)
 ·unfold i8;simp_arith[iH,ex,iW];exact⟨G,rfl,⟨_,SqL.of Y⟩,U⟩
 ·rintro i L I hi ⟨m,r,rfl,d,k⟩;have x1:xs[i]? =some (xs[i]'(by lia)):=gE _;have J:SqL K I G xs:=SqL.of (d _ _ Y);refine⟨⟨_,_,J,x1⟩,?_⟩;rintro y H' ⟨rfl,O⟩;obtain⟨q,W,g⟩:=jm j (O _ J);obtain⟨t,rfl,S⟩:=g.same d;have i':=d _ _ es;simp_arith[S,iH,i',nA,flat_ints,kD];have l:(((ps.take i).filter fun p=>decide (p.1∈Z))).length<=900:=bw (bq _ _) (by rw[aP];lia);have ft:=rf (f:=fun p:Int×Int=>decide (p.1∈Z)) W;by_cases c:q.1∈Z
  ·simp only[c,ck,if_true]at ft ⊢;refine⟨_,k,?_,_,_,rfl,i4 d C,?_⟩
   ·rw[aa,aa];exact iU (by lia)
   ·rw[ir,ft,af,af];rfl
  ·simp only[c,cS,aL,if_false,aS]at ft ⊢;exact⟨_,_,rfl,d,by rw[ft];exact k⟩
 rintro L H1 ⟨m,r,rfl,s1,k⟩;refine⟨⟨_,SqL.of (s1 _ _ Y),by lia⟩,?_⟩;rw[aD]at k;exact⟨z,_,rfl,k,h H1 s1⟩
theorem Kb(B:Blt mg)(D:DefAt K mg "_law_sets" (top 61) ["_law_web_here"] f fd):FnOk P w K mg base iT 1 f fd ["_law_web_here"] Ar:=by
 refine i6 D.F ["_law_web_here","_law_rows","_law_place","_law_price","_law_must","_law_longer","_law_some"] (by rintro _ _ _ _ ⟨v,ps,ts,rfl,_⟩;rfl) ?_;rintro _ A _ s H vs Q E X M l Z ⟨v,ps,ts,rfl,r,T,h9,h⟩;obtain⟨u,pa,ta,xs,ys,rfl,eu,G',F',i',sz⟩:=id r;have K':=aq i';have Mm:=aq sz;have L9:=T.tl;have l:=jX M;have Z:_<PySem.cLine:=aZ l;refine⟨_,(iy (iM 1 X (jW (iJ (jW kF)))) (iy (jY bg rfl (jb (iE (qv 0) iu)) (jQ (n:=2) rfl (iR (jd 2 X) (iR (jd 3 X) jF))) (iy (oP (i:=4) X rfl (Or.inl rfl) (CpScope.of (N:=["_law_one","_law_other","_law_place"]) (src:=[none,none,some 2]) (by rfl)) rfl (jb (iE (qv 0) iu)) (fun _ _ _ _=>(jQ (n:=2) rfl (iR (iV 0) (iR (iV 1) jF)))) (fun _ _ _ _=>(kU (jc ly (qv 1) (qv 2) (ja _)))) (fun _ _ _ _=>(qv 0))) (iy (iM 5 X (jW kF)) (iy (jY bg rfl (jb (qv 1)) (jd 6 X) (iy (j6 (kI ba aY aX kN (qv 5) (iJ (iQ rJ (qv 6) (jW (iJ (qv 2))))))) (iF (jt (jc (z6 M.units) (mh (CpScope.of (N:=["_law_one","_law_some"]) (src:=[none,some 6]) (by rfl)) rfl (jb (qv 4)) (fun _ _ _ _=>(iV 0)) (fun _ _ _ _=>(kU (jc xI (qv 0) (qv 1) (by with_unfolding_all rfl)))) (fun _ _ _ _=>(qv 0))) (jW kF) (ja _)) (iF (j6 (kI ba aY aX kN (qv 5) (iJ (qv 6))))) jv)))) (iF (iM 1 X (qv 5))))))) (iF (iS (qv 1))))),?_⟩;walk_at "D";intro e0 MF;generalize G:upd H e0 _=H0;obtain⟨q0,ME⟩:=kc MF G;clear G;intro r0 Ma;have O:=q0.trans (iD Ma (.lst [.ref e0]));have Mg:=iD Ma (.lst [.ref e0]) _ _ ME;have Mn:upd H0 r0 (.lst [.ref e0]) r0=some (.lst [.ref e0]):=ir;generalize upd H0 r0 (.lst [.ref e0])=H1 at O Mg Mn;refine kA (i5 K pa) H1 (fun R Y=>?_) (lG (K:=K) (a:=pa) (xs:=xs) (fun i σ I=>∃rl zs w2 w3 w4 w5 w6,σ=[some (.ref u),some (.ref rl),w2,w3,w4,w5,w6]/\Same H I/\I rl=some (.lst zs)/\LsRs I zs (kS ts ((ps.map (·.1)).take i))) ⟨r0,_,none,none,none,none,none,rfl,O,Mn,.cons ⟨e0,rfl,Mg⟩ .nil⟩ (fun i σ I _ g=>by obtain⟨_,_,_,_,_,_,_,_,s2,_⟩:=g;exact SqL.of (s2 _ _ G')) ?_ ?_)
 ·unfold i8;simp_arith[iH,O _ _ eu,iW];exact⟨pa,rfl,⟨_,SqL.of (O _ _ G')⟩,Y⟩
 ·rintro k y σ H2 F ⟨rl,zs,w2,w3,w4,w5,w6,rfl,s2,L',pz⟩;obtain⟨q,W,pq⟩:=jm i' F;obtain⟨b,rfl,U⟩:=pq.same s2;have Mu:k<ps.length:=(ax.mp W).1;have J':zs.length=(kS ts ((ps.map (·.1)).take k)).length:=aq pz;have M4:=E8 (by lia) (uZ ts (ps.map (·.1)) k).1;have ML:∀s∈kS ts ((ps.map (·.1)).take k),s.length<=9:=fun s hs=>by
   have:=JQ hs;rw[aP]at this;lia
  have Mr:kS ts ((ps.map (·.1)).take (k+1))=lU ts q.1 (kS ts ((ps.map (·.1)).take k)):=by
   rw[ji (show(ps.map (·.1))[k]? =some q.1 by rw[aU,W];rfl),vb]
  generalize kS ts ((ps.map (·.1)).take k)=rs at pz J' M4 ML Mr;simp_arith[U];refine jA (i5 K ta) H2 (fun R2 A'=>?_) (fun ml Ml=>jn ts.length (fun j L I=>∃m w2,L=[m,w2,some (.int q.1)]/\Same H2 I/\I ml=some (.lst ((((ts.take j).filter fun t=>decide (t.2=q.1)).map (·.1)).map V.int))) ⟨none,none,rfl,iD Ml _,ir⟩ ?_ ?_)
  ·unfold i8;simp_arith[iH,s2 _ _ eu,jl];exact⟨ta,rfl,⟨_,SqL.of (s2 _ _ F')⟩,A'⟩
  ·rintro j L I hj ⟨m,w2,rfl,s3,Mf⟩;have Mh:=s2.trans s3;have x1:ys[j]? =some (ys[j]'(by lia)):=gE _;have z1:SqL K I ta ys:=SqL.of (Mh _ _ F');refine⟨⟨_,_,z1,x1⟩,?_⟩;rintro y H' ⟨rfl,hy⟩;obtain⟨t,d,pt⟩:=jm sz (hy _ z1);obtain⟨a,rfl,J⟩:=pt.same Mh;simp_arith[J];have Mb:(((ts.take j).filter fun t=>decide (t.2=q.1))).length<=200:=bw (bq _ _) (by rw[aP];lia);have ft:=rf (f:=fun t:Int×Int=>decide (t.2=q.1)) d;by_cases c:t.2=q.1
   ·simp only[c,ck,if_true]at ft ⊢;refine⟨_,Mf,?_,_,_,rfl,i4 s3 Ml,?_⟩
    ·rw[aa,aa];exact iU (by lia)
    ·rw[ir,ft,af,af];rfl
   ·simp only[c,cS,aL,if_false,aS]at ft ⊢;exact⟨_,_,rfl,s3,by rw[ft];exact Mf⟩
  rintro L H3 ⟨m,Mi,rfl,s3,Mf⟩;refine⟨⟨_,SqL.of (s3 _ _ (s2 _ _ F')),by lia⟩,?_⟩;rw[aD]at Mf;have M8:(mJ ts q.1).length<=120:=by
   unfold mJ;rw[aa];exact bw (bq _ _) L9
  rw[show(ts.filter fun t=>decide (t.2=q.1)).map (·.1)=mJ ts q.1 from rfl]at Mf;walk_at "D";intro lg Mw;have q4:=iD Mw (.lst []);have MQ:upd H3 lg (.lst []) lg=some (.lst []):=ir;have MN:=q4 _ _ (s3 _ _ L');have MY:=s3.trans q4;have MA:H2 lg=none:=s3.free Mw;have M5:H lg=none:=s2.free MA;have MV:=q4 _ _ Mf;have M6:ml≠lg:=iO Mf Mw;have M9:rl≠lg:=iO L' MA;generalize upd H3 lg (.lst [])=H4 at q4 MQ MN MY MV;refine kA (i5 K rl) H4 (fun R' B'=>?_) (lG (K:=K) (a:=rl) (xs:=zs) (fun i σ I=>∃w6 p,σ=[some (.ref u),some (.ref rl),some (.int q.1),some (.int q.2),some (.ref ml),some (.ref lg),w6]/\Same H3 I/\I lg=some (.lst p)/\Paired (LsN [lg] I) p (lU ts q.1 (rs.take i))) ⟨w6,[],rfl,q4,MQ,.nil⟩ (fun i σ I _ g=>by obtain⟨_,_,_,s5,_⟩:=g;exact SqL.of (s5 _ _ (s3 _ _ L'))) ?_ ?_)
  ·unfold i8;walk_at "D";exact⟨rl,rfl,⟨_,SqL.of MN⟩,B'⟩
  ·rintro i z σ I C ⟨M0,p,rfl,s5,Ms,pw⟩;obtain⟨s,hs,MU⟩:=jm pz C;have M3:=s3.trans s5;obtain⟨ra,rfl,L8⟩:=MU.same M3;have M7:=ML s (aC hs);have Mx:i<rs.length:=(ax.mp hs).1;have Mc:p.length<=2*i:=by
    have a:=aq pw;have:=(xZ ts q.1 (rs.take i)).1;rw[aP]at this;lia
   have Me:ra≠lg:=by
    obtain⟨M',e,q2⟩:=MU;cases e;exact iO q2 MA
   walk_at "D";refine⟨⟨lg,_,rfl,Ms⟩,?_⟩;walk_at "D";intro c1 Mo;generalize G:upd I c1 _=H6;obtain⟨q6,MZ⟩:=kc Mo G;have MM:=q6 _ _ L8;clear G;simp_arith[MM,MZ];refine⟨?_,fun c2 MI=>?_⟩
   ·rw[aa];show s.length+1<=_;exact qu (by lia)
   have q7:=iD MI (.lst (s.map V.int++[.int q.1]));have Mp:upd H6 c2 (.lst (s.map V.int++[.int q.1])) c2=some (.lst ((s++[q.1]).map V.int)):=by rw[ir,af];rfl
   have Mj:=q6.trans q7;have MX:c2≠lg:=(iO (q6 _ _ Ms) MI).symm;have Mt:=q7 _ _ MM;generalize upd H6 c2 (.lst (s.map V.int++[.int q.1]))=H7 at q7 Mp Mj Mt;have MW:=Mj _ _ Ms;simp_arith[MW];refine⟨zg (by lia),?_⟩;have MT:Paired (LsN [lg] (upd H7 lg (.lst (p++[.ref c2])))) (p++[.ref c2]) (lU ts q.1 (rs.take i)++[s++[q.1]]):=LsN.of (aK.mpr rfl) (LsN.snoc (LsN.same Mj pw) Mp (by simpa using MX));have s8:Same H3 (upd H7 lg (.lst (p++[.ref c2]))):=i4 (s5.trans Mj) Mw;have MJ:upd H7 lg (.lst (p++[.ref c2])) lg=some (.lst (p++[.ref c2])):=ir;have MD:upd H7 lg (.lst (p++[.ref c2])) ra=some (.lst (s.map V.int)):=by rw[iC Me];exact Mt
   generalize upd H7 lg (.lst (p++[.ref c2]))=H8 at MT s8 MJ MD;walk_at "D";have MG:=s8 _ _ Mf;refine jA (i5 K ml) H8 (fun R2 A'=>?_) (fun dl Mq=>jn (mJ ts q.1).length (fun j L Hd=>∃m,L=[m,some (.ref ra)]/\Same H8 Hd/\Hd dl=some (.lst ((j4 ((mJ ts q.1).take j) s).map V.int))) ⟨none,rfl,iD Mq _,ir⟩ ?_ ?_)
   ·unfold i8;walk_at "D";exact⟨ml,rfl,⟨_,SqL.of MG⟩,A'⟩
   ·rintro j L Hd hj ⟨m,rfl,s9,sq⟩;have z1:SqL K Hd ml ((mJ ts q.1).map V.int):=SqL.of (s9 _ _ MG);have x1:((mJ ts q.1).map V.int)[j]? =some (((mJ ts q.1).map V.int)[j]'(by rw[aa];lia)):=gE _;refine⟨⟨_,_,z1,x1⟩,?_⟩;rintro y H' ⟨rfl,hy⟩;obtain⟨n,S,rfl⟩:=ur (hy _ z1);have ft:=rf (f:=fun x:Int=>!decide (x∈s)) S;have Mb:(j4 ((mJ ts q.1).take j) s).length<=200:=bw (bq _ _) (by rw[aP];lia);unfold j4 at Mb sq;simp_arith[iH,s9 _ _ MD,nA,flat_ints,kD];unfold j4;by_cases c:n∈s
    ·simp only[c,ck,bK,aL,if_false,aS]at ft ⊢;exact⟨_,rfl,s9,by rw[ft];exact sq⟩
    ·simp only[c,cS,cI,if_true]at ft ⊢;refine⟨_,sq,?_,_,rfl,i4 s9 Mq,?_⟩
     ·rw[aa];exact iU (by lia)
     ·rw[ir,ft,af];rfl
   rintro L H9 ⟨m,rfl,s9,sq⟩;refine⟨⟨_,SqL.of (s9 _ _ MG),by rw[aa];lia⟩,?_⟩;rw[aD]at sq;walk_at "D";intro e1 Mv;generalize G:upd H9 e1 _=HA;obtain⟨t1,Mg⟩:=kc Mv G;clear G;have Mz:=s9.trans t1;refine⟨_,_,xK (t1 _ _ sq),xh Mg,xW _,.inl ⟨_,_,rfl,rfl⟩,?_⟩;rw[xx];have MR:=LsN.same Mz MT;have MB:=Mz _ _ MJ;have MP:=s8.trans Mz;have MC:=Mz _ _ MD;rw[Jg hs];unfold pL;by_cases c:j4 (mJ ts q.1) s=[]
   ·rw[ao c,aI c];walk_at "D";refine⟨⟨lg,_,rfl,MB⟩,?_⟩;simp_arith[MB];refine⟨zg (by rw[aH];show p.length+1<=_;lia),_,_,rfl,i4 MP Mw,ir,?_⟩;have:=LsN.of (o:=.lst (p++[.ref c2]++[.ref ra])) (aK.mpr rfl) (LsN.snoc MR MC (by simpa using Me));rw[show lU ts q.1 (rs.take i)++[s++[q.1],s]=lU ts q.1 (rs.take i)++[s++[q.1]]++[s] by rw[bp];rfl];exact this
   ·rw[aA c,aG c];walk_at "D";exact⟨_,_,rfl,MP,MB,MR⟩
  ·rintro σ I ⟨M0,p,rfl,s5,Ms,pw⟩;walk_at "D";rw[aq pz,aD]at pw;refine⟨lg,p,_,_,_,_,_,rfl,s2.trans (s3.trans s5),Ms,?_⟩;rw[Mr];exact LsN.to pw
 ·rintro σ I ⟨rl,zs,w2,w3,w4,w5,w6,rfl,s2,L',pz⟩;walk_at "D";rw[cu (by rw[aa];lia)]at pz;exact h rl zs I s2 L' pz
theorem Ks(B:Blt mg)(D:DefAt K mg "_law_right" (top 65) ["_law_web_here","_law_fixed"] f fd)(MA:Ok P w K mg base "_law_sets" (top 61) 1 ["_law_web_here"] Ar)(Mr:Ok P w K mg base "_law_cost" (top 62) 1 ["_law_web_here","_law_some"] Ag):FnOk P w K mg base iT 2 f fd ["_law_web_here","_law_fixed"] B5:=by
 refine i6 D.F ["_law_web_here","_law_fixed","_law_rows","_law_least","_law_some","_law_odd"] (by rintro _ _ _ _ ⟨v,t,a,b,ms,ns,ps,ts,y,rfl,_⟩;rfl) ?_;rintro _ A _ s H vs Q E X M _ _ ⟨v,t,a,b,ms,ns,ps,ts,y,rfl,e,T,h9,et,d,eb,Mv,Mw,Me,F,Mp,h⟩;refine⟨_,(iy (iM 2 X (iN MA M (iJ (qv 0)))) (iy (iM 3 X (jZ (Ck rfl) rfl B.min gg (iJ (kR ["_law_some","_law_web_here"] [none,some 0] (jb (qv 2)) (iV 0) (iN Mr M (iG (qv 1) (qv 0))))))) (iy (jY bg rfl (jb (qv 2)) (jd 4 X) (iy (oP (i:=5) X rfl (Or.inl rfl) (CpScope.of (N:=["_law_place","_law_some"]) (src:=[none,some 4]) (by rfl)) rfl (jb (iE (qv 1) iu)) (fun _ _ _ _=>(iV 0)) (fun _ _ _ _=>(kU (jc xI (qv 0) (qv 1) (by with_unfolding_all rfl)))) (fun _ _ _ _=>(qv 0))) (iy (iM 5 X (iQ rJ (qv 5) (mh (CpScope.of (N:=["_law_place","_law_some"]) (src:=[none,some 4]) (by rfl)) rfl (jb (iE (qv 1) iu)) (fun _ _ _ _=>(iV 0)) (fun _ _ _ _=>(kU (jc nT (qv 0) (qv 1) (by with_unfolding_all rfl)))) (fun _ _ _ _=>(qv 0))))) (iF (jt (PW.pt (nX (jc (wz M.units) (qv 5) (jW kF) (ja _)) (n6 (jc nc (iN Mr M (iG (qv 0) (qv 4))) (qv 3) (ja _))))) (iF (iS jT)) jv))))) (iF (iS jT))))),?_⟩;refine iK fun R U=>?_;walk_at "D";refine⟨v,ps,ts,rfl,e,T,h9,fun rl rz H1 s1 G' Mf=>?_⟩;have Mo:=aq Mf;have MC:(mz ps ts).length<=512:=Jf h9;subst U;refine iK fun R U=>?_;walk_at "D";refine jA (i5 K rl) H1 (fun R2 l=>?_) (fun cl A'=>jn (mz ps ts).length (fun j L Hd=>∃Z,L=[Z,some v]/\Same H1 Hd/\Hd cl=some (.lst ((((mz ps ts).take j).map (nh ps)).map V.int))) ⟨none,rfl,iD A' _,ir⟩ ?_ ?_)
 ·unfold i8;walk_at "D";exact⟨rl,rfl,⟨_,SqL.of G'⟩,l⟩
 ·rintro j L Hd W ⟨Z,rfl,s9,i'⟩;have J:SqL K Hd rl rz:=SqL.of (s9 _ _ G');have x1:rz[j]? =some (rz[j]'(by have:=aq Mf;lia)):=gE _;refine⟨⟨_,_,J,x1⟩,?_⟩;rintro y' H' ⟨rfl,O⟩;obtain⟨s,hs,qs⟩:=jm Mf (O _ J);obtain⟨ra,rfl,F'⟩:=qs.same s9;walk_at "D";refine⟨v,ra,ps,ts,s,rfl,(e.same s1).same s9,by lia,F',fun k o=>?_⟩;walk_at "D";refine⟨_,o _ _ i',?_,_,rfl,i4 (s9.trans o) A',?_⟩
  ·rw[aa,aa,aP];exact iU (by lia)
  ·rw[ir,ji hs,af,af];rfl
 rintro L H2 ⟨Z,rfl,sz,Mi⟩;refine⟨⟨_,SqL.of (sz _ _ G'),by lia⟩,?_⟩;rw[aD]at Mi;have s2:=s1.trans sz;walk_at "D";refine⟨cl,_,rfl,Mi,by simpa using HV,fun m m1 m2=>?_⟩;have MO:vW ((mz ps ts).map (nh ps)) m:=⟨m1,m2⟩;have Mm:=sz _ _ G';have Mt:=LsRs.same sz Mf;have Ma:=s2 _ _ et;have Mj:=s2 _ _ d;have B':=s2 _ _ eb;clear Mi m1 m2 sz G' Mf et d eb;subst U;refine iK fun R U=>?_;refine kA (i5 K rl) H2 (fun R' sq=>?_) (lG (K:=K) (a:=rl) (xs:=rz) (fun i σ I=>∃w4 w5,σ=[some v,some (.ref t),some (.ref rl),some (.int m),w4,w5]/\Same H2 I) ⟨none,none,rfl,fun _ _ q=>q⟩ (fun i σ I _ g=>by obtain⟨_,_,_,o⟩:=g;exact SqL.of (o _ _ Mm)) ?_ ?_)
 ·unfold i8;walk_at "D";exact⟨rl,rfl,⟨_,SqL.of Mm⟩,sq⟩
 ·rintro i z σ I C ⟨w4,w5,rfl,o⟩;obtain⟨s,r,qs⟩:=jm Mt C;obtain⟨ra,rfl,F'⟩:=qs.same o;have key:=fun Y=>G6 T Me F Mp MO (aC r) Y;simp only[mw,List.set_cons_zero,List.set_cons_succ];refine iK fun R5 Mb=>?_;walk_at "D";refine jA (i5 K a) I (fun R2 l=>?_) (fun MB Mn=>jn ms.length (fun j L Hd=>∃Z,L=[Z,some (.ref ra)]/\Same I Hd/\Hd MB=some (.lst ((j4 (ms.take j) s).map V.int))) ⟨none,rfl,iD Mn _,ir⟩ ?_ ?_)
  ·unfold i8;simp_arith[iH,o _ _ Ma,iW];exact⟨a,rfl,⟨_,SqL.of (o _ _ Mj)⟩,l⟩
  ·rintro j L Hd W ⟨Z,rfl,s9,i'⟩;have J:SqL K Hd a (ms.map V.int):=SqL.of (s9 _ _ (o _ _ Mj));have x1:(ms.map V.int)[j]? =some ((ms.map V.int)[j]'(by rw[aa];lia)):=gE _;refine⟨⟨_,_,J,x1⟩,?_⟩;rintro y' H' ⟨rfl,O⟩;obtain⟨n,S,rfl⟩:=ur (O _ J);have ft:=rf (f:=fun x:Int=>!decide (x∈s)) S;have J':(j4 (ms.take j) s).length<=200:=bw (bq _ _) (by rw[aP];lia);unfold j4 at J' i';simp_arith[iH,s9 _ _ F',nA,flat_ints,kD];unfold j4;by_cases c:n∈s
   ·simp only[c,ck,bK,aL,if_false,if_true,aS]at ft ⊢;exact⟨_,rfl,s9,by rw[ft];exact i'⟩
   ·simp only[c,cS,cI,aL,if_true,if_false,aS]at ft ⊢;refine⟨_,i',?_,_,rfl,i4 s9 Mn,?_⟩
    ·rw[aa];exact iU (by lia)
    ·rw[ir,ft,af];rfl
  rintro L H7 ⟨Z,rfl,u,i'⟩;refine⟨⟨_,SqL.of (u _ _ (o _ _ Mj)),by rw[aa];lia⟩,?_⟩;rw[aD]at i';have K':=o.trans u;have L':=u _ _ F';subst Mb;refine iK fun R5 Mb=>?_;walk_at "D";refine jA (i5 K b) H7 (fun R2 l=>?_) (fun Mz Ml=>jn ns.length (fun j L Hd=>∃Z,L=[Z,some (.ref ra)]/\Same H7 Hd/\Hd Mz=some (.lst ((kin (ns.take j) s).map V.int))) ⟨none,rfl,iD Ml _,ir⟩ ?_ ?_)
  ·unfold i8;simp_arith[iH,K' _ _ Ma,jl];exact⟨b,rfl,⟨_,SqL.of (K' _ _ B')⟩,l⟩
  ·rintro j L Hd W ⟨Z,rfl,s9,i'⟩;have J:SqL K Hd b (ns.map V.int):=SqL.of (s9 _ _ (K' _ _ B'));have x1:(ns.map V.int)[j]? =some ((ns.map V.int)[j]'(by rw[aa];lia)):=gE _;refine⟨⟨_,_,J,x1⟩,?_⟩;rintro y' H' ⟨rfl,O⟩;obtain⟨n,S,rfl⟩:=ur (O _ J);have ft:=rf (f:=fun x:Int=>decide (x∈s)) S;have J':(kin (ns.take j) s).length<=200:=bw (bq _ _) (by rw[aP];lia);unfold kin at J' i';simp_arith[iH,s9 _ _ L',nA,flat_ints,kD];unfold kin;by_cases c:n∈s
   ·simp only[c,ck,bK,aL,if_false,if_true,aS]at ft ⊢;refine⟨_,i',?_,_,rfl,i4 s9 Ml,?_⟩
    ·rw[aa];exact iU (by lia)
    ·rw[ir,ft,af];rfl
   ·simp only[c,cS,cI,aL,if_true,if_false,aS]at ft ⊢;exact⟨_,rfl,s9,by rw[ft];exact i'⟩
  rintro L H8 ⟨Z,rfl,p,Mq⟩;refine⟨⟨_,SqL.of (p _ _ (K' _ _ B')),by rw[aa];lia⟩,?_⟩;rw[aD]at Mq;have l1:(j4 ms s).length<=64:=bw (bq _ _) Mv;have l2:(kin ns s).length<=64:=bw (bq _ _) Mw;simp_arith[p _ _ i',Mq];refine⟨qu (by rw[aa,aa];lia),fun c1 L9=>?_⟩;have q9:=iD L9 (.lst ((j4 ms s).map V.int++(kin ns s).map V.int));have Ms:upd H8 c1 (.lst ((j4 ms s).map V.int++(kin ns s).map V.int)) c1=some (.lst ((j4 ms s++kin ns s).map V.int)):=by rw[ir,af]
  generalize upd H8 c1 (.lst ((j4 ms s).map V.int++(kin ns s).map V.int))=H9 at q9 Ms;have Mx:=(K'.trans p).trans q9;have Mu:=(p.trans q9) _ _ L';subst Mb;walk_at "D";intro e1 Mc;generalize G:upd H9 e1 _=HA;obtain⟨t1,L8⟩:=kc Mc G;clear G;have Mh:=Mx.trans t1;have Mg:=t1 _ _ Mu;refine⟨_,_,xK (t1 _ _ Ms),xh L8,xW _,.inl ⟨_,_,rfl,rfl⟩,?_⟩;rw[xx];by_cases c:j4 ms s++kin ns s=[]
  ·rw[ao c];walk_at "D";exact⟨_,_,rfl,Mh⟩
  ·rw[aA c];walk_at "D";refine⟨v,ra,ps,ts,s,rfl,e.same (s2.trans Mh),by lia,Mg,fun HB sB=>?_⟩;have gt:¬nh ps s<=m:=fun Y=>c (by rw[(key Y).1,(key Y).2];rfl);walk_at "D";rw[aA gt];walk_at "D";exact⟨_,_,rfl,Mh.trans sB⟩
 rintro σ k ⟨w4,w5,rfl,o⟩;refine(?_:R _ _ _);subst U;walk_at "D";exact h k (s2.trans o)
theorem FE{st:Addr}(J:H a=some (.lst xs))(h:j8 H xs ds)(hs:H st=some o)(C:StO o):a≠st:=by
 rintro rfl;obtain⟨c,x,g,rfl,_⟩:=C;rw[J]at hs;have e:=HO.lst.inj (aJ hs);subst e;cases h with
 |cons r t=>obtain⟨b,e,_⟩:=r;cases e
noncomputable def tV(K:L3):Sp:=fun vs H Q _=>∃a ns,vs=[.ref a]/\Scr K H a ns/\∀H',Q (.bl true) H'
theorem vX(h:zC H H' t ps ts):jbl H' (.ref t) ps ts:=by
 obtain⟨l1,l2,xs,ys,_,_,_,h1,h2,D,T,K⟩:=h;exact⟨t,l1,l2,xs,ys,rfl,h1,h2,D,T,K⟩
theorem BG:∀{ns cs:List Int},(jD ns cs).length<=cs.length
 |[],[]=>ay _
 |[],_::_=>bS _
 |_::_,[]=>bS _
 |n::ns,c::cs=>by
  have:=BG (ns:=ns) (cs:=cs);rw[jD];split<;>simp only[List.length_cons]<;>lia
theorem JM(O:mD ps ts (.tup [.lst (hs.map jz),.lst (ds.map jM)])=true):∀d∈ds,(d.1,d.2.1)∈ts:=by
 rw[sv]at O;unfold mq at O;dsimp only at O;cases e1:ku ps (hs.map jz)with
 |none=>rw[e1]at O;cases O
 | some r=>
  cases e2:ko ts (-1,-1) (ds.map jM)with
  |none=>rw[e1,e2]at O;cases O
  |some k=>
   obtain⟨P,K⟩:=su e2;have l:k=ds:=(eM (f:=jM) (fun a b q=>by obtain⟨u,x,y⟩:=a;obtain⟨b1,b2,b3⟩:=b;simp only[jM]at q;cases q;rfl) |>.mp P).symm;subst l;exact fun d J=>(K d J).1
theorem BC{x:Lk}(h:GLk x):jmz x/\x.2.length<=2:=by
 cases h with
 |l p=>exact⟨.inl ⟨p,rfl⟩,by simp⟩
 |b u v=>exact⟨.inr (.inl ⟨u,v,rfl⟩),by simp⟩
 |t u v=>exact⟨.inr (.inr ⟨u,v,rfl⟩),by simp⟩
theorem xu{ps ts:LY}{ds:LX}:∀(c:List Lk) (ins outs:List Int),kM ps ts ds ins outs c=true->∀x∈c,iL x∈ps.map (·.1)
 |[],_,_,_,_,h=>by cases h
 | x::c,ins,outs,h,y,O=>by
  rw[kM,aQ]at h;obtain⟨h1,h2⟩:=h;rcases aV.mp O with rfl|O
  ·unfold kJ at h1;rw[aQ]at h1;have l1:=h1.1;rcases sH l1 with⟨p,rfl⟩|⟨u,v,rfl⟩|⟨u,v,rfl⟩<;>unfold lK at l1
   ·exact aO ((aQ _ _).mp l1).1
   ·exact aO ((aQ _ _).mp ((aQ _ _).mp l1).1).2
   ·exact aO ((aQ _ _).mp ((aQ _ _).mp l1).1).2
  ·by_cases q:x.1=some wB
   ·rw[aI q]at h2;exact xu c _ _ h2 y O
   ·rw[aG q]at h2;exact xu c _ _ h2 y O
theorem AH(h:∀x∈c,iL x∈ps.map (·.1)):(∀n∈jI c,n∈ps.map (·.1))/\∀n∈jP c,n∈ps.map (·.1):=by
 refine⟨fun n S=>?_,fun n S=>?_⟩
 ·obtain⟨z,L,_,rfl⟩:=qV.mp S;exact h z L
 ·obtain⟨z,L,_,rfl⟩:=qZ.mp S;exact h z L
theorem CL(T:WebOk ps ts)(h:Rst ps ts r)(C:ChI ps ts (kQ ps ts r) c c.length)(r1:mP ms (jI c))(P:mP ns (jP c)):qj ps ts ms ns/\(∀n∈ms,n∈ps.map (·.1))/\∀is os:List Int,qj ps ts is os->(∀n∈is,n∈ps.map (·.1))->(∀n∈os,n∈ps.map (·.1))->j4 is ms=[]/\j4 os ns=[]:=by
 refine⟨⟨fun z b n S=>(vd T h C b).1 n ((r1.1 n).mp S),fun z b n S=>(vd T h C b).2 n ((P.1 n).mp S)⟩,fun n S=>(AH C.place).1 n ((r1.1 n).mp S),fun is os F hi M=>?_⟩;have t:=si T h;have i:=GY T h C t fun y a p O h1=>JT T h a.c (a.m _ t.c) p O h1;refine⟨pW.mpr fun n S=>?_,pW.mpr fun n S=>?_⟩
 ·obtain⟨p,O,e⟩:=av.mp (hi n S);refine(r1.1 n).mpr ?_;have:=(i p O).1.mpr (by rw[e];exact F.1 _ t n S);rwa[e]at this
 ·obtain⟨p,O,e⟩:=av.mp (M n S);refine(P.1 n).mpr ?_;have:=(i p O).2.mpr (by rw[e];exact F.2 _ t n S);rwa[e]at this
theorem HR{os:List Int}(F:qj ps ts is os)(r1:mP ms is)(P:mP ns os):qj ps ts ms ns:=⟨fun z b n S=>F.1 z b n ((r1.1 n).mp S),fun z b n S=>F.2 z b n ((P.1 n).mp S)⟩
theorem AM{B:List Int}(r:mP ms is)(h:j4 is B=[]):j4 ms B=[]:=pW.mpr fun n S=>pW.mp h n ((r.1 n).mp S)
theorem Fy(B:Blt mg)(D:DefAt K mg "law" (top 66) ["_law_script"] f fd)(NJ:Ok P w K mg base "_law_begun" (top 53) 1 ["_law_script","_law_k"] (A6 K))(NK:Ok P w K mg base "_law_laid" (top 58) 3 ["_law_state","_law_most"] Bd)(NL:Ok P w K mg base "_law_chain" (top 60) 2 ["_law_state","_law_web_here","_law_dues","_law_most"] CG)(NN:Ok P w K mg base "lets_fixed" (top 45) 6 ["web","thing"] Ba)(MZ:Ok P w K mg base "_law_own" (top 52) 1 ["_law_web_here"] Af)(MR:Ok P w K mg base "_law_right" (top 65) 2 ["_law_web_here","_law_fixed"] B5)(M3:Ok P w K mg base "fixed_by" (top 46) 2 ["chain"] wJ)(Nr:Ok P w K mg base "fixed_of" (top 50) 8 ["web"] Aj)(NA:Ok P w K mg base "_law_web" (top 56) 3 ["_law_state","_law_most"] Au)(NB:Ok P w K mg base "_law_turned" (top 64) 2 ["_law_state","_law_web_here"] Bl):FnOk P w K mg base iT 9 f fd ["_law_script"] (tV K):=by
 have d:FnScope ["_law_script","_law_k","_law_state","_law_web_here","_law_halves","_law_dues","_law_chain_here","_law_told","_law_side"] ["_law_script"] (lN (top 66)):=⟨rfl,rfl,rfl,by decide+kernel,rfl,by decide+kernel,by decide+kernel⟩;refine D.F.ok d (fun vs H Q E h=>?_) (fun NQ A NP s H vs Q E M h=>?_)
 ·obtain⟨a,ns,rfl,_⟩:=h;rfl
 obtain⟨a,ns,rfl,hs,h⟩:=h;have T:=jX M;have J:_<PySem.cLine:=aZ T;refine⟨_,(iy (jY bg rfl (nD rfl B.range (iJ (jZ (vY rfl) rfl B.max ff (iG iu (jZ (EV rfl) rfl B.min gg (iG (jZ yu rfl B.len ij (iJ (qv 0))) iu)))))) (jd 1 d.nd) (iy (iM 2 d.nd (iN NJ M (iG (qv 0) (qv 1)))) (iy (pM (iN NK M (iG (qv 2) iu)) (jQ (n:=3) rfl (iR (jd 3 d.nd) (iR (jd 4 d.nd) (iR (jd 5 d.nd) jF))))) (iy (iM 6 d.nd (iN NL M (jH (qv 2) (jH (qv 3) (iG (qv 5) iu))))) (iy (jt (jc ET (iN NN M (iG (iN MZ M (iJ (qv 3))) (jx (jH (qv 4) (iG (qv 5) (qv 6)))))) jT (ja _)) (iF (iS jT)) jv) (iy (jt (kf (kq (iN MR M (iG (qv 3) (iN M3 M (iJ (qv 6))))))) (iF (iS jT)) jv) (iy (iM 7 d.nd (iN Nr M (iJ (iN MZ M (iJ (qv 3)))))) (iy (jY bg rfl (nD rfl B.range (iJ iu)) (jd 8 d.nd) (iF (jt (jc (wz M.units) (mh (CpScope.of (N:=["_law_place","_law_told","_law_side"]) (src:=[none,some 7,some 8]) (by rfl)) rfl (jb (iE (iN M3 M (iJ (qv 6))) (qv 8))) (fun _ _ _ _=>(iV 0)) (fun _ _ _ _=>(kU (jc xI (qv 0) (iE (qv 1) (qv 2)) (by with_unfolding_all rfl)))) (fun _ _ _ _=>(qv 0))) (jW kF) (ja _)) (iF (iS jT)) jv))) (iy (jt (kf (kq (iN MR M (iG (qv 3) (qv 7))))) (iF (iS jT)) jv) (iy (iM 3 d.nd (iN NB M (iG (qv 2) (iN NA M (iG (qv 2) iu))))) (iF (jt (kf (kq (iN MR M (iG (qv 3) (iN Nr M (iJ (iN MZ M (iJ (qv 3))))))))) (iF (iS jT)) jv)))))))))))) (iF (iS jT))),?_⟩;refine iK fun R U=>?_;obtain⟨N,hN,NS⟩:∃N:Nat,N=(if(1:Int)<(if(6:Int)<(ns.length:Int)then 6 else(ns.length:Int))then(if(6:Int)<(ns.length:Int)then 6 else(ns.length:Int))else 1).toNat/\N<70:=⟨_,rfl,by split<;>split<;>lia⟩;refine kA (lE 0 N) H (fun R' sz=>?_) (oa (n:=N) (fun i σ H1=>∃v1 v2 v3 v4 v5 v6 v7 v8,σ=[some (.ref a),v1,v2,v3,v4,v5,v6,v7,v8]/\Scr K H1 a ns) ⟨none,none,none,none,none,none,none,none,rfl,hs⟩ ?_ ?_)
 ·unfold ni;walk_at "D";refine⟨a,_,rfl,.inl hs.sq,?_⟩;simp_arith[aa];refine⟨_,rfl,?_,?_,?_⟩
  ·split<;>split<;>lia
  ·split<;>split<;>lia
  ·rw [<- hN];exact sz
 ·rintro i σ H1 hi ⟨v1,v2,v3,v4,v5,v6,v7,v8,rfl,MF⟩;simp only[mw,List.set_cons_zero,List.set_cons_succ];refine iK fun R9 F'=>?_;walk_at "D";refine⟨a,0+(i:Int),ns,rfl,MF,by lia,by lia,fun st o M0 so=>?_⟩;have s2:=iD M0 o;have e2:upd H1 st o st=some o:=ir;have MM:=MF.tups s2.tups;generalize upd H1 st o=H2 at s2 e2 MM;walk_at "D";subst F';refine iK fun R9 F'=>?_;walk_at "D";refine⟨st,o,rfl,e2,so,fun t wv g da G dx Mv ms cs raw tw H3 o3 b3 e3 J' et e eh ph ed pd LA=>?_⟩;have Np:=MM.tups (b3.tups e2 so.imm);simp_arith[et,iH];have B':=LA.web;have Ma:=LA.stands;have kl:=BG (ns:=ms) (cs:=cs);have k9:(jD ms cs).length<=9:=by have:=LA.cl;have:=LA.hl;lia
  have dl:(ke ms tw raw).length<=200:=by have:=BB ms tw raw;have:=LA.len;lia
  clear LA kl et b3 MM e2 s2 M0 so MF;generalize jD ms cs=ps at e B' Ma k9;generalize lF ms cs raw=ts at e B' Ma;generalize jO ms cs Mv=qs at ph Ma;generalize ke ms tw raw=ds at pd Ma dl;have K':=JM Ma;obtain⟨_,MA⟩:=Dx B' Ma;subst F';refine iK fun R9 F'=>?_;walk_at "D";refine⟨st,wv,ps,ts,da,dx,ds,o3,rfl,e3,J',e,B',ed,pd,dl,K',fun ch xs c H4 o4 b4 e4 Mg _ Me MV NU MY MC=>?_⟩;have t4:=b4.tups e3 J'.imm;have M':=Np.tups t4;have W4:=e.but e3 J' b4;have Mx:=b4 _ _ (rP eh ph e3 J') eh;have A':=b4 _ _ (FE ed pd e3 J') ed;have M8:=Prs.tups t4 ph;have Nn:=j7 t4 pd;have M9:sL ps ts qs ds c=true:=by unfold sL pf;rw[Ma,MC];rfl
  have FC:qj ps ts (jI c) (jP c):=⟨fun z bz=>(vg B' (Dm B' Ma bz) bz c [] [] (fun n h=>by cases h) (fun n h=>by cases h) MC).1,fun z bz=>(vg B' (Dm B' Ma bz) bz c [] [] (fun n h=>by cases h) (fun n h=>by cases h) MC).2⟩;obtain⟨MP,Nj⟩:=AH (xu c [] [] MC);have gK:∀x∈c,jmz x:=fun x G=>(BC (MY x G)).1;have il:(jI c).length<=20:=by have:=sd c c.length;rw[aD]at this;lia
  have ol:(jP c).length<=20:=by have:=sm c c.length;rw[aD]at this;lia
  clear e eh ed ph pd b4 t4 Np e3 J';subst F';refine iK fun R9 F'=>?_;walk_at "D";refine⟨wv,ps,ts,rfl,W4,fun t5 H5 s5 Nq=>?_⟩;walk_at "D";intro p6 ND;generalize y:upd H5 p6 _=H6;obtain⟨q6,Ng⟩:=kc ND y;clear y;have G':=s5.trans q6;refine⟨.ref t5,ps,ts,p6,g,da,ch,qs,ds,c,rfl,(vX Nq).same q6,B',⟨Ng,⟨G,G' _ _ Mx,Prs.same G' M8⟩,⟨dx,G' _ _ A',j7 G'.tups Nn⟩,⟨xs,G' _ _ Me,Lks.tups MV G'.tups⟩⟩,dl,by lia,fun x G=>by have:=(BC (MY x G)).2;lia,fun H7 s7=>?_⟩;rw[M9];have Mt:=G'.trans s7;have W7:=W4.same Mt;have e7:=Mt _ _ e4;have Mp:=Mt _ _ Me;have MQ:=Lks.tups MV Mt.tups;have Ni:=M'.tups Mt.tups;clear Mx A' M8 Nn Nq q6 Ng G' s5 s7 Mt W4 e4 Me MV M' M9 Ma MC MY K';walk_at "D";rw[aG (by decide)];subst F';refine iK fun R9 F'=>?_;walk_at "D";refine⟨ch,xs,c,rfl,Mp,MQ,gK,by lia,fun t8 a8 b8 L' Mb H8 s8 _ _ _ Mo MJ MG Mm Mu=>?_⟩;walk_at "D";refine⟨wv,t8,a8,b8,L',Mb,ps,ts,_,rfl,W7.same s8,B',k9,Mo,MJ,MG,by have:=Mm.2;lia,by have:=Mu.2;lia,MA,HR FC Mm Mu,fun n S=>MP n ((Mm.1 n).mp S),fun H9 s9=>?_⟩;have Mi:=s8.trans s9;have W9:=W7.same Mi;have e9:=Mi _ _ e7;have Nh:=Mi _ _ Mp;have Na:=Lks.tups MQ Mi.tups;have Nc:=Ni.tups Mi.tups;clear Mo MJ MG Mm Mu s8 s9 Mi W7 e7 Mp MQ Ni;walk_at "D";subst F';refine iK fun R9 F'=>?_;walk_at "D";refine⟨wv,ps,ts,rfl,W9,fun tA HA sA Nm=>?_⟩;walk_at "D";refine⟨.ref tA,ps,ts,rfl,vX Nm,B',by lia,fun tB aB bB Mn Ml r c2 HB sB _ _ _ MD ME MB Mf CB Ms Mq=>?_⟩;have Mr:=sA.trans sB;have WB:=W9.same Mr;have eB:=Mr _ _ e9;have Nb:=Mr _ _ Nh;have Mw:=Lks.tups Na Mr.tups;have M7:=Nc.tups Mr.tups;obtain⟨FB,ML,M6⟩:=CL B' Mf CB Ms Mq;obtain⟨Nd,Nf⟩:=M6 _ _ FC MP Nj;have NG:=CB.len;have MX:Mn.length<=64:=by have:=Ms.2;have:=sd c2 c2.length;rw[aD]at this;lia
  have MU:Ml.length<=64:=by have:=Mq.2;have:=sm c2 c2.length;rw[aD]at this;lia
  clear sA sB Nm W9 e9 Nh Na Nc Mr Mf CB Ms Mq M6;subst F';refine iK fun R9 F'=>?_;refine kA (lE 0 2) HB (fun R' sz=>?_) (oa (n:=2) (fun k σ I=>∃w8,σ=[some (.ref a),some (.int (0+(i:Int))),some (.ref st),some wv,some (.ref g),some (.ref da),some (.ref ch),some (.ref tB),w8]/\Same HB I) ⟨_,rfl,fun _ _ q=>q⟩ ?_ ?_)
  ·unfold ni;walk_at "D";exact⟨_,rfl,by lia,by lia,by simpa using sz⟩
  ·rintro k σ I F ⟨w8,rfl,d⟩;have Nv:∃(X Y:Addr) (P Q0:List Int),(∀a8 b8:Addr,∃Z:Addr,Z=(if k=0 then a8 else b8)/\jh [V.ref a8,V.ref b8] (0+(k:Int))=some (.ref Z))/\jh [V.ref aB,V.ref bB] (0+(k:Int))=some (.ref Y)/\HB Y=some (.lst (Q0.map V.int))/\(∀L' Mb,mP L' (jI c)->mP Mb (jP c)->j4 (if k=0 then L' else Mb) Q0=[]):=by
    have MN:k=0\/k=1:=by lia
    rcases MN with rfl|rfl
    ·exact⟨aB,aB,Mn,Mn,fun a8 b8=>⟨a8,rfl,iW⟩,iW,ME,fun L' Mb O v=>by rw[aI rfl];exact AM O Nd⟩
    ·exact⟨bB,bB,Ml,Ml,fun a8 b8=>⟨b8,rfl,jl⟩,jl,MB,fun L' Mb O v=>by rw[aG (by decide)];exact AM v Nf⟩
   obtain⟨_,Y,_,B,hZ,hY,eY,Mh⟩:=Nv;have Nz:=d _ _ MD;have NO:=d _ _ eY;walk_at "D";refine vf (ι:=Addr×List Int×Hp) (fun p=>i5 K p.1) (fun p=>p.2.2) (fun p=>Same I p.2.2/\p.2.2 p.1=some (.lst (p.2.1.map V.int))/\p.2.1.length<=64/\j4 p.2.1 B=[]) (fun R2 sq=>?_) (fun⟨Z,L,HD⟩ ⟨sD,eZ,M4,hL⟩ z C=>jn L.length (fun j l Hd=>∃m,l=[m,some (.ref tB),some (.int (0+(k:Int)))]/\Same HD Hd/\Hd z=some (.lst ((j4 (L.take j) B).map V.int))) ⟨none,rfl,iD C _,ir⟩ ?_ ?_)
   ·unfold i8;walk_at "D";refine⟨ch,xs,c,rfl,d _ _ Nb,Lks.tups Mw d.tups,gK,by lia,fun t8 a8 b8 L' Mb H8 s8 _ _ _ Mo MJ MG Mm Mu=>?_⟩;obtain⟨Z,eZ,Ny⟩:=hZ a8 b8;simp_arith[iH,Mo,Ny];have M5:H8 Z=some (.lst ((if k=0 then L' else Mb).map V.int)):=by
     rw[eZ];split
     ·exact MJ
     ·exact MG
    refine⟨Z,rfl,⟨_,SqL.of M5⟩,sq ⟨Z,if k=0 then L' else Mb,H8⟩ ⟨s8,M5,?_,Mh L' Mb Mm Mu⟩⟩;dsimp only;split
    ·have:=Mm.2;lia
    ·have:=Mu.2;lia
   ·rintro j l Hd W ⟨m,rfl,sQ,i'⟩;dsimp only at sD eZ M4 hL W i' sQ;have b:SqL K Hd Z (L.map V.int):=SqL.of (sQ _ _ eZ);have x1:(L.map V.int)[j]? =some ((L.map V.int)[j]'(by rw[aa];lia)):=gE _;refine⟨⟨_,_,b,x1⟩,?_⟩;rintro y' H' ⟨rfl,u⟩;obtain⟨n,S,rfl⟩:=ur (u _ b);have ft:=rf (f:=fun x:Int=>!decide (x∈B)) S;have L8:(j4 (L.take j) B).length<=200:=bw (bq _ _) (by rw[aP];lia);unfold j4 at L8 i';have Nk:=sD.trans sQ;simp_arith[iH,Nk _ _ Nz,hY,Nk _ _ NO,nA,flat_ints,kD];unfold j4;by_cases cc:n∈B
    ·simp only[cc,ck,bK,aL,if_false,aS]at ft ⊢;exact⟨_,rfl,sQ,by rw[ft];exact i'⟩
    ·simp only[cc,cS,cI,if_true]at ft ⊢;refine⟨_,i',?_,_,rfl,i4 sQ C,?_⟩
     ·rw[aa];exact iU (by lia)
     ·rw[ir,ft,af];rfl
   rintro l HE ⟨m,rfl,sE,i'⟩;dsimp only at sD eZ M4 hL i' sE;refine⟨⟨_,SqL.of (sE _ _ eZ),by rw[aa];exact ay _⟩,?_⟩;rw[aD,hL]at i';walk_at "D";intro e1 Mz;generalize y:upd HE e1 _=HF;obtain⟨t1,Mj⟩:=kc Mz y;clear y;refine⟨_,_,xK (t1 _ _ i'),xh Mj,xW _,.inl ⟨_,_,rfl,rfl⟩,?_⟩;rw[xx,ao rfl];walk_at "D";exact⟨_,rfl,d.trans (sD.trans (sE.trans t1))⟩
  rintro σ HC ⟨w8,rfl,sC⟩;refine(?_:R9 _ _ _);subst F';refine iK fun R9 F'=>?_;walk_at "D";refine⟨wv,tB,aB,bB,Mn,Ml,ps,ts,_,rfl,WB.same sC,B',k9,sC _ _ MD,sC _ _ ME,sC _ _ MB,MX,MU,MA,FB,ML,fun HD sD=>?_⟩;have MW:=sC.trans sD;have eD:=MW _ _ eB;have NM:=M7.tups MW.tups;clear sC sD WB MD ME MB eB M7 MW Nb Mw FB ML Nd Nf MA FC MP Nj gK;walk_at "D";subst F';refine iK fun R9 F'=>?_;walk_at "D";refine⟨st,o4,8,rfl,eD,Mg,by decide,by decide,fun v2 HE oE NI L9 bE eE Nl W2 NC Nw NR Nu=>?_⟩;have Nx:=NM.tups (bE.tups eD Mg.imm);walk_at "D";refine⟨st,oE,v2,NI,L9,rfl,eE,Nl,W2,NC,Nw,by lia,fun v3 HF oF MT bF eF NT W3 MI Mc=>?_⟩;have NH:=Nx.tups (bF.tups eE Nl.imm);subst F';walk_at "D";refine⟨v3,MT,L9,rfl,W3,fun tG HG sG NF=>?_⟩;walk_at "D";refine⟨.ref tG,MT,L9,rfl,vX NF,MI,by lia,fun tB aB bB Mn Ml r c2 HB sB _ _ _ MD ME MB Mf CB Ms Mq=>?_⟩;obtain⟨FB,ML,_⟩:=CL MI Mf CB Ms Mq;have NG:=CB.len;have MX:Mn.length<=64:=by have:=Ms.2;have:=sd c2 c2.length;rw[aD]at this;lia
  have MU:Ml.length<=64:=by have:=Mq.2;have:=sm c2 c2.length;rw[aD]at this;lia
  walk_at "D";refine⟨v3,tB,aB,bB,Mn,Ml,MT,L9,_,rfl,W3.same (sG.trans sB),MI,by lia,MD,ME,MB,MX,MU,si MI Mf,FB,ML,fun HI sI=>?_⟩;walk_at "D";exact⟨_,_,_,_,_,_,_,_,rfl,NH.tups ((sG.trans sB).trans sI).tups⟩
 ·rintro σ H1 ⟨v1,v2,v3,v4,v5,v6,v7,v8,rfl,MF⟩;subst U;walk_at "D";exact h _
end
end
end My
set_option autoImplicit true
namespace My
open PySem L2
section
variable{K:L3}{st:Stmt}{sl:Array (Option Value)}{mg:L4}{l:PySem.W.OpenLaw}{od an:Option Addr}{x p0 q p1 p2:Str}{oc kV dc pm cd ct:Value}{f C fa:Addr}{h:Heap}
abbrev aT(K:L3)(x:Str)(f:Addr):Prop:=PySem.W.nsIn K mainGlobals x=some (some (.ref f))
abbrev zT(K:L3)(x:Str):Prop:=PySem.W.nsIn K mainGlobals x=some none
abbrev kT(K:L3)(f:Addr):Prop:=PySem.W.keepIn K (.ref f)=true
abbrev qT(K:L3)(x q:Str)(st:Stmt)(f:Addr):Prop:=∃(oc:Value) (od:Option Addr) (sl:Array (Option Value)) (kV dc pm:Value) (an:Option Addr) (cd ct:Value),K.lookup f=some ⟨oc,od,.func (PySem.W.fnOf x q (pQ st) (nZ st) (lN st) .none kV dc pm an cd ct),sl⟩/\PySem.W.codeIn K cd q=true/\kT K f
abbrev dT(K:L3)(x:Str)(st:Stmt):Prop:=∃f,aT K x f/\qT K x x st f
theorem dI(a:aT K x f)(l:K.lookup f=some ⟨oc,od,.func (PySem.W.fnOf x x (pQ st) (nZ st) (lN st) .none kV dc pm an cd ct),sl⟩)(c:PySem.W.codeIn K cd x=true)(k:kT K f):dT K x st:=⟨f,a,oc,od,sl,kV,dc,pm,an,cd,ct,l,c,k⟩
abbrev bT(x q:Str)(st:Stmt)(us:List Value)(bs:L5):Prop:=∀(kV dc pm:Value) (an:Option Addr) (cd ct:Value),bindArgs (PySem.W.fnOf x q (pQ st) (nZ st) (lN st) .none kV dc pm an cd ct) ⟨us,[]⟩=pure bs
theorem jk(X:K.In h)(G:h.Ns mainGlobals mg)(a:dT K x st)(ps:List Str)(b:∀us:List Value,us.length=ps.length->bT x x st us (ps.zip us)):∃f fd,DefAt K mg x st ps f fd/\∀s us,us.length=ps.length->BindsTo s fd ⟨us,[]⟩ (ps.zip us):=by
 obtain⟨f,a,oc,od,sl,kV,dc,pm,an,cd,ct,l,g,k⟩:=a;exact⟨f,_,⟨zN l g k,.all fun us h=>b us h _ _ _ _ _ _,c6 X G a⟩,fun s us h=>.of_eq (b us h _ _ _ _ _ _)⟩
abbrev mT(K:L3)(C:Addr)(x q:Str)(st:Stmt):Prop:=∃f,PySem.W.findIn K (.ref C) x=some (some (.ref f))/\PySem.W.isFn K (.ref f)=true/\qT K x q st f
theorem mI(a:PySem.W.findIn K (.ref C) x=some (some (.ref f)))(i:PySem.W.isFn K (.ref f)=true)(l:K.lookup f=some ⟨oc,od,.func (PySem.W.fnOf x q (pQ st) (nZ st) (lN st) .none kV dc pm an cd ct),sl⟩)(c:PySem.W.codeIn K cd q=true)(k:kT K f):mT K C x q st:=⟨f,a,i,oc,od,sl,kV,dc,pm,an,cd,ct,l,c,k⟩
theorem oy(a:mT K C x q st)(ps:List Str)(b:∀us:List Value,us.length=ps.length->bT x q st us (ps.zip us)):∃f fd,MthAt K C x q st ps f fd:=by
 obtain⟨f,a,i,oc,od,sl,kV,dc,pm,an,cd,ct,l,g,k⟩:=a;exact⟨f,_,zN l g k,.all fun us h=>b us h _ _ _ _ _ _,a,i,k⟩
theorem b1(h:∀u,bT x q st [u] [(p0,u)]:=by exact fun _ _ _ _ _ _ _=>rfl):∀us:List Value,us.length=1->bT x q st us ([p0].zip us):=by
 intro us e;rcases us with _|⟨u,_|_⟩<;>first|exact h u|simp at e
theorem b2(h:∀u c,bT x q st [u,c] [(p0,u),(p1,c)]:=by exact fun _ _ _ _ _ _ _ _=>rfl):∀us:List Value,us.length=2->bT x q st us ([p0,p1].zip us):=by
 intro us e;rcases us with _|⟨u,_|⟨c,_|_⟩⟩<;>first|exact h u c|simp at e
theorem b3(h:∀u c d,bT x q st [u,c,d] [(p0,u),(p1,c),(p2,d)]:=by exact fun _ _ _ _ _ _ _ _ _=>rfl):∀us:List Value,us.length=3->bT x q st us ([p0,p1,p2].zip us):=by
 intro us e;rcases us with _|⟨u,_|⟨c,_|⟨d,_|_⟩⟩⟩<;>first|exact h u c d|simp at e
theorem b4{v:Str}(h:∀u c d a,bT x q st [u,c,d,a] [(p0,u),(p1,c),(p2,d),(v,a)]:=by exact fun _ _ _ _ _ _ _ _ _ _=>rfl):∀us:List Value,us.length=4->bT x q st us ([p0,p1,p2,v].zip us):=by
 intro us e;rcases us with _|⟨u,_|⟨c,_|⟨d,_|⟨a,_|_⟩⟩⟩⟩<;>first|exact h u c d a|simp at e
theorem LP{w:World}(X:K.In h)(G:h.Ns mainGlobals mg)(Ov:mg "law"=some (.ref fa))(a0:dT K "is_whole" (top 7))(u:dT K "is_tuple_of" (top 8))(x:dT K "is_pair_of_wholes" (top 9))(y:dT K "is_list_up_to" (top 10))(a4:dT K "marked" (top 11))(a5:dT K "place_stands" (top 20))(a6:dT K "tie_stands" (top 21))(a7:dT K "look_at_places" (top 22))(a8:dT K "look_at_ties" (top 23))(a9:dT K "look_at_web" (top 24))(OI:dT K "is_place" (top 25))(OG:dT K "are_places" (top 26))(OV:dT K "nears_in" (top 27))(OU:dT K "halves_stand" (top 29))(Ol:dT K "is_due" (top 30))(Oy:dT K "due_at" (top 31))(OM:dT K "dues_stand" (top 32))(OP:dT K "cost_in_halves" (top 33))(Ow:dT K "paper_stands" (top 34))(Od:dT K "doubled" (top 35))(OH:dT K "dues_flowing" (top 36))(OW:dT K "halves_reached" (top 37))(Ox:dT K "told_paper" (top 38))(Ou:dT K "loose_places" (top 41))(Ot:dT K "tied_by_dues" (top 42))(OA:dT K "is_link" (top 43))(Oc:dT K "chain_stands" (top 44))(Oq:dT K "lets_fixed" (top 45))(Oh:dT K "fixed_by" (top 46))(OB:dT K "links_from" (top 47))(Oe:dT K "chain_for" (top 48))(Of:dT K "fixed_paper" (top 49))(Oz:dT K "fixed_of" (top 50))(Oj:dT K "_law_own" (top 52))(OJ:dT K "_law_begun" (top 53))(OC:dT K "_law_take" (top 54))(OK:dT K "_law_places" (top 55))(OE:dT K "_law_web" (top 56))(OX:dT K "_law_priced" (top 57))(Oi:dT K "_law_laid" (top 58))(OR:dT K "_law_next" (top 59))(Om:dT K "_law_chain" (top 60))(OO:dT K "_law_sets" (top 61))(On:dT K "_law_cost" (top 62))(Ob:dT K "_law_turned" (top 64))(OT:dT K "_law_right" (top 65))(OF:dT K "law" (top 66))(NX:zT K "len")(V:zT K "isinstance")(N4:zT K "all")(N6:zT K "min")(NU:zT K "list")(NT:zT K "dict")(N5:zT K "int")(NS:zT K "bool")(N1:zT K "str")(NR:zT K "tuple")(NO:zT K "range")(Nr:zT K "enumerate")(NV:zT K "zip")(NW:zT K "max")(NZ:zT K "any")(N7:zT K "sum")(NJ:zT K "sorted")(NY:zT K "set")(S:PySem.W.nsIn K mainGlobals "MOST_PLACES"=some (some (.int 40 c1)))(Np:PySem.W.nsIn K mainGlobals "MOST_TIES"=some (some (.int 120 c2)))(N:PySem.W.nsIn K mainGlobals "LAST_PLACE"=some (some (.int 999 c3)))(Nk:PySem.W.nsIn K mainGlobals "MOST_PRICE"=some (some (.int 1000000000000 c4)))(aN:aT K "Net" C_Net)(OL:PySem.W.plainGet K C_Net Str.empty=true)(OQ:PySem.W.hasDictIn K C_Net=true)(Os:PySem.W.plainOver K C_Net=true)(OS:PySem.W.findIn K (.ref C_Net) "__setattr__"=some (some (.builtin "object.__setattr__")))(ON:PySem.W.makesIn K C_Net=true)(Og:kT K C_Net)(Nv:PySem.W.findIn K (.ref C_Net) "ways_from"=some none)(NN:PySem.W.findIn K (.ref C_Net) "heads"=some none)(NQ:PySem.W.findIn K (.ref C_Net) "rooms"=some none)(ND:PySem.W.nsIn K mainGlobals "SOURCE"=some (some (.int 0 ee1)))(NP:PySem.W.nsIn K mainGlobals "SINK"=some (some (.int 1 ee2)))(NK:PySem.W.nsIn K mainGlobals "FIRST"=some (some (.int 2 ee3)))(N8:PySem.W.nsIn K mainGlobals "MOST_LINKS"=some (some (.int 200 c5)))(m0:mT K C_Net "__init__" "Net.__init__" (kn 5 0))(I:mT K C_Net "put_way" "Net.put_way" (kn 5 1))(J:mT K C_Net "fill" "Net.fill" (kn 5 2))(m3:mT K C_Net "shortest" "Net.shortest" (kn 5 3))(m4:mT K C_Net "spread" "Net.spread" (kn 5 4))(m5:mT K C_Net "push" "Net.push" (kn 5 5))(m6:mT K C_Net "flows" "Net.flows" (kn 5 6))(m7:mT K C_Net "reached_from" "Net.reached_from" (kn 5 7))
 :∃fd:FuncData,(∀(s:Shared) (v:Value),BindsTo s fd ⟨[v],[]⟩ [("_law_script",v)])/\∀base:Heap,K.In base->base.Ns mainGlobals mg->FnOk l.prog w K mg base iT 9 fa fd ["_law_script"] (tV K):=by
 have B:Blt mg:=⟨bD X G NX,bD X G V,bD X G N4,bD X G N6,bD X G NU,bD X G NT,bD X G N5,bD X G NS,bD X G N1,bD X G NR,bD X G NO,bD X G Nr,bD X G NV,bD X G NW,bD X G NZ,bD X G N7,bD X G NJ,bD X G NY⟩;have C:Cst mg c1 c2 c3 c4:=⟨c6 X G S,c6 X G Np,c6 X G N,c6 X G Nk⟩;obtain⟨f0,d0,Mx,_⟩:=jk X G a0 ["thing"] b1;obtain⟨M,L,Mg,_⟩:=jk X G u ["thing","many"] b2;obtain⟨Q,R,Mf,_⟩:=jk X G x ["thing"] b1;obtain⟨r,d3,MQ,_⟩:=jk X G y ["thing","most"] b2;obtain⟨f4,d4,G',_⟩:=jk X G a4 ["places"] b1;obtain⟨f5,d5,MU,_⟩:=jk X G a5 ["thing","last","spent"] b3;obtain⟨f6,d6,M0,_⟩:=jk X G a6 ["thing","last","prices"] b3;obtain⟨f7,d7,MZ,_⟩:=jk X G a7 ["places"] b1;obtain⟨f8,d8,MT,_⟩:=jk X G a8 ["ties","prices"] b2;obtain⟨f9,d9,MC,_⟩:=jk X G a9 ["thing"] b1;obtain⟨Qg,B',Mv,_⟩:=jk X G OI ["prices","thing"] b2;obtain⟨O0,A',MG,_⟩:=jk X G OG ["prices","things"] b2;obtain⟨Pl,PX,MA,_⟩:=jk X G OV ["web"] b1;obtain⟨PP,PY,Ms,_⟩:=jk X G OU ["web","thing"] b2;obtain⟨O9,Qq,MI,_⟩:=jk X G Ol ["thing"] b1;obtain⟨OY,PM,M7,_⟩:=jk X G Oy ["dues"] b1;obtain⟨O2,PN,MP,_⟩:=jk X G OM ["web","thing"] b2;obtain⟨Qh,Qa,Nd,_⟩:=jk X G OP ["web","halves"] b2;obtain⟨Qi,Pg,M8,_⟩:=jk X G Ow ["web","thing"] b2;obtain⟨Pp,PQ,Nb,_⟩:=jk X G Od ["web"] b1;obtain⟨Pm,Mi,Na,_⟩:=jk X G OH ["web","flows"] b2;obtain⟨Qo,Mh,MW,_⟩:=jk X G OW ["web","reached"] b2;obtain⟨Pt,P2,Mr,_⟩:=jk X G Ox ["web"] b1;obtain⟨P5,Qd,MB,_⟩:=jk X G Ou ["web","dues"] b2;obtain⟨PJ,P8,Mu,_⟩:=jk X G Ot ["dues"] b1;obtain⟨Qc,OZ,MF,_⟩:=jk X G OA ["nears","thing"] b2;obtain⟨PZ,O5,MV,_⟩:=jk X G Oc ["web","dues","chain"] b3;obtain⟨PU,Ph,MN,_⟩:=jk X G Oq ["web","thing"] b2;obtain⟨O3,Qr,Mt,_⟩:=jk X G Oh ["chain"] b1;obtain⟨P4,Qs,MY,_⟩:=jk X G OB ["link","nears","paid_ties"] b3;obtain⟨O7,Mb,MM,_⟩:=jk X G Oe ["web","dues"] b2;obtain⟨Qe,Ma,M',_⟩:=jk X G Of ["web"] b1;obtain⟨Qj,Qb,Mw,_⟩:=jk X G Oz ["web"] b1;obtain⟨Pe,Pc,MX,_⟩:=jk X G Oj ["_law_web_here"] b1;obtain⟨Py,O4,M4,_⟩:=jk X G OJ ["_law_script","_law_k"] b2;obtain⟨Pf,Pu,M6,_⟩:=jk X G OC ["_law_state","_law_many"] b2;obtain⟨Ql,P0,Mz,_⟩:=jk X G OK ["_law_state","_law_count"] b2;obtain⟨Qp,Pw,Nc,_⟩:=jk X G OE ["_law_state","_law_most"] b2;obtain⟨P3,Po,M9,_⟩:=jk X G OX ["_law_state","_law_hs","_law_raw"] b3;obtain⟨Pd,PL,Mq,_⟩:=jk X G Oi ["_law_state","_law_most"] b2;obtain⟨Pj,N9,MR,_⟩:=jk X G OR ["_law_web_here","_law_dues","_law_chain_here"] b3;obtain⟨O8,Oa,ML,_⟩:=jk X G Om ["_law_state","_law_web_here","_law_dues","_law_most"] b4;obtain⟨Pq,Pk,MJ,_⟩:=jk X G OO ["_law_web_here"] b1;obtain⟨PR,Qn,MD,_⟩:=jk X G On ["_law_web_here","_law_some"] b2;obtain⟨PH,P6,ME,_⟩:=jk X G Ob ["_law_state","_law_web_here"] b2;obtain⟨O1,Qm,M5,_⟩:=jk X G OT ["_law_web_here","_law_fixed"] b2;obtain⟨Pa,Oo,M3,bl⟩:=jk X G OF ["_law_script"] b1;obtain⟨OD,Pn,F'⟩:=oy m0 ["self","many","arcs"] b3;obtain⟨PB,Qk,sq⟩:=oy I ["self","tail","head","room"] b4;obtain⟨Qf,P9,L9⟩:=oy J ["self","source","sink"] b3;obtain⟨O6,PD,i'⟩:=oy m3 ["self","source","sink"] b3;obtain⟨PF,P',sz⟩:=oy m4 ["self","source"] b2;obtain⟨Pb,PV,J'⟩:=oy m5 ["self","trail"] b2
 obtain⟨P7,P1,K'⟩:=oy m6 ["self"] b1;obtain⟨Px,Pz,L8⟩:=oy m7 ["self","source"] b2;cases Ov.symm.trans M3.m;refine⟨Oo,fun s v=>bl s [v] rfl,fun base _ _=>?_⟩;have C2:Cst2 mg ee1 ee2 ee3:=⟨c6 X G ND,c6 X G NP,c6 X G NK⟩;have T:NetC K mg C_Net:=⟨⟨OL,OQ,Os,OS⟩,Nv,NN,NQ,c6 X G aN⟩;have MK:Mk K C_Net OD:=⟨ON,F'.m.at_,F'.m.fn,Og⟩;have Z:DZ l.prog w base:=trivial;have e:=jf Z Mx (J7 B Mx);have b:=jf Z Mg (KO B Mg);have a:=jf Z Mf (Lc B Mf b e);have o:=jf Z MQ (K7 B MQ);have NL:=jf Z G' (IR B G');have E:=jf Z MU (K3 B C MU a);have Nl:=jf Z M0 (KF B M0 a);have n:=jf Z MZ (Lb B C MZ o E);have D:=jf Z MT (K0 B C MT o Nl);have i:=jf Z MC (KP B MC b n D);have Ny:=jf Z Mv (J6 B Mv e);have Nh:=jf Z MG (Kx B MG Ny);have q:=jf Z MA (Ke B MA);have Mp:=jf Z M7 (IP B M7);have m:=jf Z Nd (K9 B Nd);have A:=jf Z Na (KY B Na);have k:=jf Z MW (La B MW C2);have d:=jf Z MB (K1 B MB Mp);have g:=jf Z Mu (K5 B Mu);have NF:=jf Z MF (JF B MF Nh);have Ni:=jf Z MY (KD B MY);have NI:=jf Z MX (JG B MX);have Nn:=jf Z M4 (Kq B M4);have O:=jf Z M6 (Kc B M6);have W:=jf Z Mz (Kz B Mz O);have NH:=jf Z Nc (JH B Nc O W);have U:=jf Z M9 (KA B M9 O);have NC:=jf Z Mq (J9 B Mq O U);have Nz:=jf Z MR (Ka B MR);have Nm:=jf Z ML (Kr B ML O Nz);have Nw:=jf Z MJ (Kb B MJ);have NA:=jf Z MD (J8 B MD);have Nf:=jf Z ME (KB B ME O);have Nq:=jf Z M5 (Ks B M5 Nw NA);have f:=jf Z Mg (KU B Mg);have c:=jf Z Mf (Ld B Mf f e);have j:=jf Z G' (JC B G');have NB:=jf Z G' (JD B G');have Me:=JI (P:=l.prog) (w:=w) (base:=base) B sq T;have L':=IS (P:=l.prog) (w:=w) (base:=base) B sz T;have Mj:=Gn (P:=l.prog) (w:=w) (base:=base) B J' T;have Mm:=Hx (P:=l.prog) (w:=w) (base:=base) B K' T;have Mo:=K4 (P:=l.prog) (w:=w) (base:=base) B L8 sz L' T;have F:=jf Z Ms (KZ B Ms c);have NM:=jf Z MI (IQ B MI f e);have Ng:=jf Z MP (Ky B MP NM NL Mp);have t:=jf Z M8 (K2 B M8 f F Ng m);have z:=jf Z MV (KW B MV o q d j g NF (c6 X G N8));have Nj:=jf Z MN (KC B MN i b t z);have p:=jf Z Mt (J4 B Mt NB);have Nu:=jf Z MM (Kp B MM q g d j Ni);have Ml:=Gm (P:=l.prog) (w:=w) (base:=base) B F' sq Me T;have Mc:=Kf (P:=l.prog) (w:=w) (base:=base) B i' sz L' T;have NG:=jf Z Nb (JE B Nb F' Ml T C2 MK);have Mn:=Gk (P:=l.prog) (w:=w) (base:=base) B L9 i' Mc J' Mj T;have Y:=jf Z Mr (KG B Mr NG L9 Mn L8 Mo j k K' Mm A T C2);have H:=jf Z M' (KN B M' i Y Nu);have Nx:=jf Z Mw (J5 B Mw H p);exact Fy B M3 Nn NC Nm Nj NI Nq p Nx NH Nf
theorem D3{q:Program}{b:List Str}{E:(L4)->Heap->Prop}{P:World->Heap->Prop}{d:DefRec}{K:Params->L3}(S:l.most=some 63)(t:d.params.defaults=[])
  (r:∀(w:World) (h:Heap),P w h->(K w.params).In h)
  (F:∀(w:World) (mg:L4) (fa:Addr) (h:Heap),(K w.params).In h->h.Ns mainGlobals mg->mg d.name=some (.ref fa)->
   ∃fd:FuncData,(∀(s:Shared) (u:Value),BindsTo s fd ⟨[u],[]⟩ [("_law_script",u)])/\∀base:Heap,(K w.params).In base->base.Ns mainGlobals mg->FnOk l.prog w (K w.params) mg base iT 9 fa fd ["_law_script"] (tV (K w.params))):
  PySem.W.WalkO q b E P l.row.toRowW d [] (fun f vs=>PySem.call f vs):=
 L2.Bt (n:=63) (k:=9) (x:="_law_script") (CX:=fun _=>iT) (sp:=fun w=>tV (K w.params)) S (by decide) t ⟨rfl,by decide,by decide,rfl⟩ r F (fun _ _ a ns Z Q c=>⟨a,ns,rfl,Scr.of c Q,fun _=>rfl⟩) fun _ _ _ _ _ z=>z
end
end My
open PySem PySem.W PyProof.Rows
set_option maxRecDepth 100000 in
set_option maxHeartbeats 0 in
theorem PySem.Challenge.cw_touchall_k93_whole_fixed_in_every_set_holds : PySem.Challenge.rw_touchall_k93_whole_fixed_in_every_set.Holds := by
 refine MyHead ?_
 k_fill
 refine My.D3 (l:=PySem.Challenge.rw_touchall_k93_whole_fixed_in_every_set) rfl rfl (fun w h Y=>PySem.W.kIn_of Y) ?F
 case F =>
  intro w mg fa h KX G hmg
  refine' My.LP KX G hmg ?_ ?_ ?_ ?_ ?_ ?_ ?_ ?_ ?_ ?_ ?_ ?_ ?_ ?_ ?_ ?_ ?_ ?_ ?_ ?_ ?_ ?_ ?_ ?_ ?_ ?_ ?_ ?_ ?_ ?_ ?_ ?_ ?_ ?_ ?_ ?_ ?_ ?_ ?_ ?_ ?_ ?_ ?_ ?_ ?_ ?_ ?_ ?_ ?_ ?_ ?_ ?_ ?_ ?_ ?_ ?_ ?_ ?_ ?_ ?_ ?_ ?_ ?_ ?_ ?_ ?_ ?_ ?_ ?_ ?_ ?_ ?_ ?_ ?_ ?_ ?_ ?_ ?_ ?_ ?_ ?_ ?_ ?_ ?_ ?_ ?_ ?_ ?_ ?_ ?_ ?_
  any_goals first | k_is | ((first | refine' My.dI ?_ ?_ ?_ ?_ | refine' My.mI ?_ ?_ ?_ ?_ ?_) <;> first | k_is | (delta My.aT; k_is) | (delta My.kT; k_is) | skip) | (delta My.aT; k_is) | (delta My.kT; k_is) | (delta My.zT; k_is) | kernel_rfl | rfl
#print axioms PySem.Challenge.cw_touchall_k93_whole_fixed_in_every_set_holds
